import PyProof.Rows.All
import Wide.All
import OpenK.AllK
import Wide.FinOn
import PyProof.EqAt
import PyProof.EqKinds
import PyProof.TupleCall
import KE.BitLaws
import Open.SpecLaws
import KE.OsHead
import KE.OsGo
import PySem.Challenge.RW_sceneturns_s01_answers
set_option Elab.async false
set_option linter.all false
set_option maxRecDepth 100000
set_option maxHeartbeats 4000000
set_option compiler.extract_closed false
noncomputable section
abbrev Nf:=@List.length_map
abbrev Ng:=@List.getElem?_eq_getElem
abbrev Nh:=@List.getElem?_eq_some_iff
abbrev Ni:=@PySem.wpAny_bind
abbrev Nj:=@List.getD_eq_getElem?_getD
abbrev Nk:=@List.length_append
abbrev Nl:=@PySem.Heap.get?_push_of_some
abbrev Nm:=@Option.some.inj
abbrev Nn:=@List.mem_cons_of_mem
abbrev Np:=@List.mem_append
abbrev Nq:=@Nat.le_refl
abbrev Nr:=@List.mem_of_getElem?
abbrev Nt:=@if_neg
abbrev Nu:=@List.mem_singleton
abbrev Nv:=@Bool.and_eq_true
abbrev Nw:=@Int.toNat_natCast
abbrev Ny:=@List.length_singleton
abbrev Nz:=@if_pos
abbrev NA:=@decide_eq_true
abbrev NB:=@List.mem_cons_self
abbrev NC:=@List.getElem?_map
abbrev ND:=@List.mem_cons
abbrev NF:=@PySem.wpAny_pure
abbrev NG:=@of_decide_eq_true
abbrev NH:=@List.length_cons
abbrev NI:=@Bool.false_ne_true
abbrev NJ:=@List.getElem?_append_left
abbrev NL:=@decide_eq_false
abbrev NM:=@List.getElem?_append_right
abbrev NN:=@List.size_toArray
abbrev NO:=@PySem.boot_len
abbrev NP:=@PySem.Heap.get?_push_size
abbrev NQ:=@PySem.Heap.lt_size
abbrev NR:=@Nat.le_trans
abbrev NS:=@List.map_append
abbrev NT:=@Nat.zero_le
abbrev NU:=@PySem.PassesOwn.never
abbrev NV:=@List.append_assoc
abbrev NW:=@List.mem_range
abbrev NX:=@List.append_nil
abbrev NY:=@PySem.F.plainAttrs_list
abbrev NZ:=@List.mem_map
abbrev N0:=@List.findSome?_cons
abbrev N1:=@List.length_replicate
abbrev N2:=@List.length_take
abbrev N3:=@List.replicate_succ
abbrev N4:=@Nat.lt_of_lt_of_le
abbrev N5:=@List.flatMap_cons
abbrev N6:=@List.map_cons
abbrev N7:=@PySem.mem_of_lookup
abbrev N8:=@List.mem_append_right
abbrev N9:=@List.mem_flatMap
abbrev N':=@beq_eq_false_iff_ne
abbrev Oa:=@PySem.Paired.length
abbrev Ob:=@PySem.Heap.size_push
abbrev Oc:=@Nat.shiftRight_eq_div_pow
abbrev Od:=@List.drop_eq_getElem_cons
abbrev Oe:=@PySem.F.slot_list_append
abbrev Of:=@PySem.F.type_list_append
abbrev Og:=@Nat.mul_left_comm
abbrev Oh:=@Nat.mul_le_mul_right
abbrev Oi:=@List.any_eq_true
abbrev Oj:=@List.take_length
abbrev Ol:=@Nat.mul_assoc
abbrev Om:=@List.map_congr_left
abbrev Oo:=@Nat.ne_of_lt
abbrev Oq:=@List.getElem?_set_self
abbrev Ot:=@Bool.and_eq_true_iff
abbrev Ou:=@List.getElem?_cons_succ
abbrev Ov:=@List.flatMap_append
abbrev Ow:=@List.all_eq_true
abbrev Ox:=@List.foldl_append
abbrev Oy:=@List.getElem?_set_ne
abbrev Oz:=@List.getElem?_mapIdx
abbrev OA:=@Nat.pow_le_pow_right
abbrev OB:=@List.any_cons
abbrev OC:=@PySem.wpAny_setField_rec
abbrev OD:=@List.find?_cons
abbrev OE:=@List.contains_iff_mem
abbrev OF:=@Nat.sub_self
abbrev OG:=@List.take_succ
abbrev OH:=@List.length_eq_zero_iff
abbrev OI:=@Nat.le_of_lt
abbrev OJ:=@Nat.mul_comm
abbrev OK:=@Bool.false_eq_true
abbrev OL:=@List.find?_eq_none
abbrev OM:=@List.length_mapIdx
abbrev ON:=@List.mem_filter
abbrev OO:=@Bool.eq_iff_iff
abbrev OP:=@Nat.lt_irrefl
abbrev OQ:=@Nat.le_add_right
abbrev OR:=@PySem.F.slot_dict_itemiterator_next
abbrev OS:=@Nat.mul_le_mul_left
abbrev OT:=@PySem.wpAny_truthy_bool
abbrev OU:=@List.take_append_drop
abbrev OV:=@List.length_range
abbrev OW:=@Int.natCast_nonneg
abbrev OX:=@List.getElem?_replicate
abbrev OY:=@Nat.testBit_mod_two_pow
abbrev OZ:=@List.getElem?_of_mem
abbrev O0:=@Nat.ne_of_gt
abbrev O1:=@List.length_drop
abbrev O2:=@List.drop_eq_nil_of_le
abbrev O3:=@Nat.mul_add
abbrev O4:=@List.length_nil
abbrev O5:=@PySem.wpAny_typeNameOfWhole_itemiter
abbrev O6:=@List.map_map
abbrev O7:=@Nat.ble_eq_true_of_le
abbrev O8:=@List.getElem?_take_of_lt
abbrev O9:=@List.lookup_cons
abbrev Pa:=@List.cons_append
abbrev Pb:=@Nat.pow_add
abbrev Pc:=@Nat.pow_succ
abbrev Pd:=@PySem.wpAny_mono
abbrev Pe:=@List.any_eq_false
abbrev Pf:=@List.flatten_cons
abbrev Pg:=@Nat.lt_succ_of_lt
abbrev Ph:=@PySem.wpAny_field
abbrev Pj:=@Option.map_eq_some_iff
abbrev Pl:=@List.range_succ_eq_map
abbrev Pn:=@Option.map_eq_none_iff
abbrev Po:=@List.findSome?_eq_none_iff
abbrev Pp:=@PySem.wpAny_call_entry
abbrev Pq:=@Nat.le_of_eq
abbrev Pr:=@Nat.add_sub_cancel
abbrev Pu:=@PySem.wpAny_seqItems
abbrev Pw:=@PySem.wpAny_typeNameOf_itemiter
abbrev Px:=@Nat.eq_of_testBit_eq
abbrev Py:=@Option.isSome_iff_exists
abbrev Pz:=@PySem.wpAny_passesOwn
abbrev PB:=@List.nodup_cons
abbrev PD:=@List.foldl_cons
abbrev PF:=@Option.map_some
abbrev PH:=@List.replicate_append_replicate
abbrev PJ:=@PySem.Heap.SameBut.update
abbrev PK:=@PySem.wpAny_callSpecial?_slot
abbrev PL:=@Nat.lt_succ_self
abbrev PM:=@List.filter_cons
abbrev PN:=@List.take_append_of_le_length
abbrev PQ:=@List.take_zero
abbrev PR:=@PySem.wpAny_Call_Name_kw
abbrev PU:=@Nat.eq_zero_or_pos
abbrev PV:=@List.length_set
abbrev PX:=@Nat.zero_add
abbrev PY:=@Nat.lt_or_ge
abbrev PZ:=@Nat.not_lt_zero
abbrev P0:=@Nat.add_mul
abbrev P1:=@Nat.le_of_ble_eq_true
abbrev P2:=@Int.zero_add
abbrev P4:=@Nat.testBit_two_pow_sub_one
abbrev P5:=@Nat.pow_pos
abbrev P6:=@Nat.testBit_two_pow_mul_add
abbrev P7:=@PySem.wpAny_pyIter_list
abbrev P8:=@PySem.wpAny_newObj_type
abbrev P9:=@List.mem_append_left
abbrev P':=@List.dropLast_concat
abbrev Qa:=@if_false
abbrev Qb:=@PySem.wpAny_isInstance
abbrev Qc:=@List.ext_getElem
abbrev Qe:=@forall_eq_or_imp
abbrev Qg:=@PySem.Paired.snoc
abbrev Qh:=@List.length_reverse
abbrev Qi:=@PySem.wpAny_holding
abbrev Qj:=@if_true
abbrev Qk:=@PySem.wpAny_specialOf
abbrev Ql:=@Nat.lt_of_le_of_lt
abbrev Qn:=@Bool.not_true
abbrev Qo:=@List.all_append
abbrev Qp:=@Bool.true_and
abbrev Qq:=@Int.ofNat.inj
abbrev Qr:=@PySem.Calls.callWith_builtin
abbrev Qs:=@PySem.wpAny_isOneOf_itemiter
abbrev Qt:=@List.getElem_replicate
abbrev Qu:=@List.flatMap_singleton
abbrev Qv:=@PySem.wpAny_nextOf_list_item
abbrev Qw:=@Nat.le_of_succ_le
abbrev Qx:=@decide_eq_true_eq
abbrev Qy:=@PySem.F.slot_tuple_hash
abbrev Qz:=@PySem.wpAny_dictEntries
abbrev QA:=@List.reverse_cons
abbrev QB:=@Bool.and_false
abbrev QC:=@List.forIn_nil
abbrev QD:=@Nat.mul_le_mul
abbrev QE:=@PySem.W.methodCall_KW
abbrev QF:=@PySem.Heap.get?_update_self
abbrev QG:=@List.getElem?_eq_none
abbrev QH:=@PySem.isSubtype_tuple_tuple
abbrev QI:=@List.findSome?_append
abbrev QJ:=@List.mem_iff_getElem?
abbrev QK:=@Nat.add_zero
abbrev QL:=@Nat.mul_zero
abbrev QM:=@Nat.succ.inj
abbrev QN:=@PySem.wpAny_pyIter_zip
abbrev QO:=@beq_self_eq_true
abbrev QP:=@PySem.wpAny_forIn_list
abbrev QQ:=@List.getElem_map
abbrev QR:=@Nat.zero_testBit
abbrev QT:=@Nat.div_lt_of_lt_mul
abbrev QU:=@Bool.or_false
abbrev QV:=@PySem.W.mg_of
abbrev QW:=@PySem.W.mem_lookup
abbrev QX:=@List.filterMap_cons
abbrev QY:=@PySem.wpAny_execs_nil
abbrev QZ:=@PySem.W.plainGet_of
abbrev Q0:=@List.forIn_cons
abbrev Q1:=@PySem.pushCells_keeps
abbrev Q2:=@Bool.or_eq_true
abbrev Q3:=@PySem.F.slot_tuple_eq
abbrev Q4:=@PySem.size_of_entries
abbrev Q5:=@List.range_succ
abbrev Q6:=@Nat.one_mul
abbrev Q7:=@Nat.pow_le_pow_left
abbrev Q8:=@PySem.F.slot_zip_next
abbrev Q9:=@Nat.testBit_two_pow
abbrev Ra:=@Nat.div_add_mod
abbrev Rb:=@List.getElem?_range
abbrev Rc:=@List.mem_filterMap
abbrev Rf:=@PySem.W.callWith_K
abbrev Rg:=@Nat.mul_succ
abbrev Rh:=@List.find?_map
abbrev Ri:=@Nat.testBit_or
abbrev Rj:=@beq_iff_eq
abbrev Rk:=@PySem.wpAny_rule
abbrev Rl:=@Option.isSome_map
abbrev Rm:=@List.ext_getElem?
abbrev Rn:=@Nat.add_assoc
abbrev Ro:=@List.flatMap_nil
abbrev Rp:=@Nat.div_eq_of_lt
abbrev Rq:=@Nat.add_comm
abbrev Rr:=@List.any_nil
abbrev Rt:=PySem.W.Frag
abbrev Ru:=PySem.Str->Option PySem.Value
abbrev Rv:=PySem.Value->PySem.Shared->Prop
namespace Hd
open PySem PySem.W PyProof.Rows
abbrev p:=PySem.Challenge.pw_sceneturns_s01_answers
def q:Program:=view p ((List.range 73).filter λi=>![0,24,37,42,46,48].contains i)
def mk(l:List Obj):Nat->Nat->Nat->BT
 |0,_,_=>.nil
 |f+1,a,b=>match l[b]? with
  |some o=>.node o (mk l f (2*a) (a+b)) (mk l f (2*a) (2*a+b))
  |none=>.nil
section
variable(w:World)(os:OsState)
def S0:Shared:=⟨boot_heap w.params,⟨[]⟩,boot_drawn,boot_toks,os⟩
def T0:SharedT:=⟨mk (boot_heap w.params).objs.toList 8 1 0,11,(boot_heap w.params).life,⟨[]⟩,boot_drawn,boot_toks,os⟩
def E:=Fast.tw10110043849684766642 Fast.tw14364793385576792824 p w 11 (some (.ref 6)) 0 4000 (T0 w os) (topStub p)
def F:Shared:=match E w os with
 |some (_,s,_,_)=>s.abs
 |none=>S0 w os
abbrev Xt(s:Shared):Bool:=xlAt q [] s&&recOk [] s
theorem l1:(E w os).isSome=true:=by kernel_rfl
theorem l2:(staticsOk (importedModules p.main.body) (boot_heap w.params) (F w os).heap&&namesBound p (F w os).heap&&gensDone (F w os)&&laidKept (boot_heap w.params) (F w os).heap)=true:=by kernel_rfl
theorem l3:openSeen q [] (importedModules p.main.body) Xt true (F w os)=openGood q []:=by
 rw[Fast.te4187177175401517315];kernel_rfl
theorem Kz{tb:String->Option Builtin}{p:Program}{w:World}{m:Nat}{ann:Option Value}:∀{n:Nat}{s s':Shared}{t:Thread}{f:Flow}{c:Code}{q:Pos},segRun tb p w m ann 0 n s t=some (f,s',c,q)->topRun tb p w m ann n s t=some s'
 |0,_,_,_,_,_,_,h=>by cases h
 |n+1,s,s',t,f,c,q,h=>by
  have e:through t=(endAt 0 t).isSome:=by
   obtain⟨cur,code,pos,st⟩:=t;cases st with
   |nil=>
    cases cur with
    |pure x=>cases x<;>rfl
    |_=>rfl
   |cons=>rfl
  unfold segRun at h;unfold topRun;cases he:endAt 0 t with
  |some x=>rw[he]at h e;rw[e];cases h;rfl
  |none=>
   rw[he]at h e;rw[e];cases hk:stepOk m ann t with
   |false=>rw[hk]at h;cases h
   |true=>
    rw[hk]at h;cases hs:step (denote tb) p w s t with
    |halt=>rw[hs]at h;cases h
    |go s₂ t₂=>rw[hs]at h;exact Kz h
theorem GZ:topRun treeTable p w 11 (some (.ref 6)) 4000 (S0 w os) (topStub p)=some (F w os):=by
 have a:(T0 w os).abs=S0 w os:=by kernel_rfl
 obtain⟨⟨f,s,c,x⟩,h⟩:=Py.mp (l1 w os);have e:segRunT treeTable p w 11 (some (.ref 6)) 0 4000 (T0 w os) (topStub p)=some (f,s,c,x):=by
  rw[Fast.te10110043849684766642,Fast.te14364793385576792824];exact h
 have r:=Kz (segRun_of e);rw[a]at r;rw[r];unfold F;rw[h]
end
def osW(w:World):OsState:=match fencedOpening treeTable p w 4000 with
 |some s=>s.os
 |none=>(start p).1.os
def G(w:World):Heap:=(F w (osW w)).heap
theorem left:LeftO p q [] Xt Shared.heap G 4000:=by
 intro w;have z:((boot_heap w.params).isNs mainGlobals&&(⟨[]⟩:Array GenState).size==0,(boot_heap w.params).objs.size,(boot_heap w.params).nsMap mainGlobals "__annotations__")=(true,11,some (.ref 6)):=by kernel_rfl
 obtain⟨s,hs,hv⟩:=Pj.mp (boot_open (p:=p) (N:=4000) (by kernel_rfl) rfl (λs=>by kernel_rfl) w);have eo:osW w=s.os:=by unfold osW;rw[hs]
 have es:s=S0 w (osW w):=by
  rw[eo];obtain⟨h,gs,d,k,os⟩:=s;cases hv;rfl
 have t:topFrom treeTable p w 4000 s=some (F w (osW w)):=by
  obtain⟨z1,z2,z3⟩:_/\_/\_:=by simpa only [Prod.mk.injEq]using z
  rw[es];unfold topFrom;show(match (boot_heap w.params).isNs mainGlobals&&(⟨[]⟩:Array GenState).size==0 with|true=>_|false=>_)=_;rw[z1];show Option.bind (topRun treeTable p w (boot_heap w.params).objs.size ((boot_heap w.params).nsMap mainGlobals "__annotations__") 4000 (S0 w (osW w)) (topStub p)) _=_;rw[z2,z3,GZ];show(match staticsOk (importedModules p.main.body) (boot_heap w.params) (F w (osW w)).heap&&namesBound p (F w (osW w)).heap&&gensDone (F w (osW w))&&laidKept (boot_heap w.params) (F w (osW w)).heap with|true=>_|false=>_)=_;rw[l2]
 unfold openEnds;rw[hs];show(topFrom treeTable p w 4000 s).map _=_;rw[t];exact congrArg some (Prod.ext (l3 w _) rfl)
def K(w:World):Frag:=match E w (osW w)with
 |some (_,s,_,_)=>(List.range s.n).filterMap λa=>(s.tree.get a).bind λo=>(alive o).map λo=>(a,o)
 |none=>[]
theorem QW{α:Type}{a:Nat}{o:α}:∀{l:List (Nat×α)},l.lookup a=some o->(a,o)∈l
 |[],h=>by cases h
 |(b,x)::l,h=>by
  by_cases e:a=b
  ·subst e;rw[List.lookup_cons_self]at h;cases h;exact .head _
  ·have n:(a==b)=false:=N'.mpr e;rw[O9,n]at h;exact .tail _ (QW h)
theorem inK(w:World):(K w).In (G w):=by
 intro a o h;unfold K at h;unfold G F;obtain⟨⟨f,s,c,x⟩,e⟩:=Py.mp (l1 w (osW w));rw[e]at h ⊢;obtain⟨b,hb,e⟩:=Rc.mp (QW h);cases g:s.tree.get b with
 |none=>rw[g]at e;cases e
 |some y=>
  rw[g]at e;obtain⟨z,hz,e⟩:=Pj.mp e;cases e;exact(abs_get (NW.mp hb) g).trans hz
end Hd
namespace L2
open PySem PySem.Spec PyProof.Rows
abbrev Key:=Sum Int Str
def IJ:Key->Value->Bool
 |.inl k,v=>Value.isInt k v
 |.inr x,v=>Value.isStrOf x v
def Mq(w:World):Key->Int
 |.inl k=>hashInt k
 |.inr x=>hashStr w x
theorem cQ:∀{k:Key}{v:Value},IJ k v=true->(∃i t,k=Sum.inl i/\v=Value.int i t)∨(∃x t,k=Sum.inr x/\v=Value.str x t)
 |.inl i,v,h=>by
  obtain⟨t,e⟩:=Value.isInt_shape (k:=i) (v:=v) h;exact .inl ⟨i,t,rfl,e⟩
 |.inr x,v,h=>by
  obtain⟨t,e⟩:=Value.isStrOf_shape (x:=x) (v:=v) h;exact .inr ⟨x,t,rfl,e⟩
theorem JG(a b:Int):decide ((Sum.inl a:Key)=Sum.inl b)=(a==b):=by
 by_cases e:a=b
 ·subst e;simp
 ·have h:¬(Sum.inl a:Key)=Sum.inl b:=λq=>e (Sum.inl.inj q);rw[NL h];exact(N'.mpr e).symm
theorem JD(a b:Str):decide ((Sum.inr a:Key)=Sum.inr b)=decide (a=b):=by
 by_cases e:a=b
 ·subst e;simp
 ·have h:¬(Sum.inr a:Key)=Sum.inr b:=λq=>e (Sum.inr.inj q);rw[NL h,NL e]
theorem JF(a:Int)(b:Str):decide ((Sum.inl a:Key)=Sum.inr b)=false:=NL (λq=>nomatch q)
theorem JE(a:Str)(b:Int):decide ((Sum.inr a:Key)=Sum.inl b)=false:=NL (λq=>nomatch q)
def Dn(prog:Program)(w:World):PySem.KeyKind prog w Key where
 is:=IJ
 hash:=Mq w
 inj:=λv a b ha hb=>by
  rcases cQ ha with⟨i,t,rfl,rfl⟩|⟨x,t,rfl,rfl⟩
  ·rcases cQ hb with⟨j,u,rfl,e⟩|⟨y,u,rfl,e⟩
   ·injection e with e1 _;rw[e1]
   ·exact nomatch e
  ·rcases cQ hb with⟨j,u,rfl,e⟩|⟨y,u,rfl,e⟩
   ·exact nomatch e
   ·injection e with e1 _;rw[e1]
 byValue:=λk v h=>by
  rcases cQ h with⟨i,t,rfl,rfl⟩|⟨x,t,rfl,rfl⟩<;>rfl
 pyHash:=λhv h=>by
  rcases cQ hv with⟨i,t,rfl,rfl⟩|⟨x,t,rfl,rfl⟩
  ·exact wpAny_pyHash_int h
  ·exact wpAny_pyHash_str h
 eqBool:=λhu hv h=>by
  rcases cQ hu with⟨i,t,rfl,rfl⟩|⟨x,t,rfl,rfl⟩
  ·rcases cQ hv with⟨j,u,rfl,rfl⟩|⟨y,u,rfl,rfl⟩
   ·rw[JG]at h;exact wpAny_eqBool_int h
   ·rw[JF]at h;exact SeqAt.EqAt.int_str i t y u _ _ _ _ h
  ·rcases cQ hv with⟨j,u,rfl,rfl⟩|⟨y,u,rfl,rfl⟩
   ·rw[JE]at h;exact SeqAt.EqAt.str_int x t j u _ _ _ _ h
   ·rw[JD]at h;exact wpAny_eqBool_str h
 «strs»:=λk x t v h=>by
  rcases cQ h with⟨i,u,rfl,e⟩|⟨y,u,rfl,e⟩
  ·exact nomatch e
  ·injection e with e1 _;subst e1;cases v<;>rfl
inductive V where
 |non|bl (b:Bool)|int (i:Int)|str (x:Str)|byt (b:Array UInt8)|flt (b:UInt64)|ref (a:Addr)|ty (n:String)
 deriving DecidableEq
def RelV:V->Value->Prop
 |.non,u=>u=Value.none
 |.bl b,u=>u=Value.bool b
 |.int i,u=>∃t,u=Value.int i t
 |.str x,u=>∃t,u=Value.str x t
 |.byt b,u=>∃t,u=Value.bytes b t
 |.flt b,u=>∃t,u=Value.float b t
 |.ref a,u=>u=Value.ref a
 |.ty n,u=>u=Value.type n
abbrev Vals:List V->List Value->Prop:=Paired RelV
variable{us:List Value}
theorem Vals.length{xs:List V}(r:Vals xs us):xs.length=us.length:=Oa r
theorem Vals.get:∀{xs:List V}{us:List Value}{i:Nat}{x:V},Vals xs us->xs[i]?=some x->∃u,us[i]?=some u/\RelV x u
 |_,_,_,_,.nil,e=>by simp at e
 |_,_,0,_,.cons r _,e=>by simp at e;subst e;exact⟨_,rfl,r⟩
 |_,_,i+1,x,.cons _ t,e=>by
  obtain⟨u,h1,h2⟩:=Vals.get (i:=i) (x:=x) t (by simpa using e);exact⟨u,by simpa using h1,h2⟩
theorem Vals.set{x:V}{u:Value}(r:RelV x u):∀{xs:List V}{us:List Value}(i:Nat),Vals xs us->Vals (xs.set i x) (us.set i u)
 |_,_,_,.nil=>.nil
 |_,_,0,.cons _ t=>.cons r t
 |_,_,i+1,.cons q t=>.cons q (Vals.set r i t)
theorem Vals.append:∀{xs ys:List V}{us ws:List Value},Vals xs us->Vals ys ws->Vals (xs++ys) (us++ws)
 |_,_,_,_,.nil,s=>s
 |_,_,_,_,.cons r t,s=>.cons r (Vals.append t s)
theorem Vals.take:∀{xs:List V}{us:List Value}(n:Nat),Vals xs us->Vals (xs.take n) (us.take n)
 |_,_,0,_=>.nil
 |_,_,_+1,.nil=>.nil
 |_,_,n+1,.cons r t=>.cons r (Vals.take n t)
theorem Vals.drop:∀{xs:List V}{us:List Value}(n:Nat),Vals xs us->Vals (xs.drop n) (us.drop n)
 |_,_,0,r=>r
 |_,_,_+1,.nil=>.nil
 |_,_,n+1,.cons _ t=>Vals.drop n t
def rC:Option V->Option Value->Prop
 |some v,some u=>RelV v u
 |none,none=>True
 |_,_=>False
def KV{κ:Type}:List (κ×V)->List (κ×Value)->Prop:=Paired λ(p:κ×V) (q:κ×Value)=>p.1=q.1/\RelV p.2 q.2
def kV:Key->V
 |.inl i=>.int i
 |.inr x=>.str x
inductive HO where
 |lst (xs:List V)
 |tup (xs:List V)
 |dK (kvs:List (Key×V))|dT (kvs:List (List Key×V))
 |set (S:Int->Bool) (n:Nat)
 |ins (C dx:Addr) (fs:List (Str×V))
 |own (x:Addr)
 |xd (fs:List (Str×V))
 |met (f x:Addr)
 |rng (lo hi:Int)
 |frz (o:Obj) (u:HO)
 |tbl (ps:Array Value)
 |ext (Z:Heap->Prop)
abbrev Hp:=Addr->Option HO
def upd(H:Hp)(a:Addr)(o:HO):Hp:=λb=>if b=a then some o else H b
variable{H:Hp}{a:Addr}{o:HO}
theorem af:upd H a o a=some o:=by unfold upd;rw[Nz rfl]
variable{b:Addr}
theorem aB(h:b≠a):upd H a o b=H b:=by unfold upd;rw[Nt h]
theorem bJ{u:HO}(h:H a=some o)(h':H b=some u)(d:o≠u):a≠b:=by
 intro e;subst e;rw[h]at h';exact d (Nm h')
theorem ax(h:H a=some o)(h':H b=none):a≠b:=by
 intro e;subst e;rw[h]at h';cases h'
section
variable(P:Program)(w:World)
def cV(H:Hp)(h:Heap)(a:Addr):HO->Prop
 |.lst xs=>xs.length<=sizeLine/\∃(its:List Value) (n:Nat),Vals xs its/\h.get? a=some {cls:=.type "list",data:=.seq its.toArray n}
 |.tup xs=>xs.length<=sizeLine/\∃its:List Value,Vals xs its/\IsTup h a its.toArray
 |.dK kvs=>kvs.length<=sizeLine/\(a==sysModules)=false/\∃vs,KV kvs vs/\h.DictOf (Dn P w) a vs
 |.dT kvs=>kvs.length<=sizeLine/\(a==sysModules)=false/\∃xs:List (List Key×Addr×Value),
  Paired (λ(p:List Key×V) (q:List Key×Addr×Value)=>p.1=q.1/\H q.2.1=some (.tup (p.1.map kV))/\RelV p.2 q.2.2) kvs xs/\
  ∃o es ep,h.get? a=some o/\o.ExactDict/\o.data=.dict es ep/\es.toList=xs.map (entryOfKey (tupleKind (Dn P w)))/\(xs.map (·.1)).Nodup
 |.set S n=>h.SetOf (intKind P w) a S n
 |.ins C dx fs=>H dx=some (.own a)/\fs.length<=1000/\dx≠a/\h.get? a=some (PySem.W.instObj C dx)/\
  ∃mA,h.Ns1 dx mA/\(∀f,rC (fs.lookup f) (mA f))/\PySem.Within mA (fs.map (·.1))
 |.own _=>∃o,h.get? a=some o
 |.xd fs=>∃mA,h.Ns1 a mA/\∀f,rC (fs.lookup f) (mA f)
 |.rng lo hi=>∃t u v,h.get? a=some {cls:=.type "range",data:=.fields #[.int lo t,.int hi u,.int 1 v]}
 |.frz o u=>h.get? a=some o/\cV H h a u
 |.tbl ps=>h.get? a=some {cls:=.none,data:=.fields ps}
 |.met f x=>h.get? a=some (PySem.W.methodObj (.ref f) (.ref x))
 |.ext Z=>Z h/\(∃o,h.get? a=some o)/\∀h1 h2:Heap,Z h1->(∀o,h1.get? a=some o->h2.get? a=some o)->Z h2
def HOk(H:Hp)(h:Heap):Prop:=∀a o,H a=some o->cV P w H h a o
end
section
variable{P:Program}{w:World}{H H':Hp}{h h':Heap}{a:Addr}{o:HO}
theorem cV.lt(x:cV P w H h a o):a<h.objs.size:=by
 cases o with
 |lst xs=>obtain⟨_,_,_,_,e⟩:=x;exact NQ e
 |tup xs=>obtain⟨_,_,_,p⟩:=x;exact p.lt
 |dK kvs=>obtain⟨_,_,_,_,o,_,_,e,_⟩:=x;exact NQ e
 |dT kvs=>obtain⟨_,_,_,_,o,_,_,e,_⟩:=x;exact NQ e
 |set S n=>obtain⟨o,_,_,_,e,_⟩:=x;exact NQ e
 |ins C dx fs=>obtain⟨_,_,_,e,_⟩:=x;exact NQ e
 |own y=>obtain⟨_,e⟩:=x;exact NQ e
 |xd fs=>obtain⟨_,⟨_,_,_,e,_⟩,_⟩:=x;exact NQ e
 |rng lo hi=>obtain⟨_,_,_,e⟩:=x;exact NQ e
 |frz ob u=>obtain⟨e,_⟩:=x;exact NQ e
 |tbl ps=>exact NQ (show h.get? a=some _ from x)
 |met f y=>exact NQ (show h.get? a=some _ from x)
 |ext Z=>obtain⟨_,⟨_,e⟩,_⟩:=x;exact NQ e
theorem Paired.qS{α β:Type}{F G:α->β->Prop}:∀{l₁:List α}{l₂:List β},Paired F l₁ l₂->(∀a b,F a b->G a b)->Paired G l₁ l₂
 |_,_,.nil,_=>.nil
 |_,_,.cons r t,f=>.cons (f _ _ r) (Paired.qS t f)
theorem cV.lW(x:cV P w H h a o)(k:∀b u,(b=a∨H b=some (.own a))->h.get? b=some u->h'.get? b=some u)
  (ho:∀b,H b=some (.own a)->H' b=some (.own a))(ht:∀b xs,H b=some (.tup xs)->H' b=some (.tup xs)):cV P w H' h' a o:=by
 induction o with
 |lst xs=>obtain⟨z,its,n,r,e⟩:=x;exact⟨z,its,n,r,k _ _ (.inl rfl) e⟩
 |tup xs=>obtain⟨z,its,r,ob,e,c⟩:=x;exact⟨z,its,r,ob,k _ _ (.inl rfl) e,c⟩
 |dK kvs=>obtain⟨z,y,vs,r,ob,es,ep,e,c⟩:=x;exact⟨z,y,vs,r,ob,es,ep,k _ _ (.inl rfl) e,c⟩
 |dT kvs=>
  obtain⟨z,y,xs,r,ob,es,ep,e,c⟩:=x;exact⟨z,y,xs,Paired.qS r λp q z=>⟨z.1,ht _ _ z.2.1,z.2.2⟩,ob,es,ep,k _ _ (.inl rfl) e,c⟩
 |set S n=>obtain⟨ob,es,ep,t,e,c⟩:=x;exact⟨ob,es,ep,t,k _ _ (.inl rfl) e,c⟩
 |ins C dx fs=>
  obtain⟨d,z,ne,e,mA,⟨od,es,ep,e2,c⟩,r⟩:=x;exact⟨ho _ d,z,ne,k _ _ (.inl rfl) e,mA,⟨od,es,ep,k _ _ (.inr d) e2,c⟩,r⟩
 |own y=>obtain⟨ob,e⟩:=x;exact⟨ob,k _ _ (.inl rfl) e⟩
 |xd fs=>obtain⟨mA,⟨od,es,ep,e,c⟩,r⟩:=x;exact⟨mA,⟨od,es,ep,k _ _ (.inl rfl) e,c⟩,r⟩
 |rng lo hi=>obtain⟨t,u,v,e⟩:=x;exact⟨t,u,v,k _ _ (.inl rfl) e⟩
 |frz ob u ih=>obtain⟨e,q⟩:=x;exact⟨k _ _ (.inl rfl) e,ih q⟩
 |tbl ps=>
  have e:h.get? a=some {cls:=.none,data:=.fields ps}:=x;show h'.get? a=some {cls:=.none,data:=.fields ps};exact k a _ (.inl rfl) e
 |met f y=>
  have e:h.get? a=some (PySem.W.methodObj (.ref f) (.ref y)):=x;show h'.get? a=some (PySem.W.methodObj (.ref f) (.ref y));exact k a _ (.inl rfl) e
 |ext Z=>obtain⟨p,⟨o,e⟩,st⟩:=x;exact⟨st _ _ p λo q=>k _ _ (.inl rfl) q,⟨o,k _ _ (.inl rfl) e⟩,st⟩
theorem HOk.lt(x:HOk P w H h)(e:H a=some o):a<h.objs.size:=(x a o e).lt
theorem HOk.fresh(x:HOk P w H h)(e:h.objs.size<=a):H a=none:=by
 cases q:H a with
 |none=>rfl
 |some u=>exact absurd (N4 (x.lt q) e) (OP _)
theorem HOk.kept(x:HOk P w H h)(k:∀b u,h.get? b=some u->h'.get? b=some u):HOk P w H h':=λa o e=>
 (x a o e).lW (λb u _ q=>k b u q) (λ_ q=>q) λ_ _ q=>q
theorem HOk.laid(x:HOk P w H h)(k:∀b u,h.get? b=some u->h'.get? b=some u)(hp:h.objs.size<=a)(new:cV P w (upd H a o) h' a o):HOk P w (upd H a o) h':=λb u e=>by
 have hn:=x.fresh hp;by_cases hb:b=a
 ·subst hb;rw[af]at e;cases e;exact new
 ·rw[aB hb]at e;exact(x b u e).lW (λc v _ q=>k c v q) (λc q=>by rw[aB (ax q hn)];exact q) λc xs q=>by rw[aB (ax q hn)];exact q
end
def Rd(H:Hp)(a:Addr)(u:HO):Prop:=H a=some u∨∃o,H a=some (.frz o u)
theorem Rd.ok{P:Program}{w:World}{h:Heap}{u:HO}(r:Rd H a u)(x:HOk P w H h):cV P w H h a u:=by
 rcases r with r|⟨o,r⟩
 ·exact x a u r
 ·obtain⟨_,q⟩:=x a _ r;exact q
def Mut:Option HO->Prop
 |some (.lst _)=>True
 |some (.dK _)=>True
 |some (.dT _)=>True
 |some (.set _ _)=>True
 |some (.ins _ _ _)=>True
 |some (.ext _)=>True
 |_=>False
section
variable{P:Program}{w:World}{H:Hp}{h h':Heap}{x e:Addr}{o':HO}
theorem HOk.write(ok:HOk P w H h)(mu:Mut (H x))(he:e=x∨H e=some (.own x))(k:∀b u,b≠e->h.get? b=some u->h'.get? b=some u)(heo:∃u,h'.get? e=some u)
  (new:cV P w (upd H x o') h' x o'):HOk P w (upd H x o') h':=λb u q=>by
 have KR:∀c y,H c=some (.own y)->c≠x:=λc y r z=>by subst z;rw[r]at mu;exact mu
 have Me:∀c xs,H c=some (.tup xs)->c≠x:=λc xs r z=>by subst z;rw[r]at mu;exact mu
 by_cases hb:b=x
 ·subst hb;rw[af]at q;cases q;exact new
 ·rw[aB hb]at q;by_cases hbe:b=e
  ·have q':H b=some (.own x):=by
    rcases he with z|z
    ·exact absurd (hbe.trans z) hb
    ·rw[hbe];exact z
   rw[q]at q';cases q';obtain⟨v,hv⟩:=heo;exact⟨v,by rw[hbe];exact hv⟩
  ·refine(ok b u q).lW (λc v hc r=>k c v ?_ r) (λc r=>by rw[aB (KR c b r)];exact r) λc xs r=>by rw[aB (Me c xs r)];exact r
   rcases hc with rfl|hc
   ·exact hbe
   ·rintro rfl;rcases he with z|z
    ·exact KR c b hc z
    ·rw[hc]at z;cases z;exact hb rfl
end
structure Un(fs ex:List Addr)(H H':Hp)(h h':Heap):Prop where
 keep:∀b o,h.get? b=some o->H b=none->b∉fs->b∉ex->h'.get? b=some o
 slot:∀b o,h.get? b=some o->H b=none->b∈fs->b∉ex->∃sl,h'.get? b=some {o with slots:=sl}
 free:∀b o,h.get? b=some o->H b=none->b∉ex->H' b=none
 there:∀b o,h.get? b=some o->b∉ex->∃o',h'.get? b=some o'
 zI:∀b xs,H b=some (.tup xs)->H' b=some (.tup xs)
 zb:∀b o u,H b=some (.frz o u)->H' b=some (.frz o u)
 zO:∀b ps,H b=some (.tbl ps)->∃more,H' b=some (.tbl (ps++more))
section
variable{fs fs' ex ex':List Addr}{H H1 H2:Hp}{h h1 h2 h':Heap}{a x e:Addr}{o:HO}
theorem Un.any(u:Un fs ex H H1 h h1){ob:Obj}(q:h.get? b=some ob)(n:H b=none)(hx:b∉ex):∃sl,h1.get? b=some {ob with slots:=sl}:=by
 by_cases hb:b∈fs
 ·exact u.slot b ob q n hb hx
 ·exact⟨ob.slots,u.keep b ob q n hb hx⟩
theorem Un.kept(k:∀b u,h.get? b=some u->h'.get? b=some u):Un fs ex H H h h':=
 ⟨λb ob q _ _ _=>k b ob q,λb ob q _ _ _=>⟨ob.slots,k b ob q⟩,λ_ _ _ n _=>n,λb ob q _=>⟨ob,k b ob q⟩,λ_ _ q=>q,λ_ _ _ q=>q,λ_ ps q=>⟨#[],by rw[q];simp⟩⟩
theorem Un.refl:Un fs ex H H h h:=Un.kept λ_ _ q=>q
theorem Un.laid(k:∀b u,h.get? b=some u->h'.get? b=some u)(hp:h.objs.size<=a)(hn:H a=none):Un fs ex H (upd H a o) h h' where
 keep:=λb u q _ _ _=>k b u q
 slot:=λb u q _ _ _=>⟨u.slots,k b u q⟩
 free:=λb u q n _=>by rw[aB (Oo (N4 (NQ q) hp))];exact n
 there:=λb u q _=>⟨u,k b u q⟩
 zI:=λb xs q=>by rw[aB (ax q hn)];exact q
 zb:=λb u xs q=>by rw[aB (ax q hn)];exact q
 zO:=λb ps q=>⟨#[],by rw[aB (ax q hn),q];simp⟩
theorem Un.write(mu:Mut (H x))(he:e=x∨H e=some (.own x))(k:∀b u,b≠e->h.get? b=some u->h'.get? b=some u)(heo:∃u,h'.get? e=some u):Un fs ex H (upd H x o) h h':=by
 have hx:∀b,H b=none->b≠x:=λb n z=>by subst z;rw[n]at mu;exact mu
 have hb:∀b,H b=none->b≠e:=λb n z=>by
  subst z;rcases he with r|r
  ·exact hx b n r
  ·rw[n]at r;cases r
 have hm:∀b u,H b=some u->¬Mut (some u)->b≠x:=λb u q nm z=>by subst z;rw[q]at mu;exact nm mu
 refine⟨λb u q n _ _=>k b u (hb b n) q,λb u q n _ _=>⟨u.slots,k b u (hb b n) q⟩,λb u q n _=>by rw[aB (hx b n)];exact n,λb u q _=>?_,
  λb xs q=>by rw[aB (hm b _ q λz=>z)];exact q,λb u xs q=>by rw[aB (hm b _ q λz=>z)];exact q,λb ps q=>⟨#[],by rw[aB (hm b _ q λz=>z),q];simp⟩⟩
 by_cases hbe:b=e
 ·subst hbe;exact heo
 ·exact⟨u,k b u hbe q⟩
end
def trk(h:Heap)(H:Hp):List Addr:=(List.range h.objs.size).filter λa=>(H a).isSome
def yZ(h:Heap)(H:Hp):Heap:=PySem.W.hideAll h (trk h H)
theorem EE(h:Heap)(H:Hp):(yZ h H).objs.size=h.objs.size:=PySem.W.hideAll_size _ _
variable{h:Heap}{o:Obj}
theorem Ga(e:h.get? b=some o)(n:H b=none):(yZ h H).get? b=some o:=
 PySem.W.hideAll_get _ e λhm=>by
  have q:(H b).isSome=true:=(ON.mp hm).2;rw[n]at q;simp at q
theorem Hr(e:(yZ h H).get? b=some o):h.get? b=some o/\H b=none:=by
 have e':h.get? b=some o:=PySem.W.of_hideAll (trk h H) e;refine⟨e',?_⟩;cases q:H b with
 |none=>rfl
 |some x=>
  have hm:b∈trk h H:=ON.mpr ⟨NW.mpr (NQ e'),by simp[q]⟩;have z:(yZ h H).get? b=none:=PySem.W.hideAll_none (trk h H) hm;rw[z]at e;cases e
structure Mod(K:Rt)(mg:Ru)(base:Heap):Prop where
 kin:K.In base
 glob:base.Ns mainGlobals mg
 blt:∃mb,base.Ns builtinsNs mb/\∀x:Str,x≠"__name__"->mb x=bootBuiltins x
 nolimit:base.NoLimit
structure Cx where
 prog:Program
 w:World
 K:Rt
 mg:Str->Option Value
 base:Heap
 A:Around
 N:List Str
 s_0:Shared
 H_0:Hp
 env:Env
 outer:List Env
 stack:List Env
 ex:List Addr
 fn:Str->Bool
 calm:Bool
 pn:List (Addr×Obj)
 xe:Value->Shared->Prop
def frs(l:List Env):List Addr:=l.filterMap (·.frame)
abbrev Cx.fs(X:Cx):List Addr:=frs X.outer
def Vis(sc:Scope)(x:Str):Prop:=sc.names.lookup x=some .local∨sc.names.lookup x=some .cell∨sc.names.lookup x=some .free
def Loc(sc:Scope)(x:Str):Prop:=sc.names.lookup x=some .local∨sc.names.lookup x=some .cell
def Look(env:Env)(h:Heap)(m:Ru)(x:Str)(u:Value):Prop:=
 (env.kindOf x=some .local/\m x=some u)∨((env.kindOf x=some .cell∨env.kindOf x=some .free)/\∃c,env.cells.lookup x=some c/\h.IsCell c (some u))
structure Cx.Ok(X:Cx):Prop where
 mod:Mod X.K X.mg X.base
 kind:X.env.scope.kind=.function
 glob:X.env.globals=mainGlobals
 blt:X.env.builtins=builtinsNs
 above:X.s_0.heap.objs.size<=X.env.locals
 inj:∀x y c,X.env.cells.lookup x=some c->X.env.cells.lookup y=some c->x=y
 has:∀x,(X.env.kindOf x=some .cell∨X.env.kindOf x=some .free)->∃c,X.env.cells.lookup x=some c
 cab:∀x c,X.fn x=true->X.env.cells.lookup x=some c->X.s_0.heap.objs.size<=c
 hd:X.calm=true->X.A.handled=none
 frames:X.A.frames=some X.stack
 stk:X.stack=X.outer∨(X.stack=X.env::X.outer/\X.env.frame=some X.env.locals)
 exf:∀b∈X.ex,b≠X.env.locals/\∀x c,X.env.cells.lookup x=some c->c≠b
 bs:∀b o,X.base.get? b=some o->X.s_0.heap.get? b=some o/\X.H_0 b=none
 bsz:X.base.objs.size<=X.s_0.heap.objs.size
 FG:∀b o,X.base.get? b=some o->b∉X.ex
 Gk:∀b∈X.ex,b∉X.fs
 tY:X.s_0.heap.FunFrames X.base X.outer
 frf:∀b∈X.fs,X.H_0 b=none
structure Inv(X:Cx)(pins:List (Addr×Obj))(σ:List (Option V))(H:Hp)(s:Shared):Prop where
 ok:X.Ok
 os:s.os=X.s_0.os
 bare:AllBare s.gens
 base:Un X.fs X.ex X.H_0 H X.s_0.heap s.heap
 loc:∃m,s.heap.Ns X.env.locals m/\∀(i:Nat)(x:Str)(v:V),X.N[i]?=some x->σ[i]?=some (some v)->Vis X.env.scope x->∃u,RelV v u/\Look X.env s.heap m x u
 cell:∀x c,X.env.cells.lookup x=some c->∃v,s.heap.IsCell c v
 free:H X.env.locals=none
 nu:∀x c,X.env.cells.lookup x=some c->H c=none
 pin:∀p∈X.pn++pins,s.heap.get? p.1=some p.2/\H p.1=none/\p.1≠X.env.locals/\p.1∉X.fs/\∀v,p.2.data≠.cell v
 hok:HOk X.prog X.w H s.heap
 len:σ.length=X.N.length
section
variable{X:Cx}{pins:List (Addr×Obj)}{σ:List (Option V)}{H H':Hp}{s:Shared}{h':Heap}
theorem Cx.Ok.Mg(ok:X.Ok)(e:X.base.get? b=some o):b∉X.fs:=λhb=>by
 have:=(ok.tY.mem hb).1;rw[e]at this;cases this
theorem Inv.bs(I:Inv X pins σ H s):∀b o,X.base.get? b=some o->s.heap.get? b=some o/\H b=none:=λb o e=>
 ⟨I.base.keep b o (I.ok.bs b o e).1 (I.ok.bs b o e).2 (I.ok.Mg e) (I.ok.FG b o e),I.base.free b o (I.ok.bs b o e).1 (I.ok.bs b o e).2 (I.ok.FG b o e)⟩
theorem Inv.bk(I:Inv X pins σ H s):∀b o,X.base.get? b=some o->s.heap.get? b=some o:=λb o e=>(I.bs b o e).1
theorem Inv.mod(I:Inv X pins σ H s):Mod X.K X.mg X.base:=I.ok.mod
theorem Inv.kIn(I:Inv X pins σ H s):X.K.In s.heap:=I.ok.mod.kin.keeps I.bk
theorem Inv.fr(I:Inv X pins σ H s):∃m,Fr X.base X.env.locals s.heap m:=
 let ⟨m,hn,_⟩:=I.loc
 ⟨m,hn,I.bk,NR I.ok.bsz I.ok.above⟩
theorem Inv.lt(I:Inv X pins σ H s):X.env.locals<s.heap.objs.size:=let ⟨_,hn,_⟩:=I.loc;hn.lt
theorem Inv.sz(I:Inv X pins σ H s):X.s_0.heap.objs.size<=s.heap.objs.size:=NR I.ok.above (OI I.lt)
theorem Inv.Mf(I:Inv X pins σ H s)(h:s.heap.objs.size<=a):a∉X.fs:=λhb=>by
 obtain⟨_,o,ho,_⟩:=I.ok.tY.mem hb;exact absurd (N4 (NQ ho) (NR I.sz h)) (OP _)
theorem Inv.cne(I:Inv X pins σ H s):∀x c,X.env.cells.lookup x=some c->c≠X.env.locals:=λx c e z=>by
 obtain⟨v,o,ho,hd⟩:=I.cell x c e;obtain⟨m,⟨o',es,ep,ho',hd',_⟩,_⟩:=I.loc;rw[z,ho']at ho;cases ho;rw[hd']at hd;cases hd
theorem Inv.tY(I:Inv X pins σ H s):s.heap.FunFrames X.base X.outer:=by
 have all:∀(l:List Env),(∀b∈frs l,b∈X.fs)->X.s_0.heap.FunFrames X.base l->s.heap.FunFrames X.base l:=by
  intro l;induction l with
  |nil=>intro _ _;trivial
  |cons env r ih=>
   intro hs hl;obtain⟨hk,⟨L,o,hf,hn,ho,hd⟩,hr⟩:=hl;have hL:L∈X.fs:=hs L (by unfold frs;rw[QX,hf];exact NB);obtain⟨sl,e⟩:=I.base.slot L o ho (I.ok.frf L hL) hL λz=>I.ok.Gk L z hL;exact⟨hk,⟨L,_,hf,hn,e,hd⟩,ih (λb hb=>hs b (by unfold frs;rw[QX,hf];exact Nn _ hb)) hr⟩
 exact all X.outer (λ_ hb=>hb) I.ok.tY
theorem Inv.stack(I:Inv X pins σ H s):s.heap.FunFrames X.base X.stack:=by
 rcases I.ok.stk with e|⟨e,hf⟩
 ·rw[e];exact I.tY
 ·rw[e];obtain⟨m,hn,_⟩:=I.loc;refine .cons (by rw[I.ok.kind];decide) hf hn ?_ I.tY;exact Heap.get?_none_of_le (NR I.ok.bsz I.ok.above)
theorem Inv.BL(I:Inv X pins σ H s):∀b∈frs X.stack,b∈X.env.locals::X.fs:=λb hb=>by
 rcases I.ok.stk with e|⟨e,hf⟩
 ·rw[e]at hb;exact Nn _ hb
 ·rw[e]at hb;unfold frs at hb;rw[QX,hf]at hb;exact hb
theorem Inv.C4(I:Inv X pins σ H s):∀b∈frs X.stack,H b=none:=λb hb=>by
 rcases ND.mp (I.BL b hb)with e|hb
 ·rw[e];exact I.free
 ·obtain⟨_,o,ho,_⟩:=I.ok.tY.mem hb;exact I.base.free b o ho (I.ok.frf b hb) λz=>I.ok.Gk b z hb
variable{g':Array GenState}{t':Nat}{d':Drawn}{ch:List Addr}
theorem Inv.step(I:Inv X pins σ H s)
  (hch:∀b∈ch,(b∈X.ex∨X.s_0.heap.objs.size<=b)/\b≠X.env.locals/\(∀x c,X.env.cells.lookup x=some c->c≠b)/\∀p∈X.pn++pins,p.1≠b)
  (keep:∀b o,b≠X.env.locals->b∉X.fs->b∉ch->s.heap.get? b=some o->H b=none->h'.get? b=some o)
  (slot:∀b o,b≠X.env.locals->b∈X.fs->b∉ch->s.heap.get? b=some o->H b=none->∃sl,h'.get? b=some {o with slots:=sl})(free:∀b o,b∉ch->s.heap.get? b=some o->H b=none->H' b=none)
  (there:∀b o,b∉ch->s.heap.get? b=some o->∃o',h'.get? b=some o')
  (zI:∀b xs,H b=some (.tup xs)->H' b=some (.tup xs))(zb:∀b o u,H b=some (.frz o u)->H' b=some (.frz o u))(zO:∀b ps,H b=some (.tbl ps)->∃more,H' b=some (.tbl (ps++more)))
  (ns:∀m,s.heap.Ns X.env.locals m->h'.Ns X.env.locals m)(hok:HOk X.prog X.w H' h')(hg:AllBare g'):
  Inv X pins σ H' {s with heap:=h',gens:=g',drawn:=d',toks:=t'}:=by
 have neL:∀b o,X.s_0.heap.get? b=some o->b≠X.env.locals:=λb o e=>Oo (N4 (NQ e) I.ok.above);have neC:∀b o,X.s_0.heap.get? b=some o->b∉X.ex->b∉ch:=λb o e hx hb=>by
  rcases(hch b hb).1 with z|z
  ·exact hx z
  ·exact absurd (N4 (NQ e) z) (OP _)
 have cellK:∀x c,X.env.cells.lookup x=some c->∀v,s.heap.IsCell c v->h'.IsCell c v:=λx c e v ⟨o,ho,hd⟩=>by
  have nch:c∉ch:=λz=>(hch c z).2.2.1 x c e rfl;by_cases hc:c∈X.fs
  ·obtain⟨sl,q⟩:=slot c o (I.cne x c e) hc nch ho (I.nu x c e);exact⟨_,q,hd⟩
  ·exact⟨o,keep c o (I.cne x c e) hc nch ho (I.nu x c e),hd⟩
 refine⟨I.ok,I.os,hg,⟨λb o e n hb hx=>?_,λb o e n hb hx=>?_,λb o e n hx=>?_,λb o e hx=>?_,λb xs e=>zI b xs (I.base.zI b xs e),λb o xs e=>zb b o xs (I.base.zb b o xs e),λb ps e=>?_⟩,?_,λx c e=>?_,?_,λx c e=>?_,λp hp=>?_,hok,I.len⟩
 ·exact keep b o (neL b o e) hb (neC b o e hx) (I.base.keep b o e n hb hx) (I.base.free b o e n hx)
 ·obtain⟨sl,e1⟩:=I.base.slot b o e n hb hx;obtain⟨sl',e2⟩:=slot b _ (neL b o e) hb (neC b o e hx) e1 (I.base.free b o e n hx);exact⟨sl',e2⟩
 ·obtain⟨o',e1⟩:=I.base.there b o e hx;exact free b o' (neC b o e hx) e1 (I.base.free b o e n hx)
 ·obtain⟨o',e1⟩:=I.base.there b o e hx;exact there b o' (neC b o e hx) e1
 ·obtain⟨m1,e1⟩:=I.base.zO b ps e;obtain⟨m2,e2⟩:=zO b _ e1;exact⟨m1++m2,by rw[e2,Array.append_assoc]⟩
 ·obtain⟨m,hn,hl⟩:=I.loc;refine⟨m,ns m hn,λi x v e1 e2 e3=>?_⟩;obtain⟨u,r,l⟩:=hl i x v e1 e2 e3;refine⟨u,r,?_⟩;rcases l with l|⟨k,c,e,z⟩
  ·exact .inl l
  ·exact .inr ⟨k,c,e,cellK x c e _ z⟩
 ·obtain⟨v,z⟩:=I.cell x c e;exact⟨v,cellK x c e v z⟩
 ·obtain⟨m,⟨o,_,_,ho,_⟩,_⟩:=I.loc;exact free _ o (λz=>(hch _ z).2.1 rfl) ho I.free
 ·obtain⟨v,o,ho,hd⟩:=I.cell x c e;exact free c o (λz=>(hch c z).2.2.1 x c e rfl) ho (I.nu x c e)
 ·obtain⟨e,n,ne,nf,d⟩:=I.pin p hp;have nch:p.1∉ch:=λz=>(hch p.1 z).2.2.2 p hp rfl;exact⟨keep p.1 p.2 ne nf nch e n,free p.1 p.2 nch e n,ne,nf,d⟩
theorem Inv.un(I:Inv X pins σ H s)(u:Un X.fs [] H H' s.heap h')(hok:HOk X.prog X.w H' h'):Inv X pins σ H' {s with heap:=h',toks:=t'}:=by
 obtain⟨m,⟨o,es,ep,ho,r⟩,_⟩:=id I.loc;obtain⟨sl,hL⟩:=u.any ho I.free (by simp);exact I.step (g':=s.gens) (d':=s.drawn) (ch:=[]) (λ_ z=>nomatch z) (λb o _ hb _ e n=>u.keep b o e n hb (by simp)) (λb o _ hb _ e n=>u.slot b o e n hb (by simp)) (λb o _ e n=>u.free b o e n (by simp)) (λb o _ e=>u.there b o e (by simp)) u.zI u.zb u.zO (λm' hm=>by
  obtain⟨o',es',ep',ho',r'⟩:=hm;rw[ho]at ho';cases ho';exact⟨_,es',ep',hL,r'⟩) hok I.bare
theorem Inv.call(I:Inv X pins σ H s)(u:Un (frs X.stack) ch H H' s.heap h')(hok:HOk X.prog X.w H' h')(hg:AllBare g')
  (hch:∀b∈ch,(b∈X.ex∨X.s_0.heap.objs.size<=b)/\b≠X.env.locals/\(∀x c,X.env.cells.lookup x=some c->c≠b)/\∀p∈X.pn++pins,p.1≠b):
  Inv X pins σ H' {s with heap:=h',gens:=g',drawn:=d',toks:=t'}:=by
 obtain⟨m,⟨o,es,ep,ho,r⟩,_⟩:=id I.loc;obtain⟨sl,hL⟩:=u.any ho I.free λz=>(hch _ z).2.1 rfl;exact I.step (ch:=ch) hch (λb o hL hb hc e n=>u.keep b o e n (λz=>(ND.mp (I.BL b z)).elim hL hb) hc) (λb o _ _ hc e n=>u.any e n hc) (λb o hc e n=>u.free b o e n hc) (λb o hc e=>u.there b o e hc) u.zI u.zb u.zO (λm' hm=>by
  obtain⟨o',es',ep',ho',r'⟩:=hm;rw[ho]at ho';cases ho';exact⟨_,es',ep',hL,r'⟩) hok hg
theorem Inv.turned{it:Addr}(I:Inv X pins σ H s)(k:∀b o,b≠it->s.heap.get? b=some o->h'.get? b=some o)(hn:H it=none)(hL:it≠X.env.locals)
  (h1:it∈X.ex∨X.s_0.heap.objs.size<=it)(h2:∀x c,X.env.cells.lookup x=some c->c≠it)(h3:∀p∈X.pn++pins,p.1≠it):Inv X pins σ H {s with heap:=h',toks:=t'}:=by
 have nit:∀b u,H b=some u->b≠it:=λb u e z=>by rw[z,hn]at e;cases e
 refine I.step (g':=s.gens) (d':=s.drawn) (ch:=[it]) (λb hb=>?_) (λb o _ _ hc e _=>k b o (λz=>hc (by simp[z])) e) (λb o _ _ hc e _=>⟨o.slots,k b o (λz=>hc (by simp[z])) e⟩) (λ_ _ _ _ n=>n)
  (λb o hc e=>⟨o,k b o (λz=>hc (by simp[z])) e⟩) (λ_ _ e=>e) (λ_ _ _ e=>e) (λb ps e=>⟨#[],by rw[e];simp⟩) (λm hm=>?_) (λb u e=>?_) I.bare
 ·have e:b=it:=by simpa using hb
  subst e;exact⟨h1,hL,h2,h3⟩
 ·obtain⟨o,es,ep,ho,r⟩:=hm;exact⟨o,es,ep,k _ o (Ne.symm hL) ho,r⟩
 ·refine(I.hok b u e).lW (λc v hc q=>k c v ?_ q) (λ_ q=>q) λ_ _ q=>q;rcases hc with z|z
  ·rw[z];exact nit b u e
  ·exact nit c _ z
theorem Inv.tok(I:Inv X pins σ H s)(t:Nat):Inv X pins σ H {s with toks:=t}:=I.un (h':=s.heap) (t':=t) Un.refl I.hok
theorem Inv.kept{t':Nat}(I:Inv X pins σ H s)(k:∀b u,s.heap.get? b=some u->h'.get? b=some u):Inv X pins σ H {s with heap:=h',toks:=t'}:=I.un (Un.kept k) (I.hok.kept k)
theorem Inv.laid{a:Addr}{o:HO}{t':Nat}(I:Inv X pins σ H s)(k:∀b u,s.heap.get? b=some u->h'.get? b=some u)(hp:s.heap.objs.size<=a)(new:cV X.prog X.w (upd H a o) h' a o):
 Inv X pins σ (upd H a o) {s with heap:=h',toks:=t'}:=I.un (Un.laid k hp (I.hok.fresh hp)) (I.hok.laid k hp new)
theorem Inv.write{x e:Addr}{o:HO}{t':Nat}(I:Inv X pins σ H s)(mu:Mut (H x))(he:e=x∨H e=some (.own x))(k:∀b u,b≠e->s.heap.get? b=some u->h'.get? b=some u)(heo:∃u,h'.get? e=some u)
 (new:cV X.prog X.w (upd H x o) h' x o):Inv X pins σ (upd H x o) {s with heap:=h',toks:=t'}:=I.un (Un.write mu he k heo) (I.hok.write mu he k heo new)
theorem Inv.weak{σ':List (Option V)}(I:Inv X pins σ H s)(hl:σ'.length=σ.length)(w:∀(i:Nat) v,σ'[i]?=some (some v)->σ[i]?=some (some v)):Inv X pins σ' H s:=
 ⟨I.ok,I.os,I.bare,I.base,let ⟨m,hn,hl'⟩:=I.loc;⟨m,hn,λi x v e1 e2 e3=>hl' i x v e1 (w i v e2) e3⟩,I.cell,I.free,I.nu,I.pin,I.hok,hl.trans I.len⟩
theorem Inv.Dc{IB:List (Addr×Obj)}(I:Inv X pins σ H s)(h:∀p∈IB,s.heap.get? p.1=some p.2/\H p.1=none/\p.1≠X.env.locals/\p.1∉X.fs/\∀v,p.2.data≠.cell v):Inv X IB σ H s:=
 ⟨I.ok,I.os,I.bare,I.base,I.loc,I.cell,I.free,I.nu,λp hp=>(Np.mp hp).elim (λz=>I.pin p (P9 _ z)) (h p),I.hok,I.len⟩
variable{i:Nat}{x:Str}
theorem vw{N:List Str}(hN:N.Nodup){j:Nat}(a:N[i]?=some x)(b:N[j]?=some x):i=j:=by
 obtain⟨h1,e1⟩:=Nh.mp a;obtain⟨h2,e2⟩:=Nh.mp b;exact(List.getElem_inj hN).mp (e1.trans e2.symm)
variable{M:Model}{A:Around}{u:Value}{Q:Unit->Shared->Prop}
theorem D8{E:Rv}{v:V}(I:Inv X pins σ H s)(hN:X.N.Nodup)(hi:X.N[i]?=some x)(hx:Loc X.env.scope x)(r:RelV v u)
  (h:∀s',Inv X pins (σ.set i (some v)) H s'->(∃a,Heap.SameBut a s.heap s'.heap/\(a=X.env.locals∨X.env.cells.lookup x=some a))->Q () s')(hf:X.fn x=true∨X.env.scope.names.lookup x=some .local:=by first|exact .inl rfl|exact .inr rfl|assumption):wpAny M A (storeName X.env x u) Q E s:=by
 obtain⟨m,hn,hl⟩:=id I.loc;have MO:(X.env.scope.kind==.class||(X.env.scope.kind==.module&&X.env.locals !=X.env.globals))=false:=by rw[I.ok.kind];rfl
 have hiσ:i<σ.length:=by rw[I.len];exact(Nh.mp hi).1
 have cne:=I.cne;have tracked:∀{a:Addr}{h':Heap},(∃o,s.heap.get? a=some o/\H a=none)->Heap.SameBut a s.heap h'->HOk X.prog X.w H h':=λ{a h'} ha hs b ob e=>by
  obtain⟨_,_,xQ⟩:=ha;refine(I.hok b ob e).lW (λc w' hc q=>(hs.2 c ?_).trans q) (λ_ q=>q) λ_ _ q=>q;rintro rfl;rcases hc with rfl|hc
  ·rw[xQ]at e;cases e
  ·rw[xQ]at hc;cases hc
 rcases hx with hk|hk
 ·refine wpAny_storeName_local hk hn (λh' hn' hs=>?_) MO;obtain⟨oL,_,_,hoL,_⟩:=id hn;refine h _ ⟨I.ok,I.os,I.bare,⟨λb o e n hb hx=>?_,λb o e n hb hx=>?_,I.base.free,λb o e hx=>?_,I.base.zI,I.base.zb,I.base.zO⟩,⟨_,hn',λj y v' e1 e2 e3=>?_⟩,λy c e=>?_,I.free,I.nu,λp hp=>?_,tracked ⟨oL,hoL,I.free⟩ hs,by simpa using I.len⟩ ⟨_,hs,.inl rfl⟩
  ·exact(hs.2 b (Oo (N4 (NQ e) I.ok.above))).trans (I.base.keep b o e n hb hx)
  ·obtain⟨sl,e1⟩:=I.base.slot b o e n hb hx;exact⟨sl,(hs.2 b (Oo (N4 (NQ e) I.ok.above))).trans e1⟩
  ·obtain⟨o',e1⟩:=I.base.there b o e hx;exact⟨o',(hs.2 b (Oo (N4 (NQ e) I.ok.above))).trans e1⟩
  ·by_cases hj:j=i
   ·subst hj;rw[hi]at e1;cases e1;rw[Oq hiσ]at e2;cases e2;exact⟨u,r,.inl ⟨hk,by simp⟩⟩
   ·rw[Oy (Ne.symm hj)]at e2;obtain⟨u',r',q⟩:=hl j y v' e1 e2 e3;refine⟨u',r',?_⟩;rcases q with⟨k,e⟩|⟨k,c,e,z⟩
    ·refine .inl ⟨k,?_⟩;have:y≠x:=λe=>hj (vw hN e1 (e▸hi));simp[this,e]
    ·exact .inr ⟨k,c,e,z.sameBut hs (cne y c e)⟩
  ·obtain⟨w',z⟩:=I.cell y c e;exact⟨w',z.sameBut hs (cne y c e)⟩
  ·obtain⟨e,n,ne,nf,d⟩:=I.pin p hp;exact⟨(hs.2 p.1 ne).trans e,n,ne,nf,d⟩
 ·have hfn:X.fn x=true:=by
   rcases hf with z|z
   ·exact z
   ·rw[z]at hk;cases hk
  obtain⟨c,hc⟩:=I.ok.has x (.inl hk);obtain⟨w',z⟩:=I.cell x c hc;refine wpAny_storeName_cell I.ok.kind hk hc z (λh' hc' hs=>?_);obtain⟨oc,hoc,MF⟩:=id z;refine h {s with heap:=h'} ⟨I.ok,I.os,I.bare,⟨λb o e n hb hx=>?_,λb o e n hb hx=>?_,I.base.free,λb o e hx=>?_,I.base.zI,I.base.zb,I.base.zO⟩,⟨m,hn.sameBut hs (Ne.symm (cne x c hc)),λj y v' e1 e2 e3=>?_⟩,λy c' e=>?_,I.free,I.nu,λp hp=>?_,tracked ⟨oc,hoc,I.nu x c hc⟩ hs,by simpa using I.len⟩ ⟨c,hs,.inr hc⟩
  ·exact(hs.2 b (Oo (N4 (NQ e) (I.ok.cab x c hfn hc)))).trans (I.base.keep b o e n hb hx)
  ·obtain⟨sl,e1⟩:=I.base.slot b o e n hb hx;exact⟨sl,(hs.2 b (Oo (N4 (NQ e) (I.ok.cab x c hfn hc)))).trans e1⟩
  ·obtain⟨o',e1⟩:=I.base.there b o e hx;exact⟨o',(hs.2 b (Oo (N4 (NQ e) (I.ok.cab x c hfn hc)))).trans e1⟩
  ·by_cases hj:j=i
   ·subst hj;rw[hi]at e1;cases e1;rw[Oq hiσ]at e2;cases e2;exact⟨u,r,.inr ⟨.inl hk,c,hc,hc'⟩⟩
   ·rw[Oy (Ne.symm hj)]at e2;obtain⟨u',r',q⟩:=hl j y v' e1 e2 e3;refine⟨u',r',?_⟩;rcases q with q|⟨k,c',e,z'⟩
    ·exact .inl q
    ·refine .inr ⟨k,c',e,z'.sameBut hs ?_⟩;rintro rfl;exact hj (vw hN e1 (I.ok.inj _ _ _ e hc▸hi))
  ·by_cases hcc:c'=c
   ·subst hcc;exact⟨_,hc'⟩
   ·obtain⟨w2,z2⟩:=I.cell y c' e;exact⟨w2,z2.sameBut hs hcc⟩
  ·obtain⟨e,n,ne,nf,d⟩:=I.pin p hp;refine⟨(hs.2 p.1 ?_).trans e,n,ne,nf,d⟩;intro q;rw[q,hoc]at e;have q':oc=p.2:=Nm e;exact d w' (by rw[<-q'];exact MF)
theorem uM{E:Rv}{v:V}(I:Inv X pins σ H s)(hN:X.N.Nodup)(hi:X.N[i]?=some x)(hx:Loc X.env.scope x)(r:RelV v u)
  (h:∀s',Inv X pins (σ.set i (some v)) H s'->Q () s')(hf:X.fn x=true∨X.env.scope.names.lookup x=some .local:=by first|exact .inl rfl|exact .inr rfl|assumption):wpAny M A (storeName X.env x u) Q E s:=
 D8 I hN hi hx r (λs' I' _=>h s' I') hf
theorem Inv.LC{s':Shared}(I:Inv X pins σ H s)(ho:s'.os=s.os)(u:Un (frs X.stack) ch H H' s.heap s'.heap)(hok:HOk X.prog X.w H' s'.heap)(hg:AllBare s'.gens)
  (hch:∀b∈ch,(b∈X.ex∨X.s_0.heap.objs.size<=b)/\b≠X.env.locals/\(∀x c,X.env.cells.lookup x=some c->c≠b)/\∀p∈X.pn++pins,p.1≠b):Inv X pins σ H' s':=by
 obtain⟨h',g',d',t',o'⟩:=s';have e:o'=s.os:=ho;subst e;exact I.call (g':=g') (t':=t') (d':=d') u hok hg hch
end
abbrev XK:=Value->Option Addr->Hp->Prop
abbrev St:=List (Option V)
abbrev VK:=V->Hp->Prop
abbrev TE:=St->Hp->VK->Prop
abbrev TT:=St->Hp->(Bool->Hp->Prop)->Prop
abbrev TA:=St->Hp->(List V->Hp->Prop)->Prop
structure Ends where
 nx:St->Hp->Prop
 rt:VK
 bk:St->Hp->Prop:=λ_ _=>False
 ct:St->Hp->Prop:=λ_ _=>False
abbrev TS:=Ends->St->Hp->Prop
def EP(X:Cx)(pins:List (Addr×Obj))(σ:St)(Q:VK)(u:Value)(s':Shared):Prop:=∃v H',Inv X pins σ H' s'/\RelV v u/\Q v H'
def TP(X:Cx)(pins:List (Addr×Obj))(σ:St)(Q:Bool->Hp->Prop)(b:Bool)(s':Shared):Prop:=∃H',Inv X pins σ H' s'/\Q b H'
def AP(X:Cx)(pins:List (Addr×Obj))(σ:St)(Q:List V->Hp->Prop)(us:List Value)(s':Shared):Prop:=∃vs H',Inv X pins σ H' s'/\Vals vs us/\Q vs H'
def SP(X:Cx)(pins:List (Addr×Obj))(D:Ends)(f:Flow)(s':Shared):Prop:=
 match f with
 |.next=>∃σ' H',Inv X pins σ' H' s'/\D.nx σ' H'
 |.brk=>∃σ' H',Inv X pins σ' H' s'/\D.bk σ' H'
 |.cont=>∃σ' H',Inv X pins σ' H' s'/\D.ct σ' H'
 |.ret u=>∃v σ' H',Inv X pins σ' H' s'/\RelV v u/\D.rt v H'
def PE(X:Cx)(e:Expr)(t:TE):Prop:=
 ∀(pins:List (Addr×Obj))(s:Shared)(σ:St)(H:Hp)(Q:VK),Inv X pins σ H s->t σ H Q->wpAny (model X.prog X.w) X.A (eval e X.env) (EP X pins σ Q) X.xe s
def PT(X:Cx)(e:Expr)(t:TT):Prop:=
 ∀(pins:List (Addr×Obj))(s:Shared)(σ:St)(H:Hp)(Q:Bool->Hp->Prop),Inv X pins σ H s->t σ H Q->wpAny (model X.prog X.w) X.A (isTrue e X.env (eval e X.env)) (TP X pins σ Q) X.xe s
def PW(X:Cx)(e:Expr)(t:TT):Prop:=
 ∀(whole:Sem Value)(pins:List (Addr×Obj))(s:Shared)(σ:St)(H:Hp)(Q:Bool->Hp->Prop),Inv X pins σ H s->t σ H Q->wpAny (model X.prog X.w) X.A (isTrue e X.env whole) (TP X pins σ Q) X.xe s
theorem PW.pt{X:Cx}{e:Expr}{t:TT}(h:PW X e t):PT X e t:=h _
def PA(X:Cx)(es:List Expr)(t:TA):Prop:=
 ∀(pos:Pos)(pins:List (Addr×Obj))(s:Shared)(σ:St)(H:Hp)(Q:List V->Hp->Prop),Inv X pins σ H s->t σ H Q->wpAny (model X.prog X.w) X.A (spliced (backTo pos (starEach es X.env))) (AP X pins σ Q) X.xe s
def PS(X:Cx)(st:Stmt)(t:TS):Prop:=
 ∀(pins:List (Addr×Obj))(s:Shared)(σ:St)(H:Hp)(D:Ends),Inv X pins σ H s->t D σ H->wpAny (model X.prog X.w) X.A (exec st X.env) (SP X pins D) X.xe s
def PSs(X:Cx)(st:List Stmt)(t:TS):Prop:=
 ∀(pins:List (Addr×Obj))(s:Shared)(σ:St)(H:Hp)(D:Ends),Inv X pins σ H s->t D σ H->wpAny (model X.prog X.w) X.A (execs st X.env) (SP X pins D) X.xe s
variable{M:Model}{A:Around}{s:Shared}
theorem thn{α:Type}{t:Sem α}{Q Q':α->Shared->Prop}{E:Rv}(h:wpAny M A t Q E s)(hQ:∀a s,Q a s->Q' a s):wpAny M A t Q' E s:=Pd h hQ λ_ _ x=>x
section
variable{X:Cx}
variable{pins:List (Addr×Obj)}{σ:St}
theorem bin{a b:Expr}{ta tb:TE}(ha:PE X a ta)(hb:PE X b tb){R:V->V->Hp->Prop}(I:Inv X pins σ H s)(h:ta σ H λx H1=>tb σ H1 λy H2=>R x y H2)
  {α:Type}{Q:α->Shared->Prop}{f:Value->Value->Sem α}
  (hf:∀v u s2 x y H2,Inv X pins σ H2 s2->RelV x v->RelV y u->R x y H2->wpAny (model X.prog X.w) X.A (f v u) Q X.xe s2):
  wpAny (model X.prog X.w) X.A (eval a X.env) (λv s₁=>wpAny (model X.prog X.w) X.A (eval b X.env) (λu s₂=>wpAny (model X.prog X.w) X.A (f v u) Q X.xe s₂) X.xe s₁) X.xe s:=by
 refine thn (ha pins s σ H _ I h) λv s1 ⟨x,H1,I1,r1,q1⟩=>?_;refine thn (hb pins s1 σ H1 _ I1 q1) λu s2 ⟨y,H2,I2,r2,q2⟩=>?_;exact hf v u s2 x y H2 I2 r1 r2 q2
inductive LK(i:Nat)(σ:St)(H:Hp)(Q:VK):Prop|mk (v:V):σ[i]?=some (some v)->Q v H->LK i σ H Q
def wG(i:Nat):TE:=LK i
def tC(v:V):TE:=λ_ H Q=>Q v H
variable{x:Str}{pos:Pos}
theorem Jm{i:Nat}(hN:X.N[i]?=some x)(hv:Vis X.env.scope x)(hd:(x==("__debug__":Str))=false:=by decide)(hcd:(x==("__classdict__":Str))=false:=by decide):PE X (.Name x pos) (wG i):=by
 intro pins s σ H Q I h;obtain⟨v,e,h⟩:=h;obtain⟨m,hn,hl⟩:=I.loc;obtain⟨u,r,l⟩:=hl i x v hN e hv;have fin:EP X pins σ Q u s:=⟨v,H,I,r,h⟩;rcases l with⟨hk,hm⟩|⟨hk,c,hc,Dz⟩
 ·exact wpAny_Name (wpAny_loadName_local I.ok.kind hk hn hm fin) hd
 ·rcases hk with hk|hk
  ·exact wpAny_Name (wpAny_loadName_cell I.ok.kind hk hc Dz fin) hd
  ·exact wpAny_Name (wpAny_loadName_free I.ok.kind hk hc Dz fin hcd) hd
theorem ao{i j pos}:PE X (.Constant (.int i) j pos) (tC (.int i)):=λ_ _ _ H _ I h=>wpAny_Constant_int ⟨.int i,H,I.tok _,⟨_,rfl⟩,h⟩
theorem Dg{b j pos}:PE X (.Constant (.bool b) j pos) (tC (.bl b)):=λ_ _ _ H _ I h=>Constant_bool ⟨.bl b,H,I,rfl,h⟩
theorem jv{j pos}:PE X (.Constant .none j pos) (tC .non):=λ_ _ _ H _ I h=>Constant_none ⟨.non,H,I,rfl,h⟩
def Gl(X:Cx)(x:Str):Prop:=X.env.kindOf x=some .globalImplicit
variable{u:Value}{Q:Rv}
theorem uu{E:Rv}(I:Inv X pins σ H s)(hg:Gl X x)(hm:X.mg x=some u)(h:Q u s)
  (hd:(x==("__debug__":Str))=false:=by decide):wpAny (model X.prog X.w) X.A (eval (.Name x pos) X.env) Q E s:=
 Calls.Name_function_global I.ok.kind hg (Calls.loadGlobal_global (by rw[I.ok.glob];exact I.mod.glob.keeps I.bk) hm h) hd
theorem p6{E:Rv}(I:Inv X pins σ H s)(hg:Gl X x)(hm:X.mg x=none)(hv:bootBuiltins x=some u)(h:Q u s)
  (hn:x≠"__name__":=by decide)(hd:(x==("__debug__":Str))=false:=by decide):wpAny (model X.prog X.w) X.A (eval (.Name x pos) X.env) Q E s:=by
 obtain⟨mb,h1,h2⟩:=I.mod.blt;exact Calls.Name_function_global I.ok.kind hg (Calls.loadGlobal_builtin (by rw[I.ok.glob];exact I.mod.glob.keeps I.bk) hm (by rw[I.ok.blt];exact h1.keeps I.bk) ((h2 x hn).trans hv) h) hd
theorem Df{v:V}(hg:Gl X x)(hm:X.mg x=some u)(r:RelV v u)(hd:(x==("__debug__":Str))=false:=by decide):PE X (.Name x pos) (tC v):=
 λ_ _ _ H _ I h=>uu I hg hm ⟨v,H,I,r,h⟩ hd
variable{a b:Expr}{ta tb:TE}{pos:Pos}
def PC(X:Cx)(op:CmpOp)(a b:Expr)(t:TE):Prop:=
 ∀(pins:List (Addr×Obj))(s:Shared)(σ:St)(H:Hp)(Q:VK),Inv X pins σ H s->t σ H Q->
  wpAny (model X.prog X.w) X.A (eval a X.env) (λv s₁=>wpAny (model X.prog X.w) X.A (eval b X.env) (λu s₂=>wpAny (model X.prog X.w) X.A (compareOp op v u) (EP X pins σ Q) X.xe s₂) X.xe s₁) X.xe s
variable{op:CmpOp}
theorem FI(b:Expr)(h:op≠.In)(h2:op≠.NotIn):behindInMarks op b=false:=by
 have e1:(op==CmpOp.In)=false:=by cases op<;>first|rfl|exact absurd rfl h
 have e2:(op==CmpOp.NotIn)=false:=by cases op<;>first|rfl|exact absurd rfl h2
 cases b<;>simp[behindInMarks,e1,e2]
def LS(ta:TE):TE:=λσ H Q=>ta σ H λx H1=>Q (.bl (decide (x=.non))) H1
def Kt(ta:TE):TE:=λσ H Q=>ta σ H λx H1=>Q (.bl (!decide (x=.non))) H1
theorem RelV.AG{x:V}{v:Value}(r:RelV x v):(v==Value.none)=decide (x=.non):=by
 cases x with
 |non=>cases r;rfl
 |bl _=>cases r;rfl
 |int _=>obtain⟨t,rfl⟩:=r;rfl
 |str _=>obtain⟨t,rfl⟩:=r;rfl
 |byt _=>obtain⟨t,rfl⟩:=r;rfl
 |flt _=>obtain⟨t,rfl⟩:=r;rfl
 |ref _=>cases r;rfl
 |ty _=>cases r;rfl
theorem kr{j pos'}(ha:PE X a ta):PC X .Is a (.Constant .none j pos') (LS ta):=by
 intro pins s σ H Q I h;refine thn (ha pins s σ H _ I h) λv s1 ⟨x,H1,I1,r1,q1⟩=>?_;exact Constant_none (is_none_gen ⟨.bl _,H1,I1,by rw[r1.AG];rfl,q1⟩)
theorem Dh{j pos'}(ha:PE X a ta):PC X .IsNot a (.Constant .none j pos') (Kt ta):=by
 intro pins s σ H Q I h;refine thn (ha pins s σ H _ I h) λv s1 ⟨x,H1,I1,r1,q1⟩=>?_;exact Constant_none (isnot_none_gen ⟨.bl _,H1,I1,by rw[r1.AG];rfl,q1⟩)
inductive IBl(Q:Bool->Hp->Prop)(x:V)(H:Hp):Prop|mk (k:Bool):x=.bl k->Q k H->IBl Q x H
def tB(t:TE):TT:=λσ H Q=>t σ H (IBl Q)
variable{t:TE}
theorem fH(h:PC X op a b t)(h1:behindInMarks op b=false:=by first|exact FI _ (by decide) (by decide)|rfl):PT X (.Compare a [op] [b] pos) (tB t):=by
 intro pins s σ H Q I hw;refine wpAny_isTrue_Compare1 (thn (h pins s σ H _ I hw) λv s1 h1=>thn h1 λu s2 h2=>thn h2 λc s3 ⟨x,H1,I1,r1,q1⟩=>?_) h1;obtain⟨d,rfl,q⟩:=q1;cases r1;exact OT ⟨H1,I1,q⟩
theorem ju{e:Expr}(h:PE X e t)(he:∀whole,isTrue e X.env whole=(do let v <-whole;standAt e.pos;holding [v] (truthy v)):=by intro _;rfl):PT X e (tB t):=by
 intro pins s σ H Q I hw;refine isTrue_plain (thn (h pins s σ H _ I hw) λv s1 ⟨x,H1,I1,r1,q1⟩=>?_) (he _);obtain⟨d,rfl,q⟩:=q1;cases r1;exact OT ⟨H1,I1,q⟩
variable{tA tB':TT}{rest:List Expr}
def D7(t u:TT):TT:=λσ H Q=>t σ H λc H1=>if c=true then u σ H1 Q else Q false H1
def tOr(t u:TT):TT:=λσ H Q=>t σ H λc H1=>if c=true then Q true H1 else u σ H1 Q
def BK(t:TT):TT:=λσ H Q=>t σ H λc H1=>Q (!c) H1
theorem Ha(ha:PT X a tA):PW X (.BoolOp .And [a] pos) tA:=by
 intro wh pins s σ H Q I h;refine isTrue_and (thn (ha pins s σ H Q I h) λc s1 e=>?_);cases c with
 |true=>exact isTrue_and_nil e
 |false=>exact e
theorem pQ(ha:PT X a tA):PW X (.BoolOp .Or [a] pos) tA:=by
 intro wh pins s σ H Q I h;refine isTrue_or (thn (ha pins s σ H Q I h) λc s1 e=>?_);cases c with
 |false=>exact isTrue_or_nil e
 |true=>exact e
theorem Jj(ha:PT X a tA)(hb:PW X (.BoolOp .And (b::rest) pos) tB'):PW X (.BoolOp .And (a::b::rest) pos) (D7 tA tB'):=by
 intro wh pins s σ H Q I h;refine isTrue_and (thn (ha pins s σ H _ I h) λc s1 ⟨H1,I1,q1⟩=>?_);cases c with
 |true=>exact hb wh pins s1 σ H1 Q I1 q1
 |false=>exact⟨H1,I1,q1⟩
theorem vi(ha:PT X a tA)(hb:PW X (.BoolOp .Or (b::rest) pos) tB'):PW X (.BoolOp .Or (a::b::rest) pos) (tOr tA tB'):=by
 intro wh pins s σ H Q I h;refine isTrue_or (thn (ha pins s σ H _ I h) λc s1 ⟨H1,I1,q1⟩=>?_);cases c with
 |true=>exact⟨H1,I1,q1⟩
 |false=>exact hb wh pins s1 σ H1 Q I1 q1
theorem eH(ha:PT X a tA):PT X (.UnaryOp .Not a pos) (BK tA):=by
 intro pins s σ H Q I h;exact isTrue_not (ha pins s σ H (λc H1=>Q (!c) H1) I h)
def LQ(ta tb:TE):TE:=λσ H Q=>ta σ H λx H1=>∃c,x=.bl c/\if c=true then Q (.bl true) H1 else tb σ H1 Q
def Ks(ta:TE):TE:=λσ H Q=>ta σ H λx H1=>∃c,x=.bl c/\Q (.bl (!c)) H1
theorem Jn{op}(h:PE X a t):PE X (.BoolOp op [a] pos) t:=λpins s σ H Q I hw=>BoolOp_one (h pins s σ H Q I hw)
theorem KL(ha:PE X a ta)(hb:PE X (.BoolOp .Or (b::rest) pos) tb):PE X (.BoolOp .Or (a::b::rest) pos) (LQ ta tb):=by
 intro pins s σ H Q I h;refine BoolOp_or (thn (ha pins s σ H _ I h) λv s1 ⟨x,H1,I1,r1,q1⟩=>?_);obtain⟨c,rfl,q1⟩:=q1;cases r1;refine OT ?_;cases c with
 |false=>exact hb pins s1 σ H1 Q I1 q1
 |true=>exact⟨.bl true,H1,I1,rfl,q1⟩
theorem Jo(ha:PE X a ta):PE X (.UnaryOp .Not a pos) (Ks ta):=by
 intro pins s σ H Q I h;refine UnaryOp_ (thn (ha pins s σ H _ I h) λv s1 ⟨x,H1,I1,r1,q1⟩=>?_);obtain⟨c,rfl,q1⟩:=q1;cases r1;exact not_of (OT ⟨.bl (!c),H1,I1,rfl,q1⟩)
def tIf(t:TT)(ta tb:TE):TE:=λσ H Q=>t σ H λc H1=>if c=true then ta σ H1 Q else tb σ H1 Q
theorem eP{c:Expr}(hc:PT X c tA)(ha:PE X a ta)(hb:PE X b tb):PE X (.IfExp c a b pos) (tIf tA ta tb):=by
 intro pins s σ H Q I h;refine wpAny_IfExp (thn (hc pins s σ H _ I h) λd s1 ⟨H1,I1,q1⟩=>?_);cases d with
 |true=>exact ha pins s1 σ H1 Q I1 q1
 |false=>exact hb pins s1 σ H1 Q I1 q1
end
def SqL(K:Rt)(H:Hp)(a:Addr)(xs:List V):Prop:=
 Rd H a (.lst xs) ∨
  ∃(o:Obj) (its:Array Value) (n:Nat),K.lookup a=some o/\o.cls=.type "list"/\o.dict=none/\o.data=.seq its n/\its.size<=sizeLine/\Vals xs its.toList
def SqT(K:Rt)(H:Hp)(a:Addr)(xs:List V):Prop:=
 Rd H a (.tup xs) ∨
  ∃(o:Obj) (its:Array Value) (n:Nat),K.lookup a=some o/\o.cls=.type "tuple"/\o.data=.seq its n/\its.size<=sizeLine/\Vals xs its.toList
def M8:Value->Option V
 |.none=>some .non
 |.bool b=>some (.bl b)
 |.int i _=>some (.int i)
 |.str x _=>some (.str x)
 |.bytes b _=>some (.byt b)
 |.float b _=>some (.flt b)
 |.ref a=>some (.ref a)
 |.type n=>some (.ty n)
 |_=>none
variable{x:V}{u:Value}
theorem RelV.abs(r:RelV x u):M8 u=some x:=by
 cases x with
 |non=>cases r;rfl
 |bl _=>cases r;rfl
 |int _=>obtain⟨t,rfl⟩:=r;rfl
 |str _=>obtain⟨t,rfl⟩:=r;rfl
 |byt _=>obtain⟨t,rfl⟩:=r;rfl
 |flt _=>obtain⟨t,rfl⟩:=r;rfl
 |ref _=>cases r;rfl
 |ty _=>cases r;rfl
variable{y:V}
theorem RelV.inj(r:RelV x u)(q:RelV y u):x=y:=Nm (r.abs.symm.trans q.abs)
theorem Vals.inj:∀{xs ys:List V}{us:List Value},Vals xs us->Vals ys us->xs=ys
 |_,_,_,.nil,.nil=>rfl
 |_,_,_,.cons r t,.cons r' t'=>by rw[r.inj r',Vals.inj t t']
section
variable{X:Cx}{pins:List (Addr×Obj)}{σ:St}{H:Hp}{s:Shared}{a:Addr}{xs ys:List V}
theorem SqL.of{K:Rt}(h:H a=some (.lst xs)):SqL K H a xs:=.inl (.inl h)
theorem SqT.of{K:Rt}(h:H a=some (.tup xs)):SqT K H a xs:=.inl (.inl h)
theorem Inv.list(I:Inv X pins σ H s)(h:SqL X.K H a xs):∃its:List Value,Vals xs its/\PlainL s.heap a its.toArray/\xs.length<=sizeLine:=by
 rcases h with h|⟨o,its,n,hk,hc,hd,hs,hz,r⟩
 ·obtain⟨z,its,n,r,e⟩:=h.ok I.hok;exact⟨its,r,⟨_,n,e,rfl,rfl,rfl⟩,z⟩
 ·refine⟨its.toList,r,⟨o,n,I.kIn a o hk,hc,hd,by simpa using hs⟩,?_⟩;have e:=r.length;simp only[Array.length_toList]at e;omega
theorem Inv.tuple(I:Inv X pins σ H s)(h:SqT X.K H a xs):∃its:List Value,Vals xs its/\IsTup s.heap a its.toArray/\xs.length<=sizeLine:=by
 rcases h with h|⟨o,its,n,hk,hc,hs,hz,r⟩
 ·obtain⟨z,its,r,p⟩:=h.ok I.hok;exact⟨its,r,p,z⟩
 ·refine⟨its.toList,r,⟨o,I.kIn a o hk,hc,n,by simpa using hs⟩,?_⟩;have e:=r.length;simp only[Array.length_toList]at e;omega
theorem Inv.iH(I:Inv X pins σ H s)(h:SqL X.K H a xs)(h':SqL X.K H a ys):xs=ys:=by
 obtain⟨its,r,⟨o,n,e,_,_,d⟩,_⟩:=I.list h;obtain⟨p7,r',⟨o',n',e',_,_,d'⟩,_⟩:=I.list h';rw[e]at e';cases e';rw[d]at d';injection d' with d1 _;have:its=p7:=by simpa using congrArg Array.toList d1
 subst this;exact r.inj r'
theorem Inv.D4(I:Inv X pins σ H s)(h:SqT X.K H a xs)(h':SqT X.K H a ys):xs=ys:=by
 obtain⟨its,r,⟨o,e,_,n,d⟩,_⟩:=I.tuple h;obtain⟨p7,r',⟨o',e',_,n',d'⟩,_⟩:=I.tuple h';rw[e]at e';cases e';rw[d]at d';injection d' with d1 _;have:its=p7:=by simpa using congrArg Array.toList d1
 subst this;exact r.inj r'
end
abbrev Cx.wish(X:Cx)(E:Rv):Cx:={X with xe:=E}
abbrev Cx.nox(X:Cx):Cx:=X.wish λ_ _=>False
theorem Cx.Ok.wish{X:Cx}(ok:X.Ok)(E:Rv):(X.wish E).Ok:=
 ⟨ok.mod,ok.kind,ok.glob,ok.blt,ok.above,ok.inj,ok.has,ok.cab,ok.hd,ok.frames,ok.stk,ok.exf,ok.bs,ok.bsz,ok.FG,ok.Gk,ok.tY,ok.frf⟩
theorem Cx.Ok.mf{X:Cx}{E:Rv}(ok:(X.wish E).Ok):X.Ok:=
 ⟨ok.mod,ok.kind,ok.glob,ok.blt,ok.above,ok.inj,ok.has,ok.cab,ok.hd,ok.frames,ok.stk,ok.exf,ok.bs,ok.bsz,ok.FG,ok.Gk,ok.tY,ok.frf⟩
section
variable{X:Cx}{pins:List (Addr×Obj)}{σ:St}{H:Hp}{s:Shared}{E:Rv}
theorem Inv.wish(I:Inv X pins σ H s)(E:Rv):Inv (X.wish E) pins σ H s:=⟨I.ok.wish E,I.os,I.bare,I.base,I.loc,I.cell,I.free,I.nu,I.pin,I.hok,I.len⟩
theorem Inv.mf(I:Inv (X.wish E) pins σ H s):Inv X pins σ H s:=⟨I.ok.mf,I.os,I.bare,I.base,I.loc,I.cell,I.free,I.nu,I.pin,I.hok,I.len⟩
theorem SP.mf{D:Ends}{f:Flow}{s':Shared}(h:SP (X.wish E) pins D f s'):SP X pins D f s':=by
 cases f with
 |next=>obtain⟨σ',H',I,q⟩:=h;exact⟨σ',H',I.mf,q⟩
 |brk=>obtain⟨σ',H',I,q⟩:=h;exact⟨σ',H',I.mf,q⟩
 |cont=>obtain⟨σ',H',I,q⟩:=h;exact⟨σ',H',I.mf,q⟩
 |ret u=>obtain⟨v,σ',H',I,r,q⟩:=h;exact⟨v,σ',H',I.mf,r,q⟩
theorem PSs.nox{st:List Stmt}{t:TS}(h:PSs X.nox st t):PSs X st t:=λpins s σ H D I hw=>
 Pd (h pins s σ H D (I.wish _) hw) (λ_ _ q=>q.mf) λ_ _ z=>False.elim z
end
section
variable{X:Cx}{st:Stmt}{rest:List Stmt}{t u:TS}{e:Expr}{te:TE}{pos:Pos}
def Ir:TS:=λD σ H=>D.nx σ H
def Ends.un(D:Ends)(u:TS):Ends:={D with nx:=u D}
def Kq(t u:TS):TS:=λD σ H=>t (D.un u) σ H
theorem aD:PSs X [] Ir:=λ_ _ σ H _ I h=>QY ⟨σ,H,I,h⟩
theorem ae(h1:PS X st t)(h2:PSs X rest u):PSs X (st::rest) (Kq t u):=by
 intro pins s σ H D I h;refine wpAny_execs_cons (thn (h1 pins s σ H {D with nx:=u D} I h) λf s1 q=>?_);cases f with
 |next=>
  obtain⟨σ',H',I',q⟩:=q;exact h2 pins s1 σ' H' D I' q
 |ret v=>exact q
 |brk=>exact q
 |cont=>exact q
theorem ai(h1:PS X st t):PSs X [st] t:=by
 intro pins s σ H D I h;refine wpAny_execs_cons (thn (h1 pins s σ H D I h) λf s1 q=>?_);cases f with
 |next=>exact QY q
 |ret v=>exact q
 |brk=>exact q
 |cont=>exact q
theorem Inv.quiet{pins:List (Addr×Obj)}{σ:St}(I:Inv X pins σ H s):interactive X.env=false:=by simp[interactive,I.ok.kind]
def Iu(te:TE):TS:=λD σ H=>te σ H λ_ H1=>D.nx σ H1
theorem b6(he:PE X e te)(hs:swapsWith e none pos.line X.env=pure false:=by rfl):PS X (.Expr e pos) (Iu te):=by
 intro pins s σ H D I h;exact wpAny_Expr_any (thn (he pins s σ H _ I h) λv s1 ⟨x,H1,I1,r1,q1⟩=>⟨σ,H1,I1,q1⟩) I.quiet hs
def LP(te:TE):TS:=λD σ H=>te σ H D.rt
theorem aA(he:PE X e te):PS X (.Return (some e) pos) (LP te):=by
 intro pins s σ H D I h;exact wpAny_Return_some (thn (he pins s σ H _ I h) λv s1 ⟨x,H1,I1,r1,q1⟩=>⟨x,σ,H1,I1,r1,q1⟩)
def kIf(t u:TS)(D:Ends)(σ:St)(b:Bool)(H:Hp):Prop:=if b=true then t D σ H else u D σ H
def Ky(c:TT)(t u:TS):TS:=λD σ H=>c σ H (kIf t u D σ)
theorem aW{c:Expr}{a b:List Stmt}{tc:TT}(hc:PT X c tc)(ha:PSs X a t)(hb:PSs X b u):PS X (.If c a b pos) (Ky tc t u):=by
 intro pins s σ H D I h;refine wpAny_If (thn (hc pins s σ H _ I h) λd s1 ⟨H1,I1,q1⟩=>?_);cases d with
 |true=>exact ha pins s1 σ H1 D I1 q1
 |false=>exact hb pins s1 σ H1 D I1 q1
end
abbrev TG:=V->St->Hp->(St->Hp->Prop)->Prop
abbrev TGs:=List V->St->Hp->(St->Hp->Prop)->Prop
def PG(X:Cx)(target:Expr)(t:TG):Prop:=
 ∀(pins:List (Addr×Obj))(s:Shared)(σ:St)(H:Hp)(v:V)(u:Value)(Q:St->Hp->Prop),Inv X pins σ H s->RelV v u->t v σ H Q->
  wpAny (model X.prog X.w) X.A (assign target X.env u) (λ_ s'=>∃σ' H',Inv X pins σ' H' s'/\Q σ' H') X.xe s
def PGs(X:Cx)(ts:List Expr)(t:TGs):Prop:=
 ∀(pins:List (Addr×Obj))(s:Shared)(σ:St)(H:Hp)(vs:List V)(us:List Value)(Q:St->Hp->Prop),Inv X pins σ H s->Vals vs us->t vs σ H Q->
  wpAny (model X.prog X.w) X.A (assignInOrder ((assignEach ts X.env).map (·.2)) us) (λ_ s'=>∃σ' H',Inv X pins σ' H' s'/\Q σ' H') X.xe s
abbrev Kc:=V->V->V->Hp->(Hp->Prop)->Prop
def LH(X:Cx)(t:Kc):Prop:=
 ∀(pins:List (Addr×Obj))(s:Shared)(σ:St)(H:Hp)(o i v:V)(ov iv u:Value)(Q:Hp->Prop),Inv X pins σ H s->RelV o ov->RelV i iv->RelV v u->t o i v H Q->
  wpAny (model X.prog X.w) X.A (setItem ov iv u) (λ_ s'=>∃H',Inv X pins σ H' s'/\Q H') X.xe s
abbrev TIp:=V->V->Hp->VK->Prop
def PIp(X:Cx)(op:Operator)(t:TIp):Prop:=
 ∀(pins:List (Addr×Obj))(s:Shared)(σ:St)(H:Hp)(x y:V)(v u:Value)(Q:VK),Inv X pins σ H s->RelV x v->RelV y u->t x y H Q->
  wpAny (model X.prog X.w) X.A (inplaceOp op v u) (EP X pins σ Q) X.xe s
section
variable{X:Cx}{pos:Pos}
def IK(i:Nat):TG:=λv σ H Q=>Q (σ.set i (some v)) H
variable{i:Nat}
theorem aL{x:Str}(hN:X.N.Nodup)(hi:X.N[i]?=some x)(hx:Loc X.env.scope x)(hf:X.fn x=true∨X.env.scope.names.lookup x=some .local:=by first|exact .inl rfl|exact .inr rfl|assumption):PG X (.Name x pos) (IK i):=by
 intro pins s σ H v u Q I r h;exact wpAny_assign_Name (uM I hN hi hx r (λs' I'=>⟨_,H,I',h⟩) hf)
def MX:TGs:=λvs σ H Q=>vs=[]/\Q σ H
def kGC(u:TGs)(r:List V)(Q:St->Hp->Prop)(σ:St)(H:Hp):Prop:=u r σ H Q
inductive IGC(t:TG)(u:TGs)(vs:List V)(σ:St)(H:Hp)(Q:St->Hp->Prop):Prop|mk (v:V) (r:List V):vs=v::r->t v σ H (kGC u r Q)->IGC t u vs σ H Q
def Lq(t:TG)(u:TGs):TGs:=IGC t u
theorem eZ:PGs X [] MX:=by
 intro pins s σ H vs us Q I r h;obtain⟨e,h⟩:=h;subst e;cases r;exact assignInOrder_nil ⟨σ,H,I,h⟩
variable{e:Expr}{es:List Expr}
theorem bt{t:TG}{u:TGs}(h1:PG X e t)(h2:PGs X es u)
  (hs:(assignEach (e::es) X.env).map (·.2)=assign e X.env::(assignEach es X.env).map (·.2):=by rfl):PGs X (e::es) (Lq t u):=by
 intro pins s σ H vs us Q I r h;obtain⟨v,vr,e1,h⟩:=h;subst e1;cases r with
 |cons r rr=>
  rw[hs];refine assignInOrder_cons (thn (h1 pins s σ H _ _ _ I r h) λ_ s1 ⟨σ1,H1,I1,q1⟩=>?_);exact h2 pins s1 σ1 H1 _ _ Q I1 rr q1
inductive IGT(K:Rt)(n:Nat)(t:TGs)(v:V)(σ:St)(H:Hp)(Q:St->Hp->Prop):Prop|mk (a:Addr) (xs:List V):v=.ref a->SqT K H a xs->xs.length=n->t xs σ H Q->IGT K n t v σ H Q
def MW(K:Rt)(n:Nat)(t:TGs):TG:=IGT K n t
theorem gN{k:Nat}{t:TGs}{n:Nat}(hc:X.calm=true)(h:PGs X es t)
  (hn:(assignEach es X.env).length=n:=by rfl)(hst:(assignEach es X.env).findIdx? (·.1)=none:=by rfl):PG X (.Tuple es k pos) (MW X.K n t):=by
 intro pins s σ H v u Q I r hw;obtain⟨a,xs,e1,hq,hl,hw⟩:=hw;subst e1;cases r;obtain⟨its,rv,ht,hz⟩:=I.tuple hq;refine assign_Tuple_tuple (I.ok.hd hc) ht (by simp[hn,<-hl,rv.length]) hst λh' hx=>?_;have I1:Inv X pins σ H {s with heap:=h'}:=I.kept (t':=s.toks) λb o e=>hx b o (Oo (NQ e)) e;exact h pins _ σ H xs _ Q I1 (by simpa using rv) hw
def Ln(to ti:TE)(t:Kc):TG:=λv σ H Q=>to σ H λo H1=>ti σ H1 λi H2=>t o i v H2 λH3=>Q σ H3
theorem iA{o i:Expr}{to ti:TE}{t:Kc}(ho:PE X o to)(hi:PE X i ti)(hs:LH X t)
  (ha:∀v,assign (.Subscript o i pos) X.env v=(do
   let ov <-holding [v] (eval o X.env)
   let iv <-holding [v,ov] (eval i X.env)
   standAt pos
   holding [v,ov,iv] (setItem ov iv v)
   release [v,ov,iv] []):=by intro _;rfl):PG X (.Subscript o i pos) (Ln to ti t):=by
 intro pins s σ H v u Q I r h;rw[ha];refine Ni (Qi (thn (ho pins s σ H _ I h) λov s1 ⟨x,H1,I1,r1,q1⟩=>?_));refine Ni (Qi (thn (hi pins s1 σ H1 _ I1 q1) λiv s2 ⟨y,H2,I2,r2,q2⟩=>?_));refine Ni (wpAny_standAt (Ni (Qi (thn (hs pins s2 σ H2 x y v ov iv u _ I2 r1 r2 r q2) λ_ s3 ⟨H3,I3,q3⟩=>?_))));exact wpAny_release ⟨σ,H3,I3,q3⟩
def Mu(g:TG)(σ:St)(N:St->Hp->Prop)(x:V)(H:Hp):Prop:=g x σ H N
def Jc(te:TE)(g:TG):TS:=λD σ H=>te σ H (Mu g σ D.nx)
variable{te:TE}
theorem iz{tg:Expr}{g:TG}(he:PE X e te)(hg:PG X tg g)(hs:swapsWithSole [tg] e pos.line X.env=pure false:=by rfl)(hw:swappedStores [tg] e X.env=pure none:=by rfl)
  (h1:(assignEach [tg] X.env).map (·.2)=[assign tg X.env]:=by rfl):PS X (.Assign [tg] e pos) (Jc te g):=by
 intro pins s σ H D I h;refine wpAny_Assign_stores (thn (he pins s σ H _ I h) λv s1 ⟨x,H1,I1,r1,q1⟩=>?_) hs hw;rw[h1];exact thn (hg pins s1 σ H1 x v _ I1 r1 q1) λ_ s2 q=>q
variable{pos':Pos}
theorem aG{x:Str}(hN:X.N.Nodup)(hi:X.N[i]?=some x)(hx:Loc X.env.scope x)(he:PE X e te)(hs:swapsWith e (some (.Name x pos')) pos.line X.env=pure false:=by rfl)(hf:X.fn x=true∨X.env.scope.names.lookup x=some .local:=by first|exact .inl rfl|exact .inr rfl|assumption):
  PS X (.Assign [.Name x pos'] e pos) (Jc te (IK i)):=by
 intro pins s σ H D I h;refine wpAny_Assign_Name (thn (he pins s σ H _ I h) λv s1 ⟨y,H1,I1,r1,q1⟩=>?_) hs;exact uM I1 hN hi hx r1 (λs2 I2=>⟨_,H1,I2,q1⟩) hf
def LX(i:Nat)(te:TE)(ti:TIp):TS:=λD σ H=>∃x,σ[i]?=some (some x)/\te σ H λy H1=>ti x y H1 λz H2=>D.nx (σ.set i (some z)) H2
theorem pR{x:Str}{op:Operator}{ti:TIp}(hN:X.N.Nodup)(hi:X.N[i]?=some x)(hx:Loc X.env.scope x)(he:PE X e te)(ho:PIp X op ti)(hf:X.fn x=true∨X.env.scope.names.lookup x=some .local:=by first|exact .inl rfl|exact .inr rfl|assumption):
  PS X (.AugAssign (.Name x pos') op e pos) (LX i te ti):=by
 intro pins s σ H D I h;obtain⟨v,e1,h⟩:=h;obtain⟨m,hn,hl⟩:=I.loc;have vis:Vis X.env.scope x:=by rcases hx with k|k;exact .inl k;exact .inr (.inl k)
 obtain⟨u,r,l⟩:=hl i x v hi e1 vis;refine wpAny_AugAssign_Name ?_;have go:wpAny (model X.prog X.w) X.A (eval e X.env) (λw s₂=>wpAny (model X.prog X.w) X.A (inplaceOp op u w) (λr s₃=>wpAny (model X.prog X.w) X.A (storeName X.env x r) (λ_=>SP X pins D .next) X.xe s₃) X.xe s₂) X.xe s:=by
  refine thn (he pins s σ H _ I h) λw s1 ⟨y,H1,I1,r1,q1⟩=>?_;refine thn (ho pins s1 σ H1 v y u w _ I1 r r1 q1) λz s2 ⟨zv,H2,I2,r2,q2⟩=>?_;exact uM I2 hN hi hx r2 (λs3 I3=>⟨_,H2,I3,q2⟩) hf
 rcases l with⟨hk,hm⟩|⟨hk,c,hc,Dz⟩
 ·exact wpAny_loadName_local I.ok.kind hk hn hm go
 ·rcases hk with hk|hk
  ·exact wpAny_loadName_cell I.ok.kind hk hc Dz go
  ·rcases hx with k|k
   ·have:X.env.scope.names.lookup x=some .free:=hk;rw[k]at this;cases this
   ·have:X.env.scope.names.lookup x=some .free:=hk;rw[k]at this;cases this
end
section
variable{X:Cx}{pos:Pos}
def IX(c:TT)(tb:TS):TS:=λD σ H=>∃W:Nat->St->Hp->Prop,(∃m,W m σ H)/\∀m σ H,W m σ H->
 c σ H λb H1=>if b=true then ∃N:St->Hp->Prop,(∀σ' H',N σ' H'->∃m',m'<m/\W m' σ' H')/\tb {D with nx:=N,ct:=N,bk:=D.nx} σ H1 else D.nx σ H1
theorem qG{c:Expr}{body:List Stmt}{tc:TT}{tb:TS}(hp:PassesOwn (model X.prog X.w) X.A X.env X.xe)(hc:PT X c tc)(hb:PSs X body tb):PS X (.While c body [] pos) (IX tc tb):=by
 intro pins s σ H D I h;obtain⟨W,⟨m0,w0⟩,turn⟩:=h;refine wpAny_While (codeAny_whileLoop (λn s'=>∃σ' H',Inv X pins σ' H' s'/\W n σ' H') ?_ m0 ⟨σ,H,I,w0⟩);rintro n s1 ⟨σ1,H1,I1,w1⟩;refine Pz hp (thn (hc pins s1 σ1 H1 _ I1 (turn n σ1 H1 w1)) λb s2 ⟨H2,I2,q2⟩=>?_);cases b with
 |true=>
  obtain⟨N,hN,q2⟩:=q2;rw[Nz rfl];refine Pz hp (thn (hb pins s2 σ1 H2 _ I2 q2) λf s3 q3=>?_);cases f with
  |next=>
   obtain⟨σ3,H3,I3,n3⟩:=q3;obtain⟨m',hm,w3⟩:=hN σ3 H3 n3;exact⟨m',hm,σ3,H3,I3,w3⟩
  |cont=>
   obtain⟨σ3,H3,I3,n3⟩:=q3;obtain⟨m',hm,w3⟩:=hN σ3 H3 n3;exact⟨m',hm,σ3,H3,I3,w3⟩
  |brk=>exact q3
  |ret v=>exact q3
 |false=>
  rw[Nt NI];exact QY ⟨σ1,H2,I2,q2⟩
end
structure It where
 go:Nat->Hp->Prop
 yld:Nat->Hp->V->Hp->Prop
 stop:Nat->Hp->Prop
def ue(X:Cx)(pins:List (Addr×Obj))(H:Hp)(b:Addr):Prop:=
 H b=none/\b≠X.env.locals/\b∉X.fs/\(b∈X.ex∨X.s_0.heap.objs.size<=b)/\(∀x c,X.env.cells.lookup x=some c->c≠b)/\∀p∈X.pn++pins,p.1≠b
variable{pins:List (Addr×Obj)}{σ:St}
theorem Inv.Bc{X:Cx}{H':Hp}(I:Inv X pins σ H s)(hb:s.heap.objs.size<=b)(hn:H' b=none):ue X pins H' b:=by
 refine⟨hn,O0 (N4 I.lt hb),I.Mf hb,.inr (NR I.sz hb),λx c e z=>?_,λp hp z=>?_⟩
 ·obtain⟨v,q⟩:=I.cell x c e;exact absurd (N4 q.lt (by rw[z];exact hb)) (OP _)
 ·exact absurd (N4 (NQ (I.pin p hp).1) (by rw[z];exact hb)) (OP _)
structure Turn(P:Program)(w:World)(K:Rt)(tg:Expr)(J:It)(fp:List Addr)(it:Addr)(tn:Nat->Heap->Prop):Prop where
 mem:it∈fp
 obj:∀i h,tn i h->∀b∈fp,∃o,h.get? b=some o/\∀v,o.data≠.cell v
 keep:∀i h h',tn i h->(∀b∈fp,∀o,h.get? b=some o->h'.get? b=some o)->tn i h'
 item:∀(X:Cx),X.prog=P->X.w=w->X.K=K->X.calm=true->∀(i:Nat)(pins:List (Addr×Obj))(s:Shared)(σ:St)(H:Hp)(E:Rv),Inv X pins σ H s->(∀b∈fp,ue X pins H b)->tn i s.heap->J.go i H->
  wpAny (model P w) X.A (pyNext (.ref it)) (λr s1=>∃u,r=some u/\
   wpAny (model P w) X.A (letOwnedTupleGo tg (.ref it) u) (λ_ s2=>∃x H',Inv X pins σ H' s2/\RelV x u/\J.yld i H x H'/\tn (i+1) s2.heap/\∀b∈fp,H' b=none) E s1) E s
 done:∀(X:Cx),X.prog=P->X.w=w->X.K=K->X.calm=true->∀(i:Nat)(pins:List (Addr×Obj))(s:Shared)(σ:St)(H:Hp)(E:Rv),Inv X pins σ H s->(∀b∈fp,ue X pins H b)->tn i s.heap->J.stop i H->
  wpAny (model P w) X.A (pyNext (.ref it)) (λr s1=>r=none/\Inv X pins σ H s1) E s
 self:∀(A:Around)(i:Nat)(s:Shared)(Q:Rv)(E:Rv),tn i s.heap->Q (.ref it) s->wpAny (model P w) A (pyIter (.ref it)) Q E s
abbrev TI:=St->Hp->(It->Hp->Prop)->Prop
def PIE(X:Cx)(pins:List (Addr×Obj))(σ:St)(tg:Expr)(R:It->Hp->Prop)(itv:Value)(s2:Shared):Prop:=
 ∃(it:Addr) (fp:List Addr) (tn:Nat->Heap->Prop) (J:It) (H':Hp),itv=.ref it/\Inv X pins σ H' s2/\Turn X.prog X.w X.K tg J fp it tn/\tn 0 s2.heap/\(∀b∈fp,ue X pins H' b)/\R J H'
def PI(X:Cx)(tg iter:Expr)(wi:TI):Prop:=
 ∀(pins:List (Addr×Obj))(s:Shared)(σ:St)(H:Hp)(R:It->Hp->Prop),Inv X pins σ H s->wi σ H R->
  wpAny (model X.prog X.w) X.A (eval iter X.env) (λv s1=>wpAny (model X.prog X.w) X.A (pyIter v) (PIE X pins σ tg R) X.xe s1) X.xe s
variable{tg:Expr}{Q:Unit->Shared->Prop}
theorem DB{E:Rv}{it:Addr}{n:String}{vs:Array Value}(ho:s.heap.get? it=some o)(hc:o.cls=.type n)(hd:o.data=.fields vs)
  (hn:["enumerate","zip","dict_itemiterator","dict_reverseitemiterator","odict_iterator","itertools.zip_longest","itertools.pairwise"].contains n=false)(hQ:Q () s):wpAny M A (letOwnedTupleGo tg (.ref it) u) Q E s:=by
 unfold letOwnedTupleGo;cases tg<;>first
  |exact NF hQ
  |(cases u<;>first
   |exact NF hQ
   |(refine Ni (wpAny_load ho ?_)
     rw[hc,hd];show wpAny M A (if(["enumerate","zip","dict_itemiterator","dict_reverseitemiterator","odict_iterator","itertools.zip_longest","itertools.pairwise"].contains n&&vs[0]?==some (rawInt _))=true then _ else _) Q E s;rw[Nt (by intro h;rw[hn,Bool.false_and]at h;cases h)];exact NF hQ))
def Itl(K:Rt)(a:Addr):It:=
 ⟨λi H=>∃xs x,SqL K H a xs/\xs[i]?=some x,λi H x H'=>H'=H/\∀xs,SqL K H a xs->xs[i]?=some x,λi H=>∃xs,SqL K H a xs/\xs.length<=i⟩
def Itt(K:Rt)(a:Addr):It:=
 ⟨λi H=>∃xs x,SqT K H a xs/\xs[i]?=some x,λi H x H'=>H'=H/\∀xs,SqT K H a xs->xs[i]?=some x,λi H=>∃xs,SqT K H a xs/\xs.length<=i⟩
def Itr(lo:Int)(n:Nat):It:=⟨λi _=>i<n,λi H x H'=>H'=H/\x=.int (lo+i),λi _=>n<=i⟩
variable{P:Program}{w:World}
theorem D2{K:Rt}(a it:Addr):Turn P w K tg (Itl K a) [it] it (λi h=>h.IsListIter it a i) where
 mem:=by simp
 obj:=λi h st b hb=>by
  have e:b=it:=by simpa using hb
  subst e;obtain⟨o,e,c,d⟩:=st;exact⟨o,e,λv z=>by rw[d]at z;cases z⟩
 keep:=λi h h' st k=>st.at λo e=>k it (by simp) o e
 item:=by
  intro X hP hw hK hc i pins s σ H E I hf st hg;subst hP hw hK;obtain⟨xs,x,hq,hx⟩:=hg;obtain⟨its,rv,p,hz⟩:=I.list hq;obtain⟨u,hu,ru⟩:=rv.get hx;obtain⟨f0,f1,f2,f3,f4,f5⟩:=hf it (by simp);refine wpAny_pyNext_list_item st p.isList (x:=u) (by simpa using hu) λh' st' sb=>?_;have I1:Inv X pins σ H {s with heap:=h'}:=I.turned (t':=s.toks) (λb o hb e=>(sb.2 b hb).trans e) f0 f1 f3 f4 f5;obtain⟨o,e,c,d⟩:=id st';exact⟨u,rfl,DB (s:={s with heap:=h'}) e c d (by decide) ⟨x,H,I1,ru,⟨rfl,λys hy=>by rw[I.iH hy hq];exact hx⟩,st',λb hb=>(hf b hb).1⟩⟩
 done:=by
  intro X hP hw hK hc i pins s σ H E I hf st hg;subst hP hw hK;obtain⟨xs,hq,hx⟩:=hg;obtain⟨its,rv,p,hz⟩:=I.list hq;obtain⟨f0,f1,f2,f3,f4,f5⟩:=hf it (by simp);have hl:=rv.length;exact wpAny_pyNext_list_end (I.ok.hd hc) st p.isList (by simp;omega) λh' eb=>⟨rfl,I.turned (t':=s.toks) (λb o hb e=>eb b o hb e) f0 f1 f3 f4 f5⟩
 self:=λ_ _ _ _ _ st h=>wpAny_pyIter_listiter st h
theorem BI{K:Rt}(a it:Addr):Turn P w K tg (Itt K a) [it] it (λi h=>h.IsTupleIter it a i) where
 mem:=by simp
 obj:=λi h st b hb=>by
  have e:b=it:=by simpa using hb
  subst e;obtain⟨o,e,c,d⟩:=st;exact⟨o,e,λv z=>by rw[d]at z;cases z⟩
 keep:=λi h h' st k=>st.at λo e=>k it (by simp) o e
 item:=by
  intro X hP hw hK hc i pins s σ H E I hf st hg;subst hP hw hK;obtain⟨xs,x,hq,hx⟩:=hg;obtain⟨its,rv,p,hz⟩:=I.tuple hq;obtain⟨u,hu,ru⟩:=rv.get hx;obtain⟨f0,f1,f2,f3,f4,f5⟩:=hf it (by simp);refine wpAny_pyNext_tuple_item st (show s.heap.IsTuple a its.toArray from p) (x:=u) (by simpa using hu) λh' st' sb=>?_;have I1:Inv X pins σ H {s with heap:=h'}:=I.turned (t':=s.toks) (λb o hb e=>(sb.2 b hb).trans e) f0 f1 f3 f4 f5;obtain⟨o,e,c,d⟩:=id st';exact⟨u,rfl,DB (s:={s with heap:=h'}) e c d (by decide) ⟨x,H,I1,ru,⟨rfl,λys hy=>by rw[I.D4 hy hq];exact hx⟩,st',λb hb=>(hf b hb).1⟩⟩
 done:=by
  intro X hP hw hK hc i pins s σ H E I hf st hg;subst hP hw hK;obtain⟨xs,hq,hx⟩:=hg;obtain⟨its,rv,p,hz⟩:=I.tuple hq;obtain⟨f0,f1,f2,f3,f4,f5⟩:=hf it (by simp);have hl:=rv.length;exact wpAny_pyNext_tuple_end (I.ok.hd hc) st (show s.heap.IsTuple a its.toArray from p) (by simp;omega) λh' eb=>⟨rfl,I.turned (t':=s.toks) (λb o hb e=>eb b o hb e) f0 f1 f3 f4 f5⟩
 self:=λ_ _ _ _ _ st h=>wpAny_pyIter_tupleiter st h
theorem BJ{K:Rt}(it:Addr)(lo:Int)(n:Nat):Turn P w K tg (Itr lo n) [it] it (λi h=>IsRangeIter h it (lo+(i:Nat)*1) ((n:Int)-(i:Nat)) 1) where
 mem:=by simp
 obj:=λi h st b hb=>by
  have e:b=it:=by simpa using hb
  subst e;exact⟨_,st,λv z=>by
   have z':Data.fields _=Data.cell v:=z;cases z'⟩
 keep:=λi h h' st k=>k it (by simp) _ st
 item:=by
  intro X hP hw hK hc i pins s σ H E I hf st hg;subst hP hw hK;obtain⟨f0,f1,f2,f3,f4,f5⟩:=hf it (by simp);have W:=Walks.range (prog:=X.prog) (w:=X.w) (I.ok.hd hc) it lo 1 n;refine W.item i s _ _ hg st λv h' tk hv st' kk=>?_;obtain⟨t,rfl⟩:=hv;have I1:Inv X pins σ H {s with heap:=h',toks:=tk}:=I.turned (λb o hb e=>kk b o (by simpa using hb) e) f0 f1 f3 f4 f5;refine⟨_,rfl,DB (s:={s with heap:=h',toks:=tk}) (n:="range_iterator") st' rfl rfl (by decide) ⟨.int (lo+i),H,I1,⟨t,?_⟩,⟨rfl,rfl⟩,st',λb hb=>(hf b hb).1⟩⟩;rw[Int.mul_one]
 done:=by
  intro X hP hw hK hc i pins s σ H E I hf st hg;subst hP hw hK;obtain⟨f0,f1,f2,f3,f4,f5⟩:=hf it (by simp);exact wpAny_pyNext_range_end (I.ok.hd hc) st (by have:n<=i:=hg;omega) λh' eb=>⟨rfl,I.turned (t':=s.toks) (λb o hb e=>eb b o hb e) f0 f1 f3 f4 f5⟩
 self:=λ_ _ _ _ _ st h=>wpAny_pyIter_rangeiter st h
section
variable{X:Cx}{tg:Expr}
def Lc(K:Rt)(tl:TE):TI:=λσ H R=>tl σ H λx H1=>∃a,x=.ref a/\(∃xs,SqL K H1 a xs)/\R (Itl K a) H1
def My(K:Rt)(tl:TE):TI:=λσ H R=>tl σ H λx H1=>∃a,x=.ref a/\(∃xs,SqT K H1 a xs)/\R (Itt K a) H1
theorem gq{l:Expr}{tl:TE}(hl:PE X l tl):PI X tg l (Lc X.K tl):=by
 intro pins s σ H R I h;refine thn (hl pins s σ H _ I h) λv s1 ⟨x,H1,I1,r1,q1⟩=>?_;obtain⟨a,e,⟨xs,hq⟩,q⟩:=q1;subst e;cases r1;obtain⟨its,rv,p,hz⟩:=I1.list hq;refine P7 p.isList ?_;refine⟨s1.heap.objs.size,[s1.heap.objs.size],_,_,H1,rfl,I1.kept (t':=s1.toks) λb o e=>Nl _ e,D2 a _,⟨_,NP _ rfl,rfl,rfl⟩,λb hb=>?_,q⟩;have e:b=s1.heap.objs.size:=by simpa using hb
 subst e;exact I1.Bc (Nq _) (I1.hok.fresh (Nq _))
theorem Jl{l:Expr}{tl:TE}(hl:PE X l tl):PI X tg l (My X.K tl):=by
 intro pins s σ H R I h;refine thn (hl pins s σ H _ I h) λv s1 ⟨x,H1,I1,r1,q1⟩=>?_;obtain⟨a,e,⟨xs,hq⟩,q⟩:=q1;subst e;cases r1;obtain⟨its,rv,p,hz⟩:=I1.tuple hq;refine wpAny_pyIter_tuple (show s1.heap.IsTuple a its.toArray from p) ?_;refine⟨s1.heap.objs.size,[s1.heap.objs.size],_,_,H1,rfl,I1.kept (t':=s1.toks) λb o e=>Nl _ e,BI a _,⟨_,NP _ rfl,rfl,rfl⟩,λb hb=>?_,q⟩;have e:b=s1.heap.objs.size:=by simpa using hb
 subst e;exact I1.Bc (Nq _) (I1.hok.fresh (Nq _))
theorem Fs{R:It->Hp->Prop}{E:Rv}{lo hi:Int}{t u v:Tok}{tk:Nat}(I:Inv X pins σ H s)(h1:-(2^62)<=lo)(h2:lo<2^62)(h3:-(2^62)<=hi)(h4:hi<2^62)
  (q:R (Itr lo (hi-lo).toNat) H):wpAny (model X.prog X.w) X.A (pyIter (.ref s.heap.objs.size)) (PIE X pins σ tg R) E {s with heap:=s.heap.push {cls:=.type "range",data:=.fields #[.int lo t,.int hi u,.int 1 v]},toks:=tk}:=by
 refine wpAny_pyIter_range (IsRange.new ..) (small_one h1 h2 h3 h4) ?_;have I1:Inv X pins σ H {s with heap:=s.heap.push {cls:=.type "range",data:=.fields #[.int lo t,.int hi u,.int 1 v]},toks:=tk}:=I.kept λb o e=>Nl _ e;refine⟨(s.heap.push {cls:=.type "range",data:=.fields #[.int lo t,.int hi u,.int 1 v]}).objs.size,[(s.heap.push {cls:=.type "range",data:=.fields #[.int lo t,.int hi u,.int 1 v]}).objs.size],_,_,H,rfl,
  I1.kept (t':=tk) λb o e=>Nl _ e,BJ _ lo (hi-lo).toNat,?_,λb hb=>?_,q⟩
 ·have e1:lo+((0:Nat):Int)*1=lo:=by simp
  have e2:(((hi-lo).toNat:Nat):Int)-((0:Nat):Int)=Builtin.Range.rangeSize lo hi 1:=by rw[rangeSize_one];split<;>omega
  show IsRangeIter _ _ (lo+((0:Nat):Int)*1) ((((hi-lo).toNat:Nat):Int)-((0:Nat):Int)) 1;rw[e1,e2];exact NP _ rfl
 ·have e:b=(s.heap.push {cls:=.type "range",data:=.fields #[.int lo t,.int hi u,.int 1 v]}).objs.size:=by simpa using hb
  subst e;exact I1.Bc (Nq _) (I1.hok.fresh (Nq _))
def Lb(ta:TA):TI:=λσ H R=>ta σ H λvs H1=>∃j:Int,vs=[.int j]/\-(2^62)<=j/\j<2^62/\R (Itr 0 j.toNat) H1
variable{pos:Pos}
theorem fA{a:Expr}{ta:TA}{p:Pos}(hg:Gl X "range")(hm:X.mg "range"=none)(ha:PA X [a] ta)(hs:starEach [a] X.env=[(false,eval a X.env)]:=by rfl):PI X tg (.Call (.Name "range" p) [a] [] pos) (Lb ta):=by
 intro pins s σ H R I h;refine Call_ (p6 I hg hm boot_range (PyProof.Rows.callWith_type1 (thn (ha pos pins s σ H _ I h) λus s1 ⟨vs,H1,I1,r1,q1⟩=>?_) hs rfl));obtain⟨j,e,q1,q2,q⟩:=q1;subst e;cases r1 with
 |cons r rr=>
  cases rr;obtain⟨t,rfl⟩:=r;exact call_range_1 (Fs I1 (by omega) (by omega) q1 q2 (by simpa using q))
def LV(wi:TI)(g:TG)(tb:TS):TS:=λD σ H=>wi σ H λJ H1=>∃W:Nat->Nat->St->Hp->Prop,(∃m,W 0 m σ H1)/\∀i m σ H,W i m σ H->
 (J.stop i H/\D.nx σ H)∨(J.go i H/\∃N:St->Hp->Prop,(∀σ' H',N σ' H'->∃m',m'<m/\W (i+1) m' σ' H')/\∀x H',J.yld i H x H'->g x σ H' λσ2 H2=>tb {D with nx:=N,ct:=N,bk:=D.nx} σ2 H2)
def vm(fp:List Addr)(h:Heap):List (Addr×Obj):=fp.filterMap λb=>(h.get? b).map λo=>(b,o)
variable{fp:List Addr}
theorem pZ(hb:b∈fp)(e:h.get? b=some o):(b,o)∈vm fp h:=Rc.mpr ⟨b,hb,by rw[e];rfl⟩
theorem El{p:Addr×Obj}(hp:p∈vm fp h):p.1∈fp/\h.get? p.1=some p.2:=by
 obtain⟨b,hb,e⟩:=Rc.mp hp;cases q:h.get? b with
 |none=>rw[q]at e;cases e
 |some o=>
  rw[q]at e;have e':(b,o)=p:=Nm e;subst e';exact⟨hb,q⟩
theorem Inv.pinned(I:Inv X pins σ H s)(hf:∀b∈fp,ue X pins H b)(ho:∀b∈fp,∃o,s.heap.get? b=some o/\∀v,o.data≠.cell v):Inv X (pins++vm fp s.heap) σ H s:=
 I.Dc λp hp=>(Np.mp hp).elim (λz=>I.pin p (N8 _ z)) λz=>by
  obtain⟨hb,e⟩:=El z;obtain⟨f0,f1,f2,_⟩:=hf p.1 hb;obtain⟨o,e',d⟩:=ho p.1 hb;rw[e]at e';cases e';exact⟨e,f0,f1,f2,d⟩
theorem Inv.qo{pl:List (Addr×Obj)}(I:Inv X (pins++pl) σ H s):Inv X pins σ H s:=I.Dc λp hp=>I.pin p (N8 _ (P9 _ hp))
theorem cu{iter:Expr}{body:List Stmt}{wi:TI}{g:TG}{tb:TS}(hp:PassesOwn (model X.prog X.w) X.A X.env X.xe)(hc:X.calm=true)(hi:PI X tg iter wi)(hg:PG X tg g)(hb:PSs X body tb)
  (hs:∀x,foldedSetIterable iter X.env x=pure x:=by intro _;rfl):PS X (.For tg iter body [] pos) (LV wi g tb):=by
 intro pins s σ H D I h;refine wpAny_For (thn (hi pins s σ H _ I h) λv s1 h1=>thn h1 λitv s2 h2=>?_) hs;obtain⟨it,fp,tn,J,H2,e,I2,T,st2,f2,W,⟨m0,w0⟩,turn⟩:=h2;subst e;have BM:∀{H':Hp},(∀b∈fp,H' b=none)->∀b∈fp,ue X pins H' b:=λhn b hb=>⟨hn b hb,(f2 b hb).2⟩;refine codeAny_forLoop_any (λn s'=>∃i σ' H',Inv X pins σ' H' s'/\tn i s'.heap/\(∀b∈fp,H' b=none)/\W i n σ' H') ?_ m0 ⟨0,σ,H2,I2,st2,λb hb=>(f2 b hb).1,w0⟩;rintro n s3 ⟨i,σ3,H3,I3,st3,fr3,w3⟩;rcases turn i n σ3 H3 w3 with⟨stop,qn⟩|⟨go,N,hN,step⟩
 ·refine Pz hp (thn (T.done X rfl rfl rfl hc i pins s3 σ3 H3 X.xe I3 (BM fr3) st3 stop) λr s4 ⟨hr,I4⟩=>?_);subst hr;exact QY ⟨σ3,H3,I4,qn⟩
 ·refine Pz hp (thn (T.item X rfl rfl rfl hc i pins s3 σ3 H3 X.xe I3 (BM fr3) st3 go) λr s4 ⟨u,hr,h4⟩=>?_);subst hr;refine Pz hp (thn h4 λ_ s5 ⟨x,H5,I5,r5,y5,st5,fr5⟩=>?_);have I5':=I5.pinned (BM fr5) (T.obj _ _ st5);refine Pz hp (thn (hg _ s5 σ3 H5 x u _ I5' r5 (step x H5 y5)) λ_ s6 ⟨σ6,H6,I6,q6⟩=>?_);refine Pz hp (thn (hb _ s6 σ6 H6 _ I6 q6) λf s7 q7=>?_);have again:∀{σ7:St}{H7:Hp},Inv X (pins++vm fp s5.heap) σ7 H7 s7->N σ7 H7->∃m,m<n/\∃i σ' H',Inv X pins σ' H' s7/\tn i s7.heap/\(∀b∈fp,H' b=none)/\W i m σ' H':=λ{σ7 H7} I7 n7=>by
   obtain⟨m',hm,w7⟩:=hN σ7 H7 n7;refine⟨m',hm,i+1,σ7,H7,I7.qo,T.keep _ _ _ st5 λb hb o e=>(I7.pin (b,o) (N8 _ (N8 _ (pZ hb e)))).1,λb hb=>?_,w7⟩;obtain⟨o,e,d⟩:=T.obj _ _ st5 b hb;exact(I7.pin (b,o) (N8 _ (N8 _ (pZ hb e)))).2.1
  cases f with
  |next=>obtain⟨σ7,H7,I7,n7⟩:=q7;exact again I7 n7
  |cont=>obtain⟨σ7,H7,I7,n7⟩:=q7;exact again I7 n7
  |brk=>obtain⟨σ7,H7,I7,q7⟩:=q7;exact⟨σ7,H7,I7.qo,q7⟩
  |ret v=>obtain⟨x7,σ7,H7,I7,r7,q7⟩:=q7;exact⟨x7,σ7,H7,I7.qo,r7,q7⟩
end
theorem jU{K:Rt}{xs:List V}{g:TG}{tb:TS}{D:Ends}(Pv:Nat->St->Hp->Prop)(h0:Pv 0 σ H)(hl:∀i σ H,i<=xs.length->Pv i σ H->SqL K H a xs)
  (hs:∀i x σ H,xs[i]?=some x->Pv i σ H->g x σ H λσ2 H2=>tb {D with nx:=Pv (i+1),ct:=Pv (i+1),bk:=D.nx} σ2 H2)(hd:∀σ H,Pv xs.length σ H->D.nx σ H):
  ∃W:Nat->Nat->St->Hp->Prop,(∃m,W 0 m σ H)/\∀i m σ H,W i m σ H->
   ((Itl K a).stop i H/\D.nx σ H)∨((Itl K a).go i H/\∃N:St->Hp->Prop,(∀σ' H',N σ' H'->∃m',m'<m/\W (i+1) m' σ' H')/\∀x H',(Itl K a).yld i H x H'->g x σ H' λσ2 H2=>tb {D with nx:=N,ct:=N,bk:=D.nx} σ2 H2):=by
 refine⟨λi m σ H=>m=xs.length-i/\i<=xs.length/\Pv i σ H,⟨xs.length,by simp,NT _,h0⟩,?_⟩;rintro i m σ H ⟨rfl,hi,p⟩;have q:=hl i σ H hi p;by_cases hlt:i<xs.length
 ·refine .inr ⟨⟨xs,xs[i],q,by simp[hlt]⟩,Pv (i+1),λσ' H' p'=>⟨xs.length-(i+1),by omega,rfl,hlt,p'⟩,λx H' y=>?_⟩;obtain⟨e,y⟩:=y;subst e;exact hs i x σ _ (y xs q) p
 ·have e:i=xs.length:=by omega
  subst e;exact .inl ⟨⟨xs,q,Nq _⟩,hd σ H p⟩
theorem jT{lo:Int}{n:Nat}{g:TG}{tb:TS}{D:Ends}(Pv:Nat->St->Hp->Prop)(h0:Pv 0 σ H)
  (hs:∀i σ H,i<n->Pv i σ H->g (.int (lo+i)) σ H λσ2 H2=>tb {D with nx:=Pv (i+1),ct:=Pv (i+1),bk:=D.nx} σ2 H2)(hd:∀σ H,Pv n σ H->D.nx σ H):
  ∃W:Nat->Nat->St->Hp->Prop,(∃m,W 0 m σ H)/\∀i m σ H,W i m σ H->
   ((Itr lo n).stop i H/\D.nx σ H)∨((Itr lo n).go i H/\∃N:St->Hp->Prop,(∀σ' H',N σ' H'->∃m',m'<m/\W (i+1) m' σ' H')/\∀x H',(Itr lo n).yld i H x H'->g x σ H' λσ2 H2=>tb {D with nx:=N,ct:=N,bk:=D.nx} σ2 H2):=by
 refine⟨λi m σ H=>m=n-i/\i<=n/\Pv i σ H,⟨n,by simp,NT _,h0⟩,?_⟩;rintro i m σ H ⟨rfl,hi,p⟩;by_cases hlt:i<n
 ·refine .inr ⟨hlt,Pv (i+1),λσ' H' p'=>⟨n-(i+1),by omega,rfl,hlt,p'⟩,λx H' y=>?_⟩;obtain⟨e,y⟩:=y;subst e y;exact hs i σ _ hlt p
 ·have e:i=n:=by omega
  subst e;exact .inl ⟨Nq _,hd σ H p⟩
abbrev R2:=V->V->Hp->VK->Prop
def OpR(X:Cx)(f:Value->Value->Sem Value)(r:R2):Prop:=
 ∀(pins:List (Addr×Obj))(s:Shared)(σ:St)(H:Hp)(x y:V)(v u:Value)(Q:VK),Inv X pins σ H s->RelV x v->RelV y u->r x y H Q->
  wpAny (model X.prog X.w) X.A (f v u) (EP X pins σ Q) X.xe s
def UnR(X:Cx)(f:Value->Sem Value)(r:V->Hp->VK->Prop):Prop:=
 ∀(pins:List (Addr×Obj))(s:Shared)(σ:St)(H:Hp)(x:V)(v:Value)(Q:VK),Inv X pins σ H s->RelV x v->r x H Q->
  wpAny (model X.prog X.w) X.A (f v) (EP X pins σ Q) X.xe s
def tK(X:Cx)(f:Value)(r:List V->Hp->VK->Prop):Prop:=
 ∀(pins:List (Addr×Obj))(s:Shared)(σ:St)(H:Hp)(xs:List V)(us:List Value)(Q:VK),Inv X pins σ H s->Vals xs us->r xs H Q->
  wpAny (model X.prog X.w) X.A (call f us) (EP X pins σ Q) X.xe s
def K7(r:R2)(Q:VK)(x y:V)(H:Hp):Prop:=r x y H Q
def kOp(r:R2)(tb:TE)(σ:St)(Q:VK)(x:V)(H:Hp):Prop:=tb σ H (K7 r Q x)
def tOp(r:R2)(ta tb:TE):TE:=λσ H Q=>ta σ H (kOp r tb σ Q)
def tUn(r:V->Hp->VK->Prop)(ta:TE):TE:=λσ H Q=>ta σ H λx H1=>r x H1 Q
inductive II(C:Int->Int->Prop)(g:Int->Int->V)(x y:V)(H:Hp)(Q:VK):Prop|mk (i j:Int):x=.int i->y=.int j->C i j->Q (g i j) H->II C g x y H Q
def rI(C:Int->Int->Prop)(g:Int->Int->V):R2:=II C g
inductive II0(g:Int->Int->V)(x y:V)(H:Hp)(Q:VK):Prop|mk (i j:Int):x=.int i->y=.int j->Q (g i j) H->II0 g x y H Q
def rI0(g:Int->Int->V):R2:=II0 g
def rU(g:Int->V):V->Hp->VK->Prop:=λx H Q=>∃i,x=.int i/\Q (g i) H
section
variable{X:Cx}{a b c:Expr}{ta tb tc:TE}{pos:Pos}
variable{f:Value->Value->Sem Value}
theorem J8(ha:PE X a ta)(hb:PE X b tb){R:V->V->Hp->Prop}(I:Inv X pins σ H s)
  (h:ta σ H λx H1=>tb σ H1 λy H2=>R x y H2){Q:Rv}
  (hf:∀v u s2 x y H2,Inv X pins σ H2 s2->RelV x v->RelV y u->R x y H2->wpAny (model X.prog X.w) X.A (f v u) Q X.xe s2):
  wpAny (model X.prog X.w) X.A (eval a X.env) (λv s₁=>wpAny (model X.prog X.w) X.A (eval b X.env) (λu s₂=>wpAny (model X.prog X.w) X.A (f v u) Q X.xe s₂) X.xe s₁) X.xe s:=by
 refine thn (ha pins s σ H _ I h) λv s1 ⟨x,H1,I1,r1,q1⟩=>?_;refine thn (hb pins s1 σ H1 _ I1 q1) λu s2 ⟨y,H2,I2,r2,q2⟩=>?_;exact hf v u s2 x y H2 I2 r1 r2 q2
theorem aI{op:Operator}{r:R2}(ho:OpR X (binaryOp op) r)(ha:PE X a ta)(hb:PE X b tb):PE X (.BinOp a op b pos) (tOp r ta tb):=by
 intro pins s σ H Q I h;exact wpAny_BinOp (J8 ha hb I h λv u s2 x y H2 I2 rx ry q=>ho pins s2 σ H2 x y v u Q I2 rx ry q)
theorem gS{op:UnaryOp}{r:V->Hp->VK->Prop}(ho:UnR X (unaryOp op) r)(ha:PE X a ta):PE X (.UnaryOp op a pos) (tUn r ta):=by
 intro pins s σ H Q I h;exact UnaryOp_ (thn (ha pins s σ H _ I h) λv s1 ⟨x,H1,I1,r1,q1⟩=>ho pins s1 σ H1 x v Q I1 r1 q1)
variable{g:Int->Int->Int}
theorem opI{C:Int->Int->Prop}
  (rule:∀(i j:Int)(t u:Tok)(s:Shared)(Q:Rv)(E:Rv),C i j->Q (.int (g i j) s.toks) {s with toks:=s.toks+1}->wpAny (model X.prog X.w) X.A (f (.int i t) (.int j u)) Q E s):
  OpR X f (rI C λi j=>.int (g i j)):=by
 intro pins s σ H x y v u Q I rx ry h;obtain⟨i,j,rfl,rfl,hc,q⟩:=h;obtain⟨t,rfl⟩:=rx;obtain⟨t',rfl⟩:=ry;exact rule i j t t' s _ _ hc ⟨.int (g i j),H,I.tok _,⟨_,rfl⟩,q⟩
theorem B7
  (rule:∀(i j:Int)(t u:Tok)(s:Shared)(Q:Rv)(E:Rv),Q (.int (g i j) s.toks) {s with toks:=s.toks+1}->wpAny (model X.prog X.w) X.A (f (.int i t) (.int j u)) Q E s):
  OpR X f (rI0 λi j=>.int (g i j)):=by
 intro pins s σ H x y v u Q I rx ry h;obtain⟨i,j,rfl,rfl,q⟩:=h;obtain⟨t,rfl⟩:=rx;obtain⟨t',rfl⟩:=ry;exact rule i j t t' s _ _ ⟨.int (g i j),H,I.tok _,⟨_,rfl⟩,q⟩
theorem Hj{g:Int->Int->Bool}
  (rule:∀(i j:Int)(t u:Tok)(s:Shared)(Q:Rv)(E:Rv),Q (.bool (g i j)) s->wpAny (model X.prog X.w) X.A (f (.int i t) (.int j u)) Q E s):
  OpR X f (rI0 λi j=>.bl (g i j)):=by
 intro pins s σ H x y v u Q I rx ry h;obtain⟨i,j,rfl,rfl,q⟩:=h;obtain⟨t,rfl⟩:=rx;obtain⟨t',rfl⟩:=ry;exact rule i j t t' s _ _ ⟨.bl (g i j),H,I,rfl,q⟩
def Kj(i j:Int):Prop:=0<=j/\j<=1000000/\i.natAbs<2^64
def Kk(i j:Int):Prop:=(-(2^64)<i/\i<2^64)∨(-(2^64)<j/\j<2^64)
theorem Kk.ok{i j:Int}(h:Kk i j):IntMulOk i j:=by
 rcases h with⟨h1,h2⟩|⟨h1,h2⟩
 ·exact .of_left (intBits_le_64 h1 h2)
 ·exact .of_right (intBits_le_64 h1 h2)
theorem BG(k:Nat):(0:Int)<=2^k:=by
 rw[two_pow_cast];exact OW _
theorem fJ:OpR X (binaryOp .Add) (rI0 λi j=>.int (i+j)):=B7 λ_ _ _ _ _ _ _ q=>add_int q
theorem dh:OpR X (binaryOp .Sub) (rI0 λi j=>.int (i-j)):=B7 λ_ _ _ _ _ _ _ q=>sub_int q
theorem B6:OpR X (binaryOp .Mult) (rI Kk λi j=>.int (i*j)):=opI λ_ _ _ _ _ _ _ hc q=>mul_int q hc.ok
theorem iD:OpR X (binaryOp .LShift) (rI Kj λi j=>.int (i*2^j.toNat)):=opI λ_ _ _ _ _ _ _ hc q=>lshift_int_small hc.1 hc.2.1 hc.2.2 q
theorem mP:OpR X (binaryOp .RShift) (rI (λ_ j=>0<=j) λi j=>.int (i/2^j.toNat)):=opI λi j _ _ _ _ _ hc q=>
 rshift_int hc (by rw[Int.fdiv_eq_ediv_of_nonneg i (BG _)];exact q)
theorem fg:OpR X (binaryOp .BitAnd) (rI0 λi j=>.int (Builtin.bitAnd i j)):=B7 λ_ _ _ _ _ _ _ q=>and_int q
theorem xF:OpR X (binaryOp .BitOr) (rI0 λi j=>.int (Builtin.bitOr i j)):=B7 λ_ _ _ _ _ _ _ q=>or_int q
theorem B5:OpR X (binaryOp .BitXor) (rI0 λi j=>.int (Builtin.bitXor i j)):=B7 λ_ _ _ _ _ _ _ q=>xor_int q
theorem uz:OpR X (inplaceOp .Add) (rI0 λi j=>.int (i+j)):=B7 λ_ _ _ _ _ _ _ q=>iadd_int q
theorem Cr:OpR X (inplaceOp .BitOr) (rI0 λi j=>.int (Builtin.bitOr i j)):=B7 λ_ _ _ _ _ _ _ q=>ior_int q
theorem unI{f:Value->Sem Value}{g:Int->Int}
  (rule:∀(i:Int)(t:Tok)(s:Shared)(Q:Rv)(E:Rv),Q (.int (g i) s.toks) {s with toks:=s.toks+1}->wpAny (model X.prog X.w) X.A (f (.int i t)) Q E s):
  UnR X f (rU λi=>.int (g i)):=by
 intro pins s σ H x v Q I rx h;obtain⟨i,rfl,q⟩:=h;obtain⟨t,rfl⟩:=rx;exact rule i t s _ _ ⟨.int (g i),H,I.tok _,⟨_,rfl⟩,q⟩
theorem eG:UnR X (unaryOp .USub) (rU λi=>.int (-i)):=unI λ_ _ _ _ _ q=>neg_int q
end
def LY:V->V->Bool
 |.non,.non=>true|.non,.int _=>true|.int _,.non=>true|.non,.bl _=>true|.bl _,.non=>true|.non,.str _=>true|.str _,.non=>true
 |.int _,.int _=>true|.bl _,.bl _=>true|.str _,.str _=>true|.byt _,.byt _=>true
 |.int _,.str _=>true|.str _,.int _=>true|.bl _,.str _=>true|.str _,.bl _=>true
 |_,_=>false
def rEq:R2:=λx y H Q=>LY x y=true/\Q (.bl (decide (x=y))) H
theorem Ia{i j:Int}:decide (V.int i=V.int j)=(i==j):=by
 rw[OO];simp
theorem J3{i j:Bool}:decide (V.bl i=V.bl j)=(i==j):=by
 rw[OO];simp
theorem HZ{i j:Str}:decide (V.str i=V.str j)=(i==j):=by
 rw[OO];simp
theorem Ib{i j:Array UInt8}:decide (V.byt i=V.byt j)=(i.toList==j.toList):=by
 rw[OO];cases i;cases j;simp
section
variable{X:Cx}{a b c:Expr}{ta tb tc:TE}{pos:Pos}
theorem fj{Q:VK}{k k':Bool}(I:Inv X pins σ H s)(q:Q (.bl k) H)(e:k=k'):EP X pins σ Q (.bool k') s:=by
 subst e;exact⟨.bl k,H,I,rfl,q⟩
theorem bH:OpR X (compareOp .Eq) rEq:=by
 intro pins s σ H x y v u Q I rx ry h;obtain⟨hs,q⟩:=h;cases x with
 |non=>
  cases rx;cases y with
  |non=>cases ry;exact PySem.EqNone.eq_none_none (fj I q (by simp))
  |bl j=>cases ry;exact PySem.EqNone.eq_none_bool (fj I q (by simp))
  |int j=>obtain⟨t',rfl⟩:=ry;exact PySem.EqNone.eq_none_int (fj I q (by simp))
  |str j=>obtain⟨t',rfl⟩:=ry;exact PySem.EqNone.eq_none_str (fj I q (by simp))
  |_=>exact absurd (show false=true from hs) NI
 |bl i=>
  cases rx;cases y with
  |non=>cases ry;exact PySem.EqNone.eq_bool_none (fj I q (by simp))
  |bl j=>cases ry;exact eq_bool (fj I q J3)
  |str j=>obtain⟨t',rfl⟩:=ry;exact PySem.EqMixed.eq_bool_str (fj I q (by simp))
  |_=>exact absurd (show false=true from hs) NI
 |int i=>
  obtain⟨t,rfl⟩:=rx;cases y with
  |non=>cases ry;exact PySem.EqNone.eq_int_none (fj I q (by simp))
  |int j=>obtain⟨t',rfl⟩:=ry;exact eq_int (fj I q Ia)
  |str j=>obtain⟨t',rfl⟩:=ry;exact PySem.EqMixed.eq_int_str (fj I q (by simp))
  |_=>exact absurd (show false=true from hs) NI
 |str i=>
  obtain⟨t,rfl⟩:=rx;cases y with
  |non=>cases ry;exact PySem.EqNone.eq_str_none (fj I q (by simp))
  |bl j=>cases ry;exact PySem.EqMixed.eq_str_bool (fj I q (by simp))
  |int j=>obtain⟨t',rfl⟩:=ry;exact PySem.EqMixed.eq_str_int (fj I q (by simp))
  |str j=>obtain⟨t',rfl⟩:=ry;exact eq_str (fj I q HZ)
  |_=>exact absurd (show false=true from hs) NI
 |byt i=>
  obtain⟨t,rfl⟩:=rx;cases y with
  |byt j=>obtain⟨t',rfl⟩:=ry;exact PySem.W.eq_bytes (fj I q Ib)
  |_=>exact absurd (show false=true from hs) NI
 |_=>cases y<;>exact absurd (show false=true from hs) NI
theorem sY:OpR X (compareOp .Lt) (rI0 λi j=>.bl (decide (i<j))):=Hj λ_ _ _ _ _ _ _ q=>lt_int q
theorem fB:OpR X (compareOp .LtE) (rI0 λi j=>.bl (decide (i<=j))):=Hj λ_ _ _ _ _ _ _ q=>le_int q
theorem oY:OpR X (compareOp .Gt) (rI0 λi j=>.bl (decide (j<i))):=Hj λ_ _ _ _ _ _ _ q=>gt_int q
theorem IC:OpR X (compareOp .GtE) (rI0 λi j=>.bl (decide (j<=i))):=Hj λ_ _ _ _ _ _ _ q=>ge_int q
variable{op:CmpOp}
theorem aU(b:Expr)(h:op≠.In:=by decide)(h2:op≠.NotIn:=by decide):behindInMarks op b=false:=by
 have e1:(op==CmpOp.In)=false:=by cases op<;>first|rfl|exact absurd rfl h
 have e2:(op==CmpOp.NotIn)=false:=by cases op<;>first|rfl|exact absurd rfl h2
 cases b<;>simp[behindInMarks,e1,e2]
variable{r:R2}
theorem uq(ho:OpR X (compareOp op) r)(ha:PE X a ta)(hb:PE X b tb)(hm:behindInMarks op b=false):PE X (.Compare a [op] [b] pos) (tOp r ta tb):=by
 intro pins s σ H Q I h;exact wpAny_Compare1 (J8 ha hb I h λv u s2 x y H2 I2 rx ry q=>ho pins s2 σ H2 x y v u Q I2 rx ry q) hm
def C1(t:TE):TT:=λσ H Q=>t σ H (IBl Q)
theorem aH(ho:OpR X (compareOp op) r)(ha:PE X a ta)(hb:PE X b tb)(hm:behindInMarks op b=false):PT X (.Compare a [op] [b] pos) (C1 (tOp r ta tb)):=by
 intro pins s σ H Q I h;refine wpAny_isTrue_Compare1 (thn (ha pins s σ H _ I h) λv s1 ⟨x,H1,I1,r1,q1⟩=>thn (hb pins s1 σ H1 _ I1 q1) λu s2 ⟨y,H2,I2,r2,q2⟩=>
  thn (ho pins s2 σ H2 x y v u _ I2 r1 r2 q2) λc s3 ⟨z,H3,I3,r3,k,e,q3⟩=>?_) hm
 subst e;cases r3;exact OT ⟨H3,I3,q3⟩
def kCh(r:R2)(tc:TE)(σ:St)(Q:VK)(y:V)(k:Bool)(H:Hp):Prop:=if k=true then tc σ H (K7 r Q y)else Q (.bl false) H
def Ms(r:R2)(tc:TE)(σ:St)(Q:VK)(y:V):VK:=IBl (kCh r tc σ Q y)
def Mr(r r':R2)(tb tc:TE)(σ:St)(Q:VK)(x:V)(H:Hp):Prop:=tb σ H λy H2=>r x y H2 (Ms r' tc σ Q y)
def Jb(r r':R2)(ta tb tc:TE):TE:=λσ H Q=>ta σ H (Mr r r' tb tc σ Q)
theorem dg{op':CmpOp}{r':R2}(ho:OpR X (compareOp op) r)(ho':OpR X (compareOp op') r')(ha:PE X a ta)(hb:PE X b tb)(hc:PE X c tc)
  (hm:lastMarks [op,op'] [b,c]=false:=by with_unfolding_all rfl):PT X (.Compare a [op,op'] [b,c] pos) (C1 (Jb r r' ta tb tc)):=by
 intro pins s σ H Q I h;refine isTrue_chain (thn (ha pins s σ H _ I h) λv s1 ⟨x,H1,I1,r1,q1⟩=>test_link (thn (hb pins s1 σ H1 _ I1 q1) λu s2 ⟨y,H2,I2,r2,q2⟩=>
  thn (ho pins s2 σ H2 x y v u _ I2 r1 r2 q2) λd s3 ⟨z,H3,I3,r3,k,e,q3⟩=>?_)) hm
 subst e;cases r3;refine OT ?_;cases k with
 |false=>
  obtain⟨k',e',q'⟩:=q3;cases e';exact ite_ff ⟨H3,I3,q'⟩
 |true=>
  refine ite_tt (test_last (thn (hc pins s3 σ H3 _ I3 q3) λw' s4 ⟨z',H4,I4,r4,q4⟩=>thn (ho' pins s4 σ H4 y z' u w' _ I4 r2 r4 q4) λd' s5 ⟨z2,H5,I5,r5,k2,e2,q5⟩=>?_));subst e2;cases r5;exact OT ⟨H5,I5,q5⟩
theorem yT:(sizeLine:Nat)<2^63:=by rw[sizeLine_eq];decide
theorem vals1(r:Vals [x] us):∃u,us=[u]/\RelV x u:=by
 cases r with
 |cons r1 r2=>cases r2;exact⟨_,rfl,r1⟩
theorem vals2(r:Vals [x,y] us):∃u w',us=[u,w']/\RelV x u/\RelV y w':=by
 cases r with
 |cons r1 r2=>
  cases r2 with
  |cons r3 r4=>cases r4;exact⟨_,_,rfl,r1,r3⟩
theorem ET(hc:X.calm=true):tK X (.builtin "max") (λxs H Q=>∃i j,xs=[.int i,.int j]/\Q (.int (if j>i then j else i)) H):=by
 intro pins s σ H xs us Q I r h;obtain⟨i,j,rfl,q⟩:=h;obtain⟨u,w',rfl,⟨t,rfl⟩,⟨t',rfl⟩⟩:=vals2 r;refine max_two_ints (I.ok.hd hc) λh' tk k=>⟨_,H,I.kept k,?_,q⟩;by_cases hj:j>i
 ·rw[Nz hj,Nz hj];exact⟨_,rfl⟩
 ·rw[Nt hj,Nt hj];exact⟨_,rfl⟩
theorem ES(hc:X.calm=true):tK X (.builtin "min") (λxs H Q=>∃i j,xs=[.int i,.int j]/\Q (.int (if j<i then j else i)) H):=by
 intro pins s σ H xs us Q I r h;obtain⟨i,j,rfl,q⟩:=h;obtain⟨u,w',rfl,⟨t,rfl⟩,⟨t',rfl⟩⟩:=vals2 r;refine min_two_ints (I.ok.hd hc) λh' tk k=>⟨_,H,I.kept k,?_,q⟩;by_cases hj:j<i
 ·rw[Nz hj,Nz hj];exact⟨_,rfl⟩
 ·rw[Nt hj,Nt hj];exact⟨_,rfl⟩
end
structure CO(h:Heap)(x dx C:Addr)(mA:Ru):Prop where
 obj:h.get? x=some (PySem.W.instObj C dx)
 ns:h.Ns1 dx mA
 ne:dx≠x
variable{dx:Addr}
theorem Eu{mA:Ru}(n:h.Ns1 dx mA):∃od,h.get? dx=some od/\∀name,PySem.W.lookIn name od=some (mA name):=by
 obtain⟨o,es,ep,ho,hd,hk,_,hm⟩:=n;refine⟨o,ho,λname=>?_⟩;have e:=hm name;unfold nsFind findBy at e;rw[<-Array.find?_toList]at e;unfold PySem.W.lookIn;rw[hd];dsimp only;split
 ·rename_i y q
  rw[q]at e;exact congrArg some e
 ·rename_i q
  rw[q]at e;have a:es.toList.any (·.refKey)=false:=by
   rw[Pe];intro y hy;obtain⟨z,t,yY⟩:=hk y (Array.mem_toList_iff.mp hy);simp[DictEntry.refKey,yY]
  have a':¬es.toList.any (·.refKey)=true:=by rw[a];exact NI
  rw[Nt a'];exact congrArg some e
theorem CO.look{x C:Addr}{mA:Ru}(I:CO h x dx C mA):∃od,PySem.W.InstAt h x (PySem.W.instObj C dx) C (some od)/\∀name,PySem.W.lookIn name od=some (mA name):=
 let ⟨od,ho,hl⟩:=Eu I.ns
 ⟨od,⟨I.obj,rfl,rfl,ho⟩,hl⟩
section
variable{prog:Program}{w:World}{A:Around}{E:Rv}{s:Shared}{K:Rt}{x dx C f:Addr}{mA:Ru}{name:Str}{v:Value}
theorem get_map{expr:Bool}{Q:Rv}(X:K.In s.heap)(I:CO s.heap x dx C mA)(hg:PySem.W.plainGet K C name=true)(hh:PySem.W.hasDictIn K C=true)
  (ha:PySem.W.findIn K (.ref C) name=some none)(hv:mA name=some v)(hv':PySem.W.handedIn v=true)(h:Q v {s with toks:=s.toks+1}):
  wpAny (model prog w) A (getAttr (.ref x) name expr) Q E s:=by
 obtain⟨od,J,hl⟩:=I.look;exact PySem.W.get_value X J (QZ hg).1 (PySem.W.findObj_own hh ha rfl (by rw[hl,hv])) hv' h
theorem Gf{pl:Sem Bool}{Q:Value×List Value->Shared->Prop}(X:K.In s.heap)(I:CO s.heap x dx C mA)(hg:PySem.W.plainGet K C name=true)
  (hf:PySem.W.findIn K (.ref C) name=some (some (.ref f)))(ht:PySem.W.isFn K (.ref f)=true)(hv:mA name=none)(h:Q (.ref f,[.ref x]) s):
  wpAny (model prog w) A (getMethod (.ref x) name pl) Q E s:=by
 obtain⟨od,J,hl⟩:=I.look;exact PySem.W.method_fn X J (QZ hg).1 (QZ hg).2 hf (Rj.mp ht) (by show(PySem.W.lookIn name od).map (·.isSome)=some false;rw[hl,hv];rfl) h
theorem G5{ns:List Str}(X:K.In s.heap)(I:CO s.heap x dx C mA)
  (hs:PySem.W.findIn K (.ref C) "__setattr__"=some (some (.builtin "object.__setattr__")))(hp:PySem.W.plainOver K C=true)(ht:PySem.W.takerIn K C name=some none)(hh:PySem.W.hasDictIn K C=true)
  (hw:PySem.Within mA ns)(hsz:ns.length<=sizeLine)
  (h:∀h',CO h' x dx C (λy=>if y=name then some v else mA y)->Heap.SameBut dx s.heap h'->Q () {s with heap:=h',toks:=s.toks+2}):
  wpAny (model prog w) A (setAttr (.ref x) name v) Q E s:=by
 obtain⟨od,J,hl⟩:=I.look;refine PySem.W.set_plain X J hs (PySem.W.osa_open (s:={s with toks:=s.toks+1}) (r:=none) X J hp ht λb=>?_);obtain⟨cd,hc,hd'⟩:=PySem.W.any_some hh;have hx:s.heap.get? x=some ⟨.ref C,some dx,.plain,#[]⟩:=I.obj;refine Ni (NF (Ni (Ni (wpAny_loadPart hx (Ni (PySem.W.Looks.here (s:={s with toks:=s.toks+1}) (PySem.W.looks_clsIn X hc) ?_))))));rw[hd'];refine NF (a:=some dx) (Ni (NF (Ni ?_)));refine wpAny_nsSet1 (s:={s with toks:=s.toks+1}) I.ns λh' hn2 hs2=>?_;obtain⟨oD,esD,epD,hoD,hdD,hcD⟩:=hn2.count (PySem.Within.cons name v hw);refine Ni (wpAny_lookBehind hoD (by rw[hdD];exact pastItsLine_dict (NR hcD (by rw[NH];omega))) ?_);exact NF (h _ ⟨(hs2.2 _ (Ne.symm I.ne)).trans I.obj,hn2,I.ne⟩ hs2)
theorem FT{R:Result->Shared->Prop}{vs:List Value}{kw:List (Str×Value)}(X:K.In s.heap)(hm:PySem.W.makesIn K C=true)
  (hi:PySem.W.findIn K (.ref C) "__init__"=some (some (.ref f)))(hf:PySem.W.typeIn K (.ref f)=some (.type "function"))
  (h:codeAny (model prog w) (A.under (.builtin "type.__call__" ⟨.ref C::vs,kw⟩)) (.call (.ref f) ⟨.ref (s.heap.objs.size+1)::vs,kw⟩) (PySem.W.InitBack (s.heap.objs.size+1) R)
   {s with heap:=(s.heap.push PySem.W.emptyDict).push (PySem.W.instObj C s.heap.objs.size)}):
  codeAny (model prog w) A (.call (.ref C) ⟨vs,kw⟩) R s:=by
 obtain⟨hh,g,d,t,os⟩:=s;exact PySem.W.make_core (PySem.W.makes_of X hm) (PySem.W.looks_findIn X hi) (λself=>PySem.W.bind_fn X self hf) (.inl rfl) h
end
def df(f:Str)(v:V):List (Str×V)->List (Str×V)
 |[]=>[(f,v)]
 |(g,x)::r=>if g=f then(g,v)::r else(g,x)::df f v r
theorem tp(f g:Str)(v:V):∀fs:List (Str×V),(df f v fs).lookup g=if g=f then some v else fs.lookup g
 |[]=>by
  show List.lookup g [(f,v)]=_;by_cases h:g=f
  ·have hb:(g==f)=true:=Rj.mpr h;simp only[List.lookup,hb,Nz h]
  ·have hb:(g==f)=false:=N'.mpr h;simp only[List.lookup,hb,Nt h]
 |(k,x)::r=>by
  have ih:=tp f g v r;rw[show df f v ((k,x)::r)=(if k=f then(k,v)::r else(k,x)::df f v r)from rfl];by_cases hk:k=f
  ·rw[Nz hk];by_cases h:g=k
   ·have hb:(g==k)=true:=Rj.mpr h;simp only[List.lookup,hb,Nz (h.trans hk)]
   ·have hb:(g==k)=false:=N'.mpr h;simp only[List.lookup,hb,Nt (λe:g=f=>h (e.trans hk.symm))]
  ·rw[Nt hk];by_cases h:g=k
   ·have hb:(g==k)=true:=Rj.mpr h;simp only[List.lookup,hb,Nt (λe:g=f=>hk (h.symm.trans e))]
   ·have hb:(g==k)=false:=N'.mpr h;simp only[List.lookup,hb];exact ih
theorem sr(f:Str)(v:V):∀fs:List (Str×V),f∈(df f v fs).map (·.1)/\∀g,g∈fs.map (·.1)->g∈(df f v fs).map (·.1)
 |[]=>⟨by simp[df],λg h=>by simp at h⟩
 |(k,x)::r=>by
  obtain⟨i1,i2⟩:=sr f v r;rw[show df f v ((k,x)::r)=(if k=f then(k,v)::r else(k,x)::df f v r)from rfl];by_cases hk:k=f
  ·rw[Nz hk];subst hk;exact⟨by simp,λg h=>by simpa using h⟩
  ·rw[Nt hk];refine⟨?_,λg h=>?_⟩
   ·rw[N6];exact Nn _ i1
   ·rw[N6]at h ⊢;rcases ND.mp h with e|e
    ·exact ND.mpr (.inl e)
    ·exact Nn _ (i2 g e)
theorem tw(f:Str)(v:V):∀fs:List (Str×V),(df f v fs).length<=fs.length+1
 |[]=>by simp[df]
 |(k,x)::r=>by
  have ih:=tw f v r;rw[show df f v ((k,x)::r)=(if k=f then(k,v)::r else(k,x)::df f v r)from rfl];by_cases hk:k=f
  ·rw[Nz hk,NH,NH];omega
  ·rw[Nt hk,NH,NH];omega
variable{o:Option Value}
theorem rC.some_of{v:V}(r:rC (some v) o):∃u,o=some u/\RelV v u:=by
 cases o with
 |none=>exact(show False from r).elim
 |some u=>exact⟨u,rfl,r⟩
theorem rC.none_of(r:rC none o):o=none:=by
 cases o with
 |none=>rfl
 |some u=>exact(show False from r).elim
theorem EF{v:V}(r:RelV v u):PySem.W.handedIn u=true:=by
 cases v with
 |non=>cases(show u=Value.none from r);rfl
 |bl b=>cases(show u=Value.bool b from r);rfl
 |int i=>obtain⟨t,e⟩:=(show ∃t,u=Value.int i t from r);cases e;rfl
 |str x=>obtain⟨t,e⟩:=(show ∃t,u=Value.str x t from r);cases e;rfl
 |byt b=>obtain⟨t,e⟩:=(show ∃t,u=Value.bytes b t from r);cases e;rfl
 |flt b=>obtain⟨t,e⟩:=(show ∃t,u=Value.float b t from r);cases e;rfl
 |ref a=>cases(show u=Value.ref a from r);rfl
 |ty n=>cases(show u=Value.type n from r);rfl
section
variable{P:Program}{w:World}{H H':Hp}{h h':Heap}{a C dx:Addr}{fs fs':List (Str×V)}
theorem yV(hok:HOk P w H h)(e:H a=some (.ins C dx fs)):∃mA,CO h a dx C mA/\(∀f,rC (fs.lookup f) (mA f))/\PySem.Within mA (fs.map (·.1))/\fs.length<=1000/\H dx=some (.own a):=by
 obtain⟨d,z,ne,ob,mA,n,r,q⟩:=(show cV P w H h a (.ins C dx fs)from hok a _ e);exact⟨mA,⟨ob,n,ne⟩,r,q,z,d⟩
end
structure Cls(K:Rt)(C:Addr):Prop where
 pg:PySem.W.plainGet K C Str.empty=true
 hd:PySem.W.hasDictIn K C=true
 po:PySem.W.plainOver K C=true
 sa:PySem.W.findIn K (.ref C) "__setattr__"=some (some (.builtin "object.__setattr__"))
theorem Cls.get{K:Rt}{C:Addr}(c:Cls K C)(f:Str):PySem.W.plainGet K C f=true:=c.pg
def bj(K:Rt)(C:Addr)(f:Str):Prop:=PySem.W.findIn K (.ref C) f=some none
theorem bj.Ko{K:Rt}{C:Addr}{f:Str}(n:bj K C f):PySem.W.takerIn K C f=some none:=by
 unfold PySem.W.takerIn;rw[show PySem.W.findIn K (.ref C) f=some none from n];rfl
structure Meth(K:Rt)(C:Addr)(m:Str)(f:Addr):Prop where
 at_:PySem.W.findIn K (.ref C) m=some (some (.ref f))
 fn:PySem.W.isFn K (.ref f)=true
 kp:PySem.W.keepIn K (.ref f)=true
section
variable{X:Cx}{pins:List (Addr×Obj)}{σ:St}{H:Hp}{s:Shared}{a C dx:Addr}{fs:List (Str×V)}{f:Str}{v:V}{A:Around}{E:Rv}
variable{Q:Rv}
theorem vT{b:Bool}(I:Inv X pins σ H s)(e:H a=some (.ins C dx fs))(c:Cls X.K C)(n:bj X.K C f)(l:fs.lookup f=some v)
  (h:∀u s',Inv X pins σ H s'->RelV v u->Q u s'):wpAny (model X.prog X.w) A (getAttr (.ref a) f b) Q E s:=by
 obtain⟨mA,O,r,_,_,_⟩:=yV I.hok e;obtain⟨u,hu,ru⟩:=rC.some_of (v:=v) (o:=mA f) (by rw[<-l];exact r f);exact get_map I.kIn O (c.get f) c.hd n hu (EF ru) (h u _ (I.tok _) ru)
theorem qa{m:Str}{g:Addr}{pl:Sem Bool}{Q:Value×List Value->Shared->Prop}(I:Inv X pins σ H s)(e:H a=some (.ins C dx fs))(c:Cls X.K C)(k:Meth X.K C m g)(l:fs.lookup m=none)
  (h:Q (.ref g,[.ref a]) s):wpAny (model X.prog X.w) A (getMethod (.ref a) m pl) Q E s:=by
 obtain⟨mA,O,r,_,_,_⟩:=yV I.hok e;have hn:mA m=none:=rC.none_of (by rw[<-l];exact r m);exact Gf I.kIn O (c.get m) k.at_ k.fn hn h
theorem uT{Q:Unit->Shared->Prop}(I:Inv X pins σ H s)(e:H a=some (.ins C dx fs))(c:Cls X.K C)(n:bj X.K C f)(hl:fs.length<1000)(ry:RelV y u)
  (h:∀s',Inv X pins σ (upd H a (.ins C dx (df f y fs))) s'->Q () s'):wpAny (model X.prog X.w) A (setAttr (.ref a) f u) Q E s:=by
 obtain⟨mA,O,r,wi,_,ho⟩:=yV I.hok e;have hz:(fs.map (·.1)).length<=sizeLine:=by rw[Nf,sizeLine_eq];omega
 refine G5 I.kIn O c.sa c.po n.Ko c.hd wi hz λh' O' sb=>h _ ?_;have hd:∃o,h'.get? dx=some o:=let ⟨o,_,_,e',_⟩:=O'.ns;⟨o,e'⟩
 refine I.write (x:=a) (e:=dx) (by rw[e];exact True.intro) (.inr ho) (λb q hb z=>(sb.2 b hb).trans z) hd ?_;refine⟨by rw[aB O.ne];exact ho,?_,O.ne,O'.obj,_,O'.ns,λg=>?_,λg hg=>?_⟩
 ·have:=tw f y fs;omega
 ·show rC ((df f y fs).lookup g) (if g=f then some u else mA g);rw[tp];by_cases q:g=f
  ·rw[Nz q,Nz q];exact ry
  ·rw[Nt q,Nt q];exact r g
 ·by_cases q:g=f
  ·rw[q];exact(sr f y fs).1
  ·refine(sr f y fs).2 g (wi g λz=>hg ?_);show(if g=f then some u else mA g)=none;rw[Nt q];exact z
theorem Inv.made(I:Inv X pins σ H s):Inv X pins σ (upd (upd H s.heap.objs.size (.own (s.heap.objs.size+1))) (s.heap.objs.size+1) (.ins C s.heap.objs.size []))
  {s with heap:=(s.heap.push PySem.W.emptyDict).push (PySem.W.instObj C s.heap.objs.size)}:=by
 have e1:(s.heap.push PySem.W.emptyDict).get? s.heap.objs.size=some PySem.W.emptyDict:=NP s.heap rfl;have e2:((s.heap.push PySem.W.emptyDict).push (PySem.W.instObj C s.heap.objs.size)).get? (s.heap.objs.size+1)=some (PySem.W.instObj C s.heap.objs.size):=by
  have:=NP (s.heap.push PySem.W.emptyDict) (o:=PySem.W.instObj C s.heap.objs.size) rfl
  rwa [Ob]at this
 have e3:(s.heap.push PySem.W.emptyDict).Ns s.heap.objs.size (λ_=>none):=⟨PySem.W.emptyDict,#[],_,e1,rfl,(λe he=>absurd he (by simp)),λ_=>rfl⟩;have I1:=I.laid (a:=s.heap.objs.size) (o:=.own (s.heap.objs.size+1)) (h':=s.heap.push PySem.W.emptyDict) (t':=s.toks) (λb u q=>Nl _ q) (Nq _) ⟨_,e1⟩;refine I1.laid (a:=s.heap.objs.size+1) (o:=.ins C s.heap.objs.size []) (t':=s.toks) (λb u q=>Nl _ q) (Pq (Ob _ _)) ?_;have ne:s.heap.objs.size≠s.heap.objs.size+1:=Oo (PL _);refine⟨by rw[aB ne,af],NT _,ne,e2,λ_=>none,(Heap.Ns1.of_empty e3).at λo q=>Nl _ q,λ_=>True.intro,λy hy=>absurd rfl hy⟩
theorem Ik{prog:Program}{env:Env}{e:Expr}{f:Str}{pos:Pos}{s:Shared}(hb:attributeBase e f env (eval e env)=eval e env)
  (h:wpAny (model prog w) A (eval e env) (λo s₁=>wpAny (model prog w) A (getAttr o f true) Q E s₁) E s):wpAny (model prog w) A (eval (.Attribute e f pos) env) Q E s:=
 Attribute_any_ h (by rw[arm_eval_Attribute,hb])
end
inductive LM(K:Rt)(f:Str)(Q:VK)(x:V)(H:Hp):Prop|mk (a C dx:Addr) (fs:List (Str×V)) (v:V):x=.ref a->H a=some (.ins C dx fs)->Cls K C->bj K C f->fs.lookup f=some v->Q v H->LM K f Q x H
def Ja(K:Rt)(ta:TE)(f:Str):TE:=λσ H Q=>ta σ H (LM K f Q)
inductive ISF(K:Rt)(f:Str)(N:St->Hp->Prop)(σ:St)(y x:V)(H:Hp):Prop|mk (a C dx:Addr) (fs:List (Str×V)):x=.ref a->H a=some (.ins C dx fs)->Cls K C->bj K C f->fs.length<1000->N σ (upd H a (.ins C dx (df f y fs)))->ISF K f N σ y x H
def kSF(K:Rt)(ta:TE)(f:Str)(N:St->Hp->Prop)(σ:St)(y:V)(H:Hp):Prop:=ta σ H (ISF K f N σ y)
def LZ(K:Rt)(ta tv:TE)(f:Str):TS:=λD σ H=>tv σ H (kSF K ta f D.nx σ)
def LJ(X:Cx)(op:Operator)(rd:V->V->Hp->VK->Prop):Prop:=
 ∀(pins:List (Addr×Obj))(s:Shared)(σ:St)(H:Hp)(x y:V)(u v:Value)(Q:VK),Inv X pins σ H s->RelV x u->RelV y v->rd x y H Q->wpAny (model X.prog X.w) X.A (inplaceOp op u v) (EP X pins σ Q) X.xe s
def G7(K:Rt)(ta tv:TE)(rd:V->V->Hp->VK->Prop)(f:Str):TS:=λD σ H=>ta σ H λx H1=>∃a C dx fs v,x=.ref a/\H1 a=some (.ins C dx fs)/\Cls K C/\bj K C f/\fs.lookup f=some v/\
 tv σ H1 λy H2=>rd v y H2 λz H3=>∃dx' fs',H3 a=some (.ins C dx' fs')/\fs'.length<1000/\D.nx σ (upd H3 a (.ins C dx' (df f z fs')))
section
variable{X:Cx}{o e value:Expr}{f:Str}{pos pos' lV:Pos}{ta tv:TE}
theorem au(he:PE X e ta)(hb:attributeBase e f X.env (eval e X.env)=eval e X.env):PE X (.Attribute e f pos) (Ja X.K ta f):=by
 intro pins s σ H Q I h;refine Ik hb (thn (he pins s σ H _ I h) λu s1 ⟨x,H1,I1,rx,a,C,dx,fs,v,ex,ea,c,n,l,q⟩=>?_);subst ex;obtain rfl:u=Value.ref a:=rx;exact vT I1 ea c n l λu' s2 I2 ru=>⟨v,H1,I2,ru,q⟩
theorem bb(ha:PE X o ta)(hv:PE X value tv)(hs:swapsWith value (some (.Attribute o f pos')) pos.line X.env=pure false):PS X (.Assign [.Attribute o f pos'] value pos) (LZ X.K ta tv f):=by
 intro pins s σ H D I h;refine plainObj_wpAny_Assign_Attribute (thn (hv pins s σ H _ I h) λu s1 ⟨y,H1,I1,ry,q⟩=>thn (ha pins s1 σ H1 _ I1 q) λov s2 ⟨x,H2,I2,rx,a,C,dx,fs,ex,ea,c,n,l,q2⟩=>?_) hs;subst ex;obtain rfl:ov=Value.ref a:=rx;exact uT I2 ea c n l ry λs3 I3=>⟨σ,_,I3,q2⟩
theorem Ef{op:Operator}{rd:V->V->Hp->VK->Prop}(ha:PE X o ta)(hv:PE X value tv)(hop:LJ X op rd):PS X (.AugAssign (.Attribute o f lV) op value pos) (G7 X.K ta tv rd f):=by
 intro pins s σ H D I h;refine wpAny_AugAssign_AttributeAny (thn (ha pins s σ H _ I h) λov s1 ⟨x,H1,I1,rx,a,C,dx,fs,v,ex,ea,c,n,l,q⟩=>?_);subst ex;obtain rfl:ov=Value.ref a:=rx;refine vT I1 ea c n l λu s2 I2 ru=>thn (hv pins s2 σ H1 _ I2 q) λw3 s3 ⟨y,H2,I3,ry,q3⟩=>thn (hop pins s3 σ H2 v y u w3 _ I3 ru ry q3) λw4 s4 ⟨z,H3,I4,rz,dx',fs',ea',l',q4⟩=>?_;exact uT I4 ea' c n l' rz λs5 I5=>⟨σ,_,I5,q4⟩
def Ma:V->V->Hp->VK->Prop:=λx y H Q=>∃i j,x=.int i/\y=.int j/\Q (.int (i+j)) H
theorem JM:LJ X .Add Ma:=by
 rintro pins s σ H x y u v Q I rx ry ⟨i,j,rfl,rfl,q⟩;obtain⟨t,rfl⟩:=(show ∃t,u=Value.int i t from rx);obtain⟨t',rfl⟩:=(show ∃t',v=Value.int j t' from ry);exact PyProof.Rows.iadd_int ⟨.int (i+j),H,I.tok _,⟨_,rfl⟩,q⟩
theorem IF{pl:Sem Bool}{m:Str}{apos:Pos}{args:List Expr}{Q:Rv}{te:TE}(he:PE X e te)(I:Inv X pins σ H s)
  (h:te σ H λx H1=>∃a C dx fs g,x=.ref a/\H1 a=some (.ins C dx fs)/\Cls X.K C/\Meth X.K C m g/\fs.lookup m=none/\
   ∀s1,Inv X pins σ H1 s1->wpAny (model X.prog X.w) X.A (callWith pos (.ref g) [.ref a] (backTo pos (starEach args X.env)) (backToKw pos (keywordEach [] X.env))) Q X.xe s1)
  (ht:eval (.Call (.Attribute e m apos) args [] pos) X.env=(do
   let ov <-eval e X.env
   standAt apos.atName
   let (f,first) <-holding [ov] (getMethod ov m pl)
   callWith pos f first (backTo pos (starEach args X.env)) (backToKw pos (keywordEach [] X.env)))):
  wpAny (model X.prog X.w) X.A (eval (.Call (.Attribute e m apos) args [] pos) X.env) Q X.xe s:=by
 refine QE (pl:=pl) (thn (he pins s σ H _ I h) λu s1 ⟨x,H1,I1,rx,a,C,dx,fs,g,ex,ea,c,k,l,q⟩=>?_) ht;subst ex;obtain rfl:u=Value.ref a:=rx;exact qa I1 ea c k l (q s1 I1)
end
structure fE(k:Nat)(A:Around):Prop where
 hd:A.handled=none
 dp:A.depth+3*k+5<recursionLimit
 un:A.units+16*k+200<cLine
variable{k:Nat}
theorem fE.mono{j:Nat}(r:fE k A)(h:j<=k):fE j A:=⟨r.hd,by have:=r.dp;omega,by have:=r.un;omega⟩
theorem fE.deeper(r:fE (k+1) A)(env:Env):fE k (A.deeper env):=
 ⟨r.hd,by have:=r.dp;show A.depth+1+3*k+5<_;omega,by have:=r.un;show A.units+3+16*k+200<_;omega⟩
variable{kw:List (Str×Value)}
theorem Ci{C:Addr}:(A.under (.builtin "type.__call__" ⟨.ref C::us,kw⟩)).depth=A.depth+1:=by
 first|rfl|simp[Around.under,Code.weight,Code.isCreation,Code.isGuard,Code.isCaller,Code.frames,Code.isFrame,guardIds]
theorem Cg{C:Addr}:(A.under (.builtin "type.__call__" ⟨.ref C::us,kw⟩)).units=A.units+1:=by
 first|rfl|simp[Around.under,Code.cUnits,Code.frames,Code.isFrame]
theorem fE.make(r:fE (k+1) A)(C:Addr)(us:List Value)(kw:List (Str×Value)):fE k (A.under (.builtin "type.__call__" ⟨.ref C::us,kw⟩)):=
 ⟨r.hd,by have:=r.dp;rw[Ci];omega,by have:=r.un;rw[Cg];omega⟩
theorem fE.depth(r:fE k A):A.depth<recursionLimit:=by have:=r.dp;omega
def D6:TA:=λ_ H Q=>Q [] H
def kC2(Q:List V->Hp->Prop)(x:V)(xs:List V)(H:Hp):Prop:=Q (x::xs) H
def kC1(tr:TA)(σ:St)(Q:List V->Hp->Prop)(x:V)(H:Hp):Prop:=tr σ H (kC2 Q x)
def Iv(ta:TE)(tr:TA):TA:=λσ H Q=>ta σ H (kC1 tr σ Q)
section
variable{X:Cx}{e:Expr}{es:List Expr}{te:TE}{t:TA}{pos:Pos}
theorem ag:PA X [] D6:=λ_ _ _ _ H Q I h=>Calls.spliced_nil ⟨[],H,I,.nil,h⟩
theorem aa(ha:PE X e te)(hr:PA X es t)(hs:starEach (e::es) X.env=(false,eval e X.env)::starEach es X.env:=by rfl):PA X (e::es) (Iv te t):=by
 intro pos pins s σ H Q I h;rw[hs];show wpAny _ _ (spliced ((false,eval e X.env)::backTo pos (starEach es X.env))) _ _ s;refine Calls.spliced_cons (thn (ha pins s σ H _ I h) λu s1 ⟨x,H1,I1,r1,q1⟩=>?_);exact thn (hr pos pins s1 σ H1 _ I1 q1) λus s2 ⟨xs,H2,I2,r2,q2⟩=>⟨x::xs,H2,I2,.cons r1 r2,q2⟩
def LO(t:TA):TE:=λσ H Q=>t σ H λxs H1=>xs.length<=sizeLine/\∀p,H1 p=none->Q (.ref p) (upd H1 p (.tup xs))
def LR(t:TA):TE:=λσ H Q=>t σ H λxs H1=>xs.length<=sizeLine/\∀p,H1 p=none->Q (.ref p) (upd H1 p (.lst xs))
theorem kq{x1}(h:PA X es t):PE X (.Tuple es x1 pos) (LO t):=by
 intro pins s σ H Q I hq;refine wpAny_Tuple_spliced (thn (h pos pins s σ H _ I hq) λus s1 ⟨xs,H1,I1,r,z,q⟩=>⟨by rw[<-r.length];exact z,?_⟩);have hf:H1 s1.heap.objs.size=none:=I1.hok.fresh (Nq _);refine⟨.ref s1.heap.objs.size,upd H1 s1.heap.objs.size (.tup xs),I1.laid (t':=s1.toks) (λb u e=>Nl _ e) (Nq _) ?_,rfl,q _ hf⟩;exact⟨z,us,r,⟨_,NP _ rfl,rfl,_,rfl⟩⟩
theorem aV(h:PA X es t):PE X (.List es pos) (LR t):=by
 intro pins s σ H Q I hq;refine wpAny_List_spliced (thn (h pos pins s σ H _ I hq) λus s1 ⟨xs,H1,I1,r,z,q⟩=>⟨by rw[<-r.length];exact z,?_⟩);have hf:H1 s1.heap.objs.size=none:=I1.hok.fresh (Nq _);refine⟨.ref s1.heap.objs.size,upd H1 s1.heap.objs.size (.lst xs),I1.laid (t':=s1.toks) (λb u e=>Nl _ e) (Nq _) ?_,rfl,q _ hf⟩;exact⟨z,us,0,r,NP _ rfl⟩
end
abbrev Sp:=List V->Hp->VK->XK->Prop
abbrev CXT:=List Env->Hp->Shared->XK->Value->Shared->Prop
structure CU(P:Program)(w:World)(K:Rt)(mg:Ru)(base:Heap)(A:Around)(outer:List Env)(s:Shared)(H:Hp):Prop where
 frames:A.frames=some outer
 mod:Mod K mg base
 bs:∀b o,base.get? b=some o->s.heap.get? b=some o/\H b=none
 bsz:base.objs.size<=s.heap.objs.size
 tY:s.heap.FunFrames base outer
 frf:∀b∈frs outer,H b=none
 hok:HOk P w H s.heap
 bare:AllBare s.gens
def CE(outer:List Env)(P:Program)(w:World)(H:Hp)(s:Shared)(Q:VK)(u:Value)(s':Shared):Prop:=
 ∃v H',s'.os=s.os/\AllBare s'.gens/\Un (frs outer) [] H H' s.heap s'.heap/\HOk P w H' s'.heap/\RelV v u/\Q v H'
def CR(CX:CXT)(outer:List Env)(P:Program)(w:World)(H:Hp)(s:Shared)(Q:VK)(E:XK)(r:Result)(s':Shared):Prop:=
 match r with
 |.ok (.ret u)=>CE outer P w H s Q u s'
 |.ok _=>False
 |.error e=>CX outer H s E e s'
structure bw(P:Program)(w:World)(K:Rt)(mg:Ru)(base:Heap)(CX:CXT)(k:Nat)(f:Addr)(fd:FuncData)(ps:List Str)(sp:Sp):Prop where
 len:∀vs H Q E,sp vs H Q E->vs.length=ps.length
 run:∀(A:Around)(outer:List Env)(s:Shared)(H:Hp)(args:Args)(us:List Value)(vs:List V)(Q:VK)(E:XK),fE k A->CU P w K mg base A outer s H->BindsTo s fd args (ps.zip us)->Vals vs us->sp vs H Q E->
  codeAny (model P w) A (.call (.ref f) args) (CR CX outer P w H s Q E) s
variable{mg:Ru}{base:Heap}{outer:List Env}
theorem CU.make{K:Rt}(e:CU P w K mg base A outer s H)(C:Addr)(us:List Value)(kw:List (Str×Value)):
 CU P w K mg base (A.under (.builtin "type.__call__" ⟨.ref C::us,kw⟩)) outer s H:=⟨by first|exact e.frames|(simpa [Around.under,Code.envs,Code.isFrame,pushEnvs]using e.frames),e.mod,e.bs,e.bsz,e.tY,e.frf,e.hok,e.bare⟩
section
variable{X:Cx}{pins:List (Addr×Obj)}{σ:St}{H:Hp}{s s':Shared}
theorem Inv.Lw(I:Inv X pins σ H s):CU X.prog X.w X.K X.mg X.base X.A X.stack s H:=
 ⟨I.ok.frames,I.ok.mod,I.bs,NR I.ok.bsz I.sz,I.stack,I.C4,I.hok,I.bare⟩
theorem Inv.after{Q:VK}(I:Inv X pins σ H s)(h:CE X.stack X.prog X.w H s Q u s'):EP X pins σ Q u s':=by
 obtain⟨v,H',os,bare,un,hok,r,q⟩:=h;obtain⟨hh,g,d,t,os'⟩:=s';obtain rfl:os'=s.os:=os;exact⟨v,H',I.call (h':=hh) (g':=g) (d':=d) (t':=t) (ch:=[]) un hok bare (λb z=>absurd z (by simp)),r,q⟩
end
def kCl(sp:Sp)(dvs:List V)(E:XK)(Q:VK)(vs:List V)(H:Hp):Prop:=sp (vs++dvs) H Q E
def Iw(sp:Sp)(dvs:List V)(E:XK)(t:TA):TE:=λσ H Q=>t σ H (kCl sp dvs E Q)
def kMt(sp:Sp)(dvs:List V)(E:XK)(Q:VK)(x:V)(vs:List V)(H:Hp):Prop:=sp (x::(vs++dvs)) H Q E
inductive IMt(C:Addr)(m:Str)(sp:Sp)(dvs:List V)(E:XK)(t:TA)(σ:St)(Q:VK)(x:V)(H:Hp):Prop|mk (a dx:Addr) (fs:List (Str×V)):x=.ref a->H a=some (.ins C dx fs)->fs.lookup m=none->t σ H (kMt sp dvs E Q x)->IMt C m sp dvs E t σ Q x H
def C2(C:Addr)(m:Str)(sp:Sp)(dvs:List V)(E:XK)(ta:TE)(t:TA):TE:=λσ H Q=>ta σ H (IMt C m sp dvs E t σ Q)
def C3(C:Addr)(sp:Sp)(dvs:List V)(E:XK)(t:TA):TE:=λσ H Q=>t σ H λvs H1=>∀x dx,H1 x=none->H1 dx=none->dx≠x->
 sp (.ref x::(vs++dvs)) (upd (upd H1 dx (.own x)) x (.ins C dx [])) (λv H2=>v=.non/\Q (.ref x) H2) E
def Binds(K:Rt)(fd:FuncData)(ps:List Str)(ds:List Value):Prop:=
 ∀(s:Shared)(us:List Value),K.In s.heap->(us++ds).length=ps.length->BindsTo s fd ⟨us,[]⟩ (ps.zip (us++ds))
theorem Binds.all{K:Rt}{fd:FuncData}{ps:List Str}(h:∀us:List Value,us.length=ps.length->bindArgs fd ⟨us,[]⟩=pure (ps.zip us)):Binds K fd ps []:=λs us _ hl=>by
 rw[NX]at hl ⊢;exact .of_eq (h us hl)
def Passes(CX:CXT)(X:Cx)(E:XK):Prop:=∀(pins:List (Addr×Obj))(σ:St)(H:Hp)(s:Shared)(e:Value)(s':Shared),Inv X pins σ H s->CX X.stack H s E e s'->X.xe e s'
section
variable{X:Cx}{CX:CXT}{k:Nat}{f C:Addr}{fd:FuncData}{ps:List Str}{sp:Sp}{dvs:List V}{ds:List Value}{E:XK}{x m:Str}{p pos apos:Pos}{e o:Expr}{es:List Expr}{ta:TE}{t:TA}
variable{vs:List V}
theorem BV{Q:VK}(F:bw X.prog X.w X.K X.mg X.base CX k f fd ps sp)(hr:fE k X.A)(hb:Binds X.K fd ps ds)(hd:Vals dvs ds)(hx:Passes CX X E)
  (I:Inv X pins σ H s)(r:Vals vs us)(h:sp (vs++dvs) H Q E):wpAny (model X.prog X.w) X.A (call (.ref f) us) (EP X pins σ Q) X.xe s:=by
 have r2:Vals (vs++dvs) (us++ds):=r.append hd;have hl:(us++ds).length=ps.length:=by rw[<-r2.length];exact F.len _ _ _ _ h
 refine wpAny_call (codeAny_mono (F.run X.A X.stack s H ⟨us,[]⟩ (us++ds) (vs++dvs) Q E hr I.Lw (hb s us I.kIn hl) r2 h) λr s' hq=>?_);cases r with
 |error e=>exact hx pins σ H s e s' I hq
 |ok fl=>
  cases fl with
  |ret u=>exact I.after hq
  |next=>exact False.elim hq
  |brk=>exact False.elim hq
  |cont=>exact False.elim hq
theorem He(F:bw X.prog X.w X.K X.mg X.base CX k f fd ps sp)(hr:fE k X.A)(hg:Gl X x)(hm:X.mg x=some (.ref f))(hk:PySem.W.keepIn X.K (.ref f)=true)(hb:Binds X.K fd ps ds)(hd:Vals dvs ds)(hx:Passes CX X E)
  (ha:PA X (e::es) t)(hdb:(x==("__debug__":Str))=false:=by decide)(he:starEach (e::es) X.env=(false,eval e X.env)::starEach es X.env:=by rfl)(hpl:(backTo pos (starEach es X.env)).any (·.1)=false:=by rfl):
  PE X (.Call (.Name x p) (e::es) [] pos) (Iw sp dvs E t):=by
 intro pins s σ H Q I h;refine PR (uu I hg hm ?_ hdb);refine Rf (h₀:=X.base) I.ok.mod.kin hk (thn (ha pos pins s σ H _ I h) λus s1 ⟨vs,H1,I1,r,q⟩=>⟨I1.kIn,?_⟩) he hpl;exact BV F hr hb hd hx I1 r q
variable{pl:Sem Bool}
theorem Hb(he:PE X o ta)(c:Cls X.K C)(hm:Meth X.K C m f)(F:bw X.prog X.w X.K X.mg X.base CX k f fd ps sp)(hr:fE k X.A)(hb:Binds X.K fd ps ds)(hd:Vals dvs ds)(hx:Passes CX X E)(ha:PA X (e::es) t)
  (hst:starEach (e::es) X.env=(false,eval e X.env)::starEach es X.env:=by rfl)(hpl:(backTo pos (starEach es X.env)).any (·.1)=false:=by rfl)
  (ht:eval (.Call (.Attribute o m apos) (e::es) [] pos) X.env=(do
   let ov <-eval o X.env
   standAt apos.atName
   let (f,first) <-holding [ov] (getMethod ov m pl)
   callWith pos f first (backTo pos (starEach (e::es) X.env)) (backToKw pos (keywordEach [] X.env))):=by rfl):
  PE X (.Call (.Attribute o m apos) (e::es) [] pos) (C2 C m sp dvs E ta t):=by
 intro pins s σ H Q I h;refine QE (pl:=pl) (thn (he pins s σ H _ I h) λu s1 ⟨x,H1,I1,rx,a,dx,fs,ex,ea,l,q⟩=>?_) ht;subst ex;obtain rfl:u=Value.ref a:=rx;refine qa I1 ea c hm l ?_;refine Rf (first:=[.ref a]) (h₀:=X.base) I.ok.mod.kin hm.kp (thn (ha pos pins s1 σ H1 _ I1 q) λus s2 ⟨vs,H2,I2,r,q2⟩=>⟨I2.kIn,?_⟩) hst hpl;exact BV (us:=.ref a::us) (vs:=.ref a::vs) F hr hb hd hx I2 (.cons rfl r) q2
theorem Fx(he:PE X o ta)(c:Cls X.K C)(hm:Meth X.K C m f)(F:bw X.prog X.w X.K X.mg X.base CX k f fd ps sp)(hr:fE k X.A)(hb:Binds X.K fd ps ds)(hd:Vals dvs ds)(hx:Passes CX X E)
  (ht:eval (.Call (.Attribute o m apos) [] [] pos) X.env=(do
   let ov <-eval o X.env
   standAt apos.atName
   let (f,first) <-holding [ov] (getMethod ov m pl)
   callWith pos f first (backTo pos (starEach [] X.env)) (backToKw pos (keywordEach [] X.env))):=by rfl):
  PE X (.Call (.Attribute o m apos) [] [] pos) (C2 C m sp dvs E ta D6):=by
 intro pins s σ H Q I h;refine QE (pl:=pl) (thn (he pins s σ H _ I h) λu s1 ⟨x,H1,I1,rx,a,dx,fs,ex,ea,l,q⟩=>?_) ht;subst ex;obtain rfl:u=Value.ref a:=rx;refine qa I1 ea c hm l ?_;exact PySem.W.callWith_K0 (first:=[.ref a]) I1.kIn hm.kp (BV (us:=[.ref a]) (vs:=[.ref a]) F hr hb hd hx I1 (.cons rfl .nil) q)
structure Mk(K:Rt)(C f:Addr):Prop where
 makes:PySem.W.makesIn K C=true
 init:PySem.W.findIn K (.ref C) "__init__"=some (some (.ref f))
 fn:PySem.W.isFn K (.ref f)=true
 kp:PySem.W.keepIn K (.ref C)=true
theorem Ab{Q:VK}(M:Mk X.K C f)(F:bw X.prog X.w X.K X.mg X.base CX k f fd ps sp)(hr:fE (k+1) X.A)(hb:Binds X.K fd ps ds)(hd:Vals dvs ds)
  (hx:Passes CX X E)(I:Inv X pins σ H s)(r:Vals vs us)
  (h:∀x dx,H x=none->H dx=none->dx≠x->sp (.ref x::(vs++dvs)) (upd (upd H dx (.own x)) x (.ins C dx [])) (λv H2=>v=.non/\Q (.ref x) H2) E):
  wpAny (model X.prog X.w) X.A (call (.ref C) us) (EP X pins σ Q) X.xe s:=by
 have hq:=h (s.heap.objs.size+1) s.heap.objs.size (I.hok.fresh (Nat.le_succ _)) (I.hok.fresh (Nq _)) (Oo (PL _));have I2:=Inv.made (C:=C) I;have r2:Vals (V.ref (s.heap.objs.size+1)::(vs++dvs)) (Value.ref (s.heap.objs.size+1)::(us++ds)):=.cons rfl (r.append hd);have hl:(Value.ref (s.heap.objs.size+1)::us++ds).length=ps.length:=by
  have e:=r2.length;rw[F.len _ _ _ _ hq]at e;exact e.symm
 refine wpAny_call (FT (f:=f) I.kIn M.makes M.init (Rj.mp M.fn) (codeAny_mono (F.run _ X.stack _ _ ⟨Value.ref (s.heap.objs.size+1)::us,[]⟩ (Value.ref (s.heap.objs.size+1)::(us++ds)) _ _ E (hr.make C us [])
  (I2.Lw.make C us []) (hb _ (Value.ref (s.heap.objs.size+1)::us) I2.kIn hl) r2 hq) λr s' hq'=>?_))
 cases r with
 |error e=>exact hx pins σ _ _ e s' I2 hq'
 |ok fl=>
  cases fl with
  |ret u=>
   obtain⟨v,H',I3,rv,ev,q3⟩:=I2.after hq';subst ev;exact⟨rv,⟨V.ref (s.heap.objs.size+1),H',I3,rfl,q3⟩⟩
  |next=>exact False.elim hq'
  |brk=>exact False.elim hq'
  |cont=>exact False.elim hq'
theorem Hc(M:Mk X.K C f)(F:bw X.prog X.w X.K X.mg X.base CX k f fd ps sp)(hr:fE (k+1) X.A)(hg:Gl X x)(hm:X.mg x=some (.ref C))(hb:Binds X.K fd ps ds)(hd:Vals dvs ds)(hx:Passes CX X E)
  (ha:PA X (e::es) t)(hdb:(x==("__debug__":Str))=false:=by decide)(he:starEach (e::es) X.env=(false,eval e X.env)::starEach es X.env:=by rfl)(hpl:(backTo pos (starEach es X.env)).any (·.1)=false:=by rfl):
  PE X (.Call (.Name x p) (e::es) [] pos) (C3 C sp dvs E t):=by
 intro pins s σ H Q I h;refine PR (uu I hg hm ?_ hdb);refine Rf (h₀:=X.base) I.ok.mod.kin M.kp (thn (ha pos pins s σ H _ I h) λus s1 ⟨vs,H1,I1,r,q⟩=>⟨I1.kIn,?_⟩) he hpl;exact Ab M F hr hb hd hx I1 r q
theorem Fy(M:Mk X.K C f)(F:bw X.prog X.w X.K X.mg X.base CX k f fd ps sp)(hr:fE (k+1) X.A)(hg:Gl X x)(hm:X.mg x=some (.ref C))(hb:Binds X.K fd ps ds)(hd:Vals dvs ds)(hx:Passes CX X E)
  (hdb:(x==("__debug__":Str))=false:=by decide):PE X (.Call (.Name x p) [] [] pos) (C3 C sp dvs E D6):=by
 intro pins s σ H Q I h;refine PR (uu I hg hm ?_ hdb);exact PySem.W.callWith_K0 I.kIn M.kp (Ab (us:=[]) M F hr hb hd hx I .nil h)
end
structure aF(N P:List Str)(sc:Scope):Prop where
 kind:sc.kind=.function
 co:sc.isCoroutine=false
 gen:sc.isGenerator=false
 nd:N.Nodup
 pre:N.take P.length=P
 par:∀x∈P,sc.names.lookup x=some .local∨sc.names.lookup x=some .cell
 Js:∀y∈sc.names,y.2≠.free
theorem xY{kindOf:Str->Option NameKind}{x:Str}:∀{binds:List (Str×Value)}{m:Ru},(∀v,(x,v)∉binds)->bindL kindOf binds m x=m x
 |[],_,_=>rfl
 |(n,v)::r,m,h=>by
  unfold bindL;rw[xY λw hw=>h w (Nn _ hw)];split
  ·have:x≠n:=by rintro rfl;exact h v NB
   simp[this]
  ·rfl
theorem x5{kindOf:Str->Option NameKind}{x:Str}:∀{binds:List (Str×Value)}{m:Ru},(∀v,(x,v)∉binds)->bindC kindOf binds m x=m x
 |[],_,_=>rfl
 |(n,v)::r,m,h=>by
  unfold bindC;rw[x5 λw hw=>h w (Nn _ hw)];split
  ·rfl
  ·have:x≠n:=by rintro rfl;exact h v NB
   simp[this]
theorem xZ{kindOf:Str->Option NameKind}{x:Str}{v:Value}:∀{P:List Str}{vs:List Value}{i:Nat}{m:Ru},P.Nodup->P[i]?=some x->vs[i]?=some v->kindOf x=some .local->
  bindL kindOf (P.zip vs) m x=some v
 |[],_,_,_,_,h,_,_=>by simp at h
 |_::_,[],_,_,_,_,h,_=>by simp at h
 |p::P,w::vs,0,m,nd,h1,h2,hk=>by
  simp at h1 h2;subst h1;subst h2;show bindL kindOf ((p,w)::P.zip vs) m p=_;unfold bindL;rw[xY λv hv=>(PB.mp nd).1 (List.of_mem_zip hv).1,Nz hk];simp
 |p::P,w::vs,i+1,m,nd,h1,h2,hk=>by
  show bindL kindOf ((p,w)::P.zip vs) m x=_;unfold bindL;exact xZ (i:=i) (PB.mp nd).2 (by simpa using h1) (by simpa using h2) hk
theorem x6{kindOf:Str->Option NameKind}{x:Str}{v:Value}:∀{P:List Str}{vs:List Value}{i:Nat}{m:Ru},P.Nodup->P[i]?=some x->vs[i]?=some v->kindOf x≠some .local->
  bindC kindOf (P.zip vs) m x=some v
 |[],_,_,_,_,h,_,_=>by simp at h
 |_::_,[],_,_,_,_,h,_=>by simp at h
 |p::P,w::vs,0,m,nd,h1,h2,hk=>by
  simp at h1 h2;subst h1;subst h2;show bindC kindOf ((p,w)::P.zip vs) m p=_;unfold bindC;rw[x5 λv hv=>(PB.mp nd).1 (List.of_mem_zip hv).1,Nt hk];simp
 |p::P,w::vs,i+1,m,nd,h1,h2,hk=>by
  show bindC kindOf ((p,w)::P.zip vs) m x=_;unfold bindC;exact x6 (i:=i) (PB.mp nd).2 (by simpa using h1) (by simpa using h2) hk
def start(N:List Str)(vs:List V):St:=vs.map some++List.replicate (N.length-vs.length) none
def zh(CX:CXT)(P:Program)(w:World)(K:Rt)(mg:Ru)(base:Heap)(N:List Str)(qual:Str)(scope:Scope)(f:Addr)(cd:Value)(A:Around)(outer:List Env)(s:Shared)(H:Hp)(E:XK):Cx where
 prog:=P
 w:=w
 K:=K
 mg:=mg
 base:=base
 A:=A.deeper (envOfC qual scope s.heap.objs.size f cd)
 N:=N
 s_0:=s
 H_0:=H
 env:=envOfC qual scope s.heap.objs.size f cd
 outer:=outer
 stack:=envOfC qual scope s.heap.objs.size f cd::outer
 ex:=[]
 calm:=true
 fn:=λ_=>true
 pn:=[]
 xe:=λe s'=>wpAny (model P w) (A.deeper (envOfC qual scope s.heap.objs.size f cd)) (leaving (envOfC qual scope s.heap.objs.size f cd) e) (λ_ s''=>CX outer H s E e s'') (λe' s''=>CX outer H s E e' s'') s'
theorem Bl{sc:Scope}{n:Nat}{x:Str}(h:sc.names.lookup x=some .cell):∃c,(cellsFrom n sc.names []).lookup x=some c:=by
 have q:=PySem.W.cellsFrom_some sc.names n [] (.inl h);exact Py.mp q
variable{N ps:List Str}{qual:Str}{scope:Scope}
theorem EC{CX:CXT}{K:Rt}{f:Addr}{cd:Value}{s1:Shared}{E:XK}{vs:List V}
  (S:aF N ps scope)(hd:A.handled=none)(e0:CU P w K mg base A outer s H)(hl:vs.length=ps.length)(r:Vals vs us)
  (x:InCallC s s.heap.objs.size (bindL (envOfC qual scope s.heap.objs.size f cd).kindOf (ps.zip us) λ_=>none) (cellsFrom (s.heap.objs.size+1) scope.names []) (bindC (envOfC qual scope s.heap.objs.size f cd).kindOf (ps.zip us) λ_=>none) s1):
  Inv (zh CX P w K mg base N qual scope f cd A outer s H E) [] (start N vs) H s1:=by
 have hpl:ps.length<=N.length:=by have:=congrArg List.length S.pre;rw[N2]at this;omega
 obtain⟨h1,tk,rfl,hk⟩:=x.done;have noA:∀b:Addr,b∉(zh CX P w K mg base N qual scope f cd A outer s H E).ex:=λb z=>absurd (show b∈([]:List Addr)from z) (by simp);refine⟨⟨e0.mod,S.kind,rfl,rfl,Nq _,λy z c h1 h2=>?_,λy hy=>?_,λy c _ h=>?_,λ_=>hd,Around.frames_deeper e0.frames,.inr ⟨rfl,rfl⟩,λb z=>absurd z (noA b),e0.bs,e0.bsz,λb _ _=>noA b,λb z=>absurd z (noA b),e0.tY,e0.frf⟩,
  rfl,e0.bare,Un.kept hk,⟨_,x.toInCall.ns,λi y v h1 h2 h3=>?_⟩,λy c h=>⟨_,x.cell y c h⟩,e0.hok.fresh (Nq _),λy c h=>?_,λp hp=>absurd (show p∈([]:List (Addr×Obj))from hp) (by simp),e0.hok.kept hk,?_⟩
 ·exact name_of_addr x.apart (N7 h1) (N7 h2)
 ·have hy:scope.names.lookup y=some .cell∨scope.names.lookup y=some .free:=hy;rcases hy with hy|hy
  ·exact Bl hy
  ·exact absurd rfl (S.Js _ (N7 hy))
 ·exact OI (x.above y c (N7 h))
 ·have hi:i<vs.length:=by
   unfold start at h2;by_cases hi:i<vs.length
   ·exact hi
   ·rw[NM (by simpa using hi)]at h2;rw[OX]at h2;split at h2<;>cases h2
  have ha:vs[i]?=some v:=by
   unfold start at h2;rw[NJ (by simpa using hi),NC]at h2;cases e:vs[i]? with
   |none=>rw[e]at h2;cases h2
   |some a=>rw[e]at h2;cases h2;rfl
  obtain⟨u,hu,rv⟩:=r.get ha;have hp:ps[i]?=some y:=by
   rw[<-S.pre,O8 (by omega)];exact h1
  have ndP:ps.Nodup:=by rw[<-S.pre];exact S.nd.sublist (List.take_sublist _ _)
  refine⟨u,rv,?_⟩;rcases S.par y (Nr hp)with k|k
  ·exact .inl ⟨k,xZ ndP hp hu k⟩
  ·obtain⟨c,e⟩:=Bl (n:=s.heap.objs.size+1) k;refine .inr ⟨.inl k,c,e,?_⟩;have q:=x.cell y c e;rw[x6 ndP hp hu (by show scope.names.lookup y≠_;rw[k];decide)]at q;exact q
 ·exact e0.hok.fresh (OI (x.above y c (N7 h)))
 ·unfold start;show _=N.length;rw[Nk,Nf,N1];omega
theorem Ls{CX:CXT}{K:Rt}{f:Addr}{name:Str}{params:Arguments}{body:List Stmt}{dV kV doc pm cdv ct oc:Value}{an od:Option Addr}
  {osl:Array (Option Value)}{sp:Sp}(lk:K.lookup f=some ⟨oc,od,.func (PySem.W.fnOf name qual params body scope dV kV doc pm an cdv ct),osl⟩)(hcd:PySem.W.codeIn K cdv qual=true)(S:aF N ps scope)
  (len:∀vs H Q E,sp vs H Q E->vs.length=ps.length)
  (Gd:∀(A:Around)(outer:List Env)(s:Shared)(H:Hp)(vs:List V)(Q:VK)(E:XK),fE k (A.deeper (envOfC qual scope s.heap.objs.size f cdv))->sp vs H Q E->
   ∃t,PSs (zh CX P w K mg base N qual scope f cdv A outer s H E) body t/\t {nx:=λ_ H'=>Q .non H',rt:=Q} (start N vs) H):
  bw P w K mg base CX (k+1) f (PySem.W.fnOf name qual params body scope dV kV doc pm an cdv ct) ps sp:=by
 refine⟨len,λA outer s H args us vs Q E hr e0 hb r hsp=>?_⟩;have hl:=len _ _ _ _ hsp;have KX:K.In s.heap:=e0.mod.kin.keeps λb o e=>(e0.bs b o e).1;have lim:s.heap.NoLimit:=e0.mod.nolimit.keeps λb o e=>(e0.bs b o e).1;have Lg:∀y∈ps.zip us,scope.names.lookup y.1=some .local∨(scope.names.lookup y.1=some .cell/\((cellsFrom (s.heap.objs.size+1) scope.names []).lookup y.1).isSome=true):=λ⟨n,v⟩ hy=>by
  rcases S.par n (List.of_mem_zip hy).1 with q|q
  ·exact .inl q
  ·exact .inr ⟨q,PySem.W.cellsFrom_some _ _ _ (.inl q)⟩
 refine codeAny_call_function hr.depth (KX _ _ lk) rfl S.co S.gen rfl (PySem.W.codeRec_of KX hcd) (hb _ _ _ _ ?_);refine wpAny_newFunctionEnv_cells S.kind Lg λenv he s1 x=>?_;subst he;refine⟨lim.keeps x.toInCall.keep,codeAny_func ?_⟩;obtain⟨t,ht,hq⟩:=Gd A outer s H vs Q E (hr.deeper _) hsp;have I:Inv (zh CX P w K mg base N qual scope f cdv A outer s H E) [] (start N vs) H s1:=EC S hr.hd e0 hl r x;refine Pd (ht [] s1 (start N vs) H _ I hq) (λfl s' hs=>?_) λe s' hs=>hs;have fin:∀{σ':St}{H':Hp}{v:V}{u:Value},Inv (zh CX P w K mg base N qual scope f cdv A outer s H E) [] σ' H' s'->RelV v u->Q v H'->CE outer P w H s Q u s':=
  λ{σ' H' v u} J rv q=>⟨v,H',J.os,J.bare,J.base,J.hok,rv,q⟩
 cases fl with
 |ret u=>
  obtain⟨v,σ',H',J,rv,q⟩:=hs;exact fin J rv q
 |next=>
  obtain⟨σ',H',J,q⟩:=hs;exact fin (v:=V.non) (u:=Value.none) J rfl q
 |brk=>
  obtain⟨_,_,_,q⟩:=hs;exact False.elim q
 |cont=>
  obtain⟨_,_,_,q⟩:=hs;exact False.elim q
section
variable{X:Cx}{x:Str}{p pos:Pos}{e:Expr}{es:List Expr}{t:TA}{id T:String}{r:List V->Hp->VK->Prop}
def kCB(r:List V->Hp->VK->Prop)(Q:VK)(vs:List V)(H:Hp):Prop:=r vs H Q
def tCB(r:List V->Hp->VK->Prop)(t:TA):TE:=λσ H Q=>t σ H (kCB r Q)
theorem aP(hc:tK X (.builtin id) r)(hg:Gl X x)(hm:X.mg x=none)(hv:bootBuiltins x=some (.builtin id))(ha:PA X (e::es) t)(hn:x≠"__name__":=by decide)(hdb:(x==("__debug__":Str))=false:=by decide)
  (he:starEach (e::es) X.env=(false,eval e X.env)::starEach es X.env:=by rfl)(hpl:(backTo pos (starEach es X.env)).any (·.1)=false:=by rfl):PE X (.Call (.Name x p) (e::es) [] pos) (tCB r t):=by
 intro pins s σ H Q I h;refine PR (p6 I hg hm hv ?_ hn hdb);exact PyProof.Rows.callWith_builtin1 (thn (ha pos pins s σ H _ I h) λus s1 ⟨vs,H1,I1,r1,q1⟩=>hc pins s1 σ H1 vs us Q I1 r1 q1) he hpl
theorem ia(hc:tK X (.type T) r)(hg:Gl X x)(hm:X.mg x=none)(hv:bootBuiltins x=some (.type T))(ha:PA X (e::es) t)(hn:x≠"__name__":=by decide)(hdb:(x==("__debug__":Str))=false:=by decide)
  (he:starEach (e::es) X.env=(false,eval e X.env)::starEach es X.env:=by rfl)(hpl:(backTo pos (starEach es X.env)).any (·.1)=false:=by rfl):PE X (.Call (.Name x p) (e::es) [] pos) (tCB r t):=by
 intro pins s σ H Q I h;refine PR (p6 I hg hm hv ?_ hn hdb);exact PyProof.Rows.callWith_type1 (thn (ha pos pins s σ H _ I h) λus s1 ⟨vs,H1,I1,r1,q1⟩=>hc pins s1 σ H1 vs us Q I1 r1 q1) he hpl
end
end L2
namespace HT
open PySem PyProof.Rows
section
variable{prog:Program}{w:World}{A:Around}{E:Rv}{s:Shared}
theorem Ig{t b:Addr}{vs ws:List Value}{Q:Rv}(ht:IsTup s.heap t vs.toArray)(hb:IsTup s.heap b ws.toArray)(hv:vs≠[])
  (h1:ws=[]->Q (.ref t) s)(h2:ws≠[]->Q (.ref s.heap.objs.size) {s with heap:=s.heap.push {cls:=.type "tuple",data:=.seq (vs++ws).toArray}})
  (hsz:vs.length+ws.length<=sizeLine):wpAny (model prog w) A (binaryOp .Add (.ref t) (.ref b)) Q E s:=by
 obtain⟨⟨cls,dd,data,sl⟩,ho,hc,n,hd⟩:=id ht;obtain⟨⟨Nc,dd2,data2,sl2⟩,ho2,hc2,n2,hd2⟩:=id hb;simp only at hc hd hc2 hd2;subst hc hd hc2 hd2;have e:vs.toArray++ws.toArray=(vs++ws).toArray:=by simp
 by_cases hw:ws=[]
 ·exact concat_meets ⟨_,ho,rfl⟩ ⟨_,ho2,rfl⟩ noFill_tuple_add seq_tuple_add PySem.F.slot_tuple_add PySem.F.entry_tuple_add (PySem.F.args_tuple_add_2 _ _)
   (tuple_addW1 t b vs.toArray ws.toArray n n2 dd dd2 sl sl2 (by simpa using hv) (by simp[hw])) ⟨ho,ho2,h1 hw⟩
 ·refine concat_meets ⟨_,ho,rfl⟩ ⟨_,ho2,rfl⟩ noFill_tuple_add seq_tuple_add PySem.F.slot_tuple_add PySem.F.entry_tuple_add (PySem.F.args_tuple_add_2 _ _)
   (tuple_addW2 t b vs.toArray ws.toArray n n2 dd dd2 sl sl2 (by simpa using hv) (by simpa using hw) (by rw[NN,NN];exact hsz)) ⟨ho,ho2,?_⟩
  rw[e];exact h2 hw
def sIx(n d:Nat):Option Int->Nat
 |none=>d
 |some v=>if v<0 then(v+(n:Int)).toNat else min v.toNat n
theorem C8(n d k:Nat):sIx n d (some (k:Int))=min k n:=by
 show(if(k:Int)<0 then((k:Int)+(n:Int)).toNat else min (k:Int).toNat n)=min k n;rw[Nt (by omega),Nw]
end
end HT
namespace L2
open PySem PySem.Spec PyProof.Rows
abbrev TO:=St->Hp->(Option Int->Hp->Prop)->Prop
def PO(X:Cx)(e:Option Expr)(t:TO):Prop:=
 ∀(pins:List (Addr×Obj))(s:Shared)(σ:St)(H:Hp)(Q:Option Int->Hp->Prop),Inv X pins σ H s->t σ H Q->
  wpAny (model X.prog X.w) X.A (evalPart e X.env) (λu s'=>∃o H',Inv X pins σ H' s'/\IsPart u o/\Q o H') X.xe s
def Kr(t:TE):TO:=λσ H Q=>t σ H λx H1=>∃i,x=.int i/\Q (some i) H1
section
variable{X:Cx}{e:Expr}{te:TE}{lo hi:Option Expr}{tl th:TO}{pos p2:Pos}
theorem uo(h:PE X e te):PO X (some e) (Kr te):=by
 intro pins s σ H Q I hw;rw[evalPart_some];refine thn (h pins s σ H _ I hw) λu s1 ⟨x,H1,I1,r1,q1⟩=>?_;obtain⟨i,rfl,q⟩:=q1;obtain⟨t,rfl⟩:=r1;exact⟨some i,H1,I1,.int i t,q⟩
def SlR(X:Cx)(r:V->Option Int->Option Int->Hp->VK->Prop):Prop:=
 ∀(pins:List (Addr×Obj))(s:Shared)(σ:St)(H:Hp)(x:V)(v vl vu:Value)(lo hi:Option Int)(sl:Addr)(Q:VK),Inv X pins σ H s->RelV x v->s.heap.IsSliceOf sl vl vu .none->IsPart vl lo->IsPart vu hi->r x lo hi H Q->
  ∃T id,typeLookup (.type T) "__getitem__"=pure (some (.builtin id))/\s.TypeIs v T/\wpAny (model X.prog X.w) X.A (getItem v (.ref sl)) (EP X pins σ Q) X.xe s
def tSl(r:V->Option Int->Option Int->Hp->VK->Prop)(te:TE)(tl th:TO):TE:=λσ H Q=>te σ H λx H1=>tl σ H1 λl H2=>th σ H2 λu H3=>r x l u H3 Q
theorem Ah{r:V->Option Int->Option Int->Hp->VK->Prop}(hr:SlR X r)(he:PE X e te)(hl:PO X lo tl)(hu:PO X hi th):PE X (.Subscript e (.Slice lo hi none p2) pos) (tSl r te tl th):=by
 intro pins s σ H Q I h;refine Subscript_ (thn (he pins s σ H _ I h) λv s1 ⟨x,H1,I1,r1,q1⟩=>?_);refine wpAny_Slice (thn (hl pins s1 σ H1 _ I1 q1) λvl s2 ⟨l,H2,I2,pl,q2⟩=>thn (hu pins s2 σ H2 _ I2 q2) λvu s3 ⟨u,H3,I3,pu,q3⟩=>?_);rw[evalPart_none];refine NF ?_;have I4:Inv X pins σ H3 {s3 with heap:=s3.heap.push {cls:=.type "slice",data:=.fields #[vl,vu,.none]}}:=I3.kept (t':=s3.toks) λb ob q=>Nl _ q;obtain⟨T,id,hT,ht,hg⟩:=hr pins {s3 with heap:=s3.heap.push {cls:=.type "slice",data:=.fields #[vl,vu,.none]}} σ H3 x v vl vu l u s3.heap.objs.size Q I4 r1 (Heap.IsSliceOf.new ..) pl pu q3;show wpAny (model X.prog X.w) X.A (subscriptTail e (.Slice lo hi none p2) v (.ref s3.heap.objs.size)) (EP X pins σ Q) X.xe {s3 with heap:=s3.heap.push {cls:=.type "slice",data:=.fields #[vl,vu,.none]}};exact tail_any (ops:=[.ref s3.heap.objs.size,v]) ht hT hg (by with_unfolding_all rfl)
def CF(xs:List V)(lo hi:Option Int):List V:=(xs.drop (HT.sIx xs.length 0 lo)).take (HT.sIx xs.length xs.length hi-HT.sIx xs.length 0 lo)
theorem Bk(xs:List V)(lo hi:Option Int):(CF xs lo hi).length<=xs.length:=by
 unfold CF;rw[N2,O1];omega
def KG(K:Rt):R2:=λx y H Q=>∃a b xs ys,x=.ref a/\y=.ref b/\SqT K H a xs/\SqT K H b ys/\xs≠[]/\xs.length+ys.length<=sizeLine/\
 (ys=[]->Q (.ref a) H)/\(ys≠[]->∀p,H p=none->Q (.ref p) (upd H p (.tup (xs++ys))))
theorem Vals.yL{xs:List V}{us:List Value}(r:Vals xs us):us=[]↔xs=[]:=by
 cases r with
 |nil=>simp
 |cons _ _=>simp
theorem Hh:OpR X (binaryOp .Add) (KG X.K):=by
 intro pins s σ H x y v u Q I rx ry h;obtain⟨a,b,xs,ys,rfl,rfl,ha,hb,hx,hz,q1,q2⟩:=h;cases rx;cases ry;obtain⟨its,r1,p1,_⟩:=I.tuple ha;obtain⟨mX,r2,p2,_⟩:=I.tuple hb;refine HT.Ig p1 p2 (λz=>hx (r1.yL.mp z)) (λz=>⟨.ref a,H,I,rfl,q1 (r2.yL.mp z)⟩) (λz=>?_) (by rw[<-r1.length,<-r2.length];exact hz);refine⟨.ref s.heap.objs.size,_,I.laid (t':=s.toks) (o:=.tup (xs++ys)) (λb ob q=>Nl _ q) (Nq _) ?_,rfl,q2 (λw=>z (r2.yL.mpr w)) _ (I.hok.fresh (Nq _))⟩;exact⟨by rw[Nk];exact hz,_,r1.append r2,IsTup.new _ _⟩
end
def ixN(n:Nat)(i:Int):Option Nat:=if 0<=i then(if i<n then some i.toNat else none)else if -(n:Int)<=i then some (i+n).toNat else none
def atI{α:Type}(xs:List α)(i:Int):Option α:=(ixN xs.length i).bind λj=>xs[j]?
variable{n:Nat}{i:Int}
theorem Dv{j:Nat}(h:ixN n i=some j):seqIndex? i n=some j/\j<n/\-(n:Int)<=i/\i<n:=by
 unfold ixN at h;by_cases h0:0<=i
 ·rw[Nz h0]at h;by_cases h1:i<n
  ·rw[Nz h1]at h;have e:i.toNat=j:=Nm h;exact⟨by rw[seqIndex_of h0 h1,e],by omega,by omega,h1⟩
  ·rw[Nt h1]at h;cases h
 ·rw[Nt h0]at h;by_cases h1:-(n:Int)<=i
  ·rw[Nz h1]at h;have e:(i+n).toNat=j:=Nm h;exact⟨by rw[seqIndex_neg (by omega) h1,e],by omega,h1,by omega⟩
  ·rw[Nt h1]at h;cases h
variable{α:Type}
theorem DT{xs:List α}{v:α}(h:atI xs i=some v):∃j,seqIndex? i xs.length=some j/\xs[j]?=some v/\j<xs.length/\-(xs.length:Int)<=i/\i<xs.length:=by
 unfold atI at h;cases e:ixN xs.length i with
 |none=>rw[e]at h;cases h
 |some j=>
  rw[e]at h;obtain⟨h1,h2,h3,h4⟩:=Dv e;exact⟨j,h1,h,h2,h3,h4⟩
theorem bg{xs:List α}{j:Nat}{v:α}(h:xs[j]?=some v):atI xs (j:Int)=some v:=by
 have hj:j<xs.length:=(Nh.mp h).1;have e:ixN xs.length (j:Int)=some j:=by
  unfold ixN;rw[Nz (by omega),Nz (by omega)];simp
 unfold atI;rw[e];exact h
theorem Gz(xs:List α)(v:α):atI (xs++[v]) (-1)=some v:=by
 have hl:(xs++[v]).length=xs.length+1:=by simp
 have e:ixN (xs++[v]).length (-1)=some xs.length:=by
  unfold ixN;rw[hl,Nt (by decide),Nz (by omega)];congr 1;omega
 unfold atI;rw[e];show(xs++[v])[xs.length]?=some v;simp
def Io(b:Expr):Prop:=∀o i,subscripted b false o i=operate [o,i] (getItem o i)
def IxR(X:Cx)(r:R2):Prop:=
 ∀(value slice:Expr)(pins:List (Addr×Obj))(s:Shared)(σ:St)(H:Hp)(x y:V)(v u:Value)(Q:VK),Inv X pins σ H s->RelV x v->RelV y u->r x y H Q->
  subscripted slice false v u=operate [v,u] (getItem v u)->wpAny (model X.prog X.w) X.A (subscriptTail value slice v u) (EP X pins σ Q) X.xe s
def MtR(X:Cx)(id:String)(r:V->List V->Hp->VK->Prop):Prop:=
 ∀(pins:List (Addr×Obj))(s:Shared)(σ:St)(H:Hp)(x:V)(xs:List V)(v:Value)(us:List Value)(Q:VK),Inv X pins σ H s->RelV x v->Vals xs us->r x xs H Q->
  wpAny (model X.prog X.w) X.A (call (.builtin id) (v::us)) (EP X pins σ Q) X.xe s
section
variable{X:Cx}{a b:Expr}{ta tb:TE}{pos:Pos}
theorem aS{r:R2}(hr:IxR X r)(ha:PE X a ta)(hb:PE X b tb)(hs:Io b):PE X (.Subscript a b pos) (tOp r ta tb):=by
 intro pins s σ H Q I h;exact Subscript_ (J8 ha hb I h λv u s2 x y H2 I2 rx ry q=>hr a b pins s2 σ H2 x y v u Q I2 rx ry q (hs _ _))
inductive IS(K:Rt)(x y:V)(H:Hp)(Q:VK):Prop|mk (p:Addr) (xs:List V) (i:Int) (v:V):x=.ref p->y=.int i->SqL K H p xs->atI xs i=some v->Q v H->IS K x y H Q
def L8(K:Rt):R2:=IS K
inductive IQ(K:Rt)(x y:V)(H:Hp)(Q:VK):Prop|mk (p:Addr) (xs:List V) (i:Int) (v:V):x=.ref p->y=.int i->SqT K H p xs->atI xs i=some v->Q v H->IQ K x y H Q
def KD(K:Rt):R2:=IQ K
theorem aE:IxR X (L8 X.K):=by
 intro value slice pins s σ H x y v u Q I rx ry h hs;obtain⟨p,xs,i,z,rfl,rfl,hq,he,q⟩:=h;cases rx;obtain⟨t,rfl⟩:=ry;obtain⟨its,r,pl,hz⟩:=I.list hq;obtain⟨j,h1,h2,h3,h4,h5⟩:=DT he;obtain⟨w,ew,rw'⟩:=r.get h2;have hl:=r.length;have hn:=yT;have fin:EP X pins σ Q w s:=⟨z,H,I,rw',q⟩;by_cases h0:0<=i
 ·have hj:i.toNat=j:=by
   rw[seqIndex_of h0 h5]at h1;exact Nm h1
  exact item_listR pl.isList h0 (by omega) (by rw[hj];simpa using ew) fin hs
 ·have hj:(i+(its.toArray.size:Int)).toNat=j:=by
   rw[seqIndex_neg (by omega) h4]at h1;rw[NN,<-hl];exact Nm h1
  exact subscriptTail_builtinR (x:=w) pl.isList.typeIs slot_list_getitem.lookup
   (wpAny_getItem_list_neg (Q:=λr s'=>r=w/\EP X pins σ Q r s') pl.isList (by omega) (by rw[NN]<;>omega) (by omega) (by rw[hj];simpa using ew) ⟨rfl,fin⟩) hs
theorem eI:IxR X (KD X.K):=by
 intro value slice pins s σ H x y v u Q I rx ry h hs;obtain⟨p,xs,i,z,rfl,rfl,hq,he,q⟩:=h;cases rx;obtain⟨t,rfl⟩:=ry;obtain⟨its,r,pl,hz⟩:=I.tuple hq;obtain⟨j,h1,h2,h3,h4,h5⟩:=DT he;obtain⟨w,ew,rw'⟩:=r.get h2;have hl:=r.length;have hn:=yT;have fin:EP X pins σ Q w s:=⟨z,H,I,rw',q⟩;exact subscriptTail_builtinR (x:=w) pl.typeIs slot_tuple_getitem.lookup
  (getItem_tuple (j:=j) (Q:=λr s'=>r=w/\EP X pins σ Q r s') pl (by omega) (by omega) (by rw[NN,<-hl];exact h1) (by simpa using ew) ⟨rfl,fin⟩) hs
theorem Cf(its:List Value)(n j:Nat)(u:Value):Obj.mapSeq (·.setIfInBounds j u) {cls:=.type "list",data:=.seq its.toArray n}={cls:=.type "list",data:=.seq (its.set j u).toArray n}:=by
 simp[Obj.mapSeq]
variable{pins:List (Addr×Obj)}{σ:St}{H:Hp}{s:Shared}{xs:List V}
theorem Inv.lst{p:Addr}(I:Inv X pins σ H s)(h:H p=some (.lst xs)):
  ∃(its:List Value) (n:Nat),Vals xs its/\s.heap.get? p=some {cls:=.type "list",data:=.seq its.toArray n}/\xs.length<=sizeLine:=by
 obtain⟨z,its,n,r,e⟩:=I.hok p _ h;exact⟨its,n,r,e,z⟩
theorem Inv.Jx{p:Addr}{ys:List V}{its p7:List Value}{n':Nat}{f:Obj->Obj}(I:Inv X pins σ H s)(h:H p=some (.lst xs))
  (ho:s.heap.get? p=some {cls:=.type "list",data:=.seq its.toArray n})(hf:f {cls:=.type "list",data:=.seq its.toArray n}={cls:=.type "list",data:=.seq p7.toArray n'})(r:Vals ys p7)(hz:ys.length<=sizeLine)(t:Nat):
  Inv X pins σ (upd H p (.lst ys)) {s with heap:=s.heap.update p f,toks:=t}:=by
 have e:(s.heap.update p f).get? p=some {cls:=.type "list",data:=.seq p7.toArray n'}:=by
  rw[QF f ho (by rw[hf]<;>rfl),hf]
 refine I.write (x:=p) (e:=p) (by rw[h];trivial) (.inl rfl) (λb u hb q=>(Heap.get?_update_other _ _ (Ne.symm hb)).trans q) ⟨_,e⟩ ?_;exact⟨hz,p7,n',r,e⟩
inductive ISL(o i v:V)(H:Hp)(Q:Hp->Prop):Prop|mk (p:Addr) (xs:List V) (k:Int) (j:Nat):o=.ref p->i=.int k->H p=some (.lst xs)->ixN xs.length k=some j->Q (upd H p (.lst (xs.set j v)))->ISL o i v H Q
def Iz:V->V->V->Hp->(Hp->Prop)->Prop:=ISL
theorem set_list:LH X Iz:=by
 intro pins s σ H o i v ov iv u Q I ro ri rv h;obtain⟨p,xs,k,j,rfl,rfl,hp,hj,q⟩:=h;cases ro;obtain⟨t,rfl⟩:=ri;obtain⟨its,n,r,ho,hz⟩:=I.lst hp;obtain⟨h1,h2,h3,h4⟩:=Dv hj;have hl:=r.length;have hn:=yT;have I':Inv X pins σ (upd H p (.lst (xs.set j v))) {s with heap:=s.heap.update p (Obj.mapSeq (·.setIfInBounds j u))}:=
  I.Jx hp ho (Cf its n j u) (r.set rv j) (by rw[PV];exact hz) s.toks
 by_cases h0:0<=k
 ·have hk:k.toNat=j:=by
   rw[seqIndex_of h0 h4]at h1;exact Nm h1
  exact PySem.W.ki_setAt ho h0 (by omega) (by rw[NN,<-hl];exact h4) (by rw[hk];exact⟨_,I',q⟩)
 ·have hk:(k+(its.toArray.size:Int)).toNat=j:=by
   rw[seqIndex_neg (by omega) h3]at h1;rw[NN,<-hl];exact Nm h1
  exact PySem.W.ki_setBack ho (by omega) (by rw[NN,<-hl];exact h3) (by omega) (by rw[hk];exact⟨_,I',q⟩)
theorem yn(lo hi:Option Int)(n:Nat):(sliceBounds lo hi none n).1=((HT.sIx n 0 lo:Nat):Int)/\(sliceBounds lo hi none n).2.1=((HT.sIx n n hi:Nat):Int)/\(sliceBounds lo hi none n).2.2=1:=by
 refine⟨?_,?_,rfl⟩
 ·cases lo with
  |none=>simp[sliceBounds,HT.sIx]
  |some i=>
   simp only[sliceBounds,HT.sIx,Option.getD_none,show(1:Int)>0 by decide,Qj];by_cases h:i<0
   ·simp only[h,Qj]<;>omega
   ·simp only[h,Qa]<;>omega
 ·cases hi with
  |none=>simp[sliceBounds,HT.sIx]
  |some i=>
   simp only[sliceBounds,HT.sIx,Option.getD_none,show(1:Int)>0 by decide,Qj];by_cases h:i<0
   ·simp only[h,Qj]<;>omega
   ·simp only[h,Qa]<;>omega
theorem wH(its:List Value)(lo hi:Option Int):slicePick its.toArray lo hi none=((its.drop (HT.sIx its.length 0 lo)).take (HT.sIx its.length its.length hi-HT.sIx its.length 0 lo)).toArray:=by
 obtain⟨h1,h2,h3⟩:=yn lo hi its.toArray.size;unfold slicePick;rw[h1,h2,h3];simp only[sliceRange_one,pick_run,NN]<;>rfl
def L5(K:Rt):V->Option Int->Option Int->Hp->VK->Prop:=λx lo hi H Q=>∃a xs,x=.ref a/\SqL K H a xs/\∀p,H p=none->Q (.ref p) (upd H p (.lst (CF xs lo hi)))
theorem C6:SlR X (L5 X.K):=by
 intro pins s σ H x v vl vu lo hi sl Q I rx hs pl pu h;obtain⟨a,xs,rfl,hx,q⟩:=h;cases rx;obtain⟨its,r,ht,hz⟩:=I.list hx;have hlen:=r.length;refine⟨"list",_,slot_list_getitem.lookup,ht.isList.typeIs,?_⟩;refine wpAny_getItem_list_slice ht.isList hs pl pu .none (by simp) ?_ (by rw[NN]<;>omega);rw[wH,<-hlen];refine⟨.ref s.heap.objs.size,_,I.laid (t':=s.toks) (o:=.lst (CF xs lo hi)) (λb ob q=>Nl _ q) (Nq _) ?_,rfl,q _ (I.hok.fresh (Nq _))⟩;exact⟨NR (Bk xs lo hi) hz,_,0,(r.drop (HT.sIx xs.length 0 lo)).take (HT.sIx xs.length xs.length hi-HT.sIx xs.length 0 lo),NP _ rfl⟩
def tE:V->Bool
 |.non=>true
 |.bl _=>true
 |.int _=>true
 |.str _=>true
 |_=>false
def eqV:V->V->Bool
 |.non,.non=>true
 |.bl a,.bl b=>a==b
 |.bl a,.int b=>(if a then 1 else 0)==b
 |.int a,.bl b=>a==(if b then 1 else 0)
 |.int a,.int b=>a==b
 |.str a,.str b=>a==b
 |_,_=>false
variable{x:V}{u v:Value}
theorem J0{A:Around}{y:V}(ry:RelV y u)(rx:RelV x v)(fy:tE y=true)(fx:tE x=true):SeqAt.EqAt A s u v (eqV y x):=by
 cases y with
 |non=>
  cases ry;cases x with
  |non=>cases rx;exact SeqAt.EqAt.same _
  |bl b=>cases rx;exact SeqAt.EqAt.none_bool b
  |int b=>obtain⟨t,rfl⟩:=rx;exact SeqAt.EqAt.none_int b t
  |str b=>obtain⟨t,rfl⟩:=rx;exact SeqAt.EqAt.none_str b t
  |_=>exact absurd (show false=true from fx) NI
 |bl a=>
  cases ry;cases x with
  |non=>cases rx;exact SeqAt.EqAt.bool_none a
  |bl b=>cases rx;exact SeqAt.EqAt.bool_bool a b
  |int b=>obtain⟨t,rfl⟩:=rx;exact SeqAt.EqAt.bool_int a b t
  |str b=>obtain⟨t,rfl⟩:=rx;exact SeqAt.EqAt.bool_str a b t
  |_=>exact absurd (show false=true from fx) NI
 |int a=>
  obtain⟨t',rfl⟩:=ry;cases x with
  |non=>cases rx;exact SeqAt.EqAt.int_none a t'
  |bl b=>cases rx;exact SeqAt.EqAt.int_bool a t' b
  |int b=>obtain⟨t,rfl⟩:=rx;exact SeqAt.EqAt.int_int a t' b t
  |str b=>obtain⟨t,rfl⟩:=rx;exact SeqAt.EqAt.int_str a t' b t
  |_=>exact absurd (show false=true from fx) NI
 |str a=>
  obtain⟨t',rfl⟩:=ry;cases x with
  |non=>cases rx;exact SeqAt.EqAt.str_none a t'
  |bl b=>cases rx;exact SeqAt.EqAt.str_bool a t' b
  |int b=>obtain⟨t,rfl⟩:=rx;exact SeqAt.EqAt.str_int a t' b t
  |str b=>obtain⟨t,rfl⟩:=rx;exact SeqAt.EqAt.str_str a t' b t
  |_=>exact absurd (show false=true from fx) NI
 |_=>exact absurd (show false=true from fy) NI
def eqU(x:V)(u:Value):Bool:=match u with
 |.none=>eqV .non x
 |.bool b=>eqV (.bl b) x
 |.int i _=>eqV (.int i) x
 |.str z _=>eqV (.str z) x
 |_=>false
theorem Gm{y:V}(r:RelV y u)(f:tE y=true):eqU x u=eqV y x:=by
 cases y with
 |non=>cases r;rfl
 |bl b=>cases r;rfl
 |int i=>obtain⟨t,rfl⟩:=r;rfl
 |str z=>obtain⟨t,rfl⟩:=r;rfl
 |_=>exact absurd (show false=true from f) NI
theorem zq{x:V}:∀{xs:List V}{us:List Value},Vals xs us->xs.all tE=true->us.any (eqU x)=xs.any λy=>eqV y x
 |_,_,.nil,_=>rfl
 |y::xs,u::us,.cons r t,f=>by
  rw[List.all_cons,Nv]at f;rw[OB,OB,Gm r f.1,zq t f.2]
theorem vE{A:Around}{s:Shared}{x:V}{v:Value}(rx:RelV x v)(fx:tE x=true):∀{xs:List V}{us:List Value},Vals xs us->xs.all tE=true->∀u∈us,SeqAt.EqAt A s u v (eqU x u)
 |_,_,.nil,_=>λu hu=>by cases hu
 |y::xs,u::us,.cons r t,f=>λu' hu=>by
  rw[List.all_cons,Nv]at f;rcases ND.mp hu with rfl|hu
  ·rw[Gm r f.1];exact J0 r rx f.1 fx
  ·exact vE rx fx t f.2 u' hu
def inV(x:V)(xs:List V):Bool:=xs.any λy=>eqV y x
inductive IIn(K:Rt)(neg:Bool)(x y:V)(H:Hp)(Q:VK):Prop|mk (p:Addr) (xs:List V):y=.ref p->(SqL K H p xs∨SqT K H p xs)->tE x=true->xs.all tE=true->Q (.bl (if neg then !inV x xs else inV x xs)) H->IIn K neg x y H Q
def rIn(K:Rt)(neg:Bool):R2:=IIn K neg
theorem n9:OpR X (compareOp .In) (rIn X.K false):=by
 intro pins s σ H x y v u Q I rx ry h;obtain⟨p,xs,rfl,hq,fx,fs,q⟩:=h;cases ry;rcases hq with hq|hq
 ·obtain⟨its,r,pl,hz⟩:=I.list hq;refine SeqAt.in_listAt (eqU x) pl.isList (λw hw=>vE rx fx r fs w (by simpa using hw)) ⟨.bl _,H,I,rfl,?_⟩;rw[show its.toArray.any (eqU x)=its.any (eqU x) by simp,zq r fs];exact q
 ·obtain⟨its,r,pl,hz⟩:=I.tuple hq;refine SeqAt.in_tupleAt (eqU x) pl (λw hw=>vE rx fx r fs w (by simpa using hw)) ⟨.bl _,H,I,rfl,?_⟩;rw[show its.toArray.any (eqU x)=its.any (eqU x) by simp,zq r fs];exact q
inductive LL(K:Rt)(xs:List V)(H:Hp)(Q:VK):Prop|mk (p:Addr) (ys:List V):xs=[.ref p]->(SqL K H p ys∨SqT K H p ys)->Q (.int ys.length) H->LL K xs H Q
theorem aC:tK X (.builtin "len") (LL X.K):=by
 intro pins s σ H xs us Q I r h;obtain⟨p,ys,rfl,hq,q⟩:=h;obtain⟨u,rfl,rx⟩:=vals1 r;cases rx;have hn:=yT;rcases hq with hq|hq
 ·obtain⟨its,r',pl,hz⟩:=I.list hq;have hlen:=r'.length;exact Calls.call_len_list pl.isList (by simp only[NN]<;>omega) ⟨.int ys.length,H,I.tok _,⟨s.toks+1,by rw[NN,hlen]⟩,q⟩
 ·obtain⟨its,r',pl,hz⟩:=I.tuple hq;have hlen:=r'.length;exact len_tuple pl (by simp only[NN]<;>omega) ⟨.int ys.length,H,I.tok _,⟨s.toks+1,by rw[NN,hlen]⟩,q⟩
theorem zj:tK X (.type "list") (λxs H Q=>∃p ys,xs=[.ref p]/\(SqL X.K H p ys∨SqT X.K H p ys)/\∀l,H l=none->Q (.ref l) (upd H l (.lst ys))):=by
 intro pins s σ H xs us Q I r h;obtain⟨p,ys,rfl,hq,q⟩:=h;obtain⟨u,rfl,rx⟩:=vals1 r;cases rx;have fin:∀(its:List Value),Vals ys its->ys.length<=sizeLine->∀(h':Heap)(c':Nat),(∀b o',s.heap.get? b=some o'->h'.get? b=some o')->
   h'.get? s.heap.objs.size=some {cls:=.type "list",dict:=none,data:=.seq its.toArray c',slots:=#[]}->EP X pins σ Q (.ref s.heap.objs.size) {s with heap:=h'}:=λits r' hz h' c' kp e=>
  ⟨.ref s.heap.objs.size,_,I.laid (t':=s.toks) kp (Nq _) (show cV X.prog X.w _ h' _ (.lst ys)from⟨hz,its,c',r',e⟩),rfl,q _ (I.hok.fresh (Nq _))⟩
 rcases hq with hq|hq
 ·obtain⟨its,r',pl,hz⟩:=I.list hq;have hlen:=r'.length;obtain⟨o,ho,hc,n,hd⟩:=pl.isList;exact call_list_seq p (.inl rfl) ho hc hd (λh' c' kp e=>fin its r' hz h' c' kp e) (by simp only[NN]<;>omega)
 ·obtain⟨its,r',pl,hz⟩:=I.tuple hq;have hlen:=r'.length;obtain⟨o,ho,hc,n,hd⟩:=pl;exact call_list_seq p (.inr rfl) ho hc hd (λh' c' kp e=>fin its r' hz h' c' kp e) (by simp only[NN]<;>omega)
theorem eX:tK X (.type "tuple") (λxs H Q=>∃p ys,xs=[.ref p]/\((SqL X.K H p ys/\∀l,H l=none->Q (.ref l) (upd H l (.tup ys)))∨(SqT X.K H p ys/\Q (.ref p) H))):=by
 intro pins s σ H xs us Q I r h;obtain⟨p,ys,rfl,h⟩:=h;obtain⟨u,rfl,rx⟩:=vals1 r;cases rx;rcases h with⟨hq,q⟩|⟨hq,q⟩
 ·obtain⟨its,r',pl,hz⟩:=I.list hq;have hlen:=r'.length;refine call_tuple_list pl.isList (λh' kp=>?_) (by simp only[NN]<;>omega);have I1:Inv X pins σ H {s with heap:=h'}:=I.kept (t':=s.toks) kp;have I2:Inv X pins σ (upd H h'.objs.size (.tup ys)) {s with heap:=h'.push {cls:=.type "tuple",data:=.seq its.toArray}}:=
   I1.laid (t':=s.toks) (λb o e=>Nl _ e) (Nq _) (show cV X.prog X.w _ _ _ (.tup ys)from⟨hz,its,r',IsTup.new _ _⟩)
  exact⟨.ref h'.objs.size,_,I2,rfl,q _ (I1.hok.fresh (Nq _))⟩
 ·obtain⟨its,r',pl,hz⟩:=I.tuple hq;exact call_tuple_same pl ⟨.ref p,H,I,rfl,q⟩
def tyV(K:Rt)(T:String)(x:V)(H:Hp):Prop:=match x with
 |.str _=>T="str"
 |.int _=>T="int"
 |.ref p=>(T="list"/\∃xs,SqL K H p xs)∨(T="tuple"/\∃o,K.lookup p=some o/\o.cls=.type "tuple"/\o.dict=none) ∨
  (T="dict"/\((∃kvs,H p=some (.dK kvs))∨∃kvs,H p=some (.dT kvs)))∨(T="set"/\∃S n,H p=some (.set S n))
 |_=>False
theorem Fc{T:String}(I:Inv X pins σ H s)(r:RelV x v)(ty:tyV X.K T x H):
  s.TypeIs v T/\∀a,v=.ref a->∃ob,s.heap.get? a=some ob/\ob.dict=none:=by
 cases x with
 |str z=>
  obtain⟨t,rfl⟩:=r;cases(show T="str" from ty);exact⟨typeIs_str s z t,λ_ e=>nomatch e⟩
 |int i=>
  obtain⟨t,rfl⟩:=r;cases(show T="int" from ty);exact⟨typeIs_int s i t,λ_ e=>nomatch e⟩
 |ref p=>
  cases r;rcases ty with⟨rfl,xs,hq⟩|⟨rfl,o,hk,hc,hd⟩|⟨rfl,hk⟩|⟨rfl,S,n,hk⟩
  ·obtain⟨its,_,pl,_⟩:=I.list hq;refine⟨pl.isList.typeIs,λa e=>?_⟩;cases e;obtain⟨o,n,e,c,hd,_⟩:=pl;exact⟨o,e,hd⟩
  ·refine⟨⟨o,I.kIn p o hk,hc⟩,λa e=>?_⟩;cases e;exact⟨o,I.kIn _ o hk,hd⟩
  ·have z:∃o,s.heap.get? p=some o/\o.ExactDict:=by
    rcases hk with⟨kvs,hk⟩|⟨kvs,hk⟩
    ·obtain⟨_,_,_,_,o,_,_,e,ex,_⟩:=I.hok p _ hk;exact⟨o,e,ex⟩
    ·obtain⟨_,_,_,_,o,_,_,e,ex,_⟩:=I.hok p _ hk;exact⟨o,e,ex⟩
   obtain⟨o,e,ex⟩:=z;refine⟨⟨o,e,ex.1⟩,λa e2=>?_⟩;cases e2;exact⟨o,e,ex.2.1⟩
  ·obtain⟨o,_,_,_,e,ex,_⟩:=I.hok p _ hk;refine⟨⟨o,e,ex.1⟩,λa e2=>?_⟩;cases e2;exact⟨o,e,ex.2.1⟩
 |_=>exact False.elim ty
def LW(K:Rt)(T:String)(r:V->List V->Hp->VK->Prop)(to:TE):TE:=λσ H Q=>to σ H λx H1=>tyV K T x H1/\r x [] H1 Q
def tBM(K:Rt)(T:String)(r:V->List V->Hp->VK->Prop)(to:TE)(t:TA):TE:=λσ H Q=>to σ H λx H1=>tyV K T x H1/\t σ H1 λxs H2=>r x xs H2 Q
variable{o e:Expr}{es:List Expr}{to:TE}{t:TA}{name:Str}{apos jZ:Pos}{T id:String}{r:V->List V->Hp->VK->Prop}
theorem B3(pa:PlainAttrs T)(slot:Slot T name id)(hty:typeOf (.builtin id)=pure (.type "method_descriptor"))(hm:MtR X id r)(ho:PE X o to)
  (A9:attributeBase o name X.env (eval o X.env)=eval o X.env:=by rfl)(A6:(apos.endLine==jZ.line)=true:=by rfl):PE X (.Call (.Attribute o name apos) [] [] jZ) (LW X.K T r to):=by
 intro pins s σ H Q I h;refine wpAny_Call_method0_late A9 A6 (thn (ho pins s σ H _ I h) λv s1 ⟨x,H1,I1,r1,ty,q1⟩=>?_);obtain⟨h1,h2⟩:=Fc I1 r1 ty;exact⟨T,id,pa,slot,hty,h1,h2,Qr rfl (PySem.evalArgs_none (hm pins s1 σ H1 x [] v [] Q I1 r1 .nil q1))⟩
theorem lK(pa:PlainAttrs T)(slot:Slot T name id)(hty:typeOf (.builtin id)=pure (.type "method_descriptor"))(hm:MtR X id r)(ho:PE X o to)(ha:PA X (e::es) t)
  (A9:attributeBase o name X.env (eval o X.env)=eval o X.env:=by rfl)
  (MN:((backTo jZ (starEach (e::es) X.env)).all (λx=>!x.1)&&(backToKw jZ (keywordEach [] X.env)).all (λx=>x.1.isSome)
   && decide ((e::es).length+([]:List Keyword).length+(if([]:List Keyword).isEmpty then 0 else 1)<30))=true:=by rfl)
  (A6:(apos.endLine==jZ.line)=true:=by rfl) (hs:starEach (e::es) X.env=(false,eval e X.env)::starEach es X.env:=by rfl) (JO:(backTo jZ (starEach es X.env)).any (·.1)=false:=by rfl):
  PE X (.Call (.Attribute o name apos) (e::es) [] jZ) (tBM X.K T r to t):=by
 intro pins s σ H Q I h;refine wpAny_Call_method_late A9 MN A6 rfl (thn (ho pins s σ H _ I h) λv s1 ⟨x,H1,I1,r1,ty,q1⟩=>?_);obtain⟨h1,h2⟩:=Fc I1 r1 ty;refine⟨T,id,pa,slot,hty,h1,h2,?_⟩;have hA:=ha jZ pins s1 σ H1 _ I1 q1;rw[hs]at hA ⊢;refine Qr (by show(false||(backTo jZ (starEach es X.env)).any (·.1))=false;rw[JO]<;>rfl) (Calls.evalArgs_plain ?_);exact thn hA λus s2 ⟨vs,H2,I2,r2,q2⟩=>hm pins s2 σ H2 x vs v us Q I2 r1 r2 q2
end
def MtM(X:Cx)(id:String)(r:V->List V->Hp->VK->Prop):Prop:=
 ∀(pins:List (Addr×Obj))(s:Shared)(σ:St)(H:Hp)(x:V)(xs:List V)(v:Value)(us:List Value)(Q:VK),Inv X pins σ H s->RelV x v->Vals xs us->r x xs H Q->
  wpAny (model X.prog X.w) X.A (call (.builtin id) (v::us)) (EP X pins σ Q) X.xe s
theorem Vals.one:∀{x:V}{us:List Value},Vals [x] us->∃u,us=[u]/\RelV x u
 |_,_,.cons r .nil=>⟨_,rfl,r⟩
theorem Vals.zero:∀{us:List Value},Vals [] us->us=[]
 |_,.nil=>rfl
variable{us:List Value}
theorem Vals.dropLast{xs:List V}(h:Vals xs us):Vals xs.dropLast us.dropLast:=by
 induction h with
 |nil=>exact .nil
 |cons r t ih=>
  cases t with
  |nil=>exact .nil
  |cons q t'=>exact .cons r ih
theorem Vals.rep{xs:List V}{us:List Value}(h:Vals xs us):∀k:Nat,Vals (List.replicate k xs).flatten (List.replicate k us).flatten
 |0=>.nil
 |k+1=>by
  rw[N3,N3,Pf,Pf];exact Vals.append h (Vals.rep h k)
theorem CD(l:List α):l.eraseIdx (l.length-1)=l.dropLast:=by
 induction l with
 |nil=>rfl
 |cons a r ih=>
  cases r with
  |nil=>rfl
  |cons b r=>
   have e:(a::b::r).length-1=((b::r).length-1)+1:=by
    have h1:(a::b::r).length=r.length+2:=rfl;have h2:(b::r).length=r.length+1:=rfl;omega
   rw[e,List.eraseIdx_cons_succ,ih]
   all_goals rfl
theorem foldl_rep(its:List Value):∀(k:Nat)(acc:List Value),
  List.foldl (λx1 x2=>x1++x2) acc.toArray (List.replicate k its.toArray)=(acc++(List.replicate k its).flatten).toArray
 |0,acc=>by simp
 |k+1,acc=>by
  have e:acc.toArray++its.toArray=(acc++its).toArray:=by simp
  have e2:(acc++its)++(List.replicate k its).flatten=acc++(List.replicate (k+1) its).flatten:=by
   rw[N3,Pf,NV]
  rw[<-e2,<-foldl_rep its k (acc++its),<-e,N3,PD]
section
variable{X:Cx}{pins:List (Addr×Obj)}{σ:St}{H:Hp}{s:Shared}{l b:Addr}{xs ys zs:List V}
variable{its:List Value}
theorem Inv.Jy{p7:List Value}{f:Array Value->Array Value}{t':Nat}(I:Inv X pins σ H s)(hH:H l=some (.lst xs))
  (e:s.heap.get? l=some {cls:=.type "list",data:=.seq its.toArray n})(hf:f its.toArray=p7.toArray)(hv:Vals ys p7)(hz:ys.length<=sizeLine):
  Inv X pins σ (upd H l (.lst ys)) {s with heap:=s.heap.update l (Obj.mapSeq f),toks:=t'}:=by
 have q:=PySem.IsL.update e f;rw[hf]at q;refine I.write (x:=l) (e:=l) (by rw[hH];exact trivial) (.inl rfl) (λb' u hb hu=>(Heap.get?_update_other s.heap (Obj.mapSeq f) (Ne.symm hb)).trans hu) ⟨_,q⟩ ?_;exact⟨hz,p7,_,hv,q⟩
theorem Inv.Jz{t':Nat}(I:Inv X pins σ H s)(hv:Vals ys its)(hz:ys.length<=sizeLine):
  Inv X pins σ (upd H s.heap.objs.size (.lst ys)) {s with heap:=s.heap.push {cls:=.type "list",data:=.seq its.toArray},toks:=t'}:=
 I.laid (λ_ _ q=>Nl _ q) (Nq _) ⟨hz,its,0,hv,NP _ rfl⟩
theorem Inv.fresh(I:Inv X pins σ H s):H s.heap.objs.size=none:=I.hok.fresh (Nq _)
theorem Inv.AS(I:Inv X pins σ H s)(hH:H l=some (.lst xs)):xs.length<=sizeLine/\∃(its:List Value) (n:Nat),Vals xs its/\xs.length=its.length/\s.heap.get? l=some {cls:=.type "list",data:=.seq its.toArray n}:=by
 obtain⟨z,its,n,r,e⟩:=I.hok l _ hH;exact⟨z,its,n,r,r.length,e⟩
theorem AF(h:n<=sizeLine):Builtin.List.listTooLong n=false:=by
 unfold Builtin.List.listTooLong;exact NL (by omega)
end
section
variable{X:Cx}
inductive IAp(x:V)(vs:List V)(H:Hp)(Q:VK):Prop|mk (l:Addr) (xs:List V) (y:V):x=.ref l->vs=[y]->H l=some (.lst xs)->xs.length<sizeLine->Q .non (upd H l (.lst (xs++[y])))->IAp x vs H Q
def C9:V->List V->Hp->VK->Prop:=IAp
theorem dD:MtM X "list.append" C9:=by
 intro pins s σ H x vs v us Q I rx rv h;obtain⟨l,xs,y,rfl,rfl,hH,hz,q⟩:=h;cases rx;obtain⟨u,rfl,ru⟩:=rv.one;obtain⟨z,its,n,r,hl,e⟩:=I.AS hH;refine call_meets F.slot_list_append ⟨_,e,rfl⟩ F.entry_list_append (F.args_list_append_2 _ _) (PySem.list_append l its.toArray n u (by rw[NN];omega)) ⟨e,?_⟩;refine⟨.non,_,I.Jy (p7:=its++[u]) hH e (by simp) (r.append (.cons ru .nil)) ?_,rfl,q⟩;rw[Nk,Ny];omega
def G9:V->List V->Hp->VK->Prop:=λx vs H Q=>∃l b xs zs,x=.ref l/\vs=[.ref b]/\H l=some (.lst xs)/\H b=some (.lst zs)/\xs.length+zs.length<=sizeLine/\Q .non (upd H l (.lst (xs++zs)))
theorem xH:MtM X "list.extend" G9:=by
 intro pins s σ H x vs v us Q I rx rv h;obtain⟨l,b,xs,zs,rfl,rfl,hH,hB,hz,q⟩:=h;cases rx;obtain⟨u,rfl,ru⟩:=rv.one;cases ru;obtain⟨z,its,n,r,hl,e⟩:=I.AS hH;obtain⟨z2,mX,n2,r2,hl2,e2⟩:=I.AS hB;have hsz:its.toArray.size+mX.toArray.size<=sizeLine:=by rw[NN,NN];omega
 have tD:¬(!its.toArray.isEmpty&&Builtin.List.listTooLong (its.toArray.size+mX.toArray.size))=true:=by
  rw[AF hsz,QB];exact NI
 refine call_meets F.slot_list_extend ⟨_,e,rfl⟩ F.entry_list_extend (F.args_list_extend_2 _ _)
  (AutoSeq1.list_extend_list_list_0 l its.toArray n b mX.toArray n2 tD (by rw[NN];omega) (by omega)) ⟨e,e2,?_⟩
 refine⟨.non,_,I.Jy (p7:=its++mX) hH e (by simp) (r.append r2) ?_,rfl,q⟩;rw[Nk];omega
def L7:V->List V->Hp->VK->Prop:=λx vs H Q=>∃l xs y,x=.ref l/\vs=[]/\H l=some (.lst xs)/\xs[xs.length-1]?=some y/\Q y (upd H l (.lst xs.dropLast))
theorem FP:MtM X "list.pop" L7:=by
 intro pins s σ H x vs v us Q I rx rv h;obtain⟨l,xs,y,rfl,rfl,hH,hy,q⟩:=h;cases rx;have hus:=rv.zero;subst hus;obtain⟨z,its,n,r,hl,e⟩:=I.AS hH;obtain⟨u,hu,ru⟩:=r.get hy;have hy':its.toArray[its.toArray.size-1]?=some u:=by
  show its.toArray[its.length-1]?=some u;rw[<-Array.getElem?_toList,<-hl];exact hu
 refine call_meets F.slot_list_pop ⟨_,e,rfl⟩ F.entry_list_pop (F.args_list_pop_1 _) (MeetsSeq.list_pop_last l its.toArray n u hy' (by rw[NN];omega)) ⟨e,?_⟩;refine⟨y,_,I.Jy (p7:=its.dropLast) hH e ?_ r.dropLast ?_,ru,q⟩
 ·show its.toArray.eraseIdxIfInBounds (its.toArray.size-1)=its.dropLast.toArray;rw[NN,List.eraseIdxIfInBounds_toArray,CD]
 ·rw[List.length_dropLast];omega
def L9:R2:=λx y H Q=>∃l b xs zs,x=.ref l/\y=.ref b/\H l=some (.lst xs)/\H b=some (.lst zs)/\xs.length+zs.length<=sizeLine/\∀p,H p=none->Q (.ref p) (upd H p (.lst (xs++zs)))
theorem pS:OpR X (binaryOp .Add) L9:=by
 intro pins s σ H x y v u Q I rx ry h;obtain⟨l,b,xs,zs,rfl,rfl,hH,hB,hz,q⟩:=h;cases rx;cases ry;obtain⟨z,its,n,r,hl,e⟩:=I.AS hH;obtain⟨z2,mX,n2,r2,hl2,e2⟩:=I.AS hB;refine PySem.P.add_list e e2 ?_ (by rw[NN,NN];omega);have ea:its.toArray++mX.toArray=(its++mX).toArray:=by simp
 rw[ea];exact⟨.ref _,_,I.Jz (t':=s.toks) (r.append r2) (by rw[Nk];omega),rfl,q _ I.fresh⟩
def L6:R2:=λx y H Q=>∃l k xs,x=.ref l/\y=.int k/\H l=some (.lst xs)/\-(2^63)<=k/\k<2^63/\xs.length*k.toNat<=sizeLine/\
 ∀p,H p=none->Q (.ref p) (upd H p (.lst (List.replicate k.toNat xs).flatten))
theorem len_rep(xs:List α)(k:Nat):(List.replicate k xs).flatten.length=k*xs.length:=by
 induction k with
 |zero=>simp
 |succ k ih=>rw[N3,Pf,Nk,ih,Nat.succ_mul,Rq]
theorem kz:OpR X (binaryOp .Mult) L6:=by
 intro pins s σ H x y v u Q I rx ry h;obtain⟨l,k,xs,rfl,rfl,hH,h1,h2,hz,q⟩:=h;cases rx;obtain⟨t,rfl⟩:=ry;obtain⟨z,its,n,r,hl,e⟩:=I.AS hH;have hlen:its.toArray.size*k.toNat<=sizeLine:=by rw[NN,<-hl];exact hz
 have MQ:¬its.toArray.size*k.toNat>(2^63-1)/8:=by
  have:(sizeLine:Nat)<=(2^63-1)/8:=by decide
  omega
 have MM:¬(!Builtin.List.listFitsIndex k)=true:=by
  rw[fitsIndex_both h1 h2];exact NI
 have tD:¬Builtin.List.listTooLong (its.toArray.size*k.toNat)=true:=by
  rw[AF hlen];exact NI
 have MH:List.foldl (λx1 x2=>x1++x2) #[] (List.replicate (if its.toArray.isEmpty=true then 0 else k.toNat) its.toArray)=(List.replicate k.toNat its).flatten.toArray:=by
  have f0:∀m:Nat,List.foldl (λx1 x2=>x1++x2) #[] (List.replicate m its.toArray)=(List.replicate m its).flatten.toArray:=λm=>by
   have:=foldl_rep its m [];rw[List.nil_append]at this;exact this
  rw[f0];cases its with
  |nil=>simp
  |cons a r'=>rw[Nt (by simp)]
 refine wpAny_binaryOp_repeat_ref (T:="list") (U:="int") (by decide) ⟨_,e,rfl⟩ (λs'=>typeIs_int s' k t) noFill_list_mul F.fills_int_mul F.slot_int_rmul repeat_list F.slot_int_index.lookup
  (call_meets F.slot_int_rmul (typeIs_int s k t) F.entry_int_rmul (F.args_int_rmul_2 _ _) (int___rmul___int_list k t l its.toArray n)
   ⟨e,rfl,⟨_,e,rfl⟩,call_meets F.slot_list_mul ⟨_,e,rfl⟩ F.entry_list_mul (F.args_list_mul_2 _ _) (AutoListH.list___mul___list_int_3 l its.toArray n k t MM MQ tD) ⟨e,?_⟩⟩)
 rw[MH];exact⟨.ref _,_,I.Jz (t':=s.toks) (r.rep k.toNat) (by rw[len_rep,OJ];exact hz),rfl,q _ I.fresh⟩
end
theorem Vals.bls:∀{bs:List Bool}{us:List Value},Vals (bs.map V.bl) us->us=bs.map Value.bool
 |[],us,h=>by
  rw[List.map_nil]at h;cases h;rfl
 |b::bs,us,h=>by
  rw[N6]at h;cases h with
  |cons r t=>
   cases r;rw[Vals.bls t,N6]
variable{a:Addr}
theorem Vals.L4(r:Vals [V.ref a] us):us=[Value.ref a]:=by
 cases r with
 |cons r t=>
  cases t;cases r;rfl
variable{prog:Program}{w:World}{A:Around}{s:Shared}{Q:Rv}
theorem F7{E:Rv}{l:Addr}{items:Array Value}(hl:s.heap.IsList l items)
  (h:∀s₂:Shared,s₂={s with heap:=s.heap.push {cls:=.type "list_iterator",data:=.fields #[.ref l,.int 0 0]}}->
   (s₂.heap.IsListIter s.heap.objs.size l 0/\s₂.heap.IsList l items)->l≠s.heap.objs.size->Q (.ref s.heap.objs.size) s₂):wpAny (model prog w) A (pyIter (.ref l)) Q E s:=by
 have hlt:l<s.heap.objs.size:=by obtain⟨_,e,_⟩:=hl;exact NQ e
 exact P7 hl (h _ rfl ⟨⟨_,NP _ rfl,rfl,rfl⟩,hl.push _⟩ (Oo hlt))
theorem zJ{bs:List Bool}{its:List Value}(e:its=bs.map Value.bool):
  TruthOf prog w A (λi v=>its.toArray[i]?=some v) (λi=>bs.getD i false):=λi v s Q E hv hq=>by
 have hv':its[i]?=some v:=by simpa using hv
 rw[e,NC]at hv';obtain⟨b,hb,rfl⟩:=Pj.mp hv';have hg:bs.getD i false=b:=by rw[Nj,hb]<;>rfl
 have hq':Q (bs.getD i false) s:=hq;rw[hg]at hq';exact OT hq'
theorem any_range:∀bs:List Bool,(List.range bs.length).any (λi=>bs.getD i false)=bs.any id
 |[]=>rfl
 |b::bs=>by
  rw[NH,Pl,OB,List.any_map,OB,<-any_range bs]
  all_goals rfl
section
variable{X:Cx}
def L'(K:Rt):List V->Hp->VK->Prop:=λvs H Q=>∃(a:Addr) (bs:List Bool),vs=[V.ref a]/\SqL K H a (bs.map V.bl)/\Q (.bl (bs.any id)) H
theorem J4(hc:X.calm=true):tK X (.builtin "any") (L' X.K):=by
 intro pins s σ H vs us Q I r h;obtain⟨a,bs,rfl,hs,q⟩:=h;obtain⟨its,rv,hl,_⟩:=I.list hs;rw[Vals.L4 r];have hb:=rv.bls;refine call_any_walk (F7 hl.isList λs₂ e2 st hne=>?_);subst e2;refine⟨_,_,_,_,_,_,_,rfl,Walks.list (A:=X.A.in1) (I.ok.hd hc) _ a hne its.toArray,st,zJ hb,λh' tk hk=>?_⟩;refine⟨.bl _,H,I.kept λb o eo=>hk b o (λkL=>?_) (Nl _ eo),?_,q⟩
 ·rcases ND.mp kL with e1|kL
  ·exact absurd (e1▸NQ eo) (OP _)
  ·cases kL
 ·show Value.bool _=Value.bool _;rw[<-any_range,hb,NN,Nf]
end
abbrev GV(h:Heap)(c:Addr)(v:Option Value):Prop:=h.IsCell c v
def L3(scope sc:Scope):Scope:=
 {scope with names:=scope.names.map λ(n,k)=>if(k==.free&&sc.kind==.function&&sc.names.lookup n==some .cell)then(n,.cell)else(n,k)}
def b7(cells:List (Str×Addr)):List (Str×NameKind)->List (Str×Addr)->List (Str×Addr)
 |[],acc=>acc
 |(n,k)::r,acc=>if k==.free then b7 cells r ((n,(cells.lookup n).getD 0)::acc)else b7 cells r acc
theorem rA(env:Env)(f:Str×NameKind->List (Str×Addr)->Sem (ForInStep (List (Str×Addr))))
  (hf:∀n k c,f (n,k) c=if k==.free then(do let a <-cellOf env n;pure (.yield ((n,a)::c)))else pure (.yield c)):
  ∀(names:List (Str×NameKind))(acc:List (Str×Addr)),(∀y∈names,y.2=.free->∃c,env.cells.lookup y.1=some c)->forIn names acc f=pure (b7 env.cells names acc)
 |[],acc,_=>by rw[QC];rfl
 |(n,k)::r,acc,h=>by
  rw[Q0,hf];have ih:=λacc=>rA env f hf r acc λy hy=>h y (Nn _ hy);unfold b7;by_cases hk:(k==NameKind.free)=true
  ·rw[Nz hk,Nz hk];obtain⟨c,hc⟩:=h (n,k) NB (by simpa using hk);have e:cellOf env n=pure c:=by unfold cellOf;rw[hc]
   rw[e];have e2:(env.cells.lookup n).getD 0=c:=by rw[hc];rfl
   rw[e2];exact ih _
  ·rw[Nt hk,Nt hk];exact ih _
variable{scope:Scope}{env:Env}
theorem CG(h:∀y∈scope.names,y.2=.free->∃c,env.cells.lookup y.1=some c):closureFor scope env=pure (b7 env.cells scope.names []):=by
 simp only[closureFor];rw[rA env _ (λn k c=>rfl) scope.names [] h];rfl
theorem QW{α:Type}:∀{l:List (Str×α)}{n:Str}{c:α},(n,c)∈l->∃c',l.lookup n=some c'
 |(k,v)::r,n,c,h=>by
  rw[O9];cases hb:n==k with
  |true=>exact⟨_,rfl⟩
  |false=>
   rcases ND.mp h with e|h
   ·cases e;simp at hb
   ·exact QW h
theorem jk{cells:List (Str×Addr)}:∀{names:List (Str×NameKind)}{acc:List (Str×Addr)}{n:Str}{c:Addr},(n,c)∈b7 cells names acc->(n,c)∈acc∨((n,.free)∈names/\c=(cells.lookup n).getD 0)
 |[],_,_,_,h=>.inl h
 |(m,k)::r,acc,n,c,h=>by
  unfold b7 at h;split at h
  ·rename_i hk
   have hk:k=.free:=by simpa using hk
   rcases jk h with h|⟨h1,h2⟩
   ·rcases ND.mp h with e|h
    ·cases e;exact .inr ⟨hk▸NB,rfl⟩
    ·exact .inl h
   ·exact .inr ⟨Nn _ h1,h2⟩
  ·rcases jk h with h|⟨h1,h2⟩
   ·exact .inl h
   ·exact .inr ⟨Nn _ h1,h2⟩
theorem nI{cells:List (Str×Addr)}:∀{names:List (Str×NameKind)}{acc:List (Str×Addr)}{p:Str×Addr},p∈acc->p∈b7 cells names acc
 |[],_,_,h=>h
 |(m,k)::r,acc,p,h=>by
  unfold b7;split
  ·exact nI (Nn _ h)
  ·exact nI h
theorem nH{cells:List (Str×Addr)}:∀{names:List (Str×NameKind)}{acc:List (Str×Addr)}{n:Str},(n,.free)∈names->(n,(cells.lookup n).getD 0)∈b7 cells names acc
 |(m,k)::r,acc,n,h=>by
  unfold b7;rcases ND.mp h with e|h
  ·cases e;exact nI NB
  ·split
   ·exact nH h
   ·exact nH h
theorem j0:∀{names:List (Str×NameKind)}{h:Heap}{acc:List (Str×Addr)}{x:Str}{c:Addr},(x,c)∈cellsFrom h.objs.size names acc->
  (x,c)∈acc∨((x,.cell)∈names/\h.objs.size<=c/\GV (pushCells h names) c none)
 |[],_,_,_,_,h=>.inl h
 |(n,k)::r,h,acc,x,c,hm=>by
  unfold cellsFrom at hm;unfold pushCells;split at hm
  ·rename_i hk
   rw[Nz hk];have hk:k=.cell:=by simpa using hk
   rw[<-Ob h {cls:=.type "cell",data:=.cell none}]at hm;rcases j0 hm with hm|⟨h1,h2,h3⟩
   ·rcases ND.mp hm with e|hm
    ·cases e;exact .inr ⟨hk▸NB,Nq _,_,Q1 r _ _ _ (NP _ rfl),rfl⟩
    ·exact .inl hm
   ·rw[Ob]at h2;exact .inr ⟨Nn _ h1,Qw h2,h3⟩
  ·rename_i hk
   rw[Nt hk];rcases j0 hm with hm|⟨h1,h2,h3⟩
   ·exact .inl hm
   ·exact .inr ⟨Nn _ h1,h2,h3⟩
theorem oy:∀{names:List (Str×NameKind)}{n:Nat}{acc:List (Str×Addr)}{p:Str×Addr},p∈acc->p∈cellsFrom n names acc
 |[],_,_,_,h=>h
 |(m,k)::r,n,acc,p,h=>by
  unfold cellsFrom;split
  ·exact oy (Nn _ h)
  ·exact oy h
theorem sH:∀{names:List (Str×NameKind)}{n:Nat}{acc:List (Str×Addr)}{x:Str},(x,.cell)∈names->∃c,(x,c)∈cellsFrom n names acc
 |(m,k)::r,n,acc,x,h=>by
  unfold cellsFrom;rcases ND.mp h with e|h
  ·cases e;exact⟨n,oy NB⟩
  ·split
   ·exact sH h
   ·exact sH h
theorem sG:∀{names:List (Str×NameKind)}{h:Heap}{acc:List (Str×Addr)}{x y:Str}{c:Addr},(∀p∈acc,p.2<h.objs.size)->(∀x y c,(x,c)∈acc->(y,c)∈acc->x=y)->
  (x,c)∈cellsFrom h.objs.size names acc->(y,c)∈cellsFrom h.objs.size names acc->x=y
 |[],_,_,_,_,_,_,hi,h1,h2=>hi _ _ _ h1 h2
 |(n,k)::r,h,acc,x,y,c,hl,hi,h1,h2=>by
  unfold cellsFrom at h1 h2;split at h1
  ·rename_i hk
   rw[Nz hk]at h2;rw[<-Ob h {cls:=.type "cell",data:=.cell none}]at h1 h2;refine sG (h:=h.push _) (λp hp=>?_) (λx y c a b=>?_) h1 h2
   ·rw[Ob];rcases ND.mp hp with rfl|hp
    ·exact PL _
    ·exact Pg (hl p hp)
   ·rcases ND.mp a with e|a<;>rcases ND.mp b with e'|b
    ·cases e;cases e';rfl
    ·cases e;exact absurd (hl _ b) (OP _)
    ·cases e';exact absurd (hl _ a) (OP _)
    ·exact hi _ _ _ a b
  ·rename_i hk
   rw[Nt hk]at h2;exact sG hl hi h1 h2
variable{M:Model}
theorem AH{E:Rv}{globals:Addr}{closure:List (Str×Addr)}{qual:Str}{func:Option Addr}{code:Value}{around:Env}{builtins:Addr}{Q:Env->Shared->Prop}
  (h:Q (newEnv scope s.heap.objs.size globals (cellsFrom (s.heap.objs.size+1) scope.names closure) qual func code (some around) builtins)
   {s with heap:=pushCells (s.heap.push {cls:=.type "dict",data:=.dict #[]}) scope.names}):
  wpAny M A (newFunctionEnv scope globals closure [] qual func code (some around) builtins) Q E s:=by
 simp only[newFunctionEnv,Option.isSome_some,Qj];refine Ni (wpAny_alloc ?_);refine Ni (wpAny_layCells _ (λn k c=>rfl) scope.names closure _ _ ?_);rw[show({s with heap:=s.heap.push {cls:=.type "dict",data:=.dict #[]}}:Shared).heap.objs.size=s.heap.objs.size+1 from Ob ..];rw[QC];exact Ni (NF (NF h))
theorem mV{sc:Scope}:∀{names:List (Str×NameKind)}{x:Str}{k:NameKind},
  (names.map λ(n,k)=>if(k==NameKind.free&&sc.kind==.function&&sc.names.lookup n==some .cell)then(n,NameKind.cell)else(n,k)).lookup x=some k->
  ∃k',names.lookup x=some k'/\(k=k'∨(k'=.free/\k=.cell))
 |[],_,_,h=>by simp at h
 |(n,k₀)::r,x,k,h=>by
  have ih:=@mV sc r x k;have h':List.lookup x ((if(k₀==NameKind.free&&sc.kind==.function&&sc.names.lookup n==some .cell)=true then(n,NameKind.cell)else(n,k₀))::(r.map _))=some k:=h;cases hx:x==n with
  |true=>
   simp only[O9,hx];by_cases hc:(k₀==NameKind.free&&sc.kind==.function&&sc.names.lookup n==some .cell)=true
   ·rw[Nz hc]at h';simp only[O9,hx]at h';cases h';simp only[Nv,Rj]at hc;exact⟨k₀,rfl,.inr ⟨hc.1.1,rfl⟩⟩
   ·rw[Nt hc]at h';simp only[O9,hx]at h';cases h';exact⟨_,rfl,.inl rfl⟩
  |false=>
   simp only[O9,hx];by_cases hc:(k₀==NameKind.free&&sc.kind==.function&&sc.names.lookup n==some .cell)=true
   ·rw[Nz hc]at h';simp only[O9,hx]at h';exact ih h'
   ·rw[Nt hc]at h';simp only[O9,hx]at h';exact ih h'
structure BB(N:List Str)(sc scope:Scope)(own:List (Str×Nat)):Prop where
 kind:scope.kind=.function
 uniq:∀y∈scope.names,scope.names.lookup y.1=some y.2
 ix:∀p∈own,N[p.2]?=some p.1
 free:∀y∈scope.names,y.2=.free->sc.names.lookup y.1=some .cell∨sc.names.lookup y.1=some .free
 own:∀y∈scope.names,y.2=.local∨y.2=.cell->y.1∈own.map (·.1)∨y.1∉N
def wipe(σ:St):List Nat->St
 |[]=>σ
 |v::vs=>(wipe σ vs).set v none
theorem me(σ:St):∀vs:List Nat,(wipe σ vs).length=σ.length
 |[]=>rfl
 |v::vs=>by unfold wipe;rw[PV,me σ vs]
theorem rH{σ:St}{i:Nat}{x:V}:∀{vs:List Nat},(wipe σ vs)[i]?=some (some x)->σ[i]?=some (some x)/\i∉vs
 |[],h=>⟨h,by simp⟩
 |v::vs,h=>by
  unfold wipe at h;by_cases hi:v=i
  ·subst hi;by_cases hv:v<(wipe σ vs).length
   ·rw[Oq hv]at h;cases h
   ·rw[QG (by simpa using hv)]at h;cases h
  ·rw[Oy hi]at h;obtain⟨h1,h2⟩:=rH h;exact⟨h1,by simp only[ND,not_or];exact⟨λe=>hi e.symm,h2⟩⟩
abbrev Cx.blk(X:Cx)(s:Shared)(H:Hp)(scope:Scope)(fD:Env)(fp:List Addr):Cx:={X with s_0:=s,H_0:=H,env:=fD,outer:=X.stack,ex:=fp,fn:=λx=>scope.names.lookup x==some .cell,pn:=[],xe:=λ_ _=>False}
section
variable{X:Cx}{pins:List (Addr×Obj)}{σ:St}{H:Hp}{s:Shared}
theorem Bn{own:List (Str×Nat)}{fp:List Addr}(I:Inv X pins σ H s)(ok:BB X.N X.env.scope scope own)(hN:X.N.Nodup)(hfp:∀b∈fp,ue X pins H b/\b<s.heap.objs.size):
  Inv (X.blk s H scope (compEnvC scope (cellsFrom (s.heap.objs.size+1) scope.names (b7 X.env.cells scope.names [])) s.heap.objs.size X.env) fp) [] (wipe σ (own.map (·.2))) H {s with heap:=pushCells (s.heap.push {cls:=.type "dict",data:=.dict #[]}) scope.names}:=by
 have xQ:∀y∈scope.names,y.2=.free->∃c,X.env.cells.lookup y.1=some c:=λy hy e=>by
  rcases ok.free y hy e with k|k
  ·exact I.ok.has _ (.inl k)
  ·exact I.ok.has _ (.inr k)
 generalize A8:compEnvC scope (cellsFrom (s.heap.objs.size+1) scope.names (b7 X.env.cells scope.names [])) s.heap.objs.size X.env=fD;have kp:∀b o,s.heap.get? b=some o->(pushCells (s.heap.push {cls:=.type "dict",data:=.dict #[]}) scope.names).get? b=some o:=λb o e=>Q1 _ _ _ _ (Nl _ e);have hL:fD.locals=s.heap.objs.size:=by rw[<-A8];rfl
 have hcl:fD.cells=cellsFrom (s.heap.objs.size+1) scope.names (b7 X.env.cells scope.names []):=by rw[<-A8];rfl
 have hsc:fD.scope=L3 scope X.env.scope:=by rw[<-A8];rfl
 rw[<-Ob s.heap {cls:=.type "dict",data:=.dict #[]}]at hcl;have cm:∀{y c},(y,c)∈b7 X.env.cells scope.names []->X.env.cells.lookup y=some c/\c<s.heap.objs.size:=λ{y c} hm=>by
  rcases jk hm with hm|⟨h1,rfl⟩
  ·cases hm
  ·obtain⟨c,hc⟩:=xQ _ h1 rfl;rw[hc];obtain⟨w,z⟩:=I.cell _ _ hc;exact⟨rfl,z.lt⟩
 have mem:∀{y c},fD.cells.lookup y=some c->(X.env.cells.lookup y=some c/\c<s.heap.objs.size)∨(s.heap.objs.size+1<=c/\GV (pushCells (s.heap.push {cls:=.type "dict",data:=.dict #[]}) scope.names) c none):=λ{y c} e=>by
  rw[hcl]at e;rcases j0 (N7 e)with hm|⟨_,h2,h3⟩
  ·exact .inl (cm hm)
  ·rw[Ob]at h2;exact .inr ⟨h2,h3⟩
 have look:∀{y},scope.names.lookup y=some .free->∃c,fD.cells.lookup y=some c/\X.env.cells.lookup y=some c:=λ{y} hl=>by
  have hy:(y,NameKind.free)∈scope.names:=N7 hl;obtain⟨c',e'⟩:=QW (oy (names:=scope.names) (n:=(s.heap.push {cls:=.type "dict",data:=.dict #[]}).objs.size) (nH (cells:=X.env.cells) (acc:=[]) hy));rw[<-hcl]at e';refine⟨c',e',?_⟩;rw[hcl]at e';rcases j0 (N7 e')with hm|⟨h1,_,_⟩
  ·exact(cm hm).1
  ·have:=ok.uniq _ h1;rw[hl]at this;cases this
 have okB:(X.blk s H scope fD fp).Ok:=by
  refine⟨I.ok.mod,by show fD.scope.kind=_;rw[hsc];exact ok.kind,by show fD.globals=_;rw[<-A8];exact I.ok.glob,by show fD.builtins=_;rw[<-A8];exact I.ok.blt,by show s.heap.objs.size<=fD.locals;rw[hL];exact Nq _,
   λy z c e1 e2=>?_,λy hy=>?_,λy c z e=>?_,I.ok.hd,I.ok.frames,.inl rfl,λb hb=>⟨?_,λy c e z=>?_⟩,I.bs,NR I.ok.bsz I.sz,λb o e hb=>?_,λb hb z=>?_,I.stack,I.C4⟩
  ·have e1:fD.cells.lookup y=some c:=e1;have e2:fD.cells.lookup z=some c:=e2;rw[hcl]at e1 e2;refine sG (λp hp=>?_) (λy z c a b=>I.ok.inj y z c (cm a).1 (cm b).1) (N7 e1) (N7 e2);rw[Ob];exact Pg (cm (y:=p.1) (c:=p.2) hp).2
  ·show ∃c,fD.cells.lookup y=some c;have key:∀k,fD.kindOf y=some k->(k=.cell∨k=.free)->∃c,fD.cells.lookup y=some c:=λk hk hk'=>by
    unfold Env.kindOf at hk;rw[hsc]at hk;obtain⟨k',e,r⟩:=mV hk;have:k'=.cell∨k'=.free:=by
     rcases r with rfl|⟨rfl,_⟩
     ·exact hk'
     ·exact .inr rfl
    rcases this with rfl|rfl
    ·obtain⟨c,hm⟩:=sH (n:=(s.heap.push {cls:=.type "dict",data:=.dict #[]}).objs.size) (acc:=b7 X.env.cells scope.names []) (N7 e);obtain⟨c',e'⟩:=QW hm;exact⟨c',by rw[hcl];exact e'⟩
    ·obtain⟨c,h1,_⟩:=look e;exact⟨c,h1⟩
   rcases hy with hy|hy
   ·exact key _ hy (.inl rfl)
   ·exact key _ hy (.inr rfl)
  ·have z:(scope.names.lookup y==some NameKind.cell)=true:=z;have z:scope.names.lookup y=some .cell:=by simpa using z
   have e:fD.cells.lookup y=some c:=e;rw[hcl]at e;rcases j0 (N7 e)with hm|⟨_,h2,_⟩
   ·rcases jk hm with hm|⟨h1,_⟩
    ·cases hm
    ·have q:=ok.uniq _ h1;rw[z]at q;cases q
   ·rw[Ob]at h2;exact Qw h2
  ·show b≠fD.locals;rw[hL];exact Oo (hfp b hb).2
  ·have e:fD.cells.lookup y=some c:=e;rcases mem e with⟨h1,_⟩|⟨h1,_⟩
   ·exact(hfp b hb).1.2.2.2.2.1 y c h1 z
   ·have h2:s.heap.objs.size+1<=b:=by rw[<-z];exact h1
    exact absurd (N4 (hfp b hb).2 (Qw h2)) (OP _)
  ·rcases(hfp b hb).1.2.2.2.1 with z|z
   ·exact I.ok.FG b o e z
   ·exact absurd (N4 (NQ e) (NR I.ok.bsz z)) (OP _)
  ·rcases ND.mp (I.BL b z)with z|z
   ·exact(hfp b hb).1.2.1 z
   ·exact(hfp b hb).1.2.2.1 z
 refine⟨okB,rfl,I.bare,Un.kept kp,⟨λ_=>none,?_,λi y av e1 e2 e3=>?_⟩,λy c e=>?_,?_,λy c e=>?_,λp hp=>?_,I.hok.kept kp,by rw[me];exact I.len⟩
 ·show Heap.Ns _ fD.locals _;rw[hL];exact Heap.Ns.keeps (Heap.Ns.new ..) λb o e=>Q1 _ _ _ _ e
 ·obtain⟨e2,hne⟩:=rH e2;have hfr:scope.names.lookup y=some .free/\(fD.kindOf y=some .cell∨fD.kindOf y=some .free):=by
   have key:∀k,fD.scope.names.lookup y=some k->k=.local∨k=.cell∨k=.free->scope.names.lookup y=some .free/\(fD.kindOf y=some .cell∨fD.kindOf y=some .free):=λk hk hk'=>by
    have hk0:=hk;rw[hsc]at hk;obtain⟨k',e,r⟩:=mV hk;have no:¬(k'=.local∨k'=.cell):=λhh=>by
     rcases ok.own _ (N7 e) hh with e'|e'
     ·obtain⟨p,hp,hpy⟩:=NZ.mp e';have e3:=ok.ix p hp;have:p.1=y:=hpy;rw[this]at e3;exact hne (NZ.mpr ⟨p,hp,vw hN e3 e1⟩)
     ·exact e' (Nr e1)
    rcases r with rfl|⟨rfl,rfl⟩
    ·rcases hk' with rfl|rfl|rfl
     ·exact absurd (.inl rfl) no
     ·exact absurd (.inr rfl) no
     ·exact⟨e,.inr hk0⟩
    ·exact⟨e,.inl hk0⟩
   have e3:Vis fD.scope y:=e3;rcases e3 with e3|e3|e3
   ·exact key _ e3 (.inl rfl)
   ·exact key _ e3 (.inr (.inl rfl))
   ·exact key _ e3 (.inr (.inr rfl))
  obtain⟨m,hn,hl⟩:=I.loc;have MA:Vis X.env.scope y:=(ok.free _ (N7 hfr.1) rfl).elim (λk=>.inr (.inl k)) (λk=>.inr (.inr k));obtain⟨w,r,q⟩:=hl i y av e1 e2 MA;refine⟨w,r,.inr ⟨hfr.2,?_⟩⟩;obtain⟨c,h1,h2⟩:=look hfr.1;rcases q with⟨k,_⟩|⟨_,c',e',z⟩
  ·have k:X.env.scope.names.lookup y=some .local:=k;rcases ok.free _ (N7 hfr.1) rfl with k'|k'<;>rw[show X.env.scope.names.lookup y=_ from k']at k<;>cases k
  ·rw[h2]at e';cases e';exact⟨c,h1,z.keeps kp⟩
 ·have e:fD.cells.lookup y=some c:=e;rcases mem e with⟨h1,_⟩|⟨_,z⟩
  ·obtain⟨w,z⟩:=I.cell y c h1;exact⟨w,z.keeps kp⟩
  ·exact⟨_,z⟩
 ·show H fD.locals=none;rw[hL];exact I.hok.fresh (Nq _)
 ·have e:fD.cells.lookup y=some c:=e;rcases mem e with⟨h1,_⟩|⟨h1,_⟩
  ·exact I.nu y c h1
  ·exact I.hok.fresh (Qw h1)
 ·exact absurd (show p∈([]:List (Addr×Obj))++[]from hp) (by simp)
theorem J'{E:Rv}{D:Addr}{xs:List V}{y:V}{v:Value}(I:Inv X pins σ H s)(hD:H D=some (.lst xs))(hz:xs.length<sizeLine)(r:RelV y v)
  (h:∀s',Inv X pins σ (upd H D (.lst (xs++[y]))) s'->Q .none s'):wpAny (model X.prog X.w) X.A (call (.builtin "list.append") [.ref D,v]) Q E s:=by
 obtain⟨hz',its,n,ri,e⟩:=I.hok D _ hD;have hl:=ri.length;refine append_at (hsz:=by rw[NN];omega) e λh' sb ho'=>?_;refine h {s with heap:=h'} (I.write (t':=s.toks) (by rw[hD];trivial) (.inl rfl) (λb u hb q=>(sb.2 b hb).trans q) ⟨_,ho'⟩ ⟨by rw[Nk];exact hz,its++[v],n+1,ri.append (.cons r .nil),?_⟩);rw[ho'];simp
def PTs(X:Cx)(ifs:List Expr)(t:TT):Prop:=
 ∀(pins:List (Addr×Obj))(s:Shared)(σ:St)(H:Hp)(Q:Bool->Hp->Prop),Inv X pins σ H s->t σ H Q->
  wpAny (model X.prog X.w) X.A (forIn ifs true λc r=>if r=true then do let ok <-isTrue c X.env (eval c X.env);pure (ForInStep.yield ok)else pure (ForInStep.yield r)) (TP X pins σ Q) X.xe s
def G1:TT:=λ_ H Q=>Q true H
theorem dH:PTs X [] G1:=λ_ _ _ H _ I h=>wpAny_tests_nil ⟨H,I,h⟩
end
theorem D5{t:Sem α}{Q Q':α->Shared->Prop}{E:Rv}(h:wpAny M A t Q (λ_ _=>False) s)(hQ:∀a s,Q a s->Q' a s):wpAny M A t Q' E s:=Pd h hQ λ_ _ z=>False.elim z
variable{iter:Expr}{ifs:List Expr}{pos:Pos}
theorem zi{R:Result->Shared->Prop}{elt target:Expr}{it acc:Value}(I:Nat->Shared->Prop)
  (turn:∀n s,I n s->wpAny (model prog w) A (pyNext it) (λr s₁=>match r with
   |none=>R (.ok .next) s₁
   |some v=>wpAny (model prog w) A (letOwnedTupleGo target it v) (λ_ s₁'=>wpAny (model prog w) A (assign target env v) (λ_ s₂=>
    wpAny (model prog w) A (forIn ifs true λc r=>if r=true then do let ok <-isTrue c env (eval c env);pure (ForInStep.yield ok)else pure (ForInStep.yield r)) (λok s₃=>
     if ok=true then wpAny (model prog w) A (eval elt env) (λx s₄=>
      wpAny (model prog w) A (call (.builtin "list.append") [acc,x]) (λ_ s₅=>∃m,m<n/\I m s₅) (notedBy (model prog w) A env λe s'=>R (.error e) s') s₄) (notedBy (model prog w) A env λe s'=>R (.error e) s') s₃
     else ∃m,m<n/\I m s₃) (notedBy (model prog w) A env λe s'=>R (.error e) s') s₂) (notedBy (model prog w) A env λe s'=>R (.error e) s') s₁') (notedBy (model prog w) A env λe s'=>R (.error e) s') s₁) (notedBy (model prog w) A env λe s'=>R (.error e) s') s)
  (n:Nat) (h:I n s):
  codeAny (model prog w) A (.compLoop (.ListComp elt [⟨target,iter,ifs,0⟩] scope pos) 0 it acc env) R s:=by
 refine codeAny_loop rfl I (λn s hI=>?_) n h;show wpAny _ A ((compTurn (.ListComp elt [⟨target,iter,ifs,0⟩] scope pos) 0 it acc env).onRaise (λx=>do noteFrame x env;theTreesLotGoes x)) _ _ s;refine wpAny_noted ?_;rw[compTurn_list];refine Ni (wpAny_standAt (Ni (Pd (turn n s hI) (λr s₁ h₁=>?_) λ_ _ h'=>h')));cases r with
 |none=>exact NF h₁
 |some v=>
  refine Ni (Pd h₁ (λ_ s₁' h₁'=>?_) λ_ _ h'=>h');refine Ni (Pd h₁' (λ_ s₂ h₂=>Ni (Pd h₂ (λok s₃ h₃=>?_) λ_ _ h'=>h')) λ_ _ h'=>h');cases ok with
  |false=>exact NF ⟨rfl,h₃⟩
  |true=>
   exact Ni (Ni (Pd h₃ (λx s₄ h₄=>Ni (Pd h₄ (λ_ s₅ h₅=>NF (NF ⟨rfl,h₅⟩)) λ_ _ h'=>h')) λ_ _ h'=>h'))
section
variable{X:Cx}
def tLc(wi:TI)(g:TG)(tt:TT)(te:TE)(vs:List Nat):TE:=λσ H Q=>wi σ H λJ H1=>∀D,H1 D=none->∃W:Nat->Nat->Hp->Prop,(∃m,W 0 m (upd H1 D (.lst [])))/\∀i m H,W i m H->
 (J.stop i H/\Q (.ref D) H)∨(J.go i H/\∃Nx:Hp->Prop,(∀H',Nx H'->∃m',m'<m/\W (i+1) m' H')/\∀x H',J.yld i H x H'->g x (wipe σ vs) H' λσ2 H2=>wipe σ2 vs=wipe σ vs/\tt σ2 H2 λb H3=>
  if b=true then te σ2 H3 λy H4=>∃acc,H4 D=some (.lst acc)/\acc.length<sizeLine/\Nx (upd H4 D (.lst (acc++[y])))else Nx H3)
variable{tg:Expr}
theorem HF{pins:List (Addr×Obj)}{σ:St}{H:Hp}{Q:VK}{elt:Expr}{own:List (Str×Nat)}{pos':Pos}{wi:TI}{g:TG}{tt:TT}{te:TE}{use:Option (Value->Sem Unit)}{Qf:Rv}
  (hc:X.calm=true)(hN:X.N.Nodup)(I:Inv X pins σ H s)(hi:PI X tg iter wi)(ok:BB X.N X.env.scope scope own)
  (hg:∀(s:Shared)(H:Hp)(C:Addr)(cl:List (Str×Addr))(fp:List Addr),PG (X.blk s H scope (compEnvC scope cl C X.env) fp) tg g)(ht:∀(s:Shared)(H:Hp)(C:Addr)(cl:List (Str×Addr))(fp:List Addr),PTs (X.blk s H scope (compEnvC scope cl C X.env) fp) ifs tt)
  (he:∀(s:Shared)(H:Hp)(C:Addr)(cl:List (Str×Addr))(fp:List Addr),PE (X.blk s H scope (compEnvC scope cl C X.env) fp) elt te)(hs:∀x,foldedSetIterable iter X.env x=pure x)
  (h:tLc wi g tt te (own.map (·.2)) σ H Q)
  (hRR:∀D C s' m H',Inv X pins σ H' s'->Q (.ref D) H'->s'.heap.Ns C m->ue X pins H' C->compPost (model X.prog X.w) X.A X.xe use Qf (.ref D) C (.ok .next) s'):
  wpAny (model X.prog X.w) X.A (comprehension (.ListComp elt [⟨tg,iter,ifs,0⟩] scope pos) scope X.env pos' (newList []) false (eval iter X.env) use) Qf X.xe s:=by
 have xQ:∀y∈scope.names,y.2=.free->∃c,X.env.cells.lookup y.1=some c:=λy hy e=>by
  rcases ok.free y hy e with k|k
  ·exact I.ok.has _ (.inl k)
  ·exact I.ok.has _ (.inr k)
 refine wpAny_comprehension_free (use:=use) rfl hs (CG xQ) ok.kind (λy hy e=>by rw[ok.uniq y hy,e])
  (thn (hi pins s σ H _ I h) λxv s1 hx=>thn hx λitv s2 h2=>?_)
 obtain⟨it,fp,tn,J,H2,e,I2,T,st2,f2,q⟩:=h2;subst e;refine P8 (AH ?_) (by show 0<=sizeLine;decide);generalize hD:s2.heap.objs.size=D;have hDn:H2 D=none:=I2.hok.fresh (Pq hD);obtain⟨W,⟨m0,w0⟩,turn⟩:=q D hDn;generalize hs3:({s2 with heap:=s2.heap.push {cls:=.type "list",data:=.seq ([]:List Value).toArray}}:Shared)=s3;have I3:Inv X pins σ (upd H2 D (.lst [])) s3:=by
  rw[<-hs3];refine I2.laid (t':=s2.toks) (λb o e=>Nl _ e) (Pq hD) ⟨NT _,[],0,.nil,?_⟩;rw[<-hD];exact NP _ rfl
 have h3:s3.heap=s2.heap.push {cls:=.type "list",data:=.seq ([]:List Value).toArray}:=by rw[<-hs3]
 have sz:∀b∈fp,b<s2.heap.objs.size:=λb hb=>by
  obtain⟨o,e,_⟩:=T.obj _ _ st2 b hb;exact NQ e
 have f3:∀b∈fp,ue X pins (upd H2 D (.lst [])) b/\b<s3.heap.objs.size:=λb hb=>by
  have hlt:=sz b hb;refine⟨⟨?_,(f2 b hb).2⟩,by rw[h3,Ob];exact Pg hlt⟩;rw[aB (by rw[<-hD];exact Oo hlt)];exact(f2 b hb).1
 have st3:tn 0 s3.heap:=T.keep _ _ _ st2 λb _ o e=>by rw[h3];exact Nl _ e
 have I4:=Bn I3 ok hN f3;have pg:=hg s3 (upd H2 D (.lst [])) s3.heap.objs.size (cellsFrom (s3.heap.objs.size+1) scope.names (b7 X.env.cells scope.names [])) fp;have pt:=ht s3 (upd H2 D (.lst [])) s3.heap.objs.size (cellsFrom (s3.heap.objs.size+1) scope.names (b7 X.env.cells scope.names [])) fp;have pe:=he s3 (upd H2 D (.lst [])) s3.heap.objs.size (cellsFrom (s3.heap.objs.size+1) scope.names (b7 X.env.cells scope.names [])) fp;show codeAny _ _ (.compStart (.ListComp elt [⟨tg,iter,ifs,0⟩] scope pos) 0 (.ref it) (.ref D) (compEnvC scope (cellsFrom (s3.heap.objs.size+1) scope.names (b7 X.env.cells scope.names [])) s3.heap.objs.size X.env)) (compPost (model X.prog X.w) X.A X.xe use Qf (.ref D) s3.heap.objs.size) {s3 with heap:=pushCells (s3.heap.push {cls:=.type "dict",data:=.dict #[]}) scope.names};have nfp:∀b∈fp,(upd H2 D (.lst [])) b=none:=λb hb=>(f3 b hb).1.1;generalize hce:compEnvC scope (cellsFrom (s3.heap.objs.size+1) scope.names (b7 X.env.cells scope.names [])) s3.heap.objs.size X.env=ce at I4 pg pt pe ⊢;have cL:ce.locals=s3.heap.objs.size:=by subst hce;rfl
 generalize hH3:upd H2 D (.lst [])=H3 at I3 I4 pg pt pe w0 nfp f3;generalize hs4:({s3 with heap:=pushCells (s3.heap.push {cls:=.type "dict",data:=.dict #[]}) scope.names}:Shared)=s4 at I4 ⊢;have st4:tn 0 s4.heap:=T.keep _ _ _ st3 λb _ o e=>by rw[<-hs4];exact Q1 _ _ _ _ (Nl _ e)
 have BM:∀{σ':St}{H':Hp}{s':Shared},Inv (X.blk s3 H3 scope ce fp) [] σ' H' s'->(∀b∈fp,H' b=none)->∀b∈fp,ue (X.blk s3 H3 scope ce fp) [] H' b:=λ{σ' H' s'} I' hn b hb=>
  ⟨hn b hb,(I'.ok.exf b hb).1,I'.ok.Gk b hb,.inl hb,λx c e=>(I'.ok.exf b hb).2 x c e,λp hp=>absurd (show p∈([]:List (Addr×Obj))++[]from hp) (by simp)⟩
 have loop:codeAny (model X.prog X.w) X.A (.compLoop (.ListComp elt [⟨tg,iter,ifs,0⟩] scope pos) 0 (.ref it) (.ref D) ce) (compPost (model X.prog X.w) X.A X.xe use Qf (.ref D) s3.heap.objs.size) s4:=by
  refine zi (λn s'=>∃i H',Inv (X.blk s3 H3 scope ce fp) [] (wipe σ (own.map (·.2))) H' s'/\tn i s'.heap/\(∀b∈fp,H' b=none)/\W i n H') ?_ m0 ⟨0,H3,I4,st4,nfp,w0⟩;rintro n s5 ⟨i,H5,I5,st5,n5,w5⟩;rcases turn i n H5 w5 with⟨stop,qq⟩|⟨go,Nx,hNx,step⟩
  ·have td:=T.done (X.blk s3 H3 scope ce fp) rfl rfl rfl hc i [] s5 _ H5 (λ_ _=>False) I5 (BM I5 n5) st5 stop;refine D5 td λr s6 ⟨hr,I6⟩=>?_;subst hr;have I7:Inv X pins σ H5 s6:=I3.LC (ch:=fp) I6.os I6.base I6.hok I6.bare λb hb=>⟨(f3 b hb).1.2.2.2.1,(f3 b hb).1.2.1,(f3 b hb).1.2.2.2.2.1,(f3 b hb).1.2.2.2.2.2⟩;have nC:H5 s3.heap.objs.size=none:=by
    have z:H5 ce.locals=none:=I6.free;rw[cL]at z;exact z
   obtain⟨m,hn,_⟩:=I6.loc;have hn:s6.heap.Ns ce.locals m:=hn;rw[cL]at hn;exact hRR D s3.heap.objs.size s6 m H5 I7 qq hn (I3.Bc (Nq _) nC)
  ·have ti:=T.item (X.blk s3 H3 scope ce fp) rfl rfl rfl hc i [] s5 _ H5 (λ_ _=>False) I5 (BM I5 n5) st5 go;refine D5 ti λr s6 ⟨u,hr,h6⟩=>?_;subst hr;refine D5 h6 λ_ s7 ⟨x,H7,I7,r7,y7,st7,n7⟩=>?_;have I7':=I7.pinned (BM I7 n7) (T.obj _ _ st7);refine D5 (pg _ s7 _ H7 x u _ I7' r7 (step x H7 y7)) λ_ s8 ⟨σ8,H8,I8,hw8,q8⟩=>?_;refine D5 (pt _ s8 σ8 H8 _ I8 q8) λb s9 ⟨H9,I9,q9⟩=>?_;have fin:∀{s':Shared}{H':Hp},Inv (X.blk s3 H3 scope ce fp) ([]++vm fp s7.heap) σ8 H' s'->Nx H'->∃m,m<n/\∃i H',Inv (X.blk s3 H3 scope ce fp) [] (wipe σ (own.map (·.2))) H' s'/\tn i s'.heap/\(∀b∈fp,H' b=none)/\W i m H':=λ{s' H'} I' nx=>by
    obtain⟨m',hm,w'⟩:=hNx H' nx;have KJ:∀b∈fp,∀o,s7.heap.get? b=some o->s'.heap.get? b=some o/\H' b=none:=λb hb o e=>
     let z:=I'.pin (b,o) (N8 _ (N8 _ (pZ hb e)))
     ⟨z.1,z.2.1⟩
    have hl:(wipe σ (own.map (·.2))).length=σ8.length:=by rw[<-hw8,me]
    refine⟨m',hm,i+1,H',(I'.qo (pins:=[])).weak hl (λj v e=>?_),T.keep _ _ _ st7 λb hb o e=>(KJ b hb o e).1,λb hb=>?_,w'⟩
    ·rw[<-hw8]at e;exact(rH e).1
    ·obtain⟨o,e,_⟩:=T.obj _ _ st7 b hb;exact(KJ b hb o e).2
   cases b with
   |false=>
    simp only[OK,Qa]at q9 ⊢;exact fin I9 q9
   |true=>
    simp only[Qj]at q9 ⊢;refine D5 (pe _ s9 σ8 H9 _ I9 q9) λz s10 ⟨yv,H10,I10,r10,acc,MV,Mz,nx⟩=>?_;exact J' (X:=X.blk s3 H3 scope ce fp) I10 MV Mz r10 λs11 I11=>fin I11 nx
 exact codeAny_compStart_list loop (T.self X.A 0 _ _ _ st4 loop)
theorem KO{elt:Expr}{own:List (Str×Nat)}{wi:TI}{g:TG}{tt:TT}{te:TE}(hc:X.calm=true)(hN:X.N.Nodup)(hi:PI X tg iter wi)(ok:BB X.N X.env.scope scope own)
  (hg:∀(s:Shared)(H:Hp)(C:Addr)(cl:List (Str×Addr))(fp:List Addr),PG (X.blk s H scope (compEnvC scope cl C X.env) fp) tg g)(ht:∀(s:Shared)(H:Hp)(C:Addr)(cl:List (Str×Addr))(fp:List Addr),PTs (X.blk s H scope (compEnvC scope cl C X.env) fp) ifs tt)
  (he:∀(s:Shared)(H:Hp)(C:Addr)(cl:List (Str×Addr))(fp:List Addr),PE (X.blk s H scope (compEnvC scope cl C X.env) fp) elt te)(hs:∀x,foldedSetIterable iter X.env x=pure x:=by intro _;rfl):
  PE X (.ListComp elt [⟨tg,iter,ifs,0⟩] scope pos) (tLc wi g tt te (own.map (·.2))):=by
 intro pins s σ H Q I h;rw[eval_ListComp];refine HF hc hN I hi ok hg ht he hs h λD C s' m H' I' q hn f=>⟨m,hn,λh'' sb=>?_⟩;obtain⟨f0,f1,f2,f3,f4,f5⟩:=f;exact⟨.ref D,H',I'.turned (t':=s'.toks) (λb o hb e=>(sb.2 b hb).trans e) f0 f1 f3 f4 f5,rfl,q⟩
end
variable{g:TG}{tt:TT}{te:TE}{vs:List Nat}{σ:St}{H1:Hp}{Qd:Hp->Prop}
theorem FZ{lo:Int}{D:Addr}(Pv:Nat->Hp->Prop)(h0:Pv 0 (upd H1 D (.lst [])))
  (hs:∀i H,i<n->Pv i H->g (.int (lo+i)) (wipe σ vs) H λσ2 H2=>wipe σ2 vs=wipe σ vs/\tt σ2 H2 λb H3=>
   if b=true then te σ2 H3 λy H4=>∃acc,H4 D=some (.lst acc)/\acc.length<sizeLine/\Pv (i+1) (upd H4 D (.lst (acc++[y])))else Pv (i+1) H3) (hd:∀H,Pv n H->Qd H):
  ∃W:Nat->Nat->Hp->Prop,(∃m,W 0 m (upd H1 D (.lst [])))/\∀i m H,W i m H->
   ((Itr lo n).stop i H/\Qd H)∨((Itr lo n).go i H/\∃Nx:Hp->Prop,(∀H',Nx H'->∃m',m'<m/\W (i+1) m' H')/\∀x H',(Itr lo n).yld i H x H'->g x (wipe σ vs) H' λσ2 H2=>wipe σ2 vs=wipe σ vs/\tt σ2 H2 λb H3=>
    if b=true then te σ2 H3 λy H4=>∃acc,H4 D=some (.lst acc)/\acc.length<sizeLine/\Nx (upd H4 D (.lst (acc++[y])))else Nx H3):=by
 refine⟨λi m H=>m=n-i/\i<=n/\Pv i H,⟨n,by simp,NT _,h0⟩,?_⟩;rintro i m H ⟨rfl,hi,p⟩;by_cases hlt:i<n
 ·refine .inr ⟨hlt,Pv (i+1),λH' p'=>⟨n-(i+1),by omega,rfl,hlt,p'⟩,λx H' y=>?_⟩;obtain⟨e,y⟩:=y;subst e y;exact hs i _ hlt p
 ·have e:i=n:=by omega
  subst e;exact .inl ⟨Nq _,hd H p⟩
variable{xs:List V}
theorem HE{K:Rt}{D:Addr}(Pv:Nat->Hp->Prop)(h0:Pv 0 (upd H1 D (.lst [])))(hl:∀i H,i<=xs.length->Pv i H->SqL K H a xs)
  (hs:∀i x H,xs[i]?=some x->Pv i H->g x (wipe σ vs) H λσ2 H2=>wipe σ2 vs=wipe σ vs/\tt σ2 H2 λb H3=>
   if b=true then te σ2 H3 λy H4=>∃acc,H4 D=some (.lst acc)/\acc.length<sizeLine/\Pv (i+1) (upd H4 D (.lst (acc++[y])))else Pv (i+1) H3) (hd:∀H,Pv xs.length H->Qd H):
  ∃W:Nat->Nat->Hp->Prop,(∃m,W 0 m (upd H1 D (.lst [])))/\∀i m H,W i m H->
   ((Itl K a).stop i H/\Qd H)∨((Itl K a).go i H/\∃Nx:Hp->Prop,(∀H',Nx H'->∃m',m'<m/\W (i+1) m' H')/\∀x H',(Itl K a).yld i H x H'->g x (wipe σ vs) H' λσ2 H2=>wipe σ2 vs=wipe σ vs/\tt σ2 H2 λb H3=>
    if b=true then te σ2 H3 λy H4=>∃acc,H4 D=some (.lst acc)/\acc.length<sizeLine/\Nx (upd H4 D (.lst (acc++[y])))else Nx H3):=by
 refine⟨λi m H=>m=xs.length-i/\i<=xs.length/\Pv i H,⟨xs.length,by simp,NT _,h0⟩,?_⟩;rintro i m H ⟨rfl,hi,p⟩;have q:=hl i H hi p;by_cases hlt:i<xs.length
 ·refine .inr ⟨⟨xs,xs[i],q,by simp[hlt]⟩,Pv (i+1),λH' p'=>⟨xs.length-(i+1),by omega,rfl,hlt,p'⟩,λx H' y=>?_⟩;obtain⟨e,y⟩:=y;subst e;exact hs i x _ (y xs q) p
 ·have e:i=xs.length:=by omega
  subst e;exact .inl ⟨⟨xs,q,Nq _⟩,hd H p⟩
theorem JA{K:Rt}{D:Addr}(Pv:Nat->Hp->Prop)(h0:Pv 0 (upd H1 D (.lst [])))(hl:∀i H,i<=xs.length->Pv i H->SqT K H a xs)
  (hs:∀i x H,xs[i]?=some x->Pv i H->g x (wipe σ vs) H λσ2 H2=>wipe σ2 vs=wipe σ vs/\tt σ2 H2 λb H3=>
   if b=true then te σ2 H3 λy H4=>∃acc,H4 D=some (.lst acc)/\acc.length<sizeLine/\Pv (i+1) (upd H4 D (.lst (acc++[y])))else Pv (i+1) H3) (hd:∀H,Pv xs.length H->Qd H):
  ∃W:Nat->Nat->Hp->Prop,(∃m,W 0 m (upd H1 D (.lst [])))/\∀i m H,W i m H->
   ((Itt K a).stop i H/\Qd H)∨((Itt K a).go i H/\∃Nx:Hp->Prop,(∀H',Nx H'->∃m',m'<m/\W (i+1) m' H')/\∀x H',(Itt K a).yld i H x H'->g x (wipe σ vs) H' λσ2 H2=>wipe σ2 vs=wipe σ vs/\tt σ2 H2 λb H3=>
    if b=true then te σ2 H3 λy H4=>∃acc,H4 D=some (.lst acc)/\acc.length<sizeLine/\Nx (upd H4 D (.lst (acc++[y])))else Nx H3):=by
 refine⟨λi m H=>m=xs.length-i/\i<=xs.length/\Pv i H,⟨xs.length,by simp,NT _,h0⟩,?_⟩;rintro i m H ⟨rfl,hi,p⟩;have q:=hl i H hi p;by_cases hlt:i<xs.length
 ·refine .inr ⟨⟨xs,xs[i],q,by simp[hlt]⟩,Pv (i+1),λH' p'=>⟨xs.length-(i+1),by omega,rfl,hlt,p'⟩,λx H' y=>?_⟩;obtain⟨e,y⟩:=y;subst e;exact hs i x _ (y xs q) p
 ·have e:i=xs.length:=by omega
  subst e;exact .inl ⟨⟨xs,q,Nq _⟩,hd H p⟩
def LD(N:List Str)(sc scope:Scope)(own:List (Str×Nat)):Bool:=
 (match scope.kind with|.function=>true|_=>false)&&(scope.names.all λy=>decide (scope.names.lookup y.1=some y.2))&&(own.all λp=>decide (N[p.2]?=some p.1)) &&
  (scope.names.all λy=>match y.2 with
   |.free=>(match sc.names.lookup y.1 with|some .cell=>true|some .free=>true|_=>false)
   |.local=>decide (y.1∈own.map (·.1))||decide (y.1∉N)
   |.cell=>decide (y.1∈own.map (·.1))||decide (y.1∉N)
   |_=>true)
theorem cU{N:List Str}{sc:Scope}{own:List (Str×Nat)}(h:LD N sc scope own=true):BB N sc scope own:=by
 unfold LD at h;simp only[Nv,Ow,Qx]at h;obtain⟨⟨⟨h1,h2⟩,h3⟩,h4⟩:=h;refine⟨?_,h2,h3,λy hy e=>?_,λy hy e=>?_⟩
 ·split at h1
  ·assumption
  ·cases h1
 ·have q:=h4 y hy;simp only[e]at q;split at q<;>first|exact .inl (by assumption)|exact .inr (by assumption)|cases q
 ·have q:=h4 y hy;rcases e with e|e<;>(simp only[e,Q2,Qx]at q;exact q)
section
variable{κ:Type}[DecidableEq κ]
def da(kvs:List (κ×V))(k:κ):Option V:=(kvs.find? λkv=>decide (kv.1=k)).map (·.2)
def putK(kvs:List (κ×V))(k:κ)(v:V):List (κ×V):=
 if(kvs.any λkv=>decide (kv.1=k))=true then kvs.map (λkv=>if kv.1=k then(kv.1,v)else kv)else kvs++[(k,v)]
variable{r:List (κ×V)}{k:κ}
theorem eL{p:κ×V}(e:p.1=k):da (p::r) k=some p.2:=by simp[da,OD,e]
theorem eM{p:κ×V}(e:¬p.1=k):da (p::r) k=da r k:=by simp[da,OD,e]
theorem ib(k:κ):∀kvs:List (κ×V),(kvs.any λkv=>decide (kv.1=k))=(da kvs k).isSome
 |[]=>rfl
 |p::r=>by
  rw[OB];by_cases e:p.1=k
  ·simp only[eL e,NA e,Bool.true_or,Option.isSome_some]
  ·rw[eM e,NL e,Bool.false_or];exact ib k r
theorem zD(k j:κ)(y:V):∀kvs:List (κ×V),da (kvs.map λkv=>if kv.1=k then(kv.1,y)else kv) j=(da kvs j).map λx=>if j=k then y else x
 |[]=>rfl
 |p::r=>by
  have ih:=zD k j y r;rw[N6];by_cases h:p.1=k
  ·rw[Nz h];by_cases e:p.1=j
   ·rw[eL (p:=(p.1,y)) e,eL e,PF,Nz (e.symm.trans h)]
   ·rw[eM (p:=(p.1,y)) e,eM e,ih]
  ·rw[Nt h];by_cases e:p.1=j
   ·rw[eL (p:=p) e,eL e,PF,Nt (λz=>h (e.trans z))]
   ·rw[eM (p:=p) e,eM e,ih]
theorem xj(k j:κ)(y:V):∀kvs:List (κ×V),da kvs k=none->da (kvs++[(k,y)]) j=if j=k then some y else da kvs j
 |[],_=>by
  by_cases e:k=j
  ·rw[Nz e.symm];exact eL (p:=(k,y)) e
  ·rw[Nt (λz=>e z.symm)];exact eM (p:=(k,y)) e
 |p::r,hn=>by
  rw[Pa];have hk:¬p.1=k:=λz=>by rw[eL z]at hn;cases hn
  rw[eM hk]at hn;have ih:=xj k j y r hn;by_cases e:p.1=j
  ·rw[eL e,eL e,Nt (λz=>hk (e.trans z))]
  ·rw[eM e,eM e,ih]
theorem zC(kvs:List (κ×V))(k j:κ)(y:V):da (putK kvs k y) j=if j=k then some y else da kvs j:=by
 unfold putK;by_cases a:(kvs.any λkv=>decide (kv.1=k))=true
 ·rw[Nz a,zD];rw[ib]at a;by_cases e:j=k
  ·obtain⟨x,hx⟩:=Py.mp a;rw[Nz e,e,hx,PF,Nz rfl]
  ·rw[Nt e];cases da kvs j with
   |none=>rfl
   |some x=>rw[PF,Nt e]
 ·rw[Nt a];refine xj k j y kvs ?_;rw[ib]at a;cases q:da kvs k with
  |none=>rfl
  |some x=>rw[q]at a;exact(a rfl).elim
theorem AU(kvs:List (κ×V))(k:κ)(v:V):(putK kvs k v).length<=kvs.length+1:=by
 unfold putK;split
 ·rw[Nf];omega
 ·rw[Nk,NH,O4];omega
theorem vj{kvs:List (κ×V)}(v:V)(h:da kvs k=none):putK kvs k v=kvs++[(k,v)]:=by
 unfold putK;rw[ib,h];exact Nt (by decide)
theorem rC.xO{o:Option V}{u:Option Value}(r:rC o u):o.isSome=u.isSome:=by
 cases o with
 |none=>cases u with
  |none=>rfl
  |some _=>exact(show False from r).elim
 |some _=>cases u with
  |none=>exact(show False from r).elim
  |some _=>rfl
end
section
variable{X:Cx}{pins:List (Addr×Obj)}{σ:St}{H:Hp}{s:Shared}{a:Addr}{y v:V}{u r:Value}{o:Option V}{A:Around}{E:Rv}
theorem Inv.big(I:Inv X pins σ H s):sysModules<s.heap.objs.size:=by
 have h:mainGlobals<s.heap.objs.size:=(I.mod.glob.keeps I.bk).lt;exact Nat.lt_trans (by decide) h
theorem Ic{h':Heap}{t':Nat}{ob:HO}(I:Inv X pins σ H s)(mu:Mut (H a))(hs:Heap.SameBut a s.heap h')(he:∃q,h'.get? a=some q)(new:cV X.prog X.w (upd H a ob) h' a ob):
  Inv X pins σ (upd H a ob) {s with heap:=h',toks:=t'}:=
 I.write (x:=a) (e:=a) mu (.inl rfl) (λb q hb z=>(hs.2 b hb).trans z) he new
end
def LI(i:Expr):Prop:=∀ov iv,subscripted i false ov iv=operate [ov,iv] (getItem ov iv)
theorem G3{E:Rv}{value slice:Expr}{T id:String}
  (hl:typeLookup (.type T) "__getitem__"=pure (some (.builtin id)))(hs:LI slice)
  (h:wpAny (model prog w) A (eval value env) (λo s₁=>wpAny (model prog w) A (eval slice env) (λi s₂=>s₂.TypeIs o T/\wpAny (model prog w) A (getItem o i) Q E s₂) E s₁) E s):
  wpAny (model prog w) A (eval (.Subscript value slice pos) env) Q E s:=by
 refine Subscript_ (Pd h (λo s₁ h₁=>Pd h₁ (λi s₂ h₂=>?_) λ_ _ x=>x) λ_ _ x=>x);obtain⟨hT,h₂⟩:=h₂;unfold subscriptTail;refine Ni ?_;rw[getitemInPython_of_ne hT.not_modules];refine Ni (Qk hT hl ?_);have fin:wpAny (model prog w) A (subscripted slice false o i) (λr s₃=>wpAny (model prog w) A (letTemporaryGo value o r>>=λ_=>pure r) Q E s₃) E s₂:=by
  rw[hs o i];exact wpAny_operating (Pd h₂ (λr s₃ h₃=>Ni (wpAny_letTemporaryGo (NF h₃))) λ_ _ x=>x)
 first
  |exact NF (Ni fin)
  |exact Ni (NF (Ni fin))
  |exact Ni fin
structure M2(X:Cx)(o:Expr)(m:Str)(apos:Pos)(e f:Expr)(jZ:Pos):Prop where
 base:attributeBase o m X.env (eval o X.env)=eval o X.env
 few:((backTo jZ (starEach [e,f] X.env)).all (λx=>!x.1)&&(backToKw jZ (keywordEach [] X.env)).all (λx=>x.1.isSome)
  && decide (([e,f]:List Expr).length+([]:List Keyword).length+(if([]:List Keyword).isEmpty then 0 else 1)<30))=true
 line:(apos.endLine==jZ.line)=true
 trees:backTo jZ (starEach [e,f] X.env)=[(false,eval e X.env),(false,eval f X.env)]
section
variable{X:Cx}{pins:List (Addr×Obj)}{σ:St}{H:Hp}{s:Shared}{h':Heap}
variable{ch:List Addr}
theorem Inv.CZ{t':Nat}(I:Inv X pins σ H s)(k:∀b o,b∉ch->s.heap.get? b=some o->h'.get? b=some o)(hf:∀b∈ch,ue X pins H b):Inv X pins σ H {s with heap:=h',toks:=t'}:=by
 have nit:∀b u,H b=some u->b∉ch:=λb u e z=>by
  have q:=(hf b z).1;rw[q]at e;cases e
 refine I.step (g':=s.gens) (d':=s.drawn) (ch:=ch) (λb hb=>⟨(hf b hb).2.2.2.1,(hf b hb).2.1,(hf b hb).2.2.2.2.1,(hf b hb).2.2.2.2.2⟩) (λb o _ _ hc e _=>k b o hc e) (λb o _ _ hc e _=>⟨o.slots,k b o hc e⟩)
  (λ_ _ _ _ n=>n) (λb o hc e=>⟨o,k b o hc e⟩) (λ_ _ e=>e) (λ_ _ _ e=>e) (λb ps e=>⟨#[],by rw[e];simp⟩) (λm hm=>?_) (λb u e=>?_) I.bare
 ·obtain⟨o,es,ep,ho,r⟩:=hm;exact⟨o,es,ep,k _ o (λz=>(hf _ z).2.1 rfl) ho,r⟩
 ·refine(I.hok b u e).lW (λc v hc q=>k c v ?_ q) (λ_ q=>q) λ_ _ q=>q;rcases hc with z|z
  ·rw[z];exact nit b u e
  ·exact nit c _ z
theorem Inv.nU{t':Nat}{T:Addr}{ob:HO}(I:Inv X pins σ H s)(k:∀b o,b∉ch->s.heap.get? b=some o->h'.get? b=some o)(hf:∀b∈ch,ue X pins H b)(hT:s.heap.objs.size<=T)
  (new:cV X.prog X.w (upd H T ob) h' T ob):Inv X pins σ (upd H T ob) {s with heap:=h',toks:=t'}:=by
 have hn:H T=none:=I.hok.fresh hT;have nit:∀b u,H b=some u->b∉ch:=λb u e z=>by
  have q:=(hf b z).1;rw[q]at e;cases e
 refine I.step (g':=s.gens) (d':=s.drawn) (ch:=ch) (λb hb=>⟨(hf b hb).2.2.2.1,(hf b hb).2.1,(hf b hb).2.2.2.2.1,(hf b hb).2.2.2.2.2⟩) (λb o _ _ hc e _=>k b o hc e) (λb o _ _ hc e _=>⟨o.slots,k b o hc e⟩)
  (λb o _ e n=>?_) (λb o hc e=>⟨o,k b o hc e⟩) (λb xs e=>?_) (λb o u e=>?_) (λb ps e=>⟨#[],?_⟩) (λm hm=>?_) (λb u e=>?_) I.bare
 ·rw[aB (Oo (N4 (NQ e) hT))];exact n
 ·rw[aB (ax e hn)];exact e
 ·rw[aB (ax e hn)];exact e
 ·rw[aB (ax e hn),e];simp
 ·obtain⟨o,es,ep,ho,r⟩:=hm;exact⟨o,es,ep,k _ o (λz=>(hf _ z).2.1 rfl) ho,r⟩
 ·by_cases hb:b=T
  ·subst hb;rw[af]at e;cases e;exact new
  ·rw[aB hb]at e;refine(I.hok b u e).lW (λc v hc q=>k c v ?_ q) (λc q=>by rw[aB (ax q hn)];exact q) λc xs q=>by rw[aB (ax q hn)];exact q
   rcases hc with z|z
   ·rw[z];exact nit b u e
   ·exact nit c _ z
theorem Inv.lock{d:Addr}{u:HO}(I:Inv X pins σ H s)(h:H d=some u)(mu:Mut (some u)):∃od,Inv X pins σ (upd H d (.frz od u)) s:=by
 have x:=I.hok d u h;have ex:∃od,s.heap.get? d=some od:=by
  cases u with
  |lst xs=>obtain⟨_,_,_,_,e⟩:=x;exact⟨_,e⟩
  |dK kvs=>obtain⟨_,_,_,_,o,_,_,e,_⟩:=x;exact⟨o,e⟩
  |dT kvs=>obtain⟨_,_,_,_,o,_,_,e,_⟩:=x;exact⟨o,e⟩
  |set S n=>obtain⟨o,_,_,_,e,_⟩:=x;exact⟨o,e⟩
  |ins C dx fs=>obtain⟨_,_,_,e,_⟩:=x;exact⟨_,e⟩
  |ext Z=>obtain⟨_,⟨_,e⟩,_⟩:=x;exact⟨_,e⟩
  |_=>exact False.elim mu
 obtain⟨od,e⟩:=ex;have new:cV X.prog X.w (upd H d (.frz od u)) s.heap d (.frz od u):=by
  refine⟨e,x.lW (λb v _ q=>q) (λb q=>?_) λb xs q=>?_⟩
  ·rw[aB (λz=>by rw[z,h]at q;cases q;exact mu)];exact q
  ·rw[aB (λz=>by rw[z,h]at q;cases q;exact mu)];exact q
 exact⟨od,I.write (x:=d) (e:=d) (t':=s.toks) (h':=s.heap) (by rw[h];exact mu) (.inl rfl) (λb v _ q=>q) ⟨od,e⟩ new⟩
end
section
variable{X:Cx}
theorem Fu{tg:Expr}{pins:List (Addr×Obj)}{H:Hp}{R:It->Hp->Prop}{J:It}{tn:Nat->Heap->Prop}{tk:Nat}(I:Inv X pins σ H s)(o:Obj)
  (T:Turn X.prog X.w X.K tg J [s.heap.objs.size] s.heap.objs.size tn)(st:tn 0 (s.heap.push o))(q:R J H):PIE X pins σ tg R (.ref s.heap.objs.size) {s with heap:=s.heap.push o,toks:=tk}:=by
 refine⟨s.heap.objs.size,[s.heap.objs.size],tn,J,H,rfl,I.kept λb ob e=>Nl _ e,T,st,λb hb=>?_,q⟩;have e:b=s.heap.objs.size:=by simpa using hb
 subst e;exact I.Bc (Nq _) (I.hok.fresh (Nq _))
end
def Itc(lo c:Int)(n:Nat):It:=⟨λi _=>i<n,λi H x H'=>H'=H/\x=.int (lo+(i:Nat)*c),λi _=>n<=i⟩
variable{P:Program}
theorem zF{K:Rt}{tg:Expr}(it:Addr)(lo c:Int)(n:Nat):Turn P w K tg (Itc lo c n) [it] it (λi h=>IsRangeIter h it (lo+(i:Nat)*c) ((n:Int)-(i:Nat)) c) where
 mem:=by simp
 obj:=λi h st b hb=>by
  have e:b=it:=by simpa using hb
  subst e;exact⟨_,st,λv z=>nomatch z⟩
 keep:=λi h h' st k=>k it (by simp) _ st
 item:=by
  intro X hP hw hK hc i pins s σ H E I hf st hg;subst hP hw hK;obtain⟨f0,f1,f2,f3,f4,f5⟩:=hf it (by simp);have W:=Walks.range (prog:=X.prog) (w:=X.w) (I.ok.hd hc) it lo c n;refine W.item i s _ _ hg st λv h' tk hv st' kk=>?_;obtain⟨t,rfl⟩:=hv;have I1:Inv X pins σ H {s with heap:=h',toks:=tk}:=I.turned (λb o hb e=>kk b o (by simpa using hb) e) f0 f1 f3 f4 f5;exact⟨_,rfl,DB (s:={s with heap:=h',toks:=tk}) (n:="range_iterator") st' rfl rfl (by decide) ⟨.int (lo+(i:Nat)*c),H,I1,⟨t,rfl⟩,⟨rfl,rfl⟩,st',λb hb=>(hf b hb).1⟩⟩
 done:=by
  intro X hP hw hK hc i pins s σ H E I hf st hg;subst hP hw hK;obtain⟨f0,f1,f2,f3,f4,f5⟩:=hf it (by simp);exact wpAny_pyNext_range_end (I.ok.hd hc) st (by have:n<=i:=hg;omega) λh' eb=>⟨rfl,I.turned (t':=s.toks) (λb o hb e=>eb b o hb e) f0 f1 f3 f4 f5⟩
 self:=λA i s Q E st h=>wpAny_pyIter_rangeiter st h
def RgC(i j c:Int)(n:Nat):Prop:=c≠0/\c.natAbs<1073741824/\Builtin.Range.small i j c=true/\Builtin.Range.rangeSize i j c=n
theorem RgC.neg{j:Int}(ha:-(2^62)<=i)(ha':i<2^62)(hb:-(2^62)<=j)(hb':j<2^62):RgC i j (-1) (i-j).toNat:=
 ⟨by decide,by decide,PySem.W.small_down ha ha' hb hb',PySem.W.rangeSize_downNat i j⟩
def La(ta:TA):TI:=λσ H R=>ta σ H λvs H1=>∃(i j c:Int) (n:Nat),vs=[.int i,.int j,.int c]/\RgC i j c n/\R (Itc i c n) H1
section
variable{X:Cx}{tg:Expr}
theorem fW{a b c:Expr}{ta:TA}{p:Pos}(hg:Gl X "range")(hm:X.mg "range"=none)(ha:PA X [a,b,c] ta)
  (hs:starEach [a,b,c] X.env=(false,eval a X.env)::starEach [b,c] X.env:=by rfl)(hpl:(backTo pos (starEach [b,c] X.env)).any (·.1)=false:=by rfl):
  PI X tg (.Call (.Name "range" p) [a,b,c] [] pos) (La ta):=by
 intro pins s σ H R I h;refine Call_ (p6 I hg hm boot_range (PyProof.Rows.callWith_type1 (thn (ha pos pins s σ H _ I h) λus s1 ⟨vs,H1,I1,r1,q1⟩=>?_) hs hpl));obtain⟨i,j,k,n,e,⟨c0,c1,c2,c3⟩,q⟩:=q1;subst e;cases r1 with
 |cons r rr=>
  cases rr with
  |cons r' rr=>
   cases rr with
   |cons r'' rr=>
    cases rr;obtain⟨t,rfl⟩:=r;obtain⟨t',rfl⟩:=r';obtain⟨t'',rfl⟩:=r'';refine call_range_3 c0 ?_ (.inl (PyProof.noPylong_small c1));refine wpAny_pyIter_range (IsRange.new ..) c2 ?_;have I2:Inv X pins σ H1 {s1 with heap:=s1.heap.push {cls:=.type "range",data:=.fields #[.int i t,.int j t',.int k t'']}}:=I1.kept (t':=s1.toks) λb o e=>Nl _ e;refine Fu (tk:=s1.toks) I2 _ (zF _ i k n) ?_ q;have e1:i+((0:Nat):Int)*k=i:=by simp
    have e2:(n:Int)-((0:Nat):Int)=Builtin.Range.rangeSize i j k:=by rw[c3];simp
    show IsRangeIter _ _ (i+((0:Nat):Int)*k) ((n:Int)-((0:Nat):Int)) k;rw[e1,e2];exact NP _ rfl
end
theorem fY{lo c:Int}{tb:TS}{D:Ends}{H:Hp}(Pv:Nat->St->Hp->Prop)(h0:Pv 0 σ H)
  (hs:∀i σ H,i<n->Pv i σ H->g (.int (lo+(i:Nat)*c)) σ H λσ2 H2=>tb {D with nx:=Pv (i+1),ct:=Pv (i+1),bk:=D.nx} σ2 H2)(hd:∀σ H,Pv n σ H->D.nx σ H):
  ∃W:Nat->Nat->St->Hp->Prop,(∃m,W 0 m σ H)/\∀i m σ H,W i m σ H->
   ((Itc lo c n).stop i H/\D.nx σ H)∨((Itc lo c n).go i H/\∃N:St->Hp->Prop,(∀σ' H',N σ' H'->∃m',m'<m/\W (i+1) m' σ' H')/\∀x H',(Itc lo c n).yld i H x H'->g x σ H' λσ2 H2=>tb {D with nx:=N,ct:=N,bk:=D.nx} σ2 H2):=by
 refine⟨λi m σ H=>m=n-i/\i<=n/\Pv i σ H,⟨n,by simp,NT _,h0⟩,?_⟩;rintro i m σ H ⟨rfl,hi,p⟩;by_cases hlt:i<n
 ·refine .inr ⟨hlt,Pv (i+1),λσ' H' p'=>⟨n-(i+1),by omega,rfl,hlt,p'⟩,λx H' y=>?_⟩;obtain⟨e,y⟩:=y;subst e y;exact hs i σ _ hlt p
 ·have e:i=n:=by omega
  subst e;exact .inl ⟨Nq _,hd σ H p⟩
theorem dv{β:Type}{G:α->β->Prop}{l₁:List α}{l₂:List β}(h:Paired G l₁ l₂):∀{i:Nat}{a:α},l₁[i]?=some a->∃b,l₂[i]?=some b/\G a b:=by
 induction h with
 |nil=>intro i a e;simp at e
 |@cons a b l₁ l₂ r t ih=>
  intro i a' e;cases i with
  |zero=>
   simp only[List.getElem?_cons_zero,Option.some.injEq]at e;subst e;exact⟨b,rfl,r⟩
  |succ j=>
   simp only[Ou]at e ⊢;exact ih e
theorem DL{o:Obj}{es es':Array DictEntry}{ep ep':Nat}(h:o.data=.dict es ep)(h':o.data=.dict es' ep'):es'=es/\ep'=ep:=by
 rw[h]at h';cases h';exact⟨rfl,rfl⟩
def Ite(K:Rt)(a:Addr):It:=
 ⟨λi H=>∃(xs:List V) (x:V),SqL K H a xs/\xs[i]?=some x,λi H v H'=>∃T x,v=.ref T/\H T=none/\H'=upd H T (.tup [.int (i:Nat),x])/\∀xs,SqL K H a xs->xs[i]?=some x,λi H=>∃xs:List V,SqL K H a xs/\xs.length<=i⟩
variable{elts:List Expr}{kk:Nat}{lV:Pos}
theorem D3{K:Rt}(a e it:Addr):
  Turn P w K (.Tuple elts kk lV) (Ite K a) [e,it] e (λi h=>(∃old,IsEnum h e it ((i:Nat):Int) old)/\h.IsListIter it a i/\e≠it) where
 mem:=by simp
 obj:=λi h st b hb=>by
  obtain⟨⟨old,he⟩,⟨o,ho,hc,hd⟩,_⟩:=st;have e':b=e∨b=it:=by simpa using hb
  rcases e' with z|z
  ·rw[z];exact⟨_,he,λv q=>nomatch q⟩
  ·rw[z];exact⟨o,ho,λv q=>by rw[hd]at q;cases q⟩
 keep:=λi h h' st k=>let ⟨⟨old,he⟩,hi,hne⟩:=st;⟨⟨old,k e (by simp) _ he⟩,hi.at λo q=>k it (by simp) o q,hne⟩
 item:=by
  intro X hP hw hK hc i pins s σ H E I hf st hg;subst hP hw hK;obtain⟨⟨old,he⟩,hit,hne⟩:=st;obtain⟨xs,x,hq,hx⟩:=hg;obtain⟨its,rv,p,hz⟩:=I.list hq;obtain⟨u,hu,ru⟩:=rv.get hx;have hel:e<s.heap.objs.size:=NQ he;have hil:it<s.heap.objs.size:=by obtain⟨_,q,_⟩:=hit;exact NQ q
  refine wpAny_pyNext_enum_item he hit p.isList (x:=u) (by simpa using hu) hne λh' ho MK hT hsz hk=>?_;refine⟨_,rfl,wpAny_letOwnedTupleGo_enum (s:={s with heap:=h',toks:=s.toks+1}) ho λh'' he' sb=>?_⟩;have hT2:h''.get? s.heap.objs.size=some {cls:=.type "tuple",data:=.seq #[.int i s.toks,u]}:=(sb.2 _ (O0 hel)).trans hT;have new:cV X.prog X.w (upd H s.heap.objs.size (.tup [.int (i:Nat),x])) h'' s.heap.objs.size (.tup [.int (i:Nat),x]):=
   ⟨by show 2<=sizeLine;decide,[.int i s.toks,u],.cons ⟨_,rfl⟩ (.cons ru .nil),⟨_,hT2,rfl,_,rfl⟩⟩
  have I1:Inv X pins σ (upd H s.heap.objs.size (.tup [.int (i:Nat),x])) {s with heap:=h'',toks:=s.toks+1}:=
   I.nU (ch:=[e,it]) (λb ob hb q=>(sb.2 b (λz=>hb (by simp[z]))).trans (hk b ob (λz=>hb (by simp[z])) (λz=>hb (by simp[z])) q)) hf (Nq _) new
  refine⟨.ref s.heap.objs.size,_,I1,rfl,⟨_,x,rfl,I.hok.fresh (Nq _),rfl,λys hy=>by rw[I.iH hy hq];exact hx⟩,⟨⟨u,?_⟩,MK.at λo q=>(sb.2 it (Ne.symm hne)).trans q,hne⟩,λb hb=>?_⟩
  ·have e1:((i+1:Nat):Int)=(i:Int)+1:=by omega
   rw[e1];exact he'
  ·have hb':b<s.heap.objs.size:=by
    have e':b=e∨b=it:=by simpa using hb
    rcases e' with z|z
    ·rw[z];exact hel
    ·rw[z];exact hil
   rw[aB (Oo hb')];exact(hf b hb).1
 done:=by
  intro X hP hw hK hc i pins s σ H E I hf st hg;subst hP hw hK;obtain⟨⟨old,he⟩,hit,hne⟩:=st;obtain⟨xs,hq,hx⟩:=hg;obtain⟨its,rv,p,hz⟩:=I.list hq;obtain⟨f0,f1,f2,f3,f4,f5⟩:=hf it (by simp);have hl:=rv.length;exact wpAny_pyNext_enum_end (I.ok.hd hc) he hit p.isList (by simp;omega) λh' eb=>⟨rfl,I.turned (t':=s.toks) (λb o hb q=>eb b o hb q) f0 f1 f3 f4 f5⟩
 self:=λA i s Q E st h=>let ⟨⟨_,he⟩,_⟩:=st;wpAny_pyIter_enum he h
def Ld(K:Rt)(ta:TA):TI:=λσ H R=>ta σ H λvs H1=>∃a xs,vs=[.ref a]/\SqL K H1 a xs/\R (Ite K a) H1
theorem yu{X:Cx}{e:Expr}{ta:TA}{p:Pos}(hg:Gl X "enumerate")(hm:X.mg "enumerate"=none)(ha:PA X [e] ta)(hs:starEach [e] X.env=[(false,eval e X.env)]:=by rfl):
  PI X (.Tuple elts kk lV) (.Call (.Name "enumerate" p) [e] [] pos) (Ld X.K ta):=by
 intro pins s σ H R I h;refine Call_ (p6 I hg hm boot_enumerate (PyProof.Rows.callWith_type1 (thn (ha pos pins s σ H _ I h) λus s1 ⟨vs,H1,I1,r1,q1⟩=>?_) hs rfl));obtain⟨a,xs,ex,hq,q⟩:=q1;subst ex;cases r1 with
 |cons r rr=>
  cases rr;cases r;obtain⟨its,rv,p',hz⟩:=I1.list hq;refine call_enumerate_list p'.isList λh' he hit hsz hk=>wpAny_pyIter_enum he ?_;have I2:Inv X pins σ H1 {s1 with heap:=h'}:=I1.kept (t':=s1.toks) hk;refine⟨s1.heap.objs.size+1,[s1.heap.objs.size+1,s1.heap.objs.size],_,_,H1,rfl,I2,D3 a (s1.heap.objs.size+1) s1.heap.objs.size,⟨⟨.none,he⟩,hit,Nat.succ_ne_self _⟩,λb hb=>?_,q⟩;have e':b=s1.heap.objs.size+1∨b=s1.heap.objs.size:=by simpa using hb
  have hle:s1.heap.objs.size<=b:=by
   rcases e' with z|z
   ·rw[z];exact OQ _ _
   ·rw[z];exact Nq _
  exact I1.Bc hle (I1.hok.fresh hle)
theorem xX:bootBuiltins "zip"=some (.type "zip"):=by decide +kernel
def Itz(K:Rt)(a b:Addr):It:=
 ⟨λi H=>∃(xs ys:List V) (x y:V),SqL K H a xs/\SqL K H b ys/\xs[i]?=some x/\ys[i]?=some y,
  λi H v H'=>∃T x y,v=.ref T/\H T=none/\H'=upd H T (.tup [x,y])/\(∀xs,SqL K H a xs->xs[i]?=some x)/\∀ys,SqL K H b ys->ys[i]?=some y,
  λi H=>∃xs ys:List V,SqL K H a xs/\SqL K H b ys/\(xs.length<=i∨ys.length<=i)⟩
theorem Fd{K:Rt}{b z TI TO i1 i2:Addr}(D:ZipApart z TI TO i1 i2 a b):
  Turn P w K (.Tuple elts kk lV) (Itz K a b) [z,TI,TO,i1,i2] z (λi h=>IsZip h z TI TO .none/\IsPair h TI (.ref i1) (.ref i2)/\(∃x y,IsPair h TO x y)/\h.IsListIter i1 a i/\h.IsListIter i2 b i) where
 mem:=by simp
 obj:=λi h st c hc=>by
  obtain⟨hz,hTI,⟨x,y,hTO⟩,⟨o1,e1,_,d1⟩,⟨o2,e2,_,d2⟩⟩:=st;have e':c=z∨c=TI∨c=TO∨c=i1∨c=i2:=by simpa using hc
  rcases e' with q|q|q|q|q
  ·rw[q];exact⟨_,hz,λv q=>nomatch q⟩
  ·rw[q];exact⟨_,hTI,λv q=>nomatch q⟩
  ·rw[q];exact⟨_,hTO,λv q=>nomatch q⟩
  ·rw[q];exact⟨o1,e1,λv q=>by rw[d1]at q;cases q⟩
  ·rw[q];exact⟨o2,e2,λv q=>by rw[d2]at q;cases q⟩
 keep:=λi h h' st k=>by
  obtain⟨hz,hTI,⟨x,y,hTO⟩,h1,h2⟩:=st;exact⟨k z (by simp) _ hz,k TI (by simp) _ hTI,⟨x,y,k TO (by simp) _ hTO⟩,h1.at λo q=>k i1 (by simp) o q,h2.at λo q=>k i2 (by simp) o q⟩
 item:=by
  intro X hP hw hK hc i pins s σ H E I hf st hg;subst hP hw hK;obtain⟨hz,hTI,⟨x0,y0,hTO⟩,h1,h2⟩:=st;obtain⟨xs,ys,x,y,hqx,hqy,hx,hy⟩:=hg;obtain⟨its,rv,p,_⟩:=I.list hqx;obtain⟨mX,rv2,p2,_⟩:=I.list hqy;obtain⟨u,hu,ru⟩:=rv.get hx;obtain⟨u2,hu2,ru2⟩:=rv2.get hy;have hzl:z<s.heap.objs.size:=NQ hz;refine wpAny_pyNext_zip_item D hz hTI hTO h1 h2 p.isList p2.isList (x:=u) (y:=u2) (by simpa using hu) (by simpa using hu2) λh' z' TO' h1' h2' hT hsz hk=>?_;refine⟨_,rfl,wpAny_letOwnedTupleGo_zip (s:={s with heap:=h'}) z' λh'' z'' sb=>?_⟩;have hT2:h''.get? s.heap.objs.size=some {cls:=.type "tuple",data:=.seq #[u,u2]}:=(sb.2 _ (O0 hzl)).trans hT;have new:cV X.prog X.w (upd H s.heap.objs.size (.tup [x,y])) h'' s.heap.objs.size (.tup [x,y]):=
   ⟨by show 2<=sizeLine;decide,[u,u2],.cons ru (.cons ru2 .nil),⟨_,hT2,rfl,_,rfl⟩⟩
  have I1:Inv X pins σ (upd H s.heap.objs.size (.tup [x,y])) {s with heap:=h''}:=
   I.nU (t':=s.toks) (ch:=[z,TI,TO,i1,i2]) (λc o hb q=>(sb.2 c (λq'=>hb (by simp[q']))).trans (hk c o (λq'=>hb (by simp[q'])) (λq'=>hb (by simp[q'])) (λq'=>hb (by simp[q'])) (λq'=>hb (by simp[q'])) q)) hf (Nq _) new
  refine⟨.ref s.heap.objs.size,_,I1,rfl,⟨_,x,y,rfl,I.hok.fresh (Nq _),rfl,λl hl=>by rw[I.iH hl hqx];exact hx,λl hl=>by rw[I.iH hl hqy];exact hy⟩,⟨z'',?_,⟨u,u2,?_⟩,?_,?_⟩,λc hcm=>?_⟩
  ·exact(sb.2 _ D.TIz).trans (hk _ _ D.TIz D.TITO D.TIi1 D.TIi2 hTI)
  ·exact(sb.2 _ D.TOz).trans TO'
  ·exact h1'.at λo q=>(sb.2 _ D.i1z).trans q
  ·exact h2'.at λo q=>(sb.2 _ D.i2z).trans q
  ·have hlt:c<s.heap.objs.size:=by
    have e':c=z∨c=TI∨c=TO∨c=i1∨c=i2:=by simpa using hcm
    rcases e' with q|q|q|q|q
    ·rw[q];exact hzl
    ·rw[q];exact NQ hTI
    ·rw[q];exact NQ hTO
    ·rw[q];obtain⟨_,e1,_⟩:=h1;exact NQ e1
    ·rw[q];obtain⟨_,e2,_⟩:=h2;exact NQ e2
   rw[aB (Oo hlt)];exact(hf c hcm).1
 done:=by
  intro X hP hw hK hc i pins s σ H E I hf st hg;subst hP hw hK;obtain⟨hz,hTI,⟨x0,y0,hTO⟩,h1,h2⟩:=st;obtain⟨xs,ys,hqx,hqy,Lh⟩:=hg;obtain⟨its,rv,p,_⟩:=I.list hqx;obtain⟨mX,rv2,p2,_⟩:=I.list hqy;have l1:=rv.length;have l2:=rv2.length;have he:its.toArray[i]?=none∨mX.toArray[i]?=none:=by
   rcases Lh with q|q
   ·exact .inl (by simp;omega)
   ·exact .inr (by simp;omega)
  exact wpAny_pyNext_zip_end (I.ok.hd hc) D hz hTI hTO h1 h2 p.isList p2.isList he λh' hk=>⟨rfl,I.CZ (t':=s.toks) (ch:=[z,TI,TO,i1,i2]) (λc o hb q=>
   hk c o (λq'=>hb (by simp[q'])) (λq'=>hb (by simp[q'])) (λq'=>hb (by simp[q'])) (λq'=>hb (by simp[q'])) q) hf⟩
 self:=λA i s Q E st h=>QN st.1 h
def Mx(K:Rt)(ta:TA):TI:=λσ H R=>ta σ H λvs H1=>∃a b xs ys,vs=[.ref a,.ref b]/\SqL K H1 a xs/\SqL K H1 b ys/\R (Itz K a b) H1
theorem B2{X:Cx}{e e2:Expr}{ta:TA}{p:Pos}(hg:Gl X "zip")(hm:X.mg "zip"=none)(ha:PA X [e,e2] ta)
  (hs:starEach [e,e2] X.env=(false,eval e X.env)::starEach [e2] X.env:=by rfl)(hpl:(backTo pos (starEach [e2] X.env)).any (·.1)=false:=by rfl):
  PI X (.Tuple elts kk lV) (.Call (.Name "zip" p) [e,e2] [] pos) (Mx X.K ta):=by
 intro pins s σ H R I h;refine Call_ (p6 I hg hm xX (PyProof.Rows.callWith_type1 (thn (ha pos pins s σ H _ I h) λus s1 ⟨vs,H1,I1,r1,q1⟩=>?_) hs hpl));obtain⟨a,b,xs,ys,ex,hqx,hqy,q⟩:=q1;subst ex;cases r1 with
 |cons r rr=>
  cases rr with
  |cons r' rr=>
   cases rr;cases r;cases r';obtain⟨its,rv,p1,_⟩:=I1.list hqx;obtain⟨mX,rv2,p2,_⟩:=I1.list hqy;have la:a<s1.heap.objs.size:=p1.lt;have lb:b<s1.heap.objs.size:=p2.lt;refine call_zip_2 p1.isList p2.isList λh' hz hTI hTO h1 h2 hsz hk=>QN hz ?_;have I2:Inv X pins σ H1 {s1 with heap:=h'}:=I1.kept (t':=s1.toks) hk;refine⟨s1.heap.objs.size+4,[s1.heap.objs.size+4,s1.heap.objs.size+2,s1.heap.objs.size+3,s1.heap.objs.size,s1.heap.objs.size+1],_,_,H1,rfl,I2,Fd (PySem.W.ktu_apart s1.heap.objs.size a b la lb),⟨hz,hTI,⟨_,_,hTO⟩,h1,h2⟩,λc hcm=>?_,q⟩;have e':c=s1.heap.objs.size+4∨c=s1.heap.objs.size+2∨c=s1.heap.objs.size+3∨c=s1.heap.objs.size∨c=s1.heap.objs.size+1:=by simpa using hcm
   have hle:s1.heap.objs.size<=c:=by
    rcases e' with z|z|z|z|z
    ·rw[z];exact OQ _ _
    ·rw[z];exact OQ _ _
    ·rw[z];exact OQ _ _
    ·rw[z];exact Nq _
    ·rw[z];exact OQ _ _
   exact I1.Bc hle (I1.hok.fresh hle)
end L2
namespace Kl
open PySem PyProof.Rows
theorem tU(m:Nat):∀n:Nat,(m ^^^ n)+2*(m&&&n)=m+n:=by
 induction m using Nat.strongRecOn with
 |_ m ih=>
  intro n;by_cases h0:m=0
  ·subst h0;simp
  ·have ih':=ih (m/2) (by omega) (n/2);rw[<-Nat.xor_div_two,<-Nat.and_div_two]at ih';have o1:=@Nat.xor_mod_two_eq_one m n;have a1:=@Nat.and_mod_two_eq_one m n;omega
theorem EV{x y:Int}(hx:0<=x)(hy:0<=y):Builtin.bitXor x y=((x.toNat ^^^ y.toNat:Nat):Int):=by
 have e:=tU x.toNat y.toNat;rw[bitXor_and,bitAnd_pp hx hy];omega
theorem Gy{x y:Int}(hx:0<=x)(hy:0<=y):Builtin.bitOr x y=((x.toNat|||y.toNat:Nat):Int):=by
 have e:=nat_or_add_and x.toNat y.toNat;rw[bitOr_and,bitAnd_pp hx hy];omega
end Kl
namespace L2
open PySem PySem.Spec PyProof.Rows
open PySem.W (WData Codec OpenSpec Well WellAll ReadsW ReadsAllW)
mutual
inductive Dw(K:Rt)(H:Hp):V->WData->Prop
 |non:Dw K H .non .none
 |bl (b:Bool):Dw K H (.bl b) (.bool b)
 |int (i:Int):Dw K H (.int i) (.int i)
 |str (x:Str):Dw K H (.str x) (.str x)
 |byt (b:Array UInt8):Dw K H (.byt b) (.bytes b.toList)
 |lst {a:Addr} {xs:List V} {ds:List WData}:SqL K H a xs->lT K H xs ds->Dw K H (.ref a) (.list ds)
 |tup {a:Addr} {xs:List V} {ds:List WData}:SqT K H a xs->lT K H xs ds->Dw K H (.ref a) (.tuple ds)
inductive lT(K:Rt)(H:Hp):List V->List WData->Prop
 |nil:lT K H [] []
 |cons {v:V} {vs:List V} {d:WData} {ds:List WData}:Dw K H v d->lT K H vs ds->lT K H (v::vs) (d::ds)
end
theorem DJ{K:Rt}{H:Hp}:∀ns:List Int,lT K H (ns.map V.int) (ns.map WData.int)
 |[]=>.nil
 |n::r=>.cons (.int n) (DJ r)
theorem Dy{K:Rt}{H:Hp}:∀(ns:List Int)(xs:List V),lT K H xs (ns.map WData.int)->xs=ns.map V.int
 |[],xs,h=>by
  cases h;rfl
 |n::r,xs,h=>by
  cases h with
  |cons h1 h2=>
   cases h1;rw[Dy r _ h2]<;>rfl
section
variable{P:Program}{w:World}{K:Rt}{H:Hp}{h:Heap}{R:PySem.W.WRecords}{cl:Str->Option Addr}
variable{xs:List V}
theorem Je{a:Addr}(hok:HOk P w H h)(KX:K.In h)(q:SqL K H a xs):∃(its:List Value) (o:Obj) (n:Nat),Vals xs its/\h.get? a=some o/\o.cls=.type "list"/\o.data=.seq its.toArray n:=by
 rcases q with q|⟨o,its,n,e,hc,_,hd,_,hv⟩
 ·obtain⟨_,its,n,hv,e⟩:=(show cV P w H h a (.lst xs)from q.ok hok);exact⟨its,_,n,hv,e,rfl,rfl⟩
 ·exact⟨its.toList,o,n,hv,KX _ _ e,hc,by simp[hd]⟩
theorem Jd{a:Addr}(hok:HOk P w H h)(KX:K.In h)(q:SqT K H a xs):∃(its:List Value) (o:Obj) (n:Nat),Vals xs its/\h.get? a=some o/\o.cls=.type "tuple"/\o.data=.seq its.toArray n:=by
 rcases q with q|⟨o,its,n,e,hc,hd,_,hv⟩
 ·obtain⟨_,its,hv,o,e,hc,n,hd⟩:=(show cV P w H h a (.tup xs)from q.ok hok);exact⟨its,o,n,hv,e,hc,hd⟩
 ·exact⟨its.toList,o,n,hv,KX _ _ e,hc,by simp[hd]⟩
mutual
theorem Dw.reads(hok:HOk P w H h)(KX:K.In h):∀(d:WData)(v:V)(u:Value),Dw K H v d->RelV v u->∃as,ReadsW R cl h u d as
 |.none,_,_,x,r=>by
  cases x;cases r;exact⟨_,ReadsW.none⟩
 |.bool b,_,_,x,r=>by
  cases x;cases r;exact⟨_,ReadsW.bool b⟩
 |.int i,_,_,x,r=>by
  cases x;obtain⟨t,rfl⟩:=r;exact⟨_,ReadsW.int i t⟩
 |.str s,_,_,x,r=>by
  cases x;obtain⟨t,rfl⟩:=r;exact⟨_,ReadsW.str s t⟩
 |.bytes b,_,_,x,r=>by
  cases x;obtain⟨t,rfl⟩:=r;exact⟨_,ReadsW.bytes _ t⟩
 |.list ds,_,_,x,r=>by
  cases x with
  |lst hs ha=>
   cases r;obtain⟨its,o,n,rv,ho,hc,hd⟩:=Je hok KX hs;obtain⟨as,hr⟩:=Dw.readsAll hok KX ds _ its ha rv;exact⟨_,ReadsW.list ho hc hd hr⟩
 |.tuple ds,_,_,x,r=>by
  cases x with
  |tup hs ha=>
   cases r;obtain⟨its,o,n,rv,ho,hc,hd⟩:=Jd hok KX hs;obtain⟨as,hr⟩:=Dw.readsAll hok KX ds _ its ha rv;exact⟨_,ReadsW.tuple ho hc hd hr⟩
 |.float _,_,_,x,_=>by cases x
 |.dict _,_,_,x,_=>by cases x
 |.bytearray _,_,_,x,_=>by cases x
 |.set _,_,_,x,_=>by cases x
 |.frozenset _,_,_,x,_=>by cases x
 |.obj _ _,_,_,x,_=>by cases x
theorem Dw.readsAll(hok:HOk P w H h)(KX:K.In h):∀(ds:List WData)(vs:List V)(us:List Value),lT K H vs ds->Vals vs us->∃as,ReadsAllW R cl h us ds as
 |[],_,_,x,r=>by
  cases x;cases r;exact⟨_,ReadsAllW.nil⟩
 |d::ds,_,_,x,r=>by
  cases x with
  |cons h1 h2=>
   cases r with
   |cons r1 r2=>
    obtain⟨as,q1⟩:=Dw.reads hok KX d _ _ h1 r1;obtain⟨bs,q2⟩:=Dw.readsAll hok KX ds _ _ h2 r2;exact⟨_,ReadsAllW.cons q1 q2⟩
end
end
mutual
def plW:WData->Bool
 |.none=>true
 |.bool _=>true
 |.int _=>true
 |.str _=>true
 |.bytes _=>true
 |.list xs=>tO xs
 |.tuple xs=>tO xs
 |_=>false
def tO:List WData->Bool
 |[]=>true
 |x::r=>plW x&&tO r
end
theorem Ag{α:Type}{f:α->WData}(h:∀a,plW (f a)=true):∀l:List α,tO (l.map f)=true
 |[]=>rfl
 |x::r=>by
  show(plW (f x)&&tO (r.map f))=true;rw[h x,Ag h r]<;>rfl
theorem mO:∀(c:Codec)(a:c.denote),plW (c.enc a)=true
 |.unit,_=>rfl
 |.bool,_=>rfl
 |.int _ _,_=>rfl
 |.nat _ _,_=>rfl
 |.u8,_=>rfl
 |.bytes _ _,_=>rfl
 |.text _ _ _ _,_=>rfl
 |.list _ _ c,a=>Ag (λx=>mO c x) a
 |.pair c d,a=>by
  show(plW (c.enc a.1)&&(plW (d.enc a.2)&&true))=true;rw[mO c a.1,mO d a.2]<;>rfl
 |.triple c d e,a=>by
  show(plW (c.enc a.1)&&(plW (d.enc a.2.1)&&(plW (e.enc a.2.2)&&true)))=true;rw[mO c a.1,mO d a.2.1,mO e a.2.2]<;>rfl
 |.option c,none=>rfl
 |.option c,some x=>mO c x
theorem xC:∀(cs:List Codec)(a:Codec.denoteAll cs),tO (Codec.encAll cs a)=true
 |[],_=>rfl
 |c::cs,a=>by
  show(plW (c.enc a.1)&&tO (Codec.encAll cs a.2))=true;rw[mO c a.1,xC cs a.2]<;>rfl
theorem ph:∀{xs:List WData}{d:WData},d∈xs->d.weight<=WData.weightAll xs
 |[],d,h=>absurd h (by simp)
 |x::r,d,h=>by
  show d.weight<=x.weight+1+WData.weightAll r;rcases ND.mp h with e|m
  ·rw[e];omega
  ·have z:=ph m;omega
def toV:Value->V
 |.none=>.non
 |.bool b=>.bl b
 |.int i _=>.int i
 |.str x _=>.str x
 |.bytes b _=>.byt b
 |.ref a=>.ref a
 |_=>.non
def OkU(A:List Addr):Value->Prop
 |.none=>True
 |.bool _=>True
 |.int _ _=>True
 |.str _ _=>True
 |.bytes _ _=>True
 |.ref a=>a∈A
 |_=>False
variable{A:List Addr}
theorem OkU.mono{B:List Addr}(h:∀a∈A,a∈B):∀{u:Value},OkU A u->OkU B u:=λ{u} x=>by
 cases u with
 |ref a=>exact h a x
 |none=>trivial
 |bool b=>trivial
 |int i t=>trivial
 |str s t=>trivial
 |bytes b t=>trivial
 |_=>exact False.elim x
theorem Fq{u:Value}(x:OkU A u):RelV (toV u) u:=by
 cases u with
 |ref a=>rfl
 |none=>rfl
 |bool b=>rfl
 |int i t=>exact⟨t,rfl⟩
 |str s t=>exact⟨t,rfl⟩
 |bytes b t=>exact⟨t,rfl⟩
 |_=>exact False.elim x
theorem jz{A:List Addr}:∀{vs:List Value},(∀u∈vs,OkU A u)->Vals (vs.map toV) vs
 |[],_=>.nil
 |u::r,h=>.cons (Fq (h u (NB ..))) (jz λx hx=>h x (Nn _ hx))
def lU(h:Heap)(A:List Addr)(a:Addr):Prop:=∃vs:List Value,vs.length<=sizeLine/\(∀u∈vs,OkU A u)/\
 (h.get? a=some {cls:=.type "list",data:=.seq vs.toArray}∨h.get? a=some {cls:=.type "tuple",data:=.seq vs.toArray})
theorem lU.mono{h:Heap}{A B:List Addr}{a:Addr}(k:∀a∈A,a∈B)(x:lU h A a):lU h B a:=by
 obtain⟨vs,h1,h2,h3⟩:=x;exact⟨vs,h1,λu hu=>(h2 u hu).mono k,h3⟩
theorem iU{P:Params}{h:Heap}:∀{vs:List Value}{ds:List WData},WellAll P h vs ds->vs.length=ds.length
 |_,_,.nil=>rfl
 |_,_,.cons _ b=>by
  show _+1=_+1;rw[iU b]
variable{P:Params}{h:Heap}{v:Value}
theorem xh{ds:List WData}(x:Well P h v (.list ds)):∃(a:Addr) (vs:List Value),v=.ref a/\h.get? a=some {cls:=.type "list",data:=.seq vs.toArray}/\WellAll P h vs ds:=by
 cases x with
 |list ho oJ=>exact⟨_,_,rfl,ho,oJ⟩
theorem uJ{ds:List WData}(x:Well P h v (.tuple ds)):∃(a:Addr) (vs:List Value),v=.ref a/\h.get? a=some {cls:=.type "tuple",data:=.seq vs.toArray}/\WellAll P h vs ds:=by
 cases x with
 |tuple ho oJ=>exact⟨_,_,rfl,ho,oJ⟩
variable{us:List Value}
theorem xi{d:WData}{ds:List WData}(x:WellAll P h us (d::ds)):∃(v:Value) (vs:List Value),us=v::vs/\Well P h v d/\WellAll P h vs ds:=by
 cases x with
 |cons a b=>exact⟨_,_,rfl,a,b⟩
theorem Dr{n:Nat}(h:n<=1048576):n<=sizeLine:=NR h (by decide)
section
variable{P:Params}{h:Heap}
mutual
theorem GA:∀(d:WData)(v:Value),Well P h v d->plW d=true->d.weight<=1048576->∃A:List Addr,OkU A v/\∀a∈A,lU h A a
 |.none,_,x,_,_=>by
  cases x;exact⟨[],trivial,λa m=>absurd m (by simp)⟩
 |.bool b,_,x,_,_=>by
  cases x;exact⟨[],trivial,λa m=>absurd m (by simp)⟩
 |.int i,_,x,_,_=>by
  cases x;exact⟨[],trivial,λa m=>absurd m (by simp)⟩
 |.str s,_,x,_,_=>by
  cases x;exact⟨[],trivial,λa m=>absurd m (by simp)⟩
 |.bytes b,_,x,_,_=>by
  cases x;exact⟨[],trivial,λa m=>absurd m (by simp)⟩
 |.list ds,_,x,p,z=>by
  obtain⟨a,vs,rfl,ho,oJ⟩:=xh x;have z2:WData.weightAll ds<=1048576:=z;obtain⟨A,h1,h2⟩:=rB ds _ oJ p λd hd=>NR (ph hd) z2;have k:∀b∈A,b∈a::A:=λb hb=>Nn _ hb;refine⟨a::A,NB ..,λb hb=>?_⟩;rcases ND.mp hb with e|m
  ·rw[e];exact⟨vs,Dr (by rw[iU oJ];exact NR (PySem.W.length_le_weightAllW ds) z2),λu hu=>(h1 u hu).mono k,.inl ho⟩
  ·exact(h2 b m).mono k
 |.tuple ds,_,x,p,z=>by
  obtain⟨a,vs,rfl,ho,oJ⟩:=uJ x;have z2:WData.weightAll ds<=1048576:=z;obtain⟨A,h1,h2⟩:=rB ds _ oJ p λd hd=>NR (ph hd) z2;have k:∀b∈A,b∈a::A:=λb hb=>Nn _ hb;refine⟨a::A,NB ..,λb hb=>?_⟩;rcases ND.mp hb with e|m
  ·rw[e];exact⟨vs,Dr (by rw[iU oJ];exact NR (PySem.W.length_le_weightAllW ds) z2),λu hu=>(h1 u hu).mono k,.inr ho⟩
  ·exact(h2 b m).mono k
 |.float _,_,_,p,_=>Bool.noConfusion (show false=true from p)
 |.dict _,_,_,p,_=>Bool.noConfusion (show false=true from p)
 |.bytearray _,_,_,p,_=>Bool.noConfusion (show false=true from p)
 |.set _,_,_,p,_=>Bool.noConfusion (show false=true from p)
 |.frozenset _,_,_,p,_=>Bool.noConfusion (show false=true from p)
 |.obj _ _,_,_,p,_=>Bool.noConfusion (show false=true from p)
theorem rB:∀(ds:List WData)(vs:List Value),WellAll P h vs ds->tO ds=true->(∀d∈ds,d.weight<=1048576)->∃A:List Addr,(∀u∈vs,OkU A u)/\∀a∈A,lU h A a
 |[],_,x,_,_=>by
  cases x;exact⟨[],λu m=>absurd m (by simp),λa m=>absurd m (by simp)⟩
 |d::ds,_,x,p,z=>by
  obtain⟨v,vs,rfl,x1,x2⟩:=xi x;have q:plW d=true/\tO ds=true:=Ot.mp p;obtain⟨A,a1,a2⟩:=GA d v x1 q.1 (z d (NB ..));obtain⟨B,b1,b2⟩:=rB ds vs x2 q.2 λe he=>z e (Nn _ he);have kA:∀b∈A,b∈A++B:=λb hb=>Np.mpr (.inl hb);have kB:∀b∈B,b∈A++B:=λb hb=>Np.mpr (.inr hb);refine⟨A++B,λu hu=>?_,λb hb=>?_⟩
  ·rcases ND.mp hu with e|m
   ·rw[e];exact a1.mono kA
   ·exact(b1 u m).mono kB
  ·rcases Np.mp hb with m|m
   ·exact(a2 b m).mono kA
   ·exact(b2 b m).mono kB
end
end
def HM(o:Obj):Option HO:=match o.data with
 |.seq vs _=>if(o.cls==Value.type "list")=true then some (.frz o (.lst (vs.toList.map toV)))else some (.frz o (.tup (vs.toList.map toV)))
 |_=>none
def kW(K:Rt)(h:Heap)(A:List Addr):Hp:=λb=>if b∈A then(if(K.lookup b).isNone=true then(h.get? b).bind HM else none)else none
def Bt(H:Hp):Prop:=∀b,H b=none∨∃o u,H b=some (.frz o u)
theorem A5(vs:List Value):HM {cls:=.type "list",data:=.seq vs.toArray}=some (.frz {cls:=.type "list",data:=.seq vs.toArray} (.lst (vs.map toV))):=by
 show(if(Value.type "list"==Value.type "list")=true then some (HO.frz {cls:=.type "list",data:=.seq vs.toArray} (.lst (vs.toArray.toList.map toV)))else some (HO.frz {cls:=.type "list",data:=.seq vs.toArray} (.tup (vs.toArray.toList.map toV))))=_;rw[Nz (QO _)]
theorem A4(vs:List Value):HM {cls:=.type "tuple",data:=.seq vs.toArray}=some (.frz {cls:=.type "tuple",data:=.seq vs.toArray} (.tup (vs.map toV))):=by
 show(if(Value.type "tuple"==Value.type "list")=true then some (HO.frz {cls:=.type "tuple",data:=.seq vs.toArray} (.lst (vs.toArray.toList.map toV)))else some (HO.frz {cls:=.type "tuple",data:=.seq vs.toArray} (.tup (vs.toArray.toList.map toV))))=_;rw[Nt (by decide)]
section
variable{P:Program}{w:World}{K:Rt}{h:Heap}{A:List Addr}
variable{b:Addr}
theorem uF{o:Obj}(hb:b∈A)(hk:K.lookup b=none)(e:h.get? b=some o):kW K h A b=HM o:=by
 unfold kW;rw[Nz hb,hk,Nz (show(none:Option Obj).isNone=true from rfl),e]<;>rfl
theorem Hs{u:HO}(q:kW K h A b=some u):b∈A/\K.lookup b=none:=by
 unfold kW at q;by_cases hb:b∈A
 ·rw[Nz hb]at q;cases hk:K.lookup b with
  |none=>exact⟨hb,rfl⟩
  |some o=>
   rw[hk,Nt (by simp)]at q;cases q
 ·rw[Nt hb]at q;cases q
theorem uE(ar:∀a∈A,lU h A a){u:HO}(q:kW K h A b=some u):K.lookup b=none/\∃vs:List Value,vs.length<=sizeLine/\(∀u∈vs,OkU A u)/\
  ((h.get? b=some {cls:=.type "list",data:=.seq vs.toArray}/\u=.frz {cls:=.type "list",data:=.seq vs.toArray} (.lst (vs.map toV))) ∨
   (h.get? b=some {cls:=.type "tuple",data:=.seq vs.toArray}/\u=.frz {cls:=.type "tuple",data:=.seq vs.toArray} (.tup (vs.map toV)))):=by
 obtain⟨hb,hk⟩:=Hs q;obtain⟨vs,h1,h2,h3⟩:=ar b hb;refine⟨hk,vs,h1,h2,?_⟩;rcases h3 with e|e
 ·rw[uF hb hk e,A5]at q;exact .inl ⟨e,(Nm q).symm⟩
 ·rw[uF hb hk e,A4]at q;exact .inr ⟨e,(Nm q).symm⟩
theorem EY(ar:∀a∈A,lU h A a):Bt (kW K h A):=λb=>by
 cases q:kW K h A b with
 |none=>exact .inl rfl
 |some u=>
  obtain⟨_,vs,_,_,⟨_,e⟩|⟨_,e⟩⟩:=uE ar q
  ·exact .inr ⟨_,_,by rw[e]⟩
  ·exact .inr ⟨_,_,by rw[e]⟩
theorem Im(ar:∀a∈A,lU h A a):HOk P w (kW K h A) h:=λb u q=>by
 obtain⟨_,vs,h1,h2,⟨e,rfl⟩|⟨e,rfl⟩⟩:=uE ar q
 ·exact⟨e,by rw[Nf];exact h1,vs,_,jz h2,e⟩
 ·exact⟨e,by rw[Nf];exact h1,vs,jz h2,_,e,rfl,_,rfl⟩
variable{vs:List Value}
theorem ui{c c':Value}(e:(some {cls:=c,data:=.seq vs.toArray}:Option Obj)=some {cls:=c',data:=.seq us.toArray}):c=c'/\vs=us:=by
 have e1:=Nm e;have e2:c=c':=congrArg Obj.cls e1;have e3:Data.seq vs.toArray=Data.seq us.toArray:=congrArg Obj.data e1;injection e3 with e4;refine⟨e2,?_⟩;have e5:=congrArg Array.toList e4;simpa using e5
theorem M5(KX:K.In h)(ar:∀a∈A,lU h A a){a:Addr}(ha:a∈A)(e:h.get? a=some {cls:=.type "list",data:=.seq vs.toArray}):(∀u∈vs,OkU A u)/\SqL K (kW K h A) a (vs.map toV):=by
 obtain⟨us,h1,h2,h3⟩:=ar a ha;have hu:us=vs:=by
  rcases h3 with q|q
  ·rw[e]at q;exact(ui q).2.symm
  ·rw[e]at q;exact absurd (Value.type.inj (ui q).1) (by decide)
 subst hu;refine⟨h2,?_⟩;cases hk:K.lookup a with
 |none=>exact .inl (.inr ⟨_,by rw[uF ha hk e,A5]⟩)
 |some o=>
  have e2:=KX a o hk;rw[e]at e2;obtain rfl:=Nm e2;exact .inr ⟨_,us.toArray,_,hk,rfl,rfl,rfl,by rw[NN];exact h1,by simpa using jz h2⟩
theorem M4(KX:K.In h)(ar:∀a∈A,lU h A a){a:Addr}(ha:a∈A)(e:h.get? a=some {cls:=.type "tuple",data:=.seq vs.toArray}):(∀u∈vs,OkU A u)/\SqT K (kW K h A) a (vs.map toV):=by
 obtain⟨us,h1,h2,h3⟩:=ar a ha;have hu:us=vs:=by
  rcases h3 with q|q
  ·rw[e]at q;exact absurd (Value.type.inj (ui q).1) (by decide)
  ·rw[e]at q;exact(ui q).2.symm
 subst hu;refine⟨h2,?_⟩;cases hk:K.lookup a with
 |none=>exact .inl (.inr ⟨_,by rw[uF ha hk e,A4]⟩)
 |some o=>
  have e2:=KX a o hk;rw[e]at e2;obtain rfl:=Nm e2;exact .inr ⟨_,us.toArray,_,hk,rfl,rfl,by rw[NN];exact h1,by simpa using jz h2⟩
mutual
theorem J1{Pm:Params}(KX:K.In h)(ar:∀a∈A,lU h A a):∀(d:WData)(v:Value),Well Pm h v d->plW d=true->OkU A v->Dw K (kW K h A) (toV v) d
 |.none,_,x,_,_=>by
  cases x;exact .non
 |.bool b,_,x,_,_=>by
  cases x;exact .bl b
 |.int i,_,x,_,_=>by
  cases x;exact .int i
 |.str s,_,x,_,_=>by
  cases x;exact .str s
 |.bytes b,_,x,_,_=>by
  cases x;have z:=Dw.byt (K:=K) (H:=kW K h A) b.toArray;exact z
 |.list ds,_,x,p,hu=>by
  obtain⟨a,vs,rfl,ho,oJ⟩:=xh x;obtain⟨h2,hs⟩:=M5 KX ar hu ho;exact .lst hs (zf KX ar ds _ oJ p h2)
 |.tuple ds,_,x,p,hu=>by
  obtain⟨a,vs,rfl,ho,oJ⟩:=uJ x;obtain⟨h2,hs⟩:=M4 KX ar hu ho;exact .tup hs (zf KX ar ds _ oJ p h2)
 |.float _,_,_,p,_=>Bool.noConfusion (show false=true from p)
 |.dict _,_,_,p,_=>Bool.noConfusion (show false=true from p)
 |.bytearray _,_,_,p,_=>Bool.noConfusion (show false=true from p)
 |.set _,_,_,p,_=>Bool.noConfusion (show false=true from p)
 |.frozenset _,_,_,p,_=>Bool.noConfusion (show false=true from p)
 |.obj _ _,_,_,p,_=>Bool.noConfusion (show false=true from p)
theorem zf{Pm:Params}(KX:K.In h)(ar:∀a∈A,lU h A a):∀(ds:List WData)(vs:List Value),WellAll Pm h vs ds->tO ds=true->(∀u∈vs,OkU A u)->lT K (kW K h A) (vs.map toV) ds
 |[],_,x,_,_=>by
  cases x;exact .nil
 |d::ds,_,x,p,hu=>by
  obtain⟨v,vs,rfl,x1,x2⟩:=xi x;have q:plW d=true/\tO ds=true:=Ot.mp p;exact .cons (J1 KX ar d v x1 q.1 (hu _ (NB ..))) (zf KX ar ds vs x2 q.2 λu m=>hu u (Nn _ m))
end
end
variable{k:Nat}{ps:List Str}
theorem D9{P:Program}{w:World}{K:Rt}{mg mb:Ru}{CX:CXT}{fa:Addr}{fd:FuncData}{sp:Sp}{s₁:Shared}{vals:List Value}{ds:List WData}{R:PySem.W.WRecords}{cl:Str->Option Addr}{d0:WData}
  (KX:K.In s₁.heap)(hns:s₁.heap.Ns mainGlobals mg)(hb:s₁.heap.Ns builtinsNs mb)(hbb:∀x:Str,x≠"__name__"->mb x=bootBuiltins x)(MI:s₁.heap.NoLimit)(hg:s₁.gens=#[])
  (hwl:WellAll w.params s₁.heap vals ds)(hpl:tO ds=true)(hwt:∀d∈ds,d.weight<=1048576)(hr:fE k callerA)
  (F:∀base:Heap,K.In base->base.Ns mainGlobals mg->bw P w K mg base CX k fa fd ps sp)(Lk:∀(s:Shared)(us:List Value),us.length=ps.length->BindsTo s fd ⟨us,[]⟩ (ps.zip us))(hlen:ds.length=ps.length)
  (hsp:∀(H:Hp)(xs:List V),Bt H->lT K H xs ds->sp xs H (λv H'=>Dw K H' v d0) λ_ _ _=>False)
  (hCX:∀H e s',CX [] H s₁ (λ_ _ _=>False) e s'->False):
  codeAny (model P w) callerA (.call (.ref fa) ⟨vals,[]⟩) (λr s'=>∃u as,r=.ok (.ret u)/\ReadsW R cl s'.heap u d0 as/\OldK s₁.heap s'.heap/\s'.os=s₁.os/\AllBare s'.gens) s₁:=by
 obtain⟨A,ho,ar⟩:=rB ds vals hwl hpl hwt;have hO:Bt (kW K s₁.heap A):=EY ar;have hok:HOk P w (kW K s₁.heap A) s₁.heap:=Im ar;have hS:=zf KX ar ds vals hwl hpl ho;have hV:=jz ho;have hK:∀b u,kW K s₁.heap A b=some u->K.lookup b=none:=λb u q=>(uE ar q).1;have noA:∀{b:Addr}{o:Obj}{es:Array DictEntry}{ep:Nat},s₁.heap.get? b=some o->o.data=.dict es ep->kW K s₁.heap A b=none:=λ{b o es ep} e d=>by
  cases q:kW K s₁.heap A b with
  |none=>rfl
  |some u=>
   obtain⟨_,vs,_,_,⟨e2,_⟩|⟨e2,_⟩⟩:=uE ar q
   ·rw[e2]at e;cases e;have d':Data.seq vs.toArray _=Data.dict es ep:=d;cases d'
   ·rw[e2]at e;cases e;have d':Data.seq vs.toArray _=Data.dict es ep:=d;cases d'
 generalize kW K s₁.heap A=H at hO hok hS hK noA;have DR:∀{b:Addr}{o:Obj},s₁.heap.get? b=some o->H b=none->(yZ s₁.heap H).get? b=some o:=λe n=>Ga e n;have nsK:∀{b:Addr}{m:Ru},s₁.heap.Ns b m->(yZ s₁.heap H).Ns b m:=λ{b m} ⟨o,es,ep,e,d,r⟩=>⟨o,es,ep,DR e (noA e d),d,r⟩;have nK:∀b o,K.lookup b=some o->H b=none:=λb o e=>by
  cases q:H b with
  |none=>rfl
  |some u=>
   rw[hK b u q]at e;cases e
 have hKb:K.In (yZ s₁.heap H):=λb o e=>DR (KX b o e) (nK b o e);have hM:Mod K mg (yZ s₁.heap H):=⟨hKb,nsK hns,⟨mb,nsK hb,hbb⟩,let ⟨mc,h1,h2⟩:=MI;⟨mc,nsK h1,h2⟩⟩;have e0:CU P w K mg (yZ s₁.heap H) callerA [] s₁ H:=⟨rfl,hM,λb o e=>Hr e,Pq (EE _ _),trivial,λb hb=>absurd (show b∈([]:List Addr)from hb) (by simp),hok,.of_eq hg⟩;have hl:vals.length=ps.length:=by rw[iU hwl];exact hlen
 refine codeAny_mono ((F _ hKb (nsK hns)).run callerA [] s₁ H ⟨vals,[]⟩ vals (vals.map toV) _ _ hr e0 (Lk s₁ vals hl) hV (hsp H _ hO hS)) λr s' x=>?_;cases r with
 |error e=>exact(hCX H e s' x).elim
 |ok fl=>
  cases fl with
  |next=>exact False.elim x
  |brk=>exact False.elim x
  |cont=>exact False.elim x
  |ret u=>
   obtain⟨v,H',os,bare,un,Lf,r',q⟩:=x;have kept:∀b o,s₁.heap.get? b=some o->s'.heap.get? b=some o:=λb o e=>by
    cases q2:H b with
    |none=>exact un.keep b o e q2 (by intro z;exact absurd (show b∈([]:List Addr)from z) (by simp)) (by simp)
    |some u2=>
     rcases hO b with z|⟨ob,u3,z⟩
     ·rw[q2]at z;cases z
     ·have z2:=un.zb b ob _ z;obtain⟨e1,_⟩:=hok b _ z;obtain⟨e2,_⟩:=Lf b _ z2;rw[e]at e1;cases e1;exact e2
   have KX':K.In s'.heap:=λb o e=>kept b o (KX b o e);obtain⟨as,hrd⟩:=Dw.reads (R:=R) (cl:=cl) Lf KX' d0 v u q r';exact⟨u,as,rfl,hrd,OldK.of_keep kept,os,bare⟩
theorem vO{ds:List WData}(h:WData.layableAll ds=true):∀d∈ds,d.weight<=1048576:=λd hd=>
 (PySem.W.layableW_iff.mp (Ow.mp h d hd)).2.2
theorem wc:∀(cs:List Codec)(a:Codec.denoteAll cs),(Codec.encAll cs a).length=cs.length
 |[],_=>rfl
 |c::cs,a=>by
  show(Codec.encAll cs a.2).length+1=cs.length+1;rw[wc cs a.2]
variable{r:OpenSpec}{XP:(Ru)->Heap->Prop}{YP:World->Heap->Prop}{d:DefRec}
theorem DZ{q:Program}{loose:List Str}{K:World->Rt}{CX:World->CXT}{sp:World->Sp}
  (F8:r.wellSaid=true)(hdf:d.params.defaults=[])(hlen:r.args.length=ps.length)(hr:fE k callerA)
  (hY:∀(w:World)(h:Heap),YP w h->(K w).In h)
  (F:∀(w:World)(mg:Ru)(fa:Addr)(h:Heap),YP w h->(K w).In h->h.Ns mainGlobals mg->mg d.name=some (.ref fa)->
   ∃fd:FuncData,(∀(s:Shared)(us:List Value),us.length=ps.length->BindsTo s fd ⟨us,[]⟩ (ps.zip us))/\
    ∀base:Heap,(K w).In base->base.Ns mainGlobals mg->bw r.prog w (K w) mg base (CX w) k fa fd ps (sp w))
  (hsp:∀(w:World)(H:Hp)(xs:List V)(a:Codec.denoteAll r.args),Bt H->Codec.withinAll r.args a=true->Codec.app r.args r.asked a=true->lT (K w) H xs (Codec.encAll r.args a)->
   sp w xs H (λv H'=>Dw (K w) H' v (r.ret.enc (Codec.app r.args r.f a))) λ_ _ _=>False)
  (hCX:∀(w:World)(H:Hp)(s:Shared)(e:Value)(s':Shared),CX w [] H s (λ_ _ _=>False) e s'->False):
  PySem.W.WalkOS q loose XP YP r d [] (λf vs=>PySem.call f vs):=by
 intro w s_0 s₁ mg mb G Y fa o pm cd doc dV kV ho hd hcd hD hmg hg args vals as MD MJ hrd hwl hlo;obtain⟨a,e1,e2⟩:=PySem.W.os_pre_some MD;obtain⟨e3,hwi⟩:=Codec.encAll_of_decAll r.args args a e1;subst e3;have KX:=hY w _ Y;obtain⟨fd,hb,hF⟩:=F w mg fa _ Y KX G.T.g hmg;refine PySem.W.enter_call (codeAny_mono (D9 (R:=[]) (cl:=classAt s_0.heap) (d0:=r.ret.enc (Codec.app r.args r.f a)) KX G.T.g G.T.b G.T.builtins G.T.nolimit hg hwl (xC _ _) (vO MJ) hr hF hb (by rw[wc];exact hlen)
  (λH xs hO hS=>hsp w H xs a hO hwi e2 hS) λH e s'=>hCX w H s₁ e s') λr' s' hq=>?_)
 obtain⟨u,as',rfl,h1,h2,h3,h4⟩:=hq;exact⟨.inl ⟨u,_,as',rfl,λ_=>rfl,h1,(OpenSpec.post_iff F8 hwi _ _).mpr rfl,λz=>Bool.noConfusion (show false=true from z)⟩,h2,h3,h4⟩
theorem BE{q:Program}{loose:List Str}{K:World->Rt}{CX:CXT}{sp:Rt->Sp}
  (F8:r.wellSaid=true)(hdf:d.params.defaults=[])(hlen:r.args.length=ps.length)(hr:fE k callerA)
  (hY:∀(w:World)(h:Heap),YP w h->(K w).In h)
  (F:∀(w:World)(mg:Ru)(fa:Addr)(h:Heap),YP w h->(K w).In h->h.Ns mainGlobals mg->mg d.name=some (.ref fa)->
   ∃fd:FuncData,(∀(s:Shared)(us:List Value),us.length=ps.length->BindsTo s fd ⟨us,[]⟩ (ps.zip us))/\
    ∀base:Heap,(K w).In base->base.Ns mainGlobals mg->bw r.prog w (K w) mg base CX k fa fd ps (sp (K w)))
  (hsp:∀(K:Rt)(H:Hp)(xs:List V)(a:Codec.denoteAll r.args),Bt H->Codec.withinAll r.args a=true->Codec.app r.args r.asked a=true->lT K H xs (Codec.encAll r.args a)->
   sp K xs H (λv H'=>Dw K H' v (r.ret.enc (Codec.app r.args r.f a))) λ_ _ _=>False)
  (hCX:∀(H:Hp)(s:Shared)(e:Value)(s':Shared),CX [] H s (λ_ _ _=>False) e s'->False):
  PySem.W.WalkOS q loose XP YP r d [] (λf vs=>PySem.call f vs):=
 DZ (K:=K) (CX:=λ_=>CX) (sp:=λw=>sp (K w)) F8 hdf hlen hr hY F (λw H xs a h1 h2 h3 h4=>hsp (K w) H xs a h1 h2 h3 h4) λ_ H s e s'=>hCX H s e s'
end L2
namespace L2
open PySem PySem.Spec PyProof.Rows
def inClass(s:Stmt)(j:Nat):Stmt:=match s with
 |.ClassDef _ _ _ body _ _ _ _ _ _ _=>body.getD j (.Pass ⟨0,0,0,0⟩)
 |_=>.Pass ⟨0,0,0,0⟩
def jj(s:Stmt):Arguments:=match s with
 |.FunctionDef _ a _ _ _ _ _ _ _ _=>a
 |_=>{posonlyargs:=[],args:=[],vararg:=none,kwonlyargs:=[],kw_defaults:=[],kwarg:=none,defaults:=[]}
def hJ(s:Stmt):List Stmt:=match s with
 |.FunctionDef _ _ b _ _ _ _ _ _ _=>b
 |_=>[]
def az(s:Stmt):Scope:=match s with
 |.FunctionDef _ _ _ _ _ _ sc _ _ _=>sc
 |_=>{kind:=.function,names:=[],isGenerator:=false,isCoroutine:=false}
abbrev CX0:CXT:=λ_ _ _ _ _ _=>False
abbrev E0:XK:=λ_ _ _=>False
theorem Aj{X:Cx}:Passes CX0 X E0:=λ_ _ _ _ _ _ _ h=>h.elim
structure Fun(K:Rt)(x qual:Str)(st:Stmt)(f:Addr)(fd:FuncData):Prop where
 ex:∃(oc:Value) (od:Option Addr) (kV doc pm:Value) (an:Option Addr) (cdv ct:Value) (osl:Array (Option Value)),
  fd=PySem.W.fnOf x qual (jj st) (hJ st) (az st) .none kV doc pm an cdv ct/\K.lookup f=some ⟨oc,od,.func fd,osl⟩/\PySem.W.codeIn K cdv qual=true
 kp:PySem.W.keepIn K (.ref f)=true
section
variable{P:Program}{w:World}{K:Rt}{mg:Ru}{base:Heap}
variable{x qual:Str}{st:Stmt}{f:Addr}{fd:FuncData}{ps:List Str}
theorem Fun.ok{N:List Str}{k:Nat}{sp:Sp}(F:Fun K x qual st f fd)(S:aF N ps (az st))(len:∀vs H Q E,sp vs H Q E->vs.length=ps.length)
  (Gd:∀(cdv:Value)(A:Around)(outer:List Env)(s:Shared)(H:Hp)(vs:List V)(Q:VK)(E:XK),fE k (A.deeper (envOfC qual (az st) s.heap.objs.size f cdv))->sp vs H Q E->
   ∃t,PSs (zh CX0 P w K mg base N qual (az st) f cdv A outer s H E).nox (hJ st) t/\t {nx:=λ_ H'=>Q .non H',rt:=Q} (start N vs) H):bw P w K mg base CX0 (k+1) f fd ps sp:=by
 obtain⟨oc,od,kV,doc,pm,an,cdv,ct,osl,rfl,lk,hcd⟩:=F.ex;refine Ls lk hcd S len λA outer s H vs Q E hr hsp=>?_;obtain⟨t,h,q⟩:=Gd cdv A outer s H vs Q E hr hsp;exact⟨t,h.nox,q⟩
theorem Fun.binds(F:Fun K x qual st f fd)
  (h:∀(kV doc pm:Value)(an:Option Addr)(cdv ct:Value)(us:List Value),us.length=ps.length->bindArgs (PySem.W.fnOf x qual (jj st) (hJ st) (az st) .none kV doc pm an cdv ct) ⟨us,[]⟩=pure (ps.zip us)):Binds K fd ps []:=by
 obtain⟨oc,od,kV,doc,pm,an,cdv,ct,osl,rfl,lk,hcd⟩:=F.ex;exact .all (h kV doc pm an cdv ct)
theorem za{oc:Value}{od an:Option Addr}{osl:Array (Option Value)}{kV doc pm cdv ct:Value}(l:K.lookup f=some ⟨oc,od,.func (PySem.W.fnOf x qual (jj st) (hJ st) (az st) .none kV doc pm an cdv ct),osl⟩)
 (c:PySem.W.codeIn K cdv qual=true)(k:PySem.W.keepIn K (.ref f)=true):Fun K x qual st f (PySem.W.fnOf x qual (jj st) (hJ st) (az st) .none kV doc pm an cdv ct):=⟨⟨oc,od,kV,doc,pm,an,cdv,ct,osl,rfl,l,c⟩,k⟩
end
theorem bx{n:Nat}(h:n<=1000):n<sizeLine:=Ql h (by decide)
section
variable{X:Cx}
theorem pv(i:Nat){x:Str}{pos:Pos}(hN:X.N[i]?=some x:=by rfl)(hv:Vis X.env.scope x:=by first|exact Or.inl rfl|exact Or.inr (Or.inl rfl)|exact Or.inr (Or.inr rfl))(hd:(x==("__debug__":Str))=false:=by decide)
 (hcd:(x==("__classdict__":Str))=false:=by decide):PE X (.Name x pos) (wG i):=Jm hN hv hd hcd
end
variable{A B:Prop}
theorem l4(h:B):if false=true then A else B:=by
 rw[Nt NI];exact h
theorem cp(h:A):if true=true then A else B:=by
 rw[Nz rfl];exact h
theorem bD{c:Prop}[Decidable c](h1:c->A)(h2:¬c->B):if c then A else B:=by
 by_cases h:c
 ·rw[Nz h];exact h1 h
 ·rw[Nt h];exact h2 h
theorem mY{c:Prop}[Decidable c](hc:c)(h:B):if(!decide c)=true then A else B:=by
 rw[NA hc];exact l4 h
def aw(H H':Hp):Prop:=∀b o,H b=some o->H' b=some o
theorem aw.refl(H:Hp):aw H H:=λ_ _ h=>h
variable{H:Hp}
theorem aw.trans{H1 H2:Hp}(a:aw H H1)(b:aw H1 H2):aw H H2:=λc o h=>b c o (a c o h)
theorem aw.free{H':Hp}(e:aw H H'){l:Addr}(h:H' l=Option.none):H l=Option.none:=by
 cases q:H l with
 |none=>rfl
 |some o=>
  rw[e l o q]at h;cases h
variable{xs:List V}
theorem aw.seq{K:Rt}{H':Hp}{a:Addr}(e:aw H H')(h:SqL K H a xs):SqL K H' a xs:=by
 rcases h with(h|⟨o,h⟩)|h
 ·exact .inl (.inl (e _ _ h))
 ·exact .inl (.inr ⟨o,e _ _ h⟩)
 ·exact .inr h
section
variable{κ:Type}[DecidableEq κ]
theorem yM:∀{l:List κ}{k:κ},l.Nodup->¬k∈l->(l++[k]).Nodup
 |[],k,_,_=>by simp
 |a::r,k,h,hk=>by
  obtain⟨h1,h2⟩:=PB.mp h;show(a::(r++[k])).Nodup;refine PB.mpr ⟨λm=>?_,yM h2 λm=>hk (ND.mpr (Or.inr m))⟩;rcases Np.mp m with q|q
  ·exact h1 q
  ·exact hk (ND.mpr (Or.inl (Nu.mp q).symm))
end
theorem at_of{z:Int}{j:Nat}{v:V}(e:z=(j:Int))(h:xs[j]?=some v):atI xs z=some v:=by
 rw[e];exact bg h
theorem KY{α:Type}{l:List α}(hN:l.Nodup){i j:Nat}{x:α}(a:l[i]?=some x)(b:l[j]?=some x):i=j:=by
 obtain⟨h1,e1⟩:=Nh.mp a;obtain⟨h2,e2⟩:=Nh.mp b;exact(List.getElem_inj hN).mp (e1.trans e2.symm)
end L2
namespace NK
open PySem PySem.Spec PyProof.Rows
abbrev iP:=Sum Int (List Int)
abbrev bc:=List iP
section
variable(P:Program)(w:World)
inductive fM(h:Heap):iP->Value->Prop
 |int (i:Int) (t:Tok):fM h (.inl i) (.int i t)
 |tup {ks:List Int} {a:Addr}:IsTupleKey (intKind P w) h ks a->fM h (.inr ks) (.ref a)
inductive bS(h:Heap):bc->List Value->Prop
 |nil:bS h [] []
 |cons {k:iP} {v:Value} {ks:bc} {vs:List Value}:fM P w h k v->bS h ks vs->bS h (k::ks) (v::vs)
def fk(h:Heap)(ks:bc)(a:Addr):Prop:=∃o items n,h.get? a=some o/\o.cls=.type "tuple"/\o.data=.seq items n/\bS P w h ks items.toList
def iB:iP->Int
 |.inl i=>(intKind P w).hash i
 |.inr ks=>tupleKeyHash (intKind P w) ks
def xE:iP->Nat
 |.inl _=>1
 |.inr ks=>ks.length+1
def drawsOf:bc->Nat
 |[]=>0
 |k::ks=>xE k+drawsOf ks
theorem iN:∀a b:bc,drawsOf (a++b)=drawsOf a+drawsOf b
 |[],b=>by simp[drawsOf]
 |k::a,b=>by simp only[Pa,drawsOf,iN a b];omega
def vy(ks:bc):Int:=reduceHash (Builtin.Tuple.tupleHashOf (ks.map (iB P w)))
end
section
variable{P:Program}{w:World}
theorem fM.inj{h:Heap}{x y:iP}{v:Value}(hx:fM P w h x v)(hy:fM P w h y v):x=y:=by
 cases hx with
 |int i t=>cases hy;rfl
 |tup q=>cases hy with
  |tup q'=>rw[q.inj q']
theorem bS.inj{h:Heap}:∀{x y:bc}{vs:List Value},bS P w h x vs->bS P w h y vs->x=y
 |_,_,_,.nil,.nil=>rfl
 |_,_,_,.cons a b,.cons c d=>by rw[a.inj c,bS.inj b d]
theorem bS.len{h:Heap}:∀{x:bc}{vs:List Value},bS P w h x vs->x.length=vs.length
 |_,_,.nil=>rfl
 |_,_,.cons _ b=>by simp[bS.len b]
variable{ks:bc}{a:Addr}
theorem fk.type{s:Shared}(x:fk P w s.heap ks a):s.TypeIs (.ref a) "tuple":=let ⟨o,_,_,ho,hc,_⟩:=x;⟨o,ho,hc⟩
theorem fk.inj{h:Heap}{a:Addr}{x y:bc}(hx:fk P w h x a)(hy:fk P w h y a):x=y:=by
 obtain⟨o,items,n,ho,_,hd,hi⟩:=hx;obtain⟨o2,Mw,n2,ho2,_,hd2,hi2⟩:=hy;rw[ho]at ho2;cases ho2;rw[hd]at hd2;cases hd2;exact hi.inj hi2
theorem fM.keeps{h h':Heap}{d:Addr}{o:Obj}{es ep}(ho:h.get? d=some o)(hd:o.data=.dict es ep)(hs:Heap.SameBut d h h'){x:iP}{v:Value}(hx:fM P w h x v):fM P w h' x v:=by
 cases hx with
 |int i t=>exact .int i t
 |tup q=>exact .tup (q.keeps ho hd hs)
theorem bS.keeps{h h':Heap}{d:Addr}{o:Obj}{es ep}(ho:h.get? d=some o)(hd:o.data=.dict es ep)(hs:Heap.SameBut d h h'):∀{x:bc}{vs:List Value},bS P w h x vs->bS P w h' x vs
 |_,_,.nil=>.nil
 |_,_,.cons a b=>.cons (a.keeps ho hd hs) (bS.keeps ho hd hs b)
theorem fk.keeps{h h':Heap}{ks:bc}{a d:Addr}{o:Obj}{es ep}(x:fk P w h ks a)(ho:h.get? d=some o)(hd:o.data=.dict es ep)(hs:Heap.SameBut d h h'):fk P w h' ks a:=by
 obtain⟨o2,items,n,ho2,hc,hd2,hi⟩:=x;have hne:a≠d:=by
  rintro rfl;rw[ho]at ho2;cases ho2;rw[hd]at hd2;cases hd2
 exact⟨o2,items,n,(hs.2 a hne).trans ho2,hc,hd2,hi.keeps ho hd hs⟩
variable{A:Around}{E:Rv}{s:Shared}
variable{v:Value}{Q:Int->Shared->Prop}
theorem Eh{k:iP}(hu:A.units<cLine)(hk:fM P w s.heap k v)(h:Q (iB P w k) {s with toks:=s.toks+xE k}):wpAny (model P w) A (pyHash v) Q E s:=by
 cases hk with
 |int i t=>exact(intKind P w).pyHash (k:=i) (by show Value.isInt i (.int i t)=true;simp[Value.isInt]) h
 |tup q=>exact wpAny_pyHash_tuple hu q h
theorem En(hu:A.units+8<cLine)(hk:fk P w s.heap ks a)(h:Q (vy P w ks) {s with toks:=s.toks+(drawsOf ks+1)}):
  wpAny (model P w) A (pyHash (.ref a)) Q E s:=by
 have hT:=hk.type;have hu0:A.units<cLine:=by omega
 obtain⟨o,items,n,ho,_,hd,hi⟩:=hk;unfold pyHash
 first|unfold pyHashByItsType|skip
 first|refine Ni (wpAny_cRoomFor_or (.inr hu0) ?_)|skip
 refine Ni (Qk hT Qy.lookup ?_);show wpAny _ _ (if(some (Value.builtin "tuple.__hash__")==some Value.none)=true then _ else _) Q E s;rw[Nt (by rw[beq_builtin_none];exact NI)];refine Ni (Qk hT Qy.lookup ?_);show wpAny _ _ (callSpecialIfBoundUnlessNone? (.ref a) "__hash__" _>>=_) Q E s;refine Ni (wpAny_callSpecialIfBoundUnlessNone?_slot hT Qy (Pp Qy hT F.entry_tuple_hash ?_ (F.args_tuple_hash_1 _)));show wpAny _ _ (Builtin.Tuple.tupleItemsOf (.ref a)>>=_) _ _ s;refine Ni (wpAny_tupleItemsOf ho hd ?_);refine Ni ?_;rw[<-Array.forIn_toList];refine QP _
  (λrest (b:Array Int) s2=>∃gone more,ks=gone++more/\bS P w s.heap more rest/\b.toList=gone.map (iB P w)/\s2={s with toks:=s.toks+drawsOf gone})
  _ ?_ ?_ _ _ ⟨[],ks,rfl,hi,rfl,rfl⟩
 ·rintro x rest b s2 ⟨gone,more,e1,hl,hb,e2⟩;subst e2;cases hl with
  |@cons k _ ks2 _ h1 hl2=>
   refine Ni (Eh (s:={s with toks:=s.toks+drawsOf gone}) (k:=k) ?_ h1 ?_)
   ·show A.units+1<cLine;omega
   ·first
     |exact NF ⟨gone++[k],ks2,by rw[e1];simp,hl2,by simp[hb],by simp[iN,drawsOf,Rn]⟩
     |exact Ni (NF (NF ⟨gone++[k],ks2,by rw[e1];simp,hl2,by simp[hb],by simp[iN,drawsOf,Rn]⟩))
 ·rintro b s2 ⟨gone,more,e1,hl,hb,e2⟩;subst e2;cases hl;rw[NX]at e1;subst e1;show wpAny _ _ (retInt (Builtin.Tuple.tupleHashOf b.toList)) _ _ _;rw[hb];refine wpAny_ret_mkInt ?_;show wpAny _ _ (if(decide (-(2:Int)^63<=Builtin.Tuple.tupleHashOf (ks.map (iB P w)))&&decide (Builtin.Tuple.tupleHashOf (ks.map (iB P w))<2^63))=true then _ else _) Q E _;unfold vy reduceHash at h;by_cases hr:(decide (-(2:Int)^63<=Builtin.Tuple.tupleHashOf (ks.map (iB P w)))&&decide (Builtin.Tuple.tupleHashOf (ks.map (iB P w))<2^63))=true
  ·rw[Nz hr];rw[Nz hr]at h;exact NF (by simpa [Rn]using h)
  ·rw[Nt hr];rw[Nt hr]at h;exact Ni (Rk (NF (by simpa [Rn]using h)))
variable{Q:Bool->Shared->Prop}
theorem Hf{x y:iP}{u:Value}(hu:A.units+8<cLine)(hx:fM P w s.heap x u)(hy:fM P w s.heap y v)(h:Q (decide (x=y)) s):wpAny (model P w) A (eqBool u v) Q E s:=by
 cases hx with
 |int i t=>
  cases hy with
  |int j t2=>
   refine wpAny_eqBool_int ?_;have e:(i==j)=decide ((Sum.inl i:iP)=Sum.inl j):=by
    by_cases q:i=j
    ·subst q;simp
    ·rw[NL (λz=>q (Sum.inl.inj z))];exact N'.mpr q
   rw[e];exact h
  |@tup ks a q=>
   obtain⟨o,items,n,ho,hc,hd,_⟩:=q;refine SeqAt.EqAt.int_tuple (A:=A) (s:=s) (items:=items) i t ⟨o,ho,hc,n,hd⟩ (by omega) P w E Q ?_;rw[NL (λz=>nomatch z)]at h;exact h
 |@tup ks a q=>
  cases hy with
  |int j t2=>
   obtain⟨o,items,n,ho,hc,hd,_⟩:=q;refine SeqAt.EqAt.tuple_int (A:=A) (s:=s) (items:=items) j t2 ⟨o,ho,hc,n,hd⟩ (by omega) P w E Q ?_;rw[NL (λz=>nomatch z)]at h;exact h
  |@tup ks2 b q2=>
   refine wpAny_eqBool_tuple (by omega) q q2 ?_;have e:decide (ks=ks2)=decide ((Sum.inr ks:iP)=Sum.inr ks2):=by
    by_cases z:ks=ks2
    ·subst z;simp
    ·rw[NL z,NL (λz2=>z (Sum.inr.inj z2))]
   rw[e];exact h
theorem Em{x y:bc}{b:Addr}{R:Fin->Shared->Prop}(hu:A.units+8<cLine)(hx:fk P w s.heap x a)(hy:fk P w s.heap y b)(h:R (.done (.ret (.bool (decide (x=y))))) s):
  wpAny (model P w) A (Builtin.«tuple.__eq__» ⟨[.ref a,.ref b],[]⟩) R E s:=by
 have hTb:=hy.type;obtain⟨oa,xs,na,hoa,_,hda,hia⟩:=hx;obtain⟨ob,ys,nb,hob,_,hdb,hib⟩:=hy;show wpAny _ _ (isInstance (.ref b) (.type "tuple")>>=_) _ _ s;refine Ni (Qb hTb QH ?_);simp only[Qn,OK,Qa];refine Ni (wpAny_tupleItemsOf hoa hda (Ni (wpAny_tupleItemsOf hob hdb ?_)));refine Ni ?_;refine QP _
  (λrest r s2=>r.1=none/\s2=s/\∃x2 y2 xs2 ys2,rest=List.zip xs2 ys2/\bS P w s.heap x2 xs2/\bS P w s.heap y2 ys2/\decide (x2=y2)=decide (x=y)/\(xs2.length==ys2.length)=(xs.size==ys.size))
  _ ?_ ?_ _ _ ⟨rfl,rfl,x,y,xs.toList,ys.toList,rfl,hia,hib,rfl,by simp⟩
 ·rintro⟨u,v⟩ rest r s2 ⟨hr,rfl,x2,y2,xs2,ys2,hz,hx2,hy2,HN,hlen⟩;cases hx2 with
  |nil=>simp at hz
  |@cons k1 u2 x3 xs3 h1 hx3=>
   cases hy2 with
   |nil=>simp at hz
   |@cons k2 v2 y3 ys3 h2 hy3=>
    simp only[List.zip_cons_cons,List.cons.injEq,Prod.mk.injEq]at hz;obtain⟨⟨rfl,rfl⟩,rfl⟩:=hz;refine Ni (Hf (x:=k1) (y:=k2) hu h1 h2 ?_);by_cases hk:k1=k2
    ·subst hk;rw[NA rfl];simp only[Qn,OK,Qa];refine NF ⟨rfl,rfl,x3,y3,xs3,ys3,rfl,hx3,hy3,?_,by simpa using hlen⟩;rw[<-HN];by_cases hxy:x3=y3
     ·simp[hxy]
     ·simp[hxy]
    ·rw[NL hk];simp only[Bool.not_false,Qj];have hf:decide (x=y)=false:=by rw[<-HN];simp[hk]
     rw[hf]at h;exact Ni (NF (NF (NF h)))
 ·rintro⟨r1,r2⟩ s2 ⟨hr,rfl,x2,y2,xs2,ys2,hz,hx2,hy2,HN,hlen⟩;simp only at hr;subst hr;refine NF ?_;have fin:(xs.size==ys.size)=decide (x=y):=by
   rw[<-HN,<-hlen];cases hx2 with
   |nil=>
    cases hy2 with
    |nil=>simp
    |cons _ _=>simp
   |cons _ _=>
    cases hy2 with
    |nil=>simp
    |cons _ _=>simp at hz
  show R (.done (.ret (.bool (xs.size==ys.size)))) s2;rw[fin];exact h
theorem Hv{x y:bc}{b:Addr}(hu:A.units+16<cLine)(hx:fk P w s.heap x a)(hy:fk P w s.heap y b)(h:Q (decide (x=y)) s):
  wpAny (model P w) A (eqBool (.ref a) (.ref b)) Q E s:=by
 unfold eqBool
 try with_reducible refine Qi ?_
 show wpAny _ _ (if(Value.ref a==Value.ref b)=true then _ else _) Q E s;by_cases hab:(Value.ref a==Value.ref b)=true
 ·rw[Nz hab];have e:a=b:=by have:=eq_of_beq hab;injection this
  subst e;obtain rfl:=hx.inj hy;exact Ni (Rk (NF (by simpa using h)))
 ·rw[Nt hab];refine Ni (wpAny_richCompare_same_room (op:=.Eq) hx.type hy.type Q3
   (Pp Q3 hx.type F.entry_tuple_eq (Em ?_ hx hy ⟨_,rfl,(λe=>nomatch e),OT h⟩) (F.args_tuple_eq_2 _ _)) (by omega))
  show _+8<cLine
  first|(show A.units+8<cLine;omega)|(show A.units+1+8<cLine;omega)|(show A.units+2+8<cLine;omega)
theorem BX{k:iP}{m:Nat}(hk:fM P w s.heap k v)(h:Q true s):wpAny (model P w) A (eqIsQuiet (m+1) v) Q E s:=by
 cases hk with
 |int i t=>rw[eqIsQuiet_byValue _ (by rfl)];exact NF h
 |@tup ks a q=>
  have hT:=q.typeIs;obtain⟨o,items,n,ho,_,hd,hi⟩:=q;unfold eqIsQuiet;refine Ni (Qk hT Q3.lookup ?_);show wpAny _ _ (isInstance (.ref a) (.type "tuple")>>=_) _ _ s;refine Ni (Qb hT QH ?_);simp only[Qn,OK,Qa];refine Ni (Pu ho hd (Ni ?_));show wpAny _ _ (forIn items _ _) _ _ s;rw[<-Array.forIn_toList];refine QP _ (λrest r s2=>r.1=none/\s2=s/\∀v∈rest,carriedByValue v=true) _ ?_ ?_ _ _ ⟨rfl,rfl,hi.byValue⟩
  ·rintro v rest r s2 ⟨hr,rfl,oJ⟩;rw[eqIsQuiet_byValue _ (oJ v NB)];refine Ni (NF ?_);simp only[Qn,OK,Qa];exact NF ⟨rfl,rfl,λu hu2=>oJ u (Nn _ hu2)⟩
  ·rintro⟨r1,r2⟩ s2 ⟨hr,rfl,_⟩;simp only at hr;subst hr;exact NF h
theorem BY(hk:fk P w s.heap ks a)(h:Q true s):wpAny (model P w) A (eqIsQuiet 8 (.ref a)) Q E s:=by
 have hT:=hk.type;obtain⟨o,items,n,ho,_,hd,hi⟩:=hk;unfold eqIsQuiet;refine Ni (Qk hT Q3.lookup ?_);show wpAny _ _ (isInstance (.ref a) (.type "tuple")>>=_) _ _ s;refine Ni (Qb hT QH ?_);simp only[Qn,OK,Qa];refine Ni (Pu ho hd (Ni ?_));show wpAny _ _ (forIn items _ _) _ _ s;rw[<-Array.forIn_toList];refine QP _ (λrest r s2=>r.1=none/\s2=s/\∃more,bS P w s.heap more rest) _ ?_ ?_ _ _ ⟨rfl,rfl,ks,hi⟩
 ·rintro v rest r s2 ⟨hr,rfl,more,hm⟩;cases hm with
  |@cons k _ K1 _ h1 h2=>
   refine Ni (BX (m:=6) h1 ?_);simp only[Qn,OK,Qa];exact NF ⟨rfl,rfl,K1,h2⟩
 ·rintro⟨r1,r2⟩ s2 ⟨hr,rfl,_⟩;simp only at hr;subst hr;exact NF h
end
def cO(P:Program)(w:World):HeapKind P w bc where
 is:=fk P w
 hash:=vy P w
 draws:=λks=>drawsOf ks+1
 room:=λA=>A.units+16<cLine
 inj:=λhx hy=>hx.inj hy
 keeps:=λx ho hd hs=>x.keeps ho hd hs
 pyHash:=λhu hk h=>En (by omega) hk h
 eqBool:=λhu hx hy h=>Hv hu hx hy h
 quiet:=λhk h=>BY hk h
end NK
namespace L2
open PySem PySem.Spec PyProof.Rows NK
def NIt(H:Hp):iP->V->Prop
 |.inl i,v=>v=.int i
 |.inr ks,v=>∃c,v=.ref c/\H c=some (.tup (ks.map V.int))
def cF(H:Hp)(k:bc)(b:Addr):Prop:=∃vs,H b=some (.tup vs)/\Paired (NIt H) k vs
abbrev KN(H:Hp):List (bc×V)->List (bc×Addr×Value)->Prop:=Paired λp q=>p.1=q.1/\cF H p.1 q.2.1/\RelV p.2 q.2.2
def dnP(P:Program)(w:World)(a:Addr)(xs:List (bc×Addr×Value)):Heap->Prop:=λh=>∃o es ep,h.get? a=some o/\o.ExactDict/\o.data=.dict es ep/\es.toList=xs.map (entryOfKey (cO P w))
structure DNx(P:Program)(w:World)(H:Hp)(a:Addr)(kvs:List (bc×V))(xs:List (bc×Addr×Value)):Prop where
 kn:KN H kvs xs
 nd:(xs.map (·.1)).Nodup
 len:kvs.length<=sizeLine
 sys:(a==sysModules)=false
def DN(P:Program)(w:World)(H:Hp)(a:Addr)(kvs:List (bc×V)):Prop:=∃xs,H a=some (.ext (dnP P w a xs))/\DNx P w H a kvs xs
def DF(P:Program)(w:World)(H:Hp)(a:Addr)(kvs:List (bc×V)):Prop:=∃o xs,H a=some (.frz o (.ext (dnP P w a xs)))/\DNx P w H a kvs xs
theorem aw.tup{H H':Hp}(e:aw H H'):∀b ys,H b=some (.tup ys)->H' b=some (.tup ys):=λb ys h=>e b _ h
section
variable{H H':Hp}(ht:∀b ys,H b=some (.tup ys)->H' b=some (.tup ys))
include ht
theorem NIt.keeps{k:iP}{v:V}(h:NIt H k v):NIt H' k v:=by
 cases k with
 |inl i=>exact h
 |inr ks=>obtain⟨c,e,q⟩:=h;exact⟨c,e,ht _ _ q⟩
theorem cF.keeps{k:bc}{b:Addr}(h:cF H k b):cF H' k b:=by
 obtain⟨vs,e,r⟩:=h;exact⟨vs,ht _ _ e,Paired.qS r λ_ _ q=>NIt.keeps ht q⟩
theorem KN.keeps{kvs:List (bc×V)}{xs:List (bc×Addr×Value)}(r:KN H kvs xs):KN H' kvs xs:=Paired.qS r λ_ _ z=>⟨z.1,cF.keeps ht z.2.1,z.2.2⟩
theorem DNx.keeps{P:Program}{w:World}{a:Addr}{kvs:List (bc×V)}{xs:List (bc×Addr×Value)}(d:DNx P w H a kvs xs):DNx P w H' a kvs xs:=⟨KN.keeps ht d.kn,d.nd,d.len,d.sys⟩
end
theorem DN.keeps{P:Program}{w:World}{H H':Hp}{a:Addr}{kvs:List (bc×V)}(ht:∀b ys,H b=some (.tup ys)->H' b=some (.tup ys))(ha:H' a=H a)(d:DN P w H a kvs):DN P w H' a kvs:=by
 obtain⟨xs,e,q⟩:=d;exact⟨xs,by rw[ha];exact e,q.keeps ht⟩
variable{H':Hp}{kvs:List (bc×V)}
theorem DN.same{P:Program}{w:World}{H:Hp}{a:Addr}(e:aw H H')(d:DN P w H a kvs):DN P w H' a kvs:=by
 obtain⟨xs,h,q⟩:=d;exact⟨xs,e _ _ h,q.keeps e.tup⟩
section
variable{P:Program}{w:World}{H:Hp}{h:Heap}{a:Addr}
theorem A0:∀{ks:List Int}{us:List Value},Vals (ks.map V.int) us->ItemsAre (intKind P w) ks us
 |[],_,r=>by rw[List.map_nil]at r;cases r;exact .nil
 |k::ks,_,r=>by
  rw[N6]at r;cases r with
  |cons q t=>
   obtain⟨tk,rfl⟩:=q;exact .cons (by show Value.isInt k (.int k tk)=true;simp[Value.isInt]) (A0 t)
variable{u:Value}
theorem part_of(ok:HOk P w H h){k:iP}{v:V}(hk:NIt H k v)(r:RelV v u):fM P w h k u:=by
 cases k with
 |inl i=>
  cases(show v=V.int i from hk);obtain⟨t,rfl⟩:=r;exact .int i t
 |inr ks=>
  obtain⟨c,rfl,e⟩:=hk;cases r;obtain⟨_,its,rv,o,h1,h2,n,h3⟩:=(show cV P w H h c (.tup (ks.map V.int))from ok c _ e);exact .tup ⟨o,its.toArray,n,h1,h2,h3,by simpa using A0 rv⟩
theorem Ak(ok:HOk P w H h):∀{k:bc}{vs:List V}{us:List Value},Paired (NIt H) k vs->Vals vs us->bS P w h k us
 |_,_,_,.nil,.nil=>.nil
 |_,_,_,.cons q t,.cons r t2=>.cons (part_of ok q r) (Ak ok t t2)
theorem oh{k:bc}{b:Addr}(ok:HOk P w H h)(hk:cF H k b):(cO P w).is h k b:=by
 obtain⟨vs,e,r⟩:=hk;obtain⟨_,its,rv,o,h1,h2,n,h3⟩:=(show cV P w H h b (.tup vs)from ok b _ e);exact⟨o,its.toArray,n,h1,h2,h3,by simpa using Ak ok r rv⟩
theorem IG(ok:HOk P w H h):∀{kvs:List (bc×V)}{xs:List (bc×Addr×Value)},KN H kvs xs->∀x∈xs,(cO P w).is h x.1 x.2.1
 |_,_,.nil,x,hx=>nomatch hx
 |_,_,.cons q t,x,hx=>by
  rcases ND.mp hx with e|hx
  ·subst e;rw[<-q.1];exact oh ok q.2.1
  ·exact IG ok t x hx
variable{xs:List (bc×Addr×Value)}
theorem HY(ok:HOk P w H h)(d:DNx P w H a kvs xs)(q:dnP P w a xs h):h.DictOfH (cO P w) a xs:=by
 obtain⟨o,es,ep,h1,h2,h3,h4⟩:=q;exact⟨o,es,ep,h1,h2,h3,h4,IG ok d.kn,d.nd⟩
theorem J2(ok:HOk P w H h)(e:H a=some (.ext (dnP P w a xs))):dnP P w a xs h:=(show cV P w H h a (.ext (dnP P w a xs))from ok a _ e).1
theorem Gq(q:dnP P w a xs h):cV P w H' h a (.ext (dnP P w a xs)):=by
 refine⟨q,?_,λh1 h2 p k=>?_⟩
 ·obtain⟨o,_,_,e,_⟩:=q;exact⟨o,e⟩
 ·obtain⟨o,es,ep,e,r⟩:=p;exact⟨o,es,ep,k o e,r⟩
theorem KN.val(r:KN H kvs xs)(k:bc):rC (da kvs k) ((atKey xs k).map (·.2)):=by
 induction r with
 |nil=>exact True.intro
 |@cons p q ps qs h t ih=>
  obtain⟨h1,_,h2⟩:=h;by_cases e:p.1=k
  ·have e':q.1=k:=h1.symm.trans e;have b:atKey (q::qs) k=some q.2:=by simp[atKey,OD,e']
   rw[eL e,b];exact h2
  ·have e':¬q.1=k:=λz=>e (h1.trans z);have b:atKey (q::qs) k=atKey qs k:=by simp[atKey,OD,e']
   rw[eM e,b];exact ih
theorem KN.L1(r:KN H kvs xs)(k:bc){y:V}(ry:RelV y u):KN H (kvs.map λkv=>if kv.1=k then(kv.1,y)else kv) (xs.map (putAt k u)):=by
 induction r with
 |nil=>exact .nil
 |@cons p q ps qs h t ih=>
  rw[N6,N6];refine .cons ?_ ih;obtain⟨h1,h2,h3⟩:=h;unfold putAt;by_cases e:p.1=k
  ·rw[Nz e,Nz (h1.symm.trans e)];exact⟨h1,h2,ry⟩
  ·rw[Nt e,Nt (λz=>e (h1.trans z))];exact⟨h1,h2,h3⟩
theorem KN.put(r:KN H kvs xs)(k:bc){b:Addr}{y:V}(hb:cF H k b)(ry:RelV y u):KN H (putK kvs k y) (storedH xs k b u):=by
 have e:(kvs.any λkv=>decide (kv.1=k))=(atKey xs k).isSome:=by
  rw[ib,(r.val k).xO,Rl]
 unfold putK storedH;rw[e];by_cases q:(atKey xs k).isSome=true
 ·rw[Nz q,Nz q];exact r.L1 k ry
 ·rw[Nt q,Nt q];exact Qg r ⟨rfl,hb,ry⟩
end
section
variable{prog:Program}{w:World}{K:Type}[DecidableEq K]{knd:HeapKind prog w K}{A:Around}{E:Rv}{s:Shared}
theorem G6{d a:Addr}{xs:List (K×Addr×Value)}{k:K}{v:Value}{Q:Rv}(hu:knd.room A)(yY:knd.is s.heap k a)(hm:s.heap.DictOfH knd d xs)(hz:xs.length<=sizeLine)
  (h1:∀p,atKey xs k=some p->Q p.2 {s with toks:=s.toks+knd.draws k})
  (h2:atKey xs k=none->∀h',h'.DictOfH knd d (xs++[(k,a,v)])->Heap.SameBut d s.heap h'->Q v {s with heap:=h',toks:=s.toks+knd.draws k}):wpAny (model prog w) A (dictSetDefault d (.ref a) v) Q E s:=by
 obtain⟨o,es,ep,ho,hc,hd,he,his,hn⟩:=hm;unfold dictSetDefault
 try with_reducible refine Qi ?_
 refine Ni (knd.pyHash hu yY (Ni (wpAny_dictFind_heap (s:={s with toks:=s.toks+knd.draws k}) hu yY ho hd he his hn ?_ ?_)))
 ·intro hno;have MG:k∉xs.map (·.1):=not_mem_keys_of_get hno;refine Ni (Rk (Ni (wpAny_updateDictKeys (hz:=by have e:=Q4 he;omega) (s:={s with toks:=s.toks+knd.draws k}) ho hd (NF (h2 (atKey_none_of_get hno) _ ⟨_,_,ep+1,QF _ ho (Obj.isFreed_of_dict (Obj.data_mapDictKeys hd _)),hc.mapDictKeys _,Obj.data_mapDictKeys hd _,?_,?_,?_⟩ (PJ ..))))))
  ·simp[he,entryOfKey]
  ·intro x hx;rcases Np.mp hx with hx|hx
   ·exact knd.keeps (his x hx) ho hd (PJ ..)
   ·simp only[Nu]at hx;subst hx;exact knd.keeps yY ho hd (PJ ..)
  ·rw[NS,List.nodup_append];refine⟨hn,by simp,?_⟩;intro x hx y hy;simp only[N6,List.map_nil,Nu]at hy;subst hy;exact λe=>MG (e▸hx)
 ·intro j p hj;refine Ni (Qz (s:={s with toks:=s.toks+knd.draws k}) ho hd ?_);rw[entry_at he j,hj];exact Ni (Rk (NF (h1 p (atKey_of_get hn hj))))
theorem Fo(knd:HeapKind prog w K)(d a:Addr)(hd:(d==sysModules)=false)(v:Value):
  MeetsIn prog w (Builtin.«dict.setdefault» ⟨[.ref d,.ref a,v],[]⟩) (λA R s=>knd.room A.in1/\∃k xs,knd.is s.heap k a/\s.heap.DictOfH knd d xs/\xs.length<=sizeLine/\
   (∀p,atKey xs k=some p->R (.ok (.ret p.2)) {s with toks:=s.toks+knd.draws k})/\
   (atKey xs k=none->∀h',h'.DictOfH knd d (xs++[(k,a,v)])->Heap.SameBut d s.heap h'->R (.ok (.ret v)) {s with heap:=h',toks:=s.toks+knd.draws k})):=
 .of_wp λA R s ⟨hu,k,xs,yY,hm,hz,h1,h2⟩=>by
  unfold Builtin.«dict.setdefault»;refine Ni ?_;unfold Builtin.Dict.keyAndDefault;refine Ni (wpAny_notOrdered_dict hm.typeIs ?_);show wpAny _ _ (pure (d,Value.ref a,some v)) _ _ s;refine NF ?_;show wpAny _ _ (if(d==sysModules)=true then _ else(dictSetDefault d (.ref a) v>>=_)) _ _ s;rw[Nt (by rw[hd];exact NI)];exact Ni (G6 hu yY hm hz (λp hp=>NF ⟨p.2,rfl,h1 p hp⟩) λhn h' hm' hs'=>NF ⟨v,rfl,h2 hn h' hm' hs'⟩)
end
section
variable{X:Cx}{pins:List (Addr×Obj)}{σ:St}{H:Hp}{s:Shared}{a b:Addr}{A:Around}{E:Rv}{kvs:List (bc×V)}{k:bc}{v:V}{r:Value}
variable{xs:List (bc×Addr×Value)}
theorem Inv.dn(I:Inv X pins σ H s)(e:H a=some (.ext (dnP X.prog X.w a xs)))(d:DNx X.prog X.w H a kvs xs):s.heap.DictOfH (cO X.prog X.w) a xs:=HY I.hok d (J2 I.hok e)
variable{Q:Rv}
theorem Ep(hu:A.units+40<cLine)(I:Inv X pins σ H s)(d:DN X.prog X.w H a kvs)(hk:cF H k b)(l:da kvs k=some v)(h:∀w' s',Inv X pins σ H s'->RelV v w'->Q w' s'):
  wpAny (model X.prog X.w) A (getItem (.ref a) (.ref b)) Q E s:=by
 obtain⟨xs,e,q⟩:=d;obtain⟨w',hw,rw'⟩:=rC.some_of (v:=v) (o:=(atKey xs k).map (·.2)) (by rw[<-l];exact q.kn.val k);obtain⟨p,hp,hp2⟩:=Pj.mp hw;refine wpAny_getItem_heap (knd:=cO X.prog X.w) (show A.units+1+16<cLine by omega) (oh I.hok hk) (I.dn e q) hp ?_;rw[hp2];exact h w' _ (I.tok _) rw'
theorem Hw(hu:A.units+40<cLine)(I:Inv X pins σ H s)(d:DN X.prog X.w H a kvs)(hk:cF H k b)(h:∀s',Inv X pins σ H s'->Q (.bool (!(da kvs k).isSome)) s'):
  wpAny (model X.prog X.w) A (compareOp .NotIn (.ref b) (.ref a)) Q E s:=by
 obtain⟨xs,e,q⟩:=d;refine wpAny_notIn_heap (knd:=cO X.prog X.w) (show A.units+1+16<cLine by omega) (oh I.hok hk) q.sys (I.dn e q) ?_;have z:=(q.kn.val k).xO;rw[Rl]at z;rw[<-z];exact h _ (I.tok _)
theorem FN{h':Heap}{t':Nat}(I:Inv X pins σ H s)(e:∃o,H a=some (.ext o))(hs:Heap.SameBut a s.heap h')(dd:h'.DictOfH (cO X.prog X.w) a xs):Inv X pins σ (upd H a (.ext (dnP X.prog X.w a xs))) {s with heap:=h',toks:=t'}:=by
 obtain⟨o2,e⟩:=e;obtain⟨q,es,ep,hq,h2,h3,h4,_,_⟩:=dd;exact Ic I (by rw[e];exact True.intro) hs ⟨q,hq⟩ (Gq ⟨q,es,ep,hq,h2,h3,h4⟩)
theorem kQ{o:HO}{u:HO}(e:H a=some u)(hn:∀ys,u≠.tup ys):∀c ys,H c=some (.tup ys)->upd H a o c=some (.tup ys):=λc ys ec=>by
 rw[aB (bJ ec e (λz=>hn ys z.symm))];exact ec
theorem pX{u:Value}(hn:(xs.map (·.1)).Nodup):((storedH xs k b u).map (·.1)).Nodup:=by
 unfold storedH;split
 ·rw[keys_map_putAt];exact hn
 ·rename_i q
  rw[NS];refine yM hn λm=>q ?_;obtain⟨x,hx,ex⟩:=NZ.mp m;unfold atKey;rw[Rl,List.find?_isSome];exact⟨x,hx,NA ex⟩
theorem Eo{Q:Unit->Shared->Prop}(hu:A.units+40<cLine)(I:Inv X pins σ H s)(d:DN X.prog X.w H a kvs)(hk:cF H k b)(hl:kvs.length<sizeLine)(rv:RelV v r)
  (h:∀o s',DN X.prog X.w (upd H a o) a (putK kvs k v)->Inv X pins σ (upd H a o) s'->Q () s'):wpAny (model X.prog X.w) A (setItem (.ref a) (.ref b) r) Q E s:=by
 obtain⟨xs,e,q⟩:=d;have hz:xs.length<=sizeLine:=by rw[<-Oa q.kn];exact q.len
 refine wpAny_setItem_heap (hsz:=hz) (knd:=cO X.prog X.w) (show A.units+1+16<cLine by omega) (oh I.hok hk) (I.dn e q) λh' dd' hs=>?_;refine h _ _ ⟨_,af,?_⟩ (FN I ⟨_,e⟩ hs dd');refine⟨KN.keeps (kQ e (by intro ys z;cases z)) (q.kn.put k hk rv),pX q.nd,?_,q.sys⟩;have:=AU kvs k v;omega
theorem yN(hu:A.units+40<cLine)(I:Inv X pins σ H s)(d:DN X.prog X.w H a kvs)(hk:cF H k b)(hl:kvs.length<sizeLine)(rv:RelV v r)
  (h1:∀v0 w' s',da kvs k=some v0->RelV v0 w'->Inv X pins σ H s'->Q w' s')
  (h2:da kvs k=none->∀o s',DN X.prog X.w (upd H a o) a (kvs++[(k,v)])->Inv X pins σ (upd H a o) s'->Q r s'):wpAny (model X.prog X.w) A (call (.builtin "dict.setdefault") [.ref a,.ref b,r]) Q E s:=by
 obtain⟨xs,e,q⟩:=d;have hz:xs.length<=sizeLine:=by rw[<-Oa q.kn];exact q.len
 have dd:=I.dn e q;have yY:=oh I.hok hk;have rel:=q.kn.val k;have hT:=dd.typeIs;refine call_meetsIn PySem.F.slot_dict_setdefault hT PySem.F.entry_dict_setdefault (PySem.F.args_dict_setdefault_3 _ _ _) (Fo (cO X.prog X.w) a b q.sys r) ⟨(show A.units+1+16<cLine by omega),k,xs,yY,dd,hz,λp hp=>?_,λhn h' dd' hs=>?_⟩
 ·have r2:=rel;rw[hp]at r2;cases e0:da kvs k with
  |none=>rw[e0]at r2;exact(show False from r2).elim
  |some v0=>
   rw[e0]at r2;exact h1 v0 p.2 _ e0 r2 (I.tok _)
 ·have r2:=rel;rw[hn]at r2;have e0:da kvs k=none:=by
   cases e0:da kvs k with
   |none=>rfl
   |some v0=>rw[e0]at r2;exact(show False from r2).elim
  refine h2 e0 _ _ ⟨_,af,?_⟩ (FN I ⟨_,e⟩ hs dd');refine⟨KN.keeps (kQ e (by intro ys z;cases z)) (Qg q.kn ⟨rfl,hk,rv⟩),?_,?_,q.sys⟩
  ·have z:=pX (k:=k) (b:=b) (u:=r) q.nd;rw[storedH_new hn]at z;exact z
  ·rw[Nk,Ny];omega
end
section
variable{X:Cx}{o i e f value:Expr}{td ty tv tx:TE}{pos pos' apos jZ:Pos}
def Kw(P:Program)(w:World)(td ty:TE):TE:=λσ H Q=>td σ H λx H1=>ty σ H1 λy H2=>∃a b kvs k v,x=.ref a/\y=.ref b/\DN P w H2 a kvs/\cF H2 k b/\da kvs k=some v/\Q v H2
def Ku(P:Program)(w:World)(ty td:TE):TE:=λσ H Q=>ty σ H λy H1=>td σ H1 λx H2=>∃a b kvs k,x=.ref a/\y=.ref b/\DN P w H2 a kvs/\cF H2 k b/\Q (.bl (!(da kvs k).isSome)) H2
def KA(P:Program)(w:World)(td ty tv:TE):TS:=λD σ H=>tv σ H λv H1=>td σ H1 λx H2=>ty σ H2 λy H3=>∃a b kvs k,x=.ref a/\y=.ref b/\DN P w H3 a kvs/\cF H3 k b/\kvs.length<sizeLine/\
 ∀ob,DN P w (upd H3 a ob) a (putK kvs k v)->D.nx σ (upd H3 a ob)
def IZ(P:Program)(w:World)(td ty tx:TE):TE:=λσ H Q=>td σ H λx H1=>∃a K5,x=.ref a/\DN P w H1 a K5/\ty σ H1 λy H2=>tx σ H2 λv H3=>∃b kvs k,y=.ref b/\DN P w H3 a kvs/\cF H3 k b/\kvs.length<sizeLine/\
 (∀v0,da kvs k=some v0->Q v0 H3)/\(da kvs k=none->∀ob,DN P w (upd H3 a ob) a (kvs++[(k,v)])->Q v (upd H3 a ob))
variable{pins:List (Addr×Obj)}{σ:St}{H:Hp}{s:Shared}{a:Addr}
theorem DN.dict(I:Inv X pins σ H s)(d:DN X.prog X.w H a kvs):∃xs,s.heap.DictOfH (cO X.prog X.w) a xs:=by
 obtain⟨xs,q,r⟩:=d;exact⟨xs,I.dn q r⟩
theorem DN.noDict(I:Inv X pins σ H s)(d:DN X.prog X.w H a kvs):∀b,Value.ref a=.ref b->∃ob,s.heap.get? b=some ob/\ob.dict=none:=λb q=>by
 obtain⟨xs,oo,es,ep,h1,h2,_⟩:=d.dict I;cases q;exact⟨oo,h1,h2.2.1⟩
theorem De(hu:X.A.units+40<cLine)(ho:PE X o td)(hi:PE X i ty)(hs:LI i):PE X (.Subscript o i pos) (Kw X.prog X.w td ty):=by
 intro pins s σ H Q I h;refine G3 (T:="dict") (id:="dict.__getitem__") PySem.F.slot_dict_getitem.lookup hs (thn (ho pins s σ H _ I h) λu s1 ⟨x,H1,I1,rx,q1⟩=>thn (hi pins s1 σ H1 _ I1 q1) λiv s2 ⟨y,H2,I2,ry,q2⟩=>?_);obtain⟨a,b,kvs,k,v,rfl,rfl,d,hk,l,q⟩:=q2;cases rx;cases ry;obtain⟨xs,dd⟩:=d.dict I2;exact⟨dd.typeIs,Ep hu I2 d hk l λw' s3 I3 rw'=>⟨v,H2,I3,rw',q⟩⟩
theorem yw(hu:X.A.units+40<cLine)(hi:PE X i ty)(ho:PE X o td):PC X .NotIn i o (Ku X.prog X.w ty td):=by
 intro pins s σ H Q I h;refine thn (hi pins s σ H _ I h) λiv s1 ⟨y,H1,I1,ry,q1⟩=>thn (ho pins s1 σ H1 _ I1 q1) λu s2 ⟨x,H2,I2,rx,q2⟩=>?_;obtain⟨a,b,kvs,k,rfl,rfl,d,hk,q⟩:=q2;cases rx;cases ry;exact Hw hu I2 d hk λs3 I3=>⟨.bl _,H2,I3,rfl,q⟩
theorem um(hu:X.A.units+40<cLine)(ho:PE X o td)(hi:PE X i ty)(hv:PE X value tv)(hs:swapsWith value (some (.Subscript o i pos')) pos.line X.env=pure false):PS X (.Assign [.Subscript o i pos'] value pos) (KA X.prog X.w td ty tv):=by
 intro pins s σ H D I h;refine wpAny_Assign_Subscript (thn (hv pins s σ H _ I h) λr s1 ⟨v,H1,I1,rv,q1⟩=>thn (ho pins s1 σ H1 _ I1 q1) λu s2 ⟨x,H2,I2,rx,q2⟩=>thn (hi pins s2 σ H2 _ I2 q2) λiv s3 ⟨y,H3,I3,ry,a,b,kvs,k,ex,ey,d,hk,hl,q3⟩=>?_) hs;subst ex ey;cases rx;cases ry;exact Eo hu I3 d hk hl rv λob s4 d4 I4=>⟨σ,_,I4,q3 ob d4⟩
theorem Ai(hu:X.A.units+40<cLine)(ho:PE X o td)(he:PE X e ty)(hf:PE X f tx)(m:M2 X o "setdefault" apos e f jZ):PE X (.Call (.Attribute o "setdefault" apos) [e,f] [] jZ) (IZ X.prog X.w td ty tx):=by
 intro pins s σ H Q I h;refine wpAny_Call_method m.base m.few m.line PySem.F.plainAttrs_dict PySem.F.slot_dict_setdefault PySem.F.type_dict_setdefault (thn (ho pins s σ H _ I h) λu s1 ⟨x,H1,I1,rx,a,K5,ex,d0,q1⟩=>?_);subst ex;cases rx;obtain⟨xs,dd⟩:=d0.dict I1;refine⟨dd.typeIs,d0.noDict I1,?_⟩;rw[m.trees];refine Qr rfl (Calls.evalArgs_plain (Calls.spliced_cons (thn (he pins s1 σ H1 _ I1 q1) λiv s2 ⟨y,H2,I2,ry,q2⟩=>
  Calls.spliced_cons (thn (hf pins s2 σ H2 _ I2 q2) λfv s3 ⟨z,H3,I3,rz,b,kvs,k,ey,d,hk,hl,q3,q4⟩=>Calls.spliced_nil ?_))))
 subst ey;cases ry;exact yN hu I3 d hk hl rz (λv0 w' s4 l0 r0 I4=>⟨v0,H3,I4,r0,q3 v0 l0⟩) λl0 ob s4 d4 I4=>⟨z,_,I4,rz,q4 l0 ob d4⟩
def Kv(P:Program)(w:World):TE:=λ_ H Q=>∀p,H p=none->DN P w (upd H p (.ext (dnP P w p []))) p []->Q (.ref p) (upd H p (.ext (dnP P w p [])))
variable{P:Program}{w:World}
theorem Bj(h:Heap):dnP P w h.objs.size [] (h.push {cls:=.type "dict",data:=.dict #[]}):=⟨_,#[],0,NP _ rfl,⟨rfl,rfl,rfl⟩,rfl,rfl⟩
theorem Bi(hb:(a==sysModules)=false):DN P w (upd H a (.ext (dnP P w a []))) a []:=⟨[],af,⟨.nil,List.nodup_nil,NT _,hb⟩⟩
theorem Ff{h:Heap}(hb:sysModules<h.objs.size):(h.objs.size==sysModules)=false:=N'.mpr (O0 hb)
theorem n8:PE X (.Dict [] [] pos) (Kv X.prog X.w):=λpins s σ H Q I h=>
 wpAny_Dict_empty ⟨.ref s.heap.objs.size,_,I.laid (a:=s.heap.objs.size) (o:=.ext (dnP X.prog X.w s.heap.objs.size [])) (t':=s.toks) (λ_ _ q=>Nl _ q) (Nq _) (Gq (Bj s.heap)),rfl,h _ (I.hok.fresh (Nq _)) (Bi (Ff I.big))⟩
def LU(t:TE):TE:=λσ H Q=>t σ H λv H'=>∃d u,H' d=some u/\Mut (some u)/\∀od,Q v (upd H' d (.frz od u))
theorem du(h:PE X e td):PE X e (LU td):=λpins s σ H Q I hw=>thn (h pins s σ H _ I hw) λv s1 ⟨x,H1,I1,r1,d,u,hd,mu,q⟩=>by
 obtain⟨od,I2⟩:=I1.lock hd mu;exact⟨x,_,I2,r1,q od⟩
section
variable{prog:Program}{w:World}{A:Around}{E:Rv}{s:Shared}
variable{it d:Addr}{n ep:Nat}{od:Obj}{es:Array DictEntry}{ov:Value}{Q:Option Value->Shared->Prop}
theorem Hu{i:Nat}{en:DictEntry}{ok:Value}(hit:IsItemIter s.heap it d i n ep ok ov)(hod:s.heap.get? d=some od)(hdd:od.data=.dict es ep)(hsz:es.size=n)(hx:es[i]?=some en)
  (hQ:∀h',IsItemIterOut h' it d (i+1) n ep en.key en.val s.heap.objs.size->h'.get? s.heap.objs.size=some {cls:=.type "tuple",data:=.seq #[en.key,en.val]}->h'.objs.size=s.heap.objs.size+1->
   (∀b o,b≠it->s.heap.get? b=some o->h'.get? b=some o)->Q (some (.ref s.heap.objs.size)) {s with heap:=h'}):wpAny (model prog w) A (pyNext (.ref it)) Q E s:=by
 obtain⟨hp,g,dr,tk,os⟩:=s;have hT:Shared.TypeIs ⟨hp,g,dr,tk,os⟩ (.ref it) "dict_itemiterator":=⟨_,hit,rfl⟩;unfold pyNext;refine Ni (wpAny_attempt (PK (name:=Str.ofString "__next__") hT OR
  (Pp OR hT F.entry_dict_itemiterator_next ?_ (F.args_dict_itemiterator_next_1 _))))
 refine Ni (NF ?_);refine Ni ?_;refine Ni ?_
 first|refine Ni (O5 hT (NF ?_))|refine Ni (Pw hT (NF ?_))
 refine Ni (wpAny_fieldsOf hit rfl ?_);have F':Builtin.Dict_items.ownsTuple "dict_itemiterator"=true:=by decide
 simp only[F',Qj];show wpAny _ _ (if(Value.ref d==Value.none)=true then _ else _) _ _ _;rw[Nt (show ¬((Value.ref d==Value.none)=true)from NI)];refine Ni (NF ?_);refine Ni (Qz hod hdd ?_);rw[Nt (by rw[hsz];simp)];refine Ni (NF ?_);refine Ni (wpAny_dictEpoch hod hdd ?_);rw[Nt (by simp)];refine NF ?_;simp only[show ¬((i:Int)<0)from by omega,Qa,Nw,hx];refine Ni ?_
 first|refine Ni (O5 hT (NF ?_))|refine Ni (Pw hT (NF ?_))
 refine Ni (Qs hT ?_);show wpAny _ _ (setField (.ref it) 3 (rawInt ((i:Int)+1))>>=_) _ _ ⟨hp,g,dr,tk,os⟩;refine Ni (OC hit (by simp) λh1 he1 hs1=>?_);replace hs1:Heap.SameBut it hp h1:=hs1;replace he1:IsItemIter h1 it d (i+1) n ep ok ov:=by
  have e:((i+1:Nat):Int)=(i:Int)+1:=by omega
  unfold IsItemIter;rw[e];simpa [rawInt]using he1
 have hT1:Shared.TypeIs ⟨h1,g,dr,tk,os⟩ (.ref it) "dict_itemiterator":=⟨_,he1,rfl⟩;refine Ni (Qi ?_);refine Ni (Qs hT1 ?_);refine Ni (Qs hT1 ?_);show wpAny _ _ (Builtin.Dict_items.pairFromOwner (.ref it) 6 en.key en.val) _ _ ⟨h1,g,dr,tk,os⟩;unfold Builtin.Dict_items.pairFromOwner;refine Ni (wpAny_newTuple ?_);have he2:IsItemIter (h1.push {cls:=.type "tuple",data:=.seq #[en.key,en.val]}) it d (i+1) n ep ok ov:=Nl _ he1;generalize hh2:h1.push {cls:=.type "tuple",data:=.seq #[en.key,en.val]}=h2 at he2;have hz1:h1.objs.size=hp.objs.size:=hs1.1;have hil:it<hp.objs.size:=NQ hit;have ht2:h2.get? hp.objs.size=some {cls:=.type "tuple",data:=.seq #[en.key,en.val]}:=by rw[<-hh2,<-hz1];exact NP _ rfl
 have hz2:h2.objs.size=hp.objs.size+1:=by rw[<-hh2,Ob,hz1]
 have hk2:∀b o,b≠it->hp.get? b=some o->h2.get? b=some o:=λb o hb e=>by rw[<-hh2];exact Nl _ (hs1.extBut b o hb e)
 show wpAny _ _ (Builtin.Dict_items.ownedTupleIsFree (.ref it)>>=_) _ _ ⟨h2,g,dr,tk,os⟩;rw[hz1];clear hh2 he1 hs1 hT1 hz1 h1;refine Ni ?_;unfold Builtin.Dict_items.ownedTupleIsFree;refine Ni (Ph he2 rfl (x:=.none) rfl (NF ?_));simp only[Qj];refine Ni (Ph he2 rfl (x:=ok) rfl ?_);refine Ni (Ph he2 rfl (x:=ov) rfl ?_);refine Ni (OC he2 (by simp) λh3 he3 hs3=>?_);replace hs3:Heap.SameBut it h2 h3:=hs3;replace he3:IsItemIter h3 it d (i+1) n ep en.key ov:=he3;refine Ni (OC he3 (by simp) λh4 he4 hs4=>?_);replace hs4:Heap.SameBut it h3 h4:=hs4;replace he4:IsItemIter h4 it d (i+1) n ep en.key en.val:=he4;refine Ni (OC he4 (by simp) λh5 he5 hs5=>?_);replace hs5:Heap.SameBut it h4 h5:=hs5;replace he5:IsItemIterOut h5 it d (i+1) n ep en.key en.val hp.objs.size:=he5;refine Ni (OC he5 (by simp) λh6 he6 hs6=>?_);replace hs6:Heap.SameBut it h5 h6:=hs6;replace he6:IsItemIterOut h6 it d (i+1) n ep en.key en.val hp.objs.size:=he6;refine Ni (wpAny_letGo (NF (NF ⟨_,rfl,NF (hQ h6 he6 ?_ ?_ ?_)⟩)))
 ·exact hs6.extBut _ _ (O0 hil) (hs5.extBut _ _ (O0 hil) (hs4.extBut _ _ (O0 hil) (hs3.extBut _ _ (O0 hil) ht2)))
 ·show h6.objs.size=hp.objs.size+1;rw[hs6.1,hs5.1,hs4.1,hs3.1,hz2]
 ·exact λb o hb e=>hs6.extBut b o hb (hs5.extBut b o hb (hs4.extBut b o hb (hs3.extBut b o hb (hk2 b o hb e))))
theorem Jt{i:Nat}{ok:Value}(hh:A.handled=none)(hit:IsItemIter s.heap it d i n ep ok ov)(hod:s.heap.get? d=some od)(hdd:od.data=.dict es ep)(hsz:es.size=n)(hx:n<=i)
  (hQ:∀h',Heap.ExtBut it s.heap h'->Q none {s with heap:=h'}):wpAny (model prog w) A (pyNext (.ref it)) Q E s:=by
 have hT:s.TypeIs (.ref it) "dict_itemiterator":=⟨_,hit,rfl⟩;unfold pyNext;refine Ni (wpAny_attempt (PK (name:=Str.ofString "__next__") hT OR
  (Pp OR hT F.entry_dict_itemiterator_next ?_ (F.args_dict_itemiterator_next_1 _))))
 refine Ni (NF ?_);refine Ni ?_;refine Ni ?_
 first|refine Ni (O5 hT (NF ?_))|refine Ni (Pw hT (NF ?_))
 refine Ni (wpAny_fieldsOf hit rfl ?_);have F':Builtin.Dict_items.ownsTuple "dict_itemiterator"=true:=by decide
 simp only[F',Qj];show wpAny _ _ (if(Value.ref d==Value.none)=true then _ else _) _ _ s;rw[Nt (show ¬((Value.ref d==Value.none)=true)from NI)];refine Ni (NF ?_);refine Ni (Qz hod hdd ?_);rw[Nt (by rw[hsz];simp)];refine Ni (NF ?_);refine Ni (wpAny_dictEpoch hod hdd ?_);rw[Nt (by simp)];refine NF ?_;have hge:es.size<=i:=by omega
 simp only[show ¬((i:Int)<0)from by omega,Qa,Nw,Array.getElem?_eq_none hge];refine Ni ?_
 first|refine Ni (O5 hT (NF ?_))|refine Ni (Pw hT (NF ?_))
 show wpAny _ _ (setField (.ref it) 2 .none>>=_) _ _ s;refine Ni (wpAny_setField hit rfl (by simp) ?_);show wpAny _ _ (newExc (.type "StopIteration") []>>=_) _ _ _;refine Ni ?_;simp only[newExc,newTuple];refine Ni (P8 ?_ (by size_fits));refine Ni (m:=firstArgMember _ _) (wpAny_of_eq (a:=Value.none) (by first|rfl|(simp only[firstArgMember];rfl)) ?_);refine P8 ?_ (by size_fits);simp only[raiseNew];refine Ni (wpAny_handled ?_);rw[show A.in1.handled=none from hh];refine Ni (NF (wpAny_throw ?_));refine Ni (Qb (T:="StopIteration") (b:=true) ⟨_,NP _ rfl,rfl⟩ isSubtype_stop ?_);exact NF (hQ _ (((PJ ..).extBut.push _).push _))
theorem Ht{v:Addr}{Q:Rv}(hv:s.heap.IsItemsView v d)(ho:s.heap.get? d=some od)(Li:od.data=.dict es ep)(hsz:es.size=n)
  (hQ:Q (.ref s.heap.objs.size) {s with heap:=s.heap.push {cls:=.type "dict_itemiterator",data:=.fields #[.none,.bool false,.ref d,.int 0 0,.int n 0,.int ep 0,.none,.none]}}):
  wpAny (model prog w) A (pyIter (.ref v)) Q E s:=by
 obtain⟨ov,hov,hcv,hdv⟩:=id hv;refine wpAny_pyIter_slot hv.typeIs F.slot_dict_items_iter (Pp F.slot_dict_items_iter hv.typeIs F.entry_dict_items_iter ?_ (F.args_dict_items_iter_1 _));unfold Builtin.«dict_items.__iter__»;refine Ni (NF ?_);refine Ni ?_;unfold Builtin.Dict_items.dictOf;refine Ni (Ph hov hdv (x:=.ref d) rfl (NF ?_));refine Ni ?_;unfold Builtin.Dict_items.newIterator;refine Ni (Qz ho Li ?_);refine Ni (wpAny_dictEpoch ho Li ?_);have F':Builtin.Dict_items.ownsTuple "dict_itemiterator"=true:=by decide
 simp only[F',Qj];refine P8 (NF ⟨_,rfl,"dict_itemiterator",_,⟨_,NP _ rfl,rfl⟩,OR.lookup,?_⟩)
  (by simp only[sizeOk,Builtin.Dict_items.ownedTupleFields,NN,Nk,NH,O4,sizeLine_eq];omega)
 simpa [rawInt,hsz,Builtin.Dict_items.ownedTupleFields]using hQ
theorem FJ(d:Addr)(hd:(d==sysModules)=false):MeetsIn prog w (Builtin.«dict.items» ⟨[.ref d],[]⟩) (λ_ R s=>s.TypeIs (.ref d) "dict"/\R (.ok (.ret (.ref s.heap.objs.size))) {s with heap:=s.heap.push {cls:=.type "dict_items",data:=.fields #[.ref d]}}):=
 .of_wp λA R s ⟨hm,h⟩=>by
  unfold Builtin.«dict.items»;refine Ni ?_;unfold Builtin.Dict.noArgs;refine Ni (wpAny_notOrdered_dict hm ?_);show wpAny _ _ (pure d) _ _ s;refine NF ?_;show wpAny _ _ (Builtin.Dict.showsAll d>>=_) _ _ s;unfold Builtin.Dict.showsAll;rw[Nt (by rw[hd];exact NI)];exact Ni (NF (Ni (P8 (NF ⟨_,rfl,h⟩))))
end
def ItN(P:Program)(w:World)(d:Addr)(ob:Obj)(kvs:List (bc×V))(xs:List (bc×Addr×Value)):It:=
 ⟨λi H=>(H d=some (.frz ob (.ext (dnP P w d xs)))/\KN H kvs xs)/\i<kvs.length,
  λi H x H'=>∃T k v b,kvs[i]?=some (k,v)/\x=.ref T/\H T=none/\H'=upd H T (.tup [.ref b,v])/\cF H k b,
  λi H=>(H d=some (.frz ob (.ext (dnP P w d xs)))/\KN H kvs xs)/\kvs.length<=i⟩
variable{d:Addr}{ob:Obj}{xs:List (bc×Addr×Value)}
theorem Inv.JY(I:Inv X pins σ H s)(h:H d=some (.frz ob (.ext (dnP X.prog X.w d xs)))):
  s.heap.get? d=some ob/\ob.ExactDict/\∃es ep,ob.data=.dict es ep/\es.toList=xs.map (entryOfKey (cO X.prog X.w)):=by
 obtain⟨h1,h2,_⟩:=(show cV X.prog X.w H s.heap d (.frz ob (.ext (dnP X.prog X.w d xs)))from I.hok d _ h);obtain⟨o2,es,ep,e,h3,h4,h5⟩:=h2;rw[h1]at e;cases e;exact⟨h1,h3,es,ep,h4,h5⟩
variable{elts:List Expr}
theorem zG{K:Rt}{es:Array DictEntry}{ep:Nat}{kk:Nat}{lV:Pos}(it:Addr)(hod:ob.data=.dict es ep):
  Turn P w K (.Tuple elts kk lV) (ItN P w d ob kvs xs) [it] it (λi h=>∃ok ov,IsItemIter h it d i kvs.length ep ok ov) where
 mem:=by simp
 obj:=λi h st b hb=>by
  have e:b=it:=by simpa using hb
  subst e;obtain⟨ok,ov,e⟩:=st;exact⟨_,e,λv z=>nomatch z⟩
 keep:=λi h h' st k=>let ⟨ok,ov,e⟩:=st;⟨ok,ov,k it (by simp) _ e⟩
 item:=by
  intro X hP hw hK hc i pins s σ H E I hf st hg;subst hP hw hK;obtain⟨⟨hd,kn⟩,hi⟩:=hg;obtain⟨hgd,hx,es',ep',hdt,hes⟩:=I.JY hd;obtain⟨rfl,rfl⟩:=DL hod hdt;obtain⟨⟨k,v⟩,hkv⟩:∃p,kvs[i]?=some p:=⟨kvs[i],Ng hi⟩;obtain⟨⟨k2,b,u⟩,hu,e1,hb,ru⟩:=dv kn hkv;have hl:kvs.length=xs.length:=Oa kn;have hsz:es'.size=kvs.length:=by rw[Q4 hes,hl]
  have hen:es'[i]?=some (entryOfKey (cO X.prog X.w) (k2,b,u)):=by rw[entry_at hes i,hu];rfl
  obtain⟨ok,ov,he⟩:=st;have hlt:it<s.heap.objs.size:=NQ he;refine Hu he hgd hdt hsz hen λh' ho hT hz hk=>?_;refine⟨_,rfl,wpAny_letOwnedTupleGo_items (s:={s with heap:=h'}) ho λh'' he' sb=>?_⟩;have hT2:h''.get? s.heap.objs.size=some {cls:=.type "tuple",data:=.seq #[.ref b,u]}:=(sb.2 _ (O0 hlt)).trans hT;have new:cV X.prog X.w (upd H s.heap.objs.size (.tup [.ref b,v])) h'' s.heap.objs.size (.tup [.ref b,v]):=
   ⟨by show 2<=sizeLine;decide,[.ref b,u],.cons rfl (.cons ru .nil),⟨_,hT2,rfl,_,rfl⟩⟩
  have I1:Inv X pins σ (upd H s.heap.objs.size (.tup [.ref b,v])) {s with heap:=h''}:=
   I.nU (t':=s.toks) (ch:=[it]) (λc oc hb e=>(sb.2 c (by simpa using hb)).trans (hk c oc (by simpa using hb) e)) hf (Nq _) new
  refine⟨.ref s.heap.objs.size,_,I1,rfl,⟨_,k,v,b,hkv,rfl,I.hok.fresh (Nq _),rfl,hb⟩,⟨.ref b,u,he'⟩,λc hc2=>?_⟩;have e:c=it:=by simpa using hc2
  rw[e,aB (Oo hlt)];exact(hf it (by simp)).1
 done:=by
  intro X hP hw hK hc i pins s σ H E I hf st hg;subst hP hw hK;obtain⟨⟨hd,kn⟩,hi⟩:=hg;obtain⟨f0,f1,f2,f3,f4,f5⟩:=hf it (by simp);obtain⟨hgd,hx,es',ep',hdt,hes⟩:=I.JY hd;obtain⟨rfl,rfl⟩:=DL hod hdt;have hsz:es'.size=kvs.length:=by rw[Q4 hes,Oa kn]
  obtain⟨ok,ov,he⟩:=st;exact Jt (I.ok.hd hc) he hgd hdt hsz hi λh' eb=>⟨rfl,I.turned (t':=s.toks) (λb oc hb e=>eb b oc hb e) f0 f1 f3 f4 f5⟩
 self:=λA i s Q E st h=>let ⟨_,_,e⟩:=st;PySem.W.kcp_self e h
def HJ(P:Program)(w:World)(td:TE):TI:=λσ H R=>td σ H λx H1=>∃d ob kvs xs,x=.ref d/\H1 d=some (.frz ob (.ext (dnP P w d xs)))/\DNx P w H1 d kvs xs/\R (ItN P w d ob kvs xs) H1
theorem nZ{kk:Nat}{lV:Pos}(he:PE X e td)(A9:attributeBase e "items" X.env (eval e X.env)=eval e X.env:=by rfl)(A6:(apos.endLine==jZ.line)=true:=by rfl):
  PI X (.Tuple elts kk lV) (.Call (.Attribute e "items" apos) [] [] jZ) (HJ X.prog X.w td):=by
 intro pins s σ H R I h;refine wpAny_Call_method (T:="dict") (id:="dict.items") A9 rfl A6 F.plainAttrs_dict F.slot_dict_items F.type_dict_items (thn (he pins s σ H _ I h) λu s1 ⟨x,H1,I1,rx,d,ob,kvs,xs,ex,hd,dx,q⟩=>?_);subst ex;cases rx;obtain⟨hgd,hx,es,ep,hdt,hes⟩:=I1.JY hd;have hsz:es.size=kvs.length:=by rw[Q4 hes,Oa dx.kn]
 have hT:s1.TypeIs (.ref d) "dict":=⟨ob,hgd,hx.1⟩;refine⟨hT,λb z=>(by cases z;exact⟨ob,hgd,hx.2.1⟩),?_⟩;have I2:Inv X pins σ H1 {s1 with heap:=s1.heap.push {cls:=.type "dict_items",data:=.fields #[.ref d]}}:=I1.kept (t':=s1.toks) λb oc q=>Nl _ q;have fin:wpAny (model X.prog X.w) X.A (pyIter (.ref s1.heap.objs.size)) (PIE X pins σ (.Tuple elts kk lV) R) X.xe {s1 with heap:=s1.heap.push {cls:=.type "dict_items",data:=.fields #[.ref d]}}:=by
  refine Ht (d:=d) ⟨_,NP _ rfl,rfl,rfl⟩ (Nl _ hgd) hdt hsz (Fu (tk:=s1.toks) I2 _ (zG _ hdt) ⟨.none,.none,?_⟩ q);exact NP _ rfl
 show wpAny _ _ (callWith jZ (.builtin "dict.items") [.ref d] [] []) _ X.xe s1;exact method_meetsIn F.slot_dict_items F.entry_dict_items rfl (PySem.evalArgs_none ⟨rfl,hT,F.args_dict_items_1 _,_,FJ d dx.sys,hT,fin⟩)
theorem kO{g:TG}{tb:TS}{D:Ends}(Pv:Nat->St->Hp->Prop)(h0:Pv 0 σ H)
  (hl:∀i σ H,i<=kvs.length->Pv i σ H->H d=some (.frz ob (.ext (dnP P w d xs)))/\KN H kvs xs)
  (hs:∀i k v T b σ H,kvs[i]?=some (k,v)->Pv i σ H->H T=none->cF H k b->g (.ref T) σ (upd H T (.tup [.ref b,v])) λσ2 H2=>tb {D with nx:=Pv (i+1),ct:=Pv (i+1),bk:=D.nx} σ2 H2)(hd:∀σ H,Pv kvs.length σ H->D.nx σ H):
  ∃W:Nat->Nat->St->Hp->Prop,(∃m,W 0 m σ H)/\∀i m σ H,W i m σ H->((ItN P w d ob kvs xs).stop i H/\D.nx σ H)∨((ItN P w d ob kvs xs).go i H/\∃N:St->Hp->Prop,(∀σ' H',N σ' H'->∃m',m'<m/\W (i+1) m' σ' H')/\∀x H',(ItN P w d ob kvs xs).yld i H x H'->g x σ H' λσ2 H2=>tb {D with nx:=N,ct:=N,bk:=D.nx} σ2 H2):=by
 refine⟨λi m σ H=>Pv i σ H/\i+m=kvs.length,⟨kvs.length,h0,by omega⟩,λi m σ H ⟨p,e⟩=>?_⟩;by_cases hi:i<kvs.length
 ·refine .inr ⟨⟨hl i σ H (by omega) p,hi⟩,Pv (i+1),λσ' H' q=>⟨m-1,by omega,q,by omega⟩,?_⟩;rintro x H' ⟨T,k,v,b,hk,rfl,hT,rfl,hb⟩;exact hs i k v T b σ H hk p hT hb
 ·have ei:i=kvs.length:=by omega
  exact .inl ⟨⟨hl i σ H (by omega) p,by omega⟩,hd σ H (by rw[<-ei];exact p)⟩
end
structure Fn(P:Program)(w:World)(K:Rt)(mg:Ru)(base:Heap)(x:Str)(k:Nat)(ps:List Str)(sp:Sp):Prop where
 ex:∃f fd,mg x=some (.ref f)/\PySem.W.keepIn K (.ref f)=true/\Binds K fd ps []/\bw P w K mg base CX0 k f fd ps sp
structure Mt(P:Program)(w:World)(K:Rt)(mg:Ru)(base:Heap)(C:Addr)(m:Str)(k:Nat)(ps:List Str)(sp:Sp):Prop where
 cl:Cls K C
 ex:∃f fd,Meth K C m f/\Binds K fd ps []/\bw P w K mg base CX0 k f fd ps sp
structure Mc(P:Program)(w:World)(K:Rt)(mg:Ru)(base:Heap)(x:Str)(C:Addr)(k:Nat)(ps:List Str)(sp:Sp):Prop where
 ex:∃f fd,Mk K C f/\mg x=some (.ref C)/\Binds K fd ps []/\bw P w K mg base CX0 k f fd ps sp
section
variable{X:Cx}{x m:Str}{C:Addr}{k j:Nat}{ps:List Str}{sp:Sp}{e o:Expr}{es:List Expr}{t:TA}{ta:TE}{p pos apos:Pos}
theorem bQ(F:Fn X.prog X.w X.K X.mg X.base x k ps sp)(hr:fE j X.A)(ha:PA X (e::es) t)(hj:k<=j:=by decide)(hg:Gl X x:=by rfl)(hdb:(x==("__debug__":Str))=false:=by decide)
  (he:starEach (e::es) X.env=(false,eval e X.env)::starEach es X.env:=by rfl)(hpl:(backTo pos (starEach es X.env)).any (·.1)=false:=by rfl):PE X (.Call (.Name x p) (e::es) [] pos) (Iw sp [] E0 t):=by
 obtain⟨f,fd,hm,hk,hb,G⟩:=F.ex;exact He G (hr.mono hj) hg hm hk hb .nil Aj ha hdb he hpl
variable{pl:Sem Bool}
theorem bZ(he:PE X o ta)(F:Mt X.prog X.w X.K X.mg X.base C m k ps sp)(hr:fE j X.A)(ha:PA X (e::es) t)(hj:k<=j:=by decide)
  (hst:starEach (e::es) X.env=(false,eval e X.env)::starEach es X.env:=by rfl)(hpl:(backTo pos (starEach es X.env)).any (·.1)=false:=by rfl)
  (ht:eval (.Call (.Attribute o m apos) (e::es) [] pos) X.env=(do
   let ov <-eval o X.env
   standAt apos.atName
   let (f,first) <-holding [ov] (getMethod ov m pl)
   callWith pos f first (backTo pos (starEach (e::es) X.env)) (backToKw pos (keywordEach [] X.env))):=by rfl):
  PE X (.Call (.Attribute o m apos) (e::es) [] pos) (C2 C m sp [] E0 ta t):=by
 obtain⟨f,fd,hm,hb,G⟩:=F.ex;exact Hb he F.cl hm G (hr.mono hj) hb .nil Aj ha hst hpl ht
theorem Fw(he:PE X o ta)(F:Mt X.prog X.w X.K X.mg X.base C m k ps sp)(hr:fE j X.A)(hj:k<=j:=by decide)
  (ht:eval (.Call (.Attribute o m apos) [] [] pos) X.env=(do
   let ov <-eval o X.env
   standAt apos.atName
   let (f,first) <-holding [ov] (getMethod ov m pl)
   callWith pos f first (backTo pos (starEach [] X.env)) (backToKw pos (keywordEach [] X.env))):=by rfl):
  PE X (.Call (.Attribute o m apos) [] [] pos) (C2 C m sp [] E0 ta D6):=by
 obtain⟨f,fd,hm,hb,G⟩:=F.ex;exact Fx he F.cl hm G (hr.mono hj) hb .nil Aj ht
theorem jG(F:Mc X.prog X.w X.K X.mg X.base x C k ps sp)(hr:fE j X.A)(ha:PA X (e::es) t)(hj:k+1<=j:=by decide)(hg:Gl X x:=by rfl)(hdb:(x==("__debug__":Str))=false:=by decide)
  (he:starEach (e::es) X.env=(false,eval e X.env)::starEach es X.env:=by rfl)(hpl:(backTo pos (starEach es X.env)).any (·.1)=false:=by rfl):PE X (.Call (.Name x p) (e::es) [] pos) (C3 C sp [] E0 t):=by
 obtain⟨f,fd,M,hm,hb,G⟩:=F.ex;exact Hc M G (hr.mono hj) hg hm hb .nil Aj ha hdb he hpl
theorem Jp(F:Mc X.prog X.w X.K X.mg X.base x C k ps sp)(hr:fE j X.A)(hj:k+1<=j:=by decide)(hg:Gl X x:=by rfl)(hdb:(x==("__debug__":Str))=false:=by decide):PE X (.Call (.Name x p) [] [] pos) (C3 C sp [] E0 D6):=by
 obtain⟨f,fd,M,hm,hb,G⟩:=F.ex;exact Fy M G (hr.mono hj) hg hm hb .nil Aj hdb
def GI(mg:Ru)(x:Str)(n:Int):Prop:=∃t,mg x=some (.int n t)
theorem a9{n:Int}(h:GI X.mg x n)(hg:Gl X x:=by rfl)(hd:(x==("__debug__":Str))=false:=by decide):PE X (.Name x pos) (tC (.int n)):=by
 obtain⟨t,h⟩:=h;exact Df hg h ⟨t,rfl⟩ hd
end
theorem nJ:bootBuiltins "tuple"=some (.type "tuple"):=by decide +kernel
theorem Ih:bootBuiltins "list"=some (.type "list"):=by decide +kernel
theorem J6:bootBuiltins "max"=some (.builtin "max"):=by decide +kernel
theorem J5:bootBuiltins "min"=some (.builtin "min"):=by decide +kernel
theorem J7:bootBuiltins "any"=some (.builtin "any"):=by decide +kernel
theorem ED{A:Around}{k:Nat}(hr:fE k A):A.units+40<cLine:=by have:=hr.un;omega
theorem ak{H:Hp}{p:Addr}(h:H p=none)(o:HO):aw H (upd H p o):=λb u q=>by rw[aB (ax q h)];exact q
theorem aw.Jg{K:Rt}{H:Hp}{a:Addr}{xs:List V}(e:aw H H')(h:SqT K H a xs):SqT K H' a xs:=by
 rcases h with(h|⟨o,h⟩)|h
 ·exact .inl (.inl (e _ _ h))
 ·exact .inl (.inr ⟨o,e _ _ h⟩)
 ·exact .inr h
end L2
namespace Sc
open PySem PySem.Spec PyProof.Rows L2 NK
def top(i:Nat):Stmt:=PySem.Challenge.pw_sceneturns_s01_answers.main.body.getD i (.Pass ⟨0,0,0,0⟩)
abbrev nv(n:Nat):V:=.int (n:Int)
structure Ad where
 part:Addr
 dE:Addr
 aY:Addr
 iQ:Addr
 scene:Addr
 ahead:Addr
 wish:Addr
 aQ:Addr
 ic:Addr
 cf:Addr
structure Txt(K:Rt)(mg:Ru)(D:Ad):Prop where
 HR:GI mg "YES" 0
 DC:GI mg "FACT" 1
 JV:GI mg "NOT" 2
 Gh:GI mg "BOTH" 3
 DD:GI mg "EITHER" 4
 uB:GI mg "BEFORE" 5
 Cw:GI mg "SINCE" 6
 Gg:GI mg "NEXT" 7
 Cv:GI mg "UNTIL" 8
 uA:GI mg "WITHIN" 9
 Ba:GI mg "MOST_PARTS" 12
 y6:GI mg "MOST_WITHIN" 20
 Cy:GI mg "MOST_HEAD" 3
 JX:GI mg "FACTS" 0
 Ll:GI mg "WISH" 1
 JU:GI mg "SCENE" 2
 Lm:GI mg "TURN" 3
 Lo:GI mg "KEPT" 4
 Lp:GI mg "HOPE" 5
 HS:GI mg "SCENES" 6
 EL:GI mg "TOGETHER" 7
 HU:GI mg "COURSE" 8
 JW:GI mg "HOLDS" 9
 eW:GI mg "NOT_IN_RANGE" (-1)
 gy:GI mg "NO_CONDITION" (-2)
 wX:GI mg "NOT_THE_TIME" (-3)
 kM:GI mg "NONE_SUCH" (-4)
 sv:GI mg "NO_PLACE" (-5)
 Bb:GI mg "MOST_FACTS" 3
 A':GI mg "MOST_TURNS" 60
 y8:GI mg "MOST_WISHES" 6
 y9:GI mg "MOST_SCENES" 6
 xR:GI mg "MOST_WAY" 6
 eR:mg "INNER_COUNTS"=some (.ref D.ic)
 tIC:∀H,SqT K H D.ic ([0,0,1,2,2,1,2,1,2,1].map nv)
 AR:mg "CALL_FORMS"=some (.ref D.cf)
 len:mg "len"=none
 tuple:mg "tuple"=none
 list:mg "list"=none
 max:mg "max"=none
 min:mg "min"=none
 any:mg "any"=none
 range:mg "range"=none
 enumerate:mg "enumerate"=none
 zip:mg "zip"=none
 aN:Cls K D.part
 bq:bj K D.part "kind"
 ur:bj K D.part "number"
 fh:bj K D.part "first"
 gu:bj K D.part "second"
 jm:Cls K D.dE
 vB:bj K D.dE "parts"
 kG:bj K D.dE "memory"
 o8:Cls K D.iQ
 qP:bj K D.iQ "parts"
 vz:bj K D.iQ "memory"
 cH:Cls K D.scene
 Cc:bj K D.scene "begin"
 Jw:bj K D.scene "end"
 kI:bj K D.scene "goes_on"
 qQ:bj K D.scene "begun_at"
 mR:bj K D.scene "begun_count"
 f9:Cls K D.ahead
 Dm:bj K D.ahead "begin"
 IE:bj K D.ahead "end"
 pY:bj K D.ahead "ways_going_on"
 bU:Cls K D.aY
 kE:bj K D.aY "facts"
 FO:bj K D.aY "length"
 jg:bj K D.aY "head_length"
 gD:bj K D.aY "tail_length"
 kH:bj K D.aY "head_count"
 kF:bj K D.aY "tail_count"
 jK:bj K D.aY "all_heads"
 xG:bj K D.aY "every_way"
 Dl:bj K D.aY "ways_by_fact"
 bN:Cls K D.wish
 KZ:bj K D.wish "row"
 jJ:bj K D.wish "parts"
 ID:bj K D.wish "gone"
 vA:bj K D.wish "turn_count"
 oi:bj K D.wish "follower"
 yO:bj K D.wish "turns"
 sj:bj K D.wish "memories"
 iE:bj K D.wish "known_ways"
 dS:bj K D.wish "known_outlooks"
 aM:Cls K D.aQ
 iF:bj K D.aQ "facts"
 fb:bj K D.aQ "course"
 dw:bj K D.aQ "wishes"
 dI:bj K D.aQ "scenes"
section
variable{P:Program}{w:World}{K:Rt}{mg:Ru}{base:Heap}{D:Ad}
inductive rN(ks:List Int)(vs:List V)(H:Hp)(Q:VK)(E:XK):Prop
 |mk (k:Int):vs=[.int k]->(∀H',aw H H'->Q (.bl (ks.any λy=>y==k)) H')->rN ks vs H Q E
abbrev ve:Stmt:=top 15
theorem z9:aF ["kind"] ["kind"] (az ve):=⟨rfl,rfl,rfl,by decide +kernel,rfl,by decide +kernel,by decide +kernel⟩
theorem wV{f:Addr}{fd:FuncData}(F:Fun K "has_number" "has_number" ve f fd)(T:Txt K mg D):bw P w K mg base CX0 1 f fd ["kind"] (rN [1,9]):=by
 refine F.ok z9 (λvs H Q E h=>?_) (λcdv A outer s H vs Q E hr h=>?_)
 ·obtain⟨k,rfl,_⟩:=h;rfl
 obtain⟨k,rfl,q⟩:=h;refine⟨_,(ai (aA (uq n9 (pv 0) (kq (aa (a9 T.DC) (aa (a9 T.uA) ag))) (by with_unfolding_all rfl)))),?_⟩;refine⟨_,rfl,(by show 2<=sizeLine;decide),λp hp=>⟨p,_,rfl,.inr (SqT.of af),rfl,rfl,?_⟩⟩;exact q _ (ak hp _)
end
end Sc
namespace Gen
def aY(ay:Nat):Nat->List (List Nat)
 |0=>[[]]
 |d+1=>(List.range ay).flatMap λt=>(aY ay d).map λp=>t::p
theorem jL{ay:Nat}:∀{d:Nat}{p:List Nat},p∈aY ay d↔p.length=d/\∀t∈p,t<ay
 |0,p=>by
  cases p<;>simp[aY]
 |d+1,[]=>by simp[aY]
 |d+1,t::p=>by
  simp only[aY,N9,NZ,NW,NH,ND];constructor
  ·rintro⟨t',ht',p',hp',e⟩;injection e with e1 e2;subst e1 e2;obtain⟨a,b⟩:=(jL (d:=d)).mp hp';refine⟨by omega,λx hx=>?_⟩;rcases hx with rfl|hx
   ·exact ht'
   ·exact b x hx
  ·rintro⟨h1,h2⟩;exact⟨t,h2 t (.inl rfl),p,(jL (d:=d)).mpr ⟨by omega,λx hx=>h2 x (.inr hx)⟩,rfl⟩
def bu(ay n:Nat)(P:List Nat->Bool):Option (List Nat):=
 (List.range (n+1)).findSome? λd=>(aY ay d).find? P
section
variable{R:Type}(K:R->List Nat)(step:R->Nat->R)(good:R->Bool)(path:R->List Nat)
def fresh:List (List Nat)->List R->List (List Nat)×List R
 |seen,[]=>(seen,[])
 |seen,r::l=>if seen.contains (K r)=true then fresh seen l else let x:=fresh (K r::seen) l;(x.1,r::x.2)
def search(ay:Nat):Nat->List (List Nat)->List R->Option (List Nat)
 |0,_,l=>(l.find? good).map λr=>(path r).reverse
 |n+1,seen,l=>match l.find? good with
  |some r=>some (path r).reverse
  |none=>let x:=fresh K seen (l.flatMap λr=>(List.range ay).map λt=>step r t);search ay n x.1 x.2
def run(r:R)(p:List Nat):R:=p.foldl step r
def G(ay d:Nat)(r:R):Option (List Nat):=((aY ay d).find? λp=>good (run step r p)).map λp=>(path r).reverse++p
def best(ay n:Nat)(l:List R):Option (List Nat):=(List.range (n+1)).findSome? λd=>l.findSome? (G step good path ay d)
theorem dY{α β:Type}{f g:α->Option β}:∀{l:List α},(∀x∈l,f x=g x)->l.findSome? f=l.findSome? g
 |[],_=>rfl
 |a::l,h=>by
  rw[N0,N0,h a NB,dY λx hx=>h x (Nn _ hx)]
theorem sW{β:Type}{f g:Nat->Option β}:∀(m:Nat),(∀d,d<m->(∀d',d'<d->f d'=none)->f d=g d)->(List.range m).findSome? f=(List.range m).findSome? g
 |0,_=>rfl
 |m+1,h=>by
  rw[Q5,QI,QI,<-sW m λd hd=>h d (by omega)];cases e:(List.range m).findSome? f with
  |some v=>rfl
  |none=>
   have e':∀d',d'<m->f d'=none:=λd' hd'=>Po.mp e d' (NW.mpr hd');simp only[N0,List.findSome?_nil,h m (by omega) e']
theorem jW{α β γ:Type}(f:β->Option γ)(g:α->List β):∀(l:List α),(l.flatMap g).findSome? f=l.findSome? λa=>(g a).findSome? f
 |[]=>rfl
 |a::l=>by
  rw[N5,QI,N0,jW f g l];cases(g a).findSome? f<;>rfl
theorem child(hp:∀r t,path (step r t)=t::path r)(ay d:Nat)(l:List R):
  l.findSome? (G step good path ay (d+1))=(l.flatMap λr=>(List.range ay).map λt=>step r t).findSome? (G step good path ay d):=by
 rw[jW];refine dY λr _=>?_;rw[List.findSome?_map];unfold G;simp only[aY,List.find?_flatMap,Rh];generalize List.range ay=ts;induction ts with
 |nil=>rfl
 |cons t ts ih=>
  rw[N0,N0];have e1:((λp=>good (run step r p))∘λp=>t::p)=λp=>good (run step (step r t) p):=rfl;rw[e1];simp only[Function.comp_def]at ih ⊢;cases e:(aY ay d).find? λp=>good (run step (step r t) p)with
  |some p=>
   simp only[PF,hp];simp
  |none=>
   simp only[Option.map_none];exact ih
theorem CK(hp:∀r t,path (step r t)=t::path r)(ay n:Nat)(l:List R)(h0:l.find? good=none):
  best step good path ay (n+1) l=best step good path ay n (l.flatMap λr=>(List.range ay).map λt=>step r t):=by
 unfold best;rw[Pl,N0];have e0:l.findSome? (G step good path ay 0)=none:=by
  rw[Po];intro r hr;have:=OL.mp h0 r hr;simp[G,aY,run,this]
 rw[e0];show List.findSome? _ ((List.range (n+1)).map Nat.succ)=_;rw[List.findSome?_map];refine dY λd _=>?_;exact child step good path hp ay d l
theorem x8(ay:Nat)(l:List R):best step good path ay 0 l=(l.find? good).map λr=>(path r).reverse:=by
 unfold best;show(List.range 1).findSome? _=_;rw[show List.range 1=[0]from rfl,N0];have e:∀l:List R,l.findSome? (G step good path ay 0)=(l.find? good).map λr=>(path r).reverse:=by
  intro l;induction l with
  |nil=>rfl
  |cons r l ih=>
   rw[N0,OD,ih];cases h:good r<;>simp[G,aY,run,h]
 rw[e];cases(l.find? good)<;>rfl
theorem EW(ay n:Nat)(l:List R){r:R}(h:l.find? good=some r):best step good path ay n l=some (path r).reverse:=by
 have e0:=x8 step good path ay l;unfold best at e0 ⊢;rw[Pl,N0]at e0 ⊢;rw[h]at e0;cases e:l.findSome? (G step good path ay 0)with
 |some v=>rw[e]at e0;exact e0
 |none=>rw[e]at e0;simp at e0
theorem sA:∀(ch:List R)(seen:List (List Nat)),(∀k∈seen,k∈(fresh K seen ch).1)/\(∀r∈ch,K r∈(fresh K seen ch).1)/\
  (∀r∈(fresh K seen ch).2,r∈ch)/\∀k∈(fresh K seen ch).1,k∈seen∨∃r∈(fresh K seen ch).2,K r=k
 |[],seen=>⟨λ_ h=>h,λ_ h=>(nomatch h),λ_ h=>(nomatch h),λ_ h=>.inl h⟩
 |c::ch,seen=>by
  unfold fresh;by_cases e:seen.contains (K c)=true
  ·rw[Nz e];obtain⟨a,b,d,f⟩:=sA ch seen;refine⟨a,λr hr=>?_,λr hr=>Nn _ (d r hr),f⟩;rcases ND.mp hr with rfl|hr
   ·exact a _ (OE.mp e)
   ·exact b r hr
  ·rw[Nt e];obtain⟨a,b,d,f⟩:=sA ch (K c::seen);refine⟨λk hk=>a k (Nn _ hk),λr hr=>?_,λr hr=>?_,λk hk=>?_⟩
   ·rcases ND.mp hr with rfl|hr
    ·exact a _ NB
    ·exact b r hr
   ·rcases ND.mp hr with rfl|hr
    ·exact NB
    ·exact Nn _ (d r hr)
   ·rcases f k hk with h|⟨r,hr,e'⟩
    ·rcases ND.mp h with rfl|h
     ·exact .inr ⟨c,NB,rfl⟩
     ·exact .inl h
    ·exact .inr ⟨r,Nn _ hr,e'⟩
theorem qd{β:Type}{g:R->Option β}{Ok:R->Prop}(hk:∀r r',Ok r->Ok r'->K r=K r'->g r=none->g r'=none):∀(ch:List R)(seen:List (List Nat)),(∀r∈ch,Ok r)->
  (∀r∈ch,K r∈seen->g r=none)->(fresh K seen ch).2.findSome? g=ch.findSome? g
 |[],seen,_,_=>rfl
 |c::ch,seen,ho,hs=>by
  unfold fresh;by_cases e:seen.contains (K c)=true
  ·rw[Nz e,N0,hs c NB (OE.mp e)];exact qd hk ch seen (λr hr=>ho r (Nn _ hr)) λr hr=>hs r (Nn _ hr)
  ·rw[Nt e];show List.findSome? g (c::_)=_;rw[N0,N0];cases h:g c with
   |some v=>rfl
   |none=>
    refine qd hk ch (K c::seen) (λr hr=>ho r (Nn _ hr)) λr hr h'=>?_;rcases ND.mp h' with h'|h'
    ·exact hk c r (ho c NB) (ho r (Nn _ hr)) h'.symm h
    ·exact hs r (Nn _ hr) h'
structure Inv(Ok:R->Prop)(ay:Nat)(seen:List (List Nat))(l:List R):Prop where
 ok:∀r∈l,Ok r
 here:∀r∈l,K r∈seen
 old:∀r,Ok r->K r∈seen->(∃r'∈l,K r'=K r)∨(good r=false/\∀t,t<ay->K (step r t)∈seen)
variable{K step good path}
theorem Inv.reach{Ok:R->Prop}{ay:Nat}{seen:List (List Nat)}{l:List R}(I:Inv K step good Ok ay seen l)
  (okS:∀r t,Ok r->Ok (step r t))(cg:∀r r',Ok r->Ok r'->K r=K r'->∀p,good (run step r p)=good (run step r' p)):
  ∀(p:List Nat)(r:R),Ok r->K r∈seen->(∀t∈p,t<ay)->good (run step r p)=true->∃r'∈l,∃q:List Nat,q.length<=p.length/\(∀t∈q,t<ay)/\good (run step r' q)=true:=by
 intro p;induction p with
 |nil=>
  intro r ho hs _ hg;rcases I.old r ho hs with⟨r',h1,h2⟩|⟨h,_⟩
  ·exact⟨r',h1,[],Nq _,λ_ h=>(nomatch h),by rw[cg r' r (I.ok r' h1) ho h2];exact hg⟩
  ·have:good r=true:=hg;rw[h]at this;cases this
 |cons t p ih=>
  intro r ho hs ht hg;rcases I.old r ho hs with⟨r',h1,h2⟩|⟨_,h⟩
  ·exact⟨r',h1,t::p,Nq _,ht,by rw[cg r' r (I.ok r' h1) ho h2];exact hg⟩
  ·obtain⟨r',h1,q,h2,h3,h4⟩:=ih (step r t) (okS r t ho) (h t (ht t NB)) (λx hx=>ht x (Nn _ hx)) hg;exact⟨r',h1,q,by rw[NH];omega,h3,h4⟩
theorem sR{Ok:R->Prop}{ay:Nat}(hp:∀r t,path (step r t)=t::path r)(okS:∀r t,Ok r->Ok (step r t))
  (cg:∀r r',Ok r->Ok r'->K r=K r'->∀p,good (run step r p)=good (run step r' p))
  (cs:∀r r' t,Ok r->Ok r'->K r=K r'->K (step r t)=K (step r' t)):
  ∀(n:Nat)(seen:List (List Nat))(l:List R),Inv K step good Ok ay seen l->search K step good path ay n seen l=best step good path ay n l
 |0,seen,l,_=>by rw[x8];rfl
 |n+1,seen,l,I=>by
  unfold search;cases h:l.find? good with
  |some r=>rw[EW step good path ay (n+1) l h]
  |none=>
   show search K step good path ay n (fresh K seen (l.flatMap λr=>(List.range ay).map λt=>step r t)).1 (fresh K seen (l.flatMap λr=>(List.range ay).map λt=>step r t)).2=_;rw[CK step good path hp ay n l h];have hch:∀{r},r∈(l.flatMap λr=>(List.range ay).map λt=>step r t)↔∃r0∈l,∃t,t<ay/\step r0 t=r:=by
    intro r;simp only[N9,NZ,NW]
   generalize (l.flatMap λr=>(List.range ay).map λt=>step r t)=ch at hch ⊢;have okc:∀r∈ch,Ok r:=λr hr=>by
    obtain⟨r0,h0,t,_,rfl⟩:=hch.mp hr;exact okS r0 t (I.ok r0 h0)
   obtain⟨s1,s2,s3,s4⟩:=sA K ch seen;have ng:∀r∈l,good r=false:=λr hr=>by
    have:=OL.mp h r hr;cases e:good r<;>simp_all
   have I':Inv K step good Ok ay (fresh K seen ch).1 (fresh K seen ch).2:=by
    refine⟨λr hr=>okc r (s3 r hr),λr hr=>s2 r (s3 r hr),λr ho hs=>?_⟩;rcases s4 _ hs with hs|⟨r',h1,h2⟩
    ·right
     rcases I.old r ho hs with⟨r',h1,h2⟩|⟨h1,h2⟩
     ·refine⟨?_,λt ht=>?_⟩
      ·have e:=cg r' r (I.ok r' h1) ho h2 [];have e':good r'=good r:=e;rw[<-e'];exact ng r' h1
      ·rw[<-cs r' r t (I.ok r' h1) ho h2];exact s2 _ (hch.mpr ⟨r',h1,t,ht,rfl⟩)
     ·exact⟨h1,λt ht=>s1 _ (h2 t ht)⟩
    ·exact .inl ⟨r',h1,h2⟩
   rw[sR hp okS cg cs n _ _ I'];unfold best;refine(sW (n+1) λd _ hd=>?_).symm;refine(qd K (Ok:=Ok) (λr r' ho ho' e hn=>?_) ch seen okc λr hr hs=>?_).symm
   ·unfold G at hn ⊢;rw[Pn,OL]at hn ⊢;intro p hp';rw[<-cg r r' ho ho' e p];exact hn p hp'
   ·unfold G;rw[Pn,OL];intro p hp' hg;obtain⟨l1,l2⟩:=jL.mp hp';obtain⟨r0,h1,q,h2,h3,h4⟩:=I.reach okS cg p r (okc r hr) hs l2 (by simpa using hg);cases q with
    |nil=>
     have:good r0=true:=h4;rw[ng r0 h1]at this;cases this
    |cons t q=>
     have hq:=hd q.length (by rw[NH]at h2;omega);have hc:step r0 t∈ch:=hch.mpr ⟨r0,h1,t,h3 t NB,rfl⟩;have:=Po.mp hq _ hc;unfold G at this;rw[Pn,OL]at this;exact this q (jL.mpr ⟨rfl,λx hx=>h3 x (Nn _ hx)⟩) h4
theorem qp{Ok:R->Prop}{ay:Nat}(hp:∀r t,path (step r t)=t::path r)(okS:∀r t,Ok r->Ok (step r t))
  (cg:∀r r',Ok r->Ok r'->K r=K r'->∀p,good (run step r p)=good (run step r' p))
  (cs:∀r r' t,Ok r->Ok r'->K r=K r'->K (step r t)=K (step r' t))(n:Nat)(r:R)(ho:Ok r)(h0:path r=[]):
  search K step good path ay n [K r] [r]=bu ay n λp=>good (run step r p):=by
 rw[sR (Ok:=Ok) hp okS cg cs n [K r] [r] ⟨λr' h=>by rw[Nu.mp h];exact ho,λr' h=>by rw[Nu.mp h];exact NB,
  λr' _ h=>.inl ⟨r,NB,(Nu.mp h).symm⟩⟩]
 unfold best bu;refine dY λd _=>?_;rw[N0];unfold G;rw[h0];cases(aY ay d).find? λp=>good (run step r p)<;>simp
end
end Gen
namespace Vbs
open Vbtaak
theorem code_inj:∀(f g:F)(r s:List Nat),code f++r=code g++s->f=g/\r=s:=by
 intro f;induction f with
 |yes=>intro g r s h;cases g<;>simp_all [code]
 |fact i=>intro g r s h;cases g<;>simp_all [code]
 |turn=>intro g r s h;cases g<;>simp_all [code]
 |not a ih=>
  intro g r s h;cases g<;>simp[code]at h;obtain⟨h1,h2⟩:=ih _ _ _ h;exact⟨by rw[h1],h2⟩
 |before a ih=>
  intro g r s h;cases g<;>simp[code]at h;obtain⟨h1,h2⟩:=ih _ _ _ h;exact⟨by rw[h1],h2⟩
 |next a ih=>
  intro g r s h;cases g<;>simp[code]at h;obtain⟨h1,h2⟩:=ih _ _ _ h;exact⟨by rw[h1],h2⟩
 |within n a ih=>
  intro g r s h;cases g<;>simp[code]at h;obtain⟨h1,h2⟩:=ih _ _ _ h.2;exact⟨by rw[h1,h.1],h2⟩
 |and a b iha ihb=>
  intro g r s h;cases g<;>simp[code]at h;obtain⟨h1,h2⟩:=iha _ _ _ h;obtain⟨h3,h4⟩:=ihb _ _ _ h2;exact⟨by rw[h1,h3],h4⟩
 |or a b iha ihb=>
  intro g r s h;cases g<;>simp[code]at h;obtain⟨h1,h2⟩:=iha _ _ _ h;obtain⟨h3,h4⟩:=ihb _ _ _ h2;exact⟨by rw[h1,h3],h4⟩
 |since a b iha ihb=>
  intro g r s h;cases g<;>simp[code]at h;obtain⟨h1,h2⟩:=iha _ _ _ h;obtain⟨h3,h4⟩:=ihb _ _ _ h2;exact⟨by rw[h1,h3],h4⟩
 |«until» a b iha ihb=>
  intro g r s h;cases g<;>simp[code]at h;obtain⟨h1,h2⟩:=iha _ _ _ h;obtain⟨h3,h4⟩:=ihb _ _ _ h2;exact⟨by rw[h1,h3],h4⟩
variable{f:F}
theorem ox{g:F}(h:code f=code g):f=g:=(code_inj f g [] [] (by rw[NX,NX,h])).1
theorem xW(f:F):∃x r,code f=x::r/\x<=10:=by
 cases f<;>exact⟨_,_,rfl,by decide⟩
section
variable(c:List Nat)(k:Nat)
theorem Ee(a:F):sat c (notOf a) k=!sat c a k:=by
 cases a<;>simp[notOf,sat]
theorem rS(b:Bool):sat c (truth b) k=b:=by
 cases b<;>simp[truth,no_,sat]
theorem gk:∀f:F,(parts true f).all (λg=>sat c g k)=sat c f k
 |.and a b=>by
  show(parts true a++parts true b).all _=_;rw[Qo,gk a,gk b];rfl
 |.or a b=>by simp[parts]
 |.yes=>by simp[parts]
 |.fact _=>by simp[parts]
 |.not _=>by simp[parts]
 |.before _=>by simp[parts]
 |.since _ _=>by simp[parts]
 |.next _=>by simp[parts]
 |.until _ _=>by simp[parts]
 |.within _ _=>by simp[parts]
 |.turn=>by simp[parts]
theorem g9:∀f:F,(parts false f).any (λg=>sat c g k)=sat c f k
 |.or a b=>by
  show(parts false a++parts false b).any _=_;rw[List.any_append,g9 a,g9 b];rfl
 |.and a b=>by simp[parts]
 |.yes=>by simp[parts]
 |.fact _=>by simp[parts]
 |.not _=>by simp[parts]
 |.before _=>by simp[parts]
 |.since _ _=>by simp[parts]
 |.next _=>by simp[parts]
 |.until _ _=>by simp[parts]
 |.within _ _=>by simp[parts]
 |.turn=>by simp[parts]
end
theorem Dp{f g:F}:∀{l:List F},g∈put f l↔g=f∨g∈l
 |[]=>by simp[put]
 |h::r=>by
  unfold put;by_cases e:code h=code f
  ·rw[Nz e];have:=ox e;subst this;simp
  ·rw[Nt e];by_cases e2:less (code f) (code h)=true
   ·rw[Nz e2];simp
   ·rw[Nt e2,ND,Dp (l:=r),ND];constructor
    ·rintro(h|h|h)
     ·exact .inr (.inl h)
     ·exact .inl h
     ·exact .inr (.inr h)
    ·rintro(h|h|h)
     ·exact .inr (.inl h)
     ·exact .inl h
     ·exact .inr (.inr h)
theorem oZ{g:F}:∀{l acc:List F},g∈l.foldl (λr f=>put f r) acc↔g∈l∨g∈acc
 |[],acc=>by simp
 |f::l,acc=>by
  rw[PD,oZ (l:=l),Dp,ND];constructor
  ·rintro(h|h|h)
   ·exact .inl (.inr h)
   ·exact .inl (.inl h)
   ·exact .inr h
  ·rintro((h|h)|h)
   ·exact .inr (.inl h)
   ·exact .inl h
   ·exact .inr (.inr h)
variable{l:List F}
theorem kJ{g:F}:g∈sorted l↔g∈l:=by
 unfold sorted;rw[oZ];simp
theorem AZ:isYes f=true↔f=.yes:=by
 unfold isYes;constructor
 ·intro h;exact ox (f:=f) (g:=.yes) (eq_of_beq h)
 ·rintro rfl;rfl
theorem Dx:isNo f=true↔f=.not .yes:=by
 unfold isNo;constructor
 ·intro h;exact ox (f:=f) (g:=.not .yes) (eq_of_beq h)
 ·rintro rfl;rfl
section
variable(c:List Nat)(k:Nat)
theorem qx:∀l:List F,sat c (join true l) k=l.all (λg=>sat c g k)
 |[]=>by simp[join,truth,sat]
 |[f]=>by simp[join]
 |f::g::r=>by
  show sat c (.and f (join true (g::r))) k=_;rw[sat,qx (g::r)];rfl
theorem sT:∀l:List F,sat c (join false l) k=l.any (λg=>sat c g k)
 |[]=>by simp[join,truth,no_,sat]
 |[f]=>by simp[join]
 |f::g::r=>by
  show sat c (.or f (join false (g::r))) k=_;rw[sat,sT (g::r)];rfl
variable{m:List F}
theorem all_congr_mem{p:F->Bool}(h:∀g,g∈l↔g∈m):l.all p=m.all p:=by
 rw[OO,Ow,Ow];exact⟨λa x hx=>a x ((h x).mpr hx),λa x hx=>a x ((h x).mp hx)⟩
theorem any_congr_mem{p:F->Bool}(h:∀g,g∈l↔g∈m):l.any p=m.any p:=by
 rw[OO,Oi,Oi];exact⟨λ⟨x,hx,a⟩=>⟨x,(h x).mp hx,a⟩,λ⟨x,hx,a⟩=>⟨x,(h x).mpr hx,a⟩⟩
theorem rT(a b:F):sat c (andOf a b) k=(sat c a k&&sat c b k):=by
 have e:(sorted (parts true a++parts true b)).all (λg=>sat c g k)=(sat c a k&&sat c b k):=by
  rw[all_congr_mem (λg=>kJ),Qo,gk,gk]
 unfold andOf;generalize sorted (parts true a++parts true b)=l at e ⊢;rw[<-e];show sat c (if l.any isNo=true then no_ else join true (l.filter λf=>!isYes f)) k=_;by_cases h:l.any isNo=true
 ·rw[Nz h];obtain⟨x,hx,hn⟩:=Oi.mp h;have:=Dx.mp hn;subst this;show sat c (.not .yes) k=_;have:l.all (λg=>sat c g k)=false:=by
   rw[List.all_eq_false];exact⟨_,hx,by simp[sat]⟩
  rw[this];rfl
 ·rw[Nt h,qx,List.all_filter];congr 1;funext g;cases hy:isYes g with
  |false=>simp
  |true=>
   have:=AZ.mp hy;subst this;simp[sat]
theorem u7(a b:F):sat c (orOf a b) k=(sat c a k||sat c b k):=by
 have e:(sorted (parts false a++parts false b)).any (λg=>sat c g k)=(sat c a k||sat c b k):=by
  rw[any_congr_mem (λg=>kJ),List.any_append,g9,g9]
 unfold orOf;generalize sorted (parts false a++parts false b)=l at e ⊢;rw[<-e];show sat c (if l.any isYes=true then .yes else join false (l.filter λf=>!isNo f)) k=_;by_cases h:l.any isYes=true
 ·rw[Nz h];obtain⟨x,hx,hn⟩:=Oi.mp h;have:=AZ.mp hn;subst this;have:l.any (λg=>sat c g k)=true:=by
   rw[Oi];exact⟨_,hx,by simp[sat]⟩
  rw[this];rfl
 ·rw[Nt h,sT,List.any_filter];congr 1;funext g;cases hy:isNo g with
  |false=>simp
  |true=>
   have:=Dx.mp hy;subst this;simp[sat]
end
structure Clo(P:F->Prop):Prop where
 yes:P .yes
 not:∀a,P (.not a)↔P a
 and:∀a b,P (.and a b)↔P a/\P b
 or:∀a b,P (.or a b)↔P a/\P b
theorem Clo.truth{P:F->Prop}(C:Clo P)(b:Bool):P (truth b):=by
 cases b
 ·exact(C.not _).mpr C.yes
 ·exact C.yes
variable{a:F}
theorem Clo.notOf{P:F->Prop}(C:Clo P)(h:P a):P (notOf a):=by
 cases a
 case not a=>exact(C.not a).mp h
 all_goals exact(C.not _).mpr h
theorem Clo.parts{P:F->Prop}(C:Clo P)(b:Bool):∀{f:F},P f->∀g∈parts b f,P g
 |.and x y,h,g,hg=>by
  unfold Vbtaak.parts at hg;by_cases e:b=true
  ·rw[Nz e]at hg;rcases Np.mp hg with hg|hg
   ·exact Clo.parts C b ((C.and _ _).mp h).1 g hg
   ·exact Clo.parts C b ((C.and _ _).mp h).2 g hg
  ·rw[Nt e]at hg;rw[Nu.mp hg];exact h
 |.or x y,h,g,hg=>by
  unfold Vbtaak.parts at hg;by_cases e:b=true
  ·rw[Nz e]at hg;rw[Nu.mp hg];exact h
  ·rw[Nt e]at hg;rcases Np.mp hg with hg|hg
   ·exact Clo.parts C b ((C.or _ _).mp h).1 g hg
   ·exact Clo.parts C b ((C.or _ _).mp h).2 g hg
 |.yes,h,g,hg=>by rw[Nu.mp hg];exact h
 |.fact _,h,g,hg=>by rw[Nu.mp hg];exact h
 |.not _,h,g,hg=>by rw[Nu.mp hg];exact h
 |.before _,h,g,hg=>by rw[Nu.mp hg];exact h
 |.since _ _,h,g,hg=>by rw[Nu.mp hg];exact h
 |.next _,h,g,hg=>by rw[Nu.mp hg];exact h
 |.until _ _,h,g,hg=>by rw[Nu.mp hg];exact h
 |.within _ _,h,g,hg=>by rw[Nu.mp hg];exact h
 |.turn,h,g,hg=>by rw[Nu.mp hg];exact h
theorem Clo.join{P:F->Prop}(C:Clo P)(b:Bool):∀{l:List F},(∀g∈l,P g)->P (join b l)
 |[],_=>C.truth b
 |[f],h=>h f NB
 |f::g::r,h=>by
  have h1:=h f NB;have h2:=Clo.join C b (l:=g::r) λx hx=>h x (Nn _ hx);show P (if b=true then .and f (Vbtaak.join b (g::r))else .or f (Vbtaak.join b (g::r)));by_cases e:b=true
  ·rw[Nz e];exact(C.and _ _).mpr ⟨h1,h2⟩
  ·rw[Nt e];exact(C.or _ _).mpr ⟨h1,h2⟩
theorem Clo.andOf{P:F->Prop}(C:Clo P){a b:F}(ha:P a)(hb:P b):P (andOf a b):=by
 have e:∀g∈sorted (Vbtaak.parts true a++Vbtaak.parts true b),P g:=λg hg=>by
  rcases Np.mp (kJ.mp hg)with h|h
  ·exact C.parts true ha g h
  ·exact C.parts true hb g h
 unfold Vbtaak.andOf;generalize sorted (Vbtaak.parts true a++Vbtaak.parts true b)=l at e ⊢;show P (if l.any isNo=true then no_ else Vbtaak.join true (l.filter λf=>!isYes f));by_cases h:l.any isNo=true
 ·rw[Nz h];exact C.truth false
 ·rw[Nt h];exact C.join true λg hg=>e g (ON.mp hg).1
theorem Clo.orOf{P:F->Prop}(C:Clo P){a b:F}(ha:P a)(hb:P b):P (orOf a b):=by
 have e:∀g∈sorted (Vbtaak.parts false a++Vbtaak.parts false b),P g:=λg hg=>by
  rcases Np.mp (kJ.mp hg)with h|h
  ·exact C.parts false ha g h
  ·exact C.parts false hb g h
 unfold Vbtaak.orOf;generalize sorted (Vbtaak.parts false a++Vbtaak.parts false b)=l at e ⊢;show P (if l.any isYes=true then .yes else Vbtaak.join false (l.filter λf=>!isNo f));by_cases h:l.any isYes=true
 ·rw[Nz h];exact C.truth true
 ·rw[Nt h];exact C.join false λg hg=>e g (ON.mp hg).1
def Fit(bs:List F)(f:F):Prop:=sound f=true/\∀g∈backs f,g∈bs
theorem DH(bs:List F):Clo (Fit bs):=by
 refine⟨⟨rfl,λ_ h=>nomatch h⟩,λa=>Iff.rfl,λa b=>?_,λa b=>?_⟩
 all_goals
  unfold Fit;simp only[sound,backs,Nv,Np];constructor
  ·rintro⟨⟨h1,h2⟩,h3⟩;exact⟨⟨h1,λg hg=>h3 g (.inl hg)⟩,h2,λg hg=>h3 g (.inr hg)⟩
  ·rintro⟨⟨h1,h2⟩,h3,h4⟩;exact⟨⟨h1,h3⟩,λg hg=>hg.elim (h2 g) (h4 g)⟩
theorem Gi{bs:List F}(m:Memory)(t:Nat):∀{f:F},Fit bs f->Fit bs (left m t f):=by
 intro f;have C:=DH bs;induction f with
 |yes=>intro h;exact h
 |fact i=>intro _;exact C.truth _
 |turn=>intro _;exact C.yes
 |before a _=>intro _;exact C.truth _
 |since a b _ _=>intro _;exact C.truth _
 |not a ih=>intro h;exact C.notOf (ih ((C.not a).mp h))
 |and a b iha ihb=>intro h;exact C.andOf (iha ((C.and a b).mp h).1) (ihb ((C.and a b).mp h).2)
 |or a b iha ihb=>intro h;exact C.orOf (iha ((C.or a b).mp h).1) (ihb ((C.or a b).mp h).2)
 |next a _=>
  intro h;exact C.andOf (a:=.turn) (b:=a) ⟨rfl,λ_ h=>nomatch h⟩ h
 |«until» a b iha ihb=>
  intro h;have h':Fit bs a/\Fit bs b:=(C.and a b).mp h;exact C.orOf (ihb h'.2) (C.andOf (iha h'.1) h)
 |within n a ih=>
  intro h;have h':Fit bs a:=h;cases n with
  |zero=>exact ih h'
  |succ n=>exact C.orOf (ih h') (b:=.within n a) h
variable{c:List Nat}{b:F}
theorem dP(h:0<c.length):sat c (.since a b) 0=sat c b 0:=by
 simp[sat,h]
variable{k:Nat}
theorem dQ(h:k+1<c.length):sat c (.since a b) (k+1)=(sat c b (k+1)||(sat c a (k+1)&&sat c (.since a b) k)):=by
 have h':k<c.length:=by omega
 rw[OO];simp only[sat,h,h',decide_true,Qp,Q2,Nv,Oi,Ow,NW];constructor
 ·rintro⟨j,hj,hb,ha⟩;by_cases e:j=k+1
  ·subst e;exact .inl hb
  ·refine .inr ⟨?_,j,by omega,hb,λm hm=>ha m (by omega)⟩;have:=ha (k-j) (by omega);rw[show j+1+(k-j)=k+1 by omega]at this;exact this
 ·rintro(hb|⟨ha,j,hj,hb,hm⟩)
  ·exact⟨k+1,by omega,hb,λm hm=>by omega⟩
  ·refine⟨j,by omega,hb,λm hm'=>?_⟩;by_cases e:m=k-j
   ·subst e;rw[show j+1+(k-j)=k+1 by omega];exact ha
   ·exact hm m (by omega)
theorem dm(h:k<c.length):sat c (.until a b) k=(sat c b k||(sat c a k&&sat c (.until a b) (k+1))):=by
 rw[OO];simp only[sat,Q2,Nv,Oi,Ow,NW];constructor
 ·rintro⟨j,hj,hb,ha⟩;cases j with
  |zero=>exact .inl hb
  |succ j=>
   refine .inr ⟨ha 0 (by omega),j,by omega,?_,λm hm=>?_⟩
   ·rw[show k+1+j=k+(j+1) by omega];exact hb
   ·rw[show k+1+m=k+(m+1) by omega];exact ha (m+1) (by omega)
 ·rintro(hb|⟨ha,j,hj,hb,hm⟩)
  ·exact⟨0,by omega,hb,λm hm=>by omega⟩
  ·refine⟨j+1,by omega,?_,λm hm'=>?_⟩
   ·rw[show k+(j+1)=k+1+j by omega];exact hb
   ·cases m with
    |zero=>exact ha
    |succ m=>rw[show k+(m+1)=k+1+m by omega];exact hm m (by omega)
theorem cI(h:k<c.length):sat c (.within 0 a) k=sat c a k:=by
 have e:min (0+1) (c.length-k)=1:=by omega
 simp only[sat,e];simp
theorem cJ{n:Nat}(h:k<c.length):sat c (.within (n+1) a) k=(sat c a k||sat c (.within n a) (k+1)):=by
 rw[OO];simp only[sat,Q2,Oi,NW];constructor
 ·rintro⟨j,hj,hb⟩;cases j with
  |zero=>exact .inl hb
  |succ j=>exact .inr ⟨j,by omega,by rw[show k+1+j=k+(j+1) by omega];exact hb⟩
 ·rintro(hb|⟨j,hj,hb⟩)
  ·exact⟨0,by omega,hb⟩
  ·exact⟨j+1,by omega,by rw[show k+(j+1)=k+1+j by omega];exact hb⟩
theorem gj(h:c.length<=k):sat c (.until a b) k=false:=by
 have e:c.length-k=0:=by omega
 simp[sat,e]
theorem dO{n:Nat}(h:c.length<=k):sat c (.within n a) k=false:=by
 have e:min (n+1) (c.length-k)=0:=by omega
 simp[sat,e]
theorem jX(c:List Nat):∀f:F,ends f=sat c f c.length
 |.yes=>rfl
 |.fact i=>by simp[ends,sat]
 |.not a=>by simp[ends,sat,jX c a]
 |.and a b=>by simp[ends,sat,jX c a,jX c b]
 |.or a b=>by simp[ends,sat,jX c a,jX c b]
 |.before a=>by simp[ends,sat]
 |.since a b=>by simp[ends,sat]
 |.next a=>by
  have e:¬c.length+1<c.length:=by omega
  simp[ends,sat,e]
 |.until a b=>by rw[gj (Nq _)];rfl
 |.within n a=>by rw[dO (Nq _)];rfl
 |.turn=>by simp[ends,sat]
theorem di(c e:List Nat):∀(f:F),past f=true->∀k,k<c.length->sat (c++e) f k=sat c f k:=by
 intro f;induction f with
 |yes=>intro _ k _;rfl
 |fact i=>
  intro _ k hk;have:k<(c++e).length:=by rw[Nk];omega
  simp only[sat,hk,this,decide_true,Qp];rw[Nj,Nj,NJ hk]
 |not a ih=>intro h k hk;simp only[sat,ih h k hk]
 |and a b iha ihb=>
  intro h k hk;simp only[past,Nv]at h;simp only[sat,iha h.1 k hk,ihb h.2 k hk]
 |or a b iha ihb=>
  intro h k hk;simp only[past,Nv]at h;simp only[sat,iha h.1 k hk,ihb h.2 k hk]
 |before a ih=>
  intro h k hk;have h2:k<(c++e).length:=by rw[Nk];omega
  simp only[sat,hk,h2,and_true];rw[ih h (k-1) (by omega)]
 |since a b iha ihb=>
  intro h k hk;simp only[past,Nv]at h;induction k with
  |zero=>rw[dP (by rw[Nk];omega),dP hk,ihb h.2 0 hk]
  |succ k ihk=>rw[dQ (by rw[Nk];omega),dQ hk,ihb h.2 _ hk,iha h.1 _ hk,ihk (by omega)]
 |next a _=>intro h;simp[past]at h
 |«until» a b _ _=>intro h;simp[past]at h
 |within n a _=>intro h;simp[past]at h
 |turn=>intro h;simp[past]at h
theorem eQ(bs:List F)(c:List Nat)(t:Nat):memoryOf bs (c++[t])=remembered (memoryOf bs c) t bs:=by
 unfold memoryOf;rw[Ox];rfl
variable{m:Memory}{t:Nat}
theorem lZ{bs:List F}(h:.before a∈bs):(remembered m t bs).contains (code (.before a))=now m t a:=by
 rw[OO,OE];unfold remembered;rw[NZ];constructor
 ·rintro⟨g,hg,e⟩;have:=ox e;subst this;exact(ON.mp hg).2
 ·intro hn;exact⟨_,ON.mpr ⟨h,hn⟩,rfl⟩
theorem mT{bs:List F}(h:.since a b∈bs):(remembered m t bs).contains (code (.since a b))=now m t (.since a b):=by
 rw[OO,OE];unfold remembered;rw[NZ];constructor
 ·rintro⟨g,hg,e⟩;have:=ox e;subst this;exact(ON.mp hg).2
 ·intro hn;exact⟨_,ON.mpr ⟨h,hn⟩,rfl⟩
theorem snoc_cases(c:List Nat):c=[]∨∃c' t,c=c'++[t]:=by
 rcases List.eq_nil_or_concat c with h|⟨l,b,h⟩
 ·exact .inl h
 ·exact .inr ⟨l,b,by rw[h,List.concat_eq_append]⟩
theorem og{bs:List F}:∀(f:F),past f=true->(∀g∈backs f,g∈bs)->∀(c:List Nat)(t:Nat),now (memoryOf bs c) t f=sat (c++[t]) f c.length:=by
 intro f;induction f with
 |yes=>intros;rfl
 |fact i=>
  intro _ _ c t;simp[now,sat]
 |not a ih=>intro h hb c t;simp only[now,sat,ih h hb c t]
 |and a b iha ihb=>
  intro h hb c t;simp only[past,Nv]at h;simp only[now,sat,iha h.1 (λg hg=>hb g (Np.mpr (.inl hg))) c t,ihb h.2 (λg hg=>hb g (Np.mpr (.inr hg))) c t]
 |or a b iha ihb=>
  intro h hb c t;simp only[past,Nv]at h;simp only[now,sat,iha h.1 (λg hg=>hb g (Np.mpr (.inl hg))) c t,ihb h.2 (λg hg=>hb g (Np.mpr (.inr hg))) c t]
 |before a ih=>
  intro h hb c t;rcases snoc_cases c with rfl|⟨c',t',rfl⟩
  ·simp[now,memoryOf,sat]
  ·show(memoryOf bs (c'++[t'])).contains (code (.before a))=_;rw[eQ,lZ (hb _ NB),ih h (λg hg=>hb g (Nn _ hg)) c' t'];have e:sat (c'++[t']++[t]) (.before a) (c'++[t']).length=sat (c'++[t']++[t]) a c'.length:=by
    simp[sat]
   rw[e];exact(di (c'++[t']) [t] a h c'.length (by simp)).symm
 |since a b iha ihb=>
  intro h hb c t;have h0:=h;simp only[past,Nv]at h;have hba:∀g∈backs a,g∈bs:=λg hg=>hb g (Nn _ (Np.mpr (.inl hg)));have hbb:∀g∈backs b,g∈bs:=λg hg=>hb g (Nn _ (Np.mpr (.inr hg)));generalize hn:c.length=n;induction n generalizing c t with
  |zero=>
   have:c=[]:=OH.mp hn;subst this;rw[dP (by simp)];show(now _ t b||(now _ t a&&(memoryOf bs []).contains _))=_;rw[ihb h.2 hbb];simp[memoryOf]
  |succ n ihn=>
   rcases snoc_cases c with rfl|⟨c',t',rfl⟩
   ·simp at hn
   ·have hl:c'.length=n:=by simpa using hn
    show(now _ t b||(now _ t a&&(memoryOf bs (c'++[t'])).contains (code (.since a b))))=_;rw[ihb h.2 hbb,iha h.1 hba,eQ,mT (hb _ NB),ihn c' t' hl];rw[hn,dQ (by simp;omega),di (c'++[t']) [t] (.since a b) h0 n (by simp[hl])]
 |next a _=>intro h;simp[past]at h
 |«until» a b _ _=>intro h;simp[past]at h
 |within n a _=>intro h;simp[past]at h
 |turn=>intro h;simp[past]at h
theorem FY{bs:List F}(c:List Nat)(t:Nat)(p:List Nat):∀(f:F),Fit bs f->sat (c++[t]++p) f c.length=sat (c++[t]++p) (left (memoryOf bs c) t f) (c.length+1):=by
 have C:=DH bs;have hl:c.length<(c++[t]++p).length:=by simp
 intro f;induction f with
 |yes=>intro _;rfl
 |fact i=>
  intro _;show _=sat _ (truth _) _;rw[rS];simp[sat]
 |not a ih=>
  intro h;show _=sat _ (notOf _) _;rw[Ee,<-ih ((C.not a).mp h)];rfl
 |and a b iha ihb=>
  intro h;show _=sat _ (andOf _ _) _;rw[rT,<-iha ((C.and a b).mp h).1,<-ihb ((C.and a b).mp h).2];rfl
 |or a b iha ihb=>
  intro h;show _=sat _ (orOf _ _) _;rw[u7,<-iha ((C.or a b).mp h).1,<-ihb ((C.or a b).mp h).2];rfl
 |before a _=>
  intro h;show _=sat _ (truth _) _;have hp:past (.before a)=true:=h.1;rw[rS,og (.before a) hp h.2,di (c++[t]) p _ hp c.length (by simp)]
 |since a b _ _=>
  intro h;show _=sat _ (truth _) _;have hp:past (.since a b)=true:=h.1;rw[rS,og (.since a b) hp h.2,di (c++[t]) p _ hp c.length (by simp)]
 |next a _=>
  intro _;show _=sat _ (andOf .turn a) _;rw[rT];rfl
 |«until» a b iha ihb=>
  intro h;have h':Fit bs a/\Fit bs b:=(C.and a b).mp h;show _=sat _ (orOf _ (andOf _ (.until a b))) _;rw[u7,rT,<-iha h'.1,<-ihb h'.2,dm hl]
 |within n a ih=>
  intro h;have h':Fit bs a:=h;cases n with
  |zero=>
   show _=sat _ (left _ t a) _;rw[cI hl];exact ih h'
  |succ n=>
   show _=sat _ (orOf (left _ t a) (.within n a)) _;rw[u7,<-ih h',cJ hl]
 |turn=>
  intro _;show decide _=true;exact NA hl
structure lS(bs:List F)(f:F)(k:Nat)(c:List Nat)(r:Run):Prop where
 mem:r.memory=memoryOf bs c
 fit:Fit bs r.rest
 eq:∀p,sat (c++p) f k=sat (c++p) r.rest c.length
variable{r:Run}
theorem lS.onward{bs:List F}(h:lS bs f k c r)(t:Nat):lS bs f k (c++[t]) (Vbtaak.onward bs r t):=by
 refine⟨?_,?_,λp=>?_⟩
 ·show remembered r.memory t bs=_;rw[h.mem,eQ]
 ·exact Gi _ _ h.fit
 ·have e:=h.eq (t::p);rw[show c++t::p=c++[t]++p by simp]at e;rw[e,FY c t p _ h.fit,Nk,<-h.mem];rfl
theorem lS.yz{bs:List F}{f:F}{k:Nat}:∀(p:List Nat){c:List Nat}{r:Run},lS bs f k c r->lS bs f k (c++p) (p.foldl (λr t=>Vbtaak.onward bs r t) r)
 |[],c,r,h=>by rw[NX];exact h
 |t::p,c,r,h=>by
  have:=lS.yz p (h.onward t);rw[NV]at this;exact this
theorem lS.ends{bs:List F}(h:lS bs f k c r):Vbtaak.ends r.rest=sat c f k:=by
 have:=h.eq [];rw[NX]at this;rw[jX c,this]
variable{s:State}{w:Wish}
theorem sV(hs:sound w.f=true)(hk:w.from_<=s.course.length):lS (backs w.f) w.f w.from_ s.course (runOf s w):=by
 have h0:lS (backs w.f) w.f w.from_ (s.course.take w.from_) {memory:=memoryOf (backs w.f) (s.course.take w.from_),rest:=w.f,path:=[]}:=
  ⟨rfl,⟨hs,λ_ h=>h⟩,λp=>by rw[N2,Nat.min_eq_left hk]⟩
 have h1:=h0.yz (s.course.drop w.from_);rw[OU]at h1;exact⟨h1.mem,h1.fit,h1.eq⟩
theorem F4(hs:sound w.f=true)(hk:w.from_<=s.course.length):ends (runOf s w).rest=sat s.course w.f w.from_:=
 (sV hs hk).ends
theorem vC:∀(xs ys:List F)(r s:List Nat),((xs.map code).flatMap λx=>x++[99])++(98::r)=((ys.map code).flatMap λx=>x++[99])++(98::s)->xs=ys/\r=s
 |[],[],r,s,h=>by simpa using h
 |[],y::ys,r,s,h=>by
  obtain⟨z,q,e,hz⟩:=xW y;simp[e]at h;omega
 |x::xs,[],r,s,h=>by
  obtain⟨z,q,e,hz⟩:=xW x;simp[e]at h;omega
 |x::xs,y::ys,r,s,h=>by
  simp only[N6,N5,NV]at h;obtain⟨h1,h2⟩:=code_inj x y _ _ h;injection h2 with _ h2;obtain⟨h3,h4⟩:=vC xs ys r s h2;exact⟨by rw[h1,h3],h4⟩
def ya(m:Memory):Prop:=∃fs:List F,m=fs.map code
theorem jO(m:Memory)(t:Nat)(bs:List F):ya (remembered m t bs):=⟨_,rfl⟩
theorem mU(bs:List F)(c:List Nat):ya (memoryOf bs c):=by
 rcases snoc_cases c with rfl|⟨c',t,rfl⟩
 ·exact⟨[],rfl⟩
 ·rw[eQ];exact⟨_,rfl⟩
theorem Dt{r':Run}(h:ya r.memory)(h':ya r'.memory)(e:key r=key r'):r.memory=r'.memory/\r.rest=r'.rest:=by
 obtain⟨fs,hf⟩:=h;obtain⟨gs,hg⟩:=h';unfold key at e;rw[hf,hg]at e;obtain⟨e1,e2⟩:=vC fs gs _ _ e;exact⟨by rw[hf,hg,e1],ox e2⟩
theorem sC:∀(l:List Run)(seen:List (List Nat)),fresh seen l=Gen.fresh key seen l
 |[],_=>rfl
 |r::l,seen=>by
  unfold fresh Gen.fresh;rw[sC l seen,sC l (key r::seen)]
theorem uV(ay:Nat)(bs:List F)(want:Bool):∀(n:Nat)(seen:List (List Nat))(l:List Run),
  search ay bs want n seen l=Gen.search key (onward bs) (λr=>ends r.rest==want) (·.path) ay n seen l
 |0,_,_=>rfl
 |n+1,seen,l=>by
  unfold search Gen.search;rw[sC,uV ay bs want n];cases l.find? (λr=>ends r.rest==want)<;>rfl
theorem qy(bs:List F):∀(p:List Nat)(r r':Run),r.memory=r'.memory->r.rest=r'.rest->(Gen.run (onward bs) r p).rest=(Gen.run (onward bs) r' p).rest
 |[],_,_,_,h=>h
 |t::p,r,r',h1,h2=>qy bs p (onward bs r t) (onward bs r' t) (by show remembered _ _ _=remembered _ _ _;rw[h1]) (by show left _ _ _=left _ _ _;rw[h1,h2])
theorem BR{ay:Nat}{bs:List F}(want:Bool)(n:Nat)(h:lS bs f k c r)(hp:r.path=[]):
  search ay bs want n [key r] [r]=Gen.bu ay n λp=>sat (c++p) f k==want:=by
 rw[uV,Gen.qp (Ok:=λr=>ya r.memory) (λ_ _=>rfl) (λr t _=>jO _ _ _) (λr r' h h' e p=>?_) (λr r' t h h' e=>?_) n r (by rw[h.mem];exact mU _ _) hp]
 ·refine congrArg _ (funext λp=>?_);have:=(h.yz p).ends;show(ends (Gen.run (onward bs) r p).rest==want)=_;rw[<-this];rfl
 ·obtain⟨e1,e2⟩:=Dt h h' e;show(ends (Gen.run (onward bs) r p).rest==want)=(ends (Gen.run (onward bs) r' p).rest==want);rw[qy bs p r r' e1 e2]
 ·obtain⟨e1,e2⟩:=Dt h h' e;show key {memory:=remembered r.memory t bs,rest:=left r.memory t r.rest,path:=_}=key {memory:=remembered r'.memory t bs,rest:=left r'.memory t r'.rest,path:=_};rw[e1,e2];rfl
theorem A1(hs:sound w.f=true)(hk:w.from_<=s.course.length)(ay:Nat)(want:Bool)(n:Nat):
  search ay (backs w.f) want n [key (runOf s w)] [runOf s w]=Gen.bu ay n λp=>sat (s.course++p) w.f w.from_==want:=
 BR want n (sV hs hk) rfl
def mQ(f g:F)(c:List Nat)(on:Bool)(t:Nat):Bool:=if on=true then !sat (c++[t]) g c.length else sat (c++[t]) f c.length
def aT(f g:F):List Nat->Bool->List Nat->Bool
 |_,on,[]=>on
 |c,on,t::p=>aT f g (c++[t]) (mQ f g c on t) p
theorem zQ{bs:List F}{s:Scene}(hp:past s.begins=true)(hq:past s.ends_=true)(hb:∀g∈backs s.begins,g∈bs)(he:∀g∈backs s.ends_,g∈bs)(c:List Nat)(t k:Nat):
  (step1 (memoryOf bs c) t k s).on=mQ s.begins s.ends_ c s.on t/\(step1 (memoryOf bs c) t k s).begins=s.begins/\(step1 (memoryOf bs c) t k s).ends_=s.ends_:=by
 unfold step1 mQ;rw[og _ hp hb,og _ hq he];cases h1:s.on<;>cases h2:sat (c++[t]) s.begins c.length<;>cases h3:sat (c++[t]) s.ends_ c.length<;>simp_all
theorem gZ(m:Memory)(t k:Nat)(s:Scene):(step1 m t k s).begins=s.begins/\(step1 m t k s).ends_=s.ends_:=by
 unfold step1;split
 ·split<;>exact⟨rfl,rfl⟩
 ·split<;>exact⟨rfl,rfl⟩
theorem mm{s s':Scene}(h1:s.begins=s'.begins)(h2:s.ends_=s'.ends_)(h3:s.on=s'.on):(step1 m t k s).on=(step1 m t k s').on:=by
 unfold step1;rw[h1,h2,h3];split
 ·split
  ·rfl
  ·exact h3
 ·split
  ·rfl
  ·exact h3
def dt(bs:List F)(p:Play)(t:Nat):Play:={memory:=remembered p.memory t bs,a:=step1 p.memory t 0 p.a,b:=step1 p.memory t 0 p.b,path:=t::p.path}
theorem iM:∀(l:List Play)(seen:List (List Nat)),freshPlays seen l=Gen.fresh playKey seen l
 |[],_=>rfl
 |r::l,seen=>by
  unfold freshPlays Gen.fresh;rw[iM l seen,iM l (playKey r::seen)]
theorem Bm(ay:Nat)(bs:List F):∀(n:Nat)(seen:List (List Nat))(l:List Play),
  both ay bs n seen l=Gen.search playKey (dt bs) (λp=>p.a.on&&p.b.on) (·.path) ay n seen l
 |0,_,_=>rfl
 |n+1,seen,l=>by
  unfold both Gen.search;rw[iM,Bm ay bs n];cases l.find? (λp=>p.a.on&&p.b.on)<;>rfl
structure qg(bs:List F)(A B:Scene)(c:List Nat)(oa ob:Bool)(p:Play):Prop where
 mem:p.memory=memoryOf bs c
 a1:p.a.begins=A.begins
 a2:p.a.ends_=A.ends_
 a3:p.a.on=oa
 b1:p.b.begins=B.begins
 b2:p.b.ends_=B.ends_
 b3:p.b.on=ob
structure E5(bs:List F)(A:Scene):Prop where
 p1:past A.begins=true
 p2:past A.ends_=true
 m1:∀g∈backs A.begins,g∈bs
 m2:∀g∈backs A.ends_,g∈bs
variable{A B:Scene}{oa ob:Bool}
theorem qg.on{bs:List F}(hA:E5 bs A)(hB:E5 bs B){p:Play}(h:qg bs A B c oa ob p)(t:Nat):
  qg bs A B (c++[t]) (mQ A.begins A.ends_ c oa t) (mQ B.begins B.ends_ c ob t) (dt bs p t):=by
 obtain⟨x1,x2,x3⟩:=zQ (bs:=bs) (s:=p.a) (by rw[h.a1];exact hA.p1) (by rw[h.a2];exact hA.p2) (by rw[h.a1];exact hA.m1) (by rw[h.a2];exact hA.m2) c t 0;obtain⟨y1,y2,y3⟩:=zQ (bs:=bs) (s:=p.b) (by rw[h.b1];exact hB.p1) (by rw[h.b2];exact hB.p2) (by rw[h.b1];exact hB.m1) (by rw[h.b2];exact hB.m2) c t 0;rw[<-h.mem]at x1 x2 x3 y1 y2 y3;refine⟨?_,?_,?_,?_,?_,?_,?_⟩
 ·show remembered p.memory t bs=_;rw[h.mem,eQ]
 ·exact x2.trans h.a1
 ·exact x3.trans h.a2
 ·refine x1.trans ?_;rw[h.a1,h.a2,h.a3]
 ·exact y2.trans h.b1
 ·exact y3.trans h.b2
 ·refine y1.trans ?_;rw[h.b1,h.b2,h.b3]
theorem qg.ons{bs:List F}{A B:Scene}(hA:E5 bs A)(hB:E5 bs B):∀(q:List Nat){c:List Nat}{oa ob:Bool}{p:Play},qg bs A B c oa ob p->
  (Gen.run (dt bs) p q).a.on=aT A.begins A.ends_ c oa q/\(Gen.run (dt bs) p q).b.on=aT B.begins B.ends_ c ob q
 |[],_,_,_,_,h=>⟨h.a3,h.b3⟩
 |t::q,_,_,_,_,h=>qg.ons hA hB q (h.on hA hB t)
theorem DQ{a b:Bool}(h:bit a=bit b):a=b:=by
 cases a<;>cases b<;>simp[bit]at h<;>rfl
structure qf(A B:Scene)(p:Play):Prop where
 mem:ya p.memory
 a1:p.a.begins=A.begins
 a2:p.a.ends_=A.ends_
 b1:p.b.begins=B.begins
 b2:p.b.ends_=B.ends_
theorem sX{p q:Play}(h:qf A B p)(h':qf A B q)(e:playKey p=playKey q):p.memory=q.memory/\p.a.on=q.a.on/\p.b.on=q.b.on:=by
 obtain⟨fs,hf⟩:=h.mem;obtain⟨gs,hg⟩:=h'.mem;unfold playKey at e;rw[hf,hg]at e;obtain⟨e1,e2⟩:=vC fs gs _ _ e;injection e2 with e2 e3;injection e3 with e3 _;exact⟨by rw[hf,hg,e1],DQ e2,DQ e3⟩
theorem rY(bs:List F){p:Play}(t:Nat)(h:qf A B p):qf A B (dt bs p t):=
 ⟨jO _ _ _,(gZ _ _ _ _).1.trans h.a1,(gZ _ _ _ _).2.trans h.a2,(gZ _ _ _ _).1.trans h.b1,(gZ _ _ _ _).2.trans h.b2⟩
theorem rX{A B:Scene}{bs:List F}:∀(w:List Nat){p q:Play},qf A B p->qf A B q->p.memory=q.memory->p.a.on=q.a.on->p.b.on=q.b.on->
  (Gen.run (dt bs) p w).a.on=(Gen.run (dt bs) q w).a.on/\(Gen.run (dt bs) p w).b.on=(Gen.run (dt bs) q w).b.on
 |[],_,_,_,_,_,h2,h3=>⟨h2,h3⟩
 |t::w,p,q,hp,hq,h1,h2,h3=>by
  refine rX w (rY bs t hp) (rY bs t hq) ?_ ?_ ?_
  ·show remembered _ _ _=remembered _ _ _;rw[h1]
  ·show(step1 _ _ _ _).on=(step1 _ _ _ _).on;rw[h1];exact mm (hp.a1.trans hq.a1.symm) (hp.a2.trans hq.a2.symm) h2
  ·show(step1 _ _ _ _).on=(step1 _ _ _ _).on;rw[h1];exact mm (hp.b1.trans hq.b1.symm) (hp.b2.trans hq.b2.symm) h3
theorem CH{ay:Nat}{bs:List F}(hA:E5 bs A)(hB:E5 bs B){p:Play}(n:Nat)(h:qg bs A B c oa ob p)(hp:p.path=[]):
  both ay bs n [playKey p] [p]=Gen.bu ay n λq=>aT A.begins A.ends_ c oa q&&aT B.begins B.ends_ c ob q:=by
 rw[Bm,Gen.qp (Ok:=qf A B) (λ_ _=>rfl) (λr t h=>rY bs t h) (λr r' h h' e w=>?_) (λr r' t h h' e=>?_) n p ⟨by rw[h.mem];exact mU _ _,h.a1,h.a2,h.b1,h.b2⟩ hp]
 ·refine congrArg _ (funext λq=>?_);obtain⟨e1,e2⟩:=h.ons hA hB q;show((Gen.run (dt bs) p q).a.on&&(Gen.run (dt bs) p q).b.on)=_;rw[e1,e2]
 ·obtain⟨e1,e2,e3⟩:=sX h h' e;obtain⟨x1,x2⟩:=rX (bs:=bs) w h h' e1 e2 e3;show((Gen.run (dt bs) r w).a.on&&(Gen.run (dt bs) r w).b.on)=_;rw[x1,x2]
 ·obtain⟨e1,e2,e3⟩:=sX h h' e;obtain⟨x1,x2⟩:=rX (bs:=bs) [t] h h' e1 e2 e3;have x3:(dt bs r t).memory=(dt bs r' t).memory:=by
   show remembered _ _ _=remembered _ _ _;rw[e1]
  have x1':(dt bs r t).a.on=(dt bs r' t).a.on:=x1;have x2':(dt bs r t).b.on=(dt bs r' t).b.on:=x2;unfold playKey;rw[x3,x1',x2']
theorem mh(pA:past A.begins=true/\past A.ends_=true)(pB:past B.begins=true/\past B.ends_=true)(ay n:Nat):
  both ay (backs A.begins++(backs A.ends_++(backs B.begins++backs B.ends_))) n [playKey (plays s A B)] [plays s A B]
   = Gen.bu ay n λq=>aT A.begins A.ends_ s.course A.on q&&aT B.begins B.ends_ s.course B.on q:=
 CH (A:=A) (B:=B) ⟨pA.1,pA.2,λg hg=>by simp[hg],λg hg=>by simp[hg]⟩ ⟨pB.1,pB.2,λg hg=>by simp[hg],λg hg=>by simp[hg]⟩ n ⟨rfl,rfl,rfl,rfl,rfl,rfl,rfl⟩ rfl
theorem uW{x:Scene}(p1:past x.begins=true)(p2:past x.ends_=true)(c:List Nat)(t k:Nat):
  step1 (memoryOf (backs x.begins++backs x.ends_) c) t k x=
   if x.on=true then(if sat (c++[t]) x.ends_ c.length=true then {x with on:=false,since:=0}else x)
   else if sat (c++[t]) x.begins c.length=true then {x with on:=true,since:=k,times:=x.times+1}else x:=by
 unfold step1;rw[og _ p1 (λg hg=>Np.mpr (.inl hg)),og _ p2 (λg hg=>Np.mpr (.inr hg))]
end Vbs
namespace Mir
open Vbtaak Vbs
theorem uD(a b:Bool):bit a&&&bit b=bit (a&&b):=by cases a<;>cases b<;>rfl
theorem zm(a b:Bool):bit a|||bit b=bit (a||b):=by cases a<;>cases b<;>rfl
theorem DP(a:Bool):1-bit a=bit (!a):=by cases a<;>rfl
theorem uC{a:Bool}:bit a=1↔a=true:=by cases a<;>simp[bit]
theorem CI(a:Bool):bit a<=1:=by cases a<;>simp[bit]
theorem xp(t i:Nat):(t >>> i)&&&1=bit (t.testBit i):=by
 rw[Nat.testBit_eq_decide_div_mod_eq,Oc,Nat.and_one_is_mod];rcases Nat.mod_two_eq_zero_or_one (t/2^i)with h|h<;>simp[h,bit]
structure Pt where
 kind:Nat
 number:Nat
 first:Nat
 second:Nat
deriving DecidableEq
inductive Node(fs:List F)(i:Nat):Pt->F->Prop
 |yes {n x y:Nat}:Node fs i ⟨0,n,x,y⟩ .yes
 |fact {n x y:Nat}:Node fs i ⟨1,n,x,y⟩ (.fact n)
 |not {n x y:Nat} {a:F}:i<x->fs[x]?=some a->Node fs i ⟨2,n,x,y⟩ (.not a)
 |and {n x y:Nat} {a b:F}:i<x->i<y->fs[x]?=some a->fs[y]?=some b->Node fs i ⟨3,n,x,y⟩ (.and a b)
 |or {n x y:Nat} {a b:F}:i<x->i<y->fs[x]?=some a->fs[y]?=some b->Node fs i ⟨4,n,x,y⟩ (.or a b)
 |before {n x y:Nat} {a:F}:i<x->fs[x]?=some a->Node fs i ⟨5,n,x,y⟩ (.before a)
 |since {n x y:Nat} {a b:F}:i<x->i<y->fs[x]?=some a->fs[y]?=some b->Node fs i ⟨6,n,x,y⟩ (.since a b)
 |next {n x y:Nat} {a:F}:i<x->fs[x]?=some a->Node fs i ⟨7,n,x,y⟩ (.next a)
 |til {n x y:Nat} {a b:F}:i<x->i<y->fs[x]?=some a->fs[y]?=some b->Node fs i ⟨8,n,x,y⟩ (.until a b)
 |within {n x y:Nat} {a:F}:i<x->fs[x]?=some a->Node fs i ⟨9,n,x,y⟩ (.within n a)
structure Rep(P:List Pt)(fs:List F):Prop where
 len:fs.length=P.length
 node:∀(i:Nat)(p:Pt)(f:F),P[i]?=some p->fs[i]?=some f->Node fs i p f
 snd:∀f∈fs,sound f=true
def atAny(p:Pt)(h:List Nat):Nat:=
 if p.kind=0 then 1 else if p.kind=2 then 1-h.getD p.first 0 else if p.kind=3 then h.getD p.first 0&&&h.getD p.second 0 else h.getD p.first 0|||h.getD p.second 0
def reach(p:Pt)(h:List Nat)(o:Nat):Nat:=if h.getD p.first 0=1 then p.number+1 else o-1
def ed(p:Pt)(h:List Nat)(t m o:Nat):Nat:=
 if p.kind=1 then(t >>> p.number)&&&1 else if p.kind=5 then m else if p.kind=6 then h.getD p.second 0|||(h.getD p.first 0&&&m)
 else if p.kind=7 then o else if p.kind=8 then h.getD p.second 0|||(h.getD p.first 0&&&o)else if 0<reach p h o then 1 else 0
def p4(k:Nat):Bool:=k==0||k==2||k==3||k==4
def down(n:Nat)(f:Nat->List Nat->Option Nat)(h0:List Nat):Nat->List Nat
 |0=>h0
 |m+1=>match f (n-1-m) (down n f h0 m)with
  |some v=>(down n f h0 m).set (n-1-m) v
  |none=>down n f h0 m
theorem cR(n:Nat)(f:Nat->List Nat->Option Nat)(h0:List Nat):∀m,(down n f h0 m).length=h0.length
 |0=>rfl
 |m+1=>by
  unfold down;split
  ·rw[PV,cR n f h0 m]
  ·exact cR n f h0 m
theorem DK{n:Nat}{f:Nat->List Nat->Option Nat}{v:Nat->Nat}(step:∀i h,i<n->h.length=n->(∀j,i<j->j<n->h.getD j 0=v j)->(f i h=some (v i)∨(f i h=none/\v i=0))):
  ∀m,m<=n->∀j,j<n->(down n f (List.replicate n 0) m).getD j 0=if n-m<=j then v j else 0
 |0,_,j,hj=>by
  rw[Nt (by omega)];simp[down,Nj,hj]
 |m+1,hm,j,hj=>by
  have ih:=DK step m (by omega);have hl:(down n f (List.replicate n 0) m).length=n:=by rw[cR];simp
  have st:=step (n-1-m) (down n f (List.replicate n 0) m) (by omega) hl λj' h1 h2=>by rw[ih j' h2,Nz (by omega)]
  unfold down;rcases st with e|⟨e,e0⟩
  ·rw[e];show((down n f (List.replicate n 0) m).set (n-1-m) (v (n-1-m))).getD j 0=_;by_cases hj':j=n-1-m
   ·subst hj';rw[Nz (by omega),Nj,Oq (by omega)];rfl
   ·rw[Nj,Oy (by omega),<-Nj,ih j hj];by_cases h3:n-m<=j
    ·rw[Nz h3,Nz (by omega)]
    ·rw[Nt h3,Nt (by omega)]
  ·rw[e];show(down n f (List.replicate n 0) m).getD j 0=_;rw[ih j hj];by_cases hj':j=n-1-m
   ·subst hj';rw[Nt (by omega),Nz (by omega),e0]
   ·by_cases h3:n-m<=j
    ·rw[Nz h3,Nz (by omega)]
    ·rw[Nt h3,Nt (by omega)]
def sD(P:List Pt)(i:Nat)(h:List Nat):Option Nat:=match P[i]? with
 |some p=>if p4 p.kind=true then some (atAny p h)else none
 |none=>none
def jB(P:List Pt)(t:Nat)(mem out:List Nat)(i:Nat)(h:List Nat):Option Nat:=match P[i]? with
 |some p=>some (if p4 p.kind=true then atAny p h else ed p h t (mem.getD i 0) (out.getD i 0))
 |none=>none
def eT(P:List Pt):List Nat:=down P.length (sD P) (List.replicate P.length 0) P.length
def dM(P:List Pt)(t:Nat)(mem out:List Nat):List Nat:=down P.length (jB P t mem out) (List.replicate P.length 0) P.length
def yS(P:List Pt):List Nat:=List.replicate P.length 0
def last(P:List Pt):List Nat:=List.replicate P.length 0++[(eT P).getD 0 0]
def yQ(h:List Nat)(i:Nat)(p:Pt):Nat:=if p.kind=5 then h.getD p.first 0 else if p.kind=6 then h.getD i 0 else 0
def gE(P:List Pt)(h:List Nat):List Nat:=P.mapIdx (yQ h)
def dR(h out:List Nat)(i:Nat)(p:Pt):Nat:=if p.kind=7 then h.getD p.first 0 else if p.kind=8 then h.getD i 0 else if p.kind=9 then reach p h (out.getD i 0)else 0
def dC(P:List Pt)(h out:List Nat):List Nat:=P.mapIdx (dR h out)++[h.getD 0 0]
def bB(P:List Pt)(t:Nat)(mem:List Nat):List Nat:=gE P (dM P t mem (last P))
def aZ(P:List Pt)(t:Nat)(mem out:List Nat):List Nat:=dC P (dM P t mem out) out
def bE(c:List Nat)(n:Nat)(a:F)(k:Nat):Nat:=if h:k<c.length then(if sat c a k=true then n+1 else bE c n a (k+1)-1)else 0
termination_by c.length-k
theorem BW(c:List Nat)(n:Nat)(a:F)(k:Nat):bE c n a k<=n+1:=by
 generalize hd:c.length-k=d;induction d generalizing k with
 |zero=>
  unfold bE;rw[dif_neg (by omega)];omega
 |succ d ih=>
  unfold bE;rw[dif_pos (by omega)];have:=ih (k+1) (by omega);split<;>omega
theorem vh(c:List Nat)(n:Nat)(a:F)(k:Nat):∀j,j<=n->(j<bE c n a k↔sat c (.within (n-j) a) k=true):=by
 generalize hd:c.length-k=d;induction d generalizing k with
 |zero=>
  intro j hj;unfold bE;rw[dif_neg (by omega),dO (by omega)];simp
 |succ d ih=>
  intro j hj;have hk:k<c.length:=by omega
  unfold bE;rw[dif_pos hk];by_cases hs:sat c a k=true
  ·rw[Nz hs];constructor
   ·intro _;by_cases hz:n-j=0
    ·rw[hz,cI hk];exact hs
    ·obtain⟨m,hm⟩:∃m,n-j=m+1:=⟨n-j-1,by omega⟩;rw[hm,cJ hk,hs];rfl
   ·intro _;omega
  ·rw[Nt hs];have hs':sat c a k=false:=by simpa using hs
   by_cases hz:n-j=0
   ·rw[hz,cI hk,hs'];have:=BW c n a (k+1);constructor
    ·intro;omega
    ·intro h;cases h
   ·obtain⟨m,hm⟩:∃m,n-j=m+1:=⟨n-j-1,by omega⟩;rw[hm,cJ hk,hs',Bool.false_or];have:=ih (k+1) (by omega) (j+1) (by omega);rw[show n-(j+1)=m by omega]at this;rw[<-this];omega
def Aa(c:List Nat)(fs:List F)(k i:Nat):Nat:=match fs[i]? with
 |some f=>bit (sat c f k)
 |none=>0
def qR(c:List Nat)(k:Nat):F->Nat
 |.before a=>bit (decide (0<k)&&sat c a (k-1))
 |.since a b=>bit (decide (0<k)&&sat c (.since a b) (k-1))
 |_=>0
def oE(c:List Nat)(k:Nat):F->Nat
 |.next a=>bit (decide (k<c.length)&&sat c a k)
 |.until a b=>bit (sat c (.until a b) k)
 |.within n a=>bE c n a k
 |_=>0
def jN(c:List Nat)(fs:List F)(k:Nat):List Nat:=fs.map (qR c k)
def hC(c:List Nat)(fs:List F)(k:Nat):List Nat:=fs.map (oE c k)++[Aa c fs k 0]
def pN(c:List Nat)(fs:List F)(k:Nat):List Nat:=fs.map λf=>bit (sat c f k)
variable{i:Nat}
theorem getD_map{α:Type}{l:List α}{a:α}(f:α->Nat)(h:l[i]?=some a):(l.map f).getD i 0=f a:=by
 rw[Nj,NC,h];rfl
variable{m:List Nat}
theorem lO{α:Type}{l:List α}{a:α}(f:α->Nat)(h:l[i]?=some a):(l.map f++m).getD i 0=f a:=by
 have hi:i<l.length:=(Nh.mp h).1;rw[Nj,NJ (by rw[Nf];exact hi),NC,h];rfl
theorem Gj{l:List Nat}(hl:l.length=m.length)(h:∀i,i<l.length->l.getD i 0=m.getD i 0):l=m:=by
 refine Qc hl λi h1 h2=>?_;have:=h i h1;rw[Nj,Nj,Ng h1,Ng h2]at this;exact this
variable{c:List Nat}{k:Nat}{f:F}
theorem fG{fs:List F}(h:fs[i]?=some f):Aa c fs k i=bit (sat c f k):=by
 unfold Aa;rw[h]
theorem xU{n:Nat}{f:Nat->List Nat->Option Nat}{v:Nat->Nat}(step:∀i h,i<n->h.length=n->(∀j,i<j->j<n->h.getD j 0=v j)->(f i h=some (v i)∨(f i h=none/\v i=0)))(hm:m.length=n)(hv:∀j,j<n->m.getD j 0=v j):
  down n f (List.replicate n 0) n=m:=by
 refine Gj (by rw[cR,N1,hm]) λi hi=>?_;have hi':i<n:=by rw[cR,N1]at hi;exact hi
 rw[DK step n (Nq _) i hi',Nz (by omega),hv i hi']
section
variable{P:List Pt}{fs:List F}(R:Rep P fs)
include R
theorem Rep.get(hi:i<P.length):∃p f,P[i]?=some p/\fs[i]?=some f/\Node fs i p f:=by
 have h1:P[i]?=some P[i]:=Ng hi;have h2:fs[i]?=some (fs[i]'(by rw[R.len];exact hi)):=Ng _;exact⟨_,_,h1,h2,R.node i _ _ h1 h2⟩
theorem Rep.lt(h:fs[i]?=some f):i<P.length:=by
 rw[<-R.len];exact(Nh.mp h).1
theorem A3(c:List Nat):eT P=pN c fs c.length:=by
 unfold eT;refine xU (v:=Aa c fs c.length) (λi h hi hl hj=>?_) (by unfold pN;rw[Nf,R.len]) λj hj=>?_
 ·obtain⟨p,f,h1,h2,nd⟩:=R.get hi;have hv:∀{x:Nat}{a:F},i<x->fs[x]?=some a->h.getD x 0=bit (sat c a c.length):=λhx ha=>by
   rw[hj _ hx (R.lt ha),fG ha]
  rw[fG h2];unfold sD;rw[h1];cases nd with
  |yes=>exact .inl rfl
  |fact=>exact .inr ⟨rfl,by simp[sat,bit]⟩
  |not a1 a2=>
   left
   show some (1-h.getD _ 0)=_;rw[hv a1 a2,DP];rfl
  |and a1 b1 a2 b2=>
   left
   show some (h.getD _ 0&&&h.getD _ 0)=_;rw[hv a1 a2,hv b1 b2,uD];rfl
  |or a1 b1 a2 b2=>
   left
   show some (h.getD _ 0|||h.getD _ 0)=_;rw[hv a1 a2,hv b1 b2,zm];rfl
  |before _ _=>exact .inr ⟨rfl,by simp[sat,bit]⟩
  |since _ _ _ _=>exact .inr ⟨rfl,by simp[sat,bit]⟩
  |next _ _=>
   have e:¬c.length+1<c.length:=by omega
   exact .inr ⟨rfl,by simp[sat,bit,e]⟩
  |til _ _ _ _=>exact .inr ⟨rfl,by rw[gj (Nq _)];rfl⟩
  |within _ _=>exact .inr ⟨rfl,by rw[dO (Nq _)];rfl⟩
 ·obtain⟨p,f,h1,h2,nd⟩:=R.get hj;unfold pN;rw[getD_map _ h2,fG h2]
theorem rV(c:List Nat)(k:Nat):(pN c fs k).getD 0 0=Aa c fs k 0:=by
 cases h:fs[0]? with
 |some f=>rw[fG h];exact getD_map _ h
 |none=>
  unfold Aa;rw[h];unfold pN;rw[Nj,NC,h];rfl
theorem uv(c:List Nat):last P=hC c fs c.length:=by
 unfold last hC;rw[A3 R c,rV R];congr 1;refine Qc (by simp[R.len]) λi h1 h2=>?_;rw[Qt,QQ];rw[Nf]at h2;generalize fs[i]=f;cases f with
 |next a=>simp[oE,bit]
 |«until» a b=>
  show 0=bit (sat _ _ _);rw[gj (Nq _)];rfl
 |within n a=>
  show 0=bE c n a c.length;unfold bE;rw[dif_neg (by omega)]
 |_=>rfl
theorem p9{t:Nat}(hk:c[k]?=some t):dM P t (jN c fs k) (hC c fs (k+1))=pN c fs k:=by
 have hkl:k<c.length:=(Nh.mp hk).1;unfold dM;refine xU (v:=Aa c fs k) (λi h hi hl hj=>?_) (by unfold pN;rw[Nf,R.len]) λj hj=>?_
 ·obtain⟨p,f,h1,h2,nd⟩:=R.get hi;have hv:∀{x:Nat}{a:F},i<x->fs[x]?=some a->h.getD x 0=bit (sat c a k):=λhx ha=>by
   rw[hj _ hx (R.lt ha),fG ha]
  left
  rw[fG h2];unfold jB;rw[h1];have hm:(jN c fs k).getD i 0=qR c k f:=getD_map _ h2;have ho:(hC c fs (k+1)).getD i 0=oE c (k+1) f:=lO _ h2;cases nd with
  |yes=>rfl
  |fact=>
   show some ((t >>> _)&&&1)=_;have e:c.getD k 0=t:=by rw[Nj,hk];rfl
   rw[xp];simp only[sat,hkl,e,decide_true,Qp]
  |not a1 a2=>
   show some (1-h.getD _ 0)=_;rw[hv a1 a2,DP];rfl
  |and a1 b1 a2 b2=>
   show some (h.getD _ 0&&&h.getD _ 0)=_;rw[hv a1 a2,hv b1 b2,uD];rfl
  |or a1 b1 a2 b2=>
   show some (h.getD _ 0|||h.getD _ 0)=_;rw[hv a1 a2,hv b1 b2,zm];rfl
  |before _ _=>
   show some ((jN c fs k).getD i 0)=_;rw[hm];show some (bit _)=some (bit _);simp[sat,hkl]
  |since a1 b1 a2 b2=>
   show some (h.getD _ 0|||(h.getD _ 0&&&(jN c fs k).getD i 0))=_;rw[hm,hv a1 a2,hv b1 b2];show some (_|||(_&&&bit _))=_;rw[uD,zm];cases k with
   |zero=>rw[dP hkl];simp
   |succ k=>rw[dQ hkl];simp
  |next _ _=>
   show some ((hC c fs (k+1)).getD i 0)=_;rw[ho];rfl
  |til a1 b1 a2 b2=>
   show some (h.getD _ 0|||(h.getD _ 0&&&(hC c fs (k+1)).getD i 0))=_;rw[ho,hv a1 a2,hv b1 b2];show some (_|||(_&&&bit _))=_;rw[uD,zm,dm hkl]
  |@within n x y a a1 a2=>
   show some (if 0<reach ⟨9,n,x,y⟩ h ((hC c fs (k+1)).getD i 0)then 1 else 0)=_;rw[ho];have e:reach ⟨9,n,x,y⟩ h (oE c (k+1) (.within n a))=bE c n a k:=by
    unfold reach;show(if h.getD x 0=1 then n+1 else bE c n a (k+1)-1)=_;rw[hv a1 a2]
    conv=>rhs;unfold bE
    rw[dif_pos hkl];by_cases hs:sat c a k=true
    ·rw[Nz hs,Nz (uC.mpr hs)]
    ·rw[Nt hs,Nt (λz=>hs (uC.mp z))]
   rw[e];have:=vh c n a k 0 (NT _);rw[Nat.sub_zero]at this;by_cases hs:sat c (.within n a) k=true
   ·rw[Nz (this.mpr hs),hs];rfl
   ·rw[Nt (λz=>hs (this.mp z))];have hs':sat c (.within n a) k=false:=by simpa using hs
    rw[hs'];rfl
 ·obtain⟨p,f,h1,h2,nd⟩:=R.get hj;unfold pN;rw[getD_map _ h2,fG h2]
theorem xJ{g:Nat->Pt->Nat}{v:F->Nat}(h:∀i p f,P[i]?=some p->fs[i]?=some f->Node fs i p f->g i p=v f):P.mapIdx g=fs.map v:=by
 refine Qc (by simp[R.len]) λi h1 h2=>?_;rw[List.getElem_mapIdx,QQ];rw[OM]at h1;rw[Nf]at h2;exact h i _ _ (Ng h1) (Ng h2) (R.node i _ _ (Ng h1) (Ng h2))
theorem mD(h:fs[i]?=some f):(pN c fs k).getD i 0=bit (sat c f k):=getD_map _ h
theorem yy(hk:k<c.length):dC P (pN c fs k) (hC c fs (k+1))=hC c fs k:=by
 unfold dC hC;rw[rV R];congr 1;refine xJ R λi p f h1 h2 nd=>?_;have ho:(hC c fs (k+1)).getD i 0=oE c (k+1) f:=lO _ h2;cases nd with
 |next a1 a2=>
  show(pN c fs k).getD _ 0=bit _;rw[mD R a2];simp[hk]
 |til a1 b1 a2 b2=>
  show(pN c fs k).getD _ 0=bit _;rw[mD R h2]
 |@within n x y a a1 a2=>
  show reach ⟨9,n,x,y⟩ _ ((hC c fs (k+1)).getD i 0)=bE c n a k;rw[ho];unfold reach;show(if(pN c fs k).getD x 0=1 then n+1 else bE c n a (k+1)-1)=_;rw[mD R a2]
  conv=>rhs;unfold bE
  rw[dif_pos hk];by_cases hs:sat c a k=true
  ·rw[Nz hs,Nz (uC.mpr hs)]
  ·rw[Nt hs,Nt (λz=>hs (uC.mp z))]
 |_=>rfl
theorem mj{t:Nat}(hk:c[k]?=some t):aZ P t (jN c fs k) (hC c fs (k+1))=hC c fs k:=by
 unfold aZ;rw[p9 R hk,yy R (Nh.mp hk).1]
end
variable{e:List Nat}
theorem Er(hs:sound f=true)(hk:k<=c.length):qR (c++e) k f=qR c k f:=by
 cases f with
 |before a=>
  show bit _=bit _;by_cases h0:0<k
  ·rw[di c e a hs (k-1) (by omega)]
  ·simp[h0]
 |since a b=>
  show bit _=bit _;by_cases h0:0<k
  ·rw[di c e (.since a b) hs (k-1) (by omega)]
  ·simp[h0]
 |_=>rfl
variable{P:List Pt}
theorem jM{fs:List F}(R:Rep P fs)(hk:k<=c.length):jN (c++e) fs k=jN c fs k:=by
 unfold jN;exact Om λf hf=>Er (R.snd f hf) hk
theorem vG{fs:List F}(R:Rep P fs)(c:List Nat)(t:Nat):bB P t (jN c fs c.length)=jN (c++[t]) fs (c++[t]).length:=by
 unfold bB;have hk:(c++[t])[c.length]?=some t:=by simp
 have e1:=p9 R hk;rw[jM R (Nq _)]at e1;have e2:last P=hC (c++[t]) fs (c.length+1):=by
  have:=uv R (c++[t]);rw[Nk]at this;exact this
 rw[e2,e1];unfold gE jN;refine xJ R λi p f h1 h2 nd=>?_;have hl:(c++[t]).length=c.length+1:=by simp
 rw[hl];cases nd with
 |before a1 a2=>
  show(pN _ fs _).getD _ 0=bit _;rw[mD R a2];simp
 |since a1 b1 a2 b2=>
  show(pN _ fs _).getD _ 0=bit _;rw[mD R h2];simp
 |_=>rfl
theorem HB{fs:List F}(R:Rep P fs):yS P=jN [] fs 0:=by
 unfold yS jN;refine Qc (by simp[R.len]) λi h1 h2=>?_;rw[Qt,QQ];generalize fs[i]'(by simpa using h2)=f;cases f<;>rfl
def bA(P:List Pt)(c:List Nat):List Nat:=c.foldl (λm t=>bB P t m) (yS P)
theorem dU(P:List Pt)(c:List Nat)(t:Nat):bA P (c++[t])=bB P t (bA P c):=by
 unfold bA;rw[Ox];rfl
theorem iG{fs:List F}(R:Rep P fs)(c:List Nat):bA P c=jN c fs c.length:=by
 generalize hn:c.length=n;induction n generalizing c with
 |zero=>
  have:c=[]:=OH.mp hn;subst this;exact HB R
 |succ n ih=>
  rcases snoc_cases c with rfl|⟨c',t,rfl⟩
  ·simp at hn
  ·have hl:c'.length=n:=by simpa using hn
   have e:=vG R c' t;rw[dU,ih c' hl,<-hl,e,hn,hl]
abbrev Tab:=List (List Nat×List Nat)
def dk(acc:Tab)(x:List Nat×List Nat):Tab:=if(acc.any λy=>decide (y.1=x.1))=true then acc else acc++[x]
def ij(l:Tab):Tab:=l.foldl dk []
def bM(P:List Pt)(ay:Nat):Nat->List Nat->Tab
 |0,_=>[(last P,[])]
 |d+1,mem=>ij ((List.range ay).flatMap λt=>(bM P ay d (bB P t mem)).map λx=>(aZ P t mem x.1,t::x.2))
def lL(P:List Pt):List Nat->List Nat->List Nat
 |_,[]=>last P
 |mem,t::p=>aZ P t mem (lL P (bB P t mem) p)
theorem vn{P:List Pt}{fs:List F}(R:Rep P fs):∀(p c:List Nat),lL P (jN c fs c.length) p=hC (c++p) fs c.length
 |[],c=>by rw[NX];exact uv R c
 |t::p,c=>by
  show aZ P t (jN c fs c.length) (lL P (bB P t (jN c fs c.length)) p)=_;rw[vG R,vn R p (c++[t])];have hk:(c++[t]++p)[c.length]?=some t:=by simp
  have:=mj R hk;rw[show c++t::p=c++[t]++p by simp,<-this];congr 1
  ·rw[NV,jM R (Nq _)]
  ·simp
variable{acc:Tab}{x:List Nat×List Nat}
theorem Fl:(dk acc x).any (λy=>decide (y.1=x.1))=true:=by
 unfold dk;by_cases h:(acc.any λy=>decide (y.1=x.1))=true
 ·rw[Nz h];exact h
 ·rw[Nt h];simp
theorem uG{l:Tab}{k:List Nat}:(l.any λy=>decide (y.1=k))=true↔∃w,(k,w)∈l:=by
 rw[Oi];constructor
 ·rintro⟨⟨a,w⟩,h,e⟩;have:a=k:=by simpa using e
  subst this;exact⟨w,h⟩
 ·rintro⟨w,h⟩;exact⟨_,h,by simp⟩
theorem Ea{y:List Nat×List Nat}(h:x∈acc):x∈dk acc y:=by
 unfold dk;split
 ·exact h
 ·exact Np.mpr (.inl h)
theorem tZ{l:Tab}:∀{acc:Tab}{x:List Nat×List Nat},x∈acc->x∈l.foldl dk acc:=by
 induction l with
 |nil=>intro acc x h;exact h
 |cons y l ih=>intro acc x h;exact ih (Ea h)
theorem zT(h:¬(acc.any λy=>decide (y.1=x.1))=true):dk acc x=acc++[x]:=by
 unfold dk;rw[Nt h]
theorem uS(h:(acc.any λy=>decide (y.1=x.1))=true):dk acc x=acc:=by
 unfold dk;rw[Nz h]
theorem xI{g:List Nat->List Nat}{w:List Nat->List Nat}:∀(l:Tab)(base acc:Tab),
  (((l.foldl dk base).map λx=>(g x.1,w x.2)).foldl dk acc)=((base++l).map λx=>(g x.1,w x.2)).foldl dk acc
 |[],base,acc=>by rw[NX];rfl
 |y::l,base,acc=>by
  rw[PD,xI l (dk base y) acc];by_cases h:(base.any λz=>decide (z.1=y.1))=true
  ·rw[uS h,NS,Ox,NS,Ox,N6,PD,uS];obtain⟨v,hv⟩:=uG.mp h;rw[uG];have:∀(b:Tab)(acc:Tab),(y.1,v)∈b->∃u,(g y.1,u)∈(b.map λx=>(g x.1,w x.2)).foldl dk acc:=by
    intro b;induction b with
    |nil=>intro acc h;exact nomatch h
    |cons z b ih=>
     intro acc h;rcases ND.mp h with rfl|h
     ·have e:=Fl (acc:=acc) (x:=(g y.1,w v));obtain⟨u,hu⟩:=uG.mp e;exact⟨u,tZ (acc:=dk acc (g y.1,w v)) hu⟩
     ·exact ih _ h
   exact this base acc hv
  ·rw[zT h];simp
theorem Ce{g:List Nat->List Nat}{w:List Nat->List Nat}(l acc:Tab):((ij l).map λx=>(g x.1,w x.2)).foldl dk acc=(l.map λx=>(g x.1,w x.2)).foldl dk acc:=by
 unfold ij;rw[xI l [] acc];rfl
theorem nA{α:Type}{g:α->List Nat->List Nat}{w:α->List Nat->List Nat}{L:α->Tab}:∀(ts:List α)(acc:Tab),
  (ts.flatMap λt=>(ij (L t)).map λx=>(g t x.1,w t x.2)).foldl dk acc=(ts.flatMap λt=>(L t).map λx=>(g t x.1,w t x.2)).foldl dk acc
 |[],acc=>rfl
 |t::ts,acc=>by
  rw[N5,N5,Ox,Ox,Ce,nA ts]
theorem rK(P:List Pt)(ay:Nat):∀(d:Nat)(mem:List Nat),bM P ay d mem=ij ((Gen.aY ay d).map λp=>(lL P mem p,p))
 |0,_=>rfl
 |d+1,mem=>by
  unfold bM;have e:(λt=>(bM P ay d (bB P t mem)).map λx=>(aZ P t mem x.1,t::x.2))=λt=>(ij ((Gen.aY ay d).map λp=>(lL P (bB P t mem) p,p))).map λx=>(aZ P t mem x.1,t::x.2):=by
   funext t;rw[rK P ay d]
  rw[e];unfold ij;have:=nA (g:=λt o=>aZ P t mem o) (w:=λt p=>t::p) (L:=λt=>(Gen.aY ay d).map λp=>(lL P (bB P t mem) p,p)) (List.range ay) [];unfold ij at this;rw[this];congr 1;simp only[Gen.aY,List.map_flatMap,O6];rfl
def bK(l:Tab)(T:List Nat->Bool):Option (List Nat):=(l.find? λx=>T x.1).map (·.2)
theorem xT{T:List Nat->Bool}:∀(l acc:Tab),(l.foldl dk acc).find? (λx=>T x.1)=(acc++l).find? λx=>T x.1
 |[],acc=>by rw[NX];rfl
 |y::l,acc=>by
  rw[PD,xT l (dk acc y)];unfold dk;by_cases h:(acc.any λz=>decide (z.1=y.1))=true
  ·rw[Nz h,List.find?_append,List.find?_append,OD];cases e:acc.find? λx=>T x.1 with
   |some v=>rfl
   |none=>
    obtain⟨v,hv⟩:=uG.mp h;have:=OL.mp e _ hv;simp at this;simp[this]
  ·rw[Nt h];simp
theorem nB(l:Tab)(T:List Nat->Bool):bK (ij l) T=bK l T:=by
 unfold bK ij;rw[xT l []];rfl
def behind(P:List Pt)(l:Tab)(tm:Nat×List Nat):Tab:=ij (l.map λx=>(aZ P tm.1 tm.2 x.1,x.2))
def gz(P:List Pt)(l:Tab)(tms:List (Nat×List Nat)):Tab:=tms.foldl (behind P) l
def backs(P:List Pt)(o:List Nat)(tms:List (Nat×List Nat)):List Nat:=tms.foldl (λo tm=>aZ P tm.1 tm.2 o) o
theorem lR(P:List Pt)(T:List Nat->Bool):∀(tms:List (Nat×List Nat))(l:Tab),bK (gz P l tms) T=bK l λo=>T (backs P o tms)
 |[],_=>rfl
 |tm::tms,l=>by
  show bK (gz P (behind P l tm) tms) T=_;rw[lR P T tms];unfold behind;rw[nB];unfold bK;rw[Rh];cases h:l.find? ((λx:List Nat×List Nat=>T (backs P x.1 tms))∘λx=>(aZ P tm.1 tm.2 x.1,x.2))with
  |none=>
   have h':(l.find? λx=>T (backs P x.1 (tm::tms)))=none:=h;rw[h'];rfl
  |some v=>
   have h':(l.find? λx=>T (backs P x.1 (tm::tms)))=some v:=h;rw[h'];rfl
def aO:List (List Nat)->Tab->List (List Nat)×Tab
 |cK,[]=>(cK,[])
 |cK,x::l=>if cK.contains x.1=true then aO cK l else let r:=aO (cK++[x.1]) l;(r.1,x::r.2)
theorem iW:∀(l:Tab)(cK:List (List Nat)),(∀o,o∈(aO cK l).1↔o∈cK∨∃x∈l,x.1=o)
 |[],cK,o=>by simp[aO]
 |x::l,cK,o=>by
  unfold aO;by_cases h:cK.contains x.1=true
  ·rw[Nz h,iW l cK o];have h':x.1∈cK:=OE.mp h;constructor
   ·rintro(a|⟨y,hy,e⟩)
    ·exact .inl a
    ·exact .inr ⟨y,Nn _ hy,e⟩
   ·rintro(a|⟨y,hy,e⟩)
    ·exact .inl a
    ·rcases ND.mp hy with rfl|hy
     ·exact .inl (e▸h')
     ·exact .inr ⟨y,hy,e⟩
  ·rw[Nt h];show o∈(aO (cK++[x.1]) l).1↔_;rw[iW l _ o];constructor
   ·rintro(a|⟨y,hy,e⟩)
    ·rcases Np.mp a with a|a
     ·exact .inl a
     ·exact .inr ⟨x,NB,(Nu.mp a).symm⟩
    ·exact .inr ⟨y,Nn _ hy,e⟩
   ·rintro(a|⟨y,hy,e⟩)
    ·exact .inl (Np.mpr (.inl a))
    ·rcases ND.mp hy with rfl|hy
     ·exact .inl (Np.mpr (.inr (Nu.mpr e.symm)))
     ·exact .inr ⟨y,hy,e⟩
theorem j9{T:List Nat->Bool}:∀(l:Tab)(cK:List (List Nat)),(∀o∈cK,T o=false)->bK (aO cK l).2 T=bK l T
 |[],_,_=>rfl
 |x::l,cK,hT=>by
  unfold aO;by_cases h:cK.contains x.1=true
  ·rw[Nz h,j9 l cK hT];have:=hT _ (OE.mp h);unfold bK;rw[OD,this]
  ·rw[Nt h];show bK (x::(aO (cK++[x.1]) l).2) T=_;cases e:T x.1 with
   |true=>
    unfold bK;rw[OD,OD,e]
   |false=>
    have ih:=j9 (T:=T) l (cK++[x.1]) λo ho=>by
     rcases Np.mp ho with ho|ho
     ·exact hT o ho
     ·rw[Nu.mp ho];exact e
    unfold bK at ih ⊢;rw[OD,OD,e,ih]
def fZ(P:List Pt)(ay:Nat)(mem:List Nat)(T:List Nat->Bool):List Nat->List (List Nat)->Option (List Nat)
 |[],_=>none
 |d::ds,cK=>let u:=aO cK (bM P ay d mem);match bK u.2 T with
  |some w=>some w
  |none=>fZ P ay mem T ds u.1
theorem zc{ay d:Nat}{mem:List Nat}{T:List Nat->Bool}:bK (bM P ay d mem) T=(Gen.aY ay d).find? λp=>T (lL P mem p):=by
 rw[rK,nB];unfold bK;rw[Rh];cases h:(Gen.aY ay d).find? ((λx:List Nat×List Nat=>T x.1)∘λp=>(lL P mem p,p))with
 |none=>
  have h':((Gen.aY ay d).find? λp=>T (lL P mem p))=none:=h;rw[h'];rfl
 |some v=>
  have h':((Gen.aY ay d).find? λp=>T (lL P mem p))=some v:=h;rw[h'];rfl
theorem rj{P:List Pt}{ay:Nat}{mem:List Nat}{T:List Nat->Bool}:∀(ds:List Nat)(cK:List (List Nat)),(∀o∈cK,T o=false)->
  fZ P ay mem T ds cK=ds.findSome? λd=>(Gen.aY ay d).find? λp=>T (lL P mem p)
 |[],_,_=>rfl
 |d::ds,cK,hT=>by
  unfold fZ;show(match bK (aO cK (bM P ay d mem)).2 T with|some w=>some w|none=>_)=_;rw[j9 _ _ hT,N0,<-zc];cases e:bK (bM P ay d mem) T with
  |some w=>rfl
  |none=>
   refine rj ds _ λo ho=>?_;rcases(iW _ _ o).mp ho with h|⟨x,hx,rfl⟩
   ·exact hT o h
   ·unfold bK at e;rw[Pn,OL]at e;simpa using e x hx
def cM(P:List Pt)(c:List Nat)(k:Nat):Nat->List (Nat×List Nat)
 |0=>[]
 |d+1=>(c.getD (k+d) 0,bA P (c.take (k+d)))::cM P c k d
theorem Bp{P:List Pt}{fs:List F}(R:Rep P fs)(c p:List Nat)(k:Nat):∀(d:Nat),k+d<=c.length->backs P (hC (c++p) fs (k+d)) (cM P c k d)=hC (c++p) fs k
 |0,_=>rfl
 |d+1,h=>by
  show backs P (aZ P (c.getD (k+d) 0) (bA P (c.take (k+d))) (hC (c++p) fs (k+d+1))) (cM P c k d)=_;have hc:(c++p)[k+d]?=some (c.getD (k+d) 0):=by
   rw[NJ (by omega),Nj,Ng (by omega)];rfl
  have e:=mj R hc;have e2:jN (c++p) fs (k+d)=bA P (c.take (k+d)):=by
   have h1:(c.take (k+d)).length=k+d:=by rw[N2];omega
   rw[iG R,h1];have h2:c++p=c.take (k+d)++(c.drop (k+d)++p):=by rw[<-NV,OU]
   rw[h2,jM R (by omega)]
  rw[e2]at e;rw[e];exact Bp R c p k d (by omega)
def dW(kept:Nat)(o:List Nat):Bool:=o.getLast?==some kept
def fC(P:List Pt)(ay:Nat)(c:List Nat)(k:Nat)(most kept:Nat):Option (List Nat):=
 fZ P ay (bA P c) (λo=>dW kept (backs P o (cM P c k (c.length-k)))) (List.range (most+1)) []
theorem rh{fs:List F}(R:Rep P fs)(hf:fs[0]?=some f)(ay:Nat)(c:List Nat)(k:Nat)(hk:k<=c.length)(most:Nat)(kept:Bool):
  fC P ay c k most (bit kept)=Gen.bu ay most λp=>sat (c++p) f k==kept:=by
 unfold fC;rw[rj _ _ (λ_ h=>by cases h)];unfold Gen.bu;refine Gen.dY λd _=>?_;congr 1;funext p;rw[iG R,vn R];have e:=Bp R c p k (c.length-k) (by omega);rw[show k+(c.length-k)=c.length by omega]at e;rw[e];unfold dW hC;rw[List.getLast?_append,fG hf];cases sat (c++p) f k<;>cases kept<;>rfl
end Mir
namespace Rdg
open Vbtaak Vbs Mir
def br(f:F):List Int:=(code f).map λ(n:Nat)=>(n:Int)
def wf(facts:Nat):F->Bool
 |.yes=>true
 |.fact i=>decide (i<facts)
 |.not a=>wf facts a
 |.and a b=>wf facts a&&wf facts b
 |.or a b=>wf facts a&&wf facts b
 |.before a=>wf facts a
 |.since a b=>wf facts a&&wf facts b
 |.next a=>wf facts a
 |.until a b=>wf facts a&&wf facts b
 |.within n a=>decide (n<=20)&&wf facts a
 |.turn=>false
def depth:F->Nat
 |.not a=>depth a+1
 |.and a b=>max (depth a) (depth b)+1
 |.or a b=>max (depth a) (depth b)+1
 |.before a=>depth a+1
 |.since a b=>max (depth a) (depth b)+1
 |.next a=>depth a+1
 |.until a b=>max (depth a) (depth b)+1
 |.within _ a=>depth a+1
 |_=>1
theorem cD:∀f:F,depth f<=size f
 |.yes=>Nq _
 |.fact _=>Nq _
 |.turn=>Nq _
 |.not a=>by have:=cD a;simp only[depth,size];omega
 |.before a=>by have:=cD a;simp only[depth,size];omega
 |.next a=>by have:=cD a;simp only[depth,size];omega
 |.within _ a=>by have:=cD a;simp only[depth,size];omega
 |.and a b=>by have:=cD a;have:=cD b;simp only[depth,size];omega
 |.or a b=>by have:=cD a;have:=cD b;simp only[depth,size];omega
 |.since a b=>by have:=cD a;have:=cD b;simp only[depth,size];omega
 |.until a b=>by have:=cD a;have:=cD b;simp only[depth,size];omega
theorem size_pos:∀f:F,0<size f:=by intro f;cases f<;>simp[size]
theorem ER:br .yes=[0]:=rfl
theorem wo(i:Nat):br (.fact i)=[1,(i:Int)]:=rfl
theorem sE(a:F):br (.not a)=2::br a:=rfl
theorem kS(a:F):br (.before a)=5::br a:=rfl
theorem qe(a:F):br (.next a)=7::br a:=rfl
theorem kR(n:Nat)(a:F):br (.within n a)=9::(n:Int)::br a:=rfl
theorem sF(a b:F):br (.and a b)=3::(br a++br b):=by simp[br,code]
theorem wm(a b:F):br (.or a b)=4::(br a++br b):=by simp[br,code]
theorem nG(a b:F):br (.since a b)=6::(br a++br b):=by simp[br,code]
theorem nE(a b:F):br (.until a b)=8::(br a++br b):=by simp[br,code]
theorem gm{facts:Nat}:∀(n:Nat)(l:List Int)(f:F)(u:List Int),readFrom facts n l=some (f,u)->wf facts f=true/\l=br f++u
 |0,l,f,u,h=>by simp[readFrom]at h
 |n+1,[],f,u,h=>by simp[readFrom]at h
 |n+1,k::r,f,u,h=>by
  unfold readFrom at h;simp only at h;by_cases k0:k=0
  ·subst k0;simp at h;obtain⟨rfl,rfl⟩:=h;exact⟨rfl,rfl⟩
  rw[Nt k0]at h;by_cases k1:k=1
  ·subst k1;rw[Nz rfl]at h;cases r with
   |nil=>simp at h
   |cons i t=>
    simp only at h;by_cases hi:0<=i/\i<(facts:Int)
    ·rw[Nz hi]at h;simp at h;obtain⟨rfl,rfl⟩:=h;refine⟨by simp[wf];omega,?_⟩;rw[wo];simp;omega
    ·rw[Nt hi]at h;cases h
  rw[Nt k1]at h;by_cases k9:k=9
  ·subst k9;rw[Nz rfl]at h;cases r with
   |nil=>simp at h
   |cons i t=>
    simp only at h;by_cases hi:0<=i/\i<=(REACH:Int)
    ·rw[Nz hi]at h;cases e:readFrom facts n t with
     |none=>rw[e]at h;cases h
     |some x=>
      obtain⟨a,v⟩:=x;rw[e]at h;simp at h;obtain⟨rfl,rfl⟩:=h;obtain⟨h1,h2⟩:=gm n t a v e;have hi2:i<=20:=hi.2;refine⟨by simp[wf,h1];omega,?_⟩;rw[kR,h2];simp;omega
    ·rw[Nt hi]at h;cases h
  rw[Nt k9]at h;by_cases kb:k<2∨9<k
  ·rw[Nz kb]at h;cases h
  rw[Nt kb]at h;cases e:readFrom facts n r with
  |none=>rw[e]at h;cases h
  |some x=>
   obtain⟨a,t⟩:=x;obtain⟨h1,h2⟩:=gm n r a t e;rw[e]at h;simp only at h;by_cases k2:k=2
   ·subst k2;simp at h;obtain⟨rfl,rfl⟩:=h;exact⟨h1,by rw[sE,h2];rfl⟩
   rw[Nt k2]at h;by_cases k5:k=5
   ·subst k5;simp at h;obtain⟨rfl,rfl⟩:=h;exact⟨h1,by rw[kS,h2];rfl⟩
   rw[Nt k5]at h;by_cases k7:k=7
   ·subst k7;simp at h;obtain⟨rfl,rfl⟩:=h;exact⟨h1,by rw[qe,h2];rfl⟩
   rw[Nt k7]at h;cases e2:readFrom facts n t with
   |none=>rw[e2]at h;cases h
   |some y=>
    obtain⟨b,v⟩:=y;obtain⟨h3,h4⟩:=gm n t b v e2;rw[e2]at h;simp only at h;by_cases k3:k=3
    ·subst k3;simp at h;obtain⟨rfl,rfl⟩:=h;exact⟨by simp[wf,h1,h3],by rw[sF,h2,h4];simp⟩
    rw[Nt k3]at h;by_cases k4:k=4
    ·subst k4;simp at h;obtain⟨rfl,rfl⟩:=h;exact⟨by simp[wf,h1,h3],by rw[wm,h2,h4];simp⟩
    rw[Nt k4]at h;by_cases k6:k=6
    ·subst k6;simp at h;obtain⟨rfl,rfl⟩:=h;exact⟨by simp[wf,h1,h3],by rw[nG,h2,h4];simp⟩
    rw[Nt k6]at h;have k8:k=8:=by omega
    subst k8;simp at h;obtain⟨rfl,rfl⟩:=h;exact⟨by simp[wf,h1,h3],by rw[nE,h2,h4];simp⟩
theorem jt{facts:Nat}:∀(f:F)(n:Nat)(u:List Int),wf facts f=true->depth f<=n->readFrom facts n (br f++u)=some (f,u):=by
 intro f;induction f with
 |yes=>
  intro n u _ hn;obtain⟨m,rfl⟩:∃m,n=m+1:=⟨n-1,by simp[depth]at hn;omega⟩;simp[ER,readFrom]
 |fact i=>
  intro n u hw hn;obtain⟨m,rfl⟩:∃m,n=m+1:=⟨n-1,by simp[depth]at hn;omega⟩;have hw':i<facts:=by simpa [wf]using hw
  rw[wo];show readFrom facts (m+1) (1::(i:Int)::u)=_;unfold readFrom;simp[hw']
 |turn=>intro n u hw;simp[wf]at hw
 |not a ih=>
  intro n u hw hn;obtain⟨m,rfl⟩:∃m,n=m+1:=⟨n-1,by simp[depth]at hn;omega⟩;rw[sE];show readFrom facts (m+1) (2::(br a++u))=_;unfold readFrom;simp[ih m u hw (by simp[depth]at hn;omega)]
 |before a ih=>
  intro n u hw hn;obtain⟨m,rfl⟩:∃m,n=m+1:=⟨n-1,by simp[depth]at hn;omega⟩;rw[kS];show readFrom facts (m+1) (5::(br a++u))=_;unfold readFrom;simp[ih m u hw (by simp[depth]at hn;omega)]
 |next a ih=>
  intro n u hw hn;obtain⟨m,rfl⟩:∃m,n=m+1:=⟨n-1,by simp[depth]at hn;omega⟩;rw[qe];show readFrom facts (m+1) (7::(br a++u))=_;unfold readFrom;simp[ih m u hw (by simp[depth]at hn;omega)]
 |within k a ih=>
  intro n u hw hn;obtain⟨m,rfl⟩:∃m,n=m+1:=⟨n-1,by simp[depth]at hn;omega⟩;simp only[wf,Nv,Qx]at hw;rw[kR];show readFrom facts (m+1) (9::(k:Int)::(br a++u))=_;unfold readFrom;have h1:(0:Int)<=k/\(k:Int)<=(REACH:Int):=⟨by omega,by show(k:Int)<=20;omega⟩;simp[ih m u hw.2 (by simp[depth]at hn;omega),h1]
 |and a b iha ihb=>
  intro n u hw hn;obtain⟨m,rfl⟩:∃m,n=m+1:=⟨n-1,by simp[depth]at hn;omega⟩;simp only[wf,Nv]at hw;rw[sF];show readFrom facts (m+1) (3::((br a++br b)++u))=_;rw[NV];unfold readFrom;simp[iha m (br b++u) hw.1 (by simp[depth]at hn;omega),ihb m u hw.2 (by simp[depth]at hn;omega)]
 |or a b iha ihb=>
  intro n u hw hn;obtain⟨m,rfl⟩:∃m,n=m+1:=⟨n-1,by simp[depth]at hn;omega⟩;simp only[wf,Nv]at hw;rw[wm];show readFrom facts (m+1) (4::((br a++br b)++u))=_;rw[NV];unfold readFrom;simp[iha m (br b++u) hw.1 (by simp[depth]at hn;omega),ihb m u hw.2 (by simp[depth]at hn;omega)]
 |since a b iha ihb=>
  intro n u hw hn;obtain⟨m,rfl⟩:∃m,n=m+1:=⟨n-1,by simp[depth]at hn;omega⟩;simp only[wf,Nv]at hw;rw[nG];show readFrom facts (m+1) (6::((br a++br b)++u))=_;rw[NV];unfold readFrom;simp[iha m (br b++u) hw.1 (by simp[depth]at hn;omega),ihb m u hw.2 (by simp[depth]at hn;omega)]
 |«until» a b iha ihb=>
  intro n u hw hn;obtain⟨m,rfl⟩:∃m,n=m+1:=⟨n-1,by simp[depth]at hn;omega⟩;simp only[wf,Nv]at hw;rw[nE];show readFrom facts (m+1) (8::((br a++br b)++u))=_;rw[NV];unfold readFrom;simp[iha m (br b++u) hw.1 (by simp[depth]at hn;omega),ihb m u hw.2 (by simp[depth]at hn;omega)]
variable{f:F}
theorem fV{facts:Nat}{l:List Int}:readF facts l=some f↔wf facts f=true/\l=br f/\size f<=12/\sound f=true:=by
 unfold readF;constructor
 ·intro h;cases e:readFrom facts NODES l with
  |none=>rw[e]at h;cases h
  |some x=>
   obtain⟨g,u⟩:=x;rw[e]at h;cases u with
   |cons _ _=>cases h
   |nil=>
    simp only at h;by_cases hc:size g<=NODES/\sound g=true
    ·rw[Nz hc]at h;cases h;obtain⟨h1,h2⟩:=gm _ _ _ _ e;rw[NX]at h2;exact⟨h1,h2,hc.1,hc.2⟩
    ·rw[Nt hc]at h;cases h
 ·rintro⟨h1,rfl,h3,h4⟩;have e:=jt (facts:=facts) f NODES [] h1 (NR (cD f) h3);rw[NX]at e;rw[e];simp only;rw[Nz ⟨h3,h4⟩]
def pre:F->List (Nat×Nat)
 |.yes=>[(0,0)]
 |.fact i=>[(1,i)]
 |.not a=>(2,0)::pre a
 |.and a b=>(3,0)::(pre a++pre b)
 |.or a b=>(4,0)::(pre a++pre b)
 |.before a=>(5,0)::pre a
 |.since a b=>(6,0)::(pre a++pre b)
 |.next a=>(7,0)::pre a
 |.until a b=>(8,0)::(pre a++pre b)
 |.within n a=>(9,n)::pre a
 |.turn=>[(10,0)]
theorem bO:∀f:F,(pre f).length=size f
 |.yes=>rfl
 |.fact _=>rfl
 |.turn=>rfl
 |.not a=>by simp[pre,size,bO a]
 |.before a=>by simp[pre,size,bO a]
 |.next a=>by simp[pre,size,bO a]
 |.within _ a=>by simp[pre,size,bO a]
 |.and a b=>by simp[pre,size,bO a,bO b]
 |.or a b=>by simp[pre,size,bO a,bO b]
 |.since a b=>by simp[pre,size,bO a,bO b]
 |.until a b=>by simp[pre,size,bO a,bO b]
def inner(k:Nat):Nat:=[0,0,1,2,2,1,2,1,2,1].getD k 0
def hasNum(k:Nat):Bool:=k==1||k==9
def bP(facts:Nat):List Int->Option ((Nat×Nat)×List Int)
 |[]=>none
 |k::r=>if 0<=k/\k<=9 then
   if hasNum k.toNat=false then some ((k.toNat,0),r)
   else match r with
    |[]=>none
    |i::t=>if 0<=i/\i<=(if k=1 then(facts:Int)-1 else 20)then some ((k.toNat,i.toNat),t)else none
  else none
def scan(facts:Nat):Nat->Nat->Nat->List Int->Option (List (Nat×Nat))
 |0,_,_,_=>none
 |_+1,_,0,r=>if r=[]then some []else none
 |fuel+1,m,w+1,r=>match bP facts r with
  |none=>none
  |some (kn,t)=>if m=12 then none else(scan facts fuel (m+1) (w+inner kn.1) t).map (kn::·)
inductive Shape(facts:Nat):Nat×Nat->List Int->List F->F->Prop
 |yes:Shape facts (0,0) [0] [] .yes
 |fact {i:Nat}:i<facts->Shape facts (1,i) [1,(i:Int)] [] (.fact i)
 |not {a:F}:Shape facts (2,0) [2] [a] (.not a)
 |and {a b:F}:Shape facts (3,0) [3] [a,b] (.and a b)
 |or {a b:F}:Shape facts (4,0) [4] [a,b] (.or a b)
 |before {a:F}:Shape facts (5,0) [5] [a] (.before a)
 |since {a b:F}:Shape facts (6,0) [6] [a,b] (.since a b)
 |next {a:F}:Shape facts (7,0) [7] [a] (.next a)
 |til {a b:F}:Shape facts (8,0) [8] [a,b] (.until a b)
 |within {n:Nat} {a:F}:n<=20->Shape facts (9,n) [9,(n:Int)] [a] (.within n a)
theorem Shape.facts{facts:Nat}{kn:Nat×Nat}{c:List Int}{as:List F}{f:F}(h:Shape facts kn c as f):
  br f=c++as.flatMap br/\pre f=kn::as.flatMap pre/\(wf facts f=true↔∀a∈as,wf facts a=true)/\as.length=inner kn.1/\(∀r,bP facts (c++r)=some (kn,r))/\size f=1+(as.map size).sum:=by
 cases h with
 |yes=>exact⟨rfl,rfl,by simp[wf],rfl,λr=>rfl,rfl⟩
 |@fact i hi=>
  refine⟨rfl,rfl,by simp[wf,hi],rfl,λr=>?_,rfl⟩;show bP facts (1::(i:Int)::r)=_;have h2:(0:Int)<=i/\(i:Int)<=(facts:Int)-1:=⟨by omega,by omega⟩;simp only[bP];rw[Nz ⟨by decide,by decide⟩];rw[Nt (by decide)];simp[h2]
 |not=>exact⟨by simp[sE],by simp[pre],by simp[wf],rfl,λr=>rfl,by simp[size];omega⟩
 |before=>exact⟨by simp[kS],by simp[pre],by simp[wf],rfl,λr=>rfl,by simp[size];omega⟩
 |next=>exact⟨by simp[qe],by simp[pre],by simp[wf],rfl,λr=>rfl,by simp[size];omega⟩
 |and=>exact⟨by simp[sF],by simp[pre],by simp[wf],rfl,λr=>rfl,by simp[size];omega⟩
 |or=>exact⟨by simp[wm],by simp[pre],by simp[wf],rfl,λr=>rfl,by simp[size];omega⟩
 |since=>exact⟨by simp[nG],by simp[pre],by simp[wf],rfl,λr=>rfl,by simp[size];omega⟩
 |til=>exact⟨by simp[nE],by simp[pre],by simp[wf],rfl,λr=>rfl,by simp[size];omega⟩
 |@within n a hn=>
  refine⟨by simp[kR],by simp[pre],by simp[wf,hn],rfl,λr=>?_,by simp[size];omega⟩;show bP facts (9::(n:Int)::r)=_;simp only[bP];rw[Nz ⟨by decide,by decide⟩];rw[Nt (by decide)];have h2:(0:Int)<=n/\(n:Int)<=20:=⟨by omega,by omega⟩;simp[h2]
variable{r:List Int}
theorem vg{facts:Nat}{t:List Int}{kn:Nat×Nat}(h:bP facts r=some (kn,t)):∃c,r=c++t/\∀as:List F,as.length=inner kn.1->∃f,Shape facts kn c as f:=by
 cases r with
 |nil=>simp[bP]at h
 |cons k r=>
  simp only[bP]at h;by_cases hk:0<=k/\k<=9
  ·rw[Nz hk]at h;have cs:k=0∨k=1∨k=2∨k=3∨k=4∨k=5∨k=6∨k=7∨k=8∨k=9:=by omega
   have one:∀{as:List F},as.length=1->∃a,as=[a]:=λ{as} h=>List.length_eq_one_iff.mp h;have two:∀{as:List F},as.length=2->∃a b,as=[a,b]:=λ{as} h=>match as,h with|[a,b],_=>⟨a,b,rfl⟩
   have zero:∀{as:List F},as.length=0->as=[]:=λ{as} h=>OH.mp h;rcases cs with rfl|rfl|rfl|rfl|rfl|rfl|rfl|rfl|rfl|rfl
   ·rw[Nz (by decide)]at h;cases h;exact⟨[0],rfl,λas ha=>by rw[zero ha];exact⟨_,.yes⟩⟩
   ·rw[Nt (by decide)]at h;cases r with
    |nil=>cases h
    |cons i t'=>
     change (if 0<=i/\i<=(if(1:Int)=1 then(facts:Int)-1 else 20)then some ((Int.toNat 1,i.toNat),t')else none)=some (kn,t)at h;by_cases hi:0<=i/\i<=(if(1:Int)=1 then(facts:Int)-1 else 20)
     ·rw[Nz hi]at h;cases h;have h2:i<=(facts:Int)-1:=hi.2;refine⟨[1,i],rfl,λas ha=>?_⟩;rw[zero ha];refine⟨.fact i.toNat,?_⟩;have:=Shape.fact (facts:=facts) (i:=i.toNat) (by omega);rw[show((i.toNat:Nat):Int)=i by omega]at this;exact this
     ·rw[Nt hi]at h;cases h
   ·rw[Nz (by decide)]at h;cases h;exact⟨[2],rfl,λas ha=>by obtain⟨a,rfl⟩:=one ha;exact⟨_,.not⟩⟩
   ·rw[Nz (by decide)]at h;cases h;exact⟨[3],rfl,λas ha=>by obtain⟨a,b,rfl⟩:=two ha;exact⟨_,.and⟩⟩
   ·rw[Nz (by decide)]at h;cases h;exact⟨[4],rfl,λas ha=>by obtain⟨a,b,rfl⟩:=two ha;exact⟨_,.or⟩⟩
   ·rw[Nz (by decide)]at h;cases h;exact⟨[5],rfl,λas ha=>by obtain⟨a,rfl⟩:=one ha;exact⟨_,.before⟩⟩
   ·rw[Nz (by decide)]at h;cases h;exact⟨[6],rfl,λas ha=>by obtain⟨a,b,rfl⟩:=two ha;exact⟨_,.since⟩⟩
   ·rw[Nz (by decide)]at h;cases h;exact⟨[7],rfl,λas ha=>by obtain⟨a,rfl⟩:=one ha;exact⟨_,.next⟩⟩
   ·rw[Nz (by decide)]at h;cases h;exact⟨[8],rfl,λas ha=>by obtain⟨a,b,rfl⟩:=two ha;exact⟨_,.til⟩⟩
   ·rw[Nt (by decide)]at h;cases r with
    |nil=>cases h
    |cons i t'=>
     change (if 0<=i/\i<=(if(9:Int)=1 then(facts:Int)-1 else 20)then some ((Int.toNat 9,i.toNat),t')else none)=some (kn,t)at h;by_cases hi:0<=i/\i<=(if(9:Int)=1 then(facts:Int)-1 else 20)
     ·rw[Nz hi]at h;cases h;have h2:i<=20:=by simpa using hi.2
      refine⟨[9,i],rfl,λas ha=>?_⟩;obtain⟨a,rfl⟩:=one ha;refine⟨.within i.toNat a,?_⟩;have:=Shape.within (facts:=facts) (n:=i.toNat) (a:=a) (by omega);rw[show((i.toNat:Nat):Int)=i by omega]at this;exact this
     ·rw[Nt hi]at h;cases h
  ·rw[Nt hk]at h;cases h
theorem xr{facts:Nat}:∀(fuel m w:Nat)(r:List Int)(ks:List (Nat×Nat)),scan facts fuel m w r=some ks->m<=12->
  ∃fs:List F,fs.length=w/\(∀f∈fs,wf facts f=true)/\r=fs.flatMap br/\ks=fs.flatMap pre/\m+ks.length<=12
 |0,_,_,_,_,h,_=>by simp[scan]at h
 |fuel+1,m,0,r,ks,h,hm=>by
  simp only[scan]at h;by_cases e:r=[]
  ·rw[Nz e]at h;cases h;exact⟨[],rfl,λ_ h=>(by cases h),by rw[e];rfl,rfl,hm⟩
  ·rw[Nt e]at h;cases h
 |fuel+1,m,w+1,r,ks,h,hm=>by
  simp only[scan]at h;cases e:bP facts r with
  |none=>rw[e]at h;cases h
  |some x=>
   obtain⟨kn,t⟩:=x;rw[e]at h;simp only at h;by_cases hm':m=12
   ·rw[Nz hm']at h;cases h
   ·rw[Nt hm']at h;obtain⟨ks',h1,rfl⟩:=Pj.mp h;obtain⟨fs,f1,f2,f3,f4,f5⟩:=xr fuel (m+1) (w+inner kn.1) t ks' h1 (by omega);obtain⟨c,hc,hs⟩:=vg e;obtain⟨f,sh⟩:=hs (fs.take (inner kn.1)) (by rw[N2];omega);obtain⟨g1,g2,g3,g4,g5,g6⟩:=sh.facts;refine⟨f::fs.drop (inner kn.1),by rw[NH,O1];omega,?_,?_,?_,by rw[NH];omega⟩
    ·intro g hg;rcases ND.mp hg with rfl|hg
     ·exact g3.mpr λa ha=>f2 a (List.mem_of_mem_take ha)
     ·exact f2 g (List.mem_of_mem_drop hg)
    ·rw[N5,g1,NV,<-Ov,OU,<-f3,hc]
    ·rw[N5,g2,Pa,<-Ov,OU,<-f4]
theorem E'{facts:Nat}(h:wf facts f=true):∃kn c as,Shape facts kn c as f:=by
 cases f with
 |yes=>exact⟨_,_,_,.yes⟩
 |fact i=>exact⟨_,_,_,.fact (by simpa [wf]using h)⟩
 |turn=>simp[wf]at h
 |not a=>exact⟨_,_,_,.not⟩
 |and a b=>exact⟨_,_,_,.and⟩
 |or a b=>exact⟨_,_,_,.or⟩
 |before a=>exact⟨_,_,_,.before⟩
 |since a b=>exact⟨_,_,_,.since⟩
 |next a=>exact⟨_,_,_,.next⟩
 |«until» a b=>exact⟨_,_,_,.til⟩
 |within n a=>
  simp only[wf,Nv,Qx]at h;exact⟨_,_,_,.within h.1⟩
theorem Ed{facts:Nat}:∀(n:Nat)(fs:List F),(fs.map size).sum=n->∀(fuel m:Nat),(∀f∈fs,wf facts f=true)->n<fuel->m+n<=12->scan facts fuel m fs.length (fs.flatMap br)=some (fs.flatMap pre):=by
 intro n;induction n with
 |zero=>
  intro fs hs fuel m hw hf hm;obtain⟨q,rfl⟩:∃q,fuel=q+1:=⟨fuel-1,by omega⟩;cases fs with
  |nil=>simp[scan]
  |cons f fs=>
   have:=size_pos f;simp at hs;omega
 |succ n ih=>
  intro fs hs fuel m hw hf hm;obtain⟨q,rfl⟩:∃q,fuel=q+1:=⟨fuel-1,by omega⟩;cases fs with
  |nil=>simp at hs
  |cons f fs=>
   obtain⟨kn,c,as,sh⟩:=E' (hw f NB);obtain⟨g1,g2,g3,g4,g5,g6⟩:=sh.facts;have MB:((as++fs).map size).sum=n:=by
    rw[NS,List.sum_append];rw[N6,List.sum_cons]at hs;omega
   have:=ih (as++fs) MB q (m+1) (λg hg=>by
    rcases Np.mp hg with h|h
    ·exact g3.mp (hw f NB) g h
    ·exact hw g (Nn _ h)) (by omega) (by omega)
   rw[N5,g1,NV,<-Ov];show scan facts (q+1) m (fs.length+1) _=_;unfold scan;rw[g5];simp only;rw[Nt (by omega),show fs.length+inner kn.1=(as++fs).length by rw[Nk,g4];omega,this,N5,g2,Ov];rfl
theorem zW{facts:Nat}{ks:List (Nat×Nat)}{fuel:Nat}(hf:12<fuel):scan facts fuel 0 1 r=some ks↔∃f,wf facts f=true/\r=br f/\size f<=12/\ks=pre f:=by
 constructor
 ·intro h;obtain⟨fs,f1,f2,f3,f4,f5⟩:=xr fuel 0 1 r ks h (by omega);obtain⟨f,rfl⟩:=List.length_eq_one_iff.mp f1;refine⟨f,f2 f NB,by simpa using f3,?_,by simpa using f4⟩;have e:ks=pre f:=by simpa using f4
  rw[e,bO]at f5;omega
 ·rintro⟨f,h1,rfl,h3,rfl⟩;have:=Ed (facts:=facts) (size f) [f] (by simp) fuel 0 (by simpa using h1) (by omega) (by omega);simpa using this
def pts:Nat->F->List Pt
 |_,.yes=>[⟨0,0,0,0⟩]
 |_,.fact i=>[⟨1,i,0,0⟩]
 |o,.not a=>⟨2,0,o+1,0⟩::pts (o+1) a
 |o,.and a b=>⟨3,0,o+1,o+1+size a⟩::(pts (o+1) a++pts (o+1+size a) b)
 |o,.or a b=>⟨4,0,o+1,o+1+size a⟩::(pts (o+1) a++pts (o+1+size a) b)
 |o,.before a=>⟨5,0,o+1,0⟩::pts (o+1) a
 |o,.since a b=>⟨6,0,o+1,o+1+size a⟩::(pts (o+1) a++pts (o+1+size a) b)
 |o,.next a=>⟨7,0,o+1,0⟩::pts (o+1) a
 |o,.until a b=>⟨8,0,o+1,o+1+size a⟩::(pts (o+1) a++pts (o+1+size a) b)
 |o,.within n a=>⟨9,n,o+1,0⟩::pts (o+1) a
 |_,.turn=>[⟨10,0,0,0⟩]
def subs:F->List F
 |.not a=>.not a::subs a
 |.and a b=>.and a b::(subs a++subs b)
 |.or a b=>.or a b::(subs a++subs b)
 |.before a=>.before a::subs a
 |.since a b=>.since a b::(subs a++subs b)
 |.next a=>.next a::subs a
 |.until a b=>.until a b::(subs a++subs b)
 |.within n a=>.within n a::subs a
 |f=>[f]
theorem ba:∀f:F,(subs f).length=size f
 |.yes=>rfl
 |.fact _=>rfl
 |.turn=>rfl
 |.not a=>by simp[subs,size,ba a]
 |.before a=>by simp[subs,size,ba a]
 |.next a=>by simp[subs,size,ba a]
 |.within _ a=>by simp[subs,size,ba a]
 |.and a b=>by simp[subs,size,ba a,ba b]
 |.or a b=>by simp[subs,size,ba a,ba b]
 |.since a b=>by simp[subs,size,ba a,ba b]
 |.until a b=>by simp[subs,size,ba a,ba b]
theorem aR:∀(f:F)(o:Nat),(pts o f).length=size f:=by
 intro f;induction f with
 |yes=>intro o;rfl
 |fact i=>intro o;rfl
 |turn=>intro o;rfl
 |not a ih=>intro o;simp[pts,size,ih]
 |before a ih=>intro o;simp[pts,size,ih]
 |next a ih=>intro o;simp[pts,size,ih]
 |within n a ih=>intro o;simp[pts,size,ih]
 |and a b iha ihb=>intro o;simp[pts,size,iha,ihb]
 |or a b iha ihb=>intro o;simp[pts,size,iha,ihb]
 |since a b iha ihb=>intro o;simp[pts,size,iha,ihb]
 |«until» a b iha ihb=>intro o;simp[pts,size,iha,ihb]
theorem xn(f:F):∃r,subs f=f::r:=by cases f<;>exact⟨_,rfl⟩
theorem vU{L M:List F}(f:F):(L++(subs f++M))[L.length]?=some f:=by
 obtain⟨r,hr⟩:=xn f;rw[hr,NM (Nq _),OF];rfl
theorem FH{facts:Nat}:∀(f:F)(L M:List F),wf facts f=true->∀(i:Nat)(p:Pt)(g:F),(pts L.length f)[i]?=some p->(subs f)[i]?=some g->Node (L++(subs f++M)) (L.length+i) p g:=by
 intro f;have un:∀(h a:F)(p0:Pt)(L M:List F),(∀(L M:List F)(i:Nat)(p:Pt)(g:F),(pts L.length a)[i]?=some p->(subs a)[i]?=some g->Node (L++(subs a++M)) (L.length+i) p g)->
   subs h=h::subs a->pts L.length h=p0::pts (L.length+1) a->Node (L++(subs h++M)) L.length p0 h->
   ∀(i:Nat)(p:Pt)(g:F),(pts L.length h)[i]?=some p->(subs h)[i]?=some g->Node (L++(subs h++M)) (L.length+i) p g:=by
  intro h a p0 L M ih e1 e2 nd i p g hp hg;rw[e2]at hp;rw[e1]at hg;cases i with
  |zero=>
   cases hp;cases hg;exact nd
  |succ i=>
   have:=ih (L++[h]) M i p g (by rw[Nk];exact hp) hg;rw[Nk,show L.length+[h].length+i=L.length+(i+1) by simp;omega]at this;rw[e1];simpa using this
 have bi:∀(h a b:F)(p0:Pt)(L M:List F),(∀(L M:List F)(i:Nat)(p:Pt)(g:F),(pts L.length a)[i]?=some p->(subs a)[i]?=some g->Node (L++(subs a++M)) (L.length+i) p g)->
   (∀(L M:List F)(i:Nat)(p:Pt)(g:F),(pts L.length b)[i]?=some p->(subs b)[i]?=some g->Node (L++(subs b++M)) (L.length+i) p g)->
   subs h=h::(subs a++subs b)->pts L.length h=p0::(pts (L.length+1) a++pts (L.length+1+size a) b)->Node (L++(subs h++M)) L.length p0 h->
   ∀(i:Nat)(p:Pt)(g:F),(pts L.length h)[i]?=some p->(subs h)[i]?=some g->Node (L++(subs h++M)) (L.length+i) p g:=by
  intro h a b p0 L M iha ihb e1 e2 nd i p g hp hg;rw[e2]at hp;rw[e1]at hg;cases i with
  |zero=>
   cases hp;cases hg;exact nd
  |succ i=>
   rw[Ou]at hp hg;by_cases hi:i<size a
   ·rw[NJ (by rw[aR];exact hi)]at hp;rw[NJ (by rw[ba];exact hi)]at hg;have:=iha (L++[h]) (subs b++M) i p g (by rw[Nk];exact hp) hg;rw[Nk,show L.length+[h].length+i=L.length+(i+1) by simp;omega]at this;rw[e1];simpa using this
   ·rw[NM (by rw[aR];omega),aR]at hp;rw[NM (by rw[ba];omega),ba]at hg;have hl:(L++(h::subs a)).length=L.length+1+size a:=by rw[Nk,NH,ba];omega
    have:=ihb (L++(h::subs a)) M (i-size a) p g (by rw[hl];exact hp) hg;rw[hl,show L.length+1+size a+(i-size a)=L.length+(i+1) by omega]at this;rw[e1];simpa using this
 have g1:∀(L M:List F)(h a:F),subs h=h::subs a->(L++(subs h++M))[L.length+1]?=some a:=by
  intro L M h a e;have:=vU (L:=L++[h]) (M:=M) a;rw[Nk]at this;rw[e];simpa using this
 have g2:∀(L M:List F)(h a b:F),subs h=h::(subs a++subs b)->(L++(subs h++M))[L.length+1]?=some a/\(L++(subs h++M))[L.length+1+size a]?=some b:=by
  intro L M h a b e;constructor
  ·have:=vU (L:=L++[h]) (M:=subs b++M) a;rw[Nk]at this;rw[e];simpa using this
  ·have:=vU (L:=L++(h::subs a)) (M:=M) b;rw[show(L++(h::subs a)).length=L.length+1+size a by rw[Nk,NH,ba];omega]at this;rw[e];simpa using this
 induction f with
 |yes=>
  intro L M _ i p g hp hg;cases i with
  |zero=>cases hp;cases hg;exact .yes
  |succ i=>simp[pts]at hp
 |fact k=>
  intro L M _ i p g hp hg;cases i with
  |zero=>cases hp;cases hg;exact .fact
  |succ i=>simp[pts]at hp
 |turn=>intro L M hw;simp[wf]at hw
 |not a ih=>intro L M hw;exact un _ a _ L M (λL M=>ih L M hw) rfl rfl (.not (by omega) (g1 L M _ a rfl))
 |before a ih=>intro L M hw;exact un _ a _ L M (λL M=>ih L M hw) rfl rfl (.before (by omega) (g1 L M _ a rfl))
 |next a ih=>intro L M hw;exact un _ a _ L M (λL M=>ih L M hw) rfl rfl (.next (by omega) (g1 L M _ a rfl))
 |within n a ih=>
  intro L M hw;simp only[wf,Nv]at hw;exact un _ a _ L M (λL M=>ih L M hw.2) rfl rfl (.within (by omega) (g1 L M _ a rfl))
 |and a b iha ihb=>
  intro L M hw;simp only[wf,Nv]at hw;exact bi _ a b _ L M (λL M=>iha L M hw.1) (λL M=>ihb L M hw.2) rfl rfl (.and (by omega) (by omega) (g2 L M _ a b rfl).1 (g2 L M _ a b rfl).2)
 |or a b iha ihb=>
  intro L M hw;simp only[wf,Nv]at hw;exact bi _ a b _ L M (λL M=>iha L M hw.1) (λL M=>ihb L M hw.2) rfl rfl (.or (by omega) (by omega) (g2 L M _ a b rfl).1 (g2 L M _ a b rfl).2)
 |since a b iha ihb=>
  intro L M hw;simp only[wf,Nv]at hw;exact bi _ a b _ L M (λL M=>iha L M hw.1) (λL M=>ihb L M hw.2) rfl rfl (.since (by omega) (by omega) (g2 L M _ a b rfl).1 (g2 L M _ a b rfl).2)
 |«until» a b iha ihb=>
  intro L M hw;simp only[wf,Nv]at hw;exact bi _ a b _ L M (λL M=>iha L M hw.1) (λL M=>ihb L M hw.2) rfl rfl (.til (by omega) (by omega) (g2 L M _ a b rfl).1 (g2 L M _ a b rfl).2)
theorem ku:∀f:F,past f=true->sound f=true:=by
 intro f;induction f with
 |yes=>intro _;rfl
 |fact _=>intro _;rfl
 |turn=>intro _;rfl
 |not a ih=>intro h;exact ih h
 |and a b iha ihb=>intro h;simp only[past,Nv]at h;simp[sound,iha h.1,ihb h.2]
 |or a b iha ihb=>intro h;simp only[past,Nv]at h;simp[sound,iha h.1,ihb h.2]
 |before a _=>intro h;exact h
 |since a b _ _=>intro h;exact h
 |next a _=>intro h;simp[past]at h
 |«until» a b _ _=>intro h;simp[past]at h
 |within n a _=>intro h;simp[past]at h
theorem BQ:∀f:F,sound f=true->∀g∈subs f,sound g=true:=by
 intro f;induction f with
 |yes=>intro h g hg;rw[Nu.mp hg];exact h
 |fact _=>intro h g hg;rw[Nu.mp hg];exact h
 |turn=>intro h g hg;rw[Nu.mp hg];exact h
 |not a ih=>
  intro h g hg;rcases ND.mp hg with rfl|hg
  ·exact h
  ·exact ih h g hg
 |next a ih=>
  intro h g hg;rcases ND.mp hg with rfl|hg
  ·exact h
  ·exact ih h g hg
 |within n a ih=>
  intro h g hg;rcases ND.mp hg with rfl|hg
  ·exact h
  ·exact ih h g hg
 |before a ih=>
  intro h g hg;rcases ND.mp hg with rfl|hg
  ·exact h
  ·exact ih (ku a h) g hg
 |and a b iha ihb=>
  intro h g hg;rcases ND.mp hg with rfl|hg
  ·exact h
  ·simp only[sound,Nv]at h;rcases Np.mp hg with hg|hg
   ·exact iha h.1 g hg
   ·exact ihb h.2 g hg
 |or a b iha ihb=>
  intro h g hg;rcases ND.mp hg with rfl|hg
  ·exact h
  ·simp only[sound,Nv]at h;rcases Np.mp hg with hg|hg
   ·exact iha h.1 g hg
   ·exact ihb h.2 g hg
 |«until» a b iha ihb=>
  intro h g hg;rcases ND.mp hg with rfl|hg
  ·exact h
  ·simp only[sound,Nv]at h;rcases Np.mp hg with hg|hg
   ·exact iha h.1 g hg
   ·exact ihb h.2 g hg
 |since a b iha ihb=>
  intro h g hg;rcases ND.mp hg with rfl|hg
  ·exact h
  ·simp only[sound,Nv]at h;rcases Np.mp hg with hg|hg
   ·exact iha (ku a h.1) g hg
   ·exact ihb (ku b h.2) g hg
theorem yt{facts:Nat}(hw:wf facts f=true)(hs:sound f=true):Rep (pts 0 f) (subs f):=by
 refine⟨by rw[ba,aR],λi p g hp hg=>?_,BQ f hs⟩;have:=FH f [] [] hw i p g hp hg;simpa using this
theorem hZ(f:F):(subs f)[0]?=some f:=by
 obtain⟨r,hr⟩:=xn f;rw[hr];rfl
def joinR:Nat->List (Nat×Nat)->List Pt×List Nat
 |_,[]=>([],[])
 |o,kn::ks=>let x:=joinR (o+1) ks
  (⟨kn.1,kn.2,if 0<inner kn.1 then x.2.getD 0 0 else 0,if 1<inner kn.1 then x.2.getD 1 0 else 0⟩::x.1,o::x.2.drop (inner kn.1))
theorem ck(o:Nat)(kn:Nat×Nat)(ks:List (Nat×Nat)):joinR o (kn::ks)=
 (⟨kn.1,kn.2,if 0<inner kn.1 then(joinR (o+1) ks).2.getD 0 0 else 0,if 1<inner kn.1 then(joinR (o+1) ks).2.getD 1 0 else 0⟩::(joinR (o+1) ks).1,o::(joinR (o+1) ks).2.drop (inner kn.1)):=rfl
theorem xN:∀(f:F)(o:Nat)(ks:List (Nat×Nat)),(∃facts,wf facts f=true)->joinR o (pre f++ks)=(pts o f++(joinR (o+size f) ks).1,o::(joinR (o+size f) ks).2):=by
 intro f;induction f with
 |yes=>intro o ks _;rfl
 |fact _=>intro o ks _;rfl
 |turn=>rintro o ks ⟨_,h⟩;simp[wf]at h
 |not a ih=>
  intro o ks h;show joinR o ((2,0)::(pre a++ks))=_;rw[ck];rw[ih (o+1) ks h,show o+1+size a=o+size (.not a) by simp[size];omega];rfl
 |before a ih=>
  intro o ks h;show joinR o ((5,0)::(pre a++ks))=_;rw[ck];rw[ih (o+1) ks h,show o+1+size a=o+size (.before a) by simp[size];omega];rfl
 |next a ih=>
  intro o ks h;show joinR o ((7,0)::(pre a++ks))=_;rw[ck];rw[ih (o+1) ks h,show o+1+size a=o+size (.next a) by simp[size];omega];rfl
 |within n a ih=>
  rintro o ks ⟨facts,h⟩;simp only[wf,Nv]at h;show joinR o ((9,n)::(pre a++ks))=_;rw[ck];rw[ih (o+1) ks ⟨facts,h.2⟩,show o+1+size a=o+size (.within n a) by simp[size];omega];rfl
 |and a b iha ihb=>
  rintro o ks ⟨facts,h⟩;simp only[wf,Nv]at h;show joinR o ((3,0)::((pre a++pre b)++ks))=_;rw[ck];rw[NV,iha (o+1) _ ⟨facts,h.1⟩,ihb _ ks ⟨facts,h.2⟩,show o+1+size a+size b=o+size (.and a b) by simp[size];omega];simp[pts,inner]
 |or a b iha ihb=>
  rintro o ks ⟨facts,h⟩;simp only[wf,Nv]at h;show joinR o ((4,0)::((pre a++pre b)++ks))=_;rw[ck];rw[NV,iha (o+1) _ ⟨facts,h.1⟩,ihb _ ks ⟨facts,h.2⟩,show o+1+size a+size b=o+size (.or a b) by simp[size];omega];simp[pts,inner]
 |since a b iha ihb=>
  rintro o ks ⟨facts,h⟩;simp only[wf,Nv]at h;show joinR o ((6,0)::((pre a++pre b)++ks))=_;rw[ck];rw[NV,iha (o+1) _ ⟨facts,h.1⟩,ihb _ ks ⟨facts,h.2⟩,show o+1+size a+size b=o+size (.since a b) by simp[size];omega];simp[pts,inner]
 |«until» a b iha ihb=>
  rintro o ks ⟨facts,h⟩;simp only[wf,Nv]at h;show joinR o ((8,0)::((pre a++pre b)++ks))=_;rw[ck];rw[NV,iha (o+1) _ ⟨facts,h.1⟩,ihb _ ks ⟨facts,h.2⟩,show o+1+size a+size b=o+size (.until a b) by simp[size];omega];simp[pts,inner]
theorem F5{facts:Nat}(h:wf facts f=true):joinR 0 (pre f)=(pts 0 f,[0]):=by
 have:=xN f 0 [] ⟨facts,h⟩;simpa [joinR]using this
def fwd(k:Nat):Bool:=k==7||k==8||k==9
def bck(k:Nat):Bool:=k==5||k==6
theorem Fz{facts:Nat}:∀f:F,wf facts f=true->(past f=true↔∀p∈pts 0 f,fwd p.kind=false):=by
 have key:∀(f:F)(o:Nat),wf facts f=true->(past f=true↔∀p∈pts o f,fwd p.kind=false):=by
  intro f;induction f with
  |yes=>intro o _;simp[past,pts,fwd]
  |fact _=>intro o _;simp[past,pts,fwd]
  |turn=>intro o h;simp[wf]at h
  |not a ih=>intro o h;simp only[past,pts,ND,Qe];rw[ih (o+1) h];simp[fwd]
  |before a ih=>intro o h;simp only[past,pts,ND,Qe];rw[ih (o+1) h];simp[fwd]
  |next a ih=>intro o h;simp[past,pts,fwd]
  |within n a ih=>intro o h;simp[past,pts,fwd]
  |«until» a b _ _=>intro o h;simp[past,pts,fwd]
  |and a b iha ihb=>
   intro o h;simp only[wf,Nv]at h;simp only[past,pts,ND,Np,Qe,Nv];rw[iha (o+1) h.1,ihb (o+1+size a) h.2];simp only[fwd];constructor
   ·rintro⟨h1,h2⟩;exact⟨by decide,λp hp=>hp.elim (h1 p) (h2 p)⟩
   ·rintro⟨_,h2⟩;exact⟨λp hp=>h2 p (.inl hp),λp hp=>h2 p (.inr hp)⟩
  |or a b iha ihb=>
   intro o h;simp only[wf,Nv]at h;simp only[past,pts,ND,Np,Qe,Nv];rw[iha (o+1) h.1,ihb (o+1+size a) h.2];simp only[fwd];constructor
   ·rintro⟨h1,h2⟩;exact⟨by decide,λp hp=>hp.elim (h1 p) (h2 p)⟩
   ·rintro⟨_,h2⟩;exact⟨λp hp=>h2 p (.inl hp),λp hp=>h2 p (.inr hp)⟩
  |since a b iha ihb=>
   intro o h;simp only[wf,Nv]at h;simp only[past,pts,ND,Np,Qe,Nv];rw[iha (o+1) h.1,ihb (o+1+size a) h.2];simp only[fwd];constructor
   ·rintro⟨h1,h2⟩;exact⟨by decide,λp hp=>hp.elim (h1 p) (h2 p)⟩
   ·rintro⟨_,h2⟩;exact⟨λp hp=>h2 p (.inl hp),λp hp=>h2 p (.inr hp)⟩
 intro f;exact key f 0
def inP:Bool->F->List Bool
 |b,.not a=>b::inP b a
 |b,.and x y=>b::(inP b x++inP b y)
 |b,.or x y=>b::(inP b x++inP b y)
 |b,.before a=>b::inP true a
 |b,.since x y=>b::(inP true x++inP true y)
 |b,.next a=>b::inP b a
 |b,.until x y=>b::(inP b x++inP b y)
 |b,.within _ a=>b::inP b a
 |b,_=>[b]
theorem vR:∀(f:F)(b:Bool),(inP b f).length=size f:=by
 intro f;induction f with
 |yes=>intro b;rfl
 |fact i=>intro b;rfl
 |turn=>intro b;rfl
 |not a ih=>intro b;simp[inP,size,ih]
 |before a ih=>intro b;simp[inP,size,ih]
 |next a ih=>intro b;simp[inP,size,ih]
 |within n a ih=>intro b;simp[inP,size,ih]
 |and x y ihx ihy=>intro b;simp[inP,size,ihx,ihy]
 |or x y ihx ihy=>intro b;simp[inP,size,ihx,ihy]
 |since x y ihx ihy=>intro b;simp[inP,size,ihx,ihy]
 |«until» x y ihx ihy=>intro b;simp[inP,size,ihx,ihy]
theorem mZ(f:F)(b:Bool):∃r,inP b f=b::r:=by cases f<;>exact⟨_,rfl⟩
def kids(p:Pt):List Nat:=(if 0<inner p.kind then [p.first]else [])++(if 1<inner p.kind then [p.second]else [])
structure sI(o:Nat)(b:Bool)(f:F):Prop where
 kid:∀(j:Nat)(p:Pt),(pts o f)[j]?=some p->∀x∈kids p,∃y,x=o+y/\j<y/\y<size f/\(inP b f).getD y false=((inP b f).getD j false||bck p.kind)
 dad:∀(y:Nat),0<y->y<size f->∃j p,j<y/\(pts o f)[j]?=some p/\o+y∈kids p
 bad:(∃(j:Nat) (p:Pt),(pts o f)[j]?=some p/\(inP b f).getD j false=true/\fwd p.kind=true)↔(if b=true then past f=false else sound f=false)
variable{α:Type}
theorem getD_cons_succ(a:α)(l:List α)(i:Nat)(d:α):(a::l).getD (i+1) d=l.getD i d:=by
 simp[Nj]
variable{i:Nat}
theorem gw{l m:List α}(d:α)(h:i<l.length):(l++m).getD i d=l.getD i d:=by
 rw[Nj,Nj,NJ h]
theorem eU{l m:List α}(d:α)(h:l.length<=i):(l++m).getD i d=m.getD (i-l.length) d:=by
 rw[Nj,Nj,NM h]
variable{b b':Bool}
theorem oj{o:Nat}{h a:F}{p0:Pt}(M:sI (o+1) b' a)(e1:pts o h=p0::pts (o+1) a)(e2:inP b h=b::inP b' a)(e3:size h=size a+1)
  (hk:kids p0=[o+1])(hb:b'=(b||bck p0.kind))
  (JR:(if b=true then past h=false else sound h=false)↔(b=true/\fwd p0.kind=true)∨(if b'=true then past a=false else sound a=false)):sI o b h:=by
 refine⟨λj p hp x hx=>?_,λy h0 hy=>?_,?_⟩
 ·rw[e1]at hp;rw[e2];cases j with
  |zero=>
   cases hp;rw[hk]at hx;obtain⟨r,hr⟩:=mZ a b';refine⟨1,by simpa using hx,by omega,by have:=size_pos a;omega,?_⟩;rw[hr];exact hb
  |succ j=>
   obtain⟨y,y1,y2,y3,y4⟩:=M.kid j p hp x hx;exact⟨y+1,by omega,by omega,by omega,by rw[getD_cons_succ,getD_cons_succ];exact y4⟩
 ·rw[e1];obtain⟨y,rfl⟩:∃z,y=z+1:=⟨y-1,by omega⟩;by_cases hy0:y=0
  ·subst hy0;exact⟨0,p0,by omega,rfl,by rw[hk];simp⟩
  ·obtain⟨j,p,j1,j2,j3⟩:=M.dad y (by omega) (by omega);exact⟨j+1,p,by omega,j2,by rw[show o+(y+1)=o+1+y by omega];exact j3⟩
 ·rw[JR,<-M.bad,e1,e2];constructor
  ·rintro⟨j,p,h1,h2,h3⟩;cases j with
   |zero=>
    cases h1;exact .inl ⟨h2,h3⟩
   |succ j=>exact .inr ⟨j,p,h1,by rw[getD_cons_succ]at h2;exact h2,h3⟩
  ·rintro(⟨h1,h2⟩|⟨j,p,h1,h2,h3⟩)
   ·exact⟨0,p0,rfl,h1,h2⟩
   ·exact⟨j+1,p,h1,by rw[getD_cons_succ];exact h2,h3⟩
theorem om{o:Nat}{h x y:F}{p0:Pt}(M:sI (o+1) b' x)(N:sI (o+1+size x) b' y)(e1:pts o h=p0::(pts (o+1) x++pts (o+1+size x) y))(e2:inP b h=b::(inP b' x++inP b' y))(e3:size h=size x+size y+1)
  (hk:kids p0=[o+1,o+1+size x])(hb:b'=(b||bck p0.kind))
  (JR:(if b=true then past h=false else sound h=false)↔(b=true/\fwd p0.kind=true)∨(if b'=true then past x=false else sound x=false)∨(if b'=true then past y=false else sound y=false)):sI o b h:=by
 have lx:=vR x b';have ly:=vR y b';have sx:=size_pos x;have sy:=size_pos y;refine⟨λj p hp q hq=>?_,λq h0 hq=>?_,?_⟩
 ·rw[e1]at hp;rw[e2];cases j with
  |zero=>
   cases hp;rw[hk]at hq;obtain⟨r,hr⟩:=mZ x b';obtain⟨r',hr'⟩:=mZ y b';rcases ND.mp hq with rfl|hq
   ·refine⟨1,rfl,by omega,by omega,?_⟩;rw[hr];exact hb
   ·have:q=o+1+size x:=by simpa using hq
    subst this;refine⟨size x+1,by omega,by omega,by omega,?_⟩;rw[getD_cons_succ,eU _ (by omega),lx,OF,hr'];exact hb
  |succ j=>
   rw[Ou]at hp;by_cases hj:j<size x
   ·rw[NJ (by rw[aR];exact hj)]at hp;obtain⟨z,z1,z2,z3,z4⟩:=M.kid j p hp q hq;exact⟨z+1,by omega,by omega,by omega,by rw[getD_cons_succ,getD_cons_succ,gw _ (by omega),gw _ (by omega)];exact z4⟩
   ·rw[NM (by rw[aR];omega),aR]at hp;obtain⟨z,z1,z2,z3,z4⟩:=N.kid (j-size x) p hp q hq;refine⟨z+size x+1,by omega,by omega,by omega,?_⟩;rw[getD_cons_succ,getD_cons_succ,eU _ (by omega),eU _ (by omega),lx,Pr];exact z4
 ·rw[e1];obtain⟨q,rfl⟩:∃z,q=z+1:=⟨q-1,by omega⟩;by_cases hq0:q=0
  ·subst hq0;exact⟨0,p0,by omega,rfl,by rw[hk];simp⟩
  ·by_cases hqx:q<size x
   ·obtain⟨j,p,j1,j2,j3⟩:=M.dad q (by omega) hqx;refine⟨j+1,p,by omega,?_,by rw[show o+(q+1)=o+1+q by omega];exact j3⟩;rw[Ou,NJ (by rw[aR];omega)];exact j2
   ·by_cases hqe:q=size x
    ·subst hqe;exact⟨0,p0,by omega,rfl,by rw[hk,show o+(size x+1)=o+1+size x by omega];simp⟩
    ·obtain⟨j,p,j1,j2,j3⟩:=N.dad (q-size x) (by omega) (by omega);refine⟨j+size x+1,p,by omega,?_,by rw[show o+(q+1)=o+1+size x+(q-size x) by omega];exact j3⟩;rw[Ou,NM (by rw[aR];omega),aR,Pr];exact j2
 ·rw[JR,<-M.bad,<-N.bad,e1,e2];constructor
  ·rintro⟨j,p,h1,h2,h3⟩;cases j with
   |zero=>
    cases h1;exact .inl ⟨h2,h3⟩
   |succ j=>
    rw[Ou]at h1;rw[getD_cons_succ]at h2;by_cases hj:j<size x
    ·rw[NJ (by rw[aR];exact hj)]at h1;rw[gw _ (by omega)]at h2;exact .inr (.inl ⟨j,p,h1,h2,h3⟩)
    ·rw[NM (by rw[aR];omega),aR]at h1;rw[eU _ (by omega),lx]at h2;exact .inr (.inr ⟨j-size x,p,h1,h2,h3⟩)
  ·rintro(⟨h1,h2⟩|⟨j,p,h1,h2,h3⟩|⟨j,p,h1,h2,h3⟩)
   ·exact⟨0,p0,rfl,h1,h2⟩
   ·have hj:j<size x:=by rw[<-aR x (o+1)];exact(Nh.mp h1).1
    refine⟨j+1,p,?_,?_,h3⟩
    ·rw[Ou,NJ (by rw[aR];exact hj)];exact h1
    ·rw[getD_cons_succ,gw _ (by omega)];exact h2
   ·refine⟨j+size x+1,p,?_,?_,h3⟩
    ·rw[Ou,NM (by rw[aR];omega),aR,Pr];exact h1
    ·rw[getD_cons_succ,eU _ (by omega),lx,Pr];exact h2
theorem zr{a:Bool}:(a&&b)=false↔a=false∨b=false:=by cases a<;>cases b<;>simp
theorem marked{facts:Nat}:∀(f:F)(o:Nat)(b:Bool),wf facts f=true->sI o b f:=by
 intro f;induction f with
 |yes=>
  intro o b _;refine⟨λj p hp x hx=>?_,λy h0 hy=>by simp[size]at hy;omega,?_⟩
  ·cases j with
   |zero=>cases hp;simp[kids,inner]at hx
   |succ j=>simp[pts]at hp
  ·constructor
   ·rintro⟨j,p,h1,h2,h3⟩;cases j with
    |zero=>cases h1;simp[fwd]at h3
    |succ j=>simp[pts]at h1
   ·cases b<;>simp[past,sound]
 |fact i=>
  intro o b _;refine⟨λj p hp x hx=>?_,λy h0 hy=>by simp[size]at hy;omega,?_⟩
  ·cases j with
   |zero=>cases hp;simp[kids,inner]at hx
   |succ j=>simp[pts]at hp
  ·constructor
   ·rintro⟨j,p,h1,h2,h3⟩;cases j with
    |zero=>cases h1;simp[fwd]at h3
    |succ j=>simp[pts]at h1
   ·cases b<;>simp[past,sound]
 |turn=>intro o b h;simp[wf]at h
 |not a ih=>intro o b h;exact oj (ih (o+1) b h) rfl rfl rfl rfl (by cases b<;>rfl) (by cases b<;>simp[past,sound,fwd])
 |before a ih=>intro o b h;exact oj (ih (o+1) true h) rfl rfl rfl rfl (by cases b<;>rfl) (by cases b<;>simp[past,sound,fwd])
 |next a ih=>intro o b h;exact oj (ih (o+1) b h) rfl rfl rfl rfl (by cases b<;>rfl) (by cases b<;>simp[past,sound,fwd])
 |within n a ih=>
  intro o b h;simp only[wf,Nv]at h;exact oj (ih (o+1) b h.2) rfl rfl rfl rfl (by cases b<;>rfl) (by cases b<;>simp[past,sound,fwd])
 |and x y ihx ihy=>
  intro o b h;simp only[wf,Nv]at h;exact om (ihx (o+1) b h.1) (ihy (o+1+size x) b h.2) rfl rfl rfl rfl (by cases b<;>rfl) (by cases b<;>simp only[past,sound,zr]<;>simp[fwd])
 |or x y ihx ihy=>
  intro o b h;simp only[wf,Nv]at h;exact om (ihx (o+1) b h.1) (ihy (o+1+size x) b h.2) rfl rfl rfl rfl (by cases b<;>rfl) (by cases b<;>simp only[past,sound,zr]<;>simp[fwd])
 |«until» x y ihx ihy=>
  intro o b h;simp only[wf,Nv]at h;exact om (ihx (o+1) b h.1) (ihy (o+1+size x) b h.2) rfl rfl rfl rfl (by cases b<;>rfl) (by cases b<;>simp only[past,sound,zr]<;>simp[fwd])
 |since x y ihx ihy=>
  intro o b h;simp only[wf,Nv]at h;exact om (ihx (o+1) true h.1) (ihy (o+1+size x) true h.2) rfl rfl rfl rfl (by cases b<;>rfl) (by cases b<;>simp only[past,sound,zr]<;>simp[fwd])
def gf(p:Pt)(v:Bool)(fl:List Bool):List Bool:=
 let fl1:=if 0<inner p.kind then fl.set p.first v else fl
 if 1<inner p.kind then fl1.set p.second v else fl1
def marks(P:List Pt):Nat->List Bool
 |0=>List.replicate P.length false
 |m+1=>match P[m]? with
  |some p=>gf p ((marks P m).getD m false||bck p.kind) (marks P m)
  |none=>marks P m
theorem uU(p:Pt)(v:Bool)(fl:List Bool):(gf p v fl).length=fl.length:=by
 unfold gf;simp only;split<;>split<;>simp
theorem hG(P:List Pt):∀m,(marks P m).length=P.length
 |0=>by simp[marks]
 |m+1=>by
  unfold marks;split
  ·rw[uU,hG P m]
  ·exact hG P m
theorem vV{l:List Bool}{j:Nat}{v:Bool}(hi:i<l.length):(l.set i v).getD j false=if j=i then v else l.getD j false:=by
 rw[Nj,Nj];by_cases h:j=i
 ·subst h;rw[Oq hi,Nz rfl];rfl
 ·rw[Oy (λz=>h z.symm),Nt h]
theorem zV{p:Pt}{v:Bool}{fl:List Bool}(hk:∀x∈kids p,x<fl.length)(x:Nat):(gf p v fl).getD x false=if x∈kids p then v else fl.getD x false:=by
 have k2:0<inner p.kind->1<inner p.kind->kids p=[p.first,p.second]:=λh0 h1=>by unfold kids;rw[Nz h0,Nz h1];rfl
 have k1:0<inner p.kind->¬1<inner p.kind->kids p=[p.first]:=λh0 h1=>by unfold kids;rw[Nz h0,Nt h1];rfl
 have k0:¬0<inner p.kind->kids p=[]:=λh0=>by unfold kids;rw[Nt h0,Nt (by omega)];rfl
 unfold gf;simp only;by_cases h0:0<inner p.kind
 ·by_cases h1:1<inner p.kind
  ·have e:=k2 h0 h1;rw[Nz h0,Nz h1,vV (by rw[PV];exact hk _ (by rw[e];simp)),vV (hk _ (by rw[e];simp)),e];by_cases e2:x=p.second
   ·simp[e2]
   ·by_cases e1:x=p.first
    ·simp[e1]
    ·simp[e1,e2]
  ·have e:=k1 h0 h1;rw[Nz h0,Nt h1,vV (hk _ (by rw[e];simp)),e];simp
 ·have e:=k0 h0;rw[Nt h0,Nt (by omega),e];simp
theorem Es{facts:Nat}(hw:wf facts f=true):∀(m:Nat),m<=size f->∀(j:Nat)(p:Pt),j<m->(pts 0 f)[j]?=some p->∀x∈kids p,(marks (pts 0 f) m).getD x false=(inP false f).getD x false:=by
 have M:=marked (facts:=facts) f 0 false hw;have here:∀m,m<size f->(∀(j:Nat)(p:Pt),j<m->(pts 0 f)[j]?=some p->∀x∈kids p,(marks (pts 0 f) m).getD x false=(inP false f).getD x false)->(marks (pts 0 f) m).getD m false=(inP false f).getD m false:=by
  intro m hm ih;by_cases h0:m=0
  ·subst h0;obtain⟨r,hr⟩:=mZ f false;rw[hr];simp[marks,Nj,OX];split<;>rfl
  ·obtain⟨j,p,j1,j2,j3⟩:=M.dad m (by omega) hm;exact ih j p j1 j2 m (by rw[PX]at j3;exact j3)
 intro m;induction m with
 |zero=>intro _ j p hj;omega
 |succ m ih=>
  intro hm j p hj hp x hx;have ihm:=ih (by omega);have e:(pts 0 f)[m]?=some ((pts 0 f)[m]'(by rw[aR];omega)):=Ng _;generalize (pts 0 f)[m]'(by rw[aR];omega)=q at e;have hk:∀x∈kids q,x<(marks (pts 0 f) m).length:=λx hx=>by
   obtain⟨y,y1,y2,y3,_⟩:=M.kid m q e x hx;rw[hG,aR];omega
  unfold marks;rw[e];show(gf q _ _).getD x false=_;rw[zV hk];by_cases hq:x∈kids q
  ·rw[Nz hq,here m (by omega) ihm];obtain⟨y,y1,y2,y3,y4⟩:=M.kid m q e x hq;rw[show x=y by omega,y4]
  ·rw[Nt hq];have hjm:j<m:=by
    rcases PY j m with h|h
    ·exact h
    ·have:j=m:=by omega
     subst this;rw[hp]at e;cases e;exact absurd hx hq
   exact ihm j p hjm hp x hx
theorem vI{facts:Nat}(hw:wf facts f=true){m:Nat}(hm:m<size f):(marks (pts 0 f) m).getD m false=(inP false f).getD m false:=by
 have M:=marked (facts:=facts) f 0 false hw;by_cases h0:m=0
 ·subst h0;obtain⟨r,hr⟩:=mZ f false;rw[hr];simp[marks,Nj,OX];split<;>rfl
 ·obtain⟨j,p,j1,j2,j3⟩:=M.dad m (by omega) hm;exact Es hw m (by omega) j p j1 j2 m (by rw[PX]at j3;exact j3)
theorem D'{facts:Nat}(hw:wf facts f=true):sound f=true↔∀(i:Nat)(p:Pt),(pts 0 f)[i]?=some p->((marks (pts 0 f) i).getD i false&&fwd p.kind)=false:=by
 have M:=marked (facts:=facts) f 0 false hw;have hb:=M.bad;constructor
 ·intro hs i p hp;have hi:i<size f:=by rw[<-aR f 0];exact(Nh.mp hp).1
  rw[vI hw hi];cases e:((inP false f).getD i false&&fwd p.kind)with
  |false=>rfl
  |true=>
   rw[Nv]at e;have:=hb.mp ⟨i,p,hp,e.1,e.2⟩;simp[hs]at this
 ·intro h;cases hs:sound f with
  |true=>rfl
  |false=>
   obtain⟨i,p,h1,h2,h3⟩:=hb.mpr (by simp[hs]);have hi:i<size f:=by rw[<-aR f 0];exact(Nh.mp h1).1
   have:=h i p h1;rw[vI hw hi,h2,h3]at this;cases this
end Rdg
namespace Mir
def B1(l:List Nat):Prop:=∀x∈l,x<=1
variable{l:List Nat}
theorem B1.getD(h:B1 l)(i:Nat):l.getD i 0<=1:=by
 rw[Nj];cases e:l[i]? with
 |none=>exact NT _
 |some x=>exact h x (Nr e)
theorem B1.set(h:B1 l){v:Nat}(hv:v<=1)(i:Nat):B1 (l.set i v):=λx hx=>by
 rcases List.mem_or_eq_of_mem_set hx with q|q
 ·exact h x q
 ·rw[q];exact hv
theorem B1.rep(n:Nat):B1 (List.replicate n 0):=λx hx=>by rw[(List.mem_replicate.mp hx).2];omega
theorem B1.cat{a b:List Nat}(h:B1 a)(h':B1 b):B1 (a++b):=λx hx=>(Np.mp hx).elim (h x) (h' x)
structure dz(P:List Pt):Prop where
 pos:0<P.length
 few:P.length<=12
 fi:∀p∈P,p.first<P.length
 se:∀p∈P,p.second<P.length
 kd:∀p∈P,p.kind<=9
theorem uH{a b:Nat}(h:a<=1):a&&&b<=1:=NR Nat.and_le_left h
theorem B4{a b:Nat}(h:a<=1)(h':b<=1):a|||b<=1:=by
 have ha:a=0∨a=1:=by omega
 have hb:b=0∨b=1:=by omega
 rcases ha with rfl|rfl<;>rcases hb with rfl|rfl<;>decide
variable{h:List Nat}
theorem Br(b:B1 h)(p:Pt):atAny p h<=1:=by
 unfold atAny;split
 ·omega
 split
 ·omega
 split
 ·exact uH (b.getD _)
 ·exact B4 (b.getD _) (b.getD _)
def eF(P:List Pt)(out:List Nat):Prop:=out.length=P.length+1/\∀(i:Nat)(p:Pt),P[i]?=some p->(p.kind=7∨p.kind=8)->out.getD i 0<=1
theorem EX(b:B1 h)(p:Pt){t m o:Nat}(hm:m<=1)(ho:p.kind=7∨p.kind=8->o<=1):ed p h t m o<=1:=by
 unfold ed;split
 ·rw[Nat.and_comm];exact uH (Nq 1)
 split
 ·exact hm
 split
 ·exact B4 (b.getD _) (uH (b.getD _))
 split
 ·rename_i q;exact ho (.inl q)
 split
 ·rename_i q;exact B4 (b.getD _) (uH (b.getD _))
 ·split<;>omega
theorem rq{n:Nat}{f:Nat->List Nat->Option Nat}(hf:∀i h v,B1 h->f i h=some v->v<=1):∀m,B1 (down n f (List.replicate n 0) m)
 |0=>B1.rep n
 |m+1=>by
  have ih:=rq (n:=n) hf m;unfold down;split
  ·rename_i v e;exact ih.set (hf _ _ v ih e) _
  ·exact ih
variable{P:List Pt}
theorem DI(i:Nat)(h:List Nat)(v:Nat)(b:B1 h)(e:sD P i h=some v):v<=1:=by
 unfold sD at e;split at e
 ·split at e
  ·cases e;exact Br b _
  ·cases e
 ·cases e
variable{mem out:List Nat}
theorem zH{t:Nat}(bm:B1 mem)(ob:eF P out)(i:Nat)(h:List Nat)(v:Nat)(b:B1 h)(e:jB P t mem out i h=some v):v<=1:=by
 unfold jB at e;split at e
 ·rename_i p hp
  cases e;split
  ·exact Br b _
  ·exact EX b _ (bm.getD _) λq=>ob.2 i p hp q
 ·cases e
theorem A2(P:List Pt):B1 (eT P):=rq DI _
theorem kK(t:Nat)(bm:B1 mem)(ob:eF P out):B1 (dM P t mem out):=rq (zH bm ob) _
theorem yX(P:List Pt):(eT P).length=P.length:=by unfold eT;rw[cR,N1]
theorem gF(P:List Pt)(t:Nat)(mem out:List Nat):(dM P t mem out).length=P.length:=by unfold dM;rw[cR,N1]
theorem Dq(P:List Pt):B1 (yS P):=B1.rep _
theorem AO(b:B1 h):B1 (gE P h):=λx hx=>by
 unfold gE at hx;obtain⟨i,hi⟩:=QJ.mp hx;rw[Oz]at hi;cases e:P[i]? with
 |none=>rw[e]at hi;cases hi
 |some p=>
  rw[e]at hi;cases hi;unfold yQ;split
  ·exact b.getD _
  split
  ·exact b.getD _
  ·omega
theorem qV(P:List Pt):eF P (last P):=by
 unfold last;refine⟨by rw[Nk,N1,Ny],λi p hp _=>?_⟩;have b:B1 (List.replicate P.length 0++[(eT P).getD 0 0]):=(B1.rep _).cat λx hx=>by rw[Nu.mp hx];exact(A2 P).getD 0
 exact b.getD i
theorem wL(P:List Pt)(h out:List Nat):(dC P h out).length=P.length+1:=by unfold dC;rw[Nk,OM,Ny]
theorem yx(b:B1 h)(out:List Nat):eF P (dC P h out):=by
 refine⟨wL P h out,λi p hp hk=>?_⟩;unfold dC;have hi:i<(P.mapIdx (dR h out)).length:=by rw[OM];exact(Nh.mp hp).1
 rw[Nj,NJ hi,Oz,hp];show dR h out i p<=1;unfold dR;rcases hk with q|q
 ·rw[Nz q];exact b.getD _
 ·rw[Nt (by omega),Nz q];exact b.getD _
theorem yR(P:List Pt)(h:List Nat):(gE P h).length=P.length:=by unfold gE;rw[OM]
theorem vF(t:Nat)(bm:B1 mem):B1 (bB P t mem):=AO (kK t bm (qV P))
theorem sZ(P:List Pt)(t:Nat)(mem:List Nat):(bB P t mem).length=P.length:=yR _ _
theorem mi(t:Nat)(bm:B1 mem)(ob:eF P out):eF P (aZ P t mem out):=yx (kK t bm ob) out
end Mir
namespace Sc
open PySem PySem.Spec PyProof.Rows L2 NK
open Mir (Pt)
abbrev nvs(l:List Nat):List V:=l.map nv
def ptF(p:Pt):List (Str×V):=[("kind",nv p.kind),("number",nv p.number),("first",nv p.first),("second",nv p.second)]
def cX(D:Ad)(H:Hp)(a:Addr)(p:Pt):Prop:=∃dx,H a=some (.ins D.part dx (ptF p))
def bF(K:Rt)(D:Ad)(H:Hp)(l:Addr)(ps:List Pt):Prop:=∃as:List Addr,SqL K H l (as.map V.ref)/\Paired (λp a=>cX D H a p) ps as
variable{H:Hp}{ps:List Pt}
theorem bF.same{K:Rt}{D:Ad}{H':Hp}{l:Addr}(e:aw H H')(h:bF K D H l ps):bF K D H' l ps:=by
 obtain⟨as,h1,h2⟩:=h;exact⟨as,e.seq h1,Paired.qS h2 λp a ⟨dx,q⟩=>⟨dx,e _ _ q⟩⟩
theorem bF.at{K:Rt}{D:Ad}{l:Addr}(h:bF K D H l ps):∃xs:List V,SqL K H l xs/\xs.length=ps.length/\∀(i:Nat)(p:Pt),ps[i]?=some p->∃a,xs[i]?=some (.ref a)/\cX D H a p:=by
 obtain⟨as,h1,h2⟩:=h;refine⟨_,h1,by rw[Nf,Oa h2],λi p e=>?_⟩;obtain⟨a,e1,e2⟩:=dv h2 e;exact⟨a,by rw[NC,e1];rfl,e2⟩
theorem eqI{a b:Int}:decide (V.int a=V.int b)=true↔a=b:=⟨λh=>by have:=NG h;injection this,λh=>by rw[h];exact NA rfl⟩
variable{h:List Nat}
theorem bT{i:Nat}(hi:i<h.length):atI (nvs h) ((i:Nat):Int)=some (nv (h.getD i 0)):=by
 refine bg ?_;rw[NC,Ng hi,Nj,Ng hi];rfl
theorem fc(a b:Nat):Builtin.bitAnd (a:Int) (b:Int)=((a&&&b:Nat):Int):=by rw[bitAnd_pp (by omega) (by omega)];rfl
theorem kx(a b:Nat):Builtin.bitOr (a:Int) (b:Int)=((a|||b:Nat):Int):=by rw[Kl.Gy (by omega) (by omega)];rfl
theorem yo(a b:Nat):(a:Int)/2^b=((a >>> b:Nat):Int):=by rw[Oc];simp
section
variable{P:Program}{w:World}{K:Rt}{mg:Ru}{base:Heap}{D:Ad}
inductive pI(D:Ad)(vs:List V)(H:Hp)(Q:VK)(E:XK):Prop
 |mk (p dx:Addr) (k n:Nat):vs=[.ref p,nv k,nv n]->H p=some (.ins D.part dx [])->(∀H':Hp,cX D H' p ⟨k,n,0,0⟩->(∀b o,H b=some o->b≠p->H' b=some o)->Q .non H')->pI D vs H Q E
abbrev xA:Stmt:=inClass (top 14) 0
theorem BU:aF ["self","kind","number"] ["self","kind","number"] (az xA):=⟨rfl,rfl,rfl,by decide +kernel,rfl,by decide +kernel,by decide +kernel⟩
variable{f:Addr}{fd:FuncData}
theorem Aw(F:Fun K "__init__" "Part.__init__" xA f fd)(T:Txt K mg D):bw P w K mg base CX0 1 f fd ["self","kind","number"] (pI D):=by
 refine F.ok BU (λvs H Q E h=>?_) (λcdv A outer s H vs Q E hr h=>?_)
 ·obtain⟨p,dx,k,n,rfl,_⟩:=h;rfl
 obtain⟨p,dx,k,n,rfl,hp,q⟩:=h;refine⟨_,(ae (bb (pv 0) (pv 1) rfl)
   (ae (bb (pv 0) (pv 2) rfl)
   (ae (bb (pv 0) ao rfl)
   (ai (bb (pv 0) ao rfl))))),?_⟩
 refine⟨_,rfl,_,rfl,p,D.part,dx,_,rfl,hp,T.aN,T.bq,(by show 0<1000;decide),?_⟩;refine⟨_,rfl,_,rfl,p,D.part,dx,_,rfl,af,T.aN,T.ur,(by show 1<1000;decide),?_⟩;refine⟨_,rfl,p,D.part,dx,_,rfl,af,T.aN,T.fh,(by show 2<1000;decide),?_⟩;refine⟨_,rfl,p,D.part,dx,_,rfl,af,T.aN,T.gu,(by show 3<1000;decide),?_⟩;refine q _ ⟨dx,?_⟩ λb o e hb=>by rw[aB hb,aB hb,aB hb,aB hb];exact e
 rw[af];rfl
abbrev vc:Stmt:=top 16
theorem zZ:aF ["kind"] ["kind"] (az vc):=⟨rfl,rfl,rfl,by decide +kernel,rfl,by decide +kernel,by decide +kernel⟩
theorem wQ(F:Fun K "looks_back" "looks_back" vc f fd)(T:Txt K mg D):bw P w K mg base CX0 1 f fd ["kind"] (rN [5,6]):=by
 refine F.ok zZ (λvs H Q E h=>?_) (λcdv A outer s H vs Q E hr h=>?_)
 ·obtain⟨k,rfl,_⟩:=h;rfl
 obtain⟨k,rfl,q⟩:=h;refine⟨_,(ai (aA (uq n9 (pv 0) (kq (aa (a9 T.uB) (aa (a9 T.Cw) ag))) (by with_unfolding_all rfl)))),?_⟩;refine⟨_,rfl,(by show 2<=sizeLine;decide),λp hp=>⟨p,_,rfl,.inr (SqT.of af),rfl,rfl,?_⟩⟩;exact q _ (ak hp _)
abbrev oV:Stmt:=top 17
theorem uZ:aF ["kind"] ["kind"] (az oV):=⟨rfl,rfl,rfl,by decide +kernel,rfl,by decide +kernel,by decide +kernel⟩
theorem rZ(F:Fun K "looks_forward" "looks_forward" oV f fd)(T:Txt K mg D):bw P w K mg base CX0 1 f fd ["kind"] (rN [7,8,9]):=by
 refine F.ok uZ (λvs H Q E h=>?_) (λcdv A outer s H vs Q E hr h=>?_)
 ·obtain⟨k,rfl,_⟩:=h;rfl
 obtain⟨k,rfl,q⟩:=h;refine⟨_,(ai (aA (uq n9 (pv 0) (kq (aa (a9 T.Gg) (aa (a9 T.Cv) (aa (a9 T.uA) ag)))) (by with_unfolding_all rfl)))),?_⟩;refine⟨_,rfl,(by show 3<=sizeLine;decide),λp hp=>⟨p,_,rfl,.inr (SqT.of af),rfl,rfl,?_⟩⟩;exact q _ (ak hp _)
end
theorem qv{Q:VK}{v v':V}(q:Q v H)(e:v'=v):Q v' H:=e▸q
theorem cY{a:Nat}{b:Nat}:decide (V.int (a:Int)=V.int (b:Int))=true↔a=b:=by rw[eqI];omega
section
variable{P:Program}{w:World}{K:Rt}{mg:Ru}{base:Heap}{D:Ad}
abbrev oU:Stmt:=top 25
theorem uY:aF ["kind"] ["kind"] (az oU):=⟨rfl,rfl,rfl,by decide +kernel,rfl,by decide +kernel,by decide +kernel⟩
variable{f:Addr}{fd:FuncData}
theorem pV(F:Fun K "may_hold_at_end" "may_hold_at_end" oU f fd)(T:Txt K mg D):bw P w K mg base CX0 1 f fd ["kind"] (rN [0,2,3,4]):=by
 refine F.ok uY (λvs H Q E h=>?_) (λcdv A outer s H vs Q E hr h=>?_)
 ·obtain⟨k,rfl,_⟩:=h;rfl
 obtain⟨k,rfl,q⟩:=h;refine⟨_,(ai (aA (uq n9 (pv 0) (kq (aa (a9 T.HR) (aa (a9 T.JV) (aa (a9 T.Gh) (aa (a9 T.DD) ag))))) (by with_unfolding_all rfl)))),?_⟩;refine⟨_,rfl,(by show 4<=sizeLine;decide),λp hp=>⟨p,_,rfl,.inr (SqT.of af),rfl,rfl,?_⟩⟩;exact q _ (ak hp _)
theorem vH(k:Nat):([0,2,3,4]:List Int).any (λy=>y==(k:Int))=Mir.p4 k:=by
 unfold Mir.p4;simp only[OB,Rr,QU];have e:∀c:Nat,((c:Int)==(k:Int))=(k==c):=λc=>by
  by_cases q:k=c
  ·subst q;simp
  ·rw[N'.mpr (λz=>q (by omega)),N'.mpr q]
 rw[show(0:Int)=((0:Nat):Int)from rfl,show(2:Int)=((2:Nat):Int)from rfl,show(3:Int)=((3:Nat):Int)from rfl,show(4:Int)=((4:Nat):Int)from rfl,e,e,e,e];cases(k==0)<;>cases(k==2)<;>cases(k==3)<;>cases(k==4)<;>rfl
structure rE(K:Rt)(D:Ad)(H:Hp)(a hl:Addr)(p:Pt)(h:List Nat):Prop where
 pt:cX D H a p
 ls:SqL K H hl (nvs h)
 fi:p.first<h.length
 se:p.second<h.length
 le:∀x∈h,x<=1
theorem HQ(le:∀x∈h,x<=1)(i:Nat):h.getD i 0<=1:=by
 rw[Nj];cases e:h[i]? with
 |none=>exact NT _
 |some x=>exact le x (Nr e)
inductive C5(K:Rt)(D:Ad)(vs:List V)(H:Hp)(Q:VK)(E:XK):Prop
 |mk (a hl p h:_):vs=[.ref a,.ref hl]->rE K D H a hl p h->Q (nv (Mir.atAny p h)) H->C5 K D vs H Q E
abbrev iq:Stmt:=top 30
theorem oA:aF ["part","holds"] ["part","holds"] (az iq):=⟨rfl,rfl,rfl,by decide +kernel,rfl,by decide +kernel,by decide +kernel⟩
theorem kC(F:Fun K "part_holds_anywhere" "part_holds_anywhere" iq f fd)(T:Txt K mg D):bw P w K mg base CX0 1 f fd ["part","holds"] (C5 K D):=by
 refine F.ok oA (λvs H Q E h=>?_) (λcdv A outer s H vs Q E hr h=>?_)
 ·obtain⟨a,hl,p,h,rfl,_⟩:=h;rfl
 obtain⟨a,hl,p,h,rfl,⟨⟨dx,hp⟩,ls,fi,se,le⟩,q⟩:=h;refine⟨_,(ae (aW (aH bH (au (pv 0) rfl) (a9 T.HR) (aU _)) (ai (aA ao)) aD)
   (ae (aW (aH bH (au (pv 0) rfl) (a9 T.JV) (aU _)) (ai (aA (aI dh ao (aS aE (pv 1) (au (pv 0) rfl) (λ_ _=>rfl))))) aD)
   (ae (aW (aH bH (au (pv 0) rfl) (a9 T.Gh) (aU _)) (ai (aA (aI fg (aS aE (pv 1) (au (pv 0) rfl) (λ_ _=>rfl)) (aS aE (pv 1) (au (pv 0) rfl) (λ_ _=>rfl))))) aD)
   (ai (aA (aI xF (aS aE (pv 1) (au (pv 0) rfl) (λ_ _=>rfl)) (aS aE (pv 1) (au (pv 0) rfl) (λ_ _=>rfl)))))))),?_⟩
 refine⟨_,rfl,a,D.part,dx,_,_,rfl,hp,T.aN,T.bq,rfl,rfl,_,rfl,?_⟩;refine bD (λc=>?_) (λc=>?_)
 ·have c:=cY (b:=0) |>.mp c
  have e:Mir.atAny p h=1:=by unfold Mir.atAny;rw[Nz c]
  rw[e]at q;exact q
 have c0:p.kind≠0:=λz=>c (cY (b:=0) |>.mpr z);refine⟨_,rfl,a,D.part,dx,_,_,rfl,hp,T.aN,T.bq,rfl,rfl,_,rfl,?_⟩;refine bD (λc=>?_) (λc=>?_)
 ·have c:=cY (b:=2) |>.mp c
  refine⟨_,rfl,_,rfl,a,D.part,dx,_,_,rfl,hp,T.aN,T.fh,rfl,hl,_,_,_,rfl,rfl,ls,bT fi,_,_,rfl,rfl,?_⟩;have e:Mir.atAny p h=1-h.getD p.first 0:=by unfold Mir.atAny;rw[Nt c0,Nz c]
  have l:=HQ le p.first
  have e2:(1:Int)-((h.getD p.first 0:Nat):Int)=((1-h.getD p.first 0:Nat):Int):=by omega
  rw[e]at q;show Q (.int ((1:Int)-((h.getD p.first 0:Nat):Int))) H;rw[e2];exact q
 have c2:p.kind≠2:=λz=>c (cY (b:=2) |>.mpr z);refine⟨_,rfl,a,D.part,dx,_,_,rfl,hp,T.aN,T.bq,rfl,rfl,_,rfl,?_⟩;refine bD (λc=>?_) (λc=>?_)
 ·have c:=cY (b:=3) |>.mp c
  refine⟨_,rfl,_,rfl,a,D.part,dx,_,_,rfl,hp,T.aN,T.fh,rfl,hl,_,_,_,rfl,rfl,ls,bT fi,_,rfl,_,rfl,a,D.part,dx,_,_,rfl,hp,T.aN,T.gu,rfl,hl,_,_,_,rfl,rfl,ls,bT se,_,_,rfl,rfl,?_⟩;have e:Mir.atAny p h=h.getD p.first 0&&&h.getD p.second 0:=by unfold Mir.atAny;rw[Nt c0,Nt c2,Nz c]
  exact qv q (by rw[e];exact congrArg V.int (fc _ _))
 have c3:p.kind≠3:=λz=>c (cY (b:=3) |>.mpr z);refine⟨_,rfl,_,rfl,a,D.part,dx,_,_,rfl,hp,T.aN,T.fh,rfl,hl,_,_,_,rfl,rfl,ls,bT fi,_,rfl,_,rfl,a,D.part,dx,_,_,rfl,hp,T.aN,T.gu,rfl,hl,_,_,_,rfl,rfl,ls,bT se,_,_,rfl,rfl,?_⟩;have e:Mir.atAny p h=h.getD p.first 0|||h.getD p.second 0:=by unfold Mir.atAny;rw[Nt c0,Nt c2,Nt c3]
 exact qv q (by rw[e];exact congrArg V.int (kx _ _))
inductive uh(K:Rt)(D:Ad)(vs:List V)(H:Hp)(Q:VK)(E:XK):Prop
 |mk (a hl p h o:_):vs=[.ref a,.ref hl,nv o]->rE K D H a hl p h->Q (nv (Mir.reach p h o)) H->uh K D vs H Q E
abbrev mL:Stmt:=top 32
theorem tN:aF ["part","holds","awaited"] ["part","holds","awaited"] (az mL):=⟨rfl,rfl,rfl,by decide +kernel,rfl,by decide +kernel,by decide +kernel⟩
theorem pU(F:Fun K "reach_of_within" "reach_of_within" mL f fd)(T:Txt K mg D):bw P w K mg base CX0 1 f fd ["part","holds","awaited"] (uh K D):=by
 refine F.ok tN (λvs H Q E h=>?_) (λcdv A outer s H vs Q E hr h=>?_)
 ·obtain⟨a,hl,p,h,o,rfl,_⟩:=h;rfl
 obtain⟨a,hl,p,h,o,rfl,⟨⟨dx,hp⟩,ls,fi,se,le⟩,q⟩:=h;refine⟨_,(ae (aW (aH bH (aS aE (pv 1) (au (pv 0) rfl) (λ_ _=>rfl)) ao (aU _)) (ai (aA (aI fJ (au (pv 0) rfl) ao))) aD)
   (ai (aA (aP (ET rfl) rfl T.max J6 (aa ao (aa (aI dh (pv 2) ao) ag)))))),?_⟩
 refine⟨_,rfl,_,rfl,a,D.part,dx,_,_,rfl,hp,T.aN,T.fh,rfl,hl,_,_,_,rfl,rfl,ls,bT fi,rfl,_,rfl,?_⟩;refine bD (λc=>?_) (λc=>?_)
 ·have c:=cY (b:=1) |>.mp c
  refine⟨_,rfl,a,D.part,dx,_,_,rfl,hp,T.aN,T.ur,rfl,_,_,rfl,rfl,?_⟩;have e:Mir.reach p h o=p.number+1:=by unfold Mir.reach;rw[Nz c]
  rw[e]at q;exact q
 ·have c:h.getD p.first 0≠1:=λz=>c (cY (b:=1) |>.mpr z)
  refine⟨_,rfl,_,_,rfl,rfl,_,_,rfl,?_⟩;have e:Mir.reach p h o=o-1:=by unfold Mir.reach;rw[Nt c]
  rw[e]at q;have e2:(if((o:Int)-1)>0 then((o:Int)-1)else 0)=((o-1:Nat):Int):=by split<;>omega
  show Q (.int (if((o:Int)-1)>0 then((o:Int)-1)else 0)) H;rw[e2];exact q
end
open Mir (Pt B1 dz eF)
section
variable{P:Program}{w:World}{K:Rt}{mg:Ru}{base:Heap}{D:Ad}
inductive BN(K:Rt)(D:Ad)(vs:List V)(H:Hp)(Q:VK)(E:XK):Prop
 |mk (a hl p h t m o:_):vs=[.ref a,.ref hl,nv t,nv m,nv o]->rE K D H a hl p h->Q (nv (Mir.ed p h t m o)) H->BN K D vs H Q E
abbrev jF:Stmt:=top 31
theorem qu:aF ["part","holds","turn","remembered","awaited"] ["part","holds","turn","remembered","awaited"] (az jF):=⟨rfl,rfl,rfl,by decide +kernel,rfl,by decide +kernel,by decide +kernel⟩
variable{fd:FuncData}
theorem lX{f:Addr}(F:Fun K "part_holds_at_turn" "part_holds_at_turn" jF f fd)(T:Txt K mg D)(fN:Fn P w K mg base "reach_of_within" 1 ["part","holds","awaited"] (uh K D)):
  bw P w K mg base CX0 2 f fd ["part","holds","turn","remembered","awaited"] (BN K D):=by
 refine F.ok qu (λvs H Q E h=>?_) (λcdv A outer s H vs Q E hr h=>?_)
 ·obtain⟨a,hl,p,h,t,m,o,rfl,_⟩:=h;rfl
 obtain⟨a,hl,p,h,t,m,o,rfl,hk,q⟩:=h;have hk2:=hk;obtain⟨⟨dx,hp⟩,ls,fi,se,le⟩:=hk;refine⟨_,(ae (aW (aH bH (au (pv 0) rfl) (a9 T.DC) (aU _)) (ai (aA (aI fg (aI mP (pv 2) (au (pv 0) rfl)) ao))) aD)
   (ae (aW (aH bH (au (pv 0) rfl) (a9 T.uB) (aU _)) (ai (aA (pv 3))) aD)
   (ae (aW (aH bH (au (pv 0) rfl) (a9 T.Cw) (aU _)) (ai (aA (aI xF (aS aE (pv 1) (au (pv 0) rfl) (λ_ _=>rfl)) (aI fg (aS aE (pv 1) (au (pv 0) rfl) (λ_ _=>rfl)) (pv 3))))) aD)
   (ae (aW (aH bH (au (pv 0) rfl) (a9 T.Gg) (aU _)) (ai (aA (pv 4))) aD)
   (ae (aW (aH bH (au (pv 0) rfl) (a9 T.Cv) (aU _)) (ai (aA (aI xF (aS aE (pv 1) (au (pv 0) rfl) (λ_ _=>rfl)) (aI fg (aS aE (pv 1) (au (pv 0) rfl) (λ_ _=>rfl)) (pv 4))))) aD)
   (ai (aA (eP (aH oY (bQ fN hr (aa (pv 0) (aa (pv 1) (aa (pv 4) ag)))) ao (aU _)) ao ao)))))))),?_⟩
 refine⟨_,rfl,a,D.part,dx,_,_,rfl,hp,T.aN,T.bq,rfl,rfl,_,rfl,?_⟩;refine bD (λc=>?_) (λc=>?_)
 ·have c:=cY (b:=1) |>.mp c
  refine⟨_,rfl,_,rfl,a,D.part,dx,_,_,rfl,hp,T.aN,T.ur,rfl,_,_,rfl,rfl,(by show(0:Int)<=(p.number:Int);omega),_,_,rfl,rfl,?_⟩;refine qv q ?_;have e:Mir.ed p h t m o=(t >>> p.number)&&&1:=by unfold Mir.ed;rw[Nz c]
  rw[e];show V.int (Builtin.bitAnd ((t:Int)/2^((p.number:Int)).toNat) 1)=_;rw[Nw,yo];exact congrArg V.int (fc _ 1)
 have c1:p.kind≠1:=λz=>c (cY (b:=1) |>.mpr z);refine⟨_,rfl,a,D.part,dx,_,_,rfl,hp,T.aN,T.bq,rfl,rfl,_,rfl,?_⟩;refine bD (λc=>?_) (λc=>?_)
 ·have c:=cY (b:=5) |>.mp c
  refine⟨_,rfl,?_⟩;have e:Mir.ed p h t m o=m:=by unfold Mir.ed;rw[Nt c1,Nz c]
  rw[e]at q;exact q
 have c5:p.kind≠5:=λz=>c (cY (b:=5) |>.mpr z);refine⟨_,rfl,a,D.part,dx,_,_,rfl,hp,T.aN,T.bq,rfl,rfl,_,rfl,?_⟩;refine bD (λc=>?_) (λc=>?_)
 ·have c:=cY (b:=6) |>.mp c
  refine⟨_,rfl,_,rfl,a,D.part,dx,_,_,rfl,hp,T.aN,T.gu,rfl,hl,_,_,_,rfl,rfl,ls,bT se,_,rfl,_,rfl,a,D.part,dx,_,_,rfl,hp,T.aN,T.fh,rfl,hl,_,_,_,rfl,rfl,ls,bT fi,_,rfl,_,_,rfl,rfl,_,_,rfl,rfl,?_⟩;refine qv q ?_;have e:Mir.ed p h t m o=h.getD p.second 0|||(h.getD p.first 0&&&m):=by unfold Mir.ed;rw[Nt c1,Nt c5,Nz c]
  rw[e];show V.int (Builtin.bitOr ((h.getD p.second 0:Nat):Int) (Builtin.bitAnd ((h.getD p.first 0:Nat):Int) (m:Int)))=_;rw[fc];exact congrArg V.int (kx _ _)
 have c6:p.kind≠6:=λz=>c (cY (b:=6) |>.mpr z);refine⟨_,rfl,a,D.part,dx,_,_,rfl,hp,T.aN,T.bq,rfl,rfl,_,rfl,?_⟩;refine bD (λc=>?_) (λc=>?_)
 ·have c:=cY (b:=7) |>.mp c
  refine⟨_,rfl,?_⟩;have e:Mir.ed p h t m o=o:=by unfold Mir.ed;rw[Nt c1,Nt c5,Nt c6,Nz c]
  rw[e]at q;exact q
 have c7:p.kind≠7:=λz=>c (cY (b:=7) |>.mpr z);refine⟨_,rfl,a,D.part,dx,_,_,rfl,hp,T.aN,T.bq,rfl,rfl,_,rfl,?_⟩;refine bD (λc=>?_) (λc=>?_)
 ·have c:=cY (b:=8) |>.mp c
  refine⟨_,rfl,_,rfl,a,D.part,dx,_,_,rfl,hp,T.aN,T.gu,rfl,hl,_,_,_,rfl,rfl,ls,bT se,_,rfl,_,rfl,a,D.part,dx,_,_,rfl,hp,T.aN,T.fh,rfl,hl,_,_,_,rfl,rfl,ls,bT fi,_,rfl,_,_,rfl,rfl,_,_,rfl,rfl,?_⟩;refine qv q ?_;have e:Mir.ed p h t m o=h.getD p.second 0|||(h.getD p.first 0&&&o):=by unfold Mir.ed;rw[Nt c1,Nt c5,Nt c6,Nt c7,Nz c]
  rw[e];show V.int (Builtin.bitOr ((h.getD p.second 0:Nat):Int) (Builtin.bitAnd ((h.getD p.first 0:Nat):Int) (o:Int)))=_;rw[fc];exact congrArg V.int (kx _ _)
 have c8:p.kind≠8:=λz=>c (cY (b:=8) |>.mpr z);refine⟨_,rfl,_,rfl,_,rfl,a,hl,p,h,o,rfl,hk2,_,_,rfl,rfl,_,rfl,?_⟩;have e:Mir.ed p h t m o=if 0<Mir.reach p h o then 1 else 0:=by unfold Mir.ed;rw[Nt c1,Nt c5,Nt c6,Nt c7,Nt c8]
 rw[e]at q;refine bD (λc=>?_) (λc=>?_)
 ·have c:(0:Int)<(Mir.reach p h o:Int):=NG c;rw[Nz (by omega)]at q;exact q
 ·have c:¬(0:Int)<(Mir.reach p h o:Int):=λz=>c (NA z);rw[Nt (by omega)]at q;exact q
theorem uk(n:Nat):(List.replicate n [V.int 0]).flatten=nvs (List.replicate n 0):=by
 induction n with
 |zero=>rfl
 |succ n ih=>rw[N3,Pf,ih,N3];rfl
theorem dZ{n:Nat}(h:n<=1000):n<=sizeLine:=OI (bx h)
theorem yq(h:List Nat)(i v:Nat):(nvs h).set i (nv v)=nvs (h.set i v):=(List.map_set ..).symm
inductive pJ(K:Rt)(D:Ad)(vs:List V)(H:Hp)(Q:VK)(E:XK):Prop
 |mk (l ps:_):vs=[.ref l]->bF K D H l ps->dz ps->(∀r H',aw H H'->H r=none->H' r=some (.lst (nvs (Mir.eT ps)))->Q (.ref r) H')->pJ K D vs H Q E
abbrev sU:Stmt:=top 28
theorem kj:aF ["parts","holds","i"] ["parts"] (az sU):=⟨rfl,rfl,rfl,by decide +kernel,rfl,by decide +kernel,by decide +kernel⟩
theorem tQ{f:Addr}(F:Fun K "holds_at_end" "holds_at_end" sU f fd)(T:Txt K mg D)(fO:Fn P w K mg base "may_hold_at_end" 1 ["kind"] (rN [0,2,3,4]))
  (dG:Fn P w K mg base "part_holds_anywhere" 1 ["part","holds"] (C5 K D)):bw P w K mg base CX0 2 f fd ["parts"] (pJ K D):=by
 refine F.ok kj (λvs H Q E h=>?_) (λcdv A outer s H vs Q E hr h=>?_)
 ·obtain⟨l,ps,rfl,_⟩:=h;rfl
 obtain⟨l,ps,rfl,hl,ok,q⟩:=h;refine⟨_,(ae (aG (i:=1) kj.nd rfl (Or.inl rfl) (aI kz (aV (aa ao ag)) (aP aC rfl T.len NO (aa (pv 0) ag))))
   (ae (cu NU rfl (fW rfl T.range (aa (aI dh (aP aC rfl T.len NO (aa (pv 0) ag)) ao) (aa (gS eG ao) (aa (gS eG ao) ag)))) (aL (i:=2) kj.nd rfl (Or.inl rfl)) (ai (aW (ju (bQ fO hr (aa (au (aS aE (pv 0) (pv 2) (λ_ _=>rfl)) rfl) ag))) (ai (iz (bQ dG hr (aa (aS aE (pv 0) (pv 2) (λ_ _=>rfl)) (aa (pv 1) ag))) (iA (pv 1) (pv 2) set_list))) aD)))
   (ai (aA (pv 1))))),?_⟩
 obtain⟨xs,sq,xl,xat⟩:=hl.at;refine⟨(by show 1<=sizeLine;decide),λz hz=>⟨_,rfl,l,_,rfl,.inl ((ak hz _).seq sq),z,_,_,rfl,rfl,af,(by show(-(2^63):Int)<=(xs.length:Int);omega),(by show(xs.length:Int)<2^63;have:=ok.few;omega),(by rw[Nw,xl];have:=ok.few;exact dZ (by rw[Ny];omega)),λr hr0=>?_⟩⟩;have sz:aw H (upd H z (.lst [.int 0])):=ak hz _;have hrH:H r=none:=sz.free hr0;have s1:aw H (upd (upd H z (.lst [.int 0])) r (.lst (List.replicate ((xs.length:Int)).toNat [V.int 0]).flatten)):=sz.trans (ak hr0 _);refine⟨_,rfl,l,_,rfl,.inl (s1.seq sq),_,_,rfl,rfl,_,rfl,_,rfl,_,_,_,_,rfl,RgC.neg (by omega) (by have:=ok.few;omega) (by decide) (by decide),?_⟩;have en:((xs.length:Int)-1-(-1)).toNat=ps.length:=by omega
 rw[show((xs.length:Int)-1 - -1).toNat=ps.length from en];refine fY (n:=ps.length) (λm σ H'=>(∃v:Option V,σ=[some (.ref l),some (.ref r),v])/\aw H H'/\H' r=some (.lst (nvs (Mir.down ps.length (Mir.sD ps) (List.replicate ps.length 0) m))))
  ⟨⟨none,rfl⟩,s1,?_⟩ ?_ ?_
 ·rw[af,Nw,xl,uk];rfl
 ·rintro m σ H' hm ⟨⟨v,rfl⟩,s2,e2⟩;have hi:ps.length-1-m<ps.length:=by omega
  obtain⟨p,hp⟩:∃p,ps[ps.length-1-m]?=some p:=⟨_,Ng hi⟩;obtain⟨a,ha,⟨dx,hpa⟩⟩:=xat _ p hp;have F9:=s2 _ _ hpa;have kL:p∈ps:=Nr hp;have ei:(xs.length:Int)-1+(m:Int)*(-1)=((ps.length-1-m:Nat):Int):=by omega
  have dl:(Mir.down ps.length (Mir.sD ps) (List.replicate ps.length 0) m).length=ps.length:=by rw[Mir.cR,N1]
  have db:B1 (Mir.down ps.length (Mir.sD ps) (List.replicate ps.length 0) m):=Mir.rq Mir.DI m;have at_:atI xs ((xs.length:Int)-1+(m:Int)*(-1))=some (.ref a):=at_of ei ha;have st:Mir.down ps.length (Mir.sD ps) (List.replicate ps.length 0) (m+1)=if Mir.p4 p.kind=true then(Mir.down ps.length (Mir.sD ps) (List.replicate ps.length 0) m).set (ps.length-1-m) (Mir.atAny p (Mir.down ps.length (Mir.sD ps) (List.replicate ps.length 0) m))else Mir.down ps.length (Mir.sD ps) (List.replicate ps.length 0) m:=by
   conv=>lhs;unfold Mir.down
   unfold Mir.sD;rw[hp];by_cases c:Mir.p4 p.kind=true
   ·simp only[c,Qj]
   ·simp only[c,Qa,OK]
  generalize Mir.down ps.length (Mir.sD ps) (List.replicate ps.length 0) m=h at e2 dl db st;refine⟨_,rfl,_,rfl,l,_,_,_,rfl,rfl,s2.seq sq,at_,a,D.part,dx,_,_,rfl,F9,T.aN,T.bq,rfl,_,rfl,λH3 s3=>⟨_,rfl,?_⟩⟩;rw[vH];refine bD (λc=>?_) (λc=>?_)
  ·refine⟨_,rfl,_,rfl,l,_,_,_,rfl,rfl,s3.seq (s2.seq sq),at_,_,rfl,a,r,p,h,rfl,⟨⟨dx,s3 _ _ F9⟩,SqL.of (s3 _ _ e2),by rw[dl];exact ok.fi p kL,by rw[dl];exact ok.se p kL,db⟩,_,rfl,_,rfl,r,_,_,ps.length-1-m,rfl,rfl,s3 _ _ e2,?_,⟨_,rfl⟩,?_,?_⟩
   ·rw[Nf,dl,ei];unfold ixN;rw[Nz (by omega),Nz (by omega),Nw]
   ·exact λb o e=>by rw[aB (ax e hrH)];exact s3 _ _ (s2 _ _ e)
   ·rw[af,st,Nz c,yq]
  ·refine⟨⟨_,rfl⟩,s2.trans s3,?_⟩;rw[st,Nt c];exact s3 _ _ e2
 ·rintro σ H' ⟨⟨v,rfl⟩,s2,e2⟩;exact⟨_,rfl,q r H' s2 hrH e2⟩
end
section
variable{P:Program}{w:World}{K:Rt}{mg:Ru}{base:Heap}{D:Ad}
theorem kD(a b:List Nat):nvs (a++b)=nvs a++nvs b:=NS ..
inductive ft(K:Rt)(D:Ad)(vs:List V)(H:Hp)(Q:VK)(E:XK):Prop
 |mk (l ps t ma mem oa out:_):vs=[.ref l,nv t,.ref ma,.ref oa]->bF K D H l ps->dz ps->SqT K H ma (nvs mem)->SqT K H oa (nvs out)->mem.length=ps.length->B1 mem->eF ps out->(∀r H',aw H H'->H r=none->H' r=some (.lst (nvs (Mir.dM ps t mem out)))->Q (.ref r) H')->ft K D vs H Q E
abbrev qD:Stmt:=top 29
theorem js:aF ["parts","turn","memory","outlook","holds","i"] ["parts","turn","memory","outlook"] (az qD):=⟨rfl,rfl,rfl,by decide +kernel,rfl,by decide +kernel,by decide +kernel⟩
variable{f:Addr}{fd:FuncData}
theorem sf(F:Fun K "holds_at_turn" "holds_at_turn" qD f fd)(T:Txt K mg D)(fO:Fn P w K mg base "may_hold_at_end" 1 ["kind"] (rN [0,2,3,4]))
  (dG:Fn P w K mg base "part_holds_anywhere" 1 ["part","holds"] (C5 K D))(nN:Fn P w K mg base "part_holds_at_turn" 2 ["part","holds","turn","remembered","awaited"] (BN K D)):bw P w K mg base CX0 3 f fd ["parts","turn","memory","outlook"] (ft K D):=by
 refine F.ok js (λvs H Q E h=>?_) (λcdv A outer s H vs Q E hr h=>?_)
 ·obtain⟨l,ps,t,ma,mem,oa,out,rfl,_⟩:=h;rfl
 obtain⟨l,ps,t,ma,mem,oa,out,rfl,hl,ok,hma,hoa,ml,bm,ob,q⟩:=h;refine⟨_,(ae (aG (i:=4) js.nd rfl (Or.inl rfl) (aI kz (aV (aa ao ag)) (aP aC rfl T.len NO (aa (pv 0) ag))))
   (ae (cu NU rfl (fW rfl T.range (aa (aI dh (aP aC rfl T.len NO (aa (pv 0) ag)) ao) (aa (gS eG ao) (aa (gS eG ao) ag)))) (aL (i:=5) js.nd rfl (Or.inl rfl)) (ai (aW (ju (bQ fO hr (aa (au (aS aE (pv 0) (pv 5) (λ_ _=>rfl)) rfl) ag))) (ai (iz (bQ dG hr (aa (aS aE (pv 0) (pv 5) (λ_ _=>rfl)) (aa (pv 4) ag))) (iA (pv 4) (pv 5) set_list))) (ai (iz (bQ nN hr (aa (aS aE (pv 0) (pv 5) (λ_ _=>rfl)) (aa (pv 4) (aa (pv 1) (aa (aS eI (pv 2) (pv 5) (λ_ _=>rfl)) (aa (aS eI (pv 3) (pv 5) (λ_ _=>rfl)) ag)))))) (iA (pv 4) (pv 5) set_list))))))
   (ai (aA (pv 4))))),?_⟩
 obtain⟨xs,sq,xl,xat⟩:=hl.at;refine⟨(by show 1<=sizeLine;decide),λz hz=>⟨_,rfl,l,_,rfl,.inl ((ak hz _).seq sq),z,_,_,rfl,rfl,af,(by show(-(2^63):Int)<=(xs.length:Int);omega),(by show(xs.length:Int)<2^63;have:=ok.few;omega),(by rw[Nw,xl];have:=ok.few;exact dZ (by rw[Ny];omega)),λr hr0=>?_⟩⟩;have sz:aw H (upd H z (.lst [.int 0])):=ak hz _;have hrH:H r=none:=sz.free hr0;have s1:aw H (upd (upd H z (.lst [.int 0])) r (.lst (List.replicate ((xs.length:Int)).toNat [V.int 0]).flatten)):=sz.trans (ak hr0 _);refine⟨_,rfl,l,_,rfl,.inl (s1.seq sq),_,_,rfl,rfl,_,rfl,_,rfl,_,_,_,_,rfl,RgC.neg (by omega) (by have:=ok.few;omega) (by decide) (by decide),?_⟩;have en:((xs.length:Int)-1-(-1)).toNat=ps.length:=by omega
 rw[show((xs.length:Int)-1 - -1).toNat=ps.length from en];refine fY (n:=ps.length) (λm σ H'=>(∃v:Option V,σ=[some (.ref l),some (nv t),some (.ref ma),some (.ref oa),some (.ref r),v])/\aw H H'/\H' r=some (.lst (nvs (Mir.down ps.length (Mir.jB ps t mem out) (List.replicate ps.length 0) m))))
  ⟨⟨none,rfl⟩,s1,?_⟩ ?_ ?_
 ·rw[af,Nw,xl,uk];rfl
 ·rintro m σ H' hm ⟨⟨v,rfl⟩,s2,e2⟩;have hi:ps.length-1-m<ps.length:=by omega
  obtain⟨p,hp⟩:∃p,ps[ps.length-1-m]?=some p:=⟨_,Ng hi⟩;obtain⟨a,ha,⟨dx,hpa⟩⟩:=xat _ p hp;have F9:=s2 _ _ hpa;have kL:p∈ps:=Nr hp;have ei:(xs.length:Int)-1+(m:Int)*(-1)=((ps.length-1-m:Nat):Int):=by omega
  have dl:(Mir.down ps.length (Mir.jB ps t mem out) (List.replicate ps.length 0) m).length=ps.length:=by rw[Mir.cR,N1]
  have db:B1 (Mir.down ps.length (Mir.jB ps t mem out) (List.replicate ps.length 0) m):=Mir.rq (Mir.zH bm ob) m;have at_:atI xs ((xs.length:Int)-1+(m:Int)*(-1))=some (.ref a):=at_of ei ha;have st:Mir.down ps.length (Mir.jB ps t mem out) (List.replicate ps.length 0) (m+1)=(Mir.down ps.length (Mir.jB ps t mem out) (List.replicate ps.length 0) m).set (ps.length-1-m) (if Mir.p4 p.kind=true then Mir.atAny p (Mir.down ps.length (Mir.jB ps t mem out) (List.replicate ps.length 0) m)else Mir.ed p (Mir.down ps.length (Mir.jB ps t mem out) (List.replicate ps.length 0) m) t (mem.getD (ps.length-1-m) 0) (out.getD (ps.length-1-m) 0)):=by
   conv=>lhs;unfold Mir.down
   unfold Mir.jB;rw[hp]
  generalize Mir.down ps.length (Mir.jB ps t mem out) (List.replicate ps.length 0) m=h at e2 dl db st;have ix:∀H5:Hp,ixN (nvs h).length ((xs.length:Int)-1+(m:Int)*(-1))=some (ps.length-1-m):=λ_=>by
   rw[Nf,dl,ei];unfold ixN;rw[Nz (by omega),Nz (by omega),Nw]
  refine⟨_,rfl,_,rfl,l,_,_,_,rfl,rfl,s2.seq sq,at_,a,D.part,dx,_,_,rfl,F9,T.aN,T.bq,rfl,_,rfl,λH3 s3=>⟨_,rfl,?_⟩⟩;have hk:rE K D H3 a r p h:=⟨⟨dx,s3 _ _ F9⟩,SqL.of (s3 _ _ e2),by rw[dl];exact ok.fi p kL,by rw[dl];exact ok.se p kL,db⟩;have kp:∀o,aw H (upd H3 r o):=λo b u e=>by rw[aB (ax e hrH)];exact s3 _ _ (s2 _ _ e)
  rw[vH];refine bD (λc=>?_) (λc=>?_)
  ·refine⟨_,rfl,_,rfl,l,_,_,_,rfl,rfl,s3.seq (s2.seq sq),at_,_,rfl,a,r,p,h,rfl,hk,_,rfl,_,rfl,r,_,_,ps.length-1-m,rfl,rfl,s3 _ _ e2,ix H3,⟨_,rfl⟩,kp _,?_⟩;rw[af,st,Nz c,yq]
  ·have sa:=s2.trans s3;have e3:atI (nvs mem) ((xs.length:Int)-1+(m:Int)*(-1))=some (nv (mem.getD (ps.length-1-m) 0)):=by rw[ei];exact bT (by rw[ml];exact hi)
   have e4:atI (nvs out) ((xs.length:Int)-1+(m:Int)*(-1))=some (nv (out.getD (ps.length-1-m) 0)):=by rw[ei];exact bT (by rw[ob.1];omega)
   refine⟨_,rfl,_,rfl,l,_,_,_,rfl,rfl,s3.seq (s2.seq sq),at_,_,rfl,_,rfl,_,rfl,_,rfl,ma,_,_,_,rfl,rfl,sa.Jg hma,e3,_,rfl,_,rfl,oa,_,_,_,rfl,rfl,sa.Jg hoa,e4,a,r,p,h,t,_,_,rfl,hk,_,rfl,_,rfl,r,_,_,ps.length-1-m,rfl,rfl,s3 _ _ e2,ix H3,⟨_,rfl⟩,kp _,?_⟩;rw[af,st,Nt c,yq]
 ·rintro σ H' ⟨⟨v,rfl⟩,s2,e2⟩;exact⟨_,rfl,q r H' s2 hrH e2⟩
inductive uO(K:Rt)(D:Ad)(g:List Pt->List Nat)(vs:List V)(H:Hp)(Q:VK)(E:XK):Prop
 |mk (l ps:_):vs=[.ref l]->bF K D H l ps->dz ps->(∀r H',aw H H'->H' r=some (.tup (nvs (g ps)))->Q (.ref r) H')->uO K D g vs H Q E
abbrev iw:Stmt:=top 26
theorem oC:aF ["parts"] ["parts"] (az iw):=⟨rfl,rfl,rfl,by decide +kernel,rfl,by decide +kernel,by decide +kernel⟩
theorem jI(F:Fun K "memory_at_first_turn" "memory_at_first_turn" iw f fd)(T:Txt K mg D):bw P w K mg base CX0 1 f fd ["parts"] (uO K D Mir.yS):=by
 refine F.ok oC (λvs H Q E h=>?_) (λcdv A outer s H vs Q E hr h=>?_)
 ·obtain⟨l,ps,rfl,_⟩:=h;rfl
 obtain⟨l,ps,rfl,hl,ok,q⟩:=h;refine⟨_,(ai (aA (ia eX rfl T.tuple nJ (aa (aI kz (aV (aa ao ag)) (aP aC rfl T.len NO (aa (pv 0) ag))) ag)))),?_⟩;obtain⟨xs,sq,xl,xat⟩:=hl.at;refine⟨(by show 1<=sizeLine;decide),λz hz=>⟨_,rfl,l,_,rfl,.inl ((ak hz _).seq sq),z,_,_,rfl,rfl,af,(by show(-(2^63):Int)<=(xs.length:Int);omega),(by show(xs.length:Int)<2^63;have:=ok.few;omega),(by rw[Nw,xl];have:=ok.few;exact dZ (by rw[Ny];omega)),λr hr0=>?_⟩⟩;refine⟨r,_,rfl,.inl ⟨SqL.of af,λy hy=>?_⟩⟩;refine q y _ (((ak hz _).trans (ak hr0 _)).trans (ak hy _)) ?_;rw[af,Nw,xl,uk];rfl
abbrev iu:Stmt:=top 27
theorem oB:aF ["parts"] ["parts"] (az iu):=⟨rfl,rfl,rfl,by decide +kernel,rfl,by decide +kernel,by decide +kernel⟩
theorem jH(F:Fun K "outlook_at_last_turn" "outlook_at_last_turn" iu f fd)(T:Txt K mg D)(wB:Fn P w K mg base "holds_at_end" 2 ["parts"] (pJ K D)):bw P w K mg base CX0 3 f fd ["parts"] (uO K D Mir.last):=by
 refine F.ok oB (λvs H Q E h=>?_) (λcdv A outer s H vs Q E hr h=>?_)
 ·obtain⟨l,ps,rfl,_⟩:=h;rfl
 obtain⟨l,ps,rfl,hl,ok,q⟩:=h;refine⟨_,(ai (aA (ia eX rfl T.tuple nJ (aa (aI pS (aI kz (aV (aa ao ag)) (aP aC rfl T.len NO (aa (pv 0) ag))) (aV (aa (aS aE (bQ wB hr (aa (pv 0) ag)) ao (λ_ _=>rfl)) ag))) ag)))),?_⟩;obtain⟨xs,sq,xl,xat⟩:=hl.at;refine⟨(by show 1<=sizeLine;decide),λz hz=>⟨_,rfl,l,_,rfl,.inl ((ak hz _).seq sq),z,_,_,rfl,rfl,af,(by show(-(2^63):Int)<=(xs.length:Int);omega),(by show(xs.length:Int)<2^63;have:=ok.few;omega),(by rw[Nw,xl];have:=ok.few;exact dZ (by rw[Ny];omega)),λr hr0=>?_⟩⟩;have s1:=(ak hz (.lst [.int 0])).trans (ak hr0 (.lst (List.replicate ((xs.length:Int)).toNat [V.int 0]).flatten));refine⟨_,rfl,l,ps,rfl,hl.same s1,ok,λr2 H2 s2 hr2 e2=>⟨r2,_,0,nv ((Mir.eT ps).getD 0 0),rfl,rfl,SqL.of e2,bT (i:=0) (by rw[Mir.yX];exact ok.pos),(by show 1<=sizeLine;decide),λy hy=>?_⟩⟩;have er:H2 r=some (.lst (nvs (List.replicate ps.length 0))):=by rw[<-uk,<-xl];exact s2 _ _ (by rw[af,Nw])
 refine⟨r,y,_,_,rfl,rfl,(ak hy _) _ _ er,af,?_,λc hc=>⟨c,_,rfl,.inl ⟨SqL.of af,λd hd=>?_⟩⟩⟩
 ·have:=ok.few;exact dZ (by rw[Nf,N1,Ny];omega)
 ·refine q d _ ((((s1.trans s2).trans (ak hy _)).trans (ak hc _)).trans (ak hd _)) ?_;rw[af];unfold Mir.last;exact congrArg (λz=>some (HO.tup z)) (kD (List.replicate ps.length 0) [(Mir.eT ps).getD 0 0]).symm
end
end Sc
namespace L2
open PySem PySem.Spec PyProof.Rows
theorem vY{K:Rt}{a:Addr}{xs:List V}{g:TG}{tb:TS}{D:Ends}{σ:St}{H:Hp}(Pv:Nat->St->Hp->Prop)(h0:Pv 0 σ H)(hl:∀i σ H,i<=xs.length->Pv i σ H->SqL K H a xs)
  (hs:∀i x T σ H,xs[i]?=some x->Pv i σ H->H T=none->g (.ref T) σ (upd H T (.tup [.int (i:Nat),x])) λσ2 H2=>tb {D with nx:=Pv (i+1),ct:=Pv (i+1),bk:=D.nx} σ2 H2)(hd:∀σ H,Pv xs.length σ H->D.nx σ H):
  ∃W:Nat->Nat->St->Hp->Prop,(∃m,W 0 m σ H)/\∀i m σ H,W i m σ H->((Ite K a).stop i H/\D.nx σ H)∨((Ite K a).go i H/\∃N:St->Hp->Prop,(∀σ' H',N σ' H'->∃m',m'<m/\W (i+1) m' σ' H')/\∀x H',(Ite K a).yld i H x H'->g x σ H' λσ2 H2=>tb {D with nx:=N,ct:=N,bk:=D.nx} σ2 H2):=by
 refine⟨λi m σ H=>Pv i σ H/\i+m=xs.length,⟨xs.length,h0,by omega⟩,λi m σ H ⟨p,e⟩=>?_⟩;by_cases hi:i<xs.length
 ·have sq:=hl i σ H (by omega) p;obtain⟨x,hx⟩:∃x,xs[i]?=some x:=⟨_,Ng hi⟩;refine .inr ⟨⟨xs,x,sq,hx⟩,Pv (i+1),λσ' H' q=>⟨m-1,by omega,q,by omega⟩,?_⟩;rintro v H' ⟨T,x2,rfl,hT,rfl,hx2⟩;have ex:x2=x:=Nm ((hx2 xs sq).symm.trans hx);subst ex;exact hs i x2 T σ H hx p hT
 ·have ei:i=xs.length:=by omega
  exact .inl ⟨⟨xs,hl i σ H (by omega) p,by omega⟩,hd σ H (by rw[<-ei];exact p)⟩
end L2
namespace Sc
open PySem PySem.Spec PyProof.Rows L2 NK
open Mir (Pt B1 dz eF)
def yP(hs:List V)(i:Nat)(p:Pt):V:=if p.kind=5 then hs.getD p.first (nv 0)else if p.kind=6 then hs.getD i (nv 0)else nv 0
theorem AE(h:List Nat)(i:Nat):(nvs h).getD i (nv 0)=nv (h.getD i 0):=by
 rw[Nj,Nj,NC];cases h[i]?<;>rfl
variable{α β:Type}
theorem vJ{γ:Type}(f:Nat->α->β)(g:β->γ)(l:List α):(l.mapIdx f).map g=l.mapIdx λi a=>g (f i a):=by
 refine Rm λj=>?_;rw[NC,Oz,Oz];cases l[j]?<;>rfl
theorem AL(ps:List Pt)(h:List Nat):ps.mapIdx (yP (nvs h))=nvs (Mir.gE ps h):=by
 unfold Mir.gE;refine Eq.trans ?_ (vJ (Mir.yQ h) nv ps).symm;congr 1;funext i p;unfold yP Mir.yQ;rw[AE,AE];split
 ·rfl
 split<;>rfl
def filled{α β:Type}(g:Nat->α->β)(d:β)(ps:List α)(m:Nat):List β:=(ps.take m).mapIdx g++List.replicate (ps.length-m) d
variable{m:Nat}
theorem kP{g:Nat->α->β}{d:β}{ps:List α}{p:α}(hp:ps[m]?=some p):(filled g d ps m).set m (g m p)=filled g d ps (m+1):=by
 have hm:m<ps.length:=(Nh.mp hp).1;have hp2:ps[m]=p:=(Nh.mp hp).2;refine Rm λj=>?_;unfold filled;have l1:((ps.take m).mapIdx g).length=m:=by rw[OM,N2];omega
 have l2:((ps.take (m+1)).mapIdx g).length=m+1:=by rw[OM,N2];omega
 by_cases hj:j=m
 ·subst hj;rw[Oq (by rw[Nk,l1,N1];omega),NJ (by omega),Oz,O8 (by omega),hp];rfl
 ·rw[Oy (λz=>hj z.symm)];by_cases h2:j<m
  ·rw[NJ (by omega),NJ (by omega),Oz,Oz,O8 h2,O8 (by omega)]
  ·rw[NM (by omega),NM (by omega),l1,l2,OX,OX];by_cases h3:j<ps.length
   ·rw[Nz (by omega),Nz (by omega)]
   ·rw[Nt (by omega),Nt (by omega)]
theorem tG{g:Nat->α->β}{d:β}{ps:List α}{p:α}(hp:ps[m]?=some p)(e:g m p=d):filled g d ps m=filled g d ps (m+1):=by
 rw[<-kP hp,e];have hm:m<ps.length:=(Nh.mp hp).1;have l1:((ps.take m).mapIdx g).length=m:=by rw[OM,N2];omega
 refine Rm λj=>?_;by_cases hj:j=m
 ·subst hj;unfold filled;rw[Oq (by rw[Nk,l1,N1];omega),NM (by omega),l1,OX,Nz (by omega)]
 ·rw[Oy (λz=>hj z.symm)]
theorem vZ(g:Nat->α->β)(d:β)(ps:List α)(hm:m<=ps.length):(filled g d ps m).length=ps.length:=by
 unfold filled;rw[Nk,OM,N2,N1];omega
theorem tF(g:Nat->α->β)(d:β)(ps:List α):filled g d ps 0=List.replicate ps.length d:=by unfold filled;simp
theorem v9(g:Nat->α->β)(d:β)(ps:List α):filled g d ps ps.length=ps.mapIdx g:=by unfold filled;simp
theorem uj(n:Nat)(x:α):(List.replicate n [x]).flatten=List.replicate n x:=by
 induction n with
 |zero=>rfl
 |succ n ih=>rw[N3,Pf,ih,N3];rfl
variable{i:Nat}
theorem uy{n:Nat}(h:i<n):ixN n (i:Int)=some i:=by
 unfold ixN;rw[Nz (by omega),Nz (by omega),Nw]
theorem getD_at{hs:List V}(h:i<hs.length):atI hs ((i:Nat):Int)=some (hs.getD i (nv 0)):=by
 refine bg ?_;rw[Nj,Ng h];rfl
section
variable{P:Program}{w:World}{K:Rt}{mg:Ru}{base:Heap}{D:Ad}
inductive ie(K:Rt)(D:Ad)(vs:List V)(H:Hp)(Q:VK)(E:XK):Prop
 |mk (l ps hl hs:_):vs=[.ref l,.ref hl]->bF K D H l ps->dz ps->SqL K H hl hs->hs.length=ps.length->(∀r H',aw H H'->H' r=some (.tup (ps.mapIdx (yP hs)))->Q (.ref r) H')->ie K D vs H Q E
abbrev qC:Stmt:=top 33
theorem gh:aF ["parts","holds","memory","i","part"] ["parts","holds"] (az qC):=⟨rfl,rfl,rfl,by decide +kernel,rfl,by decide +kernel,by decide +kernel⟩
variable{fd:FuncData}
theorem tP{f:Addr}(F:Fun K "memory_after" "memory_after" qC f fd)(T:Txt K mg D):bw P w K mg base CX0 1 f fd ["parts","holds"] (ie K D):=by
 refine F.ok gh (λvs H Q E h=>?_) (λcdv A outer s H vs Q E hr h=>?_)
 ·obtain⟨l,ps,hl,hs,rfl,_⟩:=h;rfl
 obtain⟨l,ps,hl,hs,rfl,hp0,ok,hS,hln,q⟩:=h;refine⟨_,(ae (aG (i:=2) gh.nd rfl (Or.inl rfl) (aI kz (aV (aa ao ag)) (aP aC rfl T.len NO (aa (pv 0) ag))))
   (ae (cu NU rfl (yu rfl T.enumerate (aa (pv 0) ag)) (gN rfl (bt (aL (i:=3) gh.nd rfl (Or.inl rfl)) (bt (aL (i:=4) gh.nd rfl (Or.inl rfl)) eZ))) (ai (aW (aH bH (au (pv 4) rfl) (a9 T.uB) (aU _)) (ai (iz (aS aE (pv 1) (au (pv 4) rfl) (λ_ _=>rfl)) (iA (pv 2) (pv 3) set_list))) (ai (aW (aH bH (au (pv 4) rfl) (a9 T.Cw) (aU _)) (ai (iz (aS aE (pv 1) (pv 3) (λ_ _=>rfl)) (iA (pv 2) (pv 3) set_list))) aD)))))
   (ai (aA (ia eX rfl T.tuple nJ (aa (pv 2) ag)))))),?_⟩
 obtain⟨xs,sq,xl,xat⟩:=hp0.at;refine⟨(by show 1<=sizeLine;decide),λz hz=>⟨_,rfl,l,_,rfl,.inl ((ak hz _).seq sq),z,_,_,rfl,rfl,af,(by show(-(2^63):Int)<=(xs.length:Int);omega),(by show(xs.length:Int)<2^63;have:=ok.few;omega),(by rw[Nw,xl];have:=ok.few;exact dZ (by rw[Ny];omega)),λr hr0=>?_⟩⟩;have sz:aw H (upd H z (.lst [.int 0])):=ak hz _;have hrH:H r=none:=sz.free hr0;have s1:aw H (upd (upd H z (.lst [.int 0])) r (.lst (List.replicate ((xs.length:Int)).toNat [V.int 0]).flatten)):=sz.trans (ak hr0 _);refine⟨_,rfl,l,xs,rfl,s1.seq sq,vY (K:=K) (a:=l) (xs:=xs) (λm σ H'=>(∃v1 v2:Option V,σ=[some (.ref l),some (.ref hl),some (.ref r),v1,v2])/\aw H H'/\H' r=some (.lst (filled (yP hs) (nv 0) ps m)))
  ⟨⟨none,none,rfl⟩,s1,?_⟩ (λi σ H' _ ⟨_,s2,_⟩=>s2.seq sq) ?_ ?_⟩
 ·rw[af,Nw,xl,uj,tF];rfl
 ·rintro m x T0 σ H' hx ⟨⟨v1,v2,rfl⟩,s2,e2⟩ hT;have hm:m<ps.length:=by rw[<-xl];exact(Nh.mp hx).1
  obtain⟨p,hp⟩:∃p,ps[m]?=some p:=⟨_,Ng hm⟩;obtain⟨a,ha,⟨dx,hpa⟩⟩:=xat _ p hp;have ex:x=.ref a:=Nm (hx.symm.trans ha);subst ex;have kL:p∈ps:=Nr hp;have s3:aw H (upd H' T0 (.tup [.int (m:Nat),.ref a])):=s2.trans (ak hT _);have e3:(upd H' T0 (.tup [.int (m:Nat),.ref a])) r=some (.lst (filled (yP hs) (nv 0) ps m)):=(ak hT _) _ _ e2;have kp:∀o,aw H (upd (upd H' T0 (.tup [.int (m:Nat),.ref a])) r o):=λo b u e=>by rw[aB (ax e hrH)];exact s3 _ _ e
  have ix:ixN (filled (yP hs) (nv 0) ps m).length (m:Int)=some m:=by rw[vZ _ _ _ (OI hm)];exact uy hm
  refine⟨T0,_,rfl,SqT.of af,rfl,_,_,rfl,_,_,rfl,rfl,?_⟩;refine⟨_,rfl,a,D.part,dx,_,_,rfl,s3 _ _ hpa,T.aN,T.bq,rfl,rfl,_,rfl,?_⟩;refine bD (λc=>?_) (λc=>?_)
  ·have c:=cY (b:=5) |>.mp c
   refine⟨_,rfl,_,rfl,a,D.part,dx,_,_,rfl,s3 _ _ hpa,T.aN,T.fh,rfl,hl,_,_,_,rfl,rfl,s3.seq hS,getD_at (by rw[hln];exact ok.fi p kL),_,rfl,_,rfl,r,_,_,m,rfl,rfl,e3,ix,⟨_,_,rfl⟩,kp _,?_⟩;rw[af,<-kP hp];unfold yP;rw[Nz c]
  ·have c5:p.kind≠5:=λz=>c (cY (b:=5) |>.mpr z);refine⟨_,rfl,a,D.part,dx,_,_,rfl,s3 _ _ hpa,T.aN,T.bq,rfl,rfl,_,rfl,?_⟩;refine bD (λc=>?_) (λc=>?_)
   ·have c:=cY (b:=6) |>.mp c
    refine⟨_,rfl,_,rfl,hl,_,_,_,rfl,rfl,s3.seq hS,getD_at (by rw[hln];exact hm),_,rfl,_,rfl,r,_,_,m,rfl,rfl,e3,ix,⟨_,_,rfl⟩,kp _,?_⟩;rw[af,<-kP hp];unfold yP;rw[Nt c5,Nz c]
   ·have c6:p.kind≠6:=λz=>c (cY (b:=6) |>.mpr z);refine⟨⟨_,_,rfl⟩,s3,?_⟩;rw[<-tG hp (by unfold yP;rw[Nt c5,Nt c6])];exact e3
 ·rintro σ H' ⟨⟨v1,v2,rfl⟩,s2,e2⟩;rw[xl,v9]at e2;refine⟨_,rfl,r,_,rfl,.inl ⟨SqL.of e2,λy hy=>?_⟩⟩;exact q y _ (s2.trans (ak hy _)) af
inductive i7(K:Rt)(D:Ad)(vs:List V)(H:Hp)(Q:VK)(E:XK):Prop
 |mk (l ps hl h oa out:_):vs=[.ref l,.ref hl,.ref oa]->bF K D H l ps->dz ps->SqL K H hl (nvs h)->h.length=ps.length->B1 h->SqT K H oa (nvs out)->out.length=ps.length+1->(∀r H',aw H H'->H' r=some (.tup (nvs (Mir.dC ps h out)))->Q (.ref r) H')->i7 K D vs H Q E
abbrev mM:Stmt:=top 34
theorem eY:aF ["parts","holds","outlook","earlier","i","part"] ["parts","holds","outlook"] (az mM):=⟨rfl,rfl,rfl,by decide +kernel,rfl,by decide +kernel,by decide +kernel⟩
theorem qL{f:Addr}(F:Fun K "outlook_before" "outlook_before" mM f fd)(T:Txt K mg D)(fN:Fn P w K mg base "reach_of_within" 1 ["part","holds","awaited"] (uh K D)):bw P w K mg base CX0 2 f fd ["parts","holds","outlook"] (i7 K D):=by
 refine F.ok eY (λvs H Q E h=>?_) (λcdv A outer s H vs Q E hr h=>?_)
 ·obtain⟨l,ps,hl,h,oa,out,rfl,_⟩:=h;rfl
 obtain⟨l,ps,hl,h,oa,out,rfl,hp0,ok,hS,hln,hb,hO,oln,q⟩:=h;refine⟨_,(ae (aG (i:=3) eY.nd rfl (Or.inl rfl) (aI pS (aI kz (aV (aa ao ag)) (aP aC rfl T.len NO (aa (pv 0) ag))) (aV (aa (aS aE (pv 1) ao (λ_ _=>rfl)) ag))))
   (ae (cu NU rfl (yu rfl T.enumerate (aa (pv 0) ag)) (gN rfl (bt (aL (i:=4) eY.nd rfl (Or.inl rfl)) (bt (aL (i:=5) eY.nd rfl (Or.inl rfl)) eZ))) (ai (aW (aH bH (au (pv 5) rfl) (a9 T.Gg) (aU _)) (ai (iz (aS aE (pv 1) (au (pv 5) rfl) (λ_ _=>rfl)) (iA (pv 3) (pv 4) set_list))) (ai (aW (aH bH (au (pv 5) rfl) (a9 T.Cv) (aU _)) (ai (iz (aS aE (pv 1) (pv 4) (λ_ _=>rfl)) (iA (pv 3) (pv 4) set_list))) (ai (aW (aH bH (au (pv 5) rfl) (a9 T.uA) (aU _)) (ai (iz (bQ fN hr (aa (pv 5) (aa (pv 1) (aa (aS eI (pv 2) (pv 4) (λ_ _=>rfl)) ag)))) (iA (pv 3) (pv 4) set_list))) aD)))))))
   (ai (aA (ia eX rfl T.tuple nJ (aa (pv 3) ag)))))),?_⟩
 obtain⟨xs,sq,xl,xat⟩:=hp0.at;refine⟨(by show 1<=sizeLine;decide),λz hz=>⟨_,rfl,l,_,rfl,.inl ((ak hz _).seq sq),z,_,_,rfl,rfl,af,(by show(-(2^63):Int)<=(xs.length:Int);omega),(by show(xs.length:Int)<2^63;have:=ok.few;omega),(by rw[Nw,xl];have:=ok.few;exact dZ (by rw[Ny];omega)),λr0 hr0=>?_⟩⟩;have s1:aw H (upd (upd H z (.lst [.int 0])) r0 (.lst (List.replicate ((xs.length:Int)).toNat [V.int 0]).flatten)):=(ak hz _).trans (ak hr0 _);refine⟨_,rfl,hl,_,0,nv (h.getD 0 0),rfl,rfl,s1.seq hS,bT (i:=0) (by rw[hln];exact ok.pos),(by show 1<=sizeLine;decide),λy hy=>?_⟩;have s2:=s1.trans (ak hy (.lst [nv (h.getD 0 0)]));refine⟨r0,y,_,_,rfl,rfl,(ak hy _) _ _ af,af,?_,λr hr2=>?_⟩
 ·rw[Nw,xl,uj,N1,Ny];have:=ok.few;exact dZ (by omega)
 have hrH:H r=none:=s2.free hr2;have s3:=s2.trans (ak hr2 (.lst ((List.replicate ((xs.length:Int)).toNat [V.int 0]).flatten++[nv (h.getD 0 0)])));have fl:∀m,m<=ps.length->(filled (λi p=>nv (Mir.dR h out i p)) (nv 0) ps m).length=ps.length:=λm hm=>vZ _ _ _ hm;refine⟨_,rfl,l,xs,rfl,s3.seq sq,vY (K:=K) (a:=l) (xs:=xs) (λm σ H'=>(∃v1 v2:Option V,σ=[some (.ref l),some (.ref hl),some (.ref oa),some (.ref r),v1,v2])/\aw H H'/\H' r=some (.lst (filled (λi p=>nv (Mir.dR h out i p)) (nv 0) ps m++[nv (h.getD 0 0)])))
  ⟨⟨none,none,rfl⟩,s3,?_⟩ (λi σ H' _ ⟨_,s2,_⟩=>s2.seq sq) ?_ ?_⟩
 ·rw[af,Nw,xl,uj,tF];rfl
 ·rintro m x T0 σ H' hx ⟨⟨v1,v2,rfl⟩,s2,e2⟩ hT;have hm:m<ps.length:=by rw[<-xl];exact(Nh.mp hx).1
  obtain⟨p,hp⟩:∃p,ps[m]?=some p:=⟨_,Ng hm⟩;obtain⟨a,ha,⟨dx,hpa⟩⟩:=xat _ p hp;have ex:x=.ref a:=Nm (hx.symm.trans ha);subst ex;have kL:p∈ps:=Nr hp;have s3:aw H (upd H' T0 (.tup [.int (m:Nat),.ref a])):=s2.trans (ak hT _);have e3:(upd H' T0 (.tup [.int (m:Nat),.ref a])) r=some (.lst (filled (λi p=>nv (Mir.dR h out i p)) (nv 0) ps m++[nv (h.getD 0 0)])):=(ak hT _) _ _ e2;have kp:∀o,aw H (upd (upd H' T0 (.tup [.int (m:Nat),.ref a])) r o):=λo b u e=>by rw[aB (ax e hrH)];exact s3 _ _ e
  have ix:ixN (filled (λi p=>nv (Mir.dR h out i p)) (nv 0) ps m++[nv (h.getD 0 0)]).length (m:Int)=some m:=by rw[Nk,fl _ (OI hm)];exact uy (by omega)
  have st:∀v,v=Mir.dR h out m p->(filled (λi p=>nv (Mir.dR h out i p)) (nv 0) ps m++[nv (h.getD 0 0)]).set m (nv v)=filled (λi p=>nv (Mir.dR h out i p)) (nv 0) ps (m+1)++[nv (h.getD 0 0)]:=λv ev=>by
   subst ev;rw[List.set_append_left _ _ (by rw[fl _ (OI hm)];exact hm)];rw[<-kP (g:=λi p=>nv (Mir.dR h out i p)) hp]
  have hk:rE K D (upd H' T0 (.tup [.int (m:Nat),.ref a])) a hl p h:=⟨⟨dx,s3 _ _ hpa⟩,s3.seq hS,by rw[hln];exact ok.fi p kL,by rw[hln];exact ok.se p kL,hb⟩;refine⟨T0,_,rfl,SqT.of af,rfl,_,_,rfl,_,_,rfl,rfl,?_⟩;refine⟨_,rfl,a,D.part,dx,_,_,rfl,s3 _ _ hpa,T.aN,T.bq,rfl,rfl,_,rfl,?_⟩;refine bD (λc=>?_) (λc=>?_)
  ·have c:=cY (b:=7) |>.mp c
   refine⟨_,rfl,_,rfl,a,D.part,dx,_,_,rfl,s3 _ _ hpa,T.aN,T.fh,rfl,hl,_,_,_,rfl,rfl,s3.seq hS,bT (by rw[hln];exact ok.fi p kL),_,rfl,_,rfl,r,_,_,m,rfl,rfl,e3,ix,⟨_,_,rfl⟩,kp _,?_⟩;rw[af];exact congrArg (λz=>some (HO.lst z)) (st _ (by unfold Mir.dR;rw[Nz c]))
  ·have c7:p.kind≠7:=λz=>c (cY (b:=7) |>.mpr z);refine⟨_,rfl,a,D.part,dx,_,_,rfl,s3 _ _ hpa,T.aN,T.bq,rfl,rfl,_,rfl,?_⟩;refine bD (λc=>?_) (λc=>?_)
   ·have c:=cY (b:=8) |>.mp c
    refine⟨_,rfl,_,rfl,hl,_,_,_,rfl,rfl,s3.seq hS,bT (by rw[hln];exact hm),_,rfl,_,rfl,r,_,_,m,rfl,rfl,e3,ix,⟨_,_,rfl⟩,kp _,?_⟩;rw[af];exact congrArg (λz=>some (HO.lst z)) (st _ (by unfold Mir.dR;rw[Nt c7,Nz c]))
   ·have c8:p.kind≠8:=λz=>c (cY (b:=8) |>.mpr z);refine⟨_,rfl,a,D.part,dx,_,_,rfl,s3 _ _ hpa,T.aN,T.bq,rfl,rfl,_,rfl,?_⟩;refine bD (λc=>?_) (λc=>?_)
    ·have c:=cY (b:=9) |>.mp c
     refine⟨_,rfl,_,rfl,_,rfl,_,rfl,oa,_,_,_,rfl,rfl,s3.Jg hO,bT (by rw[oln];omega),a,hl,p,h,_,rfl,hk,_,rfl,_,rfl,r,_,_,m,rfl,rfl,e3,ix,⟨_,_,rfl⟩,kp _,?_⟩;rw[af];exact congrArg (λz=>some (HO.lst z)) (st _ (by unfold Mir.dR;rw[Nt c7,Nt c8,Nz c]))
    ·have c9:p.kind≠9:=λz=>c (cY (b:=9) |>.mpr z);refine⟨⟨_,_,rfl⟩,s3,?_⟩;rw[<-tG hp (by unfold Mir.dR;rw[Nt c7,Nt c8,Nt c9])];exact e3
 ·rintro σ H' ⟨⟨v1,v2,rfl⟩,s2,e2⟩;rw[xl,v9]at e2;refine⟨_,rfl,r,_,rfl,.inl ⟨SqL.of e2,λy hy=>?_⟩⟩;refine q y _ (s2.trans (ak hy _)) ?_;rw[af];unfold Mir.dC;rw[kD];exact congrArg (λz=>some (HO.tup (z++[nv (h.getD 0 0)]))) (vJ (Mir.dR h out) nv ps).symm
end
def Kp(S:Addr->Prop)(H H':Hp):Prop:=∀b o,H b=some o->¬S b->H' b=some o
variable{S:Addr->Prop}{H:Hp}
theorem Kp.trans{H1 H2:Hp}(a:Kp S H H1)(b:Kp S H1 H2):Kp S H H2:=λc o e n=>b c o (a c o e n) n
variable{H':Hp}
theorem aw.kp(e:aw H H'):Kp S H H':=λb o h _=>e b o h
theorem Kp.mono{S':Addr->Prop}(a:Kp S H H')(h:∀b,S b->S' b):Kp S' H H':=λc o e n=>a c o e λz=>n (h c z)
variable{a:Addr}
theorem aJ{o:HO}:Kp (·=a) H (upd H a o):=λb u e n=>by rw[aB n];exact e
theorem Kp.seq{K:Rt}{xs:List V}(e:Kp S H H')(h:SqL K H a xs)(n:¬S a):SqL K H' a xs:=by
 rcases h with(h|⟨o,h⟩)|h
 ·exact .inl (.inl (e _ _ h n))
 ·exact .inl (.inr ⟨o,e _ _ h n⟩)
 ·exact .inr h
variable{ps:List Pt}
theorem bF.kp{K:Rt}{D:Ad}{l:Addr}(e:Kp S H H')(h:bF K D H l ps)(n:¬S l)(np:∀b p,S b->¬cX D H b p):bF K D H' l ps:=by
 obtain⟨as,h1,h2⟩:=h;exact⟨as,e.seq h1 n,Paired.qS h2 λp a ⟨dx,q⟩=>⟨dx,e _ _ q λz=>np a p z ⟨dx,q⟩⟩⟩
def foF(l m:Addr):List (Str×V):=[("parts",.ref l),("memory",.ref m)]
def IT(C:Addr)(H:Hp)(a l m:Addr):Prop:=∃dx,H a=some (.ins C dx (foF l m))
structure fP(K:Rt)(D:Ad)(H:Hp)(a:Addr)(ps:List Pt)(mem:List Nat):Prop where
 ex:∃l m,IT D.dE H a l m/\bF K D H l ps/\H m=some (.tup (nvs mem))/\(∃o u,H l=some (.frz o u))
 ok:dz ps
 b1:B1 mem
 ln:mem.length=ps.length
theorem HV{D:Ad}{C:Addr}{l m:Addr}{p:Pt}(h:IT C H a l m):¬cX D H a p:=λ⟨dx,q⟩=>by
 obtain⟨dx2,q2⟩:=h;rw[q2]at q;have e:=Nm q;injection e with _ _ e;unfold foF ptF at e;have e2:=congrArg (λz:List (Str×V)=>z.length) e;simp at e2
theorem fP.kp{S:Addr->Prop}{K:Rt}{D:Ad}{H H':Hp}{a:Addr}{ps:List Pt}{mem:List Nat}(h:fP K D H a ps mem)(e:Kp S H H')(na:¬S a)(np:∀b,S b->(∀p,¬cX D H b p)/\(∀ys,H b≠some (.tup ys))/\∀o u,H b≠some (.frz o u)):fP K D H' a ps mem:=by
 obtain⟨⟨l,m,⟨dx,h1⟩,h2,h3,o,u,h4⟩,ok,b1,ln⟩:=h;have nl:¬S l:=λz=>(np l z).2.2 _ _ h4;exact⟨⟨l,m,⟨dx,e _ _ h1 na⟩,h2.kp e nl λb p z=>(np b z).1 p,e _ _ h3 λz=>(np m z).2.1 _ h3,o,u,e _ _ h4 nl⟩,ok,b1,ln⟩
theorem fP.same{K:Rt}{D:Ad}{mem:List Nat}(h:fP K D H a ps mem)(e:aw H H'):fP K D H' a ps mem:=h.kp (S:=λ_=>False) (aw.kp e) (λz=>z) λ_ z=>z.elim
section
variable{P:Program}{w:World}{K:Rt}{mg:Ru}{base:Heap}{D:Ad}
inductive jC(K:Rt)(D:Ad)(vs:List V)(H:Hp)(Q:VK)(E:XK):Prop
 |mk (a t ps mem:_):vs=[.ref a,nv t]->fP K D H a ps mem->(∀H',fP K D H' a ps (Mir.bB ps t mem)->Kp (·=a) H H'->Q (nv ((Mir.dM ps t mem (Mir.last ps)).getD 0 0)) H')->jC K D vs H Q E
abbrev lJ:Stmt:=inClass (top 35) 1
theorem jE:aF ["self","turn","holds"] ["self","turn"] (az lJ):=⟨rfl,rfl,rfl,by decide +kernel,rfl,by decide +kernel,by decide +kernel⟩
variable{f:Addr}{fd:FuncData}
theorem Ej(F:Fun K "follow" "Follower.follow" lJ f fd)(T:Txt K mg D)(cq:Fn P w K mg base "holds_at_turn" 3 ["parts","turn","memory","outlook"] (ft K D))
  (bV:Fn P w K mg base "outlook_at_last_turn" 3 ["parts"] (uO K D Mir.last))(eA:Fn P w K mg base "memory_after" 1 ["parts","holds"] (ie K D)):bw P w K mg base CX0 4 f fd ["self","turn"] (jC K D):=by
 refine F.ok jE (λvs H Q E h=>?_) (λcdv A outer s H vs Q E hr h=>?_)
 ·obtain⟨a,t,ps,mem,rfl,_⟩:=h;rfl
 obtain⟨a,t,ps,mem,rfl,⟨⟨l,m,⟨dx,ha⟩,hp,hm,o,u,hl⟩,ok,b1,ln⟩,q⟩:=h;refine⟨_,(ae (aG (i:=2) jE.nd rfl (Or.inl rfl) (bQ cq hr (aa (au (pv 0) rfl) (aa (pv 1) (aa (au (pv 0) rfl) (aa (bQ bV hr (aa (au (pv 0) rfl) ag)) ag))))))
   (ae (bb (pv 0) (bQ eA hr (aa (au (pv 0) rfl) (aa (pv 2) ag))) rfl)
   (ai (aA (aS aE (pv 2) ao (λ_ _=>rfl)))))),?_⟩
 refine⟨_,rfl,a,D.dE,dx,_,_,rfl,ha,T.jm,T.vB,rfl,_,rfl,_,rfl,a,D.dE,dx,_,_,rfl,ha,T.jm,T.kG,rfl,_,rfl,a,D.dE,dx,_,_,rfl,ha,T.jm,T.vB,rfl,l,ps,rfl,hp,ok,λr1 H1 s1 e1=>?_⟩;refine⟨l,ps,t,m,mem,r1,Mir.last ps,rfl,hp.same s1,ok,SqT.of (s1 _ _ hm),SqT.of e1,ln,b1,Mir.qV ps,λr2 H2 s2 n2 e2=>?_⟩;have s12:=s1.trans s2;refine⟨_,rfl,a,D.dE,dx,_,_,rfl,s12 _ _ ha,T.jm,T.vB,rfl,_,rfl,l,ps,r2,nvs (Mir.dM ps t mem (Mir.last ps)),rfl,hp.same s12,ok,SqL.of e2,by rw[Nf,Mir.gF],λr3 H3 s3 e3=>?_⟩;have G8:=s12.trans s3;refine⟨_,rfl,a,D.dE,dx,_,rfl,G8 _ _ ha,T.jm,T.kG,(by show 2<1000;decide),?_⟩;have kp:Kp (·=a) H (upd H3 a (.ins D.dE dx (df "memory" (.ref r3) (foF l m)))):=(aw.kp G8).trans aJ;have nr2:r2≠a:=bJ (s3 _ _ e2) (G8 _ _ ha) (by intro z;cases z);refine⟨_,rfl,r2,_,0,nv ((Mir.dM ps t mem (Mir.last ps)).getD 0 0),rfl,rfl,SqL.of (by rw[aB nr2];exact s3 _ _ e2),bT (i:=0) (by rw[Mir.gF];exact ok.pos),?_⟩;have npa:∀b p,b=a->¬cX D H b p:=λb p z=>by subst z;exact HV ⟨dx,ha⟩
 have nla:l≠a:=bJ hl ha (by intro z;cases z);have nr3:r3≠a:=bJ e3 (G8 _ _ ha) (by intro z;cases z);refine q _ ⟨⟨l,r3,⟨dx,?_⟩,hp.kp kp nla npa,?_,o,u,kp _ _ hl nla⟩,ok,Mir.vF t b1,Mir.sZ ps t mem⟩ kp
 ·rw[af];rfl
 ·rw[aB nr3,e3,AL];rfl
inductive ig(K:Rt)(D:Ad)(vs:List V)(H:Hp)(Q:VK)(E:XK):Prop
 |mk (x dx l cl ps c:_):vs=[.ref x,.ref l,.ref cl]->H x=some (.ins D.dE dx [])->bF K D H l ps->dz ps->(∃o u,H l=some (.frz o u))->Rd H cl (.lst (nvs c))->(∀H',fP K D H' x ps (Mir.bA ps c)->Kp (·=x) H H'->Q .non H')->ig K D vs H Q E
abbrev oX:Stmt:=inClass (top 35) 0
theorem mC:aF ["self","parts","course","turn"] ["self","parts","course"] (az oX):=⟨rfl,rfl,rfl,by decide +kernel,rfl,by decide +kernel,by decide +kernel⟩
theorem tT(F:Fun K "__init__" "Follower.__init__" oX f fd)(T:Txt K mg D)(kX:Fn P w K mg base "memory_at_first_turn" 1 ["parts"] (uO K D Mir.yS))
  (eB:Mt P w K mg base D.dE "follow" 4 ["self","turn"] (jC K D)):bw P w K mg base CX0 5 f fd ["self","parts","course"] (ig K D):=by
 refine F.ok mC (λvs H Q E h=>?_) (λcdv A outer s H vs Q E hr h=>?_)
 ·obtain⟨x,dx,l,cl,ps,c,rfl,_⟩:=h;rfl
 obtain⟨x,dx,l,cl,ps,c,rfl,hx,hp,ok,⟨o,u,hl⟩,hc,q⟩:=h;refine⟨_,(ae (bb (pv 0) (pv 1) rfl)
   (ae (bb (pv 0) (bQ kX hr (aa (pv 1) ag)) rfl)
   (ai (cu NU rfl (gq (pv 2)) (aL (i:=3) mC.nd rfl (Or.inl rfl)) (ai (b6 (bZ (pv 0) eB hr (aa (pv 3) ag)))))))),?_⟩
 have np0:∀b p,b=x->¬cX D H b p:=λb p z ⟨d2,q2⟩=>by
  subst z;rw[hx]at q2;have e:=Nm q2;injection e with _ _ e;cases e
 have nlx:l≠x:=bJ hl hx (by intro z;cases z);have k1:Kp (·=x) H (upd H x (.ins D.dE dx (df "parts" (.ref l) []))):=aJ;refine⟨_,rfl,_,rfl,x,D.dE,dx,_,rfl,hx,T.jm,T.vB,(by show 0<1000;decide),?_⟩;refine⟨_,rfl,l,ps,rfl,hp.kp k1 nlx np0,ok,λr1 H1 s1 e1=>?_⟩;refine⟨_,rfl,x,D.dE,dx,_,rfl,s1 _ _ af,T.jm,T.kG,(by show 1<1000;decide),?_⟩;have k2:Kp (·=x) H (upd H1 x (.ins D.dE dx (df "memory" (.ref r1) (df "parts" (.ref l) [])))):=(k1.trans (aw.kp s1)).trans aJ;have nr1:r1≠x:=bJ e1 (s1 _ _ af) (by intro z;cases z);have f2:fP K D (upd H1 x (.ins D.dE dx (df "memory" (.ref r1) (df "parts" (.ref l) [])))) x ps (Mir.bA ps []):=
  ⟨⟨l,r1,⟨dx,by rw[af];rfl⟩,hp.kp k2 nlx np0,by rw[aB nr1,e1];rfl,o,u,k2 _ _ hl nlx⟩,ok,Mir.Dq ps,by show(Mir.yS ps).length=ps.length;unfold Mir.yS;rw[N1]⟩
 have hcx:¬cl=x:=by
  rcases hc with z|⟨o2,z⟩
  ·exact bJ z hx (by intro z;cases z)
  ·exact bJ z hx (by intro z;cases z)
 have hc:SqL K H cl (nvs c):=.inl hc;refine⟨_,rfl,cl,rfl,⟨_,k2.seq hc hcx⟩,jU (K:=K) (a:=cl) (xs:=nvs c) (λi σ H'=>(∃v:Option V,σ=[some (.ref x),some (.ref l),some (.ref cl),v])/\Kp (·=x) H H'/\fP K D H' x ps (Mir.bA ps (c.take i)))
  ⟨⟨none,rfl⟩,k2,f2⟩ (λi σ H' _ ⟨_,k3,_⟩=>k3.seq hc hcx) ?_ ?_⟩
 ·rintro i y σ H' hy ⟨⟨v,rfl⟩,k3,f3⟩;obtain⟨t,ht,rfl⟩:∃t,c[i]?=some t/\y=nv t:=by
   rw[NC]at hy;cases e:c[i]? with
   |none=>rw[e]at hy;cases hy
   |some t=>rw[e]at hy;exact⟨t,rfl,(Nm hy).symm⟩
  obtain⟨⟨l3,m3,⟨dx3,g1⟩,_⟩,_⟩:=id f3;refine⟨_,rfl,x,dx3,_,rfl,g1,rfl,_,rfl,x,t,ps,_,rfl,f3,λH4 f4 k4=>⟨⟨_,rfl⟩,k3.trans k4,?_⟩⟩;have e:c.take (i+1)=c.take i++[t]:=by
   rw[OG,ht];rfl
  rw[e,Mir.dU];exact f4
 ·rintro σ H' ⟨⟨v,rfl⟩,k3,f3⟩;rw[Nf,Oj]at f3;exact q H' f3 k3
def vD(ps:List Pt)(c:List Nat)(i:Nat):List Nat:=Mir.bA ps (c.take i)
def gr(ps:List Pt)(c:List Nat):Nat->List Nat
 |0=>Mir.last ps
 |m+1=>Mir.aZ ps (c.getD (c.length-1-m) 0) (vD ps c (c.length-1-m)) (gr ps c m)
theorem jP(c:List Nat):B1 (Mir.bA ps c)/\(Mir.bA ps c).length=ps.length:=by
 suffices h:∀(l m:List Nat),B1 m/\m.length=ps.length->B1 (l.foldl (λm t=>Mir.bB ps t m) m)/\(l.foldl (λm t=>Mir.bB ps t m) m).length=ps.length from h c _ ⟨Mir.Dq ps,by unfold Mir.yS;rw[N1]⟩
 intro l;induction l with
 |nil=>exact λm h=>h
 |cons t l ih=>exact λm h=>ih _ ⟨Mir.vF t h.1,Mir.sZ ps t m⟩
theorem iC{ps:List Pt}(c:List Nat):∀m,eF ps (gr ps c m)
 |0=>Mir.qV ps
 |m+1=>Mir.mi _ (jP _).1 (iC c m)
inductive yj(K:Rt)(D:Ad)(vs:List V)(H:Hp)(Q:VK)(E:XK):Prop
 |mk (l cl ps c pl:_):vs=[.ref l,.ref cl,nv pl]->bF K D H l ps->dz ps->(∃o u,H l=some (.frz o u))->Rd H cl (.lst (nvs c))->1<=pl->pl<=c.length->c.length<=60->(∀H',aw H H'->Q (nv ((gr ps c (c.length+1-pl)).getD ps.length 0)) H')->yj K D vs H Q E
abbrev oW:Stmt:=top 36
theorem b9:aF ["parts","course","place","follower","memories","turn","outlook","k","holds"] ["parts","course","place"] (az oW):=⟨rfl,rfl,rfl,by decide +kernel,rfl,by decide +kernel,by decide +kernel⟩
theorem qM(F:Fun K "holds_at_place" "holds_at_place" oW f fd)(T:Txt K mg D)(gc:Mc P w K mg base "Follower" D.dE 5 ["self","parts","course"] (ig K D))(eB:Mt P w K mg base D.dE "follow" 4 ["self","turn"] (jC K D))
  (bV:Fn P w K mg base "outlook_at_last_turn" 3 ["parts"] (uO K D Mir.last))(cq:Fn P w K mg base "holds_at_turn" 3 ["parts","turn","memory","outlook"] (ft K D))(gb:Fn P w K mg base "outlook_before" 2 ["parts","holds","outlook"] (i7 K D)):
  bw P w K mg base CX0 7 f fd ["parts","course","place"] (yj K D):=by
 refine F.ok b9 (λvs H Q E h=>?_) (λcdv A outer s H vs Q E hr h=>?_)
 ·obtain⟨l,cl,ps,c,pl,rfl,_⟩:=h;rfl
 obtain⟨l,cl,ps,c,pl,rfl,hp,ok,⟨o,u,hl⟩,hc,p1,p2,c60,q⟩:=h;refine⟨_,(ae (aG (i:=3) b9.nd rfl (Or.inl rfl) (jG gc hr (aa (pv 0) (aa (aV ag) ag))))
   (ae (aG (i:=4) b9.nd rfl (Or.inl rfl) (aV ag))
   (ae (cu NU rfl (gq (pv 1)) (aL (i:=5) b9.nd rfl (Or.inl rfl)) (ae (b6 (lK NY Oe Of dD (pv 4) (aa (au (pv 3) rfl) ag)))
   (ai (b6 (bZ (pv 3) eB hr (aa (pv 5) ag))))))
   (ae (aG (i:=6) b9.nd rfl (Or.inl rfl) (bQ bV hr (aa (pv 0) ag)))
   (ae (cu NU rfl (fW rfl T.range (aa (aI dh (aP aC rfl T.len NO (aa (pv 1) ag)) ao) (aa (aI dh (pv 2) ao) (aa (gS eG ao) ag)))) (aL (i:=7) b9.nd rfl (Or.inl rfl)) (ae (aG (i:=8) b9.nd rfl (Or.inl rfl) (bQ cq hr (aa (pv 0) (aa (aS aE (pv 1) (pv 7) (λ_ _=>rfl)) (aa (aS aE (pv 4) (pv 7) (λ_ _=>rfl)) (aa (pv 6) ag))))))
   (ai (aG (i:=6) b9.nd rfl (Or.inl rfl) (bQ gb hr (aa (pv 0) (aa (pv 8) (aa (pv 6) ag))))))))
   (ai (aA (aS eI (pv 6) (gS eG ao) (λ_ _=>rfl))))))))),?_⟩
 refine⟨_,rfl,NT _,λe0 he0=>?_⟩;have s0:aw H (upd H e0 (.lst [])):=ak he0 _;intro x dx nx ndx nxd;have s1:aw (upd H e0 (.lst [])) (upd (upd (upd H e0 (.lst [])) dx (.own x)) x (.ins D.dE dx [])):=(ak ndx _).trans (ak (by rw[aB (Ne.symm nxd)];exact nx) _);have s01:=s0.trans s1;have nxH:H x=none:=s0.free nx;refine⟨x,dx,l,e0,ps,[],rfl,af,hp.same s01,ok,⟨o,u,s01 _ _ hl⟩,.inl (s1 _ _ af),λH2 f2 k2=>⟨rfl,?_⟩⟩;have s2:aw H H2:=λb v e=>k2 _ _ (s01 _ _ e) (ax e nxH);refine⟨NT _,λms hms=>?_⟩;have s3:=s2.trans (ak hms (.lst []));have nms:ms≠x:=λz=>by
  obtain⟨⟨_,_,⟨_,g⟩,_⟩,_⟩:=f2;rw[z]at hms;rw[g]at hms;cases hms
 have hcS:SqL K H cl (nvs c):=.inl hc;have hmH:H ms=none:=s2.free hms;refine⟨_,rfl,cl,rfl,⟨_,s3.seq hcS⟩,jU (K:=K) (a:=cl) (xs:=nvs c) (λi σ H'=>(∃v:Option V,σ=[some (.ref l),some (.ref cl),some (nv pl),some (.ref x),some (.ref ms),v,none,none,none])/\aw H H'/\fP K D H' x ps (Mir.bA ps (c.take i))/\
   ∃as:List Addr,H' ms=some (.lst (as.map V.ref))/\as.length=i/\∀j a,as[j]?=some a->H' a=some (.tup (nvs (vD ps c j))))
  ⟨⟨none,rfl⟩,s3,f2.same (ak hms _),[],af,rfl,λj a z=>by simp at z⟩ (λi σ H' _ ⟨_,k3,_⟩=>k3.seq hcS) ?_ ?_⟩
 ·rintro i y σ H' hy ⟨⟨v,rfl⟩,s4,f4,as,m4,al,am⟩;obtain⟨t,ht,rfl⟩:∃t,c[i]?=some t/\y=nv t:=by
   rw[NC]at hy;cases e:c[i]? with
   |none=>rw[e]at hy;cases hy
   |some t=>rw[e]at hy;exact⟨t,rfl,(Nm hy).symm⟩
  have hi:i<c.length:=(Nh.mp ht).1;obtain⟨⟨l3,m3,⟨dx3,g1⟩,g2,g3,o3,u3,g4⟩,_⟩:=id f4;refine⟨_,rfl,.inl ⟨rfl,_,SqL.of m4⟩,_,rfl,x,D.dE,dx3,_,_,rfl,g1,T.jm,T.kG,rfl,ms,_,_,rfl,rfl,m4,(by rw[Nf,al];exact bx (by omega)),?_⟩;have kms:Kp (·=ms) H' (upd H' ms (.lst (as.map V.ref++[V.ref m3]))):=aJ;have f5:fP K D (upd H' ms (.lst (as.map V.ref++[V.ref m3]))) x ps (Mir.bA ps (c.take i)):=f4.kp kms (λz=>nms z.symm) λb z=>by
   subst z;refine⟨λp ⟨d2,z2⟩=>?_,λys z2=>?_,λo2 u2 z2=>?_⟩<;>(rw[m4]at z2;cases z2)
  refine⟨_,rfl,x,dx3,_,rfl,kms _ _ g1 (λz=>nms z.symm),rfl,_,rfl,x,t,ps,_,rfl,f5,λH6 f6 k6=>⟨⟨_,rfl⟩,?_,?_,as++[m3],?_,?_,?_⟩⟩
  ·exact λb v e=>k6 _ _ (kms _ _ (s4 _ _ e) (ax e hmH)) (ax e nxH)
  ·have e:c.take (i+1)=c.take i++[t]:=by rw[OG,ht];rfl
   rw[e,Mir.dU];exact f6
  ·rw[k6 ms _ af nms,NS];rfl
  ·rw[Nk,al];rfl
  ·intro j a ja;have tupK:∀b ys,H' b=some (.tup ys)->H6 b=some (.tup ys):=λb ys e=>k6 _ _ (kms _ _ e (bJ e m4 (by intro z;cases z))) (bJ e g1 (by intro z;cases z));by_cases hj:j<as.length
   ·rw[NJ hj]at ja;exact tupK _ _ (am j a ja)
   ·rw[NM (by omega)]at ja;have ej:j=as.length:=by
     have:=(Nh.mp ja).1;rw[Ny]at this;omega
    subst ej;rw[OF]at ja;cases ja;rw[al];exact tupK _ _ g3
 ·rintro σ H' ⟨⟨v,rfl⟩,s4,f4,as,m4,al,am⟩;rw[Nf]at al;refine⟨_,rfl,l,ps,rfl,hp.same s4,ok,λr5 H5 s5 e5=>?_⟩;have s45:=s4.trans s5;refine⟨_,rfl,cl,_,rfl,.inl (s45.seq hcS),_,_,rfl,rfl,_,rfl,_,_,rfl,rfl,_,rfl,_,_,_,_,rfl,RgC.neg (by rw[Nf];omega) (by rw[Nf];omega) (by omega) (by omega),?_⟩;have en:(((nvs c).length:Int)-1-((pl:Int)-2)).toNat=c.length+1-pl:=by rw[Nf];omega
  rw[en];refine fY (n:=c.length+1-pl) (λm σ H'=>(∃(v:Option V) (oa:Addr) (v2 v3:Option V),σ=[some (.ref l),some (.ref cl),some (nv pl),some (.ref x),some (.ref ms),v,some (.ref oa),v2,v3]/\H' oa=some (.tup (nvs (gr ps c m))))/\aw H5 H')
   ⟨⟨_,r5,_,_,rfl,e5⟩,aw.refl _⟩ ?_ ?_
  ·rintro m σ H6 hm ⟨⟨v,oa,v2,v3,rfl,e6⟩,s6⟩;have Jh:=s45.trans s6;have hi:c.length-1-m<c.length:=by omega
   have ei:((nvs c).length:Int)-1+(m:Int)*(-1)=((c.length-1-m:Nat):Int):=by rw[Nf];omega
   obtain⟨a,ha⟩:∃a,as[c.length-1-m]?=some a:=⟨_,Ng (by rw[al];exact hi)⟩;have hma:=s6 _ _ (s5 _ _ (am _ a ha));have e1:atI (nvs c) (((nvs c).length:Int)-1+(m:Int)*(-1))=some (nv (c.getD (c.length-1-m) 0)):=by rw[ei];exact bT hi
   have e2:atI (as.map V.ref) (((nvs c).length:Int)-1+(m:Int)*(-1))=some (.ref a):=by rw[ei];exact bg (by rw[NC,ha];rfl)
   refine⟨_,rfl,_,rfl,_,rfl,cl,_,_,_,rfl,rfl,Jh.seq hcS,e1,_,rfl,_,rfl,ms,_,_,_,rfl,rfl,SqL.of (s6 _ _ (s5 _ _ m4)),e2,_,rfl,l,ps,_,a,_,oa,_,rfl,hp.same Jh,ok,SqT.of hma,SqT.of e6,(jP _).2,(jP _).1,iC c m,λr7 H7 s7 _ e7=>?_⟩;refine⟨_,rfl,_,rfl,_,rfl,l,ps,r7,_,oa,_,rfl,hp.same (Jh.trans s7),ok,SqL.of e7,Mir.gF _ _ _ _,Mir.kK _ (jP _).1 (iC c m),SqT.of (s7 _ _ e6),(iC c m).1,λr8 H8 s8 e8=>?_⟩;exact⟨⟨_,r8,_,_,rfl,e8⟩,(s6.trans s7).trans s8⟩
  ·rintro σ H6 ⟨⟨v,oa,v2,v3,rfl,e6⟩,s6⟩;refine⟨_,rfl,_,rfl,oa,_,_,nv ((gr ps c (c.length+1-pl)).getD ps.length 0),rfl,rfl,SqT.of e6,?_,q _ (s45.trans s6)⟩;have ol:=(iC (ps:=ps) c (c.length+1-pl)).1;have hl2:(nvs (gr ps c (c.length+1-pl))).length=ps.length+1:=by rw[Nf,ol]
   unfold atI ixN;rw[hl2,Nt (by decide),Nz (by omega)];show(nvs (gr ps c (c.length+1-pl)))[(-1+((ps.length+1:Nat):Int)).toNat]?=_;rw[show(-1+((ps.length+1:Nat):Int)).toNat=ps.length by omega,NC,Nj,Ng (by omega)];rfl
end
theorem zp(l:List Nat)(k:Nat):(l.map λ(n:Nat)=>(n:Int)).any (λy=>y==(k:Int))=l.any λn=>n==k:=by
 induction l with
 |nil=>rfl
 |cons a l ih=>
  rw[N6,OB,OB,ih];congr 1;by_cases q:a=k
  ·subst q;simp
  ·rw[N'.mpr (λz=>q (by omega)),N'.mpr q]
theorem kU{a b:Nat}:(a==b)=(b==a):=by
 by_cases q:a=b
 ·subst q;rfl
 ·rw[N'.mpr q,N'.mpr (λz=>q z.symm)]
theorem vS(k:Nat):([1,9]:List Int).any (λy=>y==(k:Int))=Rdg.hasNum k:=by
 refine(zp [1,9] k).trans ?_;unfold Rdg.hasNum;simp only[OB,Rr,QU];rw[kU (a:=1),kU (a:=9)]
theorem DE(k:Nat):([7,8,9]:List Int).any (λy=>y==(k:Int))=Rdg.fwd k:=by
 refine(zp [7,8,9] k).trans ?_;unfold Rdg.fwd;simp only[OB,Rr,QU];rw[kU (a:=7),kU (a:=8),kU (a:=9),Bool.or_assoc]
theorem Ij(k:Nat):([5,6]:List Int).any (λy=>y==(k:Int))=Rdg.bck k:=by
 refine(zp [5,6] k).trans ?_;unfold Rdg.bck;simp only[OB,Rr,QU];rw[kU (a:=5),kU (a:=6)]
abbrev ivs(l:List Int):List V:=l.map V.int
theorem ot{l:List Int}{k:Int}(h:l[i]?=some k):atI (ivs l) ((i:Nat):Int)=some (.int k):=bg (by rw[NC,h];rfl)
section
variable{P:Program}{w:World}{K:Rt}{mg:Ru}{base:Heap}{D:Ad}
inductive pG(K:Rt)(D:Ad)(vs:List V)(H:Hp)(Q:VK)(E:XK):Prop
 |mk (rl:Addr) (row:List Int) (at_ facts:Nat):vs=[.ref rl,nv at_,nv facts]->SqL K H rl (ivs row)->(Rdg.bP facts (row.drop at_)=none->∀H',aw H H'->Q .non H')->(∀k n t,Rdg.bP facts (row.drop at_)=some ((k,n),t)->∀a H',aw H H'->H a=none->cX D H' a ⟨k,n,0,0⟩->Q (.ref a) H')->pG K D vs H Q E
abbrev xy:Stmt:=top 20
theorem pM:aF ["row","at","facts","kind","most"] ["row","at","facts"] (az xy):=⟨rfl,rfl,rfl,by decide +kernel,rfl,by decide +kernel,by decide +kernel⟩
theorem yF{f:Addr}{fd:FuncData}(F:Fun K "read_part" "read_part" xy f fd)(T:Txt K mg D)(lj:Fn P w K mg base "has_number" 1 ["kind"] (rN [1,9]))(GU:Mc P w K mg base "Part" D.part 1 ["self","kind","number"] (pI D)):
  bw P w K mg base CX0 3 f fd ["row","at","facts"] (pG K D):=by
 refine F.ok pM (λvs H Q E h=>?_) (λcdv A outer s H vs Q E hr h=>?_)
 ·obtain⟨rl,row,at_,facts,rfl,_⟩:=h;rfl
 obtain⟨rl,row,at_,facts,rfl,sq,q1,q2⟩:=h;refine⟨_,(ae (aW (PW.pt (vi (aH IC (pv 1) (aP aC rfl T.len NO (aa (pv 0) ag)) (aU _)) (pQ (eH (dg fB fB (a9 T.HR) (aS aE (pv 0) (pv 1) (λ_ _=>rfl)) (a9 T.uA)))))) (ai (aA jv)) aD)
   (ae (aG (i:=3) pM.nd rfl (Or.inl rfl) (aS aE (pv 0) (pv 1) (λ_ _=>rfl)))
   (ae (aW (eH (ju (bQ lj hr (aa (pv 3) ag)))) (ai (aA (jG GU hr (aa (pv 3) (aa ao ag))))) aD)
   (ae (aG (i:=4) pM.nd rfl (Or.inl rfl) (eP (aH bH (pv 3) (a9 T.DC) (aU _)) (aI dh (pv 2) ao) (a9 T.y6)))
   (ae (aW (PW.pt (vi (aH IC (aI fJ (pv 1) ao) (aP aC rfl T.len NO (aa (pv 0) ag)) (aU _)) (pQ (eH (dg fB fB ao (aS aE (pv 0) (aI fJ (pv 1) ao) (λ_ _=>rfl)) (pv 4)))))) (ai (aA jv)) aD)
   (ai (aA (jG GU hr (aa (pv 3) (aa (aS aE (pv 0) (aI fJ (pv 1) ao) (λ_ _=>rfl)) ag)))))))))),?_⟩
 refine⟨_,rfl,_,rfl,rl,_,rfl,.inl sq,_,_,rfl,rfl,_,rfl,?_⟩;refine bD (λc=>?_) (λc=>?_)
 ·have c:(((ivs row).length:Nat):Int)<=(at_:Int):=NG c;rw[Nf]at c;refine cp (q1 ?_ _ (aw.refl _));rw[O2 (by omega)];rfl
 have c:¬(((ivs row).length:Nat):Int)<=(at_:Int):=λz=>c (NA z);rw[Nf]at c;have hat:at_<row.length:=by omega
 obtain⟨k,hk⟩:∃k,row[at_]?=some k:=⟨_,Ng hat⟩;have hd:row.drop at_=k::row.drop (at_+1):=by
  rw[Od hat,(Nh.mp hk).2]
 rw[hd]at q1 q2;refine⟨_,rfl,_,rfl,rl,_,_,_,rfl,rfl,sq,ot hk,_,_,rfl,rfl,_,rfl,?_⟩;have bad:¬(0<=k/\k<=9)->Rdg.bP facts (k::row.drop (at_+1))=none:=λz=>by simp only[Rdg.bP];rw[Nt z]
 refine bD (λc0=>⟨_,_,rfl,rfl,_,rfl,?_⟩) (λc0=>⟨_,rfl,?_⟩)
 rotate_left
 ·refine cp (q1 (bad λz=>c0 (NA z.1)) _ (aw.refl _))
 have c0:(0:Int)<=k:=NG c0;by_cases c9:k<=9
 rotate_left
 ·rw[NL c9];exact cp (q1 (bad λz=>c9 z.2) _ (aw.refl _))
 rw[NA c9];refine l4 ?_;obtain⟨kn,rfl⟩:∃kn:Nat,k=(kn:Int):=⟨k.toNat,by omega⟩;refine⟨_,rfl,_,rfl,rl,_,_,_,rfl,rfl,sq,ot hk,?_⟩;refine⟨_,rfl,_,rfl,λH1 s1=>⟨_,rfl,?_⟩⟩;rw[vS];cases hn:Rdg.hasNum kn with
 |false=>
  refine cp ?_;refine⟨_,rfl,?_⟩;intro x dx nx ndx nxd;refine⟨x,dx,kn,0,rfl,af,λH2 f2 k2=>⟨rfl,?_⟩⟩;have nxH:H x=none:=s1.free nx;refine q2 kn 0 (row.drop (at_+1)) ?_ x H2 (λb o e=>k2 _ _ (by rw[aB (ax e nxH),aB (ax (s1 _ _ e) ndx)];exact s1 _ _ e) (ax e nxH)) nxH f2;simp only[Rdg.bP];rw[Nz (show 0<=(kn:Int)/\(kn:Int)<=9 from⟨c0,c9⟩),Nw,Nz hn]
 |true=>
  refine l4 ?_;have most:∀(Qm:V->Hp->Prop),Qm (.int (if(kn:Int)=1 then(facts:Int)-1 else 20)) H1->tIf (C1 (tOp rEq (wG 3) (tC (.int 1)))) (tOp (rI0 λi j=>.int (i-j)) (wG 2) (tC (.int 1))) (tC (.int 20)) [some (.ref rl),some (nv at_),some (nv facts),some (.int (kn:Int)),none] H1 Qm:=λQm z=>by
   refine⟨_,rfl,rfl,_,rfl,?_⟩;refine bD (λc=>?_) (λc=>?_)
   ·rw[Nz (eqI.mp c)]at z;exact⟨_,rfl,_,_,rfl,rfl,z⟩
   ·rw[Nt (λy=>c (eqI.mpr y))]at z;exact z
  refine most _ ?_;refine⟨_,rfl,_,_,rfl,rfl,_,rfl,rl,_,rfl,.inl (s1.seq sq),_,_,rfl,rfl,_,rfl,?_⟩;refine bD (λc=>?_) (λc=>?_)
  ·have c:(((ivs row).length:Nat):Int)<=(at_:Int)+1:=NG c;rw[Nf]at c;refine cp (q1 ?_ _ s1);rw[O2 (by omega)];simp only[Rdg.bP];rw[Nz (show 0<=(kn:Int)/\(kn:Int)<=9 from⟨c0,c9⟩),Nw,Nt (show ¬Rdg.hasNum kn=false by rw[hn];decide)]
  have c:¬(((ivs row).length:Nat):Int)<=(at_:Int)+1:=λz=>c (NA z);rw[Nf]at c;have Cs:at_+1<row.length:=by omega
  obtain⟨i,hi⟩:∃i,row[at_+1]?=some i:=⟨_,Ng Cs⟩;have hd1:row.drop (at_+1)=i::row.drop (at_+2):=by
   rw[Od Cs,(Nh.mp hi).2]
  rw[hd1]at q1 q2;have rp:Rdg.bP facts ((kn:Int)::i::row.drop (at_+2))=if 0<=i/\i<=(if(kn:Int)=1 then(facts:Int)-1 else 20)then some ((kn,i.toNat),row.drop (at_+2))else none:=by
   simp only[Rdg.bP];rw[Nz (show 0<=(kn:Int)/\(kn:Int)<=9 from⟨c0,c9⟩),Nw,Nt (show ¬Rdg.hasNum kn=false by rw[hn];decide)]
  have at1:atI (ivs row) ((at_:Int)+1)=some (.int i):=ot (i:=at_+1) hi;refine⟨_,rfl,_,rfl,_,_,rfl,rfl,rl,_,_,_,rfl,rfl,s1.seq sq,at1,_,_,rfl,rfl,_,rfl,?_⟩;refine bD (λd0=>⟨_,rfl,_,_,rfl,rfl,_,rfl,?_⟩) (λd0=>⟨_,rfl,?_⟩)
  rotate_left
  ·exact cp (q1 (by rw[rp,Nt λz=>d0 (NA z.1)]) _ s1)
  have d0:(0:Int)<=i:=NG d0;by_cases d9:i<=(if(kn:Int)=1 then(facts:Int)-1 else 20)
  rotate_left
  ·rw[NL d9];exact cp (q1 (by rw[rp,Nt λz=>d9 z.2]) _ s1)
  rw[NA d9];refine l4 ?_;obtain⟨m,rfl⟩:∃m:Nat,i=(m:Int):=⟨i.toNat,by omega⟩;refine⟨_,rfl,_,rfl,_,rfl,_,_,rfl,rfl,rl,_,_,_,rfl,rfl,s1.seq sq,at1,?_⟩;intro x dx nx ndx nxd;refine⟨x,dx,kn,m,rfl,af,λH2 f2 k2=>⟨rfl,?_⟩⟩;have nxH:H x=none:=s1.free nx;refine q2 kn m (row.drop (at_+2)) (by rw[rp,Nz ⟨d0,d9⟩,Nw]) x H2 (λb o e=>k2 _ _ (by rw[aB (ax e nxH),aB (ax (s1 _ _ e) ndx)];exact s1 _ _ e) (ax e nxH)) nxH f2
end
end Sc
namespace L2
open PySem PySem.Spec PyProof.Rows
theorem xD{X:Cx}{x:Str}{a:Addr}{pos:Pos}(h:X.mg x=some (.ref a))(hg:Gl X x:=by rfl)(hd:(x==("__debug__":Str))=false:=by decide):PE X (.Name x pos) (tC (.ref a)):=Df hg h rfl hd
end L2
namespace Sc
open PySem PySem.Spec PyProof.Rows L2 NK
open Mir (Pt B1 dz eF)
theorem wK{facts:Nat}{row t:List Int}{at_ k n:Nat}(h:Rdg.bP facts (row.drop at_)=some ((k,n),t)):k<=9/\at_+(if Rdg.hasNum k=true then 2 else 1)<=row.length/\t=row.drop (at_+(if Rdg.hasNum k=true then 2 else 1)):=by
 have hat:at_<row.length:=by
  by_cases q:at_<row.length
  ·exact q
  ·rw[O2 (by omega)]at h;cases h
 rw[Od hat]at h;simp only[Rdg.bP]at h;split at h
 ·rename_i c
  split at h
  ·rename_i hn
   cases h;exact⟨by omega,by rw[Nt (by rw[hn];decide)];omega,by rw[Nt (by rw[hn];decide)]⟩
  ·rename_i hn
   have hn:Rdg.hasNum (row[at_]).toNat=true:=by simpa using hn
   by_cases Cs:at_+1<row.length
   ·rw[Od Cs]at h;simp only at h;by_cases c2:0<=row[at_+1]/\row[at_+1]<=(if row[at_]=1 then(facts:Int)-1 else 20)
    ·rw[Nz c2]at h;have e1:=Nm h;have e2:=(Prod.mk.inj e1).1;have e3:=(Prod.mk.inj e1).2;have e4:=(Prod.mk.inj e2).1;subst e4;rw[hn,Nz rfl];exact⟨by omega,by omega,e3.symm⟩
    ·rw[Nt c2]at h;cases h
   ·rw[O2 (by omega)]at h;cases h
 ·cases h
section
variable{P:Program}{w:World}{K:Rt}{mg:Ru}{base:Heap}{D:Ad}
structure rD(D:Ad)(H H':Hp)(l:Addr)(as:List Addr)(ks:List (Nat×Nat)):Prop where
 lst:H' l=some (.lst (as.map V.ref))
 new:H l=none
 fr:∀a∈as,H a=none
 nd:as.Nodup
 pt:Paired (λ(kn:Nat×Nat) a=>cX D H' a ⟨kn.1,kn.2,0,0⟩) ks as
inductive mw(K:Rt)(D:Ad)(vs:List V)(H:Hp)(Q:VK)(E:XK):Prop
 |mk (rl:Addr) (row:List Int) (facts:Nat):vs=[.ref rl,nv facts]->SqL K H rl (ivs row)->(Rdg.scan facts 14 0 1 row=none->∀H',aw H H'->Q .non H')->(∀ks,Rdg.scan facts 14 0 1 row=some ks->∀l as H',aw H H'->rD D H H' l as ks->Q (.ref l) H')->mw K D vs H Q E
abbrev vb:Stmt:=top 19
theorem dN:aF ["row","facts","parts","at","wanted","part"] ["row","facts"] (az vb):=⟨rfl,rfl,rfl,by decide +kernel,rfl,by decide +kernel,by decide +kernel⟩
theorem wO{f:Addr}{fd:FuncData}(F:Fun K "read_parts" "read_parts" vb f fd)(T:Txt K mg D)(Bz:Fn P w K mg base "read_part" 3 ["row","at","facts"] (pG K D))(lj:Fn P w K mg base "has_number" 1 ["kind"] (rN [1,9])):
  bw P w K mg base CX0 4 f fd ["row","facts"] (mw K D):=by
 refine F.ok dN (λvs H Q E h=>?_) (λcdv A outer s H vs Q E hr h=>?_)
 ·obtain⟨rl,row,facts,rfl,_⟩:=h;rfl
 obtain⟨rl,row,facts,rfl,sq,q1,q2⟩:=h;refine⟨_,(ae (aG (i:=2) dN.nd rfl (Or.inl rfl) (aV ag))
    (ae (aG (i:=3) dN.nd rfl (Or.inl rfl) ao)
    (ae (aG (i:=4) dN.nd rfl (Or.inl rfl) ao)
    (ae (qG NU (aH oY (pv 4) ao (aU _)) (ae (aG (i:=5) dN.nd rfl (Or.inl rfl) (bQ Bz hr (aa (pv 0) (aa (pv 3) (aa (pv 1) ag)))))
    (ae (aW (PW.pt (vi (fH (kr (pv 5))) (pQ (aH bH (aP aC rfl T.len NO (aa (pv 2) ag)) (a9 T.Ba) (aU _))))) (ai (aA jv)) aD)
    (ae (b6 (lK NY Oe Of dD (pv 2) (aa (pv 5) ag)))
    (ae (pR (i:=4) dN.nd rfl (Or.inl rfl) (aI dh (aS eI (xD T.eR) (au (pv 5) rfl) (λ_ _=>rfl)) ao) uz)
    (ai (pR (i:=3) dN.nd rfl (Or.inl rfl) (eP (ju (bQ lj hr (aa (au (pv 5) rfl) ag))) ao ao) uz)))))))
    (ai (aA (eP (aH bH (pv 3) (aP aC rfl T.len NO (aa (pv 0) ag)) (aU _)) (pv 2) jv))))))),?_⟩
 refine⟨NT _,λl hl=>?_⟩;have s0:aw H (upd H l (.lst [])):=ak hl _;refine⟨λm σ H'=>∃(at_ wanted:Nat) (v:Option V) (as:List Addr) (ks:List (Nat×Nat)),σ=[some (.ref rl),some (nv facts),some (.ref l),some (nv at_),some (nv wanted),v]/\aw H H'/\rD D H H' l as ks/\ks.length+m=13/\ks.length<=12/\at_<=row.length/\
    Rdg.scan facts 14 0 1 row=(Rdg.scan facts (14-ks.length) ks.length wanted (row.drop at_)).map (ks++·),⟨13,0,1,none,[],[],rfl,s0,⟨af,hl,(λa z=>by cases z),List.nodup_nil,.nil⟩,rfl,NT _,NT _,?_⟩,?_⟩
 ·show _=Option.map (λx=>[]++x) (Rdg.scan facts 14 0 1 row);cases Rdg.scan facts 14 0 1 row<;>rfl
 rintro m σ H1 ⟨at_,wanted,v,as,ks,rfl,s1,np,km,k12,al,sc⟩;have hal:as.length=ks.length:=(Oa np.pt).symm;obtain⟨fu,hfu⟩:∃fu,14-ks.length=fu+1:=⟨13-ks.length,by omega⟩;rw[hfu]at sc;refine⟨_,rfl,_,_,rfl,rfl,_,rfl,?_⟩;refine bD (λc=>?_) (λc=>?_)
 ·have c:(0:Int)<(wanted:Int):=NG c;obtain⟨wn,rfl⟩:∃wn,wanted=wn+1:=⟨wanted-1,by omega⟩;refine⟨λσ' H'=>∃m',m'<m/\∃(at_ wanted:Nat) (v:Option V) (as:List Addr) (ks:List (Nat×Nat)),σ'=[some (.ref rl),some (nv facts),some (.ref l),some (nv at_),some (nv wanted),v]/\aw H H'/\rD D H H' l as ks/\ks.length+m'=13/\ks.length<=12/\at_<=row.length/\
    Rdg.scan facts 14 0 1 row=(Rdg.scan facts (14-ks.length) ks.length wanted (row.drop at_)).map (ks++·),λ_ _ z=>z,?_⟩
  refine⟨_,rfl,_,rfl,_,rfl,rl,row,at_,facts,rfl,s1.seq sq,λe H2 s2=>?_,λk n t e a H2 s2 na pa=>?_⟩
  ·
    refine⟨_,rfl,_,rfl,?_⟩;refine bD (λ_=>cp (q1 ?_ _ (s1.trans s2))) (λc=>absurd (NA rfl) c);rw[sc];simp only[Rdg.scan,e];rfl
  · obtain⟨k9,le,et⟩:=wK e;refine⟨_,rfl,_,rfl,?_⟩;refine bD (λc=>absurd (NG c) (by intro z;cases z)) (λ_=>?_);have ll:=s2 _ _ np.lst;refine⟨_,rfl,l,_,rfl,.inl (SqL.of ll),rfl,_,rfl,?_⟩;have Lx:((as.map V.ref).length:Int)=(ks.length:Int):=by rw[Nf,hal]
    refine bD (λc=>?_) (λc=>?_)
    ·have c:=eqI.mp c;rw[Lx]at c;refine q1 ?_ _ (s1.trans s2);rw[sc];simp only[Rdg.scan,e];rw[Nz (by omega)];rfl
    ·have c:¬((as.map V.ref).length:Int)=12:=λz=>c (eqI.mpr z);rw[Lx]at c;refine⟨_,rfl,.inl ⟨rfl,_,SqL.of ll⟩,_,rfl,l,_,_,rfl,rfl,ll,(by rw[Nf,hal];exact bx (by omega)),?_⟩;have nal:a≠l:=λz=>by rw[z]at na;rw[np.lst]at na;cases na
     have kl:Kp (·=l) H2 (upd H2 l (.lst (as.map V.ref++[V.ref a]))):=aJ;obtain⟨dx,ha⟩:=pa;have ha2:=kl _ _ ha nal;have ic:atI ([0,0,1,2,2,1,2,1,2,1].map nv) ((k:Nat):Int)=some (nv (Rdg.inner k)):=bT (h:=[0,0,1,2,2,1,2,1,2,1]) (by show k<10;omega);refine⟨_,rfl,_,rfl,a,D.part,dx,_,_,rfl,ha2,T.aN,T.bq,rfl,D.ic,_,_,_,rfl,rfl,T.tIC _,ic,_,_,rfl,rfl,_,_,rfl,rfl,?_⟩;refine⟨_,rfl,_,rfl,a,D.part,dx,_,_,rfl,ha2,T.aN,T.bq,rfl,_,rfl,λH3 s3=>⟨_,rfl,?_⟩⟩;rw[vS];have fin:∀st:Nat,st=(if Rdg.hasNum k=true then 2 else 1)->∃m',m'<m/\∃(J9 CW:Nat) (v:Option V) (as:List Addr) (ks:List (Nat×Nat)),[some (.ref rl),some (nv facts),some (.ref l),some (V.int ((at_:Int)+(st:Int))),some (V.int (((wn+1:Nat):Int)+(((Rdg.inner k:Nat):Int)-1))),some (V.ref a)]=[some (.ref rl),some (nv facts),some (.ref l),some (nv J9),some (nv CW),v]/\aw H H3/\rD D H H3 l as ks/\ks.length+m'=13/\ks.length<=12/\J9<=row.length/\
       Rdg.scan facts 14 0 1 row=(Rdg.scan facts (14-ks.length) ks.length CW (row.drop J9)).map (ks++·):=λst est=>by
      refine⟨m-1,by omega,at_+st,wn+Rdg.inner k,some (V.ref a),as++[a],ks++[(k,n)],?_,?_,⟨?_,np.new,?_,?_,?_⟩,?_,?_,?_,?_⟩
      ·have e1:(at_:Int)+(st:Int)=((at_+st:Nat):Int):=by omega
       have e2:((wn+1:Nat):Int)+(((Rdg.inner k:Nat):Int)-1)=((wn+Rdg.inner k:Nat):Int):=by omega
       rw[e1,e2]
      ·exact λb o eb=>s3 _ _ (kl _ _ (s2 _ _ (s1 _ _ eb)) (ax eb np.new))
      ·rw[s3 _ _ af,NS];rfl
      ·intro b hb;rcases Np.mp hb with z|z
       ·exact np.fr b z
       ·rw[Nu.mp z];exact s1.free na
      ·refine yM np.nd λhm=>?_;obtain⟨j,hj⟩:=QJ.mp hm;obtain⟨kn,hkn⟩:∃kn,ks[j]?=some kn:=⟨_,Ng (by rw[<-hal];exact(Nh.mp hj).1)⟩;obtain⟨b,hb,dx2,hb2⟩:=dv np.pt hkn;rw[hj]at hb;cases hb;rw[na]at hb2;cases hb2
      ·refine Qg (Paired.qS np.pt λkn b ⟨dx2,z⟩=>⟨dx2,s3 _ _ (kl _ _ (s2 _ _ z) (bJ z np.lst (by intro y;cases y)))⟩) ⟨dx,s3 _ _ ha2⟩
      ·rw[Nk,Ny];omega
      ·rw[Nk,Ny];omega
      ·rw[est];exact le
      ·rw[sc,est,<-et];simp only[Rdg.scan,e];rw[Nt (by omega),Nk,Ny,show 14-(ks.length+1)=fu by omega,Option.map_map];congr 1;funext z;show ks++((k,n)::z)=ks++[(k,n)]++z;rw[NV];rfl
     cases hn:Rdg.hasNum k with
     |true=>exact cp ⟨_,_,rfl,rfl,fin 2 (by rw[hn];rfl)⟩
     |false=>exact l4 ⟨_,_,rfl,rfl,fin 1 (by rw[hn];rfl)⟩
 ·have c:¬(0:Int)<(wanted:Int):=λz=>c (NA z);obtain rfl:wanted=0:=by omega
  rw[show Rdg.scan facts (fu+1) ks.length 0 (row.drop at_)=(if row.drop at_=[]then some []else none)from rfl]at sc;refine⟨_,rfl,_,rfl,rl,_,rfl,.inl (s1.seq sq),rfl,_,rfl,?_⟩;refine bD (λc=>?_) (λc=>?_)
  · have c:=eqI.mp c;rw[Nf]at c;rw[Nz (O2 (by omega))]at sc;refine⟨_,rfl,q2 ks ?_ l as _ s1 np⟩;rw[sc];show some (ks++[])=some ks;rw[NX]
  · have c:¬(at_:Int)=((ivs row).length:Int):=λz=>c (eqI.mpr z);rw[Nf]at c;rw[Nt (λz=>by have:=List.drop_eq_nil_iff.mp z;omega)]at sc;exact q1 sc _ s1
end
end Sc
namespace Rdg
open Vbtaak Vbs Mir
def JoinOk(ks:List (Nat×Nat)):Prop:=∀(i:Nat)(kn:Nat×Nat),ks[i]?=some kn->inner kn.1<=(joinR (i+1) (ks.drop (i+1))).2.length
theorem AY:∀(gs:List F)(o:Nat),(∀g∈gs,∃facts,wf facts g=true)->(joinR o (gs.flatMap pre)).2.length=gs.length
 |[],_,_=>rfl
 |g::gs,o,h=>by
  rw[N5,xN g o _ (h g NB)];show(joinR (o+size g) (gs.flatMap pre)).2.length+1=gs.length+1;rw[AY gs _ λx hx=>h x (Nn _ hx)]
theorem Af{facts:Nat}{g:F}(h:wf facts g=true):∃(kn:Nat×Nat) (as:List F),pre g=kn::as.flatMap pre/\as.length=inner kn.1/\∀a∈as,wf facts a=true:=by
 cases g with
 |yes=>exact⟨(0,0),[],rfl,rfl,by simp⟩
 |fact i=>exact⟨(1,i),[],rfl,rfl,by simp⟩
 |not a=>exact⟨(2,0),[a],by simp[pre],rfl,by simpa [wf]using h⟩
 |and a b=>exact⟨(3,0),[a,b],by simp[pre],rfl,by simpa [wf]using h⟩
 |or a b=>exact⟨(4,0),[a,b],by simp[pre],rfl,by simpa [wf]using h⟩
 |before a=>exact⟨(5,0),[a],by simp[pre],rfl,by simpa [wf]using h⟩
 |since a b=>exact⟨(6,0),[a,b],by simp[pre],rfl,by simpa [wf]using h⟩
 |next a=>exact⟨(7,0),[a],by simp[pre],rfl,by simpa [wf]using h⟩
 |«until» a b=>exact⟨(8,0),[a,b],by simp[pre],rfl,by simpa [wf]using h⟩
 |within n a=>exact⟨(9,n),[a],by simp[pre],rfl,by simp[wf]at h ⊢;exact h.2⟩
 |turn=>simp[wf]at h
theorem tH{facts:Nat}:∀(i:Nat)(gs:List F),(∀g∈gs,wf facts g=true)->∃hs:List F,(gs.flatMap pre).drop i=hs.flatMap pre/\∀g∈hs,wf facts g=true
 |0,gs,h=>⟨gs,by rw[List.drop_zero],h⟩
 |i+1,[],_=>⟨[],by simp,by simp⟩
 |i+1,g::gs,h=>by
  obtain⟨kn,as,e,_,ha⟩:=Af (h g NB);have e2:((g::gs).flatMap pre).drop (i+1)=((as++gs).flatMap pre).drop i:=by
   rw[N5,e,Pa,List.drop_succ_cons,Ov]
  rw[e2];exact tH i (as++gs) λx hx=>(Np.mp hx).elim (ha x) λz=>h x (Nn _ z)
theorem HI{facts:Nat}{f:F}(h:wf facts f=true):JoinOk (pre f):=λi kn hk=>by
 obtain⟨hs,e,hw⟩:=tH (facts:=facts) i [f] (by simpa using h);rw[N5,Ro,NX]at e;have hi:i<(pre f).length:=(Nh.mp hk).1;have e1:(pre f).drop i=kn::(pre f).drop (i+1):=by rw[Od hi,(Nh.mp hk).2]
 cases hs with
 |nil=>rw[e1]at e;simp at e
 |cons g gs=>
  obtain⟨kn2,as,e2,al,ha⟩:=Af (hw g NB);rw[N5,e2,e1,Pa,<-Ov]at e;have e3:=(List.cons.inj e).1;have e4:=(List.cons.inj e).2;rw[e4,AY _ _ (λx hx=>⟨facts,(Np.mp hx).elim (ha x) λz=>hw x (Nn _ z)⟩),Nk,e3,al];omega
theorem qW(ks:List (Nat×Nat)):∀o,(joinR o ks).1.length=ks.length:=by
 induction ks with
 |nil=>intro o;rfl
 |cons kn ks ih=>intro o;rw[ck];show(joinR (o+1) ks).1.length+1=_;rw[ih];rfl
theorem F6(ks:List (Nat×Nat)):∀o,(joinR o ks).2.length<=ks.length:=by
 induction ks with
 |nil=>intro o;exact Nq _
 |cons kn ks ih=>
  intro o;rw[ck];show((joinR (o+1) ks).2.drop (inner kn.1)).length+1<=ks.length+1;rw[O1];have:=ih (o+1);omega
end Rdg
namespace Sc
open PySem PySem.Spec PyProof.Rows L2 NK
open Mir (Pt B1 dz eF)
section
variable{P:Program}{w:World}{K:Rt}{mg:Ru}{base:Heap}{D:Ad}
def raw(kn:Nat×Nat):Pt:=⟨kn.1,kn.2,0,0⟩
def joined(ks:List (Nat×Nat))(i:Nat):List Pt:=(ks.take i).map raw++(Rdg.joinR i (ks.drop i)).1
variable{i:Nat}
theorem Cq(ks:List (Nat×Nat))(h:i<=ks.length):(joined ks i).length=ks.length:=by
 unfold joined;rw[Nk,Nf,N2,Rdg.qW,O1];omega
variable{ks:List (Nat×Nat)}{kn:Nat×Nat}
theorem EB(h:ks[i]?=some kn):(joined ks (i+1))[i]?=some (raw kn):=by
 unfold joined;have hi:i<ks.length:=(Nh.mp h).1;rw[NJ (by rw[Nf,N2];omega),NC,O8 (by omega),h];rfl
theorem AX(h:ks[i]?=some kn):
  joined ks i=(joined ks (i+1)).set i ⟨kn.1,kn.2,if 0<Rdg.inner kn.1 then(Rdg.joinR (i+1) (ks.drop (i+1))).2.getD 0 0 else 0,if 1<Rdg.inner kn.1 then(Rdg.joinR (i+1) (ks.drop (i+1))).2.getD 1 0 else 0⟩/\
  (Rdg.joinR i (ks.drop i)).2=i::(Rdg.joinR (i+1) (ks.drop (i+1))).2.drop (Rdg.inner kn.1):=by
 have hi:i<ks.length:=(Nh.mp h).1;have e1:ks.drop i=kn::ks.drop (i+1):=by rw[Od hi,(Nh.mp h).2]
 have e2:ks.take (i+1)=ks.take i++[kn]:=by rw[OG,h];rfl
 have e3:((ks.take i).map raw).length=i:=by rw[Nf,N2];omega
 constructor
 ·unfold joined;rw[e1,Rdg.ck,e2,NS,NV,List.set_append_right _ _ (by omega),e3,OF];rfl
 ·rw[e1,Rdg.ck]
inductive BP(D:Ad)(vs:List V)(H:Hp)(Q:VK)(E:XK):Prop
 |mk (l:Addr) (as:List Addr) (ks:List (Nat×Nat)):vs=[.ref l]->H l=some (.lst (as.map V.ref))->as.Nodup->Paired (λ(kn:Nat×Nat) (a:Addr)=>cX D H a (raw kn)) ks as->ks.length<=12->(∀kn∈ks,kn.1<=9)->Rdg.JoinOk ks->(∀H',Kp (·∈as) H H'->Paired (λp a=>cX D H' a p) (Rdg.joinR 0 ks).1 as->Q .non H')->BP D vs H Q E
abbrev vd:Stmt:=top 21
theorem i':aF ["parts","not_taken","i","part"] ["parts"] (az vd):=⟨rfl,rfl,rfl,by decide +kernel,rfl,by decide +kernel,by decide +kernel⟩
theorem AW{x:Nat}{t:List Nat}:(nvs (x::t).reverse)[(nvs (x::t).reverse).length-1]?=some (nv x)/\(nvs (x::t).reverse).dropLast=nvs t.reverse:=by
 rw[QA,kD];constructor
 ·rw[Nk,NM (by show _<=_+1-1;omega)];show([nv x]:List V)[(nvs t.reverse).length+1-1-(nvs t.reverse).length]?=_;rw[Pr,OF];rfl
 ·show(nvs t.reverse++[nv x]).dropLast=_;rw[P']
theorem wU{f:Addr}{fd:FuncData}(F:Fun K "join_parts" "join_parts" vd f fd)(T:Txt K mg D):bw P w K mg base CX0 1 f fd ["parts"] (BP D):=by
 refine F.ok i' (λvs H Q E h=>?_) (λcdv A outer s H vs Q E hr h=>?_)
 ·obtain⟨l,as,ks,rfl,_⟩:=h;rfl
 obtain⟨l,as,ks,rfl,hl,nd,pt,k12,k9,jo,q⟩:=h;refine⟨_,(ae (aG (i:=1) i'.nd rfl (Or.inl rfl) (aV ag))
   (ai (cu NU rfl (fW rfl T.range (aa (aI dh (aP aC rfl T.len NO (aa (pv 0) ag)) ao) (aa (gS eG ao) (aa (gS eG ao) ag)))) (aL (i:=2) i'.nd rfl (Or.inl rfl)) (ae (aG (i:=3) i'.nd rfl (Or.inl rfl) (aS aE (pv 0) (pv 2) (λ_ _=>rfl)))
   (ae (aW (aH oY (aS eI (xD T.eR) (au (pv 3) rfl) (λ_ _=>rfl)) ao (aU _)) (ai (bb (pv 3) (B3 NY PySem.F.slot_list_pop PySem.F.type_list_pop FP (pv 1)) rfl)) aD)
   (ae (aW (aH oY (aS eI (xD T.eR) (au (pv 3) rfl) (λ_ _=>rfl)) ao (aU _)) (ai (bb (pv 3) (B3 NY PySem.F.slot_list_pop PySem.F.type_list_pop FP (pv 1)) rfl)) aD)
   (ai (b6 (lK NY Oe Of dD (pv 1) (aa (pv 2) ag)))))))))),?_⟩
 have al:as.length=ks.length:=(Oa pt).symm;refine⟨NT _,λr hr0=>?_⟩;have s0:aw H (upd H r (.lst [])):=ak hr0 _;have lA:∀a∈as,∃p,cX D H a p:=λa ha=>by
  obtain⟨j,hj⟩:=QJ.mp ha;obtain⟨kn,hkn⟩:∃kn,ks[j]?=some kn:=⟨_,Ng (by rw[<-al];exact(Nh.mp hj).1)⟩;obtain⟨b,hb,z⟩:=dv pt hkn;rw[hj]at hb;cases hb;exact⟨_,z⟩
 have nla:l∉as:=λz=>by
  obtain⟨p,dx,e⟩:=lA l z;rw[hl]at e;cases e
 have nra:r∉as:=λz=>by
  obtain⟨p,dx,e⟩:=lA r z;rw[hr0]at e;cases e
 have nlr:l≠r:=ax hl hr0;refine⟨_,rfl,l,_,rfl,.inl (SqL.of (s0 _ _ hl)),_,_,rfl,rfl,_,rfl,_,rfl,_,_,_,_,rfl,RgC.neg (by rw[Nf];omega) (by rw[Nf];omega) (by decide) (by decide),?_⟩;have en:(((as.map V.ref).length:Int)-1-(-1)).toNat=ks.length:=by rw[Nf];omega
 rw[en];refine fY (n:=ks.length) (λm σ H'=>(∃v1 v2:Option V,σ=[some (.ref l),some (.ref r),v1,v2])/\Kp (·∈as) H H'/\H' l=some (.lst (as.map V.ref))/\H' r=some (.lst (nvs (Rdg.joinR (ks.length-m) (ks.drop (ks.length-m))).2.reverse))/\
   ∀(j:Nat)(p:Pt)(a:Addr),(joined ks (ks.length-m))[j]?=some p->as[j]?=some a->cX D H' a p) ⟨⟨none,none,rfl⟩,aw.kp s0,s0 _ _ hl,?_,?_⟩ ?_ ?_
 ·rw[af,Nat.sub_zero,List.drop_length];rfl
 ·intro j p a h1 h2;rw[Nat.sub_zero]at h1;unfold joined at h1;rw[List.drop_length,Oj]at h1;have h1:(ks.map raw)[j]?=some p:=by simpa [Rdg.joinR]using h1
  rw[NC]at h1;cases e:ks[j]? with
  |none=>rw[e]at h1;cases h1
  |some kn=>
   rw[e]at h1;cases h1;obtain⟨b,hb,dx,z⟩:=dv pt e;rw[h2]at hb;cases hb;exact⟨dx,s0 _ _ z⟩
 ·rintro m σ H1 hm ⟨⟨v1,v2,rfl⟩,k1,l1,r1,p1⟩;obtain⟨i,hi⟩:∃i,ks.length-m=i+1:=⟨ks.length-m-1,by omega⟩;have hi2:ks.length-(m+1)=i:=by omega
  rw[hi]at r1 p1;rw[hi2];have ilt:i<ks.length:=by omega
  obtain⟨kn,hkn⟩:∃kn,ks[i]?=some kn:=⟨_,Ng ilt⟩;obtain⟨a,ha⟩:∃a,as[i]?=some a:=⟨_,Ng (by rw[al];exact ilt)⟩;have ham:a∈as:=Nr ha;obtain⟨dx,pa⟩:=p1 i _ a (EB hkn) ha;have kn9:=k9 kn (Nr hkn);have jl:=jo i kn hkn;obtain⟨st1,st2⟩:=AX hkn;have ei:((as.map V.ref).length:Int)-1+(m:Int)*(-1)=((i:Nat):Int):=by rw[Nf];omega
  have at_:atI (as.map V.ref) (((as.map V.ref).length:Int)-1+(m:Int)*(-1))=some (.ref a):=at_of ei (by rw[NC,ha];rfl);have ic:∀H5,∃z,SqT K H5 D.ic z/\atI z ((kn.1:Nat):Int)=some (nv (Rdg.inner kn.1)):=λH5=>⟨_,T.tIC H5,bT (h:=[0,0,1,2,2,1,2,1,2,1]) (by show kn.1<10;omega)⟩;have FE:r≠a:=λz=>nra (z▸ham);have Mh:l≠a:=λz=>nla (z▸ham);have jl2:(Rdg.joinR (i+1) (ks.drop (i+1))).2.length<=12:=by
   have:=Rdg.F6 (ks.drop (i+1)) (i+1);rw[O1]at this;omega
  generalize (Rdg.joinR (i+1) (ks.drop (i+1))).2=stk at r1 st1 st2 jl jl2;refine⟨_,rfl,_,rfl,l,_,_,_,rfl,rfl,SqL.of l1,at_,?_⟩;have fin:∀(H9:Hp)(p:Pt),p=⟨kn.1,kn.2,if 0<Rdg.inner kn.1 then stk.getD 0 0 else 0,if 1<Rdg.inner kn.1 then stk.getD 1 0 else 0⟩->H9 a=some (.ins D.part dx (ptF p))->H9 r=some (.lst (nvs (stk.drop (Rdg.inner kn.1)).reverse))->(∀b o,H1 b=some o->b≠a->b≠r->H9 b=some o)->
    Iu (tBM K "list" C9 (wG 1) (Iv (wG 2) D6)) {nx:=λσ H'=>(∃v1 v2:Option V,σ=[some (.ref l),some (.ref r),v1,v2])/\Kp (·∈as) H H'/\H' l=some (.lst (as.map V.ref))/\H' r=some (.lst (nvs (Rdg.joinR i (ks.drop i)).2.reverse))/\∀(j:Nat)(p:Pt)(a:Addr),(joined ks i)[j]?=some p->as[j]?=some a->cX D H' a p,rt:=Q} [some (.ref l),some (.ref r),some (V.int (((as.map V.ref).length:Int)-1+(m:Int)*(-1))),some (.ref a)] H9:=by
   intro H9 p ep h1 h2 h3;refine⟨_,rfl,.inl ⟨rfl,_,SqL.of h2⟩,_,rfl,r,_,_,rfl,rfl,h2,?_,⟨_,_,rfl⟩,?_,?_,?_,?_⟩
   ·have:(stk.drop (Rdg.inner kn.1)).reverse.length<=12:=by
     rw[Qh,O1];omega
    rw[Nf];exact bx (by omega)
   ·intro b o e hb;have nb:b≠a:=λz=>hb (z▸ham);by_cases hbr:b=r
    ·rw[hbr,hr0]at e;cases e
    ·rw[aB hbr];exact h3 _ _ (k1 _ _ e hb) nb hbr
   ·rw[aB nlr];exact h3 _ _ l1 Mh nlr
   ·rw[af,st2,QA,kD,ei];rfl
   ·intro j p2 b hj hb;rw[st1]at hj;by_cases hji:j=i
    ·subst hji;rw[ha]at hb;cases hb;rw[Oq (by rw[Cq _ (by omega)];exact ilt)]at hj;cases hj;exact⟨dx,by rw[aB (Ne.symm FE),h1,ep]⟩
    ·rw[Oy (λz=>hji z.symm)]at hj;obtain⟨dx2,z⟩:=p1 j p2 b hj hb;have nba:b≠a:=λy=>hji (KY nd hb (by rw[y];exact ha));have nbr:b≠r:=λy=>nra (y▸Nr hb);exact⟨dx2,by rw[aB nbr];exact h3 _ _ z nba nbr⟩
  obtain⟨z1,z2,z3⟩:=ic H1;refine⟨_,rfl,a,D.part,dx,_,_,rfl,pa,T.aN,T.bq,rfl,D.ic,z1,_,_,rfl,rfl,z2,z3,_,_,rfl,rfl,_,rfl,?_⟩;refine bD (λc=>?_) (λc=>?_)
  ·have c:(0:Int)<(Rdg.inner kn.1:Int):=NG c;cases stk with
   |nil=>exfalso;simp at jl;omega
   |cons x0 t0=>
    obtain⟨y1,y2⟩:=AW (x:=x0) (t:=t0);refine⟨_,rfl,.inl ⟨rfl,_,SqL.of r1⟩,r,_,_,rfl,rfl,r1,y1,_,rfl,a,D.part,dx,_,rfl,(by rw[aB (Ne.symm FE)];exact pa),T.aN,T.fh,(by show 4<1000;decide),?_⟩;rw[y2];obtain⟨z1,z2,z3⟩:=ic (upd (upd H1 r (.lst (nvs t0.reverse))) a (.ins D.part dx (df "first" (nv x0) (ptF (raw kn)))));refine⟨_,rfl,a,D.part,dx,_,_,rfl,af,T.aN,T.bq,rfl,D.ic,z1,_,_,rfl,rfl,z2,z3,_,_,rfl,rfl,_,rfl,?_⟩;have rr:(upd (upd H1 r (.lst (nvs t0.reverse))) a (.ins D.part dx (df "first" (nv x0) (ptF (raw kn))))) r=some (.lst (nvs t0.reverse)):=by rw[aB FE,af]
    refine bD (λc1=>?_) (λc1=>?_)
    ·have c1:(1:Int)<(Rdg.inner kn.1:Int):=NG c1;have i2:Rdg.inner kn.1<=2:=by
      unfold Rdg.inner;have:kn.1=0∨kn.1=1∨kn.1=2∨kn.1=3∨kn.1=4∨kn.1=5∨kn.1=6∨kn.1=7∨kn.1=8∨kn.1=9:=by omega
      rcases this with e|e|e|e|e|e|e|e|e|e<;>rw[e]<;>decide
     have i2:Rdg.inner kn.1=2:=by omega
     cases t0 with
     |nil=>exfalso;rw[i2]at jl;simp at jl
     |cons x1 t1=>
      obtain⟨y3,y4⟩:=AW (x:=x1) (t:=t1);refine⟨_,rfl,.inl ⟨rfl,_,SqL.of rr⟩,r,_,_,rfl,rfl,rr,y3,_,rfl,a,D.part,dx,_,rfl,(by rw[aB (Ne.symm FE)];exact af),T.aN,T.gu,(by show 4<1000;decide),?_⟩;rw[y4];refine fin _ ⟨kn.1,kn.2,x0,x1⟩ (by rw[i2];rfl) (by rw[af];rfl) (by rw[aB FE,af,i2];rfl) λb o e n1 n2=>by rw[aB n1,aB n2,aB n1,aB n2];exact e
    ·have c1:¬(1:Int)<(Rdg.inner kn.1:Int):=λz=>c1 (NA z);have i1:Rdg.inner kn.1=1:=by omega
     refine fin _ ⟨kn.1,kn.2,x0,0⟩ (by rw[i1];rfl) (by rw[af];rfl) (by rw[rr,i1];rfl) λb o e n1 n2=>by rw[aB n1,aB n2];exact e
  ·have c:¬(0:Int)<(Rdg.inner kn.1:Int):=λz=>c (NA z);have i0:Rdg.inner kn.1=0:=by omega
   refine⟨_,rfl,a,D.part,dx,_,_,rfl,pa,T.aN,T.bq,rfl,D.ic,z1,_,_,rfl,rfl,z2,z3,_,_,rfl,rfl,_,rfl,?_⟩;refine bD (λc1=>?_) (λc1=>?_)
   ·have c1:(1:Int)<(Rdg.inner kn.1:Int):=NG c1;omega
   ·exact fin H1 (raw kn) (by rw[i0];rfl) pa (by rw[r1,i0];rfl) λb o e _ _=>e
 ·rintro σ H1 ⟨⟨v1,v2,rfl⟩,k1,l1,r1,p1⟩;rw[OF]at p1;refine q _ k1 ?_;have e0:joined ks 0=(Rdg.joinR 0 ks).1:=by unfold joined;simp
  rw[e0]at p1;have pl:(Rdg.joinR 0 ks).1.length=as.length:=by rw[Rdg.qW,al]
  have all:∀(xs:List Pt)(bs:List Addr),xs.length=bs.length->(∀(j:Nat)(p:Pt)(a:Addr),xs[j]?=some p->bs[j]?=some a->cX D H1 a p)->Paired (λp a=>cX D H1 a p) xs bs:=by
   intro xs;induction xs with
   |nil=>intro bs hb _;cases bs with
    |nil=>exact .nil
    |cons _ _=>simp at hb
   |cons x xs ih=>intro bs hb h;cases bs with
    |nil=>simp at hb
    |cons b bs=>exact .cons (h 0 x b rfl rfl) (ih bs (by simpa using hb) λj p a h1 h2=>h (j+1) p a h1 h2)
  exact all _ _ pl p1
end
section
variable{X:Cx}
theorem fI{elt tg iter:Expr}{ifs:List Expr}{scope:Scope}{own:List (Str×Nat)}{pos:Pos}{wi:TI}{g':Shared->Hp->Addr->List (Str×Addr)->List Addr->TG}{tt':Shared->Hp->Addr->List (Str×Addr)->List Addr->TT}{te':Shared->Hp->Addr->List (Str×Addr)->List Addr->TE}{g:TG}{tt:TT}{te:TE}(hc:X.calm=true)(hN:X.N.Nodup)(hi:PI X tg iter wi)(ok:BB X.N X.env.scope scope own)
  (hg:∀(s:Shared)(H:Hp)(C:Addr)(cl:List (Str×Addr))(fp:List Addr),PG (X.blk s H scope (compEnvC scope cl C X.env) fp) tg (g' s H C cl fp))(ht:∀(s:Shared)(H:Hp)(C:Addr)(cl:List (Str×Addr))(fp:List Addr),PTs (X.blk s H scope (compEnvC scope cl C X.env) fp) ifs (tt' s H C cl fp))
  (he:∀(s:Shared)(H:Hp)(C:Addr)(cl:List (Str×Addr))(fp:List Addr),PE (X.blk s H scope (compEnvC scope cl C X.env) fp) elt (te' s H C cl fp))(hs:∀x,foldedSetIterable iter X.env x=pure x:=by intro _;rfl)
  (eg:∀s H C cl fp,g' s H C cl fp=g:=by intros;first|rfl|(dsimp only[Cx.blk,Cx.nox,zh]<;>rfl))(et:∀s H C cl fp,tt' s H C cl fp=tt:=by intros;first|rfl|(dsimp only[Cx.blk,Cx.nox,zh]<;>rfl))(ee:∀s H C cl fp,te' s H C cl fp=te:=by intros;first|rfl|(dsimp only[Cx.blk,Cx.nox,zh]<;>rfl)):
  PE X (.ListComp elt [⟨tg,iter,ifs,0⟩] scope pos) (tLc wi g tt te (own.map (·.2))):=
 KO hc hN hi ok (λs H C cl fp=>eg s H C cl fp▸hg s H C cl fp) (λs H C cl fp=>et s H C cl fp▸ht s H C cl fp) (λs H C cl fp=>ee s H C cl fp▸he s H C cl fp) hs
theorem lcT{σ:L2.St}{H:Hp}{A B:Hp->Prop}(h:A H):G1 σ H λb H3=>if b=true then A H3 else B H3:=cp (A:=A H) (B:=B H) h
theorem qX{A B:Prop}(h:A):if decide (V.non=V.non)=true then A else B:=by rw[Nz (NA rfl)];exact h
theorem qY{A B:Prop}{l:Addr}(h:B):if decide (V.ref l=V.non)=true then A else B:=by rw[Nt (λz=>by have:=NG z;cases this)];exact h
end
abbrev bvs(l:List Bool):List V:=l.map V.bl
theorem zk{h:List Bool}{i:Nat}(hi:i<h.length):atI (bvs h) ((i:Nat):Int)=some (.bl (h.getD i false)):=by
 refine bg ?_;rw[NC,Ng hi,Nj,Ng hi];rfl
theorem yr(h:List Bool)(i:Nat)(v:Bool):(bvs h).set i (.bl v)=bvs (h.set i v):=(List.map_set ..).symm
def tq(ps:List Pt):Bool:=(List.range ps.length).any λi=>(Rdg.marks ps i).getD i false&&Rdg.fwd ((ps.getD i ⟨0,0,0,0⟩).kind)
section
variable{P:Program}{w:World}{K:Rt}{mg:Ru}{base:Heap}{D:Ad}
inductive yk(K:Rt)(D:Ad)(vs:List V)(H:Hp)(Q:VK)(E:XK):Prop
 |mk (l:Addr) (ps:List Pt):vs=[.ref l]->bF K D H l ps->dz ps->(∀H',aw H H'->Q (.bl (tq ps)) H')->yk K D vs H Q E
abbrev eO:Stmt:=top 22
theorem bG:aF ["parts","in_the_past","i","part","inner_is"] ["parts"] (az eO):=⟨rfl,rfl,rfl,by decide +kernel,rfl,by decide +kernel,by decide +kernel⟩
def IH(K:Rt)(D:Ad)(c:Int)(x:Str):TS:=Ky (C1 (tOp (rI0 λi j=>.bl (decide (j<i))) (tOp (KD K) (tC (.ref D.ic)) (Ja K (wG 3) "kind")) (tC (.int c)))) (Jc (wG 4) (Ln (wG 1) (Ja K (wG 3) x) Iz)) Ir
theorem Cd{ps:List Pt}{m:Nat}{p:Pt}(hp:ps[m]?=some p):Rdg.marks ps (m+1)=Rdg.gf p ((Rdg.marks ps m).getD m false||Rdg.bck p.kind) (Rdg.marks ps m):=by
 conv=>lhs;unfold Rdg.marks
 rw[hp]
theorem GB{n:Nat}{g:Nat->Bool}:∀{m:Nat},m<n->g m=true->(List.range n).any g=true:=λ{m} h e=>Oi.mpr ⟨m,NW.mpr h,e⟩
variable{fd:FuncData}
theorem fX{f:Addr}(F:Fun K "looks_forward_from_the_past" "looks_forward_from_the_past" eO f fd)(T:Txt K mg D)(gO:Fn P w K mg base "looks_forward" 1 ["kind"] (rN [7,8,9]))(kZ:Fn P w K mg base "looks_back" 1 ["kind"] (rN [5,6])):
  bw P w K mg base CX0 2 f fd ["parts"] (yk K D):=by
 refine F.ok bG (λvs H Q E h=>?_) (λcdv A outer s H vs Q E hr h=>?_)
 ·obtain⟨l,ps,rfl,_⟩:=h;rfl
 obtain⟨l,ps,rfl,hp0,ok,q⟩:=h;refine⟨_,(ae (aG (i:=1) bG.nd rfl (Or.inl rfl) (aI kz (aV (aa Dg ag)) (aP aC rfl T.len NO (aa (pv 0) ag))))
   (ae (cu NU rfl (yu rfl T.enumerate (aa (pv 0) ag)) (gN rfl (bt (aL (i:=2) bG.nd rfl (Or.inl rfl)) (bt (aL (i:=3) bG.nd rfl (Or.inl rfl)) eZ))) (ae (aW (PW.pt (Jj (ju (aS aE (pv 1) (pv 2) (λ_ _=>rfl))) (Ha (ju (bQ gO hr (aa (au (pv 3) rfl) ag)))))) (ai (aA Dg)) aD)
   (ae (aG (i:=4) bG.nd rfl (Or.inl rfl) (KL (aS aE (pv 1) (pv 2) (λ_ _=>rfl)) (Jn (bQ kZ hr (aa (au (pv 3) rfl) ag)))))
   (ae (aW (aH oY (aS eI (xD T.eR) (au (pv 3) rfl) (λ_ _=>rfl)) ao (aU _)) (ai (iz (pv 4) (iA (pv 1) (au (pv 3) rfl) set_list))) aD)
   (ai (aW (aH oY (aS eI (xD T.eR) (au (pv 3) rfl) (λ_ _=>rfl)) ao (aU _)) (ai (iz (pv 4) (iA (pv 1) (au (pv 3) rfl) set_list))) aD))))))
   (ai (aA Dg)))),?_⟩
 obtain⟨xs,sq,xl,xat⟩:=hp0.at;refine⟨(by show 1<=sizeLine;decide),λz hz=>⟨_,rfl,l,_,rfl,.inl ((ak hz _).seq sq),z,_,_,rfl,rfl,af,(by show(-(2^63):Int)<=(xs.length:Int);omega),(by show(xs.length:Int)<2^63;have:=ok.few;omega),(by rw[Nw,xl];have:=ok.few;exact dZ (by rw[Ny];omega)),λr hr0=>?_⟩⟩;have sz:aw H (upd H z (.lst [.bl false])):=ak hz _;have hrH:H r=none:=sz.free hr0;have s1:aw H (upd (upd H z (.lst [.bl false])) r (.lst (List.replicate ((xs.length:Int)).toNat [V.bl false]).flatten)):=sz.trans (ak hr0 _);refine⟨_,rfl,l,xs,rfl,s1.seq sq,vY (K:=K) (a:=l) (xs:=xs) (λm σ H'=>(∃v1 v2 v3:Option V,σ=[some (.ref l),some (.ref r),v1,v2,v3])/\aw H H'/\H' r=some (.lst (bvs (Rdg.marks ps m)))/\∀i,i<m->((Rdg.marks ps i).getD i false&&Rdg.fwd ((ps.getD i ⟨0,0,0,0⟩).kind))=false)
  ⟨⟨none,none,none,rfl⟩,s1,?_,λi hi=>absurd hi (PZ _)⟩ (λi σ H' _ ⟨_,s2,_⟩=>s2.seq sq) ?_ ?_⟩
 ·rw[af,Nw,xl,uj];show _=some (HO.lst ((List.replicate ps.length false).map V.bl));rw[List.map_replicate]
 ·rintro m x T0 σ H' hx ⟨⟨v1,v2,v3,rfl⟩,s2,e2,no⟩ hT;have hm:m<ps.length:=by rw[<-xl];exact(Nh.mp hx).1
  obtain⟨p,hp⟩:∃p,ps[m]?=some p:=⟨_,Ng hm⟩;obtain⟨a,ha,⟨dx,hpa⟩⟩:=xat _ p hp;have ex:x=.ref a:=Nm (hx.symm.trans ha);subst ex;have kL:p∈ps:=Nr hp;have gp:ps.getD m ⟨0,0,0,0⟩=p:=by rw[Nj,hp];rfl
  have s3:aw H (upd H' T0 (.tup [.int (m:Nat),.ref a])):=s2.trans (ak hT _);have e3:(upd H' T0 (.tup [.int (m:Nat),.ref a])) r=some (.lst (bvs (Rdg.marks ps m))):=(ak hT _) _ _ e2;have AI:(Rdg.marks ps m).length=ps.length:=Rdg.hG ps m;have mk:=Cd hp;have no':(((Rdg.marks ps m).getD m false&&Rdg.fwd p.kind)=false)->∀i,i<m+1->((Rdg.marks ps i).getD i false&&Rdg.fwd ((ps.getD i ⟨0,0,0,0⟩).kind))=false:=λz i hi=>by
   by_cases e:i=m
   ·rw[e,gp];exact z
   ·exact no i (by omega)
  refine⟨T0,_,rfl,SqT.of af,rfl,_,_,rfl,_,_,rfl,rfl,?_⟩;refine⟨_,rfl,_,rfl,r,_,_,_,rfl,rfl,SqL.of e3,zk (by rw[AI];exact hm),_,rfl,?_⟩;have fin:∀(Hx:Hp)(b:Bool),aw H Hx->Hx r=some (.lst (bvs (Rdg.marks ps m)))->b=((Rdg.marks ps m).getD m false||Rdg.bck p.kind)->((Rdg.marks ps m).getD m false&&Rdg.fwd p.kind)=false->
    Kq (IH K D 0 "first") (IH K D 1 "second") {nx:=λσ H'=>(∃v1 v2 v3:Option V,σ=[some (.ref l),some (.ref r),v1,v2,v3])/\aw H H'/\H' r=some (.lst (bvs (Rdg.marks ps (m+1))))/\∀i,i<m+1->((Rdg.marks ps i).getD i false&&Rdg.fwd ((ps.getD i ⟨0,0,0,0⟩).kind))=false,rt:=Q} [some (.ref l),some (.ref r),some (.int (m:Nat)),some (.ref a),some (.bl b)] Hx:=by
   intro Hx b sx ex eb nf;have ic:∀H5,∃z,SqT K H5 D.ic z/\atI z ((p.kind:Nat):Int)=some (nv (Rdg.inner p.kind)):=λH5=>⟨_,T.tIC H5,bT (h:=[0,0,1,2,2,1,2,1,2,1]) (by show p.kind<10;have:=ok.kd p kL;omega)⟩;have fi:=ok.fi p kL;have se:=ok.se p kL;have kp:∀Hy,aw H Hy->∀o,aw H (upd Hy r o):=λHy sy o b2 u e=>by rw[aB (ax e hrH)];exact sy _ _ e
   have K2:∀z:List Bool,(bvs z).length=z.length:=λz=>Nf ..;obtain⟨z1,z2,z3⟩:=ic Hx;refine⟨_,rfl,a,D.part,dx,_,_,rfl,sx _ _ hpa,T.aN,T.bq,rfl,D.ic,z1,_,_,rfl,rfl,z2,z3,_,_,rfl,rfl,_,rfl,?_⟩;refine bD (λc=>?_) (λc=>?_)
   ·have c:(0:Int)<(Rdg.inner p.kind:Int):=NG c;refine⟨_,rfl,_,rfl,_,rfl,a,D.part,dx,_,_,rfl,sx _ _ hpa,T.aN,T.fh,rfl,r,_,_,p.first,rfl,rfl,ex,(by rw[K2,AI];exact uy fi),?_⟩;have sy:=kp Hx sx (.lst ((bvs (Rdg.marks ps m)).set p.first (.bl b)));obtain⟨z1,z2,z3⟩:=ic (upd Hx r (.lst ((bvs (Rdg.marks ps m)).set p.first (.bl b))));refine⟨_,rfl,a,D.part,dx,_,_,rfl,sy _ _ hpa,T.aN,T.bq,rfl,D.ic,z1,_,_,rfl,rfl,z2,z3,_,_,rfl,rfl,_,rfl,?_⟩;refine bD (λc1=>?_) (λc1=>?_)
    ·have c1:(1:Int)<(Rdg.inner p.kind:Int):=NG c1;refine⟨_,rfl,_,rfl,_,rfl,a,D.part,dx,_,_,rfl,sy _ _ hpa,T.aN,T.gu,rfl,r,_,_,p.second,rfl,rfl,af,(by rw[PV,K2,AI];exact uy se),⟨_,_,_,rfl⟩,kp _ sy _,?_,no' nf⟩;rw[af,yr,yr,mk,eb];unfold Rdg.gf;rw[Nz (by omega),Nz (by omega)]
    ·have c1:¬(1:Int)<(Rdg.inner p.kind:Int):=λz=>c1 (NA z);refine⟨⟨_,_,_,rfl⟩,sy,?_,no' nf⟩;rw[af,yr,mk,eb];unfold Rdg.gf;rw[Nz (show 0<Rdg.inner p.kind by omega),Nt (show ¬1<Rdg.inner p.kind by omega)]
   ·have c:¬(0:Int)<(Rdg.inner p.kind:Int):=λz=>c (NA z);refine⟨_,rfl,a,D.part,dx,_,_,rfl,sx _ _ hpa,T.aN,T.bq,rfl,D.ic,z1,_,_,rfl,rfl,z2,z3,_,_,rfl,rfl,_,rfl,?_⟩;refine bD (λc1=>?_) (λc1=>?_)
    ·have c1:(1:Int)<(Rdg.inner p.kind:Int):=NG c1;omega
    ·refine⟨⟨_,_,_,rfl⟩,sx,?_,no' nf⟩;rw[ex,mk];unfold Rdg.gf;rw[Nt (by omega),Nt (by omega)]
  cases hmk:(Rdg.marks ps m).getD m false with
  |true=>
   refine cp ?_;refine⟨_,rfl,a,D.part,dx,_,_,rfl,s3 _ _ hpa,T.aN,T.bq,rfl,_,rfl,λH4 s4=>⟨_,rfl,?_⟩⟩;rw[DE];cases hf:Rdg.fwd p.kind with
   |true=>
    refine cp ?_;have e:tq ps=true:=GB (g:=λi=>(Rdg.marks ps i).getD i false&&Rdg.fwd ((ps.getD i ⟨0,0,0,0⟩).kind)) hm (by show((Rdg.marks ps m).getD m false&&Rdg.fwd ((ps.getD m ⟨0,0,0,0⟩).kind))=true;rw[gp,hmk,hf];rfl);have:=q _ (s3.trans s4);rw[e]at this;exact this
   |false=>
    refine l4 ?_;refine⟨_,rfl,_,rfl,r,_,_,_,rfl,rfl,SqL.of (s4 _ _ e3),zk (by rw[AI];exact hm),_,rfl,?_⟩;rw[hmk];refine cp ?_;exact fin H4 true (s3.trans s4) (s4 _ _ e3) (by rw[hmk];rfl) (by rw[hf,QB])
  |false=>
   refine l4 (l4 ?_);refine⟨_,rfl,_,rfl,r,_,_,_,rfl,rfl,SqL.of e3,zk (by rw[AI];exact hm),_,rfl,?_⟩;rw[hmk];refine l4 ?_;refine⟨_,rfl,a,D.part,dx,_,_,rfl,s3 _ _ hpa,T.aN,T.bq,rfl,_,rfl,λH4 s4=>?_⟩;rw[Ij];exact fin H4 _ (s3.trans s4) (s4 _ _ e3) (by rw[hmk];rfl) (by rw[hmk];rfl)
 ·rintro σ H' ⟨⟨v1,v2,v3,rfl⟩,s2,e2,no⟩;rw[xl]at no;have e:tq ps=false:=by
   unfold tq;rw[Bool.eq_false_iff];intro z;obtain⟨i,hi,e⟩:=Oi.mp z;rw[no i (NW.mp hi)]at e;cases e
  have:=q _ s2;rw[e]at this;exact this
inductive pK(K:Rt)(D:Ad)(vs:List V)(H:Hp)(Q:VK)(E:XK):Prop
 |mk (l:Addr) (ps:List Pt):vs=[.ref l]->bF K D H l ps->dz ps->(∀H',aw H H'->Q (.bl (!(ps.any λp=>Rdg.fwd p.kind))) H')->pK K D vs H Q E
abbrev mN:Stmt:=top 23
theorem gM:aF ["parts","part"] ["parts"] (az mN):=⟨rfl,rfl,rfl,by decide +kernel,rfl,by decide +kernel,by decide +kernel⟩
theorem pW{f:Addr}(F:Fun K "looks_back_only" "looks_back_only" mN f fd)(T:Txt K mg D)(gO:Fn P w K mg base "looks_forward" 1 ["kind"] (rN [7,8,9])):bw P w K mg base CX0 2 f fd ["parts"] (pK K D):=by
 refine F.ok gM (λvs H Q E h=>?_) (λcdv A outer s H vs Q E hr h=>?_)
 ·obtain⟨l,ps,rfl,_⟩:=h;rfl
 obtain⟨l,ps,rfl,hp0,ok,q⟩:=h;refine⟨_,(ai (aA (Jo (aP (J4 rfl) rfl T.any J7 (aa (fI rfl gM.nd (gq (pv 0)) (cU (own:=[("part",1)]) (by rfl)) (λ_ _ _ _ _=>(aL (i:=1) gM.nd rfl (Or.inl rfl))) (λ_ _ _ _ _=>dH) (λ_ _ _ _ _=>(bQ gO hr (aa (au (pv 1) rfl) ag)))) ag))))),?_⟩;obtain⟨xs,sq,xl,xat⟩:=hp0.at;refine⟨_,rfl,l,rfl,⟨_,sq⟩,λr hr0=>HE (K:=K) (a:=l) (xs:=xs) (λm H'=>aw H H'/\H' r=some (.lst (bvs ((ps.take m).map λp=>Rdg.fwd p.kind)))) ⟨ak hr0 _,af⟩ (λi H' _ ⟨s2,_⟩=>s2.seq sq) ?_ ?_⟩
 ·rintro m x H' hx ⟨s2,e2⟩;have hm:m<ps.length:=by rw[<-xl];exact(Nh.mp hx).1
  obtain⟨p,hp⟩:∃p,ps[m]?=some p:=⟨_,Ng hm⟩;obtain⟨a,ha,⟨dx,hpa⟩⟩:=xat _ p hp;have ex:x=.ref a:=Nm (hx.symm.trans ha);subst ex;refine⟨rfl,lcT ?_⟩;refine⟨_,rfl,a,D.part,dx,_,_,rfl,s2 _ _ hpa,T.aN,T.bq,rfl,_,rfl,λH4 s4=>⟨_,s4 _ _ e2,?_,?_,?_⟩⟩
  ·rw[Nf,Nf,N2];have:=ok.few;exact bx (by omega)
  ·exact λb o e=>by rw[aB (ax e hr0)];exact s4 _ _ (s2 _ _ e)
  ·rw[af,DE,OG,hp,NS];show _=some (HO.lst (List.map V.bl _));rw[NS];rfl
 ·rintro H' ⟨s2,e2⟩;rw[xl,Oj]at e2;refine⟨r,_,rfl,SqL.of e2,_,rfl,?_⟩;have e:(ps.map λp=>Rdg.fwd p.kind).any id=ps.any λp=>Rdg.fwd p.kind:=by rw[List.any_map];rfl
  rw[e];exact q _ s2
end
end Sc
namespace Rdg
open Vbtaak Mir
theorem B0{facts:Nat}:∀(f:F)(o:Nat),wf facts f=true->∀p∈pts o f,p.kind<=9/\p.first<o+size f/\p.second<o+size f:=by
 intro f;induction f with
 |yes=>intro o h p hp;simp[pts]at hp;subst hp;simp[size]
 |fact i=>intro o h p hp;simp[pts]at hp;subst hp;simp[size]
 |turn=>intro o h;simp[wf]at h
 |not a ih|before a ih|next a ih|within n a ih=>
  intro o h p hp;simp only[pts,ND]at hp;have ha:wf facts a=true:=by simp[wf]at h;first|exact h|exact h.1|exact h.2
  have hs:=size_pos a;rcases hp with rfl|hp
  ·simp[size];omega
  ·have:=ih (o+1) ha p hp;simp only[size];omega
 |and a b iha ihb|or a b iha ihb|since a b iha ihb|«until» a b iha ihb=>
  intro o h p hp;simp only[pts,ND,Np]at hp;have hab:wf facts a=true/\wf facts b=true:=by simpa [wf]using h
  have hs:=size_pos a;have hs2:=size_pos b;rcases hp with rfl|hp|hp
  ·simp[size];omega
  ·have:=iha (o+1) hab.1 p hp;simp only[size];omega
  ·have:=ihb (o+1+size a) hab.2 p hp;simp only[size];omega
theorem Jk{facts:Nat}:∀(f:F),wf facts f=true->∀kn∈pre f,kn.1<=9:=by
 intro f;induction f with
 |yes=>intro h p hp;simp[pre]at hp;subst hp;simp
 |fact i=>intro h p hp;simp[pre]at hp;subst hp;simp
 |turn=>intro h;simp[wf]at h
 |not a ih|before a ih|next a ih|within n a ih=>
  intro h p hp;simp only[pre,ND]at hp;have ha:wf facts a=true:=by simp[wf]at h;first|exact h|exact h.1|exact h.2
  rcases hp with rfl|hp
  ·simp
  ·exact ih ha p hp
 |and a b iha ihb|or a b iha ihb|since a b iha ihb|«until» a b iha ihb=>
  intro h p hp;simp only[pre,ND,Np]at hp;have hab:wf facts a=true/\wf facts b=true:=by simpa [wf]using h
  rcases hp with rfl|hp|hp
  ·simp
  ·exact iha hab.1 p hp
  ·exact ihb hab.2 p hp
theorem BZ{facts:Nat}{f:F}(h:wf facts f=true)(hs:size f<=12):dz (pts 0 f):=
 ⟨by rw[aR];exact size_pos f,by rw[aR];exact hs,λp hp=>by rw[aR];have:=(B0 f 0 h p hp).2.1;omega,λp hp=>by rw[aR];have:=(B0 f 0 h p hp).2.2;omega,λp hp=>(B0 f 0 h p hp).1⟩
end Rdg
namespace Sc
open PySem PySem.Spec PyProof.Rows L2 NK
open Mir (Pt B1 dz eF)
theorem FV{facts:Nat}{f:Vbtaak.F}(hw:Rdg.wf facts f=true):tq (Rdg.pts 0 f)=!Vbtaak.sound f:=by
 have h:=Rdg.D' hw;have g:tq (Rdg.pts 0 f)=false↔∀(i:Nat)(p:Pt),(Rdg.pts 0 f)[i]?=some p->((Rdg.marks (Rdg.pts 0 f) i).getD i false&&Rdg.fwd p.kind)=false:=by
  unfold tq;rw[Pe];constructor
  ·intro z i p hp;have hi:=(Nh.mp hp).1;have:=z i (NW.mpr hi);rw[Nj (l:=Rdg.pts 0 f),hp]at this;simpa using this
  ·intro z i hi;have hi:=NW.mp hi;have:=z i _ (Ng hi);rw[Nj (l:=Rdg.pts 0 f),Ng hi];simpa using this
 cases e:Vbtaak.sound f with
 |true=>exact g.mpr (h.mp e)
 |false=>
  cases e2:tq (Rdg.pts 0 f)with
  |true=>rfl
  |false=>have:=h.mpr (g.mp e2);rw[e]at this;cases this
section
variable{P:Program}{w:World}{K:Rt}{mg:Ru}{base:Heap}{D:Ad}
abbrev Frz(H:Hp)(l:Addr):Prop:=∃o u,H l=some (.frz o u)
inductive uP(K:Rt)(D:Ad)(vs:List V)(H:Hp)(Q:VK)(E:XK):Prop
 |mk (rl:Addr) (row:List Int) (facts:Nat):vs=[.ref rl,nv facts]->SqL K H rl (ivs row)->(Vbtaak.readF facts row=none->∀H',aw H H'->Q .non H')->(∀f,Vbtaak.readF facts row=some f->∀l H',aw H H'->bF K D H' l (Rdg.pts 0 f)->Frz H' l->dz (Rdg.pts 0 f)->Q (.ref l) H')->uP K D vs H Q E
abbrev mK:Stmt:=top 18
theorem lz:aF ["row","facts","parts"] ["row","facts"] (az mK):=⟨rfl,rfl,rfl,by decide +kernel,rfl,by decide +kernel,by decide +kernel⟩
theorem qK{f:Addr}{fd:FuncData}(F:Fun K "read_condition" "read_condition" mK f fd)(T:Txt K mg D)(zy:Fn P w K mg base "read_parts" 4 ["row","facts"] (mw K D))(zz:Fn P w K mg base "join_parts" 1 ["parts"] (BP D))
  (gL:Fn P w K mg base "looks_forward_from_the_past" 2 ["parts"] (yk K D)):bw P w K mg base CX0 5 f fd ["row","facts"] (uP K D):=by
 refine F.ok lz (λvs H Q E h=>?_) (λcdv A outer s H vs Q E hr h=>?_)
 ·obtain⟨rl,row,facts,rfl,_⟩:=h;rfl
 obtain⟨rl,row,facts,rfl,JN,qn,qs⟩:=h;refine⟨_,(ae (aG (i:=2) lz.nd rfl (Or.inl rfl) (bQ zy hr (aa (pv 0) (aa (pv 1) ag))))
   (ae (aW (fH (kr (pv 2))) (ai (aA jv)) aD)
   (ae (b6 (bQ zz hr (aa (pv 2) ag)))
   (ai (aA (eP (ju (bQ gL hr (aa (pv 2) ag))) jv (du (pv 2)))))))),?_⟩
 refine⟨_,rfl,_,rfl,rl,row,facts,rfl,JN,λsn H' s1=>?_,λks sk l as H' s1 np=>?_⟩
 ·refine⟨_,rfl,_,rfl,qX ?_⟩;refine qn ?_ _ s1;cases e:Vbtaak.readF facts row with
  |none=>rfl
  |some g=>
   obtain⟨h1,h2,h3,h4⟩:=Rdg.fV.mp e;have:=(Rdg.zW (facts:=facts) (r:=row) (ks:=Rdg.pre g) (fuel:=14) (by omega)).mpr ⟨g,h1,h2,h3,rfl⟩;rw[sn]at this;cases this
 ·obtain⟨g,h1,h2,h3,rfl⟩:=(Rdg.zW (facts:=facts) (fuel:=14) (by omega)).mp sk;have ok:=Rdg.BZ h1 h3;refine⟨_,rfl,_,rfl,qY ?_⟩;refine⟨_,rfl,l,as,Rdg.pre g,rfl,np.lst,np.nd,np.pt,by rw[Rdg.bO];exact h3,Rdg.Jk g h1,Rdg.HI h1,λH2 k2 pa=>?_⟩;rw[Rdg.F5 h1]at pa;have nla:¬l∈as:=λz=>by
   obtain⟨i,hi⟩:=OZ z;have hi2:i<(Rdg.pts 0 g).length:=by rw[Oa pa];exact(Nh.mp hi).1
   obtain⟨kn,hk⟩:∃kn,(Rdg.pre g)[i]?=some kn:=⟨_,Ng (by rw[Rdg.bO];rw[Rdg.aR]at hi2;exact hi2)⟩;obtain⟨a,e1,dx,e2⟩:=dv np.pt hk;have e3:=Nm (hi.symm.trans e1);subst e3;have:=np.lst.symm.trans e2;cases this
  have hl2:H2 l=some (.lst (as.map V.ref)):=k2 _ _ np.lst nla;have s2:aw H H2:=λb o e=>k2 _ _ (s1 _ _ e) λz=>by have:=np.fr b z;rw[e]at this;cases this
  have pp:bF K D H2 l (Rdg.pts 0 g):=⟨as,SqL.of hl2,pa⟩;refine⟨_,rfl,l,_,rfl,pp,ok,λH3 s3=>?_⟩;rw[FV h1];cases hs:Vbtaak.sound g with
  |false=>
   refine⟨true,rfl,cp ?_⟩;refine qn ?_ _ (s2.trans s3);cases e:Vbtaak.readF facts row with
   |none=>rfl
   |some g'=>
    obtain⟨j1,j2,j3,j4⟩:=Rdg.fV.mp e;have r1:=Rdg.jt (facts:=facts) g' 100 [] j1 (by have:=Rdg.cD g';omega);have r2:=Rdg.jt (facts:=facts) g 100 [] h1 (by have:=Rdg.cD g;omega);rw[<-h2,j2,r1]at r2;have:g'=g:=by injection r2 with r2;injection r2
    rw[this,hs]at j4;cases j4
  |true=>
   refine⟨false,rfl,l4 ?_⟩;refine⟨_,rfl,l,_,s3 _ _ hl2,trivial,λod=>?_⟩;have s4:aw H (upd H3 l (.frz od (.lst (as.map V.ref)))):=λb o e=>by rw[aB (ax e np.new)];exact s3 _ _ (s2 _ _ e)
   refine qs g (Rdg.fV.mpr ⟨h1,h2,h3,hs⟩) l _ s4 ⟨as,.inl (.inr ⟨od,af⟩),Paired.qS pa λp a ⟨dx,q⟩=>⟨dx,?_⟩⟩ ⟨_,_,af⟩ ok;have:a≠l:=λz=>by subst z;rw[hl2]at q;cases q
   rw[aB this];exact s3 _ _ q
end
end Sc
namespace Kx
inductive Kd
 |p0|p1|p5|n0|n1|n5
 deriving DecidableEq
def wZ:List Kd:=[.p0,.p1,.p5,.n0,.n1,.n5]
def SC:Nat:=4096
@[irreducible] noncomputable def VS:List (List Nat):=[[314,0,0,8,2288,8],
 [631,0,0,16,2076,16],
 [10,335,125,12,2288,12],
 [625,0,125,0,1998,125],
 [0,0,314,8,2288,322],
 [63,311,63,435,2112,0],
 [0,0,137,0,1705,1142],
 [0,0,1142,0,1705,137],
 [0,0,93,93,1845,984],
 [505,0,0,505,2018,0],
 [0,0,63,187,1988,808],
 [0,0,808,684,1491,63],
 [0,0,631,16,2076,646],
 [0,0,750,0,1998,750],
 [0,0,505,505,2018,505],
 [3027,0,0,1009,0,0],
 [0,2203,8,1492,0,345],
 [2038,0,0,2038,0,0],
 [2609,746,0,125,622,125],
 [0,1656,2704,0,0,10],
 [0,1656,10,0,0,2704],
 [306,1523,7,0,0,2578],
 [54,2150,54,54,1829,314],
 [618,1400,5,0,0,2435],
 [435,1864,0,63,1802,311],
 [939,1286,3,0,0,2274],
 [1271,1182,2,0,0,2093],
 [0,1864,435,63,1802,746],
 [0,2815,46,842,0,1224],
 [1757,1506,0,251,1255,251],
 [0,2433,2636,0,0,51],
 [0,2433,51,0,0,2636],
 [456,2246,34,0,0,2434],
 [921,2071,23,0,0,2208],
 [47,3243,47,7,1384,503],
 [375,2984,0,8,1370,498],
 [16,4597,16,631,0,0],
 [1400,1907,16,0,0,1953],
 [1515,2411,0,31,1082,402],
 [31,4172,31,1267,0,0],
 [251,4016,0,1255,0,0],
 [40,3823,40,1,1027,604],
 [23,4599,23,20,673,250],
 [0,2984,375,8,1370,872],
 [27,4533,27,157,781,157],
 [0,4016,251,1255,0,251],
 [0,4468,187,20,666,434],
 [0,3589,324,1,1017,922],
 [16,4597,646,0,0,631],
 [0,4389,217,155,773,371],
 [874,4245,0,125,625,125],
 [0,3427,2295,0,0,276],
 [0,3427,276,0,0,2295],
 [186,3709,1978,0,0,186],
 [680,3214,186,0,0,1978],
 [1014,4056,0,1014,0,0],
 [375,3996,1624,0,0,125],
 [1374,2997,125,0,0,1624],
 [31,4172,1298,0,0,1267],
 [0,4016,1506,0,0,1506],
 [1014,4056,1014,0,0,1014]]
def dot:List Nat->List Nat->Nat
 |x::xs,y::ys=>x*y+dot xs ys
 |_,_=>0
def add:List Nat->List Nat->List Nat
 |[],v=>v
 |u,[]=>u
 |x::u,y::v=>(x+y)::add u v
def smul(c:Nat)(l:List Nat):List Nat:=l.map λx=>c*x
def push:List Nat->List (List Nat)->List Nat
 |w::ws,r::rs=>add (smul w r) (push ws rs)
 |_,_=>[]
theorem cS(L:List Nat):dot [] L=0:=by cases L<;>rfl
theorem jY(L:List Nat):dot L []=0:=by cases L<;>rfl
theorem zg:∀(u v L:List Nat),dot (add u v) L=dot u L+dot v L
 |[],v,L=>by rw[cS,PX];rfl
 |x::u,[],L=>by rw[cS,QK];rfl
 |x::u,y::v,[]=>by rw[jY,jY,jY]
 |x::u,y::v,z::L=>by
  show(x+y)*z+dot (add u v) L=(x*z+dot u L)+(y*z+dot v L);rw[zg u v L,P0];omega
theorem wj(c:Nat):∀(u L:List Nat),dot (smul c u) L=c*dot u L
 |[],L=>by rw[show smul c []=[]from rfl,cS,QL]
 |x::u,[]=>by rw[jY,jY,QL]
 |x::u,z::L=>by
  show c*x*z+dot (smul c u) L=c*(x*z+dot u L);rw[wj c u L,O3,Ol]
theorem wk:∀(ws:List Nat)(rs:List (List Nat))(L:List Nat),dot (push ws rs) L=dot ws (rs.map λr=>dot r L)
 |[],_,L=>by rw[show push [] _=[]from by unfold push;rfl,cS,cS]
 |w::ws,[],L=>by rw[show push (w::ws) []=[]from rfl,cS];rfl
 |w::ws,r::rs,L=>by
  show dot (add (smul w r) (push ws rs)) L=w*dot r L+dot ws (rs.map λr=>dot r L);rw[zg,wj,wk ws rs L]
def le6(d s:Nat):List Nat->List Nat->Bool
 |r::rs,q::qs=>Nat.ble (d*r) (s*q)&&le6 d s rs qs
 |[],_=>true
 |_::_,[]=>false
theorem Ck{d s:Nat}:∀{r q:List Nat}(L:List Nat),le6 d s r q=true->d*dot r L<=s*dot q L
 |[],q,L,_=>by rw[cS,QL];exact NT _
 |x::r,[],L,h=>by cases h
 |x::r,y::q,[],_=>by rw[jY,QL];exact NT _
 |x::r,y::q,z::L,h=>by
  have h:(Nat.ble (d*x) (s*y)&&le6 d s r q)=true:=h;rw[Nv]at h;have h1:=P1 h.1;have h2:=Ck L h.2;show d*(x*z+dot r L)<=s*(y*z+dot q L);rw[O3,O3,<-Ol,<-Ol];exact Nat.add_le_add (Oh z h1) h2
def comb:List (Nat×Nat)->List Nat
 |[]=>[]
 |(w,j)::cs=>add (smul w (VS.getD j [])) (comb cs)
def Fg:List (Nat×Nat)->Nat
 |[]=>0
 |(w,_)::cs=>w+Fg cs
@[irreducible] noncomputable def QS:List (Nat×List Nat×List (Nat×Nat)):=[[1821627,1022529,2515343,1194155],[1494017,3452559,1607060],[1217927,441229,915151,1630255,2349060],[136414,1461617,4955527],[229727,545629,4944151,834160],[1861014,165227,4169733,357537],[2220910,2963427,35733,1333437],[1508827,1751245,2095349,1198155],[133],[3556229,210530,1759351,1027360],[1301614,4454527,158429,638951],[2212517,3555129,785957],[1511417,24052,3645955,1313259,58960],[672043,176755,3952459,1752260],[157],[854943,3881749,640155,1176760],[687817,3613727,1752731,499232],[1958917,3106531,1488052],[305904,4513527,1734129],[5979143,228655,345860],[3899914,288317,892630,1472659],[108717,4734630,1710251],[517,1803929,4001932,580833,166254],[4850229,720843,858655,123960],[320610,4720114,1225321,287323],[1821127,2541132,800452,1390854],[5360017,1193557],[132],[499117,5116245,938259],[1269043,82045,4046447,1156055],[1605517,573633,3721437,652959],[2103817,3572043,877659],[48717,334227,1833329,2992351,1344860],[4040627,1107429,603157,802360],[9517,1493627,5050432],[1203214,180417,3630227,1539531],[4402555,1308359,842760],[503529,576338,400143,4122250,951355],[3011915,1977929,935138,205955,422460],[1443727,3338943,1770955],[2277014,449317,213845,3613359],[2587417,2167431,1798652],[3111427,3193129,249037],[3226917,615545,2711152],[160],[1506417,5047121],[187917,897345,5468351],[905527,5207559,440560],[3950838,377947,1074550,1150257],[1377737,1970654,922257,2282959],[452227,254729,2235730,3610951],[886917,2707427,2959245],[2504914,1249117,2799427],[3074717,2779945,698859],[3658327,2556233,181854,157157],[114729,368938,2093243,620055,3356657],[272913,1075514,1689823,3515325],[1378017,1016227,2942229,687637,529357],[2550715,1309017,2693837],[1616517,2178745,2758252],[2031117,2348127,1278743,895452],[3094817,1819427,1639352],[728408,4598626,1226429],[68817,19227,4413343,1935752,116454],[480614,1405117,1623429,1867851,1176455],[121],[125],[311827,3001129,2061343,1179255],[1926427,1155329,3471837],[1522843,3107749,558853,1247459,116760],[685617,1553227,1783045,2531652],[53917,4891427,1608231],[61213,845217,5060529,510137,76359],[1894217,367427,23329,1911843,2356655],[3986532,2230533,336454],[2018310,452821,121723,3960632],[1607927,526529,627835,3791243],[200643,964449,3981250,1407260],[889314,4393017,1271227],[1601345,2955459,1996760],[2502814,397417,2088027,1565152],[6158052,395554],[3313114,1129627,621430,1489351],[125509,603814,5003024,821229],[4859415,1668837,25260],[1412613,1691327,2335129,1114337],[4304618,347429,1857037,44457],[848514,160217,5544729],[297617,2039727,2376633,255454,1584157],[2910613,1906427,759231,977259],[1990017,3223743,1339755],[1475914,1241120,3836431],[1210017,2946223,917825,1479433],[126],[2031017,2002029,2384743,135755],[2109427,3116043,97752,1230359],[295117,4318919,1939430],[2983724,600827,1189838,1779050],[1929815,1368617,3255029],[785229,1172138,1069943,496855,3029357],[954134,743743,2914149,1493750,447855],[159],[1620810,2562627,1238333,1131737],[4617417,1936120],[2985310,3568232],[2703427,3398333,144554,307157],[804017,2789527,2843729,116260],[5420145,267447,865959],[614214,295917,4951827,691545],[2120113,340814,1634927,2144531,313059],[120],[84514,145617,6322327,1029],[123],[119],[194727,3082143,1497051,1779660],[3393343,1069545,2090752],[5005944,340548,1207058],[3905714,2647830],[2928717,1251833,2373037],[1542917,2053245,370255,2587259],[1006917,2145927,2171629,163937,1065157],[555413,2181429,3816637],[326115,1297118,1764938,3165357],[1779914,840017,536526,1488729,1908337],[881214,1205817,852127,3614331],[1107910,114417,3530226,1800829],[2995314,795817,1942245,820159],[4177927,780033,1595657],[2186317,1261545,1069452,2036359],[277817,2601029,809343,1460055,1405260],[153],[3705843,369947,718749,1759059],[117],[580439,4452845,1520355],[99217,156427,2274543,4023445],[3182714,334517,1177227,1006045,852959],[950317,1403824,3310727,888655],[464814,4298727,246345,1543659],[1310909,1251617,3505929,484955],[1597027,641344,2202249,2112955],[3542143,643049,2039350,16956,312160],[241917,5171728,1139845],[3754417,1651327,761145,386652],[810929,1409832,4317633,15154],[23717,597927,438229,3489243,2004357],[1629010,526417,1507926,1786829,1103337],[2798213,2878129,877137],[1682117,1758527,984045,2128852],[3146429,2110138,1297043],[977417,3793431,1782659],[1573113,19114,3382027,1118633,460537],[3327813,1431729,917037,876860],[564517,2489027,322145,3177752],[185717,563929,3235543,1557754,1010557],[3320427,1746531,1025932,460654],[2464827,1374932,1404052,1309754],[441317,2464443,3647752],[1438717,153152,3485954,1475755],[137],[60017,913127,1013755,4509959,56760],[342427,1729649,2011450,2201753,268355],[156],[5826427,312443,414655],[1880444,3104349,1568759],[5185911,1367619],[4314914,550117,1619927,68459],[356815,2048717,3476757,671160],[386051,4554159,1613460],[1001817,2289429,3262260],[995913,448515,3226329,1882737],[2994417,1440945,318252,1800055],[4915851,1601359,36460],[227914,3742727,1548845,1034059],[820029,4851338,225657,656560],[2022614,3238427,1292551],[3932443,516449,355450,1015155,734160],[775613,670914,4169727,326931,610359],[1116105,3048514,71317,2317439],[5501815,1051760],[115],[2357115,4196437],[5452839,1049545,24855,26256],[140],[145],[4733136,851639,276058,692760],[4886148,414458,1253060],[4811917,571631,1170059],[2523910,1089223,56132,2884233],[1046613,962014,2574127,1911033,59737],[1988314,616417,862020,3086859],[1497813,303815,143217,2910737,1697859],[3555513,1369215,491629,306437,830659],[2014814,1525515,428417,1572029,1012630],[199021,5766631,587859],[1812927,2226932,408852,2104854],[1638313,771727,1536429,1070037,1536959],[1534114,2508717,904327,822845,783459],[1404413,179714,1125725,2659326,1184359],[1747513,288815,3793537,723659],[742514,189017,2954629,2604937,62359],[2161013,51114,2696523,543131,307132,794559],[1133414,258421,1558731,3602959],[44913,416114,68527,2155329,1097351,2771259],[2201014,1049417,508545,210751,2583959],[128],[219013,1224514,261731,4848359],[2715727,654933,1704537,218554,1259859],[1548214,2541733,1055537,1408059],[296721,5139631,1117259],[131],[1919017,1002737,3631757],[116515,2336417,149137,1181359,2770060],[154],[130],[1029429,2841643,2682455],[129],[4552827,1735052,265659],[840609,600214,3958424,137329,1016855],[118],[2834527,1783043,842545,837151,256255],[149],[135],[143],[138],[480115,5739218,154937,179360],[255127,995329,4643243,659860],[2777743,842247,2675949,257660],[960743,2189147,1753049,1650659],[273247,5627850,497055,155457],[2907744,2268349,691355,686160],[124],[1897514,1550117,3105930],[4519014,1396017,638530],[2674713,12814,1655527,2210431],[100],[3061314,1678517,1813630],[101],[1600100,4105309,848029],[2586904,1771812,60527,2134229],[102],[609600,4007802,1299004,637024],[103],[190800,484902,4807404,1070327],[104],[522600,4650504,1188027,192329],[105],[106],[107],[108],[147213,5013814,1392519],[109],[110],[111],[112],[113],[114],[746515,3807817,1999237],[155],[136],[5446958,1071859,34760],[2839115,1193830,1325259,1195260],[148],[2827413,1560615,1632829,230,532259],[116],[152],[151],[2025627,3692243,583251,60155,192260],[3948127,1260852,1344659],[1034214,3902127,1617229],[474413,909015,4642829,153230,373959],[39843,214945,5378049,757151,163655],[104343,576345,4971949,444651,456259],[1313946,3510047,1729552],[6036727,131043,303252,82554],[122],[1635413,3911427,548331,458359],[2032813,1189214,1749427,1581959],[127],[134],[3115241,1307343,301847,1669849,159350],[144],[185627,3569944,1304349,1442650,51155],[328145,2299847,3372449,331652,221455],[147],[3997942,2172944,301748,80958],[146],[150]].map λl=>(Fg (l.map λn=>(n/100,n%100)),comb (l.map λn=>(n/100,n%100)),l.map λn=>(n/100,n%100))
def valid:Bool:=QS.all λc=>le6 1 1 c.2.1 (comb c.2.2)&&Nat.ble (Fg c.2.2) c.1&&Nat.ble 1 c.1
theorem Fb:valid=true:=by decide +kernel
def Bd(L:List Nat)(M:Nat):Prop:=∀W∈VS,dot W L<=M
theorem DM{L:List Nat}{M:Nat}(h:Bd L M):∀cs,dot (comb cs) L<=Fg cs*M
 |[]=>by rw[show comb []=[]from rfl,cS];exact NT _
 |(w,j)::cs=>by
  show dot (add (smul w (VS.getD j [])) (comb cs)) L<=(w+Fg cs)*M;rw[zg,wj,P0];refine Nat.add_le_add (OS w ?_) (DM h cs);rw[Nj];cases e:VS[j]? with
  |none=>rw[show(none:Option (List Nat)).getD []=[]from rfl,cS];exact NT _
  |some W=>exact h W (Nr e)
def ok(d s:Nat)(r:List Nat):Bool:=QS.any λc=>le6 (c.1*d) s r c.2.1
theorem Dk{d s:Nat}{r L:List Nat}{M:Nat}(h:Bd L M)(o:ok d s r=true):d*dot r L<=s*M:=by
 obtain⟨⟨D,q,cs⟩,hc,e⟩:=Oi.mp o;have v:=Ow.mp Fb _ hc;simp only[Nv]at v;obtain⟨⟨v1,v2⟩,v3⟩:=v;have v2:=P1 v2;have v3:1<=D:=P1 v3;have e1:=Ck L e;have e2:=Ck L v1;rw[Q6,Q6]at e2;have e3:=DM h cs;have e4:dot q L<=D*M:=NR e2 (NR e3 (Oh M v2));have e5:D*(d*dot r L)<=D*(s*M):=by
  rw[<-Ol];refine NR e1 ?_;rw[Og];exact OS s e4
 exact Nat.le_of_mul_le_mul_left e5 v3
def cnt(k:Kd)(l:List Kd):Nat:=l.foldr (λx n=>if x=k then n+1 else n) 0
def cv(l:List Kd):List Nat:=wZ.map λk=>cnt k l
def Lv(e:Kd->Nat):List Nat:=wZ.map e
theorem Gs(e:Kd->Nat):∀l:List Kd,(l.map e).sum=dot (cv l) (Lv e)
 |[]=>by show 0=dot [0,0,0,0,0,0] [e .p0,e .p1,e .p5,e .n0,e .n1,e .n5];simp[dot]
 |x::l=>by
  have ih:=Gs e l;rw[N6,List.sum_cons,ih];show e x+dot [cnt .p0 l,cnt .p1 l,cnt .p5 l,cnt .n0 l,cnt .n1 l,cnt .n5 l] [e .p0,e .p1,e .p5,e .n0,e .n1,e .n5]=
   dot [cnt .p0 (x::l),cnt .p1 (x::l),cnt .p5 (x::l),cnt .n0 (x::l),cnt .n1 (x::l),cnt .n5 (x::l)] [e .p0,e .p1,e .p5,e .n0,e .n1,e .n5]
  cases x<;>simp[dot,cnt,P0]<;>omega
def pull(T:Kd->List Kd)(e:Kd->Nat)(k:Kd):Nat:=((T k).map e).sum
theorem Bg(T:Kd->List Kd)(e:Kd->Nat)(W:List Nat):dot W (Lv (pull T e))=dot (push W (wZ.map λk=>cv (T k))) (Lv e):=by
 rw[wk,O6];congr 1;unfold Lv;refine Om λk _=>?_;show((T k).map e).sum=dot (cv (T k)) (wZ.map e);exact Gs e (T k)
abbrev Tb:=List (List Nat×Kd)
def wt(e:Kd->Nat)(t:Tb):Nat:=(t.map λx=>e x.2).sum
def InK(n c:Nat)(t:Tb):Prop:=∀(e:Kd->Nat)(M:Nat),Bd (Lv e) M->40^n*(SC*(c*wt e t))<=81^n*M
theorem uf(c:Nat)(e:Kd->Nat):∀t:Tb,wt (λk=>c*e k) t=c*wt e t
 |[]=>rfl
 |x::t=>by
  show c*e x.2+wt (λk=>c*e k) t=c*(e x.2+wt e t);rw[uf c e t,O3]
theorem DY(e:Kd->Nat)(s t:Tb):wt e (s++t)=wt e s+wt e t:=by unfold wt;rw[NS,List.sum_append]
def un(T:Kd->List (Nat×Kd))(t:Tb):Tb:=t.flatMap λx=>(T x.2).map λy=>(y.1::x.1,y.2)
def bi(T:Kd->Kd->List (Nat×Kd))(s t:Tb):Tb:=s.flatMap λx=>t.flatMap λy=>(T x.2 y.2).map λz=>(z.1::(x.1++y.1),z.2)
theorem ug{α:Type}(e:Kd->Nat)(f:α->Tb):∀l:List α,wt e (l.flatMap f)=(l.map λx=>wt e (f x)).sum
 |[]=>rfl
 |x::l=>by rw[N5,DY,ug e f l];rfl
theorem Km(T:Kd->List (Nat×Kd))(e:Kd->Nat)(t:Tb):wt e (un T t)=wt (pull (λk=>(T k).map (·.2)) e) t:=by
 unfold un;rw[ug];unfold wt pull;congr 1;refine Om λx _=>?_;rw[O6,O6];rfl
def qF(T:Kd->Kd->List Kd)(e:Kd->Nat)(k k':Kd):Nat:=((T k k').map e).sum
theorem Kn(T:Kd->Kd->List (Nat×Kd))(e:Kd->Nat)(s t:Tb):wt e (bi T s t)=wt (λk=>wt (qF (λk k'=>(T k k').map (·.2)) e k) t) s:=by
 unfold bi;rw[ug];show _=(s.map λx=>wt (qF (λk k'=>(T k k').map (·.2)) e x.2) t).sum;congr 1;refine Om λx _=>?_;rw[ug];show _=(t.map λy=>qF (λk k'=>(T k k').map (·.2)) e x.2 y.2).sum;congr 1;refine Om λy _=>?_;unfold wt qF;rw[O6,O6];rfl
def okU(T:Kd->List Kd):Bool:=VS.all λW=>ok 40 81 (push W (wZ.map λk=>cv (T k)))
def okC(T:Kd->Kd->List Kd)(l:List (List Nat)):Bool:=l.all λW=>VS.all λU=>ok 40 (81*SC) (push U (wZ.map λk'=>push W (wZ.map λk=>cv (T k k'))))
def okB(T:Kd->Kd->List Kd):Bool:=okC T VS
theorem GJ:VS=VS.take 16++((VS.drop 16).take 16++((VS.drop 32).take 16++VS.drop 48)):=by decide +kernel
theorem Ca{T:Kd->Kd->List Kd}(a:okC T (VS.take 16)=true)(b:okC T ((VS.drop 16).take 16)=true)(c:okC T ((VS.drop 32).take 16)=true)(d:okC T (VS.drop 48)=true):okB T=true:=by
 unfold okB;rw[GJ];unfold okC at *;rw[Qo,Qo,Qo,a,b,c,d];rfl
variable{n c:Nat}{t:Tb}{T:Kd->List (Nat×Kd)}
theorem InK.un(h:InK n c t)(o:okU (λk=>(T k).map (·.2))=true):InK (n+1) c (un T t):=by
 intro e M hM;rw[Km];have hb:Bd (Lv λk=>40*pull (λk=>(T k).map (·.2)) e k) (81*M):=by
  intro W hW;have o1:=Ow.mp o W hW;have:=Dk hM o1;rw[<-Bg]at this;have e2:Lv (λk=>40*pull (λk=>(T k).map (·.2)) e k)=smul 40 (Lv (pull (λk=>(T k).map (·.2)) e)):=by
   unfold Lv smul;rw[O6];rfl
  rw[e2];have e3:∀u L:List Nat,dot u (smul 40 L)=40*dot u L:=by
   intro u;induction u with
   |nil=>intro L;rw[cS,cS]
   |cons x u ih=>
    intro L;cases L with
    |nil=>rfl
    |cons y L=>
     show x*(40*y)+dot u (smul 40 L)=40*(x*y+dot u L);rw[ih,O3,Og]
  rw[e3];exact this
 have:=h _ _ hb;rw[uf]at this;rw[Pc,Pc,Ol,Ol];refine NR (Pq ?_) this;congr 1;rw[Og 40,Og 40]
theorem Gp(f:Kd->Kd->Nat)(W:List Nat):∀t:Tb,dot W (Lv λk=>wt (f k) t)=wt (λk'=>dot W (Lv λk=>f k k')) t
 |[]=>by
  show dot W (Lv λ_=>0)=0;have:∀(W L:List Nat),(∀x∈L,x=0)->dot W L=0:=by
   intro W;induction W with
   |nil=>intro L _;exact cS L
   |cons w W ih=>
    intro L hL;cases L with
    |nil=>rfl
    |cons x L=>
     show w*x+dot W L=0;rw[hL x (NB ..),ih L λy hy=>hL y (Nn _ hy),QL]
  exact this W _ λx hx=>by obtain⟨k,_,rfl⟩:=NZ.mp hx;rfl
 |y::t=>by
  have ih:=Gp f W t;show dot W (Lv λk=>f k y.2+wt (f k) t)=dot W (Lv λk=>f k y.2)+wt (λk'=>dot W (Lv λk=>f k k')) t;rw[<-ih];have:∀(W:List Nat)(l:List Kd)(g h:Kd->Nat),dot W (l.map λk=>g k+h k)=dot W (l.map g)+dot W (l.map h):=by
   intro W;induction W with
   |nil=>intro l g h;rw[cS,cS,cS]
   |cons w W ih=>
    intro l g h;cases l with
    |nil=>rfl
    |cons k l=>
     show w*(g k+h k)+dot W (l.map λk=>g k+h k)=(w*g k+dot W (l.map g))+(w*h k+dot W (l.map h));rw[ih,O3];omega
  exact this W wZ _ _
theorem xV(c:Nat)(W:List Nat)(e:Kd->Nat):dot W (Lv λk=>c*e k)=c*dot W (Lv e):=by
 have:∀(W:List Nat)(l:List Kd),dot W (l.map λk=>c*e k)=c*dot W (l.map e):=by
  intro W;induction W with
  |nil=>intro l;rw[cS,cS,QL]
  |cons w W ih=>
   intro l;cases l with
   |nil=>rfl
   |cons k l=>
    show w*(c*e k)+dot W (l.map λk=>c*e k)=c*(w*e k+dot W (l.map e));rw[ih,O3,Og]
 exact this W wZ
variable{T:Kd->Kd->List (Nat×Kd)}
theorem InK.bi{a b ca cb:Nat}{s:Tb}(hs:InK a ca s)(ht:InK b cb t)(o:okB (λk k'=>(T k k').map (·.2))=true):InK (a+b+1) (ca*cb) (bi T s t):=by
 intro e M hM;rw[Kn];have hW:∀W∈VS,40^(b+1)*(cb*wt (λk'=>dot W (Lv λk=>qF (λk k'=>(T k k').map (·.2)) e k k')) t)<=81^(b+1)*M:=by
  intro W hW;have hb:Bd (Lv λk'=>40*dot W (Lv λk=>qF (λk k'=>(T k k').map (·.2)) e k k')) (81*SC*M):=by
   intro U hU;have o1:=Ow.mp (Ow.mp o W hW) U hU;have:=Dk hM o1;rw[xV];rw[wk,O6]at this;refine NR (Pq ?_) this;congr 2;unfold Lv;refine Om λk' _=>?_;show dot W (Lv λk=>qF (λk k'=>(T k k').map (·.2)) e k k')=dot (push W (wZ.map λk=>cv ((T k k').map (·.2)))) (Lv e);exact Bg (λk=>(T k k').map (·.2)) e W
  have:=ht _ _ hb;rw[uf]at this;have e1:40^(b+1)*(SC*(cb*wt (λk'=>dot W (Lv λk=>qF (λk k'=>(T k k').map (·.2)) e k k')) t))<=81^(b+1)*(SC*M):=by
   rw[Pc,Pc,Ol,Ol];refine NR (Pq ?_) (NR this (Pq ?_))
   ·congr 1;rw[Og 40,Og 40]
   ·rw[Ol]
  rw[Og,Og _ SC]at e1;exact Nat.le_of_mul_le_mul_left e1 (by decide)
 have hb:Bd (Lv λk=>(40^(b+1)*cb)*wt (qF (λk k'=>(T k k').map (·.2)) e k) t) (81^(b+1)*M):=by
  intro W hW';rw[xV,Gp,Ol];exact hW W hW'
 have:=hs _ _ hb;rw[uf]at this;rw[show a+b+1=a+(b+1) by omega,Pb 40 a (b+1),Pb 81 a (b+1),Ol (81^a)];refine NR (Pq ?_) this;rw[Ol];congr 1;rw[Og,Ol ca,Og (40^(b+1)) ca,Ol (40^(b+1))]
theorem InK.mono{c':Nat}(h:InK n c t)(hc:c'<=2*c):InK (n+1) c' t:=by
 intro e M hM;have:=h e M hM;rw[Pc,Pc]
 calc 40^n*40*(SC*(c'*wt e t))<=40^n*40*(SC*(2*c*wt e t)):=OS _ (OS _ (Oh _ hc))
  _=80*(40^n*(SC*(c*wt e t))):=by
   rw[Ol 2,Og SC 2,Ol,Og (40^n) 40,Og (40^n) 2,<-Ol]
  _<=80*(81^n*M):=OS _ this
  _<=81*(81^n*M):=Oh _ (by decide)
  _=81^n*81*M:=by rw[Og,<-Ol]
open Vbtaak Mir Vbs
def Kd.flip:Kd->Kd
 |.p0=>.n0|.p1=>.n1|.p5=>.n5|.n0=>.p0|.n1=>.p1|.n5=>.p5
def Kd.sg:Kd->Bool
 |.p0=>true|.p1=>true|.p5=>true|_=>false
def Kd.rn:Kd->Nat
 |.p0=>0|.p1=>1|.p5=>5|.n0=>0|.n1=>1|.n5=>5
def EZ:Kd->Kd->Kd
 |.p0,.p0=>.p0|.p0,.p1=>.p0|.p0,.p5=>.p0
 |.p1,.p0=>.p0|.p1,.p1=>.p1|.p1,.p5=>.p1
 |.p5,.p0=>.p0|.p5,.p1=>.p1|.p5,.p5=>.p5
 |.n0,.n1=>.n1|.n0,.n5=>.n5|.n0,_=>.n0
 |.n1,.n5=>.n5|.n1,_=>.n1
 |.n5,_=>.n5
 |_,.n0=>.n0|_,.n1=>.n1|_,.n5=>.n5
def orK(a b:Kd):Kd:=(EZ a.flip b.flip).flip
def nextK:Kd->List Kd
 |.p0=>[.p0,.n0]|.p1=>[.p0]|.p5=>[.p1]|.n0=>[.p0,.n0]|.n1=>[.n0]|.n5=>[.n5]
def pj:Kd->Kd->List Kd
 |_,.p0=>[.p0]|_,.p1=>[.p1]|_,.p5=>[.p5]|_,.n5=>[.n5]
 |.p0,_=>[.p1,.n1]|.p1,_=>[.p1,.n1]|.p5,_=>[.p1,.n5]
 |.n0,_=>[.n0]|.n1,b=>[b]|.n5,b=>[b]
def ds(n:Nat)(l:List Nat):List (Nat×Kd):=(l.filter λd=>Nat.ble d n).map λd=>(n+1-d,if d=5 then .p5 else .p1)
def fq(n:Nat):Kd->List (Nat×Kd)
 |.n0=>ds n [1,2,3,4,5]++[(0,if 5<=n then .n5 else .n0)]
 |.n1=>ds n [2,3,4,5]++[(0,if 5<=n then .n5 else if n=0 then .n1 else .n0)]
 |.n5=>[(0,.n5)]
 |k=>[(n+1,k)]
def BK(k:Kd):List (Nat×Kd):=[(0,k.flip)]
def D7(a b:Kd):List (Nat×Kd):=[(0,EZ a b)]
def tOr(a b:Kd):List (Nat×Kd):=[(0,orK a b)]
def IY(k:Kd):List (Nat×Kd):=(nextK k).map λq=>(bit k.sg,q)
def G2(a b:Kd):List (Nat×Kd):=(pj a b).map λq=>(bit q.sg,q)
def leaf(n:Nat):Tb:=[(List.replicate n 0,.p0),(List.replicate n 0,.n0)]
def tab:F->Tb
 |.yes=>[([0],.p5)]
 |.fact _=>leaf 1
 |.not a=>un BK (tab a)
 |.and a b=>bi D7 (tab a) (tab b)
 |.or a b=>bi tOr (tab a) (tab b)
 |.before a=>leaf (size a+1)
 |.since a b=>leaf (size a+size b+1)
 |.next a=>un IY (tab a)
 |.until a b=>bi G2 (tab a) (tab b)
 |.within n a=>un (fq n) (tab a)
 |.turn=>[]
def bks:F->Nat
 |.not a=>bks a
 |.and a b=>bks a+bks b
 |.or a b=>bks a+bks b
 |.before a=>bks a+1
 |.since a b=>bks a+bks b+1
 |.next a=>bks a
 |.until a b=>bks a+bks b
 |.within _ a=>bks a
 |_=>0
theorem Hm:okU (λk=>(BK k).map (·.2))=true:=by decide +kernel
theorem FC:okU (λk=>(IY k).map (·.2))=true:=by decide +kernel
theorem AD:okU (λk=>(fq 0 k).map (·.2))=true:=by decide +kernel
theorem AB:okU (λk=>(fq 1 k).map (·.2))=true:=by decide +kernel
theorem AA:okU (λk=>(fq 2 k).map (·.2))=true:=by decide +kernel
theorem Az:okU (λk=>(fq 3 k).map (·.2))=true:=by decide +kernel
theorem Ay:okU (λk=>(fq 4 k).map (·.2))=true:=by decide +kernel
theorem Ax:okU (λk=>(fq 5 k).map (·.2))=true:=by decide +kernel
theorem Hq:okB (λk k'=>(D7 k k').map (·.2))=true:=Ca (by decide +kernel) (by decide +kernel) (by decide +kernel) (by decide +kernel)
theorem Jr:okB (λk k'=>(tOr k k').map (·.2))=true:=Ca (by decide +kernel) (by decide +kernel) (by decide +kernel) (by decide +kernel)
theorem Ho:okB (λk k'=>(G2 k k').map (·.2))=true:=Ca (by decide +kernel) (by decide +kernel) (by decide +kernel) (by decide +kernel)
theorem Hl:ok 40 81 [SC,0,0,SC,0,0]=true:=by decide +kernel
theorem Jq:ok 40 81 [0,0,SC,0,0,0]=true:=by decide +kernel
theorem InK.less{c':Nat}(h:InK n c t)(hc:c'<=c):InK n c' t:=by
 intro e M hM;exact NR (OS _ (OS _ (Oh _ hc))) (h e M hM)
theorem Ds(m:Nat):∀j,InK (1+j) (2^j) (leaf m)
 |0=>by
  intro e M hM;have:=Dk hM Hl;have e1:dot [SC,0,0,SC,0,0] (Lv e)=SC*(2^0*wt e (leaf m)):=by
   show SC*e .p0+(0*e .p1+(0*e .p5+(SC*e .n0+(0*e .n1+(0*e .n5+0)))))=SC*(2^0*(e .p0+(e .n0+0)));simp[O3]
  rw[e1]at this;simpa using this
 |j+1=>by
  have:=(Ds m j).mono (c':=2^(j+1)) (by rw[Pc];omega);exact this
theorem vM{m:Nat}(hn:1<=n)(hc:c<=2^(n-1)):InK n c (leaf m):=by
 have:=Ds m (n-1);rw[show 1+(n-1)=n by omega]at this;exact this.less hc
theorem eK:∀f:F,bks f+1<=size f
 |.yes=>by simp[bks,size]
 |.fact _=>by simp[bks,size]
 |.turn=>by simp[bks,size]
 |.not a=>by have:=eK a;simp only[bks,size];omega
 |.and a b=>by have:=eK a;have:=eK b;simp only[bks,size];omega
 |.or a b=>by have:=eK a;have:=eK b;simp only[bks,size];omega
 |.before a=>by have:=eK a;simp only[bks,size];omega
 |.since a b=>by have:=eK a;have:=eK b;simp only[bks,size];omega
 |.next a=>by have:=eK a;simp only[bks,size];omega
 |.until a b=>by have:=eK a;have:=eK b;simp only[bks,size];omega
 |.within _ a=>by have:=eK a;simp only[bks,size];omega
theorem E7(h:5<=n):(λk=>(fq n k).map (·.2))=λk=>(fq 5 k).map (·.2):=by
 funext k;have h1:Nat.ble 1 n=true:=O7 (by omega);have h2:Nat.ble 2 n=true:=O7 (by omega);have h3:Nat.ble 3 n=true:=O7 (by omega);have h4:Nat.ble 4 n=true:=O7 (by omega);have h5:Nat.ble 5 n=true:=O7 (by omega);cases k<;>simp[fq,ds,List.filter,h,h1,h2,h3,h4,h5]
theorem B'(n:Nat):okU (λk=>(fq n k).map (·.2))=true:=by
 by_cases h:5<=n
 ·rw[E7 h];exact Ax
 ·have:n=0∨n=1∨n=2∨n=3∨n=4:=by omega
  rcases this with rfl|rfl|rfl|rfl|rfl
  ·exact AD
  ·exact AB
  ·exact AA
  ·exact Az
  ·exact Ay
theorem jr:∀f:F,InK (size f) (2^bks f) (tab f)
 |.yes=>by
  intro e M hM;have:=Dk hM Jq;have e1:dot [0,0,SC,0,0,0] (Lv e)=SC*(2^0*wt e (tab .yes)):=by
   show 0*e .p0+(0*e .p1+(SC*e .p5+(0*e .n0+(0*e .n1+(0*e .n5+0)))))=SC*(2^0*(e .p5+0));simp
  rw[e1]at this;exact this
 |.fact _=>vM (by simp[size]) (by simp[bks,size])
 |.turn=>by
  intro e M hM;show 40^1*(SC*(2^0*0))<=_;simp
 |.not a=>(jr a).un Hm
 |.and a b=>by
  have:=(jr a).bi (jr b) Hq;rw[<-Pb]at this;exact this
 |.or a b=>by
  have:=(jr a).bi (jr b) Jr;rw[<-Pb]at this;exact this
 |.before a=>vM (by simp[size]) (by have:=eK a;exact OA (by omega) (by simp only[bks,size];omega))
 |.since a b=>vM (by simp[size]) (by have:=eK a;have:=eK b;exact OA (by omega) (by simp only[bks,size];omega))
 |.next a=>(jr a).un FC
 |.until a b=>by
  have:=(jr a).bi (jr b) Ho;rw[<-Pb]at this;exact this
 |.within n a=>(jr a).un (B' n)
theorem sums:(VS.all λW=>Nat.ble (dot W [1,1,1,1,1,1]) 7104)=true:=by decide +kernel
theorem InK.up{n c:Nat}{t:Tb}(h:InK n c t):∀j,InK (n+j) c t
 |0=>h
 |j+1=>(InK.up h j).mono (by omega)
variable{f:F}
theorem G0(hs:size f<=12):2^bks f*(tab f).length<=8300:=by
 have h:=(jr f).up (12-size f);rw[show size f+(12-size f)=12 by omega]at h;have hb:Bd (Lv λ_=>1) 7104:=λW hW=>P1 (Ow.mp sums W hW);have:=h _ _ hb;have e:wt (λ_=>1) (tab f)=(tab f).length:=by
  have:∀t:Tb,wt (λ_=>1) t=t.length:=by
   intro t;induction t with
   |nil=>rfl
   |cons x t ih=>show 1+wt (λ_=>1) t=t.length+1;rw[ih];omega
  exact this _
 rw[e]at this;generalize 2^bks f*(tab f).length=x at *;have e2:SC=4096:=rfl;rw[e2]at this;omega
section
variable{C:List Nat}{k:Nat}
def Good(C:List Nat)(k:Nat)(f:F)(q:Kd):Prop:=∀j,j<=q.rn->k+j<C.length->sat C f (k+j)=q.sg
theorem Good.zero{q:Kd}(h:Good C k f q)(hk:k<C.length):sat C f k=q.sg:=h 0 (NT _) hk
theorem dB:∀f:F,past f=true->(Rdg.subs f).map (oE C k)=List.replicate (size f) 0
 |.yes,_=>rfl
 |.fact _,_=>rfl
 |.turn,h=>by simp[past]at h
 |.next _,h=>by simp[past]at h
 |.until _ _,h=>by simp[past]at h
 |.within _ _,h=>by simp[past]at h
 |.not a,h=>by
  have h:past a=true:=by simpa [past]using h
  simp only[Rdg.subs,size,N6,dB a h,N3];rfl
 |.before a,h=>by
  have h:past a=true:=by simpa [past]using h
  simp only[Rdg.subs,size,N6,dB a h,N3];rfl
 |.and a b,h=>by
  have h:past a=true/\past b=true:=by simpa [past]using h
  simp only[Rdg.subs,size,N6,NS,dB a h.1,dB b h.2,N3,PH];rfl
 |.or a b,h=>by
  have h:past a=true/\past b=true:=by simpa [past]using h
  simp only[Rdg.subs,size,N6,NS,dB a h.1,dB b h.2,N3,PH];rfl
 |.since a b,h=>by
  have h:past a=true/\past b=true:=by simpa [past]using h
  simp only[Rdg.subs,size,N6,NS,dB a h.1,dB b h.2,N3,PH];rfl
variable{o:List Nat}
theorem BF{T:Kd->List (Nat×Kd)}{q q':Kd}{v:Nat}(h:(o,q)∈t)(h':(v,q')∈T q):(v::o,q')∈un T t:=
 N9.mpr ⟨_,h,NZ.mpr ⟨_,h',rfl⟩⟩
theorem CJ{s:Tb}{u:List Nat}{q r q':Kd}{v:Nat}(h:(o,q)∈s)(h2:(u,r)∈t)(h':(v,q')∈T q r):(v::(o++u),q')∈bi T s t:=
 N9.mpr ⟨_,h,N9.mpr ⟨_,h2,NZ.mpr ⟨_,h',rfl⟩⟩⟩
theorem vL(f:F)(m:Nat):∃q,(List.replicate m 0,q)∈leaf m/\Good C k f q:=by
 cases e:sat C f k with
 |true=>exact⟨.p0,by simp[leaf],λj hj _=>by obtain rfl:j=0:=(by simpa [Kd.rn]using hj);exact e⟩
 |false=>exact⟨.n0,by simp[leaf],λj hj _=>by obtain rfl:j=0:=(by simpa [Kd.rn]using hj);exact e⟩
theorem HW(q:Kd):q.flip.sg=!q.sg:=by cases q<;>rfl
theorem HX(q:Kd):q.flip.rn=q.rn:=by cases q<;>rfl
theorem Good.flip{q:Kd}(h:Good C k f q):Good C k (.not f) q.flip:=λj hj hk=>by
 rw[HX]at hj;show(!sat C f (k+j))=_;rw[h j hj hk,HW]
theorem Good.and{f g:F}{q r:Kd}(h:Good C k f q)(h':Good C k g r):Good C k (.and f g) (EZ q r):=λj hj hk=>by
 have a1:=λz=>h j z hk;have a2:=λz=>h' j z hk;show(sat C f (k+j)&&sat C g (k+j))=_;cases q<;>cases r<;>simp only[EZ,Kd.rn,Kd.sg]at*<;>
  first
  |exact Ot.mpr ⟨a1 (by omega),a2 (by omega)⟩
  |exact Bool.and_eq_false_iff.mpr (.inl (a1 (by omega)))
  |exact Bool.and_eq_false_iff.mpr (.inr (a2 (by omega)))
theorem Good.or{f g:F}{q r:Kd}(h:Good C k f q)(h':Good C k g r):Good C k (.or f g) (orK q r):=λj hj hk=>by
 have:=(h.flip.and h'.flip).flip j hj hk;have e:sat C (.or f g) (k+j)=sat C (.not (.and (.not f) (.not g))) (k+j):=by simp[sat]
 rw[e,this];rfl
end
section
variable{C:List Nat}{k:Nat}
variable{a:F}
theorem qw{k:Nat}:sat C (.next a) k=(decide (k+1<C.length)&&sat C a (k+1)):=rfl
theorem FL{q:Kd}(h:Good C k a q)(h3:k+3<=C.length)(h6:C.length<=k+6):∃q',q'∈nextK q/\Good C k (.next a) q':=by
 have one:∀(x:Kd),x.rn=0->sat C (.next a) k=x.sg->Good C k (.next a) x:=λx hx e j hj _=>by
  obtain rfl:j=0:=by omega
  exact e
 have two:(q=.p0∨q=.n0)->∃q',q'∈nextK q/\Good C k (.next a) q':=λhq=>by
  cases e:sat C (.next a) k with
  |true=>exact⟨.p0,by rcases hq with rfl|rfl<;>simp[nextK],one _ rfl e⟩
  |false=>exact⟨.n0,by rcases hq with rfl|rfl<;>simp[nextK],one _ rfl e⟩
 cases q with
 |p0=>exact two (.inl rfl)
 |n0=>exact two (.inr rfl)
 |p1=>exact⟨.p0,by simp[nextK],one _ rfl (by rw[qw,h 1 (by simp[Kd.rn]) (by omega),NA (by omega)];rfl)⟩
 |n1=>exact⟨.n0,by simp[nextK],one _ rfl (by rw[qw,h 1 (by simp[Kd.rn]) (by omega)];exact QB _)⟩
 |p5=>
  refine⟨.p1,by simp[nextK],λj hj hk=>?_⟩;have hj:j<=1:=hj;rw[qw,show k+j+1=k+(j+1) by omega,h (j+1) (by simp[Kd.rn];omega) (by omega),NA (by omega)];rfl
 |n5=>
  refine⟨.n5,by simp[nextK],λj hj hk=>?_⟩;have hj:j<=5:=hj;rw[qw];by_cases hl:k+(j+1)<C.length
  ·rw[show k+j+1=k+(j+1) by omega,h (j+1) (by simp[Kd.rn];omega) hl];exact QB _
  ·rw[NL (by omega)];rfl
variable{b:F}
theorem GY(hk:k<C.length)(h:sat C b k=true):sat C (.until a b) k=true:=by rw[dm hk,h];rfl
theorem iY(hk:k<C.length)(h:sat C b k=false)(h':sat C a k=false):sat C (.until a b) k=false:=by rw[dm hk,h,h'];rfl
theorem GX(hk:k<C.length)(h:sat C b k=false)(h':sat C a k=true):sat C (.until a b) k=sat C (.until a b) (k+1):=by rw[dm hk,h,h'];rfl
theorem sP{a b:F}:∀(d k:Nat),C.length-k=d->(∀j,k+j<C.length->sat C b (k+j)=false)->sat C (.until a b) k=false
 |0,k,hd,_=>gj (by omega)
 |d+1,k,hd,h=>by
  have hk:k<C.length:=by omega
  rw[dm hk,show sat C b k=false from h 0 hk,sP d (k+1) (by omega) λj hj=>by rw[show k+1+j=k+(j+1) by omega];exact h _ (by omega),QB];rfl
theorem sO{a b:F}(h6:C.length<=k+6)(e:sat C (.until a b) k=false)(ha:∀i,i<=5->k+i<C.length->sat C a (k+i)=true):∀j,k+j<C.length->sat C (.until a b) (k+j)=false
 |0,_=>e
 |j+1,hl=>by
  have i1:=sO h6 e ha j (by omega);rw[dm (by omega),ha j (by omega) (by omega),Qp]at i1;exact(Bool.or_eq_false_iff.mp i1).2
theorem D0{q r:Kd}(h:Good C k a q)(h':Good C k b r)(h3:k+3<=C.length)(h6:C.length<=k+6):∃q',q'∈pj q r/\Good C k (.until a b) q':=by
 have hk:k<C.length:=by omega
 have pos:r.sg=true->Good C k (.until a b) r:=λe j hj hl=>by rw[GY hl (by rw[h' j hj hl,e]),e]
 have one:∀(x:Kd),x.rn=0->sat C (.until a b) k=x.sg->Good C k (.until a b) x:=λx hx e j hj _=>by
  obtain rfl:j=0:=by omega
  exact e
 have two:∀(x:Kd),x.rn=1->sat C (.until a b) k=x.sg->sat C (.until a b) (k+1)=x.sg->Good C k (.until a b) x:=λx hx e e2 j hj _=>by
  have:j=0∨j=1:=by omega
  rcases this with rfl|rfl
  ·exact e
  ·exact e2
 have b0:r.sg=false->sat C b k=false:=λe=>by rw[h'.zero hk,e]
 have never:r=.n5->Good C k (.until a b) .n5:=λe j hj hl=>by
  subst e;have hj:j<=5:=hj;refine sP _ _ rfl λi hi=>?_;rw[show k+j+i=k+(j+i) by omega];exact h' (j+i) (by simp[Kd.rn];omega) (by omega)
 have pn:q.sg=true->r.sg=false->r.rn≠5->(q.rn≠5->pj q r=[.p1,.n1])->(q.rn=5->pj q r=[.p1,.n5])->∃q',q'∈pj q r/\Good C k (.until a b) q':=λeq er e5 e1 e2=>by
  have st:=GX (a:=a) (b:=b) hk (b0 er) (by rw[h.zero hk,eq]);cases e:sat C (.until a b) k with
  |true=>
   refine⟨.p1,?_,two _ rfl e (by rw[<-st];exact e)⟩;by_cases z:q.rn=5
   ·rw[e2 z];simp
   ·rw[e1 z];simp
  |false=>
   by_cases z:q.rn=5
   ·refine⟨.n5,by rw[e2 z];simp,λj hj hl=>?_⟩;exact sO (by omega) e (λi hi hl=>by rw[h i (by omega) hl,eq]) j hl
   ·exact⟨.n1,by rw[e1 z];simp,two _ rfl e (by rw[<-st];exact e)⟩
 cases r with
 |p0=>exact⟨.p0,by cases q<;>simp[pj],pos rfl⟩
 |p1=>exact⟨.p1,by cases q<;>simp[pj],pos rfl⟩
 |p5=>exact⟨.p5,by cases q<;>simp[pj],pos rfl⟩
 |n5=>exact⟨.n5,by cases q<;>simp[pj],never rfl⟩
 |n0=>
  cases q with
  |p0=>exact pn rfl rfl (by simp[Kd.rn]) (λ_=>rfl) (by simp[Kd.rn])
  |p1=>exact pn rfl rfl (by simp[Kd.rn]) (λ_=>rfl) (by simp[Kd.rn])
  |p5=>exact pn rfl rfl (by simp[Kd.rn]) (by simp[Kd.rn]) (λ_=>rfl)
  |n0=>exact⟨.n0,by simp[pj],one _ rfl (iY hk (b0 rfl) (h.zero hk))⟩
  |n1=>exact⟨.n0,by simp[pj],one _ rfl (iY hk (b0 rfl) (h.zero hk))⟩
  |n5=>exact⟨.n0,by simp[pj],one _ rfl (iY hk (b0 rfl) (h.zero hk))⟩
 |n1=>
  cases q with
  |p0=>exact pn rfl rfl (by simp[Kd.rn]) (λ_=>rfl) (by simp[Kd.rn])
  |p1=>exact pn rfl rfl (by simp[Kd.rn]) (λ_=>rfl) (by simp[Kd.rn])
  |p5=>exact pn rfl rfl (by simp[Kd.rn]) (by simp[Kd.rn]) (λ_=>rfl)
  |n0=>exact⟨.n0,by simp[pj],one _ rfl (iY hk (b0 rfl) (h.zero hk))⟩
  |n1=>exact⟨.n1,by simp[pj],two _ rfl (iY hk (b0 rfl) (h.zero hk)) (iY (by omega) (h' 1 (by simp[Kd.rn]) (by omega)) (h 1 (by simp[Kd.rn]) (by omega)))⟩
  |n5=>exact⟨.n1,by simp[pj],two _ rfl (iY hk (b0 rfl) (h.zero hk)) (iY (by omega) (h' 1 (by simp[Kd.rn]) (by omega)) (h 1 (by simp[Kd.rn]) (by omega)))⟩
theorem rG{a:F}:∀(e n k:Nat),e<=n->k+e<C.length->sat C a (k+e)=true->sat C (.within n a) k=true
 |0,0,k,_,hk,h=>by rw[cI (show k<C.length from hk)];exact h
 |0,n+1,k,_,hk,h=>by rw[cJ (show k<C.length from hk),show sat C a k=true from h];rfl
 |e+1,0,k,h,_,_=>by omega
 |e+1,n+1,k,he,hk,h=>by
  rw[cJ (by omega),rG e n (k+1) (by omega) (by omega) (by rw[show k+1+e=k+(e+1) by omega];exact h),Bool.or_true]
theorem nS{a:F}:∀(n k:Nat),(∀e,e<=n->k+e<C.length->sat C a (k+e)=false)->sat C (.within n a) k=false
 |0,k,h=>by
  by_cases hk:k<C.length
  ·rw[cI hk];exact h 0 (Nq _) hk
  ·exact dO (by omega)
 |n+1,k,h=>by
  by_cases hk:k<C.length
  ·rw[cJ hk,nS n (k+1) λe he hl=>by rw[show k+1+e=k+(e+1) by omega];exact h (e+1) (by omega) (by omega),show sat C a k=false from h 0 (by omega) hk];rfl
  ·exact dO (by omega)
theorem jf{a:F}{n:Nat}:∀(d k:Nat),k+d<C.length->sat C a (k+d)=true->(∀e,e<d->sat C a (k+e)=false)->bE C n a k=n+1-d
 |0,k,hk,h,_=>by
  unfold bE;rw[dif_pos (show k<C.length from hk),Nz (show sat C a k=true from h)];omega
 |d+1,k,hk,h,no=>by
  have n0:=no 0 (by omega);unfold bE;rw[dif_pos (by omega),Nt (by rw[show sat C a k=false from n0];decide),jf d (k+1) (by omega) (by rw[show k+1+d=k+(d+1) by omega];exact h) λe he=>by rw[show k+1+e=k+(e+1) by omega];exact no _ (by omega)];omega
theorem pP{a:F}{n:Nat}:∀(d k:Nat),C.length-k=d->(∀e,k+e<C.length->sat C a (k+e)=false)->bE C n a k=0
 |0,k,hd,_=>by unfold bE;rw[dif_neg (by omega)]
 |d+1,k,hd,no=>by
  unfold bE;rw[dif_pos (by omega),Nt (by rw[show sat C a k=false from no 0 (by omega)];decide),pP d (k+1) (by omega) λe he=>by rw[show k+1+e=k+(e+1) by omega];exact no _ (by omega)]
theorem Be{a:F}(k:Nat):∀(L:Nat),(∀e,e<L->sat C a (k+e)=false)∨∃d,d<L/\sat C a (k+d)=true/\∀e,e<d->sat C a (k+e)=false
 |0=>.inl λe he=>absurd he (PZ _)
 |L+1=>by
  rcases Be (a:=a) k L with h|⟨d,h1,h2,h3⟩
  ·cases e:sat C a (k+L)with
   |true=>exact .inr ⟨L,by omega,e,h⟩
   |false=>
    refine .inl λx hx=>?_;by_cases z:x=L
    ·rw[z];exact e
    ·exact h x (by omega)
  ·exact .inr ⟨d,by omega,h2,h3⟩
theorem Gn{d:Nat}{l:List Nat}(h:d∈l)(hn:d<=n):(n+1-d,if d=5 then Kd.p5 else .p1)∈ds n l:=
 NZ.mpr ⟨d,ON.mpr ⟨h,O7 hn⟩,rfl⟩
theorem BD{q:Kd}(h:Good C k a q)(h3:k+3<=C.length)(h6:C.length<=k+6):∃q',(bE C n a k,q')∈fq n q/\Good C k (.within n a) q':=by
 have hk:k<C.length:=by omega
 have pos:q.sg=true->fq n q=[(n+1,q)]->∃q',(bE C n a k,q')∈fq n q/\Good C k (.within n a) q':=λe ew=>by
  refine⟨q,?_,λj hj hl=>?_⟩
  ·rw[ew,jf 0 k hk (by rw[QK,h.zero hk,e]) λe he=>absurd he (PZ _)];simp
  ·rw[e];exact rG 0 n (k+j) (by omega) hl (by rw[QK,h j hj hl,e])
 have neg:q.sg=false->q.rn<=1->(∀d,q.rn<d->d<=5->d<=n->(n+1-d,if d=5 then Kd.p5 else .p1)∈fq n q)->
   (5<=n->(0,Kd.n5)∈fq n q)->(n<5->∃x:Kd,x.sg=false/\x.rn<=5/\(x.rn=0∨(n=0/\x.rn=q.rn))/\(0,x)∈fq n q)->∃q',(bE C n a k,q')∈fq n q/\Good C k (.within n a) q':=λeq er w1 w2 w3=>by
  have aq:∀e,e<=q.rn->k+e<C.length->sat C a (k+e)=false:=λe he hl=>by rw[h e he hl,eq]
  have fin:(∀e,e<=n->k+e<C.length->sat C a (k+e)=false)->bE C n a k=0->∃q',(bE C n a k,q')∈fq n q/\Good C k (.within n a) q':=λno rz=>by
   rw[rz];by_cases h5:5<=n
   ·refine⟨.n5,w2 h5,λj hj hl=>nS n (k+j) λe he hl2=>?_⟩;rw[show k+j+e=k+(j+e) by omega];exact no (j+e) (by omega) (by omega)
   ·obtain⟨x,x1,x2,x3,x4⟩:=w3 (by omega);refine⟨x,x4,λj hj hl=>?_⟩;rw[x1];rcases x3 with z|⟨z,z2⟩
    ·obtain rfl:j=0:=by omega
     exact nS n k no
    ·subst z;rw[cI hl];exact aq j (by omega) hl
  rcases Be (C:=C) (a:=a) k (C.length-k)with no|⟨d,d1,d2,d3⟩
  ·exact fin (λe _ hl=>no e (by omega)) (pP _ k rfl λe he=>no e (by omega))
  ·have dq:q.rn<d:=by
    rcases PY q.rn d with z|z
    ·exact z
    ·have:=aq d z (by omega);rw[d2]at this;cases this
   by_cases dn:d<=n
   ·rw[jf d k (by omega) d2 d3];refine⟨_,w1 d dq (by omega) dn,λj hj hl=>?_⟩;have hjd:j<=d:=by
     split at hj
     ·have:j<=5:=hj;omega
     ·have:j<=1:=hj;omega
    have:sat C (.within n a) (k+j)=true:=rG (d-j) n (k+j) (by omega) (by omega) (by rw[show k+j+(d-j)=k+d by omega];exact d2);rw[this];split<;>rfl
   ·exact fin (λe he _=>d3 e (by omega)) (by rw[jf d k (by omega) d2 d3];omega)
 have Mo:∀d,0<d->d<=5->d∈[1,2,3,4,5]:=λd a b=>by have:d=1∨d=2∨d=3∨d=4∨d=5:=(by omega);rcases this with rfl|rfl|rfl|rfl|rfl<;>simp
 have Mp:∀d,1<d->d<=5->d∈[2,3,4,5]:=λd a b=>by have:d=2∨d=3∨d=4∨d=5:=(by omega);rcases this with rfl|rfl|rfl|rfl<;>simp
 cases q with
 |p0=>exact pos rfl rfl
 |p1=>exact pos rfl rfl
 |p5=>exact pos rfl rfl
 |n0=>
  refine neg rfl (by simp[Kd.rn]) (λd d1 d2 d3=>P9 _ (Gn (Mo d d1 d2) d3)) (λh5=>N8 _ (by rw[Nz h5];simp)) λh5=>⟨.n0,rfl,by simp[Kd.rn],.inl rfl,N8 _ (by rw[Nt (by omega)];simp)⟩
 |n1=>
  refine neg rfl (by simp[Kd.rn]) (λd d1 d2 d3=>P9 _ (Gn (Mp d d1 d2) d3)) (λh5=>N8 _ (by rw[Nz h5];simp)) λh5=>?_;by_cases z:n=0
  ·exact⟨.n1,rfl,by simp[Kd.rn],.inr ⟨z,rfl⟩,N8 _ (by rw[Nt (by omega),Nz z];simp)⟩
  ·exact⟨.n0,rfl,by simp[Kd.rn],.inl rfl,N8 _ (by rw[Nt (by omega),Nt z];simp)⟩
 |n5=>
  have no:∀e,k+e<C.length->sat C a (k+e)=false:=λe he=>h e (by simp[Kd.rn];omega) he;refine⟨.n5,by rw[pP _ k rfl no];simp[fq],λj hj hl=>nS n (k+j) λe he hl2=>?_⟩;rw[show k+j+e=k+(j+e) by omega];exact no _ (by omega)
theorem jq{facts:Nat}(h3:k+3<=C.length)(h6:C.length<=k+6):∀f:F,Rdg.wf facts f=true->sound f=true->∃q,((Rdg.subs f).map (oE C k),q)∈tab f/\Good C k f q
 |.yes,_,_=>⟨.p5,by simp[Rdg.subs,tab,oE],λj _ _=>rfl⟩
 |.fact i,_,_=>vL (.fact i) 1
 |.turn,h,_=>by simp[Rdg.wf]at h
 |.not a,h,s=>by
  obtain⟨q,m,g⟩:=jq h3 h6 a (by simpa [Rdg.wf]using h) (by simpa [sound]using s);exact⟨q.flip,BF (T:=BK) m (show(0,q.flip)∈BK q by simp[BK]),g.flip⟩
 |.and a b,h,s=>by
  have h:Rdg.wf facts a=true/\Rdg.wf facts b=true:=by simpa [Rdg.wf]using h
  have s:sound a=true/\sound b=true:=by simpa [sound]using s
  obtain⟨q,m,g⟩:=jq h3 h6 a h.1 s.1;obtain⟨q2,m2,g2⟩:=jq h3 h6 b h.2 s.2;refine⟨EZ q q2,?_,g.and g2⟩;have:=CJ (T:=D7) m m2 (v:=0) (q':=EZ q q2) (by simp[D7]);simpa [Rdg.subs,oE,tab]using this
 |.or a b,h,s=>by
  have h:Rdg.wf facts a=true/\Rdg.wf facts b=true:=by simpa [Rdg.wf]using h
  have s:sound a=true/\sound b=true:=by simpa [sound]using s
  obtain⟨q,m,g⟩:=jq h3 h6 a h.1 s.1;obtain⟨q2,m2,g2⟩:=jq h3 h6 b h.2 s.2;refine⟨orK q q2,?_,g.or g2⟩;have:=CJ (T:=tOr) m m2 (v:=0) (q':=orK q q2) (by simp[tOr]);simpa [Rdg.subs,oE,tab]using this
 |.before a,h,s=>by
  rw[dB (.before a) (by simpa [past,sound]using s)];exact vL (.before a) _
 |.since a b,h,s=>by
  rw[dB (.since a b) (by simpa [past,sound]using s)];exact vL (.since a b) _
 |.next a,h,s=>by
  obtain⟨q,m,g⟩:=jq h3 h6 a (by simpa [Rdg.wf]using h) (by simpa [sound]using s);obtain⟨q',m',g'⟩:=FL g h3 h6;refine⟨q',?_,g'⟩;have e:oE C k (.next a)=bit q.sg:=by
   show bit (decide (k<C.length)&&sat C a k)=_;rw[g.zero (by omega),NA (by omega)];rfl
  show(oE C k (.next a)::(Rdg.subs a).map (oE C k),q')∈un IY (tab a);rw[e];exact BF m (NZ.mpr ⟨q',m',rfl⟩)
 |.until a b,h,s=>by
  have h:Rdg.wf facts a=true/\Rdg.wf facts b=true:=by simpa [Rdg.wf]using h
  have s:sound a=true/\sound b=true:=by simpa [sound]using s
  obtain⟨q,m,g⟩:=jq h3 h6 a h.1 s.1;obtain⟨q2,m2,g2⟩:=jq h3 h6 b h.2 s.2;obtain⟨q',m',g'⟩:=D0 g g2 h3 h6;refine⟨q',?_,g'⟩;have:=CJ (T:=G2) m m2 (v:=bit q'.sg) (q':=q') (NZ.mpr ⟨q',m',rfl⟩);have e:oE C k (.until a b)=bit q'.sg:=by
   show bit (sat C (.until a b) k)=_;rw[g'.zero (by omega)]
  show(oE C k (.until a b)::(Rdg.subs a++Rdg.subs b).map (oE C k),q')∈bi G2 (tab a) (tab b);rw[e,NS];exact this
 |.within n a,h,s=>by
  have h:n<=20/\Rdg.wf facts a=true:=by simpa [Rdg.wf]using h
  obtain⟨q,m,g⟩:=jq h3 h6 a h.2 (by simpa [sound]using s);obtain⟨q',m',g'⟩:=BD (n:=n) g h3 h6;exact⟨q',BF m m',g'⟩
def outs(f:F):List (List Nat):=(tab f).map λx=>x.1++[bit x.2.sg]
theorem Hg{facts:Nat}(hw:Rdg.wf facts f=true)(hs:sound f=true)(h3:k+3<=C.length)(h6:C.length<=k+6):hC C (Rdg.subs f) k∈outs f:=by
 obtain⟨q,m,g⟩:=jq (C:=C) (k:=k) h3 h6 f hw hs;have e:Aa C (Rdg.subs f) k 0=bit q.sg:=by rw[fG (Rdg.hZ f),g.zero (by omega)]
 unfold hC;rw[e];exact NZ.mpr ⟨_,m,rfl⟩
theorem FA(hs:size f<=12):2^bks f*(outs f).length<=8300:=by
 unfold outs;rw[Nf];exact G0 hs
end
end Kx
namespace L2
open PySem PySem.Spec PyProof.Rows NK
section
variable{X:Cx}{k v:Expr}{pos:Pos}{tk tv:TE}
def I0(P:Program)(w:World)(tk tv:TE):TE:=λσ H Q=>∀p,H p=none->DN P w (upd H p (.ext (dnP P w p []))) p []->tk σ (upd H p (.ext (dnP P w p []))) λy H1=>tv σ H1 λx H2=>∃b ky,y=.ref b/\DN P w H2 p []/\cF H2 ky b/\
 ∀o,DN P w (upd H2 p o) p [(ky,x)]->Q (.ref p) (upd H2 p o)
theorem Fv(hu:X.A.units+40<cLine)(hk:PE X k tk)(hv:PE X v tv):PE X (.Dict [some k] [v] pos) (I0 X.prog X.w tk tv):=by
 intro pins s σ H Q I h;refine wpAny_Dict_any rfl rfl (by simp) (by simp) ?_;have I1:Inv X pins σ (upd H s.heap.objs.size (.ext (dnP X.prog X.w s.heap.objs.size []))) {s with heap:=s.heap.push {cls:=.type "dict",data:=.dict #[]}}:=
  I.laid (a:=s.heap.objs.size) (o:=.ext (dnP X.prog X.w s.heap.objs.size [])) (t':=s.toks) (λ_ _ q=>Nl _ q) (Nq _) (Gq (Bj s.heap))
 have h1:=h _ (I.hok.fresh (Nq _)) (Bi (Ff I.big));refine evalPairs_cons (thn (hk pins _ σ _ _ I1 h1) λkv s2 ⟨y,H2,I2,ry,q2⟩=>?_);refine Ni (Pd (hv pins s2 σ H2 _ I2 q2) (λvv s3 ⟨x,H3,I3,rx,b,ky,ey,dn,kb,q3⟩=>?_) λ_ _ e=>e);subst ey;cases ry;refine Ni (wpAny_standAt (NF ?_));refine evalPairs_nil ?_;unfold storeAll;rw[Q0];obtain⟨xs,e,dx⟩:=dn;have hz:xs.length<=sizeLine:=by rw[<-Oa dx.kn];exact dx.len
 refine Ni (Ni (wpAny_dictSet_heap (hsz:=hz) (knd:=cO X.prog X.w) (show X.A.units+16<cLine by omega) (oh I3.hok kb) (I3.dn e dx) λh' dd' hs=>NF ?_));dsimp only;rw[QC];refine NF ?_;refine⟨.ref s.heap.objs.size,_,FN I3 ⟨_,e⟩ hs dd',rfl,q3 _ ⟨_,af,?_⟩⟩;have e0:putK ([]:List (bc×V)) ky x=[(ky,x)]:=rfl;refine⟨?_,pX dx.nd,?_,dx.sys⟩
 ·rw[<-e0];exact KN.keeps (kQ e (by intro ys z;cases z)) (dx.kn.put ky kb rx)
 ·show 1<=sizeLine;decide
end
end L2
namespace Sc
open PySem PySem.Spec PyProof.Rows L2 NK
open Mir (Pt B1 dz eF)
def kIn(o:List Nat):List Int:=o.map λn=>((n:Nat):Int)
def ko(o:List Nat):bc:=o.map λn=>Sum.inl ((n:Nat):Int)
def k3(t:Nat)(m o:List Nat):bc:=[.inl (t:Int),.inr (kIn m),.inr (kIn o)]
def k2(m:List Nat)(d:Nat):bc:=[.inr (kIn m),.inl (d:Int)]
theorem ux:∀{a b:List Nat},kIn a=kIn b->a=b
 |[],[],_=>rfl
 |[],_::_,h=>by cases h
 |_::_,[],h=>by cases h
 |x::a,y::b,h=>by
  have h:(x:Int)::kIn a=(y:Int)::kIn b:=h;injection h with h1 h2;rw[ux h2,Qq h1]
theorem Co:∀{a b:List Nat},ko a=ko b->a=b
 |[],[],_=>rfl
 |[],_::_,h=>by cases h
 |_::_,[],h=>by cases h
 |x::a,y::b,h=>by
  have h:Sum.inl (x:Int)::ko a=Sum.inl (y:Int)::ko b:=h;injection h with h1 h2;injection h1 with h1;rw[Co h2,Qq h1]
variable{t:Nat}{m m' o:List Nat}
theorem JK{t':Nat}{o':List Nat}(h:k3 t m o=k3 t' m' o'):t=t'/\m=m'/\o=o':=by
 unfold k3 at h;simp only[List.cons.injEq,Sum.inl.injEq,Sum.inr.injEq,and_true]at h;exact⟨Qq h.1,ux h.2.1,ux h.2.2⟩
variable{d:Nat}
theorem JL{d':Nat}(h:k2 m d=k2 m' d'):m=m'/\d=d':=by
 unfold k2 at h;simp only[List.cons.injEq,Sum.inl.injEq,Sum.inr.injEq,and_true]at h;exact⟨ux h.1,Qq h.2⟩
theorem yU(o:List Nat):(kIn o).map V.int=nvs o:=by unfold kIn nvs;rw[O6];rfl
theorem Di(H:Hp):∀o:List Nat,Paired (NIt H) (ko o) (nvs o)
 |[]=>.nil
 |x::o=>.cons rfl (Di H o)
variable{H:Hp}{b:Addr}
theorem Cp(h:H b=some (.tup (nvs o))):cF H (ko o) b:=⟨_,h,Di H o⟩
theorem Al{H:Hp}:∀{o:List Nat}{vs:List V},Paired (NIt H) (ko o) vs->vs=nvs o
 |[],_,.nil=>rfl
 |x::o,_,.cons h t=>by
  rw[Al t];have h:_=V.int (x:Int):=h;rw[h];rfl
theorem Cn(h:cF H (ko o) b):H b=some (.tup (nvs o)):=by
 obtain⟨vs,h1,h2⟩:=h;rw[h1,Al h2]
variable{mem:List Nat}
theorem JH{p m o:Addr}{out:List Nat}(h:H p=some (.tup [nv t,.ref m,.ref o]))(hm:H m=some (.tup (nvs mem)))(ho:H o=some (.tup (nvs out))):cF H (k3 t mem out) p:=
 ⟨_,h,.cons rfl (.cons ⟨m,rfl,by rw[yU];exact hm⟩ (.cons ⟨o,rfl,by rw[yU];exact ho⟩ .nil))⟩
theorem JI{p m:Addr}(h:H p=some (.tup [.ref m,nv d]))(hm:H m=some (.tup (nvs mem))):cF H (k2 mem d) p:=
 ⟨_,h,.cons ⟨m,rfl,by rw[yU];exact hm⟩ (.cons rfl .nil)⟩
theorem CC{α:Type}[DecidableEq α]:∀(l S:List α),l.Nodup->(∀x∈l,x∈S)->l.length<=S.length
 |[],S,_,_=>NT _
 |x::l,S,nd,h=>by
  rw[PB]at nd;have hx:=h x (NB ..);have:=CC l (S.erase x) nd.2 λy hy=>(List.mem_erase_of_ne (λz=>nd.1 (by rw[<-z];exact hy))).mpr (h y (Nn _ hy));rw[List.length_erase_of_mem hx]at this;have:=List.length_pos_of_mem hx;rw[NH];omega
variable{P:Program}{w:World}{a:Addr}{kvs:List (bc×V)}
theorem Bh(d:DN P w H a kvs):(kvs.map (·.1)).Nodup:=by
 obtain⟨xs,_,dx⟩:=d;have:∀{kvs:List (bc×V)}{xs:List (bc×Addr×Value)},KN H kvs xs->kvs.map (·.1)=xs.map (·.1):=by
  intro kvs xs h;induction h with
  |nil=>rfl
  |cons a _ ih=>rw[N6,N6,ih,a.1]
 rw[this dx.kn];exact dx.nd
variable{k:bc}{v:V}
theorem CY(h:da kvs k=some v):(k,v)∈kvs:=by
 unfold da at h;cases e:kvs.find? λkv=>decide (kv.1=k)with
 |none=>rw[e]at h;cases h
 |some kv=>
  rw[e]at h;have h1:=List.find?_some e;have h2:=List.mem_of_find?_eq_some e;have h1:kv.1=k:=NG h1;have h:kv.2=v:=Nm h;rw[<-h1,<-h];exact h2
def TabOf(H:Hp)(t:Mir.Tab)(kvs:List (bc×V)):Prop:=Paired (λ(x:List Nat×List Nat) (kv:bc×V)=>kv.1=ko x.1/\∃wa,kv.2=.ref wa/\H wa=some (.tup (nvs x.2))) t kvs
variable{H':Hp}{t:Mir.Tab}
theorem TabOf.keeps(ht:∀b ys,H b=some (.tup ys)->H' b=some (.tup ys))(h:TabOf H t kvs):TabOf H' t kvs:=Paired.qS h λ_ _ ⟨a,wa,b,c⟩=>⟨a,wa,b,ht _ _ c⟩
def uc(P:Program)(w:World)(H:Hp)(r:Addr)(t:Mir.Tab):Prop:=∃kvs,DF P w H r kvs/\TabOf H t kvs
def xa(P:Program)(w:World)(H:Hp)(r:Addr)(t:Mir.Tab):Prop:=∃kvs,DN P w H r kvs/\TabOf H t kvs
def Loose(D:Ad)(H:Hp)(S:Addr->Prop):Prop:=∀b,S b->(∀p,¬cX D H b p)/\(∀ys,H b≠some (.tup ys))/\∀o u,H b≠some (.frz o u)
theorem Loose.tup{D:Ad}{H H':Hp}{S:Addr->Prop}(l:Loose D H S)(k:Kp S H H'):∀b ys,H b=some (.tup ys)->H' b=some (.tup ys):=λb ys h=>k _ _ h λz=>(l b z).2.1 ys h
variable{S:Addr->Prop}
theorem Loose.frz{D:Ad}(l:Loose D H S)(k:Kp S H H'):∀b o u,H b=some (.frz o u)->H' b=some (.frz o u):=λb o u h=>k _ _ h λz=>(l b z).2.2 o u h
variable{ps:List Pt}
theorem Loose.parts{K:Rt}{D:Ad}(l:Loose D H S)(k:Kp S H H')(h:bF K D H a ps)(hf:Frz H a):bF K D H' a ps:=
 h.kp k (λz=>let ⟨o,u,e⟩:=hf;(l a z).2.2 o u e) λb p z=>(l b z).1 p
theorem Loose.none{D:Ad}:Loose D H λ_=>False:=λ_ z=>z.elim
theorem Gr(ht:∀b ys,H b=some (.tup ys)->H' b=some (.tup ys))(hf:∀b o u,H b=some (.frz o u)->H' b=some (.frz o u))(d:DF P w H a kvs):DF P w H' a kvs:=by
 obtain⟨o,xs,e,dx⟩:=d;exact⟨o,xs,hf _ _ _ e,dx.keeps ht⟩
theorem uc.keeps{P:Program}{w:World}{H H':Hp}{r:Addr}{t:Mir.Tab}(ht:∀b ys,H b=some (.tup ys)->H' b=some (.tup ys))(hf:∀b o u,H b=some (.frz o u)->H' b=some (.frz o u))(d:uc P w H r t):uc P w H' r t:=by
 obtain⟨kvs,a,b⟩:=d;exact⟨kvs,Gr ht hf a,b.keeps ht⟩
structure WAd where
 a:Addr
 dx:Addr
 rl:Addr
 l:Addr
 fo:Addr
 tl:Addr
 ml:Addr
 kw:Addr
 kb:Addr
def wF(W:WAd)(gone tc:Nat):List (Str×V):=[("row",.ref W.rl),("parts",.ref W.l),("gone",nv gone),("turn_count",nv tc),("follower",.ref W.fo),("turns",.ref W.tl),("memories",.ref W.ml),("known_ways",.ref W.kw),("known_outlooks",.ref W.kb)]
abbrev KSt:=List (Nat×List Nat×List Nat)
def GQ(H:Hp)(ps:List Pt)(KS:KSt)(kvs:List (bc×V)):Prop:=∀kv∈kvs,∃t m o r,(t,m,o)∈KS/\kv=(k3 t m o,V.ref r)/\H r=some (.tup (nvs (Mir.aZ ps t m o)))
def GP(P:Program)(w:World)(H:Hp)(ps:List Pt)(tc:Nat)(MS:List (List Nat))(kvs:List (bc×V)):Prop:=∀kv∈kvs,∃m d r,m∈MS/\d<=6/\kv=(k2 m d,V.ref r)/\uc P w H r (Mir.bM ps tc d m)
structure cx(P:Program)(w:World)(K:Rt)(D:Ad)(H:Hp)(W:WAd)(gone tc:Nat)(ps:List Pt)(KS:KSt)(MS:List (List Nat)):Prop where
 self:H W.a=some (.ins D.wish W.dx (wF W gone tc))
 parts:bF K D H W.l ps
 frz:Frz H W.l
 kb:∃kvs,DN P w H W.kb kvs/\GQ H ps KS kvs
 kw:∃kvs,DN P w H W.kw kvs/\GP P w H ps tc MS kvs
 ne:W.kw≠W.kb
theorem GQ.keeps{KS:KSt}(ht:∀b ys,H b=some (.tup ys)->H' b=some (.tup ys))(h:GQ H ps KS kvs):GQ H' ps KS kvs:=λkv hkv=>by
 obtain⟨t,m,o,r,h1,h2,h3⟩:=h kv hkv;exact⟨t,m,o,r,h1,h2,ht _ _ h3⟩
theorem GP.keeps{P:Program}{w:World}{H H':Hp}{ps:List Pt}{tc:Nat}{MS:List (List Nat)}{kvs:List (bc×V)}(ht:∀b ys,H b=some (.tup ys)->H' b=some (.tup ys))(hf:∀b o u,H b=some (.frz o u)->H' b=some (.frz o u))(h:GP P w H ps tc MS kvs):GP P w H' ps tc MS kvs:=λkv hkv=>by
 obtain⟨m,d,r,h1,h2,h3,h4⟩:=h kv hkv;exact⟨m,d,r,h1,h2,h3,h4.keeps ht hf⟩
section
variable{P:Program}{w:World}{K:Rt}{mg:Ru}{base:Heap}{D:Ad}{H H':Hp}{W:WAd}{gone tc:Nat}{ps:List Pt}{KS:KSt}{MS:List (List Nat)}
theorem bp{P:Program}{w:World}{H:Hp}(d:DN P w H a kvs):∃f,H a=some (.ext f):=by
 obtain⟨xs,e,_⟩:=d;exact⟨_,e⟩
theorem gY(d:DN P w H a kvs)(l:Loose D H S)(k:Kp S H H')(n:¬S a):DN P w H' a kvs:=by
 obtain⟨f,e⟩:=bp d;exact d.keeps (l.tup k) (by rw[e];exact k _ _ e n)
theorem cx.kp(c:cx P w K D H W gone tc ps KS MS)(l:Loose D H S)(k:Kp S H H')(na:¬S W.a)(nb:¬S W.kb)(nw:¬S W.kw):cx P w K D H' W gone tc ps KS MS:=by
 obtain⟨kb,b1,b2⟩:=c.kb;obtain⟨kw,w1,w2⟩:=c.kw;obtain⟨o,u,e⟩:=c.frz;exact⟨k _ _ c.self na,l.parts k c.parts c.frz,⟨o,u,l.frz k _ _ _ e⟩,⟨kb,gY b1 l k nb,b2.keeps (l.tup k)⟩,⟨kw,gY w1 l k nw,w2.keeps (l.tup k) (l.frz k)⟩,c.ne⟩
theorem cx.same(c:cx P w K D H W gone tc ps KS MS)(e:aw H H'):cx P w K D H' W gone tc ps KS MS:=c.kp (S:=λ_=>False) Loose.none (aw.kp e) id id id
theorem bL{f:Heap->Prop}(e:H a=some (.ext f)):Loose D H (·=a):=λb z=>by
 subst z;exact⟨λp ⟨dx,q⟩=>(by rw[e]at q;cases q),λys q=>(by rw[e]at q;cases q),λo u q=>(by rw[e]at q;cases q)⟩
theorem cx.K6(c:cx P w K D H W gone tc ps KS MS)(d:DN P w H W.kb kvs)(ok:GQ H ps KS kvs):kvs.length<=KS.length:=by
 have:=CC (kvs.map (·.1)) (KS.map λx=>k3 x.1 x.2.1 x.2.2) (Bh d) λk hk=>by
  obtain⟨kv,hkv,rfl⟩:=NZ.mp hk;obtain⟨t,m,o,r,h1,rfl,_⟩:=ok kv hkv;exact NZ.mpr ⟨_,h1,rfl⟩
 simpa using this
def F2(MS:List (List Nat)):List bc:=MS.flatMap λm=>(List.range 7).map λd=>k2 m d
theorem Ey(MS:List (List Nat)):(F2 MS).length=MS.length*7:=by
 unfold F2;induction MS with
 |nil=>rfl
 |cons m MS ih=>rw[N5,Nk,ih,Nf,OV,NH];omega
theorem cx.K4(c:cx P w K D H W gone tc ps KS MS)(d:DN P w H W.kw kvs)(ok:GP P w H ps tc MS kvs):kvs.length<=MS.length*7:=by
 have:=CC (kvs.map (·.1)) (F2 MS) (Bh d) λk hk=>by
  obtain⟨kv,hkv,rfl⟩:=NZ.mp hk;obtain⟨m,d,r,h1,h2,rfl,_⟩:=ok kv hkv;exact N9.mpr ⟨m,h1,NZ.mpr ⟨d,NW.mpr (by omega),rfl⟩⟩
 rw[Nf,Ey]at this;exact this
inductive kc(P:Program)(w:World)(K:Rt)(D:Ad)(vs:List V)(H:Hp)(Q:VK)(E:XK):Prop
 |mk (W gone tc ps KS MS t m mem o out:_):vs=[.ref (WAd.a W),nv t,.ref m,.ref o]->cx P w K D H W gone tc ps KS MS->dz ps->KS.length<sizeLine->H m=some (.tup (nvs mem))->H o=some (.tup (nvs out))->(t,mem,out)∈KS->B1 mem->mem.length=ps.length->eF ps out->(∀r H',cx P w K D H' W gone tc ps KS MS->Kp (·=W.kb) H H'->H' r=some (.tup (nvs (Mir.aZ ps t mem out)))->Q (.ref r) H')->kc P w K D vs H Q E
abbrev oP:Stmt:=inClass (top 47) 8
theorem ik:aF ["self","turn","memory","outlook","key","holds"] ["self","turn","memory","outlook"] (az oP):=⟨rfl,rfl,rfl,by decide +kernel,rfl,by decide +kernel,by decide +kernel⟩
theorem yD{f:Addr}{fd:FuncData}(F:Fun K "step_back" "Wish.step_back" oP f fd)(T:Txt K mg D)(cq:Fn P w K mg base "holds_at_turn" 3 ["parts","turn","memory","outlook"] (ft K D))
  (gb:Fn P w K mg base "outlook_before" 2 ["parts","holds","outlook"] (i7 K D)):bw P w K mg base CX0 4 f fd ["self","turn","memory","outlook"] (kc P w K D):=by
 refine F.ok ik (λvs H Q E h=>?_) (λcdv A outer s H vs Q E hr h=>?_)
 ·obtain⟨W,gone,tc,ps,KS,MS,t,m,mem,o,out,rfl,_⟩:=h;rfl
 obtain⟨W,gone,tc,ps,KS,MS,t,m,mem,o,out,rfl,c,ok,few,hm,ho,hin,b1,ln,oo,q⟩:=h;have hu:=ED hr;refine⟨_,(ae (aG (i:=4) ik.nd rfl (Or.inl rfl) (kq (aa (pv 1) (aa (pv 2) (aa (pv 3) ag)))))
   (ae (aW (fH (yw hu (pv 4) (au (pv 0) rfl))) (ae (aG (i:=5) ik.nd rfl (Or.inl rfl) (bQ cq hr (aa (au (pv 0) rfl) (aa (pv 1) (aa (pv 2) (aa (pv 3) ag))))))
   (ai (um hu (au (pv 0) rfl) (pv 4) (bQ gb hr (aa (au (pv 0) rfl) (aa (pv 5) (aa (pv 3) ag)))) rfl))) aD)
   (ai (aA (De hu (au (pv 0) rfl) (pv 4) (λ_ _=>rfl)))))),?_⟩
 refine⟨_,rfl,_,rfl,_,rfl,(by show 3<=sizeLine;decide),λp hp=>?_⟩;have s1:aw H (upd H p (.tup [nv t,.ref m,.ref o])):=ak hp _;generalize hH1:upd H p (.tup [nv t,.ref m,.ref o])=H1 at s1;have hp1:H1 p=some (.tup [nv t,.ref m,.ref o]):=by rw[<-hH1];exact af
 have c1:=c.same s1;obtain⟨kvs,d1,ok1⟩:=c1.kb;have key:=JH hp1 (s1 _ _ hm) (s1 _ _ ho);refine⟨_,rfl,_,rfl,W.a,D.wish,W.dx,_,_,rfl,c1.self,T.bN,T.dS,rfl,W.kb,p,kvs,k3 t mem out,rfl,rfl,d1,key,_,rfl,?_⟩;cases hv:da kvs (k3 t mem out)with
 |some v=>
  refine l4 ?_;obtain⟨t',m',o',r,z1,z2,z3⟩:=ok1 _ (CY hv);injection z2 with z2 z4;obtain⟨rfl,rfl,rfl⟩:=JK z2;subst z4;exact⟨_,rfl,W.a,D.wish,W.dx,_,_,rfl,c1.self,T.bN,T.dS,rfl,_,rfl,W.kb,p,kvs,_,_,rfl,rfl,d1,key,hv,q r _ c1 (aw.kp s1) z3⟩
 |none=>
  refine cp ?_;refine⟨_,rfl,W.a,D.wish,W.dx,_,_,rfl,c1.self,T.bN,T.jJ,rfl,_,rfl,_,rfl,_,rfl,W.l,ps,t,m,mem,o,out,rfl,c1.parts,ok,SqT.of (s1 _ _ hm),SqT.of (s1 _ _ ho),ln,b1,oo,λr2 H2 s2 n2 e2=>?_⟩;have c2:=c1.same s2;refine⟨_,rfl,W.a,D.wish,W.dx,_,_,rfl,c2.self,T.bN,T.jJ,rfl,_,rfl,_,rfl,W.l,ps,r2,_,o,out,rfl,c2.parts,ok,SqL.of e2,Mir.gF ..,Mir.kK _ b1 oo,SqT.of (s2 _ _ (s1 _ _ ho)),oo.1,λr3 H3 s3 e3=>?_⟩;have c3:=c2.same s3;have s23:=s2.trans s3;have d3:=DN.same s23 d1;have F3:=cF.keeps (aw.tup s23) key;have ok3:=ok1.keeps (aw.tup s23);refine⟨_,rfl,W.a,D.wish,W.dx,_,_,rfl,c3.self,T.bN,T.dS,rfl,_,rfl,W.kb,p,kvs,_,rfl,rfl,d3,F3,Ql (c3.K6 d3 ok3) few,λob d4=>?_⟩;obtain⟨fx,ex⟩:=bp d3;have lo:Loose D H3 (·=W.kb):=bL ex;have k4:Kp (·=W.kb) H3 (upd H3 W.kb ob):=aJ;have nab:W.a≠W.kb:=bJ c3.self ex (by intro z;cases z);have val:Mir.aZ ps t mem out=Mir.dC ps (Mir.dM ps t mem out) out:=rfl;have e4:(upd H3 W.kb ob) r3=some (.tup (nvs (Mir.aZ ps t mem out))):=lo.tup k4 _ _ e3;obtain⟨ow,uw,ew⟩:=c3.frz;obtain⟨kwv,w1,w2⟩:=c3.kw;have c4:cx P w K D (upd H3 W.kb ob) W gone tc ps KS MS:=by
   refine⟨k4 _ _ c3.self nab,lo.parts k4 c3.parts c3.frz,⟨ow,uw,lo.frz k4 _ _ _ ew⟩,⟨_,d4,?_⟩,⟨kwv,gY w1 lo k4 c3.ne,w2.keeps (lo.tup k4) (lo.frz k4)⟩,c3.ne⟩;rw[vj _ hv];intro kv hkv;rcases Np.mp hkv with z|z
   ·exact(ok3.keeps (lo.tup k4)) kv z
   ·rw[Nu.mp z];exact⟨t,mem,out,r3,hin,rfl,e4⟩
  refine⟨_,rfl,W.a,D.wish,W.dx,_,_,rfl,c4.self,T.bN,T.dS,rfl,_,rfl,W.kb,p,_,_,_,rfl,rfl,d4,cF.keeps (lo.tup k4) F3,(by rw[zC,Nz rfl]),q r3 _ c4 ((aw.kp (s1.trans s23)).trans k4) e4⟩
end
variable{acc:Mir.Tab}
theorem C0(h:TabOf H acc kvs)(o:List Nat):(da kvs (ko o)).isSome=acc.any λy=>decide (y.1=o):=by
 rw[<-ib];induction h with
 |nil=>rfl
 |cons a _ ih=>
  rw[OB,OB,ih,a.1];congr 1;exact decide_eq_decide.mpr ⟨Co,λz=>by rw[z]⟩
theorem Fm(acc:Mir.Tab)(x:List Nat×List Nat):(Mir.dk acc x).length<=acc.length+1:=by
 unfold Mir.dk;split
 ·omega
 ·rw[Nk,Ny];exact Nq _
theorem jD(l:Mir.Tab):∀acc:Mir.Tab,(l.foldl Mir.dk acc).length<=acc.length+l.length:=by
 induction l with
 |nil=>intro acc;exact Nq _
 |cons x l ih=>
  intro acc;have h1:=ih (Mir.dk acc x);have h2:=Fm acc x;rw[PD,NH];omega
section
variable{P:Program}{w:World}{K:Rt}{mg:Ru}{base:Heap}{D:Ad}
theorem zP{r b wa:Addr}{way:List Nat}(d:DN P w H r kvs)(h:TabOf H acc kvs)(hw:H wa=some (.tup (nvs way))):
  (∀v0,da kvs (ko o)=some v0->xa P w H r (Mir.dk acc (o,way)))/\
   (da kvs (ko o)=none->∀ob,DN P w (upd H r ob) r (kvs++[(ko o,.ref wa)])->xa P w (upd H r ob) r (Mir.dk acc (o,way))):=by
 have tv:=C0 h o;constructor
 ·intro v0 e;rw[e]at tv;rw[Mir.uS tv.symm];exact⟨kvs,d,h⟩
 ·intro e ob d';rw[e]at tv;rw[Mir.zT (by rw[<-tv];exact NI)];obtain⟨fx,ex⟩:=bp d;have ht:∀c ys,H c=some (.tup ys)->upd H r ob c=some (.tup ys):=kQ ex (by intro ys z;cases z);exact⟨_,d',Qg (h.keeps ht) ⟨rfl,wa,rfl,ht _ _ hw⟩⟩
theorem yi(h:TabOf H t kvs){i:Nat}(e:kvs[i]?=some (k,v)):∃x wa,t[i]?=some x/\k=ko x.1/\v=.ref wa/\H wa=some (.tup (nvs x.2)):=by
 have hi:i<t.length:=by rw[Oa h];exact(Nh.mp e).1
 obtain⟨kv,e1,e2,wa,e3,e4⟩:=dv h (Ng hi);have:=Nm (e.symm.trans e1);subst this;exact⟨_,wa,Ng hi,e2,e3,e4⟩
inductive uQ(P:Program)(w:World)(K:Rt)(D:Ad)(vs:List V)(H:Hp)(Q:VK)(E:XK):Prop
 |mk (W gone tc ps KS MS wd t m mem tab:_):vs=[.ref (WAd.a W),.ref wd,nv t,.ref m]->cx P w K D H W gone tc ps KS MS->dz ps->KS.length<sizeLine->H m=some (.tup (nvs mem))->uc P w H wd tab->tab.length<sizeLine->(∀x∈tab,(t,mem,x.1)∈KS/\eF ps x.1)->B1 mem->mem.length=ps.length->(∀r H',cx P w K D H' W gone tc ps KS MS->Kp (·=W.kb) H H'->uc P w H' r (Mir.behind ps tab (t,mem))->Q (.ref r) H')->uQ P w K D vs H Q E
abbrev gP:Stmt:=inClass (top 47) 5
theorem cN:aF ["self","ways","turn","memory","firsts","outlook","way"] ["self","ways","turn","memory"] (az gP):=⟨rfl,rfl,rfl,by decide +kernel,rfl,by decide +kernel,by decide +kernel⟩
theorem oF{f:Addr}{fd:FuncData}(F:Fun K "ways_behind_turn" "Wish.ways_behind_turn" gP f fd)(T:Txt K mg D)
  (nM:Mt P w K mg base D.wish "step_back" 4 ["self","turn","memory","outlook"] (kc P w K D)):bw P w K mg base CX0 5 f fd ["self","ways","turn","memory"] (uQ P w K D):=by
 refine F.ok cN (λvs H Q E h=>?_) (λcdv A outer s H vs Q E hr h=>?_)
 ·obtain⟨W,gone,tc,ps,KS,MS,wd,t,m,mem,tab,rfl,_⟩:=h;rfl
 obtain⟨W,gone,tc,ps,KS,MS,wd,t,m,mem,tab,rfl,c,ok,few,hm,⟨kvs,hd,ht⟩,tl,hk,b1,ln,q⟩:=h;have hu:=ED hr;refine⟨_,(ae (aG (i:=4) cN.nd rfl (Or.inl rfl) n8)
   (ae (cu NU rfl (nZ (pv 1)) (gN rfl (bt (aL (i:=5) cN.nd rfl (Or.inl rfl)) (bt (aL (i:=6) cN.nd rfl (Or.inl rfl)) eZ))) (ai (b6 (Ai hu (pv 4) (bZ (pv 0) nM hr (aa (pv 2) (aa (pv 3) (aa (pv 5) ag)))) (pv 6) ⟨rfl,rfl,rfl,rfl⟩))))
   (ai (aA (du (pv 4)))))),?_⟩
 intro p hp dp;have s1:aw H (upd H p (.ext (dnP P w p []))):=ak hp _;obtain⟨od,xs,hf,dx⟩:=id hd;refine⟨_,rfl,wd,od,kvs,xs,rfl,s1 _ _ hf,dx.keeps (aw.tup s1),kO (P:=P) (w:=w) (d:=wd) (ob:=od) (kvs:=kvs) (xs:=xs)
  (λi σ H'=>(∃v5 v6:Option V,σ=[some (.ref W.a),some (.ref wd),some (nv t),some (.ref m),some (.ref p),v5,v6])/\cx P w K D H' W gone tc ps KS MS/\Kp (·=W.kb) H H'/\xa P w H' p (((tab.take i).map λx=>(Mir.aZ ps t mem x.1,x.2)).foldl Mir.dk []))
  ⟨⟨none,none,rfl⟩,c.same s1,aw.kp s1,⟨[],dp,.nil⟩⟩ ?_ ?_ ?_⟩
 ·rintro i σ H' _ ⟨_,c2,k2,_⟩;obtain⟨kb,e1,_⟩:=c.kb;obtain⟨fx,ex⟩:=bp e1;have lo:Loose D H (·=W.kb):=bL ex;exact⟨lo.frz k2 _ _ _ hf,(dx.keeps (lo.tup k2)).kn⟩
 ·rintro i k v T0 b σ H' hkv ⟨⟨v5,v6,rfl⟩,c2,k2,Cm,d2,t2⟩ hT hb;obtain⟨x,wa,hx,rfl,rfl,hwa⟩:=yi ht hkv;obtain⟨kb,e1,_⟩:=c.kb;obtain⟨fx,ex⟩:=bp e1;have lo:Loose D H (·=W.kb):=bL ex;have s3:aw H' (upd H' T0 (.tup [.ref b,.ref wa])):=ak hT _;have c3:=c2.same s3;have ob:=Cn hb;have xm:x∈tab:=Nr hx;refine⟨T0,_,rfl,SqT.of af,rfl,_,_,rfl,_,_,rfl,rfl,?_⟩;refine⟨_,rfl,p,Cm,rfl,DN.same s3 d2,?_⟩;refine⟨_,rfl,W.a,W.dx,_,rfl,c3.self,rfl,_,rfl,_,rfl,_,rfl,W,gone,tc,ps,KS,MS,t,m,mem,b,x.1,rfl,c3,ok,few,s3 _ _ (lo.tup k2 _ _ hm),s3 _ _ ob,(hk x xm).1,b1,ln,(hk x xm).2,λr H4 c4 k4 e4=>?_⟩;obtain⟨kb3,e3,_⟩:=c3.kb;obtain⟨fx3,ex3⟩:=bp e3;have lo3:Loose D (upd H' T0 (.tup [.ref b,.ref wa])) (·=W.kb):=bL ex3;have npk:p≠W.kb:=by
   intro z;rw[z,ex]at hp;cases hp
  have d4:DN P w H4 p Cm:=gY (DN.same s3 d2) lo3 k4 npk;have ht4:∀b ys,(upd H' T0 (.tup [.ref _,.ref wa])) b=some (.tup ys)->H4 b=some (.tup ys):=lo3.tup k4;have t4:TabOf H4 _ Cm:=(t2.keeps (aw.tup s3)).keeps ht4;have wa4:H4 wa=some (.tup (nvs x.2)):=ht4 _ _ (s3 _ _ (lo.tup k2 _ _ hwa));have len:Cm.length<sizeLine:=by
   have:=Oa t2;have:=jD ((tab.take i).map λx=>(Mir.aZ ps t mem x.1,x.2)) [];rw[Nf,N2]at this;simp only[O4]at this;omega
  obtain⟨old,new⟩:=zP (o:=Mir.aZ ps t mem x.1) d4 t4 wa4 (wa:=wa) (b:=b);have kk:Kp (·=W.kb) H H4:=(k2.trans (aw.kp s3)).trans k4;have stp:((tab.take (i+1)).map λx=>(Mir.aZ ps t mem x.1,x.2)).foldl Mir.dk []=Mir.dk (((tab.take i).map λx=>(Mir.aZ ps t mem x.1,x.2)).foldl Mir.dk []) (Mir.aZ ps t mem x.1,x.2):=by
   rw[OG,hx,NS,Ox];rfl
  refine⟨_,rfl,r,Cm,ko (Mir.aZ ps t mem x.1),rfl,d4,Cp e4,len,λv0 hv0=>?_,λhv0 ob d5=>?_⟩
  ·refine⟨⟨_,_,rfl⟩,c4,kk,?_⟩;rw[stp];exact old v0 hv0
  ·obtain⟨f4,ex4⟩:=bp d4;have k5:Kp (·=p) H4 (upd H4 p ob):=aJ;have lo4:Loose D H4 (·=p):=bL ex4;obtain⟨kb4,e5,_⟩:=c4.kb;obtain⟨f5,ex5⟩:=bp e5;obtain⟨kw4,e6,_⟩:=c4.kw;obtain⟨f6,ex6⟩:=bp e6;have npw:W.kw≠p:=by
    intro z;obtain⟨kw0,e7,_⟩:=c.kw;obtain⟨f7,ex7⟩:=bp e7;rw[z,hp]at ex7;cases ex7
   refine⟨⟨_,_,rfl⟩,c4.kp lo4 k5 (bJ c4.self ex4 (by intro z;cases z)) (λz=>npk z.symm) npw,λb0 o0 h0 n0=>?_,?_⟩
   ·rw[aB (ax h0 hp)];exact kk _ _ h0 n0
   ·rw[stp];exact new hv0 ob d5
 ·rintro σ H' ⟨⟨v5,v6,rfl⟩,c2,k2,Cm,d2,t2⟩;obtain⟨xs2,ex2,dx2⟩:=id d2;refine⟨_,rfl,p,_,ex2,trivial,λod2=>?_⟩;have lo:Loose D H' (·=p):=bL ex2;have k3:Kp (·=p) H' (upd H' p (.frz od2 (.ext (dnP P w p xs2)))):=aJ;obtain⟨kb0,e1,_⟩:=c.kb;obtain⟨f1,ex1⟩:=bp e1;obtain⟨kw0,e7,_⟩:=c.kw;obtain⟨f7,ex7⟩:=bp e7;have c3:=c2.kp lo k3 (bJ c2.self ex2 (by intro z;cases z)) (λz=>by rw[z,hp]at ex1;cases ex1) (λz=>by rw[z,hp]at ex7;cases ex7);refine q p _ c3 (λb0 o0 h0 n0=>by rw[aB (ax h0 hp)];exact k2 _ _ h0 n0) ⟨Cm,⟨od2,xs2,af,dx2.keeps (lo.tup k3)⟩,?_⟩;have:=t2.keeps (lo.tup k3);rw[show tab.take kvs.length=tab by rw[<-Oa ht,Oj]]at this;exact this
end
structure Clo(ps:List Pt)(tc:Nat)(KS:KSt)(MS:List (List Nat)):Prop where
 mb:∀m∈MS,B1 m/\m.length=ps.length
 mn:∀m∈MS,∀t,t<tc->Mir.bB ps t m∈MS
 ks:∀m∈MS,∀t,t<tc->∀d,d<=5->∀x∈Mir.bM ps tc d (Mir.bB ps t m),(t,m,x.1)∈KS
variable{x:List Nat×List Nat}
theorem Fj{y:List Nat×List Nat}(h:y∈Mir.dk acc x):y∈acc∨y=x:=by
 unfold Mir.dk at h;split at h
 ·exact .inl h
 ·rcases Np.mp h with z|z
  ·exact .inl z
  ·exact .inr (Nu.mp z)
theorem nY(l:Mir.Tab):∀(acc:Mir.Tab)(y:List Nat×List Nat),y∈l.foldl Mir.dk acc->y∈acc∨y∈l:=by
 induction l with
 |nil=>exact λacc y h=>.inl h
 |cons x l ih=>
  intro acc y h;rcases ih _ _ h with z|z
  ·rcases Fj z with z|z
   ·exact .inl z
   ·exact .inr (by rw[z];exact NB ..)
  ·exact .inr (Nn _ z)
theorem rJ{ps:List Pt}{tc:Nat}{KS:KSt}{MS:List (List Nat)}(C:Clo ps tc KS MS):∀(d:Nat)(m:List Nat),m∈MS->∀x∈Mir.bM ps tc d m,eF ps x.1
 |0,m,_,x,hx=>by
  rw[Nu.mp hx];exact Mir.qV ps
 |d+1,m,hm,x,hx=>by
  rcases nY _ _ _ hx with z|z
  ·cases z
  ·obtain⟨t,ht,z⟩:=N9.mp z;obtain⟨y,hy,rfl⟩:=NZ.mp z;exact Mir.mi _ (C.mb m hm).1 (rJ C d _ (C.mn m hm t (NW.mp ht)) y hy)
theorem gK{α β:Type}(f:α->List β)(B:Nat):∀l:List α,(∀x∈l,(f x).length<=B)->(l.flatMap f).length<=l.length*B
 |[],_=>by simp
 |x::l,h=>by
  have h1:=gK f B l λy hy=>h y (Nn _ hy);have h2:=h x (NB ..);rw[N5,Nk,NH,P0,Q6];omega
theorem fQ(ps:List Pt)(tc:Nat):∀(d:Nat)(m:List Nat),(Mir.bM ps tc d m).length<=tc^d
 |0,m=>Nq _
 |d+1,m=>by
  refine NR (jD _ []) ?_;have:=gK (λt=>(Mir.bM ps tc d (Mir.bB ps t m)).map λx=>(Mir.aZ ps t m x.1,t::x.2)) (tc^d) (List.range tc) λt _=>by rw[Nf];exact fQ ps tc d _
  rw[OV]at this;simp only[O4,PX];rw[Pc,OJ];exact this
theorem uL{ps:List Pt}{tc:Nat}:∀(d:Nat)(m:List Nat),∀x∈Mir.bM ps tc d m,x.2.length=d
 |0,m,x,hx=>by rw[Nu.mp hx];rfl
 |d+1,m,x,hx=>by
  rcases nY _ _ _ hx with z|z
  ·cases z
  ·obtain⟨t,ht,z⟩:=N9.mp z;obtain⟨y,hy,rfl⟩:=NZ.mp z;rw[NH,uL d _ y hy]
theorem FR{kv:bc×V}(h:kv∈putK kvs k v):kv∈kvs∨kv=(k,v):=by
 unfold putK at h;split at h
 ·obtain⟨y,hy,e⟩:=NZ.mp h;by_cases z:y.1=k
  ·rw[Nz z,z]at e;exact .inr e.symm
  ·rw[Nt z]at e;rw[<-e];exact .inl hy
 ·rcases Np.mp h with z|z
  ·exact .inl z
  ·exact .inr (Nu.mp z)
variable{tc:Nat}
theorem C'(h:tc<=8)(hd:d<=6):tc^d<=262144:=NR (Q7 h d) (NR (OA (by omega) hd) (by decide))
theorem FX:262144<sizeLine:=by decide
def gAt(ps:List Pt)(tc d:Nat)(mem:List Nat)(t:Nat):Mir.Tab:=(Mir.bM ps tc d (Mir.bB ps t mem)).map λx=>(Mir.aZ ps t mem x.1,t::x.2)
def Bs(ps:List Pt)(tc d:Nat)(mem:List Nat)(i:Nat):Mir.Tab:=((List.range i).flatMap (gAt ps tc d mem)).foldl Mir.dk []
def ua(ps:List Pt)(tc d:Nat)(mem:List Nat)(i j:Nat):Mir.Tab:=((gAt ps tc d mem i).take j).foldl Mir.dk (Bs ps tc d mem i)
theorem E2(ps:List Pt)(tc d:Nat)(mem:List Nat)(i:Nat):ua ps tc d mem i 0=Bs ps tc d mem i:=by unfold ua;rw[PQ];rfl
theorem E3{i j:Nat}(hx:(Mir.bM ps tc d (Mir.bB ps i mem))[j]?=some x):ua ps tc d mem i (j+1)=Mir.dk (ua ps tc d mem i j) (Mir.aZ ps i mem x.1,i::x.2):=by
 unfold ua;have e:(gAt ps tc d mem i)[j]?=some (Mir.aZ ps i mem x.1,i::x.2):=by unfold gAt;rw[NC,hx];rfl
 rw[OG,e,Ox];rfl
theorem E4(ps:List Pt)(tc d:Nat)(mem:List Nat)(i:Nat):ua ps tc d mem i (Mir.bM ps tc d (Mir.bB ps i mem)).length=Bs ps tc d mem (i+1):=by
 unfold ua Bs;have e:(Mir.bM ps tc d (Mir.bB ps i mem)).length=(gAt ps tc d mem i).length:=by unfold gAt;rw[Nf]
 rw[e,Oj,Q5,Ov,Ox,Qu]
theorem E1(ps:List Pt)(tc d:Nat)(mem:List Nat):Bs ps tc d mem tc=Mir.bM ps tc (d+1) mem:=rfl
theorem GH(ps:List Pt)(tc d:Nat)(mem:List Nat){i:Nat}(hi:i<tc)(j:Nat):(ua ps tc d mem i j).length<=tc*tc^d:=by
 have a2:=jD ((gAt ps tc d mem i).take j) (Bs ps tc d mem i);have a3:=jD ((List.range i).flatMap (gAt ps tc d mem)) [];have gl:∀t,(gAt ps tc d mem t).length<=tc^d:=λt=>by unfold gAt;rw[Nf];exact fQ ps tc d _
 have a4:=gK (gAt ps tc d mem) (tc^d) (List.range i) λt _=>gl t;rw[OV]at a4;rw[N2]at a2;have a5:=gl i;simp only[O4]at a3;have a6:i*tc^d+tc^d<=tc*tc^d:=by rw[<-Nat.succ_mul];exact Oh _ hi
 unfold ua;unfold Bs at *;omega
section
variable{P:Program}{w:World}{K:Rt}{mg:Ru}{base:Heap}{D:Ad}
inductive gB(P:Program)(w:World)(K:Rt)(D:Ad)(n:Nat)(vs:List V)(H:Hp)(Q:VK)(E:XK):Prop
 |mk (W gone tc ps KS MS m mem d:_):vs=[.ref (WAd.a W),.ref m,nv d]->d<n->cx P w K D H W gone tc ps KS MS->dz ps->KS.length<sizeLine->MS.length*7<sizeLine->tc<=8->Clo ps tc KS MS->d<=6->H m=some (.tup (nvs mem))->mem∈MS->(∀r H',cx P w K D H' W gone tc ps KS MS->Kp (λb=>b=W.kb∨b=W.kw) H H'->uc P w H' r (Mir.bM ps tc d mem)->Q (.ref r) H')->gB P w K D n vs H Q E
variable{W:WAd}{gone:Nat}{KS:KSt}{MS:List (List Nat)}
theorem nD{H1 H2:Hp}{p:Addr}{f:Heap->Prop}(c0:cx P w K D H W gone tc ps KS MS)(hp:H p=none)(c:cx P w K D H1 W gone tc ps KS MS)(e:H1 p=some (.ext f))(k:Kp (·=p) H1 H2):cx P w K D H2 W gone tc ps KS MS:=by
 obtain⟨kb,b1,_⟩:=c0.kb;obtain⟨kw,w1,_⟩:=c0.kw;obtain⟨f1,e1⟩:=bp b1;obtain⟨f2,e2⟩:=bp w1;exact c.kp (bL e) k (bJ c.self e (by intro z;cases z)) (λz=>by rw[z,hp]at e1;cases e1) (λz=>by rw[z,hp]at e2;cases e2)
theorem cE(c:cx P w K D H W gone tc ps KS MS):Loose D H λb=>b=W.kb∨b=W.kw:=λb z=>by
 obtain⟨kb,b1,_⟩:=c.kb;obtain⟨kw,w1,_⟩:=c.kw;obtain⟨f1,e1⟩:=bp b1;obtain⟨f2,e2⟩:=bp w1;rcases z with z|z
 ·exact bL e1 b z
 ·exact bL e2 b z
theorem vx{p:Addr}(c:cx P w K D H W gone tc ps KS MS)(hp:H p=none):¬(p=W.kb∨p=W.kw):=λz=>by
 obtain⟨kb,b1,_⟩:=c.kb;obtain⟨kw,w1,_⟩:=c.kw;obtain⟨f1,e1⟩:=bp b1;obtain⟨f2,e2⟩:=bp w1;rcases z with rfl|rfl
 ·rw[hp]at e1;cases e1
 ·rw[hp]at e2;cases e2
theorem vQ{H1 H2:Hp}{p:Addr}(hp:H p=none)(k:Kp S H H1)(k2:Kp (·=p) H1 H2):Kp S H H2:=λb o h n=>k2 _ _ (k _ _ h n) (ax h hp)
theorem yh{p:Addr}(h:xa P w H p t):∃u,H p=some u/\Mut (some u)/\∀od,uc P w (upd H p (.frz od u)) p t/\Kp (·=p) H (upd H p (.frz od u)):=by
 obtain⟨kvs,d,ht⟩:=h;obtain⟨xs,ex,dx⟩:=id d;refine⟨_,ex,trivial,λod=>⟨⟨kvs,⟨od,xs,af,dx.keeps ?_⟩,ht.keeps ?_⟩,aJ⟩⟩
 ·exact kQ ex (by intro ys z;cases z)
 ·exact kQ ex (by intro ys z;cases z)
abbrev lC:Stmt:=inClass (top 47) 7
theorem b4:aF ["self","memory","length","last_outlook","firsts","turn","later_memory","outlook","way"] ["self","memory","length"] (az lC):=⟨rfl,rfl,rfl,by decide +kernel,rfl,by decide +kernel,by decide +kernel⟩
variable{f:Addr}{fd:FuncData}
theorem tR(n:Nat)(F:Fun K "find_ways_on" "Wish.find_ways_on" lC f fd)(T:Txt K mg D)(bV:Fn P w K mg base "outlook_at_last_turn" 3 ["parts"] (uO K D Mir.last))
  (cq:Fn P w K mg base "holds_at_turn" 3 ["parts","turn","memory","outlook"] (ft K D))(eA:Fn P w K mg base "memory_after" 1 ["parts","holds"] (ie K D))
  (nM:Mt P w K mg base D.wish "step_back" 4 ["self","turn","memory","outlook"] (kc P w K D))(sM:Mt P w K mg base D.wish "ways_on" (4+2*n) ["self","memory","length"] (gB P w K D n)):
  bw P w K mg base CX0 (4+2*n+1) f fd ["self","memory","length"] (gB P w K D (n+1)):=by
 refine F.ok b4 (λvs H Q E h=>?_) (λcdv A outer s H vs Q E hr h=>?_)
 ·obtain⟨W,gone,tc,ps,KS,MS,m,mem,d,rfl,_⟩:=h;rfl
 obtain⟨W,gone,tc,ps,KS,MS,m,mem,d,rfl,dn,c,ok,few,EM,t8,C,d6,hm,hin,q⟩:=h;have hu:=ED hr;refine⟨_,(ae (aG (i:=3) b4.nd rfl (Or.inl rfl) (bQ bV hr (aa (au (pv 0) rfl) ag) (by omega)))
   (ae (aW (aH bH (pv 2) ao (aU _)) (ai (aA (du (Fv hu (pv 3) (kq ag))))) aD)
   (ae (aG (i:=4) b4.nd rfl (Or.inl rfl) n8)
   (ae (cu NU rfl (fA rfl T.range (aa (au (pv 0) rfl) ag)) (aL (i:=5) b4.nd rfl (Or.inl rfl)) (ae (aG (i:=6) b4.nd rfl (Or.inl rfl) (bQ eA hr (aa (au (pv 0) rfl) (aa (bQ cq hr (aa (au (pv 0) rfl) (aa (pv 5) (aa (pv 1) (aa (pv 3) ag)))) (by omega)) ag)) (by omega)))
   (ai (cu NU rfl (nZ (bZ (pv 0) sM hr (aa (pv 6) (aa (aI dh (pv 2) ao) ag)) (by omega))) (gN rfl (bt (aL (i:=7) b4.nd rfl (Or.inl rfl)) (bt (aL (i:=8) b4.nd rfl (Or.inl rfl)) eZ))) (ai (b6 (Ai hu (pv 4) (bZ (pv 0) nM hr (aa (pv 5) (aa (pv 1) (aa (pv 7) ag))) (by omega)) (aI Hh (kq (aa (pv 5) ag)) (pv 8)) ⟨rfl,rfl,rfl,rfl⟩)))))))
   (ai (aA (du (pv 4)))))))),?_⟩
 refine⟨_,rfl,W.a,D.wish,W.dx,_,_,rfl,c.self,T.bN,T.jJ,rfl,W.l,ps,rfl,c.parts,ok,λr1 H1 s1 e1=>?_⟩;have c1:=c.same s1;refine⟨_,rfl,rfl,_,rfl,?_⟩;refine bD (λz=>?_) (λz=>?_)
 ·have z:=eqI.mp z;obtain rfl:d=0:=by omega
  intro p hp dp;have s2:aw H1 (upd H1 p (.ext (dnP P w p []))):=ak hp _;refine⟨_,rfl,(by show 0<=sizeLine;decide),λp2 hp2=>?_⟩;have main:∀H3,aw (upd H1 p (.ext (dnP P w p []))) H3->H3 p2=some (.tup [])->∃b ky,V.ref r1=V.ref b/\DN P w H3 p []/\cF H3 ky b/\∀o,DN P w (upd H3 p o) p [(ky,V.ref p2)]->∃d u,(upd H3 p o) d=some u/\Mut (some u)/\∀od,Q (.ref p) (upd (upd H3 p o) d (.frz od u)):=?_
  ·exact main _ (ak hp2 _) af
  intro H3 s3 e2;have d3:DN P w H3 p []:=DN.same s3 dp;have c3:=(c1.same s2).same s3;have k13:Kp (λb=>b=W.kb∨b=W.kw) H H3:=aw.kp ((s1.trans s2).trans s3);obtain⟨f3,ex3⟩:=bp d3;have hpH:H p=none:=s1.free hp;refine⟨r1,ko (Mir.last ps),rfl,d3,Cp (s3 _ _ (s2 _ _ e1)),λo d4=>?_⟩;have c4:=nD c hpH c3 ex3 (aJ (o:=o));have tm:xa P w (upd H3 p o) p (Mir.bM ps tc 0 mem):=⟨_,d4,.cons ⟨rfl,p2,rfl,kQ ex3 (by intro ys z;cases z) _ _ e2⟩ .nil⟩;obtain⟨u,eu,mu,hu2⟩:=yh tm;refine⟨p,u,eu,mu,λod=>?_⟩;obtain⟨tf,kf⟩:=hu2 od;obtain⟨f4,ex4⟩:=bp d4;exact q p _ (nD c hpH c4 ex4 kf) (vQ hpH (vQ hpH k13 aJ) kf) tf
 ·have z:d≠0:=λe=>z (by rw[e];exact NA rfl);intro p hp dp;have s2:aw H1 (upd H1 p (.ext (dnP P w p []))):=ak hp _;have c2:=c1.same s2;have lo1:=cE c1;have hpk:=vx c1 hp;have m1:H1 m=some (.tup (nvs mem)):=s1 _ _ hm;have pw:tc*tc^(d-1)<=262144:=by
   have:=C' t8 d6;rw[show d=(d-1)+1 by omega,Pc,OJ]at this;exact this
  refine⟨_,rfl,W.a,D.wish,W.dx,_,_,rfl,c2.self,T.bN,T.vA,rfl,(tc:Int),rfl,by omega,by omega,jT (lo:=0) (n:=((tc:Nat):Int).toNat)
   (λi σ H'=>(∃v5 v6 v7 v8:Option V,σ=[some (.ref W.a),some (.ref m),some (nv d),some (.ref r1),some (.ref p),v5,v6,v7,v8])/\cx P w K D H' W gone tc ps KS MS/\Kp (λb=>b=W.kb∨b=W.kw) H1 H'/\
    xa P w H' p (Bs ps tc (d-1) mem i))
   ⟨⟨none,none,none,none,rfl⟩,c2,aw.kp s2,⟨[],dp,.nil⟩⟩ ?_ ?_⟩
  ·rintro i σ H2 hi ⟨⟨v5,v6,v7,v8,rfl⟩,c3,k3,EA,d3,t3⟩;rw[Nw]at hi;rw[P2];have em:=lo1.tup k3 _ _ m1;have er:=lo1.tup k3 _ _ e1;obtain⟨mb,mln⟩:=C.mb mem hin;refine⟨_,rfl,W.a,D.wish,W.dx,_,_,rfl,c3.self,T.bN,T.jJ,rfl,_,rfl,W.a,D.wish,W.dx,_,_,rfl,c3.self,T.bN,T.jJ,rfl,_,rfl,_,rfl,_,rfl,W.l,ps,i,m,mem,r1,Mir.last ps,rfl,c3.parts,ok,SqT.of em,SqT.of er,mln,mb,Mir.qV ps,λr4 H4 s4 n4 e4=>?_⟩;have c4:=c3.same s4;refine⟨W.l,ps,r4,nvs (Mir.dM ps i mem (Mir.last ps)),rfl,c4.parts,ok,SqL.of e4,by rw[Nf,Mir.gF],λr5 H5 s5 e5=>?_⟩;have c5:=c4.same s5;have s45:=s4.trans s5;have e5:H5 r5=some (.tup (nvs (Mir.bB ps i mem))):=by rw[e5,AL];rfl
   have tin:Mir.bB ps i mem∈MS:=C.mn mem hin i hi;refine⟨_,rfl,W.a,W.dx,_,rfl,c5.self,rfl,_,rfl,_,rfl,_,_,rfl,rfl,W,gone,tc,ps,KS,MS,r5,Mir.bB ps i mem,d-1,?_,by omega,c5,ok,few,EM,t8,C,by omega,e5,tin,λrr H6 c6 k6 tf=>?_⟩
   ·show [V.ref W.a,V.ref r5,V.int ((d:Int)-1)]=_;rw[show((d:Int)-1)=((d-1:Nat):Int) by omega]
   obtain⟨JB,⟨od6,xs6,hf6,dx6⟩,ht6⟩:=tf;have k36:Kp (λb=>b=W.kb∨b=W.kw) H2 H6:=(aw.kp s45).trans k6;have lo3:=cE c3;have d6':DN P w H6 p EA:=gY d3 lo3 k36 hpk;have t6:TabOf H6 _ EA:=t3.keeps (lo3.tup k36);have k16:Kp (λb=>b=W.kb∨b=W.kw) H1 H6:=k3.trans k36;have lo6:=cE c6;refine⟨rr,od6,JB,xs6,rfl,hf6,dx6,kO (P:=P) (w:=w) (d:=rr) (ob:=od6) (kvs:=JB) (xs:=xs6)
    (λj σ H'=>(∃v7 v8:Option V,σ=[some (.ref W.a),some (.ref m),some (nv d),some (.ref r1),some (.ref p),some (nv i),some (.ref r5),v7,v8])/\cx P w K D H' W gone tc ps KS MS/\Kp (λb=>b=W.kb∨b=W.kw∨b=p) H6 H'/\Kp (λb=>b=W.kb∨b=W.kw) H1 H'/\
     xa P w H' p (ua ps tc (d-1) mem i j))
    ⟨⟨_,_,rfl⟩,c6,λb o h _=>h,k16,by rw[E2];exact⟨EA,d6',t6⟩⟩ ?_ ?_ ?_⟩
   ·rintro j σ H7 _ ⟨_,_,k7,_,_⟩;have lo:Loose D H6 λb=>b=W.kb∨b=W.kw∨b=p:=λb z=>by
     obtain⟨fp,ep⟩:=bp d6';rcases z with z|z|z
     ·exact lo6 b (.inl z)
     ·exact lo6 b (.inr z)
     ·exact bL ep b z
    exact⟨lo.frz k7 _ _ _ hf6,(dx6.keeps (lo.tup k7)).kn⟩
   ·rintro j k v T0 bo σ H7 hkv ⟨⟨v7',v8',rfl⟩,c7,k7,k17,Ez,d7,t7⟩ hT hb;have lo:Loose D H6 λb=>b=W.kb∨b=W.kw∨b=p:=λb z=>by
     obtain⟨fp,ep⟩:=bp d6';rcases z with z|z|z
     ·exact lo6 b (.inl z)
     ·exact lo6 b (.inr z)
     ·exact bL ep b z
    obtain⟨x,wa,hx,rfl,rfl,hwa⟩:=yi ht6 hkv;have s8:aw H7 (upd H7 T0 (.tup [.ref bo,.ref wa])):=ak hT _;generalize hH8:upd H7 T0 (.tup [.ref bo,.ref wa])=H8 at s8;have hT8:H8 T0=some (.tup [.ref bo,.ref wa]):=by rw[<-hH8];exact af
    have c8:=c7.same s8;have ob:=Cn hb;have xm:x∈Mir.bM ps tc (d-1) (Mir.bB ps i mem):=Nr hx;have m8:=s8 _ _ (lo1.tup k17 _ _ m1);refine⟨T0,_,rfl,SqT.of hT8,rfl,_,_,rfl,_,_,rfl,rfl,?_⟩;refine⟨_,rfl,p,Ez,rfl,DN.same s8 d7,?_⟩;refine⟨_,rfl,W.a,W.dx,_,rfl,c8.self,rfl,_,rfl,_,rfl,_,rfl,W,gone,tc,ps,KS,MS,i,m,mem,bo,x.1,rfl,c8,ok,few,m8,s8 _ _ ob,C.ks mem hin i hi (d-1) (by omega) x xm,mb,mln,rJ C _ _ tin x xm,λr9 H9 c9 k9 e9=>?_⟩;have lo8:=cE c8;have k9':Kp (λb=>b=W.kb∨b=W.kw) H8 H9:=k9.mono λb z=>.inl z;have wa9:H9 wa=some (.tup (nvs x.2)):=lo8.tup k9' _ _ (s8 _ _ (lo.tup k7 _ _ hwa));have len:Ez.length<sizeLine:=by
     have a1:=Oa t7;have a2:=GH ps tc (d-1) mem hi j;have:=FX;omega
    have stp:=E3 hx;have fin:∀(wn:Addr)(Hn:Hp),aw H9 Hn->Hn wn=some (.tup (nvs (i::x.2)))->∃b kvs k,V.ref r9=V.ref b/\DN P w Hn p kvs/\cF Hn k b/\kvs.length<sizeLine/\
      (∀v0,da kvs k=some v0->(∃v7 v8:Option V,[some (.ref W.a),some (.ref m),some (nv d),some (.ref r1),some (.ref p),some (nv i),some (.ref r5),some (.ref bo),some (.ref wa)]=[some (.ref W.a),some (.ref m),some (nv d),some (.ref r1),some (.ref p),some (nv i),some (.ref r5),v7,v8])/\cx P w K D Hn W gone tc ps KS MS/\Kp (λb=>b=W.kb∨b=W.kw∨b=p) H6 Hn/\Kp (λb=>b=W.kb∨b=W.kw) H1 Hn/\
     xa P w Hn p (ua ps tc (d-1) mem i (j+1)))/\
      (da kvs k=none->∀ob,DN P w (upd Hn p ob) p (kvs++[(k,.ref wn)])->(∃v7 v8:Option V,[some (.ref W.a),some (.ref m),some (nv d),some (.ref r1),some (.ref p),some (nv i),some (.ref r5),some (.ref bo),some (.ref wa)]=[some (.ref W.a),some (.ref m),some (nv d),some (.ref r1),some (.ref p),some (nv i),some (.ref r5),v7,v8])/\cx P w K D (upd Hn p ob) W gone tc ps KS MS/\Kp (λb=>b=W.kb∨b=W.kw∨b=p) H6 (upd Hn p ob)/\Kp (λb=>b=W.kb∨b=W.kw) H1 (upd Hn p ob)/\
     xa P w (upd Hn p ob) p (ua ps tc (d-1) mem i (j+1))):=by
     intro wn Hn sn en;have cn:=c9.same sn;have dn9:DN P w H9 p Ez:=gY (DN.same s8 d7) lo8 k9' hpk;have dnn:DN P w Hn p Ez:=DN.same sn dn9;have tn:TabOf Hn _ Ez:=((t7.keeps (aw.tup s8)).keeps (lo8.tup k9')).keeps (aw.tup sn);obtain⟨old,new⟩:=zP (o:=Mir.aZ ps i mem x.1) dnn tn en (wa:=wn) (b:=wn);have kk:Kp (λb=>b=W.kb∨b=W.kw) H1 Hn:=((k17.trans (aw.kp s8)).trans k9').trans (aw.kp sn);have kk6:Kp (λb=>b=W.kb∨b=W.kw∨b=p) H6 Hn:=((k7.trans (aw.kp s8)).trans (k9.mono λb z=>.inl z)).trans (aw.kp sn);obtain⟨fp,ep⟩:=bp dnn;refine⟨r9,Ez,ko (Mir.aZ ps i mem x.1),rfl,dnn,Cp (sn _ _ e9),len,λv0 hv0=>⟨⟨_,_,rfl⟩,cn,kk6,kk,?_⟩,λhv0 ob d5=>⟨⟨_,_,rfl⟩,nD c1 hp cn ep aJ,?_,vQ hp kk aJ,?_⟩⟩
     ·rw[stp];exact old v0 hv0
     ·exact λb0 o0 h0 n0=>by rw[aB (λz=>n0 (.inr (.inr z)))];exact kk6 _ _ h0 n0
     ·rw[stp];exact new hv0 ob d5
    refine⟨_,rfl,(by show 1<=sizeLine;decide),λp1 hp1=>⟨_,rfl,p1,wa,[nv i],nvs x.2,rfl,rfl,SqT.of af,SqT.of ((ak hp1 _) _ _ wa9),(by intro z;cases z),?_,λe0=>?_,λe0 p2 hp2=>?_⟩⟩
    ·rw[Ny,Nf,uL (d-1) _ x xm];exact dZ (by omega)
    ·refine fin p1 _ (ak hp1 _) ?_;have e0:x.2=[]:=by
      cases hx2:x.2 with
      |nil=>rfl
      |cons y ys=>rw[hx2]at e0;cases e0
     rw[af,e0];rfl
    ·exact fin p2 _ ((ak hp1 _).trans (ak hp2 _)) af
   ·rintro σ H7 ⟨⟨v7',v8',rfl⟩,c7,k7,k17,tm⟩;refine⟨⟨_,_,_,_,rfl⟩,c7,k17,?_⟩;have e6:JB.length=(Mir.bM ps tc (d-1) (Mir.bB ps i mem)).length:=(Oa ht6).symm;rw[e6,E4]at tm;exact tm
  ·rintro σ H2 ⟨⟨v5,v6,v7,v8,rfl⟩,c3,k3,tm⟩;obtain⟨u,eu,mu,hu2⟩:=yh tm;refine⟨_,rfl,p,u,eu,mu,λod=>?_⟩;obtain⟨tf,kf⟩:=hu2 od;obtain⟨EA,d3,_⟩:=tm;obtain⟨fp,ep⟩:=bp d3;rw[Nw]at tf;refine q p _ (nD c1 hp c3 ep kf) ((aw.kp s1).trans (vQ hp k3 kf)) ?_;obtain⟨d',rfl⟩:∃d',d=d'+1:=⟨d-1,by omega⟩;rw[<-E1];exact tf
abbrev mE:Stmt:=inClass (top 47) 6
theorem ki:aF ["self","memory","length","key"] ["self","memory","length"] (az mE):=⟨rfl,rfl,rfl,by decide +kernel,rfl,by decide +kernel,by decide +kernel⟩
theorem B8(n:Nat)(F:Fun K "ways_on" "Wish.ways_on" mE f fd)(T:Txt K mg D)(wC:Mt P w K mg base D.wish "find_ways_on" (4+2*n+1) ["self","memory","length"] (gB P w K D (n+1))):
  bw P w K mg base CX0 (4+2*(n+1)) f fd ["self","memory","length"] (gB P w K D (n+1)):=by
 rw[show 4+2*(n+1)=(4+2*n+1)+1 by omega];refine F.ok ki (λvs H Q E h=>?_) (λcdv A outer s H vs Q E hr h=>?_)
 ·obtain⟨W,gone,tc,ps,KS,MS,m,mem,d,rfl,_⟩:=h;rfl
 obtain⟨W,gone,tc,ps,KS,MS,m,mem,d,rfl,dn,c,ok,few,EM,t8,C,d6,hm,hin,q⟩:=h;have hu:=ED hr;refine⟨_,(ae (aG (i:=3) ki.nd rfl (Or.inl rfl) (kq (aa (pv 1) (aa (pv 2) ag))))
   (ae (aW (fH (yw hu (pv 3) (au (pv 0) rfl))) (ai (um hu (au (pv 0) rfl) (pv 3) (bZ (pv 0) wC hr (aa (pv 1) (aa (pv 2) ag)) (Nq _)) rfl)) aD)
   (ai (aA (De hu (au (pv 0) rfl) (pv 3) (λ_ _=>rfl)))))),?_⟩
 refine⟨_,rfl,_,rfl,(by show 2<=sizeLine;decide),λp hp=>?_⟩;have s1:aw H (upd H p (.tup [.ref m,nv d])):=ak hp _;generalize hH1:upd H p (.tup [.ref m,nv d])=H1 at s1;have hp1:H1 p=some (.tup [.ref m,nv d]):=by rw[<-hH1];exact af
 have c1:=c.same s1;obtain⟨kvs,d1,ok1⟩:=c1.kw;have key:=JI hp1 (s1 _ _ hm);refine⟨_,rfl,_,rfl,W.a,D.wish,W.dx,_,_,rfl,c1.self,T.bN,T.iE,rfl,W.kw,p,kvs,k2 mem d,rfl,rfl,d1,key,_,rfl,?_⟩;cases hv:da kvs (k2 mem d)with
 |some v=>
  refine l4 ?_;obtain⟨m',d',r,z1,z0,z2,z3⟩:=ok1 _ (CY hv);injection z2 with z2 z4;obtain⟨rfl,rfl⟩:=JL z2;subst z4;exact⟨_,rfl,W.a,D.wish,W.dx,_,_,rfl,c1.self,T.bN,T.iE,rfl,_,rfl,W.kw,p,kvs,_,_,rfl,rfl,d1,key,hv,q r _ c1 (aw.kp s1) z3⟩
 |none=>
  refine cp ?_;refine⟨_,rfl,W.a,W.dx,_,rfl,c1.self,rfl,_,rfl,_,rfl,W,gone,tc,ps,KS,MS,m,mem,d,rfl,dn,c1,ok,few,EM,t8,C,d6,s1 _ _ hm,hin,λr3 H3 c3 k3 tf=>?_⟩;obtain⟨EA,d3,ok3⟩:=c3.kw;have lo1:=cE c1;have F3:=cF.keeps (lo1.tup k3) key;refine⟨_,rfl,W.a,D.wish,W.dx,_,_,rfl,c3.self,T.bN,T.iE,rfl,_,rfl,W.kw,p,EA,_,rfl,rfl,d3,F3,Ql (c3.K4 d3 ok3) EM,λob d4=>?_⟩;obtain⟨fx,ex⟩:=bp d3;have lo:Loose D H3 (·=W.kw):=bL ex;have k4:Kp (·=W.kw) H3 (upd H3 W.kw ob):=aJ;have tf4:uc P w (upd H3 W.kw ob) r3 (Mir.bM ps tc d mem):=tf.keeps (lo.tup k4) (lo.frz k4);obtain⟨ow,uw,ew⟩:=c3.frz;obtain⟨kbv,b1,b2⟩:=c3.kb;have c4:cx P w K D (upd H3 W.kw ob) W gone tc ps KS MS:=by
   refine⟨k4 _ _ c3.self (bJ c3.self ex (by intro z;cases z)),lo.parts k4 c3.parts c3.frz,⟨ow,uw,lo.frz k4 _ _ _ ew⟩,⟨kbv,gY b1 lo k4 (λz=>c3.ne z.symm),b2.keeps (lo.tup k4)⟩,⟨_,d4,?_⟩,c3.ne⟩;intro kv hkv;rcases FR hkv with z|z
   ·exact(ok3.keeps (lo.tup k4) (lo.frz k4)) kv z
   ·rw[z];exact⟨mem,d,r3,hin,d6,rfl,tf4⟩
  exact⟨_,rfl,W.a,D.wish,W.dx,_,_,rfl,c4.self,T.bN,T.iE,rfl,_,rfl,W.kw,p,_,_,_,rfl,rfl,d4,cF.keeps (lo.tup k4) F3,(by rw[zC,Nz rfl]),q r3 _ c4 (((aw.kp s1).trans k3).trans (k4.mono λb z=>.inr z)) tf4⟩
theorem yA(F:Fun K "ways_on" "Wish.ways_on" mE f fd):bw P w K mg base CX0 (4+2*0) f fd ["self","memory","length"] (gB P w K D 0):=by
 refine F.ok ki (λvs H Q E h=>?_) (λcdv A outer s H vs Q E hr h=>?_)
 ·obtain⟨W,gone,tc,ps,KS,MS,m,mem,d,rfl,_⟩:=h;rfl
 ·obtain⟨W,gone,tc,ps,KS,MS,m,mem,d,rfl,dn,_⟩:=h;omega
end
structure TMs(H:Hp)(tl ml:Addr)(R:List (Nat×List Nat)):Prop where
 ts:H tl=some (.lst (nvs (R.reverse.map (·.1))))
 ms:∃as:List Addr,H ml=some (.lst (as.map V.ref))/\Paired (λ(x:Nat×List Nat) a=>H a=some (.tup (nvs x.2))) R.reverse as
theorem TMs.kp{D:Ad}{tl ml:Addr}{R:List (Nat×List Nat)}(h:TMs H tl ml R)(l:Loose D H S)(k:Kp S H H')(nt:¬S tl)(nm:¬S ml):TMs H' tl ml R:=by
 obtain⟨as,m1,m2⟩:=h.ms;exact⟨k _ _ h.ts nt,as,k _ _ m1 nm,Paired.qS m2 λx a e=>l.tup k _ _ e⟩
def IP(H:Hp)(v:V):Option (List Nat)->Prop
 |none=>v=.non
 |some p=>∃r,v=.ref r/\H r=some (.tup (nvs p))
theorem zo(ps:List Pt)(l:Mir.Tab)(R:List (Nat×List Nat))(x:Nat×List Nat):Mir.gz ps l (R++[x])=Mir.behind ps (Mir.gz ps l R) x:=by
 unfold Mir.gz;rw[Ox];rfl
theorem CL{l:Mir.Tab}{tm:Nat×List Nat}(h:x∈Mir.behind ps l tm):∃y∈l,x=(Mir.aZ ps tm.1 tm.2 y.1,y.2):=by
 rcases nY _ _ _ h with z|z
 ·cases z
 ·obtain⟨y,hy,e⟩:=NZ.mp z;exact⟨y,hy,e.symm⟩
theorem nL{ps:List Pt}:∀(R:List (Nat×List Nat))(l:Mir.Tab){x:List Nat×List Nat},x∈Mir.gz ps l R->∃y∈l,x.1=Mir.backs ps y.1 R
 |[],l,x,h=>⟨x,h,rfl⟩
 |tm::R,l,x,h=>by
  obtain⟨y,hy,e⟩:=nL R (Mir.behind ps l tm) h;obtain⟨z,hz,rfl⟩:=CL hy;exact⟨z,hz,e⟩
theorem CM(ps:List Pt)(l:Mir.Tab)(tm:Nat×List Nat):(Mir.behind ps l tm).length<=l.length:=by
 have:=jD (l.map λx=>(Mir.aZ ps tm.1 tm.2 x.1,x.2)) [];rw[Nf]at this;simp only[O4,PX]at this;exact this
theorem tJ(ps:List Pt):∀(R:List (Nat×List Nat))(l:Mir.Tab),(Mir.gz ps l R).length<=l.length
 |[],l=>Nq _
 |tm::R,l=>NR (tJ ps R (Mir.behind ps l tm)) (CM ps l tm)
theorem wy{ps:List Pt}:∀(R:List (Nat×List Nat))(o:List Nat),(∀x∈R,B1 x.2)->eF ps o->eF ps (Mir.backs ps o R)
 |[],_,_,h=>h
 |tm::R,o,hb,h=>wy R _ (λx hx=>hb x (Nn _ hx)) (Mir.mi _ (hb tm (NB ..)) h)
theorem Il{n:Nat}(h:o.length=n+1):∃y,o.getLast?=some y/\atI (nvs o) (-1)=some (nv y):=by
 have e:o≠[]:=by intro z;rw[z]at h;cases h
 refine⟨o.getLast e,List.getLast?_eq_some_getLast e,?_⟩;have:nvs o=nvs o.dropLast++[nv (o.getLast e)]:=by
  have:=List.dropLast_concat_getLast e
  conv=>lhs;rw[<-this]
  show List.map _ _=_;rw[NS];rfl
 rw[this];exact Gz _ _
section
variable{P:Program}{w:World}{K:Rt}{mg:Ru}{base:Heap}{D:Ad}
inductive ym(P:Program)(w:World)(K:Rt)(D:Ad)(vs:List V)(H:Hp)(Q:VK)(E:XK):Prop
 |mk (W gone tc ps KS MS wd kept tab R:_):vs=[.ref (WAd.a W),.ref wd,nv kept]->cx P w K D H W gone tc ps KS MS->dz ps->KS.length<sizeLine->TMs H W.tl W.ml R->R.length<=60->(∀x∈R,B1 x.2/\x.2.length=ps.length)->uc P w H wd tab->tab.length<sizeLine->(∀x∈tab,eF ps x.1/\∀j y,R[j]?=some y->(y.1,y.2,Mir.backs ps x.1 (R.take j))∈KS)->(∀v H',cx P w K D H' W gone tc ps KS MS->Kp (·=W.kb) H H'->IP H' v (Mir.bK tab λo=>Mir.dW kept (Mir.backs ps o R))->Q v H')->ym P w K D vs H Q E
abbrev lB:Stmt:=inClass (top 47) 4
theorem cy:aF ["self","ways","kept","firsts","k","outlook","way"] ["self","ways","kept"] (az lB):=⟨rfl,rfl,rfl,by decide +kernel,rfl,by decide +kernel,by decide +kernel⟩
theorem vt{f:Addr}{fd:FuncData}(F:Fun K "first_among" "Wish.first_among" lB f fd)(T:Txt K mg D)
  (qh:Mt P w K mg base D.wish "ways_behind_turn" 5 ["self","ways","turn","memory"] (uQ P w K D)):bw P w K mg base CX0 6 f fd ["self","ways","kept"] (ym P w K D):=by
 refine F.ok cy (λvs H Q E h=>?_) (λcdv A outer s H vs Q E hr h=>?_)
 ·obtain⟨W,gone,tc,ps,KS,MS,wd,kept,tab,R,rfl,_⟩:=h;rfl
 obtain⟨W,gone,tc,ps,KS,MS,wd,kept,tab,R,rfl,c,ok,few,tms,r60,hR,tf,tl,hk,q⟩:=h;have hu:=ED hr;refine⟨_,(ae (aG (i:=3) cy.nd rfl (Or.inl rfl) (pv 1))
   (ae (cu NU rfl (fW rfl T.range (aa (aI dh (aP aC rfl T.len NO (aa (au (pv 0) rfl) ag)) ao) (aa (gS eG ao) (aa (gS eG ao) ag)))) (aL (i:=4) cy.nd rfl (Or.inl rfl)) (ai (aG (i:=3) cy.nd rfl (Or.inl rfl) (bZ (pv 0) qh hr (aa (pv 3) (aa (aS aE (au (pv 0) rfl) (pv 4) (λ_ _=>rfl)) (aa (aS aE (au (pv 0) rfl) (pv 4) (λ_ _=>rfl)) ag)))))))
   (ae (cu NU rfl (nZ (pv 3)) (gN rfl (bt (aL (i:=5) cy.nd rfl (Or.inl rfl)) (bt (aL (i:=6) cy.nd rfl (Or.inl rfl)) eZ))) (ai (aW (aH bH (aS eI (pv 5) (gS eG ao) (λ_ _=>rfl)) (pv 2) (aU _)) (ai (aA (pv 6))) aD)))
   (ai (aA jv))))),?_⟩
 obtain⟨kb0,e1,_⟩:=c.kb;obtain⟨fx,ex⟩:=bp e1;have lo:Loose D H (·=W.kb):=bL ex;obtain⟨as,m1,m2⟩:=tms.ms;have ntl:W.tl≠W.kb:=bJ tms.ts ex (by intro z;cases z);have nml:W.ml≠W.kb:=bJ m1 ex (by intro z;cases z);have ln1:(nvs (R.reverse.map (·.1))).length=R.length:=by rw[Nf,Nf,Qh]
 refine⟨_,rfl,_,rfl,W.a,D.wish,W.dx,_,_,rfl,c.self,T.bN,T.yO,rfl,W.tl,_,rfl,.inl (SqL.of tms.ts),_,_,rfl,rfl,_,rfl,_,rfl,_,_,_,_,rfl,RgC.neg (by rw[ln1];omega) (by rw[ln1];omega) (by decide) (by decide),?_⟩;have en:(((nvs (R.reverse.map (·.1))).length:Int)-1 - -1).toNat=R.length:=by rw[ln1];omega
 rw[en];refine fY (n:=R.length) (λm σ H'=>(∃(fa:Addr) (v:Option V),σ=[some (.ref W.a),some (.ref wd),some (nv kept),some (.ref fa),v,none,none]/\uc P w H' fa (Mir.gz ps tab (R.take m)))/\cx P w K D H' W gone tc ps KS MS/\Kp (·=W.kb) H H')
   ⟨⟨wd,none,rfl,by rw[PQ];exact tf⟩,c,λ_ _ h _=>h⟩ ?_ ?_
 ·rintro m σ H1 hm ⟨⟨fa,v,rfl,tf1⟩,c1,k1⟩;have LN:=tms.kp lo k1 ntl nml;obtain⟨x,hx⟩:∃x,R[m]?=some x:=⟨_,Ng hm⟩;have hx':R.reverse[R.length-1-m]?=some x:=by
   rw[List.getElem?_reverse (by omega),<-hx];congr 1;omega
  have ei:((nvs (R.reverse.map (·.1))).length:Int)-1+(m:Int)*(-1)=((R.length-1-m:Nat):Int):=by rw[ln1];omega
  obtain⟨a,ha,hma⟩:=dv m2 hx';have e1:atI (nvs (R.reverse.map (·.1))) (((nvs (R.reverse.map (·.1))).length:Int)-1+(m:Int)*(-1))=some (nv x.1):=by rw[ei];exact bg (by rw[NC,NC,hx'];rfl)
  have e2:atI (as.map V.ref) (((nvs (R.reverse.map (·.1))).length:Int)-1+(m:Int)*(-1))=some (.ref a):=by rw[ei];exact bg (by rw[NC,ha];rfl)
  have xm:x∈R:=Nr hx;refine⟨_,rfl,W.a,W.dx,_,rfl,c1.self,rfl,_,rfl,_,rfl,W.a,D.wish,W.dx,_,_,rfl,c1.self,T.bN,T.yO,rfl,_,rfl,W.tl,_,_,_,rfl,rfl,SqL.of LN.ts,e1,_,rfl,W.a,D.wish,W.dx,_,_,rfl,c1.self,T.bN,T.sj,rfl,_,rfl,W.ml,_,_,_,rfl,rfl,SqL.of (k1 _ _ m1 nml),e2,?_⟩;refine⟨W,gone,tc,ps,KS,MS,fa,x.1,a,x.2,_,rfl,c1,ok,few,lo.tup k1 _ _ hma,tf1,Ql (tJ ps _ _) tl,λy hy=>?_,(hR x xm).1,(hR x xm).2,λr H2 c2 k2 tf2=>⟨⟨r,_,rfl,?_⟩,c2,k1.trans k2⟩⟩
  ·obtain⟨z,hz,e⟩:=nL _ _ hy;rw[e];exact⟨(hk z hz).2 m x hx,wy _ _ (λu hu=>(hR u (List.mem_of_mem_take hu)).1) (hk z hz).1⟩
  ·rw[OG,hx];show uc P w H2 r (Mir.gz ps tab (R.take m++[x]));rw[zo];exact tf2
 ·rintro σ H1 ⟨⟨fa,v,rfl,tf1⟩,c1,k1⟩;rw[Oj]at tf1;obtain⟨kvs,hd,ht⟩:=tf1;obtain⟨od,xs,hf,dx⟩:=id hd;rw[<-Mir.lR]at q;generalize htb:Mir.gz ps tab R=tb at ht q;refine⟨_,rfl,fa,od,kvs,xs,rfl,hf,dx,kO (P:=P) (w:=w) (d:=fa) (ob:=od) (kvs:=kvs) (xs:=xs)
   (λi σ H'=>(∃v4 v5 v6:Option V,σ=[some (.ref W.a),some (.ref wd),some (nv kept),some (.ref fa),v4,v5,v6])/\aw H1 H'/\∀x∈tb.take i,Mir.dW kept x.1=false)
   ⟨⟨_,_,_,rfl⟩,aw.refl _,λx hx=>by rw[PQ]at hx;cases hx⟩ ?_ ?_ ?_⟩
  ·rintro i σ H' _ ⟨_,s2,_⟩;exact⟨s2 _ _ hf,(dx.keeps (aw.tup s2)).kn⟩
  ·rintro i k v T0 b σ H' hkv ⟨⟨v4,v5,v6,rfl⟩,s2,hno⟩ hT hb;obtain⟨x,wa,hx,rfl,rfl,hwa⟩:=yi ht hkv;have s3:aw H' (upd H' T0 (.tup [.ref b,.ref wa])):=ak hT _;have ob:=Cn hb;have xm:x∈tb:=Nr hx;have xo:eF ps x.1:=by
    rw[<-htb]at xm;obtain⟨z,hz,e⟩:=nL _ _ xm;rw[e];exact wy _ _ (λu hu=>(hR u hu).1) (hk z hz).1
   obtain⟨y,y1,y2⟩:=Il xo.1;refine⟨T0,_,rfl,SqT.of af,rfl,_,_,rfl,_,_,rfl,rfl,?_⟩;refine⟨_,rfl,_,rfl,b,_,_,nv y,rfl,rfl,SqT.of (s3 _ _ ob),y2,_,rfl,rfl,_,rfl,bD (λz=>?_) (λz=>?_)⟩
   ·have z:=eqI.mp z;refine⟨_,rfl,q (.ref wa) _ (c1.same (s2.trans s3)) (k1.trans (aw.kp (s2.trans s3))) ?_⟩;have e:Mir.bK tb (Mir.dW kept)=some x.2:=by
     unfold Mir.bK;have:tb.find? (λx=>Mir.dW kept x.1)=some x:=by
      rw[List.find?_eq_some_iff_append];obtain⟨hi,hxi⟩:=Nh.mp hx;refine⟨?_,tb.take i,tb.drop (i+1),?_,λu hu=>by rw[hno u hu];rfl⟩
      ·unfold Mir.dW;rw[y1];have:y=kept:=by omega
       rw[this];exact QO _
      ·rw[<-hxi,<-Od hi,OU]
     rw[this];rfl
    rw[e];exact⟨wa,rfl,s3 _ _ (s2 _ _ hwa)⟩
   ·refine⟨⟨_,_,_,rfl⟩,s2.trans s3,λu hu=>?_⟩;rw[OG,hx]at hu;rcases Np.mp hu with hu|hu
    ·exact hno u hu
    ·rw[Nu.mp hu];unfold Mir.dW;rw[y1];have:y≠kept:=λe=>z (by rw[e];exact NA rfl);exact beq_false_of_ne λe=>this (Nm e)
  ·rintro σ H' ⟨⟨v4,v5,v6,rfl⟩,s2,hno⟩;refine q .non _ (c1.same s2) (k1.trans (aw.kp s2)) ?_;have e:Mir.bK tb (Mir.dW kept)=none:=by
    unfold Mir.bK;rw[Pn,OL];intro x hx;rw[show tb.take kvs.length=tb by rw[<-Oa ht,Oj]]at hno;rw[hno x hx];exact NI
   rw[e];rfl
end
open Vbtaak (F sound size)
def bkF:F->Bool
 |.before _=>true
 |.since _ _=>true
 |_=>false
def jh:List F->List (List Nat)
 |[]=>[[]]
 |f::l=>(if bkF f=true then [0,1]else [0]).flatMap λb=>(jh l).map λm=>b::m
theorem AK(c:List Nat)(k:Nat):∀l:List F,l.map (Mir.qR c k)∈jh l
 |[]=>Nu.mpr rfl
 |f::l=>by
  refine N9.mpr ⟨Mir.qR c k f,?_,NZ.mpr ⟨_,AK c k l,rfl⟩⟩;cases f<;>simp only[bkF,Mir.qR,Qj,Qa,OK]<;>try exact Nu.mpr rfl
  all_goals
   first
   |(split<;>first|exact NB ..|(unfold Vbtaak.bit;split<;>simp))
   |(unfold Vbtaak.bit;split<;>simp)
theorem so:∀l:List F,(jh l).length=2^(l.filter bkF).length
 |[]=>rfl
 |f::l=>by
  unfold jh;have ih:=so l;cases h:bkF f with
  |true=>
   rw[Nz rfl,N5,N5,Ro,NX,Nk,Nf,Nf,ih,PM,h,Nz rfl,NH,Pc];omega
  |false=>
   rw[Nt NI,N5,Ro,NX,Nf,ih,PM,h,Nt NI]
theorem Bo:∀f:F,((Rdg.subs f).filter bkF).length=Kx.bks f:=by
 intro f;induction f<;>simp_all [Rdg.subs,Kx.bks,bkF,PM,List.filter_append]
theorem AJ(f:F)(hs:size f<=12):(jh (Rdg.subs f)).length<=2048:=by
 rw[so,Bo];have:=Kx.eK f;exact NR (OA (by omega) (show Kx.bks f<=11 by omega)) (by decide)
noncomputable def zt(f:F)(ps:List Pt):List (List Nat):=by
 classical exact(jh (Rdg.subs f)).filter λm=>decide (∃c,m=Mir.bA ps c)
def oL(f:F)(ps:List Pt)(tc:Nat)(mem:List Nat):List (List Nat):=Kx.outs f++(List.range 3).flatMap λd=>(Mir.bM ps tc d mem).map (·.1)
def S1(f:F)(ps:List Pt)(tc:Nat):KSt:=(List.range tc).flatMap λt=>(jh (Rdg.subs f)).flatMap λm=>(oL f ps tc (Mir.bB ps t m)).map λo=>(t,m,o)
def S2(f:F)(ps:List Pt)(tc:Nat)(c:List Nat):KSt:=(List.range (c.length-1)).flatMap λk=>(oL f ps tc (Mir.bA ps c)).map λo=>(c.getD k 0,Mir.bA ps (c.take k),Mir.backs ps o (Mir.cM ps c (k+1) (c.length-k-1)))
def Bu(f:F)(ps:List Pt)(tc:Nat)(c:List Nat):KSt:=S1 f ps tc++(List.range (c.length+1)).flatMap λn=>S2 f ps tc (c.take n)
variable{f:F}{c:List Nat}
theorem E6{t:Nat}{x:Nat×List Nat×List Nat}(h:x∈Bu f ps tc c):x∈Bu f ps tc (c++[t]):=by
 unfold Bu at *;rcases Np.mp h with h|h
 ·exact Np.mpr (.inl h)
 ·obtain⟨n,hn,h⟩:=N9.mp h;have hn:=NW.mp hn;refine Np.mpr (.inr (N9.mpr ⟨n,NW.mpr (by rw[Nk];omega),?_⟩));rw[PN (by omega)];exact h
theorem FD(t8:tc<=8)(hs:size f<=12)(mem:List Nat):(oL f ps tc mem).length<=(Kx.outs f).length+73:=by
 unfold oL;have e:(List.range 3).flatMap (λd=>(Mir.bM ps tc d mem).map (·.1))=(Mir.bM ps tc 0 mem).map (·.1)++((Mir.bM ps tc 1 mem).map (·.1)++((Mir.bM ps tc 2 mem).map (·.1)++[])):=rfl;rw[e];simp only[Nk,Nf,O4];have h0:=fQ ps tc 0 mem;have h1:=fQ ps tc 1 mem;have h2:=fQ ps tc 2 mem;have g0:tc^0=1:=rfl;have g1:=Q7 t8 1;have g2:=Q7 t8 2;omega
def tri:Nat->Nat
 |0=>0
 |n+1=>tri n+n
theorem zK:∀{n m:Nat},n<=m->tri n<=tri m
 |n,0,h=>by rw[Nat.le_zero.mp h];exact Nq _
 |n,m+1,h=>by
  rcases PY n (m+1)with z|z
  ·have:=zK (n:=n) (m:=m) (by omega);have e:tri (m+1)=tri m+m:=rfl;omega
  ·rw[Nat.le_antisymm h z];exact Nq _
theorem GK(t8:tc<=8)(hs:size f<=12)(c:List Nat):(S2 f ps tc c).length<=(c.length-1)*((Kx.outs f).length+73):=by
 unfold S2;have:=gK (λk=>(oL f ps tc (Mir.bA ps c)).map λo=>(c.getD k 0,Mir.bA ps (c.take k),Mir.backs ps o (Mir.cM ps c (k+1) (c.length-k-1)))) ((Kx.outs f).length+73) (List.range (c.length-1)) λk _=>by rw[Nf];exact FD t8 hs _
 rw[OV]at this;exact this
theorem DX{f:F}{ps:List Pt}{tc:Nat}(t8:tc<=8)(hs:size f<=12)(c:List Nat):∀N,((List.range (N+1)).flatMap λn=>S2 f ps tc (c.take n)).length<=tri N*((Kx.outs f).length+73)
 |0=>by
  have:=GK (ps:=ps) t8 hs (c.take 0);have e:(List.range (0+1)).flatMap (λn=>S2 f ps tc (c.take n))=S2 f ps tc (c.take 0)++[]:=rfl;rw[e,NX];refine NR this ?_;rw[PQ];exact Oh _ (Nq 0)
 |N+1=>by
  have ih:=DX (ps:=ps) t8 hs c N;have h:=GK (ps:=ps) t8 hs (c.take (N+1));rw[Q5,Ov,Nk,Qu];have hl:(c.take (N+1)).length-1<=N:=by rw[N2];omega
  have h2:=Oh ((Kx.outs f).length+73) hl;have e:tri (N+1)=tri N+N:=rfl;rw[e,P0];omega
theorem Ke(t8:tc<=8)(hs:size f<=12):(S1 f ps tc).length<=8*((jh (Rdg.subs f)).length*((Kx.outs f).length+73)):=by
 unfold S1;have h1:∀t,((jh (Rdg.subs f)).flatMap λm=>(oL f ps tc (Mir.bB ps t m)).map λo=>(t,m,o)).length<=(jh (Rdg.subs f)).length*((Kx.outs f).length+73):=λt=>
  gK _ _ _ λm _=>by rw[Nf];exact FD t8 hs _
 have:=gK (λt=>(jh (Rdg.subs f)).flatMap λm=>(oL f ps tc (Mir.bB ps t m)).map λo=>(t,m,o)) _ (List.range tc) λt _=>h1 t;rw[OV]at this;exact NR this (Oh _ t8)
theorem GR(t8:tc<=8)(hs:size f<=12)(hc:c.length<=60):(Bu f ps tc c).length<sizeLine:=by
 have h1:=Ke (f:=f) (ps:=ps) t8 hs;have h2:=DX (f:=f) (ps:=ps) t8 hs c c.length;have h3:=zK hc;have h4:tri 60=1770:=rfl;have h5:=Kx.FA hs;have h6:=AJ f hs;rw[so,Bo]at h1 h6;have h7:(Kx.outs f).length<=8300:=NR (Nat.le_mul_of_pos_left _ (Nat.pos_of_ne_zero (by simp))) h5;have h8:1770*((Kx.outs f).length+73)<=1770*8373:=OS _ (by omega);have h9:=Oh ((Kx.outs f).length+73) h3;rw[h4]at h9;have h10:2^Kx.bks f*((Kx.outs f).length+73)<=8300+2048*73:=by rw[O3];omega
 have h11:sizeLine=16777216:=by decide
 unfold Bu;rw[Nk];omega
theorem GO(hs:size f<=12):(zt f ps).length*7<sizeLine:=by
 classical
 have h1:(zt f ps).length<=(jh (Rdg.subs f)).length:=by unfold zt;exact List.length_filter_le _ _
 have h2:=AJ f hs;have h11:sizeLine=16777216:=by decide
 omega
section
variable{facts:Nat}{f:F}{ps:List Pt}{tc:Nat}
theorem AM(R:Mir.Rep ps (Rdg.subs f))(c:List Nat):Mir.bA ps c∈jh (Rdg.subs f):=by
 rw[Mir.iG R];exact AK c c.length _
theorem AN(R:Mir.Rep ps (Rdg.subs f))(c:List Nat):Mir.bA ps c∈zt f ps:=by
 classical
 unfold zt;exact ON.mpr ⟨AM R c,NA ⟨c,rfl⟩⟩
theorem sJ(h:m∈zt f ps):m∈jh (Rdg.subs f)/\∃c,m=Mir.bA ps c:=by
 classical
 unfold zt at h;obtain⟨a,b⟩:=ON.mp h;exact⟨a,NG b⟩
theorem CV(R:Mir.Rep ps (Rdg.subs f))(hw:Rdg.wf facts f=true)(hs:sound f=true)(c:List Nat)(hd:d<=6)(hx:x∈Mir.bM ps tc d (Mir.bA ps c)):x.1∈oL f ps tc (Mir.bA ps c):=by
 unfold oL;rcases PY d 3 with h3|h3
 ·exact Np.mpr (.inr (N9.mpr ⟨d,NW.mpr h3,NZ.mpr ⟨x,hx,rfl⟩⟩))
 ·refine Np.mpr (.inl ?_);rw[Mir.rK]at hx;rcases nY _ _ _ hx with z|z
  ·cases z
  ·obtain⟨p,hp,rfl⟩:=NZ.mp z;obtain⟨pl,_⟩:=Gen.jL.mp hp;show Mir.lL ps (Mir.bA ps c) p∈_;rw[Mir.iG R,Mir.vn R];exact Kx.Hg hw hs (by rw[Nk];omega) (by rw[Nk];omega)
theorem clo(R:Mir.Rep ps (Rdg.subs f))(hw:Rdg.wf facts f=true)(hs:sound f=true)(c:List Nat):Clo ps tc (Bu f ps tc c) (zt f ps):=by
 refine⟨λm hm=>?_,λm hm t ht=>?_,λm hm t ht d hd x hx=>?_⟩
 ·obtain⟨_,e,rfl⟩:=sJ hm;exact jP e
 ·obtain⟨_,e,rfl⟩:=sJ hm;rw[<-Mir.dU];exact AN R _
 ·obtain⟨h1,e,rfl⟩:=sJ hm;refine Np.mpr (.inl (N9.mpr ⟨t,NW.mpr ht,N9.mpr ⟨_,h1,NZ.mpr ⟨x.1,?_,rfl⟩⟩⟩));rw[<-Mir.dU]at hx ⊢;exact CV R hw hs _ (by omega) hx
theorem zL(ps:List Pt)(c:List Nat)(k:Nat):∀(d j:Nat),j<=d->(Mir.cM ps c k d).take j=Mir.cM ps c (k+(d-j)) j
 |d,0,_=>by rw[PQ];rfl
 |0,j+1,h=>by omega
 |d+1,j+1,h=>by
  show _::(Mir.cM ps c k d).take j=_;rw[zL ps c k d j (by omega)];show _=(c.getD (k+(d+1-(j+1))+j) 0,Mir.bA ps (c.take (k+(d+1-(j+1))+j)))::_;rw[show d+1-(j+1)=d-j by omega,show k+(d-j)+j=k+d by omega]
theorem yg(ps:List Pt)(c:List Nat)(k:Nat):∀(d j:Nat),j<d->(Mir.cM ps c k d)[j]?=some (c.getD (k+(d-1-j)) 0,Mir.bA ps (c.take (k+(d-1-j))))
 |0,j,h=>by omega
 |d+1,0,_=>by
  show some _=_;rw[show d+1-1-0=d by omega]
 |d+1,j+1,h=>by
  show(Mir.cM ps c k d)[j]?=_;rw[yg ps c k d j (by omega),show d+1-1-(j+1)=d-1-j by omega]
theorem nV(ps:List Pt)(c:List Nat)(k:Nat):∀d:Nat,(Mir.cM ps c k d).length=d
 |0=>rfl
 |d+1=>by
  show(Mir.cM ps c k d).length+1=_;rw[nV ps c k d]
theorem CN(R:Mir.Rep ps (Rdg.subs f))(hw:Rdg.wf facts f=true)(hs:sound f=true)(ht:∀t∈c,t<tc){gone:Nat}(hg:gone<=c.length)(hd:d<=6)(hx:x∈Mir.bM ps tc d (Mir.bA ps c))
  (j:Nat)(y:Nat×List Nat)(hy:(Mir.cM ps c gone (c.length-gone))[j]?=some y):(y.1,y.2,Mir.backs ps x.1 ((Mir.cM ps c gone (c.length-gone)).take j))∈Bu f ps tc c:=by
 have hj:j<c.length-gone:=by
  have:=(Nh.mp hy).1;rw[nV]at this;exact this
 rw[yg ps c gone _ j hj]at hy;obtain rfl:=Nm hy;have hx':=CV R hw hs c hd hx;rw[zL _ _ _ _ _ (by omega)];rw[show gone+(c.length-gone-1-j)=c.length-1-j by omega,show gone+(c.length-gone-j)=c.length-j by omega];rcases PU j with rfl|jp
 ·refine Np.mpr (.inl (N9.mpr ⟨c.getD (c.length-1) 0,?_,N9.mpr ⟨_,AM R _,NZ.mpr ⟨x.1,?_,rfl⟩⟩⟩))
  ·refine NW.mpr (ht _ ?_);rw[Nj,Ng (by omega)];exact List.getElem_mem _
  ·rw[<-Mir.dU];have e:c.take (c.length-1-0)++[c.getD (c.length-1) 0]=c:=by
    rw[Nj,Ng (by omega)];show c.take (c.length-1)++[c[c.length-1]]=c;rw[List.take_append_getElem];rw[show c.length-1+1=c.length by omega,Oj]
   rw[e];exact hx'
 ·refine Np.mpr (.inr (N9.mpr ⟨c.length,NW.mpr (by omega),?_⟩));rw[Oj];refine N9.mpr ⟨c.length-1-j,NW.mpr (by omega),NZ.mpr ⟨x.1,hx',?_⟩⟩;rw[show c.length-1-j+1=c.length-j by omega,show c.length-(c.length-1-j)-1=j by omega]
end
structure Wf(facts:Nat)(f:F)(c:List Nat):Prop where
 fa:facts<=3
 wf:Rdg.wf facts f=true
 sd:sound f=true
 sz:size f<=12
 tu:∀t∈c,t<2^facts
 c60:c.length<=60
theorem Wf.t8{facts:Nat}(h:Wf facts f c):2^facts<=8:=NR (OA (by omega) h.fa) (by decide)
theorem Wf.ok{facts:Nat}(h:Wf facts f c):dz (Rdg.pts 0 f):=Rdg.BZ h.wf h.sz
theorem Wf.rep{facts:Nat}(h:Wf facts f c):Mir.Rep (Rdg.pts 0 f) (Rdg.subs f):=Rdg.yt h.wf h.sd
abbrev WK(P:Program)(w:World)(K:Rt)(D:Ad)(H:Hp)(W:WAd)(facts:Nat)(f:F)(gone:Nat)(c:List Nat):Prop:=cx P w K D H W gone (2^facts) (Rdg.pts 0 f) (Bu f (Rdg.pts 0 f) (2^facts) c) (zt f (Rdg.pts 0 f))
structure dF(P:Program)(w:World)(K:Rt)(D:Ad)(H:Hp)(W:WAd)(facts:Nat)(f:F)(gone:Nat)(c:List Nat):Prop where
 core:WK P w K D H W facts f gone c
 row:∃o,H W.rl=some (.frz o (.lst (ivs (Rdg.br f))))
 fol:fP K D H W.fo (Rdg.pts 0 f) (Mir.bA (Rdg.pts 0 f) c)
 tms:TMs H W.tl W.ml (Mir.cM (Rdg.pts 0 f) c gone (c.length-gone))
 gl:gone<=c.length
 wfh:Wf facts f c
 nt:W.tl≠W.ml
def WAd.cA(W:WAd)(b:Addr):Prop:=b=W.a∨b=W.fo∨b=W.tl∨b=W.ml∨b=W.kw∨b=W.kb
section
variable{P:Program}{w:World}{K:Rt}{mg:Ru}{base:Heap}{D:Ad}
theorem dF.kp{H H':Hp}{S:Addr->Prop}{W:WAd}{facts:Nat}{f:F}{gone:Nat}{c:List Nat}(h:dF P w K D H W facts f gone c)(l:Loose D H S)(k:Kp S H H')(n:∀b,W.cA b->¬S b):dF P w K D H' W facts f gone c:=by
 obtain⟨o,r⟩:=h.row;exact⟨h.core.kp l k (n _ (.inl rfl)) (n _ (.inr (.inr (.inr (.inr (.inr rfl)))))) (n _ (.inr (.inr (.inr (.inr (.inl rfl)))))),⟨o,l.frz k _ _ _ r⟩,h.fol.kp k (n _ (.inr (.inl rfl))) l,h.tms.kp l k (n _ (.inr (.inr (.inl rfl)))) (n _ (.inr (.inr (.inr (.inl rfl))))),h.gl,h.wfh,h.nt⟩
theorem dF.back{W:WAd}{facts:Nat}{gone:Nat}(h:dF P w K D H W facts f gone c)(k:Kp (λb=>b=W.kb∨b=W.kw) H H')(c':WK P w K D H' W facts f gone c):dF P w K D H' W facts f gone c:=by
 obtain⟨o,r⟩:=h.row;have l:=cE h.core;obtain⟨kb,b1,_⟩:=h.core.kb;obtain⟨kw,w1,_⟩:=h.core.kw;obtain⟨f1,e1⟩:=bp b1;obtain⟨f2,e2⟩:=bp w1;have n:∀b o,H b=some o->(∀f,o≠.ext f)->¬(b=W.kb∨b=W.kw):=λb o e z q=>by
  rcases q with rfl|rfl
  ·exact z f1 (Nm (e.symm.trans e1))
  ·exact z f2 (Nm (e.symm.trans e2))
 obtain⟨fl,fm,⟨fdx,fr⟩,_⟩:=h.fol.ex;obtain⟨as,m1,_⟩:=h.tms.ms;exact⟨c',⟨o,l.frz k _ _ _ r⟩,h.fol.kp k (n _ _ fr (by intro f z;cases z)) l,h.tms.kp l k (n _ _ h.tms.ts (by intro f z;cases z)) (n _ _ m1 (by intro f z;cases z)),h.gl,h.wfh,h.nt⟩
end
theorem j8:∀(l:Mir.Tab)(tr:List (List Nat))(x:List Nat×List Nat),Mir.aO tr (l++[x])=if(Mir.aO tr l).1.contains x.1=true then Mir.aO tr l else((Mir.aO tr l).1++[x.1],(Mir.aO tr l).2++[x])
 |[],tr,x=>by
  show Mir.aO tr [x]=_;unfold Mir.aO;by_cases h:tr.contains x.1=true
  ·rw[Nz h,Nz h];rfl
  ·rw[Nt h,Nt h];rfl
 |y::l,tr,x=>by
  rw[Pa];unfold Mir.aO;by_cases h:tr.contains y.1=true
  ·rw[Nz h,Nz h,j8 l tr x]
  ·rw[Nt h,Nt h];show((Mir.aO (tr++[y.1]) (l++[x])).1,y::(Mir.aO (tr++[y.1]) (l++[x])).2)=_;rw[j8 l (tr++[y.1]) x];show _=if(Mir.aO (tr++[y.1]) l).1.contains x.1=true then((Mir.aO (tr++[y.1]) l).1,y::(Mir.aO (tr++[y.1]) l).2)else((Mir.aO (tr++[y.1]) l).1++[x.1],y::(Mir.aO (tr++[y.1]) l).2++[x]);by_cases g:(Mir.aO (tr++[y.1]) l).1.contains x.1=true
   ·rw[Nz g,Nz g]
   ·rw[Nt g,Nt g];rfl
theorem iX:∀(l:Mir.Tab)(tr:List (List Nat)),(Mir.aO tr l).1.length<=tr.length+l.length/\(Mir.aO tr l).2.length<=l.length
 |[],tr=>⟨Nq _,Nq _⟩
 |x::l,tr=>by
  unfold Mir.aO;by_cases h:tr.contains x.1=true
  ·rw[Nz h];obtain⟨a,b⟩:=iX l tr;rw[NH];omega
  ·rw[Nt h];obtain⟨a,b⟩:=iX l (tr++[x.1]);rw[Nk,Ny]at a;show(Mir.aO (tr++[x.1]) l).1.length<=_/\(x::(Mir.aO (tr++[x.1]) l).2).length<=_;rw[NH,NH];omega
theorem iV:∀(l:Mir.Tab)(tr:List (List Nat)),∀x∈(Mir.aO tr l).2,x∈l/\¬x.1∈tr
 |[],tr,x,h=>by cases h
 |y::l,tr,x,h=>by
  unfold Mir.aO at h;by_cases g:tr.contains y.1=true
  ·rw[Nz g]at h;obtain⟨a,b⟩:=iV l tr x h;exact⟨Nn _ a,b⟩
  ·rw[Nt g]at h;have h:x∈y::(Mir.aO (tr++[y.1]) l).2:=h;rcases ND.mp h with rfl|h
   ·exact⟨NB ..,λz=>g (OE.mpr z)⟩
   ·obtain⟨a,b⟩:=iV l _ x h;exact⟨Nn _ a,λz=>b (Np.mpr (.inl z))⟩
theorem zE(l:Mir.Tab)(tr:List (List Nat)):∀x∈(Mir.aO tr l).2,x.1∈(Mir.aO tr l).1:=λx hx=>(Mir.iW l tr x.1).mpr (.inr ⟨x,(iV l tr x hx).1,rfl⟩)
def Kb(tr:List (List Nat))(kvs:List (bc×V)):Prop:=Paired (λ(o:List Nat) (kv:bc×V)=>kv.1=ko o/\kv.2=.bl true) tr kvs
theorem IV{tr:List (List Nat)}(h:Kb tr kvs)(o:List Nat):(da kvs (ko o)).isSome=tr.contains o:=by
 rw[<-ib];induction h with
 |nil=>rfl
 |@cons a b as bs e _ ih=>
  rw[OB,List.contains_cons,ih,e.1];congr 1;by_cases z:a=o
  ·rw[z,NA rfl];exact(QO o).symm
  ·rw[NL (λy=>z (Co y))];exact(beq_false_of_ne λy=>z y.symm).symm
section
variable{P:Program}{w:World}{K:Rt}{mg:Ru}{base:Heap}{D:Ad}
inductive kg(P:Program)(w:World)(K:Rt)(D:Ad)(vs:List V)(H:Hp)(Q:VK)(E:XK):Prop
 |mk (W facts f gone c most kept:_):vs=[.ref (WAd.a W),nv most,nv kept]->dF P w K D H W facts f gone c->most<=6->(∀v H',dF P w K D H' W facts f gone c->Kp (λb=>b=W.kb∨b=W.kw) H H'->IP H' v (Mir.fC (Rdg.pts 0 f) (2^facts) c gone most kept)->Q v H')->kg P w K D vs H Q E
abbrev oQ:Stmt:=inClass (top 47) 3
theorem cC:aF ["self","most","kept","tried","length","untried","outlook","way","found"] ["self","most","kept"] (az oQ):=⟨rfl,rfl,rfl,by decide +kernel,rfl,by decide +kernel,by decide +kernel⟩
variable{fd:FuncData}
theorem yG{f:Addr}(F:Fun K "first_way" "Wish.first_way" oQ f fd)(T:Txt K mg D)(sM:Mt P w K mg base D.wish "ways_on" 18 ["self","memory","length"] (gB P w K D 7))
  (xf:Mt P w K mg base D.wish "first_among" 6 ["self","ways","kept"] (ym P w K D)):bw P w K mg base CX0 19 f fd ["self","most","kept"] (kg P w K D):=by
 refine F.ok cC (λvs H Q E h=>?_) (λcdv A outer s H vs Q E hr h=>?_)
 ·obtain⟨W,facts,f,gone,c,most,kept,rfl,_⟩:=h;rfl
 obtain⟨W,facts,f,gone,c,most,kept,rfl,hw,m6,q⟩:=h;have hu:=ED hr;refine⟨_,(ae (aG (i:=3) cC.nd rfl (Or.inl rfl) n8)
   (ae (cu NU rfl (fA rfl T.range (aa (aI fJ (pv 1) ao) ag)) (aL (i:=4) cC.nd rfl (Or.inl rfl)) (ae (aG (i:=5) cC.nd rfl (Or.inl rfl) n8)
   (ae (cu NU rfl (nZ (bZ (pv 0) sM hr (aa (au (au (pv 0) rfl) rfl) (aa (pv 4) ag)))) (gN rfl (bt (aL (i:=6) cC.nd rfl (Or.inl rfl)) (bt (aL (i:=7) cC.nd rfl (Or.inl rfl)) eZ))) (ai (aW (fH (yw hu (pv 6) (pv 3))) (ae (um hu (pv 3) (pv 6) Dg rfl)
   (ai (um hu (pv 5) (pv 6) (pv 7) rfl))) aD)))
   (ae (aG (i:=8) cC.nd rfl (Or.inl rfl) (bZ (pv 0) xf hr (aa (du (pv 5)) (aa (pv 2) ag))))
   (ai (aW (fH (Dh (pv 8))) (ai (aA (pv 8))) aD))))))
   (ai (aA jv)))),?_⟩
 intro td htd dtd;have s1:aw H (upd H td (.ext (dnP P w td []))):=ak htd _;have wfh:=hw.wfh;have ok:=wfh.ok;have rep:=wfh.rep;have t8:=wfh.t8;have few:=GR (f:=f) (ps:=Rdg.pts 0 f) t8 wfh.sz wfh.c60;have EM:=GO (f:=f) (ps:=Rdg.pts 0 f) wfh.sz;have C:=clo (tc:=2^facts) rep wfh.wf wfh.sd c;have lo:=cE hw.core;have ntd:=vx hw.core htd;have hMS:=AN rep c;unfold Mir.fC at q;generalize hT:(λo=>Mir.dW kept (Mir.backs (Rdg.pts 0 f) o (Mir.cM (Rdg.pts 0 f) c gone (c.length-gone))))=TT at q;generalize hA:Mir.fZ (Rdg.pts 0 f) (2^facts) (Mir.bA (Rdg.pts 0 f) c) TT (List.range (most+1)) []=An at q;refine⟨_,rfl,_,_,rfl,rfl,_,rfl,by omega,by omega,jT (lo:=0) (n:=((most:Int)+1).toNat)
  (λi σ H'=>(∃v4 v5 v6 v7 v8:Option V,σ=[some (.ref W.a),some (nv most),some (nv kept),some (.ref td),v4,v5,v6,v7,v8])/\WK P w K D H' W facts f gone c/\Kp (λb=>b=W.kb∨b=W.kw) H H'/\
   ∃tr kvs,DN P w H' td kvs/\Kb tr kvs/\tr.length<=i*262144/\Mir.fZ (Rdg.pts 0 f) (2^facts) (Mir.bA (Rdg.pts 0 f) c) TT ((List.range (most+1)).drop i) tr=An)
  ⟨⟨none,none,none,none,none,rfl⟩,hw.core.same s1,aw.kp s1,[],[],dtd,.nil,NT _,by rw[List.drop_zero];exact hA⟩ ?_ ?_⟩
 ·rintro i σ H2 hi ⟨⟨v4,v5,v6,v7,v8,rfl⟩,c2,k2,tr,kvs,d2,t2,trl,fl⟩;have hi:i<most+1:=by omega
  rw[P2];intro ud hud dud;have s3:aw H2 (upd H2 ud (.ext (dnP P w ud []))):=ak hud _;have dud:DN P w (upd H2 ud (.ext (dnP P w ud []))) ud []:=dud;have c3:=c2.same s3;have w3:=hw.back (k2.trans (aw.kp s3)) c3;have HK:H ud=none:=by
   cases e:H ud with
   |none=>rfl
   |some o=>
    by_cases z:ud=W.kb∨ud=W.kw
    ·exact absurd z (vx c2 hud)
    ·have:=k2 _ _ e z;rw[hud]at this;cases this
  have d3:=DN.same s3 d2;obtain⟨f3,e3⟩:=bp d3;have nut:ud≠td:=λz=>by
   obtain⟨f0,e0⟩:=bp d2;rw[z]at hud;rw[hud]at e0;cases e0
  obtain⟨fl0,fm,⟨fdx,fr⟩,_,JZ,_⟩:=w3.fol.ex;refine⟨_,rfl,W.a,W.dx,_,rfl,c3.self,rfl,_,rfl,W.a,D.wish,W.dx,_,_,rfl,c3.self,T.bN,T.oi,rfl,W.fo,D.dE,fdx,_,_,rfl,fr,T.jm,T.kG,rfl,_,rfl,W,gone,_,_,_,_,fm,Mir.bA (Rdg.pts 0 f) c,i,rfl,by omega,c3,ok,few,EM,t8,C,by omega,JZ,hMS,λrr H4 c4 k4 tf=>?_⟩;obtain⟨JC,⟨od4,xs4,hf4,dx4⟩,ht4⟩:=tf;have lo3:=cE c3;have d4:DN P w H4 td kvs:=gY d3 lo3 k4 (λz=>(vx hw.core htd) z);have du4:DN P w H4 ud []:=gY dud lo3 k4 (vx c2 hud);have k24:Kp (λb=>b=W.kb∨b=W.kw) H H4:=(k2.trans (aw.kp s3)).trans k4;generalize hl:Mir.bM (Rdg.pts 0 f) (2^facts) i (Mir.bA (Rdg.pts 0 f) c)=l at ht4;have ll:l.length<=262144:=by
   rw[<-hl];exact NR (fQ _ _ _ _) (C' t8 (by omega))
  have line:sizeLine=16777216:=by decide
  have lk4:l.length=JC.length:=Oa ht4;obtain⟨ft4,et4⟩:=bp d4;obtain⟨fu4,eu4⟩:=bp du4;have lo4:Loose D H4 λb=>b=td∨b=ud:=λb z=>by
   rcases z with z|z
   ·exact bL et4 b z
   ·exact bL eu4 b z
  refine⟨rr,od4,JC,xs4,rfl,hf4,dx4,kO (P:=P) (w:=w) (d:=rr) (ob:=od4) (kvs:=JC) (xs:=xs4)
   (λj σ H'=>(∃v6 v7 v8:Option V,σ=[some (.ref W.a),some (nv most),some (nv kept),some (.ref td),some (nv i),some (.ref ud),v6,v7,v8])/\Kp (λb=>b=td∨b=ud) H4 H'/\
    (∃kv,DN P w H' td kv/\Kb (Mir.aO tr (l.take j)).1 kv)/\xa P w H' ud (Mir.aO tr (l.take j)).2)
   ⟨⟨_,_,_,rfl⟩,λ_ _ h _=>h,⟨kvs,d4,by rw[PQ];exact t2⟩,⟨[],du4,by rw[PQ];exact .nil⟩⟩ ?_ ?_ ?_⟩
  ·rintro j σ H5 _ ⟨_,k5,_,_⟩;exact⟨lo4.frz k5 _ _ _ hf4,(dx4.keeps (lo4.tup k5)).kn⟩
  ·rintro j k v T0 b σ H5 hkv ⟨⟨v6',v7',v8',rfl⟩,k5,⟨kv5,d5,t5⟩,kvu,du5,tu5⟩ hT0 hb;obtain⟨x,wa,hx,rfl,rfl,hwa⟩:=yi ht4 hkv;have s6:aw H5 (upd H5 T0 (.tup [.ref b,.ref wa])):=ak hT0 _;generalize hH6:upd H5 T0 (.tup [.ref b,.ref wa])=H6 at s6;have hT6:H6 T0=some (.tup [.ref b,.ref wa]):=by rw[<-hH6];exact af
   have JJ:cF H6 (ko x.1) b:=cF.keeps (aw.tup s6) hb;have d6:=DN.same s6 d5;have du6:=DN.same s6 du5;have tv:=IV t5 x.1;have stp:Mir.aO tr (l.take (j+1))=if(Mir.aO tr (l.take j)).1.contains x.1=true then Mir.aO tr (l.take j)else((Mir.aO tr (l.take j)).1++[x.1],(Mir.aO tr (l.take j)).2++[x]):=by
    rw[OG,hx];exact j8 _ _ _
   have k6:Kp (λb=>b=td∨b=ud) H4 H6:=k5.trans (aw.kp s6);refine⟨T0,_,rfl,SqT.of hT6,rfl,_,_,rfl,_,_,rfl,rfl,?_⟩;refine⟨_,rfl,_,rfl,td,b,kv5,ko x.1,rfl,rfl,d6,JJ,_,rfl,?_⟩;cases hv:da kv5 (ko x.1)with
   |some v0=>
    refine l4 ?_;rw[hv]at tv;have tv:(Mir.aO tr (l.take j)).1.contains x.1=true:=tv.symm;rw[Nz tv]at stp;refine⟨⟨_,_,_,rfl⟩,k6,?_,?_⟩
    ·rw[stp];exact⟨kv5,d6,t5⟩
    ·rw[stp];exact⟨kvu,du6,tu5.keeps (aw.tup s6)⟩
   |none=>
    refine cp ?_;rw[hv]at tv;have tv:¬(Mir.aO tr (l.take j)).1.contains x.1=true:=by rw[<-tv];exact NI
    rw[Nt tv]at stp;obtain⟨ul1,ul2⟩:=iX (l.take j) tr;have tk:(l.take j).length<=l.length:=by rw[N2];omega
    have l1:kv5.length<sizeLine:=by rw[<-Oa t5];have:=Oh 262144 (show i<=6 by omega);omega
    have l2:kvu.length<sizeLine:=by rw[<-Oa tu5];omega
    refine⟨_,rfl,_,rfl,td,b,kv5,_,rfl,rfl,d6,JJ,l1,λob d7=>?_⟩;rw[vj _ hv]at d7;obtain⟨ft6,et6⟩:=bp d6;have lo6:Loose D H6 (·=td):=bL et6;have k7:Kp (·=td) H6 (upd H6 td ob):=aJ;have du7:DN P w (upd H6 td ob) ud kvu:=gY du6 lo6 k7 nut;have wa7:(upd H6 td ob) wa=some (.tup (nvs x.2)):=lo6.tup k7 _ _ (lo4.tup k6 _ _ hwa);have tu7:TabOf (upd H6 td ob) _ kvu:=(tu5.keeps (aw.tup s6)).keeps (lo6.tup k7);have hvu:da kvu (ko x.1)=none:=by
     have e:=C0 tu5 x.1;cases z:da kvu (ko x.1)with
     |none=>rfl
     |some v0=>
      rw[z]at e;obtain⟨y,hy,ye⟩:=Oi.mp e.symm;have ye:=NG ye;exact absurd (OE.mpr (ye▸zE _ _ y hy)) tv
    refine⟨_,rfl,_,rfl,_,rfl,ud,b,kvu,_,rfl,rfl,du7,cF.keeps (lo6.tup k7) JJ,l2,λob2 d8=>?_⟩;rw[vj _ hvu]at d8;obtain⟨fu7,eu7⟩:=bp du7;have lo7:Loose D (upd H6 td ob) (·=ud):=bL eu7;have k8:Kp (·=ud) (upd H6 td ob) (upd (upd H6 td ob) ud ob2):=aJ;refine⟨⟨_,_,_,rfl⟩,(k6.trans (k7.mono λb z=>.inl z)).trans (k8.mono λb z=>.inr z),⟨_,gY d7 lo7 k8 (λz=>nut z.symm),?_⟩,⟨_,d8,?_⟩⟩
    ·rw[stp];exact Qg t5 ⟨rfl,rfl⟩
    ·rw[stp];exact Qg (tu7.keeps (lo7.tup k8)) ⟨rfl,wa,rfl,lo7.tup k8 _ _ wa7⟩
  ·rintro σ H5 ⟨⟨v6',v7',v8',rfl⟩,k5,⟨kv5,d5,t5⟩,tm5⟩;rw[<-lk4,Oj]at t5 tm5;obtain⟨u,eu,mu,hu2⟩:=yh tm5;have nk:∀b,(b=W.a∨b=W.kb∨b=W.kw)->¬(b=td∨b=ud):=λb z y=>by
    obtain⟨kb0,e1,_⟩:=hw.core.kb;obtain⟨g1,x1⟩:=bp e1;obtain⟨kw0,e2,_⟩:=hw.core.kw;obtain⟨g2,x2⟩:=bp e2;have:H b=none:=by
     rcases y with rfl|rfl
     ·exact htd
     ·exact HK
    rcases z with rfl|rfl|rfl
    ·rw[hw.core.self]at this;cases this
    ·rw[x1]at this;cases this
    ·rw[x2]at this;cases this
   have c5:WK P w K D H5 W facts f gone c:=c4.kp lo4 k5 (nk _ (.inl rfl)) (nk _ (.inr (.inl rfl))) (nk _ (.inr (.inr rfl)));have k25:Kp (λb=>b=W.kb∨b=W.kw) H H5:=λb o h n=>k5 _ _ (k24 _ _ h n) λz=>by
    rcases z with rfl|rfl
    ·rw[htd]at h;cases h
    ·rw[HK]at h;cases h
   refine⟨_,rfl,W.a,W.dx,_,rfl,c5.self,rfl,_,rfl,ud,u,eu,mu,λod=>?_⟩;obtain⟨tf6,k6⟩:=hu2 od;obtain⟨Na,du5,_⟩:=id tm5;obtain⟨fu5,eu5⟩:=bp du5;have c6:=nD hw.core HK c5 eu5 k6;have k26:=vQ HK k25 k6;have w6:=hw.back k26 c6;have lo5:Loose D H5 (·=ud):=bL eu5;have d6:=gY d5 lo5 k6 (λz=>nut z.symm);have ul:=iX l tr;refine⟨_,rfl,W,gone,_,_,_,_,ud,kept,(Mir.aO tr l).2,Mir.cM (Rdg.pts 0 f) c gone (c.length-gone),rfl,c6,ok,few,w6.tms,by rw[nV];have:=wfh.c60;omega,λx hx=>?_,tf6,by omega,λx hx=>?_,λv7 H7 c7 k7 wa7=>?_⟩
   ·obtain⟨j,hj⟩:=OZ hx;have hj2:=(Nh.mp hj).1;rw[nV]at hj2;rw[yg _ _ _ _ _ hj2]at hj;rw[<-Nm hj];exact jP _
   ·have xl:=(iV l tr x hx).1;rw[<-hl]at xl;exact⟨rJ C i _ hMS x xl,CN rep wfh.wf wfh.sd wfh.tu hw.gl (by omega) xl⟩
   rw[show(λo=>Mir.dW kept (Mir.backs (Rdg.pts 0 f) o (Mir.cM (Rdg.pts 0 f) c gone (c.length-gone))))=TT from hT]at wa7;have k27:Kp (λb=>b=W.kb∨b=W.kw) H H7:=k26.trans (k7.mono λb z=>.inl z);have w7:=hw.back k27 c7;have dr:(List.range (most+1)).drop i=i::(List.range (most+1)).drop (i+1):=by
    rw[Od (by rw[OV];exact hi),List.getElem_range]
   rw[dr]at fl;have fl:(match Mir.bK (Mir.aO tr l).2 TT with
    |some p=>some p
    |none=>Mir.fZ (Rdg.pts 0 f) (2^facts) (Mir.bA (Rdg.pts 0 f) c) TT ((List.range (most+1)).drop (i+1)) (Mir.aO tr l).1)=An:=by rw[<-hl];exact fl
   have lo6:=cE c6;cases hfb:Mir.bK (Mir.aO tr l).2 TT with
   |some p=>
    rw[hfb]at wa7 fl;obtain⟨r7,rfl,hr7⟩:=wa7;have fl:some p=An:=fl;refine⟨_,rfl,_,rfl,?_⟩;rw[NL (λz=>by cases z)];refine cp ⟨_,rfl,q _ _ w7 k27 ?_⟩;rw[<-fl];exact⟨r7,rfl,hr7⟩
   |none=>
    rw[hfb]at wa7 fl;have wa7:v7=.non:=wa7;subst wa7;refine⟨_,rfl,_,rfl,?_⟩;rw[NA rfl];refine l4 ⟨⟨_,_,_,_,_,rfl⟩,c7,k27,_,kv5,gY d6 lo6 (k7.mono λb z=>.inl z) (λz=>ntd z),t5,?_,fl⟩;have:=ul.1;rw[P0];omega
 ·rintro σ H2 ⟨⟨v4,v5,v6,v7,v8,rfl⟩,c2,k2,tr,kvs,d2,t2,trl,fl⟩;rw[show((most:Int)+1).toNat=most+1 by omega,O2 (by rw[OV];omega)]at fl;have fl:none=An:=fl;refine q _ _ (hw.back k2 c2) k2 ?_;rw[<-fl];rfl
inductive BO(P:Program)(w:World)(K:Rt)(D:Ad)(vs:List V)(H:Hp)(Q:VK)(E:XK):Prop
 |mk (W facts f gone c:_):vs=[.ref (WAd.a W)]->dF P w K D H W facts f gone c->(∀H',dF P w K D H' W facts f gone c->Kp (λb=>b=W.kb∨b=W.kw) H H'->Q (nv (match Mir.fC (Rdg.pts 0 f) (2^facts) c gone 0 1 with|none=>0|some _=>1)) H')->BO P w K D vs H Q E
abbrev mG:Stmt:=inClass (top 47) 2
theorem tM:aF ["self"] ["self"] (az mG):=⟨rfl,rfl,rfl,by decide +kernel,rfl,by decide +kernel,by decide +kernel⟩
theorem vq{f:Addr}(F:Fun K "kept_so_far" "Wish.kept_so_far" mG f fd)(T:Txt K mg D)(nP:Mt P w K mg base D.wish "first_way" 19 ["self","most","kept"] (kg P w K D)):
  bw P w K mg base CX0 20 f fd ["self"] (BO P w K D):=by
 refine F.ok tM (λvs H Q E h=>?_) (λcdv A outer s H vs Q E hr h=>?_)
 ·obtain⟨W,facts,f,gone,c,rfl,_⟩:=h;rfl
 obtain⟨W,facts,f,gone,c,rfl,hw,q⟩:=h;refine⟨_,(ai (aA (eP (fH (kr (bZ (pv 0) nP hr (aa ao (aa ao ag))))) ao ao))),?_⟩;refine⟨_,rfl,W.a,W.dx,_,rfl,hw.core.self,rfl,W,facts,f,gone,c,0,1,rfl,hw,by omega,λv H1 w1 k1 wa=>?_⟩;have q:=q H1 w1 k1;cases hfb:Mir.fC (Rdg.pts 0 f) (2^facts) c gone 0 1 with
 |none=>
  rw[hfb]at wa q;have wa:v=.non:=wa;subst wa;exact⟨_,rfl,qX q⟩
 |some p=>
  rw[hfb]at wa q;obtain⟨r,rfl,_⟩:=wa;exact⟨_,rfl,qY q⟩
end
def ptN:List Str:=["kind","number","first","second"]
def w4(rl l:Addr)(g t:Nat):List (Str×V):=[("row",.ref rl) ,("parts",.ref l) ,("gone",nv g) ,("turn_count",nv t)]
def w5(rl l:Addr)(g t:Nat)(fx:Addr):List (Str×V):=[("row",.ref rl) ,("parts",.ref l) ,("gone",nv g) ,("turn_count",nv t) ,("follower",.ref fx)]
def w6(rl l:Addr)(g t:Nat)(fx tl:Addr):List (Str×V):=[("row",.ref rl) ,("parts",.ref l) ,("gone",nv g) ,("turn_count",nv t) ,("follower",.ref fx) ,("turns",.ref tl)]
def w7(rl l:Addr)(g t:Nat)(fx tl ml:Addr):List (Str×V):=[("row",.ref rl) ,("parts",.ref l) ,("gone",nv g) ,("turn_count",nv t) ,("follower",.ref fx) ,("turns",.ref tl) ,("memories",.ref ml)]
def w8(rl l:Addr)(g t:Nat)(fx tl ml kw:Addr):List (Str×V):=[("row",.ref rl) ,("parts",.ref l) ,("gone",nv g) ,("turn_count",nv t) ,("follower",.ref fx) ,("turns",.ref tl) ,("memories",.ref ml) ,("known_ways",.ref kw)]
def w9(rl l:Addr)(g t:Nat)(fx tl ml kw kb:Addr):List (Str×V):=[("row",.ref rl) ,("parts",.ref l) ,("gone",nv g) ,("turn_count",nv t) ,("follower",.ref fx) ,("turns",.ref tl) ,("memories",.ref ml) ,("known_ways",.ref kw) ,("known_outlooks",.ref kb)]
theorem nk{fs:List (Str×V)}{a:Str}{r:List (Str×V)}(e:fs=(a,v)::r)(h:(a==("kind":Str))=false):fs.map (·.1)≠ptN:=λz=>by
 rw[e]at z;have z:a::r.map (·.1)=("kind":Str)::["number","first","second"]:=z;injection z with z _;rw[z]at h;exact absurd h (by decide)
theorem bh{D:Ad}{C dx:Addr}{fs:List (Str×V)}(h:H b=some (.ins C dx fs))(n:fs.map (·.1)≠ptN):Loose D H (·=b):=λa z=>by
 subst z;refine⟨λp ⟨d2,q⟩=>?_,λys q=>(by rw[h]at q;cases q),λo u q=>(by rw[h]at q;cases q)⟩;rw[h]at q;have e:=Nm q;injection e with _ _ e;exact n (by rw[e];rfl)
theorem bX{D:Ad}{xs:List V}(h:H b=some (.lst xs)):Loose D H (·=b):=λa z=>by
 subst z;exact⟨λp ⟨d2,q⟩=>(by rw[h]at q;cases q),λys q=>(by rw[h]at q;cases q),λo u q=>(by rw[h]at q;cases q)⟩
theorem zM(ps:List Pt)(c e:List Nat)(k:Nat):∀d,k+d<=c.length->Mir.cM ps (c++e) k d=Mir.cM ps c k d
 |0,_=>rfl
 |d+1,h=>by
  show((c++e).getD (k+d) 0,Mir.bA ps ((c++e).take (k+d)))::Mir.cM ps (c++e) k d=(c.getD (k+d) 0,Mir.bA ps (c.take (k+d)))::Mir.cM ps c k d;rw[zM ps c e k d (by omega),PN (by omega),Nj,Nj,NJ (by omega)]
theorem zN(ps:List Pt)(c:List Nat)(t:Nat){k:Nat}(h:k<=c.length):Mir.cM ps (c++[t]) k ((c++[t]).length-k)=(t,Mir.bA ps c)::Mir.cM ps c k (c.length-k):=by
 rw[show(c++[t]).length-k=(c.length-k)+1 by rw[Nk,Ny];omega];show((c++[t]).getD (k+(c.length-k)) 0,Mir.bA ps ((c++[t]).take (k+(c.length-k))))::Mir.cM ps (c++[t]) k (c.length-k)=_;rw[zM ps c [t] k _ (by omega),show k+(c.length-k)=c.length by omega,PN (Nq _),Oj,Nj,NM (Nq _),OF];rfl
section
variable{P:Program}{w:World}{K:Rt}{mg:Ru}{base:Heap}{D:Ad}
inductive pz(P:Program)(w:World)(K:Rt)(D:Ad)(vs:List V)(H:Hp)(Q:VK)(E:XK):Prop
 |mk (W facts f gone c t:_):vs=[.ref (WAd.a W),nv t]->dF P w K D H W facts f gone c->t<2^facts->c.length<60->(∀H',dF P w K D H' W facts f gone (c++[t])->Kp (λb=>b=W.tl∨b=W.ml∨b=W.fo) H H'->Q .non H')->pz P w K D vs H Q E
abbrev mF:Stmt:=inClass (top 47) 1
theorem tL:aF ["self","turn"] ["self","turn"] (az mF):=⟨rfl,rfl,rfl,by decide +kernel,rfl,by decide +kernel,by decide +kernel⟩
variable{fd:FuncData}
theorem pT{f:Addr}(F:Fun K "turn_comes" "Wish.turn_comes" mF f fd)(T:Txt K mg D)(eB:Mt P w K mg base D.dE "follow" 4 ["self","turn"] (jC K D)):
  bw P w K mg base CX0 5 f fd ["self","turn"] (pz P w K D):=by
 refine F.ok tL (λvs H Q E h=>?_) (λcdv A outer s H vs Q E hr h=>?_)
 ·obtain⟨W,facts,f,gone,c,t,rfl,_⟩:=h;rfl
 obtain⟨W,facts,f,gone,c,t,rfl,hw,ht,c60,q⟩:=h;refine⟨_,(ae (b6 (lK NY Oe Of dD (au (pv 0) rfl) (aa (pv 1) ag)))
   (ae (b6 (lK NY Oe Of dD (au (pv 0) rfl) (aa (au (au (pv 0) rfl) rfl) ag)))
   (ai (b6 (bZ (au (pv 0) rfl) eB hr (aa (pv 1) ag)))))),?_⟩
 obtain⟨as,m1,m2⟩:=hw.tms.ms;have t1:=hw.tms.ts;have ln1:(nvs ((Mir.cM (Rdg.pts 0 f) c gone (c.length-gone)).reverse.map (·.1))).length=c.length-gone:=by rw[Nf,Nf,Qh,nV]
 have ln2:(as.map V.ref).length=c.length-gone:=by rw[Nf,<-Oa m2,Qh,nV]
 have self:=hw.core.self;have nat:W.a≠W.tl:=bJ self t1 (by intro z;cases z);have nam:W.a≠W.ml:=bJ self m1 (by intro z;cases z);refine⟨_,rfl,W.a,D.wish,W.dx,_,_,rfl,self,T.bN,T.yO,rfl,.inl ⟨rfl,_,SqL.of t1⟩,_,rfl,W.tl,_,_,rfl,rfl,t1,(by rw[ln1];exact bx (by omega)),?_⟩;generalize hH1:upd H W.tl (.lst (nvs ((Mir.cM (Rdg.pts 0 f) c gone (c.length-gone)).reverse.map (·.1))++[nv t]))=H1;have k1:Kp (·=W.tl) H H1:=by rw[<-hH1];exact aJ
 have e1:H1 W.tl=some (.lst (nvs ((Mir.cM (Rdg.pts 0 f) c gone (c.length-gone)).reverse.map (·.1))++[nv t])):=by rw[<-hH1];exact af
 have lt:Loose D H (·=W.tl):=bX t1;obtain⟨fl,fm,⟨fdx,fr⟩,fp,JZ,ff⟩:=id hw.fol.ex;have nft:W.fo≠W.tl:=bJ fr t1 (by intro z;cases z);have nfm:W.fo≠W.ml:=bJ fr m1 (by intro z;cases z);have m1':=k1 _ _ m1 hw.nt.symm;have xq:=k1 _ _ self nat;refine⟨_,rfl,W.a,D.wish,W.dx,_,_,rfl,xq,T.bN,T.sj,rfl,.inl ⟨rfl,_,SqL.of m1'⟩,_,rfl,W.a,D.wish,W.dx,_,_,rfl,xq,T.bN,T.oi,rfl,W.fo,D.dE,fdx,_,_,rfl,k1 _ _ fr nft,T.jm,T.kG,rfl,W.ml,_,_,rfl,rfl,m1',(by rw[ln2];exact bx (by omega)),?_⟩;generalize hH2:upd H1 W.ml (.lst (as.map V.ref++[.ref fm]))=H2;have k2:Kp (·=W.ml) H1 H2:=by rw[<-hH2];exact aJ
 have e2:H2 W.ml=some (.lst (as.map V.ref++[.ref fm])):=by rw[<-hH2];exact af
 have lm:Loose D H1 (·=W.ml):=bX m1';have sQ:=k2 _ _ xq nam;have f2:fP K D H2 W.fo (Rdg.pts 0 f) (Mir.bA (Rdg.pts 0 f) c):=(hw.fol.kp k1 nft lt).kp k2 nfm lm;have fr2:=k2 _ _ (k1 _ _ fr nft) nfm;refine⟨_,rfl,W.a,D.wish,W.dx,_,_,rfl,sQ,T.bN,T.oi,rfl,W.fo,fdx,_,rfl,fr2,rfl,_,rfl,W.fo,t,_,_,rfl,f2,λH3 f3 k3=>?_⟩;have lf:Loose D H2 (·=W.fo):=bh fr2 (nk rfl rfl);obtain⟨o,rw1⟩:=hw.row;have naf:W.a≠W.fo:=bJ self fr (by
  intro z;injection z with _ _ z
  have:=congrArg (λz:List (Str×V)=>z.length) z;unfold wF foF at this;simp at this)
 have n:∀b,(b=W.a∨b=W.kb∨b=W.kw)->b≠W.tl/\b≠W.ml/\b≠W.fo:=λb z=>by
  obtain⟨kb0,x1,_⟩:=hw.core.kb;obtain⟨g1,y1⟩:=bp x1;obtain⟨kw0,x2,_⟩:=hw.core.kw;obtain⟨g2,y2⟩:=bp x2;rcases z with rfl|rfl|rfl
  ·exact⟨nat,nam,naf⟩
  ·exact⟨bJ y1 t1 (by intro z;cases z),bJ y1 m1 (by intro z;cases z),bJ y1 fr (by intro z;cases z)⟩
  ·exact⟨bJ y2 t1 (by intro z;cases z),bJ y2 m1 (by intro z;cases z),bJ y2 fr (by intro z;cases z)⟩
 have c3:WK P w K D H3 W facts f gone c:=
  ((hw.core.kp lt k1 (n _ (.inl rfl)).1 (n _ (.inr (.inl rfl))).1 (n _ (.inr (.inr rfl))).1).kp lm k2 (n _ (.inl rfl)).2.1 (n _ (.inr (.inl rfl))).2.1 (n _ (.inr (.inr rfl))).2.1).kp lf k3 (n _ (.inl rfl)).2.2 (n _ (.inr (.inl rfl))).2.2 (n _ (.inr (.inr rfl))).2.2
 have c4:WK P w K D H3 W facts f gone (c++[t]):=by
  refine⟨c3.self,c3.parts,c3.frz,?_,c3.kw,c3.ne⟩;obtain⟨kvs,b1,b2⟩:=c3.kb;refine⟨kvs,b1,λkv hkv=>?_⟩;obtain⟨t',m',o',r',z1,z2⟩:=b2 kv hkv;exact⟨t',m',o',r',E6 z1,z2⟩
 refine q H3 ⟨c4,⟨o,lf.frz k3 _ _ _ (lm.frz k2 _ _ _ (lt.frz k1 _ _ _ rw1))⟩,?_,?_,by rw[Nk];have:=hw.gl;omega,?_,hw.nt⟩ ?_
 ·rw[Mir.dU];exact f3
 ·have tupK:∀b ys,H b=some (.tup ys)->H3 b=some (.tup ys):=λb ys z=>lf.tup k3 _ _ (lm.tup k2 _ _ (lt.tup k1 _ _ z));refine⟨?_,as++[fm],?_,?_⟩
  ·rw[zN _ _ _ hw.gl,QA,NS];rw[k3 _ _ (k2 _ _ e1 hw.nt) nft.symm];unfold nvs;rw[NS];rfl
  ·rw[k3 _ _ e2 nfm.symm,NS];rfl
  ·rw[zN _ _ _ hw.gl,QA];exact Qg (Paired.qS m2 λx a z=>tupK _ _ z) (tupK _ _ JZ)
 ·have wh:=hw.wfh;refine⟨wh.fa,wh.wf,wh.sd,wh.sz,λu hu=>?_,by rw[Nk,Ny];omega⟩;rcases Np.mp hu with z|z
  ·exact wh.tu u z
  ·rw[Nu.mp z];exact ht
 ·exact((k1.mono λb z=>.inl z).trans (k2.mono λb z=>.inr (.inl z))).trans (k3.mono λb z=>.inr (.inr z))
inductive pC(P:Program)(w:World)(K:Rt)(D:Ad)(vs:List V)(H:Hp)(Q:VK)(E:XK):Prop
 |mk (x dx rl l facts cl f c:_):vs=[.ref x,.ref rl,.ref l,nv facts,.ref cl]->H x=some (.ins D.wish dx [])->bF K D H l (Rdg.pts 0 f)->Frz H l->(∃o,H rl=some (.frz o (.lst (ivs (Rdg.br f)))))->Rd H cl (.lst (nvs c))->Wf facts f c->(∀W H',W.a=x->dF P w K D H' W facts f c.length c->Kp (·=x) H H'->(∀b,W.cA b->b=x∨H b=none)->Q .non H')->pC P w K D vs H Q E
abbrev xu:Stmt:=inClass (top 47) 0
theorem BS:aF ["self","row","parts","facts","course"] ["self","row","parts","facts","course"] (az xu):=⟨rfl,rfl,rfl,by decide +kernel,rfl,by decide +kernel,by decide +kernel⟩
theorem Au{f:Addr}(F:Fun K "__init__" "Wish.__init__" xu f fd)(T:Txt K mg D)(gc:Mc P w K mg base "Follower" D.dE 5 ["self","parts","course"] (ig K D)):
  bw P w K mg base CX0 7 f fd ["self","row","parts","facts","course"] (pC P w K D):=by
 refine F.ok BS (λvs H Q E h=>?_) (λcdv A outer s H vs Q E hr h=>?_)
 ·obtain⟨x,dx,rl,l,facts,cl,f,c,rfl,_⟩:=h;rfl
 obtain⟨x,dx,rl,l,facts,cl,f,c,rfl,hx,hp,⟨lo,lu,hl⟩,⟨ro,hrl⟩,hc,wh,q⟩:=h;refine⟨_,(ae (bb (pv 0) (pv 1) rfl)
   (ae (bb (pv 0) (pv 2) rfl)
   (ae (bb (pv 0) (aP aC rfl T.len NO (aa (pv 4) ag)) rfl)
   (ae (bb (pv 0) (aI iD ao (pv 3)) rfl)
   (ae (bb (pv 0) (jG gc hr (aa (pv 2) (aa (pv 4) ag))) rfl)
   (ae (bb (pv 0) (aV ag) rfl)
   (ae (bb (pv 0) (aV ag) rfl)
   (ae (bb (pv 0) n8 rfl)
   (ai (bb (pv 0) n8 rfl)))))))))),?_⟩
 have lx:∀{H':Hp}{fs:List (Str×V)},H' x=some (.ins D.wish dx fs)->fs.map (·.1)≠ptN->Loose D H' (·=x):=λh n=>bh h n;have hcx:¬cl=x:=by
  rcases hc with z|⟨o2,z⟩
  ·exact bJ z hx (by intro z;cases z)
  ·exact bJ z hx (by intro z;cases z)
 have hcS:SqL K H cl (nvs c):=.inl hc;have nlx:l≠x:=bJ hl hx (by intro z;cases z);have nrx:rl≠x:=bJ hrl hx (by intro z;cases z);have np0:∀b p,b=x->¬cX D H b p:=λb p z=>(lx hx (by decide) b z).1 p;refine⟨_,rfl,_,rfl,x,D.wish,dx,_,rfl,hx,T.bN,T.KZ,(by show 0<1000;decide),?_⟩;refine⟨_,rfl,_,rfl,x,D.wish,dx,_,rfl,af,T.bN,T.jJ,(by show 1<1000;decide),?_⟩;generalize hH2:upd (upd H x (.ins D.wish dx (df "row" (.ref rl) []))) x (.ins D.wish dx (df "parts" (.ref l) (df "row" (.ref rl) [])))=H2;have k2:Kp (·=x) H H2:=by rw[<-hH2];exact aJ.trans aJ
 have e2:H2 x=some (.ins D.wish dx (df "parts" (.ref l) (df "row" (.ref rl) []))):=by rw[<-hH2];exact af
 refine⟨_,rfl,cl,_,rfl,.inl (k2.seq hcS hcx),_,rfl,x,D.wish,dx,_,rfl,e2,T.bN,T.ID,(by show 2<1000;decide),?_⟩;generalize hH3:upd H2 x (.ins D.wish dx (df "gone" (.int ((nvs c).length:Nat)) (df "parts" (.ref l) (df "row" (.ref rl) []))))=H3;have k3:Kp (·=x) H H3:=by rw[<-hH3];exact k2.trans aJ
 have e3:H3 x=some (.ins D.wish dx (df "gone" (.int ((nvs c).length:Nat)) (df "parts" (.ref l) (df "row" (.ref rl) [])))):=by rw[<-hH3];exact af
 have fa:=wh.fa;refine⟨_,rfl,_,_,rfl,rfl,⟨by omega,by omega,by omega⟩,_,rfl,x,D.wish,dx,_,rfl,e3,T.bN,T.vA,(by show 3<1000;decide),?_⟩;generalize hf4:df "turn_count" (.int (1*2^((facts:Nat):Int).toNat)) (df "gone" (.int ((nvs c).length:Nat)) (df "parts" (.ref l) (df "row" (.ref rl) [])))=f4;have hf4:f4=(w4 rl l c.length (2^facts)):=by
  rw[<-hf4,Nw,Int.one_mul,Nf];have:((2:Int)^facts)=((2^facts:Nat):Int):=by rw[Int.natCast_pow];rfl
  rw[this];rfl
 subst hf4;generalize hH4:upd H3 x (.ins D.wish dx (w4 rl l c.length (2^facts)))=H4;have k4:Kp (·=x) H H4:=by rw[<-hH4];exact k3.trans aJ
 have e4:H4 x=some (.ins D.wish dx (w4 rl l c.length (2^facts))):=by rw[<-hH4];exact af
 refine⟨_,rfl,_,rfl,λfx fdx nfx FK nxd=>?_⟩;have s5:aw H4 (upd (upd H4 fdx (.own fx)) fx (.ins D.dE fdx [])):=(ak FK _).trans (ak (by rw[aB (Ne.symm nxd)];exact nfx) _);have k5:Kp (·=x) H (upd (upd H4 fdx (.own fx)) fx (.ins D.dE fdx [])):=k4.trans (aw.kp s5);have hc5:Rd (upd (upd H4 fdx (.own fx)) fx (.ins D.dE fdx [])) cl (.lst (nvs c)):=by
  rcases hc with z|⟨o2,z⟩
  ·exact .inl (k5 _ _ z hcx)
  ·exact .inr ⟨o2,k5 _ _ z hcx⟩
 refine⟨fx,fdx,l,cl,Rdg.pts 0 f,c,rfl,af,hp.kp k5 nlx np0,wh.ok,⟨lo,lu,k5 _ _ hl nlx⟩,hc5,λH6 f6 k6=>⟨rfl,?_⟩⟩;have nfH:fx≠x:=λz=>by rw[z,e4]at nfx;cases nfx
 have e6:H6 x=some (.ins D.wish dx (w4 rl l c.length (2^facts))):=k6 _ _ (s5 _ _ e4) nfH.symm;have fxn:H fx=none:=by
  cases z:H fx with
  |none=>rfl
  |some o=>have:=k4 _ _ z nfH;rw[nfx]at this;cases this
 have k6':Kp (·=x) H H6:=λb o h n=>k6 _ _ (k5 _ _ h n) (ax h fxn);refine⟨_,rfl,x,D.wish,dx,_,rfl,e6,T.bN,T.oi,(by show 4<1000;decide),?_⟩;generalize hH7:upd H6 x (.ins D.wish dx (df "follower" (.ref fx) (w4 rl l c.length (2^facts))))=H7;have k67:Kp (·=x) H6 H7:=by rw[<-hH7];exact aJ
 have e7:H7 x=some (.ins D.wish dx (w5 rl l c.length (2^facts) fx)):=by rw[<-hH7];exact af
 have k7:=k6'.trans k67;have f7:=f6.kp k67 nfH (lx e6 (nk rfl rfl));clear hH7 hH4 hH3 hH2 k67;refine⟨NT _,λtl htl=>?_⟩;have s8:aw H7 (upd H7 tl (.lst [])):=ak htl _;have ntl:tl≠x:=λz=>by rw[z,e7]at htl;cases htl
 refine⟨_,rfl,x,D.wish,dx,_,rfl,s8 _ _ e7,T.bN,T.yO,(by show 5<1000;decide),?_⟩;generalize hH8:upd (upd H7 tl (.lst [])) x _=H8;have k78:Kp (·=x) H7 H8:=by rw[<-hH8];exact(aw.kp s8).trans aJ
 have e8:H8 x=some (.ins D.wish dx (w6 rl l c.length (2^facts) fx tl)):=by rw[<-hH8];exact af
 have t8:H8 tl=some (.lst []):=by rw[<-hH8,aB ntl];exact af
 clear hH8;refine⟨NT _,λml hml=>?_⟩;have s9:aw H8 (upd H8 ml (.lst [])):=ak hml _;have nml:ml≠x:=λz=>by rw[z,e8]at hml;cases hml
 refine⟨_,rfl,x,D.wish,dx,_,rfl,s9 _ _ e8,T.bN,T.sj,(by show 6<1000;decide),?_⟩;generalize hH9:upd (upd H8 ml (.lst [])) x _=H9;have k89:Kp (·=x) H8 H9:=by rw[<-hH9];exact(aw.kp s9).trans aJ
 have e9:H9 x=some (.ins D.wish dx (w7 rl l c.length (2^facts) fx tl ml)):=by rw[<-hH9];exact af
 have m9:H9 ml=some (.lst []):=by rw[<-hH9,aB nml];exact af
 have t9:=k89 _ _ t8 ntl;have ntm:tl≠ml:=λz=>by rw[<-z,t8]at hml;cases hml
 clear hH9;intro kw hkw dkw;have dkw:DN P w (upd H9 kw (.ext (dnP P w kw []))) kw []:=dkw;have s10:aw H9 (upd H9 kw (.ext (dnP P w kw []))):=ak hkw _;have nkw:kw≠x:=λz=>by rw[z,e9]at hkw;cases hkw
 refine⟨_,rfl,x,D.wish,dx,_,rfl,s10 _ _ e9,T.bN,T.iE,(by show 7<1000;decide),?_⟩;generalize JS:upd (upd H9 kw _) x _=H10;have k9a:Kp (·=x) (upd H9 kw (.ext (dnP P w kw []))) H10:=by rw[<-JS];exact aJ
 have e10:H10 x=some (.ins D.wish dx (w8 rl l c.length (2^facts) fx tl ml kw)):=by rw[<-JS];exact af
 have IM:DN P w H10 kw []:=gY dkw (lx (s10 _ _ e9) (nk rfl rfl)) k9a nkw;have HH:Kp (·=x) H9 H10:=(aw.kp s10).trans k9a;clear JS;intro kb hkb dkb;have dkb:DN P w (upd H10 kb (.ext (dnP P w kb []))) kb []:=dkb;have s11:aw H10 (upd H10 kb (.ext (dnP P w kb []))):=ak hkb _;have nkb:kb≠x:=λz=>by rw[z,e10]at hkb;cases hkb
 refine⟨_,rfl,x,D.wish,dx,_,rfl,s11 _ _ e10,T.bN,T.dS,(by show 8<1000;decide),?_⟩;generalize EH:upd (upd H10 kb _) x _=H11;have K8:Kp (·=x) (upd H10 kb (.ext (dnP P w kb []))) H11:=by rw[<-EH];exact aJ
 have e11:H11 x=some (.ins D.wish dx (w9 rl l c.length (2^facts) fx tl ml kw kb)):=by rw[<-EH];exact af
 have Lz:DN P w H11 kb []:=gY dkb (lx (s11 _ _ e10) (nk rfl rfl)) K8 nkb;have Du:Kp (·=x) H10 H11:=(aw.kp s11).trans K8;have Ly:DN P w H11 kw []:=gY IM (lx e10 (nk rfl rfl)) Du nkw;clear EH;have nwb:kw≠kb:=λz=>by
  obtain⟨g,y⟩:=bp IM;rw[z,hkb]at y;cases y
 have k7e:Kp (·=x) H7 H11:=((k78.trans k89).trans HH).trans Du;have ke:Kp (·=x) H H11:=k7.trans k7e;have free:∀{H':Hp}{b:Addr},Kp (·=x) H H'->H' b=none->b≠x->H b=none:=λ{H' b} k h n=>by
  cases z:H b with
  |none=>rfl
  |some o=>have:=k _ _ z n;rw[h]at this;cases this
 refine q ⟨x,dx,rl,l,fx,tl,ml,kw,kb⟩ H11 rfl ⟨⟨e11,hp.kp ke nlx np0,⟨lo,lu,ke _ _ hl nlx⟩,⟨[],Lz,λ_ z=>by cases z⟩,⟨[],Ly,λ_ z=>by cases z⟩,nwb⟩,⟨ro,ke _ _ hrl nrx⟩,f7.kp k7e nfH (lx e7 (nk rfl rfl)),⟨?_,[],?_,?_⟩,Nq _,wh,ntm⟩ ke ?_
 ·rw[OF];exact(HH.trans Du) _ _ t9 ntl
 ·exact(HH.trans Du) _ _ m9 nml
 ·rw[OF];exact .nil
 ·rintro b (z|z|z|z|z|z)
  ·exact .inl z
  ·exact .inr (by rw[z];exact fxn)
  ·exact .inr (by rw[z];exact free k7 htl ntl)
  ·exact .inr (by rw[z];exact free (k7.trans k78) hml nml)
  ·exact .inr (by rw[z];exact free ((k7.trans k78).trans k89) hkw nkw)
  ·exact .inr (by rw[z];exact free (((k7.trans k78).trans k89).trans HH) hkb nkb)
end
end Sc
namespace Z3
open PySem PyProof.Rows
abbrev iT(h:Heap)(T:Addr)(a b c:Value):Prop:=h.get? T=some {cls:=.type "tuple",data:=.seq #[a,b,c]}
structure Ap(z TI TO i j k p q r:Addr):Prop where
 nz:TI≠z/\TO≠z/\i≠z/\j≠z/\k≠z/\p≠z/\q≠z/\r≠z
 nt:TI≠TO/\i≠TO/\j≠TO/\k≠TO/\p≠TO/\q≠TO/\r≠TO
 ni:TI≠i/\j≠i/\k≠i/\p≠i/\q≠i/\r≠i
 nj:TI≠j/\k≠j/\p≠j/\q≠j/\r≠j
 nk:TI≠k/\p≠k/\q≠k/\r≠k
theorem nn{x y:Nat}(h:x<y∨y<x):@Ne Addr x y:=λe=>by
 have e:x=y:=e;omega
theorem Ka(n p q r:Nat)(hp:p<n)(hq:q<n)(hr:r<n):Ap (n+5) (n+3) (n+4) n (n+1) (n+2) p q r:=by
 refine⟨⟨nn ?_,nn ?_,nn ?_,nn ?_,nn ?_,nn ?_,nn ?_,nn ?_⟩,⟨nn ?_,nn ?_,nn ?_,nn ?_,nn ?_,nn ?_,nn ?_⟩,⟨nn ?_,nn ?_,nn ?_,nn ?_,nn ?_,nn ?_⟩,⟨nn ?_,nn ?_,nn ?_,nn ?_,nn ?_⟩,nn ?_,nn ?_,nn ?_,nn ?_⟩<;>omega
theorem tc3(a b c:Value):checkTypeCall "zip" ⟨[a,b,c],[]⟩=pure ():=by kernel_rfl
theorem nc3(a b c:Value):checkBuiltinCall "zip.__new__" ⟨[.type "zip",a,b,c],[]⟩=pure ():=by kernel_rfl
theorem oi4(o a b c:Value):argsOk "object.__init__" ⟨[o,a,b,c],[]⟩:=by
 unfold argsOk;rw[signature?_of (id:="object.__init__") (n:="__init__".toList.reverse) (o:="object".toList.reverse) (by kernel_rfl) F.owner_object]
 kernel_rfl
section
variable{prog:Program}{w:World}{A:Around}{E:Rv}{s:Shared}
variable{a b c x:Value}
theorem Jf{T:Addr}{n:Nat}{Q:Unit->Shared->Prop}(hT:iT s.heap T a b c)
  (h:∀g,g.get? T=some {cls:=.type "tuple",data:=.seq ((#[a,b,c]:Array Value).setIfInBounds n x)}->Heap.SameBut T s.heap g->Q () {s with heap:=g}):wpAny (model prog w) A (updateSeq T (·.setIfInBounds n x)) Q E s:=by
 refine wpAny_updateSeq hT rfl (h _ ?_ (PJ ..));rw[QF _ hT rfl];simp[Obj.mapSeq]
variable{z i j k r:Addr}{m1:Nat}{xs ys zs:Array Value}{y u:Value}
theorem KW{TI TO p q:Addr}{m2 m3:Nat}{Q:Rv}(D:Ap z TI TO i j k p q r)(hz:IsZip s.heap z TI TO .none)(hI:iT s.heap TI (.ref i) (.ref j) (.ref k))(hO:iT s.heap TO a b c)
  (w1:s.heap.IsListIter i p m1)(w2:s.heap.IsListIter j q m2)(w3:s.heap.IsListIter k r m3)(l1:s.heap.IsList p xs)(l2:s.heap.IsList q ys)(l3:s.heap.IsList r zs)(hx:xs[m1]?=some x)(hy:ys[m2]?=some y)(hu:zs[m3]?=some u)
  (hQ:∀g,IsZip g z TI TO (rawInt s.heap.objs.size)->iT g TO x y u->g.IsListIter i p (m1+1)->g.IsListIter j q (m2+1)->g.IsListIter k r (m3+1)->iT g s.heap.objs.size x y u->g.objs.size=s.heap.objs.size+1->(∀d o,d≠z->d≠TO->d≠i->d≠j->d≠k->s.heap.get? d=some o->g.get? d=some o)->Q (.ref s.heap.objs.size) {s with heap:=g}):
  wpAny (model prog w) A (Builtin.«zip.__next__» ⟨[.ref z],[]⟩) (λfin t=>∃v,fin=.done (.ret v)/\Q v t) E s:=by
 obtain⟨z1,z2,z3,z4,z5,z6,z7,z8⟩:=D.nz;obtain⟨t1,t2,t3,t4,t5,t6,t7⟩:=D.nt;obtain⟨i1,i2,i3,i4,i5,i6⟩:=D.ni;obtain⟨j1,j2,j3,j4,j5⟩:=D.nj;obtain⟨k1,k2,k3,k4⟩:=D.nk;show wpAny _ _ (field (.ref z) 2>>=_) _ _ _;refine Ni (Ph hz rfl (x:=.bool false) rfl ?_);show wpAny _ _ (field (.ref z) 3>>=_) _ _ _;refine Ni (Ph hz rfl (x:=.ref TI) rfl (Ni (Pu hI rfl ?_)));show wpAny _ _ (Builtin.SmallTypes.ownedTupleIsFree (.ref z)>>=_) _ _ _;refine Ni ?_;unfold Builtin.SmallTypes.ownedTupleIsFree;refine Ni (Ph hz rfl (x:=.none) rfl (NF ?_));simp only[Qj];refine Ni (Rk (Ni (Ph hz rfl (x:=.ref TO) rfl (Ni (OC hz (by simp) λh1 hz1 s1=>?_)))));replace hz1:IsZip h1 z TI TO .ellipsis:=hz1;refine Ni ?_;simp only[List.zipIdx_cons,List.zipIdx_nil,Q0,QC];refine Ni (Ni (wpAny_onRaise ?_));show wpAny _ _ (Builtin.SmallTypes.nextOf (.ref i)>>=_) _ _ _;refine Ni (Qv (w1.extBut s1.extBut z3) (l1.extBut s1.extBut z6) hx λh2 w1' s2=>NF ?_);have o2:iT h2 TO a b c:=s2.extBut _ _ t2.symm (s1.extBut _ _ z2 hO);refine Ni (Pu o2 rfl (Ni (Jf o2 λh3 o3 s3=>?_)));replace o3:iT h3 TO x b c:=o3;refine Ni (wpAny_letGo (NF ?_));refine Ni (Ni (wpAny_onRaise ?_));show wpAny _ _ (Builtin.SmallTypes.nextOf (.ref j)>>=_) _ _ _;refine Ni (Qv (((w2.extBut s1.extBut z4).extBut s2.extBut i2).extBut s3.extBut t3) (((l2.extBut s1.extBut z7).extBut s2.extBut i5).extBut s3.extBut t6) hy λh4 w2' s4=>NF ?_);have o4:iT h4 TO x b c:=s4.extBut _ _ t3.symm o3;refine Ni (Pu o4 rfl (Ni (Jf o4 λh5 o5 s5=>?_)));replace o5:iT h5 TO x y c:=o5;refine Ni (wpAny_letGo (NF ?_));refine Ni (Ni (wpAny_onRaise ?_));show wpAny _ _ (Builtin.SmallTypes.nextOf (.ref k)>>=_) _ _ _;refine Ni (Qv (((((w3.extBut s1.extBut z5).extBut s2.extBut i3).extBut s3.extBut t4).extBut s4.extBut j2).extBut s5.extBut t4) (((((l3.extBut s1.extBut z8).extBut s2.extBut i6).extBut s3.extBut t7).extBut s4.extBut j5).extBut s5.extBut t7) hu λh6 w3' s6=>NF ?_);have o6:iT h6 TO x y c:=s6.extBut _ _ t4.symm o5;refine Ni (Pu o6 rfl (Ni (Jf o6 λh7 o7 s7=>?_)));replace o7:iT h7 TO x y u:=o7;refine Ni (wpAny_letGo (NF (NF ?_)));refine Ni (Pu o7 rfl (Ni (wpAny_newTuple ?_)));have sz:h7.objs.size=s.heap.objs.size:=by rw[s7.1,s6.1,s5.1,s4.1,s3.1,s2.1,s1.1]
 have hz7:IsZip h7 z TI TO .ellipsis:=s7.extBut _ _ z2.symm (s6.extBut _ _ z5.symm (s5.extBut _ _ z2.symm (s4.extBut _ _ z4.symm (s3.extBut _ _ z2.symm (s2.extBut _ _ z3.symm hz1)))));have kp:∀d o,d≠z->d≠TO->d≠i->d≠j->d≠k->s.heap.get? d=some o->h7.get? d=some o:=λd o c1 c2 c3 c4 c5 e=>
  s7.extBut _ _ c2 (s6.extBut _ _ c5 (s5.extBut _ _ c2 (s4.extBut _ _ c4 (s3.extBut _ _ c2 (s2.extBut _ _ c3 (s1.extBut _ _ c1 e))))))
 have v1:h7.IsListIter i p (m1+1):=((((w1'.extBut s3.extBut t2).extBut s4.extBut i2.symm).extBut s5.extBut t2).extBut s6.extBut i3.symm).extBut s7.extBut t2;have v2:h7.IsListIter j q (m2+1):=((w2'.extBut s5.extBut t3).extBut s6.extBut j2.symm).extBut s7.extBut t3;have v3:h7.IsListIter k r (m3+1):=w3'.extBut s7.extBut t4;have zl:z<h7.objs.size:=NQ hz7;show wpAny _ _ (Builtin.SmallTypes.ownedTupleHandOut (.ref z) (.ref h7.objs.size)>>=_) _ _ _;refine Ni ?_;unfold Builtin.SmallTypes.ownedTupleHandOut;have hz8:IsZip (h7.push {cls:=.type "tuple",data:=.seq #[x,y,u]}) z TI TO .ellipsis:=Nl _ hz7;refine Ni (OC hz8 (by simp) λh9 hz9 s9=>?_);replace hz9:IsZip h9 z TI TO (rawInt h7.objs.size):=hz9;refine OC hz9 (by simp) λha hza sa=>?_;replace hza:IsZip ha z TI TO (rawInt h7.objs.size):=hza;have up:∀d o,d≠z->h7.get? d=some o->ha.get? d=some o:=λd o c1 e=>sa.extBut _ _ c1 (s9.extBut _ _ c1 (Nl _ e));have hTa:iT ha h7.objs.size x y u:=sa.extBut _ _ (O0 zl) (s9.extBut _ _ (O0 zl) (NP _ rfl));have sza:ha.objs.size=h7.objs.size+1:=by rw[sa.1,s9.1,Ob]
 rw[sz]at hza hTa sza;refine NF ⟨_,rfl,?_⟩;show Q (.ref h7.objs.size) _;rw[sz];exact hQ ha hza (up _ _ z2 o7) (v1.at λo e=>up _ o z3 e) (v2.at λo e=>up _ o z4 e) (v3.at λo e=>up _ o z5 e) hTa sza λd o c1 c2 c3 c4 c5 e=>up d o c1 (kp d o c1 c2 c3 c4 c5 e)
theorem MZ{TI TO p q:Addr}{Q:Fin->Shared->Prop}(hh:A.handled=none)(D:Ap z TI TO i j k p q r)(hz:IsZip s.heap z TI TO .none)(hI:iT s.heap TI (.ref i) (.ref j) (.ref k))
  (w1:s.heap.IsListIter i p m1)(l1:s.heap.IsList p xs)(hx:xs[m1]?=none)(hE:∀g e,(∀d o,d≠z->d≠i->s.heap.get? d=some o->g.get? d=some o)->(∃o,g.get? e=some o/\o.cls=.type "StopIteration")->E (.ref e) {s with heap:=g}):
  wpAny (model prog w) A (Builtin.«zip.__next__» ⟨[.ref z],[]⟩) Q E s:=by
 obtain⟨z1,z2,z3,z4,z5,z6,z7,z8⟩:=D.nz;show wpAny _ _ (field (.ref z) 2>>=_) _ _ _;refine Ni (Ph hz rfl (x:=.bool false) rfl ?_);show wpAny _ _ (field (.ref z) 3>>=_) _ _ _;refine Ni (Ph hz rfl (x:=.ref TI) rfl (Ni (Pu hI rfl ?_)));show wpAny _ _ (Builtin.SmallTypes.ownedTupleIsFree (.ref z)>>=_) _ _ _;refine Ni ?_;unfold Builtin.SmallTypes.ownedTupleIsFree;refine Ni (Ph hz rfl (x:=.none) rfl (NF ?_));simp only[Qj];refine Ni (Rk (Ni (Ph hz rfl (x:=.ref TO) rfl (Ni (OC hz (by simp) λh1 hz1 s1=>?_)))));replace hz1:IsZip h1 z TI TO .ellipsis:=hz1;refine Ni ?_;simp only[List.zipIdx_cons,List.zipIdx_nil,Q0,QC];refine Ni (Ni (wpAny_onRaise ?_));show wpAny _ _ (Builtin.SmallTypes.nextOf (.ref i)>>=_) _ _ _;refine Ni (wpAny_nextOf_list_end hh (w1.extBut s1.extBut z3) (l1.extBut s1.extBut z6) hx λh2 e s2 ⟨oe,hoe,hce⟩=>?_);have hz2:IsZip h2 z TI TO .ellipsis:=s2 _ _ z3.symm hz1;have ez:e≠z:=λn=>by rw[n,hz2]at hoe;cases hoe;simp at hce
 exact OC hz2 (by simp) λh3 _ s3=>hE h3 e (λd o c1 c3 n=>s3.extBut _ _ c1 (s2 _ _ c3 (s1.extBut _ _ c1 n))) ⟨oe,s3.extBut _ _ ez hoe,hce⟩
variable{Q:Option Value->Shared->Prop}
theorem G'{TI TO p q:Addr}{m2 m3:Nat}(D:Ap z TI TO i j k p q r)(hz:IsZip s.heap z TI TO .none)(hI:iT s.heap TI (.ref i) (.ref j) (.ref k))(hO:iT s.heap TO a b c)
  (w1:s.heap.IsListIter i p m1)(w2:s.heap.IsListIter j q m2)(w3:s.heap.IsListIter k r m3)(l1:s.heap.IsList p xs)(l2:s.heap.IsList q ys)(l3:s.heap.IsList r zs)(hx:xs[m1]?=some x)(hy:ys[m2]?=some y)(hu:zs[m3]?=some u)
  (hQ:∀g,IsZip g z TI TO (rawInt s.heap.objs.size)->iT g TO x y u->g.IsListIter i p (m1+1)->g.IsListIter j q (m2+1)->g.IsListIter k r (m3+1)->iT g s.heap.objs.size x y u->g.objs.size=s.heap.objs.size+1->(∀d o,d≠z->d≠TO->d≠i->d≠j->d≠k->s.heap.get? d=some o->g.get? d=some o)->Q (some (.ref s.heap.objs.size)) {s with heap:=g}):
  wpAny (model prog w) A (pyNext (.ref z)) Q E s:=by
 have tz:s.TypeIs (.ref z) "zip":=⟨_,hz,rfl⟩;unfold pyNext;exact Ni (wpAny_attempt (PK (name:=Str.ofString "__next__") tz Q8 (Pp Q8 tz F.entry_zip_next (KW D hz hI hO w1 w2 w3 l1 l2 l3 hx hy hu λg a1 a2 a3 a4 a5 a6 a7 a8=>NF (hQ g a1 a2 a3 a4 a5 a6 a7 a8)) (F.args_zip_next_1 _))))
theorem Ji{TI TO p q:Addr}(hh:A.handled=none)(D:Ap z TI TO i j k p q r)(hz:IsZip s.heap z TI TO .none)(hI:iT s.heap TI (.ref i) (.ref j) (.ref k))
  (w1:s.heap.IsListIter i p m1)(l1:s.heap.IsList p xs)(hx:xs[m1]?=none)(hQ:∀g,(∀d o,d≠z->d≠i->s.heap.get? d=some o->g.get? d=some o)->Q none {s with heap:=g}):wpAny (model prog w) A (pyNext (.ref z)) Q E s:=by
 have tz:s.TypeIs (.ref z) "zip":=⟨_,hz,rfl⟩;unfold pyNext;refine Ni (wpAny_attempt (PK (name:=Str.ofString "__next__") tz Q8 (Pp Q8 tz F.entry_zip_next (MZ hh D hz hI w1 l1 hx λg e hk ⟨o,ho,hc⟩=>?_) (F.args_zip_next_1 _))));exact Ni (Qb (T:="StopIteration") (b:=true) ⟨o,ho,hc⟩ isSubtype_stop (NF (hQ _ hk)))
end
abbrev g1(h:Heap)(p:Addr):Heap:=h.push {cls:=.type "list_iterator",data:=.fields #[.ref p,.int 0 0]}
abbrev g2(h:Heap)(p q:Addr):Heap:=g1 (g1 h p) q
abbrev g3(h:Heap)(p q r:Addr):Heap:=g1 (g2 h p q) r
abbrev g4(h:Heap)(p q r:Addr):Heap:=(g3 h p q r).push {cls:=.type "tuple",data:=.seq #[.ref h.objs.size,.ref (g1 h p).objs.size,.ref (g2 h p q).objs.size]}
abbrev g5(h:Heap)(p q r:Addr):Heap:=(g4 h p q r).push {cls:=.type "tuple",data:=.seq #[.none,.none,.none]}
abbrev g6(h:Heap)(p q r:Addr):Heap:=(g5 h p q r).push {cls:=.type "zip",data:=.fields #[.none,.bool false,.bool false,.ref (g3 h p q r).objs.size,.ref (g4 h p q r).objs.size]}
theorem Mi(p q r:Addr)(xs ys zs:Array Value):Meets (Builtin.«zip.__new__» ⟨[.type "zip",.ref p,.ref q,.ref r],[]⟩) (λ_ R s=>s.heap.IsList p xs/\s.heap.IsList q ys/\s.heap.IsList r zs/\R (.ok (.ret (.ref (g5 s.heap p q r).objs.size))) {s with heap:=g6 s.heap p q r}):=
 .of_wp λprog w A R s h=>by
  obtain⟨hp,g,d,tk,os⟩:=s;obtain⟨a1,a2,a3,h⟩:=h;have sub:=sub_zip;have b1:Heap.IsList (Shared.heap ⟨hp,g,d,tk,os⟩) p xs:=a1;have b2:Heap.IsList (Shared.heap ⟨hp.push {cls:=.type "list_iterator",data:=.fields #[.ref p,.int 0 0]},g,d,tk,os⟩) q ys:=Heap.IsList.push a2 _;have b3:Heap.IsList (Shared.heap ⟨(hp.push {cls:=.type "list_iterator",data:=.fields #[.ref p,.int 0 0]}).push {cls:=.type "list_iterator",data:=.fields #[.ref q,.int 0 0]},g,d,tk,os⟩) r zs:=Heap.IsList.push (Heap.IsList.push a3 _) _
  wp_walk using P7 b1,P7 b2,P7 b3
  exact⟨_,rfl,h⟩
section
variable{prog:Program}{w:World}{A:Around}{E:Rv}{s:Shared}
theorem LB{p q r:Addr}{xs ys zs:Array Value}{Q:Rv}(l1:s.heap.IsList p xs)(l2:s.heap.IsList q ys)(l3:s.heap.IsList r zs)
  (h:∀g,IsZip g (s.heap.objs.size+5) (s.heap.objs.size+3) (s.heap.objs.size+4) .none->iT g (s.heap.objs.size+3) (.ref s.heap.objs.size) (.ref (s.heap.objs.size+1)) (.ref (s.heap.objs.size+2))->iT g (s.heap.objs.size+4) .none .none .none->
   g.IsListIter s.heap.objs.size p 0->g.IsListIter (s.heap.objs.size+1) q 0->g.IsListIter (s.heap.objs.size+2) r 0->g.objs.size=s.heap.objs.size+6->(∀d o,s.heap.get? d=some o->g.get? d=some o)->Q (.ref (s.heap.objs.size+5)) {s with heap:=g}):
  wpAny (model prog w) A (call (.type "zip") [.ref p,.ref q,.ref r]) Q E s:=by
 refine callType_new F.called_zip (by decide) (tc3 _ _ _) (nc3 _ _ _) (λo=>oi4 o _ _ _) F.entry_zip_new (Mi p q r xs ys zs) ⟨l1,l2,l3,?_⟩;have n1:(g1 s.heap p).objs.size=s.heap.objs.size+1:=Ob ..;have n2:(g2 s.heap p q).objs.size=s.heap.objs.size+2:=by rw[Ob,n1]
 have n3:(g3 s.heap p q r).objs.size=s.heap.objs.size+3:=by rw[Ob,n2]
 have n4:(g4 s.heap p q r).objs.size=s.heap.objs.size+4:=by rw[Ob,n3]
 have n5:(g5 s.heap p q r).objs.size=s.heap.objs.size+5:=by rw[Ob,n4]
 have n6:(g6 s.heap p q r).objs.size=s.heap.objs.size+6:=by rw[Ob,n5]
 have u6:(g6 s.heap p q r).get? (g5 s.heap p q r).objs.size=some _:=NP _ rfl;have u5:(g6 s.heap p q r).get? (g4 s.heap p q r).objs.size=some _:=Nl _ (NP _ rfl);have u4:(g6 s.heap p q r).get? (g3 s.heap p q r).objs.size=some _:=Nl _ (Nl _ (NP _ rfl));have u3:(g6 s.heap p q r).get? (g2 s.heap p q).objs.size=some _:=Nl _ (Nl _ (Nl _ (NP _ rfl)));have u2:(g6 s.heap p q r).get? (g1 s.heap p).objs.size=some _:=Nl _ (Nl _ (Nl _ (Nl _ (NP _ rfl))));have u1:(g6 s.heap p q r).get? s.heap.objs.size=some _:=Nl _ (Nl _ (Nl _ (Nl _ (Nl _ (NP _ rfl)))));show _/\_;rw[n3,n4,n5]at u6;rw[n4]at u5;rw[n1,n2,n3]at u4;rw[n2]at u3;rw[n1]at u2;rw[n5];exact⟨⟨_,u6,rfl⟩,h _ u6 u4 u5 ⟨_,u1,rfl,rfl⟩ ⟨_,u2,rfl,rfl⟩ ⟨_,u3,rfl,rfl⟩ n6 λd o e=>Nl _ (Nl _ (Nl _ (Nl _ (Nl _ (Nl _ e)))))⟩
end
end Z3
namespace L2
open PySem PySem.Spec PyProof.Rows NK
def It3(K:Rt)(a b c:Addr):It:=
 ⟨λi H=>∃(xs ys zs:List V) (x y z:V),SqL K H a xs/\SqL K H b ys/\SqL K H c zs/\xs[i]?=some x/\ys[i]?=some y/\zs[i]?=some z,
  λi H v H'=>∃T x y z,v=.ref T/\H T=none/\H'=upd H T (.tup [x,y,z])/\(∀xs,SqL K H a xs->xs[i]?=some x)/\(∀ys,SqL K H b ys->ys[i]?=some y)/\∀zs,SqL K H c zs->zs[i]?=some z,
  λi H=>∃xs:List V,SqL K H a xs/\xs.length<=i⟩
variable{elts:List Expr}
theorem D1{P:Program}{w:World}{K:Rt}{kk:Nat}{lV:Pos}{a b c z TI TO i1 i2 i3:Addr}(D:Z3.Ap z TI TO i1 i2 i3 a b c):
  Turn P w K (.Tuple elts kk lV) (It3 K a b c) [z,TI,TO,i1,i2,i3] z (λi h=>IsZip h z TI TO .none/\Z3.iT h TI (.ref i1) (.ref i2) (.ref i3)/\(∃x y u,Z3.iT h TO x y u)/\h.IsListIter i1 a i/\h.IsListIter i2 b i/\h.IsListIter i3 c i) where
 mem:=by simp
 obj:=λi h st d hd=>by
  obtain⟨hz,hTI,⟨x,y,u,hTO⟩,⟨o1,e1,_,d1⟩,⟨o2,e2,_,d2⟩,⟨o3,e3,_,d3⟩⟩:=st;have e':d=z∨d=TI∨d=TO∨d=i1∨d=i2∨d=i3:=by simpa using hd
  rcases e' with q|q|q|q|q|q
  ·rw[q];exact⟨_,hz,λv q=>nomatch q⟩
  ·rw[q];exact⟨_,hTI,λv q=>nomatch q⟩
  ·rw[q];exact⟨_,hTO,λv q=>nomatch q⟩
  ·rw[q];exact⟨o1,e1,λv q=>by rw[d1]at q;cases q⟩
  ·rw[q];exact⟨o2,e2,λv q=>by rw[d2]at q;cases q⟩
  ·rw[q];exact⟨o3,e3,λv q=>by rw[d3]at q;cases q⟩
 keep:=λi h h' st k=>by
  obtain⟨hz,hTI,⟨x,y,u,hTO⟩,h1,h2,h3⟩:=st;exact⟨k z (by simp) _ hz,k TI (by simp) _ hTI,⟨x,y,u,k TO (by simp) _ hTO⟩,h1.at λo q=>k i1 (by simp) o q,h2.at λo q=>k i2 (by simp) o q,h3.at λo q=>k i3 (by simp) o q⟩
 item:=by
  intro X hP hw hK hc i pins s σ H E I hf st hg;subst hP hw hK;obtain⟨hz,hTI,⟨x0,y0,u0,hTO⟩,h1,h2,h3⟩:=st;obtain⟨xs,ys,zs,x,y,u,hqx,hqy,hqz,hx,hy,hz3⟩:=hg;obtain⟨its,rv,p,_⟩:=I.list hqx;obtain⟨mX,rv2,p2,_⟩:=I.list hqy;obtain⟨Mv,rv3,p3,_⟩:=I.list hqz;obtain⟨u1,hu,ru⟩:=rv.get hx;obtain⟨u2,hu2,ru2⟩:=rv2.get hy;obtain⟨u3,hu3,ru3⟩:=rv3.get hz3;have hzl:z<s.heap.objs.size:=NQ hz;obtain⟨z1,z2,z3,z4,z5,z6,z7,z8⟩:=D.nz;obtain⟨t1,t2,t3,t4,t5,t6,t7⟩:=D.nt;refine Z3.G' D hz hTI hTO h1 h2 h3 p.isList p2.isList p3.isList (x:=u1) (y:=u2) (u:=u3) (by simpa using hu) (by simpa using hu2) (by simpa using hu3) λh' z' TO' h1' h2' h3' hT hsz hk=>?_;refine⟨_,rfl,wpAny_letOwnedTupleGo_zip (s:={s with heap:=h'}) z' λh'' z'' sb=>?_⟩;have hT2:h''.get? s.heap.objs.size=some {cls:=.type "tuple",data:=.seq #[u1,u2,u3]}:=(sb.2 _ (O0 hzl)).trans hT;have new:cV X.prog X.w (upd H s.heap.objs.size (.tup [x,y,u])) h'' s.heap.objs.size (.tup [x,y,u]):=
   ⟨by show 3<=sizeLine;decide,[u1,u2,u3],.cons ru (.cons ru2 (.cons ru3 .nil)),⟨_,hT2,rfl,_,rfl⟩⟩
  have I1:Inv X pins σ (upd H s.heap.objs.size (.tup [x,y,u])) {s with heap:=h''}:=
   I.nU (t':=s.toks) (ch:=[z,TI,TO,i1,i2,i3]) (λc o hb q=>(sb.2 c (λq'=>hb (by simp[q']))).trans (hk c o (λq'=>hb (by simp[q'])) (λq'=>hb (by simp[q'])) (λq'=>hb (by simp[q'])) (λq'=>hb (by simp[q'])) (λq'=>hb (by simp[q'])) q)) hf (Nq _) new
  refine⟨.ref s.heap.objs.size,_,I1,rfl,⟨_,x,y,u,rfl,I.hok.fresh (Nq _),rfl,λl hl=>by rw[I.iH hl hqx];exact hx,λl hl=>by rw[I.iH hl hqy];exact hy,λl hl=>by rw[I.iH hl hqz];exact hz3⟩,⟨z'',?_,⟨u1,u2,u3,?_⟩,?_,?_,?_⟩,λd hdm=>?_⟩
  ·exact(sb.2 _ z1).trans (hk _ _ z1 t1 D.ni.1 D.nj.1 D.nk.1 hTI)
  ·exact(sb.2 _ z2).trans TO'
  ·exact h1'.at λo q=>(sb.2 _ z3).trans q
  ·exact h2'.at λo q=>(sb.2 _ z4).trans q
  ·exact h3'.at λo q=>(sb.2 _ z5).trans q
  ·have hlt:d<s.heap.objs.size:=by
    have e':d=z∨d=TI∨d=TO∨d=i1∨d=i2∨d=i3:=by simpa using hdm
    rcases e' with q|q|q|q|q|q
    ·rw[q];exact hzl
    ·rw[q];exact NQ hTI
    ·rw[q];exact NQ hTO
    ·rw[q];obtain⟨_,e1,_⟩:=h1;exact NQ e1
    ·rw[q];obtain⟨_,e2,_⟩:=h2;exact NQ e2
    ·rw[q];obtain⟨_,e3,_⟩:=h3;exact NQ e3
   rw[aB (Oo hlt)];exact(hf d hdm).1
 done:=by
  intro X hP hw hK hc i pins s σ H E I hf st hg;subst hP hw hK;obtain⟨hz,hTI,_,h1,_,_⟩:=st;obtain⟨xs,hqx,Lh⟩:=hg;obtain⟨its,rv,p,_⟩:=I.list hqx;have l1:=rv.length;have he:its.toArray[i]?=none:=by simp;omega
  exact Z3.Ji (I.ok.hd hc) D hz hTI h1 p.isList he λh' hk=>⟨rfl,I.CZ (t':=s.toks) (ch:=[z,TI,TO,i1,i2,i3]) (λc o hb q=>
   hk c o (λq'=>hb (by simp[q'])) (λq'=>hb (by simp[q'])) q) hf⟩
 self:=λA i s Q E st h=>QN st.1 h
def K'(K:Rt)(ta:TA):TI:=λσ H R=>ta σ H λvs H1=>∃a b c xs ys zs,vs=[.ref a,.ref b,.ref c]/\SqL K H1 a xs/\SqL K H1 b ys/\SqL K H1 c zs/\R (It3 K a b c) H1
theorem Dd{X:Cx}{e e2 e3:Expr}{ta:TA}{p pos lV:Pos}{kk:Nat}(hg:Gl X "zip")(hm:X.mg "zip"=none)(ha:PA X [e,e2,e3] ta)
  (hs:starEach [e,e2,e3] X.env=(false,eval e X.env)::starEach [e2,e3] X.env:=by rfl)(hpl:(backTo pos (starEach [e2,e3] X.env)).any (·.1)=false:=by rfl):
  PI X (.Tuple elts kk lV) (.Call (.Name "zip" p) [e,e2,e3] [] pos) (K' X.K ta):=by
 intro pins s σ H R I h;refine Call_ (p6 I hg hm xX (PyProof.Rows.callWith_type1 (thn (ha pos pins s σ H _ I h) λus s1 ⟨vs,H1,I1,r1,q1⟩=>?_) hs hpl));obtain⟨a,b,c,xs,ys,zs,ex,hqx,hqy,hqz,q⟩:=q1;subst ex;cases r1 with
 |cons r rr=>
  cases rr with
  |cons r' rr=>
   cases rr with
   |cons r'' rr=>
    cases rr;cases r;cases r';cases r'';obtain⟨its,rv,p1,_⟩:=I1.list hqx;obtain⟨mX,rv2,p2,_⟩:=I1.list hqy;obtain⟨Mv,rv3,p3,_⟩:=I1.list hqz;refine Z3.LB p1.isList p2.isList p3.isList λh' hz hTI hTO h1 h2 h3 hsz hk=>QN hz ?_;have I2:Inv X pins σ H1 {s1 with heap:=h'}:=I1.kept (t':=s1.toks) hk;refine⟨s1.heap.objs.size+5,[s1.heap.objs.size+5,s1.heap.objs.size+3,s1.heap.objs.size+4,s1.heap.objs.size,s1.heap.objs.size+1,s1.heap.objs.size+2],_,_,H1,rfl,I2,D1 (Z3.Ka s1.heap.objs.size a b c p1.lt p2.lt p3.lt),⟨hz,hTI,⟨_,_,_,hTO⟩,h1,h2,h3⟩,λd hdm=>?_,q⟩;have e':d=s1.heap.objs.size+5∨d=s1.heap.objs.size+3∨d=s1.heap.objs.size+4∨d=s1.heap.objs.size∨d=s1.heap.objs.size+1∨d=s1.heap.objs.size+2:=by simpa using hdm
    have hle:s1.heap.objs.size<=d:=by
     rcases e' with z|z|z|z|z|z
     ·rw[z];exact OQ _ _
     ·rw[z];exact OQ _ _
     ·rw[z];exact OQ _ _
     ·rw[z];exact Nq _
     ·rw[z];exact OQ _ _
     ·rw[z];exact OQ _ _
    exact I1.Bc hle (I1.hok.fresh hle)
theorem K3{J:It}{n:Nat}{g:TG}{tt:TT}{te:TE}{vs:List Nat}{σ:St}{H1:Hp}{D:Addr}{Qd:Hp->Prop}(Pv:Nat->Hp->Prop)(h0:Pv 0 (upd H1 D (.lst [])))(hgo:∀i H,i<n->Pv i H->J.go i H)(hst:∀H,Pv n H->J.stop n H)
  (hs:∀i H x H',i<n->Pv i H->J.yld i H x H'->g x (wipe σ vs) H' λσ2 H2=>wipe σ2 vs=wipe σ vs/\tt σ2 H2 λb H3=>
   if b=true then te σ2 H3 λy H4=>∃acc,H4 D=some (.lst acc)/\acc.length<sizeLine/\Pv (i+1) (upd H4 D (.lst (acc++[y])))else Pv (i+1) H3) (hd:∀H,Pv n H->Qd H):
  ∃W:Nat->Nat->Hp->Prop,(∃m,W 0 m (upd H1 D (.lst [])))/\∀i m H,W i m H->
   (J.stop i H/\Qd H)∨(J.go i H/\∃Nx:Hp->Prop,(∀H',Nx H'->∃m',m'<m/\W (i+1) m' H')/\∀x H',J.yld i H x H'->g x (wipe σ vs) H' λσ2 H2=>wipe σ2 vs=wipe σ vs/\tt σ2 H2 λb H3=>
    if b=true then te σ2 H3 λy H4=>∃acc,H4 D=some (.lst acc)/\acc.length<sizeLine/\Nx (upd H4 D (.lst (acc++[y])))else Nx H3):=by
 refine⟨λi m H=>m=n-i/\i<=n/\Pv i H,⟨n,by simp,NT _,h0⟩,?_⟩;rintro i m H ⟨rfl,hi,p⟩;by_cases hlt:i<n
 ·exact .inr ⟨hgo i H hlt p,Pv (i+1),λH' p'=>⟨n-(i+1),by omega,rfl,hlt,p'⟩,λx H' y=>hs i H x H' hlt p y⟩
 ·have e:i=n:=by omega
  subst e;exact .inl ⟨hst H p,hd H p⟩
section
variable{X:Cx}
def KI:V->List V->Hp->VK->Prop:=λx vs H Q=>∃n:Int,x=.int n/\vs=[]/\Q (.int (Builtin.Int.intBits n)) H
theorem Hz:MtR X "int.bit_length" KI:=by
 intro pins s σ H x vs v us Q I rx rv h;obtain⟨n,rfl,rfl,q⟩:=h;obtain⟨t,rfl⟩:=rx;have hus:=rv.zero;subst hus;exact call_int_bit_length ⟨.int (Builtin.Int.intBits n),H,I.tok _,⟨_,rfl⟩,q⟩
def KH:R2:=λx y H Q=>∃l b xs zs,x=.ref l/\y=.ref b/\H l=some (.lst xs)/\Rd H b (.lst zs)/\xs.length+zs.length<=sizeLine/\∀p,H p=none->Q (.ref p) (upd H p (.lst (xs++zs)))
theorem Hi:OpR X (binaryOp .Add) KH:=by
 intro pins s σ H x y v u Q I rx ry h;obtain⟨l,b,xs,zs,rfl,rfl,hH,hB,hz,q⟩:=h;cases rx;cases ry;obtain⟨z,its,n,r,hl,e⟩:=I.AS hH;obtain⟨z2,mX,n2,r2,e2⟩:=hB.ok I.hok;have hl2:=r2.length;have er:its.toArray++mX.toArray=(its++mX).toArray:=by simp
 refine PySem.P.add_list e e2 ?_ (by rw[NN,NN];omega);rw[er];exact⟨.ref _,_,I.Jz (t':=s.toks) (r.append r2) (by rw[Nk];omega),rfl,q _ I.fresh⟩
end
end L2
namespace Bw
def bitsOf:Nat->(Nat->Bool)->Nat
 |0,_=>0
 |n+1,f=>bitsOf n f|||(if f n=true then 2^n else 0)
theorem cZ(f:Nat->Bool):∀n j,(bitsOf n f).testBit j=(decide (j<n)&&f j)
 |0,j=>by simp[bitsOf]
 |n+1,j=>by
  unfold bitsOf;rw[Ri,cZ f n j];by_cases h:f n=true
  ·rw[Nz h,Q9];by_cases e:n=j
   ·subst e;simp[h]
   ·by_cases l:j<n
    ·simp[l,e,Pg l]
    ·simp[l,e];omega
  ·rw[Nt h,QR,QU];by_cases e:n=j
   ·subst e;simp[h]
   ·by_cases l:j<n
    ·simp[l,Pg l]
    ·simp[l];omega
variable{x:Nat}{f:Nat->Bool}
theorem oz{n:Nat}(h:∀j,x.testBit j=(decide (j<n)&&f j)):x=bitsOf n f:=Px λj=>by rw[h,cZ]
theorem iO{n:Nat}{g:Nat->Bool}(h:∀j,j<n->f j=g j):bitsOf n f=bitsOf n g:=Px λj=>by
 rw[cZ,cZ];by_cases l:j<n
 ·rw[h j l]
 ·simp[l]
theorem Gx(n:Nat)(f g:Nat->Bool):bitsOf n f&&&bitsOf n g=bitsOf n λj=>f j&&g j:=oz λj=>by
 rw[Nat.testBit_and,cZ,cZ];cases decide (j<n)<;>simp
theorem Ii(n:Nat)(f g:Nat->Bool):bitsOf n f|||bitsOf n g=bitsOf n λj=>f j||g j:=oz λj=>by
 rw[Ri,cZ,cZ];cases decide (j<n)<;>simp
theorem Gv(n:Nat)(f g:Nat->Bool):bitsOf n f ^^^ bitsOf n g=bitsOf n λj=>f j ^^ g j:=oz λj=>by
 rw[Nat.testBit_xor,cZ,cZ];cases decide (j<n)<;>simp
theorem wu(n:Nat):2^n-1=bitsOf n λ_=>true:=oz λj=>by rw[P4];simp
theorem EU(n:Nat):0=bitsOf n λ_=>false:=oz λj=>by simp
theorem HD{k:Nat}(h:x.testBit k=true)(h':∀j,j<k->x.testBit j=false):x-(x&&&(x-1))=2^k:=by
 have e1:x%2^(k+1)=2^k:=Px λj=>by
  rw[OY,Q9];by_cases e:k=j
  ·subst e;simp[h]
  ·by_cases l:j<k
   ·simp[h' j l,e]
   ·simp[e];intro l2;omega
 obtain⟨m,hm⟩:∃m,x=2^(k+1)*m+2^k:=⟨x/2^(k+1),by rw[<-e1];exact(Ra x _).symm⟩;have p1:2^k<2^(k+1):=Nat.pow_lt_pow_right (by omega) (by omega);have p0:0<2^k:=P5 (by omega);have e2:x-1=2^(k+1)*m+(2^k-1):=by omega
 have e3:x&&&(x-1)=2^(k+1)*m+0:=Px λj=>by
  rw[Nat.testBit_and,e2]
  conv=>lhs;lhs;rw[hm]
  rw[P6 _ p1,P6 _ (by omega:2^k-1<2^(k+1)),P6 _ (by omega:0<2^(k+1))];by_cases l:j<k+1
  ·rw[Nz l,Nz l,Nz l,Q9,P4,QR];by_cases e:k=j
   ·subst e;simp
   ·simp[e]
  ·rw[Nt l,Nt l,Nt l,Bool.and_self]
 rw[e3];omega
theorem FU:∀(n x:Nat),x<2^n->x≠0->∃k,k<n/\x.testBit k=true/\∀j,j<k->x.testBit j=false
 |0,x,h,h0=>by simp at h;omega
 |n+1,x,h,h0=>by
  by_cases b:x.testBit 0=true
  ·exact⟨0,by omega,b,λj hj=>by omega⟩
  ·have b:x.testBit 0=false:=by simpa using b
   have e:x%2=0:=by
    rw[Nat.testBit_zero]at b;have:¬x%2=1:=by simpa using b
    omega
   obtain⟨k,k1,k2,k3⟩:=FU n (x/2) (by rw[Pc]at h;omega) (by omega);refine⟨k+1,by omega,by rw[Nat.testBit_succ];exact k2,λj hj=>?_⟩;cases j with
   |zero=>exact b
   |succ j=>rw[Nat.testBit_succ];exact k3 j (by omega)
def ay(Z:Nat):Nat->Nat->List Nat
 |0,_=>[]
 |n+1,x=>x/2^(Z*n)%2^Z::ay Z n x
theorem hX(Z:Nat):∀n x,(ay Z n x).length=n
 |0,_=>rfl
 |n+1,x=>by rw[ay,NH,hX Z n x]
theorem jA(Z:Nat):∀n m x,n<=m->ay Z n (x%2^(Z*m))=ay Z n x
 |0,_,_,_=>rfl
 |n+1,m,x,h=>by
  rw[ay,ay,jA Z n m x (by omega)];congr 1;obtain⟨d,rfl⟩:∃d,m=n+1+d:=⟨m-(n+1),by omega⟩;refine Px λj=>?_;rw[OY,OY,<-Oc,<-Oc,Nat.testBit_shiftRight,Nat.testBit_shiftRight,OY];by_cases l:j<Z
  ·have:Z*n+j<Z*(n+1+d):=by
    have:Z*(n+1+d)=Z*n+Z+Z*d:=by rw[O3,O3,Nat.mul_one]
    omega
   simp[l,this]
  ·simp[l]
theorem ka(Z:Nat):∀n x,ay Z (n+1) x=ay Z n (x/2^Z)++[x%2^Z]
 |0,x=>by simp[ay]
 |n+1,x=>by
  rw[ay,ka Z n x,ay,Pa];congr 1;rw[Nat.div_div_eq_div_mul,<-Pb,Rg,Rq (Z*n) Z]
variable{t:Nat}
theorem BH(Z n:Nat)(ht:t<2^Z)(hx:x<2^(Z*n)):ay Z (n+1) (t*2^(Z*n)+x)=t::ay Z n x:=by
 rw[ay];have e1:(t*2^(Z*n)+x)/2^(Z*n)=t:=by
  rw[OJ,Nat.mul_add_div (P5 (by omega)),Rp hx,QK]
 rw[e1,Nat.mod_eq_of_lt ht,<-jA Z n n (t*2^(Z*n)+x) (Nq _),OJ,Nat.mul_add_mod,jA Z n n x (Nq _)]
theorem xB(M:Nat):∀A,List.range (A*M)=(List.range A).flatMap λt=>(List.range M).map λx=>t*M+x
 |0=>by simp
 |A+1=>by
  rw[P0,Q6,List.range_add,xB M A,Q5,Ov,Qu]
theorem uK(Z:Nat):∀n,Gen.aY (2^Z) n=(List.range (2^(Z*n))).map (ay Z n)
 |0=>by simp[Gen.aY,ay]
 |n+1=>by
  rw[Gen.aY,uK Z n,Rg,Pb,OJ (2^(Z*n)),xB,List.map_flatMap];rw[List.flatMap_def,List.flatMap_def];congr 1;refine Om λt ht=>?_;rw[O6,O6];refine Om λx hx=>?_;exact(BH Z n (NW.mp ht) (NW.mp hx)).symm
theorem nT(Z:Nat):∀a b h t,t<2^(Z*b)->ay Z (a+b) (h*2^(Z*b)+t)=ay Z a h++ay Z b t
 |0,b,h,t,ht=>by
  rw[PX,<-jA Z b b _ (Nq _),OJ,Nat.mul_add_mod,jA Z b b t (Nq _)];rfl
 |a+1,b,h,t,ht=>by
  rw[Nat.add_right_comm,ay,nT Z a b h t ht,ay,Pa];congr 2;rw[O3,Rq (Z*a),Pb,<-Nat.div_div_eq_div_mul,OJ h,Nat.mul_add_div (P5 (by omega)),Rp ht,QK]
def hl(L:Nat):Nat:=min L 3
def tl(L:Nat):Nat:=L-hl L
def hc(Z L:Nat):Nat:=2^(Z*hl L)
def tcn(Z L:Nat):Nat:=2^(Z*tl L)
def elt(Z L:Nat)(S:List Nat->Bool)(t:Nat):Nat:=bitsOf (hc Z L) λh=>S (ay Z (hl L) h++ay Z (tl L) t)
def setOf(Z L:Nat)(S:List Nat->Bool):List Nat:=(List.range (tcn Z L)).map (elt Z L S)
theorem g8(Z L:Nat)(S:List Nat->Bool):(setOf Z L S).length=tcn Z L:=by unfold setOf;rw[Nf,OV]
variable{Z L:Nat}
theorem kh(S:List Nat->Bool)(h:t<tcn Z L):(setOf Z L S)[t]?=some (elt Z L S t):=by
 unfold setOf;rw[NC,Rb h];rfl
theorem xP(L:Nat):hl L+tl L=L:=by unfold tl hl;omega
variable{S:List Nat->Bool}
theorem dA{T:List Nat->Bool}(h:∀p,p.length=L->S p=T p):setOf Z L S=setOf Z L T:=by
 unfold setOf;refine Om λt _=>iO λj _=>h _ ?_;rw[Nk,hX,hX,xP]
theorem Eb(Z L:Nat):List.replicate (tcn Z L) (2^hc Z L-1)=setOf Z L λ_=>true:=by
 unfold setOf;refine Qc (by simp) λi h1 h2=>?_;rw[Qt,QQ];exact wu _
def ji(i:Nat)(p:List Nat):Bool:=(p.getLastD 0).testBit i
theorem vP(Z n x:Nat)(a:List Nat):(a++ay Z (n+1) x).getLastD 0=x%2^Z:=by
 rw[ka,<-NV,List.getLastD_concat]
variable{i:Nat}
theorem EN(h:0<tl L)(hi:i<Z):((List.range (tcn Z L)).map λt=>if t.testBit i=true then 2^hc Z L-1 else 0)=setOf Z L (ji i):=by
 unfold setOf;refine Om λt _=>?_;unfold elt ji;obtain⟨n,hn⟩:∃n,tl L=n+1:=⟨tl L-1,by omega⟩;rw[hn];have e:∀j,((ay Z (hl L) j++ay Z (n+1) t).getLastD 0).testBit i=t.testBit i:=λj=>by
  rw[vP,OY];simp[hi]
 rw[iO λj _=>e j];cases t.testBit i with
 |true=>rw[Nz rfl];exact wu _
 |false=>rw[Nt NI];exact EU _
theorem EO(h:tl L=0)(hi:i<Z):[bitsOf (hc Z L) λx=>x.testBit i]=setOf Z L (ji i):=by
 unfold setOf tcn;rw[h];show [_]=[_];congr 1;unfold elt ji;rw[h];refine iO λj hj=>?_;show _=((ay Z (hl L) j++[]).getLastD 0).testBit i;rw[NX];cases e:hl L with
 |zero=>
  unfold hc at hj;rw[e]at hj;have:j=0:=by simpa using hj
  rw[this];rfl
 |succ n=>
  have:=vP Z n j [];rw[List.nil_append]at this;rw[this,OY];simp[hi]
def dJ(S:List Nat->Bool)(p:List Nat):Bool:=S p.dropLast
theorem Ew(S:List Nat->Bool)(h:3<=L):((List.range (tcn Z (L+1))).map λt=>(setOf Z L S).getD (t >>> Z) 0)=setOf Z (L+1) (dJ S):=by
 have e1:hl L=3:=by unfold hl;omega
 have e2:hl (L+1)=3:=by unfold hl;omega
 have e3:tl (L+1)=tl L+1:=by unfold tl;rw[e1,e2];omega
 conv=>rhs;unfold setOf
 refine Om λt ht=>?_;have ht:=NW.mp ht;have hs:t >>> Z<tcn Z L:=by
  rw[Oc];unfold tcn at ht ⊢;rw[e3,Rg,Pb]at ht;exact QT (by rw[OJ];exact ht)
 rw[Nj,kh S hs];show elt Z L S (t >>> Z)=_;unfold elt hc dJ;rw[e1,e2,e3];refine iO λj _=>?_;rw[ka Z (tl L) t,<-NV,P',Oc]
def lN(Z x:Nat):Nat->Nat
 |0=>0
 |n+1=>if x.testBit n=true then lN Z x n|||(2^2^Z-1)*2^(n*2^Z)else lN Z x n
theorem vK(Z x:Nat):∀n j,(lN Z x n).testBit j=(decide (j/2^Z<n)&&x.testBit (j/2^Z))
 |0,j=>by simp[lN]
 |n+1,j=>by
  unfold lN;have pp:0<2^Z:=P5 (by omega);by_cases h:x.testBit n=true
  ·rw[Nz h,Ri,vK Z x n j];have e:((2^2^Z-1)*2^(n*2^Z)).testBit j=decide (j/2^Z=n):=by
    rw[OJ,Nat.testBit_two_pow_mul,P4];by_cases l:n*2^Z<=j
    ·by_cases l2:j-n*2^Z<2^Z
     ·have:j/2^Z=n:=by
       rw[show j=2^Z*n+(j-n*2^Z) by rw[OJ];omega,Nat.mul_add_div pp,Rp l2,QK]
      simp[l,l2,this]
     ·have:j/2^Z≠n:=λz=>by
       have q1:=Ra j (2^Z);have q2:=Nat.mod_lt j pp;rw[z,OJ]at q1;omega
      simp[l,l2,this]
    ·have:j/2^Z≠n:=λz=>by
      have:=Nat.div_mul_le_self j (2^Z);rw[z]at this;omega
     simp[l,this]
   rw[e];by_cases z:j/2^Z=n
   ·rw[z];simp[h]
   ·by_cases y:j/2^Z<n
    ·simp[y,z,Pg y]
    ·have:¬j/2^Z<n+1:=by omega
     simp[y,z,this]
  ·rw[Nt h,vK Z x n j];by_cases z:j/2^Z=n
   ·rw[z];simp[h]
   ·by_cases y:j/2^Z<n
    ·simp[y,Pg y]
    ·have:¬j/2^Z<n+1:=by omega
     simp[y,this]
theorem Ex(S:List Nat->Bool)(h:L<3):(setOf Z L S).map (λx=>lN Z x (hc Z (L+1) >>> Z))=setOf Z (L+1) (dJ S):=by
 have e1:hl L=L:=by unfold hl;omega
 have e2:hl (L+1)=L+1:=by unfold hl;omega
 have e3:tl L=0:=by unfold tl;rw[e1];omega
 have e4:tl (L+1)=0:=by unfold tl;rw[e2];omega
 have pp:0<2^Z:=P5 (by omega);have e5:hc Z (L+1)=hc Z L*2^Z:=by unfold hc;rw[e1,e2,Rg,Pb]
 have e6:hc Z (L+1) >>> Z=hc Z L:=by rw[e5,Oc,Nat.mul_div_cancel _ pp]
 have s1:setOf Z L S=[elt Z L S 0]:=by unfold setOf tcn;rw[e3];rfl
 have s2:setOf Z (L+1) (dJ S)=[elt Z (L+1) (dJ S) 0]:=by unfold setOf tcn;rw[e4];rfl
 rw[s1,s2,e6];show [_]=[_];congr 1;unfold elt;refine oz λj=>?_;rw[vK,cZ,e3,e4,e1,e2];have lt:(j/2^Z<hc Z L)↔j<hc Z (L+1):=by rw[e5];exact Nat.div_lt_iff_lt_mul pp
 have el:S (ay Z L (j/2^Z)++ay Z 0 0)=dJ S (ay Z (L+1) j++ay Z 0 0):=by
  unfold dJ;show S (ay Z L (j/2^Z)++[])=S ((ay Z (L+1) j++[]).dropLast);rw[NX,NX,ka,P']
 by_cases y:j<hc Z (L+1)
 ·have y':=lt.mpr y;simp[y,y',el]
 ·have y':¬j/2^Z<hc Z L:=λz=>y (lt.mp z);simp[y,y']
theorem CB(Z L:Nat)(S:List Nat->Bool):(Gen.aY (2^Z) L).find? S=((List.range (2^(Z*L))).find? λx=>S (ay Z L x)).map (ay Z L):=by
 rw[uK,Rh];rfl
def lM(l:List Nat):Nat:=l.foldl (·|||·) 0
theorem KP(l:List Nat)(j:Nat):∀a:Nat,(l.foldl (·|||·) a).testBit j=(a.testBit j||l.any λx=>x.testBit j):=by
 induction l with
 |nil=>intro a;simp
 |cons x l ih=>intro a;rw[PD,ih,Ri,OB,Bool.or_assoc]
theorem qH(l:List Nat)(j:Nat):(lM l).testBit j=l.any λx=>x.testBit j:=by unfold lM;rw[KP];simp
theorem CA(h:lM (setOf Z L S)=0):(Gen.aY (2^Z) L).find? S=none:=by
 rw[uK,OL];intro p hp;obtain⟨x,hx,rfl⟩:=NZ.mp hp;have hx:=NW.mp hx;have hx2:x=x/tcn Z L*tcn Z L+x%tcn Z L:=by rw[OJ];exact(Ra x _).symm
 have pt:0<tcn Z L:=P5 (by omega);have m1:x%tcn Z L<tcn Z L:=Nat.mod_lt _ pt;have m2:x/tcn Z L<hc Z L:=by
  refine QT ?_;unfold tcn hc;rw[<-Pb,<-O3,Rq,xP];exact hx
 have e:=qH (setOf Z L S) (x/tcn Z L);rw[h,QR]at e;have e:=Pe.mp e.symm _ (Nr (kh S m1));unfold elt at e;rw[cZ]at e;have t:=nT Z (hl L) (tl L) (x/tcn Z L) (x%tcn Z L) m1;rw[xP]at t;change ay Z L (x/tcn Z L*tcn Z L+x%tcn Z L)=_ at t;rw[<-hx2]at t;rw[t];simpa [m2]using e
theorem Cz{h:Nat}(hh:(lM (setOf Z L S)).testBit h=true)(h':∀j,j<h->(lM (setOf Z L S)).testBit j=false)(ht:t<tcn Z L)(ht1:((setOf Z L S).getD t 0).testBit h=true)(ht':∀j,j<t->((setOf Z L S).getD j 0).testBit h=false):
  (Gen.aY (2^Z) L).find? S=some (ay Z (hl L) h++ay Z (tl L) t):=by
 have pt:0<tcn Z L:=P5 (by omega);have at_:∀{y},y<tcn Z L->(setOf Z L S).getD y 0=elt Z L S y:=λhy=>by rw[Nj,kh S hy];rfl
 rw[at_ ht]at ht1;unfold elt at ht1;rw[cZ]at ht1;have ht1:=Ot.mp ht1;have hlt:h<hc Z L:=NG ht1.1;have tot:hc Z L*tcn Z L=2^(Z*L):=by unfold hc tcn;rw[<-Pb,<-O3,xP]
 have wn:h*tcn Z L+t<2^(Z*L):=by
  rw[<-tot];have:=Oh (tcn Z L) (show h+1<=hc Z L from hlt);rw[P0]at this;omega
 have te:ay Z L (h*tcn Z L+t)=ay Z (hl L) h++ay Z (tl L) t:=by
  have:=nT Z (hl L) (tl L) h t ht;rw[xP]at this;exact this
 rw[CB];have fd:(List.range (2^(Z*L))).find? (λx=>S (ay Z L x))=some (h*tcn Z L+t):=by
  rw[List.find?_range_eq_some];refine⟨by rw[te];exact ht1.2,NW.mpr wn,λx hx=>?_⟩;have hx2:x=x/tcn Z L*tcn Z L+x%tcn Z L:=by rw[OJ];exact(Ra x _).symm
  have m1:x%tcn Z L<tcn Z L:=Nat.mod_lt _ pt;have m2:x/tcn Z L<=h:=by
   have:=(Nat.div_lt_iff_lt_mul pt (x:=x) (y:=h+1)).mpr (by rw[P0];omega);omega
  have tx:=nT Z (hl L) (tl L) (x/tcn Z L) (x%tcn Z L) m1;rw[xP]at tx;change ay Z L (x/tcn Z L*tcn Z L+x%tcn Z L)=_ at tx;rw[<-hx2]at tx;rw[tx];rcases PY (x/tcn Z L) h with lt|ge
  ·have e:=qH (setOf Z L S) (x/tcn Z L);rw[h' _ lt]at e;have e:=Pe.mp e.symm _ (Nr (kh S m1));unfold elt at e;rw[cZ]at e;have:x/tcn Z L<hc Z L:=by omega
   simpa [this]using e
  ·have eh:x/tcn Z L=h:=Nat.le_antisymm m2 ge;have lt:x%tcn Z L<t:=by rw[eh]at hx2;omega
   have e:=ht' _ lt;rw[at_ m1]at e;unfold elt at e;rw[cZ]at e;rw[eh];simpa [hlt]using e
 rw[fd];show some (ay Z L (h*tcn Z L+t))=_;rw[te]
open Vbtaak Vbs Mir
theorem Eg:∀f:F,past f=true->∀g∈Rdg.subs f,past g=true:=by
 intro f;induction f with
 |yes|fact _|turn=>intro h g hg;rw[Nu.mp hg];exact h
 |not a ih=>intro h g hg;rcases ND.mp hg with rfl|hg;exact h;exact ih h g hg
 |before a ih=>intro h g hg;rcases ND.mp hg with rfl|hg;exact h;exact ih h g hg
 |and a b iha ihb|or a b iha ihb|since a b iha ihb=>
  intro h g hg;have h2:=Ot.mp h;rcases ND.mp hg with rfl|hg
  ·exact h
  ·rcases Np.mp hg with hg|hg
   ·exact iha h2.1 g hg
   ·exact ihb h2.2 g hg
 |next a _|within _ a _=>intro h;cases h
 |«until» a b _ _=>intro h;cases h
def hS(c:List Nat)(g:F)(p:List Nat):Bool:=sat (c++p) g ((c++p).length-1)
def mS(c:List Nat)(g:F)(p:List Nat):Bool:=qR (c++p) (c++p).length g==1
theorem xK(c:List Nat)(a:F)(p:List Nat):mS c (.before a) p=(decide (0<(c++p).length)&&sat (c++p) a ((c++p).length-1)):=by
 show(bit (decide (0<(c++p).length)&&sat (c++p) a ((c++p).length-1))==1)=_;cases(decide (0<(c++p).length)&&sat (c++p) a ((c++p).length-1))<;>rfl
theorem AQ(c:List Nat)(a b:F)(p:List Nat):mS c (.since a b) p=(decide (0<(c++p).length)&&sat (c++p) (.since a b) ((c++p).length-1)):=by
 show(bit (decide (0<(c++p).length)&&sat (c++p) (.since a b) ((c++p).length-1))==1)=_;cases(decide (0<(c++p).length)&&sat (c++p) (.since a b) ((c++p).length-1))<;>rfl
theorem qm{p:List Nat}(h:p.length=L+1):∃q t,p=q++[t]/\p.dropLast=q/\q.length=L/\p.getLastD 0=t:=by
 rcases snoc_cases p with rfl|⟨q,t,rfl⟩
 ·cases h
 ·exact⟨q,t,rfl,P',by simpa using h,List.getLastD_concat⟩
section
variable{c:List Nat}{L:Nat}{p:List Nat}
theorem HP(n:Nat)(h:p.length=L+1):hS c (.fact n) p=ji n p:=by
 obtain⟨q,t,rfl,e1,e2,e3⟩:=qm h;unfold hS ji;rw[e3];have e:(c++(q++[t])).length-1=(c++q).length:=by simp
 rw[e];unfold sat;rw[show c++(q++[t])=(c++q)++[t] by simp,Nj,NM (Nq _),OF];simp
variable{a:F}
theorem EG(hp:past a=true)(h:p.length=L+1):hS c (.before a) p=dJ (mS c (.before a)) p:=by
 obtain⟨q,t,rfl,e1,e2,e3⟩:=qm h;unfold dJ;rw[e1,xK];unfold hS;rw[show c++(q++[t])=(c++q)++[t] by simp,show((c++q)++[t]).length-1=(c++q).length by simp];show(decide (0<(c++q).length/\(c++q).length<((c++q)++[t]).length)&&sat ((c++q)++[t]) a ((c++q).length-1))=_;rcases PU (c++q).length with z|z
 ·rw[NL (λy=>by omega),NL (by omega)];rfl
 ·rw[di (c++q) [t] a hp _ (by omega)];have:(0<(c++q).length/\(c++q).length<((c++q)++[t]).length):=⟨z,by simp⟩;rw[NA this,NA z]
theorem Ge{b:F}(hp:past (.since a b)=true)(h:p.length=L+1):hS c (.since a b) p=(hS c b p||(hS c a p&&dJ (mS c (.since a b)) p)):=by
 obtain⟨q,t,rfl,e1,e2,e3⟩:=qm h;unfold dJ;rw[e1,AQ];unfold hS;rw[show c++(q++[t])=(c++q)++[t] by simp,show((c++q)++[t]).length-1=(c++q).length by simp];rcases PU (c++q).length with z|z
 ·rw[z,dP (by rw[Nk,Ny];omega),NL (by omega)];simp
 ·obtain⟨m,hm⟩:∃m,(c++q).length=m+1:=⟨(c++q).length-1,by omega⟩;have e:=di (c++q) [t] (.since a b) hp m (by omega);rw[hm,dQ (by rw[Nk,hm];simp),e];simp
theorem Cj(h:p.length=L+1):mS c (.before a) p=hS c a p:=by
 rw[xK];unfold hS;have:0<(c++p).length:=by rw[Nk,h];omega
 rw[NA this,Qp]
theorem Et{b:F}(h:p.length=L+1):mS c (.since a b) p=hS c (.since a b) p:=by
 rw[AQ];unfold hS;have:0<(c++p).length:=by rw[Nk,h];omega
 rw[NA this,Qp]
end
theorem qI(f g:F):∀(q:List Nat)(c:List Nat)(on:Bool)(t:Nat),aT f g c on (q++[t])=mQ f g (c++q) (aT f g c on q) t
 |[],c,on,t=>by rw[NX];rfl
 |u::q,c,on,t=>by
  show aT f g (c++[u]) (mQ f g c on u) (q++[t])=_;rw[qI f g q (c++[u]) _ t,NV];rfl
theorem Hk{f g:F}{c:List Nat}{on:Bool}{p:List Nat}(h:p.length=L+1):
  aT f g c on p=((dJ (aT f g c on) p&&!hS c g p)||((!dJ (aT f g c on) p)&&hS c f p)):=by
 obtain⟨q,t,rfl,e1,e2,e3⟩:=qm h;unfold dJ hS;rw[e1,qI];unfold mQ;rw[show c++(q++[t])=(c++q)++[t] by simp,show((c++q)++[t]).length-1=(c++q).length by simp];cases aT f g c on q<;>simp
theorem zU(Z:Nat)(S:List Nat->Bool):setOf Z 0 S=[bit (S [])]:=by
 have e:setOf Z 0 S=[elt Z 0 S 0]:=by unfold setOf tcn tl hl;simp
 rw[e];congr 1;unfold elt hc hl tl hl;simp[ay,bitsOf];rfl
theorem HA(c:List Nat)(k:Nat)(g:F):qR c k g<=1:=by
 unfold qR;split
 ·exact CI _
 ·exact CI _
 ·omega
theorem FQ(Z:Nat)(c:List Nat)(g:F):setOf Z 0 (mS c g)=[qR c c.length g]:=by
 rw[zU];unfold mS;rw[NX];have:=HA c c.length g;have:qR c c.length g=0∨qR c c.length g=1:=by omega
 rcases this with e|e<;>rw[e]<;>rfl
theorem nR(Z L:Nat)(S T:List Nat->Bool)(h:i<tcn Z L):elt Z L S i&&&elt Z L T i=elt Z L (λp=>S p&&T p) i:=Gx _ _ _
theorem BC(Z L:Nat)(S T:List Nat->Bool):elt Z L S i|||elt Z L T i=elt Z L (λp=>S p||T p) i:=Ii _ _ _
theorem ze(Z L:Nat)(S:List Nat->Bool)(i:Nat):(2^hc Z L-1) ^^^ elt Z L S i=elt Z L (λp=>!S p) i:=by
 unfold elt;rw[wu,Gv];exact iO λj _=>by simp
theorem wI(S:List Nat->Bool)(h:i<tcn Z L):(setOf Z L S).take (i+1)=(setOf Z L S).take i++[elt Z L S i]:=by
 rw[OG,kh S h];rfl
end Bw
namespace Sc
open PySem PySem.Spec PyProof.Rows L2 NK
open Mir (Pt B1 dz eF)
open Bw
def bR(H:Hp)(r:Addr)(s:List Nat):Prop:=∃o,H r=some (.frz o (.lst (nvs s)))
variable{H:Hp}{r:Addr}{s:List Nat}
theorem bR.seq{K:Rt}(h:bR H r s):SqL K H r (nvs s):=let ⟨o,e⟩:=h;.inl (.inr ⟨o,e⟩)
variable{H':Hp}
theorem bR.same(h:bR H r s)(e:aw H H'):bR H' r s:=let ⟨o,q⟩:=h;⟨o,e _ _ q⟩
variable{S:Addr->Prop}
theorem bR.kp{D:Ad}(h:bR H r s)(l:Loose D H S)(k:Kp S H H'):bR H' r s:=let ⟨o,q⟩:=h;⟨o,l.frz k _ _ _ q⟩
def wa8(Z L:Nat)(ew:Addr):List (Str×V):=[("facts",nv Z),("length",nv L),("head_length",nv (hl L)),("tail_length",nv (tl L)),("head_count",nv (hc Z L)),("tail_count",nv (tcn Z L)),("all_heads",nv (2^hc Z L-1)),("every_way",.ref ew)]
def waF(Z L:Nat)(ew bf:Addr):List (Str×V):=[("facts",nv Z),("length",nv L),("head_length",nv (hl L)),("tail_length",nv (tl L)),("head_count",nv (hc Z L)),("tail_count",nv (tcn Z L)),("all_heads",nv (2^hc Z L-1)),("every_way",.ref ew),("ways_by_fact",.ref bf)]
structure f'(D:Ad)(H:Hp)(b dx ew bf:Addr)(Z L:Nat):Prop where
 self:H b=some (.ins D.aY dx (waF Z L ew bf))
 IL:bR H ew (setOf Z L λ_=>true)
 facts:∃o,∃as:List Addr,H bf=some (.frz o (.lst (as.map V.ref)))/\as.length=Z/\∀i a,as[i]?=some a->bR H a (setOf Z L (ji i))
theorem f'.kp{D:Ad}{S:Addr->Prop}{H H':Hp}{b dx ew bf:Addr}{Z L:Nat}(h:f' D H b dx ew bf Z L)(l:Loose D H S)(k:Kp S H H')(n:¬S b):f' D H' b dx ew bf Z L:=by
 obtain⟨o,as,e,ln,q⟩:=h.facts;exact⟨k _ _ h.self n,h.IL.kp l k,o,as,l.frz k _ _ _ e,ln,λi a z=>(q i a z).kp l k⟩
variable{b dx ew bf:Addr}{Z L:Nat}
theorem f'.same{D:Ad}(h:f' D H b dx ew bf Z L)(e:aw H H'):f' D H' b dx ew bf Z L:=h.kp (S:=λ_=>False) Loose.none (aw.kp e) id
theorem DA(h:Z<=3)(L:Nat):hc Z L<=512:=by
 unfold hc;have h1:hl L<=3:=Nat.min_le_right _ _;exact NR (OA (by omega) (QD h h1)) (by decide)
theorem pq(h:Z<=3)(hL:L<=6):tcn Z L<=512:=by
 unfold tcn;have h1:tl L<=3:=by unfold tl hl;omega
 exact NR (OA (by omega) (QD h h1)) (by decide)
theorem kT(x i:Nat):Builtin.bitAnd ((x:Int)/2^((i:Nat):Int).toNat) 1=((Vbtaak.bit (x.testBit i):Nat):Int):=by
 rw[Nw,yo,show(1:Int)=((1:Nat):Int)from rfl,fc,Mir.xp]
theorem pow_int(a n:Nat):(a:Int)*2^((n:Nat):Int).toNat=((a*2^n:Nat):Int):=by rw[Nw];simp
theorem iZ(n:Nat):(1:Int)*2^((n:Nat):Int).toNat=((2^n:Nat):Int):=by
 have:=pow_int 1 n;rw[Q6]at this;exact this
theorem sub_int(n:Nat):((2^n:Nat):Int)-1=((2^n-1:Nat):Int):=by
 have:0<2^n:=P5 (by omega);omega
theorem yp(a n:Nat):(a:Int)/2^((n:Nat):Int).toNat=((a >>> n:Nat):Int):=by rw[Nw,yo]
theorem FW(n:Nat):-(2^62)<=((n:Nat):Int):=by generalize n=m;omega
variable{n:Nat}
theorem Gb(h:n<=1000000):((n:Nat):Int)<2^62:=by generalize n=m at *;omega
variable{i j:Nat}
theorem Ie(hi:i<18446744073709551616)(hj:j<=1000000):Kj ((i:Nat):Int) ((j:Nat):Int):=by
 generalize i=a at *;generalize j=b at *;exact⟨by omega,by omega,by rw[Int.natAbs_natCast];omega⟩
theorem tI(hj:j<=1000000):Kj 1 ((j:Nat):Int):=Ie (i:=1) (by decide) hj
theorem wY{b:Bool}:((Vbtaak.bit b:Nat):Int)=1↔b=true:=by cases b<;>simp[Vbtaak.bit]
theorem M1{b:Bool}:((Vbtaak.bit b:Nat):Int)=0↔b=false:=by cases b<;>simp[Vbtaak.bit]
theorem yc(a b:Nat):Builtin.bitXor (a:Int) (b:Int)=((a ^^^ b:Nat):Int):=by rw[Kl.EV (by omega) (by omega)];rfl
section
variable{P:Program}{w:World}{K:Rt}{mg:Ru}{base:Heap}{D:Ad}
inductive mx(D:Ad)(vs:List V)(H:Hp)(Q:VK)(E:XK):Prop
 |mk (b dx ew bf Z L x:_):vs=[.ref b,nv x]->H b=some (.ins D.aY dx (waF Z L ew bf))->Z<=3->(∀H',aw H H'->Q (nv (lN Z x (hc Z L >>> Z))) H')->mx D vs H Q E
abbrev gC:Stmt:=inClass (top 39) 3
theorem bY:aF ["self","shorter_heads","any_turn","heads","head"] ["self","shorter_heads"] (az gC):=⟨rfl,rfl,rfl,by decide +kernel,rfl,by decide +kernel,by decide +kernel⟩
theorem oH{f:Addr}{fd:FuncData}(F:Fun K "lengthened_heads" "Ways.lengthened_heads" gC f fd)(T:Txt K mg D):bw P w K mg base CX0 1 f fd ["self","shorter_heads"] (mx D):=by
 refine F.ok bY (λvs H Q E h=>?_) (λcdv A outer s H vs Q E hr h=>?_)
 ·obtain⟨b,dx,ew,bf,Z,L,x,rfl,_⟩:=h;rfl
 obtain⟨b,dx,ew,bf,Z,L,x,rfl,hb,h3,q⟩:=h;refine⟨_,(ae (aG (i:=2) bY.nd rfl (Or.inl rfl) (aI dh (aI iD ao (aI iD ao (au (pv 0) rfl))) ao))
   (ae (aG (i:=3) bY.nd rfl (Or.inl rfl) ao)
   (ae (cu NU rfl (fA rfl T.range (aa (aI mP (au (pv 0) rfl) (au (pv 0) rfl)) ag)) (aL (i:=4) bY.nd rfl (Or.inl rfl)) (ai (aW (aH bH (aI fg (aI mP (pv 1) (pv 4)) ao) ao (aU _)) (ai (pR (i:=3) bY.nd rfl (Or.inl rfl) (aI iD (pv 2) (aI iD (pv 4) (au (pv 0) rfl))) Cr)) aD)))
   (ai (aA (pv 3)))))),?_⟩
 have hcl:=DA h3 L;have p8:2^Z<=8:=NR (OA (by omega) h3) (by decide);have p256:2^2^Z<=256:=NR (OA (by omega) p8) (by decide);have shl:hc Z L >>> Z<=512:=by rw[Oc];exact NR (Nat.div_le_self _ _) hcl
 refine⟨_,rfl,b,D.aY,dx,_,_,rfl,hb,T.bU,T.kE,rfl,_,_,rfl,rfl,tI (by omega),_,((2^Z:Nat):Int),rfl,congrArg V.int (iZ Z),tI (by omega),((2^2^Z:Nat):Int),_,congrArg V.int (iZ _),rfl,?_⟩;refine⟨_,rfl,b,D.aY,dx,_,_,rfl,hb,T.bU,T.kH,rfl,_,rfl,b,D.aY,dx,_,_,rfl,hb,T.bU,T.kE,rfl,_,_,rfl,rfl,OW _,((hc Z L >>> Z:Nat):Int),congrArg (λz:Int=>[V.int z]) (yp _ _),FW _,Gb (by omega),jT (lo:=0) (n:=((hc Z L >>> Z:Nat):Int).toNat)
  (λi σ H'=>(∃v:Option V,σ=[some (.ref b),some (nv x),some (.int (((2^2^Z:Nat):Int)-1)),some (nv (lN Z x i)),v])/\aw H H') ⟨⟨none,rfl⟩,aw.refl _⟩ ?_ ?_⟩
 ·rintro i σ H' hi ⟨⟨v,rfl⟩,s1⟩;rw[Nw]at hi;rw[P2];refine⟨_,rfl,_,rfl,_,_,rfl,rfl,OW _,_,_,rfl,rfl,rfl,_,rfl,bD (λz=>?_) (λz=>?_)⟩
  ·have z:=eqI.mp z;rw[kT]at z;have z:=wY.mp z;have m1:i*2^Z<=512*8:=QD (by omega) p8;have e:lN Z x (i+1)=lN Z x i|||(2^2^Z-1)*2^(i*2^Z):=by
    show(if x.testBit i=true then _ else _)=_;rw[Nz z]
   refine⟨_,rfl,_,rfl,_,rfl,_,rfl,b,D.aY,dx,_,_,rfl,s1 _ _ hb,T.bU,T.kE,rfl,_,_,rfl,rfl,Ie (by omega) (by omega),((2^2^Z-1:Nat):Int),((i*2^Z:Nat):Int),congrArg V.int (sub_int _),congrArg V.int (pow_int _ _),Ie (by omega) (by omega),_,(((2^2^Z-1)*2^(i*2^Z):Nat):Int),rfl,congrArg V.int (pow_int _ _),⟨some (nv i),?_⟩,s1⟩;exact congrArg (λz:Int=>[some (V.ref b),some (nv x),some (V.int (((2^2^Z:Nat):Int)-1)),some (V.int z),some (nv i)]) (by rw[kx,e])
  ·have z:¬x.testBit i=true:=λy=>z (eqI.mpr (by rw[kT];exact wY.mpr y));have e:lN Z x (i+1)=lN Z x i:=by
    show(if x.testBit i=true then _ else _)=_;rw[Nt z]
   refine⟨⟨some (nv i),?_⟩,s1⟩;rw[e];rfl
 ·rintro σ H' ⟨⟨v,rfl⟩,s1⟩;rw[Nw];exact⟨_,rfl,q H' s1⟩
end
abbrev lcK(te:TE)(σ:L2.St)(vs:List Nat)(R:VK)(R2:Hp->Prop):L2.St->Hp->Prop:=λσ2 H2=>wipe σ2 vs=wipe σ vs/\G1 σ2 H2 λb H3=>if b=true then te σ2 H3 R else R2 H3
abbrev lcG(J:It)(g:TG)(te:TE)(vs:List Nat)(σ:L2.St)(H1:Hp)(D:Addr)(Qd:Hp->Prop):Prop:=∃W:Nat->Nat->Hp->Prop,(∃m,W 0 m (upd H1 D (.lst [])))/\∀i m H,W i m H->
 (J.stop i H/\Qd H)∨(J.go i H/\∃Nx:Hp->Prop,(∀H',Nx H'->∃m',m'<m/\W (i+1) m' H')/\∀x H',J.yld i H x H'->g x (wipe σ vs) H' λσ2 H2=>wipe σ2 vs=wipe σ vs/\G1 σ2 H2 λb H3=>
  if b=true then te σ2 H3 λy H4=>∃acc,H4 D=some (.lst acc)/\acc.length<sizeLine/\Nx (upd H4 D (.lst (acc++[y])))else Nx H3)
variable{g:TG}{te:TE}{vs:List Nat}{σ:L2.St}{H1:Hp}{Qd:Hp->Prop}
theorem qU{J:It}(l:List V)(hr:H1 r=none)(few:l.length<sizeLine)(hgo:∀i H',i<l.length->aw H1 H'->J.go i H')(hst:∀H',aw H1 H'->J.stop l.length H')
  (hs:∀(i:Nat) a H' x H'',l[i]?=some a->aw H1 H'->J.yld i H' x H''->∀(R:VK)(R2:Hp->Prop),(∀H4,aw H' H4->R a H4)->g x (wipe σ vs) H'' (lcK te σ vs R R2))(hd:∀H',aw H1 H'->H' r=some (.lst l)->Qd H'):lcG J g te vs σ H1 r Qd:=by
 refine K3 (n:=l.length) (λi H'=>aw H1 H'/\H' r=some (.lst (l.take i))) ⟨ak hr _,af⟩ (λi H' hi ⟨s,_⟩=>hgo i H' hi s) (λH' ⟨s,_⟩=>hst H' s) ?_ ?_
 ·rintro i H' x H'' hi ⟨s,e⟩ y;obtain⟨a,ha⟩:∃a,l[i]?=some a:=⟨_,Ng hi⟩;refine hs i a H' x H'' ha s y _ _ λH4 s4=>⟨_,s4 _ _ e,?_,?_,?_⟩
  ·rw[N2];omega
  ·exact λb o z=>by rw[aB (ax z hr)];exact s4 _ _ (s _ _ z)
  ·rw[af,OG,ha];rfl
 ·rintro H' ⟨s,e⟩;rw[Oj]at e;exact hd H' s e
theorem AV{lo:Int}(l:List V)(hn:l.length=n)(hr:H1 r=none)(few:l.length<sizeLine)
  (hs:∀(i:Nat) a H',l[i]?=some a->aw H1 H'->∀(R:VK)(R2:Hp->Prop),(∀H4,aw H' H4->R a H4)->g (.int (lo+(i:Nat))) (wipe σ vs) H' (lcK te σ vs R R2))(hd:∀H',aw H1 H'->H' r=some (.lst l)->Qd H'):lcG (Itr lo n) g te vs σ H1 r Qd:=by
 subst hn;refine qU l hr few (λi H' hi _=>hi) (λH' _=>Nq _) ?_ hd;rintro i a H' x H'' ha s ⟨e1,e2⟩ R R2 hR;subst e1 e2;exact hs i a _ ha s R R2 hR
theorem F1{lo c:Int}(l:List V)(hn:l.length=n)(hr:H1 r=none)(few:l.length<sizeLine)
  (hs:∀(i:Nat) a H',l[i]?=some a->aw H1 H'->∀(R:VK)(R2:Hp->Prop),(∀H4,aw H' H4->R a H4)->g (.int (lo+(i:Nat)*c)) (wipe σ vs) H' (lcK te σ vs R R2))(hd:∀H',aw H1 H'->H' r=some (.lst l)->Qd H'):lcG (Itc lo c n) g te vs σ H1 r Qd:=by
 subst hn;refine qU l hr few (λi H' hi _=>hi) (λH' _=>Nq _) ?_ hd;rintro i a H' x H'' ha s ⟨e1,e2⟩ R R2 hR;subst e1 e2;exact hs i a _ ha s R R2 hR
variable{a:Addr}{xs:List V}
theorem vN{K:Rt}(l:List V)(hq:SqL K H1 a xs)(hn:xs.length=l.length)(hr:H1 r=none)(few:l.length<sizeLine)
  (hs:∀(i:Nat) y x H',l[i]?=some y->xs[i]?=some x->aw H1 H'->∀(R:VK)(R2:Hp->Prop),(∀H4,aw H' H4->R y H4)->g x (wipe σ vs) H' (lcK te σ vs R R2))(hd:∀H',aw H1 H'->H' r=some (.lst l)->Qd H'):lcG (Itl K a) g te vs σ H1 r Qd:=by
 refine qU l hr few (λi H' hi s=>⟨xs,xs[i],s.seq hq,Ng (by omega)⟩) (λH' s=>⟨xs,s.seq hq,by omega⟩) ?_ hd;rintro i y x' H' H'' hy s ⟨e1,e2⟩ R R2 hR;subst e1;exact hs i y _ _ hy (e2 xs (s.seq hq)) s R R2 hR
variable{ys:List V}
theorem qT{K:Rt}(l:List V)(hq:SqL K H1 a xs)(hq2:SqL K H1 b ys)(hn:xs.length=l.length)(hn2:ys.length=l.length)(hr:H1 r=none)(few:l.length<sizeLine)
  (hs:∀(i:Nat) y u v T H',l[i]?=some y->xs[i]?=some u->ys[i]?=some v->aw H1 H'->H' T=none->∀(R:VK)(R2:Hp->Prop),(∀H4,aw H' H4->R y H4)->g (.ref T) (wipe σ vs) (upd H' T (.tup [u,v])) (lcK te σ vs R R2))(hd:∀H',aw H1 H'->H' r=some (.lst l)->Qd H'):lcG (Itz K a b) g te vs σ H1 r Qd:=by
 refine qU l hr few (λi H' hi s=>⟨xs,ys,xs[i],ys[i],s.seq hq,s.seq hq2,Ng (by omega),Ng (by omega)⟩) (λH' s=>⟨xs,ys,s.seq hq,s.seq hq2,.inl (by omega)⟩) ?_ hd;rintro i y x' H' H'' hy s ⟨T,u,v,rfl,hT,rfl,e2,e3⟩ R R2 hR;exact hs i y u v T _ hy (e2 xs (s.seq hq)) (e3 ys (s.seq hq2)) s hT R R2 hR
theorem xM{K:Rt}{c:Addr}{zs:List V}(l:List V)(hq:SqL K H1 a xs)(hq2:SqL K H1 b ys)(hq3:SqL K H1 c zs)(hn:xs.length=l.length)(hn2:ys.length=l.length)(hn3:zs.length=l.length)(hr:H1 r=none)(few:l.length<sizeLine)
  (hs:∀(i:Nat) y u v z T H',l[i]?=some y->xs[i]?=some u->ys[i]?=some v->zs[i]?=some z->aw H1 H'->H' T=none->∀(R:VK)(R2:Hp->Prop),(∀H4,aw H' H4->R y H4)->g (.ref T) (wipe σ vs) (upd H' T (.tup [u,v,z])) (lcK te σ vs R R2))(hd:∀H',aw H1 H'->H' r=some (.lst l)->Qd H'):lcG (It3 K a b c) g te vs σ H1 r Qd:=by
 refine qU l hr few (λi H' hi s=>⟨xs,ys,zs,xs[i],ys[i],zs[i],s.seq hq,s.seq hq2,s.seq hq3,Ng (by omega),Ng (by omega),Ng (by omega)⟩) (λH' s=>⟨xs,s.seq hq,by omega⟩) ?_ hd;rintro i y x' H' H'' hy s ⟨T,u,v,z,rfl,hT,rfl,e2,e3,e4⟩ R R2 hR;exact hs i y u v z T _ hy (e2 xs (s.seq hq)) (e3 ys (s.seq hq2)) (e4 zs (s.seq hq3)) s hT R R2 hR
theorem i9{l:List Nat}(hr:H r=none)(s:aw H H1)(e:H1 r=some (.lst (nvs l))){Q:Hp->Prop}(q:∀H',aw H H'->bR H' r l->Q H'):∃d u,H1 d=some u/\Mut (some u)/\∀od,Q (upd H1 d (.frz od u)):=
 ⟨r,_,e,trivial,λod=>q _ (λb o z=>by rw[aB (ax z hr)];exact s _ _ z) ⟨od,af⟩⟩
theorem i8(h:n<=512):n<sizeLine:=bx (by omega)
theorem bI{S:List Nat->Bool}{v:V}(h:(nvs (setOf Z L S))[i]?=some v):i<tcn Z L/\v=nv (elt Z L S i):=by
 have hi:i<tcn Z L:=by
  have:=(Nh.mp h).1;rw[Nf,g8]at this;exact this
 rw[NC,kh S hi]at h;exact⟨hi,(Nm h).symm⟩
section
variable{P:Program}{w:World}{K:Rt}{mg:Ru}{base:Heap}{D:Ad}
inductive yl(D:Ad)(vs:List V)(H:Hp)(Q:VK)(E:XK):Prop
 |mk (b dx ew bf Z L s S:_):vs=[.ref b,.ref s]->H b=some (.ins D.aY dx (waF Z (L+1) ew bf))->Z<=3->L<=5->bR H s (setOf Z L S)->(∀r H',aw H H'->bR H' r (setOf Z (L+1) (dJ S))->Q (.ref r) H')->yl D vs H Q E
abbrev lD:Stmt:=inClass (top 39) 2
theorem de:aF ["self","shorter_ways","tail","heads"] ["self","shorter_ways"] (az lD):=⟨rfl,rfl,rfl,by decide +kernel,rfl,by decide +kernel,by decide +kernel⟩
theorem wR{f:Addr}{fd:FuncData}(F:Fun K "lengthened" "Ways.lengthened" lD f fd)(T:Txt K mg D)(qi:Mt P w K mg base D.aY "lengthened_heads" 1 ["self","shorter_heads"] (mx D)):bw P w K mg base CX0 2 f fd ["self","shorter_ways"] (yl D):=by
 refine F.ok de (λvs H Q E h=>?_) (λcdv A outer s H vs Q E hr h=>?_)
 ·obtain⟨b,dx,ew,bf,Z,L,s,S,rfl,_⟩:=h;rfl
 obtain⟨b,dx,ew,bf,Z,L,sa,S,rfl,hb,h3,h5,hs,q⟩:=h;refine⟨_,(ae (aW (aH oY (au (pv 0) rfl) ao (aU _)) (ai (aA (du (fI rfl de.nd (fA rfl T.range (aa (au (pv 0) rfl) ag)) (cU (own:=[("tail",2)]) (by rfl)) (λ_ _ _ _ _=>(aL (i:=2) de.nd rfl (Or.inl rfl))) (λ_ _ _ _ _=>dH) (λ_ _ _ _ _=>(aS aE (pv 1) (aI mP (pv 2) (au (pv 0) rfl)) (λ_ _=>rfl))))))) aD)
   (ai (aA (du (fI rfl de.nd (gq (pv 1)) (cU (own:=[("heads",3)]) (by rfl)) (λ_ _ _ _ _=>(aL (i:=3) de.nd rfl (Or.inl rfl))) (λ_ _ _ _ _=>dH) (λ_ _ _ _ _=>(bZ (pv 0) qi hr (aa (pv 3) ag)))))))),?_⟩
 have tl5:=pq h3 (show L+1<=6 by omega);have lnL:=g8 Z (L+1) (dJ S);have few:(nvs (setOf Z (L+1) (dJ S))).length<sizeLine:=by rw[Nf,lnL];exact i8 tl5
 refine⟨_,rfl,b,D.aY,dx,_,_,rfl,hb,T.bU,T.gD,rfl,_,_,rfl,rfl,_,rfl,bD (λz=>?_) (λz=>?_)⟩
 ·have z:(0:Int)<((tl (L+1):Nat):Int):=NG z;have h3L:3<=L:=by unfold tl hl at z;omega
  refine⟨_,rfl,b,D.aY,dx,_,_,rfl,hb,T.bU,T.kF,rfl,((tcn Z (L+1):Nat):Int),rfl,FW _,Gb (by omega),λr hr0=>AV (lo:=0) (n:=((tcn Z (L+1):Nat):Int).toNat) (nvs (setOf Z (L+1) (dJ S))) (by rw[Nf,lnL,Nw]) hr0 few ?_ ?_⟩
  ·rintro i a H' ha s1 R R2 hR;obtain⟨hi,rfl⟩:=bI ha;rw[P2];refine⟨rfl,lcT ?_⟩;have tD:=Ew (Z:=Z) S h3L;have e1:=congrArg (λl:List Nat=>l[i]?) tD;simp only[kh _ hi,NC,Rb hi,PF]at e1;have e1:=Nm e1;have hsh:i >>> Z<(setOf Z L S).length:=by
    rw[g8,Oc];unfold tcn at hi ⊢;rw[show tl (L+1)=tl L+1 by unfold tl hl;omega,Rg,Pb]at hi;exact QT (by rw[OJ];exact hi)
   refine⟨_,rfl,_,rfl,_,rfl,b,D.aY,dx,_,_,rfl,s1 _ _ hb,T.bU,T.kE,rfl,_,_,rfl,rfl,OW _,sa,_,((i >>> Z:Nat):Int),nv (elt Z (L+1) (dJ S) i),rfl,congrArg V.int (yp _ _),(hs.same s1).seq,?_,hR _ (aw.refl _)⟩;rw[<-e1];exact bT hsh
  ·exact λH' s1 e1=>i9 hr0 s1 e1 λH2 s2 t2=>q r H2 s2 t2
 ·have z:¬(0:Int)<((tl (L+1):Nat):Int):=λy=>z (NA y);have hL3:L<3:=by unfold tl hl at z;omega
  have tD:=Ex (Z:=Z) S hL3;refine⟨_,rfl,sa,rfl,⟨_,hs.seq⟩,λr hr0=>vN (K:=K) (a:=sa) (xs:=nvs (setOf Z L S)) (nvs (setOf Z (L+1) (dJ S))) hs.seq (by rw[<-tD,Nf,Nf,Nf]) hr0 few ?_ ?_⟩
  ·rintro i y x H' hy hx s1 R R2 hR;obtain⟨hi,rfl⟩:=bI hx;refine⟨rfl,lcT ?_⟩;refine⟨_,rfl,b,dx,_,rfl,s1 _ _ hb,rfl,_,rfl,b,dx,ew,bf,Z,L+1,elt Z L S i,rfl,s1 _ _ hb,h3,λH4 s4=>?_⟩;rw[<-tD,NC,NC,kh S hi]at hy;have hy:=Nm hy;have:=hR H4 s4;rw[<-hy]at this;exact this
  ·exact λH' s1 e1=>i9 hr0 s1 e1 λH2 s2 t2=>q r H2 s2 t2
end
theorem xk(Z x:Nat):∀(n i:Nat),i<n->(ay Z n x)[i]?=some (x/2^(Z*(n-1-i))%2^Z)
 |0,i,h=>by omega
 |n+1,0,_=>by
  show some (x/2^(Z*n)%2^Z)=_;rw[show n+1-1-0=n by omega]
 |n+1,i+1,h=>by
  show(ay Z n x)[i]?=_;rw[xk Z x n i (by omega),show n+1-1-(i+1)=n-1-i by omega]
theorem GD(a Z:Nat):Builtin.bitAnd ((a:Nat):Int) (((2^Z:Nat):Int)-1)=((a%2^Z:Nat):Int):=by
 rw[sub_int,fc,Nat.and_two_pow_sub_one_eq_mod]
variable{k:Nat}
theorem HC{x:Nat}(h:x.testBit k=true)(h':∀j,j<k->x.testBit j=false):Builtin.bitAnd ((x:Nat):Int) (-((x:Nat):Int))=((2^k:Nat):Int):=by
 have x0:0<x:=by
  rcases PU x with z|z
  ·rw[z,QR]at h;cases h
  ·exact z
 rw[<-HD h h'];unfold Builtin.bitAnd;rw[NA (show(0:Int)<=(x:Int) by omega),NL (show ¬(0:Int)<=-(x:Int) by omega)];show(x:Int)-(((x:Int).toNat&&&(Builtin.bitNot (-(x:Int))).toNat:Nat):Int)=_;have e:(Builtin.bitNot (-(x:Int))).toNat=x-1:=by unfold Builtin.bitNot;omega
 rw[e,Nw];have:=Nat.and_le_left (n:=x) (m:=x-1);omega
theorem Gw(k:Nat):((Builtin.Int.intBits ((2^k:Nat):Int):Nat):Int)=((k+1:Nat):Int):=by
 have p:2^k≠0:=O0 (P5 (by omega));unfold Builtin.Int.intBits;have e:(((2^k:Nat):Int)==0)=false:=by
  rw[N'];exact λz=>p (Qq z)
 rw[e,Nt NI,Int.natAbs_natCast,Nat.log2_two_pow]
def LF(H:Hp)(v:V):Option (List Nat)->Prop
 |none=>v=.non
 |some p=>∃r,v=.ref r/\H r=some (.lst (nvs p))
section
variable{P:Program}{w:World}{K:Rt}{mg:Ru}{base:Heap}{D:Ad}
inductive px(D:Ad)(vs:List V)(H:Hp)(Q:VK)(E:XK):Prop
 |mk (b dx ew Z L i:_):vs=[.ref b,nv i]->H b=some (.ins D.aY dx (wa8 Z L ew))->Z<=3->L<=6->i<Z->(∀r H',aw H H'->bR H' r (setOf Z L (ji i))->Q (.ref r) H')->px D vs H Q E
abbrev jb:Stmt:=inClass (top 39) 1
theorem b5:aF ["self","i","tail","heads","head"] ["self","i"] (az jb):=⟨rfl,rfl,rfl,by decide +kernel,rfl,by decide +kernel,by decide +kernel⟩
variable{f:Addr}{fd:FuncData}
theorem qJ(F:Fun K "ways_with_fact" "Ways.ways_with_fact" jb f fd)(T:Txt K mg D):bw P w K mg base CX0 1 f fd ["self","i"] (px D):=by
 refine F.ok b5 (λvs H Q E h=>?_) (λcdv A outer s H vs Q E hr h=>?_)
 ·obtain⟨b,dx,ew,Z,L,i,rfl,_⟩:=h;rfl
 obtain⟨b,dx,ew,Z,L,i,rfl,hb,h3,h6,hi,q⟩:=h;refine⟨_,(ae (aW (aH oY (au (pv 0) rfl) ao (aU _)) (ai (aA (du (fI rfl b5.nd (fA rfl T.range (aa (au (pv 0) rfl) ag)) (cU (own:=[("tail",2)]) (by rfl)) (λ_ _ _ _ _=>(aL (i:=2) b5.nd rfl (Or.inl rfl))) (λ_ _ _ _ _=>dH) (λ_ _ _ _ _=>(eP (aH bH (aI fg (aI mP (pv 2) (pv 1)) ao) ao (aU _)) (au (pv 0) rfl) ao)))))) aD)
   (ae (aG (i:=3) b5.nd rfl (Or.inl rfl) ao)
   (ae (cu NU rfl (fA rfl T.range (aa (au (pv 0) rfl) ag)) (aL (i:=4) b5.nd rfl (Or.inl rfl)) (ai (pR (i:=3) b5.nd rfl (Or.inl rfl) (aI iD (aI fg (aI mP (pv 4) (pv 1)) ao) (pv 4)) Cr)))
   (ai (aA (du (aV (aa (pv 3) ag)))))))),?_⟩
 have tl5:=pq h3 h6;have hcl:=DA h3 L;have lnL:=g8 Z L (ji i);have few:(nvs (setOf Z L (ji i))).length<sizeLine:=by rw[Nf,lnL];exact i8 tl5
 refine⟨_,rfl,b,D.aY,dx,_,_,rfl,hb,T.bU,T.gD,rfl,_,_,rfl,rfl,_,rfl,bD (λz=>?_) (λz=>?_)⟩
 ·have z:(0:Int)<((tl L:Nat):Int):=NG z;have hf:=EN (Z:=Z) (L:=L) (i:=i) (by omega) hi;refine⟨_,rfl,b,D.aY,dx,_,_,rfl,hb,T.bU,T.kF,rfl,((tcn Z L:Nat):Int),rfl,FW _,Gb (by omega),λr hr0=>AV (lo:=0) (n:=((tcn Z L:Nat):Int).toNat) (nvs (setOf Z L (ji i))) (by rw[Nf,lnL,Nw]) hr0 few ?_ ?_⟩
  ·rintro t a H' ha s1 R R2 hR;obtain⟨ht,rfl⟩:=bI ha;rw[P2];refine⟨rfl,lcT ?_⟩;have e1:=congrArg (λl:List Nat=>l[t]?) hf;simp only[kh _ ht,NC,Rb ht,PF]at e1;have e1:=Nm e1;refine⟨_,rfl,_,rfl,_,_,rfl,rfl,OW _,_,_,rfl,rfl,rfl,_,rfl,bD (λz=>?_) (λz=>?_)⟩
   ·have z:=eqI.mp z;rw[kT]at z;rw[Nz (wY.mp z)]at e1;refine⟨_,rfl,b,D.aY,dx,_,_,rfl,s1 _ _ hb,T.bU,T.jK,rfl,?_⟩;have:=hR _ (aw.refl H');rw[<-e1]at this;exact this
   ·have z:¬t.testBit i=true:=λy=>z (eqI.mpr (by rw[kT];exact wY.mpr y));rw[Nt z]at e1;have:=hR _ (aw.refl H');rw[<-e1]at this;exact this
  ·exact λH' s1 e1=>i9 hr0 s1 e1 λH2 s2 t2=>q r H2 s2 t2
 ·have z:¬(0:Int)<((tl L:Nat):Int):=λy=>z (NA y);have hf:=EO (Z:=Z) (L:=L) (i:=i) (by omega) hi;refine⟨_,rfl,b,D.aY,dx,_,_,rfl,hb,T.bU,T.kH,rfl,((hc Z L:Nat):Int),rfl,FW _,Gb (by omega),jT (lo:=0) (n:=((hc Z L:Nat):Int).toNat)
   (λj σ H'=>(∃v:Option V,σ=[some (.ref b),some (nv i),none,some (nv (bitsOf j λx=>x.testBit i)),v])/\aw H H') ⟨⟨none,rfl⟩,aw.refl _⟩ ?_ ?_⟩
  ·rintro j σ H' hj ⟨⟨v,rfl⟩,s1⟩;rw[Nw]at hj;rw[P2];have bl:Vbtaak.bit (j.testBit i)<=1:=Mir.CI _;refine⟨_,rfl,_,rfl,_,rfl,_,_,rfl,rfl,OW _,_,_,rfl,rfl,_,rfl,((Vbtaak.bit (j.testBit i):Nat):Int),_,congrArg V.int (kT _ _),rfl,Ie (by omega) (by omega),_,((Vbtaak.bit (j.testBit i)*2^j:Nat):Int),rfl,congrArg V.int (pow_int _ _),⟨some (nv j),?_⟩,s1⟩;refine congrArg (λz:Int=>[some (V.ref b),some (nv i),none,some (V.int z),some (nv j)]) ?_;rw[kx];congr 1;show _=bitsOf j (λx=>x.testBit i)|||(if j.testBit i=true then 2^j else 0)
   congr 1;cases j.testBit i<;>simp[Vbtaak.bit]
  ·rintro σ H' ⟨⟨v,rfl⟩,s1⟩;rw[Nw];refine⟨_,rfl,(by show 1<=sizeLine;decide),λr hr0=>?_⟩;refine i9 (H:=H) (s1.free hr0) (s1.trans (ak hr0 _)) (l:=setOf Z L (ji i)) ?_ λH2 s2 t2=>q r H2 s2 t2;rw[af,<-hf];rfl
inductive rM(D:Ad)(vs:List V)(H:Hp)(Q:VK)(E:XK):Prop
 |mk (b dx ew bf Z L x n:_):vs=[.ref b,nv x,nv n]->H b=some (.ins D.aY dx (waF Z L ew bf))->Z<=3->n<=6->(∀r H',aw H H'->H' r=some (.lst (nvs (ay Z n x)))->Q (.ref r) H')->rM D vs H Q E
abbrev qz:Stmt:=inClass (top 39) 5
theorem gg:aF ["self","number","length","highest_turn","later"] ["self","number","length"] (az qz):=⟨rfl,rfl,rfl,by decide +kernel,rfl,by decide +kernel,by decide +kernel⟩
theorem Am(F:Fun K "turns_of" "Ways.turns_of" qz f fd)(T:Txt K mg D):bw P w K mg base CX0 1 f fd ["self","number","length"] (rM D):=by
 refine F.ok gg (λvs H Q E h=>?_) (λcdv A outer s H vs Q E hr h=>?_)
 ·obtain⟨b,dx,ew,bf,Z,L,x,n,rfl,_⟩:=h;rfl
 obtain⟨b,dx,ew,bf,Z,L,x,n,rfl,hb,h3,h6,q⟩:=h;refine⟨_,(ae (aG (i:=3) gg.nd rfl (Or.inr rfl) (aI dh (aI iD ao (au (pv 0) rfl)) ao))
   (ai (aA (fI rfl gg.nd (fW rfl T.range (aa (aI dh (pv 2) ao) (aa (gS eG ao) (aa (gS eG ao) ag)))) (cU (own:=[("later",4)]) (by rfl)) (λ_ _ _ _ _=>(aL (i:=4) gg.nd rfl (Or.inl rfl))) (λ_ _ _ _ _=>dH) (λ_ _ _ _ _=>(aI fg (aI mP (pv 1) (aI B6 (au (pv 0) rfl) (pv 4))) (pv 3))))))),?_⟩
 have IW:=hX Z n x;have en:((n:Int)-1 - -1).toNat=n:=by omega
 refine⟨_,rfl,b,D.aY,dx,_,_,rfl,hb,T.bU,T.kE,rfl,_,_,rfl,rfl,tI (by omega),((2^Z:Nat):Int),_,congrArg V.int (iZ _),rfl,?_⟩;refine⟨_,rfl,_,_,rfl,rfl,_,rfl,_,rfl,_,_,_,_,rfl,RgC.neg (by omega) (by omega) (by decide) (by decide),λr hr0=>F1 (lo:=(n:Int)-1) (c:=-1) (n:=((n:Int)-1 - -1).toNat) (nvs (ay Z n x)) (by rw[Nf,IW,en]) hr0 (by rw[Nf,IW];exact i8 (by omega)) ?_ ?_⟩
 ·rintro i a H' ha s1 R R2 hR;have hi:i<n:=by
   have:=(Nh.mp ha).1;rw[Nf,IW]at this;exact this
  rw[NC,xk Z x n i hi]at ha;have ha:=Nm ha;refine⟨rfl,lcT ?_⟩;have ei:(n:Int)-1+(i:Nat)*(-1)=((n-1-i:Nat):Int):=by omega
  rw[ei];have em:((Z:Nat):Int)*((n-1-i:Nat):Int)=((Z*(n-1-i):Nat):Int):=(Int.natCast_mul _ _).symm;refine⟨_,rfl,_,rfl,b,D.aY,dx,_,_,rfl,s1 _ _ hb,T.bU,T.kE,rfl,_,rfl,_,_,rfl,rfl,.inl ⟨by omega,by omega⟩,_,((Z*(n-1-i):Nat):Int),rfl,congrArg V.int em,OW _,_,rfl,((x >>> (Z*(n-1-i)):Nat):Int),_,congrArg V.int (yp _ _),rfl,?_⟩;have:=hR _ (aw.refl H');rw[<-ha]at this;have e:V.int (Builtin.bitAnd ((x >>> (Z*(n-1-i)):Nat):Int) (((2^Z:Nat):Int)-1))=nv (x/2^(Z*(n-1-i))%2^Z):=by rw[GD,Oc]
  rw[<-e]at this;exact this
 ·exact λH' s1 e1=>q r H' s1 e1
inductive rO(K:Rt)(D:Ad)(vs:List V)(H:Hp)(Q:VK)(E:XK):Prop
 |mk (b dx ew bf Z L s S:_):vs=[.ref b,.ref s]->H b=some (.ins D.aY dx (waF Z L ew bf))->Z<=3->L<=6->SqL K H s (nvs (setOf Z L S))->(∀v H',aw H H'->LF H' v ((Gen.aY (2^Z) L).find? S)->Q v H')->rO K D vs H Q E
abbrev qA:Stmt:=inClass (top 39) 4
theorem cW:aF ["self","ways","heads","heads_with_tail","head","tail"] ["self","ways"] (az qA):=⟨rfl,rfl,rfl,by decide +kernel,rfl,by decide +kernel,by decide +kernel⟩
theorem Ao(F:Fun K "first_in" "Ways.first_in" qA f fd)(T:Txt K mg D)(wA:Mt P w K mg base D.aY "turns_of" 1 ["self","number","length"] (rM D)):bw P w K mg base CX0 2 f fd ["self","ways"] (rO K D):=by
 refine F.ok cW (λvs H Q E h=>?_) (λcdv A outer s H vs Q E hr h=>?_)
 ·obtain⟨b,dx,ew,bf,Z,L,s,S,rfl,_⟩:=h;rfl
 obtain⟨b,dx,ew,bf,Z,L,sa,S,rfl,hb,h3,h6,hs,q⟩:=h;refine⟨_,(ae (aG (i:=2) cW.nd rfl (Or.inl rfl) ao)
   (ae (cu NU rfl (gq (pv 1)) (aL (i:=3) cW.nd rfl (Or.inl rfl)) (ai (pR (i:=2) cW.nd rfl (Or.inl rfl) (pv 3) Cr)))
   (ae (aW (aH bH (pv 2) ao (aU _)) (ai (aA jv)) aD)
   (ae (aG (i:=4) cW.nd rfl (Or.inl rfl) (aI dh (B3 PySem.F.plainAttrs_int PySem.F.slot_int_bit_length PySem.F.type_int_bit_length Hz (aI fg (pv 2) (gS eG (pv 2)))) ao))
   (ae (aG (i:=5) cW.nd rfl (Or.inl rfl) ao)
   (ae (qG NU (aH bH (aI fg (aI mP (aS aE (pv 1) (pv 5) (λ_ _=>rfl)) (pv 4)) ao) ao (aU _)) (ai (pR (i:=5) cW.nd rfl (Or.inl rfl) ao uz)))
   (ai (aA (aI pS (bZ (pv 0) wA hr (aa (pv 4) (aa (au (pv 0) rfl) ag))) (bZ (pv 0) wA hr (aa (pv 5) (aa (au (pv 0) rfl) ag)))))))))))),?_⟩
 have tl5:=pq h3 h6;have hcl:=DA h3 L;have lnL:=g8 Z L S;refine⟨_,rfl,sa,rfl,⟨_,hs⟩,jU (K:=K) (a:=sa) (xs:=nvs (setOf Z L S)) (λi σ H'=>(∃v:Option V,σ=[some (.ref b),some (.ref sa),some (nv (lM ((setOf Z L S).take i))),v,none,none])/\aw H H') ⟨⟨none,rfl⟩,aw.refl _⟩ (λi σ H' _ ⟨_,s1⟩=>s1.seq hs) ?_ ?_⟩
 ·rintro i x σ H' hx ⟨⟨v,rfl⟩,s1⟩;obtain⟨hi,rfl⟩:=bI hx;refine⟨_,rfl,_,rfl,_,_,rfl,rfl,⟨some (nv (elt Z L S i)),?_⟩,s1⟩;refine congrArg (λz:Int=>[some (V.ref b),some (V.ref sa),some (V.int z),some (nv (elt Z L S i)),none,none]) ?_;rw[kx,wI S hi];unfold lM;rw[Ox];rfl
 ·rintro σ H1 ⟨⟨v,rfl⟩,s1⟩;rw[Nf,Oj];refine⟨_,rfl,rfl,_,rfl,bD (λz=>?_) (λz=>?_)⟩
  ·have z:=eqI.mp z;have z:lM (setOf Z L S)=0:=Qq z;refine q _ H1 s1 ?_;rw[CA z];rfl
  ·have z:lM (setOf Z L S)≠0:=λy=>z (eqI.mpr (by rw[y];rfl));have lt:lM (setOf Z L S)<2^hc Z L:=Nat.lt_pow_two_of_testBit _ λj hj=>by
    rw[qH,Pe];intro y hy;obtain⟨t,ht,rfl⟩:=NZ.mp hy;unfold elt;rw[cZ];simp;omega
   obtain⟨k,kl,k1,k2⟩:=FU _ _ lt z;have kb:=HC k1 k2;refine⟨_,rfl,_,rfl,_,rfl,_,_,rfl,rfl,rfl,((2^k:Nat):Int),congrArg V.int kb,rfl,((k+1:Nat):Int),_,congrArg V.int (Gw k),rfl,?_⟩;obtain⟨t1,ht1,hb1⟩:∃t,t<tcn Z L/\((setOf Z L S).getD t 0).testBit k=true:=by
    rw[qH]at k1;obtain⟨y,hy,yb⟩:=Oi.mp k1;obtain⟨t,ht⟩:=OZ hy;exact⟨t,by rw[<-lnL];exact(Nh.mp ht).1,by rw[Nj,ht];exact yb⟩
   have vk:(((k+1:Nat):Int)-1)=((k:Nat):Int):=by omega
   refine⟨λm σ H'=>∃t:Nat,σ=[some (.ref b),some (.ref sa),some (nv (lM (setOf Z L S))),v,some (.int (((k+1:Nat):Int)-1)),some (nv t)]/\aw H H'/\t+m=t1/\∀j,j<t->((setOf Z L S).getD j 0).testBit k=false,⟨t1,0,rfl,s1,by omega,λj hj=>by omega⟩,?_⟩;rintro m σ H2 ⟨t,rfl,s2,tm,low⟩;have at_:atI (nvs (setOf Z L S)) ((t:Nat):Int)=some (nv ((setOf Z L S).getD t 0)):=bT (by rw[lnL];omega);refine⟨_,rfl,_,rfl,sa,_,_,_,rfl,rfl,s2.seq hs,at_,_,rfl,_,((k:Nat):Int),rfl,congrArg V.int vk,OW _,_,_,rfl,rfl,rfl,_,rfl,bD (λy=>?_) (λy=>?_)⟩
   ·have y:=eqI.mp y;rw[kT]at y;have y:=M1.mp y;have tne:t≠t1:=λe=>by rw[e,hb1]at y;cases y
    refine⟨λσ' H'=>∃m',m'<m/\∃t:Nat,σ'=[some (.ref b),some (.ref sa),some (nv (lM (setOf Z L S))),v,some (.int (((k+1:Nat):Int)-1)),some (nv t)]/\aw H H'/\t+m'=t1/\∀j,j<t->((setOf Z L S).getD j 0).testBit k=false,λ_ _ z=>z,?_⟩;refine⟨_,rfl,_,_,rfl,rfl,m-1,by omega,t+1,rfl,s2,by omega,λj hj=>?_⟩;rcases PY j t with l|l
    ·exact low j l
    ·rw[show j=t by omega];exact y
   ·have y:((setOf Z L S).getD t 0).testBit k=true:=by
     cases e:((setOf Z L S).getD t 0).testBit k with
     |true=>rfl
     |false=>exact absurd (eqI.mpr (by rw[kT,e];rfl)) y
    have fs:=Cz (Z:=Z) (L:=L) (S:=S) (h:=k) (t:=t) k1 k2 (by omega) y low;have h6':hl L<=6/\tl L<=6:=by unfold tl hl;omega
    refine⟨_,rfl,b,dx,_,rfl,s2 _ _ hb,rfl,_,rfl,_,rfl,b,D.aY,dx,_,_,rfl,s2 _ _ hb,T.bU,T.jg,rfl,b,dx,ew,bf,Z,L,k,hl L,?_,s2 _ _ hb,h3,h6'.1,λr3 H3 s3 e3=>?_⟩
    ·show [V.ref b,V.int (((k+1:Nat):Int)-1),nv (hl L)]=_;rw[vk]
    refine⟨_,rfl,b,dx,_,rfl,s3 _ _ (s2 _ _ hb),rfl,_,rfl,_,rfl,b,D.aY,dx,_,_,rfl,s3 _ _ (s2 _ _ hb),T.bU,T.gD,rfl,b,dx,ew,bf,Z,L,t,tl L,rfl,s3 _ _ (s2 _ _ hb),h3,h6'.2,λr4 H4 s4 e4=>?_⟩;refine⟨r3,r4,_,_,rfl,rfl,s4 _ _ e3,e4,by rw[Nf,Nf,hX,hX];exact OI (bx (by omega)),λr5 h5=>?_⟩;refine q (.ref r5) _ (((s2.trans s3).trans s4).trans (ak h5 _)) ?_;rw[fs];refine⟨r5,rfl,?_⟩;rw[af];unfold nvs;rw[NS]
end
theorem Fp(n:Nat)(a:Nat):(List.replicate n [nv a]).flatten=nvs (List.replicate n a):=by
 induction n with
 |zero=>rfl
 |succ n ih=>rw[N3,Pf,ih,N3];rfl
section
variable{P:Program}{w:World}{K:Rt}{mg:Ru}{base:Heap}{D:Ad}
def wi2(Z L:Nat):List (Str×V):=[("facts",nv Z),("length",nv L)]
def wi3(Z L:Nat):List (Str×V):=[("facts",nv Z),("length",nv L),("head_length",nv (hl L))]
def wi4(Z L:Nat):List (Str×V):=[("facts",nv Z),("length",nv L),("head_length",nv (hl L)),("tail_length",nv (tl L))]
def wi5(Z L:Nat):List (Str×V):=[("facts",nv Z),("length",nv L),("head_length",nv (hl L)),("tail_length",nv (tl L)),("head_count",nv (hc Z L))]
def wi6(Z L:Nat):List (Str×V):=[("facts",nv Z),("length",nv L),("head_length",nv (hl L)),("tail_length",nv (tl L)),("head_count",nv (hc Z L)),("tail_count",nv (tcn Z L))]
def wi7(Z L:Nat):List (Str×V):=[("facts",nv Z),("length",nv L),("head_length",nv (hl L)),("tail_length",nv (tl L)),("head_count",nv (hc Z L)),("tail_count",nv (tcn Z L)),("all_heads",nv (2^hc Z L-1))]
inductive pD(D:Ad)(vs:List V)(H:Hp)(Q:VK)(E:XK):Prop
 |mk (x dx Z L:_):vs=[.ref x,nv Z,nv L]->H x=some (.ins D.aY dx [])->Z<=3->L<=6->(∀ew bf H',f' D H' x dx ew bf Z L->Kp (·=x) H H'->Q .non H')->pD D vs H Q E
abbrev xw:Stmt:=inClass (top 39) 0
theorem pL:aF ["self","facts","length","i"] ["self","facts","length"] (az xw):=⟨rfl,rfl,rfl,by decide +kernel,rfl,by decide +kernel,by decide +kernel⟩
theorem Av{f:Addr}{fd:FuncData}(F:Fun K "__init__" "Ways.__init__" xw f fd)(T:Txt K mg D)(sL:Mt P w K mg base D.aY "ways_with_fact" 1 ["self","i"] (px D)):
  bw P w K mg base CX0 2 f fd ["self","facts","length"] (pD D):=by
 refine F.ok pL (λvs H Q E h=>?_) (λcdv A outer s H vs Q E hr h=>?_)
 ·obtain⟨x,dx,Z,L,rfl,_⟩:=h;rfl
 obtain⟨x,dx,Z,L,rfl,hx,h3,h6,q⟩:=h;refine⟨_,(ae (bb (pv 0) (pv 1) rfl)
   (ae (bb (pv 0) (pv 2) rfl)
   (ae (bb (pv 0) (aP (ES rfl) rfl T.min J5 (aa (pv 2) (aa (a9 T.Cy) ag))) rfl)
   (ae (bb (pv 0) (aI dh (pv 2) (au (pv 0) rfl)) rfl)
   (ae (bb (pv 0) (aI iD ao (aI B6 (pv 1) (au (pv 0) rfl))) rfl)
   (ae (bb (pv 0) (aI iD ao (aI B6 (pv 1) (au (pv 0) rfl))) rfl)
   (ae (bb (pv 0) (aI dh (aI iD ao (au (pv 0) rfl)) ao) rfl)
   (ae (bb (pv 0) (du (aI kz (aV (aa (au (pv 0) rfl) ag)) (au (pv 0) rfl))) rfl)
   (ai (bb (pv 0) (du (fI rfl pL.nd (fA rfl T.range (aa (pv 1) ag)) (cU (own:=[("i",3)]) (by rfl)) (λ_ _ _ _ _=>(aL (i:=3) pL.nd rfl (Or.inl rfl))) (λ_ _ _ _ _=>dH) (λ_ _ _ _ _=>(bZ (pv 0) sL hr (aa (pv 3) ag))))) rfl)))))))))),?_⟩
 have tl5:=pq h3 h6;have hcl:=DA h3 L;have hl3:hl L<=3:=Nat.min_le_right _ _;have tl3:tl L<=3:=by unfold tl hl;omega
 have m1:Z*hl L<=9:=QD h3 hl3;have m2:Z*tl L<=9:=QD h3 tl3;refine⟨_,rfl,_,rfl,x,D.aY,dx,_,rfl,hx,T.bU,T.kE,(by show 0<1000;decide),?_⟩;refine⟨_,rfl,_,rfl,x,D.aY,dx,_,rfl,af,T.bU,T.FO,(by show 1<1000;decide),?_⟩;generalize hH2:upd (upd H x _) x _=H2;have k2:Kp (·=x) H H2:=by rw[<-hH2];exact aJ.trans aJ
 have e2:H2 x=some (.ins D.aY dx (wi2 Z L)):=by rw[<-hH2,af];rfl
 clear hH2;refine⟨_,rfl,_,_,rfl,_,rfl,x,D.aY,dx,_,rfl,e2,T.bU,T.jg,(by show 2<1000;decide),?_⟩;generalize hH3:upd H2 x _=H3;have k3:Kp (·=x) H H3:=by rw[<-hH3];exact k2.trans aJ
 have e3:H3 x=some (.ins D.aY dx (wi3 Z L)):=by
  rw[<-hH3,af];refine congrArg (λz:Int=>some (HO.ins D.aY dx [("facts",nv Z),("length",nv L),("head_length",V.int z)])) ?_;unfold hl;split<;>omega
 clear hH3;refine⟨_,rfl,_,rfl,x,D.aY,dx,_,_,rfl,e3,T.bU,T.jg,rfl,_,_,rfl,rfl,_,rfl,x,D.aY,dx,_,rfl,e3,T.bU,T.gD,(by show 3<1000;decide),?_⟩;generalize hH4:upd H3 x _=H4;have k4:Kp (·=x) H H4:=by rw[<-hH4];exact k3.trans aJ
 have e4:H4 x=some (.ins D.aY dx (wi4 Z L)):=by
  rw[<-hH4,af];refine congrArg (λz:Int=>some (HO.ins D.aY dx [("facts",nv Z),("length",nv L),("head_length",nv (hl L)),("tail_length",V.int z)])) ?_;unfold tl hl;omega
 clear hH4;refine⟨_,rfl,_,rfl,x,D.aY,dx,_,_,rfl,e4,T.bU,T.jg,rfl,_,_,rfl,rfl,.inl ⟨by omega,by omega⟩,_,((Z*hl L:Nat):Int),rfl,congrArg V.int (Int.natCast_mul _ _).symm,tI (by omega),_,rfl,x,D.aY,dx,_,rfl,e4,T.bU,T.kH,(by show 4<1000;decide),?_⟩;generalize hH5:upd H4 x _=H5;have k5:Kp (·=x) H H5:=by rw[<-hH5];exact k4.trans aJ
 have e5:H5 x=some (.ins D.aY dx (wi5 Z L)):=by
  rw[<-hH5,af];exact congrArg (λz:Int=>some (HO.ins D.aY dx [("facts",nv Z),("length",nv L),("head_length",nv (hl L)),("tail_length",nv (tl L)),("head_count",V.int z)])) (iZ _)
 clear hH5;refine⟨_,rfl,_,rfl,x,D.aY,dx,_,_,rfl,e5,T.bU,T.gD,rfl,_,_,rfl,rfl,.inl ⟨by omega,by omega⟩,_,((Z*tl L:Nat):Int),rfl,congrArg V.int (Int.natCast_mul _ _).symm,tI (by omega),_,rfl,x,D.aY,dx,_,rfl,e5,T.bU,T.kF,(by show 5<1000;decide),?_⟩;generalize hH6:upd H5 x _=H6;have k6:Kp (·=x) H H6:=by rw[<-hH6];exact k5.trans aJ
 have e6:H6 x=some (.ins D.aY dx (wi6 Z L)):=by
  rw[<-hH6,af];exact congrArg (λz:Int=>some (HO.ins D.aY dx [("facts",nv Z),("length",nv L),("head_length",nv (hl L)),("tail_length",nv (tl L)),("head_count",nv (hc Z L)),("tail_count",V.int z)])) (iZ _)
 clear hH6;refine⟨_,rfl,x,D.aY,dx,_,_,rfl,e6,T.bU,T.kH,rfl,_,_,rfl,rfl,tI (by omega),((2^hc Z L:Nat):Int),_,congrArg V.int (iZ _),rfl,_,rfl,x,D.aY,dx,_,rfl,e6,T.bU,T.jK,(by show 6<1000;decide),?_⟩;generalize hH7:upd H6 x _=H7;have k7:Kp (·=x) H H7:=by rw[<-hH7];exact k6.trans aJ
 have e7:H7 x=some (.ins D.aY dx (wi7 Z L)):=by
  rw[<-hH7,af];exact congrArg (λz:Int=>some (HO.ins D.aY dx [("facts",nv Z),("length",nv L),("head_length",nv (hl L)),("tail_length",nv (tl L)),("head_count",nv (hc Z L)),("tail_count",nv (tcn Z L)),("all_heads",V.int z)])) (sub_int _)
 clear hH7;refine⟨_,rfl,x,D.aY,dx,_,_,rfl,e7,T.bU,T.jK,rfl,(by show 1<=sizeLine;decide),λp hp=>⟨_,rfl,x,D.aY,dx,_,_,rfl,(ak hp _) _ _ e7,T.bU,T.kF,rfl,p,_,_,rfl,rfl,af,by omega,by omega,(by rw[Nw,Ny,Q6];exact OI (i8 tl5)),λr hr0=>?_⟩⟩;have s8:aw H7 (upd H7 p (.lst [nv (2^hc Z L-1)])):=ak hp _;have hr7:H7 r=none:=s8.free hr0;refine⟨r,_,af,trivial,λod=>?_⟩;generalize hH8:upd (upd (upd H7 p _) r _) r _=H8;have s8':aw H7 H8:=by rw[<-hH8];exact λb o z=>by rw[aB (ax z hr7),aB (ax z hr7)];exact s8 _ _ z
 have t8:bR H8 r (setOf Z L λ_=>true):=by
  have:=Fp (tcn Z L) (2^hc Z L-1);rw[Eb]at this;exact⟨od,by rw[<-hH8,af,Nw];exact congrArg (λz=>some (HO.frz od (HO.lst z))) this⟩
 clear hH8;have e8:=s8' _ _ e7;refine⟨_,rfl,x,D.aY,dx,_,rfl,e8,T.bU,T.xG,(by show 7<1000;decide),?_⟩;generalize hH9:upd H8 x _=H9;have k89:Kp (·=x) H8 H9:=by rw[<-hH9];exact aJ
 have k9:Kp (·=x) H H9:=(k7.trans (aw.kp s8')).trans k89;have e9:H9 x=some (.ins D.aY dx (wa8 Z L r)):=by rw[<-hH9,af];rfl
 have t9:bR H9 r (setOf Z L λ_=>true):=t8.kp (D:=D) (bh e8 (nk rfl rfl)) k89;clear hH9;refine⟨_,rfl,((Z:Nat):Int),rfl,FW _,Gb (by omega),λp2 hp2=>FZ (lo:=0) (n:=((Z:Nat):Int).toNat) (λi H'=>aw H9 H'/\∃as:List Addr,H' p2=some (.lst (as.map V.ref))/\as.length=i/\∀(j:Nat)(a:Addr),as[j]?=some a->bR H' a (setOf Z L (ji j))) ⟨ak hp2 _,[],af,rfl,λj a z=>by simp at z⟩ ?_ ?_⟩
 ·rintro i H' hi ⟨s1,as,a1,a2,a3⟩;rw[Nw]at hi;rw[P2];refine⟨rfl,lcT ?_⟩;refine⟨_,rfl,x,dx,_,rfl,s1 _ _ e9,rfl,_,rfl,x,dx,r,Z,L,i,rfl,s1 _ _ e9,h3,h6,hi,λr4 H4 s4 t4=>⟨_,s4 _ _ a1,?_,?_,as++[r4],?_,?_,?_⟩⟩
  ·rw[Nf,a2];exact bx (by omega)
  ·exact λb o z=>by rw[aB (ax z hp2)];exact s4 _ _ (s1 _ _ z)
  ·rw[af,NS];rfl
  ·rw[Nk,a2];rfl
  ·have lo:Loose D H4 (·=p2):=bX (s4 _ _ a1);intro j a ja;by_cases hj:j<as.length
   ·rw[NJ hj]at ja;exact((a3 j a ja).same s4).kp lo aJ
   ·rw[NM (by omega)]at ja;have ej:j=as.length:=by
     have:=(Nh.mp ja).1;rw[Ny]at this;omega
    subst ej;rw[OF]at ja;cases ja;rw[a2];exact t4.kp lo aJ
 ·rintro H' ⟨s1,as,a1,a2,a3⟩;rw[Nw]at a2;refine⟨p2,_,a1,trivial,λod=>?_⟩;have s10:aw H9 (upd H' p2 (.frz od (.lst (as.map V.ref)))):=λb o z=>by rw[aB (ax z hp2)];exact s1 _ _ z
  have lo:Loose D H' (·=p2):=bX a1;have npx:p2≠x:=λz=>by rw[z,e9]at hp2;cases hp2
  refine⟨_,rfl,x,D.aY,dx,_,rfl,s10 _ _ e9,T.bU,T.Dl,(by show 8<1000;decide),?_⟩;generalize EH:upd (upd H' p2 _) x _=H11;have lx:Loose D (upd H' p2 (.frz od (.lst (as.map V.ref)))) (·=x):=bh (s10 _ _ e9) (nk rfl rfl);have k11:Kp (·=x) (upd H' p2 (.frz od (.lst (as.map V.ref)))) H11:=by rw[<-EH];exact aJ
  refine q r p2 H11 ⟨by rw[<-EH,af];rfl,(t9.same s10).kp lx k11,od,as,k11 _ _ af npx,a2,λj a ja=>((a3 j a ja).kp lo aJ).kp lx k11⟩ ((k9.trans (aw.kp s10)).trans k11)
end
variable{n:Int}
theorem kY{a:Int}{A B:Prop}(h:a=n)(x:A):if decide (V.int a=V.int n)=true then A else B:=by rw[Nz (eqI.mpr h)];exact x
theorem kN{a:Int}{A B:Prop}(h:a≠n)(x:B):if decide (V.int a=V.int n)=true then A else B:=by rw[Nt (λz=>h (eqI.mp z))];exact x
inductive PW(H:Hp)(hs:List V)(rm:Addr)(Z L:Nat):Pt->(List Nat->Bool)->Prop
 |yes {n x y:Nat}:PW H hs rm Z L ⟨0,n,x,y⟩ λ_=>true
 |fact {n x y:Nat}:n<Z->PW H hs rm Z L ⟨1,n,x,y⟩ (ji n)
 |not {n x y:Nat} {a:Addr} {S:List Nat->Bool}:atI hs (x:Nat)=some (.ref a)->bR H a (setOf Z L S)->PW H hs rm Z L ⟨2,n,x,y⟩ λp=>!S p
 |and {n x y:Nat} {a b:Addr} {S T:List Nat->Bool}:atI hs (x:Nat)=some (.ref a)->bR H a (setOf Z L S)->atI hs (y:Nat)=some (.ref b)->bR H b (setOf Z L T)->PW H hs rm Z L ⟨3,n,x,y⟩ λp=>S p&&T p
 |or {n x y:Nat} {a b:Addr} {S T:List Nat->Bool}:atI hs (x:Nat)=some (.ref a)->bR H a (setOf Z L S)->atI hs (y:Nat)=some (.ref b)->bR H b (setOf Z L T)->PW H hs rm Z L ⟨4,n,x,y⟩ λp=>S p||T p
 |before {n x y:Nat} {S:List Nat->Bool}:bR H rm (setOf Z L S)->PW H hs rm Z L ⟨5,n,x,y⟩ S
 |since {n x y:Nat} {a b:Addr} {S T U:List Nat->Bool}:atI hs (x:Nat)=some (.ref a)->bR H a (setOf Z L S)->atI hs (y:Nat)=some (.ref b)->bR H b (setOf Z L T)->bR H rm (setOf Z L U)->PW H hs rm Z L ⟨6,n,x,y⟩ λp=>T p||(S p&&U p)
section
variable{P:Program}{w:World}{K:Rt}{mg:Ru}{base:Heap}{D:Ad}
inductive pH(K:Rt)(D:Ad)(vs:List V)(H:Hp)(Q:VK)(E:XK):Prop
 |mk (pa p hl hs rm b dx ew bf Z L S:_):vs=[.ref pa,.ref hl,.ref rm,.ref b]->cX D H pa p->SqL K H hl hs->f' D H b dx ew bf Z L->Z<=3->L<=6->PW H hs rm Z L p S->(∀r H',aw H H'->bR H' r (setOf Z L S)->Q (.ref r) H')->pH K D vs H Q E
abbrev gQ:Stmt:=top 40
theorem aK:aF ["part","holds","remembered","ways","first","f","second","g","since"] ["part","holds","remembered","ways"] (az gQ):=⟨rfl,rfl,rfl,by decide +kernel,rfl,by decide +kernel,by decide +kernel⟩
theorem jw{f:Addr}{fd:FuncData}(F:Fun K "ways_where_part_holds" "ways_where_part_holds" gQ f fd)(T:Txt K mg D):bw P w K mg base CX0 1 f fd ["part","holds","remembered","ways"] (pH K D):=by
 refine F.ok aK (λvs H Q E h=>?_) (λcdv A outer s H vs Q E hr h=>?_)
 ·obtain⟨pa,p,hl,hs,rm,b,dx,ew,bf,Z,L,S,rfl,_⟩:=h;rfl
 obtain⟨pa,p,hol,hs,rm,b,dx,ew,bf,Z,L,S,rfl,⟨pdx,hp⟩,sq,wa,h3,h6,pw,q⟩:=h;refine⟨_,(ae (aW (aH bH (au (pv 0) rfl) (a9 T.HR) (aU _)) (ai (aA (au (pv 3) rfl))) aD)
   (ae (aW (aH bH (au (pv 0) rfl) (a9 T.DC) (aU _)) (ai (aA (aS aE (au (pv 3) rfl) (au (pv 0) rfl) (λ_ _=>rfl)))) aD)
   (ae (aW (aH bH (au (pv 0) rfl) (a9 T.uB) (aU _)) (ai (aA (pv 2))) aD)
   (ae (aG (i:=4) aK.nd rfl (Or.inl rfl) (aS aE (pv 1) (au (pv 0) rfl) (λ_ _=>rfl)))
   (ae (aW (aH bH (au (pv 0) rfl) (a9 T.JV) (aU _)) (ai (aA (du (fI rfl aK.nd (gq (pv 4)) (cU (own:=[("f",5)]) (by rfl)) (λ_ _ _ _ _=>(aL (i:=5) aK.nd rfl (Or.inl rfl))) (λ_ _ _ _ _=>dH) (λ_ _ _ _ _=>(aI B5 (au (pv 3) rfl) (pv 5))))))) aD)
   (ae (aG (i:=6) aK.nd rfl (Or.inl rfl) (aS aE (pv 1) (au (pv 0) rfl) (λ_ _=>rfl)))
   (ae (aW (aH bH (au (pv 0) rfl) (a9 T.Gh) (aU _)) (ai (aA (du (fI rfl aK.nd (B2 rfl T.zip (aa (pv 4) (aa (pv 6) ag))) (cU (own:=[("f",5),("g",7)]) (by rfl)) (λ_ _ _ _ _=>(gN (n:=2) rfl (bt (aL (i:=5) aK.nd rfl (Or.inl rfl)) (bt (aL (i:=7) aK.nd rfl (Or.inl rfl)) eZ)))) (λ_ _ _ _ _=>dH) (λ_ _ _ _ _=>(aI fg (pv 5) (pv 7))))))) aD)
   (ae (aW (aH bH (au (pv 0) rfl) (a9 T.DD) (aU _)) (ai (aA (du (fI rfl aK.nd (B2 rfl T.zip (aa (pv 4) (aa (pv 6) ag))) (cU (own:=[("f",5),("g",7)]) (by rfl)) (λ_ _ _ _ _=>(gN (n:=2) rfl (bt (aL (i:=5) aK.nd rfl (Or.inl rfl)) (bt (aL (i:=7) aK.nd rfl (Or.inl rfl)) eZ)))) (λ_ _ _ _ _=>dH) (λ_ _ _ _ _=>(aI xF (pv 5) (pv 7))))))) aD)
   (ai (aA (du (fI rfl aK.nd (Dd rfl T.zip (aa (pv 4) (aa (pv 6) (aa (pv 2) ag)))) (cU (own:=[("f",5),("g",7),("since",8)]) (by rfl)) (λ_ _ _ _ _=>(gN (n:=3) rfl (bt (aL (i:=5) aK.nd rfl (Or.inl rfl)) (bt (aL (i:=7) aK.nd rfl (Or.inl rfl)) (bt (aL (i:=8) aK.nd rfl (Or.inl rfl)) eZ))))) (λ_ _ _ _ _=>dH) (λ_ _ _ _ _=>(aI xF (pv 7) (aI fg (pv 5) (pv 8)))))))))))))))),?_⟩
 have tl5:=pq h3 h6;have few:∀U,(nvs (setOf Z L U)).length<sizeLine:=λU=>by rw[Nf,g8];exact i8 tl5
 have ln:∀U,(nvs (setOf Z L U)).length=tcn Z L:=λU=>by rw[Nf,g8]
 obtain⟨bo,as,hbf,asl,hfs⟩:=wa.facts;cases pw with
 |yes=>
  refine⟨_,rfl,pa,D.part,pdx,_,_,rfl,hp,T.aN,T.bq,rfl,rfl,_,rfl,kY rfl ?_⟩;exact⟨_,rfl,b,D.aY,dx,_,_,rfl,wa.self,T.bU,T.xG,rfl,q ew H (aw.refl _) wa.IL⟩
 |@fact n x y hn=>
  refine⟨_,rfl,pa,D.part,pdx,_,_,rfl,hp,T.aN,T.bq,rfl,rfl,_,rfl,kN (by simp) ?_⟩;refine⟨_,rfl,pa,D.part,pdx,_,_,rfl,hp,T.aN,T.bq,rfl,rfl,_,rfl,kY rfl ?_⟩;obtain⟨a,ha⟩:∃a,as[n]?=some a:=⟨_,Ng (by rw[asl];exact hn)⟩;exact⟨_,rfl,b,D.aY,dx,_,_,rfl,wa.self,T.bU,T.Dl,rfl,_,rfl,pa,D.part,pdx,_,_,rfl,hp,T.aN,T.ur,rfl,bf,_,_,.ref a,rfl,rfl,.inl (.inr ⟨bo,hbf⟩),bg (by rw[NC,ha];rfl),q a H (aw.refl _) (hfs n a ha)⟩
 |before hm=>
  refine⟨_,rfl,pa,D.part,pdx,_,_,rfl,hp,T.aN,T.bq,rfl,rfl,_,rfl,kN (by simp) ?_⟩;refine⟨_,rfl,pa,D.part,pdx,_,_,rfl,hp,T.aN,T.bq,rfl,rfl,_,rfl,kN (by simp) ?_⟩;refine⟨_,rfl,pa,D.part,pdx,_,_,rfl,hp,T.aN,T.bq,rfl,rfl,_,rfl,kY rfl ?_⟩;exact⟨_,rfl,q rm H (aw.refl _) hm⟩
 |@not n x y a S1 ha sa=>
  refine⟨_,rfl,pa,D.part,pdx,_,_,rfl,hp,T.aN,T.bq,rfl,rfl,_,rfl,kN (by simp) ?_⟩;refine⟨_,rfl,pa,D.part,pdx,_,_,rfl,hp,T.aN,T.bq,rfl,rfl,_,rfl,kN (by simp) ?_⟩;refine⟨_,rfl,pa,D.part,pdx,_,_,rfl,hp,T.aN,T.bq,rfl,rfl,_,rfl,kN (by simp) ?_⟩;refine⟨_,rfl,_,rfl,pa,D.part,pdx,_,_,rfl,hp,T.aN,T.fh,rfl,hol,hs,_,_,rfl,rfl,sq,ha,?_⟩;refine⟨_,rfl,pa,D.part,pdx,_,_,rfl,hp,T.aN,T.bq,rfl,rfl,_,rfl,kY rfl ?_⟩;refine⟨_,rfl,a,rfl,⟨_,sa.seq⟩,λr hr0=>vN (K:=K) (a:=a) (xs:=nvs (setOf Z L S1)) (nvs (setOf Z L λp=>!S1 p)) sa.seq (by rw[ln,ln]) hr0 (few _) ?_ ?_⟩
  ·rintro i u v H' hu hv s1 R R2 hR;obtain⟨hi,rfl⟩:=bI hv;obtain⟨_,rfl⟩:=bI hu;refine⟨rfl,lcT ?_⟩;refine⟨_,rfl,b,D.aY,dx,_,_,rfl,s1 _ _ wa.self,T.bU,T.jK,rfl,_,rfl,_,_,rfl,rfl,?_⟩;have:=hR _ (aw.refl H');have e:V.int (Builtin.bitXor ((2^hc Z L-1:Nat):Int) ((elt Z L S1 i:Nat):Int))=nv (elt Z L (λp=>!S1 p) i):=by rw[yc,ze]
   rw[<-e]at this;exact this
  ·exact λH' s1 e1=>i9 hr0 s1 e1 λH2 s2 t2=>q r H2 s2 t2
 |@and n x y a a2 S1 S2 ha sa ha2 sa2=>
  refine⟨_,rfl,pa,D.part,pdx,_,_,rfl,hp,T.aN,T.bq,rfl,rfl,_,rfl,kN (by simp) ?_⟩;refine⟨_,rfl,pa,D.part,pdx,_,_,rfl,hp,T.aN,T.bq,rfl,rfl,_,rfl,kN (by simp) ?_⟩;refine⟨_,rfl,pa,D.part,pdx,_,_,rfl,hp,T.aN,T.bq,rfl,rfl,_,rfl,kN (by simp) ?_⟩;refine⟨_,rfl,_,rfl,pa,D.part,pdx,_,_,rfl,hp,T.aN,T.fh,rfl,hol,hs,_,_,rfl,rfl,sq,ha,?_⟩;refine⟨_,rfl,pa,D.part,pdx,_,_,rfl,hp,T.aN,T.bq,rfl,rfl,_,rfl,kN (by simp) ?_⟩;refine⟨_,rfl,_,rfl,pa,D.part,pdx,_,_,rfl,hp,T.aN,T.gu,rfl,hol,hs,_,_,rfl,rfl,sq,ha2,?_⟩;refine⟨_,rfl,pa,D.part,pdx,_,_,rfl,hp,T.aN,T.bq,rfl,rfl,_,rfl,kY rfl ?_⟩;refine⟨_,rfl,_,rfl,a,a2,_,_,rfl,sa.seq,sa2.seq,λr hr0=>qT (K:=K) (a:=a) (b:=a2) (xs:=nvs (setOf Z L S1)) (ys:=nvs (setOf Z L S2)) (nvs (setOf Z L λp=>S1 p&&S2 p)) sa.seq sa2.seq (by rw[ln,ln]) (by rw[ln,ln]) hr0 (few _) ?_ ?_⟩
  ·rintro i u v v2 T0 H' hu hv hv2 s1 hT0 R R2 hR;obtain⟨hi,rfl⟩:=bI hv;obtain⟨_,rfl⟩:=bI hv2;obtain⟨_,rfl⟩:=bI hu;refine⟨T0,_,rfl,SqT.of af,rfl,_,_,rfl,_,_,rfl,rfl,rfl,lcT ?_⟩;refine⟨_,rfl,_,rfl,_,_,rfl,rfl,?_⟩;have:=hR _ (ak hT0 (.tup [nv (elt Z L S1 i),nv (elt Z L S2 i)]));have e:V.int (Builtin.bitAnd ((elt Z L S1 i:Nat):Int) ((elt Z L S2 i:Nat):Int))=nv (elt Z L (λp=>S1 p&&S2 p) i):=by rw[fc,nR Z L S1 S2 hi]
   rw[<-e]at this;exact this
  ·exact λH' s1 e1=>i9 hr0 s1 e1 λH2 s2 t2=>q r H2 s2 t2
 |@or n x y a a2 S1 S2 ha sa ha2 sa2=>
  refine⟨_,rfl,pa,D.part,pdx,_,_,rfl,hp,T.aN,T.bq,rfl,rfl,_,rfl,kN (by simp) ?_⟩;refine⟨_,rfl,pa,D.part,pdx,_,_,rfl,hp,T.aN,T.bq,rfl,rfl,_,rfl,kN (by simp) ?_⟩;refine⟨_,rfl,pa,D.part,pdx,_,_,rfl,hp,T.aN,T.bq,rfl,rfl,_,rfl,kN (by simp) ?_⟩;refine⟨_,rfl,_,rfl,pa,D.part,pdx,_,_,rfl,hp,T.aN,T.fh,rfl,hol,hs,_,_,rfl,rfl,sq,ha,?_⟩;refine⟨_,rfl,pa,D.part,pdx,_,_,rfl,hp,T.aN,T.bq,rfl,rfl,_,rfl,kN (by simp) ?_⟩;refine⟨_,rfl,_,rfl,pa,D.part,pdx,_,_,rfl,hp,T.aN,T.gu,rfl,hol,hs,_,_,rfl,rfl,sq,ha2,?_⟩;refine⟨_,rfl,pa,D.part,pdx,_,_,rfl,hp,T.aN,T.bq,rfl,rfl,_,rfl,kN (by simp) ?_⟩;refine⟨_,rfl,pa,D.part,pdx,_,_,rfl,hp,T.aN,T.bq,rfl,rfl,_,rfl,kY rfl ?_⟩;refine⟨_,rfl,_,rfl,a,a2,_,_,rfl,sa.seq,sa2.seq,λr hr0=>qT (K:=K) (a:=a) (b:=a2) (xs:=nvs (setOf Z L S1)) (ys:=nvs (setOf Z L S2)) (nvs (setOf Z L λp=>S1 p||S2 p)) sa.seq sa2.seq (by rw[ln,ln]) (by rw[ln,ln]) hr0 (few _) ?_ ?_⟩
  ·rintro i u v v2 T0 H' hu hv hv2 s1 hT0 R R2 hR;obtain⟨hi,rfl⟩:=bI hv;obtain⟨_,rfl⟩:=bI hv2;obtain⟨_,rfl⟩:=bI hu;refine⟨T0,_,rfl,SqT.of af,rfl,_,_,rfl,_,_,rfl,rfl,rfl,lcT ?_⟩;refine⟨_,rfl,_,rfl,_,_,rfl,rfl,?_⟩;have:=hR _ (ak hT0 (.tup [nv (elt Z L S1 i),nv (elt Z L S2 i)]));have e:V.int (Builtin.bitOr ((elt Z L S1 i:Nat):Int) ((elt Z L S2 i:Nat):Int))=nv (elt Z L (λp=>S1 p||S2 p) i):=by rw[kx,BC]
   rw[<-e]at this;exact this
  ·exact λH' s1 e1=>i9 hr0 s1 e1 λH2 s2 t2=>q r H2 s2 t2
 |@since n x y a a2 S1 S2 S3 ha sa ha2 sa2 sa3=>
  refine⟨_,rfl,pa,D.part,pdx,_,_,rfl,hp,T.aN,T.bq,rfl,rfl,_,rfl,kN (by simp) ?_⟩;refine⟨_,rfl,pa,D.part,pdx,_,_,rfl,hp,T.aN,T.bq,rfl,rfl,_,rfl,kN (by simp) ?_⟩;refine⟨_,rfl,pa,D.part,pdx,_,_,rfl,hp,T.aN,T.bq,rfl,rfl,_,rfl,kN (by simp) ?_⟩;refine⟨_,rfl,_,rfl,pa,D.part,pdx,_,_,rfl,hp,T.aN,T.fh,rfl,hol,hs,_,_,rfl,rfl,sq,ha,?_⟩;refine⟨_,rfl,pa,D.part,pdx,_,_,rfl,hp,T.aN,T.bq,rfl,rfl,_,rfl,kN (by simp) ?_⟩;refine⟨_,rfl,_,rfl,pa,D.part,pdx,_,_,rfl,hp,T.aN,T.gu,rfl,hol,hs,_,_,rfl,rfl,sq,ha2,?_⟩;refine⟨_,rfl,pa,D.part,pdx,_,_,rfl,hp,T.aN,T.bq,rfl,rfl,_,rfl,kN (by simp) ?_⟩;refine⟨_,rfl,pa,D.part,pdx,_,_,rfl,hp,T.aN,T.bq,rfl,rfl,_,rfl,kN (by simp) ?_⟩;refine⟨_,rfl,_,rfl,_,rfl,a,a2,rm,_,_,_,rfl,sa.seq,sa2.seq,sa3.seq,λr hr0=>xM (K:=K) (a:=a) (b:=a2) (c:=rm) (xs:=nvs (setOf Z L S1)) (ys:=nvs (setOf Z L S2)) (zs:=nvs (setOf Z L S3)) (nvs (setOf Z L λp=>S2 p||(S1 p&&S3 p))) sa.seq sa2.seq sa3.seq (by rw[ln,ln]) (by rw[ln,ln]) (by rw[ln,ln]) hr0 (few _) ?_ ?_⟩
  ·rintro i u v v2 v3 T0 H' hu hv hv2 hv3 s1 hT0 R R2 hR;obtain⟨hi,rfl⟩:=bI hv;obtain⟨_,rfl⟩:=bI hv2;obtain⟨_,rfl⟩:=bI hv3;obtain⟨_,rfl⟩:=bI hu;refine⟨T0,_,rfl,SqT.of af,rfl,_,_,rfl,_,_,rfl,_,_,rfl,rfl,rfl,lcT ?_⟩;have ea:Builtin.bitAnd ((elt Z L S1 i:Nat):Int) ((elt Z L S3 i:Nat):Int)=((elt Z L (λp=>S1 p&&S3 p) i:Nat):Int):=by rw[fc,nR Z L S1 S3 hi]
   refine⟨_,rfl,_,rfl,_,rfl,_,_,rfl,rfl,_,((elt Z L (λp=>S1 p&&S3 p) i:Nat):Int),rfl,congrArg V.int ea,?_⟩;have:=hR _ (ak hT0 (.tup [nv (elt Z L S1 i),nv (elt Z L S2 i),nv (elt Z L S3 i)]));have e:V.int (Builtin.bitOr ((elt Z L S2 i:Nat):Int) ((elt Z L (λp=>S1 p&&S3 p) i:Nat):Int))=nv (elt Z L (λp=>S2 p||(S1 p&&S3 p)) i):=by rw[kx,BC]
   rw[<-e]at this;exact this
  ·exact λH' s1 e1=>i9 hr0 s1 e1 λH2 s2 t2=>q r H2 s2 t2
end
open Vbtaak (F sound size past)
theorem GW{facts:Nat}:∀f:F,Rdg.wf facts f=true->∀g∈Rdg.subs f,Rdg.wf facts g=true:=by
 intro f;induction f with
 |yes|fact _|turn=>intro h g hg;rw[Nu.mp hg];exact h
 |not a ih|before a ih|next a ih=>intro h g hg;rcases ND.mp hg with rfl|hg;exact h;exact ih h g hg
 |within n a ih=>
  intro h g hg;rcases ND.mp hg with rfl|hg
  ·exact h
  ·exact ih (Ot.mp h).2 g hg
 |and a b iha ihb|or a b iha ihb|since a b iha ihb|«until» a b iha ihb=>
  intro h g hg;have h2:=Ot.mp h;rcases ND.mp hg with rfl|hg
  ·exact h
  ·rcases Np.mp hg with hg|hg
   ·exact iha h2.1 g hg
   ·exact ihb h2.2 g hg
structure Pk(Z:Nat)(f:F):Prop where
 fa:Z<=3
 wf:Rdg.wf Z f=true
 ps:past f=true
 sz:size f<=12
variable{f:F}
theorem Pk.rep(h:Pk Z f):Mir.Rep (Rdg.pts 0 f) (Rdg.subs f):=Rdg.yt h.wf (Rdg.ku f h.ps)
theorem Pk.ok(h:Pk Z f):dz (Rdg.pts 0 f):=Rdg.BZ h.wf h.sz
def ub(K:Rt)(D:Ad)(H:Hp)(a:Addr)(f:F)(c:List Nat)(Z L:Nat):Prop:=∃dx l m ms,H a=some (.ins D.iQ dx (foF l m))/\bF K D H l (Rdg.pts 0 f)/\Frz H l/\H m=some (.tup ms)/\ms.length=(Rdg.pts 0 f).length/\
 ∀(i:Nat)(p:Pt)(g:F),(Rdg.pts 0 f)[i]?=some p->(Rdg.subs f)[i]?=some g->p.kind=5∨p.kind=6->∃r,ms[i]?=some (.ref r)/\bR H r (setOf Z L (mS c g))
theorem ub.kp{K:Rt}{D:Ad}{S:Addr->Prop}{H H':Hp}{a:Addr}{f:F}{c:List Nat}{Z L:Nat}(h:ub K D H a f c Z L)(lo:Loose D H S)(k:Kp S H H')(n:¬S a):ub K D H' a f c Z L:=by
 obtain⟨dx,l,m,ms,h1,h2,⟨o,u,h3⟩,h4,h5,h6⟩:=h;refine⟨dx,l,m,ms,k _ _ h1 n,lo.parts k h2 ⟨o,u,h3⟩,⟨o,u,lo.frz k _ _ _ h3⟩,lo.tup k _ _ h4,h5,λi p g a1 a2 a3=>?_⟩;obtain⟨r,z1,z2⟩:=h6 i p g a1 a2 a3;exact⟨r,z1,z2.kp lo k⟩
variable{c:List Nat}
theorem ub.same{K:Rt}{D:Ad}(h:ub K D H a f c Z L)(e:aw H H'):ub K D H' a f c Z L:=h.kp (S:=λ_=>False) Loose.none (aw.kp e) id
section
variable{P:Program}{w:World}{K:Rt}{mg:Ru}{base:Heap}{D:Ad}
inductive uN(K:Rt)(D:Ad)(vs:List V)(H:Hp)(Q:VK)(E:XK):Prop
 |mk (x dx fo f c Z:_):vs=[.ref x,.ref fo]->H x=some (.ins D.iQ dx [])->fP K D H fo (Rdg.pts 0 f) (Mir.bA (Rdg.pts 0 f) c)->Pk Z f->(∀H',ub K D H' x f c Z 0->Kp (·=x) H H'->Q .non H')->uN K D vs H Q E
abbrev jc:Stmt:=inClass (top 41) 0
theorem fe:aF ["self","follower","remembered"] ["self","follower"] (az jc):=⟨rfl,rfl,rfl,by decide +kernel,rfl,by decide +kernel,by decide +kernel⟩
theorem oI{f:Addr}{fd:FuncData}(F:Fun K "__init__" "WaysFollower.__init__" jc f fd)(T:Txt K mg D):bw P w K mg base CX0 1 f fd ["self","follower"] (uN K D):=by
 refine F.ok fe (λvs H Q E h=>?_) (λcdv A outer s H vs Q E hr h=>?_)
 ·obtain⟨x,dx,fo,f,c,Z,rfl,_⟩:=h;rfl
 obtain⟨x,dx,fo,f,c,Z,rfl,hx,fol,pk,q⟩:=h;refine⟨_,(ae (bb (pv 0) (au (pv 1) rfl) rfl)
   (ai (bb (pv 0) (ia eX rfl T.tuple nJ (aa (fI rfl fe.nd (Jl (au (pv 1) rfl)) (cU (own:=[("remembered",2)]) (by rfl)) (λ_ _ _ _ _=>(aL (i:=2) fe.nd rfl (Or.inl rfl))) (λ_ _ _ _ _=>dH) (λ_ _ _ _ _=>(du (aV (aa (pv 2) ag))))) ag)) rfl))),?_⟩
 obtain⟨l,m,⟨fdx,hfo⟩,hp,hm,⟨o,u,hl⟩⟩:=fol.ex;have nfx:fo≠x:=bJ hfo hx (by
  intro z;injection z with _ _ z
  cases z)
 have lx:Loose D H (·=x):=bh hx (by decide);refine⟨_,rfl,fo,D.dE,fdx,_,_,rfl,hfo,T.jm,T.vB,rfl,_,rfl,x,D.iQ,dx,_,rfl,hx,T.o8,T.qP,(by show 0<1000;decide),?_⟩;generalize hH1:upd H x _=H1;have k1:Kp (·=x) H H1:=by rw[<-hH1];exact aJ
 have e1:H1 x=some (.ins D.iQ dx [("parts",.ref l)]):=by rw[<-hH1,af];rfl
 clear hH1;have hm1:=lx.tup k1 _ _ hm;have ML:=k1 _ _ hfo nfx;have AI:(Mir.bA (Rdg.pts 0 f) c).length=(Rdg.pts 0 f).length:=fol.ln;have few:=pk.ok.few;refine⟨_,rfl,fo,D.dE,fdx,_,_,rfl,ML,T.jm,T.kG,rfl,m,rfl,⟨_,SqT.of hm1⟩,λr hr0=>JA (K:=K) (a:=m) (xs:=nvs (Mir.bA (Rdg.pts 0 f) c)) (λi H'=>aw H1 H'/\∃as:List Addr,H' r=some (.lst (as.map V.ref))/\as.length=i/\∀(j:Nat)(a:Addr),as[j]?=some a->bR H' a [(Mir.bA (Rdg.pts 0 f) c).getD j 0]) ⟨ak hr0 _,[],af,rfl,λj a z=>by simp at z⟩ (λi H' _ ⟨s1,_⟩=>SqT.of (s1 _ _ hm1)) ?_ ?_⟩
 ·rintro i y H' hy ⟨s1,as,a1,a2,a3⟩;have hi:i<(Mir.bA (Rdg.pts 0 f) c).length:=by
   have:=(Nh.mp hy).1;rw[Nf]at this;exact this
  have ey:y=nv ((Mir.bA (Rdg.pts 0 f) c).getD i 0):=by
   rw[NC,Ng hi]at hy;rw[Nj,Ng hi];exact(Nm hy).symm
  subst ey;refine⟨rfl,lcT ?_⟩;refine⟨_,rfl,(by show 1<=sizeLine;decide),λe he=>⟨e,_,af,trivial,λod=>?_⟩⟩;generalize hH3:upd (upd H' e _) e _=H3;have s3:aw H' H3:=by rw[<-hH3];exact λb o z=>by rw[aB (ax z he),aB (ax z he)];exact z
  have t3:bR H3 e [(Mir.bA (Rdg.pts 0 f) c).getD i 0]:=⟨od,by rw[<-hH3,af];rfl⟩;clear hH3;have lr:Loose D H3 (·=r):=bX (s3 _ _ a1);refine⟨_,s3 _ _ a1,?_,?_,as++[e],?_,?_,?_⟩
  ·rw[Nf,a2];exact bx (by omega)
  ·exact λb o z=>by rw[aB (ax z hr0)];exact s3 _ _ (s1 _ _ z)
  ·rw[af,NS];rfl
  ·rw[Nk,a2];rfl
  ·intro j a ja;by_cases hj:j<as.length
   ·rw[NJ hj]at ja;exact((a3 j a ja).same s3).kp lr aJ
   ·rw[NM (by omega)]at ja;have ej:j=as.length:=by
     have:=(Nh.mp ja).1;rw[Ny]at this;omega
    subst ej;rw[OF]at ja;cases ja;rw[a2];exact t3.kp lr aJ
 ·rintro H' ⟨s1,as,a1,a2,a3⟩;rw[Nf]at a2;refine⟨r,_,rfl,.inl ⟨SqL.of a1,λy hy=>?_⟩⟩;have s2:aw H1 (upd H' y (.tup (as.map V.ref))):=s1.trans (ak hy _);refine⟨_,rfl,x,D.iQ,dx,_,rfl,s2 _ _ e1,T.o8,T.vz,(by show 1<1000;decide),?_⟩;generalize hH4:upd (upd H' y _) x _=H4;have lx2:Loose D (upd H' y (.tup (as.map V.ref))) (·=x):=bh (s2 _ _ e1) (nk rfl rfl);have k4:Kp (·=x) (upd H' y (.tup (as.map V.ref))) H4:=by rw[<-hH4];exact aJ
  have e4:H4 x=some (.ins D.iQ dx (foF l y)):=by rw[<-hH4,af];rfl
  have ke:Kp (·=x) H H4:=(k1.trans (aw.kp s2)).trans k4;refine q H4 ⟨dx,l,y,as.map V.ref,e4,lx.parts ke hp ⟨o,u,hl⟩,⟨o,u,lx.frz ke _ _ _ hl⟩,lx2.tup k4 _ _ af,by rw[Nf,a2,AI],λi p g hp1 hg _=>?_⟩ ke;have hi:i<as.length:=by rw[a2,AI];exact(Nh.mp hp1).1
  refine⟨as[i],by rw[NC,Ng hi];rfl,?_⟩;have t:=((a3 i as[i] (Ng hi)).same (ak hy _)).kp lx2 k4;rw[FQ];have e:(Mir.bA (Rdg.pts 0 f) c).getD i 0=Mir.qR c c.length g:=by
   rw[Mir.iG pk.rep];unfold Mir.jN;exact Mir.getD_map _ hg
  rw[e]at t;exact t
end
section
variable{P:Program}{w:World}{K:Rt}{mg:Ru}{base:Heap}{D:Ad}
def Kg(H:Hp)(hs:List V)(f:F)(c:List Nat)(Z L i:Nat):Prop:=∀(j:Nat)(g:F),i<=j->(Rdg.subs f)[j]?=some g->∃a,hs[j]?=some (.ref a)/\bR H a (setOf Z L (hS c g))
theorem IA{hs:List V}{rm:Addr}{p:Pt}{g:F}(pk:Pk Z f)(hok:Kg H hs f c Z (L+1) (i+1))(hp:(Rdg.pts 0 f)[i]?=some p)(hg:(Rdg.subs f)[i]?=some g)
  (hr:p.kind=5∨p.kind=6->bR H rm (setOf Z (L+1) (dJ (mS c g)))):∃S,PW H hs rm Z (L+1) p S/\setOf Z (L+1) S=setOf Z (L+1) (hS c g):=by
 have nd:=pk.rep.node i p g hp hg;have pg:=Eg f pk.ps g (Nr hg);have wg:=GW f pk.wf g (Nr hg);have ch:∀{x:Nat}{a:F},i<x->(Rdg.subs f)[x]?=some a->∃r,atI hs (x:Nat)=some (.ref r)/\bR H r (setOf Z (L+1) (hS c a)):=λhx ha=>by
  obtain⟨r,z1,z2⟩:=hok _ _ hx ha;exact⟨r,bg z1,z2⟩
 cases nd with
 |yes=>exact⟨_,.yes,dA λp _=>rfl⟩
 |fact=>exact⟨_,.fact (NG wg),dA λp hp=>(HP _ hp).symm⟩
 |not h1 h2=>
  obtain⟨r,z1,z2⟩:=ch h1 h2;exact⟨_,.not z1 z2,dA λp _=>rfl⟩
 |and h1 h2 h3 h4=>
  obtain⟨r,z1,z2⟩:=ch h1 h3;obtain⟨r',y1,y2⟩:=ch h2 h4;exact⟨_,.and z1 z2 y1 y2,dA λp _=>rfl⟩
 |or h1 h2 h3 h4=>
  obtain⟨r,z1,z2⟩:=ch h1 h3;obtain⟨r',y1,y2⟩:=ch h2 h4;exact⟨_,.or z1 z2 y1 y2,dA λp _=>rfl⟩
 |@before n x y a h1 h2=>exact⟨_,.before (hr (.inl rfl)),dA λp hp=>(EG (a:=a) pg hp).symm⟩
 |since h1 h2 h3 h4=>
  obtain⟨r,z1,z2⟩:=ch h1 h3;obtain⟨r',y1,y2⟩:=ch h2 h4;exact⟨_,.since z1 z2 y1 y2 (hr (.inr rfl)),dA λp hp=>(Ge pg hp).symm⟩
 |next=>cases pg
 |til=>cases pg
 |within=>cases pg
theorem Bq(k:Nat):([5,6].any λy=>y==((k:Nat):Int))=true↔k=5∨k=6:=by
 constructor
 ·intro h;obtain⟨y,hy,e⟩:=Oi.mp h;have e:y=((k:Nat):Int):=eq_of_beq e;rcases ND.mp hy with z|z
  ·left;omega
  ·right
   have:=Nu.mp z;omega
 ·rintro(rfl|rfl)<;>rfl
inductive rL(K:Rt)(D:Ad)(vs:List V)(H:Hp)(Q:VK)(E:XK):Prop
 |mk (a b dx ew bf f c Z L:_):vs=[.ref a,.ref b]->ub K D H a f c Z L->f' D H b dx ew bf Z (L+1)->Pk Z f->L<=5->(∀r H',ub K D H' a f c Z (L+1)->bR H' r (setOf Z (L+1) (hS c f))->Kp (·=a) H H'->Q (.ref r) H')->rL K D vs H Q E
abbrev gR:Stmt:=inClass (top 41) 1
theorem b8:aF ["self","ways","holds","i","part","remembered"] ["self","ways"] (az gR):=⟨rfl,rfl,rfl,by decide +kernel,rfl,by decide +kernel,by decide +kernel⟩
theorem vp{f:Addr}{fd:FuncData}(F:Fun K "follow" "WaysFollower.follow" gR f fd)(T:Txt K mg D)(kZ:Fn P w K mg base "looks_back" 1 ["kind"] (rN [5,6]))(lh:Mt P w K mg base D.aY "lengthened" 2 ["self","shorter_ways"] (yl D))
  (j6:Fn P w K mg base "ways_where_part_holds" 1 ["part","holds","remembered","ways"] (pH K D))(eA:Fn P w K mg base "memory_after" 1 ["parts","holds"] (ie K D)):bw P w K mg base CX0 3 f fd ["self","ways"] (rL K D):=by
 refine F.ok b8 (λvs H Q E h=>?_) (λcdv A outer s H vs Q E hr h=>?_)
 ·obtain⟨a,b,dx,ew,bf,f,c,Z,L,rfl,_⟩:=h;rfl
 obtain⟨a,b,bdx,ew,bf,f,c,Z,L,rfl,wf,wa,pk,h5,q⟩:=h;refine⟨_,(ae (aG (i:=2) b8.nd rfl (Or.inl rfl) (aI kz (aV (aa (aV ag) ag)) (aP aC rfl T.len NO (aa (au (pv 0) rfl) ag))))
   (ae (cu NU rfl (fW rfl T.range (aa (aI dh (aP aC rfl T.len NO (aa (au (pv 0) rfl) ag)) ao) (aa (gS eG ao) (aa (gS eG ao) ag)))) (aL (i:=3) b8.nd rfl (Or.inl rfl)) (ae (aG (i:=4) b8.nd rfl (Or.inl rfl) (aS aE (au (pv 0) rfl) (pv 3) (λ_ _=>rfl)))
   (ae (aG (i:=5) b8.nd rfl (Or.inl rfl) (eP (ju (bQ kZ hr (aa (au (pv 4) rfl) ag))) (bZ (pv 1) lh hr (aa (aS eI (au (pv 0) rfl) (pv 3) (λ_ _=>rfl)) ag)) (aV ag)))
   (ai (iz (bQ j6 hr (aa (pv 4) (aa (pv 2) (aa (pv 5) (aa (pv 1) ag))))) (iA (pv 2) (pv 3) set_list))))))
   (ae (bb (pv 0) (bQ eA hr (aa (au (pv 0) rfl) (aa (pv 2) ag))) rfl)
   (ai (aA (aS aE (pv 2) ao (λ_ _=>rfl))))))),?_⟩
 obtain⟨dx,l,m,ms,ha,hpa,⟨lo,lu,hl⟩,hm,msl,hms⟩:=wf;obtain⟨xs,sq,xl,xat⟩:=hpa.at;have ok:=pk.ok;have few:=ok.few;have hlen:(Rdg.subs f).length=(Rdg.pts 0 f).length:=by rw[Rdg.ba,Rdg.aR]
 refine⟨NT _,λe0 he0=>⟨(by show 1<=sizeLine;decide),λz hz=>?_⟩⟩;have s0:aw H (upd (upd H e0 (.lst [])) z (.lst [.ref e0])):=(ak he0 _).trans (ak hz _);refine⟨_,rfl,a,D.iQ,dx,_,_,rfl,s0 _ _ ha,T.o8,T.qP,rfl,l,_,rfl,.inl (s0.seq sq),z,_,_,rfl,rfl,af,(by show(-(2^63):Int)<=(xs.length:Int);omega),(by show(xs.length:Int)<2^63;omega),(by rw[Nw,xl];exact dZ (by rw[Ny];omega)),λr hr0=>?_⟩;generalize hH1:upd (upd (upd H e0 _) z _) r _=H1;have hrH:H r=none:=s0.free hr0;have s1:aw H H1:=by rw[<-hH1];exact s0.trans (ak hr0 _)
 obtain⟨hs0,e1,MC⟩:∃hs0:List V,H1 r=some (.lst hs0)/\hs0.length=(Rdg.pts 0 f).length:=⟨_,by rw[<-hH1];exact af,by rw[len_rep,Nw,xl,Ny,Nat.mul_one]⟩;clear hH1;refine⟨_,rfl,a,D.iQ,dx,_,_,rfl,s1 _ _ ha,T.o8,T.qP,rfl,l,_,rfl,.inl (s1.seq sq),_,_,rfl,rfl,_,rfl,_,rfl,_,_,_,_,rfl,RgC.neg (by omega) (by omega) (by decide) (by decide),?_⟩;have en:((xs.length:Int)-1-(-1)).toNat=(Rdg.pts 0 f).length:=by omega
 rw[show((xs.length:Int)-1 - -1).toNat=(Rdg.pts 0 f).length from en];refine fY (n:=(Rdg.pts 0 f).length) (λk σ H'=>(∃v3 v4 v5:Option V,σ=[some (.ref a),some (.ref b),some (.ref r),v3,v4,v5])/\aw H H'/\∃hs:List V,H' r=some (.lst hs)/\hs.length=(Rdg.pts 0 f).length/\Kg H' hs f c Z (L+1) ((Rdg.pts 0 f).length-k))
  ⟨⟨none,none,none,rfl⟩,s1,hs0,e1,MC,λj g hj hg=>?_⟩ ?_ ?_
 ·have:=(Nh.mp hg).1;omega
 ·rintro k σ H2 hk ⟨⟨v3,v4,v5,rfl⟩,s2,hs,e2,hsl,hok⟩;have hi:(Rdg.pts 0 f).length-1-k<(Rdg.pts 0 f).length:=by omega
  generalize hii:(Rdg.pts 0 f).length-1-k=i at hi;obtain⟨p,hp⟩:∃p,(Rdg.pts 0 f)[i]?=some p:=⟨_,Ng hi⟩;obtain⟨g,hg⟩:∃g,(Rdg.subs f)[i]?=some g:=⟨_,Ng (by omega)⟩;obtain⟨pa,hxa,⟨pdx,hpp⟩⟩:=xat _ p hp;have ME:=s2 _ _ hpp;have ei:(xs.length:Int)-1+(k:Int)*(-1)=((i:Nat):Int):=by omega
  have at_:atI xs ((xs.length:Int)-1+(k:Int)*(-1))=some (.ref pa):=at_of ei hxa;rw[show(Rdg.pts 0 f).length-k=i+1 by omega]at hok;have ixr:ixN hs.length ((xs.length:Int)-1+(k:Int)*(-1))=some i:=by
   rw[hsl,ei];unfold ixN;rw[Nz (by omega),Nz (by omega),Nw]
  have fin:∀(r5:Addr)(H5:Hp),aw H2 H5->bR H5 r5 (setOf Z (L+1) (hS c g))->aw H (upd H5 r (.lst (hs.set i (.ref r5))))/\∃hs':List V,(upd H5 r (.lst (hs.set i (.ref r5)))) r=some (.lst hs')/\hs'.length=(Rdg.pts 0 f).length/\Kg (upd H5 r (.lst (hs.set i (.ref r5)))) hs' f c Z (L+1) ((Rdg.pts 0 f).length-(k+1)):=λr5 H5 s5 t5=>by
   have lr:Loose D H5 (·=r):=bX (s5 _ _ e2);refine⟨λb o z=>by rw[aB (ax z hrH)];exact s5 _ _ (s2 _ _ z),_,af,by rw[PV,hsl],λj g' hj hg'=>?_⟩;rw[show(Rdg.pts 0 f).length-(k+1)=i by omega]at hj;by_cases e:i=j
   ·subst e;have eg:g=g':=Nm (hg.symm.trans hg');subst eg;exact⟨r5,by rw[Oq (by omega)],t5.kp lr aJ⟩
   ·obtain⟨a',z1,z2⟩:=hok j g' (by omega) hg';exact⟨a',by rw[Oy e];exact z1,(z2.same s5).kp lr aJ⟩
  refine⟨_,rfl,a,D.iQ,dx,_,_,rfl,s2 _ _ ha,T.o8,T.qP,rfl,_,rfl,l,_,_,_,rfl,rfl,s2.seq sq,at_,?_⟩;refine⟨_,rfl,pa,D.part,pdx,_,_,rfl,ME,T.aN,T.bq,rfl,_,rfl,λH3 s3=>⟨_,rfl,bD (λz=>?_) (λz=>?_)⟩⟩
  ·have z:=(Bq _).mp z;obtain⟨rs,z1,z2⟩:=hms i p g hp hg z;have s23:=s2.trans s3;have atm:atI ms ((xs.length:Int)-1+(k:Int)*(-1))=some (.ref rs):=by rw[ei];exact bg z1
   refine⟨_,rfl,b,bdx,_,rfl,s23 _ _ wa.self,rfl,_,rfl,a,D.iQ,dx,_,_,rfl,s23 _ _ ha,T.o8,T.vz,rfl,_,rfl,m,_,_,_,rfl,rfl,SqT.of (s23 _ _ hm),atm,b,bdx,ew,bf,Z,L,rs,mS c g,rfl,s23 _ _ wa.self,pk.fa,h5,z2.same s23,λrm H4 s4 t4=>?_⟩;have s24:=s23.trans s4;obtain⟨S,pw,eS⟩:=IA (H:=H4) (rm:=rm) pk (λj g' hj hg'=>let ⟨a',y1,y2⟩:=hok j g' hj hg';⟨a',y1,y2.same (s3.trans s4)⟩) hp hg (λ_=>t4);refine⟨_,rfl,_,rfl,_,rfl,_,rfl,pa,p,r,hs,rm,b,bdx,ew,bf,Z,L+1,S,rfl,⟨pdx,s24 _ _ hpp⟩,SqL.of (s4 _ _ (s3 _ _ e2)),wa.same s24,pk.fa,by omega,pw,λr5 H5 s5 t5=>?_⟩;rw[eS]at t5;refine⟨_,rfl,_,rfl,r,_,_,i,rfl,rfl,s5 _ _ (s4 _ _ (s3 _ _ e2)),ixr,⟨_,_,_,rfl⟩,fin r5 H5 ((s3.trans s4).trans s5) t5⟩
  ·have z:¬(p.kind=5∨p.kind=6):=λy=>z ((Bq _).mpr y);refine⟨NT _,λe4 he4=>?_⟩;have s4:aw H3 (upd H3 e4 (.lst [])):=ak he4 _;have s24:=(s2.trans s3).trans s4;obtain⟨S,pw,eS⟩:=IA (H:=upd H3 e4 (.lst [])) (rm:=e4) pk (λj g' hj hg'=>let ⟨a',y1,y2⟩:=hok j g' hj hg';⟨a',y1,y2.same (s3.trans s4)⟩) hp hg (λy=>absurd y z);refine⟨_,rfl,_,rfl,_,rfl,_,rfl,pa,p,r,hs,e4,b,bdx,ew,bf,Z,L+1,S,rfl,⟨pdx,s24 _ _ hpp⟩,SqL.of (s4 _ _ (s3 _ _ e2)),wa.same s24,pk.fa,by omega,pw,λr5 H5 s5 t5=>?_⟩;rw[eS]at t5;refine⟨_,rfl,_,rfl,r,_,_,i,rfl,rfl,s5 _ _ (s4 _ _ (s3 _ _ e2)),ixr,⟨_,_,_,rfl⟩,fin r5 H5 ((s3.trans s4).trans s5) t5⟩
 ·rintro σ H2 ⟨⟨v3,v4,v5,rfl⟩,s2,hs,e2,hsl,hok⟩;rw[OF]at hok;refine⟨_,rfl,a,D.iQ,dx,_,_,rfl,s2 _ _ ha,T.o8,T.qP,rfl,_,rfl,l,_,r,hs,rfl,hpa.same s2,ok,SqL.of e2,hsl,λr6 H6 s6 e6=>?_⟩;have s26:=s2.trans s6;refine⟨_,rfl,a,D.iQ,dx,_,rfl,s26 _ _ ha,T.o8,T.vz,(by show 2<1000;decide),?_⟩;generalize hH7:upd H6 a _=H7;have k7:Kp (·=a) H6 H7:=by rw[<-hH7];exact aJ
  have la:Loose D H6 (·=a):=bh (s26 _ _ ha) (nk rfl rfl);have e7:H7 a=some (.ins D.iQ dx (foF l r6)):=by rw[<-hH7,af];rfl
  clear hH7;have nra:r≠a:=λz=>by rw[z,ha]at hrH;cases hrH
  obtain⟨a0,z1,z2⟩:=hok 0 f (NT _) (Rdg.hZ f);refine⟨_,rfl,r,hs,_,.ref a0,rfl,rfl,SqL.of (k7 _ _ (s6 _ _ e2) nra),bg (j:=0) z1,q a0 H7 ⟨dx,l,r6,_,e7,la.parts k7 (hpa.same s26) ⟨lo,lu,s26 _ _ hl⟩,⟨lo,lu,la.frz k7 _ _ _ (s26 _ _ hl)⟩,la.tup k7 _ _ e6,OM,λi p g hp hg hk=>?_⟩ ((z2.same s6).kp la k7) ((aw.kp s26).trans k7)⟩;have nd:=pk.rep.node i p g hp hg;have up:∀{j:Nat}{g':Vbtaak.F},(Rdg.subs f)[j]?=some g'->∃a',hs.getD j (nv 0)=.ref a'/\bR H7 a' (setOf Z (L+1) (hS c g')):=λhg'=>by
   obtain⟨a',y1,y2⟩:=hok _ _ (NT _) hg';exact⟨a',by rw[Nj,y1];rfl,(y2.same s6).kp la k7⟩
  cases nd with
  |before h1 h2=>
   obtain⟨a',y1,y2⟩:=up h2;refine⟨a',?_,?_⟩
   ·rw[Oz,hp];exact congrArg some y1
   ·rw[dA (S:=mS c (.before _)) λq hq=>Cj hq];exact y2
  |since h1 h2 h3 h4=>
   obtain⟨a',y1,y2⟩:=up hg;refine⟨a',?_,?_⟩
   ·rw[Oz,hp];exact congrArg some y1
   ·rw[dA (S:=mS c (.since _ _)) λq hq=>Et hq];exact y2
  |_=>simp at hk
end
open Vbtaak (sound size past sat bit)
variable{f:Vbtaak.F}
theorem xS(pk:Pk Z f)(c:List Nat)(t:Nat):(Mir.dM (Rdg.pts 0 f) t (Mir.bA (Rdg.pts 0 f) c) (Mir.last (Rdg.pts 0 f))).getD 0 0=bit (sat (c++[t]) f c.length):=by
 have R:=pk.rep;have h:=Mir.p9 R (c:=c++[t]) (k:=c.length) (t:=t) (by rw[NM (Nq _),OF];rfl);rw[Mir.jM R (Nq _),<-Mir.iG R c]at h;have h2:=Mir.uv R (c++[t]);rw[Nk,Ny]at h2;rw[<-h2]at h;rw[h,Mir.rV R,Mir.fG (Rdg.hZ f)]
structure SAd where
 a:Addr
 dx:Addr
 bo:Addr
 eo:Addr
def scF(bo eo:Addr)(on at_ ct:Nat):List (Str×V):=[("begin",.ref bo),("end",.ref eo),("goes_on",nv on),("begun_at",nv at_),("begun_count",nv ct)]
def SAd.cA(S:SAd)(b:Addr):Prop:=b=S.a∨b=S.bo∨b=S.eo
structure cc(K:Rt)(D:Ad)(H:Hp)(S:SAd)(Z:Nat)(x:Vbtaak.Scene)(c:List Nat):Prop where
 self:H S.a=some (.ins D.scene S.dx (scF S.bo S.eo (bit x.on) x.since x.times))
 bf:fP K D H S.bo (Rdg.pts 0 x.begins) (Mir.bA (Rdg.pts 0 x.begins) c)
 ef:fP K D H S.eo (Rdg.pts 0 x.ends_) (Mir.bA (Rdg.pts 0 x.ends_) c)
 ne:S.bo≠S.eo
 pb:Pk Z x.begins
 pe:Pk Z x.ends_
section
variable{P:Program}{w:World}{K:Rt}{mg:Ru}{base:Heap}{D:Ad}
theorem cc.kp{S:Addr->Prop}{H H':Hp}{W:SAd}{Z:Nat}{x:Vbtaak.Scene}{c:List Nat}(h:cc K D H W Z x c)(l:Loose D H S)(k:Kp S H H')(n:∀b,W.cA b->¬S b):cc K D H' W Z x c:=
 ⟨k _ _ h.self (n _ (.inl rfl)),h.bf.kp k (n _ (.inr (.inl rfl))) l,h.ef.kp k (n _ (.inr (.inr rfl))) l,h.ne,h.pb,h.pe⟩
variable{x:Vbtaak.Scene}
theorem cc.same{W:SAd}(h:cc K D H W Z x c)(e:aw H H'):cc K D H' W Z x c:=h.kp (S:=λ_=>False) Loose.none (aw.kp e) λ_ _ z=>z
theorem jV{ps:List Pt}{mem:List Nat}(h:fP K D H a ps mem):Loose D H (·=a):=by
 obtain⟨l,m,⟨dx,e⟩,_⟩:=h.ex;exact bh e (nk rfl rfl)
theorem cc.ab{W:SAd}(h:cc K D H W Z x c):W.a≠W.bo/\W.a≠W.eo:=by
 obtain⟨l,m,⟨dx,e⟩,_⟩:=h.bf.ex;obtain⟨l2,m2,⟨dx2,e2⟩,_⟩:=h.ef.ex;have ng:∀{b dx l m},H b=some (.ins D.dE dx (foF l m))->W.a≠b:=λz=>bJ h.self z (by
  intro y;injection y with _ _ y
  have:=congrArg (λz:List (Str×V)=>z.length) y;unfold scF foF at this;simp at this)
 exact⟨ng e,ng e2⟩
inductive mr(K:Rt)(D:Ad)(vs:List V)(H:Hp)(Q:VK)(E:XK):Prop
 |mk (S Z x c t k:_):vs=[.ref (SAd.a S),nv t,nv k]->cc K D H S Z x c->(∀H',cc K D H' S Z (Vbtaak.step1 (Vbtaak.memoryOf (Vbtaak.backs x.begins++Vbtaak.backs x.ends_) c) t k x) (c++[t])->Kp S.cA H H'->Q (nv (bit (!x.on&&sat (c++[t]) x.begins c.length))) H')->mr K D vs H Q E
abbrev lH:Stmt:=inClass (top 43) 1
theorem fU:aF ["self","turn","place","begin_holds","end_holds"] ["self","turn","place"] (az lH):=⟨rfl,rfl,rfl,by decide +kernel,rfl,by decide +kernel,by decide +kernel⟩
variable{fd:FuncData}
theorem oG{f:Addr}(F:Fun K "turn_comes" "Scene.turn_comes" lH f fd)(T:Txt K mg D)(eB:Mt P w K mg base D.dE "follow" 4 ["self","turn"] (jC K D)):
  bw P w K mg base CX0 5 f fd ["self","turn","place"] (mr K D):=by
 refine F.ok fU (λvs H Q E h=>?_) (λcdv A outer s H vs Q E hr h=>?_)
 ·obtain⟨S,Z,x,c,t,k,rfl,_⟩:=h;rfl
 obtain⟨S,Z,x,c,t,k,rfl,sc,q⟩:=h;refine⟨_,(ae (aG (i:=3) fU.nd rfl (Or.inl rfl) (bZ (au (pv 0) rfl) eB hr (aa (pv 1) ag)))
   (ae (aG (i:=4) fU.nd rfl (Or.inl rfl) (bZ (au (pv 0) rfl) eB hr (aa (pv 1) ag)))
   (ae (aW (aH bH (au (pv 0) rfl) ao (aU _)) (ae (aW (aH bH (pv 4) ao (aU _)) (ae (bb (pv 0) ao rfl)
   (ai (bb (pv 0) ao rfl))) aD)
   (ai (aA ao))) aD)
   (ae (aW (aH bH (pv 3) ao (aU _)) (ae (bb (pv 0) ao rfl)
   (ae (bb (pv 0) (pv 2) rfl)
   (ai (Ef (pv 0) ao JM)))) aD)
   (ai (aA (pv 3))))))),?_⟩
 obtain⟨nab,nae⟩:=sc.ab;obtain⟨bl,bm,⟨bdx,hbo⟩,_⟩:=sc.bf.ex;refine⟨_,rfl,S.a,D.scene,S.dx,_,_,rfl,sc.self,T.cH,T.Cc,rfl,S.bo,bdx,_,rfl,hbo,rfl,_,rfl,S.bo,t,_,_,rfl,sc.bf,λH1 f1 k1=>?_⟩;have lb:=jV sc.bf;have ef1:=sc.ef.kp k1 (λz=>sc.ne z.symm) lb;have xq:=k1 _ _ sc.self nab;obtain⟨el,em,⟨edx,heo⟩,_⟩:=ef1.ex;refine⟨_,rfl,S.a,D.scene,S.dx,_,_,rfl,xq,T.cH,T.Jw,rfl,S.eo,edx,_,rfl,heo,rfl,_,rfl,S.eo,t,_,_,rfl,ef1,λH2 f2 k2=>?_⟩;have le:=jV ef1;have f1':=f1.kp k2 (λz=>sc.ne z) le;have sQ:=k2 _ _ xq nae;have kk:Kp S.cA H H2:=(k1.mono λb z=>.inr (.inl z)).trans (k2.mono λb z=>.inr (.inr z));rw[<-Mir.dU]at f1' f2;rw[xS sc.pb]at *;rw[xS sc.pe]at *;rw[Vbs.uW sc.pb.ps sc.pe.ps]at q;have fin:∀(x':Vbtaak.Scene)(H3:Hp),x'.begins=x.begins->x'.ends_=x.ends_->H3 S.a=some (.ins D.scene S.dx (scF S.bo S.eo (bit x'.on) x'.since x'.times))->Kp (·=S.a) H2 H3->cc K D H3 S Z x' (c++[t])/\Kp S.cA H H3:=λx' H3 e1 e2 h3 k3=>by
  have la:Loose D H2 (·=S.a):=bh sQ (nk rfl rfl);exact⟨⟨h3,by rw[e1];exact f1'.kp k3 (λz=>nab z.symm) la,by rw[e2];exact f2.kp k3 (λz=>nae z.symm) la,sc.ne,by rw[e1];exact sc.pb,by rw[e2];exact sc.pe⟩,kk.trans (k3.mono λb z=>.inl z)⟩
 refine⟨_,rfl,S.a,D.scene,S.dx,_,_,rfl,sQ,T.cH,T.kI,rfl,rfl,_,rfl,bD (λz=>?_) (λz=>?_)⟩
 ·have z:=wY.mp (eqI.mp z);rw[Nz z,z]at q;refine⟨_,rfl,rfl,_,rfl,bD (λy=>?_) (λy=>?_)⟩
  ·have y:=wY.mp (eqI.mp y);rw[Nz y]at q;refine⟨_,rfl,S.a,D.scene,S.dx,_,rfl,sQ,T.cH,T.kI,(by show 5<1000;decide),?_⟩;refine⟨_,rfl,S.a,D.scene,S.dx,_,rfl,af,T.cH,T.qQ,(by show 5<1000;decide),?_⟩;generalize hH4:upd (upd H2 S.a _) S.a _=H4;have k4:Kp (·=S.a) H2 H4:=by rw[<-hH4];exact aJ.trans aJ
   have e4:H4 S.a=some (.ins D.scene S.dx (scF S.bo S.eo 0 0 x.times)):=by rw[<-hH4,af];rfl
   obtain⟨g1,g2⟩:=fin {x with on:=false,since:=0} H4 rfl rfl e4 k4;exact q H4 g1 g2
  ·have y:¬sat (c++[t]) x.ends_ c.length=true:=λe=>y (eqI.mpr (wY.mpr e));rw[Nt y]at q;obtain⟨g1,g2⟩:=fin x H2 rfl rfl sQ λ_ _ h _=>h;exact q H2 g1 g2
 ·have z:¬x.on=true:=λe=>z (eqI.mpr (wY.mpr e));have z':x.on=false:=by simpa using z
  rw[Nt z,z']at q;refine⟨_,rfl,rfl,_,rfl,bD (λy=>?_) (λy=>?_)⟩
  ·have y:=wY.mp (eqI.mp y);rw[Nz y]at q;refine⟨_,rfl,S.a,D.scene,S.dx,_,rfl,sQ,T.cH,T.kI,(by show 5<1000;decide),?_⟩;refine⟨_,rfl,_,rfl,S.a,D.scene,S.dx,_,rfl,af,T.cH,T.qQ,(by show 5<1000;decide),?_⟩;refine⟨_,rfl,S.a,D.scene,S.dx,_,_,rfl,af,T.cH,T.mR,rfl,?_⟩;refine⟨_,_,rfl,rfl,S.dx,_,af,(by show 5<1000;decide),?_⟩;generalize hH4:upd (upd (upd H2 S.a _) S.a _) S.a _=H4;have k4:Kp (·=S.a) H2 H4:=by rw[<-hH4];exact(aJ.trans aJ).trans aJ
   have e4:H4 S.a=some (.ins D.scene S.dx (scF S.bo S.eo 1 k (x.times+1))):=by rw[<-hH4,af];rfl
   obtain⟨g1,g2⟩:=fin {x with on:=true,since:=k,times:=x.times+1} H4 rfl rfl e4 k4;exact⟨_,rfl,q H4 g1 g2⟩
  ·have y:¬sat (c++[t]) x.begins c.length=true:=λe=>y (eqI.mpr (wY.mpr e));rw[Nt y]at q;obtain⟨g1,g2⟩:=fin x H2 rfl rfl sQ λ_ _ h _=>h;exact⟨_,rfl,q H2 g1 g2⟩
inductive mv(K:Rt)(D:Ad)(vs:List V)(H:Hp)(Q:VK)(E:XK):Prop
 |mk (x dx l1 l2 cl f g c Z:_):vs=[.ref x,.ref l1,.ref l2,.ref cl]->H x=some (.ins D.scene dx [])->bF K D H l1 (Rdg.pts 0 f)->Frz H l1->bF K D H l2 (Rdg.pts 0 g)->Frz H l2->Rd H cl (.lst (nvs c))->Pk Z f->Pk Z g->(∀S H',S.a=x->cc K D H' S Z {begins:=f,ends_:=g} c->Kp (·=x) H H'->(∀b,S.cA b->b=x∨H b=none)->Q .non H')->mv K D vs H Q E
abbrev va:Stmt:=inClass (top 43) 0
theorem zY:aF ["self","begin_parts","end_parts","course"] ["self","begin_parts","end_parts","course"] (az va):=⟨rfl,rfl,rfl,by decide +kernel,rfl,by decide +kernel,by decide +kernel⟩
theorem Iy{u:HO}(e:Kp S H H')(h:Rd H a u)(n:¬S a):Rd H' a u:=by
 rcases h with h|⟨o,h⟩
 ·exact .inl (e _ _ h n)
 ·exact .inr ⟨o,e _ _ h n⟩
theorem yJ{f:Addr}(F:Fun K "__init__" "Scene.__init__" va f fd)(T:Txt K mg D)(gc:Mc P w K mg base "Follower" D.dE 5 ["self","parts","course"] (ig K D)):
  bw P w K mg base CX0 7 f fd ["self","begin_parts","end_parts","course"] (mv K D):=by
 refine F.ok zY (λvs H Q E h=>?_) (λcdv A outer s H vs Q E hr h=>?_)
 ·obtain⟨x,dx,l1,l2,cl,f,g,c,Z,rfl,_⟩:=h;rfl
 obtain⟨x,dx,l1,l2,cl,f,g,c,Z,rfl,hx,p1,⟨o1,u1,z1⟩,p2,⟨o2,u2,z2⟩,hc,pf,pg,q⟩:=h;refine⟨_,(ae (bb (pv 0) (jG gc hr (aa (pv 1) (aa (pv 3) ag))) rfl)
   (ae (bb (pv 0) (jG gc hr (aa (pv 2) (aa (pv 3) ag))) rfl)
   (ae (bb (pv 0) ao rfl)
   (ae (bb (pv 0) ao rfl)
   (ai (bb (pv 0) ao rfl)))))),?_⟩
 have hcx:¬cl=x:=by
  rcases hc with z|⟨o2,z⟩
  ·exact bJ z hx (by intro z;cases z)
  ·exact bJ z hx (by intro z;cases z)
 have lx:Loose D H (·=x):=bh hx (by decide);refine⟨_,rfl,_,rfl,λfx fdx nfx FK nxd=>?_⟩;have s1:aw H (upd (upd H fdx (.own fx)) fx (.ins D.dE fdx [])):=(ak FK _).trans (ak (by rw[aB (Ne.symm nxd)];exact nfx) _);refine⟨fx,fdx,l1,cl,Rdg.pts 0 f,c,rfl,af,p1.same s1,pf.ok,⟨o1,u1,s1 _ _ z1⟩,Iy (S:=λ_=>False) (aw.kp s1) hc id,λH2 f2 k2=>⟨rfl,?_⟩⟩;have KU:fx≠x:=λz=>by rw[z,hx]at nfx;cases nfx
 have s2:aw H H2:=λb o h=>k2 _ _ (s1 _ _ h) (ax h nfx);refine⟨_,rfl,x,D.scene,dx,_,rfl,s2 _ _ hx,T.cH,T.Cc,(by show 0<1000;decide),?_⟩;generalize hH3:upd H2 x _=H3;have k23:Kp (·=x) H2 H3:=by rw[<-hH3];exact aJ
 have e3:H3 x=some (.ins D.scene dx [("begin",.ref fx)]):=by rw[<-hH3,af];rfl
 have k3:Kp (·=x) H H3:=(aw.kp s2).trans k23;have lx2:Loose D H2 (·=x):=bh (s2 _ _ hx) (by decide);have f3:=f2.kp k23 KU lx2;clear hH3;refine⟨_,rfl,_,rfl,λgx gdx ngx Jv ngd=>?_⟩;have s4:aw H3 (upd (upd H3 gdx (.own gx)) gx (.ins D.dE gdx [])):=(ak Jv _).trans (ak (by rw[aB (Ne.symm ngd)];exact ngx) _);have k4:Kp (·=x) H (upd (upd H3 gdx (.own gx)) gx (.ins D.dE gdx [])):=k3.trans (aw.kp s4);refine⟨gx,gdx,l2,cl,Rdg.pts 0 g,c,rfl,af,lx.parts k4 p2 ⟨o2,u2,z2⟩,pg.ok,⟨o2,u2,lx.frz k4 _ _ _ z2⟩,Iy k4 hc hcx,λH5 f5 k5=>⟨rfl,?_⟩⟩;have Ju:gx≠x:=λz=>by rw[z,e3]at ngx;cases ngx
 have gxn:H gx=none:=by
  cases z:H gx with
  |none=>rfl
  |some o=>have:=k3 _ _ z Ju;rw[ngx]at this;cases this
 obtain⟨fl,fm,⟨MY,JP⟩,_⟩:=f3.ex;have nfg:fx≠gx:=λz=>by rw[<-z,JP]at ngx;cases ngx
 have lg:Loose D (upd (upd H3 gdx (.own gx)) gx (.ins D.dE gdx [])) (·=gx):=bh af (by decide);have f5':=(f3.same s4).kp k5 nfg lg;have e5:H5 x=some (.ins D.scene dx [("begin",.ref fx)]):=k5 _ _ (s4 _ _ e3) Ju.symm;refine⟨_,rfl,x,D.scene,dx,_,rfl,e5,T.cH,T.Jw,(by show 1<1000;decide),?_⟩;refine⟨_,rfl,x,D.scene,dx,_,rfl,af,T.cH,T.kI,(by show 2<1000;decide),?_⟩;refine⟨_,rfl,x,D.scene,dx,_,rfl,af,T.cH,T.qQ,(by show 3<1000;decide),?_⟩;refine⟨_,rfl,x,D.scene,dx,_,rfl,af,T.cH,T.mR,(by show 4<1000;decide),?_⟩;generalize hH6:upd (upd (upd (upd H5 x _) x _) x _) x _=H6;have k56:Kp (·=x) H5 H6:=by rw[<-hH6];exact((aJ.trans aJ).trans aJ).trans aJ
 have e6:H6 x=some (.ins D.scene dx (scF fx gx 0 0 0)):=by rw[<-hH6,af];rfl
 have lx5:Loose D H5 (·=x):=bh e5 (nk rfl rfl);refine q ⟨x,dx,fx,gx⟩ H6 rfl ⟨e6,f5'.kp k56 KU lx5,f5.kp k56 Ju lx5,nfg,pf,pg⟩ (λb o h n=>k56 _ _ (k5 _ _ (k4 _ _ h n) (ax h gxn)) n) ?_;rintro b (z|z|z)
 ·exact .inl z
 ·exact .inr (by rw[z];exact nfx)
 ·exact .inr (by rw[z];exact gxn)
end
open Vbs (aT)
structure HAd where
 a:Addr
 wb:Addr
 we:Addr
def HAd.cA(S:HAd)(b:Addr):Prop:=b=S.a∨b=S.wb∨b=S.we
def ahF(wb we go:Addr):List (Str×V):=[("begin",.ref wb),("end",.ref we),("ways_going_on",.ref go)]
structure bW(K:Rt)(D:Ad)(H:Hp)(S:HAd)(Z L:Nat)(x:Vbtaak.Scene)(c:List Nat):Prop where
 self:∃dx go,H S.a=some (.ins D.ahead dx (ahF S.wb S.we go))/\bR H go (setOf Z L (aT x.begins x.ends_ c x.on))
 bf:ub K D H S.wb x.begins c Z L
 ef:ub K D H S.we x.ends_ c Z L
 ne:S.wb≠S.we
section
variable{P:Program}{w:World}{K:Rt}{mg:Ru}{base:Heap}{D:Ad}
theorem bW.kp{S:Addr->Prop}{H H':Hp}{W:HAd}{Z L:Nat}{x:Vbtaak.Scene}{c:List Nat}(h:bW K D H W Z L x c)(l:Loose D H S)(k:Kp S H H')(n:∀b,W.cA b->¬S b):bW K D H' W Z L x c:=by
 obtain⟨dx,go,e,t⟩:=h.self;exact⟨⟨dx,go,k _ _ e (n _ (.inl rfl)),t.kp l k⟩,h.bf.kp l k (n _ (.inr (.inl rfl))),h.ef.kp l k (n _ (.inr (.inr rfl))),h.ne⟩
variable{W:HAd}{x:Vbtaak.Scene}
theorem bW.same(h:bW K D H W Z L x c)(e:aw H H'):bW K D H' W Z L x c:=h.kp (S:=λ_=>False) Loose.none (aw.kp e) λ_ _ z=>z
theorem ql(h:ub K D H a f c Z L):Loose D H (·=a):=by
 obtain⟨dx,l,m,ms,e,_⟩:=h;exact bh e (nk rfl rfl)
theorem bW.loose(h:bW K D H W Z L x c):Loose D H W.cA:=λb z=>by
 obtain⟨dx,go,e,t⟩:=h.self;rcases z with z|z|z
 ·exact bh (D:=D) e (nk rfl rfl) b z
 ·exact ql h.bf b z
 ·exact ql h.ef b z
theorem bW.has(h:bW K D H W Z L x c):∀b,W.cA b->∃C dx fs,H b=some (.ins C dx fs)/\fs.length<=3:=λb z=>by
 obtain⟨dx,go,e,t⟩:=h.self;obtain⟨dx1,l1,m1,ms1,e1,_⟩:=h.bf;obtain⟨dx2,l2,m2,ms2,e2,_⟩:=h.ef;rcases z with rfl|rfl|rfl
 ·exact⟨_,_,_,e,by unfold ahF;simp⟩
 ·exact⟨_,_,_,e1,by unfold foF;simp⟩
 ·exact⟨_,_,_,e2,by unfold foF;simp⟩
theorem bW.ab(h:bW K D H W Z L x c):W.a≠W.wb/\W.a≠W.we:=by
 obtain⟨dx,go,e,t⟩:=h.self;have ng:∀{b dx' l m},H b=some (.ins D.iQ dx' (foF l m))->W.a≠b:=λz=>bJ e z (by
  intro y;injection y with _ _ y
  have:=congrArg (λz:List (Str×V)=>z.length) y;unfold ahF foF at this;simp at this)
 obtain⟨dx1,l1,m1,ms1,e1,_⟩:=h.bf;obtain⟨dx2,l2,m2,ms2,e2,_⟩:=h.ef;exact⟨ng e1,ng e2⟩
inductive my(K:Rt)(D:Ad)(vs:List V)(H:Hp)(Q:VK)(E:XK):Prop
 |mk (y dx S Z x c:_):vs=[.ref y,.ref (SAd.a S)]->H y=some (.ins D.ahead dx [])->cc K D H S Z x c->(∀W H',HAd.a W=y->bW K D H' W Z 0 x c->Kp (·=y) H H'->(∀b,W.cA b->b=y∨H b=none)->Q .non H')->my K D vs H Q E
abbrev lI:Stmt:=inClass (top 44) 0
theorem rR:aF ["self","scene"] ["self","scene"] (az lI):=⟨rfl,rfl,rfl,by decide +kernel,rfl,by decide +kernel,by decide +kernel⟩
variable{fd:FuncData}
theorem qO{f:Addr}(F:Fun K "__init__" "SceneAhead.__init__" lI f fd)(T:Txt K mg D)(nQ:Mc P w K mg base "WaysFollower" D.iQ 1 ["self","follower"] (uN K D)):bw P w K mg base CX0 3 f fd ["self","scene"] (my K D):=by
 refine F.ok rR (λvs H Q E h=>?_) (λcdv A outer s H vs Q E hr h=>?_)
 ·obtain⟨y,dx,S,Z,x,c,rfl,_⟩:=h;rfl
 obtain⟨y,dx,S,Z,x,c,rfl,hy,sc,q⟩:=h;refine⟨_,(ae (bb (pv 0) (jG nQ hr (aa (au (pv 1) rfl) ag)) rfl)
   (ae (bb (pv 0) (jG nQ hr (aa (au (pv 1) rfl) ag)) rfl)
   (ai (bb (pv 0) (du (aV (aa (au (pv 1) rfl) ag))) rfl)))),?_⟩
 have ly:Loose D H (·=y):=bh hy (by decide);obtain⟨bl,bm,⟨bdx,hbo⟩,_⟩:=sc.bf.ex;obtain⟨el,em,⟨edx,heo⟩,_⟩:=sc.ef.ex;have ny:∀{b C d}{fs:List (Str×V)},H b=some (.ins C d fs)->fs≠[]->b≠y:=λe n z=>by
  rw[z,hy]at e;have e:=Nm e;injection e with _ _ e;exact n e.symm
 have n1:S.a≠y:=ny sc.self (by unfold scF;simp);have n2:S.bo≠y:=ny hbo (by unfold foF;simp);have n3:S.eo≠y:=ny heo (by unfold foF;simp);have nm:∀b,S.cA b->¬b=y:=λb z=>by rcases z with rfl|rfl|rfl<;>assumption
 refine⟨_,rfl,S.a,D.scene,S.dx,_,_,rfl,sc.self,T.cH,T.Cc,rfl,λfx fdx nfx FK nxd=>?_⟩;have s1:aw H (upd (upd H fdx (.own fx)) fx (.ins D.iQ fdx [])):=(ak FK _).trans (ak (by rw[aB (Ne.symm nxd)];exact nfx) _);refine⟨fx,fdx,S.bo,x.begins,c,Z,rfl,af,sc.bf.same s1,sc.pb,λH2 f2 k2=>⟨rfl,?_⟩⟩;have nfy:fx≠y:=λz=>by rw[z,hy]at nfx;cases nfx
 have s2:aw H H2:=λb o h=>k2 _ _ (s1 _ _ h) (ax h nfx);refine⟨_,rfl,y,D.ahead,dx,_,rfl,s2 _ _ hy,T.f9,T.Dm,(by show 0<1000;decide),?_⟩;generalize hH3:upd H2 y _=H3;have k23:Kp (·=y) H2 H3:=by rw[<-hH3];exact aJ
 have e3:H3 y=some (.ins D.ahead dx [("begin",.ref fx)]):=by rw[<-hH3,af];rfl
 have k3:Kp (·=y) H H3:=(aw.kp s2).trans k23;have ly2:Loose D H2 (·=y):=bh (s2 _ _ hy) (by decide);have f3:=f2.kp ly2 k23 nfy;have sc3:=sc.kp ly k3 nm;clear hH3;refine⟨_,rfl,S.a,D.scene,S.dx,_,_,rfl,sc3.self,T.cH,T.Jw,rfl,λgx gdx ngx Jv ngd=>?_⟩;have s4:aw H3 (upd (upd H3 gdx (.own gx)) gx (.ins D.iQ gdx [])):=(ak Jv _).trans (ak (by rw[aB (Ne.symm ngd)];exact ngx) _);refine⟨gx,gdx,S.eo,x.ends_,c,Z,rfl,af,sc3.ef.same s4,sc.pe,λH5 f5 k5=>⟨rfl,?_⟩⟩;have ngy:gx≠y:=λz=>by rw[z,e3]at ngx;cases ngx
 have gxn:H gx=none:=by
  cases z:H gx with
  |none=>rfl
  |some o=>have:=k3 _ _ z ngy;rw[ngx]at this;cases this
 obtain⟨MY,fl,fm,fms,JP,_⟩:=id f3;have nfg:fx≠gx:=λz=>by rw[<-z,JP]at ngx;cases ngx
 have lg:Loose D (upd (upd H3 gdx (.own gx)) gx (.ins D.iQ gdx [])) (·=gx):=bh af (by decide);have f5':=(f3.same s4).kp lg k5 nfg;have e5:H5 y=some (.ins D.ahead dx [("begin",.ref fx)]):=k5 _ _ (s4 _ _ e3) ngy.symm;have k05:Kp (·=y) H H5:=λb o h n=>k5 _ _ (s4 _ _ (k3 _ _ h n)) (ax h gxn);refine⟨_,rfl,y,D.ahead,dx,_,rfl,e5,T.f9,T.IE,(by show 1<1000;decide),?_⟩;generalize hH6:upd H5 y _=H6;have k56:Kp (·=y) H5 H6:=by rw[<-hH6];exact aJ
 have e6:H6 y=some (.ins D.ahead dx [("begin",.ref fx),("end",.ref gx)]):=by rw[<-hH6,af];rfl
 have ly5:Loose D H5 (·=y):=bh e5 (nk rfl rfl);have f6:=f5'.kp ly5 k56 nfy;have g6:=f5.kp ly5 k56 ngy;have k06:=k05.trans k56;have sc6:=sc.kp ly k06 nm;clear hH6;refine⟨_,rfl,S.a,D.scene,S.dx,_,_,rfl,sc6.self,T.cH,T.kI,rfl,(by show 1<=sizeLine;decide),λe he=>⟨e,_,af,trivial,λod=>?_⟩⟩;generalize hH7:upd (upd H6 e _) e _=H7;have s7:aw H6 H7:=by rw[<-hH7];exact λb o z=>by rw[aB (ax z he),aB (ax z he)];exact z
 have t7:bR H7 e (setOf Z 0 (aT x.begins x.ends_ c x.on)):=⟨od,by rw[<-hH7,af,zU];rfl⟩;clear hH7;refine⟨_,rfl,y,D.ahead,dx,_,rfl,s7 _ _ e6,T.f9,T.pY,(by show 2<1000;decide),?_⟩;generalize hH8:upd H7 y _=H8;have k78:Kp (·=y) H7 H8:=by rw[<-hH8];exact aJ
 have e8:H8 y=some (.ins D.ahead dx (ahF fx gx e)):=by rw[<-hH8,af];rfl
 have ly7:Loose D H7 (·=y):=bh (s7 _ _ e6) (nk rfl rfl);refine q ⟨y,fx,gx⟩ H8 rfl ⟨⟨dx,e,e8,t7.kp ly7 k78⟩,(f6.same s7).kp ly7 k78 nfy,(g6.same s7).kp ly7 k78 ngy,nfg⟩ ((k06.trans (aw.kp s7)).trans k78) ?_;rintro b (z|z|z)
 ·exact .inl z
 ·exact .inr (by rw[z];exact nfx)
 ·exact .inr (by rw[z];exact gxn)
inductive rP(K:Rt)(D:Ad)(vs:List V)(H:Hp)(Q:VK)(E:XK):Prop
 |mk (W b dx ew bf Z L x c:_):vs=[.ref (HAd.a W),.ref b]->bW K D H W Z L x c->f' D H b dx ew bf Z (L+1)->Pk Z x.begins->Pk Z x.ends_->L<=5->(∀H',bW K D H' W Z (L+1) x c->Kp W.cA H H'->Q .non H')->rP K D vs H Q E
abbrev fw:Stmt:=inClass (top 44) 1
theorem aX:aF ["self","ways","goes_on","begin_holds","end_holds","heads","on","begins","ends"] ["self","ways"] (az fw):=⟨rfl,rfl,rfl,by decide +kernel,rfl,by decide +kernel,by decide +kernel⟩
theorem yd(h:f' D H b dx ew bf Z L){C d:Addr}{fs:List (Str×V)}(e:H a=some (.ins C d fs))(l:fs.length<=3):b≠a:=bJ h.self e (by
 intro y;injection y with _ _ y
 have:=congrArg (λz:List (Str×V)=>z.length) y;unfold waF at this;simp at this;omega)
theorem qN{f:Addr}(F:Fun K "any_turn_comes" "SceneAhead.any_turn_comes" fw f fd)(T:Txt K mg D)(lh:Mt P w K mg base D.aY "lengthened" 2 ["self","shorter_ways"] (yl D))
  (eB:Mt P w K mg base D.iQ "follow" 3 ["self","ways"] (rL K D)):bw P w K mg base CX0 4 f fd ["self","ways"] (rP K D):=by
 refine F.ok aX (λvs H Q E h=>?_) (λcdv A outer s H vs Q E hr h=>?_)
 ·obtain⟨W,b,dx,ew,bf,Z,L,x,c,rfl,_⟩:=h;rfl
 obtain⟨W,b,bdx,ew,bf,Z,L,x,c,rfl,ah,wa,pb,pe,h5,q⟩:=h;refine⟨_,(ae (aG (i:=2) aX.nd rfl (Or.inl rfl) (bZ (pv 1) lh hr (aa (au (pv 0) rfl) ag)))
   (ae (aG (i:=3) aX.nd rfl (Or.inl rfl) (bZ (au (pv 0) rfl) eB hr (aa (pv 1) ag)))
   (ae (aG (i:=4) aX.nd rfl (Or.inl rfl) (bZ (au (pv 0) rfl) eB hr (aa (pv 1) ag)))
   (ae (aG (i:=5) aX.nd rfl (Or.inr rfl) (au (pv 1) rfl))
   (ai (bb (pv 0) (du (fI rfl aX.nd (Dd rfl T.zip (aa (pv 2) (aa (pv 3) (aa (pv 4) ag)))) (cU (own:=[("on",6),("begins",7),("ends",8)]) (by rfl)) (λ_ _ _ _ _=>(gN (n:=3) rfl (bt (aL (i:=6) aX.nd rfl (Or.inl rfl)) (bt (aL (i:=7) aX.nd rfl (Or.inl rfl)) (bt (aL (i:=8) aX.nd rfl (Or.inl rfl)) eZ))))) (λ_ _ _ _ _=>dH) (λ_ _ _ _ _=>(aI xF (aI fg (pv 6) (aI B5 (pv 5) (pv 8))) (aI fg (aI B5 (pv 5) (pv 6)) (pv 7)))))) rfl)))))),?_⟩
 obtain⟨nab,nae⟩:=ah.ab;obtain⟨dx,go,ha,hgo⟩:=ah.self;have tl5:=pq pb.fa (show L+1<=6 by omega);have nb:∀a,W.cA a->b≠a:=λa z=>by
  obtain⟨C,d,fs,e,l⟩:=ah.has a z;exact yd wa e l
 refine⟨_,rfl,b,bdx,_,rfl,wa.self,rfl,_,rfl,W.a,D.ahead,dx,_,_,rfl,ha,T.f9,T.pY,rfl,b,bdx,ew,bf,Z,L,go,_,rfl,wa.self,pb.fa,h5,hgo,λg1 H1 s1 t1=>?_⟩;have bf1:=ah.bf.same s1;obtain⟨M3,bl,bm,bms,hwb,_⟩:=id bf1;refine⟨_,rfl,W.a,D.ahead,dx,_,_,rfl,s1 _ _ ha,T.f9,T.Dm,rfl,W.wb,M3,_,rfl,hwb,rfl,_,rfl,W.wb,b,bdx,ew,bf,x.begins,c,Z,L,rfl,bf1,wa.same s1,pb,h5,λg2 H2 f2 t2 k2=>?_⟩;have lb:=ql bf1;have wa2:=(wa.same s1).kp lb k2 (nb _ (.inr (.inl rfl)));have ef2:=(ah.ef.same s1).kp lb k2 (λz=>ah.ne z.symm);have ha2:=k2 _ _ (s1 _ _ ha) nab;have t12:=t1.kp lb k2;obtain⟨M0,el,em,ems,hwe,_⟩:=id ef2;refine⟨_,rfl,W.a,D.ahead,dx,_,_,rfl,ha2,T.f9,T.IE,rfl,W.we,M0,_,rfl,hwe,rfl,_,rfl,W.we,b,bdx,ew,bf,x.ends_,c,Z,L,rfl,ef2,wa2,pe,h5,λg3 H3 f3 t3 k3=>?_⟩;have le:=ql ef2;have wa3:=wa2.kp le k3 (nb _ (.inr (.inr rfl)));have bf3:=f2.kp le k3 (λz=>ah.ne z);have ha3:=k3 _ _ ha2 nae;have t13:=t12.kp le k3;have t23:=t2.kp le k3;have kk:Kp W.cA H H3:=((aw.kp s1).trans (k2.mono λb z=>.inr (.inl z))).trans (k3.mono λb z=>.inr (.inr z));refine⟨_,rfl,b,D.aY,bdx,_,_,rfl,wa3.self,T.bU,T.jK,rfl,?_⟩;have ln:∀U,(nvs (setOf Z (L+1) U)).length=tcn Z (L+1):=λU=>by rw[Nf,g8]
 have eon:setOf Z (L+1) (aT x.begins x.ends_ c x.on)=setOf Z (L+1) λp=>(dJ (aT x.begins x.ends_ c x.on) p&&!hS c x.ends_ p)||((!dJ (aT x.begins x.ends_ c x.on) p)&&hS c x.begins p):=dA λp hp=>Hk hp
 generalize hLS:dJ (aT x.begins x.ends_ c x.on)=S1 at t13 eon;refine⟨_,rfl,_,rfl,_,rfl,g1,g2,g3,_,_,_,rfl,t13.seq,t23.seq,t3.seq,λr hr0=>xM (K:=K) (a:=g1) (b:=g2) (c:=g3) (xs:=nvs (setOf Z (L+1) S1)) (ys:=nvs (setOf Z (L+1) (hS c x.begins))) (zs:=nvs (setOf Z (L+1) (hS c x.ends_))) (nvs (setOf Z (L+1) (aT x.begins x.ends_ c x.on))) t13.seq t23.seq t3.seq (by rw[ln,ln]) (by rw[ln,ln]) (by rw[ln,ln]) hr0 (by rw[ln];exact i8 tl5) ?_ ?_⟩
 ·rintro i u v v2 v3 T0 H' hu hv hv2 hv3 s4 hT0 R R2 hR;obtain⟨hi,rfl⟩:=bI hv;obtain⟨_,rfl⟩:=bI hv2;obtain⟨_,rfl⟩:=bI hv3;rw[eon]at hu;obtain⟨_,rfl⟩:=bI hu;refine⟨T0,_,rfl,SqT.of af,rfl,_,_,rfl,_,_,rfl,_,_,rfl,rfl,rfl,lcT ?_⟩;have x1:Builtin.bitXor ((2^hc Z (L+1)-1:Nat):Int) ((elt Z (L+1) (hS c x.ends_) i:Nat):Int)=((elt Z (L+1) (λp=>!hS c x.ends_ p) i:Nat):Int):=by rw[yc,ze]
  have x2:Builtin.bitAnd ((elt Z (L+1) S1 i:Nat):Int) ((elt Z (L+1) (λp=>!hS c x.ends_ p) i:Nat):Int)=((elt Z (L+1) (λp=>S1 p&&!hS c x.ends_ p) i:Nat):Int):=by rw[fc,nR Z (L+1) S1 _ hi]
  have x3:Builtin.bitXor ((2^hc Z (L+1)-1:Nat):Int) ((elt Z (L+1) S1 i:Nat):Int)=((elt Z (L+1) (λp=>!S1 p) i:Nat):Int):=by rw[yc,ze]
  have x4:Builtin.bitAnd ((elt Z (L+1) (λp=>!S1 p) i:Nat):Int) ((elt Z (L+1) (hS c x.begins) i:Nat):Int)=((elt Z (L+1) (λp=>(!S1 p)&&hS c x.begins p) i:Nat):Int):=by rw[fc,nR Z (L+1) _ _ hi]
  refine⟨_,rfl,_,rfl,_,rfl,_,_,rfl,rfl,_,_,rfl,congrArg V.int x1,_,rfl,_,rfl,_,_,rfl,rfl,_,rfl,_,_,congrArg V.int x3,rfl,_,_,congrArg V.int x2,congrArg V.int x4,?_⟩;have:=hR _ (ak hT0 (.tup [nv (elt Z (L+1) S1 i),nv (elt Z (L+1) (hS c x.begins) i),nv (elt Z (L+1) (hS c x.ends_) i)]));have e:V.int (Builtin.bitOr ((elt Z (L+1) (λp=>S1 p&&!hS c x.ends_ p) i:Nat):Int) ((elt Z (L+1) (λp=>(!S1 p)&&hS c x.begins p) i:Nat):Int))=nv (elt Z (L+1) (λp=>(S1 p&&!hS c x.ends_ p)||((!S1 p)&&hS c x.begins p)) i):=by rw[kx,BC]
  rw[<-e]at this;exact this
 ·intro H4 s4 e4;refine⟨r,_,e4,trivial,λod=>?_⟩;generalize hH5:upd H4 r _=H5;have s5:aw H3 H5:=by rw[<-hH5];exact λb o z=>by rw[aB (ax z hr0)];exact s4 _ _ z
  have t5:bR H5 r (setOf Z (L+1) (aT x.begins x.ends_ c x.on)):=⟨od,by rw[<-hH5,af]⟩;clear hH5;refine⟨_,rfl,W.a,D.ahead,dx,_,rfl,s5 _ _ ha3,T.f9,T.pY,(by show 3<1000;decide),?_⟩;generalize hH6:upd H5 W.a _=H6;have k6:Kp (·=W.a) H5 H6:=by rw[<-hH6];exact aJ
  have e6:H6 W.a=some (.ins D.ahead dx (ahF W.wb W.we r)):=by rw[<-hH6,af];rfl
  have la:Loose D H5 (·=W.a):=bh (s5 _ _ ha3) (nk rfl rfl);exact q H6 ⟨⟨dx,r,e6,t5.kp la k6⟩,(bf3.same s5).kp la k6 nab.symm,(f3.same s5).kp la k6 nae.symm,ah.ne⟩ ((kk.trans (aw.kp s5)).trans (k6.mono λb z=>.inl z))
end
section
variable{P:Program}{w:World}{K:Rt}{mg:Ru}{base:Heap}{D:Ad}
inductive pE(K:Rt)(D:Ad)(vs:List V)(H:Hp)(Q:VK)(E:XK):Prop
 |mk (S1 S2 Z x1 x2 c most:_):vs=[.ref (SAd.a S1),.ref (SAd.a S2),nv most,nv Z]->cc K D H S1 Z x1 c->cc K D H S2 Z x2 c->most<=6->(∀v H',aw H H'->LF H' v (Gen.bu (2^Z) most λq=>aT x1.begins x1.ends_ c x1.on q&&aT x2.begins x2.ends_ c x2.on q)->Q v H')->pE K D vs H Q E
abbrev je:Stmt:=top 45
theorem bz:aF ["scene","other_scene","most","facts","ahead","other_ahead","length","ways","way","one","other"] ["scene","other_scene","most","facts"] (az je):=⟨rfl,rfl,rfl,by decide +kernel,rfl,by decide +kernel,by decide +kernel⟩
theorem lY{f:Addr}{fd:FuncData}(F:Fun K "first_way_together" "first_way_together" je f fd)(T:Txt K mg D)(rF:Mc P w K mg base "SceneAhead" D.ahead 3 ["self","scene"] (my K D))
  (Ki:Mc P w K mg base "Ways" D.aY 2 ["self","facts","length"] (pD D))(j7:Mt P w K mg base D.ahead "any_turn_comes" 4 ["self","ways"] (rP K D))(CP:Mt P w K mg base D.aY "first_in" 2 ["self","ways"] (rO K D)):
  bw P w K mg base CX0 5 f fd ["scene","other_scene","most","facts"] (pE K D):=by
 refine F.ok bz (λvs H Q E h=>?_) (λcdv A outer s H vs Q E hr h=>?_)
 ·obtain⟨S1,S2,Z,x1,x2,c,most,rfl,_⟩:=h;rfl
 obtain⟨S1,S2,Z,x1,x2,c,most,rfl,sc1,sc2,m6,q⟩:=h;refine⟨_,(ae (aG (i:=4) bz.nd rfl (Or.inl rfl) (jG rF hr (aa (pv 0) ag)))
   (ae (aG (i:=5) bz.nd rfl (Or.inl rfl) (jG rF hr (aa (pv 1) ag)))
   (ae (cu NU rfl (fA rfl T.range (aa (aI fJ (pv 2) ao) ag)) (aL (i:=6) bz.nd rfl (Or.inl rfl)) (ae (aG (i:=7) bz.nd rfl (Or.inl rfl) (jG Ki hr (aa (pv 3) (aa (pv 6) ag))))
   (ae (aW (aH oY (pv 6) ao (aU _)) (ae (b6 (bZ (pv 4) j7 hr (aa (pv 7) ag)))
   (ai (b6 (bZ (pv 5) j7 hr (aa (pv 7) ag))))) aD)
   (ae (aG (i:=8) bz.nd rfl (Or.inl rfl) (bZ (pv 7) CP hr (aa (fI rfl bz.nd (B2 rfl T.zip (aa (au (pv 4) rfl) (aa (au (pv 5) rfl) ag))) (cU (own:=[("one",9),("other",10)]) (by rfl)) (λ_ _ _ _ _=>(gN (n:=2) rfl (bt (aL (i:=9) bz.nd rfl (Or.inl rfl)) (bt (aL (i:=10) bz.nd rfl (Or.inl rfl)) eZ)))) (λ_ _ _ _ _=>dH) (λ_ _ _ _ _=>(aI fg (pv 9) (pv 10)))) ag)))
   (ai (aW (fH (Dh (pv 8))) (ai (aA (pv 8))) aD))))))
   (ai (aA jv))))),?_⟩
 have fa:=sc1.pb.fa;refine⟨_,rfl,λy1 d1 ny1 nd1 Md=>?_⟩;have sa:aw H (upd (upd H d1 (.own y1)) y1 (.ins D.ahead d1 [])):=(ak nd1 _).trans (ak (by rw[aB (Ne.symm Md)];exact ny1) _);refine⟨y1,d1,S1,Z,x1,c,rfl,af,sc1.same sa,λW1 H1 w1a ah1 k1 nw1=>⟨rfl,?_⟩⟩;have s1:aw H H1:=λb o h=>k1 _ _ (sa _ _ h) (ax h ny1);have fr1:∀b,W1.cA b->H b=none:=λb z=>by
  rcases nw1 b z with e|e
  ·rw[e];exact ny1
  ·exact sa.free e
 refine⟨_,rfl,λy2 d2 ny2 nd2 Mb=>?_⟩;have sb:aw H1 (upd (upd H1 d2 (.own y2)) y2 (.ins D.ahead d2 [])):=(ak nd2 _).trans (ak (by rw[aB (Ne.symm Mb)];exact ny2) _);refine⟨y2,d2,S2,Z,x2,c,rfl,af,(sc2.same s1).same sb,λW2 H2 w2a ah2 k2 nw2=>⟨rfl,?_⟩⟩;have s2:aw H1 H2:=λb o h=>k2 _ _ (sb _ _ h) (ax h ny2);have fr2:∀b,W2.cA b->H1 b=none:=λb z=>by
  rcases nw2 b z with e|e
  ·rw[e];exact ny2
  ·exact sb.free e
 have apart:∀b,W1.cA b->¬W2.cA b:=λb z y=>by
  obtain⟨C,d,fs,e,_⟩:=ah1.has b z;rw[fr2 b y]at e;cases e
 have M6:=ah1.same s2;have Lr:∀b,W2.cA b->H b=none:=λb z=>s1.free (fr2 b z);subst w1a w2a;have s02:=s1.trans s2;generalize hT:(λq=>aT x1.begins x1.ends_ c x1.on q&&aT x2.begins x2.ends_ c x2.on q)=TT at q;refine⟨_,rfl,_,_,rfl,rfl,_,rfl,by omega,by omega,jT (lo:=0) (n:=((most:Int)+1).toNat)
  (λi σ H'=>(∃v6 v7 v8:Option V,σ=[some (.ref S1.a),some (.ref S2.a),some (nv most),some (nv Z),some (.ref W1.a),some (.ref W2.a),v6,v7,v8,none,none])/\aw H H'/\bW K D H' W1 Z (i-1) x1 c/\bW K D H' W2 Z (i-1) x2 c/\∀d,d<i->(Gen.aY (2^Z) d).find? TT=none)
  ⟨⟨none,none,none,rfl⟩,s02,M6,ah2,λd hd=>by omega⟩ ?_ ?_⟩
 ·rintro i σ H3 hi ⟨⟨v6,v7,v8,rfl⟩,s3,a1,a2,no⟩;have hi:i<most+1:=by omega
  rw[P2];refine⟨_,rfl,_,rfl,λb bd nb nbd nbb=>?_⟩;have sc:aw H3 (upd (upd H3 bd (.own b)) b (.ins D.aY bd [])):=(ak nbd _).trans (ak (by rw[aB (Ne.symm nbb)];exact nb) _);refine⟨b,bd,Z,i,rfl,af,fa,by omega,λew bf H4 wa k4=>⟨rfl,?_⟩⟩;have s4:aw H3 H4:=λb' o h=>k4 _ _ (sc _ _ h) (ax h nb);have s04:=s3.trans s4;have a14:=a1.same s4;have a24:=a2.same s4;have nb0:H b=none:=s3.free nb;have tl5:=pq fa (show i<=6 by omega);have key:∀H5,aw H H5->bW K D H5 W1 Z i x1 c->bW K D H5 W2 Z i x2 c->f' D H5 b bd ew bf Z i->∃(R:Prop),R->R:=λ_ _ _ _ _=>⟨True,id⟩;refine⟨_,rfl,_,_,rfl,rfl,_,rfl,?_⟩;have rest:∀H5,aw H H5->bW K D H5 W1 Z i x1 c->bW K D H5 W2 Z i x2 c->f' D H5 b bd ew bf Z i->∃d1 g1 d2 g2,H5 W1.a=some (.ins D.ahead d1 (ahF W1.wb W1.we g1))/\bR H5 g1 (setOf Z i (aT x1.begins x1.ends_ c x1.on))/\H5 W2.a=some (.ins D.ahead d2 (ahF W2.wb W2.we g2))/\bR H5 g2 (setOf Z i (aT x2.begins x2.ends_ c x2.on)):=λH5 _ p1 p2 _=>by
   obtain⟨d1,g1,e1,t1⟩:=p1.self;obtain⟨d2,g2,e2,t2⟩:=p2.self;exact⟨d1,g1,d2,g2,e1,t1,e2,t2⟩
  have ln:∀U,(nvs (setOf Z i U)).length=tcn Z i:=λU=>by rw[Nf,g8]
  rcases PU i with z|z
  ·subst z;refine bD (λy=>absurd (NG y) (by decide)) (λ_=>?_);obtain⟨d1,g1,d2,g2,e1,t1,e2,t2⟩:=rest H4 s04 a14 a24 wa;refine⟨_,rfl,b,bd,_,rfl,wa.self,rfl,_,rfl,W1.a,D.ahead,d1,_,_,rfl,e1,T.f9,T.pY,rfl,_,rfl,W2.a,D.ahead,d2,_,_,rfl,e2,T.f9,T.pY,rfl,g1,g2,_,_,rfl,t1.seq,t2.seq,λr hr0=>qT (K:=K) (a:=g1) (b:=g2) (xs:=nvs (setOf Z 0 (aT x1.begins x1.ends_ c x1.on))) (ys:=nvs (setOf Z 0 (aT x2.begins x2.ends_ c x2.on))) (nvs (setOf Z 0 TT)) t1.seq t2.seq (by rw[ln,ln]) (by rw[ln,ln]) hr0 (by rw[ln];exact i8 tl5) ?_ ?_⟩
   ·rintro j u v v2 T0 H' hu hv hv2 s5 hT0 R R2 hR;obtain⟨hj,rfl⟩:=bI hv;obtain⟨_,rfl⟩:=bI hv2;obtain⟨_,rfl⟩:=bI hu;refine⟨T0,_,rfl,SqT.of af,rfl,_,_,rfl,_,_,rfl,rfl,rfl,lcT ?_⟩;refine⟨_,rfl,_,rfl,_,_,rfl,rfl,?_⟩;have:=hR _ (ak hT0 (.tup [nv (elt Z 0 (aT x1.begins x1.ends_ c x1.on) j),nv (elt Z 0 (aT x2.begins x2.ends_ c x2.on) j)]));have e:V.int (Builtin.bitAnd ((elt Z 0 (aT x1.begins x1.ends_ c x1.on) j:Nat):Int) ((elt Z 0 (aT x2.begins x2.ends_ c x2.on) j:Nat):Int))=nv (elt Z 0 TT j):=by rw[fc,nR Z 0 _ _ hj,hT]
    rw[<-e]at this;exact this
   ·intro H6 s6 e6;have s06:=s04.trans s6;refine⟨b,bd,ew,bf,Z,0,r,TT,rfl,(wa.same s6).self,fa,by omega,SqL.of e6,λv H7 s7 wl=>?_⟩;have s07:=s06.trans s7;have s47:=s6.trans s7;cases hfd:(Gen.aY (2^Z) 0).find? TT with
    |some p=>
     rw[hfd]at wl;obtain⟨r7,rfl,hr7⟩:=wl;refine⟨_,rfl,_,rfl,?_⟩;rw[NL (λz=>by cases z)];refine cp ⟨_,rfl,q _ _ s07 ?_⟩;have e:Gen.bu (2^Z) most TT=some p:=by
      unfold Gen.bu;rw[Pl,N0,hfd]
     rw[e];exact⟨r7,rfl,hr7⟩
    |none=>
     rw[hfd]at wl;have wl:v=.non:=wl;subst wl;refine⟨_,rfl,_,rfl,?_⟩;rw[NA rfl];refine l4 ⟨⟨_,_,_,rfl⟩,s07,a14.same s47,a24.same s47,λd hd=>?_⟩;rw[show d=0 by omega];exact hfd
  ·obtain⟨L,rfl⟩:∃L,i=L+1:=⟨i-1,by omega⟩;refine bD (λ_=>?_) (λy=>absurd (NA (show(0:Int)<((L+1:Nat):Int) by omega)) y);rw[Pr]at a14 a24;have nbm:∀{W:HAd},(∀b',W.cA b'->H b'=none)->bW K D H4 W Z L x1 c∨bW K D H4 W Z L x2 c->¬W.cA b:=λ{W} fr or z=>by
    rcases or with o|o
    ·obtain⟨C,d,fs,e,l⟩:=o.has b z;exact yd wa e l rfl
    ·obtain⟨C,d,fs,e,l⟩:=o.has b z;exact yd wa e l rfl
   obtain⟨dd1,gg1,ee1,_⟩:=a14.self;refine⟨_,rfl,W1.a,dd1,_,rfl,ee1,rfl,_,rfl,W1,b,bd,ew,bf,Z,L,x1,c,rfl,a14,wa,sc1.pb,sc1.pe,by omega,λH5 a15 k5=>?_⟩;have l1:=a14.loose;have s05:aw H H5:=λb' o h=>k5 _ _ (s04 _ _ h) λz=>by rw[fr1 b' z]at h;cases h
   have wa5:=wa.kp l1 k5 (nbm fr1 (.inl a14));have a25:=a24.kp l1 k5 λb' z y=>apart b' y z;obtain⟨dd2,gg2,ee2,_⟩:=a25.self;refine⟨_,rfl,W2.a,dd2,_,rfl,ee2,rfl,_,rfl,W2,b,bd,ew,bf,Z,L,x2,c,rfl,a25,wa5,sc2.pb,sc2.pe,by omega,λH6 a26 k6=>?_⟩;have l2:=a25.loose;have s06:aw H H6:=λb' o h=>k6 _ _ (s05 _ _ h) λz=>by rw[Lr b' z]at h;cases h
   have nb2:¬W2.cA b:=nbm Lr (.inr a24);have wa6:=wa5.kp l2 k6 nb2;have a16:=a15.kp l2 k6 λb' z y=>apart b' z y;obtain⟨d1,g1,d2,g2,e1,t1,e2,t2⟩:=rest H6 s06 a16 a26 wa6;refine⟨_,rfl,b,bd,_,rfl,wa6.self,rfl,_,rfl,W1.a,D.ahead,d1,_,_,rfl,e1,T.f9,T.pY,rfl,_,rfl,W2.a,D.ahead,d2,_,_,rfl,e2,T.f9,T.pY,rfl,g1,g2,_,_,rfl,t1.seq,t2.seq,λr hr0=>qT (K:=K) (a:=g1) (b:=g2) (xs:=nvs (setOf Z (L+1) (aT x1.begins x1.ends_ c x1.on))) (ys:=nvs (setOf Z (L+1) (aT x2.begins x2.ends_ c x2.on))) (nvs (setOf Z (L+1) TT)) t1.seq t2.seq (by rw[ln,ln]) (by rw[ln,ln]) hr0 (by rw[ln];exact i8 tl5) ?_ ?_⟩
   ·rintro j u v v2 T0 H' hu hv hv2 s5 hT0 R R2 hR;obtain⟨hj,rfl⟩:=bI hv;obtain⟨_,rfl⟩:=bI hv2;obtain⟨_,rfl⟩:=bI hu;refine⟨T0,_,rfl,SqT.of af,rfl,_,_,rfl,_,_,rfl,rfl,rfl,lcT ?_⟩;refine⟨_,rfl,_,rfl,_,_,rfl,rfl,?_⟩;have:=hR _ (ak hT0 (.tup [nv (elt Z (L+1) (aT x1.begins x1.ends_ c x1.on) j),nv (elt Z (L+1) (aT x2.begins x2.ends_ c x2.on) j)]));have e:V.int (Builtin.bitAnd ((elt Z (L+1) (aT x1.begins x1.ends_ c x1.on) j:Nat):Int) ((elt Z (L+1) (aT x2.begins x2.ends_ c x2.on) j:Nat):Int))=nv (elt Z (L+1) TT j):=by rw[fc,nR Z (L+1) _ _ hj,hT]
    rw[<-e]at this;exact this
   ·intro H7 s7 e7;have s07:=s06.trans s7;refine⟨b,bd,ew,bf,Z,L+1,r,TT,rfl,(wa6.same s7).self,fa,by omega,SqL.of e7,λv H8 s8 wl=>?_⟩;have s08:=s07.trans s8;have s68:=s7.trans s8;cases hfd:(Gen.aY (2^Z) (L+1)).find? TT with
    |some p=>
     rw[hfd]at wl;obtain⟨r7,rfl,hr7⟩:=wl;refine⟨_,rfl,_,rfl,?_⟩;rw[NL (λz=>by cases z)];refine cp ⟨_,rfl,q _ _ s08 ?_⟩;have e:Gen.bu (2^Z) most TT=some p:=by
      unfold Gen.bu;rw[List.findSome?_eq_some_iff];refine⟨List.range (L+1),L+1,((List.range (most+1)).drop (L+2)),?_,hfd,λd hd=>no d (NW.mp hd)⟩;have h1:(List.range (most+1)).take (L+1)=List.range (L+1):=by rw[List.take_range];congr 1;omega
      have h2:(List.range (most+1)).drop (L+1)=(L+1)::(List.range (most+1)).drop (L+2):=by
       rw[Od (by rw[OV];exact hi),List.getElem_range]
      rw[<-h1,<-h2,OU]
     rw[e];exact⟨r7,rfl,hr7⟩
    |none=>
     rw[hfd]at wl;have wl:v=.non:=wl;subst wl;refine⟨_,rfl,_,rfl,?_⟩;rw[NA rfl];refine l4 ⟨⟨_,_,_,rfl⟩,s08,a16.same s68,a26.same s68,λd hd=>?_⟩;rcases PY d (L+1)with l|l
     ·exact no d l
     ·rw[show d=L+1 by omega];exact hfd
 ·rintro σ H3 ⟨⟨v6,v7,v8,rfl⟩,s3,a1,a2,no⟩;refine q _ _ s3 ?_;have e:Gen.bu (2^Z) most TT=none:=by
   unfold Gen.bu;rw[Po];intro d hd;have:=NW.mp hd;exact no d (by omega)
  rw[e];rfl
end
structure TAd where
 a:Addr
 dx:Addr
 cl:Addr
 wl:Addr
 sl:Addr
def TAd.own(A:TAd)(b:Addr):Prop:=b=A.a∨b=A.cl∨b=A.wl∨b=A.sl
def stF(facts:Nat)(cl wl sl:Addr):List (Str×V):=[("facts",nv facts),("course",.ref cl),("wishes",.ref wl),("scenes",.ref sl)]
structure Dj(A:TAd)(ws:List WAd)(ss:List SAd):Prop where
 ww:∀(i j:Nat)(W W':WAd),i≠j->ws[i]?=some W->ws[j]?=some W'->∀b,W.cA b->¬W'.cA b
 sns:∀(i j:Nat)(S S':SAd),i≠j->ss[i]?=some S->ss[j]?=some S'->∀b,S.cA b->¬S'.cA b
 wsn:∀W∈ws,∀S∈ss,∀b,W.cA b->¬S.cA b
 wa:∀W∈ws,∀b,W.cA b->¬A.own b
 sa:∀S∈ss,∀b,S.cA b->¬A.own b
 cw:A.cl≠A.wl
 cs:A.cl≠A.sl
 wsl:A.wl≠A.sl
def fF(A:TAd)(ws:List WAd)(ss:List SAd)(b:Addr):Prop:=A.own b∨(∃W∈ws,W.cA b)∨∃S∈ss,S.cA b
structure bC(P:Program)(w:World)(K:Rt)(D:Ad)(H:Hp)(A:TAd)(ws:List WAd)(ss:List SAd)(s:Vbtaak.State):Prop where
 self:H A.a=some (.ins D.aQ A.dx (stF s.facts A.cl A.wl A.sl))
 co:H A.cl=some (.lst (nvs s.course))
 wl:H A.wl=some (.lst (ws.map λW=>V.ref W.a))
 sl:H A.sl=some (.lst (ss.map λS=>V.ref S.a))
 wn:ws.length=s.wishes.length
 wi:∀(j:Nat)(x:Vbtaak.Wish)(W:WAd),s.wishes[j]?=some x->ws[j]?=some W->dF P w K D H W s.facts x.f x.from_ s.course
 sn:ss.length=s.scenes.length
 si:∀(j:Nat)(x:Vbtaak.Scene)(S:SAd),s.scenes[j]?=some x->ss[j]?=some S->cc K D H S s.facts x s.course
 sb:∀x∈s.scenes,x.since<=s.course.length
 dj:Dj A ws ss
 fa:s.facts<=3
 c60:s.course.length<=60
 tu:∀t∈s.course,t<2^s.facts
 w6:s.wishes.length<=6
 s6:s.scenes.length<=6
section
variable{P:Program}{w:World}{K:Rt}{mg:Ru}{base:Heap}{D:Ad}
variable{W:WAd}{gone:Nat}
theorem o9{facts:Nat}(h:dF P w K D H W facts f gone c):Loose D H W.cA:=λb z=>by
 obtain⟨as,m1,_⟩:=h.tms.ms;rcases z with z|z|z|z|z|z
 ·exact bh (D:=D) h.core.self (nk rfl rfl) b z
 ·exact jV h.fol b z
 ·exact bX h.tms.ts b z
 ·exact bX m1 b z
 ·exact cE h.core b (.inr z)
 ·exact cE h.core b (.inl z)
variable{x:Vbtaak.Scene}
theorem sS{S:SAd}(h:cc K D H S Z x c):Loose D H S.cA:=λb z=>by
 rcases z with z|z|z
 ·exact bh (D:=D) h.self (nk rfl rfl) b z
 ·exact jV h.bf b z
 ·exact jV h.ef b z
theorem E8{facts:Nat}(h:dF P w K D H W facts f gone c):∀b,W.cA b->H b≠none:=λb z e=>by
 obtain⟨as,m1,_⟩:=h.tms.ms;obtain⟨kb,b1,_⟩:=h.core.kb;obtain⟨kw,w1,_⟩:=h.core.kw;obtain⟨f1,e1⟩:=bp b1;obtain⟨f2,e2⟩:=bp w1;obtain⟨fl,fm,⟨fdx,fr⟩,_⟩:=h.fol.ex;rcases z with rfl|rfl|rfl|rfl|rfl|rfl
 ·rw[h.core.self]at e;cases e
 ·rw[fr]at e;cases e
 ·rw[h.tms.ts]at e;cases e
 ·rw[m1]at e;cases e
 ·rw[e2]at e;cases e
 ·rw[e1]at e;cases e
theorem Ec{S:SAd}(h:cc K D H S Z x c):∀b,S.cA b->H b≠none:=λb z e=>by
 obtain⟨bl,bm,⟨bdx,hbo⟩,_⟩:=h.bf.ex;obtain⟨el,em,⟨edx,heo⟩,_⟩:=h.ef.ex;rcases z with rfl|rfl|rfl
 ·rw[h.self]at e;cases e
 ·rw[hbo]at e;cases e
 ·rw[heo]at e;cases e
variable{A:TAd}{ws:List WAd}{ss:List SAd}{s:Vbtaak.State}
theorem bC.Ei(h:bC P w K D H A ws ss s):Loose D H A.own:=λb z=>by
 rcases z with z|z|z|z
 ·exact bh (D:=D) h.self (nk rfl rfl) b z
 ·exact bX h.co b z
 ·exact bX h.wl b z
 ·exact bX h.sl b z
theorem bC.E9(h:bC P w K D H A ws ss s)(hW:W∈ws):∃(j:Nat) (x:Vbtaak.Wish),s.wishes[j]?=some x/\ws[j]?=some W:=by
 obtain⟨j,hj⟩:=OZ hW;have hl:j<s.wishes.length:=by rw[<-h.wn];exact(Nh.mp hj).1
 exact⟨j,_,Ng hl,hj⟩
theorem bC.C7(h:bC P w K D H A ws ss s){S:SAd}(hS:S∈ss):∃(j:Nat) (x:Vbtaak.Scene),s.scenes[j]?=some x/\ss[j]?=some S:=by
 obtain⟨j,hj⟩:=OZ hS;have hl:j<s.scenes.length:=by rw[<-h.sn];exact(Nh.mp hj).1
 exact⟨j,_,Ng hl,hj⟩
theorem bC.has(h:bC P w K D H A ws ss s):∀b,fF A ws ss b->H b≠none:=λb z=>by
 rcases z with z|⟨W,hW,z⟩|⟨S,hS,z⟩
 ·intro e;rcases z with rfl|rfl|rfl|rfl
  ·rw[h.self]at e;cases e
  ·rw[h.co]at e;cases e
  ·rw[h.wl]at e;cases e
  ·rw[h.sl]at e;cases e
 ·obtain⟨j,x,h1,h2⟩:=h.E9 hW;exact E8 (h.wi j x W h1 h2) b z
 ·obtain⟨j,x,h1,h2⟩:=h.C7 hS;exact Ec (h.si j x S h1 h2) b z
theorem bC.kp{S:Addr->Prop}{H H':Hp}{A:TAd}{ws:List WAd}{ss:List SAd}{s:Vbtaak.State}(h:bC P w K D H A ws ss s)(l:Loose D H S)(k:Kp S H H')(n:∀b,fF A ws ss b->¬S b):bC P w K D H' A ws ss s:=
 ⟨k _ _ h.self (n _ (.inl (.inl rfl))),k _ _ h.co (n _ (.inl (.inr (.inl rfl)))),k _ _ h.wl (n _ (.inl (.inr (.inr (.inl rfl))))),k _ _ h.sl (n _ (.inl (.inr (.inr (.inr rfl))))),h.wn,
  λj x W h1 h2=>(h.wi j x W h1 h2).kp l k λb z=>n b (.inr (.inl ⟨W,Nr h2,z⟩)),h.sn,λj x T h1 h2=>(h.si j x T h1 h2).kp l k λb z=>n b (.inr (.inr ⟨T,Nr h2,z⟩)),h.sb,h.dj,h.fa,h.c60,h.tu,h.w6,h.s6⟩
theorem bC.same(h:bC P w K D H A ws ss s)(e:aw H H'):bC P w K D H' A ws ss s:=h.kp (S:=λ_=>False) Loose.none (aw.kp e) λ_ _ z=>z
theorem bC.wish{S:Addr->Prop}{H H':Hp}{A:TAd}{ws:List WAd}{ss:List SAd}{s:Vbtaak.State}(h:bC P w K D H A ws ss s){i:Nat}{x:Vbtaak.Wish}{W:WAd}(h1:s.wishes[i]?=some x)(h2:ws[i]?=some W)(hS:∀b,S b->W.cA b)(k:Kp S H H')
  (hw:dF P w K D H' W s.facts x.f x.from_ s.course):bC P w K D H' A ws ss s:=by
 have lo:Loose D H S:=λb z=>o9 (h.wi i x W h1 h2) b (hS b z);have hWm:=Nr h2;refine⟨k _ _ h.self λz=>h.dj.wa W hWm _ (hS _ z) (.inl rfl),k _ _ h.co λz=>h.dj.wa W hWm _ (hS _ z) (.inr (.inl rfl)),k _ _ h.wl λz=>h.dj.wa W hWm _ (hS _ z) (.inr (.inr (.inl rfl))),k _ _ h.sl λz=>h.dj.wa W hWm _ (hS _ z) (.inr (.inr (.inr rfl))),h.wn,λj y W' g1 g2=>?_,h.sn,λj y T g1 g2=>?_,h.sb,h.dj,h.fa,h.c60,h.tu,h.w6,h.s6⟩
 ·by_cases e:i=j
  ·subst e;have:=Nm (h1.symm.trans g1);subst this;have:=Nm (h2.symm.trans g2);subst this;exact hw
  ·exact(h.wi j y W' g1 g2).kp lo k λb z y=>h.dj.ww i j W W' e h2 g2 b (hS b y) z
 ·exact(h.si j y T g1 g2).kp lo k λb z y=>h.dj.wsn W hWm T (Nr g2) b (hS b y) z
def After(P:Program)(w:World)(K:Rt)(D:Ad)(H:Hp)(A:TAd)(ws:List WAd)(ss:List SAd)(X:Addr->Prop)(r:Vbtaak.State×List Int)(Q:VK):Prop:=∀ws' ss' p H',bC P w K D H' A ws' ss' r.1->Kp (λb=>fF A ws ss b∨X b) H H'->
 (∀b o,H b=some o->¬(fF A ws ss b∨X b)->¬fF A ws' ss' b/\b≠p)->H' p=some (.lst (ivs r.2))->Q (.ref p) H'
variable{X:Addr->Prop}{r:Vbtaak.State×List Int}{Q:VK}{l:List V}
theorem After.new{ws':List WAd}{ss':List SAd}(q:After P w K D H A ws ss X r Q)(st:bC P w K D H1 A ws' ss' r.1)(k:Kp (λb=>fF A ws ss b∨X b) H H1)
  (nf:∀b o,H b=some o->¬(fF A ws ss b∨X b)->¬fF A ws' ss' b){p:Addr}(hp:H1 p=none)(hl:l=ivs r.2):Q (.ref p) (upd H1 p (.lst l)):=by
 subst hl;exact q ws' ss' p _ (st.same (ak hp _)) (k.trans (aw.kp (ak hp _))) (λb o e n=>⟨nf b o e n,ax (k _ _ e n) hp⟩) af
theorem After.lW{ans:List Int}(q:After P w K D H A ws ss X (s,ans) Q)(st:bC P w K D H1 A ws ss s)(k:Kp (λb=>fF A ws ss b∨X b) H H1){p:Addr}(hp:H1 p=none)(hl:l=ivs ans):Q (.ref p) (upd H1 p (.lst l)):=
 q.new (r:=(s,ans)) st k (λb o e n z=>n (.inl z)) hp hl
theorem After.bad(q:After P w K D H A ws ss X r Q)(st:bC P w K D H A ws ss s)(e:aw H H1)(hr:r=(s,[n])):1<=sizeLine/\∀p,H1 p=none->Q (.ref p) (upd H1 p (.lst [.int n])):=by
 subst hr;exact⟨by decide,λp hp=>q.lW (st.same e) (aw.kp e) hp rfl⟩
inductive spM(P:Program)(w:World)(K:Rt)(D:Ad)(args:List V->Vbtaak.Call->Hp->(Addr->Prop)->Prop)(vs:List V)(H:Hp)(Q:VK)(E:XK):Prop
 |mk (A ws ss s vs' cl X:_):vs=.ref (TAd.a A)::vs'->args vs' cl H X->bC P w K D H A ws ss s->(∀b,X b->¬fF A ws ss b)->After P w K D H A ws ss X (Vbtaak.step s cl) Q->spM P w K D args vs H Q E
end
variable{gone:Nat}
theorem HG{facts:Nat}(wf:Wf facts f c)(hg:gone<=c.length):(match Mir.fC (Rdg.pts 0 f) (2^facts) c gone 0 1 with|none=>0|some _=>1)=bit (sat c f gone):=by
 have e:=Mir.rh wf.rep (Rdg.hZ f) (2^facts) c gone hg 0 true;have e2:bit true=1:=rfl;rw[e2]at e;rw[e];have e3:Gen.bu (2^facts) 0 (λp=>sat (c++p) f gone==true)=if sat c f gone=true then some []else none:=by
  unfold Gen.bu Gen.aY;show List.findSome? _ [0]=_;simp only[N0,List.findSome?_nil,OD,List.find?_nil,NX];cases sat c f gone<;>rfl
 rw[e3];cases sat c f gone<;>rfl
theorem HL{facts:Nat}(wf:Wf facts f c)(hg:gone<=c.length)(most:Nat)(b:Bool):Mir.fC (Rdg.pts 0 f) (2^facts) c gone most (bit b)=Gen.bu (2^facts) most λp=>sat (c++p) f gone==b:=
 Mir.rh wf.rep (Rdg.hZ f) (2^facts) c gone hg most b
theorem vo{facts:Nat}{f:Vbtaak.F}(R:Mir.Rep (Rdg.pts 0 f) (Rdg.subs f))(c:List Nat):∀m,m<=c.length->gr (Rdg.pts 0 f) c m=Mir.hC c (Rdg.subs f) (c.length-m)
 |0,_=>Mir.uv R c
 |m+1,h=>by
  show Mir.aZ _ (c.getD (c.length-1-m) 0) (vD _ c (c.length-1-m)) (gr _ c m)=_;rw[vo (facts:=facts) R c m (by omega)];have hk:c[c.length-1-m]?=some (c.getD (c.length-1-m) 0):=by rw[Nj,Ng (by omega)];rfl
  have e:=Mir.mj R hk;have e2:Mir.jN c (Rdg.subs f) (c.length-1-m)=vD (Rdg.pts 0 f) c (c.length-1-m):=by
   unfold vD;have h1:(c.take (c.length-1-m)).length=c.length-1-m:=by rw[N2];omega
   have h2:=Mir.jM R (c:=c.take (c.length-1-m)) (e:=c.drop (c.length-1-m)) (k:=c.length-1-m) (by omega);rw[OU]at h2;rw[h2,Mir.iG R,h1]
  rw[e2]at e;rw[show c.length-m=c.length-1-m+1 by omega,e,show c.length-(m+1)=c.length-1-m by omega]
theorem Ft{facts:Nat}(hw:Rdg.wf facts f=true)(hs:sound f=true)(c:List Nat){pl:Nat}(h1:1<=pl)(h2:pl<=c.length):(gr (Rdg.pts 0 f) c (c.length+1-pl)).getD (Rdg.pts 0 f).length 0=bit (sat c f (pl-1)):=by
 have R:=Rdg.yt hw hs;rw[vo (facts:=facts) R c _ (by omega),show c.length-(c.length+1-pl)=pl-1 by omega];unfold Mir.hC;rw[Rdg.aR,Nj,NM (by rw[Nf,Rdg.ba];exact Nq _),Nf,Rdg.ba,OF,Mir.fG (Rdg.hZ f)];rfl
section
variable{P:Program}{w:World}{K:Rt}{mg:Ru}{base:Heap}{D:Ad}
inductive mq(P:Program)(w:World)(K:Rt)(D:Ad)(vs:List V)(H:Hp)(Q:VK)(E:XK):Prop
 |mk (x dx:_):vs=[.ref x]->H x=some (.ins D.aQ dx [])->(∀A H',TAd.a A=x->bC P w K D H' A [] [] Vbtaak.start->Kp (·=x) H H'->(∀b,A.own b->b=x∨H b=none)->Q .non H')->mq P w K D vs H Q E
abbrev u9:Stmt:=inClass (top 70) 0
theorem zX:aF ["self"] ["self"] (az u9):=⟨rfl,rfl,rfl,by decide +kernel,rfl,by decide +kernel,by decide +kernel⟩
variable{f:Addr}{fd:FuncData}
theorem yI(F:Fun K "__init__" "Story.__init__" u9 f fd)(T:Txt K mg D):bw P w K mg base CX0 1 f fd ["self"] (mq P w K D):=by
 refine F.ok zX (λvs H Q E h=>?_) (λcdv A outer s H vs Q E hr h=>?_)
 ·obtain⟨x,dx,rfl,_⟩:=h;rfl
 obtain⟨x,dx,rfl,hx,q⟩:=h;refine⟨_,(ae (bb (pv 0) ao rfl)
   (ae (bb (pv 0) (aV ag) rfl)
   (ae (bb (pv 0) (aV ag) rfl)
   (ai (bb (pv 0) (aV ag) rfl))))),?_⟩
 refine⟨_,rfl,x,D.aQ,dx,_,rfl,hx,T.aM,T.iF,(by show 0<1000;decide),?_⟩;generalize hH1:upd H x _=H1;have k1:Kp (·=x) H H1:=by rw[<-hH1];exact aJ
 have e1:H1 x=some (.ins D.aQ dx [("facts",nv 0)]):=by rw[<-hH1,af];rfl
 clear hH1;have free:∀{H':Hp}{b:Addr},Kp (·=x) H H'->H' b=none->b≠x->H b=none:=λ{H' b} k h n=>by
  cases z:H b with
  |none=>rfl
  |some o=>have:=k _ _ z n;rw[h]at this;cases this
 refine⟨NT _,λcl hcl=>⟨_,rfl,x,D.aQ,dx,_,rfl,(ak hcl _) _ _ e1,T.aM,T.fb,(by show 1<1000;decide),?_⟩⟩;have nc:cl≠x:=λz=>by rw[z,e1]at hcl;cases hcl
 generalize hH2:upd (upd H1 cl _) x _=H2;have k2:Kp (·=x) H1 H2:=by rw[<-hH2];exact(aw.kp (ak hcl _)).trans aJ
 have e2:H2 x=some (.ins D.aQ dx [("facts",nv 0),("course",.ref cl)]):=by rw[<-hH2,af];rfl
 have c2:H2 cl=some (.lst []):=by rw[<-hH2,aB nc,af]
 clear hH2;refine⟨NT _,λwl hwl=>⟨_,rfl,x,D.aQ,dx,_,rfl,(ak hwl _) _ _ e2,T.aM,T.dw,(by show 2<1000;decide),?_⟩⟩;have nw:wl≠x:=λz=>by rw[z,e2]at hwl;cases hwl
 have ncw:cl≠wl:=λz=>by rw[<-z,c2]at hwl;cases hwl
 generalize hH3:upd (upd H2 wl _) x _=H3;have k3:Kp (·=x) H2 H3:=by rw[<-hH3];exact(aw.kp (ak hwl _)).trans aJ
 have e3:H3 x=some (.ins D.aQ dx [("facts",nv 0),("course",.ref cl),("wishes",.ref wl)]):=by rw[<-hH3,af];rfl
 have w3:H3 wl=some (.lst []):=by rw[<-hH3,aB nw,af]
 clear hH3;refine⟨NT _,λsl hsl=>⟨_,rfl,x,D.aQ,dx,_,rfl,(ak hsl _) _ _ e3,T.aM,T.dI,(by show 3<1000;decide),?_⟩⟩;have ns:sl≠x:=λz=>by rw[z,e3]at hsl;cases hsl
 have nws:wl≠sl:=λz=>by rw[<-z,w3]at hsl;cases hsl
 have ncs:cl≠sl:=λz=>by rw[<-z,k3 _ _ c2 nc]at hsl;cases hsl
 generalize hH4:upd (upd H3 sl _) x _=H4;have k4:Kp (·=x) H3 H4:=by rw[<-hH4];exact(aw.kp (ak hsl _)).trans aJ
 have e4:H4 x=some (.ins D.aQ dx (stF 0 cl wl sl)):=by rw[<-hH4,af];rfl
 have s4:H4 sl=some (.lst []):=by rw[<-hH4,aB ns,af]
 clear hH4;have k12:=k1.trans k2;have k13:=k12.trans k3;refine q ⟨x,dx,cl,wl,sl⟩ H4 rfl ⟨e4,k4 _ _ (k3 _ _ c2 nc) nc,k4 _ _ w3 nw,s4,rfl,(λj x W h1=>by cases j<;>cases h1),rfl,(λj x W h1=>by cases j<;>cases h1),(λx hx=>by cases hx),⟨(λi j W W' _ h=>by cases i<;>cases h),(λi j W W' _ h=>by cases i<;>cases h),(λW h=>by cases h),(λW h=>by cases h),(λW h=>by cases h),ncw,ncs,nws⟩,NT _,NT _,(λt ht=>by cases ht),NT _,NT _⟩ (k13.trans k4) ?_;rintro b (z|z|z|z)
 ·exact .inl z
 ·exact .inr (by rw[z];exact free k1 hcl nc)
 ·exact .inr (by rw[z];exact free k12 hwl nw)
 ·exact .inr (by rw[z];exact free k13 hsl ns)
def DW:List V->Vbtaak.Call->Hp->(Addr->Prop)->Prop:=λvs cl _ X=>∃n:Int,vs=[.int n]/\cl=.facts n/\X=λ_=>False
abbrev lF:Stmt:=inClass (top 70) 2
theorem rQ:aF ["self","facts"] ["self","facts"] (az lF):=⟨rfl,rfl,rfl,by decide +kernel,rfl,by decide +kernel,by decide +kernel⟩
theorem oq{α:Type}{l:List α}:l.isEmpty=false↔0<l.length:=by cases l<;>simp
theorem wN(F:Fun K "tell_facts" "Story.tell_facts" lF f fd)(T:Txt K mg D):bw P w K mg base CX0 1 f fd ["self","facts"] (spM P w K D DW):=by
 refine F.ok rQ (λvs H Q E h=>?_) (λcdv A outer s H vs Q E hr h=>?_)
 ·obtain⟨A,ws,ss,s,vs',cl,X,rfl,⟨n,rfl,_⟩,_⟩:=h;rfl
 obtain⟨A,ws,ss,s,vs',cl,X,rfl,⟨n,rfl,rfl,rfl⟩,st,nX,q⟩:=h;refine⟨_,(ae (aW (eH (dg fB fB ao (pv 1) (a9 T.Bb))) (ai (aA (aV (aa (a9 T.eW) ag)))) aD)
   (ae (aW (aH oY (aI fJ (aI fJ (aP aC rfl T.len NO (aa (au (pv 0) rfl) ag)) (aP aC rfl T.len NO (aa (au (pv 0) rfl) ag))) (aP aC rfl T.len NO (aa (au (pv 0) rfl) ag))) ao (aU _)) (ai (aA (aV (aa (a9 T.wX) ag)))) aD)
   (ae (bb (pv 0) (pv 1) rfl)
   (ai (aA (aV (aa ao ag))))))),?_⟩
 have stp:Vbtaak.step s (.facts n)=if Vbtaak.inRange n 0 3=false then(s,[-1])else if s.course.isEmpty=false∨s.wishes.isEmpty=false∨s.scenes.isEmpty=false then(s,[-3])else({s with facts:=n.toNat},[0]):=rfl;by_cases r0:0<=n/\n<=3
 rotate_left
 ·have e:Vbtaak.step s (.facts n)=(s,[-1]):=by
   rw[stp,Nz];unfold Vbtaak.inRange;exact NL r0
  have bad:=q.bad st (aw.refl _) e;refine⟨_,rfl,_,_,rfl,rfl,_,rfl,bD (λc=>⟨_,_,rfl,rfl,_,rfl,?_⟩) (λc=>⟨_,rfl,cp bad⟩)⟩;have:¬n<=3:=λz=>r0 ⟨NG c,z⟩;rw[NL this];exact cp bad
 have inr:¬Vbtaak.inRange n 0 3=false:=by unfold Vbtaak.inRange;rw[NA r0];exact Bool.noConfusion
 refine⟨_,rfl,_,_,rfl,rfl,_,rfl,bD (λc=>⟨_,_,rfl,rfl,_,rfl,mY r0.2 ?_⟩) (λc=>absurd (NA r0.1) c)⟩;refine⟨_,rfl,A.a,D.aQ,A.dx,_,_,rfl,st.self,T.aM,T.fb,rfl,A.cl,_,rfl,.inl (SqL.of st.co),_,rfl,A.a,D.aQ,A.dx,_,_,rfl,st.self,T.aM,T.dw,rfl,A.wl,_,rfl,.inl (SqL.of st.wl),_,_,rfl,rfl,_,rfl,A.a,D.aQ,A.dx,_,_,rfl,st.self,T.aM,T.dI,rfl,A.sl,_,rfl,.inl (SqL.of st.sl),_,_,rfl,rfl,_,_,rfl,rfl,_,rfl,bD (λc=>?_) (λc=>?_)⟩
 ·have c:(0:Int)<((nvs s.course).length:Int)+((ws.map λW=>V.ref W.a).length:Int)+((ss.map λS=>V.ref S.a).length:Int):=NG c;rw[Nf,Nf,Nf,st.wn,st.sn]at c;have e:Vbtaak.step s (.facts n)=(s,[-3]):=by
   rw[stp,Nt inr,Nz];by_cases z1:0<s.course.length
   ·exact .inl (oq.mpr z1)
   ·by_cases z2:0<s.wishes.length
    ·exact .inr (.inl (oq.mpr z2))
    ·exact .inr (.inr (oq.mpr (by omega)))
  exact q.bad st (aw.refl _) e
 ·have c:¬(0:Int)<((nvs s.course).length:Int)+((ws.map λW=>V.ref W.a).length:Int)+((ss.map λS=>V.ref S.a).length:Int):=λz=>c (NA z);rw[Nf,Nf,Nf,st.wn,st.sn]at c;have e:Vbtaak.step s (.facts n)=({s with facts:=n.toNat},[0]):=by
   rw[stp,Nt inr,Nt];rintro(z|z|z)
   ·have:=oq.mp z;omega
   ·have:=oq.mp z;omega
   ·have:=oq.mp z;omega
  rw[e]at q;refine⟨_,rfl,_,rfl,A.a,D.aQ,A.dx,_,rfl,st.self,T.aM,T.iF,(by show 4<1000;decide),?_⟩;generalize hH1:upd H A.a _=H1;have k1:Kp (·=A.a) H H1:=by rw[<-hH1];exact aJ
  have e1:H1 A.a=some (.ins D.aQ A.dx (stF n.toNat A.cl A.wl A.sl)):=by
   rw[<-hH1,af];refine congrArg (λz:Int=>some (HO.ins D.aQ A.dx [("facts",V.int z),("course",.ref A.cl),("wishes",.ref A.wl),("scenes",.ref A.sl)])) ?_;omega
  clear hH1;have wz:s.wishes=[]:=OH.mp (by omega);have sz:s.scenes=[]:=OH.mp (by omega);have cz:s.course=[]:=OH.mp (by omega);have na:∀{b xs},H b=some (.lst xs)->b≠A.a:=λe=>bJ e st.self (by intro z;cases z);have st1:bC P w K D H1 A ws ss {s with facts:=n.toNat}:=⟨e1,k1 _ _ st.co (na st.co),k1 _ _ st.wl (na st.wl),k1 _ _ st.sl (na st.sl),st.wn,(λj x W h1=>by rw[show({s with facts:=n.toNat}:Vbtaak.State).wishes=[]from wz]at h1;cases j<;>cases h1),st.sn,(λj x W h1=>by rw[show({s with facts:=n.toNat}:Vbtaak.State).scenes=[]from sz]at h1;cases j<;>cases h1),st.sb,st.dj,(by show n.toNat<=3;omega),st.c60,(λt ht=>by rw[show({s with facts:=n.toNat}:Vbtaak.State).course=[]from cz]at ht;cases ht),st.w6,st.s6⟩;refine⟨(by show 1<=sizeLine;decide),λp hp=>q.new st1 (k1.mono λb z=>.inl (.inl (.inl z))) (λb o _ n z=>n (.inl z)) hp rfl⟩
def x9(mk:Int->Vbtaak.Call):List V->Vbtaak.Call->Hp->(Addr->Prop)->Prop:=λvs cl _ X=>∃n:Int,vs=[.int n]/\cl=mk n/\X=λ_=>False
variable{s:Vbtaak.State}
theorem qk(h:0<=n/\n<(s.wishes.length:Int)):∃x,s.wishes[n.toNat]?=some x/\(if n<0 then none else s.wishes[n.toNat]?)=some x:=by
 have hl:n.toNat<s.wishes.length:=by omega
 exact⟨_,Ng hl,by rw[Nt (by omega)];exact Ng hl⟩
theorem qj(h:¬(0<=n/\n<(s.wishes.length:Int))):(if n<0 then none else s.wishes[n.toNat]?)=none:=by
 by_cases z:n<0
 ·rw[Nz z]
 ·rw[Nt z];exact QG (by omega)
abbrev oR:Stmt:=inClass (top 70) 11
theorem mz:aF ["self","number","wish"] ["self","number"] (az oR):=⟨rfl,rfl,rfl,by decide +kernel,rfl,by decide +kernel,by decide +kernel⟩
theorem cT:∀f:Vbtaak.F,(Vbtaak.code f).length<=2*size f
 |.yes=>by simp[Vbtaak.code,size]
 |.fact _=>by simp[Vbtaak.code,size]
 |.turn=>by simp[Vbtaak.code,size]
 |.not a=>by have:=cT a;simp[Vbtaak.code,size];omega
 |.before a=>by have:=cT a;simp[Vbtaak.code,size];omega
 |.next a=>by have:=cT a;simp[Vbtaak.code,size];omega
 |.within _ a=>by have:=cT a;simp[Vbtaak.code,size];omega
 |.and a b=>by have:=cT a;have:=cT b;simp[Vbtaak.code,size];omega
 |.or a b=>by have:=cT a;have:=cT b;simp[Vbtaak.code,size];omega
 |.since a b=>by have:=cT a;have:=cT b;simp[Vbtaak.code,size];omega
 |.until a b=>by have:=cT a;have:=cT b;simp[Vbtaak.code,size];omega
theorem Aq(F:Fun K "ask_show" "Story.ask_show" oR f fd)(T:Txt K mg D):bw P w K mg base CX0 1 f fd ["self","number"] (spM P w K D (x9 .show_)):=by
 refine F.ok mz (λvs H Q E h=>?_) (λcdv A outer s H vs Q E hr h=>?_)
 ·obtain⟨A,ws,ss,s,vs',cl,X,rfl,⟨n,rfl,_⟩,_⟩:=h;rfl
 obtain⟨A,ws,ss,s,vs',cl,X,rfl,⟨n,rfl,rfl,rfl⟩,st,nX,q⟩:=h;refine⟨_,(ae (aW (eH (dg fB sY ao (pv 1) (aP aC rfl T.len NO (aa (au (pv 0) rfl) ag)))) (ai (aA (aV (aa (a9 T.kM) ag)))) aD)
   (ae (aG (i:=2) mz.nd rfl (Or.inl rfl) (aS aE (au (pv 0) rfl) (pv 1) (λ_ _=>rfl)))
   (ai (aA (aI Hi (aV (aa ao (aa (au (pv 2) rfl) ag))) (au (pv 2) rfl)))))),?_⟩
 have zB:((ws.map λW=>V.ref W.a).length:Int)=(s.wishes.length:Int):=by rw[Nf,st.wn]
 by_cases r0:0<=n/\n<(s.wishes.length:Int)
 rotate_left
 ·have e:Vbtaak.step s (.show_ n)=(s,[-4]):=by
   show(match (if n<0 then none else s.wishes[n.toNat]?)with|none=>_|some x=>_)=_;rw[qj r0];rfl
  have bad:=q.bad st (aw.refl _) e;refine⟨_,rfl,_,_,rfl,rfl,_,rfl,bD (λc=>⟨_,rfl,A.a,D.aQ,A.dx,_,_,rfl,st.self,T.aM,T.dw,rfl,A.wl,_,rfl,.inl (SqL.of st.wl),_,_,rfl,rfl,_,rfl,?_⟩) (λc=>⟨_,rfl,cp bad⟩)⟩;have:¬n<((ws.map λW=>V.ref W.a).length:Int):=λz=>r0 ⟨NG c,by rw[<-zB];exact z⟩;rw[NL this];exact cp bad
 refine⟨_,rfl,_,_,rfl,rfl,_,rfl,bD (λc=>⟨_,rfl,A.a,D.aQ,A.dx,_,_,rfl,st.self,T.aM,T.dw,rfl,A.wl,_,rfl,.inl (SqL.of st.wl),_,_,rfl,rfl,_,rfl,mY (by rw[zB];exact r0.2) ?_⟩) (λc=>absurd (NA r0.1) c)⟩;obtain⟨x,hx,hx2⟩:=qk r0;obtain⟨W,hW⟩:∃W,ws[n.toNat]?=some W:=⟨_,Ng (by rw[st.wn];omega)⟩;have wi:=st.wi _ x W hx hW;have e:Vbtaak.step s (.show_ n)=(s,0::(x.from_::Vbtaak.code x.f).map λ(n:Nat)=>(n:Int)):=by
  show(match (if n<0 then none else s.wishes[n.toNat]?)with|none=>_|some x=>_)=_;rw[hx2];rfl
 rw[e]at q;have at_:atI (ws.map λW=>V.ref W.a) n=some (.ref W.a):=by
  rw[show n=((n.toNat:Nat):Int) by omega];exact bg (by rw[NC,hW];rfl)
 obtain⟨ro,JN⟩:=wi.row;refine⟨_,rfl,A.a,D.aQ,A.dx,_,_,rfl,st.self,T.aM,T.dw,rfl,_,rfl,A.wl,_,_,_,rfl,rfl,SqL.of st.wl,at_,?_⟩;refine⟨_,rfl,W.a,D.wish,W.dx,_,_,rfl,wi.core.self,T.bN,T.ID,rfl,(by show 2<=sizeLine;decide),λp hp=>?_⟩;have s1:=ak hp (.lst [.int 0,nv x.from_]);refine⟨_,rfl,W.a,D.wish,W.dx,_,_,rfl,s1 _ _ wi.core.self,T.bN,T.KZ,rfl,p,W.rl,_,_,rfl,rfl,af,.inr ⟨ro,s1 _ _ JN⟩,?_,λp2 hp2=>q.lW (st.same s1) (aw.kp s1) hp2 rfl⟩;have:=cT x.f;have:=wi.wfh.sz;have h2:(ivs (Rdg.br x.f)).length=(Vbtaak.code x.f).length:=by unfold Rdg.br;rw[Nf,Nf]
 rw[h2];exact OI (bx (by simp;omega))
end
variable{n:Nat}
theorem ou{tc:Nat}{T:List Nat->Bool}{p:List Nat}(h:Gen.bu tc n T=some p):p.length<=n:=by
 unfold Gen.bu at h;obtain⟨d,hd,e⟩:=List.exists_of_findSome?_eq_some h;have:=NW.mp hd;have:=(Gen.jL.mp (List.mem_of_find?_eq_some e)).1;omega
theorem mW(l:List Nat):ivs (l.map λ(n:Nat)=>(n:Int))=nvs l:=by unfold ivs nvs;rw[O6];rfl
section
variable{P:Program}{w:World}{K:Rt}{mg:Ru}{base:Heap}{D:Ad}
abbrev oS:Stmt:=inClass (top 70) 6
theorem uX:aF ["self","number"] ["self","number"] (az oS):=⟨rfl,rfl,rfl,by decide +kernel,rfl,by decide +kernel,by decide +kernel⟩
variable{f:Addr}{fd:FuncData}
theorem Ar(F:Fun K "ask_kept" "Story.ask_kept" oS f fd)(T:Txt K mg D)(xc:Mt P w K mg base D.wish "kept_so_far" 20 ["self"] (BO P w K D)):bw P w K mg base CX0 21 f fd ["self","number"] (spM P w K D (x9 .kept)):=by
 refine F.ok uX (λvs H Q E h=>?_) (λcdv A outer s H vs Q E hr h=>?_)
 ·obtain⟨A,ws,ss,s,vs',cl,X,rfl,⟨n,rfl,_⟩,_⟩:=h;rfl
 obtain⟨A,ws,ss,s,vs',cl,X,rfl,⟨n,rfl,rfl,rfl⟩,st,nX,q⟩:=h;refine⟨_,(ae (aW (eH (dg fB sY ao (pv 1) (aP aC rfl T.len NO (aa (au (pv 0) rfl) ag)))) (ai (aA (aV (aa (a9 T.kM) ag)))) aD)
   (ai (aA (aV (aa ao (aa (Fw (aS aE (au (pv 0) rfl) (pv 1) (λ_ _=>rfl)) xc hr) ag)))))),?_⟩
 have zB:((ws.map λW=>V.ref W.a).length:Int)=(s.wishes.length:Int):=by rw[Nf,st.wn]
 by_cases r0:0<=n/\n<(s.wishes.length:Int)
 rotate_left
 ·have e:Vbtaak.step s (.kept n)=(s,[-4]):=by
   show(match (if n<0 then none else s.wishes[n.toNat]?)with|none=>_|some x=>_)=_;rw[qj r0];rfl
  have bad:=q.bad st (aw.refl _) e;refine⟨_,rfl,_,_,rfl,rfl,_,rfl,bD (λc=>⟨_,rfl,A.a,D.aQ,A.dx,_,_,rfl,st.self,T.aM,T.dw,rfl,A.wl,_,rfl,.inl (SqL.of st.wl),_,_,rfl,rfl,_,rfl,?_⟩) (λc=>⟨_,rfl,cp bad⟩)⟩;have:¬n<((ws.map λW=>V.ref W.a).length:Int):=λz=>r0 ⟨NG c,by rw[<-zB];exact z⟩;rw[NL this];exact cp bad
 refine⟨_,rfl,_,_,rfl,rfl,_,rfl,bD (λc=>⟨_,rfl,A.a,D.aQ,A.dx,_,_,rfl,st.self,T.aM,T.dw,rfl,A.wl,_,rfl,.inl (SqL.of st.wl),_,_,rfl,rfl,_,rfl,mY (by rw[zB];exact r0.2) ?_⟩) (λc=>absurd (NA r0.1) c)⟩;obtain⟨x,hx,hx2⟩:=qk r0;obtain⟨W,hW⟩:∃W,ws[n.toNat]?=some W:=⟨_,Ng (by rw[st.wn];omega)⟩;have wi:=st.wi _ x W hx hW;have e:Vbtaak.step s (.kept n)=(s,[0,((bit (sat s.course x.f x.from_):Nat):Int)]):=by
  show(match (if n<0 then none else s.wishes[n.toNat]?)with|none=>_|some x=>_)=_;rw[hx2];show Vbtaak.yes s [bit (Vbtaak.ends (Vbtaak.runOf s x).rest)]=_;rw[Vbs.F4 wi.wfh.sd wi.gl];rfl
 rw[e]at q;have at_:atI (ws.map λW=>V.ref W.a) n=some (.ref W.a):=by
  rw[show n=((n.toNat:Nat):Int) by omega];exact bg (by rw[NC,hW];rfl)
 refine⟨_,rfl,A.a,D.aQ,A.dx,_,_,rfl,st.self,T.aM,T.dw,rfl,_,rfl,A.wl,_,_,_,rfl,rfl,SqL.of st.wl,at_,W.a,W.dx,_,rfl,wi.core.self,rfl,W,s.facts,x.f,x.from_,s.course,rfl,wi,λH1 w1 k1=>?_⟩;have hm:∀b,b=W.kb∨b=W.kw->W.cA b:=λb z=>z.elim (λz=>.inr (.inr (.inr (.inr (.inr z))))) (λz=>.inr (.inr (.inr (.inr (.inl z)))));have st1:=st.wish hx hW hm k1 w1;exact⟨(by show 2<=sizeLine;decide),λp hp=>q.lW st1 (k1.mono λb z=>.inl (.inr (.inl ⟨W,Nr hW,hm b z⟩))) hp (congrArg (λz:Nat=>[V.int 0,nv z]) (HG wi.wfh wi.gl))⟩
def uI(mk:Int->Int->Int->Vbtaak.Call):List V->Vbtaak.Call->Hp->(Addr->Prop)->Prop:=λvs cl _ X=>∃n m k:Int,vs=[.int n,.int m,.int k]/\cl=mk n m k/\X=λ_=>False
abbrev oT:Stmt:=inClass (top 70) 7
theorem mB:aF ["self","number","most","kept","way"] ["self","number","most","kept"] (az oT):=⟨rfl,rfl,rfl,by decide +kernel,rfl,by decide +kernel,by decide +kernel⟩
theorem As(F:Fun K "ask_hope" "Story.ask_hope" oT f fd)(T:Txt K mg D)(nP:Mt P w K mg base D.wish "first_way" 19 ["self","most","kept"] (kg P w K D)):bw P w K mg base CX0 20 f fd ["self","number","most","kept"] (spM P w K D (uI .hope)):=by
 refine F.ok mB (λvs H Q E h=>?_) (λcdv A outer s H vs Q E hr h=>?_)
 ·obtain⟨A,ws,ss,s,vs',cl,X,rfl,⟨n,m,k,rfl,_⟩,_⟩:=h;rfl
 obtain⟨A,ws,ss,s,vs',cl,X,rfl,⟨n,m,k,rfl,rfl,rfl⟩,st,nX,q⟩:=h;refine⟨_,(ae (aW (PW.pt (vi (eH (dg fB fB ao (pv 2) (a9 T.xR))) (pQ (eH (dg fB fB ao (pv 3) ao))))) (ai (aA (aV (aa (a9 T.eW) ag)))) aD)
   (ae (aW (eH (dg fB sY ao (pv 1) (aP aC rfl T.len NO (aa (au (pv 0) rfl) ag)))) (ai (aA (aV (aa (a9 T.kM) ag)))) aD)
   (ae (aG (i:=4) mB.nd rfl (Or.inl rfl) (bZ (aS aE (au (pv 0) rfl) (pv 1) (λ_ _=>rfl)) nP hr (aa (pv 2) (aa (pv 3) ag))))
   (ai (aA (eP (fH (kr (pv 4))) (aV (aa ao (aa ao ag))) (aI pS (aV (aa ao (aa ao ag))) (ia zj rfl T.list Ih (aa (pv 4) ag))))))))),?_⟩
 have zB:((ws.map λW=>V.ref W.a).length:Int)=(s.wishes.length:Int):=by rw[Nf,st.wn]
 have stp:Vbtaak.step s (.hope n m k)=match (if n<0 then none else s.wishes[n.toNat]?)with
   |none=>if Vbtaak.inRange m 0 6=false∨Vbtaak.inRange k 0 1=false then(s,[-1])else(s,[-4])
   |some x=>if Vbtaak.inRange m 0 6=false∨Vbtaak.inRange k 0 1=false then(s,[-1])else match Vbtaak.search (2^s.facts) (Vbtaak.backs x.f) (k==1) m.toNat [Vbtaak.key (Vbtaak.runOf s x)] [Vbtaak.runOf s x]with
    |none=>Vbtaak.yes s [0]
    |some p=>Vbtaak.yes s (1::p):=rfl
 have irm:Vbtaak.inRange m 0 6=decide (0<=m/\m<=6):=rfl;have irk:Vbtaak.inRange k 0 1=decide (0<=k/\k<=1):=rfl;by_cases rm:0<=m/\m<=6
 rotate_left
 ·have e:Vbtaak.step s (.hope n m k)=(s,[-1]):=by
   rw[stp];have:Vbtaak.inRange m 0 6=false:=by rw[irm];exact NL rm
   cases(if n<0 then none else s.wishes[n.toNat]?)with
   |none=>exact Nz (.inl this)
   |some x=>exact Nz (.inl this)
  have bad:=q.bad st (aw.refl _) e;refine⟨_,rfl,_,_,rfl,rfl,_,rfl,bD (λc=>⟨_,_,rfl,rfl,_,rfl,?_⟩) (λc=>⟨_,rfl,cp (cp bad)⟩)⟩;have:¬m<=6:=λz=>rm ⟨NG c,z⟩;rw[NL this];exact cp (cp bad)
 refine⟨_,rfl,_,_,rfl,rfl,_,rfl,bD (λc=>⟨_,_,rfl,rfl,_,rfl,mY rm.2 ?_⟩) (λc=>absurd (NA rm.1) c)⟩;by_cases rk:0<=k/\k<=1
 rotate_left
 ·have e:Vbtaak.step s (.hope n m k)=(s,[-1]):=by
   rw[stp];have:Vbtaak.inRange k 0 1=false:=by rw[irk];exact NL rk
   cases(if n<0 then none else s.wishes[n.toNat]?)with
   |none=>exact Nz (.inr this)
   |some x=>exact Nz (.inr this)
  have bad:=q.bad st (aw.refl _) e;refine⟨_,rfl,_,_,rfl,rfl,_,rfl,bD (λc=>⟨_,_,rfl,rfl,_,rfl,?_⟩) (λc=>⟨_,rfl,cp bad⟩)⟩;have:¬k<=1:=λz=>rk ⟨NG c,z⟩;rw[NL this];exact cp bad
 refine⟨_,rfl,_,_,rfl,rfl,_,rfl,bD (λc=>⟨_,_,rfl,rfl,_,rfl,mY rk.2 ?_⟩) (λc=>absurd (NA rk.1) c)⟩;have inr:¬(Vbtaak.inRange m 0 6=false∨Vbtaak.inRange k 0 1=false):=by
  rw[irm,irk,NA rm,NA rk];rintro(z|z)<;>cases z
 by_cases r0:0<=n/\n<(s.wishes.length:Int)
 rotate_left
 ·have e:Vbtaak.step s (.hope n m k)=(s,[-4]):=by
   rw[stp,qj r0];exact Nt inr
  have bad:=q.bad st (aw.refl _) e;refine⟨_,rfl,_,_,rfl,rfl,_,rfl,bD (λc=>⟨_,rfl,A.a,D.aQ,A.dx,_,_,rfl,st.self,T.aM,T.dw,rfl,A.wl,_,rfl,.inl (SqL.of st.wl),_,_,rfl,rfl,_,rfl,?_⟩) (λc=>⟨_,rfl,cp bad⟩)⟩;have:¬n<((ws.map λW=>V.ref W.a).length:Int):=λz=>r0 ⟨NG c,by rw[<-zB];exact z⟩;rw[NL this];exact cp bad
 refine⟨_,rfl,_,_,rfl,rfl,_,rfl,bD (λc=>⟨_,rfl,A.a,D.aQ,A.dx,_,_,rfl,st.self,T.aM,T.dw,rfl,A.wl,_,rfl,.inl (SqL.of st.wl),_,_,rfl,rfl,_,rfl,mY (by rw[zB];exact r0.2) ?_⟩) (λc=>absurd (NA r0.1) c)⟩;obtain⟨x,hx,hx2⟩:=qk r0;obtain⟨W,hW⟩:∃W,ws[n.toNat]?=some W:=⟨_,Ng (by rw[st.wn];omega)⟩;have wi:=st.wi _ x W hx hW;have e:Vbtaak.step s (.hope n m k)=match Gen.bu (2^s.facts) m.toNat (λp=>sat (s.course++p) x.f x.from_==(k==1))with
    |none=>Vbtaak.yes s [0]
    |some p=>Vbtaak.yes s (1::p):=by
  rw[stp,hx2];show(if _ then _ else _)=_;rw[Nt inr,Vbs.A1 wi.wfh.sd wi.gl]
 rw[e]at q;have at_:atI (ws.map λW=>V.ref W.a) n=some (.ref W.a):=by
  rw[show n=((n.toNat:Nat):Int) by omega];exact bg (by rw[NC,hW];rfl)
 have ek:k=((bit (k==1):Nat):Int):=by
  have:k=0∨k=1:=by omega
  rcases this with rfl|rfl<;>rfl
 have hm:∀b,b=W.kb∨b=W.kw->W.cA b:=λb z=>z.elim (λz=>.inr (.inr (.inr (.inr (.inr z))))) (λz=>.inr (.inr (.inr (.inr (.inl z)))));refine⟨_,rfl,A.a,D.aQ,A.dx,_,_,rfl,st.self,T.aM,T.dw,rfl,_,rfl,A.wl,_,_,_,rfl,rfl,SqL.of st.wl,at_,W.a,W.dx,_,rfl,wi.core.self,rfl,_,rfl,_,rfl,W,s.facts,x.f,x.from_,s.course,m.toNat,bit (k==1),?_,wi,by omega,λv H1 w1 k1 wa=>?_⟩
 ·show [V.ref W.a,V.int m,V.int k]=[V.ref W.a,V.int ((m.toNat:Nat):Int),V.int ((bit (k==1):Nat):Int)];rw[<-ek,show((m.toNat:Nat):Int)=m by omega]
 rw[HL wi.wfh wi.gl]at wa;have st1:=st.wish hx hW hm k1 w1;have kk:=k1.mono (S':=λb=>fF A ws ss b∨False) λb z=>.inl (.inr (.inl ⟨W,Nr hW,hm b z⟩));cases hfw:Gen.bu (2^s.facts) m.toNat (λp=>sat (s.course++p) x.f x.from_==(k==1))with
 |none=>
  rw[hfw]at wa q;have wa:v=.non:=wa;subst wa;exact⟨_,rfl,_,rfl,qX ⟨(by show 2<=sizeLine;decide),λp hp=>q.lW st1 kk hp rfl⟩⟩
 |some p=>
  rw[hfw]at wa q;obtain⟨r,rfl,hr1⟩:=wa;refine⟨_,rfl,_,rfl,qY ⟨(by show 2<=sizeLine;decide),λp1 hp1=>?_⟩⟩;have s2:=ak hp1 (.lst [.int 0,.int 1]);refine⟨_,rfl,r,_,rfl,.inr (SqT.of (s2 _ _ hr1)),λp2 hp2=>?_⟩;have s3:=ak hp2 (.lst (nvs p));have pl:=ou hfw;refine⟨p1,p2,_,_,rfl,rfl,s3 _ _ af,af,?_,λp3 hp3=>q.lW ((st1.same s2).same s3) ((kk.trans (aw.kp s2)).trans (aw.kp s3)) hp3 ?_⟩
  ·rw[Nf];exact OI (bx (by simp;omega))
  ·show [V.int 0,V.int 1]++nvs p=ivs (0::(1::p).map λ(n:Nat)=>(n:Int));rw[N6];show _=V.int 0::V.int 1::ivs (p.map λ(n:Nat)=>(n:Int));rw[mW];rfl
def GG(cl0:Vbtaak.Call):List V->Vbtaak.Call->Hp->(Addr->Prop)->Prop:=λvs cl _ X=>vs=[]/\cl=cl0/\X=λ_=>False
abbrev lG:Stmt:=inClass (top 70) 8
theorem fS:aF ["self","answer","scene"] ["self"] (az lG):=⟨rfl,rfl,rfl,by decide +kernel,rfl,by decide +kernel,by decide +kernel⟩
theorem wW(F:Fun K "ask_scenes" "Story.ask_scenes" lG f fd)(T:Txt K mg D):bw P w K mg base CX0 1 f fd ["self"] (spM P w K D (GG .scenes)):=by
 refine F.ok fS (λvs H Q E h=>?_) (λcdv A outer s H vs Q E hr h=>?_)
 ·obtain⟨A,ws,ss,s,vs',cl,X,rfl,⟨rfl,_⟩,_⟩:=h;rfl
 obtain⟨A,ws,ss,s,vs',cl,X,rfl,⟨rfl,rfl,rfl⟩,st,nX,q⟩:=h;refine⟨_,(ae (aG (i:=1) fS.nd rfl (Or.inl rfl) (aV (aa ao ag)))
   (ae (cu NU rfl (gq (au (pv 0) rfl)) (aL (i:=2) fS.nd rfl (Or.inl rfl)) (ai (b6 (lK NY PySem.F.slot_list_extend PySem.F.type_list_extend xH (pv 1) (aa (aV (aa (au (pv 2) rfl) (aa (au (pv 2) rfl) (aa (au (pv 2) rfl) ag)))) ag)))))
   (ai (aA (pv 1))))),?_⟩
 refine⟨(by show 1<=sizeLine;decide),λp hp=>?_⟩;have s1:=ak hp (.lst [.int 0]);have np:∀{b o},H b=some o->b≠p:=λe=>ax e hp;refine⟨_,rfl,A.a,D.aQ,A.dx,_,_,rfl,s1 _ _ st.self,T.aM,T.dI,rfl,A.sl,rfl,⟨_,SqL.of (s1 _ _ st.sl)⟩,jU (K:=K) (a:=A.sl) (xs:=ss.map λS=>V.ref S.a)
  (λi σ H'=>(∃v:Option V,σ=[some (.ref A.a),some (.ref p),v])/\aw H H'/\H' p=some (.lst (nvs (0::(s.scenes.take i).flatMap λx=>[bit x.on,x.since,x.times])))) ⟨⟨none,rfl⟩,s1,af⟩ (λi σ H' _ ⟨_,s2,_⟩=>SqL.of (s2 _ _ st.sl)) ?_ ?_⟩
 ·rintro i y σ H' hy ⟨⟨v,rfl⟩,s2,e2⟩;have hi:i<ss.length:=by
   have:=(Nh.mp hy).1;rw[Nf]at this;exact this
  obtain⟨S,hS⟩:∃S,ss[i]?=some S:=⟨_,Ng hi⟩;obtain⟨x,hx⟩:∃x,s.scenes[i]?=some x:=⟨_,Ng (by rw[<-st.sn];exact hi)⟩;rw[NC,hS]at hy;have ey:=(Nm hy).symm;subst ey;have self:=s2 _ _ (st.si i x S hx hS).self;refine⟨_,rfl,.inl ⟨rfl,_,SqL.of e2⟩,_,rfl,S.a,D.scene,S.dx,_,_,rfl,self,T.cH,T.kI,rfl,_,rfl,S.a,D.scene,S.dx,_,_,rfl,self,T.cH,T.qQ,rfl,_,rfl,S.a,D.scene,S.dx,_,_,rfl,self,T.cH,T.mR,rfl,(by show 3<=sizeLine;decide),λp2 hp2=>?_⟩;have s3:=ak hp2 (.lst [nv (bit x.on),nv x.since,nv x.times]);have fl:((s.scenes.take i).flatMap λx=>[bit x.on,x.since,x.times]).length<=18:=by
   have:=gK (λx:Vbtaak.Scene=>[bit x.on,x.since,x.times]) 3 (s.scenes.take i) λ_ _=>Nq _;have h2:(s.scenes.take i).length<=6:=by rw[N2];have:=st.s6;omega
   omega
  refine⟨p,p2,_,_,rfl,rfl,s3 _ _ e2,af,?_,⟨_,rfl⟩,?_,?_⟩
  ·rw[Nf,NH];generalize ((s.scenes.take i).flatMap λx=>[bit x.on,x.since,x.times]).length=nn at fl;exact OI (bx (by show nn+1+3<=1000;omega))
  ·exact λb o e=>by rw[aB (np e)];exact s3 _ _ (s2 _ _ e)
  ·rw[af,OG,hx];show _=some (HO.lst (nvs (0::(s.scenes.take i++[x]).flatMap _)));rw[Ov];show _=some (HO.lst (nvs ((0::(s.scenes.take i).flatMap _)++[bit x.on,x.since,x.times])));unfold nvs;rw[NS];rfl
 ·rintro σ H' ⟨⟨v,rfl⟩,s2,e2⟩;rw[Nf,st.sn,Oj]at e2;refine⟨_,rfl,q ws ss p H' (st.same s2) (aw.kp s2) (λb o e n=>⟨λz=>n (.inl z),np e⟩) ?_⟩;rw[e2];show _=some (HO.lst (ivs (0::(s.scenes.flatMap λx=>[bit x.on,x.since,x.times]).map λ(n:Nat)=>(n:Int))));show _=some (HO.lst (V.int 0::ivs ((s.scenes.flatMap λx=>[bit x.on,x.since,x.times]).map λ(n:Nat)=>(n:Int))));rw[mW];rfl
variable{s:Vbtaak.State}
theorem qt{n:Int}(h:0<=n/\n<(s.scenes.length:Int)):∃x,s.scenes[n.toNat]?=some x/\(if n<0 then none else s.scenes[n.toNat]?)=some x:=by
 have hl:n.toNat<s.scenes.length:=by omega
 exact⟨_,Ng hl,by rw[Nt (by omega)];exact Ng hl⟩
theorem qr{n:Int}(h:¬(0<=n/\n<(s.scenes.length:Int))):(if n<0 then none else s.scenes[n.toNat]?)=none:=by
 by_cases z:n<0
 ·rw[Nz z]
 ·rw[Nt z];exact QG (by omega)
abbrev jd:Stmt:=inClass (top 70) 9
theorem il:aF ["self","number","other_number","most","way"] ["self","number","other_number","most"] (az jd):=⟨rfl,rfl,rfl,by decide +kernel,rfl,by decide +kernel,by decide +kernel⟩
theorem tS(F:Fun K "ask_together" "Story.ask_together" jd f fd)(T:Txt K mg D)(nO:Fn P w K mg base "first_way_together" 5 ["scene","other_scene","most","facts"] (pE K D)):bw P w K mg base CX0 6 f fd ["self","number","other_number","most"] (spM P w K D (uI .together)):=by
 refine F.ok il (λvs H Q E h=>?_) (λcdv A outer s H vs Q E hr h=>?_)
 ·obtain⟨A,ws,ss,s,vs',cl,X,rfl,⟨n,m,k,rfl,_⟩,_⟩:=h;rfl
 obtain⟨A,ws,ss,s,vs',cl,X,rfl,⟨n,m,k,rfl,rfl,rfl⟩,st,nX,q⟩:=h;refine⟨_,(ae (aW (eH (dg fB fB ao (pv 3) (a9 T.xR))) (ai (aA (aV (aa (a9 T.eW) ag)))) aD)
   (ae (aW (PW.pt (vi (eH (dg fB sY ao (pv 1) (aP aC rfl T.len NO (aa (au (pv 0) rfl) ag)))) (pQ (eH (dg fB sY ao (pv 2) (aP aC rfl T.len NO (aa (au (pv 0) rfl) ag))))))) (ai (aA (aV (aa (a9 T.kM) ag)))) aD)
   (ae (aG (i:=4) il.nd rfl (Or.inl rfl) (bQ nO hr (aa (aS aE (au (pv 0) rfl) (pv 1) (λ_ _=>rfl)) (aa (aS aE (au (pv 0) rfl) (pv 2) (λ_ _=>rfl)) (aa (pv 3) (aa (au (pv 0) rfl) ag))))))
   (ai (aA (eP (fH (kr (pv 4))) (aV (aa ao (aa ao ag))) (aI pS (aV (aa ao (aa ao ag))) (pv 4)))))))),?_⟩
 have Fi:((ss.map λS=>V.ref S.a).length:Int)=(s.scenes.length:Int):=by rw[Nf,st.sn]
 have stp:Vbtaak.step s (.together n m k)=if Vbtaak.inRange k 0 6=false then(s,[-1])else match (if n<0 then none else s.scenes[n.toNat]?),(if m<0 then none else s.scenes[m.toNat]?)with
  |some x,some y=>(match Vbtaak.both (2^s.facts) (Vbtaak.backs x.begins++(Vbtaak.backs x.ends_++(Vbtaak.backs y.begins++Vbtaak.backs y.ends_))) k.toNat [Vbtaak.playKey (Vbtaak.plays s x y)] [Vbtaak.plays s x y]with
   |none=>Vbtaak.yes s [0]
   |some l=>Vbtaak.yes s (1::l))
  |_,_=>(s,[-4]):=rfl
 have irk:Vbtaak.inRange k 0 6=decide (0<=k/\k<=6):=rfl;by_cases rk:0<=k/\k<=6
 rotate_left
 ·have e:Vbtaak.step s (.together n m k)=(s,[-1]):=by
   rw[stp,Nz];rw[irk];exact NL rk
  have bad:=q.bad st (aw.refl _) e;refine⟨_,rfl,_,_,rfl,rfl,_,rfl,bD (λc=>⟨_,_,rfl,rfl,_,rfl,?_⟩) (λc=>⟨_,rfl,cp bad⟩)⟩;have:¬k<=6:=λz=>rk ⟨NG c,z⟩;rw[NL this];exact cp bad
 have inr:¬Vbtaak.inRange k 0 6=false:=by rw[irk,NA rk];exact Bool.noConfusion
 refine⟨_,rfl,_,_,rfl,rfl,_,rfl,bD (λc=>⟨_,_,rfl,rfl,_,rfl,mY rk.2 ?_⟩) (λc=>absurd (NA rk.1) c)⟩;by_cases r1:0<=n/\n<(s.scenes.length:Int)
 rotate_left
 ·have e:Vbtaak.step s (.together n m k)=(s,[-4]):=by rw[stp,Nt inr,qr r1]
  have bad:=q.bad st (aw.refl _) e;refine⟨_,rfl,_,_,rfl,rfl,_,rfl,bD (λc=>⟨_,rfl,A.a,D.aQ,A.dx,_,_,rfl,st.self,T.aM,T.dI,rfl,A.sl,_,rfl,.inl (SqL.of st.sl),_,_,rfl,rfl,_,rfl,?_⟩) (λc=>⟨_,rfl,cp (cp bad)⟩)⟩;have:¬n<((ss.map λS=>V.ref S.a).length:Int):=λz=>r1 ⟨NG c,by rw[<-Fi];exact z⟩;rw[NL this];exact cp (cp bad)
 refine⟨_,rfl,_,_,rfl,rfl,_,rfl,bD (λc=>⟨_,rfl,A.a,D.aQ,A.dx,_,_,rfl,st.self,T.aM,T.dI,rfl,A.sl,_,rfl,.inl (SqL.of st.sl),_,_,rfl,rfl,_,rfl,mY (by rw[Fi];exact r1.2) ?_⟩) (λc=>absurd (NA r1.1) c)⟩;obtain⟨x,hx,hx2⟩:=qt r1;by_cases r2:0<=m/\m<(s.scenes.length:Int)
 rotate_left
 ·have e:Vbtaak.step s (.together n m k)=(s,[-4]):=by rw[stp,Nt inr,hx2,qr r2]
  have bad:=q.bad st (aw.refl _) e;refine⟨_,rfl,_,_,rfl,rfl,_,rfl,bD (λc=>⟨_,rfl,A.a,D.aQ,A.dx,_,_,rfl,st.self,T.aM,T.dI,rfl,A.sl,_,rfl,.inl (SqL.of st.sl),_,_,rfl,rfl,_,rfl,?_⟩) (λc=>⟨_,rfl,cp bad⟩)⟩;have:¬m<((ss.map λS=>V.ref S.a).length:Int):=λz=>r2 ⟨NG c,by rw[<-Fi];exact z⟩;rw[NL this];exact cp bad
 refine⟨_,rfl,_,_,rfl,rfl,_,rfl,bD (λc=>⟨_,rfl,A.a,D.aQ,A.dx,_,_,rfl,st.self,T.aM,T.dI,rfl,A.sl,_,rfl,.inl (SqL.of st.sl),_,_,rfl,rfl,_,rfl,mY (by rw[Fi];exact r2.2) ?_⟩) (λc=>absurd (NA r2.1) c)⟩;obtain⟨y,hy,hy2⟩:=qt r2;obtain⟨S,hS⟩:∃S,ss[n.toNat]?=some S:=⟨_,Ng (by rw[st.sn];omega)⟩;obtain⟨S2,hS2⟩:∃S,ss[m.toNat]?=some S:=⟨_,Ng (by rw[st.sn];omega)⟩;have sx:=st.si _ x S hx hS;have sy:=st.si _ y S2 hy hS2;have e:Vbtaak.step s (.together n m k)=match Gen.bu (2^s.facts) k.toNat (λq=>Vbs.aT x.begins x.ends_ s.course x.on q&&Vbs.aT y.begins y.ends_ s.course y.on q)with
   |none=>Vbtaak.yes s [0]
   |some l=>Vbtaak.yes s (1::l):=by
  rw[stp,Nt inr,hx2,hy2];show(match Vbtaak.both _ _ _ _ _ with|none=>_|some l=>_)=_;rw[Vbs.mh ⟨sx.pb.ps,sx.pe.ps⟩ ⟨sy.pb.ps,sy.pe.ps⟩]
 rw[e]at q;have at1:atI (ss.map λS=>V.ref S.a) n=some (.ref S.a):=by
  rw[show n=((n.toNat:Nat):Int) by omega];exact bg (by rw[NC,hS];rfl)
 have at2:atI (ss.map λS=>V.ref S.a) m=some (.ref S2.a):=by
  rw[show m=((m.toNat:Nat):Int) by omega];exact bg (by rw[NC,hS2];rfl)
 refine⟨_,rfl,A.a,D.aQ,A.dx,_,_,rfl,st.self,T.aM,T.dI,rfl,_,rfl,A.sl,_,_,_,rfl,rfl,SqL.of st.sl,at1,_,rfl,A.a,D.aQ,A.dx,_,_,rfl,st.self,T.aM,T.dI,rfl,_,rfl,A.sl,_,_,_,rfl,rfl,SqL.of st.sl,at2,_,rfl,_,rfl,A.a,D.aQ,A.dx,_,_,rfl,st.self,T.aM,T.iF,rfl,S,S2,s.facts,x,y,s.course,k.toNat,?_,sx,sy,by omega,λv H1 s1 wl=>?_⟩
 ·show [V.ref S.a,V.ref S2.a,V.int k,nv s.facts]=[V.ref S.a,V.ref S2.a,V.int ((k.toNat:Nat):Int),nv s.facts];rw[show((k.toNat:Nat):Int)=k by omega]
 cases hfw:Gen.bu (2^s.facts) k.toNat (λq=>Vbs.aT x.begins x.ends_ s.course x.on q&&Vbs.aT y.begins y.ends_ s.course y.on q)with
 |none=>
  rw[hfw]at wl q;have wl:v=.non:=wl;subst wl;exact⟨_,rfl,_,rfl,qX ⟨(by show 2<=sizeLine;decide),λp hp=>q.lW (st.same s1) (aw.kp s1) hp rfl⟩⟩
 |some p=>
  rw[hfw]at wl q;obtain⟨r,rfl,hr1⟩:=wl;refine⟨_,rfl,_,rfl,qY ⟨(by show 2<=sizeLine;decide),λp1 hp1=>?_⟩⟩;have s2:=ak hp1 (.lst [.int 0,.int 1]);have pl:=ou hfw;refine⟨_,rfl,p1,r,_,_,rfl,rfl,af,s2 _ _ hr1,?_,λp3 hp3=>q.lW ((st.same s1).same s2) (aw.kp (s1.trans s2)) hp3 ?_⟩
  ·rw[Nf];exact OI (bx (by simp;omega))
  ·show [V.int 0,V.int 1]++nvs p=ivs (0::(1::p).map λ(n:Nat)=>(n:Int));rw[N6];show _=V.int 0::V.int 1::ivs (p.map λ(n:Nat)=>(n:Int));rw[mW];rfl
def DV(K:Rt):List V->Vbtaak.Call->Hp->(Addr->Prop)->Prop:=λvs cl H X=>∃(n:Int) (rl:Addr) (row:List Int),vs=[.int n,.ref rl]/\cl=.holds n row/\SqL K H rl (ivs row)/\X=λ_=>False
abbrev mJ:Stmt:=inClass (top 70) 10
theorem lq:aF ["self","place","row","parts"] ["self","place","row"] (az mJ):=⟨rfl,rfl,rfl,by decide +kernel,rfl,by decide +kernel,by decide +kernel⟩
theorem yH(F:Fun K "ask_holds" "Story.ask_holds" mJ f fd)(T:Txt K mg D)(cB:Fn P w K mg base "read_condition" 5 ["row","facts"] (uP K D))(sN:Fn P w K mg base "holds_at_place" 7 ["parts","course","place"] (yj K D)):
  bw P w K mg base CX0 8 f fd ["self","place","row"] (spM P w K D (DV K)):=by
 refine F.ok lq (λvs H Q E h=>?_) (λcdv A outer s H vs Q E hr h=>?_)
 ·obtain⟨A,ws,ss,s,vs',cl,X,rfl,⟨n,rl,row,rfl,_⟩,_⟩:=h;rfl
 obtain⟨A,ws,ss,s,vs',cl,X,rfl,⟨n,rl,row,rfl,rfl,sq,rfl⟩,st,nX,q⟩:=h;refine⟨_,(ae (aW (eH (dg fB fB ao (pv 1) (aP aC rfl T.len NO (aa (au (pv 0) rfl) ag)))) (ai (aA (aV (aa (a9 T.eW) ag)))) aD)
   (ae (aG (i:=3) lq.nd rfl (Or.inl rfl) (bQ cB hr (aa (pv 2) (aa (au (pv 0) rfl) ag))))
   (ae (aW (fH (kr (pv 3))) (ai (aA (aV (aa (a9 T.gy) ag)))) aD)
   (ai (aA (aV (aa ao (aa (bQ sN hr (aa (pv 3) (aa (au (pv 0) rfl) (aa (pv 1) ag)))) ag)))))))),?_⟩
 have LA:((nvs s.course).length:Int)=(s.course.length:Int):=by rw[Nf]
 have stp:Vbtaak.step s (.holds n row)=if Vbtaak.inRange n 1 (s.course.length:Int)=false then(s,[-1])else match Vbtaak.readF s.facts row with
  |none=>(s,[-2])
  |some f=>Vbtaak.yes s [bit (sat s.course f (n.toNat-1))]:=rfl
 have irn:Vbtaak.inRange n 1 (s.course.length:Int)=decide (1<=n/\n<=(s.course.length:Int)):=rfl;by_cases r0:1<=n/\n<=(s.course.length:Int)
 rotate_left
 ·have e:Vbtaak.step s (.holds n row)=(s,[-1]):=by
   rw[stp,Nz];rw[irn];exact NL r0
  have bad:=q.bad st (aw.refl _) e;refine⟨_,rfl,_,_,rfl,rfl,_,rfl,bD (λc=>⟨_,rfl,A.a,D.aQ,A.dx,_,_,rfl,st.self,T.aM,T.fb,rfl,A.cl,_,rfl,.inl (SqL.of st.co),_,_,rfl,rfl,_,rfl,?_⟩) (λc=>⟨_,rfl,cp bad⟩)⟩;have:¬n<=((nvs s.course).length:Int):=λz=>r0 ⟨NG c,by rw[<-LA];exact z⟩;rw[NL this];exact cp bad
 have inr:¬Vbtaak.inRange n 1 (s.course.length:Int)=false:=by rw[irn,NA r0];exact Bool.noConfusion
 refine⟨_,rfl,_,_,rfl,rfl,_,rfl,bD (λc=>⟨_,rfl,A.a,D.aQ,A.dx,_,_,rfl,st.self,T.aM,T.fb,rfl,A.cl,_,rfl,.inl (SqL.of st.co),_,_,rfl,rfl,_,rfl,mY (by rw[LA];exact r0.2) ?_⟩) (λc=>absurd (NA r0.1) c)⟩;refine⟨_,rfl,_,rfl,A.a,D.aQ,A.dx,_,_,rfl,st.self,T.aM,T.iF,rfl,rl,row,s.facts,rfl,sq,λrn H1 s1=>?_,λf hf l H1 s1 pa fz ok=>?_⟩
 ·have e:Vbtaak.step s (.holds n row)=(s,[-2]):=by rw[stp,Nt inr,rn]
  exact⟨_,rfl,_,rfl,qX (q.bad st s1 e)⟩
 ·obtain⟨f1,f2,f3,f4⟩:=Rdg.fV.mp hf;have e:Vbtaak.step s (.holds n row)=(s,[0,((bit (sat s.course f (n.toNat-1)):Nat):Int)]):=by rw[stp,Nt inr,hf];rfl
  rw[e]at q;refine⟨_,rfl,_,rfl,qY ?_⟩;refine⟨_,rfl,_,rfl,A.a,D.aQ,A.dx,_,_,rfl,s1 _ _ st.self,T.aM,T.fb,rfl,_,rfl,l,A.cl,Rdg.pts 0 f,s.course,n.toNat,?_,pa,ok,fz,.inl (s1 _ _ st.co),by omega,by omega,st.c60,λH2 s2=>?_⟩
  ·show [V.ref l,V.ref A.cl,V.int n]=[V.ref l,V.ref A.cl,V.int ((n.toNat:Nat):Int)];rw[show((n.toNat:Nat):Int)=n by omega]
  rw[Ft f1 f4 s.course (by omega) (by omega)];exact⟨(by show 2<=sizeLine;decide),λp hp=>q.lW ((st.same s1).same s2) (aw.kp (s1.trans s2)) hp rfl⟩
end
variable{α:Type}
theorem gG{l:List α}{a b:α}(h:(l++[a])[j]?=some b):l[j]?=some b∨(j=l.length/\b=a):=by
 rcases PY j l.length with z|z
 ·rw[NJ z]at h;exact .inl h
 ·rw[NM z]at h;have:j-l.length<1:=(Nh.mp h).1;have e:j=l.length:=by omega
  subst e;rw[OF]at h;exact .inr ⟨rfl,(Nm h).symm⟩
variable{A:TAd}{ws:List WAd}{ss:List SAd}
theorem Dj.addW{W:WAd}(h:Dj A ws ss)(n:∀b,W.cA b->¬fF A ws ss b):Dj A (ws++[W]) ss:=by
 refine⟨λi j V V' ne h1 h2 b z y=>?_,h.sns,λV hV S hS b z y=>?_,λV hV b z y=>?_,h.sa,h.cw,h.cs,h.wsl⟩
 ·rcases gG h1 with g1|⟨e1,d1⟩<;>rcases gG h2 with g2|⟨e2,d2⟩
  ·exact h.ww i j V V' ne g1 g2 b z y
  ·exact n b (d2▸y) (.inr (.inl ⟨V,Nr g1,z⟩))
  ·exact n b (d1▸z) (.inr (.inl ⟨V',Nr g2,y⟩))
  ·omega
 ·rcases Np.mp hV with hV|hV
  ·exact h.wsn V hV S hS b z y
  ·rw[Nu.mp hV]at z;exact n b z (.inr (.inr ⟨S,hS,y⟩))
 ·rcases Np.mp hV with hV|hV
  ·exact h.wa V hV b z y
  ·rw[Nu.mp hV]at z;exact n b z (.inl y)
theorem Dj.M7{S:SAd}(h:Dj A ws ss)(n:∀b,S.cA b->¬fF A ws ss b):Dj A ws (ss++[S]):=by
 refine⟨h.ww,λi j V V' ne h1 h2 b z y=>?_,λW hW V hV b z y=>?_,h.wa,λV hV b z y=>?_,h.cw,h.cs,h.wsl⟩
 ·rcases gG h1 with g1|⟨e1,d1⟩<;>rcases gG h2 with g2|⟨e2,d2⟩
  ·exact h.sns i j V V' ne g1 g2 b z y
  ·exact n b (d2▸y) (.inr (.inr ⟨V,Nr g1,z⟩))
  ·exact n b (d1▸z) (.inr (.inr ⟨V',Nr g2,y⟩))
  ·omega
 ·rcases Np.mp hV with hV|hV
  ·exact h.wsn W hW V hV b z y
  ·rw[Nu.mp hV]at y;exact n b y (.inr (.inl ⟨W,hW,z⟩))
 ·rcases Np.mp hV with hV|hV
  ·exact h.sa V hV b z y
  ·rw[Nu.mp hV]at z;exact n b z (.inl y)
theorem DS{facts:Nat}(hw:Rdg.wf facts f=true):(!((Rdg.pts 0 f).any λp=>Rdg.fwd p.kind))=past f:=by
 have h:=Rdg.Fz f hw;cases e:past f with
 |true=>
  have:((Rdg.pts 0 f).any λp=>Rdg.fwd p.kind)=false:=by rw[Pe];intro p hp;rw[h.mp e p hp];exact NI
  rw[this];rfl
 |false=>
  have:((Rdg.pts 0 f).any λp=>Rdg.fwd p.kind)=true:=by
   cases z:(Rdg.pts 0 f).any λp=>Rdg.fwd p.kind with
   |true=>rfl
   |false=>
    rw[Pe]at z;have:=h.mpr λp hp=>by simpa using z p hp
    rw[e]at this;cases this
  rw[this];rfl
section
variable{P:Program}{w:World}{K:Rt}{mg:Ru}{base:Heap}{D:Ad}
def GF:List V->Vbtaak.Call->Hp->(Addr->Prop)->Prop:=λvs cl H X=>∃(rl:Addr) (row:List Int),vs=[.ref rl]/\cl=.wish row/\H rl=some (.lst (ivs row))/\X=(·=rl)
abbrev mH:Stmt:=inClass (top 70) 3
theorem lp:aF ["self","row","parts"] ["self","row"] (az mH):=⟨rfl,rfl,rfl,by decide +kernel,rfl,by decide +kernel,by decide +kernel⟩
variable{fd:FuncData}
theorem yB{f:Addr}(F:Fun K "tell_wish" "Story.tell_wish" mH f fd)(T:Txt K mg D)(cB:Fn P w K mg base "read_condition" 5 ["row","facts"] (uP K D))(Kh:Mc P w K mg base "Wish" D.wish 7 ["self","row","parts","facts","course"] (pC P w K D)):
  bw P w K mg base CX0 9 f fd ["self","row"] (spM P w K D GF):=by
 refine F.ok lp (λvs H Q E h=>?_) (λcdv A outer s H vs Q E hr h=>?_)
 ·obtain⟨A,ws,ss,s,vs',cl,X,rfl,⟨rl,row,rfl,_⟩,_⟩:=h;rfl
 obtain⟨A,ws,ss,s,vs',cl,X,rfl,⟨rl,row,rfl,rfl,hrl,rfl⟩,st,nX,q⟩:=h;refine⟨_,(ae (aG (i:=2) lp.nd rfl (Or.inl rfl) (bQ cB hr (aa (pv 1) (aa (au (pv 0) rfl) ag))))
   (ae (aW (fH (kr (pv 2))) (ai (aA (aV (aa (a9 T.gy) ag)))) aD)
   (ae (aW (aH bH (aP aC rfl T.len NO (aa (au (pv 0) rfl) ag)) (a9 T.y8) (aU _)) (ai (aA (aV (aa (a9 T.sv) ag)))) aD)
   (ae (b6 (lK NY Oe Of dD (au (pv 0) rfl) (aa (jG Kh hr (aa (du (pv 1)) (aa (pv 2) (aa (au (pv 0) rfl) (aa (au (pv 0) rfl) ag))))) ag)))
   (ai (aA (aV (aa ao (aa (aI dh (aP aC rfl T.len NO (aa (au (pv 0) rfl) ag)) ao) ag))))))))),?_⟩
 have stp:Vbtaak.step s (.wish row)=match Vbtaak.readF s.facts row with
  |none=>(s,[-2])
  |some f=>if 6<=s.wishes.length then(s,[-5])else Vbtaak.yes {s with wishes:=s.wishes++[{f:=f,from_:=s.course.length}]} [s.wishes.length]:=rfl
 refine⟨_,rfl,_,rfl,A.a,D.aQ,A.dx,_,_,rfl,st.self,T.aM,T.iF,rfl,rl,row,s.facts,rfl,SqL.of hrl,λrn H1 s1=>?_,λf hf l H1 s1 pa fz ok=>?_⟩
 ·have e:Vbtaak.step s (.wish row)=(s,[-2]):=by rw[stp,rn]
  exact⟨_,rfl,_,rfl,qX (q.bad st s1 e)⟩
 obtain⟨f1,f2,f3,f4⟩:=Rdg.fV.mp hf;have st1:=st.same s1;refine⟨_,rfl,_,rfl,qY ?_⟩;refine⟨_,rfl,A.a,D.aQ,A.dx,_,_,rfl,st1.self,T.aM,T.dw,rfl,A.wl,_,rfl,.inl (SqL.of st1.wl),rfl,_,rfl,bD (λc=>?_) (λc=>?_)⟩
 ·have c:=eqI.mp c;rw[Nf,st.wn]at c;have e:Vbtaak.step s (.wish row)=(s,[-5]):=by rw[stp,hf];exact Nz (by omega)
  exact q.bad st s1 e
 have c:¬((ws.map λW=>V.ref W.a).length:Int)=6:=λz=>c (eqI.mpr z);rw[Nf,st.wn]at c;have e:Vbtaak.step s (.wish row)=({s with wishes:=s.wishes++[{f:=f,from_:=s.course.length}]},[0,(s.wishes.length:Int)]):=by
  rw[stp,hf];show(if _ then _ else _)=_;rw[Nt (by have:=st.w6;omega)];rfl
 rw[e]at q;have Le:=s1 _ _ hrl;have nrl:∀b,fF A ws ss b->¬b=rl:=λb z y=>nX b y z;refine⟨_,rfl,A.a,D.aQ,A.dx,_,_,rfl,st1.self,T.aM,T.dw,rfl,.inl ⟨rfl,_,SqL.of st1.wl⟩,_,rfl,rl,_,Le,trivial,λod=>?_⟩;generalize hH2:upd H1 rl _=H2;have k12:Kp (·=rl) H1 H2:=by rw[<-hH2];exact aJ
 have r2:H2 rl=some (.frz od (.lst (ivs (Rdg.br f)))):=by rw[<-hH2,af,f2]
 clear hH2;have lr:Loose D H1 (·=rl):=bX Le;have st2:=st1.kp lr k12 nrl;have pa2:=lr.parts k12 pa fz;obtain⟨lo,lu,hl⟩:=id fz;have hl2:=lr.frz k12 _ _ _ hl;have wfh:Wf s.facts f s.course:=⟨st.fa,f1,f4,f3,st.tu,st.c60⟩;refine⟨_,rfl,_,rfl,A.a,D.aQ,A.dx,_,_,rfl,st2.self,T.aM,T.iF,rfl,_,rfl,A.a,D.aQ,A.dx,_,_,rfl,st2.self,T.aM,T.fb,rfl,λx dx nx ndx nxd=>?_⟩;have s3:aw H2 (upd (upd H2 dx (.own x)) x (.ins D.wish dx [])):=(ak ndx _).trans (ak (by rw[aB (Ne.symm nxd)];exact nx) _);have st3:=st2.same s3;refine⟨x,dx,rl,l,s.facts,A.cl,f,s.course,rfl,af,pa2.same s3,⟨lo,lu,s3 _ _ hl2⟩,⟨od,s3 _ _ r2⟩,.inl st3.co,wfh,λW H4 ea wi k4 nw=>⟨rfl,?_⟩⟩;have nxF:∀b,fF A ws ss b->¬b=x:=λb z y=>by rw[y]at z;exact st2.has x z nx
 have st4:=st3.kp (bh af (by decide)) k4 nxF;have nwF:∀b,W.cA b->¬fF A ws ss b:=λb z y=>by
  rcases nw b z with e|e
  ·exact nxF b y e
  ·exact st3.has b y e
 have s24:aw H2 H4:=λb o h=>k4 _ _ (s3 _ _ h) (ax h nx);have hwl:ws.length<=6:=by rw[st.wn];exact st.w6
 refine⟨A.wl,_,_,rfl,rfl,st4.wl,(by rw[Nf];exact bx (by omega)),?_⟩;generalize hH5:upd H4 A.wl _=H5;have k45:Kp (·=A.wl) H4 H5:=by rw[<-hH5];exact aJ
 have w5:H5 A.wl=some (.lst ((ws++[W]).map λW=>V.ref W.a)):=by rw[<-hH5,af,NS,<-ea];rfl
 clear hH5;have lw:Loose D H4 (·=A.wl):=bX st4.wl;have Mj:A.a≠A.wl:=bJ st4.self st4.wl (by intro z;cases z);have st5:bC P w K D H5 A (ws++[W]) ss {s with wishes:=s.wishes++[{f:=f,from_:=s.course.length}]}:=by
  refine⟨k45 _ _ st4.self Mj,k45 _ _ st4.co st.dj.cw,w5,k45 _ _ st4.sl (λz=>st.dj.wsl z.symm),by simp[st.wn],λj y V h1 h2=>?_,st.sn,λj y S h1 h2=>(st4.si j y S h1 h2).kp lw k45 λb z y=>st.dj.sa S (Nr h2) b z (.inr (.inr (.inl y))),st.sb,st.dj.addW nwF,st.fa,st.c60,st.tu,by simp;have:=st.w6;omega,st.s6⟩;rcases gG h2 with h2|⟨e2,rfl⟩
  ·have hj:j<s.wishes.length:=by rw[<-st.wn];exact(Nh.mp h2).1
   have h1:s.wishes[j]?=some y:=by rw[<-h1];exact(NJ hj).symm
   exact(st4.wi j y V h1 h2).kp lw k45 λb z y=>st.dj.wa V (Nr h2) b z (.inr (.inr (.inl y)))
  ·have h1:(s.wishes++[({f:=f,from_:=s.course.length}:Vbtaak.Wish)])[j]?=some y:=h1;rcases gG h1 with h1|⟨_,rfl⟩
   ·have:=(Nh.mp h1).1;rw[e2,st.wn]at this;omega
   ·exact wi.kp lw k45 λb z y=>nwF b z (.inl (.inr (.inr (.inl y))))
 refine⟨_,rfl,A.a,D.aQ,A.dx,_,_,rfl,st5.self,T.aM,T.dw,rfl,A.wl,_,rfl,.inl (SqL.of st5.wl),_,_,rfl,rfl,(by show 2<=sizeLine;decide),λp hp=>?_⟩;have k05:Kp (λb=>fF A ws ss b∨b=rl) H H5:=λb o h n=>k45 _ _ (s24 _ _ (k12 _ _ (s1 _ _ h) λz=>n (.inr z))) λz=>n (.inl (.inl (.inr (.inr (.inl z)))));refine q.new st5 k05 (λb o h n z=>?_) hp ?_
 ·have h2:=k12 _ _ (s1 _ _ h) λz=>n (.inr z);rcases z with z|⟨V,hV,z⟩|z
  ·exact n (.inl (.inl z))
  ·rcases Np.mp hV with hV|hV
   ·exact n (.inl (.inr (.inl ⟨V,hV,z⟩)))
   ·rw[Nu.mp hV]at z;rcases nw b z with e|e
    ·rw[e,nx]at h2;cases h2
    ·rw[s3 _ _ h2]at e;cases e
  ·exact n (.inl (.inr (.inr z)))
 ·show [V.int 0,V.int (((ws++[W]).map λW=>V.ref W.a).length-1)]=_;refine congrArg (λz:Int=>[V.int 0,V.int z]) ?_;rw[Nf,Nk,Ny,st.wn];omega
def DU(K:Rt):List V->Vbtaak.Call->Hp->(Addr->Prop)->Prop:=λvs cl H X=>∃(r1 r2:Addr) (qE pO:List Int),vs=[.ref r1,.ref r2]/\cl=.scene qE pO/\SqL K H r1 (ivs qE)/\SqL K H r2 (ivs pO)/\X=λ_=>False
abbrev lE:Stmt:=inClass (top 70) 4
theorem fR:aF ["self","begin_row","end_row","begin_parts","end_parts"] ["self","begin_row","end_row"] (az lE):=⟨rfl,rfl,rfl,by decide +kernel,rfl,by decide +kernel,by decide +kernel⟩
theorem wM{f:Addr}(F:Fun K "tell_scene" "Story.tell_scene" lE f fd)(T:Txt K mg D)(cB:Fn P w K mg base "read_condition" 5 ["row","facts"] (uP K D))(jn:Fn P w K mg base "looks_back_only" 2 ["parts"] (pK K D))
  (Iq:Mc P w K mg base "Scene" D.scene 7 ["self","begin_parts","end_parts","course"] (mv K D)):bw P w K mg base CX0 9 f fd ["self","begin_row","end_row"] (spM P w K D (DU K)):=by
 refine F.ok fR (λvs H Q E h=>?_) (λcdv A outer s H vs Q E hr h=>?_)
 ·obtain⟨A,ws,ss,s,vs',cl,X,rfl,⟨r1,r2,qE,pO,rfl,_⟩,_⟩:=h;rfl
 obtain⟨A,ws,ss,s,vs',cl,X,rfl,⟨r1,r2,qE,pO,rfl,rfl,q1,q2,rfl⟩,st,nX,q⟩:=h;refine⟨_,(ae (aG (i:=3) fR.nd rfl (Or.inl rfl) (bQ cB hr (aa (pv 1) (aa (au (pv 0) rfl) ag))))
   (ae (aG (i:=4) fR.nd rfl (Or.inl rfl) (bQ cB hr (aa (pv 2) (aa (au (pv 0) rfl) ag))))
   (ae (aW (PW.pt (vi (fH (kr (pv 3))) (pQ (fH (kr (pv 4)))))) (ai (aA (aV (aa (a9 T.gy) ag)))) aD)
   (ae (aW (PW.pt (vi (eH (ju (bQ jn hr (aa (pv 3) ag)))) (pQ (eH (ju (bQ jn hr (aa (pv 4) ag))))))) (ai (aA (aV (aa (a9 T.gy) ag)))) aD)
   (ae (aW (aH bH (aP aC rfl T.len NO (aa (au (pv 0) rfl) ag)) (a9 T.y9) (aU _)) (ai (aA (aV (aa (a9 T.sv) ag)))) aD)
   (ae (b6 (lK NY Oe Of dD (au (pv 0) rfl) (aa (jG Iq hr (aa (pv 3) (aa (pv 4) (aa (au (pv 0) rfl) ag)))) ag)))
   (ai (aA (aV (aa ao (aa (aI dh (aP aC rfl T.len NO (aa (au (pv 0) rfl) ag)) ao) ag))))))))))),?_⟩
 have stp:Vbtaak.step s (.scene qE pO)=match Vbtaak.readF s.facts qE,Vbtaak.readF s.facts pO with
  |some f,some g=>if past f=false∨past g=false then(s,[-2])else if 6<=s.scenes.length then(s,[-5])else Vbtaak.yes {s with scenes:=s.scenes++[{begins:=f,ends_:=g}]} [s.scenes.length]
  |_,_=>(s,[-2]):=rfl
 refine⟨_,rfl,_,rfl,A.a,D.aQ,A.dx,_,_,rfl,st.self,T.aM,T.iF,rfl,r1,qE,s.facts,rfl,q1,λrn H1 s1=>?_,λf hf l H1 s1 pa fz ok=>?_⟩
 ·have e:Vbtaak.step s (.scene qE pO)=(s,[-2]):=by rw[stp,rn]
  refine⟨_,rfl,_,rfl,A.a,D.aQ,A.dx,_,_,rfl,s1 _ _ st.self,T.aM,T.iF,rfl,r2,pO,s.facts,rfl,s1.seq q2,λrn2 H2 s2=>?_,λg hg l2 H2 s2 pa2 fz2 ok2=>?_⟩
  ·exact⟨_,rfl,_,rfl,qX (cp (q.bad st (s1.trans s2) e))⟩
  ·exact⟨_,rfl,_,rfl,qX (cp (q.bad st (s1.trans s2) e))⟩
 obtain⟨f1,f2,f3,f4⟩:=Rdg.fV.mp hf;refine⟨_,rfl,_,rfl,A.a,D.aQ,A.dx,_,_,rfl,s1 _ _ st.self,T.aM,T.iF,rfl,r2,pO,s.facts,rfl,s1.seq q2,λrn2 H2 s2=>?_,λg hg l2 H2 s2 pa2 fz2 ok2=>?_⟩
 ·have e:Vbtaak.step s (.scene qE pO)=(s,[-2]):=by rw[stp,hf,rn2]
  exact⟨_,rfl,_,rfl,qY ⟨_,rfl,_,rfl,qX (q.bad st (s1.trans s2) e)⟩⟩
 obtain⟨g1,g2,g3,g4⟩:=Rdg.fV.mp hg;have G4:Vbtaak.step s (.scene qE pO)=if past f=false∨past g=false then(s,[-2])else if 6<=s.scenes.length then(s,[-5])else Vbtaak.yes {s with scenes:=s.scenes++[{begins:=f,ends_:=g}]} [s.scenes.length]:=by rw[stp,hf,hg]
 refine⟨_,rfl,_,rfl,qY ⟨_,rfl,_,rfl,qY ?_⟩⟩;have s12:=s1.trans s2;refine⟨_,rfl,l,_,rfl,pa.same s2,ok,λH3 s3=>?_⟩;rw[DS f1];refine⟨_,rfl,?_⟩;cases pf:past f with
 |false=>
  have e:Vbtaak.step s (.scene qE pO)=(s,[-2]):=by rw[G4,Nz (.inl pf)]
  exact cp (cp (q.bad st (s12.trans s3) e))
 |true=>
 refine l4 ⟨_,rfl,l2,_,rfl,pa2.same s3,ok2,λH4 s4=>?_⟩;rw[DS g1];refine⟨_,rfl,?_⟩;cases pg:past g with
 |false=>
  have e:Vbtaak.step s (.scene qE pO)=(s,[-2]):=by rw[G4,Nz (.inr pg)]
  exact cp (q.bad st ((s12.trans s3).trans s4) e)
 |true=>
 refine l4 ?_;have s34:=s3.trans s4;have s04:=s12.trans s34;have st4:=st.same s04;have FF:¬(past f=false∨past g=false):=by rw[pf,pg];rintro(z|z)<;>cases z
 refine⟨_,rfl,A.a,D.aQ,A.dx,_,_,rfl,st4.self,T.aM,T.dI,rfl,A.sl,_,rfl,.inl (SqL.of st4.sl),rfl,_,rfl,bD (λc=>?_) (λc=>?_)⟩
 ·have c:=eqI.mp c;rw[Nf,st.sn]at c;have e:Vbtaak.step s (.scene qE pO)=(s,[-5]):=by rw[G4,Nt FF,Nz (by omega)]
  exact q.bad st s04 e
 have c:¬((ss.map λS=>V.ref S.a).length:Int)=6:=λz=>c (eqI.mpr z);rw[Nf,st.sn]at c;have e:Vbtaak.step s (.scene qE pO)=({s with scenes:=s.scenes++[{begins:=f,ends_:=g}]},[0,(s.scenes.length:Int)]):=by
  rw[G4,Nt FF,Nt (by have:=st.s6;omega)];rfl
 rw[e]at q;obtain⟨lo,lu,hl⟩:=fz;obtain⟨lo2,lu2,hl2⟩:=fz2;refine⟨_,rfl,A.a,D.aQ,A.dx,_,_,rfl,st4.self,T.aM,T.dI,rfl,.inl ⟨rfl,_,SqL.of st4.sl⟩,_,rfl,_,rfl,_,rfl,A.a,D.aQ,A.dx,_,_,rfl,st4.self,T.aM,T.fb,rfl,λx dx nx ndx nxd=>?_⟩;have s5:aw H4 (upd (upd H4 dx (.own x)) x (.ins D.scene dx [])):=(ak ndx _).trans (ak (by rw[aB (Ne.symm nxd)];exact nx) _);have st5:=st4.same s5;have s25:=s34.trans s5;refine⟨x,dx,l,l2,A.cl,f,g,s.course,s.facts,rfl,af,(pa.same s2).same s25,⟨lo,lu,s25 _ _ (s2 _ _ hl)⟩,pa2.same s25,⟨lo2,lu2,s25 _ _ hl2⟩,.inl st5.co,⟨st.fa,f1,pf,f3⟩,⟨st.fa,g1,pg,g3⟩,λS H6 ea sc k6 nw=>⟨rfl,?_⟩⟩;have nxF:∀b,fF A ws ss b->¬b=x:=λb z y=>by rw[y]at z;exact st4.has x z nx
 have st6:=st5.kp (bh af (by decide)) k6 nxF;have nwF:∀b,S.cA b->¬fF A ws ss b:=λb z y=>by
  rcases nw b z with e|e
  ·exact nxF b y e
  ·exact st5.has b y e
 have s46:aw H4 H6:=λb o h=>k6 _ _ (s5 _ _ h) (ax h nx);have hsl:ss.length<=6:=by rw[st.sn];exact st.s6
 refine⟨A.sl,_,_,rfl,rfl,st6.sl,(by rw[Nf];exact bx (by omega)),?_⟩;generalize hH7:upd H6 A.sl _=H7;have k67:Kp (·=A.sl) H6 H7:=by rw[<-hH7];exact aJ
 have w7:H7 A.sl=some (.lst ((ss++[S]).map λS=>V.ref S.a)):=by rw[<-hH7,af,NS,<-ea];rfl
 clear hH7;have lw:Loose D H6 (·=A.sl):=bX st6.sl;have Ml:A.a≠A.sl:=bJ st6.self st6.sl (by intro z;cases z);have st7:bC P w K D H7 A ws (ss++[S]) {s with scenes:=s.scenes++[{begins:=f,ends_:=g}]}:=by
  refine⟨k67 _ _ st6.self Ml,k67 _ _ st6.co st.dj.cs,k67 _ _ st6.wl st.dj.wsl,w7,st.wn,λj y V h1 h2=>(st6.wi j y V h1 h2).kp lw k67 λb z y=>st.dj.wa V (Nr h2) b z (.inr (.inr (.inr y))),by simp[st.sn],λj y V h1 h2=>?_,λy hy=>?_,st.dj.M7 nwF,st.fa,st.c60,st.tu,st.w6,by simp;have:=st.s6;omega⟩
  ·rcases gG h2 with h2|⟨e2,rfl⟩
   ·have hj:j<s.scenes.length:=by rw[<-st.sn];exact(Nh.mp h2).1
    have h1:s.scenes[j]?=some y:=by rw[<-h1];exact(NJ hj).symm
    exact(st6.si j y V h1 h2).kp lw k67 λb z y=>st.dj.sa V (Nr h2) b z (.inr (.inr (.inr y)))
   ·have h1:(s.scenes++[({begins:=f,ends_:=g}:Vbtaak.Scene)])[j]?=some y:=h1;rcases gG h1 with h1|⟨_,rfl⟩
    ·have:=(Nh.mp h1).1;rw[e2,st.sn]at this;omega
    ·exact sc.kp lw k67 λb z y=>nwF b z (.inl (.inr (.inr (.inr y))))
  ·rcases Np.mp hy with hy|hy
   ·exact st.sb y hy
   ·rw[Nu.mp hy];exact NT _
 refine⟨_,rfl,A.a,D.aQ,A.dx,_,_,rfl,st7.self,T.aM,T.dI,rfl,A.sl,_,rfl,.inl (SqL.of st7.sl),_,_,rfl,rfl,(by show 2<=sizeLine;decide),λp hp=>?_⟩;have k07:Kp (λb=>fF A ws ss b∨False) H H7:=λb o h n=>k67 _ _ (s46 _ _ (s04 _ _ h)) λz=>n (.inl (.inl (.inr (.inr (.inr z)))));refine q.new st7 k07 (λb o h n z=>?_) hp ?_
 ·have h2:=s04 _ _ h;rcases z with z|z|⟨V,hV,z⟩
  ·exact n (.inl (.inl z))
  ·exact n (.inl (.inr (.inl z)))
  ·rcases Np.mp hV with hV|hV
   ·exact n (.inl (.inr (.inr ⟨V,hV,z⟩)))
   ·rw[Nu.mp hV]at z;rcases nw b z with e|e
    ·rw[e,nx]at h2;cases h2
    ·rw[s5 _ _ h2]at e;cases e
 ·show [V.int 0,V.int (((ss++[S]).map λS=>V.ref S.a).length-1)]=_;refine congrArg (λz:Int=>[V.int 0,V.int z]) ?_;rw[Nf,Nk,Ny,st.sn];omega
end
theorem zd(p:α->Bool):∀(l:List α),((List.range l.length).filter λi=>(l[i]?).any p).length=(l.filter p).length:=by
 intro l;induction l with
 |nil=>rfl
 |cons a l ih=>
  rw[NH,Pl,PM,List.filter_map,PM];have e:(List.filter ((λi=>((a::l)[i]?).any p)∘Nat.succ) (List.range l.length))=(List.range l.length).filter λi=>(l[i]?).any p:=rfl;rw[e];cases h:p a with
  |true=>
   have:(((a::l)[0]?).any p)=true:=h;rw[Nz this,Nz rfl,NH,NH,Nf,ih]
  |false=>
   have:¬(((a::l)[0]?).any p)=true:=by show ¬p a=true;rw[h];exact NI
   rw[Nt this,Nt NI,Nf,ih]
theorem yW(h:i≠j){a b:α}:(if j<i then a else b)=if j<i+1 then a else b:=by
 by_cases z:j<i
 ·rw[Nz z,Nz (by omega)]
 ·rw[Nt z,Nt (by omega)]
def eN(c:List Nat)(t:Nat)(x:Vbtaak.Scene):Vbtaak.Scene:=Vbtaak.step1 (Vbtaak.memoryOf (Vbtaak.backs x.begins++Vbtaak.backs x.ends_) c) t (c.length+1) x
def wx(c:List Nat)(t:Nat)(x:Vbtaak.Scene):Bool:=!x.on&&sat (c++[t]) x.begins c.length
theorem zR{t:Nat}{x:Vbtaak.Scene}(p1:past x.begins=true)(p2:past x.ends_=true)(h:x.since<=c.length):((eN c t x).since==c.length+1)=wx c t x/\(eN c t x).since<=c.length+1:=by
 unfold eN wx;rw[Vbs.uW p1 p2];have nb:∀{n:Nat},n<=c.length->(n==c.length+1)=false:=λ{n} h=>beq_false_of_ne (by omega);cases ho:x.on with
 |true=>
  rw[Nz rfl];by_cases he:sat (c++[t]) x.ends_ c.length=true
  ·rw[Nz he];exact⟨nb (NT _),NT _⟩
  ·rw[Nt he];exact⟨nb h,by omega⟩
 |false=>
  rw[Nt NI];by_cases hb:sat (c++[t]) x.begins c.length=true
  ·rw[Nz hb,hb];exact⟨QO _,Nq _⟩
  ·rw[Nt hb,show sat (c++[t]) x.begins c.length=false by simpa using hb];exact⟨nb h,by omega⟩
section
variable{P:Program}{w:World}{K:Rt}{mg:Ru}{base:Heap}{D:Ad}
structure GN(P:Program)(w:World)(K:Rt)(D:Ad)(H:Hp)(A:TAd)(ws:List WAd)(ss:List SAd)(s:Vbtaak.State)(t i k:Nat):Prop where
 self:H A.a=some (.ins D.aQ A.dx (stF s.facts A.cl A.wl A.sl))
 co:H A.cl=some (.lst (nvs (s.course++[t])))
 wl:H A.wl=some (.lst (ws.map λW=>V.ref W.a))
 sl:H A.sl=some (.lst (ss.map λS=>V.ref S.a))
 wi:∀(j:Nat)(x:Vbtaak.Wish)(W:WAd),s.wishes[j]?=some x->ws[j]?=some W->dF P w K D H W s.facts x.f x.from_ (if j<i then s.course++[t]else s.course)
 si:∀(j:Nat)(x:Vbtaak.Scene)(S:SAd),s.scenes[j]?=some x->ss[j]?=some S->cc K D H S s.facts (if j<k then eN s.course t x else x) (if j<k then s.course++[t]else s.course)
abbrev mI:Stmt:=inClass (top 70) 5
theorem cj:aF ["self","turn","wish","began","scene"] ["self","turn"] (az mI):=⟨rfl,rfl,rfl,by decide +kernel,rfl,by decide +kernel,by decide +kernel⟩
theorem yC{f:Addr}{fd:FuncData}(F:Fun K "tell_turn" "Story.tell_turn" mI f fd)(T:Txt K mg D)(zu:Mt P w K mg base D.wish "turn_comes" 5 ["self","turn"] (pz P w K D))(xb:Mt P w K mg base D.scene "turn_comes" 5 ["self","turn","place"] (mr K D)):
  bw P w K mg base CX0 6 f fd ["self","turn"] (spM P w K D (x9 .turn)):=by
 refine F.ok cj (λvs H Q E h=>?_) (λcdv A outer s H vs Q E hr h=>?_)
 ·obtain⟨A,ws,ss,s,vs',cl,X,rfl,⟨n,rfl,_⟩,_⟩:=h;rfl
 obtain⟨A,ws,ss,s,vs',cl,X,rfl,⟨n,rfl,rfl,rfl⟩,st,nX,q⟩:=h;refine⟨_,(ae (aW (eH (dg fB sY ao (pv 1) (aI iD ao (au (pv 0) rfl)))) (ai (aA (aV (aa (a9 T.eW) ag)))) aD)
   (ae (aW (aH bH (aP aC rfl T.len NO (aa (au (pv 0) rfl) ag)) (a9 T.A') (aU _)) (ai (aA (aV (aa (a9 T.sv) ag)))) aD)
   (ae (b6 (lK NY Oe Of dD (au (pv 0) rfl) (aa (pv 1) ag)))
   (ae (cu NU rfl (gq (au (pv 0) rfl)) (aL (i:=2) cj.nd rfl (Or.inl rfl)) (ai (b6 (bZ (pv 2) zu hr (aa (pv 1) ag)))))
   (ae (aG (i:=3) cj.nd rfl (Or.inl rfl) ao)
   (ae (cu NU rfl (gq (au (pv 0) rfl)) (aL (i:=4) cj.nd rfl (Or.inl rfl)) (ai (pR (i:=3) cj.nd rfl (Or.inl rfl) (bZ (pv 4) xb hr (aa (pv 1) (aa (aP aC rfl T.len NO (aa (au (pv 0) rfl) ag)) ag))) uz)))
   (ai (aA (aI pS (aV (aa ao (aa (aP aC rfl T.len NO (aa (au (pv 0) rfl) ag)) (aa (pv 3) ag)))) (fI rfl cj.nd (gq (au (pv 0) rfl)) (cU (own:=[("scene",4)]) (by rfl)) (λ_ _ _ _ _=>(aL (i:=4) cj.nd rfl (Or.inl rfl))) (λ_ _ _ _ _=>dH) (λ_ _ _ _ _=>(au (pv 4) rfl)))))))))))),?_⟩
 have stp:Vbtaak.step s (.turn n)=if Vbtaak.inRange n 0 (((2^s.facts:Nat):Int)-1)=false then(s,[-1])else if 60<=s.course.length then(s,[-5])else
   Vbtaak.yes {s with course:=s.course++[n.toNat],scenes:=s.scenes.map (eN s.course n.toNat)} ((s.course.length+1)::((List.range (s.scenes.map (eN s.course n.toNat)).length).filter λi=>(((s.scenes.map (eN s.course n.toNat))[i]?).any λx=>x.since==s.course.length+1)).length::(s.scenes.map (eN s.course n.toNat)).map λx=>bit x.on):=rfl
 have irn:Vbtaak.inRange n 0 (((2^s.facts:Nat):Int)-1)=decide (0<=n/\n<=((2^s.facts:Nat):Int)-1):=rfl;have fa:=st.fa;by_cases r0:0<=n/\n<=((2^s.facts:Nat):Int)-1
 rotate_left
 ·have e:Vbtaak.step s (.turn n)=(s,[-1]):=by
   rw[stp,Nz];rw[irn];exact NL r0
  have bad:=q.bad st (aw.refl _) e;refine⟨_,rfl,_,_,rfl,rfl,_,rfl,bD (λc=>⟨_,rfl,A.a,D.aQ,A.dx,_,_,rfl,st.self,T.aM,T.iF,rfl,_,_,rfl,rfl,tI (by omega),_,((2^s.facts:Nat):Int),rfl,congrArg V.int (iZ _),_,rfl,?_⟩) (λc=>⟨_,rfl,cp bad⟩)⟩;have:¬n<((2^s.facts:Nat):Int):=λz=>r0 ⟨NG c,by omega⟩;rw[NL this];exact cp bad
 have inr:¬Vbtaak.inRange n 0 (((2^s.facts:Nat):Int)-1)=false:=by rw[irn,NA r0];exact Bool.noConfusion
 refine⟨_,rfl,_,_,rfl,rfl,_,rfl,bD (λc=>⟨_,rfl,A.a,D.aQ,A.dx,_,_,rfl,st.self,T.aM,T.iF,rfl,_,_,rfl,rfl,tI (by omega),_,((2^s.facts:Nat):Int),rfl,congrArg V.int (iZ _),_,rfl,mY (by omega) ?_⟩) (λc=>absurd (NA r0.1) c)⟩;refine⟨_,rfl,A.a,D.aQ,A.dx,_,_,rfl,st.self,T.aM,T.fb,rfl,A.cl,_,rfl,.inl (SqL.of st.co),rfl,_,rfl,bD (λc=>?_) (λc=>?_)⟩
 ·have c:=eqI.mp c;rw[Nf]at c;have e:Vbtaak.step s (.turn n)=(s,[-5]):=by rw[stp,Nt inr,Nz (by omega)]
  exact q.bad st (aw.refl _) e
 have c:¬((nvs s.course).length:Int)=60:=λz=>c (eqI.mpr z);rw[Nf]at c;have c60:s.course.length<60:=by have:=st.c60;omega
 obtain⟨t,rfl⟩:∃t:Nat,n=(t:Int):=⟨n.toNat,by omega⟩;have ht:t<2^s.facts:=by
  have:=r0.2;generalize 2^s.facts=M at *;omega
 rw[Nw]at stp;have psc:∀x∈s.scenes,past x.begins=true/\past x.ends_=true:=λx hx=>by
  obtain⟨j,hj⟩:=OZ hx;obtain⟨S,hS⟩:∃S,ss[j]?=some S:=⟨_,Ng (by rw[st.sn];exact(Nh.mp hj).1)⟩;have:=st.si j x S hj hS;exact⟨this.pb.ps,this.pe.ps⟩
 have beg:((List.range (s.scenes.map (eN s.course t)).length).filter λi=>(((s.scenes.map (eN s.course t))[i]?).any λx=>x.since==s.course.length+1)).length=(s.scenes.filter (wx s.course t)).length:=by
  rw[zd,List.filter_map,Nf];congr 1;refine List.filter_congr λx hx=>?_;exact(zR (psc x hx).1 (psc x hx).2 (st.sb x hx)).1
 have e:Vbtaak.step s (.turn (t:Int))=({s with course:=s.course++[t],scenes:=s.scenes.map (eN s.course t)},0::((s.course.length+1)::(s.scenes.filter (wx s.course t)).length::(s.scenes.map (eN s.course t)).map λx=>bit x.on).map λ(n:Nat)=>(n:Int)):=by
  rw[stp,Nt inr,Nt (by omega),beg];rfl
 rw[e]at q;have Mm:A.a≠A.cl:=bJ st.self st.co (by intro z;cases z);refine⟨_,rfl,A.a,D.aQ,A.dx,_,_,rfl,st.self,T.aM,T.fb,rfl,.inl ⟨rfl,_,SqL.of st.co⟩,_,rfl,A.cl,_,_,rfl,rfl,st.co,(by rw[Nf];exact bx (by omega)),?_⟩;generalize hH1:upd H A.cl _=H1;have k1:Kp (·=A.cl) H H1:=by rw[<-hH1];exact aJ
 have e1:H1 A.cl=some (.lst (nvs (s.course++[t]))):=by
  rw[<-hH1,af];unfold nvs;rw[NS];rfl
 clear hH1;have lc:Loose D H (·=A.cl):=bX st.co;have m1:GN P w K D H1 A ws ss s t 0 0:=by
  refine⟨k1 _ _ st.self Mm,e1,k1 _ _ st.wl (λz=>st.dj.cw z.symm),k1 _ _ st.sl (λz=>st.dj.cs z.symm),λj x W h1 h2=>?_,λj x S h1 h2=>?_⟩
  ·rw[Nt (PZ _)];exact(st.wi j x W h1 h2).kp lc k1 λb z y=>st.dj.wa W (Nr h2) b z (.inr (.inl y))
  ·rw[Nt (PZ _),Nt (PZ _)];exact(st.si j x S h1 h2).kp lc k1 λb z y=>st.dj.sa S (Nr h2) b z (.inr (.inl y))
 have kf1:Kp (fF A ws ss) H H1:=k1.mono λb z=>.inl (.inr (.inl z));refine⟨_,rfl,A.a,D.aQ,A.dx,_,_,rfl,m1.self,T.aM,T.dw,rfl,A.wl,rfl,⟨_,SqL.of m1.wl⟩,jU (K:=K) (a:=A.wl) (xs:=ws.map λW=>V.ref W.a)
  (λi σ H'=>(∃v:Option V,σ=[some (.ref A.a),some (nv t),v,none,none])/\GN P w K D H' A ws ss s t i 0/\Kp (fF A ws ss) H H') ⟨⟨none,rfl⟩,m1,kf1⟩ (λi σ H' _ ⟨_,m2,_⟩=>SqL.of m2.wl) ?_ ?_⟩
 ·rintro i y σ H2 hy ⟨⟨v,rfl⟩,m2,k2⟩;have hi:i<ws.length:=by
   have:=(Nh.mp hy).1;rw[Nf]at this;exact this
  obtain⟨W,hW⟩:∃W,ws[i]?=some W:=⟨_,Ng hi⟩;obtain⟨x,hx⟩:∃x,s.wishes[i]?=some x:=⟨_,Ng (by rw[<-st.wn];exact hi)⟩;rw[NC,hW]at hy;have ey:=(Nm hy).symm;subst ey;have wi:=m2.wi i x W hx hW;rw[Nt (OP _)]at wi;refine⟨_,rfl,W.a,W.dx,_,rfl,wi.core.self,rfl,_,rfl,W,s.facts,x.f,x.from_,s.course,t,rfl,wi,ht,c60,λH3 w3 k3=>⟨⟨_,rfl⟩,?_,?_⟩⟩
  ·have hm:∀b,b=W.tl∨b=W.ml∨b=W.fo->W.cA b:=λb z=>by
    rcases z with z|z|z
    ·exact .inr (.inr (.inl z))
    ·exact .inr (.inr (.inr (.inl z)))
    ·exact .inr (.inl z)
   have lo:Loose D H2 λb=>b=W.tl∨b=W.ml∨b=W.fo:=λb z=>o9 wi b (hm b z);have hWm:=Nr hW;refine⟨k3 _ _ m2.self λz=>st.dj.wa W hWm _ (hm _ z) (.inl rfl),k3 _ _ m2.co λz=>st.dj.wa W hWm _ (hm _ z) (.inr (.inl rfl)),k3 _ _ m2.wl λz=>st.dj.wa W hWm _ (hm _ z) (.inr (.inr (.inl rfl))),k3 _ _ m2.sl λz=>st.dj.wa W hWm _ (hm _ z) (.inr (.inr (.inr rfl))),λj y V h1 h2=>?_,λj y S h1 h2=>?_⟩
   ·by_cases ej:i=j
    ·subst ej;have a1:=Nm (hx.symm.trans h1);subst a1;have a2:=Nm (hW.symm.trans h2);subst a2;rw[Nz (PL _)];exact w3
    ·have:=(m2.wi j y V h1 h2).kp lo k3 λb z y=>st.dj.ww i j W V ej hW h2 b (hm b y) z;rw[yW ej]at this;exact this
   ·exact(m2.si j y S h1 h2).kp lo k3 λb z y=>st.dj.wsn W hWm S (Nr h2) b (hm b y) z
  ·exact k2.trans (k3.mono λb z=>.inr (.inl ⟨W,Nr hW,by
    rcases z with z|z|z
    ·exact .inr (.inr (.inl z))
    ·exact .inr (.inr (.inr (.inl z)))
    ·exact .inr (.inl z)⟩))
 ·rintro σ H2 ⟨⟨v,rfl⟩,m2,k2⟩;rw[Nf]at m2;refine⟨_,rfl,A.a,D.aQ,A.dx,_,_,rfl,m2.self,T.aM,T.dI,rfl,A.sl,rfl,⟨_,SqL.of m2.sl⟩,jU (K:=K) (a:=A.sl) (xs:=ss.map λS=>V.ref S.a)
   (λi σ H'=>(∃v v':Option V,σ=[some (.ref A.a),some (nv t),v,some (nv ((s.scenes.take i).filter (wx s.course t)).length),v'])/\GN P w K D H' A ws ss s t ws.length i/\Kp (fF A ws ss) H H') ⟨⟨_,_,rfl⟩,m2,k2⟩ (λi σ H' _ ⟨_,m3,_⟩=>SqL.of m3.sl) ?_ ?_⟩
  ·rintro i y σ H3 hy ⟨⟨v,v',rfl⟩,m3,k3⟩;have hi:i<ss.length:=by
    have:=(Nh.mp hy).1;rw[Nf]at this;exact this
   obtain⟨S,hS⟩:∃S,ss[i]?=some S:=⟨_,Ng hi⟩;obtain⟨x,hx⟩:∃x,s.scenes[i]?=some x:=⟨_,Ng (by rw[<-st.sn];exact hi)⟩;rw[NC,hS]at hy;have ey:=(Nm hy).symm;subst ey;have si:=m3.si i x S hx hS;rw[Nt (OP _),Nt (OP _)]at si;refine⟨_,rfl,_,rfl,S.a,S.dx,_,rfl,si.self,rfl,_,rfl,_,rfl,A.a,D.aQ,A.dx,_,_,rfl,m3.self,T.aM,T.fb,rfl,A.cl,_,rfl,.inl (SqL.of m3.co),S,s.facts,x,s.course,t,s.course.length+1,?_,si,λH4 s4 k4=>?_⟩
   ·show [V.ref S.a,nv t,V.int ((nvs (s.course++[t])).length:Nat)]=_;rw[Nf,Nk,Ny]
   have s4:cc K D H4 S s.facts (eN s.course t x) (s.course++[t]):=s4;have lo:Loose D H3 S.cA:=sS si;have hSm:=Nr hS;refine⟨_,_,rfl,rfl,⟨v,some (.ref S.a),?_⟩,⟨k4 _ _ m3.self λz=>st.dj.sa S hSm _ z (.inl rfl),k4 _ _ m3.co λz=>st.dj.sa S hSm _ z (.inr (.inl rfl)),k4 _ _ m3.wl λz=>st.dj.sa S hSm _ z (.inr (.inr (.inl rfl))),k4 _ _ m3.sl λz=>st.dj.sa S hSm _ z (.inr (.inr (.inr rfl))),λj y V h1 h2=>?_,λj y V h1 h2=>?_⟩,?_⟩
   ·refine congrArg (λz:Int=>[some (V.ref A.a),some (nv t),v,some (V.int z),some (V.ref S.a)]) ?_;rw[OG,hx];show _=(((s.scenes.take i++[x]).filter (wx s.course t)).length:Int);rw[List.filter_append,Nk,PM,List.filter_nil];show _+((bit (wx s.course t x):Nat):Int)=_;cases wx s.course t x<;>simp[bit]
   ·exact(m3.wi j y V h1 h2).kp lo k4 λb z y=>st.dj.wsn V (Nr h2) S hSm b z y
   ·by_cases ej:i=j
    ·subst ej;have a1:=Nm (hx.symm.trans h1);subst a1;have a2:=Nm (hS.symm.trans h2);subst a2;rw[Nz (PL _),Nz (PL _)];exact s4
    ·have:=(m3.si j y V h1 h2).kp lo k4 λb z y=>st.dj.sns i j S V ej hS h2 b y z;rw[yW ej,yW ej]at this;exact this
   ·exact k3.trans (k4.mono λb z=>.inr (.inr ⟨S,hSm,z⟩))
  ·rintro σ H3 ⟨⟨v,v',rfl⟩,m3,k3⟩;rw[Nf]at m3;rw[Nf,st.sn,Oj];have st3:bC P w K D H3 A ws ss {s with course:=s.course++[t],scenes:=s.scenes.map (eN s.course t)}:=by
    refine⟨m3.self,m3.co,m3.wl,m3.sl,st.wn,λj x W h1 h2=>?_,by show ss.length=(s.scenes.map (eN s.course t)).length;rw[Nf];exact st.sn,λj x S h1 h2=>?_,λx hx=>?_,st.dj,st.fa,by show(s.course++[t]).length<=60;rw[Nk,Ny];omega,λu hu=>?_,st.w6,by show(s.scenes.map (eN s.course t)).length<=6;rw[Nf];exact st.s6⟩
    ·have:=m3.wi j x W h1 h2;rw[Nz (Nh.mp h2).1]at this;exact this
    ·have h1:(s.scenes.map (eN s.course t))[j]?=some x:=h1;rw[NC]at h1;cases ex:s.scenes[j]? with
     |none=>rw[ex]at h1;cases h1
     |some y=>
      rw[ex]at h1;have:=(Nm h1).symm;subst this;have:=m3.si j y S ex h2;rw[Nz (Nh.mp h2).1,Nz (Nh.mp h2).1]at this;exact this
    ·obtain⟨y,hy,rfl⟩:=NZ.mp hx;show(eN s.course t y).since<=(s.course++[t]).length;rw[Nk,Ny];exact(zR (psc y hy).1 (psc y hy).2 (st.sb y hy)).2
    ·rcases Np.mp hu with z|z
     ·exact st.tu u z
     ·rw[Nu.mp z];exact ht
   refine⟨_,rfl,A.a,D.aQ,A.dx,_,_,rfl,st3.self,T.aM,T.fb,rfl,A.cl,_,rfl,.inl (SqL.of st3.co),_,rfl,(by show 3<=sizeLine;decide),λp1 hp1=>?_⟩;generalize hH4:upd H3 p1 _=H4;have s4:aw H3 H4:=by rw[<-hH4];exact ak hp1 _
   have e4:H4 p1=some (.lst [.int 0,nv (s.course.length+1),nv (s.scenes.filter (wx s.course t)).length]):=by
    rw[<-hH4,af];refine congrArg (λz:Nat=>some (HO.lst [V.int 0,nv z,nv (s.scenes.filter (wx s.course t)).length])) ?_;rw[Nf,Nk,Ny]
   clear hH4;have st4:=st3.same s4;have few:ss.length<=6:=by rw[st.sn];exact st.s6
   refine⟨_,rfl,A.a,D.aQ,A.dx,_,_,rfl,st4.self,T.aM,T.dI,rfl,A.sl,rfl,⟨_,SqL.of st4.sl⟩,λr hr0=>vN (K:=K) (a:=A.sl) (xs:=ss.map λS=>V.ref S.a) (nvs ((s.scenes.map (eN s.course t)).map λx=>bit x.on)) (SqL.of st4.sl) (by rw[Nf,Nf,Nf,Nf];exact st.sn) hr0 (by rw[Nf,Nf,Nf];exact bx (by have:=st.s6;omega)) ?_ ?_⟩
   ·rintro i y v0 H5 hy hv s5 R R2 hR;have hi:i<ss.length:=by
     have:=(Nh.mp hv).1;rw[Nf]at this;exact this
    obtain⟨S,hS⟩:∃S,ss[i]?=some S:=⟨_,Ng hi⟩;obtain⟨x,hx⟩:∃x,(s.scenes.map (eN s.course t))[i]?=some x:=⟨_,Ng (by rw[Nf,<-st.sn];exact hi)⟩;rw[NC,hS]at hv;have ev:=(Nm hv).symm;subst ev;rw[NC,NC,hx]at hy;have ey:=(Nm hy).symm;subst ey;have si:=(st4.si i x S hx hS);exact⟨rfl,lcT ⟨_,rfl,S.a,D.scene,S.dx,_,_,rfl,s5 _ _ si.self,T.cH,T.kI,rfl,hR _ (aw.refl _)⟩⟩
   ·intro H5 s5 e5;refine⟨p1,r,_,_,rfl,rfl,s5 _ _ e4,e5,?_,λp3 hp3=>q.new (st4.same s5) (((k3.trans (aw.kp s4)).trans (aw.kp s5)).mono λb z=>.inl z) (λb o _ n z=>n (.inl z)) hp3 ?_⟩
    ·rw[Nf,Nf,Nf];have:=st.s6;exact OI (bx (by show 3+s.scenes.length<=1000;omega))
    ·show _=V.int 0::ivs ((((s.course.length+1)::(s.scenes.filter (wx s.course t)).length::(s.scenes.map (eN s.course t)).map λx=>bit x.on)).map λ(n:Nat)=>(n:Int));rw[mW];rfl
end
inductive gd:Int->List Int->List (List Int)->Vbtaak.Call->Prop
 |facts {n:_}:gd 0 [n] [] (.facts n)
 |wish {l:_}:gd 1 [] [l] (.wish l)
 |scene {l r:_}:gd 2 [] [l,r] (.scene l r)
 |turn {n:_}:gd 3 [n] [] (.turn n)
 |kept {n:_}:gd 4 [n] [] (.kept n)
 |hope {a b c:_}:gd 5 [a,b,c] [] (.hope a b c)
 |scenes:gd 6 [] [] .scenes
 |together {a b c:_}:gd 7 [a,b,c] [] (.together a b c)
 |course:gd 8 [] [] .course
 |holds {k l:_}:gd 9 [k] [l] (.holds k l)
 |show_ {n:_}:gd 10 [n] [] (.show_ n)
section
variable{P:Program}{w:World}{K:Rt}{mg:Ru}{base:Heap}{D:Ad}
theorem After.less{X X':Addr->Prop}{r:Vbtaak.State×List Int}{Q:VK}(q:After P w K D H A ws ss X r Q)(h:∀b,X' b->X b):After P w K D H A ws ss X' r Q:=λws' ss' p H' st k nf e=>
 q ws' ss' p H' st (k.mono λb z=>z.elim .inl λz=>.inr (h b z)) (λb o hb n=>nf b o hb λz=>n (z.elim .inl λz=>.inr (h b z))) e
inductive uR(P:Program)(w:World)(K:Rt)(D:Ad)(vs:List V)(H:Hp)(Q:VK)(E:XK):Prop
 |mk (A ws ss s p nl rwl xs rows as cl:_):vs=[.ref (TAd.a A),.int p,.ref nl,.ref rwl]->bC P w K D H A ws ss s->SqL K H nl (ivs xs)->SqL K H rwl ((as:List Addr).map V.ref)->Paired (λ(row:List Int) a=>H a=some (.lst (ivs row))) rows as->gd p xs rows cl->(∀a∈as,¬fF A ws ss a)->After P w K D H A ws ss (·∈as) (Vbtaak.step s cl) Q->uR P w K D vs H Q E
abbrev qB:Stmt:=inClass (top 70) 1
theorem wJ:aF ["self","call","numbers","rows"] ["self","call","numbers","rows"] (az qB):=⟨rfl,rfl,rfl,by decide +kernel,rfl,by decide +kernel,by decide +kernel⟩
variable{fd:FuncData}
theorem Ek{f:Addr}(F:Fun K "answer" "Story.answer" qB f fd)(T:Txt K mg D)(zx:Mt P w K mg base D.aQ "tell_facts" 1 ["self","facts"] (spM P w K D DW))(Bv:Mt P w K mg base D.aQ "tell_wish" 9 ["self","row"] (spM P w K D GF))
  (zw:Mt P w K mg base D.aQ "tell_scene" 9 ["self","begin_row","end_row"] (spM P w K D (DU K)))(Bx:Mt P w K mg base D.aQ "tell_turn" 6 ["self","turn"] (spM P w K D (x9 .turn)))(CS:Mt P w K mg base D.aQ "ask_kept" 21 ["self","number"] (spM P w K D (x9 .kept)))
  (CT:Mt P w K mg base D.aQ "ask_hope" 20 ["self","number","most","kept"] (spM P w K D (uI .hope)))(zA:Mt P w K mg base D.aQ "ask_scenes" 1 ["self"] (spM P w K D (GG .scenes)))(wD:Mt P w K mg base D.aQ "ask_together" 6 ["self","number","other_number","most"] (spM P w K D (uI .together)))
  (BA:Mt P w K mg base D.aQ "ask_holds" 8 ["self","place","row"] (spM P w K D (DV K)))(CQ:Mt P w K mg base D.aQ "ask_show" 1 ["self","number"] (spM P w K D (x9 .show_))):bw P w K mg base CX0 22 f fd ["self","call","numbers","rows"] (uR P w K D):=by
 refine F.ok wJ (λvs H Q E h=>?_) (λcdv A outer s H vs Q E hr h=>?_)
 ·obtain⟨A,ws,ss,s,p,nl,rwl,xs,rows,as,cl,rfl,_⟩:=h;rfl
 obtain⟨A,ws,ss,s,p,nl,rwl,xs,rows,as,cl,rfl,st,hn,hrw,qZ,ci,nas,q⟩:=h;refine⟨_,(ae (aW (aH bH (pv 1) (a9 T.JX) (aU _)) (ai (aA (bZ (pv 0) zx hr (aa (aS aE (pv 2) ao (λ_ _=>rfl)) ag)))) aD)
   (ae (aW (aH bH (pv 1) (a9 T.Ll) (aU _)) (ai (aA (bZ (pv 0) Bv hr (aa (aS aE (pv 3) ao (λ_ _=>rfl)) ag)))) aD)
   (ae (aW (aH bH (pv 1) (a9 T.JU) (aU _)) (ai (aA (bZ (pv 0) zw hr (aa (aS aE (pv 3) ao (λ_ _=>rfl)) (aa (aS aE (pv 3) ao (λ_ _=>rfl)) ag))))) aD)
   (ae (aW (aH bH (pv 1) (a9 T.Lm) (aU _)) (ai (aA (bZ (pv 0) Bx hr (aa (aS aE (pv 2) ao (λ_ _=>rfl)) ag)))) aD)
   (ae (aW (aH bH (pv 1) (a9 T.Lo) (aU _)) (ai (aA (bZ (pv 0) CS hr (aa (aS aE (pv 2) ao (λ_ _=>rfl)) ag)))) aD)
   (ae (aW (aH bH (pv 1) (a9 T.Lp) (aU _)) (ai (aA (bZ (pv 0) CT hr (aa (aS aE (pv 2) ao (λ_ _=>rfl)) (aa (aS aE (pv 2) ao (λ_ _=>rfl)) (aa (aS aE (pv 2) ao (λ_ _=>rfl)) ag)))))) aD)
   (ae (aW (aH bH (pv 1) (a9 T.HS) (aU _)) (ai (aA (Fw (pv 0) zA hr))) aD)
   (ae (aW (aH bH (pv 1) (a9 T.EL) (aU _)) (ai (aA (bZ (pv 0) wD hr (aa (aS aE (pv 2) ao (λ_ _=>rfl)) (aa (aS aE (pv 2) ao (λ_ _=>rfl)) (aa (aS aE (pv 2) ao (λ_ _=>rfl)) ag)))))) aD)
   (ae (aW (aH bH (pv 1) (a9 T.HU) (aU _)) (ai (aA (aI pS (aV (aa ao ag)) (au (pv 0) rfl)))) aD)
   (ae (aW (aH bH (pv 1) (a9 T.JW) (aU _)) (ai (aA (bZ (pv 0) BA hr (aa (aS aE (pv 2) ao (λ_ _=>rfl)) (aa (aS aE (pv 3) ao (λ_ _=>rfl)) ag))))) aD)
   (ai (aA (bZ (pv 0) CQ hr (aa (aS aE (pv 2) ao (λ_ _=>rfl)) ag)))))))))))))),?_⟩
 have q0:=q.less (X':=λ_=>False) λb z=>z.elim;have nF:∀b,(λ_:Addr=>False) b->¬fF A ws ss b:=λb z=>z.elim;cases ci with
 |@facts n=>
  refine⟨_,rfl,rfl,_,rfl,kY rfl ?_⟩;exact⟨_,rfl,A.a,A.dx,_,rfl,st.self,rfl,_,rfl,nl,_,_,.int n,rfl,rfl,hn,bg (j:=0) rfl,A,ws,ss,s,_,.facts n,_,rfl,⟨n,rfl,rfl,rfl⟩,st,nF,q0⟩
 |@wish l=>
  cases qZ with
  |cons ha hr2=>
  rename_i a as'
  cases hr2;refine⟨_,rfl,rfl,_,rfl,kN (by decide) ?_⟩;refine⟨_,rfl,rfl,_,rfl,kY rfl ?_⟩;exact⟨_,rfl,A.a,A.dx,_,rfl,st.self,rfl,_,rfl,rwl,_,_,.ref a,rfl,rfl,hrw,bg (j:=0) rfl,A,ws,ss,s,_,.wish l,_,rfl,⟨a,l,rfl,rfl,ha,rfl⟩,st,(λb z=>by rw[z];exact nas a (Nu.mpr rfl)),q.less λb z=>Nu.mpr z⟩
 |@scene l r=>
  cases qZ with
  |cons ha hr2=>
  rename_i a as'
  cases hr2 with
  |cons hb hr3=>
  rename_i b Nd
  cases hr3;refine⟨_,rfl,rfl,_,rfl,kN (by decide) ?_⟩;refine⟨_,rfl,rfl,_,rfl,kN (by decide) ?_⟩;refine⟨_,rfl,rfl,_,rfl,kY rfl ?_⟩;exact⟨_,rfl,A.a,A.dx,_,rfl,st.self,rfl,_,rfl,rwl,_,_,.ref a,rfl,rfl,hrw,bg (j:=0) rfl,_,rfl,rwl,_,_,.ref b,rfl,rfl,hrw,bg (j:=1) rfl,A,ws,ss,s,_,.scene l r,_,rfl,⟨a,b,l,r,rfl,rfl,SqL.of ha,SqL.of hb,rfl⟩,st,nF,q0⟩
 |@turn n=>
  refine⟨_,rfl,rfl,_,rfl,kN (by decide) ?_⟩;refine⟨_,rfl,rfl,_,rfl,kN (by decide) ?_⟩;refine⟨_,rfl,rfl,_,rfl,kN (by decide) ?_⟩;refine⟨_,rfl,rfl,_,rfl,kY rfl ?_⟩;exact⟨_,rfl,A.a,A.dx,_,rfl,st.self,rfl,_,rfl,nl,_,_,.int n,rfl,rfl,hn,bg (j:=0) rfl,A,ws,ss,s,_,.turn n,_,rfl,⟨n,rfl,rfl,rfl⟩,st,nF,q0⟩
 |@kept n=>
  refine⟨_,rfl,rfl,_,rfl,kN (by decide) ?_⟩;refine⟨_,rfl,rfl,_,rfl,kN (by decide) ?_⟩;refine⟨_,rfl,rfl,_,rfl,kN (by decide) ?_⟩;refine⟨_,rfl,rfl,_,rfl,kN (by decide) ?_⟩;refine⟨_,rfl,rfl,_,rfl,kY rfl ?_⟩;exact⟨_,rfl,A.a,A.dx,_,rfl,st.self,rfl,_,rfl,nl,_,_,.int n,rfl,rfl,hn,bg (j:=0) rfl,A,ws,ss,s,_,.kept n,_,rfl,⟨n,rfl,rfl,rfl⟩,st,nF,q0⟩
 |@hope a b c=>
  refine⟨_,rfl,rfl,_,rfl,kN (by decide) ?_⟩;refine⟨_,rfl,rfl,_,rfl,kN (by decide) ?_⟩;refine⟨_,rfl,rfl,_,rfl,kN (by decide) ?_⟩;refine⟨_,rfl,rfl,_,rfl,kN (by decide) ?_⟩;refine⟨_,rfl,rfl,_,rfl,kN (by decide) ?_⟩;refine⟨_,rfl,rfl,_,rfl,kY rfl ?_⟩;exact⟨_,rfl,A.a,A.dx,_,rfl,st.self,rfl,_,rfl,nl,_,_,.int a,rfl,rfl,hn,bg (j:=0) rfl,_,rfl,nl,_,_,.int b,rfl,rfl,hn,bg (j:=1) rfl,_,rfl,nl,_,_,.int c,rfl,rfl,hn,bg (j:=2) rfl,A,ws,ss,s,_,.hope a b c,_,rfl,⟨a,b,c,rfl,rfl,rfl⟩,st,nF,q0⟩
 |scenes=>
  refine⟨_,rfl,rfl,_,rfl,kN (by decide) ?_⟩;refine⟨_,rfl,rfl,_,rfl,kN (by decide) ?_⟩;refine⟨_,rfl,rfl,_,rfl,kN (by decide) ?_⟩;refine⟨_,rfl,rfl,_,rfl,kN (by decide) ?_⟩;refine⟨_,rfl,rfl,_,rfl,kN (by decide) ?_⟩;refine⟨_,rfl,rfl,_,rfl,kN (by decide) ?_⟩;refine⟨_,rfl,rfl,_,rfl,kY rfl ?_⟩;exact⟨_,rfl,A.a,A.dx,_,rfl,st.self,rfl,A,ws,ss,s,_,.scenes,_,rfl,⟨rfl,rfl,rfl⟩,st,nF,q0⟩
 |@together a b c=>
  refine⟨_,rfl,rfl,_,rfl,kN (by decide) ?_⟩;refine⟨_,rfl,rfl,_,rfl,kN (by decide) ?_⟩;refine⟨_,rfl,rfl,_,rfl,kN (by decide) ?_⟩;refine⟨_,rfl,rfl,_,rfl,kN (by decide) ?_⟩;refine⟨_,rfl,rfl,_,rfl,kN (by decide) ?_⟩;refine⟨_,rfl,rfl,_,rfl,kN (by decide) ?_⟩;refine⟨_,rfl,rfl,_,rfl,kN (by decide) ?_⟩;refine⟨_,rfl,rfl,_,rfl,kY rfl ?_⟩;exact⟨_,rfl,A.a,A.dx,_,rfl,st.self,rfl,_,rfl,nl,_,_,.int a,rfl,rfl,hn,bg (j:=0) rfl,_,rfl,nl,_,_,.int b,rfl,rfl,hn,bg (j:=1) rfl,_,rfl,nl,_,_,.int c,rfl,rfl,hn,bg (j:=2) rfl,A,ws,ss,s,_,.together a b c,_,rfl,⟨a,b,c,rfl,rfl,rfl⟩,st,nF,q0⟩
 |course=>
  refine⟨_,rfl,rfl,_,rfl,kN (by decide) ?_⟩;refine⟨_,rfl,rfl,_,rfl,kN (by decide) ?_⟩;refine⟨_,rfl,rfl,_,rfl,kN (by decide) ?_⟩;refine⟨_,rfl,rfl,_,rfl,kN (by decide) ?_⟩;refine⟨_,rfl,rfl,_,rfl,kN (by decide) ?_⟩;refine⟨_,rfl,rfl,_,rfl,kN (by decide) ?_⟩;refine⟨_,rfl,rfl,_,rfl,kN (by decide) ?_⟩;refine⟨_,rfl,rfl,_,rfl,kN (by decide) ?_⟩;refine⟨_,rfl,rfl,_,rfl,kY rfl ?_⟩;refine⟨(by show 1<=sizeLine;decide),λp1 hp1=>?_⟩;have s1:=ak hp1 (.lst [.int 0]);have q1:After P w K D H A ws ss (λ_=>False) (s,0::s.course.map λ(n:Nat)=>(n:Int)) Q:=q0;refine⟨_,rfl,A.a,D.aQ,A.dx,_,_,rfl,s1 _ _ st.self,T.aM,T.fb,rfl,p1,A.cl,_,_,rfl,rfl,af,s1 _ _ st.co,?_,λp2 hp2=>q1.lW (st.same s1) (aw.kp s1) hp2 ?_⟩
  ·rw[Nf];have:=st.c60;exact OI (bx (by show 1+s.course.length<=1000;omega))
  ·show _=V.int 0::ivs (s.course.map λ(n:Nat)=>(n:Int));rw[mW];rfl
 |@holds k l=>
  cases qZ with
  |cons ha hr2=>
  rename_i a as'
  cases hr2;refine⟨_,rfl,rfl,_,rfl,kN (by decide) ?_⟩;refine⟨_,rfl,rfl,_,rfl,kN (by decide) ?_⟩;refine⟨_,rfl,rfl,_,rfl,kN (by decide) ?_⟩;refine⟨_,rfl,rfl,_,rfl,kN (by decide) ?_⟩;refine⟨_,rfl,rfl,_,rfl,kN (by decide) ?_⟩;refine⟨_,rfl,rfl,_,rfl,kN (by decide) ?_⟩;refine⟨_,rfl,rfl,_,rfl,kN (by decide) ?_⟩;refine⟨_,rfl,rfl,_,rfl,kN (by decide) ?_⟩;refine⟨_,rfl,rfl,_,rfl,kN (by decide) ?_⟩;refine⟨_,rfl,rfl,_,rfl,kY rfl ?_⟩;exact⟨_,rfl,A.a,A.dx,_,rfl,st.self,rfl,_,rfl,nl,_,_,.int k,rfl,rfl,hn,bg (j:=0) rfl,_,rfl,rwl,_,_,.ref a,rfl,rfl,hrw,bg (j:=0) rfl,A,ws,ss,s,_,.holds k l,_,rfl,⟨k,a,l,rfl,rfl,SqL.of ha,rfl⟩,st,nF,q0⟩
 |@show_ n=>
  refine⟨_,rfl,rfl,_,rfl,kN (by decide) ?_⟩;refine⟨_,rfl,rfl,_,rfl,kN (by decide) ?_⟩;refine⟨_,rfl,rfl,_,rfl,kN (by decide) ?_⟩;refine⟨_,rfl,rfl,_,rfl,kN (by decide) ?_⟩;refine⟨_,rfl,rfl,_,rfl,kN (by decide) ?_⟩;refine⟨_,rfl,rfl,_,rfl,kN (by decide) ?_⟩;refine⟨_,rfl,rfl,_,rfl,kN (by decide) ?_⟩;refine⟨_,rfl,rfl,_,rfl,kN (by decide) ?_⟩;refine⟨_,rfl,rfl,_,rfl,kN (by decide) ?_⟩;refine⟨_,rfl,rfl,_,rfl,kN (by decide) ?_⟩;exact⟨_,rfl,A.a,A.dx,_,rfl,st.self,rfl,_,rfl,nl,_,_,.int n,rfl,rfl,hn,bg (j:=0) rfl,A,ws,ss,s,_,.show_ n,_,rfl,⟨n,rfl,rfl,rfl⟩,st,nF,q0⟩
def At(l t:List Int)(a:Nat):Prop:=l.drop a=t/\a+t.length=l.length
variable{l t:List Int}
theorem At.head{a:Nat}{n:Int}(h:At l (n::t) a):l[a]?=some n/\At l t (a+1):=by
 obtain⟨h1,h2⟩:=h;rw[NH]at h2;have hl:a<l.length:=by omega
 rw[Od hl]at h1;injection h1 with e1 e2;exact⟨by rw[Ng hl,e1],e2,by omega⟩
theorem At.more{a:Nat}(h:At l t a)(hn:n<=t.length):At l (t.drop n) (a+n):=by
 obtain⟨h1,h2⟩:=h;exact⟨by rw[<-List.drop_drop,h1],by rw[O1];omega⟩
theorem At.cut{a:Nat}(h:At l t a)(hn:n<=t.length):CF (ivs l) (some ((a:Nat):Int)) (some ((a+n:Nat):Int))=ivs (t.take n):=by
 obtain⟨h1,h2⟩:=h;have ll:(ivs l).length=l.length:=Nf _;unfold CF;rw[HT.C8,HT.C8,ll,Nat.min_eq_left (by omega),Nat.min_eq_left (by omega),show a+n-a=n by omega];unfold ivs;rw[<-List.map_drop,<-List.map_take,h1]
inductive pF(K:Rt)(vs:List V)(H:Hp)(Q:VK)(E:XK):Prop
 |mk (cl:Addr) (l:List Int) (a k:Nat) (r t:List Int) (xs:List (List Int)):vs=[.ref cl,nv a,nv k]->SqL K H cl (ivs l)->l.length<=17000->At l r a->PyFlat.rows k r=some (xs,t)->k<=2->(∀T rl as b H',aw H H'->H' T=some (.tup [.ref rl,nv b])->At l t b->H' rl=some (.lst ((as:List Addr).map V.ref))->Paired (λ(row:List Int) a=>H' a=some (.lst (ivs row))) xs as->(∀a∈as,H a=none)->Q (.ref T) H')->pF K vs H Q E
abbrev xx:Stmt:=top 71
theorem ip:aF ["calls","start","row_count","rows","at","row_end"] ["calls","start","row_count"] (az xx):=⟨rfl,rfl,rfl,by decide +kernel,rfl,by decide +kernel,by decide +kernel⟩
theorem Ae{r x s:List Int}(h:PyFlat.row r=some (x,s)):∃(n:Nat) (t:List Int),r=(n:Int)::t/\n<=t.length/\x=t.take n/\s=t.drop n:=by
 cases r with
 |nil=>cases h
 |cons n t=>
  have h:(if 0<=n/\n.toNat<=t.length then some (t.take n.toNat,t.drop n.toNat)else none)=some (x,s):=h;by_cases z:0<=n/\n.toNat<=t.length
  ·rw[Nz z]at h;injection h with h;injection h with h1 h2;exact⟨n.toNat,t,by rw[show((n.toNat:Nat):Int)=n by omega],z.2,h1.symm,h2.symm⟩
  ·rw[Nt z]at h;cases h
theorem rW{r:List Int}{xs:List (List Int)}(h:PyFlat.rows (k+1) r=some (xs,t)):∃x s xs',PyFlat.row r=some (x,s)/\PyFlat.rows k s=some (xs',t)/\xs=x::xs':=by
 unfold PyFlat.rows at h;cases e:PyFlat.row r with
 |none=>rw[e]at h;cases h
 |some xs2=>
  obtain⟨x,s⟩:=xs2;rw[e]at h;cases e2:PyFlat.rows k s with
  |none=>simp only[e2]at h;cases h
  |some ys=>
   obtain⟨xs',t'⟩:=ys;simp only[e2]at h;injection h with h;injection h with h1 h2;subst h2;exact⟨x,s,xs',rfl,e2,h1.symm⟩
theorem yE{f:Addr}(F:Fun K "read_rows" "read_rows" xx f fd)(T:Txt K mg D):bw P w K mg base CX0 1 f fd ["calls","start","row_count"] (pF K):=by
 refine F.ok ip (λvs H Q E h=>?_) (λcdv A outer s H vs Q E hr h=>?_)
 ·obtain⟨cl,l,a,k,r,t,xs,rfl,_⟩:=h;rfl
 obtain⟨cl,l,a,k,r,t,xs,rfl,sq,l17,hat,hrw,k2,q⟩:=h;refine⟨_,(ae (aG (i:=3) ip.nd rfl (Or.inl rfl) (aV ag))
   (ae (aG (i:=4) ip.nd rfl (Or.inl rfl) (pv 1))
   (ae (qG NU (aH sY (aP aC rfl T.len NO (aa (pv 3) ag)) (pv 2) (aU _)) (ae (aG (i:=5) ip.nd rfl (Or.inl rfl) (aI fJ (aI fJ (pv 4) ao) (aS aE (pv 0) (pv 4) (λ_ _=>rfl))))
   (ae (b6 (lK NY Oe Of dD (pv 3) (aa (Ah C6 (pv 0) (uo (aI fJ (pv 4) ao)) (uo (pv 5))) ag)))
   (ai (aG (i:=4) ip.nd rfl (Or.inl rfl) (pv 5))))))
   (ai (aA (kq (aa (pv 3) (aa (pv 4) ag)))))))),?_⟩
 refine⟨NT _,λrl hrl=>?_⟩;have s1:=ak hrl (.lst []);refine⟨_,rfl,?_⟩;refine⟨λm σ H'=>∃(b j:Nat) (v:Option V) (as:List Addr) (done rest:List (List Int)) (u:List Int),σ=[some (.ref cl),some (nv a),some (nv k),some (.ref rl),some (nv b),v]/\aw H H'/\H' rl=some (.lst (as.map V.ref))/\as.length+j=k/\m=j/\At l u b/\PyFlat.rows j u=some (rest,t)/\xs=done++rest/\Paired (λ(row:List Int) a=>H' a=some (.lst (ivs row))/\a≠rl) done as/\∀a∈as,H a=none,⟨k,a,k,none,[],[],xs,r,rfl,s1,af,PX _,rfl,hat,hrw,rfl,.nil,λa z=>by cases z⟩,?_⟩;rintro m σ H1 ⟨b,j,v,as,done,rest,u,rfl,s2,e2,aj,rfl,hb,hru,ex,pd,na⟩;refine⟨_,rfl,rl,_,rfl,.inl (SqL.of e2),_,rfl,_,_,rfl,rfl,_,rfl,bD (λc=>?_) (λc=>?_)⟩
 ·have c:((as.map V.ref).length:Int)<(k:Int):=NG c;rw[Nf]at c;obtain⟨j',rfl⟩:∃j',m=j'+1:=⟨m-1,by omega⟩;obtain⟨x,s,KC,er,er2,rfl⟩:=rW hru;obtain⟨n,tt,rfl,hn,rfl,rfl⟩:=Ae er;obtain⟨hb1,hb2⟩:=hb.head;refine⟨λσ' H'=>∃m',m'<j'+1/\∃(b j:Nat) (v:Option V) (as:List Addr) (done rest:List (List Int)) (u:List Int),σ'=[some (.ref cl),some (nv a),some (nv k),some (.ref rl),some (nv b),v]/\aw H H'/\H' rl=some (.lst (as.map V.ref))/\as.length+j=k/\m'=j/\At l u b/\PyFlat.rows j u=some (rest,t)/\xs=done++rest/\Paired (λ(row:List Int) a=>H' a=some (.lst (ivs row))/\a≠rl) done as/\∀a∈as,H a=none,λ_ _ z=>z,?_⟩;have ll:(ivs l).length=l.length:=Nf _;have be:((b:Nat):Int)+1+(n:Int)=((b+1+n:Nat):Int):=by omega
  have be1:((b:Nat):Int)+1=((b+1:Nat):Int):=by omega
  refine⟨_,rfl,_,_,rfl,rfl,_,rfl,_,rfl,cl,_,_,.int n,rfl,rfl,s2.seq sq,ot hb1,_,_,rfl,rfl,?_⟩;refine⟨_,rfl,.inl ⟨rfl,_,SqL.of e2⟩,_,rfl,_,rfl,_,_,rfl,rfl,((b+1:Nat):Int),congrArg V.int be1,_,rfl,((b+1+n:Nat):Int),congrArg V.int be,cl,_,rfl,s2.seq sq,λp hp=>?_⟩;rw[hb2.cut hn];have s3:=ak hp (.lst (ivs (tt.take n)));have npr:p≠rl:=λz=>by rw[z,e2]at hp;cases hp
  refine⟨rl,_,_,rfl,rfl,s3 _ _ e2,(by rw[Nf];exact bx (by omega)),?_⟩;refine⟨_,rfl,j',by omega,b+1+n,j',some (V.int (((b:Nat):Int)+1+(n:Int))),as++[p],done++[tt.take n],KC,tt.drop n,?_,?_,?_,?_,rfl,?_,er2,?_,?_,?_⟩
  ·exact congrArg (λz:Int=>[some (V.ref cl),some (nv a),some (nv k),some (V.ref rl),some (V.int z),some (V.int (((b:Nat):Int)+1+(n:Int)))]) be
  ·exact λc o z=>by rw[aB (ax z hrl)];exact s3 _ _ (s2 _ _ z)
  ·rw[af,NS];rfl
  ·rw[Nk,Ny];omega
  ·exact hb2.more hn
  ·rw[ex,NV];rfl
  ·refine Qg (Paired.qS pd λrow a z=>?_) ?_
   ·exact⟨by rw[aB z.2];exact s3 _ _ z.1,z.2⟩
   ·exact⟨by rw[aB npr,af],npr⟩
  ·intro a ha;rcases Np.mp ha with ha|ha
   ·exact na a ha
   ·rw[Nu.mp ha];exact s2.free hp
 ·have c:¬((as.map V.ref).length:Int)<(k:Int):=λz=>c (NA z);rw[Nf]at c;have m0:m=0:=by omega
  subst m0;have hru:some (([]:List (List Int)),u)=some (rest,t):=hru;injection hru with hru;injection hru with h1 h2;subst h1 h2;rw[NX]at ex;subst ex;refine⟨_,rfl,_,rfl,(by show 2<=sizeLine;decide),λp hp=>?_⟩;have s3:=ak hp (.tup [.ref rl,nv b]);exact q p rl as b _ (s2.trans s3) af hb (s3 _ _ e2) (Paired.qS pd λrow a z=>s3 _ _ z.1) na
end
def DG:List (Nat×Nat):=[(1,0),(0,1),(0,2),(1,0),(1,0),(3,0),(0,0),(3,0),(0,0),(1,1),(1,0)]
theorem zS{p:Int}{x:Nat×Nat}(h:PyVbtaak.shape p=some x):∃i:Nat,p=(i:Int)/\DG[i]?=some x/\i<=10:=by
 unfold PyVbtaak.shape at h
 repeat' split at h
 all_goals first
  |(rename_i e;subst e;injection h with h;subst h;first|exact⟨0,rfl,rfl,by decide⟩|exact⟨1,rfl,rfl,by decide⟩|exact⟨2,rfl,rfl,by decide⟩|exact⟨3,rfl,rfl,by decide⟩|exact⟨4,rfl,rfl,by decide⟩|exact⟨5,rfl,rfl,by decide⟩|exact⟨6,rfl,rfl,by decide⟩|exact⟨7,rfl,rfl,by decide⟩|exact⟨8,rfl,rfl,by decide⟩|exact⟨9,rfl,rfl,by decide⟩|exact⟨10,rfl,rfl,by decide⟩)
  |(cases h)
theorem wq{fu:Nat}{p:Int}{r:List Int}{cs:List (List (List Int))}(h:PyFlat.calls PyVbtaak.shape fu (p::r)=some cs):∃fu' n k xs t cs',PyVbtaak.shape p=some (n,k)/\n<=r.length/\PyFlat.rows k (r.drop n)=some (xs,t)/\PyFlat.calls PyVbtaak.shape fu' t=some cs'/\cs=((p::r.take n)::xs)::cs':=by
 cases fu with
 |zero=>cases h
 |succ fu'=>
  have h:(match PyFlat.call PyVbtaak.shape (p::r)with
   |none=>none
   |some (c,t)=>match PyFlat.calls PyVbtaak.shape fu' t with
    |none=>none
    |some cs=>some (c::cs))=some cs:=h
  cases e:PyFlat.call PyVbtaak.shape (p::r)with
  |none=>rw[e]at h;cases h
  |some ct=>
   obtain⟨c,t⟩:=ct;rw[e]at h;have h:(match PyFlat.calls PyVbtaak.shape fu' t with
    |none=>none
    |some cs=>some (c::cs))=some cs:=h
   cases e2:PyFlat.calls PyVbtaak.shape fu' t with
   |none=>rw[e2]at h;cases h
   |some cs'=>
    rw[e2]at h;have hh:some (c::cs')=some cs:=h;have e:(match PyVbtaak.shape p with
     |none=>none
     |some (n,k)=>if r.length<n then none else match PyFlat.rows k (r.drop n)with
      |none=>none
      |some (xs,t)=>some ((p::r.take n)::xs,t))=some (c,t):=e
    cases e3:PyVbtaak.shape p with
    |none=>rw[e3]at e;cases e
    |some nk=>
     obtain⟨n,k⟩:=nk;rw[e3]at e;have e:(if r.length<n then none else match PyFlat.rows k (r.drop n)with
      |none=>none
      |some (xs,t)=>some ((p::r.take n)::xs,t))=some (c,t):=e
     by_cases z:r.length<n
     ·rw[Nz z]at e;cases e
     ·rw[Nt z]at e;cases e4:PyFlat.rows k (r.drop n)with
      |none=>rw[e4]at e;cases e
      |some xt=>
       obtain⟨xs,t'⟩:=xt;rw[e4]at e;have e:some ((p::r.take n)::xs,t')=some (c,t):=e;obtain⟨e5,e6⟩:=Prod.mk.inj (Nm e);subst e5 e6;exact⟨fu',n,k,xs,t',cs',rfl,by omega,e4,e2,(Nm hh).symm⟩
theorem vf:∀{k:Nat}{r t:List Int}{xs:List (List Int)},PyFlat.rows k r=some (xs,t)->xs.length=k
 |0,r,t,xs,h=>by
  have h:some (([]:List (List Int)),r)=some (xs,t):=h;cases h;rfl
 |k+1,r,t,xs,h=>by
  obtain⟨x,s,xs',e1,e2,rfl⟩:=rW h;exact congrArg (·+1) (vf e2)
theorem bl0{us:List α}(h:us.length=0):us=[]:=List.eq_nil_of_length_eq_zero h
theorem bl1{us:List α}(h:us.length=1):∃a,us=[a]:=by
 cases us with
 |nil=>cases h
 |cons a us=>cases bl0 (QM h);exact⟨a,rfl⟩
theorem bl2{us:List α}(h:us.length=2):∃a b,us=[a,b]:=by
 cases us with
 |nil=>cases h
 |cons a us=>obtain⟨b,rfl⟩:=bl1 (QM h);exact⟨a,b,rfl⟩
theorem bl3{us:List α}(h:us.length=3):∃a b c,us=[a,b,c]:=by
 cases us with
 |nil=>cases h
 |cons a us=>obtain⟨b,c,rfl⟩:=bl2 (QM h);exact⟨a,b,c,rfl⟩
theorem DO{xs:List Int}{rows:List (List Int)}(hf:DG[i]?=some (n,k))(hx:xs.length=n)(hr:rows.length=k):∃cl,VbtaakNeutral.callOf ((((i:Nat):Int)::xs)::rows)=some cl/\gd ((i:Nat):Int) xs rows cl/\PyVbtaak.whole ((((i:Nat):Int)::xs)::rows)=(((i:Nat):Int)::xs)::rows:=by
 rcases i with _|_|_|_|_|_|_|_|_|_|_|i
 ·cases Nm hf;obtain⟨_,rfl⟩:=bl1 hx;cases bl0 hr;exact⟨_,rfl,.facts,rfl⟩
 ·cases Nm hf;cases bl0 hx;obtain⟨_,rfl⟩:=bl1 hr;exact⟨_,rfl,.wish,rfl⟩
 ·cases Nm hf;cases bl0 hx;obtain⟨_,_,rfl⟩:=bl2 hr;exact⟨_,rfl,.scene,rfl⟩
 ·cases Nm hf;obtain⟨_,rfl⟩:=bl1 hx;cases bl0 hr;exact⟨_,rfl,.turn,rfl⟩
 ·cases Nm hf;obtain⟨_,rfl⟩:=bl1 hx;cases bl0 hr;exact⟨_,rfl,.kept,rfl⟩
 ·cases Nm hf;obtain⟨_,_,_,rfl⟩:=bl3 hx;cases bl0 hr;exact⟨_,rfl,.hope,rfl⟩
 ·cases Nm hf;cases bl0 hx;cases bl0 hr;exact⟨_,rfl,.scenes,rfl⟩
 ·cases Nm hf;obtain⟨_,_,_,rfl⟩:=bl3 hx;cases bl0 hr;exact⟨_,rfl,.together,rfl⟩
 ·cases Nm hf;cases bl0 hx;cases bl0 hr;exact⟨_,rfl,.course,rfl⟩
 ·cases Nm hf;obtain⟨_,rfl⟩:=bl1 hx;obtain⟨_,rfl⟩:=bl1 hr;exact⟨_,rfl,.holds,rfl⟩
 ·cases Nm hf;obtain⟨_,rfl⟩:=bl1 hx;cases bl0 hr;exact⟨_,rfl,.show_,rfl⟩
 ·cases hf
theorem xg:∀(cs:List (List (List Int))){fu:Nat}{l:List Int},PyFlat.calls PyVbtaak.shape fu l=some cs->cs.map PyVbtaak.whole=cs
 |[],_,_,_=>rfl
 |c::cs,fu,[],h=>by cases fu<;>cases h
 |c::cs,fu,p::r,h=>by
  obtain⟨fu',n,k,xs,t,cs',hsh,hn,qZ,JQ,e⟩:=wq h;cases e;obtain⟨pi,rfl,A7,_⟩:=zS hsh;obtain⟨_,_,_,hw⟩:=DO A7 (List.length_take_of_le hn) (vf qZ);rw[N6,hw,xg _ JQ]
theorem Gu(l:List Int):PyVbtaak.calls l=PyFlat.calls PyVbtaak.shape l.length l:=by
 unfold PyVbtaak.calls;cases e:PyFlat.calls PyVbtaak.shape l.length l with
 |none=>rfl
 |some cs=>exact congrArg some (xg cs e)
theorem Ac:∀{k:Nat}{r t:List Int}{xs:List (List Int)},PyFlat.rows k r=some (xs,t)->t.length<=r.length
 |0,r,t,xs,h=>by
  have h:some (([]:List (List Int)),r)=some (xs,t):=h;injection h with h;injection h with h1 h2;rw[h2];exact Nq _
 |k+1,r,t,xs,h=>by
  obtain⟨x,s,xs',e1,e2,_⟩:=rW h;have:=Ac e2;obtain⟨n,tt,rfl,_,_,rfl⟩:=Ae e1;rw[O1]at this;rw[NH];omega
section
variable{P:Program}{w:World}{K:Rt}{mg:Ru}{base:Heap}{D:Ad}
theorem eC(s:Vbtaak.State)(l:List Nat):(Vbtaak.yes s l).2.length=l.length+1:=by
 show(0::l.map λ(n:Nat)=>(n:Int)).length=_;rw[NH,Nf]
theorem Fh{s:Vbtaak.State}(st:bC P w K D H A ws ss s)(cl:Vbtaak.Call):(Vbtaak.step s cl).2.length<=100:=by
 have wi:∀{n:Nat}{x:Vbtaak.Wish},s.wishes[n]?=some x->size x.f<=12/\sound x.f=true/\x.from_<=s.course.length:=λ{n x} hx=>by
  obtain⟨W,hW⟩:∃W,ws[n]?=some W:=⟨_,Ng (by rw[st.wn];exact(Nh.mp hx).1)⟩;have:=st.wi n x W hx hW;exact⟨this.wfh.sz,this.wfh.sd,this.gl⟩
 have si:∀{n:Nat}{x:Vbtaak.Scene},s.scenes[n]?=some x->past x.begins=true/\past x.ends_=true:=λ{n x} hx=>by
  obtain⟨S,hS⟩:∃S,ss[n]?=some S:=⟨_,Ng (by rw[st.sn];exact(Nh.mp hx).1)⟩;have:=st.si n x S hx hS;exact⟨this.pb.ps,this.pe.ps⟩
 have noL:∀(s':Vbtaak.State)(k:Nat),(Vbtaak.no s' k).2.length<=100:=λs' k=>by show 1<=100;omega
 have c60:=st.c60;have s6:=st.s6;cases cl with
 |facts n=>
  simp only[Vbtaak.step];split
  ·exact noL _ _
  ·split
   ·exact noL _ _
   ·rw[eC];simp
 |wish l=>
  simp only[Vbtaak.step];split
  ·exact noL _ _
  ·split
   ·exact noL _ _
   ·rw[eC];simp
 |scene l r=>
  simp only[Vbtaak.step];split
  ·split
   ·exact noL _ _
   ·split
    ·exact noL _ _
    ·rw[eC];simp
  ·exact noL _ _
 |turn t=>
  simp only[Vbtaak.step];split
  ·exact noL _ _
  ·split
   ·exact noL _ _
   ·rw[eC];simp only[NH,Nf];omega
 |kept n=>
  simp only[Vbtaak.step];split
  ·exact noL _ _
  ·rw[eC];simp
 |hope n m v=>
  show(match (if n<0 then none else s.wishes[n.toNat]?)with
   |none=>if Vbtaak.inRange m 0 6=false∨Vbtaak.inRange v 0 1=false then Vbtaak.no s 1 else Vbtaak.no s 4
   |some x=>if Vbtaak.inRange m 0 6=false∨Vbtaak.inRange v 0 1=false then Vbtaak.no s 1 else match Vbtaak.search (2^s.facts) (Vbtaak.backs x.f) (v==1) m.toNat [Vbtaak.key (Vbtaak.runOf s x)] [Vbtaak.runOf s x]with
    |none=>Vbtaak.yes s [0]
    |some p=>Vbtaak.yes s (1::p)).2.length<=100
  by_cases z:0<=n/\n<(s.wishes.length:Int)
  ·obtain⟨x,hx,hx2⟩:=qk z;rw[hx2];show(if _ then _ else _:Vbtaak.State×List Int).2.length<=100;by_cases ir:Vbtaak.inRange m 0 6=false∨Vbtaak.inRange v 0 1=false
   ·rw[Nz ir];exact noL _ _
   ·rw[Nt ir,Vbs.A1 (wi hx).2.1 (wi hx).2.2];have m6:m.toNat<=6:=by
     cases e:Vbtaak.inRange m 0 6 with
     |false=>exact absurd (.inl e) ir
     |true=>
      have:0<=m/\m<=6:=NG e;omega
    cases hf:Gen.bu (2^s.facts) m.toNat λp=>sat (s.course++p) x.f x.from_==(v==1)with
    |none=>show(Vbtaak.yes s [0]).2.length<=100;rw[eC];simp
    |some p=>
     have:=ou hf;show(Vbtaak.yes s (1::p)).2.length<=100;rw[eC,NH];omega
  ·rw[qj z];show(if _ then _ else _:Vbtaak.State×List Int).2.length<=100;split
   ·exact noL _ _
   ·exact noL _ _
 |scenes=>
  show(Vbtaak.yes s (s.scenes.flatMap λx=>[bit x.on,x.since,x.times])).2.length<=100;rw[eC];have:=gK (λx:Vbtaak.Scene=>[bit x.on,x.since,x.times]) 3 s.scenes λ_ _=>Nq _;omega
 |together n m k=>
  show(if Vbtaak.inRange k 0 6=false then Vbtaak.no s 1 else match (if n<0 then none else s.scenes[n.toNat]?),(if m<0 then none else s.scenes[m.toNat]?)with
   |some x,some y=>(match Vbtaak.both (2^s.facts) (Vbtaak.backs x.begins++(Vbtaak.backs x.ends_++(Vbtaak.backs y.begins++Vbtaak.backs y.ends_))) k.toNat [Vbtaak.playKey (Vbtaak.plays s x y)] [Vbtaak.plays s x y]with
    |none=>Vbtaak.yes s [0]
    |some l=>Vbtaak.yes s (1::l))
   |_,_=>Vbtaak.no s 4).2.length<=100
  by_cases ir:Vbtaak.inRange k 0 6=false
  ·rw[Nz ir];exact noL _ _
  ·rw[Nt ir];have k6:k.toNat<=6:=by
    cases e:Vbtaak.inRange k 0 6 with
    |false=>exact absurd e ir
    |true=>
     have:0<=k/\k<=6:=NG e;omega
   by_cases z:0<=n/\n<(s.scenes.length:Int)
   ·obtain⟨x,hx,hx2⟩:=qt z;rw[hx2];by_cases z2:0<=m/\m<(s.scenes.length:Int)
    ·obtain⟨y,hy,hy2⟩:=qt z2;rw[hy2];show(match Vbtaak.both _ _ _ _ _ with|none=>_|some l=>_:Vbtaak.State×List Int).2.length<=100;rw[Vbs.mh (si hx) (si hy)];cases hf:Gen.bu (2^s.facts) k.toNat λq=>Vbs.aT x.begins x.ends_ s.course x.on q&&Vbs.aT y.begins y.ends_ s.course y.on q with
     |none=>show(Vbtaak.yes s [0]).2.length<=100;rw[eC];simp
     |some p=>
      have:=ou hf;show(Vbtaak.yes s (1::p)).2.length<=100;rw[eC,NH];omega
    ·rw[qr z2];exact noL _ _
   ·rw[qr z];exact noL _ _
 |course=>show(Vbtaak.yes s s.course).2.length<=100;rw[eC];omega
 |holds k l=>
  simp only[Vbtaak.step];split
  ·exact noL _ _
  ·split
   ·exact noL _ _
   ·rw[eC];simp
 |show_ n=>
  show(match (if n<0 then none else s.wishes[n.toNat]?)with
   |none=>Vbtaak.no s 4
   |some x=>Vbtaak.yes s (x.from_::Vbtaak.code x.f)).2.length<=100
  by_cases z:0<=n/\n<(s.wishes.length:Int)
  ·obtain⟨x,hx,hx2⟩:=qk z;rw[hx2];show(Vbtaak.yes s (x.from_::Vbtaak.code x.f)).2.length<=100;rw[eC,NH];have:=cT x.f;have:=(wi hx).1;omega
  ·rw[qj z];exact noL _ _
structure LG(K:Rt)(D:Ad):Prop where
 cf:∃as:List Addr,(∀H,SqT K H D.cf (as.map V.ref))/\as.length=11/\∀(i:Nat)(a:Addr)(x:Nat×Nat),as[i]?=some a->DG[i]?=some x->∀H,SqT K H a [nv x.1,nv x.2]
inductive nW(K:Rt)(vs:List V)(H:Hp)(Q:VK)(E:XK):Prop
 |mk (cl:Addr) (l:List Int):vs=[.ref cl]->SqL K H cl (ivs l)->l.length<=17000->PyVbtaak.answers_asked l=true->(∀(H':Hp)(p:Addr),H' p=some (.lst (ivs (PyVbtaak.answers l)))->Q (.ref p) H')->nW K vs H Q E
abbrev iy:Stmt:=top 72
theorem eD:aF ["calls","story","given","at","form","rows_at","rows_read","answer"] ["calls"] (az iy):=⟨rfl,rfl,rfl,by decide +kernel,rfl,by decide +kernel,by decide +kernel⟩
structure LoopAt(P:Program)(w:World)(K:Rt)(D:Ad)(H0 H:Hp)(A:TAd)(gv:Addr)(l all:List Int)(b m:Nat):Prop where
 ex:∃(u:List Int) (cs:List (List (List Int))) (s:Vbtaak.State) (ws:List WAd) (ss:List SAd) (gs:List Int) (fu:Nat),m=u.length/\bC P w K D H A ws ss s/\H gv=some (.lst (ivs gs))/\¬fF A ws ss gv/\(∀b,fF A ws ss b->H0 b=none)/\At l u b/\PyFlat.calls PyVbtaak.shape fu u=some cs/\(∀c∈cs,VbtaakNeutral.asked1 c=true)/\
  all=gs++PyFlat.told (PyFlat.played VbtaakNeutral.step s cs)/\gs.length+101*cs.length<=40400
 sm:aw H0 H
 gn:H0 gv=none
theorem B9{f:Addr}{fd:FuncData}(F:Fun K "answers" "answers" iy f fd)(T:Txt K mg D)(TF:LG K D)(Ip:Mc P w K mg base "Story" D.aQ 1 ["self"] (mq P w K D))(By:Fn P w K mg base "read_rows" 1 ["calls","start","row_count"] (pF K))
  (GS:Mt P w K mg base D.aQ "answer" 22 ["self","call","numbers","rows"] (uR P w K D)):bw P w K mg base CX0 23 f fd ["calls"] (nW K):=by
 refine F.ok eD (λvs H Q E h=>?_) (λcdv A outer s H vs Q E hr h=>?_)
 ·obtain⟨cl,l,rfl,_⟩:=h;rfl
 obtain⟨cl,l,rfl,sq,l17,ask,q⟩:=h;refine⟨_,(ae (aG (i:=1) eD.nd rfl (Or.inl rfl) (Jp Ip hr))
   (ae (aG (i:=2) eD.nd rfl (Or.inl rfl) (aV ag))
   (ae (aG (i:=3) eD.nd rfl (Or.inl rfl) ao)
   (ae (qG NU (aH sY (pv 3) (aP aC rfl T.len NO (aa (pv 0) ag)) (aU _)) (ae (aG (i:=4) eD.nd rfl (Or.inl rfl) (aS eI (xD T.AR) (aS aE (pv 0) (pv 3) (λ_ _=>rfl)) (λ_ _=>rfl)))
   (ae (aG (i:=5) eD.nd rfl (Or.inl rfl) (aI fJ (aI fJ (pv 3) ao) (aS eI (pv 4) ao (λ_ _=>rfl))))
   (ae (aG (i:=6) eD.nd rfl (Or.inl rfl) (bQ By hr (aa (pv 0) (aa (pv 5) (aa (aS eI (pv 4) ao (λ_ _=>rfl)) ag)))))
   (ae (aG (i:=7) eD.nd rfl (Or.inl rfl) (bZ (pv 1) GS hr (aa (aS aE (pv 0) (pv 3) (λ_ _=>rfl)) (aa (Ah C6 (pv 0) (uo (aI fJ (pv 3) ao)) (uo (pv 5))) (aa (aS eI (pv 6) ao (λ_ _=>rfl)) ag)))))
   (ae (b6 (lK NY Oe Of dD (pv 2) (aa (aP aC rfl T.len NO (aa (pv 7) ag)) ag)))
   (ae (b6 (lK NY PySem.F.slot_list_extend PySem.F.type_list_extend xH (pv 2) (aa (pv 7) ag)))
   (ai (aG (i:=3) eD.nd rfl (Or.inl rfl) (aS eI (pv 6) ao (λ_ _=>rfl)))))))))))
   (ai (aA (pv 2))))))),?_⟩
 unfold PyVbtaak.answers_asked at ask;have GC:PyVbtaak.answers l=match PyVbtaak.calls l with|none=>[]|some cs=>PyFlat.told (PyFlat.played VbtaakNeutral.step VbtaakNeutral.start cs):=rfl
 rw[Gu]at ask GC;cases hcs:PyFlat.calls PyVbtaak.shape l.length l with
 |none=>rw[hcs]at ask;cases ask
 |some cs=>
 rw[hcs]at ask GC;have GC:PyVbtaak.answers l=PyFlat.told (PyFlat.played VbtaakNeutral.step VbtaakNeutral.start cs):=GC;have ask:(PyFlat.atMost 400 cs&&VbtaakNeutral.asked cs)=true:=ask;rw[Nv]at ask;have M':cs.length<=400:=NG ask.1;have all1:∀c∈cs,VbtaakNeutral.asked1 c=true:=Ow.mp (Ot.mp ask.2).1;refine λx dx nx ndx nxd=>?_;have s0:aw H (upd (upd H dx (.own x)) x (.ins D.aQ dx [])):=(ak ndx _).trans (ak (by rw[aB (Ne.symm nxd)];exact nx) _);refine⟨x,dx,rfl,af,λA H1 ea st k1 nw=>⟨rfl,?_⟩⟩;subst ea;have s1:aw H H1:=λb o h=>k1 _ _ (s0 _ _ h) (ax h nx);refine⟨NT _,λgv hgv=>?_⟩;have s2:=ak hgv (.lst []);have L0:LoopAt P w K D H (upd H1 gv (.lst [])) A gv l (PyVbtaak.answers l) 0 l.length:=by
  refine⟨⟨l,cs,Vbtaak.start,[],[],[],l.length,rfl,st.same s2,af,?_,?_,⟨rfl,PX _⟩,hcs,all1,GC,by simp only[O4];omega⟩,s1.trans s2,s1.free hgv⟩
  ·intro z;exact st.has gv z hgv
  ·intro b z;rcases z with z|⟨W,hW,_⟩|⟨S,hS,_⟩
   ·rcases nw b z with e|e
    ·rw[e];exact nx
    ·exact s0.free e
   ·cases hW
   ·cases hS
 refine⟨λm σ H'=>∃(b:Nat) (v4 v5 v6 v7:Option V),σ=[some (.ref cl),some (.ref A.a),some (.ref gv),some (nv b),v4,v5,v6,v7]/\LoopAt P w K D H H' A gv l (PyVbtaak.answers l) b m,⟨l.length,0,none,none,none,none,rfl,L0⟩,?_⟩;rintro m σ H2 ⟨b,v4,v5,v6,v7,rfl,L⟩;obtain⟨⟨u,cs2,s,ws,ss,gs,fu,rfl,st2,g2,ng,nf,hat,Lj,all2,al,gl⟩,sm,gn⟩:=L;have sq2:=sm.seq sq;have ll:(ivs l).length=l.length:=Nf _;refine⟨_,rfl,_,rfl,cl,_,rfl,.inl sq2,_,_,rfl,rfl,_,rfl,bD (λc=>?_) (λc=>?_)⟩
 rotate_left
 ·have c:¬((b:Nat):Int)<((ivs l).length:Int):=λz=>c (NA z);rw[ll]at c;have u0:u=[]:=OH.mp (by have:=hat.2;omega);subst u0;have e:some ([]:List (List (List Int)))=some cs2:=by
   rw[<-Lj];cases fu<;>rfl
  injection e with e;subst e;have al:PyVbtaak.answers l=gs++[]:=al;rw[NX]at al;refine⟨_,rfl,q H2 gv ?_⟩;rw[al];exact g2
 have c:((b:Nat):Int)<((ivs l).length:Int):=NG c;rw[ll]at c;obtain⟨p,r,rfl⟩:∃p r,u=p::r:=by
  cases u with
  |nil=>have:=hat.2;simp only[O4]at this;omega
  |cons p r=>exact⟨p,r,rfl⟩
 obtain⟨fu',n,k,xs,t,cs',hsh,hn,qZ,JQ,rfl⟩:=wq Lj;obtain⟨hp,Cs⟩:=hat.head;obtain⟨pi,rfl,A7,M9⟩:=zS hsh;obtain⟨fas,fsq,fl,fat⟩:=TF.cf;obtain⟨fa,hfa⟩:∃fa,fas[pi]?=some fa:=⟨_,Ng (by omega)⟩;have fT:=fat pi fa (n,k) hfa A7;have n3:n<=3/\k<=2:=by
  have:∀x∈DG,x.1<=3/\x.2<=2:=by decide
  exact this _ (Nr A7)
 refine⟨λσ' H'=>∃m',m'<(((pi:Nat):Int)::r).length/\∃(b:Nat) (v4 v5 v6 v7:Option V),σ'=[some (.ref cl),some (.ref A.a),some (.ref gv),some (nv b),v4,v5,v6,v7]/\LoopAt P w K D H H' A gv l (PyVbtaak.answers l) b m',λ_ _ z=>z,?_⟩;refine⟨_,rfl,_,rfl,cl,_,_,.int ((pi:Nat):Int),rfl,rfl,sq2,ot hp,D.cf,_,_,.ref fa,rfl,rfl,fsq H2,bg (by rw[NC,hfa];rfl),?_⟩;have be:((b:Nat):Int)+1+((n:Nat):Int)=((b+1+n:Nat):Int):=by omega
 have be1:((b:Nat):Int)+1=((b+1:Nat):Int):=by omega
 refine⟨_,rfl,_,_,rfl,rfl,_,rfl,fa,_,_,nv n,rfl,rfl,fT H2,bg (j:=0) rfl,_,_,rfl,rfl,?_⟩;have MR:=Cs.more hn;refine⟨_,rfl,_,rfl,_,rfl,fa,_,_,nv k,rfl,rfl,fT H2,bg (j:=1) rfl,cl,l,b+1+n,k,r.drop n,t,xs,?_,sq2,l17,MR,qZ,n3.2,λT0 rl as b2 H3 s3 e3 MT r3 p3 n3'=>?_⟩
 ·show [V.ref cl,V.int (((b:Nat):Int)+1+((n:Nat):Int)),nv k]=_;rw[be]
 have st3:=st2.same s3;obtain⟨cl0,MP,ci,_⟩:=DO A7 (List.length_take_of_le hn) (vf qZ);have sq3:=s3.seq sq2;have nsq:CF (ivs l) (some ((b+1:Nat):Int)) (some ((b+1+n:Nat):Int))=ivs (r.take n):=Cs.cut hn;refine⟨_,rfl,A.a,A.dx,_,rfl,st3.self,rfl,_,rfl,_,rfl,cl,_,_,.int ((pi:Nat):Int),rfl,rfl,sq3,ot hp,_,rfl,_,rfl,_,_,rfl,rfl,((b+1:Nat):Int),congrArg V.int be1,_,rfl,((b+1+n:Nat):Int),congrArg V.int be,cl,_,rfl,sq3,λnl hnl=>?_⟩;rw[nsq];have s4:=ak hnl (.lst (ivs (r.take n)));have s34:=s3.trans s4;have st4:=st3.same s4;have asN:∀a∈as,¬fF A ws ss a:=λa ha z=>st2.has a z (n3' a ha);refine⟨_,rfl,T0,_,_,.ref rl,rfl,rfl,SqT.of (s4 _ _ e3),bg (j:=0) rfl,A,ws,ss,s,((pi:Nat):Int),nl,rl,r.take n,xs,as,cl0,rfl,st4,SqL.of af,SqL.of (s4 _ _ r3),Paired.qS p3 (λrow a z=>s4 _ _ z),ci,asN,λws' ss' pa H5 st5 k5 nf5 e5=>?_⟩;have s24:∀{b o},H2 b=some o->(upd H3 nl (.lst (ivs (r.take n)))) b=some o:=λh=>s34 _ _ h;have gX:¬(fF A ws ss gv∨gv∈as):=λz=>by
  rcases z with z|z
  ·exact ng z
  ·have:=n3' gv z;rw[g2]at this;cases this
 have g5:=k5 _ _ (s24 g2) gX;obtain⟨ng5,gpa⟩:=nf5 gv _ (s24 g2) gX;have T5:H5 T0=some (.tup [.ref rl,nv b2]):=by
  refine k5 _ _ (s4 _ _ e3) λz=>?_;rcases z with z|z
  ·have:=st2.has T0 z;have lo:Loose D (upd H3 nl (.lst (ivs (r.take n)))) (fF A ws ss):=λb z=>by
    rcases z with z|⟨W,hW,z⟩|⟨S,hS,z⟩
    ·exact st4.Ei b z
    ·obtain⟨j,x,h1,h2⟩:=st4.E9 hW;exact o9 (st4.wi j x W h1 h2) b z
    ·obtain⟨j,x,h1,h2⟩:=st4.C7 hS;exact sS (st4.si j x S h1 h2) b z
   exact(lo T0 z).2.1 _ (s4 _ _ e3)
  ·obtain⟨j,hj⟩:=OZ z;have hjl:j<xs.length:=by rw[Oa p3];exact(Nh.mp hj).1
   obtain⟨a',ha',hz⟩:=dv p3 (Ng hjl);have:=Nm (hj.symm.trans ha');subst this;rw[e3]at hz;cases hz
 have Fi:=Fh st4 cl0;have big:sizeLine=16777216:=by decide
 have Nb:gs.length<=40299:=by rw[NH]at gl;omega
 refine⟨_,rfl,.inl ⟨rfl,_,SqL.of g5⟩,_,rfl,pa,_,rfl,.inl (SqL.of e5),gv,_,_,rfl,rfl,g5,(by rw[Nf];omega),?_⟩;have k6:Kp (·=gv) H5 (upd H5 gv (.lst (ivs gs++[.int ((ivs (Vbtaak.step s cl0).2).length:Nat)]))):=aJ;have e6:(upd H5 gv (.lst (ivs gs++[.int ((ivs (Vbtaak.step s cl0).2).length:Nat)]))) pa=some (.lst (ivs (Vbtaak.step s cl0).2)):=by rw[aB gpa.symm];exact e5
 refine⟨_,rfl,.inl ⟨rfl,_,SqL.of af⟩,_,rfl,gv,pa,_,_,rfl,rfl,af,e6,(by rw[Nk,Nf,Nf];show gs.length+1+_<=_;omega),?_⟩;generalize hH7:upd (upd H5 gv _) gv _=H7;have k7:Kp (·=gv) H5 H7:=by rw[<-hH7];exact aJ.trans aJ
 have g7:H7 gv=some (.lst (ivs (gs++(((Vbtaak.step s cl0).2.length:Nat):Int)::(Vbtaak.step s cl0).2))):=by
  rw[<-hH7,af];unfold ivs;rw[Nf,NS,NV];rfl
 clear hH7;have lg:Loose D H5 (·=gv):=bX g5;have st7:=st5.kp lg k7 λb z y=>ng5 (by rw[<-y];exact z);have gT:T0≠gv:=bJ T5 g5 (by intro z;cases z);refine⟨_,rfl,T0,_,_,nv b2,rfl,rfl,SqT.of (k7 _ _ T5 gT),bg (j:=1) rfl,t.length,?_,b2,_,_,_,_,rfl,⟨t,cs',(Vbtaak.step s cl0).1,ws',ss',_,fu',rfl,st7,g7,ng5,?_,MT,JQ,λc hc=>all2 c (Nn _ hc),?_,?_⟩,?_,gn⟩
 ·have:=Ac qZ;rw[O1]at this;rw[NH];omega
 ·intro b' z;cases e:H b' with
  |none=>rfl
  |some o=>
   have h2:=sm _ _ e;exact absurd z (nf5 b' o (s24 h2) (λy=>by
    rcases y with y|y
    ·rw[nf b' y]at e;cases e
    ·have:=n3' b' y;rw[h2]at this;cases this)).1
 ·rw[al];show gs++PyFlat.told ((VbtaakNeutral.step s ((((pi:Nat):Int)::r.take n)::xs)).2::PyFlat.played VbtaakNeutral.step (VbtaakNeutral.step s ((((pi:Nat):Int)::r.take n)::xs)).1 cs')=_;have es:VbtaakNeutral.step s ((((pi:Nat):Int)::r.take n)::xs)=Vbtaak.step s cl0:=by
   unfold VbtaakNeutral.step;rw[MP]
  rw[es];show gs++(((((Vbtaak.step s cl0).2.length:Nat):Int)::(Vbtaak.step s cl0).2)++PyFlat.told _)=_;rw[<-NV]
 ·rw[Nk,NH];rw[NH]at gl;omega
 ·intro b' o h;have h2:=sm _ _ h;have h5:=k5 _ _ (s24 h2) (λy=>by
    rcases y with y|y
    ·rw[nf b' y]at h;cases h
    ·have:=n3' b' y;rw[h2]at this;cases this)
  exact k7 _ _ h5 λz=>by rw[z,gn]at h;cases h
end
def IU(K:Rt)(x qual:Str)(st:Stmt)(f:Addr):Prop:=∃(oc:Value) (od an:Option Addr) (sl:Array (Option Value)) (kV dc pm cd ct:Value),
 K.lookup f=some ⟨oc,od,.func (PySem.W.fnOf x qual (jj st) (hJ st) (az st) .none kV dc pm an cd ct),sl⟩/\PySem.W.codeIn K cd qual=true/\PySem.W.keepIn K (.ref f)=true
def FnAt(K:Rt)(x:Str)(st:Stmt):Prop:=∃f,PySem.W.nsIn K mainGlobals x=some (some (.ref f))/\IU K x x st f
def Kf(K:Rt)(C:Addr)(x qual:Str)(st:Stmt):Prop:=∃f,PySem.W.findIn K (.ref C) x=some (some (.ref f))/\PySem.W.isFn K (.ref f)=true/\IU K x qual st f
def GL(K:Rt)(x:Str)(n:Int):Prop:=∃t,PySem.W.nsIn K mainGlobals x=some (some (.int n t))
def TupAt(K:Rt)(a:Addr)(xs:List V):Prop:=∃(od:Option Addr) (its:Array Value) (n:Nat) (sl:Array (Option Value)),K.lookup a=some ⟨.type "tuple",od,.seq its n,sl⟩/\its.size<=sizeLine/\Vals xs its.toList
theorem TupAt.sq{K:Rt}(h:TupAt K a xs)(H:Hp):SqT K H a xs:=by
 obtain⟨od,its,n,sl,h1,h2,h3⟩:=h;exact .inr ⟨_,its,n,h1,rfl,rfl,h2,h3⟩
section
open PySem.W
variable{K:Frag}{C:Addr}{x qual:Str}{st:Stmt}{n:Int}{a:Addr}{xs:List V}
def tok:Value->Tok
 |.int _ t=>t
 |_=>0
def val(v:Option (Option Value)):Value:=(v.getD none).getD .none
def adr:Value->Addr
 |.ref a=>a
 |_=>0
def Cb(K:Frag)(f:Addr):Obj:=(K.lookup f).getD default
def Bf(K:Frag)(f:Addr):FuncData:=match (Cb K f).data with
 |.func d=>d
 |_=>default
def K9(K:Frag)(f:Addr):List Value:=match (Cb K f).data with
 |.seq i _=>i.toList
 |_=>[]
def vOf:List V->List Value->List Value
 |.int n::r,u::us=>.int n (tok u)::vOf r us
 |.ref a::r,_::us=>.ref a::vOf r us
 |_,_=>[]
theorem yf:∀(xs:List V)(us:List Value),(vOf xs us).length=xs.length->Vals xs (vOf xs us)
 |[],_,_=>.nil
 |.int _::r,u::us,h=>.cons ⟨_,rfl⟩ (yf r us (QM h))
 |.ref _::r,u::us,h=>.cons rfl (yf r us (QM h))
theorem KQ(a:nsIn K mainGlobals x=some (some (.int n (tok (val (nsIn K mainGlobals x)))))):GL K x n:=⟨_,a⟩
theorem Fe(l:K.lookup a=some ⟨.type "tuple",(Cb K a).dict,.seq ⟨vOf xs (K9 K a)⟩ 0,(Cb K a).slots⟩)(b:(vOf xs (K9 K a)).length=xs.length)(c:decide (xs.length<=sizeLine)=true):TupAt K a xs:=⟨_,_,_,_,l,NR (Pq b) (NG c),yf xs _ b⟩
abbrev obF(K:Frag)(f:Addr)(x qual:Str)(st:Stmt):Obj:=⟨(Cb K f).cls,(Cb K f).dict,.func (fnOf x qual (jj st) (hJ st) (az st) .none (Bf K f).kwdefaults (Bf K f).doc (Bf K f).pyModule (Bf K f).annotations (Bf K f).code (Bf K f).closureTuple),(Cb K f).slots⟩
abbrev gA(K:Frag)(x:Str):Addr:=adr (val (nsIn K mainGlobals x))
abbrev mA(K:Frag)(C:Addr)(x:Str):Addr:=adr (val (findIn K (.ref C) x))
theorem Lu(a:nsIn K mainGlobals x=some (some (.ref (gA K x))))(l:K.lookup (gA K x)=some (obF K (gA K x) x x st))(c:codeIn K (Bf K (gA K x)).code x=true)(k:keepIn K (.ref (gA K x))=true):FnAt K x st:=⟨_,a,_,_,_,_,_,_,_,_,_,l,c,k⟩
theorem K0(a:findIn K (.ref C) x=some (some (.ref (mA K C x))))(i:isFn K (.ref (mA K C x))=true)(l:K.lookup (mA K C x)=some (obF K (mA K C x) x qual st))(c:codeIn K (Bf K (mA K C x)).code qual=true)(k:keepIn K (.ref (mA K C x))=true):Kf K C x qual st:=⟨_,a,i,_,_,_,_,_,_,_,_,_,l,c,k⟩
end
section
variable{P:Program}{w:World}{K:Rt}{mg:Ru}{base h:Heap}{x qual:Str}{st:Stmt}{k:Nat}{ps:List Str}{sp:Sp}{C:Addr}
theorem GL.gi{n:Int}(X:K.In h)(G:h.Ns mainGlobals mg)(a:GL K x n):GI mg x n:=let ⟨t,e⟩:=a;⟨t,QV X G e⟩
theorem Mn(a:PySem.W.findIn K (.ref C) x=some none):bj K C x:=a
def Cur{α:Type}:Nat->(List α->Prop)->Prop
 |0,R=>R []
 |n+1,R=>∀a,Cur n λus=>R (a::us)
theorem yK{α:Type}:∀{n:Nat}{R:List α->Prop},Cur n R->∀us:List α,us.length=n->R us
 |0,_,h,[],_=>h
 |_+1,_,h,a::us,e=>yK (h a) us (QM e)
abbrev Bnd(x qual:Str)(st:Stmt)(ps:List Str):Prop:=∀(kV doc pm:Value)(an:Option Addr)(cdv ct:Value)(us:List Value),us.length=ps.length->bindArgs (PySem.W.fnOf x qual (jj st) (hJ st) (az st) .none kV doc pm an cdv ct) ⟨us,[]⟩=pure (ps.zip us)
theorem dX(P:Program)(w:World)(base:Heap)(X:K.In h)(G:h.Ns mainGlobals mg)(ok:∀f fd,Fun K x x st f fd->bw P w K mg base CX0 k f fd ps sp)(a:FnAt K x st:=by refine Lu ?_ ?_ ?_ ?_<;>kernel_rfl)(b:Bnd x x st ps:=by intro _ _ _ _ _ _;refine yK ?_;(repeat intro _);rfl):Fn P w K mg base x k ps sp:=by
 obtain⟨f,e,oc,od,an,sl,kV,dc,pm,cd,ct,l,c,kp⟩:=a;have F:=za (st:=st) l c kp;exact⟨f,_,QV X G e,kp,F.binds b,ok f _ F⟩
theorem cP(P:Program)(w:World)(base:Heap)(cl:Cls K C)(ok:∀f fd,Fun K x qual st f fd->bw P w K mg base CX0 k f fd ps sp)(a:Kf K C x qual st:=by refine K0 ?_ ?_ ?_ ?_ ?_<;>kernel_rfl)(b:Bnd x qual st ps:=by intro _ _ _ _ _ _;refine yK ?_;(repeat intro _);rfl):Mt P w K mg base C x k ps sp:=by
 obtain⟨f,e,i,oc,od,an,sl,kV,dc,pm,cd,ct,l,c,kp⟩:=a;have F:=za (st:=st) l c kp;exact⟨cl,f,_,⟨e,i,kp⟩,F.binds b,ok f _ F⟩
theorem tj(P:Program)(w:World)(base:Heap)(X:K.In h)(G:h.Ns mainGlobals mg)(y:Str)(cl:Cls K C)(ok:∀f fd,Fun K "__init__" qual st f fd->bw P w K mg base CX0 k f fd ps sp)(n:PySem.W.nsIn K mainGlobals y=some (some (.ref C)):=by kernel_rfl)(m:PySem.W.makesIn K C=true:=by kernel_rfl)(q:PySem.W.keepIn K (.ref C)=true:=by kernel_rfl)(a:Kf K C "__init__" qual st:=by refine K0 ?_ ?_ ?_ ?_ ?_<;>kernel_rfl)(b:Bnd "__init__" qual st ps:=by intro _ _ _ _ _ _;refine yK ?_;(repeat intro _);rfl):Mc P w K mg base y C k ps sp:=by
 obtain⟨f,e,i,oc,od,an,sl,kV,dc,pm,cd,ct,l,c,kp⟩:=a;have F:=za (st:=st) l c kp;exact⟨f,_,⟨m,e,i,q⟩,QV X G n,F.binds b,ok f _ F⟩
end
def D:Ad:=⟨32,191,246,277,305,331,413,521,15,429⟩
theorem all_mk{P:Program}{w:World}{h:Heap}{mg:Ru}{fa:Addr}(X:(Hd.K w).In h)(G:h.Ns mainGlobals mg)(hfa:mg "answers"=some (.ref fa)):∃fd:FuncData,(∀(s:Shared)(us:List Value),us.length=(["calls"]:List Str).length->BindsTo s fd ⟨us,[]⟩ ((["calls"]:List Str).zip us))/\∀base:Heap,(Hd.K w).In base->base.Ns mainGlobals mg->bw P w (Hd.K w) mg base CX0 23 fa fd ["calls"] (nW (Hd.K w)):=by
 have T:Txt (Hd.K w) mg D:=by
  constructor
  all_goals first
   |(with_reducible refine(KQ ?_).gi X G);kernel_rfl
   |(with_reducible refine Mn ?_);kernel_rfl
   |(with_reducible refine Cls.mk ?_ ?_ ?_ ?_)<;>kernel_rfl
   |(with_reducible refine PySem.W.mg_none_of X G ?_);kernel_rfl
   |(with_reducible refine QV X G ?_);kernel_rfl
   |(refine(Fe ?_ ?_ ?_).sq)<;>kernel_rfl
 have TF:LG (Hd.K w) D:=by
  refine⟨[418,419,420,421,422,423,424,425,426,427,428],(Fe (by kernel_rfl) (by kernel_rfl) (by kernel_rfl)).sq,rfl,λi a x h1 h2=>?_⟩;rcases i with _|_|_|_|_|_|_|_|_|_|_|i
  all_goals first
   |(cases h1;done)
   |(cases Nm h1;cases Nm h2;exact(Fe (by kernel_rfl) (by kernel_rfl) (by kernel_rfl)).sq)
 obtain⟨f0,e0,oc,od,an,sl,kV,dc,pm,cd,ct,l0,k0,kp0⟩:=(Lu (by kernel_rfl) (by kernel_rfl) (by kernel_rfl) (by kernel_rfl):FnAt (Hd.K w) "answers" iy);have e:=hfa.symm.trans (QV X G e0);cases e;have F0:=za (st:=iy) l0 k0 kp0;refine⟨PySem.W.fnOf "answers" "answers" (jj iy) (hJ iy) (az iy) .none kV dc pm an cd ct,λs us hu=>match us,hu with|[_],_=>.of_eq rfl,λbase _ _=>?_⟩;have lQ:=dX P w base X G λ_ _ F=>wV F T;have EK:=tj P w base X G "Part" T.aN λ_ _ F=>Aw F T;have lP:=dX P w base X G λ_ _ F=>wQ F T;have iL:=dX P w base X G λ_ _ F=>rZ F T;have gJ:=dX P w base X G λ_ _ F=>pV F T;have eV:=dX P w base X G λ_ _ F=>kC F T;have gI:=dX P w base X G λ_ _ F=>pU F T;have jR:=dX P w base X G λ_ _ F=>lX F T gI;have rg:=dX P w base X G λ_ _ F=>tQ F T gJ eV;have dy:=dX P w base X G λ_ _ F=>sf F T gJ eV jR;have iS:=dX P w base X G λ_ _ F=>jI F T;have cG:=dX P w base X G λ_ _ F=>jH F T rg;have fK:=dX P w base X G λ_ _ F=>tP F T;have gW:=dX P w base X G λ_ _ F=>qL F T gI;have eE:=cP P w base T.jm λ_ _ F=>Ej F T dy cG fK;have jy:=tj P w base X G "Follower" T.jm λ_ _ F=>tT F T iS eE;have oO:=dX P w base X G λ_ _ F=>qM F T jy eE cG dy gW;have vX:=dX P w base X G λ_ _ F=>yF F T lQ EK;have tW:=dX P w base X G λ_ _ F=>wO F T vX lQ;have tX:=dX P w base X G λ_ _ F=>wU F T;have fL:=dX P w base X G λ_ _ F=>fX F T iL lP;have nr:=dX P w base X G λ_ _ F=>pW F T iL;have eJ:=dX P w base X G λ_ _ F=>qK F T tW tX fL;have gU:=cP P w base T.bN λ_ _ F=>yD F T dy gW;have iI:=cP P w base T.bN λ_ _ F=>oF F T gU;have JT:∀n,Mt P w (Hd.K w) mg base D.wish "ways_on" (4+2*n) ["self","memory","length"] (gB P w (Hd.K w) D n):=by
  intro n;induction n with
  |zero=>exact cP P w base T.bN λf fd F=>yA F
  |succ n ih=>exact cP P w base T.bN λf fd F=>B8 n F T (cP P w base T.bN λf fd F=>tR n F T cG dy fK gU ih)
 have ra:=JT 7;have l6:=cP P w base T.bN λ_ _ F=>vt F T iI;have gV:=cP P w base T.bN λ_ _ F=>yG F T ra l6;have l5:=cP P w base T.bN λ_ _ F=>vq F T gV;have m5:=cP P w base T.bN λ_ _ F=>pT F T eE;have EI:=tj P w base X G "Wish" T.bN λ_ _ F=>Au F T jy;have iJ:=cP P w base T.bU λ_ _ F=>oH F T;have gH:=cP P w base T.bU λ_ _ F=>wR F T iJ;have jx:=cP P w base T.bU λ_ _ F=>qJ F T;have qb:=cP P w base T.bU λ_ _ F=>Am F T;have qc:=cP P w base T.bU λ_ _ F=>Ao F T qb;have EJ:=tj P w base X G "Ways" T.bU λ_ _ F=>Av F T jx;have iK:=dX P w base X G λ_ _ F=>jw F T;have rf:=tj P w base X G "WaysFollower" T.o8 λ_ _ F=>oI F T;have su:=cP P w base T.o8 λ_ _ F=>vp F T lP gH iK fK;have md:=cP P w base T.cH λ_ _ F=>oG F T eE;have Cu:=tj P w base X G "Scene" T.cH λ_ _ F=>yJ F T jy;have tV:=tj P w base X G "SceneAhead" T.f9 λ_ _ F=>qO F T rf;have iR:=cP P w base T.f9 λ_ _ F=>qN F T gH su;have jS:=dX P w base X G λ_ _ F=>lY F T tV EJ iR qc;have Ct:=tj P w base X G "Story" T.aM λ_ _ F=>yI F T;have l8:=cP P w base T.aM λ_ _ F=>wN F T;have oK:=cP P w base T.aM λ_ _ F=>Aq F T;have oM:=cP P w base T.aM λ_ _ F=>Ar F T l5;have oN:=cP P w base T.aM λ_ _ F=>As F T gV;have l9:=cP P w base T.aM λ_ _ F=>wW F T;have jQ:=cP P w base T.aM λ_ _ F=>tS F T jS;have nq:=cP P w base T.aM λ_ _ F=>yH F T eJ oO;have m7:=cP P w base T.aM λ_ _ F=>yB F T eJ EI;have l7:=cP P w base T.aM λ_ _ F=>wM F T eJ nr Cu;have nh:=cP P w base T.aM λ_ _ F=>yC F T m5 md;have rb:=cP P w base T.aM λ_ _ F=>Ek F T l8 m7 l7 nh oM oN l9 jQ nq oK;have vW:=dX P w base X G λ_ _ F=>yE F T;exact B9 F0 T TF Ct vW rb
end Sc
open PySem PySem.W PyProof.Rows
set_option maxHeartbeats 0 in
theorem PySem.Challenge.cw_sceneturns_s01_answers_holds : PySem.Challenge.rw_sceneturns_s01_answers.Holds := by
 refine holds_os (q:=Hd.q) (loose:=[]) (Xt:=Hd.Xt) (XP:=XL Hd.q []) (Yf:=Shared.heap) (Ya:=Hd.G) (YP:=λw h=>(Hd.K w).In h) (N:=4000) Hd.left (λw s e=>e▸Hd.inK w) (λw h h' x k=>x.keeps k) (λs e=>xl_of s (Ot.mp e).1) XL.keeps (by rfl) (by rfl) (by rfl) (λs e=>recFacts_of (Ot.mp e).2) os_shapes (by decide +kernel) (by decide +kernel) ⟨rfl,rfl,rfl,rfl,rfl,by decide +kernel⟩ ⟨[.list [.int 6]],by decide +kernel,by decide +kernel⟩ ?_;refine L2.BE (r:=PySem.Challenge.rw_sceneturns_s01_answers) (K:=Hd.K) (k:=23) (CX:=L2.CX0) (ps:=["calls"]) (sp:=Sc.nW) (by decide +kernel) rfl rfl ⟨rfl,by decide,by decide⟩ (λw h Y=>Y) ?F ?S (λ_ _ _ _ z=>z)
 case F=>exact λ_ _ _ _ _ X G e=>Sc.all_mk X G e
 case S=>
  intro K H xs a hO hwi MU hx;cases hx with
  |cons h1 h2=>
   cases h2;cases h1 with
   |lst hs ha=>
    have e:=L2.Dy a.1 _ ha;subst e;have q:((Codec.inLen 0 17000 a.1&&a.1.all (Codec.inInt (-1000000000000000000) 1000000000000000000))&&true)=true:=hwi;rw[Nv,Nv]at q;exact⟨_,a.1,rfl,hs,(Codec.inNat_iff.mp q.1.1).2,MU,λH' p hp=>.lst (L2.SqL.of hp) (L2.DJ _)⟩
