import PyProof.Rows.All
import Wide.All
import OpenK.AllK
import Wide.FinOn
import Lean
import PyProof.EqAt
import PyProof.EqKinds
import PyProof.TupleCall
import PyProof.StrCalls2
import PyProof.SumAny
import PyProof.Rows.Range3
import PyProof.StrBlockI
import PyProof.SliceStr2
import PyProof.IsRules
import PyProof.StrBlock2
import PyProof.ListRange
import KE.KRevSl
import KE.KRevIter
import PyProof.StrBlock
import PyProof.Rows.SortRuns
import PyProof.Rows.SortShell
import KE.KDictSum
import PyProof.SetRoads
import PyProof.Rows.SetFrom
import PyProof.Rows.SortIns
import PyProof.Tail
import PyProof.DictWalks
import PyProof.StrLawsIn
import PySem.Challenge.RW_skeinwood_k74_reach_just
set_option Elab.async false
set_option genSizeOf false
set_option bootstrap.genMatcherCode false
set_option compiler.extract_closed false
set_option linter.all false
set_option maxRecDepth 100000
noncomputable section
section
open PySem PySem.Spec PyProof.Rows
noncomputable def Jz:=@wpAny_bind
noncomputable def JA:=@List.getElem?_eq_some_iff
noncomputable def JB:=@wpAny_pure
noncomputable def JC:=@Nat.le_refl
noncomputable def JD:=@Heap.get?_push_of_some
noncomputable def JE:=@List.getElem?_append_left
noncomputable def JF:=@if_neg
noncomputable def JG:=@if_pos
noncomputable def JH:=@wpS_bind
noncomputable def JI:=@Nat.le_trans
noncomputable def JJ:=@List.length_append
noncomputable def JK:=@List.size_toArray
noncomputable def JL:=@Heap.get?_push_size
noncomputable def JM:=@List.append_assoc
noncomputable def JN:=@List.length_map
noncomputable def JO:=@List.mem_append_left
noncomputable def JP:=@List.mem_singleton
noncomputable def JQ:=@Array.length_toList
noncomputable def JR:=@Heap.lt_size
noncomputable def JS:=@List.mem_append
noncomputable def JT:=@Bool.false_ne_true
noncomputable def JU:=@List.getElem?_eq_getElem
noncomputable def JV:=@wpS_pure
noncomputable def JW:=@List.mem_append_right
noncomputable def JX:=@List.getElem?_set_ne
noncomputable def JY:=@PySem.F.plainAttrs_list
noncomputable def JZ:=@Nat.lt_of_lt_of_le
noncomputable def J0:=@List.getElem?_set_self
noncomputable def J1:=@List.mem_iff_getElem?
noncomputable def J2:=@PySem.F.slot_list_append
noncomputable def J3:=@PySem.F.type_list_append
noncomputable def J4:=@List.mem_cons
noncomputable def J5:=@Option.map_eq_some_iff
noncomputable def J6:=@List.mem_of_getElem?
noncomputable def J7:=@List.getElem?_append_right
noncomputable def J8:=@List.map_cons
noncomputable def J9:=@Nat.lt_of_le_of_lt
noncomputable def Ka:=@Nat.ne_of_lt
noncomputable def Kb:=@List.getElem?_map
noncomputable def Kc:=@Array.toList_append
noncomputable def Kd:=@Array.getElem?_toList
noncomputable def Ke:=@List.take_append_drop
noncomputable def Kf:=@List.getElem?_drop
noncomputable def Kg:=@List.take_of_length_le
noncomputable def Kh:=@decide_eq_false
noncomputable def Ki:=@Nat.zero_le
noncomputable def Kj:=@List.length_cons
noncomputable def Kk:=@Option.isSome_iff_exists
noncomputable def Kl:=@List.getElem?_take_of_lt
noncomputable def Km:=@List.mem_cons_of_mem
noncomputable def Kn:=@decide_eq_true_eq
noncomputable def Ko:=@Nat.add_le_add_left
noncomputable def Kp:=@Option.some.inj
noncomputable def Kq:=@Array.getElem?_eq_getElem
noncomputable def Kr:=@List.length_take
noncomputable def Kt:=@PySem.W.mg_none_of
noncomputable def Ku:=@wpAny_mono
noncomputable def Kv:=@Heap.get?_update_self
noncomputable def Kw:=@List.drop_of_length_le
noncomputable def Kx:=@decide_eq_false_iff_not
noncomputable def Kz:=@Heap.SameBut.update
noncomputable def KA:=@Heap.get?_update_other
noncomputable def KC:=@PySem.boot_len
noncomputable def KD:=@wpAny_holding
noncomputable def KF:=@PyProof.Rows.callWith_type1
noncomputable def KG:=@List.length_drop
noncomputable def KH:=@List.all_eq_true
noncomputable def KI:=@List.drop_eq_getElem_cons
noncomputable def KJ:=@List.mem_cons_self
noncomputable def KM:=@wpS_forRange
noncomputable def KN:=@PySem.W.kia_one
noncomputable def KO:=@List.nodup_cons
noncomputable def KP:=@List.length_nil
noncomputable def KQ:=@Array.size_push
noncomputable def KR:=@decide_eq_true
noncomputable def KS:=@List.mem_reverse
noncomputable def KU:=@wpAny_call_entry
noncomputable def KW:=@List.length_replicate
noncomputable def KY:=@List.perm_append_comm
noncomputable def KZ:=@Int.le_trans
noncomputable def K0:=@wpAny_newObj_type
noncomputable def K1:=@List.find?_cons
noncomputable def K2:=@Bool.and_eq_true
noncomputable def K3:=@List.prefix_refl
noncomputable def K4:=@List.Perm.append_left
noncomputable def K5:=@List.map_append
noncomputable def K6:=@Nat.min_eq_left
noncomputable def K7:=@Bool.false_eq_true
noncomputable def K8:=@List.not_mem_nil
noncomputable def K9:=@List.mem_of_mem_drop
noncomputable def Lc:=@List.mem_of_mem_take
noncomputable def Ld:=@wpAny_askSetting
noncomputable def Le:=@Array.getElem?_eq_some_iff
noncomputable def Lf:=@List.length_range
noncomputable def Lg:=@List.drop_zero
noncomputable def Lh:=@Array.toList_push
noncomputable def Li:=@wpAny_setState_of
noncomputable def Lj:=@PySem.mem_of_lookup
noncomputable def Lk:=@List.getElem_of_mem
noncomputable def Lm:=@List.mem_filter
noncomputable def Ln:=@List.append_nil
noncomputable def Lo:=@List.getElem?_eq_none
noncomputable def Lp:=@List.pairwise_cons
noncomputable def Lq:=@List.getElem?_replicate
noncomputable def Lr:=@Nat.lt_succ_of_lt
noncomputable def Ls:=@Bool.not_eq_true'
noncomputable def Lu:=@List.length_eq_zero_iff
noncomputable def Lv:=@wpAny_truthy_bool
noncomputable def Lx:=@Bool.eq_iff_iff
noncomputable def Ly:=@Int.max_eq_left
noncomputable def Lz:=@Nat.lt_trans
noncomputable def LA:=@Int.le_of_lt
noncomputable def LB:=@Nat.le_add_right
noncomputable def LC:=@wpAny_passesOwn
noncomputable def LD:=@PySem.typeIs_bool
noncomputable def LF:=@List.nodup_append
noncomputable def LG:=@Array.size_append
noncomputable def LH:=@Array.all_eq_true_iff_forall_mem
noncomputable def LI:=@Array.toList_reverse
noncomputable def LJ:=@Nat.zero_add
noncomputable def LN:=@Around.under_plainId
noncomputable def LP:=@wpS_mono
noncomputable def LQ:=@bne_self_eq_false
noncomputable def LR:=@Nat.lt_irrefl
noncomputable def LV:=@List.length_reverse
noncomputable def LW:=@List.map_congr_left
noncomputable def LX:=@Heap.size_push
noncomputable def LY:=@Nat.add_sub_cancel_left
noncomputable def LZ:=@List.drop_drop
noncomputable def L4:=@List.pairwise_singleton
noncomputable def L5:=@Nat.succ_lt_succ
noncomputable def L6:=@Int.eq_ofNat_of_zero_le
noncomputable def L7:=@Int.max_eq_right
noncomputable def L8:=@wpAny_callSpecial?_slot
noncomputable def L9:=@Int.le_refl
noncomputable def Ma:=@PySem.F.slot_bool_hash
noncomputable def Mb:=@Nat.le_of_lt
noncomputable def Mc:=@Calls.spliced_cons
noncomputable def Md:=@List.map_map
noncomputable def Me:=@List.mem_map
noncomputable def Mf:=@Array.getElem?_eq_none
noncomputable def Mh:=@Nat.add_comm
noncomputable def Mi:=@List.getElem?_take
noncomputable def Mj:=@List.nil_append
noncomputable def Ml:=@Nat.not_lt_zero
noncomputable def Mm:=@codeAny_builtin
noncomputable def Mn:=@List.any_cons
noncomputable def Mo:=@PySem.W.mg_of
noncomputable def Mp:=@List.Pairwise.sublist
noncomputable def Mq:=@wpAny_callSpecialIfBoundUnlessNone?_slot
noncomputable def Mr:=@Calls.spliced_nil
noncomputable def Mt:=@List.ext_getElem?
noncomputable def Mu:=@List.drop_take
noncomputable def Mv:=@List.perm_ext_iff_of_nodup
noncomputable def Mw:=@wpAny_rule
noncomputable def Mx:=@wpS_modify
noncomputable def My:=@wpAny_setField
noncomputable def Mz:=@Nat.lt_succ_self
noncomputable def MA:=@List.lookup_cons
noncomputable def MB:=@codeAny_mono
noncomputable def MC:=@wpAny_isInstance
noncomputable def MD:=@List.pairwise_iff_getElem
noncomputable def ME:=@List.filterMap_cons
noncomputable def MF:=@List.reverse_append
noncomputable def MG:=@wpAny_setEntries_of
noncomputable def MH:=@Nat.add_assoc
noncomputable def MJ:=@List.length_set
noncomputable def ML:=@Nat.le_add_left
noncomputable def MM:=@if_true
noncomputable def MN:=@wpAny_Call_Name_kw
noncomputable def MO:=@tupleKind_room_in1
noncomputable def MP:=@Nat.le_succ
noncomputable def MQ:=@List.mem_range
noncomputable def MR:=@Int.toNat_natCast
noncomputable def MS:=@Option.isSome_map
noncomputable def MT:=@List.nodup_nil
noncomputable def MU:=@PyProof.noPylong_small
noncomputable def MV:=@List.Perm.append_right
noncomputable def MW:=@List.take_take
noncomputable def MX:=@List.reverse_perm
noncomputable def MY:=@Heap.SameBut.refl
noncomputable def MZ:=@List.pairwise_map
noncomputable def M0:=@wpAny_pyIter_list
noncomputable def M1:=@fits_of_scanBound
noncomputable def M3:=@wpAny_setEpoch_of
noncomputable def M4:=@PyProof.Rows.slot_tuple_getitem
noncomputable def M5:=@List.length_filter_le
noncomputable def M6:=@Nat.le_of_not_lt
noncomputable def M7:=@List.getElem_mem
noncomputable def M8:=@PySem.AutoSeq1.wpAny_loadPart'
noncomputable def M9:=@List.isEmpty_nil
noncomputable def Na:=@wpS_get
noncomputable def Nb:=@plainId_quiet
noncomputable def Nc:=@List.pairwise_append
noncomputable def Nd:=@Array.toList_extract
noncomputable def Nf:=@List.reverse_reverse
noncomputable def Ng:=@List.take_append_of_le_length
noncomputable def Nh:=@or_false
noncomputable def Ni:=@Nat.min_le_left
noncomputable def Nj:=@Option.map_some
noncomputable def Nk:=@Int.emod_nonneg
noncomputable def Nl:=@wpAny_specialOf
noncomputable def Nm:=@wpAny_execs_nil
noncomputable def Nn:=@PySem.W.plainGet_of
noncomputable def Np:=@List.getElem?_range
noncomputable def Nq:=@Nat.le_of_eq
noncomputable def Nr:=@List.map_nil
noncomputable def Nt:=@PySem.W.of_hideAll
noncomputable def Nu:=@Calls.Name_function_global
noncomputable def Nv:=@List.mem_filterMap
noncomputable def Nw:=@List.filterMap_map
noncomputable def Nx:=@List.take_succ
noncomputable def Ny:=@Bool.not_eq_false'
noncomputable def Nz:=@Array.toList_setIfInBounds
noncomputable def NB:=@Array.perm_iff_toList_perm
noncomputable def NC:=@List.length_eraseIdx_of_lt
noncomputable def ND:=@List.prefix_append
noncomputable def NF:=@Nat.add_sub_cancel
noncomputable def NG:=@Int.emod_lt_of_pos
noncomputable def NH:=@wpAny_Name
noncomputable def NI:=@wpAny_pyIter_range
noncomputable def NJ:=@Calls.call_function_entry
noncomputable def NK:=@PySem.F.plain_extend_loop
noncomputable def NL:=@PySem.W.kitx_list
noncomputable def NM:=@List.take_sublist
noncomputable def NO:=@List.reverse_cons
noncomputable def NP:=@Option.some.injEq
noncomputable def NQ:=@List.getElem?_set
noncomputable def NR:=@of_decide_eq_true
noncomputable def NS:=@wpAny_storeSet_of
noncomputable def NT:=@PySem.F.args_tuple_add_2
noncomputable def NU:=@List.length_erase_of_mem
noncomputable def NV:=@Bool.not_true
noncomputable def NW:=@wpAny_getItem_list_slice
noncomputable def NX:=@PySem.F.entry_tuple_add
noncomputable def NY:=@Option.getD_none
noncomputable def NZ:=@List.drop_length
noncomputable def N5:=@PySem.F.plain_list_iadd
noncomputable def N7:=@List.getElem?_cons_succ
noncomputable def N8:=@List.take_length
noncomputable def N9:=@if_false
noncomputable def Oa:=@PySem.W.cellsFrom_some
noncomputable def Ob:=@PySem.F.slot_tuple_add
noncomputable def Oc:=@Calls.callWith_builtin
noncomputable def Od:=@List.pairwise_lt_range
noncomputable def Oe:=@List.length_eq_one_iff
noncomputable def Of:=@List.find?_cons_of_neg
noncomputable def Og:=@PySem.F.plainAttrs_str
noncomputable def Oh:=@wpAny_pyNext_range_end
noncomputable def Oi:=@wpAny_pyIter_rangeiter
noncomputable def Oj:=@subscriptTail_builtinR
noncomputable def Ol:=@typeIs_str
noncomputable def Om:=@List.of_mem_zip
noncomputable def On:=@List.cons.injEq
noncomputable def Oo:=@List.foldl_cons
noncomputable def Oq:=@Int.natCast_add
noncomputable def Os:=@wpAny_updateSeq
noncomputable def Ot:=@wpAny_ite_split
noncomputable def Ou:=@List.length_singleton
noncomputable def Ov:=@PySem.W.methodCall_KW
noncomputable def Ow:=@List.dropLast_eq_take
noncomputable def Ox:=@List.set_append_right
noncomputable def Oy:=@builtinLookup_eq_fast
noncomputable def Oz:=@Calls.evalArgs_plain
noncomputable def OA:=@List.getElem?_of_mem
noncomputable def OB:=@List.Perm.refl
noncomputable def OC:=@List.getElem?_append
noncomputable def OD:=@Nat.add_le_add
noncomputable def OE:=@wpAny_loadName_local
noncomputable def OF:=@wpAny_field
noncomputable def OG:=@lookup_relabel_local
noncomputable def OH:=@wpAny_pyIter_revIter
noncomputable def OI:=@entryFor_alias
noncomputable def OJ:=@isSubtype_type
noncomputable def OK:=@Value.isStrOf_shape
noncomputable def OL:=@PySem.W.hideAll_get
noncomputable def OM:=@PySem.W.callWith_K0
noncomputable def ON:=@Int.toNat_of_nonneg
noncomputable def OO:=@wpAny_loadName_cell
noncomputable def OP:=@wpAny_loadName_free
noncomputable def OQ:=@List.take_add
noncomputable def OS:=@Int.ofNat.inj
noncomputable def OT:=@wpAny_standAt
noncomputable def OU:=@evalPart_none
noncomputable def OV:=@wpAny_attempt
noncomputable def OW:=@wpAny_newList
noncomputable def OX:=@Heap.IsSliceOf.new
noncomputable def OY:=@PySem.W.callWith_K
noncomputable def OZ:=@Nat.not_lt
noncomputable def O0:=@Int.not_lt
noncomputable def O1:=@List.filter_append
noncomputable def O2:=@boot_range
noncomputable def O3:=@call_meets
noncomputable def O4:=@beq_iff_eq
noncomputable def O5:=@wpAny_forIn_array'
noncomputable def O6:=@bind_assoc
noncomputable def O7:=@Value.isInt_shape
noncomputable def O8:=@Nat.ne_of_gt
noncomputable def O9:=@PySem.W.kitx_dict
noncomputable def Pa:=@Int.ediv_one
noncomputable def Pb:=@Nat.add_zero
noncomputable def Pd:=@List.drop_sublist
noncomputable def Pe:=@Nat.le_succ_of_le
noncomputable def Pf:=@List.getElem_take
noncomputable def Pg:=@List.find?_append
noncomputable def Ph:=@List.foldl_append
noncomputable def Pi:=@Nat.pow_succ
noncomputable def Pj:=@List.set_set
noncomputable def Pk:=@wpAny_assign_Name
noncomputable def Pl:=@concat_meets
noncomputable def Pm:=@wpAny_sequenceKey
noncomputable def Pn:=@wpAny_typeOf
noncomputable def Po:=@seqIndex_neg
noncomputable def Pp:=@slot_dict_setitem
noncomputable def Pq:=@call_range_3
noncomputable def Pt:=@sub_set_self
noncomputable def Pu:=@wpAny_pyIter_slot
noncomputable def Pv:=@wpAny_load
noncomputable def Pw:=@wpAny_call
end
namespace L2
open PySem PySem.Spec PyProof.Rows
noncomputable abbrev aH:=Sum Int Str
noncomputable def i3:aH->Value->Bool
 | .inl k,v=>Value.isInt k v
 | .inr x,v=>Value.isStrOf x v
noncomputable def km (w:World):aH->Int
 | .inl k=>hashInt k
 | .inr x=>hashStr w x
theorem gw:∀ {k:aH} {v:Value},i3 k v=true->(∃ i t,k=Sum.inl i/\v=Value.int i t)\/(∃ x t,k=Sum.inr x/\v=Value.str x t)
 | .inl i,v,h=>by
  obtain ⟨t,e⟩:=O7 (k:=i) (v:=v) h
  exact .inl ⟨i,t,rfl,e⟩
 | .inr x,v,h=>by
  obtain ⟨t,e⟩:=OK (x:=x) (v:=v) h
  exact .inr ⟨x,t,rfl,e⟩
theorem zi (i:Int) (t:Tok):i3 (.inl i) (.int i t)=true:=by simp [i3,Value.isInt]
theorem zj (x:Str) (t:Tok):i3 (.inr x) (.str x t)=true:=by simp [i3,Value.isStrOf]
theorem mE (a b:Int):decide ((Sum.inl a:aH)=Sum.inl b)=(a == b):=by
 by_cases e:a=b
 ·subst e;simp
 ·have h : ¬ (Sum.inl a:aH)=Sum.inl b:=λq=>e (Sum.inl.inj q)
  rw [Kh h]
  exact (beq_eq_false_iff_ne.mpr e).symm
theorem uN (a b:Str):decide ((Sum.inr a:aH)=Sum.inr b)=decide (a=b):=by
 by_cases e:a=b
 ·subst e;simp
 ·have h : ¬ (Sum.inr a:aH)=Sum.inr b:=λq=>e (Sum.inr.inj q)
  rw [Kh h,Kh e]
theorem pj (a:Int) (b:Str):decide ((Sum.inl a:aH)=Sum.inr b)=false:=Kh (λq=>nomatch q)
theorem pq (a:Str) (b:Int):decide ((Sum.inr a:aH)=Sum.inl b)=false:=Kh (λq=>nomatch q)
noncomputable def fR (prog:Program) (w:World):PySem.KeyKind prog w aH where
 is:=i3
 hash:=km w
 inj:=λv a b ha hb=>by
  rcases gw ha with ⟨i,t,rfl,rfl⟩ | ⟨x,t,rfl,rfl⟩
  ·rcases gw hb with ⟨j,u,rfl,e⟩ | ⟨y,u,rfl,e⟩
   ·injection e with e1 _;rw [e1]
   ·exact nomatch e
  ·rcases gw hb with ⟨j,u,rfl,e⟩ | ⟨y,u,rfl,e⟩
   ·exact nomatch e
   ·injection e with e1 _;rw [e1]
 byValue:=λk v h=>by
  rcases gw h with ⟨i,t,rfl,rfl⟩ | ⟨x,t,rfl,rfl⟩<;>rfl
 pyHash:=λhv h=>by
  rcases gw hv with ⟨i,t,rfl,rfl⟩ | ⟨x,t,rfl,rfl⟩
  ·exact wpAny_pyHash_int h
  ·exact wpAny_pyHash_str h
 eqBool:=λhu hv h=>by
  rcases gw hu with ⟨i,t,rfl,rfl⟩ | ⟨x,t,rfl,rfl⟩
  ·rcases gw hv with ⟨j,u,rfl,rfl⟩ | ⟨y,u,rfl,rfl⟩
   ·rw [mE] at h;exact wpAny_eqBool_int h
   ·rw [pj] at h;exact SeqAt.EqAt.int_str i t y u _ _ _ _ h
  ·rcases gw hv with ⟨j,u,rfl,rfl⟩ | ⟨y,u,rfl,rfl⟩
   ·rw [pq] at h;exact SeqAt.EqAt.str_int x t j u _ _ _ _ h
   ·rw [uN] at h;exact wpAny_eqBool_str h
 «strs» := λk x t v h=>by
  rcases gw h with ⟨i,u,rfl,e⟩ | ⟨y,u,rfl,e⟩
  ·exact nomatch e
  ·injection e with e1 _
   subst e1
   cases v<;>rfl
noncomputable abbrev i4 (b:Bool):Int:=if b then 1 else 0
noncomputable def i5:aH->Value->Bool
 | .inl k,.bool b=>decide (k=i4 b)
 | .inl k,v=>Value.isInt k v
 | .inr x,v=>Value.isStrOf x v
theorem fS:∀ {k:aH} {v:Value},i5 k v=true->(∃ i t,k=Sum.inl i/\v=Value.int i t)\/(∃ b,k=Sum.inl (i4 b)/\v=Value.bool b)\/(∃ x t,k=Sum.inr x/\v=Value.str x t)
 | .inl i,v,h=>by
  cases v with
  | bool b=>exact .inr (.inl ⟨b,by rw [NR (show decide (i=i4 b)=true from h)],rfl⟩)
  | int j t =>
   obtain ⟨t,e⟩:=O7 (k:=i) (v:=.int j t) h
   exact .inl ⟨i,t,rfl,e⟩
  | _=>exact absurd h (by simp [i5,Value.isInt])
 | .inr x,v,h=>by
  obtain ⟨t,e⟩:=OK (x:=x) (v:=v) h
  exact .inr (.inr ⟨x,t,rfl,e⟩)
theorem zk {prog:Program} {w:World} {A:Around} {E:Value->Shared->Prop} {s:Shared} {b:Bool} {Q:Int->Shared->Prop} (h:Q (hashInt (i4 b)) { s with toks:=s.toks+1 }) :
  wpAny (model prog w) A (pyHash (.bool b)) Q E s:=by
 unfold pyHash
 unfold pyHashByItsType
 have hv:[Value.bool b].any Value.onHeap=false:=rfl
 refine Jz ?_
 rw [cRoomFor,JF (by rw [hv];exact JT)];refine JB ?_
 refine Jz (Nl (LD s b) PySem.F.slot_bool_hash.lookup ?_)
 show wpAny _ _ (if (some (Value.builtin "int.__hash__") == some Value.none)=true then _ else _) Q E s
 rw [JF (by rw [beq_builtin_none];exact JT)]
 refine Jz (Nl (LD s b) PySem.F.slot_bool_hash.lookup ?_)
 show wpAny _ _ (callSpecialIfBoundUnlessNone? (.bool b) "__hash__" _ >>= _) Q E s
 cases b with
 | false =>
  refine Jz (Mq (LD s false) Ma
   (KU Ma (LD s false) entry_int_hash
    (show wpAny _ _ (do ret (<- mkInt 0)) _ _ s from wpAny_ret_mkInt ?_) (args_int_hash _)))
  exact JB h
 | true =>
  refine Jz (Mq (LD s true) Ma
   (KU Ma (LD s true) entry_int_hash
    (show wpAny _ _ (do ret (<- mkInt 1)) _ _ s from wpAny_ret_mkInt ?_) (args_int_hash _)))
  exact JB h
theorem zm (a b:Bool):(a == b)=decide ((Sum.inl (i4 a):aH)=Sum.inl (i4 b)):=by cases a<;>cases b<;>decide
noncomputable def gR (prog:Program) (w:World):PySem.KeyKind prog w aH where
 is:=i5
 hash:=km w
 inj:=λv a b ha hb=>by
  rcases fS ha with ⟨i,t,rfl,rfl⟩ | ⟨c,rfl,rfl⟩ | ⟨x,t,rfl,rfl⟩
  ·rcases fS hb with ⟨j,u,rfl,e⟩ | ⟨d,rfl,e⟩ | ⟨y,u,rfl,e⟩
   ·injection e with e1 _;rw [e1]
   ·exact nomatch e
   ·exact nomatch e
  ·rcases fS hb with ⟨j,u,rfl,e⟩ | ⟨d,rfl,e⟩ | ⟨y,u,rfl,e⟩
   ·exact nomatch e
   ·injection e with e1;rw [e1]
   ·exact nomatch e
  ·rcases fS hb with ⟨j,u,rfl,e⟩ | ⟨d,rfl,e⟩ | ⟨y,u,rfl,e⟩
   ·exact nomatch e
   ·exact nomatch e
   ·injection e with e1 _;rw [e1]
 byValue:=λk v h=>by
  rcases fS h with ⟨i,t,rfl,rfl⟩ | ⟨c,rfl,rfl⟩ | ⟨x,t,rfl,rfl⟩<;>rfl
 pyHash:=λhv h=>by
  rcases fS hv with ⟨i,t,rfl,rfl⟩ | ⟨c,rfl,rfl⟩ | ⟨x,t,rfl,rfl⟩
  ·exact wpAny_pyHash_int h
  ·exact zk h
  ·exact wpAny_pyHash_str h
 eqBool:=λhu hv h=>by
  rcases fS hu with ⟨i,t,rfl,rfl⟩ | ⟨c,rfl,rfl⟩ | ⟨x,t,rfl,rfl⟩
  ·rcases fS hv with ⟨j,u,rfl,rfl⟩ | ⟨d,rfl,rfl⟩ | ⟨y,u,rfl,rfl⟩
   ·rw [mE] at h;exact wpAny_eqBool_int h
   ·rw [mE] at h;exact SeqAt.EqAt.int_bool i t d _ _ _ _ h
   ·rw [pj] at h;exact SeqAt.EqAt.int_str i t y u _ _ _ _ h
  ·rcases fS hv with ⟨j,u,rfl,rfl⟩ | ⟨d,rfl,rfl⟩ | ⟨y,u,rfl,rfl⟩
   ·rw [mE] at h;exact SeqAt.EqAt.bool_int c j u _ _ _ _ h
   ·rw [<- zm] at h;exact SeqAt.EqAt.bool_bool c d _ _ _ _ h
   ·rw [pj] at h;exact SeqAt.EqAt.bool_str c y u _ _ _ _ h
  ·rcases fS hv with ⟨j,u,rfl,rfl⟩ | ⟨d,rfl,rfl⟩ | ⟨y,u,rfl,rfl⟩
   ·rw [pq] at h;exact SeqAt.EqAt.str_int x t j u _ _ _ _ h
   ·rw [pq] at h;exact SeqAt.EqAt.str_bool x t d _ _ _ _ h
   ·rw [uN] at h;exact wpAny_eqBool_str h
 «strs» := λk x t v h=>by
  rcases fS h with ⟨i,u,rfl,e⟩ | ⟨d,rfl,e⟩ | ⟨y,u,rfl,e⟩
  ·exact nomatch e
  ·exact nomatch e
  ·injection e with e1 _
   subst e1
   cases v<;>rfl
theorem zp (prog:Program) (w:World) (i:Int) (t:Tok):(gR prog w).is (.inl i) (.int i t)=true:=by show i5 (.inl i) (.int i t)=true;simp [i5,Value.isInt]
theorem zq (prog:Program) (w:World) (x:Str) (t:Tok):(gR prog w).is (.inr x) (.str x t)=true:=by show i5 (.inr x) (.str x t)=true;simp [i5,Value.isStrOf]
theorem zr (prog:Program) (w:World) (k:aH) (v:Value):(fR prog w).is k v=i3 k v:=rfl
theorem zt (prog:Program) (w:World) (i:Int) (t:Tok):(fR prog w).is (.inl i) (.int i t)=true:=zi i t
theorem zu (prog:Program) (w:World) (x:Str) (t:Tok):(fR prog w).is (.inr x) (.str x t)=true:=zj x t
end L2
namespace L2
open PySem PySem.Spec PyProof.Rows
inductive V where
 | non | bl (b:Bool) | int (i:Int) | str (x:Str) | byt (b:Array UInt8) | flt (b:UInt64) | ref (a:Addr) | ty (n:String)
 deriving DecidableEq
noncomputable def RelV:V->Value->Prop
 | .non,u=>u=Value.none
 | .bl b,u=>u=Value.bool b
 | .int i,u=>∃ t,u=Value.int i t
 | .str x,u=>∃ t,u=Value.str x t
 | .byt b,u=>∃ t,u=Value.bytes b t
 | .flt b,u=>∃ t,u=Value.float b t
 | .ref a,u=>u=Value.ref a
 | .ty n,u=>u=Value.type n
noncomputable abbrev Vals:List V->List Value->Prop:=Paired RelV
theorem Vals.length {xs:List V} {us:List Value} (r:Vals xs us):xs.length=us.length:=Paired.length r
theorem Vals.get:∀ {xs:List V} {us:List Value} {i:Nat} {x:V},Vals xs us->xs[i]? = some x->∃ u,us[i]? = some u/\RelV x u
 | _,_,_,_,.nil,e=>by simp at e
 | _,_,0,_,.cons r _,e=>by simp at e;subst e;exact ⟨_,rfl,r⟩
 | _,_,i+1,x,.cons _ t,e=>by
  obtain ⟨u,h1,h2⟩:=Vals.get (i:=i) (x:=x) t (by simpa using e)
  exact ⟨u,by simpa using h1,h2⟩
theorem Vals.set {x:V} {u:Value} (r:RelV x u):∀ {xs:List V} {us:List Value} (i:Nat),Vals xs us->Vals (xs.set i x) (us.set i u)
 | _,_,_,.nil=>.nil
 | _,_,0,.cons _ t=>.cons r t
 | _,_,i+1,.cons q t=>.cons q (Vals.set r i t)
theorem Vals.append:∀ {xs ys:List V} {us ws:List Value},Vals xs us->Vals ys ws->Vals (xs++ys) (us++ws)
 | _,_,_,_,.nil,s=>s
 | _,_,_,_,.cons r t,s=>.cons r (Vals.append t s)
theorem Vals.take:∀ {xs:List V} {us:List Value} (n:Nat),Vals xs us->Vals (xs.take n) (us.take n)
 | _,_,0,_=>.nil
 | _,_,_+1,.nil=>.nil
 | _,_,n+1,.cons r t=>.cons r (Vals.take n t)
theorem Vals.drop:∀ {xs:List V} {us:List Value} (n:Nat),Vals xs us->Vals (xs.drop n) (us.drop n)
 | _,_,0,r=>r
 | _,_,_+1,.nil=>.nil
 | _,_,n+1,.cons _ t=>Vals.drop n t
noncomputable def RelO:Option V->Option Value->Prop
 | some v,some u=>RelV v u
 | none,none=>True
 | _,_=>False
noncomputable def KV {κ:Type}:List (κ×V)->List (κ×Value)->Prop:=Paired λ(p:κ×V) (q:κ×Value)=>p.1=q.1/\RelV p.2 q.2
noncomputable def kV:aH->V
 | .inl i=>.int i
 | .inr x=>.str x
noncomputable def jI:V->Option aH
 | .int i=>some (.inl i)
 | .bl b=>some (.inl (i4 b))
 | .str x=>some (.inr x)
 | _=>none
theorem zv (k:aH):jI (kV k)=some k:=by cases k<;>rfl
set_option genInjectivity false in
inductive HO where
 | lst (xs:List V)
 | tup (xs:List V)
 | dK (kvs:List (aH×V)) | dT (xc:Option (List Addr)) (kvs:List (List aH×V))
 | set (S:Int->Bool) (n:Nat)
 | ins (C dx:Addr) (fs:List (Str×V))
 | own (x:Addr)
 | xd (fs:List (Str×V))
 | met (f x:Addr)
 | rng (lo hi:Int)
 | frz (o:Obj) (u:HO)
 | tbl (ps:Array Value)
 | ext (φ:Heap->Prop)
noncomputable abbrev Hp:=Addr->Option HO
noncomputable def aJ (H:Hp) (a:Addr) (o:HO):Hp:=λb=>if b=a then some o else H b
theorem eP {H:Hp} {a:Addr} {o:HO}:aJ H a o a=some o:=by unfold aJ;rw [JG rfl]
theorem bN {H:Hp} {a b:Addr} {o:HO} (h:b≠a):aJ H a o b=H b:=by unfold aJ;rw [JF h]
theorem zw {H:Hp} {a b:Addr} {o u:HO} (h:H a=some o) (h':H b=some u) (d:o≠u):a≠b:=by
 intro e;subst e;rw [h] at h';exact d (Kp h')
theorem fT {H:Hp} {a b:Addr} {o:HO} (h:H a=some o) (h':H b=none):a≠b:=by
 intro e;subst e;rw [h] at h';cases h'
section
variable (P:Program) (w:World)
noncomputable def ObjOk (H:Hp) (h:Heap) (a:Addr):HO->Prop
 | .lst xs=>xs.length<=sizeLine/\∃ (its:List Value) (n:Nat),Vals xs its/\h.get? a=some { cls:=.type "list",data:=.seq its.toArray n }
 | .tup xs=>xs.length<=sizeLine/\∃ its:List Value,Vals xs its/\IsTup h a its.toArray
 | .dK kvs=>kvs.length<=sizeLine/\(a == sysModules)=false/\∃ vs,KV kvs vs/\h.DictOf (fR P w) a vs
 | .dT xc kvs=>kvs.length<=sizeLine/\(a == sysModules)=false/\∃ xs:List (List aH×Addr×Value),
   Paired (λ(p:List aH×V) (q:List aH×Addr×Value)=>p.1=q.1/\(∃ ys,H q.2.1=some (.tup ys)/\ys.map jI=p.1.map some)/\RelV p.2 q.2.2) kvs xs /\
   ∃ o es ep,h.get? a=some o/\o.ExactDict/\o.data = .dict es ep/\es.toList=xs.map (entryOfKey (tupleKind (gR P w)))/\(xs.map (·.1)).Nodup/\ep=xs.length/\∀ as,xc=some as->xs.map (·.2.1)=as
 | .set S n=>h.SetOf (intKind P w) a S n
 | .ins C dx fs=>H dx=some (.own a)/\fs.length<=1000/\dx≠a/\h.get? a=some (PySem.W.instObj C dx) /\
   ∃ mA,h.Ns1 dx mA/\(∀ f,RelO (fs.lookup f) (mA f))/\PySem.Within mA (fs.map (·.1))
 | .own _=>∃ o,h.get? a=some o
 | .xd fs=>∃ mA,h.Ns1 a mA/\∀ f,RelO (fs.lookup f) (mA f)
 | .rng lo hi=>∃ t u v,h.get? a=some { cls:=.type "range",data:=.fields #[.int lo t,.int hi u,.int 1 v] }
 | .frz o u=>h.get? a=some o/\ObjOk H h a u
 | .tbl ps=>h.get? a=some { cls:=.none,data:=.fields ps }
 | .met f x=>h.get? a=some (PySem.W.methodObj (.ref f) (.ref x))
 | .ext φ=>φ h/\(∃ o,h.get? a=some o)/\∀ h1 h2:Heap,φ h1->(∀ o,h1.get? a=some o->h2.get? a=some o)->φ h2
noncomputable def HOk (H:Hp) (h:Heap):Prop:=∀ a o,H a=some o->ObjOk P w H h a o
end
section
variable {P:Program} {w:World} {H H':Hp} {h h':Heap} {a:Addr} {o:HO}
theorem ObjOk.lt (x:ObjOk P w H h a o):a<h.objs.size:=by
 cases o with
 | lst xs=>obtain ⟨_,_,_,_,e⟩:=x;exact JR e
 | tup xs=>obtain ⟨_,_,_,p⟩:=x;exact p.lt
 | dK kvs=>obtain ⟨_,_,_,_,o,_,_,e,_⟩:=x;exact JR e
 | dT xc kvs=>obtain ⟨_,_,_,_,o,_,_,e,_⟩:=x;exact JR e
 | set S n=>obtain ⟨o,_,_,_,e,_⟩:=x;exact JR e
 | ins C dx fs=>obtain ⟨_,_,_,e,_⟩:=x;exact JR e
 | own y=>obtain ⟨_,e⟩:=x;exact JR e
 | xd fs=>obtain ⟨_,⟨_,_,_,e,_⟩,_⟩:=x;exact JR e
 | rng lo hi=>obtain ⟨_,_,_,e⟩:=x;exact JR e
 | frz ob u=>obtain ⟨e,_⟩:=x;exact JR e
 | tbl ps=>exact JR (show h.get? a=some _ from x)
 | met f y=>exact JR (show h.get? a=some _ from x)
 | ext φ=>obtain ⟨_,⟨_,e⟩,_⟩:=x;exact JR e
theorem Paired.mapP {α β:Type} {F G:α->β->Prop}:∀ {l₁:List α} {l₂:List β},Paired F l₁ l₂->(∀ a b,F a b->G a b)->Paired G l₁ l₂
 | _,_,.nil,_=>.nil
 | _,_,.cons r t,f=>.cons (f _ _ r) (Paired.mapP t f)
theorem ObjOk.stay (x:ObjOk P w H h a o) (k:∀ b u,(b=a\/H b=some (.own a))->h.get? b=some u->h'.get? b=some u)
  (ho:∀ b,H b=some (.own a)->H' b=some (.own a)) (ht:∀ b xs,H b=some (.tup xs)->H' b=some (.tup xs)):ObjOk P w H' h' a o:=by
 induction o with
 | lst xs=>obtain ⟨z,its,n,r,e⟩:=x;exact ⟨z,its,n,r,k _ _ (.inl rfl) e⟩
 | tup xs=>obtain ⟨z,its,r,ob,e,c⟩:=x;exact ⟨z,its,r,ob,k _ _ (.inl rfl) e,c⟩
 | dK kvs=>obtain ⟨z,y,vs,r,ob,es,ep,e,c⟩:=x;exact ⟨z,y,vs,r,ob,es,ep,k _ _ (.inl rfl) e,c⟩
 | dT xc kvs =>
  obtain ⟨z,y,xs,r,ob,es,ep,e,c⟩:=x
  exact ⟨z,y,xs,Paired.mapP r λp q z=>⟨z.1,z.2.1.imp λ_ e=>⟨ht _ _ e.1,e.2⟩,z.2.2⟩,ob,es,ep,k _ _ (.inl rfl) e,c⟩
 | set S n=>obtain ⟨ob,es,ep,t,e,c⟩:=x;exact ⟨ob,es,ep,t,k _ _ (.inl rfl) e,c⟩
 | ins C dx fs =>
  obtain ⟨d,z,ne,e,mA,⟨od,es,ep,e2,c⟩,r⟩:=x
  exact ⟨ho _ d,z,ne,k _ _ (.inl rfl) e,mA,⟨od,es,ep,k _ _ (.inr d) e2,c⟩,r⟩
 | own y=>obtain ⟨ob,e⟩:=x;exact ⟨ob,k _ _ (.inl rfl) e⟩
 | xd fs=>obtain ⟨mA,⟨od,es,ep,e,c⟩,r⟩:=x;exact ⟨mA,⟨od,es,ep,k _ _ (.inl rfl) e,c⟩,r⟩
 | rng lo hi=>obtain ⟨t,u,v,e⟩:=x;exact ⟨t,u,v,k _ _ (.inl rfl) e⟩
 | frz ob u ih=>obtain ⟨e,q⟩:=x;exact ⟨k _ _ (.inl rfl) e,ih q⟩
 | tbl ps =>
  have e:h.get? a=some { cls:=.none,data:=.fields ps }:=x
  show h'.get? a=some { cls:=.none,data:=.fields ps }
  exact k a _ (.inl rfl) e
 | met f y =>
  have e:h.get? a=some (PySem.W.methodObj (.ref f) (.ref y)):=x
  show h'.get? a=some (PySem.W.methodObj (.ref f) (.ref y))
  exact k a _ (.inl rfl) e
 | ext φ=>obtain ⟨p,⟨o,e⟩,st⟩:=x;exact ⟨st _ _ p λo q=>k _ _ (.inl rfl) q,⟨o,k _ _ (.inl rfl) e⟩,st⟩
theorem HOk.lt (x:HOk P w H h) (e:H a=some o):a<h.objs.size:=(x a o e).lt
theorem HOk.fresh (x:HOk P w H h) (e:h.objs.size<=a):H a=none:=by
 cases q:H a with
 | none=>rfl
 | some u=>exact absurd (JZ (x.lt q) e) (LR _)
theorem HOk.kept (x:HOk P w H h) (k:∀ b u,h.get? b=some u->h'.get? b=some u):HOk P w H h' := λa o e =>
 (x a o e).stay (λb u _ q=>k b u q) (λ_ q=>q) λ_ _ q=>q
theorem HOk.laid (x:HOk P w H h) (k:∀ b u,h.get? b=some u->h'.get? b=some u) (hp:h.objs.size<=a) (new:ObjOk P w (aJ H a o) h' a o):HOk P w (aJ H a o) h' := λb u e=>by
 have hn:=x.fresh hp
 by_cases hb:b=a
 ·subst hb;rw [eP] at e;cases e;exact new
 ·rw [bN hb] at e
  exact (x b u e).stay (λc v _ q=>k c v q) (λc q=>by rw [bN (fT q hn)];exact q) λc xs q=>by rw [bN (fT q hn)];exact q
end
noncomputable def Rd (H:Hp) (a:Addr) (u:HO):Prop:=H a=some u\/∃ o,H a=some (.frz o u)
theorem Rd.of {H:Hp} {a:Addr} {u:HO} (h:H a=some u):Rd H a u:=.inl h
theorem Rd.ok {P:Program} {w:World} {H:Hp} {h:Heap} {a:Addr} {u:HO} (r:Rd H a u) (x:HOk P w H h):ObjOk P w H h a u:=by
 rcases r with r | ⟨o,r⟩
 ·exact x a u r
 ·obtain ⟨_,q⟩:=x a _ r
  exact q
noncomputable def ko:Option HO->Prop
 | some (.lst _)=>True
 | some (.dK _)=>True
 | some (.dT _ _)=>True
 | some (.set _ _)=>True
 | some (.ins _ _ _)=>True
 | some (.ext _)=>True
 | _=>False
section
variable {P:Program} {w:World} {H:Hp} {h h':Heap} {x e:Addr} {o':HO}
theorem HOk.write (ok:HOk P w H h) (mu:ko (H x)) (he:e=x\/H e=some (.own x)) (k:∀ b u,b≠e->h.get? b=some u->h'.get? b=some u) (heo:∃ u,h'.get? e=some u)
  (new:ObjOk P w (aJ H x o') h' x o'):HOk P w (aJ H x o') h' := λb u q=>by
 have nown:∀ c y,H c=some (.own y)->c≠x:=λc y r z=>by subst z;rw [r] at mu;exact mu
 have ntup:∀ c xs,H c=some (.tup xs)->c≠x:=λc xs r z=>by subst z;rw [r] at mu;exact mu
 by_cases hb:b=x
 ·subst hb;rw [eP] at q;cases q;exact new
 ·rw [bN hb] at q
  by_cases hbe:b=e
  ·have q':H b=some (.own x):=by
    rcases he with z | z
    ·exact absurd (hbe.trans z) hb
    ·rw [hbe];exact z
   rw [q] at q';cases q'
   obtain ⟨v,hv⟩:=heo
   exact ⟨v,by rw [hbe];exact hv⟩
  ·refine (ok b u q).stay (λc v hc r=>k c v ?_ r) (λc r=>by rw [bN (nown c b r)];exact r) λc xs r=>by rw [bN (ntup c xs r)];exact r
   rcases hc with rfl | hc
   ·exact hbe
   ·rintro rfl
    rcases he with z | z
    ·exact nown c b hc z
    ·rw [hc] at z;cases z;exact hb rfl
end
structure Un (fs ex:List Addr) (H H':Hp) (h h':Heap):Prop where
 keep:∀ b o,h.get? b=some o->H b=none->b∉fs->b∉ex->h'.get? b=some o
 slot:∀ b o,h.get? b=some o->H b=none->b∈fs->b∉ex->∃ sl,h'.get? b=some { o with slots:=sl }
 free:∀ b o,h.get? b=some o->H b=none->b∉ex->H' b=none
 there:∀ b o,h.get? b=some o->b∉ex->∃ o',h'.get? b=some o'
 tups:∀ b xs,H b=some (.tup xs)->H' b=some (.tup xs)
 frzs:∀ b o u,H b=some (.frz o u)->H' b=some (.frz o u)
 tbls:∀ b ps,H b=some (.tbl ps)->∃ more,H' b=some (.tbl (ps++more))
section
variable {fs fs' ex ex':List Addr} {H H1 H2:Hp} {h h1 h2 h':Heap} {a x e:Addr} {o:HO}
theorem Un.any (u:Un fs ex H H1 h h1) {b:Addr} {ob:Obj} (q:h.get? b=some ob) (n:H b=none) (hx:b∉ex):∃ sl,h1.get? b=some { ob with slots:=sl }:=by
 by_cases hb:b∈fs
 ·exact u.slot b ob q n hb hx
 ·exact ⟨ob.slots,u.keep b ob q n hb hx⟩
theorem Un.kept (k:∀ b u,h.get? b=some u->h'.get? b=some u):Un fs ex H H h h' :=
 ⟨λb ob q _ _ _=>k b ob q,λb ob q _ _ _=>⟨ob.slots,k b ob q⟩,λ_ _ _ n _=>n,λb ob q _=>⟨ob,k b ob q⟩,λ_ _ q=>q,λ_ _ _ q=>q,λ_ ps q=>⟨#[],by rw [q];simp⟩⟩
theorem Un.refl:Un fs ex H H h h:=Un.kept λ_ _ q=>q
theorem Un.laid (k:∀ b u,h.get? b=some u->h'.get? b=some u) (hp:h.objs.size<=a) (hn:H a=none):Un fs ex H (aJ H a o) h h' where
 keep:=λb u q _ _ _=>k b u q
 slot:=λb u q _ _ _=>⟨u.slots,k b u q⟩
 free:=λb u q n _=>by rw [bN (Ka (JZ (JR q) hp))];exact n
 there:=λb u q _=>⟨u,k b u q⟩
 tups:=λb xs q=>by rw [bN (fT q hn)];exact q
 frzs:=λb u xs q=>by rw [bN (fT q hn)];exact q
 tbls:=λb ps q=>⟨#[],by rw [bN (fT q hn),q];simp⟩
theorem Un.write (mu:ko (H x)) (he:e=x\/H e=some (.own x)) (k:∀ b u,b≠e->h.get? b=some u->h'.get? b=some u) (heo:∃ u,h'.get? e=some u):Un fs ex H (aJ H x o) h h' := by
 have hx:∀ b,H b=none->b≠x:=λb n z=>by subst z;rw [n] at mu;exact mu
 have hb:∀ b,H b=none->b≠e:=λb n z=>by
  subst z
  rcases he with r | r
  ·exact hx b n r
  ·rw [n] at r;cases r
 have hm:∀ b u,H b=some u -> ¬ ko (some u)->b≠x:=λb u q nm z=>by subst z;rw [q] at mu;exact nm mu
 refine ⟨λb u q n _ _=>k b u (hb b n) q,λb u q n _ _=>⟨u.slots,k b u (hb b n) q⟩,λb u q n _=>by rw [bN (hx b n)];exact n,λb u q _=>?_,
  λb xs q=>by rw [bN (hm b _ q λz=>z)];exact q,λb u xs q=>by rw [bN (hm b _ q λz=>z)];exact q,λb ps q=>⟨#[],by rw [bN (hm b _ q λz=>z),q];simp⟩⟩
 by_cases hbe:b=e
 ·subst hbe;exact heo
 ·exact ⟨u,k b u hbe q⟩
end
noncomputable def mF (h:Heap) (H:Hp):List Addr:=(List.range h.objs.size).filter λa=>(H a).isSome
noncomputable def dq (h:Heap) (H:Hp):Heap:=PySem.W.hideAll h (mF h H)
theorem zx (h:Heap) (H:Hp):(dq h H).objs.size=h.objs.size:=PySem.W.hideAll_size _ _
theorem zy {h:Heap} {H:Hp} {b:Addr} {o:Obj} (e:h.get? b=some o) (n:H b=none):(dq h H).get? b=some o :=
 OL _ e λhm=>by
  have q:(H b).isSome=true:=(Lm.mp hm).2
  rw [n] at q;simp at q
theorem zA {h:Heap} {H:Hp} {b:Addr} {o:Obj} (e:(dq h H).get? b=some o):h.get? b=some o/\H b=none:=by
 have e':h.get? b=some o:=Nt (mF h H) e
 refine ⟨e',?_⟩
 cases q:H b with
 | none=>rfl
 | some x =>
  have hm:b∈mF h H:=Lm.mpr ⟨MQ.mpr (JR e'),by simp [q]⟩
  have z:(dq h H).get? b=none:=PySem.W.hideAll_none (mF h H) hm
  rw [z] at e;cases e
end L2
namespace L2
open PySem PySem.Spec PyProof.Rows
structure Mod (K:PySem.W.Frag) (mg:Str->Option Value) (base:Heap):Prop where
 kin:K.In base
 glob:base.Ns mainGlobals mg
 blt:∃ mb,base.Ns builtinsNs mb/\∀ x:Str,x ≠ "__name__" -> mb x=bootBuiltins x
 nolimit:base.NoLimit
set_option genInjectivity false in
structure Cx where
 prog:Program
 w:World
 K:PySem.W.Frag
 mg:Str->Option Value
 base:Heap
 A:Around
 N:List Str
 s₀:Shared
 H₀:Hp
 env:Env
 outer:List Env
 stack:List Env
 ex:List Addr
 fn:Str->Bool
 calm:Bool
 pn:List (Addr×Obj)
 xe:Value->Shared->Prop
noncomputable def c6 (l:List Env):List Addr:=l.filterMap (·.frame)
noncomputable abbrev Cx.fs (X:Cx):List Addr:=c6 X.outer
noncomputable def gy (sc:Scope) (x:Str):Prop:=sc.names.lookup x=some .local\/sc.names.lookup x=some .cell\/sc.names.lookup x=some .free
noncomputable def jJ (sc:Scope) (x:Str):Prop:=sc.names.lookup x=some .local\/sc.names.lookup x=some .cell
noncomputable def pA (env:Env) (h:Heap) (m:Str->Option Value) (x:Str) (u:Value):Prop :=
 (env.kindOf x=some .local/\m x=some u)\/((env.kindOf x=some .cell\/env.kindOf x=some .free)/\∃ c,env.cells.lookup x=some c/\h.IsCell c (some u))
structure Cx.Ok (X:Cx):Prop where
 mod:Mod X.K X.mg X.base
 kind:X.env.scope.kind = .function
 glob:X.env.globals=mainGlobals
 blt:X.env.builtins=builtinsNs
 above:X.s₀.heap.objs.size<=X.env.locals
 inj:∀ x y c,X.env.cells.lookup x=some c->X.env.cells.lookup y=some c->x=y
 has:∀ x,(X.env.kindOf x=some .cell\/X.env.kindOf x=some .free)->∃ c,X.env.cells.lookup x=some c
 cab:∀ x c,X.fn x=true->X.env.cells.lookup x=some c->X.s₀.heap.objs.size<=c
 hd:X.calm=true->X.A.handled=none
 frames:X.A.frames=some X.stack
 stk:X.stack=X.outer\/(X.stack=X.env::X.outer/\X.env.frame=some X.env.locals)
 exf:∀ b∈X.ex,b≠X.env.locals/\∀ x c,X.env.cells.lookup x=some c->c≠b
 bs:∀ b o,X.base.get? b=some o->X.s₀.heap.get? b=some o/\X.H₀ b=none
 bsz:X.base.objs.size<=X.s₀.heap.objs.size
 noex:∀ b o,X.base.get? b=some o->b∉X.ex
 exfs:∀ b∈X.ex,b∉X.fs
 funs:X.s₀.heap.FunFrames X.base X.outer
 frf:∀ b∈X.fs,X.H₀ b=none
structure Inv (X:Cx) (pins:List (Addr×Obj)) (σ:List (Option V)) (H:Hp) (s:Shared):Prop where
 ok:X.Ok
 os:s.os=X.s₀.os
 bare:AllBare s.gens
 base:Un X.fs X.ex X.H₀ H X.s₀.heap s.heap
 loc:∃ m,s.heap.Ns X.env.locals m/\∀ (i:Nat) (x:Str) (v:V),X.N[i]? = some x->σ[i]? = some (some v)->gy X.env.scope x->∃ u,RelV v u/\pA X.env s.heap m x u
 cell:∀ x c,X.env.cells.lookup x=some c->∃ v,s.heap.IsCell c v
 free:H X.env.locals=none
 freeC:∀ x c,X.env.cells.lookup x=some c->H c=none
 pin:∀ p∈X.pn++pins,s.heap.get? p.1=some p.2/\H p.1=none/\p.1≠X.env.locals/\p.1∉X.fs/\∀ v,p.2.data ≠ .cell v
 hok:HOk X.prog X.w H s.heap
 len:σ.length=X.N.length
section
variable {X:Cx} {pins:List (Addr×Obj)} {σ:List (Option V)} {H H':Hp} {s:Shared} {h':Heap}
theorem Cx.Ok.nofr (ok:X.Ok) {b:Addr} {o:Obj} (e:X.base.get? b=some o):b∉X.fs:=λhb=>by
 have:=(ok.funs.mem hb).1
 rw [e] at this;cases this
theorem Inv.bs (I:Inv X pins σ H s):∀ b o,X.base.get? b=some o->s.heap.get? b=some o/\H b=none:=λb o e =>
 ⟨I.base.keep b o (I.ok.bs b o e).1 (I.ok.bs b o e).2 (I.ok.nofr e) (I.ok.noex b o e),I.base.free b o (I.ok.bs b o e).1 (I.ok.bs b o e).2 (I.ok.noex b o e)⟩
theorem Inv.bk (I:Inv X pins σ H s):∀ b o,X.base.get? b=some o->s.heap.get? b=some o:=λb o e=>(I.bs b o e).1
theorem Inv.mod (I:Inv X pins σ H s):Mod X.K X.mg X.base:=I.ok.mod
theorem Inv.kIn (I:Inv X pins σ H s):X.K.In s.heap:=I.ok.mod.kin.keeps I.bk
theorem Inv.fr (I:Inv X pins σ H s):∃ m,Fr X.base X.env.locals s.heap m :=
 let ⟨m,hn,_⟩:=I.loc
 ⟨m,hn,I.bk,JI I.ok.bsz I.ok.above⟩
theorem Inv.lt (I:Inv X pins σ H s):X.env.locals<s.heap.objs.size:=let ⟨_,hn,_⟩:=I.loc;hn.lt
theorem Inv.sz (I:Inv X pins σ H s):X.s₀.heap.objs.size<=s.heap.objs.size:=JI I.ok.above (Mb I.lt)
theorem Inv.nofs (I:Inv X pins σ H s) {a:Addr} (h:s.heap.objs.size<=a):a∉X.fs:=λhb=>by
 obtain ⟨_,o,ho,_⟩:=I.ok.funs.mem hb
 exact absurd (JZ (JR ho) (JI I.sz h)) (LR _)
theorem Inv.cne (I:Inv X pins σ H s):∀ x c,X.env.cells.lookup x=some c->c≠X.env.locals:=λx c e z=>by
 obtain ⟨v,o,ho,hd⟩:=I.cell x c e
 obtain ⟨m,⟨o',es,ep,ho',hd',_⟩,_⟩:=I.loc
 rw [z,ho'] at ho;cases ho;rw [hd'] at hd;cases hd
theorem Inv.funs (I:Inv X pins σ H s):s.heap.FunFrames X.base X.outer:=by
 have all:∀ (l:List Env),(∀ b∈c6 l,b∈X.fs)->X.s₀.heap.FunFrames X.base l->s.heap.FunFrames X.base l:=by
  intro l
  induction l with
  | nil=>intro _ _;trivial
  | cons env r ih =>
   intro hs hl
   obtain ⟨hk,⟨L,o,hf,hn,ho,hd⟩,hr⟩:=hl
   have hL:L∈X.fs:=hs L (by unfold c6;rw [ME,hf];exact KJ)
   obtain ⟨sl,e⟩:=I.base.slot L o ho (I.ok.frf L hL) hL λz=>I.ok.exfs L z hL
   exact ⟨hk,⟨L,_,hf,hn,e,hd⟩,ih (λb hb=>hs b (by unfold c6;rw [ME,hf];exact Km _ hb)) hr⟩
 exact all X.outer (λ_ hb=>hb) I.ok.funs
theorem Inv.stack (I:Inv X pins σ H s):s.heap.FunFrames X.base X.stack:=by
 rcases I.ok.stk with e | ⟨e,hf⟩
 ·rw [e];exact I.funs
 ·rw [e]
  obtain ⟨m,hn,_⟩:=I.loc
  refine .cons (by rw [I.ok.kind];decide) hf hn ?_ I.funs
  exact Heap.get?_none_of_le (JI I.ok.bsz I.ok.above)
theorem Inv.stkSub (I:Inv X pins σ H s):∀ b∈c6 X.stack,b∈X.env.locals::X.fs:=λb hb=>by
 rcases I.ok.stk with e | ⟨e,hf⟩
 ·rw [e] at hb;exact Km _ hb
 ·rw [e] at hb
  unfold c6 at hb
  rw [ME,hf] at hb
  exact hb
theorem Inv.stkFree (I:Inv X pins σ H s):∀ b∈c6 X.stack,H b=none:=λb hb=>by
 rcases J4.mp (I.stkSub b hb) with e | hb
 ·rw [e];exact I.free
 ·obtain ⟨_,o,ho,_⟩:=I.ok.funs.mem hb
  exact I.base.free b o ho (I.ok.frf b hb) λz=>I.ok.exfs b z hb
theorem Inv.step {g':Array GenState} {t':Nat} {d':Drawn} {ch:List Addr} (I:Inv X pins σ H s)
  (hch:∀ b∈ch,(b∈X.ex\/X.s₀.heap.objs.size<=b)/\b≠X.env.locals/\(∀ x c,X.env.cells.lookup x=some c->c≠b)/\∀ p∈X.pn++pins,p.1≠b)
  (keep:∀ b o,b≠X.env.locals->b∉X.fs->b∉ch->s.heap.get? b=some o->H b=none->h'.get? b=some o)
  (slot:∀ b o,b≠X.env.locals->b∈X.fs->b∉ch->s.heap.get? b=some o->H b=none->∃ sl,h'.get? b=some { o with slots:=sl }) (free:∀ b o,b∉ch->s.heap.get? b=some o->H b=none->H' b=none)
  (there:∀ b o,b∉ch->s.heap.get? b=some o->∃ o',h'.get? b=some o')
  (tups:∀ b xs,H b=some (.tup xs)->H' b=some (.tup xs)) (frzs:∀ b o u,H b=some (.frz o u)->H' b=some (.frz o u)) (tbls:∀ b ps,H b=some (.tbl ps)->∃ more,H' b=some (.tbl (ps++more)))
  (ns:∀ m,s.heap.Ns X.env.locals m->h'.Ns X.env.locals m) (hok:HOk X.prog X.w H' h') (hg:AllBare g') :
  Inv X pins σ H' { s with heap:=h',gens:=g',drawn:=d',toks:=t' }:=by
 have neL:∀ b o,X.s₀.heap.get? b=some o->b≠X.env.locals:=λb o e=>Ka (JZ (JR e) I.ok.above)
 have neC:∀ b o,X.s₀.heap.get? b=some o->b∉X.ex->b∉ch:=λb o e hx hb=>by
  rcases (hch b hb).1 with z | z
  ·exact hx z
  ·exact absurd (JZ (JR e) z) (LR _)
 have cellK:∀ x c,X.env.cells.lookup x=some c->∀ v,s.heap.IsCell c v->h'.IsCell c v:=λx c e v ⟨o,ho,hd⟩=>by
  have nch:c∉ch:=λz=>(hch c z).2.2.1 x c e rfl
  by_cases hc:c∈X.fs
  ·obtain ⟨sl,q⟩:=slot c o (I.cne x c e) hc nch ho (I.freeC x c e)
   exact ⟨_,q,hd⟩
  ·exact ⟨o,keep c o (I.cne x c e) hc nch ho (I.freeC x c e),hd⟩
 refine ⟨I.ok,I.os,hg,⟨λb o e n hb hx=>?_,λb o e n hb hx=>?_,λb o e n hx=>?_,λb o e hx=>?_,λb xs e=>tups b xs (I.base.tups b xs e),λb o xs e=>frzs b o xs (I.base.frzs b o xs e),λb ps e=>?_⟩,?_,λx c e=>?_,?_,λx c e=>?_,λp hp=>?_,hok,I.len⟩
 ·exact keep b o (neL b o e) hb (neC b o e hx) (I.base.keep b o e n hb hx) (I.base.free b o e n hx)
 ·obtain ⟨sl,e1⟩:=I.base.slot b o e n hb hx
  obtain ⟨sl',e2⟩:=slot b _ (neL b o e) hb (neC b o e hx) e1 (I.base.free b o e n hx)
  exact ⟨sl',e2⟩
 ·obtain ⟨o',e1⟩:=I.base.there b o e hx
  exact free b o' (neC b o e hx) e1 (I.base.free b o e n hx)
 ·obtain ⟨o',e1⟩:=I.base.there b o e hx
  exact there b o' (neC b o e hx) e1
 ·obtain ⟨m1,e1⟩:=I.base.tbls b ps e
  obtain ⟨m2,e2⟩:=tbls b _ e1
  exact ⟨m1++m2,by rw [e2,Array.append_assoc]⟩
 ·obtain ⟨m,hn,hl⟩:=I.loc
  refine ⟨m,ns m hn,λi x v e1 e2 e3=>?_⟩
  obtain ⟨u,r,l⟩:=hl i x v e1 e2 e3
  refine ⟨u,r,?_⟩
  rcases l with l | ⟨k,c,e,z⟩
  ·exact .inl l
  ·exact .inr ⟨k,c,e,cellK x c e _ z⟩
 ·obtain ⟨v,z⟩:=I.cell x c e
  exact ⟨v,cellK x c e v z⟩
 ·obtain ⟨m,⟨o,_,_,ho,_⟩,_⟩:=I.loc
  exact free _ o (λz=>(hch _ z).2.1 rfl) ho I.free
 ·obtain ⟨v,o,ho,hd⟩:=I.cell x c e
  exact free c o (λz=>(hch c z).2.2.1 x c e rfl) ho (I.freeC x c e)
 ·obtain ⟨e,n,ne,nf,d⟩:=I.pin p hp
  have nch:p.1∉ch:=λz=>(hch p.1 z).2.2.2 p hp rfl
  exact ⟨keep p.1 p.2 ne nf nch e n,free p.1 p.2 nch e n,ne,nf,d⟩
theorem Inv.un {t':Nat} (I:Inv X pins σ H s) (u:Un X.fs [] H H' s.heap h') (hok:HOk X.prog X.w H' h'):Inv X pins σ H' { s with heap:=h',toks:=t' }:=by
 obtain ⟨m,⟨o,es,ep,ho,r⟩,_⟩:=id I.loc
 obtain ⟨sl,hL⟩:=u.any ho I.free (by simp)
 exact I.step (g' := s.gens) (d' := s.drawn) (ch:=[]) (λ_ z=>nomatch z) (λb o _ hb _ e n=>u.keep b o e n hb (by simp)) (λb o _ hb _ e n=>u.slot b o e n hb (by simp)) (λb o _ e n=>u.free b o e n (by simp)) (λb o _ e=>u.there b o e (by simp)) u.tups u.frzs u.tbls (λm' hm=>by
  obtain ⟨o',es',ep',ho',r'⟩:=hm
  rw [ho] at ho';cases ho'
  exact ⟨_,es',ep',hL,r'⟩) hok I.bare
theorem Inv.call {g':Array GenState} {t':Nat} {d':Drawn} {ch:List Addr} (I:Inv X pins σ H s) (u:Un (c6 X.stack) ch H H' s.heap h') (hok:HOk X.prog X.w H' h') (hg:AllBare g')
  (hch:∀ b∈ch,(b∈X.ex\/X.s₀.heap.objs.size<=b)/\b≠X.env.locals/\(∀ x c,X.env.cells.lookup x=some c->c≠b)/\∀ p∈X.pn++pins,p.1≠b) :
  Inv X pins σ H' { s with heap:=h',gens:=g',drawn:=d',toks:=t' }:=by
 obtain ⟨m,⟨o,es,ep,ho,r⟩,_⟩:=id I.loc
 obtain ⟨sl,hL⟩:=u.any ho I.free λz=>(hch _ z).2.1 rfl
 exact I.step (ch:=ch) hch (λb o hL hb hc e n=>u.keep b o e n (λz=>(J4.mp (I.stkSub b z)).elim hL hb) hc) (λb o _ _ hc e n=>u.any e n hc) (λb o hc e n=>u.free b o e n hc) (λb o hc e=>u.there b o e hc) u.tups u.frzs u.tbls (λm' hm=>by
  obtain ⟨o',es',ep',ho',r'⟩:=hm
  rw [ho] at ho';cases ho'
  exact ⟨_,es',ep',hL,r'⟩) hok hg
theorem Inv.turned {t':Nat} {it:Addr} (I:Inv X pins σ H s) (k:∀ b o,b≠it->s.heap.get? b=some o->h'.get? b=some o) (hn:H it=none) (hL:it≠X.env.locals)
  (h1:it∈X.ex\/X.s₀.heap.objs.size<=it) (h2:∀ x c,X.env.cells.lookup x=some c->c≠it) (h3:∀ p∈X.pn++pins,p.1≠it):Inv X pins σ H { s with heap:=h',toks:=t' }:=by
 have nit:∀ b u,H b=some u->b≠it:=λb u e z=>by rw [z,hn] at e;cases e
 refine I.step (g' := s.gens) (d' := s.drawn) (ch:=[it]) (λb hb=>?_) (λb o _ _ hc e _=>k b o (λz=>hc (by simp [z])) e) (λb o _ _ hc e _=>⟨o.slots,k b o (λz=>hc (by simp [z])) e⟩) (λ_ _ _ _ n=>n)
  (λb o hc e=>⟨o,k b o (λz=>hc (by simp [z])) e⟩) (λ_ _ e=>e) (λ_ _ _ e=>e) (λb ps e=>⟨#[],by rw [e];simp⟩) (λm hm=>?_) (λb u e=>?_) I.bare
 ·have e:b=it:=by simpa using hb
  subst e
  exact ⟨h1,hL,h2,h3⟩
 ·obtain ⟨o,es,ep,ho,r⟩:=hm
  exact ⟨o,es,ep,k _ o (Ne.symm hL) ho,r⟩
 ·refine (I.hok b u e).stay (λc v hc q=>k c v ?_ q) (λ_ q=>q) λ_ _ q=>q
  rcases hc with z | z
  ·rw [z];exact nit b u e
  ·exact nit c _ z
theorem Inv.tok (I:Inv X pins σ H s) (t:Nat):Inv X pins σ H { s with toks:=t }:=I.un (h' := s.heap) (t' := t) Un.refl I.hok
theorem Inv.kept {t':Nat} (I:Inv X pins σ H s) (k:∀ b u,s.heap.get? b=some u->h'.get? b=some u):Inv X pins σ H { s with heap:=h',toks:=t' }:=I.un (Un.kept k) (I.hok.kept k)
theorem Inv.laid {a:Addr} {o:HO} {t':Nat} (I:Inv X pins σ H s) (k:∀ b u,s.heap.get? b=some u->h'.get? b=some u) (hp:s.heap.objs.size<=a) (new:ObjOk X.prog X.w (aJ H a o) h' a o) :
  Inv X pins σ (aJ H a o) { s with heap:=h',toks:=t' }:=I.un (Un.laid k hp (I.hok.fresh hp)) (I.hok.laid k hp new)
theorem Inv.write {x e:Addr} {o:HO} {t':Nat} (I:Inv X pins σ H s) (mu:ko (H x)) (he:e=x\/H e=some (.own x)) (k:∀ b u,b≠e->s.heap.get? b=some u->h'.get? b=some u) (heo:∃ u,h'.get? e=some u)
  (new:ObjOk X.prog X.w (aJ H x o) h' x o):Inv X pins σ (aJ H x o) { s with heap:=h',toks:=t' }:=I.un (Un.write mu he k heo) (I.hok.write mu he k heo new)
theorem Inv.weak {σ':List (Option V)} (I:Inv X pins σ H s) (hl:σ'.length=σ.length) (w:∀ (i:Nat) v,σ'[i]? = some (some v)->σ[i]? = some (some v)):Inv X pins σ' H s :=
 ⟨I.ok,I.os,I.bare,I.base,let ⟨m,hn,hl'⟩:=I.loc;⟨m,hn,λi x v e1 e2 e3=>hl' i x v e1 (w i v e2) e3⟩,I.cell,I.free,I.freeC,I.pin,I.hok,hl.trans I.len⟩
theorem Inv.pins_of {pins':List (Addr×Obj)} (I:Inv X pins σ H s) (h:∀ p∈pins',s.heap.get? p.1=some p.2/\H p.1=none/\p.1≠X.env.locals/\p.1∉X.fs/\∀ v,p.2.data ≠ .cell v):Inv X pins' σ H s :=
 ⟨I.ok,I.os,I.bare,I.base,I.loc,I.cell,I.free,I.freeC,λp hp=>(JS.mp hp).elim (λz=>I.pin p (JO _ z)) (h p),I.hok,I.len⟩
theorem pB {N:List Str} (hN:N.Nodup) {i j:Nat} {x:Str} (a:N[i]? = some x) (b:N[j]? = some x):i=j:=by
 obtain ⟨h1,e1⟩:=JA.mp a
 obtain ⟨h2,e2⟩:=JA.mp b
 exact (List.getElem_inj hN).mp (e1.trans e2.symm)
theorem uO {M:Model} {A:Around} {E:Value->Shared->Prop} {i:Nat} {x:Str} {v:V} {u:Value} {Q:Unit->Shared->Prop} (I:Inv X pins σ H s) (hN:X.N.Nodup) (hi:X.N[i]? = some x) (hx:jJ X.env.scope x) (r:RelV v u)
  (h:∀ s',Inv X pins (σ.set i (some v)) H s'->(∃ a,Heap.SameBut a s.heap s'.heap/\(a=X.env.locals\/X.env.cells.lookup x=some a))->Q () s') (hf:X.fn x=true\/X.env.scope.names.lookup x=some .local:=by first | exact .inl rfl | exact .inr rfl | assumption):wpAny M A (storeName X.env x u) Q E s:=by
 obtain ⟨m,hn,hl⟩:=id I.loc
 have hcls:(X.env.scope.kind == .class || (X.env.scope.kind == .module && X.env.locals != X.env.globals))=false:=by rw [I.ok.kind];rfl
 have hiσ:i<σ.length:=by rw [I.len];exact (JA.mp hi).1
 have cne:=I.cne
 have tracked:∀ {a:Addr} {h':Heap},(∃ o,s.heap.get? a=some o/\H a=none)->Heap.SameBut a s.heap h'->HOk X.prog X.w H h' := λ{a h'} ha hs b ob e=>by
  obtain ⟨_,_,hfree⟩:=ha
  refine (I.hok b ob e).stay (λc w' hc q=>(hs.2 c ?_).trans q) (λ_ q=>q) λ_ _ q=>q
  rintro rfl
  rcases hc with rfl | hc
  ·rw [hfree] at e;cases e
  ·rw [hfree] at hc;cases hc
 rcases hx with hk | hk
 ·refine wpAny_storeName_local hk hn (λh' hn' hs=>?_) hcls
  obtain ⟨oL,_,_,hoL,_⟩:=id hn
  refine h _ ⟨I.ok,I.os,I.bare,⟨λb o e n hb hx=>?_,λb o e n hb hx=>?_,I.base.free,λb o e hx=>?_,I.base.tups,I.base.frzs,I.base.tbls⟩,⟨_,hn',λj y v' e1 e2 e3=>?_⟩,λy c e=>?_,I.free,I.freeC,λp hp=>?_,tracked ⟨oL,hoL,I.free⟩ hs,by simpa using I.len⟩ ⟨_,hs,.inl rfl⟩
  ·exact (hs.2 b (Ka (JZ (JR e) I.ok.above))).trans (I.base.keep b o e n hb hx)
  ·obtain ⟨sl,e1⟩:=I.base.slot b o e n hb hx
   exact ⟨sl,(hs.2 b (Ka (JZ (JR e) I.ok.above))).trans e1⟩
  ·obtain ⟨o',e1⟩:=I.base.there b o e hx
   exact ⟨o',(hs.2 b (Ka (JZ (JR e) I.ok.above))).trans e1⟩
  ·by_cases hj:j=i
   ·subst hj
    rw [hi] at e1;cases e1
    rw [J0 hiσ] at e2
    cases e2
    exact ⟨u,r,.inl ⟨hk,by simp⟩⟩
   ·rw [JX (Ne.symm hj)] at e2
    obtain ⟨u',r',q⟩:=hl j y v' e1 e2 e3
    refine ⟨u',r',?_⟩
    rcases q with ⟨k,e⟩ | ⟨k,c,e,z⟩
    ·refine .inl ⟨k,?_⟩
     have:y≠x:=λe=>hj (pB hN e1 (e▸hi))
     simp [this,e]
    ·exact .inr ⟨k,c,e,z.sameBut hs (cne y c e)⟩
  ·obtain ⟨w',z⟩:=I.cell y c e
   exact ⟨w',z.sameBut hs (cne y c e)⟩
  ·obtain ⟨e,n,ne,nf,d⟩:=I.pin p hp
   exact ⟨(hs.2 p.1 ne).trans e,n,ne,nf,d⟩
 ·have hfn:X.fn x=true:=by
   rcases hf with z | z
   ·exact z
   ·rw [z] at hk;cases hk
  obtain ⟨c,hc⟩:=I.ok.has x (.inl hk)
  obtain ⟨w',z⟩:=I.cell x c hc
  refine wpAny_storeName_cell I.ok.kind hk hc z (λh' hc' hs=>?_)
  obtain ⟨oc,hoc,hocd⟩:=id z
  refine h { s with heap:=h' } ⟨I.ok,I.os,I.bare,⟨λb o e n hb hx=>?_,λb o e n hb hx=>?_,I.base.free,λb o e hx=>?_,I.base.tups,I.base.frzs,I.base.tbls⟩,⟨m,hn.sameBut hs (Ne.symm (cne x c hc)),λj y v' e1 e2 e3=>?_⟩,λy c' e=>?_,I.free,I.freeC,λp hp=>?_,tracked ⟨oc,hoc,I.freeC x c hc⟩ hs,by simpa using I.len⟩ ⟨c,hs,.inr hc⟩
  ·exact (hs.2 b (Ka (JZ (JR e) (I.ok.cab x c hfn hc)))).trans (I.base.keep b o e n hb hx)
  ·obtain ⟨sl,e1⟩:=I.base.slot b o e n hb hx
   exact ⟨sl,(hs.2 b (Ka (JZ (JR e) (I.ok.cab x c hfn hc)))).trans e1⟩
  ·obtain ⟨o',e1⟩:=I.base.there b o e hx
   exact ⟨o',(hs.2 b (Ka (JZ (JR e) (I.ok.cab x c hfn hc)))).trans e1⟩
  ·by_cases hj:j=i
   ·subst hj
    rw [hi] at e1;cases e1
    rw [J0 hiσ] at e2
    cases e2
    exact ⟨u,r,.inr ⟨.inl hk,c,hc,hc'⟩⟩
   ·rw [JX (Ne.symm hj)] at e2
    obtain ⟨u',r',q⟩:=hl j y v' e1 e2 e3
    refine ⟨u',r',?_⟩
    rcases q with q | ⟨k,c',e,z'⟩
    ·exact .inl q
    ·refine .inr ⟨k,c',e,z'.sameBut hs ?_⟩
     rintro rfl
     exact hj (pB hN e1 (I.ok.inj _ _ _ e hc▸hi))
  ·by_cases hcc:c'=c
   ·subst hcc;exact ⟨_,hc'⟩
   ·obtain ⟨w2,z2⟩:=I.cell y c' e
    exact ⟨w2,z2.sameBut hs hcc⟩
  ·obtain ⟨e,n,ne,nf,d⟩:=I.pin p hp
   refine ⟨(hs.2 p.1 ?_).trans e,n,ne,nf,d⟩
   intro q
   rw [q,hoc] at e
   have q':oc=p.2:=Kp e
   exact d w' (by rw [<- q'];exact hocd)
theorem uP {M:Model} {A:Around} {E:Value->Shared->Prop} {i:Nat} {x:Str} {v:V} {u:Value} {Q:Unit->Shared->Prop} (I:Inv X pins σ H s) (hN:X.N.Nodup) (hi:X.N[i]? = some x) (hx:jJ X.env.scope x) (r:RelV v u)
  (h:∀ s',Inv X pins (σ.set i (some v)) H s'->Q () s') (hf:X.fn x=true\/X.env.scope.names.lookup x=some .local:=by first | exact .inl rfl | exact .inr rfl | assumption):wpAny M A (storeName X.env x u) Q E s :=
 uO I hN hi hx r (λs' I' _=>h s' I') hf
theorem Inv.call' {s':Shared} {ch:List Addr} (I:Inv X pins σ H s) (ho:s'.os=s.os) (u:Un (c6 X.stack) ch H H' s.heap s'.heap) (hok:HOk X.prog X.w H' s'.heap) (hg:AllBare s'.gens)
  (hch:∀ b∈ch,(b∈X.ex\/X.s₀.heap.objs.size<=b)/\b≠X.env.locals/\(∀ x c,X.env.cells.lookup x=some c->c≠b)/\∀ p∈X.pn++pins,p.1≠b):Inv X pins σ H' s' := by
 obtain ⟨h',g',d',t',o'⟩:=s'
 have e:o'=s.os:=ho
 subst e
 exact I.call (g' := g') (t' := t') (d' := d') u hok hg hch
end
noncomputable abbrev XK:=Value->Option Addr->Hp->Prop
noncomputable abbrev St:=List (Option V)
noncomputable abbrev VK:=V->Hp->Prop
noncomputable abbrev TE:=St->Hp->VK->Prop
noncomputable abbrev TT:=St->Hp->(Bool->Hp->Prop)->Prop
noncomputable abbrev TA:=St->Hp->(List V->Hp->Prop)->Prop
set_option genInjectivity false in
structure cU where
 nx:St->Hp->Prop
 rt:VK
 bk:St->Hp->Prop:=λ_ _=>False
 ct:St->Hp->Prop:=λ_ _=>False
noncomputable abbrev TS:=cU->St->Hp->Prop
noncomputable def EP (X:Cx) (pins:List (Addr×Obj)) (σ:St) (Q:VK) (u:Value) (s':Shared):Prop:=∃ v H',Inv X pins σ H' s'/\RelV v u/\Q v H'
noncomputable def TP (X:Cx) (pins:List (Addr×Obj)) (σ:St) (Q:Bool->Hp->Prop) (b:Bool) (s':Shared):Prop:=∃ H',Inv X pins σ H' s'/\Q b H'
noncomputable def AP (X:Cx) (pins:List (Addr×Obj)) (σ:St) (Q:List V->Hp->Prop) (us:List Value) (s':Shared):Prop:=∃ vs H',Inv X pins σ H' s'/\Vals vs us/\Q vs H'
noncomputable def SP (X:Cx) (pins:List (Addr×Obj)) (D:cU) (f:Flow) (s':Shared):Prop :=
 match f with
 | .next=>∃ σ' H',Inv X pins σ' H' s'/\D.nx σ' H'
 | .brk=>∃ σ' H',Inv X pins σ' H' s'/\D.bk σ' H'
 | .cont=>∃ σ' H',Inv X pins σ' H' s'/\D.ct σ' H'
 | .ret u=>∃ v σ' H',Inv X pins σ' H' s'/\RelV v u/\D.rt v H'
noncomputable def PE (X:Cx) (e:Expr) (t:TE):Prop :=
 ∀ (pins:List (Addr×Obj)) (s:Shared) (σ:St) (H:Hp) (Q:VK),Inv X pins σ H s->t σ H Q->wpAny (model X.prog X.w) X.A (eval e X.env) (EP X pins σ Q) X.xe s
noncomputable def PT (X:Cx) (e:Expr) (t:TT):Prop :=
 ∀ (pins:List (Addr×Obj)) (s:Shared) (σ:St) (H:Hp) (Q:Bool->Hp->Prop),Inv X pins σ H s->t σ H Q->wpAny (model X.prog X.w) X.A (isTrue e X.env (eval e X.env)) (TP X pins σ Q) X.xe s
noncomputable def PW (X:Cx) (e:Expr) (t:TT):Prop :=
 ∀ (whole:Sem Value) (pins:List (Addr×Obj)) (s:Shared) (σ:St) (H:Hp) (Q:Bool->Hp->Prop),Inv X pins σ H s->t σ H Q->wpAny (model X.prog X.w) X.A (isTrue e X.env whole) (TP X pins σ Q) X.xe s
theorem PW.pt {X:Cx} {e:Expr} {t:TT} (h:PW X e t):PT X e t:=h _
noncomputable def PA (X:Cx) (es:List Expr) (t:TA):Prop :=
 ∀ (pos:Pos) (pins:List (Addr×Obj)) (s:Shared) (σ:St) (H:Hp) (Q:List V->Hp->Prop),Inv X pins σ H s->t σ H Q->wpAny (model X.prog X.w) X.A (spliced (backTo pos (starEach es X.env))) (AP X pins σ Q) X.xe s
noncomputable def PS (X:Cx) (st:Stmt) (t:TS):Prop :=
 ∀ (pins:List (Addr×Obj)) (s:Shared) (σ:St) (H:Hp) (D:cU),Inv X pins σ H s->t D σ H->wpAny (model X.prog X.w) X.A (exec st X.env) (SP X pins D) X.xe s
noncomputable def ft (X:Cx) (st:List Stmt) (t:TS):Prop :=
 ∀ (pins:List (Addr×Obj)) (s:Shared) (σ:St) (H:Hp) (D:cU),Inv X pins σ H s->t D σ H->wpAny (model X.prog X.w) X.A (execs st X.env) (SP X pins D) X.xe s
theorem thn {α:Type} {t:Sem α} {Q Q':α->Shared->Prop} {M:Model} {A:Around} {E:Value->Shared->Prop} {s:Shared} (h:wpAny M A t Q E s) (hQ:∀ a s,Q a s->Q' a s):wpAny M A t Q' E s:=Ku h hQ λ_ _ x=>x
end L2
namespace L2
open PySem PySem.Spec PyProof.Rows
section
variable {X:Cx}
noncomputable def kq (i:Nat):TE:=λσ H Q=>∃ v,σ[i]? = some (some v)/\Q v H
noncomputable def tC (v:V):TE:=λ_ H Q=>Q v H
theorem zB {i:Nat} {x:Str} {pos:Pos} (hN:X.N[i]? = some x) (hv:gy X.env.scope x) (hd:(x == ("__debug__" : Str))=false:=by decide) (hcd:(x == ("__classdict__" : Str))=false:=by decide):PE X (.Name x pos) (kq i):=by
 intro pins s σ H Q I h
 obtain ⟨v,e,h⟩:=h
 obtain ⟨m,hn,hl⟩:=I.loc
 obtain ⟨u,r,l⟩:=hl i x v hN e hv
 have fin:EP X pins σ Q u s:=⟨v,H,I,r,h⟩
 rcases l with ⟨hk,hm⟩ | ⟨hk,c,hc,hcell⟩
 ·exact NH (OE I.ok.kind hk hn hm fin) hd
 ·rcases hk with hk | hk
  ·exact NH (OO I.ok.kind hk hc hcell fin) hd
  ·exact NH (OP I.ok.kind hk hc hcell fin hcd) hd
theorem zC {i j pos}:PE X (.Constant (.int i) j pos) (tC (.int i)):=λ_ _ _ H _ I h=>wpAny_Constant_int ⟨.int i,H,I.tok _,⟨_,rfl⟩,h⟩
theorem zD {b j pos}:PE X (.Constant (.bool b) j pos) (tC (.bl b)):=λ_ _ _ H _ I h=>Constant_bool ⟨.bl b,H,I,rfl,h⟩
theorem zE {x j pos}:PE X (.Constant (.str x) j pos) (tC (.str x)):=λ_ _ _ H _ I h=>Calls.Constant_str ⟨.str x,H,I.tok _,⟨_,rfl⟩,h⟩
noncomputable def Gl (X:Cx) (x:Str):Prop:=X.env.kindOf x=some .globalImplicit
theorem mG {E:Value->Shared->Prop} {pins:List (Addr×Obj)} {s:Shared} {σ:St} {H:Hp} {x:Str} {u:Value} {pos:Pos} {Q:Value->Shared->Prop} (I:Inv X pins σ H s) (hg:Gl X x) (hm:X.mg x=some u) (h:Q u s)
  (hd:(x == ("__debug__" : Str))=false:=by decide):wpAny (model X.prog X.w) X.A (eval (.Name x pos) X.env) Q E s :=
 Nu I.ok.kind hg (Calls.loadGlobal_global (by rw [I.ok.glob];exact I.mod.glob.keeps I.bk) hm h) hd
theorem fG {E:Value->Shared->Prop} {pins:List (Addr×Obj)} {s:Shared} {σ:St} {H:Hp} {x:Str} {u:Value} {pos:Pos} {Q:Value->Shared->Prop} (I:Inv X pins σ H s) (hg:Gl X x) (hm:X.mg x=none) (hv:bootBuiltins x=some u) (h:Q u s)
  (hn:x ≠ "__name__" := by decide) (hd:(x == ("__debug__" : Str))=false:=by decide):wpAny (model X.prog X.w) X.A (eval (.Name x pos) X.env) Q E s:=by
 obtain ⟨mb,h1,h2⟩:=I.mod.blt
 exact Nu I.ok.kind hg (Calls.loadGlobal_builtin (by rw [I.ok.glob];exact I.mod.glob.keeps I.bk) hm (by rw [I.ok.blt];exact h1.keeps I.bk) ((h2 x hn).trans hv) h) hd
theorem zF {x:Str} {v:V} {u:Value} {pos:Pos} (hg:Gl X x) (hm:X.mg x=some u) (r:RelV v u) (hd:(x == ("__debug__" : Str))=false:=by decide):PE X (.Name x pos) (tC v) :=
 λ_ _ _ H _ I h=>mG I hg hm ⟨v,H,I,r,h⟩ hd
theorem zG {x:Str} {v:V} {u:Value} {pos:Pos} (hg:Gl X x) (hm:X.mg x=none) (hv:bootBuiltins x=some u) (r:RelV v u) (hn:x ≠ "__name__" := by decide) (hd:(x == ("__debug__" : Str))=false:=by decide):PE X (.Name x pos) (tC v) :=
 λ_ _ _ H _ I h=>fG I hg hm hv ⟨v,H,I,r,h⟩ hn hd
variable {a b:Expr} {ta tb:TE} {pos:Pos}
variable {tA tB':TT} {rest:List Expr}
noncomputable def zH (t u:TT):TT:=λσ H Q=>t σ H λc H1=>if c=true then Q true H1 else u σ H1 Q
noncomputable def pC (t:TT):TT:=λσ H Q=>t σ H λc H1=>Q (!c) H1
theorem zI (ha:PT X a tA):PW X (.BoolOp .Or [a] pos) tA:=by
 intro wh pins s σ H Q I h
 refine isTrue_or (thn (ha pins s σ H Q I h) λc s1 e=>?_)
 cases c with
 | false=>exact isTrue_or_nil e
 | true=>exact e
theorem zJ (ha:PT X a tA) (hb:PW X (.BoolOp .Or (b::rest) pos) tB'):PW X (.BoolOp .Or (a::b::rest) pos) (zH tA tB'):=by
 intro wh pins s σ H Q I h
 refine isTrue_or (thn (ha pins s σ H _ I h) λc s1 Zz=>?_);obtain ⟨H1,I1,q1⟩:=Zz
 cases c with
 | true=>exact ⟨H1,I1,q1⟩
 | false=>exact hb wh pins s1 σ H1 Q I1 q1
theorem zK (ha:PT X a tA):PT X (.UnaryOp .Not a pos) (pC tA):=by
 intro pins s σ H Q I h
 exact isTrue_not (ha pins s σ H (λc H1=>Q (!c) H1) I h)
noncomputable def zL (ta tb:TE):TE:=λσ H Q=>ta σ H λx H1=>∃ c,x = .bl c/\if c=true then tb σ H1 Q else Q (.bl false) H1
noncomputable def pD (ta tb:TE):TE:=λσ H Q=>ta σ H λx H1=>∃ c,x = .bl c/\if c=true then Q (.bl true) H1 else tb σ H1 Q
noncomputable def zM (ta:TE):TE:=λσ H Q=>ta σ H λx H1=>∃ c,x = .bl c/\Q (.bl (!c)) H1
theorem zN {op} {t:TE} (h:PE X a t):PE X (.BoolOp op [a] pos) t:=λpins s σ H Q I hw=>BoolOp_one (h pins s σ H Q I hw)
theorem zO (ha:PE X a ta) (hb:PE X (.BoolOp .And (b::rest) pos) tb):PE X (.BoolOp .And (a::b::rest) pos) (zL ta tb):=by
 intro pins s σ H Q I h
 refine BoolOp_and (thn (ha pins s σ H _ I h) λv s1 Zz=>?_);obtain ⟨x,H1,I1,r1,q1⟩:=Zz
 obtain ⟨c,rfl,q1⟩:=q1
 cases r1
 refine Lv ?_
 cases c with
 | true=>exact hb pins s1 σ H1 Q I1 q1
 | false=>exact ⟨.bl false,H1,I1,rfl,q1⟩
theorem zP (ha:PE X a ta) (hb:PE X (.BoolOp .Or (b::rest) pos) tb):PE X (.BoolOp .Or (a::b::rest) pos) (pD ta tb):=by
 intro pins s σ H Q I h
 refine BoolOp_or (thn (ha pins s σ H _ I h) λv s1 Zz=>?_);obtain ⟨x,H1,I1,r1,q1⟩:=Zz
 obtain ⟨c,rfl,q1⟩:=q1
 cases r1
 refine Lv ?_
 cases c with
 | false=>exact hb pins s1 σ H1 Q I1 q1
 | true=>exact ⟨.bl true,H1,I1,rfl,q1⟩
theorem zQ (ha:PE X a ta):PE X (.UnaryOp .Not a pos) (zM ta):=by
 intro pins s σ H Q I h
 refine UnaryOp_ (thn (ha pins s σ H _ I h) λv s1 Zz=>?_);obtain ⟨x,H1,I1,r1,q1⟩:=Zz
 obtain ⟨c,rfl,q1⟩:=q1
 cases r1
 exact not_of (Lv ⟨.bl (!c),H1,I1,rfl,q1⟩)
end
end L2
namespace L2
open PySem PySem.Spec PyProof.Rows
noncomputable def SqL (K:PySem.W.Frag) (H:Hp) (a:Addr) (xs:List V):Prop :=
 Rd H a (.lst xs) \/
  ∃ (o:Obj) (its:Array Value) (n:Nat),K.lookup a=some o/\o.cls = .type "list" /\ o.dict=none/\o.data = .seq its n/\its.size<=sizeLine/\Vals xs its.toList
noncomputable def SqT (K:PySem.W.Frag) (H:Hp) (a:Addr) (xs:List V):Prop :=
 Rd H a (.tup xs) \/
  ∃ (o:Obj) (its:Array Value) (n:Nat),K.lookup a=some o/\o.cls = .type "tuple" /\ o.data = .seq its n/\its.size<=sizeLine/\Vals xs its.toList
noncomputable def pE:Value->Option V
 | .none=>some .non
 | .bool b=>some (.bl b)
 | .int i _=>some (.int i)
 | .str x _=>some (.str x)
 | .bytes b _=>some (.byt b)
 | .float b _=>some (.flt b)
 | .ref a=>some (.ref a)
 | .type n=>some (.ty n)
 | _=>none
theorem RelV.abs {x:V} {u:Value} (r:RelV x u):pE u=some x:=by
 cases x with
 | non=>cases r;rfl
 | bl _=>cases r;rfl
 | int _=>obtain ⟨t,rfl⟩:=r;rfl
 | str _=>obtain ⟨t,rfl⟩:=r;rfl
 | byt _=>obtain ⟨t,rfl⟩:=r;rfl
 | flt _=>obtain ⟨t,rfl⟩:=r;rfl
 | ref _=>cases r;rfl
 | ty _=>cases r;rfl
theorem RelV.inj {x y:V} {u:Value} (r:RelV x u) (q:RelV y u):x=y:=Kp (r.abs.symm.trans q.abs)
theorem Vals.inj:∀ {xs ys:List V} {us:List Value},Vals xs us->Vals ys us->xs=ys
 | _,_,_,.nil,.nil=>rfl
 | _,_,_,.cons r t,.cons r' t' => by rw [r.inj r',Vals.inj t t']
section
variable {X:Cx} {pins:List (Addr×Obj)} {σ:St} {H:Hp} {s:Shared} {a:Addr} {xs ys:List V}
theorem SqL.of {K:PySem.W.Frag} (h:H a=some (.lst xs)):SqL K H a xs:=.inl (.inl h)
theorem SqT.of {K:PySem.W.Frag} (h:H a=some (.tup xs)):SqT K H a xs:=.inl (.inl h)
theorem Inv.list (I:Inv X pins σ H s) (h:SqL X.K H a xs):∃ its:List Value,Vals xs its/\PlainL s.heap a its.toArray/\xs.length<=sizeLine:=by
 rcases h with h | ⟨o,its,n,hk,hc,hd,hs,hz,r⟩
 ·obtain ⟨z,its,n,r,e⟩:=h.ok I.hok
  exact ⟨its,r,⟨_,n,e,rfl,rfl,rfl⟩,z⟩
 ·refine ⟨its.toList,r,⟨o,n,I.kIn a o hk,hc,hd,by simpa using hs⟩,?_⟩
  have e:=r.length
  simp only [JQ] at e
  lia
theorem Inv.tuple (I:Inv X pins σ H s) (h:SqT X.K H a xs):∃ its:List Value,Vals xs its/\IsTup s.heap a its.toArray/\xs.length<=sizeLine:=by
 rcases h with h | ⟨o,its,n,hk,hc,hs,hz,r⟩
 ·obtain ⟨z,its,r,p⟩:=h.ok I.hok
  exact ⟨its,r,p,z⟩
 ·refine ⟨its.toList,r,⟨o,I.kIn a o hk,hc,n,by simpa using hs⟩,?_⟩
  have e:=r.length
  simp only [JQ] at e
  lia
theorem Inv.list_inj (I:Inv X pins σ H s) (h:SqL X.K H a xs) (h':SqL X.K H a ys):xs=ys:=by
 obtain ⟨its,r,⟨o,n,e,_,_,d⟩,_⟩:=I.list h
 obtain ⟨its',r',⟨o',n',e',_,_,d'⟩,_⟩:=I.list h'
 rw [e] at e';cases e'
 rw [d] at d'
 injection d' with d1 _
 have:its=its' := by simpa using congrArg Array.toList d1
 subst this
 exact r.inj r'
theorem Inv.tuple_inj (I:Inv X pins σ H s) (h:SqT X.K H a xs) (h':SqT X.K H a ys):xs=ys:=by
 obtain ⟨its,r,⟨o,e,_,n,d⟩,_⟩:=I.tuple h
 obtain ⟨its',r',⟨o',e',_,n',d'⟩,_⟩:=I.tuple h'
 rw [e] at e';cases e'
 rw [d] at d'
 injection d' with d1 _
 have:its=its' := by simpa using congrArg Array.toList d1
 subst this
 exact r.inj r'
end
noncomputable abbrev Cx.wish (X:Cx) (E:Value->Shared->Prop):Cx:={ X with xe:=E }
noncomputable abbrev Cx.nox (X:Cx):Cx:=X.wish λ_ _=>False
theorem Cx.Ok.wish {X:Cx} (ok:X.Ok) (E:Value->Shared->Prop):(X.wish E).Ok :=
 ⟨ok.mod,ok.kind,ok.glob,ok.blt,ok.above,ok.inj,ok.has,ok.cab,ok.hd,ok.frames,ok.stk,ok.exf,ok.bs,ok.bsz,ok.noex,ok.exfs,ok.funs,ok.frf⟩
theorem Cx.Ok.unwish {X:Cx} {E:Value->Shared->Prop} (ok:(X.wish E).Ok):X.Ok :=
 ⟨ok.mod,ok.kind,ok.glob,ok.blt,ok.above,ok.inj,ok.has,ok.cab,ok.hd,ok.frames,ok.stk,ok.exf,ok.bs,ok.bsz,ok.noex,ok.exfs,ok.funs,ok.frf⟩
section
variable {X:Cx} {pins:List (Addr×Obj)} {σ:St} {H:Hp} {s:Shared} {E:Value->Shared->Prop}
theorem Inv.wish (I:Inv X pins σ H s) (E:Value->Shared->Prop):Inv (X.wish E) pins σ H s:=⟨I.ok.wish E,I.os,I.bare,I.base,I.loc,I.cell,I.free,I.freeC,I.pin,I.hok,I.len⟩
theorem Inv.unwish (I:Inv (X.wish E) pins σ H s):Inv X pins σ H s:=⟨I.ok.unwish,I.os,I.bare,I.base,I.loc,I.cell,I.free,I.freeC,I.pin,I.hok,I.len⟩
theorem SP.unwish {D:cU} {f:Flow} {s':Shared} (h:SP (X.wish E) pins D f s'):SP X pins D f s' := by
 cases f with
 | next=>obtain ⟨σ',H',I,q⟩:=h;exact ⟨σ',H',I.unwish,q⟩
 | brk=>obtain ⟨σ',H',I,q⟩:=h;exact ⟨σ',H',I.unwish,q⟩
 | cont=>obtain ⟨σ',H',I,q⟩:=h;exact ⟨σ',H',I.unwish,q⟩
 | ret u=>obtain ⟨v,σ',H',I,r,q⟩:=h;exact ⟨v,σ',H',I.unwish,r,q⟩
end
section
variable {X:Cx} {st:Stmt} {rest:List Stmt} {t u:TS} {e:Expr} {te:TE} {pos:Pos}
noncomputable def zR:TS:=λD σ H=>D.nx σ H
noncomputable def pF (t u:TS):TS:=λD σ H=>t { D with nx:=u D } σ H
theorem zS:ft X [] zR:=λ_ _ σ H _ I h=>Nm ⟨σ,H,I,h⟩
theorem zT (h1:PS X st t) (h2:ft X rest u):ft X (st::rest) (pF t u):=by
 intro pins s σ H D I h
 refine wpAny_execs_cons (thn (h1 pins s σ H { D with nx:=u D } I h) λf s1 q=>?_)
 cases f with
 | next =>
  obtain ⟨σ',H',I',q⟩:=q
  exact h2 pins s1 σ' H' D I' q
 | ret v=>exact q
 | brk=>exact q
 | cont=>exact q
theorem zU (h1:PS X st t):ft X [st] t:=by
 intro pins s σ H D I h
 refine wpAny_execs_cons (thn (h1 pins s σ H D I h) λf s1 q=>?_)
 cases f with
 | next=>exact Nm q
 | ret v=>exact q
 | brk=>exact q
 | cont=>exact q
theorem Inv.quiet {pins:List (Addr×Obj)} {σ:St} {H:Hp} {s:Shared} (I:Inv X pins σ H s):interactive X.env=false:=by simp [interactive,I.ok.kind]
noncomputable def zV (te:TE):TS:=λD σ H=>te σ H λ_ H1=>D.nx σ H1
theorem zW (he:PE X e te) (hs:swapsWith e none pos.line X.env=pure false:=by rfl):PS X (.Expr e pos) (zV te):=by
 intro pins s σ H D I h
 exact wpAny_Expr_any (thn (he pins s σ H _ I h) λv s1 ⟨x,H1,I1,r1,q1⟩=>⟨σ,H1,I1,q1⟩) I.quiet hs
noncomputable def pG (te:TE):TS:=λD σ H=>te σ H D.rt
theorem zX (he:PE X e te):PS X (.Return (some e) pos) (pG te):=by
 intro pins s σ H D I h
 exact wpAny_Return_some (thn (he pins s σ H _ I h) λv s1 ⟨x,H1,I1,r1,q1⟩=>⟨x,σ,H1,I1,r1,q1⟩)
noncomputable def pH (c:TT) (t u:TS):TS:=λD σ H=>c σ H λb H1=>if b=true then t D σ H1 else u D σ H1
theorem zY {c:Expr} {a b:List Stmt} {tc:TT} (hc:PT X c tc) (ha:ft X a t) (hb:ft X b u):PS X (.If c a b pos) (pH tc t u):=by
 intro pins s σ H D I h
 refine wpAny_If (thn (hc pins s σ H _ I h) λd s1 Zz=>?_);obtain ⟨H1,I1,q1⟩:=Zz
 cases d with
 | true=>exact ha pins s1 σ H1 D I1 q1
 | false=>exact hb pins s1 σ H1 D I1 q1
end
noncomputable abbrev TG:=V->St->Hp->(St->Hp->Prop)->Prop
noncomputable def PG (X:Cx) (target:Expr) (t:TG):Prop :=
 ∀ (pins:List (Addr×Obj)) (s:Shared) (σ:St) (H:Hp) (v:V) (u:Value) (Q:St->Hp->Prop),Inv X pins σ H s->RelV v u->t v σ H Q ->
  wpAny (model X.prog X.w) X.A (assign target X.env u) (λ_ s' => ∃ σ' H',Inv X pins σ' H' s'/\Q σ' H') X.xe s
noncomputable abbrev i6:=V->V->V->Hp->(Hp->Prop)->Prop
noncomputable def kr (X:Cx) (t:i6):Prop :=
 ∀ (pins:List (Addr×Obj)) (s:Shared) (σ:St) (H:Hp) (o i v:V) (ov iv u:Value) (Q:Hp->Prop),Inv X pins σ H s->RelV o ov->RelV i iv->RelV v u->t o i v H Q ->
  wpAny (model X.prog X.w) X.A (setItem ov iv u) (λ_ s' => ∃ H',Inv X pins σ H' s'/\Q H') X.xe s
section
variable {X:Cx} {pos:Pos}
noncomputable def jK (i:Nat):TG:=λv σ H Q=>Q (σ.set i (some v)) H
theorem uQ {i:Nat} {x:Str} (hN:X.N.Nodup) (hi:X.N[i]? = some x) (hx:jJ X.env.scope x) (hf:X.fn x=true\/X.env.scope.names.lookup x=some .local:=by first | exact .inl rfl | exact .inr rfl | assumption):PG X (.Name x pos) (jK i):=by
 intro pins s σ H v u Q I r h
 exact Pk (uP I hN hi hx r (λs' I' => ⟨_,H,I',h⟩) hf)
noncomputable def pI (to ti:TE) (t:i6):TG:=λv σ H Q=>to σ H λo H1=>ti σ H1 λi H2=>t o i v H2 λH3=>Q σ H3
theorem zZ {o i:Expr} {to ti:TE} {t:i6} (ho:PE X o to) (hi:PE X i ti) (hs:kr X t)
  (ha:∀ v,assign (.Subscript o i pos) X.env v=(do
   let ov <- holding [v] (eval o X.env)
   let iv <- holding [v,ov] (eval i X.env)
   standAt pos
   holding [v,ov,iv] (setItem ov iv v)
   release [v,ov,iv] []):=by intro _;rfl):PG X (.Subscript o i pos) (pI to ti t):=by
 intro pins s σ H v u Q I r h
 rw [ha]
 refine Jz (KD (thn (ho pins s σ H _ I h) λov s1 Zz=>?_));obtain ⟨x,H1,I1,r1,q1⟩:=Zz
 refine Jz (KD (thn (hi pins s1 σ H1 _ I1 q1) λiv s2 Zz=>?_));obtain ⟨y,H2,I2,r2,q2⟩:=Zz
 refine Jz (OT (Jz (KD (thn (hs pins s2 σ H2 x y v ov iv u _ I2 r1 r2 r q2) λ_ s3 Zz=>?_))));obtain ⟨H3,I3,q3⟩:=Zz
 exact wpAny_release ⟨σ,H3,I3,q3⟩
noncomputable def gS (te:TE) (g:TG):TS:=λD σ H=>te σ H λx H1=>g x σ H1 D.nx
theorem z7 {tg e:Expr} {te:TE} {g:TG} (he:PE X e te) (hg:PG X tg g) (hs:swapsWithSole [tg] e pos.line X.env=pure false:=by rfl) (hw:swappedStores [tg] e X.env=pure none:=by rfl)
  (h1:(assignEach [tg] X.env).map (·.2)=[assign tg X.env]:=by rfl):PS X (.Assign [tg] e pos) (gS te g):=by
 intro pins s σ H D I h
 refine wpAny_Assign_stores (thn (he pins s σ H _ I h) λv s1 Zz=>?_) hs hw;obtain ⟨x,H1,I1,r1,q1⟩:=Zz
 rw [h1]
 exact thn (hg pins s1 σ H1 x v _ I1 r1 q1) λ_ s2 q=>q
theorem z8 {i:Nat} {x:Str} {e:Expr} {te:TE} {pos':Pos} (hN:X.N.Nodup) (hi:X.N[i]? = some x) (hx:jJ X.env.scope x) (he:PE X e te) (hs:swapsWith e (some (.Name x pos')) pos.line X.env=pure false:=by rfl) (hf:X.fn x=true\/X.env.scope.names.lookup x=some .local:=by first | exact .inl rfl | exact .inr rfl | assumption) :
  PS X (.Assign [.Name x pos'] e pos) (gS te (jK i)):=by
 intro pins s σ H D I h
 refine wpAny_Assign_Name (thn (he pins s σ H _ I h) λv s1 Zz=>?_) hs;obtain ⟨y,H1,I1,r1,q1⟩:=Zz
 exact uP I1 hN hi hx r1 (λs2 I2=>⟨_,H1,I2,q1⟩) hf
end
section
variable {X:Cx} {pos:Pos}
noncomputable def z9 (c:TT) (tb:TS):TS:=λD σ H=>∃ W:Nat->St->Hp->Prop,(∃ m,W m σ H)/\∀ m σ H,W m σ H ->
 c σ H λb H1=>if b=true then ∃ N:St->Hp->Prop,(∀ σ' H',N σ' H'->∃ m',m'<m/\W m' σ' H')/\tb { D with nx:=N,ct:=N,bk:=D.nx } σ H1 else D.nx σ H1
theorem Aa {c:Expr} {body:List Stmt} {tc:TT} {tb:TS} (hp:PassesOwn (model X.prog X.w) X.A X.env X.xe) (hc:PT X c tc) (hb:ft X body tb):PS X (.While c body [] pos) (z9 tc tb):=by
 intro pins s σ H D I h
 obtain ⟨W,⟨m0,w0⟩,turn⟩:=h
 refine wpAny_While (codeAny_whileLoop (λn s' => ∃ σ' H',Inv X pins σ' H' s'/\W n σ' H') ?_ m0 ⟨σ,H,I,w0⟩)
 rintro n s1 ⟨σ1,H1,I1,w1⟩
 refine LC hp (thn (hc pins s1 σ1 H1 _ I1 (turn n σ1 H1 w1)) λb s2 Zz=>?_);obtain ⟨H2,I2,q2⟩:=Zz
 cases b with
 | true =>
  obtain ⟨N,hN,q2⟩:=q2
  rw [JG rfl]
  refine LC hp (thn (hb pins s2 σ1 H2 _ I2 q2) λf s3 q3=>?_)
  cases f with
  | next =>
   obtain ⟨σ3,H3,I3,n3⟩:=q3
   obtain ⟨m',hm,w3⟩:=hN σ3 H3 n3
   exact ⟨m',hm,σ3,H3,I3,w3⟩
  | cont =>
   obtain ⟨σ3,H3,I3,n3⟩:=q3
   obtain ⟨m',hm,w3⟩:=hN σ3 H3 n3
   exact ⟨m',hm,σ3,H3,I3,w3⟩
  | brk=>exact q3
  | ret v=>exact q3
 | false =>
  rw [JF JT]
  exact Nm ⟨σ1,H2,I2,q2⟩
end
set_option genInjectivity false in
structure It where
 go:Nat->Hp->Prop
 yld:Nat->Hp->V->Hp->Prop
 stop:Nat->Hp->Prop
noncomputable def cV (X:Cx) (pins:List (Addr×Obj)) (H:Hp) (b:Addr):Prop :=
 H b=none/\b≠X.env.locals/\b∉X.fs/\(b∈X.ex\/X.s₀.heap.objs.size<=b)/\(∀ x c,X.env.cells.lookup x=some c->c≠b)/\∀ p∈X.pn++pins,p.1≠b
theorem Inv.fpOk {X:Cx} {pins:List (Addr×Obj)} {σ:St} {H H':Hp} {s:Shared} {b:Addr} (I:Inv X pins σ H s) (hb:s.heap.objs.size<=b) (hn:H' b=none):cV X pins H' b:=by
 refine ⟨hn,O8 (JZ I.lt hb),I.nofs hb,.inr (JI I.sz hb),λx c e z=>?_,λp hp z=>?_⟩
 ·obtain ⟨v,q⟩:=I.cell x c e
  exact absurd (JZ q.lt (by rw [z];exact hb)) (LR _)
 ·exact absurd (JZ (JR (I.pin p hp).1) (by rw [z];exact hb)) (LR _)
structure d9 (P:Program) (w:World) (K:PySem.W.Frag) (tg:Expr) (J:It) (fp:List Addr) (it:Addr) (tn:Nat->Heap->Prop):Prop where
 mem:it∈fp
 obj:∀ i h,tn i h->∀ b∈fp,∃ o,h.get? b=some o/\∀ v,o.data ≠ .cell v
 keep:∀ i h h',tn i h->(∀ b∈fp,∀ o,h.get? b=some o->h'.get? b=some o)->tn i h'
 item:∀ (X:Cx),X.prog=P->X.w=w->X.K=K->X.calm=true->∀ (i:Nat) (pins:List (Addr×Obj)) (s:Shared) (σ:St) (H:Hp) (E:Value->Shared->Prop),Inv X pins σ H s->(∀ b∈fp,cV X pins H b)->tn i s.heap->J.go i H ->
  wpAny (model P w) X.A (pyNext (.ref it)) (λr s1=>∃ u,r=some u /\
   wpAny (model P w) X.A (letOwnedTupleGo tg (.ref it) u) (λ_ s2=>∃ x H',Inv X pins σ H' s2/\RelV x u/\J.yld i H x H'/\tn (i+1) s2.heap/\∀ b∈fp,H' b=none) E s1) E s
 done:∀ (X:Cx),X.prog=P->X.w=w->X.K=K->X.calm=true->∀ (i:Nat) (pins:List (Addr×Obj)) (s:Shared) (σ:St) (H:Hp) (E:Value->Shared->Prop),Inv X pins σ H s->(∀ b∈fp,cV X pins H b)->tn i s.heap->J.stop i H ->
  wpAny (model P w) X.A (pyNext (.ref it)) (λr s1=>r=none/\Inv X pins σ H s1) E s
 self:∀ (A:Around) (i:Nat) (s:Shared) (Q:Value->Shared->Prop) (E:Value->Shared->Prop),tn i s.heap->Q (.ref it) s->wpAny (model P w) A (pyIter (.ref it)) Q E s
noncomputable abbrev TI:=St->Hp->(It->Hp->Prop)->Prop
noncomputable def mH (X:Cx) (pins:List (Addr×Obj)) (σ:St) (tg:Expr) (R:It->Hp->Prop) (itv:Value) (s2:Shared):Prop :=
 ∃ (it:Addr) (fp:List Addr) (tn:Nat->Heap->Prop) (J:It) (H':Hp),itv = .ref it/\Inv X pins σ H' s2/\d9 X.prog X.w X.K tg J fp it tn/\tn 0 s2.heap/\(∀ b∈fp,cV X pins H' b)/\R J H'
noncomputable def PI (X:Cx) (tg iter:Expr) (wi:TI):Prop :=
 ∀ (pins:List (Addr×Obj)) (s:Shared) (σ:St) (H:Hp) (R:It->Hp->Prop),Inv X pins σ H s->wi σ H R ->
  wpAny (model X.prog X.w) X.A (eval iter X.env) (λv s1=>wpAny (model X.prog X.w) X.A (pyIter v) (mH X pins σ tg R) X.xe s1) X.xe s
theorem ku {M:Model} {A:Around} {E:Value->Shared->Prop} {s:Shared} {tg:Expr} {it:Addr} {u:Value} {o:Obj} {n:String} {vs:Array Value} {Q:Unit->Shared->Prop} (ho:s.heap.get? it=some o) (hc:o.cls = .type n) (hd:o.data = .fields vs)
  (hn:["enumerate", "zip", "dict_itemiterator", "dict_reverseitemiterator", "odict_iterator", "itertools.zip_longest", "itertools.pairwise"].contains n=false) (hQ:Q () s):wpAny M A (letOwnedTupleGo tg (.ref it) u) Q E s:=by
 unfold letOwnedTupleGo
 cases tg<;>first
  | exact JB hQ
  | (cases u<;>first
    | exact JB hQ
    | (refine Jz (Pv ho ?_)
       rw [hc,hd]
       show wpAny M A (if (["enumerate", "zip", "dict_itemiterator", "dict_reverseitemiterator", "odict_iterator", "itertools.zip_longest", "itertools.pairwise"].contains n && vs[0]? == some (rawInt _))=true then _ else _) Q E s
       rw [JF (by intro h;rw [hn,Bool.false_and] at h;cases h)]
       exact JB hQ))
noncomputable def mI (K:PySem.W.Frag) (a:Addr):It :=
 ⟨λi H=>∃ xs x,SqL K H a xs/\xs[i]? = some x,λi H x H' => H'=H/\∀ xs,SqL K H a xs->xs[i]? = some x,λi H=>∃ xs,SqL K H a xs/\xs.length<=i⟩
noncomputable def pJ (K:PySem.W.Frag) (a:Addr):It :=
 ⟨λi H=>∃ xs x,SqT K H a xs/\xs[i]? = some x,λi H x H' => H'=H/\∀ xs,SqT K H a xs->xs[i]? = some x,λi H=>∃ xs,SqT K H a xs/\xs.length<=i⟩
noncomputable def mJ (lo:Int) (n:Nat):It:=⟨λi _=>i<n,λi H x H' => H'=H/\x = .int (lo+i),λi _=>n<=i⟩
theorem Ab {P:Program} {w:World} {K:PySem.W.Frag} {tg:Expr} (a it:Addr):d9 P w K tg (mI K a) [it] it (λi h=>h.IsListIter it a i) where
 mem:=by simp
 obj:=λi h st b hb=>by
  have e:b=it:=by simpa using hb
  subst e
  obtain ⟨o,e,c,d⟩:=st
  exact ⟨o,e,λv z=>by rw [d] at z;cases z⟩
 keep:=λi h h' st k=>st.at λo e=>k it (by simp) o e
 item:=by
  intro X hP hw hK hc i pins s σ H E I hf st hg
  subst hP hw hK
  obtain ⟨xs,x,hq,hx⟩:=hg
  obtain ⟨its,rv,p,hz⟩:=I.list hq
  obtain ⟨u,hu,ru⟩:=rv.get hx
  obtain ⟨f0,f1,f2,f3,f4,f5⟩:=hf it (by simp)
  refine wpAny_pyNext_list_item st p.isList (x:=u) (by simpa using hu) λh' st' sb=>?_
  have I1:Inv X pins σ H { s with heap:=h' }:=I.turned (t' := s.toks) (λb o hb e=>(sb.2 b hb).trans e) f0 f1 f3 f4 f5
  obtain ⟨o,e,c,d⟩:=id st'
  exact ⟨u,rfl,ku (s:={ s with heap:=h' }) e c d (by decide) ⟨x,H,I1,ru,⟨rfl,λys hy=>by rw [I.list_inj hy hq];exact hx⟩,st',λb hb=>(hf b hb).1⟩⟩
 done:=by
  intro X hP hw hK hc i pins s σ H E I hf st hg
  subst hP hw hK
  obtain ⟨xs,hq,hx⟩:=hg
  obtain ⟨its,rv,p,hz⟩:=I.list hq
  obtain ⟨f0,f1,f2,f3,f4,f5⟩:=hf it (by simp)
  have hl:=rv.length
  exact wpAny_pyNext_list_end (I.ok.hd hc) st p.isList (by simp;lia) λh' eb=>⟨rfl,I.turned (t' := s.toks) (λb o hb e=>eb b o hb e) f0 f1 f3 f4 f5⟩
 self:=λ_ _ _ _ _ st h=>wpAny_pyIter_listiter st h
theorem Ac {P:Program} {w:World} {K:PySem.W.Frag} {tg:Expr} (a it:Addr):d9 P w K tg (pJ K a) [it] it (λi h=>h.IsTupleIter it a i) where
 mem:=by simp
 obj:=λi h st b hb=>by
  have e:b=it:=by simpa using hb
  subst e
  obtain ⟨o,e,c,d⟩:=st
  exact ⟨o,e,λv z=>by rw [d] at z;cases z⟩
 keep:=λi h h' st k=>st.at λo e=>k it (by simp) o e
 item:=by
  intro X hP hw hK hc i pins s σ H E I hf st hg
  subst hP hw hK
  obtain ⟨xs,x,hq,hx⟩:=hg
  obtain ⟨its,rv,p,hz⟩:=I.tuple hq
  obtain ⟨u,hu,ru⟩:=rv.get hx
  obtain ⟨f0,f1,f2,f3,f4,f5⟩:=hf it (by simp)
  refine wpAny_pyNext_tuple_item st (show s.heap.IsTuple a its.toArray from p) (x:=u) (by simpa using hu) λh' st' sb=>?_
  have I1:Inv X pins σ H { s with heap:=h' }:=I.turned (t' := s.toks) (λb o hb e=>(sb.2 b hb).trans e) f0 f1 f3 f4 f5
  obtain ⟨o,e,c,d⟩:=id st'
  exact ⟨u,rfl,ku (s:={ s with heap:=h' }) e c d (by decide) ⟨x,H,I1,ru,⟨rfl,λys hy=>by rw [I.tuple_inj hy hq];exact hx⟩,st',λb hb=>(hf b hb).1⟩⟩
 done:=by
  intro X hP hw hK hc i pins s σ H E I hf st hg
  subst hP hw hK
  obtain ⟨xs,hq,hx⟩:=hg
  obtain ⟨its,rv,p,hz⟩:=I.tuple hq
  obtain ⟨f0,f1,f2,f3,f4,f5⟩:=hf it (by simp)
  have hl:=rv.length
  exact wpAny_pyNext_tuple_end (I.ok.hd hc) st (show s.heap.IsTuple a its.toArray from p) (by simp;lia) λh' eb=>⟨rfl,I.turned (t' := s.toks) (λb o hb e=>eb b o hb e) f0 f1 f3 f4 f5⟩
 self:=λ_ _ _ _ _ st h=>wpAny_pyIter_tupleiter st h
theorem Ad {P:Program} {w:World} {K:PySem.W.Frag} {tg:Expr} (it:Addr) (lo:Int) (n:Nat):d9 P w K tg (mJ lo n) [it] it (λi h=>IsRangeIter h it (lo+(i:Nat)*1) ((n:Int)-(i:Nat)) 1) where
 mem:=by simp
 obj:=λi h st b hb=>by
  have e:b=it:=by simpa using hb
  subst e
  exact ⟨_,st,λv z=>by
   have z':Data.fields _=Data.cell v:=z
   cases z'⟩
 keep:=λi h h' st k=>k it (by simp) _ st
 item:=by
  intro X hP hw hK hc i pins s σ H E I hf st hg
  subst hP hw hK
  obtain ⟨f0,f1,f2,f3,f4,f5⟩:=hf it (by simp)
  have W:=Walks.range (prog:=X.prog) (w:=X.w) (I.ok.hd hc) it lo 1 n
  refine W.item i s _ _ hg st λv h' tk hv st' kk=>?_
  obtain ⟨t,rfl⟩:=hv
  have I1:Inv X pins σ H { s with heap:=h',toks:=tk }:=I.turned (λb o hb e=>kk b o (by simpa using hb) e) f0 f1 f3 f4 f5
  refine ⟨_,rfl,ku (s:={ s with heap:=h',toks:=tk }) (n := "range_iterator") st' rfl rfl (by decide) ⟨.int (lo+i),H,I1,⟨t,?_⟩,⟨rfl,rfl⟩,st',λb hb=>(hf b hb).1⟩⟩
  rw [Int.mul_one]
 done:=by
  intro X hP hw hK hc i pins s σ H E I hf st hg
  subst hP hw hK
  obtain ⟨f0,f1,f2,f3,f4,f5⟩:=hf it (by simp)
  exact Oh (I.ok.hd hc) st (by have:n<=i:=hg;lia) λh' eb=>⟨rfl,I.turned (t' := s.toks) (λb o hb e=>eb b o hb e) f0 f1 f3 f4 f5⟩
 self:=λ_ _ _ _ _ st h=>Oi st h
end L2
namespace L2
open PySem PySem.Spec PyProof.Rows
section
variable {X:Cx} {tg:Expr}
noncomputable def uR (K:PySem.W.Frag) (tl:TE):TI:=λσ H R=>tl σ H λx H1=>∃ a,x = .ref a/\(∃ xs,SqL K H1 a xs)/\R (mI K a) H1
noncomputable def kx (K:PySem.W.Frag) (tl:TE):TI:=λσ H R=>tl σ H λx H1=>∃ a,x = .ref a/\(∃ xs,SqT K H1 a xs)/\R (pJ K a) H1
theorem Ae {l:Expr} {tl:TE} (hl:PE X l tl):PI X tg l (uR X.K tl):=by
 intro pins s σ H R I h
 refine thn (hl pins s σ H _ I h) λv s1 Zz=>?_;obtain ⟨x,H1,I1,r1,q1⟩:=Zz
 obtain ⟨a,e,⟨xs,hq⟩,q⟩:=q1
 subst e
 cases r1
 obtain ⟨its,rv,p,hz⟩:=I1.list hq
 refine M0 p.isList ?_
 refine ⟨s1.heap.objs.size,[s1.heap.objs.size],_,_,H1,rfl,I1.kept (t' := s1.toks) λb o e=>JD _ e,Ab a _,⟨_,JL _ rfl,rfl,rfl⟩,λb hb=>?_,q⟩
 have e:b=s1.heap.objs.size:=by simpa using hb
 subst e
 exact I1.fpOk (JC _) (I1.hok.fresh (JC _))
theorem Af {l:Expr} {tl:TE} (hl:PE X l tl):PI X tg l (kx X.K tl):=by
 intro pins s σ H R I h
 refine thn (hl pins s σ H _ I h) λv s1 Zz=>?_;obtain ⟨x,H1,I1,r1,q1⟩:=Zz
 obtain ⟨a,e,⟨xs,hq⟩,q⟩:=q1
 subst e
 cases r1
 obtain ⟨its,rv,p,hz⟩:=I1.tuple hq
 refine wpAny_pyIter_tuple (show s1.heap.IsTuple a its.toArray from p) ?_
 refine ⟨s1.heap.objs.size,[s1.heap.objs.size],_,_,H1,rfl,I1.kept (t' := s1.toks) λb o e=>JD _ e,Ac a _,⟨_,JL _ rfl,rfl,rfl⟩,λb hb=>?_,q⟩
 have e:b=s1.heap.objs.size:=by simpa using hb
 subst e
 exact I1.fpOk (JC _) (I1.hok.fresh (JC _))
theorem Ag {pins:List (Addr×Obj)} {σ:St} {H:Hp} {s:Shared} {R:It->Hp->Prop} {E:Value->Shared->Prop} {lo hi:Int} {t u v:Tok} {tk:Nat} (I:Inv X pins σ H s) (h1 : -(2 ^ 62)<=lo) (h2:lo<2 ^ 62) (h3 : -(2 ^ 62)<=hi) (h4:hi<2 ^ 62)
  (q:R (mJ lo (hi-lo).toNat) H):wpAny (model X.prog X.w) X.A (pyIter (.ref s.heap.objs.size)) (mH X pins σ tg R) E { s with heap:=s.heap.push { cls:=.type "range",data:=.fields #[.int lo t,.int hi u,.int 1 v] },toks:=tk }:=by
 refine NI (IsRange.new ..) (small_one h1 h2 h3 h4) ?_
 have I1:Inv X pins σ H { s with heap:=s.heap.push { cls:=.type "range",data:=.fields #[.int lo t,.int hi u,.int 1 v] },toks:=tk }:=I.kept λb o e=>JD _ e
 refine ⟨(s.heap.push { cls:=.type "range",data:=.fields #[.int lo t,.int hi u,.int 1 v] }).objs.size,[(s.heap.push { cls:=.type "range",data:=.fields #[.int lo t,.int hi u,.int 1 v] }).objs.size],_,_,H,rfl,
  I1.kept (t' := tk) λb o e=>JD _ e,Ad _ lo (hi-lo).toNat,?_,λb hb=>?_,q⟩
 ·have e1:lo+((0:Nat):Int)*1=lo:=by simp
  have e2:(((hi-lo).toNat:Nat):Int)-((0:Nat):Int)=Builtin.Range.rangeSize lo hi 1:=by rw [rangeSize_one];split<;>omega
  show IsRangeIter _ _ (lo+((0:Nat):Int)*1) ((((hi-lo).toNat:Nat):Int)-((0:Nat):Int)) 1
  rw [e1,e2]
  exact JL _ rfl
 ·have e:b=(s.heap.push { cls:=.type "range",data:=.fields #[.int lo t,.int hi u,.int 1 v] }).objs.size:=by simpa using hb
  subst e
  exact I1.fpOk (JC _) (I1.hok.fresh (JC _))
noncomputable def Ah (ta:TA):TI:=λσ H R=>ta σ H λvs H1=>∃ j:Int,vs=[.int j] /\ -(2 ^ 62)<=j/\j<2 ^ 62/\R (mJ 0 j.toNat) H1
theorem Ai {a:Expr} {ta:TA} {p pos:Pos} (hg:Gl X "range") (hm:X.mg "range" = none) (ha:PA X [a] ta) (hs:starEach [a] X.env=[(false,eval a X.env)]:=by rfl):PI X tg (.Call (.Name "range" p) [a] [] pos) (Ah ta):=by
 intro pins s σ H R I h
 refine Call_ (fG I hg hm O2 (KF (thn (ha pos pins s σ H _ I h) λus s1 Zz=>?_) hs rfl));obtain ⟨vs,H1,I1,r1,q1⟩:=Zz
 obtain ⟨j,e,q1,q2,q⟩:=q1
 subst e
 cases r1 with
 | cons r rr =>
  cases rr
  obtain ⟨t,rfl⟩:=r
  exact call_range_1 (Ag I1 (by lia) (by lia) q1 q2 (by simpa using q))
noncomputable def pK (wi:TI) (g:TG) (tb:TS):TS:=λD σ H=>wi σ H λJ H1=>∃ W:Nat->Nat->St->Hp->Prop,(∃ m,W 0 m σ H1)/\∀ i m σ H,W i m σ H ->
 (J.stop i H/\D.nx σ H)\/(J.go i H/\∃ N:St->Hp->Prop,(∀ σ' H',N σ' H'->∃ m',m'<m/\W (i+1) m' σ' H')/\∀ x H',J.yld i H x H'->g x σ H' λσ2 H2=>tb { D with nx:=N,ct:=N,bk:=D.nx } σ2 H2)
noncomputable def gz (fp:List Addr) (h:Heap):List (Addr×Obj):=fp.filterMap λb=>(h.get? b).map λo=>(b,o)
theorem mK {fp:List Addr} {h:Heap} {b:Addr} {o:Obj} (hb:b∈fp) (e:h.get? b=some o):(b,o)∈gz fp h:=Nv.mpr ⟨b,hb,by rw [e];rfl⟩
theorem Aj {fp:List Addr} {h:Heap} {p:Addr×Obj} (hp:p∈gz fp h):p.1∈fp/\h.get? p.1=some p.2:=by
 obtain ⟨b,hb,e⟩:=Nv.mp hp
 cases q:h.get? b with
 | none=>rw [q] at e;cases e
 | some o =>
  rw [q] at e
  have e':(b,o)=p:=Kp e
  subst e'
  exact ⟨hb,q⟩
theorem Inv.pinned {pins:List (Addr×Obj)} {σ:St} {H:Hp} {s:Shared} {fp:List Addr} (I:Inv X pins σ H s) (hf:∀ b∈fp,cV X pins H b) (ho:∀ b∈fp,∃ o,s.heap.get? b=some o/\∀ v,o.data ≠ .cell v):Inv X (pins++gz fp s.heap) σ H s :=
 I.pins_of λp hp=>(JS.mp hp).elim (λz=>I.pin p (JW _ z)) λz=>by
  obtain ⟨hb,e⟩:=Aj z
  obtain ⟨f0,f1,f2,_⟩:=hf p.1 hb
  obtain ⟨o,e',d⟩:=ho p.1 hb
  rw [e] at e';cases e'
  exact ⟨e,f0,f1,f2,d⟩
theorem Inv.unpinned {pins pl:List (Addr×Obj)} {σ:St} {H:Hp} {s:Shared} (I:Inv X (pins++pl) σ H s):Inv X pins σ H s:=I.pins_of λp hp=>I.pin p (JW _ (JO _ hp))
theorem uS {iter:Expr} {body:List Stmt} {wi:TI} {g:TG} {tb:TS} {pos:Pos} (hp:PassesOwn (model X.prog X.w) X.A X.env X.xe) (hc:X.calm=true) (hi:PI X tg iter wi) (hg:PG X tg g) (hb:ft X body tb)
  (hs:∀ x,foldedSetIterable iter X.env x=pure x:=by intro _;rfl):PS X (.For tg iter body [] pos) (pK wi g tb):=by
 intro pins s σ H D I h
 refine wpAny_For (thn (hi pins s σ H _ I h) λv s1 h1=>thn h1 λitv s2 h2=>?_) hs
 obtain ⟨it,fp,tn,J,H2,e,I2,T,st2,f2,W,⟨m0,w0⟩,turn⟩:=h2
 subst e
 have stat:∀ {H':Hp},(∀ b∈fp,H' b=none)->∀ b∈fp,cV X pins H' b:=λhn b hb=>⟨hn b hb,(f2 b hb).2⟩
 refine codeAny_forLoop_any (λn s' => ∃ i σ' H',Inv X pins σ' H' s'/\tn i s'.heap/\(∀ b∈fp,H' b=none)/\W i n σ' H') ?_ m0 ⟨0,σ,H2,I2,st2,λb hb=>(f2 b hb).1,w0⟩
 rintro n s3 ⟨i,σ3,H3,I3,st3,fr3,w3⟩
 rcases turn i n σ3 H3 w3 with ⟨stop,qn⟩ | ⟨go,N,hN,step⟩
 ·refine LC hp (thn (T.done X rfl rfl rfl hc i pins s3 σ3 H3 X.xe I3 (stat fr3) st3 stop) λr s4 Zz=>?_);obtain ⟨hr,I4⟩:=Zz
  subst hr
  exact Nm ⟨σ3,H3,I4,qn⟩
 ·refine LC hp (thn (T.item X rfl rfl rfl hc i pins s3 σ3 H3 X.xe I3 (stat fr3) st3 go) λr s4 Zz=>?_);obtain ⟨u,hr,h4⟩:=Zz
  subst hr
  refine LC hp (thn h4 λ_ s5 Zz=>?_);obtain ⟨x,H5,I5,r5,y5,st5,fr5⟩:=Zz
  have I5' := I5.pinned (stat fr5) (T.obj _ _ st5)
  refine LC hp (thn (hg _ s5 σ3 H5 x u _ I5' r5 (step x H5 y5)) λ_ s6 Zz=>?_);obtain ⟨σ6,H6,I6,q6⟩:=Zz
  refine LC hp (thn (hb _ s6 σ6 H6 _ I6 q6) λf s7 q7=>?_)
  have again:∀ {σ7:St} {H7:Hp},Inv X (pins++gz fp s5.heap) σ7 H7 s7->N σ7 H7->∃ m,m<n/\∃ i σ' H',Inv X pins σ' H' s7/\tn i s7.heap/\(∀ b∈fp,H' b=none)/\W i m σ' H' := λ{σ7 H7} I7 n7=>by
   obtain ⟨m',hm,w7⟩:=hN σ7 H7 n7
   refine ⟨m',hm,i+1,σ7,H7,I7.unpinned,T.keep _ _ _ st5 λb hb o e=>(I7.pin (b,o) (JW _ (JW _ (mK hb e)))).1,λb hb=>?_,w7⟩
   obtain ⟨o,e,d⟩:=T.obj _ _ st5 b hb
   exact (I7.pin (b,o) (JW _ (JW _ (mK hb e)))).2.1
  cases f with
  | next=>obtain ⟨σ7,H7,I7,n7⟩:=q7;exact again I7 n7
  | cont=>obtain ⟨σ7,H7,I7,n7⟩:=q7;exact again I7 n7
  | brk=>obtain ⟨σ7,H7,I7,q7⟩:=q7;exact ⟨σ7,H7,I7.unpinned,q7⟩
  | ret v=>obtain ⟨x7,σ7,H7,I7,r7,q7⟩:=q7;exact ⟨x7,σ7,H7,I7.unpinned,r7,q7⟩
end
end L2
namespace L2
open PySem PySem.Spec PyProof.Rows
noncomputable abbrev R2:=V->V->Hp->VK->Prop
noncomputable def OpR (X:Cx) (f:Value->Value->Sem Value) (r:R2):Prop :=
 ∀ (pins:List (Addr×Obj)) (s:Shared) (σ:St) (H:Hp) (x y:V) (v u:Value) (Q:VK),Inv X pins σ H s->RelV x v->RelV y u->r x y H Q ->
  wpAny (model X.prog X.w) X.A (f v u) (EP X pins σ Q) X.xe s
noncomputable def pL (X:Cx) (f:Value->Sem Value) (r:V->Hp->VK->Prop):Prop :=
 ∀ (pins:List (Addr×Obj)) (s:Shared) (σ:St) (H:Hp) (x:V) (v:Value) (Q:VK),Inv X pins σ H s->RelV x v->r x H Q ->
  wpAny (model X.prog X.w) X.A (f v) (EP X pins σ Q) X.xe s
noncomputable def CallR (X:Cx) (f:Value) (r:List V->Hp->VK->Prop):Prop :=
 ∀ (pins:List (Addr×Obj)) (s:Shared) (σ:St) (H:Hp) (xs:List V) (us:List Value) (Q:VK),Inv X pins σ H s->Vals xs us->r xs H Q ->
  wpAny (model X.prog X.w) X.A (call f us) (EP X pins σ Q) X.xe s
noncomputable def pN (X:Cx) (r:V->Hp->(Bool->Hp->Prop)->Prop):Prop :=
 ∀ (pins:List (Addr×Obj)) (s:Shared) (σ:St) (H:Hp) (x:V) (v:Value) (Q:Bool->Hp->Prop),Inv X pins σ H s->RelV x v->r x H Q ->
  wpAny (model X.prog X.w) X.A (truthy v) (TP X pins σ Q) X.xe s
noncomputable def jL (r:R2) (ta tb:TE):TE:=λσ H Q=>ta σ H λx H1=>tb σ H1 λy H2=>r x y H2 Q
noncomputable def Ak (r:V->Hp->VK->Prop) (ta:TE):TE:=λσ H Q=>ta σ H λx H1=>r x H1 Q
noncomputable def rI (C:Int->Int->Prop) (g:Int->Int->V):R2:=λx y H Q=>∃ i j,x = .int i/\y = .int j/\C i j/\Q (g i j) H
noncomputable def iC (g:Int->Int->V):R2:=λx y H Q=>∃ i j,x = .int i/\y = .int j/\Q (g i j) H
noncomputable def rU (g:Int->V):V->Hp->VK->Prop:=λx H Q=>∃ i,x = .int i/\Q (g i) H
section
variable {X:Cx} {a b c:Expr} {ta tb tc:TE} {pos:Pos}
theorem i7 (ha:PE X a ta) (hb:PE X b tb) {pins:List (Addr×Obj)} {s:Shared} {σ:St} {H:Hp} {R:V->V->Hp->Prop} (I:Inv X pins σ H s)
  (h:ta σ H λx H1=>tb σ H1 λy H2=>R x y H2) {Q:Value->Shared->Prop} {f:Value->Value->Sem Value}
  (hf:∀ v u s2 x y H2,Inv X pins σ H2 s2->RelV x v->RelV y u->R x y H2->wpAny (model X.prog X.w) X.A (f v u) Q X.xe s2) :
  wpAny (model X.prog X.w) X.A (eval a X.env) (λv s₁=>wpAny (model X.prog X.w) X.A (eval b X.env) (λu s₂=>wpAny (model X.prog X.w) X.A (f v u) Q X.xe s₂) X.xe s₁) X.xe s:=by
 refine thn (ha pins s σ H _ I h) λv s1 Zz=>?_;obtain ⟨x,H1,I1,r1,q1⟩:=Zz
 refine thn (hb pins s1 σ H1 _ I1 q1) λu s2 Zz=>?_;obtain ⟨y,H2,I2,r2,q2⟩:=Zz
 exact hf v u s2 x y H2 I2 r1 r2 q2
theorem Al {op:Operator} {r:R2} (ho:OpR X (binaryOp op) r) (ha:PE X a ta) (hb:PE X b tb):PE X (.BinOp a op b pos) (jL r ta tb):=by
 intro pins s σ H Q I h
 exact wpAny_BinOp (i7 ha hb I h λv u s2 x y H2 I2 rx ry q=>ho pins s2 σ H2 x y v u Q I2 rx ry q)
theorem Am {op:UnaryOp} {r:V->Hp->VK->Prop} (ho:pL X (unaryOp op) r) (ha:PE X a ta):PE X (.UnaryOp op a pos) (Ak r ta):=by
 intro pins s σ H Q I h
 exact UnaryOp_ (thn (ha pins s σ H _ I h) λv s1 ⟨x,H1,I1,r1,q1⟩=>ho pins s1 σ H1 x v Q I1 r1 q1)
theorem mL {f:Value->Value->Sem Value} {C:Int->Int->Prop} {g:Int->Int->Int}
  (rule:∀ (i j:Int) (t u:Tok) (s:Shared) (Q:Value->Shared->Prop) (E:Value->Shared->Prop),C i j->Q (.int (g i j) s.toks) { s with toks:=s.toks+1 }->wpAny (model X.prog X.w) X.A (f (.int i t) (.int j u)) Q E s) :
  OpR X f (rI C λi j=>.int (g i j)):=by
 intro pins s σ H x y v u Q I rx ry h
 obtain ⟨i,j,rfl,rfl,hc,q⟩:=h
 obtain ⟨t,rfl⟩:=rx
 obtain ⟨t',rfl⟩:=ry
 exact rule i j t t' s _ _ hc ⟨.int (g i j),H,I.tok _,⟨_,rfl⟩,q⟩
theorem kz {f:Value->Value->Sem Value} {g:Int->Int->Int}
  (rule:∀ (i j:Int) (t u:Tok) (s:Shared) (Q:Value->Shared->Prop) (E:Value->Shared->Prop),Q (.int (g i j) s.toks) { s with toks:=s.toks+1 }->wpAny (model X.prog X.w) X.A (f (.int i t) (.int j u)) Q E s) :
  OpR X f (iC λi j=>.int (g i j)):=by
 intro pins s σ H x y v u Q I rx ry h
 obtain ⟨i,j,rfl,rfl,q⟩:=h
 obtain ⟨t,rfl⟩:=rx
 obtain ⟨t',rfl⟩:=ry
 exact rule i j t t' s _ _ ⟨.int (g i j),H,I.tok _,⟨_,rfl⟩,q⟩
theorem gT {f:Value->Value->Sem Value} {g:Int->Int->Bool}
  (rule:∀ (i j:Int) (t u:Tok) (s:Shared) (Q:Value->Shared->Prop) (E:Value->Shared->Prop),Q (.bool (g i j)) s->wpAny (model X.prog X.w) X.A (f (.int i t) (.int j u)) Q E s) :
  OpR X f (iC λi j=>.bl (g i j)):=by
 intro pins s σ H x y v u Q I rx ry h
 obtain ⟨i,j,rfl,rfl,q⟩:=h
 obtain ⟨t,rfl⟩:=rx
 obtain ⟨t',rfl⟩:=ry
 exact rule i j t t' s _ _ ⟨.bl (g i j),H,I,rfl,q⟩
noncomputable def pO (i j:Int):Prop:=0<=j/\j<=1000000/\i.natAbs<2 ^ 64
noncomputable def CMul (i j:Int):Prop:=(-(2 ^ 64)<i/\i<2 ^ 64)\/(-(2 ^ 64)<j/\j<2 ^ 64)
theorem CMul.ok {i j:Int} (h:CMul i j):IntMulOk i j:=by
 rcases h with ⟨h1,h2⟩ | ⟨h1,h2⟩
 ·exact .of_left (intBits_le_64 h1 h2)
 ·exact .of_right (intBits_le_64 h1 h2)
theorem op_add:OpR X (binaryOp .Add) (iC λi j=>.int (i+j)):=kz λ_ _ _ _ _ _ _ q=>add_int q
theorem An:OpR X (binaryOp .Sub) (iC λi j=>.int (i-j)):=kz λ_ _ _ _ _ _ _ q=>sub_int q
theorem Ao:OpR X (binaryOp .Mod) (rI (λ_ j=>0<j) λi j=>.int (i % j)):=mL λi j _ _ _ _ _ hc q=>by
 have h1:(0:Int)<j:=hc
 exact mod_int' (by lia) (by rw [Int.fmod_eq_emod_of_nonneg i (by lia)];exact q)
theorem Ap:OpR X (binaryOp .Pow) (rI pO λi j=>.int (i ^ j.toNat)):=mL λ_ _ _ _ _ _ _ hc q=>pow_int_small hc.1 hc.2.1 hc.2.2 q
theorem Aq {f:Value->Sem Value} {g:Int->Int}
  (rule:∀ (i:Int) (t:Tok) (s:Shared) (Q:Value->Shared->Prop) (E:Value->Shared->Prop),Q (.int (g i) s.toks) { s with toks:=s.toks+1 }->wpAny (model X.prog X.w) X.A (f (.int i t)) Q E s) :
  pL X f (rU λi=>.int (g i)):=by
 intro pins s σ H x v Q I rx h
 obtain ⟨i,rfl,q⟩:=h
 obtain ⟨t,rfl⟩:=rx
 exact rule i t s _ _ ⟨.int (g i),H,I.tok _,⟨_,rfl⟩,q⟩
theorem Ar:pL X (unaryOp .USub) (rU λi=>.int (-i)):=Aq λ_ _ _ _ _ q=>neg_int q
end
noncomputable def i9:V->V->Bool
 | .non,.non=>true | .non,.int _=>true | .int _,.non=>true | .non,.bl _=>true | .bl _,.non=>true | .non,.str _=>true | .str _,.non=>true
 | .int _,.int _=>true | .bl _,.bl _=>true | .str _,.str _=>true | .byt _,.byt _=>true
 | .int _,.str _=>true | .str _,.int _=>true | .bl _,.str _=>true | .str _,.bl _=>true
 | _,_=>false
noncomputable def As:R2:=λx y H Q=>i9 x y=true/\Q (.bl (decide (x=y))) H
noncomputable def Au:R2:=λx y H Q=>i9 x y=true/\Q (.bl (!decide (x=y))) H
theorem uT {i j:Int}:decide (V.int i=V.int j)=(i == j):=by
 rw [Lx]
 simp
theorem uU {i j:Bool}:decide (V.bl i=V.bl j)=(i == j):=by
 rw [Lx]
 simp
theorem uV {i j:Str}:decide (V.str i=V.str j)=(i == j):=by
 rw [Lx]
 simp
theorem uW {i j:Array UInt8}:decide (V.byt i=V.byt j)=(i.toList == j.toList):=by
 rw [Lx]
 cases i
 cases j
 simp
section
variable {X:Cx} {a b c:Expr} {ta tb tc:TE} {pos:Pos}
theorem bQ {pins:List (Addr×Obj)} {σ:St} {H:Hp} {s:Shared} {Q:VK} {k k':Bool} (I:Inv X pins σ H s) (q:Q (.bl k) H) (e:k=k'):EP X pins σ Q (.bool k') s:=by
 subst e
 exact ⟨.bl k,H,I,rfl,q⟩
theorem op_eq:OpR X (compareOp .Eq) As:=by
 intro pins s σ H x y v u Q I rx ry h
 obtain ⟨hs,q⟩:=h
 cases x with
 | non =>
  cases rx
  cases y with
  | non=>cases ry;exact PySem.EqNone.eq_none_none (bQ I q (by simp))
  | bl j=>cases ry;exact PySem.EqNone.eq_none_bool (bQ I q (by simp))
  | int j=>obtain ⟨t',rfl⟩:=ry;exact PySem.EqNone.eq_none_int (bQ I q (by simp))
  | str j=>obtain ⟨t',rfl⟩:=ry;exact PySem.EqNone.eq_none_str (bQ I q (by simp))
  | _=>exact absurd (show false=true from hs) JT
 | bl i =>
  cases rx
  cases y with
  | non=>cases ry;exact PySem.EqNone.eq_bool_none (bQ I q (by simp))
  | bl j=>cases ry;exact eq_bool (bQ I q uU)
  | str j=>obtain ⟨t',rfl⟩:=ry;exact PySem.EqMixed.eq_bool_str (bQ I q (by simp))
  | _=>exact absurd (show false=true from hs) JT
 | int i =>
  obtain ⟨t,rfl⟩:=rx
  cases y with
  | non=>cases ry;exact PySem.EqNone.eq_int_none (bQ I q (by simp))
  | int j=>obtain ⟨t',rfl⟩:=ry;exact eq_int (bQ I q uT)
  | str j=>obtain ⟨t',rfl⟩:=ry;exact PySem.EqMixed.eq_int_str (bQ I q (by simp))
  | _=>exact absurd (show false=true from hs) JT
 | str i =>
  obtain ⟨t,rfl⟩:=rx
  cases y with
  | non=>cases ry;exact PySem.EqNone.eq_str_none (bQ I q (by simp))
  | bl j=>cases ry;exact PySem.EqMixed.eq_str_bool (bQ I q (by simp))
  | int j=>obtain ⟨t',rfl⟩:=ry;exact PySem.EqMixed.eq_str_int (bQ I q (by simp))
  | str j=>obtain ⟨t',rfl⟩:=ry;exact eq_str (bQ I q uV)
  | _=>exact absurd (show false=true from hs) JT
 | byt i =>
  obtain ⟨t,rfl⟩:=rx
  cases y with
  | byt j=>obtain ⟨t',rfl⟩:=ry;exact PySem.W.eq_bytes (bQ I q uW)
  | _=>exact absurd (show false=true from hs) JT
 | _=>cases y<;>exact absurd (show false=true from hs) JT
theorem op_ne:OpR X (compareOp .NotEq) Au:=by
 intro pins s σ H x y v u Q I rx ry h
 obtain ⟨hs,q⟩:=h
 cases x with
 | non =>
  cases rx
  cases y with
  | non=>cases ry;exact PySem.EqNone.ne_none_none (bQ I q (by simp))
  | bl j=>cases ry;exact PySem.EqNone.ne_none_bool (bQ I q (by simp))
  | int j=>obtain ⟨t',rfl⟩:=ry;exact PySem.EqNone.ne_none_int (bQ I q (by simp))
  | str j=>obtain ⟨t',rfl⟩:=ry;exact PySem.EqNone.ne_none_str (bQ I q (by simp))
  | _=>exact absurd (show false=true from hs) JT
 | bl i =>
  cases rx
  cases y with
  | non=>cases ry;exact PySem.EqNone.ne_bool_none (bQ I q (by simp))
  | bl j=>cases ry;exact ne_bool (bQ I q (congrArg not uU))
  | str j=>obtain ⟨t',rfl⟩:=ry;exact PySem.EqMixed.ne_bool_str (bQ I q (by simp))
  | _=>exact absurd (show false=true from hs) JT
 | int i =>
  obtain ⟨t,rfl⟩:=rx
  cases y with
  | non=>cases ry;exact PySem.EqNone.ne_int_none (bQ I q (by simp))
  | int j=>obtain ⟨t',rfl⟩:=ry;exact ne_int (bQ I q (congrArg not uT))
  | str j=>obtain ⟨t',rfl⟩:=ry;exact PySem.EqMixed.ne_int_str (bQ I q (by simp))
  | _=>exact absurd (show false=true from hs) JT
 | str i =>
  obtain ⟨t,rfl⟩:=rx
  cases y with
  | non=>cases ry;exact PySem.EqNone.ne_str_none (bQ I q (by simp))
  | bl j=>cases ry;exact PySem.EqMixed.ne_str_bool (bQ I q (by simp))
  | int j=>obtain ⟨t',rfl⟩:=ry;exact PySem.EqMixed.ne_str_int (bQ I q (by simp))
  | str j=>obtain ⟨t',rfl⟩:=ry;exact ne_str (bQ I q (congrArg not uV))
  | _=>exact absurd (show false=true from hs) JT
 | byt i =>
  obtain ⟨t,rfl⟩:=rx
  cases y with
  | byt j=>obtain ⟨t',rfl⟩:=ry;exact PySem.W.ne_bytes (bQ I q (congrArg not uW))
  | _=>exact absurd (show false=true from hs) JT
 | _=>cases y<;>exact absurd (show false=true from hs) JT
theorem op_lt:OpR X (compareOp .Lt) (iC λi j=>.bl (decide (i<j))):=gT λ_ _ _ _ _ _ _ q=>lt_int q
theorem op_le:OpR X (compareOp .LtE) (iC λi j=>.bl (decide (i<=j))):=gT λ_ _ _ _ _ _ _ q=>le_int q
theorem Av:OpR X (compareOp .Gt) (iC λi j=>.bl (decide (j<i))):=gT λ_ _ _ _ _ _ _ q=>gt_int q
theorem Aw:OpR X (compareOp .GtE) (iC λi j=>.bl (decide (j<=i))):=gT λ_ _ _ _ _ _ _ q=>ge_int q
theorem Ax:OpR X (compareOp .Lt) (λx y H Q=>∃ i j,x = .str i/\y = .str j/\Q (.bl (decide (i.cps.toList<j.cps.toList))) H):=by
 intro pins s σ H x y v u Q I rx ry h
 obtain ⟨i,j,rfl,rfl,q⟩:=h
 obtain ⟨t,rfl⟩:=rx
 obtain ⟨t',rfl⟩:=ry
 exact lt_str (bQ I q rfl)
theorem zg9:OpR X (compareOp .In) (λx y H Q=>∃ i j,x = .str i/\y = .str j/\Q (.bl (!(Builtin.Str.occurrences j i 0 j.length 1).isEmpty)) H):=by
 intro pins s σ H x y v u Q I rx ry h
 obtain ⟨i,j,rfl,rfl,q⟩:=h
 obtain ⟨t,rfl⟩:=rx
 obtain ⟨t',rfl⟩:=ry
 exact in_str (bQ I q rfl)
theorem OpR.or {f:Value->Value->Sem Value} {r r':R2} (h:OpR X f r) (h':OpR X f r'):OpR X f (λx y H Q=>r x y H Q\/r' x y H Q):=by
 intro pins s σ H x y v u Q I rx ry q
 rcases q with q | q
 ·exact h pins s σ H x y v u Q I rx ry q
 ·exact h' pins s σ H x y v u Q I rx ry q
theorem bL (b:Expr) {op:CmpOp} (h:op ≠ .In:=by decide) (h2:op ≠ .NotIn:=by decide):behindInMarks op b=false:=by
 have e1:(op == CmpOp.In)=false:=by cases op<;>first | rfl | exact absurd rfl h
 have e2:(op == CmpOp.NotIn)=false:=by cases op<;>first | rfl | exact absurd rfl h2
 cases b<;>simp [behindInMarks,e1,e2]
theorem Ay {op:CmpOp} {r:R2} (ho:OpR X (compareOp op) r) (ha:PE X a ta) (hb:PE X b tb) (hm:behindInMarks op b=false):PE X (.Compare a [op] [b] pos) (jL r ta tb):=by
 intro pins s σ H Q I h
 exact wpAny_Compare1 (i7 ha hb I h λv u s2 x y H2 I2 rx ry q=>ho pins s2 σ H2 x y v u Q I2 rx ry q) hm
noncomputable def Az (t:TE):TT:=λσ H Q=>t σ H λx H' => ∃ k,x = .bl k/\Q k H'
theorem AA {op:CmpOp} {r:R2} (ho:OpR X (compareOp op) r) (ha:PE X a ta) (hb:PE X b tb) (hm:behindInMarks op b=false):PT X (.Compare a [op] [b] pos) (Az (jL r ta tb)):=by
 intro pins s σ H Q I h
 refine wpAny_isTrue_Compare1 (thn (ha pins s σ H _ I h) λv s1 ⟨x,H1,I1,r1,q1⟩=>thn (hb pins s1 σ H1 _ I1 q1) λu s2 ⟨y,H2,I2,r2,q2⟩ =>
  thn (ho pins s2 σ H2 x y v u _ I2 r1 r2 q2) λc s3 ⟨z,H3,I3,r3,k,e,q3⟩=>?_) hm
 subst e
 cases r3
 exact Lv ⟨H3,I3,q3⟩
noncomputable def uX (r r':R2) (ta tb tc:TE):TE:=λσ H Q=>ta σ H λx H1=>tb σ H1 λy H2=>r x y H2 λz H3=>∃ k,z = .bl k /\
 (if k=true then tc σ H3 λw' H4=>r' y w' H4 Q else Q (.bl false) H3)
theorem AB {op op':CmpOp} {r r':R2} (ho:OpR X (compareOp op) r) (ho':OpR X (compareOp op') r') (ha:PE X a ta) (hb:PE X b tb) (hc:PE X c tc)
  (hm:lastMarks [op,op'] [b,c]=false:=by with_unfolding_all rfl):PE X (.Compare a [op,op'] [b,c] pos) (uX r r' ta tb tc):=by
 intro pins s σ H Q I h
 refine Compare_chain (thn (ha pins s σ H _ I h) λv s1 ⟨x,H1,I1,r1,q1⟩=>chain_link (thn (hb pins s1 σ H1 _ I1 q1) λu s2 ⟨y,H2,I2,r2,q2⟩ =>
  thn (ho pins s2 σ H2 x y v u _ I2 r1 r2 q2) λd s3 ⟨z,H3,I3,r3,k,e,q3⟩=>?_)) hm
 subst e
 cases r3
 refine Lv ?_
 cases k with
 | false=>exact ite_ff ⟨.bl false,H3,I3,rfl,q3⟩
 | true=>exact ite_tt (chain_last (thn (hc pins s3 σ H3 _ I3 q3) λw' s4 ⟨z',H4,I4,r4,q4⟩=>ho' pins s4 σ H4 y z' u w' Q I4 r2 r4 q4))
noncomputable def ja (K:PySem.W.Frag) (x:V) (H:Hp) (k:Bool):Prop :=
 match x with
 | .non=>k=false
 | .bl b=>k=b
 | .int i=>k=(i != 0)
 | .str y=>y.length<=sizeLine/\k=((y.length:Int) != 0)
 | .byt y=>y.size<=sizeLine/\k=((y.size:Int) != 0)
 | .ref p=>(∃ xs,SqL K H p xs/\k = !xs.isEmpty)\/(∃ xs,SqT K H p xs/\k = !xs.isEmpty)\/∃ kvs,H p=some (.dK kvs)/\k = !kvs.isEmpty
 | _=>False
theorem AC {κ:Type} {kvs:List (κ×V)} {vs:List (κ×Value)} (r:KV kvs vs):(!vs.isEmpty) = !kvs.isEmpty:=by
 cases r<;>rfl
theorem uY {xs:List V} {its:List Value} (r:Vals xs its):(!its.toArray.isEmpty) = !xs.isEmpty:=by
 cases r<;>simp
theorem jb:(sizeLine:Nat)<2 ^ 63:=by rw [sizeLine_eq];decide
theorem AD:pN X (λx H Q=>∃ k,ja X.K x H k/\Q k H):=by
 intro pins s σ H x v Q I rx h
 obtain ⟨k,e,q⟩:=h
 have hl:=jb
 have hs:sizeLine=16777216:=sizeLine_eq
 cases x with
 | non =>
  cases rx
  have e':k=false:=e
  subst e'
  exact truthy_none ⟨H,I,q⟩
 | bl b =>
  cases rx
  have e':k=b:=e
  subst e'
  exact Lv ⟨H,I,q⟩
 | int i =>
  obtain ⟨t,rfl⟩:=rx
  have e':k=(i != 0):=e
  subst e'
  exact PySem.P.truthy_int ⟨H,I,q⟩
 | str y =>
  obtain ⟨t,rfl⟩:=rx
  obtain ⟨hy,e'⟩:y.length<=sizeLine/\k=((y.length:Int) != 0):=e
  subst e'
  exact PySem.P.truthy_str (by lia) ⟨H,I.tok _,q⟩
 | byt y =>
  obtain ⟨t,rfl⟩:=rx
  obtain ⟨hy,e'⟩:y.size<=sizeLine/\k=((y.size:Int) != 0):=e
  subst e'
  exact PySem.W.truthy_bytes (by lia) ⟨H,I.tok _,q⟩
 | ref p =>
  cases rx
  have e':(∃ xs,SqL X.K H p xs/\k = !xs.isEmpty)\/(∃ xs,SqT X.K H p xs/\k = !xs.isEmpty)\/∃ kvs,H p=some (.dK kvs)/\k = !kvs.isEmpty:=e
  rcases e' with ⟨xs,hx,e'⟩ | ⟨xs,hx,e'⟩ | ⟨kvs,hx,e'⟩
  ·subst e'
   obtain ⟨its,r,pl,hz⟩:=I.list hx
   have hlen:=r.length
   exact wpAny_truthy_list pl.isList (by simp only [JK];lia) ⟨H,I.tok _,by rw [uY r];exact q⟩
  ·subst e'
   obtain ⟨its,r,pl,hz⟩:=I.tuple hx
   have hlen:=r.length
   exact truthy_tuple pl (by simp only [JK];lia) ⟨H,I.tok _,by rw [uY r];exact q⟩
  ·subst e'
   obtain ⟨hz,hS,vs,r,m⟩:kvs.length<=sizeLine/\(p == sysModules)=false/\∃ vs,KV kvs vs/\s.heap.DictOf (fR X.prog X.w) p vs:=I.hok p _ hx
   have hlen:kvs.length=vs.length:=Paired.length r
   exact wpAny_truthy_dict hS m (by lia) ⟨H,I.tok _,by rw [AC r];exact q⟩
 | _=>exact (show False from e).elim
theorem AE (ha:PE X a ta) (he:∀ whole,isTrue a X.env whole=(do let v <- whole;standAt a.pos;holding [v] (truthy v))) :
  PT X a (λσ H Q=>ta σ H λx H' => ∃ k,ja X.K x H' k/\Q k H'):=by
 intro pins s σ H Q I h
 exact isTrue_plain (thn (ha pins s σ H _ I h) λv s1 ⟨x,H1,I1,r1,q1⟩=>AD pins s1 σ H1 x v Q I1 r1 q1) (he _)
theorem zgs:OpR X (binaryOp .Add) (λx y H Q=>∃ i j,x = .str i/\y = .str j/\i.length+j.length<=sizeLine/\Q (.str (i++j)) H):=by
 intro pins s σ H x y v u Q I rx ry h
 obtain ⟨i,j,rfl,rfl,hz,q⟩:=h
 obtain ⟨t,rfl⟩:=rx
 obtain ⟨t',rfl⟩:=ry
 exact add_str (λt' tk=>⟨.str (i++j),H,I.tok _,⟨_,rfl⟩,q⟩) hz
theorem gU {x:V} {us:List Value} (r:Vals [x] us):∃ u,us=[u]/\RelV x u:=by
 cases r with
 | cons r1 r2=>cases r2;exact ⟨_,rfl,r1⟩
theorem pP {x y:V} {us:List Value} (r:Vals [x,y] us):∃ u w',us=[u,w']/\RelV x u/\RelV y w' := by
 cases r with
 | cons r1 r2 =>
  cases r2 with
  | cons r3 r4=>cases r4;exact ⟨_,_,rfl,r1,r3⟩
theorem AF:CallR X (.builtin "abs") (λxs H Q=>∃ i,xs=[.int i]/\Q (.int (if i<0 then -i else i)) H):=by
 intro pins s σ H xs us Q I r h
 obtain ⟨i,rfl,q⟩:=h
 obtain ⟨u,rfl,t,rfl⟩:=gU r
 exact call_abs_int λu tk=>⟨.int (if i<0 then -i else i),H,I.tok _,⟨_,rfl⟩,q⟩
theorem AG (hc:X.calm=true):CallR X (.builtin "max") (λxs H Q=>∃ i j,xs=[.int i,.int j]/\Q (.int (if j > i then j else i)) H):=by
 intro pins s σ H xs us Q I r h
 obtain ⟨i,j,rfl,q⟩:=h
 obtain ⟨u,w',rfl,⟨t,rfl⟩,⟨t',rfl⟩⟩:=pP r
 refine max_two_ints (I.ok.hd hc) λh' tk k=>⟨_,H,I.kept k,?_,q⟩
 by_cases hj:j > i
 ·rw [JG hj,JG hj];exact ⟨_,rfl⟩
 ·rw [JF hj,JF hj];exact ⟨_,rfl⟩
end
end L2
namespace L2
open PySem PySem.Spec PyProof.Rows
structure ObjM (h:Heap) (x dx C:Addr) (mA:Str->Option Value):Prop where
 obj:h.get? x=some (PySem.W.instObj C dx)
 ns:h.Ns1 dx mA
 ne:dx≠x
theorem AI {h:Heap} {dx:Addr} {mA:Str->Option Value} (n:h.Ns1 dx mA):∃ od,h.get? dx=some od/\∀ name,PySem.W.lookIn name od=some (mA name):=by
 obtain ⟨o,es,ep,ho,hd,hk,_,hm⟩:=n
 refine ⟨o,ho,λname=>?_⟩
 have e:=hm name
 unfold nsFind findBy at e
 rw [<- Array.find?_toList] at e
 unfold PySem.W.lookIn
 rw [hd]
 dsimp only
 split
 ·rename_i y q
  rw [q] at e
  exact congrArg some e
 ·rename_i q
  rw [q] at e
  have a:es.toList.any (·.refKey)=false:=by
   rw [List.any_eq_false]
   intro y hy
   obtain ⟨z,t,hkey⟩:=hk y (Array.mem_toList_iff.mp hy)
   simp [DictEntry.refKey,hkey]
  have a' : ¬ es.toList.any (·.refKey)=true:=by rw [a];exact JT
  rw [JF a']
  exact congrArg some e
theorem ObjM.look {h:Heap} {x dx C:Addr} {mA:Str->Option Value} (I:ObjM h x dx C mA):∃ od,PySem.W.InstAt h x (PySem.W.instObj C dx) C (some od)/\∀ name,PySem.W.lookIn name od=some (mA name) :=
 let ⟨od,ho,hl⟩:=AI I.ns
 ⟨od,⟨I.obj,rfl,rfl,ho⟩,hl⟩
section
variable {prog:Program} {w:World} {A:Around} {E:Value->Shared->Prop} {s:Shared} {K:PySem.W.Frag} {x dx C f:Addr} {mA:Str->Option Value} {name:Str} {v:Value}
theorem AJ {expr:Bool} {Q:Value->Shared->Prop} (X:K.In s.heap) (I:ObjM s.heap x dx C mA) (hg:PySem.W.plainGet K C name=true) (hh:PySem.W.hasDictIn K C=true)
  (ha:PySem.W.findIn K (.ref C) name=some none) (hv:mA name=some v) (hv':PySem.W.handedIn v=true) (h:Q v { s with toks:=s.toks+1 }) :
  wpAny (model prog w) A (getAttr (.ref x) name expr) Q E s:=by
 obtain ⟨od,J,hl⟩:=I.look
 exact PySem.W.get_value X J (Nn hg).1 (PySem.W.findObj_own hh ha rfl (by rw [hl,hv])) hv' h
theorem AK {pl:Sem Bool} {Q:Value×List Value->Shared->Prop} (X:K.In s.heap) (I:ObjM s.heap x dx C mA) (hg:PySem.W.plainGet K C name=true)
  (hf:PySem.W.findIn K (.ref C) name=some (some (.ref f))) (ht:PySem.W.isFn K (.ref f)=true) (hv:mA name=none) (h:Q (.ref f,[.ref x]) s) :
  wpAny (model prog w) A (getMethod (.ref x) name pl) Q E s:=by
 obtain ⟨od,J,hl⟩:=I.look
 exact PySem.W.method_fn X J (Nn hg).1 (Nn hg).2 hf (beq_iff_eq.mp ht) (by show (PySem.W.lookIn name od).map (·.isSome)=some false;rw [hl,hv];rfl) h
theorem AL {ns:List Str} {Q:Unit->Shared->Prop} (X:K.In s.heap) (I:ObjM s.heap x dx C mA)
  (hs:PySem.W.findIn K (.ref C) "__setattr__" = some (some (.builtin "object.__setattr__"))) (hp:PySem.W.plainOver K C=true) (ht:PySem.W.takerIn K C name=some none) (hh:PySem.W.hasDictIn K C=true)
  (hw:PySem.Within mA ns) (hsz:ns.length<=sizeLine)
  (h:∀ h',ObjM h' x dx C (λy=>if y=name then some v else mA y)->Heap.SameBut dx s.heap h'->Q () { s with heap:=h',toks:=s.toks+2 }) :
  wpAny (model prog w) A (setAttr (.ref x) name v) Q E s:=by
 obtain ⟨od,J,hl⟩:=I.look
 refine PySem.W.set_plain X J hs (PySem.W.osa_open (s:={ s with toks:=s.toks+1 }) (r:=none) X J hp ht λb=>?_)
 obtain ⟨cd,hc,hd'⟩:=PySem.W.any_some hh
 have hx:s.heap.get? x=some ⟨.ref C,some dx,.plain,#[]⟩:=I.obj
 refine Jz (JB (Jz (Jz (wpAny_loadPart hx (Jz (PySem.W.Looks.here (s:={ s with toks:=s.toks+1 }) (PySem.W.looks_clsIn X hc) ?_))))))
 rw [hd']
 refine JB (a:=some dx) (Jz (JB (Jz ?_)))
 refine wpAny_nsSet1 (s:={ s with toks:=s.toks+1 }) I.ns λh' hn2 hs2=>?_
 obtain ⟨oD,esD,epD,hoD,hdD,hcD⟩:=hn2.count (PySem.Within.cons name v hw)
 refine Jz (wpAny_lookBehind hoD (by rw [hdD];exact pastItsLine_dict (JI hcD (by rw [Kj];lia))) ?_)
 exact JB (h _ ⟨(hs2.2 _ (Ne.symm I.ne)).trans I.obj,hn2,I.ne⟩ hs2)
theorem AM {R:Result->Shared->Prop} {vs:List Value} {kw:List (Str×Value)} (X:K.In s.heap) (hm:PySem.W.makesIn K C=true)
  (hi:PySem.W.findIn K (.ref C) "__init__" = some (some (.ref f))) (hf:PySem.W.typeIn K (.ref f)=some (.type "function"))
  (h:codeAny (model prog w) (A.under (.builtin "type.__call__" ⟨.ref C::vs,kw⟩)) (.call (.ref f) ⟨.ref (s.heap.objs.size+1)::vs,kw⟩) (PySem.W.InitBack (s.heap.objs.size+1) R)
   { s with heap:=(s.heap.push PySem.W.emptyDict).push (PySem.W.instObj C s.heap.objs.size) }) :
  codeAny (model prog w) A (.call (.ref C) ⟨vs,kw⟩) R s:=by
 obtain ⟨hh,g,d,t,os⟩:=s
 exact PySem.W.make_core (PySem.W.makes_of X hm) (PySem.W.looks_findIn X hi) (λself=>PySem.W.bind_fn X self hf) (.inl rfl) h
end
noncomputable def br (f:Str) (v:V):List (Str×V)->List (Str×V)
 | []=>[(f,v)]
 | (g,x)::r=>if g=f then (g,v)::r else (g,x)::br f v r
theorem mM (f g:Str) (v:V):∀ fs:List (Str×V),(br f v fs).lookup g=if g=f then some v else fs.lookup g
 | []=>by
  show List.lookup g [(f,v)]=_
  by_cases h:g=f
  ·have hb:(g == f)=true:=beq_iff_eq.mpr h
   simp only [List.lookup,hb,JG h]
  ·have hb:(g == f)=false:=beq_eq_false_iff_ne.mpr h
   simp only [List.lookup,hb,JF h]
 | (k,x)::r=>by
  have ih:=mM f g v r
  rw [show br f v ((k,x)::r)=(if k=f then (k,v)::r else (k,x)::br f v r) from rfl]
  by_cases hk:k=f
  ·rw [JG hk]
   by_cases h:g=k
   ·have hb:(g == k)=true:=beq_iff_eq.mpr h
    simp only [List.lookup,hb,JG (h.trans hk)]
   ·have hb:(g == k)=false:=beq_eq_false_iff_ne.mpr h
    simp only [List.lookup,hb,JF (λe:g=f=>h (e.trans hk.symm))]
  ·rw [JF hk]
   by_cases h:g=k
   ·have hb:(g == k)=true:=beq_iff_eq.mpr h
    simp only [List.lookup,hb,JF (λe:g=f=>hk (h.symm.trans e))]
   ·have hb:(g == k)=false:=beq_eq_false_iff_ne.mpr h
    simp only [List.lookup,hb]
    exact ih
theorem pQ (f:Str) (v:V):∀ fs:List (Str×V),f∈(br f v fs).map (·.1)/\∀ g,g∈fs.map (·.1)->g∈(br f v fs).map (·.1)
 | []=>⟨by simp [br],λg h=>by simp at h⟩
 | (k,x)::r=>by
  obtain ⟨i1,i2⟩:=pQ f v r
  rw [show br f v ((k,x)::r)=(if k=f then (k,v)::r else (k,x)::br f v r) from rfl]
  by_cases hk:k=f
  ·rw [JG hk]
   subst hk
   exact ⟨by simp,λg h=>by simpa using h⟩
  ·rw [JF hk]
   refine ⟨?_,λg h=>?_⟩
   ·rw [J8]
    exact Km _ i1
   ·rw [J8] at h ⊢
    rcases J4.mp h with e | e
    ·exact J4.mpr (.inl e)
    ·exact Km _ (i2 g e)
theorem uZ (f:Str) (v:V):∀ fs:List (Str×V),(br f v fs).length<=fs.length+1
 | []=>by simp [br]
 | (k,x)::r=>by
  have ih:=uZ f v r
  rw [show br f v ((k,x)::r)=(if k=f then (k,v)::r else (k,x)::br f v r) from rfl]
  by_cases hk:k=f
  ·rw [JG hk,Kj,Kj];lia
  ·rw [JF hk,Kj,Kj];lia
theorem RelO.some_of {v:V} {o:Option Value} (r:RelO (some v) o):∃ u,o=some u/\RelV v u:=by
 cases o with
 | none=>exact (show False from r).elim
 | some u=>exact ⟨u,rfl,r⟩
theorem RelO.none_of {o:Option Value} (r:RelO none o):o=none:=by
 cases o with
 | none=>rfl
 | some u=>exact (show False from r).elim
theorem AN {v:V} {u:Value} (r:RelV v u):PySem.W.handedIn u=true:=by
 cases v with
 | non=>cases (show u=Value.none from r);rfl
 | bl b=>cases (show u=Value.bool b from r);rfl
 | int i=>obtain ⟨t,e⟩:=(show ∃ t,u=Value.int i t from r);cases e;rfl
 | str x=>obtain ⟨t,e⟩:=(show ∃ t,u=Value.str x t from r);cases e;rfl
 | byt b=>obtain ⟨t,e⟩:=(show ∃ t,u=Value.bytes b t from r);cases e;rfl
 | flt b=>obtain ⟨t,e⟩:=(show ∃ t,u=Value.float b t from r);cases e;rfl
 | ref a=>cases (show u=Value.ref a from r);rfl
 | ty n=>cases (show u=Value.type n from r);rfl
section
variable {P:Program} {w:World} {H H':Hp} {h h':Heap} {a C dx:Addr} {fs fs':List (Str×V)}
theorem mO (hok:HOk P w H h) (e:H a=some (.ins C dx fs)):∃ mA,ObjM h a dx C mA/\(∀ f,RelO (fs.lookup f) (mA f))/\PySem.Within mA (fs.map (·.1))/\fs.length<=1000/\H dx=some (.own a):=by
 obtain ⟨d,z,ne,ob,mA,n,r,q⟩:=(show ObjOk P w H h a (.ins C dx fs) from hok a _ e)
 exact ⟨mA,⟨ob,n,ne⟩,r,q,z,d⟩
end
structure Cls (K:PySem.W.Frag) (C:Addr):Prop where
 pg:PySem.W.plainGet K C Str.empty=true
 hd:PySem.W.hasDictIn K C=true
 po:PySem.W.plainOver K C=true
 sa:PySem.W.findIn K (.ref C) "__setattr__" = some (some (.builtin "object.__setattr__"))
theorem Cls.get {K:PySem.W.Frag} {C:Addr} (c:Cls K C) (f:Str):PySem.W.plainGet K C f=true:=c.pg
noncomputable def NoAttr (K:PySem.W.Frag) (C:Addr) (f:Str):Prop:=PySem.W.findIn K (.ref C) f=some none
theorem NoAttr.taker {K:PySem.W.Frag} {C:Addr} {f:Str} (n:NoAttr K C f):PySem.W.takerIn K C f=some none:=by
 unfold PySem.W.takerIn
 rw [show PySem.W.findIn K (.ref C) f=some none from n]
 rfl
structure fU (K:PySem.W.Frag) (C:Addr) (m:Str) (f:Addr):Prop where
 at_:PySem.W.findIn K (.ref C) m=some (some (.ref f))
 fn:PySem.W.isFn K (.ref f)=true
 kp:PySem.W.keepIn K (.ref f)=true
section
variable {X:Cx} {pins:List (Addr×Obj)} {σ:St} {H:Hp} {s:Shared} {a C dx:Addr} {fs:List (Str×V)} {f:Str} {v:V} {A:Around} {E:Value->Shared->Prop}
theorem AQ {b:Bool} {Q:Value->Shared->Prop} (I:Inv X pins σ H s) (e:H a=some (.ins C dx fs)) (c:Cls X.K C) (n:NoAttr X.K C f) (l:fs.lookup f=some v)
  (h:∀ u s',Inv X pins σ H s'->RelV v u->Q u s'):wpAny (model X.prog X.w) A (getAttr (.ref a) f b) Q E s:=by
 obtain ⟨mA,O,r,_,_,_⟩:=mO I.hok e
 obtain ⟨u,hu,ru⟩:=RelO.some_of (v:=v) (o:=mA f) (by rw [<- l];exact r f)
 exact AJ I.kIn O (c.get f) c.hd n hu (AN ru) (h u _ (I.tok _) ru)
theorem u0 {m:Str} {g:Addr} {pl:Sem Bool} {Q:Value×List Value->Shared->Prop} (I:Inv X pins σ H s) (e:H a=some (.ins C dx fs)) (c:Cls X.K C) (k:fU X.K C m g) (l:fs.lookup m=none)
  (h:Q (.ref g,[.ref a]) s):wpAny (model X.prog X.w) A (getMethod (.ref a) m pl) Q E s:=by
 obtain ⟨mA,O,r,_,_,_⟩:=mO I.hok e
 have hn:mA m=none:=RelO.none_of (by rw [<- l];exact r m)
 exact AK I.kIn O (c.get m) k.at_ k.fn hn h
theorem AR {y:V} {u:Value} {Q:Unit->Shared->Prop} (I:Inv X pins σ H s) (e:H a=some (.ins C dx fs)) (c:Cls X.K C) (n:NoAttr X.K C f) (hl:fs.length<1000) (ry:RelV y u)
  (h:∀ s',Inv X pins σ (aJ H a (.ins C dx (br f y fs))) s'->Q () s'):wpAny (model X.prog X.w) A (setAttr (.ref a) f u) Q E s:=by
 obtain ⟨mA,O,r,wi,_,ho⟩:=mO I.hok e
 have hz:(fs.map (·.1)).length<=sizeLine:=by rw [JN,sizeLine_eq];lia
 refine AL I.kIn O c.sa c.po n.taker c.hd wi hz λh' O' sb=>h _ ?_
 have hd:∃ o,h'.get? dx=some o:=let ⟨o,_,_,e',_⟩:=O'.ns;⟨o,e'⟩
 refine I.write (x:=a) (e:=dx) (by rw [e];exact True.intro) (.inr ho) (λb q hb z=>(sb.2 b hb).trans z) hd ?_
 refine ⟨by rw [bN O.ne];exact ho,?_,O.ne,O'.obj,_,O'.ns,λg=>?_,λg hg=>?_⟩
 ·have:=uZ f y fs;lia
 ·show RelO ((br f y fs).lookup g) (if g=f then some u else mA g)
  rw [mM]
  by_cases q:g=f
  ·rw [JG q,JG q];exact ry
  ·rw [JF q,JF q];exact r g
 ·by_cases q:g=f
  ·rw [q];exact (pQ f y fs).1
  ·refine (pQ f y fs).2 g (wi g λz=>hg ?_)
   show (if g=f then some u else mA g)=none
   rw [JF q];exact z
theorem Inv.made (I:Inv X pins σ H s):Inv X pins σ (aJ (aJ H s.heap.objs.size (.own (s.heap.objs.size+1))) (s.heap.objs.size+1) (.ins C s.heap.objs.size []))
  { s with heap:=(s.heap.push PySem.W.emptyDict).push (PySem.W.instObj C s.heap.objs.size) }:=by
 have e1:(s.heap.push PySem.W.emptyDict).get? s.heap.objs.size=some PySem.W.emptyDict:=JL s.heap rfl
 have e2:((s.heap.push PySem.W.emptyDict).push (PySem.W.instObj C s.heap.objs.size)).get? (s.heap.objs.size+1)=some (PySem.W.instObj C s.heap.objs.size):=by
  have:=JL (s.heap.push PySem.W.emptyDict) (o:=PySem.W.instObj C s.heap.objs.size) rfl
  rwa [LX] at this
 have e3:(s.heap.push PySem.W.emptyDict).Ns s.heap.objs.size (λ_=>none):=⟨PySem.W.emptyDict,#[],_,e1,rfl,(λe he=>absurd he (by simp)),λ_=>rfl⟩
 have I1:=I.laid (a:=s.heap.objs.size) (o:=.own (s.heap.objs.size+1)) (h' := s.heap.push PySem.W.emptyDict) (t' := s.toks) (λb u q=>JD _ q) (JC _) ⟨_,e1⟩
 refine I1.laid (a:=s.heap.objs.size+1) (o:=.ins C s.heap.objs.size []) (t' := s.toks) (λb u q=>JD _ q) (Nq (LX _ _)) ?_
 have ne:s.heap.objs.size≠s.heap.objs.size+1:=Ka (Mz _)
 refine ⟨by rw [bN ne,eP],Ki _,ne,e2,λ_=>none,(Heap.Ns1.of_empty e3).at λo q=>JD _ q,λ_=>True.intro,λy hy=>absurd rfl hy⟩
theorem AS {prog:Program} {w:World} {env:Env} {e:Expr} {f:Str} {pos:Pos} {s:Shared} {Q:Value->Shared->Prop} (hb:attributeBase e f env (eval e env)=eval e env)
  (h:wpAny (model prog w) A (eval e env) (λo s₁=>wpAny (model prog w) A (getAttr o f true) Q E s₁) E s):wpAny (model prog w) A (eval (.Attribute e f pos) env) Q E s :=
 Attribute_any_ h (by rw [arm_eval_Attribute,hb])
end
noncomputable def pR (K:PySem.W.Frag) (ta:TE) (f:Str):TE:=λσ H Q=>ta σ H λx H1=>∃ a C dx fs v,x = .ref a/\H1 a=some (.ins C dx fs)/\Cls K C/\NoAttr K C f/\fs.lookup f=some v/\Q v H1
noncomputable def sFld (K:PySem.W.Frag) (ta tv:TE) (f:Str):TS:=λD σ H=>tv σ H λy H1=>ta σ H1 λx H2=>∃ a C dx fs,x = .ref a/\H2 a=some (.ins C dx fs)/\Cls K C/\NoAttr K C f/\fs.length<1000 /\
 D.nx σ (aJ H2 a (.ins C dx (br f y fs)))
section
variable {X:Cx} {o e value:Expr} {f:Str} {pos pos' tpos:Pos} {ta tv:TE}
theorem AU (he:PE X e ta) (hb:attributeBase e f X.env (eval e X.env)=eval e X.env):PE X (.Attribute e f pos) (pR X.K ta f):=by
 intro pins s σ H Q I h
 refine AS hb (thn (he pins s σ H _ I h) λu s1 Zz=>?_);obtain ⟨x,H1,I1,rx,a,C,dx,fs,v,ex,ea,c,n,l,q⟩:=Zz
 subst ex
 obtain rfl:u=Value.ref a:=rx
 exact AQ I1 ea c n l λu' s2 I2 ru=>⟨v,H1,I2,ru,q⟩
theorem AW (ha:PE X o ta) (hv:PE X value tv) (hs:swapsWith value (some (.Attribute o f pos')) pos.line X.env=pure false):PS X (.Assign [.Attribute o f pos'] value pos) (sFld X.K ta tv f):=by
 intro pins s σ H D I h
 refine plainObj_wpAny_Assign_Attribute (thn (hv pins s σ H _ I h) λu s1 ⟨y,H1,I1,ry,q⟩=>thn (ha pins s1 σ H1 _ I1 q) λov s2 Zz=>?_) hs;obtain ⟨x,H2,I2,rx,a,C,dx,fs,ex,ea,c,n,l,q2⟩:=Zz
 subst ex
 obtain rfl:ov=Value.ref a:=rx
 exact AR I2 ea c n l ry λs3 I3=>⟨σ,_,I3,q2⟩
end
section
variable {X:Cx} {pins:List (Addr×Obj)} {σ:St} {H:Hp} {s:Shared} {A:Around} {E:Value->Shared->Prop} {Q:Value->Shared->Prop} {c:Value} {b:Bool}
inductive cy (K:PySem.W.Frag) (H:Hp):V->Value->Prop where
 | non:cy K H .non (.type "NoneType")
 | bl (x:Bool):cy K H (.bl x) (.type "bool")
 | int (i:Int):cy K H (.int i) (.type "int")
 | str (x:Str):cy K H (.str x) (.type "str")
 | flt (x:UInt64):cy K H (.flt x) (.type "float")
 | lst {a:Addr} {xs:List V} (e:H a=some (.lst xs)):cy K H (.ref a) (.type "list")
 | frz {a:Addr} {o:Obj} {xs:List V} (e:H a=some (.frz o (.lst xs))):cy K H (.ref a) (.type "list")
 | tup {a:Addr} {xs:List V} (e:H a=some (.tup xs)):cy K H (.ref a) (.type "tuple")
 | dK {a:Addr} {kvs:List (aH×V)} (e:H a=some (.dK kvs)):cy K H (.ref a) (.type "dict")
 | dT {a:Addr} {xc:Option (List Addr)} {kvs:List (List aH×V)} (e:H a=some (.dT xc kvs)):cy K H (.ref a) (.type "dict")
 | ins {a C dx:Addr} {fs:List (Str×V)} (e:H a=some (.ins C dx fs)) (cl:Cls K C) (ha:PySem.W.findIn K (.ref C) "__class__" = some (some (.builtin "object.__class__")))
   (hn:PySem.W.specialIn K (.builtin "object.__class__") "__get__" = some (some (.builtin "getset_descriptor.__get__"))) (htk:PySem.W.takesIn K (.builtin "object.__class__")=some true)
   (hm:PySem.W.mroIn K C (.type "object")=some true):cy K H (.ref a) (.ref C)
theorem AX {x:V} {u t:Value} (I:Inv X pins σ H s) (rx:RelV x u) (ty:cy X.K H x t) (e:PySem.W.kitOne X.K t c=some b) (h:∀ tk,Q (.bool b) { s with toks:=tk }) :
  wpAny (model X.prog X.w) A (call (.builtin "isinstance") [u,c]) Q E s:=by
 cases ty with
 | non=>cases (show u=Value.none from rx);exact KN PySem.W.kitx_none I.kIn True.intro e (λz=>nomatch z) h
 | bl y=>cases (show u=Value.bool y from rx);exact KN PySem.W.kitx_bool I.kIn True.intro e (λz=>nomatch z) h
 | int i=>obtain ⟨t,q⟩:=(show ∃ t,u=Value.int i t from rx);cases q;exact KN PySem.W.kitx_int I.kIn True.intro e (λz=>nomatch z) h
 | str y=>obtain ⟨t,q⟩:=(show ∃ t,u=Value.str y t from rx);cases q;exact KN PySem.W.kitx_str I.kIn True.intro e (λz=>nomatch z) h
 | flt y=>obtain ⟨t,q⟩:=(show ∃ t,u=Value.float y t from rx);cases q;exact KN PySem.W.kitx_float I.kIn True.intro e (λz=>nomatch z) h
 | @lst a xs ea =>
  cases (show u=Value.ref a from rx)
  obtain ⟨_,_,n,_,h1⟩:=(show ObjOk X.prog X.w H s.heap a (.lst xs) from I.hok a _ ea)
  exact KN NL I.kIn ⟨_,h1,rfl⟩ e (λz=>nomatch z) h
 | @frz a ob xs ea =>
  cases (show u=Value.ref a from rx)
  obtain ⟨_,_,_,n,_,h1⟩:=(show ObjOk X.prog X.w H s.heap a (.frz ob (.lst xs)) from I.hok a _ ea)
  exact KN NL I.kIn ⟨_,h1,rfl⟩ e (λz=>nomatch z) h
 | @tup a xs ea =>
  cases (show u=Value.ref a from rx)
  obtain ⟨_,_,_,p⟩:=(show ObjOk X.prog X.w H s.heap a (.tup xs) from I.hok a _ ea)
  obtain ⟨o,h1,h2,_⟩:=p
  exact KN PySem.W.kitx_tuple I.kIn ⟨o,h1,h2⟩ e (λz=>nomatch z) h
 | @dK a kvs ea =>
  cases (show u=Value.ref a from rx)
  obtain ⟨_,_,vs,_,p⟩:=(show ObjOk X.prog X.w H s.heap a (.dK kvs) from I.hok a _ ea)
  obtain ⟨o,es,ep,h1,h2,_⟩:=p
  exact KN O9 I.kIn ⟨o,h1,h2.1⟩ e (λz=>nomatch z) h
 | @dT a xc kvs ea =>
  cases (show u=Value.ref a from rx)
  obtain ⟨_,_,xs,_,o,es,ep,h1,h2,_⟩:=(show ObjOk X.prog X.w H s.heap a (.dT xc kvs) from I.hok a _ ea)
  exact KN O9 I.kIn ⟨o,h1,h2.1⟩ e (λz=>nomatch z) h
 | @ins a C dx fs ea cl ha hn htk hm =>
  cases (show u=Value.ref a from rx)
  obtain ⟨mA,O,_⟩:=mO I.hok ea
  obtain ⟨od,J,_⟩:=O.look
  exact KN (PySem.W.kitx_own (cl.get _) cl.hd ha hn htk hm) I.kIn J e (λz=>nomatch z) h
end
end L2
namespace L2
open PySem PySem.Spec PyProof.Rows
structure Room (k:Nat) (A:Around):Prop where
 hd:A.handled=none
 dp:A.depth+3*k+5<recursionLimit
 un:A.units+16*k+200<cLine
theorem Room.mono {j k:Nat} {A:Around} (r:Room k A) (h:j<=k):Room j A:=⟨r.hd,by have:=r.dp;lia,by have:=r.un;lia⟩
theorem Room.deeper {k:Nat} {A:Around} (r:Room (k+1) A) (env:Env):Room k (A.deeper env) :=
 ⟨r.hd,by have:=r.dp;show A.depth+1+3*k+5<_;lia,by have:=r.un;show A.units+3+16*k+200<_;lia⟩
theorem AY {A:Around} {C:Addr} {us:List Value} {kw:List (Str×Value)}:(A.under (.builtin "type.__call__" ⟨.ref C::us,kw⟩)).depth=A.depth+1:=by
 first | rfl | simp [Around.under,Code.weight,Code.isCreation,Code.isGuard,Code.isCaller,Code.frames,Code.isFrame,guardIds]
theorem AZ {A:Around} {C:Addr} {us:List Value} {kw:List (Str×Value)}:(A.under (.builtin "type.__call__" ⟨.ref C::us,kw⟩)).units=A.units+1:=by
 first | rfl | simp [Around.under,Code.cUnits,Code.frames,Code.isFrame]
theorem Room.make {k:Nat} {A:Around} (r:Room (k+1) A) (C:Addr) (us:List Value) (kw:List (Str×Value)):Room k (A.under (.builtin "type.__call__" ⟨.ref C::us,kw⟩)) :=
 ⟨r.hd,by have:=r.dp;rw [AY];lia,by have:=r.un;rw [AZ];lia⟩
theorem Room.depth {k:Nat} {A:Around} (r:Room k A):A.depth<recursionLimit:=by have:=r.dp;lia
noncomputable def pS:TA:=λ_ H Q=>Q [] H
noncomputable def A0 (ta:TE) (tr:TA):TA:=λσ H Q=>ta σ H λx H1=>tr σ H1 λxs H2=>Q (x::xs) H2
section
variable {X:Cx} {e:Expr} {es:List Expr} {te:TE} {t:TA} {pos:Pos}
theorem u7:PA X [] pS:=λ_ _ _ _ H Q I h=>Mr ⟨[],H,I,.nil,h⟩
theorem pT (ha:PE X e te) (hr:PA X es t) (hs:starEach (e::es) X.env=(false,eval e X.env)::starEach es X.env:=by rfl):PA X (e::es) (A0 te t):=by
 intro pos pins s σ H Q I h
 rw [hs]
 show wpAny _ _ (spliced ((false,eval e X.env)::backTo pos (starEach es X.env))) _ _ s
 refine Mc (thn (ha pins s σ H _ I h) λu s1 Zz=>?_);obtain ⟨x,H1,I1,r1,q1⟩:=Zz
 exact thn (hr pos pins s1 σ H1 _ I1 q1) λus s2 ⟨xs,H2,I2,r2,q2⟩=>⟨x::xs,H2,I2,.cons r1 r2,q2⟩
noncomputable def pU (t:TA):TE:=λσ H Q=>t σ H λxs H1=>xs.length<=sizeLine/\∀ p,H1 p=none->Q (.ref p) (aJ H1 p (.tup xs))
noncomputable def pV (t:TA):TE:=λσ H Q=>t σ H λxs H1=>xs.length<=sizeLine/\∀ p,H1 p=none->Q (.ref p) (aJ H1 p (.lst xs))
theorem A1 {x1} (h:PA X es t):PE X (.Tuple es x1 pos) (pU t):=by
 intro pins s σ H Q I hq
 refine wpAny_Tuple_spliced (thn (h pos pins s σ H _ I hq) λus s1 ⟨xs,H1,I1,r,z,q⟩=>⟨by rw [<- r.length];exact z,?_⟩)
 have hf:H1 s1.heap.objs.size=none:=I1.hok.fresh (JC _)
 refine ⟨.ref s1.heap.objs.size,aJ H1 s1.heap.objs.size (.tup xs),I1.laid (t' := s1.toks) (λb u e=>JD _ e) (JC _) ?_,rfl,q _ hf⟩
 exact ⟨z,us,r,⟨_,JL _ rfl,rfl,_,rfl⟩⟩
theorem u9 (h:PA X es t):PE X (.List es pos) (pV t):=by
 intro pins s σ H Q I hq
 refine wpAny_List_spliced (thn (h pos pins s σ H _ I hq) λus s1 ⟨xs,H1,I1,r,z,q⟩=>⟨by rw [<- r.length];exact z,?_⟩)
 have hf:H1 s1.heap.objs.size=none:=I1.hok.fresh (JC _)
 refine ⟨.ref s1.heap.objs.size,aJ H1 s1.heap.objs.size (.lst xs),I1.laid (t' := s1.toks) (λb u e=>JD _ e) (JC _) ?_,rfl,q _ hf⟩
 exact ⟨z,us,0,r,JL _ rfl⟩
end
noncomputable abbrev Sp:=List V->Hp->VK->XK->Prop
noncomputable abbrev eC:=List Env->Hp->Shared->XK->Value->Shared->Prop
structure Env0 (P:Program) (w:World) (K:PySem.W.Frag) (mg:Str->Option Value) (base:Heap) (A:Around) (outer:List Env) (s:Shared) (H:Hp):Prop where
 frames:A.frames=some outer
 mod:Mod K mg base
 bs:∀ b o,base.get? b=some o->s.heap.get? b=some o/\H b=none
 bsz:base.objs.size<=s.heap.objs.size
 funs:s.heap.FunFrames base outer
 frf:∀ b∈c6 outer,H b=none
 hok:HOk P w H s.heap
 bare:AllBare s.gens
noncomputable def CE (outer:List Env) (P:Program) (w:World) (H:Hp) (s:Shared) (Q:VK) (u:Value) (s':Shared):Prop :=
 ∃ v H',s'.os=s.os/\AllBare s'.gens/\Un (c6 outer) [] H H' s.heap s'.heap/\HOk P w H' s'.heap/\RelV v u/\Q v H'
noncomputable def CR (CX:eC) (outer:List Env) (P:Program) (w:World) (H:Hp) (s:Shared) (Q:VK) (E:XK) (r:Result) (s':Shared):Prop :=
 match r with
 | .ok (.ret u)=>CE outer P w H s Q u s'
 | .ok _=>False
 | .error e=>CX outer H s E e s'
structure FnOk (P:Program) (w:World) (K:PySem.W.Frag) (mg:Str->Option Value) (base:Heap) (CX:eC) (k:Nat) (f:Addr) (fd:FuncData) (ps:List Str) (sp:Sp):Prop where
 len:∀ vs H Q E,sp vs H Q E->vs.length=ps.length
 run:∀ (A:Around) (outer:List Env) (s:Shared) (H:Hp) (args:Args) (us:List Value) (vs:List V) (Q:VK) (E:XK),Room k A->Env0 P w K mg base A outer s H->BindsTo s fd args (ps.zip us)->Vals vs us->sp vs H Q E ->
  codeAny (model P w) A (.call (.ref f) args) (CR CX outer P w H s Q E) s
theorem FnOk.imp {P:Program} {w:World} {K:PySem.W.Frag} {mg:Str->Option Value} {base:Heap} {CX:eC} {k:Nat} {f:Addr} {fd:FuncData} {ps:List Str} {sp sp':Sp} (F:FnOk P w K mg base CX k f fd ps sp)
  (h:∀ vs H Q E,sp' vs H Q E->sp vs H Q E):FnOk P w K mg base CX k f fd ps sp' :=
 ⟨λvs H Q E q=>F.len vs H Q E (h _ _ _ _ q),λA outer s H args us vs Q E hr he hb hv hs=>F.run A outer s H args us vs Q E hr he hb hv (h _ _ _ _ hs)⟩
theorem Env0.make {P:Program} {w:World} {K:PySem.W.Frag} {mg:Str->Option Value} {base:Heap} {A:Around} {outer:List Env} {s:Shared} {H:Hp} (e:Env0 P w K mg base A outer s H) (C:Addr) (us:List Value) (kw:List (Str×Value)) :
  Env0 P w K mg base (A.under (.builtin "type.__call__" ⟨.ref C::us,kw⟩)) outer s H:=⟨by first | exact e.frames | (simpa [Around.under,Code.envs,Code.isFrame,pushEnvs] using e.frames),e.mod,e.bs,e.bsz,e.funs,e.frf,e.hok,e.bare⟩
section
variable {X:Cx} {pins:List (Addr×Obj)} {σ:St} {H:Hp} {s s':Shared}
theorem Inv.env0 (I:Inv X pins σ H s):Env0 X.prog X.w X.K X.mg X.base X.A X.stack s H :=
 ⟨I.ok.frames,I.ok.mod,I.bs,JI I.ok.bsz I.sz,I.stack,I.stkFree,I.hok,I.bare⟩
theorem Inv.after {Q:VK} {u:Value} (I:Inv X pins σ H s) (h:CE X.stack X.prog X.w H s Q u s'):EP X pins σ Q u s' := by
 obtain ⟨v,H',os,bare,un,hok,r,q⟩:=h
 obtain ⟨hh,g,d,t,os'⟩:=s'
 obtain rfl:os'=s.os:=os
 exact ⟨v,H',I.call (h' := hh) (g' := g) (d' := d) (t' := t) (ch:=[]) un hok bare (λb z=>absurd z (by simp)),r,q⟩
end
noncomputable def Binds (K:PySem.W.Frag) (fd:FuncData) (ps:List Str) (ds:List Value):Prop :=
 ∀ (s:Shared) (us:List Value),K.In s.heap->(us++ds).length=ps.length->BindsTo s fd ⟨us,[]⟩ (ps.zip (us++ds))
theorem Binds.all {K:PySem.W.Frag} {fd:FuncData} {ps:List Str} (h:∀ us:List Value,us.length=ps.length->bindArgs fd ⟨us,[]⟩=pure (ps.zip us)):Binds K fd ps []:=λs us _ hl=>by
 rw [Ln] at hl ⊢
 exact .of_eq (h us hl)
noncomputable def A2 (CX:eC) (X:Cx) (E:XK):Prop:=∀ (pins:List (Addr×Obj)) (σ:St) (H:Hp) (s:Shared) (e:Value) (s':Shared),Inv X pins σ H s->CX X.stack H s E e s'->X.xe e s'
section
variable {X:Cx} {CX:eC} {k:Nat} {f C:Addr} {fd:FuncData} {ps:List Str} {sp:Sp} {dvs:List V} {ds:List Value} {E:XK} {x m:Str} {p pos apos:Pos} {e o:Expr} {es:List Expr} {ta:TE} {t:TA}
structure Mk (K:PySem.W.Frag) (C f:Addr):Prop where
 makes:PySem.W.makesIn K C=true
 init:PySem.W.findIn K (.ref C) "__init__" = some (some (.ref f))
 fn:PySem.W.isFn K (.ref f)=true
 kp:PySem.W.keepIn K (.ref C)=true
end
section
variable {X:Cx} {CX:eC} {k:Nat} {f C:Addr} {fd:FuncData} {ps ks:List Str} {sp:Sp} {E:XK} {x m:Str} {p pos apos kpos:Pos} {e o:Expr} {es:List Expr} {kws:List Keyword} {te ta:TE} {t tk:TA} {nm:Option Str}
variable {g:List Value->List Value->List Value} {gV:List V->List V->List V}
end
structure aq (N P:List Str) (sc:Scope):Prop where
 kind:sc.kind = .function
 co:sc.isCoroutine=false
 gen:sc.isGenerator=false
 nd:N.Nodup
 pre:N.take P.length=P
 par:∀ x∈P,sc.names.lookup x=some .local\/sc.names.lookup x=some .cell
 nofree:∀ y∈sc.names,y.2 ≠ .free
theorem va {kindOf:Str->Option NameKind} {x:Str}:∀ {binds:List (Str×Value)} {m:Str->Option Value},(∀ v,(x,v)∉binds)->bindL kindOf binds m x=m x
 | [],_,_=>rfl
 | (n,v)::r,m,h=>by
  unfold bindL
  rw [va λw hw=>h w (Km _ hw)]
  split
  ·have:x≠n:=by rintro rfl;exact h v KJ
   simp [this]
  ·rfl
theorem vb {kindOf:Str->Option NameKind} {x:Str}:∀ {binds:List (Str×Value)} {m:Str->Option Value},(∀ v,(x,v)∉binds)->bindC kindOf binds m x=m x
 | [],_,_=>rfl
 | (n,v)::r,m,h=>by
  unfold bindC
  rw [vb λw hw=>h w (Km _ hw)]
  split
  ·rfl
  ·have:x≠n:=by rintro rfl;exact h v KJ
   simp [this]
theorem vc {kindOf:Str->Option NameKind} {x:Str} {v:Value}:∀ {P:List Str} {vs:List Value} {i:Nat} {m:Str->Option Value},P.Nodup->P[i]? = some x->vs[i]? = some v->kindOf x=some .local ->
  bindL kindOf (P.zip vs) m x=some v
 | [],_,_,_,_,h,_,_=>by simp at h
 | _::_,[],_,_,_,_,h,_=>by simp at h
 | p::P,w::vs,0,m,nd,h1,h2,hk=>by
  simp at h1 h2;subst h1;subst h2
  show bindL kindOf ((p,w)::P.zip vs) m p=_
  unfold bindL
  rw [va λv hv=>(KO.mp nd).1 (Om hv).1,JG hk]
  simp
 | p::P,w::vs,i+1,m,nd,h1,h2,hk=>by
  show bindL kindOf ((p,w)::P.zip vs) m x=_
  unfold bindL
  exact vc (i:=i) (KO.mp nd).2 (by simpa using h1) (by simpa using h2) hk
theorem vd {kindOf:Str->Option NameKind} {x:Str} {v:Value}:∀ {P:List Str} {vs:List Value} {i:Nat} {m:Str->Option Value},P.Nodup->P[i]? = some x->vs[i]? = some v->kindOf x≠some .local ->
  bindC kindOf (P.zip vs) m x=some v
 | [],_,_,_,_,h,_,_=>by simp at h
 | _::_,[],_,_,_,_,h,_=>by simp at h
 | p::P,w::vs,0,m,nd,h1,h2,hk=>by
  simp at h1 h2;subst h1;subst h2
  show bindC kindOf ((p,w)::P.zip vs) m p=_
  unfold bindC
  rw [vb λv hv=>(KO.mp nd).1 (Om hv).1,JF hk]
  simp
 | p::P,w::vs,i+1,m,nd,h1,h2,hk=>by
  show bindC kindOf ((p,w)::P.zip vs) m x=_
  unfold bindC
  exact vd (i:=i) (KO.mp nd).2 (by simpa using h1) (by simpa using h2) hk
noncomputable def start (N:List Str) (vs:List V):St:=vs.map some++List.replicate (N.length-vs.length) none
noncomputable def bR (CX:eC) (P:Program) (w:World) (K:PySem.W.Frag) (mg:Str->Option Value) (base:Heap) (N:List Str) (qual:Str) (scope:Scope) (f:Addr) (cd:Value) (A:Around) (outer:List Env) (s:Shared) (H:Hp) (E:XK):Cx where
 prog:=P
 w:=w
 K:=K
 mg:=mg
 base:=base
 A:=A.deeper (envOfC qual scope s.heap.objs.size f cd)
 N:=N
 s₀:=s
 H₀:=H
 env:=envOfC qual scope s.heap.objs.size f cd
 outer:=outer
 stack:=envOfC qual scope s.heap.objs.size f cd::outer
 ex:=[]
 calm:=true
 fn:=λ_=>true
 pn:=[]
 xe:=λe s' => wpAny (model P w) (A.deeper (envOfC qual scope s.heap.objs.size f cd)) (leaving (envOfC qual scope s.heap.objs.size f cd) e) (λ_ s'' => CX outer H s E e s'') (λe' s'' => CX outer H s E e' s'') s'
theorem ve {sc:Scope} {n:Nat} {x:Str} (h:sc.names.lookup x=some .cell):∃ c,(cellsFrom n sc.names []).lookup x=some c:=by
 have q:=Oa sc.names n [] (.inl h)
 exact Kk.mp q
theorem A3 {CX:eC} {P:Program} {w:World} {K:PySem.W.Frag} {mg:Str->Option Value} {base:Heap} {N ps:List Str} {qual:Str} {scope:Scope} {f:Addr} {cd:Value} {A:Around} {outer:List Env} {s s1:Shared} {H:Hp} {E:XK} {us:List Value} {vs:List V}
  (S:aq N ps scope) (hd:A.handled=none) (e0:Env0 P w K mg base A outer s H) (hl:vs.length=ps.length) (r:Vals vs us)
  (x:InCallC s s.heap.objs.size (bindL (envOfC qual scope s.heap.objs.size f cd).kindOf (ps.zip us) λ_=>none) (cellsFrom (s.heap.objs.size+1) scope.names []) (bindC (envOfC qual scope s.heap.objs.size f cd).kindOf (ps.zip us) λ_=>none) s1) :
  Inv (bR CX P w K mg base N qual scope f cd A outer s H E) [] (start N vs) H s1:=by
 have hpl:ps.length<=N.length:=by have:=congrArg List.length S.pre;rw [Kr] at this;omega
 obtain ⟨h1,tk,rfl,hk⟩:=x.done
 have noA:∀ b:Addr,b∉(bR CX P w K mg base N qual scope f cd A outer s H E).ex:=λb z=>absurd (show b∈([]:List Addr) from z) (by simp)
 refine ⟨⟨e0.mod,S.kind,rfl,rfl,JC _,λy z c h1 h2=>?_,λy hy=>?_,λy c _ h=>?_,λ_=>hd,Around.frames_deeper e0.frames,.inr ⟨rfl,rfl⟩,λb z=>absurd z (noA b),e0.bs,e0.bsz,λb _ _=>noA b,λb z=>absurd z (noA b),e0.funs,e0.frf⟩,
  rfl,e0.bare,Un.kept hk,⟨_,x.toInCall.ns,λi y v h1 h2 h3=>?_⟩,λy c h=>⟨_,x.cell y c h⟩,e0.hok.fresh (JC _),λy c h=>?_,λp hp=>absurd (show p∈([]:List (Addr×Obj)) from hp) (by simp),e0.hok.kept hk,?_⟩
 ·exact name_of_addr x.apart (Lj h1) (Lj h2)
 ·have hy:scope.names.lookup y=some .cell\/scope.names.lookup y=some .free:=hy
  rcases hy with hy | hy
  ·exact ve hy
  ·exact absurd rfl (S.nofree _ (Lj hy))
 ·exact Mb (x.above y c (Lj h))
 ·have hi:i<vs.length:=by
   unfold start at h2
   by_cases hi:i<vs.length
   ·exact hi
   ·rw [J7 (by simpa using hi)] at h2
    rw [Lq] at h2
    split at h2<;>cases h2
  have ha:vs[i]? = some v:=by
   unfold start at h2
   rw [JE (by simpa using hi),Kb] at h2
   cases e:vs[i]? with
   | none=>rw [e] at h2;cases h2
   | some a=>rw [e] at h2;cases h2;rfl
  obtain ⟨u,hu,rv⟩:=r.get ha
  have hp:ps[i]? = some y:=by
   rw [<- S.pre,Kl (by omega)];exact h1
  have ndP:ps.Nodup:=by rw [<- S.pre];exact S.nd.sublist (NM _ _)
  refine ⟨u,rv,?_⟩
  rcases S.par y (J6 hp) with k | k
  ·exact .inl ⟨k,vc ndP hp hu k⟩
  ·obtain ⟨c,e⟩:=ve (n:=s.heap.objs.size+1) k
   refine .inr ⟨.inl k,c,e,?_⟩
   have q:=x.cell y c e
   rw [vd ndP hp hu (by show scope.names.lookup y≠_;rw [k];decide)] at q
   exact q
 ·exact e0.hok.fresh (Mb (x.above y c (Lj h)))
 ·unfold start
  show _=N.length
  rw [JJ,JN,KW]
  omega
theorem A4 {CX:eC} {P:Program} {w:World} {K:PySem.W.Frag} {mg:Str->Option Value} {base:Heap} {k:Nat} {f:Addr} {name qual:Str} {params:Arguments} {body:List Stmt} {scope:Scope} {dV kV doc pm cdv ct oc:Value} {an od:Option Addr}
  {osl:Array (Option Value)} {N ps:List Str} {sp:Sp} (lk:K.lookup f=some ⟨oc,od,.func (PySem.W.fnOf name qual params body scope dV kV doc pm an cdv ct),osl⟩) (hcd:PySem.W.codeIn K cdv qual=true) (S:aq N ps scope)
  (len:∀ vs H Q E,sp vs H Q E->vs.length=ps.length)
  (hbody:∀ (A:Around) (outer:List Env) (s:Shared) (H:Hp) (vs:List V) (Q:VK) (E:XK),Room k (A.deeper (envOfC qual scope s.heap.objs.size f cdv))->sp vs H Q E ->
   ∃ t,ft (bR CX P w K mg base N qual scope f cdv A outer s H E) body t/\t { nx:=λ_ H' => Q .non H',rt:=Q } (start N vs) H) :
  FnOk P w K mg base CX (k+1) f (PySem.W.fnOf name qual params body scope dV kV doc pm an cdv ct) ps sp:=by
 refine ⟨len,λA outer s H args us vs Q E hr e0 hb r hsp=>?_⟩
 have hl:=len _ _ _ _ hsp
 have KX:K.In s.heap:=e0.mod.kin.keeps λb o e=>(e0.bs b o e).1
 have lim:s.heap.NoLimit:=e0.mod.nolimit.keeps λb o e=>(e0.bs b o e).1
 have hkind:∀ y∈ps.zip us,scope.names.lookup y.1=some .local\/(scope.names.lookup y.1=some .cell/\((cellsFrom (s.heap.objs.size+1) scope.names []).lookup y.1).isSome=true):=λ⟨n,v⟩ hy=>by
  rcases S.par n (Om hy).1 with q | q
  ·exact .inl q
  ·exact .inr ⟨q,Oa _ _ _ (.inl q)⟩
 refine codeAny_call_function hr.depth (KX _ _ lk) rfl S.co S.gen rfl (PySem.W.codeRec_of KX hcd) (hb _ _ _ _ ?_)
 refine wpAny_newFunctionEnv_cells S.kind hkind λenv he s1 x=>?_
 subst he
 refine ⟨lim.keeps x.toInCall.keep,codeAny_func ?_⟩
 obtain ⟨t,ht,hq⟩:=hbody A outer s H vs Q E (hr.deeper _) hsp
 have I:Inv (bR CX P w K mg base N qual scope f cdv A outer s H E) [] (start N vs) H s1:=A3 S hr.hd e0 hl r x
 refine Ku (ht [] s1 (start N vs) H _ I hq) (λfl s' hs=>?_) λe s' hs=>hs
 have fin:∀ {σ':St} {H':Hp} {v:V} {u:Value},Inv (bR CX P w K mg base N qual scope f cdv A outer s H E) [] σ' H' s'->RelV v u->Q v H'->CE outer P w H s Q u s' :=
  λ{σ' H' v u} J rv q=>⟨v,H',J.os,J.bare,J.base,J.hok,rv,q⟩
 cases fl with
 | ret u =>
  obtain ⟨v,σ',H',J,rv,q⟩:=hs
  exact fin J rv q
 | next =>
  obtain ⟨σ',H',J,q⟩:=hs
  exact fin (v:=V.non) (u:=Value.none) J rfl q
 | brk =>
  obtain ⟨_,_,_,q⟩:=hs
  exact False.elim q
 | cont =>
  obtain ⟨_,_,_,q⟩:=hs
  exact False.elim q
end L2
namespace L2
open PySem PySem.Spec PyProof.Rows
section
variable {X:Cx} {x:Str} {p pos:Pos} {e:Expr} {es:List Expr} {t:TA} {id T:String} {r:List V->Hp->VK->Prop}
noncomputable def pW (r:List V->Hp->VK->Prop) (t:TA):TE:=λσ H Q=>t σ H λvs H1=>r vs H1 Q
theorem vf (hc:CallR X (.builtin id) r) (hg:Gl X x) (hm:X.mg x=none) (hv:bootBuiltins x=some (.builtin id)) (ha:PA X (e::es) t) (hn:x ≠ "__name__" := by decide) (hdb:(x == ("__debug__" : Str))=false:=by decide)
  (he:starEach (e::es) X.env=(false,eval e X.env)::starEach es X.env:=by rfl) (hpl:(backTo pos (starEach es X.env)).any (·.1)=false:=by rfl):PE X (.Call (.Name x p) (e::es) [] pos) (pW r t):=by
 intro pins s σ H Q I h
 refine MN (fG I hg hm hv ?_ hn hdb)
 exact PyProof.Rows.callWith_builtin1 (thn (ha pos pins s σ H _ I h) λus s1 ⟨vs,H1,I1,r1,q1⟩=>hc pins s1 σ H1 vs us Q I1 r1 q1) he hpl
theorem A5 (hc:CallR X (.type T) r) (hg:Gl X x) (hm:X.mg x=none) (hv:bootBuiltins x=some (.type T)) (ha:PA X (e::es) t) (hn:x ≠ "__name__" := by decide) (hdb:(x == ("__debug__" : Str))=false:=by decide)
  (he:starEach (e::es) X.env=(false,eval e X.env)::starEach es X.env:=by rfl) (hpl:(backTo pos (starEach es X.env)).any (·.1)=false:=by rfl):PE X (.Call (.Name x p) (e::es) [] pos) (pW r t):=by
 intro pins s σ H Q I h
 refine MN (fG I hg hm hv ?_ hn hdb)
 exact KF (thn (ha pos pins s σ H _ I h) λus s1 ⟨vs,H1,I1,r1,q1⟩=>hc pins s1 σ H1 vs us Q I1 r1 q1) he hpl
end
end L2
namespace HT
open PySem PyProof.Rows
section
open PySem.SeqAt
open PySem.AutoSeq1 (wpAny_loadPart')
open PySem.MeetsSeq PySem.MeetsSeq2 PySem.MeetsSeq3
end
section
variable {prog:Program} {w:World} {A:Around} {E:Value->Shared->Prop} {s:Shared}
theorem cat_tup {t b:Addr} {vs ws:List Value} {Q:Value->Shared->Prop} (ht:IsTup s.heap t vs.toArray) (hb:IsTup s.heap b ws.toArray) (hv:vs≠[])
  (h1:ws=[]->Q (.ref t) s) (h2:ws≠[]->Q (.ref s.heap.objs.size) { s with heap:=s.heap.push { cls:=.type "tuple",data:=.seq (vs++ws).toArray } })
  (hsz:vs.length+ws.length<=sizeLine):wpAny (model prog w) A (binaryOp .Add (.ref t) (.ref b)) Q E s:=by
 obtain ⟨⟨cls,dd,data,sl⟩,ho,hc,n,hd⟩:=id ht
 obtain ⟨⟨cls2,dd2,data2,sl2⟩,ho2,hc2,n2,gM⟩:=id hb
 simp only at hc hd hc2 gM
 subst hc hd hc2 gM
 have e:vs.toArray++ws.toArray=(vs++ws).toArray:=by simp
 by_cases hw:ws=[]
 ·exact Pl ⟨_,ho,rfl⟩ ⟨_,ho2,rfl⟩ noFill_tuple_add seq_tuple_add Ob NX (NT _ _)
   (tuple_addW1 t b vs.toArray ws.toArray n n2 dd dd2 sl sl2 (by simpa using hv) (by simp [hw])) ⟨ho,ho2,h1 hw⟩
 ·refine Pl ⟨_,ho,rfl⟩ ⟨_,ho2,rfl⟩ noFill_tuple_add seq_tuple_add Ob NX (NT _ _)
   (tuple_addW2 t b vs.toArray ws.toArray n n2 dd dd2 sl sl2 (by simpa using hv) (by simpa using hw) (by rw [JK,JK];exact hsz)) ⟨ho,ho2,?_⟩
  rw [e]
  exact h2 hw
noncomputable def sIx (n d:Nat):Option Int->Nat
 | none=>d
 | some v=>if v<0 then (v+(n:Int)).toNat else min v.toNat n
theorem sIx_none (n d:Nat):sIx n d none=d:=rfl
theorem sIx_nat (n d k:Nat):sIx n d (some (k:Int))=min k n:=by
 show (if (k:Int)<0 then ((k:Int)+(n:Int)).toNat else min (k:Int).toNat n)=min k n
 rw [JF (by lia),MR]
theorem sIx_le (n d:Nat) (hd:d<=n) (o:Option Int):sIx n d o<=n:=by
 cases o with
 | none=>exact hd
 | some v =>
  show (if v<0 then (v+(n:Int)).toNat else min v.toNat n)<=n
  by_cases hv:v<0
  ·rw [JG hv];lia
  ·rw [JF hv];exact Nat.min_le_right _ _
theorem vg (v:Int) (n d:Nat):(if v<0 then max (v+(n:Int)) 0 else min v (n:Int))=((sIx n d (some v):Nat):Int):=by
 show (if v<0 then max (v+(n:Int)) 0 else min v (n:Int))=(((if v<0 then (v+(n:Int)).toNat else min v.toNat n):Nat):Int)
 by_cases hv:v<0
 ·simp only [JG hv];lia
 ·simp only [JF hv];lia
theorem A6 (lo hi:Option Int) (n:Nat):Builtin.Slice.sliceAdjust lo hi 1 (n:Int)=(((sIx n 0 lo:Nat):Int),((sIx n n hi:Nat):Int)):=by
 have h1 : ¬ ((1:Int)<0):=by lia
 unfold Builtin.Slice.sliceAdjust
 simp only [h1,N9]
 refine Prod.ext ?_ ?_
 ·cases lo with
  | none=>rfl
  | some v=>exact vg v n 0
 ·cases hi with
  | none=>rfl
  | some v=>exact vg v n n
theorem A7 (i j:Nat):Builtin.Slice.slicePlaces (i:Int) (j:Int) 1=j-i:=by
 unfold Builtin.Slice.slicePlaces
 have h1:(1:Int) > 0:=by lia
 simp only [h1,MM,Pa]
 split<;>lia
theorem vh {v:Value} {o:Option Int} {Q:Option Int->Shared->Prop} (p:IsPart v o) (h:Q o s):wpAny (model prog w) A (Builtin.Slice.slicePartIndex v) Q E s:=by
 cases p with
 | none=>exact slicePart_none h
 | int i t=>exact slicePart_int h
theorem A8 {sl:Addr} {vl vu:Value} {lo hi:Option Int} {n:Nat} {Q:Int×Int×Nat->Shared->Prop} (hs:s.heap.IsSliceOf sl vl vu .none) (pl:IsPart vl lo) (pu:IsPart vu hi)
  (h:Q (((sIx n 0 lo:Nat):Int),1,sIx n n hi-sIx n 0 lo) s):wpAny (model prog w) A (Builtin.Slice.sliceApplied (.ref sl) (pure (n:Int))) Q E s:=by
 obtain ⟨os,hos,hcs,hds⟩:=id hs
 unfold Builtin.Slice.sliceApplied Builtin.Slice.sliceFields
 refine Jz (Jz (OF hos hds (x:=vl) rfl (Jz (OF hos hds (x:=vu) rfl (Jz (OF hos hds (x:=.none) rfl (JB ?_)))))))
 refine Jz (slicePart_none ?_)
 show wpAny _ _ (if ((1:Int) == 0)=true then _ else _) _ _ s
 rw [JF (by decide)]
 refine Jz (vh pl (Jz (vh pu (Jz (JB ?_)))))
 show wpAny _ _ (match Builtin.Slice.sliceAdjust lo hi 1 (n:Int) with | (lo,hi)=>pure (lo,(1:Int),Builtin.Slice.slicePlaces lo hi 1)) _ _ s
 rw [A6 lo hi n]
 show wpAny _ _ (pure (((sIx n 0 lo:Nat):Int),(1:Int),Builtin.Slice.slicePlaces ((sIx n 0 lo:Nat):Int) ((sIx n n hi:Nat):Int) 1)) _ _ s
 rw [A7]
 exact JB h
theorem A9 (xs:Array Value) (i k:Nat):((List.range k).filterMap λ(m:Nat)=>xs[((i:Int)+(m:Int)*1).toNat]?).toArray=((xs.toList.drop i).take k).toArray:=by
 have e:(λ(m:Nat)=>xs[((i:Int)+(m:Int)*1).toNat]?)=λm=>xs[i+m]? := by
  funext m
  have:((i:Int)+(m:Int)*1).toNat=i+m:=by lia
  rw [this]
 rw [e]
 have:=pick_run xs i k
 rw [Nw] at this
 have e2:((λx=>xs[x]?) ∘ λx=>i+x)=λm=>xs[i+m]? := rfl
 rw [e2] at this
 rw [this]
theorem getItem_tuple_cut {t sl:Addr} {items:Array Value} {vl vu:Value} {lo hi:Option Int} {Q:Value->Shared->Prop} (ht:IsTup s.heap t items) (hs:s.heap.IsSliceOf sl vl vu .none) (pl:IsPart vl lo) (pu:IsPart vu hi)
  (hw : ¬ (sIx items.size 0 lo=0/\sIx items.size items.size hi=items.size))
  (h:Q (.ref s.heap.objs.size) { s with heap:=s.heap.push { cls:=.type "tuple",data:=.seq ((items.toList.drop (sIx items.size 0 lo)).take (sIx items.size items.size hi-sIx items.size 0 lo)).toArray } })
  (hsz:items.size<=sizeLine):wpAny (model prog w) A (getItem (.ref t) (.ref sl)) Q E s:=by
 have htake:sizeOk (.seq ((items.toList.drop (sIx items.size 0 lo)).take (sIx items.size items.size hi-sIx items.size 0 lo)).toArray):=by
  show ((items.toList.drop (sIx items.size 0 lo)).take (sIx items.size items.size hi-sIx items.size 0 lo)).toArray.size<=sizeLine
  rw [JK,Kr,KG,JQ]
  omega
 have hj:sIx items.size items.size hi<=items.size:=sIx_le _ _ (JC _) hi
 obtain ⟨os,hos,hcs,hds⟩:=id hs
 have hTs:s.TypeIs (.ref sl) "slice" := ⟨os,hos,hcs⟩
 unfold getItem
 try with_reducible refine KD ?_
 first | refine Jz (JB ?_) | skip
 refine Jz (Pm ht.typeIs (by decide) ?_)
 refine Jz (L8 (name:=Str.ofString "__getitem__") ht.typeIs M4
  (KU M4 ht.typeIs entry_tuple_getitem ?_ (args_tuple_getitem _ _)))
 show wpAny _ _ (Builtin.Tuple.tupleItemsOf (.ref t) >>= _) _ _ s
 refine Jz (tupleItemsOf_ ht ?_)
 refine Jz (Pn hTs ?_)
 rw [JG (by decide)]
 refine Jz (A8 hs pl pu ?_)
 have hno : ¬ ((((sIx items.size 0 lo:Nat):Int) == 0 && (1:Int) == 1 && (sIx items.size items.size hi-sIx items.size 0 lo) == items.size)=true):=by
  intro q
  rw [K2,K2] at q
  have q1:((sIx items.size 0 lo:Nat):Int)=0:=eq_of_beq q.1.1
  have q2:sIx items.size items.size hi-sIx items.size 0 lo=items.size:=eq_of_beq q.2
  exact hw ⟨by omega,by omega⟩
 show wpAny _ _ (if (((sIx items.size 0 lo:Nat):Int) == 0 && (1:Int) == 1 && (sIx items.size items.size hi-sIx items.size 0 lo) == items.size)=true then _ else _) _ _ s
 rw [JF hno,A9]
 first
  | exact Jz (m:=Builtin.Tuple.tupleExact _) (K0 (JB ⟨_,rfl,JB h⟩) htake)
  | exact Jz (m:=Builtin.Tuple.tupleExact _) (K0 (Jz (JB (JB ⟨_,rfl,JB h⟩))) htake)
  | exact Jz (Jz (m:=Builtin.Tuple.tupleExact _) (K0 (JB (JB ⟨_,rfl,JB h⟩)) htake))
  | exact Jz (Jz (m:=Builtin.Tuple.tupleExact _) (K0 (JB ⟨_,rfl,JB h⟩) htake))
end
end HT
namespace L2
open PySem PySem.Spec PyProof.Rows
noncomputable abbrev TO:=St->Hp->(Option Int->Hp->Prop)->Prop
noncomputable def PO (X:Cx) (e:Option Expr) (t:TO):Prop :=
 ∀ (pins:List (Addr×Obj)) (s:Shared) (σ:St) (H:Hp) (Q:Option Int->Hp->Prop),Inv X pins σ H s->t σ H Q ->
  wpAny (model X.prog X.w) X.A (evalPart e X.env) (λu s' => ∃ o H',Inv X pins σ H' s'/\IsPart u o/\Q o H') X.xe s
noncomputable def vi:TO:=λ_ H Q=>Q none H
noncomputable def vj (t:TE):TO:=λσ H Q=>t σ H λx H1=>∃ i,x = .int i/\Q (some i) H1
theorem mP {ns:List Int}:∀ {us:List Value},Vals (ns.map V.int) us->IntsAre us ns:=by
 induction ns with
 | nil=>intro us r;rw [Nr] at r;cases r;exact .nil
 | cons n ns ih =>
  intro us r
  rw [J8] at r
  cases r with
  | cons r1 r2 =>
   obtain ⟨t,e⟩:=r1
   subst e
   exact .cons n t (ih r2)
section
variable {X:Cx} {e:Expr} {te:TE} {lo hi:Option Expr} {tl th:TO} {pos p2:Pos}
theorem Ba:PO X none vi:=by
 intro pins s σ H Q I h
 rw [OU]
 exact JB ⟨none,H,I,.none,h⟩
theorem Bb (h:PE X e te):PO X (some e) (vj te):=by
 intro pins s σ H Q I hw
 rw [evalPart_some]
 refine thn (h pins s σ H _ I hw) λu s1 Zz=>?_;obtain ⟨x,H1,I1,r1,q1⟩:=Zz
 obtain ⟨i,rfl,q⟩:=q1
 obtain ⟨t,rfl⟩:=r1
 exact ⟨some i,H1,I1,.int i t,q⟩
noncomputable def SlR (X:Cx) (r:V->Option Int->Option Int->Hp->VK->Prop):Prop :=
 ∀ (pins:List (Addr×Obj)) (s:Shared) (σ:St) (H:Hp) (x:V) (v vl vu:Value) (lo hi:Option Int) (sl:Addr) (Q:VK),Inv X pins σ H s->RelV x v->s.heap.IsSliceOf sl vl vu .none->IsPart vl lo->IsPart vu hi->r x lo hi H Q ->
  ∃ T id,typeLookup (.type T) "__getitem__" = pure (some (.builtin id))/\s.TypeIs v T/\wpAny (model X.prog X.w) X.A (getItem v (.ref sl)) (EP X pins σ Q) X.xe s
theorem SlR.or {r r':V->Option Int->Option Int->Hp->VK->Prop} (h:SlR X r) (h':SlR X r'):SlR X (λx lo hi H Q=>r x lo hi H Q\/r' x lo hi H Q):=by
 intro pins s σ H x v vl vu lo hi sl Q I rx hs pl pu q
 rcases q with q | q
 ·exact h pins s σ H x v vl vu lo hi sl Q I rx hs pl pu q
 ·exact h' pins s σ H x v vl vu lo hi sl Q I rx hs pl pu q
noncomputable def Bc (r:V->Option Int->Option Int->Hp->VK->Prop) (te:TE) (tl th:TO):TE:=λσ H Q=>te σ H λx H1=>tl σ H1 λl H2=>th σ H2 λu H3=>r x l u H3 Q
theorem Bd {r:V->Option Int->Option Int->Hp->VK->Prop} (hr:SlR X r) (he:PE X e te) (hl:PO X lo tl) (hu:PO X hi th):PE X (.Subscript e (.Slice lo hi none p2) pos) (Bc r te tl th):=by
 intro pins s σ H Q I h
 refine Subscript_ (thn (he pins s σ H _ I h) λv s1 Zz=>?_);obtain ⟨x,H1,I1,r1,q1⟩:=Zz
 refine wpAny_Slice (thn (hl pins s1 σ H1 _ I1 q1) λvl s2 ⟨l,H2,I2,pl,q2⟩=>thn (hu pins s2 σ H2 _ I2 q2) λvu s3 Zz=>?_);obtain ⟨u,H3,I3,pu,q3⟩:=Zz
 rw [OU]
 refine JB ?_
 have I4:Inv X pins σ H3 { s3 with heap:=s3.heap.push { cls:=.type "slice",data:=.fields #[vl,vu,.none] } }:=I3.kept (t' := s3.toks) λb ob q=>JD _ q
 obtain ⟨T,id,hT,ht,hg⟩:=hr pins { s3 with heap:=s3.heap.push { cls:=.type "slice",data:=.fields #[vl,vu,.none] } } σ H3 x v vl vu l u s3.heap.objs.size Q I4 r1 (OX ..) pl pu q3
 show wpAny (model X.prog X.w) X.A (subscriptTail e (.Slice lo hi none p2) v (.ref s3.heap.objs.size)) (EP X pins σ Q) X.xe { s3 with heap:=s3.heap.push { cls:=.type "slice",data:=.fields #[vl,vu,.none] } }
 exact tail_any (ops:=[.ref s3.heap.objs.size,v]) ht hT hg (by with_unfolding_all rfl)
noncomputable def dM (xs:List V) (lo hi:Option Int):List V:=(xs.drop (HT.sIx xs.length 0 lo)).take (HT.sIx xs.length xs.length hi-HT.sIx xs.length 0 lo)
theorem vk (xs:List V) (lo hi:Option Int):(dM xs lo hi).length<=xs.length:=by
 unfold dM
 rw [Kr,KG]
 lia
noncomputable def pX (K:PySem.W.Frag):V->Option Int->Option Int->Hp->VK->Prop:=λx lo hi H Q=>∃ a xs,x = .ref a/\SqT K H a xs /\
 ¬ (HT.sIx xs.length 0 lo=0/\HT.sIx xs.length xs.length hi=xs.length)/\∀ p,H p=none->Q (.ref p) (aJ H p (.tup (dM xs lo hi)))
theorem sl_tup:SlR X (pX X.K):=by
 intro pins s σ H x v vl vu lo hi sl Q I rx hs pl pu h
 obtain ⟨a,xs,rfl,hx,hw,q⟩:=h
 cases rx
 obtain ⟨its,r,ht,hz⟩:=I.tuple hx
 have hlen:its.toArray.size=xs.length:=by rw [JK];exact r.length.symm
 refine ⟨"tuple",_,PyProof.Rows.slot_tuple_getitem.lookup,ht.typeIs,?_⟩
 refine HT.getItem_tuple_cut ht hs pl pu (by rw [hlen];exact hw) ?_ (by rw [hlen];exact hz)
 rw [hlen]
 refine ⟨.ref s.heap.objs.size,_,I.laid (t' := s.toks) (o:=.tup (dM xs lo hi)) (λb ob q=>JD _ q) (JC _) ?_,rfl,q _ (I.hok.fresh (JC _))⟩
 exact ⟨JI (vk xs lo hi) hz,_,(r.drop (HT.sIx xs.length 0 lo)).take (HT.sIx xs.length xs.length hi-HT.sIx xs.length 0 lo),IsTup.new _ _⟩
noncomputable def Be (K:PySem.W.Frag):R2:=λx y H Q=>∃ a b xs ys,x = .ref a/\y = .ref b/\SqT K H a xs/\SqT K H b ys/\xs≠[]/\xs.length+ys.length<=sizeLine /\
 (ys=[]->Q (.ref a) H)/\(ys≠[]->∀ p,H p=none->Q (.ref p) (aJ H p (.tup (xs++ys))))
theorem Vals.nil_iff {xs:List V} {us:List Value} (r:Vals xs us):us=[] ↔ xs=[]:=by
 cases r with
 | nil=>simp
 | cons _ _=>simp
theorem zjt:OpR X (binaryOp .Add) (Be X.K):=by
 intro pins s σ H x y v u Q I rx ry h
 obtain ⟨a,b,xs,ys,rfl,rfl,ha,hb,hx,hz,q1,q2⟩:=h
 cases rx
 cases ry
 obtain ⟨its,r1,p1,_⟩:=I.tuple ha
 obtain ⟨its2,r2,p2,_⟩:=I.tuple hb
 refine HT.cat_tup p1 p2 (λz=>hx (r1.nil_iff.mp z)) (λz=>⟨.ref a,H,I,rfl,q1 (r2.nil_iff.mp z)⟩) (λz=>?_) (by rw [<- r1.length,<- r2.length];exact hz)
 refine ⟨.ref s.heap.objs.size,_,I.laid (t' := s.toks) (o:=.tup (xs++ys)) (λb ob q=>JD _ q) (JC _) ?_,rfl,q2 (λw=>z (r2.nil_iff.mpr w)) _ (I.hok.fresh (JC _))⟩
 exact ⟨by rw [JJ];exact hz,_,r1.append r2,IsTup.new _ _⟩
end
end L2
namespace L2
open PySem PySem.Spec PyProof.Rows
noncomputable def gW (n:Nat) (i:Int):Option Nat:=if 0<=i then (if i<n then some i.toNat else none) else if -(n:Int)<=i then some (i+n).toNat else none
noncomputable def atI {α:Type} (xs:List α) (i:Int):Option α:=(gW xs.length i).bind λj=>xs[j]?
theorem vm {n:Nat} {i:Int} {j:Nat} (h:gW n i=some j):seqIndex? i n=some j/\j<n /\ -(n:Int)<=i/\i<n:=by
 unfold gW at h
 by_cases h0:0<=i
 ·rw [JG h0] at h
  by_cases h1:i<n
  ·rw [JG h1] at h
   have e:i.toNat=j:=Kp h
   exact ⟨by rw [seqIndex_of h0 h1,e],by lia,by lia,h1⟩
  ·rw [JF h1] at h;cases h
 ·rw [JF h0] at h
  by_cases h1 : -(n:Int)<=i
  ·rw [JG h1] at h
   have e:(i+n).toNat=j:=Kp h
   exact ⟨by rw [Po (by lia) h1,e],by lia,h1,by lia⟩
  ·rw [JF h1] at h;cases h
theorem mQ {α:Type} {xs:List α} {i:Int} {v:α} (h:atI xs i=some v):∃ j,seqIndex? i xs.length=some j/\xs[j]? = some v/\j<xs.length /\ -(xs.length:Int)<=i/\i<xs.length:=by
 unfold atI at h
 cases e:gW xs.length i with
 | none=>rw [e] at h;cases h
 | some j =>
  rw [e] at h
  obtain ⟨h1,h2,h3,h4⟩:=vm e
  exact ⟨j,h1,h,h2,h3,h4⟩
theorem pY {α:Type} {xs:List α} {j:Nat} {v:α} (h:xs[j]? = some v):atI xs (j:Int)=some v:=by
 have hj:j<xs.length:=(JA.mp h).1
 have e:gW xs.length (j:Int)=some j:=by
  unfold gW
  rw [JG (by lia),JG (by lia)];simp
 unfold atI;rw [e];exact h
noncomputable def vn (b:Expr):Prop:=∀ o i,subscripted b false o i=operate [o,i] (getItem o i)
noncomputable def IxR (X:Cx) (r:R2):Prop :=
 ∀ (value slice:Expr) (pins:List (Addr×Obj)) (s:Shared) (σ:St) (H:Hp) (x y:V) (v u:Value) (Q:VK),Inv X pins σ H s->RelV x v->RelV y u->r x y H Q ->
  subscripted slice false v u=operate [v,u] (getItem v u)->wpAny (model X.prog X.w) X.A (subscriptTail value slice v u) (EP X pins σ Q) X.xe s
noncomputable def fu (X:Cx) (id:String) (r:V->List V->Hp->VK->Prop):Prop :=
 ∀ (pins:List (Addr×Obj)) (s:Shared) (σ:St) (H:Hp) (x:V) (xs:List V) (v:Value) (us:List Value) (Q:VK),Inv X pins σ H s->RelV x v->Vals xs us->r x xs H Q ->
  wpAny (model X.prog X.w) X.A (call (.builtin id) (v::us)) (EP X pins σ Q) X.xe s
section
variable {X:Cx} {a b:Expr} {ta tb:TE} {pos:Pos}
theorem IxR.or {r r':R2} (h:IxR X r) (h':IxR X r'):IxR X (λx y H Q=>r x y H Q\/r' x y H Q):=by
 intro value slice pins s σ H x y v u Q I rx ry q hs
 rcases q with q | q
 ·exact h value slice pins s σ H x y v u Q I rx ry q hs
 ·exact h' value slice pins s σ H x y v u Q I rx ry q hs
theorem Bf {r:R2} (hr:IxR X r) (ha:PE X a ta) (hb:PE X b tb) (hs:vn b):PE X (.Subscript a b pos) (jL r ta tb):=by
 intro pins s σ H Q I h
 exact Subscript_ (i7 ha hb I h λv u s2 x y H2 I2 rx ry q=>hr a b pins s2 σ H2 x y v u Q I2 rx ry q (hs _ _))
noncomputable def kB (K:PySem.W.Frag):R2:=λx y H Q=>∃ p xs i v,x = .ref p/\y = .int i/\SqL K H p xs/\atI xs i=some v/\Q v H
noncomputable def kD (K:PySem.W.Frag):R2:=λx y H Q=>∃ p xs i v,x = .ref p/\y = .int i/\SqT K H p xs/\atI xs i=some v/\Q v H
noncomputable def kE:R2:=λx y H Q=>∃ z i c,x = .str z/\y = .int i/\z.length<=sizeLine/\atI z.cps.toList i=some c/\Q (.str ⟨#[c]⟩) H
theorem zju:IxR X (kB X.K):=by
 intro value slice pins s σ H x y v u Q I rx ry h hs
 obtain ⟨p,xs,i,z,rfl,rfl,hq,he,q⟩:=h
 cases rx
 obtain ⟨t,rfl⟩:=ry
 obtain ⟨its,r,pl,hz⟩:=I.list hq
 obtain ⟨j,h1,h2,h3,h4,h5⟩:=mQ he
 obtain ⟨w,ew,rw'⟩:=r.get h2
 have hl:=r.length
 have hn:=jb
 have fin:EP X pins σ Q w s:=⟨z,H,I,rw',q⟩
 by_cases h0:0<=i
 ·have hj:i.toNat=j:=by
   rw [seqIndex_of h0 h5] at h1
   exact Kp h1
  exact item_listR pl.isList h0 (by lia) (by rw [hj];simpa using ew) fin hs
 ·have hj:(i+(its.toArray.size:Int)).toNat=j:=by
   rw [Po (by lia) h4] at h1
   rw [JK,<- hl]
   exact Kp h1
  exact Oj (x:=w) pl.isList.typeIs slot_list_getitem.lookup
   (wpAny_getItem_list_neg (Q:=λr s' => r=w/\EP X pins σ Q r s') pl.isList (by lia) (by rw [JK]<;>lia) (by lia) (by rw [hj];simpa using ew) ⟨rfl,fin⟩) hs
theorem ix_tup:IxR X (kD X.K):=by
 intro value slice pins s σ H x y v u Q I rx ry h hs
 obtain ⟨p,xs,i,z,rfl,rfl,hq,he,q⟩:=h
 cases rx
 obtain ⟨t,rfl⟩:=ry
 obtain ⟨its,r,pl,hz⟩:=I.tuple hq
 obtain ⟨j,h1,h2,h3,h4,h5⟩:=mQ he
 obtain ⟨w,ew,rw'⟩:=r.get h2
 have hl:=r.length
 have hn:=jb
 have fin:EP X pins σ Q w s:=⟨z,H,I,rw',q⟩
 exact Oj (x:=w) pl.typeIs slot_tuple_getitem.lookup
  (getItem_tuple (j:=j) (Q:=λr s' => r=w/\EP X pins σ Q r s') pl (by lia) (by lia) (by rw [JK,<- hl];exact h1) (by simpa using ew) ⟨rfl,fin⟩) hs
theorem Bg:IxR X kE:=by
 intro value slice pins s σ H x y v u Q I rx ry h hs
 obtain ⟨z,i,c,rfl,rfl,hz,he,q⟩:=h
 obtain ⟨t,rfl⟩:=rx
 obtain ⟨t',rfl⟩:=ry
 obtain ⟨j,h1,h2,h3,h4,h5⟩:=mQ he
 have hl:z.cps.toList.length=z.length:=by simp [Str.length]
 rw [hl] at h1 h4 h5
 have hn:=jb
 exact tail_any (Ol s z t) slot_str_getitem.lookup (getItem_str (c:=c) (by
  have e1:decide (i < -(2 ^ 63:Int))=false:=Kh (by lia)
  have e2:decide (i ≥ 2 ^ 63)=false:=Kh (by lia)
  rw [e1,e2,Bool.or_false]) (by rw [h1];simpa using h2) ⟨.str ⟨#[c]⟩,H,I.tok _,⟨_,rfl⟩,q⟩) hs
noncomputable def vo (K:PySem.W.Frag):R2:=λx y H Q=>kB K x y H Q\/kD K x y H Q\/kE x y H Q
theorem Bh:IxR X (vo X.K):=zju.or (ix_tup.or Bg)
theorem Bi (its:List Value) (n j:Nat) (u:Value):Obj.mapSeq (·.setIfInBounds j u) { cls:=.type "list",data:=.seq its.toArray n }={ cls:=.type "list",data:=.seq (its.set j u).toArray n }:=by
 simp [Obj.mapSeq]
theorem Inv.lst {pins:List (Addr×Obj)} {σ:St} {H:Hp} {s:Shared} {p:Addr} {xs:List V} (I:Inv X pins σ H s) (h:H p=some (.lst xs)) :
  ∃ (its:List Value) (n:Nat),Vals xs its/\s.heap.get? p=some { cls:=.type "list",data:=.seq its.toArray n }/\xs.length<=sizeLine:=by
 obtain ⟨z,its,n,r,e⟩:=I.hok p _ h
 exact ⟨its,n,r,e,z⟩
theorem Inv.lstUpd {pins:List (Addr×Obj)} {σ:St} {H:Hp} {s:Shared} {p:Addr} {xs ys:List V} {its its':List Value} {n n':Nat} {f:Obj->Obj} (I:Inv X pins σ H s) (h:H p=some (.lst xs))
  (ho:s.heap.get? p=some { cls:=.type "list",data:=.seq its.toArray n }) (hf:f { cls:=.type "list",data:=.seq its.toArray n }={ cls:=.type "list",data:=.seq its'.toArray n' }) (r:Vals ys its') (hz:ys.length<=sizeLine) (t:Nat) :
  Inv X pins σ (aJ H p (.lst ys)) { s with heap:=s.heap.update p f,toks:=t }:=by
 have e:(s.heap.update p f).get? p=some { cls:=.type "list",data:=.seq its'.toArray n' }:=by
  rw [Kv f ho (by rw [hf]<;>rfl),hf]
 refine I.write (x:=p) (e:=p) (by rw [h];trivial) (.inl rfl) (λb u hb q=>(KA _ _ (Ne.symm hb)).trans q) ⟨_,e⟩ ?_
 exact ⟨hz,its',n',r,e⟩
noncomputable def Bj:V->V->V->Hp->(Hp->Prop)->Prop:=λo i v H Q=>∃ p xs k j,o = .ref p/\i = .int k/\H p=some (.lst xs)/\gW xs.length k=some j/\Q (aJ H p (.lst (xs.set j v)))
theorem Bk:kr X Bj:=by
 intro pins s σ H o i v ov iv u Q I ro ri rv h
 obtain ⟨p,xs,k,j,rfl,rfl,hp,hj,q⟩:=h
 cases ro
 obtain ⟨t,rfl⟩:=ri
 obtain ⟨its,n,r,ho,hz⟩:=I.lst hp
 obtain ⟨h1,h2,h3,h4⟩:=vm hj
 have hl:=r.length
 have hn:=jb
 have I':Inv X pins σ (aJ H p (.lst (xs.set j v))) { s with heap:=s.heap.update p (Obj.mapSeq (·.setIfInBounds j u)) } :=
  I.lstUpd hp ho (Bi its n j u) (r.set rv j) (by rw [MJ];exact hz) s.toks
 by_cases h0:0<=k
 ·have hk:k.toNat=j:=by
   rw [seqIndex_of h0 h4] at h1
   exact Kp h1
  exact PySem.W.ki_setAt ho h0 (by lia) (by rw [JK,<- hl];exact h4) (by rw [hk];exact ⟨_,I',q⟩)
 ·have hk:(k+(its.toArray.size:Int)).toNat=j:=by
   rw [Po (by lia) h3] at h1
   rw [JK,<- hl]
   exact Kp h1
  exact PySem.W.ki_setBack ho (by lia) (by rw [JK,<- hl];exact h3) (by lia) (by rw [hk];exact ⟨_,I',q⟩)
theorem Bl (lo hi:Option Int) (n:Nat):(sliceBounds lo hi none n).1=((HT.sIx n 0 lo:Nat):Int)/\(sliceBounds lo hi none n).2.1=((HT.sIx n n hi:Nat):Int)/\(sliceBounds lo hi none n).2.2=1:=by
 refine ⟨?_,?_,rfl⟩
 ·cases lo with
  | none=>simp [sliceBounds,HT.sIx]
  | some i =>
   simp only [sliceBounds,HT.sIx,NY,show (1:Int) > 0 by decide,MM]
   by_cases h:i<0
   ·simp only [h,MM]<;>lia
   ·simp only [h,N9]<;>lia
 ·cases hi with
  | none=>simp [sliceBounds,HT.sIx]
  | some i =>
   simp only [sliceBounds,HT.sIx,NY,show (1:Int) > 0 by decide,MM]
   by_cases h:i<0
   ·simp only [h,MM]<;>lia
   ·simp only [h,N9]<;>lia
theorem vp (its:List Value) (lo hi:Option Int):slicePick its.toArray lo hi none=((its.drop (HT.sIx its.length 0 lo)).take (HT.sIx its.length its.length hi-HT.sIx its.length 0 lo)).toArray:=by
 obtain ⟨h1,h2,h3⟩:=Bl lo hi its.toArray.size
 unfold slicePick
 rw [h1,h2,h3]
 simp only [sliceRange_one,pick_run,JK]<;>rfl
noncomputable def pZ (K:PySem.W.Frag):V->Option Int->Option Int->Hp->VK->Prop:=λx lo hi H Q=>∃ a xs,x = .ref a/\SqL K H a xs/\∀ p,H p=none->Q (.ref p) (aJ H p (.lst (dM xs lo hi)))
theorem zjv:SlR X (pZ X.K):=by
 intro pins s σ H x v vl vu lo hi sl Q I rx hs pl pu h
 obtain ⟨a,xs,rfl,hx,q⟩:=h
 cases rx
 obtain ⟨its,r,ht,hz⟩:=I.list hx
 have hlen:=r.length
 refine ⟨"list",_,slot_list_getitem.lookup,ht.isList.typeIs,?_⟩
 refine NW ht.isList hs pl pu .none (by simp) ?_ (by rw [JK]<;>omega)
 rw [vp,<- hlen]
 refine ⟨.ref s.heap.objs.size,_,I.laid (t' := s.toks) (o:=.lst (dM xs lo hi)) (λb ob q=>JD _ q) (JC _) ?_,rfl,q _ (I.hok.fresh (JC _))⟩
 exact ⟨JI (vk xs lo hi) hz,_,0,(r.drop (HT.sIx xs.length 0 lo)).take (HT.sIx xs.length xs.length hi-HT.sIx xs.length 0 lo),JL _ rfl⟩
theorem zes:OpR X (compareOp .NotIn) (λx y H Q=>∃ i j,x = .str i/\y = .str j/\Q (.bl (!(!(Builtin.Str.occurrences j i 0 j.length 1).isEmpty))) H):=by
 intro pins s σ H x y v u Q I rx ry h
 obtain ⟨i,j,rfl,rfl,q⟩:=h
 obtain ⟨t,rfl⟩:=rx
 obtain ⟨t',rfl⟩:=ry
 exact notIn_str ⟨.bl _,H,I,rfl,q⟩
theorem zet:CallR X (.builtin "len") (λxs H Q=>∃ p ys,xs=[.ref p]/\(SqL X.K H p ys\/SqT X.K H p ys)/\Q (.int ys.length) H):=by
 intro pins s σ H xs us Q I r h
 obtain ⟨p,ys,rfl,hq,q⟩:=h
 obtain ⟨u,rfl,rx⟩:=gU r
 cases rx
 have hn:=jb
 rcases hq with hq | hq
 ·obtain ⟨its,r',pl,hz⟩:=I.list hq
  have hlen:=r'.length
  exact Calls.call_len_list pl.isList (by simp only [JK]<;>lia) ⟨.int ys.length,H,I.tok _,⟨s.toks+1,by rw [JK,hlen]⟩,q⟩
 ·obtain ⟨its,r',pl,hz⟩:=I.tuple hq
  have hlen:=r'.length
  exact len_tuple pl (by simp only [JK]<;>lia) ⟨.int ys.length,H,I.tok _,⟨s.toks+1,by rw [JK,hlen]⟩,q⟩
theorem zeu:CallR X (.builtin "len") (λxs H Q=>∃ z,xs=[.str z]/\z.length<=sizeLine/\Q (.int z.length) H):=by
 intro pins s σ H xs us Q I r h
 obtain ⟨z,rfl,hz,q⟩:=h
 obtain ⟨u,rfl,t,rfl⟩:=gU r
 have hn:=jb
 exact len_str (by lia) ⟨.int z.length,H,I.tok _,⟨_,rfl⟩,q⟩
theorem CallR.or {f:Value} {r r':List V->Hp->VK->Prop} (h:CallR X f r) (h':CallR X f r'):CallR X f (λxs H Q=>r xs H Q\/r' xs H Q):=by
 intro pins s σ H xs us Q I rs q
 rcases q with q | q
 ·exact h pins s σ H xs us Q I rs q
 ·exact h' pins s σ H xs us Q I rs q
theorem Bm:CallR X (.type "list") (λxs H Q=>∃ p ys,xs=[.ref p]/\(SqL X.K H p ys\/SqT X.K H p ys)/\∀ l,H l=none->Q (.ref l) (aJ H l (.lst ys))):=by
 intro pins s σ H xs us Q I r h
 obtain ⟨p,ys,rfl,hq,q⟩:=h
 obtain ⟨u,rfl,rx⟩:=gU r
 cases rx
 have fin:∀ (its:List Value),Vals ys its->ys.length<=sizeLine->∀ (h':Heap) (c':Nat),(∀ b o',s.heap.get? b=some o'->h'.get? b=some o') ->
   h'.get? s.heap.objs.size=some { cls:=.type "list",dict:=none,data:=.seq its.toArray c',slots:=#[] }->EP X pins σ Q (.ref s.heap.objs.size) { s with heap:=h' }:=λits r' hz h' c' kp e =>
  ⟨.ref s.heap.objs.size,_,I.laid (t' := s.toks) kp (JC _) (show ObjOk X.prog X.w _ h' _ (.lst ys) from ⟨hz,its,c',r',e⟩),rfl,q _ (I.hok.fresh (JC _))⟩
 rcases hq with hq | hq
 ·obtain ⟨its,r',pl,hz⟩:=I.list hq
  have hlen:=r'.length
  obtain ⟨o,ho,hc,n,hd⟩:=pl.isList
  exact call_list_seq p (.inl rfl) ho hc hd (λh' c' kp e=>fin its r' hz h' c' kp e) (by simp only [JK]<;>omega)
 ·obtain ⟨its,r',pl,hz⟩:=I.tuple hq
  have hlen:=r'.length
  obtain ⟨o,ho,hc,n,hd⟩:=pl
  exact call_list_seq p (.inr rfl) ho hc hd (λh' c' kp e=>fin its r' hz h' c' kp e) (by simp only [JK]<;>omega)
noncomputable def mR (K:PySem.W.Frag) (T:String) (x:V) (H:Hp):Prop:=match x with
 | .str _=>T = "str"
 | .int _=>T = "int"
 | .ref p=>(T = "list" /\ ∃ xs,SqL K H p xs)\/(T = "tuple" /\ ∃ o,K.lookup p=some o/\o.cls = .type "tuple" /\ o.dict=none) \/
   (T = "dict" /\ ((∃ kvs,H p=some (.dK kvs))\/∃ xc kvs,H p=some (.dT xc kvs)))\/(T = "set" /\ ∃ S n,H p=some (.set S n))
 | _=>False
theorem vq {pins:List (Addr×Obj)} {σ:St} {H:Hp} {s:Shared} {T:String} {x:V} {v:Value} (I:Inv X pins σ H s) (r:RelV x v) (ty:mR X.K T x H) :
  s.TypeIs v T/\∀ a,v = .ref a->∃ ob,s.heap.get? a=some ob/\ob.dict=none:=by
 cases x with
 | str z =>
  obtain ⟨t,rfl⟩:=r
  cases (show T = "str" from ty)
  exact ⟨Ol s z t,λ_ e=>nomatch e⟩
 | int i =>
  obtain ⟨t,rfl⟩:=r
  cases (show T = "int" from ty)
  exact ⟨typeIs_int s i t,λ_ e=>nomatch e⟩
 | ref p =>
  cases r
  rcases ty with ⟨rfl,xs,hq⟩ | ⟨rfl,o,hk,hc,hd⟩ | ⟨rfl,hk⟩ | ⟨rfl,S,n,hk⟩
  ·obtain ⟨its,_,pl,_⟩:=I.list hq
   refine ⟨pl.isList.typeIs,λa e=>?_⟩
   cases e
   obtain ⟨o,n,e,c,hd,_⟩:=pl
   exact ⟨o,e,hd⟩
  ·refine ⟨⟨o,I.kIn p o hk,hc⟩,λa e=>?_⟩
   cases e
   exact ⟨o,I.kIn _ o hk,hd⟩
  ·have z:∃ o,s.heap.get? p=some o/\o.ExactDict:=by
    rcases hk with ⟨kvs,hk⟩ | ⟨xc,kvs,hk⟩
    ·obtain ⟨_,_,_,_,o,_,_,e,ex,_⟩:=I.hok p _ hk
     exact ⟨o,e,ex⟩
    ·obtain ⟨_,_,_,_,o,_,_,e,ex,_⟩:=I.hok p _ hk
     exact ⟨o,e,ex⟩
   obtain ⟨o,e,ex⟩:=z
   refine ⟨⟨o,e,ex.1⟩,λa e2=>?_⟩
   cases e2
   exact ⟨o,e,ex.2.1⟩
  ·obtain ⟨o,_,_,_,e,ex,_⟩:=I.hok p _ hk
   refine ⟨⟨o,e,ex.1⟩,λa e2=>?_⟩
   cases e2
   exact ⟨o,e,ex.2.1⟩
 | _=>exact False.elim ty
noncomputable def qa (K:PySem.W.Frag) (T:String) (r:V->List V->Hp->VK->Prop) (to:TE):TE:=λσ H Q=>to σ H λx H1=>mR K T x H1/\r x [] H1 Q
noncomputable def Bn (K:PySem.W.Frag) (T:String) (r:V->List V->Hp->VK->Prop) (to:TE) (t:TA):TE:=λσ H Q=>to σ H λx H1=>mR K T x H1/\t σ H1 λxs H2=>r x xs H2 Q
variable {o e:Expr} {es:List Expr} {to:TE} {t:TA} {name:Str} {apos cpos:Pos} {T id:String} {r:V->List V->Hp->VK->Prop}
theorem Bo (pa:PlainAttrs T) (slot:Slot T name id) (hty:typeOf (.builtin id)=pure (.type "method_descriptor")) (hm:fu X id r) (ho:PE X o to)
  (hbase:attributeBase o name X.env (eval o X.env)=eval o X.env:=by rfl) (hline:(apos.endLine == cpos.line)=true:=by rfl):PE X (.Call (.Attribute o name apos) [] [] cpos) (qa X.K T r to):=by
 intro pins s σ H Q I h
 refine wpAny_Call_method0_late hbase hline (thn (ho pins s σ H _ I h) λv s1 Zz=>?_);obtain ⟨x,H1,I1,r1,ty,q1⟩:=Zz
 obtain ⟨h1,h2⟩:=vq I1 r1 ty
 exact ⟨T,id,pa,slot,hty,h1,h2,Oc rfl (PySem.evalArgs_none (hm pins s1 σ H1 x [] v [] Q I1 r1 .nil q1))⟩
theorem Bp (pa:PlainAttrs T) (slot:Slot T name id) (hty:typeOf (.builtin id)=pure (.type "method_descriptor")) (hm:fu X id r) (ho:PE X o to) (ha:PA X (e::es) t)
  (hbase:attributeBase o name X.env (eval o X.env)=eval o X.env:=by rfl)
  (hfew:((backTo cpos (starEach (e::es) X.env)).all (λx=>!x.1) && (backToKw cpos (keywordEach [] X.env)).all (λx=>x.1.isSome)
   && decide ((e::es).length+([]:List Keyword).length+(if ([]:List Keyword).isEmpty then 0 else 1)<30))=true:=by rfl)
  (hline:(apos.endLine == cpos.line)=true:=by rfl) (hs:starEach (e::es) X.env=(false,eval e X.env)::starEach es X.env:=by rfl) (hplain:(backTo cpos (starEach es X.env)).any (·.1)=false:=by rfl) :
  PE X (.Call (.Attribute o name apos) (e::es) [] cpos) (Bn X.K T r to t):=by
 intro pins s σ H Q I h
 refine wpAny_Call_method_late hbase hfew hline rfl (thn (ho pins s σ H _ I h) λv s1 Zz=>?_);obtain ⟨x,H1,I1,r1,ty,q1⟩:=Zz
 obtain ⟨h1,h2⟩:=vq I1 r1 ty
 refine ⟨T,id,pa,slot,hty,h1,h2,?_⟩
 have hA:=ha cpos pins s1 σ H1 _ I1 q1
 rw [hs] at hA ⊢
 refine Oc (by show (false || (backTo cpos (starEach es X.env)).any (·.1))=false;rw [hplain]<;>rfl) (Oz ?_)
 exact thn hA λus s2 ⟨vs,H2,I2,r2,q2⟩=>hm pins s2 σ H2 x vs v us Q I2 r1 r2 q2
end
end L2
namespace L2
open PySem PySem.Spec PyProof.Rows
noncomputable def qb (X:Cx) (id:String) (r:V->List V->Hp->VK->Prop):Prop :=
 ∀ (pins:List (Addr×Obj)) (s:Shared) (σ:St) (H:Hp) (x:V) (xs:List V) (v:Value) (us:List Value) (Q:VK),Inv X pins σ H s->RelV x v->Vals xs us->r x xs H Q ->
  wpAny (model X.prog X.w) X.A (call (.builtin id) (v::us)) (EP X pins σ Q) X.xe s
theorem Vals.one:∀ {x:V} {us:List Value},Vals [x] us->∃ u,us=[u]/\RelV x u
 | _,_,.cons r .nil=>⟨_,rfl,r⟩
theorem Vals.zero:∀ {us:List Value},Vals [] us->us=[]
 | _,.nil=>rfl
theorem Vals.dropLast {xs:List V} {us:List Value} (h:Vals xs us):Vals xs.dropLast us.dropLast:=by
 induction h with
 | nil=>exact .nil
 | cons r t ih =>
  cases t with
  | nil=>exact .nil
  | cons q t' => exact .cons r ih
theorem Vals.reverse {xs:List V} {us:List Value} (h:Vals xs us):Vals xs.reverse us.reverse:=by
 induction h with
 | nil=>exact .nil
 | cons r t ih=>rw [NO,NO];exact Vals.append ih (.cons r .nil)
theorem Bq {α:Type} (l:List α):l.eraseIdx (l.length-1)=l.dropLast:=by
 induction l with
 | nil=>rfl
 | cons a r ih =>
  cases r with
  | nil=>rfl
  | cons b r =>
   have e:(a::b::r).length-1=((b::r).length-1)+1:=by
    have h1:(a::b::r).length=r.length+2:=rfl
    have h2:(b::r).length=r.length+1:=rfl
    omega
   rw [e,List.eraseIdx_cons_succ,ih]
   all_goals rfl
section
variable {X:Cx} {pins:List (Addr×Obj)} {σ:St} {H:Hp} {s:Shared} {l b:Addr} {xs ys zs:List V}
theorem Inv.lset {its its':List Value} {n:Nat} {f:Array Value->Array Value} {t':Nat} (I:Inv X pins σ H s) (hH:H l=some (.lst xs))
  (e:s.heap.get? l=some { cls:=.type "list",data:=.seq its.toArray n }) (hf:f its.toArray=its'.toArray) (hv:Vals ys its') (hz:ys.length<=sizeLine) :
  Inv X pins σ (aJ H l (.lst ys)) { s with heap:=s.heap.update l (Obj.mapSeq f),toks:=t' }:=by
 have q:=PySem.IsL.update e f
 rw [hf] at q
 refine I.write (x:=l) (e:=l) (by rw [hH];exact trivial) (.inl rfl) (λb' u hb hu=>(KA s.heap (Obj.mapSeq f) (Ne.symm hb)).trans hu) ⟨_,q⟩ ?_
 exact ⟨hz,its',_,hv,q⟩
theorem Inv.lnew {its:List Value} {t':Nat} (I:Inv X pins σ H s) (hv:Vals ys its) (hz:ys.length<=sizeLine) :
  Inv X pins σ (aJ H s.heap.objs.size (.lst ys)) { s with heap:=s.heap.push { cls:=.type "list",data:=.seq its.toArray },toks:=t' } :=
 I.laid (λ_ _ q=>JD _ q) (JC _) ⟨hz,its,0,hv,JL _ rfl⟩
theorem Inv.fresh (I:Inv X pins σ H s):H s.heap.objs.size=none:=I.hok.fresh (JC _)
theorem Inv.lstM (I:Inv X pins σ H s) (hH:H l=some (.lst xs)):xs.length<=sizeLine/\∃ (its:List Value) (n:Nat),Vals xs its/\xs.length=its.length/\s.heap.get? l=some { cls:=.type "list",data:=.seq its.toArray n }:=by
 obtain ⟨z,its,n,r,e⟩:=I.hok l _ hH
 exact ⟨z,its,n,r,r.length,e⟩
theorem Br {n:Nat} (h:n<=sizeLine):Builtin.List.listTooLong n=false:=by
 unfold Builtin.List.listTooLong
 exact Kh (by lia)
end
section
variable {X:Cx}
noncomputable def Bs:V->List V->Hp->VK->Prop:=λx vs H Q=>∃ l xs y,x = .ref l/\vs=[y]/\H l=some (.lst xs)/\xs.length<sizeLine/\Q .non (aJ H l (.lst (xs++[y])))
theorem vr:qb X "list.append" Bs:=by
 intro pins s σ H x vs v us Q I rx rv h
 obtain ⟨l,xs,y,rfl,rfl,hH,hz,q⟩:=h
 cases rx
 obtain ⟨u,rfl,ru⟩:=rv.one
 obtain ⟨z,its,n,r,hl,e⟩:=I.lstM hH
 refine O3 F.slot_list_append ⟨_,e,rfl⟩ F.entry_list_append (F.args_list_append_2 _ _) (PySem.list_append l its.toArray n u (by rw [JK];lia)) ⟨e,?_⟩
 refine ⟨.non,_,I.lset (its' := its++[u]) hH e (by simp) (r.append (.cons ru .nil)) ?_,rfl,q⟩
 rw [JJ,Ou]
 lia
noncomputable def qc:V->List V->Hp->VK->Prop:=λx vs H Q=>∃ l xs y,x = .ref l/\vs=[]/\H l=some (.lst xs)/\xs[xs.length-1]? = some y/\Q y (aJ H l (.lst xs.dropLast))
theorem Bt:qb X "list.pop" qc:=by
 intro pins s σ H x vs v us Q I rx rv h
 obtain ⟨l,xs,y,rfl,rfl,hH,hy,q⟩:=h
 cases rx
 have hus:=rv.zero
 subst hus
 obtain ⟨z,its,n,r,hl,e⟩:=I.lstM hH
 obtain ⟨u,hu,ru⟩:=r.get hy
 have hy':its.toArray[its.toArray.size-1]? = some u:=by
  show its.toArray[its.length-1]? = some u
  rw [<- Kd,<- hl]
  exact hu
 refine O3 F.slot_list_pop ⟨_,e,rfl⟩ F.entry_list_pop (F.args_list_pop_1 _) (MeetsSeq.list_pop_last l its.toArray n u hy' (by rw [JK];omega)) ⟨e,?_⟩
 refine ⟨y,_,I.lset (its' := its.dropLast) hH e ?_ r.dropLast ?_,ru,q⟩
 ·show its.toArray.eraseIdxIfInBounds (its.toArray.size-1)=its.dropLast.toArray
  rw [JK,List.eraseIdxIfInBounds_toArray,Bq]
 ·rw [List.length_dropLast]
  omega
noncomputable def Bu:V->List V->Hp->VK->Prop:=λx vs H Q=>∃ l xs,x = .ref l/\vs=[]/\H l=some (.lst xs)/\Q .non (aJ H l (.lst xs.reverse))
theorem Bv:qb X "list.reverse" Bu:=by
 intro pins s σ H x vs v us Q I rx rv h
 obtain ⟨l,xs,rfl,rfl,hH,q⟩:=h
 cases rx
 have hus:=rv.zero
 subst hus
 obtain ⟨z,its,n,r,hl,e⟩:=I.lstM hH
 refine O3 F.slot_list_reverse ⟨_,e,rfl⟩ F.entry_list_reverse (F.args_list_reverse_1 _) (AutoSeq1.list_reverse_list_0 l its.toArray n (by rw [JK];lia)) ⟨e,?_⟩
 refine ⟨.non,_,I.lset (its' := its.reverse) hH e (by simp) r.reverse ?_,rfl,q⟩
 rw [LV]
 lia
end
section
variable {prog:Program} {w:World} {A:Around} {E:Value->Shared->Prop} {s:Shared}
end
section
variable {X:Cx}
end
end L2
namespace L2
open PySem PySem.Spec PyProof.Rows
section
variable {κ:Type} [DecidableEq κ]
noncomputable def bS (kvs:List (κ×V)) (k:κ):Option V:=(kvs.find? λkv=>decide (kv.1=k)).map (·.2)
noncomputable def bT (kvs:List (κ×V)) (k:κ) (v:V):List (κ×V) :=
 if (kvs.any λkv=>decide (kv.1=k))=true then kvs.map (λkv=>if kv.1=k then (kv.1,v) else kv) else kvs++[(k,v)]
theorem mS {p:κ×V} {r:List (κ×V)} {k:κ} (e:p.1=k):bS (p::r) k=some p.2:=by simp [bS,K1,e]
theorem kF {p:κ×V} {r:List (κ×V)} {k:κ} (e : ¬ p.1=k):bS (p::r) k=bS r k:=by simp [bS,K1,e]
theorem mT (k:κ):∀ kvs:List (κ×V),(kvs.any λkv=>decide (kv.1=k))=(bS kvs k).isSome
 | []=>rfl
 | p::r=>by
  rw [Mn]
  by_cases e:p.1=k
  ·simp only [mS e,KR e,Bool.true_or,Option.isSome_some]
  ·rw [kF e,Kh e,Bool.false_or];exact mT k r
theorem vt (kvs:List (κ×V)) (k:κ) (v:V):(bT kvs k v).length<=kvs.length+1:=by
 unfold bT
 split
 ·rw [JN];lia
 ·rw [JJ,Kj,KP];lia
theorem RelO.isSome_eq {o:Option V} {u:Option Value} (r:RelO o u):o.isSome=u.isSome:=by
 cases o with
 | none=>cases u with
  | none=>rfl
  | some _=>exact (show False from r).elim
 | some _=>cases u with
  | none=>exact (show False from r).elim
  | some _=>rfl
theorem KV.val {kvs:List (κ×V)} {vs:List (κ×Value)} (r:KV kvs vs) (k:κ):RelO (bS kvs k) (valueAt vs k):=by
 unfold KV at r
 induction r with
 | nil=>exact True.intro
 | @cons p q ps qs h t ih =>
  obtain ⟨h1,h2⟩:=h
  by_cases e:p.1=k
  ·have e':q.1=k:=h1.symm.trans e
   have b:valueAt (q::qs) k=some q.2:=by simp [valueAt,K1,e']
   rw [mS e,b];exact h2
  ·have e' : ¬ q.1=k:=λz=>e (h1.trans z)
   have b:valueAt (q::qs) k=valueAt qs k:=by simp [valueAt,K1,e']
   rw [kF e,b];exact ih
theorem KV.any {kvs:List (κ×V)} {vs:List (κ×Value)} (r:KV kvs vs) (k:κ):(kvs.any λkv=>decide (kv.1=k))=vs.any λkv=>decide (kv.1=k):=by
 unfold KV at r
 induction r with
 | nil=>rfl
 | cons h t ih=>rw [Mn,Mn,ih,h.1]
theorem KV.repl {kvs:List (κ×V)} {vs:List (κ×Value)} (r:KV kvs vs) (k:κ) {y:V} {u:Value} (ry:RelV y u) :
  KV (kvs.map λkv=>if kv.1=k then (kv.1,y) else kv) (vs.map λkv=>if kv.1=k then (kv.1,u) else kv):=by
 unfold KV at r ⊢
 induction r with
 | nil=>exact .nil
 | @cons p q ps qs h t ih =>
  rw [J8,J8]
  refine .cons ?_ ih
  obtain ⟨h1,h2⟩:=h
  by_cases e:p.1=k
  ·rw [JG e,JG (h1.symm.trans e)];exact ⟨h1,ry⟩
  ·rw [JF e,JF (λz=>e (h1.trans z))];exact ⟨h1,h2⟩
theorem KV.put {kvs:List (κ×V)} {vs:List (κ×Value)} (r:KV kvs vs) (k:κ) {y:V} {u:Value} (ry:RelV y u):KV (bT kvs k y) (stored vs k u):=by
 unfold bT stored
 rw [r.any k]
 by_cases e:(vs.any λkv=>decide (kv.1=k))=true
 ·rw [JG e,JG e];exact r.repl k ry
 ·rw [JF e,JF e];exact Paired.snoc r ⟨rfl,ry⟩
theorem KV.length {kvs:List (κ×V)} {vs:List (κ×Value)} (r:KV kvs vs):kvs.length=vs.length:=Paired.length r
end
theorem mU {P:Program} {w:World} {k:aH} {u:Value} (r:RelV (kV k) u):(fR P w).is k u=true:=by
 cases k with
 | inl i=>obtain ⟨t,e⟩:=(show ∃ t,u=Value.int i t from r);subst e;exact zt P w i t
 | inr x=>obtain ⟨t,e⟩:=(show ∃ t,u=Value.str x t from r);subst e;exact zu P w x t
theorem Bw {P:Program} {w:World} {y:V} {k:aH} {u:Value} (e:jI y=some k) (r:RelV y u):(gR P w).is k u=true:=by
 cases y with
 | int i=>cases e;obtain ⟨t,e⟩:=(show ∃ t,u=Value.int i t from r);subst e;exact zp P w i t
 | str x=>cases e;obtain ⟨t,e⟩:=(show ∃ t,u=Value.str x t from r);subst e;exact zq P w x t
 | bl b=>cases e;cases (show u=Value.bool b from r);exact KR rfl
 | _=>cases e
theorem vv {P:Program} {w:World}:∀ {ys:List V} {ks:List aH} {us:List Value},ys.map jI=ks.map some->Vals ys us->ItemsAre (gR P w) ks us
 | [],[],_,_,r=>by cases r;exact .nil
 | [],_::_,_,e,_=>by simp at e
 | _::_,[],_,e,_=>by simp at e
 | y::ys,k::ks,_,e,r=>by
  rw [J8,J8] at e
  injection e with e1 e2
  cases r with
  | cons h t=>exact .cons (Bw e1 h) (vv e2 t)
noncomputable def KTup (H:Hp) (b:Addr) (k:List aH):Prop:=∃ ys,H b=some (.tup ys)/\ys.map jI=k.map some
theorem KTup.of {H:Hp} {b:Addr} {k:List aH} (e:H b=some (.tup (k.map kV))):KTup H b k:=⟨_,e,by rw [Md];exact LW λx _=>zv x⟩
noncomputable def DictE {P:Program} {w:World} {K:Type} [DecidableEq K] (h:Heap) (kn:PySem.HeapKind P w K) (d:Addr) (xs:List (K×Addr×Value)) (n:Nat):Prop :=
 ∃ o es,h.get? d=some o/\o.ExactDict/\o.data = .dict es n/\es.toList=xs.map (entryOfKey kn)/\(∀ x∈xs,kn.is h x.1 x.2.1)/\(xs.map (·.1)).Nodup
theorem DictE.of {P:Program} {w:World} {K:Type} [DecidableEq K] {h:Heap} {kn:PySem.HeapKind P w K} {d:Addr} {xs:List (K×Addr×Value)} {n:Nat} (e:DictE h kn d xs n):h.DictOfH kn d xs:=e.imp λ_ ⟨es,r⟩=>⟨es,n,r⟩
theorem qd {P:Program} {w:World} {K:Type} [DecidableEq K] {kn:PySem.HeapKind P w K} {d b:Addr} {k:K} {xs:List (K×Addr×Value)} {A:Around} {E:Value->Shared->Prop} {s:Shared} {v:Value} {Q:Unit->Shared->Prop}
  (hu:kn.room A.in1) (hk:kn.is s.heap k b) (hm:DictE s.heap kn d xs xs.length) (hz:xs.length<=sizeLine)
  (q:∀ g,DictE g kn d (storedH xs k b v) (storedH xs k b v).length->Heap.SameBut d s.heap g->Q () { s with heap:=g,toks:=s.toks+kn.draws k }) :
  wpAny (model P w) A (setItem (.ref d) (.ref b) v) Q E s:=by
 have ty:=hm.of.typeIs
 obtain ⟨o,es,e1,e2,e3,e4,e5,e6⟩:=hm
 unfold setItem
 try with_reducible refine KD ?_
 refine Jz (Pm ty (by decide) (Jz (L8 (name:=Str.ofString "__setitem__") ty Pp (KU Pp ty entry_dict_setitem ?_ (args_dict_setitem _ _ _)))))
 show wpAny _ _ (Builtin.Dict.notOrdered "__setitem__" _ >>= _) _ _ s
 refine Jz (wpAny_notOrdered_dict ty (show wpAny _ _ (dictSet d (.ref b) v >>= _) _ _ s from Jz ?_))
 have fin:∀ g,DictE g kn d (storedH xs k b v) (storedH xs k b v).length->Heap.SameBut d s.heap g->wpAny (model P w) A.in1 (pure Unit.unit) (λ_ s' => Q () s') (λ_ _=>False) { s with heap:=g,toks:=s.toks+kn.draws k }:=λg a c=>JB (q g a c)
 unfold dictSet
 try with_reducible refine KD ?_
 refine Jz (kn.pyHash hu hk ?_)
 unfold dictSetHashed
 try with_reducible refine KD ?_
 refine Jz (wpAny_dictFind_heap (s:={ s with toks:=s.toks+kn.draws k }) hu hk e1 e3 e4 e5 e6 (λno=>?_) λj p hj=>?_)
 ·have st:=storedH_new (a:=b) (v:=v) (atKey_none_of_get no)
  refine Jz (Mw (wpAny_updateDictKeys (hz:=by have z:=size_of_entries e4;lia) (s:={ s with toks:=s.toks+kn.draws k }) e1 e3 (JB ⟨.none,rfl,JB (q _ ?_ (Kz ..))⟩)))
  have ln:(xs++[(k,b,v)]).length=xs.length+1:=by simp
  rw [st,ln]
  refine ⟨_,_,Kv _ e1 (Obj.isFreed_of_dict (Obj.data_mapDictKeys e3 _)),e2.mapDictKeys _,Obj.data_mapDictKeys e3 _,?_,λx hx=>?_,?_⟩
  ·simp [e4,entryOfKey]
  ·rcases JS.mp hx with hx | hx
   ·exact kn.keeps (e5 x hx) e1 e3 (Kz ..)
   ·have z:x=(k,b,v):=by simpa using hx
    rw [z];exact kn.keeps hk e1 e3 (Kz ..)
  ·rw [K5,LF]
   exact ⟨e6,by simp,λx hx y hy z=>not_mem_keys_of_get no (by
    have e:y=k:=by simpa using hy
    rw [<- e,<- z];exact hx)⟩
 ·have st:=storedH_old (a:=b) (v:=v) (atKey_of_get e6 hj)
  refine Jz (Mw (Jz (wpAny_updateDict (s:={ s with toks:=s.toks+kn.draws k }) e1 e3 (wpAny_point (JB ⟨.none,rfl,JB (q _ ?_ (Kz ..))⟩)))))
  rw [st,JN]
  refine ⟨_,_,Kv _ e1 (Obj.isFreed_of_dict (Obj.data_mapDict e3 _)),e2.mapDict _,Obj.data_mapDict e3 _,?_,λx hx=>?_,?_⟩
  ·have z:=modify_map_putAt (entryOfKey kn) (λe:DictEntry=>{ e with val:=v }) k v (λ_ _=>rfl) e6 hj
   rw [<- e4] at z
   obtain ⟨l⟩:=es
   simpa using z
  ·obtain ⟨y,hy,rfl⟩:=Me.mp hx
   unfold putAt
   split<;>exact kn.keeps (e5 y hy) e1 e3 (Kz ..)
  ·rw [keys_map_putAt];exact e6
noncomputable def vw (xc:Option (List Addr)) (old:Bool) (b:Addr):Option (List Addr):=xc.map λas=>if old then as else as++[b]
theorem Bx {xs:List (List aH×Addr×Value)} {k:List aH} {b:Addr} {u:Value} {xc:Option (List Addr)} (h:∀ as,xc=some as->xs.map (·.2.1)=as):∀ as,vw xc (atKey xs k).isSome b=some as->(storedH xs k b u).map (·.2.1)=as:=by
 intro as e
 obtain ⟨bs,e1,e2⟩:=J5.mp e
 subst e2
 unfold storedH
 by_cases q:(atKey xs k).isSome=true
 ·rw [JG q,JG q,Md,<- h bs e1]
  exact LW λx _=>by show (putAt k u x).2.1=x.2.1;unfold putAt;split<;>rfl
 ·rw [JF q,JF q,K5,h bs e1];rfl
noncomputable abbrev KT (H:Hp):List (List aH×V)->List (List aH×Addr×Value)->Prop:=Paired λp q=>p.1=q.1/\(∃ ys,H q.2.1=some (.tup ys)/\ys.map jI=p.1.map some)/\RelV p.2 q.2.2
theorem KT.val {H:Hp} {kvs:List (List aH×V)} {xs:List (List aH×Addr×Value)} (r:KT H kvs xs) (k:List aH):RelO (bS kvs k) ((atKey xs k).map (·.2)):=by
 induction r with
 | nil=>exact True.intro
 | @cons p q ps qs h t ih =>
  obtain ⟨h1,_,h2⟩:=h
  by_cases e:p.1=k
  ·have e':q.1=k:=h1.symm.trans e
   have b:atKey (q::qs) k=some q.2:=by simp [atKey,K1,e']
   rw [mS e,b];exact h2
  ·have e' : ¬ q.1=k:=λz=>e (h1.trans z)
   have b:atKey (q::qs) k=atKey qs k:=by simp [atKey,K1,e']
   rw [kF e,b];exact ih
theorem KT.repl {H:Hp} {kvs:List (List aH×V)} {xs:List (List aH×Addr×Value)} (r:KT H kvs xs) (k:List aH) {y:V} {u:Value} (ry:RelV y u) :
  KT H (kvs.map λkv=>if kv.1=k then (kv.1,y) else kv) (xs.map (putAt k u)):=by
 induction r with
 | nil=>exact .nil
 | @cons p q ps qs h t ih =>
  rw [J8,J8]
  refine .cons ?_ ih
  obtain ⟨h1,h2,h3⟩:=h
  unfold putAt
  by_cases e:p.1=k
  ·rw [JG e,JG (h1.symm.trans e)];exact ⟨h1,h2,ry⟩
  ·rw [JF e,JF (λz=>e (h1.trans z))];exact ⟨h1,h2,h3⟩
theorem KT.put {H:Hp} {kvs:List (List aH×V)} {xs:List (List aH×Addr×Value)} (r:KT H kvs xs) (k:List aH) {b:Addr} {y:V} {u:Value} (hb:KTup H b k) (ry:RelV y u) :
  KT H (bT kvs k y) (storedH xs k b u):=by
 have e:(kvs.any λkv=>decide (kv.1=k))=(atKey xs k).isSome:=by
  rw [mT,(r.val k).isSome_eq,MS]
 unfold bT storedH
 rw [e]
 by_cases q:(atKey xs k).isSome=true
 ·rw [JG q,JG q];exact r.repl k ry
 ·rw [JF q,JF q];exact Paired.snoc r ⟨rfl,hb,ry⟩
theorem KT.keeps {H H':Hp} {kvs:List (List aH×V)} {xs:List (List aH×Addr×Value)} (r:KT H kvs xs) (ht:∀ b ys,H b=some (.tup ys)->H' b=some (.tup ys)):KT H' kvs xs :=
 Paired.mapP r λ_ _ z=>⟨z.1,z.2.1.imp λ_ e=>⟨ht _ _ e.1,e.2⟩,z.2.2⟩
section
variable {P:Program} {w:World} {H:Hp} {h:Heap} {a:Addr}
theorem rd_of {u:HO} (ok:HOk P w H h) (e:Rd H a u):ObjOk P w H h a u:=e.ok ok
theorem jM {kvs:List (aH×V)} (ok:HOk P w H h) (e:Rd H a (.dK kvs)):kvs.length<=sizeLine/\(a == sysModules)=false/\∃ vs,KV kvs vs/\h.DictOf (fR P w) a vs :=
 show ObjOk P w H h a (.dK kvs) from rd_of ok e
theorem vx {kvs:List (aH×V)} (ok:HOk P w H h) (e:H a=some (.dK kvs)):kvs.length<=sizeLine/\(a == sysModules)=false/\∃ vs,KV kvs vs/\h.DictOf (fR P w) a vs:=jM ok (.inl e)
theorem kG {ks:List aH} (ok:HOk P w H h) (e:KTup H a ks):(tupleKind (gR P w)).is h ks a:=by
 obtain ⟨ys,e,ek⟩:=e
 obtain ⟨_,its,r,o,h1,h2,n,h3⟩:=(show ObjOk P w H h a (.tup ys) from ok a _ e)
 exact ⟨o,its.toArray,n,h1,h2,h3,by simpa using vv ek r⟩
theorem kH {xc:Option (List Addr)} {kvs:List (List aH×V)} (ok:HOk P w H h) (e:Rd H a (.dT xc kvs)):kvs.length<=sizeLine/\(a == sysModules)=false /\
  ∃ xs,KT H kvs xs/\(∀ as,xc=some as->xs.map (·.2.1)=as)/\DictE h (tupleKind (gR P w)) a xs xs.length:=by
 obtain ⟨z,y,xs,r,o,es,ep,h1,h2,h3,h4,h5⟩:=(show ObjOk P w H h a (.dT xc kvs) from rd_of ok e)
 obtain ⟨h5,h6,h7⟩:=h5
 subst h6
 refine ⟨z,y,xs,r,h7,o,es,h1,h2,h3,h4,λx hx=>?_,h5⟩
 have all:∀ {l:List (List aH×V)} {m:List (List aH×Addr×Value)},KT H l m->∀ x∈m,(tupleKind (gR P w)).is h x.1 x.2.1:=by
  intro l m q
  induction q with
  | nil=>intro x hx;exact nomatch hx
  | @cons p q ps qs hq t ih =>
   intro x hx
   rcases J4.mp hx with e | hx
   ·subst e
    exact kG ok (by rw [<- hq.1];exact hq.2.1)
   ·exact ih x hx
 exact all r x hx
theorem By {xc:Option (List Addr)} {kvs:List (List aH×V)} (ok:HOk P w H h) (e:H a=some (.dT xc kvs)):kvs.length<=sizeLine/\(a == sysModules)=false /\
  ∃ xs,KT H kvs xs/\(∀ as,xc=some as->xs.map (·.2.1)=as)/\DictE h (tupleKind (gR P w)) a xs xs.length:=kH ok (.inl e)
end
noncomputable def DGet (H:Hp) (a:Addr) (y:V) (r:Option V):Prop :=
 (∃ kvs k,Rd H a (.dK kvs)/\y=kV k/\r=bS kvs k)\/∃ xc kvs k b,Rd H a (.dT xc kvs)/\y = .ref b/\KTup H b k/\r=bS kvs k
noncomputable def DPut (H:Hp) (a:Addr) (y v:V) (H':Hp):Prop :=
 (∃ kvs k,H a=some (.dK kvs)/\y=kV k/\kvs.length<sizeLine/\H'=aJ H a (.dK (bT kvs k v))) \/
 ∃ xc kvs k b,H a=some (.dT xc kvs)/\y = .ref b/\KTup H b k/\kvs.length<sizeLine/\H'=aJ H a (.dT (vw xc (kvs.any λkv=>decide (kv.1=k)) b) (bT kvs k v))
theorem DGet.k {H:Hp} {a:Addr} {kvs:List (aH×V)} {k:aH} (e:H a=some (.dK kvs)):DGet H a (kV k) (bS kvs k):=.inl ⟨kvs,k,.inl e,rfl,rfl⟩
theorem DGet.t {H:Hp} {a b:Addr} {kvs:List (List aH×V)} {k:List aH} {xc:Option (List Addr)} (e:H a=some (.dT xc kvs)) (eb:KTup H b k):DGet H a (.ref b) (bS kvs k):=.inr ⟨xc,kvs,k,b,.inl e,rfl,eb,rfl⟩
theorem DPut.k {H:Hp} {a:Addr} {kvs:List (aH×V)} {k:aH} {v:V} (e:H a=some (.dK kvs)) (hl:kvs.length<sizeLine):DPut H a (kV k) v (aJ H a (.dK (bT kvs k v))):=.inl ⟨kvs,k,e,rfl,hl,rfl⟩
theorem DPut.t {H:Hp} {a b:Addr} {kvs:List (List aH×V)} {k:List aH} {v:V} (e:H a=some (.dT none kvs)) (eb:KTup H b k) (hl:kvs.length<sizeLine) :
  DPut H a (.ref b) v (aJ H a (.dT none (bT kvs k v))):=.inr ⟨none,kvs,k,b,e,rfl,eb,hl,rfl⟩
section
variable {X:Cx} {pins:List (Addr×Obj)} {σ:St} {H:Hp} {s:Shared} {a:Addr} {y v:V} {u r:Value} {o:Option V} {A:Around} {E:Value->Shared->Prop}
theorem Inv.big (I:Inv X pins σ H s):sysModules<s.heap.objs.size:=by
 have h:mainGlobals<s.heap.objs.size:=(I.mod.glob.keeps I.bk).lt
 exact Lz (by decide) h
theorem Bz {Q:Value->Shared->Prop} (hu:A.units+1<cLine) (I:Inv X pins σ H s) (g:DGet H a y (some v)) (ry:RelV y u) (h:∀ w' s',Inv X pins σ H s'->RelV v w'->Q w' s') :
  wpAny (model X.prog X.w) A (getItem (.ref a) u) Q E s:=by
 rcases g with ⟨kvs,k,e,ey,l⟩ | ⟨xc,kvs,k,b,e,ey,eb,l⟩
 ·subst ey
  obtain ⟨z,hd,vs,rel,dd⟩:=jM I.hok e
  obtain ⟨w',hw,rw'⟩:=RelO.some_of (v:=v) (o:=valueAt vs k) (by rw [l];exact rel.val k)
  exact wpAny_getItem_of (mU ry) dd.mapOf hw (h w' _ (I.tok _) rw')
 ·subst ey
  cases (show u=Value.ref b from ry)
  obtain ⟨z,hd,xs,rel,_,dd⟩:=kH I.hok e
  replace dd:=dd.of
  obtain ⟨w',hw,rw'⟩:=RelO.some_of (v:=v) (o:=(atKey xs k).map (·.2)) (by rw [l];exact rel.val k)
  obtain ⟨p,hp,hp2⟩:=J5.mp hw
  refine wpAny_getItem_heap (MO hu) (kG I.hok eb) dd hp ?_
  rw [hp2]
  exact h w' _ (I.tok _) rw'
theorem qe {Q:Value->Shared->Prop} (hu:A.units+1<cLine) (I:Inv X pins σ H s) (g:DGet H a y o) (ry:RelV y u) (h:∀ s',Inv X pins σ H s'->Q (.bool o.isSome) s') :
  wpAny (model X.prog X.w) A (compareOp .In u (.ref a)) Q E s:=by
 rcases g with ⟨kvs,k,e,ey,l⟩ | ⟨xc,kvs,k,b,e,ey,eb,l⟩
 ·subst ey
  obtain ⟨z,hd,vs,rel,dd⟩:=jM I.hok e
  refine wpAny_in_of (mU ry) hd dd.mapOf ?_
  rw [<- (rel.val k).isSome_eq,<- l]
  exact h _ (I.tok _)
 ·subst ey
  cases (show u=Value.ref b from ry)
  obtain ⟨z,hd,xs,rel,_,dd⟩:=kH I.hok e
  replace dd:=dd.of
  refine wpAny_in_heap (MO hu) (kG I.hok eb) hd dd ?_
  have q:=(rel.val k).isSome_eq
  rw [MS] at q
  rw [<- q,<- l]
  exact h _ (I.tok _)
theorem BB {Q:Value->Shared->Prop} (hu:A.units+1<cLine) (I:Inv X pins σ H s) (g:DGet H a y o) (ry:RelV y u) (h:∀ s',Inv X pins σ H s'->Q (.bool (!o.isSome)) s') :
  wpAny (model X.prog X.w) A (compareOp .NotIn u (.ref a)) Q E s:=by
 rcases g with ⟨kvs,k,e,ey,l⟩ | ⟨xc,kvs,k,b,e,ey,eb,l⟩
 ·subst ey
  obtain ⟨z,hd,vs,rel,dd⟩:=jM I.hok e
  refine wpAny_notIn_of (mU ry) hd dd.mapOf ?_
  rw [<- (rel.val k).isSome_eq,<- l]
  exact h _ (I.tok _)
 ·subst ey
  cases (show u=Value.ref b from ry)
  obtain ⟨z,hd,xs,rel,_,dd⟩:=kH I.hok e
  replace dd:=dd.of
  refine wpAny_notIn_heap (MO hu) (kG I.hok eb) hd dd ?_
  have q:=(rel.val k).isSome_eq
  rw [MS] at q
  rw [<- q,<- l]
  exact h _ (I.tok _)
theorem vy {h':Heap} {t':Nat} {ob:HO} (I:Inv X pins σ H s) (mu:ko (H a)) (hs:Heap.SameBut a s.heap h') (he:∃ q,h'.get? a=some q) (new:ObjOk X.prog X.w (aJ H a ob) h' a ob) :
  Inv X pins σ (aJ H a ob) { s with heap:=h',toks:=t' } :=
 I.write (x:=a) (e:=a) mu (.inl rfl) (λb q hb z=>(hs.2 b hb).trans z) he new
theorem BC {P:Program} {w:World} {H':Hp} {h':Heap} {kvs:List (aH×V)} {vs:List (aH×Value)} (z:kvs.length<=sizeLine) (hd:(a == sysModules)=false) (rel:KV kvs vs) (dd:h'.DictOf (fR P w) a vs) :
  ObjOk P w H' h' a (.dK kvs):=⟨z,hd,vs,rel,dd⟩
theorem BD {H':Hp} {Q:Unit->Shared->Prop} (hu:A.units+1<cLine) (I:Inv X pins σ H s) (g:DPut H a y v H') (ry:RelV y u) (rv:RelV v r) (h:∀ s',Inv X pins σ H' s'->Q () s') :
  wpAny (model X.prog X.w) A (setItem (.ref a) u r) Q E s:=by
 rcases g with ⟨kvs,k,e,ey,l,eH⟩ | ⟨xc,kvs,k,b,e,ey,eb,l,eH⟩
 ·subst ey eH
  obtain ⟨z,hd,vs,rel,dd⟩:=vx I.hok e
  have hz:vs.length<=sizeLine:=by rw [<- rel.length];exact z
  have hl:(bT kvs k v).length<=sizeLine:=by have:=vt kvs k v;lia
  refine wpAny_setItem_pairs (hsz:=hz) (mU ry) dd λh' dd' hs=>h _ ?_
  have he:∃ q,h'.get? a=some q:=let ⟨q,_,_,hq,_⟩:=dd';⟨q,hq⟩
  exact vy I (by rw [e];exact True.intro) hs he (BC hl hd (rel.put k rv) dd')
 ·subst ey eH
  cases (show u=Value.ref b from ry)
  obtain ⟨z,hd,xs,rel,ha,dd⟩:=By I.hok e
  have hz:xs.length<=sizeLine:=by rw [<- Paired.length rel];exact z
  have hl:(bT kvs k v).length<=sizeLine:=by have:=vt kvs k v;lia
  have eo:(kvs.any λkv=>decide (kv.1=k))=(atKey xs k).isSome:=by rw [mT,(rel.val k).isSome_eq,MS]
  refine qd (MO hu) (kG I.hok eb) dd hz λh' dd' hs=>h _ ?_
  obtain ⟨q,es,hq,h2,h3,h4,_,h5⟩:=dd'
  refine vy I (by rw [e];exact True.intro) hs ⟨q,hq⟩ ⟨hl,hd,_,(rel.put k eb rv).keeps λc ys ec=>?_,q,es,_,hq,h2,h3,h4,h5,rfl,by rw [eo];exact Bx ha⟩
  rw [bN (zw ec e (λz=>nomatch z))]
  exact ec
end
section
variable {X:Cx} {pins:List (Addr×Obj)} {σ:St} {H:Hp} {s:Shared} {a:Addr} {kvs:List (aH×V)} {k:aH} {u:Value} {A:Around} {E:Value->Shared->Prop}
theorem BE {Q:Value->Shared->Prop} (I:Inv X pins σ H s) (e:Rd H a (.dK kvs)) (h:∀ t s',Inv X pins σ H s'->Q (.int kvs.length t) s'):wpAny (model X.prog X.w) A (call (.builtin "len") [.ref a]) Q E s:=by
 obtain ⟨z,hd,vs,rel,dd⟩:=jM I.hok e
 refine call_len_dict hd dd (by rw [<- rel.length];rw [sizeLine_eq] at z;lia) ?_
 rw [<- rel.length]
 exact h _ _ (I.tok _)
end
noncomputable def kI (i:Expr):Prop:=∀ ov iv,subscripted i false ov iv=operate [ov,iv] (getItem ov iv)
theorem BF {prog:Program} {w:World} {A:Around} {E:Value->Shared->Prop} {s:Shared} {env:Env} {value slice:Expr} {pos:Pos} {T id:String} {Q:Value->Shared->Prop}
  (hl:typeLookup (.type T) "__getitem__" = pure (some (.builtin id))) (hs:kI slice)
  (h:wpAny (model prog w) A (eval value env) (λo s₁=>wpAny (model prog w) A (eval slice env) (λi s₂=>s₂.TypeIs o T/\wpAny (model prog w) A (getItem o i) Q E s₂) E s₁) E s) :
  wpAny (model prog w) A (eval (.Subscript value slice pos) env) Q E s:=by
 refine Subscript_ (Ku h (λo s₁ h₁=>Ku h₁ (λi s₂ h₂=>?_) λ_ _ x=>x) λ_ _ x=>x)
 obtain ⟨hT,h₂⟩:=h₂
 unfold subscriptTail
 refine Jz ?_
 rw [getitemInPython_of_ne hT.not_modules]
 refine Jz (Nl hT hl ?_)
 have fin:wpAny (model prog w) A (subscripted slice false o i) (λr s₃=>wpAny (model prog w) A (letTemporaryGo value o r >>= λ_=>pure r) Q E s₃) E s₂:=by
  rw [hs o i]
  exact wpAny_operating (Ku h₂ (λr s₃ h₃=>Jz (wpAny_letTemporaryGo (JB h₃))) λ_ _ x=>x)
 first
  | exact JB (Jz fin)
  | exact Jz (JB (Jz fin))
  | exact Jz fin
theorem BG {X:Cx} {pins:List (Addr×Obj)} {σ:St} {H:Hp} {s:Shared} {a:Addr} {y:V} {o:Option V} (I:Inv X pins σ H s) (g:DGet H a y o):s.TypeIs (.ref a) "dict" := by
 rcases g with ⟨kvs,k,e,_,_⟩ | ⟨xc,kvs,k,b,e,_,_,_⟩
 ·obtain ⟨_,_,vs,_,dd⟩:=jM I.hok e
  exact dd.typeIs
 ·obtain ⟨_,_,xs,_,_,dd⟩:=kH I.hok e
  replace dd:=dd.of
  exact dd.typeIs
noncomputable def BH (td ty:TE):TE:=λσ H Q=>td σ H λx H1=>ty σ H1 λy H2=>∃ a v,x = .ref a/\DGet H2 a y (some v)/\Q v H2
noncomputable def BI (td ty tv:TE):TS:=λD σ H=>tv σ H λv H1=>td σ H1 λx H2=>ty σ H2 λy H3=>∃ a H4,x = .ref a/\DPut H3 a y v H4/\D.nx σ H4
section
variable {X:Cx} {o i e value:Expr} {pos pos' tpos:Pos} {td ty tv:TE}
theorem BJ (hu:X.A.units+1<cLine) (ho:PE X o td) (hi:PE X i ty) (hs:kI i):PE X (.Subscript o i pos) (BH td ty):=by
 intro pins s σ H Q I h
 refine BF PySem.F.slot_dict_getitem.lookup hs (thn (ho pins s σ H _ I h) λu s1 ⟨x,H1,I1,rx,q1⟩=>thn (hi pins s1 σ H1 _ I1 q1) λiv s2 Zz=>?_);obtain ⟨y,H2,I2,ry,a,v,ex,g,q2⟩:=Zz
 subst ex
 obtain rfl:u=Value.ref a:=rx
 exact ⟨BG I2 g,Bz hu I2 g ry λw' s3 I3 rw' => ⟨v,H2,I3,rw',q2⟩⟩
theorem BK (hu:X.A.units+1<cLine) (ho:PE X o td) (hi:PE X i ty) (hv:PE X value tv) (hs:swapsWith value (some (.Subscript o i pos')) pos.line X.env=pure false) :
  PS X (.Assign [.Subscript o i pos'] value pos) (BI td ty tv):=by
 intro pins s σ H D I h
 refine wpAny_Assign_Subscript (thn (hv pins s σ H _ I h) λr s1 ⟨v,H1,I1,rv,q1⟩=>thn (ho pins s1 σ H1 _ I1 q1) λu s2 ⟨x,H2,I2,rx,q2⟩=>thn (hi pins s2 σ H2 _ I2 q2) λiv s3 Zz=>?_) hs;obtain ⟨y,H3,I3,ry,a,H4,ex,g,q3⟩:=Zz
 subst ex
 obtain rfl:u=Value.ref a:=rx
 exact BD hu I3 g ry rv λs4 I4=>⟨σ,H4,I4,q3⟩
end
theorem BM {P:Program} {w:World} {H:Hp} (h:Heap) (hb:sysModules<h.objs.size):ObjOk P w H (h.push { cls:=.type "dict",data:=.dict #[] }) h.objs.size (.dK []) :=
 ⟨Ki _,beq_eq_false_iff_ne.mpr (Ne.symm (Ka hb)),[],.nil,Heap.DictOf.new h⟩
theorem BN {P:Program} {w:World} {H:Hp} {xc:Option (List Addr)} (hx:xc=none\/xc=some []) (h:Heap) (hb:sysModules<h.objs.size):ObjOk P w H (h.push { cls:=.type "dict",data:=.dict #[] }) h.objs.size (.dT xc []) :=
 ⟨Ki _,beq_eq_false_iff_ne.mpr (Ne.symm (Ka hb)),[],.nil,_,#[],0,JL _ rfl,⟨rfl,rfl,rfl⟩,rfl,rfl,MT,rfl,λas e=>by
  rcases hx with rfl | rfl
  ·cases e
  ·injection e⟩
noncomputable def BO:TE:=λ_ H Q=>∀ p,H p=none->Q (.ref p) (aJ H p (.dK []))
noncomputable def BP:TE:=λ_ H Q=>∀ p,H p=none->Q (.ref p) (aJ H p (.dT none []))
section
variable {X:Cx} {pos:Pos}
theorem BQ:PE X (.Dict [] [] pos) BO:=λpins s σ H Q I h =>
 wpAny_Dict_empty ⟨.ref s.heap.objs.size,_,I.laid (a:=s.heap.objs.size) (o:=.dK []) (t' := s.toks) (λ_ _ q=>JD _ q) (JC _) (BM s.heap I.big),rfl,h _ (I.hok.fresh (JC _))⟩
theorem BR:PE X (.Dict [] [] pos) BP:=λpins s σ H Q I h =>
 wpAny_Dict_empty ⟨.ref s.heap.objs.size,_,I.laid (a:=s.heap.objs.size) (o:=.dT none []) (t' := s.toks) (λ_ _ q=>JD _ q) (JC _) (BN (.inl rfl) s.heap I.big),rfl,h _ (I.hok.fresh (JC _))⟩
end
section
variable {X:Cx} {pins:List (Addr×Obj)} {σ:St} {H:Hp} {s:Shared} {a:Addr} {y d:V} {u r:Value} {o:Option V} {A:Around} {E:Value->Shared->Prop}
end
section
variable {X:Cx} {o e f:Expr} {apos cpos:Pos} {td ty tx:TE}
end
section
variable {X:Cx} {pins:List (Addr×Obj)} {σ:St} {H:Hp} {s:Shared} {a:Addr} {kvs:List (aH×V)} {A:Around} {E:Value->Shared->Prop}
end
section
variable {X:Cx} {pins:List (Addr×Obj)} {σ:St} {H:Hp} {s:Shared} {a:Addr} {y:V} {u:Value} {A:Around} {E:Value->Shared->Prop}
end
end L2
namespace Att
open PySem PySem.W PySem.Calls PyProof.Rows
theorem BS {P:Params} {h:Heap}:∀ (ns:List Int) (vs:List Value),WellAll P h vs (ns.map WData.int)->IntsAre vs ns:=by
 intro ns
 induction ns with
 | nil =>
  intro vs w
  rw [Nr] at w
  cases w
  exact .nil
 | cons n ns ih =>
  intro vs w
  rw [J8] at w
  cases w with
  | cons a b =>
   cases a
   exact .cons _ _ (ih _ b)
theorem BU {l:OpenLaw} {n:Nat} (hn:l.most=some n) {P:Params} {h:Heap} {args:List WData} {vals:List Value}
  (hpre:l.row.toRowW.claim.pre args=true) (hwl:WellAll P h vals args) :
  ∃ a vs ns,vals=[Value.ref a]/\args=[WData.list (ns.map WData.int)]/\h.get? a=some { cls:=.type "list",data:=.seq vs.toArray }/\IntsAre vs ns/\ns.length<=n:=by
 have hsh:WShape.hasAll [] args [.list .int]=true:=(pre_splitW hpre).1
 have hc:l.pre.holds [] { args:=args }=true:=(pre_splitW hpre).2
 obtain ⟨d,r,rfl,h1,h2⟩:=hasAllW_cons hsh
 obtain rfl:=hasAllW_nil h2
 obtain ⟨xs,rfl,h3⟩:=hasW_list h1
 obtain ⟨ns,rfl⟩:=items_int h3
 have hlen:ns.length<=n:=by
  unfold OpenLaw.pre at hc
  have h4:(WTm.not (.lt (.lit (.int (n:Int))) (.len (.arg 0)))).holds [] { args:=[.list (ns.map .int)] }=true:=by
   have h4:=(holds_andW hc).1
   rw [hn] at h4
   exact h4
  have h5:=condW_of h4 (w_not (w_lt w_lit (w_len_list (w_arg rfl))))
  rw [JN] at h5
  refine M6 λq=>?_
  have q':(n:Int)<((ns.length:Nat):Int):=by lia
  first
   | (rw [KR q'] at h5;exact absurd h5 (by decide))
   | (simp at h5;lia)
 cases hwl with
 | cons w1 w2 =>
  cases w2
  cases w1 with
  | list ho hall=>exact ⟨_,_,ns,rfl,rfl,ho,BS ns _ hall,hlen⟩
theorem BV (l:OpenLaw) (args:List WData):l.row.toRowW.claim.post args (.bool true) args=true :=
 postW_of (r:=l.row.toRowW) (X:=(true == true))
  (show WShape.has [] (.bool true) .bool=true by first | rfl | decide | simp [WShape.has,WShape.arms,WShape.armsAll])
  (show (WTm.eq .res (.lit (.bool true))).value [] { args:=args,res:=some (.bool true),after:=args }=some (.bool (true == true)) from w_eq_bool (w_res rfl) w_lit) rfl
theorem attach_call {l:OpenLaw} {n:Nat} {q:Program} {loose:List Str} {XP:(Str->Option Value)->Heap->Prop} {YP:World->Heap->Prop} {d:DefRec}
  (hn:l.most=some n) (hdf:d.params.defaults=[])
  (call:∀ (w:World) (s₀ s₁:Shared) (mg mb:Str->Option Value) (fa:Addr) (o:Obj) (pm cd doc:Value) (a:Addr) (vs:List Value) (ns:List Int),
   Ground q loose [] XP w s₀ mg mb s₁.heap->YP w s₁.heap ->
   s₁.heap.get? fa=some o->o.data = .func (docDef d.name d.params d.body d.scope pm cd doc)->s₁.heap.CodeRec cd d.name->mg d.name=some (.ref fa) ->
   s₁.heap.get? a=some { cls:=.type "list",data:=.seq vs.toArray }->IntsAre vs ns->ns.length<=n->s₁.gens = #[] ->
   codeAny (model l.prog w) callerA (.call (.ref fa) ⟨[.ref a],[]⟩) (λr s' => r = .ok (.ret (.bool true))/\OldK s₁.heap s'.heap/\s'.os=s₁.os/\AllBare s'.gens) s₁) :
  WalkO q loose XP YP l.row.toRowW d [] (λf vs=>PySem.call f vs):=by
 intro w s₀ s₁ mg mb G Y fa o pm cd doc dV kV ho hd hcd hD hmg hg args vals as hpre hlay hrd hwl hlo
 obtain rfl:dV = .none:=Dflts.none hD hdf
 obtain rfl:kV = .none:=Dflts.noKw hD
 obtain ⟨a,vs,ns,rfl,rfl,hobj,hints,hlen⟩:=BU hn hpre hwl
 refine enter_call (MB (call w s₀ s₁ mg mb fa o pm cd doc a vs ns G Y ho (fd_plain hd) hcd hmg hobj hints hlen hg) λr s' hq=>?_)
 obtain ⟨rfl,h2,h3,h4⟩:=hq
 exact ⟨.inl ⟨.bool true,.bool true,[],rfl,λ_=>rfl,.bool true,BV l _,λ_=>⟨List.Pairwise.nil,λ_ hm=>(nomatch hm)⟩⟩,h2,h3,h4⟩
section
variable {prog:Program} {w:World} {A:Around} {E:Value->Shared->Prop} {s:Shared} {K:Frag}
end
end Att
namespace L2
open PySem PySem.Spec PyProof.Rows
theorem mV:∀ {vs:List Value} {ns:List Int},IntsAre vs ns->Vals (ns.map V.int) vs
 | _,_,.nil=>.nil
 | _,_,.cons n t h=>.cons ⟨t,rfl⟩ (mV h)
noncomputable def jc (H:Hp):Prop:=∀ b,H b=none\/∃ o xs,H b=some (.frz o (.lst xs))
theorem BW {P:Program} {w:World} {K:PySem.W.Frag} {mg mb:Str->Option Value} {CX:eC} {k:Nat} {fa a:Addr} {fd:FuncData} {x:Str} {sp:Sp} {s₁:Shared} {vs:List Value} {ns:List Int}
  (KX:K.In s₁.heap) (hns:s₁.heap.Ns mainGlobals mg) (hb:s₁.heap.Ns builtinsNs mb) (hbb:∀ x:Str,x ≠ "__name__" -> mb x=bootBuiltins x) (hlim:s₁.heap.NoLimit) (hg:s₁.gens = #[])
  (ha:s₁.heap.get? a=some { cls:=.type "list",data:=.seq vs.toArray }) (hi:IntsAre vs ns) (hl:ns.length<=sizeLine) (hr:Room k callerA)
  (F:∀ base:Heap,K.In base->base.Ns mainGlobals mg->FnOk P w K mg base CX k fa fd [x] sp) (hbind:∀ (s:Shared) (u:Value),BindsTo s fd ⟨[u],[]⟩ [(x,u)])
  (hsp:∀ H:Hp,jc H->SqL K H a (ns.map V.int)->sp [.ref a] H (λv _=>v = .bl true) λ_ _ _=>False)
  (hCX:∀ H e s',CX [] H s₁ (λ_ _ _=>False) e s'->False) :
  codeAny (model P w) callerA (.call (.ref fa) ⟨[.ref a],[]⟩) (λr s' => r = .ok (.ret (.bool true))/\OldK s₁.heap s'.heap/\s'.os=s₁.os/\AllBare s'.gens) s₁:=by
 have rv:=mV hi
 have lenV:=hi.length
 have core:∀ H:Hp,jc H->SqL K H a (ns.map V.int)->HOk P w H s₁.heap->(∀ b,H b≠none->b=a)->(H a≠none->K.lookup a=none) ->
   codeAny (model P w) callerA (.call (.ref fa) ⟨[.ref a],[]⟩) (λr s' => r = .ok (.ret (.bool true))/\OldK s₁.heap s'.heap/\s'.os=s₁.os/\AllBare s'.gens) s₁:=by
  intro H hO hS hok hA hK
  have base_of:∀ {b:Addr} {o:Obj},s₁.heap.get? b=some o->H b=none->(dq s₁.heap H).get? b=some o:=λe n=>zy e n
  have noA:∀ {b:Addr} {o:Obj} {es:Array DictEntry} {ep:Nat},s₁.heap.get? b=some o->o.data = .dict es ep->H b=none:=λ{b o es ep} e d=>by
   cases q:H b with
   | none=>rfl
   | some u =>
    have e':b=a:=hA b (by rw [q];simp)
    subst e'
    rw [ha] at e;cases e
    have d':Data.seq vs.toArray _=Data.dict es ep:=d
    cases d'
  have nsK:∀ {b:Addr} {m:Str->Option Value},s₁.heap.Ns b m->(dq s₁.heap H).Ns b m:=λ{b m} ⟨o,es,ep,e,d,r⟩=>⟨o,es,ep,base_of e (noA e d),d,r⟩
  have hKb:K.In (dq s₁.heap H):=λb o e=>base_of (KX b o e) (by
   cases q:H b with
   | none=>rfl
   | some u =>
    have e':b=a:=hA b (by rw [q];simp)
    subst e'
    rw [hK (by rw [q];simp)] at e;cases e)
  have hM:Mod K mg (dq s₁.heap H):=⟨hKb,nsK hns,⟨mb,nsK hb,hbb⟩,let ⟨mc,h1,h2⟩:=hlim;⟨mc,nsK h1,h2⟩⟩
  have e0:Env0 P w K mg (dq s₁.heap H) callerA [] s₁ H:=⟨rfl,hM,λb o e=>zA e,Nq (zx _ _),trivial,λb hb=>absurd (show b∈([]:List Addr) from hb) (by simp),hok,.of_eq hg⟩
  refine MB ((F _ hKb (nsK hns)).run callerA [] s₁ H ⟨[.ref a],[]⟩ [.ref a] [.ref a] _ _ hr e0 (hbind s₁ (.ref a)) (.cons rfl .nil) (hsp H hO hS)) λr s' h=>?_
  cases r with
  | error e=>exact (hCX H e s' h).elim
  | ok fl =>
   cases fl with
   | next=>exact False.elim h
   | brk=>exact False.elim h
   | cont=>exact False.elim h
   | ret u =>
    obtain ⟨v,H',os,bare,un,hok',r',q⟩:=h
    have q':v = .bl true:=q
    subst q'
    obtain rfl:u=Value.bool true:=r'
    refine ⟨rfl,OldK.of_keep λb o e=>?_,os,bare⟩
    cases q:H b with
    | none=>exact un.keep b o e q (by intro z;exact absurd (show b∈([]:List Addr) from z) (by simp)) (by simp)
    | some u =>
     rcases hO b with z | ⟨ob,xs,z⟩
     ·rw [q] at z;cases z
     ·have z2:=un.frzs b ob _ z
      obtain ⟨e1,_⟩:=hok b _ z
      obtain ⟨e2,_⟩:=hok' b _ z2
      rw [e] at e1;cases e1
      exact e2
 cases hk:K.lookup a with
 | some o =>
  have e:=KX a o hk
  rw [ha] at e
  cases e
  refine core (λ_=>none) (λ_=>.inl rfl) (.inr ⟨_,vs.toArray,_,hk,rfl,rfl,rfl,by rw [JK,lenV];exact hl,by simpa using rv⟩) (λb u z=>by have z':(none:Option HO)=some u:=z;cases z') (λb z=>absurd rfl z) λz=>absurd rfl z
 | none =>
  refine core (λb=>if b=a then some (.frz { cls:=.type "list",data:=.seq vs.toArray } (.lst (ns.map V.int))) else none) (λb=>?_) (.inl (.inr ⟨{ cls:=.type "list",data:=.seq vs.toArray },JG rfl⟩)) (λb u z=>?_) (λb z=>?_) λ_=>hk
  ·by_cases hb:b=a
   ·exact .inr ⟨_,_,JG hb⟩
   ·exact .inl (JF hb)
  ·by_cases hb:b=a
   ·have z' := (JG hb).symm.trans z
    cases z'
    subst hb
    exact ⟨ha,by rw [JN];exact hl,vs,_,rv,ha⟩
   ·have z' := (JF hb).symm.trans z
    cases z'
  ·by_cases hb:b=a
   ·exact hb
   ·exact absurd (JF hb) z
end L2
namespace L2
open PySem PySem.Spec PyProof.Rows
theorem walk_of {l:PySem.W.OpenLaw} {n k:Nat} {q:Program} {loose:List Str} {XP:(Str->Option Value)->Heap->Prop} {YP:World->Heap->Prop} {d:DefRec} {K:Params->PySem.W.Frag} {CX:World->eC} {sp:World->Sp} {x:Str}
  (hn:l.most=some n) (hn2:n<=sizeLine) (hdf:d.params.defaults=[]) (hr:Room k callerA)
  (hY:∀ (w:World) (h:Heap),YP w h->(K w.params).In h)
  (F:∀ (w:World) (mg:Str->Option Value) (fa:Addr) (h:Heap),(K w.params).In h->h.Ns mainGlobals mg->mg d.name=some (.ref fa) ->
   ∃ fd:FuncData,(∀ (s:Shared) (u:Value),BindsTo s fd ⟨[u],[]⟩ [(x,u)]) /\
    ∀ base:Heap,(K w.params).In base->base.Ns mainGlobals mg->FnOk l.prog w (K w.params) mg base (CX w) k fa fd [x] (sp w))
  (hsp:∀ (w:World) (H:Hp) (a:Addr) (ns:List Int),ns.length<=n->jc H->SqL (K w.params) H a (ns.map V.int)->sp w [.ref a] H (λv _=>v = .bl true) λ_ _ _=>False)
  (hCX:∀ (w:World) (H:Hp) (s:Shared) (e:Value) (s':Shared),CX w [] H s (λ_ _ _=>False) e s'->False) :
  PySem.W.WalkO q loose XP YP l.row.toRowW d [] (λf vs=>PySem.call f vs):=by
 refine Att.attach_call hn hdf λw s₀ s₁ mg mb fa o pm cd doc a vs ns G Y ho hd hcd hmg hobj hints hlen hg=>?_
 have KX:=hY w _ Y
 obtain ⟨fd,hb,hF⟩:=F w mg fa _ KX G.T.g hmg
 exact BW KX G.T.g G.T.b G.T.builtins G.T.nolimit hg hobj hints (JI hlen hn2) hr hF hb (λH hO hS=>hsp w H a ns hlen hO hS) λH e s' => hCX w H s₁ e s'
end L2
namespace L2
open PySem PySem.Spec PyProof.Rows
noncomputable def d5 (s:Stmt) (j:Nat):Stmt:=match s with
 | .ClassDef _ _ _ body _ _ _ _ _ _ _=>body.getD j (.Pass ⟨0,0,0,0⟩)
 | _=>.Pass ⟨0,0,0,0⟩
noncomputable def jd (s:Stmt):Arguments:=match s with
 | .FunctionDef _ a _ _ _ _ _ _ _ _=>a
 | _=>{ posonlyargs:=[],args:=[],vararg:=none,kwonlyargs:=[],kw_defaults:=[],kwarg:=none,defaults:=[] }
noncomputable def gA (s:Stmt):List Stmt:=match s with
 | .FunctionDef _ _ b _ _ _ _ _ _ _=>b
 | _=>[]
noncomputable def aM (s:Stmt):Scope:=match s with
 | .FunctionDef _ _ _ _ _ _ sc _ _ _=>sc
 | _=>{ kind:=.function,names:=[],isGenerator:=false,isCoroutine:=false }
noncomputable abbrev E0:XK:=λ_ _ _=>False
structure Fun (K:PySem.W.Frag) (x qual:Str) (st:Stmt) (f:Addr) (fd:FuncData):Prop where
 ex:∃ (oc:Value) (od:Option Addr) (kV doc pm:Value) (an:Option Addr) (cdv ct:Value) (osl:Array (Option Value)),
  fd=PySem.W.fnOf x qual (jd st) (gA st) (aM st) .none kV doc pm an cdv ct/\K.lookup f=some ⟨oc,od,.func fd,osl⟩/\PySem.W.codeIn K cdv qual=true
 kp:PySem.W.keepIn K (.ref f)=true
section
variable {P:Program} {w:World} {K:PySem.W.Frag} {mg:Str->Option Value} {base:Heap}
theorem Fun.binds {x qual:Str} {st:Stmt} {f:Addr} {fd:FuncData} {ps:List Str} (F:Fun K x qual st f fd)
  (h:∀ (kV doc pm:Value) (an:Option Addr) (cdv ct:Value) (us:List Value),us.length=ps.length->bindArgs (PySem.W.fnOf x qual (jd st) (gA st) (aM st) .none kV doc pm an cdv ct) ⟨us,[]⟩=pure (ps.zip us)):Binds K fd ps []:=by
 obtain ⟨oc,od,kV,doc,pm,an,cdv,ct,osl,rfl,lk,hcd⟩:=F.ex
 exact .all (h kV doc pm an cdv ct)
theorem vz {x qual:Str} {st:Stmt} {f:Addr} {oc:Value} {od an:Option Addr} {osl:Array (Option Value)} {kV doc pm cdv ct:Value} (l:K.lookup f=some ⟨oc,od,.func (PySem.W.fnOf x qual (jd st) (gA st) (aM st) .none kV doc pm an cdv ct),osl⟩)
  (c:PySem.W.codeIn K cdv qual=true) (k:PySem.W.keepIn K (.ref f)=true):Fun K x qual st f (PySem.W.fnOf x qual (jd st) (gA st) (aM st) .none kV doc pm an cdv ct):=⟨⟨oc,od,kV,doc,pm,an,cdv,ct,osl,rfl,l,c⟩,k⟩
end
section
variable {X:Cx}
theorem pv (i:Nat) {x:Str} {pos:Pos} (hN:X.N[i]? = some x:=by rfl) (hv:gy X.env.scope x:=by first | exact Or.inl rfl | exact Or.inr (Or.inl rfl) | exact Or.inr (Or.inr rfl)) (hd:(x == ("__debug__" : Str))=false:=by decide)
  (hcd:(x == ("__classdict__" : Str))=false:=by decide):PE X (.Name x pos) (kq i):=zB hN hv hd hcd
theorem BX:CallR X (.builtin "len") (λxs H Q=>∃ a kvs,xs=[V.ref a]/\H a=some (.dK kvs)/\Q (.int kvs.length) H):=by
 intro pins s σ H xs us Q I r h
 obtain ⟨a,kvs,rfl,ha,q⟩:=h
 obtain ⟨u,rfl,ru⟩:=gU r
 cases ru
 exact BE I (.inl ha) λt s' I' => ⟨.int kvs.length,H,I',⟨t,rfl⟩,q⟩
end
section
variable {κ:Type} [DecidableEq κ]
end
end L2
set_option maxHeartbeats 4000000
namespace L2
open PySem PySem.Spec PyProof.Rows
section
variable {X:Cx} {pins:List (Addr×Obj)} {σ:St} {H:Hp} {s:Shared} {h':Heap}
theorem Inv.turnedL {t':Nat} {fp:List Addr} (I:Inv X pins σ H s) (k:∀ b o,b∉fp->s.heap.get? b=some o->h'.get? b=some o) (hf:∀ b∈fp,cV X pins H b) :
  Inv X pins σ H { s with heap:=h',toks:=t' }:=by
 have nit:∀ b u,H b=some u->b∉fp:=λb u e z=>by
  have q:=(hf b z).1
  rw [q] at e
  cases e
 refine I.step (g' := s.gens) (d' := s.drawn) (ch:=fp) (λb hb=>?_) (λb o _ _ hc e _=>k b o hc e) (λb o _ _ hc e _=>⟨o.slots,k b o hc e⟩) (λ_ _ _ _ n=>n)
  (λb o hc e=>⟨o,k b o hc e⟩) (λ_ _ e=>e) (λ_ _ _ e=>e) (λb ps e=>⟨#[],by rw [e];simp⟩) (λm hm=>?_) (λb u e=>?_) I.bare
 ·obtain ⟨_,f1,_,f3,f4,f5⟩:=hf b hb
  exact ⟨f3,f1,f4,f5⟩
 ·obtain ⟨o,es,ep,ho,r⟩:=hm
  exact ⟨o,es,ep,k _ o (λz=>(hf _ z).2.1 rfl) ho,r⟩
 ·refine (I.hok b u e).stay (λc v hc q=>k c v ?_ q) (λ_ q=>q) λ_ _ q=>q
  rcases hc with z | z
  ·rw [z];exact nit b u e
  ·exact nit c _ z
end
section
variable {X:Cx}
end
noncomputable def qf (x:Str):It:=⟨λi _=>i<x.cps.size,λi H v H' => H'=H/\∃ c,x.cps[i]? = some c/\v = .str ⟨#[c]⟩,λi _=>x.cps.size<=i⟩
theorem BY {P:Program} {w:World} {A:Around} (hh:A.handled=none) (it:Addr) (x:Str) (t:Tok) :
  Walks P w A it [it] [it] x.cps.size (SignAt x) (λi h=>h.IsStrIter it (strIterType x) x t i):=by
 cases ha:x.cps.all (· < 128) with
 | false =>
  have e:strIterType x = "str_iterator" := by simp [strIterType,ha]
  rw [e]
  exact Walks.strWide hh it x t
 | true =>
  have e:strIterType x = "str_ascii_iterator" := by simp [strIterType,ha]
  rw [e]
  exact Walks.strAscii hh it x t
theorem BZ {P:Program} {w:World} {K:PySem.W.Frag} {y:Str} {py:Pos} (it:Addr) (x:Str) (t:Tok):d9 P w K (.Name y py) (qf x) [it] it (λi h=>h.IsStrIter it (strIterType x) x t i) where
 mem:=by simp
 obj:=λi h st b hb=>by
  have e:b=it:=by simpa using hb
  subst e
  obtain ⟨o,e,c,d⟩:=st
  exact ⟨o,e,λv z=>by rw [d] at z;cases z⟩
 keep:=λi h h' st k=>by
  obtain ⟨o,e,r⟩:=st
  exact ⟨o,k it (by simp) o e,r⟩
 item:=by
  intro X hP hw hK hc i pins s σ H E I hf st hg
  subst hP hw hK
  refine (BY (I.ok.hd hc) it x t).item i s _ _ hg st λv h1 tk hv st1 kk=>?_
  obtain ⟨c,u,hcp,rfl⟩:=hv
  have I1:Inv X pins σ H { s with heap:=h1,toks:=tk }:=I.turnedL (fp:=[it]) kk hf
  exact ⟨_,rfl,JB ⟨.str ⟨#[c]⟩,H,I1,⟨u,rfl⟩,⟨rfl,c,hcp,rfl⟩,st1,λb hb=>(hf b hb).1⟩⟩
 done:=by
  intro X hP hw hK hc i pins s σ H E I hf st hg
  subst hP hw hK
  have hx:x.cps[i]? = none:=Mf hg
  cases ha:x.cps.all (· < 128) with
  | false =>
   have e:strIterType x = "str_iterator" := by simp [strIterType,ha]
   rw [e] at st
   exact wpAny_pyNext_wide_end (I.ok.hd hc) st hx λh' eb=>⟨rfl,I.turnedL (fp:=[it]) (t' := s.toks) (λb o hb q=>eb b o (λz=>hb (by simp [z])) q) hf⟩
  | true =>
   have e:strIterType x = "str_ascii_iterator" := by simp [strIterType,ha]
   rw [e] at st
   exact wpAny_pyNext_ascii_end (I.ok.hd hc) st hx λh' eb=>⟨rfl,I.turnedL (fp:=[it]) (t' := s.toks) (λb o hb q=>eb b o (λz=>hb (by simp [z])) q) hf⟩
 self:=λA i s Q E st h=>by
  cases ha:x.cps.all (· < 128) with
  | false =>
   have e:strIterType x = "str_iterator" := by simp [strIterType,ha]
   rw [e] at st
   exact wpAny_pyIter_striter_wide st h
  | true =>
   have e:strIterType x = "str_ascii_iterator" := by simp [strIterType,ha]
   rw [e] at st
   exact wpAny_pyIter_striter_ascii st h
section
variable {X:Cx}
noncomputable def qg (tl:TE):TI:=λσ H R=>tl σ H λx H1=>∃ t,x = .str t/\R (qf t) H1
theorem B3 {l:Expr} {tl:TE} {y:Str} {py:Pos} (hl:PE X l tl):PI X (.Name y py) l (qg tl):=by
 intro pins s σ H R I h
 refine thn (hl pins s σ H _ I h) λv s1 Zz=>?_;obtain ⟨x,H1,I1,r1,q1⟩:=Zz
 obtain ⟨t,e,q⟩:=q1
 subst e
 obtain ⟨tk,rfl⟩:=r1
 refine wpAny_pyIter_strU ?_
 refine ⟨s1.heap.objs.size,[s1.heap.objs.size],_,_,H1,rfl,I1.kept (t' := s1.toks) λb o e=>JD _ e,BZ _ t tk,⟨_,JL _ rfl,rfl,rfl⟩,λb hb=>?_,q⟩
 have e:b=s1.heap.objs.size:=by simpa using hb
 subst e
 exact I1.fpOk (JC _) (I1.hok.fresh (JC _))
end
noncomputable def dr (env:Env):List (Str×NameKind)->List (Str×Addr)->List (Str×Addr)
 | [],acc=>acc
 | (n,k)::r,acc=>dr env r (if k = .free then (n,(env.cells.lookup n).getD 0)::acc else acc)
theorem B4 {env:Env} {scope:Scope} (h:∀ y∈scope.names,y.2 = .free->(env.cells.lookup y.1).isSome=true):closureFor scope env=pure (dr env scope.names []):=by
 have all:∀ (l:List (Str×NameKind)) (acc:List (Str×Addr)),(∀ y∈l,y.2 = .free->(env.cells.lookup y.1).isSome=true) ->
   (forIn l acc λ(x:Str×NameKind) (cs:List (Str×Addr))=>if (x.2 == NameKind.free)=true then (do let a <- cellOf env x.1;pure (ForInStep.yield ((x.1,a)::cs))) else (pure (ForInStep.yield cs):Sem _))=pure (dr env l acc):=by
  intro l
  induction l with
  | nil=>intro acc _;rfl
  | cons y r ih =>
   intro acc hl
   obtain ⟨n,k⟩:=y
   rw [List.forIn_cons]
   have hr:=λz hz=>hl z (Km _ hz)
   by_cases hk:k = .free
   ·subst hk
    obtain ⟨c,hc⟩:=Kk.mp (hl (n,.free) KJ rfl)
    have e1:cellOf env n=pure c:=by
     simp only [cellOf]
     have hc':env.cells.lookup n=some c:=hc
     rw [hc']
    simp only [beq_self_eq_true,MM,e1,pure_bind,dr]
    have hc':env.cells.lookup n=some c:=hc
    rw [hc']
    exact ih _ hr
   ·have hb:(k == NameKind.free)=false:=by simpa using hk
    simp only [hb,K7,N9,pure_bind,dr,hk]
    exact ih _ hr
 unfold closureFor
 have q:=all scope.names [] h
 first
  | exact q
  | (simp only [bind_pure];exact q)
  | (rw [<- q];simp)
theorem qh {env:Env}:∀ {l:List (Str×NameKind)} {acc:List (Str×Addr)},(∀ y∈l,y.2 = .free->(env.cells.lookup y.1).isSome=true)->(∀ y c,acc.lookup y=some c->env.cells.lookup y=some c) ->
  ∀ y c,(dr env l acc).lookup y=some c->env.cells.lookup y=some c
 | [],_,_,h,y,c,e=>h y c e
 | (n,k)::r,acc,hl,h,y,c,e=>by
  refine qh (l:=r) (λz hz=>hl z (Km _ hz)) ?_ y c e
  intro y c e
  by_cases hk:k = .free
  ·rw [JG hk] at e
   rw [MA] at e
   cases hy:y == n with
   | true =>
    rw [hy] at e
    have e':y=n:=by simpa using hy
    obtain ⟨c',hc'⟩:=Kk.mp (hl (n,k) KJ hk)
    have hc'':env.cells.lookup n=some c' := hc'
    rw [hc''] at e
    rw [e',hc'']
    exact e
   | false =>
    rw [hy] at e
    exact h y c e
  ·rw [JF hk] at e
   exact h y c e
theorem qi {env:Env}:∀ {l:List (Str×NameKind)} {acc:List (Str×Addr)} {y:Str},(y,NameKind.free)∈l\/(acc.lookup y).isSome=true->((dr env l acc).lookup y).isSome=true
 | [],_,_,h=>by
  rcases h with h | h
  ·cases h
  ·exact h
 | (n,k)::r,acc,y,h=>by
  refine qi (l:=r) ?_
  rcases h with h | h
  ·rcases J4.mp h with e | e
   ·right
    cases e
    rw [JG rfl,MA]
    simp
   ·exact .inl e
  ·right
   by_cases hk:k = .free
   ·rw [JG hk,MA]
    cases hy:y == n with
    | true=>rfl
    | false=>exact h
   ·rw [JF hk];exact h
theorem kJ {names:List (Str×NameKind)} {x:Str} {k:NameKind} (h:names.lookup x=some k):(x,k)∈names:=Lj h
theorem mW {env:Env} {x:Str} {k:NameKind}:∀ {names:List (Str×NameKind)},(names.map λ(n,k)=>if (k == NameKind.free && env.scope.kind == .function && env.kindOf n == some .cell) then (n,NameKind.cell) else (n,k)).lookup x=some k ->
  names.lookup x=some k\/(k = .cell/\names.lookup x=some .free)
 | [],h=>by simp at h
 | (n,kk)::r,h=>by
  have ih:=@mW env x k r
  by_cases hc:(kk == NameKind.free && env.scope.kind == .function && env.kindOf n == some .cell)=true
  ·have hf:kk = .free:=by
    have q:=(K2 _ _).mp ((K2 _ _).mp hc).1
    simpa using q.1
   subst hf
   have h':List.lookup x ((n,NameKind.cell)::(r.map λ(n,k)=>if (k == NameKind.free && env.scope.kind == .function && env.kindOf n == some .cell) then (n,NameKind.cell) else (n,k)))=some k:=by
    have e:(λ(p:Str×NameKind)=>match p with | (n,k)=>if (k == NameKind.free && env.scope.kind == .function && env.kindOf n == some .cell)=true then (n,NameKind.cell) else (n,k)) (n,NameKind.free)=(n,NameKind.cell):=by
     show (if _ then _ else _)=_
     rw [JG hc]
    rw [J8] at h
    rw [<- e]
    exact h
   rw [MA] at h' ⊢
   cases hx:x == n with
   | true =>
    rw [hx] at h'
    right
    exact ⟨(Kp h').symm,rfl⟩
   | false =>
    rw [hx] at h'
    exact ih h'
  ·have h':List.lookup x ((n,kk)::(r.map λ(n,k)=>if (k == NameKind.free && env.scope.kind == .function && env.kindOf n == some .cell) then (n,NameKind.cell) else (n,k)))=some k:=by
    have e:(λ(p:Str×NameKind)=>match p with | (n,k)=>if (k == NameKind.free && env.scope.kind == .function && env.kindOf n == some .cell)=true then (n,NameKind.cell) else (n,k)) (n,kk)=(n,kk):=by
     show (if _ then _ else _)=_
     rw [JF hc]
    rw [J8] at h
    rw [<- e]
    exact h
   rw [MA] at h' ⊢
   cases hx:x == n with
   | true =>
    rw [hx] at h'
    exact .inl h'
   | false =>
    rw [hx] at h'
    exact ih h'
structure CompOk (X:Cx) (ns:List Str) (jf:List (Nat×Str)) (scope:Scope):Prop where
 hN:(ns++jf.map (·.2)).Nodup
 hx:∀ x∈ns,scope.names.lookup x=some .local
 hjf:∀ p∈jf,X.N[p.1]? = some p.2
 hjl:∀ p∈jf,scope.names.lookup p.2=some .free
 hkind:scope.kind = .function
 hcell:∀ y∈scope.names,y.2 ≠ .cell
 hfr:∀ y∈scope.names,y.2 = .free->X.env.kindOf y.1=some .cell\/X.env.kindOf y.1=some .free
 hnames:∀ y∈scope.names,y.2 = .local->scope.names.lookup y.1=some .local
noncomputable def cE (X:Cx) (pins:List (Addr×Obj)) (ns:List Str) (jf:List (Nat×Str)) (scope:Scope) (cl:List (Str×Addr)) (s:Shared) (H:Hp) (fp:List Addr):Cx where
 prog:=X.prog
 w:=X.w
 K:=X.K
 mg:=X.mg
 base:=X.base
 A:=X.A
 N:=ns++jf.map (·.2)
 s₀:=s
 H₀:=H
 env:=compEnvC scope cl s.heap.objs.size X.env
 outer:=X.stack
 stack:=X.stack
 ex:=fp
 fn:=λ_=>false
 calm:=X.calm
 pn:=X.pn++pins
 xe:=λ_ _=>False
noncomputable def d6 (vs:List (Option V)) (js:List (Nat×Str)) (σ:St):St:=vs++js.map λj=>(σ[j.1]?).join
noncomputable def gB (X:Cx) (ifs:List Expr) (t:TT):Prop :=
 ∀ (pins:List (Addr×Obj)) (s:Shared) (σ:St) (H:Hp) (Q:Bool->Hp->Prop),Inv X pins σ H s->t σ H Q ->
  wpAny (model X.prog X.w) X.A (forIn ifs true λc r=>if r=true then do let ok <- isTrue c X.env (eval c X.env);pure (ForInStep.yield ok) else pure (ForInStep.yield r)) (TP X pins σ Q) X.xe s
noncomputable def qj:TT:=λ_ H Q=>Q true H
theorem B5 {X:Cx}:gB X [] qj:=λpins s σ H Q I h=>wpAny_tests_nil ⟨H,I,h⟩
theorem B6 {X:Cx} {c:Expr} {t:TT} (hc:PT X c t):gB X [c] t:=λpins s σ H Q I h=>wpAny_tests_one (hc pins s σ H Q I h)
noncomputable def vA (k:Nat) (g:TG) (jf:List (Nat×Str)) (tc:TT) (te:TE) (σ:St) (Q:VK) (J:It) (H1:Hp):Prop:=∀ D,H1 D=none->∃ W:Nat->Nat->List V->Hp->Prop,(∃ m,W 0 m [] (aJ H1 D (.lst []))) /\
 ∀ i m ys H2,W i m ys H2->H2 D=some (.lst ys)/\((J.stop i H2/\Q (.ref D) H2)\/(J.go i H2/\ys.length<sizeLine/\∀ x H3,J.yld i H2 x H3->∃ us:List V,us.length=k/\g x (d6 (List.replicate k none) jf σ) H3 (λσ' H' => σ'=d6 (us.map some) jf σ/\H'=H3)/\tc (d6 (us.map some) jf σ) H3 λb H5 =>
  if b=true then te (d6 (us.map some) jf σ) H5 λv H6=>H6 D=some (.lst ys)/\∃ m',m'<m/\W (i+1) m' (ys++[v]) (aJ H6 D (.lst (ys++[v]))) else ∃ m',m'<m/\W (i+1) m' ys H5))
noncomputable def kK (k:Nat) (g:TG) (jf:List (Nat×Str)) (wi:TI) (tc:TT) (te:TE):TE:=λσ H Q=>wi σ H (vA k g jf tc te σ Q)
section
variable {X:Cx} {pins:List (Addr×Obj)} {σ:St} {H:Hp} {s:Shared} {ns:List Str} {jf:List (Nat×Str)} {scope:Scope} {fp:List Addr}
theorem CompOk.pg {cl:List (Str×Addr)} {x:Str} {p:Pos} (C:CompOk X ns jf scope) (i:Nat) (h:(ns++jf.map (·.2))[i]? = some x) (m:x∈ns):PG (cE X pins ns jf scope cl s H fp) (.Name x p) (jK i) :=
 uQ C.hN h (.inl (OG (C.hx x m))) (.inr (OG (C.hx x m)))
theorem Inv.block {h1:Heap} {tk:Nat} (I:Inv X pins σ H s) (hf:∀ b∈fp,cV X pins H b) (hlt:∀ b∈fp,b<s.heap.objs.size) (C:CompOk X ns jf scope)
  (hn:h1.Ns s.heap.objs.size (λ_=>none)) (hk:∀ b o,s.heap.get? b=some o->h1.get? b=some o) :
  Inv (cE X pins ns jf scope (dr X.env scope.names []) s H fp) [] (d6 (List.replicate ns.length none) jf σ) H { s with heap:=h1,toks:=tk }:=by
 obtain ⟨_,_,hjf,hjl,hkind,hcell,hfr,_⟩:=C
 have hsome:∀ y∈scope.names,y.2 = .free->(X.env.cells.lookup y.1).isSome=true:=λy hy hyf=>Kk.mpr (I.ok.has y.1 (hfr y hy hyf))
 have sub:∀ y c,(dr X.env scope.names []).lookup y=some c->X.env.cells.lookup y=some c:=qh hsome (λy c e=>by simp at e)
 have hsz:=I.sz
 have inE:∀ b,b∈(cE X pins ns jf scope (dr X.env scope.names []) s H fp).ex->b∈fp:=λb z=>z
 have stk:∀ b∈c6 X.stack,b<s.heap.objs.size:=λb hb=>by
  obtain ⟨_,o,ho,_⟩:=I.stack.mem hb
  exact JR ho
 refine ⟨⟨I.ok.mod,hkind,I.ok.glob,I.ok.blt,JC _,λy z c e1 e2=>I.ok.inj y z c (sub y c e1) (sub z c e2),λy hy=>?_,λy c hfn _=>(by cases hfn),I.ok.hd,I.ok.frames,.inl rfl,λb hb=>?_,λb o e=>I.bs b o e,JI I.ok.bsz hsz,λb o e z=>?_,λb hb z=>?_,I.stack,I.stkFree⟩,
  rfl,I.bare,Un.kept hk,⟨_,hn,λi y v e1 e2 e3=>?_⟩,λy c e=>?_,I.hok.fresh (JC _),λy c e=>I.freeC y c (sub y c e),λp hp=>?_,I.hok.kept hk,?_⟩
 ·have hy':(relabel scope X.env).names.lookup y=some .cell\/(relabel scope X.env).names.lookup y=some .free:=hy
  have mem:(y,NameKind.free)∈scope.names:=by
   rcases hy' with q | q
   ·rcases mW (env:=X.env) q with z | z
    ·exact absurd rfl (hcell _ (kJ z))
    ·exact kJ z.2
   ·rcases mW (env:=X.env) q with z | z
    ·exact kJ z
    ·exact kJ z.2
  exact Kk.mp (qi (.inl mem))
 ·exact ⟨Ka (hlt b hb),λy c e=>(hf b hb).2.2.2.2.1 y c (sub y c e)⟩
 ·rcases (hf b z).2.2.2.1 with q | q
  ·exact I.ok.noex b o e q
  ·exact absurd (JZ (JR e) (JI I.ok.bsz q)) (LR _)
 ·rcases J4.mp (I.stkSub b z) with q | q
  ·exact (hf b hb).2.1 q
  ·exact (hf b hb).2.2.1 q
 ·have e1':(ns++jf.map (·.2))[i]? = some y:=e1
  unfold d6 at e2
  by_cases hi:i<ns.length
  ·rw [JE (by rw [KW];exact hi),Lq,JG hi] at e2;cases e2
  ·have hi:=M6 hi
   rw [J7 hi,Kb] at e1'
   rw [J7 (by rw [KW];exact hi),KW,Kb] at e2
   cases q:jf[i-ns.length]? with
   | none=>rw [q] at e2;cases e2
   | some p =>
    rw [q] at e1' e2
    have ey:p.2=y:=Kp e1'
    have ev:(σ[p.1]?).join=some v:=Kp e2
    have hp:p∈jf:=J6 q
    have eσ:σ[p.1]? = some (some v):=by
     cases z:σ[p.1]? with
     | none=>rw [z] at ev;cases ev
     | some r=>rw [z] at ev;rw [show r=some v from ev]
    have hfree:scope.names.lookup y=some .free:=by rw [<- ey];exact hjl p hp
    have mem:=kJ hfree
    have kX:=hfr _ mem rfl
    obtain ⟨m,hnX,hl⟩:=I.loc
    obtain ⟨u,ru,lk⟩:=hl p.1 y v (by rw [<- ey];exact hjf p hp) eσ (by
     rcases kX with z | z
     ·exact .inr (.inl z)
     ·exact .inr (.inr z))
    refine ⟨u,ru,.inr ⟨?_,?_⟩⟩
    ·have e3':gy (relabel scope X.env) y:=e3
     rcases e3' with z | z | z
     ·exfalso
      rcases mW (env:=X.env) z with q | q
      ·rw [hfree] at q;cases q
      ·cases q.1
     ·exact .inl z
     ·exact .inr z
    ·rcases lk with ⟨z,_⟩ | ⟨_,c,hc,hcell'⟩
     ·exfalso
      rcases kX with q | q
      ·rw [show X.env.kindOf y=some .cell from q] at z;cases z
      ·rw [show X.env.kindOf y=some .free from q] at z;cases z
     ·obtain ⟨c',hc'⟩:=Kk.mp (qi (env:=X.env) (acc:=[]) (.inl mem))
      have e:=sub y c' hc'
      rw [hc] at e
      cases e
      obtain ⟨o,ho,hd⟩:=hcell'
      exact ⟨c,hc',o,hk c o ho,hd⟩
 ·obtain ⟨v,o,ho,hd⟩:=I.cell y c (sub y c e)
  exact ⟨v,o,hk c o ho,hd⟩
 ·have hp':p∈X.pn++pins:=by simpa [cE] using hp
  obtain ⟨e,n,ne,nf,d⟩:=I.pin p hp'
  refine ⟨hk _ _ e,n,Ka (JR e),λz=>?_,d⟩
  rcases J4.mp (I.stkSub p.1 z) with q | q
  ·exact ne q
  ·exact nf q
 ·unfold d6
  show _=(ns++jf.map (·.2)).length
  rw [JJ,JJ,KW,JN,JN]
end
theorem B7 {prog:Program} {w:World} {A:Around} {R:Result->Shared->Prop} {s:Shared} {elt target iter:Expr} {ifs:List Expr} {scope:Scope} {pos:Pos} {it acc:Value} {env:Env} (I:Nat->Shared->Prop)
  (turn:∀ n s,I n s->wpAny (model prog w) A (pyNext it) (λr s₁=>match r with
   | none=>R (.ok .next) s₁
   | some v=>wpAny (model prog w) A (letOwnedTupleGo target it v) (λ_ s₂=>wpAny (model prog w) A (assign target env v) (λ_ s₃ =>
     wpAny (model prog w) A (forIn ifs true λc r=>if r=true then do let ok <- isTrue c env (eval c env);pure (ForInStep.yield ok) else pure (ForInStep.yield r)) (λok s₄ =>
      if ok=true then wpAny (model prog w) A (eval elt env) (λx s₅=>wpAny (model prog w) A (call (.builtin "list.append") [acc,x]) (λ_ s₆=>∃ m,m<n/\I m s₆) (λ_ _=>False) s₅) (λ_ _=>False) s₄
      else ∃ m,m<n/\I m s₄) (λ_ _=>False) s₃) (λ_ _=>False) s₂) (λ_ _=>False) s₁) (λ_ _=>False) s)
  (n:Nat) (h:I n s):codeAny (model prog w) A (.compLoop (.ListComp elt [⟨target,iter,ifs,0⟩] scope pos) 0 it acc env) R s:=by
 refine codeAny_loop rfl I (λn s hI=>?_) n h
 show wpAny _ A ((compTurn (.ListComp elt [⟨target,iter,ifs,0⟩] scope pos) 0 it acc env).onRaise (λx=>do noteFrame x env;theTreesLotGoes x)) _ _ s
 refine wpAny_noted ?_
 rw [compTurn_list]
 refine Jz (OT (Jz (Ku (turn n s hI) (λr s₁ h₁=>?_) λ_ _ z=>z.elim)))
 cases r with
 | none=>exact JB h₁
 | some v =>
  refine Jz (Ku h₁ (λ_ s₂ h₂=>?_) λ_ _ z=>z.elim)
  refine Jz (Ku h₂ (λ_ s₃ h₃=>Jz (Ku h₃ (λok s₄ h₄=>?_) λ_ _ z=>z.elim)) λ_ _ z=>z.elim)
  cases ok with
  | false=>exact JB ⟨rfl,h₄⟩
  | true =>
   exact Jz (Jz (Ku h₄ (λx s₅ h₅=>Jz (Ku h₅ (λ_ s₆ h₆=>JB (JB ⟨rfl,h₆⟩)) λ_ _ z=>z.elim)) λ_ _ z=>z.elim))
section
variable {X:Cx} {ns:List Str} {tg:Expr} {g:TG} {jf:List (Nat×Str)} {scope:Scope} {iter elt:Expr} {ifs:List Expr} {pos:Pos} {wi:TI} {tc:TT} {te:TE}
theorem vB (hcalm:X.calm=true) (hg:∀ pins cl s H fp,PG (cE X pins ns jf scope cl s H fp) tg g) (hi:PI X tg iter wi) (hc:∀ pins cl s H fp,gB (cE X pins ns jf scope cl s H fp) ifs tc) (he:∀ pins cl s H fp,PE (cE X pins ns jf scope cl s H fp) elt te) (C:CompOk X ns jf scope) {use:Option (Value->Sem Unit)} {Qf:Value->Shared->Prop} {cpos:Pos}
  {pins:List (Addr×Obj)} {σ:St} {H:Hp} {s:Shared} {Q:VK} (I:Inv X pins σ H s) (h:kK ns.length g jf wi tc te σ H Q)
  (fin:∀ D C s6 H6 m6,Inv X pins σ H6 s6->Q (.ref D) H6->cV X pins H6 C->s6.heap.Ns C m6->compPost (model X.prog X.w) X.A X.xe use Qf (.ref D) C (.ok .next) s6) (hs:∀ x,foldedSetIterable iter X.env x=pure x) :
  wpAny (model X.prog X.w) X.A (comprehension (.ListComp elt [⟨tg,iter,ifs,0⟩] scope pos) scope X.env cpos (newList []) false (eval iter X.env) use) Qf X.xe s:=by
 obtain ⟨_,_,_,_,hkind,hcell,hfr,hnames⟩:=id C
 have hsome:∀ y∈scope.names,y.2 = .free->(X.env.cells.lookup y.1).isSome=true:=λy hy hyf=>Kk.mpr (I.ok.has y.1 (hfr y hy hyf))
 refine wpAny_comprehension_free (use:=use) rfl hs (B4 hsome) hkind hnames (thn (hi pins s σ H _ I h) λxv s1 h1=>thn h1 λitv s2 h2=>?_)
 obtain ⟨it,fp,tn,J,H2,e,I2,T,st2,f2,h⟩:=h2
 subst e
 refine K0 (wpAny_newFunctionEnv hcell (by intro y hy;simp at hy) (λh₁ hns₁ hsb₁=>?_) hkind)
 have hD0:H2 s2.heap.objs.size=none:=I2.hok.fresh (JC _)
 obtain ⟨W,⟨m0,w0⟩,step⟩:=h s2.heap.objs.size hD0
 dsimp only at hns₁ hsb₁ ⊢
 have I3:Inv X pins σ (aJ H2 s2.heap.objs.size (.lst [])) { s2 with heap:=s2.heap.push { cls:=.type "list",dict:=none,data:=.seq ([]:List Value).toArray } } :=
  I2.laid (t' := s2.toks) (λb u q=>JD _ q) (JC _) ⟨Ki _,[],0,.nil,JL _ rfl⟩
 generalize hH3:s2.heap.push { cls:=.type "list",dict:=none,data:=.seq ([]:List Value).toArray }=hp3 at hns₁ hsb₁ I3 ⊢
 have hsz3:hp3.objs.size=s2.heap.objs.size+1:=by rw [<- hH3,LX]
 have k23:∀ b o,s2.heap.get? b=some o->hp3.get? b=some o:=λb o q=>by rw [<- hH3];exact JD _ q
 have flt:∀ b∈fp,b<s2.heap.objs.size:=λb hb=>by
  obtain ⟨o,q,_⟩:=T.obj 0 _ st2 b hb
  exact JR q
 have f3:∀ b∈fp,cV X pins (aJ H2 s2.heap.objs.size (.lst [])) b:=λb hb=>by
  obtain ⟨g0,g⟩:=f2 b hb
  exact ⟨by rw [bN (Ka (flt b hb))];exact g0,g⟩
 have kC:∀ b o,hp3.get? b=some o->h₁.get? b=some o:=λb o q=>(hsb₁.2 b (Ka (JR q))).trans (JD _ q)
 have B0:=I3.block (ns:=ns) (jf:=jf) (scope:=scope) (fp:=fp) (h1:=h₁) (tk:=s2.toks+([]:List (Str×Value)).length) f3 (λb hb=>by show b<hp3.objs.size;rw [hsz3];exact Lr (flt b hb)) C (by simpa using hns₁) kC
 have st4:tn 0 h₁:=T.keep _ _ _ st2 λb _ o q=>kC b o (k23 b o q)
 have w0' := w0
 have stat:∀ {H':Hp},(∀ b∈fp,H' b=none)->∀ b∈fp,cV (cE X pins ns jf scope (dr X.env scope.names []) { s2 with heap:=hp3 } (aJ H2 s2.heap.objs.size (.lst [])) fp) [] H' b:=λhn b hb=>by
  obtain ⟨_,g1,g2,g3,g4,g5⟩:=f2 b hb
  refine ⟨hn b hb,Ka (by show b<hp3.objs.size;rw [hsz3];exact Lr (flt b hb)),λz=>?_,.inl hb,λy c q=>g4 y c (qh hsome (λy c e=>by simp at e) y c q),λp hp=>g5 p (by simpa [cE] using hp)⟩
  rcases J4.mp (I2.stkSub b z) with q | q
  ·exact g1 q
  ·exact g2 q
 have loop:codeAny (model X.prog X.w) X.A (.compLoop (.ListComp elt [⟨tg,iter,ifs,0⟩] scope pos) 0 (.ref it) (.ref s2.heap.objs.size) (compEnvC scope (dr X.env scope.names []) hp3.objs.size X.env))
   (compPost (model X.prog X.w) X.A X.xe use Qf (.ref s2.heap.objs.size) hp3.objs.size) { s2 with heap:=h₁,toks:=s2.toks+([]:List (Str×Value)).length }:=by
  refine B7 (λn s' => ∃ i ys H',Inv (cE X pins ns jf scope (dr X.env scope.names []) { s2 with heap:=hp3 } (aJ H2 s2.heap.objs.size (.lst [])) fp) [] (d6 (List.replicate ns.length none) jf σ) H' s'/\tn i s'.heap/\(∀ b∈fp,H' b=none)/\W i n ys H') ?_ m0
   ⟨0,[],_,B0,st4,λb hb=>(f3 b hb).1,w0⟩
  rintro n s5 ⟨i,ys,H5,I5,st5,fr5,w5⟩
  obtain ⟨hD5,alt⟩:=step i n ys H5 w5
  rcases alt with ⟨stop,q5⟩ | ⟨go,hlen,next⟩
  ·refine Ku (T.done (cE X pins ns jf scope (dr X.env scope.names []) { s2 with heap:=hp3 } (aJ H2 s2.heap.objs.size (.lst [])) fp) rfl rfl rfl hcalm i [] s5 _ H5 (λ_ _=>False) I5 (stat fr5) st5 stop) (λr s6 Zz=>?_) λ_ _ z=>z;obtain ⟨hr,I6⟩:=Zz
   subst hr
   obtain ⟨m6,hn6,_⟩:=id I6.loc
   refine fin _ _ s6 H5 m6 ?_ q5 (I3.fpOk (JC _) I6.free) hn6
   refine I3.call' (ch:=fp) I6.os I6.base I6.hok I6.bare (λb hb=>?_)
   obtain ⟨_,g1,g2,g3,g4,g5⟩:=f2 b hb
   exact ⟨g3,g1,g4,g5⟩
  ·refine Ku (T.item (cE X pins ns jf scope (dr X.env scope.names []) { s2 with heap:=hp3 } (aJ H2 s2.heap.objs.size (.lst [])) fp) rfl rfl rfl hcalm i [] s5 _ H5 (λ_ _=>False) I5 (stat fr5) st5 go) (λr s6 Zz=>?_) λ_ _ z=>z;obtain ⟨u,hr,h6⟩:=Zz
   subst hr
   refine Ku h6 (λ_ s7 Zz=>?_) λ_ _ z=>z;obtain ⟨x,H7,I7,r7,y7,st7,fr7⟩:=Zz
   have I7' := I7.pinned (stat fr7) (T.obj _ _ st7)
   obtain ⟨us,hu,gq,q8⟩:=next x H7 y7
   refine Ku (hg pins _ _ _ fp ([]++gz fp s7.heap) s7 _ H7 x _ _ I7' r7 gq) (λ_ s8 Zz=>?_) λ_ _ z=>z;obtain ⟨σ8,H8,I8,e8,e8'⟩:=Zz
   subst e8 e8'
   have I8':Inv (cE X pins ns jf scope (dr X.env scope.names []) { s2 with heap:=hp3 } (aJ H2 s2.heap.objs.size (.lst [])) fp) ([]++gz fp s7.heap) (d6 (us.map some) jf σ) H8 s8:=I8
   have again:∀ {s9:Shared} {H9:Hp} {zs:List V} {m':Nat},Inv (cE X pins ns jf scope (dr X.env scope.names []) { s2 with heap:=hp3 } (aJ H2 s2.heap.objs.size (.lst [])) fp) ([]++gz fp s7.heap) (d6 (us.map some) jf σ) H9 s9->m'<n->W (i+1) m' zs H9 ->
     ∃ m,m<n/\∃ i ys H',Inv (cE X pins ns jf scope (dr X.env scope.names []) { s2 with heap:=hp3 } (aJ H2 s2.heap.objs.size (.lst [])) fp) [] (d6 (List.replicate ns.length none) jf σ) H' s9/\tn i s9.heap/\(∀ b∈fp,H' b=none)/\W i m ys H' := λ{s9 H9 zs m'} I9 hm w9=>by
    refine ⟨m',hm,i+1,zs,H9,I9.unpinned.weak (by simp [d6,hu]) (λj v e=>?_),T.keep _ _ _ st7 λb hb o e=>(I9.pin (b,o) (JW _ (JW _ (mK hb e)))).1,λb hb=>?_,w9⟩
    ·unfold d6 at e ⊢
     by_cases hj:j<ns.length
     ·rw [JE (by rw [KW];exact hj),Lq,JG hj] at e;cases e
     ·have hj:=M6 hj
      rw [J7 (by rw [KW];exact hj),KW] at e
      rw [J7 (by rw [JN,hu];exact hj),JN,hu]
      exact e
    ·obtain ⟨o,e,d⟩:=T.obj _ _ st7 b hb
     exact (I9.pin (b,o) (JW _ (JW _ (mK hb e)))).2.1
   refine Ku (hc pins _ _ _ fp ([]++gz fp s7.heap) s8 _ H8 _ I8' q8) (λok s9 Zz=>?_) λ_ _ z=>z;obtain ⟨H9,I9,q9⟩:=Zz
   cases ok with
   | false =>
    rw [JF JT] at q9 ⊢
    obtain ⟨m',hm,w9⟩:=q9
    exact again I9 hm w9
   | true =>
    rw [JG rfl] at q9 ⊢
    refine Ku (he pins _ _ _ fp ([]++gz fp s7.heap) s9 _ H9 _ I9 q9) (λy s10 Zz=>?_) λ_ _ z=>z;obtain ⟨v,H10,I10,r10,hD10,m',hm,w10⟩:=Zz
    refine Ku (vr (X:=(cE X pins ns jf scope (dr X.env scope.names []) { s2 with heap:=hp3 } (aJ H2 s2.heap.objs.size (.lst [])) fp)) ([]++gz fp s7.heap) s10 (d6 (us.map some) jf σ) H10 (.ref s2.heap.objs.size) [v] (.ref s2.heap.objs.size) [y] (λ_ H' => H'=aJ H10 s2.heap.objs.size (.lst (ys++[v]))) I10 rfl (.cons r10 .nil) ⟨_,ys,v,rfl,rfl,hD10,hlen,rfl⟩)
     (λ_ s11 ⟨_,H11,I11,_,e11⟩=>?_) λ_ _ z=>z
    subst e11
    exact again I11 hm w10
 exact codeAny_compStart_list loop (T.self _ 0 _ _ _ st4 loop)
theorem B8 (hcalm:X.calm=true) (hg:∀ pins cl s H fp,PG (cE X pins ns jf scope cl s H fp) tg g) (hi:PI X tg iter wi) (hc:∀ pins cl s H fp,gB (cE X pins ns jf scope cl s H fp) ifs tc) (he:∀ pins cl s H fp,PE (cE X pins ns jf scope cl s H fp) elt te) (C:CompOk X ns jf scope) (hs:∀ x,foldedSetIterable iter X.env x=pure x:=by intro _;rfl) :
  PE X (.ListComp elt [⟨tg,iter,ifs,0⟩] scope pos) (kK ns.length g jf wi tc te):=by
 intro pins s σ H Q I h
 rw [eval_ListComp]
 refine vB hcalm hg hi hc he C (use:=none) (Qf:=EP X pins σ Q) I h (λD C s6 H6 m6 I6 q6 f6 n6=>?_) hs
 refine ⟨m6,n6,λh' hs' => ⟨.ref D,H6,?_,rfl,q6⟩⟩
 exact I6.turnedL (fp:=[C]) (t' := s6.toks) (λb o hb q=>(hs'.2 b (λz=>hb (by simp [z]))).trans q) (λb hb=>by
  have e:b=C:=by simpa using hb
  subst e
  exact f6)
theorem vC {y:Str} {py spos:Pos} {i:Nat} (hcalm:X.calm=true) (hg:∀ pins cl s H fp,PG (cE X pins ns jf scope cl s H fp) tg g) (hi:PI X tg iter wi) (hc:∀ pins cl s H fp,gB (cE X pins ns jf scope cl s H fp) ifs tc) (he:∀ pins cl s H fp,PE (cE X pins ns jf scope cl s H fp) elt te) (C:CompOk X ns jf scope) (hNX:X.N.Nodup) (hi':X.N[i]? = some y) (hy:X.env.scope.names.lookup y=some .local)
  (hsw:swapsWith (.ListComp elt [⟨tg,iter,ifs,0⟩] scope pos) (some (.Name y py)) spos.line X.env=pure true) (hs:∀ x,foldedSetIterable iter X.env x=pure x:=by intro _;rfl) :
  PS X (.Assign [.Name y py] (.ListComp elt [⟨tg,iter,ifs,0⟩] scope pos) spos) (gS (kK ns.length g jf wi tc te) (jK i)):=by
 intro pins s σ H D I h
 rw [exec_Assign_Name_used _ _ _ _ hsw]
 refine Jz (OT (Jz ?_))
 show wpAny _ X.A (do let _ <- comprehension (.ListComp elt [⟨tg,iter,ifs,0⟩] scope pos) scope X.env _ (newList []) false (eval iter X.env) (some (assign (.Name y py) X.env))) _ _ s
 refine Jz (Ku (vB (Qf:=λ_ s' => SP X pins D .next s') hcalm hg hi hc he C (use:=some (assign (.Name y py) X.env)) I h (λD' C s6 H6 m6 I6 q6 f6 n6=>?_) hs) (λ_ s' hq=>JB (JB hq)) λ_ _ e=>e)
 refine Pk (uO I6 hNX hi' (.inl hy) (v:=.ref D') rfl (λs7 I7 Zz=>?_) (.inr hy));obtain ⟨a,hsa,ha⟩:=Zz
 have ne:C≠a:=by
  rcases ha with z | z
  ·rw [z];exact f6.2.1
  ·exact λq=>f6.2.2.2.2.1 y a z q.symm
 refine ⟨m6,n6.sameBut hsa ne,λh' hs' => ⟨_,H6,?_,q6⟩⟩
 exact I7.turnedL (fp:=[C]) (t' := s7.toks) (λb o hb q=>(hs'.2 b (λz=>hb (by simp [z]))).trans q) (λb hb=>by
  have e:b=C:=by simpa using hb
  subst e
  exact f6)
end
end L2
namespace L2
open PySem PySem.Spec PyProof.Rows
section
variable {X:Cx} {a b e:Expr} {ta tb:TE} {p p2 pos:Pos}
theorem B9 {c:V} {cv:Value} (rc:∀ u,RelV c u->u=cv) :
  CallR X (.builtin "isinstance") (λxs H Q=>∃ x t r,xs=[x,c]/\cy X.K H x t/\PySem.W.kitOne X.K t cv=some r/\Q (.bl r) H):=by
 intro pins s σ H xs us Q I r h
 obtain ⟨x,t,k,rfl,ty,hk,q⟩:=h
 obtain ⟨u,w',rfl,rx,ry⟩:=pP r
 obtain rfl:=rc _ ry
 exact AX I rx ty hk λtk=>⟨.bl k,H,I.tok _,rfl,q⟩
theorem vD (n:String):∀ u,RelV (.ty n) u->u=Value.type n:=λ_ r=>r
theorem Cb:OpR X (compareOp .LtE) (λx y H Q=>∃ i j,x = .str i/\y = .str j/\Q (.bl (!decide (j.cps.toList<i.cps.toList))) H):=by
 intro pins s σ H x y v u Q I rx ry h
 obtain ⟨i,j,rfl,rfl,q⟩:=h
 obtain ⟨t,rfl⟩:=rx
 obtain ⟨t',rfl⟩:=ry
 exact PySem.P.le_str (bQ I q rfl)
theorem Cc:fu X "str.count" (λx vs H Q=>∃ z y,x = .str z/\vs=[.str y]/\Q (.int ((Builtin.Str.occurrences z y 0 z.length (z.length+1)).length:Nat)) H):=by
 intro pins s σ H x vs v us Q I rx rv h
 obtain ⟨z,y,rfl,rfl,q⟩:=h
 obtain ⟨t,rfl⟩:=rx
 obtain ⟨u,rfl,t',rfl⟩:=gU rv
 exact call_gives F.slot_str_count (Ol s z t) F.entry_str_count (F.args_str_count_2 _ _) (gives_str_count z y t t') ⟨.int _,H,I.tok _,⟨_,rfl⟩,q⟩
theorem Cd (hc:X.calm=true):CallR X (.builtin "all") (λxs H Q=>∃ (a:Addr) (bs:List Bool),xs=[.ref a]/\SqL X.K H a (bs.map V.bl)/\Q (.bl (bs.all id)) H):=by
 intro pins s σ H xs us Q I r h
 obtain ⟨l,bs,rfl,hq,q⟩:=h
 obtain ⟨u,rfl,rx⟩:=gU r
 cases rx
 obtain ⟨its,rv,pl,hz⟩:=I.list hq
 have hlt:l<s.heap.objs.size:=by obtain ⟨_,_,e,_⟩:=pl;exact JR e
 have hlen:its.length=bs.length:=by rw [<- rv.length,JN]
 refine call_all_walk (M0 pl.isList ?_)
 refine ⟨s.heap.objs.size,[s.heap.objs.size,l],[s.heap.objs.size],its.toArray.size,_,_,λi=>(bs[i]?).getD true,rfl,Walks.list (A:=X.A.in1) (I.ok.hd hc) _ l (Ka hlt) its.toArray,
  ⟨⟨_,JL _ rfl,rfl,rfl⟩,pl.isList.push _⟩,λi v s' Q' E' hP hQ=>?_,λh' tk hk=>?_⟩
 ·have hP':its[i]? = some v:=by simpa using hP
  have hi:i<its.length:=(JA.mp hP').1
  have hb:(bs.map V.bl)[i]? = some (V.bl (bs[i]'(by omega))):=by rw [Kb,JU (by omega)];rfl
  obtain ⟨u,hu,ru⟩:=rv.get hb
  rw [hP'] at hu
  cases hu
  cases ru
  have e:(bs[i]?).getD true=bs[i]'(by omega):=by rw [JU (by omega)];rfl
  have hQ2:Q' ((bs[i]?).getD true) s' := hQ
  rw [e] at hQ2
  exact Lv hQ2
 ·have e:((List.range its.toArray.size).all λi=>(bs[i]?).getD true)=bs.all id:=by
   rw [JK,hlen,Lx,KH,KH]
   constructor
   ·intro z c hc'
    obtain ⟨i,hi,rfl⟩:=Lk hc'
    have:=z i (MQ.mpr hi)
    rw [JU hi] at this
    exact this
   ·intro z i hi
    have hi' := MQ.mp hi
    rw [JU hi']
    exact z _ (M7 hi')
  rw [e]
  refine ⟨.bl _,H,I.kept (t' := tk) λb o q=>?_,rfl,q⟩
  exact hk b o (λhm=>by rw [JP.mp hm] at q;exact LR _ (JR q)) (JD _ q)
end
end L2
namespace L2
open PySem PySem.Spec PyProof.Rows
section
variable {X:Cx}
theorem Ce:OpR X (binaryOp .FloorDiv) (rI (λ_ j=>0<j/\j<2 ^ 200) λi j=>.int (i / j)):=mL λi j _ _ _ _ _ hc q=>by
 obtain ⟨h1,h2⟩:=hc
 refine floordiv_int (by lia) (by rw [Int.fdiv_eq_ediv_of_nonneg i (by lia)];exact q) (.inl (PyProof.noPylong_of_log2 ?_))
 have h3:j.natAbs<2 ^ 200:=by lia
 have h4:j.natAbs.log2<200:=(Nat.log2_lt (by lia)).mpr h3
 lia
theorem Cf:OpR X (binaryOp .Mult) (rI IntMulOk λi j=>.int (i*j)):=mL λ_ _ _ _ _ _ _ hc q=>mul_int q hc
end
end L2
namespace L2
open PySem PySem.Spec PyProof.Rows
theorem Cg:bootBuiltins "int" = some (.type "int"):=by decide +kernel
theorem Ci:bootBuiltins "bool" = some (.type "bool"):=by decide +kernel
theorem Cj:bootBuiltins "str" = some (.type "str"):=by decide +kernel
end L2
namespace L2
open PySem PySem.Spec PyProof.Rows
open Sem (wp)
noncomputable def DkH (h h':Heap):Prop:=∀ b o,h.get? b=some o->∃ o',h'.get? b=some o'/\o'.dict=o.dict
theorem DkH.refl (h:Heap):DkH h h:=λ_ o e=>⟨o,e,rfl⟩
noncomputable def bZ {α:Type} (m:Sem α):Prop:=∀ (M:Model) (Γ:PySem.Ctx) (Q:α->Pos->Shared->Prop) (E:Value->Pos->Shared->Prop) (p:Pos) (s:Shared) (h0:Heap),DkH h0 s.heap->wp M Γ m Q E p s->wp M Γ m (λa p' s' => Q a p' s'/\DkH h0 s'.heap) E p s
section
variable {α β:Type}
theorem cF {m:Sem α} {f:α->Sem β} (h:bZ m) (g:∀ a,bZ (f a)):bZ (m >>= f):=λM Γ Q E p s h0 d q=>by
 rw [Sem.wp_bind'] at q ⊢
 exact Sem.wp_mono M Γ m (λa p' s' z=>g a M Γ _ _ p' s' h0 z.2 z.1) (λ_ _ _ x=>x) p s (h M Γ _ _ p s h0 d q)
theorem cS (a:α):bZ (pure a:Sem α):=λM Γ Q E p s h0 d q=>by
 have q':Q a p s:=q
 exact (show wp M Γ (Sem.pure a) _ E p s by rw [wp];exact ⟨q',d⟩)
theorem gC (w:String):bZ (Sem.unsupported w:Sem α):=λM Γ Q E p s h0 d q=>by rw [wp] at q;exact q.elim
theorem Ck {a:Addr} {pt:Option Value} {k:Obj->Sem α} (h:∀ o,bZ (k o)):bZ (Sem.load a pt k):=λM Γ Q E p s h0 d q=>by
 rw [wp] at q ⊢
 obtain ⟨o,h1,h2⟩:=q
 exact ⟨o,h1,h o M Γ _ _ p _ h0 d h2⟩
theorem Cm {k:List (Code×Pos)->Sem α} (h:∀ o,bZ (k o)):bZ (Sem.stack k):=λM Γ Q E p s h0 d q=>by
 rw [wp] at q ⊢
 exact h _ M Γ _ _ p _ h0 d q
theorem Cn {o:Obj} {k:Addr->Sem α} (h:∀ o,bZ (k o)):bZ (Sem.alloc o k):=λM Γ Q E p s h0 d q=>by
 rw [wp] at q ⊢
 exact h _ M Γ _ _ p { s with heap:=s.heap.push o } h0 (λb o' e=>by
  obtain ⟨o2,e2,e3⟩:=d b o' e
  exact ⟨o2,JD _ e2,e3⟩) q
theorem Co {a:Addr} {pt:Option Value} {f:Obj->Obj} {k:Unit->Sem α} (hf:∀ o,(f o).dict=o.dict/\(o.isFreed=false->(f o).isFreed=false)) (h:∀ o,bZ (k o)):bZ (Sem.update a pt f k):=λM Γ Q E p s h0 d q=>by
 rw [wp] at q ⊢
 refine ⟨q.1,h _ M Γ _ _ p { s with heap:=s.heap.update a f } h0 (λb o' e=>?_) q.2⟩
 obtain ⟨o2,e2,e3⟩:=d b o' e
 by_cases hb:b=a
 ·subst hb
  exact ⟨f o2,Kv f e2 ((hf o2).2 (Heap.get?_some_iff.mp e2).2),(hf o2).1.trans e3⟩
 ·exact ⟨o2,(Heap.get?_update_ne _ _ _ _ hb).trans e2,e3⟩
end
theorem qk (a:Addr):bZ (load a):=Ck λo=>cS o
theorem vE {a:Addr} {f:Obj->Obj} (hf:∀ o,(f o).dict=o.dict/\(o.isFreed=false->(f o).isFreed=false)):bZ (update a f):=Co hf λo=>cS o
theorem Cp (v:Value):bZ (fieldsOf v):=by
 unfold fieldsOf
 cases v<;>first | exact gC _ | skip
 refine cF (qk _) λo=>?_
 cases o.data<;>first | exact cS _ | exact gC _
theorem mX (v:Value) (i:Nat):bZ (field v i):=by
 unfold field
 refine cF (Cp v) λo=>?_
 cases o[i]? <;> first | exact cS _ | exact gC _
theorem Cq (g:Array Value->Array Value) (o:Obj):(Obj.mapFields g o).dict=o.dict/\(o.isFreed=false->(Obj.mapFields g o).isFreed=false):=by
 obtain ⟨c,d,dt,sl⟩:=o
 cases dt<;>exact ⟨rfl,λh=>h⟩
theorem mY (v:Value) (i:Nat) (x:Value):bZ (setField v i x):=by
 unfold setField
 cases v<;>first | exact gC _ | skip
 unfold updateField
 refine cF (qk _) λo=>?_
 cases o.data<;>first | exact gC _ | skip
 dsimp only
 split
 ·exact vE (Cq _)
 ·exact gC _
theorem Cr (e:Value) (fr:Option Addr):bZ (setFlight e fr):=by
 unfold setFlight
 refine cF (mX e 1) λtb=>?_
 split
 ·exact mY _ _ _
 ·exact cS _
theorem Cs (env:Env) (outer:List Env):bZ (behindIsImport env outer):=by
 unfold behindIsImport
 split
 ·exact cS _
 ·split
  ·exact cS _
  ·exact cF (mX _ _) λ_=>cS _
theorem ql:bZ stack:=Cm λo=>cS o
theorem Ct:bZ underTheClaimsCaller:=by
 unfold underTheClaimsCaller
 exact cF ql λ_=>cS _
theorem Cu (env:Env) (b:Bool) (l:List Env):bZ (keptBack env b l):=by
 unfold keptBack
 cases l with
 | nil =>
  dsimp only
  split
  ·exact cS _
  ·exact cF Ct λ_=>cS _
 | cons=>exact cS _
theorem vF:∀ l:List Env,bZ (readyFrames l)
 | []=>cS _
 | env::outer=>by
  unfold readyFrames
  cases env.frame with
  | none=>exact gC _
  | some f =>
   refine cF (qk f) λo=>?_
   split
   ·exact cS _
   ·refine cF (Cs _ _) λb=>cF (Cu _ _ _) λv=>cF (vE λo=>⟨rfl,λh=>by obtain ⟨c,d,dt,sl⟩:=o;cases dt<;>exact h⟩) λ_=>vF outer
theorem vG (env:Env):bZ (PySem.frameOf env):=by
 unfold PySem.frameOf frameEnvs
 refine cF (cF ql λ_=>cS _) λl=>cF ?_ λr=>?_
 ·generalize l.dropWhile _=m
  unfold frameObject
  cases m with
  | nil=>exact cS _
  | cons e r=>exact cF (vF _) λ_=>cS _
 ·cases r with
  | none=>exact gC _
  | some v=>exact cS _
theorem vH (f:Addr) (b:Bool):bZ (entryPlaceOf f b):=by
 unfold entryPlaceOf
 refine cF ql λl=>?_
 split
 ·exact cS _
 ·exact cS _
theorem vI (a b c d e:Value) (l:List Value):bZ (EntryCells.newEntry a b c d e l):=by
 unfold EntryCells.newEntry newFields newObj
 dsimp only
 have k:∀ d,bZ (newObjAsIs (.type "traceback") (.fields d)):=λd=>by
  unfold newObjAsIs
  exact cF (Cn λo=>cS o) λ_=>cS _
 generalize ([a,b,c,d,e]++if l.isEmpty=true then List.replicate 6 Value.none else l).toArray=arr
 split
 ·exact cF (gC _) λ_=>k _
 ·exact k _
theorem Cv (e:Value) (env:Env):bZ (noteFrame e env):=by
 unfold noteFrame
 cases env.frame with
 | none=>exact gC _
 | some f =>
  refine cF (mX e 1) λh=>?_
  dsimp only
  split
  ·refine cF (mX h 3) λx=>?_
   split
   ·exact cS _
   ·exact cF (mY _ _ _) λ_=>cF (vG env) λ_=>cF (vH _ _) λ_=>cF (vI _ _ _ _ _ _) λ_=>mY _ _ _
  ·exact cF (vG env) λ_=>cF (vH _ _) λ_=>cF (vI _ _ _ _ _ _) λ_=>mY _ _ _
theorem vJ {α:Type} {M:Model} {A:Around} {t:Sem α} {Q:α->Shared->Prop} {E:Value->Shared->Prop} {s:Shared} {h0:Heap} (k:bZ t) (d:DkH h0 s.heap) (h:wpAny M A t Q E s):wpAny M A t (λa s' => Q a s'/\DkH h0 s'.heap) E s :=
 λΓ p hΓ=>k M Γ _ _ p s h0 d (h Γ p hΓ)
end L2
namespace L2
open PySem PySem.Spec PyProof.Rows
theorem ObjOk.some {P:Program} {w:World} {H:Hp} {h:Heap} {a:Addr} {o:HO} (x:ObjOk P w H h a o):∃ ob,h.get? a=Option.some ob:=by
 cases o with
 | lst xs=>obtain ⟨_,_,_,_,e⟩:=x;exact ⟨_,e⟩
 | tup xs=>obtain ⟨_,_,_,o,e,_⟩:=x;exact ⟨o,e⟩
 | dK kvs=>obtain ⟨_,_,_,_,o,_,_,e,_⟩:=x;exact ⟨_,e⟩
 | dT xc kvs=>obtain ⟨_,_,_,_,o,_,_,e,_⟩:=x;exact ⟨_,e⟩
 | set S n=>obtain ⟨o,_,_,_,e,_⟩:=x;exact ⟨_,e⟩
 | ins C dx fs=>obtain ⟨_,_,_,e,_⟩:=x;exact ⟨_,e⟩
 | own y=>obtain ⟨_,e⟩:=x;exact ⟨_,e⟩
 | xd fs=>obtain ⟨_,⟨_,_,_,e,_⟩,_⟩:=x;exact ⟨_,e⟩
 | rng lo hi=>obtain ⟨_,_,_,e⟩:=x;exact ⟨_,e⟩
 | frz ob u=>obtain ⟨e,_⟩:=x;exact ⟨_,e⟩
 | tbl ps=>exact ⟨_,(show h.get? a=Option.some _ from x)⟩
 | met f y=>exact ⟨_,(show h.get? a=Option.some _ from x)⟩
 | ext φ=>obtain ⟨_,⟨_,e⟩,_⟩:=x;exact ⟨_,e⟩
noncomputable def fV (X:Cx) (pins:List (Addr×Obj)) (H:Hp) (h B:Heap):Prop :=
 ∀ b o,h.get? b=some o->b∉c6 X.stack->((∃ u,H b=some u)\/(∃ o',X.s₀.heap.get? b=some o')\/∃ p∈X.pn++pins,p.1=b)->B.get? b=some o
section
variable {X:Cx} {pins:List (Addr×Obj)} {σ:St} {H:Hp} {s:Shared}
theorem Inv.nofr (I:Inv X pins σ H s) {b:Addr} {o:Obj} (e:X.s₀.heap.get? b=some o) (hb:b∉X.fs):b∉c6 X.stack:=λz=>by
 rcases J4.mp (I.stkSub b z) with q | q
 ·exact Ka (JZ (JR e) I.ok.above) q
 ·exact hb q
theorem Inv.nofrT (I:Inv X pins σ H s) {b:Addr} {u:HO} (e:H b=some u):b∉c6 X.stack:=λz=>by
 have q:=I.stkFree b z
 rw [q] at e
 cases e
theorem Inv.nofrP (I:Inv X pins σ H s) {p:Addr×Obj} (hp:p∈X.pn++pins):p.1∉c6 X.stack:=λz=>by
 obtain ⟨_,_,ne,nf,_⟩:=I.pin p hp
 rcases J4.mp (I.stkSub p.1 z) with q | q
 ·exact ne q
 ·exact nf q
theorem Inv.flown {B h':Heap} {t':Nat} (I:Inv X pins σ H s) (hex:X.ex=[]) (F:fV X pins H s.heap B) (st:B.StaysIn h') (sm:s.heap.UpToSlots h'):Inv X pins σ H { s with heap:=h',toks:=t' }:=by
 have nx:∀ b,b∉X.ex:=λb z=>by rw [hex] at z;cases z
 refine ⟨I.ok,I.os,I.bare,⟨λb o e n hb hx=>?_,λb o e n hb hx=>?_,I.base.free,λb o e hx=>?_,I.base.tups,I.base.frzs,I.base.tbls⟩,?_,λx c e=>?_,I.free,I.freeC,λp hp=>?_,λb u e=>?_,I.len⟩
 ·exact st b o (F b o (I.base.keep b o e n hb hx) (I.nofr e hb) (.inr (.inl ⟨o,e⟩)))
 ·obtain ⟨sl,q⟩:=I.base.slot b o e n hb hx
  obtain ⟨_,o',ho',hd⟩:=I.funs.mem hb
  rw [q] at ho'
  cases ho'
  obtain ⟨sl',q'⟩:=sm b _ q hd
  exact ⟨sl',q'⟩
 ·obtain ⟨o',q⟩:=I.base.there b o e hx
  by_cases hb:b∈X.fs
  ·obtain ⟨_,o'',ho'',hd⟩:=I.funs.mem hb
   rw [q] at ho''
   cases ho''
   obtain ⟨sl',q'⟩:=sm b _ q hd
   exact ⟨_,q'⟩
  ·exact ⟨o',st b o' (F b o' q (I.nofr e hb) (.inr (.inl ⟨o,e⟩)))⟩
 ·obtain ⟨m,hn,hl⟩:=I.loc
  refine ⟨m,sm.ns hn,λi x v e1 e2 e3=>?_⟩
  obtain ⟨u,r,l⟩:=hl i x v e1 e2 e3
  refine ⟨u,r,?_⟩
  rcases l with l | ⟨k,c,e,o,ho,hd⟩
  ·exact .inl l
  ·obtain ⟨sl,q⟩:=sm c o ho λvs z=>by rw [hd] at z;cases z
   exact .inr ⟨k,c,e,_,q,hd⟩
 ·obtain ⟨v,o,ho,hd⟩:=I.cell x c e
  obtain ⟨sl,q⟩:=sm c o ho λvs z=>by rw [hd] at z;cases z
  exact ⟨v,_,q,hd⟩
 ·obtain ⟨e,n,ne,nf,d⟩:=I.pin p hp
  exact ⟨st _ _ (F _ _ e (I.nofrP hp) (.inr (.inr ⟨p,hp,rfl⟩))),n,ne,nf,d⟩
 ·refine (I.hok b u e).stay (λc v hc q=>?_) (λ_ q=>q) λ_ _ q=>q
  rcases hc with z | z
  ·subst z
   exact st _ _ (F _ _ q (I.nofrT e) (.inl ⟨_,e⟩))
  ·exact st _ _ (F _ _ q (I.nofrT z) (.inl ⟨_,z⟩))
end
structure Arr (X:Cx) (pins:List (Addr×Obj)) (σ:St) (H:Hp) (a:Addr) (cls:Value) (dx:Option Addr) (s:Shared):Prop where
 inv:Inv X pins σ H s
 un:H a=none
 new:X.s₀.heap.get? a=none
 nl:a≠X.env.locals
 nc:∀ x c,X.env.cells.lookup x=some c->c≠a
 np:∀ p∈X.pn++pins,p.1≠a
 dic:∃ ob,s.heap.get? a=some ob/\ob.dict=dx
 fly:∃ B a0,fV X pins H s.heap B/\B.StaysIn s.heap/\B.get? a=none/\s.heap.FunFrames B X.stack /\
  ((∃ oe vs,s.heap.get? a=some oe/\oe.cls=cls/\oe.data = .fields vs/\vs[0]? = some a0/\vs[1]? = some .none)\/s.heap.TracedW B a cls a0)
noncomputable def cN (P:Program) (w:World):eC:=λouter H s E e s' => ∃ (a:Addr) (cls a0:Value) (dx:Option Addr) (H':Hp) (B:Heap),e = .ref a/\s'.os=s.os/\AllBare s'.gens/\Un (c6 outer) [] H H' s.heap s'.heap/\HOk P w H' s'.heap /\
 Heap.FlyingW B outer a cls a0 s'.heap/\(∀ b o,s'.heap.get? b=some o->b∉c6 outer->((∃ u,H' b=some u)\/∃ o',s.heap.get? b=some o')->B.get? b=some o)/\H' a=none/\s.heap.get? a=none/\(∃ ob,s'.heap.get? a=some ob/\ob.dict=dx)/\E cls dx H'
section
variable {X:Cx} {pins:List (Addr×Obj)} {σ:St} {H:Hp} {s:Shared}
theorem Cw {h':Heap} {e:Addr} {cls:Value} {args:List Value} {t':Nat} (I:Inv X pins σ H s) (hex:X.ex=[]) (hx:Heap.MadeExcOf s.heap h' e cls args):Arr X pins σ H e cls none { s with heap:=h',toks:=t' }:=by
 have nx:∀ b,b∉X.ex:=λb z=>by rw [hex] at z;cases z
 have none_of:∀ b o,s.heap.get? b=some o->b≠e:=λb o q z=>by rw [z,hx.new] at q;cases q
 have eq_of:∀ b o o1,h'.get? b=some o->s.heap.get? b=some o1->o1=o:=λb o o1 q q1=>by
  have z:=hx.keeps b o1 q1
  rw [q] at z
  exact (Kp z).symm
 obtain ⟨t,he,_,_⟩:=hx.there
 refine ⟨I.kept hx.keeps,?_,?_,λz=>?_,λx c q z=>?_,λp hp z=>?_,⟨_,he,rfl⟩,PySem.W.hideAll s.heap (c6 X.stack),.ref t,λb o q nb alt=>?_,λb o q=>hx.keeps b o (Nt _ q),?_,?_,.inl ⟨_,_,he,rfl,rfl,rfl,rfl⟩⟩
 ·cases q:H e with
  | none=>rfl
  | some u =>
   obtain ⟨ob,z⟩:=(I.hok e u q).some
   exact absurd rfl (none_of e ob z)
 ·cases q:X.s₀.heap.get? e with
  | none=>rfl
  | some o =>
   obtain ⟨ob,z⟩:=I.base.there e o q (nx e)
   exact absurd rfl (none_of e ob z)
 ·obtain ⟨m,⟨o,_,_,ho,_⟩,_⟩:=I.loc
  exact none_of _ o ho z.symm
 ·obtain ⟨v,o,ho,_⟩:=I.cell x c q
  exact none_of _ o ho z
 ·exact none_of _ _ (I.pin p hp).1 z
 ·have there:∃ o1,s.heap.get? b=some o1:=by
   rcases alt with ⟨u,q'⟩ | ⟨o',q'⟩ | ⟨p,hp,rfl⟩
   ·exact (I.hok b u q').some
   ·exact I.base.there b o' q' (nx b)
   ·exact ⟨_,(I.pin p hp).1⟩
  obtain ⟨o1,q1⟩:=there
  rw [<- eq_of b o o1 q q1]
  exact OL _ q1 nb
 ·cases q:(PySem.W.hideAll s.heap (c6 X.stack)).get? e with
  | none=>rfl
  | some o=>exact absurd rfl (none_of e o (Nt _ q))
 ·refine (PySem.W.funFrames_hide I.stack λenv henv b hb=>Nv.mpr ⟨env,henv,hb⟩).of_keeps λb o q _=>⟨o,hx.keeps b o q,rfl⟩
theorem Cy {E:XK} {e:Value} {s':Shared} (I:Inv X pins σ H s) (hex:X.ex=[]) (h:cN X.prog X.w X.stack H s E e s'):∃ a cls dx H',e = .ref a/\Arr X pins σ H' a cls dx s'/\E cls dx H' := by
 obtain ⟨a,cls,a0,dx,H',B,rfl,os,bare,un,hok,⟨f1,f2,f3,f4⟩,ext,na,ns,dk,q⟩:=h
 have nx:∀ b,b∉X.ex:=λb z=>by rw [hex] at z;cases z
 have none_of:∀ b o,s.heap.get? b=some o->b≠a:=λb o q z=>by rw [z,ns] at q;cases q
 refine ⟨a,cls,dx,H',rfl,⟨I.call' (ch:=[]) os un hok bare (λb z=>absurd z (by simp)),na,?_,λz=>?_,λx c q z=>?_,λp hp z=>?_,dk,B,a0,λb o q nb alt=>?_,f1,f2,f3,.inr f4⟩,q⟩
 ·cases q:X.s₀.heap.get? a with
  | none=>rfl
  | some o =>
   obtain ⟨ob,z⟩:=I.base.there a o q (nx a)
   exact absurd rfl (none_of a ob z)
 ·obtain ⟨m,⟨o,_,_,ho,_⟩,_⟩:=I.loc
  exact none_of _ o ho z.symm
 ·obtain ⟨v,o,ho,_⟩:=I.cell x c q
  exact none_of _ o ho z
 ·exact none_of _ _ (I.pin p hp).1 z
 ·refine ext b o q nb ?_
  rcases alt with ⟨u,q'⟩ | ⟨o',q'⟩ | ⟨p,hp,rfl⟩
  ·exact .inl ⟨u,q'⟩
  ·exact .inr (I.base.there b o' q' (nx b))
  ·exact .inr ⟨_,(I.pin p hp).1⟩
theorem Arr.land0 {a:Addr} {cls:Value} {dx:Option Addr} {Q:Unit->Shared->Prop} {E:Value->Shared->Prop} {M:Model} {A:Around} (R:Arr X pins σ H a cls dx s) (hex:X.ex=[]) (hfr:A.frames=some X.stack) {outer:List Env} (hst:X.stack=X.env::outer) (hf:X.env.frame=some X.env.locals)
  (hQ:∀ h' B a0,fV X pins H s.heap B->Heap.FlyingW B X.stack a cls a0 h'->s.heap.UpToSlots h'->Inv X pins σ H { s with heap:=h' }->Q () { s with heap:=h' }) :
  wpAny M A (noteFrame (.ref a) X.env) (λ_ s₂=>wpAny M A (setFlight (.ref a) none) Q E s₂) E s:=by
 obtain ⟨B,a0,fm,st,hb,ff,alt⟩:=R.fly
 have after:∀ h4,Heap.HeldW B X.stack a cls a0 X.env.locals h4->s.heap.UpToSlots h4->wpAny M A (setFlight (.ref a) none) Q E { s with heap:=h4 }:=λh4 hh sm=>by
  refine wpAny_landsW (s:={ s with heap:=h4 }) hh λh5 fl sm5=>?_
  have sm':s.heap.UpToSlots h5:=sm.trans sm5
  exact hQ h5 B a0 fm fl sm' (R.inv.flown (t' := s.toks) hex fm fl.1 sm')
 rw [hst] at hfr
 rw [hst] at ff
 rcases alt with ⟨oe,vs,he,hc,hd,h0,h1⟩ | tr
 ·subst hc
  have hsz:1<vs.size:=(Le.mp h1).1
  unfold noteFrame
  simp only [hf]
  refine Jz (OF he hd h1 ?_)
  rw [JF (by decide)]
  refine wpAny_entryW hfr ff hf he st hb hd hsz h0 λh4 hN=>?_
  obtain ⟨k1,k2,k3,k4⟩:=hN
  exact after h4 (by rw [hst];exact ⟨k1,hb,k2,k3⟩) k4
 ·exact wpAny_looks_onW hfr hf ⟨st,hb,ff,tr⟩ λh4 hh sm=>after h4 (by rw [hst];exact hh) sm
theorem Arr.land {a:Addr} {cls:Value} {dx:Option Addr} {Q:Unit->Shared->Prop} {E:Value->Shared->Prop} {M:Model} {A:Around} (R:Arr X pins σ H a cls dx s) (hex:X.ex=[]) (hfr:A.frames=some X.stack) {outer:List Env} (hst:X.stack=X.env::outer) (hf:X.env.frame=some X.env.locals)
  (hQ:∀ h' B a0,fV X pins H s.heap B->Heap.FlyingW B X.stack a cls a0 h'->s.heap.UpToSlots h'->Inv X pins σ H { s with heap:=h' }->(∃ ob,h'.get? a=some ob/\ob.dict=dx)->Q () { s with heap:=h' }) :
  wpAny M A (noteFrame (.ref a) X.env) (λ_ s₂=>wpAny M A (setFlight (.ref a) none) Q E s₂) E s:=by
 refine Ku (vJ (Cv _ _) (DkH.refl _) (R.land0 (E:=E) (Q:=λ_ s' => ∃ h' B a0,s'={ s with heap:=h' }/\fV X pins H s.heap B/\Heap.FlyingW B X.stack a cls a0 h'/\s.heap.UpToSlots h'/\Inv X pins σ H { s with heap:=h' }) hex hfr hst hf λh' B a0 z1 z2 z3 z4=>⟨h',B,a0,rfl,z1,z2,z3,z4⟩)) (λ_ s2 h2=>?_) λ_ _ z=>z
 refine Ku (vJ (Cr _ _) h2.2 h2.1) (λ_ s3 h3=>?_) λ_ _ z=>z
 obtain ⟨⟨h',B,a0,rfl,z1,z2,z3,z4⟩,dk⟩:=h3
 obtain ⟨ob,e1,e2⟩:=R.dic
 obtain ⟨ob',e3,e4⟩:=dk a ob e1
 exact hQ h' B a0 z1 z2 z3 z4 ⟨ob',e3,e4.trans e2⟩
theorem vK {P:Program} {w:World} {K:PySem.W.Frag} {mg:Str->Option Value} {base:Heap} {N:List Str} {qual:Str} {scope:Scope} {f:Addr} {cd:Value} {A:Around} {outer:List Env} {s0:Shared} {H0:Hp} {E:XK} {a:Addr} {cls:Value} {dx:Option Addr}
  (R:Arr (bR (cN P w) P w K mg base N qual scope f cd A outer s0 H0 E) pins σ H a cls dx s) (q:E cls dx H):(bR (cN P w) P w K mg base N qual scope f cd A outer s0 H0 E).xe (.ref a) s:=by
 show wpAny _ _ (leaving _ _) _ _ s
 unfold leaving
 refine Jz (R.land (E:=λe' s'' => cN P w outer H0 s0 E e' s'') rfl R.inv.ok.frames rfl rfl λh' B a0 fm fl sm I' dk=>?_)
 have I:=R.inv
 obtain ⟨k1,k2,⟨_,_,k3⟩,k4⟩:=fl
 refine ⟨a,cls,a0,dx,H,B,rfl,I'.os,I'.bare,I'.base,I'.hok,⟨k1,k2,k3,k4⟩,λb o e nb alt=>?_,R.un,R.new,dk,q⟩
 have nstk:b∉c6 (bR (cN P w) P w K mg base N qual scope f cd A outer s0 H0 E).stack:=by
  rcases alt with ⟨u,z⟩ | ⟨o',z⟩
  ·exact I.nofrT z
  ·exact I.nofr z nb
 have there:∃ o1,s.heap.get? b=some o1:=by
  rcases alt with ⟨u,z⟩ | ⟨o',z⟩
  ·exact (I.hok b u z).some
  ·exact I.base.there b o' z (λz=>absurd (show b∈([]:List Addr) from z) (by simp))
 obtain ⟨o1,q1⟩:=there
 have z:B.get? b=some o1:=fm b o1 q1 nstk (by
  rcases alt with ⟨u,z⟩ | ⟨o',z⟩
  ·exact .inl ⟨u,z⟩
  ·exact .inr (.inl ⟨o',z⟩))
 have z2:=k1 b o1 z
 rw [show (Heap.get? h' b)=some o from e] at z2
 cases z2
 exact z
end
noncomputable def qm (X:Cx) (Ex:St->XK):Prop:=∀ (pins:List (Addr×Obj)) (σ:St) (H:Hp) (s:Shared) (a:Addr) (cls:Value) (dx:Option Addr),Arr X pins σ H a cls dx s->Ex σ cls dx H->X.xe (.ref a) s
noncomputable def kL (CX:eC) (X:Cx) (Ex:St->XK):Prop:=∀ (pins:List (Addr×Obj)) (σ:St) (H:Hp) (s:Shared) (e:Value) (s':Shared),Inv X pins σ H s->CX X.stack H s (Ex σ) e s'->X.xe e s'
section
variable {P:Program} {w:World} {K:PySem.W.Frag} {mg:Str->Option Value} {base:Heap} {N:List Str} {qual:Str} {scope:Scope} {f:Addr} {cd:Value} {A:Around} {outer:List Env} {s0:Shared} {H0:Hp} {E:XK}
theorem iD:qm (bR (cN P w) P w K mg base N qual scope f cd A outer s0 H0 E) (λ_=>E):=λ_ _ _ _ _ _ _ R q=>vK R q
theorem Cz:A2 (cN P w) (bR (cN P w) P w K mg base N qual scope f cd A outer s0 H0 E) E:=λpins σ H s e s' I h=>by
 obtain ⟨a,cls,dx,H',rfl,R,q⟩:=Cy (X:=bR (cN P w) P w K mg base N qual scope f cd A outer s0 H0 E) I rfl h
 exact vK R q
end
section
variable {X:Cx} {x:Str} {C:Addr} {bm:List Value} {B newId initId:String} {np cpos pos:Pos} {e:Expr} {es:List Expr} {t:TA} {Ex:St->XK}
noncomputable def CB (cls:Value) (Ex:St->XK) (t:TA):TS:=λ_ σ H=>t σ H λvs H1=>vs.length<=1000/\Ex σ cls none H1
theorem CD (O:OwnCls x C bm newId X.mg X.base) (FB:ExcBaseFacts B newId initId bm) (hc:X.calm=true) (hex:X.ex=[]) (hr:qm X Ex) (hg:Gl X x) (ha:PA X (e::es) t)
  (hdb:(x == ("__debug__" : Str))=false:=by decide) (he:starEach (e::es) X.env=(false,eval e X.env)::starEach es X.env:=by rfl) (hpl:(backTo cpos (starEach es X.env)).any (·.1)=false:=by rfl) :
  PS X (.Raise (some (.Call (.Name x np) (e::es) [] cpos)) none pos) (CB (.ref C) Ex t):=by
 intro pins s σ H D I h
 obtain ⟨tl,NN,nm,q,bs,hdct,sn,sub,ab,col,dd,k0,k1,k2,k3,k5,mN,hC,hN,hni,T⟩:=O.obj
 refine wpAny_Raise_call_subT (C:=C) (nm:=nm) (q:=q) (N:=NN) (bs:=bs) (bm:=tl) (hdct:=hdct) (sn:=sn) (sub:=sub) (ab:=ab) (col:=col) (dd:=dd) (k0:=k0) (k1:=k1) (k2:=k2) (k3:=k3) (k5:=k5) FB (mN:=mN)
  (T.hasType FB.hasBase) (I.ok.hd hc) (by rw [he];show (false || (backTo cpos (starEach es X.env)).any (·.1))=false;rw [hpl];rfl) hni (mG I hg O.bound ⟨rfl,?_⟩ hdb)
 have hA:=ha cpos pins s σ H _ I h
 rw [he] at hA ⊢
 refine Oz (thn hA λus s2 ⟨vs,H1,I1,r1,hl,q1⟩=>⟨rfl,?_,I1.bk _ _ hC,hN.keeps I1.bk,T.keeps I1.bk,λh' a hm=>hr pins σ H1 _ a _ none (Cw (t' := s2.toks) I1 hex hm) q1⟩)
 show us.length<=sizeLine
 rw [<- r1.length]
 exact JI hl (by decide)
end
section
variable {X:Cx} {CX:eC} {k:Nat} {f C:Addr} {fd:FuncData} {ps:List Str} {sp:Sp} {dvs:List V} {ds:List Value} {Ex:St->XK} {x m:Str} {p pos apos:Pos} {e o:Expr} {es:List Expr} {ta:TE} {t:TA}
theorem qo {pins:List (Addr×Obj)} {σ:St} {H:Hp} {s:Shared} {Q:VK} {us:List Value} {vs:List V} (F:FnOk X.prog X.w X.K X.mg X.base CX k f fd ps sp) (hr:Room k X.A) (hb:Binds X.K fd ps ds) (hd:Vals dvs ds) (hx:kL CX X Ex)
  (I:Inv X pins σ H s) (r:Vals vs us) (h:sp (vs++dvs) H Q (Ex σ)):wpAny (model X.prog X.w) X.A (call (.ref f) us) (EP X pins σ Q) X.xe s:=by
 have r2:Vals (vs++dvs) (us++ds):=r.append hd
 have hl:(us++ds).length=ps.length:=by rw [<- r2.length];exact F.len _ _ _ _ h
 refine Pw (MB (F.run X.A X.stack s H ⟨us,[]⟩ (us++ds) (vs++dvs) Q (Ex σ) hr I.env0 (hb s us I.kIn hl) r2 h) λr s' hq=>?_)
 cases r with
 | error e=>exact hx pins σ H s e s' I hq
 | ok fl =>
  cases fl with
  | ret u=>exact I.after hq
  | next=>exact False.elim hq
  | brk=>exact False.elim hq
  | cont=>exact False.elim hq
noncomputable def CG (sp:Sp) (dvs:List V) (Ex:St->XK) (t:TA):TE:=λσ H Q=>t σ H λvs H1=>sp (vs++dvs) H1 Q (Ex σ)
theorem CH (F:FnOk X.prog X.w X.K X.mg X.base CX k f fd ps sp) (hr:Room k X.A) (hg:Gl X x) (hm:X.mg x=some (.ref f)) (hk:PySem.W.keepIn X.K (.ref f)=true) (hb:Binds X.K fd ps ds) (hd:Vals dvs ds) (hx:kL CX X Ex)
  (ha:PA X (e::es) t) (hdb:(x == ("__debug__" : Str))=false:=by decide) (he:starEach (e::es) X.env=(false,eval e X.env)::starEach es X.env:=by rfl) (hpl:(backTo pos (starEach es X.env)).any (·.1)=false:=by rfl) :
  PE X (.Call (.Name x p) (e::es) [] pos) (CG sp dvs Ex t):=by
 intro pins s σ H Q I h
 refine MN (mG I hg hm ?_ hdb)
 refine OY (h₀:=X.base) I.ok.mod.kin hk (thn (ha pos pins s σ H _ I h) λus s1 ⟨vs,H1,I1,r,q⟩=>⟨I1.kIn,?_⟩) he hpl
 exact qo F hr hb hd hx I1 r q
noncomputable def vL (C:Addr) (m:Str) (sp:Sp) (dvs:List V) (Ex:St->XK) (ta:TE) (t:TA):TE:=λσ H Q=>ta σ H λx H1=>∃ a dx fs,x = .ref a/\H1 a=some (.ins C dx fs)/\fs.lookup m=none /\
 t σ H1 λvs H2=>sp (x::(vs++dvs)) H2 Q (Ex σ)
theorem CI {pl:Sem Bool} (he:PE X o ta) (c:Cls X.K C) (hm:fU X.K C m f) (F:FnOk X.prog X.w X.K X.mg X.base CX k f fd ps sp) (hr:Room k X.A) (hb:Binds X.K fd ps ds) (hd:Vals dvs ds) (hx:kL CX X Ex) (ha:PA X (e::es) t)
  (hst:starEach (e::es) X.env=(false,eval e X.env)::starEach es X.env:=by rfl) (hpl:(backTo pos (starEach es X.env)).any (·.1)=false:=by rfl)
  (ht:eval (.Call (.Attribute o m apos) (e::es) [] pos) X.env=(do
   let ov <- eval o X.env
   standAt apos.atName
   let (f,first) <- holding [ov] (getMethod ov m pl)
   callWith pos f first (backTo pos (starEach (e::es) X.env)) (backToKw pos (keywordEach [] X.env))):=by rfl) :
  PE X (.Call (.Attribute o m apos) (e::es) [] pos) (vL C m sp dvs Ex ta t):=by
 intro pins s σ H Q I h
 refine Ov (pl:=pl) (thn (he pins s σ H _ I h) λu s1 Zz=>?_) ht;obtain ⟨x,H1,I1,rx,a,dx,fs,ex,ea,l,q⟩:=Zz
 subst ex
 obtain rfl:u=Value.ref a:=rx
 refine u0 I1 ea c hm l ?_
 refine OY (first:=[.ref a]) (h₀:=X.base) I.ok.mod.kin hm.kp (thn (ha pos pins s1 σ H1 _ I1 q) λus s2 ⟨vs,H2,I2,r,q2⟩=>⟨I2.kIn,?_⟩) hst hpl
 exact qo (us:=.ref a::us) (vs:=.ref a::vs) F hr hb hd hx I2 (.cons rfl r) q2
end
noncomputable def qp (a:Addr) (cls:Value) (dx:Option Addr):HO:=.ext λh=>∃ ob vs,h.get? a=some ob/\ob.cls=cls/\ob.data = .fields vs/\ob.dict=dx
section
variable {X:Cx} {pins pins':List (Addr×Obj)} {σ:St} {H:Hp} {s:Shared} {xe:Value->Shared->Prop}
end
section
variable {X:Cx} {xc n:Str} {C:Addr} {i:Nat} {body suite:List Stmt} {b0:Stmt} {np hpos pos:Pos} {tb:(St->XK)->TS} {th:TS} {outer:List Env}
end
section
variable {P:Program} {w:World} {K:PySem.W.Frag} {mg:Str->Option Value} {base:Heap}
theorem Fun.okE {x qual:Str} {st:Stmt} {f:Addr} {fd:FuncData} {N ps:List Str} {k:Nat} {sp:Sp} (F:Fun K x qual st f fd) (S:aq N ps (aM st)) (len:∀ vs H Q E,sp vs H Q E->vs.length=ps.length)
  (hbody:∀ (cdv:Value) (A:Around) (outer:List Env) (s:Shared) (H:Hp) (vs:List V) (Q:VK) (E:XK),Room k (A.deeper (envOfC qual (aM st) s.heap.objs.size f cdv))->sp vs H Q E ->
   ∃ t,ft (bR (cN P w) P w K mg base N qual (aM st) f cdv A outer s H E) (gA st) t/\t { nx:=λ_ H' => Q .non H',rt:=Q } (start N vs) H):FnOk P w K mg base (cN P w) (k+1) f fd ps sp:=by
 obtain ⟨oc,od,kV,doc,pm,an,cdv,ct,osl,rfl,lk,hcd⟩:=F.ex
 exact A4 lk hcd S len λA outer s H vs Q E hr hsp=>hbody cdv A outer s H vs Q E hr hsp
end
end L2
namespace L2
open PySem PySem.Spec PyProof.Rows
theorem CJ {K:PySem.W.Frag} {hp:Heap} {g:Str->Option Value} {nm:Str} {Ca:Addr} {bb:List Value} {nid:String} (Z:K.In hp) (hb:g nm=some (.ref Ca)) (ok:PySem.W.excIn K Ca bb nid=true):OwnCls nm Ca bb nid g hp:=by
 refine ⟨hb,?_⟩
 unfold PySem.W.excIn at ok
 split at ok
 ·rename_i dA cA sA hA
  split at ok
  ·rename_i D' tl w0 w1 w2 w3 bn w5 eM eS
   simp only [K2,O4,Ls] at ok
   obtain ⟨⟨⟨⟨⟨rfl,rfl⟩,e1⟩,e2⟩,e3⟩,e4⟩:=ok
   obtain ⟨f1,f2,f3,f4,f5,f6,f7,f8,f9,f10,f11⟩:=cA
   dsimp only at eM e1 e3 e4
   subst eM e1
   have eA:sA = #[w0,w1,w2,w3,some (.builtin bn),w5]:=by
    obtain ⟨ll⟩:=sA
    simp only at eS
    rw [eS]
   subst eA
   refine ⟨tl,f4,f1,f5,f2,f6,f7,f8,f9,f10,dA,w0,w1,w2,w3,w5,_,Z _ _ hA,.of_isNs (PySem.W.isNs_of_in Z e3),?_,PySem.W.tail_of_in Z e2⟩
   exact PySem.W.nsMap_none_of_in Z e3 e4
  ·cases ok
 ·cases ok
mutual
inductive DaV (K:PySem.W.Frag) (H:Hp):V->PyData->Prop
 | non:DaV K H .non .none
 | bl (b):DaV K H (.bl b) (.bool b)
 | int (i):DaV K H (.int i) (.int i)
 | str (x):DaV K H (.str x) (.str x)
 | lst {a xs ds}:SqL K H a xs->DaVs K H xs ds->DaV K H (.ref a) (.list ds)
 | tup {a xs ds}:SqT K H a xs->DaVs K H xs ds->DaV K H (.ref a) (.tuple ds)
inductive DaVs (K:PySem.W.Frag) (H:Hp):List V->List PyData->Prop
 | nil:DaVs K H [] []
 | cons {x xs d ds}:DaV K H x d->DaVs K H xs ds->DaVs K H (x::xs) (d::ds)
end
section
variable {X:Cx} {pins:List (Addr×Obj)} {σ:St} {H:Hp} {s:Shared}
mutual
theorem DaV.reads (I:Inv X pins σ H s):∀ {x:V} {d:PyData} {u:Value},DaV X.K H x d->RelV x u->∃ as,Reads s.heap u d as
 | _,_,_,.non,r=>by cases r;exact ⟨_,.none⟩
 | _,_,_,.bl b,r=>by cases r;exact ⟨_,.bool b⟩
 | _,_,_,.int i,r=>by obtain ⟨t,rfl⟩:=r;exact ⟨_,.int i t⟩
 | _,_,_,.str x,r=>by obtain ⟨t,rfl⟩:=r;exact ⟨_,.str x t⟩
 | _,_,_,.lst (a:=a) h1 h2,r=>by
  cases r
  obtain ⟨its,rv,⟨o,n,e1,e2,e3⟩,_⟩:=I.list h1
  obtain ⟨as,q⟩:=DaVs.reads I h2 rv
  exact ⟨_,.list (vs:=its.toArray) (n:=n) e1 (by first | exact e2.1 | exact e2) (by first | exact e2.2.2 | exact e2.2 | exact e3 | exact e3.2) (by simpa using q)⟩
 | _,_,_,.tup (a:=a) h1 h2,r=>by
  cases r
  obtain ⟨its,rv,⟨o,e1,e2,n,e3⟩,_⟩:=I.tuple h1
  obtain ⟨as,q⟩:=DaVs.reads I h2 rv
  exact ⟨_,.tuple (vs:=its.toArray) (n:=n) e1 e2 e3 (by simpa using q)⟩
theorem DaVs.reads (I:Inv X pins σ H s):∀ {xs:List V} {ds:List PyData} {us:List Value},DaVs X.K H xs ds->Vals xs us->∃ as,ReadsAll s.heap us ds as
 | _,_,_,.nil,r=>by cases r;exact ⟨_,.nil⟩
 | _,_,_,.cons h1 h2,r=>by
  cases r with
  | cons r1 r2 =>
   obtain ⟨as,q1⟩:=DaV.reads I h1 r1
   obtain ⟨bs,q2⟩:=DaVs.reads I h2 r2
   exact ⟨_,.cons q1 q2⟩
end
noncomputable def qq (K:PySem.W.Frag):R2:=λx y H Q=>∃ d e,DaV K H x d/\DaV K H y e/\d.canLay0=true/\e.canLay0=true/\d.depth<=60/\Q (.bl (PyData.eqv d e)) H
noncomputable def qr (K:PySem.W.Frag):R2:=λx y H Q=>∃ d e,DaV K H x d/\DaV K H y e/\d.canLay0=true/\e.canLay0=true/\d.depth<=60/\Q (.bl (!PyData.eqv d e)) H
theorem vM (hu:X.A.units+64<cLine):OpR X (compareOp .Eq) (qq X.K):=by
 intro pins s σ H x y v u Q I rx ry h
 obtain ⟨d,e,h1,h2,c1,c2,dp,q⟩:=h
 obtain ⟨as,r1⟩:=h1.reads I rx
 obtain ⟨bs,r2⟩:=h2.reads I ry
 exact SeqAt.compareEq_reads r1 r2 c1 c2 (by have:=Ni d.depth e.depth;lia) ⟨.bl _,H,I,rfl,q⟩
theorem vN (hu:X.A.units+64<cLine):OpR X (compareOp .NotEq) (qr X.K):=by
 intro pins s σ H x y v u Q I rx ry h
 obtain ⟨d,e,h1,h2,c1,c2,dp,q⟩:=h
 obtain ⟨as,r1⟩:=h1.reads I rx
 obtain ⟨bs,r2⟩:=h2.reads I ry
 exact SeqAt.compareNe_reads r1 r2 c1 c2 (by have:=Ni d.depth e.depth;lia) ⟨.bl _,H,I,rfl,q⟩
end
theorem gX {A:Around} {k:Nat} (hr:Room k A):A.units+64<cLine:=by
 have:=hr.un
 lia
noncomputable def CK (K:PySem.W.Frag):R2:=λx y H Q=>∃ l b xs zs,x = .ref l/\y = .ref b/\SqL K H l xs/\SqL K H b zs/\xs.length+zs.length<=sizeLine/\∀ p,H p=none->Q (.ref p) (aJ H p (.lst (xs++zs)))
theorem CL {X:Cx}:OpR X (binaryOp .Add) (CK X.K):=by
 intro pins s σ H x y v u Q I rx ry h
 obtain ⟨l,b,xs,zs,rfl,rfl,hH,hB,hz,q⟩:=h
 cases rx
 cases ry
 obtain ⟨its,r,⟨o,n,e1,e2,e3,e4⟩,z⟩:=I.list hH
 obtain ⟨its2,r2,⟨o2,n2,g1,g2,g3,g4⟩,z2⟩:=I.list hB
 obtain ⟨oc,od,oda,osl⟩:=o
 obtain ⟨oc2,od2,oda2,osl2⟩:=o2
 dsimp only at e2 e3 e4 g2 g3 g4
 subst e2 e3 e4 g2 g3 g4
 have l1:=r.length
 have l2:=r2.length
 refine Pl ⟨_,e1,rfl⟩ ⟨_,g1,rfl⟩ noFill_list_add seq_list_add PySem.F.slot_list_add PySem.F.entry_list_add (PySem.F.args_list_add_2 _ _) (list_addW l b its.toArray its2.toArray n n2 none none osl osl2 (by rw [JK,JK];omega)) ⟨e1,g1,?_⟩
 have ea:its.toArray++its2.toArray=(its++its2).toArray:=by simp
 rw [ea]
 exact ⟨.ref s.heap.objs.size,_,I.lnew (t' := s.toks) (r.append r2) (by rw [JJ];exact hz),rfl,q _ I.fresh⟩
end L2
namespace L2
open PySem PySem.Spec PyProof.Rows
section
variable {X:Cx} {pins:List (Addr×Obj)} {σ:St} {H:Hp} {s:Shared}
open Classical in
noncomputable def fW (h:Heap) (d:PyData) (v:Value):Bool:=if q:∃ e as,e.canLay0=true/\Reads h v e as then PyData.eqv q.choose d else false
theorem mZ {h:Heap} {d e:PyData} {v:Value} {as:List Addr} (c:e.canLay0=true) (r:Reads h v e as):fW h d v=PyData.eqv e d:=by
 have q:∃ e as,e.canLay0=true/\Reads h v e as:=⟨e,as,c,r⟩
 unfold fW
 rw [dif_pos q]
 obtain ⟨as',c',r'⟩:=q.choose_spec
 have z:q.choose=e:=by first | exact (Reads.unique _ _ r' r).1 | exact (Reads.unique r' r).1 | exact Reads.unique _ _ _ _ _ c' r' r | exact PySem.SeqAt.Reads.unique _ _ _ _ _ c' r' r | exact PySem.Reads.unique _ _ _ _ _ c' r' r
 rw [z]
theorem qt (I:Inv X pins σ H s):∀ {xs:List V} {ds:List PyData} {us:List Value},DaVs X.K H xs ds->Vals xs us->us.length=ds.length/\∀ (j:Nat) u d,us[j]? = some u->ds[j]? = some d->∃ as,Reads s.heap u d as
 | _,_,_,.nil,r=>by cases r;exact ⟨rfl,λj u d e=>by cases e⟩
 | _,_,_,.cons h1 h2,r=>by
  cases r with
  | cons r1 r2 =>
   obtain ⟨l,q⟩:=qt I h2 r2
   refine ⟨by rw [Kj,Kj,l],λj u d e1 e2=>?_⟩
   cases j with
   | zero=>cases e1;cases e2;exact h1.reads I r1
   | succ j=>exact q j u d e1 e2
noncomputable def qu (K:PySem.W.Frag):R2:=λx y H Q=>∃ p xs d ds,y = .ref p/\SqL K H p xs/\DaV K H x d/\DaVs K H xs ds/\d.canLay0=true/\(∀ e∈ds,e.canLay0=true/\e.depth<=30)/\Q (.bl (ds.any λe=>PyData.eqv e d)) H
theorem qv {h:Heap} {d:PyData}:∀ {us:List Value} {ds:List PyData},us.length=ds.length->(∀ (j:Nat) u e,us[j]? = some u->ds[j]? = some e->fW h d u=PyData.eqv e d)->us.any (fW h d)=ds.any λe=>PyData.eqv e d
 | [],[],_,_=>rfl
 | u::us,e::ds,hl,hh=>by
  rw [Mn,Mn,hh 0 u e rfl rfl,qv (us:=us) (ds:=ds) (Nat.succ.inj hl) λj u' e' a b=>hh (j+1) u' e' a b]
theorem CN (hu:X.A.units+64<cLine):OpR X (compareOp .In) (qu X.K):=by
 intro pins s σ H x y v u Q I rx ry h
 obtain ⟨p,xs,d,ds,rfl,hq,hd,hds,cd,cds,q⟩:=h
 cases ry
 obtain ⟨its,r,pl,hz⟩:=I.list hq
 obtain ⟨as,ra⟩:=hd.reads I rx
 obtain ⟨hl,hat⟩:=qt I hds r
 refine SeqAt.in_listAt (fW s.heap d) pl.isList (λy hy=>?_) ⟨.bl _,H,I,rfl,?_⟩
 ·have hy':y∈its:=by simpa using hy
  obtain ⟨j,hj⟩:=OA hy'
  have hlt:=(JA.mp hj).1
  have hdj:ds[j]? = some (ds[j]'(by lia)):=JU (by lia)
  obtain ⟨bs,rb⟩:=hat j _ _ hj hdj
  have cj:=cds _ (J6 hdj)
  rw [mZ cj.1 rb]
  exact SeqAt.eqAt_reads _ _ _ _ _ _ _ _ rb ra cj.1 cd (by
   have:=Ni (ds[j]'(by lia)).depth d.depth
   show X.A.units+1+_<cLine
   lia)
 ·have e:its.toArray.any (fW s.heap d)=ds.any λe=>PyData.eqv e d:=by
   rw [<- Array.any_toList]
   refine qv hl λj u e h1 h2=>?_
   obtain ⟨bs,rb⟩:=hat j _ _ h1 h2
   exact mZ (cds _ (J6 h2)).1 rb
  rw [e]
  exact q
end
end L2
namespace L2
open PySem PySem.Spec PyProof.Rows
section
variable {X:Cx} {tg:Expr}
theorem vO (ns:List Int):∀ k,k<=ns.length->preSum (λi=>(ns[i]?).getD 0) k=(ns.take k).sum
 | 0,_=>by simp [preSum]
 | k+1,h=>by
  show preSum _ k+(ns[k]?).getD 0=_
  rw [vO ns k (by lia),Nx,List.sum_append]
  congr 1
  rw [JU (by lia)]
  simp
theorem CO (hc:X.calm=true):CallR X (.builtin "sum") (λxs H Q=>∃ (a:Addr) (ns:List Int),xs=[.ref a]/\SqL X.K H a (ns.map V.int)/\Q (.int ns.sum) H):=by
 intro pins s σ H xs us Q I r h
 obtain ⟨l,bs,rfl,hq,q⟩:=h
 obtain ⟨u,rfl,rx⟩:=gU r
 cases rx
 obtain ⟨its,rv,pl,hz⟩:=I.list hq
 have hlt:l<s.heap.objs.size:=by obtain ⟨_,_,e,_⟩:=pl;exact JR e
 have hlen:its.length=bs.length:=by rw [<- rv.length,JN]
 refine call_sum_walkAnyS (M0 pl.isList ?_)
 refine ⟨s.heap.objs.size,[s.heap.objs.size,l],[s.heap.objs.size],_,its.toArray.size,_,_,λi=>(bs[i]?).getD 0,rfl,(Walks.list (prog:=X.prog) (w:=X.w) (A:=X.A.in1) (I.ok.hd hc) s.heap.objs.size l (Ka hlt) its.toArray).toS,
  ⟨⟨_,JL _ rfl,rfl,rfl⟩,pl.isList.push _⟩,λb hb=>?_,λi v hP=>?_,λs' t' hm=>?_⟩
 ·rcases J4.mp hb with rfl | hb
  ·exact JR (JL _ rfl)
  ·obtain rfl:=JP.mp hb
   obtain ⟨_,_,e,_⟩:=pl
   exact JR (JD _ e)
 ·have hP':its[i]? = some v:=by simpa using hP
  have hi:i<its.length:=(JA.mp hP').1
  have hb:(bs.map V.int)[i]? = some (V.int (bs[i]'(by omega))):=by rw [Kb,JU (by omega)];rfl
  obtain ⟨u,hu,ru⟩:=rv.get hb
  rw [hP'] at hu
  cases hu
  obtain ⟨t,rfl⟩:=ru
  refine ⟨t,?_⟩
  show Value.int _ t=Value.int ((bs[i]?).getD 0) t
  rw [JU (by omega)];rfl
 ·obtain ⟨h',g',d',tk',os'⟩:=s'
  have e1:g'=s.gens:=hm.gens
  have e2:d'=s.drawn:=hm.drawn
  have e3:os'=s.os:=hm.os
  subst e1 e2 e3
  have e:preSum (λi=>(bs[i]?).getD 0) its.toArray.size=bs.sum:=by
   rw [JK,hlen,vO bs _ (JC _),Kg (JC _)]
  rw [e]
  refine ⟨.int _,H,I.kept (t' := tk') λb o q=>?_,⟨_,rfl⟩,q⟩
  exact hm.heap b o (λhb=>by rw [JP.mp hb] at q;exact LR _ (JR q)) (JD _ q)
noncomputable def eD (lo c:Int) (n:Nat):It:=⟨λi _=>i<n,λi H x H' => H'=H/\x = .int (lo+i*c),λi _=>n<=i⟩
theorem vP {P:Program} {w:World} {K:PySem.W.Frag} {tg:Expr} (it:Addr) (lo c:Int) (n:Nat):d9 P w K tg (eD lo c n) [it] it (λi h=>IsRangeIter h it (lo+(i:Nat)*c) ((n:Int)-(i:Nat)) c) where
 mem:=by simp
 obj:=λi h st b hb=>by
  have e:b=it:=by simpa using hb
  subst e
  exact ⟨_,st,λv z=>by
   have z':Data.fields _=Data.cell v:=z
   cases z'⟩
 keep:=λi h h' st k=>k it (by simp) _ st
 item:=by
  intro X hP hw hK hc i pins s σ H E I hf st hg
  subst hP hw hK
  obtain ⟨f0,f1,f2,f3,f4,f5⟩:=hf it (by simp)
  have W:=Walks.range (prog:=X.prog) (w:=X.w) (I.ok.hd hc) it lo c n
  refine W.item i s _ _ hg st λv h' tk hv st' kk=>?_
  obtain ⟨t,rfl⟩:=hv
  have I1:Inv X pins σ H { s with heap:=h',toks:=tk }:=I.turned (λb o hb e=>kk b o (by simpa using hb) e) f0 f1 f3 f4 f5
  exact ⟨_,rfl,ku (s:={ s with heap:=h',toks:=tk }) (n := "range_iterator") st' rfl rfl (by decide) ⟨.int (lo+i*c),H,I1,⟨t,rfl⟩,⟨rfl,rfl⟩,st',λb hb=>(hf b hb).1⟩⟩
 done:=by
  intro X hP hw hK hc i pins s σ H E I hf st hg
  subst hP hw hK
  obtain ⟨f0,f1,f2,f3,f4,f5⟩:=hf it (by simp)
  exact Oh (I.ok.hd hc) st (by have:n<=i:=hg;lia) λh' eb=>⟨rfl,I.turned (t' := s.toks) (λb o hb e=>eb b o hb e) f0 f1 f3 f4 f5⟩
 self:=λ_ _ _ _ _ st h=>Oi st h
theorem CQ {a b c:Int} (hc:0<c):Builtin.Range.rangeSize a b c=(((if a<b then (b-a-1) / c+1 else 0:Int).toNat:Nat):Int):=by
 unfold Builtin.Range.rangeSize
 rw [JG hc]
 split
 ·have:0<=(b-a-1) / c:=Int.ediv_nonneg (by lia) (by lia)
  lia
 ·rfl
theorem gD {x:Int} (h:x.natAbs<2 ^ 42):Builtin.Range.rangeFitsLong x=true:=by
 have h2:x.natAbs<4398046511104:=h
 simp only [Builtin.Range.rangeFitsLong,K2,Kn]
 lia
theorem CS {a b c:Int} (ha:a.natAbs<2 ^ 40) (hb:b.natAbs<2 ^ 40) (hc:0<c):(Builtin.Range.rangeSize a b c).natAbs<2 ^ 42:=by
 have ha2:a.natAbs<1099511627776:=ha
 have hb2:b.natAbs<1099511627776:=hb
 show _<4398046511104
 unfold Builtin.Range.rangeSize
 rw [JG hc]
 split
 ·have h1:0<=(b-a-1) / c:=Int.ediv_nonneg (by lia) (by lia)
  have h2:(b-a-1) / c<=b-a-1:=Int.ediv_le_self _ (by lia)
  generalize (b-a-1) / c=d at *
  lia
 ·decide
theorem CU {a b c:Int} (ha:a.natAbs<2 ^ 40) (hb:b.natAbs<2 ^ 40) (hc:0<c) (hc':c<2 ^ 20):Builtin.Range.small a b c=true:=by
 have l:(2:Nat) ^ 40<2 ^ 42:=by decide
 unfold Builtin.Range.small
 rw [gD (Lz ha l),gD (Lz hb l),gD (x:=c) (by have h2:c<1048576:=hc';show _<4398046511104;lia),gD (CS ha hb hc),JG hc,gD (x:=b+(c-1)) (by have h2:c<1048576:=hc';have h3:b.natAbs<1099511627776:=hb;show _<4398046511104;lia)]
 simp
noncomputable def CV (ta:TA):TI:=λσ H R=>ta σ H λvs H1=>∃ i j c:Int,vs=[.int i,.int j,.int c]/\(i.natAbs<2 ^ 40/\j.natAbs<2 ^ 40/\0<c/\c<2 ^ 20)/\R (eD i c (if i<j then (j-i-1) / c+1 else 0:Int).toNat) H1
theorem CW {pins:List (Addr×Obj)} {σ:St} {H:Hp} {s:Shared} {R:It->Hp->Prop} {E:Value->Shared->Prop} {lo hi c:Int} {t u v:Tok} {tk:Nat} (I:Inv X pins σ H s) (h1:lo.natAbs<2 ^ 40) (h2:hi.natAbs<2 ^ 40) (h3:0<c) (h4:c<2 ^ 20)
  (q:R (eD lo c (if lo<hi then (hi-lo-1) / c+1 else 0:Int).toNat) H):wpAny (model X.prog X.w) X.A (pyIter (.ref s.heap.objs.size)) (mH X pins σ tg R) E { s with heap:=s.heap.push { cls:=.type "range",data:=.fields #[.int lo t,.int hi u,.int c v] },toks:=tk }:=by
 refine NI (IsRange.new ..) (CU h1 h2 h3 h4) ?_
 have I1:Inv X pins σ H { s with heap:=s.heap.push { cls:=.type "range",data:=.fields #[.int lo t,.int hi u,.int c v] },toks:=tk }:=I.kept λb o e=>JD _ e
 refine ⟨(s.heap.push { cls:=.type "range",data:=.fields #[.int lo t,.int hi u,.int c v] }).objs.size,[(s.heap.push { cls:=.type "range",data:=.fields #[.int lo t,.int hi u,.int c v] }).objs.size],_,_,H,rfl,
  I1.kept (t' := tk) λb o e=>JD _ e,vP _ lo c (if lo<hi then (hi-lo-1) / c+1 else 0:Int).toNat,?_,λb hb=>?_,q⟩
 ·have e1:lo+((0:Nat):Int)*c=lo:=by simp
  have e2:(((if lo<hi then (hi-lo-1) / c+1 else 0:Int).toNat:Nat):Int)-((0:Nat):Int)=Builtin.Range.rangeSize lo hi c:=by rw [CQ h3];omega
  show IsRangeIter _ _ (lo+((0:Nat):Int)*c) ((((if lo<hi then (hi-lo-1) / c+1 else 0:Int).toNat:Nat):Int)-((0:Nat):Int)) c
  rw [e1,e2]
  exact JL _ rfl
 ·have e:b=(s.heap.push { cls:=.type "range",data:=.fields #[.int lo t,.int hi u,.int c v] }).objs.size:=by simpa using hb
  subst e
  exact I1.fpOk (JC _) (I1.hok.fresh (JC _))
theorem CY {a b c:Expr} {ta:TA} {p pos:Pos} (hg:Gl X "range") (hm:X.mg "range" = none) (ha:PA X [a,b,c] ta) (hs:starEach [a,b,c] X.env=[(false,eval a X.env),(false,eval b X.env),(false,eval c X.env)]:=by rfl) (hs2:starEach [b,c] X.env=[(false,eval b X.env),(false,eval c X.env)]:=by rfl) :
  PI X tg (.Call (.Name "range" p) [a,b,c] [] pos) (CV ta):=by
 intro pins s σ H R I h
 refine Call_ (fG I hg hm O2 (KF (thn (ha pos pins s σ H _ I h) λus s1 Zz=>?_) (by rw [hs,hs2]) (by rw [hs2];rfl)));obtain ⟨vs,H1,I1,r1,q1⟩:=Zz
 obtain ⟨i,j,c,e,⟨q1,q2,q3,q4⟩,q⟩:=q1
 subst e
 cases r1 with
 | cons r rr =>
  cases rr with
  | cons r' rr =>
   cases rr with
   | cons r'' rr =>
    cases rr
    obtain ⟨t,rfl⟩:=r
    obtain ⟨t',rfl⟩:=r'
    obtain ⟨t'',rfl⟩:=r''
    exact Pq (by lia) (CW I1 q1 q2 q3 q4 q) (.inl (MU (by lia)))
end
end L2
namespace L2
open PySem PySem.Spec PyProof.Rows
open PySem.Builtin PySem.Builtin.Str
section
variable {X:Cx}
noncomputable def bt (z:Str) (lo hi:Option Int):Str:=⟨((z.cps.toList.drop (HT.sIx z.cps.toList.length 0 lo)).take (HT.sIx z.cps.toList.length z.cps.toList.length hi-HT.sIx z.cps.toList.length 0 lo)).toArray⟩
theorem m8 (n d:Nat) (i:Int):max 0 (min (if i<0 then i+(n:Int) else i) (n:Int))=((HT.sIx n d (some i):Nat):Int):=by
 show max 0 (min (if i<0 then i+(n:Int) else i) (n:Int))=(((if i<0 then (i+(n:Int)).toNat else min i.toNat n):Nat):Int)
 split<;>lia
theorem m9 {a b:Int} {A B:Nat} (ha:a=A) (hb:b=B):sliceRange a b 1=(List.range (B-A)).map λk=>A+k:=by
 subst ha hb
 unfold sliceRange
 simp only [show (1:Int) > 0 by decide,MM]
 have:(if (A:Int)<(B:Int) then ((B:Int)-A+1-1) / 1 else 0).toNat=B-A:=by
  split<;>(try simp only [Pa])<;>lia
 rw [this]
 apply LW
 intro k _
 lia
theorem CZ (xs:List Nat) (i k:Nat):(List.range k).filterMap (λm=>xs[i+m]?)=(xs.drop i).take k:=by
 induction k generalizing i with
 | zero=>simp
 | succ k ih =>
  rw [List.range_succ_eq_map,ME,Nw]
  have e:((λm=>xs[i+m]?) ∘ Nat.succ)=λm=>xs[(i+1)+m]? := by
   funext m;show xs[i+(m+1)]? = _;congr 1;lia
  rw [e,ih (i+1)]
  cases h:xs[i]? with
  | none =>
   have hl:xs.length<=i:=List.getElem?_eq_none_iff.mp h
   simp only [Pb,h]
   rw [Kw (by lia),Kw hl];simp
  | some v =>
   have hi:=(JA.mp h).1
   simp only [Pb,h]
   rw [KI hi,List.take_succ_cons]
   congr 1
   exact (Kp ((JU hi).symm.trans h)).symm
theorem C1 (n:Nat) (lo hi:Option Int):strSliceIndices lo hi 1 n=(List.range (HT.sIx n n hi-HT.sIx n 0 lo)).map λk=>HT.sIx n 0 lo+k:=by
 cases lo with
 | none =>
  cases hi with
  | none=>exact m9 rfl rfl
  | some j=>exact m9 rfl (m8 n n j)
 | some i =>
  cases hi with
  | none=>exact m9 (m8 n 0 i) rfl
  | some j=>exact m9 (m8 n 0 i) (m8 n n j)
theorem C2 (z:Str) (lo hi:Option Int):Txt.slice z lo hi=bt z lo hi:=by
 have hz:z.length=z.cps.toList.length:=by simp [Str.length]
 unfold Txt.slice bt
 rw [hz,C1,Nw]
 have e:((λx=>z.cps[x]?) ∘ λk=>HT.sIx z.cps.toList.length 0 lo+k)=λm=>z.cps.toList[HT.sIx z.cps.toList.length 0 lo+m]? := by
  funext m;simp
 rw [e,CZ]
 split
 ·rename_i hc
  simp only [beq_self_eq_true,Bool.true_and,O4,JN,Lf] at hc
  have h1:HT.sIx z.cps.toList.length z.cps.toList.length hi<=z.cps.toList.length:=HT.sIx_le _ _ (JC _) _
  have h2:HT.sIx z.cps.toList.length 0 lo=0\/z.cps.toList.length=0:=by lia
  rw [hc]
  rcases h2 with h2 | h2
  ·rw [h2,Lg,Kg (JC _)]
  ·have:z.cps.toList=[]:=List.eq_nil_of_length_eq_zero h2
   have h3:z.cps = #[]:=by simpa using this
   simp [h3]
   cases z;simp_all
 ·rfl
theorem vQ {v:Value} {o:Option Int} (p:IsPart v o):∃ l:Option (Int×Tok),v=partValue l/\l.map (·.1)=o:=by
 cases p with
 | none=>exact ⟨none,rfl,rfl⟩
 | int i t=>exact ⟨some (i,t),rfl,rfl⟩
theorem C3:SlR X (λx lo hi H Q=>∃ z,x = .str z/\z.length<=sizeLine/\Q (.str (bt z lo hi)) H):=by
 intro pins s σ H x v vl vu lo hi sl Q I rx hs pl pu h
 obtain ⟨z,rfl,hz,q⟩:=h
 obtain ⟨t,rfl⟩:=rx
 obtain ⟨l,rfl,rfl⟩:=vQ pl
 obtain ⟨u,rfl,rfl⟩:=vQ pu
 refine ⟨"str",_,F.slot_str_getitem.lookup,Ol _ _ _,?_⟩
 refine wpAny_getItem_str_slice (l:=l) (u:=u) (st:=none) hs rfl ?_
 refine post_val_or_str ⟨JI (Txt.slice_le z (l.map (·.1)) (u.map (·.1))) hz,λt' k=>?_⟩
 have e:=C2 z (l.map (·.1)) (u.map (·.1))
 refine ⟨.str (bt z (l.map (·.1)) (u.map (·.1))),H,I.tok _,⟨t',?_⟩,q⟩
 rw [<- e];rfl
end
end L2
namespace L2
open PySem PySem.Spec PyProof.Rows
section
variable {X:Cx}
theorem C4 (items:Array Value):slicePick items none none (some 1)=items:=by
 have e:slicePick items none none (some 1)=slicePick items none none none:=rfl
 rw [e,vp]
 simp [HT.sIx]
 rw [Kg (by rw [JQ];exact JC _)]
theorem C5 {e st:Expr} {te ts:TE} {p2 pos:Pos} (he:PE X e te) (hs:PE X st ts):PE X (.Subscript e (.Slice none none (some st) p2) pos) (λσ H Q=>te σ H λx H1=>ts σ H1 λy H2=>∃ a xs i,x = .ref a/\SqL X.K H2 a xs/\y = .int i/\(i=1\/i = -1)/\∀ p,H2 p=none->Q (.ref p) (aJ H2 p (.lst (if i=1 then xs else xs.reverse)))):=by
 intro pins s σ H Q I h
 refine Subscript_ (thn (he pins s σ H _ I h) λv s1 Zz=>?_);obtain ⟨x,H1,I1,r1,q1⟩:=Zz
 refine wpAny_Slice ?_
 rw [OU]
 refine JB ?_
 refine JB ?_
 rw [evalPart_some]
 refine thn (hs pins s1 σ H1 _ I1 q1) λu s2 Zz=>?_;obtain ⟨y,H2,I2,r2,q2⟩:=Zz
 obtain ⟨a,xs,i,rfl,hx,rfl,hi,q⟩:=q2
 cases r1
 obtain ⟨t2,rfl⟩:=r2
 have I4:Inv X pins σ H2 { s2 with heap:=s2.heap.push { cls:=.type "slice",data:=.fields #[.none,.none,.int i t2] } }:=I2.kept (t' := s2.toks) λb ob q=>JD _ q
 show wpAny (model X.prog X.w) X.A (subscriptTail e (.Slice none none (some st) p2) (.ref a) (.ref s2.heap.objs.size)) (EP X pins σ Q) X.xe { s2 with heap:=s2.heap.push { cls:=.type "slice",data:=.fields #[.none,.none,.int i t2] } }
 obtain ⟨its,r,ht,hz⟩:=I4.list hx
 have hlen:=r.length
 refine tail_any (T := "list") (ops:=[.ref a,.ref s2.heap.objs.size]) ht.isList.typeIs slot_list_getitem.lookup ?_ (by with_unfolding_all rfl)
 refine NW ht.isList (OX ..) .none .none (.int i t2) (by rcases hi with rfl | rfl<;>simp) ?_ (by rw [JK]<;>omega)
 have hp:slicePick its.toArray none none (some i)=(if i=1 then its else its.reverse).toArray:=by
  rcases hi with rfl | rfl
  ·rw [C4];rfl
  ·rw [PySem.W.krv_pick];rfl
 rw [hp]
 refine ⟨.ref _,_,I4.laid (t' := s2.toks) (o:=.lst (if i=1 then xs else xs.reverse)) (λb ob q=>JD _ q) (JC _) ?_,rfl,q _ (I4.hok.fresh (JC _))⟩
 refine ⟨by split;exact hz;rw [LV];exact hz,if i=1 then its else its.reverse,0,?_,JL _ rfl⟩
 split
 ·exact r
 ·exact r.reverse
end
end L2
namespace L2
open PySem PySem.Spec PyProof.Rows
open PySem.Builtin PySem.Builtin.Str
theorem C6:bootBuiltins "reversed" = some (.type "reversed"):=by decide +kernel
noncomputable def qw (K:PySem.W.Frag) (a:Addr) (n:Nat):It :=
 ⟨λi H=>∃ xs x,SqL K H a xs/\xs.length=n/\i<n/\xs[n-1-i]? = some x,λi H x H' => H'=H/\∀ xs,SqL K H a xs->xs[n-1-i]? = some x,λi _=>n<=i⟩
theorem C7 {P:Program} {w:World} {K:PySem.W.Frag} {tg:Expr} (a it:Addr) (n:Nat):d9 P w K tg (qw K a n) [it] it (λi h=>i<=n/\h.IsRevIter it a ((n:Int)-1-(i:Int))) where
 mem:=by simp
 obj:=λi h st b hb=>by
  have e:b=it:=by simpa using hb
  subst e
  obtain ⟨_,o,e,c,d⟩:=st
  exact ⟨o,e,λv z=>by rw [d] at z;cases z⟩
 keep:=λi h h' st k=>⟨st.1,st.2.at λo e=>k it (by simp) o e⟩
 item:=by
  intro X hP hw hK hc i pins s σ H E I hf st hg
  subst hP hw hK
  obtain ⟨xs,x,hq,hn,hi,hx⟩:=hg
  obtain ⟨its,rv,p,hz⟩:=I.list hq
  obtain ⟨u,hu,ru⟩:=rv.get hx
  obtain ⟨f0,f1,f2,f3,f4,f5⟩:=hf it (by simp)
  have e:(n:Int)-1-(i:Int)=((n-1-i:Nat):Int):=by lia
  have st2:=st.2
  rw [e] at st2
  refine wpAny_pyNext_rev_item st2 p.isList (x:=u) (by simpa using hu) λh' st' sb=>?_
  have I1:Inv X pins σ H { s with heap:=h' }:=I.turned (t' := s.toks) (λb o hb e=>(sb.2 b hb).trans e) f0 f1 f3 f4 f5
  have e2:((n-1-i:Nat):Int)-1=(n:Int)-1-((i+1:Nat):Int):=by lia
  rw [e2] at st'
  obtain ⟨o,eo,c,d⟩:=id st'
  exact ⟨u,rfl,ku (s:={ s with heap:=h' }) eo c d (by decide) ⟨x,H,I1,ru,⟨rfl,λys hy=>by rw [I.list_inj hy hq];exact hx⟩,⟨hi,st'⟩,λb hb=>(hf b hb).1⟩⟩
 done:=by
  intro X hP hw hK hc i pins s σ H E I hf st hg
  subst hP hw hK
  obtain ⟨f0,f1,f2,f3,f4,f5⟩:=hf it (by simp)
  have hg':n<=i:=hg
  have e:(n:Int)-1-(i:Int) = -1:=by have:=st.1;lia
  have st2:=st.2
  rw [e] at st2
  exact wpAny_pyNext_rev_end (I.ok.hd hc) st2 λh' eb=>⟨rfl,I.turned (t' := s.toks) (λb o hb e=>eb b o hb e) f0 f1 f3 f4 f5⟩
 self:=λ_ _ _ _ _ st h=>OH st.2 h
noncomputable def qx (K:PySem.W.Frag) (ta:TA):TI:=λσ H R=>ta σ H λvs H1=>∃ a xs,vs=[.ref a]/\SqL K H1 a xs/\R (qw K a xs.length) H1
section
variable {X:Cx} {tg:Expr}
theorem C8 {a:Expr} {ta:TA} {p pos:Pos} (hg:Gl X "reversed") (hm:X.mg "reversed" = none) (ha:PA X [a] ta) (hs:starEach [a] X.env=[(false,eval a X.env)]:=by rfl):PI X tg (.Call (.Name "reversed" p) [a] [] pos) (qx X.K ta):=by
 intro pins s σ H R I h
 refine Call_ (fG I hg hm C6 (KF (thn (ha pos pins s σ H _ I h) λus s1 Zz=>?_) hs rfl));obtain ⟨vs,H1,I1,r1,q1⟩:=Zz
 obtain ⟨a,xs,rfl,hq,q⟩:=q1
 obtain ⟨u,rfl,rx⟩:=gU r1
 cases rx
 obtain ⟨its,rv,pl,hz⟩:=I1.list hq
 have hl:=rv.length
 refine call_reversed_list pl.isList ?_
 have it:(s1.heap.push (revObj a ((its.toArray.size:Int)-1))).IsRevIter s1.heap.objs.size a ((xs.length:Int)-1-((0:Nat):Int)):=by
  have e:(xs.length:Int)-1-((0:Nat):Int)=(its.toArray.size:Int)-1:=by rw [JK,<- hl];omega
  rw [e]
  exact ⟨_,JL _ rfl,rfl,rfl⟩
 have I2:Inv X pins σ H1 { s1 with heap:=s1.heap.push (revObj a ((its.toArray.size:Int)-1)) }:=I1.kept (t' := s1.toks) λb o e=>JD _ e
 refine OH it ?_
 refine ⟨s1.heap.objs.size,[s1.heap.objs.size],_,_,H1,rfl,I2,C7 a s1.heap.objs.size xs.length,⟨Ki _,it⟩,λb hb=>?_,q⟩
 have e:b=s1.heap.objs.size:=by simpa using hb
 subst e
 exact I1.fpOk (JC _) (I1.hok.fresh (JC _))
theorem C9:fu X "str.upper" (λx vs H Q=>∃ z,x = .str z/\vs=[]/\(Txt.upper z).length<=sizeLine/\Q (.str (Txt.upper z)) H):=by
 intro pins s σ H x vs v us Q I rx rv h
 obtain ⟨z,rfl,rfl,hl,q⟩:=h
 obtain ⟨t,rfl⟩:=rx
 cases rv
 exact call_gives F.slot_str_upper (Ol s z t) F.entry_str_upper (F.args_str_upper_1 _) (gives_str_upper z t (Kh (OZ.mpr hl))) ⟨hl,.str _,H,I.tok _,⟨_,rfl⟩,q⟩
end
end L2
namespace Sm
open PySem L2
theorem E6x {α β γ:Type} {p q r:α->β->γ->Prop} {R:Prop} (h:∀ a b c,p a b c->q a b c->r a b c->R):(∃ a b c,p a b c/\q a b c/\r a b c)->R:=λ⟨a,b,c,x,y,z⟩=>h a b c x y z
inductive AV where
 | non | bl (b:Bool) | int (i:Int) | str (x:Str)
 | tup (xs:List AV)
 | fl (xs:List AV)
 | ref (n:Nat)
 | exc (c:Nat)
 deriving Inhabited
set_option genInjectivity false in
inductive AO where
 | lst (xs:List AV)
 | dct (t:Bool) (kvs:List (AV×AV))
 | dcx (kvs:List (AV×AV))
 | ins (c:Nat) (fs:List (Option AV))
noncomputable abbrev AH:=List AO
noncomputable abbrev En:=List (Option AV)
inductive Out (α:Type) where
 | ok (a:α) (h:AH)
 | ex (c:Nat) (h:AH)
 | bad
@[simp] noncomputable def Out.bind {α β:Type} (o:Out α) (f:α->AH->Out β):Out β :=
 match o with
 | .ok a h=>f a h
 | .ex c h=>.ex c h
 | .bad=>.bad
set_option genInjectivity false in
inductive dN where
 | nx (e:En) (h:AH)
 | rt (v:AV) (h:AH)
 | bk (e:En) (h:AH)
 | ct (e:En) (h:AH)
 | ex (c:Nat) (e:En) (h:AH)
 | bad
noncomputable abbrev SE:=En->AH->Out AV
noncomputable abbrev SB:=En->AH->Out Bool
noncomputable abbrev SL:=En->AH->Out (List AV)
noncomputable abbrev SS:=En->AH->dN
noncomputable abbrev Fn:=List AV->AH->Out AV
@[simp] noncomputable def Out.go {α:Type} (o:Out α) (e:En) (f:α->AH->dN):dN :=
 match o with
 | .ok a h=>f a h
 | .ex c h=>.ex c e h
 | .bad=>.bad
set_option genInjectivity false in
structure Tb where
 K:PySem.W.Frag
 cls:Nat->Option Addr
 exc:Nat->Option Addr
 fields:Nat->List Str
 nd:∀ c,(fields c).Nodup
 few:∀ c,(fields c).length<=500
noncomputable def KL (K:PySem.W.Frag) (a:Addr) (xs:List V):Prop:=∃ (o:Obj) (its:Array Value) (n:Nat),K.lookup a=some o/\o.cls = .type "list" /\ o.dict=none/\o.data = .seq its n/\its.size<=sizeLine/\Vals xs its.toList
set_option genInjectivity false in
structure Ix where
 refs:List Addr
 priv:List Addr
noncomputable def Ix.all (ι:Ix):List Addr:=ι.refs++ι.priv
noncomputable def Da (c:Nat):Int:=((c / 64:Nat):Int)-1
noncomputable def XdOk (ι:Ix) (H:Hp) (c:Nat) (dx:Option Addr):Prop:=64<=c->∃ d,dx=some d/\d∉ι.all/\H d=some (.xd [("row",.int (Da c))])
noncomputable def qy (T:Tb) (ι:Ix) (H:Hp) (c:Nat) (C:Addr×Option Addr):Prop:=T.exc c=some C.1/\XdOk ι H c C.2
theorem Dc {ι:Ix} {H:Hp} {c:Nat} {dx:Option Addr} (h:c<64):XdOk ι H c dx:=λz=>absurd h (Nat.not_lt_of_le z)
mutual
inductive RV (T:Tb) (ι:Ix) (H:Hp):AV->V->Prop
 | non:RV T ι H .non .non
 | bl (b:Bool):RV T ι H (.bl b) (.bl b)
 | int (i:Int):RV T ι H (.int i) (.int i)
 | str {x:Str} (n:x.length<=sizeLine) (o:x.cps.all (· < 0x110000)=true):RV T ι H (.str x) (.str x)
 | tup {xs:List AV} {us:List V} {a:Addr} (n:a∉ι.all) (h:H a=some (.tup us)) (r:RVs T ι H xs us):RV T ι H (.tup xs) (.ref a)
 | fl {xs:List AV} {us:List V} {a:Addr} (n:a∉ι.all) (h:Rd H a (.lst us)) (r:RVs T ι H xs us):RV T ι H (.fl xs) (.ref a)
 | kfl {xs:List AV} {us:List V} {a:Addr} (h:KL T.K a us) (r:RVs T ι H xs us):RV T ι H (.fl xs) (.ref a)
 | ref {k:Nat} {a:Addr} (h:ι.refs[k]? = some a):RV T ι H (.ref k) (.ref a)
 | exc {c:Nat} {C:Addr×Option Addr} {a:Addr} (n:a∉ι.all) (h:qy T ι H c C) (q:H a=some (qp a (.ref C.1) C.2)):RV T ι H (.exc c) (.ref a)
inductive RVs (T:Tb) (ι:Ix) (H:Hp):List AV->List V->Prop
 | nil:RVs T ι H [] []
 | cons {x:AV} {u:V} {xs:List AV} {us:List V} (r:RV T ι H x u) (rs:RVs T ι H xs us):RVs T ι H (x::xs) (u::us)
end
structure Grow (ι:Ix) (H:Hp) (ι':Ix) (H':Hp):Prop where
 pre:∃ n,ι'.refs=ι.refs++n/\∀ a∈n,H a=none
 priv:ι'.priv=ι.priv
 keep:∀ a o,a∉ι.refs->H a=some o->H' a=some o
 live:∀ a∈ι.all,H' a≠none
theorem vR:∀ {l:List Addr} {i j:Nat} {a:Addr},l.Nodup->l[i]? = some a->l[j]? = some a->i=j
 | [],_,_,_,_,e,_=>by simp at e
 | x::l,0,0,_,_,_,_=>rfl
 | x::l,0,j+1,a,n,e,f=>by
  simp at e f;subst e
  exact absurd (J6 f) (KO.mp n).1
 | x::l,i+1,0,a,n,e,f=>by
  simp at e f;subst f
  exact absurd (J6 e) (KO.mp n).1
 | x::l,i+1,j+1,a,n,e,f=>by
  simp at e f
  rw [vR (KO.mp n).2 e f]
theorem Ix.nr {ι:Ix} {a:Addr} (h:a∉ι.all):a∉ι.refs:=λz=>h (JO _ z)
theorem Ix.np {ι:Ix} {a:Addr} (h:a∉ι.all):a∉ι.priv:=λz=>h (JW _ z)
theorem Grow.refl {ι:Ix} {H:Hp} (l:∀ a∈ι.all,H a≠none):Grow ι H ι H:=⟨⟨[],by simp,by simp⟩,rfl,λ_ _ _ e=>e,l⟩
theorem Grow.at {ι ι':Ix} {H H':Hp} (g:Grow ι H ι' H') {k:Nat} {a:Addr} (h:ι.refs[k]? = some a):ι'.refs[k]? = some a:=by
 obtain ⟨n,e,_⟩:=g.pre
 rw [e,JE (JA.mp h).1]
 exact h
theorem Grow.outR {ι ι':Ix} {H H':Hp} (g:Grow ι H ι' H') {a:Addr} {o:HO} (n:a∉ι.refs) (e:H a=some o):a∉ι'.refs:=λz=>by
 obtain ⟨m,e',hm⟩:=g.pre
 rw [e'] at z
 rcases JS.mp z with z | z
 ·exact n z
 ·rw [hm a z] at e;cases e
theorem Grow.out {ι ι':Ix} {H H':Hp} (g:Grow ι H ι' H') {a:Addr} {o:HO} (n:a∉ι.all) (e:H a=some o):a∉ι'.all:=λz=>by
 rcases JS.mp z with z | z
 ·exact g.outR (Ix.nr n) e z
 ·rw [g.priv] at z;exact Ix.np n z
theorem Grow.trans {ι ι' ι'':Ix} {H H' H'':Hp} (g:Grow ι H ι' H') (k:Grow ι' H' ι'' H''):Grow ι H ι'' H'' := by
 obtain ⟨n,e1,hn⟩:=g.pre
 obtain ⟨m,e2,hm⟩:=k.pre
 refine ⟨⟨n++m,by rw [e2,e1];simp,λa ha=>?_⟩,k.priv.trans g.priv,λa o na e=>k.keep a o (g.outR na e) (g.keep a o na e),λa ha=>k.live a ?_⟩
 ·rcases JS.mp ha with z | z
  ·exact hn a z
  ·have q:=hm a z
   by_cases hi:a∈ι.refs
   ·exact absurd q (g.live a (JO _ hi))
   ·cases e:H a with
    | none=>rfl
    | some o=>rw [g.keep a o hi e] at q;cases q
 ·rcases JS.mp ha with z | z
  ·exact JO _ (by rw [e1];exact JO _ z)
  ·exact JW _ (by rw [g.priv];exact z)
structure Ext (ι:Ix) (H:Hp) (ι':Ix) (H':Hp):Prop where
 at_:∀ {k:Nat} {a:Addr},ι.refs[k]? = some a->ι'.refs[k]? = some a
 keep:∀ a o,a∉ι.all->H a=some o->H' a=some o
 out:∀ a o,a∉ι.all->H a=some o->a∉ι'.all
theorem Grow.ext {ι ι':Ix} {H H':Hp} (g:Grow ι H ι' H'):Ext ι H ι' H' := ⟨g.at,λa o n e=>g.keep a o (Ix.nr n) e,λa o n e=>g.out n e⟩
theorem Ext.trans {ι ι' ι'':Ix} {H H' H'':Hp} (g:Ext ι H ι' H') (k:Ext ι' H' ι'' H''):Ext ι H ι'' H'' :=
 ⟨λe=>k.at_ (g.at_ e),λa o n e=>k.keep a o (g.out a o n e) (g.keep a o n e),λa o n e=>k.out a o (g.out a o n e) (g.keep a o n e)⟩
theorem XdOk.ext {ι ι':Ix} {H H':Hp} {c:Nat} {dx:Option Addr} (x:XdOk ι H c dx) (g:Ext ι H ι' H'):XdOk ι' H' c dx:=λz=>by
 obtain ⟨d,e,n,q⟩:=x z
 exact ⟨d,e,g.out _ _ n q,g.keep _ _ n q⟩
theorem vS {ι ι':Ix} {H H':Hp} (g:Ext ι H ι' H') {a:Addr} {u:HO} (n:a∉ι.all) (r:Rd H a u):Rd H' a u:=by
 rcases r with r | ⟨o,r⟩
 ·exact .inl (g.keep a _ n r)
 ·exact .inr ⟨o,g.keep a _ n r⟩
theorem De {ι ι':Ix} {H H':Hp} (g:Ext ι H ι' H') {a:Addr} {u:HO} (n:a∉ι.all) (r:Rd H a u):a∉ι'.all:=by
 rcases r with r | ⟨o,r⟩
 ·exact g.out _ _ n r
 ·exact g.out _ _ n r
mutual
theorem RV.ext {T:Tb} {ι ι':Ix} {H H':Hp} (g:Ext ι H ι' H'):∀ {x:AV} {u:V},RV T ι H x u->RV T ι' H' x u
 | _,_,.non=>.non
 | _,_,.bl b=>.bl b
 | _,_,.int i=>.int i
 | _,_,.str n o=>.str n o
 | _,_,.tup n h r=>.tup (g.out _ _ n h) (g.keep _ _ n h) (RVs.ext g r)
 | _,_,.fl n h r=>.fl (De g n h) (vS g n h) (RVs.ext g r)
 | _,_,.kfl h r=>.kfl h (RVs.ext g r)
 | _,_,.ref h=>.ref (g.at_ h)
 | _,_,.exc n h q=>.exc (g.out _ _ n q) ⟨h.1,h.2.ext g⟩ (g.keep _ _ n q)
theorem RVs.ext {T:Tb} {ι ι':Ix} {H H':Hp} (g:Ext ι H ι' H'):∀ {xs:List AV} {us:List V},RVs T ι H xs us->RVs T ι' H' xs us
 | _,_,.nil=>.nil
 | _,_,.cons r rs=>.cons (RV.ext g r) (RVs.ext g rs)
end
theorem RV.mono {T:Tb} {ι ι':Ix} {H H':Hp} (g:Grow ι H ι' H') {x:AV} {u:V} (r:RV T ι H x u):RV T ι' H' x u:=r.ext g.ext
theorem RVs.mono {T:Tb} {ι ι':Ix} {H H':Hp} (g:Grow ι H ι' H') {xs:List AV} {us:List V} (r:RVs T ι H xs us):RVs T ι' H' xs us:=r.ext g.ext
section
variable {T:Tb} {ι:Ix} {H:Hp}
theorem RVs.length:∀ {xs:List AV} {us:List V},RVs T ι H xs us->xs.length=us.length
 | _,_,.nil=>rfl
 | _,_,.cons _ rs=>by simp [RVs.length rs]
theorem RVs.get:∀ {xs:List AV} {us:List V} {i:Nat} {x:AV},RVs T ι H xs us->xs[i]? = some x->∃ u,us[i]? = some u/\RV T ι H x u
 | _,_,_,_,.nil,e=>by simp at e
 | _,_,0,_,.cons r _,e=>by simp at e;subst e;exact ⟨_,rfl,r⟩
 | _,_,i+1,x,.cons _ t,e=>by
  obtain ⟨u,h1,h2⟩:=RVs.get (i:=i) (x:=x) t (by simpa using e)
  exact ⟨u,by simpa using h1,h2⟩
theorem RVs.append:∀ {xs ys:List AV} {us ws:List V},RVs T ι H xs us->RVs T ι H ys ws->RVs T ι H (xs++ys) (us++ws)
 | _,_,_,_,.nil,s=>s
 | _,_,_,_,.cons r t,s=>.cons r (RVs.append t s)
theorem RVs.set {x:AV} {u:V} (r:RV T ι H x u):∀ {xs:List AV} {us:List V} (i:Nat),RVs T ι H xs us->RVs T ι H (xs.set i x) (us.set i u)
 | _,_,_,.nil=>.nil
 | _,_,0,.cons _ t=>.cons r t
 | _,_,i+1,.cons q t=>.cons q (RVs.set r i t)
theorem RVs.take:∀ {xs:List AV} {us:List V} (n:Nat),RVs T ι H xs us->RVs T ι H (xs.take n) (us.take n)
 | _,_,0,_=>by simpa using RVs.nil
 | _,_,_+1,.nil=>.nil
 | _,_,n+1,.cons r t=>.cons r (RVs.take n t)
theorem RVs.drop:∀ {xs:List AV} {us:List V} (n:Nat),RVs T ι H xs us->RVs T ι H (xs.drop n) (us.drop n)
 | _,_,0,r=>r
 | _,_,_+1,.nil=>.nil
 | _,_,n+1,.cons _ t=>RVs.drop n t
theorem RVs.reverse:∀ {xs:List AV} {us:List V},RVs T ι H xs us->RVs T ι H xs.reverse us.reverse
 | _,_,.nil=>.nil
 | _,_,.cons r t=>by simpa using (RVs.reverse t).append (.cons r .nil)
end
noncomputable def kA:aH->AV
 | .inl i=>.int i
 | .inr x=>.str x
noncomputable def OR (T:Tb) (ι:Ix) (H:Hp):AO->HO->Prop
 | .lst xs,o=>∃ us,o = .lst us/\RVs T ι H xs us
 | .dct false kvs,o=>∃ kus:List (aH×V),o = .dK kus/\Paired (λ(p:AV×AV) (q:aH×V)=>p.1=kA q.1/\RV T ι H p.2 q.2) kvs kus
 | .dct true kvs,o=>∃ kus:List (List aH×V),o = .dT none kus/\Paired (λ(p:AV×AV) (q:List aH×V)=>p.1 = .tup (q.1.map kA)/\RV T ι H p.2 q.2) kvs kus
 | .dcx kvs,o=>∃ (ads:List Addr) (kus:List (List aH×V)),o = .dT (some ads) kus/\ads.length=kus.length/\Paired (λ(p:AV×AV) (q:Addr×List aH×V)=>p.1 = .tup (q.2.1.map kA)/\RV T ι H p.1 (.ref q.1)/\RV T ι H p.2 q.2.2) kvs (ads.zip kus)
 | .ins c fs,o=>∃ C dx fus,T.cls c=some C/\o = .ins C dx fus/\(fus.map (·.1)).Nodup/\(∀ p∈fus,p.1∈T.fields c)/\fs.length=(T.fields c).length /\
   ∀ (i:Nat) (v:AV),fs[i]? = some (some v)->∃ f u,(T.fields c)[i]? = some f/\fus.lookup f=some u/\RV T ι H v u
theorem OR.mono {T:Tb} {ι ι':Ix} {H H':Hp} (g:Grow ι H ι' H') {o:AO} {u:HO} (h:OR T ι H o u):OR T ι' H' o u:=by
 cases o with
 | lst xs=>obtain ⟨us,e,r⟩:=h;exact ⟨us,e,r.mono g⟩
 | dct t kvs =>
  cases t with
  | false=>obtain ⟨us,e,r⟩:=h;exact ⟨us,e,Paired.mapP r λ_ _ ⟨a,b⟩=>⟨a,b.mono g⟩⟩
  | true=>obtain ⟨us,e,r⟩:=h;exact ⟨us,e,Paired.mapP r λ_ _ ⟨a,b⟩=>⟨a,b.mono g⟩⟩
 | dcx kvs=>obtain ⟨ads,us,e,l,r⟩:=h;exact ⟨ads,us,e,l,Paired.mapP r λ_ _ ⟨a,b,c⟩=>⟨a,b.mono g,c.mono g⟩⟩
 | ins c fs =>
  obtain ⟨C,dx,fus,a,b,n,w,l,r⟩:=h
  refine ⟨C,dx,fus,a,b,n,w,l,λi v e=>?_⟩
  obtain ⟨f,u,e1,e2,q⟩:=r i v e
  exact ⟨f,u,e1,e2,q.mono g⟩
structure Sim (T:Tb) (ι:Ix) (h:AH) (H:Hp):Prop where
 len:ι.refs.length=h.length
 nd:ι.refs.Nodup
 plive:∀ a∈ι.priv,H a≠none
 obj:∀ (i:Nat) (o:AO) (a:Addr),h[i]? = some o->ι.refs[i]? = some a->∃ u,H a=some u/\OR T ι H o u
section
variable {T:Tb} {ι:Ix} {h:AH} {H:Hp}
theorem Sim.live (S:Sim T ι h H):∀ a∈ι.all,H a≠none:=λa ha z=>by
 rcases JS.mp ha with ha | ha
 ·obtain ⟨i,hi⟩:=J1.mp ha
  have hl:i<h.length:=by rw [<- S.len];exact (JA.mp hi).1
  obtain ⟨u,e,_⟩:=S.obj i h[i] a (by simp [hl]) hi
  rw [z] at e;cases e
 ·exact S.plive a ha z
theorem Sim.refl (S:Sim T ι h H):Grow ι H ι H:=.refl S.live
theorem Sim.fresh (S:Sim T ι h H) {p:Addr} (n:H p=none):p∉ι.all:=λz=>S.live p z n
theorem Sim.still (S:Sim T ι h H) {H':Hp} (g:Grow ι H ι H') (k:∀ a∈ι.refs,H' a=H a):Sim T ι h H' :=
 ⟨S.len,S.nd,λa ha=>g.live a (JW _ ha),λi o a e1 e2=>by
  obtain ⟨u,e,r⟩:=S.obj i o a e1 e2
  exact ⟨u,by rw [k a (J6 e2)];exact e,r.mono g⟩⟩
theorem Sim.growNew (S:Sim T ι h H) {p:Addr} {o:HO} (n:H p=none):Grow ι H ι (aJ H p o) :=
 ⟨⟨[],by simp,by simp⟩,rfl,λa u _ e=>by rw [bN (fT e n)];exact e,λa ha=>by
  rw [bN (show a≠p from λz=>S.fresh n (z▸ha))];exact S.live a ha⟩
theorem Sim.new (S:Sim T ι h H) {p:Addr} {o:HO} (n:H p=none):Sim T ι h (aJ H p o) :=
 S.still (S.growNew n) λa ha=>bN λz=>S.fresh n (z▸JO _ ha)
noncomputable def Ix.add (ι:Ix) (p:Addr):Ix:=⟨ι.refs++[p],ι.priv⟩
theorem Sim.growAdd (S:Sim T ι h H) {p:Addr} {u:HO} (n:H p=none):Grow ι H (ι.add p) (aJ H p u) :=
 ⟨⟨[p],rfl,λa ha=>by have e:a=p:=(by simpa using ha);rw [e];exact n⟩,rfl,(S.growNew n).keep,(S.growNew n).live⟩
theorem Sim.add (S:Sim T ι h H) {p:Addr} {u:HO} {o:AO} (n:H p=none) (r:OR T (ι.add p) (aJ H p u) o u):Sim T (ι.add p) (h++[o]) (aJ H p u):=by
 refine ⟨by simp [Ix.add,S.len],?_,λa ha=>(S.growNew n).live a (JW _ ha),λi o' a e1 e2=>?_⟩
 ·show (ι.refs++[p]).Nodup
  rw [LF]
  exact ⟨S.nd,by simp,λa ha b hb z=>by have e:b=p:=(by simpa using hb);subst e;subst z;exact S.fresh n (JO _ ha)⟩
 ·replace e2:(ι.refs++[p])[i]? = some a:=e2
  by_cases hi:i<h.length
  ·rw [JE hi] at e1
   rw [JE (by rw [S.len];exact hi)] at e2
   obtain ⟨v,e,q⟩:=S.obj i o' a e1 e2
   exact ⟨v,by rw [bN (fT e n)];exact e,q.mono (S.growAdd n)⟩
  ·have e3:i=h.length:=by
    have:=(JA.mp e1).1
    simp at this;lia
   subst e3
   rw [J7 (JC _)] at e1
   rw [J7 (by rw [S.len];exact JC _),S.len] at e2
   simp at e1 e2
   subst e1 e2
   exact ⟨u,eP,r⟩
theorem Sim.addAt (S:Sim T ι h H) {p:Addr}:(ι.add p).refs[h.length]? = some p:=by
 show (ι.refs++[p])[h.length]? = some p
 rw [<- S.len];simp
theorem Sim.growSet (S:Sim T ι h H) {i:Nat} {a:Addr} {u:HO} (e:ι.refs[i]? = some a):Grow ι H ι (aJ H a u) :=
 ⟨⟨[],by simp,by simp⟩,rfl,λb o nb q=>by rw [bN (show b≠a from λz=>nb (by rw [z];exact J6 e))];exact q,λb hb=>by
  by_cases z:b=a
  ·subst z;rw [eP];simp
  ·rw [bN z];exact S.live b hb⟩
theorem Sim.set (S:Sim T ι h H) {i:Nat} {a:Addr} {u:HO} {o:AO} (e:ι.refs[i]? = some a) (r:OR T ι (aJ H a u) o u):Sim T ι (h.set i o) (aJ H a u):=by
 refine ⟨by simp [S.len],S.nd,λb hb=>(S.growSet e).live b (JW _ hb),λj o' b e1 e2=>?_⟩
 by_cases hj:j=i
 ·subst hj
  rw [e] at e2;cases e2
  have hl:j<h.length:=by rw [<- S.len];exact (JA.mp e).1
  rw [J0 hl] at e1;cases e1
  exact ⟨u,eP,r⟩
 ·rw [JX (Ne.symm hj)] at e1
  obtain ⟨v,q,r'⟩:=S.obj j o' b e1 e2
  have ne:b≠a:=λz=>hj (by
   subst z
   exact vR S.nd e2 e)
  exact ⟨v,by rw [bN ne];exact q,r'.mono (S.growSet e)⟩
end
noncomputable def Ix.hide (ι:Ix) (D:Addr):Ix:=⟨ι.refs,D::ι.priv⟩
theorem Ix.hide_all {ι:Ix} {D a:Addr}:a∉(ι.hide D).all ↔ a∉ι.all/\a≠D:=by
 unfold Ix.all Ix.hide
 simp only [JS,J4]
 constructor
 ·intro h;exact ⟨λz=>h (z.elim .inl λz=>.inr (.inr z)),λz=>h (.inr (.inl z))⟩
 ·rintro ⟨h1,h2⟩ (z | z | z)
  ·exact h1 (.inl z)
  ·exact h2 z
  ·exact h1 (.inr z)
section
variable {T:Tb} {ι:Ix} {H:Hp} {D:Addr}
theorem Ext.hide {o:HO} (hn:H D=none):Ext ι H (ι.hide D) (aJ H D o):=⟨λe=>e,λa u n e=>by rw [bN (fT e hn)];exact e,λa u n e=>Ix.hide_all.mpr ⟨n,fT e hn⟩⟩
theorem Ext.poke {o:HO}:Ext (ι.hide D) H (ι.hide D) (aJ H D o):=⟨λe=>e,λa u n e=>by rw [bN (Ix.hide_all.mp n).2];exact e,λa u n e=>n⟩
theorem Ext.show:Ext (ι.hide D) H ι H:=⟨λe=>e,λa u n e=>e,λa u n e=>(Ix.hide_all.mp n).1⟩
theorem Ext.adopt:Ext (ι.hide D) H (ι.add D) H:=⟨λ{k a} e=>by
 show (ι.refs++[D])[k]? = some a
 replace e:ι.refs[k]? = some a:=e
 rw [JE (JA.mp e).1];exact e,λa u n e=>e,λa u n e z=>by
 rcases JS.mp z with z | z
 ·replace z:a∈ι.refs++[D]:=z
  rcases JS.mp z with z | z
  ·exact (Ix.hide_all.mp n).1 (JO _ z)
  ·exact (Ix.hide_all.mp n).2 (by simpa using z)
 ·exact (Ix.hide_all.mp n).1 (JW _ z)⟩
theorem OR.ext {ι ι':Ix} {H H':Hp} (g:Ext ι H ι' H') {o:AO} {u:HO} (h:OR T ι H o u):OR T ι' H' o u:=by
 cases o with
 | lst xs=>obtain ⟨us,e,r⟩:=h;exact ⟨us,e,r.ext g⟩
 | dct t kvs =>
  cases t with
  | false=>obtain ⟨us,e,r⟩:=h;exact ⟨us,e,Paired.mapP r λ_ _ ⟨a,b⟩=>⟨a,b.ext g⟩⟩
  | true=>obtain ⟨us,e,r⟩:=h;exact ⟨us,e,Paired.mapP r λ_ _ ⟨a,b⟩=>⟨a,b.ext g⟩⟩
 | dcx kvs=>obtain ⟨ads,us,e,l,r⟩:=h;exact ⟨ads,us,e,l,Paired.mapP r λ_ _ ⟨a,b,c⟩=>⟨a,b.ext g,c.ext g⟩⟩
 | ins c fs =>
  obtain ⟨C,dx,fus,a,b,n,w,l,r⟩:=h
  refine ⟨C,dx,fus,a,b,n,w,l,λi v e=>?_⟩
  obtain ⟨f,u,e1,e2,q⟩:=r i v e
  exact ⟨f,u,e1,e2,q.ext g⟩
theorem Sim.hide {h:AH} {o:HO} (S:Sim T ι h H) (hn:H D=none):Sim T (ι.hide D) h (aJ H D o) :=
 ⟨S.len,S.nd,λa ha=>by
  rcases J4.mp ha with rfl | ha
  ·rw [eP];simp
  ·rw [bN (show a≠D from λz=>S.plive a ha (z▸hn))];exact S.plive a ha,λi o' a e1 e2=>by
  obtain ⟨u,e,r⟩:=S.obj i o' a e1 e2
  exact ⟨u,by rw [bN (fT e hn)];exact e,r.ext (Ext.hide hn)⟩⟩
theorem Sim.poke {h:AH} {o:HO} (S:Sim T (ι.hide D) h H) (hr:D∉ι.refs):Sim T (ι.hide D) h (aJ H D o) :=
 ⟨S.len,S.nd,λa ha=>by
  by_cases z:a=D
  ·subst z;rw [eP];simp
  ·rw [bN z];exact S.plive a ha,λi o' a e1 e2=>by
  obtain ⟨u,e,r⟩:=S.obj i o' a e1 e2
  have ne:a≠D:=λz=>hr (z▸J6 e2)
  exact ⟨u,by rw [bN ne];exact e,r.ext Ext.poke⟩⟩
theorem Sim.show {h:AH} (S:Sim T (ι.hide D) h H):Sim T ι h H :=
 ⟨S.len,S.nd,λa ha=>S.plive a (Km _ ha),λi o' a e1 e2=>by
  obtain ⟨u,e,r⟩:=S.obj i o' a e1 e2
  exact ⟨u,e,r.ext Ext.show⟩⟩
theorem Sim.adopt {h:AH} {u:HO} {o:AO} (S:Sim T (ι.hide D) h H) (hr:D∉ι.refs) (e:H D=some u) (r:OR T (ι.add D) H o u):Sim T (ι.add D) (h++[o]) H:=by
 have hlen:ι.refs.length=h.length:=S.len
 refine ⟨by simp [Ix.add,hlen],?_,λa ha=>S.plive a (Km _ ha),λi o' a e1 e2=>?_⟩
 ·show (ι.refs++[D]).Nodup
  rw [LF]
  exact ⟨S.nd,by simp,λa ha b hb z=>by have e:b=D:=(by simpa using hb);subst e;subst z;exact hr ha⟩
 ·replace e2:(ι.refs++[D])[i]? = some a:=e2
  by_cases hi:i<h.length
  ·rw [JE hi] at e1
   rw [JE (by rw [hlen];exact hi)] at e2
   obtain ⟨v,e,q⟩:=S.obj i o' a e1 e2
   exact ⟨v,e,q.ext Ext.adopt⟩
  ·have e3:i=h.length:=by
    have:=(JA.mp e1).1
    simp at this;lia
   subst e3
   rw [J7 (JC _)] at e1
   rw [J7 (by rw [hlen];exact JC _),hlen] at e2
   simp at e1 e2
   subst e1 e2
   exact ⟨u,e,r⟩
end
noncomputable def ER (T:Tb) (ι:Ix) (H:Hp) (e:En) (σ:St):Prop:=e.length=σ.length/\∀ (i:Nat) (v:AV),e[i]? = some (some v)->∃ u,σ[i]? = some (some u)/\RV T ι H v u
theorem ER.mono {T:Tb} {ι ι':Ix} {H H':Hp} {e:En} {σ:St} (r:ER T ι H e σ) (g:Grow ι H ι' H'):ER T ι' H' e σ :=
 ⟨r.1,λi v q=>let ⟨u,a,b⟩:=r.2 i v q;⟨u,a,b.mono g⟩⟩
theorem ER.ext {T:Tb} {ι ι':Ix} {H H':Hp} {e:En} {σ:St} (r:ER T ι H e σ) (g:Ext ι H ι' H'):ER T ι' H' e σ :=
 ⟨r.1,λi v q=>let ⟨u,a,b⟩:=r.2 i v q;⟨u,a,b.ext g⟩⟩
theorem ER.set {T:Tb} {ι:Ix} {H:Hp} {e:En} {σ:St} (r:ER T ι H e σ) {v:AV} {u:V} (q:RV T ι H v u) (i:Nat):ER T ι H (e.set i (some v)) (σ.set i (some u)):=by
 refine ⟨by simp [r.1],λj w z=>?_⟩
 by_cases hj:j=i
 ·subst hj
  by_cases hl:j<e.length
  ·rw [J0 hl] at z;cases z
   exact ⟨u,by rw [J0 (by rw [<- r.1];exact hl)],q⟩
  ·rw [Lo (by simpa using hl)] at z;cases z
 ·rw [JX (Ne.symm hj)] at z ⊢
  exact r.2 j w z
noncomputable def Post {α β:Type} (T:Tb) (ι:Ix) (H:Hp) (E:XK) (R:Ix->Hp->α->β->Prop) (o:Out α) (Q:β->Hp->Prop):Prop :=
 match o with
 | .ok v h' => ∀ ι' H' u,Grow ι H ι' H'->Sim T ι' h' H'->R ι' H' v u->Q u H'
 | .ex c h' => ∀ ι' H' C,Grow ι H ι' H'->Sim T ι' h' H'->qy T ι' H' c C->E (.ref C.1) C.2 H'
 | .bad=>False
noncomputable def PostS (T:Tb) (ι:Ix) (H:Hp) (E:St->XK) (o:dN) (D:cU):Prop :=
 match o with
 | .nx e h' => ∀ ι' H' σ',Grow ι H ι' H'->Sim T ι' h' H'->ER T ι' H' e σ'->D.nx σ' H'
 | .bk e h' => ∀ ι' H' σ',Grow ι H ι' H'->Sim T ι' h' H'->ER T ι' H' e σ'->D.bk σ' H'
 | .ct e h' => ∀ ι' H' σ',Grow ι H ι' H'->Sim T ι' h' H'->ER T ι' H' e σ'->D.ct σ' H'
 | .rt v h' => ∀ ι' H' u,Grow ι H ι' H'->Sim T ι' h' H'->RV T ι' H' v u->D.rt u H'
 | .ex c e h' => ∀ ι' H' σ' C,Grow ι H ι' H'->Sim T ι' h' H'->ER T ι' H' e σ'->qy T ι' H' c C->E σ' (.ref C.1) C.2 H'
 | .bad=>False
noncomputable abbrev Df {α:Type}:Ix->Hp->α->α->Prop:=λ_ _ a b=>a=b
section
variable {T:Tb} {ι ι':Ix} {h:AH} {H H':Hp} {α β γ δ:Type} {E:XK} {R:Ix->Hp->α->β->Prop} {R':Ix->Hp->γ->δ->Prop}
theorem Post.shift {o:Out α} {Q:β->Hp->Prop} (p:Post T ι H E R o Q) (g:Grow ι H ι' H'):Post T ι' H' E R o Q:=by
 cases o with
 | ok v h' => exact λi2 H2 u g2=>p i2 H2 u (g.trans g2)
 | ex c h' => exact λi2 H2 C g2=>p i2 H2 C (g.trans g2)
 | bad=>exact p
theorem Post.bind {o:Out α} {f:α->AH->Out γ} {Q:δ->Hp->Prop} {Q1:β->Hp->Prop} (p:Post T ι H E R' (o.bind f) Q)
  (k:∀ v h' ι' H' u,Grow ι H ι' H'->Sim T ι' h' H'->R ι' H' v u->Post T ι' H' E R' (f v h') Q->Q1 u H'):Post T ι H E R o Q1:=by
 cases o with
 | ok v h' => exact λi2 H2 u g S r=>k v h' i2 H2 u g S r (Post.shift p g)
 | ex c h' => exact p
 | bad=>exact p
theorem Post.now {v:α} {u:β} {Q:β->Hp->Prop} (p:Post T ι H E R (.ok v h) Q) (S:Sim T ι h H) (r:R ι H v u):Q u H:=p ι H u S.refl S r
theorem PostS.shift {E:St->XK} {o:dN} {D:cU} (p:PostS T ι H E o D) (g:Grow ι H ι' H'):PostS T ι' H' E o D:=by
 cases o with
 | nx e h' => exact λi2 H2 u g2=>p i2 H2 u (g.trans g2)
 | bk e h' => exact λi2 H2 u g2=>p i2 H2 u (g.trans g2)
 | ct e h' => exact λi2 H2 u g2=>p i2 H2 u (g.trans g2)
 | rt v h' => exact λi2 H2 u g2=>p i2 H2 u (g.trans g2)
 | ex c e h' => exact λi2 H2 u C g2=>p i2 H2 u C (g.trans g2)
 | bad=>exact p
theorem PostS.go {E:St->XK} {o:Out α} {en:En} {σ:St} {f:α->AH->dN} {D:cU} {Q1:β->Hp->Prop} (p:PostS T ι H E (o.go en f) D) (er:ER T ι H en σ)
  (k:∀ v h' ι' H' u,Grow ι H ι' H'->Sim T ι' h' H'->R ι' H' v u->PostS T ι' H' E (f v h') D->Q1 u H'):Post T ι H (E σ) R o Q1:=by
 cases o with
 | ok v h' => exact λi2 H2 u g S r=>k v h' i2 H2 u g S r (PostS.shift p g)
 | ex c h' => exact λi2 H2 C g S e=>p i2 H2 σ C g S (er.mono g) e
 | bad=>exact p
end
noncomputable def tE (T:Tb) (E:St->XK) (a:SE):TE:=λσ H Q=>∃ ι h en,Sim T ι h H/\ER T ι H en σ/\Post T ι H (E σ) (RV T) (a en h) Q
noncomputable def tT (T:Tb) (E:St->XK) (a:SB):TT:=λσ H Q=>∃ ι h en,Sim T ι h H/\ER T ι H en σ/\Post T ι H (E σ) Df (a en h) Q
noncomputable def tA (T:Tb) (E:St->XK) (a:SL):TA:=λσ H Q=>∃ ι h en,Sim T ι h H/\ER T ι H en σ/\Post T ι H (E σ) (RVs T) (a en h) Q
noncomputable def tS (T:Tb) (E:St->XK) (b:SS):TS:=λD σ H=>∃ ι h en,Sim T ι h H/\ER T ι H en σ/\PostS T ι H E (b en h) D
noncomputable abbrev aI (T:Tb) (E:St->XK) (X:Cx) (e:Expr) (a:SE):Prop:=PE X e (tE T E a)
noncomputable abbrev gE (T:Tb) (E:St->XK) (X:Cx) (e:Expr) (a:SB):Prop:=PT X e (tT T E a)
noncomputable abbrev ng (T:Tb) (E:St->XK) (X:Cx) (e:Expr) (a:SB):Prop:=PW X e (tT T E a)
noncomputable abbrev fH (T:Tb) (E:St->XK) (X:Cx) (es:List Expr) (a:SL):Prop:=PA X es (tA T E a)
noncomputable abbrev eQ (T:Tb) (E:St->XK) (X:Cx) (st:Stmt) (b:SS):Prop:=PS X st (tS T E b)
noncomputable abbrev cO (T:Tb) (E:St->XK) (X:Cx) (sts:List Stmt) (b:SS):Prop:=ft X sts (tS T E b)
theorem bW {X:Cx} {e:Expr} {t t':TE} (h:PE X e t) (k:∀ σ H Q,t' σ H Q->t σ H Q):PE X e t' := λpins s σ H Q I q=>h pins s σ H Q I (k σ H Q q)
theorem qz {X:Cx} {e:Expr} {t t':TT} (h:PT X e t) (k:∀ σ H Q,t' σ H Q->t σ H Q):PT X e t' := λpins s σ H Q I q=>h pins s σ H Q I (k σ H Q q)
theorem Dg {X:Cx} {e:Expr} {t t':TT} (h:PW X e t) (k:∀ σ H Q,t' σ H Q->t σ H Q):PW X e t' := λw pins s σ H Q I q=>h w pins s σ H Q I (k σ H Q q)
theorem vT {X:Cx} {e:List Expr} {t t':TA} (h:PA X e t) (k:∀ σ H Q,t' σ H Q->t σ H Q):PA X e t' := λp pins s σ H Q I q=>h p pins s σ H Q I (k σ H Q q)
theorem fI {X:Cx} {e:Stmt} {t t':TS} (h:PS X e t) (k:∀ D σ H,t' D σ H->t D σ H):PS X e t' := λpins s σ H D I q=>h pins s σ H D I (k D σ H q)
theorem vU {X:Cx} {e:List Stmt} {t t':TS} (h:ft X e t) (k:∀ D σ H,t' D σ H->t D σ H):ft X e t' := λpins s σ H D I q=>h pins s σ H D I (k D σ H q)
theorem qA {X:Cx} {st:Stmt} {t:TS} (h:PS X.nox st t):PS X st t:=λpins s σ H D I hw=>by
 refine Ku (h pins s σ H D (I.wish _) hw) (λf s' q=>SP.unwish q) λ_ _ z=>z.elim
end Sm
namespace Sm
open PySem L2
instance:DecidableEq AV:=λ_ _=>Classical.propDecidable _
@[simp] noncomputable def ae (i:Nat):SE:=λen h=>match en[i]? with
 | some (some v)=>.ok v h
 | _=>.bad
@[simp] noncomputable def ah (v:AV):SE:=λ_ h=>.ok v h
noncomputable abbrev F1:=AV->AH->Out AV
noncomputable abbrev F2:=AV->AV->AH->Out AV
@[simp] noncomputable def cW (f:F1) (a:SE):SE:=λen h=>(a en h).bind f
@[simp] noncomputable def ai (f:F2) (a b:SE):SE:=λen h=>(a en h).bind λx h1=>(b en h1).bind λy h2=>f x y h2
@[simp] noncomputable def af:SL:=λ_ h=>.ok [] h
@[simp] noncomputable def aj (a:SE) (r:SL):SL:=λen h=>(a en h).bind λx h1=>(r en h1).bind λxs h2=>.ok (x::xs) h2
@[simp] noncomputable def aE (F:Fn) (as:SL):SE:=λen h=>(as en h).bind F
@[simp] noncomputable def je (as:SL):SE:=λen h=>(as en h).bind λxs h1=>if xs.length<=1000 then .ok (.tup xs) h1 else .bad
@[simp] noncomputable def bM (as:SL):SE:=λen h=>(as en h).bind λxs h1=>if xs.length<=1000 then .ok (.fl xs) h1 else .bad
@[simp] noncomputable def df (as:SL):SE:=λen h=>(as en h).bind λxs h1=>if xs.length<=1000 then .ok (.ref h1.length) (h1++[.lst xs]) else .bad
@[simp] noncomputable def jg (t:Bool):SE:=λ_ h=>.ok (.ref h.length) (h++[.dct t []])
@[simp] noncomputable def Jp (v:AV) (h:AH):Option (List AV):=match v with
 | .tup xs=>some xs
 | .fl xs=>some xs
 | .ref n=>match h[n]? with
  | some (.lst xs)=>some xs
  | _=>none
 | _=>none
@[simp] noncomputable def cf (v:AV) (h:AH):Option (List AV):=match v with
 | .fl xs=>some xs
 | .ref n=>match h[n]? with
  | some (.lst xs)=>some xs
  | _=>none
 | _=>none
@[simp] noncomputable def aA:F2:=λx y h=>match x,y with
 | .int i,.int j=>.ok (.int (i+j)) h
 | .str i,.str j=>if i.length+j.length<=sizeLine then .ok (.str (i++j)) h else .bad
 | .tup xs,.tup ys=>if xs≠[]/\xs.length+ys.length<=sizeLine then .ok (.tup (xs++ys)) h else .bad
 | x,y=>match cf x h,cf y h with
  | some xs,some ys=>if xs.length+ys.length<=sizeLine then .ok (.fl (xs++ys)) h else .bad
  | _,_=>.bad
@[simp] noncomputable def dO:F2:=λx y h=>match x,y with
 | .int i,.int j=>.ok (.int (i-j)) h
 | _,_=>.bad
@[simp] noncomputable def bx:F2:=λx y h=>match x,y with
 | .int i,.int j=>if (i.natAbs<2 ^ 64\/j.natAbs<2 ^ 64)\/(i.natAbs<2 ^ 4000/\j.natAbs<2 ^ 4000) then .ok (.int (i*j)) h else .bad
 | _,_=>.bad
@[simp] noncomputable def fv:F2:=λx y h=>match x,y with
 | .int i,.int j=>if 0<j/\j.natAbs<2 ^ 200 then .ok (.int (i / j)) h else .bad
 | _,_=>.bad
@[simp] noncomputable def cG:F2:=λx y h=>match x,y with
 | .int i,.int j=>if 0<j then .ok (.int (i % j)) h else .bad
 | _,_=>.bad
@[simp] noncomputable def cH:F2:=λx y h=>match x,y with
 | .int i,.int j=>if 0<=j/\j<=1000000/\i.natAbs<2 ^ 64 then .ok (.int (i ^ j.toNat)) h else .bad
 | _,_=>.bad
@[simp] noncomputable def cP:F1:=λx h=>match x with
 | .int i=>.ok (.int (-i)) h
 | _=>.bad
noncomputable def bH (f:AV->Option PyData):List AV->Option (List PyData)
 | []=>some []
 | x::xs=>match f x,bH f xs with
  | some d,some ds=>some (d::ds)
  | _,_=>none
noncomputable def bp:Nat->AH->AV->Option PyData
 | 0,_,v=>match v with
  | .non=>some .none
  | .bl b=>some (.bool b)
  | .int i=>some (.int i)
  | .str x=>some (.str x)
  | _=>none
 | n+1,h,v=>match v with
  | .non=>some .none
  | .bl b=>some (.bool b)
  | .int i=>some (.int i)
  | .str x=>some (.str x)
  | .tup xs=>(bH (bp n h) xs).map .tuple
  | .fl xs=>(bH (bp n h) xs).map .list
  | .ref k=>match h[k]? with
   | some (.lst xs)=>(bH (bp n h) xs).map .list
   | _=>none
  | .exc _=>none
@[simp] noncomputable def gY (x y:AV) (h:AH):Option Bool:=match x,y with
 | .int i,.int j=>some (decide (i=j))
 | .str i,.str j=>some (decide (i=j))
 | .bl i,.bl j=>some (decide (i=j))
 | .non,.non=>some true
 | x,y=>match bp 8 h x,bp 8 h y with
  | some d,some e=>some (PyData.eqv d e)
  | _,_=>none
@[simp] noncomputable def aS:F2:=λx y h=>match gY x y h with
 | some b=>.ok (.bl b) h
 | none=>.bad
@[simp] noncomputable def cB:F2:=λx y h=>match gY x y h with
 | some b=>.ok (.bl (!b)) h
 | none=>.bad
@[simp] noncomputable def kM:F2:=λx y h=>match x,y with
 | .int i,.int j=>.ok (.bl (decide (i<j))) h
 | .str i,.str j=>.ok (.bl (decide (i.cps.toList<j.cps.toList))) h
 | _,_=>.bad
@[simp] noncomputable def fX:F2:=λx y h=>match x,y with
 | .int i,.int j=>.ok (.bl (decide (i<=j))) h
 | .str i,.str j=>.ok (.bl (!decide (j.cps.toList<i.cps.toList))) h
 | _,_=>.bad
@[simp] noncomputable def iE:F2:=λx y h=>match x,y with
 | .int i,.int j=>.ok (.bl (decide (j<i))) h
 | _,_=>.bad
@[simp] noncomputable def qB:F2:=λx y h=>match x,y with
 | .int i,.int j=>.ok (.bl (decide (j<=i))) h
 | _,_=>.bad
@[simp] noncomputable def jh (v:AV) (h:AH):Option Bool:=match v with
 | .non=>some false
 | .bl b=>some b
 | .int i=>some (i != 0)
 | .str y=>some ((y.length:Int) != 0)
 | .tup xs=>some (!xs.isEmpty)
 | .fl xs=>some (!xs.isEmpty)
 | .ref n=>match h[n]? with
  | some (.lst xs)=>some (!xs.isEmpty)
  | some (.dct false kvs)=>some (!kvs.isEmpty)
  | _=>none
 | _=>none
@[simp] noncomputable def gF (a:SE):SB:=λen h=>(a en h).bind λv h1=>match jh v h1 with
 | some b=>.ok b h1
 | none=>.bad
@[simp] noncomputable def aZ (a:SE):SB:=λen h=>(a en h).bind λv h1=>match v with
 | .bl b=>.ok b h1
 | _=>.bad
@[simp] noncomputable def nh (a b:SB):SB:=λen h=>(a en h).bind λx h1=>if x=true then .ok true h1 else b en h1
@[simp] noncomputable def du (a:SB):SB:=λen h=>(a en h).bind λx h1=>.ok (!x) h1
@[simp] noncomputable def nj (a b:SE):SE:=λen h=>(a en h).bind λv h1=>match v with
 | .bl k=>if k=true then b en h1 else .ok (.bl false) h1
 | _=>.bad
@[simp] noncomputable def kN (a b:SE):SE:=λen h=>(a en h).bind λv h1=>match v with
 | .bl k=>if k=true then .ok (.bl true) h1 else b en h1
 | _=>.bad
@[simp] noncomputable def vV (a:SE):SE:=λen h=>(a en h).bind λv h1=>match v with
 | .bl b=>.ok (.bl (!b)) h1
 | _=>.bad
@[simp] noncomputable def kO (f f':F2) (a b c:SE):SE:=λen h=>(a en h).bind λx h1=>(b en h1).bind λy h2=>(f x y h2).bind λz h3=>match z with
 | .bl k=>if k=true then (c en h3).bind λw h4=>f' y w h4 else .ok (.bl false) h3
 | _=>.bad
@[simp] noncomputable def bG:SS:=λen h=>.nx en h
@[simp] noncomputable def ao (a b:SS):SS:=λen h=>match a en h with
 | .nx e h' => b e h'
 | o=>o
@[simp] noncomputable def bO (a:SE):SS:=λen h=>(a en h).go en λ_ h' => .nx en h'
@[simp] noncomputable def az (a:SE):SS:=λen h=>(a en h).go en λv h' => .rt v h'
@[simp] noncomputable def bE (c:SB) (a b:SS):SS:=λen h=>(c en h).go en λx h' => if x=true then a en h' else b en h'
@[simp] noncomputable def aw (i:Nat) (a:SE):SS:=λen h=>(a en h).go en λv h' => .nx (en.set i (some v)) h'
noncomputable def dP (c:SB) (b:SS):Nat->SS
 | 0=>λ_ _=>.bad
 | n+1=>λen h=>match c en h with
  | .ok true h1=>(match b en h1 with
   | .nx e2 h2=>dP c b n e2 h2
   | .ct e2 h2=>dP c b n e2 h2
   | .bk e2 h2=>.nx e2 h2
   | .rt v h2=>.rt v h2
   | _=>.bad)
  | .ok false h1=>.nx en h1
  | _=>.bad
noncomputable abbrev SI:=En->AH->Out (List AV×Option Nat)
@[simp] noncomputable def cZ (w:Option Nat) (xs:List AV) (h:AH):Bool:=match w with
 | none=>true
 | some n=>match h[n]? with
  | some (.lst ys)=>decide (ys=xs)
  | _=>false
set_option genInjectivity false in
inductive Tg where
 | nm (i:Nat)
 | tup (is:List Nat)
 | nst (i:Nat) (is:List Nat)
@[simp] noncomputable def qC:List Nat->List AV->En->Option En
 | [],[],en=>some en
 | i::is,x::xs,en=>qC is xs (en.set i (some x))
 | _,_,_=>none
@[simp] noncomputable def fw (t:Tg) (v:AV) (en:En):Option En:=match t,v with
 | .nm i,v=>some (en.set i (some v))
 | .tup is,.tup xs=>qC is xs en
 | .nst i is,.tup [y,.tup xs]=>qC is xs (en.set i (some y))
 | _,_=>none
noncomputable def dE (w:Option Nat) (all:List AV) (t:Tg) (b:SS):List AV->SS
 | []=>λen h=>if cZ w all h=true then .nx en h else .bad
 | x::xs=>λen h=>if cZ w all h=true then
   (match fw t x en with
   | some e1=>(match b e1 h with
    | .nx e2 h2=>dE w all t b xs e2 h2
    | .ct e2 h2=>dE w all t b xs e2 h2
    | .bk e2 h2=>.nx e2 h2
    | .rt v h2=>.rt v h2
    | _=>.bad)
   | none=>.bad) else .bad
@[simp] noncomputable def aV (it:SI) (t:Tg) (b:SS):SS:=λen h=>match it en h with
 | .ok (xs,w) h1=>dE w xs t b xs en h1
 | _=>.bad
@[simp] noncomputable def bh (a:SE):SI:=λen h=>(a en h).bind λv h1=>match v with
 | .fl xs=>.ok (xs,none) h1
 | .tup xs=>.ok (xs,none) h1
 | .str z=>.ok (z.cps.toList.map (λc=>.str ⟨#[c]⟩),none) h1
 | .ref n=>match h1[n]? with
  | some (.lst xs)=>.ok (xs,some n) h1
  | _=>.bad
 | _=>.bad
noncomputable def cC (lo:Int):Nat->List AV
 | 0=>[]
 | n+1=>.int lo::cC (lo+1) n
@[simp] noncomputable def dw (a:SE):SI:=λen h=>(a en h).bind λv h1=>match v with
 | .int j=>if j.natAbs<2 ^ 62 then .ok (cC 0 j.toNat,none) h1 else .bad
 | _=>.bad
noncomputable def vW (k:Nat):List AV->List AV
 | []=>[]
 | x::xs=>.tup [.int k,x]::vW (k+1) xs
@[simp] noncomputable def Jq (a:SE):SI:=λen h=>(a en h).bind λv h1=>match v with
 | .fl xs=>.ok (vW 0 xs,none) h1
 | _=>.bad
noncomputable def dh (js:List Nat) (en:En) (w:Option Nat) (all:List AV) (c:SB) (e:SE):List AV->List AV->AH->Out (List AV)
 | [],ys,h=>if cZ w all h=true then .ok ys h else .bad
 | x::xs,ys,h=>if cZ w all h=true/\ys.length<sizeLine then
   (match c (some x::js.map λj=>(en[j]?).join) h with
   | .ok true h1=>(match e (some x::js.map λj=>(en[j]?).join) h1 with
    | .ok v h2=>dh js en w all c e xs (ys++[v]) h2
    | _=>.bad)
   | .ok false h1=>dh js en w all c e xs ys h1
   | _=>.bad) else .bad
@[simp] noncomputable def bU:SB:=λ_ h=>.ok true h
@[simp] noncomputable def dF (js:List Nat) (it:SI) (c:SB) (e:SE):SE:=λen h=>match it en h with
 | .ok (xs,w) h1=>(match dh js en w xs c e xs [] h1 with
  | .ok ys h2=>.ok (.fl ys) h2
  | _=>.bad)
 | _=>.bad
@[simp] noncomputable def ji (js:List Nat) (it:SI) (c:SB) (e:SE):SE:=λen h=>match it en h with
 | .ok (xs,w) h1=>(match dh js en w xs c e xs [] h1 with
  | .ok ys h2=>.ok (.ref h2.length) (h2++[.lst ys])
  | _=>.bad)
 | _=>.bad
@[simp] noncomputable def aD (n m:Nat) (b:SS):Fn:=λargs h =>
 if args.length=n then
  match b (args.map some++List.replicate (m-n) none) h with
  | .nx _ h' => .ok .non h'
  | .rt v h' => .ok v h'
  | .ex c _ h' => .ex c h'
  | _=>.bad
 else .bad
@[simp] noncomputable def aL (c:Nat) (F:Fn) (o:SE) (as:SL):SE:=λen h=>(o en h).bind λx h1=>match x with
 | .ref n=>match h1[n]? with
  | some (.ins c' _)=>if c'=c then (as en h1).bind λxs h2=>F (x::xs) h2 else .bad
  | _=>.bad
 | _=>.bad
@[simp] noncomputable def nk (c k:Nat) (F:Fn) (as:SL):SE:=λen h=>(as en h).bind λxs h1=>match F (.ref h1.length::xs) (h1++[.ins c (List.replicate k none)]) with
 | .ok .non h2=>.ok (.ref h1.length) h2
 | .ex c h2=>.ex c h2
 | _=>.bad
@[simp] noncomputable def sFld (c i:Nat) (o:SE):SE:=λen h=>(o en h).bind λx h1=>match x with
 | .ref n=>match h1[n]? with
  | some (.ins c' fs)=>if c'=c then (match fs[i]? with | some (some v)=>.ok v h1 | _=>.bad) else .bad
  | _=>.bad
 | _=>.bad
@[simp] noncomputable def gZ (c i:Nat) (o v:SE):SS:=λen h=>(v en h).go en λy h1=>(o en h1).go en λx h2=>match x with
 | .ref n=>match h2[n]? with
  | some (.ins c' fs)=>if c'=c then .nx en (h2.set n (.ins c (fs.set i (some y)))) else .bad
  | _=>.bad
 | _=>.bad
@[simp] noncomputable def g7 (c:Nat) (as:SL):SS:=λen h=>(as en h).go en λxs h1=>if xs.length<=1000 then .ex c en h1 else .bad
@[simp] noncomputable def keyOf? (v:AV):Option aH:=match v with
 | .int i=>some (.inl i)
 | .str x=>some (.inr x)
 | _=>none
@[simp] noncomputable def keysOf? : List AV->Option (List aH)
 | []=>some []
 | v::r=>match keyOf? v,keysOf? r with
  | some k,some ks=>some (k::ks)
  | _,_=>none
@[simp] noncomputable def fJ (t:Bool) (v:AV):Bool:=match t,v with
 | false,v=>(keyOf? v).isSome
 | true,.tup xs=>(keysOf? xs).isSome
 | true,_=>false
noncomputable def aU (kvs:List (AV×AV)) (k:AV):Option AV:=(kvs.find? λp=>decide (p.1=k)).map (·.2)
noncomputable def dQ (kvs:List (AV×AV)) (k v:AV):List (AV×AV) :=
 if kvs.any (λp=>decide (p.1=k)) then kvs.map λp=>if p.1=k then (p.1,v) else p else kvs++[(k,v)]
@[simp] noncomputable def aC:F2:=λx y h=>match x,y with
 | .str z,.int i=>match atI z.cps.toList i with
  | some c=>.ok (.str ⟨#[c]⟩) h
  | none=>.bad
 | .tup xs,.int i=>match atI xs i with
  | some v=>.ok v h
  | none=>.bad
 | .fl xs,.int i=>match atI xs i with
  | some v=>.ok v h
  | none=>.bad
 | .ref n,y=>match h[n]? with
  | some (.lst xs)=>match y with
   | .int i=>match atI xs i with
    | some v=>.ok v h
    | none=>.bad
   | _=>.bad
  | some (.dct t kvs)=>if fJ t y then (match aU kvs y with | some v=>.ok v h | none=>.bad) else .bad
  | _=>.bad
 | _,_=>.bad
@[simp] noncomputable def iF (o i v:SE):SS:=λen h=>(v en h).go en λz h1=>(o en h1).go en λx h2=>(i en h2).go en λy h3=>match x with
 | .ref n=>match h3[n]? with
  | some (.lst xs)=>match y with
   | .int k=>match gW xs.length k with
    | some j=>.nx en (h3.set n (.lst (xs.set j z)))
    | none=>.bad
   | _=>.bad
  | some (.dct t kvs)=>if fJ t y=true/\kvs.length<sizeLine then .nx en (h3.set n (.dct t (dQ kvs y z))) else .bad
  | _=>.bad
 | _=>.bad
@[simp] noncomputable def g8 (x y:AV) (h:AH):Option Bool:=match x,y with
 | .str i,.str j=>some (!(Builtin.Str.occurrences j i 0 j.length 1).isEmpty)
 | x,.ref n=>match h[n]? with
  | some (.dct t kvs)=>if fJ t x then some (aU kvs x).isSome else none
  | some (.lst xs)=>match bp 8 h x,bH (bp 8 h) xs with
   | some d,some ds=>some (ds.any λe=>PyData.eqv e d)
   | _,_=>none
  | _=>none
 | x,.fl xs=>match bp 8 h x,bH (bp 8 h) xs with
  | some d,some ds=>some (ds.any λe=>PyData.eqv e d)
  | _,_=>none
 | x,.tup xs=>match bp 8 h x,bH (bp 8 h) xs with
  | some d,some ds=>some (ds.any λe=>PyData.eqv e d)
  | _,_=>none
 | _,_=>none
@[simp] noncomputable def d7:F2:=λx y h=>match g8 x y h with
 | some b=>.ok (.bl b) h
 | none=>.bad
@[simp] noncomputable def gG:F2:=λx y h=>match g8 x y h with
 | some b=>.ok (.bl (!b)) h
 | none=>.bad
@[simp] noncomputable def aP:Fn:=λargs h=>match args with
 | [.str x]=>.ok (.int x.length) h
 | [.tup xs]=>.ok (.int xs.length) h
 | [.fl xs]=>.ok (.int xs.length) h
 | [.ref n]=>match h[n]? with
  | some (.lst xs)=>.ok (.int xs.length) h
  | some (.dct false kvs)=>.ok (.int kvs.length) h
  | _=>.bad
 | _=>.bad
@[simp] noncomputable def jl:Fn:=λargs h=>match args with
 | [.int i]=>.ok (.int (if i<0 then -i else i)) h
 | _=>.bad
@[simp] noncomputable def qD:Fn:=λargs h=>match args with
 | [.int i,.int j]=>.ok (.int (if j > i then j else i)) h
 | _=>.bad
@[simp] noncomputable def kP:List AV->Option (List Bool)
 | []=>some []
 | .bl b::r=>(kP r).map (b :: ·)
 | _::_=>none
@[simp] noncomputable def jm:Fn:=λargs h=>match args with
 | [.fl xs]=>match kP xs with
  | some bs=>.ok (.bl (bs.all id)) h
  | none=>.bad
 | _=>.bad
@[simp] noncomputable def jO:Fn:=λargs h=>match args with
 | [.tup xs]=>.ok (.fl xs) h
 | [.fl xs]=>.ok (.fl xs) h
 | [.ref n]=>match h[n]? with
  | some (.lst xs)=>.ok (.fl xs) h
  | _=>.bad
 | _=>.bad
@[simp] noncomputable def nq (v:AV) (h:AH):Option String:=match v with
 | .non=>some "NoneType"
 | .bl _=>some "bool"
 | .int _=>some "int"
 | .str _=>some "str"
 | .tup _=>some "tuple"
 | .fl _=>some "list"
 | .ref n=>match h[n]? with
  | some (.lst _)=>some "list"
  | some (.dct _ _)=>some "dict"
  | _=>none
 | .exc _=>none
@[simp] noncomputable def dy (t:String) (a:SE):SE:=λen h=>(a en h).bind λv h1=>match nq v h1 with
 | some n=>.ok (.bl (n == t || (t == "int" && n == "bool"))) h1
 | none=>.bad
noncomputable abbrev FM:=AV->List AV->AH->Out AV
@[simp] noncomputable def bo (v:AV) (h:AH):Bool:=(cf v h).isSome
@[simp] noncomputable def nu (v:AV) (_:AH):Bool:=match v with
 | .str _=>true
 | _=>false
@[simp] noncomputable def c7 (chk:AV->AH->Bool) (f:FM) (o:SE) (as:SL):SE:=λen h=>(o en h).bind λx h1=>if chk x h1=true then (as en h1).bind λxs h2=>f x xs h2 else .bad
@[simp] noncomputable def g9 (chk:AV->AH->Bool) (f:FM) (o:SE):SE:=λen h=>(o en h).bind λx h1=>if chk x h1=true then f x [] h1 else .bad
@[simp] noncomputable def bJ:FM:=λx vs h=>match x,vs with
 | .ref n,[y]=>match h[n]? with
  | some (.lst xs)=>if xs.length<sizeLine then .ok .non (h.set n (.lst (xs++[y]))) else .bad
  | _=>.bad
 | _,_=>.bad
@[simp] noncomputable def dR:FM:=λx vs h=>match x,vs with
 | .ref n,[]=>match h[n]? with
  | some (.lst xs)=>match xs[xs.length-1]? with
   | some y=>.ok y (h.set n (.lst xs.dropLast))
   | none=>.bad
  | _=>.bad
 | _,_=>.bad
@[simp] noncomputable def qE:FM:=λx vs h=>match x,vs with
 | .str z,[.str y]=>.ok (.int ((Builtin.Str.occurrences z y 0 z.length (z.length+1)).length:Nat)) h
 | _,_=>.bad
noncomputable def dz {α:Type} (xs:List α) (lo hi:Option Int):List α:=(xs.drop (HT.sIx xs.length 0 lo)).take (HT.sIx xs.length xs.length hi-HT.sIx xs.length 0 lo)
end Sm
namespace Sm
open PySem L2
structure CA (T:Tb) (E:St->XK) (X:Cx):Prop where
 hK:X.K=T.K
 pass:kL (cN X.prog X.w) X E
noncomputable abbrev EN:St->XK:=λ_=>E0
theorem CA.nox {T:Tb} {E:St->XK} {X:Cx} (c:CA T E X):CA T EN X.nox:=⟨c.hK,λ_ _ _ _ _ _ _ h=>by
 obtain ⟨_,_,_,_,_,_,_,_,_,_,_,_,_,_,_,_,q⟩:=h
 exact q.elim⟩
theorem CA.never {T:Tb} {X:Cx} (hK:X.K=T.K):CA T EN X:=⟨hK,λ_ _ _ _ _ _ _ h=>by
 obtain ⟨_,_,_,_,_,_,_,_,_,_,_,_,_,_,_,_,q⟩:=h
 exact q.elim⟩
section
variable {T:Tb} {ι:Ix} {h:AH} {H:Hp}
theorem dG {x:AV} {u:V} {xs:List AV} (S:Sim T ι h H) (r:RV T ι H x u) (e:cf x h=some xs):∃ a us,u = .ref a/\SqL T.K H a us/\RVs T ι H xs us:=by
 unfold cf at e
 cases r with
 | fl n q r=>cases e;exact ⟨_,_,rfl,.inl q,r⟩
 | kfl q r=>cases e;exact ⟨_,_,rfl,.inr q,r⟩
 | @ref k a q =>
  dsimp only at e
  split at e
  ·rename_i ys hk
   cases e
   obtain ⟨u,e1,us,rfl,r⟩:=S.obj k _ a hk q
   exact ⟨a,us,rfl,.inl (.inl e1),r⟩
  ·cases e
 | _=>cases e
theorem jn {u:V} {xs:List AV} (r:RV T ι H (.tup xs) u):∃ a us,u = .ref a/\SqT T.K H a us/\RVs T ι H xs us:=by
 cases r with
 | tup n q r=>exact ⟨_,_,rfl,.of q,r⟩
theorem dB {u:V} {x:Str} (r:RV T ι H (.str x) u):u = .str x/\x.length<=sizeLine/\x.cps.all (· < 0x110000)=true:=by
 cases r with
 | str n o=>exact ⟨rfl,n,o⟩
theorem bq {u:V} {i:Int} (r:RV T ι H (.int i) u):u = .int i:=by cases r;rfl
theorem hE {u:V} {i:Bool} (r:RV T ι H (.bl i) u):u = .bl i:=by cases r;rfl
theorem qF {u:V} (r:RV T ι H .non u):u = .non:=by cases r;rfl
theorem iG {us:List V} {xs:List AV} {p:Addr} {E:XK} {Q:VK} (S:Sim T ι h H) (r:RVs T ι H xs us) (n:H p=none) (q:Post T ι H E (RV T) (.ok (.fl xs) h) Q):Q (.ref p) (aJ H p (.lst us)) :=
 q ι _ _ (S.growNew n) (S.new n) (.fl (S.fresh n) (.inl eP) (r.mono (S.growNew n)))
theorem qG {us:List V} {xs:List AV} {p:Addr} {E:XK} {Q:VK} (S:Sim T ι h H) (r:RVs T ι H xs us) (n:H p=none) (q:Post T ι H E (RV T) (.ok (.tup xs) h) Q):Q (.ref p) (aJ H p (.tup us)) :=
 q ι _ _ (S.growNew n) (S.new n) (.tup (S.fresh n) eP (r.mono (S.growNew n)))
theorem Dh {us:List V} {xs:List AV} {p:Addr} {E:XK} {Q:VK} (S:Sim T ι h H) (r:RVs T ι H xs us) (n:H p=none) (q:Post T ι H E (RV T) (.ok (.ref h.length) (h++[.lst xs])) Q):Q (.ref p) (aJ H p (.lst us)) :=
 q _ _ _ (S.growAdd n) (S.add n ⟨us,rfl,r.mono (S.growAdd n)⟩) (.ref S.addAt)
end
section
variable {T:Tb} {E:St->XK} {X:Cx} {pos:Pos}
theorem ag (i:Nat) {x:Str} {p:Pos} (hN:X.N[i]? = some x:=by rfl) (hv:gy X.env.scope x:=by first | exact Or.inl rfl | exact Or.inr (Or.inl rfl) | exact Or.inr (Or.inr rfl)) (hd:(x == ("__debug__" : Str))=false:=by decide)
  (hcd:(x == ("__classdict__" : Str))=false:=by decide):aI T E X (.Name x p) (ae i) :=
 bW (pv i hN hv hd hcd) λσ H Q=>E6x λι h en S er q=>by
  unfold ae at q
  split at q
  ·rename_i v hv
   obtain ⟨u,e,r⟩:=er.2 i v hv
   exact ⟨u,e,q.now S r⟩
  ·exact q.elim
theorem aB {i j p}:aI T E X (.Constant (.int i) j p) (ah (.int i)):=bW zC λσ H Q=>E6x λι h en S er q=>q.now S (.int i)
theorem fy {i j p}:aI T E X (.Constant (.bool i) j p) (ah (.bl i)):=bW zD λσ H Q=>E6x λι h en S er q=>q.now S (.bl i)
theorem cI {x j p} (n:x.length<=sizeLine:=by decide +kernel) (o:x.cps.all (· < 0x110000)=true:=by decide +kernel):aI T E X (.Constant (.str x) j p) (ah (.str x)):=bW zE λσ H Q=>E6x λι h en S er q=>q.now S (.str n o)
theorem Di {x:Str} {i:Int} {t:Tok} {p:Pos} (hg:Gl X x) (hm:X.mg x=some (.int i t)) (hd:(x == ("__debug__" : Str))=false:=by decide):aI T E X (.Name x p) (ah (.int i)) :=
 bW (zF (v:=.int i) hg hm ⟨t,rfl⟩ hd) λσ H Q=>E6x λι h en S er q=>q.now S (.int i)
noncomputable def jP (T:Tb) (f:F2) (r:R2):Prop:=∀ (ι:Ix) (h:AH) (H:Hp) (x y:AV) (u w:V) (E:XK) (Q:VK),Sim T ι h H->RV T ι H x u->RV T ι H y w->Post T ι H E (RV T) (f x y h) Q->r u w H Q
noncomputable def Op (T:Tb) (X:Cx) (g:Value->Value->Sem Value) (f:F2):Prop:=∃ r,OpR X g r/\jP T f r
variable {a b c:Expr} {sa sb sc:SE}
theorem two {f:F2} {r:R2} (hs:jP T f r) {σ:St} {H:Hp} {Q:VK} (q:tE T E (ai f sa sb) σ H Q):jL r (tE T E sa) (tE T E sb) σ H Q:=by
 obtain ⟨ι,h,en,S,er,q⟩:=q
 refine ⟨ι,h,en,S,er,q.bind λx h1 ι1 H1 u g1 S1 r1 q1=>⟨ι1,h1,en,S1,er.mono g1,q1.bind λy h2 ι2 H2 w g2 S2 r2 q2=>?_⟩⟩
 exact hs ι2 h2 H2 x y u w _ Q S2 (r1.mono g2) r2 q2
theorem aY {op:Operator} {f:F2} (ho:Op T X (binaryOp op) f) (ha:aI T E X a sa) (hb:aI T E X b sb):aI T E X (.BinOp a op b pos) (ai f sa sb):=by
 obtain ⟨r,h1,h2⟩:=ho
 exact bW (Al h1 ha hb) λσ H Q q=>two h2 q
theorem Dj {i j:Str} (hi:i.cps.all (· < 0x110000)=true) (hj:j.cps.all (· < 0x110000)=true):(i++j).cps.all (· < 0x110000)=true:=by
 show (i.cps++j.cps).all _=true
 rw [Array.all_append,hi,hj];rfl
theorem Dk (i j:Str):(i++j).length=i.length+j.length:=by
 show (i.cps++j.cps).size=_
 rw [LG];rfl
theorem cJ (hK:X.K=T.K):Op T X (binaryOp .Add) aA:=by
 refine ⟨_,op_add.or (zgs.or (zjt.or CL)),λι h H x y u w E Q S rx ry p=>?_⟩
 unfold aA at p
 split at p
 ·rw [bq rx,bq ry]
  exact .inl ⟨_,_,rfl,rfl,p.now S (.int _)⟩
 ·split at p
  ·rename_i hz
   obtain ⟨rfl,_,o1⟩:=dB rx
   obtain ⟨rfl,_,o2⟩:=dB ry
   exact .inr (.inl ⟨_,_,rfl,rfl,hz,p.now S (.str (by rw [Dk];exact hz) (Dj o1 o2))⟩)
  ·exact p.elim
 ·split at p
  ·rename_i hz
   obtain ⟨a,us,rfl,q1,r1⟩:=jn rx
   obtain ⟨b,ws,rfl,q2,r2⟩:=jn ry
   refine .inr (.inr (.inl ⟨a,b,us,ws,rfl,rfl,hK▸q1,hK▸q2,λz=>hz.1 ?_,by rw [<- r1.length,<- r2.length];exact hz.2,λz=>?_,λ_ l n=>qG S (r1.append r2) n p⟩))
   ·subst z;cases r1;rfl
   ·subst z;cases r2
    rw [Ln] at p
    exact p.now S rx
  ·exact p.elim
 ·split at p
  ·split at p
   ·rename_i e1 e2 hz
    obtain ⟨a,us,rfl,q1,r1⟩:=dG S rx e1
    obtain ⟨b,ws,rfl,q2,r2⟩:=dG S ry e2
    exact .inr (.inr (.inr ⟨a,b,us,ws,rfl,rfl,hK▸q1,hK▸q2,by rw [<- r1.length,<- r2.length];exact hz,λl n=>iG S (r1.append r2) n p⟩))
   ·exact p.elim
  ·exact p.elim
theorem jQ:Op T X (binaryOp .Sub) dO:=by
 refine ⟨_,An,λι h H x y u w E Q S rx ry p=>?_⟩
 unfold dO at p
 split at p
 ·rw [bq rx,bq ry]
  exact ⟨_,_,rfl,rfl,p.now S (.int _)⟩
 ·exact p.elim
theorem vX {i:Int} (h:i.natAbs<2 ^ 4000):Builtin.Int.intBits i<=2 ^ 20:=by
 unfold Builtin.Int.intBits
 split
 ·exact Ki _
 ·rename_i hz
  have h0:i.natAbs≠0:=λz=>hz (by simpa using z)
  have:i.natAbs.log2<4000:=(Nat.log2_lt h0).mpr h
  exact JI (by lia:i.natAbs.log2+1<=4001) (by decide)
theorem hG:Op T X (binaryOp .Mult) bx:=by
 refine ⟨_,Cf,λι h H x y u w E Q S rx ry p=>?_⟩
 unfold bx at p
 split at p
 ·split at p
  ·rename_i hz
   rw [bq rx,bq ry]
   exact ⟨_,_,rfl,rfl,hz.elim (λz=>CMul.ok (z.elim (λz=>.inl ⟨by lia,by lia⟩) (λz=>.inr ⟨by lia,by lia⟩))) (λz=>.of_bits (vX z.1) (vX z.2)),p.now S (.int _)⟩
  ·exact p.elim
 ·exact p.elim
theorem vY:Op T X (binaryOp .FloorDiv) fv:=by
 refine ⟨_,Ce,λι h H x y u w E Q S rx ry p=>?_⟩
 unfold fv at p
 split at p
 ·split at p
  ·rename_i hz
   rw [bq rx,bq ry]
   exact ⟨_,_,rfl,rfl,⟨hz.1,by lia⟩,p.now S (.int _)⟩
  ·exact p.elim
 ·exact p.elim
theorem jo:Op T X (binaryOp .Mod) cG:=by
 refine ⟨_,Ao,λι h H x y u w E Q S rx ry p=>?_⟩
 unfold cG at p
 split at p
 ·split at p
  ·rename_i hz
   rw [bq rx,bq ry]
   exact ⟨_,_,rfl,rfl,hz,p.now S (.int _)⟩
  ·exact p.elim
 ·exact p.elim
theorem jR:Op T X (binaryOp .Pow) cH:=by
 refine ⟨_,Ap,λι h H x y u w E Q S rx ry p=>?_⟩
 unfold cH at p
 split at p
 ·split at p
  ·rename_i hz
   rw [bq rx,bq ry]
   exact ⟨_,_,rfl,rfl,hz,p.now S (.int _)⟩
  ·exact p.elim
 ·exact p.elim
theorem jS (ha:aI T E X a sa):aI T E X (.UnaryOp .USub a pos) (cW cP sa) :=
 bW (Am Ar ha) λσ H Q=>E6x λι h en S er q=>⟨ι,h,en,S,er,q.bind λx h1 ι1 H1 u g1 S1 r1 q1=>by
  unfold cP at q1
  split at q1
  ·rw [bq r1]
   exact ⟨_,rfl,q1.now S1 (.int _)⟩
  ·exact q1.elim⟩
theorem Dl {ds:List PyData} (h:∀ d∈ds,d.canLay0=true):PyData.canLayAll0 ds=true:=by
 induction ds with
 | nil=>rfl
 | cons d r ih=>show (d.canLay0 && PyData.canLayAll0 r)=true;rw [h d (by simp),ih λe he=>h e (by simp [he])];rfl
theorem Dm {n:Nat} {ds:List PyData} (h:∀ d∈ds,d.depth<=n):PyData.depthAll ds<=n:=by
 induction ds with
 | nil=>exact Ki _
 | cons d r ih=>show max d.depth (PyData.depthAll r)<=n;have:=h d (by simp);have:=ih λe he=>h e (by simp [he]);lia
section
variable {ι:Ix} {h:AH} {H:Hp}
theorem kQ {f:AV->Option PyData} {n:Nat} (hf:∀ {x:AV} {u:V} {d:PyData},RV T ι H x u->f x=some d->DaV T.K H u d/\d.canLay0=true/\d.depth<=n) :
  ∀ {xs:List AV} {us:List V} {ds:List PyData},RVs T ι H xs us->bH f xs=some ds->DaVs T.K H us ds/\∀ d∈ds,d.canLay0=true/\d.depth<=n
 | _,_,ds,.nil,e=>by cases e;exact ⟨.nil,by simp⟩
 | _,_,ds,.cons (x:=x) (xs:=xs) r rs,e=>by
  unfold bH at e
  split at e
  ·rename_i d ds' e1 e2
   cases e
   obtain ⟨q1,q2⟩:=hf r e1
   obtain ⟨q3,q4⟩:=kQ hf rs e2
   refine ⟨.cons q1 q3,λd hd=>?_⟩
   rcases J4.mp hd with rfl | hd
   ·exact q2
   ·exact q4 d hd
  ·cases e
theorem hJ (S:Sim T ι h H):∀ (n:Nat) {x:AV} {u:V} {d:PyData},RV T ι H x u->bp n h x=some d->DaV T.K H u d/\d.canLay0=true/\d.depth<=n
 | 0,x,u,d,r,e=>by
  unfold bp at e
  cases r with
  | non=>cases e;exact ⟨.non,rfl,JC _⟩
  | bl b=>cases e;exact ⟨.bl b,rfl,JC _⟩
  | int b=>cases e;exact ⟨.int b,rfl,JC _⟩
  | str a b=>cases e;exact ⟨.str _,b,JC _⟩
  | _=>cases e
 | n+1,x,u,d,r,e=>by
  unfold bp at e
  have many:∀ {xs:List AV} {us:List V} {ds:List PyData},RVs T ι H xs us->bH (bp n h) xs=some ds->DaVs T.K H us ds/\∀ d∈ds,d.canLay0=true/\d.depth<=n:=λr e=>kQ (λr e=>hJ S n r e) r e
  have fin:∀ {ds:List PyData},(∀ d∈ds,d.canLay0=true/\d.depth<=n)->PyData.canLayAll0 ds=true/\PyData.depthAll ds+1<=n+1:=λq=>⟨Dl λd hd=>(q d hd).1,Nat.succ_le_succ (Dm λd hd=>(q d hd).2)⟩
  cases r with
  | non=>cases e;exact ⟨.non,rfl,Ki _⟩
  | bl b=>cases e;exact ⟨.bl b,rfl,Ki _⟩
  | int b=>cases e;exact ⟨.int b,rfl,Ki _⟩
  | str a b=>cases e;exact ⟨.str _,b,Ki _⟩
  | tup k q r =>
   obtain ⟨ds,e1,rfl⟩:=J5.mp e
   obtain ⟨q1,q2⟩:=many r e1
   exact ⟨.tup (.of q) q1,fin q2⟩
  | fl k q r =>
   obtain ⟨ds,e1,rfl⟩:=J5.mp e
   obtain ⟨q1,q2⟩:=many r e1
   exact ⟨.lst (.inl q) q1,fin q2⟩
  | kfl q r =>
   obtain ⟨ds,e1,rfl⟩:=J5.mp e
   obtain ⟨q1,q2⟩:=many r e1
   exact ⟨.lst (.inr q) q1,fin q2⟩
  | @ref k a q =>
   dsimp only at e
   split at e
   ·rename_i ys hk
    obtain ⟨ds,e1,rfl⟩:=J5.mp e
    obtain ⟨u,e2,us,rfl,r⟩:=S.obj k _ a hk q
    obtain ⟨q1,q2⟩:=many r e1
    exact ⟨.lst (.inl (.inl e2)) q1,fin q2⟩
   ·cases e
  | exc _ _ _=>cases e
end
theorem Do {i j:Int}:decide (V.int i=V.int j)=decide (i=j):=by rw [Lx];simp
theorem Dp {i j:Str}:decide (V.str i=V.str j)=decide (i=j):=by rw [Lx];simp
theorem Dq {i j:Bool}:decide (V.bl i=V.bl j)=decide (i=j):=by rw [Lx];simp
theorem vZ {r:R2} {neg:Bool} (ho:OpR X g r) (h1:∀ x y H Q,(i9 x y=true/\Q (.bl (if neg then !decide (x=y) else decide (x=y))) H)->r x y H Q)
  (h2:∀ x y H Q,(∃ d e,DaV T.K H x d/\DaV T.K H y e/\d.canLay0=true/\e.canLay0=true/\d.depth<=60/\Q (.bl (if neg then !PyData.eqv d e else PyData.eqv d e)) H)->r x y H Q) :
  jP T (λx y h=>match gY x y h with | some b=>.ok (.bl (if neg then !b else b)) h | none=>.bad) r:=by
 intro ι h H x y u w E Q S rx ry p
 dsimp only at p
 cases hb:gY x y h with
 | none=>rw [hb] at p;exact p.elim
 | some b =>
  rw [hb] at p
  dsimp only at p
  unfold gY at hb
  split at hb
  ·cases hb
   rw [bq rx,bq ry]
   exact h1 _ _ _ _ ⟨rfl,by rw [Do];exact p.now S (.bl _)⟩
  ·cases hb
   obtain ⟨rfl,_⟩:=dB rx
   obtain ⟨rfl,_⟩:=dB ry
   exact h1 _ _ _ _ ⟨rfl,by rw [Dp];exact p.now S (.bl _)⟩
  ·cases hb
   rw [hE rx,hE ry]
   exact h1 _ _ _ _ ⟨rfl,by rw [Dq];exact p.now S (.bl _)⟩
  ·cases hb
   rw [qF rx,qF ry]
   exact h1 _ _ _ _ ⟨rfl,by rw [show decide (V.non=V.non)=true from rfl];exact p.now S (.bl _)⟩
  ·split at hb
   ·rename_i d e e1 e2
    cases hb
    obtain ⟨q1,q2,q3⟩:=hJ S 8 rx e1
    obtain ⟨q4,q5,q6⟩:=hJ S 8 ry e2
    exact h2 _ _ _ _ ⟨d,e,q1,q4,q2,q5,by lia,p.now S (.bl _)⟩
   ·cases hb
theorem bX (hK:X.K=T.K) (hu:X.A.units+64<cLine):Op T X (compareOp .Eq) aS :=
 ⟨_,op_eq.or (vM hu),vZ (neg:=false) (op_eq.or (vM hu)) (λ_ _ _ _ q=>.inl q) λ_ _ _ _ q=>.inr (hK▸q)⟩
theorem eE (hK:X.K=T.K) (hu:X.A.units+64<cLine):Op T X (compareOp .NotEq) cB :=
 ⟨_,op_ne.or (vN hu),vZ (neg:=true) (op_ne.or (vN hu)) (λ_ _ _ _ q=>.inl q) λ_ _ _ _ q=>.inr (hK▸q)⟩
theorem jq:Op T X (compareOp .Lt) kM:=by
 refine ⟨_,op_lt.or Ax,λι h H x y u w E Q S rx ry p=>?_⟩
 unfold kM at p
 split at p
 ·rw [bq rx,bq ry]
  exact .inl ⟨_,_,rfl,rfl,p.now S (.bl _)⟩
 ·obtain ⟨rfl,_⟩:=dB rx
  obtain ⟨rfl,_⟩:=dB ry
  exact .inr ⟨_,_,rfl,rfl,p.now S (.bl _)⟩
 ·exact p.elim
theorem dC:Op T X (compareOp .LtE) fX:=by
 refine ⟨_,op_le.or Cb,λι h H x y u w E Q S rx ry p=>?_⟩
 unfold fX at p
 split at p
 ·rw [bq rx,bq ry]
  exact .inl ⟨_,_,rfl,rfl,p.now S (.bl _)⟩
 ·obtain ⟨rfl,_⟩:=dB rx
  obtain ⟨rfl,_⟩:=dB ry
  exact .inr ⟨_,_,rfl,rfl,p.now S (.bl _)⟩
 ·exact p.elim
theorem fz:Op T X (compareOp .Gt) iE:=by
 refine ⟨_,Av,λι h H x y u w E Q S rx ry p=>?_⟩
 unfold iE at p
 split at p
 ·rw [bq rx,bq ry]
  exact ⟨_,_,rfl,rfl,p.now S (.bl _)⟩
 ·exact p.elim
theorem qH:Op T X (compareOp .GtE) qB:=by
 refine ⟨_,Aw,λι h H x y u w E Q S rx ry p=>?_⟩
 unfold qB at p
 split at p
 ·rw [bq rx,bq ry]
  exact ⟨_,_,rfl,rfl,p.now S (.bl _)⟩
 ·exact p.elim
theorem nv {op:CmpOp} {f:F2} (ho:Op T X (compareOp op) f) (ha:aI T E X a sa) (hb:aI T E X b sb) (hm:behindInMarks op b=false):aI T E X (.Compare a [op] [b] pos) (ai f sa sb):=by
 obtain ⟨r,h1,h2⟩:=ho
 exact bW (Ay h1 ha hb hm) λσ H Q q=>two h2 q
theorem bK {op:CmpOp} {f:F2} (ho:Op T X (compareOp op) f) (ha:aI T E X a sa) (hb:aI T E X b sb) (hm:behindInMarks op b=false):gE T E X (.Compare a [op] [b] pos) (aZ (ai f sa sb)):=by
 obtain ⟨r,h1,h2⟩:=ho
 refine qz (AA h1 ha hb hm) λσ H Q q=>two (E:=E) (Q:=λx H' => ∃ k,x=V.bl k/\Q k H') h2 ?_
 obtain ⟨ι,h,en,S,er,q⟩:=q
 refine ⟨ι,h,en,S,er,q.bind λx h1 ι1 H1 u g1 S1 r1 q1=>?_⟩
 split at q1
 ·rw [hE r1]
  exact ⟨_,rfl,q1.now S1 rfl⟩
 ·exact q1.elim
theorem Dr {f f':F2} {r r':R2} (hs:jP T f r) (hs':jP T f' r') {σ:St} {H:Hp} {Q:VK} (q:tE T E (kO f f' sa sb sc) σ H Q):uX r r' (tE T E sa) (tE T E sb) (tE T E sc) σ H Q:=by
 obtain ⟨ι,h,en,S,er,q⟩:=q
 refine ⟨ι,h,en,S,er,q.bind λx h1 ι1 H1 u g1 S1 r1 q1=>⟨ι1,h1,en,S1,er.mono g1,q1.bind λy h2 ι2 H2 w g2 S2 r2 q2=>?_⟩⟩
 refine hs ι2 h2 H2 x y u w (E σ) _ S2 (r1.mono g2) r2 (q2.bind λz h3 ι3 H3 k g3 S3 r3 q3=>?_)
 split at q3
 ·rename_i kk
  rw [hE r3]
  refine ⟨kk,rfl,?_⟩
  by_cases hkk:kk=true
  ·rw [JG hkk] at q3 ⊢
   refine ⟨ι3,h3,en,S3,er.mono (g1.trans (g2.trans g3)),q3.bind λv h4 ι4 H4 j g4 S4 r4 q4=>?_⟩
   exact hs' ι4 h4 H4 y v w j _ Q S4 (r2.mono (g3.trans g4)) r4 q4
  ·rw [JF hkk] at q3 ⊢
   exact q3.now S3 (.bl _)
 ·exact q3.elim
theorem qI {op op':CmpOp} {f f':F2} (ho:Op T X (compareOp op) f) (ho':Op T X (compareOp op') f') (ha:aI T E X a sa) (hb:aI T E X b sb) (hc:aI T E X c sc) (hm:lastMarks [op,op'] [b,c]=false:=by with_unfolding_all rfl) :
  aI T E X (.Compare a [op,op'] [b,c] pos) (kO f f' sa sb sc):=by
 obtain ⟨r,h1,h2⟩:=ho
 obtain ⟨r',h1',h2'⟩:=ho'
 exact bW (AB h1 h1' ha hb hc hm) λσ H Q q=>Dr h2 h2' q
theorem Ds {ι:Ix} {h:AH} {H:Hp} {v:AV} {u:V} {k:Bool} (S:Sim T ι h H) (r:RV T ι H v u) (e:jh v h=some k):ja T.K u H k:=by
 unfold jh at e
 cases r with
 | non=>cases e;rfl
 | bl b=>cases e;rfl
 | int b=>cases e;rfl
 | str n o=>cases e;exact ⟨n,rfl⟩
 | tup n q r=>cases e;exact .inr (.inl ⟨_,.of q,by cases r<;>rfl⟩)
 | fl n q r=>cases e;exact .inl ⟨_,.inl q,by cases r<;>rfl⟩
 | kfl q r=>cases e;exact .inl ⟨_,.inr q,by cases r<;>rfl⟩
 | @ref n a q =>
  dsimp only at e
  split at e
  ·rename_i xs hk
   cases e
   obtain ⟨u,e1,us,rfl,r⟩:=S.obj n _ a hk q
   exact .inl ⟨us,.inl (.inl e1),by cases r<;>rfl⟩
  ·rename_i xs hk
   cases e
   obtain ⟨u,e1,us,rfl,r⟩:=S.obj n _ a hk q
   exact .inr (.inr ⟨us,e1,by cases r<;>rfl⟩)
  ·cases e
 | exc _ _ _=>cases e
theorem hU (hK:X.K=T.K) (ha:aI T E X a sa) (he:∀ whole,isTrue a X.env whole=(do let v <- whole;standAt a.pos;holding [v] (truthy v)):=by intro _;rfl):gE T E X a (gF sa) :=
 qz (AE ha he) λσ H Q=>E6x λι h en S er q=>⟨ι,h,en,S,er,q.bind λx h1 ι1 H1 u g1 S1 r1 q1=>by
  split at q1
  ·rename_i b hb
   exact ⟨b,hK▸Ds S1 r1 hb,q1.now S1 rfl⟩
  ·exact q1.elim⟩
variable {ca cb:SB} {rest:List Expr}
theorem iH (ha:gE T E X a ca):gE T E X (.UnaryOp .Not a pos) (du ca) :=
 qz (zK ha) λσ H Q=>E6x λι h en S er q=>⟨ι,h,en,S,er,q.bind λx h1 ι1 H1 u g1 S1 r1 q1=>by subst r1;exact q1.now S1 rfl⟩
theorem kR (h:ng T E X a ca):gE T E X a ca:=PW.pt h
theorem v5 (ha:gE T E X a ca):ng T E X (.BoolOp .Or [a] pos) ca:=zI ha
theorem qJ (ha:gE T E X a ca) (hb:ng T E X (.BoolOp .Or (b::rest) pos) cb):ng T E X (.BoolOp .Or (a::b::rest) pos) (nh ca cb) :=
 Dg (zJ ha hb) λσ H Q=>E6x λι h en S er q=>⟨ι,h,en,S,er,q.bind λx h1 ι1 H1 u g1 S1 r1 q1=>by
  subst r1
  by_cases hx:x=true
  ·rw [JG hx] at q1 ⊢
   exact q1.now S1 rfl
  ·rw [JF hx] at q1 ⊢
   exact ⟨ι1,h1,en,S1,er.mono g1,q1⟩⟩
theorem nA {op} (h:aI T E X a sa):aI T E X (.BoolOp op [a] pos) sa:=zN h
theorem qK (ha:aI T E X a sa) (hb:aI T E X (.BoolOp .And (b::rest) pos) sb):aI T E X (.BoolOp .And (a::b::rest) pos) (nj sa sb) :=
 bW (zO ha hb) λσ H Q=>E6x λι h en S er q=>⟨ι,h,en,S,er,q.bind λx h1 ι1 H1 u g1 S1 r1 q1=>by
  split at q1
  ·rename_i kk
   rw [hE r1]
   refine ⟨kk,rfl,?_⟩
   by_cases hkk:kk=true
   ·rw [JG hkk] at q1 ⊢
    exact ⟨ι1,h1,en,S1,er.mono g1,q1⟩
   ·rw [JF hkk] at q1 ⊢
    exact q1.now S1 (.bl _)
  ·exact q1.elim⟩
theorem qL (ha:aI T E X a sa) (hb:aI T E X (.BoolOp .Or (b::rest) pos) sb):aI T E X (.BoolOp .Or (a::b::rest) pos) (kN sa sb) :=
 bW (zP ha hb) λσ H Q=>E6x λι h en S er q=>⟨ι,h,en,S,er,q.bind λx h1 ι1 H1 u g1 S1 r1 q1=>by
  split at q1
  ·rename_i kk
   rw [hE r1]
   refine ⟨kk,rfl,?_⟩
   by_cases hkk:kk=true
   ·rw [JG hkk] at q1 ⊢
    exact q1.now S1 (.bl _)
   ·rw [JF hkk] at q1 ⊢
    exact ⟨ι1,h1,en,S1,er.mono g1,q1⟩
  ·exact q1.elim⟩
theorem Dt (ha:aI T E X a sa):aI T E X (.UnaryOp .Not a pos) (vV sa) :=
 bW (zQ ha) λσ H Q=>E6x λι h en S er q=>⟨ι,h,en,S,er,q.bind λx h1 ι1 H1 u g1 S1 r1 q1=>by
  split at q1
  ·rw [hE r1]
   exact ⟨_,rfl,q1.now S1 (.bl _)⟩
  ·exact q1.elim⟩
variable {es:List Expr} {as:SL}
theorem au:fH T E X [] af:=vT u7 λσ H Q=>E6x λι h en S er q=>q.now S .nil
theorem ak (ha:aI T E X a sa) (hr:fH T E X es as) (hs:starEach (a::es) X.env=(false,eval a X.env)::starEach es X.env:=by rfl):fH T E X (a::es) (aj sa as) :=
 vT (pT ha hr hs) λσ H Q=>E6x λι h en S er q=>⟨ι,h,en,S,er,q.bind λx h1 ι1 H1 u g1 S1 r1 q1=>⟨ι1,h1,en,S1,er.mono g1,q1.bind λxs h2 ι2 H2 us g2 S2 r2 q2=>q2.now S2 (.cons (r1.mono g2) r2)⟩⟩
theorem v7 {k} (h:fH T E X es as):aI T E X (.Tuple es k pos) (je as) :=
 bW (A1 h) λσ H Q=>E6x λι h en S er q=>⟨ι,h,en,S,er,q.bind λxs h1 ι1 H1 us g1 S1 r1 q1=>by
  split at q1
  ·rename_i hl
   exact ⟨by rw [<- r1.length];exact JI hl (by decide),λp n=>qG S1 r1 n q1⟩
  ·exact q1.elim⟩
theorem hV (h:fH T E X es as):aI T E X (.List es pos) (bM as) :=
 bW (u9 h) λσ H Q=>E6x λι h en S er q=>⟨ι,h,en,S,er,q.bind λxs h1 ι1 H1 us g1 S1 r1 q1=>by
  split at q1
  ·rename_i hl
   exact ⟨by rw [<- r1.length];exact JI hl (by decide),λp n=>iG S1 r1 n q1⟩
  ·exact q1.elim⟩
theorem fK (h:fH T E X es as):aI T E X (.List es pos) (df as) :=
 bW (u9 h) λσ H Q=>E6x λι h en S er q=>⟨ι,h,en,S,er,q.bind λxs h1 ι1 H1 us g1 S1 r1 q1=>by
  split at q1
  ·rename_i hl
   exact ⟨by rw [<- r1.length];exact JI hl (by decide),λp n=>Dh S1 r1 n q1⟩
  ·exact q1.elim⟩
theorem Du:aI T E X (.Dict [] [] pos) (jg false) :=
 bW BQ λσ H Q ⟨ι,h,en,S,er,q⟩ p n=>q _ _ _ (S.growAdd n) (S.add n ⟨[],rfl,.nil⟩) (.ref S.addAt)
theorem Dv:aI T E X (.Dict [] [] pos) (jg true) :=
 bW BR λσ H Q ⟨ι,h,en,S,er,q⟩ p n=>q _ _ _ (S.growAdd n) (S.add n ⟨[],rfl,.nil⟩) (.ref S.addAt)
end
end Sm
namespace Sm
open PySem L2
section
variable {T:Tb} {E:St->XK} {X:Cx} {pos:Pos} {a b:Expr} {sa sb:SE} {ca:SB} {st:Stmt} {sts ss1 ss2:List Stmt} {s1 s2:SS}
theorem bI:cO T E X [] bG:=vU zS λD σ H=>E6x λι h en S er q=>q ι H σ S.refl S er
theorem ax (h1:eQ T E X st s1) (h2:cO T E X sts s2):cO T E X (st::sts) (ao s1 s2) :=
 vU (zT h1 h2) λD σ H=>E6x λι h en S er q=>by
  refine ⟨ι,h,en,S,er,?_⟩
  unfold ao at q
  cases e:s1 en h with
  | nx e1 h1 =>
   rw [e] at q
   exact λι' H' σ' g S' er' => ⟨ι',h1,e1,S',er',q.shift g⟩
  | rt v h1=>rw [e] at q;exact q
  | bk e1 h1=>rw [e] at q;exact q
  | ct e1 h1=>rw [e] at q;exact q
  | ex c e1 h1=>rw [e] at q;exact q
  | bad=>rw [e] at q;exact q
theorem aF (h1:eQ T E X st s1):cO T E X [st] s1:=zU h1
theorem bV (ha:aI T E X a sa) (hs:swapsWith a none pos.line X.env=pure false:=by rfl):eQ T E X (.Expr a pos) (bO sa) :=
 fI (zW ha hs) λD σ H=>E6x λι h en S er q=>⟨ι,h,en,S,er,q.go er λv h1 ι1 H1 u g1 S1 r1 q1=>q1 ι1 H1 σ S1.refl S1 (er.mono g1)⟩
theorem aT (ha:aI T E X a sa):eQ T E X (.Return (some a) pos) (az sa) :=
 fI (zX ha) λD σ H=>E6x λι h en S er q=>⟨ι,h,en,S,er,q.go er λv h1 ι1 H1 u g1 S1 r1 q1=>q1 ι1 H1 u S1.refl S1 r1⟩
theorem aK (hc:gE T E X a ca) (h1:cO T E X ss1 s1) (h2:cO T E X ss2 s2):eQ T E X (.If a ss1 ss2 pos) (bE ca s1 s2) :=
 fI (zY hc h1 h2) λD σ H=>E6x λι h en S er q=>⟨ι,h,en,S,er,q.go er λx h1 ι1 H1 u g1 S1 r1 q1=>by
  subst r1
  by_cases hx:x=true
  ·rw [JG hx] at q1 ⊢
   exact ⟨ι1,h1,en,S1,er.mono g1,q1⟩
  ·rw [JF hx] at q1 ⊢
   exact ⟨ι1,h1,en,S1,er.mono g1,q1⟩⟩
theorem qM {σ:St} {H:Hp} {D:cU} {i:Nat} (q:tS T E (aw i sa) D σ H):gS (tE T E sa) (jK i) D σ H:=by
 obtain ⟨ι,h,en,S,er,q⟩:=q
 exact ⟨ι,h,en,S,er,q.go er λv h1 ι1 H1 u g1 S1 r1 q1=>q1 ι1 H1 _ S1.refl S1 ((er.mono g1).set r1 i)⟩
theorem aN {i:Nat} {x:Str} {p':Pos} (hN:X.N.Nodup) (ha:aI T E X a sa) (hi:X.N[i]? = some x:=by rfl) (hx:jJ X.env.scope x:=by first | exact Or.inl rfl | exact Or.inr rfl) (hs:swapsWith a (some (.Name x p')) pos.line X.env=pure false:=by rfl)
  (hf:X.fn x=true\/X.env.scope.names.lookup x=some .local:=by first | exact .inl rfl | exact .inr rfl | assumption):eQ T E X (.Assign [.Name x p'] a pos) (aw i sa) :=
 fI (z8 hN hi hx ha hs hf) λD σ H q=>qM q
theorem v8 (n:Nat) (hc:gE T EN X.nox a ca) (hb:cO T EN X.nox sts s1):eQ T E X (.While a sts [] pos) (dP ca s1 n) :=
 fI (qA (Aa PassesOwn.never hc hb)) λD σ H=>E6x λι h en S er q=>by
  refine ⟨λm σ H=>∃ ι h en,Sim T ι h H/\ER T ι H en σ/\PostS T ι H E (dP ca s1 m en h) D,⟨n,ι,h,en,S,er,q⟩,?_⟩
  rintro m σ H ⟨ι,h,en,S,er,q⟩
  cases m with
  | zero=>exact (show False from q).elim
  | succ m =>
   unfold dP at q
   refine ⟨ι,h,en,S,er,?_⟩
   cases e:ca en h with
   | bad=>rw [e] at q;exact q
   | ex c h1=>rw [e] at q;exact (show False from q).elim
   | ok x h1 =>
    rw [e] at q
    intro ι1 H1 u g1 S1 r1
    subst r1
    have q1:=PostS.shift q g1
    cases x with
    | true =>
     rw [JG rfl]
     refine ⟨λσ H=>∃ ι h en,Sim T ι h H/\ER T ι H en σ/\PostS T ι H E (dP ca s1 m en h) D,λσ' H' w=>⟨m,Mz m,w⟩,ι1,h1,en,S1,er.mono g1,?_⟩
     dsimp only at q1
     cases e2:s1 en h1 with
     | nx e3 h3=>rw [e2] at q1;exact λι2 H2 σ2 g2 S2 er2=>⟨ι2,h3,e3,S2,er2,q1.shift g2⟩
     | ct e3 h3=>rw [e2] at q1;exact λι2 H2 σ2 g2 S2 er2=>⟨ι2,h3,e3,S2,er2,q1.shift g2⟩
     | bk e3 h3=>rw [e2] at q1;exact q1
     | rt v h3=>rw [e2] at q1;exact q1
     | ex c e3 h3=>rw [e2] at q1;exact (show False from q1).elim
     | bad=>rw [e2] at q1;exact q1
    | false =>
     rw [JF JT]
     exact q1 ι1 H1 σ S1.refl S1 (er.mono g1)
noncomputable def qN (T:Tb) (X:Cx) (tg:Expr) (t:Tg):Prop:=∃ g,PG X tg g/\∀ {ι:Ix} {h:AH} {H:Hp} {en e:En} {σ:St} {v:AV} {u:V} {Q:St->Hp->Prop},Sim T ι h H->ER T ι H en σ->RV T ι H v u->fw t v en=some e ->
 (∀ σ',ER T ι H e σ'->Q σ' H)->g u σ H Q
theorem fY {i:Nat} {x:Str} (hN:X.N.Nodup) (hi:X.N[i]? = some x:=by rfl) (hx:jJ X.env.scope x:=by first | exact Or.inl rfl | exact Or.inr rfl) (hf:X.fn x=true\/X.env.scope.names.lookup x=some .local:=by first | exact .inl rfl | exact .inr rfl | assumption) :
  qN T X (.Name x pos) (.nm i):=⟨_,uQ hN hi hx hf,λS er r e k=>by cases e;exact k _ (er.set r i)⟩
structure nB (T:Tb) (J:It) (ι:Ix) (H:Hp) (ys:List AV) (L:AH->Bool):Prop where
 go:∀ (i:Nat) (ι':Ix) (h':AH) (H':Hp) (x:AV),Ext ι H ι' H'->Sim T ι' h' H'->L h'=true->ys[i]? = some x->J.go i H'/\∀ u H2,J.yld i H' u H2->Grow ι' H' ι' H2/\Sim T ι' h' H2/\RV T ι' H2 x u
 stop:∀ (i:Nat) (ι':Ix) (h':AH) (H':Hp),Ext ι H ι' H'->Sim T ι' h' H'->L h'=true->ys.length<=i->J.stop i H'
noncomputable abbrev gH (T:Tb) (J:It) (ι:Ix) (H:Hp) (xs:List AV) (w:Option Nat):Prop:=nB T J ι H xs (cZ w xs)
noncomputable def tI (T:Tb) (it:SI):TI:=λσ H R=>∃ ι h en,Sim T ι h H/\ER T ι H en σ/\match it en h with
 | .ok (xs,w) h' => ∀ ι' H' J,Grow ι H ι' H'->Sim T ι' h' H'->gH T J ι' H' xs w->R J H'
 | _=>False
noncomputable abbrev iI (T:Tb) (X:Cx) (tg iter:Expr) (it:SI):Prop:=PI X tg iter (tI T it)
theorem nC {X:Cx} {tg iter:Expr} {t t':TI} (h:PI X tg iter t) (k:∀ σ H R,t' σ H R->t σ H R):PI X tg iter t' := λpins s σ H R I q=>h pins s σ H R I (k σ H R q)
theorem PI.or {X:Cx} {tg iter:Expr} {t t':TI} (h:PI X tg iter t) (h':PI X tg iter t'):PI X tg iter (λσ H R=>t σ H R\/t' σ H R):=λpins s σ H R I q=>q.elim (h pins s σ H R I) (h' pins s σ H R I)
theorem v9 {ι:Ix} {H:Hp} {a:Addr} {us:List V} {xs:List AV} {K:PySem.W.Frag} (keep:∀ (ι':Ix) (H':Hp),Ext ι H ι' H'->SqL K H' a us) (r:RVs T ι H xs us):gH T (mI K a) ι H xs none:=by
 constructor
 ·intro i ι' h' H' x g S _ e
  obtain ⟨u,e1,r1⟩:=(r.ext g).get e
  refine ⟨⟨us,u,keep ι' H' g,e1⟩,?_⟩
  rintro u2 H2 ⟨rfl,y⟩
  have z:=y us (keep ι' _ g)
  rw [e1] at z;cases z
  exact ⟨S.refl,S,r1⟩
 ·intro i ι' h' H' g S _ hl
  exact ⟨us,keep ι' H' g,by rw [<- r.length];exact hl⟩
theorem Dw {ι:Ix} {H:Hp} {a:Addr} {us:List V} {xs:List AV} {K:PySem.W.Frag} (keep:∀ (ι':Ix) (H':Hp),Ext ι H ι' H'->SqT K H' a us) (r:RVs T ι H xs us):gH T (pJ K a) ι H xs none:=by
 constructor
 ·intro i ι' h' H' x g S _ e
  obtain ⟨u,e1,r1⟩:=(r.ext g).get e
  refine ⟨⟨us,u,keep ι' H' g,e1⟩,?_⟩
  rintro u2 H2 ⟨rfl,y⟩
  have z:=y us (keep ι' _ g)
  rw [e1] at z;cases z
  exact ⟨S.refl,S,r1⟩
 ·intro i ι' h' H' g S _ hl
  exact ⟨us,keep ι' H' g,by rw [<- r.length];exact hl⟩
theorem Dx {ι:Ix} {H:Hp} {a:Addr} {n:Nat} {xs:List AV} {K:PySem.W.Frag} (e:ι.refs[n]? = some a):gH T (mI K a) ι H xs (some n):=by
 have at_:∀ {ι':Ix} {h':AH} {H':Hp},Ext ι H ι' H'->Sim T ι' h' H'->cZ (some n) xs h'=true->∃ us,H' a=some (.lst us)/\RVs T ι' H' xs us:=λ{ι' h' H'} g S l=>by
  unfold cZ at l
  dsimp only at l
  split at l
  ·rename_i ys hy
   have z:=NR l
   subst z
   obtain ⟨u,e1,us,rfl,r⟩:=S.obj n _ a hy (g.at_ e)
   exact ⟨us,e1,r⟩
  ·cases l
 constructor
 ·intro i ι' h' H' x g S l e
  obtain ⟨us,e0,r⟩:=at_ g S l
  obtain ⟨u,e1,r1⟩:=r.get e
  refine ⟨⟨us,u,.of e0,e1⟩,?_⟩
  rintro u2 H2 ⟨rfl,y⟩
  have z:=y us (.of e0)
  rw [e1] at z;cases z
  exact ⟨S.refl,S,r1⟩
 ·intro i ι' h' H' g S l hl
  obtain ⟨us,e0,r⟩:=at_ g S l
  exact ⟨us,.of e0,by rw [<- r.length];exact hl⟩
theorem Dy {ι:Ix} {H:Hp} {x:Str} (o:x.cps.all (· < 0x110000)=true):gH T (qf x) ι H (x.cps.toList.map λc=>.str ⟨#[c]⟩) none:=by
 constructor
 ·intro i ι' h' H' y g S _ e
  rw [Kb] at e
  obtain ⟨c,e1,rfl⟩:=J5.mp e
  have hi:i<x.cps.size:=by
   have:=(JA.mp e1).1
   simpa using this
  refine ⟨hi,?_⟩
  rintro u H2 ⟨rfl,c',e2,rfl⟩
  have z:x.cps[i]? = some c:=by simpa using e1
  rw [e2] at z;cases z
  refine ⟨S.refl,S,.str (show 1<=sizeLine by decide) ?_⟩
  have m:=Array.mem_of_getElem? e2
  have:=LH.mp o _ m
  simpa using this
 ·intro i ι' h' H' g S _ hl
  show x.cps.size<=i
  simpa using hl
theorem Dz (n:Nat):∀ (lo:Int) (i:Nat),(cC lo n)[i]? = if i<n then some (.int (lo+i)) else none:=by
 induction n with
 | zero=>intro lo i;simp [cC]
 | succ n ih =>
  intro lo i
  cases i with
  | zero=>simp [cC]
  | succ i =>
   show (cC (lo+1) n)[i]? = _
   rw [ih]
   by_cases h:i<n
   ·rw [JG h,JG (by lia)]
    congr 2
    show lo+1+(i:Int)=lo+((i+1:Nat):Int)
    lia
   ·rw [JF h,JF (by lia)]
theorem DA (n:Nat):∀ lo:Int,(cC lo n).length=n:=by
 induction n with
 | zero=>intro lo;rfl
 | succ n ih=>intro lo;show (cC (lo+1) n).length+1=n+1;rw [ih]
theorem DB {ι:Ix} {H:Hp} {lo:Int} {n:Nat}:gH T (mJ lo n) ι H (cC lo n) none:=by
 constructor
 ·intro i ι' h' H' y g S _ e
  rw [Dz] at e
  split at e
  ·rename_i hi
   cases e
   refine ⟨hi,?_⟩
   rintro u H2 ⟨rfl,rfl⟩
   exact ⟨S.refl,S,.int _⟩
  ·cases e
 ·intro i ι' h' H' g S _ hl
  rw [DA] at hl
  exact hl
theorem wa {ι:Ix} {H:Hp} {a:Addr} {us:List V} (n:a∉ι.all) (h:Rd H a (.lst us)):∀ (ι':Ix) (H':Hp),Ext ι H ι' H'->SqL T.K H' a us:=λ_ _ g=>.inl (vS g n h)
theorem DC {ι:Ix} {H:Hp} {a:Addr} {us:List V} (n:a∉ι.all) (h:H a=some (.tup us)):∀ (ι':Ix) (H':Hp),Ext ι H ι' H'->SqT T.K H' a us:=λ_ _ g=>.of (g.keep _ _ n h)
theorem nE {K K':PySem.W.Frag} {H:Hp} {a:Addr} {us:List V} (e:K=K') (h:SqL K' H a us):SqL K H a us:=e▸h
theorem wb {σ:St} {H:Hp} {R:It->Hp->Prop} {ι:Ix} {h h1:AH} {en:En} {v:AV} {xs:List AV} {w:Option Nat} (hK:X.K=T.K) (S:Sim T ι h H) (er:ER T ι H en σ) (e:sa en h = .ok v h1) (hv:(v = .fl xs/\w=none)\/∃ n,v = .ref n/\h1[n]? = some (.lst xs)/\w=some n)
  (q:∀ ι' H' J,Grow ι H ι' H'->Sim T ι' h1 H'->gH T J ι' H' xs w->R J H'):uR X.K (tE T E sa) σ H R:=by
 refine ⟨ι,h,en,S,er,?_⟩
 rw [e]
 intro ι1 H1 u g1 S1 r1
 rcases hv with ⟨rfl,rfl⟩ | ⟨n,rfl,hn,rfl⟩
 ·cases r1 with
  | fl n hr rs=>exact ⟨_,rfl,⟨_,nE hK (.inl hr)⟩,q ι1 H1 _ g1 S1 (hK▸v9 (wa n hr) rs)⟩
  | kfl hr rs=>exact ⟨_,rfl,⟨_,nE hK (.inr hr)⟩,q ι1 H1 _ g1 S1 (hK▸v9 (λ_ _ _=>.inr hr) rs)⟩
 ·cases r1 with
  | ref hr =>
   obtain ⟨u,e1,us,rfl,rs⟩:=S1.obj n _ _ hn hr
   exact ⟨_,rfl,⟨_,.of e1⟩,q ι1 H1 _ g1 S1 (Dx hr)⟩
theorem DD {σ:St} {H:Hp} {R:It->Hp->Prop} {ι:Ix} {h h1:AH} {en:En} {xs:List AV} (hK:X.K=T.K) (S:Sim T ι h H) (er:ER T ι H en σ) (e:sa en h = .ok (.tup xs) h1)
  (q:∀ ι' H' J,Grow ι H ι' H'->Sim T ι' h1 H'->gH T J ι' H' xs none->R J H'):kx X.K (tE T E sa) σ H R:=by
 refine ⟨ι,h,en,S,er,?_⟩
 rw [e]
 intro ι1 H1 u g1 S1 r1
 cases r1 with
 | tup n hr rs=>exact ⟨_,rfl,⟨_,.of hr⟩,q ι1 H1 _ g1 S1 (hK▸Dw (DC n hr) rs)⟩
theorem jr {y:Str} {py:Pos} (hK:X.K=T.K) (ha:aI T E X a sa):iI T X (.Name y py) a (bh sa) :=
 nC (PI.or (Ae ha) (PI.or (Af ha) (B3 ha))) λσ H R=>E6x λι h en S er q=>by
  unfold bh at q
  cases e:sa en h with
  | bad=>rw [e] at q;exact q.elim
  | ex c h1=>rw [e] at q;exact q.elim
  | ok v h1 =>
   rw [e] at q
   cases v with
   | fl xs=>exact .inl (wb hK S er e (.inl ⟨rfl,rfl⟩) q)
   | tup xs=>exact .inr (.inl (DD hK S er e q))
   | str z =>
    refine .inr (.inr ⟨ι,h,en,S,er,?_⟩)
    rw [e]
    intro ι1 H1 u g1 S1 r1
    obtain ⟨rfl,_,o⟩:=dB r1
    exact ⟨_,rfl,q ι1 H1 _ g1 S1 (Dy o)⟩
   | ref n =>
    dsimp only [Out.bind] at q
    cases e2:h1[n]? with
    | none=>rw [e2] at q;exact q.elim
    | some o =>
     rw [e2] at q
     cases o with
     | lst xs=>exact .inl (wb hK S er e (.inr ⟨n,rfl,e2,rfl⟩) q)
     | _=>exact q.elim
   | _=>exact q.elim
theorem jT {tg:Expr} {p:Pos} (hg:Gl X "range") (hm:X.mg "range" = none) (ha:aI T E X a sa) (hs:starEach [a] X.env=[(false,eval a X.env)]:=by rfl):iI T X tg (.Call (.Name "range" p) [a] [] pos) (dw sa) :=
 nC (Ai hg hm (ak ha au hs) hs) λσ H R=>E6x λι h en S er q=>by
  unfold dw at q
  refine ⟨ι,h,en,S,er,?_⟩
  unfold aj
  cases e:sa en h with
  | bad=>rw [e] at q;exact q
  | ex c h1=>rw [e] at q;exact q.elim
  | ok v h1 =>
   rw [e] at q
   intro ι1 H1 u g1 S1 r1
   dsimp only [Out.bind] at q
   cases v with
   | int j =>
    dsimp only at q
    split at q
    ·rename_i hx
     split at hx
     ·rename_i hb
      cases hx
      cases r1 with
      | cons r r' =>
       cases r'
       rw [bq r]
       exact ⟨j,rfl,by lia,by lia,q ι1 H1 _ g1 S1 DB⟩
     ·cases hx
    ·exact q.elim
   | _=>exact q.elim
theorem wc {α:Type} {xs:List α} {i:Nat} (h:i<xs.length):xs.drop i=xs[i]::xs.drop (i+1):=by simp
noncomputable def DE (g:TG) (tb:TS) (D:cU) (σ:St) (H1:Hp) (J:It):Prop:=∃ W:Nat->Nat->St->Hp->Prop,(∃ m,W 0 m σ H1)/\∀ i m σ H,W i m σ H->(J.stop i H/\D.nx σ H)\/(J.go i H/\∃ N:St->Hp->Prop,(∀ σ' H',N σ' H'->∃ m',m'<m/\W (i+1) m' σ' H')/\∀ x H',J.yld i H x H'->g x σ H' λσ' H'' => tb { D with nx:=N,ct:=N,bk:=D.nx } σ' H'')
theorem nF {g:TG} {t:Tg} {J:It} {ι1:Ix} {h1:AH} {H1:Hp} {en:En} {σ:St} {D:cU} {w:Option Nat} {all ys:List AV}
  (hg2:∀ {ι:Ix} {h:AH} {H:Hp} {en e:En} {σ:St} {v:AV} {u:V} {Q:St->Hp->Prop},Sim T ι h H->ER T ι H en σ->RV T ι H v u->fw t v en=some e->(∀ σ',ER T ι H e σ'->Q σ' H)->g u σ H Q)
  (S1:Sim T ι1 h1 H1) (er:ER T ι1 H1 en σ) (IR:nB T J ι1 H1 ys (cZ w all)) (q:PostS T ι1 H1 E (dE w all t s1 ys en h1) D):DE g (tS T EN s1) D σ H1 J:=by
 refine ⟨λi m σ H=>m=ys.length-i/\i<=ys.length/\∃ ι' h' en',Grow ι1 H1 ι' H/\Sim T ι' h' H/\ER T ι' H en' σ/\PostS T ι' H E (dE w all t s1 (ys.drop i) en' h') D,
  ⟨ys.length,by simp,Ki _,ι1,h1,en,S1.refl,S1,er,q⟩,?_⟩
 rintro i m σ H ⟨rfl,hi,ι',h',en',g',S',er',q'⟩
 by_cases hl:i<ys.length
 ·rw [wc hl] at q'
  unfold dE at q'
  split at q'
  ·rename_i hlive
   obtain ⟨go,yld⟩:=IR.go i ι' h' H ys[i] g'.ext S' hlive (by simp [hl])
   refine .inr ⟨go,λσ H=>∃ ι' h' en',Grow ι1 H1 ι' H/\Sim T ι' h' H/\ER T ι' H en' σ/\PostS T ι' H E (dE w all t s1 (ys.drop (i+1)) en' h') D,
    λσ' H' w' => ⟨ys.length-(i+1),by lia,rfl,hl,w'⟩,λx H' y=>?_⟩
   obtain ⟨g2,S2,r2⟩:=yld x H' y
   split at q'
   ·rename_i e1 he1
    refine hg2 S2 (er'.mono g2) r2 he1 λσ' er2=>⟨ι',h',e1,S2,er2,?_⟩
    have q2:=PostS.shift q' g2
    cases e2:s1 e1 h' with
    | nx e3 h3=>rw [e2] at q2;exact λι3 H3 σ3 g3 S3 er3=>⟨ι3,h3,e3,g'.trans (g2.trans g3),S3,er3,q2.shift g3⟩
    | ct e3 h3=>rw [e2] at q2;exact λι3 H3 σ3 g3 S3 er3=>⟨ι3,h3,e3,g'.trans (g2.trans g3),S3,er3,q2.shift g3⟩
    | bk e3 h3=>rw [e2] at q2;exact q2
    | rt v h3=>rw [e2] at q2;exact q2
    | ex c e3 h3=>rw [e2] at q2;exact (show False from q2).elim
    | bad=>rw [e2] at q2;exact q2
   ·exact (show False from q').elim
  ·exact (show False from q').elim
 ·have ei:i=ys.length:=by lia
  subst ei
  rw [NZ] at q'
  unfold dE at q'
  split at q'
  ·rename_i hlive
   exact .inl ⟨IR.stop _ ι' h' H g'.ext S' hlive (JC _),q' ι' H σ S'.refl S' er'⟩
  ·exact (show False from q').elim
theorem gI {tg iter:Expr} {it:SI} {t:Tg} (hc:X.calm=true) (hi:iI T X.nox tg iter it) (hg:qN T X.nox tg t) (hb:cO T EN X.nox sts s1) (hs:∀ x,foldedSetIterable iter X.nox.env x=pure x:=by intro _;rfl) :
  eQ T E X (.For tg iter sts [] pos) (aV it t s1):=by
 obtain ⟨g,hg1,hg2⟩:=hg
 refine fI (qA (uS PassesOwn.never hc hi hg1 hb hs)) λD σ H=>E6x λι h en S er q=>⟨ι,h,en,S,er,?_⟩
 unfold aV at q
 cases e:it en h with
 | bad=>rw [e] at q;exact q
 | ex c h1=>rw [e] at q;exact q
 | ok p h1 =>
  obtain ⟨xs,w⟩:=p
  rw [e] at q
  intro ι1 H1 J g1 S1 IR
  exact nF hg2 S1 (er.mono g1) IR (PostS.shift q g1)
theorem ER.comp {ι:Ix} {H:Hp} {en:En} {σ:St} {ys:List AV} {us:List V} {jf:List (Nat×Str)} (er:ER T ι H en σ) (r:RVs T ι H ys us):ER T ι H (ys.map some++(jf.map (·.1)).map λj=>(en[j]?).join) (d6 (us.map some) jf σ):=by
 unfold d6
 induction ys generalizing us with
 | nil =>
  cases r
  refine ⟨by simp,λi v e=>?_⟩
  simp only [Nr,Mj,Kb] at e ⊢
  cases e1:jf[i]? with
  | none=>rw [e1] at e;cases e
  | some j =>
   rw [e1] at e
   simp only [Nj,NP] at e
   have e2:en[j.1]? = some (some v):=by
    cases e3:en[j.1]? with
    | none=>rw [e3] at e;cases e
    | some o=>rw [e3] at e;exact congrArg some e
   obtain ⟨u',e4,r'⟩:=er.2 j.1 v e2
   exact ⟨u',by simp [e4],r'⟩
 | cons y ys ih =>
  cases r with
  | cons r rs =>
   obtain ⟨h1,h2⟩:=ih rs
   refine ⟨congrArg Nat.succ h1,λi v e=>?_⟩
   cases i with
   | zero=>cases e;exact ⟨_,rfl,r⟩
   | succ i=>exact h2 i v e
noncomputable def hX (T:Tb) (k:Nat) (g:TG) (cc' cc:SB) (ce' ce:SE):Prop:=∀ x,(∀ r h,cc' (some x::r) h = .bad)\/∃ ys:List AV,ys.length=k/\(∀ r h,cc' (some x::r) h=cc (ys.map some++r) h)/\(∀ r h,ce' (some x::r) h=ce (ys.map some++r) h) /\
 ∀ (ι:Ix) (H:Hp) (u:V),RV T ι H x u->∃ us,RVs T ι H ys us/\∀ (σ:St) (Q:St->Hp->Prop),Q (us.map some++σ) H->g u (List.replicate k none++σ) H Q
theorem qO {cc:SB} {ce:SE}:hX T 1 (jK 0) cc cc ce ce:=λx=>.inr ⟨[x],rfl,λ_ _=>rfl,λ_ _=>rfl,λ_ _ u r=>⟨[u],.cons r .nil,λ_ _ q=>q⟩⟩
structure CoS (T:Tb) (ι1:Ix) (H1:Hp) (en:En) (σ:St) (D:Addr) (ι':Ix) (h':AH) (vs:List AV) (ys:List V) (H2:Hp):Prop where
 hD:H2 D=some (.lst ys)
 g:Grow ι1 H1 ι' H2
 x:Ext ι1 H1 (ι'.hide D) H2
 S:Sim T (ι'.hide D) h' H2
 er:ER T (ι'.hide D) H2 en σ
 rv:RVs T (ι'.hide D) H2 vs ys
 nD:D∉ι'.refs
theorem wd {ι' ι5:Ix} {D:Addr} (e:ι5.priv=(ι'.hide D).priv):ι5=Ix.hide ⟨ι5.refs,ι'.priv⟩ D:=by
 cases ι5
 simp only at e
 subst e
 rfl
theorem DF {ι1 ι' ι5:Ix} {H1 H2 H5:Hp} {D:Addr} (g':Grow ι1 H1 ι' H2) (g:Grow (ι'.hide D) H2 ι5 H5):Grow ι1 H1 ⟨ι5.refs,ι'.priv⟩ H5:=by
 obtain ⟨n,en1,hn⟩:=g'.pre
 obtain ⟨k,ek,hk⟩:=g.pre
 refine ⟨⟨n++k,?_,λa ha=>?_⟩,g'.priv,λa o na ea=>g.keep a o (g'.outR na ea) (g'.keep a o na ea),λa ha=>g.live a ?_⟩
 ·show ι5.refs=_;rw [ek];show ι'.refs++k=_;rw [en1,JM]
 ·rcases JS.mp ha with z | z
  ·exact hn a z
  ·have z2:=hk a z
   by_cases hr:a∈ι1.refs
   ·exact absurd z2 (g'.live a (JO _ hr))
   ·cases e9:H1 a with
    | none=>rfl
    | some o=>rw [g'.keep a o hr e9] at z2;cases z2
 ·rcases JS.mp ha with z | z
  ·exact JO _ (by show a∈ι'.refs;rw [en1];exact JO _ z)
  ·exact JW _ (Km _ (by rw [g'.priv];exact z))
section
variable {ι ι1 ι' ι5:Ix} {H H1 H2 H5:Hp} {h1 h' h5:AH} {en:En} {σ:St} {D:Addr} {vs:List AV} {ys:List V}
theorem CoS.skip (c:CoS T ι1 H1 en σ D ι' h' vs ys H2) (g:Grow (ι'.hide D) H2 ι5 H5) (S:Sim T ι5 h5 H5):CoS T ι1 H1 en σ D ⟨ι5.refs,ι'.priv⟩ h5 vs ys H5:=by
 have e:=wd g.priv
 exact ⟨g.keep D _ c.nD c.hD,DF c.g g,e▸c.x.trans g.ext,e▸S,e▸c.er.mono g,e▸c.rv.mono g,g.outR c.nD c.hD⟩
theorem CoS.poke {v:AV} {u:V} (c:CoS T ι1 H1 en σ D ι' h' vs ys H2) (hD:H1 D=none) (r:RV T (ι'.hide D) H2 v u):CoS T ι1 H1 en σ D ι' h' (vs++[v]) (ys++[u]) (aJ H2 D (.lst (ys++[u]))):=by
 refine ⟨eP,⟨c.g.pre,c.g.priv,λa o na ea=>by rw [bN (fT ea hD)];exact c.g.keep a o na ea,λa ha=>?_⟩,c.x.trans Ext.poke,Sim.poke c.S c.nD,ER.ext c.er Ext.poke,RVs.ext Ext.poke (c.rv.append (.cons r .nil)),c.nD⟩
 by_cases z:a=D
 ·subst z;rw [eP];simp
 ·rw [bN z];exact c.g.live a ha
theorem CoS.push {v:AV} {u:V} (c:CoS T ι1 H1 en σ D ι' h' vs ys H2) (hD:H1 D=none) (g:Grow (ι'.hide D) H2 ι5 H5) (S:Sim T ι5 h5 H5) (r:RV T ι5 H5 v u):CoS T ι1 H1 en σ D ⟨ι5.refs,ι'.priv⟩ h5 (vs++[v]) (ys++[u]) (aJ H5 D (.lst (ys++[u]))) :=
 (c.skip g S).poke hD ((wd g.priv)▸r)
theorem CoS.fin (c:CoS T ι1 H1 en σ D ι' h' vs ys H2) (g1:Grow ι H ι1 H1) (S1:Sim T ι1 h1 H1) (hD:H1 D=none):D∉ι'.all/\∀ n,ι'.refs=ι.refs++n->∀ a∈n++[D],H a=none:=by
 refine ⟨λz=>(JS.mp z).elim c.nD λz=>by rw [c.g.priv] at z;exact S1.plive D z hD,λn en1 a ha=>?_⟩
 obtain ⟨k,ek,hk⟩:=(g1.trans c.g).pre
 have:n=k:=List.append_cancel_left (en1.symm.trans ek)
 subst this
 rcases JS.mp ha with z | z
 ·exact hk a z
 ·have z':a=D:=by simpa using z
  subst z'
  cases e9:H a with
  | none=>rfl
  | some o =>
   by_cases hr:a∈ι.refs
   ·obtain ⟨k1,ek1,_⟩:=g1.pre
    exact absurd hD (S1.live a (JO _ (by rw [ek1];exact JO _ hr)))
   ·rw [g1.keep a o hr e9] at hD;cases hD
theorem CoS.start (er:ER T ι H en σ) (g1:Grow ι H ι1 H1) (S1:Sim T ι1 h1 H1) (hD:H1 D=none):CoS T ι1 H1 en σ D ι1 h1 [] [] (aJ H1 D (.lst [])) :=
 ⟨eP,S1.growNew hD,Ext.hide hD,S1.hide hD,(er.mono g1).ext (Ext.hide hD),.nil,λz=>S1.fresh hD (JO _ z)⟩
end
noncomputable def nG (T:Tb) (ι:Ix) (H:Hp) (Q:VK) (o:Out (List AV)):Prop:=match o with
 | .ok ys h2=>∀ ι' H' D vs,Grow ι H ι' H'->Sim T (ι'.hide D) h2 H'->RVs T (ι'.hide D) H' ys vs->H' D=some (.lst vs)->D∉ι'.all->(∀ n,ι'.refs=ι.refs++n->∀ a∈n++[D],H a=none)->Q (.ref D) H'
 | _=>False
theorem we {k:Nat} {g:TG} {cc' cc:SB} {ce' ce:SE} {jf:List (Nat×Str)} {σ:St} {H H1:Hp} {Q:VK} {ι ι1:Ix} {h1:AH} {en:En} {xs all:List AV} {w:Option Nat} {J:It} (U:hX T k g cc' cc ce' ce) (er:ER T ι H en σ) (g1:Grow ι H ι1 H1) (S1:Sim T ι1 h1 H1)
  (IR:nB T J ι1 H1 xs (cZ w all)) (q:nG T ι H Q (dh (jf.map (·.1)) en w all cc' ce' xs [] h1)):vA k g jf (tT T EN cc) (tE T EN ce) σ Q J H1:=by
 intro D hD
 refine ⟨λi m ys H2=>m=xs.length-i/\i<=xs.length/\∃ ι' h' vs,CoS T ι1 H1 en σ D ι' h' vs ys H2/\nG T ι H Q (dh (jf.map (·.1)) en w all cc' ce' (xs.drop i) vs h'),⟨xs.length,rfl,Ki _,ι1,h1,[],CoS.start er g1 S1 hD,q⟩,?_⟩
 rintro i m ys H2 ⟨rfl,hi,ι',h',vs,c,q'⟩
 refine ⟨c.hD,?_⟩
 by_cases hl:i<xs.length
 ·rw [wc hl] at q'
  unfold dh at q'
  by_cases hs:cZ w all h'=true/\vs.length<sizeLine
  ·rw [JG hs] at q'
   obtain ⟨go,yld⟩:=IR.go i _ h' H2 xs[i] c.x c.S hs.1 (by simp [hl])
   refine .inr ⟨go,by rw [<- c.rv.length];exact hs.2,λx H3 y=>?_⟩
   obtain ⟨g3,S3,r3⟩:=yld x H3 y
   rcases U xs[i] with z | ⟨zs,lz,z1,z2,z3⟩
   ·rw [z] at q';exact False.elim q'
   obtain ⟨us,rs,gq⟩:=z3 _ _ _ r3
   have er3:=ER.comp (jf:=jf) (c.er.mono g3) rs
   rw [z1] at q'
   refine ⟨us,by rw [<- rs.length];exact lz,gq _ _ ⟨rfl,rfl⟩,ι'.hide D,h',_,S3,er3,?_⟩
   cases ec:cc (zs.map some++(jf.map (·.1)).map λj=>(en[j]?).join) h' with
   | bad=>rw [ec] at q';exact q'
   | ex k h5=>rw [ec] at q';exact False.elim q'
   | ok bb h5 =>
    rw [ec] at q'
    intro ι5 H5 b5 g5 S5 r5
    subst r5
    cases bb with
    | false =>
     rw [JF JT]
     exact ⟨xs.length-(i+1),by lia,rfl,hl,_,h5,vs,c.skip (g3.trans g5) S5,q'⟩
    | true =>
     rw [JG rfl]
     refine ⟨ι5,h5,_,S5,er3.mono g5,?_⟩
     dsimp only at q'
     rw [z2] at q'
     cases ee:ce (zs.map some++(jf.map (·.1)).map λj=>(en[j]?).join) h5 with
     | bad=>rw [ee] at q';exact q'
     | ex k h6=>rw [ee] at q';exact False.elim q'
     | ok v h6 =>
      rw [ee] at q'
      intro ι6 H6 u6 g6 S6 r6
      have g36:=(g3.trans g5).trans g6
      exact ⟨g36.keep D _ c.nD c.hD,xs.length-(i+1),by lia,rfl,hl,_,h6,vs++[v],c.push hD g36 S6 r6,q'⟩
  ·rw [JF hs] at q';exact False.elim q'
 ·have ei:i=xs.length:=by lia
  subst ei
  rw [NZ] at q'
  unfold dh at q'
  by_cases hs:cZ w all h'=true
  ·rw [JG hs] at q'
   have f:=c.fin g1 S1 hD
   exact .inl ⟨IR.stop _ _ h' H2 c.x c.S hs (JC _),q' ι' H2 D ys (g1.trans c.g) c.S c.rv c.hD f.1 f.2⟩
  ·rw [JF hs] at q';exact False.elim q'
end
end Sm
namespace Sm
open PySem PySem.Spec L2
section
variable {T:Tb} {E:St->XK} {X:Cx} {pos px:Pos} {iter elt:Expr} {ifs:List Expr} {scope:Scope} {x₁:Str} {jf:List (Nat×Str)} {it:SI} {cc:SB} {ce:SE}
theorem DH {ι:Ix} {H:Hp} {Q:VK} {F:XK} {o:Out (List AV)} (q:Post T ι H F (RV T) (match o with | .ok ys h2=>.ok (.fl ys) h2 | _=>.bad) Q):nG T ι H Q o:=by
 cases o with
 | bad=>exact q
 | ex c h1=>exact q.elim
 | ok ys h2=>exact λι' H' D vs g S' r hD nD _=>q ι' H' _ g S'.show (.fl nD (.inl hD) (r.ext Ext.show))
theorem DJ {ι:Ix} {H:Hp} {Q:VK} {F:XK} {o:Out (List AV)} (q:Post T ι H F (RV T) (match o with | .ok ys h2=>.ok (.ref h2.length) (h2++[.lst ys]) | _=>.bad) Q):nG T ι H Q o:=by
 cases o with
 | bad=>exact q
 | ex c h1=>exact q.elim
 | ok ys h2 =>
  intro ι' H' D vs g S' r hD nD hn
  obtain ⟨n,en1,_⟩:=g.pre
  have S2:Sim T (ι'.add D) (h2++[.lst ys]) H' := S'.adopt (Ix.nr nD) hD ⟨vs,rfl,r.ext Ext.adopt⟩
  refine q (ι'.add D) H' _ ⟨⟨n++[D],?_,hn n en1⟩,g.priv,g.keep,g.live⟩ S2 (.ref ?_)
  ·show ι'.refs++[D]=_;rw [en1];simp
  ·show (ι'.refs++[D])[h2.length]? = some D
   have:ι'.refs.length=h2.length:=S'.len
   rw [<- this];simp
theorem wg {k:Nat} {g:TG} {cc':SB} {ce':SE} {σ:St} {H:Hp} {Q:VK} (U:hX T k g cc' cc ce' ce) (q:tE T E (dF (jf.map (·.1)) it cc' ce') σ H Q):kK k g jf (tI T it) (tT T EN cc) (tE T EN ce) σ H Q:=by
 obtain ⟨ι,h,en,S,er,q⟩:=q
 refine ⟨ι,h,en,S,er,?_⟩
 unfold dF at q
 cases e:it en h with
 | bad=>rw [e] at q;exact q
 | ex c h1=>rw [e] at q;exact q.elim
 | ok p h1=>rw [e] at q;exact λι1 H1 J g1 S1 IR=>we U er g1 S1 IR (DH q)
theorem DL {k:Nat} {g:TG} {cc':SB} {ce':SE} {σ:St} {H:Hp} {Q:VK} (U:hX T k g cc' cc ce' ce) (q:tE T E (ji (jf.map (·.1)) it cc' ce') σ H Q):kK k g jf (tI T it) (tT T EN cc) (tE T EN ce) σ H Q:=by
 obtain ⟨ι,h,en,S,er,q⟩:=q
 refine ⟨ι,h,en,S,er,?_⟩
 unfold ji at q
 cases e:it en h with
 | bad=>rw [e] at q;exact q
 | ex c h1=>rw [e] at q;exact q.elim
 | ok p h1=>rw [e] at q;exact λι1 H1 J g1 S1 IR=>we U er g1 S1 IR (DJ q)
theorem nH:gB X [] (tT T E bU):=λpins s σ H Q I ⟨ι,h,en,S,er,q⟩=>B5 pins s σ H Q I (q.now S rfl)
theorem wj {c:Expr} (hc:gE T E X c cc):gB X [c] (tT T E cc):=B6 hc
theorem wk (C:CompOk X [x₁] jf scope) (hcalm:X.calm=true) (hi:iI T X (.Name x₁ px) iter it) (hc:∀ pins cl s H fp,gB (cE X pins [x₁] jf scope cl s H fp) ifs (tT T EN cc)) (he:∀ pins cl s H fp,aI T EN (cE X pins [x₁] jf scope cl s H fp) elt ce)
  (hs:∀ x,foldedSetIterable iter X.env x=pure x:=by intro _;rfl):aI T E X (.ListComp elt [⟨.Name x₁ px,iter,ifs,0⟩] scope pos) (dF (jf.map (·.1)) it cc ce) :=
 bW (B8 hcalm (λ_ _ _ _ _=>C.pg 0 rfl (.head _)) hi hc he C hs) λ_ _ _ q=>wg qO q
theorem qP {y:Str} {py spos:Pos} {i:Nat} (C:CompOk X [x₁] jf scope) (hcalm:X.calm=true) (hi:iI T X (.Name x₁ px) iter it) (hc:∀ pins cl s H fp,gB (cE X pins [x₁] jf scope cl s H fp) ifs (tT T EN cc)) (he:∀ pins cl s H fp,aI T EN (cE X pins [x₁] jf scope cl s H fp) elt ce)
  (hNX:X.N.Nodup) (hi':X.N[i]? = some y:=by rfl) (hy:X.env.scope.names.lookup y=some .local:=by rfl) (hsw:swapsWith (.ListComp elt [⟨.Name x₁ px,iter,ifs,0⟩] scope pos) (some (.Name y py)) spos.line X.env=pure true:=by rfl) (hs:∀ x,foldedSetIterable iter X.env x=pure x:=by intro _;rfl) :
  eQ T E X (.Assign [.Name y py] (.ListComp elt [⟨.Name x₁ px,iter,ifs,0⟩] scope pos) spos) (aw i (dF (jf.map (·.1)) it cc ce)) :=
 fI (vC hcalm (λ_ _ _ _ _=>C.pg 0 rfl (.head _)) hi hc he C hNX hi' hy hsw hs) λD σ H q=>wg qO (qM q)
theorem DM {y:Str} {py spos:Pos} {i:Nat} (C:CompOk X [x₁] jf scope) (hcalm:X.calm=true) (hi:iI T X (.Name x₁ px) iter it) (hc:∀ pins cl s H fp,gB (cE X pins [x₁] jf scope cl s H fp) ifs (tT T EN cc)) (he:∀ pins cl s H fp,aI T EN (cE X pins [x₁] jf scope cl s H fp) elt ce)
  (hNX:X.N.Nodup) (hi':X.N[i]? = some y:=by rfl) (hy:X.env.scope.names.lookup y=some .local:=by rfl) (hsw:swapsWith (.ListComp elt [⟨.Name x₁ px,iter,ifs,0⟩] scope pos) (some (.Name y py)) spos.line X.env=pure true:=by rfl) (hs:∀ x,foldedSetIterable iter X.env x=pure x:=by intro _;rfl) :
  eQ T E X (.Assign [.Name y py] (.ListComp elt [⟨.Name x₁ px,iter,ifs,0⟩] scope pos) spos) (aw i (ji (jf.map (·.1)) it cc ce)) :=
 fI (vC hcalm (λ_ _ _ _ _=>C.pg 0 rfl (.head _)) hi hc he C hNX hi' hy hsw hs) λD σ H q=>DL qO (qM q)
end
noncomputable def h9 (T:Tb) (F:Fn):Sp:=λvs H Q E=>∃ ι h args,Sim T ι h H/\RVs T ι H args vs/\Post T ι H E (RV T) (F args h) Q
noncomputable def DO (F:Fn) (n:Nat):Prop:=∀ args h,args.length≠n->F args h = .bad
theorem wm (n m:Nat) (b:SS):DO (aD n m b) n:=λargs h hl=>by
 unfold aD
 rw [JF hl]
theorem nI {P:Program} {w:World} {K:PySem.W.Frag} {mg:Str->Option Value} {base:Heap} {T:Tb} {x qual:Str} {st:Stmt} {f:Addr} {fd:FuncData} {N ps:List Str} {k:Nat} {b:SS} (F:Fun K x qual st f fd) (hK:K=T.K) (S:aq N ps (aM st))
  (hbody:∀ (cdv:Value) (A:Around) (outer:List Env) (s:Shared) (H:Hp) (E:XK),Room k (A.deeper (PyProof.Rows.envOfC qual (aM st) s.heap.objs.size f cdv))->CA T (λ_=>E) (bR (cN P w) P w K mg base N qual (aM st) f cdv A outer s H E) ->
   cO T (λ_=>E) (bR (cN P w) P w K mg base N qual (aM st) f cdv A outer s H E) (gA st) b):FnOk P w K mg base (cN P w) (k+1) f fd ps (h9 T (aD ps.length N.length b)):=by
 refine F.okE S (λvs H Q E h=>?_) (λcdv A outer s H vs Q E hr h=>?_)
 ·obtain ⟨ι,h,args,_,r,q⟩:=h
  by_cases hl:args.length=ps.length
  ·rw [<- hl,r.length]
  ·rw [wm _ _ _ args h hl] at q;exact q.elim
 ·obtain ⟨ι,h,args,Si,r,q⟩:=h
  refine ⟨_,hbody cdv A outer s H E hr ⟨hK,Cz⟩,ι,h,args.map some++List.replicate (N.length-ps.length) none,Si,?_,?_⟩
  ·by_cases hl:args.length=ps.length
   ·refine ⟨by simp [L2.start,r.length,<- hl],λi v e=>?_⟩
    unfold L2.start
    by_cases hi:i<args.length
    ·rw [JE (by simpa using hi),Kb] at e
     rw [JE (by simpa [<- r.length] using hi),Kb]
     obtain ⟨x,e1,e2⟩:=J5.mp e
     cases e2
     obtain ⟨u,e3,r3⟩:=r.get e1
     exact ⟨u,by rw [e3];rfl,r3⟩
    ·rw [J7 (by simpa using hi),Lq] at e
     split at e
     ·cases e
     ·cases e
   ·rw [wm _ _ _ args h hl] at q;exact q.elim
  ·unfold aD at q
   split at q
   ·split at q
    ·rename_i e1 h1 he
     rw [he]
     exact λι' H' σ' g S' er=>q ι' H' _ g S' .non
    ·rename_i v h1 he
     rw [he]
     exact q
    ·rename_i c e1 h1 he
     rw [he]
     exact λι' H' σ' C g S' er ec=>q ι' H' C g S' ec
    ·exact q.elim
   ·exact q.elim
structure GF (P:Program) (w:World) (T:Tb) (mg:Str->Option Value) (base:Heap) (k:Nat) (x:Str) (F:Fn):Prop where
 ex:∃ f fd ps,mg x=some (.ref f)/\PySem.W.keepIn T.K (.ref f)=true/\Binds T.K fd ps []/\FnOk P w T.K mg base (cN P w) k f fd ps (h9 T F)
structure GM (P:Program) (w:World) (T:Tb) (mg:Str->Option Value) (base:Heap) (k:Nat) (c:Nat) (m:Str) (F:Fn):Prop where
 ex:∃ C f fd ps,T.cls c=some C/\Cls T.K C/\fU T.K C m f/\Binds T.K fd ps []/\FnOk P w T.K mg base (cN P w) k f fd ps (h9 T F)
 no:m∉T.fields c
section
variable {T:Tb} {E:St->XK} {X:Cx} {pos p apos:Pos} {e o a:Expr} {es:List Expr} {x m:Str} {F:Fn} {k c:Nat} {as:SL} {so sa:SE}
theorem aW (hK:X.K=T.K) (C:CA T E X) (G:GF X.prog X.w T X.mg X.base k x F) (hr:Room k X.A) (hg:Gl X x) (ha:fH T E X (e::es) as) (hdb:(x == ("__debug__" : Str))=false:=by decide)
  (he:starEach (e::es) X.env=(false,eval e X.env)::starEach es X.env:=by rfl) (hpl:(backTo pos (starEach es X.env)).any (·.1)=false:=by rfl):aI T E X (.Call (.Name x p) (e::es) [] pos) (aE F as):=by
 obtain ⟨f,fd,ps,h1,h2,h3,h4⟩:=G.ex
 refine bW (CH (Ex:=E) (dvs:=[]) (hK▸h4) hr hg h1 (hK▸h2) (hK▸h3) .nil C.pass ha hdb he hpl) λσ H Q=>E6x λι h en S er q=>⟨ι,h,en,S,er,q.bind λxs h1 ι1 H1 us g1 S1 r1 q1=>?_⟩
 rw [Ln]
 exact ⟨ι1,h1,xs,S1,r1,q1⟩
theorem wo {C:Addr} {σ:St} {H:Hp} {Q:VK} (hc:T.cls c=some C) (no:m∉T.fields c) (q:tE T E (aL c F so as) σ H Q):vL C m (h9 T F) [] E (tE T E so) (tA T E as) σ H Q:=by
 obtain ⟨ι,h,en,S,er,q⟩:=q
 refine ⟨ι,h,en,S,er,q.bind λx h1 ι1 H1 u g1 S1 r1 q1=>?_⟩
 split at q1
 ·rename_i n
  split at q1
  ·rename_i c' fs hn
   split at q1
   ·rename_i ec
    subst ec
    cases r1 with
    | @ref _ a hr =>
     obtain ⟨o,e1,C',dx,fus,hC,rfl,nd,hw,hl,_⟩:=S1.obj n _ a hn hr
     rw [hc] at hC;cases hC
     refine ⟨a,dx,fus,rfl,e1,?_,ι1,h1,en,S1,er.mono g1,q1.bind λxs h2 ι2 H2 us g2 S2 r2 q2=>?_⟩
     ·cases e:fus.lookup m with
      | none=>rfl
      | some v =>
       have:=Lj e
       exact absurd (hw _ this) no
     ·rw [Ln]
      exact ⟨ι2,h2,.ref n::xs,S2,.cons (.ref (g2.at hr)) r2,q2⟩
   ·exact q1.elim
  ·exact q1.elim
 ·exact q1.elim
theorem aR {pl:Sem Bool} (hK:X.K=T.K) (CC:CA T E X) (G:GM X.prog X.w T X.mg X.base k c m F) (hr:Room k X.A) (ho:aI T E X o so) (ha:fH T E X (e::es) as)
  (hst:starEach (e::es) X.env=(false,eval e X.env)::starEach es X.env:=by rfl) (hpl:(backTo pos (starEach es X.env)).any (·.1)=false:=by rfl)
  (ht:eval (.Call (.Attribute o m apos) (e::es) [] pos) X.env=(do
   let ov <- eval o X.env
   standAt apos.atName
   let (f,first) <- holding [ov] (getMethod ov m pl)
   callWith pos f first (backTo pos (starEach (e::es) X.env)) (backToKw pos (keywordEach [] X.env))):=by rfl):aI T E X (.Call (.Attribute o m apos) (e::es) [] pos) (aL c F so as):=by
 obtain ⟨C,f,fd,ps,h1,h2,h3,h4,h5⟩:=G.ex
 exact bW (CI (Ex:=E) (dvs:=[]) (pl:=pl) ho (hK▸h2) (hK▸h3) (hK▸h5) hr (hK▸h4) .nil CC.pass ha hst hpl ht) λσ H Q q=>wo h1 G.no q
theorem qQ {pl:Sem Bool} (hK:X.K=T.K) (CC:CA T E X) (G:GM X.prog X.w T X.mg X.base k c m F) (hr:Room k X.A) (ho:aI T E X o so)
  (ht:eval (.Call (.Attribute o m apos) [] [] pos) X.env=(do
   let ov <- eval o X.env
   standAt apos.atName
   let (f,first) <- holding [ov] (getMethod ov m pl)
   callWith pos f first (backTo pos (starEach [] X.env)) (backToKw pos (keywordEach [] X.env))):=by rfl):aI T E X (.Call (.Attribute o m apos) [] [] pos) (aL c F so af):=by
 obtain ⟨C,f,fd,ps,h1,h2,h3,h4,h5⟩:=G.ex
 intro pins s σ H Q I q
 have q' := wo (C:=C) h1 G.no q
 refine Ov (pl:=pl) (thn (ho pins s σ H _ I q') λu s1 Zz=>?_) ht;obtain ⟨x,H1,I1,rx,a,dx,fs,ex,ea,l,q⟩:=Zz
 subst ex
 obtain rfl:u=Value.ref a:=rx
 refine u0 I1 ea (hK▸h2) (hK▸h3) l ?_
 obtain ⟨ι,h,en,S,er,q⟩:=q
 refine OM (first:=[.ref a]) I1.kIn (hK▸h3.kp) (qo (dvs:=[]) (us:=[.ref a]) (vs:=[.ref a]) (hK▸h5) hr (hK▸h4) .nil CC.pass I1 (.cons rfl .nil) (q.now S .nil))
structure CF (T:Tb) (c:Nat):Prop where
 ex:∃ C,T.cls c=some C/\Cls T.K C/\∀ f∈T.fields c,NoAttr T.K C f
structure GK (P:Program) (w:World) (T:Tb) (mg:Str->Option Value) (base:Heap) (k:Nat) (c:Nat) (x:Str) (F:Fn):Prop where
 ex:∃ C f fd ps,T.cls c=some C/\mg x=some (.ref C)/\Mk T.K C f/\Binds T.K fd ps []/\FnOk P w T.K mg base (cN P w) k f fd ps (h9 T F)
theorem DP {CX:eC} {C f:Addr} {fd:FuncData} {ps:List Str} {sp:Sp} {dvs:List V} {ds:List Value} {pins:List (Addr×Obj)} {σ:St} {H:Hp} {s:Shared} {Q:VK} {us:List Value} {vs:List V} (M:Mk X.K C f) (F:FnOk X.prog X.w X.K X.mg X.base CX k f fd ps sp) (hr:Room (k+1) X.A) (hb:Binds X.K fd ps ds) (hd:Vals dvs ds)
  (hx:kL CX X E) (I:L2.Inv X pins σ H s) (r:Vals vs us)
  (h:∀ x dx,H x=none->H dx=none->dx≠x->sp (.ref x::(vs++dvs)) (aJ (aJ H dx (.own x)) x (.ins C dx [])) (λv H2=>v = .non/\Q (.ref x) H2) (E σ)) :
  wpAny (model X.prog X.w) X.A (call (.ref C) us) (EP X pins σ Q) X.xe s:=by
 have hq:=h (s.heap.objs.size+1) s.heap.objs.size (I.hok.fresh (MP _)) (I.hok.fresh (JC _)) (Ka (Mz _))
 have I2:=Inv.made (C:=C) I
 have r2:Vals (V.ref (s.heap.objs.size+1)::(vs++dvs)) (Value.ref (s.heap.objs.size+1)::(us++ds)):=.cons rfl (r.append hd)
 have hl:(Value.ref (s.heap.objs.size+1)::us++ds).length=ps.length:=by
  have e:=r2.length
  rw [F.len _ _ _ _ hq] at e
  exact e.symm
 refine Pw (AM (f:=f) I.kIn M.makes M.init (beq_iff_eq.mp M.fn) (MB (F.run _ X.stack _ _ ⟨Value.ref (s.heap.objs.size+1)::us,[]⟩ (Value.ref (s.heap.objs.size+1)::(us++ds)) _ _ (E σ) (hr.make C us [])
  (I2.env0.make C us []) (hb _ (Value.ref (s.heap.objs.size+1)::us) I2.kIn hl) r2 hq) λr s' hq' => ?_))
 cases r with
 | error e=>exact hx pins σ _ _ e s' I2 hq'
 | ok fl =>
  cases fl with
  | ret u =>
   obtain ⟨v,H',I3,rv,ev,q3⟩:=I2.after hq'
   subst ev
   exact ⟨rv,⟨V.ref (s.heap.objs.size+1),H',I3,rfl,q3⟩⟩
  | next=>exact False.elim hq'
  | brk=>exact False.elim hq'
  | cont=>exact False.elim hq'
theorem DQ {C:Addr} {xs:List AV} {us:List V} {H:Hp} {Q:VK} {ι:Ix} {h:AH} {E:XK} {n:Nat} (hc:T.cls c=some C) (hn:(T.fields c).length=n) (S:Sim T ι h H) (r:RVs T ι H xs us)
  (q:Post T ι H E (RV T) (match F (.ref h.length::xs) (h++[.ins c (List.replicate n none)]) with | .ok .non h2=>Out.ok (AV.ref h.length) h2 | .ex c h2=>.ex c h2 | _=>.bad) Q) :
  ∀ x dx,H x=none->H dx=none->dx≠x->h9 T F (.ref x::us) (aJ (aJ H dx (.own x)) x (.ins C dx [])) (λv H2=>v = .non/\Q (.ref x) H2) E:=by
 intro x dx nx ndx ne
 have nx':(aJ H dx (.own x)) x=none:=by rw [bN (Ne.symm ne)];exact nx
 have S1:=S.new (o:=.own x) ndx
 have g1:=S.growNew (o:=.own x) ndx
 have g2:=S1.growAdd (u:=.ins C dx []) nx'
 have S2:Sim T (ι.add x) (h++[.ins c (List.replicate n none)]) (aJ (aJ H dx (.own x)) x (.ins C dx [])):=S1.add nx' ⟨C,dx,[],hc,rfl,by simp,by simp,by simp [hn],λi v e=>by
  rw [Lq] at e
  split at e
  ·cases e
  ·cases e⟩
 refine ⟨ι.add x,_,.ref h.length::xs,S2,.cons (.ref S.addAt) (r.mono (g1.trans g2)),?_⟩
 have q2:=q.shift (g1.trans g2)
 cases e:F (.ref h.length::xs) (h++[.ins c (List.replicate n none)]) with
 | bad=>rw [e] at q2;exact q2
 | ex c' h2=>rw [e] at q2;exact q2
 | ok v h2 =>
  rw [e] at q2
  cases v with
  | non=>exact λι' H' u g S' r' => ⟨qF r',q2 ι' H' _ g S' (.ref (g.at S.addAt))⟩
  | _=>exact (show False from q2).elim
theorem DR {n:Nat} (hK:X.K=T.K) (CC:CA T E X) (G:GK X.prog X.w T X.mg X.base k c x F) (hr:Room (k+1) X.A) (hg:Gl X x) (hn:(T.fields c).length=n:=by rfl) (hdb:(x == ("__debug__" : Str))=false:=by decide):aI T E X (.Call (.Name x p) [] [] pos) (nk c n F af):=by
 obtain ⟨C,f,fd,ps,h1,h2,h3,h4,h5⟩:=G.ex
 intro pins s σ H Q I ⟨ι,h,en,S,er,q⟩
 refine MN (mG I hg h2 ?_ hdb)
 have M:Mk X.K C f:=hK▸h3
 exact OM I.kIn M.kp (DP (us:=[]) (vs:=[]) (dvs:=[]) M (hK▸h5) hr (hK▸h4) .nil CC.pass I .nil (DQ h1 hn S .nil q))
theorem bu {i:Nat} {f:Str} (hK:X.K=T.K) (CFc:CF T c) (ho:aI T E X o so) (hf:(T.fields c)[i]? = some f:=by rfl) (hb:attributeBase o f X.env (eval o X.env)=eval o X.env:=by rfl):aI T E X (.Attribute o f pos) (Sm.sFld c i so):=by
 obtain ⟨C,hC,hcl,hna⟩:=CFc.ex
 refine bW (AU ho hb) λσ H Q=>E6x λι h en S er q=>⟨ι,h,en,S,er,q.bind λx h1 ι1 H1 u g1 S1 r1 q1=>?_⟩
 split at q1
 ·rename_i n
  split at q1
  ·rename_i c' fs hn
   split at q1
   ·rename_i ec
    subst ec
    split at q1
    ·rename_i v hv
     cases r1 with
     | @ref _ a hr =>
      obtain ⟨o,e1,C',dx,fus,hC',rfl,nd,hw,hl,hr2⟩:=S1.obj n _ a hn hr
      rw [hC] at hC';cases hC'
      obtain ⟨f',u,e2,e3,r3⟩:=hr2 i v hv
      rw [hf] at e2;cases e2
      exact ⟨a,_,dx,fus,u,rfl,e1,hK▸hcl,hK▸hna f (J6 hf),e3,q1.now S1 r3⟩
    ·exact q1.elim
   ·exact q1.elim
  ·exact q1.elim
 ·exact q1.elim
theorem wq (f:Str) (v:V):∀ {fs:List (Str×V)},(fs.map (·.1)).Nodup->((br f v fs).map (·.1)).Nodup/\∀ g,g∈(br f v fs).map (·.1)->g=f\/g∈fs.map (·.1)
 | [],_=>by simp [br]
 | (g,x)::r,n=>by
  obtain ⟨n1,n2⟩:=KO.mp (show (g::r.map (·.1)).Nodup from n)
  unfold br
  split
  ·rename_i e
   subst e
   exact ⟨n,λk hk=>.inr hk⟩
  ·rename_i e
   obtain ⟨h1,h2⟩:=wq f v (fs:=r) n2
   refine ⟨KO.mpr ⟨λz=>?_,h1⟩,λk hk=>?_⟩
   ·rcases h2 g z with z | z
    ·exact e z
    ·exact n1 z
   ·rcases J4.mp hk with z | z
    ·exact .inr (by rw [z];simp)
    ·rcases h2 k z with z | z
     ·exact .inl z
     ·exact .inr (Km _ z)
theorem wu:∀ {l m:List Str},l.Nodup->(∀ x∈l,x∈m)->l.length<=m.length
 | [],m,_,_=>Ki _
 | x::l,m,n,h=>by
  obtain ⟨n1,n2⟩:=KO.mp n
  have hx:=h x (by simp)
  have:=wu (l:=l) (m:=m.erase x) n2 λy hy=>by
   have ne:y≠x:=λz=>n1 (z▸hy)
   exact (List.mem_erase_of_ne ne).mpr (h y (by simp [hy]))
  rw [NU hx] at this
  have:0<m.length:=List.length_pos_of_mem hx
  simp only [Kj]
  lia
theorem iJ {i:Nat} {f:Str} {p':Pos} (hK:X.K=T.K) (CFc:CF T c) (ho:aI T E X o so) (ha:aI T E X a sa) (hf:(T.fields c)[i]? = some f:=by rfl) (hs:swapsWith a (some (.Attribute o f p')) pos.line X.env=pure false:=by rfl) :
  eQ T E X (.Assign [.Attribute o f p'] a pos) (gZ c i so sa):=by
 obtain ⟨C,hC,hcl,hna⟩:=CFc.ex
 refine fI (AW ho ha hs) λD σ H=>E6x λι h en S er q=>⟨ι,h,en,S,er,q.go er λy h1 ι1 H1 v g1 S1 r1 q1=>⟨ι1,h1,en,S1,er.mono g1,q1.go (er.mono g1) λx h2 ι2 H2 u g2 S2 r2 q2=>?_⟩⟩
 split at q2
 ·rename_i n
  split at q2
  ·rename_i c' fs hn
   split at q2
   ·rename_i ec
    subst ec
    cases r2 with
    | @ref _ a hr =>
     obtain ⟨o,e1,C',dx,fus,hC',rfl,nd,hw,hl,hr2⟩:=S2.obj n _ a hn hr
     rw [hC] at hC';cases hC'
     have hmem:f∈T.fields c' := J6 hf
     have hlen:fus.length<1000:=by
      have:=wu nd (m:=T.fields c') (λx hx=>by
       obtain ⟨p,hp,rfl⟩:=Me.mp hx
       exact hw p hp)
      have:=T.few c'
      rw [JN] at *
      lia
     obtain ⟨k1,k2⟩:=wq f v nd
     have g3:=S2.growSet (u:=.ins C dx (br f v fus)) hr
     refine ⟨a,C,dx,fus,rfl,e1,hK▸hcl,hK▸hna f hmem,hlen,q2 ι2 _ σ g3 (S2.set hr ⟨C,dx,br f v fus,hC,rfl,k1,λp hp=>?_,by simp [hl],λj w hj=>?_⟩) (er.mono (g1.trans (g2.trans g3)))⟩
     ·rcases k2 p.1 (Me.mpr ⟨p,hp,rfl⟩) with z | z
      ·rw [z];exact hmem
      ·obtain ⟨p',hp',e⟩:=Me.mp z
       rw [<- e];exact hw p' hp'
     ·by_cases hji:j=i
      ·subst hji
       have hjl:j<fs.length:=by
        have:=(JA.mp hj).1
        simpa using this
       rw [J0 hjl] at hj
       cases hj
       exact ⟨f,v,hf,by rw [mM,JG rfl],r1.mono (g2.trans g3)⟩
      ·rw [JX (Ne.symm hji)] at hj
       obtain ⟨f',u,e2,e3,r3⟩:=hr2 j w hj
       have ne:f'≠f:=λz=>hji (pB (T.nd c') e2 (z▸hf))
       exact ⟨f',u,e2,by rw [mM,JF ne];exact e3,r3.mono g3⟩
   ·exact (show False from q2).elim
  ·exact (show False from q2).elim
 ·exact (show False from q2).elim
end
end Sm
namespace Sm
open PySem PySem.Spec L2
theorem qR {T:Tb} {ι:Ix} {H:Hp} {k:aH} {u:V} (r:RV T ι H (kA k) u):u=kV k:=by
 cases k with
 | inl i=>exact bq r
 | inr x=>exact (dB r).1
theorem qS {k j:aH} (e:kA k=kA j):k=j:=by
 cases k<;>cases j<;>simp [kA] at e<;>simp [e]
theorem qT:∀ {ks js:List aH},ks.map kA=js.map kA->ks=js
 | [],[],_=>rfl
 | [],_::_,e=>by simp at e
 | _::_,[],e=>by simp at e
 | k::ks,j::js,e=>by
  simp only [J8,On] at e
  rw [qS e.1,qT e.2]
theorem wx {T:Tb} {ι:Ix} {H:Hp}:∀ {ks:List aH} {us:List V},RVs T ι H (ks.map kA) us->us=ks.map kV
 | [],_,.nil=>rfl
 | k::ks,_,.cons r rs=>by rw [qR r,wx rs];rfl
theorem qU {v:AV} {k:aH} (e:keyOf? v=some k):v=kA k:=by
 unfold keyOf? at e
 split at e<;>cases e<;>rfl
theorem nJ:∀ {vs:List AV} {ks:List aH},keysOf? vs=some ks->vs=ks.map kA
 | [],_,e=>by cases e;rfl
 | v::vs,ks,e=>by
  unfold keysOf? at e
  split at e
  ·rename_i k ks' e1 e2
   cases e
   rw [qU e1,nJ e2];rfl
  ·cases e
theorem nK {κ:Type} [DecidableEq κ] {T:Tb} {ι:Ix} {H:Hp} {f:κ->AV} (hf:∀ {a b},f a=f b->a=b) {k:κ}:∀ {kvs:List (AV×AV)} {kus:List (κ×V)},Paired (λ(p:AV×AV) (q:κ×V)=>p.1=f q.1/\RV T ι H p.2 q.2) kvs kus ->
  (aU kvs (f k)=none/\bS kus k=none)\/∃ v u,aU kvs (f k)=some v/\bS kus k=some u/\RV T ι H v u
 | _,_,.nil=>.inl ⟨rfl,rfl⟩
 | (a,v)::kvs,(j,u)::kus,.cons ⟨e,r⟩ rs=>by
  by_cases h:j=k
  ·subst h
   replace e:a=f j:=e
   subst e
   exact .inr ⟨v,u,by simp [aU],mS rfl,r⟩
  ·have h' : ¬ a=f k:=λz=>h (hf (e.symm.trans z))
   rcases nK hf rs (k:=k) with ⟨h1,h2⟩ | ⟨v',u',h1,h2,h3⟩
   ·refine .inl ⟨?_,by rw [kF h];exact h2⟩
    unfold aU at h1 ⊢
    rw [K1,Kh h']
    exact h1
   ·refine .inr ⟨v',u',?_,by rw [kF h];exact h2,h3⟩
    unfold aU at h1 ⊢
    rw [K1,Kh h']
    exact h1
theorem qV {kvs:List (AV×AV)} {k:AV}:(kvs.any λp=>decide (p.1=k))=(aU kvs k).isSome:=by
 induction kvs with
 | nil=>rfl
 | cons p r ih =>
  unfold aU at ih ⊢
  rw [Mn,K1,ih]
  cases h:decide (p.1=k)<;>simp
theorem wy {κ:Type} [DecidableEq κ] {T:Tb} {ι:Ix} {H:Hp} {f:κ->AV} (hf:∀ {a b},f a=f b->a=b) {k:κ} {v:AV} {u:V} (rv:RV T ι H v u) {kvs:List (AV×AV)} {kus:List (κ×V)} (r:Paired (λ(p:AV×AV) (q:κ×V)=>p.1=f q.1/\RV T ι H p.2 q.2) kvs kus) :
  Paired (λ(p:AV×AV) (q:κ×V)=>p.1=f q.1/\RV T ι H p.2 q.2) (dQ kvs (f k) v) (bT kus k u):=by
 have e:(kvs.any λp=>decide (p.1=f k))=kus.any λkv=>decide (kv.1=k):=by
  rw [qV,mT]
  rcases nK hf r (k:=k) with ⟨h1,h2⟩ | ⟨v',u',h1,h2,h3⟩
  ·rw [h1,h2];rfl
  ·rw [h1,h2];rfl
 unfold dQ bT
 rw [e]
 by_cases h:(kus.any λkv=>decide (kv.1=k))=true
 ·rw [JG h,JG h]
  clear e h
  induction r with
  | nil=>exact .nil
  | cons p rs ih =>
   rename_i a b l1 l2
   refine .cons ?_ ih
   obtain ⟨e1,r1⟩:=p
   dsimp only
   by_cases hk:b.1=k
   ·rw [JG hk,JG (by rw [e1,hk])]
    exact ⟨e1,rv⟩
   ·rw [JF hk,JF (λz=>hk (hf (e1.symm.trans z)))]
    exact ⟨e1,r1⟩
 ·rw [JF h,JF h]
  have app:∀ {l1:List (AV×AV)} {l2:List (κ×V)},Paired (λ(p:AV×AV) (q:κ×V)=>p.1=f q.1/\RV T ι H p.2 q.2) l1 l2->Paired (λ(p:AV×AV) (q:κ×V)=>p.1=f q.1/\RV T ι H p.2 q.2) (l1++[(f k,v)]) (l2++[(k,u)]):=λz=>by
   induction z with
   | nil=>exact .cons ⟨rfl,rv⟩ .nil
   | cons p _ ih=>exact .cons p ih
  exact app r
section
variable {T:Tb} {ι:Ix} {h:AH} {H:Hp}
theorem kS {xs:List AV} {u:V} {ks:List aH} (r:RV T ι H (.tup xs) u) (e:keysOf? xs=some ks):∃ b,u = .ref b/\KTup H b ks:=by
 have:=nJ e
 subst this
 cases r with
 | tup n q r=>exact ⟨_,rfl,.of (by rw [<- wx r];exact q)⟩
theorem wz {n:Nat} {t:Bool} {kvs:List (AV×AV)} {y:AV} {a:Addr} {w:V} (S:Sim T ι h H) (hn:h[n]? = some (.dct t kvs)) (hr:ι.refs[n]? = some a) (ry:RV T ι H y w) (hk:fJ t y=true) :
  ∃ o,DGet H a w o/\((aU kvs y=none/\o=none)\/∃ v u,aU kvs y=some v/\o=some u/\RV T ι H v u):=by
 obtain ⟨ob,e1,r⟩:=S.obj n _ a hn hr
 cases t with
 | false =>
  obtain ⟨kus,rfl,r⟩:=r
  have hk':(keyOf? y).isSome=true:=hk
  obtain ⟨k,ek⟩:=Kk.mp hk'
  have:=qU ek
  subst this
  rw [qR ry]
  refine ⟨bS kus k,.k e1,?_⟩
  rcases nK qS r (k:=k) with ⟨h1,h2⟩ | ⟨v',u',h1,h2,h3⟩
  ·exact .inl ⟨h1,h2⟩
  ·exact .inr ⟨v',u',h1,h2,h3⟩
 | true =>
  obtain ⟨kus,rfl,r⟩:=r
  unfold fJ at hk
  split at hk
  ·rename_i hh;cases hh
  ·rename_i xs hh
   obtain ⟨ks,ek⟩:=Kk.mp hk
   obtain ⟨b,rfl,hb⟩:=kS ry ek
   have:=nJ ek
   subst this
   refine ⟨bS kus ks,.t e1 hb,?_⟩
   rcases nK (f:=λks:List aH=>AV.tup (ks.map kA)) (λe=>qT (by injection e)) r (k:=ks) with ⟨h1,h2⟩ | ⟨v',u',h1,h2,h3⟩
   ·exact .inl ⟨h1,h2⟩
   ·exact .inr ⟨v',u',h1,h2,h3⟩
  ·cases hk
theorem DS {n:Nat} {t:Bool} {kvs:List (AV×AV)} {y z:AV} {a:Addr} {w u:V} (S:Sim T ι h H) (hn:h[n]? = some (.dct t kvs)) (hr:ι.refs[n]? = some a) (ry:RV T ι H y w) (rz:RV T ι H z u) (hk:fJ t y=true) (hl:kvs.length<sizeLine) :
  ∃ H',DPut H a w u H'/\Grow ι H ι H'/\Sim T ι (h.set n (.dct t (dQ kvs y z))) H' := by
 obtain ⟨ob,e1,r⟩:=S.obj n _ a hn hr
 cases t with
 | false =>
  obtain ⟨kus,rfl,r⟩:=r
  have hk':(keyOf? y).isSome=true:=hk
  obtain ⟨k,ek⟩:=Kk.mp hk'
  have:=qU ek
  subst this
  rw [qR ry]
  have g:=S.growSet (u:=.dK (bT kus k u)) hr
  exact ⟨_,.k e1 (by rw [<- Paired.length r];exact hl),g,S.set hr ⟨_,rfl,wy qS (rz.mono g) (Paired.mapP r λ_ _ ⟨p,q⟩=>⟨p,q.mono g⟩)⟩⟩
 | true =>
  obtain ⟨kus,rfl,r⟩:=r
  unfold fJ at hk
  split at hk
  ·rename_i hh;cases hh
  ·rename_i xs hh
   obtain ⟨ks,ek⟩:=Kk.mp hk
   obtain ⟨b,rfl,hb⟩:=kS ry ek
   have:=nJ ek
   subst this
   have g:=S.growSet (u:=.dT none (bT kus ks u)) hr
   exact ⟨_,.t e1 hb (by rw [<- Paired.length r];exact hl),g,S.set hr ⟨_,rfl,wy (f:=λks:List aH=>AV.tup (ks.map kA)) (λe=>qT (by injection e)) (rz.mono g) (Paired.mapP r λ_ _ ⟨p,q⟩=>⟨p,q.mono g⟩)⟩⟩
  ·cases hk
theorem RVs.atI {xs:List AV} {us:List V} {i:Int} {v:AV} (r:RVs T ι H xs us) (e:atI xs i=some v):∃ u,L2.atI us i=some u/\RV T ι H v u:=by
 unfold L2.atI at e ⊢
 rw [<- r.length]
 obtain ⟨j,e1,e2⟩:=Option.bind_eq_some_iff.mp e
 obtain ⟨u,e3,r3⟩:=r.get e2
 exact ⟨u,by rw [e1];exact e3,r3⟩
end
section
variable {T:Tb} {E:St->XK} {X:Cx} {pos:Pos} {a b c:Expr} {sa sb sc:SE}
theorem DT {e:Expr} {t t':TE} (h:PE X e t) (h':PE X e t'):PE X e (λσ H Q=>t σ H Q\/t' σ H Q):=λpins s σ H Q I q=>q.elim (h pins s σ H Q I) (h' pins s σ H Q I)
theorem DU {e:Stmt} {t t':TS} (h:PS X e t) (h':PS X e t'):PS X e (λD σ H=>t D σ H\/t' D σ H):=λpins s σ H Q I q=>q.elim (h pins s σ H Q I) (h' pins s σ H Q I)
theorem ay (hK:X.K=T.K) (hu:X.A.units+64<cLine) (ha:aI T E X a sa) (hb:aI T E X b sb) (hs:vn b:=by exact λ_ _=>rfl):aI T E X (.Subscript a b pos) (ai aC sa sb):=by
 refine bW (DT (Bf Bh ha hb hs) (BJ (J9 (Ko (by decide:1<=64) _) hu) ha hb hs)) λσ H Q q=>?_
 obtain ⟨ι,h,en,S,er,q⟩:=q
 have left:(∀ x h1 y h2,sa en h = .ok x h1->sb en h1 = .ok y h2->∀ n t kvs,x = .ref n->h2[n]? = some (.dct t kvs)->False)->jL (vo X.K) (tE T E sa) (tE T E sb) σ H Q:=λno=>by
  refine ⟨ι,h,en,S,er,?_⟩
  unfold ai at q
  cases e1:sa en h with
  | bad=>rw [e1] at q;exact q
  | ex c h1=>rw [e1] at q;exact q
  | ok x h1 =>
   rw [e1] at q
   intro ι1 H1 u g1 S1 r1
   refine ⟨ι1,h1,en,S1,er.mono g1,?_⟩
   dsimp only [Out.bind] at q
   cases e2:sb en h1 with
   | bad=>rw [e2] at q;exact q
   | ex c h2=>rw [e2] at q;exact Post.shift (R:=RV T) (o:=.ex c h2) q g1
   | ok y h2 =>
    rw [e2] at q
    intro ι2 H2 w g2 S2 r2
    have q2:=Post.shift q (g1.trans g2)
    have r1' := r1.mono g2
    dsimp only at q2
    unfold aC at q2
    split at q2
    ·rename_i z i
     split at q2
     ·rename_i cc hc
      obtain ⟨rfl,zl,zo⟩:=dB r1'
      rw [bq r2]
      refine .inr (.inr ⟨z,i,cc,rfl,rfl,zl,hc,q2.now S2 (.str (show 1<=sizeLine by decide) ?_)⟩)
      obtain ⟨j,_,e3,_⟩:=mQ hc
      have m:cc∈z.cps:=by
       have:=J6 e3
       simpa using this
      have:=LH.mp zo _ m
      simpa using this
     ·exact q2.elim
    ·rename_i xs i
     split at q2
     ·rename_i v hv
      obtain ⟨b,us,rfl,sq,rs⟩:=jn r1'
      obtain ⟨u2,e3,r3⟩:=rs.atI hv
      rw [bq r2]
      exact .inr (.inl ⟨b,us,i,u2,rfl,rfl,hK▸sq,e3,q2.now S2 r3⟩)
     ·exact q2.elim
    ·rename_i xs i
     split at q2
     ·rename_i v hv
      obtain ⟨b,us,rfl,sq,rs⟩:=dG S2 r1' rfl
      obtain ⟨u2,e3,r3⟩:=rs.atI hv
      rw [bq r2]
      exact .inl ⟨b,us,i,u2,rfl,rfl,hK▸sq,e3,q2.now S2 r3⟩
     ·exact q2.elim
    ·rename_i n
     split at q2
     ·rename_i xs hn
      split at q2
      ·rename_i i
       split at q2
       ·rename_i v hv
        obtain ⟨b,us,rfl,sq,rs⟩:=dG (xs:=xs) S2 r1' (by simp [cf,hn])
        obtain ⟨u2,e3,r3⟩:=rs.atI hv
        rw [bq r2]
        exact .inl ⟨b,us,i,u2,rfl,rfl,hK▸sq,e3,q2.now S2 r3⟩
       ·exact q2.elim
      ·exact q2.elim
     ·rename_i t kvs hn
      exact (no _ h1 _ h2 e1 e2 n t kvs rfl hn).elim
     ·exact q2.elim
    ·exact q2.elim
 by_cases dd:∃ x h1 y h2,sa en h = .ok x h1/\sb en h1 = .ok y h2/\∃ n t kvs,x = .ref n/\h2[n]? = some (.dct t kvs)
 ·obtain ⟨x,h1,y,h2,e1,e2,n,t,kvs,rfl,hn⟩:=dd
  refine .inr ⟨ι,h,en,S,er,?_⟩
  unfold ai at q
  rw [e1] at q ⊢
  intro ι1 H1 u g1 S1 r1
  refine ⟨ι1,h1,en,S1,er.mono g1,?_⟩
  dsimp only [Out.bind] at q
  rw [e2] at q ⊢
  intro ι2 H2 w g2 S2 r2
  have q2:=Post.shift q (g1.trans g2)
  have r1' := r1.mono g2
  dsimp only at q2
  unfold aC at q2
  simp only [hn] at q2
  split at q2
  ·rename_i hk
   cases r1' with
   | @ref _ ad hr =>
    obtain ⟨o,dg,alt⟩:=wz S2 hn hr r2 hk
    rcases alt with ⟨v1,rfl⟩ | ⟨v,u,v1,rfl,r3⟩
    ·rw [v1] at q2;exact q2.elim
    ·rw [v1] at q2
     exact ⟨ad,u,rfl,dg,q2.now S2 r3⟩
  ·exact q2.elim
 ·exact .inl (left λx h1 y h2 e1 e2 n t kvs e3 e4=>dd ⟨x,h1,y,h2,e1,e2,n,t,kvs,e3,e4⟩)
theorem qW {p':Pos} (hu:X.A.units+64<cLine) (ho:aI T E X a sa) (hi:aI T E X b sb) (hv:aI T E X c sc) (hs:swapsWith c (some (.Subscript a b p')) pos.line X.env=pure false:=by rfl) (hs':swapsWithSole [.Subscript a b p'] c pos.line X.env=pure false:=by rfl) (hw:swappedStores [.Subscript a b p'] c X.env=pure none:=by rfl)
  (h1:(assignEach [.Subscript a b p'] X.env).map (·.2)=[assign (.Subscript a b p') X.env]:=by rfl)
  (has:∀ v,assign (.Subscript a b p') X.env v=(do
   let ov <- holding [v] (eval a X.env)
   let iv <- holding [v,ov] (eval b X.env)
   standAt p'
   holding [v,ov,iv] (setItem ov iv v)
   release [v,ov,iv] []):=by intro _;rfl):eQ T E X (.Assign [.Subscript a b p'] c pos) (iF sa sb sc):=by
 refine fI (DU (z7 hv (zZ ho hi Bk has) hs' hw h1) (BK (J9 (Ko (by decide:1<=64) _) hu) ho hi hv hs)) λD σ H q=>?_
 obtain ⟨ι,h,en,S,er,q⟩:=q
 unfold iF at q
 by_cases dd:∃ z h1 x h2 y h3,sc en h = .ok z h1/\sa en h1 = .ok x h2/\sb en h2 = .ok y h3/\∃ n t kvs,x = .ref n/\h3[n]? = some (.dct t kvs)
 ·obtain ⟨z,h1,x,h2,y,h3,e1,e2,e3,n,t,kvs,rfl,hn⟩:=dd
  refine .inr ⟨ι,h,en,S,er,?_⟩
  rw [e1] at q ⊢
  intro ι1 H1 u g1 S1 r1
  refine ⟨ι1,h1,en,S1,er.mono g1,?_⟩
  dsimp only [Out.go] at q
  rw [e2] at q ⊢
  intro ι2 H2 w g2 S2 r2
  refine ⟨ι2,h2,en,S2,er.mono (g1.trans g2),?_⟩
  dsimp only at q
  rw [e3] at q ⊢
  intro ι3 H3 j g3 S3 r3
  have q2:=PostS.shift q (g1.trans (g2.trans g3))
  simp only [hn] at q2
  split at q2
  ·rename_i hk
   cases (r2.mono g3) with
   | @ref _ ad hr =>
    obtain ⟨H4,dp,g4,S4⟩:=DS S3 hn hr r3 (r1.mono (g2.trans g3)) hk.1 hk.2
    exact ⟨ad,H4,rfl,dp,q2 ι3 H4 σ g4 S4 (er.mono (g1.trans (g2.trans (g3.trans g4))))⟩
  ·exact q2.elim
 ·refine .inl ⟨ι,h,en,S,er,?_⟩
  cases e1:sc en h with
  | bad=>rw [e1] at q;exact q
  | ex cc h1=>rw [e1] at q;exact λi2 H2 C g S e=>q i2 H2 σ C g S (er.mono g) e
  | ok z h1 =>
   rw [e1] at q
   intro ι1 H1 u g1 S1 r1
   refine ⟨ι1,h1,en,S1,er.mono g1,?_⟩
   dsimp only [Out.go] at q
   cases e2:sa en h1 with
   | bad=>rw [e2] at q;exact q
   | ex cc h2=>rw [e2] at q;exact λi2 H2 C g S e=>q i2 H2 σ C (g1.trans g) S (er.mono (g1.trans g)) e
   | ok x h2 =>
    rw [e2] at q
    intro ι2 H2 w g2 S2 r2
    refine ⟨ι2,h2,en,S2,er.mono (g1.trans g2),?_⟩
    dsimp only at q
    cases e3:sb en h2 with
    | bad=>rw [e3] at q;exact q
    | ex cc h3=>rw [e3] at q;exact λi2 H2 C g S e=>q i2 H2 σ C (g1.trans (g2.trans g)) S (er.mono (g1.trans (g2.trans g))) e
    | ok y h3 =>
     rw [e3] at q
     intro ι3 H3 j g3 S3 r3
     have q2:=PostS.shift q (g1.trans (g2.trans g3))
     dsimp only at q2
     split at q2
     ·rename_i n
      split at q2
      ·rename_i xs hn
       split at q2
       ·rename_i k
        split at q2
        ·rename_i jj hj
         cases (r2.mono g3) with
         | @ref _ ad hr =>
          obtain ⟨o,e4,us,rfl,rs⟩:=S3.obj n _ ad hn hr
          have g4:=S3.growSet (u:=.lst (us.set jj u)) hr
          rw [bq r3]
          exact ⟨ad,us,k,jj,rfl,rfl,e4,by rw [<- rs.length];exact hj,q2 ι3 _ σ g4 (S3.set hr ⟨_,rfl,RVs.set (r1.mono (g2.trans (g3.trans g4))) jj (rs.mono g4)⟩) (er.mono (g1.trans (g2.trans (g3.trans g4))))⟩
        ·exact q2.elim
       ·exact q2.elim
      ·rename_i t kvs hn
       exact (dd ⟨_,h1,_,h2,_,h3,e1,e2,e3,n,t,kvs,rfl,hn⟩).elim
      ·exact q2.elim
     ·exact q2.elim
theorem wA {g:Value->Value->Sem Value} {r:R2} {neg:Bool} (hK:X.K=T.K)
  (h1:∀ (i j:Str) H Q,Q (V.bl (if neg then !(!(Builtin.Str.occurrences j i 0 j.length 1).isEmpty) else !(Builtin.Str.occurrences j i 0 j.length 1).isEmpty)) H->r (.str i) (.str j) H Q)
  (h2:∀ x y H Q p xs d ds,y=V.ref p->SqL T.K H p xs->DaV T.K H x d->DaVs T.K H xs ds->d.canLay0=true->(∀ e∈ds,e.canLay0=true/\e.depth<=30)->Q (V.bl (if neg then !(ds.any λe=>PyData.eqv e d) else ds.any λe=>PyData.eqv e d)) H->r x y H Q)
  (h2t:∀ x y H Q p xs d ds,y=V.ref p->SqT T.K H p xs->DaV T.K H x d->DaVs T.K H xs ds->d.canLay0=true->(∀ e∈ds,e.canLay0=true/\e.depth<=30)->Q (V.bl (if neg then !(ds.any λe=>PyData.eqv e d) else ds.any λe=>PyData.eqv e d)) H->r x y H Q)
  (h3:∀ (y:V) (a:Addr) o H Q,DGet H a y o->Q (V.bl (if neg then !o.isSome else o.isSome)) H->r y (.ref a) H Q) :
  jP T (λx y h=>match g8 x y h with | some b=>.ok (.bl (if neg then !b else b)) h | none=>.bad) r:=by
 intro ι h H x y u w E Q S rx ry p
 dsimp only at p
 cases hb:g8 x y h with
 | none=>rw [hb] at p;exact p.elim
 | some b =>
  rw [hb] at p
  dsimp only at p
  unfold g8 at hb
  split at hb
  ·cases hb
   obtain ⟨rfl,_⟩:=dB rx
   obtain ⟨rfl,_⟩:=dB ry
   exact h1 _ _ _ _ (p.now S (.bl _))
  ·rename_i n
   split at hb
   ·rename_i t kvs hn
    split at hb
    ·rename_i hk
     cases hb
     cases ry with
     | @ref _ ad hr =>
      obtain ⟨o,dg,alt⟩:=wz S hn hr rx hk
      refine h3 u ad o H Q dg ?_
      rcases alt with ⟨v1,rfl⟩ | ⟨v,u',v1,rfl,r3⟩
      ·rw [v1] at p;exact p.now S (.bl _)
      ·rw [v1] at p;exact p.now S (.bl _)
    ·cases hb
   ·rename_i xs hn
    split at hb
    ·rename_i d ds e1 e2
     cases hb
     obtain ⟨a,us,rfl,sq,rs⟩:=dG (xs:=xs) S ry (by simp [cf,hn])
     obtain ⟨q1,q2,q3⟩:=hJ S 8 rx e1
     obtain ⟨q4,q5⟩:=kQ (n:=8) (λr e=>hJ S 8 r e) rs e2
     exact h2 _ _ _ _ a us d ds rfl sq q1 q4 q2 (λe he=>⟨(q5 e he).1,by have:=(q5 e he).2;lia⟩) (p.now S (.bl _))
    ·cases hb
   ·cases hb
  ·rename_i xs
   split at hb
   ·rename_i d ds e1 e2
    cases hb
    obtain ⟨a,us,rfl,sq,rs⟩:=dG S ry rfl
    obtain ⟨q1,q2,q3⟩:=hJ S 8 rx e1
    obtain ⟨q4,q5⟩:=kQ (n:=8) (λr e=>hJ S 8 r e) rs e2
    exact h2 _ _ _ _ a us d ds rfl sq q1 q4 q2 (λe he=>⟨(q5 e he).1,by have:=(q5 e he).2;lia⟩) (p.now S (.bl _))
   ·cases hb
  ·rename_i xs
   split at hb
   ·rename_i d ds e1 e2
    cases hb
    obtain ⟨a,us,rfl,sq,rs⟩:=jn ry
    obtain ⟨q1,q2,q3⟩:=hJ S 8 rx e1
    obtain ⟨q4,q5⟩:=kQ (n:=8) (λr e=>hJ S 8 r e) rs e2
    exact h2t _ _ _ _ a us d ds rfl sq q1 q4 q2 (λe he=>⟨(q5 e he).1,by have:=(q5 e he).2;lia⟩) (p.now S (.bl _))
   ·cases hb
  ·cases hb
end
end Sm
namespace L2
open PySem PySem.Spec PyProof.Rows
section
variable {X:Cx} {pins:List (Addr×Obj)} {σ:St} {H:Hp} {s:Shared}
theorem qX (I:Inv X pins σ H s) (hu:X.A.units+64<cLine) {xs:List V} {ds:List PyData} {its:List Value} {d:PyData} {v:Value} {as:List Addr} (ra:Reads s.heap v d as) (hds:DaVs X.K H xs ds) (r:Vals xs its) (cd:d.canLay0=true) (cds:∀ e∈ds,e.canLay0=true/\e.depth<=30) :
  (∀ y,y∈its.toArray->SeqAt.EqAt X.A.in1 s y v (fW s.heap d y))/\its.toArray.any (fW s.heap d)=ds.any λe=>PyData.eqv e d:=by
 obtain ⟨hl,hat⟩:=qt I hds r
 constructor
 ·intro y hy
  have hy':y∈its:=by simpa using hy
  obtain ⟨j,hj⟩:=OA hy'
  have hlt:=(JA.mp hj).1
  have hdj:ds[j]? = some (ds[j]'(by lia)):=JU (by lia)
  obtain ⟨bs,rb⟩:=hat j _ _ hj hdj
  have cj:=cds _ (J6 hdj)
  rw [mZ cj.1 rb]
  exact SeqAt.eqAt_reads _ _ _ _ _ _ _ _ rb ra cj.1 cd (by
   have:=Ni (ds[j]'(by lia)).depth d.depth
   show X.A.units+1+_<cLine
   lia)
 ·rw [<- Array.any_toList]
  refine qv hl λj u e h1 h2=>?_
  obtain ⟨bs,rb⟩:=hat j _ _ h1 h2
  exact mZ (cds _ (J6 h2)).1 rb
noncomputable def DV (K:PySem.W.Frag):R2:=λx y H Q=>∃ p xs d ds,y = .ref p/\SqL K H p xs/\DaV K H x d/\DaVs K H xs ds/\d.canLay0=true/\(∀ e∈ds,e.canLay0=true/\e.depth<=30)/\Q (.bl (!(ds.any λe=>PyData.eqv e d))) H
noncomputable def DW (K:PySem.W.Frag):R2:=λx y H Q=>∃ p xs d ds,y = .ref p/\SqT K H p xs/\DaV K H x d/\DaVs K H xs ds/\d.canLay0=true/\(∀ e∈ds,e.canLay0=true/\e.depth<=30)/\Q (.bl (ds.any λe=>PyData.eqv e d)) H
noncomputable def DX (K:PySem.W.Frag):R2:=λx y H Q=>∃ p xs d ds,y = .ref p/\SqT K H p xs/\DaV K H x d/\DaVs K H xs ds/\d.canLay0=true/\(∀ e∈ds,e.canLay0=true/\e.depth<=30)/\Q (.bl (!(ds.any λe=>PyData.eqv e d))) H
theorem DY (hu:X.A.units+64<cLine):OpR X (compareOp .NotIn) (DV X.K):=by
 intro pins s σ H x y v u Q I rx ry h
 obtain ⟨p,xs,d,ds,rfl,hq,hd,hds,cd,cds,q⟩:=h
 cases ry
 obtain ⟨its,r,pl,hz⟩:=I.list hq
 obtain ⟨as,ra⟩:=hd.reads I rx
 obtain ⟨h1,h2⟩:=qX I hu ra hds r cd cds
 exact SeqAt.notIn_listAt (fW s.heap d) pl.isList h1 ⟨.bl _,H,I,rfl,by rw [h2];exact q⟩
theorem DZ (hu:X.A.units+64<cLine):OpR X (compareOp .In) (DW X.K):=by
 intro pins s σ H x y v u Q I rx ry h
 obtain ⟨p,xs,d,ds,rfl,hq,hd,hds,cd,cds,q⟩:=h
 cases ry
 obtain ⟨its,r,pl,hz⟩:=I.tuple hq
 obtain ⟨as,ra⟩:=hd.reads I rx
 obtain ⟨h1,h2⟩:=qX I hu ra hds r cd cds
 exact SeqAt.in_tupleAt (fW s.heap d) pl h1 ⟨.bl _,H,I,rfl,by rw [h2];exact q⟩
theorem D0 (hu:X.A.units+64<cLine):OpR X (compareOp .NotIn) (DX X.K):=by
 intro pins s σ H x y v u Q I rx ry h
 obtain ⟨p,xs,d,ds,rfl,hq,hd,hds,cd,cds,q⟩:=h
 cases ry
 obtain ⟨its,r,pl,hz⟩:=I.tuple hq
 obtain ⟨as,ra⟩:=hd.reads I rx
 obtain ⟨h1,h2⟩:=qX I hu ra hds r cd cds
 exact SeqAt.notIn_tupleAt (fW s.heap d) pl h1 ⟨.bl _,H,I,rfl,by rw [h2];exact q⟩
theorem D2 (hu:X.A.units+64<cLine):OpR X (compareOp .In) (λx y H Q=>∃ a o,y = .ref a/\DGet H a x o/\Q (.bl o.isSome) H):=by
 intro pins s σ H x y v u Q I rx ry h
 obtain ⟨a,o,rfl,g,q⟩:=h
 cases ry
 exact qe (J9 (Ko (by decide:1<=64) _) hu) I g rx λs' I' => ⟨.bl _,H,I',rfl,q⟩
theorem D3 (hu:X.A.units+64<cLine):OpR X (compareOp .NotIn) (λx y H Q=>∃ a o,y = .ref a/\DGet H a x o/\Q (.bl (!o.isSome)) H):=by
 intro pins s σ H x y v u Q I rx ry h
 obtain ⟨a,o,rfl,g,q⟩:=h
 cases ry
 exact BB (J9 (Ko (by decide:1<=64) _) hu) I g rx λs' I' => ⟨.bl _,H,I',rfl,q⟩
end
end L2
namespace Sm
open PySem PySem.Spec L2
section
variable {T:Tb} {E:St->XK} {X:Cx}
theorem kT (hK:X.K=T.K) (hu:X.A.units+64<cLine):Op T X (compareOp .In) d7:=by
 refine ⟨_,zg9.or ((CN hu).or ((DZ hu).or (D2 hu))),wA (neg:=false) (g:=compareOp .In) hK ?_ ?_ ?_ ?_⟩
 ·exact λi j H Q q=>.inl ⟨i,j,rfl,rfl,q⟩
 ·exact λx y H Q p xs d ds e1 e2 e3 e4 e5 e6 q=>.inr (.inl ⟨p,xs,d,ds,e1,hK▸e2,hK▸e3,hK▸e4,e5,e6,q⟩)
 ·exact λx y H Q p xs d ds e1 e2 e3 e4 e5 e6 q=>.inr (.inr (.inl ⟨p,xs,d,ds,e1,hK▸e2,hK▸e3,hK▸e4,e5,e6,q⟩))
 ·exact λy a o H Q g q=>.inr (.inr (.inr ⟨a,o,rfl,g,q⟩))
theorem qY (hK:X.K=T.K) (hu:X.A.units+64<cLine):Op T X (compareOp .NotIn) gG:=by
 refine ⟨_,zes.or ((DY hu).or ((D0 hu).or (D3 hu))),wA (neg:=true) (g:=compareOp .NotIn) hK ?_ ?_ ?_ ?_⟩
 ·exact λi j H Q q=>.inl ⟨i,j,rfl,rfl,q⟩
 ·exact λx y H Q p xs d ds e1 e2 e3 e4 e5 e6 q=>.inr (.inl ⟨p,xs,d,ds,e1,hK▸e2,hK▸e3,hK▸e4,e5,e6,q⟩)
 ·exact λx y H Q p xs d ds e1 e2 e3 e4 e5 e6 q=>.inr (.inr (.inl ⟨p,xs,d,ds,e1,hK▸e2,hK▸e3,hK▸e4,e5,e6,q⟩))
 ·exact λy a o H Q g q=>.inr (.inr (.inr ⟨a,o,rfl,g,q⟩))
end
end Sm
namespace Sm
open PySem PySem.Spec L2
noncomputable abbrev qZ (x:Str) (C:Addr) (mg:Str->Option Value) (base:Heap):Prop:=PyProof.Rows.OwnCls x C [.type "ValueError",.type "Exception",.type "BaseException",.type "object"] "ValueError.__new__" mg base
structure GX (T:Tb) (mg:Str->Option Value) (base:Heap) (c:Nat) (x:Str):Prop where
 ex:∃ C,T.exc c=some C/\qZ x C mg base
section
variable {T:Tb} {E:St->XK} {X:Cx} {pos np cpos:Pos} {e:Expr} {es:List Expr} {x:Str} {c:Nat} {as:SL}
theorem iK (G:GX T X.mg X.base c x) (hr:qm X E) (hg:Gl X x) (ha:fH T E X (e::es) as) (h6:c<64:=by decide) (hc:X.calm=true:=by rfl) (hex:X.ex=[]:=by rfl)
  (hdb:(x == ("__debug__" : Str))=false:=by decide) (he:starEach (e::es) X.env=(false,eval e X.env)::starEach es X.env:=by rfl) (hpl:(backTo cpos (starEach es X.env)).any (·.1)=false:=by rfl) :
  eQ T E X (.Raise (some (.Call (.Name x np) (e::es) [] cpos)) none pos) (g7 c as):=by
 obtain ⟨C,h1,O⟩:=G.ex
 refine fI (CD O PySem.F.excBase_ValueError hc hex hr hg ha hdb he hpl) λD σ H=>E6x λι h en S er q=>⟨ι,h,en,S,er,q.go er λxs h1' ι1 H1 us g1 S1 r1 q1=>?_⟩
 split at q1
 ·rename_i hl
  exact ⟨by rw [<- r1.length];exact hl,q1 ι1 H1 σ (C,none) S1.refl S1 (er.mono g1) ⟨h1,Dc h6⟩⟩
 ·exact q1.elim
end
noncomputable def gJ (T:Tb) (f:Fn) (r:List V->Hp->VK->Prop):Prop:=∀ (ι:Ix) (h:AH) (H:Hp) (xs:List AV) (us:List V) (E:XK) (Q:VK),Sim T ι h H->RVs T ι H xs us->Post T ι H E (RV T) (f xs h) Q->r us H Q
section
variable {T:Tb} {E:St->XK} {X:Cx} {pos p:Pos} {e a:Expr} {es:List Expr} {x:Str} {as:SL} {sa:SE}
theorem wB {f:Fn} {r:List V->Hp->VK->Prop} (hs:gJ T f r) {σ:St} {H:Hp} {Q:VK} (q:tE T E (aE f as) σ H Q):pW r (tA T E as) σ H Q:=by
 obtain ⟨ι,h,en,S,er,q⟩:=q
 exact ⟨ι,h,en,S,er,q.bind λxs h1 ι1 H1 us g1 S1 r1 q1=>hs ι1 h1 H1 xs us _ Q S1 r1 q1⟩
theorem bA {id:String} {f:Fn} (hc:∃ r,CallR X (.builtin id) r/\gJ T f r) (hg:Gl X x) (hm:X.mg x=none) (hv:bootBuiltins x=some (.builtin id)) (ha:fH T E X (e::es) as) (hn:x ≠ "__name__" := by decide) (hdb:(x == ("__debug__" : Str))=false:=by decide)
  (he:starEach (e::es) X.env=(false,eval e X.env)::starEach es X.env:=by rfl) (hpl:(backTo pos (starEach es X.env)).any (·.1)=false:=by rfl):aI T E X (.Call (.Name x p) (e::es) [] pos) (aE f as):=by
 obtain ⟨r,h1,h2⟩:=hc
 exact bW (vf h1 hg hm hv ha hn hdb he hpl) λσ H Q q=>wB h2 q
theorem rf {id:String} {f:Fn} (hc:∃ r,CallR X (.type id) r/\gJ T f r) (hg:Gl X x) (hm:X.mg x=none) (hv:bootBuiltins x=some (.type id)) (ha:fH T E X (e::es) as) (hn:x ≠ "__name__" := by decide) (hdb:(x == ("__debug__" : Str))=false:=by decide)
  (he:starEach (e::es) X.env=(false,eval e X.env)::starEach es X.env:=by rfl) (hpl:(backTo pos (starEach es X.env)).any (·.1)=false:=by rfl):aI T E X (.Call (.Name x p) (e::es) [] pos) (aE f as):=by
 obtain ⟨r,h1,h2⟩:=hc
 exact bW (A5 h1 hg hm hv ha hn hdb he hpl) λσ H Q q=>wB h2 q
theorem b_len (hK:X.K=T.K):∃ r,CallR X (.builtin "len") r/\gJ T aP r:=by
 refine ⟨_,zeu.or (zet.or BX),λι h H xs us E Q S r q=>?_⟩
 unfold aP at q
 split at q
 ·cases r with
  | cons r r' =>
   cases r'
   obtain ⟨rfl,n,_⟩:=dB r
   exact .inl ⟨_,rfl,n,q.now S (.int _)⟩
 ·cases r with
  | cons r r' =>
   cases r'
   obtain ⟨a,us,rfl,sq,rs⟩:=jn r
   exact .inr (.inl ⟨a,us,rfl,.inr (hK▸sq),by rw [<- rs.length];exact q.now S (.int _)⟩)
 ·cases r with
  | cons r r' =>
   cases r'
   obtain ⟨a,us,rfl,sq,rs⟩:=dG S r rfl
   exact .inr (.inl ⟨a,us,rfl,.inl (hK▸sq),by rw [<- rs.length];exact q.now S (.int _)⟩)
 ·rename_i n
  cases r with
  | cons r r' =>
   cases r'
   split at q
   ·rename_i xs hn
    obtain ⟨a,us,rfl,sq,rs⟩:=dG (xs:=xs) S r (by simp [cf,hn])
    exact .inr (.inl ⟨a,us,rfl,.inl (hK▸sq),by rw [<- rs.length];exact q.now S (.int _)⟩)
   ·rename_i kvs hn
    cases r with
    | @ref _ ad hr =>
     obtain ⟨o,e1,kus,rfl,rs⟩:=S.obj n _ ad hn hr
     exact .inr (.inr ⟨ad,kus,rfl,e1,by rw [<- Paired.length rs];exact q.now S (.int _)⟩)
   ·exact q.elim
 ·exact q.elim
theorem b_abs:∃ r,CallR X (.builtin "abs") r/\gJ T jl r:=by
 refine ⟨_,AF,λι h H xs us E Q S r q=>?_⟩
 unfold jl at q
 split at q
 ·cases r with
  | cons r r' => cases r';rw [bq r];exact ⟨_,rfl,q.now S (.int _)⟩
 ·exact q.elim
theorem D4 (hc:X.calm=true:=by rfl):∃ r,CallR X (.builtin "max") r/\gJ T qD r:=by
 refine ⟨_,AG hc,λι h H xs us E Q S r q=>?_⟩
 unfold qD at q
 split at q
 ·cases r with
  | cons r r' => cases r' with
   | cons r1 r2=>cases r2;rw [bq r,bq r1];exact ⟨_,_,rfl,q.now S (.int _)⟩
 ·exact q.elim
theorem wC {ι:Ix} {H:Hp}:∀ {xs:List AV} {us:List V} {bs:List Bool},RVs T ι H xs us->kP xs=some bs->us=bs.map V.bl
 | _,_,_,.nil,e=>by cases e;rfl
 | _,_,bs,.cons (x:=x) r rs,e=>by
  unfold kP at e
  split at e
  ·rename_i hh;cases hh
  ·rename_i b r' hh
   cases hh
   obtain ⟨bs',e1,rfl⟩:=J5.mp e
   rw [hE r,wC rs e1];rfl
  ·cases e
theorem b_all (hK:X.K=T.K) (hc:X.calm=true:=by rfl):∃ r,CallR X (.builtin "all") r/\gJ T jm r:=by
 refine ⟨_,Cd hc,λι h H xs us E Q S r q=>?_⟩
 unfold jm at q
 split at q
 ·split at q
  ·rename_i bs hb
   cases r with
   | cons r r' =>
    cases r'
    obtain ⟨a,us,rfl,sq,rs⟩:=dG S r rfl
    rw [wC rs hb] at sq
    exact ⟨a,bs,rfl,hK▸sq,q.now S (.bl _)⟩
  ·exact q.elim
 ·exact q.elim
theorem b_list (hK:X.K=T.K):∃ r,CallR X (.type "list") r/\gJ T jO r:=by
 refine ⟨_,Bm,λι h H xs us E Q S r q=>?_⟩
 unfold jO at q
 split at q
 ·cases r with
  | cons r r' =>
   cases r'
   obtain ⟨a,us,rfl,sq,rs⟩:=jn r
   exact ⟨a,us,rfl,.inr (hK▸sq),λl n=>iG S rs n q⟩
 ·cases r with
  | cons r r' =>
   cases r'
   obtain ⟨a,us,rfl,sq,rs⟩:=dG S r rfl
   exact ⟨a,us,rfl,.inl (hK▸sq),λl n=>iG S rs n q⟩
 ·cases r with
  | cons r r' =>
   cases r'
   split at q
   ·rename_i xs hn
    obtain ⟨a,us,rfl,sq,rs⟩:=dG (xs:=xs) S r (by simp [cf,hn])
    exact ⟨a,us,rfl,.inl (hK▸sq),λl n=>iG S rs n q⟩
   ·exact q.elim
 ·exact q.elim
noncomputable abbrev kU:List String:=["NoneType", "bool", "int", "str", "list", "tuple", "dict"]
theorem wD (K:PySem.W.Frag):∀ n∈kU,∀ t∈kU,PySem.W.kitOne K (.type n) (.type t)=some (n == t || (t == "int" && n == "bool")):=by
 intro n hn t ht
 simp only [kU,J4,K8,Nh] at hn ht
 rcases hn with rfl | rfl | rfl | rfl | rfl | rfl | rfl<;>rcases ht with rfl | rfl | rfl | rfl | rfl | rfl | rfl<;>rfl
theorem D5 {c:V} {cv:Value} (rc:∀ u,RelV c u->u=cv) :
  CallR X (.builtin "isinstance") (λxs H Q=>∃ a us r,xs=[.ref a,c]/\SqL X.K H a us/\PySem.W.kitOne X.K (.type "list") cv=some r/\Q (.bl r) H):=by
 intro pins s σ H xs us Q I r h
 obtain ⟨a,ws,k,rfl,sq,hk,q⟩:=h
 obtain ⟨u,w',rfl,rx,ry⟩:=pP r
 obtain rfl:=rc _ ry
 obtain rfl:u=Value.ref a:=rx
 obtain ⟨its,_,⟨o,n,e1,e2,_⟩,_⟩:=I.list sq
 exact KN NL I.kIn ⟨_,e1,e2⟩ hk (λz=>nomatch z) λtk=>⟨.bl k,H,I.tok _,rfl,q⟩
theorem D6 {ι:Ix} {h:AH} {H:Hp} {v:AV} {u:V} {n:String} (S:Sim T ι h H) (r:RV T ι H v u) (e:nq v h=some n):(cy T.K H u (.type n)\/(n = "list" /\ ∃ a us,u = .ref a/\SqL T.K H a us))/\n∈kU:=by
 unfold nq at e
 cases r with
 | non=>cases e;exact ⟨.inl .non,by decide⟩
 | bl b=>cases e;exact ⟨.inl (.bl b),by decide⟩
 | int b=>cases e;exact ⟨.inl (.int b),by decide⟩
 | str n o=>cases e;exact ⟨.inl (.str _),by decide⟩
 | tup n q r=>cases e;exact ⟨.inl (.tup q),by decide⟩
 | fl n q r=>cases e;exact ⟨.inr ⟨rfl,_,_,rfl,.inl q⟩,by decide⟩
 | kfl q r=>cases e;exact ⟨.inr ⟨rfl,_,_,rfl,.inr q⟩,by decide⟩
 | @ref k a q =>
  dsimp only at e
  split at e
  ·rename_i xs hn
   cases e
   obtain ⟨o,e1,us,rfl,rs⟩:=S.obj k _ a hn q
   exact ⟨.inl (.lst e1),by decide⟩
  ·rename_i t kvs hn
   cases e
   obtain ⟨o,e1,r⟩:=S.obj k _ a hn q
   cases t with
   | false=>obtain ⟨kus,rfl,rs⟩:=r;exact ⟨.inl (.dK e1),by decide⟩
   | true=>obtain ⟨kus,rfl,rs⟩:=r;exact ⟨.inl (.dT e1),by decide⟩
  ·cases e
 | exc _ _ _=>cases e
theorem kW {t:Str} {id:String} {p2:Pos} (hK:X.K=T.K) (hg:Gl X "isinstance") (hm:X.mg "isinstance" = none) (ha:aI T E X a sa) (hgt:Gl X t) (hmt:X.mg t=none) (hvt:bootBuiltins t=some (.type id)) (hid:id∈kU) (hnt:t ≠ "__name__" := by decide) (hdt:(t == ("__debug__" : Str))=false:=by decide)
  (he:starEach [a,.Name t p2] X.env=(false,eval a X.env)::starEach [.Name t p2] X.env:=by rfl):aI T E X (.Call (.Name "isinstance" p) [a,.Name t p2] [] pos) (dy id sa):=by
 refine bW (vf ((B9 (X:=X) (vD id)).or (D5 (X:=X) (vD id))) hg hm PyProof.Rows.boot_isinstance (pT ha (pT (zG (v:=.ty id) hgt hmt hvt rfl hnt hdt) u7) he) (he:=he)) λσ H Q=>E6x λι h en S er q=>⟨ι,h,en,S,er,q.bind λv h1 ι1 H1 u g1 S1 r1 q1=>?_⟩
 split at q1
 ·rename_i n hn
  obtain ⟨ty,hmem⟩:=D6 S1 r1 hn
  rcases ty with ty | ⟨rfl,ad,us,rfl,sq⟩
  ·exact .inl ⟨u,.type n,_,rfl,hK▸ty,wD _ n hmem id hid,q1.now S1 (.bl _)⟩
  ·exact .inr ⟨ad,us,_,rfl,hK▸sq,wD _ _ hmem id hid,q1.now S1 (.bl _)⟩
 ·exact q1.elim
noncomputable def iL (T:Tb) (f:FM) (r:V->List V->Hp->VK->Prop):Prop:=∀ (ι:Ix) (h:AH) (H:Hp) (x:AV) (xs:List AV) (u:V) (us:List V) (E:XK) (Q:VK),Sim T ι h H->RV T ι H x u->RVs T ι H xs us->Post T ι H E (RV T) (f x xs h) Q->r u us H Q
noncomputable def ic (T:Tb) (chk:AV->AH->Bool) (n:String):Prop:=∀ (ι:Ix) (h:AH) (H:Hp) (x:AV) (u:V),Sim T ι h H->RV T ι H x u->chk x h=true->mR T.K n u H
theorem c8:ic T bo "list" := λι h H x u S r e=>by
 obtain ⟨xs,e1⟩:=Kk.mp e
 obtain ⟨a,us,rfl,sq,rs⟩:=dG S r e1
 exact .inl ⟨rfl,us,sq⟩
theorem wF:ic T nu "str" := λι h H x u S r e=>by
 unfold nu at e
 split at e
 ·obtain ⟨rfl,_⟩:=dB r;rfl
 ·cases e
variable {o:Expr} {so:SE} {name:Str} {apos:Pos} {chk:AV->AH->Bool} {f:FM} {tn id:String}
theorem bB (hK:X.K=T.K) (pa:PlainAttrs tn) (slot:Slot tn name id) (hty:typeOf (.builtin id)=pure (.type "method_descriptor")) (hm:∃ r,fu X id r/\iL T f r) (hc:ic T chk tn) (ho:aI T E X o so) (ha:fH T E X (e::es) as)
  (hbase:attributeBase o name X.env (eval o X.env)=eval o X.env:=by rfl)
  (hfew:((backTo pos (starEach (e::es) X.env)).all (λx=>!x.1) && (backToKw pos (keywordEach [] X.env)).all (λx=>x.1.isSome)
   && decide ((e::es).length+([]:List Keyword).length+(if ([]:List Keyword).isEmpty then 0 else 1)<30))=true:=by rfl)
  (hline:(apos.endLine == pos.line)=true:=by rfl) (hs:starEach (e::es) X.env=(false,eval e X.env)::starEach es X.env:=by rfl) (hplain:(backTo pos (starEach es X.env)).any (·.1)=false:=by rfl) :
  aI T E X (.Call (.Attribute o name apos) (e::es) [] pos) (c7 chk f so as):=by
 obtain ⟨r,h1,h2⟩:=hm
 refine bW (Bp pa slot hty h1 ho ha hbase hfew hline hs hplain) λσ H Q=>E6x λι h en S er q=>⟨ι,h,en,S,er,q.bind λx h1 ι1 H1 u g1 S1 r1 q1=>?_⟩
 by_cases hx:chk x h1=true
 ·rw [JG hx] at q1
  exact ⟨hK▸hc ι1 h1 H1 x u S1 r1 hx,ι1,h1,en,S1,er.mono g1,q1.bind λxs h2' ι2 H2 us g2 S2 r2 q2=>h2 ι2 h2' H2 x xs u us _ Q S2 (r1.mono g2) r2 q2⟩
 ·rw [JF hx] at q1;exact q1.elim
theorem rg (hK:X.K=T.K) (pa:PlainAttrs tn) (slot:Slot tn name id) (hty:typeOf (.builtin id)=pure (.type "method_descriptor")) (hm:∃ r,fu X id r/\iL T f r) (hc:ic T chk tn) (ho:aI T E X o so)
  (hbase:attributeBase o name X.env (eval o X.env)=eval o X.env:=by rfl) (hline:(apos.endLine == pos.line)=true:=by rfl):aI T E X (.Call (.Attribute o name apos) [] [] pos) (g9 chk f so):=by
 obtain ⟨r,h1,h2⟩:=hm
 refine bW (Bo pa slot hty h1 ho hbase hline) λσ H Q=>E6x λι h en S er q=>⟨ι,h,en,S,er,q.bind λx h1 ι1 H1 u g1 S1 r1 q1=>?_⟩
 by_cases hx:chk x h1=true
 ·rw [JG hx] at q1
  exact ⟨hK▸hc ι1 h1 H1 x u S1 r1 hx,h2 ι1 h1 H1 x [] u [] _ Q S1 r1 .nil q1⟩
 ·rw [JF hx] at q1;exact q1.elim
theorem dH:∃ r,fu X "list.append" r/\iL T bJ r:=by
 refine ⟨_,vr,λι h H x xs u us E Q S rx rs q=>?_⟩
 unfold bJ at q
 split at q
 ·rename_i n y
  split at q
  ·rename_i ys hn
   split at q
   ·rename_i hl
    cases rx with
    | @ref _ ad hr =>
     cases rs with
     | @cons _ uu _ _ r r' =>
      cases r'
      obtain ⟨o,e1,ws,rfl,rw_⟩:=S.obj n _ ad hn hr
      have g:=S.growSet (u:=.lst (ws++[uu])) hr
      exact ⟨ad,ws,_,rfl,rfl,e1,by rw [<- rw_.length];exact hl,q ι _ _ g (S.set hr ⟨_,rfl,(rw_.mono g).append (.cons (r.mono g) .nil)⟩) .non⟩
   ·exact q.elim
  ·exact q.elim
 ·exact q.elim
theorem D7:∃ r,fu X "list.pop" r/\iL T dR r:=by
 refine ⟨_,Bt,λι h H x xs u us E Q S rx rs q=>?_⟩
 unfold dR at q
 split at q
 ·rename_i n
  split at q
  ·rename_i ys hn
   split at q
   ·rename_i y hy
    cases rx with
    | @ref _ ad hr =>
     cases rs
     obtain ⟨o,e1,ws,rfl,rw_⟩:=S.obj n _ ad hn hr
     have g:=S.growSet (u:=.lst ws.dropLast) hr
     obtain ⟨v,e2,r2⟩:=rw_.get hy
     refine ⟨ad,ws,v,rfl,rfl,e1,by rw [<- rw_.length];exact e2,q ι _ _ g (S.set hr ⟨_,rfl,?_⟩) (r2.mono g)⟩
     have z:=(rw_.mono g).take (ys.length-1)
     have e3:ys.take (ys.length-1)=ys.dropLast:=Ow.symm
     have e4:ws.take (ys.length-1)=ws.dropLast:=by rw [rw_.length];exact Ow.symm
     rw [e3,e4] at z
     exact z
   ·exact q.elim
  ·exact q.elim
 ·exact q.elim
theorem D8:∃ r,fu X "str.count" r/\iL T qE r:=by
 refine ⟨_,Cc,λι h H x xs u us E Q S rx rs q=>?_⟩
 unfold qE at q
 split at q
 ·cases rs with
  | cons r r' =>
   cases r'
   obtain ⟨rfl,_⟩:=dB rx
   obtain ⟨rfl,_⟩:=dB r
   exact ⟨_,_,rfl,rfl,q.now S (.int _)⟩
 ·exact q.elim
end
end Sm
namespace Sm
open PySem PySem.Spec L2
theorem Out.bind_assoc {α β γ:Type} (o:Out α) (f:α->AH->Out β) (g:β->AH->Out γ):(o.bind f).bind g=o.bind λa h=>(f a h).bind g:=by cases o<;>rfl
section
variable {T:Tb} {E:St->XK} {X:Cx} {pos p2:Pos} {a b:Expr} {sa sb:SE}
noncomputable def tO (T:Tb) (E:St->XK):Option SE->TO
 | none=>vi
 | some s=>vj (tE T E s)
noncomputable abbrev nL (T:Tb) (E:St->XK) (X:Cx) (e:Option Expr) (s:Option SE):Prop:=PO X e (tO T E s)
theorem nM:nL T E X none none:=Ba
theorem iM (h:aI T E X a sa):nL T E X (some a) (some sa):=Bb h
@[simp] noncomputable def nN (s:Option SE):En->AH->Out (Option Int):=λen h=>match s with
 | none=>.ok none h
 | some l=>(l en h).bind λv h2=>match v with | .int i=>.ok (some i) h2 | _=>.bad
theorem wG {s:Option SE} {σ:St} {H:Hp} {ι:Ix} {h:AH} {en:En} {γ δ:Type} {R':Ix->Hp->γ->δ->Prop} {Q0:δ->Hp->Prop} {f:Option Int->AH->Out γ} {Q:Option Int->Hp->Prop} (S:Sim T ι h H) (er:ER T ι H en σ) (q:Post T ι H (E σ) R' ((nN s en h).bind f) Q0)
  (k:∀ l h' ι' H',Grow ι H ι' H'->Sim T ι' h' H'->Post T ι' H' (E σ) R' (f l h') Q0->Q l H'):tO T E s σ H Q:=by
 cases s with
 | none=>exact k none h ι H S.refl S q
 | some l =>
  refine ⟨ι,h,en,S,er,?_⟩
  unfold nN at q
  dsimp only at q
  rw [Out.bind_assoc] at q
  refine q.bind λv h1 ι1 H1 u g1 S1 r1 q1=>?_
  split at q1
  ·rw [bq r1]
   exact ⟨_,rfl,k _ _ ι1 H1 g1 S1 q1⟩
  ·exact q1.elim
@[simp] noncomputable def dI (x:AV) (l u:Option Int) (h:AH):Out AV:=match x with
 | .fl xs=>.ok (.fl (dz xs l u)) h
 | .str z=>.ok (.str (bt z l u)) h
 | .tup xs=>if ¬ (HT.sIx xs.length 0 l=0/\HT.sIx xs.length xs.length u=xs.length) then .ok (.tup (dz xs l u)) h else .bad
 | .ref n=>match h[n]? with
  | some (.lst xs)=>.ok (.fl (dz xs l u)) h
  | _=>.bad
 | _=>.bad
@[simp] noncomputable def cD (a:SE) (lo hi:Option SE):SE:=λen h=>(a en h).bind λx h1=>(nN lo en h1).bind λl h2=>(nN hi en h2).bind λu h3=>dI x l u h3
theorem RVs.cut {ι:Ix} {H:Hp} {xs:List AV} {us:List V} {lo hi:Option Int} (r:RVs T ι H xs us):RVs T ι H (dz xs lo hi) (dM us lo hi):=by
 unfold dz dM
 rw [<- r.length]
 exact (r.drop _).take _
theorem D9 {ι:Ix} {H:Hp} {z:Str} {l u:Option Int} (hz:z.length<=sizeLine) (hc:z.cps.all (· < 0x110000)=true):RV T ι H (.str (bt z l u)) (.str (bt z l u)):=by
 refine .str ?_ ?_
 ·refine JI ?_ hz
  simp [bt,Str.length];lia
 ·simp only [bt,List.all_toArray,KH]
  intro c h
  have hm:c∈z.cps.toList:=K9 (Lc h)
  exact (LH.mp hc) c (by simpa using hm)
theorem jU {lo hi:Option Expr} {sl sh:Option SE} (hK:X.K=T.K) (ha:aI T E X a sa) (hl:nL T E X lo sl) (hh:nL T E X hi sh):aI T E X (.Subscript a (.Slice lo hi none p2) pos) (cD sa sl sh):=by
 refine bW (Bd (zjv.or (sl_tup.or C3)) ha hl hh) λσ H Q=>E6x λι h en S er q=>⟨ι,h,en,S,er,q.bind λx h1 ι1 H1 u g1 S1 r1 q1=>?_⟩
 refine wG (E:=E) S1 (er.mono g1) q1 λl h2 ι2 H2 g2 S2 q2=>wG (E:=E) S2 (er.mono (g1.trans g2)) q2 λw h3 ι3 H3 g3 S3 q3=>?_
 have r3:=r1.mono (g2.trans g3)
 unfold dI at q3
 split at q3
 ·obtain ⟨ad,us,rfl,sq,rs⟩:=dG S3 r3 rfl
  exact .inl ⟨ad,us,rfl,hK▸sq,λp n=>iG S3 rs.cut n q3⟩
 ·obtain ⟨rfl,hz,hc⟩:=dB r3
  exact .inr (.inr ⟨_,rfl,hz,q3.now S3 (D9 hz hc)⟩)
 ·rename_i xs
  split at q3
  ·rename_i hz
   obtain ⟨ad,us,rfl,sq,rs⟩:=jn r3
   exact .inr (.inl ⟨ad,us,rfl,hK▸sq,by rw [<- rs.length];exact hz,λp n=>qG S3 rs.cut n q3⟩)
  ·exact q3.elim
 ·split at q3
  ·rename_i xs hn
   obtain ⟨ad,us,rfl,sq,rs⟩:=dG (xs:=xs) S3 r3 (by simp [cf,hn])
   exact .inl ⟨ad,us,rfl,hK▸sq,λp n=>iG S3 rs.cut n q3⟩
  ·exact q3.elim
 ·exact q3.elim
theorem dS {x:Str} {i:Int} {p:Pos} (hg:Gl X x) (hm:∃ t,X.mg x=some (.int i t)) (hd:(x == ("__debug__" : Str))=false:=by decide):aI T E X (.Name x p) (ah (.int i)):=by
 obtain ⟨t,hm⟩:=hm
 exact Di hg hm hd
end
noncomputable def DG (K:PySem.W.Frag) (mg:Str->Option Value) (x:Str) (st:Stmt) (ps:List Str):Prop:=∃ f fd,mg x=some (.ref f)/\PySem.W.keepIn K (.ref f)=true/\Binds K fd ps []/\Fun K x x st f fd
end Sm
namespace Sm
open PySem PySem.Spec L2
noncomputable def wH (N:List Str) (sc:Scope) (ns:List Str) (jf:List (Nat×Str)) (scope:Scope):Bool :=
 decide (ns++jf.map (·.2)).Nodup && ns.all (λx=>scope.names.lookup x == some .local) && jf.all (λp=>N[p.1]? == some p.2) && jf.all (λp=>scope.names.lookup p.2 == some .free) && (scope.kind == .function) &&
 scope.names.all (λy=>y.2 != .cell) && scope.names.all (λy=>y.2 != .free || sc.names.lookup y.1 == some .cell || sc.names.lookup y.1 == some .free) && scope.names.all (λy=>y.2 != .local || scope.names.lookup y.1 == some .local)
theorem jV {X:Cx} {N:List Str} {sc scope:Scope} {ns:List Str} {jf:List (Nat×Str)} (hN:X.N=N) (hk:∀ x,X.env.kindOf x=sc.names.lookup x) (h:wH N sc ns jf scope=true):CompOk X ns jf scope:=by
 unfold wH at h
 simp only [K2,Kn,KH,O4,bne_iff_ne,Bool.or_eq_true] at h
 obtain ⟨⟨⟨⟨⟨⟨⟨h1,h2⟩,h3⟩,h4⟩,h5⟩,h6⟩,h7⟩,h8⟩:=h
 refine ⟨h1,h2,λp hp=>by rw [hN];exact h3 p hp,h4,h5,λy hy=>h6 y hy,λy hy e=>?_,λy hy e=>?_⟩
 ·rw [hk]
  rcases h7 y hy with (z | z) | z
  ·exact absurd e z
  ·exact .inl z
  ·exact .inr z
 ·rcases h8 y hy with z | z
  ·exact absurd e z
  ·exact z
end Sm
namespace Sm
open PySem PySem.Spec L2
theorem rh {T:Tb} {ι:Ix} {H:Hp}:∀ ns:List Int,RVs T ι H (ns.map AV.int) (ns.map V.int)
 | []=>.nil
 | n::ns=>.cons (.int n) (rh ns)
theorem rj {T:Tb} {H:Hp}:Sim T ⟨[],[]⟩ [] H:=⟨rfl,MT,(λ_ z=>nomatch z),(λi o a e=>by simp at e)⟩
noncomputable def rk (K:PySem.W.Frag):Sp:=λvs H Q _=>∃ (a:Addr) (ns:List Int),vs=[.ref a]/\SqL K H a (ns.map V.int)/\ns.length<=63/\∀ H',Q (.bl true) H'
theorem Ea {T:Tb} {F:Fn} (ht:∀ ns:List Int,ns.length<=63->∃ h',F [.fl (ns.map AV.int)] [] = .ok (.bl true) h'):∀ vs H Q E,rk T.K vs H Q E->h9 T F vs H Q E:=by
 rintro vs H Q E ⟨a,ns,rfl,hs,hl,q⟩
 obtain ⟨h',e⟩:=ht ns hl
 refine ⟨⟨[],[]⟩,[],[.fl (ns.map AV.int)],rj,.cons ?_ .nil,?_⟩
 ·rcases hs with hs | hs
  ·exact .fl (by simp [Ix.all]) hs (rh ns)
  ·exact .kfl hs (rh ns)
 ·rw [e]
  intro ι' H' u g S r
  rw [hE r]
  exact q H'
theorem Eb {P:Program} {w:World} {outer:List Env} {H:Hp} {s s':Shared} {e:Value} (h:cN P w outer H s (λ_ _ _=>False) e s'):False:=by
 obtain ⟨_,_,_,_,_,_,_,_,_,_,_,_,_,_,_,_,q⟩:=h
 exact q
end Sm
namespace Sm
open PySem PySem.Spec L2
@[simp] noncomputable def kY:List AV->Option (List Int)
 | []=>some []
 | .int i::r=>(kY r).map (i :: ·)
 | _=>none
@[simp] noncomputable def fA:Fn:=λargs h=>match args with
 | [.fl xs]=>match kY xs with
  | some ns=>.ok (.int ns.sum) h
  | none=>.bad
 | _=>.bad
@[simp] noncomputable def ie (a b c:SE):SI:=λen h=>(a en h).bind λv h1=>(b en h1).bind λw h2=>(c en h2).bind λz h3=>match v,w,z with
 | .int i,.int j,.int k=>if i.natAbs<2 ^ 40/\j.natAbs<2 ^ 40/\0<k/\k<2 ^ 20 then .ok ((List.range (if i<j then (j-i-1) / k+1 else 0:Int).toNat).map (λm:Nat=>.int (i+m*k)),none) h3 else .bad
 | _,_,_=>.bad
section
variable {T:Tb} {E:St->XK} {X:Cx} {pos p:Pos} {e a b c:Expr} {sa sb sc:SE}
theorem wI {ι:Ix} {H:Hp}:∀ {xs:List AV} {us:List V} {bs:List Int},RVs T ι H xs us->kY xs=some bs->us=bs.map V.int
 | _,_,_,.nil,e=>by cases e;rfl
 | _,_,bs,.cons (x:=x) r rs,e=>by
  unfold kY at e
  split at e
  ·rename_i hh;cases hh
  ·rename_i b r' hh
   cases hh
   obtain ⟨bs',e1,rfl⟩:=J5.mp e
   rw [bq r,wI rs e1];rfl
  ·cases e
theorem b_sum (hK:X.K=T.K) (hc:X.calm=true:=by rfl):∃ r,CallR X (.builtin "sum") r/\gJ T fA r:=by
 refine ⟨_,CO hc,λι h H xs us E Q S r q=>?_⟩
 unfold fA at q
 split at q
 ·split at q
  ·rename_i bs hb
   cases r with
   | cons r r' =>
    cases r'
    obtain ⟨a,us,rfl,sq,rs⟩:=dG S r rfl
    rw [wI rs hb] at sq
    exact ⟨a,bs,rfl,hK▸sq,q.now S (.int _)⟩
  ·exact q.elim
 ·exact q.elim
theorem wJ {ι:Ix} {H:Hp} {lo c:Int} {n:Nat}:gH T (eD lo c n) ι H ((List.range n).map (λm:Nat=>AV.int (lo+m*c))) none:=by
 constructor
 ·intro i ι' h' H' y g S _ e
  rw [Kb] at e
  obtain ⟨m,e1,rfl⟩:=J5.mp e
  have hi:i<n:=by
   have:=(JA.mp e1).1
   simpa using this
  rw [Np hi] at e1
  cases e1
  refine ⟨hi,?_⟩
  rintro u H2 ⟨rfl,rfl⟩
  exact ⟨S.refl,S,.int _⟩
 ·intro i ι' h' H' g S _ hl
  have hl':n<=i:=by simpa using hl
  exact hl'
theorem wK {tg:Expr} {p:Pos} (hg:Gl X "range") (hm:X.mg "range" = none) (ha:aI T E X a sa) (hb:aI T E X b sb) (hc:aI T E X c sc) (hs:starEach [a,b,c] X.env=[(false,eval a X.env),(false,eval b X.env),(false,eval c X.env)]:=by rfl) (hs2:starEach [b,c] X.env=[(false,eval b X.env),(false,eval c X.env)]:=by rfl) (hs3:starEach [c] X.env=[(false,eval c X.env)]:=by rfl) :
  iI T X tg (.Call (.Name "range" p) [a,b,c] [] pos) (ie sa sb sc) :=
 nC (CY hg hm (ak ha (ak hb (ak hc au hs3) (by rw [hs2,hs3])) (by rw [hs,hs2])) hs hs2) λσ H R=>E6x λι h en S er q=>by
  unfold ie at q
  refine ⟨ι,h,en,S,er,?_⟩
  unfold aj
  cases e:sa en h with
  | bad=>rw [e] at q;exact q
  | ex c h1=>rw [e] at q;exact q.elim
  | ok v h1 =>
   rw [e] at q
   dsimp only [Out.bind] at q ⊢
   cases e':sb en h1 with
   | bad=>rw [e'] at q;exact q
   | ex c h1=>rw [e'] at q;exact q.elim
   | ok v' h2 =>
    rw [e'] at q
    dsimp only at q ⊢
    cases e'':sc en h2 with
    | bad=>rw [e''] at q;exact q
    | ex c h1=>rw [e''] at q;exact q.elim
    | ok v'' h3 =>
     rw [e''] at q
     dsimp only at q
     intro ι1 H1 u g1 S1 r1
     split at q
     ·rename_i hx
      split at hx
      ·split at hx
       ·rename_i hb
        cases hx
        cases r1 with
        | cons r r' =>
         cases r' with
         | cons r2 r3 =>
          cases r3 with
          | cons r4 r5 =>
           cases r5
           rw [bq r,bq r2,bq r4]
           exact ⟨_,_,_,rfl,hb,q ι1 H1 _ g1 S1 wJ⟩
       ·cases hx
      ·cases hx
     ·exact q.elim
theorem nO {sts:List Stmt} {E:St->XK}:cO T E X sts (λ_ _=>.bad):=λpins s σ H D I ⟨ι,h,en,S,er,q⟩=>q.elim
end
theorem Ec:∀ {us:List Value},us.length=1->∃ a:Value,us=[a]
 | [a],_=>⟨a,rfl⟩
theorem Ed:∀ {us:List Value},us.length=2->∃ a b:Value,us=[a,b]
 | [a,b],_=>⟨a,b,rfl⟩
theorem Ee:∀ {us:List Value},us.length=3->∃ a b c:Value,us=[a,b,c]
 | [a,b,c],_=>⟨a,b,c,rfl⟩
noncomputable def fZ:Nat:=100000000
end Sm
namespace Sm
open PySem PySem.Spec L2
noncomputable def Ef {α:Type} (c:En->AH->Out α):En->AH->Out α:=λen h=>match en with
 | some (.tup [y,z])::r=>c (some y::some z::r) h
 | _=>.bad
@[simp] theorem Jr {α:Type} (c:En->AH->Out α) (y z:AV) (r:En) (h:AH):Ef c (some (.tup [y,z])::r) h=c (some y::some z::r) h:=rfl
section
variable {T:Tb} {E:St->XK} {X:Cx} {pos px p1 p2:Pos} {kk:Nat} {iter elt:Expr} {ifs:List Expr} {scope:Scope} {x₁ x₂:Str} {jf:List (Nat×Str)} {it:SI} {cc:SB} {ce:SE}
end
@[simp] noncomputable def Js:Fn:=λargs h=>match args with
 | [.int n]=>if 0<=n/\n<=2 ^ 24 then .ok (.fl (cC 0 n.toNat)) h else .bad
 | _=>.bad
@[simp] noncomputable def nP (a st:SE):SE:=λen h=>(a en h).bind λx h1=>(st en h1).bind λy h2=>match cf x h2,y with
 | some xs,.int i=>if i=1\/i = -1 then .ok (.fl (if i=1 then xs else xs.reverse)) h2 else .bad
 | _,_=>.bad
section
variable {T:Tb} {E:St->XK} {X:Cx} {pos p pos' p':Pos} {a:Expr} {sa:SE}
theorem Eg {st:Expr} {ss:SE} {p2:Pos} (hK:X.K=T.K) (ha:aI T E X a sa) (hs:aI T E X st ss):aI T E X (.Subscript a (.Slice none none (some st) p2) pos) (nP sa ss):=by
 refine bW (C5 ha hs) λσ H Q=>E6x λι h en S er q=>⟨ι,h,en,S,er,q.bind λx h1 ι1 H1 u g1 S1 r1 q1=>⟨ι1,h1,en,S1,er.mono g1,q1.bind λy h2 ι2 H2 w g2 S2 r2 q2=>?_⟩⟩
 split at q2
 ·rename_i xs i hx
  split at q2
  ·rename_i hi
   obtain ⟨aa,us,rfl,sq,rs⟩:=dG S2 (r1.mono g2) hx
   rw [bq r2]
   refine ⟨aa,us,i,rfl,hK▸sq,rfl,hi,λl hl=>iG S2 ?_ hl q2⟩
   split
   ·exact rs
   ·exact rs.reverse
  ·exact q2.elim
 ·exact q2.elim
end
end Sm
namespace Sm
open PySem PySem.Spec L2
noncomputable def nQ:FM:=λx vs h=>match x,vs with
 | .str z,[]=>if (Txt.upper z).length<=sizeLine/\(Txt.upper z).cps.all (· < 0x110000)=true then .ok (.str (Txt.upper z)) h else .bad
 | _,_=>.bad
theorem Eh {T:Tb} {X:Cx}:∃ r,fu X "str.upper" r/\iL T nQ r:=by
 refine ⟨_,C9,λι h H x xs u us E Q S rx rs q=>?_⟩
 unfold nQ at q
 split at q
 ·split at q
  ·rename_i hz
   cases rs
   obtain ⟨rfl,_⟩:=dB rx
   exact ⟨_,rfl,rfl,hz.1,q.now S (.str hz.1 hz.2)⟩
  ·exact q.elim
 ·exact q.elim
noncomputable def jt (a:SE) (t:Tg) (b:SS):SS:=λen h=>match a en h with
 | .ok (.fl xs) h1=>dE none xs t b xs.reverse en h1
 | .ok (.ref n) h1=>(match h1[n]? with
  | some (.lst xs)=>dE (some n) xs t b xs.reverse en h1
  | _=>.bad)
 | _=>.bad
section
variable {T:Tb} {E:St->XK} {X:Cx} {pos:Pos} {a:Expr} {sa:SE} {sts:List Stmt} {s1:SS}
theorem rm {ι:Ix} {H:Hp} {a:Addr} {us:List V} {xs:List AV} {K:PySem.W.Frag} {w:Option Nat} (keep:∀ (ι':Ix) (h':AH) (H':Hp),Ext ι H ι' H'->Sim T ι' h' H'->cZ w xs h'=true->∃ us',us'.length=us.length/\SqL K H' a us'/\RVs T ι' H' xs us') (hl:xs.length=us.length):nB T (qw K a us.length) ι H xs.reverse (cZ w xs):=by
 refine ⟨λi ι' h' H' x x' S' lv hx=>?_,λi ι' h' H' _ _ _ hi=>?_⟩
 ·obtain ⟨us',hl',sq,rs⟩:=keep ι' h' H' x' S' lv
  have hi:i<xs.length:=by have:=(JA.mp hx).1;rwa [LV] at this
  rw [List.getElem?_reverse hi] at hx
  rw [hl] at hx
  obtain ⟨u,hu,ru⟩:=rs.get hx
  refine ⟨⟨us',u,sq,hl',by lia,hu⟩,λv H2 y=>?_⟩
  obtain ⟨rfl,y2⟩:=y
  have:=y2 us' sq
  rw [hu] at this
  cases this
  exact ⟨S'.refl,S',ru⟩
 ·show us.length<=i
  rw [LV] at hi
  lia
theorem Ei {tg:Expr} {t:Tg} {p ppos:Pos} (hK:X.K=T.K) (hc:X.calm=true) (hg0:Gl X.nox "reversed") (hm:X.nox.mg "reversed" = none) (ha:aI T EN X.nox a sa) (hg:qN T X.nox tg t) (hb:cO T EN X.nox sts s1) (iX:starEach [a] X.nox.env=[(false,eval a X.nox.env)]:=by rfl)
  (hs:∀ x,foldedSetIterable (.Call (.Name "reversed" p) [a] [] ppos) X.nox.env x=pure x:=by intro _;rfl):eQ T E X (.For tg (.Call (.Name "reversed" p) [a] [] ppos) sts [] pos) (jt sa t s1):=by
 obtain ⟨g,hg1,hg2⟩:=hg
 refine fI (qA (uS PassesOwn.never hc (C8 hg0 hm (ak ha au iX) iX) hg1 hb hs)) λD σ H=>E6x λι h en S er q=>⟨ι,h,en,S,er,?_⟩
 unfold jt at q
 show Post T ι H _ (RVs T) ((sa en h).bind λx h1=>.ok [x] h1) _
 cases e:sa en h with
 | bad=>rw [e] at q;exact q
 | ex c h1=>rw [e] at q;exact (show False from q).elim
 | ok v h1 =>
  rw [e] at q
  intro ι1 H1 us g1 S1 r1
  cases r1 with
  | cons r r' =>
  cases r'
  cases v with
  | fl xs =>
   dsimp only at q
   cases r with
   | fl n hr rs=>exact ⟨_,_,rfl,nE hK (.inl hr),nF hg2 S1 (er.mono g1) (by
     have:=rm (T:=T) (w:=none) (K:=T.K) (a:=_) (us:=_) (xs:=xs) (ι:=ι1) (H:=H1) (λι' h' H' x' S' _=>⟨_,rfl,wa n hr ι' H' x',rs.ext x'⟩) rs.length
     exact hK▸this) (PostS.shift q g1)⟩
   | kfl hr rs=>exact ⟨_,_,rfl,nE hK (.inr hr),nF hg2 S1 (er.mono g1) (by
     have:=rm (T:=T) (w:=none) (K:=T.K) (a:=_) (us:=_) (xs:=xs) (ι:=ι1) (H:=H1) (λι' h' H' x' S' _=>⟨_,rfl,.inr hr,rs.ext x'⟩) rs.length
     exact hK▸this) (PostS.shift q g1)⟩
  | ref n =>
   dsimp only at q
   cases e2:h1[n]? with
   | none=>rw [e2] at q;exact (show False from q).elim
   | some o =>
    rw [e2] at q
    cases o with
    | lst xs =>
     cases r with
     | ref hr =>
      obtain ⟨u,e1,us,rfl,rs⟩:=S1.obj n _ _ e2 hr
      refine ⟨_,us,rfl,.inl (.of e1),nF hg2 S1 (er.mono g1) (rm (λι' h' H' x' S' lv=>?_) rs.length) (PostS.shift q g1)⟩
      unfold cZ at lv
      dsimp only at lv
      split at lv
      ·rename_i ys hy
       have z:=NR lv
       subst z
       obtain ⟨u2,e3,us2,rfl,r2⟩:=S'.obj n _ _ hy (x'.at_ hr)
       exact ⟨us2,by rw [<- r2.length,rs.length],.inl (.of e3),r2⟩
      ·cases lv
    | _=>exact (show False from q).elim
  | _=>exact (show False from q).elim
end
end Sm
namespace L2
open PySem PySem.Spec PyProof.Rows
section
variable {X:Cx}
end
end L2
namespace Sm
open PySem PySem.Spec L2
@[simp] noncomputable def Jt:FM:=λx vs h=>match x,vs with
 | .ref n,[.int i,v]=>match h[n]? with
  | some (.lst xs)=>if 0<=i/\i<2 ^ 40/\i.toNat<=xs.length/\xs.length<sizeLine then .ok .non (h.set n (.lst (xs.take i.toNat++v::xs.drop i.toNat))) else .bad
  | _=>.bad
 | _,_=>.bad
@[simp] noncomputable def jW:FM:=λx vs h=>match x,vs with
 | .ref n,[]=>match h[n]? with
  | some (.lst xs)=>.ok .non (h.set n (.lst xs.reverse))
  | _=>.bad
 | _,_=>.bad
theorem Ej {T:Tb} {X:Cx}:∃ r,fu X "list.reverse" r/\iL T jW r:=by
 refine ⟨_,Bv,λι h H x xs u us E Q S rx rs q=>?_⟩
 unfold jW at q
 split at q
 ·rename_i n
  split at q
  ·rename_i ys hn
   cases rx with
   | @ref _ ad hr =>
    cases rs
    obtain ⟨o,e1,ws,rfl,rw_⟩:=S.obj n _ ad hn hr
    have g:=S.growSet (u:=.lst ws.reverse) hr
    exact ⟨ad,ws,rfl,rfl,e1,q ι _ _ g (S.set hr ⟨_,rfl,(rw_.mono g).reverse⟩) .non⟩
  ·exact q.elim
 ·exact q.elim
end Sm
namespace L2
open PySem PySem.Spec PyProof.Rows
noncomputable abbrev wL (xs:Array Value) (n:Nat) (sl:Array (Option Value)):Obj:={ cls:=.type "list",data:=.seq xs n,slots:=sl }
theorem Ek {l b:Addr} {xs ys:Array Value} {n m:Nat} {sl:Array (Option Value)} (c : ¬ (!xs.isEmpty && Builtin.List.listTooLong (xs.size+ys.size))=true) (c1:xs.size<=sizeLine) (c2:xs.size+ys.size<=sizeLine+1) :
  Meets (Builtin.«list.extend» ⟨[.ref l,.ref b],[]⟩) (λ_ R s=>s.heap.get? l=some (wL xs n #[])/\s.heap.get? b=some (wL ys m sl)/\R (.ok (.ret .none)) { s with heap:=s.heap.update l (Obj.mapSeq λx=>x++ys),toks:=s.toks }):=by
 refine .of_wp λ_ _ _ _ s z=>?_
 cases s
 have z1:=z.1
 have z2:=z.2.1
 have z3:=z.2.2
 have k1:=PySem.AutoSeq1.idx_int
 have k2:=PySem.AutoSeq1.sub_tuple_tuple
 have k3:=PySem.AutoSeq1.sub_list_list
 have k4:=PySem.AutoSeq1.sub_tuple_list
 have k5:=PySem.AutoSeq1.sub_list_tuple
 have sz:(xs++ys).size<=sizeLine+1:=by rw [LG];exact c2
 wp_walk using (Os z1 rfl (hz:=c1) (_hz' := sz)),M8 z1,M8 z2
 exact ⟨_,rfl,z3⟩
section
variable {X:Cx}
noncomputable def El (K:PySem.W.Frag):V->List V->Hp->VK->Prop:=λx vs H Q=>∃ l b xs zs,x = .ref l/\vs=[.ref b]/\H l=some (.lst xs)/\SqL K H b zs/\xs.length+zs.length<=sizeLine/\Q .non (aJ H l (.lst (xs++zs)))
theorem Em:fu X "list.extend" (El X.K):=by
 intro pins s σ H x vs v us Q I rx rv h
 obtain ⟨l,b,xs,zs,rfl,rfl,hH,hB,hz,q⟩:=h
 cases rx
 obtain ⟨u,rfl,ru⟩:=rv.one
 cases ru
 obtain ⟨z,its,n,r,hl,e⟩:=I.lstM hH
 obtain ⟨its2,r2,⟨⟨oc,od,oda,osl⟩,n2,e1,e2,e3,e4⟩,hz2⟩:=I.list hB
 dsimp only at e2 e3 e4
 subst e2 e3 e4
 have hl2:=r2.length
 have hsz:its.toArray.size+its2.toArray.size<=sizeLine:=by rw [JK,JK];lia
 have hlong : ¬ (!its.toArray.isEmpty && Builtin.List.listTooLong (its.toArray.size+its2.toArray.size))=true:=by
  rw [Br hsz,Bool.and_false]
  exact JT
 refine O3 F.slot_list_extend ⟨_,e,rfl⟩ F.entry_list_extend (F.args_list_extend_2 _ _)
  (Ek (n:=n) (m:=n2) (sl:=osl) hlong (by rw [JK];lia) (by lia)) ⟨e,e1,?_⟩
 refine ⟨.non,_,I.lset (its' := its++its2) hH e (by simp) (r.append r2) ?_,rfl,q⟩
 rw [JJ]
 lia
end
end L2
namespace Sm
open PySem PySem.Spec L2
@[simp] noncomputable def jX:FM:=λx vs h=>match x,vs with
 | .ref n,[y]=>match h[n]?,cf y h with
  | some (.lst xs),some ys=>if xs.length+ys.length<=sizeLine then .ok .non (h.set n (.lst (xs++ys))) else .bad
  | _,_=>.bad
 | _,_=>.bad
theorem Eo {T:Tb} {X:Cx} (hK:X.K=T.K):∃ r,fu X "list.extend" r/\iL T jX r:=by
 refine ⟨_,Em,λι h H x xs u us E Q S rx rs q=>?_⟩
 unfold jX at q
 split at q
 ·rename_i n y
  split at q
  ·rename_i ys zs hn hy
   split at q
   ·rename_i hl
    cases rx with
    | @ref _ ad hr =>
     cases rs with
     | @cons _ uu _ _ r r' =>
      cases r'
      obtain ⟨o,e1,ws,rfl,rw_⟩:=S.obj n _ ad hn hr
      obtain ⟨bd,ws2,rfl,sq,rw2⟩:=dG S r hy
      have g:=S.growSet (u:=.lst (ws++ws2)) hr
      exact ⟨ad,bd,ws,ws2,rfl,rfl,e1,hK▸sq,by rw [<- rw_.length,<- rw2.length];exact hl,q ι _ _ g (S.set hr ⟨_,rfl,(rw_.mono g).append (rw2.mono g)⟩) .non⟩
   ·exact q.elim
  ·exact q.elim
 ·exact q.elim
section
variable {T:Tb} {E:L2.St->XK} {X:Cx} {pos:Pos} {a b:Expr} {sa sb:SE}
end
end Sm
namespace L2
open PySem PySem.Spec
theorem Room.m {j k:Nat} {A:Around} (hr:Room k A) (h:Nat.ble j k=true:=by rfl):Room j A:=hr.mono (Nat.le_of_ble_eq_true h)
end L2
namespace Sm
open PySem PySem.Spec L2
noncomputable def DK (K:PySem.W.Frag) (x:Str) (st:Stmt):Prop:=∃ f fd,PySem.W.nsIn K mainGlobals x=some (some (.ref f))/\Fun K x x st f fd
noncomputable def DN (K:PySem.W.Frag) (C:Addr) (m q:Str) (st:Stmt):Prop:=∃ f fd,fU K C m f/\Fun K m q st f fd
noncomputable def dU (K:PySem.W.Frag) (cls:Nat->Option Addr) (c:Nat) (m q:Str) (st:Stmt) (ps:List Str):Prop:=∃ C f fd,cls c=some C/\Cls K C/\fU K C m f/\Binds K fd ps []/\Fun K m q st f fd
noncomputable def DI (K:PySem.W.Frag) (cls:Nat->Option Addr) (mg:Str->Option Value) (c:Nat) (x q:Str) (st:Stmt) (ps:List Str):Prop:=∃ C f fd,cls c=some C/\mg x=some (.ref C)/\Mk K C f/\Binds K fd ps []/\Fun K "__init__" q st f fd
section
variable {P:Program} {w:World} {K:PySem.W.Frag} {mg:Str->Option Value} {base h:Heap} {T:Tb} {x m q:Str} {st:Stmt} {f C:Addr} {N ps:List Str} {k c:Nat} {b:SS} {cls:Nat->Option Addr}
section
variable {oc:Value} {od an:Option Addr} {osl:Array (Option Value)} {kV doc pm cdv ct:Value}
theorem dk (a:PySem.W.nsIn K mainGlobals x=some (some (.ref f))) (l:K.lookup f=some ⟨oc,od,.func (PySem.W.fnOf x x (jd st) (gA st) (aM st) .none kV doc pm an cdv ct),osl⟩)
  (c:PySem.W.codeIn K cdv x=true) (k:PySem.W.keepIn K (.ref f)=true):DK K x st:=⟨f,_,a,vz l c k⟩
theorem dn (a:PySem.W.findIn K (.ref C) m=some (some (.ref f))) (i:PySem.W.isFn K (.ref f)=true) (l:K.lookup f=some ⟨oc,od,.func (PySem.W.fnOf m q (jd st) (gA st) (aM st) .none kV doc pm an cdv ct),osl⟩)
  (c:PySem.W.codeIn K cdv q=true) (k:PySem.W.keepIn K (.ref f)=true):DN K C m q st:=⟨f,_,⟨a,i,k⟩,vz l c k⟩
end
noncomputable abbrev BA (x q:Str) (st:Stmt) (us:List Value) (r:List (Str×Value)):Prop:=∀ (kV doc pm:Value) (an:Option Addr) (cdv ct:Value),bindArgs (PySem.W.fnOf x q (jd st) (gA st) (aM st) .none kV doc pm an cdv ct) ⟨us,[]⟩=pure r
noncomputable def BL (x q:Str) (st:Stmt) (ps:List Str):Prop:=∀ (us:List Value),us.length=ps.length->BA x q st us (ps.zip us)
theorem gK {p1:Str} (h:∀ a,BA x q st [a] [(p1,a)]:=by exact λ_ _ _ _ _ _ _=>rfl):BL x q st [p1]:=λus e=>by obtain ⟨_,rfl⟩:=Ec e;exact h _
theorem cT {p1 p2:Str} (h:∀ a b,BA x q st [a,b] [(p1,a),(p2,b)]:=by exact λ_ _ _ _ _ _ _ _=>rfl):BL x q st [p1,p2]:=λus e=>by obtain ⟨_,_,rfl⟩:=Ed e;exact h _ _
theorem gb {p1 p2 p3:Str} (h:∀ a b c,BA x q st [a,b,c] [(p1,a),(p2,b),(p3,c)]:=by exact λ_ _ _ _ _ _ _ _ _=>rfl):BL x q st [p1,p2,p3]:=λus e=>by obtain ⟨_,_,_,rfl⟩:=Ee e;exact h _ _ _
theorem dg (X:K.In h) (G:h.Ns mainGlobals mg) (d:DK K x st) (hb:BL x x st ps):DG K mg x st ps:=by
 obtain ⟨f,fd,a,F⟩:=d
 exact ⟨f,fd,Mo X G a,F.kp,F.binds λ_ _ _ _ _ _ us hl=>hb us hl _ _ _ _ _ _,F⟩
theorem dm (hc:cls c=some C) (k:Cls K C) (d:DN K C m q st) (hb:BL m q st ps):dU K cls c m q st ps:=by
 obtain ⟨f,fd,M,F⟩:=d
 exact ⟨C,f,fd,hc,k,M,F.binds λ_ _ _ _ _ _ us hl=>hb us hl _ _ _ _ _ _,F⟩
theorem di (hc:cls c=some C) (hx:mg x=some (.ref C)) (mk:PySem.W.makesIn K C=true) (kc:PySem.W.keepIn K (.ref C)=true) (d:DN K C "__init__" q st) (hb:BL "__init__" q st ps):DI K cls mg c x q st ps:=by
 obtain ⟨f,fd,M,F⟩:=d
 exact ⟨C,f,fd,hc,hx,⟨mk,M.at_,M.fn,kc⟩,F.binds λ_ _ _ _ _ _ us hl=>hb us hl _ _ _ _ _ _,F⟩
theorem rp {fa:Addr} {p:Str} (X:K.In h) (G:h.Ns mainGlobals mg) (hfa:mg x=some (.ref fa)) (d:DK K x st) (hb:BL x x st [p]):∃ fd:FuncData,(∀ (s:Shared) (v:Value),BindsTo s fd ⟨[v],[]⟩ [(p,v)])/\Fun K x x st fa fd:=by
 obtain ⟨f,fd,a,F⟩:=d
 have e:=hfa.symm.trans (Mo X G a)
 cases e
 refine ⟨fd,λs v=>?_,F⟩
 obtain ⟨oc,od,kV,doc,pm,an,cdv,ct,osl,rfl,lk,hcd⟩:=F.ex
 exact .of_eq (hb [v] rfl _ _ _ _ _ _)
theorem bw {sc:Scope} (h1:sc.kind = .function:=by rfl) (h2:sc.isCoroutine=false:=by rfl) (h3:sc.isGenerator=false:=by rfl) (h4:N.Nodup:=by decide +kernel) (h5:N.take ps.length=ps:=by rfl)
  (h6:∀ x∈ps,sc.names.lookup x=some .local\/sc.names.lookup x=some .cell:=by decide +kernel) (h7:∀ y∈sc.names,y.2 ≠ .free:=by decide +kernel):aq N ps sc:=⟨h1,h2,h3,h4,h5,h6,h7⟩
noncomputable abbrev nR (P:Program) (w:World) (mg:Str->Option Value) (base:Heap) (T:Tb) (q:Str) (st:Stmt) (f:Addr) (N:List Str) (k:Nat) (b:SS):Prop :=
 ∀ {cdv:Value} {A:Around} {outer:List Env} {s:Shared} {H:Hp} {E:XK},Room k (A.deeper (PyProof.Rows.envOfC q (aM st) s.heap.objs.size f cdv))->CA T (λ_=>E) (bR (cN P w) P w T.K mg base N q (aM st) f cdv A outer s H E) ->
  (A.deeper (PyProof.Rows.envOfC q (aM st) s.heap.objs.size f cdv)).units+64<cLine->N.Nodup->cO T (λ_=>E) (bR (cN P w) P w T.K mg base N q (aM st) f cdv A outer s H E) (gA st) b
theorem gf (d:DG T.K mg x st ps) (S:aq N ps (aM st)) (hb:∀ {f},nR P w mg base T x st f N k b):GF P w T mg base (k+1) x (aD ps.length N.length b):=by
 obtain ⟨f,fd,h1,h2,h3,h4⟩:=d
 exact ⟨f,fd,_,h1,h2,h3,nI h4 rfl S λcdv A outer s H E hr C=>hb hr C (gX hr) S.nd⟩
theorem gm (d:dU T.K T.cls c m q st ps) (S:aq N ps (aM st)) (no:m∉T.fields c) (hb:∀ {f},nR P w mg base T q st f N k b):GM P w T mg base (k+1) c m (aD ps.length N.length b):=by
 obtain ⟨C,f,fd,h0,hc,h1,h3,h4⟩:=d
 exact ⟨⟨C,f,fd,_,h0,hc,h1,h3,nI h4 rfl S λcdv A outer s H E hr C=>hb hr C (gX hr) S.nd⟩,no⟩
theorem gk (d:DI T.K T.cls mg c x q st ps) (S:aq N ps (aM st)) (hb:∀ {f},nR P w mg base T q st f N k b):GK P w T mg base (k+1) c x (aD ps.length N.length b):=by
 obtain ⟨C,f,fd,h0,h1,h2,h3,h4⟩:=d
 exact ⟨C,f,fd,_,h0,h1,h2,h3,nI h4 rfl S λcdv A outer s H E hr C=>hb hr C (gX hr) S.nd⟩
theorem gl {f:Addr} {fd:FuncData} (h4:Fun T.K x x st f fd) (S:aq N ps (aM st)) (hb:nR P w mg base T x st f N k b):FnOk P w T.K mg base (cN P w) (k+1) f fd ps (h9 T (aD ps.length N.length b)) :=
 nI h4 rfl S λcdv A outer s H E hr C=>hb hr C (gX hr) S.nd
noncomputable def XI (K:PySem.W.Frag) (X:Addr):Prop:=PySem.W.excIn K X [.type "ValueError",.type "Exception",.type "BaseException",.type "object"] "ValueError.__new__" = true
theorem xi {X:Addr} (h:PySem.W.excIn K X [.type "ValueError",.type "Exception",.type "BaseException",.type "object"] "ValueError.__new__" = true):XI K X:=h
theorem gx {X:Addr} {n:Nat} {g:Heap} (KB:K.In g) (KX:K.In h) (G:h.Ns mainGlobals mg) (hc:T.exc n=some X) (e:PySem.W.nsIn K mainGlobals x=some (some (.ref X))) (hx:XI K X):GX T mg g n x:=⟨X,hc,CJ KB (Mo KX G e) hx⟩
noncomputable def NA (K:PySem.W.Frag) (x:Str) (v:Option Value):Prop:=PySem.W.nsIn K mainGlobals x=some v
theorem na {v:Option Value} (h:PySem.W.nsIn K mainGlobals x=some v):NA K x v:=h
noncomputable def FA (K:PySem.W.Frag) (C:Addr) (x:Str):Prop:=PySem.W.findIn K (.ref C) x=some none
theorem fatt (h:PySem.W.findIn K (.ref C) x=some none):FA K C x:=h
end
end Sm
namespace Sm
open PySem PySem.Spec L2
section
variable {T:Tb} {ι:Ix} {h:AH} {H:Hp}
end
section
variable {T:Tb} {E:St->XK} {X:Cx} {pos apos:Pos} {a b c:Expr} {sa sb sc:SE}
end
section
variable {T:Tb} {E:St->XK} {X:Cx} {pos:Pos} {a:Expr} {sa:SE} {sts:List Stmt} {s1:SS}
end
noncomputable def gL:List AV->Option (List Int)
 | []=>some []
 | .int i::r=>(gL r).map (i :: ·)
 | _::_=>none
theorem rq:∀ {xs:List AV} {ns:List Int},gL xs=some ns->xs=ns.map AV.int
 | [],_,e=>by cases e;rfl
 | .int i::r,_,e=>by
  obtain ⟨m,e1,rfl⟩:=J5.mp (show (gL r).map (i :: ·)=_ from e)
  rw [rq e1];rfl
 | .non::_,_,e=>by cases e
 | .bl _::_,_,e=>by cases e
 | .str _::_,_,e=>by cases e
 | .tup _::_,_,e=>by cases e
 | .fl _::_,_,e=>by cases e
 | .ref _::_,_,e=>by cases e
 | .exc _::_,_,e=>by cases e
section
variable {T:Tb} {E:St->XK} {X:Cx} {pos p apos cpos kp:Pos} {a b:Expr} {sa sb:SE}
theorem wM {ι:Ix} {H:Hp}:∀ {ns:List Int} {us:List V},RVs T ι H (ns.map AV.int) us->us=ns.map V.int
 | [],_,.nil=>rfl
 | _::_,_,.cons r rs=>by rw [bq r,wM rs];rfl
end
end Sm
namespace L2
open PySem PyProof.Rows
noncomputable def gc:Bool->Keyed->Array Keyed->Nat->Nat->Nat->StateT SortSt Sem (Option Nat):=sortPriv% PySem.Builtin.gallop
noncomputable def ky (p:Keyed):Int:=numOf p.1
section
variable {P:Program} {w:World} {A:Around} {E:Value->Shared->Prop} {s:Shared}
noncomputable def IK (p:Keyed):Prop:=∃ n t,p.1=Value.int n t
theorem gg {st:SortSt} {x y:Keyed} {Q:Option Bool->SortSt->Prop} (hk:kindOf st=oneType') (hx:IK x) (hy:IK y) (h:Q (some (decide (ky x<ky y))) st):wpS (model P w) A E s (lt' x y) Q st:=by
 obtain ⟨a,t,ex⟩:=hx
 obtain ⟨b,u,ey⟩:=hy
 rw [lt'_eq]
 refine JH (Na ?_)
 have z1:ky x=a:=by unfold ky;rw [ex];rfl
 have z2:ky y=b:=by unfold ky;rw [ey];rfl
 rw [hk,keyLt'_oneType,ex,ey]
 rw [z1,z2] at h
 exact JH (wpS_lift (OV (oneLt_int ⟨rfl,JV h⟩)))
theorem cX {st:SortSt} {arr:Array Keyed} {i:Nat} {x:Keyed} {Q:Keyed->SortSt->Prop} (e:arr[i]? = some x) (h:Q x st):wpS (model P w) A E s (elem' arr i) Q st:=by
 rw [elem'_eq,e];exact JV h
noncomputable abbrev LS:=Option (Option Nat)×Nat×Nat
theorem wN {st:SortSt} {n:Nat} {Z:Nat->Bool} {B:Nat->StateT SortSt Sem (Option Bool)} {Q:LS->SortSt->Prop} (mono:∀ i j,i<=j->j<n->Z j=true->Z i=true) (hB:∀ (i:Nat) (Q':Option Bool->SortSt->Prop),i<n->Q' (some (Z i)) st->wpS (model P w) A E s (B i) Q' st)
  {lo hi:Nat} (h1:lo<=hi) (h2:hi<=n) (h3:∀ i,i<lo->Z i=true) (h4:∀ i,hi<=i->i<n->Z i=false) (h:∀ l k,k<=n->(∀ i,i<k->Z i=true)->(∀ i,k<=i->i<n->Z i=false)->Q (none,l,k) st) :
  wpS (model P w) A E s (forIn [0:n] ((none,lo,hi):LS) λ_ c=>if c.2.1 ≥ c.2.2 then pure (.done (none,c.2.1,c.2.2)) else do
   let r <- B (c.2.1+(c.2.2-c.2.1) / 2)
   match r with
   | some more=>if more=true then pure (.yield (none,c.2.1+(c.2.2-c.2.1) / 2+1,c.2.2)) else pure (.yield (none,c.2.1,c.2.1+(c.2.2-c.2.1) / 2))
   | _=>pure (.done (some none,c.2.1,c.2.2))) Q st:=by
 refine KM (I:=λx c st' => st'=st/\∃ l k,c=(none,l,k)/\l<=k/\k<=n/\k-l<=n-x/\(∀ i,i<l->Z i=true)/\(∀ i,k<=i->i<n->Z i=false)) ?step ?fin ⟨rfl,lo,hi,rfl,h1,h2,by lia,h3,h4⟩
 case fin =>
  rintro c st' ⟨rfl,l,k,rfl,a1,a2,a3,a4,a5⟩
  have:l=k:=by lia
  subst this
  exact h l l a2 a4 a5
 case step =>
  rintro x c st' _ hx ⟨rfl,l,k,rfl,a1,a2,a3,a4,a5⟩
  dsimp only
  by_cases q:l ≥ k
  ·rw [JG q]
   have:l=k:=by lia
   subst this
   exact JV (h l l a2 a4 a5)
  ·rw [JF q]
   refine JH (hB _ _ (by lia) ?_)
   cases z:Z (l+(k-l) / 2) with
   | true=>exact JV ⟨rfl,_,_,rfl,by lia,by lia,by lia,λi hi=>mono i _ (by lia) (by lia) z,a5⟩
   | false=>exact JV ⟨rfl,_,_,rfl,by lia,by lia,by lia,a4,λi hi hn=>by
     cases y:Z i with
     | false=>rfl
     | true=>rw [mono _ i hi hn y] at z;cases z⟩
theorem Ep {st:SortSt} {n hint:Nat} {Z:Nat->Bool} {B:Nat->StateT SortSt Sem (Option Bool)} {Q:LS->SortSt->Prop} (hh:hint<n) (hB:∀ (i:Nat) (Q':Option Bool->SortSt->Prop),i<n->Q' (some (Z i)) st->wpS (model P w) A E s (B i) Q' st) (z0:Z hint=true)
  (h:∀ l o,l<o->hint+l<n->Z (hint+l)=true->(n-hint<=o\/(hint+o<n/\Z (hint+o)=false))->Q (none,l,o) st) :
  wpS (model P w) A E s (forIn [0:n] ((none,0,1):LS) λ_ c=>if c.2.2 ≥ n-hint then pure (.done (none,c.2.1,c.2.2)) else do
   let r <- B (hint+c.2.2)
   match r with
   | some more=>if (!more)=true then pure (.done (none,c.2.1,c.2.2)) else pure (.yield (none,c.2.2,2*c.2.2+1))
   | _=>pure (.done (some none,c.2.1,c.2.2))) Q st:=by
 refine KM (I:=λx c st' => st'=st/\∃ l o,c=(none,l,o)/\l<o/\x+1<=o/\hint+l<n/\Z (hint+l)=true) ?step ?fin ⟨rfl,0,1,rfl,by lia,by lia,hh,z0⟩
 case fin =>
  rintro c st' ⟨rfl,l,o,rfl,a1,a2,a3,a4⟩
  exact h l o a1 a3 a4 (.inl (by lia))
 case step =>
  rintro x c st' _ hx ⟨rfl,l,o,rfl,a1,a2,a3,a4⟩
  dsimp only
  by_cases q:o ≥ n-hint
  ·rw [JG q];exact JV (h l o a1 a3 a4 (.inl q))
  ·rw [JF q]
   refine JH (hB _ _ (by lia) ?_)
   cases z:Z (hint+o) with
   | true=>exact JV ⟨rfl,_,_,rfl,by lia,by lia,by lia,z⟩
   | false=>exact JV (h l o a1 a3 a4 (.inr ⟨by lia,z⟩))
theorem Er {st:SortSt} {n hint:Nat} {Z:Nat->Bool} {B:Nat->StateT SortSt Sem (Option Bool)} {Q:LS->SortSt->Prop} (hh:hint<n) (hB:∀ (i:Nat) (Q':Option Bool->SortSt->Prop),i<n->Q' (some (Z i)) st->wpS (model P w) A E s (B i) Q' st) (z0:Z hint=false)
  (h:∀ l o,l<o->l<=hint->Z (hint-l)=false->(hint+1<=o\/(o<=hint/\Z (hint-o)=true))->Q (none,l,o) st) :
  wpS (model P w) A E s (forIn [0:n] ((none,0,1):LS) λ_ c=>if c.2.2 ≥ hint+1 then pure (.done (none,c.2.1,c.2.2)) else do
   let r <- B (hint-c.2.2)
   match r with
   | some found=>if found=true then pure (.done (none,c.2.1,c.2.2)) else pure (.yield (none,c.2.2,2*c.2.2+1))
   | _=>pure (.done (some none,c.2.1,c.2.2))) Q st:=by
 refine KM (I:=λx c st' => st'=st/\∃ l o,c=(none,l,o)/\l<o/\x+1<=o/\l<=hint/\Z (hint-l)=false) ?step ?fin ⟨rfl,0,1,rfl,by lia,by lia,by lia,z0⟩
 case fin =>
  rintro c st' ⟨rfl,l,o,rfl,a1,a2,a3,a4⟩
  exact h l o a1 a3 a4 (.inl (by lia))
 case step =>
  rintro x c st' _ hx ⟨rfl,l,o,rfl,a1,a2,a3,a4⟩
  dsimp only
  by_cases q:o ≥ hint+1
  ·rw [JG q];exact JV (h l o a1 a3 a4 (.inl q))
  ·rw [JF q]
   refine JH (hB _ _ (by lia) ?_)
   cases z:Z (hint-o) with
   | false=>exact JV ⟨rfl,_,_,rfl,by lia,by lia,by lia,z⟩
   | true=>exact JV (h l o a1 a3 a4 (.inr ⟨by lia,z⟩))
theorem jY {st:SortSt} {key:Keyed} {arr:Array Keyed} {base n hint:Nat} {left:Bool} {Q:Option Nat->SortSt->Prop} (hk:kindOf st=oneType') (hh:hint<n) (hn:base+n<=arr.size) (ik:IK key) (ia:∀ (i:Nat) (x:Keyed),arr[i]? = some x->IK x) (Z:Nat->Bool)
  (hZ:∀ (i:Nat) (x:Keyed),arr[base+i]? = some x->Z i=if left=true then decide (ky x<ky key) else !decide (ky key<ky x)) (mono:∀ i j,i<=j->j<n->Z j=true->Z i=true)
  (h:∀ k,k<=n->(∀ i,i<k->Z i=true)->(∀ i,k<=i->i<n->Z i=false)->Q (some k) st):wpS (model P w) A E s (gc left key arr base n hint) Q st:=by
 have bey:∀ (i:Nat) (Q':Option Bool->SortSt->Prop),i<n->Q' (some (Z i)) st->wpS (model P w) A E s (do let x <- elem' arr (base+i);if left=true then lt' x key else do let r <- lt' key x;pure (r.map (!·))) Q' st:=by
  intro i Q' hi q
  have e:arr[base+i]? = some (arr[base+i]'(by lia)):=by simp
  have z:=hZ i _ e
  refine JH (cX e ?_)
  cases left with
  | true =>
   rw [JG rfl] at z ⊢
   rw [z] at q
   exact gg hk (ia _ _ e) ik q
  | false =>
   rw [JF JT] at z ⊢
   rw [z] at q
   exact JH (gg hk ik (ia _ _ e) (JV q))
 refine JH (bey hint _ hh ?_)
 cases z:Z hint with
 | true =>
  refine JH (Ep (Z:=Z) hh bey z λl o a1 a2 a3 a4=>?_)
  refine JH (wN (Z:=Z) mono bey (lo:=hint+l+1) (hi:=hint+min o (n-hint)) (by lia) (by lia) (λi hi=>mono i _ (by lia) a2 a3) (λi hi hin=>?_) λl k b1 b2 b3=>JV (h k b1 b2 b3))
  rcases a4 with a4 | ⟨a4,a5⟩
  ·lia
  ·cases y:Z i with
   | false=>rfl
   | true=>rw [mono _ i (by lia) hin y] at a5;cases a5
 | false =>
  refine JH (Er (Z:=Z) hh bey z λl o a1 a2 a3 a4=>?_)
  refine JH (wN (Z:=Z) mono bey (lo:=hint+1-min o (hint+1)) (hi:=hint-l) (by lia) (by lia) (λi hi=>?_) (λi hi hin=>?_) λl k b1 b2 b3=>JV (h k b1 b2 b3))
  ·rcases a4 with a4 | ⟨a4,a5⟩
   ·lia
   ·exact mono i _ (by lia) (by lia) a5
  ·cases y:Z i with
   | false=>rfl
   | true=>rw [mono _ i (by lia) hin y] at a3;cases a3
end
end L2
namespace L2
open PySem PyProof.Rows
noncomputable def rA:Array Keyed->Array Keyed->StateT SortSt Sem (Array Keyed):=sortPriv% PySem.Builtin.mergeLo
noncomputable def Srt (l:List Keyed):Prop:=l.Pairwise λx y=>ky x<=ky y
theorem Srt.app {l m:List Keyed}:Srt (l++m) ↔ Srt l/\Srt m/\∀ x∈l,∀ y∈m,ky x<=ky y:=Nc
theorem Srt.drop {l:List Keyed} (h:Srt l) (n:Nat):Srt (l.drop n):=Mp (Pd _ _) h
theorem Srt.take {l:List Keyed} (h:Srt l) (n:Nat):Srt (l.take n):=Mp (NM _ _) h
structure MI (a b out:Array Keyed) (ia ib:Nat):Prop where
 pa:ia<=a.size
 pb:ib<=b.size
 per:out.toList.Perm (a.toList.take ia++b.toList.take ib)
 srt:Srt out.toList
 le:∀ x∈out.toList,(∀ y∈a.toList.drop ia,ky x<=ky y)/\∀ y∈b.toList.drop ib,ky x<=ky y
structure Mg (a b r:Array Keyed):Prop where
 per:r.toList.Perm (a.toList++b.toList)
 srt:Srt r.toList
theorem ju (a:Array Keyed) (i k:Nat):(a.extract i (i+k)).toList=(a.toList.drop i).take k:=by
 rw [Nd,List.extract_eq_drop_take,LY]
theorem nS (a:Array Keyed) (i:Nat):(a.extract i a.size).toList=a.toList.drop i:=by
 rw [Nd,List.extract_eq_drop_take,Kg (by simp)]
theorem wO (l:List Keyed) (i k:Nat):l.drop i=(l.drop i).take k++l.drop (i+k):=by
 rw [<- LZ,Ke]
section
variable {a b out:Array Keyed} {ia ib:Nat}
theorem MI.size (m:MI a b out ia ib):out.size=ia+ib:=by
 have:=m.per.length_eq
 simp only [JJ,Kr,JQ] at this
 have:=m.pa
 have:=m.pb
 lia
theorem MI.addA (m:MI a b out ia ib) (Sa:Srt a.toList) {k:Nat} (hk:ia+k<=a.size) (hb:∀ x∈(a.toList.drop ia).take k,∀ y∈b.toList.drop ib,ky x<=ky y):MI a b (out++a.extract ia (ia+k)) (ia+k) ib:=by
 have sp:=wO a.toList ia k
 have sd:=Sa.drop ia
 rw [sp,Srt.app] at sd
 refine ⟨hk,m.pb,?_,?_,λx hx=>?_⟩
 ·rw [Kc,ju,OQ]
  refine (m.per.append_right _).trans ?_
  rw [JM,JM]
  exact K4 _ KY
 ·rw [Kc,ju,Srt.app]
  exact ⟨m.srt,sd.1,λx hx y hy=>(m.le x hx).1 y (by rw [sp];exact JO _ hy)⟩
 ·rw [Kc,ju] at hx
  rcases JS.mp hx with hx | hx
  ·exact ⟨λy hy=>(m.le x hx).1 y (by rw [sp];exact JW _ hy),(m.le x hx).2⟩
  ·exact ⟨λy hy=>sd.2.2 x hx y hy,hb x hx⟩
theorem MI.addB (m:MI a b out ia ib) (Sb:Srt b.toList) {k:Nat} (hk:ib+k<=b.size) (ha:∀ x∈(b.toList.drop ib).take k,∀ y∈a.toList.drop ia,ky x<=ky y):MI a b (out++b.extract ib (ib+k)) ia (ib+k):=by
 have sp:=wO b.toList ib k
 have sd:=Sb.drop ib
 rw [sp,Srt.app] at sd
 refine ⟨m.pa,hk,?_,?_,λx hx=>?_⟩
 ·rw [Kc,ju,OQ,<- JM]
  exact m.per.append_right _
 ·rw [Kc,ju,Srt.app]
  exact ⟨m.srt,sd.1,λx hx y hy=>(m.le x hx).2 y (by rw [sp];exact JO _ hy)⟩
 ·rw [Kc,ju] at hx
  rcases JS.mp hx with hx | hx
  ·exact ⟨(m.le x hx).1,λy hy=>(m.le x hx).2 y (by rw [sp];exact JW _ hy)⟩
  ·exact ⟨ha x hx,λy hy=>sd.2.2 x hx y hy⟩
theorem jv {a:Array Keyed} {i:Nat} {x:Keyed} (e:a[i]? = some x):(a.toList.drop i).take 1=[x]:=by
 have h:a.toList[i]? = some x:=by simpa using e
 obtain ⟨hl,rfl⟩:=JA.mp h
 rw [KI hl];rfl
theorem wQ {a out:Array Keyed} {i:Nat} {x:Keyed} (e:a[i]? = some x):out.push x=out++a.extract i (i+1):=by
 apply Array.ext'
 rw [Lh,Kc,ju,jv e]
theorem lt_size {a:Array Keyed} {i:Nat} {x:Keyed} (e:a[i]? = some x):i<a.size:=(Le.mp e).1
theorem MI.pushA (m:MI a b out ia ib) (Sa:Srt a.toList) {x:Keyed} (e:a[ia]? = some x) (hb:∀ y∈b.toList.drop ib,ky x<=ky y):MI a b (out.push x) (ia+1) ib:=by
 rw [wQ e]
 refine m.addA Sa (lt_size e) λz hz y hy=>?_
 rw [jv e] at hz
 rw [JP.mp hz];exact hb y hy
theorem MI.pushB (m:MI a b out ia ib) (Sb:Srt b.toList) {x:Keyed} (e:b[ib]? = some x) (ha:∀ y∈a.toList.drop ia,ky x<=ky y):MI a b (out.push x) ia (ib+1):=by
 rw [wQ e]
 refine m.addB Sb (lt_size e) λz hz y hy=>?_
 rw [jv e] at hz
 rw [JP.mp hz];exact ha y hy
theorem MI.done (m:MI a b out ia ib) (Sa:Srt a.toList) (Sb:Srt b.toList) (h:ib=b.size\/ia=a.size):Mg a b (out++a.extract ia a.size++b.extract ib b.size):=by
 have e:(out++a.extract ia a.size++b.extract ib b.size).toList=out.toList++(a.toList.drop ia++b.toList.drop ib):=by
  rw [Kc,Kc,nS,nS,JM]
 have pr:(out.toList++(a.toList.drop ia++b.toList.drop ib)).Perm (a.toList++b.toList):=by
  refine (m.per.append_right _).trans ?_
  have:(a.toList++b.toList)=(a.toList.take ia++a.toList.drop ia)++(b.toList.take ib++b.toList.drop ib):=by rw [Ke,Ke]
  rw [this]
  simp only [JM]
  refine K4 _ ?_
  rw [<- JM,<- JM]
  exact MV _ KY
 refine ⟨by rw [e];exact pr,?_⟩
 rw [e,Srt.app,Srt.app]
 refine ⟨m.srt,⟨Sa.drop ia,Sb.drop ib,λx hx y hy=>?_⟩,λx hx y hy=>?_⟩
 ·rcases h with h | h
  ·rw [h,Kw (by simp)] at hy;exact nomatch hy
  ·rw [h,Kw (by simp)] at hx;exact nomatch hx
 ·rcases JS.mp hy with hy | hy
  ·exact (m.le x hx).1 y hy
  ·exact (m.le x hx).2 y hy
theorem MI.last (m:MI a b out ia ib) (Sa:Srt a.toList) (Sb:Srt b.toList) (h:ia+1=a.size) {z:Keyed} (ez:a[a.size-1]? = some z) (hz:∀ y∈b.toList,ky y<=ky z):Mg a b (out++b.extract ib b.size++a.extract ia a.size):=by
 have e:(out++b.extract ib b.size++a.extract ia a.size).toList=out.toList++(b.toList.drop ib++a.toList.drop ia):=by
  rw [Kc,Kc,nS,nS,JM]
 have one:a.toList.drop ia=[z]:=by
  have ei:a[ia]? = some z:=by rw [show ia=a.size-1 by lia];exact ez
  have:=jv ei
  rw [Kg (by simp;lia)] at this
  exact this
 have pr:(out.toList++(b.toList.drop ib++a.toList.drop ia)).Perm (a.toList++b.toList):=by
  refine (m.per.append_right _).trans ?_
  have:(a.toList++b.toList)=(a.toList.take ia++a.toList.drop ia)++(b.toList.take ib++b.toList.drop ib):=by rw [Ke,Ke]
  rw [this]
  simp only [JM]
  refine K4 _ ?_
  rw [<- JM]
  exact KY
 refine ⟨by rw [e];exact pr,?_⟩
 rw [e,Srt.app,Srt.app]
 refine ⟨m.srt,⟨Sb.drop ib,Sa.drop ia,λx hx y hy=>?_⟩,λx hx y hy=>?_⟩
 ·rw [one] at hy
  rw [JP.mp hy]
  exact hz x (K9 hx)
 ·rcases JS.mp hy with hy | hy
  ·exact (m.le x hx).2 y hy
  ·exact (m.le x hx).1 y hy
theorem gh {l:List Keyed} (S:Srt l) {i:Nat} {x:Keyed} (e:l[i]? = some x):∀ y∈l.drop i,ky x<=ky y:=by
 obtain ⟨hl,rfl⟩:=JA.mp e
 have:=S.drop i
 rw [KI hl] at this ⊢
 intro y hy
 rcases J4.mp hy with rfl | hy
 ·exact L9 _
 ·exact (Lp.mp this).1 y hy
end
end L2
namespace L2
open PySem PyProof.Rows
structure Sm1 (st st':SortSt):Prop where
 kind:kindOf st'=kindOf st
 arr:arrOf st'=arrOf st
 pend:pendingOf st'=pendingOf st
 fail:failedOf st'=failedOf st
theorem Sm1.refl (st:SortSt):Sm1 st st:=⟨rfl,rfl,rfl,rfl⟩
theorem Sm1.trans {s1 s2 s3:SortSt} (h:Sm1 s1 s2) (g:Sm1 s2 s3):Sm1 s1 s3:=⟨g.kind.trans h.kind,g.arr.trans h.arr,g.pend.trans h.pend,g.fail.trans h.fail⟩
section
variable {P:Program} {w:World} {A:Around} {E:Value->Shared->Prop} {s:Shared}
theorem jZ {st:SortSt} {x:String} {Q:Unit->SortSt->Prop} (h:Q () st):wpS (model P w) A E s (liftM (rule x):StateT SortSt Sem Unit) Q st:=wpS_lift (Mw ⟨rfl,h⟩)
noncomputable def wR:Nat->StateT SortSt Sem Unit:=sortPriv% PySem.Builtin.setMinGallop
theorem j0 {st:SortSt} {g:Nat} {Q:Unit->SortSt->Prop} (h:∀ st',Sm1 st st'->Q () st'):wpS (model P w) A E s (wR g) Q st:=by
 unfold wR
 exact Mx (h _ ⟨rfl,rfl,rfl,rfl⟩)
theorem cg {a:Array Keyed} {i:Nat} (h:i<a.size):a[i]? = some a[i]:=by simp
theorem aO {a:Array Keyed} {i:Nat} {x:Keyed} (e:a[i]? = some x):a.toList[i]? = some x:=by simpa using e
theorem Es {st:SortSt} {key:Keyed} {arr:Array Keyed} {base:Nat} {Q:Option Nat->SortSt->Prop} (hk:kindOf st=oneType') (hb:base<arr.size) (ik:IK key) (ia:∀ (i:Nat) (x:Keyed),arr[i]? = some x->IK x) (S:Srt arr.toList)
  (h:∀ k,base+k<=arr.size->(∀ x∈(arr.toList.drop base).take k,ky x<=ky key)->(∀ x∈arr.toList.drop (base+k),ky key<ky x)->Q (some k) st):wpS (model P w) A E s (gc false key arr base (arr.size-base) 0) Q st:=by
 have get:∀ i,i<arr.size-base->∃ x,arr[base+i]? = some x:=λi hi=>⟨_,cg (by lia)⟩
 refine jY hk (by lia) (by lia) ik ia (λi=>match arr[base+i]? with | some x=>!decide (ky key<ky x) | none=>false) (λi x e=>by simp only [e];rfl) (λi j hij hj z=>?_) λk h1 h2 h3=>?_
 ·obtain ⟨x,ex⟩:=get i (by lia)
  obtain ⟨y,ey⟩:=get j hj
  simp only [ex,ey,Ls,Kx] at z ⊢
  have:=gh S (aO ex) y (by
   rw [J1]
   exact ⟨j-i,by rw [Kf,show base+i+(j-i)=base+j by lia];exact aO ey⟩)
  lia
 ·refine h k (by lia) (λx hx=>?_) λx hx=>?_
  ·obtain ⟨i,hi⟩:=J1.mp hx
   have hik:i<k:=by
    have:=(JA.mp hi).1
    simp at this;lia
   rw [Kl hik,Kf] at hi
   have e:arr[base+i]? = some x:=by simpa using hi
   have z:=h2 i hik
   simp only [e,Ls,Kx] at z
   lia
  ·obtain ⟨i,hi⟩:=J1.mp hx
   rw [Kf] at hi
   have e:arr[base+(k+i)]? = some x:=by rw [<- MH];simpa using hi
   have hs:=lt_size e
   have z:=h3 (k+i) (by lia) (by lia)
   simp only [e,Ny,Kn] at z
   exact z
theorem Et {st:SortSt} {key:Keyed} {arr:Array Keyed} {base:Nat} {Q:Option Nat->SortSt->Prop} (hk:kindOf st=oneType') (hb:base<arr.size) (ik:IK key) (ia:∀ (i:Nat) (x:Keyed),arr[i]? = some x->IK x) (S:Srt arr.toList)
  (h:∀ k,base+k<=arr.size->(∀ x∈(arr.toList.drop base).take k,ky x<ky key)->(∀ x∈arr.toList.drop (base+k),ky key<=ky x)->Q (some k) st):wpS (model P w) A E s (gc true key arr base (arr.size-base) 0) Q st:=by
 have get:∀ i,i<arr.size-base->∃ x,arr[base+i]? = some x:=λi hi=>⟨_,cg (by lia)⟩
 refine jY hk (by lia) (by lia) ik ia (λi=>match arr[base+i]? with | some x=>decide (ky x<ky key) | none=>false) (λi x e=>by simp only [e];rfl) (λi j hij hj z=>?_) λk h1 h2 h3=>?_
 ·obtain ⟨x,ex⟩:=get i (by lia)
  obtain ⟨y,ey⟩:=get j hj
  simp only [ex,ey,Kn] at z ⊢
  have:=gh S (aO ex) y (by
   rw [J1]
   exact ⟨j-i,by rw [Kf,show base+i+(j-i)=base+j by lia];exact aO ey⟩)
  lia
 ·refine h k (by lia) (λx hx=>?_) λx hx=>?_
  ·obtain ⟨i,hi⟩:=J1.mp hx
   have hik:i<k:=by
    have:=(JA.mp hi).1
    simp at this;lia
   rw [Kl hik,Kf] at hi
   have e:arr[base+i]? = some x:=by simpa using hi
   have z:=h2 i hik
   simp only [e,Kn] at z
   exact z
  ·obtain ⟨i,hi⟩:=J1.mp hx
   rw [Kf] at hi
   have e:arr[base+(k+i)]? = some x:=by rw [<- MH];simpa using hi
   have hs:=lt_size e
   have z:=h3 (k+i) (by lia) (by lia)
   simp only [e,Kx] at z
   lia
noncomputable abbrev GS:=Option (Array Keyed)×Array Keyed×Nat×Nat×Nat×Nat×Nat
noncomputable def GI (a b:Array Keyed) (n:Nat) (st:SortSt) (c:GS) (st3:SortSt):Prop:=Sm1 st st3/\∃ out3 i j mg ac bc,c=(none,out3,i,j,mg,ac,bc)/\MI a b out3 i j/\i+1<a.size/\j<b.size/\n<=out3.size
noncomputable def GQ (a b:Array Keyed) (n:Nat) (st:SortSt) (c:GS) (st3:SortSt):Prop:=Sm1 st st3/\((∃ r rest,c=(some r,rest)/\Mg a b r)\/∃ out3 i j mg ac bc,c=(none,out3,i,j,mg,ac,bc)/\MI a b out3 i j/\i+1<a.size/\j<b.size/\n<=out3.size)
noncomputable def GR (a b:Array Keyed) (n:Nat) (st:SortSt) (r:ForInStep GS) (st3:SortSt):Prop:=match r with
 | .done c=>GQ a b n st c st3
 | .yield c=>GI a b n st c st3
noncomputable def rB (a b o:Array Keyed) (i j mg k k2:Nat):StateT SortSt Sem (ForInStep GS):=do
 let v <- elem' a i
 if (i+1+1 == a.size)=true then pure (.done (some (o.push v++b.extract j b.size++a.extract (i+1) a.size),o.push v,i+1,j,mg,k,k2))
 else if (decide (k<7) && decide (k2<7))=true then pure (.done (none,o.push v,i+1,j,mg,k,k2)) else pure (.yield (none,o.push v,i+1,j,mg,k,k2))
noncomputable def rC (a b o:Array Keyed) (i j mg k bc:Nat):StateT SortSt Sem (ForInStep GS):=do
 let v <- elem' b j
 if (j+1 == b.size)=true then pure (.done (some (o.push v++a.extract i a.size++b.extract (j+1) b.size),o.push v,i,j+1,mg,k,bc))
 else do
  let u <- elem' a i
  let r <- gc true u b (j+1) (b.size-(j+1)) 0
  match r with
  | some k2 =>
   if k2 > 0 then
    if (j+1+k2 == b.size)=true then pure (.done (some (o.push v++b.extract (j+1) (j+1+k2)++a.extract i a.size++b.extract (j+1+k2) b.size),o.push v++b.extract (j+1) (j+1+k2),i,j+1+k2,mg,k,k2))
    else rB a b (o.push v++b.extract (j+1) (j+1+k2)) i (j+1+k2) mg k k2
   else rB a b (o.push v) i (j+1) mg k k2
  | _=>pure (.done (some (o.push v++a.extract i a.size++b.extract (j+1) b.size),o.push v,i,j+1,mg,k,bc))
theorem wU {st st4:SortSt} {a b o:Array Keyed} {i j mg k k2 n:Nat} (Sa:Srt a.toList) (Sb:Srt b.toList) {z:Keyed} (ez:a[a.size-1]? = some z) (hz:∀ y∈b.toList,ky y<=ky z) (s4:Sm1 st st4) (m:MI a b o i j) (h1:i+1<a.size) (h2:j<b.size) (h3:n<=o.size)
  {u:Keyed} (eu:a[i]? = some u) (hu:∀ y∈b.toList.drop j,ky u<=ky y):wpS (model P w) A E s (rB a b o i j mg k k2) (GR a b n st) st4:=by
 refine JH (cX eu ?_)
 have m7:=m.pushA Sa eu hu
 by_cases q:(i+1+1 == a.size)=true
 ·rw [JG q]
  exact JV ⟨s4,.inl ⟨_,_,rfl,m7.last Sa Sb (by simpa using q) ez hz⟩⟩
 ·rw [JF q]
  have qn:i+1+1≠a.size:=by simpa using q
  have sz:n<=(o.push u).size:=by rw [KQ];lia
  by_cases g:(decide (k<7) && decide (k2<7))=true
  ·rw [JG g];exact JV ⟨s4,.inr ⟨_,_,_,_,_,_,rfl,m7,by lia,h2,sz⟩⟩
  ·rw [JF g];exact JV ⟨s4,_,_,_,_,_,_,rfl,m7,by lia,h2,sz⟩
theorem wV {st st4:SortSt} {a b o:Array Keyed} {i j mg k bc n:Nat} (hk:kindOf st=oneType') (Sa:Srt a.toList) (Sb:Srt b.toList) (ia:∀ (i:Nat) (x:Keyed),a[i]? = some x->IK x) (ib:∀ (i:Nat) (x:Keyed),b[i]? = some x->IK x) {z:Keyed} (ez:a[a.size-1]? = some z) (hz:∀ y∈b.toList,ky y<=ky z) (s4:Sm1 st st4) (m:MI a b o i j) (h1:i+1<a.size) (h2:j<b.size) (h3:n<=o.size)
  {v:Keyed} (ev:b[j]? = some v) (hv:∀ y∈a.toList.drop i,ky v<=ky y):wpS (model P w) A E s (rC a b o i j mg k bc) (GR a b n st) st4:=by
 refine JH (cX ev ?_)
 have m5:=m.pushB Sb ev hv
 by_cases q:(j+1 == b.size)=true
 ·rw [JG q]
  exact JV ⟨s4,.inl ⟨_,_,rfl,m5.done Sa Sb (.inl (by simpa using q))⟩⟩
 ·rw [JF q]
  have qn:j+1≠b.size:=by simpa using q
  have eu:=cg (a:=a) (i:=i) (by lia)
  have sz:n<=(o.push v).size:=by rw [KQ];lia
  refine JH (cX eu (JH (Et (s4.kind.trans hk) (by lia) (ia _ _ eu) ib Sb λk2 c1 c2 c3=>?_)))
  dsimp only
  by_cases z2:k2 > 0
  ·rw [JG z2]
   have m6:=m5.addB Sb c1 λx hx y hy=>KZ (LA (c2 x hx)) (gh Sa (aO eu) y hy)
   by_cases q6:(j+1+k2 == b.size)=true
   ·rw [JG q6]
    exact JV ⟨s4,.inl ⟨_,_,rfl,m6.done Sa Sb (.inl (by simpa using q6))⟩⟩
   ·rw [JF q6]
    have q6n:j+1+k2≠b.size:=by simpa using q6
    exact wU Sa Sb ez hz s4 m6 h1 (by lia) (by rw [LG];lia) eu c3
  ·rw [JF z2]
   have k0:k2=0:=by lia
   subst k0
   exact wU Sa Sb ez hz s4 m5 h1 (by lia) sz eu c3
theorem Eu {st:SortSt} {a b:Array Keyed} {Q:Array Keyed->SortSt->Prop} (hk:kindOf st=oneType') (Sa:Srt a.toList) (Sb:Srt b.toList) (ia:∀ (i:Nat) (x:Keyed),a[i]? = some x->IK x) (ib:∀ (i:Nat) (x:Keyed),b[i]? = some x->IK x) (na:0<a.size) (nb:0<b.size)
  (hf:∀ y∈a.toList,ky b[0]<=ky y) (hz:∀ y∈b.toList,ky y<=ky a[a.size-1]) (h:∀ r st',Sm1 st st'->Mg a b r->Q r st'):wpS (model P w) A E s (rA a b) Q st:=by
 have ez:=cg (a:=a) (i:=a.size-1) (by lia)
 refine JH (jZ ?_)
 refine JH (cX (cg nb) ?_)
 have m0:MI a b #[b[0]] 0 1:=by
  refine ⟨Ki _,nb,?_,L4 _ _,λx hx=>?_⟩
  ·have:=jv (cg nb)
   rw [Lg] at this
   rw [this];exact OB _
  ·have e:x=b[0]:=by simpa using hx
   subst e
   refine ⟨λy hy=>hf y (by simpa using hy),λy hy=>?_⟩
   exact gh Sb (aO (cg nb)) y (K9 hy)
 dsimp only
 by_cases q1:(1 == b.size)=true
 ·rw [JG q1]
  exact JV (h _ st (.refl st) (m0.done Sa Sb (.inl (by simpa using q1))))
 rw [JF q1]
 by_cases q2:(0+1 == a.size)=true
 ·rw [JG q2]
  exact JV (h _ st (.refl st) (m0.last Sa Sb (by simpa using q2) ez hz))
 rw [JF q2]
 have n1:b.size≠1:=λz=>q1 (by rw [z];rfl)
 have n2:a.size≠1:=λz=>q2 (by rw [z];rfl)
 refine JH (Na ?_)
 refine JH (LP (KM (I:=λx c st' => Sm1 st st'/\∃ out i j mg,c=(none,out,i,j,mg)/\MI a b out i j/\i+1<a.size/\j<b.size/\x+1<=out.size)
  (Q:=λc st' => Sm1 st st'/\∃ r rest,c=(some r,rest)/\Mg a b r) ?step ?fin ⟨.refl st,_,0,1,_,rfl,m0,by lia,by lia,JC _⟩) ?post)
 case post =>
  rintro c st' ⟨sm,r,rest,rfl,mg⟩
  exact JV (h r st' sm mg)
 case fin =>
  rintro c st' ⟨sm,out,i,j,mg,rfl,m,h1,h2,h3⟩
  have:=m.size
  lia
 case step =>
  rintro x c st' _ hx ⟨sm,out,i,j,mg,rfl,m,h1,h2,h3⟩
  dsimp only
  refine JH (LP (KM (I:=λy c st2=>st2=st'/\∃ out2 i j ac bc,c=(none,out2,i,j,ac,bc)/\MI a b out2 i j/\i+1<a.size/\j<b.size/\out.size+y<=out2.size)
   (Q:=λc st2=>st2=st'/\((∃ r rest,c=(some r,rest)/\Mg a b r)\/∃ out2 i j ac bc,c=(none,out2,i,j,ac,bc)/\MI a b out2 i j/\i+1<a.size/\j<b.size/\out.size+1<=out2.size)) ?s1 ?f1 ⟨rfl,out,i,j,0,0,rfl,m,h1,h2,JC _⟩) ?p1)
  case f1 =>
   rintro c st2 ⟨rfl,out2,i,j,ac,bc,rfl,m,h1,h2,h4⟩
   exact ⟨rfl,.inr ⟨out2,i,j,ac,bc,rfl,m,h1,h2,by lia⟩⟩
  case s1 =>
   rintro y c st2 _ hy ⟨rfl,out2,i,j,ac,bc,rfl,m,h1,h2,h4⟩
   dsimp only
   have eb:=cg (a:=b) h2
   have ea:=cg (a:=a) (i:=i) (by lia)
   refine JH (cX eb (JH (cX ea (JH (gg (sm.kind.trans hk) (ib _ _ eb) (ia _ _ ea) ?_)))))
   by_cases lt:ky b[j]<ky a[i]
   ·rw [KR lt]
    dsimp only
    rw [JG rfl]
    refine JH (cX eb ?_)
    have m2:=m.pushB Sb eb λz hz=>KZ (LA lt) (gh Sa (aO ea) z hz)
    by_cases q:(j+1 == b.size)=true
    ·rw [JG q]
     exact JV ⟨rfl,.inl ⟨_,_,rfl,m2.done Sa Sb (.inl (by simpa using q))⟩⟩
    ·rw [JF q]
     have qn:j+1≠b.size:=by simpa using q
     by_cases g:bc+1 ≥ mg
     ·rw [JG g]
      exact JV ⟨rfl,.inr ⟨_,_,_,_,_,rfl,m2,h1,by lia,by rw [KQ];lia⟩⟩
     ·rw [JF g]
      exact JV ⟨rfl,_,_,_,_,_,rfl,m2,h1,by lia,by rw [KQ];lia⟩
   ·rw [Kh lt]
    dsimp only
    rw [JF JT]
    refine JH (cX ea ?_)
    have m2:=m.pushA Sa ea λz hz=>KZ (O0.mp lt) (gh Sb (aO eb) z hz)
    by_cases q:(i+1+1 == a.size)=true
    ·rw [JG q]
     exact JV ⟨rfl,.inl ⟨_,_,rfl,m2.last Sa Sb (by simpa using q) ez hz⟩⟩
    ·rw [JF q]
     have qn:i+1+1≠a.size:=by simpa using q
     by_cases g:ac+1 ≥ mg
     ·rw [JG g]
      exact JV ⟨rfl,.inr ⟨_,_,_,_,_,rfl,m2,by lia,h2,by rw [KQ];lia⟩⟩
     ·rw [JF g]
      exact JV ⟨rfl,_,_,_,_,_,rfl,m2,by lia,h2,by rw [KQ];lia⟩
  case p1 =>
   rintro c st2 ⟨rfl,hc⟩
   rcases hc with ⟨r,rest,rfl,mgd⟩ | ⟨out2,i,j,ac,bc,rfl,m,h1,h2,h4⟩
   ·exact JV ⟨sm,r,_,rfl,mgd⟩
   ·dsimp only
    refine JH (jZ ?_)
    refine JH (LP (KM (I:=λy c st3=>Sm1 st st3/\∃ out3 i j mg ac bc,c=(none,out3,i,j,mg,ac,bc)/\MI a b out3 i j/\i+1<a.size/\j<b.size/\out2.size<=out3.size)
     (Q:=λc st3=>Sm1 st st3/\((∃ r rest,c=(some r,rest)/\Mg a b r)\/∃ out3 i j mg ac bc,c=(none,out3,i,j,mg,ac,bc)/\MI a b out3 i j/\i+1<a.size/\j<b.size/\out2.size<=out3.size)) ?s2 ?f2 ⟨sm,out2,i,j,_,ac,bc,rfl,m,h1,h2,JC _⟩) ?p2)
    case f2=>rintro c st3 ⟨s3,hh⟩;exact ⟨s3,.inr hh⟩
    case p2 =>
     rintro c st3 ⟨s3,hc⟩
     rcases hc with ⟨r,rest,rfl,mgd⟩ | ⟨out3,i,j,mg3,ac,bc,rfl,m,h1,h2,h5⟩
     ·exact JV ⟨s3,r,_,rfl,mgd⟩
     ·exact JH (j0 λst4 s4=>JV ⟨s3.trans s4,out3,i,j,_,rfl,m,h1,h2,by lia⟩)
    case s2 =>
     rintro y c st3 _ hy ⟨s3,out3,i,j,mg3,ac,bc,rfl,m,h1,h2,h5⟩
     dsimp only
     have eb:=cg (a:=b) h2
     have body:∀ (mgx:Nat) (st4:SortSt),Sm1 st st4->wpS (model P w) A E s (do
       let v <- elem' b j
       let r <- gc false v a i (a.size-i) 0
       match r with
       | some k =>
        if k > 0 then
         if (i+k+1 == a.size)=true then pure (.done (some (out3++a.extract i (i+k)++b.extract j b.size++a.extract (i+k) a.size),out3++a.extract i (i+k),i+k,j,mgx,k,bc))
         else if (i+k == a.size)=true then pure (.done (some (out3++a.extract i (i+k)++a.extract (i+k) a.size++b.extract j b.size),out3++a.extract i (i+k),i+k,j,mgx,k,bc))
         else rC a b (out3++a.extract i (i+k)) (i+k) j mgx k bc
        else rC a b out3 i j mgx k bc
       | _=>pure (.done (some (out3++a.extract i a.size++b.extract j b.size),out3,i,j,mgx,ac,bc))) (GR a b out2.size st) st4:=by
      intro mgx st4 s4
      refine JH (cX eb (JH (Es (s4.kind.trans hk) (by lia) (ib _ _ eb) ia Sa λk c1 c2 c3=>?_)))
      dsimp only
      by_cases z1:k > 0
      ·rw [JG z1]
       have m4:=m.addA Sa c1 λx hx y hy=>KZ (c2 x hx) (gh Sb (aO eb) y hy)
       by_cases q4:(i+k+1 == a.size)=true
       ·rw [JG q4]
        exact JV ⟨s4,.inl ⟨_,_,rfl,m4.last Sa Sb (by simpa using q4) ez hz⟩⟩
       ·rw [JF q4]
        have q4n:i+k+1≠a.size:=by simpa using q4
        by_cases q5:(i+k == a.size)=true
        ·rw [JG q5]
         exact JV ⟨s4,.inl ⟨_,_,rfl,m4.done Sa Sb (.inr (by simpa using q5))⟩⟩
        ·rw [JF q5]
         have q5n:i+k≠a.size:=by simpa using q5
         exact wV hk Sa Sb ia ib ez hz s4 m4 (by lia) h2 (by rw [LG];lia) eb λy hy=>LA (c3 y hy)
      ·rw [JF z1]
       have k0:k=0:=by lia
       subst k0
       exact wV hk Sa Sb ia ib ez hz s4 m h1 h2 h5 eb λy hy=>LA (c3 y hy)
     by_cases g:mg3 > 1
     ·rw [JG g]
      exact JH (j0 λst4 s4=>LP (body (mg3-1) st4 (s3.trans s4)) λr st5 h=>by cases r<;>exact h)
     ·rw [JF g]
      exact JH (j0 λst4 s4=>LP (body mg3 st4 (s3.trans s4)) λr st5 h=>by cases r<;>exact h)
end
end L2
namespace L2
open PySem PyProof.Rows
noncomputable def rD:Array Keyed->Array Keyed->StateT SortSt Sem (Array Keyed):=sortPriv% PySem.Builtin.mergeHi
structure HI (a b out:Array Keyed) (na nb:Nat):Prop where
 pa:na<=a.size
 pb:nb<=b.size
 per:out.toList.Perm (a.toList.drop na++b.toList.drop nb)
 srt:Srt out.toList.reverse
 le:∀ x∈out.toList,(∀ y∈a.toList.take na,ky y<=ky x)/\∀ y∈b.toList.take nb,ky y<=ky x
theorem iO (a:Array Keyed) (i n:Nat):(a.extract i n).toList=(a.toList.take n).drop i:=by
 rw [Nd,List.extract_eq_drop_take,Mu]
theorem rE (l:List Keyed) {i n:Nat} (h:i<=n):l.take n=l.take i++(l.take n).drop i:=by
 have:=Ke i (l.take n)
 rw [MW,K6 h] at this
 exact this.symm
theorem rF (l:List Keyed) {i n:Nat} (h:i<=n):l.drop i=(l.take n).drop i++l.drop n:=by
 rw [Mu]
 have:=Ke (n-i) (l.drop i)
 rw [LZ,show i+(n-i)=n by lia] at this
 exact this.symm
section
variable {a b out:Array Keyed} {na nb:Nat}
theorem HI.size (m:HI a b out na nb):out.size+na+nb=a.size+b.size:=by
 have:=m.per.length_eq
 simp only [JJ,KG,JQ] at this
 have:=m.pa
 have:=m.pb
 lia
theorem HI.addA (m:HI a b out na nb) (Sa:Srt a.toList) {k:Nat} (hk:k<=na) (hb:∀ x∈(a.toList.take na).drop k,∀ y∈b.toList.take nb,ky y<=ky x):HI a b (out++(a.extract k na).reverse) k nb:=by
 have e:(out++(a.extract k na).reverse).toList=out.toList++((a.toList.take na).drop k).reverse:=by rw [Kc,LI,iO]
 have sp:=rE a.toList hk
 have st:=Sa.take na
 rw [sp,Srt.app] at st
 refine ⟨JI hk m.pa,m.pb,?_,?_,λx hx=>?_⟩
 ·rw [e,rF a.toList hk,JM]
  refine (KY).trans ?_
  exact (MX _).append m.per
 ·rw [e,MF,Nf,Srt.app]
  exact ⟨st.2.1,m.srt,λx hx y hy=>(m.le y (KS.mp hy)).1 x (by rw [sp];exact JW _ hx)⟩
 ·rw [e] at hx
  rcases JS.mp hx with hx | hx
  ·exact ⟨λy hy=>(m.le x hx).1 y (by rw [sp];exact JO _ hy),(m.le x hx).2⟩
  ·exact ⟨λy hy=>st.2.2 y hy x (KS.mp hx),hb x (KS.mp hx)⟩
theorem HI.addB (m:HI a b out na nb) (Sb:Srt b.toList) {k:Nat} (hk:k<=nb) (ha:∀ x∈(b.toList.take nb).drop k,∀ y∈a.toList.take na,ky y<=ky x):HI a b (out++(b.extract k nb).reverse) na k:=by
 have e:(out++(b.extract k nb).reverse).toList=out.toList++((b.toList.take nb).drop k).reverse:=by rw [Kc,LI,iO]
 have sp:=rE b.toList hk
 have st:=Sb.take nb
 rw [sp,Srt.app] at st
 refine ⟨m.pa,JI hk m.pb,?_,?_,λx hx=>?_⟩
 ·rw [e,rF b.toList hk]
  refine (List.Perm.append m.per (MX _)).trans ?_
  rw [JM]
  exact K4 _ KY
 ·rw [e,MF,Nf,Srt.app]
  exact ⟨st.2.1,m.srt,λx hx y hy=>(m.le y (KS.mp hy)).2 x (by rw [sp];exact JW _ hx)⟩
 ·rw [e] at hx
  rcases JS.mp hx with hx | hx
  ·exact ⟨(m.le x hx).1,λy hy=>(m.le x hx).2 y (by rw [sp];exact JO _ hy)⟩
  ·exact ⟨ha x (KS.mp hx),λy hy=>st.2.2 y hy x (KS.mp hx)⟩
theorem nT {a:Array Keyed} {i:Nat} {x:Keyed} (e:a[i]? = some x):(a.toList.take (i+1)).drop i=[x]:=by
 rw [Mu,LY];exact jv e
theorem wW {a out:Array Keyed} {i:Nat} {x:Keyed} (e:a[i]? = some x):out.push x=out++(a.extract i (i+1)).reverse:=by
 apply Array.ext'
 rw [Lh,Kc,LI,iO,nT e];rfl
theorem HI.pushA (m:HI a b out (na+1) nb) (Sa:Srt a.toList) {x:Keyed} (e:a[na]? = some x) (hb:∀ y∈b.toList.take nb,ky y<=ky x):HI a b (out.push x) na nb:=by
 rw [wW e]
 refine m.addA Sa (MP _) λz hz y hy=>?_
 rw [nT e] at hz
 rw [JP.mp hz];exact hb y hy
theorem HI.pushB (m:HI a b out na (nb+1)) (Sb:Srt b.toList) {x:Keyed} (e:b[nb]? = some x) (ha:∀ y∈a.toList.take na,ky y<=ky x):HI a b (out.push x) na nb:=by
 rw [wW e]
 refine m.addB Sb (MP _) λz hz y hy=>?_
 rw [nT e] at hz
 rw [JP.mp hz];exact ha y hy
theorem HI.done (m:HI a b out na nb) (Sa:Srt a.toList) (Sb:Srt b.toList) (h:na=0\/nb=0):Mg a b (a.extract 0 na++b.extract 0 nb++out.reverse):=by
 have e:(a.extract 0 na++b.extract 0 nb++out.reverse).toList=(a.toList.take na++b.toList.take nb)++out.toList.reverse:=by
  rw [Kc,Kc,iO,iO,LI,Lg,Lg]
 have pr:((a.toList.take na++b.toList.take nb)++out.toList.reverse).Perm (a.toList++b.toList):=by
  refine (((MX _).trans m.per).append_left _).trans ?_
  have:(a.toList++b.toList)=(a.toList.take na++a.toList.drop na)++(b.toList.take nb++b.toList.drop nb):=by rw [Ke,Ke]
  rw [this]
  simp only [JM]
  refine K4 _ ?_
  rw [<- JM,<- JM]
  exact MV _ KY
 refine ⟨by rw [e];exact pr,?_⟩
 rw [e,Srt.app,Srt.app]
 refine ⟨⟨Sa.take na,Sb.take nb,λx hx y hy=>?_⟩,m.srt,λx hx y hy=>?_⟩
 ·rcases h with h | h
  ·rw [h] at hx;exact nomatch hx
  ·rw [h] at hy;exact nomatch hy
 ·rcases JS.mp hx with hx | hx
  ·exact (m.le y (KS.mp hy)).1 x hx
  ·exact (m.le y (KS.mp hy)).2 x hx
theorem HI.first (m:HI a b out na nb) (Sa:Srt a.toList) (Sb:Srt b.toList) (h:nb=1) {z:Keyed} (ez:b[0]? = some z) (hz:∀ y∈a.toList,ky z<=ky y):Mg a b (b.extract 0 nb++a.extract 0 na++out.reverse):=by
 subst h
 have e:(b.extract 0 1++a.extract 0 na++out.reverse).toList=(b.toList.take 1++a.toList.take na)++out.toList.reverse:=by
  rw [Kc,Kc,iO,iO,LI,Lg,Lg]
 have one:b.toList.take 1=[z]:=by
  have:=nT ez
  rw [Lg] at this;exact this
 have pr:((b.toList.take 1++a.toList.take na)++out.toList.reverse).Perm (a.toList++b.toList):=by
  refine (List.Perm.append KY ((MX _).trans m.per)).trans ?_
  have:(a.toList++b.toList)=(a.toList.take na++a.toList.drop na)++(b.toList.take 1++b.toList.drop 1):=by rw [Ke,Ke]
  rw [this]
  simp only [JM]
  refine K4 _ ?_
  rw [<- JM,<- JM]
  exact MV _ KY
 refine ⟨by rw [e];exact pr,?_⟩
 rw [e,Srt.app,Srt.app]
 refine ⟨⟨Sb.take 1,Sa.take na,λx hx y hy=>?_⟩,m.srt,λx hx y hy=>?_⟩
 ·rw [one] at hx
  rw [JP.mp hx]
  exact hz y (Lc hy)
 ·rcases JS.mp hx with hx | hx
  ·exact (m.le y (KS.mp hy)).2 x hx
  ·exact (m.le y (KS.mp hy)).1 x hx
theorem kZ {l:List Keyed} (S:Srt l) {i:Nat} {x:Keyed} (e:l[i]? = some x):∀ y∈l.take (i+1),ky y<=ky x:=by
 intro y hy
 obtain ⟨j,hj⟩:=J1.mp hy
 have hl:j<i+1:=by
  have:=(JA.mp hj).1
  simp at this;lia
 rw [Kl hl] at hj
 refine gh S hj x ?_
 rw [J1]
 exact ⟨i-j,by rw [Kf,show j+(i-j)=i by lia];exact e⟩
end
section
variable {P:Program} {w:World} {A:Around} {E:Value->Shared->Prop} {s:Shared}
theorem Ew {st:SortSt} {key:Keyed} {arr:Array Keyed} {n:Nat} {Q:Option Nat->SortSt->Prop} (hk:kindOf st=oneType') (hb:n+1<=arr.size) (ik:IK key) (ia:∀ (i:Nat) (x:Keyed),arr[i]? = some x->IK x) (S:Srt arr.toList)
  (h:∀ k,k<=n+1->(∀ x∈(arr.toList.take (n+1)).drop k,ky key<=ky x)->(∀ x∈arr.toList.take k,ky x<=ky key)->Q (some k) st):wpS (model P w) A E s (gc false key arr 0 (n+1) n) Q st:=by
 have get:∀ i,i<n+1->∃ x,arr[0+i]? = some x:=λi hi=>⟨_,cg (by lia)⟩
 refine jY hk (by lia) (by lia) ik ia (λi=>match arr[0+i]? with | some x=>!decide (ky key<ky x) | none=>false) (λi x e=>by simp only [e];rfl) (λi j hij hj z=>?_) λk h1 h2 h3=>?_
 ·obtain ⟨x,ex⟩:=get i (by lia)
  obtain ⟨y,ey⟩:=get j hj
  simp only [ex,ey,Ls,Kx] at z ⊢
  have:=gh S (aO ex) y (by
   rw [J1]
   exact ⟨j-i,by rw [Kf,show 0+i+(j-i)=0+j by lia];exact aO ey⟩)
  lia
 ·refine h k h1 (λx hx=>?_) λx hx=>?_
  ·obtain ⟨i,hi⟩:=J1.mp hx
   have hik:k+i<n+1:=by
    have:=(JA.mp hi).1
    simp at this;lia
   rw [Kf,Kl hik] at hi
   have e:arr[0+(k+i)]? = some x:=by rw [LJ];simpa using hi
   have z:=h3 (k+i) (by lia) (by lia)
   simp only [e,Ny,Kn] at z
   lia
  ·obtain ⟨i,hi⟩:=J1.mp hx
   have hik:i<k:=by
    have:=(JA.mp hi).1
    simp at this;lia
   rw [Kl hik] at hi
   have e:arr[0+i]? = some x:=by rw [LJ];simpa using hi
   have z:=h2 i hik
   simp only [e,Ls,Kx] at z
   lia
theorem Ey {st:SortSt} {key:Keyed} {arr:Array Keyed} {n:Nat} {Q:Option Nat->SortSt->Prop} (hk:kindOf st=oneType') (hb:n+1<=arr.size) (ik:IK key) (ia:∀ (i:Nat) (x:Keyed),arr[i]? = some x->IK x) (S:Srt arr.toList)
  (h:∀ k,k<=n+1->(∀ x∈(arr.toList.take (n+1)).drop k,ky key<=ky x)->(∀ x∈arr.toList.take k,ky x<=ky key)->Q (some k) st):wpS (model P w) A E s (gc true key arr 0 (n+1) n) Q st:=by
 have get:∀ i,i<n+1->∃ x,arr[0+i]? = some x:=λi hi=>⟨_,cg (by lia)⟩
 refine jY hk (by lia) (by lia) ik ia (λi=>match arr[0+i]? with | some x=>decide (ky x<ky key) | none=>false) (λi x e=>by simp only [e];rfl) (λi j hij hj z=>?_) λk h1 h2 h3=>?_
 ·obtain ⟨x,ex⟩:=get i (by lia)
  obtain ⟨y,ey⟩:=get j hj
  simp only [ex,ey,Kn] at z ⊢
  have:=gh S (aO ex) y (by
   rw [J1]
   exact ⟨j-i,by rw [Kf,show 0+i+(j-i)=0+j by lia];exact aO ey⟩)
  lia
 ·refine h k h1 (λx hx=>?_) λx hx=>?_
  ·obtain ⟨i,hi⟩:=J1.mp hx
   have hik:k+i<n+1:=by
    have:=(JA.mp hi).1
    simp at this;lia
   rw [Kf,Kl hik] at hi
   have e:arr[0+(k+i)]? = some x:=by rw [LJ];simpa using hi
   have z:=h3 (k+i) (by lia) (by lia)
   simp only [e,Kx] at z
   lia
  ·obtain ⟨i,hi⟩:=J1.mp hx
   have hik:i<k:=by
    have:=(JA.mp hi).1
    simp at this;lia
   rw [Kl hik] at hi
   have e:arr[0+i]? = some x:=by rw [LJ];simpa using hi
   have z:=h2 i hik
   simp only [e,Kn] at z
   lia
noncomputable abbrev HS:=Option (Array Keyed)×Nat×Nat×Array Keyed×Nat×Nat×Nat
noncomputable def wX (a b:Array Keyed) (n:Nat) (st:SortSt) (c:HS) (st3:SortSt):Prop:=Sm1 st st3/\∃ p q out mg ac bc,c=(none,p+1,q+2,out,mg,ac,bc)/\HI a b out (p+1) (q+2)/\n<=out.size
noncomputable def wY (a b:Array Keyed) (n:Nat) (st:SortSt) (c:HS) (st3:SortSt):Prop:=Sm1 st st3/\((∃ r rest,c=(some r,rest)/\Mg a b r)\/∃ p q out mg ac bc,c=(none,p+1,q+2,out,mg,ac,bc)/\HI a b out (p+1) (q+2)/\n<=out.size)
noncomputable def rG (a b:Array Keyed) (n:Nat) (st:SortSt) (r:ForInStep HS) (st3:SortSt):Prop:=match r with
 | .done c=>wY a b n st c st3
 | .yield c=>wX a b n st c st3
noncomputable def rH (a b o:Array Keyed) (na nb mg k k2:Nat):StateT SortSt Sem (ForInStep HS):=do
 let v <- elem' a (na-1)
 if (na-1 == 0)=true then pure (.done (some (a.extract 0 (na-1)++b.extract 0 nb++(o.push v).reverse),na-1,nb,o.push v,mg,k,k2))
 else if (decide (k<7) && decide (k2<7))=true then pure (.done (none,na-1,nb,o.push v,mg,k,k2)) else pure (.yield (none,na-1,nb,o.push v,mg,k,k2))
noncomputable def gM (a b o:Array Keyed) (na nb mg k bc:Nat):StateT SortSt Sem (ForInStep HS):=do
 let v <- elem' b (nb-1)
 if (nb-1 == 1)=true then pure (.done (some (b.extract 0 (nb-1)++a.extract 0 na++(o.push v).reverse),na,nb-1,o.push v,mg,k,bc))
 else do
  let u <- elem' a (na-1)
  let r <- gc true u b 0 (nb-1) (nb-1-1)
  match r with
  | some at_ =>
   if nb-1-at_ > 0 then
    if (at_ == 1)=true then pure (.done (some (b.extract 0 at_++a.extract 0 na++(o.push v++(b.extract at_ (nb-1)).reverse).reverse),na,at_,o.push v++(b.extract at_ (nb-1)).reverse,mg,k,nb-1-at_))
    else if (at_ == 0)=true then pure (.done (some (a.extract 0 na++b.extract 0 at_++(o.push v++(b.extract at_ (nb-1)).reverse).reverse),na,at_,o.push v++(b.extract at_ (nb-1)).reverse,mg,k,nb-1-at_))
    else rH a b (o.push v++(b.extract at_ (nb-1)).reverse) na at_ mg k (nb-1-at_)
   else rH a b (o.push v) na (nb-1) mg k (nb-1-at_)
  | _=>pure (.done (some (a.extract 0 na++b.extract 0 (nb-1)++(o.push v).reverse),na,nb-1,o.push v,mg,k,bc))
theorem wZ {st st4:SortSt} {a b o:Array Keyed} {p q mg k k2 n:Nat} (Sa:Srt a.toList) (Sb:Srt b.toList) (s4:Sm1 st st4) (m:HI a b o (p+1) (q+2)) (h3:n<=o.size)
  {u:Keyed} (eu:a[p]? = some u) (hu:∀ y∈b.toList.take (q+2),ky y<=ky u):wpS (model P w) A E s (rH a b o (p+1) (q+2) mg k k2) (rG a b n st) st4:=by
 refine JH (cX eu ?_)
 have m7:=m.pushA Sa eu hu
 cases p with
 | zero =>
  rw [JG (show (0+1-1 == 0)=true from rfl)]
  exact JV ⟨s4,.inl ⟨_,_,rfl,m7.done Sa Sb (.inl rfl)⟩⟩
 | succ p =>
  rw [JF (by simp)]
  have sz:n<=(o.push u).size:=by rw [KQ];lia
  by_cases g:(decide (k<7) && decide (k2<7))=true
  ·rw [JG g];exact JV ⟨s4,.inr ⟨p,q,_,_,_,_,rfl,m7,sz⟩⟩
  ·rw [JF g];exact JV ⟨s4,p,q,_,_,_,_,rfl,m7,sz⟩
theorem w4 {st st4:SortSt} {a b o:Array Keyed} {p q mg k bc n:Nat} (hk:kindOf st=oneType') (Sa:Srt a.toList) (Sb:Srt b.toList) (ia:∀ (i:Nat) (x:Keyed),a[i]? = some x->IK x) (ib:∀ (i:Nat) (x:Keyed),b[i]? = some x->IK x) {z:Keyed} (ez:b[0]? = some z) (hz:∀ y∈a.toList,ky z<=ky y) (s4:Sm1 st st4) (m:HI a b o (p+1) (q+2)) (h3:n<=o.size)
  {v:Keyed} (ev:b[q+1]? = some v) (hv:∀ y∈a.toList.take (p+1),ky y<=ky v):wpS (model P w) A E s (gM a b o (p+1) (q+2) mg k bc) (rG a b n st) st4:=by
 refine JH (cX ev ?_)
 have m5:=m.pushB Sb ev hv
 cases q with
 | zero =>
  rw [JG (show (0+2-1 == 1)=true from rfl)]
  exact JV ⟨s4,.inl ⟨_,_,rfl,m5.first Sa Sb rfl ez hz⟩⟩
 | succ q =>
  rw [JF (by simp)]
  have pa:=m.pa
  have pb:=m.pb
  have eu:=cg (a:=a) (i:=p) (by lia)
  have sz:n<=(o.push v).size:=by rw [KQ];lia
  refine JH (cX eu (JH (Ey (n:=q+1) (s4.kind.trans hk) (by lia) (ia _ _ eu) ib Sb λt c1 c2 c3=>?_)))
  dsimp only
  by_cases z2:q+1+2-1-t > 0
  ·rw [JG z2]
   have m6:=m5.addB Sb c1 λx hx y hy=>KZ (kZ Sa (aO eu) y hy) (c2 x hx)
   have e1:q+1+2-1=q+2:=by lia
   by_cases q6:(t == 1)=true
   ·rw [JG q6]
    exact JV ⟨s4,.inl ⟨_,_,rfl,m6.first Sa Sb (by simpa using q6) ez hz⟩⟩
   ·rw [JF q6]
    have q6n:t≠1:=by simpa using q6
    by_cases q7:(t == 0)=true
    ·rw [JG q7]
     exact JV ⟨s4,.inl ⟨_,_,rfl,m6.done Sa Sb (.inr (by simpa using q7))⟩⟩
    ·rw [JF q7]
     have q7n:t≠0:=by simpa using q7
     obtain ⟨t',rfl⟩:∃ t',t=t'+2:=⟨t-2,by lia⟩
     exact wZ Sa Sb s4 m6 (by rw [LG];lia) eu c3
  ·rw [JF z2]
   have k0:t=q+1+1:=by lia
   subst k0
   exact wZ Sa Sb s4 m5 sz eu c3
theorem Ez {st:SortSt} {a b:Array Keyed} {Q:Array Keyed->SortSt->Prop} (hk:kindOf st=oneType') (Sa:Srt a.toList) (Sb:Srt b.toList) (ia:∀ (i:Nat) (x:Keyed),a[i]? = some x->IK x) (ib:∀ (i:Nat) (x:Keyed),b[i]? = some x->IK x) (na:0<a.size) (nb:0<b.size)
  (hf:∀ y∈a.toList,ky b[0]<=ky y) (hz:∀ y∈b.toList,ky y<=ky a[a.size-1]) (h:∀ r st',Sm1 st st'->Mg a b r->Q r st'):wpS (model P w) A E s (rD a b) Q st:=by
 have ez:=cg (a:=b) nb
 have el:=cg (a:=a) (i:=a.size-1) (by lia)
 refine JH (jZ ?_)
 refine JH (cX el ?_)
 have m0:HI a b #[a[a.size-1]] (a.size-1) b.size:=by
  refine ⟨by lia,JC _,?_,L4 _ _,λx hx=>?_⟩
  ·have:=jv el
   rw [Kg (by simp;lia)] at this
   rw [this,Kw (by simp)];exact OB _
  ·have e:x=a[a.size-1]:=by simpa using hx
   subst e
   refine ⟨λy hy=>kZ Sa (aO el) y (by rw [Kg (by simp;lia)];exact Lc hy),λy hy=>hz y (Lc hy)⟩
 dsimp only
 by_cases q1:(a.size-1 == 0)=true
 ·rw [JG q1]
  exact JV (h _ st (.refl st) (m0.done Sa Sb (.inl (by simpa using q1))))
 rw [JF q1]
 by_cases q2:(b.size == 1)=true
 ·rw [JG q2]
  exact JV (h _ st (.refl st) (m0.first Sa Sb (by simpa using q2) ez hf))
 rw [JF q2]
 have n1:a.size-1≠0:=by simpa using q1
 have n2:b.size≠1:=by simpa using q2
 obtain ⟨p0,ep⟩:∃ p,a.size-1=p+1:=⟨a.size-2,by lia⟩
 obtain ⟨q0,eq⟩:∃ q,b.size=q+2:=⟨b.size-2,by lia⟩
 have v1:(#[a[a.size-1]]:Array Keyed).size=1:=rfl
 generalize (#[a[a.size-1]]:Array Keyed)=V at *
 refine JH (Na ?_)
 refine JH (LP (KM (I:=λx c st' => Sm1 st st'/\∃ p q out mg,c=(none,p+1,q+2,out,mg)/\HI a b out (p+1) (q+2)/\x+1<=out.size)
  (Q:=λc st' => Sm1 st st'/\∃ r rest,c=(some r,rest)/\Mg a b r) ?step ?fin ⟨.refl st,p0,q0,V,_,by rw [ep,eq],by rw [<- ep,<- eq];exact m0,by lia⟩) ?post)
 case post =>
  rintro c st' ⟨sm,r,rest,rfl,mg⟩
  exact JV (h r st' sm mg)
 case fin =>
  rintro c st' ⟨sm,p,q,out,mg,rfl,m,h3⟩
  have:=m.size
  lia
 case step =>
  rintro x c st' _ hx ⟨sm,p,q,out,mg,rfl,m,h3⟩
  dsimp only
  refine JH (LP (KM (I:=λy c st2=>st2=st'/\∃ p q out2 ac bc,c=(none,p+1,q+2,out2,ac,bc)/\HI a b out2 (p+1) (q+2)/\out.size+y<=out2.size)
   (Q:=λc st2=>st2=st'/\((∃ r rest,c=(some r,rest)/\Mg a b r)\/∃ p q out2 ac bc,c=(none,p+1,q+2,out2,ac,bc)/\HI a b out2 (p+1) (q+2)/\out.size+1<=out2.size)) ?s1 ?f1 ⟨rfl,p,q,out,0,0,rfl,m,JC _⟩) ?p1)
  case f1 =>
   rintro c st2 ⟨rfl,p,q,out2,ac,bc,rfl,m,h4⟩
   exact ⟨rfl,.inr ⟨p,q,out2,ac,bc,rfl,m,by lia⟩⟩
  case s1 =>
   rintro y c st2 _ hy ⟨rfl,p,q,out2,ac,bc,rfl,m,h4⟩
   dsimp only
   have pa:=m.pa
   have pb:=m.pb
   have eb:=cg (a:=b) (i:=q+1) (by lia)
   have ea:=cg (a:=a) (i:=p) (by lia)
   refine JH (cX eb (JH (cX ea (JH (gg (sm.kind.trans hk) (ib _ _ eb) (ia _ _ ea) ?_)))))
   by_cases lt:ky b[q+1]<ky a[p]
   ·rw [KR lt]
    dsimp only
    rw [JG rfl]
    refine JH (cX ea ?_)
    have m2:=m.pushA Sa ea λz hz=>KZ (kZ Sb (aO eb) z hz) (LA lt)
    cases p with
    | zero =>
     rw [JG (show (0+1-1 == 0)=true from rfl)]
     exact JV ⟨rfl,.inl ⟨_,_,rfl,m2.done Sa Sb (.inl rfl)⟩⟩
    | succ p =>
     rw [JF (by simp)]
     by_cases g:ac+1 ≥ mg
     ·rw [JG g]
      exact JV ⟨rfl,.inr ⟨p,q,_,_,_,rfl,m2,by rw [KQ];lia⟩⟩
     ·rw [JF g]
      exact JV ⟨rfl,p,q,_,_,_,rfl,m2,by rw [KQ];lia⟩
   ·rw [Kh lt]
    dsimp only
    rw [JF JT]
    refine JH (cX eb ?_)
    have m2:=m.pushB Sb eb λz hz=>KZ (kZ Sa (aO ea) z hz) (O0.mp lt)
    cases q with
    | zero =>
     rw [JG (show (0+2-1 == 1)=true from rfl)]
     exact JV ⟨rfl,.inl ⟨_,_,rfl,m2.first Sa Sb rfl ez hf⟩⟩
    | succ q =>
     rw [JF (by simp)]
     by_cases g:bc+1 ≥ mg
     ·rw [JG g]
      exact JV ⟨rfl,.inr ⟨p,q,_,_,_,rfl,m2,by rw [KQ];lia⟩⟩
     ·rw [JF g]
      exact JV ⟨rfl,p,q,_,_,_,rfl,m2,by rw [KQ];lia⟩
  case p1 =>
   rintro c st2 ⟨rfl,hc⟩
   rcases hc with ⟨r,rest,rfl,mgd⟩ | ⟨p,q,out2,ac,bc,rfl,m,h4⟩
   ·exact JV ⟨sm,r,_,rfl,mgd⟩
   ·dsimp only
    refine JH (jZ ?_)
    refine JH (LP (KM (I:=λy c st3=>wX a b out2.size st c st3) (Q:=λc st3=>wY a b out2.size st c st3) ?s2 ?f2 ⟨sm,p,q,out2,_,ac,bc,rfl,m,JC _⟩) ?p2)
    case f2=>rintro c st3 ⟨s3,hh⟩;exact ⟨s3,.inr hh⟩
    case p2 =>
     rintro c st3 ⟨s3,hc⟩
     rcases hc with ⟨r,rest,rfl,mgd⟩ | ⟨p,q,out3,mg3,ac,bc,rfl,m,h5⟩
     ·exact JV ⟨s3,r,_,rfl,mgd⟩
     ·exact JH (j0 λst4 s4=>JV ⟨s3.trans s4,p,q,out3,_,rfl,m,by lia⟩)
    case s2 =>
     rintro y c st3 _ hy ⟨s3,p,q,out3,mg3,ac,bc,rfl,m,h5⟩
     dsimp only
     have pa:=m.pa
     have pb:=m.pb
     have eb:=cg (a:=b) (i:=q+1) (by lia)
     have body:∀ (mgx:Nat) (st4:SortSt),Sm1 st st4->wpS (model P w) A E s (do
       let v <- elem' b (q+2-1)
       let r <- gc false v a 0 (p+1) (p+1-1)
       match r with
       | some at_ =>
        if p+1-at_ > 0 then
         if (at_ == 0)=true then pure (.done (some (a.extract 0 at_++b.extract 0 (q+2)++(out3++(a.extract at_ (p+1)).reverse).reverse),at_,q+2,out3++(a.extract at_ (p+1)).reverse,mgx,p+1-at_,bc))
         else gM a b (out3++(a.extract at_ (p+1)).reverse) at_ (q+2) mgx (p+1-at_) bc
        else gM a b out3 (p+1) (q+2) mgx (p+1-at_) bc
       | _=>pure (.done (some (a.extract 0 (p+1)++b.extract 0 (q+2)++out3.reverse),p+1,q+2,out3,mgx,ac,bc))) (rG a b out2.size st) st4:=by
      intro mgx st4 s4
      refine JH (cX eb (JH (Ew (n:=p) (s4.kind.trans hk) pa (ib _ _ eb) ia Sa λt c1 c2 c3=>?_)))
      dsimp only
      by_cases z1:p+1-t > 0
      ·rw [JG z1]
       have m4:=m.addA Sa c1 λx hx y hy=>KZ (kZ Sb (aO eb) y hy) (c2 x hx)
       by_cases q4:(t == 0)=true
       ·rw [JG q4]
        exact JV ⟨s4,.inl ⟨_,_,rfl,m4.done Sa Sb (.inl (by simpa using q4))⟩⟩
       ·rw [JF q4]
        have q4n:t≠0:=by simpa using q4
        obtain ⟨t',rfl⟩:∃ t',t=t'+1:=⟨t-1,by lia⟩
        exact w4 hk Sa Sb ia ib ez hf s4 m4 (by rw [LG];lia) eb c3
      ·rw [JF z1]
       have k0:t=p+1:=by lia
       subst k0
       exact w4 hk Sa Sb ia ib ez hf s4 m h5 eb c3
     by_cases g:mg3 > 1
     ·rw [JG g]
      exact JH (j0 λst4 s4=>LP (body (mg3-1) st4 (s3.trans s4)) λr st5 h=>by cases r<;>exact h)
     ·rw [JF g]
      exact JH (j0 λst4 s4=>LP (body mg3 st4 (s3.trans s4)) λr st5 h=>by cases r<;>exact h)
end
end L2
namespace L2
open PySem PyProof.Rows
noncomputable def sl (L:List Keyed) (lo hi:Nat):List Keyed:=(L.take hi).drop lo
theorem w6 (a:Array Keyed) (i n:Nat):(a.extract i n).toList=sl a.toList i n:=iO a i n
theorem k6 {L:List Keyed} {lo hi:Nat} (h:hi<=L.length):(sl L lo hi).length=hi-lo:=by
 unfold sl;rw [KG,Kr,K6 h]
theorem j3 {L:List Keyed} {lo hi i:Nat} (h:lo+i<hi):(sl L lo hi)[i]? = L[lo+i]? := by
 unfold sl;rw [Kf,Kl h]
theorem iP (L:List Keyed) {lo m hi:Nat} (h1:lo<=m) (h2:m<=hi):sl L lo hi=sl L lo m++sl L m hi:=by
 unfold sl
 have e:=rF (L.take hi) h1
 rw [MW,K6 h2] at e
 exact e
theorem iQ {L:List Keyed} {lo hi:Nat} {x:Keyed} (h:x∈sl L lo hi):∃ i,lo<=i/\i<hi/\L[i]? = some x:=by
 unfold sl at h
 obtain ⟨i,hi'⟩:=J1.mp h
 rw [Kf] at hi'
 have hl:lo+i<hi:=by
  have:=(JA.mp hi').1
  simp at this;lia
 rw [Kl hl] at hi'
 exact ⟨lo+i,by lia,hl,hi'⟩
theorem w8 {L:List Keyed} {lo hi i:Nat} {x:Keyed} (h1:lo<=i) (h2:i<hi) (e:L[i]? = some x):x∈sl L lo hi:=by
 rw [J1]
 exact ⟨i-lo,by rw [j3 (by lia),show lo+(i-lo)=i by lia];exact e⟩
noncomputable def RunsFrom (L:List Keyed):Nat->List (Nat×Nat×Nat)->Nat->Prop
 | lo,[],hi=>lo=hi
 | lo,(s,n,_)::r,hi=>s=lo/\1<=n/\Srt (sl L lo (lo+n))/\RunsFrom L (lo+n) r hi
theorem RunsFrom.le {L:List Keyed}:∀ {r:List (Nat×Nat×Nat)} {lo hi:Nat},RunsFrom L lo r hi->lo+r.length<=hi
 | [],lo,hi,h=>by cases (show lo=hi from h);simp
 | (s,n,_)::r,lo,hi,h=>by
  obtain ⟨_,h1,_,h2⟩:=h
  have:=RunsFrom.le h2
  rw [Kj];lia
theorem RunsFrom.app {L:List Keyed}:∀ {p r:List (Nat×Nat×Nat)} {lo hi:Nat},RunsFrom L lo (p++r) hi ↔ ∃ m,RunsFrom L lo p m/\RunsFrom L m r hi
 | [],r,lo,hi=>⟨λh=>⟨lo,rfl,h⟩,λ⟨m,h1,h2⟩=>by cases (show lo=m from h1);exact h2⟩
 | (s,n,w)::p,r,lo,hi=>⟨λ⟨a,b,c,d⟩=>by
   obtain ⟨m,h1,h2⟩:=RunsFrom.app.mp d
   exact ⟨m,⟨a,b,c,h1⟩,h2⟩,λ⟨m,⟨a,b,c,d⟩,h2⟩=>⟨a,b,c,RunsFrom.app.mpr ⟨m,d,h2⟩⟩⟩
theorem RunsFrom.pre {L L':List Keyed}:∀ {p:List (Nat×Nat×Nat)} {lo m:Nat},L'.take m=L.take m->RunsFrom L lo p m->RunsFrom L' lo p m
 | [],_,_,_,h=>h
 | (s,n,w)::p,lo,m,e,h=>by
  obtain ⟨a,b,c,d⟩:=h
  have hm:=d.le
  refine ⟨a,b,?_,RunsFrom.pre e d⟩
  unfold sl at c ⊢
  have:L'.take (lo+n)=L.take (lo+n):=by
   have z:=congrArg (List.take (lo+n)) e
   rw [MW,MW,K6 (by lia)] at z
   exact z
  rw [this];exact c
theorem rJ {L L':List Keyed} {m lo hi:Nat} (e:L'.drop m=L.drop m) (h:m<=lo):sl L' lo hi=sl L lo hi:=by
 unfold sl
 rw [Mu,Mu]
 have z:=congrArg (List.drop (lo-m)) e
 rw [LZ,LZ,show m+(lo-m)=lo by lia] at z
 rw [z]
theorem RunsFrom.suf {L L':List Keyed} {m:Nat} (e:L'.drop m=L.drop m):∀ {p:List (Nat×Nat×Nat)} {lo hi:Nat},m<=lo->RunsFrom L lo p hi->RunsFrom L' lo p hi
 | [],_,_,_,h=>h
 | (s,n,w)::p,lo,hi,hm,h=>by
  obtain ⟨a,b,c,d⟩:=h
  exact ⟨a,b,by rw [rJ e hm];exact c,RunsFrom.suf e (by lia) d⟩
theorem xf:∀ (M:List Keyed) (X:Array Keyed) (s k:Nat),s+k+M.length<=X.size ->
  ((M.zipIdx k).foldl (λa (q:Keyed×Nat)=>a.setIfInBounds (s+q.2) q.1) X).toList=X.toList.take (s+k)++M++X.toList.drop (s+k+M.length)
 | [],X,s,k,_=>by simp
 | x::M,X,s,k,h=>by
  rw [List.zipIdx_cons,Oo]
  rw [Kj] at h
  rw [xf M _ s (k+1) (by rw [Array.size_setIfInBounds];lia)]
  have hs:s+k<X.toList.length:=by simp;lia
  rw [Nz]
  have t1:(X.toList.set (s+k) x).take (s+(k+1))=X.toList.take (s+k)++[x]:=by
   rw [show s+(k+1)=s+k+1 by lia,Nx,List.take_set_of_le (JC _),J0 hs];rfl
  have t2:(X.toList.set (s+k) x).drop (s+(k+1)+M.length)=X.toList.drop (s+k+(M.length+1)):=by
   rw [List.drop_set_of_lt (by lia)]
   congr 1;lia
  rw [t1,t2]
  simp
structure TB (a₀:Array Keyed) (st:SortSt):Prop where
 perm:(arrOf st).toList.Perm a₀.toList
 kind:kindOf st=oneType'
 fail:failedOf st=none
section
variable {a₀:Array Keyed}
theorem TB.size {st:SortSt} (h:TB a₀ st):(arrOf st).size=a₀.size:=by simpa using h.perm.length_eq
theorem TB.ik {st:SortSt} (h:TB a₀ st) (h0:IntKeys a₀) (i:Nat) (x:Keyed) (e:(arrOf st)[i]? = some x):IK x:=h0 x (h.perm.mem_iff.mp (by
 rw [J1];exact ⟨i,aO e⟩))
end
section
variable {P:Program} {w:World} {A:Around} {E:Value->Shared->Prop} {s:Shared}
theorem k7 {L:List Keyed} {lo hi i j:Nat} {x y:Keyed} (S:Srt (sl L lo hi)) (h1:lo<=i) (h2:i<=j) (h3:j<hi) (ex:L[i]? = some x) (ey:L[j]? = some y):ky x<=ky y:=by
 refine gh S (i:=i-lo) (by rw [j3 (by lia),show lo+(i-lo)=i by lia];exact ex) y ?_
 rw [J1]
 exact ⟨j-i,by rw [Kf,j3 (by lia),show lo+(i-lo+(j-i))=j by lia];exact ey⟩
theorem rK {st:SortSt} {key:Keyed} {arr:Array Keyed} {base n hint:Nat} {Q:Option Nat->SortSt->Prop} (hk:kindOf st=oneType') (hh:hint<n) (hb:base+n<=arr.size) (ik:IK key) (ia:∀ (i:Nat) (x:Keyed),arr[i]? = some x->IK x) (S:Srt (sl arr.toList base (base+n)))
  (h:∀ k,k<=n->(∀ x∈sl arr.toList base (base+k),ky x<=ky key)->(∀ x∈sl arr.toList (base+k) (base+n),ky key<ky x)->Q (some k) st):wpS (model P w) A E s (gc false key arr base n hint) Q st:=by
 have get:∀ i,i<n->∃ x,arr[base+i]? = some x:=λi hi=>⟨_,cg (by lia)⟩
 refine jY hk hh hb ik ia (λi=>match arr[base+i]? with | some x=>!decide (ky key<ky x) | none=>false) (λi x e=>by simp only [e];rfl) (λi j hij hj z=>?_) λk h1 h2 h3=>?_
 ·obtain ⟨x,ex⟩:=get i (by lia)
  obtain ⟨y,ey⟩:=get j hj
  simp only [ex,ey,Ls,Kx] at z ⊢
  have:=k7 S (i:=base+i) (j:=base+j) (by lia) (by lia) (by lia) (aO ex) (aO ey)
  lia
 ·refine h k h1 (λx hx=>?_) λx hx=>?_
  ·obtain ⟨i,i1,i2,e⟩:=iQ hx
   have e':arr[base+(i-base)]? = some x:=by rw [show base+(i-base)=i by lia];simpa using e
   have z:=h2 (i-base) (by lia)
   simp only [e',Ls,Kx] at z
   lia
  ·obtain ⟨i,i1,i2,e⟩:=iQ hx
   have e':arr[base+(i-base)]? = some x:=by rw [show base+(i-base)=i by lia];simpa using e
   have z:=h3 (i-base) (by lia) (by lia)
   simp only [e',Ny,Kn] at z
   exact z
theorem rL {st:SortSt} {key:Keyed} {arr:Array Keyed} {base n hint:Nat} {Q:Option Nat->SortSt->Prop} (hk:kindOf st=oneType') (hh:hint<n) (hb:base+n<=arr.size) (ik:IK key) (ia:∀ (i:Nat) (x:Keyed),arr[i]? = some x->IK x) (S:Srt (sl arr.toList base (base+n)))
  (h:∀ k,k<=n->(∀ x∈sl arr.toList base (base+k),ky x<ky key)->(∀ x∈sl arr.toList (base+k) (base+n),ky key<=ky x)->Q (some k) st):wpS (model P w) A E s (gc true key arr base n hint) Q st:=by
 have get:∀ i,i<n->∃ x,arr[base+i]? = some x:=λi hi=>⟨_,cg (by lia)⟩
 refine jY hk hh hb ik ia (λi=>match arr[base+i]? with | some x=>decide (ky x<ky key) | none=>false) (λi x e=>by simp only [e];rfl) (λi j hij hj z=>?_) λk h1 h2 h3=>?_
 ·obtain ⟨x,ex⟩:=get i (by lia)
  obtain ⟨y,ey⟩:=get j hj
  simp only [ex,ey,Kn] at z ⊢
  have:=k7 S (i:=base+i) (j:=base+j) (by lia) (by lia) (by lia) (aO ex) (aO ey)
  lia
 ·refine h k h1 (λx hx=>?_) λx hx=>?_
  ·obtain ⟨i,i1,i2,e⟩:=iQ hx
   have e':arr[base+(i-base)]? = some x:=by rw [show base+(i-base)=i by lia];simpa using e
   have z:=h2 (i-base) (by lia)
   simp only [e',Kn] at z
   exact z
  ·obtain ⟨i,i1,i2,e⟩:=iQ hx
   have e':arr[base+(i-base)]? = some x:=by rw [show base+(i-base)=i by lia];simpa using e
   have z:=h3 (i-base) (by lia) (by lia)
   simp only [e',Kx] at z
   lia
theorem EA {st st':SortSt} {Q:PUnit->SortSt->Prop} (h:Q ⟨⟩ st'):wpS (model P w) A E s (set st':StateT SortSt Sem PUnit) Q st:=by
 unfold wpS;rw [StateT.run_set];exact JB ⟨rfl,h⟩
theorem rM (L:List Keyed) {c e:Nat} (h:c<=e):L=L.take c++sl L c e++L.drop e:=by
 unfold sl
 have:=rE L h
 rw [<- this,Ke]
theorem rN {L L' M:List Keyed} {sa m c e z:Nat} (h1:sa<=c) (h2:c<=m) (h3:m<=e) (h4:e<=z) (h5:z<=L.length) (eL:L'=L.take c++M++L.drop e) (pM:M.Perm (sl L c m++sl L m e)) (sM:Srt M) (Sa:Srt (sl L sa m)) (Sb:Srt (sl L m z))
  (q1:∀ x∈sl L sa c,∀ y∈sl L m z,ky x<=ky y) (q2:∀ x∈sl L c m,∀ y∈sl L e z,ky x<=ky y):L'.Perm L/\L'.take sa=L.take sa/\L'.drop z=L.drop z/\Srt (sl L' sa z):=by
 have lM:M.length=e-c:=by
  rw [pM.length_eq,JJ,k6 (by lia),k6 (by lia)];lia
 have lc:(L.take c).length=c:=by rw [Kr];lia
 have le:(L.take c++M).length=e:=by rw [JJ,lc,lM];lia
 rw [iP L h1 h2,Srt.app] at Sa
 rw [iP L h3 h4,Srt.app] at Sb
 have eS:sl L' sa z=sl L sa c++(M++sl L e z):=by
  have t:L'.take z=L.take c++(M++sl L e z):=by
   rw [eL,List.take_append,Kg (by rw [le];exact h4),le,JM]
   unfold sl
   rw [Mu]
  unfold sl at t ⊢
  rw [t,List.drop_append_of_le_length (by rw [lc];exact h1)]
 refine ⟨?_,?_,?_,?_⟩
 ·have z:=rM L (JI h2 h3)
  rw [iP L h2 h3] at z
  rw [eL]
  conv=>rhs;rw [z]
  exact (pM.append_left _).append_right _
 ·rw [eL,JM,Ng (by rw [lc];exact h1),MW,K6 h1]
 ·rw [eL,List.drop_append,Kw (by rw [le];exact h4),Mj,le,LZ]
  congr 1;lia
 ·rw [eS,Srt.app,Srt.app]
  have mm:∀ x∈M,x∈sl L c m\/x∈sl L m e:=λx hx=>JS.mp (pM.mem_iff.mp hx)
  refine ⟨Sa.1,⟨sM,Sb.2.1,λx hx y hy=>?_⟩,λx hx y hy=>?_⟩
  ·rcases mm x hx with hx | hx
   ·exact q2 x hx y hy
   ·exact Sb.2.2 x hx y hy
  ·rcases JS.mp hy with hy | hy
   ·rcases mm y hy with hy | hy
    ·exact Sa.2.2 x hx y hy
    ·exact q1 x hx y (by rw [iP L h3 h4];exact JO _ hy)
   ·exact q1 x hx y (by rw [iP L h3 h4];exact JW _ hy)
end
end L2
namespace L2
open PySem PyProof.Rows
section
variable {P:Program} {w:World} {A:Around} {E:Value->Shared->Prop} {s:Shared}
theorem EB (pre suf:List (Nat×Nat×Nat)) (x y z:Nat×Nat×Nat) (p:Array (Nat×Nat×Nat)) (e:p.toList=pre++[x,y]++suf) :
  p[pre.length]? = some x/\p[pre.length+1]? = some y/\((p.setIfInBounds pre.length z).eraseIdxIfInBounds (pre.length+1)).toList=pre++[z]++suf:=by
 refine ⟨?_,?_,?_⟩
 ·rw [<- Kd,e];simp
 ·rw [<- Kd,e];simp
 ·rw [Array.toList_eraseIdxIfInBounds,Nz,e]
  have:(pre++[x,y]++suf).set pre.length z=pre++[z,y]++suf:=by simp
  rw [this,JM,List.eraseIdx_append_of_length_le (by omega),LY]
  simp
theorem EC {a₀:Array Keyed} {st:SortSt} {pre suf:List (Nat×Nat×Nat)} {sa na pw nb mh hi:Nat} {Q:Bool->SortSt->Prop} (h0:IntKeys a₀) (B:TB a₀ st) (hp:(pendingOf st).toList=pre++[(sa,na,pw),(sa+na,nb,mh)]++suf) (R:RunsFrom (arrOf st).toList 0 (pendingOf st).toList hi) (hhi:hi<=a₀.size)
  (h:∀ st',TB a₀ st'->(pendingOf st').toList=pre++[(sa,na+nb,pw)]++suf->RunsFrom (arrOf st').toList 0 (pendingOf st').toList hi->(arrOf st').toList.drop hi=(arrOf st).toList.drop hi->Q true st'):wpS (model P w) A E s (mergeAt' pre.length) Q st:=by
 obtain ⟨g1,g2,g3⟩:=EB pre suf _ _ (sa,na+nb,pw) _ hp
 rw [hp,JM,RunsFrom.app] at R
 obtain ⟨m0,R1,e1,p1,S1,e2,p2,S2,R2⟩:=R
 subst e1
 have sz:=B.size
 obtain ⟨X,eX⟩:∃ X,X=arrOf st:=⟨_,rfl⟩
 rw [<- eX] at R1 S1 S2 R2 sz
 have b1:=R2.le
 have hz:sa+na+nb<=X.size:=by omega
 have lX:X.toList.length=X.size:=by simp
 have ik:∀ (i:Nat) (x:Keyed),X[i]? = some x->IK x:=λi x e=>B.ik h0 i x (by rw [<- eX];exact e)
 refine JH (Na ?_)
 rw [show (pendingOf st)[pre.length]? = _ from g1,show (pendingOf st)[pre.length+1]? = _ from g2]
 dsimp only
 rw [show (sortPriv% PySem.Builtin.SortState.a) st=X from eX.symm]
 refine JH (EA ?_)
 have ek:=cg (a:=X) (i:=sa+na) (by omega)
 refine JH (cX ek (JH (rK B.kind p1 (by omega) (ik _ _ ek) ik S1 λk k1 c1 c2=>?_)))
 dsimp only
 have key1:∀ y∈sl X.toList (sa+na) (sa+na+nb),ky X[sa+na]<=ky y:=λy hy=>by
  obtain ⟨i,i1,i2,e⟩:=iQ hy
  exact k7 S2 (JC _) i1 i2 (aO ek) e
 by_cases q1:(na-k == 0)=true
 ·rw [JG q1]
  have ke:k=na:=by have:na-k=0:=(by simpa using q1);omega
  subst ke
  refine JV (h _ ⟨by rw [eX] at *;exact B.perm,B.kind,B.fail⟩ g3 ?_ (by rw [eX]))
  show RunsFrom X.toList 0 ((pendingOf st).setIfInBounds pre.length (sa,k+nb,pw) |>.eraseIdxIfInBounds (pre.length+1)).toList hi
  rw [g3,JM,RunsFrom.app]
  refine ⟨sa,R1,rfl,by omega,?_,by rw [<- MH];exact R2⟩
  rw [iP X.toList (m:=sa+k) (by omega) (by omega),Srt.app,<- MH]
  exact ⟨S1,S2,λx hx y hy=>KZ (c1 x hx) (key1 y hy)⟩
 ·rw [JF q1]
  have kl:k<na:=by have:na-k≠0:=(by simpa using q1);omega
  have el:=cg (a:=X) (i:=sa+na-1) (by omega)
  have e5:sa+k+(na-k)-1=sa+na-1:=by omega
  rw [e5]
  refine JH (cX el (JH (rL B.kind (by omega) hz (ik _ _ el) ik S2 λt t1 d1 d2=>?_)))
  dsimp only
  have lastgt:ky X[sa+na]<ky X[sa+na-1]:=c2 _ (w8 (by omega) (by omega) (aO el))
  by_cases q2:(t == 0)=true
  ·exfalso
   have t0:t=0:=by simpa using q2
   subst t0
   have:=d2 _ (w8 (i:=sa+na) (by omega) (by omega) (aO ek))
   omega
  ·rw [JF q2]
   have tn:t≠0:=by simpa using q2
   obtain ⟨x,ex⟩:∃ x,x=X.extract (sa+k) (sa+na):=⟨_,rfl⟩
   obtain ⟨y,ey⟩:∃ y,y=X.extract (sa+na) (sa+na+t):=⟨_,rfl⟩
   have lx:x.toList=sl X.toList (sa+k) (sa+na):=by rw [ex,w6]
   have ly:y.toList=sl X.toList (sa+na) (sa+na+t):=by rw [ey,w6]
   have nx:x.size=na-k:=by have z:=congrArg List.length lx;rw [k6 (by omega)] at z;simp at z;omega
   have ny:y.size=t:=by have z:=congrArg List.length ly;rw [k6 (by omega)] at z;simp at z;omega
   have atx:∀ (i:Nat) (v:Keyed),x[i]? = some v->IK v:=λi v e=>by
    have:v∈x.toList:=by rw [J1];exact ⟨i,aO e⟩
    rw [lx] at this
    obtain ⟨j,_,_,ej⟩:=iQ this
    exact ik j v (by simpa using ej)
   have aty:∀ (i:Nat) (v:Keyed),y[i]? = some v->IK v:=λi v e=>by
    have:v∈y.toList:=by rw [J1];exact ⟨i,aO e⟩
    rw [ly] at this
    obtain ⟨j,_,_,ej⟩:=iQ this
    exact ik j v (by simpa using ej)
   have Sx:Srt x.toList:=by
    rw [iP X.toList (m:=sa+k) (by omega) (by omega),Srt.app] at S1
    rw [lx];exact S1.2.1
   have Sy:Srt y.toList:=by
    rw [iP X.toList (m:=sa+na+t) (by omega) (by omega),Srt.app] at S2
    rw [ly];exact S2.1
   have px:0<x.size:=by omega
   have py:0<y.size:=by omega
   have y0:y[0]=X[sa+na]:=by
    have e:y.toList[0]? = some X[sa+na]:=by rw [ly,j3 (by omega)];exact aO ek
    have e':y[0]? = some X[sa+na]:=by simpa using e
    rw [cg py] at e';injection e'
   have xl:x[x.size-1]=X[sa+na-1]:=by
    have e:x.toList[x.size-1]? = some X[sa+na-1]:=by rw [lx,j3 (by omega),show sa+k+(x.size-1)=sa+na-1 by omega];exact aO el
    have e':x[x.size-1]? = some X[sa+na-1]:=by simpa using e
    rw [cg (show x.size-1<x.size by omega)] at e';injection e'
   have hf:∀ v∈x.toList,ky y[0]<=ky v:=λv hv=>by rw [y0];rw [lx] at hv;exact LA (c2 v hv)
   have hg:∀ v∈y.toList,ky v<=ky x[x.size-1]:=λv hv=>by rw [xl];rw [ly] at hv;exact LA (d1 v hv)
   rw [<- ex,<- ey]
   have fin:∀ (r:Array Keyed) (st2:SortSt),kindOf st2=oneType'->failedOf st2=none->arrOf st2=X->(pendingOf st2).toList=pre++[(sa,na+nb,pw)]++suf->Mg x y r ->
     wpS (model P w) A E s (do
      modify λz=>setArr z (r.toList.zipIdx.foldl (λa (q:Keyed×Nat)=>a.setIfInBounds (sa+k+q.2) q.1) (arrOf z))
      let z <- get
      pure (failedOf z).isNone) Q st2:=by
    intro r st2 f1 f2 f3 f4 mg
    have rl:r.toList.length=(na-k)+t:=by rw [mg.per.length_eq,JJ];simp;omega
    have fs:=xf r.toList X (sa+k) 0 (by omega)
    rw [Pb,show sa+k+r.toList.length=sa+na+t by omega] at fs
    have pM:=mg.per
    rw [lx,ly] at pM
    obtain ⟨u1,u2,u3,u4⟩:=rN (L:=X.toList) (sa:=sa) (m:=sa+na) (c:=sa+k) (e:=sa+na+t) (z:=sa+na+nb) (by omega) (by omega) (by omega) (by omega) (by omega) fs pM mg.srt S1 S2 (λv hv u hu=>KZ (c1 v hv) (key1 u hu)) (λv hv u hu=>by
     obtain ⟨i,i1,i2,ev⟩:=iQ hv
     exact KZ (k7 S1 (by omega) (show i<=sa+na-1 by omega) (by omega) ev (aO el)) (d2 u hu))
    refine JH (Mx (JH (Na (JV ?_))))
    have fe:(failedOf (setArr st2 (r.toList.zipIdx.foldl (λa (q:Keyed×Nat)=>a.setIfInBounds (sa+k+q.2) q.1) (arrOf st2)))).isNone=true:=by show (failedOf st2).isNone=true;rw [f2];rfl
    rw [fe]
    refine h _ ⟨?_,f1,f2⟩ f4 ?_ ?_
    ·show (r.toList.zipIdx.foldl (λa (q:Keyed×Nat)=>a.setIfInBounds (sa+k+q.2) q.1) (arrOf st2)).toList.Perm a₀.toList
     rw [f3]
     exact u1.trans (by rw [eX];exact B.perm)
    ·show RunsFrom (r.toList.zipIdx.foldl (λa (q:Keyed×Nat)=>a.setIfInBounds (sa+k+q.2) q.1) (arrOf st2)).toList 0 (pendingOf st2).toList hi
     rw [f3,f4,JM,RunsFrom.app]
     refine ⟨sa,RunsFrom.pre u2 R1,rfl,by omega,by rw [<- MH];exact u4,?_⟩
     rw [<- MH]
     exact RunsFrom.suf u3 (JC _) R2
    ·show (r.toList.zipIdx.foldl (λa (q:Keyed×Nat)=>a.setIfInBounds (sa+k+q.2) q.1) (arrOf st2)).toList.drop hi=_
     rw [f3,<- eX]
     have z:=congrArg (List.drop (hi-(sa+na+nb))) u3
     rw [LZ,LZ,show sa+na+nb+(hi-(sa+na+nb))=hi by omega] at z
     exact z
   by_cases q3:na-k<=t
   ·rw [JG q3]
    exact JH (Eu B.kind Sx Sy atx aty px py hf hg λr st2 sm mg=>fin r st2 (sm.kind.trans B.kind) (sm.fail.trans B.fail) (sm.arr.trans rfl) (by rw [sm.pend];exact g3) mg)
   ·rw [JF q3]
    exact JH (Ez B.kind Sx Sy atx aty px py hf hg λr st2 sm mg=>fin r st2 (sm.kind.trans B.kind) (sm.fail.trans B.fail) (sm.arr.trans rfl) (by rw [sm.pend];exact g3) mg)
end
end L2
namespace L2
open PySem PyProof.Rows
noncomputable def gN (xs:Array Keyed) (lo hi:Nat):Prop:=∀ i j,lo<=i->i<=j->j<hi->K xs i<=K xs j
theorem dW {xs:Array Keyed} {i:Nat} {x:Keyed} (e:xs[i]? = some x):K xs i=ky x:=by unfold K;rw [e];rfl
theorem xg {xs:Array Keyed} {lo hi:Nat} (h:gN xs lo hi) (hh:hi<=xs.size):Srt (sl xs.toList lo hi):=by
 unfold Srt
 rw [MD]
 intro i j hi' hj' hij
 have l:(sl xs.toList lo hi).length=hi-lo:=k6 (by simpa using hh)
 have e1:(sl xs.toList lo hi)[i]? = some (sl xs.toList lo hi)[i]:=by simp
 have e2:(sl xs.toList lo hi)[j]? = some (sl xs.toList lo hi)[j]:=by simp
 rw [j3 (by lia)] at e1 e2
 have a1:xs[lo+i]? = some (sl xs.toList lo hi)[i]:=by simpa using e1
 have a2:xs[lo+j]? = some (sl xs.toList lo hi)[j]:=by simpa using e2
 rw [<- dW a1,<- dW a2]
 exact h _ _ (by lia) (by lia) (by lia)
structure Keep (a₀:Array Keyed) (lo:Nat) (st st':SortSt):Prop where
 tb:TB a₀ st'
 pend:pendingOf st'=pendingOf st
 low:∀ i,i<lo->(arrOf st')[i]? = (arrOf st)[i]?
theorem Keep.refl {a₀:Array Keyed} {lo:Nat} {st:SortSt} (B:TB a₀ st):Keep a₀ lo st st:=⟨B,rfl,λ_ _=>rfl⟩
theorem Keep.trans {a₀:Array Keyed} {lo:Nat} {s1 s2 s3:SortSt} (h:Keep a₀ lo s1 s2) (g:Keep a₀ lo s2 s3):Keep a₀ lo s1 s3:=⟨g.tb,g.pend.trans h.pend,λi hi=>(g.low i hi).trans (h.low i hi)⟩
theorem Keep.arr {a₀:Array Keyed} {lo:Nat} {st:SortSt} (B:TB a₀ st) {xs:Array Keyed} (p:xs.Perm (arrOf st)) (hl:∀ i,i<lo->xs[i]? = (arrOf st)[i]?):Keep a₀ lo st (setArr st xs) :=
 ⟨⟨(NB.mp p).trans B.perm,B.kind,B.fail⟩,rfl,hl⟩
section
variable {a₀:Array Keyed}
theorem TB.ne {st:SortSt} (B:TB a₀ st) (nd:(a₀.toList.map ky).Nodup) {i j:Nat} (h:i<j) (hj:j<a₀.size):K (arrOf st) i≠K (arrOf st) j:=by
 have n:((arrOf st).toList.map ky).Nodup:=(B.perm.map ky).nodup_iff.mpr nd
 have sz:=B.size
 have e1:=cg (a:=arrOf st) (i:=i) (by lia)
 have e2:=cg (a:=arrOf st) (i:=j) (by lia)
 rw [dW e1,dW e2]
 have:=MD.mp n i j (by simp;lia) (by simp;lia) h
 simpa using this
end
section
variable {P:Program} {w:World} {A:Around} {E:Value->Shared->Prop} {s:Shared} {a₀:Array Keyed}
theorem k8 {st:SortSt} {i j:Nat} {Q:Option Bool->SortSt->Prop} (h0:IntKeys a₀) (B:TB a₀ st) (hi:i<a₀.size) (hj:j<a₀.size) (h:Q (some (decide (K (arrOf st) i<K (arrOf st) j))) st):wpS (model P w) A E s (ltAt' i j) Q st:=by
 have sz:=B.size
 have e1:=cg (a:=arrOf st) (i:=i) (by lia)
 have e2:=cg (a:=arrOf st) (i:=j) (by lia)
 rw [dW e1,dW e2] at h
 rw [ltAt'_eq]
 exact JH (Na (JH (cX e1 (JH (cX e2 (gg B.kind (B.ik h0 _ _ e1) (B.ik h0 _ _ e2) h))))))
theorem ED {st:SortSt} {lo n ok:Nat} {Q:Bool->SortSt->Prop} (h0:IntKeys a₀) (hn:lo+n<=a₀.size) (hok:ok<=n) (B:TB a₀ st) (hs:gN (arrOf st) lo (lo+ok))
  (h:∀ st',Keep a₀ lo st st'->gN (arrOf st') lo (lo+n)->Q true st'):wpS (model P w) A E s (binarySort' lo n ok) Q st:=by
 refine JH (LP (KM (I:=λk c st' => c=(none,())/\Keep a₀ lo st st'/\gN (arrOf st') lo (lo+min k n)) (Q:=λc st' => c=(none,())/\Keep a₀ lo st st'/\gN (arrOf st') lo (lo+n)) ?step ?fin ?init) ?post)
 case post =>
  rintro c st' ⟨rfl,hB',hs'⟩
  exact JV (h st' hB' hs')
 case init =>
  refine ⟨rfl,.refl B,λi j hi hij hj=>?_⟩
  by_cases h1:ok=0
  ·have:i=j:=by lia
   subst this;exact L9 _
  ·exact hs i j hi hij (by lia)
 case fin =>
  rintro c st' ⟨hc,hB',hs'⟩
  refine ⟨hc,hB',?_⟩
  rwa [show min (max (max ok 1) n) n=n by lia] at hs'
 case step =>
  rintro k c st' hak hkn ⟨rfl,kp,hs'⟩
  rw [show min k n=k by lia] at hs'
  have B' := kp.tb
  have sz:=B'.size
  refine JH (LP (KM (I:=λx c st'' => st''=st'/\∃ l r,c=(none,l,r)/\l<=r/\r<=k/\r-l<=k-x/\(∀ i,i<l->K (arrOf st') (lo+i)<=K (arrOf st') (lo+k))/\(∀ i,r<=i->i<k->K (arrOf st') (lo+k)<K (arrOf st') (lo+i)))
   (Q:=λc st'' => st''=st'/\∃ l r,c=(none,l,r)/\l<=k/\(∀ i,i<l->K (arrOf st') (lo+i)<=K (arrOf st') (lo+k))/\(∀ i,l<=i->i<k->K (arrOf st') (lo+k)<K (arrOf st') (lo+i))) ?istep ?ifin ?iinit) ?ipost)
  case iinit=>exact ⟨rfl,0,k,rfl,by lia,by lia,by lia,λi hi=>by lia,λi h1 h2=>by lia⟩
  case ifin =>
   rintro c st'' ⟨rfl,l,r,rfl,hlr,hrk,hm,hlo,hhi⟩
   have:l=r:=by lia
   subst this
   exact ⟨rfl,l,l,rfl,hrk,hlo,hhi⟩
  case istep =>
   rintro x c st'' _ hxk ⟨rfl,l,r,rfl,hlr,hrk,hm,hlo,hhi⟩
   dsimp only
   by_cases hge:l ≥ r
   ·rw [JG hge]
    have:l=r:=by lia
    subst this
    exact JV ⟨rfl,l,l,rfl,hrk,hlo,hhi⟩
   ·rw [JF hge]
    refine JH (k8 h0 B' (by lia) (by lia) ?_)
    by_cases hless:K (arrOf st'') (lo+k)<K (arrOf st'') (lo+(l+r) / 2)
    ·rw [KR hless]
     refine JV ⟨rfl,l,(l+r) / 2,rfl,by lia,by lia,by lia,hlo,λi h1 h2=>?_⟩
     exact Int.lt_of_lt_of_le hless (hs' _ _ (by lia) (by lia) (by lia))
    ·rw [Kh hless]
     refine JV ⟨rfl,(l+r) / 2+1,r,rfl,by lia,by lia,by lia,λi h1=>?_,hhi⟩
     exact KZ (hs' (lo+i) (lo+(l+r) / 2) (by lia) (by lia) (by lia)) (O0.mp hless)
  case ipost =>
   rintro c st'' ⟨rfl,l,r,rfl,hlk,hlo,hhi⟩
   have hks:lo+k<(arrOf st'').size:=by lia
   show wpS _ _ _ _ (do moveDown' (lo+k) (lo+l);pure (ForInStep.yield (none,()))) _ _
   rw [moveDown'_eq]
   refine JH (Mx (JV ⟨rfl,kp.trans (.arr B' (bubble_perm _ _ _) λi hi=>?_),?_⟩))
   ·rw [getElem?_bubble hks _ (by lia),JF (by lia),JF (by lia)]
   ·rw [show min (k+1) n=k+1 by lia]
    intro i j hi hij hj
    show K (bubble (arrOf st'') (lo+k) (lo+k-(lo+l))) i<=K (bubble (arrOf st'') (lo+k) (lo+k-(lo+l))) j
    rw [K_bubble hks (by lia),K_bubble hks (by lia),show lo+k-(lo+k-(lo+l))=lo+l by lia]
    have lo':∀ i,lo<=i->i<lo+l->K (arrOf st'') i<=K (arrOf st'') (lo+k):=λi a b=>by
     have:=hlo (i-lo) (by lia)
     rwa [show lo+(i-lo)=i by lia] at this
    have hi':∀ i,lo+l<=i->i<lo+k->K (arrOf st'') (lo+k)<K (arrOf st'') i:=λi a b=>by
     have:=hhi (i-lo) (by lia) (by lia)
     rwa [show lo+(i-lo)=i by lia] at this
    repeat' split
    all_goals first
     | (exfalso;lia)
     | exact L9 _
     | exact lo' _ (by lia) (by lia)
     | exact LA (hi' _ (by lia) (by lia))
     | exact hs' _ _ (by lia) (by lia) (by lia)
theorem xh {st:SortSt} {lo nrem n0:Nat} {Q:Option (Option Nat)×Nat->SortSt->Prop} (h0:IntKeys a₀) (hn:lo+nrem<=a₀.size) (h1:1<=n0) (h2:n0<=nrem) (B:TB a₀ st) (hs:gN (arrOf st) lo (lo+n0))
  (h:∀ n,n0<=n->n<=nrem->gN (arrOf st) lo (lo+n)->(n=nrem\/K (arrOf st) (lo+n)<K (arrOf st) (lo+n-1))->Q (none,n) st) :
  wpS (model P w) A E s (forIn [n0:nrem] ((none,n0):Option (Option Nat)×Nat) λ_ c=>do
   let r <- ltAt' (lo+c.2) (lo+c.2-1)
   match r with
   | some sm=>if sm=true then pure (.done (none,c.2)) else pure (.yield (none,c.2+1))
   | _=>pure (.done (some none,c.2))) Q st:=by
 refine KM (I:=λx c st' => st'=st/\c=(none,x)/\gN (arrOf st) lo (lo+x)) ?step ?fin ⟨rfl,rfl,hs⟩
 case fin =>
  rintro c st' ⟨rfl,rfl,hs'⟩
  rw [show max n0 nrem=nrem by lia] at hs' ⊢
  exact h nrem h2 (JC _) hs' (.inl rfl)
 case step =>
  rintro x c st' hax hxn ⟨rfl,rfl,hs'⟩
  dsimp only
  refine JH (k8 h0 B (by lia) (by lia) ?_)
  by_cases less:K (arrOf st') (lo+x)<K (arrOf st') (lo+x-1)
  ·rw [KR less]
   exact JV (h x hax (by lia) hs' (.inr less))
  ·rw [Kh less]
   refine JV ⟨rfl,rfl,λi j hi hij hj=>?_⟩
   by_cases hjx:j<lo+x
   ·exact hs' i j hi hij hjx
   ·have hj':j=lo+x:=by lia
    subst hj'
    by_cases hi':i=lo+x
    ·subst hi';exact L9 _
    ·exact KZ (hs' i (lo+x-1) hi (by lia) (by lia)) (O0.mp less)
theorem EE {st:SortSt} {lo nrem:Nat} {Q:Option Nat->SortSt->Prop} (h0:IntKeys a₀) (nd:(a₀.toList.map ky).Nodup) (hn:lo+nrem<=a₀.size) (h1:1<=nrem) (B:TB a₀ st)
  (h:∀ n st',Keep a₀ lo st st'->1<=n->n<=nrem->gN (arrOf st') lo (lo+n)->Q (some n) st'):wpS (model P w) A E s (countRun' lo nrem) Q st:=by
 have one:gN (arrOf st) lo (lo+1):=λi j hi hij hj=>by
  have:i=j:=by lia
  subst this;exact L9 _
 have sz:=B.size
 refine JH (xh h0 hn (JC _) h1 B one λn a1 a2 a3 a4=>?_)
 dsimp only
 by_cases q:(n == nrem)=true
 ·rw [JG q]
  exact JV (h n st (.refl B) a1 a2 a3)
 ·rw [JF q]
  have qn:n≠nrem:=by simpa using q
  by_cases g:n > 1
  ·rw [JG g]
   refine JH (k8 h0 B (by lia) (by lia) ?_)
   have l1:=a3 lo (lo+n-1) (JC _) (by lia) (by lia)
   have l2:=B.ne nd (show lo<lo+n-1 by lia) (by lia)
   rw [KR (by lia)]
   dsimp only
   rw [JG rfl]
   exact JV (h n st (.refl B) a1 a2 a3)
  ·rw [JF g]
   have n1:n=1:=by lia
   subst n1
   have fl:K (arrOf st) (lo+1)<K (arrOf st) (lo+1-1):=a4.resolve_left qn
   have two:∀ i j,lo<=i->i<=j->j<lo+(1+1)->K (arrOf st) j<=K (arrOf st) i:=λi j hi hij hj=>by
    by_cases e:i=j
    ·subst e;exact L9 _
    ·have e1:i=lo:=by lia
     have e2:j=lo+1:=by lia
     subst e1 e2
     exact LA fl
   refine JH (jZ ?_)
   refine JH (LP (KM (I:=λx c st' => st'=st/\c=(none,x,0)/\∀ i j,lo<=i->i<=j->j<lo+x->K (arrOf st) j<=K (arrOf st) i)
    (Q:=λc st' => st'=st/\∃ x,c=(none,x,0)/\2<=x/\x<=nrem/\∀ i j,lo<=i->i<=j->j<lo+x->K (arrOf st) j<=K (arrOf st) i) ?step ?fin ⟨rfl,rfl,two⟩) ?post)
   case fin =>
    rintro c st' ⟨rfl,rfl,hd⟩
    refine ⟨rfl,_,rfl,by lia,by lia,hd⟩
   case step =>
    rintro x c st' hx1 hx2 ⟨rfl,rfl,hd⟩
    dsimp only
    refine JH (k8 h0 B (by lia) (by lia) ?_)
    by_cases less:K (arrOf st') (lo+x)<K (arrOf st') (lo+x-1)
    ·rw [KR less]
     dsimp only
     rw [JG rfl,JF (by lia)]
     refine JV ⟨rfl,rfl,λi j hi hij hj=>?_⟩
     by_cases hjx:j<lo+x
     ·exact hd i j hi hij hjx
     ·have hj':j=lo+x:=by lia
      subst hj'
      by_cases hi':i=lo+x
      ·subst hi';exact L9 _
      ·exact KZ (LA less) (hd i (lo+x-1) hi (by lia) (by lia))
    ·rw [Kh less]
     dsimp only
     rw [JF JT]
     refine JH (k8 h0 B (by lia) (by lia) ?_)
     have l2:=B.ne nd (show lo+x-1<lo+x by lia) (by lia)
     rw [KR (by lia)]
     dsimp only
     rw [JG rfl]
     exact JV ⟨rfl,x,rfl,by lia,by lia,hd⟩
   case post =>
    rintro c st' ⟨rfl,x,rfl,x1,x2,hd⟩
    dsimp only
    rw [JF (by lia)]
    have hsz:lo+x<=(arrOf st').size:=by lia
    have kp:Keep a₀ lo st' (setArr st' (mirror (arrOf st') lo (lo+x) ((lo+x-lo) / 2))):=.arr B (mirror_perm _ _ _ _) λi hi=>by
     rw [getElem?_mirror_all hsz,JF (by lia)]
    refine JH (wpS_reverse ?_)
    refine JH (xh h0 hn (by lia) x2 kp.tb (λi j hi hij hj=>?_) λm b1 b2 b3 _=>JV (h m _ kp (by lia) b2 b3))
    show K (mirror (arrOf st') lo (lo+x) ((lo+x-lo) / 2)) i<=K (mirror (arrOf st') lo (lo+x) ((lo+x-lo) / 2)) j
    rw [K_mirror hsz,K_mirror hsz,JG (by lia),JG (by lia)]
    exact hd _ _ (by lia) (by lia) (by lia)
end
end L2
namespace L2
open PySem PyProof.Rows
section
variable {P:Program} {w:World} {A:Around} {E:Value->Shared->Prop} {s:Shared} {a₀:Array Keyed}
theorem xj {st:SortSt} {i hi:Nat} {Q:Bool->SortSt->Prop} (h0:IntKeys a₀) (B:TB a₀ st) (R:RunsFrom (arrOf st).toList 0 (pendingOf st).toList hi) (hhi:hi<=a₀.size) (hi2:i+1<(pendingOf st).size)
  (h:∀ st',TB a₀ st'->RunsFrom (arrOf st').toList 0 (pendingOf st').toList hi->(pendingOf st').size+1=(pendingOf st).size->(arrOf st').toList.drop hi=(arrOf st).toList.drop hi->Q true st'):wpS (model P w) A E s (mergeAt' i) Q st:=by
 obtain ⟨p,ep⟩:∃ p,p=(pendingOf st).toList:=⟨_,rfl⟩
 have lp:p.length=(pendingOf st).size:=by rw [ep];simp
 have e1:p.drop i=p[i]::p[i+1]::p.drop (i+2):=by
  rw [KI (by lia),KI (by lia)]
 have e2:p=p.take i++([p[i],p[i+1]]++p.drop (i+2)):=by
  conv=>lhs;rw [<- Ke i p,e1]
  rfl
 obtain ⟨⟨sa,na,pw⟩,ex⟩:∃ x,x=p[i]:=⟨_,rfl⟩
 obtain ⟨⟨sb,nb,mh⟩,ey⟩:∃ x,x=p[i+1]:=⟨_,rfl⟩
 rw [<- ex,<- ey] at e2
 have R' := R
 rw [<- ep,e2,RunsFrom.app] at R'
 obtain ⟨m0,R1,f1,f2,f3,f4,_⟩:=R'
 have f5:sb=sa+na:=by rw [f4,f1]
 subst f5
 have li:(p.take i).length=i:=by rw [Kr];lia
 have hp:(pendingOf st).toList=p.take i++[(sa,na,pw),(sa+na,nb,mh)]++p.drop (i+2):=by rw [<- ep,JM];exact e2
 have key:=EC (P:=P) (w:=w) (A:=A) (E:=E) (s:=s) (Q:=Q) h0 B hp R hhi λst' b1 b2 b3 b4=>h st' b1 b3 (by
  have z:=congrArg List.length b2
  simp only [JJ,Kr,KG,Kj,KP,JQ] at z
  lia) b4
 rw [li] at key
 exact key
theorem RunsFrom.pw {L:List Keyed}:∀ {p q:List (Nat×Nat×Nat)} {lo hi:Nat},p.map (λx=>(x.1,x.2.1))=q.map (λx=>(x.1,x.2.1))->RunsFrom L lo p hi->RunsFrom L lo q hi
 | [],[],_,_,_,h=>h
 | [],_::_,_,_,e,_=>by simp at e
 | _::_,[],_,_,e,_=>by simp at e
 | (s,n,w)::p,(s',n',w')::q,lo,hi,e,h=>by
  simp only [J8,On,Prod.mk.injEq] at e
  obtain ⟨⟨e1,e2⟩,e3⟩:=e
  subst e1 e2
  obtain ⟨a,b,c,d⟩:=h
  exact ⟨a,b,c,RunsFrom.pw e3 d⟩
theorem xk (p:Array (Nat×Nat×Nat)) (k pw:Nat):(p.modify k λx=>(x.1,x.2.1,pw)).toList.map (λx=>(x.1,x.2.1))=p.toList.map (λx=>(x.1,x.2.1)):=by
 apply Mt
 intro i
 rw [Kb,Kb,Kd,Array.getElem?_modify,Kd]
 by_cases e:k=i
 ·rw [JG e];cases p[i]? <;> rfl
 ·rw [JF e]
theorem rO {m:Nat} (c:Prop) [Decidable c] (h:2<=m):(if c then m-2-1 else m-2)+1<m:=by split<;>lia
noncomputable def rP (size pw:Nat):StateT SortSt Sem (Option PUnit×PUnit) :=
 forIn [0:size] ((none,⟨⟩):Option PUnit×PUnit) λ_ _=>do
  let z <- get
  match if (pendingOf z).size > 1 then (pendingOf z)[(pendingOf z).size-2]? else none with
  | some (_,_,older) =>
   if older<=pw then pure (.done (none,⟨⟩))
   else do
    let ok <- mergeAt' ((pendingOf z).size-2)
    if (!ok)=true then pure (.done (some ⟨⟩,⟨⟩)) else pure (.yield (none,⟨⟩))
  | _=>pure (.done (none,⟨⟩))
theorem xm {st:SortSt} {lo size pw:Nat} {Q:Option PUnit×PUnit->SortSt->Prop} (h0:IntKeys a₀) (hlo:lo<=a₀.size) (B:TB a₀ st) (R:RunsFrom (arrOf st).toList 0 (pendingOf st).toList lo)
  (h:∀ st',TB a₀ st'->RunsFrom (arrOf st').toList 0 (pendingOf st').toList lo->(arrOf st').toList.drop lo=(arrOf st).toList.drop lo->Q (none,⟨⟩) st'):wpS (model P w) A E s (rP size pw) Q st:=by
 refine KM (I:=λ_ c st' => c=(none,⟨⟩)/\TB a₀ st'/\RunsFrom (arrOf st').toList 0 (pendingOf st').toList lo/\(arrOf st').toList.drop lo=(arrOf st).toList.drop lo) ?step ?fin ⟨rfl,B,R,rfl⟩
 case fin=>rintro c st' ⟨rfl,b,r,d⟩;exact h st' b r d
 case step =>
  rintro x c st' _ hx ⟨rfl,b,r,d⟩
  refine JH (Na ?_)
  by_cases g:(pendingOf st').size > 1
  ·rw [JG g]
   have e:(pendingOf st')[(pendingOf st').size-2]? = some ((pendingOf st')[(pendingOf st').size-2]'(by lia)):=by simp
   rw [e]
   dsimp only
   by_cases o:((pendingOf st')[(pendingOf st').size-2]'(by lia)).2.2<=pw
   ·rw [JG o];exact JV (h st' b r d)
   ·rw [JF o]
    refine JH (xj h0 b r hlo (by lia) λst2 b2 r2 _ d2=>?_)
    exact JV ⟨rfl,b2,r2,d2.trans d⟩
  ·rw [JF g];exact JV (h st' b r d)
theorem EF {st:SortSt} {Q:Unit->SortSt->Prop} (h0:IntKeys a₀) (nd:(a₀.toList.map ky).Nodup) (B:TB a₀ st) (hp:pendingOf st = #[]) (h1:1<=a₀.size)
  (h:∀ st',TB a₀ st'->Srt (arrOf st').toList->Q () st'):wpS (model P w) A E s sortRuns' Q st:=by
 refine JH (Na ?_)
 rw [show ((sortPriv% PySem.Builtin.SortState.a) st).size=a₀.size from B.size]
 dsimp only
 refine JH (LP (KM (I:=λx c st' => ∃ lo,c=(none,lo)/\TB a₀ st'/\RunsFrom (arrOf st').toList 0 (pendingOf st').toList lo/\lo<=a₀.size/\(x<=lo\/lo=a₀.size))
  (Q:=λc st' => c=(none,a₀.size)/\TB a₀ st'/\RunsFrom (arrOf st').toList 0 (pendingOf st').toList a₀.size) ?step ?fin ⟨0,rfl,B,by rw [hp];rfl,Ki _,.inl (JC _)⟩) ?post)
 case fin =>
  rintro c st' ⟨lo,rfl,B',R,h2,h3⟩
  have:lo=a₀.size:=by lia
  subst this
  exact ⟨rfl,B',R⟩
 case step =>
  rintro x c st' _ hx ⟨lo,rfl,B',R,h2,h3⟩
  dsimp only
  by_cases q:lo ≥ a₀.size
  ·rw [JG q]
   have:lo=a₀.size:=by lia
   subst this
   exact JV ⟨rfl,B',R⟩
  ·rw [JF q]
   refine JH (EE h0 nd (by lia) (by lia) B' λn st2 kp n1 n2 as=>?_)
   dsimp only
   have low:∀ {z:SortSt},Keep a₀ lo st' z->RunsFrom (arrOf z).toList 0 (pendingOf z).toList lo:=λ{z} k=>by
    rw [k.pend]
    refine RunsFrom.pre (Mt λi=>?_) R
    by_cases hi:i<lo
    ·rw [Kl hi,Kl hi,Kd,Kd];exact k.low i hi
    ·rw [Lo (by simp;lia),Lo (by simp;lia)]
   generalize (sortPriv% PySem.Builtin.minRun) a₀.size a₀.size 0=M
   by_cases g:n<M
   ·rw [JG g]
    refine JH (jZ (JH (ED h0 (by lia) (by lia) kp.tb as λst3 k3 as3=>?_)))
    have kk:=kp.trans k3
    have sz:=kk.tb.size
    rw [JF (show ¬ ((!true)=true) from JT)]
    have S3:=xg as3 (by lia)
    have L3:=low kk
    refine JH (Na ?_)
    cases eb:(pendingOf st3).back? with
    | none =>
     refine JH (Mx (JV ⟨_,rfl,⟨kk.tb.perm,kk.tb.kind,kk.tb.fail⟩,?_,by lia,.inl (by lia)⟩))
     show RunsFrom (arrOf st3).toList 0 ((pendingOf st3).push (lo,min (a₀.size-lo) M,0)).toList (lo+min (a₀.size-lo) M)
     rw [Lh,RunsFrom.app]
     exact ⟨lo,L3,rfl,by lia,S3,rfl⟩
    | some t =>
     obtain ⟨s1,n1',w1⟩:=t
     dsimp only
     refine JH (xm h0 h2 kk.tb L3 λz b2 r2 d2=>?_)
     dsimp only
     refine JH (Mx (JH (Mx (JV ⟨_,rfl,⟨b2.perm,b2.kind,b2.fail⟩,?_,by lia,.inl (by lia)⟩))))
     show RunsFrom (arrOf z).toList 0 (((pendingOf z).modify ((pendingOf z).size-1) λx=>(x.1,x.2.1,power' a₀.size (2*s1+n1') (2*s1+n1'+n1'+min (a₀.size-lo) M) a₀.size)).push (lo,min (a₀.size-lo) M,0)).toList (lo+min (a₀.size-lo) M)
     rw [Lh,RunsFrom.app]
     exact ⟨lo,RunsFrom.pw (xk _ _ _).symm r2,rfl,by lia,by rw [rJ d2 (JC _)];exact S3,rfl⟩
   ·rw [JF g]
    have sz:=kp.tb.size
    have S3:=xg as (by lia)
    have L3:=low kp
    refine JH (Na ?_)
    cases eb:(pendingOf st2).back? with
    | none =>
     refine JH (Mx (JV ⟨_,rfl,⟨kp.tb.perm,kp.tb.kind,kp.tb.fail⟩,?_,by lia,.inl (by lia)⟩))
     show RunsFrom (arrOf st2).toList 0 ((pendingOf st2).push (lo,n,0)).toList (lo+n)
     rw [Lh,RunsFrom.app]
     exact ⟨lo,L3,rfl,by lia,S3,rfl⟩
    | some t =>
     obtain ⟨s1,n1',w1⟩:=t
     dsimp only
     refine JH (xm h0 h2 kp.tb L3 λz b2 r2 d2=>?_)
     dsimp only
     refine JH (Mx (JH (Mx (JV ⟨_,rfl,⟨b2.perm,b2.kind,b2.fail⟩,?_,by lia,.inl (by lia)⟩))))
     show RunsFrom (arrOf z).toList 0 (((pendingOf z).modify ((pendingOf z).size-1) λx=>(x.1,x.2.1,power' a₀.size (2*s1+n1') (2*s1+n1'+n1'+n) a₀.size)).push (lo,n,0)).toList (lo+n)
     rw [Lh,RunsFrom.app]
     exact ⟨lo,RunsFrom.pw (xk _ _ _).symm r2,rfl,by lia,by rw [rJ d2 (JC _)];exact S3,rfl⟩
 case post =>
  rintro c st' ⟨rfl,B',R⟩
  dsimp only
  have pl:=R.le
  have done:∀ z:SortSt,TB a₀ z->RunsFrom (arrOf z).toList 0 (pendingOf z).toList a₀.size->(pendingOf z).size<=1->Q () z:=λz b r l=>by
   refine h z b ?_
   cases e:(pendingOf z).toList with
   | nil=>rw [e] at r;exact absurd (show 0=a₀.size from r) (by lia)
   | cons t rest =>
    have hl:(t::rest).length<=1:=by rw [<- e];simpa using l
    have:rest=[]:=by cases rest with
     | nil=>rfl
     | cons=>simp at hl
    subst this
    rw [e] at r
    obtain ⟨s1,n1,w1⟩:=t
    obtain ⟨_,_,S,e2⟩:=r
    have e3:0+n1=a₀.size:=e2
    have sz:=b.size
    have:sl (arrOf z).toList 0 (0+n1)=(arrOf z).toList:=by
     unfold sl;rw [Lg,Kg (by simp;lia)]
    rw [this] at S
    exact S
  refine JH (LP (KM (I:=λx c z=>c=(none,⟨⟩)/\TB a₀ z/\RunsFrom (arrOf z).toList 0 (pendingOf z).toList a₀.size/\((pendingOf z).size+x<=a₀.size\/(pendingOf z).size<=1))
   (Q:=λc z=>c=(none,⟨⟩)/\Q () z) ?s2 ?f2 ⟨rfl,B',R,.inl (by simpa using pl)⟩) ?p2)
  case p2=>rintro c z ⟨rfl,hq⟩;exact JV hq
  case f2 =>
   rintro c z ⟨rfl,b,r,l⟩
   exact ⟨rfl,done z b r (by lia)⟩
  case s2 =>
   rintro x c z _ hx ⟨rfl,b,r,l⟩
   refine JH (Na ?_)
   by_cases g:(pendingOf z).size<=1
   ·rw [JG g];exact JV ⟨rfl,done z b r g⟩
   ·rw [JF g]
    refine JH (xj h0 b r (JC _) ?_ λz2 b2 r2 s2 _=>?_)
    ·exact rO _ (show 2<=(pendingOf z).size by lia)
    ·exact JV ⟨rfl,b2,r2,.inl (by lia)⟩
end
end L2
namespace L2
open PySem PySem.Spec PyProof.Rows
section
variable {P:Program} {w:World} {A:Around} {E:Value->Shared->Prop} {s:Shared}
theorem EG {xs:Array Keyed} (h:Srt xs.toList) (n:Nat) (hn:n<=xs.size):SortedTo xs n:=λi j hij hj=>by
 have e1:=cg (a:=xs) (i:=i) (by lia)
 have e2:=cg (a:=xs) (i:=j) (by lia)
 rw [dW e1,dW e2]
 have S:Srt (sl xs.toList 0 xs.size):=by
  unfold sl;rw [Lg,Kg (by simp)];exact h
 exact k7 S (Ki _) hij (by lia) (aO e1) (aO e2)
theorem xn {a:Addr} {vs:List Value} {ns:List Int} {n:Nat} {R:Fin->Shared->Prop} (ho:s.heap.get? a=some (seqObj "list" vs.toArray n)) (hI:IntsAre vs ns) (nd:ns.Nodup) (hz:vs.length<=sizeLine)
  (h:∀ (out:Array Value) (ns':List Int),IntsAre out.toList ns'->ns'.Perm ns->ns'.Pairwise (· <= ·)->R (.done (.ret .none)) { s with heap:=sortedHeap s.heap a vs out }):wpAny (model P w) A (Builtin.«list.sort» ⟨[.ref a],[]⟩) R E s:=by
 rw [list_sort_plain]
 have ha:a<s.heap.objs.size:=JR ho
 refine Jz (listItems_at ho rfl (Jz (listUpdate_at ho rfl ?_)))
 obtain ⟨e1,h1⟩:∃ e1,(s.heap.update a (Obj.mapSeq λ_=>#[])).get? a=some (seqObj "list" #[] e1):=⟨_,get?_update_seq ho (λ_=>#[])⟩
 refine Jz (seqEpoch_at h1 rfl (Jz (wpAny_newTuple (Jz (OW (KD ?_))) (by exact hz))))
 have h6:(((s.heap.update a (Obj.mapSeq λ_=>#[])).push (seqObj "tuple" vs.toArray 0)).push (seqObj "list" #[] 0)).get? a=some (seqObj "list" #[] e1):=JD _ (JD _ h1)
 show wpAny (model P w) A _ R E { s with heap:=((s.heap.update a (Obj.mapSeq λ_=>#[])).push (seqObj "tuple" vs.toArray 0)).push (seqObj "list" #[] 0) }
 dsimp only
 have pz:=pairsOf_size vs
 have fin:∀ st':SortSt,(arrOf st').Perm (pairsOf vs)->SortedTo (arrOf st') (pairsOf vs).size->R (.done (.ret .none)) { s with heap:=sortedHeap s.heap a vs ((arrOf st').map (·.2)) }:=λst' hp hs=>by
  obtain ⟨ns',o1,o2,o3⟩:=sorted_out hI hp hs
  exact h _ ns' o1 o2 o3
 by_cases h2:vs.toArray.size<2
 ·rw [JG h2,JG h2]
  refine Jz (JB ?_)
  rw [StateT.run_pure]
  refine Jz (JB ?_)
  dsimp only
  refine Jz (seqEpoch_at h6 rfl (Jz (listUpdate_at h6 rfl ?_ (hsz2:=by rw [Array.size_map];show (pairsOf vs).size<=_;rw [pz];exact Pe hz))))
  simp only [LQ,K7,N9]
  refine JB (fin (SortSt.mk' general' (vs.toArray.zip vs.toArray) #[] 7 none) (Array.Perm.refl _) λi j hij hj=>?_)
  have:i=j:=by rw [pz] at hj;simp at h2;omega
  subst this;exact L9 _
 ·rw [JF h2,JF h2]
  obtain ⟨v1,v2,rest,e⟩:∃ v1 v2 rest,vs=v1::v2::rest:=by
   cases vs with
   | nil=>exact absurd (by decide) h2
   | cons v1 vs =>
    cases vs with
    | nil=>exact absurd (show 1<2 by decide) h2
    | cons v2 rest=>exact ⟨v1,v2,rest,rfl⟩
  have kk:keyKind' vs.toArray=pure oneType' := by subst e;exact keyKind_ints hI
  rw [kk]
  refine Jz (JB ?_)
  have pk:(pairsOf vs).toList.map ky=ns:=by
   rw [pairsOf_toList,show (vs.zip vs).map ky=((vs.zip vs).map Prod.fst).map numOf by rw [Md];rfl,List.map_fst_zip (JC _),hI.nums]
  refine Jz (Ku (EF (a₀:=pairsOf vs) (st:=SortSt.mk' oneType' (vs.toArray.zip vs.toArray) #[] 7 none) (Q:=λ_ st' => TB (pairsOf vs) st'/\Srt (arrOf st').toList) hI.intKeys (by rw [pk];exact nd) ⟨OB _,rfl,rfl⟩ rfl (by rw [pz,e];simp) λst' b1 b2=>⟨b1,b2⟩) ?_ λ_ _ e=>e)
  rintro ⟨⟨⟩,st'⟩ s' ⟨rfl,tb,sr⟩
  dsimp only
  have hp:(arrOf st').Perm (pairsOf vs):=NB.mpr tb.perm
  refine Jz (seqEpoch_at h6 rfl (Jz (listUpdate_at h6 rfl ?_ (hsz2:=by refine JI (Nq ((Array.size_map ..).trans (hp.size_eq.trans pz))) (Pe hz)))))
  rw [tb.fail]
  simp only [LQ,K7,N9]
  exact JB (fin st' hp (EG sr _ (by rw [tb.size];exact JC _)))
end
theorem xo {P:Program} {w:World}:∀ {kvs:List (aH×V)} {vs:List (aH×Value)} {ns:List Int} {us:List Value},KV kvs vs->kvs.map (·.1)=ns.map Sum.inl->us.length=vs.length->(∀ (i:Nat) (v:Value),us[i]? = some v->∃ k x,vs[i]? = some (k,x)/\(fR P w).is k v=true)->IntsAre us ns
 | [],[],[],[],_,_,_,_=>.nil
 | [],[],_::_,_,_,e,_,_=>by simp at e
 | [],[],[],_::_,_,_,l,_=>by simp at l
 | _::_,_::_,[],_,_,e,_,_=>by simp at e
 | _::_,_::_,_::_,[],_,_,l,_=>by simp at l
 | p::kvs,q::vs,n::ns,u::us,.cons r rs,e,l,f=>by
  simp only [J8,On] at e
  obtain ⟨k,x,e1,e2⟩:=f 0 u rfl
  have e3:q=(k,x):=by simpa using e1
  have ek:k=Sum.inl n:=by rw [<- e.1,r.1,e3]
  rw [ek] at e2
  rw [zr] at e2
  rcases gw (k:=Sum.inl n) (v:=u) e2 with ⟨i,t,a1,a2⟩ | ⟨y,t,a1,a2⟩
  ·injection a1 with a1
   subst a1 a2
   exact .cons _ _ (xo rs e.2 (by simpa using l) λi v h=>by simpa using f (i+1) v (by simpa using h))
  ·cases a1
theorem EH {X:Cx} (hc:X.calm=true):CallR X (.builtin "sorted") (λxs H Q=>∃ (a:Addr) (kvs:List (aH×V)) (ns:List Int),xs=[.ref a]/\H a=some (.dK kvs)/\kvs.map (·.1)=ns.map Sum.inl/\∀ (p:Addr) (ns':List Int),H p=none->ns'.Perm ns->ns'.Pairwise (· <= ·)->Q (.ref p) (aJ H p (.lst (ns'.map V.int)))):=by
 intro pins s σ H xs us Q I rv h
 obtain ⟨a,kvs,ns,rfl,ha,hn,q⟩:=h
 obtain ⟨u,rfl,ru⟩:=Vals.one rv
 obtain rfl:u=Value.ref a:=ru
 obtain ⟨z,hd,vs,rel,dd⟩:=vx I.hok ha
 obtain ⟨ep,da⟩:=dd.dictAt
 have lv:vs.length=kvs.length:=(Paired.length rel).symm
 have nd:ns.Nodup:=by
  have n1:=da.nodup
  have e1:vs.map (·.1)=kvs.map (·.1):=by
   have:∀ {l:List (aH×V)} {m:List (aH×Value)},KV l m->m.map (·.1)=l.map (·.1):=λr=>by
    unfold KV at r
    induction r with
    | nil=>rfl
    | cons h _ ih=>rw [J8,J8,ih,h.1]
   exact this rel
  rw [e1,hn] at n1
  exact List.Pairwise.of_map _ (λa b hab z=>hab (by rw [z])) n1
 refine NJ kind_sorted plain_sorted entry_sorted (args_sorted1 _) ?_
 unfold Builtin.«sorted»
 refine Jz (m:=checkCount "sorted" 1 1 _) (JB (Jz (PySem.W.kdu_collect (PySem.W.kdl_dict (knd:=fR X.prog X.w) (kvs:=vs) (ep:=ep) hd) (I.ok.hd hc) da (by rw [lv];exact z) λh' tk acc hk hacc=>?_)))
 have hl:acc.toList.length=vs.length:=by rw [JQ];exact hacc.1
 have hI:IntsAre acc.toList ns:=xo rel hn hl λi v e=>hacc.2 i v (by rw [<- Kd];exact e)
 have hz:acc.toList.length<=sizeLine:=by rw [hl,lv];exact z
 refine Jz (OW ?_ hz)
 have hoL:(h'.push (seqObj "list" acc.toList.toArray 0)).get? h'.objs.size=some (seqObj "list" acc.toList.toArray 0):=JL _ rfl
 refine Jz (KD (KU slot_list_sort ⟨_,hoL,rfl⟩ entry_list_sort (xn (s:={ s with heap:=h'.push (seqObj "list" acc.toList.toArray 0),toks:=tk }) hoL hI nd hz λout ns' o1 o2 o3=>⟨_,rfl,JB ⟨_,rfl,?_⟩⟩) (args_list_sort _)))
 have I1:Inv X pins σ H { s with heap:=h',toks:=tk }:=I.kept (t' := tk) hk
 obtain ⟨e,he⟩:=sortedHeap_at (out:=out) hoL
 have l2:ns'.length=ns.length:=o2.length_eq
 have l3:ns.length=kvs.length:=by have:=congrArg List.length hn;simpa using this.symm
 refine ⟨.ref h'.objs.size,_,I1.laid (a:=h'.objs.size) (t' := tk) (o:=.lst (ns'.map V.int)) (λb o hb=>?_) (JC _) ⟨?_,out.toList,e,mV o1,?_⟩,rfl,q _ ns' (I1.hok.fresh (JC _)) o2 o3⟩
 ·have lt:b<h'.objs.size:=JR hb
  rw [sortedHeap_old (Ka lt) (by rw [size_push'];exact Lr lt)]
  exact JD _ hb
 ·rw [JN,l2,l3];exact z
 ·rw [he]
end L2
namespace L2
open PySem PySem.Spec PyProof.Rows
theorem rQ (a b:Int):Builtin.Range.rangeSize a b (-1)=(((a-b).toNat:Nat):Int):=by
 unfold Builtin.Range.rangeSize
 rw [JF (by decide),show (- -1:Int)=1 from rfl,Pa]
 split<;>lia
theorem xp {a b:Int} (ha:a.natAbs<2 ^ 40) (hb:b.natAbs<2 ^ 40):Builtin.Range.small a b (-1)=true:=by
 have l:(2:Nat) ^ 40<2 ^ 42:=by decide
 have ha2:a.natAbs<1099511627776:=ha
 have hb2:b.natAbs<1099511627776:=hb
 unfold Builtin.Range.small
 rw [gD (Lz ha l),gD (Lz hb l),gD (x:=-1) (by decide),gD (x:=Builtin.Range.rangeSize a b (-1)) (by rw [rQ];show _<4398046511104;lia),JF (by decide)]
 have fb:=gD (Lz hb l)
 simp [fb]
section
variable {X:Cx} {tg:Expr}
noncomputable def EI (ta:TA):TI:=λσ H R=>ta σ H λvs H1=>∃ i j:Int,vs=[.int i,.int j,.int (-1)]/\(i.natAbs<2 ^ 40/\j.natAbs<2 ^ 40)/\R (eD i (-1) (i-j).toNat) H1
theorem EJ {pins:List (Addr×Obj)} {σ:St} {H:Hp} {s:Shared} {R:It->Hp->Prop} {E:Value->Shared->Prop} {lo hi:Int} {t u v:Tok} {tk:Nat} (I:Inv X pins σ H s) (h1:lo.natAbs<2 ^ 40) (h2:hi.natAbs<2 ^ 40)
  (q:R (eD lo (-1) (lo-hi).toNat) H):wpAny (model X.prog X.w) X.A (pyIter (.ref s.heap.objs.size)) (mH X pins σ tg R) E { s with heap:=s.heap.push { cls:=.type "range",data:=.fields #[.int lo t,.int hi u,.int (-1) v] },toks:=tk }:=by
 refine NI (IsRange.new ..) (xp h1 h2) ?_
 have I1:Inv X pins σ H { s with heap:=s.heap.push { cls:=.type "range",data:=.fields #[.int lo t,.int hi u,.int (-1) v] },toks:=tk }:=I.kept λb o e=>JD _ e
 refine ⟨(s.heap.push { cls:=.type "range",data:=.fields #[.int lo t,.int hi u,.int (-1) v] }).objs.size,[(s.heap.push { cls:=.type "range",data:=.fields #[.int lo t,.int hi u,.int (-1) v] }).objs.size],_,_,H,rfl,
  I1.kept (t' := tk) λb o e=>JD _ e,vP _ lo (-1) (lo-hi).toNat,?_,λb hb=>?_,q⟩
 ·have e1:lo+((0:Nat):Int)*(-1)=lo:=by simp
  have e2:(((lo-hi).toNat:Nat):Int)-((0:Nat):Int)=Builtin.Range.rangeSize lo hi (-1):=by rw [rQ];omega
  show IsRangeIter _ _ (lo+((0:Nat):Int)*(-1)) ((((lo-hi).toNat:Nat):Int)-((0:Nat):Int)) (-1)
  rw [e1,e2]
  exact JL _ rfl
 ·have e:b=(s.heap.push { cls:=.type "range",data:=.fields #[.int lo t,.int hi u,.int (-1) v] }).objs.size:=by simpa using hb
  subst e
  exact I1.fpOk (JC _) (I1.hok.fresh (JC _))
theorem EK {a b c:Expr} {ta:TA} {p pos:Pos} (hg:Gl X "range") (hm:X.mg "range" = none) (ha:PA X [a,b,c] ta) (hs:starEach [a,b,c] X.env=[(false,eval a X.env),(false,eval b X.env),(false,eval c X.env)]:=by rfl) (hs2:starEach [b,c] X.env=[(false,eval b X.env),(false,eval c X.env)]:=by rfl) :
  PI X tg (.Call (.Name "range" p) [a,b,c] [] pos) (EI ta):=by
 intro pins s σ H R I h
 refine Call_ (fG I hg hm O2 (KF (thn (ha pos pins s σ H _ I h) λus s1 Zz=>?_) (by rw [hs,hs2]) (by rw [hs2];rfl)));obtain ⟨vs,H1,I1,r1,q1⟩:=Zz
 obtain ⟨i,j,e,⟨q1,q2⟩,q⟩:=q1
 subst e
 cases r1 with
 | cons r rr =>
  cases rr with
  | cons r' rr =>
   cases rr with
   | cons r'' rr =>
    cases rr
    obtain ⟨t,rfl⟩:=r
    obtain ⟨t',rfl⟩:=r'
    obtain ⟨t'',rfl⟩:=r''
    exact Pq (by decide) (EJ I1 q1 q2 q) (.inl (MU (by decide)))
theorem EL {acc:Array Value} {lo:Int} {n:Nat} (h:ItemsOf (λi v=>∃ t,v = .int (lo+(i:Int)*(-1)) t) acc n):Vals ((List.range n).map λm:Nat=>V.int (lo-m)) acc.toList:=by
 obtain ⟨h1,h2⟩:=h
 have key:∀ (l:List Value) (k:Nat),(∀ (i:Nat) (v:Value),l[i]? = some v->∃ t,v=Value.int (lo-((k+i:Nat):Int)) t)->Vals ((List.range' k l.length).map λm:Nat=>V.int (lo-m)) l:=by
  intro l
  induction l with
  | nil=>intro k _;exact .nil
  | cons v r ih =>
   intro k hk
   rw [Kj,List.range'_succ,J8]
   obtain ⟨t,e⟩:=hk 0 v rfl
   refine .cons ⟨t,by simpa using e⟩ (ih (k+1) λi w e=>?_)
   obtain ⟨t',e'⟩:=hk (i+1) w e
   exact ⟨t',by rw [e',show k+(i+1)=k+1+i by lia]⟩
 have:=key acc.toList 0 λi v e=>by
  obtain ⟨t,e'⟩:=h2 i v (by rw [<- e,Kd])
  exact ⟨t,by rw [e'];first | (congr 1;lia) | congr 1⟩
 rw [JQ,h1,<- List.range_eq_range'] at this
 exact this
theorem EM {a b c:Expr} {ta:TA} {p pos p' pos':Pos} (hcalm:X.calm=true) (hg:Gl X "range") (hm:X.mg "range" = none) (hgl:Gl X "list") (hml:X.mg "list" = none) (ha:PA X [a,b,c] ta) (hs:starEach [a,b,c] X.env=[(false,eval a X.env),(false,eval b X.env),(false,eval c X.env)]:=by rfl) (hs2:starEach [b,c] X.env=[(false,eval b X.env),(false,eval c X.env)]:=by rfl)
  (hs':starEach [.Call (.Name "range" p) [a,b,c] [] pos] X.env=[(false,eval (.Call (.Name "range" p) [a,b,c] [] pos) X.env)]:=by rfl) :
  PE X (.Call (.Name "list" p') [.Call (.Name "range" p) [a,b,c] [] pos] [] pos') (λσ H Q=>ta σ H λvs H1=>∃ i j:Int,vs=[.int i,.int j,.int (-1)]/\(i.natAbs<2 ^ 40/\j.natAbs<2 ^ 40/\(i-j).toNat<=2 ^ 24)/\∀ l,H1 l=none->Q (.ref l) (aJ H1 l (.lst ((List.range (i-j).toNat).map λm:Nat=>V.int (i-m))))):=by
 intro pins s σ H Q I h
 refine Call_ (fG I hgl hml (by decide +kernel:bootBuiltins "list" = some (.type "list")) (KF ?_ hs' rfl))
 rw [hs']
 show wpAny _ _ (spliced ((false,eval (.Call (.Name "range" p) [a,b,c] [] pos) X.env)::backTo pos' (starEach [] X.env))) _ _ s
 refine Mc ?_
 refine Call_ (fG I hg hm O2 (KF (thn (ha pos pins s σ H _ I h) λus s1 Zz=>?_) (by rw [hs,hs2]) (by rw [hs2];rfl)));obtain ⟨vs,H1,I1,r1,q1⟩:=Zz
 obtain ⟨i,j,e,⟨q1,q2,q3⟩,q⟩:=q1
 subst e
 cases r1 with
 | cons r rr =>
  cases rr with
  | cons r' rr =>
   cases rr with
   | cons r'' rr =>
    cases rr
    obtain ⟨t,rfl⟩:=r
    obtain ⟨t',rfl⟩:=r'
    obtain ⟨t'',rfl⟩:=r''
    refine Pq (by decide) (Mr ?_) (.inl (MU (by decide)))
    have I2:Inv X pins σ H1 { s1 with heap:=s1.heap.push { cls:=.type "range",data:=.fields #[.int i t,.int j t',.int (-1) t''] } }:=I1.kept λb o e=>JD _ e
    refine call_list_range (I2.ok.hd hcalm) (IsRange.new ..) (xp q1 q2) (n:=(i-j).toNat) (rQ i j) q3 λh' tk acc c' kp e hI=>?_
    refine ⟨.ref _,_,I2.laid (t' := tk) (o:=.lst ((List.range (i-j).toNat).map λm:Nat=>V.int (i-m))) kp (JC _) ?_,rfl,q _ (I2.hok.fresh (JC _))⟩
    refine ⟨?_,acc.toList,c',EL hI,by rw [Array.toArray_toList];exact e⟩
    rw [JN,Lf]
    exact JI q3 (by decide)
end
end L2
namespace Sm
open PySem PySem.Spec L2
noncomputable def fB (x:Int):List Int->List Int
 | []=>[x]
 | y::r=>if x<=y then x::y::r else y::fB x r
noncomputable def gi:List Int->List Int
 | []=>[]
 | x::r=>fB x (gi r)
theorem rR (x:Int):∀ l,(fB x l).Perm (x::l)
 | []=>.refl _
 | y::r=>by
  unfold fB
  split
  ·exact .refl _
  ·exact ((rR x r).cons y).trans (List.Perm.swap x y r)
theorem k9:∀ l,(gi l).Perm l
 | []=>.refl _
 | x::r=>(rR x (gi r)).trans ((k9 r).cons x)
theorem xq (x:Int):∀ {l:List Int},l.Pairwise (· <= ·)->(fB x l).Pairwise (· <= ·)
 | [],_=>L4 _ _
 | y::r,h=>by
  obtain ⟨h1,h2⟩:=Lp.mp h
  unfold fB
  split
  ·rename_i hx
   refine Lp.mpr ⟨λz hz=>?_,h⟩
   rcases J4.mp hz with rfl | hz
   ·exact hx
   ·exact KZ hx (h1 z hz)
  ·rename_i hx
   refine Lp.mpr ⟨λz hz=>?_,xq x h2⟩
   rcases J4.mp ((rR x r).mem_iff.mp hz) with rfl | hz
   ·lia
   ·exact h1 z hz
theorem lg:∀ l,(gi l).Pairwise (· <= ·)
 | []=>.nil
 | x::r=>xq x (lg r)
theorem j4:∀ {l m:List Int},l.Perm m->l.Pairwise (· <= ·)->m.Pairwise (· <= ·)->l=m
 | [],m,p,_,_=>(List.nil_perm.mp p).symm
 | x::l,[],p,_,_=>by simp at p
 | x::l,y::m,p,h,g=>by
  obtain ⟨h1,h2⟩:=Lp.mp h
  obtain ⟨g1,g2⟩:=Lp.mp g
  have e:x=y:=by
   have a:x∈y::m:=p.mem_iff.mp (KJ ..)
   have b:y∈x::l:=p.mem_iff.mpr (KJ ..)
   rcases J4.mp a with a | a
   ·exact a
   ·rcases J4.mp b with b | b
    ·exact b.symm
    ·exact Int.le_antisymm (h1 y b) (g1 x a)
  subst e
  rw [j4 (List.Perm.cons_inv p) h2 g2]
noncomputable def j5 (v:AV) (h:AH):Option (List Int):=match v with
 | .ref n=>(match h[n]? with
  | some (.dct false kvs)=>gL (kvs.map (·.1))
  | _=>none)
 | _=>none
noncomputable def Ju:Fn:=λargs h=>match args with
 | [v]=>(match j5 v h with
  | some ns=>.ok (.fl ((gi ns).map AV.int)) h
  | none=>.bad)
 | _=>.bad
noncomputable def lh:Fn:=λargs h=>match args with
 | [v]=>(match j5 v h with
  | some ns=>.ok (.ref h.length) (h++[.lst ((gi ns).map AV.int)])
  | none=>.bad)
 | _=>.bad
noncomputable def eG (i j:Int):List AV:=(List.range (i-j).toNat).map λm:Nat=>AV.int (i-m)
noncomputable def j6 (a b c:SE):SI:=λen h=>(a en h).bind λv h1=>(b en h1).bind λw h2=>(c en h2).bind λz h3=>match v,w,z with
 | .int i,.int j,.int k=>if i.natAbs<2 ^ 40/\j.natAbs<2 ^ 40/\k = -1 then .ok (eG i j,none) h3 else .bad
 | _,_,_=>.bad
noncomputable def lj:Fn:=λargs h=>match args with
 | [.int i,.int j,.int k]=>if i.natAbs<2 ^ 40/\j.natAbs<2 ^ 40/\(i-j).toNat<=2 ^ 24/\k = -1 then .ok (.fl (eG i j)) h else .bad
 | _=>.bad
section
variable {T:Tb} {E:St->XK} {X:Cx} {pos p p' pos':Pos} {a b c:Expr} {sa sb sc:SE}
theorem xr {ι:Ix} {H:Hp}:∀ {l:List (AV×AV)} {m:List (aH×V)} {is:List Int},Paired (λ(p:AV×AV) (q:aH×V)=>p.1=kA q.1/\RV T ι H p.2 q.2) l m->l.map (·.1)=is.map AV.int->m.map (·.1)=is.map Sum.inl
 | _,_,[],.nil,_=>rfl
 | _,_,_::_,.nil,e=>by simp at e
 | _,_,[],.cons _ _,e=>by simp at e
 | _,_,i::is,.cons (a:=p) (b:=q) hh t,e=>by
  rw [J8,J8] at e ⊢
  injection e with e1 e2
  rw [xr t e2]
  have e3:kA q.1 = .int i:=by rw [<- hh.1];exact e1
  obtain ⟨k,v⟩:=q
  cases k with
  | inl j=>injection e3 with e3;subst e3;rfl
  | inr x=>cases e3
theorem EO {ι:Ix} {h:AH} {H:Hp} {v:AV} {u:V} {ns:List Int} (S:Sim T ι h H) (r:RV T ι H v u) (e:j5 v h=some ns):∃ ad kus,u = .ref ad/\H ad=some (.dK kus)/\kus.map (·.1)=ns.map Sum.inl:=by
 unfold j5 at e
 split at e
 ·rename_i n
  split at e
  ·rename_i kvs hn
   cases r with
   | @ref _ ad hr =>
    obtain ⟨ob,e1,kus,rfl,pr⟩:=S.obj n _ ad hn hr
    refine ⟨ad,kus,rfl,e1,?_⟩
    have ee:=rq e
    exact xr pr ee
  ·cases e
 ·cases e
theorem rS {ι:Ix} {H:Hp}:∀ (ns:List Int),RVs T ι H (ns.map AV.int) (ns.map V.int)
 | []=>.nil
 | n::ns=>.cons (.int n) (rS ns)
theorem ES (hc:X.calm=true:=by rfl):∃ r,CallR X (.builtin "sorted") r/\gJ T lh r:=by
 refine ⟨_,EH hc,λι h H xs us E Q S r q=>?_⟩
 unfold lh at q
 split at q
 ·split at q
  ·rename_i ns hn
   cases r with
   | cons r r' =>
    cases r'
    obtain ⟨ad,kus,rfl,e1,e2⟩:=EO S r hn
    refine ⟨ad,kus,ns,rfl,e1,e2,λp ns' hp pr so=>?_⟩
    have:ns'=gi ns:=j4 (pr.trans (k9 ns).symm) so (lg ns)
    subst this
    exact q _ _ _ (S.growAdd hp) (S.add hp ⟨_,rfl,rS _⟩) (.ref S.addAt)
  ·exact q.elim
 ·exact q.elim
theorem ET {ι:Ix} {H:Hp} {i j:Int}:gH T (eD i (-1) (i-j).toNat) ι H (eG i j) none:=by
 have:=wJ (T:=T) (ι:=ι) (H:=H) (lo:=i) (c:=-1) (n:=(i-j).toNat)
 have e:(List.range (i-j).toNat).map (λm:Nat=>AV.int (i+m*(-1)))=eG i j:=LW λm _=>by congr 1;lia
 rw [e] at this
 exact this
theorem EU {tg:Expr} (hg:Gl X "range") (hm:X.mg "range" = none) (ha:aI T E X a sa) (hb:aI T E X b sb) (hc:aI T E X c sc) (hs:starEach [a,b,c] X.env=[(false,eval a X.env),(false,eval b X.env),(false,eval c X.env)]:=by rfl) (hs2:starEach [b,c] X.env=[(false,eval b X.env),(false,eval c X.env)]:=by rfl) (hs3:starEach [c] X.env=[(false,eval c X.env)]:=by rfl) :
  iI T X tg (.Call (.Name "range" p) [a,b,c] [] pos) (j6 sa sb sc) :=
 nC (EK hg hm (ak ha (ak hb (ak hc au hs3) (by rw [hs2,hs3])) (by rw [hs,hs2])) hs hs2) λσ H R=>E6x λι h en S er q=>by
  unfold j6 at q
  refine ⟨ι,h,en,S,er,?_⟩
  unfold aj
  cases e:sa en h with
  | bad=>rw [e] at q;exact q
  | ex c h1=>rw [e] at q;exact q.elim
  | ok v h1 =>
   rw [e] at q
   dsimp only [Out.bind] at q ⊢
   cases e':sb en h1 with
   | bad=>rw [e'] at q;exact q
   | ex c h1=>rw [e'] at q;exact q.elim
   | ok v' h2 =>
    rw [e'] at q
    dsimp only at q ⊢
    cases e'':sc en h2 with
    | bad=>rw [e''] at q;exact q
    | ex c h1=>rw [e''] at q;exact q.elim
    | ok v'' h3 =>
     rw [e''] at q
     dsimp only at q
     intro ι1 H1 u g1 S1 r1
     split at q
     ·rename_i hx
      split at hx
      ·split at hx
       ·rename_i hb
        obtain ⟨b1,b2,rfl⟩:=hb
        cases hx
        cases r1 with
        | cons r r' =>
         cases r' with
         | cons r2 r3 =>
          cases r3 with
          | cons r4 r5 =>
           cases r5
           rw [bq r,bq r2,bq r4]
           exact ⟨_,_,rfl,⟨b1,b2⟩,q ι1 H1 _ g1 S1 ET⟩
       ·cases hx
      ·cases hx
     ·exact q.elim
theorem EV (hcalm:X.calm=true) (hg:Gl X "range") (hm:X.mg "range" = none) (hgl:Gl X "list") (hml:X.mg "list" = none) (ha:aI T E X a sa) (hb:aI T E X b sb) (hc:aI T E X c sc) (hs:starEach [a,b,c] X.env=[(false,eval a X.env),(false,eval b X.env),(false,eval c X.env)]:=by rfl) (hs2:starEach [b,c] X.env=[(false,eval b X.env),(false,eval c X.env)]:=by rfl) (hs3:starEach [c] X.env=[(false,eval c X.env)]:=by rfl)
  (hs':starEach [.Call (.Name "range" p) [a,b,c] [] pos] X.env=[(false,eval (.Call (.Name "range" p) [a,b,c] [] pos) X.env)]:=by rfl) :
  aI T E X (.Call (.Name "list" p') [.Call (.Name "range" p) [a,b,c] [] pos] [] pos') (aE lj (aj sa (aj sb (aj sc af)))):=by
 refine bW (EM hcalm hg hm hgl hml (ak ha (ak hb (ak hc au hs3) (by rw [hs2,hs3])) (by rw [hs,hs2])) hs hs2 hs') λσ H Q=>E6x λι h en S er q=>⟨ι,h,en,S,er,q.bind λxs h1 ι1 H1 us g1 S1 r1 q1=>?_⟩
 unfold lj at q1
 split at q1
 ·split at q1
  ·rename_i i j k hb
   obtain ⟨b1,b2,b3,rfl⟩:=hb
   cases r1 with
   | cons r r' =>
    cases r' with
    | cons r2 r3 =>
     cases r3 with
     | cons r4 r5 =>
      cases r5
      rw [bq r,bq r2,bq r4]
      refine ⟨i,j,rfl,⟨b1,b2,b3⟩,λl hl=>?_⟩
      refine q1 ι1 _ _ (S1.growNew hl) (S1.new hl) (.fl (S1.fresh hl) (.of eP) ?_)
      have:∀ (n:List Nat) {H2:Hp},RVs T ι1 H2 (n.map λm:Nat=>AV.int (i-m)) (n.map λm:Nat=>V.int (i-m)):=λn {H2}=>by
       induction n with
       | nil=>exact .nil
       | cons m n ih=>exact .cons (.int _) ih
      exact this _
  ·exact q1.elim
 ·exact q1.elim
end
end Sm
namespace L2
open PySem PySem.Spec PyProof.Rows
noncomputable def Rise (l:List Nat):Prop:=l.Pairwise (· < ·)
theorem Rise.at_ {xs:Array Nat} (h:Rise xs.toList) {i k a b:Nat} (hik:i<k) (ea:xs[i]? = some a) (eb:xs[k]? = some b):a<b:=by
 rw [<- Kd] at ea eb
 obtain ⟨la,ha⟩:=JA.mp ea
 obtain ⟨lb,hb⟩:=JA.mp eb
 have:=MD.mp h i k la lb hik
 rw [ha,hb] at this
 exact this
theorem rT {xs:Array Nat} {j:Nat} (h:Rise xs.toList):∀ (fuel lo hi:Nat),lo<=hi->hi<=xs.size->hi-lo<=fuel->(∀ k a,k<lo->xs[k]? = some a->a<j)->(∀ k a,hi<=k->xs[k]? = some a->j<=a) ->
  SetTable.below.go xs j fuel lo hi<=xs.size/\(∀ k a,k<SetTable.below.go xs j fuel lo hi->xs[k]? = some a->a<j)/\∀ k a,SetTable.below.go xs j fuel lo hi<=k->xs[k]? = some a->j<=a
 | 0,lo,hi,h1,h2,h3,h4,h5=>by
  have:lo=hi:=by omega
  subst this
  exact ⟨h2,h4,h5⟩
 | fuel+1,lo,hi,h1,h2,h3,h4,h5=>by
  unfold SetTable.below.go
  by_cases hl:lo<hi
  ·rw [JG hl]
   dsimp only
   have hm:(lo+hi) / 2<xs.size:=by omega
   have em:xs[(lo+hi) / 2]? = some xs[(lo+hi) / 2]:=Kq hm
   have eg:xs.getD ((lo+hi) / 2) j=xs[(lo+hi) / 2]:=by simp [Array.getD,hm]
   rw [eg]
   by_cases hq:xs[(lo+hi) / 2]<j
   ·rw [JG hq]
    refine rT h fuel _ _ (by omega) h2 (by omega) (λk a hk ek=>?_) h5
    by_cases z:k=(lo+hi) / 2
    ·subst z;rw [em] at ek;cases ek;exact hq
    ·exact Lz (h.at_ (by omega) ek em) hq
   ·rw [JF hq]
    refine rT h fuel _ _ (by omega) (by omega) (by omega) h4 (λk a hk ek=>?_)
    by_cases z:k=(lo+hi) / 2
    ·subst z;rw [em] at ek;cases ek;omega
    ·exact JI (M6 hq) (Mb (h.at_ (by omega) em ek))
  ·rw [JF hl]
   have:lo=hi:=by omega
   subst this
   exact ⟨h2,h4,h5⟩
theorem rV {xs:Array Nat} (h:Rise xs.toList) (j:Nat):SetTable.below xs j<=xs.size/\(∀ k a,k<SetTable.below xs j->xs[k]? = some a->a<j)/\∀ k a,SetTable.below xs j<=k->xs[k]? = some a->j<=a :=
 rT h _ _ _ (Ki _) (JC _) (JC _) (λ_ _ z=>absurd z (Ml _)) (λk a hk e=>by
  rw [Mf (by omega)] at e;cases e)
theorem EW {xs:Array Nat} (h:Rise xs.toList) {i a:Nat} (e:xs[i]? = some a):SetTable.below xs (a+1)=i+1:=by
 obtain ⟨h1,h2,h3⟩:=rV h (a+1)
 have hi:i<xs.size:=(Le.mp e).1
 have l1 : ¬SetTable.below xs (a+1)<=i:=λz=>by have:=h3 i a z e;omega
 by_cases z:SetTable.below xs (a+1)<=i+1
 ·omega
 ·have hb:i+1<xs.size:=by omega
  have eb:xs[i+1]? = some xs[i+1]:=Kq hb
  have:=h2 (i+1) _ (by omega) eb
  have:=h.at_ (Mz i) e eb
  omega
theorem EX {xs:Array Nat} (h:Rise xs.toList):SetTable.below xs 0=0:=by
 obtain ⟨h1,h2,h3⟩:=rV h 0
 by_cases z:SetTable.below xs 0=0
 ·exact z
 ·have hb:0<xs.size:=by omega
  have:=h2 0 _ (by omega) (Kq hb)
  omega
theorem EY {xs:Array Nat} (h:Rise xs.toList) {j:Nat} (hj:xs[SetTable.below xs j]? ≠ some j):Rise (SetTable.insertAt xs (SetTable.below xs j) j).toList:=by
 obtain ⟨h1,h2,h3⟩:=rV h j
 generalize SetTable.below xs j=p at *
 rw [SetTable.toList_insertAt]
 have lt:∀ b∈xs.toList.drop p,j<b:=λb hb=>by
  obtain ⟨k,hk,e⟩:=Lk hb
  rw [List.getElem_drop] at e
  rw [KG] at hk
  have ek:xs[p+k]? = some b:=by rw [<- Kd,JU (by omega),e]
  rcases Nat.lt_or_eq_of_le (h3 _ _ (by omega) ek) with z | z
  ·exact z
  ·subst z
   by_cases k0:k=0
   ·subst k0;exact absurd ek hj
   ·have hp:p<xs.size:=by have:=(Le.mp ek).1;omega
    have ep:=Kq hp
    have a1:=h3 p _ (JC _) ep
    have a2:=h.at_ (by omega) ep ek
    omega
 have gt:∀ a∈xs.toList.take p,a<j:=λa ha=>by
  obtain ⟨k,hk,e⟩:=Lk ha
  rw [Kr] at hk
  rw [Pf] at e
  exact h2 k a (by omega) (by rw [<- Kd,JU (by omega),e])
 refine Nc.mpr ⟨Mp (NM _ _) h,Lp.mpr ⟨lt,Mp (Pd _ _) h⟩,λa ha b hb=>?_⟩
 rcases J4.mp hb with z | z
 ·rw [z];exact gt a ha
 ·exact Lz (gt a ha) (lt b z)
structure TbOk (t:SetTable):Prop where
 rise:Rise t.place.toList
 clean:t.dummies = #[]
theorem xt (j:Nat):SetTable.has #[] j=false:=by simp [SetTable.has]
theorem xu {t:SetTable} (ok:TbOk t) {f:Nat->Int} {h:Int}:∀ (fuel:Nat) (p:SetTable.Probe),p.dummy=none->∀ m,SetTable.probe.go t f h fuel p=some m->match m with | .empty j d=>d=none/\t.place[SetTable.below t.place j]? ≠ some j | _=>True
 | 0,p,_,m,e=>by cases e
 | fuel+1,p,hd,m,e=>by
  unfold SetTable.probe.go at e
  cases es:t.slot p.j with
  | empty =>
   rw [es] at e
   cases e
   refine ⟨hd,λz=>?_⟩
   unfold SetTable.slot at es
   dsimp only at es
   rw [JG (by rw [z];simp)] at es
   cases es
  | dummy =>
   exfalso
   unfold SetTable.slot at es
   dsimp only at es
   rw [ok.clean,xt] at es
   split at es
   ·cases es
   ·simp at es
  | live i =>
   rw [es] at e
   dsimp only at e
   split at e
   ·cases e;trivial
   ·exact xu ok fuel _ (by unfold SetTable.advance;split<;>exact hd) m e
theorem TbOk.standIn {t:SetTable} {n:Nat}:TbOk (t.standIn n):=⟨by
 unfold Rise SetTable.standIn
 dsimp only
 rw [Array.toList_range]
 exact Od,rfl⟩
theorem TbOk.orStandIn {t:SetTable} (ok:TbOk t) {n:Nat}:TbOk (t.orStandIn n):=by
 unfold SetTable.orStandIn
 split
 ·exact ok
 ·exact TbOk.standIn
theorem TbOk.fresh {f m:Nat} {l:Bool}:TbOk (.fresh f m l):=⟨List.Pairwise.nil,rfl⟩
theorem EZ {t:SetTable} {n:Nat}:(t.orStandIn n).led=t.led:=by
 unfold SetTable.orStandIn
 split<;>rfl
theorem TbOk.put {t:SetTable} (ok:TbOk t) {j:Nat} (hj:t.place[SetTable.below t.place j]? ≠ some j):TbOk (t.put j).1:=by
 refine ⟨EY ok.rise hj,?_⟩
 unfold SetTable.put
 dsimp only
 rw [ok.clean,xt]
 rfl
theorem E1 {t:SetTable} (ok:TbOk t) {h:Int} {j:Nat} {b:Bool} (e:t.freeSlot h=some (j,b)):t.place[SetTable.below t.place j]? ≠ some j:=by
 unfold SetTable.freeSlot at e
 cases q:t.probe (λ_=>h+1) h (t.probeStart h) with
 | none=>rw [q] at e;cases e
 | some m =>
  have f:=xu ok _ _ rfl m q
  rw [q] at e
  cases m with
  | candidate _ _ _=>cases e
  | empty i d =>
   obtain ⟨rfl,f⟩:=f
   simp only [NY,Option.isSome_none,NP,Prod.mk.injEq] at e
   rw [<- e.1]
   exact f
theorem E2 {t:SetTable} (ok:TbOk t) {es:Array (Int×Value)} {h:Int} {x:Value}:TbOk (layNew t es h x).2.1/\(layNew t es h x).2.1.led=t.led:=by
 unfold layNew
 split
 ·rename_i j b e
  exact ⟨(ok.put (E1 ok e)).orStandIn,EZ⟩
 ·exact ⟨TbOk.standIn,rfl⟩
theorem E3 {mask finger moves:Nat} {led plain:Bool} {hs:Array Int} {t:SetTable} {o:Array Nat} (e:SetTable.laid mask finger moves led plain hs=some (t,o)):TbOk t/\t.led=led:=by
 unfold SetTable.laid at e
 cases q:SetTable.layClean mask hs with
 | none=>rw [q] at e;cases e
 | some ow =>
  rw [q] at e
  simp only [bind,Option.bind,pure,NP,Prod.mk.injEq] at e
  rw [<- e.1]
  refine ⟨⟨?_,rfl⟩,rfl⟩
  show Rise (List.toArray _).toList
  unfold Rise
  rw [List.map_filterMap]
  refine List.Pairwise.filterMap _ (λa b hab x hx y hy=>?_) (Od (n:=mask+1))
  have:∀ {a x:Nat},(Option.map (λx=>x.1) ((ow.getD a none).map λx=>(a,x)))=some x->a=x:=λ{a x} e=>by
   cases z:ow.getD a none with
   | none=>rw [z] at e;cases e
   | some v=>rw [z] at e;cases e;rfl
  rw [<- this hx,<- this hy]
  exact hab
theorem E4 {t:SetTable} {es:Array (Int×Value)} {n:Nat}:TbOk (relayAll t es n).2.1/\(relayAll t es n).2.1.led=t.led:=by
 unfold relayAll
 split
 ·rename_i t' o e
  dsimp only
  split
  ·exact E3 e
  ·exact ⟨TbOk.standIn,rfl⟩
 ·exact ⟨TbOk.standIn,rfl⟩
end L2
namespace L2
open PySem PySem.Spec PyProof.Rows
noncomputable abbrev cn (w:World):Bool:=w.params.followText "set-order"
noncomputable def EnI (e:Int×Value):Prop:=∃ k t,e=(hashInt k,.int k t)
noncomputable abbrev bg (e:Int×Value):Int:=numOf e.2
noncomputable def SetI (w:World) (h:Heap) (a:Addr) (ns:List Int):Prop:=∃ o es ep t,h.get? a=some o/\o.ExactSet/\o.data = .set es ep t/\(∀ e∈es.toList,EnI e)/\(es.toList.map bg).Perm ns/\es.size<scanBound/\t.fits es.size=true/\TbOk t/\t.led = !cn w
section
variable {P:Program} {w:World} {A:Around} {E:Value->Shared->Prop} {s:Shared} {a:Addr} {ns:List Int}
theorem EnI.elems {l:List (Int×Value)} (h:∀ e∈l,EnI e):ElemsOf (intKind P w) l:=λe he=>by
 obtain ⟨k,t,rfl⟩:=h e he
 exact ⟨⟨k,intKind_is _ _ _ _,rfl⟩,rfl⟩
theorem EnI.is_ {e:Int×Value} (h:EnI e) {k:Int} (q:(intKind P w).is k e.2=true):bg e=k:=by
 obtain ⟨k',t,rfl⟩:=h
 exact (intKind P w).inj _ _ _ (intKind_is _ _ _ _) q
theorem EnI.key {e:Int×Value} (h:EnI e):(intKind P w).is (bg e) e.2=true:=by
 obtain ⟨k',t,rfl⟩:=h
 exact intKind_is _ _ _ _
theorem SetI.keep {h h':Heap} (S:SetI w h a ns) (k:∀ o,h.get? a=some o->h'.get? a=some o):SetI w h' a ns:=by
 obtain ⟨o,es,ep,t,ho,r⟩:=S
 exact ⟨o,es,ep,t,k o ho,r⟩
theorem rW {h:Heap} {o:Obj} {es es':Array (Int×Value)} {ep:Nat} {t t':SetTable} (ho:h.get? a=some o) (hex:o.ExactSet) (hd:o.data = .set es ep t) (he:∀ e∈es'.toList,EnI e) (hp:(es'.toList.map bg).Perm ns) (hb:es'.size<scanBound) (hf:t'.fits es'.size=true) (ok:TbOk t') (hl:t'.led = !cn w) :
  (h.update a (Obj.putSet es' t')).get? a=some { o with data:=.set es' (ep+1) t' }/\SetI w (h.update a (Obj.putSet es' t')) a ns:=by
 have hg:(h.update a (Obj.putSet es' t')).get? a=some { o with data:=.set es' (ep+1) t' }:=by
  have:=Kv (Obj.putSet es' t') ho (by rw [putSet_of es' t' hd];rfl)
  rw [putSet_of es' t' hd] at this;exact this
 exact ⟨hg,_,es',ep+1,t',hg,hex,rfl,he,hp,hb,hf,ok,hl⟩
theorem xw {g:Bool->Sem Unit} (hg:∀ (b:Bool) (s₁:Shared) (Q':Unit->Shared->Prop),Q' () s₁->wpAny (model P w) A (g b) Q' E s₁)
  {o:Obj} {es:Array (Int×Value)} {ep:Nat} {t:SetTable} (ho:s.heap.get? a=some o) (hex:o.ExactSet) (hd:o.data = .set es ep t)
  {es1:Array (Int×Value)} {t2:SetTable} (he:∀ e∈es1.toList,EnI e) (hp:(es1.toList.map bg).Perm ns) (hb1:es1.size<scanBound) (hf2:t2.fits es1.size=true) (ok:TbOk t2) (hl:t2.led = !cn w) {wasDummy:Bool} {R:Option Bool->Shared->Prop}
  (h:∀ h',Heap.SameBut a s.heap h'->SetI w h' a ns->R (some true) { s with heap:=h' }) :
  wpAny (model P w) A (do
    storeSet a es1 t2
    if (!wasDummy && t2.tooFull)=true then do
      g (relayAll t2 es1 (SetTable.grown es1.size)).2.2
      storeSet a (relayAll t2 es1 (SetTable.grown es1.size)).1 (relayAll t2 es1 (SetTable.grown es1.size)).2.1
      pure (some true)
     else pure (some true)) R E s:=by
 refine Jz (NS ho hd ?_ (M1 hb1))
 obtain ⟨ho1,hS1⟩:=rW (w:=w) ho hex hd he hp hb1 hf2 ok hl
 have hsb1:=Kz s.heap a (Obj.putSet es1 t2)
 split
 ·have hpr:=relayAll_perm t2 es1 (SetTable.grown es1.size)
  have hfr:=relayAll_fits t2 es1 (SetTable.grown es1.size)
  obtain ⟨okr,lr⟩:=E4 (t:=t2) (es:=es1) (n:=SetTable.grown es1.size)
  generalize relayAll t2 es1 (SetTable.grown es1.size)=Rl at hpr hfr okr lr ⊢
  obtain ⟨es2,t3,gave2⟩:=Rl
  dsimp only at hpr hfr okr lr ⊢
  have hsz:es2.size=es1.size:=by rw [<- JQ,hpr.length_eq,JQ]
  have hb2:es2.size<scanBound:=by rw [hsz];exact hb1
  refine Jz (hg _ _ _ ?_)
  refine Jz (NS ho1 rfl ?_ (M1 hb2))
  obtain ⟨_,hS2⟩:=rW (w:=w) ho1 hex rfl (λe z=>he e (hpr.mem_iff.mp z)) ((hpr.map bg).trans hp) hb2 hfr okr (lr.trans hl)
  exact JB (h _ (hsb1.trans (Kz _ a _)) hS2)
 ·exact JB (h _ hsb1 hS1)
theorem xx {k:Int} {x:Value} {Q:Bool->Shared->Prop} (hx:∃ t,x = .int k t) (hS:SetI w s.heap a ns) (hroom:ns.length+1<scanBound)
  (h:∀ h',Heap.SameBut a s.heap h'->SetI w h' a (if k∈ns then ns else ns++[k])->Q (!decide (k∈ns)) { s with heap:=h' }) :
  wpAny (model P w) A (setAddHashed a x (hashInt k)) Q E s:=by
 obtain ⟨o,es,ep,t,ho,hex,hd,he,hp,hb,hf,ok,hl⟩:=id hS
 have hel:=EnI.elems (P:=P) (w:=w) he
 obtain ⟨tk,rfl⟩:=hx
 have hkey:(intKind P w).is k (.int k tk)=true:=intKind_is _ _ _ _
 have hsc:(Value.int k tk).scannable=true:=rfl
 have hn:es.size=ns.length:=by rw [<- hp.length_eq,JN,JQ]
 have hm:k∈ns ↔ ∃ e∈es.toList,(intKind P w).is k e.2=true:=by
  rw [<- hp.mem_iff,Me]
  exact ⟨λ⟨e,z,q⟩=>⟨e,z,q▸(he e z).key⟩,λ⟨e,z,q⟩=>⟨e,z,(he e z).is_ q⟩⟩
 unfold setAddHashed setAddHashedIn
 refine KD (Jz (Li ho hd hf ?_))
 dsimp only
 rw [byScan_of hsc hb hel]
 simp only [↓reduceIte]
 unfold setAddByScan
 refine Jz ?_
 refine Jz (Mw ?_)
 refine Jz (wpAny_setScan_of (knd:=intKind P w) (k:=k) hkey ho hd hf hel ?_)
 cases hr:List.findIdx? (λe=>(intKind P w).is k e.2) es.toList with
 | some j =>
  dsimp only
  obtain ⟨hj,hpj,_⟩:=List.findIdx?_eq_some_iff_getElem.mp hr
  have hk:k∈ns:=hm.mpr ⟨es.toList[j],M7 hj,hpj⟩
  refine JB (JB ?_)
  have:=h s.heap (MY a s.heap) (by rw [JG hk];exact hS)
  rw [KR hk] at this
  exact this
 | none =>
  dsimp only
  have hk : ¬k∈ns:=λz=>by
   obtain ⟨e,z,q⟩:=hm.mp z
   have:=List.findIdx?_eq_none_iff.mp hr e z
   rw [q] at this
   cases this
  rw [JF hk,Kh hk] at h
  have hgw:∀ (b:Bool) {s₁:Shared} {Q':Unit->Shared->Prop},Q' () s₁->wpAny (model P w) A (match b with | true=>rule "set.scan.the-table-gave-way" | false=>pure ()) Q' E s₁ :=
   λb s₁ Q' hq=>by cases b<;>first | exact JB hq | exact Mw hq
  have hperm:=layNew_perm t es (hashInt k) (.int k tk)
  have hfits:=layNew_fits t es (hashInt k) (.int k tk)
  obtain ⟨ok1,l1⟩:=E2 ok (es:=es) (h:=hashInt k) (x:=.int k tk)
  show wpAny (model P w) A _ _ E s
  change wpAny (model P w) A (match layNew t es (hashInt k) (.int k tk) with | (es,t,wasDummy,gave)=>_) _ E s
  generalize layNew t es (hashInt k) (.int k tk)=L at hperm hfits ok1 l1 ⊢
  obtain ⟨es1,t1,wasDummy,gave⟩:=L
  dsimp only at hperm hfits ok1 l1 ⊢
  rw [Lh] at hperm
  have he1:∀ e∈es1.toList,EnI e:=λe z=>by
   rcases JS.mp (hperm.mem_iff.mp z) with z | z
   ·exact he e z
   ·exact ⟨k,tk,JP.mp z⟩
  have hp1:(es1.toList.map bg).Perm (ns++[k]):=by
   refine (hperm.map bg).trans ?_
   rw [K5]
   exact hp.append (.refl _)
  have hb1':es1.size<scanBound:=by rw [<- JQ,hperm.length_eq,JJ,JQ,hn];exact hroom
  refine Jz (hgw _ ?_)
  split
  ·refine Jz ?_
   rw [hashByValue_scannable 8 hsc]
   refine JB ?_
   refine xw ?_ ho hex hd he1 hp1 hb1' ?_ ?_ ?_ ?_
   ·intro b s₁ Q' hq;cases b<;>first | exact JB hq | exact Mw hq
   ·exact hfits
   ·exact ok1
   ·exact l1.trans hl
   ·intro h' hsb hS';dsimp only;exact JB (h h' hsb hS')
  ·refine Jz (JB ?_)
   simp only [↓reduceIte]
   refine xw ?_ ho hex hd he1 hp1 hb1' hfits ok1 (l1.trans hl) ?_
   ·intro b s₁ Q' hq;cases b<;>first | exact JB hq | exact Mw hq
   ·intro h' hsb hS';dsimp only;exact JB (h h' hsb hS')
theorem E5 {Q:Value->Shared->Prop} (h:∀ o,SetI w (s.heap.push o) s.heap.objs.size []->Q (.ref s.heap.objs.size) { s with heap:=s.heap.push o }):wpAny (model P w) A (newSet (.type "set")) Q E s:=by
 unfold newSet setsByText
 refine Jz (Jz (Ld (JB ?_)))
 dsimp only
 simp only [newObj]
 exact Jz (wpAny_alloc (JB (h _ ⟨_,#[],0,_,JL _ rfl,⟨rfl,rfl,rfl⟩,rfl,λe he=>by simp at he,.refl _,by decide,by rfl,.fresh,rfl⟩)))
end
end L2
namespace L2
open PySem PySem.Spec PyProof.Rows
noncomputable abbrev cY (w:World):Obj:={ cls:=.type "set",dict:=none,data:=.set #[] 0 (.fresh 0 0 (!cn w)) }
section
variable {P:Program} {w:World} {A:Around} {E:Value->Shared->Prop} {s:Shared}
theorem E6 {h:Heap} {a:Addr} (e:h.get? a=some (cY w)):SetI w h a []:=⟨_,#[],0,_,e,⟨rfl,rfl,rfl⟩,rfl,λe he=>by simp at he,.refl _,by decide,by rfl,.fresh,rfl⟩
theorem E7 {R:Result->Shared->Prop} {I:Addr} {fp wr:List Addr} {G:Array GenState->Array GenState->Prop} {n:Nat} {Pr:Nat->Value->Prop} {St:Nat->Shared->Prop} (W:WalksS P w A.in1 I fp wr G n Pr St) (S:Addr) (hSf:S∉fp) {ns:List Int} (hn:ns.length=n) (nd:ns.Nodup)
  (hval:∀ i v,Pr i v->∃ k t,ns[i]? = some k/\v = .int k t) (hb:n+1<scanBound):∀ (k i:Nat) (s:Shared),n-i=k->i<=n->St i s->SetI w s.heap S (ns.take i) ->
   (∀ s',Moved (S::wr) G s s'->SetI w s'.heap S ns->R (.ok (.ret .none)) s')->codeAny (model P w) A (.builtin "set.update.loop" ⟨[.ref S,.ref I],[]⟩) R s:=by
 have hSw:S∉wr:=λh=>hSf (W.sub _ h)
 have hsub:∀ b∈wr,b∈S::wr:=λb hb=>Km _ hb
 intro k
 induction k with
 | zero =>
  intro i s hk hi hst hS hR
  have hin:i=n:=by omega
  subst hin
  refine Mm F.entry_set_update_loop ?_
  rw [LN F.plain_set_update_loop _]
  show wpAny _ A.in1 (pyNext (.ref I) >>= _) _ _ s
  refine Jz (W.done s _ _ hst λs' hm=>?_)
  show wpAny _ A.in1 (ret Value.none) _ _ s'
  refine JB (hR s' (hm.mono hsub) ?_)
  rw [Kg (by omega)] at hS
  exact hS.keep λo ho=>hm.heap S _ hSw ho
 | succ k ih =>
  intro i s hk hi hst hS hR
  have hlt:i<n:=by omega
  refine Mm F.entry_set_update_loop ?_
  rw [LN F.plain_set_update_loop _]
  show wpAny _ A.in1 (pyNext (.ref I) >>= _) _ _ s
  refine Jz (W.item i s _ _ hlt hst λv s' hP hst' hm=>?_)
  obtain ⟨x,t,hx,rfl⟩:=hval i v hP
  have hS':SetI w s'.heap S (ns.take i):=hS.keep λo ho=>hm.heap S _ hSw ho
  show wpAny _ A.in1 (holding [Value.int x t] (setAdd S (.int x t)) >>= _) _ _ s'
  refine Jz (KD ?_)
  unfold setAdd
  refine KD ?_
  refine Jz ((intKind P w).pyHash (k:=x) (intKind_is _ _ _ _) ?_)
  have hroom:(ns.take i).length+1<scanBound:=by rw [Kr];omega
  have hnm : ¬x∈ns.take i:=λz=>by
   obtain ⟨j,hj,e⟩:=Lk z
   rw [Kr] at hj
   rw [Pf] at e
   obtain ⟨hi',e'⟩:=JA.mp hx
   have:=(List.getElem_inj nd).mp (e.trans e'.symm)
   omega
  refine xx (s:={ s' with toks:=s'.toks+1 }) ⟨t,rfl⟩ hS' hroom λh' hsb hS2=>?_
  rw [JF hnm] at hS2
  have hSi:SetI w h' S (ns.take (i+1)):=by rw [List.take_add_one,hx];exact hS2
  refine JB ⟨Nb F.plain_set_update_loop _,ih (i+1) _ (by omega) hlt (W.frame _ s' _ _ hst' (MP _) λb hb o e=>?_) hSi λs'' hm'' hS'' => ?_⟩
  ·rw [hsb.2 b (λh:b=S=>hSf (by rw [<- h];exact hb))];exact e
  ·refine hR s'' (Moved.trans W.gtrans ((hm.mono hsub).then_heap (MP _) λb o hb e=>?_) hm'') hS''
   rw [hsb.2 b (λh:b=S=>hb (by rw [h];exact KJ))];exact e
theorem E8 {Q₁:Value->Shared->Prop} (a:Value) (h:Q₁ (.ref s.heap.objs.size) { s with heap:=s.heap.push (cY w) }):codeAny (model P w) A (.call (.builtin "set.__new__") ⟨[.type "set",a],[]⟩) (wants Q₁ E) s:=by
 refine codeAny_of_tree ?_
 show wpAny _ A.in1 (do checkBuiltinCall "set.__new__" ⟨[.type "set",a],[]⟩;again (.builtin "set.__new__" ⟨[.type "set",a],[]⟩)) _ _ s
 refine Jz (wpAny_of_eq (F.newCall_set_1 a) (JB ⟨Nb F.plain_set_new _,Mm F.entry_set_new ?_⟩))
 rw [LN F.plain_set_new _]
 unfold Builtin.«set.__new__» Builtin.Frozenset.newClass
 have hsub:=Pt
 obtain ⟨hp,g,d,tk,os⟩:=s
 dsimp only
 wp_walk
 refine Ld (JB ?_)
 dsimp only
 simp only [newObj]
 refine Jz (wpAny_alloc (JB ?_))
 exact JB h
theorem xy {l:Addr} {items:Array Value} {ns:List Int} {Q:Value->Shared->Prop} (hh:A.handled=none) (hl:s.heap.IsList l items) (hi:IntsAre items.toList ns) (nd:ns.Nodup) (hb:items.size+1<scanBound)
  (h:∀ (h':Heap) (tk:Nat),SetI w h' s.heap.objs.size ns->(∀ b o,s.heap.get? b=some o->h'.get? b=some o)->Q (.ref s.heap.objs.size) { s with heap:=h',toks:=tk }):wpAny (model P w) A (call (.type "set") [.ref l]) Q E s:=by
 obtain ⟨c,tl,hmro⟩:=F.called_set.mro
 have hmade:=F.called_set.made
 have hsub:=F.called_set.sub
 refine Pw (codeAny_of_tree ?_)
 show wpAny _ _ (callAny (.type "set") _) _ _ _
 refine JB ⟨Code.quiet_builtin _ (by decide +kernel),Mm F.entry_type_call ?_⟩
 rw [Around.under_plain (weight_type_call_type "set" [.ref l] []) rfl]
 have h1:=F.called_set.notType
 have h2:=F.called_set.canCreate
 have hct:=F.typeCall_set_1 (.ref l)
 repeat (any_goals (first | assumption | wp_step))
 refine MB (E8 (.ref l) (E:=E) (Q₁:=λobj s₁=>obj = .ref s.heap.objs.size/\s₁={ s with heap:=s.heap.push (cY w) }) ⟨rfl,rfl⟩) λr s₁ hr=>?_
 cases r with
 | error e=>exact hr
 | ok fl =>
  cases fl with
  | ret obj =>
   obtain ⟨rfl,rfl⟩:=hr
   have hS:(s.heap.push (cY w)).get? s.heap.objs.size=some (cY w):=JL _ rfl
   have hT:Shared.TypeIs { s with heap:=s.heap.push (cY w) } (.ref s.heap.objs.size) "set" := ⟨_,hS,rfl⟩
   have hli:=F.called_set.init.lookup
   have hbi:=F.called_set.init.bind (.ref s.heap.objs.size)
   repeat (any_goals (first | assumption | wp_step))
   refine MB (codeAny_call_builtin (R:=wants (λr s₂=>r = .none/\∃ h' tk,s₂={ s with heap:=h',toks:=tk }/\SetI w h' s.heap.objs.size ns/\(∀ b o,s.heap.get? b=some o->h'.get? b=some o)) E) F.called_set.init.plain F.entry_set_init (check_set_init_1 hT ?_)) λr₂ s₂ hr₂=>?_
   ·obtain ⟨ol,hol,hcl,nl,hdl⟩:=hl
    obtain ⟨ocls,odict,odata,oslots⟩:=ol
    simp only at hcl hdl
    subst hcl;subst hdl
    have hol':(s.heap.push (cY w)).get? l=some { cls:=.type "list",dict:=odict,data:=.seq items nl,slots:=oslots }:=JD _ hol
    have hsls:=F.sub_list_set
    have hslf:=F.sub_list_frozenset
    have hne:(Value.type "list" == Value.type "dict")=false:=by decide
    have hl1:(s.heap.push (cY w)).IsList l items:=⟨_,hol',rfl,nl,rfl⟩
    unfold Builtin.«set.__init__» noKeywords Builtin.Frozenset.updateFrom
    generalize hPI:pyIter=PI
    wp_walk
    subst hPI
    refine M0 hl1 ?_
    refine Jz (wpAny_runValue ?_)
    have hlS:l<s.heap.objs.size:=JR hol
    have hh3:A.in1.in1.in1.handled=none:=by simp [hh]
    have hneI:l≠(s.heap.push (cY w)).objs.size:=by
     rw [LX];exact Ka (Lr hlS)
    have hSf:s.heap.objs.size∉[(s.heap.push (cY w)).objs.size,l]:=by
     rw [LX];simp only [J4,JP,K8,Nh,not_or]
     exact ⟨Ka (Mz _),O8 hlS⟩
    have ln:ns.length=items.size:=by rw [<- IntsAre.length hi,JQ]
    have hval:∀ (i:Nat) (v:Value),items[i]? = some v->∃ k t,ns[i]? = some k/\v = .int k t:=λi v hv=>by
     obtain ⟨t,e⟩:=IntsAre.int_at hi i v (by rw [Kd];exact hv)
     have hi':i<ns.length:=by rw [ln];exact (Le.mp hv).1
     exact ⟨ns[i],t,JU hi',by rw [e];simp [List.getD,hi']⟩
    refine E7 ((Walks.list hh3 _ l hneI items).toS) s.heap.objs.size hSf ln nd hval hb (items.size-0) 0 _ (by omega) (Ki _)
     ⟨⟨_,JL _ rfl,rfl,rfl⟩,(hl1.push _)⟩ ?hS0 ?hR
    case hS0=>exact E6 (JD _ hS)
    case hR =>
     intro s' hm hS'
     obtain ⟨h',g',d',tk',os'⟩:=s'
     have eg:g'=s.gens:=hm.gens
     have ed:d'=s.drawn:=hm.drawn
     have eo:os'=s.os:=hm.os
     subst eg;subst ed;subst eo
     show wpAny _ _ _ _ _ _
     refine JB ?_
     show wpAny _ _ (ret Value.none) _ _ _
     refine JB ⟨rfl,h',tk',rfl,hS',λb o e=>?_⟩
     have hb:=JR e
     have hb1:b≠s.heap.objs.size:=Ka hb
     have hb2:b≠(s.heap.push (cY w)).objs.size:=by
      rw [LX];exact Ka (Lr hb)
     exact hm.heap b o (by simp only [J4,JP,K8,Nh,not_or];exact ⟨hb1,hb2⟩) (JD _ (JD _ e))
   ·cases r₂ with
    | error e=>exact hr₂
    | ok fl₂ =>
     cases fl₂ with
     | ret r =>
      obtain ⟨rfl,h',tk,rfl,hS',hk'⟩:=hr₂
      repeat (any_goals (first | assumption | wp_step))
      exact h _ _ hS' hk'
     | _=>exact hr₂.elim
  | _=>exact hr.elim
end
end L2
namespace L2
open PySem PySem.Spec PyProof.Rows
theorem xA {α:Type} {l:List α} {i:Nat} {x:α} (hi:i<l.length) (e:l[i]=x):(x::l.eraseIdx i).Perm l:=by
 rw [List.eraseIdx_eq_take_drop_succ]
 refine (List.perm_middle (l₁:=l.take i)).symm.trans ?_
 have:=Ke i l
 rw [KI hi,e] at this
 rw [this]
theorem xB {α:Type} (next:Nat->Nat):∀ (fuel k:Nat) (left:List α) (out:Array α),left.length<=fuel->(pickOrder.go next fuel k left out).toList.Perm (out.toList++left)
 | 0,k,left,out,h=>by
  have:left=[]:=Lu.mp (Nat.le_zero.mp h)
  subst this
  unfold pickOrder.go
  rw [Ln]
 | fuel+1,k,left,out,h=>by
  unfold pickOrder.go
  cases e:left[next k % left.length]? with
  | none =>
   have:left=[]:=by
    cases left with
    | nil=>rfl
    | cons a l =>
     have hlt:next k % (a::l).length<(a::l).length:=Nat.mod_lt _ (Nat.succ_pos _)
     rw [JU hlt] at e
     cases e
   subst this
   rw [Ln]
  | some x =>
   dsimp only
   obtain ⟨hi,ex⟩:=JA.mp e
   refine (xB next fuel (k+1) _ _ (by rw [NC hi];omega)).trans ?_
   rw [Lh,JM]
   refine K4 _ ?_
   show (x::left.eraseIdx _).Perm left
   exact xA hi ex
theorem xC {α:Type} (next:Nat->Nat) (xs:Array α):(pickOrder next xs).toList.Perm xs.toList:=by
 have:=xB next xs.size 0 xs.toList #[] (by simp)
 unfold pickOrder
 simpa using this
section
variable {P:Program} {w:World} {A:Around} {E:Value->Shared->Prop} {s:Shared} {a:Addr}
theorem SetI.perm {h:Heap} {ns ms:List Int} (S:SetI w h a ns) (p:ns.Perm ms):SetI w h a ms:=by
 obtain ⟨o,es,ep,t,h1,h2,h3,h4,h5,r⟩:=S
 exact ⟨o,es,ep,t,h1,h2,h3,h4,h5.trans p,r⟩
theorem SetI.setOf {h:Heap} {ns:List Int} (S:SetI w h a ns):h.SetOf (intKind P w) a (λk=>decide (k∈ns)) ns.length:=by
 obtain ⟨o,es,ep,t,ho,hex,hd,he,hp,hb,hf,ok,hl⟩:=S
 refine ⟨o,es,ep,t,ho,hex,hd,EnI.elems he,λk=>?_,hb,hf,by rw [<- hp.length_eq,JN,JQ]⟩
 rw [Kn,<- hp.mem_iff,Me]
 exact ⟨λ⟨e,z,q⟩=>⟨e,z,q▸(he e z).key⟩,λ⟨e,z,q⟩=>⟨e,z,(he e z).is_ q⟩⟩
theorem SetI.typeIs {ns:List Int} (S:SetI w s.heap a ns):s.TypeIs (.ref a) "set" := by
 obtain ⟨o,es,ep,t,ho,hex,r⟩:=S
 exact ⟨o,ho,hex.1⟩
theorem E9 {o:Obj} {es:Array (Int×Value)} {ep:Nat} {t:SetTable} {Q:Array (Int×Value)->Shared->Prop} (ho:s.heap.get? a=some o) (hd:o.data = .set es ep t) (hf:t.fits es.size=true) (hl:t.led = !cn w) (hc:(cn w || t.led && t.plain || decide (es.size<=1))=true)
  (h:∀ es':Array (Int×Value),es'.toList.Perm es.toList->Q es' s):wpAny (model P w) A (setWalk a) Q E s:=by
 unfold setWalk setsByText
 refine Jz (Li ho hd hf ?_)
 dsimp only
 refine Jz (Jz (Ld (JB ?_)))
 show wpAny _ _ (if cn w=true then _ else _) _ _ _
 by_cases hb:cn w=true
 ·rw [JG hb]
  exact Jz (Ld (JB (h _ (xC _ _))))
 ·rw [JF hb]
  have hb':cn w=false:=by simpa using hb
  rw [hb'] at hl hc
  have hdr:(!t.plain && decide (es.size > 1))=false:=by
   rw [hl] at hc
   cases hp:t.plain with
   | true=>rfl
   | false=>rw [hp] at hc;simp at hc;simp;omega
  change wpAny _ _ (if (!t.plain && decide (es.size > 1))=true then _ else _) _ _ _
  rw [hdr,JF JT]
  refine Jz ?_
  change wpAny _ _ (if (!t.led && decide (es.size > 1))=true then _ else _) _ _ _
  rw [hl,JF (by simp)]
  exact JB (JB (h _ (.refl _)))
theorem Fc {sets:List Addr} {Q:Bool->Shared->Prop} (hs:∀ b∈sets,∃ ns,SetI w s.heap b ns) (h:Q true s):wpAny (model P w) A (setsQuiet sets) Q E s:=by
 unfold setsQuiet
 refine Jz (wpAny_forIn_list _ (λrest st s' => s'=s/\st=(none,())/\∀ b∈rest,∃ ns,SetI w s.heap b ns) _ (λx rest b s' hI=>?_) (λb s' hI=>?_) _ _ ⟨rfl,rfl,hs⟩)
 ·obtain ⟨rfl,rfl,hr⟩:=hI
  obtain ⟨ns,o,es,ep,t,ho,hex,hd,he,hp,hb,hf,ok,hl⟩:=hr x (.head _)
  refine Jz (MG ho hd hf (Jz (Ku (O5 _ (λrest st s'' => s''=s'/\st=(none,())/\∀ e∈rest,EnI e) (λst s'' => s''=s'/\st=(none,())) ?_ (λb s'' hI=>⟨hI.1,hI.2.1⟩) _ _ ⟨rfl,rfl,he⟩) ?_ λ_ _ z=>z)))
  ·rintro e rest b s'' ⟨rfl,rfl,hr'⟩
   obtain ⟨k,tk,rfl⟩:=hr' e (.head _)
   exact JB ⟨rfl,rfl,λe z=>hr' e (.tail _ z)⟩
  ·rintro st s'' ⟨rfl,rfl⟩
   exact JB ⟨rfl,rfl,λb z=>hr b (.tail _ z)⟩
 ·obtain ⟨rfl,rfl,_⟩:=hI
  exact JB h
end
end L2
namespace L2
open PySem PySem.Spec PyProof.Rows
section
variable {P:Program} {w:World} {A:Around} {E:Value->Shared->Prop} {s:Shared} {a b r:Addr}
theorem Fd {o:Obj} {es:Array (Int×Value)} {ep:Nat} {t:SetTable} {Q:Array (Int×Value)->Shared->Prop} {xs ys zs:List Int} (ho:s.heap.get? a=some o) (hd:o.data = .set es ep t) (hf:t.fits es.size=true) (hl:t.led = !cn w)
  (Sa:SetI w s.heap a xs) (Sb:SetI w s.heap b ys) (Sr:SetI w s.heap r zs)
  (h:∀ (es':Array (Int×Value)) h',es'.toList.Perm es.toList->Heap.SameBut r s.heap h'->SetI w h' r zs->Q es' { s with heap:=h' }):wpAny (model P w) A (setWalkUnseen a [b,r] (some r)) Q E s:=by
 unfold setWalkUnseen setsByText
 refine Jz (Li ho hd hf ?_)
 dsimp only
 refine Jz (Jz (Ld (JB ?_)))
 show wpAny _ _ (if (cn w || t.led && t.plain || decide (es.size<=1))=true then _ else _) _ _ _
 by_cases hc:(cn w || t.led && t.plain || decide (es.size<=1))=true
 ·rw [JG hc]
  exact E9 ho hd hf hl hc λes' p=>h es' s.heap p (MY r s.heap) Sr
 ·rw [JF hc]
  refine Jz (Fc (λc hc=>?_) ?_)
  ·simp only [J4,K8,Nh] at hc
   rcases hc with rfl | rfl | rfl
   ·exact ⟨_,Sa⟩
   ·exact ⟨_,Sb⟩
   ·exact ⟨_,Sr⟩
  rw [JF (by simp)]
  refine Jz (Mw ?_)
  try dsimp only
  obtain ⟨o',es',ep',t',ho',hex',hd',he',hp',hb',hf',ok',hl'⟩:=id Sr
  refine Jz (Li ho' hd' hf' ?_)
  dsimp only
  split
  ·refine Jz (NS ho' hd' ?_ (M1 hb'))
   refine JB (h es _ (.refl _) (Kz _ _ _) ?_)
   exact (rW (w:=w) (t' := { t' with led:=t'.led && t.led,plain:=t'.plain && t.plain }) ho' hex' hd' he' hp' hb' hf' ⟨ok'.rise,ok'.clean⟩ (show (t'.led && t.led)=_ by rw [hl,hl',Bool.and_self])).2
  ·exact JB (h es s.heap (.refl _) (MY r s.heap) Sr)
theorem xD {xs:List Int} {l:List (Int×Value)} (p:(l.map bg).Perm xs) (nd:xs.Nodup):(l.map bg).Nodup:=p.nodup_iff.mpr nd
theorem Fe {id:String} {ow:Obj} {ew:Array (Int×Value)} {pw:Nat} {tw:SetTable} {ys:List Int} {es:Array (Int×Value)} {Q:PUnit->Shared->Prop} (how:s.heap.get? a=some ow) (hdw:ow.data = .set ew pw tw) (hfw:tw.fits ew.size=true)
  (nar:a≠r) (nbr:b≠r) (he:∀ e∈es.toList,EnI e) (nd:(es.toList.map bg).Nodup) (hz:es.size+1<scanBound) (Sb:SetI w s.heap b ys) (Sr:SetI w s.heap r [])
  (h:∀ h',Heap.SameBut r s.heap h'->SetI w h' r ((es.toList.map bg).filter λk=>decide (k∈ys))->Q ⟨⟩ { s with heap:=h' }) :
  wpAny (model P w) A (forIn es PUnit.unit λx __s=>match x with
   | (h,x)=>do
    holding [x] do
      let __do_lift <- setFind b x h
      if __do_lift.isSome=true then do
        let _ <- setAddHashed r x h
        pure ()
       else pure ()
    Builtin.Frozenset.unchanged id a pw
    pure (ForInStep.yield PUnit.unit)) Q E s:=by
 refine O5 _ (λrest _ s' => ∃ dn h',es.toList=dn++rest/\s'={ s with heap:=h' }/\Heap.SameBut r s.heap h'/\SetI w h' r ((dn.map bg).filter λk=>decide (k∈ys))) Q ?_ ?_ _ _ ⟨[],s.heap,rfl,rfl,MY r s.heap,Sr⟩
 ·rintro e rest _ s' ⟨dn,h',el,rfl,sb,S⟩
  obtain ⟨k,tk,rfl⟩:=he e (by rw [el];simp)
  dsimp only
  have Sb':SetI w h' b ys:=Sb.keep λo q=>(sb.2 b nbr).trans q
  have how':h'.get? a=some ow:=(sb.2 a nar).trans how
  have hn : ¬k∈dn.map bg:=λz=>by
   rw [el,K5,LF] at nd
   exact nd.2.2 k z k (by rw [J8];exact .head _) rfl
  have hlen:((dn.map bg).filter λk=>decide (k∈ys)).length<=es.size:=by
   refine JI (M5 _ _) ?_
   rw [JN,<- JQ,el,JJ]
   omega
  have fin:∀ (h2:Heap) (R:ForInStep PUnit->Shared->Prop),h2.get? a=some ow->R (.yield ⟨⟩) { s with heap:=h2 }->wpAny (model P w) A (do
    Builtin.Frozenset.unchanged id a pw
    pure (ForInStep.yield PUnit.unit)) R E { s with heap:=h2 }:=λh2 R ho2 hR=>by
   unfold Builtin.Frozenset.unchanged
   refine Jz (Jz (M3 (a:=a) (s:={ s with heap:=h2 }) ho2 hdw hfw ?_))
   rw [JF (by simp)]
   exact JB (JB hR)
  have el':es.toList=(dn++[(hashInt k,Value.int k tk)])++rest:=by rw [el];simp
  refine Jz (KD (Jz (wpAny_setFind_of (knd:=intKind P w) (k:=k) (s:={ s with heap:=h' }) (intKind_is _ _ _ _) rfl Sb'.setOf λq hq=>?_)))
  by_cases hk:k∈ys
  ·rw [KR hk] at hq
   rw [JG hq]
   refine Jz (xx (s:={ s with heap:=h' }) ⟨tk,rfl⟩ S (by omega) λh2 sb2 S2=>JB (fin h2 _ ((sb2.2 a nar).trans how') ⟨_,h2,el',rfl,sb.trans sb2,?_⟩))
   rw [JF (λz=>hn (Lm.mp z).1)] at S2
   rw [K5,O1]
   rw [show [(hashInt k,Value.int k tk)].map bg=[k] from rfl,show [k].filter (λk=>decide (k∈ys))=[k] by simp [hk]]
   exact S2
  ·rw [Kh hk] at hq
   rw [JF (by rw [hq];exact JT)]
   refine JB (fin h' _ how' ⟨_,h',el',rfl,sb,?_⟩)
   rw [K5,O1]
   rw [show [(hashInt k,Value.int k tk)].map bg=[k] from rfl,show [k].filter (λk=>decide (k∈ys))=[] by simp [hk],Ln]
   exact S
 ·rintro _ s' ⟨dn,h',el,rfl,sb,S⟩
  rw [Ln] at el
  rw [<- el] at S
  exact h h' sb S
end
end L2
namespace L2
open PySem PySem.Spec PyProof.Rows
theorem Ff:entryFor table "set.__and__" = some Builtin.«frozenset.__and__» :=
 OI (id' := "frozenset.__and__") (by kernel_rfl) rfl (by decide +kernel) (by kernel_rfl)
section
variable {P:Program} {w:World} {A:Around} {E:Value->Shared->Prop} {s:Shared} {a b:Addr}
theorem rX {ns:List Int} {Q:Nat->Shared->Prop} (S:SetI w s.heap a ns) (h:Q ns.length s):wpAny (model P w) A (Builtin.Frozenset.sizeOf a) Q E s:=by
 obtain ⟨o,es,ep,t,ho,hex,hd,he,hp,hb,hf,ok,hl⟩:=S
 have hn:es.size=ns.length:=by rw [<- hp.length_eq,JN,JQ]
 unfold Builtin.Frozenset.sizeOf
 exact Jz (MG ho hd hf (JB (hn▸h)))
theorem rY {ns:List Int} {Q:Bool->Shared->Prop} (S:SetI w s.heap a ns) (h:Q true s):wpAny (model P w) A (Builtin.Frozenset.isAnySet (.ref a)) Q E s:=by
 unfold Builtin.Frozenset.isAnySet
 show wpAny _ _ (isInstance (.ref a) (.type "set") >>= _) _ _ _
 exact Jz (MC S.typeIs Pt (JB h))
theorem xE {id:String} {r:Addr} {xs ys:List Int} {Q:Unit->Shared->Prop} (Sa:SetI w s.heap a xs) (Sb:SetI w s.heap b ys) (Sr:SetI w s.heap r []) (nar:a≠r) (nbr:b≠r) (nx:xs.Nodup) (hz:xs.length+1<scanBound)
  (h:∀ h' zs,Heap.SameBut r s.heap h'->SetI w h' r zs->zs.Nodup->(∀ k,k∈zs ↔ k∈xs/\k∈ys)->Q ⟨⟩ { s with heap:=h' }) :
  wpAny (model P w) A (do
   let was <- setEpoch a
   let __do_lift <- setWalkUnseen a [b,r] (some r)
   forIn __do_lift PUnit.unit λx __s=>match x with
    | (h,x)=>do
     holding [x] do
       let __do_lift <- setFind b x h
       if __do_lift.isSome=true then do
         let _ <- setAddHashed r x h
         pure ()
        else pure ()
     Builtin.Frozenset.unchanged id a was
     pure (ForInStep.yield PUnit.unit)
   pure ()) Q E s:=by
 obtain ⟨o,es,ep,t,ho,hex,hd,he,hp,hb,hf,ok,hl⟩:=_root_.id Sa
 have hn:es.size=xs.length:=by rw [<- hp.length_eq,JN,JQ]
 refine Jz (M3 ho hd hf (Jz (Fd ho hd hf hl Sa Sb Sr λes' h1 p sb S1=>?_)))
 have p2:(es'.toList.map bg).Perm xs:=(p.map bg).trans hp
 have hz':es'.size+1<scanBound:=by rw [<- JQ,p.length_eq,JQ,hn];exact hz
 refine Jz (Fe (s:={ s with heap:=h1 }) ((sb.2 a nar).trans ho) hd hf nar nbr (λe z=>he e (p.mem_iff.mp z)) (xD p2 nx) hz' (Sb.keep λo q=>(sb.2 b nbr).trans q) S1 λh' sb2 S2=>JB ?_)
 refine h h' _ (sb.trans sb2) S2 ((xD p2 nx).filter _) λk=>?_
 rw [Lm,Kn,p2.mem_iff]
theorem Fg {xs ys:List Int} {Q:Value->Shared->Prop} (Sa:SetI w s.heap a xs) (Sb:SetI w s.heap b ys) (nab:a≠b) (nx:xs.Nodup) (ny:ys.Nodup) (hx:xs.length+1<scanBound) (hy:ys.length+1<scanBound)
  (h:∀ h' zs,SetI w h' s.heap.objs.size zs->zs.Nodup->(∀ k,k∈zs ↔ k∈xs/\k∈ys)->(∀ c o,s.heap.get? c=some o->h'.get? c=some o)->Q (.ref s.heap.objs.size) { s with heap:=h' }) :
  wpAny (model P w) A (binaryOp .BitAnd (.ref a) (.ref b)) Q E s:=by
 refine wpAny_binaryOp_same (T := "set") (id := "set.__and__") Sa.typeIs Sb.typeIs F.fills_set_and F.slot_set_and (KU F.slot_set_and Sa.typeIs Ff ?_ (F.args_set_and_2 _ _))
 change wpAny (model P w) A.in1 (do
  let (self,other) <- Builtin.Frozenset.slot1 "__and__" ⟨[.ref a,.ref b],[]⟩
  let (l,r):=if false=true then (other,self) else (self,other)
  if !(<- Builtin.Frozenset.isAnySet l <&&> Builtin.Frozenset.isAnySet r) then rule s!"frozenset.{"__and__"}.declined";return <- ret .notImplemented
  ret (<- Builtin.Frozenset.intersection s!"frozenset.{"__and__"}" (<- Builtin.Frozenset.addrOf l) r)) _ _ _
 unfold Builtin.Frozenset.slot1 slotArgs
 simp only [M9,NV,K7,↓reduceIte,O6,Kj,KP,LQ]
 refine Jz (JB ?_)
 refine Jz (JB ?_)
 dsimp only
 show wpAny _ _ ((Builtin.Frozenset.isAnySet (.ref a) >>= _) >>= _) _ _ _
 refine Jz (Jz (rY Sa (rY Sb ?_)))
 rw [JF (by simp)]
 unfold Builtin.Frozenset.addrOf
 refine Jz (JB (Jz ?_))
 unfold Builtin.Frozenset.intersection
 have ne:(Value.ref b == Value.ref a)=false:=by
  first
  | (rw [beq_eq_false_iff_ne];intro z;injection z with z;exact nab z.symm)
  | simp [nab.symm]
 rw [ne,JF JT]
 unfold Builtin.Frozenset.baseOf
 refine Jz (Jz (MC Sa.typeIs Pt (JB ?_)))
 rw [JG rfl]
 refine Jz (E5 λob Sr=>?_)
 have kp:∀ c o,s.heap.get? c=some o->(s.heap.push ob).get? c=some o:=λc o q=>JD _ q
 have Sa1:SetI w (s.heap.push ob) a xs:=Sa.keep (kp a)
 have Sb1:SetI w (s.heap.push ob) b ys:=Sb.keep (kp b)
 have lt:∀ {c:Addr} {l:List Int},SetI w s.heap c l->c≠s.heap.objs.size:=λS=>by
  obtain ⟨o,es,ep,t,ho,r⟩:=S
  exact Ka (JR ho)
 have fin:∀ h' zs,Heap.SameBut s.heap.objs.size (s.heap.push ob) h'->SetI w h' s.heap.objs.size zs->zs.Nodup->(∀ k,k∈zs ↔ k∈xs/\k∈ys)->Q (.ref s.heap.objs.size) { s with heap:=h' }:=λh' zs sb S nz hm =>
  h h' zs S nz hm λc o q=>(sb.2 c (Ka (JR q))).trans (kp c o q)
 unfold Builtin.Frozenset.addrOf
 refine Jz (JB (Jz (KD ?_)))
 refine Jz (rY (s:={ s with heap:=s.heap.push ob }) Sb1 ?_)
 rw [JG rfl]
 refine Jz (JB (Jz (rX (s:={ s with heap:=s.heap.push ob }) Sb1 (Jz (rX (s:={ s with heap:=s.heap.push ob }) Sa1 ?_)))))
 by_cases hs:ys.length > xs.length
 ·rw [JG hs]
  dsimp only
  refine Ku (xE (s:={ s with heap:=s.heap.push ob }) Sa1 Sb1 Sr (lt Sa) (lt Sb) nx hx (Q:=λ_ s' => ∃ h' zs,s'={ s with heap:=h' }/\Heap.SameBut s.heap.objs.size (s.heap.push ob) h'/\SetI w h' s.heap.objs.size zs/\zs.Nodup/\∀ k,k∈zs ↔ k∈xs/\k∈ys) λh' zs sb S nz hm=>⟨h',zs,rfl,sb,S,nz,hm⟩) ?_ λ_ _ z=>z
  rintro _ s' ⟨h',zs,rfl,sb,S,nz,hm⟩
  exact JB (JB ⟨_,rfl,(by intro z;cases z),fin h' zs sb S nz hm⟩)
 ·rw [JF hs]
  dsimp only
  refine Ku (xE (s:={ s with heap:=s.heap.push ob }) Sb1 Sa1 Sr (lt Sb) (lt Sa) ny hy (Q:=λ_ s' => ∃ h' zs,s'={ s with heap:=h' }/\Heap.SameBut s.heap.objs.size (s.heap.push ob) h'/\SetI w h' s.heap.objs.size zs/\zs.Nodup/\∀ k,k∈zs ↔ k∈ys/\k∈xs) λh' zs sb S nz hm=>⟨h',zs,rfl,sb,S,nz,hm⟩) ?_ λ_ _ z=>z
  rintro _ s' ⟨h',zs,rfl,sb,S,nz,hm⟩
  exact JB (JB ⟨_,rfl,(by intro z;cases z),fin h' zs sb S nz λk=>(hm k).trans And.comm⟩)
end
end L2
namespace L2
open PySem PySem.Spec PyProof.Rows
theorem xF:Manifest.owners.lookup (String.ofList ['r','o','t','a','r','e','t','i','_','t','e','s'].reverse)=some Manifest.sig_set_iterator:=by kernel_rfl
theorem zax:Slot "set_iterator" "__next__" "set_iterator.__next__" :=
 .of (owner := "set_iterator") (n := "__next__") (by rw [typeLookup_type,Oy];kernel_rfl) (by decide +kernel) (by decide +kernel) (by decide +kernel)
  (by first | exact .inl (by decide +kernel) | exact .inr (by decide +kernel)) (by rw [OJ];kernel_rfl)
theorem xG:entryFor table "set_iterator.__next__" = some Builtin.«set_iterator.__next__» := entryFor_of_tree (by kernel_rfl)
theorem xH (a:Value):argsOk "set_iterator.__next__" ⟨[a],[]⟩:=by
 unfold argsOk;rw [signature?_of (id := "set_iterator.__next__") (n:=['_','_','t','x','e','n','_','_']) (o:=['r','o','t','a','r','e','t','i','_','t','e','s']) (by kernel_rfl) xF];kernel_rfl
theorem xI:Slot "set_iterator" "__iter__" "set_iterator.__iter__" :=
 .of (owner := "set_iterator") (n := "__iter__") (by rw [typeLookup_type,Oy];kernel_rfl) (by decide +kernel) (by decide +kernel) (by decide +kernel)
  (by first | exact .inl (by decide +kernel) | exact .inr (by decide +kernel)) (by rw [OJ];kernel_rfl)
theorem Fh:entryFor table "set_iterator.__iter__" = some Builtin.«dict_keyiterator.__iter__» :=
 OI (id' := "dict_keyiterator.__iter__") (by kernel_rfl) rfl (by decide +kernel) (by kernel_rfl)
theorem Fi (a:Value):argsOk "set_iterator.__iter__" ⟨[a],[]⟩:=by
 unfold argsOk;rw [signature?_of (id := "set_iterator.__iter__") (n:=['_','_','r','e','t','i','_','_']) (o:=['r','o','t','a','r','e','t','i','_','t','e','s']) (by kernel_rfl) xF];kernel_rfl
theorem Fj:entryFor table "set.__iter__" = some Builtin.«frozenset.__iter__» :=
 OI (id' := "frozenset.__iter__") (by kernel_rfl) rfl (by decide +kernel) (by kernel_rfl)
noncomputable def IsSetIt (h:Heap) (it a:Addr) (first:Value) (i n ep:Nat):Prop:=∃ o,h.get? it=some o/\o.cls = .type "set_iterator" /\ o.data = .fields #[first,.int i 0,.ref a,.int n 0,.int ep 0]
theorem IsSetIt.typeIs {s:Shared} {it a:Addr} {f:Value} {i n ep:Nat} (x:IsSetIt s.heap it a f i n ep):s.TypeIs (.ref it) "set_iterator" := let ⟨o,ho,hc,_⟩:=x;⟨o,ho,hc⟩
noncomputable def cQ (w:World) (a:Addr) (ep:Nat) (es:Array (Int×Value)):Array (Int×Value):=if cn w=true then pickOrder (w.params.setOrder a ep) es else es
noncomputable def fC (w:World) (t:SetTable):Nat->Nat
 | 0=>0
 | i+1=>if cn w=true then 0 else (t.place.getD i 0)+1
section
variable {P:Program} {w:World} {A:Around} {E:Value->Shared->Prop} {s:Shared} {a:Addr} {o:Obj} {es:Array (Int×Value)} {ep:Nat} {t:SetTable}
theorem zbr:(cQ w a ep es).toList.Perm es.toList:=by
 unfold cQ
 split
 ·exact xC _ _
 ·exact .refl _
theorem rZ (i:Nat):fC w t (i+1)=if cn w=true then 0 else (t.place.getD i 0)+1:=rfl
theorem xJ (h:cn w=true) (i:Nat):fC w t i=0:=by
 cases i with
 | zero=>rfl
 | succ i=>rw [rZ,JG h]
theorem Fk {Q:Option (Value×Nat)->Shared->Prop} (ho:s.heap.get? a=some o) (hd:o.data = .set es ep t) (hf:t.fits es.size=true) (ok:TbOk t) (hl:t.led = !cn w) (hdr:cn w=true\/(!t.plain && decide (es.size > 1))=false) (i:Nat) (hi:i<=es.size)
  (h:Q (((cQ w a ep es)[i]?).map λe=>(e.2,fC w t (i+1))) s):wpAny (model P w) A (setNext a (fC w t i) i ep) Q E s:=by
 unfold setNext setsByText
 refine Jz (Li ho hd hf ?_)
 dsimp only
 refine Jz (Jz (Ld (JB ?_)))
 show wpAny _ _ (if cn w=true then _ else _) _ _ _
 by_cases hb:cn w=true
 ·rw [JG hb]
  rw [JF (by simp)]
  unfold setWalk setsByText
  refine Jz (Jz (Li ho hd hf ?_))
  dsimp only
  refine Jz (Jz (Ld (JB ?_)))
  show wpAny _ _ (if cn w=true then _ else _) _ _ _
  rw [JG hb]
  refine Jz (Ld (JB (JB ?_)))
  unfold cQ at h
  rw [JG hb,xJ hb] at h
  rw [xJ hb]
  exact h
 ·rw [JF hb]
  have hdr' := hdr.resolve_left hb
  change wpAny _ _ (if (!t.plain && decide (es.size > 1))=true then _ else _) _ _ _
  rw [hdr',JF JT]
  have hb':cn w=false:=by simpa using hb
  refine Jz ?_
  change wpAny _ _ (if (!t.led && !es.isEmpty)=true then _ else _) _ _ _
  rw [hl,hb',JF (by simp)]
  refine JB (JB ?_)
  have hpl:t.place.size=es.size:=by
   simp only [SetTable.fits,K2,O4] at hf
   exact hf.1
  have hbl:SetTable.below t.place (fC w t i)=i:=by
   cases i with
   | zero=>exact EX ok.rise
   | succ i =>
    have hi':i<t.place.size:=by omega
    rw [rZ,JF hb]
    refine EW ok.rise ?_
    rw [Kq hi']
    simp [Array.getD,hi']
  rw [hbl]
  unfold cQ at h
  rw [JF hb] at h
  by_cases hlt:i<es.size
  ·have h1:es[i]? = some es[i]:=Kq hlt
   have h2:t.place[i]? = some t.place[i]:=Kq (by omega)
   have h3:fC w t (i+1)=t.place[i]+1:=by
    rw [rZ,JF hb]
    simp [Array.getD,show i<t.place.size by omega]
   rw [h1,h3] at h
   rw [h1,h2]
   exact h
  ·have h1:es[i]? = none:=Mf (by omega)
   rw [h1] at h
   rw [h1]
   exact h
end
end L2
namespace L2
open PySem PySem.Spec PyProof.Rows
section
variable {P:Program} {w:World} {A:Around} {E:Value->Shared->Prop} {s:Shared} {a it:Addr} {o:Obj} {es:Array (Int×Value)} {ep:Nat} {t:SetTable}
theorem xK {α:Type} {R:α->Shared->Prop} (hh:A.handled=none) (h:∀ (x:Addr) h',(∃ ox,h'.get? x=some ox/\ox.cls = .type "StopIteration")->(∀ b o,s.heap.get? b=some o->h'.get? b=some o)->E (.ref x) { s with heap:=h' }) :
  wpAny (model P w) A (do let e <- newExc (.type "StopIteration") [];raiseNew e:Sem α) R E s:=by
 refine Jz ?_
 simp only [newExc,newTuple]
 refine Jz (K0 ?_ (by size_fits))
 refine Jz (m:=firstArgMember _ _) (wpAny_of_eq (a:=Value.none) (by first | rfl | (simp only [firstArgMember];rfl)) ?_)
 refine K0 ?_ (by size_fits)
 simp only [raiseNew]
 refine Jz (wpAny_handled ?_)
 rw [hh]
 refine Jz (JB (wpAny_throw ?_))
 exact h _ _ ⟨_,JL _ rfl,rfl⟩ λb o q=>JD _ (JD _ q)
theorem xM {Q:Option Value->Shared->Prop} {i:Nat} (hh:A.handled=none) (hit:IsSetIt s.heap it a (.int (fC w t i) 0) i es.size ep) (hne:a≠it) (ho:s.heap.get? a=some o) (hd:o.data = .set es ep t) (hf:t.fits es.size=true) (ok:TbOk t) (hl:t.led = !cn w)
  (hdr:cn w=true\/(!t.plain && decide (es.size > 1))=false) (hi:i<=es.size)
  (h1:∀ e h',(cQ w a ep es)[i]? = some e->IsSetIt h' it a (.int (fC w t (i+1)) 0) (i+1) es.size ep->Heap.SameBut it s.heap h'->Q (some e.2) { s with heap:=h' })
  (h2:(cQ w a ep es)[i]? = none->∀ h',Heap.ExtBut it s.heap h'->Q none { s with heap:=h' }):wpAny (model P w) A (pyNext (.ref it)) Q E s:=by
 obtain ⟨oi,hoi,hci,hdi⟩:=id hit
 unfold pyNext
 refine Jz (OV (L8 (name:=Str.ofString "__next__") hit.typeIs zax
  (KU zax hit.typeIs xG ?_ (xH _))))
 unfold Builtin.«set_iterator.__next__» slotArgs
 simp only [M9,NV,K7,↓reduceIte,O6,KP,LQ]
 refine Jz (JB ?_)
 refine Jz (wpAny_fieldsOf hoi hdi ?_)
 try dsimp only
 refine Jz (MG ho hd hf ?_)
 rw [JF (by simp)]
 try dsimp only
 simp only [MR]
 refine Jz (Fk ho hd hf ok hl hdr i hi ?_)
 cases e:(cQ w a ep es)[i]? with
 | some x =>
  simp only [Nj]
  refine Jz (My hoi hdi (by simp) ?_)
  have hg:=Kv (Obj.mapFields (·.setIfInBounds 0 (rawInt ((fC w t (i+1):Nat):Int)))) hoi (Obj.isFreed_of_fields (Obj.data_mapFields hdi _))
  have hdg:=Obj.data_mapFields hdi (·.setIfInBounds 0 (rawInt ((fC w t (i+1):Nat):Int)))
  refine Jz (My hg hdg (by simp) ?_)
  refine JB ⟨_,rfl,JB (h1 x _ e ?_ ((Kz ..).trans (Kz ..)))⟩
  exact ⟨_,Kv _ hg (Obj.isFreed_of_fields (Obj.data_mapFields hdg _)),((Obj.cls_mapFields ..).trans (Obj.cls_mapFields ..)).trans hci,by rw [Obj.data_mapFields hdg];simp [rawInt]⟩
 | none =>
  simp only [Option.map_none]
  refine Jz (My hoi hdi (by simp) ?_)
  refine xK (A:=A.in1) hh λx h' ⟨ox,hx,cx⟩ kp=>Jz (MC (T := "StopIteration") (b:=true) ⟨ox,hx,cx⟩ isSubtype_stop ?_)
  rw [JG rfl]
  exact JB (h2 e h' λb ob nb q=>kp b ob ((KA _ _ (Ne.symm nb)).trans q))
end
end L2
namespace L2
open PySem PySem.Spec PyProof.Rows
section
variable {P:Program} {w:World} {A:Around} {E:Value->Shared->Prop} {s:Shared} {a it:Addr} {o:Obj} {es:Array (Int×Value)} {ep:Nat} {t:SetTable}
theorem Fl {src:Source} {n:Nat} {Q:Nat->Shared->Prop} (hn:n≠0) (h:∀ i,i<n->∀ d,Q i { s with drawn:=d }):wpAny (model P w) A (choose src n) Q E s:=λΓ p _=>by
 unfold choose
 rw [Sem.wp_choose]
 refine ⟨hn,?_⟩
 rw [Sem.wp_pure]
 exact h _ (Nat.mod_lt _ (Nat.pos_of_ne_zero hn)) _
theorem xN {α:Type}:∀ (n:Nat) (l:List α) {s:Shared} {Q:List α->Shared->Prop},l.length<=n->(∀ l' d,l'.Perm l->Q l' { s with drawn:=d })->wpAny (model P w) A (drawOrder n l) Q E s
 | 0,l,s,Q,hl,h=>by
  have:l=[]:=Lu.mp (Nat.le_zero.mp hl)
  subst this
  unfold drawOrder
  exact JB (h [] s.drawn (.refl _))
 | n+1,[],s,Q,hl,h=>by
  unfold drawOrder
  exact JB (h [] s.drawn (.refl _))
 | n+1,x::xs,s,Q,hl,h=>by
  unfold drawOrder
  refine Jz (Fl (by simp) λi hi d=>?_)
  rw [JU hi]
  dsimp only
  refine Jz (xN n _ (by rw [NC hi];simp at hl ⊢;omega) λl' d' p=>JB (h _ d' ?_))
  exact (List.Perm.cons _ p).trans (xA hi rfl)
theorem xO {Q:Value->Shared->Prop} {f:Value} {i n ep:Nat} (hit:IsSetIt s.heap it a f i n ep) (h:Q (.ref it) s):wpAny (model P w) A (pyIter (.ref it)) Q E s:=by
 refine Pu hit.typeIs xI (KU xI hit.typeIs Fh ?_ (Fi _))
 show wpAny _ _ (ret (.ref it)) _ _ s
 exact JB ⟨_,rfl, "set_iterator",_,hit.typeIs,zax.lookup,h⟩
theorem IsSetIt.keep {h h':Heap} {f:Value} {i n ep:Nat} (x:IsSetIt h it a f i n ep) (k:∀ o,h.get? it=some o->h'.get? it=some o):IsSetIt h' it a f i n ep:=let ⟨o,ho,r⟩:=x;⟨o,k o ho,r⟩
theorem Fm (hh:A.handled=none) (hne:a≠it) (hd:o.data = .set es ep t) (hf:t.fits es.size=true) (ok:TbOk t) (hl:t.led = !cn w) (hdr:cn w=true\/(!t.plain && decide (es.size > 1))=false) :
  Walks P w A it [it,a] [it] es.size (λi v=>∃ e,(cQ w a ep es)[i]? = some e/\v=e.2) (λi h=>i<=es.size/\IsSetIt h it a (.int (fC w t i) 0) i es.size ep/\h.get? a=some o) where
 sub:=λb hb=>by simp at hb;simp [hb]
 frame:=λi h h' st k=>⟨st.1,st.2.1.keep λo q=>k it (by simp) o q,k a (by simp) o st.2.2⟩
 item:=λi s Q E hi st hQ=>by
  refine xM hh st.2.1 hne st.2.2 hd hf ok hl hdr st.1 (λe h' q hit' sb=>hQ _ h' s.toks ⟨e,q,rfl⟩ ⟨hi,hit',(sb.2 a hne).trans st.2.2⟩ λb ob nb q=>(sb.2 b (λz=>nb (by simp [z]))).trans q) λq=>?_
  exfalso
  have:(cQ w a ep es).size=es.size:=by rw [<- JQ,zbr.length_eq,JQ]
  rw [Kq (by omega)] at q
  cases q
 done:=λs Q E st hQ=>by
  refine xM hh st.2.1 hne st.2.2 hd hf ok hl hdr st.1 (λe h' q=>?_) λ_ h' ex=>hQ h' s.toks λb ob nb q=>ex b ob (λz=>nb (by simp [z])) q
  exfalso
  have:(cQ w a ep es).size=es.size:=by rw [<- JQ,zbr.length_eq,JQ]
  rw [Mf (by omega)] at q
  cases q
 self:=λ_ _ _ _ st hQ=>xO st.2.1 hQ
end
end L2
namespace L2
open PySem PySem.Spec PyProof.Rows
section
variable {P:Program} {w:World} {A:Around} {E:Value->Shared->Prop} {s:Shared} {a it tp:Addr} {o otp:Obj} {es:Array (Int×Value)} {ep nt:Nat} {t:SetTable} {pl:List Nat}
theorem xP {Q:Option Value->Shared->Prop} {i:Nat} (hh:A.handled=none) (hit:IsSetIt s.heap it a (.ref tp) i es.size ep) (ho:s.heap.get? a=some o) (hd:o.data = .set es ep t) (hf:t.fits es.size=true)
  (htp:s.heap.get? tp=some otp) (hdt:otp.data = .seq (pl.map λj:Nat=>rawInt j).toArray nt) (hlt:∀ j∈pl,j<es.size)
  (h1:∀ j e h',pl[i]? = some j->es[j]? = some e->IsSetIt h' it a (.ref tp) (i+1) es.size ep->Heap.SameBut it s.heap h'->Q (some e.2) { s with heap:=h' })
  (h2:pl[i]? = none->∀ h',Heap.ExtBut it s.heap h'->Q none { s with heap:=h' }):wpAny (model P w) A (pyNext (.ref it)) Q E s:=by
 obtain ⟨oi,hoi,hci,hdi⟩:=id hit
 unfold pyNext
 refine Jz (OV (L8 (name:=Str.ofString "__next__") hit.typeIs zax
  (KU zax hit.typeIs xG ?_ (xH _))))
 unfold Builtin.«set_iterator.__next__» slotArgs
 simp only [M9,NV,K7,↓reduceIte,O6,KP,LQ]
 refine Jz (JB ?_)
 refine Jz (wpAny_fieldsOf hoi hdi ?_)
 try dsimp only
 refine Jz (MG ho hd hf ?_)
 rw [JF (by simp)]
 try dsimp only
 refine Jz (wpAny_seqItems htp hdt ?_)
 dsimp only
 simp only [MR]
 have hg:((pl.map λj:Nat=>rawInt j).toArray)[i]? = (pl[i]?).map λj:Nat=>rawInt j:=by simp
 rw [hg]
 cases e:pl[i]? with
 | some j =>
  have hj:=hlt j (J6 e)
  simp only [Nj,rawInt]
  unfold setNextDrawn
  refine Jz (Jz (Li ho hd hf ?_))
  dsimp only
  simp only [MR]
  rw [JF (by simp),Kq hj]
  dsimp only
  refine JB ?_
  refine Jz (My hoi hdi (by simp) ?_)
  refine JB ⟨_,rfl,JB (h1 j _ _ e (Kq hj) ?_ (Kz ..))⟩
  exact ⟨_,Kv _ hoi (Obj.isFreed_of_fields (Obj.data_mapFields hdi _)),(Obj.cls_mapFields ..).trans hci,by rw [Obj.data_mapFields hdi];simp [rawInt]⟩
 | none =>
  simp only [Option.map_none]
  refine Jz (My hoi hdi (by simp) ?_)
  have hg:=Kv (Obj.mapFields (·.setIfInBounds 0 (rawInt 0))) hoi (Obj.isFreed_of_fields (Obj.data_mapFields hdi _))
  have hdg:=Obj.data_mapFields hdi (·.setIfInBounds 0 (rawInt 0))
  refine Jz (My hg hdg (by simp) ?_)
  refine xK (A:=A.in1) hh λx h' ⟨ox,hx,cx⟩ kp=>Jz (MC (T := "StopIteration") (b:=true) ⟨ox,hx,cx⟩ isSubtype_stop ?_)
  rw [JG rfl]
  exact JB (h2 e h' λb ob nb q=>kp b ob ((KA _ _ (Ne.symm nb)).trans ((KA _ _ (Ne.symm nb)).trans q)))
theorem Fo (hh:A.handled=none) (hne:a≠it) (hnt:tp≠it) (hd:o.data = .set es ep t) (hf:t.fits es.size=true) (hdt:otp.data = .seq (pl.map λj:Nat=>rawInt j).toArray nt) (hlt:∀ j∈pl,j<es.size) (hn:pl.length=es.size) :
  Walks P w A it [it,a,tp] [it] es.size (λi v=>∃ j e,pl[i]? = some j/\es[j]? = some e/\v=e.2) (λi h=>i<=es.size/\IsSetIt h it a (.ref tp) i es.size ep/\h.get? a=some o/\h.get? tp=some otp) where
 sub:=λb hb=>by simp at hb;simp [hb]
 frame:=λi h h' st k=>⟨st.1,st.2.1.keep λo q=>k it (by simp) o q,k a (by simp) o st.2.2.1,k tp (by simp) otp st.2.2.2⟩
 item:=λi s Q E hi st hQ=>by
  refine xP hh st.2.1 st.2.2.1 hd hf st.2.2.2 hdt hlt (λj e h' q q2 hit' sb=>hQ _ h' s.toks ⟨j,e,q,q2,rfl⟩ ⟨hi,hit',(sb.2 a hne).trans st.2.2.1,(sb.2 tp hnt).trans st.2.2.2⟩ λb ob nb q=>(sb.2 b (λz=>nb (by simp [z]))).trans q) λq=>?_
  rw [JU (by omega)] at q
  cases q
 done:=λs Q E st hQ=>by
  refine xP hh st.2.1 st.2.2.1 hd hf st.2.2.2 hdt hlt (λj e h' q=>?_) λ_ h' ex=>hQ h' s.toks λb ob nb q=>ex b ob (λz=>nb (by simp [z])) q
  rw [Lo (by omega)] at q
  cases q
 self:=λ_ _ _ _ st hQ=>xO st.2.1 hQ
theorem xQ {I:Addr} {fp wr:List Addr} {n:Nat} {p q:Nat->Value->Prop} {St:Nat->Heap->Prop} (W:Walks P w A I fp wr n p St) (k:∀ i v,p i v->q i v):Walks P w A I fp wr n q St :=
 ⟨W.sub,W.frame,λi s Q E hi st hQ=>W.item i s Q E hi st λv h' tk pv=>hQ v h' tk (k i v pv),W.done,W.self⟩
theorem Fp (l:List Int):(List.range l.length).map (λj=>l.getD j 0)=l:=by
 refine List.ext_getElem (by simp) λi h1 h2=>?_
 simp [List.getD,h2]
theorem Fq {ns:List Int} {Q:Value->Shared->Prop} (hh:A.handled=none) (S:SetI w s.heap a ns)
  (h:∀ (it:Addr) (fp:List Addr) (St:Nat->Heap->Prop) (ms:List Int) h' d,ms.Perm ns->Walks P w A it fp [it] ns.length (λi v=>∃ k tk,ms[i]? = some k/\v = .int k tk) St->St 0 h'->(∀ b o,s.heap.get? b=some o->h'.get? b=some o)->s.heap.objs.size<=it->(∀ b∈fp,b=a\/s.heap.objs.size<=b)->Q (.ref it) { s with heap:=h',drawn:=d }) :
  wpAny (model P w) A (pyIter (.ref a)) Q E s:=by
 obtain ⟨o,es,ep,t,ho,hex,hd,he,hp,hb,hf,ok,hl⟩:=id S
 have hn:es.size=ns.length:=by rw [<- hp.length_eq,JN,JQ]
 have alt:a<s.heap.objs.size:=JR ho
 have vl:∀ {l:Array (Int×Value)},l.toList.Perm es.toList->∀ {i:Nat} {e:Int×Value},l[i]? = some e->∃ k tk,(l.toList.map bg)[i]? = some k/\e.2=Value.int k tk:=λ{l} p {i e} q=>by
  have m:e∈es.toList:=p.mem_iff.mp (by rw [<- Kd] at q;exact J6 q)
  obtain ⟨k,tk,rfl⟩:=he e m
  exact ⟨k,tk,by rw [Kb,Kd,q];rfl,rfl⟩
 refine Pu S.typeIs F.slot_set_iter (KU F.slot_set_iter S.typeIs Fj ?_ (F.args_set_iter_1 _))
 unfold Builtin.«frozenset.__iter__» Builtin.Frozenset.slot0 slotArgs
 simp only [M9,NV,K7,↓reduceIte,O6,KP,LQ]
 unfold Builtin.Frozenset.addrOf
 refine Jz (JB ?_)
 try dsimp only
 refine Jz (JB ?_)
 refine Jz (rX S ?_)
 unfold setDrawn setsByText
 refine Jz (Jz (Li ho hd hf ?_))
 dsimp only
 refine Jz (Jz (Ld (JB ?_)))
 refine JB ?_
 change wpAny _ _ (if (!cn w && (!t.plain && decide (es.size > 1)))=true then _ else _) _ _ _
 by_cases hc:(!cn w && (!t.plain && decide (es.size > 1)))=true
 ·rw [JG hc]
  refine Jz (xN _ _ (by simp) λl d p=>?_)
  have ll:l.length=ns.length:=by rw [p.length_eq,Lf]
  refine Jz (wpAny_newTuple ?_ (by rw [JN,ll,<- hn];exact M1 hb))
  have ho1:∀ ob,(s.heap.push ob).get? a=some o:=λob=>JD _ ho
  refine Jz (M3 (s:={ s with heap:=s.heap.push _,drawn:=d }) (ho1 _) hd hf ?_)
  refine Jz (K0 (JB ⟨_,rfl, "set_iterator",_,⟨_,JL _ rfl,rfl⟩,zax.lookup,?_⟩))
  have hm:∀ j∈l,j<es.size:=λj z=>by
   have:=p.mem_iff.mp z
   rw [hn];exact MQ.mp this
  have hsz:∀ ob,(s.heap.push ob).objs.size=s.heap.objs.size+1:=λob=>LX _ _
  obtain ⟨TO,eTO⟩:∃ TO:Obj,TO={ cls:=.type "tuple",data:=.seq (l.map λj:Nat=>rawInt j).toArray }:=⟨_,rfl⟩
  have n1:a≠(s.heap.push TO).objs.size:=by rw [hsz];exact Ka (Lr alt)
  have n2:s.heap.objs.size≠(s.heap.push TO).objs.size:=by rw [hsz];omega
  have W:=xQ (q:=λi v=>∃ k tk,(l.map λj=>(es.toList.map bg).getD j 0)[i]? = some k/\v = .int k tk) (Fo (P:=P) (w:=w) (A:=A) (a:=a) (tp:=s.heap.objs.size) (pl:=l) (nt:=0) (otp:=TO) hh n1 n2 hd hf (by rw [eTO]) hm (ll.trans hn.symm)) (by
   rintro i v ⟨j,e,q,q2,rfl⟩
   obtain ⟨k,tk,q3,q4⟩:=vl (.refl _) q2
   exact ⟨k,tk,by rw [Kb,q];simp only [Nj,List.getD,q3];rfl,q4⟩)
  have pm:(l.map λj=>(es.toList.map bg).getD j 0).Perm ns:=by
   refine (p.map _).trans ?_
   have:=Fp (es.toList.map bg)
   rw [JN,JQ,hn] at this
   rw [this]
   exact hp
  rw [<- eTO]
  have st0:IsSetIt ((s.heap.push TO).push { cls:=.type "set_iterator",data:=.fields [.ref s.heap.objs.size,rawInt 0,.ref a,rawInt (ns.length:Int),rawInt (ep:Int)].toArray }) (s.heap.push TO).objs.size a (.ref s.heap.objs.size) 0 es.size ep:=⟨_,JL _ rfl,rfl,by simp [rawInt,hn]⟩
  rw [hn] at W
  refine h _ _ _ _ _ d pm W ⟨Ki _,hn▸st0,JD _ (ho1 _),JD _ (JL _ (by rw [eTO];rfl))⟩ (λb ob q=>JD _ (JD _ q)) (by rw [hsz];omega) ?_
  intro b z
  simp only [J4,K8,Nh] at z
  rcases z with rfl | rfl | rfl
  ·right;rw [hsz];omega
  ·exact .inl rfl
  ·exact .inr (JC _)
 ·rw [JF hc]
  refine Jz (JB ?_)
  refine Jz (M3 ho hd hf ?_)
  refine Jz (K0 (JB ⟨_,rfl, "set_iterator",_,⟨_,JL _ rfl,rfl⟩,zax.lookup,?_⟩))
  have hdr:cn w=true\/(!t.plain && decide (es.size > 1))=false:=by
   cases z:cn w with
   | true=>exact .inl rfl
   | false=>rw [z] at hc;exact .inr (by simpa using hc)
  have W:=xQ (q:=λi v=>∃ k tk,((cQ w a ep es).toList.map bg)[i]? = some k/\v = .int k tk) (Fm (P:=P) (w:=w) (A:=A) (a:=a) (it:=s.heap.objs.size) hh (Ka alt) hd hf ok hl hdr) (by
   rintro i v ⟨e,q,rfl⟩
   exact vl zbr q)
  have st0:IsSetIt (s.heap.push { cls:=.type "set_iterator",data:=.fields [rawInt 0,rawInt 0,.ref a,rawInt (ns.length:Int),rawInt (ep:Int)].toArray }) s.heap.objs.size a (.int (fC w t 0) 0) 0 es.size ep:=⟨_,JL _ rfl,rfl,by simp [rawInt,hn,fC]⟩
  rw [hn] at W
  refine h _ _ _ _ _ s.drawn ((zbr.map bg).trans hp) W ⟨Ki _,hn▸st0,JD _ ho⟩ (λb ob q=>JD _ q) (JC _) ?_
  intro b z
  simp only [J4,K8,Nh] at z
  rcases z with rfl | rfl
  ·exact .inr (JC _)
  ·exact .inl rfl
end
end L2
namespace L2
open PySem PySem.Spec PyProof.Rows PySem.W PyProof.V PySem.Calls
section
variable {P:Program} {w:World} {A:Around} {E:Value->Shared->Prop} {s:Shared} {a:Addr} {ns:List Int}
theorem Fs {Q:Bool->Shared->Prop} (hT:s.TypeIs (.ref a) "set") (h:Q false s):wpAny (model P w) A (Builtin.List.listLengthHint (.ref a)) Q E s:=by
 unfold Builtin.List.listLengthHint
 refine Jz (Nl hT PySem.F.slot_set_len.lookup ?_)
 generalize hid:("set.__len__" : String)=id0
 wp_delta
 rw [show splitId id0=some ("set", "__len__") from by subst hid;decide +kernel]
 subst hid
 refine Jz (MC (T := "set") (b:=true) hT (by rw [OJ];kernel_rfl) ?_)
 refine Ot (λhab=>absurd hab (by decide)) (λ_=>?_)
 refine Ot (λ_=>?_) (λhab=>absurd (by decide +kernel) hab)
 refine Jz (Pn hT ?_)
 exact JB h
theorem Ft {ms:List Int} {acc:Array Value} (h:ItemsOf (λi v=>∃ k tk,ms[i]? = some k/\v=Value.int k tk) acc ms.length):IntsAre acc.toList ms:=by
 obtain ⟨h1,h2⟩:=h
 have l1:acc.toList.length=ms.length:=by rw [JQ];exact h1
 have h3:∀ (j:Nat) (v:Value),acc.toList[j]? = some v->∃ k tk,ms[j]? = some k/\v=Value.int k tk:=λj v q=>h2 j v (by rw [<- Kd];exact q)
 clear h1 h2
 generalize acc.toList=l at *
 induction l generalizing ms with
 | nil =>
  cases ms with
  | nil=>exact .nil
  | cons m ms=>cases l1
 | cons v l ih =>
  cases ms with
  | nil=>cases l1
  | cons m ms =>
   obtain ⟨k,tk,e,rfl⟩:=h3 0 v rfl
   cases e
   exact .cons _ _ (ih (by simpa using l1) λj v q=>by simpa using h3 (j+1) v (by simpa using q))
theorem Fu {R:Result->Shared->Prop} (hh:A.handled=none) (S:SetI w s.heap a ns) (L:Addr) (hLa:L≠a) (res:Value) (c₀:Nat) (hS:s.heap.get? L=some { cls:=.type "list",data:=.seq #[] c₀ })
  (hR:∀ h' tk d acc' c' ms,ms.Perm ns->(∀ b o,b≠L->s.heap.get? b=some o->h'.get? b=some o)->h'.get? L=some { cls:=.type "list",dict:=none,data:=.seq acc' c',slots:=#[] }->IntsAre acc'.toList ms->R (.ok (.ret res)) { s with heap:=h',toks:=tk,drawn:=d }) (hn:ns.length<=sizeLine) :
  wpAny (model P w) A.in1 (Builtin.List.listExtendWith (.ref L) (.ref a) res)
   (λfin s' => match fin with | .done f=>R (.ok f) s' | .again c' => c'.quiet=true/\codeAny (model P w) A c' R s') (λe s' => R (.error e) s') s:=by
 have ltL:L<s.heap.objs.size:=JR hS
 unfold Builtin.List.listExtendWith
 refine Jz (Pn (T := "set") S.typeIs ?_)
 have h1:Builtin.List.listSameRef (.ref L) (.ref a)=false:=by simp [Builtin.List.listSameRef,hLa]
 have n1:(Value.type "set" == Value.type "list")=false:=by decide
 have n2:(Value.type "set" == Value.type "tuple")=false:=by decide
 simp only [h1,n1,n2,Bool.or_false,K7,N9]
 refine Jz (Fq (A:=A.in1) hh S λit fp St ms h1 d pm W st kp lit lfp=>?_)
 have lm:ms.length=ns.length:=pm.length_eq
 have hSf:L∉fp:=λz=>by
  rcases lfp L z with q | q
  ·exact hLa q
  ·exact absurd ltL (OZ.mpr q)
 have hLi:L≠it:=λz=>absurd ltL (OZ.mpr (z▸lit))
 have key:∀ (h:Heap) (c₁ tk:Nat),St 0 h->(∀ b o,b≠L->s.heap.get? b=some o->h.get? b=some o) ->
   h.get? L=some { cls:=.type "list",data:=.seq #[] c₁ }->codeAny (model P w) A (.builtin "list.extend.loop" ⟨[.ref L,.ref it,res],[]⟩) R { s with heap:=h,toks:=tk,drawn:=d }:=by
  intro h c₁ tk hst hk hS₁
  refine codeAny_extend_loopS W.toS hn L hSf res ns.length 0 _ #[] c₁ rfl (Ki _) hst hS₁ (ItemsOf.nil _) λs' acc' c' hm hS' hacc=>?_
  rw [Moved.eq_with hm]
  refine hR s'.heap s'.toks d acc' c' ms pm (λb o hb e=>hm.heap b o (λhmem=>?_) (hk b o hb e)) hS' (Ft (lm▸hacc))
  rcases J4.mp hmem with e' | hmem
  ·exact hb e'
  ·exact absurd (JR e) (OZ.mpr (by rw [JP.mp hmem];exact lit))
 have hS₁:=kp L _ hS
 refine Jz (KD (Fs (s:={ s with heap:=h1,drawn:=d }) (S.keep (kp a)).typeIs ?_))
 refine Ot (λ_=>?_) (λ_=>JB ⟨Nb NK _,key _ c₀ _ st (λb o _ e=>kp b o e) hS₁⟩)
 refine Jz (Mw ?_)
 refine Jz ?_
 show wpAny _ _ (updateSeq L (·.push .none) >>= λ_=>updateSeq L (·.pop)) _ _ _
 refine Jz (Os hS₁ rfl ?_)
 have hS₂:=Kv (Obj.mapSeq (·.push Value.none)) hS₁ rfl
 refine Os (hz:=by seq_fits) hS₂ rfl ?_
 have hS₃:=Kv (Obj.mapSeq (·.pop)) hS₂ rfl
 refine JB ⟨Nb NK _,key _ _ _ ?_ (λb o hb e=>?_) hS₃⟩
 ·refine W.frame 0 _ _ st λb hb o e=>?_
  have hbS:b≠L:=λh=>hSf (h▸hb)
  exact (KA _ _ (Ne.symm hbS)).trans ((KA _ _ (Ne.symm hbS)).trans e)
 ·exact (KA _ _ (Ne.symm hb)).trans ((KA _ _ (Ne.symm hb)).trans (kp b o e))
theorem Fv {R:List Value->Shared->Prop} (hh:A.handled=none) (S:SetI w s.heap a ns) (hn:ns.length<=sizeLine)
  (h:∀ (h':Heap) (tk:Nat) (d:Drawn) (acc:Array Value) (ms:List Int),ms.Perm ns->(∀ b o,s.heap.get? b=some o->h'.get? b=some o)->IntsAre acc.toList ms->R acc.toList { s with heap:=h',toks:=tk,drawn:=d }) :
  wpAny (model P w) A (collect (.ref a)) R E s:=by
 have alt:a<s.heap.objs.size:=by
  obtain ⟨o,es,ep,t,ho,r⟩:=S
  exact JR ho
 unfold collect
 refine Jz (wpAny_runValue (Mm entry_proto_collect' ?_))
 rw [LN PySem.F.plain_proto_collect _]
 show wpAny _ A.in1 (newList [] >>= λl=>again (.builtin "list.__iadd__" ⟨[l,.ref a],[]⟩)) _ _ s
 refine Jz (K0 ?_)
 refine JB ⟨Nb N5 _,Mm entry_list_iadd' ?_⟩
 rw [LN N5 _]
 have hS₁:(s.heap.push { cls:=.type "list",data:=.seq ([]:List Value).toArray }).get? s.heap.objs.size=some { cls:=.type "list",data:=.seq #[] }:=JL _ rfl
 show wpAny _ A.in1 (Builtin.List.listExtendWith (.ref s.heap.objs.size) (.ref a) (.ref s.heap.objs.size)) _ _ _
 have key:=Fu (P:=P) (A:=A) (s:={ s with heap:=s.heap.push { cls:=.type "list",data:=.seq ([]:List Value).toArray } })
  (R:=λ(q:Result) (s':Shared)=>∃ (h':Heap) (tk:Nat) (d:Drawn) (acc':Array Value) (c':Nat) (ms:List Int),q = .ok (.ret (.ref s.heap.objs.size))/\s'={ s with heap:=h',toks:=tk,drawn:=d } /\
   (∀ b o,s.heap.get? b=some o->h'.get? b=some o)/\h'.get? s.heap.objs.size=some { cls:=.type "list",dict:=none,data:=.seq acc' c',slots:=#[] }/\ms.Perm ns/\IntsAre acc'.toList ms)
  hh (S.keep λo q=>JD _ q) s.heap.objs.size (O8 alt) (.ref s.heap.objs.size) 0 hS₁
  (λh' tk d acc' c' ms pm hk hS' hacc=>⟨h',tk,d,acc',c',ms,rfl,rfl,λb o e=>hk b o (Ka (JR e)) (JD _ e),hS',pm,hacc⟩) hn
 refine Ku key (λfin s' x=>?_) λe s' x=>?_
 ·cases fin with
  | done f =>
   obtain ⟨h',tk,d,acc',c',ms,e,rfl,hk,hS',pm,hacc⟩:=x
   cases e
   show wpAny _ A (load s.heap.objs.size >>= _) _ _ _
   refine Jz (Pv hS' ?_)
   exact JB (h h' tk d acc' ms pm hk hacc)
  | again c₁ =>
   refine ⟨x.1,MB x.2 λq s₂ y=>?_⟩
   obtain ⟨h',tk,d,acc',c',ms,rfl,rfl,hk,hS',pm,hacc⟩:=y
   show wpAny _ A (load s.heap.objs.size >>= _) _ _ _
   refine Jz (Pv hS' ?_)
   exact JB (h h' tk d acc' ms pm hk hacc)
 ·obtain ⟨_,_,_,_,_,_,e',_⟩:=x
  cases e'
end
end L2
namespace L2
open PySem PySem.Spec PyProof.Rows
theorem xR:bootBuiltins "set" = some (.type "set"):=by decide +kernel
theorem Fw:bootBuiltins "sorted" = some (.builtin "sorted"):=by decide +kernel
section
variable {X:Cx} {E:Value->Shared->Prop} {pins:List (Addr×Obj)} {s:Shared} {σ:St} {H:Hp}
theorem xS {i:Nat} {x:Str} {v:V} {pos:Pos} {Q:Value->Shared->Prop} (I:Inv X pins σ H s) (hN:X.N[i]? = some x) (hv:gy X.env.scope x) (e:σ[i]? = some (some v)) (h:∀ u,RelV v u->Q u s) (hd:(x == ("__debug__" : Str))=false) (hcd:(x == ("__classdict__" : Str))=false):wpAny (model X.prog X.w) X.A (eval (.Name x pos) X.env) Q E s:=by
 obtain ⟨m,hn,hl⟩:=I.loc
 obtain ⟨u,r,l⟩:=hl i x v hN e hv
 rcases l with ⟨hk,hm⟩ | ⟨hk,c,hc,hcell⟩
 ·exact NH (OE I.ok.kind hk hn hm (h u r)) hd
 ·rcases hk with hk | hk
  ·exact NH (OO I.ok.kind hk hc hcell (h u r)) hd
  ·exact NH (OP I.ok.kind hk hc hcell (h u r) hcd) hd
theorem Inv.drw {d:Drawn} (I:Inv X pins σ H s):Inv X pins σ H { s with drawn:=d }:=⟨I.ok,I.os,I.bare,I.base,I.loc,I.cell,I.free,I.freeC,I.pin,I.hok,I.len⟩
theorem Fx {x y:Str} {i j:Nat} {p0 p1 p2 p3 p4 p5 p6 p7 p8:Pos} (hcalm:X.calm=true) (hgs:Gl X "sorted") (hms:X.mg "sorted" = none) (hgt:Gl X "set") (hmt:X.mg "set" = none) (hN1:X.N[i]? = some x) (hv1:gy X.env.scope x) (hN2:X.N[j]? = some y) (hv2:gy X.env.scope y)
  (hd1:(x == ("__debug__" : Str))=false) (hc1:(x == ("__classdict__" : Str))=false) (gM:(y == ("__debug__" : Str))=false) (hc2:(y == ("__classdict__" : Str))=false)
  (hs:starEach [.BinOp (.Call (.Name "set" p1) [.Name x p2] [] p3) .BitAnd (.Call (.Name "set" p4) [.Name y p5] [] p6) p7] X.env=[(false,eval (.BinOp (.Call (.Name "set" p1) [.Name x p2] [] p3) .BitAnd (.Call (.Name "set" p4) [.Name y p5] [] p6) p7) X.env)])
  (iX:starEach [.Name x p2] X.env=[(false,eval (.Name x p2) X.env)]) (hs2:starEach [.Name y p5] X.env=[(false,eval (.Name y p5) X.env)]) :
  PE X (.Call (.Name "sorted" p0) [.BinOp (.Call (.Name "set" p1) [.Name x p2] [] p3) .BitAnd (.Call (.Name "set" p4) [.Name y p5] [] p6) p7] [] p8)
   (λσ H Q=>∃ (l1 l2:Addr) (xs ys:List Int),σ[i]? = some (some (.ref l1))/\σ[j]? = some (some (.ref l2))/\SqL X.K H l1 (xs.map V.int)/\SqL X.K H l2 (ys.map V.int)/\xs.Nodup/\ys.Nodup/\xs.length<4000/\ys.length<4000 /\
    ∀ (l:Addr) (zs:List Int),H l=none->zs.Pairwise (· <= ·)->zs.Nodup->(∀ k,k∈zs ↔ k∈xs/\k∈ys)->Q (.ref l) (aJ H l (.lst (zs.map V.int)))):=by
 intro pins s σ H Q I h
 obtain ⟨l1,l2,xs,ys,e1,e2,sq1,sq2,nx,ny,lx,ly,q⟩:=h
 have hh:=I.ok.hd hcalm
 refine Call_ (fG I hgs hms Fw (callWith_builtin1 ?_ hs rfl))
 rw [hs]
 show wpAny _ _ (spliced ((false,eval (.BinOp (.Call (.Name "set" p1) [.Name x p2] [] p3) .BitAnd (.Call (.Name "set" p4) [.Name y p5] [] p6) p7) X.env)::backTo p8 (starEach [] X.env))) _ _ s
 refine Mc (wpAny_BinOp ?_)
 refine Call_ (fG I hgt hmt xR (callWith_type1 ?_ iX rfl))
 rw [iX]
 show wpAny _ _ (spliced ((false,eval (.Name x p2) X.env)::backTo p3 (starEach [] X.env))) _ _ s
 refine Mc (xS I hN1 hv1 e1 (λu r=>Mr ?_) hd1 hc1)
 obtain rfl:u = .ref l1:=r
 obtain ⟨its1,v1,pl1,_⟩:=I.list sq1
 have b1:its1.toArray.size+1<scanBound:=by
  have:=(mP v1).length
  rw [JK,this]
  exact JZ (L5 lx) (by decide)
 refine xy hh pl1.isList (by simpa using mP v1) nx b1 λh1 t1 S1 k1=>?_
 have I1:Inv X pins σ H { s with heap:=h1,toks:=t1 }:=I.kept k1
 refine Call_ (fG I1 hgt hmt xR (callWith_type1 ?_ hs2 rfl))
 rw [hs2]
 show wpAny _ _ (spliced ((false,eval (.Name y p5) X.env)::backTo p6 (starEach [] X.env))) _ _ _
 refine Mc (xS I1 hN2 hv2 e2 (λu r=>Mr ?_) gM hc2)
 obtain rfl:u = .ref l2:=r
 obtain ⟨its2,v2,pl2,_⟩:=I1.list sq2
 have b2:its2.toArray.size+1<scanBound:=by
  have:=(mP v2).length
  rw [JK,this]
  exact JZ (L5 ly) (by decide)
 refine xy hh pl2.isList (by simpa using mP v2) ny b2 λh2 t2 S2 k2=>?_
 have I2:Inv X pins σ H { s with heap:=h2,toks:=t2 }:=I1.kept k2
 have si:s.heap.objs.size<h1.objs.size:=by
  obtain ⟨o,es,ep,t,ho,r⟩:=S1
  exact JR ho
 have S1':SetI X.w h2 s.heap.objs.size xs:=S1.keep λo q=>k2 _ o q
 refine Fg (s:={ s with heap:=h2,toks:=t2 }) S1' S2 (Ka si) nx ny (JZ (L5 lx) (by decide)) (JZ (L5 ly) (by decide)) λh3 zs S3 nz mz k3=>Mr ?_
 have I3:Inv X pins σ H { s with heap:=h3,toks:=t2 }:=I2.kept k3
 have lz:zs.length<=sizeLine:=by
  have:zs.length<=xs.length:=nz.length_le_of_subset λk z=>((mz k).mp z).1
  exact JI this (JI (Mb lx) (by decide))
 refine NJ kind_sorted plain_sorted entry_sorted (args_sorted1 _) ?_
 unfold Builtin.«sorted»
 refine Jz (m:=checkCount "sorted" 1 1 _) (JB (Jz (Fv (s:={ s with heap:=h3,toks:=t2 }) hh S3 lz λh4 t4 d acc ms pm k4 hI=>?_)))
 have I4:Inv X pins σ H { s with heap:=h4,toks:=t4,drawn:=d }:=(I3.kept (t' := t4) k4).drw
 have lm:acc.toList.length=zs.length:=by rw [IntsAre.length hI,pm.length_eq]
 have hz:acc.toList.length<=sizeLine:=by rw [lm];exact lz
 refine Jz (OW ?_ hz)
 have hoL:(h4.push (seqObj "list" acc.toList.toArray 0)).get? h4.objs.size=some (seqObj "list" acc.toList.toArray 0):=JL _ rfl
 refine Jz (KD (KU slot_list_sort ⟨_,hoL,rfl⟩ entry_list_sort (xn (s:={ s with heap:=h4.push (seqObj "list" acc.toList.toArray 0),toks:=t4,drawn:=d }) hoL hI (pm.nodup_iff.mpr nz) hz λout ns' o1 o2 o3=>⟨_,rfl,JB ⟨_,rfl,?_⟩⟩)))
 obtain ⟨e,he⟩:=sortedHeap_at (out:=out) hoL
 have pz:ns'.Perm zs:=o2.trans pm
 refine ⟨.ref h4.objs.size,_,I4.laid (a:=h4.objs.size) (t' := t4) (o:=.lst (ns'.map V.int)) (λb o hb=>?_) (JC _) ⟨?_,out.toList,e,mV o1,?_⟩,rfl,q _ ns' (I4.hok.fresh (JC _)) o3 (pz.nodup_iff.mpr nz) λk=>pz.mem_iff.trans (mz k)⟩
 ·have lt:b<h4.objs.size:=JR hb
  rw [sortedHeap_old (Ka lt) (by rw [size_push'];exact Lr lt)]
  exact JD _ hb
 ·rw [JN,pz.length_eq];exact lz
 ·rw [he]
end
end L2
namespace Sm
open PySem PySem.Spec L2
noncomputable def fD (v:Option (Option AV)) (h:AH):Option (List Int):=match v with
 | some (some x)=>(cf x h).bind gL
 | _=>none
noncomputable def j7 (i j:Nat):SE:=λen h=>match fD en[i]? h,fD en[j]? h with
 | some xs,some ys=>if xs.Nodup/\ys.Nodup/\xs.length<4000/\ys.length<4000 then .ok (.ref h.length) (h++[.lst ((gi (xs.filter λk=>decide (k∈ys))).map AV.int)]) else .bad
 | _,_=>.bad
theorem Fy {l m:List Int} (nl:l.Nodup) (nm:m.Nodup) (h:∀ k,k∈l ↔ k∈m):l.Perm m:=(Mv nl nm).mpr h
section
variable {T:Tb} {E:St->XK} {X:Cx}
theorem xT {ι:Ix} {h:AH} {H:Hp} {en:En} {σ:St} {i:Nat} {xs:List Int} (S:Sim T ι h H) (er:ER T ι H en σ) (e:fD en[i]? h=some xs):∃ a,σ[i]? = some (some (.ref a))/\SqL T.K H a (xs.map V.int):=by
 unfold fD at e
 split at e
 ·rename_i x hx
  obtain ⟨u,eu,r⟩:=er.2 i x hx
  cases el:cf x h with
  | none=>rw [el] at e;cases e
  | some l =>
   rw [el] at e
   obtain ⟨a,us,rfl,sq,rs⟩:=dG S r el
   have e':gL l=some xs:=e
   rw [rq e'] at rs
   rw [wM rs] at sq
   exact ⟨a,eu,sq⟩
 ·cases e
theorem Fz (i j:Nat) {x y:Str} {p0 p1 p2 p3 p4 p5 p6 p7 p8:Pos} (hK:X.K=T.K) (hcalm:X.calm=true) (hgs:Gl X "sorted") (hms:X.mg "sorted" = none) (hgt:Gl X "set") (hmt:X.mg "set" = none) (hN1:X.N[i]? = some x:=by rfl) (hN2:X.N[j]? = some y:=by rfl)
  (hv1:gy X.env.scope x:=by first | exact Or.inl rfl | exact Or.inr (Or.inl rfl) | exact Or.inr (Or.inr rfl)) (hv2:gy X.env.scope y:=by first | exact Or.inl rfl | exact Or.inr (Or.inl rfl) | exact Or.inr (Or.inr rfl))
  (hd1:(x == ("__debug__" : Str))=false:=by decide) (hc1:(x == ("__classdict__" : Str))=false:=by decide) (gM:(y == ("__debug__" : Str))=false:=by decide) (hc2:(y == ("__classdict__" : Str))=false:=by decide)
  (hs:starEach [.BinOp (.Call (.Name "set" p1) [.Name x p2] [] p3) .BitAnd (.Call (.Name "set" p4) [.Name y p5] [] p6) p7] X.env=[(false,eval (.BinOp (.Call (.Name "set" p1) [.Name x p2] [] p3) .BitAnd (.Call (.Name "set" p4) [.Name y p5] [] p6) p7) X.env)]:=by rfl)
  (iX:starEach [.Name x p2] X.env=[(false,eval (.Name x p2) X.env)]:=by rfl) (hs2:starEach [.Name y p5] X.env=[(false,eval (.Name y p5) X.env)]:=by rfl) :
  aI T E X (.Call (.Name "sorted" p0) [.BinOp (.Call (.Name "set" p1) [.Name x p2] [] p3) .BitAnd (.Call (.Name "set" p4) [.Name y p5] [] p6) p7] [] p8) (j7 i j):=by
 refine bW (Fx hcalm hgs hms hgt hmt hN1 hv1 hN2 hv2 hd1 hc1 gM hc2 hs iX hs2) λσ H Q Zz=>?_;obtain ⟨ι,h,en,S,er,q⟩:=Zz
 unfold j7 at q
 split at q
 ·rename_i xs ys ex ey
  split at q
  ·rename_i hz
   obtain ⟨a,ea,sa⟩:=xT S er ex
   obtain ⟨b,eb,sb⟩:=xT S er ey
   refine ⟨a,b,xs,ys,ea,eb,hK▸sa,hK▸sb,hz.1,hz.2.1,hz.2.2.1,hz.2.2.2,λl zs hl so nz mz=>?_⟩
   have pz:zs.Perm (xs.filter λk=>decide (k∈ys)):=Fy nz (hz.1.filter _) λk=>by
    rw [mz,Lm,Kn]
   have:zs=gi (xs.filter λk=>decide (k∈ys)):=j4 (pz.trans (k9 _).symm) so (lg _)
   subst this
   exact q _ _ _ (S.growAdd hl) (S.add hl ⟨_,rfl,rS _⟩) (.ref S.addAt)
  ·exact q.elim
 ·exact q.elim
end
end Sm
namespace Sk
open PySem PySem.Spec L2 Sm
noncomputable abbrev Jv:Nat:=0
noncomputable abbrev Jw:Nat:=1
noncomputable abbrev Jx:Nat:=2
noncomputable abbrev FC:Nat:=3
noncomputable abbrev FD:Nat:=4
noncomputable abbrev FE:Nat:=5
noncomputable def lq:Fn:=aD 1 1
  (ao (gZ 0 0 (ae 0) (df af))
  (ao (gZ 0 1 (ae 0) (jg true))
  (ao (gZ 0 2 (ae 0) (df (aj (ah (.int 0)) af)))
  (ao (gZ 0 3 (ae 0) (df (aj (ah (.int 0)) af)))
  (ao (gZ 0 4 (ae 0) (df (aj (ah (.int 0)) af)))
  (ao (gZ 0 5 (ae 0) (df (aj (cW cP (ah (.int 1))) af)))
  (ao (gZ 0 6 (ae 0) (df (aj (ah (.int 0)) af)))
  (gZ 0 7 (ae 0) (df (aj (ah (.int 0)) af))))))))))
def cq:Fn:=aD 2 3
  (ao (aw 2 (ai cG (ai aC (ae 0) (ah (.int 0))) (ae 1)))
  (ao (iF (ae 0) (ah (.int 0)) (ai fv (ai aC (ae 0) (ah (.int 0))) (ae 1)))
  (az (ae 2))))
def jw:SS :=
  (aw 5 (ai aA (ae 5) (ai aC (ae 4) (aE cq (aj (ae 0) (aj (aE aP (aj (ae 4) af)) af))))))
def lC:Fn:=aD 2 7
  (ao (aw 2 (ah (.str "abcdefghijklmnopqrstuvwxyz")))
  (ao (aw 3 (ai aA (ai aA (ae 2) (g9 nu nQ (ae 2))) (ah (.str " !#$&'()*+,-./0123456789:;<=>?\x40[]^_{|}~\n\\"))))
  (ao (aw 4 (ai aC (bM (aj (ah (.str "a")) (aj (ah (.str "ab")) (aj (ah (.str "ab\n")) (aj (ah (.str "a \n~")) (aj (ae 3) af)))))) (aE cq (aj (ae 0) (aj (ah (.int 5)) af)))))
  (ao (aw 5 (ah (.str "")))
  (ao (aV (dw (aE cq (aj (ae 0) (aj (ai aA (ae 1) (ah (.int 1))) af)))) (.nm 6) jw)
  (az (ae 5)))))))
noncomputable def nU:Fn:=aD 2 3
  (ao (aw 2 (ai cG (ai bx (ai aA (ai aA (ai cG (ae 0) (ah (.int 1000000007))) (ai bx (ah (.int 7919)) (ae 1))) (ah (.int 101))) (ah (.int 48271))) (ah (.int 2147483647))))
  (az (ai cG (ai bx (ai cG (ai bx (ae 2) (ae 2)) (ah (.int 2147483629))) (ah (.int 69621))) (ah (.int 2147483647)))))
def j8:SS :=
  (aw 2 (ai aA (ai bx (ae 2) (ai bx (ai cH (ah (.int 10)) (ah (.int 60))) (ai cH (ah (.int 10)) (ah (.int 60))))) (ai cG (ai aC (ae 0) (ae 3)) (ai bx (ai cH (ah (.int 10)) (ah (.int 60))) (ai cH (ah (.int 10)) (ah (.int 60)))))))
noncomputable def j9:SS :=
  (aw 4 (ai aA (ai bx (ae 4) (ah (.int 2147483647))) (aE nU (aj (ai aA (ai aA (ae 2) (ai bx (ah (.int 1009)) (ae 1))) (aE aP (aj (ae 0) af))) (aj (ae 3) af)))))
def eY:Fn:=aD 2 5
  (ao (aw 2 (ah (.int 0)))
  (ao (aV (ie (ae 1) (aE aP (aj (ae 0) af)) (ah (.int 12))) (.nm 3) j8)
  (ao (bE (aZ (ai qB (ae 2) (ai cH (ah (.int 10)) (ah (.int 18))))) (az (df (aj (ae 2) af))) bG)
  (ao (aw 2 (ai aA (ae 2) (aE fA (aj (dF [] (bh (ae 0)) bU (ai cG (ae 0) (ai cH (ah (.int 10)) (ah (.int 18))))) af))))
  (ao (aw 4 (ah (.int 0)))
  (ao (aV (dw (ah (.int 12))) (.nm 3) j9)
  (az (df (aj (ae 4) af)))))))))
noncomputable def nV:Fn:=aD 1 1
  (az (nj (dy "int" (ae 0)) (vV (dy "bool" (ae 0)))))
noncomputable def nW:Fn:=aD 2 2
  (az (nj (aE nV (aj (ae 1) af)) (kO fX fX (ah (.int 1)) (ae 1) (aE aP (aj (Sm.sFld 0 0 (ae 0)) af)))))
noncomputable def jx:Fn:=aD 2 2
  (bE (du (gF (aL 0 nW (ae 0) (aj (ae 1) af)))) (g7 2 (aj (ah (.str "no piece of the shelf has this number")) af)) bG)
def iR:Fn:=aD 3 4
  (ao (bO (aL 0 jx (ae 0) (aj (ae 1) af)))
  (ao (bO (aL 0 jx (ae 0) (aj (ae 2) af)))
  (ao (aw 3 (ai aA (ai aC (Sm.sFld 0 2 (ae 0)) (ai aC (Sm.sFld 0 7 (ae 0)) (ae 1))) (ai aC (Sm.sFld 0 2 (ae 0)) (ai aC (Sm.sFld 0 6 (ae 0)) (ae 2)))))
  (ao (bE (aZ (ai fX (ae 3) (ah (.int 8)))) (g7 3 (aj (ah (.str "the leaves where the parts meet have no more than eight signs together")) af)) bG)
  (ao (bE (aZ (ai iE (aE jl (aj (ai dO (ai aC (Sm.sFld 0 5 (ae 0)) (ae 1)) (ai aC (Sm.sFld 0 5 (ae 0)) (ae 2))) af)) (ah (.int 1)))) (g7 4 (aj (ah (.str "the heights of the parts differ by more than one")) af)) bG)
  (bE (aZ (ai iE (ai aA (ai aC (Sm.sFld 0 2 (ae 0)) (ae 1)) (ai aC (Sm.sFld 0 2 (ae 0)) (ae 2))) (ah (.int 1000000000000000000)))) (g7 5 (aj (ah (.str "the fork would have more than 10 ** 18 signs")) af)) bG))))))
def lE:Fn:=aD 2 3
  (ao (bO (c7 bo bJ (Sm.sFld 0 0 (ae 0)) (aj (ae 1) af)))
  (ao (aw 2 (aE aP (aj (Sm.sFld 0 0 (ae 0)) af)))
  (ao (iF (Sm.sFld 0 1 (ae 0)) (ae 1) (ae 2))
  (az (ae 2)))))
def lF:Fn:=aD 2 4
  (ao (bO (aL 0 lE (ae 0) (aj (ae 1) af)))
  (ao (aw 2 (ai aC (ae 1) (ah (.int 1))))
  (ao (aw 3 (ai aC (ae 1) (ah (.int 2))))
  (ao (bO (c7 bo bJ (Sm.sFld 0 2 (ae 0)) (aj (ai aA (ai aC (Sm.sFld 0 2 (ae 0)) (ae 2)) (ai aC (Sm.sFld 0 2 (ae 0)) (ae 3))) af)))
  (ao (bO (c7 bo bJ (Sm.sFld 0 3 (ae 0)) (aj (ai aA (ai aC (Sm.sFld 0 3 (ae 0)) (ae 2)) (ai aC (Sm.sFld 0 3 (ae 0)) (ae 3))) af)))
  (ao (bO (c7 bo bJ (Sm.sFld 0 4 (ae 0)) (aj (ai aA (ai aC (Sm.sFld 0 4 (ae 0)) (ae 2)) (ai aC (Sm.sFld 0 4 (ae 0)) (ae 3))) af)))
  (ao (bO (c7 bo bJ (Sm.sFld 0 5 (ae 0)) (aj (ai aA (aE qD (aj (ai aC (Sm.sFld 0 5 (ae 0)) (ae 2)) (aj (ai aC (Sm.sFld 0 5 (ae 0)) (ae 3)) af))) (ah (.int 1))) af)))
  (ao (bO (c7 bo bJ (Sm.sFld 0 6 (ae 0)) (aj (ai aC (Sm.sFld 0 6 (ae 0)) (ae 2)) af)))
  (bO (c7 bo bJ (Sm.sFld 0 7 (ae 0)) (aj (ai aC (Sm.sFld 0 7 (ae 0)) (ae 3)) af)))))))))))
def aQ:Fn:=aD 3 4
  (ao (bO (aL 0 iR (ae 0) (aj (ae 1) (aj (ae 2) af))))
  (ao (aw 3 (je (aj (ah (.str "fork")) (aj (ae 1) (aj (ae 2) af)))))
  (ao (bE (aZ (ai gG (ae 3) (Sm.sFld 0 1 (ae 0)))) (bO (aL 0 lF (ae 0) (aj (ae 3) af))) bG)
  (az (ai aC (Sm.sFld 0 1 (ae 0)) (ae 3))))))
def r8 (G:Fn):Fn:=aD 2 3
  (ao (bE (aZ (ai aS (aE aP (aj (ae 1) af)) (ah (.int 1)))) (az (ai aC (ae 1) (ah (.int 0)))) bG)
  (ao (aw 2 (ai fv (aE aP (aj (ae 1) af)) (ah (.int 2))))
  (az (aL 0 aQ (ae 0) (aj (aE G (aj (ae 0) (aj (cD (ae 1) none (some (ae 2))) af))) (aj (aE G (aj (ae 0) (aj (cD (ae 1) (some (ae 2)) none) af))) af))))))
def gj:Nat->Fn
 | 0=>aD 2 3 (λ_ _=>.bad)
 | d+1=>r8 (gj d)
noncomputable def lG:Fn:=aD 1 1
  (az (kN (ai aS (ae 0) (ah (.str "\n"))) (kO fX fX (ah (.str " ")) (ae 0) (ah (.str "~")))))
def lH:Fn:=aD 1 1
  (ao (bE (du (gF (dy "str" (ae 0)))) (az (ah (.bl false))) bG)
  (az (aE jm (aj (dF [] (bh (ae 0)) bU (aE lG (aj (ae 0) af))) af))))
def nX:Fn:=aD 1 1
  (az (nj (aE lH (aj (ae 0) af)) (kO fX fX (ah (.int 1)) (aE aP (aj (ae 0) af)) (ah (.int 8)))))
noncomputable def nY:Fn:=aD 1 1
  (az (c7 nu qE (ae 0) (aj (ah (.str "\n")) af)))
def lI:Fn:=aD 2 4
  (ao (aw 2 (aL 0 lE (ae 0) (aj (ae 1) af)))
  (ao (aw 3 (ai aC (ae 1) (ah (.int 1))))
  (ao (bO (c7 bo bJ (Sm.sFld 0 2 (ae 0)) (aj (aE aP (aj (ae 3) af)) af)))
  (ao (bO (c7 bo bJ (Sm.sFld 0 3 (ae 0)) (aj (aE nY (aj (ae 3) af)) af)))
  (ao (bO (c7 bo bJ (Sm.sFld 0 4 (ae 0)) (aj (ah (.int 1)) af)))
  (ao (bO (c7 bo bJ (Sm.sFld 0 5 (ae 0)) (aj (ah (.int 0)) af)))
  (ao (bO (c7 bo bJ (Sm.sFld 0 6 (ae 0)) (aj (ae 2) af)))
  (bO (c7 bo bJ (Sm.sFld 0 7 (ae 0)) (aj (ae 2) af))))))))))
def eZ:Fn:=aD 2 3
  (ao (bE (du (gF (aE nX (aj (ae 1) af)))) (g7 1 (aj (ah (.str "a leaf is a plain text of one to eight signs")) af)) bG)
  (ao (aw 2 (je (aj (ah (.str "leaf")) (aj (ae 1) af))))
  (ao (bE (aZ (ai gG (ae 2) (Sm.sFld 0 1 (ae 0)))) (bO (aL 0 lI (ae 0) (aj (ae 2) af))) bG)
  (az (ai aC (Sm.sFld 0 1 (ae 0)) (ae 2))))))
def jy:Fn:=aD 2 3
  (ao (bE (du (gF (aE lH (aj (ae 1) af)))) (g7 1 (aj (ah (.str "a text is built of a plain text")) af)) bG)
  (ao (bE (aZ (ai iE (aE aP (aj (ae 1) af)) (ah (.int 10000)))) (g7 5 (aj (ah (.str "a text is built of ten thousand signs at most")) af)) bG)
  (ao (bE (aZ (ai aS (ae 1) (ah (.str "")))) (az (ah (.int 0))) bG)
  (ao (aw 2 (dF [0,1] (ie (ah (.int 0)) (aE aP (aj (ae 1) af)) (ah (.int 8))) bU (aL 0 eZ (ae 1) (aj (cD (ae 2) (some (ae 0)) (some (ai aA (ae 0) (ah (.int 8))))) af))))
  (az (aE (gj 20) (aj (ae 0) (aj (ae 2) af))))))))
noncomputable def nZ:Fn:=aD 1 1
  (bE (aZ (ai iE (ae 0) (ah (.int 1000000000000000000)))) (g7 5 (aj (ah (.str "the text would have more than 10 ** 18 signs")) af)) bG)
noncomputable def iS:Fn:=aD 2 2
  (bE (aZ (ai cB (ae 1) (ah (.int 0)))) (bO (aL 0 jx (ae 0) (aj (ae 1) af))) bG)
def ig:Fn:=aD 2 2
  (ao (bO (aL 0 iS (ae 0) (aj (ae 1) af)))
  (az (ai aC (Sm.sFld 0 2 (ae 0)) (ae 1))))
def lJ:Fn:=aD 2 2
  (ao (bO (aL 0 iS (ae 0) (aj (ae 1) af)))
  (az (ai aC (Sm.sFld 0 7 (ae 0)) (ae 1))))
def lK:Fn:=aD 2 2
  (ao (bO (aL 0 iS (ae 0) (aj (ae 1) af)))
  (az (ai aC (Sm.sFld 0 6 (ae 0)) (ae 1))))
def n8:Fn:=aD 3 3
  (az (ai iE (ai aA (aL 0 ig (ae 0) (aj (aL 0 lJ (ae 0) (aj (ae 1) af)) af)) (aL 0 ig (ae 0) (aj (aL 0 lK (ae 0) (aj (ae 2) af)) af))) (ah (.int 8))))
def c4:Fn:=aD 2 2
  (ao (bO (aL 0 jx (ae 0) (aj (ae 1) af)))
  (az (ai aC (Sm.sFld 0 0 (ae 0)) (ai dO (ae 1) (ah (.int 1))))))
def r9 (G:Fn):Fn:=aD 3 4
  (ao (aw 3 (aL 0 c4 (ae 0) (aj (ae 1) af)))
  (ao (bE (aZ (ai aS (ai aC (ae 3) (ah (.int 0))) (ah (.str "leaf")))) (az (ae 2)) bG)
  (az (aL 0 aQ (ae 0) (aj (ai aC (ae 3) (ah (.int 1))) (aj (aE G (aj (ae 0) (aj (ai aC (ae 3) (ah (.int 2))) (aj (ae 2) af)))) af))))))
def fL:Nat->Fn
 | 0=>aD 3 4 (λ_ _=>.bad)
 | d+1=>r9 (fL d)
def fE:Fn:=aD 2 2
  (ao (bO (aL 0 iS (ae 0) (aj (ae 1) af)))
  (az (ai aC (Sm.sFld 0 5 (ae 0)) (ae 1))))
def e7:Fn:=aD 3 7
  (ao (bE (aZ (ai kM (ai dO (aL 0 fE (ae 0) (aj (ae 2) af)) (aL 0 fE (ae 0) (aj (ae 1) af))) (ah (.int 2)))) (az (aL 0 aQ (ae 0) (aj (ae 1) (aj (ae 2) af)))) bG)
  (ao (aw 3 (aL 0 c4 (ae 0) (aj (ae 2) af)))
  (ao (aw 4 (ai aC (ae 3) (ah (.int 1))))
  (ao (aw 5 (ai aC (ae 3) (ah (.int 2))))
  (ao (bE (aZ (ai fX (aL 0 fE (ae 0) (aj (ae 4) af)) (aL 0 fE (ae 0) (aj (ae 5) af)))) (az (aL 0 aQ (ae 0) (aj (aL 0 aQ (ae 0) (aj (ae 1) (aj (ae 4) af))) (aj (ae 5) af)))) bG)
  (ao (aw 6 (aL 0 c4 (ae 0) (aj (ae 4) af)))
  (az (aL 0 aQ (ae 0) (aj (aL 0 aQ (ae 0) (aj (ae 1) (aj (ai aC (ae 6) (ah (.int 1))) af))) (aj (aL 0 aQ (ae 0) (aj (ai aC (ae 6) (ah (.int 2))) (aj (ae 5) af))) af))))))))))
def n9 (G:Fn):Fn:=aD 2 4
  (ao (aw 2 (aL 0 c4 (ae 0) (aj (ae 1) af)))
  (ao (bE (aZ (ai aS (ai aC (ae 2) (ah (.int 0))) (ah (.str "leaf")))) (az (ah (.int 0))) bG)
  (ao (aw 3 (aE G (aj (ae 0) (aj (ai aC (ae 2) (ah (.int 1))) af))))
  (ao (bE (aZ (ai aS (ae 3) (ah (.int 0)))) (az (ai aC (ae 2) (ah (.int 2)))) bG)
  (az (aE e7 (aj (ae 0) (aj (ae 3) (aj (ai aC (ae 2) (ah (.int 2))) af)))))))))
def d8:Nat->Fn
 | 0=>aD 2 4 (λ_ _=>.bad)
 | d+1=>n9 (d8 d)
def gn:Fn:=aD 3 7
  (ao (bE (aZ (ai kM (ai dO (aL 0 fE (ae 0) (aj (ae 1) af)) (aL 0 fE (ae 0) (aj (ae 2) af))) (ah (.int 2)))) (az (aL 0 aQ (ae 0) (aj (ae 1) (aj (ae 2) af)))) bG)
  (ao (aw 3 (aL 0 c4 (ae 0) (aj (ae 1) af)))
  (ao (aw 4 (ai aC (ae 3) (ah (.int 1))))
  (ao (aw 5 (ai aC (ae 3) (ah (.int 2))))
  (ao (bE (aZ (ai fX (aL 0 fE (ae 0) (aj (ae 5) af)) (aL 0 fE (ae 0) (aj (ae 4) af)))) (az (aL 0 aQ (ae 0) (aj (ae 4) (aj (aL 0 aQ (ae 0) (aj (ae 5) (aj (ae 2) af))) af)))) bG)
  (ao (aw 6 (aL 0 c4 (ae 0) (aj (ae 5) af)))
  (az (aL 0 aQ (ae 0) (aj (aL 0 aQ (ae 0) (aj (ae 4) (aj (ai aC (ae 6) (ah (.int 1))) af))) (aj (aL 0 aQ (ae 0) (aj (ai aC (ae 6) (ah (.int 2))) (aj (ae 2) af))) af))))))))))
def oa (G:Fn):Fn:=aD 3 5
  (ao (aw 3 (ai dO (aL 0 fE (ae 0) (aj (ae 1) af)) (aL 0 fE (ae 0) (aj (ae 2) af))))
  (ao (bE (aZ (ai iE (ae 3) (ah (.int 1)))) (ao (aw 4 (aL 0 c4 (ae 0) (aj (ae 1) af)))
  (az (aE e7 (aj (ae 0) (aj (ai aC (ae 4) (ah (.int 1))) (aj (aE G (aj (ae 0) (aj (ai aC (ae 4) (ah (.int 2))) (aj (ae 2) af)))) af)))))) bG)
  (ao (bE (aZ (ai kM (ae 3) (cW cP (ah (.int 1))))) (ao (aw 4 (aL 0 c4 (ae 0) (aj (ae 2) af)))
  (az (aE gn (aj (ae 0) (aj (aE G (aj (ae 0) (aj (ae 1) (aj (ai aC (ae 4) (ah (.int 1))) af)))) (aj (ai aC (ae 4) (ah (.int 2))) af)))))) bG)
  (az (aL 0 aQ (ae 0) (aj (ae 1) (aj (ae 2) af)))))))
def dX:Nat->Fn
 | 0=>aD 3 5 (λ_ _=>.bad)
 | d+1=>oa (dX d)
def jz:Fn:=aD 3 6
  (ao (aw 3 (ai aA (ai aC (aL 0 c4 (ae 0) (aj (aL 0 lJ (ae 0) (aj (ae 1) af)) af)) (ah (.int 1))) (ai aC (aL 0 c4 (ae 0) (aj (aL 0 lK (ae 0) (aj (ae 2) af)) af)) (ah (.int 1)))))
  (ao (aw 4 (aE (fL 90) (aj (ae 0) (aj (ae 1) (aj (aL 0 eZ (ae 0) (aj (ae 3) af)) af)))))
  (ao (aw 5 (aE (d8 90) (aj (ae 0) (aj (ae 2) af))))
  (ao (bE (aZ (ai aS (ae 5) (ah (.int 0)))) (az (ae 4)) bG)
  (az (aE (dX 90) (aj (ae 0) (aj (ae 4) (aj (ae 5) af)))))))))
def fM:Fn:=aD 3 3
  (ao (bO (aE nZ (aj (ai aA (aL 0 ig (ae 0) (aj (ae 1) af)) (aL 0 ig (ae 0) (aj (ae 2) af))) af)))
  (ao (bE (aZ (ai aS (ae 1) (ah (.int 0)))) (az (ae 2)) bG)
  (ao (bE (aZ (ai aS (ae 2) (ah (.int 0)))) (az (ae 1)) bG)
  (ao (bE (gF (aE n8 (aj (ae 0) (aj (ae 1) (aj (ae 2) af))))) (az (aE (dX 90) (aj (ae 0) (aj (ae 1) (aj (ae 2) af))))) bG)
  (az (aE jz (aj (ae 0) (aj (ae 1) (aj (ae 2) af)))))))))
def iT:SS :=
  (ao (aw 5 (ai aA (ah (.int 1)) (aE cq (aj (ae 1) (aj (ah (.int 12)) af)))))
  (ao (bO (c7 bo bJ (ae 4) (aj (cD (ae 2) none (some (ae 5))) af)))
  (aw 2 (cD (ae 2) (some (ae 5)) none))))
def ij:SS :=
  (aw 6 (aE fM (aj (ae 0) (aj (ae 6) (aj (aE jy (aj (ae 0) (aj (ae 7) af))) af)))))
def ip:SS :=
  (aw 6 (aE fM (aj (ae 0) (aj (aE jy (aj (ae 0) (aj (ae 7) af))) (aj (ae 6) af)))))
def iq:Fn:=aD 3 8
  (ao (aw 3 (aE cq (aj (ae 1) (aj (ah (.int 3)) af))))
  (ao (bE (aZ (ai aS (ae 3) (ah (.int 0)))) (az (aE jy (aj (ae 0) (aj (ae 2) af)))) bG)
  (ao (aw 4 (df af))
  (ao (dP (aZ (ai cB (ae 2) (ah (.str "")))) iT fZ)
  (ao (aw 6 (ah (.int 0)))
  (ao (bE (aZ (ai aS (ae 3) (ah (.int 1)))) (aV (bh (ae 4)) (.nm 7) ij) (jt (ae 4) (.nm 7) ip))
  (az (ae 6))))))))
def jA:SS :=
  (ao (aw 6 (aE cq (aj (ae 4) (aj (ai aA (aE aP (aj (ae 2) af)) (ah (.int 1))) af))))
  (ao (aw 7 (ai aA (ae 6) (aE cq (aj (ae 4) (aj (ai dO (ai aA (aE aP (aj (ae 2) af)) (ah (.int 1))) (ae 6)) af)))))
  (bO (c7 bo bJ (ae 3) (aj (aE iq (aj (ae 0) (aj (ae 4) (aj (cD (ae 2) (some (ae 6)) (some (ae 7))) af)))) af)))))
def og:Fn:=aD 2 8
  (ao (aw 2 (aE lC (aj (aE eY (aj (ae 1) (aj (ah (.int 0)) af))) (aj (ah (.int 40)) af))))
  (ao (aw 3 (df (aj (ah (.int 0)) (aj (aE iq (aj (ae 0) (aj (aE eY (aj (ae 1) (aj (ah (.int 1)) af))) (aj (ae 2) af)))) af))))
  (ao (aw 4 (aE eY (aj (ae 1) (aj (ah (.int 2)) af))))
  (ao (aV (dw (ah (.int 3))) (.nm 5) jA)
  (az (ae 3))))))
noncomputable def iU:Fn:=aD 1 1
  (az (aE aP (aj (Sm.sFld 0 0 (ae 0)) af)))
def gO:SS :=
  (bE (aZ (ai d7 (ae 3) (ae 1))) (ao (bO (c7 bo bJ (ae 2) (aj (ae 3) af)))
  (ao (aw 4 (aL 0 c4 (ae 0) (aj (ae 3) af)))
  (bE (aZ (ai aS (ai aC (ae 4) (ah (.int 0))) (ah (.str "fork")))) (aw 1 (ai aA (ae 1) (bM (aj (ai aC (ae 4) (ah (.int 1))) (aj (ai aC (ae 4) (ah (.int 2))) af))))) bG))) bG)
def fg:Fn:=aD 2 5
  (ao (aw 2 (df af))
  (ao (aV (j6 (aL 0 iU (ae 0) af) (ah (.int 0)) (cW cP (ah (.int 1)))) (.nm 3) gO)
  (az (nP (ae 2) (cW cP (ah (.int 1)))))))
def lL:Fn:=aD 2 3
  (ao (aw 2 (aL 0 c4 (ae 0) (aj (ae 1) af)))
  (ao (bE (aZ (ai aS (ai aC (ae 2) (ah (.int 0))) (ah (.str "leaf")))) (az (bM af)) bG)
  (az (bM (aj (ai aC (ae 2) (ah (.int 1))) (aj (ai aC (ae 2) (ah (.int 2))) af))))))
def iV:SS :=
  (ao (aw 4 (g9 bo dR (ae 3)))
  (bE (aZ (ai gG (ae 4) (ae 2))) (ao (iF (ae 2) (ae 4) (ah (.bl true)))
  (bO (c7 bo jX (ae 3) (aj (aE lL (aj (ae 0) (aj (ae 4) af))) af)))) bG))
def gp:Fn:=aD 2 5
  (ao (aw 2 (jg false))
  (ao (aw 3 (ji [] (bh (ae 1)) (aZ (ai cB (ae 0) (ah (.int 0)))) (ae 0)))
  (ao (dP (aZ (ai cB (ae 3) (bM af))) iV fZ)
  (az (aE lh (aj (ae 2) af))))))
def lN:Fn:=aD 2 5
  (ao (aw 2 (aE fg (aj (ae 0) (aj (ae 1) af))))
  (ao (aw 3 (aE jO (aj (ae 1) af)))
  (ao (aw 4 (aE gp (aj (ae 0) (aj (ae 3) af))))
  (ao (bE (nh (du (gF (dy "list" (ae 4)))) (nh (aZ (ai cB (ae 4) (ae 2))) (aZ (ai cB (ae 3) (ae 1))))) (az (ah (.bl false))) bG)
  (ao (bO (c7 bo bJ (ae 4) (aj (ah (.int 0)) af)))
  (ao (bO (g9 bo jW (ae 4)))
  (az (ai aS (aE gp (aj (ae 0) (aj (ae 3) af))) (ae 2)))))))))
def lO:Fn:=aD 3 5
  (ao (aw 3 (aE gp (aj (ae 0) (aj (bM (aj (ae 1) af)) af))))
  (ao (aw 4 (aE gp (aj (ae 0) (aj (bM (aj (ae 2) af)) af))))
  (az (j7 3 4))))
def jB:SS :=
  (ao (aw 6 (dF [2,4] (dw (aE cq (aj (ae 4) (aj (ah (.int 6)) af)))) bU (ai aC (ae 1) (aE cq (aj (ae 2) (aj (aE aP (aj (ae 1) af)) af))))))
  (bE (du (gF (aE lN (aj (ae 1) (aj (ae 6) af))))) (az (ah (.bl false))) bG))
def jC:SS :=
  (ao (aw 11 (aE lO (aj (ae 1) (aj (ae 7) (aj (ae 8) af)))))
  (ao (bE (nh (du (gF (dy "list" (ae 11)))) (aZ (ai cB (ae 11) (ae 10)))) (az (ah (.bl false))) bG)
  (bO (c7 bo bJ (ae 11) (aj (ah (.int 0)) af)))))
def lP:SS :=
  (ao (aw 9 (aE fg (aj (ae 1) (aj (bM (aj (ae 7) af)) af))))
  (ao (aw 10 (dF [9] (bh (aE fg (aj (ae 1) (aj (bM (aj (ae 8) af)) af)))) (aZ (ai d7 (ae 0) (ae 1))) (ae 0)))
  (aV (dw (ah (.int 2))) (.nm 5) jC)))
def ka:SS :=
  (aV (bh (ae 2)) (.nm 8) lP)
def sf:Fn:=aD 1 12
  (ao (aw 1 (nk 0 8 lq af))
  (ao (aw 2 (aE og (aj (ae 1) (aj (ae 0) af))))
  (ao (aw 3 (aL 0 iU (ae 1) af))
  (ao (aw 4 (aE eY (aj (ae 0) (aj (ah (.int 3)) af))))
  (ao (aV (dw (ah (.int 8))) (.nm 5) jB)
  (ao (bE (du (gF (aE lN (aj (ae 1) (aj (aE lj (aj (ae 3) (aj (cW cP (ah (.int 1))) (aj (cW cP (ah (.int 1))) af)))) af))))) (az (ah (.bl false))) bG)
  (ao (aV (bh (ae 2)) (.nm 7) ka)
  (az (ai aS (aL 0 iU (ae 1) af) (ae 3))))))))))
end Sk
set_option exponentiation.threshold 2000
namespace Sk
open PySem PySem.Spec L2 Sm
theorem xU {w:Option Nat} {all:List AV} {t:Tg} {b:SS} (P:Nat->En->AH->Prop):∀ (xs:List AV) (i:Nat) (en:En) (h:AH),P i en h ->
  (∀ i en h,P i en h->cZ w all h=true) ->
  (∀ (j:Nat) (x:AV) (en:En) (h:AH),xs[j]? = some x->P (i+j) en h->∃ e1 e2 h2,fw t x en=some e1/\(b e1 h = .nx e2 h2\/b e1 h = .ct e2 h2)/\P (i+j+1) e2 h2) ->
  ∃ e' h',dE w all t b xs en h = .nx e' h'/\P (i+xs.length) e' h'
 | [],i,en,h,p,lv,_=>⟨en,h,by unfold dE;rw [JG (lv _ _ _ p)],p⟩
 | x::xs,i,en,h,p,lv,s=>by
  obtain ⟨e1,e2,h2,q1,q2,q3⟩:=s 0 x en h rfl p
  obtain ⟨e',h',r1,r2⟩:=xU P xs (i+1) e2 h2 q3 lv λj y en h e q=>by
   have:=s (j+1) y en h (by simpa using e) (by rw [show i+(j+1)=i+1+j by lia];exact q)
   rw [show i+(j+1)+1=i+1+j+1 by lia] at this
   exact this
  refine ⟨e',h',?_,by rw [Kj,show i+(xs.length+1)=i+1+xs.length by lia];exact r2⟩
  unfold dE
  rw [JG (lv _ _ _ p)]
  simp only [q1]
  rcases q2 with q2 | q2
  ·rw [q2];exact r1
  ·rw [q2];exact r1
theorem lQ {α:Type} {js:List Nat} {en:En} {w:Option Nat} {all:List AV} {c:SB} {e:SE} {g f:α->AV} {p:α->Bool} {h:AH} (lv:cZ w all h=true):∀ (cs:List α) (ys:List AV),(∀ x∈cs,c (some (g x)::js.map λj=>(en[j]?).join) h = .ok (p x) h)->(∀ x∈cs,p x=true->e (some (g x)::js.map λj=>(en[j]?).join) h = .ok (f x) h)->ys.length+cs.length<=sizeLine ->
  dh js en w all c e (cs.map g) ys h = .ok (ys++(cs.filter p).map f) h
 | [],ys,_,_,_=>by rw [Nr];unfold dh;rw [JG lv];simp
 | x::xs,ys,hc,he,hl=>by
  have hl':ys.length<sizeLine:=by simp at hl;lia
  rw [J8]
  unfold dh
  rw [JG ⟨lv,hl'⟩,hc x (by simp)]
  cases hp:p x with
  | false =>
   dsimp only
   rw [lQ lv xs ys (λy hy=>hc y (by simp [hy])) (λy hy=>he y (by simp [hy])) (by simp at hl ⊢;lia)]
   simp [List.filter_cons,hp]
  | true =>
   dsimp only
   rw [he x (by simp) hp]
   dsimp only
   rw [lQ lv xs (ys++[f x]) (λy hy=>hc y (by simp [hy])) (λy hy=>he y (by simp [hy])) (by simp at hl ⊢;lia)]
   simp [List.filter_cons,hp]
theorem FG {α:Type} {js:List Nat} {en:En} {w:Option Nat} {all:List AV} {e:SE} {g f:α->AV} {h:AH} (lv:cZ w all h=true) (cs:List α) (ys:List AV) (he:∀ x∈cs,e (some (g x)::js.map λj=>(en[j]?).join) h = .ok (f x) h) (hl:ys.length+cs.length<=sizeLine) :
  dh js en w all bU e (cs.map g) ys h = .ok (ys++cs.map f) h:=by
 rw [lQ (p:=λ_=>true) lv cs ys (λ_ _=>rfl) (λx hx _=>he x hx) hl,List.filter_eq_self.mpr (λ_ _=>rfl)]
theorem xV {c:SB} {b:SS} (P:Nat->En->AH->Prop) (Q:En->AH->Prop):∀ (fuel n:Nat) (en:En) (h:AH),P n en h->n<fuel ->
  (∀ n en h,P n en h->(∃ h1,c en h = .ok false h1/\Q en h1)\/(∃ n' h1 e2 h2,n'<n/\c en h = .ok true h1/\(b en h1 = .nx e2 h2\/b en h1 = .ct e2 h2)/\P n' e2 h2)) ->
  ∃ e' h',dP c b fuel en h = .nx e' h'/\Q e' h'
 | 0,n,en,h,_,l,_=>absurd l (Ml _)
 | fuel+1,n,en,h,p,l,s=>by
  rcases s n en h p with ⟨h1,q1,q2⟩ | ⟨n',h1,e2,h2,q0,q1,q2,q3⟩
  ·refine ⟨en,h1,?_,q2⟩
   unfold dP;rw [q1]
  ·obtain ⟨e',h',r1,r2⟩:=xV P Q fuel n' e2 h2 q3 (by lia) s
   refine ⟨e',h',?_,r2⟩
   unfold dP;rw [q1]
   rcases q2 with q2 | q2
   ·simp only [q2];exact r1
   ·simp only [q2];exact r1
@[simp] def thn (o:dN) (Q:En->AH->Prop):Prop:=match o with
 | .nx e h=>Q e h
 | .ct e h=>Q e h
 | _=>False
theorem xW {o:dN} {Q:En->AH->Prop} (t:thn o Q):∃ e h,(o = .nx e h\/o = .ct e h)/\Q e h:=by
 cases o with
 | nx e h=>exact ⟨e,h,.inl rfl,t⟩
 | ct e h=>exact ⟨e,h,.inr rfl,t⟩
 | _=>exact t.elim
@[simp] def FH (o:Option En) (Q:En->Prop):Prop:=match o with
 | some e=>Q e
 | none=>False
theorem gr {w:Option Nat} {all:List AV} {t:Tg} {b:SS} {xs:List AV} {en:En} {h:AH} (P:Nat->En->AH->Prop) (p0:P 0 en h) (lv:∀ i en h,P i en h->cZ w all h=true)
  (st:∀ (j:Nat) (x:AV) (en:En) (h:AH),xs[j]? = some x->P j en h->FH (fw t x en) λe1=>thn (b e1 h) (P (j+1))) :
  ∃ e' h',dE w all t b xs en h = .nx e' h'/\P xs.length e' h' := by
 have:=xU (w:=w) (all:=all) (t:=t) (b:=b) P xs 0 en h p0 lv λj x en h hx hp=>by
  have q:=st j x en h hx (by simpa using hp)
  cases z:fw t x en with
  | none=>rw [z] at q;exact q.elim
  | some e1 =>
   rw [z] at q
   obtain ⟨e,h2,a,c⟩:=xW q
   exact ⟨e1,e,h2,rfl,a,by simpa using c⟩
 simpa using this
theorem xX {c:SB} {b:SS} {fuel n:Nat} {en:En} {h:AH} (P:Nat->En->AH->Prop) (Q:En->AH->Prop) (p0:P n en h) (hn:n<fuel)
  (st:∀ n en h,P n en h->match c en h with
   | .ok true h1=>thn (b en h1) λe2 h2=>∃ n',n'<n/\P n' e2 h2
   | .ok false h1=>Q en h1
   | _=>False) :
  ∃ e' h',dP c b fuel en h = .nx e' h'/\Q e' h' := by
 refine xV P Q fuel n en h p0 hn λn en h p=>?_
 have q:=st n en h p
 cases z:c en h with
 | ok x h1 =>
  rw [z] at q
  cases x with
  | true =>
   obtain ⟨e,h2,a,n',l,c⟩:=xW q
   exact .inr ⟨n',h1,e,h2,l,rfl,a,c⟩
  | false=>exact .inl ⟨h1,rfl,q⟩
 | ex _ _=>rw [z] at q;exact q.elim
 | bad=>rw [z] at q;exact q.elim
@[simp] def xY (o:Out AV) (Q:AV->AH->Prop):Prop:=match o with
 | .ok v h=>Q v h
 | _=>False
theorem xZ {js:List Nat} {en:En} {all:List AV} {e:SE} (P:Nat->List AV->AH->Prop):∀ (xs ys:List AV) (i:Nat) (h:AH),P i ys h ->
  (∀ j x ys h,xs[j]? = some x->P (i+j) ys h->∃ v h2,e (some x::js.map λj=>(en[j]?).join) h = .ok v h2/\P (i+j+1) (ys++[v]) h2)->ys.length+xs.length<=sizeLine ->
  ∃ zs h',dh js en none all bU e xs ys h = .ok zs h'/\P (i+xs.length) zs h'
 | [],ys,i,h,p,_,_=>⟨ys,h,by simp [dh],p⟩
 | x::xs,ys,i,h,p,s,hl=>by
  obtain ⟨v,h2,q1,q2⟩:=s 0 x ys h rfl p
  obtain ⟨zs,h',r1,r2⟩:=xZ P xs (ys++[v]) (i+1) h2 q2 (λj y ys h hy hp=>by
   have:=s (j+1) y ys h (by simpa using hy) (by rw [show i+(j+1)=i+1+j by lia];exact hp)
   rw [show i+(j+1)+1=i+1+j+1 by lia] at this
   exact this) (by simp at hl ⊢;lia)
  refine ⟨zs,h',?_,by rw [Kj,show i+(xs.length+1)=i+1+xs.length by lia];exact r2⟩
  unfold dh
  rw [JG ⟨rfl,by simp at hl;lia⟩]
  simp only [bU]
  rw [q1]
  exact r1
theorem x4 {js:List Nat} {en:En} {all:List AV} {e:SE} {xs:List AV} {h:AH} (P:Nat->List AV->AH->Prop) (p0:P 0 [] h)
  (st:∀ j x ys h,xs[j]? = some x->P j ys h->xY (e (some x::js.map λj=>(en[j]?).join) h) λv h2=>P (j+1) (ys++[v]) h2) (hl:xs.length<=sizeLine) :
  ∃ zs h',dh js en none all bU e xs [] h = .ok zs h'/\P xs.length zs h' := by
 have:=xZ (js:=js) (en:=en) (all:=all) (e:=e) P xs [] 0 h p0 (λj x ys h hx p=>by
  have q:=st j x ys h hx (by simpa using p)
  cases z:e (some x::js.map λj=>(en[j]?).join) h with
  | ok v h2=>rw [z] at q;exact ⟨v,h2,rfl,by simpa using q⟩
  | ex _ _=>rw [z] at q;exact q.elim
  | bad=>rw [z] at q;exact q.elim) (by simpa using hl)
 simpa using this
theorem x6:∀ (n:Nat) (lo:Int) (i:Nat),(cC lo n)[i]? = if i<n then some (.int (lo+i)) else none
 | 0,lo,i=>by simp [cC]
 | n+1,lo,0=>by simp [cC]
 | n+1,lo,i+1=>by
  unfold cC
  rw [N7,x6 n (lo+1) i]
  by_cases q:i<n
  ·rw [JG q,JG (by lia)];congr 2;lia
  ·rw [JF q,JF (by lia)]
theorem jD:∀ (n:Nat) (lo:Int),(cC lo n).length=n
 | 0,_=>rfl
 | n+1,lo=>by unfold cC;rw [Kj,jD n]
theorem kb {a:SE} {en:En} {h h1:AH} {n:Nat} (e:a en h = .ok (.int n) h1) (hn:n<=10000000):dw a en h = .ok (cC 0 n,none) h1:=by
 have h1':(n:Int).natAbs<2 ^ 62:=by lia
 simp only [dw,e,Out.bind]
 rw [JG h1'];rfl
theorem gP {it:SI} {t:Tg} {b:SS} {en:En} {h h1:AH} {xs:List AV} {w:Option Nat} (e:it en h = .ok (xs,w) h1):aV it t b en h=dE w xs t b xs en h1:=by simp only [aV,e]
theorem FI {i j:Int} {h:AH} (hi:i.natAbs<2 ^ 64):bx (.int i) (.int j) h = .ok (.int (i*j)) h:=JG (.inl (.inl hi))
theorem FJ {i j:Int} {h:AH} (hj:j.natAbs<2 ^ 64):bx (.int i) (.int j) h = .ok (.int (i*j)) h:=JG (.inl (.inr hj))
theorem FK {α:Type} {f:α->AV} {l:List α} {j:Nat} {q:α} (e:l[j]? = some q):atI (l.map f) (j:Int)=some (f q):=pY (by simp [e])
end Sk
set_option exponentiation.threshold 5000
namespace Sk
open PySem PySem.Spec L2 Sm
noncomputable def kd (c:Nat):Bool:=decide (c=10) || (decide (32<=c) && decide (c<=126))
theorem si (a b:Nat):([a]<[b]) ↔ a<b:=by
 simp [List.cons_lt_cons_iff]
theorem x8:(Str.ofString "\n")=⟨#[10]⟩:=by decide +kernel
theorem FL:(Str.ofString " ")=⟨#[32]⟩:=by decide +kernel
theorem FN:(Str.ofString "~")=⟨#[126]⟩:=by decide +kernel
theorem FO (c:Nat) (h:AH):lG [.str ⟨#[c]⟩] h = .ok (.bl (kd c)) h:=by
 simp [lG,x8,FL,FN,si,kd]
 by_cases h1:c=10
 ·simp [h1]
 ·by_cases h2:c<32
  ·have : ¬ 32<=c:=by lia
   simp [h1,h2,this]
  ·have h3:32<=c:=by lia
   by_cases h4:c<=126
   ·have : ¬ 126<c:=by lia
    simp [h1,h2,h3,h4,this]
   ·have:126<c:=by lia
    simp [h1,h2,h3,h4,this]
theorem x9 {α:Type} {js:List Nat} {en:En} {all:List AV} {e:SE} {g f:α->AV} {h:AH}:∀ (cs:List α) (ys:List AV),(∀ c∈cs,e (some (g c)::js.map λj=>(en[j]?).join) h = .ok (f c) h)->ys.length+cs.length<=sizeLine->dh js en none all bU e (cs.map g) ys h = .ok (ys++cs.map f) h
 | [],ys,_,_=>by simp [dh]
 | x::xs,ys,he,hl=>by
  have hl':ys.length<sizeLine:=by simp at hl;lia
  rw [J8]
  unfold dh
  rw [JG ⟨rfl,hl'⟩]
  simp only [bU]
  rw [he x (by simp)]
  dsimp only
  rw [x9 xs (ys++[f x]) (λy hy=>he y (by simp [hy])) (by simp at hl ⊢;lia)]
  simp
theorem ya (f:Nat->Bool):∀ cs:List Nat,kP (cs.map λc=>.bl (f c))=some (cs.map f)
 | []=>rfl
 | c::cs=>by simp [ya f cs]
noncomputable def bj (x:Str):Bool:=x.cps.toList.all kd
theorem yb (x:Str) (h:AH) (hl:x.length<=sizeLine):lH [.str x] h = .ok (.bl (bj x)) h:=by
 have e:=x9 (js:=[]) (en:=[some (.str x)]) (all:=x.cps.toList.map λc=>AV.str ⟨#[c]⟩) (e:=aE lG (aj (ae 0) af)) (g:=λc=>AV.str ⟨#[c]⟩) (f:=λc=>AV.bl (kd c)) (h:=h) x.cps.toList [] (by
  intro c hc
  simp [FO]) (by simp;exact hl)
 simp only [Mj] at e
 simp [lH]
 rw [e]
 simp [ya,bj]
noncomputable def fh (x:Str):Bool:=bj x && (decide (1<=x.length) && decide (x.length<=8))
theorem yc (x:Str) (h:AH) (hl:x.length<=sizeLine):nX [.str x] h = .ok (.bl (fh x)) h:=by
 simp [nX,yb x h hl,fh]
 by_cases h1:bj x=true
 ·by_cases h2:1<=x.length
  ·have:(1:Int)<=x.length:=by lia
   by_cases h3:x.length<=8
   ·have:(x.length:Int)<=8:=by lia
    simp [*]
   ·have : ¬ (x.length:Int)<=8:=by lia
    simp [*]
  ·have : ¬ (1:Int)<=x.length:=by lia
   simp [*]
 ·simp [h1]
noncomputable def iu (x:Str):Nat:=(Builtin.Str.occurrences x ⟨#[10]⟩ 0 x.length (x.length+1)).length
theorem FP (x:Str) (h:AH):nY [.str x] h = .ok (.int (iu x)) h:=by
 simp [nY,x8,iu]
theorem FQ (i:Int) (h:AH):nV [.int i] h = .ok (.bl true) h:=by
 simp [nV]
set_option genInjectivity false in
inductive Pc where
 | leaf (x:Str)
 | fork (a b:Nat)
 deriving DecidableEq
noncomputable def Pc.av:Pc->AV
 | .leaf x=>.tup [.str "leaf",.str x]
 | .fork a b=>.tup [.str "fork",.int a,.int b]
theorem Pc.av_inj:∀ {p q:Pc},p.av=q.av->p=q
 | .leaf x,.leaf y,e=>by simp [Pc.av] at e;rw [e]
 | .leaf x,.fork a b,e=>by simp [Pc.av] at e
 | .fork a b,.leaf x,e=>by simp [Pc.av] at e
 | .fork a b,.fork c d,e=>by simp [Pc.av] at e;rw [OS e.1,OS e.2]
set_option genInjectivity false in
structure Ms where
 sg:Nat
 en:Nat
 lv:Nat
 ht:Int
 fl:Nat
 ll:Nat
noncomputable def ms0:Ms:=⟨0,0,0,-1,0,0⟩
noncomputable def gs (ms:List Ms):Pc->Ms
 | .leaf x=>⟨x.length,iu x,1,0,ms.length,ms.length⟩
 | .fork a b=>⟨(ms.getD a ms0).sg+(ms.getD b ms0).sg,(ms.getD a ms0).en+(ms.getD b ms0).en,(ms.getD a ms0).lv+(ms.getD b ms0).lv,max (ms.getD a ms0).ht (ms.getD b ms0).ht+1,(ms.getD a ms0).fl,(ms.getD b ms0).ll⟩
noncomputable def meas (ps:List Pc):List Ms:=ps.foldl (λms q=>ms++[gs ms q]) [ms0]
theorem sj (ps:List Pc) (q:Pc):meas (ps++[q])=meas ps++[gs (meas ps) q]:=by simp [meas]
theorem c9:∀ ps:List Pc,(meas ps).length=ps.length+1:=by
 have all:∀ (ps:List Pc) (ms:List Ms),(ps.foldl (λms q=>ms++[gs ms q]) ms).length=ms.length+ps.length:=by
  intro ps
  induction ps with
  | nil=>intro ms;rfl
  | cons q r ih=>intro ms;rw [Oo,ih];simp;lia
 intro ps
 rw [meas,all];simp;lia
noncomputable def eI (k:Nat):List Pc->List (AV×AV)
 | []=>[]
 | q::r=>(q.av,.int k)::eI (k+1) r
noncomputable def dD (ps:List Pc):List (AV×AV):=eI 1 ps
theorem oh (q:Pc):∀ (ps:List Pc) (k:Nat),eI k (ps++[q])=eI k ps++[(q.av,.int ((k+ps.length:Nat):Int))]
 | [],k=>by simp [eI]
 | p::r,k=>by
  simp only [List.cons_append,eI,oh q r (k+1)]
  rw [show k+1+r.length=k+(p::r).length by simp;lia]
theorem yd:∀ (ps:List Pc) (k:Nat),(eI k ps).length=ps.length
 | [],_=>rfl
 | p::r,k=>by simp [eI,yd r]
theorem oj {q:Pc}:∀ {ps:List Pc} {k:Nat},q∉ps->aU (eI k ps) q.av=none
 | [],k,_=>rfl
 | p::r,k,h=>by
  have h1 : ¬ p.av=q.av:=λe=>h (by rw [Pc.av_inj e];simp)
  have h2:=oj (q:=q) (ps:=r) (k:=k+1) λz=>h (by simp [z])
  unfold aU at h2 ⊢
  simp only [eI,K1,Kh h1]
  exact h2
theorem sk {q:Pc}:∀ {ps:List Pc} {k i:Nat},ps.Nodup->ps[i]? = some q->aU (eI k ps) q.av=some (.int ((k+i:Nat):Int))
 | [],k,i,_,e=>by simp at e
 | p::r,k,0,n,e=>by simp at e;subst e;simp [aU,eI]
 | p::r,k,i+1,n,e=>by
  simp at e
  have h1 : ¬ p.av=q.av:=λz=>(KO.mp n).1 (by rw [Pc.av_inj z];exact J6 e)
  have h2:=sk (q:=q) (k:=k+1) (KO.mp n).2 e
  unfold aU at h2 ⊢
  simp only [eI,K1,Kh h1]
  rw [h2]
  congr 3
  lia
theorem FR {q:Pc} {ps:List Pc} (h:q∉ps):dQ (dD ps) q.av (.int ((ps.length+1:Nat):Int))=dD (ps++[q]):=by
 unfold dQ
 rw [qV,dD,oj h,dD,oh]
 simp [Mh]
structure ShelfAt (h:AH) (p:Nat) (ps:List Pc):Prop where
 ob:h[p]? = some (.ins 0 [some (.ref (p+1)),some (.ref (p+2)),some (.ref (p+3)),some (.ref (p+4)),some (.ref (p+5)),some (.ref (p+6)),some (.ref (p+7)),some (.ref (p+8))])
 h1:h[p+1]? = some (.lst (ps.map Pc.av))
 h2:h[p+2]? = some (.dct true (dD ps))
 h3:h[p+3]? = some (.lst ((meas ps).map λm=>.int m.sg))
 h4:h[p+4]? = some (.lst ((meas ps).map λm=>.int m.en))
 h5:h[p+5]? = some (.lst ((meas ps).map λm=>.int m.lv))
 h6:h[p+6]? = some (.lst ((meas ps).map λm=>.int m.ht))
 h7:h[p+7]? = some (.lst ((meas ps).map λm=>.int m.fl))
 h8:h[p+8]? = some (.lst ((meas ps).map λm=>.int m.ll))
noncomputable def fi (h:AH) (p:Nat) (ps:List Pc):AH :=
 (((((((h.set (p+1) (.lst (ps.map Pc.av))).set (p+2) (.dct true (dD ps))).set (p+3) (.lst ((meas ps).map λm=>.int m.sg))).set (p+4) (.lst ((meas ps).map λm=>.int m.en))).set (p+5) (.lst ((meas ps).map λm=>.int m.lv))).set
  (p+6) (.lst ((meas ps).map λm=>.int m.ht))).set (p+7) (.lst ((meas ps).map λm=>.int m.fl))).set (p+8) (.lst ((meas ps).map λm=>.int m.ll))
theorem bY {h:AH} {i:Nat} {o:AO} (e:h[i]? = some o):i<h.length:=(JA.mp e).1
theorem ye (h:AH) (p:Nat) (ps:List Pc):(fi h p ps).length=h.length:=by simp [fi]
theorem yf {h:AH} {p q:Nat} {ps:List Pc} (hq:q<=p\/p+8<q):(fi h p ps)[q]? = h[q]? := by
 unfold fi
 repeat rw [JX (by lia)]
theorem om {h:AH} {p:Nat} {ps ps':List Pc} (S:ShelfAt h p ps):ShelfAt (fi h p ps') p ps' := by
 have b:=bY S.h8
 have l1:p+1<h.length:=J9 (Ko (by decide) p) b
 have l2:p+2<h.length:=J9 (Ko (by decide) p) b
 have l3:p+3<h.length:=J9 (Ko (by decide) p) b
 have l4:p+4<h.length:=J9 (Ko (by decide) p) b
 have l5:p+5<h.length:=J9 (Ko (by decide) p) b
 have l6:p+6<h.length:=J9 (Ko (by decide) p) b
 have l7:p+7<h.length:=J9 (Ko (by decide) p) b
 have ob:=S.ob
 constructor<;>simp [fi,NQ,l1,l2,l3,l4,l5,l6,l7,b,ob,-List.getElem?_eq_getElem]
theorem su {α:Type} (l:List α) (f:α->AV):(l.map f).length=l.length:=by simp
theorem sv {h:AH} {p:Nat} {ps:List Pc} (S:ShelfAt h p ps):iU [.ref p] h = .ok (.int ps.length) h:=by
 simp [iU,S.ob,S.h1]
theorem FS {h:AH} {p:Nat} {ps:List Pc} {i:Int} (S:ShelfAt h p ps):nW [.ref p,.int i] h = .ok (.bl (decide (1<=i/\i<=ps.length))) h:=by
 simp [nW,FQ,S.ob,S.h1]
 by_cases h1:1<=i<;>simp [h1]
theorem oo {h:AH} {p:Nat} {ps:List Pc} {i:Int} (S:ShelfAt h p ps) (hi:1<=i/\i<=ps.length):jx [.ref p,.int i] h = .ok .non h:=by
 simp [jx,FS S,S.ob,hi.1,hi.2]
theorem cK {α:Type} {f:α->AV} {l:List α} {j:Nat} {q:α} (e:l[j]? = some q):atI (l.map f) (j:Int)=some (f q):=pY (by simp [e])
theorem FT {h:AH} {p:Nat} {ps:List Pc} {j:Nat} {q:Pc} (S:ShelfAt h p ps) (e:ps[j]? = some q):c4 [.ref p,.int ((j:Int)+1)] h = .ok q.av h:=by
 have hj:=(JA.mp e).1
 have h1:=oo S (i:=(j:Int)+1) ⟨by lia,by lia⟩
 simp [c4,h1,S.ob,S.h1,cK e]
theorem yg {h:AH} {p:Nat} {ps:List Pc} {q:Pc} (S:ShelfAt h p ps) (hq:q∉ps) (hl:ps.length<16000000) :
  lE [.ref p,q.av] h = .ok (.int ((ps.length+1:Nat):Int)) ((h.set (p+1) (.lst ((ps++[q]).map Pc.av))).set (p+2) (.dct true (dD (ps++[q])))):=by
 have b:=bY S.h8
 have hs:ps.length<sizeLine:=Lz hl (by decide)
 have ht:(dD ps).length<sizeLine:=by rw [dD,yd];exact hs
 have hk:fJ true q.av=true:=by cases q<;>simp [Pc.av]
 have e1:(h.set (p+1) (.lst (ps.map Pc.av++[q.av])))[p]? = h[p]? := JX (by lia)
 have e2:(h.set (p+1) (.lst (ps.map Pc.av++[q.av])))[p+1]? = some (.lst (ps.map Pc.av++[q.av])):=J0 (by lia)
 have e3:(h.set (p+1) (.lst (ps.map Pc.av++[q.av])))[p+2]? = h[p+2]? := JX (by lia)
 have tp:=FR hq
 simp [lE,S.ob,S.h1,hs,e1,e2,e3,S.h2,hk,ht,-fJ]
 rw [show ((ps.length:Int)+1)=((ps.length+1:Nat):Int) by simp,tp]
theorem FU {h:AH} {p:Nat} {ps:List Pc} {x:Str} (S:ShelfAt h p ps) (hq:Pc.leaf x∉ps) (hl:ps.length<16000000) :
  lI [.ref p,(Pc.leaf x).av] h = .ok .non (fi h p (ps++[.leaf x])):=by
 have b:=bY S.h8
 have hs:ps.length+1<sizeLine:=JZ (L5 hl) (by decide)
 have hm:(meas ps).length<sizeLine:=by rw [c9];exact hs
 have e:=yg S hq hl
 have b2:((meas ps).length:Int)=(ps.length:Int)+1:=by rw [c9];simp
 have e2:aC (Pc.leaf x).av (.int 1)=λh=>Out.ok (.str x) h:=by funext h;rfl
 have l1:p+1<h.length:=by lia
 have l2:p+2<h.length:=by lia
 have l3:p+3<h.length:=by lia
 have l4:p+4<h.length:=by lia
 have l5:p+5<h.length:=by lia
 have l6:p+6<h.length:=by lia
 have l7:p+7<h.length:=by lia
 simp [lI,e,S.ob,S.h3,S.h4,S.h5,S.h6,S.h7,S.h8,hm,FP,NQ,sj,gs,fi,e2,c9,hs,-aC,-List.getElem?_eq_getElem]
theorem yh {α:Type} {l:List α} {i:Nat} {d x:α} (e:l[i]? = some x):l.getD i d=x:=by simp [List.getD,e]
theorem FV {h:AH} {p:Nat} {ps:List Pc} {a b:Nat} {ma mb:Ms} (S:ShelfAt h p ps) (hq:Pc.fork a b∉ps) (hl:ps.length<16000000) (ha:(meas ps)[a]? = some ma) (hb:(meas ps)[b]? = some mb) :
  lF [.ref p,(Pc.fork a b).av] h = .ok .non (fi h p (ps++[.fork a b])):=by
 have bb:=bY S.h8
 have hs:ps.length+1<sizeLine:=JZ (L5 hl) (by decide)
 have hm:(meas ps).length<sizeLine:=by rw [c9];exact hs
 have e:=yg S hq hl
 have e2:aC (Pc.fork a b).av (.int 1)=λh=>Out.ok (.int a) h:=by funext h;rfl
 have e3:aC (Pc.fork a b).av (.int 2)=λh=>Out.ok (.int b) h:=by funext h;rfl
 have l1:p+1<h.length:=by lia
 have l2:p+2<h.length:=by lia
 have l3:p+3<h.length:=by lia
 have l4:p+4<h.length:=by lia
 have l5:p+5<h.length:=by lia
 have l6:p+6<h.length:=by lia
 have l7:p+7<h.length:=by lia
 have fx:∀ (n:Nat) (g:Ms->AV) (h':AH),h'[n]? = some (.lst ((meas ps).map g))->aC (.ref n) (.int a) h' = .ok (g ma) h'/\aC (.ref n) (.int b) h' = .ok (g mb) h' := λn g h' e=>by
  simp [aC,e,cK ha,cK hb]
 have f3:=λ(h':AH) (e:h'[p+3]? = some (.lst ((meas ps).map λm=>.int m.sg)))=>fx _ _ h' e
 have f4:=λ(h':AH) (e:h'[p+4]? = some (.lst ((meas ps).map λm=>.int m.en)))=>fx _ _ h' e
 have f5:=λ(h':AH) (e:h'[p+5]? = some (.lst ((meas ps).map λm=>.int m.lv)))=>fx _ _ h' e
 have f6:=λ(h':AH) (e:h'[p+6]? = some (.lst ((meas ps).map λm=>.int m.ht)))=>fx _ _ h' e
 have f7:=λ(h':AH) (e:h'[p+7]? = some (.lst ((meas ps).map λm=>.int m.fl)))=>fx _ _ h' e
 have f8:=λ(h':AH) (e:h'[p+8]? = some (.lst ((meas ps).map λm=>.int m.ll)))=>fx _ _ h' e
 have hmax:∀ i j:Int,(if j > i then j else i)=max i j:=λi j=>by split<;>lia
 simp [lF,e,S.ob,S.h3,S.h4,S.h5,S.h6,S.h7,S.h8,hm,NQ,sj,gs,fi,e2,e3,c9,hs,cK ha,cK hb,yh ha,yh hb,-aC,-List.getElem?_eq_getElem,-List.getD_eq_getElem?_getD,f3,f4,f5,f6,f7,f8,hmax]
theorem sC {h:AH} {p:Nat} {ps:List Pc} {x:Str} {i:Nat} (S:ShelfAt h p ps) (nd:ps.Nodup) (hx:fh x=true) (hl:x.length<=sizeLine) (e:ps[i]? = some (.leaf x)):eZ [.ref p,.str x] h = .ok (.int ((i+1:Nat):Int)) h:=by
 have t:=sk (k:=1) nd e
 have t':aU (dD ps) (.tup [.str "leaf",.str x])=some (.int ((i+1:Nat):Int)):=by rw [Mh];exact t
 simp [eZ,yc x h hl,hx,S.ob,S.h2,t']
theorem FW {h:AH} {p:Nat} {ps:List Pc} {x:Str} (S:ShelfAt h p ps) (hx:fh x=true) (hl:x.length<=sizeLine) (hq:Pc.leaf x∉ps) (hz:ps.length<16000000):eZ [.ref p,.str x] h = .ok (.int ((ps.length+1:Nat):Int)) (fi h p (ps++[.leaf x])):=by
 have t:aU (dD ps) (.tup [.str "leaf",.str x])=none:=oj (q:=.leaf x) (k:=1) hq
 have S2:=om (ps' := ps++[.leaf x]) S
 have e:=FU S hq hz
 have t2:aU (dD (ps++[.leaf x])) (.tup [.str "leaf",.str x])=some (.int ((ps.length+1:Nat):Int)):=by
  unfold dD
  rw [oh]
  unfold aU at t ⊢
  rw [Pg]
  have t3:(eI 1 ps).find? (λp=>decide (p.1 = .tup [.str "leaf",.str x]))=none:=by simpa [dD] using t
  rw [t3]
  simp [Pc.av,Mh]
 have e':lI [.ref p,.tup [.str "leaf",.str x]] h = .ok .non (fi h p (ps++[.leaf x])):=e
 simp [eZ,yc x h hl,hx,S.ob,S.h2,t,e',S2.ob,S2.h2,t2]
theorem FY {h:AH} {p:Nat} {ps:List Pc} {a b:Nat} {ma mb la fb:Ms} (S:ShelfAt h p ps) (ha:(meas ps)[a]? = some ma) (hb:(meas ps)[b]? = some mb) (pa:1<=a) (pb:1<=b) (hla:(meas ps)[ma.ll]? = some la) (hfb:(meas ps)[mb.fl]? = some fb) :
  iR [.ref p,.int a,.int b] h=if la.sg+fb.sg<=8 then .ex FC h else if 1<(ma.ht-mb.ht).natAbs then .ex FD h else if 1000000000000000000<ma.sg+mb.sg then .ex FE h else .ok .non h:=by
 have la_:=(JA.mp ha).1
 have lb_:=(JA.mp hb).1
 rw [c9] at la_ lb_
 have c1:=oo S (i:=(a:Int)) ⟨by lia,by lia⟩
 have c2:=oo S (i:=(b:Int)) ⟨by lia,by lia⟩
 by_cases d1:la.sg+fb.sg<=8
 ·have d1':((la.sg:Int)+fb.sg)<=8:=by lia
  simp [iR,c1,c2,S.ob,S.h3,S.h5,S.h6,S.h7,S.h8,cK ha,cK hb,cK hla,cK hfb,d1,d1']
 ·have d1' : ¬ ((la.sg:Int)+fb.sg)<=8:=by lia
  by_cases d2:1<(ma.ht-mb.ht).natAbs
  ·have d2':(1:Int)<(if ma.ht-mb.ht<0 then -(ma.ht-mb.ht) else ma.ht-mb.ht):=by split<;>lia
   simp [iR,c1,c2,S.ob,S.h3,S.h5,S.h6,S.h7,S.h8,cK ha,cK hb,cK hla,cK hfb,d1,d1',d2,d2',-Int.neg_sub]
  ·have d2' : ¬ (1:Int)<(if ma.ht-mb.ht<0 then -(ma.ht-mb.ht) else ma.ht-mb.ht):=by split<;>lia
   by_cases d3:1000000000000000000<ma.sg+mb.sg
   ·have d3':(1000000000000000000:Int)<(ma.sg:Int)+mb.sg:=by lia
    simp [iR,c1,c2,S.ob,S.h3,S.h5,S.h6,S.h7,S.h8,cK ha,cK hb,cK hla,cK hfb,d1,d1',d2,d2',d3,d3',-Int.neg_sub]
   ·have d3' : ¬ (1000000000000000000:Int)<(ma.sg:Int)+mb.sg:=by lia
    simp [iR,c1,c2,S.ob,S.h3,S.h5,S.h6,S.h7,S.h8,cK ha,cK hb,cK hla,cK hfb,d1,d1',d2,d2',d3,d3',-Int.neg_sub]
structure ForkOk (ps:List Pc) (a b:Nat):Prop where
 pa:1<=a
 pb:1<=b
 ex:∃ ma mb la fb,(meas ps)[a]? = some ma/\(meas ps)[b]? = some mb/\(meas ps)[ma.ll]? = some la/\(meas ps)[mb.fl]? = some fb/\8<la.sg+fb.sg/\(ma.ht-mb.ht).natAbs<=1/\ma.sg+mb.sg<=1000000000000000000
theorem yi {h:AH} {p:Nat} {ps:List Pc} {a b:Nat} (S:ShelfAt h p ps) (F:ForkOk ps a b):iR [.ref p,.int a,.int b] h = .ok .non h:=by
 obtain ⟨ma,mb,la,fb,h1,h2,h3,h4,h5,h6,h7⟩:=F.ex
 rw [FY S h1 h2 F.pa F.pb h3 h4,JF (by lia),JF (by lia),JF (by lia)]
theorem sD {h:AH} {p:Nat} {ps:List Pc} {a b i:Nat} (S:ShelfAt h p ps) (nd:ps.Nodup) (F:ForkOk ps a b) (e:ps[i]? = some (.fork a b)):aQ [.ref p,.int a,.int b] h = .ok (.int ((i+1:Nat):Int)) h:=by
 have t:=sk (k:=1) nd e
 have t':aU (dD ps) (.tup [.str "fork",.int a,.int b])=some (.int ((i+1:Nat):Int)):=by rw [Mh];exact t
 simp [aQ,yi S F,S.ob,S.h2,t']
theorem FZ {h:AH} {p:Nat} {ps:List Pc} {a b:Nat} (S:ShelfAt h p ps) (F:ForkOk ps a b) (hq:Pc.fork a b∉ps) (hz:ps.length<16000000):aQ [.ref p,.int a,.int b] h = .ok (.int ((ps.length+1:Nat):Int)) (fi h p (ps++[.fork a b])):=by
 have t:aU (dD ps) (.tup [.str "fork",.int a,.int b])=none:=oj (q:=.fork a b) (k:=1) hq
 have S2:=om (ps' := ps++[.fork a b]) S
 obtain ⟨ma,mb,la,fb,h1,h2,_⟩:=F.ex
 have e:=FV S hq hz h1 h2
 have t2:aU (dD (ps++[.fork a b])) (.tup [.str "fork",.int a,.int b])=some (.int ((ps.length+1:Nat):Int)):=by
  unfold dD
  rw [oh]
  unfold aU at t ⊢
  rw [Pg]
  have t3:(eI 1 ps).find? (λp=>decide (p.1 = .tup [.str "fork",.int a,.int b]))=none:=by simpa [dD] using t
  rw [t3]
  simp [Pc.av,Mh]
 have e':lF [.ref p,.tup [.str "fork",.int a,.int b]] h = .ok .non (fi h p (ps++[.fork a b])):=e
 simp [aQ,yi S F,S.ob,S.h2,t,e',S2.ob,S2.h2,t2]
noncomputable def fo (n:Nat):List AO:=[.ins 0 [some (.ref (n+1)),some (.ref (n+2)),some (.ref (n+3)),some (.ref (n+4)),some (.ref (n+5)),some (.ref (n+6)),some (.ref (n+7)),some (.ref (n+8))],.lst [],.dct true [],.lst [.int 0],.lst [.int 0],.lst [.int 0],.lst [.int (-1)],.lst [.int 0],.lst [.int 0]]
theorem F0 {h:AH} {o o':AO} {r:AH}:(h++o::r).set h.length o'=h++o'::r:=by
 induction h with
 | nil=>rfl
 | cons x t ih=>simp [ih]
theorem F3 (en:En) (h:AH):nk 0 8 lq af en h = .ok (.ref h.length) (h++fo h.length):=by
 simp [lq,fo,OC,F0]
theorem yj {h r:AH} {k:Nat}:(h++r)[h.length+k]? = r[k]? := by
 rw [J7 (by lia)];simp
theorem F4 (h r:AH):ShelfAt (h++(fo h.length++r)) h.length []:=by
 refine ⟨?_,?_,?_,?_,?_,?_,?_,?_,?_⟩
 ·rw [show h.length=h.length+0 from rfl,yj];rfl
 all_goals (rw [yj];rfl)
theorem yk (x:Str) (c i:Nat) (hi:i<x.length):Builtin.Str.subAt x ⟨#[c]⟩ i=decide (x.cps.toList[i]? = some c):=by
 have hi':i<x.cps.size:=hi
 unfold Builtin.Str.subAt
 have e:x.cps.extract i (i+1) = #[x.cps[i]]:=by
  apply Array.ext
  ·simp;lia
  ·intro j h1 h2
   have:j=0:=by simp at h2;lia
   subst this
   simp
 show (x.cps.extract i (i+1) == #[c])=_
 rw [e]
 have:x.cps.toList[i]? = some x.cps[i]:=by simp [hi']
 rw [this]
 by_cases q:x.cps[i]=c
 ·simp [q]
 ·simp [q]
theorem oq (x:Str) (c:Nat):∀ (n i:Nat) (st:Array Nat×Nat),i+n=x.length+1->st.2<=i->st.1.size<=i->(forIn (List.range' i n) st (StrLaws.occBody x ⟨#[c]⟩ x.length (x.length+1))).run.fst.size=st.1.size+(x.cps.toList.drop i).count c
 | 0,i,st,hn,_,_=>by
  rw [Kw (by simp;simp only [Str.length] at hn;lia)]
  simp
 | n+1,i,st,hn,h2,h3=>by
  rw [List.range'_succ,List.forIn_cons]
  unfold StrLaws.occBody
  by_cases hi:i<x.length
  ·have hi':i<x.cps.size:=hi
   have hd:x.cps.toList.drop i=x.cps[i]'hi'::x.cps.toList.drop (i+1):=by
    rw [KI (show i<x.cps.toList.length by simpa using hi')];simp
   have hg:x.cps.toList[i]? = some (x.cps[i]'hi'):=by
    simp [hi']
   by_cases q:x.cps[i]'hi'=c
   ·have hs:Builtin.Str.subAt x ⟨#[c]⟩ i=true:=by rw [yk x c i hi,hg,q];simp
    rw [JG ⟨⟨⟨by lia,h2⟩,hi⟩,hs⟩]
    show (forIn (List.range' (i+1) n) (st.1.push i,i+1) (StrLaws.occBody x ⟨#[c]⟩ x.length (x.length+1))).run.fst.size=_
    rw [oq x c n (i+1) _ (by lia) (JC _) (by simp;lia),hd,q]
    simp;lia
   ·have hs:Builtin.Str.subAt x ⟨#[c]⟩ i=false:=by rw [yk x c i hi,hg];simp [q]
    rw [JF (by simp [hs])]
    show (forIn (List.range' (i+1) n) (st.1,st.2) (StrLaws.occBody x ⟨#[c]⟩ x.length (x.length+1))).run.fst.size=_
    rw [oq x c n (i+1) _ (by lia) (by show st.2<=i+1;lia) (by show st.1.size<=i+1;lia),hd]
    simp [q]
  ·rw [JF (by rintro ⟨⟨_,z⟩,_⟩;exact hi z)]
   show (forIn (List.range' (i+1) n) (st.1,st.2) (StrLaws.occBody x ⟨#[c]⟩ x.length (x.length+1))).run.fst.size=_
   rw [oq x c n (i+1) _ (by lia) (by show st.2<=i+1;lia) (by show st.1.size<=i+1;lia)]
   rw [Kw (by simp;simp only [Str.length] at hi;lia),Kw (by simp;simp only [Str.length] at hi;lia)]
theorem F5 (x:Str) (c:Nat):(Builtin.Str.occurrences x ⟨#[c]⟩ 0 x.length (x.length+1)).length=x.cps.toList.count c:=by
 rw [StrLaws.occ_eq,JQ]
 rw [show x.length+1-0=x.length+1 from rfl,oq x c (x.length+1) 0 _ (by lia) (JC _) (by simp)]
 simp
theorem sE (x:Str):iu x=x.cps.toList.count 10:=F5 x 10
theorem dY (x y:Str):(x++y).cps.toList=x.cps.toList++y.cps.toList:=by
 show (x.cps++y.cps).toList=_
 simp
theorem F6 (x y:Str):iu (x++y)=iu x+iu y:=by
 rw [sE,sE,sE,dY,List.count_append]
theorem dJ (x:Str):x.length=x.cps.toList.length:=by simp [Str.length]
theorem bP (x y:Str):(x++y).length=x.length+y.length:=by
 rw [dJ,dJ,dJ,dY,JJ]
noncomputable def jE (rs:List Str):Pc->Str
 | .leaf x=>x
 | .fork a b=>rs.getD a "" ++ rs.getD b ""
noncomputable def reads (ps:List Pc):List Str:=ps.foldl (λrs q=>rs++[jE rs q]) [""]
theorem F7 (ps:List Pc) (q:Pc):reads (ps++[q])=reads ps++[jE (reads ps) q]:=by simp [reads]
theorem lS {α β:Type} (g:List β->α->β):∀ (qs:List α) (ms:List β),∃ r,qs.foldl (λms q=>ms++[g ms q]) ms=ms++r/\r.length=qs.length
 | [],ms=>⟨[],by simp,rfl⟩
 | q::qs,ms=>by
  obtain ⟨r,e,l⟩:=lS g qs (ms++[g ms q])
  exact ⟨g ms q::r,by rw [Oo,e];simp,by simp [l]⟩
theorem ot (ps:List Pc):(reads ps).length=ps.length+1:=by
 obtain ⟨r,e,l⟩:=lS jE ps [""]
 rw [reads,e];simp [l,Mh]
theorem F8 (ps qs:List Pc):∃ r,meas (ps++qs)=meas ps++r:=by
 unfold meas
 rw [Ph]
 obtain ⟨r,e,_⟩:=lS gs qs (ps.foldl (λms q=>ms++[gs ms q]) [ms0])
 exact ⟨r,e⟩
theorem F9 (ps qs:List Pc):∃ r,reads (ps++qs)=reads ps++r:=by
 unfold reads
 rw [Ph]
 obtain ⟨r,e,_⟩:=lS jE qs (ps.foldl (λms q=>ms++[jE ms q]) [""])
 exact ⟨r,e⟩
theorem aX {ps ps':List Pc} (h:ps <+: ps') {n:Nat} {m:Ms} (e:(meas ps)[n]? = some m):(meas ps')[n]? = some m:=by
 obtain ⟨qs,rfl⟩:=h
 obtain ⟨r,q⟩:=F8 ps qs
 rw [q,JE (JA.mp e).1];exact e
theorem ou {ps ps':List Pc} (h:ps <+: ps') {n:Nat} {m:Str} (e:(reads ps)[n]? = some m):(reads ps')[n]? = some m:=by
 obtain ⟨qs,rfl⟩:=h
 obtain ⟨r,q⟩:=F9 ps qs
 rw [q,JE (JA.mp e).1];exact e
theorem oy (ps:List Pc) (i:Nat):ps.take i <+: ps:=List.take_prefix i ps
theorem sF {ps:List Pc} {i:Nat} {q:Pc} (e:ps[i]? = some q):(ps.take i++[q]) <+: ps/\(ps.take i).length=i:=by
 have hi:=(JA.mp e).1
 have:ps.take (i+1)=ps.take i++[q]:=by
  rw [Nx,e];rfl
 exact ⟨this▸List.take_prefix _ _,by simp;lia⟩
theorem yl {ps:List Pc} {i:Nat} {q:Pc} (e:ps[i]? = some q):(meas ps)[i+1]? = some (gs (meas (ps.take i)) q):=by
 obtain ⟨h,l⟩:=sF e
 refine aX h ?_
 rw [sj,J7 (by rw [c9,l];lia),c9,l]
 simp
theorem ym {ps:List Pc} {i:Nat} {q:Pc} (e:ps[i]? = some q):(reads ps)[i+1]? = some (jE (reads (ps.take i)) q):=by
 obtain ⟨h,l⟩:=sF e
 refine ou h ?_
 rw [F7,J7 (by rw [ot,l];lia),ot,l]
 simp
def lT (ps:List Pc):Pc->Prop
 | .leaf x=>fh x=true
 | .fork a b=>ForkOk ps a b
inductive Good:List Pc->Prop
 | nil:Good []
 | snoc {ps:List Pc} {q:Pc}:Good ps->q∉ps->lT ps q->Good (ps++[q])
theorem Good.nodup {ps:List Pc} (g:Good ps):ps.Nodup:=by
 induction g with
 | nil=>exact MT
 | snoc g n ok ih=>exact LF.mpr ⟨ih,by simp,λa ha b hb=>by simp at hb;subst hb;exact λe=>n (e▸ha)⟩
theorem Good.get {ps:List Pc} (g:Good ps):∀ {i:Nat} {q:Pc},ps[i]? = some q->lT (ps.take i) q:=by
 induction g with
 | nil=>intro i q e;simp at e
 | @snoc ps q' g n ok ih =>
  intro i q e
  by_cases hi:i<ps.length
  ·rw [JE hi] at e
   rw [Ng (by lia)]
   exact ih e
  ·have hi2:i=ps.length:=by
    have:=(JA.mp e).1
    simp at this;lia
   subst hi2
   simp at e
   subst e
   simpa using ok
theorem ForkOk.pre {ps ps':List Pc} {a b:Nat} (F:ForkOk ps a b) (h:ps <+: ps'):ForkOk ps' a b:=by
 obtain ⟨ma,mb,la,fb,h1,h2,h3,h4,h5⟩:=F.ex
 exact ⟨F.pa,F.pb,ma,mb,la,fb,aX h h1,aX h h2,aX h h3,aX h h4,h5⟩
structure Ky (ps:List Pc) (m:Ms) (x:Str) (f l:Ms):Prop where
 fl:(meas ps)[m.fl]? = some f
 ll:(meas ps)[m.ll]? = some l
 sg:m.sg=x.length
 en:m.en=iu x
 f1:1<=f.sg
 f8:f.sg<=8
 l1:1<=l.sg
 l8:l.sg<=8
 lv:1<=m.lv
 ht:0<=m.ht
 most:m.sg<=1000000000000000000
 cnt:∃ k,(m.lv=2*k+1/\9*k+f.sg<=m.sg/\9*k+l.sg<=m.sg)\/(m.lv=2*k+2/\9*k+9<=m.sg/\9*k+f.sg+l.sg<=m.sg)
 pl:bj x=true
structure Tx (ps:List Pc) (n:Nat) (m:Ms) (x:Str) (f l:Ms):Prop where
 n1:1<=n
 ms:(meas ps)[n]? = some m
 rd:(reads ps)[n]? = some x
 ky:Ky ps m x f l
theorem Ky.pre {ps ps':List Pc} {m:Ms} {x:Str} {f l:Ms} (k:Ky ps m x f l) (h:ps <+: ps'):Ky ps' m x f l :=
 { k with fl:=aX h k.fl,ll:=aX h k.ll }
theorem Tx.pre {ps ps':List Pc} {n:Nat} {m:Ms} {x:Str} {f l:Ms} (k:Tx ps n m x f l) (h:ps <+: ps'):Tx ps' n m x f l :=
 ⟨k.n1,aX h k.ms,ou h k.rd,k.ky.pre h⟩
theorem Tx.le {ps:List Pc} {n:Nat} {m:Ms} {x:Str} {f l:Ms} (k:Tx ps n m x f l):n<=ps.length:=by
 have:=(JA.mp k.ms).1
 rw [c9] at this;lia
noncomputable def jF (ma mb:Ms):Ms:=⟨ma.sg+mb.sg,ma.en+mb.en,ma.lv+mb.lv,max ma.ht mb.ht+1,ma.fl,mb.ll⟩
theorem lV (x y:Str):bj (x++y)=(bj x && bj y):=by unfold bj;rw [dY,List.all_append]
theorem Ga {n n' s s' f l f' l':Nat} (a:∃ k,(n=2*k+1/\9*k+f<=s/\9*k+l<=s)\/(n=2*k+2/\9*k+9<=s/\9*k+f+l<=s)) (b:∃ k,(n'=2*k+1/\9*k+f'<=s'/\9*k+l'<=s')\/(n'=2*k+2/\9*k+9<=s'/\9*k+f'+l'<=s')) (hs:8<l+f') :
  ∃ k,(n+n'=2*k+1/\9*k+f<=s+s'/\9*k+l'<=s+s')\/(n+n'=2*k+2/\9*k+9<=s+s'/\9*k+f+l'<=s+s'):=by
 obtain ⟨k,⟨rfl,a1,a2⟩ | ⟨rfl,a1,a2⟩⟩:=a<;>obtain ⟨k',⟨rfl,b1,b2⟩ | ⟨rfl,b1,b2⟩⟩:=b
 ·exact ⟨k+k',.inr ⟨by lia,by lia,by lia⟩⟩
 ·exact ⟨k+k'+1,.inl ⟨by lia,by lia,by lia⟩⟩
 ·exact ⟨k+k'+1,.inl ⟨by lia,by lia,by lia⟩⟩
 ·exact ⟨k+k'+1,.inr ⟨by lia,by lia,by lia⟩⟩
theorem Ky.fork {ps:List Pc} {ma mb fa la fb lb:Ms} {x y:Str} (A:Ky ps ma x fa la) (B:Ky ps mb y fb lb) (hs:8<la.sg+fb.sg) (hm:ma.sg+mb.sg<=1000000000000000000):Ky ps (jF ma mb) (x++y) fa lb:=by
 have k:=Ga A.cnt B.cnt hs
 refine ⟨A.fl,B.ll,?_,?_,A.f1,A.f8,B.l1,B.l8,JI A.lv (LB _ _),?_,hm,k,?_⟩
 ·show ma.sg+mb.sg=_;rw [bP,A.sg,B.sg]
 ·show ma.en+mb.en=_;rw [F6,A.en,B.en]
 ·have a4:=A.ht
  show 0<=max ma.ht mb.ht+1
  clear k hs hm;lia
 ·rw [lV,A.pl,B.pl];rfl
theorem sG {x:Str} (h:fh x=true):1<=x.length/\x.length<=8/\bj x=true:=by
 simp [fh] at h;exact ⟨h.2.1,h.2.2,h.1⟩
theorem kf {α:Type} {l:List α} {i:Nat} {d x:α} (e:l[i]? = some x):l.getD i d=x:=by simp [List.getD,e]
noncomputable def bz (x:Str) (n:Nat):Ms:=⟨x.length,iu x,1,0,n,n⟩
theorem lY {ps:List Pc} (g:Good ps) {i:Nat} {x:Str} (e:ps[i]? = some (.leaf x)):Tx ps (i+1) (bz x (i+1)) x (bz x (i+1)) (bz x (i+1)):=by
 have hi:=(JA.mp e).1
 have ok:fh x=true:=g.get e
 obtain ⟨s1,s2,s3⟩:=sG ok
 have li:(ps.take i).length=i:=by simp;lia
 have ml:(meas (ps.take i)).length=i+1:=by rw [c9,li]
 have e1':(meas ps)[i+1]? = some (bz x (i+1)):=by rw [yl e];simp only [gs,bz];rw [ml]
 exact ⟨by lia,e1',ym e,⟨e1',e1',rfl,rfl,s1,s2,s1,s2,JC 1,L9 0,by show x.length<=_;lia,⟨0,.inl ⟨rfl,Nq (LJ _),Nq (LJ _)⟩⟩,s3⟩⟩
theorem kg {ps:List Pc} (g:Good ps) {i a b:Nat} {ma mb fa la fb lb:Ms} {x y:Str} (e:ps[i]? = some (.fork a b)) (A:Tx ps a ma x fa la) (B:Tx ps b mb y fb lb):Tx ps (i+1) (jF ma mb) (x++y) fa lb:=by
 have hi:=(JA.mp e).1
 have ok':ForkOk (ps.take i) a b:=g.get e
 have li:(ps.take i).length=i:=by simp;lia
 have tp:=oy ps i
 obtain ⟨ma',mb',la',fb',q1,q2,q3,q4,q5,q6,q7⟩:=ok'.ex
 have ba:=(JA.mp q1).1
 have bb:=(JA.mp q2).1
 rw [c9,li] at ba bb
 have z1:=A.ms.symm.trans (aX tp q1);cases z1
 have z2:=B.ms.symm.trans (aX tp q2);cases z2
 have z3:=A.ky.ll.symm.trans (aX tp q3);cases z3
 have z4:=B.ky.fl.symm.trans (aX tp q4);cases z4
 have r1:(reads (ps.take i))[a]? = some x:=by
  obtain ⟨w,ew⟩:∃ w,(reads (ps.take i))[a]? = some w:=⟨(reads (ps.take i))[a]'(by rw [ot,li];lia),by simp⟩
  have:=(ou tp ew).symm.trans A.rd;cases this;exact ew
 have r2:(reads (ps.take i))[b]? = some y:=by
  obtain ⟨w,ew⟩:∃ w,(reads (ps.take i))[b]? = some w:=⟨(reads (ps.take i))[b]'(by rw [ot,li];lia),by simp⟩
  have:=(ou tp ew).symm.trans B.rd;cases this;exact ew
 refine ⟨by lia,?_,?_,A.ky.fork B.ky q5 q7⟩
 ·rw [yl e];simp only [gs,kf q1,kf q2];rfl
 ·rw [ym e];simp only [jE,kf r1,kf r2]
theorem Good.tx {ps:List Pc} (g:Good ps):∀ n,1<=n->n<=ps.length->∃ m x f l,Tx ps n m x f l:=by
 intro n
 induction n using Nat.strongRecOn with
 | ind n ih =>
  intro h1 h2
  obtain ⟨i,rfl⟩:∃ i,n=i+1:=⟨n-1,(Nat.sub_add_cancel h1).symm⟩
  obtain ⟨q,eq⟩:∃ q,ps[i]? = some q:=⟨ps[i],by simp⟩
  have ok:=g.get eq
  have li:(ps.take i).length=i:=(sF eq).2
  cases q with
  | leaf x=>exact ⟨_,_,_,_,lY g eq⟩
  | fork a b =>
   have ok':ForkOk (ps.take i) a b:=ok
   obtain ⟨ma,mb,la,fb,q1,q2,_⟩:=ok'.ex
   have ba:=(JA.mp q1).1
   have bb:=(JA.mp q2).1
   rw [c9,li] at ba bb
   obtain ⟨_,_,_,_,A⟩:=ih a ba ok'.pa (JI (Mb ba) h2)
   obtain ⟨_,_,_,_,B⟩:=ih b bb ok'.pb (JI (Mb bb) h2)
   exact ⟨_,_,_,_,kg g eq A B⟩
structure Dd (p:Nat) (h h':AH) (ps ps':List Pc) (k:Nat):Prop where
 sh:ShelfAt h' p ps'
 gd:Good ps'
 pre:ps <+: ps'
 len:ps'.length<=ps.length+k
 fr:∀ i,i<=p\/p+8<i->h'[i]? = h[i]?
 hl:h'.length=h.length
theorem ShelfAt.keep {h h':AH} {p:Nat} {ps:List Pc} (S:ShelfAt h p ps) (e:∀ i,p<=i->i<=p+8->h'[i]? = h[i]?):ShelfAt h' p ps:=by
 have k:∀ j,j<=8->h'[p+j]? = h[p+j]? := λj hj=>e _ (LB p j) (Ko hj p)
 exact ⟨(k 0 (by decide)).trans S.ob,(k 1 (by decide)).trans S.h1,(k 2 (by decide)).trans S.h2,(k 3 (by decide)).trans S.h3,(k 4 (by decide)).trans S.h4,(k 5 (by decide)).trans S.h5,(k 6 (by decide)).trans S.h6,(k 7 (by decide)).trans S.h7,(k 8 (by decide)).trans S.h8⟩
theorem ShelfAt.app {h:AH} {p:Nat} {ps:List Pc} (S:ShelfAt h p ps) (r:AH):ShelfAt (h++r) p ps:=by
 have:=bY S.h8
 exact S.keep λi _ b=>JE (J9 b this)
structure Wk (p r:Nat) (h h':AH) (ps ps':List Pc) (k:Nat):Prop where
 sh:ShelfAt h' p ps'
 gd:Good ps'
 pre:ps <+: ps'
 len:ps'.length<=ps.length+k
 row:∃ N:Int,h'[r]? = some (.lst [.int N])
 fr:∀ i,i<=p\/p+8<i->i≠r->h'[i]? = h[i]?
 hl:h'.length=h.length
theorem Wk.refl {p r:Nat} {h:AH} {ps:List Pc} (S:ShelfAt h p ps) (g:Good ps) (e:∃ N:Int,h[r]? = some (.lst [.int N])):Wk p r h h ps ps 0 :=
 ⟨S,g,K3 _,by lia,e,λ_ _ _=>rfl,rfl⟩
theorem oz {h:AH} {p:Nat} {ps:List Pc} {i:Nat} (S:ShelfAt h p ps) (hi:i<=ps.length):iS [.ref p,.int i] h = .ok .non h:=by
 by_cases z:i=0
 ·subst z;simp [iS]
 ·have c:=oo S (i:=(i:Int)) ⟨by lia,by lia⟩
  simp [iS,z,S.ob,c]
theorem iW {h:AH} {p:Nat} {ps:List Pc} {i:Nat} {m:Ms} (S:ShelfAt h p ps) (e:(meas ps)[i]? = some m):ig [.ref p,.int i] h = .ok (.int m.sg) h:=by
 have hi:=(JA.mp e).1
 rw [c9] at hi
 simp [ig,oz S (show i<=ps.length by lia),S.ob,S.h3,cK e]
theorem cM {h:AH} {p:Nat} {ps:List Pc} {i:Nat} {m:Ms} (S:ShelfAt h p ps) (e:(meas ps)[i]? = some m):fE [.ref p,.int i] h = .ok (.int m.ht) h:=by
 have hi:=(JA.mp e).1
 rw [c9] at hi
 simp [fE,oz S (show i<=ps.length by lia),S.ob,S.h6,cK e]
theorem yn {h:AH} {p:Nat} {ps:List Pc} {i:Nat} {m:Ms} (S:ShelfAt h p ps) (e:(meas ps)[i]? = some m):lK [.ref p,.int i] h = .ok (.int m.fl) h:=by
 have hi:=(JA.mp e).1
 rw [c9] at hi
 simp [lK,oz S (show i<=ps.length by lia),S.ob,S.h7,cK e]
theorem yo {h:AH} {p:Nat} {ps:List Pc} {i:Nat} {m:Ms} (S:ShelfAt h p ps) (e:(meas ps)[i]? = some m):lJ [.ref p,.int i] h = .ok (.int m.ll) h:=by
 have hi:=(JA.mp e).1
 rw [c9] at hi
 simp [lJ,oz S (show i<=ps.length by lia),S.ob,S.h8,cK e]
noncomputable def lp:Nat->Nat×Nat
 | 0=>(1,2)
 | n+1=>((lp n).2,(lp n).1+(lp n).2)
noncomputable def ll (n:Nat):Nat:=(lp n).1
noncomputable def ls (n:Nat):Nat:=9*(ll n / 2)+ll n % 2
theorem iw (n:Nat):ll (n+2)=ll n+ll (n+1):=rfl
theorem yp:∀ n,ll n<=ll (n+1)
 | 0=>by decide
 | n+1=>by rw [show n+1+1=n+2 from rfl,iw];lia
theorem Gb {a b:Nat} (h:a<=b):ll a<=ll b:=by
 induction h with
 | refl=>exact JC _
 | step h ih=>exact JI ih (yp _)
theorem Gc {a b:Nat} (h:a<=b):ls a<=ls b:=by
 have:=Gb h
 unfold ls;lia
theorem Gd {i j a b:Nat} (h1:i<=j+1) (h2:j<=i+1) (u1:ll i<=a) (u2:ll j<=b):ll (max i j+1)<=a+b:=by
 rcases Nat.lt_trichotomy i j with c | c | c
 ·have e':j=i+1:=Nat.le_antisymm h2 c
  subst e'
  rw [Nat.max_eq_right (MP i),iw];exact OD u1 u2
 ·subst c
  rw [Nat.max_self]
  refine JI ?_ (OD u1 u2)
  cases i with
  | zero=>exact JC 2
  | succ k=>rw [show k+1+1=k+2 from rfl,iw];exact Nat.add_le_add_right (yp k) _
 ·have e':i=j+1:=Nat.le_antisymm h1 c
  subst e'
  rw [Nat.max_eq_left (MP j),iw,Mh];exact OD u1 u2
theorem Ge {x y:Int} {a b:Nat} (hx:0<=x) (hy:0<=y) (q:(x-y).natAbs<=1) (u1:ll x.toNat<=a) (u2:ll y.toNat<=b):ll (max x y+1).toNat<=a+b:=by
 obtain ⟨i,rfl⟩:=L6 hx
 obtain ⟨j,rfl⟩:=L6 hy
 have e:(max (i:Int) j+1).toNat=max i j+1:=by clear u1 u2 q;lia
 rw [e]
 exact Gd (by clear u1 u2 e;lia) (by clear u1 u2 e;lia) u1 u2
theorem Good.lv {ps:List Pc} (g:Good ps):∀ n m x f l,Tx ps n m x f l->ll m.ht.toNat<=m.lv:=by
 intro n
 induction n using Nat.strongRecOn with
 | ind n ih =>
  intro m x f l T
  have hn:=T.n1
  have hle:=T.le
  obtain ⟨i,rfl⟩:∃ i,n=i+1:=⟨n-1,by lia⟩
  obtain ⟨q,eq⟩:∃ q,ps[i]? = some q:=⟨ps[i],by simp⟩
  cases q with
  | leaf y =>
   have z:=(lY g eq).ms.symm.trans T.ms;cases z
   exact JC 1
  | fork a b =>
   have ok':ForkOk (ps.take i) a b:=g.get eq
   have li:(ps.take i).length=i:=by simp;lia
   obtain ⟨ma,mb,la,fb,q1,q2,q3,q4,q5,q6,q7⟩:=ok'.ex
   have ba:=(JA.mp q1).1
   have bb:=(JA.mp q2).1
   rw [c9,li] at ba bb
   obtain ⟨ma',x1,fa,la',A⟩:=g.tx a ok'.pa (by lia)
   obtain ⟨mb',y1,fb',lb,B⟩:=g.tx b ok'.pb (by lia)
   have tp:=oy ps i
   have z1:=A.ms.symm.trans (aX tp q1);cases z1
   have z2:=B.ms.symm.trans (aX tp q2);cases z2
   have u1:=ih a (by lia) _ _ _ _ A
   have u2:=ih b (by lia) _ _ _ _ B
   have z:=(kg g eq A B).ms.symm.trans T.ms;cases z
   exact Ge A.ky.ht B.ky.ht q6 u1 u2
theorem Tx.ls {ps:List Pc} (g:Good ps) {n:Nat} {m:Ms} {x:Str} {f l:Ms} (T:Tx ps n m x f l):Sk.ls m.ht.toNat<=m.sg:=by
 have u:=g.lv _ _ _ _ _ T
 have f1:=T.ky.f1
 unfold Sk.ls
 obtain ⟨k,⟨e,a,_⟩ | ⟨e,a,_⟩⟩:=T.ky.cnt
 ·rw [e] at u;generalize ll m.ht.toNat=q at *;clear e;lia
 ·rw [e] at u;generalize ll m.ht.toNat=q at *;clear e;lia
theorem Good.kind {ps:List Pc} (g:Good ps) {n:Nat} {m:Ms} {x:Str} {f l:Ms} (T:Tx ps n m x f l) :
  (ps[n-1]? = some (.leaf x)/\m.ht=0/\m=bz x n/\1<=x.length/\x.length<=8)\/∃ a b ma mb y z fa la fb lb,ps[n-1]? = some (.fork a b)/\a<n/\b<n/\Tx ps a ma y fa la/\Tx ps b mb z fb lb/\x=y++z/\m=jF ma mb/\(ma.ht-mb.ht).natAbs<=1:=by
 have hn:=T.n1
 have hle:=T.le
 obtain ⟨i,rfl⟩:∃ i,n=i+1:=⟨n-1,by lia⟩
 obtain ⟨q,eq⟩:∃ q,ps[i]? = some q:=⟨ps[i],by simp⟩
 cases q with
 | leaf y =>
  have L:=lY g eq
  have z:=L.ms.symm.trans T.ms;cases z
  have z2:=L.rd.symm.trans T.rd;cases z2
  have ok:fh x=true:=g.get eq
  obtain ⟨s1,s2,s3⟩:=sG ok
  exact .inl ⟨eq,rfl,rfl,s1,s2⟩
 | fork a b =>
  have ok':ForkOk (ps.take i) a b:=g.get eq
  have li:(ps.take i).length=i:=by simp;lia
  obtain ⟨ma,mb,la,fb,q1,q2,q3,q4,q5,q6,q7⟩:=ok'.ex
  have ba:=(JA.mp q1).1
  have bb:=(JA.mp q2).1
  rw [c9,li] at ba bb
  obtain ⟨ma',y,fa,la',A⟩:=g.tx a ok'.pa (by lia)
  obtain ⟨mb',z,fb',lb,B⟩:=g.tx b ok'.pb (by lia)
  have tp:=oy ps i
  have z1:=A.ms.symm.trans (aX tp q1);cases z1
  have z2:=B.ms.symm.trans (aX tp q2);cases z2
  have F:=kg g eq A B
  have z3:=F.ms.symm.trans T.ms;cases z3
  have z4:=F.rd.symm.trans T.rd;cases z4
  exact .inr ⟨a,b,ma,mb,y,z,fa,la',fb',lb,eq,by lia,by lia,A,B,rfl,rfl,q6⟩
theorem oA {h:AH} {p:Nat} {ps:List Pc} {n:Nat} {q:Pc} (S:ShelfAt h p ps) (n1:1<=n) (e:ps[n-1]? = some q):c4 [.ref p,.int n] h = .ok q.av h:=by
 have:=FT S e
 rw [show ((n-1:Nat):Int)+1=(n:Int) by lia] at this
 exact this
theorem iX {m a b:Int} (e:m=max a b+1) (ha:0<=a) (hb:0<=b):∃ j:Nat,m.toNat=j+1/\a.toNat<=j/\b.toNat<=j/\0<m:=by
 obtain ⟨x,rfl⟩:=L6 ha
 obtain ⟨y,rfl⟩:=L6 hb
 subst e
 exact ⟨max x y,by lia,Nat.le_max_left _ _,Nat.le_max_right _ _,by lia⟩
end Sk
namespace Sk
open PySem PySem.Spec L2 Sm
theorem dc {x y:Str} (e:x.cps.toList=y.cps.toList):x=y:=by
 cases x;cases y
 simpa using e
theorem dj (x y z:Str):(x++y)++z=x++(y++z):=dc (by simp only [dY,JM])
theorem sH:1000000000000000000<ls 83:=by decide +kernel
theorem gu {ps:List Pc} (g:Good ps) {n:Nat} {m:Ms} {x:Str} {f l:Ms} (T:Tx ps n m x f l):m.ht<=82:=by
 have h1:=T.ls g
 have h2:=T.ky.most
 have h3:=T.ky.ht
 apply Classical.byContradiction
 intro h4
 have:=Gc (show 83<=m.ht.toNat by lia)
 have:=sH
 lia
theorem Good.cut {ps:List Pc} (g:Good ps) {n:Nat} {m:Ms} {x:Str} {f l:Ms} (T:Tx ps n m x f l) (hh:0<m.ht) :
  ∃ a b ma mb y z la fb,ps[n-1]? = some (.fork a b)/\Tx ps a ma y f la/\Tx ps b mb z fb l/\x=y++z/\m=jF ma mb /\ -1<=ma.ht-mb.ht/\ma.ht-mb.ht<=1/\8<la.sg+fb.sg:=by
 rcases g.kind T with ⟨_,e,_⟩ | ⟨a,b,ma,mb,y,z,fa,la,fb,lb,e1,e2,e3,A,B,e4,e5,e6⟩
 ·lia
 ·have ok:ForkOk (ps.take (n-1)) a b:=g.get e1
  obtain ⟨ma',mb',la',fb',q1,q2,q3,q4,q5,_⟩:=(ok.pre (oy ps _)).ex
  have z1:=A.ms.symm.trans q1;cases z1
  have z2:=B.ms.symm.trans q2;cases z2
  have z3:=A.ky.ll.symm.trans q3;cases z3
  have z4:=B.ky.fl.symm.trans q4;cases z4
  have f1:=T.ky.fl
  have l1:=T.ky.ll
  rw [e5] at f1 l1
  have z5:=f1.symm.trans A.ky.fl;cases z5
  have z6:=l1.symm.trans B.ky.ll;cases z6
  exact ⟨a,b,ma,mb,y,z,la,fb,e1,A,B,e4,e5,by lia,by lia,q5⟩
def c5 (M:Nat) (ps:List Pc):Prop:=∀ (i:Nat) (m:Ms),(meas ps)[i]? = some m->m.sg<=M
theorem yq {M:Nat} {ps ps':List Pc} (f:c5 M ps) (pr:ps <+: ps') (hl:ps'.length=ps.length+1) (hn:∀ m,(meas ps')[ps.length+1]? = some m->m.sg<=M):c5 M ps' := λi m e=>by
 have hi:=(JA.mp e).1
 rw [c9] at hi
 by_cases q:i<=ps.length
 ·obtain ⟨m0,e0⟩:∃ m0,(meas ps)[i]? = some m0:=⟨_,JU (by rw [c9];lia)⟩
  have e1:=aX pr e0
  rw [e] at e1
  cases e1
  exact f i _ e0
 ·have:i=ps.length+1:=by lia
  subst this
  exact hn m e
theorem fq {ps1 ps2:List Pc} {n1 n2:Nat} {m1 m2:Ms} (e1:(meas ps1)[n1]? = some m1) (e2:(meas ps2)[n2]? = some m2) (le:m1.sg<=m2.sg):∀ M,(∀ m,(meas ps2)[n2]? = some m->m.sg<=M)->∀ m,(meas ps1)[n1]? = some m->m.sg<=M:=λM h m e=>by
 rw [e1] at e
 cases e
 exact JI le (h _ e2)
structure Dn (F:AH->Out AV) (p:Nat) (h h':AH) (ps ps':List Pc) (k n:Nat):Prop where
 ev:F h = .ok (.int n) h'
 dd:Dd p h h' ps ps' k
 re:∀ h2 ps2,ShelfAt h2 p ps2->Good ps2->ps' <+: ps2->F h2 = .ok (.int n) h2
 al:∀ M,c5 M ps->(∀ m,(meas ps')[n]? = some m->m.sg<=M)->c5 M ps'
theorem Dd.trans {p:Nat} {h h' h'':AH} {ps ps' ps'':List Pc} {k k' k2:Nat} (a:Dd p h h' ps ps' k) (b:Dd p h' h'' ps' ps'' k') (hk:k+k'<=k2):Dd p h h'' ps ps'' k2 :=
 ⟨b.sh,b.gd,a.pre.trans b.pre,by have:=a.len;have:=b.len;lia,λi hi=>(b.fr i hi).trans (a.fr i hi),b.hl.trans a.hl⟩
theorem Dd.refl {p:Nat} {h:AH} {ps:List Pc} (S:ShelfAt h p ps) (g:Good ps):Dd p h h ps ps 0:=⟨S,g,K3 _,by lia,λ_ _=>rfl,rfl⟩
theorem Dn.seq {F F1:AH->Out AV} {F2:AV->AH->Out AV} {p:Nat} {h h1 h2:AH} {ps ps1 ps2:List Pc} {k1 k2 k n1 n2:Nat} (S:ShelfAt h p ps) (g:Good ps) (d1:Dn F1 p h h1 ps ps1 k1 n1) (d2:Dn (F2 (.int n1)) p h1 h2 ps1 ps2 k2 n2)
  (eq:∀ hh pp,ShelfAt hh p pp->Good pp->ps <+: pp->F hh=(F1 hh).bind F2) (hk:k1+k2<=k) (pt:∀ M,(∀ m,(meas ps2)[n2]? = some m->m.sg<=M)->∀ m,(meas ps1)[n1]? = some m->m.sg<=M):Dn F p h h2 ps ps2 k n2:=by
 refine ⟨?_,d1.dd.trans d2.dd hk,λh3 ps3 S3 g3 p3=>?_,λM f hn=>d2.al M (d1.al M f (pt M hn)) hn⟩
 ·rw [eq h ps S g (K3 _),d1.ev];exact d2.ev
 ·rw [eq h3 ps3 S3 g3 (d1.dd.pre.trans (d2.dd.pre.trans p3)),d1.re h3 ps3 S3 g3 (d2.dd.pre.trans p3)]
  exact d2.re h3 ps3 S3 g3 p3
theorem Dn.as {F F1:AH->Out AV} {p:Nat} {h h1:AH} {ps ps1:List Pc} {k1 k n1:Nat} (S:ShelfAt h p ps) (g:Good ps) (d1:Dn F1 p h h1 ps ps1 k1 n1) (eq:∀ hh pp,ShelfAt hh p pp->Good pp->ps <+: pp->F hh=F1 hh) (hk:k1<=k):Dn F p h h1 ps ps1 k n1:=by
 refine ⟨?_,{ d1.dd with len:=JI d1.dd.len (Ko hk _) },λh3 ps3 S3 g3 p3=>?_,d1.al⟩
 ·rw [eq h ps S g (K3 _)];exact d1.ev
 ·rw [eq h3 ps3 S3 g3 (d1.dd.pre.trans p3)];exact d1.re h3 ps3 S3 g3 p3
theorem Dn.val {F:AH->Out AV} {p n:Nat} {h:AH} {ps:List Pc} (S:ShelfAt h p ps) (g:Good ps) (eq:∀ hh pp,ShelfAt hh p pp->Good pp->ps <+: pp->F hh = .ok (.int n) hh):Dn F p h h ps ps 0 n :=
 ⟨eq h ps S g (K3 _),Dd.refl S g,λh3 ps3 S3 g3 p3=>eq h3 ps3 S3 g3 p3,λ_ f _=>f⟩
theorem de {ps ps':List Pc} (h:ps <+: ps') {i:Nat} {q:Pc} (e:ps[i]? = some q):ps'[i]? = some q:=by
 obtain ⟨r,rfl⟩:=h
 rw [JE (JA.mp e).1];exact e
theorem yr {h:AH} {p:Nat} {ps:List Pc} {x:Str} (S:ShelfAt h p ps) (g:Good ps) (hx:fh x=true) (hz:ps.length<16000000) :
  ∃ (n:Nat) (ps':List Pc) (h':AH),Dn (eZ [.ref p,.str x]) p h h' ps ps' 1 n/\Tx ps' n (bz x n) x (bz x n) (bz x n):=by
 obtain ⟨s1,s2,s3⟩:=sG hx
 have hs:x.length<=sizeLine:=JI s2 (by decide)
 by_cases hq:Pc.leaf x∈ps
 ·obtain ⟨i,hi,e⟩:=Lk hq
  have e':ps[i]? = some (.leaf x):=by rw [JU hi,e]
  exact ⟨i+1,ps,h,⟨sC S g.nodup hx hs e',⟨S,g,K3 _,by lia,λ_ _=>rfl,rfl⟩,λh2 ps2 S2 g2 p2=>sC S2 g2.nodup hx hs (de p2 e'),λ_ f _=>f⟩,lY g e'⟩
 ·have g':Good (ps++[.leaf x]):=.snoc g hq hx
  have e':(ps++[Pc.leaf x])[ps.length]? = some (.leaf x):=by simp
  exact ⟨ps.length+1,_,_,⟨FW S hx hs hq hz,⟨om S,g',ND _ _,by simp,λi hi=>yf hi,ye _ _ _⟩,λh2 ps2 S2 g2 p2=>sC S2 g2.nodup hx hs (de p2 e'),λM f hn=>yq f (ND _ _) (by simp) hn⟩,lY g' e'⟩
theorem eJ {h:AH} {p:Nat} {ps:List Pc} {a b:Nat} {ma mb fa la fb lb:Ms} {x y:Str} (S:ShelfAt h p ps) (g:Good ps) (A:Tx ps a ma x fa la) (B:Tx ps b mb y fb lb) (hc:8<la.sg+fb.sg) (v1 : -1<=ma.ht-mb.ht) (v2:ma.ht-mb.ht<=1) (hm:ma.sg+mb.sg<=1000000000000000000) (hz:ps.length<16000000) :
  ∃ (n:Nat) (ps':List Pc) (h':AH),Dn (aQ [.ref p,.int a,.int b]) p h h' ps ps' 1 n/\Tx ps' n (jF ma mb) (x++y) fa lb:=by
 have F:ForkOk ps a b:=⟨A.n1,B.n1,ma,mb,la,fb,A.ms,B.ms,A.ky.ll,B.ky.fl,hc,by lia,hm⟩
 by_cases hq:Pc.fork a b∈ps
 ·obtain ⟨i,hi,e⟩:=Lk hq
  have e':ps[i]? = some (.fork a b):=by rw [JU hi,e]
  exact ⟨i+1,ps,h,⟨sD S g.nodup F e',⟨S,g,K3 _,by lia,λ_ _=>rfl,rfl⟩,λh2 ps2 S2 g2 p2=>sD S2 g2.nodup (F.pre p2) (de p2 e'),λ_ f _=>f⟩,kg g e' A B⟩
 ·have g':Good (ps++[.fork a b]):=.snoc g hq F
  have e':(ps++[Pc.fork a b])[ps.length]? = some (.fork a b):=by simp
  have pr:ps <+: ps++[Pc.fork a b]:=ND _ _
  exact ⟨ps.length+1,_,_,⟨FZ S F hq hz,⟨om S,g',pr,by simp,λi hi=>yf hi,ye _ _ _⟩,λh2 ps2 S2 g2 p2=>sD S2 g2.nodup (F.pre (pr.trans p2)) (de p2 e'),λM f hn=>yq f pr (by simp) hn⟩,kg g' e' (A.pre pr) (B.pre pr)⟩
theorem eK (ma mb:Ms):(jF ma mb).sg=ma.sg+mb.sg:=rfl
theorem bF (ma mb:Ms):(jF ma mb).ht=max ma.ht mb.ht+1:=rfl
theorem i1 (s:Str) (a b:Int) (h:AH):aC (.tup [.str s,.int a,.int b]) (.int 1) h = .ok (.int a) h:=rfl
theorem i2 (s:Str) (a b:Int) (h:AH):aC (.tup [.str s,.int a,.int b]) (.int 2) h = .ok (.int b) h:=rfl
theorem gv {h:AH} {p:Nat} {ps:List Pc} {n a b:Nat} (S:ShelfAt h p ps) (n1:1<=n) (e:ps[n-1]? = some (.fork a b)):c4 [.ref p,.int n] h = .ok (.tup [.str "fork",.int a,.int b]) h:=oA S n1 e
theorem sI {h:AH} {p:Nat} {ps:List Pc} {a b:Nat} {ma mb:Ms} (S:ShelfAt h p ps) (ea:(meas ps)[a]? = some ma) (eb:(meas ps)[b]? = some mb) (hd:mb.ht-ma.ht<2) :
  e7 [.ref p,.int a,.int b] h=aQ [.ref p,.int a,.int b] h:=by
 have f1:=cM S ea
 have f2:=cM S eb
 generalize hF:aQ [.ref p,.int a,.int b] h=R
 simp [e7,S.ob,f1,f2,hd,hF]
 cases R<;>rfl
theorem sJ {h:AH} {p:Nat} {ps:List Pc} {a b c d:Nat} {ma mb mc md:Ms} (S:ShelfAt h p ps) (b1:1<=b) (ea:(meas ps)[a]? = some ma) (eb:(meas ps)[b]? = some mb) (e:ps[b-1]? = some (.fork c d)) (ec:(meas ps)[c]? = some mc) (ed:(meas ps)[d]? = some md) (hd : ¬ mb.ht-ma.ht<2) (hh:mc.ht<=md.ht) :
  e7 [.ref p,.int a,.int b] h=(aQ [.ref p,.int a,.int c] h).bind λv h1=>aQ [.ref p,v,.int d] h1:=by
 have f1:=cM S ea
 have f2:=cM S eb
 have f3:=gv S b1 e
 have f4:=cM S ec
 have f5:=cM S ed
 generalize hF:aQ [.ref p,.int a,.int c] h=R
 simp [e7,S.ob,f1,f2,hd,f3,i1,i2,f4,f5,hh,hF,-aC]
 cases R with
 | ok v h1=>dsimp only;cases aQ [.ref p,v,.int d] h1<;>rfl
 | ex c h1=>rfl
 | bad=>rfl
noncomputable def cR (p:Nat) (F:AH->Out AV) (h:AH):Out AV:=match h[p]? with
 | some (.ins c' _)=>if c'=0 then F h else .bad
 | _=>.bad
theorem yt {h:AH} {p:Nat} {ps:List Pc} (S:ShelfAt h p ps) (F:AH->Out AV):cR p F h=F h:=by simp [cR,S.ob]
theorem sL {h:AH} {p:Nat} {ps:List Pc} {a b c d i j:Nat} {ma mb mc md:Ms} (S:ShelfAt h p ps) (b1:1<=b) (c1:1<=c) (ea:(meas ps)[a]? = some ma) (eb:(meas ps)[b]? = some mb) (e:ps[b-1]? = some (.fork c d)) (ec:(meas ps)[c]? = some mc) (ed:(meas ps)[d]? = some md) (e2:ps[c-1]? = some (.fork i j)) (hd : ¬ mb.ht-ma.ht<2) (hh : ¬ mc.ht<=md.ht) :
  e7 [.ref p,.int a,.int b] h=(aQ [.ref p,.int a,.int i] h).bind λv h1=>(cR p (aQ [.ref p,.int j,.int d]) h1).bind λw h2=>aQ [.ref p,v,w] h2:=by
 have f1:=cM S ea
 have f2:=cM S eb
 have f3:=gv S b1 e
 have f4:=cM S ec
 have f5:=cM S ed
 have f6:=gv S c1 e2
 generalize hF:aQ [.ref p,.int a,.int i] h=R
 simp [e7,S.ob,f1,f2,hd,f3,i1,i2,f4,f5,hh,f6,hF,-aC]
 cases R with
 | ok v h1 =>
  unfold cR
  dsimp only
  cases hx:h1[p]? with
  | none=>rfl
  | some o =>
   cases o with
   | lst l=>rfl
   | dct q l=>rfl
   | dcx l=>rfl
   | ins c' l =>
    dsimp only
    by_cases z:c'=0
    ·rw [JG z]
     cases aQ [.ref p,.int j,.int d] h1 with
     | ok w h2=>dsimp only;cases aQ [.ref p,v,w] h2<;>rfl
     | ex c h2=>rfl
     | bad=>rfl
    ·rw [JF z]
 | ex c h1=>rfl
 | bad=>rfl
theorem sN {a b m:Int} (h1 : -1<=b-a) (h2:b-a<2) (e:m=max a b+1):max a b<=m/\m<=max a b+1/\(b-a<=1->m=max a b+1):=by lia
theorem Gf {a b c d i j:Int} (ht:b=max c d+1) (ht2:c=max i j+1) (w1 : -1<=c-d) (w2:c-d<=1) (v2:b-a<=2) (q : ¬ b-a<2) (r : ¬ c<=d):max a b<=max (max a i+1) (max j d+1)+1/\max (max a i+1) (max j d+1)+1<=max a b+1/\(b-a<=1->max (max a i+1) (max j d+1)+1=max a b+1):=by
 have hi:=Int.le_max_left i j
 have hj:=Int.le_max_right i j
 generalize max i j=k at *
 rw [Ly (show d<=c by lia)] at ht
 rw [Ly (show i<=a by lia),L7 (show j<=d by lia),L7 (show a<=b by lia),Ly (show d+1<=a+1 by lia)]
 lia
theorem Gg {a b c d i j:Int} (ht:a=max c d+1) (ht2:d=max i j+1) (w1 : -1<=c-d) (w2:c-d<=1) (v2:a-b<=2) (q : ¬ a-b<2) (r : ¬ d<=c):max a b<=max (max c i+1) (max j b+1)+1/\max (max c i+1) (max j b+1)+1<=max a b+1/\(a-b<=1->max (max c i+1) (max j b+1)+1=max a b+1):=by
 have hi:=Int.le_max_left i j
 have hj:=Int.le_max_right i j
 generalize max i j=k at *
 rw [L7 (show c<=d by lia)] at ht
 rw [Ly (show i<=c by lia),L7 (show j<=b by lia),Ly (show b<=a by lia),Ly (show b+1<=c+1 by lia)]
 lia
theorem yu {h:AH} {p:Nat} {ps:List Pc} {a b:Nat} {ma mb fa la fb lb:Ms} {x y:Str} (S:ShelfAt h p ps) (g:Good ps) (A:Tx ps a ma x fa la) (B:Tx ps b mb y fb lb) (hc:8<la.sg+fb.sg) (v1 : -1<=mb.ht-ma.ht) (v2:mb.ht-ma.ht<=2) (hm:ma.sg+mb.sg<=1000000000000000000) (hz:ps.length+3<16000000) :
  ∃ (n:Nat) (ps':List Pc) (h':AH) (m:Ms),Dn (e7 [.ref p,.int a,.int b]) p h h' ps ps' 3 n/\Tx ps' n m (x++y) fa lb/\max ma.ht mb.ht<=m.ht/\m.ht<=max ma.ht mb.ht+1/\(mb.ht-ma.ht<=1->m.ht=max ma.ht mb.ht+1):=by
 by_cases q:mb.ht-ma.ht<2
 ·obtain ⟨n,ps',h',d,T⟩:=eJ S g A B hc (by lia) (by lia) hm (by lia)
  exact ⟨n,ps',h',_,d.as S g (λhh pp S' _ pr=>sI S' (aX pr A.ms) (aX pr B.ms) q) (by lia),T,sN v1 q (bF ma mb)⟩
 ·obtain ⟨c,d,mc,md,y1,y2,lc,fd,e,C,D,rfl,em,w1,w2,w3⟩:=g.cut B (by have:=A.ky.ht;lia)
  have sg:=congrArg Ms.sg em
  have ht:=congrArg Ms.ht em
  rw [eK] at sg
  rw [bF] at ht
  by_cases r:mc.ht<=md.ht
  ·obtain ⟨n1,ps1,h1,d1,T1⟩:=eJ S g A C hc (by lia) (by lia) (by lia) (by lia)
   obtain ⟨n2,ps2,h2,d2,T2⟩:=eJ d1.dd.sh d1.dd.gd T1 (D.pre d1.dd.pre) w3 (by rw [bF];lia) (by rw [bF];lia) (by rw [eK];lia) (by have:=d1.dd.len;lia)
   rw [dj] at T2
   refine ⟨n2,ps2,h2,_,Dn.seq S g d1 d2 (λhh pp S' _ pr=>sJ S' B.n1 (aX pr A.ms) (aX pr B.ms) (de pr e) (aX pr C.ms) (aX pr D.ms) q r) (by lia) (fq T1.ms T2.ms (LB _ _)),T2,?_⟩
   rw [bF,bF];lia
  ·obtain ⟨i,j,mi,mj,z1,z2,li,fj,e2,I,J,rfl,em2,u1,u2,u3⟩:=g.cut C (by have:=D.ky.ht;lia)
   have sg2:=congrArg Ms.sg em2
   have ht2:=congrArg Ms.ht em2
   rw [eK] at sg2
   rw [bF] at ht2
   obtain ⟨n1,ps1,h1,d1,T1⟩:=eJ S g A I hc (by lia) (by lia) (by lia) (by lia)
   obtain ⟨n2,ps2,h2,d2,T2⟩:=eJ d1.dd.sh d1.dd.gd (J.pre d1.dd.pre) (D.pre d1.dd.pre) w3 (by lia) (by lia) (by lia) (by have:=d1.dd.len;lia)
   obtain ⟨n3,ps3,h3,d3,T3⟩:=eJ d2.dd.sh d2.dd.gd (T1.pre d2.dd.pre) T2 u3 (by rw [bF,bF];lia) (by rw [bF,bF];lia) (by rw [eK,eK];lia) (by have:=d1.dd.len;have:=d2.dd.len;lia)
   have d2':Dn (cR p (aQ [.ref p,.int j,.int d])) p h1 h2 ps1 ps2 1 n2:=d2.as d1.dd.sh d1.dd.gd (λhh pp S' _ _=>yt S' _) (JC _)
   have d23:=Dn.seq (F:=λh1=>(cR p (aQ [.ref p,.int j,.int d]) h1).bind λw h2=>aQ [.ref p,.int n1,w] h2) (F2:=λw h2=>aQ [.ref p,.int n1,w] h2) d1.dd.sh d1.dd.gd d2' d3 (λ_ _ _ _ _=>rfl) (k:=2) (by lia) (fq T2.ms T3.ms (ML _ _))
   have ea:(x++z1)++(z2++y2)=x++(z1++z2++y2):=by rw [dj,dj]
   rw [ea] at T3
   refine ⟨n3,ps3,h3,_,Dn.seq (F2:=λv h1=>(cR p (aQ [.ref p,.int j,.int d]) h1).bind λw h2=>aQ [.ref p,v,w] h2) S g d1 d23 (λhh pp S' _ pr=>sL S' B.n1 C.n1 (aX pr A.ms) (aX pr B.ms) (de pr e) (aX pr C.ms) (aX pr D.ms) (de pr e2) q r) (by lia) (fq T1.ms T3.ms (LB _ _)),T3,?_⟩
   rw [bF,bF,bF];exact Gf ht ht2 w1 w2 v2 q r
theorem sO {h:AH} {p:Nat} {ps:List Pc} {a b:Nat} {ma mb:Ms} (S:ShelfAt h p ps) (ea:(meas ps)[a]? = some ma) (eb:(meas ps)[b]? = some mb) (hd:ma.ht-mb.ht<2) :
  gn [.ref p,.int a,.int b] h=aQ [.ref p,.int a,.int b] h:=by
 have f1:=cM S ea
 have f2:=cM S eb
 generalize hF:aQ [.ref p,.int a,.int b] h=R
 simp [gn,S.ob,f1,f2,hd,hF]
 cases R<;>rfl
theorem sP {h:AH} {p:Nat} {ps:List Pc} {a b c d:Nat} {ma mb mc md:Ms} (S:ShelfAt h p ps) (a1:1<=a) (ea:(meas ps)[a]? = some ma) (eb:(meas ps)[b]? = some mb) (e:ps[a-1]? = some (.fork c d)) (ec:(meas ps)[c]? = some mc) (ed:(meas ps)[d]? = some md) (hd : ¬ ma.ht-mb.ht<2) (hh:md.ht<=mc.ht) :
  gn [.ref p,.int a,.int b] h=(aQ [.ref p,.int d,.int b] h).bind λv h1=>aQ [.ref p,.int c,v] h1:=by
 have f1:=cM S ea
 have f2:=cM S eb
 have f3:=gv S a1 e
 have f4:=cM S ec
 have f5:=cM S ed
 generalize hF:aQ [.ref p,.int d,.int b] h=R
 simp [gn,S.ob,f1,f2,hd,f3,i1,i2,f4,f5,hh,hF,-aC]
 cases R with
 | ok v h1=>dsimp only;cases aQ [.ref p,.int c,v] h1<;>rfl
 | ex c h1=>rfl
 | bad=>rfl
theorem sQ {h:AH} {p:Nat} {ps:List Pc} {a b c d i j:Nat} {ma mb mc md:Ms} (S:ShelfAt h p ps) (a1:1<=a) (d1:1<=d) (ea:(meas ps)[a]? = some ma) (eb:(meas ps)[b]? = some mb) (e:ps[a-1]? = some (.fork c d)) (ec:(meas ps)[c]? = some mc) (ed:(meas ps)[d]? = some md) (e2:ps[d-1]? = some (.fork i j)) (hd : ¬ ma.ht-mb.ht<2) (hh : ¬ md.ht<=mc.ht) :
  gn [.ref p,.int a,.int b] h=(aQ [.ref p,.int c,.int i] h).bind λv h1=>(cR p (aQ [.ref p,.int j,.int b]) h1).bind λw h2=>aQ [.ref p,v,w] h2:=by
 have f1:=cM S ea
 have f2:=cM S eb
 have f3:=gv S a1 e
 have f4:=cM S ec
 have f5:=cM S ed
 have f6:=gv S d1 e2
 generalize hF:aQ [.ref p,.int c,.int i] h=R
 simp [gn,S.ob,f1,f2,hd,f3,i1,i2,f4,f5,hh,f6,hF,-aC]
 cases R with
 | ok v h1 =>
  unfold cR
  dsimp only
  cases hx:h1[p]? with
  | none=>rfl
  | some o =>
   cases o with
   | lst l=>rfl
   | dct q l=>rfl
   | dcx l=>rfl
   | ins c' l =>
    dsimp only
    by_cases z:c'=0
    ·rw [JG z]
     cases aQ [.ref p,.int j,.int b] h1 with
     | ok w h2=>dsimp only;cases aQ [.ref p,v,w] h2<;>rfl
     | ex c h2=>rfl
     | bad=>rfl
    ·rw [JF z]
 | ex c h1=>rfl
 | bad=>rfl
theorem Gh {h:AH} {p:Nat} {ps:List Pc} {a b:Nat} {ma mb fa la fb lb:Ms} {x y:Str} (S:ShelfAt h p ps) (g:Good ps) (A:Tx ps a ma x fa la) (B:Tx ps b mb y fb lb) (hc:8<la.sg+fb.sg) (v1 : -1<=ma.ht-mb.ht) (v2:ma.ht-mb.ht<=2) (hm:ma.sg+mb.sg<=1000000000000000000) (hz:ps.length+3<16000000) :
  ∃ (n:Nat) (ps':List Pc) (h':AH) (m:Ms),Dn (gn [.ref p,.int a,.int b]) p h h' ps ps' 3 n/\Tx ps' n m (x++y) fa lb/\max ma.ht mb.ht<=m.ht/\m.ht<=max ma.ht mb.ht+1/\(ma.ht-mb.ht<=1->m.ht=max ma.ht mb.ht+1):=by
 by_cases q:ma.ht-mb.ht<2
 ·obtain ⟨n,ps',h',d,T⟩:=eJ S g A B hc (by lia) (by lia) hm (by lia)
  refine ⟨n,ps',h',_,d.as S g (λhh pp S' _ pr=>sO S' (aX pr A.ms) (aX pr B.ms) q) (by lia),T,?_⟩
  rw [bF];lia
 ·obtain ⟨c,d,mc,md,y1,y2,lc,fd,e,C,D,rfl,em,w1,w2,w3⟩:=g.cut A (by have:=B.ky.ht;lia)
  have sg:=congrArg Ms.sg em
  have ht:=congrArg Ms.ht em
  rw [eK] at sg
  rw [bF] at ht
  by_cases r:md.ht<=mc.ht
  ·obtain ⟨n1,ps1,h1,d1,T1⟩:=eJ S g D B hc (by lia) (by lia) (by lia) (by lia)
   obtain ⟨n2,ps2,h2,d2,T2⟩:=eJ d1.dd.sh d1.dd.gd (C.pre d1.dd.pre) T1 w3 (by rw [bF];lia) (by rw [bF];lia) (by rw [eK];lia) (by have:=d1.dd.len;lia)
   rw [<- dj] at T2
   refine ⟨n2,ps2,h2,_,Dn.seq (F2:=λv h1=>aQ [.ref p,.int c,v] h1) S g d1 d2 (λhh pp S' _ pr=>sP S' A.n1 (aX pr A.ms) (aX pr B.ms) (de pr e) (aX pr C.ms) (aX pr D.ms) q r) (by lia) (fq T1.ms T2.ms (ML _ _)),T2,?_⟩
   rw [bF,bF];lia
  ·obtain ⟨i,j,mi,mj,z1,z2,li,fj,e2,I,J,rfl,em2,u1,u2,u3⟩:=g.cut D (by have:=C.ky.ht;lia)
   have sg2:=congrArg Ms.sg em2
   have ht2:=congrArg Ms.ht em2
   rw [eK] at sg2
   rw [bF] at ht2
   obtain ⟨n1,ps1,h1,d1,T1⟩:=eJ S g C I w3 (by lia) (by lia) (by lia) (by lia)
   obtain ⟨n2,ps2,h2,d2,T2⟩:=eJ d1.dd.sh d1.dd.gd (J.pre d1.dd.pre) (B.pre d1.dd.pre) hc (by lia) (by lia) (by lia) (by have:=d1.dd.len;lia)
   obtain ⟨n3,ps3,h3,d3,T3⟩:=eJ d2.dd.sh d2.dd.gd (T1.pre d2.dd.pre) T2 u3 (by rw [bF,bF];lia) (by rw [bF,bF];lia) (by rw [eK,eK];lia) (by have:=d1.dd.len;have:=d2.dd.len;lia)
   have d2':Dn (cR p (aQ [.ref p,.int j,.int b])) p h1 h2 ps1 ps2 1 n2:=d2.as d1.dd.sh d1.dd.gd (λhh pp S' _ _=>yt S' _) (JC _)
   have d23:=Dn.seq (F:=λh1=>(cR p (aQ [.ref p,.int j,.int b]) h1).bind λw h2=>aQ [.ref p,.int n1,w] h2) (F2:=λw h2=>aQ [.ref p,.int n1,w] h2) d1.dd.sh d1.dd.gd d2' d3 (λ_ _ _ _ _=>rfl) (k:=2) (by lia) (fq T2.ms T3.ms (ML _ _))
   have ea:(y1++z1)++(z2++y)=y1++(z1++z2)++y:=by rw [dj,dj,dj]
   rw [ea] at T3
   refine ⟨n3,ps3,h3,_,Dn.seq (F2:=λv h1=>(cR p (aQ [.ref p,.int j,.int b]) h1).bind λw h2=>aQ [.ref p,v,w] h2) S g d1 d23 (λhh pp S' _ pr=>sQ S' A.n1 D.n1 (aX pr A.ms) (aX pr B.ms) (de pr e) (aX pr C.ms) (aX pr D.ms) (de pr e2) q r) (by lia) (fq T1.ms T3.ms (LB _ _)),T3,?_⟩
   rw [bF,bF,bF];exact Gg ht ht2 w1 w2 v2 q r
end Sk
namespace Sk
open PySem PySem.Spec L2 Sm
theorem Dn.seq' {F F1 F2:AH->Out AV} {p:Nat} {h h1 h2:AH} {ps ps1 ps2:List Pc} {k1 k2 k n1 n2:Nat} (S:ShelfAt h p ps) (g:Good ps) (d1:Dn F1 p h h1 ps ps1 k1 n1) (d2:Dn F2 p h1 h2 ps1 ps2 k2 n2)
  (eq:∀ hh hh1 pp,ShelfAt hh p pp->Good pp->ps <+: pp->F1 hh = .ok (.int n1) hh1->F hh=F2 hh1) (hk:k1+k2<=k) (pt:∀ M,(∀ m,(meas ps2)[n2]? = some m->m.sg<=M)->∀ m,(meas ps1)[n1]? = some m->m.sg<=M):Dn F p h h2 ps ps2 k n2:=by
 refine ⟨?_,d1.dd.trans d2.dd hk,λh3 ps3 S3 g3 p3=>?_,λM f hn=>d2.al M (d1.al M f (pt M hn)) hn⟩
 ·rw [eq h h1 ps S g (K3 _) d1.ev];exact d2.ev
 ·rw [eq h3 h3 ps3 S3 g3 (d1.dd.pre.trans (d2.dd.pre.trans p3)) (d1.re h3 ps3 S3 g3 (d2.dd.pre.trans p3))]
  exact d2.re h3 ps3 S3 g3 p3
theorem sR {h:AH} {p:Nat} {ps:List Pc} {a b d:Nat} {ma mb:Ms} (S:ShelfAt h p ps) (ea:(meas ps)[a]? = some ma) (eb:(meas ps)[b]? = some mb) (h1:ma.ht-mb.ht<=1) (h2 : -1<=ma.ht-mb.ht) :
  dX (d+1) [.ref p,.int a,.int b] h=aQ [.ref p,.int a,.int b] h:=by
 have f1:=cM S ea
 have f2:=cM S eb
 have c1 : ¬ 1<ma.ht-mb.ht:=by lia
 have c2 : ¬ ma.ht-mb.ht < -1:=by lia
 generalize hF:aQ [.ref p,.int a,.int b] h=R
 simp [dX,oa,S.ob,f1,f2,c1,c2,hF]
 cases R<;>rfl
theorem sS {h h1:AH} {p:Nat} {ps:List Pc} {a b c e d:Nat} {v:Int} {ma mb:Ms} (S:ShelfAt h p ps) (a1:1<=a) (ea:(meas ps)[a]? = some ma) (eb:(meas ps)[b]? = some mb) (ep:ps[a-1]? = some (.fork c e)) (hd:1<ma.ht-mb.ht) (ev:dX d [.ref p,.int e,.int b] h = .ok (.int v) h1) :
  dX (d+1) [.ref p,.int a,.int b] h=e7 [.ref p,.int c,.int v] h1:=by
 have f1:=cM S ea
 have f2:=cM S eb
 have f3:=gv S a1 ep
 generalize hF:e7 [.ref p,.int c,.int v] h1=R
 simp [dX,oa,S.ob,f1,f2,hd,f3,i1,i2,ev,hF,-aC]
 cases R<;>rfl
theorem sT {h h1:AH} {p:Nat} {ps:List Pc} {a b c e d:Nat} {v:Int} {ma mb:Ms} (S:ShelfAt h p ps) (b1:1<=b) (ea:(meas ps)[a]? = some ma) (eb:(meas ps)[b]? = some mb) (ep:ps[b-1]? = some (.fork c e)) (hd:ma.ht-mb.ht < -1) (ev:dX d [.ref p,.int a,.int c] h = .ok (.int v) h1) :
  dX (d+1) [.ref p,.int a,.int b] h=gn [.ref p,.int v,.int e] h1:=by
 have f1:=cM S ea
 have f2:=cM S eb
 have f3:=gv S b1 ep
 have c1 : ¬ 1<ma.ht-mb.ht:=by lia
 generalize hF:gn [.ref p,.int v,.int e] h1=R
 simp [dX,oa,S.ob,f1,f2,c1,hd,f3,i1,i2,ev,hF,-aC]
 cases R<;>rfl
theorem oB (a b:Int):a<=max a b/\b<=max a b/\(max a b=a\/max a b=b):=by lia
theorem Gi {a b c e m n:Int} (hh:a=max c e+1) (w1 : -1<=c-e) (w2:c-e<=1) (q:1<a-b) (u1:max e b<=m) (u2:m<=max e b+1) (u3:max c m<=n) (u4:n<=max c m+1) (u5:m-c<=1->n=max c m+1):max a b<=n/\n<=max a b+1:=by
 obtain ⟨x1,x2,x3⟩:=oB c e
 obtain ⟨y1,y2,y3⟩:=oB c m
 generalize max c e=k at *
 generalize max c m=l at *
 rw [Ly (show b<=e by lia)] at u1 u2
 rw [Ly (show b<=a by lia)]
 lia
theorem Gj {a b c e m n:Int} (hh:b=max c e+1) (w1 : -1<=c-e) (w2:c-e<=1) (q:a-b < -1) (u1:max a c<=m) (u2:m<=max a c+1) (u3:max m e<=n) (u4:n<=max m e+1) (u5:m-e<=1->n=max m e+1):max a b<=n/\n<=max a b+1:=by
 obtain ⟨x1,x2,x3⟩:=oB c e
 obtain ⟨y1,y2,y3⟩:=oB m e
 generalize max c e=k at *
 generalize max m e=l at *
 rw [L7 (show a<=c by lia)] at u1 u2
 rw [L7 (show a<=b by lia)]
 lia
theorem oC {p:Nat}:∀ (d t:Nat) {h:AH} {ps:List Pc} {a b:Nat} {ma mb fa la fb lb:Ms} {x y:Str} (S:ShelfAt h p ps) (g:Good ps) (A:Tx ps a ma x fa la) (B:Tx ps b mb y fb lb) (hc:8<la.sg+fb.sg) (hm:ma.sg+mb.sg<=1000000000000000000)
  (ht:(ma.ht-mb.ht).natAbs<=t) (hd:t<d) (hz:ps.length+3*t+4<16000000),
  ∃ (n:Nat) (ps':List Pc) (h':AH) (m:Ms),Dn (dX d [.ref p,.int a,.int b]) p h h' ps ps' (3*t+1) n/\Tx ps' n m (x++y) fa lb/\max ma.ht mb.ht<=m.ht/\m.ht<=max ma.ht mb.ht+1
 | 0,t,h,ps,a,b,ma,mb,fa,la,fb,lb,x,y,S,g,A,B,hc,hm,ht,hd,hz=>absurd hd (Ml t)
 | d+1,t,h,ps,a,b,ma,mb,fa,la,fb,lb,x,y,S,g,A,B,hc,hm,ht,hd,hz=>by
  by_cases q1:1<ma.ht-mb.ht
  ·obtain ⟨c,e,mc,me,y1,y2,lc,fe,ep,C,E,rfl,em,w1,w2,w3⟩:=g.cut A (by have:=B.ky.ht;lia)
   have sg:=congrArg Ms.sg em
   have hh:=congrArg Ms.ht em
   rw [eK] at sg
   rw [bF] at hh
   obtain ⟨n1,ps1,h1,m1,d1,T1,u1,u2⟩:=oC d (t-1) S g E B hc (by lia) (by lia) (by lia) (by lia)
   have s1:m1.sg=me.sg+mb.sg:=by rw [T1.ky.sg,bP,<- E.ky.sg,<- B.ky.sg]
   obtain ⟨n2,ps2,h2,m2,d2,T2,u3,u4,u5⟩:=yu d1.dd.sh d1.dd.gd (C.pre d1.dd.pre) T1 w3 (by lia) (by lia) (by lia) (by have:=d1.dd.len;lia)
   rw [<- dj] at T2
   exact ⟨n2,ps2,h2,m2,Dn.seq' S g d1 d2 (λhh hh1 pp S' _ pr ev=>sS S' A.n1 (aX pr A.ms) (aX pr B.ms) (de pr ep) q1 ev) (by lia) (fq T1.ms T2.ms (by rw [T1.ky.sg,T2.ky.sg];simp only [bP];lia)),T2,Gi hh w1 w2 q1 u1 u2 u3 u4 u5⟩
  ·by_cases q2:ma.ht-mb.ht < -1
   ·obtain ⟨c,e,mc,me,y1,y2,lc,fe,ep,C,E,rfl,em,w1,w2,w3⟩:=g.cut B (by have:=A.ky.ht;lia)
    have sg:=congrArg Ms.sg em
    have hh:=congrArg Ms.ht em
    rw [eK] at sg
    rw [bF] at hh
    obtain ⟨n1,ps1,h1,m1,d1,T1,u1,u2⟩:=oC d (t-1) S g A C hc (by lia) (by lia) (by lia) (by lia)
    have s1:m1.sg=ma.sg+mc.sg:=by rw [T1.ky.sg,bP,<- A.ky.sg,<- C.ky.sg]
    obtain ⟨n2,ps2,h2,m2,d2,T2,u3,u4,u5⟩:=Gh d1.dd.sh d1.dd.gd T1 (E.pre d1.dd.pre) w3 (by lia) (by lia) (by lia) (by have:=d1.dd.len;lia)
    rw [dj] at T2
    exact ⟨n2,ps2,h2,m2,Dn.seq' S g d1 d2 (λhh hh1 pp S' _ pr ev=>sT S' B.n1 (aX pr A.ms) (aX pr B.ms) (de pr ep) q2 ev) (by lia) (fq T1.ms T2.ms (by rw [T1.ky.sg,T2.ky.sg];simp only [bP];lia)),T2,Gj hh w1 w2 q2 u1 u2 u3 u4 u5⟩
   ·obtain ⟨n,ps',h',dn,T⟩:=eJ S g A B hc (by lia) (by lia) hm (by lia)
    exact ⟨n,ps',h',_,dn.as S g (λhh pp S' _ pr=>sR S' (aX pr A.ms) (aX pr B.ms) (by lia) (by lia)) (by lia),T,by rw [bF];lia,by rw [bF];lia⟩
theorem oE {h:AH} {p:Nat} {ps:List Pc} {n:Nat} {x:Str} (S:ShelfAt h p ps) (n1:1<=n) (e:ps[n-1]? = some (.leaf x)):c4 [.ref p,.int n] h = .ok (.tup [.str "leaf",.str x]) h:=oA S n1 e
theorem oF (x:Str) (h:AH):aC (.tup [.str "leaf",.str x]) (.int 0) h = .ok (.str "leaf") h:=rfl
theorem lZ (a b:Int) (h:AH):aC (.tup [.str "fork",.int a,.int b]) (.int 0) h = .ok (.str "fork") h:=rfl
theorem yv (x:Str) (h:AH):aC (.tup [.str "leaf",.str x]) (.int 1) h = .ok (.str x) h:=rfl
theorem sU (h:AH):aS (.str "leaf") (.str "leaf") h = .ok (.bl true) h:=by simp
theorem oG (h:AH):aS (.str "fork") (.str "leaf") h = .ok (.bl false) h:=by
 have : ¬ (Str.ofString "fork" = Str.ofString "leaf"):=by decide +kernel
 simp [this]
theorem sV {h:AH} {p:Nat} {ps:List Pc} {a d:Nat} {L:Int} {x:Str} (S:ShelfAt h p ps) (a1:1<=a) (ep:ps[a-1]? = some (.leaf x)):fL (d+1) [.ref p,.int a,.int L] h = .ok (.int L) h:=by
 simp [fL,r9,S.ob,oE S a1 ep,oF,sU,-aC,-aS]
theorem sW {h h1:AH} {p:Nat} {ps:List Pc} {a d c e:Nat} {L v:Int} (S:ShelfAt h p ps) (a1:1<=a) (ep:ps[a-1]? = some (.fork c e)) (ev:fL d [.ref p,.int e,.int L] h = .ok (.int v) h1) :
  fL (d+1) [.ref p,.int a,.int L] h=aQ [.ref p,.int c,.int v] h1:=by
 generalize hF:aQ [.ref p,.int c,.int v] h1=R
 simp [fL,r9,S.ob,gv S a1 ep,lZ,i1,i2,oG,ev,hF,-aC,-aS]
 cases R<;>rfl
theorem oH {ps:List Pc} {n:Nat} {m:Ms} {x:Str} {f l:Ms} (T:Tx ps n m x f l) (e:m=bz x n):f=m/\l=m:=by
 have h1:=T.ky.fl
 have h2:=T.ky.ll
 have h3:=T.ms
 rw [e] at h1 h2
 exact ⟨Kp (h1.symm.trans h3),Kp (h2.symm.trans h3)⟩
theorem yw {p:Nat}:∀ (d:Nat) {h:AH} {ps:List Pc} {a L:Nat} {m f l:Ms} {x w:Str} (S:ShelfAt h p ps) (g:Good ps) (T:Tx ps a m x f l) (N:Tx ps L (bz w L) w (bz w L) (bz w L)) (hw:l.sg<=w.length) (hm:m.sg+w.length<=1000000000000000000+l.sg) (hd:m.ht.toNat<d) (hz:ps.length+m.ht.toNat<16000000),
  ∃ (n:Nat) (ps':List Pc) (h':AH) (m' f':Ms) (u v:Str),Dn (fL d [.ref p,.int a,.int L]) p h h' ps ps' m.ht.toNat n/\x=u++v/\v.length=l.sg/\Tx ps' n m' (u++w) f' (bz w L)/\m'.ht=m.ht/\f.sg<=f'.sg
 | 0,h,ps,a,L,m,f,l,x,w,S,g,T,N,hw,hm,hd,hz=>absurd hd (Ml _)
 | d+1,h,ps,a,L,m,f,l,x,w,S,g,T,N,hw,hm,hd,hz=>by
  by_cases q:0<m.ht
  ·obtain ⟨c,e,mc,me,y1,y2,lc,fe,ep,C,E,rfl,em,w1,w2,w3⟩:=g.cut T q
   have sg:=congrArg Ms.sg em
   have hh:=congrArg Ms.ht em
   rw [eK] at sg
   rw [bF] at hh
   have c0:=C.ky.ht
   have e0:=E.ky.ht
   obtain ⟨n1,ps1,h1,m1,f1,u,v,d1,rfl,lv,T1,k1,k2⟩:=yw d S g E N hw (by lia) (by lia) (by lia)
   have s1:m1.sg+l.sg=me.sg+w.length:=by rw [T1.ky.sg,E.ky.sg,bP,bP];lia
   obtain ⟨n2,ps2,h2,d2,T2⟩:=eJ d1.dd.sh d1.dd.gd (C.pre d1.dd.pre) T1 (by lia) (by lia) (by lia) (by lia) (by have:=d1.dd.len;lia)
   rw [<- dj] at T2
   exact ⟨n2,ps2,h2,_,f,y1++u,v,Dn.seq' S g d1 d2 (λhh hh1 pp S' _ pr ev=>sW S' T.n1 (de pr ep) ev) (by lia) (fq T1.ms T2.ms (ML _ _)),by rw [dj],lv,T2,by rw [bF,k1,hh],JC _⟩
  ·rcases g.kind T with ⟨e1,e2,e3,e4,e5⟩ | ⟨c,e,mc,me,y1,y2,fc,lc,fe,le,e1,e2,e3,C,E,e4,e5,e6⟩
   ·obtain ⟨z1,z2⟩:=oH T e3
    subst z1 z2
    have em:("" : Str)++x=x:=dc (by rw [dY];rfl)
    have em2:("" : Str)++w=w:=dc (by rw [dY];rfl)
    have dv:Dn (fL (d+1) [.ref p,.int a,.int L]) p h h ps ps 0 L:=Dn.val S g λhh pp S' _ pr=>sV S' T.n1 (de pr e1)
    refine ⟨L,ps,h,_,_, "",x,dv.as S g (λ_ _ _ _ _=>rfl) (Ki _),em.symm,T.ky.sg.symm,by rw [em2];exact N,e2.symm,hw⟩
   ·have:=congrArg Ms.ht e5
    rw [bF] at this
    have c0:=C.ky.ht
    lia
theorem sX {h:AH} {p:Nat} {ps:List Pc} {a d:Nat} {x:Str} (S:ShelfAt h p ps) (a1:1<=a) (ep:ps[a-1]? = some (.leaf x)):d8 (d+1) [.ref p,.int a] h = .ok (.int (0:Nat)) h:=by
 simp [d8,n9,S.ob,oE S a1 ep,oF,sU,-aC,-aS]
theorem l9 {h h1:AH} {p:Nat} {ps:List Pc} {a d c e:Nat} (S:ShelfAt h p ps) (a1:1<=a) (ep:ps[a-1]? = some (.fork c e)) (ev:d8 d [.ref p,.int c] h = .ok (.int (0:Nat)) h1) :
  d8 (d+1) [.ref p,.int a] h = .ok (.int e) h1:=by
 have z:aS (.int 0) (.int 0) h1 = .ok (.bl true) h1:=by simp
 simp [d8,n9,S.ob,gv S a1 ep,lZ,i1,i2,oG,ev,z,-aC,-aS]
theorem sY {h h1:AH} {p:Nat} {ps:List Pc} {a d c e v:Nat} (S:ShelfAt h p ps) (a1:1<=a) (ep:ps[a-1]? = some (.fork c e)) (v1:1<=v) (ev:d8 d [.ref p,.int c] h = .ok (.int v) h1) :
  d8 (d+1) [.ref p,.int a] h=e7 [.ref p,.int v,.int e] h1:=by
 have z:aS (.int (v:Int)) (.int 0) h1 = .ok (.bl false) h1:=by
  have : ¬ (v=0):=by lia
  simp [this]
 generalize hF:e7 [.ref p,.int v,.int e] h1=R
 simp [d8,n9,S.ob,gv S a1 ep,lZ,i1,i2,oG,ev,z,hF,-aC,-aS]
 cases R<;>rfl
end Sk
namespace Sk
open PySem PySem.Spec L2 Sm
theorem yx {p:Nat}:∀ (d:Nat) {h:AH} {ps:List Pc} {a:Nat} {m f l:Ms} {x:Str} (S:ShelfAt h p ps) (g:Good ps) (T:Tx ps a m x f l) (hd:m.ht.toNat<d) (hz:ps.length+3*m.ht.toNat<16000000),
  (m.ht=0/\f.sg=x.length/\Dn (d8 d [.ref p,.int a]) p h h ps ps 0 0) \/
  (0<m.ht/\∃ (n:Nat) (ps':List Pc) (h':AH) (m' f2:Ms) (u v:Str),Dn (d8 d [.ref p,.int a]) p h h' ps ps' (3*m.ht.toNat) n/\x=u++v/\u.length=f.sg/\Tx ps' n m' v f2 l/\m.ht-1<=m'.ht/\m'.ht<=m.ht/\8<f.sg+f2.sg)
 | 0,h,ps,a,m,f,l,x,S,g,T,hd,hz=>absurd hd (Ml _)
 | d+1,h,ps,a,m,f,l,x,S,g,T,hd,hz=>by
  by_cases q:0<m.ht
  ·obtain ⟨c,e,mc,me,y1,y2,lc,fe,ep,C,E,rfl,em,w1,w2,w3⟩:=g.cut T q
   have sg:=congrArg Ms.sg em
   have hh:=congrArg Ms.ht em
   rw [eK] at sg
   rw [bF] at hh
   have c0:=C.ky.ht
   have e0:=E.ky.ht
   have most:=T.ky.most
   refine .inr ⟨q,?_⟩
   rcases yx d S g C (by lia) (by lia) with ⟨k1,k2,d1⟩ | ⟨k1,n1,ps1,h1,m1,f2,u,v,d1,rfl,lu,T1,r1,r2,r3⟩
   ·rcases g.kind C with ⟨e1,e2,e3,e4,e5⟩ | ⟨_,_,mx,my,_,_,_,_,_,_,_,_,_,X,Y,_,e5,_⟩
    ·obtain ⟨z1,z2⟩:=oH C e3
     have dv:Dn (d8 (d+1) [.ref p,.int a]) p h h ps ps 0 e:=by
      refine ⟨l9 S T.n1 ep d1.ev,Dd.refl S g,λh3 ps3 S3 g3 p3=>l9 S3 T.n1 (de p3 ep) (d1.re h3 ps3 S3 g3 p3),λ_ f _=>f⟩
     exact ⟨e,ps,h,me,fe,y1,y2,dv.as S g (λ_ _ _ _ _=>rfl) (Ki _),rfl,k2.symm,E,by lia,by lia,by rw [z1];rw [z2] at w3;exact w3⟩
    ·have:=congrArg Ms.ht e5
     rw [bF] at this
     have:=X.ky.ht
     lia
   ·have s1:m1.sg+f.sg=mc.sg:=by rw [T1.ky.sg,C.ky.sg,bP];lia
    obtain ⟨n2,ps2,h2,m2,d2,T2,u3,u4,u5⟩:=yu d1.dd.sh d1.dd.gd T1 (E.pre d1.dd.pre) w3 (by lia) (by lia) (by lia) (by have:=d1.dd.len;lia)
    refine ⟨n2,ps2,h2,m2,f2,u,v++y2,Dn.seq' S g d1 d2 (λhh hh1 pp S' _ pr ev=>sY S' T.n1 (de pr ep) T1.n1 ev) (by lia) (fq T1.ms T2.ms (by rw [T1.ky.sg,T2.ky.sg];simp only [bP];lia)),by rw [dj],lu,T2,?_,?_,r3⟩
    ·lia
    ·lia
  ·rcases g.kind T with ⟨e1,e2,e3,e4,e5⟩ | ⟨_,_,mx,my,_,_,_,_,_,_,_,_,_,X,Y,_,e5,_⟩
   ·obtain ⟨z1,z2⟩:=oH T e3
    exact .inl ⟨e2,by rw [z1];exact T.ky.sg,Dn.val S g λhh pp S' _ pr=>sX S' T.n1 (de pr e1)⟩
   ·have:=congrArg Ms.ht e5
    rw [bF] at this
    have:=X.ky.ht
    lia
theorem Good.ends {ps:List Pc} (g:Good ps):∀ (k n:Nat) {m f l:Ms} {x:Str},n<=k->Tx ps n m x f l ->
  (∃ w u:Str,1<=m.fl/\ps[m.fl-1]? = some (.leaf w)/\x=w++u/\w.length=f.sg)/\(∃ w u:Str,1<=m.ll/\ps[m.ll-1]? = some (.leaf w)/\x=u++w/\w.length=l.sg)
 | 0,n,m,f,l,x,hn,T=>absurd T.n1 (by lia)
 | k+1,n,m,f,l,x,hn,T=>by
  rcases g.kind T with ⟨e1,e2,e3,e4,e5⟩ | ⟨a,b,ma,mb,y,z,fa,la,fb,lb,e1,e2,e3,A,B,rfl,e5,e6⟩
  ·obtain ⟨z1,z2⟩:=oH T e3
   have em:("" : Str)++x=x:=dc (by rw [dY];rfl)
   have em2:x++("" : Str)=x:=dc (by rw [dY];simp;rfl)
   have hf:m.fl=n:=by rw [e3];rfl
   have hl:m.ll=n:=by rw [e3];rfl
   have hx:=T.ky.sg
   refine ⟨⟨x, "",by rw [hf];exact T.n1,by rw [hf];exact e1,em2.symm,by rw [z1];exact hx.symm⟩,⟨x, "",by rw [hl];exact T.n1,by rw [hl];exact e1,em.symm,by rw [z2];exact hx.symm⟩⟩
  ·have q1:=g.ends k a (by lia) A
   have q2:=g.ends k b (by lia) B
   obtain ⟨⟨w,u,a1,a2,rfl,a4⟩,_⟩:=q1
   obtain ⟨_,⟨w2,u2,b1,b2,rfl,b4⟩⟩:=q2
   have f1:=T.ky.fl
   have l1:=T.ky.ll
   have hf:m.fl=ma.fl:=by rw [e5];rfl
   have hl:m.ll=mb.ll:=by rw [e5];rfl
   rw [hf] at f1
   rw [hl] at l1
   have z5:=f1.symm.trans A.ky.fl;cases z5
   have z6:=l1.symm.trans B.ky.ll;cases z6
   rw [hf,hl]
   exact ⟨⟨w,u++(u2++w2),a1,a2,by rw [dj],a4⟩,⟨w2,w++u++u2,b1,b2,by rw [dj (w++u)],b4⟩⟩
theorem yy {a b c d:Str} (e:a++b=c++d) (h:a.length=c.length):a=c/\b=d:=by
 have:=congrArg (λz:Str=>z.cps.toList) e
 simp only [dY] at this
 obtain ⟨h1,h2⟩:=List.append_inj this (by rw [<- dJ,<- dJ];exact h)
 exact ⟨dc h1,dc h2⟩
theorem Gk {a b c d:Str} (e:a++b=c++d) (h:b.length=d.length):a=c/\b=d:=by
 refine yy e ?_
 have:=congrArg Str.length e
 rw [bP,bP] at this
 lia
theorem Gm {h:AH} {p:Nat} {ps:List Pc} {a b:Nat} {ma mb la fb:Ms} (S:ShelfAt h p ps) (ea:(meas ps)[a]? = some ma) (eb:(meas ps)[b]? = some mb) (el:(meas ps)[ma.ll]? = some la) (ef:(meas ps)[mb.fl]? = some fb) :
  n8 [.ref p,.int a,.int b] h = .ok (.bl (decide (8<la.sg+fb.sg))) h:=by
 have e1:=yo S ea
 have e2:=yn S eb
 have e3:=iW S el
 have e4:=iW S ef
 have:decide ((8:Int)<(la.sg:Int)+fb.sg)=decide (8<la.sg+fb.sg):=by apply decide_eq_decide.mpr;lia
 simp [n8,S.ob,e1,e2,e3,e4,this]
theorem Gn {w v:Str} (hw:w.length+v.length<=100) (h:AH):aA (.str w) (.str v) h = .ok (.str (w++v)) h:=by
 have:w.length+v.length<=sizeLine:=JI hw (by decide)
 simp [aA,this]
theorem iy {h h1 h2 h3:AH} {p:Nat} {ps:List Pc} {a b:Nat} {L n k:Int} {ma mb:Ms} {w v:Str} (S:ShelfAt h p ps) (ea:(meas ps)[a]? = some ma) (eb:(meas ps)[b]? = some mb) (l1:1<=ma.ll) (f1:1<=mb.fl) (el:ps[ma.ll-1]? = some (.leaf w)) (ef:ps[mb.fl-1]? = some (.leaf v)) (hw:w.length+v.length<=100)
  (e1:eZ [.ref p,.str (w++v)] h = .ok (.int L) h1) (e2:fL 90 [.ref p,.int a,.int L] h1 = .ok (.int n) h2) (e3:d8 90 [.ref p,.int b] h2 = .ok (.int k) h3) :
  jz [.ref p,.int a,.int b] h=if k=0 then .ok (.int n) h3 else dX 90 [.ref p,.int n,.int k] h3:=by
 have q1:=yo S ea
 have q2:=yn S eb
 have q3:=oE S l1 el
 have q4:=oE S f1 ef
 have ad:=Gn hw h
 unfold jz
 generalize fL 90=WL at *
 generalize d8 90=WF at *
 generalize hF:dX 90=LK at *
 by_cases z:k=0
 ·subst z
  have zz:aS (.int 0) (.int 0) h3 = .ok (.bl true) h3:=by simp
  simp [S.ob,q1,q2,q3,q4,yv,ad,e1,e2,e3,zz,-aC,-aS,-aA]
 ·have zz:aS (.int k) (.int 0) h3 = .ok (.bl false) h3:=by simp [z]
  rw [JF z]
  generalize hR:LK [.ref p,.int n,.int k] h3=R
  simp [S.ob,q1,q2,q3,q4,yv,ad,e1,e2,e3,zz,hR,-aC,-aS,-aA]
  cases R<;>rfl
end Sk
namespace Sk
open PySem PySem.Spec L2 Sm
theorem Gp {w v:Str} (h1:1<=w.length) (h2:w.length+v.length<=8) (pw:bj w=true) (pv:bj v=true):fh (w++v)=true:=by
 unfold fh
 rw [lV,bP,pw,pv]
 simp;lia
theorem Gq {h:AH} {p:Nat} {ps:List Pc} {a b:Nat} {ma mb fa la fb lb:Ms} {x y:Str} (S:ShelfAt h p ps) (g:Good ps) (A:Tx ps a ma x fa la) (B:Tx ps b mb y fb lb) (hc : ¬ 8<la.sg+fb.sg) (hm:ma.sg+mb.sg<=1000000000000000000) (hz:ps.length<15000000) :
  ∃ (n:Nat) (ps':List Pc) (h':AH) (m f l:Ms),Dn (jz [.ref p,.int a,.int b]) p h h' ps ps' (7*(max ma.ht mb.ht).toNat+2) n/\Tx ps' n m (x++y) f l/\m.ht<=max ma.ht mb.ht+1:=by
 obtain ⟨_,w,u,l1,el,ex,lw⟩:=g.ends a a (JC _) A
 obtain ⟨⟨v,t,f1,ef,ey,lv⟩,_⟩:=g.ends b b (JC _) B
 have a0:=A.ky.ht
 have b0:=B.ky.ht
 have ha:=gu g A
 have hb:=gu g B
 have px:bj x=true:=A.ky.pl
 have py:bj y=true:=B.ky.pl
 have pw:bj w=true:=by rw [ex,lV,K2] at px;exact px.2
 have pv:bj v=true:=by rw [ey,lV,K2] at py;exact py.1
 have la1:=A.ky.l1
 have fb1:=B.ky.f1
 have sx:=A.ky.sg
 have sy:=B.ky.sg
 have lx:x.length=u.length+w.length:=by rw [ex,bP]
 have ly:y.length=v.length+t.length:=by rw [ey,bP]
 have lwv:(w++v).length=w.length+v.length:=bP w v
 obtain ⟨L,ps1,h1,d1,N⟩:=yr S g (Gp (w:=w) (v:=v) (by lia) (by lia) pw pv) (by lia)
 have z1:=d1.dd.len
 obtain ⟨n2,ps2,h2,m2,f2,u2,v2,d2,ex2,lv2,T2,k1,k2⟩:=yw 90 d1.dd.sh d1.dd.gd (A.pre d1.dd.pre) N (by lia) (by lia) (by lia) (by lia)
 have z2:=d2.dd.len
 obtain ⟨rfl,rfl⟩:u=u2/\w=v2:=Gk (ex.symm.trans ex2) (by lia)
 have s2:m2.sg=u.length+(w.length+v.length):=by rw [T2.ky.sg,bP,bP]
 have p12:=d1.dd.pre.trans d2.dd.pre
 have lm:(bz (w++v) L).sg=w.length+v.length:=bP w v
 have tb:∀ q:Int,0<=q->q<=max ma.ht mb.ht->q.toNat<=(max ma.ht mb.ht).toNat:=λq _ _=>by lia
 rcases yx 90 d2.dd.sh d2.dd.gd (B.pre p12) (by lia) (by lia) with ⟨r1,r2,d3⟩ | ⟨r1,n3,ps3,h3,m3,f3,u3,v3,d3,ey3,lu3,T3,r2,r3,r4⟩
 ·have t0:t.length=0:=by lia
  have te:t = "" := dc (by rw [dJ] at t0;rw [Lu.mp t0];rfl)
  have rd:u++(w++v)=x++y:=by
   rw [ex,ey,te,dj]
   congr 2
  rw [rd] at T2
  refine ⟨n2,ps2,h2,m2,f2,_,⟨?_,d1.dd.trans d2.dd (by lia),λh4 ps4 S4 g4 p4=>?_,λM f hn=>d2.al M (d1.al M f (fq N.ms T2.ms (by rw [s2,lm];lia) M hn)) hn⟩,T2,by lia⟩
  ·rw [iy S A.ms B.ms l1 f1 el ef (by lia) d1.ev d2.ev d3.ev];rfl
  ·have q1:=d1.re h4 ps4 S4 g4 (d2.dd.pre.trans p4)
   have q2:=d2.re h4 ps4 S4 g4 p4
   have q3:=d3.re h4 ps4 S4 g4 p4
   rw [iy S4 (aX (p12.trans p4) A.ms) (aX (p12.trans p4) B.ms) l1 f1 (de (p12.trans p4) el) (de (p12.trans p4) ef) (by lia) q1 q2 q3];rfl
 ·obtain ⟨rfl,rfl⟩:v=u3/\t=v3:=yy (ey.symm.trans ey3) (by lia)
  have z3:=d3.dd.len
  have s3:m3.sg=t.length:=T3.ky.sg
  have m30:=T3.ky.ht
  obtain ⟨n4,ps4,h4,m4,d4,T4,r5,r6⟩:=oC 90 (max ma.ht mb.ht).toNat d3.dd.sh d3.dd.gd (T2.pre d3.dd.pre) T3 (by lia) (by lia) (by lia) (by lia) (by lia)
  have rd:(u++(w++v))++t=x++y:=by rw [ex,ey,dj,dj,dj]
  rw [rd] at T4
  have n3z : ¬ (n3:Int)=0:=by have:=T3.n1;lia
  have p123:=p12.trans d3.dd.pre
  refine ⟨n4,ps4,h4,m4,f2,lb,⟨?_,((d1.dd.trans d2.dd (JC _)).trans d3.dd (JC _)).trans d4.dd (by lia),λh5 ps5 S5 g5 p5=>?_,λM f hn=>d4.al M (d3.al M (d2.al M (d1.al M f (fq N.ms T4.ms (by rw [lm,T4.ky.sg,bP];lia) M hn)) (fq T2.ms T4.ms (by rw [s2,T4.ky.sg,bP];lia) M hn)) (fq T3.ms T4.ms (by rw [s3,T4.ky.sg,bP];lia) M hn)) hn⟩,T4,by lia⟩
  ·rw [iy S A.ms B.ms l1 f1 el ef (by lia) d1.ev d2.ev d3.ev,JF n3z];exact d4.ev
  ·have p45:=d4.dd.pre.trans p5
   have q1:=d1.re h5 ps5 S5 g5 (d2.dd.pre.trans (d3.dd.pre.trans p45))
   have q2:=d2.re h5 ps5 S5 g5 (d3.dd.pre.trans p45)
   have q3:=d3.re h5 ps5 S5 g5 p45
   have q4:=d4.re h5 ps5 S5 g5 p5
   have pa:=p123.trans p45
   rw [iy S5 (aX pa A.ms) (aX pa B.ms) l1 f1 (de pa el) (de pa ef) (by lia) q1 q2 q3,JF n3z];exact q4
def TxZ (ps:List Pc) (n:Nat) (y:Str):Prop:=(n=0/\y = "")\/∃ m f l,Tx ps n m y f l
theorem TxZ.pre {ps ps':List Pc} {n:Nat} {y:Str} (t:TxZ ps n y) (h:ps <+: ps'):TxZ ps' n y:=by
 rcases t with t | ⟨m,f,l,t⟩
 ·exact .inl t
 ·exact .inr ⟨m,f,l,t.pre h⟩
theorem oI (ps:List Pc):(meas ps)[0]? = some ms0:=by
 obtain ⟨r,e,_⟩:=lS gs ps [ms0]
 rw [meas,e];rfl
noncomputable def dZ (ps:List Pc) (n:Nat):Int:=((meas ps).getD n ms0).ht
theorem oJ {ps:List Pc} {n:Nat} {m:Ms} (e:(meas ps)[n]? = some m):dZ ps n=m.ht:=by unfold dZ;rw [kf e]
theorem Gr (ps:List Pc):dZ ps 0 = -1:=oJ (oI ps)
theorem sZ {i:Int} (hi:i<=1000000000000000000) (h:AH):nZ [.int i] h = .ok .non h:=by
 have : ¬ (1000000000000000000:Int)<i:=by lia
 simp [nZ,this]
theorem tf {h:AH} {p:Nat} {ps:List Pc} {b:Nat} {mb:Ms} (S:ShelfAt h p ps) (eb:(meas ps)[b]? = some mb) (hm:mb.sg<=1000000000000000000):fM [.ref p,.int (0:Nat),.int b] h = .ok (.int b) h:=by
 have e1:=iW S (oI ps)
 have e2:=iW S eb
 have z:ms0.sg=0:=rfl
 rw [z] at e1
 have e1':ig [.ref p,.int 0] h = .ok (.int 0) h:=e1
 have ck:=sZ (i:=(0:Int)+mb.sg) (by lia) h
 have zz:aS (.int 0) (.int 0) h = .ok (.bl true) h:=by simp
 have ad:aA (.int 0) (.int mb.sg) h = .ok (.int (0+mb.sg)) h:=rfl
 simp [fM,S.ob,e1',e2,ad,ck,zz,-aS,-aA,-Int.zero_add]
theorem tj {h:AH} {p:Nat} {ps:List Pc} {a:Nat} {ma:Ms} (S:ShelfAt h p ps) (a1:1<=a) (ea:(meas ps)[a]? = some ma) (hm:ma.sg<=1000000000000000000):fM [.ref p,.int a,.int (0:Nat)] h = .ok (.int a) h:=by
 have e1:=iW S (oI ps)
 have e2:=iW S ea
 have z:ms0.sg=0:=rfl
 rw [z] at e1
 have e1':ig [.ref p,.int 0] h = .ok (.int 0) h:=e1
 have ck:=sZ (i:=(ma.sg:Int)+0) (by lia) h
 have zz:aS (.int 0) (.int 0) h = .ok (.bl true) h:=by simp
 have z2:aS (.int a) (.int 0) h = .ok (.bl false) h:=by
  have : ¬ a=0:=by lia
  simp [this]
 have ad:aA (.int ma.sg) (.int 0) h = .ok (.int (ma.sg+0)) h:=rfl
 simp [fM,S.ob,e1',e2,ad,ck,zz,z2,-aS,-aA,-Int.add_zero]
theorem mf {h:AH} {p:Nat} {ps:List Pc} {a b:Nat} {ma mb la fb:Ms} (S:ShelfAt h p ps) (a1:1<=a) (b1:1<=b) (ea:(meas ps)[a]? = some ma) (eb:(meas ps)[b]? = some mb) (el:(meas ps)[ma.ll]? = some la) (ef:(meas ps)[mb.fl]? = some fb) (hm:ma.sg+mb.sg<=1000000000000000000) :
  fM [.ref p,.int a,.int b] h=if 8<la.sg+fb.sg then dX 90 [.ref p,.int a,.int b] h else jz [.ref p,.int a,.int b] h:=by
 have e1:=iW S ea
 have e2:=iW S eb
 have cl:=Gm S ea eb el ef
 have ck:=sZ (i:=(ma.sg:Int)+mb.sg) (by lia) h
 have z1:aS (.int a) (.int 0) h = .ok (.bl false) h:=by
  have : ¬ a=0:=by lia
  simp [this]
 have z2:aS (.int b) (.int 0) h = .ok (.bl false) h:=by
  have : ¬ b=0:=by lia
  simp [this]
 have ad:aA (.int ma.sg) (.int mb.sg) h = .ok (.int (ma.sg+mb.sg)) h:=rfl
 unfold fM
 generalize dX 90=LK at *
 by_cases q:8<la.sg+fb.sg
 ·rw [JG q]
  generalize hR:LK [.ref p,.int a,.int b] h=R
  simp [S.ob,e1,e2,ad,ck,z1,z2,cl,q,hR,-aS,-aA]
  cases R<;>rfl
 ·rw [JF q]
  generalize hR:jz [.ref p,.int a,.int b] h=R
  simp [S.ob,e1,e2,ad,ck,z1,z2,cl,q,hR,-aS,-aA]
  cases R<;>rfl
theorem TxZ.meas {ps:List Pc} {n:Nat} {y:Str} (t:TxZ ps n y):∃ m,(meas ps)[n]? = some m/\m.sg=y.length:=by
 rcases t with ⟨rfl,rfl⟩ | ⟨m,f,l,T⟩
 ·exact ⟨ms0,oI ps,rfl⟩
 ·exact ⟨m,T.ms,T.ky.sg⟩
theorem yz {h:AH} {p:Nat} {ps:List Pc} {a b:Nat} {x y:Str} (S:ShelfAt h p ps) (g:Good ps) (A:TxZ ps a x) (B:TxZ ps b y) (hm:x.length+y.length<=1000000000000000000) (hz:ps.length<15000000) :
  ∃ (n:Nat) (ps':List Pc) (h':AH),Dn (fM [.ref p,.int a,.int b]) p h h' ps ps' (16*(max (dZ ps a) (dZ ps b)+1).toNat) n/\TxZ ps' n (x++y):=by
 rcases A with ⟨rfl,rfl⟩ | ⟨ma,fa,la,A⟩
 ·obtain ⟨mb,eb,sb⟩:=B.meas
  have em:("" : Str)++y=y:=dc (by rw [dY];rfl)
  have dv:Dn (fM [.ref p,.int (0:Nat),.int b]) p h h ps ps 0 b:=Dn.val S g λhh pp S' _ pr=>tf S' (aX pr eb) (by rw [sb];lia)
  exact ⟨b,ps,h,dv.as S g (λ_ _ _ _ _=>rfl) (Ki _),by rw [em];exact B⟩
 ·rcases B with ⟨rfl,rfl⟩ | ⟨mb,fb,lb,B⟩
  ·have em:x++("" : Str)=x:=dc (by rw [dY];simp;rfl)
   have dv:Dn (fM [.ref p,.int a,.int (0:Nat)]) p h h ps ps 0 a:=Dn.val S g λhh pp S' _ pr=>tj S' A.n1 (aX pr A.ms) A.ky.most
   exact ⟨a,ps,h,dv.as S g (λ_ _ _ _ _=>rfl) (Ki _),by rw [em];exact .inr ⟨_,_,_,A⟩⟩
  ·have sa:=A.ky.sg
   have sb:=B.ky.sg
   have a0:=A.ky.ht
   have b0:=B.ky.ht
   have ha:=gu g A
   have hb:=gu g B
   rw [oJ A.ms,oJ B.ms]
   by_cases q:8<la.sg+fb.sg
   ·obtain ⟨n,ps',h',m,d,T,_⟩:=oC 90 (max ma.ht mb.ht).toNat S g A B q (by lia) (by lia) (by lia) (by lia)
    exact ⟨n,ps',h',d.as S g (λhh pp S' _ pr=>by rw [mf S' A.n1 B.n1 (aX pr A.ms) (aX pr B.ms) (aX pr A.ky.ll) (aX pr B.ky.fl) (by lia),JG q]) (by lia),.inr ⟨_,_,_,T⟩⟩
   ·obtain ⟨n,ps',h',m,f,l,d,T,_⟩:=Gq S g A B q (by lia) hz
    exact ⟨n,ps',h',d.as S g (λhh pp S' _ pr=>by rw [mf S' A.n1 B.n1 (aX pr A.ms) (aX pr B.ms) (aX pr A.ky.ll) (aX pr B.ky.fl) (by lia),JF q]) (by lia),.inr ⟨_,_,_,T⟩⟩
end Sk
namespace Sk
open PySem PySem.Spec L2 Sm
theorem yA {b e:Nat} {y:Str} (be:b<=e):(bt y (some (b:Int)) (some (e:Int))).cps.toList=(y.cps.toList.drop b).take (e-b):=by
 unfold bt
 rw [HT.sIx_nat,HT.sIx_nat]
 generalize y.cps.toList=l
 show (l.drop (min b l.length)).take (min e l.length-min b l.length)=_
 apply Mt
 intro i
 rw [Mi,Mi,Kf,Kf]
 by_cases q:b<=l.length
 ·rw [K6 q]
  by_cases c1:i<e-b
  ·rw [JG c1]
   by_cases c2:i<min e l.length-b
   ·rw [JG c2]
   ·rw [JF c2,Lo (by lia)]
  ·rw [JF c1,JF (by lia)]
 ·rw [JF (by lia),Lo (l:=l) (i:=b+i) (by lia)]
  split<;>rfl
noncomputable def bC:List Str->Str
 | [] => ""
 | w::ws=>w++bC ws
theorem iY:∀ as bs:List Str,bC (as++bs)=bC as++bC bs
 | [],bs=>(dc (by rw [dY];rfl):bC bs=("" : Str)++bC bs)
 | w::as,bs=>by
  show w++bC (as++bs)=(w++bC as)++bC bs
  rw [iY as bs,dj]
theorem jG (w:Str):bC [w]=w:=dc (by show (w++("" : Str)).cps.toList=_;rw [dY];simp;rfl)
def LS (ps:List Pc) (ns:List Nat) (ws:List Str):Prop:=ns.length=ws.length/\∀ (i n:Nat) (w:Str),ns[i]? = some n->ws[i]? = some w->Tx ps n (bz w n) w (bz w n) (bz w n)
theorem LS.pre {ps ps':List Pc} {ns:List Nat} {ws:List Str} (s:LS ps ns ws) (h:ps <+: ps'):LS ps' ns ws:=⟨s.1,λi n w a b=>(s.2 i n w a b).pre h⟩
theorem LS.take {ps:List Pc} {ns:List Nat} {ws:List Str} (s:LS ps ns ws) (k:Nat):LS ps (ns.take k) (ws.take k):=by
 refine ⟨by simp [s.1],λi n w a b=>?_⟩
 rw [Mi] at a b
 by_cases q:i<k
 ·rw [JG q] at a b;exact s.2 i n w a b
 ·rw [JF q] at a;cases a
theorem LS.drop {ps:List Pc} {ns:List Nat} {ws:List Str} (s:LS ps ns ws) (k:Nat):LS ps (ns.drop k) (ws.drop k):=by
 refine ⟨by simp [s.1],λi n w a b=>?_⟩
 rw [Kf] at a b
 exact s.2 _ n w a b
noncomputable abbrev ar (ns:List Nat):List AV:=ns.map λn:Nat=>AV.int (n:Int)
theorem tm {h:AH} {p d n:Nat}:gj (d+1) [.ref p,.fl (ar [n])] h = .ok (.int n) h:=by
 have ix:aC (.fl [.int (n:Int)]) (.int 0) h = .ok (.int n) h:=rfl
 simp [gj,r8,ix,-aC]
theorem Gs {α:Type} (l:List α) {k:Nat} (hk:k<=l.length):dz l none (some (k:Int))=l.take k:=by
 unfold dz
 rw [HT.sIx_nat,HT.sIx_none,K6 hk];simp
theorem Gu {α:Type} (l:List α) {k:Nat} (hk:k<=l.length):dz l (some (k:Int)) none=l.drop k:=by
 unfold dz
 rw [HT.sIx_nat,HT.sIx_none,K6 hk,Kg (by simp)]
theorem tq {h h1 h2:AH} {p d:Nat} {ps:List Pc} {ns:List Nat} {v1 v2:Int} (S:ShelfAt h p ps) (hl:2<=ns.length) (e1:gj d [.ref p,.fl (ar (ns.take (ns.length / 2)))] h = .ok (.int v1) h1) (e2:gj d [.ref p,.fl (ar (ns.drop (ns.length / 2)))] h1 = .ok (.int v2) h2) :
  gj (d+1) [.ref p,.fl (ar ns)] h=aQ [.ref p,.int v1,.int v2] h2:=by
 have hh:ns.length / 2<=ns.length:=Nat.div_le_self _ _
 have ln:aP [.fl (ar ns)] h = .ok (.int ns.length) h:=by simp [aP]
 have q:aS (.int ns.length) (.int 1) h = .ok (.bl false) h:=by
  have : ¬ (ns.length:Int)=1:=by lia
  simp [this]
 have dv:fv (.int ns.length) (.int 2) h = .ok (.int (ns.length / 2:Nat)) h:=rfl
 have c1:dI (.fl (ar ns)) none (some (ns.length / 2:Nat)) h = .ok (.fl (ar (ns.take (ns.length / 2)))) h:=by
  have:=Gs (ar ns) (k:=ns.length / 2) (by simpa using hh)
  simp only [dI,this,ar,List.map_take]
 have c2:∀ h,dI (.fl (ar ns)) (some (ns.length / 2:Nat)) none h = .ok (.fl (ar (ns.drop (ns.length / 2)))) h:=λh=>by
  have:=Gu (ar ns) (k:=ns.length / 2) (by simpa using hh)
  simp only [dI,this,ar,List.map_drop]
 generalize hF:aQ [.ref p,.int v1,.int v2] h2=R
 unfold gj r8
 generalize ar ns=Z at *
 generalize ar (ns.take (ns.length / 2))=Z1 at *
 generalize ar (ns.drop (ns.length / 2))=Z2 at *
 generalize ((ns.length / 2:Nat):Int)=M at *
 generalize (ns.length:Int)=K at *
 simp [S.ob,ln,q,dv,c1,c2,e1,e2,hF,-aP,-aS,-fv,-dI]
 cases R<;>rfl
theorem Gv {a b ha hb:Nat} (ab:b<=a+1) (h1:a<=2 ^ ha) (h2:hb=0\/2 ^ (hb-1)<b):hb<=ha+1:=by
 rcases h2 with h2 | h2
 ·lia
 ·have:2 ^ (hb-1)<=2 ^ ha:=by lia
  have:=(Nat.pow_le_pow_iff_right (a:=2) (by decide)).mp this
  lia
theorem mh {a b ha hb:Nat} (ab:a<=b) (h1:b<=2 ^ hb) (h2:ha=0\/2 ^ (ha-1)<a):ha<=hb:=by
 rcases h2 with h2 | h2
 ·lia
 ·have:2 ^ (ha-1)<2 ^ hb:=by lia
  have:=(Nat.pow_lt_pow_iff_right (a:=2) (by decide)).mp this
  lia
theorem Gw {k b hb:Nat} (h1:k<=2*b) (h2:2*b<=k+1) (h3:2<=k) (h4:b<=2 ^ hb) (h5:hb=0\/2 ^ (hb-1)<b):k<=2 ^ (hb+1)/\2 ^ (hb+1-1)<k:=by
 rw [Pi,NF]
 refine ⟨by lia,?_⟩
 rcases h5 with h5 | h5
 ·subst h5;simp;lia
 ·cases hb with
  | zero=>simp;lia
  | succ n =>
   rw [NF] at h5
   rw [Pi];lia
theorem Gy {k e:Nat} (h:k<=2 ^ (e+1)):k / 2<=2 ^ e/\k-k / 2<=2 ^ e:=by rw [Pi] at h;lia
theorem tu {p:Nat}:∀ (d e:Nat) {h:AH} {ps:List Pc} {ns:List Nat} {ws:List Str},ShelfAt h p ps->Good ps->LS ps ns ws->1<=ns.length->ns.length<=2 ^ e->e<d->(∀ (i:Nat) (w:Str),ws[i]? = some w->i+1<ws.length->w.length=8)->ps.length+ns.length<16000000->ns.length<=10000 ->
  ∃ (n:Nat) (ps':List Pc) (h':AH) (m f l:Ms) (H:Nat),gj d [.ref p,.fl (ar ns)] h = .ok (.int n) h'/\Dd p h h' ps ps' (ns.length-1)/\Tx ps' n m (bC ws) f l/\m.ht=H/\ns.length<=2 ^ H/\(H=0\/2 ^ (H-1)<ns.length)/\((∀ w∈ws,w.length=8)->l.sg=8)/\m.sg<=8*ns.length/\(∀ M,c5 M ps->m.sg<=M->c5 M ps')
 | 0,e,h,ps,ns,ws,S,g,LL,h1,h2,h3,h4,h5,h6=>absurd h3 (Ml _)
 | d+1,e,h,ps,ns,ws,S,g,LL,h1,h2,h3,h4,h5,h6=>by
  by_cases q:ns.length=1
  ·obtain ⟨n,rfl⟩:∃ n,ns=[n]:=Oe.mp q
   obtain ⟨w,rfl⟩:∃ w,ws=[w]:=Oe.mp (LL.1.symm.trans q)
   have T:=LL.2 0 n w rfl rfl
   refine ⟨n,ps,h,_,_,_,0,tm,{ Dd.refl S g with len:=by lia },by rw [jG];exact T,rfl,by simp,.inl rfl,λhw=>hw w (by simp),?_,λ_ f _=>f⟩
   have:=T.ky.f8
   simpa using this
  ·have hh:2<=ns.length:=by lia
   obtain ⟨e',rfl⟩:∃ e',e=e'+1:=by
    cases e with
    | zero=>simp at h2;lia
    | succ e' => exact ⟨e',rfl⟩
   obtain ⟨w1,w2⟩:=Gy h2
   have lt:(ns.take (ns.length / 2)).length=ns.length / 2:=by rw [Kr];lia
   have ld:(ns.drop (ns.length / 2)).length=ns.length-ns.length / 2:=KG ..
   have lw:=LL.1
   obtain ⟨n1,ps1,hh1,m1,f1,l1,H1,a1,a2,a3,a4,a5,a6,a7,a8,a9⟩:=tu d e' S g (LL.take (ns.length / 2)) (by lia) (by lia) (by lia) (λi w ew hi=>by
    rw [Mi] at ew
    split at ew
    ·rw [Kr] at hi;exact h4 i w ew (by lia)
    ·cases ew) (by lia) (by lia)
   have z1:=a2.len
   obtain ⟨n2,ps2,hh2,m2,f2,l2,H2,b1,b2,b3,b4,b5,b6,b7,b8,b9⟩:=tu d e' a2.sh a2.gd ((LL.drop (ns.length / 2)).pre a2.pre) (by lia) (by lia) (by lia) (λi w ew hi=>by
    rw [Kf] at ew
    rw [KG] at hi
    exact h4 _ w ew (by lia)) (by lia) (by lia)
   have z2:=b2.len
   rw [lt] at a5 a6 a8
   rw [ld] at b5 b6 b8
   have g1:=Gv (a:=ns.length / 2) (b:=ns.length-ns.length / 2) (by lia) a5 b6
   have g2:=mh (a:=ns.length / 2) (b:=ns.length-ns.length / 2) (by lia) b5 a6
   have l8:l1.sg=8:=a7 λw hw=>by
    obtain ⟨i,hi,ei⟩:=Lk hw
    have hi' := hi
    rw [Kr] at hi'
    have:(ws.take (ns.length / 2))[i]? = some w:=by rw [JU hi,ei]
    rw [Mi] at this
    split at this
    ·exact h4 i w this (by lia)
    ·cases this
   have f1' := b3.ky.f1
   obtain ⟨n3,ps3,hh3,d3,T3⟩:=eJ b2.sh b2.gd (a3.pre b2.pre) b3 (by lia) (by lia) (by lia) (by lia) (by lia)
   have rd:bC (ws.take (ns.length / 2))++bC (ws.drop (ns.length / 2))=bC ws:=by rw [<- iY,Ke]
   rw [rd] at T3
   have hv:=tq S hh a1 b1
   obtain ⟨y1,y2⟩:=Gw (k:=ns.length) (b:=ns.length-ns.length / 2) (by lia) (by lia) hh b5 b6
   refine ⟨n3,ps3,hh3,_,f1,l2,H2+1,hv.trans d3.ev,(a2.trans b2 (JC _)).trans d3.dd (by lia),T3,by rw [bF,a4,b4];lia,y1,.inr y2,λhw=>b7 λw hm=>hw w (K9 hm),by rw [eK];lia,λM f hq=>d3.al M (b9 M (a9 M f (JI (LB _ _) hq)) (JI (ML _ _) hq)) (λm e=>by rw [T3.ms] at e;cases e;exact hq)⟩
end Sk
namespace Sk
open PySem PySem.Spec L2 Sm
noncomputable def fN (x:Str) (k:Nat):Str:=bt x (some ((8*k:Nat):Int)) (some ((8*k+8:Nat):Int))
theorem tB (x:Str) (k:Nat):(fN x k).cps.toList=(x.cps.toList.drop (8*k)).take 8:=by
 unfold fN
 rw [yA (by lia),show 8*k+8-8*k=8 by lia]
theorem yB (x:Str) (k:Nat):(fN x k).length=min 8 (x.length-8*k):=by
 rw [dJ,tB,Kr,KG,<- dJ]
theorem Gz {x:Str} (px:bj x=true) (k:Nat):bj (fN x k)=true:=by
 unfold bj at *
 rw [tB,KH]
 rw [KH] at px
 exact λc hc=>px c (K9 (Lc hc))
theorem yC (x:Str):∀ j,(bC ((List.range j).map (fN x))).cps.toList=x.cps.toList.take (8*j)
 | 0=>rfl
 | j+1=>by
  rw [List.range_succ,K5,iY,dY,yC x j]
  show _++(bC [fN x j]).cps.toList=_
  rw [jG,tB,show 8*(j+1)=8*j+8 by lia,OQ]
theorem yD {α:Type} {f:Nat->α} {N i:Nat} {w:α} (e:((List.range N).map f)[i]? = some w):i<N/\w=f i:=by
 rw [Kb] at e
 obtain ⟨j,ej,ew⟩:=J5.mp e
 have h1:=(JA.mp ej).1
 rw [Lf] at h1
 rw [Np h1] at ej
 cases ej
 exact ⟨h1,ew.symm⟩
theorem LS.snoc {ps ps':List Pc} {ns:List Nat} {ws:List Str} {n:Nat} {w:Str} (s:LS ps ns ws) (h:ps <+: ps') (T:Tx ps' n (bz w n) w (bz w n) (bz w n)):LS ps' (ns++[n]) (ws++[w]):=by
 have l:=s.1
 refine ⟨by simp [s.1],λi a b ea eb=>?_⟩
 by_cases q:i<ns.length
 ·rw [JE q] at ea
  rw [JE (by lia)] at eb
  exact (s.2 i a b ea eb).pre h
 ·have h1:=(JA.mp ea).1
  have hi:i=ns.length:=by simp at h1;lia
  subst hi
  rw [J7 (by lia)] at ea eb
  simp at ea
  rw [show ns.length-ws.length=0 by lia] at eb
  simp at eb
  subst ea eb
  exact T
theorem GA {h:AH} {p:Nat} {ps:List Pc} {x:Str} (S:ShelfAt h p ps) (g:Good ps) (px:bj x=true) (N:Nat) (hN:8*N<x.length+8) (hx:x.length<=10000) (hz:ps.length+N<16000000) (all:List AV) (js:List Nat) (en:En) (hj:js.map (λj=>(en[j]?).join)=[some (.ref p),some (.str x)]) :
  ∃ (ns:List Nat) (ps':List Pc) (h':AH),dh js en none all bU (aL 0 eZ (ae 1) (aj (cD (ae 2) (some (ae 0)) (some (ai aA (ae 0) (ah (.int 8))))) af)) ((List.range N).map λm:Nat=>AV.int (0+(m:Int)*8)) [] h = .ok (ar ns) h'/\Dd p h h' ps ps' N/\LS ps' ns ((List.range N).map (fN x))/\∀ M,c5 M ps->x.length<=M->c5 M ps' := by
 obtain ⟨zs,h',c1,ns,ps',e1,D,LL,al⟩:=x4 (js:=js) (en:=en) (all:=all) (e:=aL 0 eZ (ae 1) (aj (cD (ae 2) (some (ae 0)) (some (ai aA (ae 0) (ah (.int 8))))) af)) (xs:=(List.range N).map λm:Nat=>AV.int (0+(m:Int)*8)) (h:=h)
  (λj ys h' => ∃ (ns:List Nat) (ps':List Pc),ys=ar ns/\Dd p h h' ps ps' j/\LS ps' ns ((List.range j).map (fN x))/\∀ M,c5 M ps->x.length<=M->c5 M ps') ⟨[],ps,rfl,Dd.refl S g,⟨rfl,λi n w a _=>by simp at a⟩,λ_ f _=>f⟩ (by
   rintro j v ys h' hv ⟨ns,ps',rfl,D,LL,al⟩
   obtain ⟨jN,rfl⟩:=yD hv
   have z:=D.len
   have lc:=yB x j
   have sc:fh (fN x j)=true:=by
    unfold fh
    rw [Gz px j,lc]
    simp;lia
   obtain ⟨n,ps2,h2,d2,T⟩:=yr D.sh D.gd sc (by lia)
   have i1:(0:Int)+(j:Int)*8=((8*j:Nat):Int):=by lia
   have i2:((8*j:Nat):Int)+8=((8*j+8:Nat):Int):=by lia
   have ct:dI (.str x) (some ((8*j:Nat):Int)) (some ((8*j+8:Nat):Int)) h' = .ok (.str (fN x j)) h' := rfl
   have ev:=d2.ev
   rw [hj]
   have e:aL 0 eZ (ae 1) (aj (cD (ae 2) (some (ae 0)) (some (ai aA (ae 0) (ah (.int 8))))) af) [some (.int (0+(j:Int)*8)),some (.ref p),some (.str x)] h' = .ok (.int n) h2:=by
    rw [i1]
    have ad:aA (.int ((8*j:Nat):Int)) (.int 8) h' = .ok (.int ((8*j+8:Nat):Int)) h' := by rw [<- i2];rfl
    generalize ((8*j:Nat):Int)=B1 at *
    generalize ((8*j+8:Nat):Int)=B2 at *
    simp [D.sh.ob,ad,ct,ev,-aA,-dI]
   rw [e]
   refine ⟨ns++[n],ps2,by simp [ar],D.trans d2.dd (by lia),?_,λM f hq=>d2.al M (al M f hq) (λm e=>by rw [T.ms] at e;cases e;show (fN x j).length<=M;rw [lc];lia)⟩
   rw [List.range_succ,K5]
   exact LL.snoc d2.dd.pre T) (by simp;exact JI (show N<=10000 by lia) (by decide))
 rw [JN,Lf] at D LL
 exact ⟨ns,ps',h',by rw [c1,e1],D,LL,al⟩
theorem yE {h:AH} {p:Nat} {ps:List Pc} {x:Str} (S:ShelfAt h p ps) (g:Good ps) (px:bj x=true) (hx:x.length<=10000) (hz:ps.length+2*x.length<16000000) :
  ∃ (n:Nat) (ps':List Pc) (h':AH),jy [.ref p,.str x] h = .ok (.int n) h'/\Dd p h h' ps ps' (2*x.length)/\TxZ ps' n x/\∀ M,c5 M ps->x.length<=M->c5 M ps' := by
 have sl:x.length<=sizeLine:=JI hx (by decide)
 have fp:=yb x h sl
 rw [px] at fp
 have c1 : ¬ (10000:Int)<x.length:=by lia
 by_cases q:x.length=0
 ·have xe:x = "" := dc (by rw [dJ] at q;rw [Lu.mp q];rfl)
  subst xe
  refine ⟨0,ps,h,?_,{ Dd.refl S g with len:=by lia },.inl ⟨rfl,rfl⟩,λ_ f _=>f⟩
  simp [jy,fp,c1]
 ·obtain ⟨N,eN⟩:∃ N,N=(x.length-1) / 8+1:=⟨_,rfl⟩
  obtain ⟨ns,ps1,h1,e1,D1,LL,al⟩:=GA S g px N (by lia) hx (by lia) ((List.range N).map λm:Nat=>AV.int (0+(m:Int)*8)) [0,1] [some (.ref p),some (.str x),none] rfl
  have z1:=D1.len
  have ln:ns.length=N:=by rw [LL.1];simp
  obtain ⟨n,ps2,h2,m,f,l,H,b1,b2,b3,_,_,_,_,_,b9⟩:=tu (p:=p) 20 11 D1.sh D1.gd LL (by lia) (by rw [ln];have:(2:Nat) ^ 11=2048:=rfl;lia) (by decide) (λi w ew hi=>by
   obtain ⟨iN,rfl⟩:=yD ew
   rw [JN,Lf] at hi
   rw [yB];lia) (by lia) (by lia)
  have rd:bC ((List.range N).map (fN x))=x:=dc (by rw [yC,Kg (by rw [<- dJ];lia)])
  rw [rd] at b3
  have ir:ie (ah (.int 0)) (aE aP (aj (ae 1) af)) (ah (.int 8)) [some (.ref p),some (.str x),none] h = .ok ((List.range N).map (λm:Nat=>AV.int (0+(m:Int)*8)),none) h:=by
   have r1:((if (0:Int)<x.length then ((x.length:Int)-0-1) / 8+1 else 0:Int)).toNat=N:=by
    rw [JG (by lia)];lia
   have r2:(0:Int).natAbs<2 ^ 40/\(x.length:Int).natAbs<2 ^ 40/\(0:Int)<8/\(8:Int)<2 ^ 20:=⟨by decide,by lia,by decide,by decide⟩
   show (if _ then _ else _)=_
   rw [JG r2,r1]
  have cp:dF [0,1] (ie (ah (.int 0)) (aE aP (aj (ae 1) af)) (ah (.int 8))) bU (aL 0 eZ (ae 1) (aj (cD (ae 2) (some (ae 0)) (some (ai aA (ae 0) (ah (.int 8))))) af)) [some (.ref p),some (.str x),none] h = .ok (.fl (ar ns)) h1:=by
   simp only [dF,ir,e1]
  have ne:aS (.str x) (.str "") h = .ok (.bl false) h:=by
   have : ¬ x=Str.ofString "" := λz=>q (by rw [z];rfl)
   simp [this]
  refine ⟨n,ps2,h2,?_,D1.trans b2 (by lia),.inr ⟨_,_,_,b3⟩,λM f hq=>b9 M (al M f hq) (by rw [b3.ky.sg];exact hq)⟩
  unfold jy
  generalize dF [0,1] (ie (ah (.int 0)) (aE aP (aj (ae 1) af)) (ah (.int 8))) bU (aL 0 eZ (ae 1) (aj (cD (ae 2) (some (ae 0)) (some (ai aA (ae 0) (ah (.int 8))))) af))=CP at *
  generalize gj 20=HV at *
  simp [fp,c1,ne,cp,b1,-aS]
end Sk
namespace Sk
open PySem PySem.Spec L2 Sm
theorem yF (h:AH):∀ is:List Int,bH (bp 7 h) (is.map AV.int)=some (is.map PyData.int)
 | []=>rfl
 | i::is=>by
  rw [J8,J8]
  show (match bp 7 h (.int i),bH (bp 7 h) (is.map AV.int) with | some d,some ds=>some (d::ds) | _,_=>none)=_
  rw [yF h is];rfl
theorem yG:∀ as bs:List Int,PyData.eqvAll (as.map PyData.int) (bs.map PyData.int)=decide (as=bs)
 | [],[]=>by simp [PyData.eqvAll]
 | [],b::bs=>by simp [PyData.eqvAll]
 | a::as,[]=>by simp [PyData.eqvAll]
 | a::as,b::bs=>by
  rw [J8,J8]
  simp only [PyData.eqvAll,PyData.eqv,yG as bs]
  by_cases q:a=b
  ·subst q;simp
  ·simp [q]
noncomputable def fO (x:Str) (a:Nat):Str:=⟨(x.cps.toList.take a).toArray⟩
noncomputable def fP (x:Str) (a:Nat):Str:=⟨(x.cps.toList.drop a).toArray⟩
theorem tD (x:Str) (a:Nat):(fO x a).cps.toList=x.cps.toList.take a:=rfl
theorem mn (x:Str) (a:Nat):(fP x a).cps.toList=x.cps.toList.drop a:=rfl
theorem GB (x:Str) (a:Nat):(fP x a).length=x.length-a:=by
 rw [dJ,dJ x,mn,KG]
theorem GC {x:Str} (h:bj x=true) (a:Nat):bj (fO x a)=true:=by
 unfold bj at *
 rw [tD,KH]
 rw [KH] at h
 exact λc hc=>h c (Lc hc)
theorem GD {x:Str} (h:bj x=true) (a:Nat):bj (fP x a)=true:=by
 unfold bj at *
 rw [mn,KH]
 rw [KH] at h
 exact λc hc=>h c (K9 hc)
theorem GE {x:Str} {a:Nat} (h:AH):dI (.str x) none (some (a:Int)) h = .ok (.str (fO x a)) h:=by
 have:bt x none (some (a:Int))=fO x a:=dc (by
  unfold bt
  rw [HT.sIx_nat,HT.sIx_none,tD]
  show (x.cps.toList.drop 0).take (min a x.cps.toList.length-0)=_
  rw [Lg,Nat.sub_zero]
  by_cases q:a<=x.cps.toList.length
  ·rw [K6 q]
  ·rw [Nat.min_eq_right (by lia),N8,Kg (by lia)])
 simp only [dI,this]
theorem GG {x:Str} {a:Nat} (ha:a<=x.length) (h:AH):dI (.str x) (some (a:Int)) none h = .ok (.str (fP x a)) h:=by
 have:bt x (some (a:Int)) none=fP x a:=dc (by
  unfold bt
  rw [HT.sIx_nat,HT.sIx_none,mn]
  rw [dJ] at ha
  rw [K6 ha]
  show (x.cps.toList.drop a).take (x.cps.toList.length-a)=_
  rw [Kg (by rw [KG];exact JC _)])
 simp only [dI,this]
noncomputable def Jy (z:Int):Nat:=8*((z+1).toNat*(z+2).toNat)
theorem yH {ps:List Pc} (g:Good ps) {a b:Nat} {x y:Str} (A:TxZ ps a x) (B:TxZ ps b y):16*(max (dZ ps a) (dZ ps b)+1).toNat<=1400:=by
 have key:∀ {n:Nat} {y:Str},TxZ ps n y->dZ ps n<=82:=λ{n y} t=>by
  rcases t with ⟨rfl,rfl⟩ | ⟨m,f,l,T⟩
  ·rw [Gr];lia
  ·rw [oJ T.ms];exact gu g T
 have:=key A
 have:=key B
 lia
end Sk
namespace Sk
open PySem PySem.Spec L2 Sm
noncomputable def tF (ps:List Pc) (n:Nat):Str:=(reads ps).getD n ""
theorem rd_of {ps:List Pc} {n:Nat} {m:Ms} {x:Str} {f l:Ms} (T:Tx ps n m x f l):tF ps n=x:=kf T.rd
noncomputable def wt (ps:List Pc) (n:Nat):Nat:=2*((meas ps).getD n ms0).lv-1
theorem GH {h:AH} {W:Nat} {ns:List Nat} (e:h[W]? = some (.lst (ar ns))):cB (.ref W) (.fl []) h = .ok (.bl (!decide (ns=[]))) h:=by
 have i0:ar ns=(ns.map λn:Nat=>(n:Int)).map AV.int:=by rw [Md];rfl
 have d1:bp 8 h (.ref W)=some (.list ((ns.map λn:Nat=>(n:Int)).map PyData.int)):=by
  show (match h[W]? with | some (.lst xs)=>(bH (bp 7 h) xs).map PyData.list | _=>none)=_
  rw [e]
  show (bH (bp 7 h) (ar ns)).map PyData.list=_
  rw [i0,yF];rfl
 have d2:bp 8 h (.fl [])=some (.list (([]:List Int).map PyData.int)):=rfl
 have q:gY (.ref W) (.fl []) h=some (decide (ns=[])):=by
  show (match bp 8 h (.ref W),bp 8 h (.fl []) with | some d,some e=>some (PyData.eqv d e) | _,_=>none)=_
  rw [d1,d2]
  show some (PyData.eqv (.list _) (.list _))=_
  rw [PyData.eqv,yG]
  congr 1
  apply decide_eq_decide.mpr
  cases ns<;>simp
 show (match gY (.ref W) (.fl []) h with | some b=>Out.ok (AV.bl (!b)) h | none=>Out.bad)=_
 rw [q]
theorem GJ {h:AH} {W:Nat} {Z:List AV} {v:AV} (e:h[W]? = some (.lst (Z++[v]))):dR (.ref W) [] h = .ok v (h.set W (.lst Z)):=by
 simp [dR,e]
end Sk
namespace Sk
open PySem PySem.Spec L2 Sm
theorem GL (c k:Int) (h:AH):∃ m,nU [.int c,.int k] h = .ok (.int m) h:=by
 have b1:0<=(c % 1000000007+7919*k+101)*48271 % 2147483647:=Nk _ (by decide)
 have b2:(c % 1000000007+7919*k+101)*48271 % 2147483647<2147483647:=NG _ (by decide)
 refine ⟨(c % 1000000007+7919*k+101)*48271 % 2147483647*((c % 1000000007+7919*k+101)*48271 % 2147483647) % 2147483629*69621 % 2147483647,?_⟩
 generalize he:(c % 1000000007+7919*k+101)*48271 % 2147483647=v at *
 have c1:v.natAbs<18446744073709551616:=by lia
 simp [nU,he,c1]
theorem GN {i j:Int} {h:AH} (hi:i.natAbs<2 ^ 4000) (hj:j.natAbs<2 ^ 4000):bx (.int i) (.int j) h = .ok (.int (i*j)) h:=JG (.inr ⟨hi,hj⟩)
theorem GO (ns:List Int):kY (ns.map AV.int)=some ns:=by
 induction ns with
 | nil=>rfl
 | cons n r ih=>simp [ih]
noncomputable abbrev T60:Int:=1000000000000000000000000000000000000000000000000000000000000000000000000000000000000000000000000000000000000000000000000
theorem GP:(10:Nat) ^ 720<2 ^ 4000:=by decide +kernel
theorem GT:T60.natAbs<2 ^ 4000:=by decide +kernel
theorem GU (ns:List Int) (k:Nat) (i:Nat) (c:Nat) (o:Option AV) (h:AH) (hi:i<6) (hc:c<10 ^ (120*i)) (hj:k+i*12<ns.length) :
  ∃ c':Nat,c'<10 ^ (120*(i+1))/\j8 [some (.fl (ns.map AV.int)),some (.int k),some (.int c),some (.int ((k:Int)+i*12)),o] h = .nx [some (.fl (ns.map AV.int)),some (.int k),some (.int c'),some (.int ((k:Int)+i*12)),o] h:=by
 obtain ⟨s,es⟩:∃ s,ns[k+i*12]? = some s:=⟨ns[k+i*12],by simp [hj]⟩
 have ix:aC (.fl (ns.map AV.int)) (.int ((k:Int)+i*12)) h = .ok (.int s) h:=by
  rw [show ((k:Int)+i*12)=((k+i*12:Nat):Int) by simp]
  simp only [aC,FK es]
 have p1:(10:Nat) ^ (120*i)<=10 ^ 720:=Nat.pow_le_pow_right (by decide) (by lia)
 have m1:((c:Int)).natAbs<2 ^ 4000:=by
  have:=GP
  exact Lz (show c<10 ^ 720 by lia) this
 have mu:bx (.int c) (.int T60) h = .ok (.int (c*T60)) h:=GN m1 GT
 have r0:0<=s % T60:=Nk _ (by decide)
 have r1:s % T60<T60:=NG _ (by decide)
 obtain ⟨r,er⟩:∃ r:Nat,s % T60=(r:Int):=⟨(s % T60).toNat,(ON r0).symm⟩
 have rl:r<10 ^ 120:=by
  have:(r:Int)<T60:=er▸r1
  have e:T60=((10 ^ 120:Nat):Int):=by decide +kernel
  rw [e] at this;exact Int.ofNat_lt.mp this
 obtain ⟨c',ec,lc⟩:∃ c':Nat,(c:Int)*T60+r=(c':Int)/\c'<10 ^ (120*(i+1)):=by
  refine ⟨c*10 ^ 120+r,?_,?_⟩
  ·have e:T60=((10 ^ 120:Nat):Int):=by decide +kernel
   rw [e,Oq,Int.natCast_mul]
  ·rw [show 120*(i+1)=120*i+120 by lia,Nat.pow_add]
   have:(c+1)*10 ^ 120<=10 ^ (120*i)*10 ^ 120:=Nat.mul_le_mul_right _ hc
   have e2:(c+1)*10 ^ 120=c*10 ^ 120+10 ^ 120:=Nat.succ_mul _ _
   lia
 refine ⟨c',lc,?_⟩
 have pw:(ai bx (ai cH (ah (.int 10)) (ah (.int 60))) (ai cH (ah (.int 10)) (ah (.int 60)))) [some (.fl (ns.map AV.int)),some (.int k),some (.int c),some (.int ((k:Int)+i*12)),o] h = .ok (.int T60) h:=by simp
 have md:cG (.int s) (.int T60) h = .ok (.int r) h:=by simp only [cG];rw [JG (by decide),er]
 clear p1 m1 r0 r1 er rl hc lc hi
 unfold j8
 generalize ai bx (ai cH (ah (.int 10)) (ah (.int 60))) (ai cH (ah (.int 10)) (ah (.int 60)))=PW at *
 generalize T60=t60 at *
 simp [pw,mu,ix,md,ec,-bx,-aC,-cG]
theorem GV (en0:Option AV) (ns:List Int) (k c f j:Int) (h:AH):∃ f',j9 [some (.fl (ns.map AV.int)),some (.int k),some (.int c),some (.int j),some (.int f)] h = .nx [some (.fl (ns.map AV.int)),some (.int k),some (.int c),some (.int j),some (.int f')] h:=by
 obtain ⟨m,hm⟩:=GL (c+1009*k+ns.length) j h
 refine ⟨f*2147483647+m,?_⟩
 have m1:bx (.int f) (.int 2147483647) h = .ok (.int (f*2147483647)) h:=FJ (by decide)
 have m2:bx (.int 1009) (.int k) h = .ok (.int (1009*k)) h:=FI (by decide)
 simp [j9,hm,m1,m2,-bx]
theorem oK (ns:List Int) (hl:ns.length<=63) (k:Nat) (hk:k<=10) (h:AH):∃ N:Int,eY [.fl (ns.map AV.int),.int k] h = .ok (.ref h.length) (h++[.lst [.int N]]):=by
 obtain ⟨M,eM⟩:∃ M:Nat,M=(if (k:Int)<(ns.length:Int) then ((ns.length:Int)-k-1) / 12+1 else 0).toNat:=⟨_,rfl⟩
 have hM:M<=6/\∀ i,i<M->k+i*12<ns.length:=by
  rw [eM]
  split
  ·refine ⟨by lia,λi hi=>by lia⟩
  ·refine ⟨by lia,λi hi=>by simp at hi⟩
 obtain ⟨e1,h1,r1,r2⟩:=gr (w:=none) (all:=(List.range M).map (λm:Nat=>AV.int ((k:Int)+m*12))) (t:=.nm 3) (b:=j8) (xs:=(List.range M).map (λm:Nat=>AV.int ((k:Int)+m*12))) (en:=[some (.fl (ns.map AV.int)),some (.int k),some (.int 0),none,none]) (h:=h)
  (λi en h' => h'=h/\∃ (c:Nat) (o:Option AV),c<10 ^ (120*i)/\en=[some (.fl (ns.map AV.int)),some (.int k),some (.int c),o,none]) ⟨rfl,0,none,by decide,rfl⟩ (λ_ _ _ _=>rfl) (by
   rintro j x en h' hx ⟨rfl,c,o,hc,rfl⟩
   rw [Kb] at hx
   obtain ⟨m,em,rfl⟩:=J5.mp hx
   have hj:j<M:=by
    have:=(JA.mp em).1;simpa using this
   rw [Np hj] at em
   cases em
   obtain ⟨c',l',e⟩:=GU ns k j c none h' (by have:=hM.1;lia) hc (hM.2 j hj)
   show thn (j8 [some (.fl (ns.map AV.int)),some (.int k),some (.int c),some (.int ((k:Int)+j*12)),none] h') _
   rw [e]
   exact ⟨rfl,c',_,l',rfl⟩)
 obtain ⟨rfl,c,o,hc,rfl⟩:=r2
 have z1:(k:Int).natAbs<1099511627776:=by lia
 have z2:((ns.length:Nat):Int).natAbs<1099511627776:=by lia
 have it3:ie (ae 1) (aE aP (aj (ae 0) af)) (ah (.int 12)) [some (.fl (ns.map AV.int)),some (.int k),some (.int 0),none,none] h1 = .ok ((List.range M).map (λm:Nat=>AV.int ((k:Int)+m*12)),none) h1:=by
  simp only [ie,ae,aE,aj,af,ah,Out.bind,aP,List.getElem?_cons_zero,N7,su]
  rw [JG ⟨z1,z2,by decide,by decide⟩,<- eM]
 have f1:=(gP (t:=.nm 3) (b:=j8) it3).trans r1
 clear r1 it3
 by_cases hb:(1000000000000000000:Int)<=c
 ·exact ⟨c,by simp [eY,f1,hb,-aV]⟩
 ·have cm:=FG (js:=[]) (en:=[some (.fl (ns.map AV.int)),some (.int k),some (.int c),o,none]) (w:=none) (all:=ns.map AV.int) (e:=ai cG (ae 0) (ai cH (ah (.int 10)) (ah (.int 18)))) (g:=AV.int) (f:=λi=>AV.int (i % 1000000000000000000)) (h:=h1) rfl ns [] (by intro i _;simp) (by
    simp only [KP];exact JI (show 0+ns.length<=63 by lia) (by decide))
  have im:(ns.map λi=>AV.int (i % 1000000000000000000))=(ns.map λi=>i % 1000000000000000000).map AV.int:=by simp
  obtain ⟨S,eS⟩:∃ S:Int,S=(ns.map λi=>i % 1000000000000000000).sum:=⟨_,rfl⟩
  have sm:fA [.fl (ns.map λi=>AV.int (i % 1000000000000000000))] h1 = .ok (.int S) h1:=by
   rw [im,eS];simp only [fA,GO]
  obtain ⟨e2,h2,s1,s2⟩:=gr (w:=none) (all:=cC 0 12) (t:=.nm 3) (b:=j9) (xs:=cC 0 12) (en:=[some (.fl (ns.map AV.int)),some (.int k),some (.int (c+S)),o,some (.int 0)]) (h:=h1)
   (λi en h' => h'=h1/\∃ (f:Int) (o:Option AV),en=[some (.fl (ns.map AV.int)),some (.int k),some (.int (c+S)),o,some (.int f)]) ⟨rfl,0,o,rfl⟩ (λ_ _ _ _=>rfl) (by
    rintro j x en h' hx ⟨rfl,f,o,rfl⟩
    rw [x6] at hx
    by_cases q:j<12
    ·rw [JG q] at hx
     cases hx
     obtain ⟨f',e⟩:=GV none ns k (c+S) f (0+(j:Int)) h'
     show thn (j9 [some (.fl (ns.map AV.int)),some (.int k),some (.int (c+S)),some (.int (0+(j:Int))),some (.int f)] h') _
     rw [e]
     exact ⟨rfl,f',_,rfl⟩
    ·rw [JF q] at hx;cases hx)
  obtain ⟨rfl,f,o',rfl⟩:=s2
  have f2:=(gP (t:=.nm 3) (b:=j9) (kb (a:=ah (.int 12)) (en:=[some (.fl (ns.map AV.int)),some (.int k),some (.int (c+S)),o,some (.int 0)]) (h:=h2) (n:=12) rfl (by decide))).trans s1
  refine ⟨f,?_⟩
  simp at cm
  simp [eY,f1,hb,cm,sm,f2,-aV,-fA]
theorem GW {h:AH} {st:Nat} {n:Int} (m:Nat) (e:h[st]? = some (.lst [.int n])) (hm:0<m) (hm2:m<=10 ^ 50):∃ v:Nat,v<m/\cq [.ref st,.int m] h = .ok (.int v) (h.set st (.lst [.int (n / m)])):=by
 have a0:atI [AV.int n] 0=some (.int n):=rfl
 have i0:gW 1 0=some 0:=rfl
 have hm0:(0:Int)<m:=Int.ofNat_lt.mpr hm
 have hm3:m<1606938044258990275541962092341162602522202993782792835301376:=J9 hm2 (by decide)
 refine ⟨(n % m).toNat,?_,?_⟩
 ·have:=NG n hm0;have:=Nk n (show (m:Int)≠0 by lia);lia
 ·rw [ON (Nk n (show (m:Int)≠0 by lia))]
  simp [cq,e,a0,hm0,hm,hm3,i0]
theorem GY {x:Str} {v:Nat} (hv:v<x.length) (hx:bj x=true) (h:AH):∃ c,kd c=true/\aC (.str x) (.int v) h = .ok (.str ⟨#[c]⟩) h:=by
 have hv':v<x.cps.toList.length:=by rw [<- dJ];exact hv
 refine ⟨x.cps.toList[v],KH.mp hx _ (M7 hv'),?_⟩
 have e:x.cps.toList[v]? = some x.cps.toList[v]:=JU hv'
 simp only [aC,pY e]
theorem iz {hh:AH} {L:Nat} {N:Int} (m:Nat) (e:hh[L]? = some (.lst [.int N])) (hm:0<m) (hm2:m<=10 ^ 50):∃ (v:Nat) (N':Int),v<m/\cq [.ref L,.int m] hh = .ok (.int v) (hh.set L (.lst [.int N'])):=by
 obtain ⟨v,hv,e1⟩:=GW m e hm hm2
 exact ⟨v,N / m,hv,e1⟩
theorem GZ {y:Str} {c:Nat} (hy:bj y=true) (hc:kd c=true):bj (y++⟨#[c]⟩)=true/\(y++(⟨#[c]⟩:Str)).length=y.length+1:=by
 refine ⟨?_,by rw [bP];rfl⟩
 rw [lV,hy]
 simp [bj,hc]
noncomputable def lowS:Str := "abcdefghijklmnopqrstuvwxyz"
noncomputable def upS:Str := "ABCDEFGHIJKLMNOPQRSTUVWXYZ"
noncomputable def restS:Str := " !#$&'()*+,-./0123456789:;<=>?\x40[]^_{|}~\n\\"
noncomputable def fF:List Str:=["a", "ab", "ab\n", "a \n~",(lowS++upS)++restS]
theorem mq:∀ x∈fF,bj x=true/\1<=x.length/\x.length<=200:=by decide +kernel
theorem yI:Txt.upper lowS=upS:=by decide +kernel
theorem G0 (h:AH):nQ (.str lowS) [] h = .ok (.str upS) h:=by
 have c:(Txt.upper lowS).length<=sizeLine/\(Txt.upper lowS).cps.all (· < 0x110000)=true:=by rw [yI];decide +kernel
 show (if (Txt.upper lowS).length<=sizeLine/\(Txt.upper lowS).cps.all (· < 0x110000)=true then Out.ok (AV.str (Txt.upper lowS)) h else .bad)=_
 rw [JG c,yI]
theorem G5 (v:Nat) (hv:v<5):∃ z:Str,(∀ h,aC (.fl [.str "a",.str "ab",.str "ab\n",.str "a \n~",.str ((lowS++upS)++restS)]) (.int (v:Int)) h = .ok (.str z) h)/\bj z=true/\1<=z.length/\z.length<=200:=by
 have:v=0\/v=1\/v=2\/v=3\/v=4:=by lia
 rcases this with rfl | rfl | rfl | rfl | rfl
 ·exact ⟨_,λ_=>rfl,mq _ (by simp [fF])⟩
 ·exact ⟨_,λ_=>rfl,mq _ (by simp [fF])⟩
 ·exact ⟨_,λ_=>rfl,mq _ (by simp [fF])⟩
 ·exact ⟨_,λ_=>rfl,mq _ (by simp [fF])⟩
 ·exact ⟨_,λ_=>rfl,mq _ (by simp [fF])⟩
theorem G6 {hh:AH} {L:Nat} {N:Int} (most:Nat) (hm:most<=1000) (e:hh[L]? = some (.lst [.int N])):∃ (y:Str) (N':Int),lC [.ref L,.int most] hh = .ok (.str y) (hh.set L (.lst [.int N']))/\bj y=true/\y.length<=most:=by
 have Ll:=bY e
 obtain ⟨v,N1,hv,t1⟩:=iz 5 e (by decide) (by decide)
 have t1':cq [.ref L,.int 5] hh = .ok (.int v) (hh.set L (.lst [.int N1])):=t1
 obtain ⟨z,ez,pz,z1,z2⟩:=G5 v hv
 have e1:(hh.set L (.lst [.int N1]))[L]? = some (.lst [.int N1]):=J0 Ll
 obtain ⟨k,N2,hk,t2⟩:=iz (most+1) e1 (Nat.succ_pos _) (JI (Nat.succ_le_succ hm) (by decide))
 rw [Pj] at t2
 have t2':cq [.ref L,.int ((most:Int)+1)] (hh.set L (.lst [.int N1])) = .ok (.int k) (hh.set L (.lst [.int N2])):=by
  have:=t2;rw [Int.natCast_succ] at this;exact this
 obtain ⟨W3,eW3⟩:∃ W3:Str,W3=(lowS++upS)++restS:=⟨_,rfl⟩
 rw [<- eW3] at ez
 obtain ⟨e',h',r1,y,N3,o4,r2,r3,r4,r5⟩:=gr (w:=none) (all:=cC 0 k) (t:=.nm 6) (b:=jw) (xs:=cC 0 k) (en:=[some (.ref L),some (.int most),some (.str lowS),some (.str W3),some (.str z),some (.str ""),none]) (h:=hh.set L (.lst [.int N2]))
  (λj en h' => ∃ (y:Str) (N':Int) (o4:Option AV),en=[some (.ref L),some (.int most),some (.str lowS),some (.str W3),some (.str z),some (.str y),o4]/\h'=hh.set L (.lst [.int N'])/\bj y=true/\y.length=j) ⟨"",N2,none,rfl,rfl,rfl,rfl⟩ (λ_ _ _ _=>rfl) (by
   rintro j u en h' hu ⟨y,N',o4,rfl,rfl,py,ly⟩
   have jk:j<k:=by have:=(JA.mp hu).1;rwa [jD] at this
   have e3:(hh.set L (.lst [.int N']))[L]? = some (.lst [.int N']):=J0 Ll
   obtain ⟨t,N4,ht,et⟩:=iz z.length e3 (by lia) (JI z2 (by decide))
   rw [Pj] at et
   obtain ⟨c,pc,ec⟩:=GY ht pz (hh.set L (.lst [.int N4]))
   have ad:aA (.str y) (.str ⟨#[c]⟩) (hh.set L (.lst [.int N4])) = .ok (.str (y++⟨#[c]⟩)) (hh.set L (.lst [.int N4])):=by
    have:y.length+(⟨#[c]⟩:Str).length<=sizeLine:=JI (m:=1001) (by show y.length+1<=_;lia) (by decide)
    simp only [aA,this,MM]
   have es:jw [some (.ref L),some (.int most),some (.str lowS),some (.str W3),some (.str z),some (.str y),some u] (hh.set L (.lst [.int N'])) = .nx [some (.ref L),some (.int most),some (.str lowS),some (.str W3),some (.str z),some (.str (y++⟨#[c]⟩)),some u] (hh.set L (.lst [.int N4])):=by
    generalize hh.set L (.lst [.int N4])=h2 at *
    generalize hh.set L (.lst [.int N'])=h1 at *
    simp [jw,et,ec,ad,-aC,-aA]
   show thn (jw [some (.ref L),some (.int most),some (.str lowS),some (.str W3),some (.str z),some (.str y),some u] (hh.set L (.lst [.int N']))) _
   rw [es]
   obtain ⟨q1,q2⟩:=GZ py pc
   exact ⟨_,N4,_,rfl,rfl,q1,by rw [q2,ly]⟩)
 rw [jD] at r5
 have f1:=(gP (t:=.nm 6) (b:=jw) (kb (a:=aE cq (aj (ae 0) (aj (ai aA (ae 1) (ah (.int 1))) af))) (en:=[some (.ref L),some (.int most),some (.str lowS),some (.str W3),some (.str z),some (.str ""),none]) (h:=hh.set L (.lst [.int N1])) (n:=k) (by simp [t2']) (by lia))).trans r1
 refine ⟨y,N3,?_,r4,by lia⟩
 rw [<- r3]
 subst r2
 have a1:aA (.str lowS) (.str upS) hh = .ok (.str (lowS++upS)) hh:=by
  have:lowS.length+upS.length<=sizeLine:=by decide +kernel
  simp only [aA,this,MM]
 have a2:aA (.str (lowS++upS)) (.str restS) hh = .ok (.str W3) hh:=by
  have:(lowS++upS).length+restS.length<=sizeLine:=by decide +kernel
  rw [eW3]
  simp only [aA,this,MM]
 have mu:=G0 hh
 have el:Str.ofString "abcdefghijklmnopqrstuvwxyz" = lowS:=rfl
 have er:Str.ofString " !#$&'()*+,-./0123456789:;<=>?\x40[]^_{|}~\n\\" = restS:=rfl
 unfold lC
 rw [el,er]
 generalize aV (dw (aE cq (aj (ae 0) (aj (ai aA (ae 1) (ah (.int 1))) af)))) (.nm 6) jw=F1 at *
 generalize hh.set L (.lst [.int N1])=h1 at *
 generalize lowS=LO at *
 generalize upS=UP at *
 generalize restS=RS at *
 generalize LO++UP=LU at *
 simp [mu,a1,a2,t1',ez,f1,-aA,-aC]
structure Gx (p:Nat) (M:List Nat) (h h':AH) (ps ps':List Pc) (k:Nat):Prop where
 sh:ShelfAt h' p ps'
 gd:Good ps'
 pre:ps <+: ps'
 len:ps'.length<=ps.length+k
 fr:∀ i,(i<p\/p+8<i)->i∉M->i<h.length->h'[i]? = h[i]?
 hl:h.length<=h'.length
 al:c5 64 ps->c5 64 ps'
theorem Gx.refl {p:Nat} {h:AH} {ps:List Pc} (S:ShelfAt h p ps) (g:Good ps) (M:List Nat):Gx p M h h ps ps 0:=⟨S,g,K3 _,by lia,λ_ _ _ _=>rfl,JC _,id⟩
theorem Gx.trans {p:Nat} {M:List Nat} {h h' h'':AH} {ps ps' ps'':List Pc} {k k' k2:Nat} (a:Gx p M h h' ps ps' k) (b:Gx p M h' h'' ps' ps'' k') (hk:k+k'<=k2):Gx p M h h'' ps ps'' k2 :=
 ⟨b.sh,b.gd,a.pre.trans b.pre,by have:=a.len;have:=b.len;lia,λi hi hn hl=>(b.fr i hi hn (JZ hl a.hl)).trans (a.fr i hi hn hl),JI a.hl b.hl,λf=>b.al (a.al f)⟩
theorem Gx.set {p L:Nat} {h:AH} {ps:List Pc} (S:ShelfAt h p ps) (g:Good ps) (hL:L<p\/p+8<L) (M:List Nat) (hM:L∈M) (v:AO):Gx p M h (h.set L v) ps ps 0 :=
 ⟨S.keep λi i1 i8=>JX (by lia),g,K3 _,by lia,λi _ hn _=>JX (λ(z:L=i)=>hn (z▸hM)),by simp,id⟩
theorem Gx.dd {p:Nat} {M:List Nat} {h h':AH} {ps ps':List Pc} {k k2:Nat} (d:Dd p h h' ps ps' k) (hk:k<=k2) (al:c5 64 ps->c5 64 ps'):Gx p M h h' ps ps' k2 :=
 ⟨d.sh,d.gd,d.pre,JI d.len (Ko hk _),λi hi _ _=>d.fr i (hi.imp Mb id),by rw [d.hl];exact JC _,al⟩
theorem Gx.app {p:Nat} {M:List Nat} {h h':AH} {ps ps':List Pc} {k:Nat} (a:Gx p M h h' ps ps' k) (r:AH):Gx p M h (h' ++ r) ps ps' k :=
 ⟨a.sh.app r,a.gd,a.pre,a.len,λi hi hn hl=>by rw [JE (JZ hl a.hl)];exact a.fr i hi hn hl,by rw [JJ];exact JI a.hl (LB _ _),a.al⟩
theorem Gx.more {p:Nat} {M M':List Nat} {h h':AH} {ps ps':List Pc} {k:Nat} (a:Gx p M h h' ps ps' k) (s:∀ i∈M,i∈M'):Gx p M' h h' ps ps' k :=
 ⟨a.sh,a.gd,a.pre,a.len,λi hi hn hl=>a.fr i hi (λz=>hn (s i z)) hl,a.hl,a.al⟩
theorem G7 {x:Str} {a:Nat} (h:AH):dI (.str x) (some (a:Int)) none h = .ok (.str (fP x a)) h:=by
 by_cases ha:a<=x.length
 ·exact GG ha h
 ·have:bt x (some (a:Int)) none=fP x a:=dc (by
   unfold bt
   rw [HT.sIx_nat,HT.sIx_none,mn]
   rw [dJ] at ha
   rw [Nat.min_eq_right (by lia)]
   show (x.cps.toList.drop x.cps.toList.length).take _=_
   rw [NZ,Kw (by lia),List.take_nil])
  simp only [dI,this]
theorem G8 (x:Str) (a:Nat):fO x a++fP x a=x:=dc (by rw [dY,tD,mn,Ke])
theorem G9 {z:Str} (q : ¬ z = ""):1<=z.length:=by
 apply Classical.byContradiction
 intro hc
 apply q
 apply dc
 rw [dJ] at hc
 have:z.cps.toList=[]:=Lu.mp (by lia)
 rw [this];rfl
theorem Ha (z:Str):z++("" : Str)=z:=dc (by rw [dY];simp;rfl)
theorem Hb (z:Str):("" : Str)++z=z:=dc (by rw [dY];rfl)
theorem Hc {h:AH} {p L W:Nat} {y:Str} (py:bj y=true) (hy:y.length<=40) (hW:W=h.length) (eL:∃ N:Int,h[L]? = some (.lst [.int N])) (v:Int) :
  ∃ (ws:List Str) (N:Int) (o5:Option AV),dP (aZ (ai cB (ae 2) (ah (.str "")))) iT fZ [some (.ref p),some (.ref L),some (.str y),some (.int v),some (.ref W),none,none,none] (h++[.lst []]) = .nx [some (.ref p),some (.ref L),some (.str ""),some (.int v),some (.ref W),o5,none,none] (h.set L (.lst [.int N])++[.lst (ws.map AV.str)])/\bC ws=y/\(∀ w∈ws,bj w=true)/\ws.length<=40:=by
 obtain ⟨N0,eL⟩:=eL
 have Ll:=bY eL
 have h0:h.set L (.lst [.int N0])=h:=by
  apply Mt
  intro i
  by_cases q:i=L
  ·subst q;rw [J0 Ll,eL]
  ·rw [JX (by lia)]
 obtain ⟨e',h',q1,ws,N,o5,q2,q3,q4,q5,q6⟩:=xX (c:=aZ (ai cB (ae 2) (ah (.str "")))) (b:=iT) (fuel:=fZ) (n:=y.length) (en:=[some (.ref p),some (.ref L),some (.str y),some (.int v),some (.ref W),none,none,none]) (h:=h++[.lst []])
  (λn en hh=>∃ (ws:List Str) (z:Str) (N:Int) (o5:Option AV),hh=h.set L (.lst [.int N])++[.lst (ws.map AV.str)]/\en=[some (.ref p),some (.ref L),some (.str z),some (.int v),some (.ref W),o5,none,none]/\bC ws++z=y/\(∀ w∈ws,bj w=true)/\bj z=true/\n=z.length/\ws.length+z.length<=40)
  (λen hh=>∃ (ws:List Str) (N:Int) (o5:Option AV),hh=h.set L (.lst [.int N])++[.lst (ws.map AV.str)]/\en=[some (.ref p),some (.ref L),some (.str ""),some (.int v),some (.ref W),o5,none,none]/\bC ws=y/\(∀ w∈ws,bj w=true)/\ws.length<=40)
  ⟨[],y,N0,none,by rw [h0];rfl,rfl,Hb y,λ_ z=>(nomatch z),py,rfl,by simpa using hy⟩ (J9 hy (by decide)) (by
   rintro n en hh ⟨ws,z,N,o5,eh,een,cz,pw,pz,en',lw⟩
   have c:aZ (ai cB (ae 2) (ah (.str ""))) en hh = .ok (!decide (z = "")) hh:=by
    subst een
    simp
   rw [c]
   by_cases q:z = ""
   ·have:(!decide (z = ""))=false:=by simp [q]
    rw [this]
    subst q
    exact ⟨ws,N,o5,eh,een,by rw [<- cz,Ha],pw,by lia⟩
   ·have:(!decide (z = ""))=true:=by simp [q]
    rw [this]
    have z1:=G9 q
    have e1:hh[L]? = some (.lst [.int N]):=by rw [eh,JE (by simpa using Ll)];exact J0 Ll
    obtain ⟨d,N',hd,t⟩:=iz 12 e1 (by decide) (by decide)
    have t':cq [.ref L,.int 12] hh = .ok (.int d) (hh.set L (.lst [.int N'])):=t
    have eh2:hh.set L (.lst [.int N'])=h.set L (.lst [.int N'])++[.lst (ws.map AV.str)]:=by
     rw [eh,List.set_append_left _ _ (by simpa using Ll),Pj]
    rw [eh2] at t'
    have lW:(h.set L (.lst [.int N'])).length=W:=by simp [hW]
    have eW:(h.set L (.lst [.int N'])++[AO.lst (ws.map AV.str)])[W]? = some (.lst (ws.map AV.str)):=by rw [<- lW];simp
    have eS:(h.set L (.lst [.int N'])++[AO.lst (ws.map AV.str)]).set W (.lst ((ws++[fO z (1+d)]).map AV.str))=h.set L (.lst [.int N'])++[.lst ((ws++[fO z (1+d)]).map AV.str)]:=by rw [<- lW];simp
    have ap:bJ (.ref W) [.str (fO z (1+d))] (h.set L (.lst [.int N'])++[AO.lst (ws.map AV.str)]) = .ok .non (h.set L (.lst [.int N'])++[.lst ((ws++[fO z (1+d)]).map AV.str)]):=by
     have sz:(ws.map AV.str).length<sizeLine:=J9 (m:=40) (by simp;lia) (by decide)
     rw [<- eS]
     simp only [bJ,eW,sz,MM,K5,J8,Nr]
    have il:bo (.ref W) (h.set L (.lst [.int N'])++[AO.lst (ws.map AV.str)])=true:=by simp only [bo,cf,eW];rfl
    generalize hk1:h.set L (.lst [.int N'])++[AO.lst (ws.map AV.str)]=h1 at *
    generalize hk2:h.set L (.lst [.int N'])++[AO.lst ((ws++[fO z (1+d)]).map AV.str)]=h2 at *
    have c1:dI (.str z) none (some (1+(d:Int))) h1 = .ok (.str (fO z (1+d))) h1:=by
     have:=GE (x:=z) (a:=1+d) h1
     rw [Oq] at this;exact this
    have c2:dI (.str z) (some (1+(d:Int))) none h2 = .ok (.str (fP z (1+d))) h2:=by
     have:=G7 (x:=z) (a:=1+d) h2
     rw [Oq] at this;exact this
    have eB:iT en hh = .nx [some (.ref p),some (.ref L),some (.str (fP z (1+d))),some (.int v),some (.ref W),some (.int (1+(d:Int))),none,none] h2:=by
     subst een
     simp [iT,t',il,c1,ap,c2,-bo,-dI,-bJ]
    show thn (iT en hh) _
    rw [eB]
    have dl:=GB z (1+d)
    refine ⟨(fP z (1+d)).length,by lia,ws++[fO z (1+d)],fP z (1+d),N',_,hk2.symm,rfl,?_,?_,GD pz _,rfl,by simp;lia⟩
    ·rw [iY,jG,dj,G8,cz]
    ·intro w hw
     rcases JS.mp hw with hw | hw
     ·exact pw w hw
     ·rw [JP.mp hw];exact GC pz _)
 exact ⟨ws,N,o5,by rw [q1,q2,q3],q4,q5,q6⟩
theorem yJ:∀ (ws:List Str) (w:Str),w∈ws->w.length<=(bC ws).length
 | [],w,h=>nomatch h
 | v::ws,w,h=>by
  show _<=(v++bC ws).length
  rw [bP]
  rcases J4.mp h with rfl | h
  ·lia
  ·have:=yJ ws w h;lia
theorem oM {α:Type} {xs:List α} {j:Nat} {w:α} (e:xs[j]? = some w):xs.take (j+1)=xs.take j++[w]:=by
 rw [Nx,e];rfl
theorem yK {M n:Nat} {ps:List Pc} {x:Str} (T:TxZ ps n x) (h:x.length<=M):∀ m,(meas ps)[n]? = some m->m.sg<=M:=λm e=>by
 obtain ⟨m0,e0,s⟩:=T.meas
 rw [e0] at e
 cases e
 lia
theorem tG:∀ (ws:List Str) (j:Nat),(bC (ws.take j)).length<=(bC ws).length
 | [],j=>by rw [List.take_nil];exact JC _
 | w::ws,0=>Ki _
 | w::ws,j+1=>by
  have:=tG ws j
  show (w++bC (ws.take j)).length<=(w++bC ws).length
  rw [bP,bP]
  lia
theorem tH:∀ ws:List Str,(bC ws.reverse).length=(bC ws).length
 | []=>rfl
 | w::ws=>by
  rw [NO,iY,jG,bP,tH ws]
  show _=(w++bC ws).length
  rw [bP,Mh]
theorem yL {h:AH} {p n:Nat} {ps:List Pc} {x w:Str} (S:ShelfAt h p ps) (g:Good ps) (T:TxZ ps n x) (hx:x.length<=2000) (pw:bj w=true) (hw:w.length<=40) (hs:x.length+w.length<=64) (hz:ps.length<13900000) (o1 o2 o3 o4 o5:Option AV) :
  (∃ (n':Nat) (ps':List Pc) (h':AH),ij [some (.ref p),o1,o2,o3,o4,o5,some (.int n),some (.str w)] h = .nx [some (.ref p),o1,o2,o3,o4,o5,some (.int n'),some (.str w)] h'/\Gx p [] h h' ps ps' 1500/\TxZ ps' n' (x++w)) /\
  (∃ (n':Nat) (ps':List Pc) (h':AH),ip [some (.ref p),o1,o2,o3,o4,o5,some (.int n),some (.str w)] h = .nx [some (.ref p),o1,o2,o3,o4,o5,some (.int n'),some (.str w)] h'/\Gx p [] h h' ps ps' 1500/\TxZ ps' n' (w++x)):=by
 obtain ⟨b,ps1,h1,eb,D,T1,al⟩:=yE S g pw (by lia) (by lia)
 have l1:=D.len
 have T0:=T.pre D.pre
 have j1:=yH D.gd T0 T1
 have j2:=yH D.gd T1 T0
 obtain ⟨n1,ps2,h2,d1,T2⟩:=yz D.sh D.gd T0 T1 (by lia) (by lia)
 obtain ⟨n2,ps3,h3,d2,T3⟩:=yz D.sh D.gd T1 T0 (by lia) (by lia)
 have al0:c5 64 ps->c5 64 ps1:=λf=>al 64 f (by lia)
 have al1:c5 64 ps1->c5 64 ps2:=λf=>d1.al 64 f (yK T2 (by rw [bP];lia))
 have al2:c5 64 ps1->c5 64 ps3:=λf=>d2.al 64 f (yK T3 (by rw [bP];lia))
 have e1:=d1.ev
 have e2:=d2.ev
 exact ⟨⟨n1,ps2,h2,by simp [ij,eb,e1],(Gx.dd (M:=[]) D (JC _) al0).trans (Gx.dd d1.dd j1 al1) (by lia),T2⟩,⟨n2,ps3,h3,by simp [ip,eb,e2],(Gx.dd (M:=[]) D (JC _) al0).trans (Gx.dd d2.dd j2 al2) (by lia),T3⟩⟩
theorem Hd {h:AH} {p W:Nat} {ps:List Pc} {ws:List Str} (S:ShelfAt h p ps) (g:Good ps) (hW:p+8<W) (eW:h[W]? = some (.lst (ws.map AV.str))) (pw:∀ w∈ws,bj w=true) (lw:∀ w∈ws,w.length<=40) (hl:ws.length<=40) (hc:(bC ws).length<=64) (hz:ps.length<13000000) (o1 o2 o3 o4 o5:Option AV) :
  ∃ (n:Nat) (ps':List Pc) (h':AH) (o7:Option AV),dE (some W) (ws.map AV.str) (.nm 7) ij (ws.map AV.str) [some (.ref p),o1,o2,o3,o4,o5,some (.int 0),none] h = .nx [some (.ref p),o1,o2,o3,o4,o5,some (.int n),o7] h'/\Gx p [] h h' ps ps' 60000/\TxZ ps' n (bC ws):=by
 obtain ⟨e',h',r1,r2⟩:=gr (w:=some W) (all:=ws.map AV.str) (t:=.nm 7) (b:=ij) (xs:=ws.map AV.str) (en:=[some (.ref p),o1,o2,o3,o4,o5,some (.int 0),none]) (h:=h)
  (λj en hh=>∃ (n:Nat) (ps':List Pc) (o7:Option AV),en=[some (.ref p),o1,o2,o3,o4,o5,some (.int n),o7]/\Gx p [] h hh ps ps' (1500*j)/\TxZ ps' n (bC (ws.take j))/\(bC (ws.take j)).length<=40*j)
  ⟨0,ps,none,rfl,Gx.refl S g [],.inl ⟨rfl,rfl⟩,Ki _⟩ (by
   rintro j en hh ⟨n,ps',o7,_,G,_⟩
   have:hh[W]? = some (.lst (ws.map AV.str)):=(G.fr W (.inr hW) (by simp) (bY eW)).trans eW
   simp [this]) (by
   rintro j u en hh hu ⟨n,ps',o7,rfl,G,T,lc⟩
   rw [Kb] at hu
   obtain ⟨w,ew,rfl⟩:=J5.mp hu
   have hj:=(JA.mp ew).1
   have mw:=J6 ew
   have gl:=G.len
   obtain ⟨n',ps2,h2,e,G2,T2⟩:=(yL G.sh G.gd T (by lia) (pw w mw) (lw w mw) (by have:=tG ws (j+1);rw [oM ew,iY,jG,bP] at this;lia) (by lia) o1 o2 o3 o4 o5).1
   have ts:bC (ws.take (j+1))=bC (ws.take j)++w:=by rw [oM ew,iY,jG]
   show thn (ij [some (.ref p),o1,o2,o3,o4,o5,some (.int n),some (.str w)] hh) _
   rw [e]
   exact ⟨n',ps2,_,rfl,G.trans G2 (by lia),by rw [ts];exact T2,by rw [ts,bP];have:=lw w mw;lia⟩)
 rw [JN] at r2
 obtain ⟨n,ps',o7,rfl,G,T,_⟩:=r2
 rw [N8] at T
 exact ⟨n,ps',h',o7,r1,{ G with len:=by have:=G.len;lia },T⟩
theorem He {h:AH} {p W:Nat} {ps:List Pc} {ws:List Str} (S:ShelfAt h p ps) (g:Good ps) (hW:p+8<W) (eW:h[W]? = some (.lst (ws.map AV.str))) (pw:∀ w∈ws,bj w=true) (lw:∀ w∈ws,w.length<=40) (hl:ws.length<=40) (hc:(bC ws).length<=64) (hz:ps.length<13000000) (o1 o2 o3 o4 o5:Option AV) :
  ∃ (n:Nat) (ps':List Pc) (h':AH) (o7:Option AV),dE (some W) (ws.map AV.str) (.nm 7) ip (ws.map AV.str).reverse [some (.ref p),o1,o2,o3,o4,o5,some (.int 0),none] h = .nx [some (.ref p),o1,o2,o3,o4,o5,some (.int n),o7] h'/\Gx p [] h h' ps ps' 60000/\TxZ ps' n (bC ws):=by
 rw [<- List.map_reverse]
 obtain ⟨vs,ev⟩:∃ vs,vs=ws.reverse:=⟨_,rfl⟩
 rw [<- ev]
 have lv:vs.length=ws.length:=by rw [ev,LV]
 obtain ⟨e',h',r1,r2⟩:=gr (w:=some W) (all:=ws.map AV.str) (t:=.nm 7) (b:=ip) (xs:=vs.map AV.str) (en:=[some (.ref p),o1,o2,o3,o4,o5,some (.int 0),none]) (h:=h)
  (λj en hh=>∃ (n:Nat) (ps':List Pc) (o7:Option AV),en=[some (.ref p),o1,o2,o3,o4,o5,some (.int n),o7]/\Gx p [] h hh ps ps' (1500*j)/\TxZ ps' n (bC (vs.take j).reverse)/\(bC (vs.take j).reverse).length<=40*j)
  ⟨0,ps,none,rfl,Gx.refl S g [],.inl ⟨rfl,rfl⟩,Ki _⟩ (by
   rintro j en hh ⟨n,ps',o7,_,G,_⟩
   have:hh[W]? = some (.lst (ws.map AV.str)):=(G.fr W (.inr hW) (by simp) (bY eW)).trans eW
   simp [this]) (by
   rintro j u en hh hu ⟨n,ps',o7,rfl,G,T,lc⟩
   rw [Kb] at hu
   obtain ⟨w,ew,rfl⟩:=J5.mp hu
   have hj:=(JA.mp ew).1
   have mw:w∈ws:=by have:=J6 ew;rw [ev] at this;exact KS.mp this
   have gl:=G.len
   obtain ⟨n',ps2,h2,e,G2,T2⟩:=(yL G.sh G.gd T (by lia) (pw w mw) (lw w mw) (by have:=tG vs (j+1);rw [oM ew,iY,jG,bP] at this;have h2:=tH ws;rw [<- ev] at h2;have h3:=tH (vs.take j);lia) (by lia) o1 o2 o3 o4 o5).2
   have ts:bC (vs.take (j+1)).reverse=w++bC (vs.take j).reverse:=by rw [oM ew,MF];rfl
   show thn (ip [some (.ref p),o1,o2,o3,o4,o5,some (.int n),some (.str w)] hh) _
   rw [e]
   exact ⟨n',ps2,_,rfl,G.trans G2 (by lia),by rw [ts];exact T2,by rw [ts,bP];have:=lw w mw;lia⟩)
 rw [JN] at r2
 obtain ⟨n,ps',o7,rfl,G,T,_⟩:=r2
 rw [N8,ev,Nf] at T
 exact ⟨n,ps',h',o7,r1,{ G with len:=by have:=G.len;lia },T⟩
theorem yM {h:AH} {p L:Nat} {ps:List Pc} {y:Str} (S:ShelfAt h p ps) (g:Good ps) (hL:p+8<L) (eL:∃ N:Int,h[L]? = some (.lst [.int N])) (py:bj y=true) (hy:y.length<=40) (hz:ps.length<13000000) :
  ∃ (n:Nat) (ps':List Pc) (h':AH),iq [.ref p,.ref L,.str y] h = .ok (.int n) h'/\Gx p [L] h h' ps ps' 60000/\TxZ ps' n y/\∃ N:Int,h'[L]? = some (.lst [.int N]):=by
 obtain ⟨N,eL⟩:=eL
 have Ll:=bY eL
 obtain ⟨u,N1,hu,t1⟩:=iz 3 eL (by decide) (by decide)
 have t1':cq [.ref L,.int 3] h = .ok (.int u) (h.set L (.lst [.int N1])):=t1
 have G1:Gx p [L] h (h.set L (.lst [.int N1])) ps ps 0:=Gx.set S g (.inr hL) [L] (by simp) _
 have e1:(h.set L (.lst [.int N1]))[L]? = some (.lst [.int N1]):=J0 Ll
 have l1:L<(h.set L (.lst [.int N1])).length:=bY e1
 generalize h.set L (.lst [.int N1])=h1 at *
 by_cases q0:u=0
 ·subst q0
  obtain ⟨n,ps2,h2,eb,D,T,al⟩:=yE G1.sh G1.gd py (by lia) (by lia)
  exact ⟨n,ps2,h2,by simp [iq,t1',eb],G1.trans (Gx.dd D (JC _) (λf=>al 64 f (by lia))) (by lia),T,N1,(D.fr L (.inr hL)).trans e1⟩
 ·obtain ⟨ws,N2,o5,ew,cw,pw,lw⟩:=Hc (p:=p) (W:=h1.length) py hy rfl ⟨N1,e1⟩ u
  have G2:Gx p [L] h1 (h1.set L (.lst [.int N2])) ps ps 0:=Gx.set G1.sh G1.gd (.inr hL) [L] (by simp) _
  have lnW:(h1.set L (.lst [.int N2])).length=h1.length:=by simp
  have G3:=(G1.trans G2 (JC _)).app [.lst (ws.map AV.str)]
  have eW:(h1.set L (.lst [.int N2])++[AO.lst (ws.map AV.str)])[h1.length]? = some (.lst (ws.map AV.str)):=by rw [<- lnW];simp
  have eL3:(h1.set L (.lst [.int N2])++[AO.lst (ws.map AV.str)])[L]? = some (.lst [.int N2]):=by rw [JE (by rw [lnW];exact l1)];exact J0 l1
  generalize h1.set L (.lst [.int N2])++[AO.lst (ws.map AV.str)]=h3 at *
  have wl:∀ w∈ws,w.length<=40:=λw hw=>by have:=yJ ws w hw;rw [cw] at this;lia
  have lm:(df af) [some (.ref p),some (.ref L),some (.str y),some (.int u),none,none,none,none] h1 = .ok (.ref h1.length) (h1++[.lst []]):=rfl
  have z0:aS (.int u) (.int 0) h1 = .ok (.bl false) h1:=by simp [q0]
  by_cases q1:u=1
  ·have z1:aS (.int u) (.int 1) h3 = .ok (.bl true) h3:=by simp [q1]
   obtain ⟨n,ps4,h4,o7,ef,G4,T⟩:=Hd G3.sh G3.gd (by lia) eW pw wl lw (by rw [cw];lia) (by lia) (some (.ref L)) (some (.str "")) (some (.int u)) (some (.ref h1.length)) o5
   have it:bh (ae 4) [some (.ref p),some (.ref L),some (.str ""),some (.int u),some (.ref h1.length),o5,some (.int 0),none] h3 = .ok (ws.map AV.str,some h1.length) h3:=by simp [eW]
   have f1:=(gP (t:=.nm 7) (b:=ij) it).trans ef
   refine ⟨n,ps4,h4,?_,G3.trans (G4.more (λ_ z=>(nomatch z))) (by lia),by rw [<- cw];exact T,N2,(G4.fr L (.inr hL) (λz=>nomatch z) (bY eL3)).trans eL3⟩
   unfold iq
   generalize aV (bh (ae 4)) (.nm 7) ij=F1 at *
   generalize jt (ae 4) (.nm 7) ip=F2 at *
   generalize dP (aZ (ai cB (ae 2) (ah (.str "")))) iT fZ=WH at *
   generalize df af=LM at *
   generalize h1++[AO.lst []]=h2 at *
   simp [t1',z0,lm,ew,z1,f1,-aS]
  ·have z1:aS (.int u) (.int 1) h3 = .ok (.bl false) h3:=by
    have : ¬ (u:Int)=1:=by lia
    simp [this]
   obtain ⟨n,ps4,h4,o7,ef,G4,T⟩:=He G3.sh G3.gd (by lia) eW pw wl lw (by rw [cw];lia) (by lia) (some (.ref L)) (some (.str "")) (some (.int u)) (some (.ref h1.length)) o5
   have f2:jt (ae 4) (.nm 7) ip [some (.ref p),some (.ref L),some (.str ""),some (.int u),some (.ref h1.length),o5,some (.int 0),none] h3 = .nx [some (.ref p),some (.ref L),some (.str ""),some (.int u),some (.ref h1.length),o5,some (.int n),o7] h4:=by
    rw [<- ef]
    have v4:ae 4 [some (.ref p),some (.ref L),some (.str ""),some (.int u),some (.ref h1.length),o5,some (.int 0),none] h3 = .ok (.ref h1.length) h3:=rfl
    unfold jt
    rw [v4]
    dsimp only
    rw [eW]
   refine ⟨n,ps4,h4,?_,G3.trans (G4.more (λ_ z=>(nomatch z))) (by lia),by rw [<- cw];exact T,N2,(G4.fr L (.inr hL) (λz=>nomatch z) (bY eL3)).trans eL3⟩
   unfold iq
   generalize aV (bh (ae 4)) (.nm 7) ij=F1 at *
   generalize jt (ae 4) (.nm 7) ip=F2 at *
   generalize dP (aZ (ai cB (ae 2) (ah (.str "")))) iT fZ=WH at *
   generalize df af=LM at *
   generalize h1++[AO.lst []]=h2 at *
   simp [t1',z0,lm,ew,z1,f2,-aS]
end Sk
namespace Sk
open PySem PySem.Spec L2 Sm
inductive Rea (ps:List Pc) (ts:List Nat):Nat->Prop
 | top {n:Nat}:n∈ts->n≠0->Rea ps ts n
 | one {i a b:Nat}:Rea ps ts (i+1)->ps[i]? = some (.fork a b)->Rea ps ts a
 | two {i a b:Nat}:Rea ps ts (i+1)->ps[i]? = some (.fork a b)->Rea ps ts b
theorem kh {ps:List Pc} (g:Good ps) {i a b:Nat} (e:ps[i]? = some (.fork a b)):1<=a/\a<=i/\1<=b/\b<=i:=by
 have ok:ForkOk (ps.take i) a b:=g.get e
 have hi:=(JA.mp e).1
 have li:(ps.take i).length=i:=by simp;lia
 obtain ⟨ma,mb,la,fb,h1,h2,_⟩:=ok.ex
 have b1:=(JA.mp h1).1
 have b2:=(JA.mp h2).1
 rw [c9,li] at b1 b2
 exact ⟨ok.pa,by lia,ok.pb,by lia⟩
theorem Rea.bd {ps:List Pc} {ts:List Nat} (g:Good ps) (ht:∀ n∈ts,n<=ps.length) {n:Nat} (r:Rea ps ts n):1<=n/\n<=ps.length:=by
 cases r with
 | top h z=>exact ⟨by lia,ht n h⟩
 | one r e=>have:=kh g e;have:=(JA.mp e).1;exact ⟨by lia,by lia⟩
 | two r e=>have:=kh g e;have:=(JA.mp e).1;exact ⟨by lia,by lia⟩
open Classical in
def aG (ps:List Pc) (ts:List Nat):Nat->List Nat
 | 0=>[]
 | k+1=>aG ps ts k++(if Rea ps ts (k+1) then [k+1] else [])
theorem oN {ps:List Pc} {ts:List Nat} {k:Nat} (r:Rea ps ts (k+1)):aG ps ts (k+1)=aG ps ts k++[k+1]:=by rw [aG,JG r]
theorem oO {ps:List Pc} {ts:List Nat} {k:Nat} (r : ¬ Rea ps ts (k+1)):aG ps ts (k+1)=aG ps ts k:=by rw [aG,JF r,Ln]
theorem za5 {ps:List Pc} {ts:List Nat} {n:Nat}:∀ {k:Nat},n∈aG ps ts k ↔ (1<=n/\n<=k/\Rea ps ts n)
 | 0=>by simp [aG];lia
 | k+1=>by
  by_cases r:Rea ps ts (k+1)
  ·rw [oN r,JS,za5 (k:=k),JP]
   constructor
   ·rintro (⟨a,b,c⟩ | rfl)
    ·exact ⟨a,by lia,c⟩
    ·exact ⟨by lia,by lia,r⟩
   ·rintro ⟨a,b,c⟩
    by_cases q:n=k+1
    ·exact .inr q
    ·exact .inl ⟨a,by lia,c⟩
  ·rw [oO r,za5 (k:=k)]
   constructor
   ·rintro ⟨a,b,c⟩
    exact ⟨a,by lia,c⟩
   ·rintro ⟨a,b,c⟩
    by_cases q:n=k+1
    ·subst q;exact absurd c r
    ·exact ⟨a,by lia,c⟩
theorem ki {ps:List Pc} {ts:List Nat}:∀ k:Nat,(aG ps ts k).Pairwise (· < ·)
 | 0=>.nil
 | k+1=>by
  by_cases r:Rea ps ts (k+1)
  ·rw [oN r,Nc]
   refine ⟨ki k,L4 _ _,λa ha b hb=>?_⟩
   have:=(za5.mp ha).2.1
   have:=JP.mp hb
   lia
  ·rw [oO r];exact ki k
theorem yN {ps:List Pc} {ts:List Nat}:∀ k:Nat,(aG ps ts k).length<=k
 | 0=>JC _
 | k+1=>by
  have:=yN (ps:=ps) (ts:=ts) k
  by_cases r:Rea ps ts (k+1)
  ·rw [oN r,JJ];simp;lia
  ·rw [oO r];lia
def yO (ps:List Pc) (ts:List Nat) (n:Nat):Nat:=(aG ps ts n).length
def Hf (ps:List Pc) (ts:List Nat):Pc->Pc
 | .leaf x=>.leaf x
 | .fork a b=>.fork (yO ps ts a) (yO ps ts b)
def new (ps:List Pc) (ts:List Nat) (k:Nat):List Pc:=(aG ps ts k).map λn=>Hf ps ts (ps.getD (n-1) (.leaf ""))
def Like (qs:List Pc) (n:Nat) (m:Ms) (x:Str) (f l:Ms):Prop:=∃ m' f' l',Tx qs n m' x f' l'/\m'.lv=m.lv/\m'.ht=m.ht/\f'.sg=f.sg/\l'.sg=l.sg
theorem Like.pre {ps ps':List Pc} {n:Nat} {m:Ms} {x:Str} {f l:Ms} (k:Like ps n m x f l) (h:ps <+: ps'):Like ps' n m x f l:=by
 obtain ⟨m',f',l',T,e⟩:=k
 exact ⟨m',f',l',T.pre h,e⟩
end Sk
namespace Sk
open PySem PySem.Spec L2 Sm
theorem iA:∀ {N:Nat} {D:List Nat},D.Nodup->(∀ n∈D,1<=n/\n<=N)->D.length<=N
 | 0,[],_,_=>JC _
 | 0,n::D,_,h=>by have:=h n (KJ ..);lia
 | N+1,D,nd,h=>by
  by_cases q:N+1∈D
  ·have:=iA (N:=N) (nd.erase (N+1)) λn hn=>by
    obtain ⟨a,b⟩:=nd.mem_erase_iff.mp hn
    have:=h n b
    lia
   rw [NU q] at this
   lia
  ·have:=iA (N:=N) nd λn hn=>by
    have:=h n hn
    have:n≠N+1:=λe=>q (e▸hn)
    lia
   lia
theorem yP {g:Nat->AV} {n:Nat}:∀ {D:List Nat},n∈D->aU (D.map λm:Nat=>(AV.int m,g m)) (.int n)=some (g n)
 | [],h=>nomatch h
 | m::D,h=>by
  by_cases q:m=n
  ·subst q;simp [aU]
  ·have:=yP (g:=g) (n:=n) (D:=D) (by rcases J4.mp h with h | h;exact absurd h.symm q;exact h)
   have q' : ¬ (AV.int (m:Int)=AV.int (n:Int)):=λe=>q (by injection e with e;exact OS e)
   unfold aU at this ⊢
   rw [J8,Of (by simp;lia)]
   exact this
theorem tJ {g:Nat->AV} {n:Nat}:∀ {D:List Nat},n∉D->aU (D.map λm:Nat=>(AV.int m,g m)) (.int n)=none
 | [],h=>rfl
 | m::D,h=>by
  have q : ¬ m=n:=λe=>h (by rw [e];exact KJ ..)
  have:=tJ (g:=g) (n:=n) (D:=D) λz=>h (Km _ z)
  unfold aU at this ⊢
  rw [J8,Of (by simp;lia)]
  exact this
theorem Hg {g:Nat->AV} {n:Nat} {D:List Nat} (h:n∉D):dQ (D.map λm:Nat=>(AV.int m,g m)) (.int n) (g n)=(D++[n]).map λm:Nat=>(AV.int m,g m):=by
 unfold dQ
 rw [qV,tJ h,K5]
 simp
noncomputable def parts:Pc->List Nat
 | .leaf _=>[]
 | .fork a b=>[a,b]
theorem Hh {h:AH} {p n:Nat} {ps:List Pc} {q:Pc} (S:ShelfAt h p ps) (n1:1<=n) (e:ps[n-1]? = some q):lL [.ref p,.int n] h = .ok (.fl (ar (parts q))) h:=by
 have fp:=oA S n1 e
 cases q with
 | leaf x =>
  have fp':c4 [.ref p,.int n] h = .ok (.tup [.str "leaf",.str x]) h:=fp
  simp [lL,S.ob,fp',oF,sU,parts,-aC,-aS]
 | fork a b =>
  have fp':c4 [.ref p,.int n] h = .ok (.tup [.str "fork",.int a,.int b]) h:=fp
  simp [lL,S.ob,fp',lZ,oG,i1,i2,parts,-aC,-aS]
noncomputable abbrev hR (h:AH) (D A:List Nat):AH:=h++[.dct false (D.map λn:Nat=>(AV.int n,(λ_:Nat=>AV.bl true) n)),.lst (ar A)]
noncomputable abbrev eR (p:Nat) (o1:Option AV) (h:AH) (o4:Option AV):En:=[some (.ref p),o1,some (.ref h.length),some (.ref (h.length+1)),o4]
theorem mr {h:AH} {D A:List Nat}:(hR h D A)[h.length+1]? = some (.lst (ar A)):=by simp [hR,OC]
theorem oP {h:AH} {D A:List Nat}:(hR h D A)[h.length]? = some (.dct false (D.map λn:Nat=>(AV.int n,(λ_:Nat=>AV.bl true) n))):=by simp [hR]
theorem yQ {h:AH} {D A B:List Nat}:(hR h D A).set (h.length+1) (.lst (ar B))=hR h D B:=by
 unfold hR
 rw [Ox _ _ (by lia),LY]
 rfl
theorem Hi {h:AH} {D E A:List Nat}:(hR h D A).set h.length (.dct false (E.map λn:Nat=>(AV.int n,(λ_:Nat=>AV.bl true) n)))=hR h E A:=by
 unfold hR
 rw [Ox _ _ (by lia),Nat.sub_self]
 rfl
theorem Hj {h:AH} {p n:Nat} {ps:List Pc} {q:Pc} {D A:List Nat} {o1 o4:Option AV} (S:ShelfAt h p ps) (n1:1<=n) (e:ps[n-1]? = some q) (lD:D.length<=1000000) (lA:A.length<=10000000) :
  iV (eR p o1 h o4) (hR h D (A++[n])) = .nx (eR p o1 h (some (.int n))) (if n∈D then hR h D A else hR h (D++[n]) (A++parts q)):=by
 have po:dR (.ref (h.length+1)) [] (hR h D (A++[n])) = .ok (.int n) (hR h D A):=by
  have:=GJ (h:=hR h D (A++[n])) (W:=h.length+1) (Z:=ar A) (v:=.int n) (by rw [mr];simp)
  rw [this,yQ]
 have il:bo (.ref (h.length+1)) (hR h D (A++[n]))=true:=by simp only [bo,cf,mr];rfl
 by_cases hn:n∈D
 ·rw [JG hn]
  have ni:gG (.int n) (.ref h.length) (hR h D A) = .ok (.bl false) (hR h D A):=by
   simp only [gG,g8,oP,yP hn,fJ,keyOf?,Option.isSome];rfl
  simp only [eR] at *
  generalize hR h D (A++[n])=H0 at *
  generalize hR h D A=H1 at *
  simp [iV,il,po,ni,-bo,-dR,-gG]
 ·rw [JF hn]
  have ni:gG (.int n) (.ref h.length) (hR h D A) = .ok (.bl true) (hR h D A):=by
   simp only [gG,g8,oP,tJ hn,fJ,keyOf?,Option.isSome];rfl
  have st:∀ en:En,en[2]? = some (some (.ref h.length))->en[4]? = some (some (.int n))->iF (ae 2) (ae 4) (ah (.bl true)) en (hR h D A) = .nx en (hR h (D++[n]) A):=λen e2 e4=>by
   have z:D.length<sizeLine:=J9 lD (by decide)
   have k1:fJ false (.int n)=true:=rfl
   have pn:=Hg (g:=λ_=>AV.bl true) hn
   simp only [iF,ah,ae,e2,e4,Out.go,oP,JN,z,k1,and_self,MM]
   rw [pn,Hi]
  have S2:ShelfAt (hR h (D++[n]) A) p ps:=S.app _
  have fp:=Hh S2 n1 e
  have ex:jX (.ref (h.length+1)) [.fl (ar (parts q))] (hR h (D++[n]) A) = .ok .non (hR h (D++[n]) (A++parts q)):=by
   have z:(ar A).length+(ar (parts q)).length<=sizeLine:=by
    have:(parts q).length<=2:=by cases q<;>simp [parts]
    rw [JN,JN]
    exact JI (m:=10000002) (by lia) (by decide)
   simp only [jX,mr,cf,z,MM]
   rw [show ar A++ar (parts q)=ar (A++parts q) by simp,yQ]
  have il2:bo (.ref (h.length+1)) (hR h (D++[n]) A)=true:=by simp only [bo,cf,mr];rfl
  have st' := st [some (.ref p),o1,some (.ref h.length),some (.ref (h.length+1)),some (.int n)] rfl rfl
  simp only [eR] at *
  unfold iV
  generalize iF (ae 2) (ae 4) (ah (.bl true))=SX at *
  generalize hR h D (A++[n])=H0 at *
  generalize hR h D A=H1 at *
  generalize hR h (D++[n]) A=H2 at *
  generalize hR h (D++[n]) (A++parts q)=H3 at *
  simp [il,po,ni,st',fp,il2,ex,-bo,-dR,-gG,-jX]
end Sk
namespace Sk
open PySem PySem.Spec L2 Sm
structure Dfs (ps:List Pc) (ts D A:List Nat):Prop where
 nd:D.Nodup
 rd:∀ n∈D,Rea ps ts n
 ra:∀ n∈A,Rea ps ts n
 tp:∀ n∈ts,n≠0->n∈D\/n∈A
 fk:∀ i a b,i+1∈D->ps[i]? = some (.fork a b)->(a∈D\/a∈A)/\(b∈D\/b∈A)
theorem Dfs.done {ps:List Pc} {ts D:List Nat} (d:Dfs ps ts D []) {n:Nat} (r:Rea ps ts n):n∈D:=by
 induction r with
 | top h z=>exact (d.tp _ h z).elim id λz=>nomatch z
 | one r e ih=>exact (d.fk _ _ _ ih e).1.elim id λz=>nomatch z
 | two r e ih=>exact (d.fk _ _ _ ih e).2.elim id λz=>nomatch z
theorem Dfs.skip {ps:List Pc} {ts D A:List Nat} {n:Nat} (d:Dfs ps ts D (A++[n])) (h:n∈D):Dfs ps ts D A:=by
 have m:∀ x,x∈D\/x∈A++[n]->x∈D\/x∈A:=λx hx=>by
  rcases hx with hx | hx
  ·exact .inl hx
  ·rcases JS.mp hx with hx | hx
   ·exact .inr hx
   ·exact .inl (JP.mp hx▸h)
 exact ⟨d.nd,d.rd,λx hx=>d.ra x (JO _ hx),λx hx z=>m x (d.tp x hx z),λi a b hi e=>⟨m a (d.fk i a b hi e).1,m b (d.fk i a b hi e).2⟩⟩
theorem Dfs.step {ps:List Pc} {ts D A:List Nat} {n:Nat} {q:Pc} (d:Dfs ps ts D (A++[n])) (h:n∉D) (n1:1<=n) (e:ps[n-1]? = some q):Dfs ps ts (D++[n]) (A++parts q):=by
 have rn:=d.ra n (by simp)
 obtain ⟨j,rfl⟩:∃ j,n=j+1:=⟨n-1,by lia⟩
 rw [NF] at e
 have m:∀ x,x∈D\/x∈A++[j+1]->x∈D++[j+1]\/x∈A++parts q:=λx hx=>by
  rcases hx with hx | hx
  ·exact .inl (JO _ hx)
  ·rcases JS.mp hx with hx | hx
   ·exact .inr (JO _ hx)
   ·exact .inl (JW _ hx)
 refine ⟨LF.mpr ⟨d.nd,by simp,λa ha b hb=>by rw [JP] at hb;subst hb;exact λe=>h (e▸ha)⟩,λx hx=>?_,λx hx=>?_,λx hx z=>m x (d.tp x hx z),λi a b hi e2=>?_⟩
 ·rcases JS.mp hx with hx | hx
  ·exact d.rd x hx
  ·exact JP.mp hx▸rn
 ·rcases JS.mp hx with hx | hx
  ·exact d.ra x (JO _ hx)
  ·cases q with
   | leaf _=>cases hx
   | fork a b =>
    simp only [parts,J4,K8,Nh] at hx
    rcases hx with rfl | rfl
    ·exact .one rn e
    ·exact .two rn e
 ·rcases JS.mp hi with hi | hi
  ·exact ⟨m a (d.fk i a b hi e2).1,m b (d.fk i a b hi e2).2⟩
  ·have:i=j:=by have:=JP.mp hi;lia
   subst this
   rw [e] at e2
   cases e2
   exact ⟨.inr (by simp [parts]),.inr (by simp [parts])⟩
theorem Hk {α:Type}:∀ {l:List α},l≠[]->∃ a x,l=a++[x]:=λ{l} h=>⟨l.dropLast,l.getLast h,(List.dropLast_concat_getLast h).symm⟩
theorem Hl {h:AH} {p:Nat} {ps:List Pc} {ts A:List Nat} {o1:Option AV} (S:ShelfAt h p ps) (g:Good ps) (ht:∀ n∈ts,n<=ps.length) (hz:ps.length<=1000000) (lA:A.length<=1000000) (d:Dfs ps ts [] A) :
  ∃ D o4,dP (aZ (ai cB (ae 3) (bM af))) iV fZ (eR p o1 h none) (hR h [] A) = .nx (eR p o1 h o4) (hR h D [])/\Dfs ps ts D []:=by
 obtain ⟨e',h',r1,D,o4,rfl,rfl,d'⟩:=xX (c:=aZ (ai cB (ae 3) (bM af))) (b:=iV) (fuel:=fZ) (n:=3*ps.length+A.length) (en:=eR p o1 h none) (h:=hR h [] A)
  (λm en hh=>∃ D A o4,en=eR p o1 h o4/\hh=hR h D A/\Dfs ps ts D A/\m+3*D.length=3*ps.length+A.length/\m<=4000000)
  (λen hh=>∃ D o4,en=eR p o1 h o4/\hh=hR h D []/\Dfs ps ts D [])
  ⟨[],A,none,rfl,rfl,d,by simp,by lia⟩ (J9 (m:=4000000) (by lia) (by decide)) (by
   rintro m en hh ⟨D,A,o4,rfl,rfl,d,hm,hm2⟩
   have ne:=GH (mr (h:=h) (D:=D) (A:=A))
   have c:(aZ (ai cB (ae 3) (bM af))) (eR p o1 h o4) (hR h D A) = .ok (!decide (A=[])) (hR h D A):=by
    simp only [eR]
    generalize hR h D A=H at *
    simp [ne,-cB]
   rw [c]
   by_cases q:A=[]
   ·subst q
    exact ⟨D,o4,rfl,rfl,d⟩
   ·obtain ⟨B,n,rfl⟩:=Hk q
    have lD:=iA d.nd λn hn=>(d.rd n hn).bd g ht
    have bn:=(d.ra n (by simp)).bd g ht
    have e:ps[n-1]? = some (ps[n-1]'(by lia)):=by simp
    generalize ps[n-1]'(by lia)=pc at e
    have lB:(B++[n]).length=B.length+1:=by simp
    have t:=Hj (D:=D) (A:=B) (o1:=o1) (o4:=o4) S bn.1 e (by lia) (by lia)
    rw [Kh q]
    show thn (iV (eR p o1 h o4) (hR h D (B++[n]))) _
    rw [t]
    by_cases hn:n∈D
    ·rw [JG hn]
     exact ⟨m-1,by lia,D,B,_,rfl,rfl,d.skip hn,by lia,by lia⟩
    ·rw [JF hn]
     have d2:=d.step hn bn.1 e
     have lD2:=iA d2.nd λn hn=>(d2.rd n hn).bd g ht
     have lp:(parts pc).length<=2:=by cases pc<;>simp [parts]
     have l1:(D++[n]).length=D.length+1:=by simp
     have l2:(B++parts pc).length=B.length+(parts pc).length:=by simp
     exact ⟨3*ps.length+(B++parts pc).length-3*(D++[n]).length,by lia,_,_,_,rfl,rfl,d2,by lia,by lia⟩)
 exact ⟨D,o4,r1,d'⟩
theorem oQ:∀ D:List Nat,gL (D.map λn:Nat=>AV.int n)=some (D.map λn:Nat=>(n:Int))
 | []=>rfl
 | n::D=>by
  show (gL (D.map λn:Nat=>AV.int n)).map ((n:Int) :: ·)=_
  rw [oQ D];rfl
theorem Hm {ps:List Pc} {ts D:List Nat} (g:Good ps) (ht:∀ n∈ts,n<=ps.length) (d:Dfs ps ts D []):gi (D.map λn:Nat=>(n:Int))=(aG ps ts ps.length).map λn:Nat=>(n:Int):=by
 have so:=ki (ps:=ps) (ts:=ts) ps.length
 have pm:D.Perm (aG ps ts ps.length):=(Mv d.nd (so.imp λh=>Ka h)).mpr λn=>by
  rw [za5]
  constructor
  ·intro h
   have r:=d.rd n h
   exact ⟨(r.bd g ht).1,(r.bd g ht).2,r⟩
  ·rintro ⟨_,_,r⟩
   exact d.done r
 refine j4 ((k9 _).trans (pm.map _)) (lg _) ?_
 rw [MZ]
 exact so.imp λh=>by lia
def Lt (h:AH) (v:AV) (ts:List Nat):Prop:=v = .fl (ar ts)\/∃ n,v = .ref n/\h[n]? = some (.lst (ar ts))
theorem Lt.keep {h h':AH} {v:AV} {ts:List Nat} (L:Lt h v ts) (k:∀ i,i<h.length->h'[i]? = h[i]?):Lt h' v ts:=by
 rcases L with rfl | ⟨n,rfl,e⟩
 ·exact .inl rfl
 ·exact .inr ⟨n,rfl,(k n (bY e)).trans e⟩
theorem Lt.app {h:AH} {v:AV} {ts:List Nat} (L:Lt h v ts) (r:AH):Lt (h++r) v ts:=L.keep λi hi=>JE hi
theorem Lt.it {h:AH} {v:AV} {ts:List Nat} (L:Lt h v ts) {a:SE} {en:En} (e:a en h = .ok v h):∃ w,bh a en h = .ok (ar ts,w) h/\cZ w (ar ts) h=true:=by
 rcases L with rfl | ⟨n,rfl,e2⟩
 ·exact ⟨none,by simp only [bh,e,Out.bind],rfl⟩
 ·exact ⟨some n,by simp only [bh,e,Out.bind,e2],by simp [cZ,e2]⟩
theorem oR {h:AH} {p:Nat} {ps:List Pc} {ts:List Nat} {v:AV} (S:ShelfAt h p ps) (g:Good ps) (L:Lt h v ts) (ht:∀ n∈ts,n<=ps.length) (lt:ts.length<=1000000) (hz:ps.length<=1000000) :
  ∃ r:AH,r.length=2/\gp [.ref p,v] h = .ok (.ref (h.length+2)) (h++r++[.lst (ar (aG ps ts ps.length))]):=by
 have S1:=S.app [.dct false []]
 have L1:=L.app [.dct false []]
 obtain ⟨w,i1,i2⟩:=L1.it (a:=ae 1) (en:=[some (.ref p),some v,some (.ref h.length),none,none]) rfl
 have cp:=lQ (js:=[]) (en:=[some (.ref p),some v,some (.ref h.length),none,none]) (w:=w) (all:=ar ts) (c:=aZ (ai cB (ae 0) (ah (.int 0)))) (e:=ae 0) (g:=λn:Nat=>AV.int n) (f:=λn:Nat=>AV.int n) (p:=λn=>!decide (n=0)) i2 ts []
  (λn _=>by simp) (λn _ _=>rfl) (by simp only [KP,LJ];exact JI lt (by decide))
 rw [Mj] at cp
 have cm:ji [] (bh (ae 1)) (aZ (ai cB (ae 0) (ah (.int 0)))) (ae 0) [some (.ref p),some v,some (.ref h.length),none,none] (h++[.dct false []]) = .ok (.ref (h.length+1)) (hR h [] (ts.filter λn=>!decide (n=0))):=by
  unfold ji
  rw [i1]
  dsimp only
  rw [cp]
  simp
 have d0:Dfs ps ts [] (ts.filter λn=>!decide (n=0)):=by
  refine ⟨MT,λn h=>(nomatch h),λn h=>?_,λn h z=>.inr ?_,λi a b h=>(nomatch h)⟩
  ·have:=Lm.mp h
   exact .top this.1 (by simpa using this.2)
  ·exact Lm.mpr ⟨h,by simpa using z⟩
 obtain ⟨D,o4,wl,d⟩:=Hl (o1:=some v) S g ht hz (JI (M5 ..) lt) d0
 have lR:(hR h D []).length=h.length+2:=by simp [hR]
 have so:lh [.ref h.length] (hR h D []) = .ok (.ref (h.length+2)) (hR h D []++[.lst (ar (aG ps ts ps.length))]):=by
  have k:j5 (.ref h.length) (hR h D [])=some (D.map λn:Nat=>(n:Int)):=by
   unfold j5
   dsimp only
   rw [oP]
   dsimp only
   rw [Md]
   exact oQ D
  unfold lh
  dsimp only
  rw [k]
  dsimp only
  rw [Hm g ht d,Md,lR]
  rfl
 refine ⟨[.dct false (D.map λn:Nat=>(AV.int n,(λ_:Nat=>AV.bl true) n)),.lst (ar [])],rfl,?_⟩
 have sd:jg false [some (.ref p),some v,none,none,none] h = .ok (.ref h.length) (h++[.dct false []]):=rfl
 simp only [eR] at wl
 unfold gp
 generalize dP (aZ (ai cB (ae 3) (bM af))) iV fZ=WL at *
 generalize ji [] (bh (ae 1)) (aZ (ai cB (ae 0) (ah (.int 0)))) (ae 0)=CM at *
 generalize jg false=SD at *
 show _=Out.ok _ (hR h D []++_)
 generalize hR h D []++[AO.lst (ar (aG ps ts ps.length))]=H4 at *
 generalize hR h D []=H3 at *
 generalize hR h [] (ts.filter λn=>!decide (n=0))=H2 at *
 generalize h++[AO.dct false []]=H1 at *
 simp [sd,cm,wl,so,-jg]
end Sk
namespace Sk
open PySem PySem.Spec L2 Sm
theorem mv (k:Nat) (h:AH):∀ l:List Nat,bH (bp k h) (ar l)=some (l.map λn:Nat=>PyData.int n)
 | []=>rfl
 | n::l=>by
  have t:bp k h (.int n)=some (.int n):=by cases k<;>rfl
  show (match bp k h (.int n),bH (bp k h) (ar l) with | some d,some ds=>some (d::ds) | _,_=>none)=_
  rw [t,mv k h l]
  rfl
theorem tK (n:Nat):∀ l:List Nat,((l.map λn:Nat=>PyData.int n).any λe=>PyData.eqv e (.int n))=decide (n∈l)
 | []=>by simp
 | m::l=>by
  rw [J8,Mn,tK n l]
  have:PyData.eqv (.int m) (.int n)=decide (m=n):=by
   by_cases q:m=n<;>simp [PyData.eqv,q]
   lia
  rw [this]
  by_cases q:m=n
  ·subst q;simp
  ·have q' : ¬ n=m:=λe=>q e.symm
   simp [q,q']
theorem Hn {hh:AH} {A n:Nat} {l:List Nat} (e:hh[A]? = some (.lst (ar l))):d7 (.int n) (.ref A) hh = .ok (.bl (decide (n∈l))) hh:=by
 have t:bp 8 hh (.int n)=some (.int n):=rfl
 simp only [d7,g8,e,t,mv,tK]
theorem tL (h:AH):aS (.str "fork") (.str "fork") h = .ok (.bl true) h:=by simp
theorem tM (h:AH):aS (.str "leaf") (.str "fork") h = .ok (.bl false) h:=by
 have : ¬ (Str.ofString "leaf" = Str.ofString "fork"):=by decide +kernel
 simp [this]
structure Cl (ps:List Pc) (ts se:List Nat) (j:Nat):Prop where
 inn:∀ n∈se,n∈ts\/Rea ps ts n
 top:∀ n∈ts,n∈se
 fk:∀ i a b,ps.length<=i+j->Rea ps ts (i+1)->ps[i]? = some (.fork a b)->a∈se/\b∈se
 len:se.length<=ts.length+2*j
theorem Cl.iff {ps:List Pc} {ts se:List Nat} {j k:Nat} (g:Good ps) (c:Cl ps ts se j) (hk:ps.length<=k+1+j):k+1∈se ↔ Rea ps ts (k+1):=by
 constructor
 ·intro h
  exact (c.inn _ h).elim (λh=>.top h (by lia)) id
 ·intro r
  generalize hn:k+1=n at *
  cases r with
  | top h z=>exact c.top _ h
  | one r e=>have:=kh g e;exact (c.fk _ _ _ (by lia) r e).1
  | two r e=>have:=kh g e;exact (c.fk _ _ _ (by lia) r e).2
theorem Ho {N:Nat} {j:Nat} {x:AV} (e:(eG (N:Int) 0)[j]? = some x):∃ k,k+1+j=N/\x = .int ((k+1:Nat):Int):=by
 unfold eG at e
 rw [Kb] at e
 obtain ⟨m,e1,rfl⟩:=J5.mp e
 have hl:=(JA.mp e1)
 obtain ⟨l1,l2⟩:=hl
 rw [List.getElem_range] at l2
 rw [Lf] at l1
 have:(N-0:Int).toNat=N:=by lia
 rw [this] at l1
 subst l2
 exact ⟨N-j-1,by lia,by congr 1;lia⟩
theorem Hq {N:Nat}:(eG (N:Int) 0).length=N:=by unfold eG;rw [JN,Lf];lia
theorem yR {hh:AH} {n:Nat} {l:List Nat}:d7 (.int n) (.fl (ar l)) hh = .ok (.bl (decide (n∈l))) hh:=by
 have t:bp 8 hh (.int n)=some (.int n):=rfl
 simp only [d7,g8,t,mv,tK]
theorem Hr {hh:AH} {v:AV} {n:Nat} {l:List Nat} (L:Lt hh v l):d7 (.int n) v hh = .ok (.bl (decide (n∈l))) hh:=by
 rcases L with rfl | ⟨m,rfl,e⟩
 ·exact yR
 ·exact Hn e
theorem Hs {hh:AH} {v:AV} {a b:Nat} {l:List Nat} (L:Lt hh v l) (hl:l.length+2<=10000000):aA v (.fl [.int a,.int b]) hh = .ok (.fl (ar (l++[a,b]))) hh:=by
 have sz:(ar l).length+2<=sizeLine:=by
  rw [JN]
  exact JI hl (by decide)
 have e2:ar l++[.int a,.int b]=ar (l++[a,b]):=by simp
 rcases L with rfl | ⟨m,rfl,e⟩
 ·simp only [aA,cf,Kj,KP]
  rw [JG sz,e2]
 ·simp only [aA,cf,e,Kj,KP]
  rw [JG sz,e2]
structure Fb (ps:List Pc) (ts fd:List Nat) (j:Nat):Prop where
 eq:∀ k,k+j=ps.length->aG ps ts ps.length=aG ps ts k++fd.reverse
 len:fd.length<=j
theorem Ht {h:AH} {p j k:Nat} {ps:List Pc} {ts se fd:List Nat} {v:AV} {o4:Option AV} (S:ShelfAt h p ps) (g:Good ps) (c:Cl ps ts se j) (f:Fb ps ts fd j) (L:Lt h v se) (hj:k+1+j=ps.length) (lt:ts.length<=1000000) (hz:ps.length<=1000000) :
  ∃ v2 q4 se2 fd2,gO [some (.ref p),some v,some (.ref h.length),some (.int ((k+1:Nat):Int)),o4] (h++[.lst (ar fd)]) = .nx [some (.ref p),some v2,some (.ref h.length),some (.int ((k+1:Nat):Int)),q4] (h++[.lst (ar fd2)])/\Cl ps ts se2 (j+1)/\Fb ps ts fd2 (j+1)/\Lt h v2 se2:=by
 have hk:k<ps.length:=by lia
 have e:ps[k]? = some (ps[k]'hk):=by simp
 generalize ps[k]'hk=q at e
 have ii:=Hr (L.app [AO.lst (ar fd)]) (n:=k+1)
 have iff_:=c.iff g (k:=k) (by lia)
 have keep:(Rea ps ts (k+1)->∀ a b,q ≠ .fork a b)->Cl ps ts se (j+1):=λh=>⟨c.inn,c.top,λi a b hi r e2=>by
  by_cases z:i=k
  ·subst z;rw [e] at e2;cases e2;exact absurd rfl (h r a b)
  ·exact c.fk i a b (by lia) r e2,by have:=c.len;lia⟩
 by_cases r:Rea ps ts (k+1)
 ·rw [KR (iff_.mpr r)] at ii
  have eF:(h++[AO.lst (ar fd)])[h.length]? = some (.lst (ar fd)):=by simp
  have il:bo (.ref h.length) (h++[AO.lst (ar fd)])=true:=by simp only [bo,cf,eF];rfl
  have ap:bJ (.ref h.length) [.int ((k+1:Nat):Int)] (h++[AO.lst (ar fd)]) = .ok .non (h++[AO.lst (ar (fd++[k+1]))]):=by
   have sz:(ar fd).length<sizeLine:=by
    rw [JN]
    have:=f.len
    exact J9 (m:=1000000) (by lia) (by decide)
   simp only [bJ,eF]
   rw [JG sz]
   simp
  have S1:ShelfAt (h++[AO.lst (ar (fd++[k+1]))]) p ps:=S.app _
  have L1:Lt (h++[AO.lst (ar (fd++[k+1]))]) v se:=L.app _
  have f2:Fb ps ts (fd++[k+1]) (j+1):=⟨λk' hk' => by
   have:k'=k:=by lia
   subst this
   rw [f.eq (k'+1) (by lia),oN r,MF]
   simp,by rw [JJ];have:=f.len;simp;lia⟩
  have fp:=oA S1 (n:=k+1) (by lia) (show ps[k+1-1]? = some q from e)
  cases q with
  | leaf x =>
   have fp':c4 [.ref p,.int ((k+1:Nat):Int)] (h++[AO.lst (ar (fd++[k+1]))]) = .ok (.tup [.str "leaf",.str x]) (h++[AO.lst (ar (fd++[k+1]))]):=fp
   refine ⟨v,some (.tup [.str "leaf",.str x]),se,fd++[k+1],?_,keep (λ_ a b z=>by cases z),f2,L⟩
   have ob:=S1.ob
   generalize h++[AO.lst (ar (fd++[k+1]))]=H2 at *
   generalize h++[AO.lst (ar fd)]=H1 at *
   generalize ((k+1:Nat):Int)=K at *
   simp [gO,ii,il,ap,ob,fp',oF,tM,-aC,-aS,-d7,-bo,-bJ]
  | fork a b =>
   have fp':c4 [.ref p,.int ((k+1:Nat):Int)] (h++[AO.lst (ar (fd++[k+1]))]) = .ok (.tup [.str "fork",.int a,.int b]) (h++[AO.lst (ar (fd++[k+1]))]):=fp
   have ad:=Hs L1 (a:=a) (b:=b) (by have:=c.len;lia)
   refine ⟨.fl (ar (se++[a,b])),some (.tup [.str "fork",.int a,.int b]),se++[a,b],fd++[k+1],?_,⟨λn hn=>?_,λn hn=>JO _ (c.top n hn),λi a' b' hi r' e2=>?_,?_⟩,f2,.inl rfl⟩
   ·have ob:=S1.ob
    generalize h++[AO.lst (ar (fd++[k+1]))]=H2 at *
    generalize h++[AO.lst (ar fd)]=H1 at *
    generalize ((k+1:Nat):Int)=K at *
    generalize ar (se++[a,b])=V2 at *
    simp [gO,ii,il,ap,ob,fp',lZ,tL,i1,i2,ad,-aC,-aS,-d7,-bo,-bJ,-aA]
   ·rcases JS.mp hn with hn | hn
    ·exact c.inn n hn
    ·simp only [J4,K8,Nh] at hn
     rcases hn with rfl | rfl
     ·exact .inr (.one r e)
     ·exact .inr (.two r e)
   ·by_cases z:i=k
    ·subst z;rw [e] at e2;cases e2;exact ⟨by simp,by simp⟩
    ·have:=c.fk i a' b' (by lia) r' e2
     exact ⟨JO _ this.1,JO _ this.2⟩
   ·rw [JJ];have:=c.len;simp;lia
 ·rw [Kh (λz=>r (iff_.mp z))] at ii
  refine ⟨v,o4,se,fd,?_,keep λr' => absurd r' r,⟨λk' hk' => ?_,by have:=f.len;lia⟩,L⟩
  ·generalize h++[AO.lst (ar fd)]=H1 at *
   generalize ((k+1:Nat):Int)=K at *
   simp [gO,ii,-aC,-aS,-d7]
  ·have:k'=k:=by lia
   subst this
   rw [f.eq (k'+1) (by lia),oO r]
theorem Hu {h:AH} {p:Nat} {ps:List Pc} {ts:List Nat} {v:AV} (S:ShelfAt h p ps) (g:Good ps) (L:Lt h v ts) (lt:ts.length<=1000000) (hz:ps.length<=1000000) :
  ∃ v2 o3 o4 fd,dE none (eG (ps.length:Int) 0) (.nm 3) gO (eG (ps.length:Int) 0) [some (.ref p),some v,some (.ref h.length),none,none] (h++[.lst []]) = .nx [some (.ref p),some v2,some (.ref h.length),o3,o4] (h++[.lst (ar fd)])/\aG ps ts ps.length=fd.reverse:=by
 obtain ⟨e',h',r1,v2,o3,o4,se,fd,rfl,rfl,c,f,_⟩:=gr (w:=none) (all:=eG (ps.length:Int) 0) (t:=.nm 3) (b:=gO) (xs:=eG (ps.length:Int) 0) (en:=[some (.ref p),some v,some (.ref h.length),none,none]) (h:=h++[.lst []])
  (λj en hh=>∃ v2 o3 o4 se fd,en=[some (.ref p),some v2,some (.ref h.length),o3,o4]/\hh=h++[.lst (ar fd)]/\Cl ps ts se j/\Fb ps ts fd j/\Lt h v2 se)
  ⟨v,none,none,ts,[],rfl,rfl,⟨λn h=>.inl h,λn h=>h,λi a b hi r e=>by have:=(JA.mp e).1;lia,by lia⟩,⟨λk hk=>by
   have:k=ps.length:=by lia
   subst this
   simp,JC _⟩,L⟩ (λ_ _ _ _=>rfl) (by
   rintro j x en hh hx ⟨v2,o3,o4,se,fd,rfl,rfl,c,f,L2⟩
   obtain ⟨k,hj,rfl⟩:=Ho hx
   obtain ⟨v3,q4,se2,fd2,b,c2,f2,L3⟩:=Ht (o4:=o4) S g c f L2 hj lt hz
   show thn (gO [some (.ref p),some v2,some (.ref h.length),some (.int ((k+1:Nat):Int)),o4] (h++[.lst (ar fd)])) _
   rw [b]
   exact ⟨_,_,_,se2,fd2,rfl,rfl,c2,f2,L3⟩)
 rw [Hq] at f
 refine ⟨v2,o3,o4,fd,r1,?_⟩
 rw [f.eq 0 (by lia)]
 rfl
theorem tN {h:AH} {p:Nat} {ps:List Pc} {ts:List Nat} {v:AV} (S:ShelfAt h p ps) (g:Good ps) (L:Lt h v ts) (lt:ts.length<=1000000) (hz:ps.length<=1000000):∃ r:AH,fg [.ref p,v] h = .ok (.fl (ar (aG ps ts ps.length))) (h++r):=by
 obtain ⟨v2,o3,o4,fd,lp,eq⟩:=Hu S g L lt hz
 have m:=sv (S.app [.lst []])
 have ob:=(S.app [.lst []]).ob
 have it:j6 (aL 0 iU (ae 0) af) (ah (.int 0)) (cW cP (ah (.int 1))) [some (.ref p),some v,some (.ref h.length),none,none] (h++[.lst []]) = .ok (eG (ps.length:Int) 0,none) (h++[.lst []]):=by
  have b:(ps.length:Int).natAbs<2 ^ 40/\(0:Int).natAbs<2 ^ 40/\(-1:Int) = -1:=⟨by lia,by decide,rfl⟩
  generalize h++[AO.lst []]=H1 at *
  generalize (ps.length:Int)=M at *
  simp [j6,ob,m]
  exact b.1
 have eF:(h++[AO.lst (ar fd)])[h.length]? = some (.lst (ar fd)):=by simp
 have rv:nP (ae 2) (cW cP (ah (.int 1))) [some (.ref p),some v2,some (.ref h.length),o3,o4] (h++[.lst (ar fd)]) = .ok (.fl (ar (aG ps ts ps.length))) (h++[.lst (ar fd)]):=by
  rw [eq,show ar fd.reverse=(ar fd).reverse by simp]
  generalize h++[AO.lst (ar fd)]=H2 at *
  simp [eF]
 have fr:=gP (t:=.nm 3) (b:=gO) it
 rw [lp] at fr
 refine ⟨[.lst (ar fd)],?_⟩
 have ls:df af [some (.ref p),some v,none,none,none] h = .ok (.ref h.length) (h++[.lst []]):=rfl
 unfold fg
 generalize aV (j6 (aL 0 iU (ae 0) af) (ah (.int 0)) (cW cP (ah (.int 1)))) (.nm 3) gO=FF at *
 generalize nP (ae 2) (cW cP (ah (.int 1)))=RV at *
 generalize df af=LM at *
 generalize h++[AO.lst (ar fd)]=H2 at *
 generalize h++[AO.lst []]=H1 at *
 simp [ls,fr,rv]
end Sk
namespace Sk
open PySem PySem.Spec L2 Sm
noncomputable def Pc.pd:Pc->PyData
 | .leaf x=>.tuple [.str "leaf",.str x]
 | .fork a b=>.tuple [.str "fork",.int a,.int b]
theorem Hv {h:AH} {n:Nat} {xs:List AV} {ds:List PyData} {k:Nat} (e:h[k]? = some (.lst xs)) (d:bH (bp n h) xs=some ds):bp (n+1) h (.ref k)=some (.list ds):=by
 simp [bp,e,d]
theorem Hw {h:AH} {n:Nat} {xs:List AV} {ds:List PyData} (d:bH (bp n h) xs=some ds):bp (n+1) h (.fl xs)=some (.list ds):=by
 simp [bp,d]
theorem yS {a b:AV} {h:AH} (ha:(∃ l,a = .fl l)\/∃ n,a = .ref n) {ds:List PyData} (d1:bp 8 h a=some (.list ds)) (d2:bp 8 h b=some (.list ds)) (r:PyData.eqvAll ds ds=true):gY a b h=some true:=by
 have:gY a b h=(match bp 8 h a,bp 8 h b with | some d,some e=>some (PyData.eqv d e) | _,_=>none):=by
  rcases ha with ⟨l,rfl⟩ | ⟨n,rfl⟩<;>cases b<;>rfl
 rw [this,d1,d2]
 show some (PyData.eqv (.list ds) (.list ds))=_
 rw [PyData.eqv,r]
theorem jH {a b:AV} {h:AH} (ha:(∃ l,a = .fl l)\/∃ n,a = .ref n) {ds:List PyData} (d1:bp 8 h a=some (.list ds)) (d2:bp 8 h b=some (.list ds)) (r:PyData.eqvAll ds ds=true):cB a b h = .ok (.bl false) h:=by
 have:=yS ha d1 d2 r
 unfold cB;rw [this];rfl
theorem tP {a b:AV} {h:AH} (ha:(∃ l,a = .fl l)\/∃ n,a = .ref n) {ds:List PyData} (d1:bp 8 h a=some (.list ds)) (d2:bp 8 h b=some (.list ds)) (r:PyData.eqvAll ds ds=true):aS a b h = .ok (.bl true) h:=by
 have:=yS ha d1 d2 r
 unfold aS;rw [this]
theorem mB (h:AH) (l:List Nat):bp 8 h (.fl (ar l))=some (.list (l.map λn:Nat=>PyData.int n)):=Hw (n:=7) (mv 7 h l)
theorem oS {h:AH} {Y:Nat} {l:List Nat} (e:h[Y]? = some (.lst (ar l))):bp 8 h (.ref Y)=some (.list (l.map λn:Nat=>PyData.int n)):=Hv (n:=7) e (mv 7 h l)
theorem mC:∀ l:List Nat,PyData.eqvAll (l.map λn:Nat=>PyData.int n) (l.map λn:Nat=>PyData.int n)=true
 | []=>by simp [PyData.eqvAll]
 | n::l=>by rw [J8];simp [PyData.eqvAll,PyData.eqv,mC l]
theorem Lt.d {h:AH} {v:AV} {ts:List Nat} (L:Lt h v ts):bp 8 h v=some (.list (ts.map λn:Nat=>PyData.int n)):=by
 rcases L with rfl | ⟨n,rfl,e⟩
 ·exact mB h ts
 ·exact oS e
end Sk
namespace Sk
open PySem PySem.Spec L2 Sm
theorem Hx {h h':AH} (k:∀ i,i<h.length->h'[i]? = h[i]?) (l:h.length<=h'.length):∃ r,h'=h++r:=by
 refine ⟨h'.drop h.length,Mt λi=>?_⟩
 by_cases q:i<h.length
 ·rw [k i q,JE q]
 ·rw [J7 (by lia),Kf]
  congr 1
  lia
theorem yT {h:AH} {R:Nat} {l:List AV} {en:En} {i:Nat} (ei:en[i]? = some (some (.ref R))) (e:h[R]? = some (.lst l)):dy "list" (ae i) en h = .ok (.bl true) h:=by
 simp [ei,nq,e]
theorem yU {h:AH} {p:Nat} {ps:List Pc} {ts:List Nat} {v:AV} (S:ShelfAt h p ps) (g:Good ps) (L:Lt h v ts) (ht:∀ n∈ts,n<=ps.length) (lt:ts.length<=900000) (hz:ps.length<=900000):∃ r:AH,lN [.ref p,v] h = .ok (.bl true) (h++r):=by
 have p8:p+8<h.length:=bY S.h8
 obtain ⟨r1,f1⟩:=tN S g L (by lia) (by lia)
 have S1:=S.app r1
 have L1:=L.app r1
 have l1:h.length<=(h++r1).length:=by simp
 have k1:∀ i,i<h.length->(h++r1)[i]? = h[i]? := λi hi=>JE hi
 generalize h++r1=h1 at *
 have f4:jO [v] h1 = .ok (.fl (ar ts)) h1:=by
  rcases L1 with rfl | ⟨n,rfl,e⟩
  ·rfl
  ·simp only [jO,e]
 obtain ⟨r2,l2,f5⟩:=oR S1 g (.inl rfl:Lt h1 (.fl (ar ts)) ts) ht (by lia) (by lia)
 have lU:(aG ps ts ps.length).length<=ps.length:=yN _
 obtain ⟨U,eU⟩:∃ U,U=aG ps ts ps.length:=⟨_,rfl⟩
 rw [<- eU] at f1 f5 lU
 have lR:(h1++r2).length=h1.length+2:=by rw [JJ,l2]
 have eR:(h1++r2++[AO.lst (ar U)])[h1.length+2]? = some (.lst (ar U)):=by rw [<- lR];simp
 have k2:∀ i,i<h1.length->(h1++r2++[AO.lst (ar U)])[i]? = h1[i]? := λi hi=>by rw [JM];exact JE hi
 have n2:(h1++r2++[AO.lst (ar U)]).length=h1.length+3:=by rw [JJ,lR];rfl
 obtain ⟨R,hR'⟩:∃ R,R=h1.length+2:=⟨_,rfl⟩
 rw [<- hR'] at f5 eR
 generalize h1++r2++[AO.lst (ar U)]=h2 at *
 have S2:ShelfAt h2 p ps:=S1.keep λi _ b=>k2 i (by lia)
 have L2:Lt h2 v ts:=L1.keep k2
 have c1:cB (.ref R) (.fl (ar U)) h2 = .ok (.bl false) h2:=jH (.inr ⟨_,rfl⟩) (oS eR) (mB h2 _) (mC _)
 have c2:cB (.fl (ar ts)) v h2 = .ok (.bl false) h2:=jH (.inl ⟨_,rfl⟩) (mB h2 ts) L2.d (mC ts)
 have ty:=yT (en:=[some (.ref p),some v,some (.fl (ar U)),some (.fl (ar ts)),some (.ref R)]) (i:=4) rfl eR
 have il:bo (.ref R) h2=true:=by simp only [bo,cf,eR];rfl
 have ap:bJ (.ref R) [.int 0] h2 = .ok .non (h2.set R (.lst (ar U++[AV.int 0]))):=by
  have sz:(ar U).length<sizeLine:=by
   rw [JN]
   exact J9 (m:=900000) (by lia) (by decide)
  simp only [bJ,eR]
  rw [JG sz]
 have eR3:(h2.set R (.lst (ar U++[AV.int 0])))[R]? = some (.lst (ar U++[AV.int 0])):=J0 (bY eR)
 have n3:(h2.set R (.lst (ar U++[AV.int 0]))).length=h2.length:=MJ
 have k3:∀ i,i<h1.length->(h2.set R (.lst (ar U++[AV.int 0])))[i]? = h2[i]? := λi hi=>JX (by lia)
 generalize h2.set R (.lst (ar U++[AV.int 0]))=h3 at *
 have il3:bo (.ref R) h3=true:=by simp only [bo,cf,eR3];rfl
 have rv:jW (.ref R) [] h3 = .ok .non (h3.set R (.lst (ar U++[AV.int 0]).reverse)):=by simp only [jW,eR3]
 have n4:(h3.set R (.lst (ar U++[AV.int 0]).reverse)).length=h3.length:=MJ
 have k4:∀ i,i<h1.length->(h3.set R (.lst (ar U++[AV.int 0]).reverse))[i]? = h3[i]? := λi hi=>JX (by lia)
 generalize h3.set R (.lst (ar U++[AV.int 0]).reverse)=h4 at *
 have k14:∀ i,i<h1.length->h4[i]? = h1[i]? := λi hi=>(k4 i hi).trans ((k3 i hi).trans (k2 i hi))
 have S4:ShelfAt h4 p ps:=S1.keep λi _ b=>k14 i (by lia)
 obtain ⟨r5,l5,f6⟩:=oR S4 g (.inl rfl:Lt h4 (.fl (ar ts)) ts) ht (by lia) (by lia)
 rw [<- eU] at f6
 have lR5:(h4++r5).length=h4.length+2:=by rw [JJ,l5]
 have eR5:(h4++r5++[AO.lst (ar U)])[h4.length+2]? = some (.lst (ar U)):=by rw [<- lR5];simp
 have k5:∀ i,i<h4.length->(h4++r5++[AO.lst (ar U)])[i]? = h4[i]? := λi hi=>by rw [JM];exact JE hi
 have n5:(h4++r5++[AO.lst (ar U)]).length=h4.length+3:=by rw [JJ,lR5];rfl
 have c3:aS (.ref (h4.length+2)) (.fl (ar U)) (h4++r5++[AO.lst (ar U)]) = .ok (.bl true) (h4++r5++[AO.lst (ar U)]):=tP (.inr ⟨_,rfl⟩) (oS eR5) (mB _ _) (mC _)
 generalize h4++r5++[AO.lst (ar U)]=h5 at *
 obtain ⟨r,er⟩:=Hx (h:=h) (h' := h5) (λi hi=>(k5 i (by lia)).trans ((k14 i (by lia)).trans (k1 i hi))) (by lia)
 refine ⟨r,?_⟩
 rw [<- er]
 generalize ar U=VU at *
 generalize ar ts=VT at *
 generalize h4.length+2=R5 at *
 unfold lN
 generalize fg=G1 at *
 generalize gp=G2 at *
 generalize dy "list" (ae 4)=SB at *
 simp [f1,f4,f5,ty,c1,c2,il,ap,il3,rv,f6,c3,-jO,-cB,-aS,-bo,-bJ,-jW]
end Sk
namespace Sk
open PySem PySem.Spec L2 Sm
theorem Hy {ps:List Pc} (g:Good ps) {i a b k:Nat} (e:ps[i]? = some (.fork a b)) (r:Rea ps [i+1] k):k=i+1\/Rea ps [a] k\/Rea ps [b] k:=by
 have fl:=kh g e
 induction r with
 | top h z=>exact .inl (JP.mp h)
 | @one j a' b' r' e' ih =>
  rcases ih with q | q | q
  ·have:j=i:=by lia
   subst this
   rw [e] at e'
   cases e'
   exact .inr (.inl (.top (JP.mpr rfl) (by lia)))
  ·exact .inr (.inl (.one q e'))
  ·exact .inr (.inr (.one q e'))
 | @two j a' b' r' e' ih =>
  rcases ih with q | q | q
  ·have:j=i:=by lia
   subst this
   rw [e] at e'
   cases e'
   exact .inr (.inr (.top (JP.mpr rfl) (by lia)))
  ·exact .inr (.inl (.two q e'))
  ·exact .inr (.inr (.two q e'))
theorem Hz {ps:List Pc} {i k:Nat} {y:Str} (e:ps[i]? = some (.leaf y)) (r:Rea ps [i+1] k):k=i+1:=by
 induction r with
 | top h z=>exact JP.mp h
 | @one j a' b' r' e' ih =>
  have:j=i:=by lia
  subst this
  rw [e] at e'
  cases e'
 | @two j a' b' r' e' ih =>
  have:j=i:=by lia
  subst this
  rw [e] at e'
  cases e'
theorem tQ {ps:List Pc} (g:Good ps):∀ (d n:Nat) {m f l:Ms} {x:Str},n<=d->Tx ps n m x f l->∃ L:List Nat,(∀ k,Rea ps [n] k->k∈L)/\L.length+1<=2*x.length
 | 0,n,m,f,l,x,hd,T=>by have:=T.n1;lia
 | d+1,n,m,f,l,x,hd,T=>by
  obtain ⟨i,rfl⟩:∃ i,n=i+1:=⟨n-1,by have:=T.n1;lia⟩
  have hi:i<ps.length:=by have:=T.le;lia
  have e:ps[i]? = some (ps[i]'hi):=by simp
  generalize ps[i]'hi=q at e
  cases q with
  | leaf y =>
   refine ⟨[i+1],λk r=>JP.mpr (Hz e r),?_⟩
   have sg:=T.ky.sg
   have f1:=T.ky.f1
   have:1<=m.sg:=by
    obtain ⟨k,c | c⟩:=T.ky.cnt
    ·lia
    ·lia
   simp
   lia
  | fork a b =>
   have fl:=kh g e
   obtain ⟨ma,xa,fa,la,A⟩:=g.tx a fl.1 (by lia)
   obtain ⟨mb,xb,fb,lb,B⟩:=g.tx b fl.2.2.1 (by lia)
   have F:=kg g e A B
   have ex:x=xa++xb:=Kp (T.rd.symm.trans F.rd)
   obtain ⟨La,ha,ca⟩:=tQ g d a (by lia) A
   obtain ⟨Lb,hb,cb⟩:=tQ g d b (by lia) B
   refine ⟨(i+1)::(La++Lb),λk r=>?_,?_⟩
   ·rcases Hy g e r with q | q | q
    ·rw [q];exact .head _
    ·exact .tail _ (JO _ (ha k q))
    ·exact .tail _ (JW _ (hb k q))
   ·rw [ex,bP,Kj,JJ]
    lia
theorem mD {ps:List Pc} {ts:List Nat} (k:Nat):(aG ps ts k).Nodup:=(ki k).imp λh=>by lia
theorem HA {ps:List Pc} (g:Good ps) {n:Nat} {x:Str} (T:TxZ ps n x) (hx:x.length<=40) (N:Nat):(aG ps [n] N).length<=80:=by
 rcases T with ⟨rfl,_⟩ | ⟨m,f,l,T⟩
 ·have no:∀ k,¬Rea ps [0] k:=λk r=>by
   induction r with
   | top h z=>exact z (JP.mp h)
   | one _ _ ih=>exact ih
   | two _ _ ih=>exact ih
  have:aG ps [0] N=[]:=List.eq_nil_iff_forall_not_mem.mpr λk hk=>no k (za5.mp hk).2.2
  rw [this]
  exact Ki _
 ·obtain ⟨L,hL,cL⟩:=tQ g n n (JC _) T
  have:(aG ps [n] N).length<=L.length:=(mD N).length_le_of_subset λk hk=>hL k (za5.mp hk).2.2
  lia
def cu (ps:List Pc) (a b:Nat):List Nat:=(aG ps [a] ps.length).filter λk=>decide (k∈aG ps [b] ps.length)
theorem HB (ps:List Pc) (a b:Nat):cu ps a b=cu ps b a:=by
 have so:∀ a b,((cu ps a b).map λn:Nat=>(n:Int)).Pairwise (· <= ·):=λa b=>by
  rw [MZ]
  exact ((ki ps.length).filter _).imp λh=>by lia
 have pm:(cu ps a b).Perm (cu ps b a):=(Mv ((mD _).filter _) ((mD _).filter _)).mpr λk=>by
  rw [Lm,Lm,Kn,Kn]
  exact And.comm
 have:=j4 (pm.map λn:Nat=>(n:Int)) (so a b) (so b a)
 exact (List.map_inj_right λx y h=>by lia).mp this
theorem HC (U V:List Nat):(U.map λn:Nat=>(n:Int)).filter (λk=>decide (k∈V.map λn:Nat=>(n:Int)))=(U.filter λk=>decide (k∈V)).map λn:Nat=>(n:Int):=by
 rw [List.filter_map]
 congr 1
 refine List.filter_congr λk _=>?_
 have:((k:Int)∈V.map λn:Nat=>(n:Int)) ↔ k∈V:=by
  rw [Me]
  exact ⟨λ⟨m,hm,e⟩=>by
   have:m=k:=by lia
   exact this▸hm,λh=>⟨k,h,rfl⟩⟩
 simp only [Function.comp_apply,this]
theorem yV {U:List Nat} (h:U.Nodup):(U.map λn:Nat=>(n:Int)).Nodup:=by
 unfold List.Nodup at *
 rw [MZ]
 exact h.imp λq z=>q (by lia)
theorem HD {h:AH} {p:Nat} {ps:List Pc} {a b:Nat} (S:ShelfAt h p ps) (g:Good ps) (ha:a<=ps.length) (hb:b<=ps.length) (la:(aG ps [a] ps.length).length<=80) (lb:(aG ps [b] ps.length).length<=80) (hz:ps.length<=900000) :
  ∃ (R:Nat) (r:AH),lO [.ref p,.int a,.int b] h = .ok (.ref R) (h++r)/\(h++r)[R]? = some (.lst (ar (cu ps a b)))/\h.length<=R:=by
 obtain ⟨r1,l1,f1⟩:=oR S g (.inl rfl:Lt h (.fl (ar [a])) [a]) (λn hn=>by rw [JP.mp hn];exact ha) (by simp) (by lia)
 obtain ⟨U,eU⟩:∃ U,U=aG ps [a] ps.length:=⟨_,rfl⟩
 rw [<- eU] at f1
 have f1':gp [.ref p,.fl [.int a]] h = .ok (.ref (h.length+2)) (h++r1++[.lst (ar U)]):=f1
 have n1:(h++r1++[AO.lst (ar U)]).length=h.length+3:=by rw [JJ,JJ,l1];rfl
 have e1:(h++r1++[AO.lst (ar U)])[h.length+2]? = some (.lst (ar U)):=by
  have:(h++r1).length=h.length+2:=by rw [JJ,l1]
  rw [<- this];simp
 have S1:ShelfAt (h++r1++[AO.lst (ar U)]) p ps:=(S.app r1).app _
 have x1:h++r1++[AO.lst (ar U)]=h++(r1++[.lst (ar U)]):=JM ..
 generalize r1++[AO.lst (ar U)]=t1 at *
 generalize h++r1++[AO.lst (ar U)]=h1 at *
 obtain ⟨r2,l2,f2⟩:=oR S1 g (.inl rfl:Lt h1 (.fl (ar [b])) [b]) (λn hn=>by rw [JP.mp hn];exact hb) (by simp) (by lia)
 obtain ⟨V,eV⟩:∃ V,V=aG ps [b] ps.length:=⟨_,rfl⟩
 rw [<- eV] at f2
 have f2':gp [.ref p,.fl [.int b]] h1 = .ok (.ref (h1.length+2)) (h1++r2++[.lst (ar V)]):=f2
 have n2:(h1++r2++[AO.lst (ar V)]).length=h1.length+3:=by rw [JJ,JJ,l2];rfl
 have e2:(h1++r2++[AO.lst (ar V)])[h1.length+2]? = some (.lst (ar V)):=by
  have:(h1++r2).length=h1.length+2:=by rw [JJ,l2]
  rw [<- this];simp
 have e1':(h1++r2++[AO.lst (ar V)])[h.length+2]? = some (.lst (ar U)):=by
  rw [JM,JE (by lia)];exact e1
 have x2:h1++r2++[AO.lst (ar V)]=h++(t1++(r2++[.lst (ar V)])):=by rw [x1];simp [JM]
 generalize r2++[AO.lst (ar V)]=t2 at *
 generalize h1++r2++[AO.lst (ar V)]=h2 at *
 have sa:j7 3 4 [some (.ref p),some (.int a),some (.int b),some (.ref (h.length+2)),some (.ref (h1.length+2))] h2 = .ok (.ref h2.length) (h2++[.lst (ar (cu ps a b))]):=by
  have i1:fD [some (AV.ref p),some (.int a),some (.int b),some (.ref (h.length+2)),some (.ref (h1.length+2))][3]? h2=some (U.map λn:Nat=>(n:Int)):=by
   show (cf (.ref (h.length+2)) h2).bind gL=_
   simp only [cf,e1']
   exact oQ U
  have i2:fD [some (AV.ref p),some (.int a),some (.int b),some (.ref (h.length+2)),some (.ref (h1.length+2))][4]? h2=some (V.map λn:Nat=>(n:Int)):=by
   show (cf (.ref (h1.length+2)) h2).bind gL=_
   simp only [cf,e2]
   exact oQ V
  unfold j7
  rw [i1,i2]
  dsimp only
  rw [JG ⟨yV (eU▸mD _),yV (eV▸mD _),by rw [JN,eU];lia,by rw [JN,eV];lia⟩,HC]
  have es:(U.filter λk=>decide (k∈V))=cu ps a b:=by rw [eU,eV];rfl
  rw [es]
  have:gi ((cu ps a b).map λn:Nat=>(n:Int))=(cu ps a b).map λn:Nat=>(n:Int):=j4 (k9 _) (lg _) (by
   rw [MZ]
   exact ((ki ps.length).filter _).imp λh=>by lia)
  rw [this,Md]
  rfl
 refine ⟨h2.length,t1++t2++[.lst (ar (cu ps a b))],?_,?_,by lia⟩
 ·have:h++(t1++t2++[AO.lst (ar (cu ps a b))])=h2++[.lst (ar (cu ps a b))]:=by rw [x2];simp [JM]
  rw [this]
  generalize h2++[AO.lst (ar (cu ps a b))]=h3 at *
  generalize h.length+2=R1 at *
  generalize h1.length+2=R2 at *
  generalize h2.length=R3 at *
  unfold lO
  generalize gp=G at *
  generalize j7 3 4=SA at *
  simp [f1',f2',sa]
 ·have:h++(t1++t2++[AO.lst (ar (cu ps a b))])=h2++[.lst (ar (cu ps a b))]:=by rw [x2];simp [JM]
  rw [this]
  simp
end Sk
namespace Sk
open PySem PySem.Spec L2 Sm
theorem HE {y:Str} {b e:Nat} (py:bj y=true) (be:b<=e) (ey:e<=y.length):bj (bt y (some (b:Int)) (some (e:Int)))=true/\(bt y (some (b:Int)) (some (e:Int))).length<=y.length:=by
 have c:=yA (y:=y) be
 constructor
 ·unfold bj at py ⊢
  rw [c]
  rw [KH] at py ⊢
  exact λx hx=>py x (K9 (Lc hx))
 ·rw [dJ,c,Kr,KG,dJ y]
  lia
theorem yW {ps:List Pc} {n:Nat} {y:Str} (t:TxZ ps n y):n<=ps.length:=by
 rcases t with ⟨rfl,_⟩ | ⟨m,f,l,T⟩
 ·exact Ki _
 ·exact T.le
structure Lw (hh:AH) (ps:List Pc) (T L:Nat) (tl:List Nat):Prop where
 sh:ShelfAt hh 0 ps
 gd:Good ps
 tx:hh[T]? = some (.lst (ar tl))
 le:∀ n∈tl,∃ x,TxZ ps n x/\x.length<=40
 st:∃ N:Int,hh[L]? = some (.lst [.int N])
noncomputable abbrev eX (o1:Option AV) (y:Str) (T L:Nat) (o5 o6 o7:Option AV):En:=[some (.ref 0),o1,some (.str y),some (.ref T),some (.ref L),o5,o6,o7]
theorem HF {hh:AH} {ps:List Pc} {T L:Nat} {tl:List Nat} {y:Str} {o1 o5 o6 o7:Option AV} (w:Lw hh ps T L tl) (hT:8<T) (hL:8<L) (hTL:T≠L) (py:bj y=true) (ly:y.length<=40) (hz:ps.length<=500000) (lt:tl.length<=10) :
  ∃ q6 q7 h2 ps2 n,jA (eX o1 y T L o5 o6 o7) hh = .nx (eX o1 y T L o5 q6 q7) h2/\Lw h2 ps2 T L (tl++[n])/\ps2.length<=ps.length+60000:=by
 obtain ⟨N,eN⟩:=w.st
 have Ll:=bY eN
 obtain ⟨b,N1,hb,t1⟩:=iz (y.length+1) eN (by lia) (JI (m:=41) (by lia) (by decide))
 have t1':cq [.ref L,.int ((y.length:Int)+1)] hh = .ok (.int b) (hh.set L (.lst [.int N1])):=t1
 have e1:(hh.set L (.lst [.int N1]))[L]? = some (.lst [.int N1]):=J0 Ll
 have S1:ShelfAt (hh.set L (.lst [.int N1])) 0 ps:=w.sh.keep λi _ b=>JX (by lia)
 have x1:(hh.set L (.lst [.int N1]))[T]? = some (.lst (ar tl)):=by rw [JX (λe=>hTL e.symm)];exact w.tx
 generalize hh.set L (.lst [.int N1])=h1 at *
 have L1:=bY e1
 obtain ⟨c,N2,hc,t2⟩:=iz (y.length+1-b) e1 (by lia) (JI (m:=41) (by lia) (by decide))
 have t2':cq [.ref L,.int ((y.length:Int)+1-b)] h1 = .ok (.int c) (h1.set L (.lst [.int N2])):=by
  have q:((y.length+1-b:Nat):Int)=(y.length:Int)+1-b:=by lia
  rw [<- q];exact t2
 have e2:(h1.set L (.lst [.int N2]))[L]? = some (.lst [.int N2]):=J0 L1
 have S2:ShelfAt (h1.set L (.lst [.int N2])) 0 ps:=S1.keep λi _ b=>JX (by lia)
 have x2:(h1.set L (.lst [.int N2]))[T]? = some (.lst (ar tl)):=by rw [JX (λe=>hTL e.symm)];exact x1
 generalize h1.set L (.lst [.int N2])=h2 at *
 obtain ⟨pc,lc⟩:=HE (b:=b) (e:=b+c) py (by lia) (by lia)
 have ct:cD (ae 2) (some (ae 6)) (some (ae 7)) [some (.ref 0),o1,some (.str y),some (.ref T),some (.ref L),o5,some (.int (b:Int)),some (.int ((b:Int)+(c:Int)))] h2 = .ok (.str (bt y (some (b:Int)) (some ((b+c:Nat):Int)))) h2:=by
  rw [show ((b+c:Nat):Int)=(b:Int)+(c:Int) by lia]
  rfl
 generalize bt y (some (b:Int)) (some ((b+c:Nat):Int))=z at *
 obtain ⟨n,ps2,h3,f3,G,tz,N3,e3⟩:=yM S2 w.gd (show 0+8<L by lia) ⟨N2,e2⟩ pc (by lia) (by lia)
 have x3:h3[T]? = some (.lst (ar tl)):=(G.fr T (.inr (by lia)) (by simp;exact hTL) (bY x2)).trans x2
 have ap:bJ (.ref T) [.int n] h3 = .ok .non (h3.set T (.lst (ar (tl++[n])))):=by
  have q:(ar tl).length<sizeLine:=by rw [JN];exact J9 lt (by decide)
  simp only [bJ,x3]
  rw [JG q]
  simp
 have il:bo (.ref T) h2=true:=by simp only [bo,cf,x2];rfl
 have il3:bo (.ref T) h3=true:=by simp only [bo,cf,x3];rfl
 have pl:=G.pre.length_le
 refine ⟨some (.int b),some (.int ((b:Int)+(c:Int))),h3.set T (.lst (ar (tl++[n]))),ps2,n,?_,⟨G.sh.keep λi _ b=>JX (by lia),G.gd,J0 (bY x3),λm hm=>?_,N3,?_⟩,G.len⟩
 ·simp only [eX]
  unfold jA
  generalize cD (ae 2) (some (ae 6)) (some (ae 7))=CT at *
  generalize h3.set T (.lst (ar (tl++[n])))=H4 at *
  simp [t1',t2',ct,f3,il,il3,ap,-bo,-bJ]
 ·rcases JS.mp hm with hm | hm
  ·obtain ⟨x,tx,lx⟩:=w.le m hm
   exact ⟨x,tx.pre G.pre,lx⟩
  ·rw [JP.mp hm];exact ⟨z,tz,by lia⟩
 ·rw [JX hTL];exact e3
theorem HG {h0:AH} {ps:List Pc} {T L:Nat} {tl:List Nat} {y:Str} {o1:Option AV} (w:Lw h0 ps T L tl) (hT:8<T) (hL:8<L) (hTL:T≠L) (py:bj y=true) (ly:y.length<=40) (hz:ps.length<=60000) (lt:tl.length=2) :
  ∃ q5 q6 q7 h2 ps2 tl2,aV (dw (ah (.int 3))) (.nm 5) jA (eX o1 y T L none none none) h0 = .nx (eX o1 y T L q5 q6 q7) h2/\Lw h2 ps2 T L tl2/\ps2.length<=240000/\tl2.length=5:=by
 have it:=kb (a:=ah (.int 3)) (en:=eX o1 y T L none none none) (h:=h0) (h1:=h0) (n:=3) rfl (by decide)
 obtain ⟨e',h',r1,q5,q6,q7,ps2,tl2,rfl,w2,l2,t2⟩:=gr (w:=none) (all:=cC 0 3) (t:=.nm 5) (b:=jA) (xs:=cC 0 3) (en:=eX o1 y T L none none none) (h:=h0)
  (λj en hh=>∃ q5 q6 q7 ps2 tl2,en=eX o1 y T L q5 q6 q7/\Lw hh ps2 T L tl2/\ps2.length<=60000+60000*min j 3/\tl2.length=2+min j 3)
  ⟨none,none,none,ps,tl,rfl,w,by lia,by lia⟩ (λ_ _ _ _=>rfl) (by
   rintro j x en hh hx ⟨q5,q6,q7,ps2,tl2,rfl,w,l2,t2⟩
   have hj:j<3:=by have:=(JA.mp hx).1;rwa [jD] at this
   obtain ⟨p6,p7,h2,ps3,n,b,w3,l3⟩:=HF (o1:=o1) (o5:=some x) (o6:=q6) (o7:=q7) w hT hL hTL py ly (by lia) (by lia)
   show thn (jA (eX o1 y T L (some x) q6 q7) hh) _
   rw [b]
   exact ⟨_,_,_,ps3,_,rfl,w3,by lia,by rw [JJ,Ou];lia⟩)
 rw [jD] at l2 t2
 exact ⟨q5,q6,q7,h',ps2,tl2,(gP it).trans r1,w2,by lia,by lia⟩
theorem HH {ns:List Int} (hl:ns.length<=63):∃ (T L:Nat) (H:AH) (ps:List Pc) (tl:List Nat),og [.ref 0,.fl (ns.map AV.int)] (fo 0) = .ok (.ref T) H/\Lw H ps T L tl/\ps.length<=240000/\tl.length=5/\8<T:=by
 have S0:ShelfAt (fo 0) 0 []:=by have:=F4 [] [];simpa using this
 obtain ⟨N0,s0⟩:=oK ns hl 0 (by decide) (fo 0)
 have s0':eY [.fl (ns.map AV.int),.int 0] (fo 0) = .ok (.ref 9) (fo 0++[.lst [.int N0]]):=s0
 have e1:(fo 0++[AO.lst [.int N0]])[9]? = some (.lst [.int N0]):=rfl
 have n1:(fo 0++[AO.lst [.int N0]]).length=10:=rfl
 have S1:ShelfAt (fo 0++[AO.lst [.int N0]]) 0 []:=S0.app _
 generalize fo 0++[AO.lst [.int N0]]=H1 at *
 obtain ⟨y,N2,p2,py,ly⟩:=G6 40 (by decide) e1
 have p2':lC [.ref 9,.int 40] H1 = .ok (.str y) (H1.set 9 (.lst [.int N2])):=p2
 have S2:ShelfAt (H1.set 9 (.lst [.int N2])) 0 []:=S1.keep λi _ b=>JX (by lia)
 have n2:(H1.set 9 (.lst [.int N2])).length=10:=by rw [MJ,n1]
 generalize H1.set 9 (.lst [.int N2])=H2 at *
 obtain ⟨N3,s3⟩:=oK ns hl 1 (by decide) H2
 have s3':eY [.fl (ns.map AV.int),.int 1] H2 = .ok (.ref 10) (H2++[.lst [.int N3]]):=by rw [<- n2];exact s3
 have e3:(H2++[AO.lst [.int N3]])[10]? = some (.lst [.int N3]):=by rw [<- n2];simp
 have S3:ShelfAt (H2++[AO.lst [.int N3]]) 0 []:=S2.app _
 generalize H2++[AO.lst [.int N3]]=H3 at *
 obtain ⟨n,ps,H4,f4,G,tz,_⟩:=yM S3 .nil (show 0+8<10 by decide) ⟨N3,e3⟩ py ly (by decide)
 have gl:=G.len
 rw [KP,LJ] at gl
 have h8:=bY G.sh.h8
 obtain ⟨T,eT'⟩:∃ T,T=H4.length:=⟨_,rfl⟩
 have lm':df (aj (ah (.int 0)) (aj (aE iq (aj (ae 0) (aj (aE eY (aj (ae 1) (aj (ah (.int 1)) af))) (aj (ae 2) af)))) af)) [some (.ref 0),some (.fl (ns.map AV.int)),some (.str y),none,none,none,none,none] H2 = .ok (.ref T) (H4++[AO.lst (ar [0,n])]):=by
  rw [eT']
  generalize ns.map AV.int=V0 at *
  simp [s3',f4]
 have l5:(H4++[AO.lst (ar [0,n])]).length=T+1:=by rw [JJ,eT'];rfl
 have x5:(H4++[AO.lst (ar [0,n])])[T]? = some (.lst (ar [0,n])):=by rw [eT'];simp
 have S5:ShelfAt (H4++[AO.lst (ar [0,n])]) 0 ps:=G.sh.app _
 generalize H4++[AO.lst (ar [0,n])]=H5 at *
 obtain ⟨N6,s6⟩:=oK ns hl 2 (by decide) H5
 rw [l5] at s6
 have s6':eY [.fl (ns.map AV.int),.int 2] H5 = .ok (.ref (T+1)) (H5++[.lst [.int N6]]):=s6
 have w:Lw (H5++[.lst [.int N6]]) ps T (T+1) [0,n]:=by
  refine ⟨S5.app _,G.gd,by rw [JE (by lia)];exact x5,λm hm=>?_,N6,by rw [<- l5];simp⟩
  rcases J4.mp hm with rfl | hm
  ·exact ⟨"",.inl ⟨rfl,rfl⟩,by decide⟩
  ·rw [JP.mp hm];exact ⟨y,tz,ly⟩
 generalize H5++[AO.lst [.int N6]]=H6 at *
 obtain ⟨q5,q6,q7,H7,ps7,tl,f7,w7,l7,t7⟩:=HG (o1:=some (.fl (ns.map AV.int))) w (by lia) (by lia) (by lia) py ly gl rfl
 refine ⟨T,T+1,H7,ps7,tl,?_,w7,l7,t7,by lia⟩
 simp only [eX] at f7
 generalize ns.map AV.int=V0 at *
 unfold og
 generalize df (aj (ah (.int 0)) (aj (aE iq (aj (ae 0) (aj (aE eY (aj (ae 1) (aj (ah (.int 1)) af))) (aj (ae 2) af)))) af))=LM at *
 generalize aV (dw (ah (.int 3))) (.nm 5) jA=FA at *
 generalize fo 0=H0 at *
 simp [s0',p2',lm',s6',f7]
end Sk
namespace Sk
open PySem PySem.Spec L2 Sm
noncomputable abbrev eW (o0:Option AV) (T:Nat) (M:Int) (L:Nat) (o5 o6:Option AV):En:=[o0,some (.ref 0),some (.ref T),some (.int M),some (.ref L),o5,o6,none,none,none,none,none]
theorem HJ {hh:AH} {ps:List Pc} {T L:Nat} {tl:List Nat} {M:Int} {o0 o5 o6:Option AV} (w:Lw hh ps T L tl) (hT:8<T) (hL:8<L) (hTL:T≠L) (hz:ps.length<=500000) (lt:tl.length<=10) (l1:1<=tl.length) :
  ∃ q6 h2,jB (eW o0 T M L o5 o6) hh = .nx (eW o0 T M L o5 q6) h2/\Lw h2 ps T L tl:=by
 obtain ⟨N,eN⟩:=w.st
 have Ll:=bY eN
 obtain ⟨k,N1,hk,t1⟩:=iz 6 eN (by decide) (by decide)
 have t1':cq [.ref L,.int 6] hh = .ok (.int k) (hh.set L (.lst [.int N1])):=t1
 have w1:Lw (hh.set L (.lst [.int N1])) ps T L tl:=⟨w.sh.keep λi _ b=>JX (by lia),w.gd,by rw [JX (λe=>hTL e.symm)];exact w.tx,w.le,N1,J0 Ll⟩
 generalize hh.set L (.lst [.int N1])=h1 at *
 have it:=kb (a:=aE cq (aj (ae 4) (aj (ah (.int 6)) af))) (en:=eW o0 T M L o5 o6) (h:=hh) (h1:=h1) (n:=k) (by simp [t1']) (by lia)
 obtain ⟨zs,h2,c,w2,l,rfl,hl⟩:=x4 (js:=[2,4]) (en:=eW o0 T M L o5 o6) (all:=cC 0 k) (e:=ai aC (ae 1) (aE cq (aj (ae 2) (aj (aE aP (aj (ae 1) af)) af)))) (xs:=cC 0 k) (h:=h1)
  (λj ys hh=>Lw hh ps T L tl/\∃ l,ys=ar l/\(∀ n∈l,n<=ps.length)/\l.length=j) ⟨w1,[],rfl,λn h=>(nomatch h),rfl⟩ (by
   rintro j x ys hh _ ⟨w,l,rfl,hl,ll⟩
   obtain ⟨N,eN⟩:=w.st
   obtain ⟨u,N2,hu,t2⟩:=iz tl.length eN (by lia) (JI (m:=10) lt (by decide))
   have lf:aP [.ref T] hh = .ok (.int tl.length) hh:=by simp [w.tx]
   have Ll:=bY eN
   have w3:Lw (hh.set L (.lst [.int N2])) ps T L tl:=⟨w.sh.keep λi _ b=>JX (by lia),w.gd,by rw [JX (λe=>hTL e.symm)];exact w.tx,w.le,N2,J0 Ll⟩
   generalize hh.set L (.lst [.int N2])=h3 at *
   have eu:tl[u]? = some (tl[u]'hu):=by simp
   have ix:aC (.ref T) (.int u) h3 = .ok (.int (tl[u]'hu:Nat)) h3:=by
    simp only [aC,w3.tx]
    rw [cK eu]
   have ee:ai aC (ae 1) (aE cq (aj (ae 2) (aj (aE aP (aj (ae 1) af)) af))) [some x,some (.ref T),some (.ref L)] hh = .ok (.int (tl[u]'hu:Nat)) h3:=by
    simp [lf,t2,ix,-aC,-aP]
   show xY (ai aC (ae 1) (aE cq (aj (ae 2) (aj (aE aP (aj (ae 1) af)) af))) [some x,some (.ref T),some (.ref L)] hh) _
   rw [ee]
   refine ⟨w3,l++[tl[u]'hu],by simp,λn hn=>?_,by simp [ll]⟩
   rcases JS.mp hn with hn | hn
   ·exact hl n hn
   ·rw [JP.mp hn];obtain ⟨x,tx,_⟩:=w.le _ (M7 hu);exact yW tx) (by rw [jD];exact JI (m:=6) (by lia) (by decide))
 rw [jD] at hl
 have cm:dF [2,4] (dw (aE cq (aj (ae 4) (aj (ah (.int 6)) af)))) bU (ai aC (ae 1) (aE cq (aj (ae 2) (aj (aE aP (aj (ae 1) af)) af)))) (eW o0 T M L o5 o6) hh = .ok (.fl (ar l)) h2:=by
  unfold dF
  rw [it]
  dsimp only
  rw [c]
 obtain ⟨r,fr⟩:=yU w2.sh w2.gd (.inl rfl:Lt h2 (.fl (ar l)) l) hl.1 (by lia) (by lia)
 refine ⟨some (.fl (ar l)),h2++r,?_,⟨w2.sh.app r,w2.gd,by rw [JE (bY w2.tx)];exact w2.tx,w2.le,?_⟩⟩
 ·simp only [eW] at *
  unfold jB
  generalize dF [2,4] (dw (aE cq (aj (ae 4) (aj (ah (.int 6)) af)))) bU (ai aC (ae 1) (aE cq (aj (ae 2) (aj (aE aP (aj (ae 1) af)) af))))=CM at *
  generalize ar l=V at *
  simp [cm,fr]
 ·obtain ⟨N,e⟩:=w2.st
  exact ⟨N,by rw [JE (bY e)];exact e⟩
theorem HK {h0:AH} {ps:List Pc} {T L:Nat} {tl:List Nat} {M:Int} {o0:Option AV} (w:Lw h0 ps T L tl) (hT:8<T) (hL:8<L) (hTL:T≠L) (hz:ps.length<=240000) (lt:tl.length=5) :
  ∃ q5 q6 h2,aV (dw (ah (.int 8))) (.nm 5) jB (eW o0 T M L none none) h0 = .nx (eW o0 T M L q5 q6) h2/\Lw h2 ps T L tl:=by
 have it:=kb (a:=ah (.int 8)) (en:=eW o0 T M L none none) (h:=h0) (h1:=h0) (n:=8) rfl (by decide)
 obtain ⟨e',h',r1,q8,q9,rfl,w2⟩:=gr (w:=none) (all:=cC 0 8) (t:=.nm 5) (b:=jB) (xs:=cC 0 8) (en:=eW o0 T M L none none) (h:=h0)
  (λj en hh=>∃ q8 q9,en=eW o0 T M L q8 q9/\Lw hh ps T L tl)
  ⟨none,none,rfl,w⟩ (λ_ _ _ _=>rfl) (by
   rintro j x en hh hx ⟨q8,q9,rfl,w⟩
   obtain ⟨p9,h2,b,w3⟩:=HJ (M:=M) (o0:=o0) (o5:=some x) (o6:=q9) w hT hL hTL (by lia) (by lia) (by lia)
   show thn (jB (eW o0 T M L (some x) q9) hh) _
   rw [b]
   exact ⟨_,_,rfl,w3⟩)
 exact ⟨q8,q9,h',(gP it).trans r1,w2⟩
theorem HL {N:Nat}:∃ l:List Nat,eG (N:Int) (-1)=ar l/\(∀ n∈l,n<=N)/\l.length=N+1:=by
 refine ⟨(List.range (N+1)).map λm=>N-m,?_,λn hn=>?_,by simp⟩
 ·unfold eG
  rw [show ((N:Int)-(-1)).toNat=N+1 by lia,ar,Md]
  refine LW λm hm=>?_
  have:=MQ.mp hm
  show AV.int ((N:Int)-m)=AV.int ((N-m:Nat):Int)
  congr 1
  lia
 ·obtain ⟨m,_,rfl⟩:=Me.mp hn
  lia
end Sk
namespace Sk
open PySem PySem.Spec L2 Sm
noncomputable abbrev eV (o0:Option AV) (T:Nat) (M:Int) (L:Nat) (o5 o6 o7 o8 o9 o10 o11:Option AV):En:=[o0,some (.ref 0),some (.ref T),some (.int M),some (.ref L),o5,o6,o7,o8,o9,o10,o11]
structure Ks (h h':AH):Prop where
 fr:∀ i,i<h.length->h'[i]? = h[i]?
 le:h.length<=h'.length
theorem Ks.trans {h h' h'':AH} (a:Ks h h') (b:Ks h' h''):Ks h h'' := ⟨λi hi=>(b.fr i (JZ hi a.le)).trans (a.fr i hi),JI a.le b.le⟩
theorem Ks.app {h:AH} (r:AH):Ks h (h++r):=⟨λi hi=>JE hi,by simp⟩
theorem Ks.sh {h h':AH} {ps:List Pc} (k:Ks h h') (S:ShelfAt h 0 ps):ShelfAt h' 0 ps:=S.keep λi _ b=>k.fr i (by have:=bY S.h8;lia)
theorem HM {hh:AH} {ps:List Pc} {a b T L:Nat} {M:Int} {o0 o5 o6 o9 o11:Option AV} (S:ShelfAt hh 0 ps) (g:Good ps) (ha:a<=ps.length) (hb:b<=ps.length) (la:(aG ps [a] ps.length).length<=80) (lb:(aG ps [b] ps.length).length<=80) (hz:ps.length<=900000) :
  ∃ q11 h2,jC (eV o0 T M L o5 o6 (some (.int a)) (some (.int b)) o9 (some (.fl (ar (cu ps a b)))) o11) hh = .nx (eV o0 T M L o5 o6 (some (.int a)) (some (.int b)) o9 (some (.fl (ar (cu ps a b)))) q11) h2/\Ks hh h2:=by
 obtain ⟨R,r,f,eR,lR⟩:=HD S g ha hb la lb hz
 have ls:(cu ps a b).length<=80:=JI (M5 _ _) la
 have k1:Ks hh (hh++r):=Ks.app r
 generalize cu ps a b=D at *
 generalize hh++r=h1 at *
 have c1:cB (.ref R) (.fl (ar D)) h1 = .ok (.bl false) h1:=jH (.inr ⟨_,rfl⟩) (oS eR) (mB h1 _) (mC _)
 have ty:=yT (en:=eV o0 T M L o5 o6 (some (.int a)) (some (.int b)) o9 (some (.fl (ar D))) (some (.ref R))) (i:=11) rfl eR
 have il:bo (.ref R) h1=true:=by simp only [bo,cf,eR];rfl
 have ap:bJ (.ref R) [.int 0] h1 = .ok .non (h1.set R (.lst (ar D++[AV.int 0]))):=by
  have sz:(ar D).length<sizeLine:=by
   rw [JN]
   exact J9 ls (by decide)
  simp only [bJ,eR]
  rw [JG sz]
 refine ⟨some (.ref R),h1.set R (.lst (ar D++[AV.int 0])),?_,⟨λi hi=>?_,?_⟩⟩
 ·generalize h1.set R (.lst (ar D++[AV.int 0]))=h2 at *
  generalize ar D=V at *
  simp only [eV] at *
  unfold jC
  generalize lO=G at *
  generalize dy "list" (ae 11)=SB at *
  simp [f,ty,c1,il,ap,-cB,-bo,-bJ]
 ·rw [JX (by lia)];exact k1.fr i hi
 ·rw [MJ];exact k1.le
theorem HN {h0:AH} {ps:List Pc} {a b T L:Nat} {M:Int} {o0 o5 o6 o9 o11:Option AV} (S:ShelfAt h0 0 ps) (g:Good ps) (ha:a<=ps.length) (hb:b<=ps.length) (la:(aG ps [a] ps.length).length<=80) (lb:(aG ps [b] ps.length).length<=80) (hz:ps.length<=900000) :
  ∃ q5 q11 h2,aV (dw (ah (.int 2))) (.nm 5) jC (eV o0 T M L o5 o6 (some (.int a)) (some (.int b)) o9 (some (.fl (ar (cu ps a b)))) o11) h0 = .nx (eV o0 T M L q5 o6 (some (.int a)) (some (.int b)) o9 (some (.fl (ar (cu ps a b)))) q11) h2/\Ks h0 h2:=by
 have it:=kb (a:=ah (.int 2)) (en:=eV o0 T M L o5 o6 (some (.int a)) (some (.int b)) o9 (some (.fl (ar (cu ps a b)))) o11) (h:=h0) (h1:=h0) (n:=2) rfl (by decide)
 obtain ⟨e',h',r1,q5,q11,rfl,k⟩:=gr (w:=none) (all:=cC 0 2) (t:=.nm 5) (b:=jC) (xs:=cC 0 2) (en:=eV o0 T M L o5 o6 (some (.int a)) (some (.int b)) o9 (some (.fl (ar (cu ps a b)))) o11) (h:=h0)
  (λj en hh=>∃ q5 q11,en=eV o0 T M L q5 o6 (some (.int a)) (some (.int b)) o9 (some (.fl (ar (cu ps a b)))) q11/\Ks h0 hh)
  ⟨o5,o11,rfl,⟨λ_ _=>rfl,JC _⟩⟩ (λ_ _ _ _=>rfl) (by
   rintro j x en hh hx ⟨q5,q11,rfl,k⟩
   obtain ⟨p11,h2,b2,k2⟩:=HM (o0:=o0) (T:=T) (M:=M) (L:=L) (o5:=some x) (o6:=o6) (o9:=o9) (o11:=q11) (k.sh S) g ha hb la lb hz
   show thn (jC (eV o0 T M L (some x) o6 (some (.int a)) (some (.int b)) o9 (some (.fl (ar (cu ps a b)))) q11) hh) _
   rw [b2]
   exact ⟨_,_,rfl,k.trans k2⟩)
 exact ⟨q5,q11,h',(gP it).trans r1,k⟩
theorem HP {hh:AH} {ps:List Pc} {a b T L:Nat} {M:Int} {o0 o5 o6 o9 o10 o11:Option AV} (S:ShelfAt hh 0 ps) (g:Good ps) (ha:a<=ps.length) (hb:b<=ps.length) (la:(aG ps [a] ps.length).length<=80) (lb:(aG ps [b] ps.length).length<=80) (hz:ps.length<=900000) :
  ∃ q5 q9 q10 q11 h2,lP (eV o0 T M L o5 o6 (some (.int a)) (some (.int b)) o9 o10 o11) hh = .nx (eV o0 T M L q5 o6 (some (.int a)) (some (.int b)) q9 q10 q11) h2/\Ks hh h2:=by
 obtain ⟨r1,f1⟩:=tN S g (.inl rfl:Lt hh (.fl (ar [a])) [a]) (by simp) (by lia)
 obtain ⟨U,eU⟩:∃ U,U=aG ps [a] ps.length:=⟨_,rfl⟩
 rw [<- eU] at f1
 have f1':fg [.ref 0,.fl [.int a]] hh = .ok (.fl (ar U)) (hh++r1):=f1
 have k1:Ks hh (hh++r1):=Ks.app r1
 generalize hh++r1=h1 at *
 obtain ⟨r2,f2⟩:=tN (k1.sh S) g (.inl rfl:Lt h1 (.fl (ar [b])) [b]) (by simp) (by lia)
 obtain ⟨V,eVV⟩:∃ V,V=aG ps [b] ps.length:=⟨_,rfl⟩
 rw [<- eVV] at f2
 have f2':fg [.ref 0,.fl [.int b]] h1 = .ok (.fl (ar V)) (h1++r2):=f2
 have k2:Ks h1 (h1++r2):=Ks.app r2
 generalize h1++r2=h2 at *
 have it:bh (aE fg (aj (ae 1) (aj (bM (aj (ae 8) af)) af))) (eV o0 T M L o5 o6 (some (.int a)) (some (.int b)) (some (.fl (ar U))) o10 o11) h1 = .ok (ar V,none) h2:=by
  generalize ar V=VV at *
  generalize fg=G at *
  simp [f2']
 have cp:=lQ (js:=[9]) (en:=eV o0 T M L o5 o6 (some (.int a)) (some (.int b)) (some (.fl (ar U))) o10 o11) (w:=none) (all:=ar V) (c:=aZ (ai d7 (ae 0) (ae 1))) (e:=ae 0) (g:=λn:Nat=>AV.int n) (f:=λn:Nat=>AV.int n) (p:=λn=>decide (n∈U)) (h:=h2) rfl V []
  (λn _=>by
   have i:=yR (hh:=h2) (n:=n) (l:=U)
   show aZ (ai d7 (ae 0) (ae 1)) [some (.int n),some (.fl (ar U))] h2=_
   generalize ar U=VU at *
   simp [i,-d7]) (λn _ _=>rfl) (by simp only [KP,LJ];rw [eVV];exact JI lb (by decide))
 rw [Mj] at cp
 have es:(V.filter λn=>decide (n∈U))=cu ps a b:=by rw [HB,eU,eVV];rfl
 have cm:dF [9] (bh (aE fg (aj (ae 1) (aj (bM (aj (ae 8) af)) af)))) (aZ (ai d7 (ae 0) (ae 1))) (ae 0) (eV o0 T M L o5 o6 (some (.int a)) (some (.int b)) (some (.fl (ar U))) o10 o11) h1 = .ok (.fl (ar (cu ps a b))) h2:=by
  unfold dF
  rw [it]
  dsimp only
  rw [cp,es]
 obtain ⟨q5,q11,h3,lp,k3⟩:=HN (o0:=o0) (T:=T) (M:=M) (L:=L) (o5:=o5) (o6:=o6) (o9:=some (.fl (ar U))) (o11:=o11) ((k1.trans k2).sh S) g ha hb la lb hz
 refine ⟨q5,some (.fl (ar U)),some (.fl (ar (cu ps a b))),q11,h3,?_,(k1.trans k2).trans k3⟩
 generalize cu ps a b=D at *
 generalize ar D=VD at *
 generalize ar U=VU at *
 simp only [eV] at *
 unfold lP
 generalize aV (dw (ah (.int 2))) (.nm 5) jC=FF at *
 generalize dF [9] (bh (aE fg (aj (ae 1) (aj (bM (aj (ae 8) af)) af)))) (aZ (ai d7 (ae 0) (ae 1))) (ae 0)=CM at *
 generalize fg=G at *
 simp [f1',cm,lp]
end Sk
namespace Sk
open PySem PySem.Spec L2 Sm
theorem HQ {h0:AH} {ps:List Pc} {a T L:Nat} {M:Int} {tl:List Nat} {o0 o5 o6 o8 o9 o10 o11:Option AV} (S:ShelfAt h0 0 ps) (g:Good ps) (eT:h0[T]? = some (.lst (ar tl))) (ha:a<=ps.length) (la:(aG ps [a] ps.length).length<=80) (ht:∀ n∈tl,n<=ps.length/\(aG ps [n] ps.length).length<=80) (hz:ps.length<=900000) :
  ∃ q5 q8 q9 q10 q11 h2,ka (eV o0 T M L o5 o6 (some (.int a)) o8 o9 o10 o11) h0 = .nx (eV o0 T M L q5 o6 (some (.int a)) q8 q9 q10 q11) h2/\Ks h0 h2:=by
 have it:bh (ae 2) (eV o0 T M L o5 o6 (some (.int a)) o8 o9 o10 o11) h0 = .ok (ar tl,some T) h0:=by
  simp [eT]
 obtain ⟨e',h',r1,q5,q8,q9,q10,q11,rfl,k⟩:=gr (w:=some T) (all:=ar tl) (t:=.nm 8) (b:=lP) (xs:=ar tl) (en:=eV o0 T M L o5 o6 (some (.int a)) o8 o9 o10 o11) (h:=h0)
  (λj en hh=>∃ q5 q8 q9 q10 q11,en=eV o0 T M L q5 o6 (some (.int a)) q8 q9 q10 q11/\Ks h0 hh)
  ⟨o5,o8,o9,o10,o11,rfl,⟨λ_ _=>rfl,JC _⟩⟩ (λ_ _ hh ⟨_,_,_,_,_,_,k⟩=>by
   have:hh[T]? = some (.lst (ar tl)):=(k.fr T (bY eT)).trans eT
   simp [cZ,this]) (by
   rintro j x en hh hx ⟨q5,q8,q9,q10,q11,rfl,k⟩
   rw [Kb] at hx
   obtain ⟨b,eb,rfl⟩:=J5.mp hx
   obtain ⟨hb,lb⟩:=ht b (J6 eb)
   obtain ⟨p5,p9,p10,p11,h2,b2,k2⟩:=HP (o0:=o0) (T:=T) (M:=M) (L:=L) (o5:=q5) (o6:=o6) (o9:=q9) (o10:=q10) (o11:=q11) (k.sh S) g ha hb la lb hz
   show thn (lP (eV o0 T M L q5 o6 (some (.int a)) (some (.int b)) q9 q10 q11) hh) _
   rw [b2]
   exact ⟨_,_,_,_,_,rfl,k.trans k2⟩)
 exact ⟨q5,q8,q9,q10,q11,h',(gP it).trans r1,k⟩
theorem HR {h0:AH} {ps:List Pc} {T L:Nat} {M:Int} {tl:List Nat} {o0 o5 o6:Option AV} (S:ShelfAt h0 0 ps) (g:Good ps) (eT:h0[T]? = some (.lst (ar tl))) (ht:∀ n∈tl,n<=ps.length/\(aG ps [n] ps.length).length<=80) (hz:ps.length<=900000) :
  ∃ e' h2,aV (bh (ae 2)) (.nm 7) ka (eW o0 T M L o5 o6) h0 = .nx e' h2/\Ks h0 h2/\e'[1]? = some (some (.ref 0))/\e'[3]? = some (some (.int M)):=by
 have it:bh (ae 2) (eW o0 T M L o5 o6) h0 = .ok (ar tl,some T) h0:=by
  simp [eT]
 obtain ⟨e',h',r1,q5,q7,q8,q9,q10,q11,rfl,k⟩:=gr (w:=some T) (all:=ar tl) (t:=.nm 7) (b:=ka) (xs:=ar tl) (en:=eW o0 T M L o5 o6) (h:=h0)
  (λj en hh=>∃ q5 q7 q8 q9 q10 q11,en=eV o0 T M L q5 o6 q7 q8 q9 q10 q11/\Ks h0 hh)
  ⟨o5,none,none,none,none,none,rfl,⟨λ_ _=>rfl,JC _⟩⟩ (λ_ _ hh ⟨_,_,_,_,_,_,_,k⟩=>by
   have:hh[T]? = some (.lst (ar tl)):=(k.fr T (bY eT)).trans eT
   simp [cZ,this]) (by
   rintro j x en hh hx ⟨q5,q7,q8,q9,q10,q11,rfl,k⟩
   rw [Kb] at hx
   obtain ⟨a,ea,rfl⟩:=J5.mp hx
   obtain ⟨ha,la⟩:=ht a (J6 ea)
   obtain ⟨p5,p8,p9,p10,p11,h2,b2,k2⟩:=HQ (o0:=o0) (T:=T) (M:=M) (L:=L) (o5:=q5) (o6:=o6) (o8:=q8) (o9:=q9) (o10:=q10) (o11:=q11) (k.sh S) g ((k.fr T (bY eT)).trans eT) ha la ht hz
   show thn (ka (eV o0 T M L q5 o6 (some (.int a)) q8 q9 q10 q11) hh) _
   rw [b2]
   exact ⟨_,_,_,_,_,_,rfl,k.trans k2⟩)
 exact ⟨_,h',(gP it).trans r1,k,rfl,rfl⟩
theorem law_true (ns:List Int) (hl:ns.length<=63):∃ h',sf [.fl (ns.map AV.int)] [] = .ok (.bl true) h' := by
 have mk:=F3 [some (.fl (ns.map AV.int)),none,none,none,none,none,none,none,none,none,none,none] []
 have l0:([]:AH).length=0:=rfl
 rw [l0,Mj] at mk
 obtain ⟨T,L0,H1,ps,tl,tx,w1,lp,lt,hT⟩:=HH hl
 have m1:=sv w1.sh
 have ob1:=w1.sh.ob
 obtain ⟨N,s1⟩:=oK ns hl 3 (by decide) H1
 obtain ⟨L,eL⟩:∃ L,L=H1.length:=⟨_,rfl⟩
 rw [<- eL] at s1
 have s1':eY [.fl (ns.map AV.int),.int 3] H1 = .ok (.ref L) (H1++[.lst [.int N]]):=s1
 have T1:=bY w1.tx
 have w2:Lw (H1++[.lst [.int N]]) ps T L tl:=⟨w1.sh.app _,w1.gd,by rw [JE T1];exact w1.tx,w1.le,N,by rw [eL];simp⟩
 generalize H1++[AO.lst [.int N]]=H2 at *
 obtain ⟨q5,q6,H3,f3,w3⟩:=HK (M:=(ps.length:Int)) (o0:=some (.fl (ns.map AV.int))) w2 hT (by lia) (by lia) lp lt
 obtain ⟨l,el,hle,hln⟩:=HL (N:=ps.length)
 have fd:lj [.int ps.length,.int (-1),.int (-1)] H3 = .ok (.fl (ar l)) H3:=by
  have b:(ps.length:Int).natAbs<2 ^ 40/\(-1:Int).natAbs<2 ^ 40/\((ps.length:Int)-(-1)).toNat<=2 ^ 24/\(-1:Int) = -1:=⟨by lia,by decide,by lia,rfl⟩
  unfold lj
  dsimp only
  rw [JG b,el]
 obtain ⟨r4,f4⟩:=yU w3.sh w3.gd (.inl rfl:Lt H3 (.fl (ar l)) l) hle (by lia) (by lia)
 have S4:=w3.sh.app r4
 have T4:(H3++r4)[T]? = some (.lst (ar tl)):=by rw [JE (bY w3.tx)];exact w3.tx
 generalize H3++r4=H4 at *
 obtain ⟨e5,H5,f5,k5,x1,x3⟩:=HR (L:=L) (M:=(ps.length:Int)) (o0:=some (.fl (ns.map AV.int))) (o5:=q5) (o6:=q6) S4 w3.gd T4 (λn hn=>by
  obtain ⟨x,tz,lx⟩:=w3.le n hn
  exact ⟨yW tz,HA w3.gd tz lx _⟩) (by lia)
 have S5:=k5.sh S4
 have m5:=sv S5
 have ob5:=S5.ob
 have ce:aS (.int (ps.length:Int)) (.int (ps.length:Int)) H5 = .ok (.bl true) H5:=by simp
 refine ⟨H5,?_⟩
 simp only [eW] at f3 f5
 generalize ar l=V at *
 generalize ns.map AV.int=V0 at *
 generalize (ps.length:Int)=M at *
 unfold sf
 generalize nk 0 8 lq af=MK at *
 generalize aV (dw (ah (.int 8))) (.nm 5) jB=FA at *
 generalize aV (bh (ae 2)) (.nm 7) ka=FB at *
 generalize fo 0=H0 at *
 simp [mk,tx,m1,ob1,s1',f3,fd,f4,f5,x1,x3,m5,ob5,ce,-aS]
end Sk
namespace Sk
open PySem PySem.Spec L2 Sm
theorem tR:bootBuiltins "list" = some (.type "list"):=by decide +kernel
theorem HU:bootBuiltins "sorted" = some (.builtin "sorted"):=by decide +kernel
noncomputable def top (i:Nat):Stmt:=PySem.Challenge.pw_skeinwood_k74_reach_just.main.body.getD i (.Pass ⟨0,0,0,0⟩)
noncomputable abbrev tU:Stmt:=d5 (top 17) 0
noncomputable abbrev tV:Stmt:=top 37
noncomputable abbrev tW:Stmt:=top 38
noncomputable abbrev tX:Stmt:=top 35
noncomputable abbrev oT:Stmt:=top 36
noncomputable abbrev tY:Stmt:=top 10
noncomputable abbrev tZ:Stmt:=d5 (top 17) 11
noncomputable abbrev t5:Stmt:=d5 (top 17) 12
noncomputable abbrev t6:Stmt:=d5 (top 17) 14
noncomputable abbrev t8:Stmt:=d5 (top 17) 17
noncomputable abbrev t9:Stmt:=d5 (top 17) 16
noncomputable abbrev ua:Stmt:=d5 (top 17) 2
noncomputable abbrev ub:Stmt:=top 33
noncomputable abbrev uc:Stmt:=top 12
noncomputable abbrev oU:Stmt:=top 11
noncomputable abbrev ud:Stmt:=top 13
noncomputable abbrev ue:Stmt:=top 14
noncomputable abbrev uf:Stmt:=d5 (top 17) 15
noncomputable abbrev ug:Stmt:=d5 (top 17) 1
noncomputable abbrev oV:Stmt:=top 24
noncomputable abbrev uh:Stmt:=top 25
noncomputable abbrev ui:Stmt:=d5 (top 17) 13
noncomputable abbrev uj:Stmt:=d5 (top 17) 5
noncomputable abbrev uk:Stmt:=d5 (top 17) 10
noncomputable abbrev um:Stmt:=d5 (top 17) 9
noncomputable abbrev uo:Stmt:=top 26
noncomputable abbrev uq:Stmt:=d5 (top 17) 4
noncomputable abbrev ur:Stmt:=top 31
noncomputable abbrev uv:Stmt:=d5 (top 17) 8
noncomputable abbrev uw:Stmt:=top 28
noncomputable abbrev ux:Stmt:=top 32
noncomputable abbrev uy:Stmt:=top 29
noncomputable abbrev uz:Stmt:=top 27
noncomputable abbrev uA:Stmt:=top 30
noncomputable abbrev uB:Stmt:=top 23
noncomputable abbrev uC:Stmt:=top 39
noncomputable abbrev uD:Stmt:=top 41
noncomputable abbrev uE:Stmt:=d5 (top 17) 3
noncomputable abbrev uF:Stmt:=top 40
noncomputable abbrev uG:Stmt:=top 20
noncomputable abbrev oW:Stmt:=top 19
noncomputable abbrev uH:Stmt:=top 42
noncomputable abbrev uI:Stmt:=top 21
noncomputable abbrev kj:Stmt:=top 43
noncomputable def bD:Nat->List Str
 | 0=>["pieces", "numbers", "sign_counts", "end_counts", "leaf_counts", "heights", "first_leaves", "last_leaves"]
 | _=>[]
theorem HW:∀ c,(bD c).Nodup
 | 0=>by decide +kernel
 | _+1=>MT
theorem HX:∀ c,(bD c).length<=500
 | 0=>by decide +kernel
 | _+1=>Ki _
noncomputable abbrev bf (K:PySem.W.Frag) (cls exc:Nat->Option Addr):Tb:=⟨K,cls,exc,bD,HW,HX⟩
structure iZ (P:Program) (w:World) (K:PySem.W.Frag) (cls exc:Nat->Option Addr) (mg:Str->Option Value) (base:Heap):Prop where
 b_abs:mg "abs" = none
 b_all:mg "all" = none
 b_bool:mg "bool" = none
 b_int:mg "int" = none
 b_isinstance:mg "isinstance" = none
 b_len:mg "len" = none
 b_list:mg "list" = none
 b_max:mg "max" = none
 b_range:mg "range" = none
 b_reversed:mg "reversed" = none
 b_set:mg "set" = none
 b_sorted:mg "sorted" = none
 b_str:mg "str" = none
 b_sum:mg "sum" = none
 c_LEAF_SIGNS:∃ t,mg "LEAF_SIGNS" = some (.int 8 t)
 c_MOST_PLAIN:∃ t,mg "MOST_PLAIN" = some (.int 10000 t)
 c_MOST_SIGNS:∃ t,mg "MOST_SIGNS" = some (.int 1000000000000000000 t)
 cf_Shelf:CF (bf K cls exc) 0
 x_NoText:GX (bf K cls exc) mg base 1 "NoText"
 x_NoPiece:GX (bf K cls exc) mg base 2 "NoPiece"
 x_Loose:GX (bf K cls exc) mg base 3 "Loose"
 x_Unlevel:GX (bf K cls exc) mg base 4 "Unlevel"
 x_TooLong:GX (bf K cls exc) mg base 5 "TooLong"
 d_Shelf_init:DI K cls mg 0 "Shelf" "Shelf.__init__" tU ["self"]
 d_law_take:DG K mg "_law_take" tV ["stream", "many"]
 d_law_plain:DG K mg "_law_plain" tW ["stream", "most"]
 d_law_mixed:DG K mg "_law_mixed" tX ["cell", "k"]
 d_law_stream:DG K mg "_law_stream" oT ["script", "k"]
 d_is_whole:DG K mg "is_whole" tY ["thing"]
 d_Shelf_has_piece:dU K cls 0 "has_piece" "Shelf.has_piece" tZ ["self", "number"]
 d_Shelf_check_piece:dU K cls 0 "check_piece" "Shelf.check_piece" t5 ["self", "number"]
 d_Shelf_check_fork:dU K cls 0 "check_fork" "Shelf.check_fork" t6 ["self", "one", "other"]
 d_Shelf_lay:dU K cls 0 "lay" "Shelf.lay" t8 ["self", "made"]
 d_Shelf_lay_fork:dU K cls 0 "lay_fork" "Shelf.lay_fork" t9 ["self", "made"]
 d_Shelf_fork:dU K cls 0 "fork" "Shelf.fork" ua ["self", "one", "other"]
 d_halved:DG K mg "halved" ub ["shelf", "leaves"]
 d_is_plain_sign:DG K mg "is_plain_sign" uc ["sign"]
 d_is_plain:DG K mg "is_plain" oU ["thing"]
 d_is_short:DG K mg "is_short" ud ["thing"]
 d_ends_in:DG K mg "ends_in" ue ["plain"]
 d_Shelf_lay_leaf:dU K cls 0 "lay_leaf" "Shelf.lay_leaf" uf ["self", "made"]
 d_Shelf_leaf:dU K cls 0 "leaf" "Shelf.leaf" ug ["self", "plain"]
 d_built:DG K mg "built" oV ["shelf", "plain"]
 d_check_length:DG K mg "check_length" uh ["signs"]
 d_Shelf_check_text:dU K cls 0 "check_text" "Shelf.check_text" ui ["self", "text"]
 d_Shelf_signs:dU K cls 0 "signs" "Shelf.signs" uj ["self", "text"]
 d_Shelf_last_leaf:dU K cls 0 "last_leaf" "Shelf.last_leaf" uk ["self", "text"]
 d_Shelf_first_leaf:dU K cls 0 "first_leaf" "Shelf.first_leaf" um ["self", "text"]
 d_are_close:DG K mg "are_close" uo ["shelf", "one", "other"]
 d_Shelf_piece:dU K cls 0 "piece" "Shelf.piece" uq ["self", "number"]
 d_with_last:DG K mg "with_last" ur ["shelf", "text", "leaf"]
 d_Shelf_height:dU K cls 0 "height" "Shelf.height" uv ["self", "text"]
 d_turned_left:DG K mg "turned_left" uw ["shelf", "one", "other"]
 d_without_first:DG K mg "without_first" ux ["shelf", "text"]
 d_turned_right:DG K mg "turned_right" uy ["shelf", "one", "other"]
 d_linked:DG K mg "linked" uz ["shelf", "one", "other"]
 d_welded:DG K mg "welded" uA ["shelf", "one", "other"]
 d_joined:DG K mg "joined" uB ["shelf", "one", "other"]
 d_law_made:DG K mg "_law_made" uC ["shelf", "stream", "plain"]
 d_law_texts:DG K mg "_law_texts" uD ["shelf", "script"]
 d_Shelf_many:dU K cls 0 "many" "Shelf.many" uE ["self"]
 d_law_reach:DG K mg "_law_reach" uF ["shelf", "texts"]
 d_parts_of:DG K mg "parts_of" uG ["shelf", "number"]
 d_reach_of:DG K mg "reach_of" oW ["shelf", "texts"]
 d_law_right:DG K mg "_law_right" uH ["shelf", "texts"]
 d_shared:DG K mg "shared" uI ["shelf", "one", "other"]
 d_law:DG K mg "law" kj ["script"]
theorem HY:aq ["self"] ["self"] (aM tU):=bw
theorem HZ:aq ["stream", "many", "digit"] ["stream", "many"] (aM tV):=bw
theorem Ia:aq ["stream", "most", "letters", "wide", "signs", "plain", "k"] ["stream", "most"] (aM tW):=bw
theorem Ib:aq ["cell", "k", "one"] ["cell", "k"] (aM tX):=bw
theorem Ic:aq ["script", "k", "cell", "j", "found"] ["script", "k"] (aM oT):=bw
theorem Ie:aq ["thing"] ["thing"] (aM tY):=bw
theorem Ig:aq ["self", "number"] ["self", "number"] (aM tZ):=bw
theorem Ih:aq ["self", "number"] ["self", "number"] (aM t5):=bw
theorem Ii:aq ["self", "one", "other", "seam"] ["self", "one", "other"] (aM t6):=bw
theorem Ij:aq ["self", "made", "number"] ["self", "made"] (aM t8):=bw
theorem Ik:aq ["self", "made", "one", "other"] ["self", "made"] (aM t9):=bw
theorem Il:aq ["self", "one", "other", "made"] ["self", "one", "other"] (aM ua):=bw
theorem yX:aq ["shelf", "leaves", "middle"] ["shelf", "leaves"] (aM ub):=bw
theorem Im:aq ["sign"] ["sign"] (aM uc):=bw
theorem Io:aq ["thing"] ["thing"] (aM oU):=bw
theorem Ip:aq ["thing"] ["thing"] (aM ud):=bw
theorem Iq:aq ["plain"] ["plain"] (aM ue):=bw
theorem Ir:aq ["self", "made", "number", "plain"] ["self", "made"] (aM uf):=bw
theorem Iu:aq ["self", "plain", "made"] ["self", "plain"] (aM ug):=bw
theorem Iv:aq ["shelf", "plain", "leaves"] ["shelf", "plain"] (aM oV):=bw
theorem Iw:aq ["signs"] ["signs"] (aM uh):=bw
theorem Iy:aq ["self", "text"] ["self", "text"] (aM ui):=bw
theorem Iz:aq ["self", "text"] ["self", "text"] (aM uj):=bw
theorem IA:aq ["self", "text"] ["self", "text"] (aM uk):=bw
theorem IB:aq ["self", "text"] ["self", "text"] (aM um):=bw
theorem IC:aq ["shelf", "one", "other"] ["shelf", "one", "other"] (aM uo):=bw
theorem ID:aq ["self", "number"] ["self", "number"] (aM uq):=bw
theorem yY:aq ["shelf", "text", "leaf", "piece"] ["shelf", "text", "leaf"] (aM ur):=bw
theorem IE:aq ["self", "text"] ["self", "text"] (aM uv):=bw
theorem IF:aq ["shelf", "one", "other", "piece", "near", "far", "inner"] ["shelf", "one", "other"] (aM uw):=bw
theorem yZ:aq ["shelf", "text", "piece", "rest"] ["shelf", "text"] (aM ux):=bw
theorem IG:aq ["shelf", "one", "other", "piece", "far", "near", "inner"] ["shelf", "one", "other"] (aM uy):=bw
theorem y4:aq ["shelf", "one", "other", "tilt", "piece"] ["shelf", "one", "other"] (aM uz):=bw
theorem IH:aq ["shelf", "one", "other", "seam", "front", "back"] ["shelf", "one", "other"] (aM uA):=bw
theorem II:aq ["shelf", "one", "other"] ["shelf", "one", "other"] (aM uB):=bw
theorem IJ:aq ["shelf", "stream", "plain", "way", "parts", "many", "text", "part"] ["shelf", "stream", "plain"] (aM uC):=bw
theorem IL:aq ["shelf", "script", "plain", "found", "stream", "k", "begin", "end"] ["shelf", "script"] (aM uD):=bw
theorem IM:aq ["self"] ["self"] (aM uE):=bw
theorem IP:aq ["shelf", "texts", "found", "number", "piece"] ["shelf", "texts"] (aM uF):=bw
theorem IQ:aq ["shelf", "number", "piece"] ["shelf", "number"] (aM uG):=bw
theorem IS:aq ["shelf", "texts", "reached", "ahead", "number"] ["shelf", "texts"] (aM oW):=bw
theorem IT:aq ["shelf", "texts", "due", "handed", "told"] ["shelf", "texts"] (aM uH):=bw
theorem IU:aq ["shelf", "one", "other", "reached", "other_reached"] ["shelf", "one", "other"] (aM uI):=bw
theorem IV:aq ["script", "shelf", "texts", "many", "stream", "turn", "some", "one", "other", "mine", "due", "told"] ["script"] (aM kj):=bw
section
variable {P:Program} {w:World} {K:PySem.W.Frag} {cls exc:Nat->Option Addr} {mg:Str->Option Value} {base:Heap} (Z:iZ P w K cls exc mg base)
include Z
theorem IW:GK P w (bf K cls exc) mg base 1 0 "Shelf" lq:=gk Z.d_Shelf_init HY λhr C hu nd =>
 (ax (iJ rfl Z.cf_Shelf (ag 0) (fK au))
  (ax (iJ rfl Z.cf_Shelf (ag 0) Dv)
  (ax (iJ rfl Z.cf_Shelf (ag 0) (fK (ak aB au)))
  (ax (iJ rfl Z.cf_Shelf (ag 0) (fK (ak aB au)))
  (ax (iJ rfl Z.cf_Shelf (ag 0) (fK (ak aB au)))
  (ax (iJ rfl Z.cf_Shelf (ag 0) (fK (ak (jS aB) au)))
  (ax (iJ rfl Z.cf_Shelf (ag 0) (fK (ak aB au)))
  (aF (iJ rfl Z.cf_Shelf (ag 0) (fK (ak aB au)))))))))))
theorem iB:GF P w (bf K cls exc) mg base 1 "_law_take" cq:=gf Z.d_law_take HZ λhr C hu nd =>
 (ax (aN (i:=2) nd (aY jo (ay rfl hu (ag 0) aB) (ag 1)))
  (ax (qW hu (ag 0) aB (aY vY (ay rfl hu (ag 0) aB) (ag 1)))
  (aF (aT (ag 2)))))
theorem IX:GF P w (bf K cls exc) mg base 2 "_law_plain" lC:=gf Z.d_law_plain Ia λhr C hu nd =>
 (ax (aN (i:=2) nd cI)
  (ax (aN (i:=3) nd (aY (cJ rfl) (aY (cJ rfl) (ag 2) (rg rfl Og PySem.F.slot_str_upper PySem.F.type_str_upper (Eh) wF (ag 2))) cI))
  (ax (aN (i:=4) nd (ay rfl hu (hV (ak cI (ak cI (ak cI (ak cI (ak (ag 3) au)))))) (aW rfl C (iB Z) hr.m rfl (ak (ag 0) (ak aB au)))))
  (ax (aN (i:=5) nd cI)
  (ax (gI rfl (jT (E:=EN) rfl Z.b_range (aW rfl (C.nox) (iB Z) hr.m rfl (ak (ag 0) (ak (aY (cJ rfl) (ag 1) aB) au)))) (fY (i:=6) nd) (aF (aN (i:=5) nd (aY (cJ rfl) (ag 5) (ay rfl hu (ag 4) (aW rfl (C.nox) (iB Z) hr.m rfl (ak (ag 0) (ak (bA (b_len rfl) rfl Z.b_len KC (ak (ag 4) au)) au))))))))
  (aF (aT (ag 5))))))))
theorem IY:GF P w (bf K cls exc) mg base 1 "_law_mixed" nU:=gf Z.d_law_mixed Ib λhr C hu nd =>
 (ax (aN (i:=2) nd (aY jo (aY hG (aY (cJ rfl) (aY (cJ rfl) (aY jo (ag 0) aB) (aY hG aB (ag 1))) aB) aB) aB))
  (aF (aT (aY jo (aY hG (aY jo (aY hG (ag 2) (ag 2)) aB) aB) aB))))
theorem oX:GF P w (bf K cls exc) mg base 2 "_law_stream" eY:=gf Z.d_law_stream Ic λ{f cdv A outer s H E} hr C hu nd =>
 (ax (aN (i:=2) nd aB)
  (ax (gI rfl (wK (E:=EN) rfl Z.b_range (ag 1) (bA (b_len rfl) rfl Z.b_len KC (ak (ag 0) au)) aB) (fY (i:=3) nd) (aF (aN (i:=2) nd (aY (cJ rfl) (aY hG (ag 2) (aY hG (aY jR aB aB) (aY jR aB aB))) (aY jo (ay rfl hu (ag 0) (ag 3)) (aY hG (aY jR aB aB) (aY jR aB aB)))))))
  (ax (aK (bK qH (ag 2) (aY jR aB aB) (bL _)) (aF (aT (fK (ak (ag 2) au)))) bI)
  (ax (aN (i:=2) nd (aY (cJ rfl) (ag 2) (bA (b_sum rfl) rfl Z.b_sum PyProof.Rows.boot_sum (ak (wk (jf:=[]) (jV (N:=["script", "k", "cell", "j", "found"]) (sc:=aM oT) rfl (λ_=>rfl) (by decide +kernel)) rfl (jr (E:=(λ_=>E)) rfl (ag 0)) (λ_ _ _ _ _=>nH) (λ_ _ _ _ _=>(aY jo (ag 0) (aY jR aB aB)))) au))))
  (ax (aN (i:=4) nd aB)
  (ax (gI rfl (jT (E:=EN) rfl Z.b_range aB) (fY (i:=3) nd) (aF (aN (i:=4) nd (aY (cJ rfl) (aY hG (ag 4) aB) (aW rfl (C.nox) (IY Z) hr.m rfl (ak (aY (cJ rfl) (aY (cJ rfl) (ag 2) (aY hG aB (ag 1))) (bA (b_len rfl) rfl Z.b_len KC (ak (ag 0) au))) (ak (ag 3) au)))))))
  (aF (aT (fK (ak (ag 4) au))))))))))
theorem IZ:GF P w (bf K cls exc) mg base 1 "is_whole" nV:=gf Z.d_is_whole Ie λhr C hu nd =>
 (aF (aT (qK (kW rfl rfl Z.b_isinstance (ag 0) rfl Z.b_int Cg (by decide)) (nA (Dt (kW rfl rfl Z.b_isinstance (ag 0) rfl Z.b_bool Ci (by decide)))))))
theorem I0:GM P w (bf K cls exc) mg base 2 0 "has_piece" nW:=gm Z.d_Shelf_has_piece Ig (show ("has_piece" : Str)∉bD 0 by decide +kernel) λhr C hu nd =>
 (aF (aT (qK (aW rfl C (IZ Z) hr.m rfl (ak (ag 1) au)) (nA (qI dC dC aB (ag 1) (bA (b_len rfl) rfl Z.b_len KC (ak (bu rfl Z.cf_Shelf (ag 0)) au)))))))
theorem oY:GM P w (bf K cls exc) mg base 3 0 "check_piece" jx:=gm Z.d_Shelf_check_piece Ih (show ("check_piece" : Str)∉bD 0 by decide +kernel) λhr C hu nd =>
 (aF (aK (iH (hU rfl (aR rfl C (I0 Z) hr.m (ag 0) (ak (ag 1) au)))) (aF (iK Z.x_NoPiece iD rfl (ak cI au))) bI))
theorem Ja:GM P w (bf K cls exc) mg base 4 0 "check_fork" iR:=gm Z.d_Shelf_check_fork Ii (show ("check_fork" : Str)∉bD 0 by decide +kernel) λhr C hu nd =>
 (ax (bV (aR rfl C (oY Z) hr.m (ag 0) (ak (ag 1) au)))
  (ax (bV (aR rfl C (oY Z) hr.m (ag 0) (ak (ag 2) au)))
  (ax (aN (i:=3) nd (aY (cJ rfl) (ay rfl hu (bu rfl Z.cf_Shelf (ag 0)) (ay rfl hu (bu rfl Z.cf_Shelf (ag 0)) (ag 1))) (ay rfl hu (bu rfl Z.cf_Shelf (ag 0)) (ay rfl hu (bu rfl Z.cf_Shelf (ag 0)) (ag 2)))))
  (ax (aK (bK dC (ag 3) (dS rfl Z.c_LEAF_SIGNS) (bL _)) (aF (iK Z.x_Loose iD rfl (ak cI au))) bI)
  (ax (aK (bK fz (bA (b_abs) rfl Z.b_abs PyProof.Rows.boot_abs (ak (aY jQ (ay rfl hu (bu rfl Z.cf_Shelf (ag 0)) (ag 1)) (ay rfl hu (bu rfl Z.cf_Shelf (ag 0)) (ag 2))) au)) aB (bL _)) (aF (iK Z.x_Unlevel iD rfl (ak cI au))) bI)
  (aF (aK (bK fz (aY (cJ rfl) (ay rfl hu (bu rfl Z.cf_Shelf (ag 0)) (ag 1)) (ay rfl hu (bu rfl Z.cf_Shelf (ag 0)) (ag 2))) (dS rfl Z.c_MOST_SIGNS) (bL _)) (aF (iK Z.x_TooLong iD rfl (ak cI au))) bI)))))))
theorem y6:GM P w (bf K cls exc) mg base 1 0 "lay" lE:=gm Z.d_Shelf_lay Ij (show ("lay" : Str)∉bD 0 by decide +kernel) λhr C hu nd =>
 (ax (bV (bB rfl JY J2 J3 (dH) c8 (bu rfl Z.cf_Shelf (ag 0)) (ak (ag 1) au)))
  (ax (aN (i:=2) nd (bA (b_len rfl) rfl Z.b_len KC (ak (bu rfl Z.cf_Shelf (ag 0)) au)))
  (ax (qW hu (bu rfl Z.cf_Shelf (ag 0)) (ag 1) (ag 2))
  (aF (aT (ag 2))))))
theorem Jb:GM P w (bf K cls exc) mg base 2 0 "lay_fork" lF:=gm Z.d_Shelf_lay_fork Ik (show ("lay_fork" : Str)∉bD 0 by decide +kernel) λhr C hu nd =>
 (ax (bV (aR rfl C (y6 Z) hr.m (ag 0) (ak (ag 1) au)))
  (ax (aN (i:=2) nd (ay rfl hu (ag 1) aB))
  (ax (aN (i:=3) nd (ay rfl hu (ag 1) aB))
  (ax (bV (bB rfl JY J2 J3 (dH) c8 (bu rfl Z.cf_Shelf (ag 0)) (ak (aY (cJ rfl) (ay rfl hu (bu rfl Z.cf_Shelf (ag 0)) (ag 2)) (ay rfl hu (bu rfl Z.cf_Shelf (ag 0)) (ag 3))) au)))
  (ax (bV (bB rfl JY J2 J3 (dH) c8 (bu rfl Z.cf_Shelf (ag 0)) (ak (aY (cJ rfl) (ay rfl hu (bu rfl Z.cf_Shelf (ag 0)) (ag 2)) (ay rfl hu (bu rfl Z.cf_Shelf (ag 0)) (ag 3))) au)))
  (ax (bV (bB rfl JY J2 J3 (dH) c8 (bu rfl Z.cf_Shelf (ag 0)) (ak (aY (cJ rfl) (ay rfl hu (bu rfl Z.cf_Shelf (ag 0)) (ag 2)) (ay rfl hu (bu rfl Z.cf_Shelf (ag 0)) (ag 3))) au)))
  (ax (bV (bB rfl JY J2 J3 (dH) c8 (bu rfl Z.cf_Shelf (ag 0)) (ak (aY (cJ rfl) (bA (D4) rfl Z.b_max PyProof.Rows.boot_max (ak (ay rfl hu (bu rfl Z.cf_Shelf (ag 0)) (ag 2)) (ak (ay rfl hu (bu rfl Z.cf_Shelf (ag 0)) (ag 3)) au))) aB) au)))
  (ax (bV (bB rfl JY J2 J3 (dH) c8 (bu rfl Z.cf_Shelf (ag 0)) (ak (ay rfl hu (bu rfl Z.cf_Shelf (ag 0)) (ag 2)) au)))
  (aF (bV (bB rfl JY J2 J3 (dH) c8 (bu rfl Z.cf_Shelf (ag 0)) (ak (ay rfl hu (bu rfl Z.cf_Shelf (ag 0)) (ag 3)) au))))))))))))
theorem eO:GM P w (bf K cls exc) mg base 5 0 "fork" aQ:=gm Z.d_Shelf_fork Il (show ("fork" : Str)∉bD 0 by decide +kernel) λhr C hu nd =>
 (ax (bV (aR rfl C (Ja Z) hr.m (ag 0) (ak (ag 1) (ak (ag 2) au))))
  (ax (aN (i:=3) nd (v7 (ak cI (ak (ag 1) (ak (ag 2) au)))))
  (ax (aK (bK (qY rfl hu) (ag 3) (bu rfl Z.cf_Shelf (ag 0)) rfl) (aF (bV (aR rfl C (Jb Z) hr.m (ag 0) (ak (ag 3) au)))) bI)
  (aF (aT (ay rfl hu (bu rfl Z.cf_Shelf (ag 0)) (ag 3)))))))
theorem uJ:∀ d,GF P w (bf K cls exc) mg base (5+d+1) "halved" (gj d)
 | 0=>gf Z.d_halved yX λ_ _ _ _=>nO
 | d+1=>gf Z.d_halved yX λhr C hu nd =>
  (ax (aK (bK (bX rfl hu) (bA (b_len rfl) rfl Z.b_len KC (ak (ag 1) au)) aB (bL _)) (aF (aT (ay rfl hu (ag 1) aB))) bI)
  (ax (aN (i:=2) nd (aY vY (bA (b_len rfl) rfl Z.b_len KC (ak (ag 1) au)) aB))
  (aF (aT (aR rfl C (eO Z) (hr.mono (show 5<=5+(d+1) by lia)) (ag 0) (ak (aW rfl C (uJ d) (hr.mono (by lia)) rfl (ak (ag 0) (ak (jU rfl (ag 1) nM (iM (ag 2))) au))) (ak (aW rfl C (uJ d) (hr.mono (by lia)) rfl (ak (ag 0) (ak (jU rfl (ag 1) (iM (ag 2)) nM) au))) au)))))))
theorem Jc:GF P w (bf K cls exc) mg base 1 "is_plain_sign" lG:=gf Z.d_is_plain_sign Im λhr C hu nd =>
 (aF (aT (qL (nv (bX rfl hu) (ag 0) cI (bL _)) (nA (qI dC dC cI (ag 0) cI)))))
theorem y8:GF P w (bf K cls exc) mg base 2 "is_plain" lH:=gf Z.d_is_plain Io λ{f cdv A outer s H E} hr C hu nd =>
 (ax (aK (iH (hU rfl (kW rfl rfl Z.b_isinstance (ag 0) rfl Z.b_str Cj (by decide)))) (aF (aT fy)) bI)
  (aF (aT (bA (b_all rfl) rfl Z.b_all PyProof.Rows.boot_all (ak (wk (jf:=[]) (jV (N:=["thing"]) (sc:=aM oU) rfl (λ_=>rfl) (by decide +kernel)) rfl (jr (E:=(λ_=>E)) rfl (ag 0)) (λ_ _ _ _ _=>nH) (λ_ _ _ _ _=>(aW rfl (CA.never rfl) (Jc Z) hr.m rfl (ak (ag 0) au)))) au)))))
theorem Jd:GF P w (bf K cls exc) mg base 3 "is_short" nX:=gf Z.d_is_short Ip λhr C hu nd =>
 (aF (aT (qK (aW rfl C (y8 Z) hr.m rfl (ak (ag 0) au)) (nA (qI dC dC aB (bA (b_len rfl) rfl Z.b_len KC (ak (ag 0) au)) (dS rfl Z.c_LEAF_SIGNS))))))
theorem Je:GF P w (bf K cls exc) mg base 1 "ends_in" nY:=gf Z.d_ends_in Iq λhr C hu nd =>
 (aF (aT (bB rfl Og PySem.F.slot_str_count PySem.F.type_str_count (D8) wF (ag 0) (ak cI au))))
theorem Jf:GM P w (bf K cls exc) mg base 2 0 "lay_leaf" lI:=gm Z.d_Shelf_lay_leaf Ir (show ("lay_leaf" : Str)∉bD 0 by decide +kernel) λhr C hu nd =>
 (ax (aN (i:=2) nd (aR rfl C (y6 Z) hr.m (ag 0) (ak (ag 1) au)))
  (ax (aN (i:=3) nd (ay rfl hu (ag 1) aB))
  (ax (bV (bB rfl JY J2 J3 (dH) c8 (bu rfl Z.cf_Shelf (ag 0)) (ak (bA (b_len rfl) rfl Z.b_len KC (ak (ag 3) au)) au)))
  (ax (bV (bB rfl JY J2 J3 (dH) c8 (bu rfl Z.cf_Shelf (ag 0)) (ak (aW rfl C (Je Z) hr.m rfl (ak (ag 3) au)) au)))
  (ax (bV (bB rfl JY J2 J3 (dH) c8 (bu rfl Z.cf_Shelf (ag 0)) (ak aB au)))
  (ax (bV (bB rfl JY J2 J3 (dH) c8 (bu rfl Z.cf_Shelf (ag 0)) (ak aB au)))
  (ax (bV (bB rfl JY J2 J3 (dH) c8 (bu rfl Z.cf_Shelf (ag 0)) (ak (ag 2) au)))
  (aF (bV (bB rfl JY J2 J3 (dH) c8 (bu rfl Z.cf_Shelf (ag 0)) (ak (ag 2) au)))))))))))
theorem y9:GM P w (bf K cls exc) mg base 4 0 "leaf" eZ:=gm Z.d_Shelf_leaf Iu (show ("leaf" : Str)∉bD 0 by decide +kernel) λhr C hu nd =>
 (ax (aK (iH (hU rfl (aW rfl C (Jd Z) hr.m rfl (ak (ag 1) au)))) (aF (iK Z.x_NoText iD rfl (ak cI au))) bI)
  (ax (aN (i:=2) nd (v7 (ak cI (ak (ag 1) au))))
  (ax (aK (bK (qY rfl hu) (ag 2) (bu rfl Z.cf_Shelf (ag 0)) rfl) (aF (bV (aR rfl C (Jf Z) hr.m (ag 0) (ak (ag 2) au)))) bI)
  (aF (aT (ay rfl hu (bu rfl Z.cf_Shelf (ag 0)) (ag 2)))))))
theorem uK:GF P w (bf K cls exc) mg base 27 "built" jy:=gf Z.d_built Iv λ{f cdv A outer s H E} hr C hu nd =>
 (ax (aK (iH (hU rfl (aW rfl C (y8 Z) hr.m rfl (ak (ag 1) au)))) (aF (iK Z.x_NoText iD rfl (ak cI au))) bI)
  (ax (aK (bK fz (bA (b_len rfl) rfl Z.b_len KC (ak (ag 1) au)) (dS rfl Z.c_MOST_PLAIN) (bL _)) (aF (iK Z.x_TooLong iD rfl (ak cI au))) bI)
  (ax (aK (bK (bX rfl hu) (ag 1) cI (bL _)) (aF (aT aB)) bI)
  (ax (qP (jf:=[(0, "shelf"),(1, "plain")]) (jV (N:=["shelf", "plain", "leaves"]) (sc:=aM oV) rfl (λ_=>rfl) (by decide +kernel)) rfl (wK (E:=(λ_=>E)) rfl Z.b_range aB (bA (b_len rfl) rfl Z.b_len KC (ak (ag 1) au)) (dS rfl Z.c_LEAF_SIGNS)) (λ_ _ _ _ _=>nH) (λ_ _ _ _ _=>(aR rfl (CA.never rfl) (y9 Z) hr.m (ag 1) (ak (jU rfl (ag 2) (iM (ag 0)) (iM (aY (cJ rfl) (ag 0) (dS rfl Z.c_LEAF_SIGNS)))) au))) nd (i:=2))
  (aF (aT (aW rfl C (uJ Z 20) hr.m rfl (ak (ag 0) (ak (ag 2) au)))))))))
theorem Jg:GF P w (bf K cls exc) mg base 1 "check_length" nZ:=gf Z.d_check_length Iw λhr C hu nd =>
 (aF (aK (bK fz (ag 0) (dS rfl Z.c_MOST_SIGNS) (bL _)) (aF (iK Z.x_TooLong iD rfl (ak cI au))) bI))
theorem oZ:GM P w (bf K cls exc) mg base 4 0 "check_text" iS:=gm Z.d_Shelf_check_text Iy (show ("check_text" : Str)∉bD 0 by decide +kernel) λhr C hu nd =>
 (aF (aK (bK (eE rfl hu) (ag 1) aB (bL _)) (aF (bV (aR rfl C (oY Z) hr.m (ag 0) (ak (ag 1) au)))) bI))
theorem pe:GM P w (bf K cls exc) mg base 5 0 "signs" ig:=gm Z.d_Shelf_signs Iz (show ("signs" : Str)∉bD 0 by decide +kernel) λhr C hu nd =>
 (ax (bV (aR rfl C (oZ Z) hr.m (ag 0) (ak (ag 1) au)))
  (aF (aT (ay rfl hu (bu rfl Z.cf_Shelf (ag 0)) (ag 1)))))
theorem za:GM P w (bf K cls exc) mg base 5 0 "last_leaf" lJ:=gm Z.d_Shelf_last_leaf IA (show ("last_leaf" : Str)∉bD 0 by decide +kernel) λhr C hu nd =>
 (ax (bV (aR rfl C (oZ Z) hr.m (ag 0) (ak (ag 1) au)))
  (aF (aT (ay rfl hu (bu rfl Z.cf_Shelf (ag 0)) (ag 1)))))
theorem zb:GM P w (bf K cls exc) mg base 5 0 "first_leaf" lK:=gm Z.d_Shelf_first_leaf IB (show ("first_leaf" : Str)∉bD 0 by decide +kernel) λhr C hu nd =>
 (ax (bV (aR rfl C (oZ Z) hr.m (ag 0) (ak (ag 1) au)))
  (aF (aT (ay rfl hu (bu rfl Z.cf_Shelf (ag 0)) (ag 1)))))
theorem Jh:GF P w (bf K cls exc) mg base 6 "are_close" n8:=gf Z.d_are_close IC λhr C hu nd =>
 (aF (aT (nv fz (aY (cJ rfl) (aR rfl C (pe Z) hr.m (ag 0) (ak (aR rfl C (za Z) hr.m (ag 0) (ak (ag 1) au)) au)) (aR rfl C (pe Z) hr.m (ag 0) (ak (aR rfl C (zb Z) hr.m (ag 0) (ak (ag 2) au)) au))) (dS rfl Z.c_LEAF_SIGNS) (bL _))))
theorem fQ:GM P w (bf K cls exc) mg base 4 0 "piece" c4:=gm Z.d_Shelf_piece ID (show ("piece" : Str)∉bD 0 by decide +kernel) λhr C hu nd =>
 (ax (bV (aR rfl C (oY Z) hr.m (ag 0) (ak (ag 1) au)))
  (aF (aT (ay rfl hu (bu rfl Z.cf_Shelf (ag 0)) (aY jQ (ag 1) aB)))))
theorem zc:∀ d,GF P w (bf K cls exc) mg base (5+d+1) "with_last" (fL d)
 | 0=>gf Z.d_with_last yY λ_ _ _ _=>nO
 | d+1=>gf Z.d_with_last yY λhr C hu nd =>
  (ax (aN (i:=3) nd (aR rfl C (fQ Z) (hr.mono (show 4<=5+(d+1) by lia)) (ag 0) (ak (ag 1) au)))
  (ax (aK (bK (bX rfl hu) (ay rfl hu (ag 3) aB) cI (bL _)) (aF (aT (ag 2))) bI)
  (aF (aT (aR rfl C (eO Z) (hr.mono (show 5<=5+(d+1) by lia)) (ag 0) (ak (ay rfl hu (ag 3) aB) (ak (aW rfl C (zc d) (hr.mono (by lia)) rfl (ak (ag 0) (ak (ay rfl hu (ag 3) aB) (ak (ag 2) au)))) au)))))))
theorem gQ:GM P w (bf K cls exc) mg base 5 0 "height" fE:=gm Z.d_Shelf_height IE (show ("height" : Str)∉bD 0 by decide +kernel) λhr C hu nd =>
 (ax (bV (aR rfl C (oZ Z) hr.m (ag 0) (ak (ag 1) au)))
  (aF (aT (ay rfl hu (bu rfl Z.cf_Shelf (ag 0)) (ag 1)))))
theorem zd:GF P w (bf K cls exc) mg base 6 "turned_left" e7:=gf Z.d_turned_left IF λhr C hu nd =>
 (ax (aK (bK jq (aY jQ (aR rfl C (gQ Z) hr.m (ag 0) (ak (ag 2) au)) (aR rfl C (gQ Z) hr.m (ag 0) (ak (ag 1) au))) aB (bL _)) (aF (aT (aR rfl C (eO Z) hr.m (ag 0) (ak (ag 1) (ak (ag 2) au))))) bI)
  (ax (aN (i:=3) nd (aR rfl C (fQ Z) hr.m (ag 0) (ak (ag 2) au)))
  (ax (aN (i:=4) nd (ay rfl hu (ag 3) aB))
  (ax (aN (i:=5) nd (ay rfl hu (ag 3) aB))
  (ax (aK (bK dC (aR rfl C (gQ Z) hr.m (ag 0) (ak (ag 4) au)) (aR rfl C (gQ Z) hr.m (ag 0) (ak (ag 5) au)) (bL _)) (aF (aT (aR rfl C (eO Z) hr.m (ag 0) (ak (aR rfl C (eO Z) hr.m (ag 0) (ak (ag 1) (ak (ag 4) au))) (ak (ag 5) au))))) bI)
  (ax (aN (i:=6) nd (aR rfl C (fQ Z) hr.m (ag 0) (ak (ag 4) au)))
  (aF (aT (aR rfl C (eO Z) hr.m (ag 0) (ak (aR rfl C (eO Z) hr.m (ag 0) (ak (ag 1) (ak (ay rfl hu (ag 6) aB) au))) (ak (aR rfl C (eO Z) hr.m (ag 0) (ak (ay rfl hu (ag 6) aB) (ak (ag 5) au))) au)))))))))))
theorem ze:∀ d,GF P w (bf K cls exc) mg base (6+d+1) "without_first" (d8 d)
 | 0=>gf Z.d_without_first yZ λ_ _ _ _=>nO
 | d+1=>gf Z.d_without_first yZ λhr C hu nd =>
  (ax (aN (i:=2) nd (aR rfl C (fQ Z) (hr.mono (show 4<=6+(d+1) by lia)) (ag 0) (ak (ag 1) au)))
  (ax (aK (bK (bX rfl hu) (ay rfl hu (ag 2) aB) cI (bL _)) (aF (aT aB)) bI)
  (ax (aN (i:=3) nd (aW rfl C (ze d) (hr.mono (by lia)) rfl (ak (ag 0) (ak (ay rfl hu (ag 2) aB) au))))
  (ax (aK (bK (bX rfl hu) (ag 3) aB (bL _)) (aF (aT (ay rfl hu (ag 2) aB))) bI)
  (aF (aT (aW rfl C (zd Z) (hr.mono (show 6<=6+(d+1) by lia)) rfl (ak (ag 0) (ak (ag 3) (ak (ay rfl hu (ag 2) aB) au))))))))))
theorem Ji:GF P w (bf K cls exc) mg base 6 "turned_right" gn:=gf Z.d_turned_right IG λhr C hu nd =>
 (ax (aK (bK jq (aY jQ (aR rfl C (gQ Z) hr.m (ag 0) (ak (ag 1) au)) (aR rfl C (gQ Z) hr.m (ag 0) (ak (ag 2) au))) aB (bL _)) (aF (aT (aR rfl C (eO Z) hr.m (ag 0) (ak (ag 1) (ak (ag 2) au))))) bI)
  (ax (aN (i:=3) nd (aR rfl C (fQ Z) hr.m (ag 0) (ak (ag 1) au)))
  (ax (aN (i:=4) nd (ay rfl hu (ag 3) aB))
  (ax (aN (i:=5) nd (ay rfl hu (ag 3) aB))
  (ax (aK (bK dC (aR rfl C (gQ Z) hr.m (ag 0) (ak (ag 5) au)) (aR rfl C (gQ Z) hr.m (ag 0) (ak (ag 4) au)) (bL _)) (aF (aT (aR rfl C (eO Z) hr.m (ag 0) (ak (ag 4) (ak (aR rfl C (eO Z) hr.m (ag 0) (ak (ag 5) (ak (ag 2) au))) au))))) bI)
  (ax (aN (i:=6) nd (aR rfl C (fQ Z) hr.m (ag 0) (ak (ag 5) au)))
  (aF (aT (aR rfl C (eO Z) hr.m (ag 0) (ak (aR rfl C (eO Z) hr.m (ag 0) (ak (ag 4) (ak (ay rfl hu (ag 6) aB) au))) (ak (aR rfl C (eO Z) hr.m (ag 0) (ak (ay rfl hu (ag 6) aB) (ak (ag 2) au))) au)))))))))))
theorem pf:∀ d,GF P w (bf K cls exc) mg base (6+d+1) "linked" (dX d)
 | 0=>gf Z.d_linked y4 λ_ _ _ _=>nO
 | d+1=>gf Z.d_linked y4 λhr C hu nd =>
  (ax (aN (i:=3) nd (aY jQ (aR rfl C (gQ Z) (hr.mono (show 5<=6+(d+1) by lia)) (ag 0) (ak (ag 1) au)) (aR rfl C (gQ Z) (hr.mono (show 5<=6+(d+1) by lia)) (ag 0) (ak (ag 2) au))))
  (ax (aK (bK fz (ag 3) aB (bL _)) (ax (aN (i:=4) nd (aR rfl C (fQ Z) (hr.mono (show 4<=6+(d+1) by lia)) (ag 0) (ak (ag 1) au)))
  (aF (aT (aW rfl C (zd Z) (hr.mono (show 6<=6+(d+1) by lia)) rfl (ak (ag 0) (ak (ay rfl hu (ag 4) aB) (ak (aW rfl C (pf d) (hr.mono (by lia)) rfl (ak (ag 0) (ak (ay rfl hu (ag 4) aB) (ak (ag 2) au)))) au))))))) bI)
  (ax (aK (bK jq (ag 3) (jS aB) (bL _)) (ax (aN (i:=4) nd (aR rfl C (fQ Z) (hr.mono (show 4<=6+(d+1) by lia)) (ag 0) (ak (ag 2) au)))
  (aF (aT (aW rfl C (Ji Z) (hr.mono (show 6<=6+(d+1) by lia)) rfl (ak (ag 0) (ak (aW rfl C (pf d) (hr.mono (by lia)) rfl (ak (ag 0) (ak (ag 1) (ak (ay rfl hu (ag 4) aB) au)))) (ak (ay rfl hu (ag 4) aB) au))))))) bI)
  (aF (aT (aR rfl C (eO Z) (hr.mono (show 5<=6+(d+1) by lia)) (ag 0) (ak (ag 1) (ak (ag 2) au))))))))
theorem Jj:GF P w (bf K cls exc) mg base 98 "welded" jz:=gf Z.d_welded IH λhr C hu nd =>
 (ax (aN (i:=3) nd (aY (cJ rfl) (ay rfl hu (aR rfl C (fQ Z) hr.m (ag 0) (ak (aR rfl C (za Z) hr.m (ag 0) (ak (ag 1) au)) au)) aB) (ay rfl hu (aR rfl C (fQ Z) hr.m (ag 0) (ak (aR rfl C (zb Z) hr.m (ag 0) (ak (ag 2) au)) au)) aB)))
  (ax (aN (i:=4) nd (aW rfl C (zc Z 90) hr.m rfl (ak (ag 0) (ak (ag 1) (ak (aR rfl C (y9 Z) hr.m (ag 0) (ak (ag 3) au)) au)))))
  (ax (aN (i:=5) nd (aW rfl C (ze Z 90) hr.m rfl (ak (ag 0) (ak (ag 2) au))))
  (ax (aK (bK (bX rfl hu) (ag 5) aB (bL _)) (aF (aT (ag 4))) bI)
  (aF (aT (aW rfl C (pf Z 90) hr.m rfl (ak (ag 0) (ak (ag 4) (ak (ag 5) au))))))))))
theorem zf:GF P w (bf K cls exc) mg base 99 "joined" fM:=gf Z.d_joined II λhr C hu nd =>
 (ax (bV (aW rfl C (Jg Z) hr.m rfl (ak (aY (cJ rfl) (aR rfl C (pe Z) hr.m (ag 0) (ak (ag 1) au)) (aR rfl C (pe Z) hr.m (ag 0) (ak (ag 2) au))) au)))
  (ax (aK (bK (bX rfl hu) (ag 1) aB (bL _)) (aF (aT (ag 2))) bI)
  (ax (aK (bK (bX rfl hu) (ag 2) aB (bL _)) (aF (aT (ag 1))) bI)
  (ax (aK (hU rfl (aW rfl C (Jh Z) hr.m rfl (ak (ag 0) (ak (ag 1) (ak (ag 2) au))))) (aF (aT (aW rfl C (pf Z 90) hr.m rfl (ak (ag 0) (ak (ag 1) (ak (ag 2) au)))))) bI)
  (aF (aT (aW rfl C (Jj Z) hr.m rfl (ak (ag 0) (ak (ag 1) (ak (ag 2) au))))))))))
theorem zg:GF P w (bf K cls exc) mg base 100 "_law_made" iq:=gf Z.d_law_made IJ λhr C hu nd =>
 (ax (aN (i:=3) nd (aW rfl C (iB Z) hr.m rfl (ak (ag 1) (ak aB au))))
  (ax (aK (bK (bX rfl hu) (ag 3) aB (bL _)) (aF (aT (aW rfl C (uK Z) hr.m rfl (ak (ag 0) (ak (ag 2) au))))) bI)
  (ax (aN (i:=4) nd (fK au))
  (ax (v8 fZ (bK (eE rfl hu) (ag 2) cI (bL _)) (ax (aN (i:=5) nd (aY (cJ rfl) aB (aW rfl (C.nox) (iB Z) hr.m rfl (ak (ag 1) (ak aB au)))))
  (ax (bV (bB rfl JY J2 J3 (dH) c8 (ag 4) (ak (jU rfl (ag 2) nM (iM (ag 5))) au)))
  (aF (aN (i:=2) nd (jU rfl (ag 2) (iM (ag 5)) nM))))))
  (ax (aN (i:=6) nd aB)
  (ax (aK (bK (bX rfl hu) (ag 3) aB (bL _)) (aF (gI rfl (jr (E:=EN) rfl (ag 4)) (fY (i:=7) nd) (aF (aN (i:=6) nd (aW rfl (C.nox) (zf Z) hr.m rfl (ak (ag 0) (ak (ag 6) (ak (aW rfl (C.nox) (uK Z) hr.m rfl (ak (ag 0) (ak (ag 7) au))) au)))))))) (aF (Ei rfl rfl rfl Z.b_reversed (ag 4) (fY (i:=7) nd) (aF (aN (i:=6) nd (aW rfl (C.nox) (zf Z) hr.m rfl (ak (ag 0) (ak (aW rfl (C.nox) (uK Z) hr.m rfl (ak (ag 0) (ak (ag 7) au))) (ak (ag 6) au)))))))))
  (aF (aT (ag 6)))))))))
theorem Jk:GF P w (bf K cls exc) mg base 101 "_law_texts" og:=gf Z.d_law_texts IL λhr C hu nd =>
 (ax (aN (i:=2) nd (aW rfl C (IX Z) hr.m rfl (ak (aW rfl C (oX Z) hr.m rfl (ak (ag 1) (ak aB au))) (ak aB au))))
  (ax (aN (i:=3) nd (fK (ak aB (ak (aW rfl C (zg Z) hr.m rfl (ak (ag 0) (ak (aW rfl C (oX Z) hr.m rfl (ak (ag 1) (ak aB au))) (ak (ag 2) au)))) au))))
  (ax (aN (i:=4) nd (aW rfl C (oX Z) hr.m rfl (ak (ag 1) (ak aB au))))
  (ax (gI rfl (jT (E:=EN) rfl Z.b_range aB) (fY (i:=5) nd) (ax (aN (i:=6) nd (aW rfl (C.nox) (iB Z) hr.m rfl (ak (ag 4) (ak (aY (cJ rfl) (bA (b_len rfl) rfl Z.b_len KC (ak (ag 2) au)) aB) au))))
  (ax (aN (i:=7) nd (aY (cJ rfl) (ag 6) (aW rfl (C.nox) (iB Z) hr.m rfl (ak (ag 4) (ak (aY jQ (aY (cJ rfl) (bA (b_len rfl) rfl Z.b_len KC (ak (ag 2) au)) aB) (ag 6)) au)))))
  (aF (bV (bB rfl JY J2 J3 (dH) c8 (ag 3) (ak (aW rfl (C.nox) (zg Z) hr.m rfl (ak (ag 0) (ak (ag 4) (ak (jU rfl (ag 2) (iM (ag 6)) (iM (ag 7))) au)))) au)))))))
  (aF (aT (ag 3)))))))
theorem uL:GM P w (bf K cls exc) mg base 1 0 "many" iU:=gm Z.d_Shelf_many IM (show ("many" : Str)∉bD 0 by decide +kernel) λhr C hu nd =>
 (aF (aT (bA (b_len rfl) rfl Z.b_len KC (ak (bu rfl Z.cf_Shelf (ag 0)) au))))
theorem uM:GF P w (bf K cls exc) mg base 5 "_law_reach" fg:=gf Z.d_law_reach IP λhr C hu nd =>
 (ax (aN (i:=2) nd (fK au))
  (ax (gI rfl (EU (E:=EN) rfl Z.b_range (qQ rfl (C.nox) (uL Z) hr.m (ag 0)) aB (jS aB)) (fY (i:=3) nd) (aF (aK (bK (kT rfl hu) (ag 3) (ag 1) rfl) (ax (bV (bB rfl JY J2 J3 (dH) c8 (ag 2) (ak (ag 3) au)))
  (ax (aN (i:=4) nd (aR rfl (C.nox) (fQ Z) hr.m (ag 0) (ak (ag 3) au)))
  (aF (aK (bK (bX rfl hu) (ay rfl hu (ag 4) aB) cI (bL _)) (aF (aN (i:=1) nd (aY (cJ rfl) (ag 1) (hV (ak (ay rfl hu (ag 4) aB) (ak (ay rfl hu (ag 4) aB) au)))))) bI)))) bI)))
  (aF (aT (Eg rfl (ag 2) (jS aB))))))
theorem Jl:GF P w (bf K cls exc) mg base 5 "parts_of" lL:=gf Z.d_parts_of IQ λhr C hu nd =>
 (ax (aN (i:=2) nd (aR rfl C (fQ Z) hr.m (ag 0) (ak (ag 1) au)))
  (ax (aK (bK (bX rfl hu) (ay rfl hu (ag 2) aB) cI (bL _)) (aF (aT (hV au))) bI)
  (aF (aT (hV (ak (ay rfl hu (ag 2) aB) (ak (ay rfl hu (ag 2) aB) au)))))))
theorem ph:GF P w (bf K cls exc) mg base 6 "reach_of" gp:=gf Z.d_reach_of IS λ{f cdv A outer s H E} hr C hu nd =>
 (ax (aN (i:=2) nd Du)
  (ax (DM (jf:=[]) (jV (N:=["shelf", "texts", "reached", "ahead", "number"]) (sc:=aM oW) rfl (λ_=>rfl) (by decide +kernel)) rfl (jr (E:=(λ_=>E)) rfl (ag 1)) (λ_ _ _ _ _=>wj (bK (eE rfl hu) (ag 0) aB (bL _))) (λ_ _ _ _ _=>(ag 0)) nd (i:=3))
  (ax (v8 fZ (bK (eE rfl hu) (ag 3) (hV au) (bL _)) (ax (aN (i:=4) nd (rg rfl JY PySem.F.slot_list_pop PySem.F.type_list_pop (D7) c8 (ag 3)))
  (aF (aK (bK (qY rfl hu) (ag 4) (ag 2) rfl) (ax (qW hu (ag 2) (ag 4) fy)
  (aF (bV (bB rfl JY PySem.F.slot_list_extend PySem.F.type_list_extend (Eo rfl) c8 (ag 3) (ak (aW rfl (C.nox) (Jl Z) hr.m rfl (ak (ag 0) (ak (ag 4) au))) au))))) bI))))
  (aF (aT (bA (ES rfl) rfl Z.b_sorted HU (ak (ag 2) au)))))))
theorem zh:GF P w (bf K cls exc) mg base 7 "_law_right" lN:=gf Z.d_law_right IT λhr C hu nd =>
 (ax (aN (i:=2) nd (aW rfl C (uM Z) hr.m rfl (ak (ag 0) (ak (ag 1) au))))
  (ax (aN (i:=3) nd (rf (b_list rfl) rfl Z.b_list tR (ak (ag 1) au)))
  (ax (aN (i:=4) nd (aW rfl C (ph Z) hr.m rfl (ak (ag 0) (ak (ag 3) au))))
  (ax (aK (kR (qJ (iH (hU rfl (kW rfl rfl Z.b_isinstance (ag 4) rfl Z.b_list tR (by decide)))) (qJ (bK (eE rfl hu) (ag 4) (ag 2) (bL _)) (v5 (bK (eE rfl hu) (ag 3) (ag 1) (bL _)))))) (aF (aT fy)) bI)
  (ax (bV (bB rfl JY J2 J3 (dH) c8 (ag 4) (ak aB au)))
  (ax (bV (rg rfl JY PySem.F.slot_list_reverse PySem.F.type_list_reverse (Ej) c8 (ag 4)))
  (aF (aT (nv (bX rfl hu) (aW rfl C (ph Z) hr.m rfl (ak (ag 0) (ak (ag 3) au))) (ag 2) (bL _))))))))))
theorem Jm:GF P w (bf K cls exc) mg base 7 "shared" lO:=gf Z.d_shared IU λhr C hu nd =>
 (ax (aN (i:=3) nd (aW rfl C (ph Z) hr.m rfl (ak (ag 0) (ak (hV (ak (ag 1) au)) au))))
  (ax (aN (i:=4) nd (aW rfl C (ph Z) hr.m rfl (ak (ag 0) (ak (hV (ak (ag 2) au)) au))))
  (aF (aT (Fz 3 4 rfl rfl rfl Z.b_sorted rfl Z.b_set)))))
theorem Jn {f:Addr} {fd:FuncData} (h4:Fun K "law" "law" kj f fd):FnOk P w K mg base (cN P w) 102 f fd ["script"] (h9 (bf K cls exc) sf):=gl (T:=bf K cls exc) h4 IV λhr C hu nd =>
 (ax (aN (i:=1) nd (DR rfl C (IW Z) hr.m rfl))
  (ax (aN (i:=2) nd (aW rfl C (Jk Z) hr.m rfl (ak (ag 1) (ak (ag 0) au))))
  (ax (aN (i:=3) nd (qQ rfl C (uL Z) hr.m (ag 1)))
  (ax (aN (i:=4) nd (aW rfl C (oX Z) hr.m rfl (ak (ag 0) (ak aB au))))
  (ax (gI rfl (jT (E:=EN) rfl Z.b_range aB) (fY (i:=5) nd) (ax (qP (jf:=[(2, "texts"),(4, "stream")]) (jV (N:=["script", "shelf", "texts", "many", "stream", "turn", "some", "one", "other", "mine", "due", "told"]) (sc:=aM kj) rfl (λ_=>rfl) (by decide +kernel)) rfl (jT (E:=EN) rfl Z.b_range (aW rfl (C.nox) (iB Z) hr.m rfl (ak (ag 4) (ak aB au)))) (λ_ _ _ _ _=>nH) (λ_ _ _ _ _=>(ay rfl hu (ag 1) (aW rfl (CA.never rfl) (iB Z) hr.m rfl (ak (ag 2) (ak (bA (b_len rfl) rfl Z.b_len KC (ak (ag 1) au)) au))))) nd (i:=6))
  (aF (aK (iH (hU rfl (aW rfl (C.nox) (zh Z) hr.m rfl (ak (ag 1) (ak (ag 6) au))))) (aF (aT fy)) bI))))
  (ax (aK (iH (hU rfl (aW rfl C (zh Z) hr.m rfl (ak (ag 1) (ak (EV rfl rfl Z.b_range rfl Z.b_list (ag 3) (jS aB) (jS aB)) au))))) (aF (aT fy)) bI)
  (ax (gI rfl (jr (E:=EN) rfl (ag 2)) (fY (i:=7) nd) (aF (gI rfl (jr (E:=EN) rfl (ag 2)) (fY (i:=8) nd) (ax (aN (i:=9) nd (aW rfl ((C.nox).nox) (uM Z) hr.m rfl (ak (ag 1) (ak (hV (ak (ag 7) au)) au))))
  (ax (qP (jf:=[(9, "mine")]) (jV (N:=["script", "shelf", "texts", "many", "stream", "turn", "some", "one", "other", "mine", "due", "told"]) (sc:=aM kj) rfl (λ_=>rfl) (by decide +kernel)) rfl (jr (E:=EN) rfl (aW rfl ((C.nox).nox) (uM Z) hr.m rfl (ak (ag 1) (ak (hV (ak (ag 8) au)) au)))) (λ_ _ _ _ _=>wj (bK (kT rfl hu) (ag 0) (ag 1) rfl)) (λ_ _ _ _ _=>(ag 0)) nd (i:=10))
  (aF (gI rfl (jT (E:=EN) rfl Z.b_range aB) (fY (i:=5) nd) (ax (aN (i:=11) nd (aW rfl (((C.nox).nox).nox) (Jm Z) hr.m rfl (ak (ag 1) (ak (ag 7) (ak (ag 8) au)))))
  (ax (aK (kR (qJ (iH (hU rfl (kW rfl rfl Z.b_isinstance (ag 11) rfl Z.b_list tR (by decide)))) (v5 (bK (eE rfl hu) (ag 11) (ag 10) (bL _))))) (aF (aT fy)) bI)
  (aF (bV (bB rfl JY J2 J3 (dH) c8 (ag 11) (ak aB au)))))))))))))
  (aF (aT (nv (bX rfl hu) (qQ rfl C (uL Z) hr.m (ag 1)) (ag 3) (bL _)))))))))))
end
end Sk
namespace Sk
open PySem PySem.Spec L2 Sm
abbrev FX (l:PySem.W.OpenLaw) (w:World) (K:PySem.W.Frag) (mg:Str->Option Value) (fa:Addr):Prop:=∃ fd:FuncData,(∀ (s:Shared) (v:Value),BindsTo s fd ⟨[v],[]⟩ [("script",v)])/\∀ base:Heap,K.In base->base.Ns mainGlobals mg->FnOk l.prog w K mg base (cN l.prog w) 102 fa fd ["script"] (rk K)
theorem all_mk {l:PySem.W.OpenLaw} {w:World} {K:PySem.W.Frag} {h:Heap} {mg:Str->Option Value} {fa C0 X0 X1 X2 X3 X4 X5:Addr} {tk_LEAF_SIGNS tk_MOST_PLAIN tk_MOST_SIGNS:Tok} (X:K.In h) (G:h.Ns mainGlobals mg) (hfa:mg "law" = some (.ref fa))
  (aC0:NA K "Shelf" (some (.ref C0))) (a0:DN K C0 "__init__" "Shelf.__init__" tU) (a6:DN K C0 "has_piece" "Shelf.has_piece" tZ) (a7:DN K C0 "check_piece" "Shelf.check_piece" t5) (a8:DN K C0 "check_fork" "Shelf.check_fork" t6) (a9:DN K C0 "lay" "Shelf.lay" t8) (a10:DN K C0 "lay_fork" "Shelf.lay_fork" t9) (a11:DN K C0 "fork" "Shelf.fork" ua) (a17:DN K C0 "lay_leaf" "Shelf.lay_leaf" uf) (a18:DN K C0 "leaf" "Shelf.leaf" ug) (a21:DN K C0 "check_text" "Shelf.check_text" ui) (a22:DN K C0 "signs" "Shelf.signs" uj) (a23:DN K C0 "last_leaf" "Shelf.last_leaf" uk) (a24:DN K C0 "first_leaf" "Shelf.first_leaf" um) (a26:DN K C0 "piece" "Shelf.piece" uq) (a28:DN K C0 "height" "Shelf.height" uv) (a37:DN K C0 "many" "Shelf.many" uE) (a1:DK K "_law_take" tV) (a2:DK K "_law_plain" tW) (a3:DK K "_law_mixed" tX) (a4:DK K "_law_stream" oT) (a5:DK K "is_whole" tY) (a12:DK K "halved" ub) (a13:DK K "is_plain_sign" uc) (a14:DK K "is_plain" oU) (a15:DK K "is_short" ud) (a16:DK K "ends_in" ue) (a19:DK K "built" oV) (a20:DK K "check_length" uh) (a25:DK K "are_close" uo) (a27:DK K "with_last" ur) (a29:DK K "turned_left" uw) (a30:DK K "without_first" ux) (a31:DK K "turned_right" uy) (a32:DK K "linked" uz) (a33:DK K "welded" uA) (a34:DK K "joined" uB) (a35:DK K "_law_made" uC) (a36:DK K "_law_texts" uD) (a38:DK K "_law_reach" uF) (a39:DK K "parts_of" uG) (a40:DK K "reach_of" oW) (a41:DK K "_law_right" uH) (a42:DK K "shared" uI) (a43:DK K "law" kj) (kk0:Cls K C0) (mk0:PySem.W.makesIn K C0=true) (kc0:PySem.W.keepIn K (.ref C0)=true) (nf0_0:FA K C0 "pieces") (nf0_1:FA K C0 "numbers") (nf0_2:FA K C0 "sign_counts") (nf0_3:FA K C0 "end_counts") (nf0_4:FA K C0 "leaf_counts") (nf0_5:FA K C0 "heights") (nf0_6:FA K C0 "first_leaves") (nf0_7:FA K C0 "last_leaves") (z_abs:NA K "abs" none) (z_all:NA K "all" none) (z_bool:NA K "bool" none) (z_int:NA K "int" none) (z_isinstance:NA K "isinstance" none) (z_len:NA K "len" none) (z_list:NA K "list" none) (z_max:NA K "max" none) (z_range:NA K "range" none) (z_reversed:NA K "reversed" none) (z_set:NA K "set" none) (z_sorted:NA K "sorted" none) (z_str:NA K "str" none) (z_sum:NA K "sum" none) (e_SkeinError:NA K "SkeinError" (some (.ref X0))) (e_NoText:NA K "NoText" (some (.ref X1))) (x_NoText:XI K X1) (e_NoPiece:NA K "NoPiece" (some (.ref X2))) (x_NoPiece:XI K X2) (e_Loose:NA K "Loose" (some (.ref X3))) (x_Loose:XI K X3) (e_Unlevel:NA K "Unlevel" (some (.ref X4))) (x_Unlevel:XI K X4) (e_TooLong:NA K "TooLong" (some (.ref X5))) (x_TooLong:XI K X5) (m_LEAF_SIGNS:NA K "LEAF_SIGNS" (some (.int 8 tk_LEAF_SIGNS))) (m_MOST_PLAIN:NA K "MOST_PLAIN" (some (.int 10000 tk_MOST_PLAIN))) (m_MOST_SIGNS:NA K "MOST_SIGNS" (some (.int 1000000000000000000 tk_MOST_SIGNS)))
  : FX l w K mg fa:=by
 have Z:∀ base:Heap,K.In base->iZ l.prog w K (λn=>[C0][n]?) (λn=>[X0,X1,X2,X3,X4,X5][n]?) mg base:=λbase KB=>{
   b_abs:=Kt X G z_abs,
   b_all:=Kt X G z_all,
   b_bool:=Kt X G z_bool,
   b_int:=Kt X G z_int,
   b_isinstance:=Kt X G z_isinstance,
   b_len:=Kt X G z_len,
   b_list:=Kt X G z_list,
   b_max:=Kt X G z_max,
   b_range:=Kt X G z_range,
   b_reversed:=Kt X G z_reversed,
   b_set:=Kt X G z_set,
   b_sorted:=Kt X G z_sorted,
   b_str:=Kt X G z_str,
   b_sum:=Kt X G z_sum,
   c_LEAF_SIGNS:=⟨_,Mo X G m_LEAF_SIGNS⟩,
   c_MOST_PLAIN:=⟨_,Mo X G m_MOST_PLAIN⟩,
   c_MOST_SIGNS:=⟨_,Mo X G m_MOST_SIGNS⟩,
   cf_Shelf:=⟨C0,rfl,kk0,λf hf=>by
   have hf2:f∈bD 0:=hf
   simp only [bD,J4,K8,Nh] at hf2
   rcases hf2 with rfl | rfl | rfl | rfl | rfl | rfl | rfl | rfl
   ·exact nf0_0
   ·exact nf0_1
   ·exact nf0_2
   ·exact nf0_3
   ·exact nf0_4
   ·exact nf0_5
   ·exact nf0_6
   ·exact nf0_7⟩,
   x_NoText:=gx KB X G rfl e_NoText x_NoText,
   x_NoPiece:=gx KB X G rfl e_NoPiece x_NoPiece,
   x_Loose:=gx KB X G rfl e_Loose x_Loose,
   x_Unlevel:=gx KB X G rfl e_Unlevel x_Unlevel,
   x_TooLong:=gx KB X G rfl e_TooLong x_TooLong,
   d_Shelf_init:=di rfl (Mo X G aC0) mk0 kc0 a0 gK,
   d_law_take:=dg X G a1 cT,
   d_law_plain:=dg X G a2 cT,
   d_law_mixed:=dg X G a3 cT,
   d_law_stream:=dg X G a4 cT,
   d_is_whole:=dg X G a5 gK,
   d_Shelf_has_piece:=dm rfl kk0 a6 cT,
   d_Shelf_check_piece:=dm rfl kk0 a7 cT,
   d_Shelf_check_fork:=dm rfl kk0 a8 gb,
   d_Shelf_lay:=dm rfl kk0 a9 cT,
   d_Shelf_lay_fork:=dm rfl kk0 a10 cT,
   d_Shelf_fork:=dm rfl kk0 a11 gb,
   d_halved:=dg X G a12 cT,
   d_is_plain_sign:=dg X G a13 gK,
   d_is_plain:=dg X G a14 gK,
   d_is_short:=dg X G a15 gK,
   d_ends_in:=dg X G a16 gK,
   d_Shelf_lay_leaf:=dm rfl kk0 a17 cT,
   d_Shelf_leaf:=dm rfl kk0 a18 cT,
   d_built:=dg X G a19 cT,
   d_check_length:=dg X G a20 gK,
   d_Shelf_check_text:=dm rfl kk0 a21 cT,
   d_Shelf_signs:=dm rfl kk0 a22 cT,
   d_Shelf_last_leaf:=dm rfl kk0 a23 cT,
   d_Shelf_first_leaf:=dm rfl kk0 a24 cT,
   d_are_close:=dg X G a25 gb,
   d_Shelf_piece:=dm rfl kk0 a26 cT,
   d_with_last:=dg X G a27 gb,
   d_Shelf_height:=dm rfl kk0 a28 cT,
   d_turned_left:=dg X G a29 gb,
   d_without_first:=dg X G a30 cT,
   d_turned_right:=dg X G a31 gb,
   d_linked:=dg X G a32 gb,
   d_welded:=dg X G a33 gb,
   d_joined:=dg X G a34 gb,
   d_law_made:=dg X G a35 gb,
   d_law_texts:=dg X G a36 cT,
   d_Shelf_many:=dm rfl kk0 a37 gK,
   d_law_reach:=dg X G a38 cT,
   d_parts_of:=dg X G a39 cT,
   d_reach_of:=dg X G a40 cT,
   d_law_right:=dg X G a41 cT,
   d_shared:=dg X G a42 gb,
   d_law:=dg X G a43 gK }
 obtain ⟨fd,h1,F⟩:=rp (p := "script") X G hfa a43 gK
 exact ⟨fd,h1,λbase KB _=>FnOk.imp (Jn (Z base KB) F) (Ea (T:=bf K (λn=>[C0][n]?) (λn=>[X0,X1,X2,X3,X4,X5][n]?)) law_true)⟩
theorem walk {l:PySem.W.OpenLaw} {q:Program} {loose:List Str} {XP:(Str->Option Value)->Heap->Prop} {YP:World->Heap->Prop} {d:DefRec} {K:Params->PySem.W.Frag} (hn:l.most=some 63) (hdf:d.params.defaults=[])
  (hY:∀ (w:World) (h:Heap),YP w h->(K w.params).In h)
  (F:∀ (w:World) (mg:Str->Option Value) (fa:Addr) (h:Heap),(K w.params).In h->h.Ns mainGlobals mg->mg d.name=some (.ref fa)->FX l w (K w.params) mg fa) :
  PySem.W.WalkO q loose XP YP l.row.toRowW d [] (λf vs=>PySem.call f vs) :=
 L2.walk_of (n:=63) (k:=102) (x := "script") (CX:=λw=>cN l.prog w) (sp:=λw=>rk (K w.params)) hn (by decide) hdf ⟨rfl,by decide,by decide⟩ hY F (λ_ _ a ns hl _ hS=>⟨a,ns,rfl,hS,hl,λ_=>rfl⟩) λ_ _ _ _ _ z=>Eb z
end Sk
open PySem PySem.W PyProof.Rows
section
structure PySem.W.Fast:Prop where(tw10906208452377244200 tw3044155018917049671 tw18120987791838540799 tw16545310584743746559 tw12731639517055772607 tw10643984426114772863 tw2959706850339886943 tw7782955591128508223 tw1704062453482917535 tw1827214843960879743 tw16423104459455692255 tw14226475195487654335 tw11472769789468199103 tw17687727517688337599 tw14120840252966059167 tw5720434948539516991 tw12725509905505581087 tw7657003506623399838 tw18132665697877935006 tw1410908281520538526 tw12127381620021578622 tw9464156218741700286 tw10338706361369844382 tw1412746044976376478 tw11138397329120970238 tw13332680949715369406 tw14491161891490494878 tw13427232289217037566 tw71629418449151166 tw10180861380087985246 tw9272443985119114205 tw14361678623609650013 tw4591567431989629693 tw17896375917239436989 tw17199097069875933789 tw15829980097768058397 tw18101938333862130077 tw13384713390401959229 tw6262249832261300477 tw7231670672020840701 tw14880877317851191549 tw6909784153183885212 tw236582872764859292 tw5883640321742710620 tw11603340828659216124 tw2208089453142581948 tw6080464215001461404 tw12566489073449979516 tw16975045547691191868 tw17173023550175279580 tw10893713346256692700 tw17684111887413669308 tw2787339100124462524 tw14591333266438751580 tw1200126603135422780 tw17159519359618908444 tw1976626115040848956 tw1326096210035895291 tw15832970499293330363 tw5717171452741732283 tw12276996202376876923 tw12871133070019602107 tw2814299577293459899 tw2182355529541738843 tw77352849351243035 tw11470216612223382779 tw11239073031970299931 tw6946492020645024602 tw4244231056582439738 tw7623265401228120890 tw12974100954920422138 tw8725613597051095770 tw6244564845610020538 tw14695449750594707130 tw1557558854093331130 tw4839482760571795098 tw2076378094163067546 tw3404868209863276154 tw12399689081580236346 tw8975170992962890234 tw15429768143143896410 tw14116182512346160442 tw9680357085481193786 tw7727531969065796922 tw3639561622119089370 tw10997606251451927706 tw16211373354557922426 tw13944231416302669914 tw17501113535743615034 tw15740991767821756409 tw8963632825737520089 tw4175829999649797913 tw9807198787145661145 tw5779379344168957625 tw10609780074582114937 tw8580956122144550361 tw14341240426876058073 tw10439670510897968505 tw10680930511704882425 tw10275431037208979448 tw2921538259603230616 tw12394067073374886744 tw5854404866245319384 tw11202909981372904120 tw604382724377127384 tw17486235503159000504 tw17075483797648462264 tw16854510405839021464 tw870876138875374904 tw10494200106346616984 tw5551475366638919736 tw8021383832818345975 tw12620200352990491607 tw17180144322422818647 tw4140132414994258679 tw7161336849540931255 tw7073919386763303511 tw8372636649338415671 tw11104489247000915447 tw5851883840127073687 tw10394256113080694135 tw9325414088739062071 tw12695230529813579991 tw13602706631374818423 tw17531310962986684503 tw5180290715203487767 tw973993152830975894 tw8637041301101120150 tw14941598316077168246 tw11174181873453290102 tw16203551301472629302 tw18119663945940671926 tw17657468090677226934 tw17964182657505843574 tw16836647326913207638 tw5674543652945835286 tw9519651601430243574 tw11249804631386667222 tw677867651481154774 tw12119854064085177430 tw9976590017807905846 tw1608696713212511189 tw7443378378221102901 tw7338314603568907925 tw15862789440046647925 tw11332901547532070517 tw1474681291850817109 tw13927256909674614357 tw11210937533433097685 tw13659740820539431349 tw15226571245412866421 tw3008149758583637301 tw11351913468824159541 tw11382220260506811509 tw17863029964657801301 tw17563686032644898804 tw1683164689019351924 tw9405897638199556916 tw12956543264103821076 tw8679565128883110644 tw4484509554797837972 tw17891900034779254420 tw16066805843050099156 tw14862318464542841236 tw15603423245113421972 tw13024378253039544372 tw556362784390090675 tw187308585242725299 tw13854947488776698803 tw13378033450940290867 tw10986586951966622419 tw8884323318048089811 tw12979321566375146131 tw6035831114404755987 tw8789341801650413075 tw4263077702558993907 tw787237514063062515 tw16431334295677072819 tw17049021100496929171 tw4937173330848106771 tw12695689803860182131 tw12776759378712596531 tw144415027298901874 tw5805286507688254226 tw11002011115432310290 tw6737516133646695890 tw3501732318918860242 tw12164662707419666802 tw5610985120617802898 tw578331315803220050 tw14998490456843860050 tw10056350515131917169 tw10290831804276339537 tw1906750278597533361 tw2424443725308594865 tw9699386794307505777 tw14788912315470070321 tw1613929106078866865 tw9977144237372370353 tw11629749719312109969 tw9961860380743254321 tw15576114371257645329 tw10275683715798752433 tw5877421370787317937 tw9336448568125355121 tw3973602915081140337 tw17246106716552442929 tw2065594949031110576 tw14419836389339193200 tw14934903885849852784 tw10831685201522145104 tw8077563675003218736 tw2671517300675924688 tw6233088043832091280 tw12994231982305399376 tw10496422391908249168 tw3096506314688772624 tw7179269496442993104 tw16225449175088429360 tw2777830655840523440 tw5366301253406202960 tw13995928358236979183 tw1727102776423669743 tw13487671088606121743 tw4979987132979732207 tw5205856464302024367 tw6697883144736764591 tw17339732797774804623 tw4758881460104934895 tw14782520708439169455 tw10149427262956255599 tw5426035117546533135 tw5373106316063913199 tw3140492989479462127 tw1898347522505132207 tw10372683112352371855 tw1614824873552926831 tw11620990667607526415 tw1924331421908168719 tw10044549014812456942 tw17328233538995705838 tw11032994124734097358 tw376768333969158030 tw13453903183946608494 tw17067043251918106414 tw15430003302094991118 tw12935121063439699726 tw3543121623920280334 tw5605277047497999054 tw18040137456227978830 tw16277602011637004846 tw9436404234219416942 tw15002460452874613070 tw3167140960799718734 tw13564143163867562286 tw13294806929821762798 tw359819341051628750 tw5506454473957444814 tw2583233380876036270 tw7092156192332382286 tw15881245552081105677 tw10283249186398831341 tw12064647794504189549 tw6483168049340345933 tw18255273978130433485 tw3720950225682605485 tw12604899714917894573 tw11163606629212683661 tw16461952999586114829 tw8273316786663425069 tw13736854257125228589 tw13377651802782806860 tw16090800890206691084 tw3517552715849933420 tw8134595303725848140 tw877579518202509772 tw11709251172665616844 tw15167500513886821836 tw7309008632350291404 tw11272709372627962284 tw15426866424466067660 tw12685216599379915820 tw12324211693223718956 tw12283694885794085900 tw1911089521774968811 tw9802127272486004651 tw9999121162394633835 tw8559770877208876619 tw10211138177817099819 tw1100703624939150891 tw4465369001769158091 tw18061707674388688203 tw5136776783644322123 tw15888910553938551979 tw9465677869809709195 tw10899807925364561003 tw12090095557539912747 tw16886770420527039531 tw505982694109386730 tw4164720332828081066 tw17757927161088778154 tw16166398989348249290 tw17497773006885797546 tw6386767936934128042 tw8807798425419010474 tw6284601634031477034 tw1044409973445534794 tw16699422912669325289 tw13056600922813464489 tw1064327452010281897 tw2310055075207291785 tw3764444725711057801 tw17543663982817163081 tw8949143582085235401 tw12475647888260477577 tw17615583875365876329 tw1116641119048214121 tw5582284354957830601 tw2822456917122867497 tw822586293725647113 tw4380662414114186409 tw1044527186975787113 tw593646657583984424 tw9361970559311426312 tw10253662623833945832 tw1163445711251975848 tw3588594956617122408 tw6599152228671387240 tw12064938641241515592 tw7383483426356430152 tw6803372057478309160 tw4914810159487324360 tw6397437054087482536 tw5854375077714860168 tw141191013490644072 tw8840635486178868199 tw7389894585888354183 tw10604884661016442759 tw13321272132847848103 tw2394084286435755655 tw10452457918395582023 tw8914626781886147079 tw14383334924181546503 tw175398975673447847 tw17214441070538760455 tw11677267701583028327 tw8329349623166791783 tw5856610406573231111 tw10481707498679161863 tw7762452379431960550 tw17771979724418131846 tw3269192907243761478 tw13935110197060499206 tw2763127641995230886 tw11375410305268073958 tw15914995287633522150 tw2535131676616199622 tw14365598306322592166 tw2961613089109518758 tw11667894472376042886 tw12393503782492194150 tw16466791820578745670 tw2975268676657195270 tw13428013159017087238 tw2058803180087445734 tw12715954226881400998 tw15284148378550102054 tw12351032156340135974 tw1683996023752677317 tw519264215628157797 tw208133175798351589 tw4213142720485321381 tw12126174358766552645 tw16662491831675683365 tw14958732106407286245 tw7894685332071862757 tw6310032882889300421 tw856494418524968357 tw3913390996490208645 tw8923041815491399013 tw15949624734331849989 tw8731456557533839589 tw12418664372628807877 tw10456244835589056677 tw7654468409534283941 tw10163463706991967365 tw17975792964032705573 tw2975482323948481573 tw290163712949656388 tw13039530463869179620 tw18018759807292493476 tw3611693307587209796 tw9688389635487042916 tw6562449556678573348 tw18155948154950371588 tw10105967635495777508 tw16253780113714955300 tw12440908086275228676 tw5271641305420796835 tw16035274662782537603 tw12687054832191276899 tw3840383058734370627 tw18389600460109339363 tw353869109805106915 tw7505284004604263107 tw262493662430260867 tw16761443295942918755 tw11501509580400771651 tw6460037783315331459 tw18166600921058429283 tw15517467966554744131 tw2210673381207433507 tw4267162270063270147 tw11018907376623671523 tw15364338244434196707 tw5809553122020553923 tw10015587027713812675 tw17904018311775915171 tw4356787024552023139 tw17222239677324885954 tw2168675295730520994 tw5848725959576500002 tw17375893013395288738 tw16079758870946460258 tw12306359519741429250 tw5567624365404587490 tw6334492388421529026 tw15274487649578821794 tw4312956396409240706 tw5610360320888901441 tw1614851824289485633 tw3077519703585359521 tw14975565650264491585 tw16014168354015676993 tw6056787498001648193 tw10466464121261985185 tw7394133347205244097 tw10704317856763269281 tw9782869071576753313 tw9910462726418052225 tw7880089847575060545 tw5836230187227259969 tw8295587384631599105 tw16174189681494286304 tw10852004844204084192 tw17543922964435615680 tw16621313506641629120 tw10364103175260624768 tw5347376898638261088 tw15183976787451743040 tw3203586786560744128 tw9180303411086309984 tw2675985517290968640 tw8032980641590040064 tw4107991994907270592 tw1124641938919267712 tw10059460442339399936 tw17908154308857015520 tw10951010813235818656 tw12580434625733144704 tw18034672814565069888 tw427385085696223232:True)
end
set_option maxRecDepth 100000 in
set_option maxHeartbeats 0 in
theorem PySem.Challenge.cw_skeinwood_k74_reach_just_holds : PySem.Challenge.rw_skeinwood_k74_reach_just.Holds := by
 w_on; o_law; k_head; (case hw => w_witness2)
 k_fill
 refine Sk.walk (l := PySem.Challenge.rw_skeinwood_k74_reach_just) rfl rfl (fun w h Y => PySem.W.kIn_of Y) ?F
 case F =>
  intro w mg fa h KX G hmg
  refine' Sk.all_mk KX G hmg ?aC0 ?a0 ?a6 ?a7 ?a8 ?a9 ?a10 ?a11 ?a17 ?a18 ?a21 ?a22 ?a23 ?a24 ?a26 ?a28 ?a37 ?a1 ?a2 ?a3 ?a4 ?a5 ?a12 ?a13 ?a14 ?a15 ?a16 ?a19 ?a20 ?a25 ?a27 ?a29 ?a30 ?a31 ?a32 ?a33 ?a34 ?a35 ?a36 ?a38 ?a39 ?a40 ?a41 ?a42 ?a43 ?kk0 ?mk0 ?kc0 ?nf0_0 ?nf0_1 ?nf0_2 ?nf0_3 ?nf0_4 ?nf0_5 ?nf0_6 ?nf0_7 ?z_abs ?z_all ?z_bool ?z_int ?z_isinstance ?z_len ?z_list ?z_max ?z_range ?z_reversed ?z_set ?z_sorted ?z_str ?z_sum ?e_SkeinError ?e_NoText ?x_NoText ?e_NoPiece ?x_NoPiece ?e_Loose ?x_Loose ?e_Unlevel ?x_Unlevel ?e_TooLong ?x_TooLong ?m_LEAF_SIGNS ?m_MOST_PLAIN ?m_MOST_SIGNS
  (case aC0 => apply Sm.na;k_is)
  (case a0 => apply Sm.dn<;>k_is)
  (case a6 => apply Sm.dn<;>k_is)
  (case a7 => apply Sm.dn<;>k_is)
  (case a8 => apply Sm.dn<;>k_is)
  (case a9 => apply Sm.dn<;>k_is)
  (case a10 => apply Sm.dn<;>k_is)
  (case a11 => apply Sm.dn<;>k_is)
  (case a17 => apply Sm.dn<;>k_is)
  (case a18 => apply Sm.dn<;>k_is)
  (case a21 => apply Sm.dn<;>k_is)
  (case a22 => apply Sm.dn<;>k_is)
  (case a23 => apply Sm.dn<;>k_is)
  (case a24 => apply Sm.dn<;>k_is)
  (case a26 => apply Sm.dn<;>k_is)
  (case a28 => apply Sm.dn<;>k_is)
  (case a37 => apply Sm.dn<;>k_is)
  (case a1 => apply Sm.dk<;>k_is)
  (case a2 => apply Sm.dk<;>k_is)
  (case a3 => apply Sm.dk<;>k_is)
  (case a4 => apply Sm.dk<;>k_is)
  (case a5 => apply Sm.dk<;>k_is)
  (case a12 => apply Sm.dk<;>k_is)
  (case a13 => apply Sm.dk<;>k_is)
  (case a14 => apply Sm.dk<;>k_is)
  (case a15 => apply Sm.dk<;>k_is)
  (case a16 => apply Sm.dk<;>k_is)
  (case a19 => apply Sm.dk<;>k_is)
  (case a20 => apply Sm.dk<;>k_is)
  (case a25 => apply Sm.dk<;>k_is)
  (case a27 => apply Sm.dk<;>k_is)
  (case a29 => apply Sm.dk<;>k_is)
  (case a30 => apply Sm.dk<;>k_is)
  (case a31 => apply Sm.dk<;>k_is)
  (case a32 => apply Sm.dk<;>k_is)
  (case a33 => apply Sm.dk<;>k_is)
  (case a34 => apply Sm.dk<;>k_is)
  (case a35 => apply Sm.dk<;>k_is)
  (case a36 => apply Sm.dk<;>k_is)
  (case a38 => apply Sm.dk<;>k_is)
  (case a39 => apply Sm.dk<;>k_is)
  (case a40 => apply Sm.dk<;>k_is)
  (case a41 => apply Sm.dk<;>k_is)
  (case a42 => apply Sm.dk<;>k_is)
  (case a43 => apply Sm.dk<;>k_is)
  (case kk0 => constructor<;>k_is)
  (case mk0 => k_is)
  (case kc0 => k_is)
  (case nf0_0 => apply Sm.fatt;k_is)
  (case nf0_1 => apply Sm.fatt;k_is)
  (case nf0_2 => apply Sm.fatt;k_is)
  (case nf0_3 => apply Sm.fatt;k_is)
  (case nf0_4 => apply Sm.fatt;k_is)
  (case nf0_5 => apply Sm.fatt;k_is)
  (case nf0_6 => apply Sm.fatt;k_is)
  (case nf0_7 => apply Sm.fatt;k_is)
  (case z_abs => apply Sm.na;k_is)
  (case z_all => apply Sm.na;k_is)
  (case z_bool => apply Sm.na;k_is)
  (case z_int => apply Sm.na;k_is)
  (case z_isinstance => apply Sm.na;k_is)
  (case z_len => apply Sm.na;k_is)
  (case z_list => apply Sm.na;k_is)
  (case z_max => apply Sm.na;k_is)
  (case z_range => apply Sm.na;k_is)
  (case z_reversed => apply Sm.na;k_is)
  (case z_set => apply Sm.na;k_is)
  (case z_sorted => apply Sm.na;k_is)
  (case z_str => apply Sm.na;k_is)
  (case z_sum => apply Sm.na;k_is)
  (case e_SkeinError => apply Sm.na;k_is)
  (case e_NoText => apply Sm.na;k_is)
  (case x_NoText => apply Sm.xi;k_exc)
  (case e_NoPiece => apply Sm.na;k_is)
  (case x_NoPiece => apply Sm.xi;k_exc)
  (case e_Loose => apply Sm.na;k_is)
  (case x_Loose => apply Sm.xi;k_exc)
  (case e_Unlevel => apply Sm.na;k_is)
  (case x_Unlevel => apply Sm.xi;k_exc)
  (case e_TooLong => apply Sm.na;k_is)
  (case x_TooLong => apply Sm.xi;k_exc)
  (case m_LEAF_SIGNS => apply Sm.na;k_is)
  (case m_MOST_PLAIN => apply Sm.na;k_is)
  (case m_MOST_SIGNS => apply Sm.na;k_is)
