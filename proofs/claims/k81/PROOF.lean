import PyProof.Rows.All
import Wide.All
import OpenK.AllK
import Wide.FinOn
import Lean
import PyProof.EqAt
import PyProof.EqKinds
import PyProof.TupleCall
import PyProof.StrCalls2
import PyProof.SumAny
import PyProof.Rows.Range3
import PyProof.StrBlockI
import PyProof.SliceStr2
import PyProof.IsRules
import PyProof.StrBlock2
import PyProof.Seq
import PyProof.Rows.SortStr
import PyProof.Rows.SortShellK
import KE.KDictOf
import KE.KDictList
import KE.KTryMore
import KE.KEqDict
import PyProof.StrLawsIn
import PySem.Challenge.RW_skeinwood_k81_back_and_again
set_option Elab.async false
set_option genSizeOf false
set_option bootstrap.genMatcherCode false
set_option compiler.extract_closed false
set_option compiler.postponeCompile true
set_option linter.all false
set_option maxRecDepth 100000
local macro_rules|`(def$n:declId$s:optDeclSig$v:declVal)=>`(noncomputable def$n:declId$s:optDeclSig$v:declVal)
local macro_rules|`(abbrev$n:declId$s:optDeclSig$v:declVal)=>`(noncomputable abbrev$n:declId$s:optDeclSig$v:declVal)
local macro_rules|`(@[simp]def$n:declId$s:optDeclSig$v:declVal)=>`(@[simp]noncomputable def$n:declId$s:optDeclSig$v:declVal)
noncomputable section
section
open PySem PySem.Spec PyProof.Rows
def MY:=@List.getElem?_eq_some_iff
def MZ:=@Nat.le_refl
def M4:=@wpAny_bind
def M5:=@List.getElem?_set_ne
def M6:=@Nat.le_trans
def M7:=@Heap.get?_push_of_some
def M8:=@if_pos
def M9:=@if_neg
def Na:=@List.getElem?_set_self
def Nb:=@List.getElem?_append_left
def Nc:=@List.length_map
def Nd:=@wpAny_pure
def Nf:=@PySem.F.plainAttrs_list
def Ng:=@Heap.lt_size
def Nh:=@List.size_toArray
def Ni:=@List.getElem?_eq_getElem
def Nj:=@PySem.F.slot_list_append
def Nk:=@PySem.F.type_list_append
def Nl:=@Nat.lt_of_le_of_lt
def Nn:=@Heap.get?_push_size
def Np:=@List.mem_cons
def Nq:=@Nat.lt_of_lt_of_le
def Nr:=@Option.isSome_iff_exists
def Nt:=@wpAny_truthy_bool
def Nu:=@List.mem_append_left
def Nv:=@Bool.false_ne_true
def Nw:=@Option.map_eq_some_iff
def Nx:=@Nat.add_le_add_left
def Ny:=@List.mem_append_right
def Nz:=@PySem.boot_len
def NB:=@Nat.zero_le
def NC:=@List.getElem?_append_right
def ND:=@List.mem_of_getElem?
def NF:=@decide_eq_false
def NG:=@List.map_cons
def NH:=@Nat.ne_of_lt
def NI:=@List.mem_cons_of_mem
def NJ:=@Option.some.inj
def NK:=@List.getElem?_map
def NL:=@List.length_append
def NM:=@Bool.and_eq_true
def NO:=@PySem.W.mg_none_of
def NP:=@wpAny_mono
def NQ:=@decide_eq_true
def NR:=@List.all_eq_true
def NU:=@List.take_of_length_le
def NV:=@List.mem_append
def NW:=@List.length_set
def NX:=@List.mem_cons_self
def NY:=@List.find?_cons
def NZ:=@List.length_cons
def N7:=@PySem.W.kia_one
def N8:=@List.nodup_cons
def N9:=@List.map_append
def Oa:=@List.length_take
def Ob:=@PySem.W.mg_of
def Oc:=@List.prefix_refl
def Oe:=@List.length_replicate
def Of:=@Array.all_eq_true_iff_forall_mem
def Og:=@wpAny_holding
def Oh:=@List.drop_of_length_le
def Oi:=@PyProof.Rows.boot_max
def Oj:=@Int.eq_ofNat_of_zero_le
def Ol:=@List.length_range
def Om:=@PySem.mem_of_lookup
def On:=@PySem.F.slot_dict_get
def Oq:=@List.pairwise_cons
def Os:=@wpAny_call_entry
def Ot:=@Nat.lt_irrefl
def Ou:=@List.any_cons
def Ov:=@List.getElem?_replicate
def Ow:=@wpAny_newObj_type
def Ox:=@decide_eq_true_eq
def Oy:=@Bool.eq_iff_iff
def Oz:=@Int.max_eq_left
def OA:=@Nat.not_lt_zero
def OB:=@wpAny_loadPart'
def OC:=@Array.length_toList
def OD:=@List.map_congr_left
def OE:=@PyProof.Rows.callWith_type1
def OF:=@Calls.callWith_builtin
def OG:=@List.length_drop
def OH:=@List.filter_cons
def OI:=@List.getElem_mem
def OJ:=@List.not_mem_nil
def OK:=@tupleKind_room_in1
def OL:=@List.getElem?_eq_none
def OM:=@PySem.typeIs_bool
def OO:=@Calls.evalArgs_plain
def OP:=@Heap.SameBut.update
def OQ:=@PySem.F.plainAttrs_dict
def OS:=@List.length_eq_zero_iff
def OT:=@Int.max_eq_right
def OU:=@PySem.F.slot_bool_hash
def OV:=@Calls.spliced_cons
def OW:=@PySem.F.entry_dict_get
def OX:=@List.getElem?_take
def OY:=@Nat.min_eq_left
def OZ:=@List.range_succ
def O0:=@Heap.get?_update_self
def O1:=@wpAny_callSpecialIfBoundUnlessNone?_slot
def O2:=@Option.isSome_map
def O3:=@if_true
def O4:=@List.nodup_nil
def O5:=@List.mem_of_mem_drop
def O6:=@wpAny_of_eq
def O7:=@List.mem_map
def O8:=@List.map_nil
def O9:=@List.lookup_cons
def Pa:=@Nat.add_comm
def Pb:=@List.filterMap_cons
def Pd:=@List.getElem_of_mem
def Pe:=@List.getElem?_range
def Pf:=@List.append_nil
def Pg:=@Nat.min_le_left
def Ph:=@List.nil_append
def Pi:=@wpAny_passesOwn
def Pj:=@List.mem_singleton
def Pk:=@List.getElem?_drop
def Pl:=@assignInOrder_cons
def Pm:=@wpAny_load
def Pn:=@wpAny_Call_Name_kw
def Po:=@call_meets
def Pp:=@List.mem_range
def Pq:=@Calls.spliced_nil
def Pr:=@List.map_map
def Pt:=@List.nodup_append
def Pu:=@Nat.lt_succ_of_lt
def Pv:=@Nat.mul_le_mul
def Pw:=@call_meetsIn
def Px:=@PyProof.Rows.slot_tuple_getitem
def Py:=@Array.getElem?_toList
def Pz:=@List.length_filter_le
def PB:=@wpAny_notOrdered_dict
def PC:=@Nat.lt_succ_self
def PD:=@List.eq_nil_of_length_eq_zero
def PF:=@List.mem_of_mem_take
def PH:=@List.take_append_of_le_length
def PJ:=@Int.emod_nonneg
def PK:=@wpAny_execs_nil
def PL:=@wpAny_ite_split
def PM:=@PySem.W.plainGet_of
def PN:=@Nat.le_of_lt
def PQ:=@Nat.lt_trans
def PR:=@PySem.W.of_hideAll
def PU:=@Calls.Name_function_global
def PV:=@List.mem_filterMap
def PX:=@List.filterMap_map
def PY:=@PySem.W.callWith_K
def PZ:=@Int.emod_lt_of_pos
def P0:=@typeIs_str
def P2:=@List.drop_eq_getElem_cons
def P3:=@Calls.call_function_entry
def P4:=@PySem.W.kitx_list
def P5:=@Nat.le_succ
def P6:=@List.getElem?_set
def P7:=@of_decide_eq_true
def P8:=@wpAny_pyIter_list
def P9:=@wpAny_Call_method
def Qa:=@decide_true
def Qb:=@PySem.F.args_tuple_add_2
def Qc:=@PySem.SeqAt.Reads.unique
def Qd:=@PySem.F.slot_NoneType_eq
def Qe:=@wpAny_standAt
def Qg:=@PySem.F.entry_tuple_add
def Qh:=@PySem.F.args_dict_get_2
def Qi:=@PySem.F.args_dict_get_3
def Qj:=@Nat.le_of_not_lt
def Qk:=@Array.any_toList
def Ql:=@Array.toList_inj
def Qm:=@List.all_toArray
def Qn:=@List.pairwise_singleton
def Qo:=@List.getElem?_cons_succ
def Qp:=@wpAny_callSpecial?_slot
def Qq:=@eq_of_beq
def Qr:=@or_false
def Qs:=@decide_eq_false_iff_not
def Qt:=@Nat.le_of_eq
def Qu:=@PySem.W.cellsFrom_some
def Qv:=@PySem.F.slot_tuple_add
def Qw:=@Heap.get?_update_other
def Qx:=@Nat.mul_comm
def Qy:=@Nat.pow_succ
def Qz:=@List.length_eq_one_iff
def QA:=@wpAny_pyNext_range_end
def QB:=@wpAny_pyIter_rangeiter
def QC:=@subscriptTail_builtinR
def QD:=@codeAny_mono
def QE:=@List.mem_filter
def QF:=@List.of_mem_zip
def QG:=@List.foldl_cons
def QH:=@wpAny_specialOf
def QI:=@PySem.F.slot_dict_pop
def QJ:=@PySem.F.type_dict_get
def QK:=@PySem.W.methodCall_KW
def QL:=@List.dropLast_eq_take
def QM:=@PySem.F.args_int_eq_2
def QN:=@PySem.F.slot_tuple_eq
def QO:=@PySem.F.slot_list_pop
def QP:=@PySem.F.type_list_pop
def QQ:=@PyProof.Rows.boot_all
def QR:=@codeAny_handlers_test
def QS:=@Heap.get?_none_of_le
def QT:=@Heap.size_push
def QU:=@List.getElem?_of_mem
def QV:=@List.drop_zero
def QW:=@PySem.F.slot_dict_eq
def QX:=@PySem.F.slot_bool_eq
def QY:=@PySem.F.entry_int_eq
def QZ:=@PySem.F.slot_list_eq
def Q3:=@Nat.add_le_add
def Q4:=@Nat.mul_add
def Q5:=@Nat.pow_le_pow_right
def Q6:=@wpAny_field
def Q7:=@lookup_relabel_local
def Q8:=@isSubtype_type
def Q9:=@wpAny_bindName
def Ra:=@Value.isStrOf_shape
def Rb:=@PySem.W.hideAll_get
def Rc:=@PySem.W.callWith_K0
def Re:=@PySem.W.kdu_collect
def Rf:=@PySem.F.slot_int_eq
def Rg:=@PySem.F.slot_str_eq
def Rh:=@Nat.mul_le_mul_left
def Ri:=@Int.toNat_of_nonneg
def Rj:=@wpAny_handleBy_cons
def Rk:=@List.set_comm
def Rl:=@PySem.Reads.unique
def Rm:=@List.prefix_append
def Rn:=@Nat.add_sub_cancel
def Ro:=@Bool.not_eq_false'
def Rp:=@wpAny_pyIter_range
def Rq:=@wpAny_rule
def Rr:=@Value.isInt_shape
def Rt:=@PySem.W.kitx_dict
def Ru:=@Int.toNat_natCast
def Rv:=@Nat.zero_add
def Rw:=@List.append_assoc
def Rx:=@Bool.eq_false_iff
def Ry:=@List.find?_append
def Rz:=@List.foldl_append
def RA:=@wpAny_assign_Name
def RB:=@assignInOrder_nil
def RC:=@concat_meets
def RD:=@wpAny_sequenceKey
def RE:=@seqIndex_neg
def RF:=@slot_dict_setitem
def RG:=@wpAny_pyIter_enum
def RH:=@wpAny_Name
def RI:=@chain_link
def RJ:=@if_false
def RK:=@typeIs_int
def RL:=@beq_iff_eq
end
namespace L2
open PySem PySem.Spec PyProof.Rows
abbrev aU:=Sum Int Str
def kf:aU->Value->Bool
 | .inl k,v=>Value.isInt k v
 | .inr x,v=>Value.isStrOf x v
def mU (w:World):aU->Int
 | .inl k=>hashInt k
 | .inr x=>hashStr w x
theorem iJ:∀ {k:aU} {v:Value},kf k v=true->(∃ i t,k=Sum.inl i/\v=Value.int i t)\/(∃ x t,k=Sum.inr x/\v=Value.str x t)
 | .inl i,v,h=>by
  obtain ⟨t,e⟩:=Rr (k:=i) (v:=v) h
  exact .inl ⟨i,t,rfl,e⟩
 | .inr x,v,h=>by
  obtain ⟨t,e⟩:=Ra (x:=x) (v:=v) h
  exact .inr ⟨x,t,rfl,e⟩
theorem BW (i:Int) (t:Tok):kf (.inl i) (.int i t)=true:=by simp [kf,Value.isInt]
theorem BX (x:Str) (t:Tok):kf (.inr x) (.str x t)=true:=by simp [kf,Value.isStrOf]
theorem pd (a b:Int):decide ((Sum.inl a:aU)=Sum.inl b)=(a == b):=by
 by_cases e:a=b
 ·subst e;simp
 ·have h : ¬ (Sum.inl a:aU)=Sum.inl b:=λq=>e (Sum.inl.inj q)
  rw [NF h];exact (beq_eq_false_iff_ne.mpr e).symm
theorem xU (a b:Str):decide ((Sum.inr a:aU)=Sum.inr b)=decide (a=b):=by
 by_cases e:a=b
 ·subst e;simp
 ·have h : ¬ (Sum.inr a:aU)=Sum.inr b:=λq=>e (Sum.inr.inj q)
  rw [NF h,NF e]
theorem rV (a:Int) (b:Str):decide ((Sum.inl a:aU)=Sum.inr b)=false:=NF (λq=>nomatch q)
theorem rW (a:Str) (b:Int):decide ((Sum.inr a:aU)=Sum.inl b)=false:=NF (λq=>nomatch q)
def fF (prog:Program) (w:World):PySem.KeyKind prog w aU where
 is:=kf
 hash:=mU w
 inj:=λv a b ha hb=>by
  rcases iJ ha with ⟨i,t,rfl,rfl⟩ | ⟨x,t,rfl,rfl⟩
  ·rcases iJ hb with ⟨j,u,rfl,e⟩ | ⟨y,u,rfl,e⟩
   ·injection e with e1 _;rw [e1]
   ·exact nomatch e
  ·rcases iJ hb with ⟨j,u,rfl,e⟩ | ⟨y,u,rfl,e⟩
   ·exact nomatch e
   ·injection e with e1 _;rw [e1]
 byValue:=λk v h=>by
  rcases iJ h with ⟨i,t,rfl,rfl⟩ | ⟨x,t,rfl,rfl⟩<;>rfl
 pyHash:=λhv h=>by
  rcases iJ hv with ⟨i,t,rfl,rfl⟩ | ⟨x,t,rfl,rfl⟩
  ·exact wpAny_pyHash_int h
  ·exact wpAny_pyHash_str h
 eqBool:=λhu hv h=>by
  rcases iJ hu with ⟨i,t,rfl,rfl⟩ | ⟨x,t,rfl,rfl⟩
  ·rcases iJ hv with ⟨j,u,rfl,rfl⟩ | ⟨y,u,rfl,rfl⟩
   ·rw [pd] at h;exact wpAny_eqBool_int h
   ·rw [rV] at h;exact SeqAt.EqAt.int_str i t y u _ _ _ _ h
  ·rcases iJ hv with ⟨j,u,rfl,rfl⟩ | ⟨y,u,rfl,rfl⟩
   ·rw [rW] at h;exact SeqAt.EqAt.str_int x t j u _ _ _ _ h
   ·rw [xU] at h;exact wpAny_eqBool_str h
 «strs» := λk x t v h=>by
  rcases iJ h with ⟨i,u,rfl,e⟩ | ⟨y,u,rfl,e⟩
  ·exact nomatch e
  ·injection e with e1 _
   subst e1
   cases v<;>rfl
abbrev kg (b:Bool):Int:=if b then 1 else 0
def kh:aU->Value->Bool
 | .inl k,.bool b=>decide (k=kg b)
 | .inl k,v=>Value.isInt k v
 | .inr x,v=>Value.isStrOf x v
theorem ig:∀ {k:aU} {v:Value},kh k v=true->(∃ i t,k=Sum.inl i/\v=Value.int i t)\/(∃ b,k=Sum.inl (kg b)/\v=Value.bool b)\/(∃ x t,k=Sum.inr x/\v=Value.str x t)
 | .inl i,v,h=>by
  cases v with
  | bool b=>exact .inr (.inl ⟨b,by rw [P7 (show decide (i=kg b)=true from h)],rfl⟩)
  | int j t =>
   obtain ⟨t,e⟩:=Rr (k:=i) (v:=.int j t) h
   exact .inl ⟨i,t,rfl,e⟩
  | _=>exact absurd h (by simp [kh,Value.isInt])
 | .inr x,v,h=>by
  obtain ⟨t,e⟩:=Ra (x:=x) (v:=v) h
  exact .inr (.inr ⟨x,t,rfl,e⟩)
theorem BY {prog:Program} {w:World} {A:Around} {E:Value->Shared->Prop} {s:Shared} {b:Bool} {Q:Int->Shared->Prop} (h:Q (hashInt (kg b)) { s with toks:=s.toks+1 }) :
  wpAny (model prog w) A (pyHash (.bool b)) Q E s:=by
 unfold pyHash
 unfold pyHashByItsType
 have hv:[Value.bool b].any Value.onHeap=false:=rfl
 refine M4 ?_
 rw [cRoomFor,M9 (by rw [hv];exact Nv)];refine Nd ?_
 refine M4 (QH (OM s b) PySem.F.slot_bool_hash.lookup ?_)
 show wpAny _ _ (if (some (Value.builtin "int.__hash__") == some Value.none)=true then _ else _) Q E s
 rw [M9 (by rw [beq_builtin_none];exact Nv)]
 refine M4 (QH (OM s b) PySem.F.slot_bool_hash.lookup ?_)
 show wpAny _ _ (callSpecialIfBoundUnlessNone? (.bool b) "__hash__" _ >>= _) Q E s
 cases b with
 | false =>
  refine M4 (O1 (OM s false) OU
   (Os OU (OM s false) entry_int_hash
    (show wpAny _ _ (do ret (<- mkInt 0)) _ _ s from wpAny_ret_mkInt ?_) (args_int_hash _)))
  exact Nd h
 | true =>
  refine M4 (O1 (OM s true) OU
   (Os OU (OM s true) entry_int_hash
    (show wpAny _ _ (do ret (<- mkInt 1)) _ _ s from wpAny_ret_mkInt ?_) (args_int_hash _)))
  exact Nd h
theorem BZ (a b:Bool):(a == b)=decide ((Sum.inl (kg a):aU)=Sum.inl (kg b)):=by cases a<;>cases b<;>decide
def ij (prog:Program) (w:World):PySem.KeyKind prog w aU where
 is:=kh
 hash:=mU w
 inj:=λv a b ha hb=>by
  rcases ig ha with ⟨i,t,rfl,rfl⟩ | ⟨c,rfl,rfl⟩ | ⟨x,t,rfl,rfl⟩
  ·rcases ig hb with ⟨j,u,rfl,e⟩ | ⟨d,rfl,e⟩ | ⟨y,u,rfl,e⟩
   ·injection e with e1 _;rw [e1]
   ·exact nomatch e
   ·exact nomatch e
  ·rcases ig hb with ⟨j,u,rfl,e⟩ | ⟨d,rfl,e⟩ | ⟨y,u,rfl,e⟩
   ·exact nomatch e
   ·injection e with e1;rw [e1]
   ·exact nomatch e
  ·rcases ig hb with ⟨j,u,rfl,e⟩ | ⟨d,rfl,e⟩ | ⟨y,u,rfl,e⟩
   ·exact nomatch e
   ·exact nomatch e
   ·injection e with e1 _;rw [e1]
 byValue:=λk v h=>by
  rcases ig h with ⟨i,t,rfl,rfl⟩ | ⟨c,rfl,rfl⟩ | ⟨x,t,rfl,rfl⟩<;>rfl
 pyHash:=λhv h=>by
  rcases ig hv with ⟨i,t,rfl,rfl⟩ | ⟨c,rfl,rfl⟩ | ⟨x,t,rfl,rfl⟩
  ·exact wpAny_pyHash_int h
  ·exact BY h
  ·exact wpAny_pyHash_str h
 eqBool:=λhu hv h=>by
  rcases ig hu with ⟨i,t,rfl,rfl⟩ | ⟨c,rfl,rfl⟩ | ⟨x,t,rfl,rfl⟩
  ·rcases ig hv with ⟨j,u,rfl,rfl⟩ | ⟨d,rfl,rfl⟩ | ⟨y,u,rfl,rfl⟩
   ·rw [pd] at h;exact wpAny_eqBool_int h
   ·rw [pd] at h;exact SeqAt.EqAt.int_bool i t d _ _ _ _ h
   ·rw [rV] at h;exact SeqAt.EqAt.int_str i t y u _ _ _ _ h
  ·rcases ig hv with ⟨j,u,rfl,rfl⟩ | ⟨d,rfl,rfl⟩ | ⟨y,u,rfl,rfl⟩
   ·rw [pd] at h;exact SeqAt.EqAt.bool_int c j u _ _ _ _ h
   ·rw [<- BZ] at h;exact SeqAt.EqAt.bool_bool c d _ _ _ _ h
   ·rw [rV] at h;exact SeqAt.EqAt.bool_str c y u _ _ _ _ h
  ·rcases ig hv with ⟨j,u,rfl,rfl⟩ | ⟨d,rfl,rfl⟩ | ⟨y,u,rfl,rfl⟩
   ·rw [rW] at h;exact SeqAt.EqAt.str_int x t j u _ _ _ _ h
   ·rw [rW] at h;exact SeqAt.EqAt.str_bool x t d _ _ _ _ h
   ·rw [xU] at h;exact wpAny_eqBool_str h
 «strs» := λk x t v h=>by
  rcases ig h with ⟨i,u,rfl,e⟩ | ⟨d,rfl,e⟩ | ⟨y,u,rfl,e⟩
  ·exact nomatch e
  ·exact nomatch e
  ·injection e with e1 _
   subst e1
   cases v<;>rfl
theorem B3 (prog:Program) (w:World) (i:Int) (t:Tok):(ij prog w).is (.inl i) (.int i t)=true:=by show kh (.inl i) (.int i t)=true;simp [kh,Value.isInt]
theorem B4 (prog:Program) (w:World) (x:Str) (t:Tok):(ij prog w).is (.inr x) (.str x t)=true:=by show kh (.inr x) (.str x t)=true;simp [kh,Value.isStrOf]
theorem B5 (prog:Program) (w:World) (k:aU) (v:Value):(fF prog w).is k v=kf k v:=rfl
theorem B6 (prog:Program) (w:World) (i:Int) (t:Tok):(fF prog w).is (.inl i) (.int i t)=true:=BW i t
theorem B7 (prog:Program) (w:World) (x:Str) (t:Tok):(fF prog w).is (.inr x) (.str x t)=true:=BX x t
inductive V where
 | non | bl (b:Bool) | int (i:Int) | str (x:Str) | byt (b:Array UInt8) | flt (b:UInt64) | ref (a:Addr) | ty (n:String)
 deriving DecidableEq
def RelV:V->Value->Prop
 | .non,u=>u=Value.none
 | .bl b,u=>u=Value.bool b
 | .int i,u=>∃ t,u=Value.int i t
 | .str x,u=>∃ t,u=Value.str x t
 | .byt b,u=>∃ t,u=Value.bytes b t
 | .flt b,u=>∃ t,u=Value.float b t
 | .ref a,u=>u=Value.ref a
 | .ty n,u=>u=Value.type n
abbrev Vals:List V->List Value->Prop:=Paired RelV
theorem Vals.length {xs:List V} {us:List Value} (r:Vals xs us):xs.length=us.length:=Paired.length r
theorem Vals.get:∀ {xs:List V} {us:List Value} {i:Nat} {x:V},Vals xs us->xs[i]? = some x->∃ u,us[i]? = some u/\RelV x u
 | _,_,_,_,.nil,e=>by simp at e
 | _,_,0,_,.cons r _,e=>by simp at e;subst e;exact ⟨_,rfl,r⟩
 | _,_,i+1,x,.cons _ t,e=>by
  obtain ⟨u,h1,h2⟩:=Vals.get (i:=i) (x:=x) t (by simpa using e)
  exact ⟨u,by simpa using h1,h2⟩
theorem Vals.set {x:V} {u:Value} (r:RelV x u):∀ {xs:List V} {us:List Value} (i:Nat),Vals xs us->Vals (xs.set i x) (us.set i u)
 | _,_,_,.nil=>.nil
 | _,_,0,.cons _ t=>.cons r t
 | _,_,i+1,.cons q t=>.cons q (Vals.set r i t)
theorem Vals.append:∀ {xs ys:List V} {us ws:List Value},Vals xs us->Vals ys ws->Vals (xs++ys) (us++ws)
 | _,_,_,_,.nil,s=>s
 | _,_,_,_,.cons r t,s=>.cons r (Vals.append t s)
theorem Vals.take:∀ {xs:List V} {us:List Value} (n:Nat),Vals xs us->Vals (xs.take n) (us.take n)
 | _,_,0,_=>.nil
 | _,_,_+1,.nil=>.nil
 | _,_,n+1,.cons r t=>.cons r (Vals.take n t)
theorem Vals.drop:∀ {xs:List V} {us:List Value} (n:Nat),Vals xs us->Vals (xs.drop n) (us.drop n)
 | _,_,0,r=>r
 | _,_,_+1,.nil=>.nil
 | _,_,n+1,.cons _ t=>Vals.drop n t
def RelO:Option V->Option Value->Prop
 | some v,some u=>RelV v u
 | none,none=>True
 | _,_=>False
def KV {κ:Type}:List (κ×V)->List (κ×Value)->Prop:=Paired λ(p:κ×V) (q:κ×Value)=>p.1=q.1/\RelV p.2 q.2
def kV:aU->V
 | .inl i=>.int i
 | .inr x=>.str x
def lO:V->Option aU
 | .int i=>some (.inl i)
 | .bl b=>some (.inl (kg b))
 | .str x=>some (.inr x)
 | _=>none
theorem B8 (k:aU):lO (kV k)=some k:=by cases k<;>rfl
inductive HO where
 | lst (xs:List V)
 | tup (xs:List V)
 | dK (kvs:List (aU×V)) | dT (xc:Option (List Addr)) (kvs:List (List aU×V))
 | set (S:Int->Bool) (n:Nat)
 | ins (C dx:Addr) (fs:List (Str×V))
 | own (x:Addr)
 | xd (fs:List (Str×V))
 | met (f x:Addr)
 | rng (lo hi:Int)
 | frz (o:Obj) (u:HO)
 | tbl (ps:Array Value)
 | ext (φ:Heap->Prop)
abbrev Hp:=Addr->Option HO
def upd (H:Hp) (a:Addr) (o:HO):Hp:=λb=>if b=a then some o else H b
theorem dM {H:Hp} {a:Addr} {o:HO}:upd H a o a=some o:=by unfold upd;rw [M8 rfl]
theorem bG {H:Hp} {a b:Addr} {o:HO} (h:b≠a):upd H a o b=H b:=by unfold upd;rw [M9 h]
theorem B9 {H:Hp} {a b:Addr} {o u:HO} (h:H a=some o) (h':H b=some u) (d:o≠u):a≠b:=by
 intro e;subst e;rw [h] at h';exact d (NJ h')
theorem fG {H:Hp} {a b:Addr} {o:HO} (h:H a=some o) (h':H b=none):a≠b:=by
 intro e;subst e;rw [h] at h';cases h'
section
variable (P:Program) (w:World)
def ObjOk (H:Hp) (h:Heap) (a:Addr):HO->Prop
 | .lst xs=>xs.length<=sizeLine/\∃ (its:List Value) (n:Nat),Vals xs its/\h.get? a=some { cls:=.type "list",data:=.seq its.toArray n }
 | .tup xs=>xs.length<=sizeLine/\∃ its:List Value,Vals xs its/\IsTup h a its.toArray
 | .dK kvs=>kvs.length<=sizeLine/\(a == sysModules)=false/\∃ vs,KV kvs vs/\h.DictOf (fF P w) a vs
 | .dT xc kvs=>kvs.length<=sizeLine/\(a == sysModules)=false/\∃ xs:List (List aU×Addr×Value),
   Paired (λ(p:List aU×V) (q:List aU×Addr×Value)=>p.1=q.1/\(∃ ys,H q.2.1=some (.tup ys)/\ys.map lO=p.1.map some)/\RelV p.2 q.2.2) kvs xs /\
   ∃ o es ep,h.get? a=some o/\o.ExactDict/\o.data = .dict es ep/\es.toList=xs.map (entryOfKey (tupleKind (ij P w)))/\(xs.map (·.1)).Nodup/\ep=xs.length/\∀ as,xc=some as->xs.map (·.2.1)=as
 | .set S n=>h.SetOf (intKind P w) a S n
 | .ins C dx fs=>H dx=some (.own a)/\fs.length<=1000/\dx≠a/\h.get? a=some (PySem.W.instObj C dx) /\
   ∃ mA,h.Ns1 dx mA/\(∀ f,RelO (fs.lookup f) (mA f))/\PySem.Within mA (fs.map (·.1))
 | .own _=>∃ o,h.get? a=some o
 | .xd fs=>∃ mA,h.Ns1 a mA/\∀ f,RelO (fs.lookup f) (mA f)
 | .rng lo hi=>∃ t u v,h.get? a=some { cls:=.type "range",data:=.fields #[.int lo t,.int hi u,.int 1 v] }
 | .frz o u=>h.get? a=some o/\ObjOk H h a u
 | .tbl ps=>h.get? a=some { cls:=.none,data:=.fields ps }
 | .met f x=>h.get? a=some (PySem.W.methodObj (.ref f) (.ref x))
 | .ext φ=>φ h/\(∃ o,h.get? a=some o)/\∀ h1 h2:Heap,φ h1->(∀ o,h1.get? a=some o->h2.get? a=some o)->φ h2
def HOk (H:Hp) (h:Heap):Prop:=∀ a o,H a=some o->ObjOk P w H h a o
end
section
variable {P:Program} {w:World} {H H':Hp} {h h':Heap} {a:Addr} {o:HO}
theorem ObjOk.lt (x:ObjOk P w H h a o):a<h.objs.size:=by
 cases o with
 | lst xs=>obtain ⟨_,_,_,_,e⟩:=x;exact Ng e
 | tup xs=>obtain ⟨_,_,_,p⟩:=x;exact p.lt
 | dK kvs=>obtain ⟨_,_,_,_,o,_,_,e,_⟩:=x;exact Ng e
 | dT xc kvs=>obtain ⟨_,_,_,_,o,_,_,e,_⟩:=x;exact Ng e
 | set S n=>obtain ⟨o,_,_,_,e,_⟩:=x;exact Ng e
 | ins C dx fs=>obtain ⟨_,_,_,e,_⟩:=x;exact Ng e
 | own y=>obtain ⟨_,e⟩:=x;exact Ng e
 | xd fs=>obtain ⟨_,⟨_,_,_,e,_⟩,_⟩:=x;exact Ng e
 | rng lo hi=>obtain ⟨_,_,_,e⟩:=x;exact Ng e
 | frz ob u=>obtain ⟨e,_⟩:=x;exact Ng e
 | tbl ps=>exact Ng (show h.get? a=some _ from x)
 | met f y=>exact Ng (show h.get? a=some _ from x)
 | ext φ=>obtain ⟨_,⟨_,e⟩,_⟩:=x;exact Ng e
theorem Paired.mapP {α β:Type} {F G:α->β->Prop}:∀ {l₁:List α} {l₂:List β},Paired F l₁ l₂->(∀ a b,F a b->G a b)->Paired G l₁ l₂
 | _,_,.nil,_=>.nil
 | _,_,.cons r t,f=>.cons (f _ _ r) (Paired.mapP t f)
theorem ObjOk.stay (x:ObjOk P w H h a o) (k:∀ b u,(b=a\/H b=some (.own a))->h.get? b=some u->h'.get? b=some u)
  (ho:∀ b,H b=some (.own a)->H' b=some (.own a)) (ht:∀ b xs,H b=some (.tup xs)->H' b=some (.tup xs)):ObjOk P w H' h' a o:=by
 induction o with
 | lst xs=>obtain ⟨z,its,n,r,e⟩:=x;exact ⟨z,its,n,r,k _ _ (.inl rfl) e⟩
 | tup xs=>obtain ⟨z,its,r,ob,e,c⟩:=x;exact ⟨z,its,r,ob,k _ _ (.inl rfl) e,c⟩
 | dK kvs=>obtain ⟨z,y,vs,r,ob,es,ep,e,c⟩:=x;exact ⟨z,y,vs,r,ob,es,ep,k _ _ (.inl rfl) e,c⟩
 | dT xc kvs =>
  obtain ⟨z,y,xs,r,ob,es,ep,e,c⟩:=x
  exact ⟨z,y,xs,Paired.mapP r λp q z=>⟨z.1,z.2.1.imp λ_ e=>⟨ht _ _ e.1,e.2⟩,z.2.2⟩,ob,es,ep,k _ _ (.inl rfl) e,c⟩
 | set S n=>obtain ⟨ob,es,ep,t,e,c⟩:=x;exact ⟨ob,es,ep,t,k _ _ (.inl rfl) e,c⟩
 | ins C dx fs =>
  obtain ⟨d,z,ne,e,mA,⟨od,es,ep,e2,c⟩,r⟩:=x
  exact ⟨ho _ d,z,ne,k _ _ (.inl rfl) e,mA,⟨od,es,ep,k _ _ (.inr d) e2,c⟩,r⟩
 | own y=>obtain ⟨ob,e⟩:=x;exact ⟨ob,k _ _ (.inl rfl) e⟩
 | xd fs=>obtain ⟨mA,⟨od,es,ep,e,c⟩,r⟩:=x;exact ⟨mA,⟨od,es,ep,k _ _ (.inl rfl) e,c⟩,r⟩
 | rng lo hi=>obtain ⟨t,u,v,e⟩:=x;exact ⟨t,u,v,k _ _ (.inl rfl) e⟩
 | frz ob u ih=>obtain ⟨e,q⟩:=x;exact ⟨k _ _ (.inl rfl) e,ih q⟩
 | tbl ps =>
  have e:h.get? a=some { cls:=.none,data:=.fields ps }:=x
  show h'.get? a=some { cls:=.none,data:=.fields ps }
  exact k a _ (.inl rfl) e
 | met f y =>
  have e:h.get? a=some (PySem.W.methodObj (.ref f) (.ref y)):=x
  show h'.get? a=some (PySem.W.methodObj (.ref f) (.ref y))
  exact k a _ (.inl rfl) e
 | ext φ=>obtain ⟨p,⟨o,e⟩,st⟩:=x;exact ⟨st _ _ p λo q=>k _ _ (.inl rfl) q,⟨o,k _ _ (.inl rfl) e⟩,st⟩
theorem HOk.lt (x:HOk P w H h) (e:H a=some o):a<h.objs.size:=(x a o e).lt
theorem HOk.fresh (x:HOk P w H h) (e:h.objs.size<=a):H a=none:=by
 cases q:H a with
 | none=>rfl
 | some u=>exact absurd (Nq (x.lt q) e) (Ot _)
theorem HOk.kept (x:HOk P w H h) (k:∀ b u,h.get? b=some u->h'.get? b=some u):HOk P w H h' := λa o e =>
 (x a o e).stay (λb u _ q=>k b u q) (λ_ q=>q) λ_ _ q=>q
theorem HOk.laid (x:HOk P w H h) (k:∀ b u,h.get? b=some u->h'.get? b=some u) (hp:h.objs.size<=a) (new:ObjOk P w (upd H a o) h' a o):HOk P w (upd H a o) h' := λb u e=>by
 have hn:=x.fresh hp
 by_cases hb:b=a
 ·subst hb;rw [dM] at e;cases e;exact new
 ·rw [bG hb] at e
  exact (x b u e).stay (λc v _ q=>k c v q) (λc q=>by rw [bG (fG q hn)];exact q) λc xs q=>by rw [bG (fG q hn)];exact q
end
def Rd (H:Hp) (a:Addr) (u:HO):Prop:=H a=some u\/∃ o,H a=some (.frz o u)
theorem Rd.of {H:Hp} {a:Addr} {u:HO} (h:H a=some u):Rd H a u:=.inl h
theorem Rd.ok {P:Program} {w:World} {H:Hp} {h:Heap} {a:Addr} {u:HO} (r:Rd H a u) (x:HOk P w H h):ObjOk P w H h a u:=by
 rcases r with r | ⟨o,r⟩
 ·exact x a u r
 ·obtain ⟨_,q⟩:=x a _ r
  exact q
def mV:Option HO->Prop
 | some (.lst _)=>True
 | some (.dK _)=>True
 | some (.dT _ _)=>True
 | some (.set _ _)=>True
 | some (.ins _ _ _)=>True
 | some (.ext _)=>True
 | _=>False
section
variable {P:Program} {w:World} {H:Hp} {h h':Heap} {x e:Addr} {o':HO}
theorem HOk.write (ok:HOk P w H h) (mu:mV (H x)) (he:e=x\/H e=some (.own x)) (k:∀ b u,b≠e->h.get? b=some u->h'.get? b=some u) (heo:∃ u,h'.get? e=some u)
  (new:ObjOk P w (upd H x o') h' x o'):HOk P w (upd H x o') h' := λb u q=>by
 have nown:∀ c y,H c=some (.own y)->c≠x:=λc y r z=>by subst z;rw [r] at mu;exact mu
 have ntup:∀ c xs,H c=some (.tup xs)->c≠x:=λc xs r z=>by subst z;rw [r] at mu;exact mu
 by_cases hb:b=x
 ·subst hb;rw [dM] at q;cases q;exact new
 ·rw [bG hb] at q
  by_cases hbe:b=e
  ·have q':H b=some (.own x):=by
    rcases he with z | z
    ·exact absurd (hbe.trans z) hb
    ·rw [hbe];exact z
   rw [q] at q';cases q'
   obtain ⟨v,hv⟩:=heo
   exact ⟨v,by rw [hbe];exact hv⟩
  ·refine (ok b u q).stay (λc v hc r=>k c v ?_ r) (λc r=>by rw [bG (nown c b r)];exact r) λc xs r=>by rw [bG (ntup c xs r)];exact r
   rcases hc with rfl | hc
   ·exact hbe
   ·rintro rfl
    rcases he with z | z
    ·exact nown c b hc z
    ·rw [hc] at z;cases z;exact hb rfl
end
structure Un (fs ex:List Addr) (H H':Hp) (h h':Heap):Prop where
 keep:∀ b o,h.get? b=some o->H b=none->b∉fs->b∉ex->h'.get? b=some o
 slot:∀ b o,h.get? b=some o->H b=none->b∈fs->b∉ex->∃ sl,h'.get? b=some { o with slots:=sl }
 free:∀ b o,h.get? b=some o->H b=none->b∉ex->H' b=none
 there:∀ b o,h.get? b=some o->b∉ex->∃ o',h'.get? b=some o'
 tups:∀ b xs,H b=some (.tup xs)->H' b=some (.tup xs)
 frzs:∀ b o u,H b=some (.frz o u)->H' b=some (.frz o u)
 tbls:∀ b ps,H b=some (.tbl ps)->∃ more,H' b=some (.tbl (ps++more))
section
variable {fs fs' ex ex':List Addr} {H H1 H2:Hp} {h h1 h2 h':Heap} {a x e:Addr} {o:HO}
theorem Un.any (u:Un fs ex H H1 h h1) {b:Addr} {ob:Obj} (q:h.get? b=some ob) (n:H b=none) (hx:b∉ex):∃ sl,h1.get? b=some { ob with slots:=sl }:=by
 by_cases hb:b∈fs
 ·exact u.slot b ob q n hb hx
 ·exact ⟨ob.slots,u.keep b ob q n hb hx⟩
theorem Un.kept (k:∀ b u,h.get? b=some u->h'.get? b=some u):Un fs ex H H h h' :=
 ⟨λb ob q _ _ _=>k b ob q,λb ob q _ _ _=>⟨ob.slots,k b ob q⟩,λ_ _ _ n _=>n,λb ob q _=>⟨ob,k b ob q⟩,λ_ _ q=>q,λ_ _ _ q=>q,λ_ ps q=>⟨#[],by rw [q];simp⟩⟩
theorem Un.refl:Un fs ex H H h h:=Un.kept λ_ _ q=>q
theorem Un.laid (k:∀ b u,h.get? b=some u->h'.get? b=some u) (hp:h.objs.size<=a) (hn:H a=none):Un fs ex H (upd H a o) h h' where
 keep:=λb u q _ _ _=>k b u q
 slot:=λb u q _ _ _=>⟨u.slots,k b u q⟩
 free:=λb u q n _=>by rw [bG (NH (Nq (Ng q) hp))];exact n
 there:=λb u q _=>⟨u,k b u q⟩
 tups:=λb xs q=>by rw [bG (fG q hn)];exact q
 frzs:=λb u xs q=>by rw [bG (fG q hn)];exact q
 tbls:=λb ps q=>⟨#[],by rw [bG (fG q hn),q];simp⟩
theorem Un.write (mu:mV (H x)) (he:e=x\/H e=some (.own x)) (k:∀ b u,b≠e->h.get? b=some u->h'.get? b=some u) (heo:∃ u,h'.get? e=some u):Un fs ex H (upd H x o) h h' := by
 have hx:∀ b,H b=none->b≠x:=λb n z=>by subst z;rw [n] at mu;exact mu
 have hb:∀ b,H b=none->b≠e:=λb n z=>by
  subst z;rcases he with r | r
  ·exact hx b n r
  ·rw [n] at r;cases r
 have hm:∀ b u,H b=some u -> ¬ mV (some u)->b≠x:=λb u q nm z=>by subst z;rw [q] at mu;exact nm mu
 refine ⟨λb u q n _ _=>k b u (hb b n) q,λb u q n _ _=>⟨u.slots,k b u (hb b n) q⟩,λb u q n _=>by rw [bG (hx b n)];exact n,λb u q _=>?_,
  λb xs q=>by rw [bG (hm b _ q λz=>z)];exact q,λb u xs q=>by rw [bG (hm b _ q λz=>z)];exact q,λb ps q=>⟨#[],by rw [bG (hm b _ q λz=>z),q];simp⟩⟩
 by_cases hbe:b=e
 ·subst hbe;exact heo
 ·exact ⟨u,k b u hbe q⟩
end
def pe (h:Heap) (H:Hp):List Addr:=(List.range h.objs.size).filter λa=>(H a).isSome
def d9 (h:Heap) (H:Hp):Heap:=PySem.W.hideAll h (pe h H)
theorem Cb (h:Heap) (H:Hp):(d9 h H).objs.size=h.objs.size:=PySem.W.hideAll_size _ _
theorem Cc {h:Heap} {H:Hp} {b:Addr} {o:Obj} (e:h.get? b=some o) (n:H b=none):(d9 h H).get? b=some o :=
 Rb _ e λhm=>by
  have q:(H b).isSome=true:=(QE.mp hm).2
  rw [n] at q;simp at q
theorem Cd {h:Heap} {H:Hp} {b:Addr} {o:Obj} (e:(d9 h H).get? b=some o):h.get? b=some o/\H b=none:=by
 have e':h.get? b=some o:=PR (pe h H) e
 refine ⟨e',?_⟩
 cases q:H b with
 | none=>rfl
 | some x =>
  have hm:b∈pe h H:=QE.mpr ⟨Pp.mpr (Ng e'),by simp [q]⟩
  have z:(d9 h H).get? b=none:=PySem.W.hideAll_none (pe h H) hm
  rw [z] at e;cases e
structure Mod (K:PySem.W.Frag) (mg:Str->Option Value) (base:Heap):Prop where
 kin:K.In base
 glob:base.Ns mainGlobals mg
 blt:∃ mb,base.Ns builtinsNs mb/\∀ x:Str,x ≠ "__name__" -> mb x=bootBuiltins x
 nolimit:base.NoLimit
structure Cx where
 prog:Program
 w:World
 K:PySem.W.Frag
 mg:Str->Option Value
 base:Heap
 A:Around
 N:List Str
 s₀:Shared
 H₀:Hp
 env:Env
 outer:List Env
 stack:List Env
 ex:List Addr
 fn:Str->Bool
 calm:Bool
 pn:List (Addr×Obj)
 xe:Value->Shared->Prop
def dR (l:List Env):List Addr:=l.filterMap (·.frame)
abbrev Cx.fs (X:Cx):List Addr:=dR X.outer
def mW (sc:Scope) (x:Str):Prop:=sc.names.lookup x=some .local\/sc.names.lookup x=some .cell\/sc.names.lookup x=some .free
def ki (sc:Scope) (x:Str):Prop:=sc.names.lookup x=some .local\/sc.names.lookup x=some .cell
def rX (env:Env) (h:Heap) (m:Str->Option Value) (x:Str) (u:Value):Prop :=
 (env.kindOf x=some .local/\m x=some u)\/((env.kindOf x=some .cell\/env.kindOf x=some .free)/\∃ c,env.cells.lookup x=some c/\h.IsCell c (some u))
structure Cx.Ok (X:Cx):Prop where
 mod:Mod X.K X.mg X.base
 kind:X.env.scope.kind = .function
 glob:X.env.globals=mainGlobals
 blt:X.env.builtins=builtinsNs
 above:X.s₀.heap.objs.size<=X.env.locals
 inj:∀ x y c,X.env.cells.lookup x=some c->X.env.cells.lookup y=some c->x=y
 has:∀ x,(X.env.kindOf x=some .cell\/X.env.kindOf x=some .free)->∃ c,X.env.cells.lookup x=some c
 cab:∀ x c,X.fn x=true->X.env.cells.lookup x=some c->X.s₀.heap.objs.size<=c
 hd:X.calm=true->X.A.handled=none
 frames:X.A.frames=some X.stack
 stk:X.stack=X.outer\/(X.stack=X.env::X.outer/\X.env.frame=some X.env.locals)
 exf:∀ b∈X.ex,b≠X.env.locals/\∀ x c,X.env.cells.lookup x=some c->c≠b
 bs:∀ b o,X.base.get? b=some o->X.s₀.heap.get? b=some o/\X.H₀ b=none
 bsz:X.base.objs.size<=X.s₀.heap.objs.size
 noex:∀ b o,X.base.get? b=some o->b∉X.ex
 exfs:∀ b∈X.ex,b∉X.fs
 funs:X.s₀.heap.FunFrames X.base X.outer
 frf:∀ b∈X.fs,X.H₀ b=none
structure Inv (X:Cx) (pins:List (Addr×Obj)) (σ:List (Option V)) (H:Hp) (s:Shared):Prop where
 ok:X.Ok
 os:s.os=X.s₀.os
 bare:AllBare s.gens
 base:Un X.fs X.ex X.H₀ H X.s₀.heap s.heap
 loc:∃ m,s.heap.Ns X.env.locals m/\∀ (i:Nat) (x:Str) (v:V),X.N[i]? = some x->σ[i]? = some (some v)->mW X.env.scope x->∃ u,RelV v u/\rX X.env s.heap m x u
 cell:∀ x c,X.env.cells.lookup x=some c->∃ v,s.heap.IsCell c v
 free:H X.env.locals=none
 freeC:∀ x c,X.env.cells.lookup x=some c->H c=none
 pin:∀ p∈X.pn++pins,s.heap.get? p.1=some p.2/\H p.1=none/\p.1≠X.env.locals/\p.1∉X.fs/\∀ v,p.2.data ≠ .cell v
 hok:HOk X.prog X.w H s.heap
 len:σ.length=X.N.length
section
variable {X:Cx} {pins:List (Addr×Obj)} {σ:List (Option V)} {H H':Hp} {s:Shared} {h':Heap}
theorem Cx.Ok.nofr (ok:X.Ok) {b:Addr} {o:Obj} (e:X.base.get? b=some o):b∉X.fs:=λhb=>by
 have:=(ok.funs.mem hb).1
 rw [e] at this;cases this
theorem Inv.bs (I:Inv X pins σ H s):∀ b o,X.base.get? b=some o->s.heap.get? b=some o/\H b=none:=λb o e =>
 ⟨I.base.keep b o (I.ok.bs b o e).1 (I.ok.bs b o e).2 (I.ok.nofr e) (I.ok.noex b o e),I.base.free b o (I.ok.bs b o e).1 (I.ok.bs b o e).2 (I.ok.noex b o e)⟩
theorem Inv.bk (I:Inv X pins σ H s):∀ b o,X.base.get? b=some o->s.heap.get? b=some o:=λb o e=>(I.bs b o e).1
theorem Inv.mod (I:Inv X pins σ H s):Mod X.K X.mg X.base:=I.ok.mod
theorem Inv.kIn (I:Inv X pins σ H s):X.K.In s.heap:=I.ok.mod.kin.keeps I.bk
theorem Inv.fr (I:Inv X pins σ H s):∃ m,Fr X.base X.env.locals s.heap m :=
 let ⟨m,hn,_⟩:=I.loc
 ⟨m,hn,I.bk,M6 I.ok.bsz I.ok.above⟩
theorem Inv.lt (I:Inv X pins σ H s):X.env.locals<s.heap.objs.size:=let ⟨_,hn,_⟩:=I.loc;hn.lt
theorem Inv.sz (I:Inv X pins σ H s):X.s₀.heap.objs.size<=s.heap.objs.size:=M6 I.ok.above (PN I.lt)
theorem Inv.nofs (I:Inv X pins σ H s) {a:Addr} (h:s.heap.objs.size<=a):a∉X.fs:=λhb=>by
 obtain ⟨_,o,ho,_⟩:=I.ok.funs.mem hb
 exact absurd (Nq (Ng ho) (M6 I.sz h)) (Ot _)
theorem Inv.cne (I:Inv X pins σ H s):∀ x c,X.env.cells.lookup x=some c->c≠X.env.locals:=λx c e z=>by
 obtain ⟨v,o,ho,hd⟩:=I.cell x c e
 obtain ⟨m,⟨o',es,ep,ho',hd',_⟩,_⟩:=I.loc
 rw [z,ho'] at ho;cases ho;rw [hd'] at hd;cases hd
theorem Inv.funs (I:Inv X pins σ H s):s.heap.FunFrames X.base X.outer:=by
 have all:∀ (l:List Env),(∀ b∈dR l,b∈X.fs)->X.s₀.heap.FunFrames X.base l->s.heap.FunFrames X.base l:=by
  intro l
  induction l with
  | nil=>intro _ _;trivial
  | cons env r ih =>
   intro hs hl
   obtain ⟨hk,⟨L,o,hf,hn,ho,hd⟩,hr⟩:=hl
   have hL:L∈X.fs:=hs L (by unfold dR;rw [Pb,hf];exact NX)
   obtain ⟨sl,e⟩:=I.base.slot L o ho (I.ok.frf L hL) hL λz=>I.ok.exfs L z hL
   exact ⟨hk,⟨L,_,hf,hn,e,hd⟩,ih (λb hb=>hs b (by unfold dR;rw [Pb,hf];exact NI _ hb)) hr⟩
 exact all X.outer (λ_ hb=>hb) I.ok.funs
theorem Inv.stack (I:Inv X pins σ H s):s.heap.FunFrames X.base X.stack:=by
 rcases I.ok.stk with e | ⟨e,hf⟩
 ·rw [e];exact I.funs
 ·rw [e]
  obtain ⟨m,hn,_⟩:=I.loc
  refine .cons (by rw [I.ok.kind];decide) hf hn ?_ I.funs
  exact QS (M6 I.ok.bsz I.ok.above)
theorem Inv.stkSub (I:Inv X pins σ H s):∀ b∈dR X.stack,b∈X.env.locals::X.fs:=λb hb=>by
 rcases I.ok.stk with e | ⟨e,hf⟩
 ·rw [e] at hb;exact NI _ hb
 ·rw [e] at hb
  unfold dR at hb
  rw [Pb,hf] at hb;exact hb
theorem Inv.stkFree (I:Inv X pins σ H s):∀ b∈dR X.stack,H b=none:=λb hb=>by
 rcases Np.mp (I.stkSub b hb) with e | hb
 ·rw [e];exact I.free
 ·obtain ⟨_,o,ho,_⟩:=I.ok.funs.mem hb
  exact I.base.free b o ho (I.ok.frf b hb) λz=>I.ok.exfs b z hb
theorem Inv.step {g':Array GenState} {t':Nat} {d':Drawn} {ch:List Addr} (I:Inv X pins σ H s)
  (hch:∀ b∈ch,(b∈X.ex\/X.s₀.heap.objs.size<=b)/\b≠X.env.locals/\(∀ x c,X.env.cells.lookup x=some c->c≠b)/\∀ p∈X.pn++pins,p.1≠b)
  (keep:∀ b o,b≠X.env.locals->b∉X.fs->b∉ch->s.heap.get? b=some o->H b=none->h'.get? b=some o)
  (slot:∀ b o,b≠X.env.locals->b∈X.fs->b∉ch->s.heap.get? b=some o->H b=none->∃ sl,h'.get? b=some { o with slots:=sl }) (free:∀ b o,b∉ch->s.heap.get? b=some o->H b=none->H' b=none)
  (there:∀ b o,b∉ch->s.heap.get? b=some o->∃ o',h'.get? b=some o')
  (tups:∀ b xs,H b=some (.tup xs)->H' b=some (.tup xs)) (frzs:∀ b o u,H b=some (.frz o u)->H' b=some (.frz o u)) (tbls:∀ b ps,H b=some (.tbl ps)->∃ more,H' b=some (.tbl (ps++more)))
  (ns:∀ m,s.heap.Ns X.env.locals m->h'.Ns X.env.locals m) (hok:HOk X.prog X.w H' h') (hg:AllBare g') :
  Inv X pins σ H' { s with heap:=h',gens:=g',drawn:=d',toks:=t' }:=by
 have neL:∀ b o,X.s₀.heap.get? b=some o->b≠X.env.locals:=λb o e=>NH (Nq (Ng e) I.ok.above)
 have neC:∀ b o,X.s₀.heap.get? b=some o->b∉X.ex->b∉ch:=λb o e hx hb=>by
  rcases (hch b hb).1 with z | z
  ·exact hx z
  ·exact absurd (Nq (Ng e) z) (Ot _)
 have cellK:∀ x c,X.env.cells.lookup x=some c->∀ v,s.heap.IsCell c v->h'.IsCell c v:=λx c e v ⟨o,ho,hd⟩=>by
  have nch:c∉ch:=λz=>(hch c z).2.2.1 x c e rfl
  by_cases hc:c∈X.fs
  ·obtain ⟨sl,q⟩:=slot c o (I.cne x c e) hc nch ho (I.freeC x c e)
   exact ⟨_,q,hd⟩
  ·exact ⟨o,keep c o (I.cne x c e) hc nch ho (I.freeC x c e),hd⟩
 refine ⟨I.ok,I.os,hg,⟨λb o e n hb hx=>?_,λb o e n hb hx=>?_,λb o e n hx=>?_,λb o e hx=>?_,λb xs e=>tups b xs (I.base.tups b xs e),λb o xs e=>frzs b o xs (I.base.frzs b o xs e),λb ps e=>?_⟩,?_,λx c e=>?_,?_,λx c e=>?_,λp hp=>?_,hok,I.len⟩
 ·exact keep b o (neL b o e) hb (neC b o e hx) (I.base.keep b o e n hb hx) (I.base.free b o e n hx)
 ·obtain ⟨sl,e1⟩:=I.base.slot b o e n hb hx
  obtain ⟨sl',e2⟩:=slot b _ (neL b o e) hb (neC b o e hx) e1 (I.base.free b o e n hx)
  exact ⟨sl',e2⟩
 ·obtain ⟨o',e1⟩:=I.base.there b o e hx
  exact free b o' (neC b o e hx) e1 (I.base.free b o e n hx)
 ·obtain ⟨o',e1⟩:=I.base.there b o e hx
  exact there b o' (neC b o e hx) e1
 ·obtain ⟨m1,e1⟩:=I.base.tbls b ps e
  obtain ⟨m2,e2⟩:=tbls b _ e1
  exact ⟨m1++m2,by rw [e2,Array.append_assoc]⟩
 ·obtain ⟨m,hn,hl⟩:=I.loc
  refine ⟨m,ns m hn,λi x v e1 e2 e3=>?_⟩
  obtain ⟨u,r,l⟩:=hl i x v e1 e2 e3
  refine ⟨u,r,?_⟩
  rcases l with l | ⟨k,c,e,z⟩
  ·exact .inl l
  ·exact .inr ⟨k,c,e,cellK x c e _ z⟩
 ·obtain ⟨v,z⟩:=I.cell x c e
  exact ⟨v,cellK x c e v z⟩
 ·obtain ⟨m,⟨o,_,_,ho,_⟩,_⟩:=I.loc
  exact free _ o (λz=>(hch _ z).2.1 rfl) ho I.free
 ·obtain ⟨v,o,ho,hd⟩:=I.cell x c e
  exact free c o (λz=>(hch c z).2.2.1 x c e rfl) ho (I.freeC x c e)
 ·obtain ⟨e,n,ne,nf,d⟩:=I.pin p hp
  have nch:p.1∉ch:=λz=>(hch p.1 z).2.2.2 p hp rfl
  exact ⟨keep p.1 p.2 ne nf nch e n,free p.1 p.2 nch e n,ne,nf,d⟩
theorem Inv.un {t':Nat} (I:Inv X pins σ H s) (u:Un X.fs [] H H' s.heap h') (hok:HOk X.prog X.w H' h'):Inv X pins σ H' { s with heap:=h',toks:=t' }:=by
 obtain ⟨m,⟨o,es,ep,ho,r⟩,_⟩:=id I.loc
 obtain ⟨sl,hL⟩:=u.any ho I.free (by simp)
 exact I.step (g' := s.gens) (d' := s.drawn) (ch:=[]) (λ_ z=>nomatch z) (λb o _ hb _ e n=>u.keep b o e n hb (by simp)) (λb o _ hb _ e n=>u.slot b o e n hb (by simp)) (λb o _ e n=>u.free b o e n (by simp)) (λb o _ e=>u.there b o e (by simp)) u.tups u.frzs u.tbls (λm' hm=>by
  obtain ⟨o',es',ep',ho',r'⟩:=hm
  rw [ho] at ho';cases ho'
  exact ⟨_,es',ep',hL,r'⟩) hok I.bare
theorem Inv.call {g':Array GenState} {t':Nat} {d':Drawn} {ch:List Addr} (I:Inv X pins σ H s) (u:Un (dR X.stack) ch H H' s.heap h') (hok:HOk X.prog X.w H' h') (hg:AllBare g')
  (hch:∀ b∈ch,(b∈X.ex\/X.s₀.heap.objs.size<=b)/\b≠X.env.locals/\(∀ x c,X.env.cells.lookup x=some c->c≠b)/\∀ p∈X.pn++pins,p.1≠b) :
  Inv X pins σ H' { s with heap:=h',gens:=g',drawn:=d',toks:=t' }:=by
 obtain ⟨m,⟨o,es,ep,ho,r⟩,_⟩:=id I.loc
 obtain ⟨sl,hL⟩:=u.any ho I.free λz=>(hch _ z).2.1 rfl
 exact I.step (ch:=ch) hch (λb o hL hb hc e n=>u.keep b o e n (λz=>(Np.mp (I.stkSub b z)).elim hL hb) hc) (λb o _ _ hc e n=>u.any e n hc) (λb o hc e n=>u.free b o e n hc) (λb o hc e=>u.there b o e hc) u.tups u.frzs u.tbls (λm' hm=>by
  obtain ⟨o',es',ep',ho',r'⟩:=hm
  rw [ho] at ho';cases ho'
  exact ⟨_,es',ep',hL,r'⟩) hok hg
theorem Inv.turned {t':Nat} {it:Addr} (I:Inv X pins σ H s) (k:∀ b o,b≠it->s.heap.get? b=some o->h'.get? b=some o) (hn:H it=none) (hL:it≠X.env.locals)
  (h1:it∈X.ex\/X.s₀.heap.objs.size<=it) (h2:∀ x c,X.env.cells.lookup x=some c->c≠it) (h3:∀ p∈X.pn++pins,p.1≠it):Inv X pins σ H { s with heap:=h',toks:=t' }:=by
 have nit:∀ b u,H b=some u->b≠it:=λb u e z=>by rw [z,hn] at e;cases e
 refine I.step (g' := s.gens) (d' := s.drawn) (ch:=[it]) (λb hb=>?_) (λb o _ _ hc e _=>k b o (λz=>hc (by simp [z])) e) (λb o _ _ hc e _=>⟨o.slots,k b o (λz=>hc (by simp [z])) e⟩) (λ_ _ _ _ n=>n)
  (λb o hc e=>⟨o,k b o (λz=>hc (by simp [z])) e⟩) (λ_ _ e=>e) (λ_ _ _ e=>e) (λb ps e=>⟨#[],by rw [e];simp⟩) (λm hm=>?_) (λb u e=>?_) I.bare
 ·have e:b=it:=by simpa using hb
  subst e;exact ⟨h1,hL,h2,h3⟩
 ·obtain ⟨o,es,ep,ho,r⟩:=hm
  exact ⟨o,es,ep,k _ o (Ne.symm hL) ho,r⟩
 ·refine (I.hok b u e).stay (λc v hc q=>k c v ?_ q) (λ_ q=>q) λ_ _ q=>q
  rcases hc with z | z
  ·rw [z];exact nit b u e
  ·exact nit c _ z
theorem Inv.tok (I:Inv X pins σ H s) (t:Nat):Inv X pins σ H { s with toks:=t }:=I.un (h' := s.heap) (t' := t) Un.refl I.hok
theorem Inv.kept {t':Nat} (I:Inv X pins σ H s) (k:∀ b u,s.heap.get? b=some u->h'.get? b=some u):Inv X pins σ H { s with heap:=h',toks:=t' }:=I.un (Un.kept k) (I.hok.kept k)
theorem Inv.laid {a:Addr} {o:HO} {t':Nat} (I:Inv X pins σ H s) (k:∀ b u,s.heap.get? b=some u->h'.get? b=some u) (hp:s.heap.objs.size<=a) (new:ObjOk X.prog X.w (upd H a o) h' a o) :
  Inv X pins σ (upd H a o) { s with heap:=h',toks:=t' }:=I.un (Un.laid k hp (I.hok.fresh hp)) (I.hok.laid k hp new)
theorem Inv.write {x e:Addr} {o:HO} {t':Nat} (I:Inv X pins σ H s) (mu:mV (H x)) (he:e=x\/H e=some (.own x)) (k:∀ b u,b≠e->s.heap.get? b=some u->h'.get? b=some u) (heo:∃ u,h'.get? e=some u)
  (new:ObjOk X.prog X.w (upd H x o) h' x o):Inv X pins σ (upd H x o) { s with heap:=h',toks:=t' }:=I.un (Un.write mu he k heo) (I.hok.write mu he k heo new)
theorem Inv.weak {σ':List (Option V)} (I:Inv X pins σ H s) (hl:σ'.length=σ.length) (w:∀ (i:Nat) v,σ'[i]? = some (some v)->σ[i]? = some (some v)):Inv X pins σ' H s :=
 ⟨I.ok,I.os,I.bare,I.base,let ⟨m,hn,hl'⟩:=I.loc;⟨m,hn,λi x v e1 e2 e3=>hl' i x v e1 (w i v e2) e3⟩,I.cell,I.free,I.freeC,I.pin,I.hok,hl.trans I.len⟩
theorem Inv.pins_of {pins':List (Addr×Obj)} (I:Inv X pins σ H s) (h:∀ p∈pins',s.heap.get? p.1=some p.2/\H p.1=none/\p.1≠X.env.locals/\p.1∉X.fs/\∀ v,p.2.data ≠ .cell v):Inv X pins' σ H s :=
 ⟨I.ok,I.os,I.bare,I.base,I.loc,I.cell,I.free,I.freeC,λp hp=>(NV.mp hp).elim (λz=>I.pin p (Nu _ z)) (h p),I.hok,I.len⟩
theorem pf {N:List Str} (hN:N.Nodup) {i j:Nat} {x:Str} (a:N[i]? = some x) (b:N[j]? = some x):i=j:=by
 obtain ⟨h1,e1⟩:=MY.mp a
 obtain ⟨h2,e2⟩:=MY.mp b
 exact (List.getElem_inj hN).mp (e1.trans e2.symm)
theorem xV {M:Model} {A:Around} {E:Value->Shared->Prop} {i:Nat} {x:Str} {v:V} {u:Value} {Q:Unit->Shared->Prop} (I:Inv X pins σ H s) (hN:X.N.Nodup) (hi:X.N[i]? = some x) (hx:ki X.env.scope x) (r:RelV v u)
  (h:∀ s',Inv X pins (σ.set i (some v)) H s'->(∃ a,Heap.SameBut a s.heap s'.heap/\(a=X.env.locals\/X.env.cells.lookup x=some a))->Q () s') (hf:X.fn x=true\/X.env.scope.names.lookup x=some .local:=by first | exact .inl rfl | exact .inr rfl | assumption):wpAny M A (storeName X.env x u) Q E s:=by
 obtain ⟨m,hn,hl⟩:=id I.loc
 have hcls:(X.env.scope.kind == .class || (X.env.scope.kind == .module && X.env.locals != X.env.globals))=false:=by rw [I.ok.kind];rfl
 have hiσ:i<σ.length:=by rw [I.len];exact (MY.mp hi).1
 have cne:=I.cne
 have tracked:∀ {a:Addr} {h':Heap},(∃ o,s.heap.get? a=some o/\H a=none)->Heap.SameBut a s.heap h'->HOk X.prog X.w H h' := λ{a h'} ha hs b ob e=>by
  obtain ⟨_,_,hfree⟩:=ha
  refine (I.hok b ob e).stay (λc w' hc q=>(hs.2 c ?_).trans q) (λ_ q=>q) λ_ _ q=>q
  rintro rfl
  rcases hc with rfl | hc
  ·rw [hfree] at e;cases e
  ·rw [hfree] at hc;cases hc
 rcases hx with hk | hk
 ·refine wpAny_storeName_local hk hn (λh' hn' hs=>?_) hcls
  obtain ⟨oL,_,_,hoL,_⟩:=id hn
  refine h _ ⟨I.ok,I.os,I.bare,⟨λb o e n hb hx=>?_,λb o e n hb hx=>?_,I.base.free,λb o e hx=>?_,I.base.tups,I.base.frzs,I.base.tbls⟩,⟨_,hn',λj y v' e1 e2 e3=>?_⟩,λy c e=>?_,I.free,I.freeC,λp hp=>?_,tracked ⟨oL,hoL,I.free⟩ hs,by simpa using I.len⟩ ⟨_,hs,.inl rfl⟩
  ·exact (hs.2 b (NH (Nq (Ng e) I.ok.above))).trans (I.base.keep b o e n hb hx)
  ·obtain ⟨sl,e1⟩:=I.base.slot b o e n hb hx
   exact ⟨sl,(hs.2 b (NH (Nq (Ng e) I.ok.above))).trans e1⟩
  ·obtain ⟨o',e1⟩:=I.base.there b o e hx
   exact ⟨o',(hs.2 b (NH (Nq (Ng e) I.ok.above))).trans e1⟩
  ·by_cases hj:j=i
   ·subst hj
    rw [hi] at e1;cases e1
    rw [Na hiσ] at e2
    cases e2
    exact ⟨u,r,.inl ⟨hk,by simp⟩⟩
   ·rw [M5 (Ne.symm hj)] at e2
    obtain ⟨u',r',q⟩:=hl j y v' e1 e2 e3
    refine ⟨u',r',?_⟩
    rcases q with ⟨k,e⟩ | ⟨k,c,e,z⟩
    ·refine .inl ⟨k,?_⟩
     have:y≠x:=λe=>hj (pf hN e1 (e▸hi))
     simp [this,e]
    ·exact .inr ⟨k,c,e,z.sameBut hs (cne y c e)⟩
  ·obtain ⟨w',z⟩:=I.cell y c e
   exact ⟨w',z.sameBut hs (cne y c e)⟩
  ·obtain ⟨e,n,ne,nf,d⟩:=I.pin p hp
   exact ⟨(hs.2 p.1 ne).trans e,n,ne,nf,d⟩
 ·have hfn:X.fn x=true:=by
   rcases hf with z | z
   ·exact z
   ·rw [z] at hk;cases hk
  obtain ⟨c,hc⟩:=I.ok.has x (.inl hk)
  obtain ⟨w',z⟩:=I.cell x c hc
  refine wpAny_storeName_cell I.ok.kind hk hc z (λh' hc' hs=>?_)
  obtain ⟨oc,hoc,hocd⟩:=id z
  refine h { s with heap:=h' } ⟨I.ok,I.os,I.bare,⟨λb o e n hb hx=>?_,λb o e n hb hx=>?_,I.base.free,λb o e hx=>?_,I.base.tups,I.base.frzs,I.base.tbls⟩,⟨m,hn.sameBut hs (Ne.symm (cne x c hc)),λj y v' e1 e2 e3=>?_⟩,λy c' e=>?_,I.free,I.freeC,λp hp=>?_,tracked ⟨oc,hoc,I.freeC x c hc⟩ hs,by simpa using I.len⟩ ⟨c,hs,.inr hc⟩
  ·exact (hs.2 b (NH (Nq (Ng e) (I.ok.cab x c hfn hc)))).trans (I.base.keep b o e n hb hx)
  ·obtain ⟨sl,e1⟩:=I.base.slot b o e n hb hx
   exact ⟨sl,(hs.2 b (NH (Nq (Ng e) (I.ok.cab x c hfn hc)))).trans e1⟩
  ·obtain ⟨o',e1⟩:=I.base.there b o e hx
   exact ⟨o',(hs.2 b (NH (Nq (Ng e) (I.ok.cab x c hfn hc)))).trans e1⟩
  ·by_cases hj:j=i
   ·subst hj
    rw [hi] at e1;cases e1
    rw [Na hiσ] at e2
    cases e2
    exact ⟨u,r,.inr ⟨.inl hk,c,hc,hc'⟩⟩
   ·rw [M5 (Ne.symm hj)] at e2
    obtain ⟨u',r',q⟩:=hl j y v' e1 e2 e3
    refine ⟨u',r',?_⟩
    rcases q with q | ⟨k,c',e,z'⟩
    ·exact .inl q
    ·refine .inr ⟨k,c',e,z'.sameBut hs ?_⟩
     rintro rfl
     exact hj (pf hN e1 (I.ok.inj _ _ _ e hc▸hi))
  ·by_cases hcc:c'=c
   ·subst hcc;exact ⟨_,hc'⟩
   ·obtain ⟨w2,z2⟩:=I.cell y c' e
    exact ⟨w2,z2.sameBut hs hcc⟩
  ·obtain ⟨e,n,ne,nf,d⟩:=I.pin p hp
   refine ⟨(hs.2 p.1 ?_).trans e,n,ne,nf,d⟩
   intro q
   rw [q,hoc] at e;have q':oc=p.2:=NJ e
   exact d w' (by rw [<- q'];exact hocd)
theorem lP {M:Model} {A:Around} {E:Value->Shared->Prop} {i:Nat} {x:Str} {v:V} {u:Value} {Q:Unit->Shared->Prop} (I:Inv X pins σ H s) (hN:X.N.Nodup) (hi:X.N[i]? = some x) (hx:ki X.env.scope x) (r:RelV v u)
  (h:∀ s',Inv X pins (σ.set i (some v)) H s'->Q () s') (hf:X.fn x=true\/X.env.scope.names.lookup x=some .local:=by first | exact .inl rfl | exact .inr rfl | assumption):wpAny M A (storeName X.env x u) Q E s :=
 xV I hN hi hx r (λs' I' _=>h s' I') hf
theorem Inv.call' {s':Shared} {ch:List Addr} (I:Inv X pins σ H s) (ho:s'.os=s.os) (u:Un (dR X.stack) ch H H' s.heap s'.heap) (hok:HOk X.prog X.w H' s'.heap) (hg:AllBare s'.gens)
  (hch:∀ b∈ch,(b∈X.ex\/X.s₀.heap.objs.size<=b)/\b≠X.env.locals/\(∀ x c,X.env.cells.lookup x=some c->c≠b)/\∀ p∈X.pn++pins,p.1≠b):Inv X pins σ H' s' := by
 obtain ⟨h',g',d',t',o'⟩:=s'
 have e:o'=s.os:=ho
 subst e;exact I.call (g' := g') (t' := t') (d' := d') u hok hg hch
end
abbrev XK:=Value->Option Addr->Hp->Prop
abbrev St:=List (Option V)
abbrev VK:=V->Hp->Prop
abbrev TE:=St->Hp->VK->Prop
abbrev TT:=St->Hp->(Bool->Hp->Prop)->Prop
abbrev TA:=St->Hp->(List V->Hp->Prop)->Prop
structure cU where
 nx:St->Hp->Prop
 rt:VK
 bk:St->Hp->Prop:=λ_ _=>False
 ct:St->Hp->Prop:=λ_ _=>False
abbrev TS:=cU->St->Hp->Prop
def EP (X:Cx) (pins:List (Addr×Obj)) (σ:St) (Q:VK) (u:Value) (s':Shared):Prop:=∃ v H',Inv X pins σ H' s'/\RelV v u/\Q v H'
def TP (X:Cx) (pins:List (Addr×Obj)) (σ:St) (Q:Bool->Hp->Prop) (b:Bool) (s':Shared):Prop:=∃ H',Inv X pins σ H' s'/\Q b H'
def AP (X:Cx) (pins:List (Addr×Obj)) (σ:St) (Q:List V->Hp->Prop) (us:List Value) (s':Shared):Prop:=∃ vs H',Inv X pins σ H' s'/\Vals vs us/\Q vs H'
def SP (X:Cx) (pins:List (Addr×Obj)) (D:cU) (f:Flow) (s':Shared):Prop :=
 match f with
 | .next=>∃ σ' H',Inv X pins σ' H' s'/\D.nx σ' H'
 | .brk=>∃ σ' H',Inv X pins σ' H' s'/\D.bk σ' H'
 | .cont=>∃ σ' H',Inv X pins σ' H' s'/\D.ct σ' H'
 | .ret u=>∃ v σ' H',Inv X pins σ' H' s'/\RelV v u/\D.rt v H'
def PE (X:Cx) (e:Expr) (t:TE):Prop :=
 ∀ (pins:List (Addr×Obj)) (s:Shared) (σ:St) (H:Hp) (Q:VK),Inv X pins σ H s->t σ H Q->wpAny (model X.prog X.w) X.A (eval e X.env) (EP X pins σ Q) X.xe s
def PT (X:Cx) (e:Expr) (t:TT):Prop :=
 ∀ (pins:List (Addr×Obj)) (s:Shared) (σ:St) (H:Hp) (Q:Bool->Hp->Prop),Inv X pins σ H s->t σ H Q->wpAny (model X.prog X.w) X.A (isTrue e X.env (eval e X.env)) (TP X pins σ Q) X.xe s
def PW (X:Cx) (e:Expr) (t:TT):Prop :=
 ∀ (whole:Sem Value) (pins:List (Addr×Obj)) (s:Shared) (σ:St) (H:Hp) (Q:Bool->Hp->Prop),Inv X pins σ H s->t σ H Q->wpAny (model X.prog X.w) X.A (isTrue e X.env whole) (TP X pins σ Q) X.xe s
theorem PW.pt {X:Cx} {e:Expr} {t:TT} (h:PW X e t):PT X e t:=h _
def PA (X:Cx) (es:List Expr) (t:TA):Prop :=
 ∀ (pos:Pos) (pins:List (Addr×Obj)) (s:Shared) (σ:St) (H:Hp) (Q:List V->Hp->Prop),Inv X pins σ H s->t σ H Q->wpAny (model X.prog X.w) X.A (spliced (backTo pos (starEach es X.env))) (AP X pins σ Q) X.xe s
def PS (X:Cx) (st:Stmt) (t:TS):Prop :=
 ∀ (pins:List (Addr×Obj)) (s:Shared) (σ:St) (H:Hp) (D:cU),Inv X pins σ H s->t D σ H->wpAny (model X.prog X.w) X.A (exec st X.env) (SP X pins D) X.xe s
def fN (X:Cx) (st:List Stmt) (t:TS):Prop :=
 ∀ (pins:List (Addr×Obj)) (s:Shared) (σ:St) (H:Hp) (D:cU),Inv X pins σ H s->t D σ H->wpAny (model X.prog X.w) X.A (execs st X.env) (SP X pins D) X.xe s
theorem thn {α:Type} {t:Sem α} {Q Q':α->Shared->Prop} {M:Model} {A:Around} {E:Value->Shared->Prop} {s:Shared} (h:wpAny M A t Q E s) (hQ:∀ a s,Q a s->Q' a s):wpAny M A t Q' E s:=NP h hQ λ_ _ x=>x
section
variable {X:Cx}
def mX (i:Nat):TE:=λσ H Q=>∃ v,σ[i]? = some (some v)/\Q v H
def tC (v:V):TE:=λ_ H Q=>Q v H
theorem Ce {i:Nat} {x:Str} {pos:Pos} (hN:X.N[i]? = some x) (hv:mW X.env.scope x) (hd:(x == ("__debug__" : Str))=false:=by decide) (hcd:(x == ("__classdict__" : Str))=false:=by decide):PE X (.Name x pos) (mX i):=by
 intro pins s σ H Q I h
 obtain ⟨v,e,h⟩:=h
 obtain ⟨m,hn,hl⟩:=I.loc
 obtain ⟨u,r,l⟩:=hl i x v hN e hv
 have fin:EP X pins σ Q u s:=⟨v,H,I,r,h⟩
 rcases l with ⟨hk,hm⟩ | ⟨hk,c,hc,hcell⟩
 ·exact RH (wpAny_loadName_local I.ok.kind hk hn hm fin) hd
 ·rcases hk with hk | hk
  ·exact RH (wpAny_loadName_cell I.ok.kind hk hc hcell fin) hd
  ·exact RH (wpAny_loadName_free I.ok.kind hk hc hcell fin hcd) hd
theorem Cf {i j pos}:PE X (.Constant (.int i) j pos) (tC (.int i)):=λ_ _ _ H _ I h=>wpAny_Constant_int ⟨.int i,H,I.tok _,⟨_,rfl⟩,h⟩
theorem Cg {b j pos}:PE X (.Constant (.bool b) j pos) (tC (.bl b)):=λ_ _ _ H _ I h=>Constant_bool ⟨.bl b,H,I,rfl,h⟩
theorem Ci {j pos}:PE X (.Constant .none j pos) (tC .non):=λ_ _ _ H _ I h=>Constant_none ⟨.non,H,I,rfl,h⟩
theorem Cj {x j pos}:PE X (.Constant (.str x) j pos) (tC (.str x)):=λ_ _ _ H _ I h=>Calls.Constant_str ⟨.str x,H,I.tok _,⟨_,rfl⟩,h⟩
def Gl (X:Cx) (x:Str):Prop:=X.env.kindOf x=some .globalImplicit
theorem kj {E:Value->Shared->Prop} {pins:List (Addr×Obj)} {s:Shared} {σ:St} {H:Hp} {x:Str} {u:Value} {pos:Pos} {Q:Value->Shared->Prop} (I:Inv X pins σ H s) (hg:Gl X x) (hm:X.mg x=some u) (h:Q u s)
  (hd:(x == ("__debug__" : Str))=false:=by decide):wpAny (model X.prog X.w) X.A (eval (.Name x pos) X.env) Q E s :=
 PU I.ok.kind hg (Calls.loadGlobal_global (by rw [I.ok.glob];exact I.mod.glob.keeps I.bk) hm h) hd
theorem lQ {E:Value->Shared->Prop} {pins:List (Addr×Obj)} {s:Shared} {σ:St} {H:Hp} {x:Str} {u:Value} {pos:Pos} {Q:Value->Shared->Prop} (I:Inv X pins σ H s) (hg:Gl X x) (hm:X.mg x=none) (hv:bootBuiltins x=some u) (h:Q u s)
  (hn:x ≠ "__name__" := by decide) (hd:(x == ("__debug__" : Str))=false:=by decide):wpAny (model X.prog X.w) X.A (eval (.Name x pos) X.env) Q E s:=by
 obtain ⟨mb,h1,h2⟩:=I.mod.blt
 exact PU I.ok.kind hg (Calls.loadGlobal_builtin (by rw [I.ok.glob];exact I.mod.glob.keeps I.bk) hm (by rw [I.ok.blt];exact h1.keeps I.bk) ((h2 x hn).trans hv) h) hd
theorem rY {x:Str} {v:V} {u:Value} {pos:Pos} (hg:Gl X x) (hm:X.mg x=some u) (r:RelV v u) (hd:(x == ("__debug__" : Str))=false:=by decide):PE X (.Name x pos) (tC v) :=
 λ_ _ _ H _ I h=>kj I hg hm ⟨v,H,I,r,h⟩ hd
theorem Ck {x:Str} {v:V} {u:Value} {pos:Pos} (hg:Gl X x) (hm:X.mg x=none) (hv:bootBuiltins x=some u) (r:RelV v u) (hn:x ≠ "__name__" := by decide) (hd:(x == ("__debug__" : Str))=false:=by decide):PE X (.Name x pos) (tC v) :=
 λ_ _ _ H _ I h=>lQ I hg hm hv ⟨v,H,I,r,h⟩ hn hd
variable {a b:Expr} {ta tb:TE} {pos:Pos}
variable {tA tB':TT} {rest:List Expr}
def rZ (t u:TT):TT:=λσ H Q=>t σ H λc H1=>if c=true then u σ H1 Q else Q false H1
def Cm (t u:TT):TT:=λσ H Q=>t σ H λc H1=>if c=true then Q true H1 else u σ H1 Q
def r8 (t:TT):TT:=λσ H Q=>t σ H λc H1=>Q (!c) H1
theorem Cn (ha:PT X a tA):PW X (.BoolOp .And [a] pos) tA:=by
 intro wh pins s σ H Q I h
 refine isTrue_and (thn (ha pins s σ H Q I h) λc s1 e=>?_)
 cases c with
 | true=>exact isTrue_and_nil e
 | false=>exact e
theorem Co (ha:PT X a tA):PW X (.BoolOp .Or [a] pos) tA:=by
 intro wh pins s σ H Q I h
 refine isTrue_or (thn (ha pins s σ H Q I h) λc s1 e=>?_)
 cases c with
 | false=>exact isTrue_or_nil e
 | true=>exact e
theorem Cp (ha:PT X a tA) (hb:PW X (.BoolOp .And (b::rest) pos) tB'):PW X (.BoolOp .And (a::b::rest) pos) (rZ tA tB'):=by
 intro wh pins s σ H Q I h
 refine isTrue_and (thn (ha pins s σ H _ I h) λc s1 Zz=>?_);obtain ⟨H1,I1,q1⟩:=Zz
 cases c with
 | true=>exact hb wh pins s1 σ H1 Q I1 q1
 | false=>exact ⟨H1,I1,q1⟩
theorem Cq (ha:PT X a tA) (hb:PW X (.BoolOp .Or (b::rest) pos) tB'):PW X (.BoolOp .Or (a::b::rest) pos) (Cm tA tB'):=by
 intro wh pins s σ H Q I h
 refine isTrue_or (thn (ha pins s σ H _ I h) λc s1 Zz=>?_);obtain ⟨H1,I1,q1⟩:=Zz
 cases c with
 | true=>exact ⟨H1,I1,q1⟩
 | false=>exact hb wh pins s1 σ H1 Q I1 q1
theorem Cr (ha:PT X a tA):PT X (.UnaryOp .Not a pos) (r8 tA):=by
 intro pins s σ H Q I h
 exact isTrue_not (ha pins s σ H (λc H1=>Q (!c) H1) I h)
def Cs (ta tb:TE):TE:=λσ H Q=>ta σ H λx H1=>∃ c,x = .bl c/\if c=true then tb σ H1 Q else Q (.bl false) H1
def sf (ta tb:TE):TE:=λσ H Q=>ta σ H λx H1=>∃ c,x = .bl c/\if c=true then Q (.bl true) H1 else tb σ H1 Q
def Ct (ta:TE):TE:=λσ H Q=>ta σ H λx H1=>∃ c,x = .bl c/\Q (.bl (!c)) H1
theorem Cu {op} {t:TE} (h:PE X a t):PE X (.BoolOp op [a] pos) t:=λpins s σ H Q I hw=>BoolOp_one (h pins s σ H Q I hw)
theorem Cv (ha:PE X a ta) (hb:PE X (.BoolOp .And (b::rest) pos) tb):PE X (.BoolOp .And (a::b::rest) pos) (Cs ta tb):=by
 intro pins s σ H Q I h
 refine BoolOp_and (thn (ha pins s σ H _ I h) λv s1 Zz=>?_);obtain ⟨x,H1,I1,r1,q1⟩:=Zz
 obtain ⟨c,rfl,q1⟩:=q1
 cases r1
 refine Nt ?_
 cases c with
 | true=>exact hb pins s1 σ H1 Q I1 q1
 | false=>exact ⟨.bl false,H1,I1,rfl,q1⟩
theorem Cw (ha:PE X a ta) (hb:PE X (.BoolOp .Or (b::rest) pos) tb):PE X (.BoolOp .Or (a::b::rest) pos) (sf ta tb):=by
 intro pins s σ H Q I h
 refine BoolOp_or (thn (ha pins s σ H _ I h) λv s1 Zz=>?_);obtain ⟨x,H1,I1,r1,q1⟩:=Zz
 obtain ⟨c,rfl,q1⟩:=q1
 cases r1
 refine Nt ?_
 cases c with
 | false=>exact hb pins s1 σ H1 Q I1 q1
 | true=>exact ⟨.bl true,H1,I1,rfl,q1⟩
theorem Cy (ha:PE X a ta):PE X (.UnaryOp .Not a pos) (Ct ta):=by
 intro pins s σ H Q I h
 refine UnaryOp_ (thn (ha pins s σ H _ I h) λv s1 Zz=>?_);obtain ⟨x,H1,I1,r1,q1⟩:=Zz
 obtain ⟨c,rfl,q1⟩:=q1
 cases r1
 exact not_of (Nt ⟨.bl (!c),H1,I1,rfl,q1⟩)
end
def SqL (K:PySem.W.Frag) (H:Hp) (a:Addr) (xs:List V):Prop :=
 Rd H a (.lst xs) \/
  ∃ (o:Obj) (its:Array Value) (n:Nat),K.lookup a=some o/\o.cls = .type "list" /\ o.dict=none/\o.data = .seq its n/\its.size<=sizeLine/\Vals xs its.toList
def SqT (K:PySem.W.Frag) (H:Hp) (a:Addr) (xs:List V):Prop :=
 Rd H a (.tup xs) \/
  ∃ (o:Obj) (its:Array Value) (n:Nat),K.lookup a=some o/\o.cls = .type "tuple" /\ o.data = .seq its n/\its.size<=sizeLine/\Vals xs its.toList
def si:Value->Option V
 | .none=>some .non
 | .bool b=>some (.bl b)
 | .int i _=>some (.int i)
 | .str x _=>some (.str x)
 | .bytes b _=>some (.byt b)
 | .float b _=>some (.flt b)
 | .ref a=>some (.ref a)
 | .type n=>some (.ty n)
 | _=>none
theorem RelV.abs {x:V} {u:Value} (r:RelV x u):si u=some x:=by
 cases x with
 | non=>cases r;rfl
 | bl _=>cases r;rfl
 | int _=>obtain ⟨t,rfl⟩:=r;rfl
 | str _=>obtain ⟨t,rfl⟩:=r;rfl
 | byt _=>obtain ⟨t,rfl⟩:=r;rfl
 | flt _=>obtain ⟨t,rfl⟩:=r;rfl
 | ref _=>cases r;rfl
 | ty _=>cases r;rfl
theorem RelV.inj {x y:V} {u:Value} (r:RelV x u) (q:RelV y u):x=y:=NJ (r.abs.symm.trans q.abs)
theorem Vals.inj:∀ {xs ys:List V} {us:List Value},Vals xs us->Vals ys us->xs=ys
 | _,_,_,.nil,.nil=>rfl
 | _,_,_,.cons r t,.cons r' t' => by rw [r.inj r',Vals.inj t t']
section
variable {X:Cx} {pins:List (Addr×Obj)} {σ:St} {H:Hp} {s:Shared} {a:Addr} {xs ys:List V}
theorem SqL.of {K:PySem.W.Frag} (h:H a=some (.lst xs)):SqL K H a xs:=.inl (.inl h)
theorem SqT.of {K:PySem.W.Frag} (h:H a=some (.tup xs)):SqT K H a xs:=.inl (.inl h)
theorem Inv.list (I:Inv X pins σ H s) (h:SqL X.K H a xs):∃ its:List Value,Vals xs its/\PlainL s.heap a its.toArray/\xs.length<=sizeLine:=by
 rcases h with h | ⟨o,its,n,hk,hc,hd,hs,hz,r⟩
 ·obtain ⟨z,its,n,r,e⟩:=h.ok I.hok
  exact ⟨its,r,⟨_,n,e,rfl,rfl,rfl⟩,z⟩
 ·refine ⟨its.toList,r,⟨o,n,I.kIn a o hk,hc,hd,by simpa using hs⟩,?_⟩
  have e:=r.length
  simp only [OC] at e
  lia
theorem Inv.tuple (I:Inv X pins σ H s) (h:SqT X.K H a xs):∃ its:List Value,Vals xs its/\IsTup s.heap a its.toArray/\xs.length<=sizeLine:=by
 rcases h with h | ⟨o,its,n,hk,hc,hs,hz,r⟩
 ·obtain ⟨z,its,r,p⟩:=h.ok I.hok
  exact ⟨its,r,p,z⟩
 ·refine ⟨its.toList,r,⟨o,I.kIn a o hk,hc,n,by simpa using hs⟩,?_⟩
  have e:=r.length
  simp only [OC] at e
  lia
theorem Inv.list_inj (I:Inv X pins σ H s) (h:SqL X.K H a xs) (h':SqL X.K H a ys):xs=ys:=by
 obtain ⟨its,r,⟨o,n,e,_,_,d⟩,_⟩:=I.list h
 obtain ⟨its',r',⟨o',n',e',_,_,d'⟩,_⟩:=I.list h'
 rw [e] at e';cases e'
 rw [d] at d';injection d' with d1 _
 have:its=its' := by simpa using congrArg Array.toList d1
 subst this;exact r.inj r'
theorem Inv.tuple_inj (I:Inv X pins σ H s) (h:SqT X.K H a xs) (h':SqT X.K H a ys):xs=ys:=by
 obtain ⟨its,r,⟨o,e,_,n,d⟩,_⟩:=I.tuple h
 obtain ⟨its',r',⟨o',e',_,n',d'⟩,_⟩:=I.tuple h'
 rw [e] at e';cases e'
 rw [d] at d';injection d' with d1 _
 have:its=its' := by simpa using congrArg Array.toList d1
 subst this;exact r.inj r'
end
abbrev Cx.wish (X:Cx) (E:Value->Shared->Prop):Cx:={ X with xe:=E }
abbrev Cx.nox (X:Cx):Cx:=X.wish λ_ _=>False
theorem Cx.Ok.wish {X:Cx} (ok:X.Ok) (E:Value->Shared->Prop):(X.wish E).Ok :=
 ⟨ok.mod,ok.kind,ok.glob,ok.blt,ok.above,ok.inj,ok.has,ok.cab,ok.hd,ok.frames,ok.stk,ok.exf,ok.bs,ok.bsz,ok.noex,ok.exfs,ok.funs,ok.frf⟩
theorem Cx.Ok.unwish {X:Cx} {E:Value->Shared->Prop} (ok:(X.wish E).Ok):X.Ok :=
 ⟨ok.mod,ok.kind,ok.glob,ok.blt,ok.above,ok.inj,ok.has,ok.cab,ok.hd,ok.frames,ok.stk,ok.exf,ok.bs,ok.bsz,ok.noex,ok.exfs,ok.funs,ok.frf⟩
section
variable {X:Cx} {pins:List (Addr×Obj)} {σ:St} {H:Hp} {s:Shared} {E:Value->Shared->Prop}
theorem Inv.wish (I:Inv X pins σ H s) (E:Value->Shared->Prop):Inv (X.wish E) pins σ H s:=⟨I.ok.wish E,I.os,I.bare,I.base,I.loc,I.cell,I.free,I.freeC,I.pin,I.hok,I.len⟩
theorem Inv.unwish (I:Inv (X.wish E) pins σ H s):Inv X pins σ H s:=⟨I.ok.unwish,I.os,I.bare,I.base,I.loc,I.cell,I.free,I.freeC,I.pin,I.hok,I.len⟩
theorem SP.unwish {D:cU} {f:Flow} {s':Shared} (h:SP (X.wish E) pins D f s'):SP X pins D f s' := by
 cases f with
 | next=>obtain ⟨σ',H',I,q⟩:=h;exact ⟨σ',H',I.unwish,q⟩
 | brk=>obtain ⟨σ',H',I,q⟩:=h;exact ⟨σ',H',I.unwish,q⟩
 | cont=>obtain ⟨σ',H',I,q⟩:=h;exact ⟨σ',H',I.unwish,q⟩
 | ret u=>obtain ⟨v,σ',H',I,r,q⟩:=h;exact ⟨v,σ',H',I.unwish,r,q⟩
end
section
variable {X:Cx} {st:Stmt} {rest:List Stmt} {t u:TS} {e:Expr} {te:TE} {pos:Pos}
def Cz:TS:=λD σ H=>D.nx σ H
def sj (t u:TS):TS:=λD σ H=>t { D with nx:=u D } σ H
theorem CB:fN X [] Cz:=λ_ _ σ H _ I h=>PK ⟨σ,H,I,h⟩
theorem CD (h1:PS X st t) (h2:fN X rest u):fN X (st::rest) (sj t u):=by
 intro pins s σ H D I h
 refine wpAny_execs_cons (thn (h1 pins s σ H { D with nx:=u D } I h) λf s1 q=>?_)
 cases f with
 | next =>
  obtain ⟨σ',H',I',q⟩:=q
  exact h2 pins s1 σ' H' D I' q
 | ret v=>exact q
 | brk=>exact q
 | cont=>exact q
theorem CG (h1:PS X st t):fN X [st] t:=by
 intro pins s σ H D I h
 refine wpAny_execs_cons (thn (h1 pins s σ H D I h) λf s1 q=>?_)
 cases f with
 | next=>exact PK q
 | ret v=>exact q
 | brk=>exact q
 | cont=>exact q
theorem Inv.quiet {pins:List (Addr×Obj)} {σ:St} {H:Hp} {s:Shared} (I:Inv X pins σ H s):interactive X.env=false:=by simp [interactive,I.ok.kind]
def CH (te:TE):TS:=λD σ H=>te σ H λ_ H1=>D.nx σ H1
theorem CI (he:PE X e te) (hs:swapsWith e none pos.line X.env=pure false:=by rfl):PS X (.Expr e pos) (CH te):=by
 intro pins s σ H D I h
 exact wpAny_Expr_any (thn (he pins s σ H _ I h) λv s1 ⟨x,H1,I1,r1,q1⟩=>⟨σ,H1,I1,q1⟩) I.quiet hs
def sk (te:TE):TS:=λD σ H=>te σ H D.rt
theorem CJ (he:PE X e te):PS X (.Return (some e) pos) (sk te):=by
 intro pins s σ H D I h
 exact wpAny_Return_some (thn (he pins s σ H _ I h) λv s1 ⟨x,H1,I1,r1,q1⟩=>⟨x,σ,H1,I1,r1,q1⟩)
def sr (c:TT) (t u:TS):TS:=λD σ H=>c σ H λb H1=>if b=true then t D σ H1 else u D σ H1
theorem CK {c:Expr} {a b:List Stmt} {tc:TT} (hc:PT X c tc) (ha:fN X a t) (hb:fN X b u):PS X (.If c a b pos) (sr tc t u):=by
 intro pins s σ H D I h
 refine wpAny_If (thn (hc pins s σ H _ I h) λd s1 Zz=>?_);obtain ⟨H1,I1,q1⟩:=Zz
 cases d with
 | true=>exact ha pins s1 σ H1 D I1 q1
 | false=>exact hb pins s1 σ H1 D I1 q1
end
abbrev TG:=V->St->Hp->(St->Hp->Prop)->Prop
abbrev jM:=List V->St->Hp->(St->Hp->Prop)->Prop
def PG (X:Cx) (target:Expr) (t:TG):Prop :=
 ∀ (pins:List (Addr×Obj)) (s:Shared) (σ:St) (H:Hp) (v:V) (u:Value) (Q:St->Hp->Prop),Inv X pins σ H s->RelV v u->t v σ H Q ->
  wpAny (model X.prog X.w) X.A (assign target X.env u) (λ_ s' => ∃ σ' H',Inv X pins σ' H' s'/\Q σ' H') X.xe s
def kl (X:Cx) (ts:List Expr) (t:jM):Prop :=
 ∀ (pins:List (Addr×Obj)) (s:Shared) (σ:St) (H:Hp) (vs:List V) (us:List Value) (Q:St->Hp->Prop),Inv X pins σ H s->Vals vs us->t vs σ H Q ->
  wpAny (model X.prog X.w) X.A (assignInOrder ((assignEach ts X.env).map (·.2)) us) (λ_ s' => ∃ σ' H',Inv X pins σ' H' s'/\Q σ' H') X.xe s
abbrev ko:=V->V->V->Hp->(Hp->Prop)->Prop
def mY (X:Cx) (t:ko):Prop :=
 ∀ (pins:List (Addr×Obj)) (s:Shared) (σ:St) (H:Hp) (o i v:V) (ov iv u:Value) (Q:Hp->Prop),Inv X pins σ H s->RelV o ov->RelV i iv->RelV v u->t o i v H Q ->
  wpAny (model X.prog X.w) X.A (setItem ov iv u) (λ_ s' => ∃ H',Inv X pins σ H' s'/\Q H') X.xe s
section
variable {X:Cx} {pos:Pos}
def lR (i:Nat):TG:=λv σ H Q=>Q (σ.set i (some v)) H
theorem su {i:Nat} {x:Str} (hN:X.N.Nodup) (hi:X.N[i]? = some x) (hx:ki X.env.scope x) (hf:X.fn x=true\/X.env.scope.names.lookup x=some .local:=by first | exact .inl rfl | exact .inr rfl | assumption):PG X (.Name x pos) (lR i):=by
 intro pins s σ H v u Q I r h
 exact RA (lP I hN hi hx r (λs' I' => ⟨_,H,I',h⟩) hf)
def sv:jM:=λvs σ H Q=>vs=[]/\Q σ H
def CL (t:TG) (u:jM):jM:=λvs σ H Q=>∃ v r,vs=v::r/\t v σ H λσ' H' => u r σ' H' Q
theorem CM:kl X [] sv:=by
 intro pins s σ H vs us Q I r h
 obtain ⟨e,h⟩:=h
 subst e
 cases r
 exact RB ⟨σ,H,I,h⟩
theorem CN {e:Expr} {es:List Expr} {t:TG} {u:jM} (h1:PG X e t) (h2:kl X es u)
  (hs:(assignEach (e::es) X.env).map (·.2)=assign e X.env::(assignEach es X.env).map (·.2):=by rfl):kl X (e::es) (CL t u):=by
 intro pins s σ H vs us Q I r h
 obtain ⟨v,vr,e1,h⟩:=h
 subst e1
 cases r with
 | cons r rr =>
  rw [hs];refine Pl (thn (h1 pins s σ H _ _ _ I r h) λ_ s1 Zz=>?_);obtain ⟨σ1,H1,I1,q1⟩:=Zz
  exact h2 pins s1 σ1 H1 _ _ Q I1 rr q1
def sC (K:PySem.W.Frag) (n:Nat) (t:jM):TG:=λv σ H Q=>∃ a xs,v = .ref a/\SqT K H a xs/\xs.length=n/\t xs σ H Q
theorem CO {es:List Expr} {k:Nat} {t:jM} {n:Nat} (hc:X.calm=true) (h:kl X es t)
  (hn:(assignEach es X.env).length=n:=by rfl) (hst:(assignEach es X.env).findIdx? (·.1)=none:=by rfl):PG X (.Tuple es k pos) (sC X.K n t):=by
 intro pins s σ H v u Q I r hw
 obtain ⟨a,xs,e1,hq,hl,hw⟩:=hw
 subst e1
 cases r
 obtain ⟨its,rv,ht,hz⟩:=I.tuple hq
 refine assign_Tuple_tuple (I.ok.hd hc) ht (by simp [hn,<- hl,rv.length]) hst λh' hx=>?_
 have I1:Inv X pins σ H { s with heap:=h' }:=I.kept (t' := s.toks) λb o e=>hx b o (NH (Ng e)) e
 exact h pins _ σ H xs _ Q I1 (by simpa using rv) hw
def sD (to ti:TE) (t:ko):TG:=λv σ H Q=>to σ H λo H1=>ti σ H1 λi H2=>t o i v H2 λH3=>Q σ H3
theorem CQ {o i:Expr} {to ti:TE} {t:ko} (ho:PE X o to) (hi:PE X i ti) (hs:mY X t)
  (ha:∀ v,assign (.Subscript o i pos) X.env v=(do
   let ov <- holding [v] (eval o X.env)
   let iv <- holding [v,ov] (eval i X.env)
   standAt pos
   holding [v,ov,iv] (setItem ov iv v)
   release [v,ov,iv] []):=by intro _;rfl):PG X (.Subscript o i pos) (sD to ti t):=by
 intro pins s σ H v u Q I r h
 rw [ha];refine M4 (Og (thn (ho pins s σ H _ I h) λov s1 Zz=>?_));obtain ⟨x,H1,I1,r1,q1⟩:=Zz
 refine M4 (Og (thn (hi pins s1 σ H1 _ I1 q1) λiv s2 Zz=>?_));obtain ⟨y,H2,I2,r2,q2⟩:=Zz
 refine M4 (Qe (M4 (Og (thn (hs pins s2 σ H2 x y v ov iv u _ I2 r1 r2 r q2) λ_ s3 Zz=>?_))));obtain ⟨H3,I3,q3⟩:=Zz
 exact wpAny_release ⟨σ,H3,I3,q3⟩
def i6 (te:TE) (g:TG):TS:=λD σ H=>te σ H λx H1=>g x σ H1 D.nx
theorem xW {tg e:Expr} {te:TE} {g:TG} (he:PE X e te) (hg:PG X tg g) (hs:swapsWithSole [tg] e pos.line X.env=pure false:=by rfl) (hw:swappedStores [tg] e X.env=pure none:=by rfl)
  (h1:(assignEach [tg] X.env).map (·.2)=[assign tg X.env]:=by rfl):PS X (.Assign [tg] e pos) (i6 te g):=by
 intro pins s σ H D I h
 refine wpAny_Assign_stores (thn (he pins s σ H _ I h) λv s1 Zz=>?_) hs hw;obtain ⟨x,H1,I1,r1,q1⟩:=Zz
 rw [h1];exact thn (hg pins s1 σ H1 x v _ I1 r1 q1) λ_ s2 q=>q
theorem CT {i:Nat} {x:Str} {e:Expr} {te:TE} {pos':Pos} (hN:X.N.Nodup) (hi:X.N[i]? = some x) (hx:ki X.env.scope x) (he:PE X e te) (hs:swapsWith e (some (.Name x pos')) pos.line X.env=pure false:=by rfl) (hf:X.fn x=true\/X.env.scope.names.lookup x=some .local:=by first | exact .inl rfl | exact .inr rfl | assumption) :
  PS X (.Assign [.Name x pos'] e pos) (i6 te (lR i)):=by
 intro pins s σ H D I h
 refine wpAny_Assign_Name (thn (he pins s σ H _ I h) λv s1 Zz=>?_) hs;obtain ⟨y,H1,I1,r1,q1⟩:=Zz
 exact lP I1 hN hi hx r1 (λs2 I2=>⟨_,H1,I2,q1⟩) hf
end
section
variable {X:Cx} {pos:Pos}
end
structure It where
 go:Nat->Hp->Prop
 yld:Nat->Hp->V->Hp->Prop
 stop:Nat->Hp->Prop
def dF (X:Cx) (pins:List (Addr×Obj)) (H:Hp) (b:Addr):Prop :=
 H b=none/\b≠X.env.locals/\b∉X.fs/\(b∈X.ex\/X.s₀.heap.objs.size<=b)/\(∀ x c,X.env.cells.lookup x=some c->c≠b)/\∀ p∈X.pn++pins,p.1≠b
theorem Inv.fpOk {X:Cx} {pins:List (Addr×Obj)} {σ:St} {H H':Hp} {s:Shared} {b:Addr} (I:Inv X pins σ H s) (hb:s.heap.objs.size<=b) (hn:H' b=none):dF X pins H' b:=by
 refine ⟨hn,Nat.ne_of_gt (Nq I.lt hb),I.nofs hb,.inr (M6 I.sz hb),λx c e z=>?_,λp hp z=>?_⟩
 ·obtain ⟨v,q⟩:=I.cell x c e
  exact absurd (Nq q.lt (by rw [z];exact hb)) (Ot _)
 ·exact absurd (Nq (Ng (I.pin p hp).1) (by rw [z];exact hb)) (Ot _)
structure fO (P:Program) (w:World) (K:PySem.W.Frag) (tg:Expr) (J:It) (fp:List Addr) (it:Addr) (tn:Nat->Heap->Prop):Prop where
 mem:it∈fp
 obj:∀ i h,tn i h->∀ b∈fp,∃ o,h.get? b=some o/\∀ v,o.data ≠ .cell v
 keep:∀ i h h',tn i h->(∀ b∈fp,∀ o,h.get? b=some o->h'.get? b=some o)->tn i h'
 item:∀ (X:Cx),X.prog=P->X.w=w->X.K=K->X.calm=true->∀ (i:Nat) (pins:List (Addr×Obj)) (s:Shared) (σ:St) (H:Hp) (E:Value->Shared->Prop),Inv X pins σ H s->(∀ b∈fp,dF X pins H b)->tn i s.heap->J.go i H ->
  wpAny (model P w) X.A (pyNext (.ref it)) (λr s1=>∃ u,r=some u /\
   wpAny (model P w) X.A (letOwnedTupleGo tg (.ref it) u) (λ_ s2=>∃ x H',Inv X pins σ H' s2/\RelV x u/\J.yld i H x H'/\tn (i+1) s2.heap/\∀ b∈fp,H' b=none) E s1) E s
 done:∀ (X:Cx),X.prog=P->X.w=w->X.K=K->X.calm=true->∀ (i:Nat) (pins:List (Addr×Obj)) (s:Shared) (σ:St) (H:Hp) (E:Value->Shared->Prop),Inv X pins σ H s->(∀ b∈fp,dF X pins H b)->tn i s.heap->J.stop i H ->
  wpAny (model P w) X.A (pyNext (.ref it)) (λr s1=>r=none/\Inv X pins σ H s1) E s
 self:∀ (A:Around) (i:Nat) (s:Shared) (Q:Value->Shared->Prop) (E:Value->Shared->Prop),tn i s.heap->Q (.ref it) s->wpAny (model P w) A (pyIter (.ref it)) Q E s
abbrev TI:=St->Hp->(It->Hp->Prop)->Prop
def sE (X:Cx) (pins:List (Addr×Obj)) (σ:St) (tg:Expr) (R:It->Hp->Prop) (itv:Value) (s2:Shared):Prop :=
 ∃ (it:Addr) (fp:List Addr) (tn:Nat->Heap->Prop) (J:It) (H':Hp),itv = .ref it/\Inv X pins σ H' s2/\fO X.prog X.w X.K tg J fp it tn/\tn 0 s2.heap/\(∀ b∈fp,dF X pins H' b)/\R J H'
def PI (X:Cx) (tg iter:Expr) (wi:TI):Prop :=
 ∀ (pins:List (Addr×Obj)) (s:Shared) (σ:St) (H:Hp) (R:It->Hp->Prop),Inv X pins σ H s->wi σ H R ->
  wpAny (model X.prog X.w) X.A (eval iter X.env) (λv s1=>wpAny (model X.prog X.w) X.A (pyIter v) (sE X pins σ tg R) X.xe s1) X.xe s
theorem ph {M:Model} {A:Around} {E:Value->Shared->Prop} {s:Shared} {tg:Expr} {it:Addr} {u:Value} {o:Obj} {n:String} {vs:Array Value} {Q:Unit->Shared->Prop} (ho:s.heap.get? it=some o) (hc:o.cls = .type n) (hd:o.data = .fields vs)
  (hn:["enumerate", "zip", "dict_itemiterator", "dict_reverseitemiterator", "odict_iterator", "itertools.zip_longest", "itertools.pairwise"].contains n=false) (hQ:Q () s):wpAny M A (letOwnedTupleGo tg (.ref it) u) Q E s:=by
 unfold letOwnedTupleGo
 cases tg<;>first
  | exact Nd hQ
  | (cases u<;>first
    | exact Nd hQ
    | (refine M4 (Pm ho ?_)
       rw [hc,hd];show wpAny M A (if (["enumerate", "zip", "dict_itemiterator", "dict_reverseitemiterator", "odict_iterator", "itertools.zip_longest", "itertools.pairwise"].contains n && vs[0]? == some (rawInt _))=true then _ else _) Q E s
       rw [M9 (by intro h;rw [hn,Bool.false_and] at h;cases h)]
       exact Nd hQ))
def pj (K:PySem.W.Frag) (a:Addr):It :=
 ⟨λi H=>∃ xs x,SqL K H a xs/\xs[i]? = some x,λi H x H' => H'=H/\∀ xs,SqL K H a xs->xs[i]? = some x,λi H=>∃ xs,SqL K H a xs/\xs.length<=i⟩
def sF (K:PySem.W.Frag) (a:Addr):It :=
 ⟨λi H=>∃ xs x,SqT K H a xs/\xs[i]? = some x,λi H x H' => H'=H/\∀ xs,SqT K H a xs->xs[i]? = some x,λi H=>∃ xs,SqT K H a xs/\xs.length<=i⟩
def pq (lo:Int) (n:Nat):It:=⟨λi _=>i<n,λi H x H' => H'=H/\x = .int (lo+i),λi _=>n<=i⟩
theorem CV {P:Program} {w:World} {K:PySem.W.Frag} {tg:Expr} (a it:Addr):fO P w K tg (pj K a) [it] it (λi h=>h.IsListIter it a i) where
 mem:=by simp
 obj:=λi h st b hb=>by
  have e:b=it:=by simpa using hb
  subst e;obtain ⟨o,e,c,d⟩:=st
  exact ⟨o,e,λv z=>by rw [d] at z;cases z⟩
 keep:=λi h h' st k=>st.at λo e=>k it (by simp) o e
 item:=by
  intro X hP hw hK hc i pins s σ H E I hf st hg
  subst hP hw hK
  obtain ⟨xs,x,hq,hx⟩:=hg
  obtain ⟨its,rv,p,hz⟩:=I.list hq
  obtain ⟨u,hu,ru⟩:=rv.get hx
  obtain ⟨f0,f1,f2,f3,f4,f5⟩:=hf it (by simp)
  refine wpAny_pyNext_list_item st p.isList (x:=u) (by simpa using hu) λh' st' sb=>?_
  have I1:Inv X pins σ H { s with heap:=h' }:=I.turned (t' := s.toks) (λb o hb e=>(sb.2 b hb).trans e) f0 f1 f3 f4 f5
  obtain ⟨o,e,c,d⟩:=id st'
  exact ⟨u,rfl,ph (s:={ s with heap:=h' }) e c d (by decide) ⟨x,H,I1,ru,⟨rfl,λys hy=>by rw [I.list_inj hy hq];exact hx⟩,st',λb hb=>(hf b hb).1⟩⟩
 done:=by
  intro X hP hw hK hc i pins s σ H E I hf st hg
  subst hP hw hK
  obtain ⟨xs,hq,hx⟩:=hg
  obtain ⟨its,rv,p,hz⟩:=I.list hq
  obtain ⟨f0,f1,f2,f3,f4,f5⟩:=hf it (by simp)
  have hl:=rv.length
  exact wpAny_pyNext_list_end (I.ok.hd hc) st p.isList (by simp;lia) λh' eb=>⟨rfl,I.turned (t' := s.toks) (λb o hb e=>eb b o hb e) f0 f1 f3 f4 f5⟩
 self:=λ_ _ _ _ _ st h=>wpAny_pyIter_listiter st h
theorem CW {P:Program} {w:World} {K:PySem.W.Frag} {tg:Expr} (a it:Addr):fO P w K tg (sF K a) [it] it (λi h=>h.IsTupleIter it a i) where
 mem:=by simp
 obj:=λi h st b hb=>by
  have e:b=it:=by simpa using hb
  subst e;obtain ⟨o,e,c,d⟩:=st
  exact ⟨o,e,λv z=>by rw [d] at z;cases z⟩
 keep:=λi h h' st k=>st.at λo e=>k it (by simp) o e
 item:=by
  intro X hP hw hK hc i pins s σ H E I hf st hg
  subst hP hw hK
  obtain ⟨xs,x,hq,hx⟩:=hg
  obtain ⟨its,rv,p,hz⟩:=I.tuple hq
  obtain ⟨u,hu,ru⟩:=rv.get hx
  obtain ⟨f0,f1,f2,f3,f4,f5⟩:=hf it (by simp)
  refine wpAny_pyNext_tuple_item st (show s.heap.IsTuple a its.toArray from p) (x:=u) (by simpa using hu) λh' st' sb=>?_
  have I1:Inv X pins σ H { s with heap:=h' }:=I.turned (t' := s.toks) (λb o hb e=>(sb.2 b hb).trans e) f0 f1 f3 f4 f5
  obtain ⟨o,e,c,d⟩:=id st'
  exact ⟨u,rfl,ph (s:={ s with heap:=h' }) e c d (by decide) ⟨x,H,I1,ru,⟨rfl,λys hy=>by rw [I.tuple_inj hy hq];exact hx⟩,st',λb hb=>(hf b hb).1⟩⟩
 done:=by
  intro X hP hw hK hc i pins s σ H E I hf st hg
  subst hP hw hK
  obtain ⟨xs,hq,hx⟩:=hg
  obtain ⟨its,rv,p,hz⟩:=I.tuple hq
  obtain ⟨f0,f1,f2,f3,f4,f5⟩:=hf it (by simp)
  have hl:=rv.length
  exact wpAny_pyNext_tuple_end (I.ok.hd hc) st (show s.heap.IsTuple a its.toArray from p) (by simp;lia) λh' eb=>⟨rfl,I.turned (t' := s.toks) (λb o hb e=>eb b o hb e) f0 f1 f3 f4 f5⟩
 self:=λ_ _ _ _ _ st h=>wpAny_pyIter_tupleiter st h
theorem CY {P:Program} {w:World} {K:PySem.W.Frag} {tg:Expr} (it:Addr) (lo:Int) (n:Nat):fO P w K tg (pq lo n) [it] it (λi h=>IsRangeIter h it (lo+(i:Nat)*1) ((n:Int)-(i:Nat)) 1) where
 mem:=by simp
 obj:=λi h st b hb=>by
  have e:b=it:=by simpa using hb
  subst e;exact ⟨_,st,λv z=>by
   have z':Data.fields _=Data.cell v:=z
   cases z'⟩
 keep:=λi h h' st k=>k it (by simp) _ st
 item:=by
  intro X hP hw hK hc i pins s σ H E I hf st hg
  subst hP hw hK
  obtain ⟨f0,f1,f2,f3,f4,f5⟩:=hf it (by simp)
  have W:=Walks.range (prog:=X.prog) (w:=X.w) (I.ok.hd hc) it lo 1 n
  refine W.item i s _ _ hg st λv h' tk hv st' kk=>?_
  obtain ⟨t,rfl⟩:=hv
  have I1:Inv X pins σ H { s with heap:=h',toks:=tk }:=I.turned (λb o hb e=>kk b o (by simpa using hb) e) f0 f1 f3 f4 f5
  refine ⟨_,rfl,ph (s:={ s with heap:=h',toks:=tk }) (n := "range_iterator") st' rfl rfl (by decide) ⟨.int (lo+i),H,I1,⟨t,?_⟩,⟨rfl,rfl⟩,st',λb hb=>(hf b hb).1⟩⟩
  rw [Int.mul_one]
 done:=by
  intro X hP hw hK hc i pins s σ H E I hf st hg
  subst hP hw hK
  obtain ⟨f0,f1,f2,f3,f4,f5⟩:=hf it (by simp)
  exact QA (I.ok.hd hc) st (by have:n<=i:=hg;lia) λh' eb=>⟨rfl,I.turned (t' := s.toks) (λb o hb e=>eb b o hb e) f0 f1 f3 f4 f5⟩
 self:=λ_ _ _ _ _ st h=>QB st h
section
variable {X:Cx} {tg:Expr}
def xX (K:PySem.W.Frag) (tl:TE):TI:=λσ H R=>tl σ H λx H1=>∃ a,x = .ref a/\(∃ xs,SqL K H1 a xs)/\R (pj K a) H1
def mZ (K:PySem.W.Frag) (tl:TE):TI:=λσ H R=>tl σ H λx H1=>∃ a,x = .ref a/\(∃ xs,SqT K H1 a xs)/\R (sF K a) H1
theorem CZ {l:Expr} {tl:TE} (hl:PE X l tl):PI X tg l (xX X.K tl):=by
 intro pins s σ H R I h
 refine thn (hl pins s σ H _ I h) λv s1 Zz=>?_;obtain ⟨x,H1,I1,r1,q1⟩:=Zz
 obtain ⟨a,e,⟨xs,hq⟩,q⟩:=q1
 subst e
 cases r1
 obtain ⟨its,rv,p,hz⟩:=I1.list hq
 refine P8 p.isList ?_
 refine ⟨s1.heap.objs.size,[s1.heap.objs.size],_,_,H1,rfl,I1.kept (t' := s1.toks) λb o e=>M7 _ e,CV a _,⟨_,Nn _ rfl,rfl,rfl⟩,λb hb=>?_,q⟩
 have e:b=s1.heap.objs.size:=by simpa using hb
 subst e;exact I1.fpOk (MZ _) (I1.hok.fresh (MZ _))
theorem C6 {l:Expr} {tl:TE} (hl:PE X l tl):PI X tg l (mZ X.K tl):=by
 intro pins s σ H R I h
 refine thn (hl pins s σ H _ I h) λv s1 Zz=>?_;obtain ⟨x,H1,I1,r1,q1⟩:=Zz
 obtain ⟨a,e,⟨xs,hq⟩,q⟩:=q1
 subst e
 cases r1
 obtain ⟨its,rv,p,hz⟩:=I1.tuple hq
 refine wpAny_pyIter_tuple (show s1.heap.IsTuple a its.toArray from p) ?_
 refine ⟨s1.heap.objs.size,[s1.heap.objs.size],_,_,H1,rfl,I1.kept (t' := s1.toks) λb o e=>M7 _ e,CW a _,⟨_,Nn _ rfl,rfl,rfl⟩,λb hb=>?_,q⟩
 have e:b=s1.heap.objs.size:=by simpa using hb
 subst e;exact I1.fpOk (MZ _) (I1.hok.fresh (MZ _))
theorem C7 {pins:List (Addr×Obj)} {σ:St} {H:Hp} {s:Shared} {R:It->Hp->Prop} {E:Value->Shared->Prop} {lo hi:Int} {t u v:Tok} {tk:Nat} (I:Inv X pins σ H s) (h1 : -(2 ^ 62)<=lo) (h2:lo<2 ^ 62) (h3 : -(2 ^ 62)<=hi) (h4:hi<2 ^ 62)
  (q:R (pq lo (hi-lo).toNat) H):wpAny (model X.prog X.w) X.A (pyIter (.ref s.heap.objs.size)) (sE X pins σ tg R) E { s with heap:=s.heap.push { cls:=.type "range",data:=.fields #[.int lo t,.int hi u,.int 1 v] },toks:=tk }:=by
 refine Rp (IsRange.new ..) (small_one h1 h2 h3 h4) ?_
 have I1:Inv X pins σ H { s with heap:=s.heap.push { cls:=.type "range",data:=.fields #[.int lo t,.int hi u,.int 1 v] },toks:=tk }:=I.kept λb o e=>M7 _ e
 refine ⟨(s.heap.push { cls:=.type "range",data:=.fields #[.int lo t,.int hi u,.int 1 v] }).objs.size,[(s.heap.push { cls:=.type "range",data:=.fields #[.int lo t,.int hi u,.int 1 v] }).objs.size],_,_,H,rfl,
  I1.kept (t' := tk) λb o e=>M7 _ e,CY _ lo (hi-lo).toNat,?_,λb hb=>?_,q⟩
 ·have e1:lo+((0:Nat):Int)*1=lo:=by simp
  have e2:(((hi-lo).toNat:Nat):Int)-((0:Nat):Int)=Builtin.Range.rangeSize lo hi 1:=by rw [rangeSize_one];split<;>omega
  show IsRangeIter _ _ (lo+((0:Nat):Int)*1) ((((hi-lo).toNat:Nat):Int)-((0:Nat):Int)) 1
  rw [e1,e2];exact Nn _ rfl
 ·have e:b=(s.heap.push { cls:=.type "range",data:=.fields #[.int lo t,.int hi u,.int 1 v] }).objs.size:=by simpa using hb
  subst e;exact I1.fpOk (MZ _) (I1.hok.fresh (MZ _))
def C8 (ta:TA):TI:=λσ H R=>ta σ H λvs H1=>∃ j:Int,vs=[.int j] /\ -(2 ^ 62)<=j/\j<2 ^ 62/\R (pq 0 j.toNat) H1
theorem C9 {a:Expr} {ta:TA} {p pos:Pos} (hg:Gl X "range") (hm:X.mg "range" = none) (ha:PA X [a] ta) (hs:starEach [a] X.env=[(false,eval a X.env)]:=by rfl):PI X tg (.Call (.Name "range" p) [a] [] pos) (C8 ta):=by
 intro pins s σ H R I h
 refine Call_ (lQ I hg hm boot_range (OE (thn (ha pos pins s σ H _ I h) λus s1 Zz=>?_) hs rfl));obtain ⟨vs,H1,I1,r1,q1⟩:=Zz
 obtain ⟨j,e,q1,q2,q⟩:=q1
 subst e
 cases r1 with
 | cons r rr =>
  cases rr
  obtain ⟨t,rfl⟩:=r
  exact call_range_1 (C7 I1 (by lia) (by lia) q1 q2 (by simpa using q))
def sG (wi:TI) (g:TG) (tb:TS):TS:=λD σ H=>wi σ H λJ H1=>∃ W:Nat->Nat->St->Hp->Prop,(∃ m,W 0 m σ H1)/\∀ i m σ H,W i m σ H ->
 (J.stop i H/\D.nx σ H)\/(J.go i H/\∃ N:St->Hp->Prop,(∀ σ' H',N σ' H'->∃ m',m'<m/\W (i+1) m' σ' H')/\∀ x H',J.yld i H x H'->g x σ H' λσ2 H2=>tb { D with nx:=N,ct:=N,bk:=D.nx } σ2 H2)
def iK (fp:List Addr) (h:Heap):List (Addr×Obj):=fp.filterMap λb=>(h.get? b).map λo=>(b,o)
theorem pA {fp:List Addr} {h:Heap} {b:Addr} {o:Obj} (hb:b∈fp) (e:h.get? b=some o):(b,o)∈iK fp h:=PV.mpr ⟨b,hb,by rw [e];rfl⟩
theorem Da {fp:List Addr} {h:Heap} {p:Addr×Obj} (hp:p∈iK fp h):p.1∈fp/\h.get? p.1=some p.2:=by
 obtain ⟨b,hb,e⟩:=PV.mp hp
 cases q:h.get? b with
 | none=>rw [q] at e;cases e
 | some o =>
  rw [q] at e;have e':(b,o)=p:=NJ e
  subst e'
  exact ⟨hb,q⟩
theorem Inv.pinned {pins:List (Addr×Obj)} {σ:St} {H:Hp} {s:Shared} {fp:List Addr} (I:Inv X pins σ H s) (hf:∀ b∈fp,dF X pins H b) (ho:∀ b∈fp,∃ o,s.heap.get? b=some o/\∀ v,o.data ≠ .cell v):Inv X (pins++iK fp s.heap) σ H s :=
 I.pins_of λp hp=>(NV.mp hp).elim (λz=>I.pin p (Ny _ z)) λz=>by
  obtain ⟨hb,e⟩:=Da z
  obtain ⟨f0,f1,f2,_⟩:=hf p.1 hb
  obtain ⟨o,e',d⟩:=ho p.1 hb
  rw [e] at e';cases e'
  exact ⟨e,f0,f1,f2,d⟩
theorem Inv.unpinned {pins pl:List (Addr×Obj)} {σ:St} {H:Hp} {s:Shared} (I:Inv X (pins++pl) σ H s):Inv X pins σ H s:=I.pins_of λp hp=>I.pin p (Ny _ (Nu _ hp))
theorem Dc {iter:Expr} {body:List Stmt} {wi:TI} {g:TG} {tb:TS} {pos:Pos} (hp:PassesOwn (model X.prog X.w) X.A X.env X.xe) (hc:X.calm=true) (hi:PI X tg iter wi) (hg:PG X tg g) (hb:fN X body tb)
  (hs:∀ x,foldedSetIterable iter X.env x=pure x:=by intro _;rfl):PS X (.For tg iter body [] pos) (sG wi g tb):=by
 intro pins s σ H D I h
 refine wpAny_For (thn (hi pins s σ H _ I h) λv s1 h1=>thn h1 λitv s2 h2=>?_) hs
 obtain ⟨it,fp,tn,J,H2,e,I2,T,st2,f2,W,⟨m0,w0⟩,turn⟩:=h2
 subst e;have stat:∀ {H':Hp},(∀ b∈fp,H' b=none)->∀ b∈fp,dF X pins H' b:=λhn b hb=>⟨hn b hb,(f2 b hb).2⟩
 refine codeAny_forLoop_any (λn s' => ∃ i σ' H',Inv X pins σ' H' s'/\tn i s'.heap/\(∀ b∈fp,H' b=none)/\W i n σ' H') ?_ m0 ⟨0,σ,H2,I2,st2,λb hb=>(f2 b hb).1,w0⟩
 rintro n s3 ⟨i,σ3,H3,I3,st3,fr3,w3⟩
 rcases turn i n σ3 H3 w3 with ⟨stop,qn⟩ | ⟨go,N,hN,step⟩
 ·refine Pi hp (thn (T.done X rfl rfl rfl hc i pins s3 σ3 H3 X.xe I3 (stat fr3) st3 stop) λr s4 Zz=>?_);obtain ⟨hr,I4⟩:=Zz
  subst hr;exact PK ⟨σ3,H3,I4,qn⟩
 ·refine Pi hp (thn (T.item X rfl rfl rfl hc i pins s3 σ3 H3 X.xe I3 (stat fr3) st3 go) λr s4 Zz=>?_);obtain ⟨u,hr,h4⟩:=Zz
  subst hr;refine Pi hp (thn h4 λ_ s5 Zz=>?_);obtain ⟨x,H5,I5,r5,y5,st5,fr5⟩:=Zz
  have I5' := I5.pinned (stat fr5) (T.obj _ _ st5)
  refine Pi hp (thn (hg _ s5 σ3 H5 x u _ I5' r5 (step x H5 y5)) λ_ s6 Zz=>?_);obtain ⟨σ6,H6,I6,q6⟩:=Zz
  refine Pi hp (thn (hb _ s6 σ6 H6 _ I6 q6) λf s7 q7=>?_)
  have again:∀ {σ7:St} {H7:Hp},Inv X (pins++iK fp s5.heap) σ7 H7 s7->N σ7 H7->∃ m,m<n/\∃ i σ' H',Inv X pins σ' H' s7/\tn i s7.heap/\(∀ b∈fp,H' b=none)/\W i m σ' H' := λ{σ7 H7} I7 n7=>by
   obtain ⟨m',hm,w7⟩:=hN σ7 H7 n7
   refine ⟨m',hm,i+1,σ7,H7,I7.unpinned,T.keep _ _ _ st5 λb hb o e=>(I7.pin (b,o) (Ny _ (Ny _ (pA hb e)))).1,λb hb=>?_,w7⟩
   obtain ⟨o,e,d⟩:=T.obj _ _ st5 b hb
   exact (I7.pin (b,o) (Ny _ (Ny _ (pA hb e)))).2.1
  cases f with
  | next=>obtain ⟨σ7,H7,I7,n7⟩:=q7;exact again I7 n7
  | cont=>obtain ⟨σ7,H7,I7,n7⟩:=q7;exact again I7 n7
  | brk=>obtain ⟨σ7,H7,I7,q7⟩:=q7;exact ⟨σ7,H7,I7.unpinned,q7⟩
  | ret v=>obtain ⟨x7,σ7,H7,I7,r7,q7⟩:=q7;exact ⟨x7,σ7,H7,I7.unpinned,r7,q7⟩
end
abbrev R2:=V->V->Hp->VK->Prop
def OpR (X:Cx) (f:Value->Value->Sem Value) (r:R2):Prop :=
 ∀ (pins:List (Addr×Obj)) (s:Shared) (σ:St) (H:Hp) (x y:V) (v u:Value) (Q:VK),Inv X pins σ H s->RelV x v->RelV y u->r x y H Q ->
  wpAny (model X.prog X.w) X.A (f v u) (EP X pins σ Q) X.xe s
def sH (X:Cx) (f:Value->Sem Value) (r:V->Hp->VK->Prop):Prop :=
 ∀ (pins:List (Addr×Obj)) (s:Shared) (σ:St) (H:Hp) (x:V) (v:Value) (Q:VK),Inv X pins σ H s->RelV x v->r x H Q ->
  wpAny (model X.prog X.w) X.A (f v) (EP X pins σ Q) X.xe s
def CallR (X:Cx) (f:Value) (r:List V->Hp->VK->Prop):Prop :=
 ∀ (pins:List (Addr×Obj)) (s:Shared) (σ:St) (H:Hp) (xs:List V) (us:List Value) (Q:VK),Inv X pins σ H s->Vals xs us->r xs H Q ->
  wpAny (model X.prog X.w) X.A (call f us) (EP X pins σ Q) X.xe s
def sI (X:Cx) (r:V->Hp->(Bool->Hp->Prop)->Prop):Prop :=
 ∀ (pins:List (Addr×Obj)) (s:Shared) (σ:St) (H:Hp) (x:V) (v:Value) (Q:Bool->Hp->Prop),Inv X pins σ H s->RelV x v->r x H Q ->
  wpAny (model X.prog X.w) X.A (truthy v) (TP X pins σ Q) X.xe s
def lS (r:R2) (ta tb:TE):TE:=λσ H Q=>ta σ H λx H1=>tb σ H1 λy H2=>r x y H2 Q
def Df (r:V->Hp->VK->Prop) (ta:TE):TE:=λσ H Q=>ta σ H λx H1=>r x H1 Q
def rI (C:Int->Int->Prop) (g:Int->Int->V):R2:=λx y H Q=>∃ i j,x = .int i/\y = .int j/\C i j/\Q (g i j) H
def jO (g:Int->Int->V):R2:=λx y H Q=>∃ i j,x = .int i/\y = .int j/\Q (g i j) H
def rU (g:Int->V):V->Hp->VK->Prop:=λx H Q=>∃ i,x = .int i/\Q (g i) H
section
variable {X:Cx} {a b c:Expr} {ta tb tc:TE} {pos:Pos}
theorem kq (ha:PE X a ta) (hb:PE X b tb) {pins:List (Addr×Obj)} {s:Shared} {σ:St} {H:Hp} {R:V->V->Hp->Prop} (I:Inv X pins σ H s)
  (h:ta σ H λx H1=>tb σ H1 λy H2=>R x y H2) {Q:Value->Shared->Prop} {f:Value->Value->Sem Value}
  (hf:∀ v u s2 x y H2,Inv X pins σ H2 s2->RelV x v->RelV y u->R x y H2->wpAny (model X.prog X.w) X.A (f v u) Q X.xe s2) :
  wpAny (model X.prog X.w) X.A (eval a X.env) (λv s₁=>wpAny (model X.prog X.w) X.A (eval b X.env) (λu s₂=>wpAny (model X.prog X.w) X.A (f v u) Q X.xe s₂) X.xe s₁) X.xe s:=by
 refine thn (ha pins s σ H _ I h) λv s1 Zz=>?_;obtain ⟨x,H1,I1,r1,q1⟩:=Zz
 refine thn (hb pins s1 σ H1 _ I1 q1) λu s2 Zz=>?_;obtain ⟨y,H2,I2,r2,q2⟩:=Zz
 exact hf v u s2 x y H2 I2 r1 r2 q2
theorem Dg {op:Operator} {r:R2} (ho:OpR X (binaryOp op) r) (ha:PE X a ta) (hb:PE X b tb):PE X (.BinOp a op b pos) (lS r ta tb):=by
 intro pins s σ H Q I h
 exact wpAny_BinOp (kq ha hb I h λv u s2 x y H2 I2 rx ry q=>ho pins s2 σ H2 x y v u Q I2 rx ry q)
theorem Dh {op:UnaryOp} {r:V->Hp->VK->Prop} (ho:sH X (unaryOp op) r) (ha:PE X a ta):PE X (.UnaryOp op a pos) (Df r ta):=by
 intro pins s σ H Q I h
 exact UnaryOp_ (thn (ha pins s σ H _ I h) λv s1 ⟨x,H1,I1,r1,q1⟩=>ho pins s1 σ H1 x v Q I1 r1 q1)
theorem pB {f:Value->Value->Sem Value} {C:Int->Int->Prop} {g:Int->Int->Int}
  (rule:∀ (i j:Int) (t u:Tok) (s:Shared) (Q:Value->Shared->Prop) (E:Value->Shared->Prop),C i j->Q (.int (g i j) s.toks) { s with toks:=s.toks+1 }->wpAny (model X.prog X.w) X.A (f (.int i t) (.int j u)) Q E s) :
  OpR X f (rI C λi j=>.int (g i j)):=by
 intro pins s σ H x y v u Q I rx ry h
 obtain ⟨i,j,rfl,rfl,hc,q⟩:=h
 obtain ⟨t,rfl⟩:=rx
 obtain ⟨t',rfl⟩:=ry
 exact rule i j t t' s _ _ hc ⟨.int (g i j),H,I.tok _,⟨_,rfl⟩,q⟩
theorem m7 {f:Value->Value->Sem Value} {g:Int->Int->Int}
  (rule:∀ (i j:Int) (t u:Tok) (s:Shared) (Q:Value->Shared->Prop) (E:Value->Shared->Prop),Q (.int (g i j) s.toks) { s with toks:=s.toks+1 }->wpAny (model X.prog X.w) X.A (f (.int i t) (.int j u)) Q E s) :
  OpR X f (jO λi j=>.int (g i j)):=by
 intro pins s σ H x y v u Q I rx ry h
 obtain ⟨i,j,rfl,rfl,q⟩:=h
 obtain ⟨t,rfl⟩:=rx
 obtain ⟨t',rfl⟩:=ry
 exact rule i j t t' s _ _ ⟨.int (g i j),H,I.tok _,⟨_,rfl⟩,q⟩
theorem i7 {f:Value->Value->Sem Value} {g:Int->Int->Bool}
  (rule:∀ (i j:Int) (t u:Tok) (s:Shared) (Q:Value->Shared->Prop) (E:Value->Shared->Prop),Q (.bool (g i j)) s->wpAny (model X.prog X.w) X.A (f (.int i t) (.int j u)) Q E s) :
  OpR X f (jO λi j=>.bl (g i j)):=by
 intro pins s σ H x y v u Q I rx ry h
 obtain ⟨i,j,rfl,rfl,q⟩:=h
 obtain ⟨t,rfl⟩:=rx
 obtain ⟨t',rfl⟩:=ry
 exact rule i j t t' s _ _ ⟨.bl (g i j),H,I,rfl,q⟩
def sJ (i j:Int):Prop:=0<=j/\j<=1000000/\i.natAbs<2 ^ 64
def CMul (i j:Int):Prop:=(-(2 ^ 64)<i/\i<2 ^ 64)\/(-(2 ^ 64)<j/\j<2 ^ 64)
theorem CMul.ok {i j:Int} (h:CMul i j):IntMulOk i j:=by
 rcases h with ⟨h1,h2⟩ | ⟨h1,h2⟩
 ·exact .of_left (intBits_le_64 h1 h2)
 ·exact .of_right (intBits_le_64 h1 h2)
theorem op_add:OpR X (binaryOp .Add) (jO λi j=>.int (i+j)):=m7 λ_ _ _ _ _ _ _ q=>add_int q
theorem Di:OpR X (binaryOp .Sub) (jO λi j=>.int (i-j)):=m7 λ_ _ _ _ _ _ _ q=>sub_int q
theorem Dj:OpR X (binaryOp .Mod) (rI (λ_ j=>0<j) λi j=>.int (i % j)):=pB λi j _ _ _ _ _ hc q=>by
 have h1:(0:Int)<j:=hc
 exact mod_int' (by lia) (by rw [Int.fmod_eq_emod_of_nonneg i (by lia)];exact q)
theorem Dl:OpR X (binaryOp .Pow) (rI sJ λi j=>.int (i ^ j.toNat)):=pB λ_ _ _ _ _ _ _ hc q=>pow_int_small hc.1 hc.2.1 hc.2.2 q
theorem Dm {f:Value->Sem Value} {g:Int->Int}
  (rule:∀ (i:Int) (t:Tok) (s:Shared) (Q:Value->Shared->Prop) (E:Value->Shared->Prop),Q (.int (g i) s.toks) { s with toks:=s.toks+1 }->wpAny (model X.prog X.w) X.A (f (.int i t)) Q E s) :
  sH X f (rU λi=>.int (g i)):=by
 intro pins s σ H x v Q I rx h
 obtain ⟨i,rfl,q⟩:=h
 obtain ⟨t,rfl⟩:=rx
 exact rule i t s _ _ ⟨.int (g i),H,I.tok _,⟨_,rfl⟩,q⟩
theorem Do:sH X (unaryOp .USub) (rU λi=>.int (-i)):=Dm λ_ _ _ _ _ q=>neg_int q
end
def kr:V->V->Bool
 | .non,.non=>true | .non,.int _=>true | .int _,.non=>true | .non,.bl _=>true | .bl _,.non=>true | .non,.str _=>true | .str _,.non=>true
 | .int _,.int _=>true | .bl _,.bl _=>true | .str _,.str _=>true | .byt _,.byt _=>true
 | .int _,.str _=>true | .str _,.int _=>true | .bl _,.str _=>true | .str _,.bl _=>true
 | _,_=>false
def Dp:R2:=λx y H Q=>kr x y=true/\Q (.bl (decide (x=y))) H
def Dq:R2:=λx y H Q=>kr x y=true/\Q (.bl (!decide (x=y))) H
theorem xY {i j:Int}:decide (V.int i=V.int j)=(i == j):=by
 rw [Oy];simp
theorem xZ {i j:Bool}:decide (V.bl i=V.bl j)=(i == j):=by
 rw [Oy];simp
theorem x6 {i j:Str}:decide (V.str i=V.str j)=(i == j):=by
 rw [Oy];simp
theorem x8 {i j:Array UInt8}:decide (V.byt i=V.byt j)=(i.toList == j.toList):=by
 rw [Oy]
 cases i
 cases j
 simp
section
variable {X:Cx} {a b c:Expr} {ta tb tc:TE} {pos:Pos}
theorem cC {pins:List (Addr×Obj)} {σ:St} {H:Hp} {s:Shared} {Q:VK} {k k':Bool} (I:Inv X pins σ H s) (q:Q (.bl k) H) (e:k=k'):EP X pins σ Q (.bool k') s:=by
 subst e;exact ⟨.bl k,H,I,rfl,q⟩
theorem op_eq:OpR X (compareOp .Eq) Dp:=by
 intro pins s σ H x y v u Q I rx ry h
 obtain ⟨hs,q⟩:=h
 cases x with
 | non =>
  cases rx
  cases y with
  | non=>cases ry;exact PySem.EqNone.eq_none_none (cC I q (by simp))
  | bl j=>cases ry;exact PySem.EqNone.eq_none_bool (cC I q (by simp))
  | int j=>obtain ⟨t',rfl⟩:=ry;exact PySem.EqNone.eq_none_int (cC I q (by simp))
  | str j=>obtain ⟨t',rfl⟩:=ry;exact PySem.EqNone.eq_none_str (cC I q (by simp))
  | _=>exact absurd (show false=true from hs) Nv
 | bl i =>
  cases rx
  cases y with
  | non=>cases ry;exact PySem.EqNone.eq_bool_none (cC I q (by simp))
  | bl j=>cases ry;exact eq_bool (cC I q xZ)
  | str j=>obtain ⟨t',rfl⟩:=ry;exact PySem.EqMixed.eq_bool_str (cC I q (by simp))
  | _=>exact absurd (show false=true from hs) Nv
 | int i =>
  obtain ⟨t,rfl⟩:=rx
  cases y with
  | non=>cases ry;exact PySem.EqNone.eq_int_none (cC I q (by simp))
  | int j=>obtain ⟨t',rfl⟩:=ry;exact eq_int (cC I q xY)
  | str j=>obtain ⟨t',rfl⟩:=ry;exact PySem.EqMixed.eq_int_str (cC I q (by simp))
  | _=>exact absurd (show false=true from hs) Nv
 | str i =>
  obtain ⟨t,rfl⟩:=rx
  cases y with
  | non=>cases ry;exact PySem.EqNone.eq_str_none (cC I q (by simp))
  | bl j=>cases ry;exact PySem.EqMixed.eq_str_bool (cC I q (by simp))
  | int j=>obtain ⟨t',rfl⟩:=ry;exact PySem.EqMixed.eq_str_int (cC I q (by simp))
  | str j=>obtain ⟨t',rfl⟩:=ry;exact eq_str (cC I q x6)
  | _=>exact absurd (show false=true from hs) Nv
 | byt i =>
  obtain ⟨t,rfl⟩:=rx
  cases y with
  | byt j=>obtain ⟨t',rfl⟩:=ry;exact PySem.W.eq_bytes (cC I q x8)
  | _=>exact absurd (show false=true from hs) Nv
 | _=>cases y<;>exact absurd (show false=true from hs) Nv
theorem op_ne:OpR X (compareOp .NotEq) Dq:=by
 intro pins s σ H x y v u Q I rx ry h
 obtain ⟨hs,q⟩:=h
 cases x with
 | non =>
  cases rx
  cases y with
  | non=>cases ry;exact PySem.EqNone.ne_none_none (cC I q (by simp))
  | bl j=>cases ry;exact PySem.EqNone.ne_none_bool (cC I q (by simp))
  | int j=>obtain ⟨t',rfl⟩:=ry;exact PySem.EqNone.ne_none_int (cC I q (by simp))
  | str j=>obtain ⟨t',rfl⟩:=ry;exact PySem.EqNone.ne_none_str (cC I q (by simp))
  | _=>exact absurd (show false=true from hs) Nv
 | bl i =>
  cases rx
  cases y with
  | non=>cases ry;exact PySem.EqNone.ne_bool_none (cC I q (by simp))
  | bl j=>cases ry;exact ne_bool (cC I q (congrArg not xZ))
  | str j=>obtain ⟨t',rfl⟩:=ry;exact PySem.EqMixed.ne_bool_str (cC I q (by simp))
  | _=>exact absurd (show false=true from hs) Nv
 | int i =>
  obtain ⟨t,rfl⟩:=rx
  cases y with
  | non=>cases ry;exact PySem.EqNone.ne_int_none (cC I q (by simp))
  | int j=>obtain ⟨t',rfl⟩:=ry;exact ne_int (cC I q (congrArg not xY))
  | str j=>obtain ⟨t',rfl⟩:=ry;exact PySem.EqMixed.ne_int_str (cC I q (by simp))
  | _=>exact absurd (show false=true from hs) Nv
 | str i =>
  obtain ⟨t,rfl⟩:=rx
  cases y with
  | non=>cases ry;exact PySem.EqNone.ne_str_none (cC I q (by simp))
  | bl j=>cases ry;exact PySem.EqMixed.ne_str_bool (cC I q (by simp))
  | int j=>obtain ⟨t',rfl⟩:=ry;exact PySem.EqMixed.ne_str_int (cC I q (by simp))
  | str j=>obtain ⟨t',rfl⟩:=ry;exact ne_str (cC I q (congrArg not x6))
  | _=>exact absurd (show false=true from hs) Nv
 | byt i =>
  obtain ⟨t,rfl⟩:=rx
  cases y with
  | byt j=>obtain ⟨t',rfl⟩:=ry;exact PySem.W.ne_bytes (cC I q (congrArg not x8))
  | _=>exact absurd (show false=true from hs) Nv
 | _=>cases y<;>exact absurd (show false=true from hs) Nv
theorem op_lt:OpR X (compareOp .Lt) (jO λi j=>.bl (decide (i<j))):=i7 λ_ _ _ _ _ _ _ q=>lt_int q
theorem op_le:OpR X (compareOp .LtE) (jO λi j=>.bl (decide (i<=j))):=i7 λ_ _ _ _ _ _ _ q=>le_int q
theorem Dr:OpR X (compareOp .Gt) (jO λi j=>.bl (decide (j<i))):=i7 λ_ _ _ _ _ _ _ q=>gt_int q
theorem Ds:OpR X (compareOp .GtE) (jO λi j=>.bl (decide (j<=i))):=i7 λ_ _ _ _ _ _ _ q=>ge_int q
theorem Dt:OpR X (compareOp .Lt) (λx y H Q=>∃ i j,x = .str i/\y = .str j/\Q (.bl (decide (i.cps.toList<j.cps.toList))) H):=by
 intro pins s σ H x y v u Q I rx ry h
 obtain ⟨i,j,rfl,rfl,q⟩:=h
 obtain ⟨t,rfl⟩:=rx
 obtain ⟨t',rfl⟩:=ry
 exact lt_str (cC I q rfl)
theorem zhI:OpR X (compareOp .In) (λx y H Q=>∃ i j,x = .str i/\y = .str j/\Q (.bl (!(Builtin.Str.occurrences j i 0 j.length 1).isEmpty)) H):=by
 intro pins s σ H x y v u Q I rx ry h
 obtain ⟨i,j,rfl,rfl,q⟩:=h
 obtain ⟨t,rfl⟩:=rx
 obtain ⟨t',rfl⟩:=ry
 exact in_str (cC I q rfl)
theorem Du:OpR X (compareOp .Is) (λx y H Q=>y = .non/\Q (.bl (decide (x = .non))) H):=by
 intro pins s σ H x y v u Q I rx ry h
 obtain ⟨rfl,q⟩:=h
 cases ry
 refine is_none_gen (cC I q ?_)
 cases x<;>first
  | (cases rx;rfl)
  | (obtain ⟨t,rfl⟩:=rx;rfl)
theorem OpR.or {f:Value->Value->Sem Value} {r r':R2} (h:OpR X f r) (h':OpR X f r'):OpR X f (λx y H Q=>r x y H Q\/r' x y H Q):=by
 intro pins s σ H x y v u Q I rx ry q
 rcases q with q | q
 ·exact h pins s σ H x y v u Q I rx ry q
 ·exact h' pins s σ H x y v u Q I rx ry q
theorem bh (b:Expr) {op:CmpOp} (h:op ≠ .In:=by decide) (h2:op ≠ .NotIn:=by decide):behindInMarks op b=false:=by
 have e1:(op == CmpOp.In)=false:=by cases op<;>first | rfl | exact absurd rfl h
 have e2:(op == CmpOp.NotIn)=false:=by cases op<;>first | rfl | exact absurd rfl h2
 cases b<;>simp [behindInMarks,e1,e2]
theorem Dv {op:CmpOp} {r:R2} (ho:OpR X (compareOp op) r) (ha:PE X a ta) (hb:PE X b tb) (hm:behindInMarks op b=false):PE X (.Compare a [op] [b] pos) (lS r ta tb):=by
 intro pins s σ H Q I h
 exact wpAny_Compare1 (kq ha hb I h λv u s2 x y H2 I2 rx ry q=>ho pins s2 σ H2 x y v u Q I2 rx ry q) hm
def sL (t:TE):TT:=λσ H Q=>t σ H λx H' => ∃ k,x = .bl k/\Q k H'
theorem Dw {op:CmpOp} {r:R2} (ho:OpR X (compareOp op) r) (ha:PE X a ta) (hb:PE X b tb) (hm:behindInMarks op b=false):PT X (.Compare a [op] [b] pos) (sL (lS r ta tb)):=by
 intro pins s σ H Q I h
 refine wpAny_isTrue_Compare1 (thn (ha pins s σ H _ I h) λv s1 ⟨x,H1,I1,r1,q1⟩=>thn (hb pins s1 σ H1 _ I1 q1) λu s2 ⟨y,H2,I2,r2,q2⟩ =>
  thn (ho pins s2 σ H2 x y v u _ I2 r1 r2 q2) λc s3 ⟨z,H3,I3,r3,k,e,q3⟩=>?_) hm
 subst e
 cases r3
 exact Nt ⟨H3,I3,q3⟩
def sM (r r':R2) (ta tb tc:TE):TE:=λσ H Q=>ta σ H λx H1=>tb σ H1 λy H2=>r x y H2 λz H3=>∃ k,z = .bl k /\
 (if k=true then tc σ H3 λw' H4=>r' y w' H4 Q else Q (.bl false) H3)
theorem Dx {op op':CmpOp} {r r':R2} (ho:OpR X (compareOp op) r) (ho':OpR X (compareOp op') r') (ha:PE X a ta) (hb:PE X b tb) (hc:PE X c tc)
  (hm:lastMarks [op,op'] [b,c]=false:=by with_unfolding_all rfl):PE X (.Compare a [op,op'] [b,c] pos) (sM r r' ta tb tc):=by
 intro pins s σ H Q I h
 refine Compare_chain (thn (ha pins s σ H _ I h) λv s1 ⟨x,H1,I1,r1,q1⟩=>RI (thn (hb pins s1 σ H1 _ I1 q1) λu s2 ⟨y,H2,I2,r2,q2⟩ =>
  thn (ho pins s2 σ H2 x y v u _ I2 r1 r2 q2) λd s3 ⟨z,H3,I3,r3,k,e,q3⟩=>?_)) hm
 subst e
 cases r3
 refine Nt ?_
 cases k with
 | false=>exact ite_ff ⟨.bl false,H3,I3,rfl,q3⟩
 | true=>exact ite_tt (chain_last (thn (hc pins s3 σ H3 _ I3 q3) λw' s4 ⟨z',H4,I4,r4,q4⟩=>ho' pins s4 σ H4 y z' u w' Q I4 r2 r4 q4))
theorem Dy {op op':CmpOp} {r r':R2} (ho:OpR X (compareOp op) r) (ho':OpR X (compareOp op') r') (ha:PE X a ta) (hb:PE X b tb) (hc:PE X c tc)
  (hm:lastMarks [op,op'] [b,c]=false:=by with_unfolding_all rfl):PT X (.Compare a [op,op'] [b,c] pos) (sL (sM r r' ta tb tc)):=by
 intro pins s σ H Q I h
 refine isTrue_chain (thn (ha pins s σ H _ I h) λv s1 ⟨x,H1,I1,r1,q1⟩=>test_link (thn (hb pins s1 σ H1 _ I1 q1) λu s2 ⟨y,H2,I2,r2,q2⟩ =>
  thn (ho pins s2 σ H2 x y v u _ I2 r1 r2 q2) λd s3 ⟨z,H3,I3,r3,k,e,q3⟩=>?_)) hm
 subst e
 cases r3
 refine Nt ?_
 cases k with
 | false =>
  obtain ⟨k',e',q'⟩:=q3
  cases e'
  exact ite_ff ⟨H3,I3,q'⟩
 | true =>
  refine ite_tt (test_last (thn (hc pins s3 σ H3 _ I3 q3) λw' s4 ⟨z',H4,I4,r4,q4⟩=>thn (ho' pins s4 σ H4 y z' u w' _ I4 r2 r4 q4) λd' s5 Zz=>?_));obtain ⟨z2,H5,I5,r5,k2,e2,q5⟩:=Zz
  subst e2
  cases r5
  exact Nt ⟨H5,I5,q5⟩
def i8 (K:PySem.W.Frag) (x:V) (H:Hp) (k:Bool):Prop :=
 match x with
 | .non=>k=false
 | .bl b=>k=b
 | .int i=>k=(i != 0)
 | .str y=>y.length<=sizeLine/\k=((y.length:Int) != 0)
 | .byt y=>y.size<=sizeLine/\k=((y.size:Int) != 0)
 | .ref p=>(∃ xs,SqL K H p xs/\k = !xs.isEmpty)\/(∃ xs,SqT K H p xs/\k = !xs.isEmpty)\/∃ kvs,H p=some (.dK kvs)/\k = !kvs.isEmpty
 | _=>False
theorem DA {κ:Type} {kvs:List (κ×V)} {vs:List (κ×Value)} (r:KV kvs vs):(!vs.isEmpty) = !kvs.isEmpty:=by
 cases r<;>rfl
theorem x9 {xs:List V} {its:List Value} (r:Vals xs its):(!its.toArray.isEmpty) = !xs.isEmpty:=by
 cases r<;>simp
theorem ku:(sizeLine:Nat)<2 ^ 63:=by rw [sizeLine_eq];decide
theorem ya:sI X (λx H Q=>∃ k,i8 X.K x H k/\Q k H):=by
 intro pins s σ H x v Q I rx h
 obtain ⟨k,e,q⟩:=h
 have hl:=ku
 have hs:sizeLine=16777216:=sizeLine_eq
 cases x with
 | non =>
  cases rx
  have e':k=false:=e
  subst e'
  exact truthy_none ⟨H,I,q⟩
 | bl b =>
  cases rx
  have e':k=b:=e
  subst e'
  exact Nt ⟨H,I,q⟩
 | int i =>
  obtain ⟨t,rfl⟩:=rx
  have e':k=(i != 0):=e
  subst e'
  exact PySem.P.truthy_int ⟨H,I,q⟩
 | str y =>
  obtain ⟨t,rfl⟩:=rx
  obtain ⟨hy,e'⟩:y.length<=sizeLine/\k=((y.length:Int) != 0):=e
  subst e'
  exact PySem.P.truthy_str (by lia) ⟨H,I.tok _,q⟩
 | byt y =>
  obtain ⟨t,rfl⟩:=rx
  obtain ⟨hy,e'⟩:y.size<=sizeLine/\k=((y.size:Int) != 0):=e
  subst e'
  exact PySem.W.truthy_bytes (by lia) ⟨H,I.tok _,q⟩
 | ref p =>
  cases rx
  have e':(∃ xs,SqL X.K H p xs/\k = !xs.isEmpty)\/(∃ xs,SqT X.K H p xs/\k = !xs.isEmpty)\/∃ kvs,H p=some (.dK kvs)/\k = !kvs.isEmpty:=e
  rcases e' with ⟨xs,hx,e'⟩ | ⟨xs,hx,e'⟩ | ⟨kvs,hx,e'⟩
  ·subst e'
   obtain ⟨its,r,pl,hz⟩:=I.list hx
   have hlen:=r.length
   exact wpAny_truthy_list pl.isList (by simp only [Nh];lia) ⟨H,I.tok _,by rw [x9 r];exact q⟩
  ·subst e'
   obtain ⟨its,r,pl,hz⟩:=I.tuple hx
   have hlen:=r.length
   exact truthy_tuple pl (by simp only [Nh];lia) ⟨H,I.tok _,by rw [x9 r];exact q⟩
  ·subst e'
   obtain ⟨hz,hS,vs,r,m⟩:kvs.length<=sizeLine/\(p == sysModules)=false/\∃ vs,KV kvs vs/\s.heap.DictOf (fF X.prog X.w) p vs:=I.hok p _ hx
   have hlen:kvs.length=vs.length:=Paired.length r
   exact wpAny_truthy_dict hS m (by lia) ⟨H,I.tok _,by rw [DA r];exact q⟩
 | _=>exact (show False from e).elim
theorem DB (ha:PE X a ta) (he:∀ whole,isTrue a X.env whole=(do let v <- whole;standAt a.pos;holding [v] (truthy v))) :
  PT X a (λσ H Q=>ta σ H λx H' => ∃ k,i8 X.K x H' k/\Q k H'):=by
 intro pins s σ H Q I h
 exact isTrue_plain (thn (ha pins s σ H _ I h) λv s1 ⟨x,H1,I1,r1,q1⟩=>ya pins s1 σ H1 x v Q I1 r1 q1) (he _)
theorem zg7:OpR X (binaryOp .Add) (λx y H Q=>∃ i j,x = .str i/\y = .str j/\i.length+j.length<=sizeLine/\Q (.str (i++j)) H):=by
 intro pins s σ H x y v u Q I rx ry h
 obtain ⟨i,j,rfl,rfl,hz,q⟩:=h
 obtain ⟨t,rfl⟩:=rx
 obtain ⟨t',rfl⟩:=ry
 exact add_str (λt' tk=>⟨.str (i++j),H,I.tok _,⟨_,rfl⟩,q⟩) hz
theorem i9 {x:V} {us:List Value} (r:Vals [x] us):∃ u,us=[u]/\RelV x u:=by
 cases r with
 | cons r1 r2=>cases r2;exact ⟨_,rfl,r1⟩
theorem pC {x y:V} {us:List Value} (r:Vals [x,y] us):∃ u w',us=[u,w']/\RelV x u/\RelV y w' := by
 cases r with
 | cons r1 r2 =>
  cases r2 with
  | cons r3 r4=>cases r4;exact ⟨_,_,rfl,r1,r3⟩
theorem DC:CallR X (.builtin "abs") (λxs H Q=>∃ i,xs=[.int i]/\Q (.int (if i<0 then -i else i)) H):=by
 intro pins s σ H xs us Q I r h
 obtain ⟨i,rfl,q⟩:=h
 obtain ⟨u,rfl,t,rfl⟩:=i9 r
 exact call_abs_int λu tk=>⟨.int (if i<0 then -i else i),H,I.tok _,⟨_,rfl⟩,q⟩
theorem DD (hc:X.calm=true):CallR X (.builtin "max") (λxs H Q=>∃ i j,xs=[.int i,.int j]/\Q (.int (if j > i then j else i)) H):=by
 intro pins s σ H xs us Q I r h
 obtain ⟨i,j,rfl,q⟩:=h
 obtain ⟨u,w',rfl,⟨t,rfl⟩,⟨t',rfl⟩⟩:=pC r
 refine max_two_ints (I.ok.hd hc) λh' tk k=>⟨_,H,I.kept k,?_,q⟩
 by_cases hj:j > i
 ·rw [M8 hj,M8 hj];exact ⟨_,rfl⟩
 ·rw [M9 hj,M9 hj];exact ⟨_,rfl⟩
theorem DE (hc:X.calm=true):CallR X (.builtin "min") (λxs H Q=>∃ i j,xs=[.int i,.int j]/\Q (.int (if j<i then j else i)) H):=by
 intro pins s σ H xs us Q I r h
 obtain ⟨i,j,rfl,q⟩:=h
 obtain ⟨u,w',rfl,⟨t,rfl⟩,⟨t',rfl⟩⟩:=pC r
 refine min_two_ints (I.ok.hd hc) λh' tk k=>⟨_,H,I.kept k,?_,q⟩
 by_cases hj:j<i
 ·rw [M8 hj,M8 hj];exact ⟨_,rfl⟩
 ·rw [M9 hj,M9 hj];exact ⟨_,rfl⟩
theorem DF:CallR X (.type "int") (λxs H Q=>(∃ i,xs=[.int i]/\Q (.int i) H)\/∃ k,xs=[.bl k]/\Q (.int (if k then 1 else 0)) H):=by
 intro pins s σ H xs us Q I r h
 rcases h with ⟨i,rfl,q⟩ | ⟨k,rfl,q⟩
 ·obtain ⟨u,rfl,t,rfl⟩:=i9 r
  exact call_int_int ⟨.int i,H,I,⟨_,rfl⟩,q⟩
 ·obtain ⟨u,rfl,r1⟩:=i9 r
  cases r1
  exact call_int_bool ⟨.int (if k then 1 else 0),H,I.tok _,⟨_,rfl⟩,q⟩
end
structure ObjM (h:Heap) (x dx C:Addr) (mA:Str->Option Value):Prop where
 obj:h.get? x=some (PySem.W.instObj C dx)
 ns:h.Ns1 dx mA
 ne:dx≠x
theorem DH {h:Heap} {dx:Addr} {mA:Str->Option Value} (n:h.Ns1 dx mA):∃ od,h.get? dx=some od/\∀ name,PySem.W.lookIn name od=some (mA name):=by
 obtain ⟨o,es,ep,ho,hd,hk,_,hm⟩:=n
 refine ⟨o,ho,λname=>?_⟩
 have e:=hm name
 unfold nsFind findBy at e
 rw [<- Array.find?_toList] at e;unfold PySem.W.lookIn
 rw [hd];dsimp only;split
 ·rename_i y q
  rw [q] at e;exact congrArg some e
 ·rename_i q
  rw [q] at e;have a:es.toList.any (·.refKey)=false:=by
   rw [List.any_eq_false];intro y hy
   obtain ⟨z,t,hkey⟩:=hk y (Array.mem_toList_iff.mp hy)
   simp [DictEntry.refKey,hkey]
  have a' : ¬ es.toList.any (·.refKey)=true:=by rw [a];exact Nv
  rw [M9 a'];exact congrArg some e
theorem ObjM.look {h:Heap} {x dx C:Addr} {mA:Str->Option Value} (I:ObjM h x dx C mA):∃ od,PySem.W.InstAt h x (PySem.W.instObj C dx) C (some od)/\∀ name,PySem.W.lookIn name od=some (mA name) :=
 let ⟨od,ho,hl⟩:=DH I.ns
 ⟨od,⟨I.obj,rfl,rfl,ho⟩,hl⟩
section
variable {prog:Program} {w:World} {A:Around} {E:Value->Shared->Prop} {s:Shared} {K:PySem.W.Frag} {x dx C f:Addr} {mA:Str->Option Value} {name:Str} {v:Value}
theorem DJ {expr:Bool} {Q:Value->Shared->Prop} (X:K.In s.heap) (I:ObjM s.heap x dx C mA) (hg:PySem.W.plainGet K C name=true) (hh:PySem.W.hasDictIn K C=true)
  (ha:PySem.W.findIn K (.ref C) name=some none) (hv:mA name=some v) (hv':PySem.W.handedIn v=true) (h:Q v { s with toks:=s.toks+1 }) :
  wpAny (model prog w) A (getAttr (.ref x) name expr) Q E s:=by
 obtain ⟨od,J,hl⟩:=I.look
 exact PySem.W.get_value X J (PM hg).1 (PySem.W.findObj_own hh ha rfl (by rw [hl,hv])) hv' h
theorem DL {pl:Sem Bool} {Q:Value×List Value->Shared->Prop} (X:K.In s.heap) (I:ObjM s.heap x dx C mA) (hg:PySem.W.plainGet K C name=true)
  (hf:PySem.W.findIn K (.ref C) name=some (some (.ref f))) (ht:PySem.W.isFn K (.ref f)=true) (hv:mA name=none) (h:Q (.ref f,[.ref x]) s) :
  wpAny (model prog w) A (getMethod (.ref x) name pl) Q E s:=by
 obtain ⟨od,J,hl⟩:=I.look
 exact PySem.W.method_fn X J (PM hg).1 (PM hg).2 hf (beq_iff_eq.mp ht) (by show (PySem.W.lookIn name od).map (·.isSome)=some false;rw [hl,hv];rfl) h
theorem DM {ns:List Str} {Q:Unit->Shared->Prop} (X:K.In s.heap) (I:ObjM s.heap x dx C mA)
  (hs:PySem.W.findIn K (.ref C) "__setattr__" = some (some (.builtin "object.__setattr__"))) (hp:PySem.W.plainOver K C=true) (ht:PySem.W.takerIn K C name=some none) (hh:PySem.W.hasDictIn K C=true)
  (hw:PySem.Within mA ns) (hsz:ns.length<=sizeLine)
  (h:∀ h',ObjM h' x dx C (λy=>if y=name then some v else mA y)->Heap.SameBut dx s.heap h'->Q () { s with heap:=h',toks:=s.toks+2 }) :
  wpAny (model prog w) A (setAttr (.ref x) name v) Q E s:=by
 obtain ⟨od,J,hl⟩:=I.look
 refine PySem.W.set_plain X J hs (PySem.W.osa_open (s:={ s with toks:=s.toks+1 }) (r:=none) X J hp ht λb=>?_)
 obtain ⟨cd,hc,hd'⟩:=PySem.W.any_some hh
 have hx:s.heap.get? x=some ⟨.ref C,some dx,.plain,#[]⟩:=I.obj
 refine M4 (Nd (M4 (M4 (wpAny_loadPart hx (M4 (PySem.W.Looks.here (s:={ s with toks:=s.toks+1 }) (PySem.W.looks_clsIn X hc) ?_))))))
 rw [hd'];refine Nd (a:=some dx) (M4 (Nd (M4 ?_)))
 refine wpAny_nsSet1 (s:={ s with toks:=s.toks+1 }) I.ns λh' hn2 hs2=>?_
 obtain ⟨oD,esD,epD,hoD,hdD,hcD⟩:=hn2.count (PySem.Within.cons name v hw)
 refine M4 (wpAny_lookBehind hoD (by rw [hdD];exact pastItsLine_dict (M6 hcD (by rw [NZ];lia))) ?_)
 exact Nd (h _ ⟨(hs2.2 _ (Ne.symm I.ne)).trans I.obj,hn2,I.ne⟩ hs2)
theorem DO {R:Result->Shared->Prop} {vs:List Value} {kw:List (Str×Value)} (X:K.In s.heap) (hm:PySem.W.makesIn K C=true)
  (hi:PySem.W.findIn K (.ref C) "__init__" = some (some (.ref f))) (hf:PySem.W.typeIn K (.ref f)=some (.type "function"))
  (h:codeAny (model prog w) (A.under (.builtin "type.__call__" ⟨.ref C::vs,kw⟩)) (.call (.ref f) ⟨.ref (s.heap.objs.size+1)::vs,kw⟩) (PySem.W.InitBack (s.heap.objs.size+1) R)
   { s with heap:=(s.heap.push PySem.W.emptyDict).push (PySem.W.instObj C s.heap.objs.size) }) :
  codeAny (model prog w) A (.call (.ref C) ⟨vs,kw⟩) R s:=by
 obtain ⟨hh,g,d,t,os⟩:=s
 exact PySem.W.make_core (PySem.W.makes_of X hm) (PySem.W.looks_findIn X hi) (λself=>PySem.W.bind_fn X self hf) (.inl rfl) h
end
def bR (f:Str) (v:V):List (Str×V)->List (Str×V)
 | []=>[(f,v)]
 | (g,x)::r=>if g=f then (g,v)::r else (g,x)::bR f v r
theorem pD (f g:Str) (v:V):∀ fs:List (Str×V),(bR f v fs).lookup g=if g=f then some v else fs.lookup g
 | []=>by
  show List.lookup g [(f,v)]=_
  by_cases h:g=f
  ·have hb:(g == f)=true:=beq_iff_eq.mpr h
   simp only [List.lookup,hb,M8 h]
  ·have hb:(g == f)=false:=beq_eq_false_iff_ne.mpr h
   simp only [List.lookup,hb,M9 h]
 | (k,x)::r=>by
  have ih:=pD f g v r
  rw [show bR f v ((k,x)::r)=(if k=f then (k,v)::r else (k,x)::bR f v r) from rfl];by_cases hk:k=f
  ·rw [M8 hk]
   by_cases h:g=k
   ·have hb:(g == k)=true:=beq_iff_eq.mpr h
    simp only [List.lookup,hb,M8 (h.trans hk)]
   ·have hb:(g == k)=false:=beq_eq_false_iff_ne.mpr h
    simp only [List.lookup,hb,M9 (λe:g=f=>h (e.trans hk.symm))]
  ·rw [M9 hk]
   by_cases h:g=k
   ·have hb:(g == k)=true:=beq_iff_eq.mpr h
    simp only [List.lookup,hb,M9 (λe:g=f=>hk (h.symm.trans e))]
   ·have hb:(g == k)=false:=beq_eq_false_iff_ne.mpr h
    simp only [List.lookup,hb]
    exact ih
theorem sN (f:Str) (v:V):∀ fs:List (Str×V),f∈(bR f v fs).map (·.1)/\∀ g,g∈fs.map (·.1)->g∈(bR f v fs).map (·.1)
 | []=>⟨by simp [bR],λg h=>by simp at h⟩
 | (k,x)::r=>by
  obtain ⟨i1,i2⟩:=sN f v r
  rw [show bR f v ((k,x)::r)=(if k=f then (k,v)::r else (k,x)::bR f v r) from rfl];by_cases hk:k=f
  ·rw [M8 hk]
   subst hk;exact ⟨by simp,λg h=>by simpa using h⟩
  ·rw [M9 hk]
   refine ⟨?_,λg h=>?_⟩
   ·rw [NG]
    exact NI _ i1
   ·rw [NG] at h ⊢
    rcases Np.mp h with e | e
    ·exact Np.mpr (.inl e)
    ·exact NI _ (i2 g e)
theorem yb (f:Str) (v:V):∀ fs:List (Str×V),(bR f v fs).length<=fs.length+1
 | []=>by simp [bR]
 | (k,x)::r=>by
  have ih:=yb f v r
  rw [show bR f v ((k,x)::r)=(if k=f then (k,v)::r else (k,x)::bR f v r) from rfl];by_cases hk:k=f
  ·rw [M8 hk,NZ,NZ];lia
  ·rw [M9 hk,NZ,NZ];lia
theorem RelO.some_of {v:V} {o:Option Value} (r:RelO (some v) o):∃ u,o=some u/\RelV v u:=by
 cases o with
 | none=>exact (show False from r).elim
 | some u=>exact ⟨u,rfl,r⟩
theorem RelO.none_of {o:Option Value} (r:RelO none o):o=none:=by
 cases o with
 | none=>rfl
 | some u=>exact (show False from r).elim
theorem DP {v:V} {u:Value} (r:RelV v u):PySem.W.handedIn u=true:=by
 cases v with
 | non=>cases (show u=Value.none from r);rfl
 | bl b=>cases (show u=Value.bool b from r);rfl
 | int i=>obtain ⟨t,e⟩:=(show ∃ t,u=Value.int i t from r);cases e;rfl
 | str x=>obtain ⟨t,e⟩:=(show ∃ t,u=Value.str x t from r);cases e;rfl
 | byt b=>obtain ⟨t,e⟩:=(show ∃ t,u=Value.bytes b t from r);cases e;rfl
 | flt b=>obtain ⟨t,e⟩:=(show ∃ t,u=Value.float b t from r);cases e;rfl
 | ref a=>cases (show u=Value.ref a from r);rfl
 | ty n=>cases (show u=Value.type n from r);rfl
section
variable {P:Program} {w:World} {H H':Hp} {h h':Heap} {a C dx:Addr} {fs fs':List (Str×V)}
theorem pE (hok:HOk P w H h) (e:H a=some (.ins C dx fs)):∃ mA,ObjM h a dx C mA/\(∀ f,RelO (fs.lookup f) (mA f))/\PySem.Within mA (fs.map (·.1))/\fs.length<=1000/\H dx=some (.own a):=by
 obtain ⟨d,z,ne,ob,mA,n,r,q⟩:=(show ObjOk P w H h a (.ins C dx fs) from hok a _ e)
 exact ⟨mA,⟨ob,n,ne⟩,r,q,z,d⟩
end
structure Cls (K:PySem.W.Frag) (C:Addr):Prop where
 pg:PySem.W.plainGet K C Str.empty=true
 hd:PySem.W.hasDictIn K C=true
 po:PySem.W.plainOver K C=true
 sa:PySem.W.findIn K (.ref C) "__setattr__" = some (some (.builtin "object.__setattr__"))
theorem Cls.get {K:PySem.W.Frag} {C:Addr} (c:Cls K C) (f:Str):PySem.W.plainGet K C f=true:=c.pg
def NoAttr (K:PySem.W.Frag) (C:Addr) (f:Str):Prop:=PySem.W.findIn K (.ref C) f=some none
theorem NoAttr.taker {K:PySem.W.Frag} {C:Addr} {f:Str} (n:NoAttr K C f):PySem.W.takerIn K C f=some none:=by
 unfold PySem.W.takerIn
 rw [show PySem.W.findIn K (.ref C) f=some none from n];rfl
structure ik (K:PySem.W.Frag) (C:Addr) (m:Str) (f:Addr):Prop where
 at_:PySem.W.findIn K (.ref C) m=some (some (.ref f))
 fn:PySem.W.isFn K (.ref f)=true
 kp:PySem.W.keepIn K (.ref f)=true
section
variable {X:Cx} {pins:List (Addr×Obj)} {σ:St} {H:Hp} {s:Shared} {a C dx:Addr} {fs:List (Str×V)} {f:Str} {v:V} {A:Around} {E:Value->Shared->Prop}
theorem DQ {b:Bool} {Q:Value->Shared->Prop} (I:Inv X pins σ H s) (e:H a=some (.ins C dx fs)) (c:Cls X.K C) (n:NoAttr X.K C f) (l:fs.lookup f=some v)
  (h:∀ u s',Inv X pins σ H s'->RelV v u->Q u s'):wpAny (model X.prog X.w) A (getAttr (.ref a) f b) Q E s:=by
 obtain ⟨mA,O,r,_,_,_⟩:=pE I.hok e
 obtain ⟨u,hu,ru⟩:=RelO.some_of (v:=v) (o:=mA f) (by rw [<- l];exact r f)
 exact DJ I.kIn O (c.get f) c.hd n hu (DP ru) (h u _ (I.tok _) ru)
theorem yc {m:Str} {g:Addr} {pl:Sem Bool} {Q:Value×List Value->Shared->Prop} (I:Inv X pins σ H s) (e:H a=some (.ins C dx fs)) (c:Cls X.K C) (k:ik X.K C m g) (l:fs.lookup m=none)
  (h:Q (.ref g,[.ref a]) s):wpAny (model X.prog X.w) A (getMethod (.ref a) m pl) Q E s:=by
 obtain ⟨mA,O,r,_,_,_⟩:=pE I.hok e
 have hn:mA m=none:=RelO.none_of (by rw [<- l];exact r m)
 exact DL I.kIn O (c.get m) k.at_ k.fn hn h
theorem DR {y:V} {u:Value} {Q:Unit->Shared->Prop} (I:Inv X pins σ H s) (e:H a=some (.ins C dx fs)) (c:Cls X.K C) (n:NoAttr X.K C f) (hl:fs.length<1000) (ry:RelV y u)
  (h:∀ s',Inv X pins σ (upd H a (.ins C dx (bR f y fs))) s'->Q () s'):wpAny (model X.prog X.w) A (setAttr (.ref a) f u) Q E s:=by
 obtain ⟨mA,O,r,wi,_,ho⟩:=pE I.hok e
 have hz:(fs.map (·.1)).length<=sizeLine:=by rw [Nc,sizeLine_eq];lia
 refine DM I.kIn O c.sa c.po n.taker c.hd wi hz λh' O' sb=>h _ ?_
 have hd:∃ o,h'.get? dx=some o:=let ⟨o,_,_,e',_⟩:=O'.ns;⟨o,e'⟩
 refine I.write (x:=a) (e:=dx) (by rw [e];exact True.intro) (.inr ho) (λb q hb z=>(sb.2 b hb).trans z) hd ?_
 refine ⟨by rw [bG O.ne];exact ho,?_,O.ne,O'.obj,_,O'.ns,λg=>?_,λg hg=>?_⟩
 ·have:=yb f y fs;lia
 ·show RelO ((bR f y fs).lookup g) (if g=f then some u else mA g)
  rw [pD];by_cases q:g=f
  ·rw [M8 q,M8 q];exact ry
  ·rw [M9 q,M9 q];exact r g
 ·by_cases q:g=f
  ·rw [q];exact (sN f y fs).1
  ·refine (sN f y fs).2 g (wi g λz=>hg ?_)
   show (if g=f then some u else mA g)=none
   rw [M9 q];exact z
theorem Inv.made (I:Inv X pins σ H s):Inv X pins σ (upd (upd H s.heap.objs.size (.own (s.heap.objs.size+1))) (s.heap.objs.size+1) (.ins C s.heap.objs.size []))
  { s with heap:=(s.heap.push PySem.W.emptyDict).push (PySem.W.instObj C s.heap.objs.size) }:=by
 have e1:(s.heap.push PySem.W.emptyDict).get? s.heap.objs.size=some PySem.W.emptyDict:=Nn s.heap rfl
 have e2:((s.heap.push PySem.W.emptyDict).push (PySem.W.instObj C s.heap.objs.size)).get? (s.heap.objs.size+1)=some (PySem.W.instObj C s.heap.objs.size):=by
  have:=Nn (s.heap.push PySem.W.emptyDict) (o:=PySem.W.instObj C s.heap.objs.size) rfl
  rwa [QT] at this
 have e3:(s.heap.push PySem.W.emptyDict).Ns s.heap.objs.size (λ_=>none):=⟨PySem.W.emptyDict,#[],_,e1,rfl,(λe he=>absurd he (by simp)),λ_=>rfl⟩
 have I1:=I.laid (a:=s.heap.objs.size) (o:=.own (s.heap.objs.size+1)) (h' := s.heap.push PySem.W.emptyDict) (t' := s.toks) (λb u q=>M7 _ q) (MZ _) ⟨_,e1⟩
 refine I1.laid (a:=s.heap.objs.size+1) (o:=.ins C s.heap.objs.size []) (t' := s.toks) (λb u q=>M7 _ q) (Qt (QT _ _)) ?_
 have ne:s.heap.objs.size≠s.heap.objs.size+1:=NH (PC _)
 refine ⟨by rw [bG ne,dM],NB _,ne,e2,λ_=>none,(Heap.Ns1.of_empty e3).at λo q=>M7 _ q,λ_=>True.intro,λy hy=>absurd rfl hy⟩
theorem DS {prog:Program} {w:World} {env:Env} {e:Expr} {f:Str} {pos:Pos} {s:Shared} {Q:Value->Shared->Prop} (hb:attributeBase e f env (eval e env)=eval e env)
  (h:wpAny (model prog w) A (eval e env) (λo s₁=>wpAny (model prog w) A (getAttr o f true) Q E s₁) E s):wpAny (model prog w) A (eval (.Attribute e f pos) env) Q E s :=
 Attribute_any_ h (by rw [arm_eval_Attribute,hb])
end
def sO (K:PySem.W.Frag) (ta:TE) (f:Str):TE:=λσ H Q=>ta σ H λx H1=>∃ a C dx fs v,x = .ref a/\H1 a=some (.ins C dx fs)/\Cls K C/\NoAttr K C f/\fs.lookup f=some v/\Q v H1
def sFld (K:PySem.W.Frag) (ta tv:TE) (f:Str):TS:=λD σ H=>tv σ H λy H1=>ta σ H1 λx H2=>∃ a C dx fs,x = .ref a/\H2 a=some (.ins C dx fs)/\Cls K C/\NoAttr K C f/\fs.length<1000 /\
 D.nx σ (upd H2 a (.ins C dx (bR f y fs)))
section
variable {X:Cx} {o e value:Expr} {f:Str} {pos pos' tpos:Pos} {ta tv:TE}
theorem DT (he:PE X e ta) (hb:attributeBase e f X.env (eval e X.env)=eval e X.env):PE X (.Attribute e f pos) (sO X.K ta f):=by
 intro pins s σ H Q I h
 refine DS hb (thn (he pins s σ H _ I h) λu s1 Zz=>?_);obtain ⟨x,H1,I1,rx,a,C,dx,fs,v,ex,ea,c,n,l,q⟩:=Zz
 subst ex;obtain rfl:u=Value.ref a:=rx
 exact DQ I1 ea c n l λu' s2 I2 ru=>⟨v,H1,I2,ru,q⟩
theorem DV (ha:PE X o ta) (hv:PE X value tv) (hs:swapsWith value (some (.Attribute o f pos')) pos.line X.env=pure false):PS X (.Assign [.Attribute o f pos'] value pos) (sFld X.K ta tv f):=by
 intro pins s σ H D I h
 refine plainObj_wpAny_Assign_Attribute (thn (hv pins s σ H _ I h) λu s1 ⟨y,H1,I1,ry,q⟩=>thn (ha pins s1 σ H1 _ I1 q) λov s2 Zz=>?_) hs;obtain ⟨x,H2,I2,rx,a,C,dx,fs,ex,ea,c,n,l,q2⟩:=Zz
 subst ex;obtain rfl:ov=Value.ref a:=rx
 exact DR I2 ea c n l ry λs3 I3=>⟨σ,_,I3,q2⟩
end
section
variable {X:Cx} {pins:List (Addr×Obj)} {σ:St} {H:Hp} {s:Shared} {A:Around} {E:Value->Shared->Prop} {Q:Value->Shared->Prop} {c:Value} {b:Bool}
inductive cQ (K:PySem.W.Frag) (H:Hp):V->Value->Prop where
 | non:cQ K H .non (.type "NoneType")
 | bl (x:Bool):cQ K H (.bl x) (.type "bool")
 | int (i:Int):cQ K H (.int i) (.type "int")
 | str (x:Str):cQ K H (.str x) (.type "str")
 | flt (x:UInt64):cQ K H (.flt x) (.type "float")
 | lst {a:Addr} {xs:List V} (e:H a=some (.lst xs)):cQ K H (.ref a) (.type "list")
 | frz {a:Addr} {o:Obj} {xs:List V} (e:H a=some (.frz o (.lst xs))):cQ K H (.ref a) (.type "list")
 | tup {a:Addr} {xs:List V} (e:H a=some (.tup xs)):cQ K H (.ref a) (.type "tuple")
 | dK {a:Addr} {kvs:List (aU×V)} (e:H a=some (.dK kvs)):cQ K H (.ref a) (.type "dict")
 | dT {a:Addr} {xc:Option (List Addr)} {kvs:List (List aU×V)} (e:H a=some (.dT xc kvs)):cQ K H (.ref a) (.type "dict")
 | ins {a C dx:Addr} {fs:List (Str×V)} (e:H a=some (.ins C dx fs)) (cl:Cls K C) (ha:PySem.W.findIn K (.ref C) "__class__" = some (some (.builtin "object.__class__")))
   (hn:PySem.W.specialIn K (.builtin "object.__class__") "__get__" = some (some (.builtin "getset_descriptor.__get__"))) (htk:PySem.W.takesIn K (.builtin "object.__class__")=some true)
   (hm:PySem.W.mroIn K C (.type "object")=some true):cQ K H (.ref a) (.ref C)
theorem DW {x:V} {u t:Value} (I:Inv X pins σ H s) (rx:RelV x u) (ty:cQ X.K H x t) (e:PySem.W.kitOne X.K t c=some b) (h:∀ tk,Q (.bool b) { s with toks:=tk }) :
  wpAny (model X.prog X.w) A (call (.builtin "isinstance") [u,c]) Q E s:=by
 cases ty with
 | non=>cases (show u=Value.none from rx);exact N7 PySem.W.kitx_none I.kIn True.intro e (λz=>nomatch z) h
 | bl y=>cases (show u=Value.bool y from rx);exact N7 PySem.W.kitx_bool I.kIn True.intro e (λz=>nomatch z) h
 | int i=>obtain ⟨t,q⟩:=(show ∃ t,u=Value.int i t from rx);cases q;exact N7 PySem.W.kitx_int I.kIn True.intro e (λz=>nomatch z) h
 | str y=>obtain ⟨t,q⟩:=(show ∃ t,u=Value.str y t from rx);cases q;exact N7 PySem.W.kitx_str I.kIn True.intro e (λz=>nomatch z) h
 | flt y=>obtain ⟨t,q⟩:=(show ∃ t,u=Value.float y t from rx);cases q;exact N7 PySem.W.kitx_float I.kIn True.intro e (λz=>nomatch z) h
 | @lst a xs ea =>
  cases (show u=Value.ref a from rx)
  obtain ⟨_,_,n,_,h1⟩:=(show ObjOk X.prog X.w H s.heap a (.lst xs) from I.hok a _ ea)
  exact N7 P4 I.kIn ⟨_,h1,rfl⟩ e (λz=>nomatch z) h
 | @frz a ob xs ea =>
  cases (show u=Value.ref a from rx)
  obtain ⟨_,_,_,n,_,h1⟩:=(show ObjOk X.prog X.w H s.heap a (.frz ob (.lst xs)) from I.hok a _ ea)
  exact N7 P4 I.kIn ⟨_,h1,rfl⟩ e (λz=>nomatch z) h
 | @tup a xs ea =>
  cases (show u=Value.ref a from rx)
  obtain ⟨_,_,_,p⟩:=(show ObjOk X.prog X.w H s.heap a (.tup xs) from I.hok a _ ea)
  obtain ⟨o,h1,h2,_⟩:=p
  exact N7 PySem.W.kitx_tuple I.kIn ⟨o,h1,h2⟩ e (λz=>nomatch z) h
 | @dK a kvs ea =>
  cases (show u=Value.ref a from rx)
  obtain ⟨_,_,vs,_,p⟩:=(show ObjOk X.prog X.w H s.heap a (.dK kvs) from I.hok a _ ea)
  obtain ⟨o,es,ep,h1,h2,_⟩:=p
  exact N7 Rt I.kIn ⟨o,h1,h2.1⟩ e (λz=>nomatch z) h
 | @dT a xc kvs ea =>
  cases (show u=Value.ref a from rx)
  obtain ⟨_,_,xs,_,o,es,ep,h1,h2,_⟩:=(show ObjOk X.prog X.w H s.heap a (.dT xc kvs) from I.hok a _ ea)
  exact N7 Rt I.kIn ⟨o,h1,h2.1⟩ e (λz=>nomatch z) h
 | @ins a C dx fs ea cl ha hn htk hm =>
  cases (show u=Value.ref a from rx)
  obtain ⟨mA,O,_⟩:=pE I.hok ea
  obtain ⟨od,J,_⟩:=O.look
  exact N7 (PySem.W.kitx_own (cl.get _) cl.hd ha hn htk hm) I.kIn J e (λz=>nomatch z) h
end
structure Room (k:Nat) (A:Around):Prop where
 hd:A.handled=none
 dp:A.depth+3*k+5<recursionLimit
 un:A.units+16*k+200<cLine
theorem Room.mono {j k:Nat} {A:Around} (r:Room k A) (h:j<=k):Room j A:=⟨r.hd,by have:=r.dp;lia,by have:=r.un;lia⟩
theorem Room.deeper {k:Nat} {A:Around} (r:Room (k+1) A) (env:Env):Room k (A.deeper env) :=
 ⟨r.hd,by have:=r.dp;show A.depth+1+3*k+5<_;lia,by have:=r.un;show A.units+3+16*k+200<_;lia⟩
theorem DX {A:Around} {C:Addr} {us:List Value} {kw:List (Str×Value)}:(A.under (.builtin "type.__call__" ⟨.ref C::us,kw⟩)).depth=A.depth+1:=by
 first | rfl | simp [Around.under,Code.weight,Code.isCreation,Code.isGuard,Code.isCaller,Code.frames,Code.isFrame,guardIds]
theorem DY {A:Around} {C:Addr} {us:List Value} {kw:List (Str×Value)}:(A.under (.builtin "type.__call__" ⟨.ref C::us,kw⟩)).units=A.units+1:=by
 first | rfl | simp [Around.under,Code.cUnits,Code.frames,Code.isFrame]
theorem Room.make {k:Nat} {A:Around} (r:Room (k+1) A) (C:Addr) (us:List Value) (kw:List (Str×Value)):Room k (A.under (.builtin "type.__call__" ⟨.ref C::us,kw⟩)) :=
 ⟨r.hd,by have:=r.dp;rw [DX];lia,by have:=r.un;rw [DY];lia⟩
theorem Room.depth {k:Nat} {A:Around} (r:Room k A):A.depth<recursionLimit:=by have:=r.dp;lia
def sP:TA:=λ_ H Q=>Q [] H
def DZ (ta:TE) (tr:TA):TA:=λσ H Q=>ta σ H λx H1=>tr σ H1 λxs H2=>Q (x::xs) H2
section
variable {X:Cx} {e:Expr} {es:List Expr} {te:TE} {t:TA} {pos:Pos}
theorem pF:PA X [] sP:=λ_ _ _ _ H Q I h=>Pq ⟨[],H,I,.nil,h⟩
theorem lT (ha:PE X e te) (hr:PA X es t) (hs:starEach (e::es) X.env=(false,eval e X.env)::starEach es X.env:=by rfl):PA X (e::es) (DZ te t):=by
 intro pos pins s σ H Q I h
 rw [hs];show wpAny _ _ (spliced ((false,eval e X.env)::backTo pos (starEach es X.env))) _ _ s
 refine OV (thn (ha pins s σ H _ I h) λu s1 Zz=>?_);obtain ⟨x,H1,I1,r1,q1⟩:=Zz
 exact thn (hr pos pins s1 σ H1 _ I1 q1) λus s2 ⟨xs,H2,I2,r2,q2⟩=>⟨x::xs,H2,I2,.cons r1 r2,q2⟩
def sQ (t:TA):TE:=λσ H Q=>t σ H λxs H1=>xs.length<=sizeLine/\∀ p,H1 p=none->Q (.ref p) (upd H1 p (.tup xs))
def sR (t:TA):TE:=λσ H Q=>t σ H λxs H1=>xs.length<=sizeLine/\∀ p,H1 p=none->Q (.ref p) (upd H1 p (.lst xs))
theorem D5 {x1} (h:PA X es t):PE X (.Tuple es x1 pos) (sQ t):=by
 intro pins s σ H Q I hq
 refine wpAny_Tuple_spliced (thn (h pos pins s σ H _ I hq) λus s1 ⟨xs,H1,I1,r,z,q⟩=>⟨by rw [<- r.length];exact z,?_⟩)
 have hf:H1 s1.heap.objs.size=none:=I1.hok.fresh (MZ _)
 refine ⟨.ref s1.heap.objs.size,upd H1 s1.heap.objs.size (.tup xs),I1.laid (t' := s1.toks) (λb u e=>M7 _ e) (MZ _) ?_,rfl,q _ hf⟩
 exact ⟨z,us,r,⟨_,Nn _ rfl,rfl,_,rfl⟩⟩
theorem sS (h:PA X es t):PE X (.List es pos) (sR t):=by
 intro pins s σ H Q I hq
 refine wpAny_List_spliced (thn (h pos pins s σ H _ I hq) λus s1 ⟨xs,H1,I1,r,z,q⟩=>⟨by rw [<- r.length];exact z,?_⟩)
 have hf:H1 s1.heap.objs.size=none:=I1.hok.fresh (MZ _)
 refine ⟨.ref s1.heap.objs.size,upd H1 s1.heap.objs.size (.lst xs),I1.laid (t' := s1.toks) (λb u e=>M7 _ e) (MZ _) ?_,rfl,q _ hf⟩
 exact ⟨z,us,0,r,Nn _ rfl⟩
end
abbrev Sp:=List V->Hp->VK->XK->Prop
abbrev fP:=List Env->Hp->Shared->XK->Value->Shared->Prop
structure Env0 (P:Program) (w:World) (K:PySem.W.Frag) (mg:Str->Option Value) (base:Heap) (A:Around) (outer:List Env) (s:Shared) (H:Hp):Prop where
 frames:A.frames=some outer
 mod:Mod K mg base
 bs:∀ b o,base.get? b=some o->s.heap.get? b=some o/\H b=none
 bsz:base.objs.size<=s.heap.objs.size
 funs:s.heap.FunFrames base outer
 frf:∀ b∈dR outer,H b=none
 hok:HOk P w H s.heap
 bare:AllBare s.gens
def CE (outer:List Env) (P:Program) (w:World) (H:Hp) (s:Shared) (Q:VK) (u:Value) (s':Shared):Prop :=
 ∃ v H',s'.os=s.os/\AllBare s'.gens/\Un (dR outer) [] H H' s.heap s'.heap/\HOk P w H' s'.heap/\RelV v u/\Q v H'
def CR (CX:fP) (outer:List Env) (P:Program) (w:World) (H:Hp) (s:Shared) (Q:VK) (E:XK) (r:Result) (s':Shared):Prop :=
 match r with
 | .ok (.ret u)=>CE outer P w H s Q u s'
 | .ok _=>False
 | .error e=>CX outer H s E e s'
structure FnOk (P:Program) (w:World) (K:PySem.W.Frag) (mg:Str->Option Value) (base:Heap) (CX:fP) (k:Nat) (f:Addr) (fd:FuncData) (ps:List Str) (sp:Sp):Prop where
 len:∀ vs H Q E,sp vs H Q E->vs.length=ps.length
 run:∀ (A:Around) (outer:List Env) (s:Shared) (H:Hp) (args:Args) (us:List Value) (vs:List V) (Q:VK) (E:XK),Room k A->Env0 P w K mg base A outer s H->BindsTo s fd args (ps.zip us)->Vals vs us->sp vs H Q E ->
  codeAny (model P w) A (.call (.ref f) args) (CR CX outer P w H s Q E) s
theorem FnOk.imp {P:Program} {w:World} {K:PySem.W.Frag} {mg:Str->Option Value} {base:Heap} {CX:fP} {k:Nat} {f:Addr} {fd:FuncData} {ps:List Str} {sp sp':Sp} (F:FnOk P w K mg base CX k f fd ps sp)
  (h:∀ vs H Q E,sp' vs H Q E->sp vs H Q E):FnOk P w K mg base CX k f fd ps sp' :=
 ⟨λvs H Q E q=>F.len vs H Q E (h _ _ _ _ q),λA outer s H args us vs Q E hr he hb hv hs=>F.run A outer s H args us vs Q E hr he hb hv (h _ _ _ _ hs)⟩
theorem Env0.make {P:Program} {w:World} {K:PySem.W.Frag} {mg:Str->Option Value} {base:Heap} {A:Around} {outer:List Env} {s:Shared} {H:Hp} (e:Env0 P w K mg base A outer s H) (C:Addr) (us:List Value) (kw:List (Str×Value)) :
  Env0 P w K mg base (A.under (.builtin "type.__call__" ⟨.ref C::us,kw⟩)) outer s H:=⟨by first | exact e.frames | (simpa [Around.under,Code.envs,Code.isFrame,pushEnvs] using e.frames),e.mod,e.bs,e.bsz,e.funs,e.frf,e.hok,e.bare⟩
section
variable {X:Cx} {pins:List (Addr×Obj)} {σ:St} {H:Hp} {s s':Shared}
theorem Inv.env0 (I:Inv X pins σ H s):Env0 X.prog X.w X.K X.mg X.base X.A X.stack s H :=
 ⟨I.ok.frames,I.ok.mod,I.bs,M6 I.ok.bsz I.sz,I.stack,I.stkFree,I.hok,I.bare⟩
theorem Inv.after {Q:VK} {u:Value} (I:Inv X pins σ H s) (h:CE X.stack X.prog X.w H s Q u s'):EP X pins σ Q u s' := by
 obtain ⟨v,H',os,bare,un,hok,r,q⟩:=h
 obtain ⟨hh,g,d,t,os'⟩:=s'
 obtain rfl:os'=s.os:=os
 exact ⟨v,H',I.call (h' := hh) (g' := g) (d' := d) (t' := t) (ch:=[]) un hok bare (λb z=>absurd z (by simp)),r,q⟩
end
def Binds (K:PySem.W.Frag) (fd:FuncData) (ps:List Str) (ds:List Value):Prop :=
 ∀ (s:Shared) (us:List Value),K.In s.heap->(us++ds).length=ps.length->BindsTo s fd ⟨us,[]⟩ (ps.zip (us++ds))
theorem Binds.all {K:PySem.W.Frag} {fd:FuncData} {ps:List Str} (h:∀ us:List Value,us.length=ps.length->bindArgs fd ⟨us,[]⟩=pure (ps.zip us)):Binds K fd ps []:=λs us _ hl=>by
 rw [Pf] at hl ⊢;exact .of_eq (h us hl)
def D6 (CX:fP) (X:Cx) (E:XK):Prop:=∀ (pins:List (Addr×Obj)) (σ:St) (H:Hp) (s:Shared) (e:Value) (s':Shared),Inv X pins σ H s->CX X.stack H s E e s'->X.xe e s'
section
variable {X:Cx} {CX:fP} {k:Nat} {f C:Addr} {fd:FuncData} {ps:List Str} {sp:Sp} {dvs:List V} {ds:List Value} {E:XK} {x m:Str} {p pos apos:Pos} {e o:Expr} {es:List Expr} {ta:TE} {t:TA}
structure Mk (K:PySem.W.Frag) (C f:Addr):Prop where
 makes:PySem.W.makesIn K C=true
 init:PySem.W.findIn K (.ref C) "__init__" = some (some (.ref f))
 fn:PySem.W.isFn K (.ref f)=true
 kp:PySem.W.keepIn K (.ref C)=true
end
section
variable {X:Cx} {CX:fP} {k:Nat} {f C:Addr} {fd:FuncData} {ps ks:List Str} {sp:Sp} {E:XK} {x m:Str} {p pos apos kpos:Pos} {e o:Expr} {es:List Expr} {kws:List Keyword} {te ta:TE} {t tk:TA} {nm:Option Str}
variable {g:List Value->List Value->List Value} {gV:List V->List V->List V}
end
structure aq (N P:List Str) (sc:Scope):Prop where
 kind:sc.kind = .function
 co:sc.isCoroutine=false
 gen:sc.isGenerator=false
 nd:N.Nodup
 pre:N.take P.length=P
 par:∀ x∈P,sc.names.lookup x=some .local\/sc.names.lookup x=some .cell
 nofree:∀ y∈sc.names,y.2 ≠ .free
theorem yd {kindOf:Str->Option NameKind} {x:Str}:∀ {binds:List (Str×Value)} {m:Str->Option Value},(∀ v,(x,v)∉binds)->bindL kindOf binds m x=m x
 | [],_,_=>rfl
 | (n,v)::r,m,h=>by
  unfold bindL
  rw [yd λw hw=>h w (NI _ hw)];split
  ·have:x≠n:=by rintro rfl;exact h v NX
   simp [this]
  ·rfl
theorem ye {kindOf:Str->Option NameKind} {x:Str}:∀ {binds:List (Str×Value)} {m:Str->Option Value},(∀ v,(x,v)∉binds)->bindC kindOf binds m x=m x
 | [],_,_=>rfl
 | (n,v)::r,m,h=>by
  unfold bindC
  rw [ye λw hw=>h w (NI _ hw)];split
  ·rfl
  ·have:x≠n:=by rintro rfl;exact h v NX
   simp [this]
theorem yf {kindOf:Str->Option NameKind} {x:Str} {v:Value}:∀ {P:List Str} {vs:List Value} {i:Nat} {m:Str->Option Value},P.Nodup->P[i]? = some x->vs[i]? = some v->kindOf x=some .local ->
  bindL kindOf (P.zip vs) m x=some v
 | [],_,_,_,_,h,_,_=>by simp at h
 | _::_,[],_,_,_,_,h,_=>by simp at h
 | p::P,w::vs,0,m,nd,h1,h2,hk=>by
  simp at h1 h2;subst h1;subst h2
  show bindL kindOf ((p,w)::P.zip vs) m p=_
  unfold bindL
  rw [yd λv hv=>(N8.mp nd).1 (QF hv).1,M8 hk];simp
 | p::P,w::vs,i+1,m,nd,h1,h2,hk=>by
  show bindL kindOf ((p,w)::P.zip vs) m x=_
  unfold bindL
  exact yf (i:=i) (N8.mp nd).2 (by simpa using h1) (by simpa using h2) hk
theorem yg {kindOf:Str->Option NameKind} {x:Str} {v:Value}:∀ {P:List Str} {vs:List Value} {i:Nat} {m:Str->Option Value},P.Nodup->P[i]? = some x->vs[i]? = some v->kindOf x≠some .local ->
  bindC kindOf (P.zip vs) m x=some v
 | [],_,_,_,_,h,_,_=>by simp at h
 | _::_,[],_,_,_,_,h,_=>by simp at h
 | p::P,w::vs,0,m,nd,h1,h2,hk=>by
  simp at h1 h2;subst h1;subst h2
  show bindC kindOf ((p,w)::P.zip vs) m p=_
  unfold bindC
  rw [ye λv hv=>(N8.mp nd).1 (QF hv).1,M9 hk];simp
 | p::P,w::vs,i+1,m,nd,h1,h2,hk=>by
  show bindC kindOf ((p,w)::P.zip vs) m x=_
  unfold bindC
  exact yg (i:=i) (N8.mp nd).2 (by simpa using h1) (by simpa using h2) hk
def start (N:List Str) (vs:List V):St:=vs.map some++List.replicate (N.length-vs.length) none
def cD (CX:fP) (P:Program) (w:World) (K:PySem.W.Frag) (mg:Str->Option Value) (base:Heap) (N:List Str) (qual:Str) (scope:Scope) (f:Addr) (cd:Value) (A:Around) (outer:List Env) (s:Shared) (H:Hp) (E:XK):Cx where
 prog:=P
 w:=w
 K:=K
 mg:=mg
 base:=base
 A:=A.deeper (envOfC qual scope s.heap.objs.size f cd)
 N:=N
 s₀:=s
 H₀:=H
 env:=envOfC qual scope s.heap.objs.size f cd
 outer:=outer
 stack:=envOfC qual scope s.heap.objs.size f cd::outer
 ex:=[]
 calm:=true
 fn:=λ_=>true
 pn:=[]
 xe:=λe s' => wpAny (model P w) (A.deeper (envOfC qual scope s.heap.objs.size f cd)) (leaving (envOfC qual scope s.heap.objs.size f cd) e) (λ_ s'' => CX outer H s E e s'') (λe' s'' => CX outer H s E e' s'') s'
theorem yh {sc:Scope} {n:Nat} {x:Str} (h:sc.names.lookup x=some .cell):∃ c,(cellsFrom n sc.names []).lookup x=some c:=by
 have q:=Qu sc.names n [] (.inl h)
 exact Nr.mp q
theorem D8 {CX:fP} {P:Program} {w:World} {K:PySem.W.Frag} {mg:Str->Option Value} {base:Heap} {N ps:List Str} {qual:Str} {scope:Scope} {f:Addr} {cd:Value} {A:Around} {outer:List Env} {s s1:Shared} {H:Hp} {E:XK} {us:List Value} {vs:List V}
  (S:aq N ps scope) (hd:A.handled=none) (e0:Env0 P w K mg base A outer s H) (hl:vs.length=ps.length) (r:Vals vs us)
  (x:InCallC s s.heap.objs.size (bindL (envOfC qual scope s.heap.objs.size f cd).kindOf (ps.zip us) λ_=>none) (cellsFrom (s.heap.objs.size+1) scope.names []) (bindC (envOfC qual scope s.heap.objs.size f cd).kindOf (ps.zip us) λ_=>none) s1) :
  Inv (cD CX P w K mg base N qual scope f cd A outer s H E) [] (start N vs) H s1:=by
 have hpl:ps.length<=N.length:=by have:=congrArg List.length S.pre;rw [Oa] at this;omega
 obtain ⟨h1,tk,rfl,hk⟩:=x.done
 have noA:∀ b:Addr,b∉(cD CX P w K mg base N qual scope f cd A outer s H E).ex:=λb z=>absurd (show b∈([]:List Addr) from z) (by simp)
 refine ⟨⟨e0.mod,S.kind,rfl,rfl,MZ _,λy z c h1 h2=>?_,λy hy=>?_,λy c _ h=>?_,λ_=>hd,Around.frames_deeper e0.frames,.inr ⟨rfl,rfl⟩,λb z=>absurd z (noA b),e0.bs,e0.bsz,λb _ _=>noA b,λb z=>absurd z (noA b),e0.funs,e0.frf⟩,
  rfl,e0.bare,Un.kept hk,⟨_,x.toInCall.ns,λi y v h1 h2 h3=>?_⟩,λy c h=>⟨_,x.cell y c h⟩,e0.hok.fresh (MZ _),λy c h=>?_,λp hp=>absurd (show p∈([]:List (Addr×Obj)) from hp) (by simp),e0.hok.kept hk,?_⟩
 ·exact name_of_addr x.apart (Om h1) (Om h2)
 ·have hy:scope.names.lookup y=some .cell\/scope.names.lookup y=some .free:=hy
  rcases hy with hy | hy
  ·exact yh hy
  ·exact absurd rfl (S.nofree _ (Om hy))
 ·exact PN (x.above y c (Om h))
 ·have hi:i<vs.length:=by
   unfold start at h2
   by_cases hi:i<vs.length
   ·exact hi
   ·rw [NC (by simpa using hi)] at h2
    rw [Ov] at h2;split at h2<;>cases h2
  have ha:vs[i]? = some v:=by
   unfold start at h2
   rw [Nb (by simpa using hi),NK] at h2
   cases e:vs[i]? with
   | none=>rw [e] at h2;cases h2
   | some a=>rw [e] at h2;cases h2;rfl
  obtain ⟨u,hu,rv⟩:=r.get ha
  have hp:ps[i]? = some y:=by
   rw [<- S.pre,List.getElem?_take_of_lt (by omega)];exact h1
  have ndP:ps.Nodup:=by rw [<- S.pre];exact S.nd.sublist (List.take_sublist _ _)
  refine ⟨u,rv,?_⟩
  rcases S.par y (ND hp) with k | k
  ·exact .inl ⟨k,yf ndP hp hu k⟩
  ·obtain ⟨c,e⟩:=yh (n:=s.heap.objs.size+1) k
   refine .inr ⟨.inl k,c,e,?_⟩
   have q:=x.cell y c e
   rw [yg ndP hp hu (by show scope.names.lookup y≠_;rw [k];decide)] at q
   exact q
 ·exact e0.hok.fresh (PN (x.above y c (Om h)))
 ·unfold start
  show _=N.length
  rw [NL,Nc,Oe];omega
theorem D9 {CX:fP} {P:Program} {w:World} {K:PySem.W.Frag} {mg:Str->Option Value} {base:Heap} {k:Nat} {f:Addr} {name qual:Str} {params:Arguments} {body:List Stmt} {scope:Scope} {dV kV doc pm cdv ct oc:Value} {an od:Option Addr}
  {osl:Array (Option Value)} {N ps:List Str} {sp:Sp} (lk:K.lookup f=some ⟨oc,od,.func (PySem.W.fnOf name qual params body scope dV kV doc pm an cdv ct),osl⟩) (hcd:PySem.W.codeIn K cdv qual=true) (S:aq N ps scope)
  (len:∀ vs H Q E,sp vs H Q E->vs.length=ps.length)
  (hbody:∀ (A:Around) (outer:List Env) (s:Shared) (H:Hp) (vs:List V) (Q:VK) (E:XK),Room k (A.deeper (envOfC qual scope s.heap.objs.size f cdv))->sp vs H Q E ->
   ∃ t,fN (cD CX P w K mg base N qual scope f cdv A outer s H E) body t/\t { nx:=λ_ H' => Q .non H',rt:=Q } (start N vs) H) :
  FnOk P w K mg base CX (k+1) f (PySem.W.fnOf name qual params body scope dV kV doc pm an cdv ct) ps sp:=by
 refine ⟨len,λA outer s H args us vs Q E hr e0 hb r hsp=>?_⟩
 have hl:=len _ _ _ _ hsp
 have KX:K.In s.heap:=e0.mod.kin.keeps λb o e=>(e0.bs b o e).1
 have lim:s.heap.NoLimit:=e0.mod.nolimit.keeps λb o e=>(e0.bs b o e).1
 have hkind:∀ y∈ps.zip us,scope.names.lookup y.1=some .local\/(scope.names.lookup y.1=some .cell/\((cellsFrom (s.heap.objs.size+1) scope.names []).lookup y.1).isSome=true):=λ⟨n,v⟩ hy=>by
  rcases S.par n (QF hy).1 with q | q
  ·exact .inl q
  ·exact .inr ⟨q,Qu _ _ _ (.inl q)⟩
 refine codeAny_call_function hr.depth (KX _ _ lk) rfl S.co S.gen rfl (PySem.W.codeRec_of KX hcd) (hb _ _ _ _ ?_)
 refine wpAny_newFunctionEnv_cells S.kind hkind λenv he s1 x=>?_
 subst he;refine ⟨lim.keeps x.toInCall.keep,codeAny_func ?_⟩
 obtain ⟨t,ht,hq⟩:=hbody A outer s H vs Q E (hr.deeper _) hsp
 have I:Inv (cD CX P w K mg base N qual scope f cdv A outer s H E) [] (start N vs) H s1:=D8 S hr.hd e0 hl r x
 refine NP (ht [] s1 (start N vs) H _ I hq) (λfl s' hs=>?_) λe s' hs=>hs
 have fin:∀ {σ':St} {H':Hp} {v:V} {u:Value},Inv (cD CX P w K mg base N qual scope f cdv A outer s H E) [] σ' H' s'->RelV v u->Q v H'->CE outer P w H s Q u s' :=
  λ{σ' H' v u} J rv q=>⟨v,H',J.os,J.bare,J.base,J.hok,rv,q⟩
 cases fl with
 | ret u =>
  obtain ⟨v,σ',H',J,rv,q⟩:=hs
  exact fin J rv q
 | next =>
  obtain ⟨σ',H',J,q⟩:=hs
  exact fin (v:=V.non) (u:=Value.none) J rfl q
 | brk =>
  obtain ⟨_,_,_,q⟩:=hs
  exact False.elim q
 | cont =>
  obtain ⟨_,_,_,q⟩:=hs
  exact False.elim q
section
variable {X:Cx} {x:Str} {p pos:Pos} {e:Expr} {es:List Expr} {t:TA} {id T:String} {r:List V->Hp->VK->Prop}
def sT (r:List V->Hp->VK->Prop) (t:TA):TE:=λσ H Q=>t σ H λvs H1=>r vs H1 Q
theorem sU (hc:CallR X (.builtin id) r) (hg:Gl X x) (hm:X.mg x=none) (hv:bootBuiltins x=some (.builtin id)) (ha:PA X (e::es) t) (hn:x ≠ "__name__" := by decide) (hdb:(x == ("__debug__" : Str))=false:=by decide)
  (he:starEach (e::es) X.env=(false,eval e X.env)::starEach es X.env:=by rfl) (hpl:(backTo pos (starEach es X.env)).any (·.1)=false:=by rfl):PE X (.Call (.Name x p) (e::es) [] pos) (sT r t):=by
 intro pins s σ H Q I h
 refine Pn (lQ I hg hm hv ?_ hn hdb)
 exact PyProof.Rows.callWith_builtin1 (thn (ha pos pins s σ H _ I h) λus s1 ⟨vs,H1,I1,r1,q1⟩=>hc pins s1 σ H1 vs us Q I1 r1 q1) he hpl
theorem Ea (hc:CallR X (.type T) r) (hg:Gl X x) (hm:X.mg x=none) (hv:bootBuiltins x=some (.type T)) (ha:PA X (e::es) t) (hn:x ≠ "__name__" := by decide) (hdb:(x == ("__debug__" : Str))=false:=by decide)
  (he:starEach (e::es) X.env=(false,eval e X.env)::starEach es X.env:=by rfl) (hpl:(backTo pos (starEach es X.env)).any (·.1)=false:=by rfl):PE X (.Call (.Name x p) (e::es) [] pos) (sT r t):=by
 intro pins s σ H Q I h
 refine Pn (lQ I hg hm hv ?_ hn hdb)
 exact OE (thn (ha pos pins s σ H _ I h) λus s1 ⟨vs,H1,I1,r1,q1⟩=>hc pins s1 σ H1 vs us Q I1 r1 q1) he hpl
end
end L2
namespace HT
open PySem PyProof.Rows
section
open PySem.SeqAt
open PySem.AutoSeq1 (wpAny_loadPart')
open PySem.MeetsSeq PySem.MeetsSeq2 PySem.MeetsSeq3
end
section
variable {prog:Program} {w:World} {A:Around} {E:Value->Shared->Prop} {s:Shared}
theorem cat_tup {t b:Addr} {vs ws:List Value} {Q:Value->Shared->Prop} (ht:IsTup s.heap t vs.toArray) (hb:IsTup s.heap b ws.toArray) (hv:vs≠[])
  (h1:ws=[]->Q (.ref t) s) (h2:ws≠[]->Q (.ref s.heap.objs.size) { s with heap:=s.heap.push { cls:=.type "tuple",data:=.seq (vs++ws).toArray } })
  (hsz:vs.length+ws.length<=sizeLine):wpAny (model prog w) A (binaryOp .Add (.ref t) (.ref b)) Q E s:=by
 obtain ⟨⟨cls,dd,data,sl⟩,ho,hc,n,hd⟩:=id ht
 obtain ⟨⟨cls2,dd2,data2,sl2⟩,ho2,hc2,n2,hd2⟩:=id hb
 simp only at hc hd hc2 hd2
 subst hc hd hc2 hd2
 have e:vs.toArray++ws.toArray=(vs++ws).toArray:=by simp
 by_cases hw:ws=[]
 ·exact RC ⟨_,ho,rfl⟩ ⟨_,ho2,rfl⟩ noFill_tuple_add seq_tuple_add Qv Qg (Qb _ _)
   (tuple_addW1 t b vs.toArray ws.toArray n n2 dd dd2 sl sl2 (by simpa using hv) (by simp [hw])) ⟨ho,ho2,h1 hw⟩
 ·refine RC ⟨_,ho,rfl⟩ ⟨_,ho2,rfl⟩ noFill_tuple_add seq_tuple_add Qv Qg (Qb _ _)
   (tuple_addW2 t b vs.toArray ws.toArray n n2 dd dd2 sl sl2 (by simpa using hv) (by simpa using hw) (by rw [Nh,Nh];exact hsz)) ⟨ho,ho2,?_⟩
  rw [e];exact h2 hw
def sIx (n d:Nat):Option Int->Nat
 | none=>d
 | some v=>if v<0 then (v+(n:Int)).toNat else min v.toNat n
theorem sIx_none (n d:Nat):sIx n d none=d:=rfl
theorem sIx_nat (n d k:Nat):sIx n d (some (k:Int))=min k n:=by
 show (if (k:Int)<0 then ((k:Int)+(n:Int)).toNat else min (k:Int).toNat n)=min k n
 rw [M9 (by lia),Ru]
theorem sIx_le (n d:Nat) (hd:d<=n) (o:Option Int):sIx n d o<=n:=by
 cases o with
 | none=>exact hd
 | some v =>
  show (if v<0 then (v+(n:Int)).toNat else min v.toNat n)<=n
  by_cases hv:v<0
  ·rw [M8 hv];lia
  ·rw [M9 hv];exact Nat.min_le_right _ _
theorem yi (v:Int) (n d:Nat):(if v<0 then max (v+(n:Int)) 0 else min v (n:Int))=((sIx n d (some v):Nat):Int):=by
 show (if v<0 then max (v+(n:Int)) 0 else min v (n:Int))=(((if v<0 then (v+(n:Int)).toNat else min v.toNat n):Nat):Int)
 by_cases hv:v<0
 ·simp only [M8 hv];lia
 ·simp only [M9 hv];lia
theorem Eb (lo hi:Option Int) (n:Nat):Builtin.Slice.sliceAdjust lo hi 1 (n:Int)=(((sIx n 0 lo:Nat):Int),((sIx n n hi:Nat):Int)):=by
 have h1 : ¬ ((1:Int)<0):=by lia
 unfold Builtin.Slice.sliceAdjust
 simp only [h1,RJ]
 refine Prod.ext ?_ ?_
 ·cases lo with
  | none=>rfl
  | some v=>exact yi v n 0
 ·cases hi with
  | none=>rfl
  | some v=>exact yi v n n
theorem Ec (i j:Nat):Builtin.Slice.slicePlaces (i:Int) (j:Int) 1=j-i:=by
 unfold Builtin.Slice.slicePlaces
 have h1:(1:Int) > 0:=by lia
 simp only [h1,O3,Int.ediv_one]
 split<;>lia
theorem yj {v:Value} {o:Option Int} {Q:Option Int->Shared->Prop} (p:IsPart v o) (h:Q o s):wpAny (model prog w) A (Builtin.Slice.slicePartIndex v) Q E s:=by
 cases p with
 | none=>exact slicePart_none h
 | int i t=>exact slicePart_int h
theorem Ed {sl:Addr} {vl vu:Value} {lo hi:Option Int} {n:Nat} {Q:Int×Int×Nat->Shared->Prop} (hs:s.heap.IsSliceOf sl vl vu .none) (pl:IsPart vl lo) (pu:IsPart vu hi)
  (h:Q (((sIx n 0 lo:Nat):Int),1,sIx n n hi-sIx n 0 lo) s):wpAny (model prog w) A (Builtin.Slice.sliceApplied (.ref sl) (pure (n:Int))) Q E s:=by
 obtain ⟨os,hos,hcs,hds⟩:=id hs
 unfold Builtin.Slice.sliceApplied Builtin.Slice.sliceFields
 refine M4 (M4 (Q6 hos hds (x:=vl) rfl (M4 (Q6 hos hds (x:=vu) rfl (M4 (Q6 hos hds (x:=.none) rfl (Nd ?_)))))))
 refine M4 (slicePart_none ?_)
 show wpAny _ _ (if ((1:Int) == 0)=true then _ else _) _ _ s
 rw [M9 (by decide)]
 refine M4 (yj pl (M4 (yj pu (M4 (Nd ?_)))))
 show wpAny _ _ (match Builtin.Slice.sliceAdjust lo hi 1 (n:Int) with | (lo,hi)=>pure (lo,(1:Int),Builtin.Slice.slicePlaces lo hi 1)) _ _ s
 rw [Eb lo hi n];show wpAny _ _ (pure (((sIx n 0 lo:Nat):Int),(1:Int),Builtin.Slice.slicePlaces ((sIx n 0 lo:Nat):Int) ((sIx n n hi:Nat):Int) 1)) _ _ s
 rw [Ec];exact Nd h
theorem Ee (xs:Array Value) (i k:Nat):((List.range k).filterMap λ(m:Nat)=>xs[((i:Int)+(m:Int)*1).toNat]?).toArray=((xs.toList.drop i).take k).toArray:=by
 have e:(λ(m:Nat)=>xs[((i:Int)+(m:Int)*1).toNat]?)=λm=>xs[i+m]? := by
  funext m
  have:((i:Int)+(m:Int)*1).toNat=i+m:=by lia
  rw [this]
 rw [e];have:=pick_run xs i k
 rw [PX] at this;have e2:((λx=>xs[x]?) ∘ λx=>i+x)=λm=>xs[i+m]? := rfl
 rw [e2] at this;rw [this]
theorem getItem_tuple_cut {t sl:Addr} {items:Array Value} {vl vu:Value} {lo hi:Option Int} {Q:Value->Shared->Prop} (ht:IsTup s.heap t items) (hs:s.heap.IsSliceOf sl vl vu .none) (pl:IsPart vl lo) (pu:IsPart vu hi)
  (hw : ¬ (sIx items.size 0 lo=0/\sIx items.size items.size hi=items.size))
  (h:Q (.ref s.heap.objs.size) { s with heap:=s.heap.push { cls:=.type "tuple",data:=.seq ((items.toList.drop (sIx items.size 0 lo)).take (sIx items.size items.size hi-sIx items.size 0 lo)).toArray } })
  (hsz:items.size<=sizeLine):wpAny (model prog w) A (getItem (.ref t) (.ref sl)) Q E s:=by
 have htake:sizeOk (.seq ((items.toList.drop (sIx items.size 0 lo)).take (sIx items.size items.size hi-sIx items.size 0 lo)).toArray):=by
  show ((items.toList.drop (sIx items.size 0 lo)).take (sIx items.size items.size hi-sIx items.size 0 lo)).toArray.size<=sizeLine
  rw [Nh,Oa,OG,OC];omega
 have hj:sIx items.size items.size hi<=items.size:=sIx_le _ _ (MZ _) hi
 obtain ⟨os,hos,hcs,hds⟩:=id hs
 have hTs:s.TypeIs (.ref sl) "slice" := ⟨os,hos,hcs⟩
 unfold getItem
 try with_reducible refine Og ?_
 first | refine M4 (Nd ?_) | skip
 refine M4 (RD ht.typeIs (by decide) ?_)
 refine M4 (Qp (name:=Str.ofString "__getitem__") ht.typeIs Px
  (Os Px ht.typeIs entry_tuple_getitem ?_ (args_tuple_getitem _ _)))
 show wpAny _ _ (Builtin.Tuple.tupleItemsOf (.ref t) >>= _) _ _ s
 refine M4 (tupleItemsOf_ ht ?_)
 refine M4 (wpAny_typeOf hTs ?_)
 rw [M8 (by decide)]
 refine M4 (Ed hs pl pu ?_)
 have hno : ¬ ((((sIx items.size 0 lo:Nat):Int) == 0 && (1:Int) == 1 && (sIx items.size items.size hi-sIx items.size 0 lo) == items.size)=true):=by
  intro q
  rw [NM,NM] at q;have q1:((sIx items.size 0 lo:Nat):Int)=0:=Qq q.1.1
  have q2:sIx items.size items.size hi-sIx items.size 0 lo=items.size:=Qq q.2
  exact hw ⟨by omega,by omega⟩
 show wpAny _ _ (if (((sIx items.size 0 lo:Nat):Int) == 0 && (1:Int) == 1 && (sIx items.size items.size hi-sIx items.size 0 lo) == items.size)=true then _ else _) _ _ s
 rw [M9 hno,Ee];first
  | exact M4 (m:=Builtin.Tuple.tupleExact _) (Ow (Nd ⟨_,rfl,Nd h⟩) htake)
  | exact M4 (m:=Builtin.Tuple.tupleExact _) (Ow (M4 (Nd (Nd ⟨_,rfl,Nd h⟩))) htake)
  | exact M4 (M4 (m:=Builtin.Tuple.tupleExact _) (Ow (Nd (Nd ⟨_,rfl,Nd h⟩)) htake))
  | exact M4 (M4 (m:=Builtin.Tuple.tupleExact _) (Ow (Nd ⟨_,rfl,Nd h⟩) htake))
end
end HT
namespace L2
open PySem PySem.Spec PyProof.Rows
abbrev TO:=St->Hp->(Option Int->Hp->Prop)->Prop
def PO (X:Cx) (e:Option Expr) (t:TO):Prop :=
 ∀ (pins:List (Addr×Obj)) (s:Shared) (σ:St) (H:Hp) (Q:Option Int->Hp->Prop),Inv X pins σ H s->t σ H Q ->
  wpAny (model X.prog X.w) X.A (evalPart e X.env) (λu s' => ∃ o H',Inv X pins σ H' s'/\IsPart u o/\Q o H') X.xe s
def yk:TO:=λ_ H Q=>Q none H
def yl (t:TE):TO:=λσ H Q=>t σ H λx H1=>∃ i,x = .int i/\Q (some i) H1
section
variable {X:Cx} {e:Expr} {te:TE} {lo hi:Option Expr} {tl th:TO} {pos p2:Pos}
theorem Ef:PO X none yk:=by
 intro pins s σ H Q I h
 rw [evalPart_none];exact Nd ⟨none,H,I,.none,h⟩
theorem Eg (h:PE X e te):PO X (some e) (yl te):=by
 intro pins s σ H Q I hw
 rw [evalPart_some];refine thn (h pins s σ H _ I hw) λu s1 Zz=>?_;obtain ⟨x,H1,I1,r1,q1⟩:=Zz
 obtain ⟨i,rfl,q⟩:=q1
 obtain ⟨t,rfl⟩:=r1
 exact ⟨some i,H1,I1,.int i t,q⟩
def SlR (X:Cx) (r:V->Option Int->Option Int->Hp->VK->Prop):Prop :=
 ∀ (pins:List (Addr×Obj)) (s:Shared) (σ:St) (H:Hp) (x:V) (v vl vu:Value) (lo hi:Option Int) (sl:Addr) (Q:VK),Inv X pins σ H s->RelV x v->s.heap.IsSliceOf sl vl vu .none->IsPart vl lo->IsPart vu hi->r x lo hi H Q ->
  ∃ T id,typeLookup (.type T) "__getitem__" = pure (some (.builtin id))/\s.TypeIs v T/\wpAny (model X.prog X.w) X.A (getItem v (.ref sl)) (EP X pins σ Q) X.xe s
theorem SlR.or {r r':V->Option Int->Option Int->Hp->VK->Prop} (h:SlR X r) (h':SlR X r'):SlR X (λx lo hi H Q=>r x lo hi H Q\/r' x lo hi H Q):=by
 intro pins s σ H x v vl vu lo hi sl Q I rx hs pl pu q
 rcases q with q | q
 ·exact h pins s σ H x v vl vu lo hi sl Q I rx hs pl pu q
 ·exact h' pins s σ H x v vl vu lo hi sl Q I rx hs pl pu q
def Eh (r:V->Option Int->Option Int->Hp->VK->Prop) (te:TE) (tl th:TO):TE:=λσ H Q=>te σ H λx H1=>tl σ H1 λl H2=>th σ H2 λu H3=>r x l u H3 Q
theorem Ei {r:V->Option Int->Option Int->Hp->VK->Prop} (hr:SlR X r) (he:PE X e te) (hl:PO X lo tl) (hu:PO X hi th):PE X (.Subscript e (.Slice lo hi none p2) pos) (Eh r te tl th):=by
 intro pins s σ H Q I h
 refine Subscript_ (thn (he pins s σ H _ I h) λv s1 Zz=>?_);obtain ⟨x,H1,I1,r1,q1⟩:=Zz
 refine wpAny_Slice (thn (hl pins s1 σ H1 _ I1 q1) λvl s2 ⟨l,H2,I2,pl,q2⟩=>thn (hu pins s2 σ H2 _ I2 q2) λvu s3 Zz=>?_);obtain ⟨u,H3,I3,pu,q3⟩:=Zz
 rw [evalPart_none];refine Nd ?_
 have I4:Inv X pins σ H3 { s3 with heap:=s3.heap.push { cls:=.type "slice",data:=.fields #[vl,vu,.none] } }:=I3.kept (t' := s3.toks) λb ob q=>M7 _ q
 obtain ⟨T,id,hT,ht,hg⟩:=hr pins { s3 with heap:=s3.heap.push { cls:=.type "slice",data:=.fields #[vl,vu,.none] } } σ H3 x v vl vu l u s3.heap.objs.size Q I4 r1 (Heap.IsSliceOf.new ..) pl pu q3
 show wpAny (model X.prog X.w) X.A (subscriptTail e (.Slice lo hi none p2) v (.ref s3.heap.objs.size)) (EP X pins σ Q) X.xe { s3 with heap:=s3.heap.push { cls:=.type "slice",data:=.fields #[vl,vu,.none] } }
 exact tail_any (ops:=[.ref s3.heap.objs.size,v]) ht hT hg (by with_unfolding_all rfl)
def eY (xs:List V) (lo hi:Option Int):List V:=(xs.drop (HT.sIx xs.length 0 lo)).take (HT.sIx xs.length xs.length hi-HT.sIx xs.length 0 lo)
theorem ym (xs:List V) (lo hi:Option Int):(eY xs lo hi).length<=xs.length:=by
 unfold eY
 rw [Oa,OG];lia
def sV (K:PySem.W.Frag):V->Option Int->Option Int->Hp->VK->Prop:=λx lo hi H Q=>∃ a xs,x = .ref a/\SqT K H a xs /\
 ¬ (HT.sIx xs.length 0 lo=0/\HT.sIx xs.length xs.length hi=xs.length)/\∀ p,H p=none->Q (.ref p) (upd H p (.tup (eY xs lo hi)))
theorem sl_tup:SlR X (sV X.K):=by
 intro pins s σ H x v vl vu lo hi sl Q I rx hs pl pu h
 obtain ⟨a,xs,rfl,hx,hw,q⟩:=h
 cases rx
 obtain ⟨its,r,ht,hz⟩:=I.tuple hx
 have hlen:its.toArray.size=xs.length:=by rw [Nh];exact r.length.symm
 refine ⟨"tuple",_,PyProof.Rows.slot_tuple_getitem.lookup,ht.typeIs,?_⟩
 refine HT.getItem_tuple_cut ht hs pl pu (by rw [hlen];exact hw) ?_ (by rw [hlen];exact hz)
 rw [hlen];refine ⟨.ref s.heap.objs.size,_,I.laid (t' := s.toks) (o:=.tup (eY xs lo hi)) (λb ob q=>M7 _ q) (MZ _) ?_,rfl,q _ (I.hok.fresh (MZ _))⟩
 exact ⟨M6 (ym xs lo hi) hz,_,(r.drop (HT.sIx xs.length 0 lo)).take (HT.sIx xs.length xs.length hi-HT.sIx xs.length 0 lo),IsTup.new _ _⟩
def Ej (K:PySem.W.Frag):R2:=λx y H Q=>∃ a b xs ys,x = .ref a/\y = .ref b/\SqT K H a xs/\SqT K H b ys/\xs≠[]/\xs.length+ys.length<=sizeLine /\
 (ys=[]->Q (.ref a) H)/\(ys≠[]->∀ p,H p=none->Q (.ref p) (upd H p (.tup (xs++ys))))
theorem Vals.nil_iff {xs:List V} {us:List Value} (r:Vals xs us):us=[] ↔ xs=[]:=by
 cases r with
 | nil=>simp
 | cons _ _=>simp
theorem zjZ:OpR X (binaryOp .Add) (Ej X.K):=by
 intro pins s σ H x y v u Q I rx ry h
 obtain ⟨a,b,xs,ys,rfl,rfl,ha,hb,hx,hz,q1,q2⟩:=h
 cases rx
 cases ry
 obtain ⟨its,r1,p1,_⟩:=I.tuple ha
 obtain ⟨its2,r2,p2,_⟩:=I.tuple hb
 refine HT.cat_tup p1 p2 (λz=>hx (r1.nil_iff.mp z)) (λz=>⟨.ref a,H,I,rfl,q1 (r2.nil_iff.mp z)⟩) (λz=>?_) (by rw [<- r1.length,<- r2.length];exact hz)
 refine ⟨.ref s.heap.objs.size,_,I.laid (t' := s.toks) (o:=.tup (xs++ys)) (λb ob q=>M7 _ q) (MZ _) ?_,rfl,q2 (λw=>z (r2.nil_iff.mpr w)) _ (I.hok.fresh (MZ _))⟩
 exact ⟨by rw [NL];exact hz,_,r1.append r2,IsTup.new _ _⟩
end
def ja (n:Nat) (i:Int):Option Nat:=if 0<=i then (if i<n then some i.toNat else none) else if -(n:Int)<=i then some (i+n).toNat else none
def atI {α:Type} (xs:List α) (i:Int):Option α:=(ja xs.length i).bind λj=>xs[j]?
theorem yn {n:Nat} {i:Int} {j:Nat} (h:ja n i=some j):seqIndex? i n=some j/\j<n /\ -(n:Int)<=i/\i<n:=by
 unfold ja at h
 by_cases h0:0<=i
 ·rw [M8 h0] at h
  by_cases h1:i<n
  ·rw [M8 h1] at h
   have e:i.toNat=j:=NJ h
   exact ⟨by rw [seqIndex_of h0 h1,e],by lia,by lia,h1⟩
  ·rw [M9 h1] at h;cases h
 ·rw [M9 h0] at h
  by_cases h1 : -(n:Int)<=i
  ·rw [M8 h1] at h
   have e:(i+n).toNat=j:=NJ h
   exact ⟨by rw [RE (by lia) h1,e],by lia,h1,by lia⟩
  ·rw [M9 h1] at h;cases h
theorem pG {α:Type} {xs:List α} {i:Int} {v:α} (h:atI xs i=some v):∃ j,seqIndex? i xs.length=some j/\xs[j]? = some v/\j<xs.length /\ -(xs.length:Int)<=i/\i<xs.length:=by
 unfold atI at h
 cases e:ja xs.length i with
 | none=>rw [e] at h;cases h
 | some j =>
  rw [e] at h;obtain ⟨h1,h2,h3,h4⟩:=yn e
  exact ⟨j,h1,h,h2,h3,h4⟩
theorem kz {α:Type} {xs:List α} {j:Nat} {v:α} (h:xs[j]? = some v):atI xs (j:Int)=some v:=by
 have hj:j<xs.length:=(MY.mp h).1
 have e:ja xs.length (j:Int)=some j:=by
  unfold ja
  rw [M8 (by lia),M8 (by lia)];simp
 unfold atI;rw [e];exact h
def sW (b:Expr):Prop:=∀ o i,subscripted b false o i=operate [o,i] (getItem o i)
def IxR (X:Cx) (r:R2):Prop :=
 ∀ (value slice:Expr) (pins:List (Addr×Obj)) (s:Shared) (σ:St) (H:Hp) (x y:V) (v u:Value) (Q:VK),Inv X pins σ H s->RelV x v->RelV y u->r x y H Q ->
  subscripted slice false v u=operate [v,u] (getItem v u)->wpAny (model X.prog X.w) X.A (subscriptTail value slice v u) (EP X pins σ Q) X.xe s
def iL (X:Cx) (id:String) (r:V->List V->Hp->VK->Prop):Prop :=
 ∀ (pins:List (Addr×Obj)) (s:Shared) (σ:St) (H:Hp) (x:V) (xs:List V) (v:Value) (us:List Value) (Q:VK),Inv X pins σ H s->RelV x v->Vals xs us->r x xs H Q ->
  wpAny (model X.prog X.w) X.A (call (.builtin id) (v::us)) (EP X pins σ Q) X.xe s
section
variable {X:Cx} {a b:Expr} {ta tb:TE} {pos:Pos}
theorem IxR.or {r r':R2} (h:IxR X r) (h':IxR X r'):IxR X (λx y H Q=>r x y H Q\/r' x y H Q):=by
 intro value slice pins s σ H x y v u Q I rx ry q hs
 rcases q with q | q
 ·exact h value slice pins s σ H x y v u Q I rx ry q hs
 ·exact h' value slice pins s σ H x y v u Q I rx ry q hs
theorem yo {r:R2} (hr:IxR X r) (ha:PE X a ta) (hb:PE X b tb) (hs:sW b):PE X (.Subscript a b pos) (lS r ta tb):=by
 intro pins s σ H Q I h
 exact Subscript_ (kq ha hb I h λv u s2 x y H2 I2 rx ry q=>hr a b pins s2 σ H2 x y v u Q I2 rx ry q (hs _ _))
def m8 (K:PySem.W.Frag):R2:=λx y H Q=>∃ p xs i v,x = .ref p/\y = .int i/\SqL K H p xs/\atI xs i=some v/\Q v H
def m9 (K:PySem.W.Frag):R2:=λx y H Q=>∃ p xs i v,x = .ref p/\y = .int i/\SqT K H p xs/\atI xs i=some v/\Q v H
def nh:R2:=λx y H Q=>∃ z i c,x = .str z/\y = .int i/\z.length<=sizeLine/\atI z.cps.toList i=some c/\Q (.str ⟨#[c]⟩) H
theorem zgk:IxR X (m8 X.K):=by
 intro value slice pins s σ H x y v u Q I rx ry h hs
 obtain ⟨p,xs,i,z,rfl,rfl,hq,he,q⟩:=h
 cases rx
 obtain ⟨t,rfl⟩:=ry
 obtain ⟨its,r,pl,hz⟩:=I.list hq
 obtain ⟨j,h1,h2,h3,h4,h5⟩:=pG he
 obtain ⟨w,ew,rw'⟩:=r.get h2
 have hl:=r.length
 have hn:=ku
 have fin:EP X pins σ Q w s:=⟨z,H,I,rw',q⟩
 by_cases h0:0<=i
 ·have hj:i.toNat=j:=by
   rw [seqIndex_of h0 h5] at h1;exact NJ h1
  exact item_listR pl.isList h0 (by lia) (by rw [hj];simpa using ew) fin hs
 ·have hj:(i+(its.toArray.size:Int)).toNat=j:=by
   rw [RE (by lia) h4] at h1
   rw [Nh,<- hl];exact NJ h1
  exact QC (x:=w) pl.isList.typeIs slot_list_getitem.lookup
   (wpAny_getItem_list_neg (Q:=λr s' => r=w/\EP X pins σ Q r s') pl.isList (by lia) (by rw [Nh]<;>lia) (by lia) (by rw [hj];simpa using ew) ⟨rfl,fin⟩) hs
theorem ix_tup:IxR X (m9 X.K):=by
 intro value slice pins s σ H x y v u Q I rx ry h hs
 obtain ⟨p,xs,i,z,rfl,rfl,hq,he,q⟩:=h
 cases rx
 obtain ⟨t,rfl⟩:=ry
 obtain ⟨its,r,pl,hz⟩:=I.tuple hq
 obtain ⟨j,h1,h2,h3,h4,h5⟩:=pG he
 obtain ⟨w,ew,rw'⟩:=r.get h2
 have hl:=r.length
 have hn:=ku
 have fin:EP X pins σ Q w s:=⟨z,H,I,rw',q⟩
 exact QC (x:=w) pl.typeIs slot_tuple_getitem.lookup
  (getItem_tuple (j:=j) (Q:=λr s' => r=w/\EP X pins σ Q r s') pl (by lia) (by lia) (by rw [Nh,<- hl];exact h1) (by simpa using ew) ⟨rfl,fin⟩) hs
theorem Ek:IxR X nh:=by
 intro value slice pins s σ H x y v u Q I rx ry h hs
 obtain ⟨z,i,c,rfl,rfl,hz,he,q⟩:=h
 obtain ⟨t,rfl⟩:=rx
 obtain ⟨t',rfl⟩:=ry
 obtain ⟨j,h1,h2,h3,h4,h5⟩:=pG he
 have hl:z.cps.toList.length=z.length:=by simp [Str.length]
 rw [hl] at h1 h4 h5;have hn:=ku
 exact tail_any (P0 s z t) slot_str_getitem.lookup (getItem_str (c:=c) (by
  have e1:decide (i < -(2 ^ 63:Int))=false:=NF (by lia)
  have e2:decide (i ≥ 2 ^ 63)=false:=NF (by lia)
  rw [e1,e2,Bool.or_false]) (by rw [h1];simpa using h2) ⟨.str ⟨#[c]⟩,H,I.tok _,⟨_,rfl⟩,q⟩) hs
def yp (K:PySem.W.Frag):R2:=λx y H Q=>m8 K x y H Q\/m9 K x y H Q\/nh x y H Q
theorem El:IxR X (yp X.K):=zgk.or (ix_tup.or Ek)
theorem Em (its:List Value) (n j:Nat) (u:Value):Obj.mapSeq (·.setIfInBounds j u) { cls:=.type "list",data:=.seq its.toArray n }={ cls:=.type "list",data:=.seq (its.set j u).toArray n }:=by
 simp [Obj.mapSeq]
theorem Inv.lst {pins:List (Addr×Obj)} {σ:St} {H:Hp} {s:Shared} {p:Addr} {xs:List V} (I:Inv X pins σ H s) (h:H p=some (.lst xs)) :
  ∃ (its:List Value) (n:Nat),Vals xs its/\s.heap.get? p=some { cls:=.type "list",data:=.seq its.toArray n }/\xs.length<=sizeLine:=by
 obtain ⟨z,its,n,r,e⟩:=I.hok p _ h
 exact ⟨its,n,r,e,z⟩
theorem Inv.lstUpd {pins:List (Addr×Obj)} {σ:St} {H:Hp} {s:Shared} {p:Addr} {xs ys:List V} {its its':List Value} {n n':Nat} {f:Obj->Obj} (I:Inv X pins σ H s) (h:H p=some (.lst xs))
  (ho:s.heap.get? p=some { cls:=.type "list",data:=.seq its.toArray n }) (hf:f { cls:=.type "list",data:=.seq its.toArray n }={ cls:=.type "list",data:=.seq its'.toArray n' }) (r:Vals ys its') (hz:ys.length<=sizeLine) (t:Nat) :
  Inv X pins σ (upd H p (.lst ys)) { s with heap:=s.heap.update p f,toks:=t }:=by
 have e:(s.heap.update p f).get? p=some { cls:=.type "list",data:=.seq its'.toArray n' }:=by
  rw [O0 f ho (by rw [hf]<;>rfl),hf]
 refine I.write (x:=p) (e:=p) (by rw [h];trivial) (.inl rfl) (λb u hb q=>(Qw _ _ (Ne.symm hb)).trans q) ⟨_,e⟩ ?_
 exact ⟨hz,its',n',r,e⟩
def Eo:V->V->V->Hp->(Hp->Prop)->Prop:=λo i v H Q=>∃ p xs k j,o = .ref p/\i = .int k/\H p=some (.lst xs)/\ja xs.length k=some j/\Q (upd H p (.lst (xs.set j v)))
theorem Ep:mY X Eo:=by
 intro pins s σ H o i v ov iv u Q I ro ri rv h
 obtain ⟨p,xs,k,j,rfl,rfl,hp,hj,q⟩:=h
 cases ro
 obtain ⟨t,rfl⟩:=ri
 obtain ⟨its,n,r,ho,hz⟩:=I.lst hp
 obtain ⟨h1,h2,h3,h4⟩:=yn hj
 have hl:=r.length
 have hn:=ku
 have I':Inv X pins σ (upd H p (.lst (xs.set j v))) { s with heap:=s.heap.update p (Obj.mapSeq (·.setIfInBounds j u)) } :=
  I.lstUpd hp ho (Em its n j u) (r.set rv j) (by rw [NW];exact hz) s.toks
 by_cases h0:0<=k
 ·have hk:k.toNat=j:=by
   rw [seqIndex_of h0 h4] at h1;exact NJ h1
  exact PySem.W.ki_setAt ho h0 (by lia) (by rw [Nh,<- hl];exact h4) (by rw [hk];exact ⟨_,I',q⟩)
 ·have hk:(k+(its.toArray.size:Int)).toNat=j:=by
   rw [RE (by lia) h3] at h1
   rw [Nh,<- hl];exact NJ h1
  exact PySem.W.ki_setBack ho (by lia) (by rw [Nh,<- hl];exact h3) (by lia) (by rw [hk];exact ⟨_,I',q⟩)
theorem Er (lo hi:Option Int) (n:Nat):(sliceBounds lo hi none n).1=((HT.sIx n 0 lo:Nat):Int)/\(sliceBounds lo hi none n).2.1=((HT.sIx n n hi:Nat):Int)/\(sliceBounds lo hi none n).2.2=1:=by
 refine ⟨?_,?_,rfl⟩
 ·cases lo with
  | none=>simp [sliceBounds,HT.sIx]
  | some i =>
   simp only [sliceBounds,HT.sIx,Option.getD_none,show (1:Int) > 0 by decide,O3]
   by_cases h:i<0
   ·simp only [h,O3]<;>lia
   ·simp only [h,RJ]<;>lia
 ·cases hi with
  | none=>simp [sliceBounds,HT.sIx]
  | some i =>
   simp only [sliceBounds,HT.sIx,Option.getD_none,show (1:Int) > 0 by decide,O3]
   by_cases h:i<0
   ·simp only [h,O3]<;>lia
   ·simp only [h,RJ]<;>lia
theorem Es (its:List Value) (lo hi:Option Int):slicePick its.toArray lo hi none=((its.drop (HT.sIx its.length 0 lo)).take (HT.sIx its.length its.length hi-HT.sIx its.length 0 lo)).toArray:=by
 obtain ⟨h1,h2,h3⟩:=Er lo hi its.toArray.size
 unfold slicePick
 rw [h1,h2,h3];simp only [sliceRange_one,pick_run,Nh]<;>rfl
def sX (K:PySem.W.Frag):V->Option Int->Option Int->Hp->VK->Prop:=λx lo hi H Q=>∃ a xs,x = .ref a/\SqL K H a xs/\∀ p,H p=none->Q (.ref p) (upd H p (.lst (eY xs lo hi)))
theorem zj0:SlR X (sX X.K):=by
 intro pins s σ H x v vl vu lo hi sl Q I rx hs pl pu h
 obtain ⟨a,xs,rfl,hx,q⟩:=h
 cases rx
 obtain ⟨its,r,ht,hz⟩:=I.list hx
 have hlen:=r.length
 refine ⟨"list",_,slot_list_getitem.lookup,ht.isList.typeIs,?_⟩
 refine wpAny_getItem_list_slice ht.isList hs pl pu .none (by simp) ?_ (by rw [Nh]<;>omega)
 rw [Es,<- hlen];refine ⟨.ref s.heap.objs.size,_,I.laid (t' := s.toks) (o:=.lst (eY xs lo hi)) (λb ob q=>M7 _ q) (MZ _) ?_,rfl,q _ (I.hok.fresh (MZ _))⟩
 exact ⟨M6 (ym xs lo hi) hz,_,0,(r.drop (HT.sIx xs.length 0 lo)).take (HT.sIx xs.length xs.length hi-HT.sIx xs.length 0 lo),Nn _ rfl⟩
theorem ze4:OpR X (compareOp .NotIn) (λx y H Q=>∃ i j,x = .str i/\y = .str j/\Q (.bl (!(!(Builtin.Str.occurrences j i 0 j.length 1).isEmpty))) H):=by
 intro pins s σ H x y v u Q I rx ry h
 obtain ⟨i,j,rfl,rfl,q⟩:=h
 obtain ⟨t,rfl⟩:=rx
 obtain ⟨t',rfl⟩:=ry
 exact notIn_str ⟨.bl _,H,I,rfl,q⟩
theorem ze5:CallR X (.builtin "len") (λxs H Q=>∃ p ys,xs=[.ref p]/\(SqL X.K H p ys\/SqT X.K H p ys)/\Q (.int ys.length) H):=by
 intro pins s σ H xs us Q I r h
 obtain ⟨p,ys,rfl,hq,q⟩:=h
 obtain ⟨u,rfl,rx⟩:=i9 r
 cases rx
 have hn:=ku
 rcases hq with hq | hq
 ·obtain ⟨its,r',pl,hz⟩:=I.list hq
  have hlen:=r'.length
  exact Calls.call_len_list pl.isList (by simp only [Nh]<;>lia) ⟨.int ys.length,H,I.tok _,⟨s.toks+1,by rw [Nh,hlen]⟩,q⟩
 ·obtain ⟨its,r',pl,hz⟩:=I.tuple hq
  have hlen:=r'.length
  exact len_tuple pl (by simp only [Nh]<;>lia) ⟨.int ys.length,H,I.tok _,⟨s.toks+1,by rw [Nh,hlen]⟩,q⟩
theorem ze6:CallR X (.builtin "len") (λxs H Q=>∃ z,xs=[.str z]/\z.length<=sizeLine/\Q (.int z.length) H):=by
 intro pins s σ H xs us Q I r h
 obtain ⟨z,rfl,hz,q⟩:=h
 obtain ⟨u,rfl,t,rfl⟩:=i9 r
 have hn:=ku
 exact len_str (by lia) ⟨.int z.length,H,I.tok _,⟨_,rfl⟩,q⟩
theorem CallR.or {f:Value} {r r':List V->Hp->VK->Prop} (h:CallR X f r) (h':CallR X f r'):CallR X f (λxs H Q=>r xs H Q\/r' xs H Q):=by
 intro pins s σ H xs us Q I rs q
 rcases q with q | q
 ·exact h pins s σ H xs us Q I rs q
 ·exact h' pins s σ H xs us Q I rs q
def pH (K:PySem.W.Frag) (T:String) (x:V) (H:Hp):Prop:=match x with
 | .str _=>T = "str"
 | .int _=>T = "int"
 | .ref p=>(T = "list" /\ ∃ xs,SqL K H p xs)\/(T = "tuple" /\ ∃ o,K.lookup p=some o/\o.cls = .type "tuple" /\ o.dict=none) \/
   (T = "dict" /\ ((∃ kvs,H p=some (.dK kvs))\/∃ xc kvs,H p=some (.dT xc kvs)))\/(T = "set" /\ ∃ S n,H p=some (.set S n))
 | _=>False
theorem yq {pins:List (Addr×Obj)} {σ:St} {H:Hp} {s:Shared} {T:String} {x:V} {v:Value} (I:Inv X pins σ H s) (r:RelV x v) (ty:pH X.K T x H) :
  s.TypeIs v T/\∀ a,v = .ref a->∃ ob,s.heap.get? a=some ob/\ob.dict=none:=by
 cases x with
 | str z =>
  obtain ⟨t,rfl⟩:=r
  cases (show T = "str" from ty)
  exact ⟨P0 s z t,λ_ e=>nomatch e⟩
 | int i =>
  obtain ⟨t,rfl⟩:=r
  cases (show T = "int" from ty)
  exact ⟨RK s i t,λ_ e=>nomatch e⟩
 | ref p =>
  cases r
  rcases ty with ⟨rfl,xs,hq⟩ | ⟨rfl,o,hk,hc,hd⟩ | ⟨rfl,hk⟩ | ⟨rfl,S,n,hk⟩
  ·obtain ⟨its,_,pl,_⟩:=I.list hq
   refine ⟨pl.isList.typeIs,λa e=>?_⟩
   cases e
   obtain ⟨o,n,e,c,hd,_⟩:=pl
   exact ⟨o,e,hd⟩
  ·refine ⟨⟨o,I.kIn p o hk,hc⟩,λa e=>?_⟩
   cases e
   exact ⟨o,I.kIn _ o hk,hd⟩
  ·have z:∃ o,s.heap.get? p=some o/\o.ExactDict:=by
    rcases hk with ⟨kvs,hk⟩ | ⟨xc,kvs,hk⟩
    ·obtain ⟨_,_,_,_,o,_,_,e,ex,_⟩:=I.hok p _ hk
     exact ⟨o,e,ex⟩
    ·obtain ⟨_,_,_,_,o,_,_,e,ex,_⟩:=I.hok p _ hk
     exact ⟨o,e,ex⟩
   obtain ⟨o,e,ex⟩:=z
   refine ⟨⟨o,e,ex.1⟩,λa e2=>?_⟩
   cases e2
   exact ⟨o,e,ex.2.1⟩
  ·obtain ⟨o,_,_,_,e,ex,_⟩:=I.hok p _ hk
   refine ⟨⟨o,e,ex.1⟩,λa e2=>?_⟩
   cases e2
   exact ⟨o,e,ex.2.1⟩
 | _=>exact False.elim ty
def sY (K:PySem.W.Frag) (T:String) (r:V->List V->Hp->VK->Prop) (to:TE):TE:=λσ H Q=>to σ H λx H1=>pH K T x H1/\r x [] H1 Q
def Et (K:PySem.W.Frag) (T:String) (r:V->List V->Hp->VK->Prop) (to:TE) (t:TA):TE:=λσ H Q=>to σ H λx H1=>pH K T x H1/\t σ H1 λxs H2=>r x xs H2 Q
variable {o e:Expr} {es:List Expr} {to:TE} {t:TA} {name:Str} {apos cpos:Pos} {T id:String} {r:V->List V->Hp->VK->Prop}
theorem yr (pa:PlainAttrs T) (slot:Slot T name id) (hty:typeOf (.builtin id)=pure (.type "method_descriptor")) (hm:iL X id r) (ho:PE X o to)
  (hbase:attributeBase o name X.env (eval o X.env)=eval o X.env:=by rfl) (hline:(apos.endLine == cpos.line)=true:=by rfl):PE X (.Call (.Attribute o name apos) [] [] cpos) (sY X.K T r to):=by
 intro pins s σ H Q I h
 refine wpAny_Call_method0_late hbase hline (thn (ho pins s σ H _ I h) λv s1 Zz=>?_);obtain ⟨x,H1,I1,r1,ty,q1⟩:=Zz
 obtain ⟨h1,h2⟩:=yq I1 r1 ty
 exact ⟨T,id,pa,slot,hty,h1,h2,OF rfl (PySem.evalArgs_none (hm pins s1 σ H1 x [] v [] Q I1 r1 .nil q1))⟩
theorem Eu (pa:PlainAttrs T) (slot:Slot T name id) (hty:typeOf (.builtin id)=pure (.type "method_descriptor")) (hm:iL X id r) (ho:PE X o to) (ha:PA X (e::es) t)
  (hbase:attributeBase o name X.env (eval o X.env)=eval o X.env:=by rfl)
  (hfew:((backTo cpos (starEach (e::es) X.env)).all (λx=>!x.1) && (backToKw cpos (keywordEach [] X.env)).all (λx=>x.1.isSome)
   && decide ((e::es).length+([]:List Keyword).length+(if ([]:List Keyword).isEmpty then 0 else 1)<30))=true:=by rfl)
  (hline:(apos.endLine == cpos.line)=true:=by rfl) (hs:starEach (e::es) X.env=(false,eval e X.env)::starEach es X.env:=by rfl) (hplain:(backTo cpos (starEach es X.env)).any (·.1)=false:=by rfl) :
  PE X (.Call (.Attribute o name apos) (e::es) [] cpos) (Et X.K T r to t):=by
 intro pins s σ H Q I h
 refine wpAny_Call_method_late hbase hfew hline rfl (thn (ho pins s σ H _ I h) λv s1 Zz=>?_);obtain ⟨x,H1,I1,r1,ty,q1⟩:=Zz
 obtain ⟨h1,h2⟩:=yq I1 r1 ty
 refine ⟨T,id,pa,slot,hty,h1,h2,?_⟩
 have hA:=ha cpos pins s1 σ H1 _ I1 q1
 rw [hs] at hA ⊢;refine OF (by show (false || (backTo cpos (starEach es X.env)).any (·.1))=false;rw [hplain]<;>rfl) (OO ?_)
 exact thn hA λus s2 ⟨vs,H2,I2,r2,q2⟩=>hm pins s2 σ H2 x vs v us Q I2 r1 r2 q2
end
def sZ (X:Cx) (id:String) (r:V->List V->Hp->VK->Prop):Prop :=
 ∀ (pins:List (Addr×Obj)) (s:Shared) (σ:St) (H:Hp) (x:V) (xs:List V) (v:Value) (us:List Value) (Q:VK),Inv X pins σ H s->RelV x v->Vals xs us->r x xs H Q ->
  wpAny (model X.prog X.w) X.A (call (.builtin id) (v::us)) (EP X pins σ Q) X.xe s
theorem Vals.one:∀ {x:V} {us:List Value},Vals [x] us->∃ u,us=[u]/\RelV x u
 | _,_,.cons r .nil=>⟨_,rfl,r⟩
theorem Vals.zero:∀ {us:List Value},Vals [] us->us=[]
 | _,.nil=>rfl
theorem Vals.dropLast {xs:List V} {us:List Value} (h:Vals xs us):Vals xs.dropLast us.dropLast:=by
 induction h with
 | nil=>exact .nil
 | cons r t ih =>
  cases t with
  | nil=>exact .nil
  | cons q t' => exact .cons r ih
theorem Ew {α:Type} (l:List α):l.eraseIdx (l.length-1)=l.dropLast:=by
 induction l with
 | nil=>rfl
 | cons a r ih =>
  cases r with
  | nil=>rfl
  | cons b r =>
   have e:(a::b::r).length-1=((b::r).length-1)+1:=by
    have h1:(a::b::r).length=r.length+2:=rfl
    have h2:(b::r).length=r.length+1:=rfl
    omega
   rw [e,List.eraseIdx_cons_succ,ih];all_goals rfl
section
variable {X:Cx} {pins:List (Addr×Obj)} {σ:St} {H:Hp} {s:Shared} {l b:Addr} {xs ys zs:List V}
theorem Inv.lset {its its':List Value} {n:Nat} {f:Array Value->Array Value} {t':Nat} (I:Inv X pins σ H s) (hH:H l=some (.lst xs))
  (e:s.heap.get? l=some { cls:=.type "list",data:=.seq its.toArray n }) (hf:f its.toArray=its'.toArray) (hv:Vals ys its') (hz:ys.length<=sizeLine) :
  Inv X pins σ (upd H l (.lst ys)) { s with heap:=s.heap.update l (Obj.mapSeq f),toks:=t' }:=by
 have q:=PySem.IsL.update e f
 rw [hf] at q;refine I.write (x:=l) (e:=l) (by rw [hH];exact trivial) (.inl rfl) (λb' u hb hu=>(Qw s.heap (Obj.mapSeq f) (Ne.symm hb)).trans hu) ⟨_,q⟩ ?_
 exact ⟨hz,its',_,hv,q⟩
theorem Inv.lnew {its:List Value} {t':Nat} (I:Inv X pins σ H s) (hv:Vals ys its) (hz:ys.length<=sizeLine) :
  Inv X pins σ (upd H s.heap.objs.size (.lst ys)) { s with heap:=s.heap.push { cls:=.type "list",data:=.seq its.toArray },toks:=t' } :=
 I.laid (λ_ _ q=>M7 _ q) (MZ _) ⟨hz,its,0,hv,Nn _ rfl⟩
theorem Inv.fresh (I:Inv X pins σ H s):H s.heap.objs.size=none:=I.hok.fresh (MZ _)
theorem Inv.lstM (I:Inv X pins σ H s) (hH:H l=some (.lst xs)):xs.length<=sizeLine/\∃ (its:List Value) (n:Nat),Vals xs its/\xs.length=its.length/\s.heap.get? l=some { cls:=.type "list",data:=.seq its.toArray n }:=by
 obtain ⟨z,its,n,r,e⟩:=I.hok l _ hH
 exact ⟨z,its,n,r,r.length,e⟩
end
section
variable {X:Cx}
def Ey:V->List V->Hp->VK->Prop:=λx vs H Q=>∃ l xs y,x = .ref l/\vs=[y]/\H l=some (.lst xs)/\xs.length<sizeLine/\Q .non (upd H l (.lst (xs++[y])))
theorem yt:sZ X "list.append" Ey:=by
 intro pins s σ H x vs v us Q I rx rv h
 obtain ⟨l,xs,y,rfl,rfl,hH,hz,q⟩:=h
 cases rx
 obtain ⟨u,rfl,ru⟩:=rv.one
 obtain ⟨z,its,n,r,hl,e⟩:=I.lstM hH
 refine Po F.slot_list_append ⟨_,e,rfl⟩ F.entry_list_append (F.args_list_append_2 _ _) (PySem.list_append l its.toArray n u (by rw [Nh];lia)) ⟨e,?_⟩
 refine ⟨.non,_,I.lset (its' := its++[u]) hH e (by simp) (r.append (.cons ru .nil)) ?_,rfl,q⟩
 rw [NL,List.length_singleton];lia
def tf:V->List V->Hp->VK->Prop:=λx vs H Q=>∃ l xs y,x = .ref l/\vs=[]/\H l=some (.lst xs)/\xs[xs.length-1]? = some y/\Q y (upd H l (.lst xs.dropLast))
theorem Ez:sZ X "list.pop" tf:=by
 intro pins s σ H x vs v us Q I rx rv h
 obtain ⟨l,xs,y,rfl,rfl,hH,hy,q⟩:=h
 cases rx
 have hus:=rv.zero
 subst hus;obtain ⟨z,its,n,r,hl,e⟩:=I.lstM hH
 obtain ⟨u,hu,ru⟩:=r.get hy
 have hy':its.toArray[its.toArray.size-1]? = some u:=by
  show its.toArray[its.length-1]? = some u
  rw [<- Py,<- hl];exact hu
 refine Po F.slot_list_pop ⟨_,e,rfl⟩ F.entry_list_pop (F.args_list_pop_1 _) (MeetsSeq.list_pop_last l its.toArray n u hy' (by rw [Nh];omega)) ⟨e,?_⟩
 refine ⟨y,_,I.lset (its' := its.dropLast) hH e ?_ r.dropLast ?_,ru,q⟩
 ·show its.toArray.eraseIdxIfInBounds (its.toArray.size-1)=its.dropLast.toArray
  rw [Nh,List.eraseIdxIfInBounds_toArray,Ew]
 ·rw [List.length_dropLast]
  omega
def EA:V->List V->Hp->VK->Prop:=λx vs H Q=>∃ l xs,x = .ref l/\vs=[]/\H l=some (.lst xs)/\Q .non (upd H l (.lst []))
theorem EB:sZ X "list.clear" EA:=by
 intro pins s σ H x vs v us Q I rx rv h
 obtain ⟨l,xs,rfl,rfl,hH,q⟩:=h
 cases rx
 have hus:=rv.zero
 subst hus;obtain ⟨z,its,n,r,hl,e⟩:=I.lstM hH
 refine Po F.slot_list_clear ⟨_,e,rfl⟩ F.entry_list_clear (F.args_list_clear_1 _) (AutoSeq1.list_clear_list_0 l its.toArray n (by rw [Nh];lia)) ⟨e,?_⟩
 exact ⟨.non,_,I.lset (its' := []) (ys:=[]) hH e rfl .nil (NB _),rfl,q⟩
end
section
variable {prog:Program} {w:World} {A:Around} {E:Value->Shared->Prop} {s:Shared}
end
section
variable {X:Cx}
end
section
variable {κ:Type} [DecidableEq κ]
def bX (kvs:List (κ×V)) (k:κ):Option V:=(kvs.find? λkv=>decide (kv.1=k)).map (·.2)
def cE (kvs:List (κ×V)) (k:κ) (v:V):List (κ×V) :=
 if (kvs.any λkv=>decide (kv.1=k))=true then kvs.map (λkv=>if kv.1=k then (kv.1,v) else kv) else kvs++[(k,v)]
def jc (kvs:List (κ×V)) (k:κ):List (κ×V):=kvs.filter λkv=>decide (kv.1≠k)
theorem pI {p:κ×V} {r:List (κ×V)} {k:κ} (e:p.1=k):bX (p::r) k=some p.2:=by simp [bX,NY,e]
theorem nj {p:κ×V} {r:List (κ×V)} {k:κ} (e : ¬ p.1=k):bX (p::r) k=bX r k:=by simp [bX,NY,e]
theorem pJ (k:κ):∀ kvs:List (κ×V),(kvs.any λkv=>decide (kv.1=k))=(bX kvs k).isSome
 | []=>rfl
 | p::r=>by
  rw [Ou];by_cases e:p.1=k
  ·simp only [pI e,NQ e,Bool.true_or,Option.isSome_some]
  ·rw [nj e,NF e,Bool.false_or];exact pJ k r
theorem yu (kvs:List (κ×V)) (k:κ) (v:V):(cE kvs k v).length<=kvs.length+1:=by
 unfold cE
 split
 ·rw [Nc];lia
 ·rw [NL,NZ,List.length_nil];lia
theorem RelO.isSome_eq {o:Option V} {u:Option Value} (r:RelO o u):o.isSome=u.isSome:=by
 cases o with
 | none=>cases u with
  | none=>rfl
  | some _=>exact (show False from r).elim
 | some _=>cases u with
  | none=>exact (show False from r).elim
  | some _=>rfl
theorem RelO.getD {o:Option V} {u:Option Value} {d:V} {d':Value} (r:RelO o u) (rd:RelV d d'):RelV (o.getD d) (u.getD d'):=by
 cases o with
 | none=>cases u with
  | none=>exact rd
  | some _=>exact (show False from r).elim
 | some _=>cases u with
  | none=>exact (show False from r).elim
  | some _=>exact r
theorem KV.val {kvs:List (κ×V)} {vs:List (κ×Value)} (r:KV kvs vs) (k:κ):RelO (bX kvs k) (valueAt vs k):=by
 unfold KV at r
 induction r with
 | nil=>exact True.intro
 | @cons p q ps qs h t ih =>
  obtain ⟨h1,h2⟩:=h
  by_cases e:p.1=k
  ·have e':q.1=k:=h1.symm.trans e
   have b:valueAt (q::qs) k=some q.2:=by simp [valueAt,NY,e']
   rw [pI e,b];exact h2
  ·have e' : ¬ q.1=k:=λz=>e (h1.trans z)
   have b:valueAt (q::qs) k=valueAt qs k:=by simp [valueAt,NY,e']
   rw [nj e,b];exact ih
theorem KV.any {kvs:List (κ×V)} {vs:List (κ×Value)} (r:KV kvs vs) (k:κ):(kvs.any λkv=>decide (kv.1=k))=vs.any λkv=>decide (kv.1=k):=by
 unfold KV at r
 induction r with
 | nil=>rfl
 | cons h t ih=>rw [Ou,Ou,ih,h.1]
theorem KV.repl {kvs:List (κ×V)} {vs:List (κ×Value)} (r:KV kvs vs) (k:κ) {y:V} {u:Value} (ry:RelV y u) :
  KV (kvs.map λkv=>if kv.1=k then (kv.1,y) else kv) (vs.map λkv=>if kv.1=k then (kv.1,u) else kv):=by
 unfold KV at r ⊢
 induction r with
 | nil=>exact .nil
 | @cons p q ps qs h t ih =>
  rw [NG,NG];refine .cons ?_ ih
  obtain ⟨h1,h2⟩:=h
  by_cases e:p.1=k
  ·rw [M8 e,M8 (h1.symm.trans e)];exact ⟨h1,ry⟩
  ·rw [M9 e,M9 (λz=>e (h1.trans z))];exact ⟨h1,h2⟩
theorem KV.put {kvs:List (κ×V)} {vs:List (κ×Value)} (r:KV kvs vs) (k:κ) {y:V} {u:Value} (ry:RelV y u):KV (cE kvs k y) (stored vs k u):=by
 unfold cE stored
 rw [r.any k];by_cases e:(vs.any λkv=>decide (kv.1=k))=true
 ·rw [M8 e,M8 e];exact r.repl k ry
 ·rw [M9 e,M9 e];exact Paired.snoc r ⟨rfl,ry⟩
theorem KV.drop {kvs:List (κ×V)} {vs:List (κ×Value)} (r:KV kvs vs) (k:κ):KV (jc kvs k) (without vs k):=by
 unfold KV at r ⊢
 unfold jc without
 induction r with
 | nil=>exact .nil
 | @cons p q ps qs h t ih =>
  obtain ⟨h1,h2⟩:=h
  rw [OH,OH];by_cases e:p.1=k
  ·have a : ¬ decide (p.1≠k)=true:=by simp [e]
   have b : ¬ decide (q.1≠k)=true:=by simp [h1.symm.trans e]
   rw [M9 a,M9 b];exact ih
  ·have e' : ¬ q.1=k:=λz=>e (h1.trans z)
   have a:decide (p.1≠k)=true:=by simp [e]
   have b:decide (q.1≠k)=true:=by simp [e']
   rw [M8 a,M8 b];exact .cons ⟨h1,h2⟩ ih
theorem KV.length {kvs:List (κ×V)} {vs:List (κ×Value)} (r:KV kvs vs):kvs.length=vs.length:=Paired.length r
theorem yv (kvs:List (κ×V)) (k:κ):(jc kvs k).length<=kvs.length:=Pz _ _
end
theorem jP {P:Program} {w:World} {k:aU} {u:Value} (r:RelV (kV k) u):(fF P w).is k u=true:=by
 cases k with
 | inl i=>obtain ⟨t,e⟩:=(show ∃ t,u=Value.int i t from r);subst e;exact B6 P w i t
 | inr x=>obtain ⟨t,e⟩:=(show ∃ t,u=Value.str x t from r);subst e;exact B7 P w x t
theorem EC {P:Program} {w:World} {y:V} {k:aU} {u:Value} (e:lO y=some k) (r:RelV y u):(ij P w).is k u=true:=by
 cases y with
 | int i=>cases e;obtain ⟨t,e⟩:=(show ∃ t,u=Value.int i t from r);subst e;exact B3 P w i t
 | str x=>cases e;obtain ⟨t,e⟩:=(show ∃ t,u=Value.str x t from r);subst e;exact B4 P w x t
 | bl b=>cases e;cases (show u=Value.bool b from r);exact NQ rfl
 | _=>cases e
theorem yw {P:Program} {w:World}:∀ {ys:List V} {ks:List aU} {us:List Value},ys.map lO=ks.map some->Vals ys us->ItemsAre (ij P w) ks us
 | [],[],_,_,r=>by cases r;exact .nil
 | [],_::_,_,e,_=>by simp at e
 | _::_,[],_,e,_=>by simp at e
 | y::ys,k::ks,_,e,r=>by
  rw [NG,NG] at e;injection e with e1 e2
  cases r with
  | cons h t=>exact .cons (EC e1 h) (yw e2 t)
def KTup (H:Hp) (b:Addr) (k:List aU):Prop:=∃ ys,H b=some (.tup ys)/\ys.map lO=k.map some
theorem KTup.of {H:Hp} {b:Addr} {k:List aU} (e:H b=some (.tup (k.map kV))):KTup H b k:=⟨_,e,by rw [Pr];exact OD λx _=>B8 x⟩
def DictE {P:Program} {w:World} {K:Type} [DecidableEq K] (h:Heap) (kn:PySem.HeapKind P w K) (d:Addr) (xs:List (K×Addr×Value)) (n:Nat):Prop :=
 ∃ o es,h.get? d=some o/\o.ExactDict/\o.data = .dict es n/\es.toList=xs.map (entryOfKey kn)/\(∀ x∈xs,kn.is h x.1 x.2.1)/\(xs.map (·.1)).Nodup
theorem DictE.of {P:Program} {w:World} {K:Type} [DecidableEq K] {h:Heap} {kn:PySem.HeapKind P w K} {d:Addr} {xs:List (K×Addr×Value)} {n:Nat} (e:DictE h kn d xs n):h.DictOfH kn d xs:=e.imp λ_ ⟨es,r⟩=>⟨es,n,r⟩
theorem tj {P:Program} {w:World} {K:Type} [DecidableEq K] {kn:PySem.HeapKind P w K} {d b:Addr} {k:K} {xs:List (K×Addr×Value)} {A:Around} {E:Value->Shared->Prop} {s:Shared} {v:Value} {Q:Unit->Shared->Prop}
  (hu:kn.room A.in1) (hk:kn.is s.heap k b) (hm:DictE s.heap kn d xs xs.length) (hz:xs.length<=sizeLine)
  (q:∀ g,DictE g kn d (storedH xs k b v) (storedH xs k b v).length->Heap.SameBut d s.heap g->Q () { s with heap:=g,toks:=s.toks+kn.draws k }) :
  wpAny (model P w) A (setItem (.ref d) (.ref b) v) Q E s:=by
 have ty:=hm.of.typeIs
 obtain ⟨o,es,e1,e2,e3,e4,e5,e6⟩:=hm
 unfold setItem
 try with_reducible refine Og ?_
 refine M4 (RD ty (by decide) (M4 (Qp (name:=Str.ofString "__setitem__") ty RF (Os RF ty entry_dict_setitem ?_ (args_dict_setitem _ _ _)))))
 show wpAny _ _ (Builtin.Dict.notOrdered "__setitem__" _ >>= _) _ _ s
 refine M4 (PB ty (show wpAny _ _ (dictSet d (.ref b) v >>= _) _ _ s from M4 ?_))
 have fin:∀ g,DictE g kn d (storedH xs k b v) (storedH xs k b v).length->Heap.SameBut d s.heap g->wpAny (model P w) A.in1 (pure Unit.unit) (λ_ s' => Q () s') (λ_ _=>False) { s with heap:=g,toks:=s.toks+kn.draws k }:=λg a c=>Nd (q g a c)
 unfold dictSet
 try with_reducible refine Og ?_
 refine M4 (kn.pyHash hu hk ?_)
 unfold dictSetHashed
 try with_reducible refine Og ?_
 refine M4 (wpAny_dictFind_heap (s:={ s with toks:=s.toks+kn.draws k }) hu hk e1 e3 e4 e5 e6 (λno=>?_) λj p hj=>?_)
 ·have st:=storedH_new (a:=b) (v:=v) (atKey_none_of_get no)
  refine M4 (Rq (wpAny_updateDictKeys (hz:=by have z:=size_of_entries e4;lia) (s:={ s with toks:=s.toks+kn.draws k }) e1 e3 (Nd ⟨.none,rfl,Nd (q _ ?_ (OP ..))⟩)))
  have ln:(xs++[(k,b,v)]).length=xs.length+1:=by simp
  rw [st,ln];refine ⟨_,_,O0 _ e1 (Obj.isFreed_of_dict (Obj.data_mapDictKeys e3 _)),e2.mapDictKeys _,Obj.data_mapDictKeys e3 _,?_,λx hx=>?_,?_⟩
  ·simp [e4,entryOfKey]
  ·rcases NV.mp hx with hx | hx
   ·exact kn.keeps (e5 x hx) e1 e3 (OP ..)
   ·have z:x=(k,b,v):=by simpa using hx
    rw [z];exact kn.keeps hk e1 e3 (OP ..)
  ·rw [N9,Pt]
   exact ⟨e6,by simp,λx hx y hy z=>not_mem_keys_of_get no (by
    have e:y=k:=by simpa using hy
    rw [<- e,<- z];exact hx)⟩
 ·have st:=storedH_old (a:=b) (v:=v) (atKey_of_get e6 hj)
  refine M4 (Rq (M4 (wpAny_updateDict (s:={ s with toks:=s.toks+kn.draws k }) e1 e3 (wpAny_point (Nd ⟨.none,rfl,Nd (q _ ?_ (OP ..))⟩)))))
  rw [st,Nc];refine ⟨_,_,O0 _ e1 (Obj.isFreed_of_dict (Obj.data_mapDict e3 _)),e2.mapDict _,Obj.data_mapDict e3 _,?_,λx hx=>?_,?_⟩
  ·have z:=modify_map_putAt (entryOfKey kn) (λe:DictEntry=>{ e with val:=v }) k v (λ_ _=>rfl) e6 hj
   rw [<- e4] at z;obtain ⟨l⟩:=es
   simpa using z
  ·obtain ⟨y,hy,rfl⟩:=O7.mp hx
   unfold putAt
   split<;>exact kn.keeps (e5 y hy) e1 e3 (OP ..)
  ·rw [keys_map_putAt];exact e6
def yx (xc:Option (List Addr)) (old:Bool) (b:Addr):Option (List Addr):=xc.map λas=>if old then as else as++[b]
theorem ED {xs:List (List aU×Addr×Value)} {k:List aU} {b:Addr} {u:Value} {xc:Option (List Addr)} (h:∀ as,xc=some as->xs.map (·.2.1)=as):∀ as,yx xc (atKey xs k).isSome b=some as->(storedH xs k b u).map (·.2.1)=as:=by
 intro as e
 obtain ⟨bs,e1,e2⟩:=Nw.mp e
 subst e2;unfold storedH
 by_cases q:(atKey xs k).isSome=true
 ·rw [M8 q,M8 q,Pr,<- h bs e1]
  exact OD λx _=>by show (putAt k u x).2.1=x.2.1;unfold putAt;split<;>rfl
 ·rw [M9 q,M9 q,N9,h bs e1];rfl
abbrev KT (H:Hp):List (List aU×V)->List (List aU×Addr×Value)->Prop:=Paired λp q=>p.1=q.1/\(∃ ys,H q.2.1=some (.tup ys)/\ys.map lO=p.1.map some)/\RelV p.2 q.2.2
theorem KT.val {H:Hp} {kvs:List (List aU×V)} {xs:List (List aU×Addr×Value)} (r:KT H kvs xs) (k:List aU):RelO (bX kvs k) ((atKey xs k).map (·.2)):=by
 induction r with
 | nil=>exact True.intro
 | @cons p q ps qs h t ih =>
  obtain ⟨h1,_,h2⟩:=h
  by_cases e:p.1=k
  ·have e':q.1=k:=h1.symm.trans e
   have b:atKey (q::qs) k=some q.2:=by simp [atKey,NY,e']
   rw [pI e,b];exact h2
  ·have e' : ¬ q.1=k:=λz=>e (h1.trans z)
   have b:atKey (q::qs) k=atKey qs k:=by simp [atKey,NY,e']
   rw [nj e,b];exact ih
theorem KT.repl {H:Hp} {kvs:List (List aU×V)} {xs:List (List aU×Addr×Value)} (r:KT H kvs xs) (k:List aU) {y:V} {u:Value} (ry:RelV y u) :
  KT H (kvs.map λkv=>if kv.1=k then (kv.1,y) else kv) (xs.map (putAt k u)):=by
 induction r with
 | nil=>exact .nil
 | @cons p q ps qs h t ih =>
  rw [NG,NG];refine .cons ?_ ih
  obtain ⟨h1,h2,h3⟩:=h
  unfold putAt
  by_cases e:p.1=k
  ·rw [M8 e,M8 (h1.symm.trans e)];exact ⟨h1,h2,ry⟩
  ·rw [M9 e,M9 (λz=>e (h1.trans z))];exact ⟨h1,h2,h3⟩
theorem KT.put {H:Hp} {kvs:List (List aU×V)} {xs:List (List aU×Addr×Value)} (r:KT H kvs xs) (k:List aU) {b:Addr} {y:V} {u:Value} (hb:KTup H b k) (ry:RelV y u) :
  KT H (cE kvs k y) (storedH xs k b u):=by
 have e:(kvs.any λkv=>decide (kv.1=k))=(atKey xs k).isSome:=by
  rw [pJ,(r.val k).isSome_eq,O2]
 unfold cE storedH
 rw [e];by_cases q:(atKey xs k).isSome=true
 ·rw [M8 q,M8 q];exact r.repl k ry
 ·rw [M9 q,M9 q];exact Paired.snoc r ⟨rfl,hb,ry⟩
theorem KT.keeps {H H':Hp} {kvs:List (List aU×V)} {xs:List (List aU×Addr×Value)} (r:KT H kvs xs) (ht:∀ b ys,H b=some (.tup ys)->H' b=some (.tup ys)):KT H' kvs xs :=
 Paired.mapP r λ_ _ z=>⟨z.1,z.2.1.imp λ_ e=>⟨ht _ _ e.1,e.2⟩,z.2.2⟩
section
variable {P:Program} {w:World} {H:Hp} {h:Heap} {a:Addr}
theorem yy {u:HO} (ok:HOk P w H h) (e:Rd H a u):ObjOk P w H h a u:=e.ok ok
theorem jd {kvs:List (aU×V)} (ok:HOk P w H h) (e:Rd H a (.dK kvs)):kvs.length<=sizeLine/\(a == sysModules)=false/\∃ vs,KV kvs vs/\h.DictOf (fF P w) a vs :=
 show ObjOk P w H h a (.dK kvs) from yy ok e
theorem dk_of {kvs:List (aU×V)} (ok:HOk P w H h) (e:H a=some (.dK kvs)):kvs.length<=sizeLine/\(a == sysModules)=false/\∃ vs,KV kvs vs/\h.DictOf (fF P w) a vs:=jd ok (.inl e)
theorem kB {ks:List aU} (ok:HOk P w H h) (e:KTup H a ks):(tupleKind (ij P w)).is h ks a:=by
 obtain ⟨ys,e,ek⟩:=e
 obtain ⟨_,its,r,o,h1,h2,n,h3⟩:=(show ObjOk P w H h a (.tup ys) from ok a _ e)
 exact ⟨o,its.toArray,n,h1,h2,h3,by simpa using yw ek r⟩
theorem jQ {xc:Option (List Addr)} {kvs:List (List aU×V)} (ok:HOk P w H h) (e:Rd H a (.dT xc kvs)):kvs.length<=sizeLine/\(a == sysModules)=false /\
  ∃ xs,KT H kvs xs/\(∀ as,xc=some as->xs.map (·.2.1)=as)/\DictE h (tupleKind (ij P w)) a xs xs.length:=by
 obtain ⟨z,y,xs,r,o,es,ep,h1,h2,h3,h4,h5⟩:=(show ObjOk P w H h a (.dT xc kvs) from yy ok e)
 obtain ⟨h5,h6,h7⟩:=h5
 subst h6;refine ⟨z,y,xs,r,h7,o,es,h1,h2,h3,h4,λx hx=>?_,h5⟩
 have all:∀ {l:List (List aU×V)} {m:List (List aU×Addr×Value)},KT H l m->∀ x∈m,(tupleKind (ij P w)).is h x.1 x.2.1:=by
  intro l m q
  induction q with
  | nil=>intro x hx;exact nomatch hx
  | @cons p q ps qs hq t ih =>
   intro x hx
   rcases Np.mp hx with e | hx
   ·subst e
    exact kB ok (by rw [<- hq.1];exact hq.2.1)
   ·exact ih x hx
 exact all r x hx
theorem EE {xc:Option (List Addr)} {kvs:List (List aU×V)} (ok:HOk P w H h) (e:H a=some (.dT xc kvs)):kvs.length<=sizeLine/\(a == sysModules)=false /\
  ∃ xs,KT H kvs xs/\(∀ as,xc=some as->xs.map (·.2.1)=as)/\DictE h (tupleKind (ij P w)) a xs xs.length:=jQ ok (.inl e)
end
def DGet (H:Hp) (a:Addr) (y:V) (r:Option V):Prop :=
 (∃ kvs k,Rd H a (.dK kvs)/\y=kV k/\r=bX kvs k)\/∃ xc kvs k b,Rd H a (.dT xc kvs)/\y = .ref b/\KTup H b k/\r=bX kvs k
def DPut (H:Hp) (a:Addr) (y v:V) (H':Hp):Prop :=
 (∃ kvs k,H a=some (.dK kvs)/\y=kV k/\kvs.length<sizeLine/\H'=upd H a (.dK (cE kvs k v))) \/
 ∃ xc kvs k b,H a=some (.dT xc kvs)/\y = .ref b/\KTup H b k/\kvs.length<sizeLine/\H'=upd H a (.dT (yx xc (kvs.any λkv=>decide (kv.1=k)) b) (cE kvs k v))
theorem DGet.k {H:Hp} {a:Addr} {kvs:List (aU×V)} {k:aU} (e:H a=some (.dK kvs)):DGet H a (kV k) (bX kvs k):=.inl ⟨kvs,k,.inl e,rfl,rfl⟩
theorem DGet.t {H:Hp} {a b:Addr} {kvs:List (List aU×V)} {k:List aU} {xc:Option (List Addr)} (e:H a=some (.dT xc kvs)) (eb:KTup H b k):DGet H a (.ref b) (bX kvs k):=.inr ⟨xc,kvs,k,b,.inl e,rfl,eb,rfl⟩
theorem DPut.k {H:Hp} {a:Addr} {kvs:List (aU×V)} {k:aU} {v:V} (e:H a=some (.dK kvs)) (hl:kvs.length<sizeLine):DPut H a (kV k) v (upd H a (.dK (cE kvs k v))):=.inl ⟨kvs,k,e,rfl,hl,rfl⟩
theorem DPut.t {H:Hp} {a b:Addr} {kvs:List (List aU×V)} {k:List aU} {v:V} (e:H a=some (.dT none kvs)) (eb:KTup H b k) (hl:kvs.length<sizeLine) :
  DPut H a (.ref b) v (upd H a (.dT none (cE kvs k v))):=.inr ⟨none,kvs,k,b,e,rfl,eb,hl,rfl⟩
section
variable {X:Cx} {pins:List (Addr×Obj)} {σ:St} {H:Hp} {s:Shared} {a:Addr} {y v:V} {u r:Value} {o:Option V} {A:Around} {E:Value->Shared->Prop}
theorem Inv.big (I:Inv X pins σ H s):sysModules<s.heap.objs.size:=by
 have h:mainGlobals<s.heap.objs.size:=(I.mod.glob.keeps I.bk).lt
 exact PQ (by decide) h
theorem EF {Q:Value->Shared->Prop} (hu:A.units+1<cLine) (I:Inv X pins σ H s) (g:DGet H a y (some v)) (ry:RelV y u) (h:∀ w' s',Inv X pins σ H s'->RelV v w'->Q w' s') :
  wpAny (model X.prog X.w) A (getItem (.ref a) u) Q E s:=by
 rcases g with ⟨kvs,k,e,ey,l⟩ | ⟨xc,kvs,k,b,e,ey,eb,l⟩
 ·subst ey
  obtain ⟨z,hd,vs,rel,dd⟩:=jd I.hok e
  obtain ⟨w',hw,rw'⟩:=RelO.some_of (v:=v) (o:=valueAt vs k) (by rw [l];exact rel.val k)
  exact wpAny_getItem_of (jP ry) dd.mapOf hw (h w' _ (I.tok _) rw')
 ·subst ey
  cases (show u=Value.ref b from ry)
  obtain ⟨z,hd,xs,rel,_,dd⟩:=jQ I.hok e
  replace dd:=dd.of
  obtain ⟨w',hw,rw'⟩:=RelO.some_of (v:=v) (o:=(atKey xs k).map (·.2)) (by rw [l];exact rel.val k)
  obtain ⟨p,hp,hp2⟩:=Nw.mp hw
  refine wpAny_getItem_heap (OK hu) (kB I.hok eb) dd hp ?_
  rw [hp2];exact h w' _ (I.tok _) rw'
theorem tm {Q:Value->Shared->Prop} (hu:A.units+1<cLine) (I:Inv X pins σ H s) (g:DGet H a y o) (ry:RelV y u) (h:∀ s',Inv X pins σ H s'->Q (.bool o.isSome) s') :
  wpAny (model X.prog X.w) A (compareOp .In u (.ref a)) Q E s:=by
 rcases g with ⟨kvs,k,e,ey,l⟩ | ⟨xc,kvs,k,b,e,ey,eb,l⟩
 ·subst ey
  obtain ⟨z,hd,vs,rel,dd⟩:=jd I.hok e
  refine wpAny_in_of (jP ry) hd dd.mapOf ?_
  rw [<- (rel.val k).isSome_eq,<- l];exact h _ (I.tok _)
 ·subst ey
  cases (show u=Value.ref b from ry)
  obtain ⟨z,hd,xs,rel,_,dd⟩:=jQ I.hok e
  replace dd:=dd.of
  refine wpAny_in_heap (OK hu) (kB I.hok eb) hd dd ?_
  have q:=(rel.val k).isSome_eq
  rw [O2] at q;rw [<- q,<- l];exact h _ (I.tok _)
theorem EG {Q:Value->Shared->Prop} (hu:A.units+1<cLine) (I:Inv X pins σ H s) (g:DGet H a y o) (ry:RelV y u) (h:∀ s',Inv X pins σ H s'->Q (.bool (!o.isSome)) s') :
  wpAny (model X.prog X.w) A (compareOp .NotIn u (.ref a)) Q E s:=by
 rcases g with ⟨kvs,k,e,ey,l⟩ | ⟨xc,kvs,k,b,e,ey,eb,l⟩
 ·subst ey
  obtain ⟨z,hd,vs,rel,dd⟩:=jd I.hok e
  refine wpAny_notIn_of (jP ry) hd dd.mapOf ?_
  rw [<- (rel.val k).isSome_eq,<- l];exact h _ (I.tok _)
 ·subst ey
  cases (show u=Value.ref b from ry)
  obtain ⟨z,hd,xs,rel,_,dd⟩:=jQ I.hok e
  replace dd:=dd.of
  refine wpAny_notIn_heap (OK hu) (kB I.hok eb) hd dd ?_
  have q:=(rel.val k).isSome_eq
  rw [O2] at q;rw [<- q,<- l];exact h _ (I.tok _)
theorem pK {h':Heap} {t':Nat} {ob:HO} (I:Inv X pins σ H s) (mu:mV (H a)) (hs:Heap.SameBut a s.heap h') (he:∃ q,h'.get? a=some q) (new:ObjOk X.prog X.w (upd H a ob) h' a ob) :
  Inv X pins σ (upd H a ob) { s with heap:=h',toks:=t' } :=
 I.write (x:=a) (e:=a) mu (.inl rfl) (λb q hb z=>(hs.2 b hb).trans z) he new
theorem tq {P:Program} {w:World} {H':Hp} {h':Heap} {kvs:List (aU×V)} {vs:List (aU×Value)} (z:kvs.length<=sizeLine) (hd:(a == sysModules)=false) (rel:KV kvs vs) (dd:h'.DictOf (fF P w) a vs) :
  ObjOk P w H' h' a (.dK kvs):=⟨z,hd,vs,rel,dd⟩
theorem EH {H':Hp} {Q:Unit->Shared->Prop} (hu:A.units+1<cLine) (I:Inv X pins σ H s) (g:DPut H a y v H') (ry:RelV y u) (rv:RelV v r) (h:∀ s',Inv X pins σ H' s'->Q () s') :
  wpAny (model X.prog X.w) A (setItem (.ref a) u r) Q E s:=by
 rcases g with ⟨kvs,k,e,ey,l,eH⟩ | ⟨xc,kvs,k,b,e,ey,eb,l,eH⟩
 ·subst ey eH
  obtain ⟨z,hd,vs,rel,dd⟩:=dk_of I.hok e
  have hz:vs.length<=sizeLine:=by rw [<- rel.length];exact z
  have hl:(cE kvs k v).length<=sizeLine:=by have:=yu kvs k v;lia
  refine wpAny_setItem_pairs (hsz:=hz) (jP ry) dd λh' dd' hs=>h _ ?_
  have he:∃ q,h'.get? a=some q:=let ⟨q,_,_,hq,_⟩:=dd';⟨q,hq⟩
  exact pK I (by rw [e];exact True.intro) hs he (tq hl hd (rel.put k rv) dd')
 ·subst ey eH
  cases (show u=Value.ref b from ry)
  obtain ⟨z,hd,xs,rel,ha,dd⟩:=EE I.hok e
  have hz:xs.length<=sizeLine:=by rw [<- Paired.length rel];exact z
  have hl:(cE kvs k v).length<=sizeLine:=by have:=yu kvs k v;lia
  have eo:(kvs.any λkv=>decide (kv.1=k))=(atKey xs k).isSome:=by rw [pJ,(rel.val k).isSome_eq,O2]
  refine tj (OK hu) (kB I.hok eb) dd hz λh' dd' hs=>h _ ?_
  obtain ⟨q,es,hq,h2,h3,h4,_,h5⟩:=dd'
  refine pK I (by rw [e];exact True.intro) hs ⟨q,hq⟩ ⟨hl,hd,_,(rel.put k eb rv).keeps λc ys ec=>?_,q,es,_,hq,h2,h3,h4,h5,rfl,by rw [eo];exact ED ha⟩
  rw [bG (B9 ec e (λz=>nomatch z))];exact ec
end
section
variable {X:Cx} {pins:List (Addr×Obj)} {σ:St} {H:Hp} {s:Shared} {a:Addr} {kvs:List (aU×V)} {k:aU} {u:Value} {A:Around} {E:Value->Shared->Prop}
theorem EI {v:V} {more:List Value} {Q:Value->Shared->Prop} (I:Inv X pins σ H s) (e:H a=some (.dK kvs)) (ry:RelV (kV k) u) (l:bX kvs k=some v) (hm:more=[]\/∃ x,more=[x])
  (h:∀ w' s',Inv X pins σ (upd H a (.dK (jc kvs k))) s'->RelV v w'->Q w' s'):wpAny (model X.prog X.w) A (call (.builtin "dict.pop") (.ref a::u::more)) Q E s:=by
 obtain ⟨z,hd,vs,rel,dd⟩:=dk_of I.hok e
 obtain ⟨w',hw,rw'⟩:=RelO.some_of (v:=v) (o:=valueAt vs k) (by rw [<- l];exact rel.val k)
 have hp:(keyPart u).isSome=true:=by
  cases k with
  | inl i=>obtain ⟨t,q⟩:=(show ∃ t,u=Value.int i t from ry);subst q;rfl
  | inr x=>obtain ⟨t,q⟩:=(show ∃ t,u=Value.str x t from ry);subst q;rfl
 have ha:argsOk "dict.pop" ⟨.ref a::u::more,[]⟩:=by
  rcases hm with q | ⟨x,q⟩
  ·subst q;exact PySem.F.args_dict_pop_2 _ _
  ·subst q;exact PySem.F.args_dict_pop_3 _ _ _
 refine Pw QI dd.typeIs PySem.F.entry_dict_pop ha (meets_dict_pop_there (fF X.prog X.w) a (jP ry) more hm hp)
  ⟨vs,w',dd,by rw [<- rel.length];exact z,hw,λh' dd' hs=>h w' _ ?_ rw'⟩
 have he:∃ q,h'.get? a=some q:=let ⟨q,_,_,hq,_⟩:=dd';⟨q,hq⟩
 exact pK I (by rw [e];exact True.intro) hs he (tq (M6 (yv kvs k) z) hd (rel.drop k) dd')
theorem EJ {Q:Value->Shared->Prop} (I:Inv X pins σ H s) (e:Rd H a (.dK kvs)) (h:∀ t s',Inv X pins σ H s'->Q (.int kvs.length t) s'):wpAny (model X.prog X.w) A (call (.builtin "len") [.ref a]) Q E s:=by
 obtain ⟨z,hd,vs,rel,dd⟩:=jd I.hok e
 refine call_len_dict hd dd (by rw [<- rel.length];rw [sizeLine_eq] at z;lia) ?_
 rw [<- rel.length];exact h _ _ (I.tok _)
end
def nk (i:Expr):Prop:=∀ ov iv,subscripted i false ov iv=operate [ov,iv] (getItem ov iv)
theorem EK {prog:Program} {w:World} {A:Around} {E:Value->Shared->Prop} {s:Shared} {env:Env} {value slice:Expr} {pos:Pos} {T id:String} {Q:Value->Shared->Prop}
  (hl:typeLookup (.type T) "__getitem__" = pure (some (.builtin id))) (hs:nk slice)
  (h:wpAny (model prog w) A (eval value env) (λo s₁=>wpAny (model prog w) A (eval slice env) (λi s₂=>s₂.TypeIs o T/\wpAny (model prog w) A (getItem o i) Q E s₂) E s₁) E s) :
  wpAny (model prog w) A (eval (.Subscript value slice pos) env) Q E s:=by
 refine Subscript_ (NP h (λo s₁ h₁=>NP h₁ (λi s₂ h₂=>?_) λ_ _ x=>x) λ_ _ x=>x)
 obtain ⟨hT,h₂⟩:=h₂
 unfold subscriptTail
 refine M4 ?_
 rw [getitemInPython_of_ne hT.not_modules];refine M4 (QH hT hl ?_)
 have fin:wpAny (model prog w) A (subscripted slice false o i) (λr s₃=>wpAny (model prog w) A (letTemporaryGo value o r >>= λ_=>pure r) Q E s₃) E s₂:=by
  rw [hs o i];exact wpAny_operating (NP h₂ (λr s₃ h₃=>M4 (wpAny_letTemporaryGo (Nd h₃))) λ_ _ x=>x)
 first
  | exact Nd (M4 fin)
  | exact M4 (Nd (M4 fin))
  | exact M4 fin
theorem EL {X:Cx} {pins:List (Addr×Obj)} {σ:St} {H:Hp} {s:Shared} {a:Addr} {y:V} {o:Option V} (I:Inv X pins σ H s) (g:DGet H a y o):s.TypeIs (.ref a) "dict" := by
 rcases g with ⟨kvs,k,e,_,_⟩ | ⟨xc,kvs,k,b,e,_,_,_⟩
 ·obtain ⟨_,_,vs,_,dd⟩:=jd I.hok e
  exact dd.typeIs
 ·obtain ⟨_,_,xs,_,_,dd⟩:=jQ I.hok e
  replace dd:=dd.of
  exact dd.typeIs
def EM (td ty:TE):TE:=λσ H Q=>td σ H λx H1=>ty σ H1 λy H2=>∃ a v,x = .ref a/\DGet H2 a y (some v)/\Q v H2
def EO (td ty tv:TE):TS:=λD σ H=>tv σ H λv H1=>td σ H1 λx H2=>ty σ H2 λy H3=>∃ a H4,x = .ref a/\DPut H3 a y v H4/\D.nx σ H4
section
variable {X:Cx} {o i e value:Expr} {pos pos' tpos:Pos} {td ty tv:TE}
theorem ES (hu:X.A.units+1<cLine) (ho:PE X o td) (hi:PE X i ty) (hs:nk i):PE X (.Subscript o i pos) (EM td ty):=by
 intro pins s σ H Q I h
 refine EK PySem.F.slot_dict_getitem.lookup hs (thn (ho pins s σ H _ I h) λu s1 ⟨x,H1,I1,rx,q1⟩=>thn (hi pins s1 σ H1 _ I1 q1) λiv s2 Zz=>?_);obtain ⟨y,H2,I2,ry,a,v,ex,g,q2⟩:=Zz
 subst ex;obtain rfl:u=Value.ref a:=rx
 exact ⟨EL I2 g,EF hu I2 g ry λw' s3 I3 rw' => ⟨v,H2,I3,rw',q2⟩⟩
theorem ET (hu:X.A.units+1<cLine) (ho:PE X o td) (hi:PE X i ty) (hv:PE X value tv) (hs:swapsWith value (some (.Subscript o i pos')) pos.line X.env=pure false) :
  PS X (.Assign [.Subscript o i pos'] value pos) (EO td ty tv):=by
 intro pins s σ H D I h
 refine wpAny_Assign_Subscript (thn (hv pins s σ H _ I h) λr s1 ⟨v,H1,I1,rv,q1⟩=>thn (ho pins s1 σ H1 _ I1 q1) λu s2 ⟨x,H2,I2,rx,q2⟩=>thn (hi pins s2 σ H2 _ I2 q2) λiv s3 Zz=>?_) hs;obtain ⟨y,H3,I3,ry,a,H4,ex,g,q3⟩:=Zz
 subst ex;obtain rfl:u=Value.ref a:=rx
 exact EH hu I3 g ry rv λs4 I4=>⟨σ,H4,I4,q3⟩
end
theorem EU {P:Program} {w:World} {H:Hp} (h:Heap) (hb:sysModules<h.objs.size):ObjOk P w H (h.push { cls:=.type "dict",data:=.dict #[] }) h.objs.size (.dK []) :=
 ⟨NB _,beq_eq_false_iff_ne.mpr (Ne.symm (NH hb)),[],.nil,Heap.DictOf.new h⟩
theorem EV {P:Program} {w:World} {H:Hp} {xc:Option (List Addr)} (hx:xc=none\/xc=some []) (h:Heap) (hb:sysModules<h.objs.size):ObjOk P w H (h.push { cls:=.type "dict",data:=.dict #[] }) h.objs.size (.dT xc []) :=
 ⟨NB _,beq_eq_false_iff_ne.mpr (Ne.symm (NH hb)),[],.nil,_,#[],0,Nn _ rfl,⟨rfl,rfl,rfl⟩,rfl,rfl,O4,rfl,λas e=>by
  rcases hx with rfl | rfl
  ·cases e
  ·injection e⟩
def EW:TE:=λ_ H Q=>∀ p,H p=none->Q (.ref p) (upd H p (.dK []))
def EX:TE:=λ_ H Q=>∀ p,H p=none->Q (.ref p) (upd H p (.dT none []))
section
variable {X:Cx} {pos:Pos}
theorem EY:PE X (.Dict [] [] pos) EW:=λpins s σ H Q I h =>
 wpAny_Dict_empty ⟨.ref s.heap.objs.size,_,I.laid (a:=s.heap.objs.size) (o:=.dK []) (t' := s.toks) (λ_ _ q=>M7 _ q) (MZ _) (EU s.heap I.big),rfl,h _ (I.hok.fresh (MZ _))⟩
theorem EZ:PE X (.Dict [] [] pos) EX:=λpins s σ H Q I h =>
 wpAny_Dict_empty ⟨.ref s.heap.objs.size,_,I.laid (a:=s.heap.objs.size) (o:=.dT none []) (t' := s.toks) (λ_ _ q=>M7 _ q) (MZ _) (EV (.inl rfl) s.heap I.big),rfl,h _ (I.hok.fresh (MZ _))⟩
end
structure M1 (X:Cx) (o:Expr) (m:Str) (apos:Pos) (e:Expr) (cpos:Pos):Prop where
 base:attributeBase o m X.env (eval o X.env)=eval o X.env
 few:((backTo cpos (starEach [e] X.env)).all (λx=>!x.1) && (backToKw cpos (keywordEach [] X.env)).all (λx=>x.1.isSome)
  && decide (([e]:List Expr).length+([]:List Keyword).length+(if ([]:List Keyword).isEmpty then 0 else 1)<30))=true
 line:(apos.endLine == cpos.line)=true
 trees:backTo cpos (starEach [e] X.env)=[(false,eval e X.env)]
structure M2 (X:Cx) (o:Expr) (m:Str) (apos:Pos) (e f:Expr) (cpos:Pos):Prop where
 base:attributeBase o m X.env (eval o X.env)=eval o X.env
 few:((backTo cpos (starEach [e,f] X.env)).all (λx=>!x.1) && (backToKw cpos (keywordEach [] X.env)).all (λx=>x.1.isSome)
  && decide (([e,f]:List Expr).length+([]:List Keyword).length+(if ([]:List Keyword).isEmpty then 0 else 1)<30))=true
 line:(apos.endLine == cpos.line)=true
 trees:backTo cpos (starEach [e,f] X.env)=[(false,eval e X.env),(false,eval f X.env)]
def nq (H:Hp) (a:Addr):Prop:=(∃ kvs,Rd H a (.dK kvs))\/∃ xc kvs,Rd H a (.dT xc kvs)
theorem tu {X:Cx} {pins:List (Addr×Obj)} {σ:St} {H:Hp} {s:Shared} {a:Addr} (I:Inv X pins σ H s) (d:nq H a) :
  s.TypeIs (.ref a) "dict" /\ (∀ b,Value.ref a = .ref b->∃ ob,s.heap.get? b=some ob/\ob.dict=none)/\(a == sysModules)=false:=by
 rcases d with ⟨kvs,e⟩ | ⟨xc,kvs,e⟩
 ·obtain ⟨_,hd,vs,_,dd⟩:=jd I.hok e
  refine ⟨dd.typeIs,λb q=>?_,hd⟩
  cases q
  obtain ⟨ob,_,_,h1,h2,_⟩:=dd
  exact ⟨ob,h1,h2.2.1⟩
 ·obtain ⟨_,hd,xs,_,_,dd⟩:=jQ I.hok e
  replace dd:=dd.of
  refine ⟨dd.typeIs,λb q=>?_,hd⟩
  cases q
  obtain ⟨ob,_,_,h1,h2,_⟩:=dd
  exact ⟨ob,h1,h2.2.1⟩
section
variable {X:Cx} {pins:List (Addr×Obj)} {σ:St} {H:Hp} {s:Shared} {a:Addr} {y d:V} {u r:Value} {o:Option V} {A:Around} {E:Value->Shared->Prop}
theorem E1 {Q:Value->Shared->Prop} (hu:A.units+1<cLine) (I:Inv X pins σ H s) (g:DGet H a y o) (ry:RelV y u) (h:∀ w' s',Inv X pins σ H s'->RelV (o.getD .non) w'->Q w' s') :
  wpAny (model X.prog X.w) A (call (.builtin "dict.get") [.ref a,u]) Q E s:=by
 rcases g with ⟨kvs,k,e,ey,l⟩ | ⟨xc,kvs,k,b,e,ey,eb,l⟩
 ·subst ey
  obtain ⟨z,hd,vs,rel,dd⟩:=jd I.hok e
  refine Pw On dd.typeIs OW (Qh _ _) (meets_dict_get (fF X.prog X.w) a (jP ry) hd) ⟨_,dd.mapOf,h _ _ (I.tok _) ?_⟩
  rw [l];exact (rel.val k).getD rfl
 ·subst ey
  cases (show u=Value.ref b from ry)
  obtain ⟨z,hd,xs,rel,_,dd⟩:=jQ I.hok e
  replace dd:=dd.of
  refine Pw On dd.typeIs OW (Qh _ _) (meetsH_dict_get (tupleKind (ij X.prog X.w)) a b hd) ⟨OK hu,k,xs,kB I.hok eb,dd,h _ _ (I.tok _) ?_⟩
  rw [l];exact (rel.val k).getD rfl
theorem E2 {Q:Value->Shared->Prop} (hu:A.units+1<cLine) (I:Inv X pins σ H s) (g:DGet H a y o) (ry:RelV y u) (rd:RelV d r) (h:∀ w' s',Inv X pins σ H s'->RelV (o.getD d) w'->Q w' s') :
  wpAny (model X.prog X.w) A (call (.builtin "dict.get") [.ref a,u,r]) Q E s:=by
 rcases g with ⟨kvs,k,e,ey,l⟩ | ⟨xc,kvs,k,b,e,ey,eb,l⟩
 ·subst ey
  obtain ⟨z,hd,vs,rel,dd⟩:=jd I.hok e
  refine Pw On dd.typeIs OW (Qi _ _ _) (meets_dict_get_default (fF X.prog X.w) a (jP ry) hd r) ⟨_,dd.mapOf,h _ _ (I.tok _) ?_⟩
  rw [l];exact (rel.val k).getD rd
 ·subst ey
  cases (show u=Value.ref b from ry)
  obtain ⟨z,hd,xs,rel,_,dd⟩:=jQ I.hok e
  replace dd:=dd.of
  refine Pw On dd.typeIs OW (Qi _ _ _) (meetsH_dict_get_default (tupleKind (ij X.prog X.w)) a b hd r) ⟨OK hu,k,xs,kB I.hok eb,dd,h _ _ (I.tok _) ?_⟩
  rw [l];exact (rel.val k).getD rd
end
def E3 (td ty:TE):TE:=λσ H Q=>td σ H λx H1=>∃ a,x = .ref a/\nq H1 a/\ty σ H1 λy H2=>∃ o,DGet H2 a y o/\Q (o.getD .non) H2
def E4 (td ty tx:TE):TE:=λσ H Q=>td σ H λx H1=>∃ a,x = .ref a/\nq H1 a/\ty σ H1 λy H2=>tx σ H2 λz H3=>∃ o,DGet H3 a y o/\Q (o.getD z) H3
def E5 (td ty:TE):TE:=λσ H Q=>td σ H λx H1=>∃ a,x = .ref a/\nq H1 a/\ty σ H1 λy H2=>∃ kvs k v,H2 a=some (.dK kvs)/\y=kV k/\bX kvs k=some v/\Q v (upd H2 a (.dK (jc kvs k)))
section
variable {X:Cx} {o e f:Expr} {apos cpos:Pos} {td ty tx:TE}
theorem E6 (hu:X.A.units+1<cLine) (ho:PE X o td) (he:PE X e ty) (m:M1 X o "get" apos e cpos):PE X (.Call (.Attribute o "get" apos) [e] [] cpos) (E3 td ty):=by
 intro pins s σ H Q I h
 refine P9 m.base m.few m.line OQ On QJ (thn (ho pins s σ H _ I h) λu s1 Zz=>?_);obtain ⟨x,H1,I1,rx,a,ex,d,q1⟩:=Zz
 subst ex;obtain rfl:u=Value.ref a:=rx
 obtain ⟨t1,t2,_⟩:=tu I1 d
 refine ⟨t1,t2,?_⟩
 rw [m.trees];refine OF rfl (OO (OV (thn (he pins s1 σ H1 _ I1 q1) λiv s2 ⟨y,H2,I2,ry,ov,g,q2⟩=>Pq ?_)))
 exact E1 hu I2 g ry λw' s3 I3 rw' => ⟨_,H2,I3,rw',q2⟩
theorem E7 (hu:X.A.units+1<cLine) (ho:PE X o td) (he:PE X e ty) (hf:PE X f tx) (m:M2 X o "get" apos e f cpos):PE X (.Call (.Attribute o "get" apos) [e,f] [] cpos) (E4 td ty tx):=by
 intro pins s σ H Q I h
 refine P9 m.base m.few m.line OQ On QJ (thn (ho pins s σ H _ I h) λu s1 Zz=>?_);obtain ⟨x,H1,I1,rx,a,ex,d,q1⟩:=Zz
 subst ex;obtain rfl:u=Value.ref a:=rx
 obtain ⟨t1,t2,_⟩:=tu I1 d
 refine ⟨t1,t2,?_⟩
 rw [m.trees];refine OF rfl (OO (OV (thn (he pins s1 σ H1 _ I1 q1) λiv s2 ⟨y,H2,I2,ry,q2⟩ =>
  OV (thn (hf pins s2 σ H2 _ I2 q2) λfv s3 ⟨z,H3,I3,rz,ov,g,q3⟩=>Pq ?_))))
 exact E2 hu I3 g ry rz λw' s4 I4 rw' => ⟨_,H3,I4,rw',q3⟩
theorem E8 (ho:PE X o td) (he:PE X e ty) (m:M1 X o "pop" apos e cpos):PE X (.Call (.Attribute o "pop" apos) [e] [] cpos) (E5 td ty):=by
 intro pins s σ H Q I h
 refine P9 m.base m.few m.line OQ QI PySem.F.type_dict_pop (thn (ho pins s σ H _ I h) λu s1 Zz=>?_);obtain ⟨x,H1,I1,rx,a,ex,d,q1⟩:=Zz
 subst ex;obtain rfl:u=Value.ref a:=rx
 obtain ⟨t1,t2,_⟩:=tu I1 d
 refine ⟨t1,t2,?_⟩
 rw [m.trees];refine OF rfl (OO (OV (thn (he pins s1 σ H1 _ I1 q1) λiv s2 ⟨y,H2,I2,ry,kvs,k,v,ea,ey,l,q2⟩=>Pq ?_)))
 subst ey;exact EI I2 ea ry l (.inl rfl) λw' s3 I3 rw' => ⟨v,_,I3,rw',q2⟩
end
section
variable {X:Cx} {pins:List (Addr×Obj)} {σ:St} {H:Hp} {s:Shared} {a:Addr} {kvs:List (aU×V)} {A:Around} {E:Value->Shared->Prop}
end
section
variable {X:Cx} {pins:List (Addr×Obj)} {σ:St} {H:Hp} {s:Shared} {a:Addr} {y:V} {u:Value} {A:Around} {E:Value->Shared->Prop}
end
end L2
namespace Att
open PySem PySem.W PySem.Calls PyProof.Rows
theorem E9 {P:Params} {h:Heap}:∀ (ns:List Int) (vs:List Value),WellAll P h vs (ns.map WData.int)->IntsAre vs ns:=by
 intro ns
 induction ns with
 | nil =>
  intro vs w
  rw [O8] at w
  cases w
  exact .nil
 | cons n ns ih =>
  intro vs w
  rw [NG] at w
  cases w with
  | cons a b =>
   cases a
   exact .cons _ _ (ih _ b)
theorem Fb {l:OpenLaw} {n:Nat} (hn:l.most=some n) {P:Params} {h:Heap} {args:List WData} {vals:List Value}
  (hpre:l.row.toRowW.claim.pre args=true) (hwl:WellAll P h vals args) :
  ∃ a vs ns,vals=[Value.ref a]/\args=[WData.list (ns.map WData.int)]/\h.get? a=some { cls:=.type "list",data:=.seq vs.toArray }/\IntsAre vs ns/\ns.length<=n:=by
 have hsh:WShape.hasAll [] args [.list .int]=true:=(pre_splitW hpre).1
 have hc:l.pre.holds [] { args:=args }=true:=(pre_splitW hpre).2
 obtain ⟨d,r,rfl,h1,h2⟩:=hasAllW_cons hsh
 obtain rfl:=hasAllW_nil h2
 obtain ⟨xs,rfl,h3⟩:=hasW_list h1
 obtain ⟨ns,rfl⟩:=items_int h3
 have hlen:ns.length<=n:=by
  unfold OpenLaw.pre at hc
  have h4:(WTm.not (.lt (.lit (.int (n:Int))) (.len (.arg 0)))).holds [] { args:=[.list (ns.map .int)] }=true:=by
   have h4:=(holds_andW hc).1
   rw [hn] at h4;exact h4
  have h5:=condW_of h4 (w_not (w_lt w_lit (w_len_list (w_arg rfl))))
  rw [Nc] at h5;refine Qj λq=>?_
  have q':(n:Int)<((ns.length:Nat):Int):=by lia
  first
   | (rw [NQ q'] at h5;exact absurd h5 (by decide))
   | (simp at h5;lia)
 cases hwl with
 | cons w1 w2 =>
  cases w2
  cases w1 with
  | list ho hall=>exact ⟨_,_,ns,rfl,rfl,ho,E9 ns _ hall,hlen⟩
theorem Fc (l:OpenLaw) (args:List WData):l.row.toRowW.claim.post args (.bool true) args=true :=
 postW_of (r:=l.row.toRowW) (X:=(true == true))
  (show WShape.has [] (.bool true) .bool=true by first | rfl | decide | simp [WShape.has,WShape.arms,WShape.armsAll])
  (show (WTm.eq .res (.lit (.bool true))).value [] { args:=args,res:=some (.bool true),after:=args }=some (.bool (true == true)) from w_eq_bool (w_res rfl) w_lit) rfl
theorem attach_call {l:OpenLaw} {n:Nat} {q:Program} {loose:List Str} {XP:(Str->Option Value)->Heap->Prop} {YP:World->Heap->Prop} {d:DefRec}
  (hn:l.most=some n) (hdf:d.params.defaults=[])
  (call:∀ (w:World) (s₀ s₁:Shared) (mg mb:Str->Option Value) (fa:Addr) (o:Obj) (pm cd doc:Value) (a:Addr) (vs:List Value) (ns:List Int),
   Ground q loose [] XP w s₀ mg mb s₁.heap->YP w s₁.heap ->
   s₁.heap.get? fa=some o->o.data = .func (docDef d.name d.params d.body d.scope pm cd doc)->s₁.heap.CodeRec cd d.name->mg d.name=some (.ref fa) ->
   s₁.heap.get? a=some { cls:=.type "list",data:=.seq vs.toArray }->IntsAre vs ns->ns.length<=n->s₁.gens = #[] ->
   codeAny (model l.prog w) callerA (.call (.ref fa) ⟨[.ref a],[]⟩) (λr s' => r = .ok (.ret (.bool true))/\OldK s₁.heap s'.heap/\s'.os=s₁.os/\AllBare s'.gens) s₁) :
  WalkO q loose XP YP l.row.toRowW d [] (λf vs=>PySem.call f vs):=by
 intro w s₀ s₁ mg mb G Y fa o pm cd doc dV kV ho hd hcd hD hmg hg args vals as hpre hlay hrd hwl hlo
 obtain rfl:dV = .none:=Dflts.none hD hdf
 obtain rfl:kV = .none:=Dflts.noKw hD
 obtain ⟨a,vs,ns,rfl,rfl,hobj,hints,hlen⟩:=Fb hn hpre hwl
 refine enter_call (QD (call w s₀ s₁ mg mb fa o pm cd doc a vs ns G Y ho (fd_plain hd) hcd hmg hobj hints hlen hg) λr s' hq=>?_)
 obtain ⟨rfl,h2,h3,h4⟩:=hq
 exact ⟨.inl ⟨.bool true,.bool true,[],rfl,λ_=>rfl,.bool true,Fc l _,λ_=>⟨List.Pairwise.nil,λ_ hm=>(nomatch hm)⟩⟩,h2,h3,h4⟩
section
variable {prog:Program} {w:World} {A:Around} {E:Value->Shared->Prop} {s:Shared} {K:Frag}
end
end Att
namespace L2
open PySem PySem.Spec PyProof.Rows
theorem yz:∀ {vs:List Value} {ns:List Int},IntsAre vs ns->Vals (ns.map V.int) vs
 | _,_,.nil=>.nil
 | _,_,.cons n t h=>.cons ⟨t,rfl⟩ (yz h)
def kD (H:Hp):Prop:=∀ b,H b=none\/∃ o xs,H b=some (.frz o (.lst xs))
theorem Fd {P:Program} {w:World} {K:PySem.W.Frag} {mg mb:Str->Option Value} {CX:fP} {k:Nat} {fa a:Addr} {fd:FuncData} {x:Str} {sp:Sp} {s₁:Shared} {vs:List Value} {ns:List Int}
  (KX:K.In s₁.heap) (hns:s₁.heap.Ns mainGlobals mg) (hb:s₁.heap.Ns builtinsNs mb) (hbb:∀ x:Str,x ≠ "__name__" -> mb x=bootBuiltins x) (hlim:s₁.heap.NoLimit) (hg:s₁.gens = #[])
  (ha:s₁.heap.get? a=some { cls:=.type "list",data:=.seq vs.toArray }) (hi:IntsAre vs ns) (hl:ns.length<=sizeLine) (hr:Room k callerA)
  (F:∀ base:Heap,K.In base->base.Ns mainGlobals mg->FnOk P w K mg base CX k fa fd [x] sp) (hbind:∀ (s:Shared) (u:Value),BindsTo s fd ⟨[u],[]⟩ [(x,u)])
  (hsp:∀ H:Hp,kD H->SqL K H a (ns.map V.int)->sp [.ref a] H (λv _=>v = .bl true) λ_ _ _=>False)
  (hCX:∀ H e s',CX [] H s₁ (λ_ _ _=>False) e s'->False) :
  codeAny (model P w) callerA (.call (.ref fa) ⟨[.ref a],[]⟩) (λr s' => r = .ok (.ret (.bool true))/\OldK s₁.heap s'.heap/\s'.os=s₁.os/\AllBare s'.gens) s₁:=by
 have rv:=yz hi
 have lenV:=hi.length
 have core:∀ H:Hp,kD H->SqL K H a (ns.map V.int)->HOk P w H s₁.heap->(∀ b,H b≠none->b=a)->(H a≠none->K.lookup a=none) ->
   codeAny (model P w) callerA (.call (.ref fa) ⟨[.ref a],[]⟩) (λr s' => r = .ok (.ret (.bool true))/\OldK s₁.heap s'.heap/\s'.os=s₁.os/\AllBare s'.gens) s₁:=by
  intro H hO hS hok hA hK
  have base_of:∀ {b:Addr} {o:Obj},s₁.heap.get? b=some o->H b=none->(d9 s₁.heap H).get? b=some o:=λe n=>Cc e n
  have noA:∀ {b:Addr} {o:Obj} {es:Array DictEntry} {ep:Nat},s₁.heap.get? b=some o->o.data = .dict es ep->H b=none:=λ{b o es ep} e d=>by
   cases q:H b with
   | none=>rfl
   | some u =>
    have e':b=a:=hA b (by rw [q];simp)
    subst e'
    rw [ha] at e;cases e
    have d':Data.seq vs.toArray _=Data.dict es ep:=d
    cases d'
  have nsK:∀ {b:Addr} {m:Str->Option Value},s₁.heap.Ns b m->(d9 s₁.heap H).Ns b m:=λ{b m} ⟨o,es,ep,e,d,r⟩=>⟨o,es,ep,base_of e (noA e d),d,r⟩
  have hKb:K.In (d9 s₁.heap H):=λb o e=>base_of (KX b o e) (by
   cases q:H b with
   | none=>rfl
   | some u =>
    have e':b=a:=hA b (by rw [q];simp)
    subst e'
    rw [hK (by rw [q];simp)] at e;cases e)
  have hM:Mod K mg (d9 s₁.heap H):=⟨hKb,nsK hns,⟨mb,nsK hb,hbb⟩,let ⟨mc,h1,h2⟩:=hlim;⟨mc,nsK h1,h2⟩⟩
  have e0:Env0 P w K mg (d9 s₁.heap H) callerA [] s₁ H:=⟨rfl,hM,λb o e=>Cd e,Qt (Cb _ _),trivial,λb hb=>absurd (show b∈([]:List Addr) from hb) (by simp),hok,.of_eq hg⟩
  refine QD ((F _ hKb (nsK hns)).run callerA [] s₁ H ⟨[.ref a],[]⟩ [.ref a] [.ref a] _ _ hr e0 (hbind s₁ (.ref a)) (.cons rfl .nil) (hsp H hO hS)) λr s' h=>?_
  cases r with
  | error e=>exact (hCX H e s' h).elim
  | ok fl =>
   cases fl with
   | next=>exact False.elim h
   | brk=>exact False.elim h
   | cont=>exact False.elim h
   | ret u =>
    obtain ⟨v,H',os,bare,un,hok',r',q⟩:=h
    have q':v = .bl true:=q
    subst q'
    obtain rfl:u=Value.bool true:=r'
    refine ⟨rfl,OldK.of_keep λb o e=>?_,os,bare⟩
    cases q:H b with
    | none=>exact un.keep b o e q (by intro z;exact absurd (show b∈([]:List Addr) from z) (by simp)) (by simp)
    | some u =>
     rcases hO b with z | ⟨ob,xs,z⟩
     ·rw [q] at z;cases z
     ·have z2:=un.frzs b ob _ z
      obtain ⟨e1,_⟩:=hok b _ z
      obtain ⟨e2,_⟩:=hok' b _ z2
      rw [e] at e1;cases e1
      exact e2
 cases hk:K.lookup a with
 | some o =>
  have e:=KX a o hk
  rw [ha] at e
  cases e
  refine core (λ_=>none) (λ_=>.inl rfl) (.inr ⟨_,vs.toArray,_,hk,rfl,rfl,rfl,by rw [Nh,lenV];exact hl,by simpa using rv⟩) (λb u z=>by have z':(none:Option HO)=some u:=z;cases z') (λb z=>absurd rfl z) λz=>absurd rfl z
 | none =>
  refine core (λb=>if b=a then some (.frz { cls:=.type "list",data:=.seq vs.toArray } (.lst (ns.map V.int))) else none) (λb=>?_) (.inl (.inr ⟨{ cls:=.type "list",data:=.seq vs.toArray },M8 rfl⟩)) (λb u z=>?_) (λb z=>?_) λ_=>hk
  ·by_cases hb:b=a
   ·exact .inr ⟨_,_,M8 hb⟩
   ·exact .inl (M9 hb)
  ·by_cases hb:b=a
   ·have z' := (M8 hb).symm.trans z
    cases z'
    subst hb;exact ⟨ha,by rw [Nc];exact hl,vs,_,rv,ha⟩
   ·have z' := (M9 hb).symm.trans z
    cases z'
  ·by_cases hb:b=a
   ·exact hb
   ·exact absurd (M9 hb) z
theorem walk_of {l:PySem.W.OpenLaw} {n k:Nat} {q:Program} {loose:List Str} {XP:(Str->Option Value)->Heap->Prop} {YP:World->Heap->Prop} {d:DefRec} {K:Params->PySem.W.Frag} {CX:World->fP} {sp:World->Sp} {x:Str}
  (hn:l.most=some n) (hn2:n<=sizeLine) (hdf:d.params.defaults=[]) (hr:Room k callerA)
  (hY:∀ (w:World) (h:Heap),YP w h->(K w.params).In h)
  (F:∀ (w:World) (mg:Str->Option Value) (fa:Addr) (h:Heap),(K w.params).In h->h.Ns mainGlobals mg->mg d.name=some (.ref fa) ->
   ∃ fd:FuncData,(∀ (s:Shared) (u:Value),BindsTo s fd ⟨[u],[]⟩ [(x,u)]) /\
    ∀ base:Heap,(K w.params).In base->base.Ns mainGlobals mg->FnOk l.prog w (K w.params) mg base (CX w) k fa fd [x] (sp w))
  (hsp:∀ (w:World) (H:Hp) (a:Addr) (ns:List Int),ns.length<=n->kD H->SqL (K w.params) H a (ns.map V.int)->sp w [.ref a] H (λv _=>v = .bl true) λ_ _ _=>False)
  (hCX:∀ (w:World) (H:Hp) (s:Shared) (e:Value) (s':Shared),CX w [] H s (λ_ _ _=>False) e s'->False) :
  PySem.W.WalkO q loose XP YP l.row.toRowW d [] (λf vs=>PySem.call f vs):=by
 refine Att.attach_call hn hdf λw s₀ s₁ mg mb fa o pm cd doc a vs ns G Y ho hd hcd hmg hobj hints hlen hg=>?_
 have KX:=hY w _ Y
 obtain ⟨fd,hb,hF⟩:=F w mg fa _ KX G.T.g hmg
 exact Fd KX G.T.g G.T.b G.T.builtins G.T.nolimit hg hobj hints (M6 hlen hn2) hr hF hb (λH hO hS=>hsp w H a ns hlen hO hS) λH e s' => hCX w H s₁ e s'
def cI (s:Stmt) (j:Nat):Stmt:=match s with
 | .ClassDef _ _ _ body _ _ _ _ _ _ _=>body.getD j (.Pass ⟨0,0,0,0⟩)
 | _=>.Pass ⟨0,0,0,0⟩
def kE (s:Stmt):Arguments:=match s with
 | .FunctionDef _ a _ _ _ _ _ _ _ _=>a
 | _=>{ posonlyargs:=[],args:=[],vararg:=none,kwonlyargs:=[],kw_defaults:=[],kwarg:=none,defaults:=[] }
def iM (s:Stmt):List Stmt:=match s with
 | .FunctionDef _ _ b _ _ _ _ _ _ _=>b
 | _=>[]
def aP (s:Stmt):Scope:=match s with
 | .FunctionDef _ _ _ _ _ _ sc _ _ _=>sc
 | _=>{ kind:=.function,names:=[],isGenerator:=false,isCoroutine:=false }
abbrev E0:XK:=λ_ _ _=>False
structure Fun (K:PySem.W.Frag) (x qual:Str) (st:Stmt) (f:Addr) (fd:FuncData):Prop where
 ex:∃ (oc:Value) (od:Option Addr) (kV doc pm:Value) (an:Option Addr) (cdv ct:Value) (osl:Array (Option Value)),
  fd=PySem.W.fnOf x qual (kE st) (iM st) (aP st) .none kV doc pm an cdv ct/\K.lookup f=some ⟨oc,od,.func fd,osl⟩/\PySem.W.codeIn K cdv qual=true
 kp:PySem.W.keepIn K (.ref f)=true
section
variable {P:Program} {w:World} {K:PySem.W.Frag} {mg:Str->Option Value} {base:Heap}
theorem Fun.binds {x qual:Str} {st:Stmt} {f:Addr} {fd:FuncData} {ps:List Str} (F:Fun K x qual st f fd)
  (h:∀ (kV doc pm:Value) (an:Option Addr) (cdv ct:Value) (us:List Value),us.length=ps.length->bindArgs (PySem.W.fnOf x qual (kE st) (iM st) (aP st) .none kV doc pm an cdv ct) ⟨us,[]⟩=pure (ps.zip us)):Binds K fd ps []:=by
 obtain ⟨oc,od,kV,doc,pm,an,cdv,ct,osl,rfl,lk,hcd⟩:=F.ex
 exact .all (h kV doc pm an cdv ct)
theorem yA {x qual:Str} {st:Stmt} {f:Addr} {oc:Value} {od an:Option Addr} {osl:Array (Option Value)} {kV doc pm cdv ct:Value} (l:K.lookup f=some ⟨oc,od,.func (PySem.W.fnOf x qual (kE st) (iM st) (aP st) .none kV doc pm an cdv ct),osl⟩)
  (c:PySem.W.codeIn K cdv qual=true) (k:PySem.W.keepIn K (.ref f)=true):Fun K x qual st f (PySem.W.fnOf x qual (kE st) (iM st) (aP st) .none kV doc pm an cdv ct):=⟨⟨oc,od,kV,doc,pm,an,cdv,ct,osl,rfl,l,c⟩,k⟩
end
section
variable {X:Cx}
theorem pv (i:Nat) {x:Str} {pos:Pos} (hN:X.N[i]? = some x:=by rfl) (hv:mW X.env.scope x:=by first | exact Or.inl rfl | exact Or.inr (Or.inl rfl) | exact Or.inr (Or.inr rfl)) (hd:(x == ("__debug__" : Str))=false:=by decide)
  (hcd:(x == ("__classdict__" : Str))=false:=by decide):PE X (.Name x pos) (mX i):=Ce hN hv hd hcd
theorem Fe:CallR X (.builtin "len") (λxs H Q=>∃ a kvs,xs=[V.ref a]/\H a=some (.dK kvs)/\Q (.int kvs.length) H):=by
 intro pins s σ H xs us Q I r h
 obtain ⟨a,kvs,rfl,ha,q⟩:=h
 obtain ⟨u,rfl,ru⟩:=i9 r
 cases ru
 exact EJ I (.inl ha) λt s' I' => ⟨.int kvs.length,H,I',⟨t,rfl⟩,q⟩
end
section
variable {κ:Type} [DecidableEq κ]
end
end L2
set_option maxHeartbeats 4000000
namespace L2
open PySem PySem.Spec PyProof.Rows
section
variable {X:Cx} {pins:List (Addr×Obj)} {σ:St} {H:Hp} {s:Shared} {h':Heap}
theorem Inv.turnedL {t':Nat} {fp:List Addr} (I:Inv X pins σ H s) (k:∀ b o,b∉fp->s.heap.get? b=some o->h'.get? b=some o) (hf:∀ b∈fp,dF X pins H b) :
  Inv X pins σ H { s with heap:=h',toks:=t' }:=by
 have nit:∀ b u,H b=some u->b∉fp:=λb u e z=>by
  have q:=(hf b z).1
  rw [q] at e
  cases e
 refine I.step (g' := s.gens) (d' := s.drawn) (ch:=fp) (λb hb=>?_) (λb o _ _ hc e _=>k b o hc e) (λb o _ _ hc e _=>⟨o.slots,k b o hc e⟩) (λ_ _ _ _ n=>n)
  (λb o hc e=>⟨o,k b o hc e⟩) (λ_ _ e=>e) (λ_ _ _ e=>e) (λb ps e=>⟨#[],by rw [e];simp⟩) (λm hm=>?_) (λb u e=>?_) I.bare
 ·obtain ⟨_,f1,_,f3,f4,f5⟩:=hf b hb
  exact ⟨f3,f1,f4,f5⟩
 ·obtain ⟨o,es,ep,ho,r⟩:=hm
  exact ⟨o,es,ep,k _ o (λz=>(hf _ z).2.1 rfl) ho,r⟩
 ·refine (I.hok b u e).stay (λc v hc q=>k c v ?_ q) (λ_ q=>q) λ_ _ q=>q
  rcases hc with z | z
  ·rw [z];exact nit b u e
  ·exact nit c _ z
theorem Inv.adopt {T:Addr} {ob:HO} (I:Inv X pins σ H s) (hn:H T=none) (hT:X.s₀.heap.objs.size<=T) (hL:T≠X.env.locals) (hc:∀ x c,X.env.cells.lookup x=some c->c≠T)
  (hp:∀ p∈X.pn++pins,p.1≠T) (new:ObjOk X.prog X.w (upd H T ob) s.heap T ob):Inv X pins σ (upd H T ob) s:=by
 have hne:∀ b u,H b=some u->b≠T:=λb u e=>fG e hn
 refine I.step (h' := s.heap) (g' := s.gens) (d' := s.drawn) (t' := s.toks) (ch:=[T]) (λb hb=>?_) (λb o _ _ _ e _=>e) (λb o _ _ _ e _=>⟨o.slots,e⟩) (λb o hb e n=>?_) (λb o _ e=>⟨o,e⟩)
  (λb xs e=>by rw [bG (hne b _ e)];exact e) (λb o u e=>by rw [bG (hne b _ e)];exact e) (λb ps e=>⟨#[],by rw [bG (hne b _ e),e];simp⟩) (λm hm=>hm) (λb u e=>?_) I.bare
 ·have e:b=T:=by simpa using hb
  subst e;exact ⟨.inr hT,hL,hc,hp⟩
 ·rw [bG (λz=>hb (by simp [z]))];exact n
 ·by_cases hb:b=T
  ·subst hb;rw [dM] at e;cases e;exact new
  ·rw [bG hb] at e
   exact (I.hok b u e).stay (λc v _ q=>q) (λc q=>by rw [bG (hne c _ q)];exact q) λc xs q=>by rw [bG (hne c _ q)];exact q
end
def tw (K:PySem.W.Frag) (a:Addr):It :=
 ⟨λi H=>∃ xs x,SqL K H a xs/\xs[i]? = some x,λi H x H' => ∃ (T:Addr) (y:V),x = .ref T/\H T=none/\H'=upd H T (.tup [.int i,y])/\∀ xs,SqL K H a xs->xs[i]? = some y,λi H=>∃ xs,SqL K H a xs/\xs.length<=i⟩
theorem Ff {P:Program} {w:World} {K:PySem.W.Frag} {es:List Expr} {k:Nat} {tp:Pos} (a it e:Addr) (hei:e≠it) :
  fO P w K (.Tuple es k tp) (tw K a) [e,it] e (λi h=>(∃ old,IsEnum h e it i old)/\h.IsListIter it a i) where
 mem:=by simp
 obj:=λi h st b hb=>by
  obtain ⟨⟨old,he⟩,o,ho,hc,hd⟩:=st
  have hb':b=e\/b=it:=by simpa using hb
  rcases hb' with rfl | rfl
  ·exact ⟨_,he,λv z=>by
    have z':Data.fields _=Data.cell v:=z
    cases z'⟩
  ·exact ⟨o,ho,λv z=>by rw [hd] at z;cases z⟩
 keep:=λi h h' st k=>by
  obtain ⟨⟨old,he⟩,hit⟩:=st
  exact ⟨⟨old,k e (by simp) _ he⟩,hit.at λo q=>k it (by simp) o q⟩
 item:=by
  intro X hP hw hK hc i pins s σ H E I hf st hg
  subst hP hw hK
  obtain ⟨xs,x,hq,hx⟩:=hg
  obtain ⟨its,rv,p,hz⟩:=I.list hq
  obtain ⟨u,hu,ru⟩:=rv.get hx
  obtain ⟨⟨old,he⟩,hit⟩:=st
  refine wpAny_pyNext_enum_item he hit p.isList (x:=u) (by simpa using hu) hei λh1 ho hit1 hT hsz hk=>?_
  refine ⟨.ref s.heap.objs.size,rfl,wpAny_letOwnedTupleGo_enum ho λh2 he2 hs2=>?_⟩
  replace hs2:Heap.SameBut e h1 h2:=hs2
  have helt:e<s.heap.objs.size:=Ng he
  have I1:Inv X pins σ H { s with heap:=h2,toks:=s.toks+1 }:=I.turnedL (fp:=[e,it]) (λb o hb q=>by
   have n1:b≠e:=λz=>hb (by simp [z])
   have n2:b≠it:=λz=>hb (by simp [z])
   exact (hs2.2 b n1).trans (hk b o n1 n2 q)) hf
  have hT2:h2.get? s.heap.objs.size=some { cls:=.type "tuple",data:=.seq #[.int i s.toks,u] }:=(hs2.2 _ (Nat.ne_of_gt helt)).trans hT
  have fp:=I.fpOk (H' := H) (MZ s.heap.objs.size) (I.hok.fresh (MZ _))
  obtain ⟨f0,f1,f2,f3,f4,f5⟩:=fp
  have I2:Inv X pins σ (upd H s.heap.objs.size (.tup [.int i,x])) { s with heap:=h2,toks:=s.toks+1 } :=
   I1.adopt (T:=s.heap.objs.size) f0 (I.sz) f1 f4 f5 ⟨by show 2<=sizeLine;decide,[.int i s.toks,u],.cons ⟨_,rfl⟩ (.cons ru .nil),⟨_,hT2,rfl,_,rfl⟩⟩
  refine ⟨.ref s.heap.objs.size,_,I2,rfl,⟨s.heap.objs.size,x,rfl,f0,rfl,λys hy=>by rw [I.list_inj hy hq];exact hx⟩,⟨⟨u,by simpa using he2⟩,hit1.extBut hs2.extBut (Ne.symm hei)⟩,λb hb=>?_⟩
  obtain ⟨g0,_⟩:=hf b hb
  obtain ⟨o,hob,_⟩:∃ o,s.heap.get? b=some o/\True:=by
   have hb':b=e\/b=it:=by simpa using hb
   rcases hb' with rfl | rfl
   ·exact ⟨_,he,trivial⟩
   ·obtain ⟨o,q,_⟩:=hit
    exact ⟨o,q,trivial⟩
  rw [bG (NH (Ng hob))];exact g0
 done:=by
  intro X hP hw hK hc i pins s σ H E I hf st hg
  subst hP hw hK
  obtain ⟨xs,hq,hx⟩:=hg
  obtain ⟨its,rv,p,hz⟩:=I.list hq
  obtain ⟨⟨old,he⟩,hit⟩:=st
  have hl:=rv.length
  exact wpAny_pyNext_enum_end (I.ok.hd hc) he hit p.isList (by simp;omega) λh' eb=>⟨rfl,I.turnedL (fp:=[e,it]) (t' := s.toks) (λb o hb q=>eb b o (λz=>hb (by simp [z])) q) hf⟩
 self:=λ_ _ _ _ _ st h=>by
  obtain ⟨⟨old,he⟩,_⟩:=st
  exact RG he h
section
variable {X:Cx}
def iEnum (K:PySem.W.Frag) (ta:TA):TI:=λσ H R=>ta σ H λvs H1=>∃ a,vs=[.ref a]/\(∃ xs,SqL K H1 a xs)/\R (tw K a) H1
theorem Fg {l:Expr} {ta:TA} {p pos tp:Pos} {es:List Expr} {k:Nat} (hg:Gl X "enumerate") (hm:X.mg "enumerate" = none) (ha:PA X [l] ta) (hs:starEach [l] X.env=[(false,eval l X.env)]:=by rfl) :
  PI X (.Tuple es k tp) (.Call (.Name "enumerate" p) [l] [] pos) (iEnum X.K ta):=by
 intro pins s σ H R I h
 refine Call_ (lQ I hg hm boot_enumerate (OE (thn (ha pos pins s σ H _ I h) λus s1 Zz=>?_) hs rfl));obtain ⟨vs,H1,I1,r1,q1⟩:=Zz
 obtain ⟨a,e,⟨xs,hq⟩,q⟩:=q1
 subst e
 cases r1 with
 | cons r rr =>
  cases rr
  cases r
  obtain ⟨its,rv,pl,hz⟩:=I1.list hq
  refine call_enumerate_list pl.isList λh' he hit hsz hk=>RG he ?_
  refine ⟨s1.heap.objs.size+1,[s1.heap.objs.size+1,s1.heap.objs.size],_,_,H1,rfl,I1.kept (t' := s1.toks) λb o e=>hk b o e,Ff a _ _ (Nat.succ_ne_self _),⟨⟨_,he⟩,hit⟩,λb hb=>?_,q⟩
  have hb':b=s1.heap.objs.size+1\/b=s1.heap.objs.size:=by simpa using hb
  rcases hb' with rfl | rfl
  ·exact I1.fpOk (P5 _) (I1.hok.fresh (P5 _))
  ·exact I1.fpOk (MZ _) (I1.hok.fresh (MZ _))
end
def tB (x:Str):It:=⟨λi _=>i<x.cps.size,λi H v H' => H'=H/\∃ c,x.cps[i]? = some c/\v = .str ⟨#[c]⟩,λi _=>x.cps.size<=i⟩
theorem Fi {P:Program} {w:World} {A:Around} (hh:A.handled=none) (it:Addr) (x:Str) (t:Tok) :
  Walks P w A it [it] [it] x.cps.size (SignAt x) (λi h=>h.IsStrIter it (strIterType x) x t i):=by
 cases ha:x.cps.all (· < 128) with
 | false =>
  have e:strIterType x = "str_iterator" := by simp [strIterType,ha]
  rw [e];exact Walks.strWide hh it x t
 | true =>
  have e:strIterType x = "str_ascii_iterator" := by simp [strIterType,ha]
  rw [e];exact Walks.strAscii hh it x t
theorem Fj {P:Program} {w:World} {K:PySem.W.Frag} {y:Str} {py:Pos} (it:Addr) (x:Str) (t:Tok):fO P w K (.Name y py) (tB x) [it] it (λi h=>h.IsStrIter it (strIterType x) x t i) where
 mem:=by simp
 obj:=λi h st b hb=>by
  have e:b=it:=by simpa using hb
  subst e;obtain ⟨o,e,c,d⟩:=st
  exact ⟨o,e,λv z=>by rw [d] at z;cases z⟩
 keep:=λi h h' st k=>by
  obtain ⟨o,e,r⟩:=st
  exact ⟨o,k it (by simp) o e,r⟩
 item:=by
  intro X hP hw hK hc i pins s σ H E I hf st hg
  subst hP hw hK
  refine (Fi (I.ok.hd hc) it x t).item i s _ _ hg st λv h1 tk hv st1 kk=>?_
  obtain ⟨c,u,hcp,rfl⟩:=hv
  have I1:Inv X pins σ H { s with heap:=h1,toks:=tk }:=I.turnedL (fp:=[it]) kk hf
  exact ⟨_,rfl,Nd ⟨.str ⟨#[c]⟩,H,I1,⟨u,rfl⟩,⟨rfl,c,hcp,rfl⟩,st1,λb hb=>(hf b hb).1⟩⟩
 done:=by
  intro X hP hw hK hc i pins s σ H E I hf st hg
  subst hP hw hK
  have hx:x.cps[i]? = none:=Array.getElem?_eq_none hg
  cases ha:x.cps.all (· < 128) with
  | false =>
   have e:strIterType x = "str_iterator" := by simp [strIterType,ha]
   rw [e] at st;exact wpAny_pyNext_wide_end (I.ok.hd hc) st hx λh' eb=>⟨rfl,I.turnedL (fp:=[it]) (t' := s.toks) (λb o hb q=>eb b o (λz=>hb (by simp [z])) q) hf⟩
  | true =>
   have e:strIterType x = "str_ascii_iterator" := by simp [strIterType,ha]
   rw [e] at st;exact wpAny_pyNext_ascii_end (I.ok.hd hc) st hx λh' eb=>⟨rfl,I.turnedL (fp:=[it]) (t' := s.toks) (λb o hb q=>eb b o (λz=>hb (by simp [z])) q) hf⟩
 self:=λA i s Q E st h=>by
  cases ha:x.cps.all (· < 128) with
  | false =>
   have e:strIterType x = "str_iterator" := by simp [strIterType,ha]
   rw [e] at st;exact wpAny_pyIter_striter_wide st h
  | true =>
   have e:strIterType x = "str_ascii_iterator" := by simp [strIterType,ha]
   rw [e] at st;exact wpAny_pyIter_striter_ascii st h
section
variable {X:Cx}
def tD (tl:TE):TI:=λσ H R=>tl σ H λx H1=>∃ t,x = .str t/\R (tB t) H1
theorem Fk {l:Expr} {tl:TE} {y:Str} {py:Pos} (hl:PE X l tl):PI X (.Name y py) l (tD tl):=by
 intro pins s σ H R I h
 refine thn (hl pins s σ H _ I h) λv s1 Zz=>?_;obtain ⟨x,H1,I1,r1,q1⟩:=Zz
 obtain ⟨t,e,q⟩:=q1
 subst e;obtain ⟨tk,rfl⟩:=r1
 refine wpAny_pyIter_strU ?_
 refine ⟨s1.heap.objs.size,[s1.heap.objs.size],_,_,H1,rfl,I1.kept (t' := s1.toks) λb o e=>M7 _ e,Fj _ t tk,⟨_,Nn _ rfl,rfl,rfl⟩,λb hb=>?_,q⟩
 have e:b=s1.heap.objs.size:=by simpa using hb
 subst e;exact I1.fpOk (MZ _) (I1.hok.fresh (MZ _))
end
def eh (env:Env):List (Str×NameKind)->List (Str×Addr)->List (Str×Addr)
 | [],acc=>acc
 | (n,k)::r,acc=>eh env r (if k = .free then (n,(env.cells.lookup n).getD 0)::acc else acc)
theorem Fl {env:Env} {scope:Scope} (h:∀ y∈scope.names,y.2 = .free->(env.cells.lookup y.1).isSome=true):closureFor scope env=pure (eh env scope.names []):=by
 have all:∀ (l:List (Str×NameKind)) (acc:List (Str×Addr)),(∀ y∈l,y.2 = .free->(env.cells.lookup y.1).isSome=true) ->
   (forIn l acc λ(x:Str×NameKind) (cs:List (Str×Addr))=>if (x.2 == NameKind.free)=true then (do let a <- cellOf env x.1;pure (ForInStep.yield ((x.1,a)::cs))) else (pure (ForInStep.yield cs):Sem _))=pure (eh env l acc):=by
  intro l
  induction l with
  | nil=>intro acc _;rfl
  | cons y r ih =>
   intro acc hl
   obtain ⟨n,k⟩:=y
   rw [List.forIn_cons];have hr:=λz hz=>hl z (NI _ hz)
   by_cases hk:k = .free
   ·subst hk
    obtain ⟨c,hc⟩:=Nr.mp (hl (n,.free) NX rfl)
    have e1:cellOf env n=pure c:=by
     simp only [cellOf]
     have hc':env.cells.lookup n=some c:=hc
     rw [hc']
    simp only [beq_self_eq_true,O3,e1,pure_bind,eh]
    have hc':env.cells.lookup n=some c:=hc
    rw [hc'];exact ih _ hr
   ·have hb:(k == NameKind.free)=false:=by simpa using hk
    simp only [hb,Bool.false_eq_true,RJ,pure_bind,eh,hk]
    exact ih _ hr
 unfold closureFor
 have q:=all scope.names [] h
 first
  | exact q
  | (simp only [bind_pure];exact q)
  | (rw [<- q];simp)
theorem tF {env:Env}:∀ {l:List (Str×NameKind)} {acc:List (Str×Addr)},(∀ y∈l,y.2 = .free->(env.cells.lookup y.1).isSome=true)->(∀ y c,acc.lookup y=some c->env.cells.lookup y=some c) ->
  ∀ y c,(eh env l acc).lookup y=some c->env.cells.lookup y=some c
 | [],_,_,h,y,c,e=>h y c e
 | (n,k)::r,acc,hl,h,y,c,e=>by
  refine tF (l:=r) (λz hz=>hl z (NI _ hz)) ?_ y c e
  intro y c e
  by_cases hk:k = .free
  ·rw [M8 hk] at e
   rw [O9] at e
   cases hy:y == n with
   | true =>
    rw [hy] at e;have e':y=n:=by simpa using hy
    obtain ⟨c',hc'⟩:=Nr.mp (hl (n,k) NX hk)
    have hc'':env.cells.lookup n=some c' := hc'
    rw [hc''] at e;rw [e',hc''];exact e
   | false =>
    rw [hy] at e;exact h y c e
  ·rw [M9 hk] at e
   exact h y c e
theorem tG {env:Env}:∀ {l:List (Str×NameKind)} {acc:List (Str×Addr)} {y:Str},(y,NameKind.free)∈l\/(acc.lookup y).isSome=true->((eh env l acc).lookup y).isSome=true
 | [],_,_,h=>by
  rcases h with h | h
  ·cases h
  ·exact h
 | (n,k)::r,acc,y,h=>by
  refine tG (l:=r) ?_
  rcases h with h | h
  ·rcases Np.mp h with e | e
   ·right
    cases e
    rw [M8 rfl,O9];simp
   ·exact .inl e
  ·right
   by_cases hk:k = .free
   ·rw [M8 hk,O9]
    cases hy:y == n with
    | true=>rfl
    | false=>exact h
   ·rw [M9 hk];exact h
theorem nt {names:List (Str×NameKind)} {x:Str} {k:NameKind} (h:names.lookup x=some k):(x,k)∈names:=Om h
theorem pL {env:Env} {x:Str} {k:NameKind}:∀ {names:List (Str×NameKind)},(names.map λ(n,k)=>if (k == NameKind.free && env.scope.kind == .function && env.kindOf n == some .cell) then (n,NameKind.cell) else (n,k)).lookup x=some k ->
  names.lookup x=some k\/(k = .cell/\names.lookup x=some .free)
 | [],h=>by simp at h
 | (n,kk)::r,h=>by
  have ih:=@pL env x k r
  by_cases hc:(kk == NameKind.free && env.scope.kind == .function && env.kindOf n == some .cell)=true
  ·have hf:kk = .free:=by
    have q:=(NM _ _).mp ((NM _ _).mp hc).1
    simpa using q.1
   subst hf;have h':List.lookup x ((n,NameKind.cell)::(r.map λ(n,k)=>if (k == NameKind.free && env.scope.kind == .function && env.kindOf n == some .cell) then (n,NameKind.cell) else (n,k)))=some k:=by
    have e:(λ(p:Str×NameKind)=>match p with | (n,k)=>if (k == NameKind.free && env.scope.kind == .function && env.kindOf n == some .cell)=true then (n,NameKind.cell) else (n,k)) (n,NameKind.free)=(n,NameKind.cell):=by
     show (if _ then _ else _)=_
     rw [M8 hc]
    rw [NG] at h;rw [<- e];exact h
   rw [O9] at h' ⊢
   cases hx:x == n with
   | true =>
    rw [hx] at h';right
    exact ⟨(NJ h').symm,rfl⟩
   | false =>
    rw [hx] at h';exact ih h'
  ·have h':List.lookup x ((n,kk)::(r.map λ(n,k)=>if (k == NameKind.free && env.scope.kind == .function && env.kindOf n == some .cell) then (n,NameKind.cell) else (n,k)))=some k:=by
    have e:(λ(p:Str×NameKind)=>match p with | (n,k)=>if (k == NameKind.free && env.scope.kind == .function && env.kindOf n == some .cell)=true then (n,NameKind.cell) else (n,k)) (n,kk)=(n,kk):=by
     show (if _ then _ else _)=_
     rw [M9 hc]
    rw [NG] at h;rw [<- e];exact h
   rw [O9] at h' ⊢
   cases hx:x == n with
   | true =>
    rw [hx] at h';exact .inl h'
   | false =>
    rw [hx] at h';exact ih h'
structure CompOk (X:Cx) (ns:List Str) (jf:List (Nat×Str)) (scope:Scope):Prop where
 hN:(ns++jf.map (·.2)).Nodup
 hx:∀ x∈ns,scope.names.lookup x=some .local
 hjf:∀ p∈jf,X.N[p.1]? = some p.2
 hjl:∀ p∈jf,scope.names.lookup p.2=some .free
 hkind:scope.kind = .function
 hcell:∀ y∈scope.names,y.2 ≠ .cell
 hfr:∀ y∈scope.names,y.2 = .free->X.env.kindOf y.1=some .cell\/X.env.kindOf y.1=some .free
 hnames:∀ y∈scope.names,y.2 = .local->scope.names.lookup y.1=some .local
def cZ (X:Cx) (pins:List (Addr×Obj)) (ns:List Str) (jf:List (Nat×Str)) (scope:Scope) (cl:List (Str×Addr)) (s:Shared) (H:Hp) (fp:List Addr):Cx where
 prog:=X.prog
 w:=X.w
 K:=X.K
 mg:=X.mg
 base:=X.base
 A:=X.A
 N:=ns++jf.map (·.2)
 s₀:=s
 H₀:=H
 env:=compEnvC scope cl s.heap.objs.size X.env
 outer:=X.stack
 stack:=X.stack
 ex:=fp
 fn:=λ_=>false
 calm:=X.calm
 pn:=X.pn++pins
 xe:=λ_ _=>False
def fH (vs:List (Option V)) (js:List (Nat×Str)) (σ:St):St:=vs++js.map λj=>(σ[j.1]?).join
def kF (X:Cx) (ifs:List Expr) (t:TT):Prop :=
 ∀ (pins:List (Addr×Obj)) (s:Shared) (σ:St) (H:Hp) (Q:Bool->Hp->Prop),Inv X pins σ H s->t σ H Q ->
  wpAny (model X.prog X.w) X.A (forIn ifs true λc r=>if r=true then do let ok <- isTrue c X.env (eval c X.env);pure (ForInStep.yield ok) else pure (ForInStep.yield r)) (TP X pins σ Q) X.xe s
def tH:TT:=λ_ H Q=>Q true H
theorem Fm {X:Cx}:kF X [] tH:=λpins s σ H Q I h=>wpAny_tests_nil ⟨H,I,h⟩
def yB (k:Nat) (g:TG) (jf:List (Nat×Str)) (tc:TT) (te:TE) (σ:St) (Q:VK) (J:It) (H1:Hp):Prop:=∀ D,H1 D=none->∃ W:Nat->Nat->List V->Hp->Prop,(∃ m,W 0 m [] (upd H1 D (.lst []))) /\
 ∀ i m ys H2,W i m ys H2->H2 D=some (.lst ys)/\((J.stop i H2/\Q (.ref D) H2)\/(J.go i H2/\ys.length<sizeLine/\∀ x H3,J.yld i H2 x H3->∃ us:List V,us.length=k/\g x (fH (List.replicate k none) jf σ) H3 (λσ' H' => σ'=fH (us.map some) jf σ/\H'=H3)/\tc (fH (us.map some) jf σ) H3 λb H5 =>
  if b=true then te (fH (us.map some) jf σ) H5 λv H6=>H6 D=some (.lst ys)/\∃ m',m'<m/\W (i+1) m' (ys++[v]) (upd H6 D (.lst (ys++[v]))) else ∃ m',m'<m/\W (i+1) m' ys H5))
def pM (k:Nat) (g:TG) (jf:List (Nat×Str)) (wi:TI) (tc:TT) (te:TE):TE:=λσ H Q=>wi σ H (yB k g jf tc te σ Q)
section
variable {X:Cx} {pins:List (Addr×Obj)} {σ:St} {H:Hp} {s:Shared} {ns:List Str} {jf:List (Nat×Str)} {scope:Scope} {fp:List Addr}
theorem CompOk.pg {cl:List (Str×Addr)} {x:Str} {p:Pos} (C:CompOk X ns jf scope) (i:Nat) (h:(ns++jf.map (·.2))[i]? = some x) (m:x∈ns):PG (cZ X pins ns jf scope cl s H fp) (.Name x p) (lR i) :=
 su C.hN h (.inl (Q7 (C.hx x m))) (.inr (Q7 (C.hx x m)))
theorem Inv.block {h1:Heap} {tk:Nat} (I:Inv X pins σ H s) (hf:∀ b∈fp,dF X pins H b) (hlt:∀ b∈fp,b<s.heap.objs.size) (C:CompOk X ns jf scope)
  (hn:h1.Ns s.heap.objs.size (λ_=>none)) (hk:∀ b o,s.heap.get? b=some o->h1.get? b=some o) :
  Inv (cZ X pins ns jf scope (eh X.env scope.names []) s H fp) [] (fH (List.replicate ns.length none) jf σ) H { s with heap:=h1,toks:=tk }:=by
 obtain ⟨_,_,hjf,hjl,hkind,hcell,hfr,_⟩:=C
 have hsome:∀ y∈scope.names,y.2 = .free->(X.env.cells.lookup y.1).isSome=true:=λy hy hyf=>Nr.mpr (I.ok.has y.1 (hfr y hy hyf))
 have sub:∀ y c,(eh X.env scope.names []).lookup y=some c->X.env.cells.lookup y=some c:=tF hsome (λy c e=>by simp at e)
 have hsz:=I.sz
 have inE:∀ b,b∈(cZ X pins ns jf scope (eh X.env scope.names []) s H fp).ex->b∈fp:=λb z=>z
 have stk:∀ b∈dR X.stack,b<s.heap.objs.size:=λb hb=>by
  obtain ⟨_,o,ho,_⟩:=I.stack.mem hb
  exact Ng ho
 refine ⟨⟨I.ok.mod,hkind,I.ok.glob,I.ok.blt,MZ _,λy z c e1 e2=>I.ok.inj y z c (sub y c e1) (sub z c e2),λy hy=>?_,λy c hfn _=>(by cases hfn),I.ok.hd,I.ok.frames,.inl rfl,λb hb=>?_,λb o e=>I.bs b o e,M6 I.ok.bsz hsz,λb o e z=>?_,λb hb z=>?_,I.stack,I.stkFree⟩,
  rfl,I.bare,Un.kept hk,⟨_,hn,λi y v e1 e2 e3=>?_⟩,λy c e=>?_,I.hok.fresh (MZ _),λy c e=>I.freeC y c (sub y c e),λp hp=>?_,I.hok.kept hk,?_⟩
 ·have hy':(relabel scope X.env).names.lookup y=some .cell\/(relabel scope X.env).names.lookup y=some .free:=hy
  have mem:(y,NameKind.free)∈scope.names:=by
   rcases hy' with q | q
   ·rcases pL (env:=X.env) q with z | z
    ·exact absurd rfl (hcell _ (nt z))
    ·exact nt z.2
   ·rcases pL (env:=X.env) q with z | z
    ·exact nt z
    ·exact nt z.2
  exact Nr.mp (tG (.inl mem))
 ·exact ⟨NH (hlt b hb),λy c e=>(hf b hb).2.2.2.2.1 y c (sub y c e)⟩
 ·rcases (hf b z).2.2.2.1 with q | q
  ·exact I.ok.noex b o e q
  ·exact absurd (Nq (Ng e) (M6 I.ok.bsz q)) (Ot _)
 ·rcases Np.mp (I.stkSub b z) with q | q
  ·exact (hf b hb).2.1 q
  ·exact (hf b hb).2.2.1 q
 ·have e1':(ns++jf.map (·.2))[i]? = some y:=e1
  unfold fH at e2
  by_cases hi:i<ns.length
  ·rw [Nb (by rw [Oe];exact hi),Ov,M8 hi] at e2;cases e2
  ·have hi:=Qj hi
   rw [NC hi,NK] at e1';rw [NC (by rw [Oe];exact hi),Oe,NK] at e2
   cases q:jf[i-ns.length]? with
   | none=>rw [q] at e2;cases e2
   | some p =>
    rw [q] at e1' e2;have ey:p.2=y:=NJ e1'
    have ev:(σ[p.1]?).join=some v:=NJ e2
    have hp:p∈jf:=ND q
    have eσ:σ[p.1]? = some (some v):=by
     cases z:σ[p.1]? with
     | none=>rw [z] at ev;cases ev
     | some r=>rw [z] at ev;rw [show r=some v from ev]
    have hfree:scope.names.lookup y=some .free:=by rw [<- ey];exact hjl p hp
    have mem:=nt hfree
    have kX:=hfr _ mem rfl
    obtain ⟨m,hnX,hl⟩:=I.loc
    obtain ⟨u,ru,lk⟩:=hl p.1 y v (by rw [<- ey];exact hjf p hp) eσ (by
     rcases kX with z | z
     ·exact .inr (.inl z)
     ·exact .inr (.inr z))
    refine ⟨u,ru,.inr ⟨?_,?_⟩⟩
    ·have e3':mW (relabel scope X.env) y:=e3
     rcases e3' with z | z | z
     ·exfalso
      rcases pL (env:=X.env) z with q | q
      ·rw [hfree] at q;cases q
      ·cases q.1
     ·exact .inl z
     ·exact .inr z
    ·rcases lk with ⟨z,_⟩ | ⟨_,c,hc,hcell'⟩
     ·exfalso
      rcases kX with q | q
      ·rw [show X.env.kindOf y=some .cell from q] at z;cases z
      ·rw [show X.env.kindOf y=some .free from q] at z;cases z
     ·obtain ⟨c',hc'⟩:=Nr.mp (tG (env:=X.env) (acc:=[]) (.inl mem))
      have e:=sub y c' hc'
      rw [hc] at e
      cases e
      obtain ⟨o,ho,hd⟩:=hcell'
      exact ⟨c,hc',o,hk c o ho,hd⟩
 ·obtain ⟨v,o,ho,hd⟩:=I.cell y c (sub y c e)
  exact ⟨v,o,hk c o ho,hd⟩
 ·have hp':p∈X.pn++pins:=by simpa [cZ] using hp
  obtain ⟨e,n,ne,nf,d⟩:=I.pin p hp'
  refine ⟨hk _ _ e,n,NH (Ng e),λz=>?_,d⟩
  rcases Np.mp (I.stkSub p.1 z) with q | q
  ·exact ne q
  ·exact nf q
 ·unfold fH
  show _=(ns++jf.map (·.2)).length
  rw [NL,NL,Oe,Nc,Nc]
end
theorem HOk.sameBut {P:Program} {w:World} {H:Hp} {h h':Heap} {C:Addr} (ok:HOk P w H h) (hn:H C=none) (hs:Heap.SameBut C h h'):HOk P w H h' := λb u e=>by
 refine (ok b u e).stay (λc v hc q=>(hs.2 c ?_).trans q) (λ_ q=>q) λ_ _ q=>q
 rcases hc with z | z
 ·rw [z];exact fG e hn
 ·exact fG z hn
theorem Un.sameBut {fs ex:List Addr} {H H':Hp} {h h1 h2:Heap} {C:Addr} (u:Un fs ex H H' h h1) (hC:h.get? C=none) (hs:Heap.SameBut C h1 h2):Un fs ex H H' h h2:=by
 have ne:∀ b o,h.get? b=some o->b≠C:=λb o e z=>by rw [z,hC] at e;cases e
 refine ⟨λb o e n hb hx=>(hs.2 b (ne b o e)).trans (u.keep b o e n hb hx),λb o e n hb hx=>?_,u.free,λb o e hx=>?_,u.tups,u.frzs,u.tbls⟩
 ·obtain ⟨sl,q⟩:=u.slot b o e n hb hx
  exact ⟨sl,(hs.2 b (ne b o e)).trans q⟩
 ·obtain ⟨o',q⟩:=u.there b o e hx
  exact ⟨o',(hs.2 b (ne b o e)).trans q⟩
theorem Fo {prog:Program} {w:World} {A:Around} {R:Result->Shared->Prop} {s:Shared} {elt target iter:Expr} {ifs:List Expr} {scope:Scope} {pos:Pos} {it acc:Value} {env:Env} (I:Nat->Shared->Prop)
  (turn:∀ n s,I n s->wpAny (model prog w) A (pyNext it) (λr s₁=>match r with
   | none=>R (.ok .next) s₁
   | some v=>wpAny (model prog w) A (letOwnedTupleGo target it v) (λ_ s₂=>wpAny (model prog w) A (assign target env v) (λ_ s₃ =>
     wpAny (model prog w) A (forIn ifs true λc r=>if r=true then do let ok <- isTrue c env (eval c env);pure (ForInStep.yield ok) else pure (ForInStep.yield r)) (λok s₄ =>
      if ok=true then wpAny (model prog w) A (eval elt env) (λx s₅=>wpAny (model prog w) A (call (.builtin "list.append") [acc,x]) (λ_ s₆=>∃ m,m<n/\I m s₆) (λ_ _=>False) s₅) (λ_ _=>False) s₄
      else ∃ m,m<n/\I m s₄) (λ_ _=>False) s₃) (λ_ _=>False) s₂) (λ_ _=>False) s₁) (λ_ _=>False) s)
  (n:Nat) (h:I n s):codeAny (model prog w) A (.compLoop (.ListComp elt [⟨target,iter,ifs,0⟩] scope pos) 0 it acc env) R s:=by
 refine codeAny_loop rfl I (λn s hI=>?_) n h
 show wpAny _ A ((compTurn (.ListComp elt [⟨target,iter,ifs,0⟩] scope pos) 0 it acc env).onRaise (λx=>do noteFrame x env;theTreesLotGoes x)) _ _ s
 refine wpAny_noted ?_
 rw [compTurn_list];refine M4 (Qe (M4 (NP (turn n s hI) (λr s₁ h₁=>?_) λ_ _ z=>z.elim)))
 cases r with
 | none=>exact Nd h₁
 | some v =>
  refine M4 (NP h₁ (λ_ s₂ h₂=>?_) λ_ _ z=>z.elim)
  refine M4 (NP h₂ (λ_ s₃ h₃=>M4 (NP h₃ (λok s₄ h₄=>?_) λ_ _ z=>z.elim)) λ_ _ z=>z.elim)
  cases ok with
  | false=>exact Nd ⟨rfl,h₄⟩
  | true =>
   exact M4 (M4 (NP h₄ (λx s₅ h₅=>M4 (NP h₅ (λ_ s₆ h₆=>Nd (Nd ⟨rfl,h₆⟩)) λ_ _ z=>z.elim)) λ_ _ z=>z.elim))
section
variable {X:Cx} {ns:List Str} {tg:Expr} {g:TG} {jf:List (Nat×Str)} {scope:Scope} {iter elt:Expr} {ifs:List Expr} {pos:Pos} {wi:TI} {tc:TT} {te:TE}
theorem yC (hcalm:X.calm=true) (hg:∀ pins cl s H fp,PG (cZ X pins ns jf scope cl s H fp) tg g) (hi:PI X tg iter wi) (hc:∀ pins cl s H fp,kF (cZ X pins ns jf scope cl s H fp) ifs tc) (he:∀ pins cl s H fp,PE (cZ X pins ns jf scope cl s H fp) elt te) (C:CompOk X ns jf scope) {use:Option (Value->Sem Unit)} {Qf:Value->Shared->Prop} {cpos:Pos}
  {pins:List (Addr×Obj)} {σ:St} {H:Hp} {s:Shared} {Q:VK} (I:Inv X pins σ H s) (h:pM ns.length g jf wi tc te σ H Q)
  (fin:∀ D C s6 H6 m6,Inv X pins σ H6 s6->Q (.ref D) H6->dF X pins H6 C->s6.heap.Ns C m6->compPost (model X.prog X.w) X.A X.xe use Qf (.ref D) C (.ok .next) s6) (hs:∀ x,foldedSetIterable iter X.env x=pure x) :
  wpAny (model X.prog X.w) X.A (comprehension (.ListComp elt [⟨tg,iter,ifs,0⟩] scope pos) scope X.env cpos (newList []) false (eval iter X.env) use) Qf X.xe s:=by
 obtain ⟨_,_,_,_,hkind,hcell,hfr,hnames⟩:=id C
 have hsome:∀ y∈scope.names,y.2 = .free->(X.env.cells.lookup y.1).isSome=true:=λy hy hyf=>Nr.mpr (I.ok.has y.1 (hfr y hy hyf))
 refine wpAny_comprehension_free (use:=use) rfl hs (Fl hsome) hkind hnames (thn (hi pins s σ H _ I h) λxv s1 h1=>thn h1 λitv s2 h2=>?_)
 obtain ⟨it,fp,tn,J,H2,e,I2,T,st2,f2,h⟩:=h2
 subst e;refine Ow (wpAny_newFunctionEnv hcell (by intro y hy;simp at hy) (λh₁ hns₁ hsb₁=>?_) hkind)
 have hD0:H2 s2.heap.objs.size=none:=I2.hok.fresh (MZ _)
 obtain ⟨W,⟨m0,w0⟩,step⟩:=h s2.heap.objs.size hD0
 dsimp only at hns₁ hsb₁ ⊢
 have I3:Inv X pins σ (upd H2 s2.heap.objs.size (.lst [])) { s2 with heap:=s2.heap.push { cls:=.type "list",dict:=none,data:=.seq ([]:List Value).toArray } } :=
  I2.laid (t' := s2.toks) (λb u q=>M7 _ q) (MZ _) ⟨NB _,[],0,.nil,Nn _ rfl⟩
 generalize hH3:s2.heap.push { cls:=.type "list",dict:=none,data:=.seq ([]:List Value).toArray }=hp3 at hns₁ hsb₁ I3 ⊢
 have hsz3:hp3.objs.size=s2.heap.objs.size+1:=by rw [<- hH3,QT]
 have k23:∀ b o,s2.heap.get? b=some o->hp3.get? b=some o:=λb o q=>by rw [<- hH3];exact M7 _ q
 have flt:∀ b∈fp,b<s2.heap.objs.size:=λb hb=>by
  obtain ⟨o,q,_⟩:=T.obj 0 _ st2 b hb
  exact Ng q
 have f3:∀ b∈fp,dF X pins (upd H2 s2.heap.objs.size (.lst [])) b:=λb hb=>by
  obtain ⟨g0,g⟩:=f2 b hb
  exact ⟨by rw [bG (NH (flt b hb))];exact g0,g⟩
 have kC:∀ b o,hp3.get? b=some o->h₁.get? b=some o:=λb o q=>(hsb₁.2 b (NH (Ng q))).trans (M7 _ q)
 have B0:=I3.block (ns:=ns) (jf:=jf) (scope:=scope) (fp:=fp) (h1:=h₁) (tk:=s2.toks+([]:List (Str×Value)).length) f3 (λb hb=>by show b<hp3.objs.size;rw [hsz3];exact Pu (flt b hb)) C (by simpa using hns₁) kC
 have st4:tn 0 h₁:=T.keep _ _ _ st2 λb _ o q=>kC b o (k23 b o q)
 have w0' := w0
 have stat:∀ {H':Hp},(∀ b∈fp,H' b=none)->∀ b∈fp,dF (cZ X pins ns jf scope (eh X.env scope.names []) { s2 with heap:=hp3 } (upd H2 s2.heap.objs.size (.lst [])) fp) [] H' b:=λhn b hb=>by
  obtain ⟨_,g1,g2,g3,g4,g5⟩:=f2 b hb
  refine ⟨hn b hb,NH (by show b<hp3.objs.size;rw [hsz3];exact Pu (flt b hb)),λz=>?_,.inl hb,λy c q=>g4 y c (tF hsome (λy c e=>by simp at e) y c q),λp hp=>g5 p (by simpa [cZ] using hp)⟩
  rcases Np.mp (I2.stkSub b z) with q | q
  ·exact g1 q
  ·exact g2 q
 have loop:codeAny (model X.prog X.w) X.A (.compLoop (.ListComp elt [⟨tg,iter,ifs,0⟩] scope pos) 0 (.ref it) (.ref s2.heap.objs.size) (compEnvC scope (eh X.env scope.names []) hp3.objs.size X.env))
   (compPost (model X.prog X.w) X.A X.xe use Qf (.ref s2.heap.objs.size) hp3.objs.size) { s2 with heap:=h₁,toks:=s2.toks+([]:List (Str×Value)).length }:=by
  refine Fo (λn s' => ∃ i ys H',Inv (cZ X pins ns jf scope (eh X.env scope.names []) { s2 with heap:=hp3 } (upd H2 s2.heap.objs.size (.lst [])) fp) [] (fH (List.replicate ns.length none) jf σ) H' s'/\tn i s'.heap/\(∀ b∈fp,H' b=none)/\W i n ys H') ?_ m0
   ⟨0,[],_,B0,st4,λb hb=>(f3 b hb).1,w0⟩
  rintro n s5 ⟨i,ys,H5,I5,st5,fr5,w5⟩
  obtain ⟨hD5,alt⟩:=step i n ys H5 w5
  rcases alt with ⟨stop,q5⟩ | ⟨go,hlen,next⟩
  ·refine NP (T.done (cZ X pins ns jf scope (eh X.env scope.names []) { s2 with heap:=hp3 } (upd H2 s2.heap.objs.size (.lst [])) fp) rfl rfl rfl hcalm i [] s5 _ H5 (λ_ _=>False) I5 (stat fr5) st5 stop) (λr s6 Zz=>?_) λ_ _ z=>z;obtain ⟨hr,I6⟩:=Zz
   subst hr;obtain ⟨m6,hn6,_⟩:=id I6.loc
   refine fin _ _ s6 H5 m6 ?_ q5 (I3.fpOk (MZ _) I6.free) hn6
   refine I3.call' (ch:=fp) I6.os I6.base I6.hok I6.bare (λb hb=>?_)
   obtain ⟨_,g1,g2,g3,g4,g5⟩:=f2 b hb
   exact ⟨g3,g1,g4,g5⟩
  ·refine NP (T.item (cZ X pins ns jf scope (eh X.env scope.names []) { s2 with heap:=hp3 } (upd H2 s2.heap.objs.size (.lst [])) fp) rfl rfl rfl hcalm i [] s5 _ H5 (λ_ _=>False) I5 (stat fr5) st5 go) (λr s6 Zz=>?_) λ_ _ z=>z;obtain ⟨u,hr,h6⟩:=Zz
   subst hr;refine NP h6 (λ_ s7 Zz=>?_) λ_ _ z=>z;obtain ⟨x,H7,I7,r7,y7,st7,fr7⟩:=Zz
   have I7' := I7.pinned (stat fr7) (T.obj _ _ st7)
   obtain ⟨us,hu,gq,q8⟩:=next x H7 y7
   refine NP (hg pins _ _ _ fp ([]++iK fp s7.heap) s7 _ H7 x _ _ I7' r7 gq) (λ_ s8 Zz=>?_) λ_ _ z=>z;obtain ⟨σ8,H8,I8,e8,e8'⟩:=Zz
   subst e8 e8'
   have I8':Inv (cZ X pins ns jf scope (eh X.env scope.names []) { s2 with heap:=hp3 } (upd H2 s2.heap.objs.size (.lst [])) fp) ([]++iK fp s7.heap) (fH (us.map some) jf σ) H8 s8:=I8
   have again:∀ {s9:Shared} {H9:Hp} {zs:List V} {m':Nat},Inv (cZ X pins ns jf scope (eh X.env scope.names []) { s2 with heap:=hp3 } (upd H2 s2.heap.objs.size (.lst [])) fp) ([]++iK fp s7.heap) (fH (us.map some) jf σ) H9 s9->m'<n->W (i+1) m' zs H9 ->
     ∃ m,m<n/\∃ i ys H',Inv (cZ X pins ns jf scope (eh X.env scope.names []) { s2 with heap:=hp3 } (upd H2 s2.heap.objs.size (.lst [])) fp) [] (fH (List.replicate ns.length none) jf σ) H' s9/\tn i s9.heap/\(∀ b∈fp,H' b=none)/\W i m ys H' := λ{s9 H9 zs m'} I9 hm w9=>by
    refine ⟨m',hm,i+1,zs,H9,I9.unpinned.weak (by simp [fH,hu]) (λj v e=>?_),T.keep _ _ _ st7 λb hb o e=>(I9.pin (b,o) (Ny _ (Ny _ (pA hb e)))).1,λb hb=>?_,w9⟩
    ·unfold fH at e ⊢
     by_cases hj:j<ns.length
     ·rw [Nb (by rw [Oe];exact hj),Ov,M8 hj] at e;cases e
     ·have hj:=Qj hj
      rw [NC (by rw [Oe];exact hj),Oe] at e
      rw [NC (by rw [Nc,hu];exact hj),Nc,hu]
      exact e
    ·obtain ⟨o,e,d⟩:=T.obj _ _ st7 b hb
     exact (I9.pin (b,o) (Ny _ (Ny _ (pA hb e)))).2.1
   refine NP (hc pins _ _ _ fp ([]++iK fp s7.heap) s8 _ H8 _ I8' q8) (λok s9 Zz=>?_) λ_ _ z=>z;obtain ⟨H9,I9,q9⟩:=Zz
   cases ok with
   | false =>
    rw [M9 Nv] at q9 ⊢;obtain ⟨m',hm,w9⟩:=q9
    exact again I9 hm w9
   | true =>
    rw [M8 rfl] at q9 ⊢;refine NP (he pins _ _ _ fp ([]++iK fp s7.heap) s9 _ H9 _ I9 q9) (λy s10 Zz=>?_) λ_ _ z=>z;obtain ⟨v,H10,I10,r10,hD10,m',hm,w10⟩:=Zz
    refine NP (yt (X:=(cZ X pins ns jf scope (eh X.env scope.names []) { s2 with heap:=hp3 } (upd H2 s2.heap.objs.size (.lst [])) fp)) ([]++iK fp s7.heap) s10 (fH (us.map some) jf σ) H10 (.ref s2.heap.objs.size) [v] (.ref s2.heap.objs.size) [y] (λ_ H' => H'=upd H10 s2.heap.objs.size (.lst (ys++[v]))) I10 rfl (.cons r10 .nil) ⟨_,ys,v,rfl,rfl,hD10,hlen,rfl⟩)
     (λ_ s11 ⟨_,H11,I11,_,e11⟩=>?_) λ_ _ z=>z
    subst e11;exact again I11 hm w10
 exact codeAny_compStart_list loop (T.self _ 0 _ _ _ st4 loop)
theorem Fp (hcalm:X.calm=true) (hg:∀ pins cl s H fp,PG (cZ X pins ns jf scope cl s H fp) tg g) (hi:PI X tg iter wi) (hc:∀ pins cl s H fp,kF (cZ X pins ns jf scope cl s H fp) ifs tc) (he:∀ pins cl s H fp,PE (cZ X pins ns jf scope cl s H fp) elt te) (C:CompOk X ns jf scope) (hs:∀ x,foldedSetIterable iter X.env x=pure x:=by intro _;rfl) :
  PE X (.ListComp elt [⟨tg,iter,ifs,0⟩] scope pos) (pM ns.length g jf wi tc te):=by
 intro pins s σ H Q I h
 rw [eval_ListComp];refine yC hcalm hg hi hc he C (use:=none) (Qf:=EP X pins σ Q) I h (λD C s6 H6 m6 I6 q6 f6 n6=>?_) hs
 refine ⟨m6,n6,λh' hs' => ⟨.ref D,H6,?_,rfl,q6⟩⟩
 exact I6.turnedL (fp:=[C]) (t' := s6.toks) (λb o hb q=>(hs'.2 b (λz=>hb (by simp [z]))).trans q) (λb hb=>by
  have e:b=C:=by simpa using hb
  subst e;exact f6)
theorem Fq {y:Str} {py spos:Pos} {i:Nat} (hcalm:X.calm=true) (hg:∀ pins cl s H fp,PG (cZ X pins ns jf scope cl s H fp) tg g) (hi:PI X tg iter wi) (hc:∀ pins cl s H fp,kF (cZ X pins ns jf scope cl s H fp) ifs tc) (he:∀ pins cl s H fp,PE (cZ X pins ns jf scope cl s H fp) elt te) (C:CompOk X ns jf scope) (hNX:X.N.Nodup) (hi':X.N[i]? = some y) (hy:X.env.scope.names.lookup y=some .local)
  (hsw:swapsWith (.ListComp elt [⟨tg,iter,ifs,0⟩] scope pos) (some (.Name y py)) spos.line X.env=pure true) (hs:∀ x,foldedSetIterable iter X.env x=pure x:=by intro _;rfl) :
  PS X (.Assign [.Name y py] (.ListComp elt [⟨tg,iter,ifs,0⟩] scope pos) spos) (i6 (pM ns.length g jf wi tc te) (lR i)):=by
 intro pins s σ H D I h
 rw [exec_Assign_Name_used _ _ _ _ hsw];refine M4 (Qe (M4 ?_))
 show wpAny _ X.A (do let _ <- comprehension (.ListComp elt [⟨tg,iter,ifs,0⟩] scope pos) scope X.env _ (newList []) false (eval iter X.env) (some (assign (.Name y py) X.env))) _ _ s
 refine M4 (NP (yC (Qf:=λ_ s' => SP X pins D .next s') hcalm hg hi hc he C (use:=some (assign (.Name y py) X.env)) I h (λD' C s6 H6 m6 I6 q6 f6 n6=>?_) hs) (λ_ s' hq=>Nd (Nd hq)) λ_ _ e=>e)
 refine RA (xV I6 hNX hi' (.inl hy) (v:=.ref D') rfl (λs7 I7 Zz=>?_) (.inr hy));obtain ⟨a,hsa,ha⟩:=Zz
 have ne:C≠a:=by
  rcases ha with z | z
  ·rw [z];exact f6.2.1
  ·exact λq=>f6.2.2.2.2.1 y a z q.symm
 refine ⟨m6,n6.sameBut hsa ne,λh' hs' => ⟨_,H6,?_,q6⟩⟩
 exact I7.turnedL (fp:=[C]) (t' := s7.toks) (λb o hb q=>(hs'.2 b (λz=>hb (by simp [z]))).trans q) (λb hb=>by
  have e:b=C:=by simpa using hb
  subst e;exact f6)
end
section
variable {X:Cx} {a b e:Expr} {ta tb:TE} {p p2 pos:Pos}
theorem Fs {c:V} {cv:Value} (rc:∀ u,RelV c u->u=cv) :
  CallR X (.builtin "isinstance") (λxs H Q=>∃ x t r,xs=[x,c]/\cQ X.K H x t/\PySem.W.kitOne X.K t cv=some r/\Q (.bl r) H):=by
 intro pins s σ H xs us Q I r h
 obtain ⟨x,t,k,rfl,ty,hk,q⟩:=h
 obtain ⟨u,w',rfl,rx,ry⟩:=pC r
 obtain rfl:=rc _ ry
 exact DW I rx ty hk λtk=>⟨.bl k,H,I.tok _,rfl,q⟩
theorem yD (n:String):∀ u,RelV (.ty n) u->u=Value.type n:=λ_ r=>r
theorem Ft:OpR X (compareOp .LtE) (λx y H Q=>∃ i j,x = .str i/\y = .str j/\Q (.bl (!decide (j.cps.toList<i.cps.toList))) H):=by
 intro pins s σ H x y v u Q I rx ry h
 obtain ⟨i,j,rfl,rfl,q⟩:=h
 obtain ⟨t,rfl⟩:=rx
 obtain ⟨t',rfl⟩:=ry
 exact PySem.P.le_str (cC I q rfl)
theorem Fu:iL X "str.count" (λx vs H Q=>∃ z y,x = .str z/\vs=[.str y]/\Q (.int ((Builtin.Str.occurrences z y 0 z.length (z.length+1)).length:Nat)) H):=by
 intro pins s σ H x vs v us Q I rx rv h
 obtain ⟨z,y,rfl,rfl,q⟩:=h
 obtain ⟨t,rfl⟩:=rx
 obtain ⟨u,rfl,t',rfl⟩:=i9 rv
 exact call_gives F.slot_str_count (P0 s z t) F.entry_str_count (F.args_str_count_2 _ _) (gives_str_count z y t t') ⟨.int _,H,I.tok _,⟨_,rfl⟩,q⟩
theorem Fv (l:List (Array Nat)):∀ acc:Array Nat,(l.foldl (· ++ ·) acc).toList=acc.toList++(l.map Array.toList).flatten:=by
 induction l with
 | nil=>intro acc;simp
 | cons x r ih=>intro acc;rw [QG,ih];simp
theorem Fw (hc:X.calm=true):CallR X (.builtin "all") (λxs H Q=>∃ (a:Addr) (bs:List Bool),xs=[.ref a]/\SqL X.K H a (bs.map V.bl)/\Q (.bl (bs.all id)) H):=by
 intro pins s σ H xs us Q I r h
 obtain ⟨l,bs,rfl,hq,q⟩:=h
 obtain ⟨u,rfl,rx⟩:=i9 r
 cases rx
 obtain ⟨its,rv,pl,hz⟩:=I.list hq
 have hlt:l<s.heap.objs.size:=by obtain ⟨_,_,e,_⟩:=pl;exact Ng e
 have hlen:its.length=bs.length:=by rw [<- rv.length,Nc]
 refine call_all_walk (P8 pl.isList ?_)
 refine ⟨s.heap.objs.size,[s.heap.objs.size,l],[s.heap.objs.size],its.toArray.size,_,_,λi=>(bs[i]?).getD true,rfl,Walks.list (A:=X.A.in1) (I.ok.hd hc) _ l (NH hlt) its.toArray,
  ⟨⟨_,Nn _ rfl,rfl,rfl⟩,pl.isList.push _⟩,λi v s' Q' E' hP hQ=>?_,λh' tk hk=>?_⟩
 ·have hP':its[i]? = some v:=by simpa using hP
  have hi:i<its.length:=(MY.mp hP').1
  have hb:(bs.map V.bl)[i]? = some (V.bl (bs[i]'(by omega))):=by rw [NK,Ni (by omega)];rfl
  obtain ⟨u,hu,ru⟩:=rv.get hb
  rw [hP'] at hu
  cases hu
  cases ru
  have e:(bs[i]?).getD true=bs[i]'(by omega):=by rw [Ni (by omega)];rfl
  have hQ2:Q' ((bs[i]?).getD true) s' := hQ
  rw [e] at hQ2;exact Nt hQ2
 ·have e:((List.range its.toArray.size).all λi=>(bs[i]?).getD true)=bs.all id:=by
   rw [Nh,hlen,Oy,NR,NR];constructor
   ·intro z c hc'
    obtain ⟨i,hi,rfl⟩:=Pd hc'
    have:=z i (Pp.mpr hi)
    rw [Ni hi] at this;exact this
   ·intro z i hi
    have hi' := Pp.mp hi
    rw [Ni hi'];exact z _ (OI hi')
  rw [e];refine ⟨.bl _,H,I.kept (t' := tk) λb o q=>?_,rfl,q⟩
  exact hk b o (λhm=>by rw [Pj.mp hm] at q;exact Ot _ (Ng q)) (M7 _ q)
end
section
variable {X:Cx}
theorem Fx:OpR X (binaryOp .FloorDiv) (rI (λ_ j=>0<j/\j<2 ^ 200) λi j=>.int (i / j)):=pB λi j _ _ _ _ _ hc q=>by
 obtain ⟨h1,h2⟩:=hc
 refine floordiv_int (by lia) (by rw [Int.fdiv_eq_ediv_of_nonneg i (by lia)];exact q) (.inl (PyProof.noPylong_of_log2 ?_))
 have h3:j.natAbs<2 ^ 200:=by lia
 have h4:j.natAbs.log2<200:=(Nat.log2_lt (by lia)).mpr h3
 lia
theorem Fy:OpR X (binaryOp .Mult) (rI IntMulOk λi j=>.int (i*j)):=pB λ_ _ _ _ _ _ _ hc q=>mul_int q hc
end
theorem gZ:bootBuiltins "int" = some (.type "int"):=by decide +kernel
theorem Fz:bootBuiltins "bool" = some (.type "bool"):=by decide +kernel
theorem tJ:bootBuiltins "str" = some (.type "str"):=by decide +kernel
open Sem (wp)
def DkH (h h':Heap):Prop:=∀ b o,h.get? b=some o->∃ o',h'.get? b=some o'/\o'.dict=o.dict
theorem DkH.refl (h:Heap):DkH h h:=λ_ o e=>⟨o,e,rfl⟩
def cO {α:Type} (m:Sem α):Prop:=∀ (M:Model) (Γ:PySem.Ctx) (Q:α->Pos->Shared->Prop) (E:Value->Pos->Shared->Prop) (p:Pos) (s:Shared) (h0:Heap),DkH h0 s.heap->wp M Γ m Q E p s->wp M Γ m (λa p' s' => Q a p' s'/\DkH h0 s'.heap) E p s
section
variable {α β:Type}
theorem cV {m:Sem α} {f:α->Sem β} (h:cO m) (g:∀ a,cO (f a)):cO (m >>= f):=λM Γ Q E p s h0 d q=>by
 rw [Sem.wp_bind'] at q ⊢;exact Sem.wp_mono M Γ m (λa p' s' z=>g a M Γ _ _ p' s' h0 z.2 z.1) (λ_ _ _ x=>x) p s (h M Γ _ _ p s h0 d q)
theorem dD (a:α):cO (pure a:Sem α):=λM Γ Q E p s h0 d q=>by
 have q':Q a p s:=q
 exact (show wp M Γ (Sem.pure a) _ E p s by rw [wp];exact ⟨q',d⟩)
theorem iO (w:String):cO (Sem.unsupported w:Sem α):=λM Γ Q E p s h0 d q=>by rw [wp] at q;exact q.elim
theorem FC {a:Addr} {pt:Option Value} {k:Obj->Sem α} (h:∀ o,cO (k o)):cO (Sem.load a pt k):=λM Γ Q E p s h0 d q=>by
 rw [wp] at q ⊢;obtain ⟨o,h1,h2⟩:=q
 exact ⟨o,h1,h o M Γ _ _ p _ h0 d h2⟩
theorem FD {k:List (Code×Pos)->Sem α} (h:∀ o,cO (k o)):cO (Sem.stack k):=λM Γ Q E p s h0 d q=>by
 rw [wp] at q ⊢;exact h _ M Γ _ _ p _ h0 d q
theorem FE {o:Obj} {k:Addr->Sem α} (h:∀ o,cO (k o)):cO (Sem.alloc o k):=λM Γ Q E p s h0 d q=>by
 rw [wp] at q ⊢;exact h _ M Γ _ _ p { s with heap:=s.heap.push o } h0 (λb o' e=>by
  obtain ⟨o2,e2,e3⟩:=d b o' e
  exact ⟨o2,M7 _ e2,e3⟩) q
theorem FG {a:Addr} {pt:Option Value} {f:Obj->Obj} {k:Unit->Sem α} (hf:∀ o,(f o).dict=o.dict/\(o.isFreed=false->(f o).isFreed=false)) (h:∀ o,cO (k o)):cO (Sem.update a pt f k):=λM Γ Q E p s h0 d q=>by
 rw [wp] at q ⊢;refine ⟨q.1,h _ M Γ _ _ p { s with heap:=s.heap.update a f } h0 (λb o' e=>?_) q.2⟩
 obtain ⟨o2,e2,e3⟩:=d b o' e
 by_cases hb:b=a
 ·subst hb
  exact ⟨f o2,O0 f e2 ((hf o2).2 (Heap.get?_some_iff.mp e2).2),(hf o2).1.trans e3⟩
 ·exact ⟨o2,(Heap.get?_update_ne _ _ _ _ hb).trans e2,e3⟩
end
theorem tK (a:Addr):cO (load a):=FC λo=>dD o
theorem yE {a:Addr} {f:Obj->Obj} (hf:∀ o,(f o).dict=o.dict/\(o.isFreed=false->(f o).isFreed=false)):cO (update a f):=FG hf λo=>dD o
theorem FH (v:Value):cO (fieldsOf v):=by
 unfold fieldsOf
 cases v<;>first | exact iO _ | skip
 refine cV (tK _) λo=>?_
 cases o.data<;>first | exact dD _ | exact iO _
theorem pN (v:Value) (i:Nat):cO (field v i):=by
 unfold field
 refine cV (FH v) λo=>?_
 cases o[i]? <;> first | exact dD _ | exact iO _
theorem FI (g:Array Value->Array Value) (o:Obj):(Obj.mapFields g o).dict=o.dict/\(o.isFreed=false->(Obj.mapFields g o).isFreed=false):=by
 obtain ⟨c,d,dt,sl⟩:=o
 cases dt<;>exact ⟨rfl,λh=>h⟩
theorem pO (v:Value) (i:Nat) (x:Value):cO (setField v i x):=by
 unfold setField
 cases v<;>first | exact iO _ | skip
 unfold updateField
 refine cV (tK _) λo=>?_
 cases o.data<;>first | exact iO _ | skip
 dsimp only;split
 ·exact yE (FI _)
 ·exact iO _
theorem yF (e:Value) (fr:Option Addr):cO (setFlight e fr):=by
 unfold setFlight
 refine cV (pN e 1) λtb=>?_
 split
 ·exact pO _ _ _
 ·exact dD _
theorem FJ (env:Env) (outer:List Env):cO (behindIsImport env outer):=by
 unfold behindIsImport
 split
 ·exact dD _
 ·split
  ·exact dD _
  ·exact cV (pN _ _) λ_=>dD _
theorem tL:cO stack:=FD λo=>dD o
theorem FK:cO underTheClaimsCaller:=by
 unfold underTheClaimsCaller
 exact cV tL λ_=>dD _
theorem FL (env:Env) (b:Bool) (l:List Env):cO (keptBack env b l):=by
 unfold keptBack
 cases l with
 | nil =>
  dsimp only;split
  ·exact dD _
  ·exact cV FK λ_=>dD _
 | cons=>exact dD _
theorem yG:∀ l:List Env,cO (readyFrames l)
 | []=>dD _
 | env::outer=>by
  unfold readyFrames
  cases env.frame with
  | none=>exact iO _
  | some f =>
   refine cV (tK f) λo=>?_
   split
   ·exact dD _
   ·refine cV (FJ _ _) λb=>cV (FL _ _ _) λv=>cV (yE λo=>⟨rfl,λh=>by obtain ⟨c,d,dt,sl⟩:=o;cases dt<;>exact h⟩) λ_=>yG outer
theorem yH (env:Env):cO (PySem.frameOf env):=by
 unfold PySem.frameOf frameEnvs
 refine cV (cV tL λ_=>dD _) λl=>cV ?_ λr=>?_
 ·generalize l.dropWhile _=m
  unfold frameObject
  cases m with
  | nil=>exact dD _
  | cons e r=>exact cV (yG _) λ_=>dD _
 ·cases r with
  | none=>exact iO _
  | some v=>exact dD _
theorem yI (f:Addr) (b:Bool):cO (entryPlaceOf f b):=by
 unfold entryPlaceOf
 refine cV tL λl=>?_
 split
 ·exact dD _
 ·exact dD _
theorem yJ (a b c d e:Value) (l:List Value):cO (EntryCells.newEntry a b c d e l):=by
 unfold EntryCells.newEntry newFields newObj
 dsimp only;have k:∀ d,cO (newObjAsIs (.type "traceback") (.fields d)):=λd=>by
  unfold newObjAsIs
  exact cV (FE λo=>dD o) λ_=>dD _
 generalize ([a,b,c,d,e]++if l.isEmpty=true then List.replicate 6 Value.none else l).toArray=arr
 split
 ·exact cV (iO _) λ_=>k _
 ·exact k _
theorem FN (e:Value) (env:Env):cO (noteFrame e env):=by
 unfold noteFrame
 cases env.frame with
 | none=>exact iO _
 | some f =>
  refine cV (pN e 1) λh=>?_
  dsimp only;split
  ·refine cV (pN h 3) λx=>?_
   split
   ·exact dD _
   ·exact cV (pO _ _ _) λ_=>cV (yH env) λ_=>cV (yI _ _) λ_=>cV (yJ _ _ _ _ _ _) λ_=>pO _ _ _
  ·exact cV (yH env) λ_=>cV (yI _ _) λ_=>cV (yJ _ _ _ _ _ _) λ_=>pO _ _ _
theorem tM {α:Type} {M:Model} {A:Around} {t:Sem α} {Q:α->Shared->Prop} {E:Value->Shared->Prop} {s:Shared} {h0:Heap} (k:cO t) (d:DkH h0 s.heap) (h:wpAny M A t Q E s):wpAny M A t (λa s' => Q a s'/\DkH h0 s'.heap) E s :=
 λΓ p hΓ=>k M Γ _ _ p s h0 d (h Γ p hΓ)
theorem ObjOk.some {P:Program} {w:World} {H:Hp} {h:Heap} {a:Addr} {o:HO} (x:ObjOk P w H h a o):∃ ob,h.get? a=Option.some ob:=by
 cases o with
 | lst xs=>obtain ⟨_,_,_,_,e⟩:=x;exact ⟨_,e⟩
 | tup xs=>obtain ⟨_,_,_,o,e,_⟩:=x;exact ⟨o,e⟩
 | dK kvs=>obtain ⟨_,_,_,_,o,_,_,e,_⟩:=x;exact ⟨_,e⟩
 | dT xc kvs=>obtain ⟨_,_,_,_,o,_,_,e,_⟩:=x;exact ⟨_,e⟩
 | set S n=>obtain ⟨o,_,_,_,e,_⟩:=x;exact ⟨_,e⟩
 | ins C dx fs=>obtain ⟨_,_,_,e,_⟩:=x;exact ⟨_,e⟩
 | own y=>obtain ⟨_,e⟩:=x;exact ⟨_,e⟩
 | xd fs=>obtain ⟨_,⟨_,_,_,e,_⟩,_⟩:=x;exact ⟨_,e⟩
 | rng lo hi=>obtain ⟨_,_,_,e⟩:=x;exact ⟨_,e⟩
 | frz ob u=>obtain ⟨e,_⟩:=x;exact ⟨_,e⟩
 | tbl ps=>exact ⟨_,(show h.get? a=Option.some _ from x)⟩
 | met f y=>exact ⟨_,(show h.get? a=Option.some _ from x)⟩
 | ext φ=>obtain ⟨_,⟨_,e⟩,_⟩:=x;exact ⟨_,e⟩
def gD (X:Cx) (pins:List (Addr×Obj)) (H:Hp) (h B:Heap):Prop :=
 ∀ b o,h.get? b=some o->b∉dR X.stack->((∃ u,H b=some u)\/(∃ o',X.s₀.heap.get? b=some o')\/∃ p∈X.pn++pins,p.1=b)->B.get? b=some o
section
variable {X:Cx} {pins:List (Addr×Obj)} {σ:St} {H:Hp} {s:Shared}
theorem Inv.nofr (I:Inv X pins σ H s) {b:Addr} {o:Obj} (e:X.s₀.heap.get? b=some o) (hb:b∉X.fs):b∉dR X.stack:=λz=>by
 rcases Np.mp (I.stkSub b z) with q | q
 ·exact NH (Nq (Ng e) I.ok.above) q
 ·exact hb q
theorem Inv.nofrT (I:Inv X pins σ H s) {b:Addr} {u:HO} (e:H b=some u):b∉dR X.stack:=λz=>by
 have q:=I.stkFree b z
 rw [q] at e
 cases e
theorem Inv.nofrP (I:Inv X pins σ H s) {p:Addr×Obj} (hp:p∈X.pn++pins):p.1∉dR X.stack:=λz=>by
 obtain ⟨_,_,ne,nf,_⟩:=I.pin p hp
 rcases Np.mp (I.stkSub p.1 z) with q | q
 ·exact ne q
 ·exact nf q
theorem Inv.flown {B h':Heap} {t':Nat} (I:Inv X pins σ H s) (hex:X.ex=[]) (F:gD X pins H s.heap B) (st:B.StaysIn h') (sm:s.heap.UpToSlots h'):Inv X pins σ H { s with heap:=h',toks:=t' }:=by
 have nx:∀ b,b∉X.ex:=λb z=>by rw [hex] at z;cases z
 refine ⟨I.ok,I.os,I.bare,⟨λb o e n hb hx=>?_,λb o e n hb hx=>?_,I.base.free,λb o e hx=>?_,I.base.tups,I.base.frzs,I.base.tbls⟩,?_,λx c e=>?_,I.free,I.freeC,λp hp=>?_,λb u e=>?_,I.len⟩
 ·exact st b o (F b o (I.base.keep b o e n hb hx) (I.nofr e hb) (.inr (.inl ⟨o,e⟩)))
 ·obtain ⟨sl,q⟩:=I.base.slot b o e n hb hx
  obtain ⟨_,o',ho',hd⟩:=I.funs.mem hb
  rw [q] at ho'
  cases ho'
  obtain ⟨sl',q'⟩:=sm b _ q hd
  exact ⟨sl',q'⟩
 ·obtain ⟨o',q⟩:=I.base.there b o e hx
  by_cases hb:b∈X.fs
  ·obtain ⟨_,o'',ho'',hd⟩:=I.funs.mem hb
   rw [q] at ho''
   cases ho''
   obtain ⟨sl',q'⟩:=sm b _ q hd
   exact ⟨_,q'⟩
  ·exact ⟨o',st b o' (F b o' q (I.nofr e hb) (.inr (.inl ⟨o,e⟩)))⟩
 ·obtain ⟨m,hn,hl⟩:=I.loc
  refine ⟨m,sm.ns hn,λi x v e1 e2 e3=>?_⟩
  obtain ⟨u,r,l⟩:=hl i x v e1 e2 e3
  refine ⟨u,r,?_⟩
  rcases l with l | ⟨k,c,e,o,ho,hd⟩
  ·exact .inl l
  ·obtain ⟨sl,q⟩:=sm c o ho λvs z=>by rw [hd] at z;cases z
   exact .inr ⟨k,c,e,_,q,hd⟩
 ·obtain ⟨v,o,ho,hd⟩:=I.cell x c e
  obtain ⟨sl,q⟩:=sm c o ho λvs z=>by rw [hd] at z;cases z
  exact ⟨v,_,q,hd⟩
 ·obtain ⟨e,n,ne,nf,d⟩:=I.pin p hp
  exact ⟨st _ _ (F _ _ e (I.nofrP hp) (.inr (.inr ⟨p,hp,rfl⟩))),n,ne,nf,d⟩
 ·refine (I.hok b u e).stay (λc v hc q=>?_) (λ_ q=>q) λ_ _ q=>q
  rcases hc with z | z
  ·subst z
   exact st _ _ (F _ _ q (I.nofrT e) (.inl ⟨_,e⟩))
  ·exact st _ _ (F _ _ q (I.nofrT z) (.inl ⟨_,z⟩))
theorem Inv.adopt0 {T:Addr} {ob:HO} (I:Inv X pins σ H s) (hn:H T=none) (hT:X.s₀.heap.get? T=none) (hL:T≠X.env.locals) (hc:∀ x c,X.env.cells.lookup x=some c->c≠T)
  (hp:∀ p∈X.pn++pins,p.1≠T) (new:ObjOk X.prog X.w (upd H T ob) s.heap T ob):Inv X pins σ (upd H T ob) s:=by
 have hne:∀ b u,H b=some u->b≠T:=λb u e=>fG e hn
 have hs:∀ b o,X.s₀.heap.get? b=some o->b≠T:=λb o e z=>by rw [z,hT] at e;cases e
 refine ⟨I.ok,I.os,I.bare,⟨I.base.keep,I.base.slot,λb o e n hx=>by rw [bG (hs b o e)];exact I.base.free b o e n hx,I.base.there,λb xs e=>?_,λb o u e=>?_,λb ps e=>?_⟩,I.loc,I.cell,by rw [bG (Ne.symm hL)];exact I.free,λx c e=>by rw [bG (hc x c e)];exact I.freeC x c e,λp hp' => ?_,λb u e=>?_,I.len⟩
 ·have q:=I.base.tups b xs e
  rw [bG (hne b _ q)];exact q
 ·have q:=I.base.frzs b o u e
  rw [bG (hne b _ q)];exact q
 ·obtain ⟨more,q⟩:=I.base.tbls b ps e
  exact ⟨more,by rw [bG (hne b _ q)];exact q⟩
 ·obtain ⟨e,n,ne,nf,d⟩:=I.pin p hp'
  exact ⟨e,by rw [bG (hp p hp')];exact n,ne,nf,d⟩
 ·by_cases hb:b=T
  ·subst hb;rw [dM] at e;cases e;exact new
  ·rw [bG hb] at e
   exact (I.hok b u e).stay (λc v _ q=>q) (λc q=>by rw [bG (hne c _ q)];exact q) λc xs q=>by rw [bG (hne c _ q)];exact q
end
structure Arr (X:Cx) (pins:List (Addr×Obj)) (σ:St) (H:Hp) (a:Addr) (cls:Value) (dx:Option Addr) (s:Shared):Prop where
 inv:Inv X pins σ H s
 un:H a=none
 new:X.s₀.heap.get? a=none
 nl:a≠X.env.locals
 nc:∀ x c,X.env.cells.lookup x=some c->c≠a
 np:∀ p∈X.pn++pins,p.1≠a
 dic:∃ ob,s.heap.get? a=some ob/\ob.dict=dx
 fly:∃ B a0,gD X pins H s.heap B/\B.StaysIn s.heap/\B.get? a=none/\s.heap.FunFrames B X.stack /\
  ((∃ oe vs,s.heap.get? a=some oe/\oe.cls=cls/\oe.data = .fields vs/\vs[0]? = some a0/\vs[1]? = some .none)\/s.heap.TracedW B a cls a0)
def cT (P:Program) (w:World):fP:=λouter H s E e s' => ∃ (a:Addr) (cls a0:Value) (dx:Option Addr) (H':Hp) (B:Heap),e = .ref a/\s'.os=s.os/\AllBare s'.gens/\Un (dR outer) [] H H' s.heap s'.heap/\HOk P w H' s'.heap /\
 Heap.FlyingW B outer a cls a0 s'.heap/\(∀ b o,s'.heap.get? b=some o->b∉dR outer->((∃ u,H' b=some u)\/∃ o',s.heap.get? b=some o')->B.get? b=some o)/\H' a=none/\s.heap.get? a=none/\(∃ ob,s'.heap.get? a=some ob/\ob.dict=dx)/\E cls dx H'
section
variable {X:Cx} {pins:List (Addr×Obj)} {σ:St} {H:Hp} {s:Shared}
theorem FO {h':Heap} {e:Addr} {cls:Value} {args:List Value} {t':Nat} (I:Inv X pins σ H s) (hex:X.ex=[]) (hx:Heap.MadeExcOf s.heap h' e cls args):Arr X pins σ H e cls none { s with heap:=h',toks:=t' }:=by
 have nx:∀ b,b∉X.ex:=λb z=>by rw [hex] at z;cases z
 have none_of:∀ b o,s.heap.get? b=some o->b≠e:=λb o q z=>by rw [z,hx.new] at q;cases q
 have eq_of:∀ b o o1,h'.get? b=some o->s.heap.get? b=some o1->o1=o:=λb o o1 q q1=>by
  have z:=hx.keeps b o1 q1
  rw [q] at z;exact (NJ z).symm
 obtain ⟨t,he,_,_⟩:=hx.there
 refine ⟨I.kept hx.keeps,?_,?_,λz=>?_,λx c q z=>?_,λp hp z=>?_,⟨_,he,rfl⟩,PySem.W.hideAll s.heap (dR X.stack),.ref t,λb o q nb alt=>?_,λb o q=>hx.keeps b o (PR _ q),?_,?_,.inl ⟨_,_,he,rfl,rfl,rfl,rfl⟩⟩
 ·cases q:H e with
  | none=>rfl
  | some u =>
   obtain ⟨ob,z⟩:=(I.hok e u q).some
   exact absurd rfl (none_of e ob z)
 ·cases q:X.s₀.heap.get? e with
  | none=>rfl
  | some o =>
   obtain ⟨ob,z⟩:=I.base.there e o q (nx e)
   exact absurd rfl (none_of e ob z)
 ·obtain ⟨m,⟨o,_,_,ho,_⟩,_⟩:=I.loc
  exact none_of _ o ho z.symm
 ·obtain ⟨v,o,ho,_⟩:=I.cell x c q
  exact none_of _ o ho z
 ·exact none_of _ _ (I.pin p hp).1 z
 ·have there:∃ o1,s.heap.get? b=some o1:=by
   rcases alt with ⟨u,q'⟩ | ⟨o',q'⟩ | ⟨p,hp,rfl⟩
   ·exact (I.hok b u q').some
   ·exact I.base.there b o' q' (nx b)
   ·exact ⟨_,(I.pin p hp).1⟩
  obtain ⟨o1,q1⟩:=there
  rw [<- eq_of b o o1 q q1];exact Rb _ q1 nb
 ·cases q:(PySem.W.hideAll s.heap (dR X.stack)).get? e with
  | none=>rfl
  | some o=>exact absurd rfl (none_of e o (PR _ q))
 ·refine (PySem.W.funFrames_hide I.stack λenv henv b hb=>PV.mpr ⟨env,henv,hb⟩).of_keeps λb o q _=>⟨o,hx.keeps b o q,rfl⟩
theorem yK {E:XK} {e:Value} {s':Shared} (I:Inv X pins σ H s) (hex:X.ex=[]) (h:cT X.prog X.w X.stack H s E e s'):∃ a cls dx H',e = .ref a/\Arr X pins σ H' a cls dx s'/\E cls dx H' := by
 obtain ⟨a,cls,a0,dx,H',B,rfl,os,bare,un,hok,⟨f1,f2,f3,f4⟩,ext,na,ns,dk,q⟩:=h
 have nx:∀ b,b∉X.ex:=λb z=>by rw [hex] at z;cases z
 have none_of:∀ b o,s.heap.get? b=some o->b≠a:=λb o q z=>by rw [z,ns] at q;cases q
 refine ⟨a,cls,dx,H',rfl,⟨I.call' (ch:=[]) os un hok bare (λb z=>absurd z (by simp)),na,?_,λz=>?_,λx c q z=>?_,λp hp z=>?_,dk,B,a0,λb o q nb alt=>?_,f1,f2,f3,.inr f4⟩,q⟩
 ·cases q:X.s₀.heap.get? a with
  | none=>rfl
  | some o =>
   obtain ⟨ob,z⟩:=I.base.there a o q (nx a)
   exact absurd rfl (none_of a ob z)
 ·obtain ⟨m,⟨o,_,_,ho,_⟩,_⟩:=I.loc
  exact none_of _ o ho z.symm
 ·obtain ⟨v,o,ho,_⟩:=I.cell x c q
  exact none_of _ o ho z
 ·exact none_of _ _ (I.pin p hp).1 z
 ·refine ext b o q nb ?_
  rcases alt with ⟨u,q'⟩ | ⟨o',q'⟩ | ⟨p,hp,rfl⟩
  ·exact .inl ⟨u,q'⟩
  ·exact .inr (I.base.there b o' q' (nx b))
  ·exact .inr ⟨_,(I.pin p hp).1⟩
theorem Arr.land0 {a:Addr} {cls:Value} {dx:Option Addr} {Q:Unit->Shared->Prop} {E:Value->Shared->Prop} {M:Model} {A:Around} (R:Arr X pins σ H a cls dx s) (hex:X.ex=[]) (hfr:A.frames=some X.stack) {outer:List Env} (hst:X.stack=X.env::outer) (hf:X.env.frame=some X.env.locals)
  (hQ:∀ h' B a0,gD X pins H s.heap B->Heap.FlyingW B X.stack a cls a0 h'->s.heap.UpToSlots h'->Inv X pins σ H { s with heap:=h' }->Q () { s with heap:=h' }) :
  wpAny M A (noteFrame (.ref a) X.env) (λ_ s₂=>wpAny M A (setFlight (.ref a) none) Q E s₂) E s:=by
 obtain ⟨B,a0,fm,st,hb,ff,alt⟩:=R.fly
 have after:∀ h4,Heap.HeldW B X.stack a cls a0 X.env.locals h4->s.heap.UpToSlots h4->wpAny M A (setFlight (.ref a) none) Q E { s with heap:=h4 }:=λh4 hh sm=>by
  refine wpAny_landsW (s:={ s with heap:=h4 }) hh λh5 fl sm5=>?_
  have sm':s.heap.UpToSlots h5:=sm.trans sm5
  exact hQ h5 B a0 fm fl sm' (R.inv.flown (t' := s.toks) hex fm fl.1 sm')
 rw [hst] at hfr;rw [hst] at ff;rcases alt with ⟨oe,vs,he,hc,hd,h0,h1⟩ | tr
 ·subst hc
  have hsz:1<vs.size:=(Array.getElem?_eq_some_iff.mp h1).1
  unfold noteFrame
  simp only [hf]
  refine M4 (Q6 he hd h1 ?_)
  rw [M9 (by decide)]
  refine wpAny_entryW hfr ff hf he st hb hd hsz h0 λh4 hN=>?_
  obtain ⟨k1,k2,k3,k4⟩:=hN
  exact after h4 (by rw [hst];exact ⟨k1,hb,k2,k3⟩) k4
 ·exact wpAny_looks_onW hfr hf ⟨st,hb,ff,tr⟩ λh4 hh sm=>after h4 (by rw [hst];exact hh) sm
theorem Arr.land {a:Addr} {cls:Value} {dx:Option Addr} {Q:Unit->Shared->Prop} {E:Value->Shared->Prop} {M:Model} {A:Around} (R:Arr X pins σ H a cls dx s) (hex:X.ex=[]) (hfr:A.frames=some X.stack) {outer:List Env} (hst:X.stack=X.env::outer) (hf:X.env.frame=some X.env.locals)
  (hQ:∀ h' B a0,gD X pins H s.heap B->Heap.FlyingW B X.stack a cls a0 h'->s.heap.UpToSlots h'->Inv X pins σ H { s with heap:=h' }->(∃ ob,h'.get? a=some ob/\ob.dict=dx)->Q () { s with heap:=h' }) :
  wpAny M A (noteFrame (.ref a) X.env) (λ_ s₂=>wpAny M A (setFlight (.ref a) none) Q E s₂) E s:=by
 refine NP (tM (FN _ _) (DkH.refl _) (R.land0 (E:=E) (Q:=λ_ s' => ∃ h' B a0,s'={ s with heap:=h' }/\gD X pins H s.heap B/\Heap.FlyingW B X.stack a cls a0 h'/\s.heap.UpToSlots h'/\Inv X pins σ H { s with heap:=h' }) hex hfr hst hf λh' B a0 z1 z2 z3 z4=>⟨h',B,a0,rfl,z1,z2,z3,z4⟩)) (λ_ s2 h2=>?_) λ_ _ z=>z
 refine NP (tM (yF _ _) h2.2 h2.1) (λ_ s3 h3=>?_) λ_ _ z=>z
 obtain ⟨⟨h',B,a0,rfl,z1,z2,z3,z4⟩,dk⟩:=h3
 obtain ⟨ob,e1,e2⟩:=R.dic
 obtain ⟨ob',e3,e4⟩:=dk a ob e1
 exact hQ h' B a0 z1 z2 z3 z4 ⟨ob',e3,e4.trans e2⟩
theorem yL {P:Program} {w:World} {K:PySem.W.Frag} {mg:Str->Option Value} {base:Heap} {N:List Str} {qual:Str} {scope:Scope} {f:Addr} {cd:Value} {A:Around} {outer:List Env} {s0:Shared} {H0:Hp} {E:XK} {a:Addr} {cls:Value} {dx:Option Addr}
  (R:Arr (cD (cT P w) P w K mg base N qual scope f cd A outer s0 H0 E) pins σ H a cls dx s) (q:E cls dx H):(cD (cT P w) P w K mg base N qual scope f cd A outer s0 H0 E).xe (.ref a) s:=by
 show wpAny _ _ (leaving _ _) _ _ s
 unfold leaving
 refine M4 (R.land (E:=λe' s'' => cT P w outer H0 s0 E e' s'') rfl R.inv.ok.frames rfl rfl λh' B a0 fm fl sm I' dk=>?_)
 have I:=R.inv
 obtain ⟨k1,k2,⟨_,_,k3⟩,k4⟩:=fl
 refine ⟨a,cls,a0,dx,H,B,rfl,I'.os,I'.bare,I'.base,I'.hok,⟨k1,k2,k3,k4⟩,λb o e nb alt=>?_,R.un,R.new,dk,q⟩
 have nstk:b∉dR (cD (cT P w) P w K mg base N qual scope f cd A outer s0 H0 E).stack:=by
  rcases alt with ⟨u,z⟩ | ⟨o',z⟩
  ·exact I.nofrT z
  ·exact I.nofr z nb
 have there:∃ o1,s.heap.get? b=some o1:=by
  rcases alt with ⟨u,z⟩ | ⟨o',z⟩
  ·exact (I.hok b u z).some
  ·exact I.base.there b o' z (λz=>absurd (show b∈([]:List Addr) from z) (by simp))
 obtain ⟨o1,q1⟩:=there
 have z:B.get? b=some o1:=fm b o1 q1 nstk (by
  rcases alt with ⟨u,z⟩ | ⟨o',z⟩
  ·exact .inl ⟨u,z⟩
  ·exact .inr (.inl ⟨o',z⟩))
 have z2:=k1 b o1 z
 rw [show (Heap.get? h' b)=some o from e] at z2
 cases z2
 exact z
end
def lU (X:Cx) (Ex:St->XK):Prop:=∀ (pins:List (Addr×Obj)) (σ:St) (H:Hp) (s:Shared) (a:Addr) (cls:Value) (dx:Option Addr),Arr X pins σ H a cls dx s->Ex σ cls dx H->X.xe (.ref a) s
def kH (CX:fP) (X:Cx) (Ex:St->XK):Prop:=∀ (pins:List (Addr×Obj)) (σ:St) (H:Hp) (s:Shared) (e:Value) (s':Shared),Inv X pins σ H s->CX X.stack H s (Ex σ) e s'->X.xe e s'
section
variable {P:Program} {w:World} {K:PySem.W.Frag} {mg:Str->Option Value} {base:Heap} {N:List Str} {qual:Str} {scope:Scope} {f:Addr} {cd:Value} {A:Around} {outer:List Env} {s0:Shared} {H0:Hp} {E:XK}
theorem yM:lU (cD (cT P w) P w K mg base N qual scope f cd A outer s0 H0 E) (λ_=>E):=λ_ _ _ _ _ _ _ R q=>yL R q
theorem FP:D6 (cT P w) (cD (cT P w) P w K mg base N qual scope f cd A outer s0 H0 E) E:=λpins σ H s e s' I h=>by
 obtain ⟨a,cls,dx,H',rfl,R,q⟩:=yK (X:=cD (cT P w) P w K mg base N qual scope f cd A outer s0 H0 E) I rfl h
 exact yL R q
end
section
variable {X:Cx} {x:Str} {C:Addr} {bm:List Value} {B newId initId:String} {np cpos pos:Pos} {e:Expr} {es:List Expr} {t:TA} {Ex:St->XK}
def FQ (cls:Value) (Ex:St->XK) (t:TA):TS:=λ_ σ H=>t σ H λvs H1=>vs.length<=1000/\Ex σ cls none H1
theorem FR (O:OwnCls x C bm newId X.mg X.base) (FB:ExcBaseFacts B newId initId bm) (hc:X.calm=true) (hex:X.ex=[]) (hr:lU X Ex) (hg:Gl X x) (ha:PA X (e::es) t)
  (hdb:(x == ("__debug__" : Str))=false:=by decide) (he:starEach (e::es) X.env=(false,eval e X.env)::starEach es X.env:=by rfl) (hpl:(backTo cpos (starEach es X.env)).any (·.1)=false:=by rfl) :
  PS X (.Raise (some (.Call (.Name x np) (e::es) [] cpos)) none pos) (FQ (.ref C) Ex t):=by
 intro pins s σ H D I h
 obtain ⟨tl,NN,nm,q,bs,hdct,sn,sub,ab,col,dd,k0,k1,k2,k3,k5,mN,hC,hN,hni,T⟩:=O.obj
 refine wpAny_Raise_call_subT (C:=C) (nm:=nm) (q:=q) (N:=NN) (bs:=bs) (bm:=tl) (hdct:=hdct) (sn:=sn) (sub:=sub) (ab:=ab) (col:=col) (dd:=dd) (k0:=k0) (k1:=k1) (k2:=k2) (k3:=k3) (k5:=k5) FB (mN:=mN)
  (T.hasType FB.hasBase) (I.ok.hd hc) (by rw [he];show (false || (backTo cpos (starEach es X.env)).any (·.1))=false;rw [hpl];rfl) hni (kj I hg O.bound ⟨rfl,?_⟩ hdb)
 have hA:=ha cpos pins s σ H _ I h
 rw [he] at hA ⊢;refine OO (thn hA λus s2 ⟨vs,H1,I1,r1,hl,q1⟩=>⟨rfl,?_,I1.bk _ _ hC,hN.keeps I1.bk,T.keeps I1.bk,λh' a hm=>hr pins σ H1 _ a _ none (FO (t' := s2.toks) I1 hex hm) q1⟩)
 show us.length<=sizeLine
 rw [<- r1.length];exact M6 hl (by decide)
end
section
variable {X:Cx} {CX:fP} {k:Nat} {f C:Addr} {fd:FuncData} {ps:List Str} {sp:Sp} {dvs:List V} {ds:List Value} {Ex:St->XK} {x m:Str} {p pos apos:Pos} {e o:Expr} {es:List Expr} {ta:TE} {t:TA}
theorem pP {pins:List (Addr×Obj)} {σ:St} {H:Hp} {s:Shared} {Q:VK} {us:List Value} {vs:List V} (F:FnOk X.prog X.w X.K X.mg X.base CX k f fd ps sp) (hr:Room k X.A) (hb:Binds X.K fd ps ds) (hd:Vals dvs ds) (hx:kH CX X Ex)
  (I:Inv X pins σ H s) (r:Vals vs us) (h:sp (vs++dvs) H Q (Ex σ)):wpAny (model X.prog X.w) X.A (call (.ref f) us) (EP X pins σ Q) X.xe s:=by
 have r2:Vals (vs++dvs) (us++ds):=r.append hd
 have hl:(us++ds).length=ps.length:=by rw [<- r2.length];exact F.len _ _ _ _ h
 refine wpAny_call (QD (F.run X.A X.stack s H ⟨us,[]⟩ (us++ds) (vs++dvs) Q (Ex σ) hr I.env0 (hb s us I.kIn hl) r2 h) λr s' hq=>?_)
 cases r with
 | error e=>exact hx pins σ H s e s' I hq
 | ok fl =>
  cases fl with
  | ret u=>exact I.after hq
  | next=>exact False.elim hq
  | brk=>exact False.elim hq
  | cont=>exact False.elim hq
def FS (sp:Sp) (dvs:List V) (Ex:St->XK) (t:TA):TE:=λσ H Q=>t σ H λvs H1=>sp (vs++dvs) H1 Q (Ex σ)
theorem FT (F:FnOk X.prog X.w X.K X.mg X.base CX k f fd ps sp) (hr:Room k X.A) (hg:Gl X x) (hm:X.mg x=some (.ref f)) (hk:PySem.W.keepIn X.K (.ref f)=true) (hb:Binds X.K fd ps ds) (hd:Vals dvs ds) (hx:kH CX X Ex)
  (ha:PA X (e::es) t) (hdb:(x == ("__debug__" : Str))=false:=by decide) (he:starEach (e::es) X.env=(false,eval e X.env)::starEach es X.env:=by rfl) (hpl:(backTo pos (starEach es X.env)).any (·.1)=false:=by rfl) :
  PE X (.Call (.Name x p) (e::es) [] pos) (FS sp dvs Ex t):=by
 intro pins s σ H Q I h
 refine Pn (kj I hg hm ?_ hdb)
 refine PY (h₀:=X.base) I.ok.mod.kin hk (thn (ha pos pins s σ H _ I h) λus s1 ⟨vs,H1,I1,r,q⟩=>⟨I1.kIn,?_⟩) he hpl
 exact pP F hr hb hd hx I1 r q
def yN (C:Addr) (m:Str) (sp:Sp) (dvs:List V) (Ex:St->XK) (ta:TE) (t:TA):TE:=λσ H Q=>ta σ H λx H1=>∃ a dx fs,x = .ref a/\H1 a=some (.ins C dx fs)/\fs.lookup m=none /\
 t σ H1 λvs H2=>sp (x::(vs++dvs)) H2 Q (Ex σ)
theorem FU {pl:Sem Bool} (he:PE X o ta) (c:Cls X.K C) (hm:ik X.K C m f) (F:FnOk X.prog X.w X.K X.mg X.base CX k f fd ps sp) (hr:Room k X.A) (hb:Binds X.K fd ps ds) (hd:Vals dvs ds) (hx:kH CX X Ex) (ha:PA X (e::es) t)
  (hst:starEach (e::es) X.env=(false,eval e X.env)::starEach es X.env:=by rfl) (hpl:(backTo pos (starEach es X.env)).any (·.1)=false:=by rfl)
  (ht:eval (.Call (.Attribute o m apos) (e::es) [] pos) X.env=(do
   let ov <- eval o X.env
   standAt apos.atName
   let (f,first) <- holding [ov] (getMethod ov m pl)
   callWith pos f first (backTo pos (starEach (e::es) X.env)) (backToKw pos (keywordEach [] X.env))):=by rfl) :
  PE X (.Call (.Attribute o m apos) (e::es) [] pos) (yN C m sp dvs Ex ta t):=by
 intro pins s σ H Q I h
 refine QK (pl:=pl) (thn (he pins s σ H _ I h) λu s1 Zz=>?_) ht;obtain ⟨x,H1,I1,rx,a,dx,fs,ex,ea,l,q⟩:=Zz
 subst ex;obtain rfl:u=Value.ref a:=rx
 refine yc I1 ea c hm l ?_
 refine PY (first:=[.ref a]) (h₀:=X.base) I.ok.mod.kin hm.kp (thn (ha pos pins s1 σ H1 _ I1 q) λus s2 ⟨vs,H2,I2,r,q2⟩=>⟨I2.kIn,?_⟩) hst hpl
 exact pP (us:=.ref a::us) (vs:=.ref a::vs) F hr hb hd hx I2 (.cons rfl r) q2
end
abbrev tryC (X:Cx) (pins:List (Addr×Obj)) (xe:Value->Shared->Prop):Cx:={ X with pn:=X.pn++pins,xe:=xe }
abbrev cJ (X:Cx) (a:Addr):Cx:={ X with A:=X.A.mark (some (.ref a)),calm:=false,xe:=λ_ _=>False }
def ip (a:Addr) (cls:Value) (dx:Option Addr):HO:=.ext λh=>∃ ob vs,h.get? a=some ob/\ob.cls=cls/\ob.data = .fields vs/\ob.dict=dx
section
variable {X:Cx} {pins pins':List (Addr×Obj)} {σ:St} {H:Hp} {s:Shared} {xe:Value->Shared->Prop}
theorem Cx.Ok.tryC (ok:X.Ok):(tryC X pins xe).Ok:=⟨ok.mod,ok.kind,ok.glob,ok.blt,ok.above,ok.inj,ok.has,ok.cab,ok.hd,ok.frames,ok.stk,ok.exf,ok.bs,ok.bsz,ok.noex,ok.exfs,ok.funs,ok.frf⟩
theorem Cx.Ok.untry (ok:(L2.tryC X pins xe).Ok):X.Ok:=⟨ok.mod,ok.kind,ok.glob,ok.blt,ok.above,ok.inj,ok.has,ok.cab,ok.hd,ok.frames,ok.stk,ok.exf,ok.bs,ok.bsz,ok.noex,ok.exfs,ok.funs,ok.frf⟩
theorem Cx.Ok.hdl (ok:X.Ok) (a:Addr):(cJ X a).Ok:=⟨ok.mod,ok.kind,ok.glob,ok.blt,ok.above,ok.inj,ok.has,ok.cab,λz=>(nomatch z),ok.frames,ok.stk,ok.exf,ok.bs,ok.bsz,ok.noex,ok.exfs,ok.funs,ok.frf⟩
theorem Inv.toTry (I:Inv X pins σ H s):Inv (tryC X pins xe) [] σ H s:=⟨I.ok.tryC,I.os,I.bare,I.base,I.loc,I.cell,I.free,I.freeC,λp hp=>I.pin p (by simpa using hp),I.hok,I.len⟩
theorem Inv.untry (I:Inv (tryC X pins xe) pins' σ H s):Inv X pins σ H s:=⟨I.ok.untry,I.os,I.bare,I.base,I.loc,I.cell,I.free,I.freeC,λp hp=>I.pin p (Nu _ hp),I.hok,I.len⟩
theorem Inv.hdl (I:Inv X pins σ H s) (a:Addr):Inv (cJ X a) pins σ H s:=⟨I.ok.hdl a,I.os,I.bare,I.base,I.loc,I.cell,I.free,I.freeC,I.pin,I.hok,I.len⟩
theorem Inv.unhdl {a:Addr} (I:Inv (cJ X a) pins σ H s) (ok:X.Ok):Inv X pins σ H s:=⟨ok,I.os,I.bare,I.base,I.loc,I.cell,I.free,I.freeC,I.pin,I.hok,I.len⟩
theorem Arr.untry {a:Addr} {cls:Value} {dx:Option Addr} (R:Arr (tryC X pins xe) pins' σ H a cls dx s):Arr X pins σ H a cls dx s:=by
 obtain ⟨B,a0,fm,r⟩:=R.fly
 refine ⟨R.inv.untry,R.un,R.new,R.nl,R.nc,λp hp=>R.np p (Nu _ hp),R.dic,B,a0,λb o q nb alt=>fm b o q nb ?_,r⟩
 rcases alt with z | z | ⟨p,hp,e⟩
 ·exact .inl z
 ·exact .inr (.inl z)
 ·exact .inr (.inr ⟨p,Nu _ hp,e⟩)
theorem pQ {M:Model} {A:Around} {E:Value->Shared->Prop} {n:Str} {i:Nat} {pos:Pos} {Q:Unit->Shared->Prop} (I:Inv X pins σ H s) (hN:X.N.Nodup) (hi:X.N[i]? = some n) (hk:X.env.scope.names.lookup n=some .local)
  (h:∀ s',Inv X pins (σ.set i none) H s'->Q () s'):wpAny M A (do bindName X.env n .none;unbindBehindTheSuite X.env n pos) Q E s:=by
 obtain ⟨m,hn,hl⟩:=id I.loc
 refine wpAny_nameGoes_keeps hk hn (by rw [I.ok.kind];rfl) λh' v hn' hs=>h _ ?_
 have cne:=I.cne
 refine ⟨I.ok,I.os,I.bare,Un.sameBut I.base (QS I.ok.above) hs,⟨_,hn',λj y v' e1 e2 e3=>?_⟩,λy c e=>?_,I.free,I.freeC,λp hp=>?_,I.hok.sameBut I.free hs,by simpa using I.len⟩
 ·by_cases hj:j=i
  ·subst hj
   by_cases hlt:j<σ.length
   ·rw [Na hlt] at e2;cases e2
   ·rw [OL (by simpa using hlt)] at e2;cases e2
  ·rw [M5 (Ne.symm hj)] at e2
   obtain ⟨u',r',q⟩:=hl j y v' e1 e2 e3
   refine ⟨u',r',?_⟩
   rcases q with ⟨k,e⟩ | ⟨k,c,e,z⟩
   ·refine .inl ⟨k,?_⟩
    have ne:y≠n:=λe=>hj (pf hN e1 (e▸hi))
    simp [ne,e]
   ·exact .inr ⟨k,c,e,z.sameBut hs (cne y c e)⟩
 ·obtain ⟨w',z⟩:=I.cell y c e
  exact ⟨w',z.sameBut hs (cne y c e)⟩
 ·obtain ⟨e,nn,ne,nf,d⟩:=I.pin p hp
  exact ⟨(hs.2 p.1 ne).trans e,nn,ne,nf,d⟩
end
theorem FV {M:Model} {A:Around} {E:Value->Shared->Prop} {s:Shared} {B:Heap} {l:List Env} {e:Addr} {cls a0:Value} {dx:Option Addr} {Q:Unit->Shared->Prop} (hh:Heap.FlyingW B l e cls a0 s.heap) (dk:∃ ob,s.heap.get? e=some ob/\ob.dict=dx)
  (hQ:∀ h',Heap.FlyingW B l e cls a0 h'->s.heap.UpToSlots h'->(∃ ob,h'.get? e=some ob/\ob.dict=dx)->Q () { s with heap:=h' }):wpAny M A (setFlight (.ref e) none) Q E s:=by
 refine NP (tM (yF _ _) (DkH.refl _) (lands_againW (E:=E) (Q:=λ_ s' => ∃ h',s'={ s with heap:=h' }/\Heap.FlyingW B l e cls a0 h'/\s.heap.UpToSlots h') hh λh' z1 z2=>⟨h',rfl,z1,z2⟩)) (λ_ s3 h3=>?_) λ_ _ z=>z
 obtain ⟨⟨h',rfl,z1,z2⟩,d⟩:=h3
 obtain ⟨ob,e1,e2⟩:=dk
 obtain ⟨ob',e3,e4⟩:=d e ob e1
 exact hQ h' z1 z2 ⟨ob',e3,e4.trans e2⟩
theorem FW {M:Model} {h:Heap} {a:Addr} {ob:Obj} (e:h.get? a=some ob):PySem.W.Looks M h (typeOf (.ref a)) ob.cls:=(PySem.W.Looks.ld e).andThen .now
section
variable {X:Cx} {xc n:Str} {C:Addr} {i:Nat} {body suite:List Stmt} {b0:Stmt} {np hpos pos:Pos} {tb:(St->XK)->TS} {th:TS} {outer:List Env}
end
section
variable {P:Program} {w:World} {K:PySem.W.Frag} {mg:Str->Option Value} {base:Heap}
theorem Fun.okE {x qual:Str} {st:Stmt} {f:Addr} {fd:FuncData} {N ps:List Str} {k:Nat} {sp:Sp} (F:Fun K x qual st f fd) (S:aq N ps (aP st)) (len:∀ vs H Q E,sp vs H Q E->vs.length=ps.length)
  (hbody:∀ (cdv:Value) (A:Around) (outer:List Env) (s:Shared) (H:Hp) (vs:List V) (Q:VK) (E:XK),Room k (A.deeper (envOfC qual (aP st) s.heap.objs.size f cdv))->sp vs H Q E ->
   ∃ t,fN (cD (cT P w) P w K mg base N qual (aP st) f cdv A outer s H E) (iM st) t/\t { nx:=λ_ H' => Q .non H',rt:=Q } (start N vs) H):FnOk P w K mg base (cT P w) (k+1) f fd ps sp:=by
 obtain ⟨oc,od,kV,doc,pm,an,cdv,ct,osl,rfl,lk,hcd⟩:=F.ex
 exact D9 lk hcd S len λA outer s H vs Q E hr hsp=>hbody cdv A outer s H vs Q E hr hsp
end
theorem FY {K:PySem.W.Frag} {hp:Heap} {g:Str->Option Value} {nm:Str} {Ca:Addr} {bb:List Value} {nid:String} (Z:K.In hp) (hb:g nm=some (.ref Ca)) (ok:PySem.W.excIn K Ca bb nid=true):OwnCls nm Ca bb nid g hp:=by
 refine ⟨hb,?_⟩
 unfold PySem.W.excIn at ok
 split at ok
 ·rename_i dA cA sA hA
  split at ok
  ·rename_i D' tl w0 w1 w2 w3 bn w5 eM eS
   simp only [NM,RL,Bool.not_eq_true'] at ok
   obtain ⟨⟨⟨⟨⟨rfl,rfl⟩,e1⟩,e2⟩,e3⟩,e4⟩:=ok
   obtain ⟨f1,f2,f3,f4,f5,f6,f7,f8,f9,f10,f11⟩:=cA
   dsimp only at eM e1 e3 e4
   subst eM e1
   have eA:sA = #[w0,w1,w2,w3,some (.builtin bn),w5]:=by
    obtain ⟨ll⟩:=sA
    simp only at eS
    rw [eS]
   subst eA;refine ⟨tl,f4,f1,f5,f2,f6,f7,f8,f9,f10,dA,w0,w1,w2,w3,w5,_,Z _ _ hA,.of_isNs (PySem.W.isNs_of_in Z e3),?_,PySem.W.tail_of_in Z e2⟩
   exact PySem.W.nsMap_none_of_in Z e3 e4
  ·cases ok
 ·cases ok
mutual
inductive DaV (K:PySem.W.Frag) (H:Hp):V->PyData->Prop
 | non:DaV K H .non .none
 | bl (b):DaV K H (.bl b) (.bool b)
 | int (i):DaV K H (.int i) (.int i)
 | str (x):DaV K H (.str x) (.str x)
 | lst {a xs ds}:SqL K H a xs->DaVs K H xs ds->DaV K H (.ref a) (.list ds)
 | tup {a xs ds}:SqT K H a xs->DaVs K H xs ds->DaV K H (.ref a) (.tuple ds)
inductive DaVs (K:PySem.W.Frag) (H:Hp):List V->List PyData->Prop
 | nil:DaVs K H [] []
 | cons {x xs d ds}:DaV K H x d->DaVs K H xs ds->DaVs K H (x::xs) (d::ds)
end
section
variable {X:Cx} {pins:List (Addr×Obj)} {σ:St} {H:Hp} {s:Shared}
mutual
theorem DaV.reads (I:Inv X pins σ H s):∀ {x:V} {d:PyData} {u:Value},DaV X.K H x d->RelV x u->∃ as,Reads s.heap u d as
 | _,_,_,.non,r=>by cases r;exact ⟨_,.none⟩
 | _,_,_,.bl b,r=>by cases r;exact ⟨_,.bool b⟩
 | _,_,_,.int i,r=>by obtain ⟨t,rfl⟩:=r;exact ⟨_,.int i t⟩
 | _,_,_,.str x,r=>by obtain ⟨t,rfl⟩:=r;exact ⟨_,.str x t⟩
 | _,_,_,.lst (a:=a) h1 h2,r=>by
  cases r
  obtain ⟨its,rv,⟨o,n,e1,e2,e3⟩,_⟩:=I.list h1
  obtain ⟨as,q⟩:=DaVs.reads I h2 rv
  exact ⟨_,.list (vs:=its.toArray) (n:=n) e1 (by first | exact e2.1 | exact e2) (by first | exact e2.2.2 | exact e2.2 | exact e3 | exact e3.2) (by simpa using q)⟩
 | _,_,_,.tup (a:=a) h1 h2,r=>by
  cases r
  obtain ⟨its,rv,⟨o,e1,e2,n,e3⟩,_⟩:=I.tuple h1
  obtain ⟨as,q⟩:=DaVs.reads I h2 rv
  exact ⟨_,.tuple (vs:=its.toArray) (n:=n) e1 e2 e3 (by simpa using q)⟩
theorem DaVs.reads (I:Inv X pins σ H s):∀ {xs:List V} {ds:List PyData} {us:List Value},DaVs X.K H xs ds->Vals xs us->∃ as,ReadsAll s.heap us ds as
 | _,_,_,.nil,r=>by cases r;exact ⟨_,.nil⟩
 | _,_,_,.cons h1 h2,r=>by
  cases r with
  | cons r1 r2 =>
   obtain ⟨as,q1⟩:=DaV.reads I h1 r1
   obtain ⟨bs,q2⟩:=DaVs.reads I h2 r2
   exact ⟨_,.cons q1 q2⟩
end
def tN (K:PySem.W.Frag):R2:=λx y H Q=>∃ d e,DaV K H x d/\DaV K H y e/\d.canLay0=true/\e.canLay0=true/\d.depth<=60/\Q (.bl (PyData.eqv d e)) H
def tP (K:PySem.W.Frag):R2:=λx y H Q=>∃ d e,DaV K H x d/\DaV K H y e/\d.canLay0=true/\e.canLay0=true/\d.depth<=60/\Q (.bl (!PyData.eqv d e)) H
theorem yO (hu:X.A.units+64<cLine):OpR X (compareOp .Eq) (tN X.K):=by
 intro pins s σ H x y v u Q I rx ry h
 obtain ⟨d,e,h1,h2,c1,c2,dp,q⟩:=h
 obtain ⟨as,r1⟩:=h1.reads I rx
 obtain ⟨bs,r2⟩:=h2.reads I ry
 exact SeqAt.compareEq_reads r1 r2 c1 c2 (by have:=Pg d.depth e.depth;lia) ⟨.bl _,H,I,rfl,q⟩
theorem yP (hu:X.A.units+64<cLine):OpR X (compareOp .NotEq) (tP X.K):=by
 intro pins s σ H x y v u Q I rx ry h
 obtain ⟨d,e,h1,h2,c1,c2,dp,q⟩:=h
 obtain ⟨as,r1⟩:=h1.reads I rx
 obtain ⟨bs,r2⟩:=h2.reads I ry
 exact SeqAt.compareNe_reads r1 r2 c1 c2 (by have:=Pg d.depth e.depth;lia) ⟨.bl _,H,I,rfl,q⟩
end
theorem je {A:Around} {k:Nat} (hr:Room k A):A.units+64<cLine:=by
 have:=hr.un
 lia
def FZ (K:PySem.W.Frag):R2:=λx y H Q=>∃ l b xs zs,x = .ref l/\y = .ref b/\SqL K H l xs/\SqL K H b zs/\xs.length+zs.length<=sizeLine/\∀ p,H p=none->Q (.ref p) (upd H p (.lst (xs++zs)))
theorem F8 {X:Cx}:OpR X (binaryOp .Add) (FZ X.K):=by
 intro pins s σ H x y v u Q I rx ry h
 obtain ⟨l,b,xs,zs,rfl,rfl,hH,hB,hz,q⟩:=h
 cases rx
 cases ry
 obtain ⟨its,r,⟨o,n,e1,e2,e3,e4⟩,z⟩:=I.list hH
 obtain ⟨its2,r2,⟨o2,n2,g1,g2,g3,g4⟩,z2⟩:=I.list hB
 obtain ⟨oc,od,oda,osl⟩:=o
 obtain ⟨oc2,od2,oda2,osl2⟩:=o2
 dsimp only at e2 e3 e4 g2 g3 g4
 subst e2 e3 e4 g2 g3 g4
 have l1:=r.length
 have l2:=r2.length
 refine RC ⟨_,e1,rfl⟩ ⟨_,g1,rfl⟩ noFill_list_add seq_list_add PySem.F.slot_list_add PySem.F.entry_list_add (PySem.F.args_list_add_2 _ _) (list_addW l b its.toArray its2.toArray n n2 none none osl osl2 (by rw [Nh,Nh];omega)) ⟨e1,g1,?_⟩
 have ea:its.toArray++its2.toArray=(its++its2).toArray:=by simp
 rw [ea];exact ⟨.ref s.heap.objs.size,_,I.lnew (t' := s.toks) (r.append r2) (by rw [NL];exact hz),rfl,q _ I.fresh⟩
section
variable {X:Cx} {pins:List (Addr×Obj)} {σ:St} {H:Hp} {s:Shared}
open Classical in
def iq (h:Heap) (d:PyData) (v:Value):Bool:=if q:∃ e as,e.canLay0=true/\Reads h v e as then PyData.eqv q.choose d else false
theorem isD_of {h:Heap} {d e:PyData} {v:Value} {as:List Addr} (c:e.canLay0=true) (r:Reads h v e as):iq h d v=PyData.eqv e d:=by
 have q:∃ e as,e.canLay0=true/\Reads h v e as:=⟨e,as,c,r⟩
 unfold iq
 rw [dif_pos q];obtain ⟨as',c',r'⟩:=q.choose_spec
 have z:q.choose=e:=by first | exact (Reads.unique _ _ r' r).1 | exact (Reads.unique r' r).1 | exact Reads.unique _ _ _ _ _ c' r' r | exact Qc _ _ _ _ _ c' r' r | exact Rl _ _ _ _ _ c' r' r
 rw [z]
theorem tQ (I:Inv X pins σ H s):∀ {xs:List V} {ds:List PyData} {us:List Value},DaVs X.K H xs ds->Vals xs us->us.length=ds.length/\∀ (j:Nat) u d,us[j]? = some u->ds[j]? = some d->∃ as,Reads s.heap u d as
 | _,_,_,.nil,r=>by cases r;exact ⟨rfl,λj u d e=>by cases e⟩
 | _,_,_,.cons h1 h2,r=>by
  cases r with
  | cons r1 r2 =>
   obtain ⟨l,q⟩:=tQ I h2 r2
   refine ⟨by rw [NZ,NZ,l],λj u d e1 e2=>?_⟩
   cases j with
   | zero=>cases e1;cases e2;exact h1.reads I r1
   | succ j=>exact q j u d e1 e2
def tR (K:PySem.W.Frag):R2:=λx y H Q=>∃ p xs d ds,y = .ref p/\SqL K H p xs/\DaV K H x d/\DaVs K H xs ds/\d.canLay0=true/\(∀ e∈ds,e.canLay0=true/\e.depth<=30)/\Q (.bl (ds.any λe=>PyData.eqv e d)) H
theorem tU {h:Heap} {d:PyData}:∀ {us:List Value} {ds:List PyData},us.length=ds.length->(∀ (j:Nat) u e,us[j]? = some u->ds[j]? = some e->iq h d u=PyData.eqv e d)->us.any (iq h d)=ds.any λe=>PyData.eqv e d
 | [],[],_,_=>rfl
 | u::us,e::ds,hl,hh=>by
  rw [Ou,Ou,hh 0 u e rfl rfl,tU (us:=us) (ds:=ds) (Nat.succ.inj hl) λj u' e' a b=>hh (j+1) u' e' a b]
theorem F9 (hu:X.A.units+64<cLine):OpR X (compareOp .In) (tR X.K):=by
 intro pins s σ H x y v u Q I rx ry h
 obtain ⟨p,xs,d,ds,rfl,hq,hd,hds,cd,cds,q⟩:=h
 cases ry
 obtain ⟨its,r,pl,hz⟩:=I.list hq
 obtain ⟨as,ra⟩:=hd.reads I rx
 obtain ⟨hl,hat⟩:=tQ I hds r
 refine SeqAt.in_listAt (iq s.heap d) pl.isList (λy hy=>?_) ⟨.bl _,H,I,rfl,?_⟩
 ·have hy':y∈its:=by simpa using hy
  obtain ⟨j,hj⟩:=QU hy'
  have hlt:=(MY.mp hj).1
  have hdj:ds[j]? = some (ds[j]'(by lia)):=Ni (by lia)
  obtain ⟨bs,rb⟩:=hat j _ _ hj hdj
  have cj:=cds _ (ND hdj)
  rw [isD_of cj.1 rb];exact SeqAt.eqAt_reads _ _ _ _ _ _ _ _ rb ra cj.1 cd (by
   have:=Pg (ds[j]'(by lia)).depth d.depth
   show X.A.units+1+_<cLine
   lia)
 ·have e:its.toArray.any (iq s.heap d)=ds.any λe=>PyData.eqv e d:=by
   rw [<- Qk];refine tU hl λj u e h1 h2=>?_
   obtain ⟨bs,rb⟩:=hat j _ _ h1 h2
   exact isD_of (cds _ (ND h2)).1 rb
  rw [e];exact q
end
section
variable {X:Cx} {tg:Expr}
theorem yQ (ns:List Int):∀ k,k<=ns.length->preSum (λi=>(ns[i]?).getD 0) k=(ns.take k).sum
 | 0,_=>by simp [preSum]
 | k+1,h=>by
  show preSum _ k+(ns[k]?).getD 0=_
  rw [yQ ns k (by lia),List.take_succ,List.sum_append]
  congr 1
  rw [Ni (by lia)]
  simp
theorem Ga (hc:X.calm=true):CallR X (.builtin "sum") (λxs H Q=>∃ (a:Addr) (ns:List Int),xs=[.ref a]/\SqL X.K H a (ns.map V.int)/\Q (.int ns.sum) H):=by
 intro pins s σ H xs us Q I r h
 obtain ⟨l,bs,rfl,hq,q⟩:=h
 obtain ⟨u,rfl,rx⟩:=i9 r
 cases rx
 obtain ⟨its,rv,pl,hz⟩:=I.list hq
 have hlt:l<s.heap.objs.size:=by obtain ⟨_,_,e,_⟩:=pl;exact Ng e
 have hlen:its.length=bs.length:=by rw [<- rv.length,Nc]
 refine call_sum_walkAnyS (P8 pl.isList ?_)
 refine ⟨s.heap.objs.size,[s.heap.objs.size,l],[s.heap.objs.size],_,its.toArray.size,_,_,λi=>(bs[i]?).getD 0,rfl,(Walks.list (prog:=X.prog) (w:=X.w) (A:=X.A.in1) (I.ok.hd hc) s.heap.objs.size l (NH hlt) its.toArray).toS,
  ⟨⟨_,Nn _ rfl,rfl,rfl⟩,pl.isList.push _⟩,λb hb=>?_,λi v hP=>?_,λs' t' hm=>?_⟩
 ·rcases Np.mp hb with rfl | hb
  ·exact Ng (Nn _ rfl)
  ·obtain rfl:=Pj.mp hb
   obtain ⟨_,_,e,_⟩:=pl
   exact Ng (M7 _ e)
 ·have hP':its[i]? = some v:=by simpa using hP
  have hi:i<its.length:=(MY.mp hP').1
  have hb:(bs.map V.int)[i]? = some (V.int (bs[i]'(by omega))):=by rw [NK,Ni (by omega)];rfl
  obtain ⟨u,hu,ru⟩:=rv.get hb
  rw [hP'] at hu
  cases hu
  obtain ⟨t,rfl⟩:=ru
  refine ⟨t,?_⟩
  show Value.int _ t=Value.int ((bs[i]?).getD 0) t
  rw [Ni (by omega)];rfl
 ·obtain ⟨h',g',d',tk',os'⟩:=s'
  have e1:g'=s.gens:=hm.gens
  have e2:d'=s.drawn:=hm.drawn
  have e3:os'=s.os:=hm.os
  subst e1 e2 e3
  have e:preSum (λi=>(bs[i]?).getD 0) its.toArray.size=bs.sum:=by
   rw [Nh,hlen,yQ bs _ (MZ _),NU (MZ _)]
  rw [e];refine ⟨.int _,H,I.kept (t' := tk') λb o q=>?_,⟨_,rfl⟩,q⟩
  exact hm.heap b o (λhb=>by rw [Pj.mp hb] at q;exact Ot _ (Ng q)) (M7 _ q)
def jg (lo c:Int) (n:Nat):It:=⟨λi _=>i<n,λi H x H' => H'=H/\x = .int (lo+i*c),λi _=>n<=i⟩
theorem Gb {P:Program} {w:World} {K:PySem.W.Frag} {tg:Expr} (it:Addr) (lo c:Int) (n:Nat):fO P w K tg (jg lo c n) [it] it (λi h=>IsRangeIter h it (lo+(i:Nat)*c) ((n:Int)-(i:Nat)) c) where
 mem:=by simp
 obj:=λi h st b hb=>by
  have e:b=it:=by simpa using hb
  subst e;exact ⟨_,st,λv z=>by
   have z':Data.fields _=Data.cell v:=z
   cases z'⟩
 keep:=λi h h' st k=>k it (by simp) _ st
 item:=by
  intro X hP hw hK hc i pins s σ H E I hf st hg
  subst hP hw hK
  obtain ⟨f0,f1,f2,f3,f4,f5⟩:=hf it (by simp)
  have W:=Walks.range (prog:=X.prog) (w:=X.w) (I.ok.hd hc) it lo c n
  refine W.item i s _ _ hg st λv h' tk hv st' kk=>?_
  obtain ⟨t,rfl⟩:=hv
  have I1:Inv X pins σ H { s with heap:=h',toks:=tk }:=I.turned (λb o hb e=>kk b o (by simpa using hb) e) f0 f1 f3 f4 f5
  exact ⟨_,rfl,ph (s:={ s with heap:=h',toks:=tk }) (n := "range_iterator") st' rfl rfl (by decide) ⟨.int (lo+i*c),H,I1,⟨t,rfl⟩,⟨rfl,rfl⟩,st',λb hb=>(hf b hb).1⟩⟩
 done:=by
  intro X hP hw hK hc i pins s σ H E I hf st hg
  subst hP hw hK
  obtain ⟨f0,f1,f2,f3,f4,f5⟩:=hf it (by simp)
  exact QA (I.ok.hd hc) st (by have:n<=i:=hg;lia) λh' eb=>⟨rfl,I.turned (t' := s.toks) (λb o hb e=>eb b o hb e) f0 f1 f3 f4 f5⟩
 self:=λ_ _ _ _ _ st h=>QB st h
theorem Gc {a b c:Int} (hc:0<c):Builtin.Range.rangeSize a b c=(((if a<b then (b-a-1) / c+1 else 0:Int).toNat:Nat):Int):=by
 unfold Builtin.Range.rangeSize
 rw [M8 hc];split
 ·have:0<=(b-a-1) / c:=Int.ediv_nonneg (by lia) (by lia)
  lia
 ·rfl
theorem nu {x:Int} (h:x.natAbs<2 ^ 42):Builtin.Range.rangeFitsLong x=true:=by
 have h2:x.natAbs<4398046511104:=h
 simp only [Builtin.Range.rangeFitsLong,NM,Ox]
 lia
theorem Ge {a b c:Int} (ha:a.natAbs<2 ^ 40) (hb:b.natAbs<2 ^ 40) (hc:0<c):(Builtin.Range.rangeSize a b c).natAbs<2 ^ 42:=by
 have ha2:a.natAbs<1099511627776:=ha
 have hb2:b.natAbs<1099511627776:=hb
 show _<4398046511104
 unfold Builtin.Range.rangeSize
 rw [M8 hc];split
 ·have h1:0<=(b-a-1) / c:=Int.ediv_nonneg (by lia) (by lia)
  have h2:(b-a-1) / c<=b-a-1:=Int.ediv_le_self _ (by lia)
  generalize (b-a-1) / c=d at *;lia
 ·decide
theorem Gf {a b c:Int} (ha:a.natAbs<2 ^ 40) (hb:b.natAbs<2 ^ 40) (hc:0<c) (hc':c<2 ^ 20):Builtin.Range.small a b c=true:=by
 have l:(2:Nat) ^ 40<2 ^ 42:=by decide
 unfold Builtin.Range.small
 rw [nu (PQ ha l),nu (PQ hb l),nu (x:=c) (by have h2:c<1048576:=hc';show _<4398046511104;lia),nu (Ge ha hb hc),M8 hc,nu (x:=b+(c-1)) (by have h2:c<1048576:=hc';have h3:b.natAbs<1099511627776:=hb;show _<4398046511104;lia)]
 simp
def Gg (ta:TA):TI:=λσ H R=>ta σ H λvs H1=>∃ i j c:Int,vs=[.int i,.int j,.int c]/\(i.natAbs<2 ^ 40/\j.natAbs<2 ^ 40/\0<c/\c<2 ^ 20)/\R (jg i c (if i<j then (j-i-1) / c+1 else 0:Int).toNat) H1
theorem Gh {pins:List (Addr×Obj)} {σ:St} {H:Hp} {s:Shared} {R:It->Hp->Prop} {E:Value->Shared->Prop} {lo hi c:Int} {t u v:Tok} {tk:Nat} (I:Inv X pins σ H s) (h1:lo.natAbs<2 ^ 40) (h2:hi.natAbs<2 ^ 40) (h3:0<c) (h4:c<2 ^ 20)
  (q:R (jg lo c (if lo<hi then (hi-lo-1) / c+1 else 0:Int).toNat) H):wpAny (model X.prog X.w) X.A (pyIter (.ref s.heap.objs.size)) (sE X pins σ tg R) E { s with heap:=s.heap.push { cls:=.type "range",data:=.fields #[.int lo t,.int hi u,.int c v] },toks:=tk }:=by
 refine Rp (IsRange.new ..) (Gf h1 h2 h3 h4) ?_
 have I1:Inv X pins σ H { s with heap:=s.heap.push { cls:=.type "range",data:=.fields #[.int lo t,.int hi u,.int c v] },toks:=tk }:=I.kept λb o e=>M7 _ e
 refine ⟨(s.heap.push { cls:=.type "range",data:=.fields #[.int lo t,.int hi u,.int c v] }).objs.size,[(s.heap.push { cls:=.type "range",data:=.fields #[.int lo t,.int hi u,.int c v] }).objs.size],_,_,H,rfl,
  I1.kept (t' := tk) λb o e=>M7 _ e,Gb _ lo c (if lo<hi then (hi-lo-1) / c+1 else 0:Int).toNat,?_,λb hb=>?_,q⟩
 ·have e1:lo+((0:Nat):Int)*c=lo:=by simp
  have e2:(((if lo<hi then (hi-lo-1) / c+1 else 0:Int).toNat:Nat):Int)-((0:Nat):Int)=Builtin.Range.rangeSize lo hi c:=by rw [Gc h3];omega
  show IsRangeIter _ _ (lo+((0:Nat):Int)*c) ((((if lo<hi then (hi-lo-1) / c+1 else 0:Int).toNat:Nat):Int)-((0:Nat):Int)) c
  rw [e1,e2];exact Nn _ rfl
 ·have e:b=(s.heap.push { cls:=.type "range",data:=.fields #[.int lo t,.int hi u,.int c v] }).objs.size:=by simpa using hb
  subst e;exact I1.fpOk (MZ _) (I1.hok.fresh (MZ _))
theorem Gi {a b c:Expr} {ta:TA} {p pos:Pos} (hg:Gl X "range") (hm:X.mg "range" = none) (ha:PA X [a,b,c] ta) (hs:starEach [a,b,c] X.env=[(false,eval a X.env),(false,eval b X.env),(false,eval c X.env)]:=by rfl) (hs2:starEach [b,c] X.env=[(false,eval b X.env),(false,eval c X.env)]:=by rfl) :
  PI X tg (.Call (.Name "range" p) [a,b,c] [] pos) (Gg ta):=by
 intro pins s σ H R I h
 refine Call_ (lQ I hg hm boot_range (OE (thn (ha pos pins s σ H _ I h) λus s1 Zz=>?_) (by rw [hs,hs2]) (by rw [hs2];rfl)));obtain ⟨vs,H1,I1,r1,q1⟩:=Zz
 obtain ⟨i,j,c,e,⟨q1,q2,q3,q4⟩,q⟩:=q1
 subst e
 cases r1 with
 | cons r rr =>
  cases rr with
  | cons r' rr =>
   cases rr with
   | cons r'' rr =>
    cases rr
    obtain ⟨t,rfl⟩:=r
    obtain ⟨t',rfl⟩:=r'
    obtain ⟨t'',rfl⟩:=r''
    exact call_range_3 (by lia) (Gh I1 q1 q2 q3 q4 q) (.inl (PyProof.noPylong_small (by lia)))
end
open PySem.Builtin PySem.Builtin.Str
section
variable {X:Cx}
def bY (z:Str) (lo hi:Option Int):Str:=⟨((z.cps.toList.drop (HT.sIx z.cps.toList.length 0 lo)).take (HT.sIx z.cps.toList.length z.cps.toList.length hi-HT.sIx z.cps.toList.length 0 lo)).toArray⟩
theorem pR (n d:Nat) (i:Int):max 0 (min (if i<0 then i+(n:Int) else i) (n:Int))=((HT.sIx n d (some i):Nat):Int):=by
 show max 0 (min (if i<0 then i+(n:Int) else i) (n:Int))=(((if i<0 then (i+(n:Int)).toNat else min i.toNat n):Nat):Int)
 split<;>lia
theorem pS {a b:Int} {A B:Nat} (ha:a=A) (hb:b=B):sliceRange a b 1=(List.range (B-A)).map λk=>A+k:=by
 subst ha hb
 unfold sliceRange
 simp only [show (1:Int) > 0 by decide,O3]
 have:(if (A:Int)<(B:Int) then ((B:Int)-A+1-1) / 1 else 0).toNat=B-A:=by
  split<;>(try simp only [Int.ediv_one])<;>lia
 rw [this];apply OD
 intro k _
 lia
theorem Gj (xs:List Nat) (i k:Nat):(List.range k).filterMap (λm=>xs[i+m]?)=(xs.drop i).take k:=by
 induction k generalizing i with
 | zero=>simp
 | succ k ih =>
  rw [List.range_succ_eq_map,Pb,PX];have e:((λm=>xs[i+m]?) ∘ Nat.succ)=λm=>xs[(i+1)+m]? := by
   funext m;show xs[i+(m+1)]? = _;congr 1;lia
  rw [e,ih (i+1)]
  cases h:xs[i]? with
  | none =>
   have hl:xs.length<=i:=List.getElem?_eq_none_iff.mp h
   simp only [Nat.add_zero,h]
   rw [Oh (by lia),Oh hl];simp
  | some v =>
   have hi:=(MY.mp h).1
   simp only [Nat.add_zero,h]
   rw [P2 hi,List.take_succ_cons];congr 1
   exact (NJ ((Ni hi).symm.trans h)).symm
theorem Gk (n:Nat) (lo hi:Option Int):strSliceIndices lo hi 1 n=(List.range (HT.sIx n n hi-HT.sIx n 0 lo)).map λk=>HT.sIx n 0 lo+k:=by
 cases lo with
 | none =>
  cases hi with
  | none=>exact pS rfl rfl
  | some j=>exact pS rfl (pR n n j)
 | some i =>
  cases hi with
  | none=>exact pS (pR n 0 i) rfl
  | some j=>exact pS (pR n 0 i) (pR n n j)
theorem Gm (z:Str) (lo hi:Option Int):Txt.slice z lo hi=bY z lo hi:=by
 have hz:z.length=z.cps.toList.length:=by simp [Str.length]
 unfold Txt.slice bY
 rw [hz,Gk,PX];have e:((λx=>z.cps[x]?) ∘ λk=>HT.sIx z.cps.toList.length 0 lo+k)=λm=>z.cps.toList[HT.sIx z.cps.toList.length 0 lo+m]? := by
  funext m;simp
 rw [e,Gj];split
 ·rename_i hc
  simp only [beq_self_eq_true,Bool.true_and,RL,Nc,Ol] at hc
  have h1:HT.sIx z.cps.toList.length z.cps.toList.length hi<=z.cps.toList.length:=HT.sIx_le _ _ (MZ _) _
  have h2:HT.sIx z.cps.toList.length 0 lo=0\/z.cps.toList.length=0:=by lia
  rw [hc];rcases h2 with h2 | h2
  ·rw [h2,QV,NU (MZ _)]
  ·have:z.cps.toList=[]:=PD h2
   have h3:z.cps = #[]:=by simpa using this
   simp [h3]
   cases z;simp_all
 ·rfl
theorem yR {v:Value} {o:Option Int} (p:IsPart v o):∃ l:Option (Int×Tok),v=partValue l/\l.map (·.1)=o:=by
 cases p with
 | none=>exact ⟨none,rfl,rfl⟩
 | int i t=>exact ⟨some (i,t),rfl,rfl⟩
theorem Gn:SlR X (λx lo hi H Q=>∃ z,x = .str z/\z.length<=sizeLine/\Q (.str (bY z lo hi)) H):=by
 intro pins s σ H x v vl vu lo hi sl Q I rx hs pl pu h
 obtain ⟨z,rfl,hz,q⟩:=h
 obtain ⟨t,rfl⟩:=rx
 obtain ⟨l,rfl,rfl⟩:=yR pl
 obtain ⟨u,rfl,rfl⟩:=yR pu
 refine ⟨"str",_,F.slot_str_getitem.lookup,P0 _ _ _,?_⟩
 refine wpAny_getItem_str_slice (l:=l) (u:=u) (st:=none) hs rfl ?_
 refine post_val_or_str ⟨M6 (Txt.slice_le z (l.map (·.1)) (u.map (·.1))) hz,λt' k=>?_⟩
 have e:=Gm z (l.map (·.1)) (u.map (·.1))
 refine ⟨.str (bY z (l.map (·.1)) (u.map (·.1))),H,I.tok _,⟨t',?_⟩,q⟩
 rw [<- e];rfl
def yS (r r' r'':R2) (ta tb tc td:TE):TE:=λσ H Q=>ta σ H λx H1=>tb σ H1 λy H2=>r x y H2 λz H3=>∃ k,z = .bl k /\
 (if k=true then tc σ H3 λw' H4=>r' y w' H4 λz2 H5=>∃ k2,z2 = .bl k2/\(if k2=true then td σ H5 λv' H6=>r'' w' v' H6 Q else Q (.bl false) H5) else Q (.bl false) H3)
theorem Gp {a b c d:Expr} {ta tb tc td:TE} {pos:Pos} {op op' op'':CmpOp} {r r' r'':R2} (ho:OpR X (compareOp op) r) (ho':OpR X (compareOp op') r') (ho'':OpR X (compareOp op'') r'') (ha:PE X a ta) (hb:PE X b tb) (hc:PE X c tc) (hd:PE X d td)
  (hm:lastMarks [op,op',op''] [b,c,d]=false:=by with_unfolding_all rfl):PT X (.Compare a [op,op',op''] [b,c,d] pos) (sL (yS r r' r'' ta tb tc td)):=by
 intro pins s σ H Q I h
 refine isTrue_chain (thn (ha pins s σ H _ I h) λv s1 ⟨x,H1,I1,r1,q1⟩=>test_link (thn (hb pins s1 σ H1 _ I1 q1) λu s2 ⟨y,H2,I2,r2,q2⟩ =>
  thn (ho pins s2 σ H2 x y v u _ I2 r1 r2 q2) λd s3 ⟨z,H3,I3,r3,k,e,q3⟩=>?_)) hm
 subst e
 cases r3
 refine Nt ?_
 cases k with
 | false =>
  obtain ⟨k',e',q'⟩:=q3
  cases e'
  exact ite_ff ⟨H3,I3,q'⟩
 | true =>
  refine ite_tt (test_link (thn (hc pins s3 σ H3 _ I3 q3) λw' s4 ⟨z',H4,I4,r4,q4⟩=>thn (ho' pins s4 σ H4 y z' u w' _ I4 r2 r4 q4) λd' s5 Zz=>?_));obtain ⟨z2,H5,I5,r5,k2,e2,q5⟩:=Zz
  subst e2
  cases r5
  refine Nt ?_
  cases k2 with
  | false =>
   obtain ⟨k',e',q'⟩:=q5
   cases e'
   exact ite_ff ⟨H5,I5,q'⟩
  | true =>
   refine ite_tt (test_last (thn (hd pins s5 σ H5 _ I5 q5) λw2 s6 ⟨z3,H6,I6,r6,q6⟩=>thn (ho'' pins s6 σ H6 z' z3 w' w2 _ I6 r4 r6 q6) λd2 s7 Zz=>?_));obtain ⟨z4,H7,I7,r7,k3,e3,q7⟩:=Zz
   subst e3
   cases r7
   exact Nt ⟨H7,I7,q7⟩
def bE (z:Str) (n:Nat):Str:=⟨((List.replicate n z.cps.toList).flatten).toArray⟩
theorem Gq {z:Str} {n:Int} (h2:2<=n) (hz:1<=z.length):Txt.mul z n=bE z n.toNat:=by
 unfold Txt.mul bE
 rw [M9 (by lia),M9 (by simp;lia)]
 have:=Fv (List.replicate n.toNat z.cps) #[]
 rw [List.map_replicate] at this;have e:(List.replicate n.toNat z.cps).foldl (· ++ ·) #[]=((List.replicate n.toNat z.cps.toList).flatten).toArray:=by
  apply Ql.mp
  rw [this];simp
 rw [e]
end
open PySem.Builtin PySem.Builtin.Str
section
variable {X:Cx}
theorem Gr (z:Str) (n:Int):Txt.mul z n=bE z n.toNat:=by
 by_cases h2:2<=n/\1<=z.length
 ·exact Gq h2.1 h2.2
 ·unfold Txt.mul
  by_cases h1:n<1
  ·rw [M8 h1,show n.toNat=0 by lia];rfl
  ·rw [M9 h1,M8 (by simp;lia)]
   by_cases hz:z.length=0
   ·have e:z.cps.toList=[]:=OS.mp (by simpa [Str.length] using hz)
    cases z
    simp only [bE,Str.mk.injEq] at *
    rw [e];apply Ql.mp
    simp [e]
   ·rw [show n.toNat=1 by lia]
    cases z
    simp [bE]
theorem Gs:OpR X (binaryOp .Mult) (λx y H Q=>∃ z n,x = .str z/\y = .int n/\n.natAbs<2 ^ 40/\z.length*n.toNat<=1000000/\Q (.str (bE z n.toNat)) H):=by
 intro pins s σ H x y v u Q I rx ry h
 obtain ⟨z,n,rfl,rfl,hb,hl,q⟩:=h
 obtain ⟨t,rfl⟩:=rx
 obtain ⟨t',rfl⟩:=ry
 have hb2:n.natAbs<1099511627776:=hb
 refine SB.mul ⟨?_,λh1 _=>?_,λ_ _=>?_⟩ λt2 k=>⟨.str (bE z n.toNat),H,I.tok _,⟨t2,by rw [Gr]⟩,q⟩
 ·simp;lia
 ·intro hc
  have n0:(n:Int)=(n.toNat:Int):=by lia
  have h1:n*(z.length:Int)<=1000000:=by
   rw [n0,<- Int.natCast_mul,Qx];exact Int.ofNat_le.mpr hl
  have h3:(2 ^ 63-1:Int) / n<z.length:=hc
  have h4:(2 ^ 63-1:Int)<z.length*n:=Int.lt_mul_of_ediv_lt (by lia) h3
  rw [Int.mul_comm] at h4;have:(9223372036854775807:Int)<n*z.length:=h4
  lia
 ·exact NF (Nat.not_lt.mpr (M6 hl (by decide)))
end
section
variable {prog:Program} {w:World} {A:Around} {E:Value->Shared->Prop} {s:Shared}
end
section
variable {X:Cx} {pos:Pos}
end
end L2
namespace Sm
open PySem L2
theorem E6x {α β γ:Type} {p q r:α->β->γ->Prop} {R:Prop} (h:∀ a b c,p a b c->q a b c->r a b c->R):(∃ a b c,p a b c/\q a b c/\r a b c)->R:=λ⟨a,b,c,x,y,z⟩=>h a b c x y z
inductive AV where
 | non | bl (b:Bool) | int (i:Int) | str (x:Str)
 | tup (xs:List AV)
 | fl (xs:List AV)
 | ref (n:Nat)
 | exc (c:Nat)
 deriving Inhabited
inductive AO where
 | lst (xs:List AV)
 | dct (t:Bool) (kvs:List (AV×AV))
 | dcx (kvs:List (AV×AV))
 | ins (c:Nat) (fs:List (Option AV))
abbrev AH:=List AO
abbrev En:=List (Option AV)
inductive Out (α:Type) where
 | ok (a:α) (h:AH)
 | ex (c:Nat) (h:AH)
 | bad
@[simp] def Out.bind {α β:Type} (o:Out α) (f:α->AH->Out β):Out β :=
 match o with
 | .ok a h=>f a h
 | .ex c h=>.ex c h
 | .bad=>.bad
inductive OutS where
 | nx (e:En) (h:AH)
 | rt (v:AV) (h:AH)
 | bk (e:En) (h:AH)
 | ct (e:En) (h:AH)
 | ex (c:Nat) (e:En) (h:AH)
 | bad
abbrev SE:=En->AH->Out AV
abbrev SB:=En->AH->Out Bool
abbrev SL:=En->AH->Out (List AV)
abbrev SS:=En->AH->OutS
abbrev Fn:=List AV->AH->Out AV
@[simp] def Out.go {α:Type} (o:Out α) (e:En) (f:α->AH->OutS):OutS :=
 match o with
 | .ok a h=>f a h
 | .ex c h=>.ex c e h
 | .bad=>.bad
structure Tb where
 K:PySem.W.Frag
 cls:Nat->Option Addr
 exc:Nat->Option Addr
 fields:Nat->List Str
 nd:∀ c,(fields c).Nodup
 few:∀ c,(fields c).length<=500
def KL (K:PySem.W.Frag) (a:Addr) (xs:List V):Prop:=∃ (o:Obj) (its:Array Value) (n:Nat),K.lookup a=some o/\o.cls = .type "list" /\ o.dict=none/\o.data = .seq its n/\its.size<=sizeLine/\Vals xs its.toList
structure Ix where
 refs:List Addr
 priv:List Addr
def Ix.all (ι:Ix):List Addr:=ι.refs++ι.priv
def Gu (c:Nat):Int:=((c / 64:Nat):Int)-1
def XdOk (ι:Ix) (H:Hp) (c:Nat) (dx:Option Addr):Prop:=64<=c->∃ d,dx=some d/\d∉ι.all/\H d=some (.xd [("row",.int (Gu c))])
def tV (T:Tb) (ι:Ix) (H:Hp) (c:Nat) (C:Addr×Option Addr):Prop:=T.exc c=some C.1/\XdOk ι H c C.2
theorem Gw {ι:Ix} {H:Hp} {c:Nat} {dx:Option Addr} (h:c<64):XdOk ι H c dx:=λz=>absurd h (Nat.not_lt_of_le z)
mutual
inductive RV (T:Tb) (ι:Ix) (H:Hp):AV->V->Prop
 | non:RV T ι H .non .non
 | bl (b:Bool):RV T ι H (.bl b) (.bl b)
 | int (i:Int):RV T ι H (.int i) (.int i)
 | str {x:Str} (n:x.length<=sizeLine) (o:x.cps.all (· < 0x110000)=true):RV T ι H (.str x) (.str x)
 | tup {xs:List AV} {us:List V} {a:Addr} (n:a∉ι.all) (h:H a=some (.tup us)) (r:RVs T ι H xs us):RV T ι H (.tup xs) (.ref a)
 | fl {xs:List AV} {us:List V} {a:Addr} (n:a∉ι.all) (h:Rd H a (.lst us)) (r:RVs T ι H xs us):RV T ι H (.fl xs) (.ref a)
 | kfl {xs:List AV} {us:List V} {a:Addr} (h:KL T.K a us) (r:RVs T ι H xs us):RV T ι H (.fl xs) (.ref a)
 | ref {k:Nat} {a:Addr} (h:ι.refs[k]? = some a):RV T ι H (.ref k) (.ref a)
 | exc {c:Nat} {C:Addr×Option Addr} {a:Addr} (n:a∉ι.all) (h:tV T ι H c C) (q:H a=some (ip a (.ref C.1) C.2)):RV T ι H (.exc c) (.ref a)
inductive RVs (T:Tb) (ι:Ix) (H:Hp):List AV->List V->Prop
 | nil:RVs T ι H [] []
 | cons {x:AV} {u:V} {xs:List AV} {us:List V} (r:RV T ι H x u) (rs:RVs T ι H xs us):RVs T ι H (x::xs) (u::us)
end
structure Grow (ι:Ix) (H:Hp) (ι':Ix) (H':Hp):Prop where
 pre:∃ n,ι'.refs=ι.refs++n/\∀ a∈n,H a=none
 priv:ι'.priv=ι.priv
 keep:∀ a o,a∉ι.refs->H a=some o->H' a=some o
 live:∀ a∈ι.all,H' a≠none
theorem yT:∀ {l:List Addr} {i j:Nat} {a:Addr},l.Nodup->l[i]? = some a->l[j]? = some a->i=j
 | [],_,_,_,_,e,_=>by simp at e
 | x::l,0,0,_,_,_,_=>rfl
 | x::l,0,j+1,a,n,e,f=>by
  simp at e f;subst e
  exact absurd (ND f) (N8.mp n).1
 | x::l,i+1,0,a,n,e,f=>by
  simp at e f;subst f
  exact absurd (ND e) (N8.mp n).1
 | x::l,i+1,j+1,a,n,e,f=>by
  simp at e f
  rw [yT (N8.mp n).2 e f]
theorem Ix.nr {ι:Ix} {a:Addr} (h:a∉ι.all):a∉ι.refs:=λz=>h (Nu _ z)
theorem Ix.np {ι:Ix} {a:Addr} (h:a∉ι.all):a∉ι.priv:=λz=>h (Ny _ z)
theorem Grow.refl {ι:Ix} {H:Hp} (l:∀ a∈ι.all,H a≠none):Grow ι H ι H:=⟨⟨[],by simp,by simp⟩,rfl,λ_ _ _ e=>e,l⟩
theorem Grow.at {ι ι':Ix} {H H':Hp} (g:Grow ι H ι' H') {k:Nat} {a:Addr} (h:ι.refs[k]? = some a):ι'.refs[k]? = some a:=by
 obtain ⟨n,e,_⟩:=g.pre
 rw [e,Nb (MY.mp h).1];exact h
theorem Grow.outR {ι ι':Ix} {H H':Hp} (g:Grow ι H ι' H') {a:Addr} {o:HO} (n:a∉ι.refs) (e:H a=some o):a∉ι'.refs:=λz=>by
 obtain ⟨m,e',hm⟩:=g.pre
 rw [e'] at z;rcases NV.mp z with z | z
 ·exact n z
 ·rw [hm a z] at e;cases e
theorem Grow.out {ι ι':Ix} {H H':Hp} (g:Grow ι H ι' H') {a:Addr} {o:HO} (n:a∉ι.all) (e:H a=some o):a∉ι'.all:=λz=>by
 rcases NV.mp z with z | z
 ·exact g.outR (Ix.nr n) e z
 ·rw [g.priv] at z;exact Ix.np n z
theorem Grow.trans {ι ι' ι'':Ix} {H H' H'':Hp} (g:Grow ι H ι' H') (k:Grow ι' H' ι'' H''):Grow ι H ι'' H'' := by
 obtain ⟨n,e1,hn⟩:=g.pre
 obtain ⟨m,e2,hm⟩:=k.pre
 refine ⟨⟨n++m,by rw [e2,e1];simp,λa ha=>?_⟩,k.priv.trans g.priv,λa o na e=>k.keep a o (g.outR na e) (g.keep a o na e),λa ha=>k.live a ?_⟩
 ·rcases NV.mp ha with z | z
  ·exact hn a z
  ·have q:=hm a z
   by_cases hi:a∈ι.refs
   ·exact absurd q (g.live a (Nu _ hi))
   ·cases e:H a with
    | none=>rfl
    | some o=>rw [g.keep a o hi e] at q;cases q
 ·rcases NV.mp ha with z | z
  ·exact Nu _ (by rw [e1];exact Nu _ z)
  ·exact Ny _ (by rw [g.priv];exact z)
structure Ext (ι:Ix) (H:Hp) (ι':Ix) (H':Hp):Prop where
 at_:∀ {k:Nat} {a:Addr},ι.refs[k]? = some a->ι'.refs[k]? = some a
 keep:∀ a o,a∉ι.all->H a=some o->H' a=some o
 out:∀ a o,a∉ι.all->H a=some o->a∉ι'.all
theorem Grow.ext {ι ι':Ix} {H H':Hp} (g:Grow ι H ι' H'):Ext ι H ι' H' := ⟨g.at,λa o n e=>g.keep a o (Ix.nr n) e,λa o n e=>g.out n e⟩
theorem Ext.trans {ι ι' ι'':Ix} {H H' H'':Hp} (g:Ext ι H ι' H') (k:Ext ι' H' ι'' H''):Ext ι H ι'' H'' :=
 ⟨λe=>k.at_ (g.at_ e),λa o n e=>k.keep a o (g.out a o n e) (g.keep a o n e),λa o n e=>k.out a o (g.out a o n e) (g.keep a o n e)⟩
theorem XdOk.ext {ι ι':Ix} {H H':Hp} {c:Nat} {dx:Option Addr} (x:XdOk ι H c dx) (g:Ext ι H ι' H'):XdOk ι' H' c dx:=λz=>by
 obtain ⟨d,e,n,q⟩:=x z
 exact ⟨d,e,g.out _ _ n q,g.keep _ _ n q⟩
theorem yU {ι ι':Ix} {H H':Hp} (g:Ext ι H ι' H') {a:Addr} {u:HO} (n:a∉ι.all) (r:Rd H a u):Rd H' a u:=by
 rcases r with r | ⟨o,r⟩
 ·exact .inl (g.keep a _ n r)
 ·exact .inr ⟨o,g.keep a _ n r⟩
theorem Gx {ι ι':Ix} {H H':Hp} (g:Ext ι H ι' H') {a:Addr} {u:HO} (n:a∉ι.all) (r:Rd H a u):a∉ι'.all:=by
 rcases r with r | ⟨o,r⟩
 ·exact g.out _ _ n r
 ·exact g.out _ _ n r
mutual
theorem RV.ext {T:Tb} {ι ι':Ix} {H H':Hp} (g:Ext ι H ι' H'):∀ {x:AV} {u:V},RV T ι H x u->RV T ι' H' x u
 | _,_,.non=>.non
 | _,_,.bl b=>.bl b
 | _,_,.int i=>.int i
 | _,_,.str n o=>.str n o
 | _,_,.tup n h r=>.tup (g.out _ _ n h) (g.keep _ _ n h) (RVs.ext g r)
 | _,_,.fl n h r=>.fl (Gx g n h) (yU g n h) (RVs.ext g r)
 | _,_,.kfl h r=>.kfl h (RVs.ext g r)
 | _,_,.ref h=>.ref (g.at_ h)
 | _,_,.exc n h q=>.exc (g.out _ _ n q) ⟨h.1,h.2.ext g⟩ (g.keep _ _ n q)
theorem RVs.ext {T:Tb} {ι ι':Ix} {H H':Hp} (g:Ext ι H ι' H'):∀ {xs:List AV} {us:List V},RVs T ι H xs us->RVs T ι' H' xs us
 | _,_,.nil=>.nil
 | _,_,.cons r rs=>.cons (RV.ext g r) (RVs.ext g rs)
end
theorem RV.mono {T:Tb} {ι ι':Ix} {H H':Hp} (g:Grow ι H ι' H') {x:AV} {u:V} (r:RV T ι H x u):RV T ι' H' x u:=r.ext g.ext
theorem RVs.mono {T:Tb} {ι ι':Ix} {H H':Hp} (g:Grow ι H ι' H') {xs:List AV} {us:List V} (r:RVs T ι H xs us):RVs T ι' H' xs us:=r.ext g.ext
section
variable {T:Tb} {ι:Ix} {H:Hp}
theorem RVs.length:∀ {xs:List AV} {us:List V},RVs T ι H xs us->xs.length=us.length
 | _,_,.nil=>rfl
 | _,_,.cons _ rs=>by simp [RVs.length rs]
theorem RVs.get:∀ {xs:List AV} {us:List V} {i:Nat} {x:AV},RVs T ι H xs us->xs[i]? = some x->∃ u,us[i]? = some u/\RV T ι H x u
 | _,_,_,_,.nil,e=>by simp at e
 | _,_,0,_,.cons r _,e=>by simp at e;subst e;exact ⟨_,rfl,r⟩
 | _,_,i+1,x,.cons _ t,e=>by
  obtain ⟨u,h1,h2⟩:=RVs.get (i:=i) (x:=x) t (by simpa using e)
  exact ⟨u,by simpa using h1,h2⟩
theorem RVs.append:∀ {xs ys:List AV} {us ws:List V},RVs T ι H xs us->RVs T ι H ys ws->RVs T ι H (xs++ys) (us++ws)
 | _,_,_,_,.nil,s=>s
 | _,_,_,_,.cons r t,s=>.cons r (RVs.append t s)
theorem RVs.set {x:AV} {u:V} (r:RV T ι H x u):∀ {xs:List AV} {us:List V} (i:Nat),RVs T ι H xs us->RVs T ι H (xs.set i x) (us.set i u)
 | _,_,_,.nil=>.nil
 | _,_,0,.cons _ t=>.cons r t
 | _,_,i+1,.cons q t=>.cons q (RVs.set r i t)
theorem RVs.take:∀ {xs:List AV} {us:List V} (n:Nat),RVs T ι H xs us->RVs T ι H (xs.take n) (us.take n)
 | _,_,0,_=>by simpa using RVs.nil
 | _,_,_+1,.nil=>.nil
 | _,_,n+1,.cons r t=>.cons r (RVs.take n t)
theorem RVs.drop:∀ {xs:List AV} {us:List V} (n:Nat),RVs T ι H xs us->RVs T ι H (xs.drop n) (us.drop n)
 | _,_,0,r=>r
 | _,_,_+1,.nil=>.nil
 | _,_,n+1,.cons _ t=>RVs.drop n t
end
def kA:aU->AV
 | .inl i=>.int i
 | .inr x=>.str x
def OR (T:Tb) (ι:Ix) (H:Hp):AO->HO->Prop
 | .lst xs,o=>∃ us,o = .lst us/\RVs T ι H xs us
 | .dct false kvs,o=>∃ kus:List (aU×V),o = .dK kus/\Paired (λ(p:AV×AV) (q:aU×V)=>p.1=kA q.1/\RV T ι H p.2 q.2) kvs kus
 | .dct true kvs,o=>∃ kus:List (List aU×V),o = .dT none kus/\Paired (λ(p:AV×AV) (q:List aU×V)=>p.1 = .tup (q.1.map kA)/\RV T ι H p.2 q.2) kvs kus
 | .dcx kvs,o=>∃ (ads:List Addr) (kus:List (List aU×V)),o = .dT (some ads) kus/\ads.length=kus.length/\Paired (λ(p:AV×AV) (q:Addr×List aU×V)=>p.1 = .tup (q.2.1.map kA)/\RV T ι H p.1 (.ref q.1)/\RV T ι H p.2 q.2.2) kvs (ads.zip kus)
 | .ins c fs,o=>∃ C dx fus,T.cls c=some C/\o = .ins C dx fus/\(fus.map (·.1)).Nodup/\(∀ p∈fus,p.1∈T.fields c)/\fs.length=(T.fields c).length /\
   ∀ (i:Nat) (v:AV),fs[i]? = some (some v)->∃ f u,(T.fields c)[i]? = some f/\fus.lookup f=some u/\RV T ι H v u
theorem OR.mono {T:Tb} {ι ι':Ix} {H H':Hp} (g:Grow ι H ι' H') {o:AO} {u:HO} (h:OR T ι H o u):OR T ι' H' o u:=by
 cases o with
 | lst xs=>obtain ⟨us,e,r⟩:=h;exact ⟨us,e,r.mono g⟩
 | dct t kvs =>
  cases t with
  | false=>obtain ⟨us,e,r⟩:=h;exact ⟨us,e,Paired.mapP r λ_ _ ⟨a,b⟩=>⟨a,b.mono g⟩⟩
  | true=>obtain ⟨us,e,r⟩:=h;exact ⟨us,e,Paired.mapP r λ_ _ ⟨a,b⟩=>⟨a,b.mono g⟩⟩
 | dcx kvs=>obtain ⟨ads,us,e,l,r⟩:=h;exact ⟨ads,us,e,l,Paired.mapP r λ_ _ ⟨a,b,c⟩=>⟨a,b.mono g,c.mono g⟩⟩
 | ins c fs =>
  obtain ⟨C,dx,fus,a,b,n,w,l,r⟩:=h
  refine ⟨C,dx,fus,a,b,n,w,l,λi v e=>?_⟩
  obtain ⟨f,u,e1,e2,q⟩:=r i v e
  exact ⟨f,u,e1,e2,q.mono g⟩
structure Sim (T:Tb) (ι:Ix) (h:AH) (H:Hp):Prop where
 len:ι.refs.length=h.length
 nd:ι.refs.Nodup
 plive:∀ a∈ι.priv,H a≠none
 obj:∀ (i:Nat) (o:AO) (a:Addr),h[i]? = some o->ι.refs[i]? = some a->∃ u,H a=some u/\OR T ι H o u
section
variable {T:Tb} {ι:Ix} {h:AH} {H:Hp}
theorem Sim.live (S:Sim T ι h H):∀ a∈ι.all,H a≠none:=λa ha z=>by
 rcases NV.mp ha with ha | ha
 ·obtain ⟨i,hi⟩:=List.mem_iff_getElem?.mp ha
  have hl:i<h.length:=by rw [<- S.len];exact (MY.mp hi).1
  obtain ⟨u,e,_⟩:=S.obj i h[i] a (by simp [hl]) hi
  rw [z] at e;cases e
 ·exact S.plive a ha z
theorem Sim.refl (S:Sim T ι h H):Grow ι H ι H:=.refl S.live
theorem Sim.fresh (S:Sim T ι h H) {p:Addr} (n:H p=none):p∉ι.all:=λz=>S.live p z n
theorem Sim.still (S:Sim T ι h H) {H':Hp} (g:Grow ι H ι H') (k:∀ a∈ι.refs,H' a=H a):Sim T ι h H' :=
 ⟨S.len,S.nd,λa ha=>g.live a (Ny _ ha),λi o a e1 e2=>by
  obtain ⟨u,e,r⟩:=S.obj i o a e1 e2
  exact ⟨u,by rw [k a (ND e2)];exact e,r.mono g⟩⟩
theorem Sim.growNew (S:Sim T ι h H) {p:Addr} {o:HO} (n:H p=none):Grow ι H ι (upd H p o) :=
 ⟨⟨[],by simp,by simp⟩,rfl,λa u _ e=>by rw [bG (fG e n)];exact e,λa ha=>by
  rw [bG (show a≠p from λz=>S.fresh n (z▸ha))];exact S.live a ha⟩
theorem Sim.new (S:Sim T ι h H) {p:Addr} {o:HO} (n:H p=none):Sim T ι h (upd H p o) :=
 S.still (S.growNew n) λa ha=>bG λz=>S.fresh n (z▸Nu _ ha)
def Ix.add (ι:Ix) (p:Addr):Ix:=⟨ι.refs++[p],ι.priv⟩
theorem Sim.growAdd (S:Sim T ι h H) {p:Addr} {u:HO} (n:H p=none):Grow ι H (ι.add p) (upd H p u) :=
 ⟨⟨[p],rfl,λa ha=>by have e:a=p:=(by simpa using ha);rw [e];exact n⟩,rfl,(S.growNew n).keep,(S.growNew n).live⟩
theorem Sim.add (S:Sim T ι h H) {p:Addr} {u:HO} {o:AO} (n:H p=none) (r:OR T (ι.add p) (upd H p u) o u):Sim T (ι.add p) (h++[o]) (upd H p u):=by
 refine ⟨by simp [Ix.add,S.len],?_,λa ha=>(S.growNew n).live a (Ny _ ha),λi o' a e1 e2=>?_⟩
 ·show (ι.refs++[p]).Nodup
  rw [Pt];exact ⟨S.nd,by simp,λa ha b hb z=>by have e:b=p:=(by simpa using hb);subst e;subst z;exact S.fresh n (Nu _ ha)⟩
 ·replace e2:(ι.refs++[p])[i]? = some a:=e2
  by_cases hi:i<h.length
  ·rw [Nb hi] at e1
   rw [Nb (by rw [S.len];exact hi)] at e2
   obtain ⟨v,e,q⟩:=S.obj i o' a e1 e2
   exact ⟨v,by rw [bG (fG e n)];exact e,q.mono (S.growAdd n)⟩
  ·have e3:i=h.length:=by
    have:=(MY.mp e1).1
    simp at this;lia
   subst e3;rw [NC (MZ _)] at e1;rw [NC (by rw [S.len];exact MZ _),S.len] at e2
   simp at e1 e2
   subst e1 e2
   exact ⟨u,dM,r⟩
theorem Sim.addAt (S:Sim T ι h H) {p:Addr}:(ι.add p).refs[h.length]? = some p:=by
 show (ι.refs++[p])[h.length]? = some p
 rw [<- S.len];simp
theorem Sim.growSet (S:Sim T ι h H) {i:Nat} {a:Addr} {u:HO} (e:ι.refs[i]? = some a):Grow ι H ι (upd H a u) :=
 ⟨⟨[],by simp,by simp⟩,rfl,λb o nb q=>by rw [bG (show b≠a from λz=>nb (by rw [z];exact ND e))];exact q,λb hb=>by
  by_cases z:b=a
  ·subst z;rw [dM];simp
  ·rw [bG z];exact S.live b hb⟩
theorem Sim.set (S:Sim T ι h H) {i:Nat} {a:Addr} {u:HO} {o:AO} (e:ι.refs[i]? = some a) (r:OR T ι (upd H a u) o u):Sim T ι (h.set i o) (upd H a u):=by
 refine ⟨by simp [S.len],S.nd,λb hb=>(S.growSet e).live b (Ny _ hb),λj o' b e1 e2=>?_⟩
 by_cases hj:j=i
 ·subst hj
  rw [e] at e2;cases e2
  have hl:j<h.length:=by rw [<- S.len];exact (MY.mp e).1
  rw [Na hl] at e1;cases e1
  exact ⟨u,dM,r⟩
 ·rw [M5 (Ne.symm hj)] at e1
  obtain ⟨v,q,r'⟩:=S.obj j o' b e1 e2
  have ne:b≠a:=λz=>hj (by
   subst z;exact yT S.nd e2 e)
  exact ⟨v,by rw [bG ne];exact q,r'.mono (S.growSet e)⟩
end
def Ix.hide (ι:Ix) (D:Addr):Ix:=⟨ι.refs,D::ι.priv⟩
theorem Ix.hide_all {ι:Ix} {D a:Addr}:a∉(ι.hide D).all ↔ a∉ι.all/\a≠D:=by
 unfold Ix.all Ix.hide
 simp only [NV,Np]
 constructor
 ·intro h;exact ⟨λz=>h (z.elim .inl λz=>.inr (.inr z)),λz=>h (.inr (.inl z))⟩
 ·rintro ⟨h1,h2⟩ (z | z | z)
  ·exact h1 (.inl z)
  ·exact h2 z
  ·exact h1 (.inr z)
section
variable {T:Tb} {ι:Ix} {H:Hp} {D:Addr}
theorem Ext.hide {o:HO} (hn:H D=none):Ext ι H (ι.hide D) (upd H D o):=⟨λe=>e,λa u n e=>by rw [bG (fG e hn)];exact e,λa u n e=>Ix.hide_all.mpr ⟨n,fG e hn⟩⟩
theorem Ext.poke {o:HO}:Ext (ι.hide D) H (ι.hide D) (upd H D o):=⟨λe=>e,λa u n e=>by rw [bG (Ix.hide_all.mp n).2];exact e,λa u n e=>n⟩
theorem Ext.show:Ext (ι.hide D) H ι H:=⟨λe=>e,λa u n e=>e,λa u n e=>(Ix.hide_all.mp n).1⟩
theorem OR.ext {ι ι':Ix} {H H':Hp} (g:Ext ι H ι' H') {o:AO} {u:HO} (h:OR T ι H o u):OR T ι' H' o u:=by
 cases o with
 | lst xs=>obtain ⟨us,e,r⟩:=h;exact ⟨us,e,r.ext g⟩
 | dct t kvs =>
  cases t with
  | false=>obtain ⟨us,e,r⟩:=h;exact ⟨us,e,Paired.mapP r λ_ _ ⟨a,b⟩=>⟨a,b.ext g⟩⟩
  | true=>obtain ⟨us,e,r⟩:=h;exact ⟨us,e,Paired.mapP r λ_ _ ⟨a,b⟩=>⟨a,b.ext g⟩⟩
 | dcx kvs=>obtain ⟨ads,us,e,l,r⟩:=h;exact ⟨ads,us,e,l,Paired.mapP r λ_ _ ⟨a,b,c⟩=>⟨a,b.ext g,c.ext g⟩⟩
 | ins c fs =>
  obtain ⟨C,dx,fus,a,b,n,w,l,r⟩:=h
  refine ⟨C,dx,fus,a,b,n,w,l,λi v e=>?_⟩
  obtain ⟨f,u,e1,e2,q⟩:=r i v e
  exact ⟨f,u,e1,e2,q.ext g⟩
theorem Sim.hide {h:AH} {o:HO} (S:Sim T ι h H) (hn:H D=none):Sim T (ι.hide D) h (upd H D o) :=
 ⟨S.len,S.nd,λa ha=>by
  rcases Np.mp ha with rfl | ha
  ·rw [dM];simp
  ·rw [bG (show a≠D from λz=>S.plive a ha (z▸hn))];exact S.plive a ha,λi o' a e1 e2=>by
  obtain ⟨u,e,r⟩:=S.obj i o' a e1 e2
  exact ⟨u,by rw [bG (fG e hn)];exact e,r.ext (Ext.hide hn)⟩⟩
theorem Sim.poke {h:AH} {o:HO} (S:Sim T (ι.hide D) h H) (hr:D∉ι.refs):Sim T (ι.hide D) h (upd H D o) :=
 ⟨S.len,S.nd,λa ha=>by
  by_cases z:a=D
  ·subst z;rw [dM];simp
  ·rw [bG z];exact S.plive a ha,λi o' a e1 e2=>by
  obtain ⟨u,e,r⟩:=S.obj i o' a e1 e2
  have ne:a≠D:=λz=>hr (z▸ND e2)
  exact ⟨u,by rw [bG ne];exact e,r.ext Ext.poke⟩⟩
theorem Sim.show {h:AH} (S:Sim T (ι.hide D) h H):Sim T ι h H :=
 ⟨S.len,S.nd,λa ha=>S.plive a (NI _ ha),λi o' a e1 e2=>by
  obtain ⟨u,e,r⟩:=S.obj i o' a e1 e2
  exact ⟨u,e,r.ext Ext.show⟩⟩
end
def ER (T:Tb) (ι:Ix) (H:Hp) (e:En) (σ:St):Prop:=e.length=σ.length/\∀ (i:Nat) (v:AV),e[i]? = some (some v)->∃ u,σ[i]? = some (some u)/\RV T ι H v u
theorem ER.mono {T:Tb} {ι ι':Ix} {H H':Hp} {e:En} {σ:St} (r:ER T ι H e σ) (g:Grow ι H ι' H'):ER T ι' H' e σ :=
 ⟨r.1,λi v q=>let ⟨u,a,b⟩:=r.2 i v q;⟨u,a,b.mono g⟩⟩
theorem ER.ext {T:Tb} {ι ι':Ix} {H H':Hp} {e:En} {σ:St} (r:ER T ι H e σ) (g:Ext ι H ι' H'):ER T ι' H' e σ :=
 ⟨r.1,λi v q=>let ⟨u,a,b⟩:=r.2 i v q;⟨u,a,b.ext g⟩⟩
theorem ER.set {T:Tb} {ι:Ix} {H:Hp} {e:En} {σ:St} (r:ER T ι H e σ) {v:AV} {u:V} (q:RV T ι H v u) (i:Nat):ER T ι H (e.set i (some v)) (σ.set i (some u)):=by
 refine ⟨by simp [r.1],λj w z=>?_⟩
 by_cases hj:j=i
 ·subst hj
  by_cases hl:j<e.length
  ·rw [Na hl] at z;cases z
   exact ⟨u,by rw [Na (by rw [<- r.1];exact hl)],q⟩
  ·rw [OL (by simpa using hl)] at z;cases z
 ·rw [M5 (Ne.symm hj)] at z ⊢
  exact r.2 j w z
theorem ER.unset {T:Tb} {ι:Ix} {H:Hp} {e:En} {σ:St} (r:ER T ι H e σ) (i:Nat):ER T ι H (e.set i none) (σ.set i none):=by
 refine ⟨by simp [r.1],λj w z=>?_⟩
 by_cases hj:j=i
 ·subst hj
  by_cases hl:j<e.length
  ·rw [Na hl] at z;cases z
  ·rw [OL (by simpa using hl)] at z;cases z
 ·rw [M5 (Ne.symm hj)] at z ⊢
  exact r.2 j w z
def Post {α β:Type} (T:Tb) (ι:Ix) (H:Hp) (E:XK) (R:Ix->Hp->α->β->Prop) (o:Out α) (Q:β->Hp->Prop):Prop :=
 match o with
 | .ok v h' => ∀ ι' H' u,Grow ι H ι' H'->Sim T ι' h' H'->R ι' H' v u->Q u H'
 | .ex c h' => ∀ ι' H' C,Grow ι H ι' H'->Sim T ι' h' H'->tV T ι' H' c C->E (.ref C.1) C.2 H'
 | .bad=>False
def PostS (T:Tb) (ι:Ix) (H:Hp) (E:St->XK) (o:OutS) (D:cU):Prop :=
 match o with
 | .nx e h' => ∀ ι' H' σ',Grow ι H ι' H'->Sim T ι' h' H'->ER T ι' H' e σ'->D.nx σ' H'
 | .bk e h' => ∀ ι' H' σ',Grow ι H ι' H'->Sim T ι' h' H'->ER T ι' H' e σ'->D.bk σ' H'
 | .ct e h' => ∀ ι' H' σ',Grow ι H ι' H'->Sim T ι' h' H'->ER T ι' H' e σ'->D.ct σ' H'
 | .rt v h' => ∀ ι' H' u,Grow ι H ι' H'->Sim T ι' h' H'->RV T ι' H' v u->D.rt u H'
 | .ex c e h' => ∀ ι' H' σ' C,Grow ι H ι' H'->Sim T ι' h' H'->ER T ι' H' e σ'->tV T ι' H' c C->E σ' (.ref C.1) C.2 H'
 | .bad=>False
abbrev Gy {α:Type}:Ix->Hp->α->α->Prop:=λ_ _ a b=>a=b
section
variable {T:Tb} {ι ι':Ix} {h:AH} {H H':Hp} {α β γ δ:Type} {E:XK} {R:Ix->Hp->α->β->Prop} {R':Ix->Hp->γ->δ->Prop}
theorem Post.shift {o:Out α} {Q:β->Hp->Prop} (p:Post T ι H E R o Q) (g:Grow ι H ι' H'):Post T ι' H' E R o Q:=by
 cases o with
 | ok v h' => exact λi2 H2 u g2=>p i2 H2 u (g.trans g2)
 | ex c h' => exact λi2 H2 C g2=>p i2 H2 C (g.trans g2)
 | bad=>exact p
theorem Post.bind {o:Out α} {f:α->AH->Out γ} {Q:δ->Hp->Prop} {Q1:β->Hp->Prop} (p:Post T ι H E R' (o.bind f) Q)
  (k:∀ v h' ι' H' u,Grow ι H ι' H'->Sim T ι' h' H'->R ι' H' v u->Post T ι' H' E R' (f v h') Q->Q1 u H'):Post T ι H E R o Q1:=by
 cases o with
 | ok v h' => exact λi2 H2 u g S r=>k v h' i2 H2 u g S r (Post.shift p g)
 | ex c h' => exact p
 | bad=>exact p
theorem Post.now {v:α} {u:β} {Q:β->Hp->Prop} (p:Post T ι H E R (.ok v h) Q) (S:Sim T ι h H) (r:R ι H v u):Q u H:=p ι H u S.refl S r
theorem PostS.shift {E:St->XK} {o:OutS} {D:cU} (p:PostS T ι H E o D) (g:Grow ι H ι' H'):PostS T ι' H' E o D:=by
 cases o with
 | nx e h' => exact λi2 H2 u g2=>p i2 H2 u (g.trans g2)
 | bk e h' => exact λi2 H2 u g2=>p i2 H2 u (g.trans g2)
 | ct e h' => exact λi2 H2 u g2=>p i2 H2 u (g.trans g2)
 | rt v h' => exact λi2 H2 u g2=>p i2 H2 u (g.trans g2)
 | ex c e h' => exact λi2 H2 u C g2=>p i2 H2 u C (g.trans g2)
 | bad=>exact p
theorem PostS.go {E:St->XK} {o:Out α} {en:En} {σ:St} {f:α->AH->OutS} {D:cU} {Q1:β->Hp->Prop} (p:PostS T ι H E (o.go en f) D) (er:ER T ι H en σ)
  (k:∀ v h' ι' H' u,Grow ι H ι' H'->Sim T ι' h' H'->R ι' H' v u->PostS T ι' H' E (f v h') D->Q1 u H'):Post T ι H (E σ) R o Q1:=by
 cases o with
 | ok v h' => exact λi2 H2 u g S r=>k v h' i2 H2 u g S r (PostS.shift p g)
 | ex c h' => exact λi2 H2 C g S e=>p i2 H2 σ C g S (er.mono g) e
 | bad=>exact p
end
def tE (T:Tb) (E:St->XK) (a:SE):TE:=λσ H Q=>∃ ι h en,Sim T ι h H/\ER T ι H en σ/\Post T ι H (E σ) (RV T) (a en h) Q
def tT (T:Tb) (E:St->XK) (a:SB):TT:=λσ H Q=>∃ ι h en,Sim T ι h H/\ER T ι H en σ/\Post T ι H (E σ) Gy (a en h) Q
def tA (T:Tb) (E:St->XK) (a:SL):TA:=λσ H Q=>∃ ι h en,Sim T ι h H/\ER T ι H en σ/\Post T ι H (E σ) (RVs T) (a en h) Q
def tS (T:Tb) (E:St->XK) (b:SS):TS:=λD σ H=>∃ ι h en,Sim T ι h H/\ER T ι H en σ/\PostS T ι H E (b en h) D
abbrev aL (T:Tb) (E:St->XK) (X:Cx) (e:Expr) (a:SE):Prop:=PE X e (tE T E a)
abbrev g8 (T:Tb) (E:St->XK) (X:Cx) (e:Expr) (a:SB):Prop:=PT X e (tT T E a)
abbrev kI (T:Tb) (E:St->XK) (X:Cx) (e:Expr) (a:SB):Prop:=PW X e (tT T E a)
abbrev fI (T:Tb) (E:St->XK) (X:Cx) (es:List Expr) (a:SL):Prop:=PA X es (tA T E a)
abbrev gr (T:Tb) (E:St->XK) (X:Cx) (st:Stmt) (b:SS):Prop:=PS X st (tS T E b)
abbrev cR (T:Tb) (E:St->XK) (X:Cx) (sts:List Stmt) (b:SS):Prop:=fN X sts (tS T E b)
theorem cw {X:Cx} {e:Expr} {t t':TE} (h:PE X e t) (k:∀ σ H Q,t' σ H Q->t σ H Q):PE X e t' := λpins s σ H Q I q=>h pins s σ H Q I (k σ H Q q)
theorem nv {X:Cx} {e:Expr} {t t':TT} (h:PT X e t) (k:∀ σ H Q,t' σ H Q->t σ H Q):PT X e t' := λpins s σ H Q I q=>h pins s σ H Q I (k σ H Q q)
theorem yV {X:Cx} {e:Expr} {t t':TT} (h:PW X e t) (k:∀ σ H Q,t' σ H Q->t σ H Q):PW X e t' := λw pins s σ H Q I q=>h w pins s σ H Q I (k σ H Q q)
theorem yW {X:Cx} {e:List Expr} {t t':TA} (h:PA X e t) (k:∀ σ H Q,t' σ H Q->t σ H Q):PA X e t' := λp pins s σ H Q I q=>h p pins s σ H Q I (k σ H Q q)
theorem g9 {X:Cx} {e:Stmt} {t t':TS} (h:PS X e t) (k:∀ D σ H,t' D σ H->t D σ H):PS X e t' := λpins s σ H D I q=>h pins s σ H D I (k D σ H q)
theorem yX {X:Cx} {e:List Stmt} {t t':TS} (h:fN X e t) (k:∀ D σ H,t' D σ H->t D σ H):fN X e t' := λpins s σ H D I q=>h pins s σ H D I (k D σ H q)
theorem Gz {X:Cx} {st:Stmt} {t:TS} (h:PS X.nox st t):PS X st t:=λpins s σ H D I hw=>by
 refine NP (h pins s σ H D (I.wish _) hw) (λf s' q=>SP.unwish q) λ_ _ z=>z.elim
instance:DecidableEq AV:=λ_ _=>Classical.propDecidable _
@[simp] def ae (i:Nat):SE:=λen h=>match en[i]? with
 | some (some v)=>.ok v h
 | _=>.bad
@[simp] def af (v:AV):SE:=λ_ h=>.ok v h
abbrev F1:=AV->AH->Out AV
abbrev F2:=AV->AV->AH->Out AV
@[simp] def ji (f:F1) (a:SE):SE:=λen h=>(a en h).bind f
@[simp] def ah (f:F2) (a b:SE):SE:=λen h=>(a en h).bind λx h1=>(b en h1).bind λy h2=>f x y h2
@[simp] def ag:SL:=λ_ h=>.ok [] h
@[simp] def aj (a:SE) (r:SL):SL:=λen h=>(a en h).bind λx h1=>(r en h1).bind λxs h2=>.ok (x::xs) h2
@[simp] def aC (F:Fn) (as:SL):SE:=λen h=>(as en h).bind F
@[simp] def bu (as:SL):SE:=λen h=>(as en h).bind λxs h1=>if xs.length<=1000 then .ok (.tup xs) h1 else .bad
@[simp] def aN (as:SL):SE:=λen h=>(as en h).bind λxs h1=>if xs.length<=1000 then .ok (.fl xs) h1 else .bad
@[simp] def gE (as:SL):SE:=λen h=>(as en h).bind λxs h1=>if xs.length<=1000 then .ok (.ref h1.length) (h1++[.lst xs]) else .bad
@[simp] def kJ (t:Bool):SE:=λ_ h=>.ok (.ref h.length) (h++[.dct t []])
@[simp] def MW (v:AV) (h:AH):Option (List AV):=match v with
 | .tup xs=>some xs
 | .fl xs=>some xs
 | .ref n=>match h[n]? with
  | some (.lst xs)=>some xs
  | _=>none
 | _=>none
@[simp] def gs (v:AV) (h:AH):Option (List AV):=match v with
 | .fl xs=>some xs
 | .ref n=>match h[n]? with
  | some (.lst xs)=>some xs
  | _=>none
 | _=>none
@[simp] def aE:F2:=λx y h=>match x,y with
 | .int i,.int j=>.ok (.int (i+j)) h
 | .str i,.str j=>if i.length+j.length<=sizeLine then .ok (.str (i++j)) h else .bad
 | .tup xs,.tup ys=>if xs≠[]/\xs.length+ys.length<=sizeLine then .ok (.tup (xs++ys)) h else .bad
 | x,y=>match gs x h,gs y h with
  | some xs,some ys=>if xs.length+ys.length<=sizeLine then .ok (.fl (xs++ys)) h else .bad
  | _,_=>.bad
@[simp] def bH:F2:=λx y h=>match x,y with
 | .int i,.int j=>.ok (.int (i-j)) h
 | _,_=>.bad
@[simp] def bL:F2:=λx y h=>match x,y with
 | .int i,.int j=>if (i.natAbs<2 ^ 64\/j.natAbs<2 ^ 64)\/(i.natAbs<2 ^ 4000/\j.natAbs<2 ^ 4000) then .ok (.int (i*j)) h else .bad
 | _,_=>.bad
@[simp] def cg:F2:=λx y h=>match x,y with
 | .int i,.int j=>if 0<j/\j.natAbs<2 ^ 200 then .ok (.int (i / j)) h else .bad
 | _,_=>.bad
@[simp] def bB:F2:=λx y h=>match x,y with
 | .int i,.int j=>if 0<j then .ok (.int (i % j)) h else .bad
 | _,_=>.bad
@[simp] def cx:F2:=λx y h=>match x,y with
 | .int i,.int j=>if 0<=j/\j<=1000000/\i.natAbs<2 ^ 64 then .ok (.int (i ^ j.toNat)) h else .bad
 | _,_=>.bad
@[simp] def fQ:F1:=λx h=>match x with
 | .int i=>.ok (.int (-i)) h
 | _=>.bad
def bP (f:AV->Option PyData):List AV->Option (List PyData)
 | []=>some []
 | x::xs=>match f x,bP f xs with
  | some d,some ds=>some (d::ds)
  | _,_=>none
def bK:Nat->AH->AV->Option PyData
 | 0,_,v=>match v with
  | .non=>some .none
  | .bl b=>some (.bool b)
  | .int i=>some (.int i)
  | .str x=>some (.str x)
  | _=>none
 | n+1,h,v=>match v with
  | .non=>some .none
  | .bl b=>some (.bool b)
  | .int i=>some (.int i)
  | .str x=>some (.str x)
  | .tup xs=>(bP (bK n h) xs).map .tuple
  | .fl xs=>(bP (bK n h) xs).map .list
  | .ref k=>match h[k]? with
   | some (.lst xs)=>(bP (bK n h) xs).map .list
   | _=>none
  | .exc _=>none
@[simp] def gF (x y:AV) (h:AH):Option Bool:=match x,y with
 | .int i,.int j=>some (decide (i=j))
 | .str i,.str j=>some (decide (i=j))
 | .bl i,.bl j=>some (decide (i=j))
 | .non,.non=>some true
 | x,y=>match bK 8 h x,bK 8 h y with
  | some d,some e=>some (PyData.eqv d e)
  | _,_=>none
@[simp] def aG:F2:=λx y h=>match gF x y h with
 | some b=>.ok (.bl b) h
 | none=>.bad
@[simp] def fR:F2:=λx y h=>match gF x y h with
 | some b=>.ok (.bl (!b)) h
 | none=>.bad
@[simp] def dS:F2:=λx y h=>match x,y with
 | .int i,.int j=>.ok (.bl (decide (i<j))) h
 | .str i,.str j=>.ok (.bl (decide (i.cps.toList<j.cps.toList))) h
 | _,_=>.bad
@[simp] def bC:F2:=λx y h=>match x,y with
 | .int i,.int j=>.ok (.bl (decide (i<=j))) h
 | .str i,.str j=>.ok (.bl (!decide (j.cps.toList<i.cps.toList))) h
 | _,_=>.bad
@[simp] def eZ:F2:=λx y h=>match x,y with
 | .int i,.int j=>.ok (.bl (decide (j<i))) h
 | _,_=>.bad
@[simp] def jR:F2:=λx y h=>match x,y with
 | .int i,.int j=>.ok (.bl (decide (j<=i))) h
 | _,_=>.bad
@[simp] def gG:F2:=λx y h=>match y with
 | .non=>.ok (.bl (decide (x = .non))) h
 | _=>.bad
@[simp] def jl (v:AV) (h:AH):Option Bool:=match v with
 | .non=>some false
 | .bl b=>some b
 | .int i=>some (i != 0)
 | .str y=>some ((y.length:Int) != 0)
 | .tup xs=>some (!xs.isEmpty)
 | .fl xs=>some (!xs.isEmpty)
 | .ref n=>match h[n]? with
  | some (.lst xs)=>some (!xs.isEmpty)
  | some (.dct false kvs)=>some (!kvs.isEmpty)
  | _=>none
 | _=>none
@[simp] def iP (a:SE):SB:=λen h=>(a en h).bind λv h1=>match jl v h1 with
 | some b=>.ok b h1
 | none=>.bad
@[simp] def aM (a:SE):SB:=λen h=>(a en h).bind λv h1=>match v with
 | .bl b=>.ok b h1
 | _=>.bad
@[simp] def kK (a b:SB):SB:=λen h=>(a en h).bind λx h1=>if x=true then b en h1 else .ok false h1
@[simp] def nz (a b:SB):SB:=λen h=>(a en h).bind λx h1=>if x=true then .ok true h1 else b en h1
@[simp] def dG (a:SB):SB:=λen h=>(a en h).bind λx h1=>.ok (!x) h1
@[simp] def jS (a b:SE):SE:=λen h=>(a en h).bind λv h1=>match v with
 | .bl k=>if k=true then b en h1 else .ok (.bl false) h1
 | _=>.bad
@[simp] def e7 (a b:SE):SE:=λen h=>(a en h).bind λv h1=>match v with
 | .bl k=>if k=true then .ok (.bl true) h1 else b en h1
 | _=>.bad
@[simp] def hE (a:SE):SE:=λen h=>(a en h).bind λv h1=>match v with
 | .bl b=>.ok (.bl (!b)) h1
 | _=>.bad
@[simp] def dU (f f':F2) (a b c:SE):SE:=λen h=>(a en h).bind λx h1=>(b en h1).bind λy h2=>(f x y h2).bind λz h3=>match z with
 | .bl k=>if k=true then (c en h3).bind λw h4=>f' y w h4 else .ok (.bl false) h3
 | _=>.bad
@[simp] def aT:SS:=λen h=>.nx en h
@[simp] def ao (a b:SS):SS:=λen h=>match a en h with
 | .nx e h' => b e h'
 | o=>o
@[simp] def bI (a:SE):SS:=λen h=>(a en h).go en λ_ h' => .nx en h'
@[simp] def ay (a:SE):SS:=λen h=>(a en h).go en λv h' => .rt v h'
@[simp] def aS (c:SB) (a b:SS):SS:=λen h=>(c en h).go en λx h' => if x=true then a en h' else b en h'
@[simp] def aB (i:Nat) (a:SE):SS:=λen h=>(a en h).go en λv h' => .nx (en.set i (some v)) h'
abbrev SI:=En->AH->Out (List AV×Option Nat)
@[simp] def fS (w:Option Nat) (xs:List AV) (h:AH):Bool:=match w with
 | none=>true
 | some n=>match h[n]? with
  | some (.lst ys)=>decide (ys=xs)
  | _=>false
inductive Tg where
 | nm (i:Nat)
 | tup (is:List Nat)
 | nst (i:Nat) (is:List Nat)
@[simp] def pT:List Nat->List AV->En->Option En
 | [],[],en=>some en
 | i::is,x::xs,en=>pT is xs (en.set i (some x))
 | _,_,_=>none
@[simp] def fg (t:Tg) (v:AV) (en:En):Option En:=match t,v with
 | .nm i,v=>some (en.set i (some v))
 | .tup is,.tup xs=>pT is xs en
 | .nst i is,.tup [y,.tup xs]=>pT is xs (en.set i (some y))
 | _,_=>none
def gu (w:Option Nat) (all:List AV) (t:Tg) (b:SS):List AV->SS
 | []=>λen h=>if fS w all h=true then .nx en h else .bad
 | x::xs=>λen h=>if fS w all h=true then
   (match fg t x en with
   | some e1=>(match b e1 h with
    | .nx e2 h2=>gu w all t b xs e2 h2
    | .ct e2 h2=>gu w all t b xs e2 h2
    | .bk e2 h2=>.nx e2 h2
    | .rt v h2=>.rt v h2
    | _=>.bad)
   | none=>.bad) else .bad
@[simp] def cy (it:SI) (t:Tg) (b:SS):SS:=λen h=>match it en h with
 | .ok (xs,w) h1=>gu w xs t b xs en h1
 | _=>.bad
@[simp] def pU (t:Tg) (a:SE):SS:=λen h=>(a en h).go en λv h' => match fg t v en with
 | some e=>.nx e h'
 | none=>.bad
@[simp] def cW (a:SE):SI:=λen h=>(a en h).bind λv h1=>match v with
 | .fl xs=>.ok (xs,none) h1
 | .tup xs=>.ok (xs,none) h1
 | .str z=>.ok (z.cps.toList.map (λc=>.str ⟨#[c]⟩),none) h1
 | .ref n=>match h1[n]? with
  | some (.lst xs)=>.ok (xs,some n) h1
  | _=>.bad
 | _=>.bad
def cP (lo:Int):Nat->List AV
 | 0=>[]
 | n+1=>.int lo::cP (lo+1) n
@[simp] def hJ (a:SE):SI:=λen h=>(a en h).bind λv h1=>match v with
 | .int j=>if j.natAbs<2 ^ 62 then .ok (cP 0 j.toNat,none) h1 else .bad
 | _=>.bad
def numbered (k:Nat):List AV->List AV
 | []=>[]
 | x::xs=>.tup [.int k,x]::numbered (k+1) xs
@[simp] def iEnum (a:SE):SI:=λen h=>(a en h).bind λv h1=>match v with
 | .fl xs=>.ok (numbered 0 xs,none) h1
 | _=>.bad
def eu (js:List Nat) (en:En) (w:Option Nat) (all:List AV) (c:SB) (e:SE):List AV->List AV->AH->Out (List AV)
 | [],ys,h=>if fS w all h=true then .ok ys h else .bad
 | x::xs,ys,h=>if fS w all h=true/\ys.length<sizeLine then
   (match c (some x::js.map λj=>(en[j]?).join) h with
   | .ok true h1=>(match e (some x::js.map λj=>(en[j]?).join) h1 with
    | .ok v h2=>eu js en w all c e xs (ys++[v]) h2
    | _=>.bad)
   | .ok false h1=>eu js en w all c e xs ys h1
   | _=>.bad) else .bad
@[simp] def bZ:SB:=λ_ h=>.ok true h
@[simp] def fi (js:List Nat) (it:SI) (c:SB) (e:SE):SE:=λen h=>match it en h with
 | .ok (xs,w) h1=>(match eu js en w xs c e xs [] h1 with
  | .ok ys h2=>.ok (.fl ys) h2
  | _=>.bad)
 | _=>.bad
@[simp] def aD (n m:Nat) (b:SS):Fn:=λargs h =>
 if args.length=n then
  match b (args.map some++List.replicate (m-n) none) h with
  | .nx _ h' => .ok .non h'
  | .rt v h' => .ok v h'
  | .ex c _ h' => .ex c h'
  | _=>.bad
 else .bad
@[simp] def aI (c:Nat) (F:Fn) (o:SE) (as:SL):SE:=λen h=>(o en h).bind λx h1=>match x with
 | .ref n=>match h1[n]? with
  | some (.ins c' _)=>if c'=c then (as en h1).bind λxs h2=>F (x::xs) h2 else .bad
  | _=>.bad
 | _=>.bad
@[simp] def lV (c k:Nat) (F:Fn) (as:SL):SE:=λen h=>(as en h).bind λxs h1=>match F (.ref h1.length::xs) (h1++[.ins c (List.replicate k none)]) with
 | .ok .non h2=>.ok (.ref h1.length) h2
 | .ex c h2=>.ex c h2
 | _=>.bad
@[simp] def sFld (c i:Nat) (o:SE):SE:=λen h=>(o en h).bind λx h1=>match x with
 | .ref n=>match h1[n]? with
  | some (.ins c' fs)=>if c'=c then (match fs[i]? with | some (some v)=>.ok v h1 | _=>.bad) else .bad
  | _=>.bad
 | _=>.bad
@[simp] def gH (c i:Nat) (o v:SE):SS:=λen h=>(v en h).go en λy h1=>(o en h1).go en λx h2=>match x with
 | .ref n=>match h2[n]? with
  | some (.ins c' fs)=>if c'=c then .nx en (h2.set n (.ins c (fs.set i (some y)))) else .bad
  | _=>.bad
 | _=>.bad
@[simp] def tW (c:Nat) (as:SL):SS:=λen h=>(as en h).go en λxs h1=>if xs.length<=1000 then .ex c en h1 else .bad
@[simp] def keyOf? (v:AV):Option aU:=match v with
 | .int i=>some (.inl i)
 | .str x=>some (.inr x)
 | _=>none
@[simp] def keysOf? : List AV->Option (List aU)
 | []=>some []
 | v::r=>match keyOf? v,keysOf? r with
  | some k,some ks=>some (k::ks)
  | _,_=>none
@[simp] def d0 (t:Bool) (v:AV):Bool:=match t,v with
 | false,v=>(keyOf? v).isSome
 | true,.tup xs=>(keysOf? xs).isSome
 | true,_=>false
def bF (kvs:List (AV×AV)) (k:AV):Option AV:=(kvs.find? λp=>decide (p.1=k)).map (·.2)
def eB (kvs:List (AV×AV)) (k v:AV):List (AV×AV) :=
 if kvs.any (λp=>decide (p.1=k)) then kvs.map λp=>if p.1=k then (p.1,v) else p else kvs++[(k,v)]
@[simp] def aw:F2:=λx y h=>match x,y with
 | .str z,.int i=>match atI z.cps.toList i with
  | some c=>.ok (.str ⟨#[c]⟩) h
  | none=>.bad
 | .tup xs,.int i=>match atI xs i with
  | some v=>.ok v h
  | none=>.bad
 | .fl xs,.int i=>match atI xs i with
  | some v=>.ok v h
  | none=>.bad
 | .ref n,y=>match h[n]? with
  | some (.lst xs)=>match y with
   | .int i=>match atI xs i with
    | some v=>.ok v h
    | none=>.bad
   | _=>.bad
  | some (.dct t kvs)=>if d0 t y then (match bF kvs y with | some v=>.ok v h | none=>.bad) else .bad
  | _=>.bad
 | _,_=>.bad
@[simp] def fT (o i v:SE):SS:=λen h=>(v en h).go en λz h1=>(o en h1).go en λx h2=>(i en h2).go en λy h3=>match x with
 | .ref n=>match h3[n]? with
  | some (.lst xs)=>match y with
   | .int k=>match ja xs.length k with
    | some j=>.nx en (h3.set n (.lst (xs.set j z)))
    | none=>.bad
   | _=>.bad
  | some (.dct t kvs)=>if d0 t y=true/\kvs.length<sizeLine then .nx en (h3.set n (.dct t (eB kvs y z))) else .bad
  | _=>.bad
 | _=>.bad
@[simp] def kL (x y:AV) (h:AH):Option Bool:=match x,y with
 | .str i,.str j=>some (!(Builtin.Str.occurrences j i 0 j.length 1).isEmpty)
 | x,.ref n=>match h[n]? with
  | some (.dct t kvs)=>if d0 t x then some (bF kvs x).isSome else none
  | some (.lst xs)=>match bK 8 h x,bP (bK 8 h) xs with
   | some d,some ds=>some (ds.any λe=>PyData.eqv e d)
   | _,_=>none
  | _=>none
 | x,.fl xs=>match bK 8 h x,bP (bK 8 h) xs with
  | some d,some ds=>some (ds.any λe=>PyData.eqv e d)
  | _,_=>none
 | x,.tup xs=>match bK 8 h x,bP (bK 8 h) xs with
  | some d,some ds=>some (ds.any λe=>PyData.eqv e d)
  | _,_=>none
 | _,_=>none
@[simp] def pV:F2:=λx y h=>match kL x y h with
 | some b=>.ok (.bl b) h
 | none=>.bad
@[simp] def dH:F2:=λx y h=>match kL x y h with
 | some b=>.ok (.bl (!b)) h
 | none=>.bad
@[simp] def aJ:Fn:=λargs h=>match args with
 | [.str x]=>.ok (.int x.length) h
 | [.tup xs]=>.ok (.int xs.length) h
 | [.fl xs]=>.ok (.int xs.length) h
 | [.ref n]=>match h[n]? with
  | some (.lst xs)=>.ok (.int xs.length) h
  | some (.dct false kvs)=>.ok (.int kvs.length) h
  | _=>.bad
 | _=>.bad
@[simp] def kM:Fn:=λargs h=>match args with
 | [.int i]=>.ok (.int (if i<0 then -i else i)) h
 | _=>.bad
@[simp] def fk:Fn:=λargs h=>match args with
 | [.int i,.int j]=>.ok (.int (if j > i then j else i)) h
 | _=>.bad
@[simp] def lW:Fn:=λargs h=>match args with
 | [.int i,.int j]=>.ok (.int (if j<i then j else i)) h
 | _=>.bad
@[simp] def nB:List AV->Option (List Bool)
 | []=>some []
 | .bl b::r=>(nB r).map (b :: ·)
 | _::_=>none
@[simp] def gI:Fn:=λargs h=>match args with
 | [.fl xs]=>match nB xs with
  | some bs=>.ok (.bl (bs.all id)) h
  | none=>.bad
 | _=>.bad
@[simp] def bJ:Fn:=λargs h=>match args with
 | [.int i]=>.ok (.int i) h
 | [.bl k]=>.ok (.int (if k then 1 else 0)) h
 | _=>.bad
@[simp] def jT (v:AV) (h:AH):Option String:=match v with
 | .non=>some "NoneType"
 | .bl _=>some "bool"
 | .int _=>some "int"
 | .str _=>some "str"
 | .tup _=>some "tuple"
 | .fl _=>some "list"
 | .ref n=>match h[n]? with
  | some (.lst _)=>some "list"
  | some (.dct _ _)=>some "dict"
  | _=>none
 | .exc _=>none
@[simp] def fq (t:String) (a:SE):SE:=λen h=>(a en h).bind λv h1=>match jT v h1 with
 | some n=>.ok (.bl (n == t || (t == "int" && n == "bool"))) h1
 | none=>.bad
abbrev FM:=AV->List AV->AH->Out AV
@[simp] def cn (v:AV) (h:AH):Bool:=(gs v h).isSome
@[simp] def tX (v:AV) (_:AH):Bool:=match v with
 | .str _=>true
 | _=>false
@[simp] def d5 (chk:AV->AH->Bool) (f:FM) (o:SE) (as:SL):SE:=λen h=>(o en h).bind λx h1=>if chk x h1=true then (as en h1).bind λxs h2=>f x xs h2 else .bad
@[simp] def jm (chk:AV->AH->Bool) (f:FM) (o:SE):SE:=λen h=>(o en h).bind λx h1=>if chk x h1=true then f x [] h1 else .bad
@[simp] def cG:FM:=λx vs h=>match x,vs with
 | .ref n,[y]=>match h[n]? with
  | some (.lst xs)=>if xs.length<sizeLine then .ok .non (h.set n (.lst (xs++[y]))) else .bad
  | _=>.bad
 | _,_=>.bad
@[simp] def fu:FM:=λx vs h=>match x,vs with
 | .ref n,[]=>match h[n]? with
  | some (.lst xs)=>match xs[xs.length-1]? with
   | some y=>.ok y (h.set n (.lst xs.dropLast))
   | none=>.bad
  | _=>.bad
 | _,_=>.bad
@[simp] def tY:FM:=λx vs h=>match x,vs with
 | .str z,[.str y]=>.ok (.int ((Builtin.Str.occurrences z y 0 z.length (z.length+1)).length:Nat)) h
 | _,_=>.bad
def dW {α:Type} (xs:List α) (lo hi:Option Int):List α:=(xs.drop (HT.sIx xs.length 0 lo)).take (HT.sIx xs.length xs.length hi-HT.sIx xs.length 0 lo)
structure CA (T:Tb) (E:St->XK) (X:Cx):Prop where
 hK:X.K=T.K
 pass:kH (cT X.prog X.w) X E
abbrev EN:St->XK:=λ_=>E0
theorem CA.nox {T:Tb} {E:St->XK} {X:Cx} (c:CA T E X):CA T EN X.nox:=⟨c.hK,λ_ _ _ _ _ _ _ h=>by
 obtain ⟨_,_,_,_,_,_,_,_,_,_,_,_,_,_,_,_,q⟩:=h
 exact q.elim⟩
theorem CA.never {T:Tb} {X:Cx} (hK:X.K=T.K):CA T EN X:=⟨hK,λ_ _ _ _ _ _ _ h=>by
 obtain ⟨_,_,_,_,_,_,_,_,_,_,_,_,_,_,_,_,q⟩:=h
 exact q.elim⟩
section
variable {T:Tb} {ι:Ix} {h:AH} {H:Hp}
theorem gv {x:AV} {u:V} {xs:List AV} (S:Sim T ι h H) (r:RV T ι H x u) (e:gs x h=some xs):∃ a us,u = .ref a/\SqL T.K H a us/\RVs T ι H xs us:=by
 unfold gs at e
 cases r with
 | fl n q r=>cases e;exact ⟨_,_,rfl,.inl q,r⟩
 | kfl q r=>cases e;exact ⟨_,_,rfl,.inr q,r⟩
 | @ref k a q =>
  dsimp only at e
  split at e
  ·rename_i ys hk
   cases e
   obtain ⟨u,e1,us,rfl,r⟩:=S.obj k _ a hk q
   exact ⟨a,us,rfl,.inl (.inl e1),r⟩
  ·cases e
 | _=>cases e
theorem kN {u:V} {xs:List AV} (r:RV T ι H (.tup xs) u):∃ a us,u = .ref a/\SqT T.K H a us/\RVs T ι H xs us:=by
 cases r with
 | tup n q r=>exact ⟨_,_,rfl,.of q,r⟩
theorem eC {u:V} {x:Str} (r:RV T ι H (.str x) u):u = .str x/\x.length<=sizeLine/\x.cps.all (· < 0x110000)=true:=by
 cases r with
 | str n o=>exact ⟨rfl,n,o⟩
theorem bT {u:V} {i:Int} (r:RV T ι H (.int i) u):u = .int i:=by cases r;rfl
theorem fJ {u:V} {i:Bool} (r:RV T ι H (.bl i) u):u = .bl i:=by cases r;rfl
theorem pW {u:V} (r:RV T ι H .non u):u = .non:=by cases r;rfl
theorem pX {us:List V} {xs:List AV} {p:Addr} {E:XK} {Q:VK} (S:Sim T ι h H) (r:RVs T ι H xs us) (n:H p=none) (q:Post T ι H E (RV T) (.ok (.fl xs) h) Q):Q (.ref p) (upd H p (.lst us)) :=
 q ι _ _ (S.growNew n) (S.new n) (.fl (S.fresh n) (.inl dM) (r.mono (S.growNew n)))
theorem tZ {us:List V} {xs:List AV} {p:Addr} {E:XK} {Q:VK} (S:Sim T ι h H) (r:RVs T ι H xs us) (n:H p=none) (q:Post T ι H E (RV T) (.ok (.tup xs) h) Q):Q (.ref p) (upd H p (.tup us)) :=
 q ι _ _ (S.growNew n) (S.new n) (.tup (S.fresh n) dM (r.mono (S.growNew n)))
theorem GA {us:List V} {xs:List AV} {p:Addr} {E:XK} {Q:VK} (S:Sim T ι h H) (r:RVs T ι H xs us) (n:H p=none) (q:Post T ι H E (RV T) (.ok (.ref h.length) (h++[.lst xs])) Q):Q (.ref p) (upd H p (.lst us)) :=
 q _ _ _ (S.growAdd n) (S.add n ⟨us,rfl,r.mono (S.growAdd n)⟩) (.ref S.addAt)
end
section
variable {T:Tb} {E:St->XK} {X:Cx} {pos:Pos}
theorem ai (i:Nat) {x:Str} {p:Pos} (hN:X.N[i]? = some x:=by rfl) (hv:mW X.env.scope x:=by first | exact Or.inl rfl | exact Or.inr (Or.inl rfl) | exact Or.inr (Or.inr rfl)) (hd:(x == ("__debug__" : Str))=false:=by decide)
  (hcd:(x == ("__classdict__" : Str))=false:=by decide):aL T E X (.Name x p) (ae i) :=
 cw (pv i hN hv hd hcd) λσ H Q=>E6x λι h en S er q=>by
  unfold ae at q
  split at q
  ·rename_i v hv
   obtain ⟨u,e,r⟩:=er.2 i v hv
   exact ⟨u,e,q.now S r⟩
  ·exact q.elim
theorem az {i j p}:aL T E X (.Constant (.int i) j p) (af (.int i)):=cw Cf λσ H Q=>E6x λι h en S er q=>q.now S (.int i)
theorem dX {i j p}:aL T E X (.Constant (.bool i) j p) (af (.bl i)):=cw Cg λσ H Q=>E6x λι h en S er q=>q.now S (.bl i)
theorem jn {j p}:aL T E X (.Constant .none j p) (af .non):=cw Ci λσ H Q=>E6x λι h en S er q=>q.now S .non
theorem aK {x j p} (n:x.length<=sizeLine:=by decide +kernel) (o:x.cps.all (· < 0x110000)=true:=by decide +kernel):aL T E X (.Constant (.str x) j p) (af (.str x)):=cw Cj λσ H Q=>E6x λι h en S er q=>q.now S (.str n o)
theorem GB {x:Str} {i:Int} {t:Tok} {p:Pos} (hg:Gl X x) (hm:X.mg x=some (.int i t)) (hd:(x == ("__debug__" : Str))=false:=by decide):aL T E X (.Name x p) (af (.int i)) :=
 cw (rY (v:=.int i) hg hm ⟨t,rfl⟩ hd) λσ H Q=>E6x λι h en S er q=>q.now S (.int i)
def lX (T:Tb) (f:F2) (r:R2):Prop:=∀ (ι:Ix) (h:AH) (H:Hp) (x y:AV) (u w:V) (E:XK) (Q:VK),Sim T ι h H->RV T ι H x u->RV T ι H y w->Post T ι H E (RV T) (f x y h) Q->r u w H Q
def Op (T:Tb) (X:Cx) (g:Value->Value->Sem Value) (f:F2):Prop:=∃ r,OpR X g r/\lX T f r
variable {a b c:Expr} {sa sb sc:SE}
theorem t7 {f:F2} {r:R2} (hs:lX T f r) {σ:St} {H:Hp} {Q:VK} (q:tE T E (ah f sa sb) σ H Q):lS r (tE T E sa) (tE T E sb) σ H Q:=by
 obtain ⟨ι,h,en,S,er,q⟩:=q
 refine ⟨ι,h,en,S,er,q.bind λx h1 ι1 H1 u g1 S1 r1 q1=>⟨ι1,h1,en,S1,er.mono g1,q1.bind λy h2 ι2 H2 w g2 S2 r2 q2=>?_⟩⟩
 exact hs ι2 h2 H2 x y u w _ Q S2 (r1.mono g2) r2 q2
theorem bc {op:Operator} {f:F2} (ho:Op T X (binaryOp op) f) (ha:aL T E X a sa) (hb:aL T E X b sb):aL T E X (.BinOp a op b pos) (ah f sa sb):=by
 obtain ⟨r,h1,h2⟩:=ho
 exact cw (Dg h1 ha hb) λσ H Q q=>t7 h2 q
theorem GC {i j:Str} (hi:i.cps.all (· < 0x110000)=true) (hj:j.cps.all (· < 0x110000)=true):(i++j).cps.all (· < 0x110000)=true:=by
 show (i.cps++j.cps).all _=true
 rw [Array.all_append,hi,hj];rfl
theorem GD (i j:Str):(i++j).length=i.length+j.length:=by
 show (i.cps++j.cps).size=_
 rw [Array.size_append];rfl
theorem cF (hK:X.K=T.K):Op T X (binaryOp .Add) aE:=by
 refine ⟨_,op_add.or (zg7.or (zjZ.or F8)),λι h H x y u w E Q S rx ry p=>?_⟩
 unfold aE at p
 split at p
 ·rw [bT rx,bT ry]
  exact .inl ⟨_,_,rfl,rfl,p.now S (.int _)⟩
 ·split at p
  ·rename_i hz
   obtain ⟨rfl,_,o1⟩:=eC rx
   obtain ⟨rfl,_,o2⟩:=eC ry
   exact .inr (.inl ⟨_,_,rfl,rfl,hz,p.now S (.str (by rw [GD];exact hz) (GC o1 o2))⟩)
  ·exact p.elim
 ·split at p
  ·rename_i hz
   obtain ⟨a,us,rfl,q1,r1⟩:=kN rx
   obtain ⟨b,ws,rfl,q2,r2⟩:=kN ry
   refine .inr (.inr (.inl ⟨a,b,us,ws,rfl,rfl,hK▸q1,hK▸q2,λz=>hz.1 ?_,by rw [<- r1.length,<- r2.length];exact hz.2,λz=>?_,λ_ l n=>tZ S (r1.append r2) n p⟩))
   ·subst z;cases r1;rfl
   ·subst z;cases r2
    rw [Pf] at p;exact p.now S rx
  ·exact p.elim
 ·split at p
  ·split at p
   ·rename_i e1 e2 hz
    obtain ⟨a,us,rfl,q1,r1⟩:=gv S rx e1
    obtain ⟨b,ws,rfl,q2,r2⟩:=gv S ry e2
    exact .inr (.inr (.inr ⟨a,b,us,ws,rfl,rfl,hK▸q1,hK▸q2,by rw [<- r1.length,<- r2.length];exact hz,λl n=>pX S (r1.append r2) n p⟩))
   ·exact p.elim
  ·exact p.elim
theorem iu:Op T X (binaryOp .Sub) bH:=by
 refine ⟨_,Di,λι h H x y u w E Q S rx ry p=>?_⟩
 unfold bH at p
 split at p
 ·rw [bT rx,bT ry]
  exact ⟨_,_,rfl,rfl,p.now S (.int _)⟩
 ·exact p.elim
theorem yZ {i:Int} (h:i.natAbs<2 ^ 4000):Builtin.Int.intBits i<=2 ^ 20:=by
 unfold Builtin.Int.intBits
 split
 ·exact NB _
 ·rename_i hz
  have h0:i.natAbs≠0:=λz=>hz (by simpa using z)
  have:i.natAbs.log2<4000:=(Nat.log2_lt h0).mpr h
  exact M6 (by lia:i.natAbs.log2+1<=4001) (by decide)
theorem iQ:Op T X (binaryOp .Mult) bL:=by
 refine ⟨_,Fy,λι h H x y u w E Q S rx ry p=>?_⟩
 unfold bL at p
 split at p
 ·split at p
  ·rename_i hz
   rw [bT rx,bT ry];exact ⟨_,_,rfl,rfl,hz.elim (λz=>CMul.ok (z.elim (λz=>.inl ⟨by lia,by lia⟩) (λz=>.inr ⟨by lia,by lia⟩))) (λz=>.of_bits (yZ z.1) (yZ z.2)),p.now S (.int _)⟩
  ·exact p.elim
 ·exact p.elim
theorem nC:Op T X (binaryOp .FloorDiv) cg:=by
 refine ⟨_,Fx,λι h H x y u w E Q S rx ry p=>?_⟩
 unfold cg at p
 split at p
 ·split at p
  ·rename_i hz
   rw [bT rx,bT ry];exact ⟨_,_,rfl,rfl,⟨hz.1,by lia⟩,p.now S (.int _)⟩
  ·exact p.elim
 ·exact p.elim
theorem iw:Op T X (binaryOp .Mod) bB:=by
 refine ⟨_,Dj,λι h H x y u w E Q S rx ry p=>?_⟩
 unfold bB at p
 split at p
 ·split at p
  ·rename_i hz
   rw [bT rx,bT ry];exact ⟨_,_,rfl,rfl,hz,p.now S (.int _)⟩
  ·exact p.elim
 ·exact p.elim
theorem kO:Op T X (binaryOp .Pow) cx:=by
 refine ⟨_,Dl,λι h H x y u w E Q S rx ry p=>?_⟩
 unfold cx at p
 split at p
 ·split at p
  ·rename_i hz
   rw [bT rx,bT ry];exact ⟨_,_,rfl,rfl,hz,p.now S (.int _)⟩
  ·exact p.elim
 ·exact p.elim
theorem t9 (ha:aL T E X a sa):aL T E X (.UnaryOp .USub a pos) (ji fQ sa) :=
 cw (Dh Do ha) λσ H Q=>E6x λι h en S er q=>⟨ι,h,en,S,er,q.bind λx h1 ι1 H1 u g1 S1 r1 q1=>by
  unfold fQ at q1
  split at q1
  ·rw [bT r1]
   exact ⟨_,rfl,q1.now S1 (.int _)⟩
  ·exact q1.elim⟩
theorem GE {ds:List PyData} (h:∀ d∈ds,d.canLay0=true):PyData.canLayAll0 ds=true:=by
 induction ds with
 | nil=>rfl
 | cons d r ih=>show (d.canLay0 && PyData.canLayAll0 r)=true;rw [h d (by simp),ih λe he=>h e (by simp [he])];rfl
theorem GG {n:Nat} {ds:List PyData} (h:∀ d∈ds,d.depth<=n):PyData.depthAll ds<=n:=by
 induction ds with
 | nil=>exact NB _
 | cons d r ih=>show max d.depth (PyData.depthAll r)<=n;have:=h d (by simp);have:=ih λe he=>h e (by simp [he]);lia
section
variable {ι:Ix} {h:AH} {H:Hp}
theorem nE {f:AV->Option PyData} {n:Nat} (hf:∀ {x:AV} {u:V} {d:PyData},RV T ι H x u->f x=some d->DaV T.K H u d/\d.canLay0=true/\d.depth<=n) :
  ∀ {xs:List AV} {us:List V} {ds:List PyData},RVs T ι H xs us->bP f xs=some ds->DaVs T.K H us ds/\∀ d∈ds,d.canLay0=true/\d.depth<=n
 | _,_,ds,.nil,e=>by cases e;exact ⟨.nil,by simp⟩
 | _,_,ds,.cons (x:=x) (xs:=xs) r rs,e=>by
  unfold bP at e
  split at e
  ·rename_i d ds' e1 e2
   cases e
   obtain ⟨q1,q2⟩:=hf r e1
   obtain ⟨q3,q4⟩:=nE hf rs e2
   refine ⟨.cons q1 q3,λd hd=>?_⟩
   rcases Np.mp hd with rfl | hd
   ·exact q2
   ·exact q4 d hd
  ·cases e
theorem iR (S:Sim T ι h H):∀ (n:Nat) {x:AV} {u:V} {d:PyData},RV T ι H x u->bK n h x=some d->DaV T.K H u d/\d.canLay0=true/\d.depth<=n
 | 0,x,u,d,r,e=>by
  unfold bK at e
  cases r with
  | non=>cases e;exact ⟨.non,rfl,MZ _⟩
  | bl b=>cases e;exact ⟨.bl b,rfl,MZ _⟩
  | int b=>cases e;exact ⟨.int b,rfl,MZ _⟩
  | str a b=>cases e;exact ⟨.str _,b,MZ _⟩
  | _=>cases e
 | n+1,x,u,d,r,e=>by
  unfold bK at e
  have many:∀ {xs:List AV} {us:List V} {ds:List PyData},RVs T ι H xs us->bP (bK n h) xs=some ds->DaVs T.K H us ds/\∀ d∈ds,d.canLay0=true/\d.depth<=n:=λr e=>nE (λr e=>iR S n r e) r e
  have fin:∀ {ds:List PyData},(∀ d∈ds,d.canLay0=true/\d.depth<=n)->PyData.canLayAll0 ds=true/\PyData.depthAll ds+1<=n+1:=λq=>⟨GE λd hd=>(q d hd).1,Nat.succ_le_succ (GG λd hd=>(q d hd).2)⟩
  cases r with
  | non=>cases e;exact ⟨.non,rfl,NB _⟩
  | bl b=>cases e;exact ⟨.bl b,rfl,NB _⟩
  | int b=>cases e;exact ⟨.int b,rfl,NB _⟩
  | str a b=>cases e;exact ⟨.str _,b,NB _⟩
  | tup k q r =>
   obtain ⟨ds,e1,rfl⟩:=Nw.mp e
   obtain ⟨q1,q2⟩:=many r e1
   exact ⟨.tup (.of q) q1,fin q2⟩
  | fl k q r =>
   obtain ⟨ds,e1,rfl⟩:=Nw.mp e
   obtain ⟨q1,q2⟩:=many r e1
   exact ⟨.lst (.inl q) q1,fin q2⟩
  | kfl q r =>
   obtain ⟨ds,e1,rfl⟩:=Nw.mp e
   obtain ⟨q1,q2⟩:=many r e1
   exact ⟨.lst (.inr q) q1,fin q2⟩
  | @ref k a q =>
   dsimp only at e
   split at e
   ·rename_i ys hk
    obtain ⟨ds,e1,rfl⟩:=Nw.mp e
    obtain ⟨u,e2,us,rfl,r⟩:=S.obj k _ a hk q
    obtain ⟨q1,q2⟩:=many r e1
    exact ⟨.lst (.inl (.inl e2)) q1,fin q2⟩
   ·cases e
  | exc _ _ _=>cases e
end
theorem GH {i j:Int}:decide (V.int i=V.int j)=decide (i=j):=by rw [Oy];simp
theorem GI {i j:Str}:decide (V.str i=V.str j)=decide (i=j):=by rw [Oy];simp
theorem GJ {i j:Bool}:decide (V.bl i=V.bl j)=decide (i=j):=by rw [Oy];simp
theorem y0 {r:R2} {neg:Bool} (ho:OpR X g r) (h1:∀ x y H Q,(kr x y=true/\Q (.bl (if neg then !decide (x=y) else decide (x=y))) H)->r x y H Q)
  (h2:∀ x y H Q,(∃ d e,DaV T.K H x d/\DaV T.K H y e/\d.canLay0=true/\e.canLay0=true/\d.depth<=60/\Q (.bl (if neg then !PyData.eqv d e else PyData.eqv d e)) H)->r x y H Q) :
  lX T (λx y h=>match gF x y h with | some b=>.ok (.bl (if neg then !b else b)) h | none=>.bad) r:=by
 intro ι h H x y u w E Q S rx ry p
 dsimp only at p
 cases hb:gF x y h with
 | none=>rw [hb] at p;exact p.elim
 | some b =>
  rw [hb] at p;dsimp only at p
  unfold gF at hb
  split at hb
  ·cases hb
   rw [bT rx,bT ry];exact h1 _ _ _ _ ⟨rfl,by rw [GH];exact p.now S (.bl _)⟩
  ·cases hb
   obtain ⟨rfl,_⟩:=eC rx
   obtain ⟨rfl,_⟩:=eC ry
   exact h1 _ _ _ _ ⟨rfl,by rw [GI];exact p.now S (.bl _)⟩
  ·cases hb
   rw [fJ rx,fJ ry];exact h1 _ _ _ _ ⟨rfl,by rw [GJ];exact p.now S (.bl _)⟩
  ·cases hb
   rw [pW rx,pW ry];exact h1 _ _ _ _ ⟨rfl,by rw [show decide (V.non=V.non)=true from rfl];exact p.now S (.bl _)⟩
  ·split at hb
   ·rename_i d e e1 e2
    cases hb
    obtain ⟨q1,q2,q3⟩:=iR S 8 rx e1
    obtain ⟨q4,q5,q6⟩:=iR S 8 ry e2
    exact h2 _ _ _ _ ⟨d,e,q1,q4,q2,q5,by lia,p.now S (.bl _)⟩
   ·cases hb
theorem aX (hK:X.K=T.K) (hu:X.A.units+64<cLine):Op T X (compareOp .Eq) aG :=
 ⟨_,op_eq.or (yO hu),y0 (neg:=false) (op_eq.or (yO hu)) (λ_ _ _ _ q=>.inl q) λ_ _ _ _ q=>.inr (hK▸q)⟩
theorem fw (hK:X.K=T.K) (hu:X.A.units+64<cLine):Op T X (compareOp .NotEq) fR :=
 ⟨_,op_ne.or (yP hu),y0 (neg:=true) (op_ne.or (yP hu)) (λ_ _ _ _ q=>.inl q) λ_ _ _ _ q=>.inr (hK▸q)⟩
theorem fU:Op T X (compareOp .Lt) dS:=by
 refine ⟨_,op_lt.or Dt,λι h H x y u w E Q S rx ry p=>?_⟩
 unfold dS at p
 split at p
 ·rw [bT rx,bT ry]
  exact .inl ⟨_,_,rfl,rfl,p.now S (.bl _)⟩
 ·obtain ⟨rfl,_⟩:=eC rx
  obtain ⟨rfl,_⟩:=eC ry
  exact .inr ⟨_,_,rfl,rfl,p.now S (.bl _)⟩
 ·exact p.elim
theorem bM:Op T X (compareOp .LtE) bC:=by
 refine ⟨_,op_le.or Ft,λι h H x y u w E Q S rx ry p=>?_⟩
 unfold bC at p
 split at p
 ·rw [bT rx,bT ry]
  exact .inl ⟨_,_,rfl,rfl,p.now S (.bl _)⟩
 ·obtain ⟨rfl,_⟩:=eC rx
  obtain ⟨rfl,_⟩:=eC ry
  exact .inr ⟨_,_,rfl,rfl,p.now S (.bl _)⟩
 ·exact p.elim
theorem eE:Op T X (compareOp .Gt) eZ:=by
 refine ⟨_,Dr,λι h H x y u w E Q S rx ry p=>?_⟩
 unfold eZ at p
 split at p
 ·rw [bT rx,bT ry]
  exact ⟨_,_,rfl,rfl,p.now S (.bl _)⟩
 ·exact p.elim
theorem nF:Op T X (compareOp .GtE) jR:=by
 refine ⟨_,Ds,λι h H x y u w E Q S rx ry p=>?_⟩
 unfold jR at p
 split at p
 ·rw [bT rx,bT ry]
  exact ⟨_,_,rfl,rfl,p.now S (.bl _)⟩
 ·exact p.elim
theorem RV.non_iff {ι:Ix} {H:Hp} {x:AV} {u:V} (r:RV T ι H x u):decide (x = .non)=decide (u = .non):=by
 exact decide_eq_decide.mpr ⟨λz=>by subst z;cases r;rfl,λz=>by subst z;cases r;rfl⟩
theorem pY:Op T X (compareOp .Is) gG:=by
 refine ⟨_,Du,λι h H x y u w E Q S rx ry p=>?_⟩
 unfold gG at p
 split at p
 ·refine ⟨pW ry,?_⟩
  rw [<- rx.non_iff];exact p.now S (.bl _)
 ·exact p.elim
theorem fV {op:CmpOp} {f:F2} (ho:Op T X (compareOp op) f) (ha:aL T E X a sa) (hb:aL T E X b sb) (hm:behindInMarks op b=false):aL T E X (.Compare a [op] [b] pos) (ah f sa sb):=by
 obtain ⟨r,h1,h2⟩:=ho
 exact cw (Dv h1 ha hb hm) λσ H Q q=>t7 h2 q
theorem bp {op:CmpOp} {f:F2} (ho:Op T X (compareOp op) f) (ha:aL T E X a sa) (hb:aL T E X b sb) (hm:behindInMarks op b=false):g8 T E X (.Compare a [op] [b] pos) (aM (ah f sa sb)):=by
 obtain ⟨r,h1,h2⟩:=ho
 refine nv (Dw h1 ha hb hm) λσ H Q q=>t7 (E:=E) (Q:=λx H' => ∃ k,x=V.bl k/\Q k H') h2 ?_
 obtain ⟨ι,h,en,S,er,q⟩:=q
 refine ⟨ι,h,en,S,er,q.bind λx h1 ι1 H1 u g1 S1 r1 q1=>?_⟩
 split at q1
 ·rw [fJ r1]
  exact ⟨_,rfl,q1.now S1 rfl⟩
 ·exact q1.elim
theorem y4 {f f':F2} {r r':R2} (hs:lX T f r) (hs':lX T f' r') {σ:St} {H:Hp} {Q:VK} (q:tE T E (dU f f' sa sb sc) σ H Q):sM r r' (tE T E sa) (tE T E sb) (tE T E sc) σ H Q:=by
 obtain ⟨ι,h,en,S,er,q⟩:=q
 refine ⟨ι,h,en,S,er,q.bind λx h1 ι1 H1 u g1 S1 r1 q1=>⟨ι1,h1,en,S1,er.mono g1,q1.bind λy h2 ι2 H2 w g2 S2 r2 q2=>?_⟩⟩
 refine hs ι2 h2 H2 x y u w (E σ) _ S2 (r1.mono g2) r2 (q2.bind λz h3 ι3 H3 k g3 S3 r3 q3=>?_)
 split at q3
 ·rename_i kk
  rw [fJ r3];refine ⟨kk,rfl,?_⟩
  by_cases hkk:kk=true
  ·rw [M8 hkk] at q3 ⊢
   refine ⟨ι3,h3,en,S3,er.mono (g1.trans (g2.trans g3)),q3.bind λv h4 ι4 H4 j g4 S4 r4 q4=>?_⟩
   exact hs' ι4 h4 H4 y v w j _ Q S4 (r2.mono (g3.trans g4)) r4 q4
  ·rw [M9 hkk] at q3 ⊢
   exact q3.now S3 (.bl _)
 ·exact q3.elim
theorem kP {op op':CmpOp} {f f':F2} (ho:Op T X (compareOp op) f) (ho':Op T X (compareOp op') f') (ha:aL T E X a sa) (hb:aL T E X b sb) (hc:aL T E X c sc) (hm:lastMarks [op,op'] [b,c]=false:=by with_unfolding_all rfl) :
  aL T E X (.Compare a [op,op'] [b,c] pos) (dU f f' sa sb sc):=by
 obtain ⟨r,h1,h2⟩:=ho
 obtain ⟨r',h1',h2'⟩:=ho'
 exact cw (Dx h1 h1' ha hb hc hm) λσ H Q q=>y4 h2 h2' q
theorem GL {op op':CmpOp} {f f':F2} (ho:Op T X (compareOp op) f) (ho':Op T X (compareOp op') f') (ha:aL T E X a sa) (hb:aL T E X b sb) (hc:aL T E X c sc) (hm:lastMarks [op,op'] [b,c]=false:=by with_unfolding_all rfl) :
  g8 T E X (.Compare a [op,op'] [b,c] pos) (aM (dU f f' sa sb sc)):=by
 obtain ⟨r,h1,h2⟩:=ho
 obtain ⟨r',h1',h2'⟩:=ho'
 refine nv (Dy h1 h1' ha hb hc hm) λσ H Q q=>y4 (E:=E) (Q:=λx H' => ∃ k,x=V.bl k/\Q k H') h2 h2' ?_
 obtain ⟨ι,h,en,S,er,q⟩:=q
 refine ⟨ι,h,en,S,er,q.bind λx h1 ι1 H1 u g1 S1 r1 q1=>?_⟩
 split at q1
 ·rw [fJ r1]
  exact ⟨_,rfl,q1.now S1 rfl⟩
 ·exact q1.elim
theorem y6 {ι:Ix} {h:AH} {H:Hp} {v:AV} {u:V} {k:Bool} (S:Sim T ι h H) (r:RV T ι H v u) (e:jl v h=some k):i8 T.K u H k:=by
 unfold jl at e
 cases r with
 | non=>cases e;rfl
 | bl b=>cases e;rfl
 | int b=>cases e;rfl
 | str n o=>cases e;exact ⟨n,rfl⟩
 | tup n q r=>cases e;exact .inr (.inl ⟨_,.of q,by cases r<;>rfl⟩)
 | fl n q r=>cases e;exact .inl ⟨_,.inl q,by cases r<;>rfl⟩
 | kfl q r=>cases e;exact .inl ⟨_,.inr q,by cases r<;>rfl⟩
 | @ref n a q =>
  dsimp only at e
  split at e
  ·rename_i xs hk
   cases e
   obtain ⟨u,e1,us,rfl,r⟩:=S.obj n _ a hk q
   exact .inl ⟨us,.inl (.inl e1),by cases r<;>rfl⟩
  ·rename_i xs hk
   cases e
   obtain ⟨u,e1,us,rfl,r⟩:=S.obj n _ a hk q
   exact .inr (.inr ⟨us,e1,by cases r<;>rfl⟩)
  ·cases e
 | exc _ _ _=>cases e
theorem jo (hK:X.K=T.K) (ha:aL T E X a sa) (he:∀ whole,isTrue a X.env whole=(do let v <- whole;standAt a.pos;holding [v] (truthy v)):=by intro _;rfl):g8 T E X a (iP sa) :=
 nv (DB ha he) λσ H Q=>E6x λι h en S er q=>⟨ι,h,en,S,er,q.bind λx h1 ι1 H1 u g1 S1 r1 q1=>by
  split at q1
  ·rename_i b hb
   exact ⟨b,hK▸y6 S1 r1 hb,q1.now S1 rfl⟩
  ·exact q1.elim⟩
variable {ca cb:SB} {rest:List Expr}
theorem iS (ha:g8 T E X a ca):g8 T E X (.UnaryOp .Not a pos) (dG ca) :=
 nv (Cr ha) λσ H Q=>E6x λι h en S er q=>⟨ι,h,en,S,er,q.bind λx h1 ι1 H1 u g1 S1 r1 q1=>by subst r1;exact q1.now S1 rfl⟩
theorem jq (h:kI T E X a ca):g8 T E X a ca:=PW.pt h
theorem GN (ha:g8 T E X a ca):kI T E X (.BoolOp .And [a] pos) ca:=Cn ha
theorem ua (ha:g8 T E X a ca):kI T E X (.BoolOp .Or [a] pos) ca:=Co ha
theorem GO (ha:g8 T E X a ca) (hb:kI T E X (.BoolOp .And (b::rest) pos) cb):kI T E X (.BoolOp .And (a::b::rest) pos) (kK ca cb) :=
 yV (Cp ha hb) λσ H Q=>E6x λι h en S er q=>⟨ι,h,en,S,er,q.bind λx h1 ι1 H1 u g1 S1 r1 q1=>by
  subst r1;by_cases hx:x=true
  ·rw [M8 hx] at q1 ⊢
   exact ⟨ι1,h1,en,S1,er.mono g1,q1⟩
  ·rw [M9 hx] at q1 ⊢
   exact q1.now S1 rfl⟩
theorem ub (ha:g8 T E X a ca) (hb:kI T E X (.BoolOp .Or (b::rest) pos) cb):kI T E X (.BoolOp .Or (a::b::rest) pos) (nz ca cb) :=
 yV (Cq ha hb) λσ H Q=>E6x λι h en S er q=>⟨ι,h,en,S,er,q.bind λx h1 ι1 H1 u g1 S1 r1 q1=>by
  subst r1;by_cases hx:x=true
  ·rw [M8 hx] at q1 ⊢
   exact q1.now S1 rfl
  ·rw [M9 hx] at q1 ⊢
   exact ⟨ι1,h1,en,S1,er.mono g1,q1⟩⟩
theorem gJ {op} (h:aL T E X a sa):aL T E X (.BoolOp op [a] pos) sa:=Cu h
theorem lY (ha:aL T E X a sa) (hb:aL T E X (.BoolOp .And (b::rest) pos) sb):aL T E X (.BoolOp .And (a::b::rest) pos) (jS sa sb) :=
 cw (Cv ha hb) λσ H Q=>E6x λι h en S er q=>⟨ι,h,en,S,er,q.bind λx h1 ι1 H1 u g1 S1 r1 q1=>by
  split at q1
  ·rename_i kk
   rw [fJ r1];refine ⟨kk,rfl,?_⟩
   by_cases hkk:kk=true
   ·rw [M8 hkk] at q1 ⊢
    exact ⟨ι1,h1,en,S1,er.mono g1,q1⟩
   ·rw [M9 hkk] at q1 ⊢
    exact q1.now S1 (.bl _)
  ·exact q1.elim⟩
theorem jr (ha:aL T E X a sa) (hb:aL T E X (.BoolOp .Or (b::rest) pos) sb):aL T E X (.BoolOp .Or (a::b::rest) pos) (e7 sa sb) :=
 cw (Cw ha hb) λσ H Q=>E6x λι h en S er q=>⟨ι,h,en,S,er,q.bind λx h1 ι1 H1 u g1 S1 r1 q1=>by
  split at q1
  ·rename_i kk
   rw [fJ r1];refine ⟨kk,rfl,?_⟩
   by_cases hkk:kk=true
   ·rw [M8 hkk] at q1 ⊢
    exact q1.now S1 (.bl _)
   ·rw [M9 hkk] at q1 ⊢
    exact ⟨ι1,h1,en,S1,er.mono g1,q1⟩
  ·exact q1.elim⟩
theorem nG (ha:aL T E X a sa):aL T E X (.UnaryOp .Not a pos) (hE sa) :=
 cw (Cy ha) λσ H Q=>E6x λι h en S er q=>⟨ι,h,en,S,er,q.bind λx h1 ι1 H1 u g1 S1 r1 q1=>by
  split at q1
  ·rw [fJ r1]
   exact ⟨_,rfl,q1.now S1 (.bl _)⟩
  ·exact q1.elim⟩
variable {es:List Expr} {as:SL}
theorem ar:fI T E X [] ag:=yW pF λσ H Q=>E6x λι h en S er q=>q.now S .nil
theorem ak (ha:aL T E X a sa) (hr:fI T E X es as) (hs:starEach (a::es) X.env=(false,eval a X.env)::starEach es X.env:=by rfl):fI T E X (a::es) (aj sa as) :=
 yW (lT ha hr hs) λσ H Q=>E6x λι h en S er q=>⟨ι,h,en,S,er,q.bind λx h1 ι1 H1 u g1 S1 r1 q1=>⟨ι1,h1,en,S1,er.mono g1,q1.bind λxs h2 ι2 H2 us g2 S2 r2 q2=>q2.now S2 (.cons (r1.mono g2) r2)⟩⟩
theorem c6 {k} (h:fI T E X es as):aL T E X (.Tuple es k pos) (bu as) :=
 cw (D5 h) λσ H Q=>E6x λι h en S er q=>⟨ι,h,en,S,er,q.bind λxs h1 ι1 H1 us g1 S1 r1 q1=>by
  split at q1
  ·rename_i hl
   exact ⟨by rw [<- r1.length];exact M6 hl (by decide),λp n=>tZ S1 r1 n q1⟩
  ·exact q1.elim⟩
theorem cH (h:fI T E X es as):aL T E X (.List es pos) (aN as) :=
 cw (sS h) λσ H Q=>E6x λι h en S er q=>⟨ι,h,en,S,er,q.bind λxs h1 ι1 H1 us g1 S1 r1 q1=>by
  split at q1
  ·rename_i hl
   exact ⟨by rw [<- r1.length];exact M6 hl (by decide),λp n=>pX S1 r1 n q1⟩
  ·exact q1.elim⟩
theorem hU (h:fI T E X es as):aL T E X (.List es pos) (gE as) :=
 cw (sS h) λσ H Q=>E6x λι h en S er q=>⟨ι,h,en,S,er,q.bind λxs h1 ι1 H1 us g1 S1 r1 q1=>by
  split at q1
  ·rename_i hl
   exact ⟨by rw [<- r1.length];exact M6 hl (by decide),λp n=>GA S1 r1 n q1⟩
  ·exact q1.elim⟩
theorem uc:aL T E X (.Dict [] [] pos) (kJ false) :=
 cw EY λσ H Q ⟨ι,h,en,S,er,q⟩ p n=>q _ _ _ (S.growAdd n) (S.add n ⟨[],rfl,.nil⟩) (.ref S.addAt)
theorem GP:aL T E X (.Dict [] [] pos) (kJ true) :=
 cw EZ λσ H Q ⟨ι,h,en,S,er,q⟩ p n=>q _ _ _ (S.growAdd n) (S.add n ⟨[],rfl,.nil⟩) (.ref S.addAt)
end
section
variable {T:Tb} {E:St->XK} {X:Cx} {pos:Pos} {a b:Expr} {sa sb:SE} {ca:SB} {st:Stmt} {sts ss1 ss2:List Stmt} {s1 s2:SS}
theorem bf:cR T E X [] aT:=yX CB λD σ H=>E6x λι h en S er q=>q ι H σ S.refl S er
theorem aA (h1:gr T E X st s1) (h2:cR T E X sts s2):cR T E X (st::sts) (ao s1 s2) :=
 yX (CD h1 h2) λD σ H=>E6x λι h en S er q=>by
  refine ⟨ι,h,en,S,er,?_⟩
  unfold ao at q
  cases e:s1 en h with
  | nx e1 h1 =>
   rw [e] at q;exact λι' H' σ' g S' er' => ⟨ι',h1,e1,S',er',q.shift g⟩
  | rt v h1=>rw [e] at q;exact q
  | bk e1 h1=>rw [e] at q;exact q
  | ct e1 h1=>rw [e] at q;exact q
  | ex c e1 h1=>rw [e] at q;exact q
  | bad=>rw [e] at q;exact q
theorem aH (h1:gr T E X st s1):cR T E X [st] s1:=CG h1
theorem bN (ha:aL T E X a sa) (hs:swapsWith a none pos.line X.env=pure false:=by rfl):gr T E X (.Expr a pos) (bI sa) :=
 g9 (CI ha hs) λD σ H=>E6x λι h en S er q=>⟨ι,h,en,S,er,q.go er λv h1 ι1 H1 u g1 S1 r1 q1=>q1 ι1 H1 σ S1.refl S1 (er.mono g1)⟩
theorem aO (ha:aL T E X a sa):gr T E X (.Return (some a) pos) (ay sa) :=
 g9 (CJ ha) λD σ H=>E6x λι h en S er q=>⟨ι,h,en,S,er,q.go er λv h1 ι1 H1 u g1 S1 r1 q1=>q1 ι1 H1 u S1.refl S1 r1⟩
theorem aF (hc:g8 T E X a ca) (h1:cR T E X ss1 s1) (h2:cR T E X ss2 s2):gr T E X (.If a ss1 ss2 pos) (aS ca s1 s2) :=
 g9 (CK hc h1 h2) λD σ H=>E6x λι h en S er q=>⟨ι,h,en,S,er,q.go er λx h1 ι1 H1 u g1 S1 r1 q1=>by
  subst r1;by_cases hx:x=true
  ·rw [M8 hx] at q1 ⊢
   exact ⟨ι1,h1,en,S1,er.mono g1,q1⟩
  ·rw [M9 hx] at q1 ⊢
   exact ⟨ι1,h1,en,S1,er.mono g1,q1⟩⟩
theorem y8 {σ:St} {H:Hp} {D:cU} {i:Nat} (q:tS T E (aB i sa) D σ H):i6 (tE T E sa) (lR i) D σ H:=by
 obtain ⟨ι,h,en,S,er,q⟩:=q
 exact ⟨ι,h,en,S,er,q.go er λv h1 ι1 H1 u g1 S1 r1 q1=>q1 ι1 H1 _ S1.refl S1 ((er.mono g1).set r1 i)⟩
theorem aV {i:Nat} {x:Str} {p':Pos} (hN:X.N.Nodup) (ha:aL T E X a sa) (hi:X.N[i]? = some x:=by rfl) (hx:ki X.env.scope x:=by first | exact Or.inl rfl | exact Or.inr rfl) (hs:swapsWith a (some (.Name x p')) pos.line X.env=pure false:=by rfl)
  (hf:X.fn x=true\/X.env.scope.names.lookup x=some .local:=by first | exact .inl rfl | exact .inr rfl | assumption):gr T E X (.Assign [.Name x p'] a pos) (aB i sa) :=
 g9 (CT hN hi hx ha hs hf) λD σ H q=>y8 q
theorem y9 {ι:Ix} {H:Hp}:∀ {is:List Nat} {xs:List AV} {us:List V} {en e:En} {σ:St},RVs T ι H xs us->ER T ι H en σ->pT is xs en=some e->ER T ι H e ((is.zip us).foldl (λσ p=>σ.set p.1 (some p.2)) σ)/\us.length=is.length
 | [],_,_,en,e,σ,.nil,er,q=>by cases q;exact ⟨er,rfl⟩
 | i::is,_,_,en,e,σ,.cons r rs,er,q=>by
  obtain ⟨h1,h2⟩:=y9 (is:=is) rs (er.set r i) q
  exact ⟨h1,by simp [h2]⟩
 | [],_,_,en,e,σ,.cons r rs,er,q=>by cases q
 | i::is,_,_,en,e,σ,.nil,er,q=>by cases q
def pZ (T:Tb) (X:Cx) (tg:Expr) (t:Tg):Prop:=∃ g,PG X tg g/\∀ {ι:Ix} {h:AH} {H:Hp} {en e:En} {σ:St} {v:AV} {u:V} {Q:St->Hp->Prop},Sim T ι h H->ER T ι H en σ->RV T ι H v u->fg t v en=some e ->
 (∀ σ',ER T ι H e σ'->Q σ' H)->g u σ H Q
theorem jU {i:Nat} {x:Str} (hN:X.N.Nodup) (hi:X.N[i]? = some x:=by rfl) (hx:ki X.env.scope x:=by first | exact Or.inl rfl | exact Or.inr rfl) (hf:X.fn x=true\/X.env.scope.names.lookup x=some .local:=by first | exact .inl rfl | exact .inr rfl | assumption) :
  pZ T X (.Name x pos) (.nm i):=⟨_,su hN hi hx hf,λS er r e k=>by cases e;exact k _ (er.set r i)⟩
def jt (X:Cx) (es:List Expr) (is:List Nat):Prop:=kl X es (λvs σ H Q=>vs.length=is.length/\Q ((is.zip vs).foldl (λσ p=>σ.set p.1 (some p.2)) σ) H)
theorem za {X:Cx} {es:List Expr} {t t':jM} (h:kl X es t) (k:∀ vs σ H Q,t' vs σ H Q->t vs σ H Q):kl X es t' := λpins s σ H vs us Q I r q=>h pins s σ H vs us Q I r (k vs σ H Q q)
theorem ud:jt X [] []:=za CM λvs σ H Q ⟨l,q⟩=>by
 cases vs with
 | nil=>exact ⟨rfl,q⟩
 | cons=>cases l
theorem jV {i:Nat} {is:List Nat} {x:Str} {p:Pos} {es:List Expr} (hN:X.N.Nodup) (hr:jt X es is) (hi:X.N[i]? = some x:=by rfl) (hx:ki X.env.scope x:=by first | exact Or.inl rfl | exact Or.inr rfl)
  (hf:X.fn x=true\/X.env.scope.names.lookup x=some .local:=by first | exact .inl rfl | exact .inr rfl | assumption) (hs:(assignEach (.Name x p::es) X.env).map (·.2)=assign (.Name x p) X.env::(assignEach es X.env).map (·.2):=by rfl):jt X (.Name x p::es) (i::is) :=
 za (CN (su hN hi hx hf) hr hs) λvs σ H Q ⟨l,q⟩=>by
  cases vs with
  | nil=>cases l
  | cons v r=>exact ⟨v,r,rfl,Nat.succ.inj l,q⟩
theorem ue {es:List Expr} {is:List Nat} {k:Nat} (hK:X.K=T.K) (hc:X.calm=true) (h:jt X es is) (hn:(assignEach es X.env).length=is.length:=by rfl) (hst:(assignEach es X.env).findIdx? (·.1)=none:=by rfl):pZ T X (.Tuple es k pos) (.tup is) :=
 ⟨_,CO hc h hn hst,λ{ι h H en e σ v u Q} S er r q k=>by
  unfold fg at q
  split at q
  ·rename_i hh;cases hh
  ·rename_i hh
   cases hh
   obtain ⟨a,us,rfl,q1,r1⟩:=kN r
   obtain ⟨h1,h2⟩:=y9 r1 er q
   exact ⟨a,us,rfl,hK▸q1,h2,h2,k _ h1⟩
  ·rename_i hh;cases hh
  ·cases q⟩
theorem zb {tg:Expr} {t:Tg} (ha:aL T E X a sa) (hg:pZ T X tg t) (hs:swapsWithSole [tg] a pos.line X.env=pure false:=by rfl) (hw:swappedStores [tg] a X.env=pure none:=by rfl)
  (h1:(assignEach [tg] X.env).map (·.2)=[assign tg X.env]:=by rfl):gr T E X (.Assign [tg] a pos) (pU t sa):=by
 obtain ⟨g,hg1,hg2⟩:=hg
 refine g9 (xW ha hg1 hs hw h1) λD σ H=>E6x λι h en S er q=>⟨ι,h,en,S,er,q.go er λv h1 ι1 H1 u g1 S1 r1 q1=>?_⟩
 split at q1
 ·rename_i e he
  exact hg2 S1 (er.mono g1) r1 he λσ' er' => q1 ι1 H1 σ' S1.refl S1 er'
 ·exact q1.elim
structure uf (T:Tb) (J:It) (ι:Ix) (H:Hp) (ys:List AV) (L:AH->Bool):Prop where
 go:∀ (i:Nat) (ι':Ix) (h':AH) (H':Hp) (x:AV),Ext ι H ι' H'->Sim T ι' h' H'->L h'=true->ys[i]? = some x->J.go i H'/\∀ u H2,J.yld i H' u H2->Grow ι' H' ι' H2/\Sim T ι' h' H2/\RV T ι' H2 x u
 stop:∀ (i:Nat) (ι':Ix) (h':AH) (H':Hp),Ext ι H ι' H'->Sim T ι' h' H'->L h'=true->ys.length<=i->J.stop i H'
abbrev iT (T:Tb) (J:It) (ι:Ix) (H:Hp) (xs:List AV) (w:Option Nat):Prop:=uf T J ι H xs (fS w xs)
def tI (T:Tb) (it:SI):TI:=λσ H R=>∃ ι h en,Sim T ι h H/\ER T ι H en σ/\match it en h with
 | .ok (xs,w) h' => ∀ ι' H' J,Grow ι H ι' H'->Sim T ι' h' H'->iT T J ι' H' xs w->R J H'
 | _=>False
abbrev kQ (T:Tb) (X:Cx) (tg iter:Expr) (it:SI):Prop:=PI X tg iter (tI T it)
theorem p6 {X:Cx} {tg iter:Expr} {t t':TI} (h:PI X tg iter t) (k:∀ σ H R,t' σ H R->t σ H R):PI X tg iter t' := λpins s σ H R I q=>h pins s σ H R I (k σ H R q)
theorem PI.or {X:Cx} {tg iter:Expr} {t t':TI} (h:PI X tg iter t) (h':PI X tg iter t'):PI X tg iter (λσ H R=>t σ H R\/t' σ H R):=λpins s σ H R I q=>q.elim (h pins s σ H R I) (h' pins s σ H R I)
theorem zd {ι:Ix} {H:Hp} {a:Addr} {us:List V} {xs:List AV} {K:PySem.W.Frag} (keep:∀ (ι':Ix) (H':Hp),Ext ι H ι' H'->SqL K H' a us) (r:RVs T ι H xs us):iT T (pj K a) ι H xs none:=by
 constructor
 ·intro i ι' h' H' x g S _ e
  obtain ⟨u,e1,r1⟩:=(r.ext g).get e
  refine ⟨⟨us,u,keep ι' H' g,e1⟩,?_⟩
  rintro u2 H2 ⟨rfl,y⟩
  have z:=y us (keep ι' _ g)
  rw [e1] at z;cases z
  exact ⟨S.refl,S,r1⟩
 ·intro i ι' h' H' g S _ hl
  exact ⟨us,keep ι' H' g,by rw [<- r.length];exact hl⟩
theorem GQ {ι:Ix} {H:Hp} {a:Addr} {us:List V} {xs:List AV} {K:PySem.W.Frag} (keep:∀ (ι':Ix) (H':Hp),Ext ι H ι' H'->SqT K H' a us) (r:RVs T ι H xs us):iT T (sF K a) ι H xs none:=by
 constructor
 ·intro i ι' h' H' x g S _ e
  obtain ⟨u,e1,r1⟩:=(r.ext g).get e
  refine ⟨⟨us,u,keep ι' H' g,e1⟩,?_⟩
  rintro u2 H2 ⟨rfl,y⟩
  have z:=y us (keep ι' _ g)
  rw [e1] at z;cases z
  exact ⟨S.refl,S,r1⟩
 ·intro i ι' h' H' g S _ hl
  exact ⟨us,keep ι' H' g,by rw [<- r.length];exact hl⟩
theorem GR {ι:Ix} {H:Hp} {a:Addr} {n:Nat} {xs:List AV} {K:PySem.W.Frag} (e:ι.refs[n]? = some a):iT T (pj K a) ι H xs (some n):=by
 have at_:∀ {ι':Ix} {h':AH} {H':Hp},Ext ι H ι' H'->Sim T ι' h' H'->fS (some n) xs h'=true->∃ us,H' a=some (.lst us)/\RVs T ι' H' xs us:=λ{ι' h' H'} g S l=>by
  unfold fS at l
  dsimp only at l
  split at l
  ·rename_i ys hy
   have z:=P7 l
   subst z;obtain ⟨u,e1,us,rfl,r⟩:=S.obj n _ a hy (g.at_ e)
   exact ⟨us,e1,r⟩
  ·cases l
 constructor
 ·intro i ι' h' H' x g S l e
  obtain ⟨us,e0,r⟩:=at_ g S l
  obtain ⟨u,e1,r1⟩:=r.get e
  refine ⟨⟨us,u,.of e0,e1⟩,?_⟩
  rintro u2 H2 ⟨rfl,y⟩
  have z:=y us (.of e0)
  rw [e1] at z;cases z
  exact ⟨S.refl,S,r1⟩
 ·intro i ι' h' H' g S l hl
  obtain ⟨us,e0,r⟩:=at_ g S l
  exact ⟨us,.of e0,by rw [<- r.length];exact hl⟩
theorem GS {ι:Ix} {H:Hp} {x:Str} (o:x.cps.all (· < 0x110000)=true):iT T (tB x) ι H (x.cps.toList.map λc=>.str ⟨#[c]⟩) none:=by
 constructor
 ·intro i ι' h' H' y g S _ e
  rw [NK] at e;obtain ⟨c,e1,rfl⟩:=Nw.mp e
  have hi:i<x.cps.size:=by
   have:=(MY.mp e1).1
   simpa using this
  refine ⟨hi,?_⟩
  rintro u H2 ⟨rfl,c',e2,rfl⟩
  have z:x.cps[i]? = some c:=by simpa using e1
  rw [e2] at z;cases z
  refine ⟨S.refl,S,.str (show 1<=sizeLine by decide) ?_⟩
  have m:=Array.mem_of_getElem? e2
  have:=Of.mp o _ m
  simpa using this
 ·intro i ι' h' H' g S _ hl
  show x.cps.size<=i
  simpa using hl
theorem GT (n:Nat):∀ (lo:Int) (i:Nat),(cP lo n)[i]? = if i<n then some (.int (lo+i)) else none:=by
 induction n with
 | zero=>intro lo i;simp [cP]
 | succ n ih =>
  intro lo i
  cases i with
  | zero=>simp [cP]
  | succ i =>
   show (cP (lo+1) n)[i]? = _
   rw [ih];by_cases h:i<n
   ·rw [M8 h,M8 (by lia)]
    congr 2
    show lo+1+(i:Int)=lo+((i+1:Nat):Int)
    lia
   ·rw [M9 h,M9 (by lia)]
theorem GU (n:Nat):∀ lo:Int,(cP lo n).length=n:=by
 induction n with
 | zero=>intro lo;rfl
 | succ n ih=>intro lo;show (cP (lo+1) n).length+1=n+1;rw [ih]
theorem GV {ι:Ix} {H:Hp} {lo:Int} {n:Nat}:iT T (pq lo n) ι H (cP lo n) none:=by
 constructor
 ·intro i ι' h' H' y g S _ e
  rw [GT] at e;split at e
  ·rename_i hi
   cases e
   refine ⟨hi,?_⟩
   rintro u H2 ⟨rfl,rfl⟩
   exact ⟨S.refl,S,.int _⟩
  ·cases e
 ·intro i ι' h' H' g S _ hl
  rw [GU] at hl;exact hl
theorem numbered_get:∀ (xs:List AV) (k i:Nat),(numbered k xs)[i]? = (xs[i]?).map λx=>.tup [.int ((k+i:Nat):Int),x]
 | [],k,i=>by simp [numbered]
 | x::xs,k,0=>by simp [numbered]
 | x::xs,k,i+1=>by
  show (numbered (k+1) xs)[i]? = _
  rw [numbered_get xs (k+1) i];show _=(xs[i]?).map _
  congr 1
  funext y
  rw [show k+1+i=k+(i+1) by lia]
theorem ze:∀ (xs:List AV) (k:Nat),(numbered k xs).length=xs.length
 | [],_=>rfl
 | x::xs,k=>by show (numbered (k+1) xs).length+1=_;rw [ze xs];rfl
theorem zf {ι:Ix} {H:Hp} {a:Addr} {us:List V} {xs:List AV} {K:PySem.W.Frag} (keep:∀ (ι':Ix) (H':Hp),Ext ι H ι' H'->SqL K H' a us) (r:RVs T ι H xs us):iT T (tw K a) ι H (numbered 0 xs) none:=by
 constructor
 ·intro i ι' h' H' x g S _ e
  rw [numbered_get] at e;obtain ⟨y,e0,rfl⟩:=Nw.mp e
  obtain ⟨u,e1,r1⟩:=(r.ext g).get e0
  refine ⟨⟨us,u,keep ι' H' g,e1⟩,?_⟩
  rintro u2 H2 ⟨t,y2,rfl,hn,rfl,hy⟩
  have z:=hy us (keep ι' _ g)
  rw [e1] at z;cases z
  have g2:=S.growNew (o:=.tup [.int i,u]) hn
  refine ⟨g2,S.new hn,.tup (S.fresh hn) dM (.cons ?_ (.cons (r1.mono g2) .nil))⟩
  rw [Rv];exact .int _
 ·intro i ι' h' H' g S _ hl
  rw [ze] at hl;exact ⟨us,keep ι' H' g,by rw [<- r.length];exact hl⟩
theorem zg {ι:Ix} {H:Hp} {a:Addr} {us:List V} (n:a∉ι.all) (h:Rd H a (.lst us)):∀ (ι':Ix) (H':Hp),Ext ι H ι' H'->SqL T.K H' a us:=λ_ _ g=>.inl (yU g n h)
theorem GW {ι:Ix} {H:Hp} {a:Addr} {us:List V} (n:a∉ι.all) (h:H a=some (.tup us)):∀ (ι':Ix) (H':Hp),Ext ι H ι' H'->SqT T.K H' a us:=λ_ _ g=>.of (g.keep _ _ n h)
theorem p7 {K K':PySem.W.Frag} {H:Hp} {a:Addr} {us:List V} (e:K=K') (h:SqL K' H a us):SqL K H a us:=e▸h
theorem zh {σ:St} {H:Hp} {R:It->Hp->Prop} {ι:Ix} {h h1:AH} {en:En} {v:AV} {xs:List AV} {w:Option Nat} (hK:X.K=T.K) (S:Sim T ι h H) (er:ER T ι H en σ) (e:sa en h = .ok v h1) (hv:(v = .fl xs/\w=none)\/∃ n,v = .ref n/\h1[n]? = some (.lst xs)/\w=some n)
  (q:∀ ι' H' J,Grow ι H ι' H'->Sim T ι' h1 H'->iT T J ι' H' xs w->R J H'):xX X.K (tE T E sa) σ H R:=by
 refine ⟨ι,h,en,S,er,?_⟩
 rw [e];intro ι1 H1 u g1 S1 r1
 rcases hv with ⟨rfl,rfl⟩ | ⟨n,rfl,hn,rfl⟩
 ·cases r1 with
  | fl n hr rs=>exact ⟨_,rfl,⟨_,p7 hK (.inl hr)⟩,q ι1 H1 _ g1 S1 (hK▸zd (zg n hr) rs)⟩
  | kfl hr rs=>exact ⟨_,rfl,⟨_,p7 hK (.inr hr)⟩,q ι1 H1 _ g1 S1 (hK▸zd (λ_ _ _=>.inr hr) rs)⟩
 ·cases r1 with
  | ref hr =>
   obtain ⟨u,e1,us,rfl,rs⟩:=S1.obj n _ _ hn hr
   exact ⟨_,rfl,⟨_,.of e1⟩,q ι1 H1 _ g1 S1 (GR hr)⟩
theorem GY {σ:St} {H:Hp} {R:It->Hp->Prop} {ι:Ix} {h h1:AH} {en:En} {xs:List AV} (hK:X.K=T.K) (S:Sim T ι h H) (er:ER T ι H en σ) (e:sa en h = .ok (.tup xs) h1)
  (q:∀ ι' H' J,Grow ι H ι' H'->Sim T ι' h1 H'->iT T J ι' H' xs none->R J H'):mZ X.K (tE T E sa) σ H R:=by
 refine ⟨ι,h,en,S,er,?_⟩
 rw [e];intro ι1 H1 u g1 S1 r1
 cases r1 with
 | tup n hr rs=>exact ⟨_,rfl,⟨_,.of hr⟩,q ι1 H1 _ g1 S1 (hK▸GQ (GW n hr) rs)⟩
theorem nH {y:Str} {py:Pos} (hK:X.K=T.K) (ha:aL T E X a sa):kQ T X (.Name y py) a (cW sa) :=
 p6 (PI.or (CZ ha) (PI.or (C6 ha) (Fk ha))) λσ H R=>E6x λι h en S er q=>by
  unfold cW at q
  cases e:sa en h with
  | bad=>rw [e] at q;exact q.elim
  | ex c h1=>rw [e] at q;exact q.elim
  | ok v h1 =>
   rw [e] at q
   cases v with
   | fl xs=>exact .inl (zh hK S er e (.inl ⟨rfl,rfl⟩) q)
   | tup xs=>exact .inr (.inl (GY hK S er e q))
   | str z =>
    refine .inr (.inr ⟨ι,h,en,S,er,?_⟩)
    rw [e];intro ι1 H1 u g1 S1 r1
    obtain ⟨rfl,_,o⟩:=eC r1
    exact ⟨_,rfl,q ι1 H1 _ g1 S1 (GS o)⟩
   | ref n =>
    dsimp only [Out.bind] at q
    cases e2:h1[n]? with
    | none=>rw [e2] at q;exact q.elim
    | some o =>
     rw [e2] at q
     cases o with
     | lst xs=>exact .inl (zh hK S er e (.inr ⟨n,rfl,e2,rfl⟩) q)
     | _=>exact q.elim
   | _=>exact q.elim
theorem lZ {tg:Expr} {p:Pos} (hg:Gl X "range") (hm:X.mg "range" = none) (ha:aL T E X a sa) (hs:starEach [a] X.env=[(false,eval a X.env)]:=by rfl):kQ T X tg (.Call (.Name "range" p) [a] [] pos) (hJ sa) :=
 p6 (C9 hg hm (ak ha ar hs) hs) λσ H R=>E6x λι h en S er q=>by
  unfold hJ at q
  refine ⟨ι,h,en,S,er,?_⟩
  unfold aj
  cases e:sa en h with
  | bad=>rw [e] at q;exact q
  | ex c h1=>rw [e] at q;exact q.elim
  | ok v h1 =>
   rw [e] at q;intro ι1 H1 u g1 S1 r1
   dsimp only [Out.bind] at q
   cases v with
   | int j =>
    dsimp only at q
    split at q
    ·rename_i hx
     split at hx
     ·rename_i hb
      cases hx
      cases r1 with
      | cons r r' =>
       cases r'
       rw [bT r];exact ⟨j,rfl,by lia,by lia,q ι1 H1 _ g1 S1 GV⟩
     ·cases hx
    ·exact q.elim
   | _=>exact q.elim
theorem GZ {p tp:Pos} {es:List Expr} {k:Nat} (hK:X.K=T.K) (hg:Gl X "enumerate") (hm:X.mg "enumerate" = none) (ha:aL T E X a sa) (hs:starEach [a] X.env=[(false,eval a X.env)]:=by rfl):kQ T X (.Tuple es k tp) (.Call (.Name "enumerate" p) [a] [] pos) (Sm.iEnum sa) :=
 p6 (Fg hg hm (ak ha ar hs) hs) λσ H R=>E6x λι h en S er q=>by
  unfold Sm.iEnum at q
  refine ⟨ι,h,en,S,er,?_⟩
  unfold aj
  cases e:sa en h with
  | bad=>rw [e] at q;exact q
  | ex c h1=>rw [e] at q;exact q.elim
  | ok v h1 =>
   rw [e] at q;intro ι1 H1 u g1 S1 r1
   dsimp only [Out.bind] at q
   cases v with
   | fl xs =>
    cases r1 with
    | cons r r' =>
     cases r'
     cases r with
     | fl n hr rs=>exact ⟨_,rfl,⟨_,p7 hK (.inl hr)⟩,q ι1 H1 _ g1 S1 (hK▸zf (zg n hr) rs)⟩
     | kfl hr rs=>exact ⟨_,rfl,⟨_,p7 hK (.inr hr)⟩,q ι1 H1 _ g1 S1 (hK▸zf (λ_ _ _=>.inr hr) rs)⟩
   | _=>exact q.elim
theorem zi {α:Type} {xs:List α} {i:Nat} (h:i<xs.length):xs.drop i=xs[i]::xs.drop (i+1):=by simp
def G0 (g:TG) (tb:TS) (D:cU) (σ:St) (H1:Hp) (J:It):Prop:=∃ W:Nat->Nat->St->Hp->Prop,(∃ m,W 0 m σ H1)/\∀ i m σ H,W i m σ H->(J.stop i H/\D.nx σ H)\/(J.go i H/\∃ N:St->Hp->Prop,(∀ σ' H',N σ' H'->∃ m',m'<m/\W (i+1) m' σ' H')/\∀ x H',J.yld i H x H'->g x σ H' λσ' H'' => tb { D with nx:=N,ct:=N,bk:=D.nx } σ' H'')
theorem G4 {g:TG} {t:Tg} {J:It} {ι1:Ix} {h1:AH} {H1:Hp} {en:En} {σ:St} {D:cU} {w:Option Nat} {all ys:List AV}
  (hg2:∀ {ι:Ix} {h:AH} {H:Hp} {en e:En} {σ:St} {v:AV} {u:V} {Q:St->Hp->Prop},Sim T ι h H->ER T ι H en σ->RV T ι H v u->fg t v en=some e->(∀ σ',ER T ι H e σ'->Q σ' H)->g u σ H Q)
  (S1:Sim T ι1 h1 H1) (er:ER T ι1 H1 en σ) (IR:uf T J ι1 H1 ys (fS w all)) (q:PostS T ι1 H1 E (gu w all t s1 ys en h1) D):G0 g (tS T EN s1) D σ H1 J:=by
 refine ⟨λi m σ H=>m=ys.length-i/\i<=ys.length/\∃ ι' h' en',Grow ι1 H1 ι' H/\Sim T ι' h' H/\ER T ι' H en' σ/\PostS T ι' H E (gu w all t s1 (ys.drop i) en' h') D,
  ⟨ys.length,by simp,NB _,ι1,h1,en,S1.refl,S1,er,q⟩,?_⟩
 rintro i m σ H ⟨rfl,hi,ι',h',en',g',S',er',q'⟩
 by_cases hl:i<ys.length
 ·rw [zi hl] at q'
  unfold gu at q'
  split at q'
  ·rename_i hlive
   obtain ⟨go,yld⟩:=IR.go i ι' h' H ys[i] g'.ext S' hlive (by simp [hl])
   refine .inr ⟨go,λσ H=>∃ ι' h' en',Grow ι1 H1 ι' H/\Sim T ι' h' H/\ER T ι' H en' σ/\PostS T ι' H E (gu w all t s1 (ys.drop (i+1)) en' h') D,
    λσ' H' w' => ⟨ys.length-(i+1),by lia,rfl,hl,w'⟩,λx H' y=>?_⟩
   obtain ⟨g2,S2,r2⟩:=yld x H' y
   split at q'
   ·rename_i e1 he1
    refine hg2 S2 (er'.mono g2) r2 he1 λσ' er2=>⟨ι',h',e1,S2,er2,?_⟩
    have q2:=PostS.shift q' g2
    cases e2:s1 e1 h' with
    | nx e3 h3=>rw [e2] at q2;exact λι3 H3 σ3 g3 S3 er3=>⟨ι3,h3,e3,g'.trans (g2.trans g3),S3,er3,q2.shift g3⟩
    | ct e3 h3=>rw [e2] at q2;exact λι3 H3 σ3 g3 S3 er3=>⟨ι3,h3,e3,g'.trans (g2.trans g3),S3,er3,q2.shift g3⟩
    | bk e3 h3=>rw [e2] at q2;exact q2
    | rt v h3=>rw [e2] at q2;exact q2
    | ex c e3 h3=>rw [e2] at q2;exact (show False from q2).elim
    | bad=>rw [e2] at q2;exact q2
   ·exact (show False from q').elim
  ·exact (show False from q').elim
 ·have ei:i=ys.length:=by lia
  subst ei;rw [List.drop_length] at q';unfold gu at q'
  split at q'
  ·rename_i hlive
   exact .inl ⟨IR.stop _ ι' h' H g'.ext S' hlive (MZ _),q' ι' H σ S'.refl S' er'⟩
  ·exact (show False from q').elim
theorem ju {tg iter:Expr} {it:SI} {t:Tg} (hc:X.calm=true) (hi:kQ T X.nox tg iter it) (hg:pZ T X.nox tg t) (hb:cR T EN X.nox sts s1) (hs:∀ x,foldedSetIterable iter X.nox.env x=pure x:=by intro _;rfl) :
  gr T E X (.For tg iter sts [] pos) (cy it t s1):=by
 obtain ⟨g,hg1,hg2⟩:=hg
 refine g9 (Gz (Dc PassesOwn.never hc hi hg1 hb hs)) λD σ H=>E6x λι h en S er q=>⟨ι,h,en,S,er,?_⟩
 unfold cy at q
 cases e:it en h with
 | bad=>rw [e] at q;exact q
 | ex c h1=>rw [e] at q;exact q
 | ok p h1 =>
  obtain ⟨xs,w⟩:=p
  rw [e] at q;intro ι1 H1 J g1 S1 IR
  exact G4 hg2 S1 (er.mono g1) IR (PostS.shift q g1)
theorem ER.comp {ι:Ix} {H:Hp} {en:En} {σ:St} {ys:List AV} {us:List V} {jf:List (Nat×Str)} (er:ER T ι H en σ) (r:RVs T ι H ys us):ER T ι H (ys.map some++(jf.map (·.1)).map λj=>(en[j]?).join) (fH (us.map some) jf σ):=by
 unfold fH
 induction ys generalizing us with
 | nil =>
  cases r
  refine ⟨by simp,λi v e=>?_⟩
  simp only [O8,Ph,NK] at e ⊢
  cases e1:jf[i]? with
  | none=>rw [e1] at e;cases e
  | some j =>
   rw [e1] at e;simp only [Option.map_some,Option.some.injEq] at e
   have e2:en[j.1]? = some (some v):=by
    cases e3:en[j.1]? with
    | none=>rw [e3] at e;cases e
    | some o=>rw [e3] at e;exact congrArg some e
   obtain ⟨u',e4,r'⟩:=er.2 j.1 v e2
   exact ⟨u',by simp [e4],r'⟩
 | cons y ys ih =>
  cases r with
  | cons r rs =>
   obtain ⟨h1,h2⟩:=ih rs
   refine ⟨congrArg Nat.succ h1,λi v e=>?_⟩
   cases i with
   | zero=>cases e;exact ⟨_,rfl,r⟩
   | succ i=>exact h2 i v e
def kR (T:Tb) (k:Nat) (g:TG) (cc' cc:SB) (ce' ce:SE):Prop:=∀ x,(∀ r h,cc' (some x::r) h = .bad)\/∃ ys:List AV,ys.length=k/\(∀ r h,cc' (some x::r) h=cc (ys.map some++r) h)/\(∀ r h,ce' (some x::r) h=ce (ys.map some++r) h) /\
 ∀ (ι:Ix) (H:Hp) (u:V),RV T ι H x u->∃ us,RVs T ι H ys us/\∀ (σ:St) (Q:St->Hp->Prop),Q (us.map some++σ) H->g u (List.replicate k none++σ) H Q
theorem zj {cc:SB} {ce:SE}:kR T 1 (lR 0) cc cc ce ce:=λx=>.inr ⟨[x],rfl,λ_ _=>rfl,λ_ _=>rfl,λ_ _ u r=>⟨[u],.cons r .nil,λ_ _ q=>q⟩⟩
structure CoS (T:Tb) (ι1:Ix) (H1:Hp) (en:En) (σ:St) (D:Addr) (ι':Ix) (h':AH) (vs:List AV) (ys:List V) (H2:Hp):Prop where
 hD:H2 D=some (.lst ys)
 g:Grow ι1 H1 ι' H2
 x:Ext ι1 H1 (ι'.hide D) H2
 S:Sim T (ι'.hide D) h' H2
 er:ER T (ι'.hide D) H2 en σ
 rv:RVs T (ι'.hide D) H2 vs ys
 nD:D∉ι'.refs
theorem zk {ι' ι5:Ix} {D:Addr} (e:ι5.priv=(ι'.hide D).priv):ι5=Ix.hide ⟨ι5.refs,ι'.priv⟩ D:=by
 cases ι5
 simp only at e
 subst e;rfl
theorem G5 {ι1 ι' ι5:Ix} {H1 H2 H5:Hp} {D:Addr} (g':Grow ι1 H1 ι' H2) (g:Grow (ι'.hide D) H2 ι5 H5):Grow ι1 H1 ⟨ι5.refs,ι'.priv⟩ H5:=by
 obtain ⟨n,en1,hn⟩:=g'.pre
 obtain ⟨k,ek,hk⟩:=g.pre
 refine ⟨⟨n++k,?_,λa ha=>?_⟩,g'.priv,λa o na ea=>g.keep a o (g'.outR na ea) (g'.keep a o na ea),λa ha=>g.live a ?_⟩
 ·show ι5.refs=_;rw [ek];show ι'.refs++k=_;rw [en1,Rw]
 ·rcases NV.mp ha with z | z
  ·exact hn a z
  ·have z2:=hk a z
   by_cases hr:a∈ι1.refs
   ·exact absurd z2 (g'.live a (Nu _ hr))
   ·cases e9:H1 a with
    | none=>rfl
    | some o=>rw [g'.keep a o hr e9] at z2;cases z2
 ·rcases NV.mp ha with z | z
  ·exact Nu _ (by show a∈ι'.refs;rw [en1];exact Nu _ z)
  ·exact Ny _ (NI _ (by rw [g'.priv];exact z))
section
variable {ι ι1 ι' ι5:Ix} {H H1 H2 H5:Hp} {h1 h' h5:AH} {en:En} {σ:St} {D:Addr} {vs:List AV} {ys:List V}
theorem CoS.skip (c:CoS T ι1 H1 en σ D ι' h' vs ys H2) (g:Grow (ι'.hide D) H2 ι5 H5) (S:Sim T ι5 h5 H5):CoS T ι1 H1 en σ D ⟨ι5.refs,ι'.priv⟩ h5 vs ys H5:=by
 have e:=zk g.priv
 exact ⟨g.keep D _ c.nD c.hD,G5 c.g g,e▸c.x.trans g.ext,e▸S,e▸c.er.mono g,e▸c.rv.mono g,g.outR c.nD c.hD⟩
theorem CoS.poke {v:AV} {u:V} (c:CoS T ι1 H1 en σ D ι' h' vs ys H2) (hD:H1 D=none) (r:RV T (ι'.hide D) H2 v u):CoS T ι1 H1 en σ D ι' h' (vs++[v]) (ys++[u]) (upd H2 D (.lst (ys++[u]))):=by
 refine ⟨dM,⟨c.g.pre,c.g.priv,λa o na ea=>by rw [bG (fG ea hD)];exact c.g.keep a o na ea,λa ha=>?_⟩,c.x.trans Ext.poke,Sim.poke c.S c.nD,ER.ext c.er Ext.poke,RVs.ext Ext.poke (c.rv.append (.cons r .nil)),c.nD⟩
 by_cases z:a=D
 ·subst z;rw [dM];simp
 ·rw [bG z];exact c.g.live a ha
theorem CoS.push {v:AV} {u:V} (c:CoS T ι1 H1 en σ D ι' h' vs ys H2) (hD:H1 D=none) (g:Grow (ι'.hide D) H2 ι5 H5) (S:Sim T ι5 h5 H5) (r:RV T ι5 H5 v u):CoS T ι1 H1 en σ D ⟨ι5.refs,ι'.priv⟩ h5 (vs++[v]) (ys++[u]) (upd H5 D (.lst (ys++[u]))) :=
 (c.skip g S).poke hD ((zk g.priv)▸r)
theorem CoS.fin (c:CoS T ι1 H1 en σ D ι' h' vs ys H2) (g1:Grow ι H ι1 H1) (S1:Sim T ι1 h1 H1) (hD:H1 D=none):D∉ι'.all/\∀ n,ι'.refs=ι.refs++n->∀ a∈n++[D],H a=none:=by
 refine ⟨λz=>(NV.mp z).elim c.nD λz=>by rw [c.g.priv] at z;exact S1.plive D z hD,λn en1 a ha=>?_⟩
 obtain ⟨k,ek,hk⟩:=(g1.trans c.g).pre
 have:n=k:=List.append_cancel_left (en1.symm.trans ek)
 subst this;rcases NV.mp ha with z | z
 ·exact hk a z
 ·have z':a=D:=by simpa using z
  subst z'
  cases e9:H a with
  | none=>rfl
  | some o =>
   by_cases hr:a∈ι.refs
   ·obtain ⟨k1,ek1,_⟩:=g1.pre
    exact absurd hD (S1.live a (Nu _ (by rw [ek1];exact Nu _ hr)))
   ·rw [g1.keep a o hr e9] at hD;cases hD
theorem CoS.start (er:ER T ι H en σ) (g1:Grow ι H ι1 H1) (S1:Sim T ι1 h1 H1) (hD:H1 D=none):CoS T ι1 H1 en σ D ι1 h1 [] [] (upd H1 D (.lst [])) :=
 ⟨dM,S1.growNew hD,Ext.hide hD,S1.hide hD,(er.mono g1).ext (Ext.hide hD),.nil,λz=>S1.fresh hD (Nu _ z)⟩
end
def ug (T:Tb) (ι:Ix) (H:Hp) (Q:VK) (o:Out (List AV)):Prop:=match o with
 | .ok ys h2=>∀ ι' H' D vs,Grow ι H ι' H'->Sim T (ι'.hide D) h2 H'->RVs T (ι'.hide D) H' ys vs->H' D=some (.lst vs)->D∉ι'.all->(∀ n,ι'.refs=ι.refs++n->∀ a∈n++[D],H a=none)->Q (.ref D) H'
 | _=>False
theorem G6 {k:Nat} {g:TG} {cc' cc:SB} {ce' ce:SE} {jf:List (Nat×Str)} {σ:St} {H H1:Hp} {Q:VK} {ι ι1:Ix} {h1:AH} {en:En} {xs all:List AV} {w:Option Nat} {J:It} (U:kR T k g cc' cc ce' ce) (er:ER T ι H en σ) (g1:Grow ι H ι1 H1) (S1:Sim T ι1 h1 H1)
  (IR:uf T J ι1 H1 xs (fS w all)) (q:ug T ι H Q (eu (jf.map (·.1)) en w all cc' ce' xs [] h1)):yB k g jf (tT T EN cc) (tE T EN ce) σ Q J H1:=by
 intro D hD
 refine ⟨λi m ys H2=>m=xs.length-i/\i<=xs.length/\∃ ι' h' vs,CoS T ι1 H1 en σ D ι' h' vs ys H2/\ug T ι H Q (eu (jf.map (·.1)) en w all cc' ce' (xs.drop i) vs h'),⟨xs.length,rfl,NB _,ι1,h1,[],CoS.start er g1 S1 hD,q⟩,?_⟩
 rintro i m ys H2 ⟨rfl,hi,ι',h',vs,c,q'⟩
 refine ⟨c.hD,?_⟩
 by_cases hl:i<xs.length
 ·rw [zi hl] at q'
  unfold eu at q'
  by_cases hs:fS w all h'=true/\vs.length<sizeLine
  ·rw [M8 hs] at q'
   obtain ⟨go,yld⟩:=IR.go i _ h' H2 xs[i] c.x c.S hs.1 (by simp [hl])
   refine .inr ⟨go,by rw [<- c.rv.length];exact hs.2,λx H3 y=>?_⟩
   obtain ⟨g3,S3,r3⟩:=yld x H3 y
   rcases U xs[i] with z | ⟨zs,lz,z1,z2,z3⟩
   ·rw [z] at q';exact False.elim q'
   obtain ⟨us,rs,gq⟩:=z3 _ _ _ r3
   have er3:=ER.comp (jf:=jf) (c.er.mono g3) rs
   rw [z1] at q';refine ⟨us,by rw [<- rs.length];exact lz,gq _ _ ⟨rfl,rfl⟩,ι'.hide D,h',_,S3,er3,?_⟩
   cases ec:cc (zs.map some++(jf.map (·.1)).map λj=>(en[j]?).join) h' with
   | bad=>rw [ec] at q';exact q'
   | ex k h5=>rw [ec] at q';exact False.elim q'
   | ok bb h5 =>
    rw [ec] at q';intro ι5 H5 b5 g5 S5 r5
    subst r5
    cases bb with
    | false =>
     rw [M9 Nv];exact ⟨xs.length-(i+1),by lia,rfl,hl,_,h5,vs,c.skip (g3.trans g5) S5,q'⟩
    | true =>
     rw [M8 rfl];refine ⟨ι5,h5,_,S5,er3.mono g5,?_⟩
     dsimp only at q'
     rw [z2] at q'
     cases ee:ce (zs.map some++(jf.map (·.1)).map λj=>(en[j]?).join) h5 with
     | bad=>rw [ee] at q';exact q'
     | ex k h6=>rw [ee] at q';exact False.elim q'
     | ok v h6 =>
      rw [ee] at q';intro ι6 H6 u6 g6 S6 r6
      have g36:=(g3.trans g5).trans g6
      exact ⟨g36.keep D _ c.nD c.hD,xs.length-(i+1),by lia,rfl,hl,_,h6,vs++[v],c.push hD g36 S6 r6,q'⟩
  ·rw [M9 hs] at q';exact False.elim q'
 ·have ei:i=xs.length:=by lia
  subst ei;rw [List.drop_length] at q';unfold eu at q'
  by_cases hs:fS w all h'=true
  ·rw [M8 hs] at q'
   have f:=c.fin g1 S1 hD
   exact .inl ⟨IR.stop _ _ h' H2 c.x c.S hs (MZ _),q' ι' H2 D ys (g1.trans c.g) c.S c.rv c.hD f.1 f.2⟩
  ·rw [M9 hs] at q';exact False.elim q'
end
end Sm
namespace Sm
open PySem PySem.Spec L2
section
variable {T:Tb} {E:St->XK} {X:Cx} {pos px:Pos} {iter elt:Expr} {ifs:List Expr} {scope:Scope} {x₁:Str} {jf:List (Nat×Str)} {it:SI} {cc:SB} {ce:SE}
theorem G7 {ι:Ix} {H:Hp} {Q:VK} {F:XK} {o:Out (List AV)} (q:Post T ι H F (RV T) (match o with | .ok ys h2=>.ok (.fl ys) h2 | _=>.bad) Q):ug T ι H Q o:=by
 cases o with
 | bad=>exact q
 | ex c h1=>exact q.elim
 | ok ys h2=>exact λι' H' D vs g S' r hD nD _=>q ι' H' _ g S'.show (.fl nD (.inl hD) (r.ext Ext.show))
theorem zm {k:Nat} {g:TG} {cc':SB} {ce':SE} {σ:St} {H:Hp} {Q:VK} (U:kR T k g cc' cc ce' ce) (q:tE T E (fi (jf.map (·.1)) it cc' ce') σ H Q):pM k g jf (tI T it) (tT T EN cc) (tE T EN ce) σ H Q:=by
 obtain ⟨ι,h,en,S,er,q⟩:=q
 refine ⟨ι,h,en,S,er,?_⟩
 unfold fi at q
 cases e:it en h with
 | bad=>rw [e] at q;exact q
 | ex c h1=>rw [e] at q;exact q.elim
 | ok p h1=>rw [e] at q;exact λι1 H1 J g1 S1 IR=>G6 U er g1 S1 IR (G7 q)
theorem nI:kF X [] (tT T E bZ):=λpins s σ H Q I ⟨ι,h,en,S,er,q⟩=>Fm pins s σ H Q I (q.now S rfl)
theorem p8 (C:CompOk X [x₁] jf scope) (hcalm:X.calm=true) (hi:kQ T X (.Name x₁ px) iter it) (hc:∀ pins cl s H fp,kF (cZ X pins [x₁] jf scope cl s H fp) ifs (tT T EN cc)) (he:∀ pins cl s H fp,aL T EN (cZ X pins [x₁] jf scope cl s H fp) elt ce)
  (hs:∀ x,foldedSetIterable iter X.env x=pure x:=by intro _;rfl):aL T E X (.ListComp elt [⟨.Name x₁ px,iter,ifs,0⟩] scope pos) (fi (jf.map (·.1)) it cc ce) :=
 cw (Fp hcalm (λ_ _ _ _ _=>C.pg 0 rfl (.head _)) hi hc he C hs) λ_ _ _ q=>zm zj q
theorem G8 {y:Str} {py spos:Pos} {i:Nat} (C:CompOk X [x₁] jf scope) (hcalm:X.calm=true) (hi:kQ T X (.Name x₁ px) iter it) (hc:∀ pins cl s H fp,kF (cZ X pins [x₁] jf scope cl s H fp) ifs (tT T EN cc)) (he:∀ pins cl s H fp,aL T EN (cZ X pins [x₁] jf scope cl s H fp) elt ce)
  (hNX:X.N.Nodup) (hi':X.N[i]? = some y:=by rfl) (hy:X.env.scope.names.lookup y=some .local:=by rfl) (hsw:swapsWith (.ListComp elt [⟨.Name x₁ px,iter,ifs,0⟩] scope pos) (some (.Name y py)) spos.line X.env=pure true:=by rfl) (hs:∀ x,foldedSetIterable iter X.env x=pure x:=by intro _;rfl) :
  gr T E X (.Assign [.Name y py] (.ListComp elt [⟨.Name x₁ px,iter,ifs,0⟩] scope pos) spos) (aB i (fi (jf.map (·.1)) it cc ce)) :=
 g9 (Fq hcalm (λ_ _ _ _ _=>C.pg 0 rfl (.head _)) hi hc he C hNX hi' hy hsw hs) λD σ H q=>zm zj (y8 q)
end
def iy (T:Tb) (F:Fn):Sp:=λvs H Q E=>∃ ι h args,Sim T ι h H/\RVs T ι H args vs/\Post T ι H E (RV T) (F args h) Q
def G9 (F:Fn) (n:Nat):Prop:=∀ args h,args.length≠n->F args h = .bad
theorem zq (n m:Nat) (b:SS):G9 (aD n m b) n:=λargs h hl=>by
 unfold aD
 rw [M9 hl]
theorem p9 {P:Program} {w:World} {K:PySem.W.Frag} {mg:Str->Option Value} {base:Heap} {T:Tb} {x qual:Str} {st:Stmt} {f:Addr} {fd:FuncData} {N ps:List Str} {k:Nat} {b:SS} (F:Fun K x qual st f fd) (hK:K=T.K) (S:aq N ps (aP st))
  (hbody:∀ (cdv:Value) (A:Around) (outer:List Env) (s:Shared) (H:Hp) (E:XK),Room k (A.deeper (PyProof.Rows.envOfC qual (aP st) s.heap.objs.size f cdv))->CA T (λ_=>E) (cD (cT P w) P w K mg base N qual (aP st) f cdv A outer s H E) ->
   cR T (λ_=>E) (cD (cT P w) P w K mg base N qual (aP st) f cdv A outer s H E) (iM st) b):FnOk P w K mg base (cT P w) (k+1) f fd ps (iy T (aD ps.length N.length b)):=by
 refine F.okE S (λvs H Q E h=>?_) (λcdv A outer s H vs Q E hr h=>?_)
 ·obtain ⟨ι,h,args,_,r,q⟩:=h
  by_cases hl:args.length=ps.length
  ·rw [<- hl,r.length]
  ·rw [zq _ _ _ args h hl] at q;exact q.elim
 ·obtain ⟨ι,h,args,Si,r,q⟩:=h
  refine ⟨_,hbody cdv A outer s H E hr ⟨hK,FP⟩,ι,h,args.map some++List.replicate (N.length-ps.length) none,Si,?_,?_⟩
  ·by_cases hl:args.length=ps.length
   ·refine ⟨by simp [L2.start,r.length,<- hl],λi v e=>?_⟩
    unfold L2.start
    by_cases hi:i<args.length
    ·rw [Nb (by simpa using hi),NK] at e
     rw [Nb (by simpa [<- r.length] using hi),NK]
     obtain ⟨x,e1,e2⟩:=Nw.mp e
     cases e2
     obtain ⟨u,e3,r3⟩:=r.get e1
     exact ⟨u,by rw [e3];rfl,r3⟩
    ·rw [NC (by simpa using hi),Ov] at e
     split at e
     ·cases e
     ·cases e
   ·rw [zq _ _ _ args h hl] at q;exact q.elim
  ·unfold aD at q
   split at q
   ·split at q
    ·rename_i e1 h1 he
     rw [he];exact λι' H' σ' g S' er=>q ι' H' _ g S' .non
    ·rename_i v h1 he
     rw [he];exact q
    ·rename_i c e1 h1 he
     rw [he];exact λι' H' σ' C g S' er ec=>q ι' H' C g S' ec
    ·exact q.elim
   ·exact q.elim
structure GF (P:Program) (w:World) (T:Tb) (mg:Str->Option Value) (base:Heap) (k:Nat) (x:Str) (F:Fn):Prop where
 ex:∃ f fd ps,mg x=some (.ref f)/\PySem.W.keepIn T.K (.ref f)=true/\Binds T.K fd ps []/\FnOk P w T.K mg base (cT P w) k f fd ps (iy T F)
structure GM (P:Program) (w:World) (T:Tb) (mg:Str->Option Value) (base:Heap) (k:Nat) (c:Nat) (m:Str) (F:Fn):Prop where
 ex:∃ C f fd ps,T.cls c=some C/\Cls T.K C/\ik T.K C m f/\Binds T.K fd ps []/\FnOk P w T.K mg base (cT P w) k f fd ps (iy T F)
 no:m∉T.fields c
section
variable {T:Tb} {E:St->XK} {X:Cx} {pos p apos:Pos} {e o a:Expr} {es:List Expr} {x m:Str} {F:Fn} {k c:Nat} {as:SL} {so sa:SE}
theorem aW (hK:X.K=T.K) (C:CA T E X) (G:GF X.prog X.w T X.mg X.base k x F) (hr:Room k X.A) (hg:Gl X x) (ha:fI T E X (e::es) as) (hdb:(x == ("__debug__" : Str))=false:=by decide)
  (he:starEach (e::es) X.env=(false,eval e X.env)::starEach es X.env:=by rfl) (hpl:(backTo pos (starEach es X.env)).any (·.1)=false:=by rfl):aL T E X (.Call (.Name x p) (e::es) [] pos) (aC F as):=by
 obtain ⟨f,fd,ps,h1,h2,h3,h4⟩:=G.ex
 refine cw (FT (Ex:=E) (dvs:=[]) (hK▸h4) hr hg h1 (hK▸h2) (hK▸h3) .nil C.pass ha hdb he hpl) λσ H Q=>E6x λι h en S er q=>⟨ι,h,en,S,er,q.bind λxs h1 ι1 H1 us g1 S1 r1 q1=>?_⟩
 rw [Pf];exact ⟨ι1,h1,xs,S1,r1,q1⟩
theorem zr {C:Addr} {σ:St} {H:Hp} {Q:VK} (hc:T.cls c=some C) (no:m∉T.fields c) (q:tE T E (aI c F so as) σ H Q):yN C m (iy T F) [] E (tE T E so) (tA T E as) σ H Q:=by
 obtain ⟨ι,h,en,S,er,q⟩:=q
 refine ⟨ι,h,en,S,er,q.bind λx h1 ι1 H1 u g1 S1 r1 q1=>?_⟩
 split at q1
 ·rename_i n
  split at q1
  ·rename_i c' fs hn
   split at q1
   ·rename_i ec
    subst ec
    cases r1 with
    | @ref _ a hr =>
     obtain ⟨o,e1,C',dx,fus,hC,rfl,nd,hw,hl,_⟩:=S1.obj n _ a hn hr
     rw [hc] at hC;cases hC
     refine ⟨a,dx,fus,rfl,e1,?_,ι1,h1,en,S1,er.mono g1,q1.bind λxs h2 ι2 H2 us g2 S2 r2 q2=>?_⟩
     ·cases e:fus.lookup m with
      | none=>rfl
      | some v =>
       have:=Om e
       exact absurd (hw _ this) no
     ·rw [Pf]
      exact ⟨ι2,h2,.ref n::xs,S2,.cons (.ref (g2.at hr)) r2,q2⟩
   ·exact q1.elim
  ·exact q1.elim
 ·exact q1.elim
theorem aQ {pl:Sem Bool} (hK:X.K=T.K) (CC:CA T E X) (G:GM X.prog X.w T X.mg X.base k c m F) (hr:Room k X.A) (ho:aL T E X o so) (ha:fI T E X (e::es) as)
  (hst:starEach (e::es) X.env=(false,eval e X.env)::starEach es X.env:=by rfl) (hpl:(backTo pos (starEach es X.env)).any (·.1)=false:=by rfl)
  (ht:eval (.Call (.Attribute o m apos) (e::es) [] pos) X.env=(do
   let ov <- eval o X.env
   standAt apos.atName
   let (f,first) <- holding [ov] (getMethod ov m pl)
   callWith pos f first (backTo pos (starEach (e::es) X.env)) (backToKw pos (keywordEach [] X.env))):=by rfl):aL T E X (.Call (.Attribute o m apos) (e::es) [] pos) (aI c F so as):=by
 obtain ⟨C,f,fd,ps,h1,h2,h3,h4,h5⟩:=G.ex
 exact cw (FU (Ex:=E) (dvs:=[]) (pl:=pl) ho (hK▸h2) (hK▸h3) (hK▸h5) hr (hK▸h4) .nil CC.pass ha hst hpl ht) λσ H Q q=>zr h1 G.no q
theorem jW {pl:Sem Bool} (hK:X.K=T.K) (CC:CA T E X) (G:GM X.prog X.w T X.mg X.base k c m F) (hr:Room k X.A) (ho:aL T E X o so)
  (ht:eval (.Call (.Attribute o m apos) [] [] pos) X.env=(do
   let ov <- eval o X.env
   standAt apos.atName
   let (f,first) <- holding [ov] (getMethod ov m pl)
   callWith pos f first (backTo pos (starEach [] X.env)) (backToKw pos (keywordEach [] X.env))):=by rfl):aL T E X (.Call (.Attribute o m apos) [] [] pos) (aI c F so ag):=by
 obtain ⟨C,f,fd,ps,h1,h2,h3,h4,h5⟩:=G.ex
 intro pins s σ H Q I q
 have q' := zr (C:=C) h1 G.no q
 refine QK (pl:=pl) (thn (ho pins s σ H _ I q') λu s1 Zz=>?_) ht;obtain ⟨x,H1,I1,rx,a,dx,fs,ex,ea,l,q⟩:=Zz
 subst ex;obtain rfl:u=Value.ref a:=rx
 refine yc I1 ea (hK▸h2) (hK▸h3) l ?_
 obtain ⟨ι,h,en,S,er,q⟩:=q
 refine Rc (first:=[.ref a]) I1.kIn (hK▸h3.kp) (pP (dvs:=[]) (us:=[.ref a]) (vs:=[.ref a]) (hK▸h5) hr (hK▸h4) .nil CC.pass I1 (.cons rfl .nil) (q.now S .nil))
structure CF (T:Tb) (c:Nat):Prop where
 ex:∃ C,T.cls c=some C/\Cls T.K C/\∀ f∈T.fields c,NoAttr T.K C f
structure GK (P:Program) (w:World) (T:Tb) (mg:Str->Option Value) (base:Heap) (k:Nat) (c:Nat) (x:Str) (F:Fn):Prop where
 ex:∃ C f fd ps,T.cls c=some C/\mg x=some (.ref C)/\Mk T.K C f/\Binds T.K fd ps []/\FnOk P w T.K mg base (cT P w) k f fd ps (iy T F)
theorem Ha {CX:fP} {C f:Addr} {fd:FuncData} {ps:List Str} {sp:Sp} {dvs:List V} {ds:List Value} {pins:List (Addr×Obj)} {σ:St} {H:Hp} {s:Shared} {Q:VK} {us:List Value} {vs:List V} (M:Mk X.K C f) (F:FnOk X.prog X.w X.K X.mg X.base CX k f fd ps sp) (hr:Room (k+1) X.A) (hb:Binds X.K fd ps ds) (hd:Vals dvs ds)
  (hx:kH CX X E) (I:L2.Inv X pins σ H s) (r:Vals vs us)
  (h:∀ x dx,H x=none->H dx=none->dx≠x->sp (.ref x::(vs++dvs)) (upd (upd H dx (.own x)) x (.ins C dx [])) (λv H2=>v = .non/\Q (.ref x) H2) (E σ)) :
  wpAny (model X.prog X.w) X.A (call (.ref C) us) (EP X pins σ Q) X.xe s:=by
 have hq:=h (s.heap.objs.size+1) s.heap.objs.size (I.hok.fresh (P5 _)) (I.hok.fresh (MZ _)) (NH (PC _))
 have I2:=Inv.made (C:=C) I
 have r2:Vals (V.ref (s.heap.objs.size+1)::(vs++dvs)) (Value.ref (s.heap.objs.size+1)::(us++ds)):=.cons rfl (r.append hd)
 have hl:(Value.ref (s.heap.objs.size+1)::us++ds).length=ps.length:=by
  have e:=r2.length
  rw [F.len _ _ _ _ hq] at e;exact e.symm
 refine wpAny_call (DO (f:=f) I.kIn M.makes M.init (beq_iff_eq.mp M.fn) (QD (F.run _ X.stack _ _ ⟨Value.ref (s.heap.objs.size+1)::us,[]⟩ (Value.ref (s.heap.objs.size+1)::(us++ds)) _ _ (E σ) (hr.make C us [])
  (I2.env0.make C us []) (hb _ (Value.ref (s.heap.objs.size+1)::us) I2.kIn hl) r2 hq) λr s' hq' => ?_))
 cases r with
 | error e=>exact hx pins σ _ _ e s' I2 hq'
 | ok fl =>
  cases fl with
  | ret u =>
   obtain ⟨v,H',I3,rv,ev,q3⟩:=I2.after hq'
   subst ev;exact ⟨rv,⟨V.ref (s.heap.objs.size+1),H',I3,rfl,q3⟩⟩
  | next=>exact False.elim hq'
  | brk=>exact False.elim hq'
  | cont=>exact False.elim hq'
theorem Hb {C:Addr} {xs:List AV} {us:List V} {H:Hp} {Q:VK} {ι:Ix} {h:AH} {E:XK} {n:Nat} (hc:T.cls c=some C) (hn:(T.fields c).length=n) (S:Sim T ι h H) (r:RVs T ι H xs us)
  (q:Post T ι H E (RV T) (match F (.ref h.length::xs) (h++[.ins c (List.replicate n none)]) with | .ok .non h2=>Out.ok (AV.ref h.length) h2 | .ex c h2=>.ex c h2 | _=>.bad) Q) :
  ∀ x dx,H x=none->H dx=none->dx≠x->iy T F (.ref x::us) (upd (upd H dx (.own x)) x (.ins C dx [])) (λv H2=>v = .non/\Q (.ref x) H2) E:=by
 intro x dx nx ndx ne
 have nx':(upd H dx (.own x)) x=none:=by rw [bG (Ne.symm ne)];exact nx
 have S1:=S.new (o:=.own x) ndx
 have g1:=S.growNew (o:=.own x) ndx
 have g2:=S1.growAdd (u:=.ins C dx []) nx'
 have S2:Sim T (ι.add x) (h++[.ins c (List.replicate n none)]) (upd (upd H dx (.own x)) x (.ins C dx [])):=S1.add nx' ⟨C,dx,[],hc,rfl,by simp,by simp,by simp [hn],λi v e=>by
  rw [Ov] at e;split at e
  ·cases e
  ·cases e⟩
 refine ⟨ι.add x,_,.ref h.length::xs,S2,.cons (.ref S.addAt) (r.mono (g1.trans g2)),?_⟩
 have q2:=q.shift (g1.trans g2)
 cases e:F (.ref h.length::xs) (h++[.ins c (List.replicate n none)]) with
 | bad=>rw [e] at q2;exact q2
 | ex c' h2=>rw [e] at q2;exact q2
 | ok v h2 =>
  rw [e] at q2
  cases v with
  | non=>exact λι' H' u g S' r' => ⟨pW r',q2 ι' H' _ g S' (.ref (g.at S.addAt))⟩
  | _=>exact (show False from q2).elim
theorem zt {n:Nat} (hK:X.K=T.K) (CC:CA T E X) (G:GK X.prog X.w T X.mg X.base k c x F) (hr:Room (k+1) X.A) (hg:Gl X x) (hn:(T.fields c).length=n:=by rfl) (hdb:(x == ("__debug__" : Str))=false:=by decide):aL T E X (.Call (.Name x p) [] [] pos) (lV c n F ag):=by
 obtain ⟨C,f,fd,ps,h1,h2,h3,h4,h5⟩:=G.ex
 intro pins s σ H Q I ⟨ι,h,en,S,er,q⟩
 refine Pn (kj I hg h2 ?_ hdb)
 have M:Mk X.K C f:=hK▸h3
 exact Rc I.kIn M.kp (Ha (us:=[]) (vs:=[]) (dvs:=[]) M (hK▸h5) hr (hK▸h4) .nil CC.pass I .nil (Hb h1 hn S .nil q))
theorem bz {i:Nat} {f:Str} (hK:X.K=T.K) (CFc:CF T c) (ho:aL T E X o so) (hf:(T.fields c)[i]? = some f:=by rfl) (hb:attributeBase o f X.env (eval o X.env)=eval o X.env:=by rfl):aL T E X (.Attribute o f pos) (Sm.sFld c i so):=by
 obtain ⟨C,hC,hcl,hna⟩:=CFc.ex
 refine cw (DT ho hb) λσ H Q=>E6x λι h en S er q=>⟨ι,h,en,S,er,q.bind λx h1 ι1 H1 u g1 S1 r1 q1=>?_⟩
 split at q1
 ·rename_i n
  split at q1
  ·rename_i c' fs hn
   split at q1
   ·rename_i ec
    subst ec;split at q1
    ·rename_i v hv
     cases r1 with
     | @ref _ a hr =>
      obtain ⟨o,e1,C',dx,fus,hC',rfl,nd,hw,hl,hr2⟩:=S1.obj n _ a hn hr
      rw [hC] at hC';cases hC'
      obtain ⟨f',u,e2,e3,r3⟩:=hr2 i v hv
      rw [hf] at e2;cases e2
      exact ⟨a,_,dx,fus,u,rfl,e1,hK▸hcl,hK▸hna f (ND hf),e3,q1.now S1 r3⟩
    ·exact q1.elim
   ·exact q1.elim
  ·exact q1.elim
 ·exact q1.elim
theorem zu (f:Str) (v:V):∀ {fs:List (Str×V)},(fs.map (·.1)).Nodup->((bR f v fs).map (·.1)).Nodup/\∀ g,g∈(bR f v fs).map (·.1)->g=f\/g∈fs.map (·.1)
 | [],_=>by simp [bR]
 | (g,x)::r,n=>by
  obtain ⟨n1,n2⟩:=N8.mp (show (g::r.map (·.1)).Nodup from n)
  unfold bR
  split
  ·rename_i e
   subst e;exact ⟨n,λk hk=>.inr hk⟩
  ·rename_i e
   obtain ⟨h1,h2⟩:=zu f v (fs:=r) n2
   refine ⟨N8.mpr ⟨λz=>?_,h1⟩,λk hk=>?_⟩
   ·rcases h2 g z with z | z
    ·exact e z
    ·exact n1 z
   ·rcases Np.mp hk with z | z
    ·exact .inr (by rw [z];simp)
    ·rcases h2 k z with z | z
     ·exact .inl z
     ·exact .inr (NI _ z)
theorem zv:∀ {l m:List Str},l.Nodup->(∀ x∈l,x∈m)->l.length<=m.length
 | [],m,_,_=>NB _
 | x::l,m,n,h=>by
  obtain ⟨n1,n2⟩:=N8.mp n
  have hx:=h x (by simp)
  have:=zv (l:=l) (m:=m.erase x) n2 λy hy=>by
   have ne:y≠x:=λz=>n1 (z▸hy)
   exact (List.mem_erase_of_ne ne).mpr (h y (by simp [hy]))
  rw [List.length_erase_of_mem hx] at this;have:0<m.length:=List.length_pos_of_mem hx
  simp only [NZ]
  lia
theorem hV {i:Nat} {f:Str} {p':Pos} (hK:X.K=T.K) (CFc:CF T c) (ho:aL T E X o so) (ha:aL T E X a sa) (hf:(T.fields c)[i]? = some f:=by rfl) (hs:swapsWith a (some (.Attribute o f p')) pos.line X.env=pure false:=by rfl) :
  gr T E X (.Assign [.Attribute o f p'] a pos) (gH c i so sa):=by
 obtain ⟨C,hC,hcl,hna⟩:=CFc.ex
 refine g9 (DV ho ha hs) λD σ H=>E6x λι h en S er q=>⟨ι,h,en,S,er,q.go er λy h1 ι1 H1 v g1 S1 r1 q1=>⟨ι1,h1,en,S1,er.mono g1,q1.go (er.mono g1) λx h2 ι2 H2 u g2 S2 r2 q2=>?_⟩⟩
 split at q2
 ·rename_i n
  split at q2
  ·rename_i c' fs hn
   split at q2
   ·rename_i ec
    subst ec
    cases r2 with
    | @ref _ a hr =>
     obtain ⟨o,e1,C',dx,fus,hC',rfl,nd,hw,hl,hr2⟩:=S2.obj n _ a hn hr
     rw [hC] at hC';cases hC'
     have hmem:f∈T.fields c' := ND hf
     have hlen:fus.length<1000:=by
      have:=zv nd (m:=T.fields c') (λx hx=>by
       obtain ⟨p,hp,rfl⟩:=O7.mp hx
       exact hw p hp)
      have:=T.few c'
      rw [Nc] at *
      lia
     obtain ⟨k1,k2⟩:=zu f v nd
     have g3:=S2.growSet (u:=.ins C dx (bR f v fus)) hr
     refine ⟨a,C,dx,fus,rfl,e1,hK▸hcl,hK▸hna f hmem,hlen,q2 ι2 _ σ g3 (S2.set hr ⟨C,dx,bR f v fus,hC,rfl,k1,λp hp=>?_,by simp [hl],λj w hj=>?_⟩) (er.mono (g1.trans (g2.trans g3)))⟩
     ·rcases k2 p.1 (O7.mpr ⟨p,hp,rfl⟩) with z | z
      ·rw [z];exact hmem
      ·obtain ⟨p',hp',e⟩:=O7.mp z
       rw [<- e];exact hw p' hp'
     ·by_cases hji:j=i
      ·subst hji
       have hjl:j<fs.length:=by
        have:=(MY.mp hj).1
        simpa using this
       rw [Na hjl] at hj
       cases hj
       exact ⟨f,v,hf,by rw [pD,M8 rfl],r1.mono (g2.trans g3)⟩
      ·rw [M5 (Ne.symm hji)] at hj
       obtain ⟨f',u,e2,e3,r3⟩:=hr2 j w hj
       have ne:f'≠f:=λz=>hji (pf (T.nd c') e2 (z▸hf))
       exact ⟨f',u,e2,by rw [pD,M9 ne];exact e3,r3.mono g3⟩
   ·exact (show False from q2).elim
  ·exact (show False from q2).elim
 ·exact (show False from q2).elim
end
theorem qa {T:Tb} {ι:Ix} {H:Hp} {k:aU} {u:V} (r:RV T ι H (kA k) u):u=kV k:=by
 cases k with
 | inl i=>exact bT r
 | inr x=>exact (eC r).1
theorem nJ {k j:aU} (e:kA k=kA j):k=j:=by
 cases k<;>cases j<;>simp [kA] at e<;>simp [e]
theorem uh:∀ {ks js:List aU},ks.map kA=js.map kA->ks=js
 | [],[],_=>rfl
 | [],_::_,e=>by simp at e
 | _::_,[],e=>by simp at e
 | k::ks,j::js,e=>by
  simp only [NG,List.cons.injEq] at e
  rw [nJ e.1,uh e.2]
theorem zw {T:Tb} {ι:Ix} {H:Hp}:∀ {ks:List aU} {us:List V},RVs T ι H (ks.map kA) us->us=ks.map kV
 | [],_,.nil=>rfl
 | k::ks,_,.cons r rs=>by rw [qa r,zw rs];rfl
theorem qb {v:AV} {k:aU} (e:keyOf? v=some k):v=kA k:=by
 unfold keyOf? at e
 split at e<;>cases e<;>rfl
theorem qc:∀ {vs:List AV} {ks:List aU},keysOf? vs=some ks->vs=ks.map kA
 | [],_,e=>by cases e;rfl
 | v::vs,ks,e=>by
  unfold keysOf? at e
  split at e
  ·rename_i k ks' e1 e2
   cases e
   rw [qb e1,qc e2];rfl
  ·cases e
theorem nK {κ:Type} [DecidableEq κ] {T:Tb} {ι:Ix} {H:Hp} {f:κ->AV} (hf:∀ {a b},f a=f b->a=b) {k:κ}:∀ {kvs:List (AV×AV)} {kus:List (κ×V)},Paired (λ(p:AV×AV) (q:κ×V)=>p.1=f q.1/\RV T ι H p.2 q.2) kvs kus ->
  (bF kvs (f k)=none/\bX kus k=none)\/∃ v u,bF kvs (f k)=some v/\bX kus k=some u/\RV T ι H v u
 | _,_,.nil=>.inl ⟨rfl,rfl⟩
 | (a,v)::kvs,(j,u)::kus,.cons ⟨e,r⟩ rs=>by
  by_cases h:j=k
  ·subst h
   replace e:a=f j:=e
   subst e;exact .inr ⟨v,u,by simp [bF],pI rfl,r⟩
  ·have h' : ¬ a=f k:=λz=>h (hf (e.symm.trans z))
   rcases nK hf rs (k:=k) with ⟨h1,h2⟩ | ⟨v',u',h1,h2,h3⟩
   ·refine .inl ⟨?_,by rw [nj h];exact h2⟩
    unfold bF at h1 ⊢
    rw [NY,NF h'];exact h1
   ·refine .inr ⟨v',u',?_,by rw [nj h];exact h2,h3⟩
    unfold bF at h1 ⊢
    rw [NY,NF h'];exact h1
theorem ui {kvs:List (AV×AV)} {k:AV}:(kvs.any λp=>decide (p.1=k))=(bF kvs k).isSome:=by
 induction kvs with
 | nil=>rfl
 | cons p r ih =>
  unfold bF at ih ⊢
  rw [Ou,NY,ih]
  cases h:decide (p.1=k)<;>simp
theorem zx {κ:Type} [DecidableEq κ] {T:Tb} {ι:Ix} {H:Hp} {f:κ->AV} (hf:∀ {a b},f a=f b->a=b) {k:κ} {v:AV} {u:V} (rv:RV T ι H v u) {kvs:List (AV×AV)} {kus:List (κ×V)} (r:Paired (λ(p:AV×AV) (q:κ×V)=>p.1=f q.1/\RV T ι H p.2 q.2) kvs kus) :
  Paired (λ(p:AV×AV) (q:κ×V)=>p.1=f q.1/\RV T ι H p.2 q.2) (eB kvs (f k) v) (cE kus k u):=by
 have e:(kvs.any λp=>decide (p.1=f k))=kus.any λkv=>decide (kv.1=k):=by
  rw [ui,pJ];rcases nK hf r (k:=k) with ⟨h1,h2⟩ | ⟨v',u',h1,h2,h3⟩
  ·rw [h1,h2];rfl
  ·rw [h1,h2];rfl
 unfold eB cE
 rw [e];by_cases h:(kus.any λkv=>decide (kv.1=k))=true
 ·rw [M8 h,M8 h]
  clear e h;induction r with
  | nil=>exact .nil
  | cons p rs ih =>
   rename_i a b l1 l2
   refine .cons ?_ ih
   obtain ⟨e1,r1⟩:=p
   dsimp only;by_cases hk:b.1=k
   ·rw [M8 hk,M8 (by rw [e1,hk])]
    exact ⟨e1,rv⟩
   ·rw [M9 hk,M9 (λz=>hk (hf (e1.symm.trans z)))]
    exact ⟨e1,r1⟩
 ·rw [M9 h,M9 h]
  have app:∀ {l1:List (AV×AV)} {l2:List (κ×V)},Paired (λ(p:AV×AV) (q:κ×V)=>p.1=f q.1/\RV T ι H p.2 q.2) l1 l2->Paired (λ(p:AV×AV) (q:κ×V)=>p.1=f q.1/\RV T ι H p.2 q.2) (l1++[(f k,v)]) (l2++[(k,u)]):=λz=>by
   induction z with
   | nil=>exact .cons ⟨rfl,rv⟩ .nil
   | cons p _ ih=>exact .cons p ih
  exact app r
section
variable {T:Tb} {ι:Ix} {h:AH} {H:Hp}
theorem nL {xs:List AV} {u:V} {ks:List aU} (r:RV T ι H (.tup xs) u) (e:keysOf? xs=some ks):∃ b,u = .ref b/\KTup H b ks:=by
 have:=qc e
 subst this
 cases r with
 | tup n q r=>exact ⟨_,rfl,.of (by rw [<- zw r];exact q)⟩
theorem qd {n:Nat} {t:Bool} {kvs:List (AV×AV)} {y:AV} {a:Addr} {w:V} (S:Sim T ι h H) (hn:h[n]? = some (.dct t kvs)) (hr:ι.refs[n]? = some a) (ry:RV T ι H y w) (hk:d0 t y=true) :
  ∃ o,DGet H a w o/\((bF kvs y=none/\o=none)\/∃ v u,bF kvs y=some v/\o=some u/\RV T ι H v u):=by
 obtain ⟨ob,e1,r⟩:=S.obj n _ a hn hr
 cases t with
 | false =>
  obtain ⟨kus,rfl,r⟩:=r
  have hk':(keyOf? y).isSome=true:=hk
  obtain ⟨k,ek⟩:=Nr.mp hk'
  have:=qb ek
  subst this;rw [qa ry];refine ⟨bX kus k,.k e1,?_⟩
  rcases nK nJ r (k:=k) with ⟨h1,h2⟩ | ⟨v',u',h1,h2,h3⟩
  ·exact .inl ⟨h1,h2⟩
  ·exact .inr ⟨v',u',h1,h2,h3⟩
 | true =>
  obtain ⟨kus,rfl,r⟩:=r
  unfold d0 at hk
  split at hk
  ·rename_i hh;cases hh
  ·rename_i xs hh
   obtain ⟨ks,ek⟩:=Nr.mp hk
   obtain ⟨b,rfl,hb⟩:=nL ry ek
   have:=qc ek
   subst this;refine ⟨bX kus ks,.t e1 hb,?_⟩
   rcases nK (f:=λks:List aU=>AV.tup (ks.map kA)) (λe=>uh (by injection e)) r (k:=ks) with ⟨h1,h2⟩ | ⟨v',u',h1,h2,h3⟩
   ·exact .inl ⟨h1,h2⟩
   ·exact .inr ⟨v',u',h1,h2,h3⟩
  ·cases hk
theorem Hc {n:Nat} {t:Bool} {kvs:List (AV×AV)} {y z:AV} {a:Addr} {w u:V} (S:Sim T ι h H) (hn:h[n]? = some (.dct t kvs)) (hr:ι.refs[n]? = some a) (ry:RV T ι H y w) (rz:RV T ι H z u) (hk:d0 t y=true) (hl:kvs.length<sizeLine) :
  ∃ H',DPut H a w u H'/\Grow ι H ι H'/\Sim T ι (h.set n (.dct t (eB kvs y z))) H' := by
 obtain ⟨ob,e1,r⟩:=S.obj n _ a hn hr
 cases t with
 | false =>
  obtain ⟨kus,rfl,r⟩:=r
  have hk':(keyOf? y).isSome=true:=hk
  obtain ⟨k,ek⟩:=Nr.mp hk'
  have:=qb ek
  subst this;rw [qa ry];have g:=S.growSet (u:=.dK (cE kus k u)) hr
  exact ⟨_,.k e1 (by rw [<- Paired.length r];exact hl),g,S.set hr ⟨_,rfl,zx nJ (rz.mono g) (Paired.mapP r λ_ _ ⟨p,q⟩=>⟨p,q.mono g⟩)⟩⟩
 | true =>
  obtain ⟨kus,rfl,r⟩:=r
  unfold d0 at hk
  split at hk
  ·rename_i hh;cases hh
  ·rename_i xs hh
   obtain ⟨ks,ek⟩:=Nr.mp hk
   obtain ⟨b,rfl,hb⟩:=nL ry ek
   have:=qc ek
   subst this;have g:=S.growSet (u:=.dT none (cE kus ks u)) hr
   exact ⟨_,.t e1 hb (by rw [<- Paired.length r];exact hl),g,S.set hr ⟨_,rfl,zx (f:=λks:List aU=>AV.tup (ks.map kA)) (λe=>uh (by injection e)) (rz.mono g) (Paired.mapP r λ_ _ ⟨p,q⟩=>⟨p,q.mono g⟩)⟩⟩
  ·cases hk
theorem RVs.atI {xs:List AV} {us:List V} {i:Int} {v:AV} (r:RVs T ι H xs us) (e:atI xs i=some v):∃ u,L2.atI us i=some u/\RV T ι H v u:=by
 unfold L2.atI at e ⊢
 rw [<- r.length];obtain ⟨j,e1,e2⟩:=Option.bind_eq_some_iff.mp e
 obtain ⟨u,e3,r3⟩:=r.get e2
 exact ⟨u,by rw [e1];exact e3,r3⟩
end
section
variable {T:Tb} {E:St->XK} {X:Cx} {pos:Pos} {a b c:Expr} {sa sb sc:SE}
theorem Hd {e:Expr} {t t':TE} (h:PE X e t) (h':PE X e t'):PE X e (λσ H Q=>t σ H Q\/t' σ H Q):=λpins s σ H Q I q=>q.elim (h pins s σ H Q I) (h' pins s σ H Q I)
theorem He {e:Stmt} {t t':TS} (h:PS X e t) (h':PS X e t'):PS X e (λD σ H=>t D σ H\/t' D σ H):=λpins s σ H Q I q=>q.elim (h pins s σ H Q I) (h' pins s σ H Q I)
theorem au (hK:X.K=T.K) (hu:X.A.units+64<cLine) (ha:aL T E X a sa) (hb:aL T E X b sb) (hs:sW b:=by exact λ_ _=>rfl):aL T E X (.Subscript a b pos) (ah aw sa sb):=by
 refine cw (Hd (yo El ha hb hs) (ES (Nl (Nx (by decide:1<=64) _) hu) ha hb hs)) λσ H Q q=>?_
 obtain ⟨ι,h,en,S,er,q⟩:=q
 have left:(∀ x h1 y h2,sa en h = .ok x h1->sb en h1 = .ok y h2->∀ n t kvs,x = .ref n->h2[n]? = some (.dct t kvs)->False)->lS (yp X.K) (tE T E sa) (tE T E sb) σ H Q:=λno=>by
  refine ⟨ι,h,en,S,er,?_⟩
  unfold ah at q
  cases e1:sa en h with
  | bad=>rw [e1] at q;exact q
  | ex c h1=>rw [e1] at q;exact q
  | ok x h1 =>
   rw [e1] at q;intro ι1 H1 u g1 S1 r1
   refine ⟨ι1,h1,en,S1,er.mono g1,?_⟩
   dsimp only [Out.bind] at q
   cases e2:sb en h1 with
   | bad=>rw [e2] at q;exact q
   | ex c h2=>rw [e2] at q;exact Post.shift (R:=RV T) (o:=.ex c h2) q g1
   | ok y h2 =>
    rw [e2] at q;intro ι2 H2 w g2 S2 r2
    have q2:=Post.shift q (g1.trans g2)
    have r1' := r1.mono g2
    dsimp only at q2
    unfold aw at q2
    split at q2
    ·rename_i z i
     split at q2
     ·rename_i cc hc
      obtain ⟨rfl,zl,zo⟩:=eC r1'
      rw [bT r2];refine .inr (.inr ⟨z,i,cc,rfl,rfl,zl,hc,q2.now S2 (.str (show 1<=sizeLine by decide) ?_)⟩)
      obtain ⟨j,_,e3,_⟩:=pG hc
      have m:cc∈z.cps:=by
       have:=ND e3
       simpa using this
      have:=Of.mp zo _ m
      simpa using this
     ·exact q2.elim
    ·rename_i xs i
     split at q2
     ·rename_i v hv
      obtain ⟨b,us,rfl,sq,rs⟩:=kN r1'
      obtain ⟨u2,e3,r3⟩:=rs.atI hv
      rw [bT r2];exact .inr (.inl ⟨b,us,i,u2,rfl,rfl,hK▸sq,e3,q2.now S2 r3⟩)
     ·exact q2.elim
    ·rename_i xs i
     split at q2
     ·rename_i v hv
      obtain ⟨b,us,rfl,sq,rs⟩:=gv S2 r1' rfl
      obtain ⟨u2,e3,r3⟩:=rs.atI hv
      rw [bT r2];exact .inl ⟨b,us,i,u2,rfl,rfl,hK▸sq,e3,q2.now S2 r3⟩
     ·exact q2.elim
    ·rename_i n
     split at q2
     ·rename_i xs hn
      split at q2
      ·rename_i i
       split at q2
       ·rename_i v hv
        obtain ⟨b,us,rfl,sq,rs⟩:=gv (xs:=xs) S2 r1' (by simp [gs,hn])
        obtain ⟨u2,e3,r3⟩:=rs.atI hv
        rw [bT r2];exact .inl ⟨b,us,i,u2,rfl,rfl,hK▸sq,e3,q2.now S2 r3⟩
       ·exact q2.elim
      ·exact q2.elim
     ·rename_i t kvs hn
      exact (no _ h1 _ h2 e1 e2 n t kvs rfl hn).elim
     ·exact q2.elim
    ·exact q2.elim
 by_cases dd:∃ x h1 y h2,sa en h = .ok x h1/\sb en h1 = .ok y h2/\∃ n t kvs,x = .ref n/\h2[n]? = some (.dct t kvs)
 ·obtain ⟨x,h1,y,h2,e1,e2,n,t,kvs,rfl,hn⟩:=dd
  refine .inr ⟨ι,h,en,S,er,?_⟩
  unfold ah at q
  rw [e1] at q ⊢;intro ι1 H1 u g1 S1 r1
  refine ⟨ι1,h1,en,S1,er.mono g1,?_⟩
  dsimp only [Out.bind] at q
  rw [e2] at q ⊢;intro ι2 H2 w g2 S2 r2
  have q2:=Post.shift q (g1.trans g2)
  have r1' := r1.mono g2
  dsimp only at q2
  unfold aw at q2
  simp only [hn] at q2
  split at q2
  ·rename_i hk
   cases r1' with
   | @ref _ ad hr =>
    obtain ⟨o,dg,alt⟩:=qd S2 hn hr r2 hk
    rcases alt with ⟨v1,rfl⟩ | ⟨v,u,v1,rfl,r3⟩
    ·rw [v1] at q2;exact q2.elim
    ·rw [v1] at q2
     exact ⟨ad,u,rfl,dg,q2.now S2 r3⟩
  ·exact q2.elim
 ·exact .inl (left λx h1 y h2 e1 e2 n t kvs e3 e4=>dd ⟨x,h1,y,h2,e1,e2,n,t,kvs,e3,e4⟩)
theorem qe {p':Pos} (hu:X.A.units+64<cLine) (ho:aL T E X a sa) (hi:aL T E X b sb) (hv:aL T E X c sc) (hs:swapsWith c (some (.Subscript a b p')) pos.line X.env=pure false:=by rfl) (hs':swapsWithSole [.Subscript a b p'] c pos.line X.env=pure false:=by rfl) (hw:swappedStores [.Subscript a b p'] c X.env=pure none:=by rfl)
  (h1:(assignEach [.Subscript a b p'] X.env).map (·.2)=[assign (.Subscript a b p') X.env]:=by rfl)
  (has:∀ v,assign (.Subscript a b p') X.env v=(do
   let ov <- holding [v] (eval a X.env)
   let iv <- holding [v,ov] (eval b X.env)
   standAt p'
   holding [v,ov,iv] (setItem ov iv v)
   release [v,ov,iv] []):=by intro _;rfl):gr T E X (.Assign [.Subscript a b p'] c pos) (fT sa sb sc):=by
 refine g9 (He (xW hv (CQ ho hi Ep has) hs' hw h1) (ET (Nl (Nx (by decide:1<=64) _) hu) ho hi hv hs)) λD σ H q=>?_
 obtain ⟨ι,h,en,S,er,q⟩:=q
 unfold fT at q
 by_cases dd:∃ z h1 x h2 y h3,sc en h = .ok z h1/\sa en h1 = .ok x h2/\sb en h2 = .ok y h3/\∃ n t kvs,x = .ref n/\h3[n]? = some (.dct t kvs)
 ·obtain ⟨z,h1,x,h2,y,h3,e1,e2,e3,n,t,kvs,rfl,hn⟩:=dd
  refine .inr ⟨ι,h,en,S,er,?_⟩
  rw [e1] at q ⊢;intro ι1 H1 u g1 S1 r1
  refine ⟨ι1,h1,en,S1,er.mono g1,?_⟩
  dsimp only [Out.go] at q
  rw [e2] at q ⊢;intro ι2 H2 w g2 S2 r2
  refine ⟨ι2,h2,en,S2,er.mono (g1.trans g2),?_⟩
  dsimp only at q
  rw [e3] at q ⊢;intro ι3 H3 j g3 S3 r3
  have q2:=PostS.shift q (g1.trans (g2.trans g3))
  simp only [hn] at q2
  split at q2
  ·rename_i hk
   cases (r2.mono g3) with
   | @ref _ ad hr =>
    obtain ⟨H4,dp,g4,S4⟩:=Hc S3 hn hr r3 (r1.mono (g2.trans g3)) hk.1 hk.2
    exact ⟨ad,H4,rfl,dp,q2 ι3 H4 σ g4 S4 (er.mono (g1.trans (g2.trans (g3.trans g4))))⟩
  ·exact q2.elim
 ·refine .inl ⟨ι,h,en,S,er,?_⟩
  cases e1:sc en h with
  | bad=>rw [e1] at q;exact q
  | ex cc h1=>rw [e1] at q;exact λi2 H2 C g S e=>q i2 H2 σ C g S (er.mono g) e
  | ok z h1 =>
   rw [e1] at q;intro ι1 H1 u g1 S1 r1
   refine ⟨ι1,h1,en,S1,er.mono g1,?_⟩
   dsimp only [Out.go] at q
   cases e2:sa en h1 with
   | bad=>rw [e2] at q;exact q
   | ex cc h2=>rw [e2] at q;exact λi2 H2 C g S e=>q i2 H2 σ C (g1.trans g) S (er.mono (g1.trans g)) e
   | ok x h2 =>
    rw [e2] at q;intro ι2 H2 w g2 S2 r2
    refine ⟨ι2,h2,en,S2,er.mono (g1.trans g2),?_⟩
    dsimp only at q
    cases e3:sb en h2 with
    | bad=>rw [e3] at q;exact q
    | ex cc h3=>rw [e3] at q;exact λi2 H2 C g S e=>q i2 H2 σ C (g1.trans (g2.trans g)) S (er.mono (g1.trans (g2.trans g))) e
    | ok y h3 =>
     rw [e3] at q;intro ι3 H3 j g3 S3 r3
     have q2:=PostS.shift q (g1.trans (g2.trans g3))
     dsimp only at q2
     split at q2
     ·rename_i n
      split at q2
      ·rename_i xs hn
       split at q2
       ·rename_i k
        split at q2
        ·rename_i jj hj
         cases (r2.mono g3) with
         | @ref _ ad hr =>
          obtain ⟨o,e4,us,rfl,rs⟩:=S3.obj n _ ad hn hr
          have g4:=S3.growSet (u:=.lst (us.set jj u)) hr
          rw [bT r3];exact ⟨ad,us,k,jj,rfl,rfl,e4,by rw [<- rs.length];exact hj,q2 ι3 _ σ g4 (S3.set hr ⟨_,rfl,RVs.set (r1.mono (g2.trans (g3.trans g4))) jj (rs.mono g4)⟩) (er.mono (g1.trans (g2.trans (g3.trans g4))))⟩
        ·exact q2.elim
       ·exact q2.elim
      ·rename_i t kvs hn
       exact (dd ⟨_,h1,_,h2,_,h3,e1,e2,e3,n,t,kvs,rfl,hn⟩).elim
      ·exact q2.elim
     ·exact q2.elim
theorem zy {g:Value->Value->Sem Value} {r:R2} {neg:Bool} (hK:X.K=T.K)
  (h1:∀ (i j:Str) H Q,Q (V.bl (if neg then !(!(Builtin.Str.occurrences j i 0 j.length 1).isEmpty) else !(Builtin.Str.occurrences j i 0 j.length 1).isEmpty)) H->r (.str i) (.str j) H Q)
  (h2:∀ x y H Q p xs d ds,y=V.ref p->SqL T.K H p xs->DaV T.K H x d->DaVs T.K H xs ds->d.canLay0=true->(∀ e∈ds,e.canLay0=true/\e.depth<=30)->Q (V.bl (if neg then !(ds.any λe=>PyData.eqv e d) else ds.any λe=>PyData.eqv e d)) H->r x y H Q)
  (h2t:∀ x y H Q p xs d ds,y=V.ref p->SqT T.K H p xs->DaV T.K H x d->DaVs T.K H xs ds->d.canLay0=true->(∀ e∈ds,e.canLay0=true/\e.depth<=30)->Q (V.bl (if neg then !(ds.any λe=>PyData.eqv e d) else ds.any λe=>PyData.eqv e d)) H->r x y H Q)
  (h3:∀ (y:V) (a:Addr) o H Q,DGet H a y o->Q (V.bl (if neg then !o.isSome else o.isSome)) H->r y (.ref a) H Q) :
  lX T (λx y h=>match kL x y h with | some b=>.ok (.bl (if neg then !b else b)) h | none=>.bad) r:=by
 intro ι h H x y u w E Q S rx ry p
 dsimp only at p
 cases hb:kL x y h with
 | none=>rw [hb] at p;exact p.elim
 | some b =>
  rw [hb] at p;dsimp only at p
  unfold kL at hb
  split at hb
  ·cases hb
   obtain ⟨rfl,_⟩:=eC rx
   obtain ⟨rfl,_⟩:=eC ry
   exact h1 _ _ _ _ (p.now S (.bl _))
  ·rename_i n
   split at hb
   ·rename_i t kvs hn
    split at hb
    ·rename_i hk
     cases hb
     cases ry with
     | @ref _ ad hr =>
      obtain ⟨o,dg,alt⟩:=qd S hn hr rx hk
      refine h3 u ad o H Q dg ?_
      rcases alt with ⟨v1,rfl⟩ | ⟨v,u',v1,rfl,r3⟩
      ·rw [v1] at p;exact p.now S (.bl _)
      ·rw [v1] at p;exact p.now S (.bl _)
    ·cases hb
   ·rename_i xs hn
    split at hb
    ·rename_i d ds e1 e2
     cases hb
     obtain ⟨a,us,rfl,sq,rs⟩:=gv (xs:=xs) S ry (by simp [gs,hn])
     obtain ⟨q1,q2,q3⟩:=iR S 8 rx e1
     obtain ⟨q4,q5⟩:=nE (n:=8) (λr e=>iR S 8 r e) rs e2
     exact h2 _ _ _ _ a us d ds rfl sq q1 q4 q2 (λe he=>⟨(q5 e he).1,by have:=(q5 e he).2;lia⟩) (p.now S (.bl _))
    ·cases hb
   ·cases hb
  ·rename_i xs
   split at hb
   ·rename_i d ds e1 e2
    cases hb
    obtain ⟨a,us,rfl,sq,rs⟩:=gv S ry rfl
    obtain ⟨q1,q2,q3⟩:=iR S 8 rx e1
    obtain ⟨q4,q5⟩:=nE (n:=8) (λr e=>iR S 8 r e) rs e2
    exact h2 _ _ _ _ a us d ds rfl sq q1 q4 q2 (λe he=>⟨(q5 e he).1,by have:=(q5 e he).2;lia⟩) (p.now S (.bl _))
   ·cases hb
  ·rename_i xs
   split at hb
   ·rename_i d ds e1 e2
    cases hb
    obtain ⟨a,us,rfl,sq,rs⟩:=kN ry
    obtain ⟨q1,q2,q3⟩:=iR S 8 rx e1
    obtain ⟨q4,q5⟩:=nE (n:=8) (λr e=>iR S 8 r e) rs e2
    exact h2t _ _ _ _ a us d ds rfl sq q1 q4 q2 (λe he=>⟨(q5 e he).1,by have:=(q5 e he).2;lia⟩) (p.now S (.bl _))
   ·cases hb
  ·cases hb
end
end Sm
namespace L2
open PySem PySem.Spec PyProof.Rows
section
variable {X:Cx} {pins:List (Addr×Obj)} {σ:St} {H:Hp} {s:Shared}
theorem uj (I:Inv X pins σ H s) (hu:X.A.units+64<cLine) {xs:List V} {ds:List PyData} {its:List Value} {d:PyData} {v:Value} {as:List Addr} (ra:Reads s.heap v d as) (hds:DaVs X.K H xs ds) (r:Vals xs its) (cd:d.canLay0=true) (cds:∀ e∈ds,e.canLay0=true/\e.depth<=30) :
  (∀ y,y∈its.toArray->SeqAt.EqAt X.A.in1 s y v (iq s.heap d y))/\its.toArray.any (iq s.heap d)=ds.any λe=>PyData.eqv e d:=by
 obtain ⟨hl,hat⟩:=tQ I hds r
 constructor
 ·intro y hy
  have hy':y∈its:=by simpa using hy
  obtain ⟨j,hj⟩:=QU hy'
  have hlt:=(MY.mp hj).1
  have hdj:ds[j]? = some (ds[j]'(by lia)):=Ni (by lia)
  obtain ⟨bs,rb⟩:=hat j _ _ hj hdj
  have cj:=cds _ (ND hdj)
  rw [isD_of cj.1 rb];exact SeqAt.eqAt_reads _ _ _ _ _ _ _ _ rb ra cj.1 cd (by
   have:=Pg (ds[j]'(by lia)).depth d.depth
   show X.A.units+1+_<cLine
   lia)
 ·rw [<- Qk]
  refine tU hl λj u e h1 h2=>?_
  obtain ⟨bs,rb⟩:=hat j _ _ h1 h2
  exact isD_of (cds _ (ND h2)).1 rb
def Hf (K:PySem.W.Frag):R2:=λx y H Q=>∃ p xs d ds,y = .ref p/\SqL K H p xs/\DaV K H x d/\DaVs K H xs ds/\d.canLay0=true/\(∀ e∈ds,e.canLay0=true/\e.depth<=30)/\Q (.bl (!(ds.any λe=>PyData.eqv e d))) H
def Hg (K:PySem.W.Frag):R2:=λx y H Q=>∃ p xs d ds,y = .ref p/\SqT K H p xs/\DaV K H x d/\DaVs K H xs ds/\d.canLay0=true/\(∀ e∈ds,e.canLay0=true/\e.depth<=30)/\Q (.bl (ds.any λe=>PyData.eqv e d)) H
def Hh (K:PySem.W.Frag):R2:=λx y H Q=>∃ p xs d ds,y = .ref p/\SqT K H p xs/\DaV K H x d/\DaVs K H xs ds/\d.canLay0=true/\(∀ e∈ds,e.canLay0=true/\e.depth<=30)/\Q (.bl (!(ds.any λe=>PyData.eqv e d))) H
theorem Hi (hu:X.A.units+64<cLine):OpR X (compareOp .NotIn) (Hf X.K):=by
 intro pins s σ H x y v u Q I rx ry h
 obtain ⟨p,xs,d,ds,rfl,hq,hd,hds,cd,cds,q⟩:=h
 cases ry
 obtain ⟨its,r,pl,hz⟩:=I.list hq
 obtain ⟨as,ra⟩:=hd.reads I rx
 obtain ⟨h1,h2⟩:=uj I hu ra hds r cd cds
 exact SeqAt.notIn_listAt (iq s.heap d) pl.isList h1 ⟨.bl _,H,I,rfl,by rw [h2];exact q⟩
theorem Hj (hu:X.A.units+64<cLine):OpR X (compareOp .In) (Hg X.K):=by
 intro pins s σ H x y v u Q I rx ry h
 obtain ⟨p,xs,d,ds,rfl,hq,hd,hds,cd,cds,q⟩:=h
 cases ry
 obtain ⟨its,r,pl,hz⟩:=I.tuple hq
 obtain ⟨as,ra⟩:=hd.reads I rx
 obtain ⟨h1,h2⟩:=uj I hu ra hds r cd cds
 exact SeqAt.in_tupleAt (iq s.heap d) pl h1 ⟨.bl _,H,I,rfl,by rw [h2];exact q⟩
theorem Hk (hu:X.A.units+64<cLine):OpR X (compareOp .NotIn) (Hh X.K):=by
 intro pins s σ H x y v u Q I rx ry h
 obtain ⟨p,xs,d,ds,rfl,hq,hd,hds,cd,cds,q⟩:=h
 cases ry
 obtain ⟨its,r,pl,hz⟩:=I.tuple hq
 obtain ⟨as,ra⟩:=hd.reads I rx
 obtain ⟨h1,h2⟩:=uj I hu ra hds r cd cds
 exact SeqAt.notIn_tupleAt (iq s.heap d) pl h1 ⟨.bl _,H,I,rfl,by rw [h2];exact q⟩
theorem Hl (hu:X.A.units+64<cLine):OpR X (compareOp .In) (λx y H Q=>∃ a o,y = .ref a/\DGet H a x o/\Q (.bl o.isSome) H):=by
 intro pins s σ H x y v u Q I rx ry h
 obtain ⟨a,o,rfl,g,q⟩:=h
 cases ry
 exact tm (Nl (Nx (by decide:1<=64) _) hu) I g rx λs' I' => ⟨.bl _,H,I',rfl,q⟩
theorem Hm (hu:X.A.units+64<cLine):OpR X (compareOp .NotIn) (λx y H Q=>∃ a o,y = .ref a/\DGet H a x o/\Q (.bl (!o.isSome)) H):=by
 intro pins s σ H x y v u Q I rx ry h
 obtain ⟨a,o,rfl,g,q⟩:=h
 cases ry
 exact EG (Nl (Nx (by decide:1<=64) _) hu) I g rx λs' I' => ⟨.bl _,H,I',rfl,q⟩
end
end L2
namespace Sm
open PySem PySem.Spec L2
section
variable {T:Tb} {E:St->XK} {X:Cx}
theorem uk (hK:X.K=T.K) (hu:X.A.units+64<cLine):Op T X (compareOp .In) pV:=by
 refine ⟨_,zhI.or ((F9 hu).or ((Hj hu).or (Hl hu))),zy (neg:=false) (g:=compareOp .In) hK ?_ ?_ ?_ ?_⟩
 ·exact λi j H Q q=>.inl ⟨i,j,rfl,rfl,q⟩
 ·exact λx y H Q p xs d ds e1 e2 e3 e4 e5 e6 q=>.inr (.inl ⟨p,xs,d,ds,e1,hK▸e2,hK▸e3,hK▸e4,e5,e6,q⟩)
 ·exact λx y H Q p xs d ds e1 e2 e3 e4 e5 e6 q=>.inr (.inr (.inl ⟨p,xs,d,ds,e1,hK▸e2,hK▸e3,hK▸e4,e5,e6,q⟩))
 ·exact λy a o H Q g q=>.inr (.inr (.inr ⟨a,o,rfl,g,q⟩))
theorem jX (hK:X.K=T.K) (hu:X.A.units+64<cLine):Op T X (compareOp .NotIn) dH:=by
 refine ⟨_,ze4.or ((Hi hu).or ((Hk hu).or (Hm hu))),zy (neg:=true) (g:=compareOp .NotIn) hK ?_ ?_ ?_ ?_⟩
 ·exact λi j H Q q=>.inl ⟨i,j,rfl,rfl,q⟩
 ·exact λx y H Q p xs d ds e1 e2 e3 e4 e5 e6 q=>.inr (.inl ⟨p,xs,d,ds,e1,hK▸e2,hK▸e3,hK▸e4,e5,e6,q⟩)
 ·exact λx y H Q p xs d ds e1 e2 e3 e4 e5 e6 q=>.inr (.inr (.inl ⟨p,xs,d,ds,e1,hK▸e2,hK▸e3,hK▸e4,e5,e6,q⟩))
 ·exact λy a o H Q g q=>.inr (.inr (.inr ⟨a,o,rfl,g,q⟩))
end
abbrev um (x:Str) (C:Addr) (mg:Str->Option Value) (base:Heap):Prop:=PyProof.Rows.OwnCls x C [.type "ValueError",.type "Exception",.type "BaseException",.type "object"] "ValueError.__new__" mg base
structure GX (T:Tb) (mg:Str->Option Value) (base:Heap) (c:Nat) (x:Str):Prop where
 ex:∃ C,T.exc c=some C/\um x C mg base
section
variable {T:Tb} {E:St->XK} {X:Cx} {pos np cpos:Pos} {e:Expr} {es:List Expr} {x:Str} {c:Nat} {as:SL}
theorem zA (G:GX T X.mg X.base c x) (hr:lU X E) (hg:Gl X x) (ha:fI T E X (e::es) as) (h6:c<64:=by decide) (hc:X.calm=true:=by rfl) (hex:X.ex=[]:=by rfl)
  (hdb:(x == ("__debug__" : Str))=false:=by decide) (he:starEach (e::es) X.env=(false,eval e X.env)::starEach es X.env:=by rfl) (hpl:(backTo cpos (starEach es X.env)).any (·.1)=false:=by rfl) :
  gr T E X (.Raise (some (.Call (.Name x np) (e::es) [] cpos)) none pos) (tW c as):=by
 obtain ⟨C,h1,O⟩:=G.ex
 refine g9 (FR O PySem.F.excBase_ValueError hc hex hr hg ha hdb he hpl) λD σ H=>E6x λι h en S er q=>⟨ι,h,en,S,er,q.go er λxs h1' ι1 H1 us g1 S1 r1 q1=>?_⟩
 split at q1
 ·rename_i hl
  exact ⟨by rw [<- r1.length];exact hl,q1 ι1 H1 σ (C,none) S1.refl S1 (er.mono g1) ⟨h1,Gw h6⟩⟩
 ·exact q1.elim
end
def hW (T:Tb) (f:Fn) (r:List V->Hp->VK->Prop):Prop:=∀ (ι:Ix) (h:AH) (H:Hp) (xs:List AV) (us:List V) (E:XK) (Q:VK),Sim T ι h H->RVs T ι H xs us->Post T ι H E (RV T) (f xs h) Q->r us H Q
section
variable {T:Tb} {E:St->XK} {X:Cx} {pos p:Pos} {e a:Expr} {es:List Expr} {x:Str} {as:SL} {sa:SE}
theorem zB {f:Fn} {r:List V->Hp->VK->Prop} (hs:hW T f r) {σ:St} {H:Hp} {Q:VK} (q:tE T E (aC f as) σ H Q):sT r (tA T E as) σ H Q:=by
 obtain ⟨ι,h,en,S,er,q⟩:=q
 exact ⟨ι,h,en,S,er,q.bind λxs h1 ι1 H1 us g1 S1 r1 q1=>hs ι1 h1 H1 xs us _ Q S1 r1 q1⟩
theorem bg {id:String} {f:Fn} (hc:∃ r,CallR X (.builtin id) r/\hW T f r) (hg:Gl X x) (hm:X.mg x=none) (hv:bootBuiltins x=some (.builtin id)) (ha:fI T E X (e::es) as) (hn:x ≠ "__name__" := by decide) (hdb:(x == ("__debug__" : Str))=false:=by decide)
  (he:starEach (e::es) X.env=(false,eval e X.env)::starEach es X.env:=by rfl) (hpl:(backTo pos (starEach es X.env)).any (·.1)=false:=by rfl):aL T E X (.Call (.Name x p) (e::es) [] pos) (aC f as):=by
 obtain ⟨r,h1,h2⟩:=hc
 exact cw (sU h1 hg hm hv ha hn hdb he hpl) λσ H Q q=>zB h2 q
theorem cX {id:String} {f:Fn} (hc:∃ r,CallR X (.type id) r/\hW T f r) (hg:Gl X x) (hm:X.mg x=none) (hv:bootBuiltins x=some (.type id)) (ha:fI T E X (e::es) as) (hn:x ≠ "__name__" := by decide) (hdb:(x == ("__debug__" : Str))=false:=by decide)
  (he:starEach (e::es) X.env=(false,eval e X.env)::starEach es X.env:=by rfl) (hpl:(backTo pos (starEach es X.env)).any (·.1)=false:=by rfl):aL T E X (.Call (.Name x p) (e::es) [] pos) (aC f as):=by
 obtain ⟨r,h1,h2⟩:=hc
 exact cw (Ea h1 hg hm hv ha hn hdb he hpl) λσ H Q q=>zB h2 q
theorem b_len (hK:X.K=T.K):∃ r,CallR X (.builtin "len") r/\hW T aJ r:=by
 refine ⟨_,ze6.or (ze5.or Fe),λι h H xs us E Q S r q=>?_⟩
 unfold aJ at q
 split at q
 ·cases r with
  | cons r r' =>
   cases r'
   obtain ⟨rfl,n,_⟩:=eC r
   exact .inl ⟨_,rfl,n,q.now S (.int _)⟩
 ·cases r with
  | cons r r' =>
   cases r'
   obtain ⟨a,us,rfl,sq,rs⟩:=kN r
   exact .inr (.inl ⟨a,us,rfl,.inr (hK▸sq),by rw [<- rs.length];exact q.now S (.int _)⟩)
 ·cases r with
  | cons r r' =>
   cases r'
   obtain ⟨a,us,rfl,sq,rs⟩:=gv S r rfl
   exact .inr (.inl ⟨a,us,rfl,.inl (hK▸sq),by rw [<- rs.length];exact q.now S (.int _)⟩)
 ·rename_i n
  cases r with
  | cons r r' =>
   cases r'
   split at q
   ·rename_i xs hn
    obtain ⟨a,us,rfl,sq,rs⟩:=gv (xs:=xs) S r (by simp [gs,hn])
    exact .inr (.inl ⟨a,us,rfl,.inl (hK▸sq),by rw [<- rs.length];exact q.now S (.int _)⟩)
   ·rename_i kvs hn
    cases r with
    | @ref _ ad hr =>
     obtain ⟨o,e1,kus,rfl,rs⟩:=S.obj n _ ad hn hr
     exact .inr (.inr ⟨ad,kus,rfl,e1,by rw [<- Paired.length rs];exact q.now S (.int _)⟩)
   ·exact q.elim
 ·exact q.elim
theorem b_abs:∃ r,CallR X (.builtin "abs") r/\hW T kM r:=by
 refine ⟨_,DC,λι h H xs us E Q S r q=>?_⟩
 unfold kM at q
 split at q
 ·cases r with
  | cons r r' => cases r';rw [bT r];exact ⟨_,rfl,q.now S (.int _)⟩
 ·exact q.elim
theorem kS (hc:X.calm=true:=by rfl):∃ r,CallR X (.builtin "max") r/\hW T fk r:=by
 refine ⟨_,DD hc,λι h H xs us E Q S r q=>?_⟩
 unfold fk at q
 split at q
 ·cases r with
  | cons r r' => cases r' with
   | cons r1 r2=>cases r2;rw [bT r,bT r1];exact ⟨_,_,rfl,q.now S (.int _)⟩
 ·exact q.elim
theorem Hn (hc:X.calm=true:=by rfl):∃ r,CallR X (.builtin "min") r/\hW T lW r:=by
 refine ⟨_,DE hc,λι h H xs us E Q S r q=>?_⟩
 unfold lW at q
 split at q
 ·cases r with
  | cons r r' => cases r' with
   | cons r1 r2=>cases r2;rw [bT r,bT r1];exact ⟨_,_,rfl,q.now S (.int _)⟩
 ·exact q.elim
theorem zC {ι:Ix} {H:Hp}:∀ {xs:List AV} {us:List V} {bs:List Bool},RVs T ι H xs us->nB xs=some bs->us=bs.map V.bl
 | _,_,_,.nil,e=>by cases e;rfl
 | _,_,bs,.cons (x:=x) r rs,e=>by
  unfold nB at e
  split at e
  ·rename_i hh;cases hh
  ·rename_i b r' hh
   cases hh
   obtain ⟨bs',e1,rfl⟩:=Nw.mp e
   rw [fJ r,zC rs e1];rfl
  ·cases e
theorem b_all (hK:X.K=T.K) (hc:X.calm=true:=by rfl):∃ r,CallR X (.builtin "all") r/\hW T gI r:=by
 refine ⟨_,Fw hc,λι h H xs us E Q S r q=>?_⟩
 unfold gI at q
 split at q
 ·split at q
  ·rename_i bs hb
   cases r with
   | cons r r' =>
    cases r'
    obtain ⟨a,us,rfl,sq,rs⟩:=gv S r rfl
    rw [zC rs hb] at sq;exact ⟨a,bs,rfl,hK▸sq,q.now S (.bl _)⟩
  ·exact q.elim
 ·exact q.elim
theorem b_int:∃ r,CallR X (.type "int") r/\hW T bJ r:=by
 refine ⟨_,DF,λι h H xs us E Q S r q=>?_⟩
 unfold bJ at q
 split at q
 ·cases r with
  | cons r r' => cases r';rw [bT r];exact .inl ⟨_,rfl,q.now S (.int _)⟩
 ·cases r with
  | cons r r' => cases r';rw [fJ r];exact .inr ⟨_,rfl,q.now S (.int _)⟩
 ·exact q.elim
abbrev nM:List String:=["NoneType", "bool", "int", "str", "list", "tuple", "dict"]
theorem zD (K:PySem.W.Frag):∀ n∈nM,∀ t∈nM,PySem.W.kitOne K (.type n) (.type t)=some (n == t || (t == "int" && n == "bool")):=by
 intro n hn t ht
 simp only [nM,Np,OJ,Qr] at hn ht
 rcases hn with rfl | rfl | rfl | rfl | rfl | rfl | rfl<;>rcases ht with rfl | rfl | rfl | rfl | rfl | rfl | rfl<;>rfl
theorem Hq {c:V} {cv:Value} (rc:∀ u,RelV c u->u=cv) :
  CallR X (.builtin "isinstance") (λxs H Q=>∃ a us r,xs=[.ref a,c]/\SqL X.K H a us/\PySem.W.kitOne X.K (.type "list") cv=some r/\Q (.bl r) H):=by
 intro pins s σ H xs us Q I r h
 obtain ⟨a,ws,k,rfl,sq,hk,q⟩:=h
 obtain ⟨u,w',rfl,rx,ry⟩:=pC r
 obtain rfl:=rc _ ry
 obtain rfl:u=Value.ref a:=rx
 obtain ⟨its,_,⟨o,n,e1,e2,_⟩,_⟩:=I.list sq
 exact N7 P4 I.kIn ⟨_,e1,e2⟩ hk (λz=>nomatch z) λtk=>⟨.bl k,H,I.tok _,rfl,q⟩
theorem Hr {ι:Ix} {h:AH} {H:Hp} {v:AV} {u:V} {n:String} (S:Sim T ι h H) (r:RV T ι H v u) (e:jT v h=some n):(cQ T.K H u (.type n)\/(n = "list" /\ ∃ a us,u = .ref a/\SqL T.K H a us))/\n∈nM:=by
 unfold jT at e
 cases r with
 | non=>cases e;exact ⟨.inl .non,by decide⟩
 | bl b=>cases e;exact ⟨.inl (.bl b),by decide⟩
 | int b=>cases e;exact ⟨.inl (.int b),by decide⟩
 | str n o=>cases e;exact ⟨.inl (.str _),by decide⟩
 | tup n q r=>cases e;exact ⟨.inl (.tup q),by decide⟩
 | fl n q r=>cases e;exact ⟨.inr ⟨rfl,_,_,rfl,.inl q⟩,by decide⟩
 | kfl q r=>cases e;exact ⟨.inr ⟨rfl,_,_,rfl,.inr q⟩,by decide⟩
 | @ref k a q =>
  dsimp only at e
  split at e
  ·rename_i xs hn
   cases e
   obtain ⟨o,e1,us,rfl,rs⟩:=S.obj k _ a hn q
   exact ⟨.inl (.lst e1),by decide⟩
  ·rename_i t kvs hn
   cases e
   obtain ⟨o,e1,r⟩:=S.obj k _ a hn q
   cases t with
   | false=>obtain ⟨kus,rfl,rs⟩:=r;exact ⟨.inl (.dK e1),by decide⟩
   | true=>obtain ⟨kus,rfl,rs⟩:=r;exact ⟨.inl (.dT e1),by decide⟩
  ·cases e
 | exc _ _ _=>cases e
theorem nN {t:Str} {id:String} {p2:Pos} (hK:X.K=T.K) (hg:Gl X "isinstance") (hm:X.mg "isinstance" = none) (ha:aL T E X a sa) (hgt:Gl X t) (hmt:X.mg t=none) (hvt:bootBuiltins t=some (.type id)) (hid:id∈nM) (hnt:t ≠ "__name__" := by decide) (hdt:(t == ("__debug__" : Str))=false:=by decide)
  (he:starEach [a,.Name t p2] X.env=(false,eval a X.env)::starEach [.Name t p2] X.env:=by rfl):aL T E X (.Call (.Name "isinstance" p) [a,.Name t p2] [] pos) (fq id sa):=by
 refine cw (sU ((Fs (X:=X) (yD id)).or (Hq (X:=X) (yD id))) hg hm PyProof.Rows.boot_isinstance (lT ha (lT (Ck (v:=.ty id) hgt hmt hvt rfl hnt hdt) pF) he) (he:=he)) λσ H Q=>E6x λι h en S er q=>⟨ι,h,en,S,er,q.bind λv h1 ι1 H1 u g1 S1 r1 q1=>?_⟩
 split at q1
 ·rename_i n hn
  obtain ⟨ty,hmem⟩:=Hr S1 r1 hn
  rcases ty with ty | ⟨rfl,ad,us,rfl,sq⟩
  ·exact .inl ⟨u,.type n,_,rfl,hK▸ty,zD _ n hmem id hid,q1.now S1 (.bl _)⟩
  ·exact .inr ⟨ad,us,_,rfl,hK▸sq,zD _ _ hmem id hid,q1.now S1 (.bl _)⟩
 ·exact q1.elim
def l9 (T:Tb) (f:FM) (r:V->List V->Hp->VK->Prop):Prop:=∀ (ι:Ix) (h:AH) (H:Hp) (x:AV) (xs:List AV) (u:V) (us:List V) (E:XK) (Q:VK),Sim T ι h H->RV T ι H x u->RVs T ι H xs us->Post T ι H E (RV T) (f x xs h) Q->r u us H Q
def jv (T:Tb) (chk:AV->AH->Bool) (n:String):Prop:=∀ (ι:Ix) (h:AH) (H:Hp) (x:AV) (u:V),Sim T ι h H->RV T ι H x u->chk x h=true->pH T.K n u H
theorem dY:jv T cn "list" := λι h H x u S r e=>by
 obtain ⟨xs,e1⟩:=Nr.mp e
 obtain ⟨a,us,rfl,sq,rs⟩:=gv S r e1
 exact .inl ⟨rfl,us,sq⟩
theorem Hs:jv T tX "str" := λι h H x u S r e=>by
 unfold tX at e
 split at e
 ·obtain ⟨rfl,_⟩:=eC r;rfl
 ·cases e
variable {o:Expr} {so:SE} {name:Str} {apos:Pos} {chk:AV->AH->Bool} {f:FM} {tn id:String}
theorem b9 (hK:X.K=T.K) (pa:PlainAttrs tn) (slot:Slot tn name id) (hty:typeOf (.builtin id)=pure (.type "method_descriptor")) (hm:∃ r,iL X id r/\l9 T f r) (hc:jv T chk tn) (ho:aL T E X o so) (ha:fI T E X (e::es) as)
  (hbase:attributeBase o name X.env (eval o X.env)=eval o X.env:=by rfl)
  (hfew:((backTo pos (starEach (e::es) X.env)).all (λx=>!x.1) && (backToKw pos (keywordEach [] X.env)).all (λx=>x.1.isSome)
   && decide ((e::es).length+([]:List Keyword).length+(if ([]:List Keyword).isEmpty then 0 else 1)<30))=true:=by rfl)
  (hline:(apos.endLine == pos.line)=true:=by rfl) (hs:starEach (e::es) X.env=(false,eval e X.env)::starEach es X.env:=by rfl) (hplain:(backTo pos (starEach es X.env)).any (·.1)=false:=by rfl) :
  aL T E X (.Call (.Attribute o name apos) (e::es) [] pos) (d5 chk f so as):=by
 obtain ⟨r,h1,h2⟩:=hm
 refine cw (Eu pa slot hty h1 ho ha hbase hfew hline hs hplain) λσ H Q=>E6x λι h en S er q=>⟨ι,h,en,S,er,q.bind λx h1 ι1 H1 u g1 S1 r1 q1=>?_⟩
 by_cases hx:chk x h1=true
 ·rw [M8 hx] at q1
  exact ⟨hK▸hc ι1 h1 H1 x u S1 r1 hx,ι1,h1,en,S1,er.mono g1,q1.bind λxs h2' ι2 H2 us g2 S2 r2 q2=>h2 ι2 h2' H2 x xs u us _ Q S2 (r1.mono g2) r2 q2⟩
 ·rw [M9 hx] at q1;exact q1.elim
theorem uo (hK:X.K=T.K) (pa:PlainAttrs tn) (slot:Slot tn name id) (hty:typeOf (.builtin id)=pure (.type "method_descriptor")) (hm:∃ r,iL X id r/\l9 T f r) (hc:jv T chk tn) (ho:aL T E X o so)
  (hbase:attributeBase o name X.env (eval o X.env)=eval o X.env:=by rfl) (hline:(apos.endLine == pos.line)=true:=by rfl):aL T E X (.Call (.Attribute o name apos) [] [] pos) (jm chk f so):=by
 obtain ⟨r,h1,h2⟩:=hm
 refine cw (yr pa slot hty h1 ho hbase hline) λσ H Q=>E6x λι h en S er q=>⟨ι,h,en,S,er,q.bind λx h1 ι1 H1 u g1 S1 r1 q1=>?_⟩
 by_cases hx:chk x h1=true
 ·rw [M8 hx] at q1
  exact ⟨hK▸hc ι1 h1 H1 x u S1 r1 hx,h2 ι1 h1 H1 x [] u [] _ Q S1 r1 .nil q1⟩
 ·rw [M9 hx] at q1;exact q1.elim
theorem eR:∃ r,iL X "list.append" r/\l9 T cG r:=by
 refine ⟨_,yt,λι h H x xs u us E Q S rx rs q=>?_⟩
 unfold cG at q
 split at q
 ·rename_i n y
  split at q
  ·rename_i ys hn
   split at q
   ·rename_i hl
    cases rx with
    | @ref _ ad hr =>
     cases rs with
     | @cons _ uu _ _ r r' =>
      cases r'
      obtain ⟨o,e1,ws,rfl,rw_⟩:=S.obj n _ ad hn hr
      have g:=S.growSet (u:=.lst (ws++[uu])) hr
      exact ⟨ad,ws,_,rfl,rfl,e1,by rw [<- rw_.length];exact hl,q ι _ _ g (S.set hr ⟨_,rfl,(rw_.mono g).append (.cons (r.mono g) .nil)⟩) .non⟩
   ·exact q.elim
  ·exact q.elim
 ·exact q.elim
theorem zE:∃ r,iL X "list.pop" r/\l9 T fu r:=by
 refine ⟨_,Ez,λι h H x xs u us E Q S rx rs q=>?_⟩
 unfold fu at q
 split at q
 ·rename_i n
  split at q
  ·rename_i ys hn
   split at q
   ·rename_i y hy
    cases rx with
    | @ref _ ad hr =>
     cases rs
     obtain ⟨o,e1,ws,rfl,rw_⟩:=S.obj n _ ad hn hr
     have g:=S.growSet (u:=.lst ws.dropLast) hr
     obtain ⟨v,e2,r2⟩:=rw_.get hy
     refine ⟨ad,ws,v,rfl,rfl,e1,by rw [<- rw_.length];exact e2,q ι _ _ g (S.set hr ⟨_,rfl,?_⟩) (r2.mono g)⟩
     have z:=(rw_.mono g).take (ys.length-1)
     have e3:ys.take (ys.length-1)=ys.dropLast:=QL.symm
     have e4:ws.take (ys.length-1)=ws.dropLast:=by rw [rw_.length];exact QL.symm
     rw [e3,e4] at z;exact z
   ·exact q.elim
  ·exact q.elim
 ·exact q.elim
theorem Ht:∃ r,iL X "str.count" r/\l9 T tY r:=by
 refine ⟨_,Fu,λι h H x xs u us E Q S rx rs q=>?_⟩
 unfold tY at q
 split at q
 ·cases rs with
  | cons r r' =>
   cases r'
   obtain ⟨rfl,_⟩:=eC rx
   obtain ⟨rfl,_⟩:=eC r
   exact ⟨_,_,rfl,rfl,q.now S (.int _)⟩
 ·exact q.elim
end
theorem Out.bind_assoc {α β γ:Type} (o:Out α) (f:α->AH->Out β) (g:β->AH->Out γ):(o.bind f).bind g=o.bind λa h=>(f a h).bind g:=by cases o<;>rfl
section
variable {T:Tb} {E:St->XK} {X:Cx} {pos p2:Pos} {a b:Expr} {sa sb:SE}
def tO (T:Tb) (E:St->XK):Option SE->TO
 | none=>yk
 | some s=>yl (tE T E s)
abbrev qf (T:Tb) (E:St->XK) (X:Cx) (e:Option Expr) (s:Option SE):Prop:=PO X e (tO T E s)
theorem iU:qf T E X none none:=Ef
theorem hX (h:aL T E X a sa):qf T E X (some a) (some sa):=Eg h
@[simp] def qg (s:Option SE):En->AH->Out (Option Int):=λen h=>match s with
 | none=>.ok none h
 | some l=>(l en h).bind λv h2=>match v with | .int i=>.ok (some i) h2 | _=>.bad
theorem zF {s:Option SE} {σ:St} {H:Hp} {ι:Ix} {h:AH} {en:En} {γ δ:Type} {R':Ix->Hp->γ->δ->Prop} {Q0:δ->Hp->Prop} {f:Option Int->AH->Out γ} {Q:Option Int->Hp->Prop} (S:Sim T ι h H) (er:ER T ι H en σ) (q:Post T ι H (E σ) R' ((qg s en h).bind f) Q0)
  (k:∀ l h' ι' H',Grow ι H ι' H'->Sim T ι' h' H'->Post T ι' H' (E σ) R' (f l h') Q0->Q l H'):tO T E s σ H Q:=by
 cases s with
 | none=>exact k none h ι H S.refl S q
 | some l =>
  refine ⟨ι,h,en,S,er,?_⟩
  unfold qg at q
  dsimp only at q
  rw [Out.bind_assoc] at q;refine q.bind λv h1 ι1 H1 u g1 S1 r1 q1=>?_
  split at q1
  ·rw [bT r1]
   exact ⟨_,rfl,k _ _ ι1 H1 g1 S1 q1⟩
  ·exact q1.elim
@[simp] def dE (x:AV) (l u:Option Int) (h:AH):Out AV:=match x with
 | .fl xs=>.ok (.fl (dW xs l u)) h
 | .str z=>.ok (.str (bY z l u)) h
 | .tup xs=>if ¬ (HT.sIx xs.length 0 l=0/\HT.sIx xs.length xs.length u=xs.length) then .ok (.tup (dW xs l u)) h else .bad
 | .ref n=>match h[n]? with
  | some (.lst xs)=>.ok (.fl (dW xs l u)) h
  | _=>.bad
 | _=>.bad
@[simp] def cz (a:SE) (lo hi:Option SE):SE:=λen h=>(a en h).bind λx h1=>(qg lo en h1).bind λl h2=>(qg hi en h2).bind λu h3=>dE x l u h3
theorem RVs.cut {ι:Ix} {H:Hp} {xs:List AV} {us:List V} {lo hi:Option Int} (r:RVs T ι H xs us):RVs T ι H (dW xs lo hi) (eY us lo hi):=by
 unfold dW eY
 rw [<- r.length];exact (r.drop _).take _
theorem Hu {ι:Ix} {H:Hp} {z:Str} {l u:Option Int} (hz:z.length<=sizeLine) (hc:z.cps.all (· < 0x110000)=true):RV T ι H (.str (bY z l u)) (.str (bY z l u)):=by
 refine .str ?_ ?_
 ·refine M6 ?_ hz
  simp [bY,Str.length];lia
 ·simp only [bY,Qm,NR]
  intro c h
  have hm:c∈z.cps.toList:=O5 (PF h)
  exact (Of.mp hc) c (by simpa using hm)
theorem iz {lo hi:Option Expr} {sl sh:Option SE} (hK:X.K=T.K) (ha:aL T E X a sa) (hl:qf T E X lo sl) (hh:qf T E X hi sh):aL T E X (.Subscript a (.Slice lo hi none p2) pos) (cz sa sl sh):=by
 refine cw (Ei (zj0.or (sl_tup.or Gn)) ha hl hh) λσ H Q=>E6x λι h en S er q=>⟨ι,h,en,S,er,q.bind λx h1 ι1 H1 u g1 S1 r1 q1=>?_⟩
 refine zF (E:=E) S1 (er.mono g1) q1 λl h2 ι2 H2 g2 S2 q2=>zF (E:=E) S2 (er.mono (g1.trans g2)) q2 λw h3 ι3 H3 g3 S3 q3=>?_
 have r3:=r1.mono (g2.trans g3)
 unfold dE at q3
 split at q3
 ·obtain ⟨ad,us,rfl,sq,rs⟩:=gv S3 r3 rfl
  exact .inl ⟨ad,us,rfl,hK▸sq,λp n=>pX S3 rs.cut n q3⟩
 ·obtain ⟨rfl,hz,hc⟩:=eC r3
  exact .inr (.inr ⟨_,rfl,hz,q3.now S3 (Hu hz hc)⟩)
 ·rename_i xs
  split at q3
  ·rename_i hz
   obtain ⟨ad,us,rfl,sq,rs⟩:=kN r3
   exact .inr (.inl ⟨ad,us,rfl,hK▸sq,by rw [<- rs.length];exact hz,λp n=>tZ S3 rs.cut n q3⟩)
  ·exact q3.elim
 ·split at q3
  ·rename_i xs hn
   obtain ⟨ad,us,rfl,sq,rs⟩:=gv (xs:=xs) S3 r3 (by simp [gs,hn])
   exact .inl ⟨ad,us,rfl,hK▸sq,λp n=>pX S3 rs.cut n q3⟩
  ·exact q3.elim
 ·exact q3.elim
theorem eF {x:Str} {i:Int} {p:Pos} (hg:Gl X x) (hm:∃ t,X.mg x=some (.int i t)) (hd:(x == ("__debug__" : Str))=false:=by decide):aL T E X (.Name x p) (af (.int i)):=by
 obtain ⟨t,hm⟩:=hm
 exact GB hg hm hd
end
def DG (K:PySem.W.Frag) (mg:Str->Option Value) (x:Str) (st:Stmt) (ps:List Str):Prop:=∃ f fd,mg x=some (.ref f)/\PySem.W.keepIn K (.ref f)=true/\Binds K fd ps []/\Fun K x x st f fd
def zG (N:List Str) (sc:Scope) (ns:List Str) (jf:List (Nat×Str)) (scope:Scope):Bool :=
 decide (ns++jf.map (·.2)).Nodup && ns.all (λx=>scope.names.lookup x == some .local) && jf.all (λp=>N[p.1]? == some p.2) && jf.all (λp=>scope.names.lookup p.2 == some .free) && (scope.kind == .function) &&
 scope.names.all (λy=>y.2 != .cell) && scope.names.all (λy=>y.2 != .free || sc.names.lookup y.1 == some .cell || sc.names.lookup y.1 == some .free) && scope.names.all (λy=>y.2 != .local || scope.names.lookup y.1 == some .local)
theorem nO {X:Cx} {N:List Str} {sc scope:Scope} {ns:List Str} {jf:List (Nat×Str)} (hN:X.N=N) (hk:∀ x,X.env.kindOf x=sc.names.lookup x) (h:zG N sc ns jf scope=true):CompOk X ns jf scope:=by
 unfold zG at h
 simp only [NM,Ox,NR,RL,bne_iff_ne,Bool.or_eq_true] at h
 obtain ⟨⟨⟨⟨⟨⟨⟨h1,h2⟩,h3⟩,h4⟩,h5⟩,h6⟩,h7⟩,h8⟩:=h
 refine ⟨h1,h2,λp hp=>by rw [hN];exact h3 p hp,h4,h5,λy hy=>h6 y hy,λy hy e=>?_,λy hy e=>?_⟩
 ·rw [hk]
  rcases h7 y hy with (z | z) | z
  ·exact absurd e z
  ·exact .inl z
  ·exact .inr z
 ·rcases h8 y hy with z | z
  ·exact absurd e z
  ·exact z
theorem uq {T:Tb} {ι:Ix} {H:Hp}:∀ ns:List Int,RVs T ι H (ns.map AV.int) (ns.map V.int)
 | []=>.nil
 | n::ns=>.cons (.int n) (uq ns)
theorem ur {T:Tb} {H:Hp}:Sim T ⟨[],[]⟩ [] H:=⟨rfl,O4,(λ_ z=>nomatch z),(λi o a e=>by simp at e)⟩
def uv (K:PySem.W.Frag):Sp:=λvs H Q _=>∃ (a:Addr) (ns:List Int),vs=[.ref a]/\SqL K H a (ns.map V.int)/\ns.length<=63/\∀ H',Q (.bl true) H'
theorem Hv {T:Tb} {F:Fn} (ht:∀ ns:List Int,ns.length<=63->∃ h',F [.fl (ns.map AV.int)] [] = .ok (.bl true) h'):∀ vs H Q E,uv T.K vs H Q E->iy T F vs H Q E:=by
 rintro vs H Q E ⟨a,ns,rfl,hs,hl,q⟩
 obtain ⟨h',e⟩:=ht ns hl
 refine ⟨⟨[],[]⟩,[],[.fl (ns.map AV.int)],ur,.cons ?_ .nil,?_⟩
 ·rcases hs with hs | hs
  ·exact .fl (by simp [Ix.all]) hs (uq ns)
  ·exact .kfl hs (uq ns)
 ·rw [e]
  intro ι' H' u g S r
  rw [fJ r];exact q H'
theorem Hw {P:Program} {w:World} {outer:List Env} {H:Hp} {s s':Shared} {e:Value} (h:cT P w outer H s (λ_ _ _=>False) e s'):False:=by
 obtain ⟨_,_,_,_,_,_,_,_,_,_,_,_,_,_,_,_,q⟩:=h
 exact q
@[simp] def nP:List AV->Option (List Int)
 | []=>some []
 | .int i::r=>(nP r).map (i :: ·)
 | _=>none
@[simp] def gK:Fn:=λargs h=>match args with
 | [.fl xs]=>match nP xs with
  | some ns=>.ok (.int ns.sum) h
  | none=>.bad
 | _=>.bad
@[simp] def jw (a b c:SE):SI:=λen h=>(a en h).bind λv h1=>(b en h1).bind λw h2=>(c en h2).bind λz h3=>match v,w,z with
 | .int i,.int j,.int k=>if i.natAbs<2 ^ 40/\j.natAbs<2 ^ 40/\0<k/\k<2 ^ 20 then .ok ((List.range (if i<j then (j-i-1) / k+1 else 0:Int).toNat).map (λm:Nat=>.int (i+m*k)),none) h3 else .bad
 | _,_,_=>.bad
@[simp] def Hx:F2:=λx y h=>match x,y with
 | .bl a,.bl b=>.ok (.bl (a == b)) h
 | _,_=>.bad
@[simp] def kT (f f' f'':F2) (a b c d:SE):SE:=λen h=>(a en h).bind λx h1=>(b en h1).bind λy h2=>(f x y h2).bind λz h3=>match z with
 | .bl k=>if k=true then (c en h3).bind λw h4=>(f' y w h4).bind λz2 h5=>(match z2 with
  | .bl k2=>if k2=true then (d en h5).bind λv h6=>f'' w v h6 else .ok (.bl false) h5
  | _=>.bad) else .ok (.bl false) h3
 | _=>.bad
section
variable {T:Tb} {E:St->XK} {X:Cx} {pos p:Pos} {e a b c:Expr} {sa sb sc:SE}
theorem zH {ι:Ix} {H:Hp}:∀ {xs:List AV} {us:List V} {bs:List Int},RVs T ι H xs us->nP xs=some bs->us=bs.map V.int
 | _,_,_,.nil,e=>by cases e;rfl
 | _,_,bs,.cons (x:=x) r rs,e=>by
  unfold nP at e
  split at e
  ·rename_i hh;cases hh
  ·rename_i b r' hh
   cases hh
   obtain ⟨bs',e1,rfl⟩:=Nw.mp e
   rw [bT r,zH rs e1];rfl
  ·cases e
theorem b_sum (hK:X.K=T.K) (hc:X.calm=true:=by rfl):∃ r,CallR X (.builtin "sum") r/\hW T gK r:=by
 refine ⟨_,Ga hc,λι h H xs us E Q S r q=>?_⟩
 unfold gK at q
 split at q
 ·split at q
  ·rename_i bs hb
   cases r with
   | cons r r' =>
    cases r'
    obtain ⟨a,us,rfl,sq,rs⟩:=gv S r rfl
    rw [zH rs hb] at sq;exact ⟨a,bs,rfl,hK▸sq,q.now S (.int _)⟩
  ·exact q.elim
 ·exact q.elim
theorem Hz {ι:Ix} {H:Hp} {lo c:Int} {n:Nat}:iT T (jg lo c n) ι H ((List.range n).map (λm:Nat=>AV.int (lo+m*c))) none:=by
 constructor
 ·intro i ι' h' H' y g S _ e
  rw [NK] at e;obtain ⟨m,e1,rfl⟩:=Nw.mp e
  have hi:i<n:=by
   have:=(MY.mp e1).1
   simpa using this
  rw [Pe hi] at e1
  cases e1
  refine ⟨hi,?_⟩
  rintro u H2 ⟨rfl,rfl⟩
  exact ⟨S.refl,S,.int _⟩
 ·intro i ι' h' H' g S _ hl
  have hl':n<=i:=by simpa using hl
  exact hl'
theorem zI {tg:Expr} {p:Pos} (hg:Gl X "range") (hm:X.mg "range" = none) (ha:aL T E X a sa) (hb:aL T E X b sb) (hc:aL T E X c sc) (hs:starEach [a,b,c] X.env=[(false,eval a X.env),(false,eval b X.env),(false,eval c X.env)]:=by rfl) (hs2:starEach [b,c] X.env=[(false,eval b X.env),(false,eval c X.env)]:=by rfl) (hs3:starEach [c] X.env=[(false,eval c X.env)]:=by rfl) :
  kQ T X tg (.Call (.Name "range" p) [a,b,c] [] pos) (jw sa sb sc) :=
 p6 (Gi hg hm (ak ha (ak hb (ak hc ar hs3) (by rw [hs2,hs3])) (by rw [hs,hs2])) hs hs2) λσ H R=>E6x λι h en S er q=>by
  unfold jw at q
  refine ⟨ι,h,en,S,er,?_⟩
  unfold aj
  cases e:sa en h with
  | bad=>rw [e] at q;exact q
  | ex c h1=>rw [e] at q;exact q.elim
  | ok v h1 =>
   rw [e] at q;dsimp only [Out.bind] at q ⊢
   cases e':sb en h1 with
   | bad=>rw [e'] at q;exact q
   | ex c h1=>rw [e'] at q;exact q.elim
   | ok v' h2 =>
    rw [e'] at q;dsimp only at q ⊢
    cases e'':sc en h2 with
    | bad=>rw [e''] at q;exact q
    | ex c h1=>rw [e''] at q;exact q.elim
    | ok v'' h3 =>
     rw [e''] at q;dsimp only at q
     intro ι1 H1 u g1 S1 r1
     split at q
     ·rename_i hx
      split at hx
      ·split at hx
       ·rename_i hb
        cases hx
        cases r1 with
        | cons r r' =>
         cases r' with
         | cons r2 r3 =>
          cases r3 with
          | cons r4 r5 =>
           cases r5
           rw [bT r,bT r2,bT r4];exact ⟨_,_,_,rfl,hb,q ι1 H1 _ g1 S1 Hz⟩
       ·cases hx
      ·cases hx
     ·exact q.elim
theorem dN {sts:List Stmt} {E:St->XK}:cR T E X sts (λ_ _=>.bad):=λpins s σ H D I ⟨ι,h,en,S,er,q⟩=>q.elim
theorem HB {d:Expr} {sd:SE} {op op' op'':CmpOp} {f f' f'':F2} (ho:Op T X (compareOp op) f) (ho':Op T X (compareOp op') f') (ho'':Op T X (compareOp op'') f'') (ha:aL T E X a sa) (hb:aL T E X b sb) (hc:aL T E X c sc) (hd:aL T E X d sd) (hm:lastMarks [op,op',op''] [b,c,d]=false:=by with_unfolding_all rfl) :
  g8 T E X (.Compare a [op,op',op''] [b,c,d] pos) (aM (kT f f' f'' sa sb sc sd)):=by
 obtain ⟨r,h1,hs⟩:=ho
 obtain ⟨r',h1',hs'⟩:=ho'
 obtain ⟨r'',h1'',hs''⟩:=ho''
 refine nv (Gp h1 h1' h1'' ha hb hc hd hm) λσ H Q q=>?_
 obtain ⟨ι,h,en,S,er,q⟩:=q
 unfold aM kT at q
 rw [Out.bind_assoc] at q;refine ⟨ι,h,en,S,er,q.bind λx h1 ι1 H1 u g1 S1 r1 q1=>?_⟩
 rw [Out.bind_assoc] at q1;refine ⟨ι1,h1,en,S1,er.mono g1,q1.bind λy h2 ι2 H2 w g2 S2 r2 q2=>?_⟩
 rw [Out.bind_assoc] at q2;refine hs ι2 h2 H2 x y u w (E σ) _ S2 (r1.mono g2) r2 (q2.bind λz h3 ι3 H3 k g3 S3 r3 q3=>?_)
 split at q3
 ·rename_i kk
  rw [fJ r3];refine ⟨kk,rfl,?_⟩
  by_cases hkk:kk=true
  ·rw [M8 hkk] at q3 ⊢
   rw [Out.bind_assoc] at q3;refine ⟨ι3,h3,en,S3,er.mono (g1.trans (g2.trans g3)),q3.bind λv h4 ι4 H4 j g4 S4 r4 q4=>?_⟩
   rw [Out.bind_assoc] at q4;refine hs' ι4 h4 H4 y v w j (E σ) _ S4 (r2.mono (g3.trans g4)) r4 (q4.bind λz2 h5 ι5 H5 k5 g5 S5 r5 q5=>?_)
   split at q5
   ·rename_i k2
    rw [fJ r5];refine ⟨k2,rfl,?_⟩
    by_cases hk2:k2=true
    ·rw [M8 hk2] at q5 ⊢
     rw [Out.bind_assoc] at q5;refine ⟨ι5,h5,en,S5,er.mono (g1.trans (g2.trans (g3.trans (g4.trans g5)))),q5.bind λv6 h6 ι6 H6 j6 g6 S6 r6 q6=>?_⟩
     refine hs'' ι6 h6 H6 v v6 j j6 (E σ) _ S6 (r4.mono (g5.trans g6)) r6 (q6.bind λz7 h7 ι7 H7 k7 g7 S7 r7 q7=>?_)
     split at q7
     ·rw [fJ r7];exact ⟨_,rfl,q7.now S7 rfl⟩
     ·exact q7.elim
    ·rw [M9 hk2] at q5 ⊢
     exact ⟨false,rfl,q5.now S5 rfl⟩
   ·exact q5.elim
  ·rw [M9 hkk] at q3 ⊢
   exact ⟨false,rfl,q3.now S3 rfl⟩
 ·exact q3.elim
end
theorem HC:∀ {us:List Value},us.length=1->∃ a:Value,us=[a]
 | [a],_=>⟨a,rfl⟩
theorem HD:∀ {us:List Value},us.length=2->∃ a b:Value,us=[a,b]
 | [a,b],_=>⟨a,b,rfl⟩
theorem HE:∀ {us:List Value},us.length=3->∃ a b c:Value,us=[a,b,c]
 | [a,b,c],_=>⟨a,b,c,rfl⟩
theorem HF:∀ {us:List Value},us.length=4->∃ a b c d:Value,us=[a,b,c,d]
 | [a,b,c,d],_=>⟨a,b,c,d,rfl⟩
theorem HH {T:Tb} {ι:Ix} {H:Hp} {z:Str} {n:Nat} (hl:z.length*n<=1000000) (hc:z.cps.all (· < 0x110000)=true):RV T ι H (.str (bE z n)) (.str (bE z n)):=by
 refine .str ?_ ?_
 ·refine M6 ?_ (M6 hl (by decide))
  simp [bE,Str.length,Qx]
 ·simp only [bE,Qm,NR,List.mem_flatten,List.mem_replicate]
  rintro c ⟨l,⟨_,rfl⟩,hm⟩
  exact (Of.mp hc) c (by simpa using hm)
@[simp] def nQ:F2:=λx y h=>match x,y with
 | .str z,.int n=>if n.natAbs<2 ^ 40/\z.length*n.toNat<=1000000 then .ok (.str (bE z n.toNat)) h else .bad
 | _,_=>.bad
theorem HI {T:Tb} {X:Cx}:Op T X (binaryOp .Mult) nQ:=by
 refine ⟨_,Gs,λι h H x y u w E Q S rx ry p=>?_⟩
 unfold nQ at p
 split at p
 ·split at p
  ·rename_i hz
   obtain ⟨rfl,_,hc⟩:=eC rx
   rw [bT ry];exact ⟨_,_,rfl,rfl,hz.1,hz.2,p.now S (HH hz.2 hc)⟩
  ·exact p.elim
 ·exact p.elim
def fy (n:Nat) (y z:AV) (h:AH):Out AV:=match h[n]? with
 | some (.dct t kvs)=>if d0 t y then .ok ((bF kvs y).getD z) h else .bad
 | _=>.bad
def fz (o k d:SE):SE:=λen h=>(o en h).bind λx h1=>match x with
 | .ref n=>(match h1[n]? with
  | some (.dct _ _)=>(k en h1).bind λy h2=>(d en h2).bind λz h3=>fy n y z h3
  | _=>.bad)
 | _=>.bad
section
variable {T:Tb} {E:St->XK} {X:Cx} {pos apos:Pos} {a b c:Expr} {sa sb sc:SE}
theorem isD_of {ι:Ix} {h:AH} {H:Hp} {n:Nat} {t:Bool} {kvs:List (AV×AV)} {ad:Addr} (S:Sim T ι h H) (hn:h[n]? = some (.dct t kvs)) (hr:ι.refs[n]? = some ad):nq H ad:=by
 obtain ⟨ob,e1,r⟩:=S.obj n _ ad hn hr
 cases t with
 | false=>obtain ⟨kus,rfl,r⟩:=r;exact .inl ⟨_,.inl e1⟩
 | true=>obtain ⟨kus,rfl,r⟩:=r;exact .inr ⟨_,_,.inl e1⟩
theorem uw (hu:X.A.units+64<cLine) (ha:aL T E X a sa) (hb:aL T E X b sb) (hc:aL T E X c sc) (hbase:attributeBase a "get" X.env (eval a X.env)=eval a X.env:=by rfl)
  (hfew:((backTo pos (starEach [b,c] X.env)).all (λx=>!x.1) && (backToKw pos (keywordEach [] X.env)).all (λx=>x.1.isSome) && decide (([b,c]:List Expr).length+([]:List Keyword).length+(if ([]:List Keyword).isEmpty then 0 else 1)<30))=true:=by rfl)
  (hline:(apos.endLine == pos.line)=true:=by rfl) (htrees:backTo pos (starEach [b,c] X.env)=[(false,eval b X.env),(false,eval c X.env)]:=by rfl):aL T E X (.Call (.Attribute a "get" apos) [b,c] [] pos) (fz sa sb sc):=by
 refine cw (E7 (Nl (Nx (by decide:1<=64) _) hu) ha hb hc ⟨hbase,hfew,hline,htrees⟩) λσ H Q q=>?_
 obtain ⟨ι,h,en,S,er,q⟩:=q
 refine ⟨ι,h,en,S,er,q.bind λx h1 ι1 H1 u g1 S1 r1 q1=>?_⟩
 split at q1
 ·rename_i n
  split at q1
  ·rename_i t0 kvs0 hn0
   cases r1 with
   | @ref _ ad hr =>
    refine ⟨ad,rfl,isD_of S1 hn0 hr,ι1,h1,en,S1,er.mono g1,q1.bind λy h2 ι2 H2 v g2 S2 r2 q2=>⟨ι2,h2,en,S2,(er.mono g1).mono g2,q2.bind λz h3 ι3 H3 w g3 S3 r3 q3=>?_⟩⟩
    unfold fy at q3
    split at q3
    ·rename_i t kvs hn
     split at q3
     ·rename_i hk
      obtain ⟨o,dg,alt⟩:=qd S3 hn ((g2.trans g3).ext.at_ hr) (r2.mono g3) hk
      refine ⟨o,dg,?_⟩
      rcases alt with ⟨v1,rfl⟩ | ⟨v',u',v1,rfl,r4⟩
      ·rw [v1] at q3;exact q3.now S3 r3
      ·rw [v1] at q3;exact q3.now S3 r4
     ·exact q3.elim
    ·exact q3.elim
  ·exact q1.elim
 ·exact q1.elim
end
def zJ:Expr->Bool
 | .Starred _ _=>false
 | _=>true
theorem HJ (a:Expr) (es:List Expr) (env:Env) (h:zJ a=true):starEach (a::es) env=(false,eval a env)::starEach es env:=by
 cases a<;>first | rfl | cases h
section
variable {T:Tb} {E:St->XK} {X:Cx} {a:Expr} {es:List Expr} {sa:SE}
theorem iA (ha:aL T E X a sa) (hr:fI T E X es as) (hn:zJ a=true:=by rfl):fI T E X (a::es) (aj sa as):=ak ha hr (HJ _ _ _ hn)
end
section
variable {T:Tb} {E:St->XK} {X:Cx} {pos:Pos} {a b:Expr} {sa sb:SE} {sts:List Stmt} {s1:SS}
end
end Sm
namespace L2
open PySem PySem.Spec PyProof.Rows
section
variable {X:Cx} {a b:Expr} {rest:List Expr} {pos:Pos} {ta tb:TE}
def ux (K:PySem.W.Frag) (ta tb:TE):TE:=λσ H Q=>ta σ H λx H1=>∃ k,i8 K x H1 k/\if k=true then Q x H1 else tb σ H1 Q
theorem HK (ha:PE X a ta) (hb:PE X (.BoolOp .Or (b::rest) pos) tb):PE X (.BoolOp .Or (a::b::rest) pos) (ux X.K ta tb):=by
 intro pins s σ H Q I h
 refine BoolOp_or (thn (ha pins s σ H _ I h) λv s1 Zz=>?_);obtain ⟨x,H1,I1,r1,k,tv,q1⟩:=Zz
 refine NP (ya pins s1 σ H1 x v (λc H' => if c=true then Q x H' else tb σ H' Q) I1 r1 ⟨k,tv,q1⟩) (λc s2 Zz=>?_) λ_ _ z=>z;obtain ⟨H2,I2,q2⟩:=Zz
 cases c with
 | false=>exact hb pins s2 σ H2 Q I2 q2
 | true=>exact ⟨x,H2,I2,r1,q2⟩
end
end L2
namespace Sm
open PySem PySem.Spec L2
@[simp] def fW (a b:SE):SE:=λen h=>(a en h).bind λv h1=>match jl v h1 with
 | some k=>if k=true then .ok v h1 else b en h1
 | none=>.bad
section
variable {T:Tb} {E:L2.St->XK} {X:Cx} {pos:Pos} {a b:Expr} {rest:List Expr} {sa sb:SE}
theorem qh (hK:X.K=T.K) (ha:aL T E X a sa) (hb:aL T E X (.BoolOp .Or (b::rest) pos) sb):aL T E X (.BoolOp .Or (a::b::rest) pos) (fW sa sb) :=
 cw (HK ha hb) λσ H Q=>E6x λι h en S er q=>⟨ι,h,en,S,er,q.bind λx h1 ι1 H1 u g1 S1 r1 q1=>by
  split at q1
  ·rename_i k hk
   refine ⟨k,hK▸y6 S1 r1 hk,?_⟩
   by_cases hkk:k=true
   ·rw [M8 hkk] at q1 ⊢
    exact q1.now S1 r1
   ·rw [M9 hkk] at q1 ⊢
    exact ⟨ι1,h1,en,S1,er.mono g1,q1⟩
  ·exact q1.elim⟩
end
end Sm
namespace L2
open PySem PySem.Spec
theorem Room.m {j k:Nat} {A:Around} (hr:Room k A) (h:Nat.ble j k=true:=by rfl):Room j A:=hr.mono (Nat.le_of_ble_eq_true h)
end L2
namespace Sm
open PySem PySem.Spec L2
def DK (K:PySem.W.Frag) (x:Str) (st:Stmt):Prop:=∃ f fd,PySem.W.nsIn K mainGlobals x=some (some (.ref f))/\Fun K x x st f fd
def DN (K:PySem.W.Frag) (C:Addr) (m q:Str) (st:Stmt):Prop:=∃ f fd,ik K C m f/\Fun K m q st f fd
def cK (K:PySem.W.Frag) (cls:Nat->Option Addr) (c:Nat) (m q:Str) (st:Stmt) (ps:List Str):Prop:=∃ C f fd,cls c=some C/\Cls K C/\ik K C m f/\Binds K fd ps []/\Fun K m q st f fd
def DI (K:PySem.W.Frag) (cls:Nat->Option Addr) (mg:Str->Option Value) (c:Nat) (x q:Str) (st:Stmt) (ps:List Str):Prop:=∃ C f fd,cls c=some C/\mg x=some (.ref C)/\Mk K C f/\Binds K fd ps []/\Fun K "__init__" q st f fd
section
variable {P:Program} {w:World} {K:PySem.W.Frag} {mg:Str->Option Value} {base h:Heap} {T:Tb} {x m q:Str} {st:Stmt} {f C:Addr} {N ps:List Str} {k c:Nat} {b:SS} {cls:Nat->Option Addr}
section
variable {oc:Value} {od an:Option Addr} {osl:Array (Option Value)} {kV doc pm cdv ct:Value}
theorem dk (a:PySem.W.nsIn K mainGlobals x=some (some (.ref f))) (l:K.lookup f=some ⟨oc,od,.func (PySem.W.fnOf x x (kE st) (iM st) (aP st) .none kV doc pm an cdv ct),osl⟩)
  (c:PySem.W.codeIn K cdv x=true) (k:PySem.W.keepIn K (.ref f)=true):DK K x st:=⟨f,_,a,yA l c k⟩
theorem dn (a:PySem.W.findIn K (.ref C) m=some (some (.ref f))) (i:PySem.W.isFn K (.ref f)=true) (l:K.lookup f=some ⟨oc,od,.func (PySem.W.fnOf m q (kE st) (iM st) (aP st) .none kV doc pm an cdv ct),osl⟩)
  (c:PySem.W.codeIn K cdv q=true) (k:PySem.W.keepIn K (.ref f)=true):DN K C m q st:=⟨f,_,⟨a,i,k⟩,yA l c k⟩
end
abbrev BA (x q:Str) (st:Stmt) (us:List Value) (r:List (Str×Value)):Prop:=∀ (kV doc pm:Value) (an:Option Addr) (cdv ct:Value),bindArgs (PySem.W.fnOf x q (kE st) (iM st) (aP st) .none kV doc pm an cdv ct) ⟨us,[]⟩=pure r
def BL (x q:Str) (st:Stmt) (ps:List Str):Prop:=∀ (us:List Value),us.length=ps.length->BA x q st us (ps.zip us)
theorem eT {p1:Str} (h:∀ a,BA x q st [a] [(p1,a)]:=by exact λ_ _ _ _ _ _ _=>rfl):BL x q st [p1]:=λus e=>by obtain ⟨_,rfl⟩:=HC e;exact h _
theorem c9 {p1 p2:Str} (h:∀ a b,BA x q st [a,b] [(p1,a),(p2,b)]:=by exact λ_ _ _ _ _ _ _ _=>rfl):BL x q st [p1,p2]:=λus e=>by obtain ⟨_,_,rfl⟩:=HD e;exact h _ _
theorem dO {p1 p2 p3:Str} (h:∀ a b c,BA x q st [a,b,c] [(p1,a),(p2,b),(p3,c)]:=by exact λ_ _ _ _ _ _ _ _ _=>rfl):BL x q st [p1,p2,p3]:=λus e=>by obtain ⟨_,_,_,rfl⟩:=HE e;exact h _ _ _
theorem mf {p1 p2 p3 p4:Str} (h:∀ a b c d,BA x q st [a,b,c,d] [(p1,a),(p2,b),(p3,c),(p4,d)]:=by exact λ_ _ _ _ _ _ _ _ _ _=>rfl):BL x q st [p1,p2,p3,p4]:=λus e=>by obtain ⟨_,_,_,_,rfl⟩:=HF e;exact h _ _ _ _
theorem dg (X:K.In h) (G:h.Ns mainGlobals mg) (d:DK K x st) (hb:BL x x st ps):DG K mg x st ps:=by
 obtain ⟨f,fd,a,F⟩:=d
 exact ⟨f,fd,Ob X G a,F.kp,F.binds λ_ _ _ _ _ _ us hl=>hb us hl _ _ _ _ _ _,F⟩
theorem dm (hc:cls c=some C) (k:Cls K C) (d:DN K C m q st) (hb:BL m q st ps):cK K cls c m q st ps:=by
 obtain ⟨f,fd,M,F⟩:=d
 exact ⟨C,f,fd,hc,k,M,F.binds λ_ _ _ _ _ _ us hl=>hb us hl _ _ _ _ _ _,F⟩
theorem di (hc:cls c=some C) (hx:mg x=some (.ref C)) (mk:PySem.W.makesIn K C=true) (kc:PySem.W.keepIn K (.ref C)=true) (d:DN K C "__init__" q st) (hb:BL "__init__" q st ps):DI K cls mg c x q st ps:=by
 obtain ⟨f,fd,M,F⟩:=d
 exact ⟨C,f,fd,hc,hx,⟨mk,M.at_,M.fn,kc⟩,F.binds λ_ _ _ _ _ _ us hl=>hb us hl _ _ _ _ _ _,F⟩
theorem uy {fa:Addr} {p:Str} (X:K.In h) (G:h.Ns mainGlobals mg) (hfa:mg x=some (.ref fa)) (d:DK K x st) (hb:BL x x st [p]):∃ fd:FuncData,(∀ (s:Shared) (v:Value),BindsTo s fd ⟨[v],[]⟩ [(p,v)])/\Fun K x x st fa fd:=by
 obtain ⟨f,fd,a,F⟩:=d
 have e:=hfa.symm.trans (Ob X G a)
 cases e
 refine ⟨fd,λs v=>?_,F⟩
 obtain ⟨oc,od,kV,doc,pm,an,cdv,ct,osl,rfl,lk,hcd⟩:=F.ex
 exact .of_eq (hb [v] rfl _ _ _ _ _ _)
theorem bq {sc:Scope} (h1:sc.kind = .function:=by rfl) (h2:sc.isCoroutine=false:=by rfl) (h3:sc.isGenerator=false:=by rfl) (h4:N.Nodup:=by decide +kernel) (h5:N.take ps.length=ps:=by rfl)
  (h6:∀ x∈ps,sc.names.lookup x=some .local\/sc.names.lookup x=some .cell:=by decide +kernel) (h7:∀ y∈sc.names,y.2 ≠ .free:=by decide +kernel):aq N ps sc:=⟨h1,h2,h3,h4,h5,h6,h7⟩
abbrev qi (P:Program) (w:World) (mg:Str->Option Value) (base:Heap) (T:Tb) (q:Str) (st:Stmt) (f:Addr) (N:List Str) (k:Nat) (b:SS):Prop :=
 ∀ {cdv:Value} {A:Around} {outer:List Env} {s:Shared} {H:Hp} {E:XK},Room k (A.deeper (PyProof.Rows.envOfC q (aP st) s.heap.objs.size f cdv))->CA T (λ_=>E) (cD (cT P w) P w T.K mg base N q (aP st) f cdv A outer s H E) ->
  (A.deeper (PyProof.Rows.envOfC q (aP st) s.heap.objs.size f cdv)).units+64<cLine->N.Nodup->cR T (λ_=>E) (cD (cT P w) P w T.K mg base N q (aP st) f cdv A outer s H E) (iM st) b
theorem gf (d:DG T.K mg x st ps) (S:aq N ps (aP st)) (hb:∀ {f},qi P w mg base T x st f N k b):GF P w T mg base (k+1) x (aD ps.length N.length b):=by
 obtain ⟨f,fd,h1,h2,h3,h4⟩:=d
 exact ⟨f,fd,_,h1,h2,h3,p9 h4 rfl S λcdv A outer s H E hr C=>hb hr C (je hr) S.nd⟩
theorem gm (d:cK T.K T.cls c m q st ps) (S:aq N ps (aP st)) (no:m∉T.fields c) (hb:∀ {f},qi P w mg base T q st f N k b):GM P w T mg base (k+1) c m (aD ps.length N.length b):=by
 obtain ⟨C,f,fd,h0,hc,h1,h3,h4⟩:=d
 exact ⟨⟨C,f,fd,_,h0,hc,h1,h3,p9 h4 rfl S λcdv A outer s H E hr C=>hb hr C (je hr) S.nd⟩,no⟩
theorem gk (d:DI T.K T.cls mg c x q st ps) (S:aq N ps (aP st)) (hb:∀ {f},qi P w mg base T q st f N k b):GK P w T mg base (k+1) c x (aD ps.length N.length b):=by
 obtain ⟨C,f,fd,h0,h1,h2,h3,h4⟩:=d
 exact ⟨C,f,fd,_,h0,h1,h2,h3,p9 h4 rfl S λcdv A outer s H E hr C=>hb hr C (je hr) S.nd⟩
theorem gl {f:Addr} {fd:FuncData} (h4:Fun T.K x x st f fd) (S:aq N ps (aP st)) (hb:qi P w mg base T x st f N k b):FnOk P w T.K mg base (cT P w) (k+1) f fd ps (iy T (aD ps.length N.length b)) :=
 p9 h4 rfl S λcdv A outer s H E hr C=>hb hr C (je hr) S.nd
def XI (K:PySem.W.Frag) (X:Addr):Prop:=PySem.W.excIn K X [.type "ValueError",.type "Exception",.type "BaseException",.type "object"] "ValueError.__new__" = true
theorem xi {X:Addr} (h:PySem.W.excIn K X [.type "ValueError",.type "Exception",.type "BaseException",.type "object"] "ValueError.__new__" = true):XI K X:=h
theorem gx {X:Addr} {n:Nat} {g:Heap} (KB:K.In g) (KX:K.In h) (G:h.Ns mainGlobals mg) (hc:T.exc n=some X) (e:PySem.W.nsIn K mainGlobals x=some (some (.ref X))) (hx:XI K X):GX T mg g n x:=⟨X,hc,FY KB (Ob KX G e) hx⟩
def XO (K:PySem.W.Frag) (a b:Addr):Prop:=PySem.W.exmOne K (.ref a) (.ref b)=some true
theorem xo {a d:Addr} (h:PySem.W.exmOne K (.ref a) (.ref d)=some true):XO K a d:=h
def NA (K:PySem.W.Frag) (x:Str) (v:Option Value):Prop:=PySem.W.nsIn K mainGlobals x=some v
theorem na {v:Option Value} (h:PySem.W.nsIn K mainGlobals x=some v):NA K x v:=h
def FA (K:PySem.W.Frag) (C:Addr) (x:Str):Prop:=PySem.W.findIn K (.ref C) x=some none
theorem fatt (h:PySem.W.findIn K (.ref C) x=some none):FA K C x:=h
end
end Sm
namespace L2
open PySem PySem.Spec PyProof.Rows
theorem uz {P:Program} {w:World}:∀ {kvs:List (aU×V)} {vs:List (aU×Value)} {ns:List Str} {us:List Value},KV kvs vs->kvs.map (·.1)=ns.map Sum.inr->us.length=vs.length->(∀ (i:Nat) (v:Value),us[i]? = some v->∃ k x,vs[i]? = some (k,x)/\(fF P w).is k v=true)->StrsAre us ns
 | [],[],[],[],_,_,_,_=>.nil
 | [],[],_::_,_,_,e,_,_=>by simp at e
 | [],[],[],_::_,_,_,l,_=>by simp at l
 | _::_,_::_,_::_,[],_,_,l,_=>by simp at l
 | _::_,_::_,[],_,_,e,_,_=>by simp at e
 | p::kvs,q::vs,n::ns,u::us,.cons r rs,e,l,f=>by
  simp only [NG,List.cons.injEq] at e
  obtain ⟨k,x,e1,e2⟩:=f 0 u rfl
  have e3:q=(k,x):=by simpa using e1
  have ek:k=Sum.inr n:=by rw [<- e.1,r.1,e3]
  rw [ek] at e2;rw [B5] at e2;rcases iJ (k:=Sum.inr n) (v:=u) e2 with ⟨i,t,a1,a2⟩ | ⟨y,t,a1,a2⟩
  ·cases a1
  ·injection a1 with a1
   subst a1 a2
   exact .cons _ _ (uz rs e.2 (by simpa using l) λi v h=>by simpa using f (i+1) v (by simpa using h))
theorem uA:∀ {vs:List Value} {ns:List Str},StrsAre vs ns->Vals (ns.map V.str) vs
 | _,_,.nil=>.nil
 | _,_,.cons y t h=>.cons ⟨t,rfl⟩ (uA h)
theorem StrsAre.len:∀ {vs:List Value} {ns:List Str},StrsAre vs ns->vs.length=ns.length
 | _,_,.nil=>rfl
 | _,_,.cons y t h=>congrArg Nat.succ (StrsAre.len h)
theorem HL {X:Cx} (hc:X.calm=true):CallR X (.builtin "sorted") (λxs H Q=>∃ (a:Addr) (kvs:List (aU×V)) (ns:List Str),xs=[.ref a]/\H a=some (.dK kvs)/\kvs.map (·.1)=ns.map Sum.inr/\ns.length<64/\∀ (p:Addr) (ns':List Str),H p=none->ns'.Perm ns->sortedS ns'=true->Q (.ref p) (upd H p (.lst (ns'.map V.str)))):=by
 intro pins s σ H xs us Q I rv h
 obtain ⟨a,kvs,ns,rfl,ha,hn,h64,q⟩:=h
 obtain ⟨u,rfl,ru⟩:=Vals.one rv
 obtain rfl:u=Value.ref a:=ru
 obtain ⟨z,hd,vs,rel,dd⟩:=dk_of I.hok ha
 obtain ⟨ep,da⟩:=dd.dictAt
 have lv:vs.length=kvs.length:=(Paired.length rel).symm
 refine P3 kind_sorted plain_sorted entry_sorted (args_sorted1 _) ?_
 unfold Builtin.«sorted»
 refine M4 (m:=checkCount "sorted" 1 1 _) (Nd (M4 (Re (PySem.W.kdl_dict (knd:=fF X.prog X.w) (kvs:=vs) (ep:=ep) hd) (I.ok.hd hc) da (by rw [lv];exact z) λh' tk acc hk hacc=>?_)))
 have hl:acc.toList.length=vs.length:=by rw [OC];exact hacc.1
 have hI:StrsAre acc.toList ns:=uz rel hn hl λi v e=>hacc.2 i v (by rw [<- Py];exact e)
 have hz:acc.toList.length<=sizeLine:=by rw [hl,lv];exact z
 refine M4 (wpAny_newList ?_ hz)
 have hoL:(h'.push (seqObj "list" acc.toList.toArray 0)).get? h'.objs.size=some (seqObj "list" acc.toList.toArray 0):=Nn _ rfl
 refine M4 (Og (Os slot_list_sort ⟨_,hoL,rfl⟩ entry_list_sort (list_sort_treeK (s:={ s with heap:=h'.push (seqObj "list" acc.toList.toArray 0),toks:=tk }) strKind_oneLt hoL hI.keysOf (λv₁ v₂ rest e=>keyKind_strs (by rw [<- e];exact hI)) (by rw [StrsAre.len hI];exact h64) λst' hp hs=>⟨_,rfl,Nd ⟨_,rfl,?_⟩⟩) (args_list_sort _)))
 obtain ⟨ns',o1,o2,o3⟩:=sorted_out_str hI hp hs
 have I1:Inv X pins σ H { s with heap:=h',toks:=tk }:=I.kept (t' := tk) hk
 obtain ⟨e,he⟩:=sortedHeap_at (out:=(arrOf st').map (·.2)) hoL
 have l2:ns'.length=ns.length:=o2.length_eq
 have l3:ns.length=kvs.length:=by have:=congrArg List.length hn;simpa using this.symm
 refine ⟨.ref h'.objs.size,_,I1.laid (a:=h'.objs.size) (t' := tk) (o:=.lst (ns'.map V.str)) (λb o hb=>?_) (MZ _) ⟨?_,((arrOf st').map (·.2)).toList,e,uA o1,?_⟩,rfl,q _ ns' (I1.hok.fresh (MZ _)) o2 o3⟩
 ·have lt:b<h'.objs.size:=Ng hb
  rw [sortedHeap_old (NH lt) (by rw [size_push'];exact Pu lt)]
  exact M7 _ hb
 ·rw [Nc,l2,l3];exact z
 ·rw [he]
end L2
namespace Sm
open PySem PySem.Spec L2 PyProof.Rows
def gL (a b:Str):Prop:=ltCps b.cps.toList a.cps.toList=false
def gM (x:Str):List Str->List Str
 | []=>[x]
 | y::r=>if ltCps y.cps.toList x.cps.toList then y::gM x r else x::y::r
def eI:List Str->List Str
 | []=>[]
 | x::r=>gM x (eI r)
theorem leS_le {a b:Str}:gL a b ↔ a.cps.toList<=b.cps.toList:=by
 unfold gL
 rw [ltCps_eq,Qs];exact Iff.rfl
theorem uB (x:Str):∀ l,(gM x l).Perm (x::l)
 | []=>.refl _
 | y::r=>by
  unfold gM
  split
  ·exact ((uB x r).cons y).trans (.swap ..)
  ·exact .refl _
theorem gO:∀ l,(eI l).Perm l
 | []=>.refl _
 | x::r=>(uB x (eI r)).trans ((gO r).cons x)
theorem zK (x:Str):∀ {l:List Str},l.Pairwise gL->(gM x l).Pairwise gL
 | [],_=>Qn ..
 | y::r,h=>by
  obtain ⟨h1,h2⟩:=Oq.mp h
  unfold gM
  split
  ·rename_i q
   refine Oq.mpr ⟨λz hz=>?_,zK x h2⟩
   rcases Np.mp ((uB x r).mem_iff.mp hz) with rfl | hz
   ·rw [leS_le]
    rw [ltCps_eq,Ox] at q;exact List.le_of_lt q
   ·exact h1 z hz
  ·rename_i q
   have q':gL x y:=by simpa [gL] using q
   refine Oq.mpr ⟨λz hz=>?_,h⟩
   rcases Np.mp hz with rfl | hz
   ·exact q'
   ·exact leS_le.mpr (List.le_trans (leS_le.mp q') (leS_le.mp (h1 z hz)))
theorem nR:∀ l,(eI l).Pairwise gL
 | []=>.nil
 | x::r=>zK x (nR r)
theorem qj:∀ {l m:List Str},l.Perm m->l.Pairwise gL->m.Pairwise gL->l=m
 | [],m,p,_,_=>(List.nil_perm.mp p).symm
 | x::l,[],p,_,_=>by simp at p
 | x::l,y::m,p,h,g=>by
  obtain ⟨h1,h2⟩:=Oq.mp h
  obtain ⟨g1,g2⟩:=Oq.mp g
  have e:x=y:=by
   have a:x∈y::m:=p.mem_iff.mp (NX ..)
   have b:y∈x::l:=p.mem_iff.mpr (NX ..)
   rcases Np.mp a with a | a
   ·exact a
   ·rcases Np.mp b with b | b
    ·exact b.symm
    ·have:x.cps.toList=y.cps.toList:=List.le_antisymm (leS_le.mp (h1 y b)) (leS_le.mp (g1 x a))
     cases x;cases y
     congr 1
     exact Ql.mp this
  subst e;rw [qj (List.Perm.cons_inv p) h2 g2]
theorem zL:∀ (p:Str) (l:List Str),PyProof.Rows.risingS p l=true->(p::l).Pairwise gL
 | p,[],_=>Qn ..
 | p,x::r,h=>by
  have h':(!ltCps x.cps.toList p.cps.toList && PyProof.Rows.risingS x r)=true:=h
  rw [NM] at h';have t:=zL x r h'.2
  have a:gL p x:=by simpa [gL] using h'.1
  refine Oq.mpr ⟨λz hz=>?_,t⟩
  rcases Np.mp hz with rfl | hz
  ·exact a
  ·exact leS_le.mpr (List.le_trans (leS_le.mp a) (leS_le.mp ((Oq.mp t).1 z hz)))
theorem zM:∀ (l:List Str),PyProof.Rows.sortedS l=true->l.Pairwise gL
 | [],_=>.nil
 | x::r,h=>zL x r h
def kU:List AV->Option (List Str)
 | []=>some []
 | .str x::r=>(kU r).map (x :: ·)
 | _::_=>none
theorem uC:∀ {l:List AV} {is:List Str},kU l=some is->l=is.map AV.str
 | [],is,e=>by cases e;rfl
 | .str i::r,is,e=>by
  unfold kU at e
  cases q:kU r with
  | none=>rw [q] at e;cases e
  | some js=>rw [q] at e;cases e;rw [uC q];rfl
 | .non::_,_,e | .bl _::_,_,e | .int _::_,_,e | .tup _::_,_,e | .fl _::_,_,e | .ref _::_,_,e | .exc _::_,_,e=>nomatch e
def mh (v:AV) (h:AH):Option (List Str):=match v with
 | .ref n=>(match h[n]? with
  | some (.dct false kvs)=>kU (kvs.map (·.1))
  | _=>none)
 | _=>none
def kW:Fn:=λargs h=>match args with
 | [v]=>(match mh v h with
  | some ns=>if ns.length<64/\∀ x∈ns,x.length<=1000/\x.cps.all (· < 0x110000)=true then .ok (.fl ((eI ns).map AV.str)) h else .bad
  | none=>.bad)
 | _=>.bad
def fX:SS:=λ_ _=>.bad
def nS (o k:SE):SE:=λen h=>(o en h).bind λx h1=>match x with
 | .ref n=>(match h1[n]? with
  | some (.dct _ _)=>(k en h1).bind λy h2=>fy n y .non h2
  | _=>.bad)
 | _=>.bad
@[simp] def mq:FM:=λx vs h=>match x,vs with
 | .ref n,[]=>match h[n]? with
  | some (.lst _)=>.ok .non (h.set n (.lst []))
  | _=>.bad
 | _,_=>.bad
section
variable {T:Tb} {E:L2.St->XK} {X:Cx} {pos apos:Pos} {a b c:Expr} {sa sb sc:SE} {st:Stmt}
theorem HM (hu:X.A.units+64<cLine) (ha:aL T E X a sa) (hb:aL T E X b sb) (hbase:attributeBase a "get" X.env (eval a X.env)=eval a X.env:=by rfl)
  (hfew:((backTo pos (starEach [b] X.env)).all (λx=>!x.1) && (backToKw pos (keywordEach [] X.env)).all (λx=>x.1.isSome) && decide (([b]:List Expr).length+([]:List Keyword).length+(if ([]:List Keyword).isEmpty then 0 else 1)<30))=true:=by rfl)
  (hline:(apos.endLine == pos.line)=true:=by rfl) (htrees:backTo pos (starEach [b] X.env)=[(false,eval b X.env)]:=by rfl):aL T E X (.Call (.Attribute a "get" apos) [b] [] pos) (nS sa sb):=by
 refine cw (E6 (Nl (Nx (by decide:1<=64) _) hu) ha hb ⟨hbase,hfew,hline,htrees⟩) λσ H Q q=>?_
 obtain ⟨ι,h,en,S,er,q⟩:=q
 refine ⟨ι,h,en,S,er,q.bind λx h1 ι1 H1 u g1 S1 r1 q1=>?_⟩
 split at q1
 ·rename_i n
  split at q1
  ·rename_i t0 kvs0 hn0
   cases r1 with
   | @ref _ ad hr =>
    refine ⟨ad,rfl,isD_of S1 hn0 hr,ι1,h1,en,S1,er.mono g1,q1.bind λy h2 ι2 H2 v g2 S2 r2 q2=>?_⟩
    unfold fy at q2
    split at q2
    ·rename_i t kvs hn
     split at q2
     ·rename_i hk
      obtain ⟨o,dg,alt⟩:=qd S2 hn (g2.ext.at_ hr) r2 hk
      refine ⟨o,dg,?_⟩
      rcases alt with ⟨v1,rfl⟩ | ⟨v',u',v1,rfl,r4⟩
      ·rw [v1] at q2;exact q2.now S2 .non
      ·rw [v1] at q2;exact q2.now S2 r4
     ·exact q2.elim
    ·exact q2.elim
  ·exact q1.elim
 ·exact q1.elim
theorem uD {ι:Ix} {H:Hp}:∀ {l:List (AV×AV)} {m:List (aU×V)} {is:List Str},Paired (λ(p:AV×AV) (q:aU×V)=>p.1=kA q.1/\RV T ι H p.2 q.2) l m->l.map (·.1)=is.map AV.str->m.map (·.1)=is.map Sum.inr
 | _,_,[],.nil,_=>rfl
 | _,_,_::_,.nil,e=>by simp at e
 | _,_,[],.cons _ _,e=>by simp at e
 | _,_,i::is,.cons (a:=p) (b:=q) hh t,e=>by
  rw [NG,NG] at e ⊢;injection e with e1 e2
  rw [uD t e2];have e3:kA q.1 = .str i:=by rw [<- hh.1];exact e1
  obtain ⟨k,v⟩:=q
  cases k with
  | inr j=>injection e3 with e3;subst e3;rfl
  | inl x=>cases e3
theorem uE {ι:Ix} {H:Hp}:∀ (ns:List Str),(∀ x∈ns,x.length<=sizeLine/\x.cps.all (· < 0x110000)=true)->RVs T ι H (ns.map AV.str) (ns.map V.str)
 | [],_=>.nil
 | n::ns,h=>.cons (.str (h n (NX ..)).1 (h n (NX ..)).2) (uE ns λx hx=>h x (NI _ hx))
theorem HN (hc:X.calm=true:=by rfl):∃ r,CallR X (.builtin "sorted") r/\hW T kW r:=by
 refine ⟨_,HL hc,λι h H xs us E Q S r q=>?_⟩
 unfold kW at q
 split at q
 ·split at q
  ·rename_i ns hn
   split at q
   case isFalse=>exact q.elim
   rename_i hz
   unfold mh at hn
   split at hn
   ·rename_i n
    split at hn
    ·rename_i kvs hk
     cases r with
     | cons r r' =>
      cases r'
      cases r with
      | @ref _ ad hr =>
       obtain ⟨ob,e1,kus,rfl,pr⟩:=S.obj n _ ad hk hr
       refine ⟨ad,kus,ns,rfl,e1,uD pr (uC hn),hz.1,λp ns' hp pm so=>?_⟩
       have:ns'=eI ns:=qj (pm.trans (gO ns).symm) (zM _ so) (nR ns)
       subst this;exact q ι _ _ (S.growNew hp) (S.new hp) (.fl (S.fresh hp) (.of dM) (uE _ λx hx=>⟨M6 (hz.2 x ((gO ns).mem_iff.mp hx)).1 (by decide),(hz.2 x ((gO ns).mem_iff.mp hx)).2⟩))
    ·cases hn
   ·cases hn
  ·exact q.elim
 ·exact q.elim
theorem HP:∃ r,iL X "list.clear" r/\l9 T mq r:=by
 refine ⟨_,EB,λι h H x xs u us E Q S rx rs q=>?_⟩
 unfold mq at q
 split at q
 ·rename_i n
  split at q
  ·rename_i ys hn
   cases rx with
   | @ref _ ad hr =>
    cases rs
    obtain ⟨o,e1,ws,rfl,rw_⟩:=S.obj n _ ad hn hr
    exact ⟨ad,ws,rfl,rfl,e1,q ι _ _ (S.growSet (u:=.lst []) hr) (S.set hr ⟨_,rfl,.nil⟩) .non⟩
  ·exact q.elim
 ·exact q.elim
end
end Sm
namespace L2
open PySem PySem.Spec PyProof.Rows
theorem HQ {X:Cx}:CallR X (.type "dict") (λxs H Q=>∃ (a:Addr) (kvs:List (aU×V)),xs=[.ref a]/\H a=some (.dK kvs)/\∀ (p:Addr),H p=none->Q (.ref p) (upd H p (.dK kvs))):=by
 intro pins s σ H xs us Q I rv h
 obtain ⟨a,kvs,rfl,ha,q⟩:=h
 obtain ⟨u,rfl,ru⟩:=Vals.one rv
 obtain rfl:u=Value.ref a:=ru
 obtain ⟨z,hd,vs,rel,dd⟩:=dk_of I.hok ha
 have lv:vs.length=kvs.length:=(Paired.length rel).symm
 refine PySem.kt_call_dict hd dd (by rw [lv];exact z) λh' d' sb=>?_
 have ks:∀ b o,s.heap.get? b=some o->h'.get? b=some o:=λb o hb=>(sb.2 b (λe=>absurd (Ng hb) (by rw [e];exact Ot _))).trans (M7 _ hb)
 have hs:(s.heap.objs.size == sysModules)=false:=beq_eq_false_iff_ne.mpr (Ne.symm (NH I.big))
 exact ⟨.ref s.heap.objs.size,_,I.laid (a:=s.heap.objs.size) (t' := s.toks) (o:=.dK kvs) ks (MZ _) ⟨z,hs,vs,rel,d'⟩,rfl,q _ (I.hok.fresh (MZ _))⟩
end L2
namespace Sm
open PySem PySem.Spec L2 PyProof.Rows
theorem zN:bootBuiltins "dict" = some (.type "dict"):=by decide +kernel
def jY:Fn:=λargs h=>match args with
 | [.ref n]=>(match h[n]? with
  | some (.dct false kvs)=>.ok (.ref h.length) (h++[.dct false kvs])
  | _=>.bad)
 | _=>.bad
theorem zO {T:Tb} {X:Cx}:∃ r,CallR X (.type "dict") r/\hW T jY r:=by
 refine ⟨_,HQ,λι h H xs us E Q S r q=>?_⟩
 unfold jY at q
 split at q
 ·rename_i n
  split at q
  ·rename_i kvs hn
   cases r with
   | cons r r' =>
    cases r'
    cases r with
    | @ref _ ad hr =>
     obtain ⟨ob,e1,kus,rfl,pr⟩:=S.obj n _ ad hn hr
     exact ⟨ad,kus,rfl,e1,λp hp=>q _ _ _ (S.growAdd hp) (S.add hp ⟨_,rfl,Paired.mapP pr λ_ _ ⟨a,b⟩=>⟨a,b.mono (S.growAdd hp)⟩⟩) (.ref S.addAt)⟩
  ·exact q.elim
 ·exact q.elim
end Sm
namespace L2
open PySem PySem.Spec PyProof.Rows
section
variable {P:Program} {w:World} {A:Around} {E:Value->Shared->Prop} {s:Shared}
theorem HR (d:Addr) (hd:(d == sysModules)=false) {Q:Value->Shared->Prop} (ty:s.TypeIs (.ref d) "dict")
  (q:Q (.ref s.heap.objs.size) { s with heap:=s.heap.push { cls:=.type "dict_keys",data:=.fields #[.ref d] } }):wpAny (model P w) A (call (.builtin "dict.keys") [.ref d]) Q E s:=by
 refine Os F.slot_dict_keys ty F.entry_dict_keys (M4 ?_) (F.args_dict_keys_1 _)
 unfold Builtin.Dict.noArgs
 refine M4 (PB ty (show wpAny _ _ (pure d) _ _ s from Nd (show wpAny _ _ (Builtin.Dict.showsAll d >>= _) _ _ s from ?_)))
 unfold Builtin.Dict.showsAll
 rw [M9 (by rw [hd];exact Nv)]
 exact M4 (Nd (M4 (Ow (Nd ⟨_,rfl,q⟩))))
end
def qk (p a:Addr):HO:=.ext λh=>PySem.W.KdlKeysView h p a
theorem HS {X:Cx}:iL X "dict.keys" (λx xs H Q=>∃ a kvs,x = .ref a/\xs=[]/\H a=some (.dK kvs)/\∀ p,H p=none->Q (.ref p) (upd H p (qk p a))):=by
 intro pins s σ H x xs v us Q I rx r h
 obtain ⟨a,kvs,rfl,rfl,ha,q⟩:=h
 cases r
 cases rx
 obtain ⟨z,hd,vs,rel,dd⟩:=dk_of I.hok ha
 refine HR a hd dd.typeIs ⟨.ref s.heap.objs.size,_,I.laid (a:=s.heap.objs.size) (o:=qk s.heap.objs.size a) (t' := s.toks) (λ_ _ z=>M7 _ z) (MZ _) ⟨⟨_,Nn _ rfl,rfl,rfl⟩,⟨_,Nn _ rfl⟩,λh1 h2 st k=>st.imp λo e=>⟨k o e.1,e.2⟩⟩,rfl,q _ (I.hok.fresh (MZ _))⟩
theorem HU {X:Cx} (hc:X.calm=true):CallR X (.builtin "sorted") (λxs H Q=>∃ (v a:Addr) (kvs:List (aU×V)) (ns:List Str),xs=[.ref v]/\H v=some (qk v a)/\H a=some (.dK kvs)/\kvs.map (·.1)=ns.map Sum.inr/\ns.length<64/\∀ (p:Addr) (ns':List Str),H p=none->ns'.Perm ns->sortedS ns'=true->Q (.ref p) (upd H p (.lst (ns'.map V.str)))):=by
 intro pins s σ H xs us Q I rv h
 obtain ⟨v,a,kvs,ns,rfl,hv,ha,hn,h64,q⟩:=h
 obtain ⟨u,rfl,ru⟩:=Vals.one rv
 obtain rfl:u=Value.ref v:=ru
 obtain ⟨vw,_⟩:=I.hok v _ hv
 obtain ⟨z,hd,vs,rel,dd⟩:=dk_of I.hok ha
 obtain ⟨ep,da⟩:=dd.dictAt
 have lv:vs.length=kvs.length:=(Paired.length rel).symm
 refine P3 kind_sorted plain_sorted entry_sorted (args_sorted1 _) ?_
 unfold Builtin.«sorted»
 refine M4 (m:=checkCount "sorted" 1 1 _) (Nd (M4 (Re (PySem.W.kdl_keys (knd:=fF X.prog X.w) (kvs:=vs) (ep:=ep) (r:=v) (d:=a)) (I.ok.hd hc) ⟨vw,da⟩ (by rw [lv];exact z) λh' tk acc hk hacc=>?_)))
 have hl:acc.toList.length=vs.length:=by rw [OC];exact hacc.1
 have hI:StrsAre acc.toList ns:=uz rel hn hl λi v e=>hacc.2 i v (by rw [<- Py];exact e)
 have hz:acc.toList.length<=sizeLine:=by rw [hl,lv];exact z
 refine M4 (wpAny_newList ?_ hz)
 have hoL:(h'.push (seqObj "list" acc.toList.toArray 0)).get? h'.objs.size=some (seqObj "list" acc.toList.toArray 0):=Nn _ rfl
 refine M4 (Og (Os slot_list_sort ⟨_,hoL,rfl⟩ entry_list_sort (list_sort_treeK (s:={ s with heap:=h'.push (seqObj "list" acc.toList.toArray 0),toks:=tk }) strKind_oneLt hoL hI.keysOf (λv₁ v₂ rest e=>keyKind_strs (by rw [<- e];exact hI)) (by rw [StrsAre.len hI];exact h64) λst' hp hs=>⟨_,rfl,Nd ⟨_,rfl,?_⟩⟩) (args_list_sort _)))
 obtain ⟨ns',o1,o2,o3⟩:=sorted_out_str hI hp hs
 have I1:Inv X pins σ H { s with heap:=h',toks:=tk }:=I.kept (t' := tk) hk
 obtain ⟨e,he⟩:=sortedHeap_at (out:=(arrOf st').map (·.2)) hoL
 have l2:ns'.length=ns.length:=o2.length_eq
 have l3:ns.length=kvs.length:=by have:=congrArg List.length hn;simpa using this.symm
 refine ⟨.ref h'.objs.size,_,I1.laid (a:=h'.objs.size) (t' := tk) (o:=.lst (ns'.map V.str)) (λb o hb=>?_) (MZ _) ⟨?_,((arrOf st').map (·.2)).toList,e,uA o1,?_⟩,rfl,q _ ns' (I1.hok.fresh (MZ _)) o2 o3⟩
 ·have lt:b<h'.objs.size:=Ng hb
  rw [sortedHeap_old (NH lt) (by rw [size_push'];exact Pu lt)]
  exact M7 _ hb
 ·rw [Nc,l2,l3];exact z
 ·rw [he]
end L2
namespace Sm
open PySem PySem.Spec L2 PyProof.Rows
def ql (a:SE):SE:=λen h=>(a en h).bind λv h1=>kW [v] h1
section
variable {T:Tb} {E:L2.St->XK} {X:Cx} {p pos apos cpos:Pos} {a:Expr} {sa:SE}
theorem HW (hc:X.calm=true) (hg:Gl X "sorted") (hm:X.mg "sorted" = none) (hb:bootBuiltins "sorted" = some (.builtin "sorted")) (ha:aL T E X a sa) (hbase:attributeBase a "keys" X.env (eval a X.env)=eval a X.env:=by rfl) (hline:(apos.endLine == cpos.line)=true:=by rfl)
  (he:starEach [.Call (.Attribute a "keys" apos) [] [] cpos] X.env=[(false,eval (.Call (.Attribute a "keys" apos) [] [] cpos) X.env)]:=by rfl):aL T E X (.Call (.Name "sorted" p) [.Call (.Attribute a "keys" apos) [] [] cpos] [] pos) (ql sa):=by
 refine cw (sU (HU hc) hg hm hb (lT (yr OQ PySem.F.slot_dict_keys PySem.F.type_dict_keys HS ha hbase hline) pF he) (he:=he)) λσ H Q=>E6x λι h en S er q=>⟨ι,h,en,S,er,q.bind λx h1 ι1 H1 u g1 S1 r1 q1=>?_⟩
 unfold kW at q1
 dsimp only at q1
 cases hn:mh x h1 with
 | none=>rw [hn] at q1;exact q1.elim
 | some ns =>
  rw [hn] at q1;dsimp only at q1
  by_cases hz:ns.length<64/\∀ x∈ns,x.length<=1000/\x.cps.all (· < 0x110000)=true
  ·rw [M8 hz] at q1
   unfold mh at hn
   split at hn
   ·rename_i n
    split at hn
    ·rename_i kvs hk
     cases r1 with
     | @ref _ ad hr =>
      obtain ⟨ob,e1,kus,rfl,pr⟩:=S1.obj n _ ad hk hr
      refine ⟨.inr (.inr (.inl ⟨rfl,.inl ⟨_,e1⟩⟩)),ad,kus,rfl,rfl,e1,λp hp=>⟨p,ad,kus,ns,rfl,dM,by rw [bG (fG e1 hp)];exact e1,uD pr (uC hn),hz.1,λp2 ns' hp2 pm so=>?_⟩⟩
      have:ns'=eI ns:=qj (pm.trans (gO ns).symm) (zM _ so) (nR ns)
      subst this;have S2:=S1.new (o:=qk p ad) hp
      exact q1 ι1 _ _ ((S1.growNew hp).trans (S2.growNew hp2)) (S2.new hp2) (.fl (S2.fresh hp2) (.of dM) (uE _ λx hx=>⟨M6 (hz.2 x ((gO ns).mem_iff.mp hx)).1 (by decide),(hz.2 x ((gO ns).mem_iff.mp hx)).2⟩))
    ·cases hn
   ·cases hn
  ·rw [M9 hz] at q1;exact q1.elim
end
end Sm
namespace L2
open PySem PySem.Spec PyProof.Rows
def Ldd (X:Cx) (pins:List (Addr×Obj)) (σ:St) (H:Hp) (a:Addr) (cls:Value) (dx:Option Addr) (s:Shared) (h5:Heap):Prop :=
 Arr X pins σ H a cls dx s/\∃ B a0,gD X pins H s.heap B/\Heap.FlyingW B X.stack a cls a0 h5/\s.heap.UpToSlots h5/\∃ ob,h5.get? a=some ob/\ob.dict=dx
section
variable {X:Cx} {pins:List (Addr×Obj)} {σ:St} {H:Hp} {a:Addr} {cls:Value} {dx:Option Addr} {s:Shared} {h5 h6:Heap}
theorem Ldd.keeps (L:Ldd X pins σ H a cls dx s h5) (k:∀ b o,h5.get? b=some o->h6.get? b=some o):Ldd X pins σ H a cls dx s h6:=by
 obtain ⟨R,B,a0,fm,fl,sm,ob,e1,e2⟩:=L
 exact ⟨R,B,a0,fm,PySem.W.flying_keeps fl k,sm.trans (Heap.UpToSlots.of_keeps k),ob,k _ _ e1,e2⟩
theorem Ldd.inv (L:Ldd X pins σ H a cls dx s h5) (hex:X.ex=[]):Inv X pins σ H { s with heap:=h5 }:=by
 obtain ⟨R,B,a0,fm,fl,sm,_⟩:=L
 exact R.inv.flown (t' := s.toks) hex fm fl.1 sm
theorem Ldd.ty {M:Model} (L:Ldd X pins σ H a cls dx s h5):PySem.W.Looks M h5 (typeOf (.ref a)) cls:=by
 obtain ⟨R,B,a0,fm,fl,sm,_⟩:=L
 obtain ⟨oe,vs,hoe,hoec,_⟩:=fl.first
 exact hoec▸FW hoe
end
abbrev HG:=cU->St->Value->Option Addr->Hp->Prop
def qm (X:Cx) (hs:List ExceptHandler) (g:HG):Prop :=
 ∀ (pins:List (Addr×Obj)) (σ:St) (H:Hp) (a:Addr) (cls:Value) (dx:Option Addr) (s:Shared) (h5:Heap) (D:cU),Ldd X pins σ H a cls dx s h5->g D σ cls dx H ->
  wpAny (model X.prog X.w) X.A (handleBy (.ref a) X.env hs) (SP X pins D) X.xe { s with heap:=h5 }
section
variable {X:Cx} {C C1 C2:Addr} {x1 x2 xc n:Str} {i kk:Nat} {p1 p2 tp hpos np pos:Pos} {b0:Stmt} {suite body:List Stmt} {rest:List ExceptHandler} {th:TS} {g:HG} {outer:List Env}
theorem HX (hex:X.ex=[]) (hg:Gl X xc) (hm:X.mg xc=some (.ref C)) (hh:∀ a,fN (cJ X a) (b0::suite) th) (hdb:(xc == ("__debug__" : Str))=false:=by decide) :
  qm X [.ExceptHandler (some (.Name xc np)) none (b0::suite) hpos] (λD σ cls _ H=>PySem.W.exmOne X.K cls (.ref C)=some true/\th { nx:=D.nx,rt:=D.rt,bk:=D.bk,ct:=D.ct } σ H):=by
 intro pins σ H a cls dx s h5 D L ⟨hxm,q⟩
 have I5:=L.inv hex
 have okX:=I5.ok
 have ty:=L.ty (M:=model X.prog X.w)
 refine Rj (QR (kj (X:=cJ X a) (I5.hdl a) hg hm ?_ hdb)) (by intro z;cases z)
 refine (PySem.W.exm_one I5.kIn ty hxm).here ?_
 refine codeAny_handlers_suite ?_
 obtain ⟨R,B,a0,fm,fl,sm,_⟩:=L
 refine lands_againW fl λh6 fl6 sm6=>?_
 have I6:Inv X pins σ H { s with heap:=h6 }:=R.inv.flown (t' := s.toks) hex fm fl6.1 (sm.trans sm6)
 refine NP (hh a pins _ _ _ _ (I6.hdl a) q) (λf s9 q9=>?_) λ_ _ z=>z.elim
 cases f with
 | next=>obtain ⟨σ2,H2,I2,q2⟩:=q9;exact ⟨σ2,H2,I2.unhdl okX,q2⟩
 | brk=>obtain ⟨σ2,H2,I2,q2⟩:=q9;exact ⟨σ2,H2,I2.unhdl okX,q2⟩
 | cont=>obtain ⟨σ2,H2,I2,q2⟩:=q9;exact ⟨σ2,H2,I2.unhdl okX,q2⟩
 | ret u=>obtain ⟨v2,σ2,H2,I2,r2,q2⟩:=q9;exact ⟨v2,σ2,H2,I2.unhdl okX,r2,q2⟩
theorem zP (hex:X.ex=[]) (hN:X.N.Nodup) (hi:X.N[i]? = some n) (hl:X.env.scope.names.lookup n=some .local) (hg1:Gl X x1) (hm1:X.mg x1=some (.ref C1)) (hg2:Gl X x2) (hm2:X.mg x2=some (.ref C2)) (hh:∀ a,fN (cJ X a) (b0::suite) th) (hr:qm X rest g)
  (d1:(x1 == ("__debug__" : Str))=false:=by decide) (d2:(x2 == ("__debug__" : Str))=false:=by decide) :
  qm X (.ExceptHandler (some (.Tuple [.Name x1 p1,.Name x2 p2] kk tp)) (some n) (b0::suite) hpos::rest) (λD σ cls dx H =>
   (PySem.W.exmAny X.K cls [.ref C1,.ref C2]=some false/\g D σ cls dx H) \/
   (PySem.W.exmAny X.K cls [.ref C1,.ref C2]=some true/\∀ a,H a=none->th { nx:=λσ2 H2=>D.nx (σ2.set i none) H2,rt:=D.rt,bk:=λσ2 H2=>D.bk (σ2.set i none) H2,ct:=λσ2 H2=>D.ct (σ2.set i none) H2 } (σ.set i (some (.ref a))) (upd H a (ip a cls dx)))):=by
 intro pins σ H a cls dx s h5 D L q
 have I5:=L.inv hex
 have okX:=I5.ok
 have kp:∀ q o,h5.get? q=some o->(h5.push { cls:=.type "tuple",data:=.seq [.ref C1,.ref C2].toArray }).get? q=some o:=λ_ _ z=>M7 _ z
 have L6:=L.keeps kp
 have I6:=L6.inv hex
 have ty:=L6.ty (M:=model X.prog X.w)
 refine Rj (QR ?_) (by intro z;cases z)
 refine wpAny_Tuple ?_
 refine wpAny_items_cons (kj (X:=cJ X a) (I5.hdl a) hg1 hm1 ?_ d1)
 refine wpAny_items_cons (kj (X:=cJ X a) (I5.hdl a) hg2 hm2 ?_ d2)
 refine wpAny_items_nil ⟨by size_fits,?_⟩
 rcases q with ⟨hx,q⟩ | ⟨hx,q⟩
 ·exact (PySem.W.exm_tup2 I6.kIn ty (Nn h5 rfl) hx).here (hr pins σ H a cls dx s _ D L6 q)
 ·refine (PySem.W.exm_tup2 I6.kIn ty (Nn h5 rfl) hx).here ?_
  refine codeAny_handlers_suite_as ?_
  obtain ⟨R,B,a0,fm,fl,sm,dk⟩:=L6
  refine FV fl dk λh7 fl7 sm7 dk7=>?_
  have I7:Inv X pins σ H { s with heap:=h7 }:=R.inv.flown (t' := s.toks) hex fm fl7.1 (sm.trans sm7)
  obtain ⟨oe6,vs6,hoe6,hoec6,hoed6,_⟩:=fl7.first
  have I8:Inv X pins σ (upd H a (ip a cls dx)) { s with heap:=h7 }:=I7.adopt0 R.un R.new R.nl R.nc R.np
   ⟨⟨oe6,vs6,hoe6,hoec6,hoed6,by obtain ⟨ob,e1,e2⟩:=dk7;rw [show h7.get? a=some oe6 from hoe6] at e1;cases e1;exact e2⟩,⟨oe6,hoe6⟩,λg1 g2 ⟨ob,ws,z1,z2,z3⟩ k=>⟨ob,ws,k ob z1,z2,z3⟩⟩
  refine lP (X:=cJ X a) (I8.hdl a) hN hi (.inl hl) (v:=.ref a) rfl (λs8 I8=>?_) (.inr hl)
  refine NP (hh a pins s8 _ _ _ I8 (q a R.un)) (λf s9 q9=>?_) λ_ _ z=>z.elim
  cases f with
  | next=>obtain ⟨σ2,H2,I2,q2⟩:=q9;exact pQ (I2.unhdl okX) hN hi hl λs' I' => ⟨_,H2,I',q2⟩
  | brk=>obtain ⟨σ2,H2,I2,q2⟩:=q9;exact pQ (I2.unhdl okX) hN hi hl λs' I' => ⟨_,H2,I',q2⟩
  | cont=>obtain ⟨σ2,H2,I2,q2⟩:=q9;exact pQ (I2.unhdl okX) hN hi hl λs' I' => ⟨_,H2,I',q2⟩
  | ret u=>obtain ⟨v2,σ2,H2,I2,r2,q2⟩:=q9;exact pQ (I2.unhdl okX) hN hi hl λs' I' => ⟨v2,_,H2,I',r2,q2⟩
def HY (g:HG) (tb:(St->XK)->TS):TS:=λD σ H=>tb (λσ' cls dx H' => g D σ' cls dx H') D σ H
theorem HZ {h0:ExceptHandler} {hs:List ExceptHandler} {tb:(St->XK)->TS} (hex:X.ex=[]) (hst:X.stack=X.env::outer) (hf:X.env.frame=some X.env.locals) (hh:qm X (h0::hs) g)
  (hb:∀ pins xe Ex,kH (cT X.prog X.w) (tryC X pins xe) Ex->lU (tryC X pins xe) Ex->fN (tryC X pins xe) body (tb Ex)):PS X (.Try body (h0::hs) [] [] pos) (HY g tb):=by
 intro pins s σ H D I h
 have okX:=I.ok
 let Ex:St->XK:=λσ' cls dx H' => g D σ' cls dx H'
 let xe:Value->Shared->Prop:=λe s' => ∃ σ' H' a cls dx,e = .ref a/\Arr X pins σ' H' a cls dx s'/\Ex σ' cls dx H'
 have hR:lU (tryC X pins xe) Ex:=λpins' σ' H' s' a cls dx R q=>⟨σ',H',a,cls,dx,rfl,R.untry,q⟩
 have hP:kH (cT X.prog X.w) (tryC X pins xe) Ex:=λpins' σ' H' s1 e s2 I' hq=>by
  obtain ⟨a,cls,dx,H2,rfl,R,q⟩:=yK (X:=tryC X pins xe) I' hex hq
  exact ⟨σ',H2,a,cls,dx,rfl,R.untry,q⟩
 have hbody:=hb pins xe Ex hP hR [] s σ H D (I.toTry (xe:=xe)) h
 refine wpAny_Try_except (NP hbody (λf s1 q=>?_) λe s1 q=>?_)
 ·cases f with
  | next=>obtain ⟨σ1,H1,I1,q1⟩:=q;exact PK ⟨σ1,H1,I1.untry,q1⟩
  | brk=>obtain ⟨σ1,H1,I1,q1⟩:=q;exact ⟨σ1,H1,I1.untry,q1⟩
  | cont=>obtain ⟨σ1,H1,I1,q1⟩:=q;exact ⟨σ1,H1,I1.untry,q1⟩
  | ret u=>obtain ⟨v1,σ1,H1,I1,r1,q1⟩:=q;exact ⟨v1,σ1,H1,I1.untry,r1,q1⟩
 ·obtain ⟨σ1,H1,a,cls,dx,rfl,R,q1⟩:=q
  refine R.land hex okX.frames hst hf λh5 B a0 fm fl sm I5 dk=>?_
  exact hh pins σ1 H1 a cls dx s1 h5 D ⟨R,B,a0,fm,fl,sm,dk⟩ q1
end
end L2
namespace Sm
open PySem PySem.Spec L2 PyProof.Rows
def qo (i:Nat) (o:OutS):OutS:=match o with
 | .nx e2 h2=>.nx (e2.set i none) h2
 | .bk e2 h2=>.bk (e2.set i none) h2
 | .ct e2 h2=>.ct (e2.set i none) h2
 | .rt v h2=>.rt v h2
 | _=>.bad
def uF (o:OutS):OutS:=match o with
 | .ex _ _ _=>.bad
 | o=>o
def nT (i:Nat) (c1 c2 c3:Nat->Bool) (b d1 d2 d3:SS):SS:=λen h=>match b en h with
 | .ex c e h' => if c1 c=true then qo i (d1 (e.set i (some (.exc c))) h') else if c2 c=true then qo i (d2 (e.set i (some (.exc c))) h') else if c3 c=true then uF (d3 e h') else .bad
 | o=>o
def CU (T:Tb) (mg:Str->Option Value) (x:Str) (f:Nat->Bool):Prop:=∃ C,mg x=some (.ref C)/\∀ c C',T.exc c=some C'->PySem.W.exmOne T.K (.ref C') (.ref C)=some (f c)
def XF (K:PySem.W.Frag) (a b:Addr):Prop:=PySem.W.exmOne K (.ref a) (.ref b)=some false
theorem xf {K:PySem.W.Frag} {a b:Addr} (h:PySem.W.exmOne K (.ref a) (.ref b)=some false):XF K a b:=h
section
variable {T:Tb} {E:L2.St->XK} {X:Cx} {pos p1 p2 p3 p4 tp tp2 np hp1 hp2 hp3:Pos} {k1 k2:Nat}
theorem zQ {mg:Str->Option Value} {x1 x2:Str} {f1 f2:Nat->Bool} (u1:CU T mg x1 f1) (u2:CU T mg x2 f2):∃ C1 C2,mg x1=some (.ref C1)/\mg x2=some (.ref C2)/\∀ c C',T.exc c=some C'->PySem.W.exmAny T.K (.ref C') [.ref C1,.ref C2]=some (f1 c || f2 c):=by
 obtain ⟨C1,m1,e1⟩:=u1
 obtain ⟨C2,m2,e2⟩:=u2
 refine ⟨C1,C2,m1,m2,λc C' h=>?_⟩
 simp only [PySem.W.exmAny,e1 c C' h,e2 c C' h,Bool.or_false]
theorem Ia {x1 x2 x3 x4 x5 n:Str} {i:Nat} {body s1 s2 s3:List Stmt} {b1 b2 b3:Stmt} {sb d1 d2 d3:SS} {outer:List Env} {f1 f2 f3 f4 f5:Nat->Bool} (hK:X.K=T.K) (hN:X.N.Nodup)
  (hg1:Gl X x1) (hg2:Gl X x2) (hg3:Gl X x3) (hg4:Gl X x4) (hg5:Gl X x5) (u1:CU T X.mg x1 f1) (u2:CU T X.mg x2 f2) (u3:CU T X.mg x3 f3) (u4:CU T X.mg x4 f4) (u5:CU T X.mg x5 f5)
  (hb:∀ pins xe Ex,CA T Ex (tryC X pins xe)->lU (tryC X pins xe) Ex->cR T Ex (tryC X pins xe) body sb)
  (h1:∀ a,CA T EN (cJ X a)->cR T EN (cJ X a) (b1::s1) d1) (h2:∀ a,CA T EN (cJ X a)->cR T EN (cJ X a) (b2::s2) d2) (h3:∀ a,CA T EN (cJ X a)->cR T EN (cJ X a) (b3::s3) d3)
  (hex:X.ex=[]:=by rfl) (hst:X.stack=X.env::outer:=by rfl) (hf:X.env.frame=some X.env.locals:=by rfl) (hi:X.N[i]? = some n:=by rfl) (hl:X.env.scope.names.lookup n=some .local:=by rfl)
  (q1:(x1 == ("__debug__" : Str))=false:=by decide) (q2:(x2 == ("__debug__" : Str))=false:=by decide) (q3:(x3 == ("__debug__" : Str))=false:=by decide) (q4:(x4 == ("__debug__" : Str))=false:=by decide) (q5:(x5 == ("__debug__" : Str))=false:=by decide) :
  gr T E X (.Try body [.ExceptHandler (some (.Tuple [.Name x1 p1,.Name x2 p2] k1 tp)) (some n) (b1::s1) hp1,.ExceptHandler (some (.Tuple [.Name x3 p3,.Name x4 p4] k2 tp2)) (some n) (b2::s2) hp2,.ExceptHandler (some (.Name x5 np)) none (b3::s3) hp3] [] [] pos)
   (nT i (λc=>f1 c || f2 c) (λc=>f3 c || f4 c) f5 sb d1 d2 d3):=by
 obtain ⟨C1,C2,m1,m2,e12⟩:=zQ u1 u2
 obtain ⟨C3,C4,m3,m4,e34⟩:=zQ u3 u4
 obtain ⟨C5,m5,e5⟩:=u5
 refine g9 (HZ hex hst hf (zP hex hN hi hl hg1 m1 hg2 m2 (λa=>h1 a (CA.never hK)) (zP hex hN hi hl hg3 m3 hg4 m4 (λa=>h2 a (CA.never hK)) (HX hex hg5 m5 (λa=>h3 a (CA.never hK)) q5) q3 q4) q1 q2) (λpins xe Ex h1 h2=>hb pins xe Ex ⟨hK,h1⟩ h2)) λD σ H=>E6x λι h en S er q=>⟨ι,h,en,S,er,?_⟩
 unfold nT at q
 cases z1:sb en h with
 | nx e2 h2=>rw [z1] at q;exact q
 | rt v h2=>rw [z1] at q;exact q
 | bk e2 h2=>rw [z1] at q;exact q
 | ct e2 h2=>rw [z1] at q;exact q
 | bad=>rw [z1] at q;exact q
 | ex c e2 h2 =>
  rw [z1] at q;dsimp only at q
  intro ι' H' σ' C' g S' er' ec
  have w12:=e12 c C'.1 ec.1
  have w34:=e34 c C'.1 ec.1
  have w5:=e5 c C'.1 ec.1
  rw [<- hK] at w12 w34 w5;by_cases hc1:(f1 c || f2 c)=true
  ·rw [M8 hc1] at q
   rw [hc1] at w12;refine .inr ⟨w12,λa hn=>⟨ι',h2,e2.set i (some (.exc c)),S'.new hn,(er'.mono (S'.growNew hn)).set (.exc (S'.fresh hn) ⟨ec.1,ec.2.ext (S'.growNew hn).ext⟩ dM) i,?_⟩⟩
   have q2:=PostS.shift q (g.trans (S'.growNew (o:=ip a (.ref C'.1) C'.2) hn))
   unfold qo at q2
   cases z3:d1 (e2.set i (some (.exc c))) h2 with
   | nx e4 h4=>rw [z3] at q2;exact λι5 H5 σ5 g5 S5 er5=>q2 ι5 H5 _ g5 S5 (er5.unset i)
   | bk e4 h4=>rw [z3] at q2;exact λι5 H5 σ5 g5 S5 er5=>q2 ι5 H5 _ g5 S5 (er5.unset i)
   | ct e4 h4=>rw [z3] at q2;exact λι5 H5 σ5 g5 S5 er5=>q2 ι5 H5 _ g5 S5 (er5.unset i)
   | rt v h4=>rw [z3] at q2;exact q2
   | ex c' e4 h4=>rw [z3] at q2;exact (show False from q2).elim
   | bad=>rw [z3] at q2;exact q2
  ·rw [M9 hc1] at q
   rw [Rx.mpr hc1] at w12;refine .inl ⟨w12,?_⟩
   by_cases hc2:(f3 c || f4 c)=true
   ·rw [M8 hc2] at q
    rw [hc2] at w34;refine .inr ⟨w34,λa hn=>⟨ι',h2,e2.set i (some (.exc c)),S'.new hn,(er'.mono (S'.growNew hn)).set (.exc (S'.fresh hn) ⟨ec.1,ec.2.ext (S'.growNew hn).ext⟩ dM) i,?_⟩⟩
    have q2:=PostS.shift q (g.trans (S'.growNew (o:=ip a (.ref C'.1) C'.2) hn))
    unfold qo at q2
    cases z3:d2 (e2.set i (some (.exc c))) h2 with
    | nx e4 h4=>rw [z3] at q2;exact λι5 H5 σ5 g5 S5 er5=>q2 ι5 H5 _ g5 S5 (er5.unset i)
    | bk e4 h4=>rw [z3] at q2;exact λι5 H5 σ5 g5 S5 er5=>q2 ι5 H5 _ g5 S5 (er5.unset i)
    | ct e4 h4=>rw [z3] at q2;exact λι5 H5 σ5 g5 S5 er5=>q2 ι5 H5 _ g5 S5 (er5.unset i)
    | rt v h4=>rw [z3] at q2;exact q2
    | ex c' e4 h4=>rw [z3] at q2;exact (show False from q2).elim
    | bad=>rw [z3] at q2;exact q2
   ·rw [M9 hc2] at q
    rw [Rx.mpr hc2] at w34;refine .inl ⟨w34,?_⟩
    by_cases hc3:f5 c=true
    ·rw [M8 hc3] at q
     rw [hc3] at w5;refine ⟨w5,ι',h2,e2,S',er',?_⟩
     have q2:=PostS.shift q g
     unfold uF at q2
     cases z3:d3 e2 h2 with
     | nx e4 h4=>rw [z3] at q2;exact q2
     | bk e4 h4=>rw [z3] at q2;exact q2
     | ct e4 h4=>rw [z3] at q2;exact q2
     | rt v h4=>rw [z3] at q2;exact q2
     | ex c' e4 h4=>rw [z3] at q2;exact (show False from q2).elim
     | bad=>rw [z3] at q2;exact q2
    ·rw [M9 hc3] at q;exact (show False from q).elim
end
end Sm
namespace L2
open PySem PySem.Spec PyProof.Rows
theorem Ib (a b:Expr) (sp:Pos) (args:List Expr) (keywords:List Keyword) (pos:Pos) (env:Env):eval (.Call (.Subscript a b sp) args keywords pos) env=(do
  callWith pos (<- eval (.Subscript a b sp) env) [] (backTo pos (starEach args env)) (backToKw pos (keywordEach keywords env))):=rfl
end L2
namespace Sm
open PySem PySem.Spec L2 PyProof.Rows
def gP (F1 F2:Fn) (i:SE) (as:SL):SE:=λen h=>(i en h).bind λv h1=>match v with
 | .int 0=>aC F1 as en h1
 | .int 1=>aC F2 as en h1
 | _=>.bad
section
variable {T:Tb} {E:L2.St->XK} {X:Cx} {pos p1 p2 lp sp:Pos} {e b:Expr} {es:List Expr} {x1 x2:Str} {F1 F2:Fn} {k1 k2:Nat} {as:SL} {sb:SE}
theorem Ic (hK:X.K=T.K) (C:CA T E X) (G1:GF X.prog X.w T X.mg X.base k1 x1 F1) (G2:GF X.prog X.w T X.mg X.base k2 x2 F2) (hr1:Room k1 X.A) (hr2:Room k2 X.A) (hg1:Gl X x1) (hg2:Gl X x2) (hb:aL T E X b sb) (ha:fI T E X (e::es) as)
  (d1:(x1 == ("__debug__" : Str))=false:=by decide) (d2:(x2 == ("__debug__" : Str))=false:=by decide) (hs:sW b:=by exact λ_ _=>rfl)
  (he:starEach (e::es) X.env=(false,eval e X.env)::starEach es X.env:=by rfl) (hpl:(backTo pos (starEach es X.env)).any (·.1)=false:=by rfl)
  (s1:starEach [.Name x1 p1,.Name x2 p2] X.env=(false,eval (.Name x1 p1) X.env)::starEach [.Name x2 p2] X.env:=by rfl) (s2:starEach [.Name x2 p2] X.env=(false,eval (.Name x2 p2) X.env)::starEach [] X.env:=by rfl) :
  aL T E X (.Call (.Subscript (.List [.Name x1 p1,.Name x2 p2] lp) b sp) (e::es) [] pos) (gP F1 F2 sb as):=by
 obtain ⟨f1,fd1,ps1,a1,a2,a3,a4⟩:=G1.ex
 obtain ⟨f2,fd2,ps2,b1,b2,b3,b4⟩:=G2.ex
 intro pins s σ H Q I ⟨ι,h,en,S,er,q⟩
 rw [Ib];have one:∀ {F:Fn} {f:Addr} {fd:FuncData} {ps:List Str} {k:Nat},PySem.W.keepIn T.K (.ref f)=true->Binds T.K fd ps []->FnOk X.prog X.w T.K X.mg X.base (cT X.prog X.w) k f fd ps (iy T F)->Room k X.A ->
   ∀ (s1:Shared) (H1:Hp),Inv X pins σ H1 s1->tE T E (aC F as) σ H1 Q->wpAny (model X.prog X.w) X.A (callWith pos (.ref f) [] (backTo pos (starEach (e::es) X.env)) (backToKw pos (keywordEach [] X.env))) (EP X pins σ Q) X.xe s1:=by
  intro F f fd ps k c2 c3 c4 hr s1 H1 I1 q1
  obtain ⟨ι,h,en,S,er,q1⟩:=q1
  refine PY (h₀:=X.base) I1.ok.mod.kin (hK▸c2) (thn (ha pos pins s1 σ H1 (λvs H2=>iy T F (vs++[]) H2 Q (E σ)) I1 ⟨ι,h,en,S,er,q1.bind λxs h1 ι1 H1 us g1 S1 r1 q1=>?_⟩) λus s2 ⟨vs,H2,I2,r,q⟩=>⟨I2.kIn,?_⟩) he hpl
  ·rw [Pf]
   exact ⟨ι1,h1,xs,S1,r1,q1⟩
  ·exact pP (hK▸c4) hr (hK▸c3) .nil C.pass I2 r q
 refine M4 (thn (yo (X:=X) zgk (sS (lT (rY (v:=.ref f1) hg1 a1 rfl d1) (lT (rY (v:=.ref f2) hg2 b1 rfl d2) pF s2) s1)) hb hs pins s σ H (λv H1=>(v = .ref f1/\tE T E (aC F1 as) σ H1 Q)\/(v = .ref f2/\tE T E (aC F2 as) σ H1 Q)) I ?_) λu s1 ⟨v,H1,I1,rv,q1⟩=>?_)
 ·refine ⟨by show 2<=sizeLine;decide,λp hp=>⟨ι,h,en,S.new hp,er.mono (S.growNew hp),(q.shift (S.growNew hp)).bind λy h1 ι1 H1 u g1 S1 r1 q1=>?_⟩⟩
  have lp1:H1 p=some (.lst [.ref f1,.ref f2]):=g1.keep p _ (λz=>S.fresh hp (Nu _ z)) dM
  split at q1
  ·cases r1
   exact ⟨p,_,0,.ref f1,rfl,rfl,.inl (.inl lp1),rfl,.inl ⟨rfl,ι1,h1,en,S1,(er.mono (S.growNew hp)).mono g1,q1⟩⟩
  ·cases r1
   exact ⟨p,_,1,.ref f2,rfl,rfl,.inl (.inl lp1),rfl,.inr ⟨rfl,ι1,h1,en,S1,(er.mono (S.growNew hp)).mono g1,q1⟩⟩
  ·exact q1.elim
 ·rcases q1 with ⟨rfl,q1⟩ | ⟨rfl,q1⟩
  ·obtain rfl:u=Value.ref f1:=rv
   exact one a2 a3 a4 hr1 s1 H1 I1 q1
  ·obtain rfl:u=Value.ref f2:=rv
   exact one b2 b3 b4 hr2 s1 H1 I1 q1
end
def nU (kvs:List (AV×AV)) (k:AV):List (AV×AV):=kvs.filter λp=>decide (¬ p.1=k)
def iV (a b:SE):SE:=λen h=>(a en h).bind λx h1=>match x with
 | .ref n=>(match h1[n]? with
  | some (.dct false _)=>(b en h1).bind λy h2=>(match h2[n]? with
   | some (.dct false kvs)=>if d0 false y=true then (match bF kvs y with
    | some v=>.ok v (h2.set n (.dct false (nU kvs y)))
    | none=>.bad) else .bad
   | _=>.bad)
  | _=>.bad)
 | _=>.bad
section
variable {T:Tb} {E:L2.St->XK} {X:Cx} {pos apos:Pos} {a b:Expr} {sa sb:SE}
theorem zR {κ:Type} [DecidableEq κ] {ι:Ix} {H:Hp} {f:κ->AV} (hf:∀ {a b},f a=f b->a=b) {k:κ}:∀ {kvs:List (AV×AV)} {kus:List (κ×V)},Paired (λ(p:AV×AV) (q:κ×V)=>p.1=f q.1/\RV T ι H p.2 q.2) kvs kus ->
  Paired (λ(p:AV×AV) (q:κ×V)=>p.1=f q.1/\RV T ι H p.2 q.2) (nU kvs (f k)) (jc kus k)
 | _,_,.nil=>.nil
 | (a,v)::kvs,(j,u)::kus,.cons ⟨e,r⟩ rs=>by
  have ih:=zR hf (k:=k) rs
  unfold nU jc at ih ⊢
  rw [OH,OH];by_cases h:j=k
  ·have h':a=f k:=by rw [<- h];exact e
   rw [M9 (by simp [h']),M9 (by simp [h])]
   exact ih
  ·have h' : ¬ a=f k:=λz=>h (hf (e.symm.trans z))
   rw [M8 (by simp [h']),M8 (by simp [h])]
   exact .cons ⟨e,r⟩ ih
theorem zS (ha:aL T E X a sa) (hb:aL T E X b sb) (hbase:attributeBase a "pop" X.env (eval a X.env)=eval a X.env:=by rfl)
  (hfew:((backTo pos (starEach [b] X.env)).all (λx=>!x.1) && (backToKw pos (keywordEach [] X.env)).all (λx=>x.1.isSome) && decide (([b]:List Expr).length+([]:List Keyword).length+(if ([]:List Keyword).isEmpty then 0 else 1)<30))=true:=by rfl)
  (hline:(apos.endLine == pos.line)=true:=by rfl) (htrees:backTo pos (starEach [b] X.env)=[(false,eval b X.env)]:=by rfl):aL T E X (.Call (.Attribute a "pop" apos) [b] [] pos) (iV sa sb):=by
 refine cw (E8 ha hb ⟨hbase,hfew,hline,htrees⟩) λσ H Q q=>?_
 obtain ⟨ι,h,en,S,er,q⟩:=q
 refine ⟨ι,h,en,S,er,q.bind λx h1 ι1 H1 u g1 S1 r1 q1=>?_⟩
 split at q1
 ·rename_i n
  split at q1
  ·rename_i kvs0 hn0
   cases r1 with
   | @ref _ ad hr =>
    refine ⟨ad,rfl,isD_of S1 hn0 hr,ι1,h1,en,S1,er.mono g1,q1.bind λy h2 ι2 H2 v g2 S2 r2 q2=>?_⟩
    split at q2
    ·rename_i kvs hn
     by_cases hk:d0 false y=true
     ·rw [M8 hk] at q2
      have hr2:=g2.at hr
      obtain ⟨ob,e1,kus,rfl,r⟩:=S2.obj n _ ad hn hr2
      have hk':(keyOf? y).isSome=true:=hk
      obtain ⟨k,ek⟩:=Nr.mp hk'
      have:=qb ek
      subst this;rcases nK nJ r (k:=k) with ⟨w1,w2⟩ | ⟨v',u',w1,w2,w3⟩
      ·rw [w1] at q2;exact q2.elim
      ·rw [w1] at q2
       have g3:=S2.growSet (u:=.dK (jc kus k)) hr2
       exact ⟨kus,k,u',e1,qa r2,w2,q2 ι2 _ _ g3 (S2.set hr2 ⟨_,rfl,Paired.mapP (zR nJ r) λ_ _ ⟨p,q⟩=>⟨p,q.mono g3⟩⟩) (w3.mono g3)⟩
     ·rw [M9 hk] at q2;exact q2.elim
    ·exact q2.elim
  ·exact q1.elim
 ·exact q1.elim
end
end Sm
namespace L2
open PySem PySem.Spec PyProof.Rows PySem.SeqAt PySem.AutoSeq1 PySem.MeetsSeq PySem.MeetsSeq2 PySem.MeetsSeq3 PySem.SeqRoads2
section
variable {A:Around} {s:Shared} {d l:Addr} {es:Array DictEntry} {n:Nat} {dd:Option Addr} {sl:Array (Option Value)}
theorem zT {prog:Program} {w:World} {E Q:Value->Shared->Prop} {b:Value} {T:String} (ty:s.TypeIs (.ref d) "dict") (tb:s.TypeIs b T) (sub:isSubtype (.type T) (.type "dict")=pure false) (h:Q .notImplemented s):wpAny (model prog w) A (call (.builtin "dict.__eq__") [.ref d,b]) Q E s:=by
 refine Os QW ty PySem.F.entry_dict_eq ?_ (PySem.F.args_dict_eq_2 _ _)
 show wpAny _ _ (Builtin.Dict.dictSlotArgs "__eq__" ⟨[.ref d,b],[]⟩ >>= _) _ _ s
 refine M4 ?_
 unfold Builtin.Dict.dictSlotArgs
 refine M4 (PB ty ?_)
 show wpAny _ _ (pure (Value.ref d,b)) _ _ s
 refine Nd ?_
 refine M4 (wpAny_isInstance (T:=T) tb sub ?_)
 simp only [Bool.not_false,O3]
 refine M4 (Rq (M4 (Nd (Nd ?_))))
 exact ⟨_,rfl,h⟩
theorem Ie (b:Str) (u:Tok):Meets (Builtin.«str.__eq__» ⟨[.str b u,.ref d],[]⟩) (λ_ R s=>s.heap.get? d=some { cls:=.type "dict",dict:=dd,data:=.dict es n,slots:=sl }/\R (.ok (.ret .notImplemented)) s) :=
 .of_wp λprog w A R s h=>by obtain ⟨hp,g,dr,tk,os⟩:=s;obtain ⟨hl,h⟩:=h;wp_walk using OB hl,Pm hl;exact ⟨_,rfl,h⟩
theorem Ig (b:Int) (u:Tok):Meets (Builtin.«int.__eq__» ⟨[.int b u,.ref d],[]⟩) (λ_ R s=>s.heap.get? d=some { cls:=.type "dict",dict:=dd,data:=.dict es n,slots:=sl }/\R (.ok (.ret .notImplemented)) s) :=
 .of_wp λprog w A R s h=>by obtain ⟨hp,g,dr,tk,os⟩:=s;obtain ⟨hl,h⟩:=h;wp_walk using OB hl,Pm hl;exact ⟨_,rfl,h⟩
theorem Ih (b:Bool):Meets (Builtin.«int.__eq__» ⟨[.bool b,.ref d],[]⟩) (λ_ R s=>s.heap.get? d=some { cls:=.type "dict",dict:=dd,data:=.dict es n,slots:=sl }/\R (.ok (.ret .notImplemented)) s) :=
 .of_wp λprog w A R s h=>by obtain ⟨hp,g,dr,tk,os⟩:=s;obtain ⟨hl,h⟩:=h;wp_walk using OB hl,Pm hl;exact ⟨_,rfl,h⟩
theorem Ii (items:Array Value) (n2:Nat) (dd2:Option Addr) (sl2:Array (Option Value)):Meets (Builtin.«list.__eq__» ⟨[.ref l,.ref d],[]⟩) (λ_ R s=>s.heap.get? l=some { cls:=.type "list",dict:=dd2,data:=.seq items n2,slots:=sl2 }/\s.heap.get? d=some { cls:=.type "dict",dict:=dd,data:=.dict es n,slots:=sl }/\R (.ok (.ret .notImplemented)) s) :=
 .of_wp λprog w A R s h=>by obtain ⟨hp,g,dr,tk,os⟩:=s;obtain ⟨hl,hd,h⟩:=h;have f1:=PySem.F.sub_dict_list;wp_walk using OB hl,OB hd;exact ⟨_,rfl,h⟩
theorem Ij (items:Array Value) (n2:Nat) (dd2:Option Addr) (sl2:Array (Option Value)):Meets (Builtin.«tuple.__eq__» ⟨[.ref l,.ref d],[]⟩) (λ_ R s=>s.heap.get? l=some { cls:=.type "tuple",dict:=dd2,data:=.seq items n2,slots:=sl2 }/\s.heap.get? d=some { cls:=.type "dict",dict:=dd,data:=.dict es n,slots:=sl }/\R (.ok (.ret .notImplemented)) s) :=
 .of_wp λprog w A R s h=>by obtain ⟨hp,g,dr,tk,os⟩:=s;obtain ⟨hl,hd,h⟩:=h;have f1:isSubtype (.type "dict") (.type "tuple")=pure false:=(by rw [Q8];kernel_rfl);wp_walk using OB hl,OB hd;exact ⟨_,rfl,h⟩
end
section
variable {A:Around} {s:Shared} {d l:Addr} {es:Array DictEntry} {n:Nat} {dd:Option Addr} {sl:Array (Option Value)} {b:Value} {T idT:String}
theorem mr (hd:s.heap.get? d=some { cls:=.type "dict",dict:=dd,data:=.dict es n,slots:=sl }) (tb:s.TypeIs b T) (ne1:(Value.type T != Value.type "dict")=true) (ne2:(Value.type "dict" != Value.type T)=true)
  (sub1:isSubtype (.type T) (.type "dict")=pure false) (sub2:isSubtype (.type "dict") (.type T)=pure false) (h1:Slot T (cmpInfo .Eq).2.1 idT) (h2:Slot T (cmpInfo .Eq).2.2 idT)
  (hc:∀ (prog:Program) (w:World) (E:Value->Shared->Prop) (Q':Value->Shared->Prop),Q' .notImplemented s->wpAny (model prog w) A (call (.builtin idT) [b,.ref d]) Q' E s)
  (Aw:∀ (prog:Program) (w:World) (E:Value->Shared->Prop) (Q':Bool->Shared->Prop),Q' false s->wpAny (model prog w) A (isSame b (.ref d)) Q' E s) (hs2:∀ (prog:Program) (w:World) (E:Value->Shared->Prop) (Q':Bool->Shared->Prop),Q' false s->wpAny (model prog w) A (isSame (.ref d) b) Q' E s)
  (hu:A.units<cLine):RcAt A s b (.ref d) false/\RcAt A s (.ref d) b false:=by
 have ty:s.TypeIs (.ref d) "dict" := ⟨_,hd,rfl⟩
 exact ⟨λprog w E Q h=>rc_eq_decline_or (k:=false) tb ty ne1 sub2 h1 PySem.F.slot_dict_eq_refl (hc prog w E) (λ_ hq=>zT ty tb sub1 hq) (Aw prog w E) (.inr hu) h,
  λprog w E Q h=>rc_eq_decline_or (k:=false) ty tb ne2 sub1 QW h2 (λ_ hq=>zT ty tb sub1 hq) (hc prog w E) (hs2 prog w E) (.inr hu) h⟩
theorem mw (T:String) (h:isSubtype (.type T) (.type "dict")=pure false:=by rw [Q8];kernel_rfl):isSubtype (.type T) (.type "dict")=pure false:=h
theorem mz (T:String) (h:isSubtype (.type "dict") (.type T)=pure false:=by rw [Q8];kernel_rfl):isSubtype (.type "dict") (.type T)=pure false:=h
theorem qp {prog:Program} {w:World} {E:Value->Shared->Prop} {a c:Addr} {c2:Option Addr} {vs:Array Value} {k:Nat} {c4:Array (Option Value)} (h1:s.heap.get? a=some { cls:=.type T,dict:=c2,data:=.seq vs k,slots:=c4 }) (hd:s.heap.get? c=some { cls:=.type "dict",dict:=dd,data:=.dict es n,slots:=sl }) (h:a≠c) {Q':Bool->Shared->Prop} (q:Q' false s) :
  wpAny (model prog w) A (isSame (.ref a) (.ref c)) Q' E s/\wpAny (model prog w) A (isSame (.ref c) (.ref a)) Q' E s:=by
 have b1:(a == c)=false:=beq_eq_false_iff_ne.mpr h
 have b2:(c == a)=false:=beq_eq_false_iff_ne.mpr (Ne.symm h)
 constructor
 ·unfold isSame
  dsimp only;rw [M9 (by rw [b1];exact Nv)]
  refine M4 (Pm h1 (M4 (Pm hd ?_)))
  dsimp only;split<;>first | exact Nd q | exact absurd ‹Value.type "dict" = Value.type "tuple"› (by simp)
 ·unfold isSame
  dsimp only;rw [M9 (by rw [b2];exact Nv)]
  refine M4 (Pm hd (M4 (Pm h1 ?_)))
  dsimp only;exact Nd q
theorem zU (hd:s.heap.get? d=some { cls:=.type "dict",dict:=dd,data:=.dict es n,slots:=sl }) (hu:A.units<cLine):∀ {v:Value} {e:PyData} {as:List Addr},Reads s.heap v e as->e.canLay0=true->EqAt A s v (.ref d) false/\EqAt A s (.ref d) v false
 | _,_,_,.none,_=>by
  obtain ⟨r1,r2⟩:=mr hd (T := "NoneType") (b:=.none) rfl (by decide) (by decide) (mw _) (mz _) Qd PySem.F.slot_NoneType_eq_refl (λprog w E Q' hq=>call_gives Qd rfl PySem.F.entry_NoneType_eq (PySem.F.args_NoneType_eq_2 _ _) (NoneType___eq___none_ref_0 d) hq)
   (λprog w E Q' hq=>O6 (rfl:isSame .none (.ref d)=pure false) hq) (λprog w E Q' hq=>O6 (rfl:isSame (.ref d) .none=pure false) hq) hu
  constructor
  all_goals
   intro prog w E Q h
   unfold eqBool
   refine Og ?_
   refine PL (λhab=>absurd (Qq hab) nofun) (λ_=>?_)
   first | exact M4 (r1 prog w E _ (Nt h)) | exact M4 (r2 prog w E _ (Nt h))
 | _,_,_,.bool k,_=>by
  obtain ⟨r1,r2⟩:=mr hd (T := "bool") (b:=.bool k) rfl (by decide) (by decide) (mw _) (mz _) QX PySem.F.slot_bool_eq_refl (λprog w E Q' hq=>Po QX rfl QY (QM _ _) (Ih k) ⟨hd,hq⟩)
   (λprog w E Q' hq=>O6 (rfl:isSame (.bool k) (.ref d)=pure false) hq) (λprog w E Q' hq=>O6 (rfl:isSame (.ref d) (.bool k)=pure false) hq) hu
  constructor
  all_goals
   intro prog w E Q h
   unfold eqBool
   refine Og ?_
   refine PL (λhab=>absurd (Qq hab) nofun) (λ_=>?_)
   first | exact M4 (r1 prog w E _ (Nt h)) | exact M4 (r2 prog w E _ (Nt h))
 | _,_,_,.int i t,_=>by
  obtain ⟨r1,r2⟩:=mr hd (T := "int") (b:=.int i t) (RK s i t) (by decide) (by decide) (mw _) (mz _) Rf PySem.F.slot_int_eq_refl (λprog w E Q' hq=>Po Rf (RK s i t) QY (QM _ _) (Ig i t) ⟨hd,hq⟩)
   (λprog w E Q' hq=>O6 (rfl:isSame (.int i t) (.ref d)=pure false) hq) (λprog w E Q' hq=>O6 (rfl:isSame (.ref d) (.int i t)=pure false) hq) hu
  constructor
  all_goals
   intro prog w E Q h
   unfold eqBool
   refine Og ?_
   refine PL (λhab=>absurd (Qq hab) nofun) (λ_=>?_)
   first | exact M4 (r1 prog w E _ (Nt h)) | exact M4 (r2 prog w E _ (Nt h))
 | _,_,_,.str x t,_=>by
  obtain ⟨r1,r2⟩:=mr hd (T := "str") (b:=.str x t) (P0 s x t) (by decide) (by decide) (mw _) (mz _) Rg PySem.F.slot_str_eq_refl (λprog w E Q' hq=>Po Rg (P0 s x t) PySem.F.entry_str_eq (PySem.F.args_str_eq_2 _ _) (Ie x t) ⟨hd,hq⟩)
   (λprog w E Q' hq=>O6 (rfl:isSame (.str x t) (.ref d)=pure false) hq) (λprog w E Q' hq=>O6 (rfl:isSame (.ref d) (.str x t)=pure false) hq) hu
  constructor
  all_goals
   intro prog w E Q h
   unfold eqBool
   refine Og ?_
   refine PL (λhab=>absurd (Qq hab) nofun) (λ_=>?_)
   first | exact M4 (r1 prog w E _ (Nt h)) | exact M4 (r2 prog w E _ (Nt h))
 | _,_,_,.list (a:=a) (o:=o) h1 h2 h3 h4,_=>by
  obtain ⟨c1,c2,c3,c4⟩:=o
  simp only at h2 h3
  subst h2 h3
  have ne:a≠d:=λz=>by rw [z,hd] at h1;exact absurd (congrArg Obj.cls (NJ h1)) (by simp)
  obtain ⟨r1,r2⟩:=mr hd (T := "list") (b:=.ref a) ⟨_,h1,rfl⟩ (by decide) (by decide) (mw _) (mz _) QZ PySem.F.slot_list_eq_refl (λprog w E Q' hq=>Po QZ ⟨_,h1,rfl⟩ PySem.F.entry_list_eq (PySem.F.args_list_eq_2 _ _) (Ii _ _ _ _) ⟨h1,hd,hq⟩)
   (λprog w E Q' hq=>(qp h1 hd ne hq).1) (λprog w E Q' hq=>(qp h1 hd ne hq).2) hu
  exact ⟨.of_refs ne r1,.of_refs (Ne.symm ne) r2⟩
 | _,_,_,.tuple (a:=a) (o:=o) h1 h2 h3 h4,_=>by
  obtain ⟨c1,c2,c3,c4⟩:=o
  simp only at h2 h3
  subst h2 h3
  have ne:a≠d:=λz=>by rw [z,hd] at h1;exact absurd (congrArg Obj.cls (NJ h1)) (by simp)
  obtain ⟨r1,r2⟩:=mr hd (T := "tuple") (b:=.ref a) ⟨_,h1,rfl⟩ (by decide) (by decide) (mw _) (mz _) QN PySem.F.slot_tuple_eq_refl (λprog w E Q' hq=>Po QN ⟨_,h1,rfl⟩ PySem.F.entry_tuple_eq (PySem.F.args_tuple_eq_2 _ _) (Ij _ _ _ _) ⟨h1,hd,hq⟩)
   (λprog w E Q' hq=>(qp h1 hd ne hq).1) (λprog w E Q' hq=>(qp h1 hd ne hq).2) hu
  exact ⟨.of_refs ne r1,.of_refs (Ne.symm ne) r2⟩
 | _,_,_,.dict _ _ _ _ _,c=>by cases c
end
end L2
namespace L2
open PySem PySem.Spec PyProof.Rows
abbrev Od:=PyData ⊕ Addr
def jx:Od->Od->Bool
 | .inl e,.inl d=>PyData.eqv e d
 | .inr a,.inr b=>decide (a=b)
 | _,_=>false
inductive jZ (K:PySem.W.Frag) (H:Hp):V->Od->Prop
 | dat {x:V} {d:PyData} (h:DaV K H x d) (c:d.canLay0=true) (m:d.depth<=30):jZ K H x (.inl d)
 | dic {a:Addr} {kvs:List (aU×V)} (h:H a=some (.dK kvs)):jZ K H (.ref a) (.inr a)
inductive gQ (K:PySem.W.Frag) (H:Hp):List V->List Od->Prop
 | nil:gQ K H [] []
 | cons {x:V} {xs:List V} {d:Od} {ds:List Od} (h:jZ K H x d) (t:gQ K H xs ds):gQ K H (x::xs) (d::ds)
open Classical in
def iW (h:Heap) (t:Od) (v:Value):Bool:=if q:∃ e as,e.canLay0=true/\Reads h v e as then jx (.inl q.choose) t else match t with
 | .inl _=>false
 | .inr a=>decide (v = .ref a)
theorem Ik {h:Heap} {t:Od} {e:PyData} {v:Value} {as:List Addr} (c:e.canLay0=true) (r:Reads h v e as):iW h t v=jx (.inl e) t:=by
 have q:∃ e as,e.canLay0=true/\Reads h v e as:=⟨e,as,c,r⟩
 unfold iW
 rw [dif_pos q];obtain ⟨as',c',r'⟩:=q.choose_spec
 have z:q.choose=e:=by first | exact (Reads.unique _ _ r' r).1 | exact (Reads.unique r' r).1 | exact Reads.unique _ _ _ _ _ c' r' r | exact Qc _ _ _ _ _ c' r' r | exact Rl _ _ _ _ _ c' r' r
 rw [z]
theorem Il {h:Heap} {t:Od} {a:Addr} {o:Obj} {es:Array DictEntry} {n:Nat} (e:h.get? a=some o) (hd:o.data = .dict es n):iW h t (.ref a)=jx (.inr a) t:=by
 unfold iW
 rw [dif_neg]
 ·cases t with
  | inl d=>rfl
  | inr b =>
   show decide (Value.ref a=Value.ref b)=decide (a=b)
   exact decide_eq_decide.mpr ⟨λh=>by injection h,λh=>by rw [h]⟩
 ·rintro ⟨d,as,c,r⟩
  cases r with
  | list h1 h2 h3=>rw [e] at h1;cases h1;rw [hd] at h3;cases h3
  | tuple h1 h2 h3=>rw [e] at h1;cases h1;rw [hd] at h3;cases h3
  | dict=>cases c
section
variable {X:Cx} {pins:List (Addr×Obj)} {σ:St} {H:Hp} {s:Shared}
theorem zV (I:Inv X pins σ H s) {a:Addr} {kvs:List (aU×V)} (e:H a=some (.dK kvs)):∃ dd sl es n,s.heap.get? a=some { cls:=.type "dict",dict:=dd,data:=.dict es n,slots:=sl }:=by
 obtain ⟨_,_,vs,_,o,es,ep,h1,h2,h3,_⟩:=dk_of I.hok e
 obtain ⟨c1,c2,c3,c4⟩:=o
 obtain ⟨z1,_⟩:=h2
 simp only at z1 h3
 subst z1 h3
 exact ⟨c2,c4,es,ep,h1⟩
theorem Im (I:Inv X pins σ H s) (hu:X.A.units+64<cLine) {x y:V} {u v:Value} {e t:Od} (hx:jZ X.K H x e) (hy:jZ X.K H y t) (rx:RelV x u) (ry:RelV y v) (one:∀ a b,e = .inr a->t = .inr b->a=b):iW s.heap t u=jx e t/\SeqAt.EqAt X.A.in1 s u v (iW s.heap t u):=by
 have hu1:X.A.in1.units<cLine:=by show X.A.units+1<cLine;lia
 cases hx with
 | dat h c m =>
  obtain ⟨as,ra⟩:=h.reads I rx
  rw [Ik c ra];refine ⟨rfl,?_⟩
  cases hy with
  | dat h2 c2 m2 =>
   obtain ⟨bs,rb⟩:=h2.reads I ry
   exact SeqAt.eqAt_reads _ _ _ _ _ _ _ _ ra rb c c2 (by
    rename_i d1 d2
    have:=Pg d1.depth d2.depth
    show X.A.units+1+_<cLine
    lia)
  | dic h2 =>
   cases ry
   obtain ⟨dd,sl,es,n,hd⟩:=zV I h2
   exact (zU hd hu1 ra c).1
 | dic h =>
  cases rx
  obtain ⟨dd,sl,es,n,hd⟩:=zV I h
  rw [Il hd rfl];refine ⟨rfl,?_⟩
  cases hy with
  | dat h2 c2 m2 =>
   obtain ⟨bs,rb⟩:=h2.reads I ry
   exact (zU hd hu1 rb c2).2
  | dic h2 =>
   cases ry
   have z:=one _ _ rfl rfl
   subst z;rw [show jx (.inr _) (.inr _)=true from NQ rfl];exact SeqAt.EqAt.same _
theorem zW (I:Inv X pins σ H s) (hu:X.A.units+64<cLine) {y:V} {v:Value} {t:Od} (hy:jZ X.K H y t) (ry:RelV y v):∀ {xs:List V} {ts:List Od} {us:List Value},gQ X.K H xs ts->Vals xs us->(∀ e∈ts,∀ a b,e = .inr a->t = .inr b->a=b) ->
  us.any (iW s.heap t)=ts.any (λe=>jx e t)/\∀ u∈us,SeqAt.EqAt X.A.in1 s u v (iW s.heap t u)
 | _,_,_,.nil,r,_=>by cases r;exact ⟨rfl,nofun⟩
 | _,_,_,.cons h hs,r,one=>by
  cases r with
  | cons r1 r2 =>
   obtain ⟨e1,e2⟩:=Im I hu h hy r1 ry (one _ (NX ..))
   obtain ⟨i1,i2⟩:=zW I hu hy ry hs r2 λe he=>one e (NI _ he)
   refine ⟨by rw [Ou,Ou,e1,i1],λu hu=>?_⟩
   rcases Np.mp hu with rfl | hu
   ·exact e2
   ·exact i2 u hu
theorem Io (hu:X.A.units+64<cLine):OpR X (compareOp .In) (λx y H Q=>∃ p xs ts t,y = .ref p/\SqL X.K H p xs/\jZ X.K H x t/\gQ X.K H xs ts/\(∀ e∈ts,∀ a b,e = .inr a->t = .inr b->a=b)/\Q (.bl (ts.any λe=>jx e t)) H):=by
 intro pins s σ H x y v u Q I rx ry h
 obtain ⟨p,xs,ts,t,rfl,hq,hd,hds,one,q⟩:=h
 cases ry
 obtain ⟨its,r,pl,hz⟩:=I.list hq
 obtain ⟨i1,i2⟩:=zW I hu hd rx hds r one
 refine SeqAt.in_listAt (iW s.heap t) pl.isList (λy hy=>i2 y (by simpa using hy)) ⟨.bl _,H,I,rfl,?_⟩
 rw [<- Qk];show Q (.bl (its.any (iW s.heap t))) H
 rw [i1];exact q
end
end L2
namespace Sm
open PySem PySem.Spec L2 PyProof.Rows
abbrev gw:=PyData ⊕ Nat
def gy (h:AH) (v:AV):Option gw:=match bK 8 h v with
 | some d=>some (.inl d)
 | none=>match v with
  | .ref n=>(match h[n]? with
   | some (.dct false _)=>some (.inr n)
   | _=>none)
  | _=>none
def fY (h:AH):List AV->Option (List gw)
 | []=>some []
 | v::r=>match gy h v,fY h r with
  | some d,some ds=>some (d::ds)
  | _,_=>none
def cB:gw->gw->Bool
 | .inl e,.inl d=>PyData.eqv e d
 | .inr a,.inr b=>decide (a=b)
 | _,_=>false
def jy (t:gw):gw->Bool
 | .inr a=>(match t with
  | .inr b=>decide (a=b)
  | _=>true)
 | _=>true
def dI:F2:=λx y h=>match y with
 | .fl xs=>(match gy h x,fY h xs with
  | some t,some ts=>if ts.all (jy t)=true then .ok (.bl (ts.any λe=>cB e t)) h else .bad
  | _,_=>.bad)
 | _=>.bad
section
variable {T:Tb} {ι:Ix} {h:AH} {H:Hp}
inductive Oo (ι:Ix):gw->Od->Prop
 | dat (d:PyData):Oo ι (.inl d) (.inl d)
 | dic {n:Nat} {a:Addr} (e:ι.refs[n]? = some a):Oo ι (.inr n) (.inr a)
theorem zX (S:Sim T ι h H) {x:AV} {u:V} {t:gw} (r:RV T ι H x u) (e:gy h x=some t):∃ t',Oo ι t t'/\jZ T.K H u t' := by
 unfold gy at e
 split at e
 ·rename_i d hd
  cases e
  obtain ⟨q1,q2,q3⟩:=iR S 8 r hd
  exact ⟨_,.dat d,.dat q1 q2 (by lia)⟩
 ·split at e
  ·rename_i n hz
   split at e
   ·rename_i kvs hn
    cases e
    cases r with
    | @ref _ ad hr =>
     obtain ⟨ob,e1,kus,rfl,_⟩:=S.obj n _ ad hn hr
     exact ⟨_,.dic hr,.dic e1⟩
   ·cases e
  ·cases e
theorem zY (S:Sim T ι h H):∀ {xs:List AV} {us:List V} {ts:List gw},RVs T ι H xs us->fY h xs=some ts->∃ ts',Paired (Oo ι) ts ts'/\gQ T.K H us ts'
 | _,_,_,.nil,e=>by cases e;exact ⟨[],.nil,.nil⟩
 | x::xs,_,ts,.cons r rs,e=>by
  unfold fY at e
  split at e
  ·rename_i d ds e1 e2
   cases e
   obtain ⟨t',o1,o2⟩:=zX S r e1
   obtain ⟨ts',o3,o4⟩:=zY S rs e2
   exact ⟨t'::ts',.cons o1 o3,.cons o2 o4⟩
  ·cases e
theorem Ip (S:Sim T ι h H) {e t:gw} {e' t':Od} (o1:Oo ι e e') (o2:Oo ι t t') (one:jy t e=true):cB e t=jx e' t'/\∀ a b,e' = .inr a->t' = .inr b->a=b:=by
 cases o1 with
 | dat d=>cases o2<;>exact ⟨rfl,λa b h=>nomatch h⟩
 | dic q1 =>
  cases o2 with
  | dat d=>exact ⟨rfl,λa b _ h=>nomatch h⟩
  | dic q2 =>
   have z:=P7 one
   subst z;rw [q1] at q2
   cases q2
   refine ⟨?_,λa b h1 h2=>?_⟩
   ·show decide (_=_)=decide (_=_)
    rw [NQ rfl,NQ rfl]
   ·cases h1;cases h2;rfl
theorem zZ (S:Sim T ι h H) {t:gw} {t':Od} (o2:Oo ι t t'):∀ {ts:List gw} {ts':List Od},Paired (Oo ι) ts ts'->ts.all (jy t)=true->(ts.any λe=>cB e t)=(ts'.any λe=>jx e t')/\∀ e∈ts',∀ a b,e = .inr a->t' = .inr b->a=b
 | _,_,.nil,_=>⟨rfl,nofun⟩
 | _,_,.cons o os,c=>by
  rw [List.all_cons,NM] at c;obtain ⟨z1,z2⟩:=Ip S o o2 c.1
  obtain ⟨i1,i2⟩:=zZ S o2 os c.2
  refine ⟨by rw [Ou,Ou,z1,i1],λe he=>?_⟩
  rcases Np.mp he with rfl | he
  ·exact z2
  ·exact i2 e he
theorem z8 {X:Cx} (hK:X.K=T.K) (hu:X.A.units+64<cLine):Op T X (compareOp .In) dI:=by
 refine ⟨_,Io hu,λι h H x y u w E Q S rx ry p=>?_⟩
 unfold dI at p
 split at p
 ·rename_i xs
  split at p
  ·rename_i t ts e1 e2
   by_cases c:ts.all (jy t)=true
   ·rw [M8 c] at p
    obtain ⟨a,us,rfl,sq,rs⟩:=gv S ry rfl
    obtain ⟨t',o1,o2⟩:=zX S rx e1
    obtain ⟨ts',o3,o4⟩:=zY S rs e2
    obtain ⟨z1,z2⟩:=zZ S o1 o3 c
    rw [z1] at p;exact ⟨a,us,ts',t',rfl,hK▸sq,hK▸o2,hK▸o4,z2,p.now S (.bl _)⟩
   ·rw [M9 c] at p;exact p.elim
  ·exact p.elim
 ·exact p.elim
end
end Sm
namespace L2
open PySem PySem.Spec PyProof.Rows
open PySem.Builtin PySem.Builtin.Str
section
variable {X:Cx}
theorem Iq {a b c d:Expr} {ta tb tc td:TE} {pos:Pos} {op op' op'':CmpOp} {r r' r'':R2} (ho:OpR X (compareOp op) r) (ho':OpR X (compareOp op') r') (ho'':OpR X (compareOp op'') r'') (ha:PE X a ta) (hb:PE X b tb) (hc:PE X c tc) (hd:PE X d td)
  (hm:lastMarks [op,op',op''] [b,c,d]=false:=by with_unfolding_all rfl):PE X (.Compare a [op,op',op''] [b,c,d] pos) (yS r r' r'' ta tb tc td):=by
 intro pins s σ H Q I h
 refine Compare_chain (thn (ha pins s σ H _ I h) λv s1 ⟨x,H1,I1,r1,q1⟩=>RI (thn (hb pins s1 σ H1 _ I1 q1) λu s2 ⟨y,H2,I2,r2,q2⟩ =>
  thn (ho pins s2 σ H2 x y v u _ I2 r1 r2 q2) λd s3 ⟨z,H3,I3,r3,k,e,q3⟩=>?_)) hm
 subst e
 cases r3
 refine Nt ?_
 cases k with
 | false=>exact ite_ff ⟨.bl false,H3,I3,rfl,q3⟩
 | true =>
  refine ite_tt (RI (thn (hc pins s3 σ H3 _ I3 q3) λw' s4 ⟨z',H4,I4,r4,q4⟩=>thn (ho' pins s4 σ H4 y z' u w' _ I4 r2 r4 q4) λd' s5 Zz=>?_));obtain ⟨z2,H5,I5,r5,k2,e2,q5⟩:=Zz
  subst e2
  cases r5
  refine Nt ?_
  cases k2 with
  | false=>exact ite_ff ⟨.bl false,H5,I5,rfl,q5⟩
  | true=>exact ite_tt (chain_last (thn (hd pins s5 σ H5 _ I5 q5) λw2 s6 ⟨z3,H6,I6,r6,q6⟩=>ho'' pins s6 σ H6 z' z3 w' w2 Q I6 r4 r6 q6))
def Ir (i j k:Nat) (ta:TA):TS:=λD σ H=>ta σ H λvs H1=>∃ v w z,vs=[v,w,z]/\D.nx (((σ.set i (some v)).set j (some w)).set k (some z)) H1
theorem Iu {i j k:Nat} {x y z:Str} {a b c:Expr} {ta:TA} {pos px py pz pt:Pos} {kt k2:Nat} {pt2:Pos} (hc:X.calm=true) (hN:X.N.Nodup) (hi:X.N[i]? = some x) (hj:X.N[j]? = some y) (hk:X.N[k]? = some z) (hij:i≠j) (hik:i≠k) (hjk:j≠k)
  (hx:X.env.scope.names.lookup x=some .local) (hy:X.env.scope.names.lookup y=some .local) (hz:X.env.scope.names.lookup z=some .local) (ha:PA X [a,b,c] ta)
  (hw:swappedStores [.Tuple [.Name x px,.Name y py,.Name z pz] kt pt] (.Tuple [a,b,c] k2 pt2) X.env=pure (some [x,y,z]))
  (hs:swapsWithSole [.Tuple [.Name x px,.Name y py,.Name z pz] kt pt] (.Tuple [a,b,c] k2 pt2) pos.line X.env=pure false:=by rfl) :
  PS X (.Assign [.Tuple [.Name x px,.Name y py,.Name z pz] kt pt] (.Tuple [a,b,c] k2 pt2) pos) (Ir i j k ta):=by
 intro pins s σ H D I h
 rw [exec_Assign_arm];refine M4 (Qe ?_)
 rw [hs];refine M4 (Nd ?_)
 rw [M9 (by decide)]
 refine M4 (Tuple_ (thn (ha _ pins s σ H _ I h) λus s1 Zz=>?_));obtain ⟨vs,H1,I1,r1,q1⟩:=Zz
 obtain ⟨v,w,v3,e1,q1⟩:=q1
 subst e1;obtain ⟨u1,u2,u3,rfl,rv,rw',r3⟩:∃ u1 u2 u3,us=[u1,u2,u3]/\RelV v u1/\RelV w u2/\RelV v3 u3:=by
  cases r1 with
  | cons p q =>
   cases q with
   | cons p' q' =>
    cases q' with
    | cons p2 q2 =>
     cases q2
     exact ⟨_,_,_,rfl,p,p',p2⟩
 refine Ow ?_ (by show 3<=sizeLine;decide)
 have I2:Inv X pins σ H1 { s1 with heap:=s1.heap.push { cls:=.type "tuple",data:=.seq [u1,u2,u3].toArray } }:=I1.kept (t' := s1.toks) λb o e=>M7 _ e
 rw [hw];refine M4 (Nd ?_)
 show wpAny (model X.prog X.w) X.A (do rule "assign.swapped-stores";let items <- unpackItems (.ref s1.heap.objs.size) 3 none;assignInOrder [λv=>bindName X.env z v,λv=>bindName X.env y v,λv=>bindName X.env x v] items.reverse;pure Flow.next) _ _ _
 refine M4 (Rq (M4 (unpackItems_tuple (items:=#[u1,u2,u3]) (I.ok.hd hc) (IsTup.new s1.heap _) λh' hx' => ?_)))
 have I3:=I2.kept (h' := h') (t' := s1.toks) λb o e=>hx' b o (NH (Ng e)) e
 show wpAny _ _ (assignInOrder [λv=>bindName X.env z v,λv=>bindName X.env y v,λv=>bindName X.env x v] [u3,u2,u1] >>= λ_=>pure Flow.next) _ _ _
 refine M4 (Pl (Q9 (lP I3 hN hk (.inl hz) r3 (λs2 I4=>?_) (.inr hz))))
 refine Pl (Q9 (lP I4 hN hj (.inl hy) rw' (λs2 I5=>?_) (.inr hy)))
 refine Pl (Q9 (lP I5 hN hi (.inl hx) rv (λs3 I6=>RB (Nd ?_)) (.inr hx)))
 have e:((σ.set k (some v3)).set j (some w)).set i (some v)=((σ.set i (some v)).set j (some w)).set k (some v3):=by
  rw [Rk _ _ (Ne.symm hjk),Rk _ _ (Ne.symm hik),Rk _ _ (Ne.symm hij)]
 rw [e] at I6;exact ⟨_,H1,I6,q1⟩
end
end L2
namespace Sm
open PySem PySem.Spec L2
section
variable {T:Tb} {E:L2.St->XK} {X:Cx} {pos:Pos} {a b c d:Expr} {sa sb sc sd:SE}
theorem Iw {op op' op'':CmpOp} {f f' f'':F2} (ho:Op T X (compareOp op) f) (ho':Op T X (compareOp op') f') (ho'':Op T X (compareOp op'') f'') (ha:aL T E X a sa) (hb:aL T E X b sb) (hc:aL T E X c sc) (hd:aL T E X d sd) (hm:lastMarks [op,op',op''] [b,c,d]=false:=by with_unfolding_all rfl) :
  aL T E X (.Compare a [op,op',op''] [b,c,d] pos) (kT f f' f'' sa sb sc sd):=by
 obtain ⟨r,h1,hs⟩:=ho
 obtain ⟨r',h1',hs'⟩:=ho'
 obtain ⟨r'',h1'',hs''⟩:=ho''
 refine cw (Iq h1 h1' h1'' ha hb hc hd hm) λσ H Q q=>?_
 obtain ⟨ι,h,en,S,er,q⟩:=q
 unfold kT at q
 refine ⟨ι,h,en,S,er,q.bind λx h1 ι1 H1 u g1 S1 r1 q1=>?_⟩
 refine ⟨ι1,h1,en,S1,er.mono g1,q1.bind λy h2 ι2 H2 w g2 S2 r2 q2=>?_⟩
 refine hs ι2 h2 H2 x y u w (E σ) _ S2 (r1.mono g2) r2 (q2.bind λz h3 ι3 H3 k g3 S3 r3 q3=>?_)
 split at q3
 ·rename_i kk
  rw [fJ r3];refine ⟨kk,rfl,?_⟩
  by_cases hkk:kk=true
  ·rw [M8 hkk] at q3 ⊢
   refine ⟨ι3,h3,en,S3,er.mono (g1.trans (g2.trans g3)),q3.bind λv h4 ι4 H4 j g4 S4 r4 q4=>?_⟩
   refine hs' ι4 h4 H4 y v w j (E σ) _ S4 (r2.mono (g3.trans g4)) r4 (q4.bind λz2 h5 ι5 H5 k5 g5 S5 r5 q5=>?_)
   split at q5
   ·rename_i k2
    rw [fJ r5];refine ⟨k2,rfl,?_⟩
    by_cases hk2:k2=true
    ·rw [M8 hk2] at q5 ⊢
     refine ⟨ι5,h5,en,S5,er.mono (g1.trans (g2.trans (g3.trans (g4.trans g5)))),q5.bind λv6 h6 ι6 H6 j6 g6 S6 r6 q6=>?_⟩
     exact hs'' ι6 h6 H6 v v6 j j6 (E σ) _ S6 (r4.mono (g5.trans g6)) r6 q6
    ·rw [M9 hk2] at q5 ⊢
     exact q5.now S5 (.bl _)
   ·exact q5.elim
  ·rw [M9 hkk] at q3 ⊢
   exact q3.now S3 (.bl _)
 ·exact q3.elim
def qr (i j k:Nat) (as:SL):SS:=λen h=>(as en h).go en λvs h1=>match vs with
 | [v,w,z]=>.nx (((en.set i (some v)).set j (some w)).set k (some z)) h1
 | _=>.bad
theorem Iy {i j k:Nat} {x y z:Str} {as:SL} {px py pz pt pt2:Pos} {kt k2:Nat} (hN:X.N.Nodup) (ha:fI T E X [a,b,c] as) (hc:X.calm=true:=by rfl) (hij:i≠j:=by decide) (hik:i≠k:=by decide) (hjk:j≠k:=by decide) (hi:X.N[i]? = some x:=by rfl) (hj:X.N[j]? = some y:=by rfl) (hk:X.N[k]? = some z:=by rfl) (hx:X.env.scope.names.lookup x=some .local:=by rfl) (hy:X.env.scope.names.lookup y=some .local:=by rfl) (hz:X.env.scope.names.lookup z=some .local:=by rfl)
  (hw:swappedStores [.Tuple [.Name x px,.Name y py,.Name z pz] kt pt] (.Tuple [a,b,c] k2 pt2) X.env=pure (some [x,y,z]):=by rfl) (hs:swapsWithSole [.Tuple [.Name x px,.Name y py,.Name z pz] kt pt] (.Tuple [a,b,c] k2 pt2) pos.line X.env=pure false:=by rfl) :
  gr T E X (.Assign [.Tuple [.Name x px,.Name y py,.Name z pz] kt pt] (.Tuple [a,b,c] k2 pt2) pos) (qr i j k as):=by
 refine g9 (Iu hc hN hi hj hk hij hik hjk hx hy hz ha hw hs) λD σ H=>E6x λι h en S er q=>⟨ι,h,en,S,er,q.go er λvs h1 ι1 H1 us g1 S1 r1 q1=>?_⟩
 split at q1
 ·cases r1 with
  | cons r r' =>
   cases r' with
   | cons r2 r3 =>
    cases r3 with
    | cons r4 r5 =>
     cases r5
     exact ⟨_,_,_,rfl,q1 ι1 H1 _ S1.refl S1 ((((er.mono g1).set r i).set r2 j).set r4 k)⟩
 ·exact q1.elim
end
end Sm
namespace Sk
open PySem PySem.Spec L2 Sm
abbrev nV:Nat:=0
def uG (c:Nat):Bool:=[false].getD c false
def uH (c:Nat):Bool:=[false].getD c false
def uI (c:Nat):Bool:=[false].getD c false
def uJ (c:Nat):Bool:=[true].getD c false
def uK (c:Nat):Bool:=[false].getD c false
def uL:Fn:=aD 1 1
  (ao (gH 0 0 (ae 0) (gE ag))
  (ao (gH 0 1 (ae 0) (kJ true))
  (ao (gH 0 2 (ae 0) (gE (aj (af (.int 0)) ag)))
  (ao (gH 0 3 (ae 0) (gE (aj (af (.int 0)) ag)))
  (ao (gH 0 4 (ae 0) (gE (aj (af (.int 0)) ag)))
  (ao (gH 0 5 (ae 0) (gE (aj (ji fQ (af (.int 1))) ag)))
  (ao (gH 0 6 (ae 0) (gE (aj (af (.int 0)) ag)))
  (gH 0 7 (ae 0) (gE (aj (af (.int 0)) ag))))))))))
def mB:Fn:=aD 1 1
  (ao (gH 1 0 (ae 0) (lV 0 8 uL ag))
  (ao (gH 1 1 (ae 0) (kJ false))
  (ao (gH 1 2 (ae 0) (gE ag))
  (gH 1 3 (ae 0) (gE ag)))))
def qt:Fn:=aD 2 3
  (ao (aB 2 (ah bB (ah bL (ah aE (ah aE (ah bB (ae 0) (af (.int 1000000007))) (ah bL (af (.int 7919)) (ae 1))) (af (.int 101))) (af (.int 48271))) (af (.int 2147483647))))
  (ay (ah bB (ah bL (ah bB (ah bL (ae 2) (ae 2)) (af (.int 2147483629))) (af (.int 69621))) (af (.int 2147483647)))))
def mC:SS :=
  (aB 2 (ah aE (ah bL (ae 2) (ah bL (ah cx (af (.int 10)) (af (.int 60))) (ah cx (af (.int 10)) (af (.int 60))))) (ah bB (ah aw (ae 0) (ae 3)) (ah bL (ah cx (af (.int 10)) (af (.int 60))) (ah cx (af (.int 10)) (af (.int 60)))))))
def mD:SS :=
  (aB 4 (ah aE (ah bL (ae 4) (af (.int 2147483647))) (aC qt (aj (ah aE (ah aE (ae 2) (ah bL (af (.int 1009)) (ae 1))) (aC aJ (aj (ae 0) ag))) (aj (ae 3) ag)))))
def iB:Fn:=aD 2 5
  (ao (aB 2 (af (.int 0)))
  (ao (cy (jw (ae 1) (aC aJ (aj (ae 0) ag)) (af (.int 8))) (.nm 3) mC)
  (ao (aS (aM (ah jR (ae 2) (ah cx (af (.int 10)) (af (.int 18))))) (ay (gE (aj (ae 2) ag))) aT)
  (ao (aB 2 (ah aE (ae 2) (aC gK (aj (fi [] (cW (ae 0)) bZ (ah bB (ae 0) (ah cx (af (.int 10)) (af (.int 18))))) ag))))
  (ao (aB 4 (af (.int 0)))
  (ao (cy (hJ (af (.int 16))) (.nm 3) mD)
  (ay (gE (aj (ae 4) ag)))))))))
def bD:Fn:=aD 2 3
  (ao (aB 2 (ah bB (ah aw (ae 0) (af (.int 0))) (ae 1)))
  (ao (fT (ae 0) (af (.int 0)) (ah cg (ah aw (ae 0) (af (.int 0))) (ae 1)))
  (ay (ae 2))))
def fA:Fn:=aD 3 5
  (ao (aB 3 (ql (ae 1)))
  (ao (aB 4 (aC bD (aj (ae 0) (aj (af (.int 8)) ag))))
  (ao (aS (aM (ah aG (ae 4) (af (.int 0)))) (ay (ah aw (ae 2) (aC bD (aj (ae 0) (aj (aC aJ (aj (ae 2) ag)) ag))))) aT)
  (ao (aS (nz (aM (ah dS (ae 4) (af (.int 3)))) (aM (ah aG (ae 3) (aN ag)))) (ay (ah aw (aN (aj (af (.str "a")) (aj (af (.str "ab")) (aj (af (.str "b")) (aj (af (.str "abcdefgh")) (aj (af (.str "zz")) (aj (af (.str "q")) ag))))))) (aC bD (aj (ae 0) (aj (af (.int 6)) ag))))) aT)
  (ay (ah aw (ae 3) (aC bD (aj (ae 0) (aj (aC aJ (aj (ae 3) ag)) ag)))))))))
def kY:SS :=
  (aB 3 (ah aE (ae 3) (ah aw (ae 2) (aC bD (aj (ae 0) (aj (aC aJ (aj (ae 2) ag)) ag))))))
def mE:Fn:=aD 2 5
  (ao (aB 2 (ah aw (aN (aj (af (.str "ab")) (aj (af (.str "aaab")) (aj (af (.str "a\n")) (aj (af (.str "ab \n")) (aj (af (.str "abcdefghijklmnopqrstuvwxyz 0123456789.,~\n")) ag)))))) (aC bD (aj (ae 0) (aj (af (.int 5)) ag)))))
  (ao (aB 3 (af (.str "")))
  (ao (cy (hJ (aC bD (aj (ae 0) (aj (ah aE (ae 1) (af (.int 1))) ag)))) (.nm 4) kY)
  (ay (ae 3)))))
def mF:Fn:=aD 2 7
  (ao (aB 2 (aN (aj (af (.str "")) (aj (af (.str "A")) (aj (af (.str "abcdefghi")) (aj (af (.str "a1")) (aj (af (.str "a ")) (aj (af .non) (aj (af (.int 7)) (aj (af (.bl true)) (aj (aN (aj (af (.str "a")) ag)) (aj (bu (aj (af (.str "a")) ag)) (aj (kJ false) ag)))))))))))))
  (ao (aB 3 (aC fA (aj (ae 0) (aj (ae 1) (aj (ae 2) ag)))))
  (ao (aS (aM (ah aG (aC bD (aj (ae 0) (aj (af (.int 3)) ag))) (af (.int 0)))) (ao (aB 4 (aC fA (aj (ae 0) (aj (ae 1) (aj (aN (aj (af (.str "")) (aj (af (.str "A")) (aj (af (.str "none")) ag)))) ag)))))
  (ao (aB 5 (ah aw (aN (aj (af (.str "")) (aj (af (.str "NoName")) ag))) (aC bJ (aj (e7 (ah dI (ae 3) (ae 2)) (ah dH (ae 4) (ae 1))) ag))))
  (ay (bu (aj (bu (aj (af (.str "copy_of")) (aj (ae 3) (aj (ae 4) ag)))) (aj (ae 5) (aj (fz (ae 1) (ae 4) (af (.str ""))) ag))))))) aT)
  (ao (aB 6 (aC mE (aj (ae 0) (aj (af (.int 30)) ag))))
  (ao (aS (aM (ah aG (aC bD (aj (ae 0) (aj (af (.int 10)) ag))) (af (.int 0)))) (aB 6 (ah aw (aN (aj (af .non) (aj (af (.int 7)) (aj (af (.str "a\t")) (aj (aN (aj (af (.str "a")) ag)) (aj (af (.bl true)) (aj (af (.str "\t")) ag))))))) (aC bD (aj (ae 0) (aj (af (.int 6)) ag))))) aT)
  (ao (aB 5 (ah aw (aN (aj (af (.str "")) (aj (af (.str "NoText")) ag))) (aC bJ (aj (e7 (hE (fq "str" (ae 6))) (ah pV (af (.str "\t")) (ae 6))) ag))))
  (ao (aS (aM (ah dI (ae 3) (ae 2))) (aB 5 (af (.str "NoName"))) aT)
  (ay (bu (aj (bu (aj (af (.str "give")) (aj (ae 3) (aj (ae 6) ag)))) (aj (ae 5) (aj (ae 6) ag))))))))))))
def mG:Fn:=aD 2 13
  (ao (aB 2 (aC bD (aj (ae 0) (aj (af (.int 4)) ag))))
  (ao (aB 3 (aC fA (aj (ae 0) (aj (ae 1) (aj (aN (aj (af (.str "")) (aj (af (.str "A")) (aj (af (.str "none")) ag)))) ag)))))
  (ao (aB 4 (aC fA (aj (ae 0) (aj (ae 1) (aj (aN (aj (af (.str "")) (aj (af (.str "A")) (aj (af (.str "none")) ag)))) ag)))))
  (ao (aB 5 (fz (ae 1) (ae 3) (af (.str ""))))
  (ao (aB 6 (fz (ae 1) (ae 4) (af (.str ""))))
  (ao (aB 7 (ah aw (aN (aj (af (.str "")) (aj (af (.str "NoName")) ag))) (aC bJ (aj (ah dH (ae 3) (ae 1)) ag))))
  (ao (aB 8 (ah aw (aN (aj (af (.str "")) (aj (af (.str "NoName")) ag))) (aC bJ (aj (e7 (ah dH (ae 3) (ae 1)) (ah dH (ae 4) (ae 1))) ag))))
  (ao (aB 9 (ah bH (aC bD (aj (ae 0) (aj (ah aE (aC aJ (aj (ae 5) ag)) (af (.int 3))) ag))) (af (.int 1))))
  (ao (aB 10 (ah bH (aC bD (aj (ae 0) (aj (ah aE (aC aJ (aj (ae 5) ag)) (af (.int 3))) ag))) (af (.int 1))))
  (ao (aS (aM (ah aG (ae 2) (af (.int 0)))) (ay (bu (aj (bu (aj (af (.str "join_to")) (aj (ae 3) (aj (ae 4) ag)))) (aj (ae 8) (aj (ah aE (ae 5) (ae 6)) ag))))) aT)
  (ao (aS (aM (ah aG (ae 2) (af (.int 1)))) (ao (aB 11 (fW (ae 8) (ah aw (aN (aj (af (.str "")) (aj (af (.str "NoPlace")) ag))) (aC bJ (aj (hE (dU bC bC (af (.int 0)) (ae 9) (aC aJ (aj (ae 5) ag)))) ag)))))
  (ay (bu (aj (bu (aj (af (.str "put_into")) (aj (ae 3) (aj (ae 9) (aj (ae 4) ag))))) (aj (ae 11) (aj (ah aE (ah aE (cz (ae 5) none (some (aC fk (aj (af (.int 0)) (aj (ae 9) ag))))) (ae 6)) (cz (ae 5) (some (aC fk (aj (af (.int 0)) (aj (ae 9) ag)))) none)) ag)))))) aT)
  (ao (aS (aM (ah aG (ae 2) (af (.int 2)))) (ao (aB 11 (fW (ae 7) (ah aw (aN (aj (af (.str "")) (aj (af (.str "NoPlace")) ag))) (aC bJ (aj (hE (kT bC bC bC (af (.int 0)) (ae 9) (ae 10) (aC aJ (aj (ae 5) ag)))) ag)))))
  (ay (bu (aj (bu (aj (af (.str "take_from")) (aj (ae 3) (aj (ae 9) (aj (ae 10) ag))))) (aj (ae 11) (aj (ah aE (cz (ae 5) none (some (aC fk (aj (af (.int 0)) (aj (ae 9) ag))))) (cz (ae 5) (some (aC fk (aj (af (.int 0)) (aj (ae 10) ag)))) none)) ag)))))) aT)
  (ao (aB 12 (ah aw (aN (aj (af (.int 0)) (aj (af (.int 1)) (aj (af (.int 2)) (aj (af (.int 3)) (aj (ji fQ (af (.int 1))) (aj (ah aE (ah cg (ah cx (af (.int 10)) (af (.int 18))) (aC fk (aj (af (.int 1)) (aj (aC aJ (aj (ae 5) ag)) ag)))) (af (.int 1))) ag))))))) (aC bD (aj (ae 0) (aj (af (.int 6)) ag)))))
  (ao (aB 11 (fW (ae 7) (fW (ah aw (aN (aj (af (.str "")) (aj (af (.str "NoPlace")) ag))) (aC bJ (aj (ah dS (ae 12) (af (.int 0))) ag))) (ah aw (aN (aj (af (.str "")) (aj (af (.str "TooLong")) ag))) (aC bJ (aj (jS (ah eZ (ae 12) (af (.int 3))) (ah fR (ae 5) (af (.str "")))) ag))))))
  (ay (bu (aj (bu (aj (af (.str "repeat")) (aj (ae 3) (aj (ae 12) ag)))) (aj (ae 11) (aj (ah nQ (ae 5) (aC lW (aj (af (.int 3)) (aj (aC fk (aj (af (.int 0)) (aj (ae 12) ag))) ag)))) ag)))))))))))))))))))
def nW:Fn:=aD 2 9
  (ao (aB 2 (aC bD (aj (ae 0) (aj (af (.int 8)) ag))))
  (ao (aS (aM (ah aG (ae 2) (af (.int 0)))) (ao (aB 3 (aC fA (aj (ae 0) (aj (ae 1) (aj (aN (aj (af (.str "")) (aj (af (.str "A")) (aj (af (.str "none")) ag)))) ag)))))
  (ao (aS (aM (ah dH (ae 3) (ae 1))) (ay (bu (aj (bu (aj (af (.str "drop")) (aj (ae 3) ag))) (aj (af (.str "NoName")) (aj (ae 1) ag))))) aT)
  (ao (aB 4 (aC jY (aj (ae 1) ag)))
  (ao (bI (iV (ae 4) (ae 3)))
  (ay (bu (aj (bu (aj (af (.str "drop")) (aj (ae 3) ag))) (aj (af (.str "")) (aj (ae 4) ag))))))))) aT)
  (ao (pU (.tup [5,6,7]) (gP mF mG (aC bJ (aj (ah eZ (ae 2) (af (.int 3))) ag)) (aj (ae 0) (aj (ae 1) ag))))
  (ao (aS (kK (aM (ah aG (ae 6) (af (.str "")))) (aM (ah eZ (aC aJ (aj (ae 7) ag)) (af (.int 300))))) (qr 5 6 7 (aj (bu (aj (af (.str "give")) (aj (ah aw (ae 5) (af (.int 1))) (aj (af (.str "long")) ag)))) (aj (af (.str "")) (aj (af (.str "long")) ag)))) aT)
  (ao (aB 8 (aC jY (aj (ae 1) ag)))
  (ao (aS (aM (ah aG (ae 6) (af (.str "")))) (fT (ae 8) (ah aw (ae 5) (af (.int 1))) (ae 7)) aT)
  (ay (bu (aj (ae 5) (aj (ae 6) (aj (ae 8) ag)))))))))))
def iC:Fn:=aD 3 3
  (aS (aM (ah gG (ae 2) (af .non))) (bI (iV (Sm.sFld 1 1 (ae 0)) (ae 1))) (fT (Sm.sFld 1 1 (ae 0)) (ae 1) (ae 2)))
def jz:Fn:=aD 1 2
  (ao (aS (aM (ah aG (Sm.sFld 1 2 (ae 0)) (aN ag))) (tW 0 (aj (af (.str "there is no deed to take back")) ag)) aT)
  (ao (aB 1 (jm cn fu (Sm.sFld 1 2 (ae 0))))
  (ao (bI (d5 cn cG (Sm.sFld 1 3 (ae 0)) (aj (ae 1) ag)))
  (bI (aI 1 iC (ae 0) (aj (ah aw (ae 1) (af (.int 0))) (aj (ah aw (ae 1) (af (.int 1))) ag)))))))
def mH:Fn:=aD 1 1
  (ao (aS (dG (iP (fq "str" (ae 0)))) (ay (af (.bl false))) aT)
  (ay (jS (dU bC bC (af (.int 1)) (aC aJ (aj (ae 0) ag)) (af (.int 8))) (aC gI (aj (fi [] (cW (ae 0)) bZ (dU bC bC (af (.str "a")) (ae 0) (af (.str "z")))) ag)))))
def nX:Fn:=aD 1 1
  (aS (dG (iP (aC mH (aj (ae 0) ag)))) fX aT)
def dP:Fn:=aD 3 3
  (ao (bI (d5 cn cG (Sm.sFld 1 2 (ae 0)) (aj (bu (aj (ae 1) (aj (nS (Sm.sFld 1 1 (ae 0)) (ae 1)) (aj (ae 2) ag)))) ag)))
  (ao (bI (jm cn mq (Sm.sFld 1 3 (ae 0))))
  (bI (aI 1 iC (ae 0) (aj (ae 1) (aj (ae 2) ag))))))
def qu:Fn:=aD 1 1
  (ay (jS (fq "int" (ae 0)) (hE (fq "bool" (ae 0)))))
def qv:Fn:=aD 2 2
  (ay (jS (aC qu (aj (ae 1) ag)) (dU bC bC (af (.int 1)) (ae 1) (aC aJ (aj (Sm.sFld 0 0 (ae 0)) ag)))))
def kZ:Fn:=aD 2 2
  (aS (dG (iP (aI 0 qv (ae 0) (aj (ae 1) ag)))) fX aT)
def nY:Fn:=aD 3 4
  (ao (bI (aI 0 kZ (ae 0) (aj (ae 1) ag)))
  (ao (bI (aI 0 kZ (ae 0) (aj (ae 2) ag)))
  (ao (aB 3 (ah aE (ah aw (Sm.sFld 0 2 (ae 0)) (ah aw (Sm.sFld 0 7 (ae 0)) (ae 1))) (ah aw (Sm.sFld 0 2 (ae 0)) (ah aw (Sm.sFld 0 6 (ae 0)) (ae 2)))))
  (ao (aS (aM (ah bC (ae 3) (af (.int 8)))) fX aT)
  (ao (aS (aM (ah eZ (aC kM (aj (ah bH (ah aw (Sm.sFld 0 5 (ae 0)) (ae 1)) (ah aw (Sm.sFld 0 5 (ae 0)) (ae 2))) ag)) (af (.int 1)))) fX aT)
  (aS (aM (ah eZ (ah aE (ah aw (Sm.sFld 0 2 (ae 0)) (ae 1)) (ah aw (Sm.sFld 0 2 (ae 0)) (ae 2))) (af (.int 1000000000000000000)))) fX aT))))))
def nZ:Fn:=aD 2 3
  (ao (bI (d5 cn cG (Sm.sFld 0 0 (ae 0)) (aj (ae 1) ag)))
  (ao (aB 2 (aC aJ (aj (Sm.sFld 0 0 (ae 0)) ag)))
  (ao (fT (Sm.sFld 0 1 (ae 0)) (ae 1) (ae 2))
  (ay (ae 2)))))
def n5:Fn:=aD 2 4
  (ao (bI (aI 0 nZ (ae 0) (aj (ae 1) ag)))
  (ao (aB 2 (ah aw (ae 1) (af (.int 1))))
  (ao (aB 3 (ah aw (ae 1) (af (.int 2))))
  (ao (bI (d5 cn cG (Sm.sFld 0 2 (ae 0)) (aj (ah aE (ah aw (Sm.sFld 0 2 (ae 0)) (ae 2)) (ah aw (Sm.sFld 0 2 (ae 0)) (ae 3))) ag)))
  (ao (bI (d5 cn cG (Sm.sFld 0 3 (ae 0)) (aj (ah aE (ah aw (Sm.sFld 0 3 (ae 0)) (ae 2)) (ah aw (Sm.sFld 0 3 (ae 0)) (ae 3))) ag)))
  (ao (bI (d5 cn cG (Sm.sFld 0 4 (ae 0)) (aj (ah aE (ah aw (Sm.sFld 0 4 (ae 0)) (ae 2)) (ah aw (Sm.sFld 0 4 (ae 0)) (ae 3))) ag)))
  (ao (bI (d5 cn cG (Sm.sFld 0 5 (ae 0)) (aj (ah aE (aC fk (aj (ah aw (Sm.sFld 0 5 (ae 0)) (ae 2)) (aj (ah aw (Sm.sFld 0 5 (ae 0)) (ae 3)) ag))) (af (.int 1))) ag)))
  (ao (bI (d5 cn cG (Sm.sFld 0 6 (ae 0)) (aj (ah aw (Sm.sFld 0 6 (ae 0)) (ae 2)) ag)))
  (bI (d5 cn cG (Sm.sFld 0 7 (ae 0)) (aj (ah aw (Sm.sFld 0 7 (ae 0)) (ae 3)) ag)))))))))))
def bA:Fn:=aD 3 4
  (ao (bI (aI 0 nY (ae 0) (aj (ae 1) (aj (ae 2) ag))))
  (ao (aB 3 (bu (aj (af (.str "fork")) (aj (ae 1) (aj (ae 2) ag)))))
  (ao (aS (aM (ah dH (ae 3) (Sm.sFld 0 1 (ae 0)))) (bI (aI 0 n5 (ae 0) (aj (ae 3) ag))) aT)
  (ay (ah aw (Sm.sFld 0 1 (ae 0)) (ae 3))))))
def uM (G:Fn):Fn:=aD 2 3
  (ao (aS (aM (ah aG (aC aJ (aj (ae 1) ag)) (af (.int 1)))) (ay (ah aw (ae 1) (af (.int 0)))) aT)
  (ao (aB 2 (ah cg (aC aJ (aj (ae 1) ag)) (af (.int 2))))
  (ay (aI 0 bA (ae 0) (aj (aC G (aj (ae 0) (aj (cz (ae 1) none (some (ae 2))) ag))) (aj (aC G (aj (ae 0) (aj (cz (ae 1) (some (ae 2)) none) ag))) ag))))))
def iD:Nat->Fn
 | 0=>aD 2 3 (λ_ _=>.bad)
 | d+1=>uM (iD d)
def n8:Fn:=aD 1 1
  (ay (e7 (ah aG (ae 0) (af (.str "\n"))) (dU bC bC (af (.str " ")) (ae 0) (af (.str "~")))))
def n9:Fn:=aD 1 1
  (ao (aS (dG (iP (fq "str" (ae 0)))) (ay (af (.bl false))) aT)
  (ay (aC gI (aj (fi [] (cW (ae 0)) bZ (aC n8 (aj (ae 0) ag))) ag))))
def qw:Fn:=aD 1 1
  (ay (jS (aC n9 (aj (ae 0) ag)) (dU bC bC (af (.int 1)) (aC aJ (aj (ae 0) ag)) (af (.int 8)))))
def qx:Fn:=aD 1 1
  (ay (d5 tX tY (ae 0) (aj (af (.str "\n")) ag)))
def oa:Fn:=aD 2 4
  (ao (aB 2 (aI 0 nZ (ae 0) (aj (ae 1) ag)))
  (ao (aB 3 (ah aw (ae 1) (af (.int 1))))
  (ao (bI (d5 cn cG (Sm.sFld 0 2 (ae 0)) (aj (aC aJ (aj (ae 3) ag)) ag)))
  (ao (bI (d5 cn cG (Sm.sFld 0 3 (ae 0)) (aj (aC qx (aj (ae 3) ag)) ag)))
  (ao (bI (d5 cn cG (Sm.sFld 0 4 (ae 0)) (aj (af (.int 1)) ag)))
  (ao (bI (d5 cn cG (Sm.sFld 0 5 (ae 0)) (aj (af (.int 0)) ag)))
  (ao (bI (d5 cn cG (Sm.sFld 0 6 (ae 0)) (aj (ae 2) ag)))
  (bI (d5 cn cG (Sm.sFld 0 7 (ae 0)) (aj (ae 2) ag))))))))))
def d6:Fn:=aD 2 3
  (ao (aS (dG (iP (aC qw (aj (ae 1) ag)))) fX aT)
  (ao (aB 2 (bu (aj (af (.str "leaf")) (aj (ae 1) ag))))
  (ao (aS (aM (ah dH (ae 2) (Sm.sFld 0 1 (ae 0)))) (bI (aI 0 oa (ae 0) (aj (ae 2) ag))) aT)
  (ay (ah aw (Sm.sFld 0 1 (ae 0)) (ae 2))))))
def mI:Fn:=aD 2 3
  (ao (aS (dG (iP (aC n9 (aj (ae 1) ag)))) fX aT)
  (ao (aS (aM (ah eZ (aC aJ (aj (ae 1) ag)) (af (.int 10000)))) fX aT)
  (ao (aS (aM (ah aG (ae 1) (af (.str "")))) (ay (af (.int 0))) aT)
  (ao (aB 2 (fi [0,1] (jw (af (.int 0)) (aC aJ (aj (ae 1) ag)) (af (.int 8))) bZ (aI 0 d6 (ae 1) (aj (cz (ae 2) (some (ae 0)) (some (ah aE (ae 0) (af (.int 8))))) ag))))
  (ay (aC (iD 20) (aj (ae 0) (aj (ae 2) ag))))))))
def qy:Fn:=aD 3 3
  (ao (bI (aC nX (aj (ae 1) ag)))
  (bI (aI 1 dP (ae 0) (aj (ae 1) (aj (aC mI (aj (Sm.sFld 1 0 (ae 0)) (aj (ae 2) ag))) ag)))))
def dJ:Fn:=aD 2 2
  (ao (aS (nz (dG (iP (aC mH (aj (ae 1) ag)))) (aM (ah dH (ae 1) (Sm.sFld 1 1 (ae 0))))) fX aT)
  (ay (ah aw (Sm.sFld 1 1 (ae 0)) (ae 1))))
def qz:Fn:=aD 3 3
  (ao (bI (aC nX (aj (ae 1) ag)))
  (bI (aI 1 dP (ae 0) (aj (ae 1) (aj (aI 1 dJ (ae 0) (aj (ae 2) ag)) ag)))))
def mJ:Fn:=aD 1 1
  (aS (aM (ah eZ (ae 0) (af (.int 1000000000000000000)))) fX aT)
def j0:Fn:=aD 2 2
  (aS (aM (ah fR (ae 1) (af (.int 0)))) (bI (aI 0 kZ (ae 0) (aj (ae 1) ag))) aT)
def eJ:Fn:=aD 2 2
  (ao (bI (aI 0 j0 (ae 0) (aj (ae 1) ag)))
  (ay (ah aw (Sm.sFld 0 2 (ae 0)) (ae 1))))
def og:Fn:=aD 2 2
  (ao (bI (aI 0 j0 (ae 0) (aj (ae 1) ag)))
  (ay (ah aw (Sm.sFld 0 7 (ae 0)) (ae 1))))
def oh:Fn:=aD 2 2
  (ao (bI (aI 0 j0 (ae 0) (aj (ae 1) ag)))
  (ay (ah aw (Sm.sFld 0 6 (ae 0)) (ae 1))))
def qA:Fn:=aD 3 3
  (ay (ah eZ (ah aE (aI 0 eJ (ae 0) (aj (aI 0 og (ae 0) (aj (ae 1) ag)) ag)) (aI 0 eJ (ae 0) (aj (aI 0 oh (ae 0) (aj (ae 2) ag)) ag))) (af (.int 8))))
def eU:Fn:=aD 2 2
  (ao (bI (aI 0 kZ (ae 0) (aj (ae 1) ag)))
  (ay (ah aw (Sm.sFld 0 0 (ae 0)) (ah bH (ae 1) (af (.int 1))))))
def uN (G:Fn):Fn:=aD 3 4
  (ao (aB 3 (aI 0 eU (ae 0) (aj (ae 1) ag)))
  (ao (aS (aM (ah aG (ah aw (ae 3) (af (.int 0))) (af (.str "leaf")))) (ay (ae 2)) aT)
  (ay (aI 0 bA (ae 0) (aj (ah aw (ae 3) (af (.int 1))) (aj (aC G (aj (ae 0) (aj (ah aw (ae 3) (af (.int 2))) (aj (ae 2) ag)))) ag))))))
def hZ:Nat->Fn
 | 0=>aD 3 4 (λ_ _=>.bad)
 | d+1=>uN (hZ d)
def gR:Fn:=aD 2 2
  (ao (bI (aI 0 j0 (ae 0) (aj (ae 1) ag)))
  (ay (ah aw (Sm.sFld 0 5 (ae 0)) (ae 1))))
def gz:Fn:=aD 3 7
  (ao (aS (aM (ah dS (ah bH (aI 0 gR (ae 0) (aj (ae 2) ag)) (aI 0 gR (ae 0) (aj (ae 1) ag))) (af (.int 2)))) (ay (aI 0 bA (ae 0) (aj (ae 1) (aj (ae 2) ag)))) aT)
  (ao (aB 3 (aI 0 eU (ae 0) (aj (ae 2) ag)))
  (ao (aB 4 (ah aw (ae 3) (af (.int 1))))
  (ao (aB 5 (ah aw (ae 3) (af (.int 2))))
  (ao (aS (aM (ah bC (aI 0 gR (ae 0) (aj (ae 4) ag)) (aI 0 gR (ae 0) (aj (ae 5) ag)))) (ay (aI 0 bA (ae 0) (aj (aI 0 bA (ae 0) (aj (ae 1) (aj (ae 4) ag))) (aj (ae 5) ag)))) aT)
  (ao (aB 6 (aI 0 eU (ae 0) (aj (ae 4) ag)))
  (ay (aI 0 bA (ae 0) (aj (aI 0 bA (ae 0) (aj (ae 1) (aj (ah aw (ae 6) (af (.int 1))) ag))) (aj (aI 0 bA (ae 0) (aj (ah aw (ae 6) (af (.int 2))) (aj (ae 5) ag))) ag))))))))))
def qB (G:Fn):Fn:=aD 2 4
  (ao (aB 2 (aI 0 eU (ae 0) (aj (ae 1) ag)))
  (ao (aS (aM (ah aG (ah aw (ae 2) (af (.int 0))) (af (.str "leaf")))) (ay (af (.int 0))) aT)
  (ao (aB 3 (aC G (aj (ae 0) (aj (ah aw (ae 2) (af (.int 1))) ag))))
  (ao (aS (aM (ah aG (ae 3) (af (.int 0)))) (ay (ah aw (ae 2) (af (.int 2)))) aT)
  (ay (aC gz (aj (ae 0) (aj (ae 3) (aj (ah aw (ae 2) (af (.int 2))) ag)))))))))
def fK:Nat->Fn
 | 0=>aD 2 4 (λ_ _=>.bad)
 | d+1=>qB (fK d)
def iE:Fn:=aD 3 7
  (ao (aS (aM (ah dS (ah bH (aI 0 gR (ae 0) (aj (ae 1) ag)) (aI 0 gR (ae 0) (aj (ae 2) ag))) (af (.int 2)))) (ay (aI 0 bA (ae 0) (aj (ae 1) (aj (ae 2) ag)))) aT)
  (ao (aB 3 (aI 0 eU (ae 0) (aj (ae 1) ag)))
  (ao (aB 4 (ah aw (ae 3) (af (.int 1))))
  (ao (aB 5 (ah aw (ae 3) (af (.int 2))))
  (ao (aS (aM (ah bC (aI 0 gR (ae 0) (aj (ae 5) ag)) (aI 0 gR (ae 0) (aj (ae 4) ag)))) (ay (aI 0 bA (ae 0) (aj (ae 4) (aj (aI 0 bA (ae 0) (aj (ae 5) (aj (ae 2) ag))) ag)))) aT)
  (ao (aB 6 (aI 0 eU (ae 0) (aj (ae 5) ag)))
  (ay (aI 0 bA (ae 0) (aj (aI 0 bA (ae 0) (aj (ae 4) (aj (ah aw (ae 6) (af (.int 1))) ag))) (aj (aI 0 bA (ae 0) (aj (ah aw (ae 6) (af (.int 2))) (aj (ae 2) ag))) ag))))))))))
def qC (G:Fn):Fn:=aD 3 5
  (ao (aB 3 (ah bH (aI 0 gR (ae 0) (aj (ae 1) ag)) (aI 0 gR (ae 0) (aj (ae 2) ag))))
  (ao (aS (aM (ah eZ (ae 3) (af (.int 1)))) (ao (aB 4 (aI 0 eU (ae 0) (aj (ae 1) ag)))
  (ay (aC gz (aj (ae 0) (aj (ah aw (ae 4) (af (.int 1))) (aj (aC G (aj (ae 0) (aj (ah aw (ae 4) (af (.int 2))) (aj (ae 2) ag)))) ag)))))) aT)
  (ao (aS (aM (ah dS (ae 3) (ji fQ (af (.int 1))))) (ao (aB 4 (aI 0 eU (ae 0) (aj (ae 2) ag)))
  (ay (aC iE (aj (ae 0) (aj (aC G (aj (ae 0) (aj (ae 1) (aj (ah aw (ae 4) (af (.int 1))) ag)))) (aj (ah aw (ae 4) (af (.int 2))) ag)))))) aT)
  (ay (aI 0 bA (ae 0) (aj (ae 1) (aj (ae 2) ag)))))))
def fB:Nat->Fn
 | 0=>aD 3 5 (λ_ _=>.bad)
 | d+1=>qC (fB d)
def k8:Fn:=aD 3 6
  (ao (aB 3 (ah aE (ah aw (aI 0 eU (ae 0) (aj (aI 0 og (ae 0) (aj (ae 1) ag)) ag)) (af (.int 1))) (ah aw (aI 0 eU (ae 0) (aj (aI 0 oh (ae 0) (aj (ae 2) ag)) ag)) (af (.int 1)))))
  (ao (aB 4 (aC (hZ 90) (aj (ae 0) (aj (ae 1) (aj (aI 0 d6 (ae 0) (aj (ae 3) ag)) ag)))))
  (ao (aB 5 (aC (fK 90) (aj (ae 0) (aj (ae 2) ag))))
  (ao (aS (aM (ah aG (ae 5) (af (.int 0)))) (ay (ae 4)) aT)
  (ay (aC (fB 90) (aj (ae 0) (aj (ae 4) (aj (ae 5) ag)))))))))
def cq:Fn:=aD 3 3
  (ao (bI (aC mJ (aj (ah aE (aI 0 eJ (ae 0) (aj (ae 1) ag)) (aI 0 eJ (ae 0) (aj (ae 2) ag))) ag)))
  (ao (aS (aM (ah aG (ae 1) (af (.int 0)))) (ay (ae 2)) aT)
  (ao (aS (aM (ah aG (ae 2) (af (.int 0)))) (ay (ae 1)) aT)
  (ao (aS (iP (aC qA (aj (ae 0) (aj (ae 1) (aj (ae 2) ag))))) (ay (aC (fB 90) (aj (ae 0) (aj (ae 1) (aj (ae 2) ag))))) aT)
  (ay (aC k8 (aj (ae 0) (aj (ae 1) (aj (ae 2) ag)))))))))
def qD:Fn:=aD 3 3
  (bI (aI 1 dP (ae 0) (aj (ae 1) (aj (aC cq (aj (Sm.sFld 1 0 (ae 0)) (aj (aI 1 dJ (ae 0) (aj (ae 1) ag)) (aj (aI 1 dJ (ae 0) (aj (ae 2) ag)) ag)))) ag))))
def qE:Fn:=aD 3 4
  (ao (aB 3 (aI 0 eJ (ae 0) (aj (ae 1) ag)))
  (aS (dG (aM (dU bC bC (af (.int 0)) (ae 2) (ae 3)))) fX aT))
def k9 (G:Fn):Fn:=aD 3 5
  (ao (aS (aM (ah aG (ae 2) (af (.int 0)))) (ay (af (.int 0))) aT)
  (ao (aS (aM (ah aG (ae 2) (aI 0 eJ (ae 0) (aj (ae 1) ag)))) (ay (ae 1)) aT)
  (ao (aB 3 (aI 0 eU (ae 0) (aj (ae 1) ag)))
  (ao (aS (aM (ah aG (ah aw (ae 3) (af (.int 0))) (af (.str "leaf")))) (ay (aI 0 d6 (ae 0) (aj (cz (ah aw (ae 3) (af (.int 1))) none (some (ae 2))) ag))) aT)
  (ao (aB 4 (aI 0 eJ (ae 0) (aj (ah aw (ae 3) (af (.int 1))) ag)))
  (ao (aS (aM (ah bC (ae 2) (ae 4))) (ay (aC G (aj (ae 0) (aj (ah aw (ae 3) (af (.int 1))) (aj (ae 2) ag))))) aT)
  (ay (aC cq (aj (ae 0) (aj (ah aw (ae 3) (af (.int 1))) (aj (aC G (aj (ae 0) (aj (ah aw (ae 3) (af (.int 2))) (aj (ah bH (ae 2) (ae 4)) ag)))) ag)))))))))))
def dq:Nat->Fn
 | 0=>aD 3 5 (λ_ _=>.bad)
 | d+1=>k9 (dq d)
def lg (G:Fn):Fn:=aD 3 5
  (ao (aS (aM (ah aG (ae 2) (af (.int 0)))) (ay (ae 1)) aT)
  (ao (aS (aM (ah aG (ae 2) (aI 0 eJ (ae 0) (aj (ae 1) ag)))) (ay (af (.int 0))) aT)
  (ao (aB 3 (aI 0 eU (ae 0) (aj (ae 1) ag)))
  (ao (aS (aM (ah aG (ah aw (ae 3) (af (.int 0))) (af (.str "leaf")))) (ay (aI 0 d6 (ae 0) (aj (cz (ah aw (ae 3) (af (.int 1))) (some (ae 2)) none) ag))) aT)
  (ao (aB 4 (aI 0 eJ (ae 0) (aj (ah aw (ae 3) (af (.int 1))) ag)))
  (ao (aS (aM (ah jR (ae 2) (ae 4))) (ay (aC G (aj (ae 0) (aj (ah aw (ae 3) (af (.int 2))) (aj (ah bH (ae 2) (ae 4)) ag))))) aT)
  (ay (aC cq (aj (ae 0) (aj (aC G (aj (ae 0) (aj (ah aw (ae 3) (af (.int 1))) (aj (ae 2) ag)))) (aj (ah aw (ae 3) (af (.int 2))) ag)))))))))))
def dw:Nat->Fn
 | 0=>aD 3 5 (λ_ _=>.bad)
 | d+1=>lg (dw d)
def oi:Fn:=aD 4 6
  (ao (aB 4 (ah aE (aI 0 eJ (ae 0) (aj (ae 1) ag)) (aI 0 eJ (ae 0) (aj (ae 3) ag))))
  (ao (bI (aC qE (aj (ae 0) (aj (ae 1) (aj (ae 2) ag)))))
  (ao (bI (aC mJ (aj (ae 4) ag)))
  (ao (aB 5 (aC cq (aj (ae 0) (aj (aC (dq 90) (aj (ae 0) (aj (ae 1) (aj (ae 2) ag)))) (aj (ae 3) ag)))))
  (ay (aC cq (aj (ae 0) (aj (ae 5) (aj (aC (dw 90) (aj (ae 0) (aj (ae 1) (aj (ae 2) ag)))) ag)))))))))
def qF:Fn:=aD 4 4
  (bI (aI 1 dP (ae 0) (aj (ae 1) (aj (aC oi (aj (Sm.sFld 1 0 (ae 0)) (aj (aI 1 dJ (ae 0) (aj (ae 1) ag)) (aj (ae 2) (aj (aI 1 dJ (ae 0) (aj (ae 3) ag)) ag))))) ag))))
def qG:Fn:=aD 4 5
  (ao (aB 4 (aI 0 eJ (ae 0) (aj (ae 1) ag)))
  (aS (dG (aM (kT bC bC bC (af (.int 0)) (ae 2) (ae 3) (ae 4)))) fX aT))
def oj:Fn:=aD 4 4
  (ao (bI (aC qG (aj (ae 0) (aj (ae 1) (aj (ae 2) (aj (ae 3) ag))))))
  (ay (aC cq (aj (ae 0) (aj (aC (dq 90) (aj (ae 0) (aj (ae 1) (aj (ae 2) ag)))) (aj (aC (dw 90) (aj (ae 0) (aj (ae 1) (aj (ae 3) ag)))) ag))))))
def qH:Fn:=aD 4 4
  (bI (aI 1 dP (ae 0) (aj (ae 1) (aj (aC oj (aj (Sm.sFld 1 0 (ae 0)) (aj (aI 1 dJ (ae 0) (aj (ae 1) ag)) (aj (ae 2) (aj (ae 3) ag))))) ag))))
def qI (G:Fn):Fn:=aD 3 5
  (ao (aS (aM (ah aG (ae 2) (af (.int 0)))) (ay (af (.int 0))) aT)
  (ao (aB 3 (aC G (aj (ae 0) (aj (ae 1) (aj (ah cg (ae 2) (af (.int 2))) ag)))))
  (ao (aB 4 (aC cq (aj (ae 0) (aj (ae 3) (aj (ae 3) ag)))))
  (ao (aS (aM (ah aG (ah bB (ae 2) (af (.int 2))) (af (.int 0)))) (ay (ae 4)) aT)
  (ay (aC cq (aj (ae 0) (aj (ae 4) (aj (ae 1) ag)))))))))
def fC:Nat->Fn
 | 0=>aD 3 5 (λ_ _=>.bad)
 | d+1=>qI (fC d)
def j1:Fn:=aD 3 4
  (ao (aB 3 (aI 0 eJ (ae 0) (aj (ae 1) ag)))
  (ao (aS (aM (ah dS (ae 2) (af (.int 0)))) fX aT)
  (ao (bI (aC mJ (aj (ah bL (ae 3) (ae 2)) ag)))
  (ao (aS (aM (ah aG (ae 1) (af (.int 0)))) (ay (af (.int 0))) aT)
  (ay (aC (fC 64) (aj (ae 0) (aj (ae 1) (aj (ae 2) ag)))))))))
def lh:Fn:=aD 3 3
  (bI (aI 1 dP (ae 0) (aj (ae 1) (aj (aC j1 (aj (Sm.sFld 1 0 (ae 0)) (aj (aI 1 dJ (ae 0) (aj (ae 1) ag)) (aj (ae 2) ag)))) ag))))
def qJ:Fn:=aD 2 2
  (ao (bI (aI 1 dJ (ae 0) (aj (ae 1) ag)))
  (bI (aI 1 dP (ae 0) (aj (ae 1) (aj (af .non) ag)))))
def jA:Fn:=aD 1 2
  (ao (aS (aM (ah aG (Sm.sFld 1 3 (ae 0)) (aN ag))) (tW 0 (aj (af (.str "there is no deed to do again")) ag)) aT)
  (ao (aB 1 (jm cn fu (Sm.sFld 1 3 (ae 0))))
  (ao (bI (d5 cn cG (Sm.sFld 1 2 (ae 0)) (aj (ae 1) ag)))
  (bI (aI 1 iC (ae 0) (aj (ah aw (ae 1) (af (.int 0))) (aj (ah aw (ae 1) (af (.int 2))) ag)))))))
def iX:Fn:=aD 2 2
  (ao (aS (aM (ah aG (ah aw (ae 1) (af (.int 0))) (af (.str "give")))) (ay (aI 1 qy (ae 0) (aj (ah aw (ae 1) (af (.int 1))) (aj (ah aw (ae 1) (af (.int 2))) ag)))) aT)
  (ao (aS (aM (ah aG (ah aw (ae 1) (af (.int 0))) (af (.str "copy_of")))) (ay (aI 1 qz (ae 0) (aj (ah aw (ae 1) (af (.int 1))) (aj (ah aw (ae 1) (af (.int 2))) ag)))) aT)
  (ao (aS (aM (ah aG (ah aw (ae 1) (af (.int 0))) (af (.str "join_to")))) (ay (aI 1 qD (ae 0) (aj (ah aw (ae 1) (af (.int 1))) (aj (ah aw (ae 1) (af (.int 2))) ag)))) aT)
  (ao (aS (aM (ah aG (ah aw (ae 1) (af (.int 0))) (af (.str "put_into")))) (ay (aI 1 qF (ae 0) (aj (ah aw (ae 1) (af (.int 1))) (aj (ah aw (ae 1) (af (.int 2))) (aj (ah aw (ae 1) (af (.int 3))) ag))))) aT)
  (ao (aS (aM (ah aG (ah aw (ae 1) (af (.int 0))) (af (.str "take_from")))) (ay (aI 1 qH (ae 0) (aj (ah aw (ae 1) (af (.int 1))) (aj (ah aw (ae 1) (af (.int 2))) (aj (ah aw (ae 1) (af (.int 3))) ag))))) aT)
  (ao (aS (aM (ah aG (ah aw (ae 1) (af (.int 0))) (af (.str "repeat")))) (ay (aI 1 lh (ae 0) (aj (ah aw (ae 1) (af (.int 1))) (aj (ah aw (ae 1) (af (.int 2))) ag)))) aT)
  (ao (aS (aM (ah aG (ah aw (ae 1) (af (.int 0))) (af (.str "drop")))) (ay (aI 1 qJ (ae 0) (aj (ah aw (ae 1) (af (.int 1))) ag))) aT)
  (ao (aS (aM (ah aG (ah aw (ae 1) (af (.int 0))) (af (.str "again")))) (ay (aI 1 jA (ae 0) ag)) aT)
  (ay (aI 1 jz (ae 0) ag))))))))))
def ia:Fn:=aD 2 4
  (ao (aB 2 (af (.str "other")))
  (ao (nT 3 (λc=>uG c || uI c) (λc=>uH c || uK c) uJ (aS (aM (ah gG (aC iX (aj (ae 0) (aj (ae 1) ag))) (af .non))) (aB 2 (af (.str ""))) aT) fX fX (aB 2 (af (.str "NothingDone"))))
  (ay (ae 2))))
def iY:Fn:=aD 1 1
  (ay (aC kW (aj (Sm.sFld 1 1 (ae 0)) ag)))
def jB:Fn:=aD 1 1
  (ay (fi [0] (cW (aI 1 iY (ae 0) ag)) bZ (bu (aj (ae 0) (aj (aI 1 dJ (ae 1) (aj (ae 0) ag)) ag)))))
def lj:SS :=
  (ao (aB 4 (ah aw (aN (aj (af (.str "aa")) (aj (af (.str "bb")) ag))) (ah bB (ae 3) (af (.int 2)))))
  (ao (aS (aM (ah fR (aC ia (aj (ae 0) (aj (ah aw (aN (aj (bu (aj (af (.str "give")) (aj (ae 4) (aj (cz (af (.str "xyz")) none (some (ah aE (af (.int 1)) (ah bB (ae 3) (af (.int 3)))))) ag)))) (aj (bu (aj (af (.str "copy_of")) (aj (ae 4) (aj (af (.str "aa")) ag)))) ag))) (ah bB (ah cg (ae 3) (af (.int 3))) (af (.int 2)))) ag))) (af (.str "")))) (ay (af (.bl false))) aT)
  (bI (d5 cn cG (ae 1) (aj (aC jB (aj (ae 0) ag)) ag)))))
def om:Fn:=aD 3 5
  (ao (cy (hJ (ae 2)) (.nm 3) lj)
  (ay (af (.bl true))))
def lq:Fn:=aD 1 1
  (ay (aC aJ (aj (Sm.sFld 0 0 (ae 0)) ag)))
def lr:Fn:=aD 1 1
  (ay (Sm.sFld 1 0 (ae 0)))
def iZ:Fn:=aD 4 7
  (ao (aB 4 (ah aw (aN (aj (ah bH (ae 2) (af (.int 1))) (aj (ah aE (ae 2) (af (.int 1))) ag))) (aC bJ (aj (ah aG (ae 1) (af (.str "again"))) ag))))
  (ao (aB 5 (ah aw (aN (aj (af (.str "")) (aj (af (.str "NothingDone")) ag))) (aC bJ (aj (hE (dU bC dS (af (.int 0)) (ae 4) (aC aJ (aj (ae 3) ag)))) ag))))
  (ao (aB 6 (aI 0 lq (aI 1 lr (ae 0) ag) ag))
  (ao (aS (aM (ah fR (aC ia (aj (ae 0) (aj (bu (aj (ae 1) ag)) ag))) (ae 5))) (ay (af .non)) aT)
  (ao (aS (aM (ah fR (ae 5) (af (.str "")))) (aB 4 (ae 2)) aT)
  (ao (aS (nz (aM (ah fR (aC jB (aj (ae 0) ag)) (ah aw (ae 3) (ae 4)))) (aM (ah fR (aI 0 lq (aI 1 lr (ae 0) ag) ag) (ae 6)))) (ay (af .non)) aT)
  (ay (ae 4))))))))
def oo:SS :=
  (ao (pU (.tup [6,7,8]) (aC nW (aj (aC iB (aj (aN (aj (ae 5) (aj (ae 4) ag))) (aj (af (.int 0)) ag))) (aj (ae 2) ag))))
  (aS (aM (ah aG (ae 7) (af (.str "")))) (ao (aS (aM (ah fR (aC ia (aj (ae 1) (aj (ae 6) ag))) (af (.str "")))) (ay (af (.bl false))) aT)
  (ao (aB 2 (ae 8))
  (bI (d5 cn cG (ae 3) (aj (aC jB (aj (ae 1) ag)) ag))))) aT))
def mK:SS :=
  (ao (aB 10 (aC iZ (aj (ae 1) (aj (ae 12) (aj (ae 10) (aj (ae 3) ag))))))
  (aS (aM (ah gG (ae 10) (af .non))) (ay (af (.bl false))) aT))
def oq:SS :=
  (cy (hJ (aC bD (aj (ae 9) (aj (ah aE (aC aJ (aj (ae 3) ag)) (af (.int 2))) ag)))) (.nm 13) mK)
def ot:SS :=
  (cy (cW (aN (aj (af (.str "back")) (aj (af (.str "again")) ag)))) (.nm 12) oq)
def lA:SS :=
  (ao (aB 10 (aC iZ (aj (ae 1) (aj (af (.str "back")) (aj (ae 10) (aj (ae 3) ag))))))
  (aS (aM (ah gG (ae 10) (af .non))) (ay (af (.bl false))) aT))
def uO:Fn:=aD 1 14
  (ao (aB 1 (lV 1 4 mB ag))
  (ao (aB 2 (kJ false))
  (ao (aB 3 (gE (aj (aN ag) ag)))
  (ao (cy (Sm.iEnum (ah aE (cz (ae 0) none (some (af (.int 30)))) (aN (aj (af (.int 0)) (aj (af (.int 1)) ag))))) (.tup [4,5]) oo)
  (ao (aB 9 (aC iB (aj (ae 0) (aj (af (.int 1)) ag))))
  (ao (aS (dG (iP (aC om (aj (ae 1) (aj (ae 3) (aj (ah aw (aN (aj (af (.int 0)) (aj (af (.int 0)) (aj (af (.int 20)) (aj (af (.int 300)) ag))))) (aC bD (aj (ae 9) (aj (af (.int 4)) ag)))) ag)))))) (ay (af (.bl false))) aT)
  (ao (aB 10 (ah bH (aC aJ (aj (ae 3) ag)) (af (.int 1))))
  (ao (cy (hJ (ah aE (af (.int 1)) (aC bD (aj (ae 9) (aj (af (.int 3)) ag))))) (.nm 11) ot)
  (ao (cy (hJ (ah aE (aC aJ (aj (ae 3) ag)) (af (.int 1)))) (.nm 13) lA)
  (ay (jS (ah aG (ae 10) (af (.int 0))) (ah aG (aI 1 iY (ae 1) ag) (aN ag)))))))))))))
end Sk
set_option exponentiation.threshold 2000
namespace Sk
open PySem PySem.Spec L2 Sm
theorem z9 {w:Option Nat} {all:List AV} {t:Tg} {b:SS} (P:Nat->En->AH->Prop):∀ (xs:List AV) (i:Nat) (en:En) (h:AH),P i en h ->
  (∀ i en h,P i en h->fS w all h=true) ->
  (∀ (j:Nat) (x:AV) (en:En) (h:AH),xs[j]? = some x->P (i+j) en h->∃ e1 e2 h2,fg t x en=some e1/\(b e1 h = .nx e2 h2\/b e1 h = .ct e2 h2)/\P (i+j+1) e2 h2) ->
  ∃ e' h',gu w all t b xs en h = .nx e' h'/\P (i+xs.length) e' h'
 | [],i,en,h,p,lv,_=>⟨en,h,by unfold gu;rw [M8 (lv _ _ _ p)],p⟩
 | x::xs,i,en,h,p,lv,s=>by
  obtain ⟨e1,e2,h2,q1,q2,q3⟩:=s 0 x en h rfl p
  obtain ⟨e',h',r1,r2⟩:=z9 P xs (i+1) e2 h2 q3 lv λj y en h e q=>by
   have:=s (j+1) y en h (by simpa using e) (by rw [show i+(j+1)=i+1+j by lia];exact q)
   rw [show i+(j+1)+1=i+1+j+1 by lia] at this
   exact this
  refine ⟨e',h',?_,by rw [NZ,show i+(xs.length+1)=i+1+xs.length by lia];exact r2⟩
  unfold gu
  rw [M8 (lv _ _ _ p)];simp only [q1]
  rcases q2 with q2 | q2
  ·rw [q2];exact r1
  ·rw [q2];exact r1
theorem uP {α:Type} {js:List Nat} {en:En} {w:Option Nat} {all:List AV} {c:SB} {e:SE} {g f:α->AV} {p:α->Bool} {h:AH} (lv:fS w all h=true):∀ (cs:List α) (ys:List AV),(∀ x∈cs,c (some (g x)::js.map λj=>(en[j]?).join) h = .ok (p x) h)->(∀ x∈cs,p x=true->e (some (g x)::js.map λj=>(en[j]?).join) h = .ok (f x) h)->ys.length+cs.length<=sizeLine ->
  eu js en w all c e (cs.map g) ys h = .ok (ys++(cs.filter p).map f) h
 | [],ys,_,_,_=>by rw [O8];unfold eu;rw [M8 lv];simp
 | x::xs,ys,hc,he,hl=>by
  have hl':ys.length<sizeLine:=by simp at hl;lia
  rw [NG];unfold eu
  rw [M8 ⟨lv,hl'⟩,hc x (by simp)]
  cases hp:p x with
  | false =>
   dsimp only;rw [uP lv xs ys (λy hy=>hc y (by simp [hy])) (λy hy=>he y (by simp [hy])) (by simp at hl ⊢;lia)]
   simp [OH,hp]
  | true =>
   dsimp only;rw [he x (by simp) hp]
   dsimp only;rw [uP lv xs (ys++[f x]) (λy hy=>hc y (by simp [hy])) (λy hy=>he y (by simp [hy])) (by simp at hl ⊢;lia)]
   simp [OH,hp]
variable {α:Type} {en:En} {h h1 h' h2 hh:AH}
theorem Iz {js:List Nat} {w:Option Nat} {all:List AV} {e:SE} {g f:α->AV} (lv:fS w all h=true) (cs:List α) (ys:List AV) (he:∀ x∈cs,e (some (g x)::js.map λj=>(en[j]?).join) h = .ok (f x) h) (hl:ys.length+cs.length<=sizeLine) :
  eu js en w all bZ e (cs.map g) ys h = .ok (ys++cs.map f) h:=by
 rw [uP (p:=λ_=>true) lv cs ys (λ_ _=>rfl) (λx hx _=>he x hx) hl,List.filter_eq_self.mpr (λ_ _=>rfl)]
@[simp] def thn (o:OutS) (Q:En->AH->Prop):Prop:=match o with
 | .nx e h=>Q e h
 | .ct e h=>Q e h
 | _=>False
theorem IB {o:OutS} {Q:En->AH->Prop} (t:thn o Q):∃ e h,(o = .nx e h\/o = .ct e h)/\Q e h:=by
 cases o with
 | nx e h=>exact ⟨e,h,.inl rfl,t⟩
 | ct e h=>exact ⟨e,h,.inr rfl,t⟩
 | _=>exact t.elim
@[simp] def IC (o:Option En) (Q:En->Prop):Prop:=match o with
 | some e=>Q e
 | none=>False
variable {xs:List AV}
theorem jC {w:Option Nat} {all:List AV} {t:Tg} {b:SS} (P:Nat->En->AH->Prop) (p0:P 0 en h) (lv:∀ i en h,P i en h->fS w all h=true) (st:∀ (j:Nat) (x:AV) (en:En) (h:AH),xs[j]? = some x->P j en h->IC (fg t x en) λe1=>thn (b e1 h) (P (j+1))) :
  ∃ e' h',gu w all t b xs en h = .nx e' h'/\P xs.length e' h' := by
 have:=z9 (w:=w) (all:=all) (t:=t) (b:=b) P xs 0 en h p0 lv λj x en h hx hp=>by
  have q:=st j x en h hx (by simpa using hp)
  cases z:fg t x en with
  | none=>rw [z] at q;exact q.elim
  | some e1 =>
   rw [z] at q;obtain ⟨e,h2,a,c⟩:=IB q
   exact ⟨e1,e,h2,rfl,a,by simpa using c⟩
 simpa using this
@[simp] def ID (o:Out AV) (Q:AV->AH->Prop):Prop:=match o with
 | .ok v h=>Q v h
 | _=>False
theorem Aa {js:List Nat} {en:En} {all:List AV} {e:SE} (P:Nat->List AV->AH->Prop):∀ (xs ys:List AV) (i:Nat) (h:AH),P i ys h ->
  (∀ j x ys h,xs[j]? = some x->P (i+j) ys h->∃ v h2,e (some x::js.map λj=>(en[j]?).join) h = .ok v h2/\P (i+j+1) (ys++[v]) h2)->ys.length+xs.length<=sizeLine ->
  ∃ zs h',eu js en none all bZ e xs ys h = .ok zs h'/\P (i+xs.length) zs h'
 | [],ys,i,h,p,_,_=>⟨ys,h,by simp [eu],p⟩
 | x::xs,ys,i,h,p,s,hl=>by
  obtain ⟨v,h2,q1,q2⟩:=s 0 x ys h rfl p
  obtain ⟨zs,h',r1,r2⟩:=Aa P xs (ys++[v]) (i+1) h2 q2 (λj y ys h hy hp=>by
   have:=s (j+1) y ys h (by simpa using hy) (by rw [show i+(j+1)=i+1+j by lia];exact hp)
   rw [show i+(j+1)+1=i+1+j+1 by lia] at this
   exact this) (by simp at hl ⊢;lia)
  refine ⟨zs,h',?_,by rw [NZ,show i+(xs.length+1)=i+1+xs.length by lia];exact r2⟩
  unfold eu
  rw [M8 ⟨rfl,by simp at hl;lia⟩]
  simp only [bZ]
  rw [q1];exact r1
theorem IE {js:List Nat} {all:List AV} {e:SE} (P:Nat->List AV->AH->Prop) (p0:P 0 [] h) (st:∀ j x ys h,xs[j]? = some x->P j ys h->ID (e (some x::js.map λj=>(en[j]?).join) h) λv h2=>P (j+1) (ys++[v]) h2) (hl:xs.length<=sizeLine) :
  ∃ zs h',eu js en none all bZ e xs [] h = .ok zs h'/\P xs.length zs h' := by
 have:=Aa (js:=js) (en:=en) (all:=all) (e:=e) P xs [] 0 h p0 (λj x ys h hx p=>by
  have q:=st j x ys h hx (by simpa using p)
  cases z:e (some x::js.map λj=>(en[j]?).join) h with
  | ok v h2=>rw [z] at q;exact ⟨v,h2,rfl,by simpa using q⟩
  | ex _ _=>rw [z] at q;exact q.elim
  | bad=>rw [z] at q;exact q.elim) (by simpa using hl)
 simpa using this
theorem uQ:∀ (n:Nat) (lo:Int) (i:Nat),(cP lo n)[i]? = if i<n then some (.int (lo+i)) else none
 | 0,lo,i=>by simp [cP]
 | n+1,lo,0=>by simp [cP]
 | n+1,lo,i+1=>by
  unfold cP
  rw [Qo,uQ n (lo+1) i];by_cases q:i<n
  ·rw [M8 q,M8 (by lia)];congr 2;lia
  ·rw [M9 q,M9 (by lia)]
theorem lB:∀ (n:Nat) (lo:Int),(cP lo n).length=n
 | 0,_=>rfl
 | n+1,lo=>by unfold cP;rw [NZ,lB n]
variable {n e b a i j p d k2 k1 n1 c L hb K r' D:Nat}
theorem mL {a:SE} (e:a en h = .ok (.int n) h1) (hn:n<=10000000):hJ a en h = .ok (cP 0 n,none) h1:=by
 have h1':(n:Int).natAbs<2 ^ 62:=by lia
 simp only [hJ,e,Out.bind]
 rw [M8 h1'];rfl
theorem jD {it:SI} {t:Tg} {b:SS} {w:Option Nat} (e:it en h = .ok (xs,w) h1):cy it t b en h=gu w xs t b xs en h1:=by simp only [cy,e]
theorem IF {i j:Int} (hi:i.natAbs<2 ^ 64):bL (.int i) (.int j) h = .ok (.int (i*j)) h:=M8 (.inl (.inl hi))
theorem Ab {i j:Int} (hj:j.natAbs<2 ^ 64):bL (.int i) (.int j) h = .ok (.int (i*j)) h:=M8 (.inl (.inr hj))
theorem IG {f:α->AV} {l:List α} {q:α} (e:l[j]? = some q):atI (l.map f) (j:Int)=some (f q):=kz (by simp [e])
end Sk
set_option exponentiation.threshold 5000
namespace Sk
open PySem PySem.Spec L2 Sm
def mM (c:Nat):Bool:=decide (c=10) || (decide (32<=c) && decide (c<=126))
theorem Ac (a b:Nat):([a]<[b]) ↔ a<b:=by
 simp [List.cons_lt_cons_iff]
theorem Ad:(Str.ofString "\n")=⟨#[10]⟩:=by decide +kernel
theorem IH:(Str.ofString " ")=⟨#[32]⟩:=by decide +kernel
theorem II:(Str.ofString "~")=⟨#[126]⟩:=by decide +kernel
theorem IJ (c:Nat) (h:AH):n8 [.str ⟨#[c]⟩] h = .ok (.bl (mM c)) h:=by
 simp [n8,Ad,IH,II,Ac,mM]
 by_cases h1:c=10
 ·simp [h1]
 ·by_cases h2:c<32
  ·have : ¬ 32<=c:=by lia
   simp [h1,h2,this]
  ·have h3:32<=c:=by lia
   by_cases h4:c<=126
   ·have : ¬ 126<c:=by lia
    simp [h1,h2,h3,h4,this]
   ·have:126<c:=by lia
    simp [h1,h2,h3,h4,this]
theorem qK {α:Type} {js:List Nat} {en:En} {all:List AV} {e:SE} {g f:α->AV} {h:AH}:∀ (cs:List α) (ys:List AV),(∀ c∈cs,e (some (g c)::js.map λj=>(en[j]?).join) h = .ok (f c) h)->ys.length+cs.length<=sizeLine->eu js en none all bZ e (cs.map g) ys h = .ok (ys++cs.map f) h
 | [],ys,_,_=>by simp [eu]
 | x::xs,ys,he,hl=>by
  have hl':ys.length<sizeLine:=by simp at hl;lia
  rw [NG];unfold eu
  rw [M8 ⟨rfl,hl'⟩];simp only [bZ]
  rw [he x (by simp)]
  dsimp only;rw [qK xs (ys++[f x]) (λy hy=>he y (by simp [hy])) (by simp at hl ⊢;lia)]
  simp
theorem uR (f:Nat->Bool):∀ cs:List Nat,nB (cs.map λc=>.bl (f c))=some (cs.map f)
 | []=>rfl
 | c::cs=>by simp [uR f cs]
def cf (x:Str):Bool:=x.cps.toList.all mM
theorem Ae (x:Str) (h:AH) (hl:x.length<=sizeLine):n9 [.str x] h = .ok (.bl (cf x)) h:=by
 have e:=qK (js:=[]) (en:=[some (.str x)]) (all:=x.cps.toList.map λc=>AV.str ⟨#[c]⟩) (e:=aC n8 (aj (ae 0) ag)) (g:=λc=>AV.str ⟨#[c]⟩) (f:=λc=>AV.bl (mM c)) (h:=h) x.cps.toList [] (by
  intro c hc
  simp [IJ]) (by simp;exact hl)
 simp only [Ph] at e
 simp [n9]
 rw [e];simp [uR,cf]
def fL (x:Str):Bool:=cf x && (decide (1<=x.length) && decide (x.length<=8))
theorem Af (x:Str) (h:AH) (hl:x.length<=sizeLine):qw [.str x] h = .ok (.bl (fL x)) h:=by
 simp [qw,Ae x h hl,fL]
 by_cases h1:cf x=true
 ·by_cases h2:1<=x.length
  ·have:(1:Int)<=x.length:=by lia
   by_cases h3:x.length<=8
   ·have:(x.length:Int)<=8:=by lia
    simp [*]
   ·have : ¬ (x.length:Int)<=8:=by lia
    simp [*]
  ·have : ¬ (1:Int)<=x.length:=by lia
   simp [*]
 ·simp [h1]
def jE (x:Str):Nat:=(Builtin.Str.occurrences x ⟨#[10]⟩ 0 x.length (x.length+1)).length
theorem IK (x:Str) (h:AH):qx [.str x] h = .ok (.int (jE x)) h:=by
 simp [qx,Ad,jE]
theorem IL (i:Int) (h:AH):qu [.int i] h = .ok (.bl true) h:=by
 simp [qu]
inductive Pc where
 | leaf (x:Str)
 | fork (a b:Nat)
 deriving DecidableEq
def Pc.av:Pc->AV
 | .leaf x=>.tup [.str "leaf",.str x]
 | .fork a b=>.tup [.str "fork",.int a,.int b]
theorem Pc.av_inj:∀ {p q:Pc},p.av=q.av->p=q
 | .leaf x,.leaf y,e=>by simp [Pc.av] at e;rw [e]
 | .leaf x,.fork a b,e=>by simp [Pc.av] at e
 | .fork a b,.leaf x,e=>by simp [Pc.av] at e
 | .fork a b,.fork c d,e=>by simp [Pc.av] at e;rw [Int.ofNat.inj e.1,Int.ofNat.inj e.2]
structure Ms where
 sg:Nat
 en:Nat
 lv:Nat
 ht:Int
 fl:Nat
 ll:Nat
def ms0:Ms:=⟨0,0,0,-1,0,0⟩
def iF (ms:List Ms):Pc->Ms
 | .leaf x=>⟨x.length,jE x,1,0,ms.length,ms.length⟩
 | .fork a b=>⟨(ms.getD a ms0).sg+(ms.getD b ms0).sg,(ms.getD a ms0).en+(ms.getD b ms0).en,(ms.getD a ms0).lv+(ms.getD b ms0).lv,max (ms.getD a ms0).ht (ms.getD b ms0).ht+1,(ms.getD a ms0).fl,(ms.getD b ms0).ll⟩
def meas (ps:List Pc):List Ms:=ps.foldl (λms q=>ms++[iF ms q]) [ms0]
theorem uS (ps:List Pc) (q:Pc):meas (ps++[q])=meas ps++[iF (meas ps) q]:=by simp [meas]
theorem eV:∀ ps:List Pc,(meas ps).length=ps.length+1:=by
 have all:∀ (ps:List Pc) (ms:List Ms),(ps.foldl (λms q=>ms++[iF ms q]) ms).length=ms.length+ps.length:=by
  intro ps
  induction ps with
  | nil=>intro ms;rfl
  | cons q r ih=>intro ms;rw [QG,ih];simp;lia
 intro ps
 rw [meas,all];simp;lia
def fZ (k:Nat):List Pc->List (AV×AV)
 | []=>[]
 | q::r=>(q.av,.int k)::fZ (k+1) r
def eP (ps:List Pc):List (AV×AV):=fZ 1 ps
theorem qL (q:Pc):∀ (ps:List Pc) (k:Nat),fZ k (ps++[q])=fZ k ps++[(q.av,.int ((k+ps.length:Nat):Int))]
 | [],k=>by simp [fZ]
 | p::r,k=>by
  simp only [List.cons_append,fZ,qL q r (k+1)]
  rw [show k+1+r.length=k+(p::r).length by simp;lia]
theorem Ag:∀ (ps:List Pc) (k:Nat),(fZ k ps).length=ps.length
 | [],_=>rfl
 | p::r,k=>by simp [fZ,Ag r]
theorem qM {q:Pc}:∀ {ps:List Pc} {k:Nat},q∉ps->bF (fZ k ps) q.av=none
 | [],k,_=>rfl
 | p::r,k,h=>by
  have h1 : ¬ p.av=q.av:=λe=>h (by rw [Pc.av_inj e];simp)
  have h2:=qM (q:=q) (ps:=r) (k:=k+1) λz=>h (by simp [z])
  unfold bF at h2 ⊢
  simp only [fZ,NY,NF h1]
  exact h2
theorem uT {q:Pc}:∀ {ps:List Pc} {k i:Nat},ps.Nodup->ps[i]? = some q->bF (fZ k ps) q.av=some (.int ((k+i:Nat):Int))
 | [],k,i,_,e=>by simp at e
 | p::r,k,0,n,e=>by simp at e;subst e;simp [bF,fZ]
 | p::r,k,i+1,n,e=>by
  simp at e
  have h1 : ¬ p.av=q.av:=λz=>(N8.mp n).1 (by rw [Pc.av_inj z];exact ND e)
  have h2:=uT (q:=q) (k:=k+1) (N8.mp n).2 e
  unfold bF at h2 ⊢
  simp only [fZ,NY,NF h1]
  rw [h2];congr 3
  lia
variable {q:Pc} {ps ps' ps1:List Pc}
theorem IM (h:q∉ps):eB (eP ps) q.av (.int ((ps.length+1:Nat):Int))=eP (ps++[q]):=by
 unfold eB
 rw [ui,eP,qM h,eP,qL];simp [Pa]
structure ShelfAt (h:AH) (p:Nat) (ps:List Pc):Prop where
 ob:h[p]? = some (.ins 0 [some (.ref (p+1)),some (.ref (p+2)),some (.ref (p+3)),some (.ref (p+4)),some (.ref (p+5)),some (.ref (p+6)),some (.ref (p+7)),some (.ref (p+8))])
 h1:h[p+1]? = some (.lst (ps.map Pc.av))
 h2:h[p+2]? = some (.dct true (eP ps))
 h3:h[p+3]? = some (.lst ((meas ps).map λm=>.int m.sg))
 h4:h[p+4]? = some (.lst ((meas ps).map λm=>.int m.en))
 h5:h[p+5]? = some (.lst ((meas ps).map λm=>.int m.lv))
 h6:h[p+6]? = some (.lst ((meas ps).map λm=>.int m.ht))
 h7:h[p+7]? = some (.lst ((meas ps).map λm=>.int m.fl))
 h8:h[p+8]? = some (.lst ((meas ps).map λm=>.int m.ll))
def gA (h:AH) (p:Nat) (ps:List Pc):AH :=
 (((((((h.set (p+1) (.lst (ps.map Pc.av))).set (p+2) (.dct true (eP ps))).set (p+3) (.lst ((meas ps).map λm=>.int m.sg))).set (p+4) (.lst ((meas ps).map λm=>.int m.en))).set (p+5) (.lst ((meas ps).map λm=>.int m.lv))).set
  (p+6) (.lst ((meas ps).map λm=>.int m.ht))).set (p+7) (.lst ((meas ps).map λm=>.int m.fl))).set (p+8) (.lst ((meas ps).map λm=>.int m.ll))
variable {h h1 h' h2 hh:AH} {i e b a n j p d k2 k1 n1 c L hb K r' D:Nat}
theorem cL {o:AO} (e:h[i]? = some o):i<h.length:=(MY.mp e).1
theorem Ah (h:AH) (p:Nat) (ps:List Pc):(gA h p ps).length=h.length:=by simp [gA]
theorem Ai {q:Nat} (hq:q<=p\/p+8<q):(gA h p ps)[q]? = h[q]? := by
 unfold gA
 repeat rw [M5 (by lia)]
theorem qN (S:ShelfAt h p ps):ShelfAt (gA h p ps') p ps' := by
 have b:=cL S.h8
 have l1:p+1<h.length:=Nl (Nx (by decide) p) b
 have l2:p+2<h.length:=Nl (Nx (by decide) p) b
 have l3:p+3<h.length:=Nl (Nx (by decide) p) b
 have l4:p+4<h.length:=Nl (Nx (by decide) p) b
 have l5:p+5<h.length:=Nl (Nx (by decide) p) b
 have l6:p+6<h.length:=Nl (Nx (by decide) p) b
 have l7:p+7<h.length:=Nl (Nx (by decide) p) b
 have ob:=S.ob
 constructor<;>simp [gA,P6,l1,l2,l3,l4,l5,l6,l7,b,ob,-List.getElem?_eq_getElem]
variable {α:Type}
theorem uU (l:List α) (f:α->AV):(l.map f).length=l.length:=by simp
theorem Aj (S:ShelfAt h p ps):lq [.ref p] h = .ok (.int ps.length) h:=by
 simp [lq,S.ob,S.h1]
theorem IP {i:Int} (S:ShelfAt h p ps):qv [.ref p,.int i] h = .ok (.bl (decide (1<=i/\i<=ps.length))) h:=by
 simp [qv,IL,S.ob,S.h1]
 by_cases h1:1<=i<;>simp [h1]
theorem qO {i:Int} (S:ShelfAt h p ps) (hi:1<=i/\i<=ps.length):kZ [.ref p,.int i] h = .ok .non h:=by
 simp [kZ,IP S,S.ob,hi.1,hi.2]
theorem gT {f:α->AV} {l:List α} {q:α} (e:l[j]? = some q):atI (l.map f) (j:Int)=some (f q):=kz (by simp [e])
theorem IQ (S:ShelfAt h p ps) (e:ps[j]? = some q):eU [.ref p,.int ((j:Int)+1)] h = .ok q.av h:=by
 have hj:=(MY.mp e).1
 have h1:=qO S (i:=(j:Int)+1) ⟨by lia,by lia⟩
 simp [eU,h1,S.ob,S.h1,gT e]
theorem Ak (S:ShelfAt h p ps) (hq:q∉ps) (hl:ps.length<16000000) :
  nZ [.ref p,q.av] h = .ok (.int ((ps.length+1:Nat):Int)) ((h.set (p+1) (.lst ((ps++[q]).map Pc.av))).set (p+2) (.dct true (eP (ps++[q])))):=by
 have b:=cL S.h8
 have hs:ps.length<sizeLine:=PQ hl (by decide)
 have ht:(eP ps).length<sizeLine:=by rw [eP,Ag];exact hs
 have hk:d0 true q.av=true:=by cases q<;>simp [Pc.av]
 have e1:(h.set (p+1) (.lst (ps.map Pc.av++[q.av])))[p]? = h[p]? := M5 (by lia)
 have e2:(h.set (p+1) (.lst (ps.map Pc.av++[q.av])))[p+1]? = some (.lst (ps.map Pc.av++[q.av])):=Na (by lia)
 have e3:(h.set (p+1) (.lst (ps.map Pc.av++[q.av])))[p+2]? = h[p+2]? := M5 (by lia)
 have tp:=IM hq
 simp [nZ,S.ob,S.h1,hs,e1,e2,e3,S.h2,hk,ht,-d0]
 rw [show ((ps.length:Int)+1)=((ps.length+1:Nat):Int) by simp,tp]
variable {x w y:Str}
theorem IS (S:ShelfAt h p ps) (hq:Pc.leaf x∉ps) (hl:ps.length<16000000) :
  oa [.ref p,(Pc.leaf x).av] h = .ok .non (gA h p (ps++[.leaf x])):=by
 have b:=cL S.h8
 have hs:ps.length+1<sizeLine:=Nq (Nat.succ_lt_succ hl) (by decide)
 have hm:(meas ps).length<sizeLine:=by rw [eV];exact hs
 have e:=Ak S hq hl
 have b2:((meas ps).length:Int)=(ps.length:Int)+1:=by rw [eV];simp
 have e2:aw (Pc.leaf x).av (.int 1)=λh=>Out.ok (.str x) h:=by funext h;rfl
 have l1:p+1<h.length:=by lia
 have l2:p+2<h.length:=by lia
 have l3:p+3<h.length:=by lia
 have l4:p+4<h.length:=by lia
 have l5:p+5<h.length:=by lia
 have l6:p+6<h.length:=by lia
 have l7:p+7<h.length:=by lia
 simp [oa,e,S.ob,S.h3,S.h4,S.h5,S.h6,S.h7,S.h8,hm,IK,P6,uS,iF,gA,e2,eV,hs,-aw,-List.getElem?_eq_getElem]
theorem Al {l:List α} {d x:α} (e:l[i]? = some x):l.getD i d=x:=by simp [List.getD,e]
variable {ma mb f l la fb fa lb mc md:Ms}
theorem IT (S:ShelfAt h p ps) (hq:Pc.fork a b∉ps) (hl:ps.length<16000000) (ha:(meas ps)[a]? = some ma) (hb:(meas ps)[b]? = some mb) :
  n5 [.ref p,(Pc.fork a b).av] h = .ok .non (gA h p (ps++[.fork a b])):=by
 have bb:=cL S.h8
 have hs:ps.length+1<sizeLine:=Nq (Nat.succ_lt_succ hl) (by decide)
 have hm:(meas ps).length<sizeLine:=by rw [eV];exact hs
 have e:=Ak S hq hl
 have e2:aw (Pc.fork a b).av (.int 1)=λh=>Out.ok (.int a) h:=by funext h;rfl
 have e3:aw (Pc.fork a b).av (.int 2)=λh=>Out.ok (.int b) h:=by funext h;rfl
 have l1:p+1<h.length:=by lia
 have l2:p+2<h.length:=by lia
 have l3:p+3<h.length:=by lia
 have l4:p+4<h.length:=by lia
 have l5:p+5<h.length:=by lia
 have l6:p+6<h.length:=by lia
 have l7:p+7<h.length:=by lia
 have fx:∀ (n:Nat) (g:Ms->AV) (h':AH),h'[n]? = some (.lst ((meas ps).map g))->aw (.ref n) (.int a) h' = .ok (g ma) h'/\aw (.ref n) (.int b) h' = .ok (g mb) h' := λn g h' e=>by
  simp [aw,e,gT ha,gT hb]
 have f3:=λ(h':AH) (e:h'[p+3]? = some (.lst ((meas ps).map λm=>.int m.sg)))=>fx _ _ h' e
 have f4:=λ(h':AH) (e:h'[p+4]? = some (.lst ((meas ps).map λm=>.int m.en)))=>fx _ _ h' e
 have f5:=λ(h':AH) (e:h'[p+5]? = some (.lst ((meas ps).map λm=>.int m.lv)))=>fx _ _ h' e
 have f6:=λ(h':AH) (e:h'[p+6]? = some (.lst ((meas ps).map λm=>.int m.ht)))=>fx _ _ h' e
 have f7:=λ(h':AH) (e:h'[p+7]? = some (.lst ((meas ps).map λm=>.int m.fl)))=>fx _ _ h' e
 have f8:=λ(h':AH) (e:h'[p+8]? = some (.lst ((meas ps).map λm=>.int m.ll)))=>fx _ _ h' e
 have hmax:∀ i j:Int,(if j > i then j else i)=max i j:=λi j=>by split<;>lia
 simp [n5,e,S.ob,S.h3,S.h4,S.h5,S.h6,S.h7,S.h8,hm,P6,uS,iF,gA,e2,e3,eV,hs,gT ha,gT hb,Al ha,Al hb,-aw,-List.getElem?_eq_getElem,-List.getD_eq_getElem?_getD,f3,f4,f5,f6,f7,f8,hmax]
theorem uV (S:ShelfAt h p ps) (nd:ps.Nodup) (hx:fL x=true) (hl:x.length<=sizeLine) (e:ps[i]? = some (.leaf x)):d6 [.ref p,.str x] h = .ok (.int ((i+1:Nat):Int)) h:=by
 have t:=uT (k:=1) nd e
 have t':bF (eP ps) (.tup [.str "leaf",.str x])=some (.int ((i+1:Nat):Int)):=by rw [Pa];exact t
 simp [d6,Af x h hl,hx,S.ob,S.h2,t']
theorem IU (S:ShelfAt h p ps) (hx:fL x=true) (hl:x.length<=sizeLine) (hq:Pc.leaf x∉ps) (hz:ps.length<16000000):d6 [.ref p,.str x] h = .ok (.int ((ps.length+1:Nat):Int)) (gA h p (ps++[.leaf x])):=by
 have t:bF (eP ps) (.tup [.str "leaf",.str x])=none:=qM (q:=.leaf x) (k:=1) hq
 have S2:=qN (ps' := ps++[.leaf x]) S
 have e:=IS S hq hz
 have t2:bF (eP (ps++[.leaf x])) (.tup [.str "leaf",.str x])=some (.int ((ps.length+1:Nat):Int)):=by
  unfold eP
  rw [qL];unfold bF at t ⊢
  rw [Ry];have t3:(fZ 1 ps).find? (λp=>decide (p.1 = .tup [.str "leaf",.str x]))=none:=by simpa [eP] using t
  rw [t3];simp [Pc.av,Pa]
 have e':oa [.ref p,.tup [.str "leaf",.str x]] h = .ok .non (gA h p (ps++[.leaf x])):=e
 simp [d6,Af x h hl,hx,S.ob,S.h2,t,e',S2.ob,S2.h2,t2]
theorem IV (S:ShelfAt h p ps) (ha:(meas ps)[a]? = some ma) (hb:(meas ps)[b]? = some mb) (pa:1<=a) (pb:1<=b) (hla:(meas ps)[ma.ll]? = some la) (hfb:(meas ps)[mb.fl]? = some fb) (d1 : ¬ la.sg+fb.sg<=8) (d2 : ¬ 1<(ma.ht-mb.ht).natAbs) (d3 : ¬ 1000000000000000000<ma.sg+mb.sg) :
  nY [.ref p,.int a,.int b] h = .ok .non h:=by
 have la_:=(MY.mp ha).1
 have lb_:=(MY.mp hb).1
 rw [eV] at la_ lb_;have c1:=qO S (i:=(a:Int)) ⟨by lia,by lia⟩
 have c2:=qO S (i:=(b:Int)) ⟨by lia,by lia⟩
 have d1' : ¬ ((la.sg:Int)+fb.sg)<=8:=by lia
 have d2' : ¬ (1:Int)<(if ma.ht-mb.ht<0 then -(ma.ht-mb.ht) else ma.ht-mb.ht):=by split<;>lia
 have d3' : ¬ (1000000000000000000:Int)<(ma.sg:Int)+mb.sg:=by lia
 simp [nY,c1,c2,S.ob,S.h3,S.h5,S.h6,S.h7,S.h8,gT ha,gT hb,gT hla,gT hfb,d1',d2',d3',-Int.neg_sub]
structure ForkOk (ps:List Pc) (a b:Nat):Prop where
 pa:1<=a
 pb:1<=b
 ex:∃ ma mb la fb,(meas ps)[a]? = some ma/\(meas ps)[b]? = some mb/\(meas ps)[ma.ll]? = some la/\(meas ps)[mb.fl]? = some fb/\8<la.sg+fb.sg/\(ma.ht-mb.ht).natAbs<=1/\ma.sg+mb.sg<=1000000000000000000
theorem Am (S:ShelfAt h p ps) (F:ForkOk ps a b):nY [.ref p,.int a,.int b] h = .ok .non h:=by
 obtain ⟨ma,mb,la,fb,h1,h2,h3,h4,h5,h6,h7⟩:=F.ex
 exact IV S h1 h2 F.pa F.pb h3 h4 (by lia) (by lia) (by lia)
theorem uW (S:ShelfAt h p ps) (nd:ps.Nodup) (F:ForkOk ps a b) (e:ps[i]? = some (.fork a b)):bA [.ref p,.int a,.int b] h = .ok (.int ((i+1:Nat):Int)) h:=by
 have t:=uT (k:=1) nd e
 have t':bF (eP ps) (.tup [.str "fork",.int a,.int b])=some (.int ((i+1:Nat):Int)):=by rw [Pa];exact t
 simp [bA,Am S F,S.ob,S.h2,t']
theorem IW (S:ShelfAt h p ps) (F:ForkOk ps a b) (hq:Pc.fork a b∉ps) (hz:ps.length<16000000):bA [.ref p,.int a,.int b] h = .ok (.int ((ps.length+1:Nat):Int)) (gA h p (ps++[.fork a b])):=by
 have t:bF (eP ps) (.tup [.str "fork",.int a,.int b])=none:=qM (q:=.fork a b) (k:=1) hq
 have S2:=qN (ps' := ps++[.fork a b]) S
 obtain ⟨ma,mb,la,fb,h1,h2,_⟩:=F.ex
 have e:=IT S hq hz h1 h2
 have t2:bF (eP (ps++[.fork a b])) (.tup [.str "fork",.int a,.int b])=some (.int ((ps.length+1:Nat):Int)):=by
  unfold eP
  rw [qL];unfold bF at t ⊢
  rw [Ry];have t3:(fZ 1 ps).find? (λp=>decide (p.1 = .tup [.str "fork",.int a,.int b]))=none:=by simpa [eP] using t
  rw [t3];simp [Pc.av,Pa]
 have e':n5 [.ref p,.tup [.str "fork",.int a,.int b]] h = .ok .non (gA h p (ps++[.fork a b])):=e
 simp [bA,Am S F,S.ob,S.h2,t,e',S2.ob,S2.h2,t2]
def qP (n:Nat):List AO:=[.ins 0 [some (.ref (n+1)),some (.ref (n+2)),some (.ref (n+3)),some (.ref (n+4)),some (.ref (n+5)),some (.ref (n+6)),some (.ref (n+7)),some (.ref (n+8))],.lst [],.dct true [],.lst [.int 0],.lst [.int 0],.lst [.int 0],.lst [.int (-1)],.lst [.int 0],.lst [.int 0]]
theorem IX {o o':AO} {r:AH}:(h++o::r).set h.length o'=h++o'::r:=by
 induction h with
 | nil=>rfl
 | cons x t ih=>simp [ih]
theorem An {r:AH} {k:Nat}:(h++r)[h.length+k]? = r[k]? := by
 rw [NC (by lia)];simp
theorem IY (h r:AH):ShelfAt (h++(qP h.length++r)) h.length []:=by
 refine ⟨?_,?_,?_,?_,?_,?_,?_,?_,?_⟩
 ·rw [show h.length=h.length+0 from rfl,An];rfl
 all_goals (rw [An];rfl)
theorem Ao (x:Str) (c i:Nat) (hi:i<x.length):Builtin.Str.subAt x ⟨#[c]⟩ i=decide (x.cps.toList[i]? = some c):=by
 have hi':i<x.cps.size:=hi
 unfold Builtin.Str.subAt
 have e:x.cps.extract i (i+1) = #[x.cps[i]]:=by
  apply Array.ext
  ·simp;lia
  ·intro j h1 h2
   have:j=0:=by simp at h2;lia
   subst this;simp
 show (x.cps.extract i (i+1) == #[c])=_
 rw [e];have:x.cps.toList[i]? = some x.cps[i]:=by simp [hi']
 rw [this];by_cases q:x.cps[i]=c
 ·simp [q]
 ·simp [q]
theorem qQ (x:Str) (c:Nat):∀ (n i:Nat) (st:Array Nat×Nat),i+n=x.length+1->st.2<=i->st.1.size<=i->(forIn (List.range' i n) st (StrLaws.occBody x ⟨#[c]⟩ x.length (x.length+1))).run.fst.size=st.1.size+(x.cps.toList.drop i).count c
 | 0,i,st,hn,_,_=>by
  rw [Oh (by simp;simp only [Str.length] at hn;lia)]
  simp
 | n+1,i,st,hn,h2,h3=>by
  rw [List.range'_succ,List.forIn_cons];unfold StrLaws.occBody
  by_cases hi:i<x.length
  ·have hi':i<x.cps.size:=hi
   have hd:x.cps.toList.drop i=x.cps[i]'hi'::x.cps.toList.drop (i+1):=by
    rw [P2 (show i<x.cps.toList.length by simpa using hi')];simp
   have hg:x.cps.toList[i]? = some (x.cps[i]'hi'):=by
    simp [hi']
   by_cases q:x.cps[i]'hi'=c
   ·have hs:Builtin.Str.subAt x ⟨#[c]⟩ i=true:=by rw [Ao x c i hi,hg,q];simp
    rw [M8 ⟨⟨⟨by lia,h2⟩,hi⟩,hs⟩]
    show (forIn (List.range' (i+1) n) (st.1.push i,i+1) (StrLaws.occBody x ⟨#[c]⟩ x.length (x.length+1))).run.fst.size=_
    rw [qQ x c n (i+1) _ (by lia) (MZ _) (by simp;lia),hd,q]
    simp;lia
   ·have hs:Builtin.Str.subAt x ⟨#[c]⟩ i=false:=by rw [Ao x c i hi,hg];simp [q]
    rw [M9 (by simp [hs])]
    show (forIn (List.range' (i+1) n) (st.1,st.2) (StrLaws.occBody x ⟨#[c]⟩ x.length (x.length+1))).run.fst.size=_
    rw [qQ x c n (i+1) _ (by lia) (by show st.2<=i+1;lia) (by show st.1.size<=i+1;lia),hd]
    simp [q]
  ·rw [M9 (by rintro ⟨⟨_,z⟩,_⟩;exact hi z)]
   show (forIn (List.range' (i+1) n) (st.1,st.2) (StrLaws.occBody x ⟨#[c]⟩ x.length (x.length+1))).run.fst.size=_
   rw [qQ x c n (i+1) _ (by lia) (by show st.2<=i+1;lia) (by show st.1.size<=i+1;lia)]
   rw [Oh (by simp;simp only [Str.length] at hi;lia),Oh (by simp;simp only [Str.length] at hi;lia)]
theorem IZ (x:Str) (c:Nat):(Builtin.Str.occurrences x ⟨#[c]⟩ 0 x.length (x.length+1)).length=x.cps.toList.count c:=by
 rw [StrLaws.occ_eq,OC];rw [show x.length+1-0=x.length+1 from rfl,qQ x c (x.length+1) 0 _ (by lia) (MZ _) (by simp)]
 simp
theorem uX (x:Str):jE x=x.cps.toList.count 10:=IZ x 10
theorem df (x y:Str):(x++y).cps.toList=x.cps.toList++y.cps.toList:=by
 show (x.cps++y.cps).toList=_
 simp
theorem I0 (x y:Str):jE (x++y)=jE x+jE y:=by
 rw [uX,uX,uX,df,List.count_append]
theorem cS (x:Str):x.length=x.cps.toList.length:=by simp [Str.length]
theorem d7 (x y:Str):(x++y).length=x.length+y.length:=by
 rw [cS,cS,cS,df,NL]
def lC (rs:List Str):Pc->Str
 | .leaf x=>x
 | .fork a b=>rs.getD a "" ++ rs.getD b ""
def reads (ps:List Pc):List Str:=ps.foldl (λrs q=>rs++[lC rs q]) [""]
theorem Ja (ps:List Pc) (q:Pc):reads (ps++[q])=reads ps++[lC (reads ps) q]:=by simp [reads]
theorem ou {α β:Type} (g:List β->α->β):∀ (qs:List α) (ms:List β),∃ r,qs.foldl (λms q=>ms++[g ms q]) ms=ms++r/\r.length=qs.length
 | [],ms=>⟨[],by simp,rfl⟩
 | q::qs,ms=>by
  obtain ⟨r,e,l⟩:=ou g qs (ms++[g ms q])
  exact ⟨g ms q::r,by rw [QG,e];simp,by simp [l]⟩
theorem qR (ps:List Pc):(reads ps).length=ps.length+1:=by
 obtain ⟨r,e,l⟩:=ou lC ps [""]
 rw [reads,e];simp [l,Pa]
theorem Jb (ps qs:List Pc):∃ r,meas (ps++qs)=meas ps++r:=by
 unfold meas
 rw [Rz];obtain ⟨r,e,_⟩:=ou iF qs (ps.foldl (λms q=>ms++[iF ms q]) [ms0])
 exact ⟨r,e⟩
theorem Jc (ps qs:List Pc):∃ r,reads (ps++qs)=reads ps++r:=by
 unfold reads
 rw [Rz];obtain ⟨r,e,_⟩:=ou lC qs (ps.foldl (λms q=>ms++[lC ms q]) [""])
 exact ⟨r,e⟩
theorem aZ (h:ps <+: ps') {m:Ms} (e:(meas ps)[n]? = some m):(meas ps')[n]? = some m:=by
 obtain ⟨qs,rfl⟩:=h
 obtain ⟨r,q⟩:=Jb ps qs
 rw [q,Nb (MY.mp e).1];exact e
theorem qS (h:ps <+: ps') {m:Str} (e:(reads ps)[n]? = some m):(reads ps')[n]? = some m:=by
 obtain ⟨qs,rfl⟩:=h
 obtain ⟨r,q⟩:=Jc ps qs
 rw [q,Nb (MY.mp e).1];exact e
theorem qT (ps:List Pc) (i:Nat):ps.take i <+: ps:=List.take_prefix i ps
theorem uY (e:ps[i]? = some q):(ps.take i++[q]) <+: ps/\(ps.take i).length=i:=by
 have hi:=(MY.mp e).1
 have:ps.take (i+1)=ps.take i++[q]:=by
  rw [List.take_succ,e];rfl
 exact ⟨this▸List.take_prefix _ _,by simp;lia⟩
theorem Ap (e:ps[i]? = some q):(meas ps)[i+1]? = some (iF (meas (ps.take i)) q):=by
 obtain ⟨h,l⟩:=uY e
 refine aZ h ?_
 rw [uS,NC (by rw [eV,l];lia),eV,l]
 simp
theorem Aq (e:ps[i]? = some q):(reads ps)[i+1]? = some (lC (reads (ps.take i)) q):=by
 obtain ⟨h,l⟩:=uY e
 refine qS h ?_
 rw [Ja,NC (by rw [qR,l];lia),qR,l]
 simp
def ow (ps:List Pc):Pc->Prop
 | .leaf x=>fL x=true
 | .fork a b=>ForkOk ps a b
inductive Good:List Pc->Prop
 | nil:Good []
 | snoc {ps:List Pc} {q:Pc}:Good ps->q∉ps->ow ps q->Good (ps++[q])
theorem Good.nodup (g:Good ps):ps.Nodup:=by
 induction g with
 | nil=>exact O4
 | snoc g n ok ih=>exact Pt.mpr ⟨ih,by simp,λa ha b hb=>by simp at hb;subst hb;exact λe=>n (e▸ha)⟩
theorem Good.get (g:Good ps):∀ {i:Nat} {q:Pc},ps[i]? = some q->ow (ps.take i) q:=by
 induction g with
 | nil=>intro i q e;simp at e
 | @snoc ps q' g n ok ih =>
  intro i q e
  by_cases hi:i<ps.length
  ·rw [Nb hi] at e
   rw [PH (by lia)]
   exact ih e
  ·have hi2:i=ps.length:=by
    have:=(MY.mp e).1
    simp at this;lia
   subst hi2;simp at e
   subst e;simpa using ok
theorem ForkOk.pre (F:ForkOk ps a b) (h:ps <+: ps'):ForkOk ps' a b:=by
 obtain ⟨ma,mb,la,fb,h1,h2,h3,h4,h5⟩:=F.ex
 exact ⟨F.pa,F.pb,ma,mb,la,fb,aZ h h1,aZ h h2,aZ h h3,aZ h h4,h5⟩
structure Ky (ps:List Pc) (m:Ms) (x:Str) (f l:Ms):Prop where
 fl:(meas ps)[m.fl]? = some f
 ll:(meas ps)[m.ll]? = some l
 sg:m.sg=x.length
 en:m.en=jE x
 f1:1<=f.sg
 f8:f.sg<=8
 l1:1<=l.sg
 l8:l.sg<=8
 lv:1<=m.lv
 ht:0<=m.ht
 most:m.sg<=1000000000000000000
 cnt:∃ k,(m.lv=2*k+1/\9*k+f.sg<=m.sg/\9*k+l.sg<=m.sg)\/(m.lv=2*k+2/\9*k+9<=m.sg/\9*k+f.sg+l.sg<=m.sg)
 pl:cf x=true
structure Tx (ps:List Pc) (n:Nat) (m:Ms) (x:Str) (f l:Ms):Prop where
 n1:1<=n
 ms:(meas ps)[n]? = some m
 rd:(reads ps)[n]? = some x
 ky:Ky ps m x f l
theorem Ky.pre {m:Ms} (k:Ky ps m x f l) (h:ps <+: ps'):Ky ps' m x f l :=
 { k with fl:=aZ h k.fl,ll:=aZ h k.ll }
theorem Tx.pre {ps ps':List Pc} {n:Nat} {m:Ms} {x:Str} {f l:Ms} (k:Tx ps n m x f l) (h:ps <+: ps'):Tx ps' n m x f l :=
 ⟨k.n1,aZ h k.ms,qS h k.rd,k.ky.pre h⟩
theorem Tx.le {m:Ms} (k:Tx ps n m x f l):n<=ps.length:=by
 have:=(MY.mp k.ms).1
 rw [eV] at this;lia
def lD (ma mb:Ms):Ms:=⟨ma.sg+mb.sg,ma.en+mb.en,ma.lv+mb.lv,max ma.ht mb.ht+1,ma.fl,mb.ll⟩
theorem ox (x y:Str):cf (x++y)=(cf x && cf y):=by unfold cf;rw [df,List.all_append]
theorem Jd {n' s s' f l f' l':Nat} (a:∃ k,(n=2*k+1/\9*k+f<=s/\9*k+l<=s)\/(n=2*k+2/\9*k+9<=s/\9*k+f+l<=s)) (b:∃ k,(n'=2*k+1/\9*k+f'<=s'/\9*k+l'<=s')\/(n'=2*k+2/\9*k+9<=s'/\9*k+f'+l'<=s')) (hs:8<l+f') :
  ∃ k,(n+n'=2*k+1/\9*k+f<=s+s'/\9*k+l'<=s+s')\/(n+n'=2*k+2/\9*k+9<=s+s'/\9*k+f+l'<=s+s'):=by
 obtain ⟨k,⟨rfl,a1,a2⟩ | ⟨rfl,a1,a2⟩⟩:=a<;>obtain ⟨k',⟨rfl,b1,b2⟩ | ⟨rfl,b1,b2⟩⟩:=b
 ·exact ⟨k+k',.inr ⟨by lia,by lia,by lia⟩⟩
 ·exact ⟨k+k'+1,.inl ⟨by lia,by lia,by lia⟩⟩
 ·exact ⟨k+k'+1,.inl ⟨by lia,by lia,by lia⟩⟩
 ·exact ⟨k+k'+1,.inr ⟨by lia,by lia,by lia⟩⟩
theorem Ky.fork (A:Ky ps ma x fa la) (B:Ky ps mb y fb lb) (hs:8<la.sg+fb.sg) (hm:ma.sg+mb.sg<=1000000000000000000):Ky ps (lD ma mb) (x++y) fa lb:=by
 have k:=Jd A.cnt B.cnt hs
 refine ⟨A.fl,B.ll,?_,?_,A.f1,A.f8,B.l1,B.l8,M6 A.lv (Nat.le_add_right _ _),?_,hm,k,?_⟩
 ·show ma.sg+mb.sg=_;rw [d7,A.sg,B.sg]
 ·show ma.en+mb.en=_;rw [I0,A.en,B.en]
 ·have a4:=A.ht
  show 0<=max ma.ht mb.ht+1
  clear k hs hm;lia
 ·rw [ox,A.pl,B.pl];rfl
theorem uZ (h:fL x=true):1<=x.length/\x.length<=8/\cf x=true:=by
 simp [fL] at h;exact ⟨h.2.1,h.2.2,h.1⟩
theorem oz {l:List α} {d x:α} (e:l[i]? = some x):l.getD i d=x:=by simp [List.getD,e]
def bS (x:Str) (n:Nat):Ms:=⟨x.length,jE x,1,0,n,n⟩
theorem oA (g:Good ps) (e:ps[i]? = some (.leaf x)):Tx ps (i+1) (bS x (i+1)) x (bS x (i+1)) (bS x (i+1)):=by
 have hi:=(MY.mp e).1
 have ok:fL x=true:=g.get e
 obtain ⟨s1,s2,s3⟩:=uZ ok
 have li:(ps.take i).length=i:=by simp;lia
 have ml:(meas (ps.take i)).length=i+1:=by rw [eV,li]
 have e1':(meas ps)[i+1]? = some (bS x (i+1)):=by rw [Ap e];simp only [iF,bS];rw [ml]
 exact ⟨by lia,e1',Aq e,⟨e1',e1',rfl,rfl,s1,s2,s1,s2,MZ 1,Int.le_refl 0,by show x.length<=_;lia,⟨0,.inl ⟨rfl,Qt (Rv _),Qt (Rv _)⟩⟩,s3⟩⟩
theorem oB (g:Good ps) (e:ps[i]? = some (.fork a b)) (A:Tx ps a ma x fa la) (B:Tx ps b mb y fb lb):Tx ps (i+1) (lD ma mb) (x++y) fa lb:=by
 have hi:=(MY.mp e).1
 have ok':ForkOk (ps.take i) a b:=g.get e
 have li:(ps.take i).length=i:=by simp;lia
 have tp:=qT ps i
 obtain ⟨ma',mb',la',fb',q1,q2,q3,q4,q5,q6,q7⟩:=ok'.ex
 have ba:=(MY.mp q1).1
 have bb:=(MY.mp q2).1
 rw [eV,li] at ba bb;have z1:=A.ms.symm.trans (aZ tp q1);cases z1
 have z2:=B.ms.symm.trans (aZ tp q2);cases z2
 have z3:=A.ky.ll.symm.trans (aZ tp q3);cases z3
 have z4:=B.ky.fl.symm.trans (aZ tp q4);cases z4
 have r1:(reads (ps.take i))[a]? = some x:=by
  obtain ⟨w,ew⟩:∃ w,(reads (ps.take i))[a]? = some w:=⟨(reads (ps.take i))[a]'(by rw [qR,li];lia),by simp⟩
  have:=(qS tp ew).symm.trans A.rd;cases this;exact ew
 have r2:(reads (ps.take i))[b]? = some y:=by
  obtain ⟨w,ew⟩:∃ w,(reads (ps.take i))[b]? = some w:=⟨(reads (ps.take i))[b]'(by rw [qR,li];lia),by simp⟩
  have:=(qS tp ew).symm.trans B.rd;cases this;exact ew
 refine ⟨by lia,?_,?_,A.ky.fork B.ky q5 q7⟩
 ·rw [Ap e];simp only [iF,oz q1,oz q2];rfl
 ·rw [Aq e];simp only [lC,oz r1,oz r2]
theorem Good.tx (g:Good ps):∀ n,1<=n->n<=ps.length->∃ m x f l,Tx ps n m x f l:=by
 intro n
 induction n using Nat.strongRecOn with
 | ind n ih =>
  intro h1 h2
  obtain ⟨i,rfl⟩:∃ i,n=i+1:=⟨n-1,(Nat.sub_add_cancel h1).symm⟩
  obtain ⟨q,eq⟩:∃ q,ps[i]? = some q:=⟨ps[i],by simp⟩
  have ok:=g.get eq
  have li:(ps.take i).length=i:=(uY eq).2
  cases q with
  | leaf x=>exact ⟨_,_,_,_,oA g eq⟩
  | fork a b =>
   have ok':ForkOk (ps.take i) a b:=ok
   obtain ⟨ma,mb,la,fb,q1,q2,_⟩:=ok'.ex
   have ba:=(MY.mp q1).1
   have bb:=(MY.mp q2).1
   rw [eV,li] at ba bb;obtain ⟨_,_,_,_,A⟩:=ih a ba ok'.pa (M6 (PN ba) h2)
   obtain ⟨_,_,_,_,B⟩:=ih b bb ok'.pb (M6 (PN bb) h2)
   exact ⟨_,_,_,_,oB g eq A B⟩
structure Dd (p:Nat) (h h':AH) (ps ps':List Pc) (k:Nat):Prop where
 sh:ShelfAt h' p ps'
 gd:Good ps'
 pre:ps <+: ps'
 len:ps'.length<=ps.length+k
 fr:∀ i,i<=p\/p+8<i->h'[i]? = h[i]?
 hl:h'.length=h.length
theorem ShelfAt.keep (S:ShelfAt h p ps) (e:∀ i,p<=i->i<=p+8->h'[i]? = h[i]?):ShelfAt h' p ps:=by
 have k:∀ j,j<=8->h'[p+j]? = h[p+j]? := λj hj=>e _ (Nat.le_add_right p j) (Nx hj p)
 exact ⟨(k 0 (by decide)).trans S.ob,(k 1 (by decide)).trans S.h1,(k 2 (by decide)).trans S.h2,(k 3 (by decide)).trans S.h3,(k 4 (by decide)).trans S.h4,(k 5 (by decide)).trans S.h5,(k 6 (by decide)).trans S.h6,(k 7 (by decide)).trans S.h7,(k 8 (by decide)).trans S.h8⟩
theorem ShelfAt.app (S:ShelfAt h p ps) (r:AH):ShelfAt (h++r) p ps:=by
 have:=cL S.h8
 exact S.keep λi _ b=>Nb (Nl b this)
theorem qU (S:ShelfAt h p ps) (hi:i<=ps.length):j0 [.ref p,.int i] h = .ok .non h:=by
 by_cases z:i=0
 ·subst z;simp [j0]
 ·have c:=qO S (i:=(i:Int)) ⟨by lia,by lia⟩
  simp [j0,z,S.ob,c]
theorem dy {m:Ms} (S:ShelfAt h p ps) (e:(meas ps)[i]? = some m):eJ [.ref p,.int i] h = .ok (.int m.sg) h:=by
 have hi:=(MY.mp e).1
 rw [eV] at hi;simp [eJ,qU S (show i<=ps.length by lia),S.ob,S.h3,gT e]
theorem dh {m:Ms} (S:ShelfAt h p ps) (e:(meas ps)[i]? = some m):gR [.ref p,.int i] h = .ok (.int m.ht) h:=by
 have hi:=(MY.mp e).1
 rw [eV] at hi;simp [gR,qU S (show i<=ps.length by lia),S.ob,S.h6,gT e]
theorem Ar {m:Ms} (S:ShelfAt h p ps) (e:(meas ps)[i]? = some m):oh [.ref p,.int i] h = .ok (.int m.fl) h:=by
 have hi:=(MY.mp e).1
 rw [eV] at hi;simp [oh,qU S (show i<=ps.length by lia),S.ob,S.h7,gT e]
theorem As {m:Ms} (S:ShelfAt h p ps) (e:(meas ps)[i]? = some m):og [.ref p,.int i] h = .ok (.int m.ll) h:=by
 have hi:=(MY.mp e).1
 rw [eV] at hi;simp [og,qU S (show i<=ps.length by lia),S.ob,S.h8,gT e]
def lp:Nat->Nat×Nat
 | 0=>(1,2)
 | n+1=>((lp n).2,(lp n).1+(lp n).2)
def ll (n:Nat):Nat:=(lp n).1
def ls (n:Nat):Nat:=9*(ll n / 2)+ll n % 2
theorem jF (n:Nat):ll (n+2)=ll n+ll (n+1):=rfl
theorem Au:∀ n,ll n<=ll (n+1)
 | 0=>by decide
 | n+1=>by rw [show n+1+1=n+2 from rfl,jF];lia
theorem Je (h:a<=b):ll a<=ll b:=by
 induction h with
 | refl=>exact MZ _
 | step h ih=>exact M6 ih (Au _)
theorem Jf (h:a<=b):ls a<=ls b:=by
 have:=Je h
 unfold ls;lia
theorem Jg (h1:i<=j+1) (h2:j<=i+1) (u1:ll i<=a) (u2:ll j<=b):ll (max i j+1)<=a+b:=by
 rcases Nat.lt_trichotomy i j with c | c | c
 ·have e':j=i+1:=Nat.le_antisymm h2 c
  subst e'
  rw [Nat.max_eq_right (P5 i),jF];exact Q3 u1 u2
 ·subst c
  rw [Nat.max_self];refine M6 ?_ (Q3 u1 u2)
  cases i with
  | zero=>exact MZ 2
  | succ k=>rw [show k+1+1=k+2 from rfl,jF];exact Nat.add_le_add_right (Au k) _
 ·have e':i=j+1:=Nat.le_antisymm h1 c
  subst e'
  rw [Nat.max_eq_left (P5 j),jF,Pa];exact Q3 u1 u2
theorem Jh {x y:Int} (hx:0<=x) (hy:0<=y) (q:(x-y).natAbs<=1) (u1:ll x.toNat<=a) (u2:ll y.toNat<=b):ll (max x y+1).toNat<=a+b:=by
 obtain ⟨i,rfl⟩:=Oj hx
 obtain ⟨j,rfl⟩:=Oj hy
 have e:(max (i:Int) j+1).toNat=max i j+1:=by clear u1 u2 q;lia
 rw [e];exact Jg (by clear u1 u2 e;lia) (by clear u1 u2 e;lia) u1 u2
theorem Good.lv {ps:List Pc} (g:Good ps):∀ n m x f l,Tx ps n m x f l->ll m.ht.toNat<=m.lv:=by
 intro n
 induction n using Nat.strongRecOn with
 | ind n ih =>
  intro m x f l T
  have hn:=T.n1
  have hle:=T.le
  obtain ⟨i,rfl⟩:∃ i,n=i+1:=⟨n-1,by lia⟩
  obtain ⟨q,eq⟩:∃ q,ps[i]? = some q:=⟨ps[i],by simp⟩
  cases q with
  | leaf y =>
   have z:=(oA g eq).ms.symm.trans T.ms;cases z
   exact MZ 1
  | fork a b =>
   have ok':ForkOk (ps.take i) a b:=g.get eq
   have li:(ps.take i).length=i:=by simp;lia
   obtain ⟨ma,mb,la,fb,q1,q2,q3,q4,q5,q6,q7⟩:=ok'.ex
   have ba:=(MY.mp q1).1
   have bb:=(MY.mp q2).1
   rw [eV,li] at ba bb;obtain ⟨ma',x1,fa,la',A⟩:=g.tx a ok'.pa (by lia)
   obtain ⟨mb',y1,fb',lb,B⟩:=g.tx b ok'.pb (by lia)
   have tp:=qT ps i
   have z1:=A.ms.symm.trans (aZ tp q1);cases z1
   have z2:=B.ms.symm.trans (aZ tp q2);cases z2
   have u1:=ih a (by lia) _ _ _ _ A
   have u2:=ih b (by lia) _ _ _ _ B
   have z:=(oB g eq A B).ms.symm.trans T.ms;cases z
   exact Jh A.ky.ht B.ky.ht q6 u1 u2
theorem Tx.ls {ps:List Pc} (g:Good ps) {n:Nat} {m:Ms} {x:Str} {f l:Ms} (T:Tx ps n m x f l):Sk.ls m.ht.toNat<=m.sg:=by
 have u:=g.lv _ _ _ _ _ T
 have f1:=T.ky.f1
 unfold Sk.ls
 obtain ⟨k,⟨e,a,_⟩ | ⟨e,a,_⟩⟩:=T.ky.cnt
 ·rw [e] at u;generalize ll m.ht.toNat=q at *;clear e;lia
 ·rw [e] at u;generalize ll m.ht.toNat=q at *;clear e;lia
theorem Good.kind (g:Good ps) {m:Ms} (T:Tx ps n m x f l) :
  (ps[n-1]? = some (.leaf x)/\m.ht=0/\m=bS x n/\1<=x.length/\x.length<=8)\/∃ a b ma mb y z fa la fb lb,ps[n-1]? = some (.fork a b)/\a<n/\b<n/\Tx ps a ma y fa la/\Tx ps b mb z fb lb/\x=y++z/\m=lD ma mb/\(ma.ht-mb.ht).natAbs<=1:=by
 have hn:=T.n1
 have hle:=T.le
 obtain ⟨i,rfl⟩:∃ i,n=i+1:=⟨n-1,by lia⟩
 obtain ⟨q,eq⟩:∃ q,ps[i]? = some q:=⟨ps[i],by simp⟩
 cases q with
 | leaf y =>
  have L:=oA g eq
  have z:=L.ms.symm.trans T.ms;cases z
  have z2:=L.rd.symm.trans T.rd;cases z2
  have ok:fL x=true:=g.get eq
  obtain ⟨s1,s2,s3⟩:=uZ ok
  exact .inl ⟨eq,rfl,rfl,s1,s2⟩
 | fork a b =>
  have ok':ForkOk (ps.take i) a b:=g.get eq
  have li:(ps.take i).length=i:=by simp;lia
  obtain ⟨ma,mb,la,fb,q1,q2,q3,q4,q5,q6,q7⟩:=ok'.ex
  have ba:=(MY.mp q1).1
  have bb:=(MY.mp q2).1
  rw [eV,li] at ba bb;obtain ⟨ma',y,fa,la',A⟩:=g.tx a ok'.pa (by lia)
  obtain ⟨mb',z,fb',lb,B⟩:=g.tx b ok'.pb (by lia)
  have tp:=qT ps i
  have z1:=A.ms.symm.trans (aZ tp q1);cases z1
  have z2:=B.ms.symm.trans (aZ tp q2);cases z2
  have F:=oB g eq A B
  have z3:=F.ms.symm.trans T.ms;cases z3
  have z4:=F.rd.symm.trans T.rd;cases z4
  exact .inr ⟨a,b,ma,mb,y,z,fa,la',fb',lb,eq,by lia,by lia,A,B,rfl,rfl,q6⟩
theorem Av (S:ShelfAt h p ps) (n1:1<=n) (e:ps[n-1]? = some q):eU [.ref p,.int n] h = .ok q.av h:=by
 have:=IQ S e
 rw [show ((n-1:Nat):Int)+1=(n:Int) by lia] at this
 exact this
theorem Aw {m a b:Int} (e:m=max a b+1) (ha:0<=a) (hb:0<=b):∃ j:Nat,m.toNat=j+1/\a.toNat<=j/\b.toNat<=j/\0<m:=by
 obtain ⟨x,rfl⟩:=Oj ha
 obtain ⟨y,rfl⟩:=Oj hb
 subst e;exact ⟨max x y,by lia,Nat.le_max_left _ _,Nat.le_max_right _ _,by lia⟩
theorem cM (e:x.cps.toList=y.cps.toList):x=y:=by
 cases x;cases y
 simpa using e
theorem eQ (x y z:Str):(x++y)++z=x++(y++z):=cM (by simp only [df,Rw])
theorem u0:1000000000000000000<ls 83:=by decide +kernel
theorem fD (g:Good ps) {m:Ms} (T:Tx ps n m x f l):m.ht<=82:=by
 have h1:=T.ls g
 have h2:=T.ky.most
 have h3:=T.ky.ht
 apply Classical.byContradiction
 intro h4
 have:=Jf (show 83<=m.ht.toNat by lia)
 have:=u0
 lia
theorem Good.cut (g:Good ps) {m:Ms} (T:Tx ps n m x f l) (hh:0<m.ht) :
  ∃ a b ma mb y z la fb,ps[n-1]? = some (.fork a b)/\Tx ps a ma y f la/\Tx ps b mb z fb l/\x=y++z/\m=lD ma mb /\ -1<=ma.ht-mb.ht/\ma.ht-mb.ht<=1/\8<la.sg+fb.sg:=by
 rcases g.kind T with ⟨_,e,_⟩ | ⟨a,b,ma,mb,y,z,fa,la,fb,lb,e1,e2,e3,A,B,e4,e5,e6⟩
 ·lia
 ·have ok:ForkOk (ps.take (n-1)) a b:=g.get e1
  obtain ⟨ma',mb',la',fb',q1,q2,q3,q4,q5,_⟩:=(ok.pre (qT ps _)).ex
  have z1:=A.ms.symm.trans q1;cases z1
  have z2:=B.ms.symm.trans q2;cases z2
  have z3:=A.ky.ll.symm.trans q3;cases z3
  have z4:=B.ky.fl.symm.trans q4;cases z4
  have f1:=T.ky.fl
  have l1:=T.ky.ll
  rw [e5] at f1 l1;have z5:=f1.symm.trans A.ky.fl;cases z5
  have z6:=l1.symm.trans B.ky.ll;cases z6
  exact ⟨a,b,ma,mb,y,z,la,fb,e1,A,B,e4,e5,by lia,by lia,q5⟩
structure Dn (F:AH->Out AV) (p:Nat) (h h':AH) (ps ps':List Pc) (k n:Nat):Prop where
 ev:F h = .ok (.int n) h'
 dd:Dd p h h' ps ps' k
 re:∀ h2 ps2,ShelfAt h2 p ps2->Good ps2->ps' <+: ps2->F h2 = .ok (.int n) h2
theorem Dd.trans {p:Nat} {h h' h'':AH} {ps ps' ps'':List Pc} {k k' k2:Nat} (a:Dd p h h' ps ps' k) (b:Dd p h' h'' ps' ps'' k') (hk:k+k'<=k2):Dd p h h'' ps ps'' k2 :=
 ⟨b.sh,b.gd,a.pre.trans b.pre,by have:=a.len;have:=b.len;lia,λi hi=>(b.fr i hi).trans (a.fr i hi),b.hl.trans a.hl⟩
theorem Dd.refl (S:ShelfAt h p ps) (g:Good ps):Dd p h h ps ps 0:=⟨S,g,Oc _,by lia,λ_ _=>rfl,rfl⟩
variable {F:AH->Out AV}
theorem Dn.seq {F1:AH->Out AV} {F2:AV->AH->Out AV} {ps2:List Pc} {k n2:Nat} (S:ShelfAt h p ps) (g:Good ps) (d1:Dn F1 p h h1 ps ps1 k1 n1) (d2:Dn (F2 (.int n1)) p h1 h2 ps1 ps2 k2 n2) (eq:∀ hh pp,ShelfAt hh p pp->Good pp->ps <+: pp->F hh=(F1 hh).bind F2) (hk:k1+k2<=k):Dn F p h h2 ps ps2 k n2:=by
 refine ⟨?_,d1.dd.trans d2.dd hk,λh3 ps3 S3 g3 p3=>?_⟩
 ·rw [eq h ps S g (Oc _),d1.ev];exact d2.ev
 ·rw [eq h3 ps3 S3 g3 (d1.dd.pre.trans (d2.dd.pre.trans p3)),d1.re h3 ps3 S3 g3 (d2.dd.pre.trans p3)]
  exact d2.re h3 ps3 S3 g3 p3
theorem Dn.as {F1:AH->Out AV} {k:Nat} (S:ShelfAt h p ps) (g:Good ps) (d1:Dn F1 p h h1 ps ps1 k1 n1) (eq:∀ hh pp,ShelfAt hh p pp->Good pp->ps <+: pp->F hh=F1 hh) (hk:k1<=k):Dn F p h h1 ps ps1 k n1:=by
 refine ⟨?_,{ d1.dd with len:=M6 d1.dd.len (Nx hk _) },λh3 ps3 S3 g3 p3=>?_⟩
 ·rw [eq h ps S g (Oc _)];exact d1.ev
 ·rw [eq h3 ps3 S3 g3 (d1.dd.pre.trans p3)];exact d1.re h3 ps3 S3 g3 p3
theorem Dn.val (S:ShelfAt h p ps) (g:Good ps) (eq:∀ hh pp,ShelfAt hh p pp->Good pp->ps <+: pp->F hh = .ok (.int n) hh):Dn F p h h ps ps 0 n :=
 ⟨eq h ps S g (Oc _),Dd.refl S g,λh3 ps3 S3 g3 p3=>eq h3 ps3 S3 g3 p3⟩
theorem cY (h:ps <+: ps') (e:ps[i]? = some q):ps'[i]? = some q:=by
 obtain ⟨r,rfl⟩:=h
 rw [Nb (MY.mp e).1];exact e
theorem qV (S:ShelfAt h p ps) (g:Good ps) (hx:fL x=true) (hz:ps.length<16000000) :
  ∃ (n:Nat) (ps':List Pc) (h':AH),Dn (d6 [.ref p,.str x]) p h h' ps ps' 1 n/\Tx ps' n (bS x n) x (bS x n) (bS x n):=by
 obtain ⟨s1,s2,s3⟩:=uZ hx
 have hs:x.length<=sizeLine:=M6 s2 (by decide)
 by_cases hq:Pc.leaf x∈ps
 ·obtain ⟨i,hi,e⟩:=Pd hq
  have e':ps[i]? = some (.leaf x):=by rw [Ni hi,e]
  exact ⟨i+1,ps,h,⟨uV S g.nodup hx hs e',⟨S,g,Oc _,by lia,λ_ _=>rfl,rfl⟩,λh2 ps2 S2 g2 p2=>uV S2 g2.nodup hx hs (cY p2 e')⟩,oA g e'⟩
 ·have g':Good (ps++[.leaf x]):=.snoc g hq hx
  have e':(ps++[Pc.leaf x])[ps.length]? = some (.leaf x):=by simp
  exact ⟨ps.length+1,_,_,⟨IU S hx hs hq hz,⟨qN S,g',Rm _ _,by simp,λi hi=>Ai hi,Ah _ _ _⟩,λh2 ps2 S2 g2 p2=>uV S2 g2.nodup hx hs (cY p2 e')⟩,oA g' e'⟩
theorem gb (S:ShelfAt h p ps) (g:Good ps) (A:Tx ps a ma x fa la) (B:Tx ps b mb y fb lb) (hc:8<la.sg+fb.sg) (v1 : -1<=ma.ht-mb.ht) (v2:ma.ht-mb.ht<=1) (hm:ma.sg+mb.sg<=1000000000000000000) (hz:ps.length<16000000) :
  ∃ (n:Nat) (ps':List Pc) (h':AH),Dn (bA [.ref p,.int a,.int b]) p h h' ps ps' 1 n/\Tx ps' n (lD ma mb) (x++y) fa lb:=by
 have F:ForkOk ps a b:=⟨A.n1,B.n1,ma,mb,la,fb,A.ms,B.ms,A.ky.ll,B.ky.fl,hc,by lia,hm⟩
 by_cases hq:Pc.fork a b∈ps
 ·obtain ⟨i,hi,e⟩:=Pd hq
  have e':ps[i]? = some (.fork a b):=by rw [Ni hi,e]
  exact ⟨i+1,ps,h,⟨uW S g.nodup F e',⟨S,g,Oc _,by lia,λ_ _=>rfl,rfl⟩,λh2 ps2 S2 g2 p2=>uW S2 g2.nodup (F.pre p2) (cY p2 e')⟩,oB g e' A B⟩
 ·have g':Good (ps++[.fork a b]):=.snoc g hq F
  have e':(ps++[Pc.fork a b])[ps.length]? = some (.fork a b):=by simp
  have pr:ps <+: ps++[Pc.fork a b]:=Rm _ _
  exact ⟨ps.length+1,_,_,⟨IW S F hq hz,⟨qN S,g',pr,by simp,λi hi=>Ai hi,Ah _ _ _⟩,λh2 ps2 S2 g2 p2=>uW S2 g2.nodup (F.pre (pr.trans p2)) (cY p2 e')⟩,oB g' e' (A.pre pr) (B.pre pr)⟩
theorem gc (ma mb:Ms):(lD ma mb).sg=ma.sg+mb.sg:=rfl
theorem bU (ma mb:Ms):(lD ma mb).ht=max ma.ht mb.ht+1:=rfl
theorem i1 (s:Str) (a b:Int) (h:AH):aw (.tup [.str s,.int a,.int b]) (.int 1) h = .ok (.int a) h:=rfl
theorem i2 (s:Str) (a b:Int) (h:AH):aw (.tup [.str s,.int a,.int b]) (.int 2) h = .ok (.int b) h:=rfl
theorem gg (S:ShelfAt h p ps) (n1:1<=n) (e:ps[n-1]? = some (.fork a b)):eU [.ref p,.int n] h = .ok (.tup [.str "fork",.int a,.int b]) h:=Av S n1 e
theorem u7 (S:ShelfAt h p ps) (ea:(meas ps)[a]? = some ma) (eb:(meas ps)[b]? = some mb) (hd:mb.ht-ma.ht<2) :
  gz [.ref p,.int a,.int b] h=bA [.ref p,.int a,.int b] h:=by
 have f1:=dh S ea
 have f2:=dh S eb
 generalize hF:bA [.ref p,.int a,.int b] h=R
 simp [gz,S.ob,f1,f2,hd,hF]
 cases R<;>rfl
theorem u9 (S:ShelfAt h p ps) (b1:1<=b) (ea:(meas ps)[a]? = some ma) (eb:(meas ps)[b]? = some mb) (e:ps[b-1]? = some (.fork c d)) (ec:(meas ps)[c]? = some mc) (ed:(meas ps)[d]? = some md) (hd : ¬ mb.ht-ma.ht<2) (hh:mc.ht<=md.ht) :
  gz [.ref p,.int a,.int b] h=(bA [.ref p,.int a,.int c] h).bind λv h1=>bA [.ref p,v,.int d] h1:=by
 have f1:=dh S ea
 have f2:=dh S eb
 have f3:=gg S b1 e
 have f4:=dh S ec
 have f5:=dh S ed
 generalize hF:bA [.ref p,.int a,.int c] h=R
 simp [gz,S.ob,f1,f2,hd,f3,i1,i2,f4,f5,hh,hF,-aw]
 cases R with
 | ok v h1=>dsimp only;cases bA [.ref p,v,.int d] h1<;>rfl
 | ex c h1=>rfl
 | bad=>rfl
def dz (p:Nat) (F:AH->Out AV) (h:AH):Out AV:=match h[p]? with
 | some (.ins c' _)=>if c'=0 then F h else .bad
 | _=>.bad
theorem Ax (S:ShelfAt h p ps) (F:AH->Out AV):dz p F h=F h:=by simp [dz,S.ob]
theorem va (S:ShelfAt h p ps) (b1:1<=b) (c1:1<=c) (ea:(meas ps)[a]? = some ma) (eb:(meas ps)[b]? = some mb) (e:ps[b-1]? = some (.fork c d)) (ec:(meas ps)[c]? = some mc) (ed:(meas ps)[d]? = some md) (e2:ps[c-1]? = some (.fork i j)) (hd : ¬ mb.ht-ma.ht<2) (hh : ¬ mc.ht<=md.ht) :
  gz [.ref p,.int a,.int b] h=(bA [.ref p,.int a,.int i] h).bind λv h1=>(dz p (bA [.ref p,.int j,.int d]) h1).bind λw h2=>bA [.ref p,v,w] h2:=by
 have f1:=dh S ea
 have f2:=dh S eb
 have f3:=gg S b1 e
 have f4:=dh S ec
 have f5:=dh S ed
 have f6:=gg S c1 e2
 generalize hF:bA [.ref p,.int a,.int i] h=R
 simp [gz,S.ob,f1,f2,hd,f3,i1,i2,f4,f5,hh,f6,hF,-aw]
 cases R with
 | ok v h1 =>
  unfold dz
  dsimp only
  cases hx:h1[p]? with
  | none=>rfl
  | some o =>
   cases o with
   | lst l=>rfl
   | dct q l=>rfl
   | dcx l=>rfl
   | ins c' l =>
    dsimp only;by_cases z:c'=0
    ·rw [M8 z]
     cases bA [.ref p,.int j,.int d] h1 with
     | ok w h2=>dsimp only;cases bA [.ref p,v,w] h2<;>rfl
     | ex c h2=>rfl
     | bad=>rfl
    ·rw [M9 z]
 | ex c h1=>rfl
 | bad=>rfl
theorem vb {a b m:Int} (h1 : -1<=b-a) (h2:b-a<2) (e:m=max a b+1):max a b<=m/\m<=max a b+1/\(b-a<=1->m=max a b+1):=by lia
theorem Ji {a b c d i j:Int} (ht:b=max c d+1) (ht2:c=max i j+1) (w1 : -1<=c-d) (w2:c-d<=1) (v2:b-a<=2) (q : ¬ b-a<2) (r : ¬ c<=d):max a b<=max (max a i+1) (max j d+1)+1/\max (max a i+1) (max j d+1)+1<=max a b+1/\(b-a<=1->max (max a i+1) (max j d+1)+1=max a b+1):=by
 have hi:=Int.le_max_left i j
 have hj:=Int.le_max_right i j
 generalize max i j=k at *;rw [Oz (show d<=c by lia)] at ht
 rw [Oz (show i<=a by lia),OT (show j<=d by lia),OT (show a<=b by lia),Oz (show d+1<=a+1 by lia)]
 lia
theorem Jj {a b c d i j:Int} (ht:a=max c d+1) (ht2:d=max i j+1) (w1 : -1<=c-d) (w2:c-d<=1) (v2:a-b<=2) (q : ¬ a-b<2) (r : ¬ d<=c):max a b<=max (max c i+1) (max j b+1)+1/\max (max c i+1) (max j b+1)+1<=max a b+1/\(a-b<=1->max (max c i+1) (max j b+1)+1=max a b+1):=by
 have hi:=Int.le_max_left i j
 have hj:=Int.le_max_right i j
 generalize max i j=k at *;rw [OT (show c<=d by lia)] at ht
 rw [Oz (show i<=c by lia),OT (show j<=b by lia),Oz (show b<=a by lia),Oz (show b+1<=c+1 by lia)]
 lia
theorem Ay (S:ShelfAt h p ps) (g:Good ps) (A:Tx ps a ma x fa la) (B:Tx ps b mb y fb lb) (hc:8<la.sg+fb.sg) (v1 : -1<=mb.ht-ma.ht) (v2:mb.ht-ma.ht<=2) (hm:ma.sg+mb.sg<=1000000000000000000) (hz:ps.length+3<16000000) :
  ∃ (n:Nat) (ps':List Pc) (h':AH) (m:Ms),Dn (gz [.ref p,.int a,.int b]) p h h' ps ps' 3 n/\Tx ps' n m (x++y) fa lb/\max ma.ht mb.ht<=m.ht/\m.ht<=max ma.ht mb.ht+1/\(mb.ht-ma.ht<=1->m.ht=max ma.ht mb.ht+1):=by
 by_cases q:mb.ht-ma.ht<2
 ·obtain ⟨n,ps',h',d,T⟩:=gb S g A B hc (by lia) (by lia) hm (by lia)
  exact ⟨n,ps',h',_,d.as S g (λhh pp S' _ pr=>u7 S' (aZ pr A.ms) (aZ pr B.ms) q) (by lia),T,vb v1 q (bU ma mb)⟩
 ·obtain ⟨c,d,mc,md,y1,y2,lc,fd,e,C,D,rfl,em,w1,w2,w3⟩:=g.cut B (by have:=A.ky.ht;lia)
  have sg:=congrArg Ms.sg em
  have ht:=congrArg Ms.ht em
  rw [gc] at sg;rw [bU] at ht;by_cases r:mc.ht<=md.ht
  ·obtain ⟨n1,ps1,h1,d1,T1⟩:=gb S g A C hc (by lia) (by lia) (by lia) (by lia)
   obtain ⟨n2,ps2,h2,d2,T2⟩:=gb d1.dd.sh d1.dd.gd T1 (D.pre d1.dd.pre) w3 (by rw [bU];lia) (by rw [bU];lia) (by rw [gc];lia) (by have:=d1.dd.len;lia)
   rw [eQ] at T2;refine ⟨n2,ps2,h2,_,Dn.seq S g d1 d2 (λhh pp S' _ pr=>u9 S' B.n1 (aZ pr A.ms) (aZ pr B.ms) (cY pr e) (aZ pr C.ms) (aZ pr D.ms) q r) (by lia),T2,?_⟩
   rw [bU,bU];lia
  ·obtain ⟨i,j,mi,mj,z1,z2,li,fj,e2,I,J,rfl,em2,u1,u2,u3⟩:=g.cut C (by have:=D.ky.ht;lia)
   have sg2:=congrArg Ms.sg em2
   have ht2:=congrArg Ms.ht em2
   rw [gc] at sg2;rw [bU] at ht2;obtain ⟨n1,ps1,h1,d1,T1⟩:=gb S g A I hc (by lia) (by lia) (by lia) (by lia)
   obtain ⟨n2,ps2,h2,d2,T2⟩:=gb d1.dd.sh d1.dd.gd (J.pre d1.dd.pre) (D.pre d1.dd.pre) w3 (by lia) (by lia) (by lia) (by have:=d1.dd.len;lia)
   obtain ⟨n3,ps3,h3,d3,T3⟩:=gb d2.dd.sh d2.dd.gd (T1.pre d2.dd.pre) T2 u3 (by rw [bU,bU];lia) (by rw [bU,bU];lia) (by rw [gc,gc];lia) (by have:=d1.dd.len;have:=d2.dd.len;lia)
   have d2':Dn (dz p (bA [.ref p,.int j,.int d])) p h1 h2 ps1 ps2 1 n2:=d2.as d1.dd.sh d1.dd.gd (λhh pp S' _ _=>Ax S' _) (MZ _)
   have d23:=Dn.seq (F:=λh1=>(dz p (bA [.ref p,.int j,.int d]) h1).bind λw h2=>bA [.ref p,.int n1,w] h2) (F2:=λw h2=>bA [.ref p,.int n1,w] h2) d1.dd.sh d1.dd.gd d2' d3 (λ_ _ _ _ _=>rfl) (k:=2) (by lia)
   have ea:(x++z1)++(z2++y2)=x++(z1++z2++y2):=by rw [eQ,eQ]
   rw [ea] at T3;refine ⟨n3,ps3,h3,_,Dn.seq (F2:=λv h1=>(dz p (bA [.ref p,.int j,.int d]) h1).bind λw h2=>bA [.ref p,v,w] h2) S g d1 d23 (λhh pp S' _ pr=>va S' B.n1 C.n1 (aZ pr A.ms) (aZ pr B.ms) (cY pr e) (aZ pr C.ms) (aZ pr D.ms) (cY pr e2) q r) (by lia),T3,?_⟩
   rw [bU,bU,bU];exact Ji ht ht2 w1 w2 v2 q r
theorem vc (S:ShelfAt h p ps) (ea:(meas ps)[a]? = some ma) (eb:(meas ps)[b]? = some mb) (hd:ma.ht-mb.ht<2) :
  iE [.ref p,.int a,.int b] h=bA [.ref p,.int a,.int b] h:=by
 have f1:=dh S ea
 have f2:=dh S eb
 generalize hF:bA [.ref p,.int a,.int b] h=R
 simp [iE,S.ob,f1,f2,hd,hF]
 cases R<;>rfl
theorem vd (S:ShelfAt h p ps) (a1:1<=a) (ea:(meas ps)[a]? = some ma) (eb:(meas ps)[b]? = some mb) (e:ps[a-1]? = some (.fork c d)) (ec:(meas ps)[c]? = some mc) (ed:(meas ps)[d]? = some md) (hd : ¬ ma.ht-mb.ht<2) (hh:md.ht<=mc.ht) :
  iE [.ref p,.int a,.int b] h=(bA [.ref p,.int d,.int b] h).bind λv h1=>bA [.ref p,.int c,v] h1:=by
 have f1:=dh S ea
 have f2:=dh S eb
 have f3:=gg S a1 e
 have f4:=dh S ec
 have f5:=dh S ed
 generalize hF:bA [.ref p,.int d,.int b] h=R
 simp [iE,S.ob,f1,f2,hd,f3,i1,i2,f4,f5,hh,hF,-aw]
 cases R with
 | ok v h1=>dsimp only;cases bA [.ref p,.int c,v] h1<;>rfl
 | ex c h1=>rfl
 | bad=>rfl
theorem ve (S:ShelfAt h p ps) (a1:1<=a) (d1:1<=d) (ea:(meas ps)[a]? = some ma) (eb:(meas ps)[b]? = some mb) (e:ps[a-1]? = some (.fork c d)) (ec:(meas ps)[c]? = some mc) (ed:(meas ps)[d]? = some md) (e2:ps[d-1]? = some (.fork i j)) (hd : ¬ ma.ht-mb.ht<2) (hh : ¬ md.ht<=mc.ht) :
  iE [.ref p,.int a,.int b] h=(bA [.ref p,.int c,.int i] h).bind λv h1=>(dz p (bA [.ref p,.int j,.int b]) h1).bind λw h2=>bA [.ref p,v,w] h2:=by
 have f1:=dh S ea
 have f2:=dh S eb
 have f3:=gg S a1 e
 have f4:=dh S ec
 have f5:=dh S ed
 have f6:=gg S d1 e2
 generalize hF:bA [.ref p,.int c,.int i] h=R
 simp [iE,S.ob,f1,f2,hd,f3,i1,i2,f4,f5,hh,f6,hF,-aw]
 cases R with
 | ok v h1 =>
  unfold dz
  dsimp only
  cases hx:h1[p]? with
  | none=>rfl
  | some o =>
   cases o with
   | lst l=>rfl
   | dct q l=>rfl
   | dcx l=>rfl
   | ins c' l =>
    dsimp only;by_cases z:c'=0
    ·rw [M8 z]
     cases bA [.ref p,.int j,.int b] h1 with
     | ok w h2=>dsimp only;cases bA [.ref p,v,w] h2<;>rfl
     | ex c h2=>rfl
     | bad=>rfl
    ·rw [M9 z]
 | ex c h1=>rfl
 | bad=>rfl
theorem Jk (S:ShelfAt h p ps) (g:Good ps) (A:Tx ps a ma x fa la) (B:Tx ps b mb y fb lb) (hc:8<la.sg+fb.sg) (v1 : -1<=ma.ht-mb.ht) (v2:ma.ht-mb.ht<=2) (hm:ma.sg+mb.sg<=1000000000000000000) (hz:ps.length+3<16000000) :
  ∃ (n:Nat) (ps':List Pc) (h':AH) (m:Ms),Dn (iE [.ref p,.int a,.int b]) p h h' ps ps' 3 n/\Tx ps' n m (x++y) fa lb/\max ma.ht mb.ht<=m.ht/\m.ht<=max ma.ht mb.ht+1/\(ma.ht-mb.ht<=1->m.ht=max ma.ht mb.ht+1):=by
 by_cases q:ma.ht-mb.ht<2
 ·obtain ⟨n,ps',h',d,T⟩:=gb S g A B hc (by lia) (by lia) hm (by lia)
  refine ⟨n,ps',h',_,d.as S g (λhh pp S' _ pr=>vc S' (aZ pr A.ms) (aZ pr B.ms) q) (by lia),T,?_⟩
  rw [bU];lia
 ·obtain ⟨c,d,mc,md,y1,y2,lc,fd,e,C,D,rfl,em,w1,w2,w3⟩:=g.cut A (by have:=B.ky.ht;lia)
  have sg:=congrArg Ms.sg em
  have ht:=congrArg Ms.ht em
  rw [gc] at sg;rw [bU] at ht;by_cases r:md.ht<=mc.ht
  ·obtain ⟨n1,ps1,h1,d1,T1⟩:=gb S g D B hc (by lia) (by lia) (by lia) (by lia)
   obtain ⟨n2,ps2,h2,d2,T2⟩:=gb d1.dd.sh d1.dd.gd (C.pre d1.dd.pre) T1 w3 (by rw [bU];lia) (by rw [bU];lia) (by rw [gc];lia) (by have:=d1.dd.len;lia)
   rw [<- eQ] at T2;refine ⟨n2,ps2,h2,_,Dn.seq (F2:=λv h1=>bA [.ref p,.int c,v] h1) S g d1 d2 (λhh pp S' _ pr=>vd S' A.n1 (aZ pr A.ms) (aZ pr B.ms) (cY pr e) (aZ pr C.ms) (aZ pr D.ms) q r) (by lia),T2,?_⟩
   rw [bU,bU];lia
  ·obtain ⟨i,j,mi,mj,z1,z2,li,fj,e2,I,J,rfl,em2,u1,u2,u3⟩:=g.cut D (by have:=C.ky.ht;lia)
   have sg2:=congrArg Ms.sg em2
   have ht2:=congrArg Ms.ht em2
   rw [gc] at sg2;rw [bU] at ht2;obtain ⟨n1,ps1,h1,d1,T1⟩:=gb S g C I w3 (by lia) (by lia) (by lia) (by lia)
   obtain ⟨n2,ps2,h2,d2,T2⟩:=gb d1.dd.sh d1.dd.gd (J.pre d1.dd.pre) (B.pre d1.dd.pre) hc (by lia) (by lia) (by lia) (by have:=d1.dd.len;lia)
   obtain ⟨n3,ps3,h3,d3,T3⟩:=gb d2.dd.sh d2.dd.gd (T1.pre d2.dd.pre) T2 u3 (by rw [bU,bU];lia) (by rw [bU,bU];lia) (by rw [gc,gc];lia) (by have:=d1.dd.len;have:=d2.dd.len;lia)
   have d2':Dn (dz p (bA [.ref p,.int j,.int b])) p h1 h2 ps1 ps2 1 n2:=d2.as d1.dd.sh d1.dd.gd (λhh pp S' _ _=>Ax S' _) (MZ _)
   have d23:=Dn.seq (F:=λh1=>(dz p (bA [.ref p,.int j,.int b]) h1).bind λw h2=>bA [.ref p,.int n1,w] h2) (F2:=λw h2=>bA [.ref p,.int n1,w] h2) d1.dd.sh d1.dd.gd d2' d3 (λ_ _ _ _ _=>rfl) (k:=2) (by lia)
   have ea:(y1++z1)++(z2++y)=y1++(z1++z2)++y:=by rw [eQ,eQ,eQ]
   rw [ea] at T3;refine ⟨n3,ps3,h3,_,Dn.seq (F2:=λv h1=>(dz p (bA [.ref p,.int j,.int b]) h1).bind λw h2=>bA [.ref p,v,w] h2) S g d1 d23 (λhh pp S' _ pr=>ve S' A.n1 D.n1 (aZ pr A.ms) (aZ pr B.ms) (cY pr e) (aZ pr C.ms) (aZ pr D.ms) (cY pr e2) q r) (by lia),T3,?_⟩
   rw [bU,bU,bU];exact Jj ht ht2 w1 w2 v2 q r
theorem Dn.seq' {F1 F2:AH->Out AV} {ps2:List Pc} {k n2:Nat} (S:ShelfAt h p ps) (g:Good ps) (d1:Dn F1 p h h1 ps ps1 k1 n1) (d2:Dn F2 p h1 h2 ps1 ps2 k2 n2) (eq:∀ hh hh1 pp,ShelfAt hh p pp->Good pp->ps <+: pp->F1 hh = .ok (.int n1) hh1->F hh=F2 hh1) (hk:k1+k2<=k):Dn F p h h2 ps ps2 k n2:=by
 refine ⟨?_,d1.dd.trans d2.dd hk,λh3 ps3 S3 g3 p3=>?_⟩
 ·rw [eq h h1 ps S g (Oc _) d1.ev];exact d2.ev
 ·rw [eq h3 h3 ps3 S3 g3 (d1.dd.pre.trans (d2.dd.pre.trans p3)) (d1.re h3 ps3 S3 g3 (d2.dd.pre.trans p3))]
  exact d2.re h3 ps3 S3 g3 p3
theorem vf (S:ShelfAt h p ps) (ea:(meas ps)[a]? = some ma) (eb:(meas ps)[b]? = some mb) (h1:ma.ht-mb.ht<=1) (h2 : -1<=ma.ht-mb.ht) :
  fB (d+1) [.ref p,.int a,.int b] h=bA [.ref p,.int a,.int b] h:=by
 have f1:=dh S ea
 have f2:=dh S eb
 have c1 : ¬ 1<ma.ht-mb.ht:=by lia
 have c2 : ¬ ma.ht-mb.ht < -1:=by lia
 generalize hF:bA [.ref p,.int a,.int b] h=R
 simp [fB,qC,S.ob,f1,f2,c1,c2,hF]
 cases R<;>rfl
variable {v:Int}
theorem vg (S:ShelfAt h p ps) (a1:1<=a) (ea:(meas ps)[a]? = some ma) (eb:(meas ps)[b]? = some mb) (ep:ps[a-1]? = some (.fork c e)) (hd:1<ma.ht-mb.ht) (ev:fB d [.ref p,.int e,.int b] h = .ok (.int v) h1) :
  fB (d+1) [.ref p,.int a,.int b] h=gz [.ref p,.int c,.int v] h1:=by
 have f1:=dh S ea
 have f2:=dh S eb
 have f3:=gg S a1 ep
 generalize hF:gz [.ref p,.int c,.int v] h1=R
 simp [fB,qC,S.ob,f1,f2,hd,f3,i1,i2,ev,hF,-aw]
 cases R<;>rfl
theorem vh (S:ShelfAt h p ps) (b1:1<=b) (ea:(meas ps)[a]? = some ma) (eb:(meas ps)[b]? = some mb) (ep:ps[b-1]? = some (.fork c e)) (hd:ma.ht-mb.ht < -1) (ev:fB d [.ref p,.int a,.int c] h = .ok (.int v) h1) :
  fB (d+1) [.ref p,.int a,.int b] h=iE [.ref p,.int v,.int e] h1:=by
 have f1:=dh S ea
 have f2:=dh S eb
 have f3:=gg S b1 ep
 have c1 : ¬ 1<ma.ht-mb.ht:=by lia
 generalize hF:iE [.ref p,.int v,.int e] h1=R
 simp [fB,qC,S.ob,f1,f2,c1,hd,f3,i1,i2,ev,hF,-aw]
 cases R<;>rfl
theorem qW (a b:Int):a<=max a b/\b<=max a b/\(max a b=a\/max a b=b):=by lia
theorem Jl {a b c e m n:Int} (hh:a=max c e+1) (w1 : -1<=c-e) (w2:c-e<=1) (q:1<a-b) (u1:max e b<=m) (u2:m<=max e b+1) (u3:max c m<=n) (u4:n<=max c m+1) (u5:m-c<=1->n=max c m+1):max a b<=n/\n<=max a b+1:=by
 obtain ⟨x1,x2,x3⟩:=qW c e
 obtain ⟨y1,y2,y3⟩:=qW c m
 generalize max c e=k at *;generalize max c m=l at *;rw [Oz (show b<=e by lia)] at u1 u2
 rw [Oz (show b<=a by lia)]
 lia
theorem Jm {a b c e m n:Int} (hh:b=max c e+1) (w1 : -1<=c-e) (w2:c-e<=1) (q:a-b < -1) (u1:max a c<=m) (u2:m<=max a c+1) (u3:max m e<=n) (u4:n<=max m e+1) (u5:m-e<=1->n=max m e+1):max a b<=n/\n<=max a b+1:=by
 obtain ⟨x1,x2,x3⟩:=qW c e
 obtain ⟨y1,y2,y3⟩:=qW m e
 generalize max c e=k at *;generalize max m e=l at *;rw [OT (show a<=c by lia)] at u1 u2
 rw [OT (show a<=b by lia)]
 lia
theorem oC {p:Nat}:∀ (d t:Nat) {h:AH} {ps:List Pc} {a b:Nat} {ma mb fa la fb lb:Ms} {x y:Str} (S:ShelfAt h p ps) (g:Good ps) (A:Tx ps a ma x fa la) (B:Tx ps b mb y fb lb) (hc:8<la.sg+fb.sg) (hm:ma.sg+mb.sg<=1000000000000000000)
  (ht:(ma.ht-mb.ht).natAbs<=t) (hd:t<d) (hz:ps.length+3*t+4<16000000),
  ∃ (n:Nat) (ps':List Pc) (h':AH) (m:Ms),Dn (fB d [.ref p,.int a,.int b]) p h h' ps ps' (3*t+1) n/\Tx ps' n m (x++y) fa lb/\max ma.ht mb.ht<=m.ht/\m.ht<=max ma.ht mb.ht+1
 | 0,t,h,ps,a,b,ma,mb,fa,la,fb,lb,x,y,S,g,A,B,hc,hm,ht,hd,hz=>absurd hd (OA t)
 | d+1,t,h,ps,a,b,ma,mb,fa,la,fb,lb,x,y,S,g,A,B,hc,hm,ht,hd,hz=>by
  by_cases q1:1<ma.ht-mb.ht
  ·obtain ⟨c,e,mc,me,y1,y2,lc,fe,ep,C,E,rfl,em,w1,w2,w3⟩:=g.cut A (by have:=B.ky.ht;lia)
   have sg:=congrArg Ms.sg em
   have hh:=congrArg Ms.ht em
   rw [gc] at sg;rw [bU] at hh;obtain ⟨n1,ps1,h1,m1,d1,T1,u1,u2⟩:=oC d (t-1) S g E B hc (by lia) (by lia) (by lia) (by lia)
   have s1:m1.sg=me.sg+mb.sg:=by rw [T1.ky.sg,d7,<- E.ky.sg,<- B.ky.sg]
   obtain ⟨n2,ps2,h2,m2,d2,T2,u3,u4,u5⟩:=Ay d1.dd.sh d1.dd.gd (C.pre d1.dd.pre) T1 w3 (by lia) (by lia) (by lia) (by have:=d1.dd.len;lia)
   rw [<- eQ] at T2;exact ⟨n2,ps2,h2,m2,Dn.seq' S g d1 d2 (λhh hh1 pp S' _ pr ev=>vg S' A.n1 (aZ pr A.ms) (aZ pr B.ms) (cY pr ep) q1 ev) (by lia),T2,Jl hh w1 w2 q1 u1 u2 u3 u4 u5⟩
  ·by_cases q2:ma.ht-mb.ht < -1
   ·obtain ⟨c,e,mc,me,y1,y2,lc,fe,ep,C,E,rfl,em,w1,w2,w3⟩:=g.cut B (by have:=A.ky.ht;lia)
    have sg:=congrArg Ms.sg em
    have hh:=congrArg Ms.ht em
    rw [gc] at sg;rw [bU] at hh;obtain ⟨n1,ps1,h1,m1,d1,T1,u1,u2⟩:=oC d (t-1) S g A C hc (by lia) (by lia) (by lia) (by lia)
    have s1:m1.sg=ma.sg+mc.sg:=by rw [T1.ky.sg,d7,<- A.ky.sg,<- C.ky.sg]
    obtain ⟨n2,ps2,h2,m2,d2,T2,u3,u4,u5⟩:=Jk d1.dd.sh d1.dd.gd T1 (E.pre d1.dd.pre) w3 (by lia) (by lia) (by lia) (by have:=d1.dd.len;lia)
    rw [eQ] at T2;exact ⟨n2,ps2,h2,m2,Dn.seq' S g d1 d2 (λhh hh1 pp S' _ pr ev=>vh S' B.n1 (aZ pr A.ms) (aZ pr B.ms) (cY pr ep) q2 ev) (by lia),T2,Jm hh w1 w2 q2 u1 u2 u3 u4 u5⟩
   ·obtain ⟨n,ps',h',dn,T⟩:=gb S g A B hc (by lia) (by lia) hm (by lia)
    exact ⟨n,ps',h',_,dn.as S g (λhh pp S' _ pr=>vf S' (aZ pr A.ms) (aZ pr B.ms) (by lia) (by lia)) (by lia),T,by rw [bU];lia,by rw [bU];lia⟩
theorem mO (S:ShelfAt h p ps) (n1:1<=n) (e:ps[n-1]? = some (.leaf x)):eU [.ref p,.int n] h = .ok (.tup [.str "leaf",.str x]) h:=Av S n1 e
theorem qX (x:Str) (h:AH):aw (.tup [.str "leaf",.str x]) (.int 0) h = .ok (.str "leaf") h:=rfl
theorem lE (a b:Int) (h:AH):aw (.tup [.str "fork",.int a,.int b]) (.int 0) h = .ok (.str "fork") h:=rfl
theorem qY (x:Str) (h:AH):aw (.tup [.str "leaf",.str x]) (.int 1) h = .ok (.str x) h:=rfl
theorem qZ (h:AH):aG (.str "leaf") (.str "leaf") h = .ok (.bl true) h:=by simp
theorem lF (h:AH):aG (.str "fork") (.str "leaf") h = .ok (.bl false) h:=by
 have : ¬ (Str.ofString "fork" = Str.ofString "leaf"):=by decide +kernel
 simp [this]
theorem vi {L:Int} (S:ShelfAt h p ps) (a1:1<=a) (ep:ps[a-1]? = some (.leaf x)):hZ (d+1) [.ref p,.int a,.int L] h = .ok (.int L) h:=by
 simp [hZ,uN,S.ob,mO S a1 ep,qX,qZ,-aw,-aG]
theorem vj {L:Int} (S:ShelfAt h p ps) (a1:1<=a) (ep:ps[a-1]? = some (.fork c e)) (ev:hZ d [.ref p,.int e,.int L] h = .ok (.int v) h1) :
  hZ (d+1) [.ref p,.int a,.int L] h=bA [.ref p,.int c,.int v] h1:=by
 generalize hF:bA [.ref p,.int c,.int v] h1=R
 simp [hZ,uN,S.ob,gg S a1 ep,lE,i1,i2,lF,ev,hF,-aw,-aG]
 cases R<;>rfl
theorem q0 {m:Ms} (T:Tx ps n m x f l) (e:m=bS x n):f=m/\l=m:=by
 have h1:=T.ky.fl
 have h2:=T.ky.ll
 have h3:=T.ms
 rw [e] at h1 h2;exact ⟨NJ (h1.symm.trans h3),NJ (h2.symm.trans h3)⟩
theorem Az {p:Nat}:∀ (d:Nat) {h:AH} {ps:List Pc} {a L:Nat} {m f l:Ms} {x w:Str} (S:ShelfAt h p ps) (g:Good ps) (T:Tx ps a m x f l) (N:Tx ps L (bS w L) w (bS w L) (bS w L)) (hw:l.sg<=w.length) (hm:m.sg+w.length<=1000000000000000000+l.sg) (hd:m.ht.toNat<d) (hz:ps.length+m.ht.toNat<16000000),
  ∃ (n:Nat) (ps':List Pc) (h':AH) (m' f':Ms) (u v:Str),Dn (hZ d [.ref p,.int a,.int L]) p h h' ps ps' m.ht.toNat n/\x=u++v/\v.length=l.sg/\Tx ps' n m' (u++w) f' (bS w L)/\m'.ht=m.ht/\f.sg<=f'.sg
 | 0,h,ps,a,L,m,f,l,x,w,S,g,T,N,hw,hm,hd,hz=>absurd hd (OA _)
 | d+1,h,ps,a,L,m,f,l,x,w,S,g,T,N,hw,hm,hd,hz=>by
  by_cases q:0<m.ht
  ·obtain ⟨c,e,mc,me,y1,y2,lc,fe,ep,C,E,rfl,em,w1,w2,w3⟩:=g.cut T q
   have sg:=congrArg Ms.sg em
   have hh:=congrArg Ms.ht em
   rw [gc] at sg;rw [bU] at hh;have c0:=C.ky.ht
   have e0:=E.ky.ht
   obtain ⟨n1,ps1,h1,m1,f1,u,v,d1,rfl,lv,T1,k1,k2⟩:=Az d S g E N hw (by lia) (by lia) (by lia)
   have s1:m1.sg+l.sg=me.sg+w.length:=by rw [T1.ky.sg,E.ky.sg,d7,d7];lia
   obtain ⟨n2,ps2,h2,d2,T2⟩:=gb d1.dd.sh d1.dd.gd (C.pre d1.dd.pre) T1 (by lia) (by lia) (by lia) (by lia) (by have:=d1.dd.len;lia)
   rw [<- eQ] at T2;exact ⟨n2,ps2,h2,_,f,y1++u,v,Dn.seq' S g d1 d2 (λhh hh1 pp S' _ pr ev=>vj S' T.n1 (cY pr ep) ev) (by lia),by rw [eQ],lv,T2,by rw [bU,k1,hh],MZ _⟩
  ·rcases g.kind T with ⟨e1,e2,e3,e4,e5⟩ | ⟨c,e,mc,me,y1,y2,fc,lc,fe,le,e1,e2,e3,C,E,e4,e5,e6⟩
   ·obtain ⟨z1,z2⟩:=q0 T e3
    subst z1 z2
    have em:("" : Str)++x=x:=cM (by rw [df];rfl)
    have em2:("" : Str)++w=w:=cM (by rw [df];rfl)
    have dv:Dn (hZ (d+1) [.ref p,.int a,.int L]) p h h ps ps 0 L:=Dn.val S g λhh pp S' _ pr=>vi S' T.n1 (cY pr e1)
    refine ⟨L,ps,h,_,_, "",x,dv.as S g (λ_ _ _ _ _=>rfl) (NB _),em.symm,T.ky.sg.symm,by rw [em2];exact N,e2.symm,hw⟩
   ·have:=congrArg Ms.ht e5
    rw [bU] at this;have c0:=C.ky.ht
    lia
theorem vm (S:ShelfAt h p ps) (a1:1<=a) (ep:ps[a-1]? = some (.leaf x)):fK (d+1) [.ref p,.int a] h = .ok (.int (0:Nat)) h:=by
 simp [fK,qB,S.ob,mO S a1 ep,qX,qZ,-aw,-aG]
theorem oE (S:ShelfAt h p ps) (a1:1<=a) (ep:ps[a-1]? = some (.fork c e)) (ev:fK d [.ref p,.int c] h = .ok (.int (0:Nat)) h1) :
  fK (d+1) [.ref p,.int a] h = .ok (.int e) h1:=by
 have z:aG (.int 0) (.int 0) h1 = .ok (.bl true) h1:=by simp
 simp [fK,qB,S.ob,gg S a1 ep,lE,i1,i2,lF,ev,z,-aw,-aG]
theorem vn {v:Nat} (S:ShelfAt h p ps) (a1:1<=a) (ep:ps[a-1]? = some (.fork c e)) (v1:1<=v) (ev:fK d [.ref p,.int c] h = .ok (.int v) h1) :
  fK (d+1) [.ref p,.int a] h=gz [.ref p,.int v,.int e] h1:=by
 have z:aG (.int (v:Int)) (.int 0) h1 = .ok (.bl false) h1:=by
  have : ¬ (v=0):=by lia
  simp [this]
 generalize hF:gz [.ref p,.int v,.int e] h1=R
 simp [fK,qB,S.ob,gg S a1 ep,lE,i1,i2,lF,ev,z,hF,-aw,-aG]
 cases R<;>rfl
theorem AA {p:Nat}:∀ (d:Nat) {h:AH} {ps:List Pc} {a:Nat} {m f l:Ms} {x:Str} (S:ShelfAt h p ps) (g:Good ps) (T:Tx ps a m x f l) (hd:m.ht.toNat<d) (hz:ps.length+3*m.ht.toNat<16000000),
  (m.ht=0/\f.sg=x.length/\Dn (fK d [.ref p,.int a]) p h h ps ps 0 0) \/
  (0<m.ht/\∃ (n:Nat) (ps':List Pc) (h':AH) (m' f2:Ms) (u v:Str),Dn (fK d [.ref p,.int a]) p h h' ps ps' (3*m.ht.toNat) n/\x=u++v/\u.length=f.sg/\Tx ps' n m' v f2 l/\m.ht-1<=m'.ht/\m'.ht<=m.ht/\8<f.sg+f2.sg)
 | 0,h,ps,a,m,f,l,x,S,g,T,hd,hz=>absurd hd (OA _)
 | d+1,h,ps,a,m,f,l,x,S,g,T,hd,hz=>by
  by_cases q:0<m.ht
  ·obtain ⟨c,e,mc,me,y1,y2,lc,fe,ep,C,E,rfl,em,w1,w2,w3⟩:=g.cut T q
   have sg:=congrArg Ms.sg em
   have hh:=congrArg Ms.ht em
   rw [gc] at sg;rw [bU] at hh;have c0:=C.ky.ht
   have e0:=E.ky.ht
   have most:=T.ky.most
   refine .inr ⟨q,?_⟩
   rcases AA d S g C (by lia) (by lia) with ⟨k1,k2,d1⟩ | ⟨k1,n1,ps1,h1,m1,f2,u,v,d1,rfl,lu,T1,r1,r2,r3⟩
   ·rcases g.kind C with ⟨e1,e2,e3,e4,e5⟩ | ⟨_,_,mx,my,_,_,_,_,_,_,_,_,_,X,Y,_,e5,_⟩
    ·obtain ⟨z1,z2⟩:=q0 C e3
     have dv:Dn (fK (d+1) [.ref p,.int a]) p h h ps ps 0 e:=by
      refine ⟨oE S T.n1 ep d1.ev,Dd.refl S g,λh3 ps3 S3 g3 p3=>oE S3 T.n1 (cY p3 ep) (d1.re h3 ps3 S3 g3 p3)⟩
     exact ⟨e,ps,h,me,fe,y1,y2,dv.as S g (λ_ _ _ _ _=>rfl) (NB _),rfl,k2.symm,E,by lia,by lia,by rw [z1];rw [z2] at w3;exact w3⟩
    ·have:=congrArg Ms.ht e5
     rw [bU] at this;have:=X.ky.ht
     lia
   ·have s1:m1.sg+f.sg=mc.sg:=by rw [T1.ky.sg,C.ky.sg,d7];lia
    obtain ⟨n2,ps2,h2,m2,d2,T2,u3,u4,u5⟩:=Ay d1.dd.sh d1.dd.gd T1 (E.pre d1.dd.pre) w3 (by lia) (by lia) (by lia) (by have:=d1.dd.len;lia)
    refine ⟨n2,ps2,h2,m2,f2,u,v++y2,Dn.seq' S g d1 d2 (λhh hh1 pp S' _ pr ev=>vn S' T.n1 (cY pr ep) T1.n1 ev) (by lia),by rw [eQ],lu,T2,?_,?_,r3⟩
    ·lia
    ·lia
  ·rcases g.kind T with ⟨e1,e2,e3,e4,e5⟩ | ⟨_,_,mx,my,_,_,_,_,_,_,_,_,_,X,Y,_,e5,_⟩
   ·obtain ⟨z1,z2⟩:=q0 T e3
    exact .inl ⟨e2,by rw [z1];exact T.ky.sg,Dn.val S g λhh pp S' _ pr=>vm S' T.n1 (cY pr e1)⟩
   ·have:=congrArg Ms.ht e5
    rw [bU] at this;have:=X.ky.ht
    lia
theorem Good.ends {ps:List Pc} (g:Good ps):∀ (k n:Nat) {m f l:Ms} {x:Str},n<=k->Tx ps n m x f l ->
  (∃ w u:Str,1<=m.fl/\ps[m.fl-1]? = some (.leaf w)/\x=w++u/\w.length=f.sg)/\(∃ w u:Str,1<=m.ll/\ps[m.ll-1]? = some (.leaf w)/\x=u++w/\w.length=l.sg)
 | 0,n,m,f,l,x,hn,T=>absurd T.n1 (by lia)
 | k+1,n,m,f,l,x,hn,T=>by
  rcases g.kind T with ⟨e1,e2,e3,e4,e5⟩ | ⟨a,b,ma,mb,y,z,fa,la,fb,lb,e1,e2,e3,A,B,rfl,e5,e6⟩
  ·obtain ⟨z1,z2⟩:=q0 T e3
   have em:("" : Str)++x=x:=cM (by rw [df];rfl)
   have em2:x++("" : Str)=x:=cM (by rw [df];simp;rfl)
   have hf:m.fl=n:=by rw [e3];rfl
   have hl:m.ll=n:=by rw [e3];rfl
   have hx:=T.ky.sg
   refine ⟨⟨x, "",by rw [hf];exact T.n1,by rw [hf];exact e1,em2.symm,by rw [z1];exact hx.symm⟩,⟨x, "",by rw [hl];exact T.n1,by rw [hl];exact e1,em.symm,by rw [z2];exact hx.symm⟩⟩
  ·have q1:=g.ends k a (by lia) A
   have q2:=g.ends k b (by lia) B
   obtain ⟨⟨w,u,a1,a2,rfl,a4⟩,_⟩:=q1
   obtain ⟨_,⟨w2,u2,b1,b2,rfl,b4⟩⟩:=q2
   have f1:=T.ky.fl
   have l1:=T.ky.ll
   have hf:m.fl=ma.fl:=by rw [e5];rfl
   have hl:m.ll=mb.ll:=by rw [e5];rfl
   rw [hf] at f1;rw [hl] at l1;have z5:=f1.symm.trans A.ky.fl;cases z5
   have z6:=l1.symm.trans B.ky.ll;cases z6
   rw [hf,hl];exact ⟨⟨w,u++(u2++w2),a1,a2,by rw [eQ],a4⟩,⟨w2,w++u++u2,b1,b2,by rw [eQ (w++u)],b4⟩⟩
theorem AB {a b c d:Str} (e:a++b=c++d) (h:a.length=c.length):a=c/\b=d:=by
 have:=congrArg (λz:Str=>z.cps.toList) e
 simp only [df] at this
 obtain ⟨h1,h2⟩:=List.append_inj this (by rw [<- cS,<- cS];exact h)
 exact ⟨cM h1,cM h2⟩
theorem Jn {a b c d:Str} (e:a++b=c++d) (h:b.length=d.length):a=c/\b=d:=by
 refine AB e ?_
 have:=congrArg Str.length e
 rw [d7,d7] at this;lia
theorem Jo (S:ShelfAt h p ps) (ea:(meas ps)[a]? = some ma) (eb:(meas ps)[b]? = some mb) (el:(meas ps)[ma.ll]? = some la) (ef:(meas ps)[mb.fl]? = some fb) :
  qA [.ref p,.int a,.int b] h = .ok (.bl (decide (8<la.sg+fb.sg))) h:=by
 have e1:=As S ea
 have e2:=Ar S eb
 have e3:=dy S el
 have e4:=dy S ef
 have:decide ((8:Int)<(la.sg:Int)+fb.sg)=decide (8<la.sg+fb.sg):=by apply decide_eq_decide.mpr;lia
 simp [qA,S.ob,e1,e2,e3,e4,this]
theorem Jp {v:Str} (hw:w.length+v.length<=100) (h:AH):aE (.str w) (.str v) h = .ok (.str (w++v)) h:=by
 have:w.length+v.length<=sizeLine:=M6 hw (by decide)
 simp [aE,this]
theorem jG {h3:AH} {L n k:Int} {v:Str} (S:ShelfAt h p ps) (ea:(meas ps)[a]? = some ma) (eb:(meas ps)[b]? = some mb) (l1:1<=ma.ll) (f1:1<=mb.fl) (el:ps[ma.ll-1]? = some (.leaf w)) (ef:ps[mb.fl-1]? = some (.leaf v)) (hw:w.length+v.length<=100) (e1:d6 [.ref p,.str (w++v)] h = .ok (.int L) h1) (e2:hZ 90 [.ref p,.int a,.int L] h1 = .ok (.int n) h2) (e3:fK 90 [.ref p,.int b] h2 = .ok (.int k) h3) :
  k8 [.ref p,.int a,.int b] h=if k=0 then .ok (.int n) h3 else fB 90 [.ref p,.int n,.int k] h3:=by
 have q1:=As S ea
 have q2:=Ar S eb
 have q3:=mO S l1 el
 have q4:=mO S f1 ef
 have ad:=Jp hw h
 unfold k8
 generalize hZ 90=WL at *;generalize fK 90=WF at *;generalize hF:fB 90=LK at *;by_cases z:k=0
 ·subst z
  have zz:aG (.int 0) (.int 0) h3 = .ok (.bl true) h3:=by simp
  simp [S.ob,q1,q2,q3,q4,qY,ad,e1,e2,e3,zz,-aw,-aG,-aE]
 ·have zz:aG (.int k) (.int 0) h3 = .ok (.bl false) h3:=by simp [z]
  rw [M9 z];generalize hR:LK [.ref p,.int n,.int k] h3=R
  simp [S.ob,q1,q2,q3,q4,qY,ad,e1,e2,e3,zz,hR,-aw,-aG,-aE]
  cases R<;>rfl
theorem Jq {v:Str} (h1:1<=w.length) (h2:w.length+v.length<=8) (pw:cf w=true) (pv:cf v=true):fL (w++v)=true:=by
 unfold fL
 rw [ox,d7,pw,pv];simp;lia
theorem AC (S:ShelfAt h p ps) (g:Good ps) (A:Tx ps a ma x fa la) (B:Tx ps b mb y fb lb) (hc : ¬ 8<la.sg+fb.sg) (hm:ma.sg+mb.sg<=1000000000000000000) (hz:ps.length<15000000) :
  ∃ (n:Nat) (ps':List Pc) (h':AH) (m f l:Ms),Dn (k8 [.ref p,.int a,.int b]) p h h' ps ps' (7*(max ma.ht mb.ht).toNat+2) n/\Tx ps' n m (x++y) f l/\m.ht<=max ma.ht mb.ht+1:=by
 obtain ⟨_,w,u,l1,el,ex,lw⟩:=g.ends a a (MZ _) A
 obtain ⟨⟨v,t,f1,ef,ey,lv⟩,_⟩:=g.ends b b (MZ _) B
 have a0:=A.ky.ht
 have b0:=B.ky.ht
 have ha:=fD g A
 have hb:=fD g B
 have px:cf x=true:=A.ky.pl
 have py:cf y=true:=B.ky.pl
 have pw:cf w=true:=by rw [ex,ox,NM] at px;exact px.2
 have pv:cf v=true:=by rw [ey,ox,NM] at py;exact py.1
 have la1:=A.ky.l1
 have fb1:=B.ky.f1
 have sx:=A.ky.sg
 have sy:=B.ky.sg
 have lx:x.length=u.length+w.length:=by rw [ex,d7]
 have ly:y.length=v.length+t.length:=by rw [ey,d7]
 have lwv:(w++v).length=w.length+v.length:=d7 w v
 obtain ⟨L,ps1,h1,d1,N⟩:=qV S g (Jq (w:=w) (v:=v) (by lia) (by lia) pw pv) (by lia)
 have z1:=d1.dd.len
 obtain ⟨n2,ps2,h2,m2,f2,u2,v2,d2,ex2,lv2,T2,k1,k2⟩:=Az 90 d1.dd.sh d1.dd.gd (A.pre d1.dd.pre) N (by lia) (by lia) (by lia) (by lia)
 have z2:=d2.dd.len
 obtain ⟨rfl,rfl⟩:u=u2/\w=v2:=Jn (ex.symm.trans ex2) (by lia)
 have s2:m2.sg=u.length+(w.length+v.length):=by rw [T2.ky.sg,d7,d7]
 have p12:=d1.dd.pre.trans d2.dd.pre
 have lm:(bS (w++v) L).sg=w.length+v.length:=d7 w v
 have tb:∀ q:Int,0<=q->q<=max ma.ht mb.ht->q.toNat<=(max ma.ht mb.ht).toNat:=λq _ _=>by lia
 rcases AA 90 d2.dd.sh d2.dd.gd (B.pre p12) (by lia) (by lia) with ⟨r1,r2,d3⟩ | ⟨r1,n3,ps3,h3,m3,f3,u3,v3,d3,ey3,lu3,T3,r2,r3,r4⟩
 ·have t0:t.length=0:=by lia
  have te:t = "" := cM (by rw [cS] at t0;rw [OS.mp t0];rfl)
  have rd:u++(w++v)=x++y:=by
   rw [ex,ey,te,eQ];congr 2
  rw [rd] at T2;refine ⟨n2,ps2,h2,m2,f2,_,⟨?_,d1.dd.trans d2.dd (by lia),λh4 ps4 S4 g4 p4=>?_⟩,T2,by lia⟩
  ·rw [jG S A.ms B.ms l1 f1 el ef (by lia) d1.ev d2.ev d3.ev];rfl
  ·have q1:=d1.re h4 ps4 S4 g4 (d2.dd.pre.trans p4)
   have q2:=d2.re h4 ps4 S4 g4 p4
   have q3:=d3.re h4 ps4 S4 g4 p4
   rw [jG S4 (aZ (p12.trans p4) A.ms) (aZ (p12.trans p4) B.ms) l1 f1 (cY (p12.trans p4) el) (cY (p12.trans p4) ef) (by lia) q1 q2 q3];rfl
 ·obtain ⟨rfl,rfl⟩:v=u3/\t=v3:=AB (ey.symm.trans ey3) (by lia)
  have z3:=d3.dd.len
  have s3:m3.sg=t.length:=T3.ky.sg
  have m30:=T3.ky.ht
  obtain ⟨n4,ps4,h4,m4,d4,T4,r5,r6⟩:=oC 90 (max ma.ht mb.ht).toNat d3.dd.sh d3.dd.gd (T2.pre d3.dd.pre) T3 (by lia) (by lia) (by lia) (by lia) (by lia)
  have rd:(u++(w++v))++t=x++y:=by rw [ex,ey,eQ,eQ,eQ]
  rw [rd] at T4;have n3z : ¬ (n3:Int)=0:=by have:=T3.n1;lia
  have p123:=p12.trans d3.dd.pre
  refine ⟨n4,ps4,h4,m4,f2,lb,⟨?_,((d1.dd.trans d2.dd (MZ _)).trans d3.dd (MZ _)).trans d4.dd (by lia),λh5 ps5 S5 g5 p5=>?_⟩,T4,by lia⟩
  ·rw [jG S A.ms B.ms l1 f1 el ef (by lia) d1.ev d2.ev d3.ev,M9 n3z];exact d4.ev
  ·have p45:=d4.dd.pre.trans p5
   have q1:=d1.re h5 ps5 S5 g5 (d2.dd.pre.trans (d3.dd.pre.trans p45))
   have q2:=d2.re h5 ps5 S5 g5 (d3.dd.pre.trans p45)
   have q3:=d3.re h5 ps5 S5 g5 p45
   have q4:=d4.re h5 ps5 S5 g5 p5
   have pa:=p123.trans p45
   rw [jG S5 (aZ pa A.ms) (aZ pa B.ms) l1 f1 (cY pa el) (cY pa ef) (by lia) q1 q2 q3,M9 n3z];exact q4
def TxZ (ps:List Pc) (n:Nat) (y:Str):Prop:=(n=0/\y = "")\/∃ m f l,Tx ps n m y f l
theorem TxZ.pre {ps ps':List Pc} {n:Nat} {y:Str} (t:TxZ ps n y) (h:ps <+: ps'):TxZ ps' n y:=by
 rcases t with t | ⟨m,f,l,t⟩
 ·exact .inl t
 ·exact .inr ⟨m,f,l,t.pre h⟩
theorem oF (ps:List Pc):(meas ps)[0]? = some ms0:=by
 obtain ⟨r,e,_⟩:=ou iF ps [ms0]
 rw [meas,e];rfl
def bx (ps:List Pc) (n:Nat):Int:=((meas ps).getD n ms0).ht
theorem d8 {m:Ms} (e:(meas ps)[n]? = some m):bx ps n=m.ht:=by unfold bx;rw [oz e]
theorem oG (ps:List Pc):bx ps 0 = -1:=d8 (oF ps)
theorem oH {i:Int} (hi:i<=1000000000000000000) (h:AH):mJ [.int i] h = .ok .non h:=by
 have : ¬ (1000000000000000000:Int)<i:=by lia
 simp [mJ,this]
theorem oI (S:ShelfAt h p ps) (eb:(meas ps)[b]? = some mb) (hm:mb.sg<=1000000000000000000):cq [.ref p,.int (0:Nat),.int b] h = .ok (.int b) h:=by
 have e1:=dy S (oF ps)
 have e2:=dy S eb
 have z:ms0.sg=0:=rfl
 rw [z] at e1;have e1':eJ [.ref p,.int 0] h = .ok (.int 0) h:=e1
 have ck:=oH (i:=(0:Int)+mb.sg) (by lia) h
 have zz:aG (.int 0) (.int 0) h = .ok (.bl true) h:=by simp
 have ad:aE (.int 0) (.int mb.sg) h = .ok (.int (0+mb.sg)) h:=rfl
 simp [cq,S.ob,e1',e2,ad,ck,zz,-aG,-aE,-Int.zero_add]
theorem oJ (S:ShelfAt h p ps) (a1:1<=a) (ea:(meas ps)[a]? = some ma) (hm:ma.sg<=1000000000000000000):cq [.ref p,.int a,.int (0:Nat)] h = .ok (.int a) h:=by
 have e1:=dy S (oF ps)
 have e2:=dy S ea
 have z:ms0.sg=0:=rfl
 rw [z] at e1;have e1':eJ [.ref p,.int 0] h = .ok (.int 0) h:=e1
 have ck:=oH (i:=(ma.sg:Int)+0) (by lia) h
 have zz:aG (.int 0) (.int 0) h = .ok (.bl true) h:=by simp
 have z2:aG (.int a) (.int 0) h = .ok (.bl false) h:=by
  have : ¬ a=0:=by lia
  simp [this]
 have ad:aE (.int ma.sg) (.int 0) h = .ok (.int (ma.sg+0)) h:=rfl
 simp [cq,S.ob,e1',e2,ad,ck,zz,z2,-aG,-aE,-Int.add_zero]
theorem jH (S:ShelfAt h p ps) (a1:1<=a) (b1:1<=b) (ea:(meas ps)[a]? = some ma) (eb:(meas ps)[b]? = some mb) (el:(meas ps)[ma.ll]? = some la) (ef:(meas ps)[mb.fl]? = some fb) (hm:ma.sg+mb.sg<=1000000000000000000) :
  cq [.ref p,.int a,.int b] h=if 8<la.sg+fb.sg then fB 90 [.ref p,.int a,.int b] h else k8 [.ref p,.int a,.int b] h:=by
 have e1:=dy S ea
 have e2:=dy S eb
 have cl:=Jo S ea eb el ef
 have ck:=oH (i:=(ma.sg:Int)+mb.sg) (by lia) h
 have z1:aG (.int a) (.int 0) h = .ok (.bl false) h:=by
  have : ¬ a=0:=by lia
  simp [this]
 have z2:aG (.int b) (.int 0) h = .ok (.bl false) h:=by
  have : ¬ b=0:=by lia
  simp [this]
 have ad:aE (.int ma.sg) (.int mb.sg) h = .ok (.int (ma.sg+mb.sg)) h:=rfl
 unfold cq
 generalize fB 90=LK at *;by_cases q:8<la.sg+fb.sg
 ·rw [M8 q]
  generalize hR:LK [.ref p,.int a,.int b] h=R
  simp [S.ob,e1,e2,ad,ck,z1,z2,cl,q,hR,-aG,-aE]
  cases R<;>rfl
 ·rw [M9 q]
  generalize hR:k8 [.ref p,.int a,.int b] h=R
  simp [S.ob,e1,e2,ad,ck,z1,z2,cl,q,hR,-aG,-aE]
  cases R<;>rfl
theorem TxZ.meas {ps:List Pc} {n:Nat} {y:Str} (t:TxZ ps n y):∃ m,(meas ps)[n]? = some m/\m.sg=y.length:=by
 rcases t with ⟨rfl,rfl⟩ | ⟨m,f,l,T⟩
 ·exact ⟨ms0,oF ps,rfl⟩
 ·exact ⟨m,T.ms,T.ky.sg⟩
theorem vo (S:ShelfAt h p ps) (g:Good ps) (A:TxZ ps a x) (B:TxZ ps b y) (hm:x.length+y.length<=1000000000000000000) (hz:ps.length<15000000) :
  ∃ (n:Nat) (ps':List Pc) (h':AH),Dn (cq [.ref p,.int a,.int b]) p h h' ps ps' (16*(max (bx ps a) (bx ps b)+1).toNat) n/\TxZ ps' n (x++y):=by
 rcases A with ⟨rfl,rfl⟩ | ⟨ma,fa,la,A⟩
 ·obtain ⟨mb,eb,sb⟩:=B.meas
  have em:("" : Str)++y=y:=cM (by rw [df];rfl)
  have dv:Dn (cq [.ref p,.int (0:Nat),.int b]) p h h ps ps 0 b:=Dn.val S g λhh pp S' _ pr=>oI S' (aZ pr eb) (by rw [sb];lia)
  exact ⟨b,ps,h,dv.as S g (λ_ _ _ _ _=>rfl) (NB _),by rw [em];exact B⟩
 ·rcases B with ⟨rfl,rfl⟩ | ⟨mb,fb,lb,B⟩
  ·have em:x++("" : Str)=x:=cM (by rw [df];simp;rfl)
   have dv:Dn (cq [.ref p,.int a,.int (0:Nat)]) p h h ps ps 0 a:=Dn.val S g λhh pp S' _ pr=>oJ S' A.n1 (aZ pr A.ms) A.ky.most
   exact ⟨a,ps,h,dv.as S g (λ_ _ _ _ _=>rfl) (NB _),by rw [em];exact .inr ⟨_,_,_,A⟩⟩
  ·have sa:=A.ky.sg
   have sb:=B.ky.sg
   have a0:=A.ky.ht
   have b0:=B.ky.ht
   have ha:=fD g A
   have hb:=fD g B
   rw [d8 A.ms,d8 B.ms];by_cases q:8<la.sg+fb.sg
   ·obtain ⟨n,ps',h',m,d,T,_⟩:=oC 90 (max ma.ht mb.ht).toNat S g A B q (by lia) (by lia) (by lia) (by lia)
    exact ⟨n,ps',h',d.as S g (λhh pp S' _ pr=>by rw [jH S' A.n1 B.n1 (aZ pr A.ms) (aZ pr B.ms) (aZ pr A.ky.ll) (aZ pr B.ky.fl) (by lia),M8 q]) (by lia),.inr ⟨_,_,_,T⟩⟩
   ·obtain ⟨n,ps',h',m,f,l,d,T,_⟩:=AC S g A B q (by lia) hz
    exact ⟨n,ps',h',d.as S g (λhh pp S' _ pr=>by rw [jH S' A.n1 B.n1 (aZ pr A.ms) (aZ pr B.ms) (aZ pr A.ky.ll) (aZ pr B.ky.fl) (by lia),M9 q]) (by lia),.inr ⟨_,_,_,T⟩⟩
theorem Jr (be:b<=e):(bY y (some (b:Int)) (some (e:Int))).cps.toList=(y.cps.toList.drop b).take (e-b):=by
 unfold bY
 rw [HT.sIx_nat,HT.sIx_nat];generalize y.cps.toList=l
 show (l.drop (min b l.length)).take (min e l.length-min b l.length)=_
 apply List.ext_getElem?
 intro i
 rw [OX,OX,Pk,Pk];by_cases q:b<=l.length
 ·rw [OY q]
  by_cases c1:i<e-b
  ·rw [M8 c1]
   by_cases c2:i<min e l.length-b
   ·rw [M8 c2]
   ·rw [M9 c2,OL (by lia)]
  ·rw [M9 c1,M9 (by lia)]
 ·rw [M9 (by lia),OL (l:=l) (i:=b+i) (by lia)]
  split<;>rfl
def fE:List Str->Str
 | [] => ""
 | w::ws=>w++fE ws
theorem vp:∀ as bs:List Str,fE (as++bs)=fE as++fE bs
 | [],bs=>(cM (by rw [df];rfl):fE bs=("" : Str)++fE bs)
 | w::as,bs=>by
  show w++fE (as++bs)=(w++fE as)++fE bs
  rw [vp as bs,eQ]
theorem AD (w:Str):fE [w]=w:=cM (by show (w++("" : Str)).cps.toList=_;rw [df];simp;rfl)
def LS (ps:List Pc) (ns:List Nat) (ws:List Str):Prop:=ns.length=ws.length/\∀ (i n:Nat) (w:Str),ns[i]? = some n->ws[i]? = some w->Tx ps n (bS w n) w (bS w n) (bS w n)
theorem LS.pre {ps ps':List Pc} {ns:List Nat} {ws:List Str} (s:LS ps ns ws) (h:ps <+: ps'):LS ps' ns ws:=⟨s.1,λi n w a b=>(s.2 i n w a b).pre h⟩
theorem LS.take {ps:List Pc} {ns:List Nat} {ws:List Str} (s:LS ps ns ws) (k:Nat):LS ps (ns.take k) (ws.take k):=by
 refine ⟨by simp [s.1],λi n w a b=>?_⟩
 rw [OX] at a b;by_cases q:i<k
 ·rw [M8 q] at a b;exact s.2 i n w a b
 ·rw [M9 q] at a;cases a
theorem LS.drop {ps:List Pc} {ns:List Nat} {ws:List Str} (s:LS ps ns ws) (k:Nat):LS ps (ns.drop k) (ws.drop k):=by
 refine ⟨by simp [s.1],λi n w a b=>?_⟩
 rw [Pk] at a b;exact s.2 _ n w a b
abbrev dZ (ns:List Nat):List AV:=ns.map λn:Nat=>AV.int (n:Int)
theorem vq:iD (d+1) [.ref p,.fl (dZ [n])] h = .ok (.int n) h:=by
 have ix:aw (.fl [.int (n:Int)]) (.int 0) h = .ok (.int n) h:=rfl
 simp [iD,uM,ix,-aw]
theorem Js (l:List α) {k:Nat} (hk:k<=l.length):dW l none (some (k:Int))=l.take k:=by
 unfold dW
 rw [HT.sIx_nat,HT.sIx_none,OY hk];simp
theorem Jt (l:List α) {k:Nat} (hk:k<=l.length):dW l (some (k:Int)) none=l.drop k:=by
 unfold dW
 rw [HT.sIx_nat,HT.sIx_none,OY hk,NU (by simp)]
theorem vt {ns:List Nat} {v1 v2:Int} (S:ShelfAt h p ps) (hl:2<=ns.length) (e1:iD d [.ref p,.fl (dZ (ns.take (ns.length / 2)))] h = .ok (.int v1) h1) (e2:iD d [.ref p,.fl (dZ (ns.drop (ns.length / 2)))] h1 = .ok (.int v2) h2) :
  iD (d+1) [.ref p,.fl (dZ ns)] h=bA [.ref p,.int v1,.int v2] h2:=by
 have hh:ns.length / 2<=ns.length:=Nat.div_le_self _ _
 have ln:aJ [.fl (dZ ns)] h = .ok (.int ns.length) h:=by simp [aJ]
 have q:aG (.int ns.length) (.int 1) h = .ok (.bl false) h:=by
  have : ¬ (ns.length:Int)=1:=by lia
  simp [this]
 have dv:cg (.int ns.length) (.int 2) h = .ok (.int (ns.length / 2:Nat)) h:=rfl
 have c1:dE (.fl (dZ ns)) none (some (ns.length / 2:Nat)) h = .ok (.fl (dZ (ns.take (ns.length / 2)))) h:=by
  have:=Js (dZ ns) (k:=ns.length / 2) (by simpa using hh)
  simp only [dE,this,dZ,List.map_take]
 have c2:∀ h,dE (.fl (dZ ns)) (some (ns.length / 2:Nat)) none h = .ok (.fl (dZ (ns.drop (ns.length / 2)))) h:=λh=>by
  have:=Jt (dZ ns) (k:=ns.length / 2) (by simpa using hh)
  simp only [dE,this,dZ,List.map_drop]
 generalize hF:bA [.ref p,.int v1,.int v2] h2=R
 unfold iD uM
 generalize dZ ns=Z at *;generalize dZ (ns.take (ns.length / 2))=Z1 at *;generalize dZ (ns.drop (ns.length / 2))=Z2 at *;generalize ((ns.length / 2:Nat):Int)=M at *;generalize (ns.length:Int)=K at *;simp [S.ob,ln,q,dv,c1,c2,e1,e2,hF,-aJ,-aG,-cg,-dE]
 cases R<;>rfl
theorem Ju {ha:Nat} (ab:b<=a+1) (h1:a<=2 ^ ha) (h2:hb=0\/2 ^ (hb-1)<b):hb<=ha+1:=by
 rcases h2 with h2 | h2
 ·lia
 ·have:2 ^ (hb-1)<=2 ^ ha:=by lia
  have:=(Nat.pow_le_pow_iff_right (a:=2) (by decide)).mp this
  lia
theorem Jv {ha:Nat} (ab:a<=b) (h1:b<=2 ^ hb) (h2:ha=0\/2 ^ (ha-1)<a):ha<=hb:=by
 rcases h2 with h2 | h2
 ·lia
 ·have:2 ^ (ha-1)<2 ^ hb:=by lia
  have:=(Nat.pow_lt_pow_iff_right (a:=2) (by decide)).mp this
  lia
theorem Jw {k:Nat} (h1:k<=2*b) (h2:2*b<=k+1) (h3:2<=k) (h4:b<=2 ^ hb) (h5:hb=0\/2 ^ (hb-1)<b):k<=2 ^ (hb+1)/\2 ^ (hb+1-1)<k:=by
 rw [Qy,Rn];refine ⟨by lia,?_⟩
 rcases h5 with h5 | h5
 ·subst h5;simp;lia
 ·cases hb with
  | zero=>simp;lia
  | succ n =>
   rw [Rn] at h5;rw [Qy];lia
theorem Jx {k:Nat} (h:k<=2 ^ (e+1)):k / 2<=2 ^ e/\k-k / 2<=2 ^ e:=by rw [Qy] at h;lia
theorem vv {p:Nat}:∀ (d e:Nat) {h:AH} {ps:List Pc} {ns:List Nat} {ws:List Str},ShelfAt h p ps->Good ps->LS ps ns ws->1<=ns.length->ns.length<=2 ^ e->e<d->(∀ (i:Nat) (w:Str),ws[i]? = some w->i+1<ws.length->w.length=8)->ps.length+ns.length<16000000->ns.length<=10000 ->
  ∃ (n:Nat) (ps':List Pc) (h':AH) (m f l:Ms) (H:Nat),iD d [.ref p,.fl (dZ ns)] h = .ok (.int n) h'/\Dd p h h' ps ps' (ns.length-1)/\Tx ps' n m (fE ws) f l/\m.ht=H/\ns.length<=2 ^ H/\(H=0\/2 ^ (H-1)<ns.length)/\((∀ w∈ws,w.length=8)->l.sg=8)/\m.sg<=8*ns.length
 | 0,e,h,ps,ns,ws,S,g,LL,h1,h2,h3,h4,h5,h6=>absurd h3 (OA _)
 | d+1,e,h,ps,ns,ws,S,g,LL,h1,h2,h3,h4,h5,h6=>by
  by_cases q:ns.length=1
  ·obtain ⟨n,rfl⟩:∃ n,ns=[n]:=Qz.mp q
   obtain ⟨w,rfl⟩:∃ w,ws=[w]:=Qz.mp (LL.1.symm.trans q)
   have T:=LL.2 0 n w rfl rfl
   refine ⟨n,ps,h,_,_,_,0,vq,{ Dd.refl S g with len:=by lia },by rw [AD];exact T,rfl,by simp,.inl rfl,λhw=>hw w (by simp),?_⟩
   have:=T.ky.f8
   simpa using this
  ·have hh:2<=ns.length:=by lia
   obtain ⟨e',rfl⟩:∃ e',e=e'+1:=by
    cases e with
    | zero=>simp at h2;lia
    | succ e' => exact ⟨e',rfl⟩
   obtain ⟨w1,w2⟩:=Jx h2
   have lt:(ns.take (ns.length / 2)).length=ns.length / 2:=by rw [Oa];lia
   have ld:(ns.drop (ns.length / 2)).length=ns.length-ns.length / 2:=OG ..
   have lw:=LL.1
   obtain ⟨n1,ps1,hh1,m1,f1,l1,H1,a1,a2,a3,a4,a5,a6,a7,a8⟩:=vv d e' S g (LL.take (ns.length / 2)) (by lia) (by lia) (by lia) (λi w ew hi=>by
    rw [OX] at ew;split at ew
    ·rw [Oa] at hi;exact h4 i w ew (by lia)
    ·cases ew) (by lia) (by lia)
   have z1:=a2.len
   obtain ⟨n2,ps2,hh2,m2,f2,l2,H2,b1,b2,b3,b4,b5,b6,b7,b8⟩:=vv d e' a2.sh a2.gd ((LL.drop (ns.length / 2)).pre a2.pre) (by lia) (by lia) (by lia) (λi w ew hi=>by
    rw [Pk] at ew;rw [OG] at hi;exact h4 _ w ew (by lia)) (by lia) (by lia)
   have z2:=b2.len
   rw [lt] at a5 a6 a8;rw [ld] at b5 b6 b8;have g1:=Ju (a:=ns.length / 2) (b:=ns.length-ns.length / 2) (by lia) a5 b6
   have g2:=Jv (a:=ns.length / 2) (b:=ns.length-ns.length / 2) (by lia) b5 a6
   have l8:l1.sg=8:=a7 λw hw=>by
    obtain ⟨i,hi,ei⟩:=Pd hw
    have hi' := hi
    rw [Oa] at hi';have:(ws.take (ns.length / 2))[i]? = some w:=by rw [Ni hi,ei]
    rw [OX] at this;split at this
    ·exact h4 i w this (by lia)
    ·cases this
   have f1' := b3.ky.f1
   obtain ⟨n3,ps3,hh3,d3,T3⟩:=gb b2.sh b2.gd (a3.pre b2.pre) b3 (by lia) (by lia) (by lia) (by lia) (by lia)
   have rd:fE (ws.take (ns.length / 2))++fE (ws.drop (ns.length / 2))=fE ws:=by rw [<- vp,List.take_append_drop]
   rw [rd] at T3;have hv:=vt S hh a1 b1
   obtain ⟨y1,y2⟩:=Jw (k:=ns.length) (b:=ns.length-ns.length / 2) (by lia) (by lia) hh b5 b6
   refine ⟨n3,ps3,hh3,_,f1,l2,H2+1,hv.trans d3.ev,(a2.trans b2 (MZ _)).trans d3.dd (by lia),T3,by rw [bU,a4,b4];lia,y1,.inr y2,λhw=>b7 λw hm=>hw w (O5 hm),by rw [gc];lia⟩
def iG (x:Str) (k:Nat):Str:=bY x (some ((8*k:Nat):Int)) (some ((8*k+8:Nat):Int))
theorem vx (x:Str) (k:Nat):(iG x k).cps.toList=(x.cps.toList.drop (8*k)).take 8:=by
 unfold iG
 rw [Jr (by lia),show 8*k+8-8*k=8 by lia]
theorem AE (x:Str) (k:Nat):(iG x k).length=min 8 (x.length-8*k):=by
 rw [cS,vx,Oa,OG,<- cS]
theorem Jy (px:cf x=true) (k:Nat):cf (iG x k)=true:=by
 unfold cf at *
 rw [vx,NR];rw [NR] at px;exact λc hc=>px c (O5 (PF hc))
theorem AF (x:Str):∀ j,(fE ((List.range j).map (iG x))).cps.toList=x.cps.toList.take (8*j)
 | 0=>rfl
 | j+1=>by
  rw [OZ,N9,vp,df,AF x j];show _++(fE [iG x j]).cps.toList=_
  rw [AD,vx,show 8*(j+1)=8*j+8 by lia,List.take_add]
theorem AG {f:Nat->α} {N:Nat} {w:α} (e:((List.range N).map f)[i]? = some w):i<N/\w=f i:=by
 rw [NK] at e;obtain ⟨j,ej,ew⟩:=Nw.mp e
 have h1:=(MY.mp ej).1
 rw [Ol] at h1;rw [Pe h1] at ej
 cases ej
 exact ⟨h1,ew.symm⟩
theorem LS.snoc {ns:List Nat} {ws:List Str} (s:LS ps ns ws) (h:ps <+: ps') (T:Tx ps' n (bS w n) w (bS w n) (bS w n)):LS ps' (ns++[n]) (ws++[w]):=by
 have l:=s.1
 refine ⟨by simp [s.1],λi a b ea eb=>?_⟩
 by_cases q:i<ns.length
 ·rw [Nb q] at ea
  rw [Nb (by lia)] at eb
  exact (s.2 i a b ea eb).pre h
 ·have h1:=(MY.mp ea).1
  have hi:i=ns.length:=by simp at h1;lia
  subst hi;rw [NC (by lia)] at ea eb
  simp at ea
  rw [show ns.length-ws.length=0 by lia] at eb
  simp at eb
  subst ea eb
  exact T
theorem Jz (S:ShelfAt h p ps) (g:Good ps) (px:cf x=true) (N:Nat) (hN:8*N<x.length+8) (hx:x.length<=10000) (hz:ps.length+N<16000000) (all:List AV) (js:List Nat) (en:En) (hj:js.map (λj=>(en[j]?).join)=[some (.ref p),some (.str x)]) :
  ∃ (ns:List Nat) (ps':List Pc) (h':AH),eu js en none all bZ (aI 0 d6 (ae 1) (aj (cz (ae 2) (some (ae 0)) (some (ah aE (ae 0) (af (.int 8))))) ag)) ((List.range N).map λm:Nat=>AV.int (0+(m:Int)*8)) [] h = .ok (dZ ns) h'/\Dd p h h' ps ps' N/\LS ps' ns ((List.range N).map (iG x)):=by
 obtain ⟨zs,h',c1,ns,ps',e1,D,LL⟩:=IE (js:=js) (en:=en) (all:=all) (e:=aI 0 d6 (ae 1) (aj (cz (ae 2) (some (ae 0)) (some (ah aE (ae 0) (af (.int 8))))) ag)) (xs:=(List.range N).map λm:Nat=>AV.int (0+(m:Int)*8)) (h:=h)
  (λj ys h' => ∃ (ns:List Nat) (ps':List Pc),ys=dZ ns/\Dd p h h' ps ps' j/\LS ps' ns ((List.range j).map (iG x))) ⟨[],ps,rfl,Dd.refl S g,rfl,λi n w a _=>by simp at a⟩ (by
   rintro j v ys h' hv ⟨ns,ps',rfl,D,LL⟩
   obtain ⟨jN,rfl⟩:=AG hv
   have z:=D.len
   have lc:=AE x j
   have sc:fL (iG x j)=true:=by
    unfold fL
    rw [Jy px j,lc];simp;lia
   obtain ⟨n,ps2,h2,d2,T⟩:=qV D.sh D.gd sc (by lia)
   have i1:(0:Int)+(j:Int)*8=((8*j:Nat):Int):=by lia
   have i2:((8*j:Nat):Int)+8=((8*j+8:Nat):Int):=by lia
   have ct:dE (.str x) (some ((8*j:Nat):Int)) (some ((8*j+8:Nat):Int)) h' = .ok (.str (iG x j)) h' := rfl
   have ev:=d2.ev
   rw [hj];have e:aI 0 d6 (ae 1) (aj (cz (ae 2) (some (ae 0)) (some (ah aE (ae 0) (af (.int 8))))) ag) [some (.int (0+(j:Int)*8)),some (.ref p),some (.str x)] h' = .ok (.int n) h2:=by
    rw [i1];have ad:aE (.int ((8*j:Nat):Int)) (.int 8) h' = .ok (.int ((8*j+8:Nat):Int)) h' := by rw [<- i2];rfl
    generalize ((8*j:Nat):Int)=B1 at *;generalize ((8*j+8:Nat):Int)=B2 at *;simp [D.sh.ob,ad,ct,ev,-aE,-dE]
   rw [e];refine ⟨ns++[n],ps2,by simp [dZ],D.trans d2.dd (by lia),?_⟩
   rw [OZ,N9];exact LL.snoc d2.dd.pre T) (by simp;exact M6 (show N<=10000 by lia) (by decide))
 rw [Nc,Ol] at D LL;exact ⟨ns,ps',h',by rw [c1,e1],D,LL⟩
theorem JA (S:ShelfAt h p ps) (g:Good ps) (px:cf x=true) (hx:x.length<=10000) (hz:ps.length+2*x.length<16000000) :
  ∃ (n:Nat) (ps':List Pc) (h':AH),mI [.ref p,.str x] h = .ok (.int n) h'/\Dd p h h' ps ps' (2*x.length)/\TxZ ps' n x:=by
 have sl:x.length<=sizeLine:=M6 hx (by decide)
 have fp:=Ae x h sl
 rw [px] at fp;have c1 : ¬ (10000:Int)<x.length:=by lia
 by_cases q:x.length=0
 ·have xe:x = "" := cM (by rw [cS] at q;rw [OS.mp q];rfl)
  subst xe;refine ⟨0,ps,h,?_,{ Dd.refl S g with len:=by lia },.inl ⟨rfl,rfl⟩⟩
  simp [mI,fp,c1]
 ·obtain ⟨N,eN⟩:∃ N,N=(x.length-1) / 8+1:=⟨_,rfl⟩
  obtain ⟨ns,ps1,h1,e1,D1,LL⟩:=Jz S g px N (by lia) hx (by lia) ((List.range N).map λm:Nat=>AV.int (0+(m:Int)*8)) [0,1] [some (.ref p),some (.str x),none] rfl
  have z1:=D1.len
  have ln:ns.length=N:=by rw [LL.1];simp
  obtain ⟨n,ps2,h2,m,f,l,H,b1,b2,b3,_⟩:=vv (p:=p) 20 11 D1.sh D1.gd LL (by lia) (by rw [ln];have:(2:Nat) ^ 11=2048:=rfl;lia) (by decide) (λi w ew hi=>by
   obtain ⟨iN,rfl⟩:=AG ew
   rw [Nc,Ol] at hi;rw [AE];lia) (by lia) (by lia)
  have rd:fE ((List.range N).map (iG x))=x:=cM (by rw [AF,NU (by rw [<- cS];lia)])
  rw [rd] at b3;have ir:jw (af (.int 0)) (aC aJ (aj (ae 1) ag)) (af (.int 8)) [some (.ref p),some (.str x),none] h = .ok ((List.range N).map (λm:Nat=>AV.int (0+(m:Int)*8)),none) h:=by
   have r1:((if (0:Int)<x.length then ((x.length:Int)-0-1) / 8+1 else 0:Int)).toNat=N:=by
    rw [M8 (by lia)];lia
   have r2:(0:Int).natAbs<2 ^ 40/\(x.length:Int).natAbs<2 ^ 40/\(0:Int)<8/\(8:Int)<2 ^ 20:=⟨by decide,by lia,by decide,by decide⟩
   show (if _ then _ else _)=_
   rw [M8 r2,r1]
  have cp:fi [0,1] (jw (af (.int 0)) (aC aJ (aj (ae 1) ag)) (af (.int 8))) bZ (aI 0 d6 (ae 1) (aj (cz (ae 2) (some (ae 0)) (some (ah aE (ae 0) (af (.int 8))))) ag)) [some (.ref p),some (.str x),none] h = .ok (.fl (dZ ns)) h1:=by
   simp only [fi,ir,e1]
  have ne:aG (.str x) (.str "") h = .ok (.bl false) h:=by
   have : ¬ x=Str.ofString "" := λz=>q (by rw [z];rfl)
   simp [this]
  refine ⟨n,ps2,h2,?_,D1.trans b2 (by lia),.inr ⟨_,_,_,b3⟩⟩
  unfold mI
  generalize fi [0,1] (jw (af (.int 0)) (aC aJ (aj (ae 1) ag)) (af (.int 8))) bZ (aI 0 d6 (ae 1) (aj (cz (ae 2) (some (ae 0)) (some (ah aE (ae 0) (af (.int 8))))) ag))=CP at *;generalize iD 20=HV at *;simp [fp,c1,ne,cp,b1,-aG]
theorem AI (S:ShelfAt h p ps) (g:Good ps) (A:TxZ ps a x) (B:TxZ ps b y) (hm:x.length+y.length<=1000000000000000000) (hz:ps.length<15000000) :
  ∃ (n:Nat) (ps':List Pc) (h':AH),Dn (cq [.ref p,.int a,.int b]) p h h' ps ps' (16*(max (bx ps a) (bx ps b)+1).toNat) n/\TxZ ps' n (x++y)/\bx ps' n<=max (bx ps a) (bx ps b)+1:=by
 rcases A with ⟨rfl,rfl⟩ | ⟨ma,fa,la,A⟩
 ·obtain ⟨mb,eb,sb⟩:=B.meas
  have em:("" : Str)++y=y:=cM (by rw [df];rfl)
  have dv:Dn (cq [.ref p,.int (0:Nat),.int b]) p h h ps ps 0 b:=Dn.val S g λhh pp S' _ pr=>oI S' (aZ pr eb) (by rw [sb];lia)
  exact ⟨b,ps,h,dv.as S g (λ_ _ _ _ _=>rfl) (NB _),by rw [em];exact B,by lia⟩
 ·rcases B with ⟨rfl,rfl⟩ | ⟨mb,fb,lb,B⟩
  ·have em:x++("" : Str)=x:=cM (by rw [df];simp;rfl)
   have dv:Dn (cq [.ref p,.int a,.int (0:Nat)]) p h h ps ps 0 a:=Dn.val S g λhh pp S' _ pr=>oJ S' A.n1 (aZ pr A.ms) A.ky.most
   exact ⟨a,ps,h,dv.as S g (λ_ _ _ _ _=>rfl) (NB _),by rw [em];exact .inr ⟨_,_,_,A⟩,by lia⟩
  ·have sa:=A.ky.sg
   have sb:=B.ky.sg
   have a0:=A.ky.ht
   have b0:=B.ky.ht
   have ha:=fD g A
   have hb:=fD g B
   rw [d8 A.ms,d8 B.ms];by_cases q:8<la.sg+fb.sg
   ·obtain ⟨n,ps',h',m,d,T,_,hu⟩:=oC 90 (max ma.ht mb.ht).toNat S g A B q (by lia) (by lia) (by lia) (by lia)
    exact ⟨n,ps',h',d.as S g (λhh pp S' _ pr=>by rw [jH S' A.n1 B.n1 (aZ pr A.ms) (aZ pr B.ms) (aZ pr A.ky.ll) (aZ pr B.ky.fl) (by lia),M8 q]) (by lia),.inr ⟨_,_,_,T⟩,by rw [d8 T.ms];exact hu⟩
   ·obtain ⟨n,ps',h',m,f,l,d,T,hu⟩:=AC S g A B q (by lia) hz
    exact ⟨n,ps',h',d.as S g (λhh pp S' _ pr=>by rw [jH S' A.n1 B.n1 (aZ pr A.ms) (aZ pr B.ms) (aZ pr A.ky.ll) (aZ pr B.ky.fl) (by lia),M9 q]) (by lia),.inr ⟨_,_,_,T⟩,by rw [d8 T.ms];exact hu⟩
def bW (x:Str) (a:Nat):Str:=⟨(x.cps.toList.take a).toArray⟩
def dB (x:Str) (a:Nat):Str:=⟨(x.cps.toList.drop a).toArray⟩
theorem jI (x:Str) (a:Nat):(bW x a).cps.toList=x.cps.toList.take a:=rfl
theorem j3 (x:Str) (a:Nat):(dB x a).cps.toList=x.cps.toList.drop a:=rfl
theorem rf (h:a<=x.length):(bW x a).length=a:=by
 rw [cS] at *
 rw [jI,Oa];lia
theorem mP (x:Str) (a:Nat):(dB x a).length=x.length-a:=by
 rw [cS,cS x,j3,OG]
theorem vy (x:Str):bW x 0 = "" := cM rfl
theorem vz (x:Str):dB x 0=x:=cM rfl
theorem JB (h:x.length<=a):bW x a=x:=cM (by rw [jI,NU (by rw [<- cS];exact h)])
theorem JC (h:x.length<=a):dB x a = "" := cM (by rw [j3,Oh (by rw [<- cS];exact h)];rfl)
theorem vA (h:a<=x.length):bW (x++y) a=bW x a:=cM (by rw [jI,df,jI,PH (by rw [<- cS];exact h)])
theorem vB (h:x.length<=a):bW (x++y) a=x++bW y (a-x.length):=cM (by
 rw [jI,df,df,jI,List.take_append,NU (by rw [<- cS];exact h),<- cS])
theorem vC (h:a<=x.length):dB (x++y) a=dB x a++y:=cM (by rw [j3,df,df,j3,List.drop_append_of_le_length (by rw [<- cS];exact h)])
theorem vD (h:x.length<=a):dB (x++y) a=dB y (a-x.length):=cM (by
 rw [j3,df,j3,List.drop_append,Oh (by rw [<- cS];exact h),<- cS];rfl)
theorem JD (h:cf x=true) (a:Nat):cf (bW x a)=true:=by
 unfold cf at *
 rw [jI,NR];rw [NR] at h;exact λc hc=>h c (PF hc)
theorem JE (h:cf x=true) (a:Nat):cf (dB x a)=true:=by
 unfold cf at *
 rw [j3,NR];rw [NR] at h;exact λc hc=>h c (O5 hc)
theorem vE (h:AH):dE (.str x) none (some (a:Int)) h = .ok (.str (bW x a)) h:=by
 have:bY x none (some (a:Int))=bW x a:=cM (by
  unfold bY
  rw [HT.sIx_nat,HT.sIx_none,jI];show (x.cps.toList.drop 0).take (min a x.cps.toList.length-0)=_
  rw [QV,Nat.sub_zero];by_cases q:a<=x.cps.toList.length
  ·rw [OY q]
  ·rw [Nat.min_eq_right (by lia),List.take_length,NU (by lia)])
 simp only [dE,this]
theorem AJ (ha:a<=x.length) (h:AH):dE (.str x) (some (a:Int)) none h = .ok (.str (dB x a)) h:=by
 have:bY x (some (a:Int)) none=dB x a:=cM (by
  unfold bY
  rw [HT.sIx_nat,HT.sIx_none,j3];rw [cS] at ha;rw [OY ha];show (x.cps.toList.drop a).take (x.cps.toList.length-a)=_
  rw [NU (by rw [OG];exact MZ _)])
 simp only [dE,this]
def ic (z:Int):Nat:=8*((z+1).toNat*(z+2).toNat)
theorem AK {a b:Int} (h0:0<=b) (h:b<=a):ic b+16*(a+1+1).toNat<=ic (a+1):=by
 unfold ic
 obtain ⟨m,rfl⟩:=Oj h0
 obtain ⟨n,rfl⟩:=Oj (show 0<=a by lia)
 rw [show ((m:Int)+1).toNat=m+1 by lia,show ((m:Int)+2).toNat=m+2 by lia,show ((n:Int)+1+1).toNat=n+2 by lia,show ((n:Int)+1+2).toNat=n+3 by lia]
 have hmn:m<=n:=by lia
 have h1:(m+1)*(m+2)<=(n+1)*(n+2):=Pv (by lia) (by lia)
 have h2:(n+2)*(n+3)=(n+1)*(n+2)+2*(n+2):=by
  rw [Qx (n+1),<- Qx (n+2) 2,<- Q4]
 lia
theorem vF {a b:Int} (h:a<=b) (ha : -1<=a):ic a<=ic b:=by
 unfold ic
 exact Rh 8 (Pv (by lia) (by lia))
theorem AN {a:Int} (h:a<=83) (h1 : -1<=a):ic a<=57120:=by
 have:=vF h h1
 have:ic 83=57120:=by decide +kernel
 lia
theorem rg (z:Str) (n:Nat):(bE z n).cps.toList=(List.replicate n z.cps.toList).flatten:=rfl
theorem rh (z:Str) (a b:Nat):bE z a++bE z b=bE z (a+b):=cM (by rw [df,rg,rg,rg,<- List.flatten_append,List.replicate_append_replicate])
theorem vG (z:Str):bE z 1=z:=cM (by rw [rg];simp)
theorem vH (z:Str):bE z 0 = "" := cM rfl
theorem rj (z:Str):∀ n,(bE z n).length=z.length*n
 | 0=>by rw [vH];rfl
 | n+1=>by rw [<- rh,d7,rj z n,vG,Nat.mul_succ]
theorem vI:∀ n,bE "" n = ""
 | 0=>vH _
 | n+1=>by
  rw [<- rh,vI n,vG];exact cM (by rw [df];rfl)
theorem vJ:fC (d+1) [.ref p,.int n,.int (0:Nat)] h = .ok (.int (0:Nat)) h:=by
 have z:aG (.int 0) (.int 0) h = .ok (.bl true) h:=by simp
 simp [fC,qI,z,-aG]
theorem vK {k:Nat} {a:Int} (hk : ¬ k=0) (hp:k % 2=0) (e1:fC d [.ref p,.int n,.int (k / 2:Nat)] h = .ok (.int a) h1):fC (d+1) [.ref p,.int n,.int k] h=cq [.ref p,.int a,.int a] h1:=by
 have z:aG (.int k) (.int 0) h = .ok (.bl false) h:=by simp [hk]
 have dv:cg (.int k) (.int 2) h = .ok (.int (k / 2:Nat)) h:=rfl
 have md:∀ h,bB (.int k) (.int 2) h = .ok (.int 0) h:=λh=>by
  have:(k:Int) % 2=0:=by lia
  show Out.ok (AV.int ((k:Int) % 2)) h=_
  rw [this]
 have z2:∀ h,aG (.int 0) (.int 0) h = .ok (.bl true) h:=λh=>by simp
 unfold fC qI
 generalize hF:cq [.ref p,.int a,.int a] h1=R
 generalize ((k / 2:Nat):Int)=K2 at *;generalize fC d=G at *;simp [z,dv,e1,hF,-aG,-cg,-bB]
 cases R with
 | ok v h2=>simp [md,z2,-aG,-bB]
 | ex c h2=>rfl
 | bad=>rfl
theorem vL {k:Nat} {a:Int} (hk : ¬ k=0) (hp : ¬ k % 2=0) (e1:fC d [.ref p,.int n,.int (k / 2:Nat)] h = .ok (.int a) h1):fC (d+1) [.ref p,.int n,.int k] h=(cq [.ref p,.int a,.int a] h1).bind λv h2=>cq [.ref p,v,.int n] h2:=by
 have z:aG (.int k) (.int 0) h = .ok (.bl false) h:=by simp [hk]
 have dv:cg (.int k) (.int 2) h = .ok (.int (k / 2:Nat)) h:=rfl
 have md:∀ h,bB (.int k) (.int 2) h = .ok (.int 1) h:=λh=>by
  have:(k:Int) % 2=1:=by lia
  show Out.ok (AV.int ((k:Int) % 2)) h=_
  rw [this]
 have z2:∀ h,aG (.int 1) (.int 0) h = .ok (.bl false) h:=λh=>by simp
 unfold fC qI
 generalize hF:cq [.ref p,.int a,.int a] h1=R
 generalize ((k / 2:Nat):Int)=K2 at *;generalize fC d=G at *;simp [z,dv,e1,hF,-aG,-cg,-bB]
 cases R with
 | ok v h2 =>
  simp [md,z2,-aG,-bB]
  cases cq [.ref p,v,.int n] h2<;>rfl
 | ex c h2=>rfl
 | bad=>rfl
theorem vM (g:Good ps) (A:TxZ ps a x) (B:TxZ ps b y):16*(max (bx ps a) (bx ps b)+1).toNat<=1400:=by
 have key:∀ {n:Nat} {y:Str},TxZ ps n y->bx ps n<=82:=λ{n y} t=>by
  rcases t with ⟨rfl,rfl⟩ | ⟨m,f,l,T⟩
  ·rw [oG];lia
  ·rw [d8 T.ms];exact fD g T
 have:=key A
 have:=key B
 lia
theorem AQ {p:Nat}:∀ (d e:Nat) {h:AH} {ps:List Pc} {n k:Nat} {x:Str},ShelfAt h p ps->Good ps->TxZ ps n x->k<2 ^ e->e<d->x.length*k<=1000000000000000000->ps.length+2800*e<15000000 ->
  ∃ (m:Nat) (ps':List Pc) (h':AH),Dn (fC d [.ref p,.int n,.int k]) p h h' ps ps' (2800*e) m/\TxZ ps' m (bE x k)
 | 0,e,h,ps,n,k,x,S,g,T,hk,hd,hm,hz=>absurd hd (OA _)
 | d+1,e,h,ps,n,k,x,S,g,T,hk,hd,hm,hz=>by
  by_cases k0:k=0
  ·subst k0
   have dv:Dn (fC (d+1) [.ref p,.int n,.int (0:Nat)]) p h h ps ps 0 0:=Dn.val S g λhh pp S' _ pr=>vJ
   exact ⟨0,ps,h,dv.as S g (λ_ _ _ _ _=>rfl) (NB _),.inl ⟨rfl,vH x⟩⟩
  ·obtain ⟨e',rfl⟩:∃ e',e=e'+1:=by
    cases e with
    | zero=>simp at hk;lia
    | succ e' => exact ⟨e',rfl⟩
   rw [Qy] at hk;have kk:x.length*(k / 2)+x.length*(k / 2)+x.length*(k % 2)=x.length*k:=by
    rw [<- Q4,<- Q4];congr 1
    lia
   obtain ⟨a,ps1,h1,d1,T1⟩:=AQ d e' (k:=k / 2) S g T (by lia) (by lia) (by lia) (by lia)
   have z1:=d1.dd.len
   have l1:=rj x (k / 2)
   obtain ⟨b,ps2,h2,d2,T2⟩:=vo d1.dd.sh d1.dd.gd T1 T1 (by lia) (by lia)
   have w2:=vM d1.dd.gd T1 T1
   have z2:=d2.dd.len
   rw [rh] at T2;by_cases hp:k % 2=0
   ·have ek:k / 2+k / 2=k:=by lia
    rw [ek] at T2;exact ⟨b,ps2,h2,Dn.seq' S g d1 d2 (λhh hh1 pp S' _ pr ev=>vK k0 hp ev) (by lia),T2⟩
   ·have l2:=rj x (k / 2+k / 2)
    rw [Q4] at l2;have km:x.length*(k % 2)=x.length:=by rw [show k % 2=1 by lia,Nat.mul_one]
    have p12:=d1.dd.pre.trans d2.dd.pre
    obtain ⟨c,ps3,h3,d3,T3⟩:=vo d2.dd.sh d2.dd.gd T2 (T.pre p12) (by lia) (by lia)
    have w3:=vM d2.dd.gd T2 (T.pre p12)
    have ek:bE x (k / 2+k / 2)++x=bE x k:=by
     conv=>lhs;rhs;rw [<- vG x]
     rw [rh];congr 1
     lia
    rw [ek] at T3;have d23:=Dn.seq (F:=λhh=>(cq [.ref p,.int a,.int a] hh).bind λv h2=>cq [.ref p,v,.int n] h2) (F2:=λv h2=>cq [.ref p,v,.int n] h2) d1.dd.sh d1.dd.gd d2 d3 (λ_ _ _ _ _=>rfl) (k:=2800) (by lia)
    exact ⟨c,ps3,h3,Dn.seq' S g d1 d23 (λhh hh1 pp S' _ pr ev=>vL k0 hp ev) (by lia),T3⟩
theorem vN {k:Nat} {m:Ms} (S:ShelfAt h p ps) (em:(meas ps)[n]? = some m) (hk:k<2 ^ 63) (hm:m.sg*k<=1000000000000000000):j1 [.ref p,.int n,.int k] h=if n=0 then .ok (.int (0:Nat)) h else fC 64 [.ref p,.int n,.int k] h:=by
 have fs:=dy S em
 have lt:dS (.int k) (.int 0) h = .ok (.bl false) h:=by
  have : ¬ (k:Int)<0:=by lia
  simp only [dS,this,decide_false]
 have ml:bL (.int m.sg) (.int k) h = .ok (.int ((m.sg*k:Nat):Int)) h:=by
  have h2:(k:Int).natAbs<2 ^ 64:=by
   have:(2:Nat) ^ 63<2 ^ 64:=by decide
   lia
  rw [Ab h2];congr 2
 have ck:=oH (i:=((m.sg*k:Nat):Int)) (by lia) h
 unfold j1
 generalize fC 64=G at *;generalize ((m.sg*k:Nat):Int)=MK at *;by_cases z:n=0
 ·subst z
  have z0:aG (.int 0) (.int 0) h = .ok (.bl true) h:=by simp
  have fs':eJ [.ref p,.int 0] h = .ok (.int m.sg) h:=fs
  simp [S.ob,fs',lt,ml,ck,z0,-dS,-bL,-aG]
 ·have z0:aG (.int n) (.int 0) h = .ok (.bl false) h:=by simp [z]
  rw [M9 z];generalize hR:G [.ref p,.int n,.int k] h=R
  simp [S.ob,fs,lt,ml,ck,z0,hR,-dS,-bL,-aG]
  cases R<;>rfl
theorem JF {k:Nat} (S:ShelfAt h p ps) (g:Good ps) (T:TxZ ps n x) (hk:k<2 ^ e) (he:e<62) (hm:x.length*k<=1000000000000000000) (hz:ps.length+2800*e<15000000) :
  ∃ (m:Nat) (ps':List Pc) (h':AH),Dn (j1 [.ref p,.int n,.int k]) p h h' ps ps' (2800*e) m/\TxZ ps' m (bE x k):=by
 obtain ⟨m,em,sm⟩:=T.meas
 have k63:k<2 ^ 63:=Nq hk (Q5 (by decide) (by lia))
 by_cases z:n=0
 ·rcases T with ⟨_,rfl⟩ | ⟨_,_,_,T⟩
  ·have dv:Dn (j1 [.ref p,.int n,.int k]) p h h ps ps 0 0:=Dn.val S g λhh pp S' _ pr=>by rw [vN S' (aZ pr em) k63 (by rw [sm];exact hm),M8 z]
   exact ⟨0,ps,h,dv.as S g (λ_ _ _ _ _=>rfl) (NB _),.inl ⟨rfl,vI k⟩⟩
  ·exact absurd T.n1 (by lia)
 ·obtain ⟨c,ps',h',d,T'⟩:=AQ 64 e S g T hk (by lia) hm hz
  exact ⟨c,ps',h',d.as S g (λhh pp S' _ pr=>by rw [vN S' (aZ pr em) k63 (by rw [sm];exact hm),M9 z]) (MZ _),T'⟩
theorem oK (t:TxZ ps n y) : -1<=bx ps n:=by
 rcases t with ⟨rfl,rfl⟩ | ⟨m,f,l,T⟩
 ·rw [oG];lia
 ·rw [d8 T.ms];have:=T.ky.ht;lia
theorem TxZ.pos (t:TxZ ps n y) (hy:1<=y.length):∃ m f l,Tx ps n m y f l:=by
 rcases t with ⟨rfl,rfl⟩ | t
 ·exact absurd hy (by decide)
 ·exact t
theorem vO:dq (d+1) [.ref p,.int n,.int (0:Nat)] h = .ok (.int (0:Nat)) h:=by
 have z:aG (.int 0) (.int 0) h = .ok (.bl true) h:=by simp
 simp [dq,k9,z,-aG]
theorem JG {m:Ms} (S:ShelfAt h p ps) (em:(meas ps)[n]? = some m) (a0 : ¬ a=0) (ea:a=m.sg):dq (d+1) [.ref p,.int n,.int a] h = .ok (.int n) h:=by
 have z:aG (.int a) (.int 0) h = .ok (.bl false) h:=by simp [a0]
 have fs:=dy S em
 rw [<- ea] at fs;have z2:aG (.int a) (.int a) h = .ok (.bl true) h:=by simp
 simp [dq,k9,z,S.ob,fs,z2,-aG]
theorem JH {m:Ms} (S:ShelfAt h p ps) (n1:1<=n) (em:(meas ps)[n]? = some m) (ep:ps[n-1]? = some (.leaf x)) (a0 : ¬ a=0) (ea : ¬ a=m.sg):dq (d+1) [.ref p,.int n,.int a] h=d6 [.ref p,.str (bW x a)] h:=by
 have z:aG (.int a) (.int 0) h = .ok (.bl false) h:=by simp [a0]
 have fs:=dy S em
 have z2:aG (.int a) (.int m.sg) h = .ok (.bl false) h:=by
  have : ¬ (a:Int)=m.sg:=by lia
  simp [this]
 have ct:=vE (x:=x) (a:=a) h
 generalize hF:d6 [.ref p,.str (bW x a)] h=R
 simp [dq,k9,z,S.ob,fs,z2,mO S n1 ep,qX,qZ,qY,ct,hF,-aG,-aw,-dE]
 cases R<;>first | rfl | simp
theorem vP {m:Ms} (S:ShelfAt h p ps) (n1:1<=n) (em:(meas ps)[n]? = some m) (ec:(meas ps)[c]? = some mc) (ep:ps[n-1]? = some (.fork c e)) (a0 : ¬ a=0) (ea : ¬ a=m.sg) (hl:a<=mc.sg):dq (d+1) [.ref p,.int n,.int a] h=dq d [.ref p,.int c,.int a] h:=by
 have z:aG (.int a) (.int 0) h = .ok (.bl false) h:=by simp [a0]
 have fs:=dy S em
 have fc:=dy S ec
 have z2:aG (.int a) (.int m.sg) h = .ok (.bl false) h:=by
  have : ¬ (a:Int)=m.sg:=by lia
  simp [this]
 have le:bC (.int a) (.int mc.sg) h = .ok (.bl true) h:=by simp [hl]
 show k9 (dq d) [.ref p,.int n,.int a] h=dq d [.ref p,.int c,.int a] h
 generalize dq d=G at *;unfold k9
 generalize hF:G [.ref p,.int c,.int a] h=R
 simp [z,S.ob,fs,fc,z2,gg S n1 ep,lE,lF,i1,le,hF,-aG,-aw,-bC]
 cases R<;>first | rfl | simp
theorem vQ {m:Ms} (S:ShelfAt h p ps) (n1:1<=n) (em:(meas ps)[n]? = some m) (ec:(meas ps)[c]? = some mc) (ep:ps[n-1]? = some (.fork c e)) (a0 : ¬ a=0) (ea : ¬ a=m.sg) (hl : ¬ a<=mc.sg) (ev:dq d [.ref p,.int e,.int (a-mc.sg:Nat)] h = .ok (.int v) h1) :
  dq (d+1) [.ref p,.int n,.int a] h=cq [.ref p,.int c,.int v] h1:=by
 have z:aG (.int a) (.int 0) h = .ok (.bl false) h:=by simp [a0]
 have fs:=dy S em
 have fc:=dy S ec
 have z2:aG (.int a) (.int m.sg) h = .ok (.bl false) h:=by
  have : ¬ (a:Int)=m.sg:=by lia
  simp [this]
 have le:bC (.int a) (.int mc.sg) h = .ok (.bl false) h:=by
  simp;lia
 have sb:bH (.int a) (.int mc.sg) h = .ok (.int (a-mc.sg:Nat)) h:=by
  have:(a:Int)-mc.sg=((a-mc.sg:Nat):Int):=by lia
  rw [<- this];rfl
 unfold dq k9
 generalize dq d=G at *;generalize ((a-mc.sg:Nat):Int)=AM at *;generalize hF:cq [.ref p,.int c,.int v] h1=R
 simp [z,S.ob,fs,fc,z2,gg S n1 ep,lE,lF,i1,i2,le,sb,ev,hF,-aG,-aw,-bC,-bH]
 cases R<;>first | rfl | simp
theorem vR {p:Nat}:∀ (d:Nat) {h:AH} {ps:List Pc} {n a:Nat} {x:Str},ShelfAt h p ps->Good ps->TxZ ps n x->a<=x.length->(bx ps n).toNat<d->ps.length+ic (bx ps n)<14900000 ->
  ∃ (r:Nat) (ps':List Pc) (h':AH),Dn (dq d [.ref p,.int n,.int a]) p h h' ps ps' (ic (bx ps n)) r/\TxZ ps' r (bW x a)/\bx ps' r<=bx ps n+1
 | 0,h,ps,n,a,x,S,g,T,ha,hd,hz=>absurd hd (OA _)
 | d+1,h,ps,n,a,x,S,g,T,ha,hd,hz=>by
  have hge:=oK T
  by_cases a0:a=0
  ·subst a0
   have dv:Dn (dq (d+1) [.ref p,.int n,.int (0:Nat)]) p h h ps ps 0 0:=Dn.val S g λhh pp S' _ pr=>vO
   exact ⟨0,ps,h,dv.as S g (λ_ _ _ _ _=>rfl) (NB _),.inl ⟨rfl,vy x⟩,by rw [oG];lia⟩
  ·obtain ⟨m,f,l,T1⟩:=T.pos (by lia)
   have sg:=T1.ky.sg
   by_cases ea:a=m.sg
   ·have dv:Dn (dq (d+1) [.ref p,.int n,.int a]) p h h ps ps 0 n:=Dn.val S g λhh pp S' _ pr=>JG S' (aZ pr T1.ms) a0 ea
    exact ⟨n,ps,h,dv.as S g (λ_ _ _ _ _=>rfl) (NB _),by rw [JB (by lia)];exact T,by lia⟩
   ·rw [d8 T1.ms] at hd hz hge ⊢
    rcases g.kind T1 with ⟨e1,e2,e3,e4,e5⟩ | ⟨_,_,mx,my,_,_,_,_,_,_,_,_,_,X,Y,_,e5,_⟩
    ·have lt:=rf ha
     obtain ⟨r,ps',h',d1,L⟩:=qV S g (x:=bW x a) (by
      unfold fL
      rw [JD T1.ky.pl,lt];simp;lia) (by lia)
     refine ⟨r,ps',h',d1.as S g (λhh pp S' _ pr=>JH S' T1.n1 (aZ pr T1.ms) (cY pr e1) a0 ea) (by rw [e2];decide),.inr ⟨_,_,_,L⟩,by rw [d8 L.ms,e2];show (0:Int)<=0+1;decide⟩
    ·have hpos:0<m.ht:=by
      have:=congrArg Ms.ht e5
      rw [bU] at this;have:=X.ky.ht
      lia
     obtain ⟨c,e,mc,me,y1,y2,lc,fe,ep,C,E,rfl,em,w1,w2,w3⟩:=g.cut T1 hpos
     have hh:m.ht=max mc.ht me.ht+1:=by rw [em];rfl
     have c0:=C.ky.ht
     have e0:=E.ky.ht
     have sc:=C.ky.sg
     have se:=E.ky.sg
     have la:=d7 y1 y2
     by_cases hl:a<=mc.sg
     ·have hc1:bx ps c=mc.ht:=d8 C.ms
      have cm:=vF (a:=mc.ht) (b:=m.ht) (by lia) (by lia)
      obtain ⟨r,ps',h',d1,T',q1⟩:=vR d (n:=c) (a:=a) (x:=y1) S g (.inr ⟨_,_,_,C⟩) (by lia) (by rw [hc1];lia) (by rw [hc1];lia)
      rw [hc1] at d1 q1;exact ⟨r,ps',h',d1.as S g (λhh pp S' _ pr=>vP S' T1.n1 (aZ pr T1.ms) (aZ pr C.ms) (cY pr ep) a0 ea hl) cm,by rw [vA (by lia)];exact T',by lia⟩
     ·have he1:bx ps e=me.ht:=d8 E.ms
      have cs:=AK (a:=m.ht-1) (b:=me.ht) e0 (by lia)
      rw [show m.ht-1+1=m.ht by lia] at cs
      obtain ⟨r,ps1,h1,d1,T',q1⟩:=vR d (n:=e) (a:=a-mc.sg) (x:=y2) S g (.inr ⟨_,_,_,E⟩) (by lia) (by rw [he1];lia) (by rw [he1];lia)
      rw [he1] at d1 q1;have z1:=d1.dd.len
      have lt:=rf (x:=y2) (a:=a-mc.sg) (by lia)
      have most:=T1.ky.most
      have C':TxZ ps1 c y1:=.inr ⟨_,_,_,C.pre d1.dd.pre⟩
      have hc2:bx ps1 c=mc.ht:=d8 (C.pre d1.dd.pre).ms
      obtain ⟨s,ps2,h2,d2,T2,q2⟩:=AI d1.dd.sh d1.dd.gd C' T' (by lia) (by lia)
      have hr:=oK T'
      refine ⟨s,ps2,h2,Dn.seq' S g d1 d2 (λhh hh1 pp S' _ pr ev=>vQ S' T1.n1 (aZ pr T1.ms) (aZ pr C.ms) (cY pr ep) a0 ea hl ev) (by lia),?_,by lia⟩
      rw [vB (by lia),<- sc]
      exact T2
theorem vS:dw (d+1) [.ref p,.int n,.int (0:Nat)] h = .ok (.int n) h:=by
 have z:aG (.int 0) (.int 0) h = .ok (.bl true) h:=by simp
 simp [dw,lg,z,-aG]
theorem JI {m:Ms} (S:ShelfAt h p ps) (em:(meas ps)[n]? = some m) (a0 : ¬ a=0) (ea:a=m.sg):dw (d+1) [.ref p,.int n,.int a] h = .ok (.int (0:Nat)) h:=by
 have z:aG (.int a) (.int 0) h = .ok (.bl false) h:=by simp [a0]
 have fs:=dy S em
 rw [<- ea] at fs;have z2:aG (.int a) (.int a) h = .ok (.bl true) h:=by simp
 simp [dw,lg,z,S.ob,fs,z2,-aG]
theorem JJ {m:Ms} (S:ShelfAt h p ps) (n1:1<=n) (em:(meas ps)[n]? = some m) (ep:ps[n-1]? = some (.leaf x)) (ax:a<=x.length) (a0 : ¬ a=0) (ea : ¬ a=m.sg):dw (d+1) [.ref p,.int n,.int a] h=d6 [.ref p,.str (dB x a)] h:=by
 have z:aG (.int a) (.int 0) h = .ok (.bl false) h:=by simp [a0]
 have fs:=dy S em
 have z2:aG (.int a) (.int m.sg) h = .ok (.bl false) h:=by
  have : ¬ (a:Int)=m.sg:=by lia
  simp [this]
 have ct:=AJ (x:=x) ax h
 generalize hF:d6 [.ref p,.str (dB x a)] h=R
 simp [dw,lg,z,S.ob,fs,z2,mO S n1 ep,qX,qZ,qY,ct,hF,-aG,-aw,-dE]
 cases R<;>first | rfl | simp
theorem vT {m:Ms} (S:ShelfAt h p ps) (n1:1<=n) (em:(meas ps)[n]? = some m) (ec:(meas ps)[c]? = some mc) (ep:ps[n-1]? = some (.fork c e)) (a0 : ¬ a=0) (ea : ¬ a=m.sg) (hl:mc.sg<=a):dw (d+1) [.ref p,.int n,.int a] h=dw d [.ref p,.int e,.int (a-mc.sg:Nat)] h:=by
 have z:aG (.int a) (.int 0) h = .ok (.bl false) h:=by simp [a0]
 have fs:=dy S em
 have fc:=dy S ec
 have z2:aG (.int a) (.int m.sg) h = .ok (.bl false) h:=by
  have : ¬ (a:Int)=m.sg:=by lia
  simp [this]
 have le:jR (.int a) (.int mc.sg) h = .ok (.bl true) h:=by simp [hl]
 have sb:bH (.int a) (.int mc.sg) h = .ok (.int (a-mc.sg:Nat)) h:=by
  have:(a:Int)-mc.sg=((a-mc.sg:Nat):Int):=by lia
  rw [<- this];rfl
 show lg (dw d) [.ref p,.int n,.int a] h=dw d [.ref p,.int e,.int (a-mc.sg:Nat)] h
 generalize dw d=G at *;unfold lg
 generalize ((a-mc.sg:Nat):Int)=AM at *;generalize hF:G [.ref p,.int e,.int AM] h=R
 simp [z,S.ob,fs,fc,z2,gg S n1 ep,lE,lF,i1,i2,le,sb,hF,-aG,-aw,-jR,-bH]
 cases R<;>first | rfl | simp
theorem vU {m:Ms} (S:ShelfAt h p ps) (n1:1<=n) (em:(meas ps)[n]? = some m) (ec:(meas ps)[c]? = some mc) (ep:ps[n-1]? = some (.fork c e)) (a0 : ¬ a=0) (ea : ¬ a=m.sg) (hl : ¬ mc.sg<=a) (ev:dw d [.ref p,.int c,.int a] h = .ok (.int v) h1) :
  dw (d+1) [.ref p,.int n,.int a] h=cq [.ref p,.int v,.int e] h1:=by
 have z:aG (.int a) (.int 0) h = .ok (.bl false) h:=by simp [a0]
 have fs:=dy S em
 have fc:=dy S ec
 have z2:aG (.int a) (.int m.sg) h = .ok (.bl false) h:=by
  have : ¬ (a:Int)=m.sg:=by lia
  simp [this]
 have le:jR (.int a) (.int mc.sg) h = .ok (.bl false) h:=by
  simp;lia
 unfold dw lg
 generalize dw d=G at *;generalize hF:cq [.ref p,.int v,.int e] h1=R
 simp [z,S.ob,fs,fc,z2,gg S n1 ep,lE,lF,i1,i2,le,ev,hF,-aG,-aw,-jR]
 cases R<;>first | rfl | simp
theorem vV {p:Nat}:∀ (d:Nat) {h:AH} {ps:List Pc} {n a:Nat} {x:Str},ShelfAt h p ps->Good ps->TxZ ps n x->a<=x.length->(bx ps n).toNat<d->ps.length+ic (bx ps n)<14900000 ->
  ∃ (r:Nat) (ps':List Pc) (h':AH),Dn (dw d [.ref p,.int n,.int a]) p h h' ps ps' (ic (bx ps n)) r/\TxZ ps' r (dB x a)/\bx ps' r<=bx ps n+1
 | 0,h,ps,n,a,x,S,g,T,ha,hd,hz=>absurd hd (OA _)
 | d+1,h,ps,n,a,x,S,g,T,ha,hd,hz=>by
  have hge:=oK T
  by_cases a0:a=0
  ·subst a0
   have dv:Dn (dw (d+1) [.ref p,.int n,.int (0:Nat)]) p h h ps ps 0 n:=Dn.val S g λhh pp S' _ pr=>vS
   exact ⟨n,ps,h,dv.as S g (λ_ _ _ _ _=>rfl) (NB _),by rw [vz];exact T,by lia⟩
  ·obtain ⟨m,f,l,T1⟩:=T.pos (by lia)
   have sg:=T1.ky.sg
   by_cases ea:a=m.sg
   ·have dv:Dn (dw (d+1) [.ref p,.int n,.int a]) p h h ps ps 0 0:=Dn.val S g λhh pp S' _ pr=>JI S' (aZ pr T1.ms) a0 ea
    exact ⟨0,ps,h,dv.as S g (λ_ _ _ _ _=>rfl) (NB _),.inl ⟨rfl,JC (by lia)⟩,by rw [oG];lia⟩
   ·rw [d8 T1.ms] at hd hz hge ⊢
    rcases g.kind T1 with ⟨e1,e2,e3,e4,e5⟩ | ⟨_,_,mx,my,_,_,_,_,_,_,_,_,_,X,Y,_,e5,_⟩
    ·have lt:=mP x a
     obtain ⟨r,ps',h',d1,L⟩:=qV S g (x:=dB x a) (by
      unfold fL
      rw [JE T1.ky.pl,lt];simp;lia) (by lia)
     refine ⟨r,ps',h',d1.as S g (λhh pp S' _ pr=>JJ S' T1.n1 (aZ pr T1.ms) (cY pr e1) ha a0 ea) (by rw [e2];decide),.inr ⟨_,_,_,L⟩,by rw [d8 L.ms,e2];show (0:Int)<=0+1;decide⟩
    ·have hpos:0<m.ht:=by
      have:=congrArg Ms.ht e5
      rw [bU] at this;have:=X.ky.ht
      lia
     obtain ⟨c,e,mc,me,y1,y2,lc,fe,ep,C,E,rfl,em,w1,w2,w3⟩:=g.cut T1 hpos
     have hh:m.ht=max mc.ht me.ht+1:=by rw [em];rfl
     have c0:=C.ky.ht
     have e0:=E.ky.ht
     have sc:=C.ky.sg
     have se:=E.ky.sg
     have la:=d7 y1 y2
     by_cases hl:mc.sg<=a
     ·have he1:bx ps e=me.ht:=d8 E.ms
      have cm:=vF (a:=me.ht) (b:=m.ht) (by lia) (by lia)
      obtain ⟨r,ps',h',d1,T',q1⟩:=vV d (n:=e) (a:=a-mc.sg) (x:=y2) S g (.inr ⟨_,_,_,E⟩) (by lia) (by rw [he1];lia) (by rw [he1];lia)
      rw [he1] at d1 q1;refine ⟨r,ps',h',d1.as S g (λhh pp S' _ pr=>vT S' T1.n1 (aZ pr T1.ms) (aZ pr C.ms) (cY pr ep) a0 ea hl) cm,?_,by lia⟩
      rw [vD (by lia),<- sc]
      exact T'
     ·have hc1:bx ps c=mc.ht:=d8 C.ms
      have cs:=AK (a:=m.ht-1) (b:=mc.ht) c0 (by lia)
      rw [show m.ht-1+1=m.ht by lia] at cs
      obtain ⟨r,ps1,h1,d1,T',q1⟩:=vV d (n:=c) (a:=a) (x:=y1) S g (.inr ⟨_,_,_,C⟩) (by lia) (by rw [hc1];lia) (by rw [hc1];lia)
      rw [hc1] at d1 q1;have z1:=d1.dd.len
      have lt:=mP y1 a
      have most:=T1.ky.most
      have E':TxZ ps1 e y2:=.inr ⟨_,_,_,E.pre d1.dd.pre⟩
      have he2:bx ps1 e=me.ht:=d8 (E.pre d1.dd.pre).ms
      obtain ⟨s,ps2,h2,d2,T2,q2⟩:=AI d1.dd.sh d1.dd.gd T' E' (by lia) (by lia)
      have hr:=oK T'
      refine ⟨s,ps2,h2,Dn.seq' S g d1 d2 (λhh hh1 pp S' _ pr ev=>vU S' T1.n1 (aZ pr T1.ms) (aZ pr C.ms) (cY pr ep) a0 ea hl ev) (by lia),?_,by lia⟩
      rw [vC (by lia)]
      exact T2
theorem AR (g:Good ps) (t:TxZ ps n x) : -1<=bx ps n/\bx ps n<=82:=by
 refine ⟨oK t,?_⟩
 rcases t with ⟨rfl,rfl⟩ | ⟨m,f,l,T⟩
 ·rw [oG];lia
 ·rw [d8 T.ms];exact fD g T
theorem AS (S:ShelfAt h p ps) (g:Good ps) (T:TxZ ps n x) (ha:a<=x.length) (hz:ps.length<14000000) :
  ∃ (r:Nat) (ps':List Pc) (h':AH),dq 90 [.ref p,.int n,.int a] h = .ok (.int r) h'/\Dd p h h' ps ps' 57120/\TxZ ps' r (bW x a):=by
 have b:=AR g T
 have c:=AN (a:=bx ps n) (by lia) b.1
 obtain ⟨r,ps',h',d,T',_⟩:=vR (p:=p) 90 (a:=a) S g T ha (by lia) (by lia)
 exact ⟨r,ps',h',d.ev,{ d.dd with len:=M6 d.dd.len (Nx c _) },T'⟩
theorem AU (S:ShelfAt h p ps) (g:Good ps) (T:TxZ ps n x) (ha:a<=x.length) (hz:ps.length<14000000) :
  ∃ (r:Nat) (ps':List Pc) (h':AH),dw 90 [.ref p,.int n,.int a] h = .ok (.int r) h'/\Dd p h h' ps ps' 57120/\TxZ ps' r (dB x a):=by
 have b:=AR g T
 have c:=AN (a:=bx ps n) (by lia) b.1
 obtain ⟨r,ps',h',d,T',_⟩:=vV (p:=p) 90 (a:=a) S g T ha (by lia) (by lia)
 exact ⟨r,ps',h',d.ev,{ d.dd with len:=M6 d.dd.len (Nx c _) },T'⟩
theorem rk (S:ShelfAt h p ps) (g:Good ps) (A:TxZ ps a x) (B:TxZ ps b y) (hm:x.length+y.length<=1000000000000000000) (hz:ps.length<15000000) :
  ∃ (n:Nat) (ps':List Pc) (h':AH),cq [.ref p,.int a,.int b] h = .ok (.int n) h'/\Dd p h h' ps ps' 1400/\TxZ ps' n (x++y):=by
 obtain ⟨n,ps',h',d,T⟩:=vo S g A B hm hz
 exact ⟨n,ps',h',d.ev,{ d.dd with len:=M6 d.dd.len (Nx (vM g A B) _) },T⟩
theorem JK {m:Ms} (S:ShelfAt h p ps) (em:(meas ps)[n]? = some m) (be:b<=e) (hm:e<=m.sg):qG [.ref p,.int n,.int b,.int e] h = .ok .non h:=by
 have fs:=dy S em
 have l1:bC (.int 0) (.int b) h = .ok (.bl true) h:=by
  have:(0:Int)<=b:=by lia
  simp only [bC,this,Qa]
 have l2:bC (.int b) (.int e) h = .ok (.bl true) h:=by
  have:(b:Int)<=e:=by lia
  simp only [bC,this,Qa]
 have l3:bC (.int e) (.int m.sg) h = .ok (.bl true) h:=by
  have:(e:Int)<=m.sg:=by lia
  simp only [bC,this,Qa]
 simp [qG,S.ob,fs,l1,l2,l3,-bC]
theorem JL {t:Nat} {m:Ms} (S:ShelfAt h p ps) (em:(meas ps)[n]? = some m) (hm:t<=m.sg):qE [.ref p,.int n,.int t] h = .ok .non h:=by
 have fs:=dy S em
 have l1:bC (.int 0) (.int t) h = .ok (.bl true) h:=by
  have:(0:Int)<=t:=by lia
  simp only [bC,this,Qa]
 have l2:bC (.int t) (.int m.sg) h = .ok (.bl true) h:=by
  have:(t:Int)<=m.sg:=by lia
  simp only [bC,this,Qa]
 simp [qE,S.ob,fs,l1,l2,-bC]
theorem JM (S:ShelfAt h p ps) (g:Good ps) (T:TxZ ps n x) (be:b<=e) (ex:e<=x.length) (hx:x.length<=1000000000000000000) (hz:ps.length<13000000) :
  ∃ (r:Nat) (ps':List Pc) (h':AH),oj [.ref p,.int n,.int b,.int e] h = .ok (.int r) h'/\Dd p h h' ps ps' 120000/\TxZ ps' r (bW x b++dB x e):=by
 obtain ⟨m,em,sm⟩:=T.meas
 have ck:=JK S em be (by lia)
 obtain ⟨r1,ps1,h1,e1,D1,T1⟩:=AS (a:=b) S g T (by lia) (by lia)
 have z1:=D1.len
 obtain ⟨r2,ps2,h2,e2,D2,T2⟩:=AU (a:=e) D1.sh D1.gd (T.pre D1.pre) ex (by lia)
 have z2:=D2.len
 have l1:=rf (x:=x) (a:=b) (by lia)
 have l2:=mP x e
 obtain ⟨r,ps3,h3,e3,D3,T3⟩:=rk D2.sh D2.gd (T1.pre D2.pre) T2 (by lia) (by lia)
 refine ⟨r,ps3,h3,?_,(D1.trans D2 (MZ _)).trans D3 (by lia),T3⟩
 unfold oj
 generalize dq 90=FF at *;generalize dw 90=FB at *;simp [ck,e1,e2,e3]
theorem JN {t:Nat} (S:ShelfAt h p ps) (g:Good ps) (A:TxZ ps a x) (B:TxZ ps b y) (tx:t<=x.length) (hx:x.length+y.length<=1000000000000000000) (hz:ps.length<13000000) :
  ∃ (r:Nat) (ps':List Pc) (h':AH),oi [.ref p,.int a,.int t,.int b] h = .ok (.int r) h'/\Dd p h h' ps ps' 120000/\TxZ ps' r ((bW x t++y)++dB x t):=by
 obtain ⟨ma,ema,sma⟩:=A.meas
 obtain ⟨mb,emb,smb⟩:=B.meas
 have ck:=JL S ema (show t<=ma.sg by lia)
 have f1:=dy S ema
 have f2:=dy S emb
 have lk:=oH (i:=(ma.sg:Int)+mb.sg) (by lia) h
 obtain ⟨r1,ps1,h1,e1,D1,T1⟩:=AS (a:=t) S g A tx (by lia)
 have z1:=D1.len
 have l1:=rf tx
 obtain ⟨r2,ps2,h2,e2,D2,T2⟩:=rk D1.sh D1.gd T1 (B.pre D1.pre) (by lia) (by lia)
 have z2:=D2.len
 have l2:=d7 (bW x t) y
 obtain ⟨r3,ps3,h3,e3,D3,T3⟩:=AU (a:=t) D2.sh D2.gd (A.pre (D1.pre.trans D2.pre)) tx (by lia)
 have z3:=D3.len
 have l3:=mP x t
 obtain ⟨r,ps4,h4,e4,D4,T4⟩:=rk D3.sh D3.gd (T2.pre D3.pre) T3 (by lia) (by lia)
 refine ⟨r,ps4,h4,?_,((D1.trans D2 (MZ _)).trans D3 (MZ _)).trans D4 (by lia),T4⟩
 have ob:=S.ob
 unfold oi
 generalize dq 90=FF at *;generalize dw 90=FB at *;simp [ob,f1,f2,ck,lk,e1,e2,e3,e4]
theorem JO (c k:Int) (h:AH):∃ m,qt [.int c,.int k] h = .ok (.int m) h:=by
 have b1:0<=(c % 1000000007+7919*k+101)*48271 % 2147483647:=PJ _ (by decide)
 have b2:(c % 1000000007+7919*k+101)*48271 % 2147483647<2147483647:=PZ _ (by decide)
 refine ⟨(c % 1000000007+7919*k+101)*48271 % 2147483647*((c % 1000000007+7919*k+101)*48271 % 2147483647) % 2147483629*69621 % 2147483647,?_⟩
 generalize he:(c % 1000000007+7919*k+101)*48271 % 2147483647=v at *;have c1:v.natAbs<18446744073709551616:=by lia
 simp [qt,he,c1]
theorem JP {i j:Int} (hi:i.natAbs<2 ^ 4000) (hj:j.natAbs<2 ^ 4000):bL (.int i) (.int j) h = .ok (.int (i*j)) h:=M8 (.inr ⟨hi,hj⟩)
theorem JQ (ns:List Int):nP (ns.map AV.int)=some ns:=by
 induction ns with
 | nil=>rfl
 | cons n r ih=>simp [ih]
abbrev T60:Int:=1000000000000000000000000000000000000000000000000000000000000000000000000000000000000000000000000000000000000000000000000
theorem JR:(10:Nat) ^ 960<2 ^ 4000:=by decide +kernel
theorem JS:T60.natAbs<2 ^ 4000:=by decide +kernel
theorem JT (ns:List Int) (k:Nat) (i:Nat) (c:Nat) (o:Option AV) (h:AH) (hi:i<8) (hc:c<10 ^ (120*i)) (hj:k+i*8<ns.length) :
  ∃ c':Nat,c'<10 ^ (120*(i+1))/\mC [some (.fl (ns.map AV.int)),some (.int k),some (.int c),some (.int ((k:Int)+i*8)),o] h = .nx [some (.fl (ns.map AV.int)),some (.int k),some (.int c'),some (.int ((k:Int)+i*8)),o] h:=by
 obtain ⟨s,es⟩:∃ s,ns[k+i*8]? = some s:=⟨ns[k+i*8],by simp [hj]⟩
 have ix:aw (.fl (ns.map AV.int)) (.int ((k:Int)+i*8)) h = .ok (.int s) h:=by
  rw [show ((k:Int)+i*8)=((k+i*8:Nat):Int) by simp]
  simp only [aw,IG es]
 have p1:(10:Nat) ^ (120*i)<=10 ^ 960:=Q5 (by decide) (by lia)
 have m1:((c:Int)).natAbs<2 ^ 4000:=by
  have:=JR
  exact PQ (show c<10 ^ 960 by lia) this
 have mu:bL (.int c) (.int T60) h = .ok (.int (c*T60)) h:=JP m1 JS
 have r0:0<=s % T60:=PJ _ (by decide)
 have r1:s % T60<T60:=PZ _ (by decide)
 obtain ⟨r,er⟩:∃ r:Nat,s % T60=(r:Int):=⟨(s % T60).toNat,(Ri r0).symm⟩
 have rl:r<10 ^ 120:=by
  have:(r:Int)<T60:=er▸r1
  have e:T60=((10 ^ 120:Nat):Int):=by decide +kernel
  rw [e] at this;exact Int.ofNat_lt.mp this
 obtain ⟨c',ec,lc⟩:∃ c':Nat,(c:Int)*T60+r=(c':Int)/\c'<10 ^ (120*(i+1)):=by
  refine ⟨c*10 ^ 120+r,?_,?_⟩
  ·have e:T60=((10 ^ 120:Nat):Int):=by decide +kernel
   rw [e,Int.natCast_add,Int.natCast_mul]
  ·rw [show 120*(i+1)=120*i+120 by lia,Nat.pow_add]
   have:(c+1)*10 ^ 120<=10 ^ (120*i)*10 ^ 120:=Nat.mul_le_mul_right _ hc
   have e2:(c+1)*10 ^ 120=c*10 ^ 120+10 ^ 120:=Nat.succ_mul _ _
   lia
 refine ⟨c',lc,?_⟩
 have pw:(ah bL (ah cx (af (.int 10)) (af (.int 60))) (ah cx (af (.int 10)) (af (.int 60)))) [some (.fl (ns.map AV.int)),some (.int k),some (.int c),some (.int ((k:Int)+i*8)),o] h = .ok (.int T60) h:=by simp
 have md:bB (.int s) (.int T60) h = .ok (.int r) h:=by simp only [bB];rw [M8 (by decide),er]
 clear p1 m1 r0 r1 er rl hc lc hi;unfold mC
 generalize ah bL (ah cx (af (.int 10)) (af (.int 60))) (ah cx (af (.int 10)) (af (.int 60)))=PW at *;generalize T60=t60 at *;simp [pw,mu,ix,md,ec,-bL,-aw,-bB]
theorem JU (en0:Option AV) (ns:List Int) (k c f j:Int) (h:AH):∃ f',mD [some (.fl (ns.map AV.int)),some (.int k),some (.int c),some (.int j),some (.int f)] h = .nx [some (.fl (ns.map AV.int)),some (.int k),some (.int c),some (.int j),some (.int f')] h:=by
 obtain ⟨m,hm⟩:=JO (c+1009*k+ns.length) j h
 refine ⟨f*2147483647+m,?_⟩
 have m1:bL (.int f) (.int 2147483647) h = .ok (.int (f*2147483647)) h:=Ab (by decide)
 have m2:bL (.int 1009) (.int k) h = .ok (.int (1009*k)) h:=IF (by decide)
 simp [mD,hm,m1,m2,-bL]
theorem AW (ns:List Int) (hl:ns.length<=63) (k:Nat) (hk:k<=10) (h:AH):∃ N:Int,iB [.fl (ns.map AV.int),.int k] h = .ok (.ref h.length) (h++[.lst [.int N]]):=by
 obtain ⟨M,eM⟩:∃ M:Nat,M=(if (k:Int)<(ns.length:Int) then ((ns.length:Int)-k-1) / 8+1 else 0).toNat:=⟨_,rfl⟩
 have hM:M<=8/\∀ i,i<M->k+i*8<ns.length:=by
  rw [eM];split
  ·refine ⟨by lia,λi hi=>by lia⟩
  ·refine ⟨by lia,λi hi=>by simp at hi⟩
 obtain ⟨e1,h1,r1,r2⟩:=jC (w:=none) (all:=(List.range M).map (λm:Nat=>AV.int ((k:Int)+m*8))) (t:=.nm 3) (b:=mC) (xs:=(List.range M).map (λm:Nat=>AV.int ((k:Int)+m*8))) (en:=[some (.fl (ns.map AV.int)),some (.int k),some (.int 0),none,none]) (h:=h)
  (λi en h' => h'=h/\∃ (c:Nat) (o:Option AV),c<10 ^ (120*i)/\en=[some (.fl (ns.map AV.int)),some (.int k),some (.int c),o,none]) ⟨rfl,0,none,by decide,rfl⟩ (λ_ _ _ _=>rfl) (by
   rintro j x en h' hx ⟨rfl,c,o,hc,rfl⟩
   rw [NK] at hx;obtain ⟨m,em,rfl⟩:=Nw.mp hx
   have hj:j<M:=by
    have:=(MY.mp em).1;simpa using this
   rw [Pe hj] at em
   cases em
   obtain ⟨c',l',e⟩:=JT ns k j c none h' (by have:=hM.1;lia) hc (hM.2 j hj)
   show thn (mC [some (.fl (ns.map AV.int)),some (.int k),some (.int c),some (.int ((k:Int)+j*8)),none] h') _
   rw [e];exact ⟨rfl,c',_,l',rfl⟩)
 obtain ⟨rfl,c,o,hc,rfl⟩:=r2
 have z1:(k:Int).natAbs<1099511627776:=by lia
 have z2:((ns.length:Nat):Int).natAbs<1099511627776:=by lia
 have it3:jw (ae 1) (aC aJ (aj (ae 0) ag)) (af (.int 8)) [some (.fl (ns.map AV.int)),some (.int k),some (.int 0),none,none] h1 = .ok ((List.range M).map (λm:Nat=>AV.int ((k:Int)+m*8)),none) h1:=by
  simp only [jw,ae,aC,aj,ag,af,Out.bind,aJ,List.getElem?_cons_zero,Qo,uU]
  rw [M8 ⟨z1,z2,by decide,by decide⟩,<- eM]
 have f1:=(jD (t:=.nm 3) (b:=mC) it3).trans r1
 clear r1 it3;by_cases hb:(1000000000000000000:Int)<=c
 ·exact ⟨c,by simp [iB,f1,hb,-cy]⟩
 ·have cm:=Iz (js:=[]) (en:=[some (.fl (ns.map AV.int)),some (.int k),some (.int c),o,none]) (w:=none) (all:=ns.map AV.int) (e:=ah bB (ae 0) (ah cx (af (.int 10)) (af (.int 18)))) (g:=AV.int) (f:=λi=>AV.int (i % 1000000000000000000)) (h:=h1) rfl ns [] (by intro i _;simp) (by
    simp only [List.length_nil];exact M6 (show 0+ns.length<=63 by lia) (by decide))
  have im:(ns.map λi=>AV.int (i % 1000000000000000000))=(ns.map λi=>i % 1000000000000000000).map AV.int:=by simp
  obtain ⟨S,eS⟩:∃ S:Int,S=(ns.map λi=>i % 1000000000000000000).sum:=⟨_,rfl⟩
  have sm:gK [.fl (ns.map λi=>AV.int (i % 1000000000000000000))] h1 = .ok (.int S) h1:=by
   rw [im,eS];simp only [gK,JQ]
  obtain ⟨e2,h2,s1,s2⟩:=jC (w:=none) (all:=cP 0 16) (t:=.nm 3) (b:=mD) (xs:=cP 0 16) (en:=[some (.fl (ns.map AV.int)),some (.int k),some (.int (c+S)),o,some (.int 0)]) (h:=h1)
   (λi en h' => h'=h1/\∃ (f:Int) (o:Option AV),en=[some (.fl (ns.map AV.int)),some (.int k),some (.int (c+S)),o,some (.int f)]) ⟨rfl,0,o,rfl⟩ (λ_ _ _ _=>rfl) (by
    rintro j x en h' hx ⟨rfl,f,o,rfl⟩
    rw [uQ] at hx;by_cases q:j<16
    ·rw [M8 q] at hx
     cases hx
     obtain ⟨f',e⟩:=JU none ns k (c+S) f (0+(j:Int)) h'
     show thn (mD [some (.fl (ns.map AV.int)),some (.int k),some (.int (c+S)),some (.int (0+(j:Int))),some (.int f)] h') _
     rw [e];exact ⟨rfl,f',_,rfl⟩
    ·rw [M9 q] at hx;cases hx)
  obtain ⟨rfl,f,o',rfl⟩:=s2
  have f2:=(jD (t:=.nm 3) (b:=mD) (mL (a:=af (.int 16)) (en:=[some (.fl (ns.map AV.int)),some (.int k),some (.int (c+S)),o,some (.int 0)]) (h:=h2) (n:=16) rfl (by decide))).trans s1
  refine ⟨f,?_⟩
  simp at cm
  simp [iB,f1,hb,cm,sm,f2,-cy,-gK]
theorem JV {st:Nat} {n:Int} (m:Nat) (e:h[st]? = some (.lst [.int n])) (hm:0<m) (hm2:m<=10 ^ 50):∃ v:Nat,v<m/\bD [.ref st,.int m] h = .ok (.int v) (h.set st (.lst [.int (n / m)])):=by
 have a0:atI [AV.int n] 0=some (.int n):=rfl
 have i0:ja 1 0=some 0:=rfl
 have hm0:(0:Int)<m:=Int.ofNat_lt.mpr hm
 have hm3:m<1606938044258990275541962092341162602522202993782792835301376:=Nl hm2 (by decide)
 refine ⟨(n % m).toNat,?_,?_⟩
 ·have:=PZ n hm0;have:=PJ n (show (m:Int)≠0 by lia);lia
 ·rw [Ri (PJ n (show (m:Int)≠0 by lia))]
  simp [bD,e,a0,hm0,hm,hm3,i0]
theorem mQ {N:Int} (m:Nat) (e:hh[L]? = some (.lst [.int N])) (hm:0<m) (hm2:m<=10 ^ 50):∃ (v:Nat) (N':Int),v<m/\bD [.ref L,.int m] hh = .ok (.int v) (hh.set L (.lst [.int N'])):=by
 obtain ⟨v,hv,e1⟩:=JV m e hm hm2
 exact ⟨v,N / m,hv,e1⟩
theorem JW (hy:cf y=true) (hc:mM c=true):cf (y++⟨#[c]⟩)=true/\(y++(⟨#[c]⟩:Str)).length=y.length+1:=by
 refine ⟨?_,by rw [d7];rfl⟩
 rw [ox,hy];simp [cf,hc]
def gU:List Str:=["ab", "aaab", "a\n", "ab \n", "abcdefghijklmnopqrstuvwxyz 0123456789.,~\n"]
theorem oM:∀ x∈gU,cf x=true/\1<=x.length/\x.length<=200/\35∉x.cps.toList:=by decide +kernel
theorem JX (v:Nat) (hv:v<5):∃ z:Str,(∀ h,aw (.fl [.str "ab",.str "aaab",.str "a\n",.str "ab \n",.str "abcdefghijklmnopqrstuvwxyz 0123456789.,~\n"]) (.int (v:Int)) h = .ok (.str z) h)/\cf z=true/\1<=z.length/\z.length<=200/\35∉z.cps.toList:=by
 have:v=0\/v=1\/v=2\/v=3\/v=4:=by lia
 rcases this with rfl | rfl | rfl | rfl | rfl
 ·exact ⟨_,λ_=>rfl,oM _ (by simp [gU])⟩
 ·exact ⟨_,λ_=>rfl,oM _ (by simp [gU])⟩
 ·exact ⟨_,λ_=>rfl,oM _ (by simp [gU])⟩
 ·exact ⟨_,λ_=>rfl,oM _ (by simp [gU])⟩
 ·exact ⟨_,λ_=>rfl,oM _ (by simp [gU])⟩
theorem JY {v:Nat} (hv:v<x.length) (hx:cf x=true) (h:AH):∃ c,c∈x.cps.toList/\mM c=true/\aw (.str x) (.int v) h = .ok (.str ⟨#[c]⟩) h:=by
 have hv':v<x.cps.toList.length:=by rw [<- cS];exact hv
 refine ⟨x.cps.toList[v],OI hv',NR.mp hx _ (OI hv'),?_⟩
 have e:x.cps.toList[v]? = some x.cps.toList[v]:=Ni hv'
 simp only [aw,kz e]
theorem JZ {N:Int} (most:Nat) (hm:most<=1000) (e:hh[L]? = some (.lst [.int N])):∃ (y:Str) (N':Int),mE [.ref L,.int most] hh = .ok (.str y) (hh.set L (.lst [.int N']))/\cf y=true/\y.length<=most/\35∉y.cps.toList:=by
 have Ll:=cL e
 obtain ⟨v,N1,hv,t1⟩:=mQ 5 e (by decide) (by decide)
 have t1':bD [.ref L,.int 5] hh = .ok (.int v) (hh.set L (.lst [.int N1])):=t1
 obtain ⟨z,ez,pz,z1,z2,z3⟩:=JX v hv
 have e1:(hh.set L (.lst [.int N1]))[L]? = some (.lst [.int N1]):=Na Ll
 obtain ⟨k,N2,hk,t2⟩:=mQ (most+1) e1 (Nat.succ_pos _) (M6 (Nat.succ_le_succ hm) (by decide))
 rw [List.set_set] at t2;have t2':bD [.ref L,.int ((most:Int)+1)] (hh.set L (.lst [.int N1])) = .ok (.int k) (hh.set L (.lst [.int N2])):=by
  have:=t2;rw [Int.natCast_succ] at this;exact this
 obtain ⟨e',h',r1,y,N3,o4,r2,r3,r4,r5,b3⟩:=jC (w:=none) (all:=cP 0 k) (t:=.nm 4) (b:=kY) (xs:=cP 0 k) (en:=[some (.ref L),some (.int most),some (.str z),some (.str ""),none]) (h:=hh.set L (.lst [.int N2]))
  (λj en h' => ∃ (y:Str) (N':Int) (o4:Option AV),en=[some (.ref L),some (.int most),some (.str z),some (.str y),o4]/\h'=hh.set L (.lst [.int N'])/\cf y=true/\y.length=j/\35∉y.cps.toList) ⟨"",N2,none,rfl,rfl,rfl,rfl,by decide⟩ (λ_ _ _ _=>rfl) (by
   rintro j u en h' hu ⟨y,N',o4,rfl,rfl,py,ly,bb⟩
   have jk:j<k:=by have:=(MY.mp hu).1;rwa [lB] at this
   have e3:(hh.set L (.lst [.int N']))[L]? = some (.lst [.int N']):=Na Ll
   obtain ⟨t,N4,ht,et⟩:=mQ z.length e3 (by lia) (M6 z2 (by decide))
   rw [List.set_set] at et;obtain ⟨c,mc,pc,ec⟩:=JY ht pz (hh.set L (.lst [.int N4]))
   have ad:aE (.str y) (.str ⟨#[c]⟩) (hh.set L (.lst [.int N4])) = .ok (.str (y++⟨#[c]⟩)) (hh.set L (.lst [.int N4])):=by
    have:y.length+(⟨#[c]⟩:Str).length<=sizeLine:=M6 (m:=1001) (by show y.length+1<=_;lia) (by decide)
    simp only [aE,this,O3]
   have es:kY [some (.ref L),some (.int most),some (.str z),some (.str y),some u] (hh.set L (.lst [.int N'])) = .nx [some (.ref L),some (.int most),some (.str z),some (.str (y++⟨#[c]⟩)),some u] (hh.set L (.lst [.int N4])):=by
    generalize hh.set L (.lst [.int N4])=h2 at *;generalize hh.set L (.lst [.int N'])=h1 at *;simp [kY,et,ec,ad,-aw,-aE]
   show thn (kY [some (.ref L),some (.int most),some (.str z),some (.str y),some u] (hh.set L (.lst [.int N']))) _
   rw [es];obtain ⟨q1,q2⟩:=JW py pc
   exact ⟨_,N4,_,rfl,rfl,q1,by rw [q2,ly],λz=>by
    rw [df,NV] at z;rcases z with z | z
    ·exact bb z
    ·have:35=c:=by simpa using z
     exact z3 (this▸mc)⟩)
 rw [lB] at r5;have f1:=(jD (t:=.nm 4) (b:=kY) (mL (a:=aC bD (aj (ae 0) (aj (ah aE (ae 1) (af (.int 1))) ag))) (en:=[some (.ref L),some (.int most),some (.str z),some (.str ""),none]) (h:=hh.set L (.lst [.int N1])) (n:=k) (by simp [t2']) (by lia))).trans r1
 refine ⟨y,N3,?_,r4,by lia,b3⟩
 rw [<- r3];subst r2;unfold mE
 generalize cy (hJ (aC bD (aj (ae 0) (aj (ah aE (ae 1) (af (.int 1))) ag)))) (.nm 4) kY=F1 at *;generalize hh.set L (.lst [.int N1])=h1 at *;simp [t1',ez,f1,-aE,-aw]
def lG (c:Nat):Bool:=decide (97<=c) && decide (c<=122)
theorem J0:(Str.ofString "a")=⟨#[97]⟩:=by decide +kernel
theorem J1:(Str.ofString "z")=⟨#[122]⟩:=by decide +kernel
theorem J2 (c:Nat) (en:En) (h:AH):dU bC bC (af (.str "a")) (ae 0) (af (.str "z")) (some (.str ⟨#[c]⟩)::en) h = .ok (.bl (lG c)) h:=by
 simp [J0,J1,Ac,lG]
 by_cases h2:c<97
 ·have : ¬ 97<=c:=by lia
  simp [h2,this]
 ·have h3:97<=c:=by lia
  by_cases h4:c<=122
  ·have : ¬ 122<c:=by lia
   simp [h2,h3,h4,this]
  ·have:122<c:=by lia
   simp [h2,h3,h4,this]
def bV (x:Str):Bool:=decide (1<=x.length) && decide (x.length<=8) && x.cps.toList.all lG
theorem J3 (x:Str) (h:AH) (hl:x.length<=sizeLine):mH [.str x] h = .ok (.bl (bV x)) h:=by
 have e:=qK (js:=[]) (en:=[some (.str x)]) (all:=x.cps.toList.map λc=>AV.str ⟨#[c]⟩) (e:=dU bC bC (af (.str "a")) (ae 0) (af (.str "z"))) (g:=λc=>AV.str ⟨#[c]⟩) (f:=λc=>AV.bl (lG c)) (h:=h) x.cps.toList [] (λc _=>J2 c _ h) (by simp;exact hl)
 simp only [Ph] at e
 have al:aC gI (aj (fi [] (cW (ae 0)) bZ (dU bC bC (af (.str "a")) (ae 0) (af (.str "z")))) ag) [some (.str x)] h = .ok (.bl (x.cps.toList.all lG)) h:=by
  simp [-dU]
  rw [e];simp [uR]
 unfold mH
 generalize aC gI (aj (fi [] (cW (ae 0)) bZ (dU bC bC (af (.str "a")) (ae 0) (af (.str "z")))) ag)=AL at al ⊢
 generalize hb:x.cps.toList.all lG=b at al
 by_cases h1:1<=x.length
 ·have i1:(1:Int)<=x.length:=by lia
  by_cases h2:x.length<=8
  ·have i2:(x.length:Int)<=8:=by lia
   simp [i1,i2,h1,h2,al,bV,hb]
  ·have i2 : ¬ (x.length:Int)<=8:=by lia
   simp [i1,i2,h1,h2,bV,hb]
 ·have i1 : ¬ (1:Int)<=x.length:=by lia
  simp [i1,h1,bV,hb]
theorem J4 (en:En) (h:AH):lV 1 4 mB ag en h = .ok (.ref h.length) (h++(.ins 1 [some (.ref (h.length+1)),some (.ref (h.length+10)),some (.ref (h.length+11)),some (.ref (h.length+12))]::(qP (h.length+1)++[.dct false [],.lst [],.lst []]))):=by
 simp [mB,uL,qP,List.getElem?_append,IX]
abbrev De:=Str×Option Nat×Option Nat
def kG (g:Nat×Str->AV) (e:Str×Nat×Str):AV×AV:=(.str e.1,g e.2)
abbrev gN (v:Nat×Str):AV:=.int v.1
abbrev gS (v:Nat×Str):AV:=.str v.2
def oN:Option Nat->AV
 | none=>.non
 | some n=>.int n
def bt (d:De):AV:=.tup [.str d.1,oN d.2.1,oN d.2.2]
structure Ho (h:AH) (q p t:Nat) (ps:List Pc) (kx:List (Str×Nat×Str)) (ds bs:List De):Prop where
 ob:h[q]? = some (.ins 1 [some (.ref p),some (.ref t),some (.ref (t+1)),some (.ref (t+2))])
 sh:ShelfAt h p ps
 gd:Good ps
 tx:h[t]? = some (.dct false (kx.map (kG gN)))
 de:h[t+1]? = some (.lst (ds.map bt))
 ba:h[t+2]? = some (.lst (bs.map bt))
 tz:∀ e∈kx,TxZ ps e.2.1 e.2.2/\bV e.1=true
 lo:q<p/\p+8<t
 ct:kx.length<=50
 nd:(kx.map (·.1)).Nodup
theorem Ho.app {h:AH} {q p t:Nat} {ps:List Pc} {kx:List (Str×Nat×Str)} {ds bs:List De} (H:Ho h q p t ps kx ds bs) (r:AH):Ho (h++r) q p t ps kx ds bs:=by
 have l:=cL H.ba
 have lo:=H.lo
 have k:∀ i,i<h.length->(h++r)[i]? = h[i]? := λi hi=>Nb hi
 exact ⟨(k _ (by lia)).trans H.ob,H.sh.app r,H.gd,(k _ (by lia)).trans H.tx,(k _ (by lia)).trans H.de,(k _ l).trans H.ba,H.tz,lo,H.ct,H.nd⟩
def lk (kx:List (Str×Nat×Str)) (x:Str):Option (Nat×Str):=(kx.find? λe=>decide (e.1=x)).map (·.2)
theorem gW (e:Str×Nat×Str) (r:List (Str×Nat×Str)) (x:Str):lk (e::r) x=if e.1=x then some e.2 else lk r x:=by
 unfold lk
 rw [NY];by_cases q:e.1=x
 ·simp [q]
 ·simp [q]
theorem dQ {x:Str} {v:Nat×Str}:∀ {kx:List (Str×Nat×Str)},lk kx x=some v->(x,v)∈kx
 | [],e=>nomatch e
 | e::r,h=>by
  rw [gW] at h;by_cases q:e.1=x
  ·rw [M8 q] at h
   cases h
   subst q;exact NX ..
  ·rw [M9 q] at h
   exact NI _ (dQ h)
theorem j4 (g:Nat×Str->AV) (x:Str):∀ kx:List (Str×Nat×Str),bF (kx.map (kG g)) (.str x)=(lk kx x).map g
 | []=>rfl
 | e::r=>by
  have ih:=j4 g x r
  unfold bF at ih ⊢
  rw [NG,gW,NY];by_cases q:e.1=x
  ·have:decide ((kG g e).1=AV.str x)=true:=NQ (by rw [<- q];rfl)
   rw [this,M8 q];rfl
  ·have:decide ((kG g e).1=AV.str x)=false:=NF (λz=>q (by injection z))
   rw [this,M9 q];exact ih
def put (kx:List (Str×Nat×Str)) (x:Str) (v:Nat×Str):List (Str×Nat×Str):=if (lk kx x).isSome=true then kx.map λe=>if e.1=x then (x,v) else e else kx++[(x,v)]
theorem rm (g:Nat×Str->AV) (kx:List (Str×Nat×Str)) (x:Str) (v:Nat×Str):eB (kx.map (kG g)) (.str x) (g v)=(put kx x v).map (kG g):=by
 unfold eB put
 rw [ui,j4,O2];by_cases q:(lk kx x).isSome=true
 ·rw [M8 q,M8 q,Pr,Pr]
  refine OD λe _=>?_
  show (if (kG g e).1 = .str x then ((kG g e).1,g v) else kG g e)=kG g (if e.1=x then (x,v) else e)
  by_cases z:e.1=x
  ·rw [M8 z,M8 (by rw [<- z];rfl)]
   show (AV.str e.1,g v)=_
   rw [z];rfl
  ·rw [M9 z,M9 (λw=>z (by injection w))]
 ·rw [M9 q,M9 q,N9]
  rfl
def j5 (kx:List (Str×Nat×Str)) (x:Str):List (Str×Nat×Str):=kx.filter λe=>decide (¬ e.1=x)
theorem AX (g:Nat×Str->AV) (kx:List (Str×Nat×Str)) (x:Str):nU (kx.map (kG g)) (.str x)=(j5 kx x).map (kG g):=by
 unfold nU j5
 rw [List.filter_map];congr 1
 refine List.filter_congr λe _=>?_
 show decide (¬ AV.str e.1=AV.str x)=decide (¬ e.1=x)
 exact decide_eq_decide.mpr ⟨λh z=>h (by rw [z]),λh z=>h (by injection z)⟩
theorem AY (x y:Str):∀ kx:List (Str×Nat×Str),lk (j5 kx x) y=if x=y then none else lk kx y
 | []=>by simp [j5,lk]
 | e::r=>by
  have ih:=AY x y r
  unfold j5 at ih ⊢
  rw [OH];by_cases q:e.1=x
  ·rw [M9 (by simp [q]),ih,gW]
   by_cases z:x=y
   ·rw [M8 z,M8 z]
   ·rw [M9 z,M9 z,M9 (by rw [q];exact z)]
  ·rw [M8 (by simp [q]),gW,gW,ih]
   by_cases w:e.1=y
   ·rw [M8 w,M8 w,M9 (by rw [<- w];exact λz=>q z.symm)]
   ·rw [M9 w,M9 w]
def upd (kx:List (Str×Nat×Str)) (x:Str):Option (Nat×Str)->List (Str×Nat×Str)
 | some v=>put kx x v
 | none=>j5 kx x
theorem AZ (kx:List (Str×Nat×Str)) (x:Str) (v:Nat×Str):(put kx x v).length<=kx.length+1:=by
 unfold put
 split
 ·rw [Nc];lia
 ·rw [NL];simp
variable {kx ky:List (Str×Nat×Str)}
theorem J5 {v:Nat×Str} {e:Str×Nat×Str} (h:e∈put kx x v):e=(x,v)\/e∈kx:=by
 unfold put at h
 split at h
 ·obtain ⟨e',h',rfl⟩:=O7.mp h
  by_cases z:e'.1=x
  ·rw [M8 z];exact .inl rfl
  ·rw [M9 z];exact .inr h'
 ·rcases NV.mp h with h | h
  ·exact .inr h
  ·exact .inl (Pj.mp h)
theorem A0 (x y:Str) (v:Nat×Str):∀ kx:List (Str×Nat×Str),lk (kx.map λe=>if e.1=x then (x,v) else e) y=if x=y then (lk kx x).map λ_=>v else lk kx y
 | []=>by simp [lk]
 | e::r=>by
  rw [NG,gW,A0 x y v r,gW,gW];by_cases z:e.1=x
  ·rw [M8 z,M8 z]
   by_cases w:x=y
   ·rw [M8 w];simp [w]
   ·rw [M9 w]
    simp [w,z]
  ·rw [M9 z,M9 z]
   by_cases w:x=y
   ·have : ¬ e.1=y:=w▸z
    simp [w,this]
   ·simp [w]
theorem A3 (x y:Str) (v:Nat×Str):∀ kx:List (Str×Nat×Str),lk (kx++[(x,v)]) y=(lk kx y).or (if x=y then some v else none)
 | []=>by rw [Ph,gW];rfl
 | e::r=>by
  rw [List.cons_append,gW,gW,A3 x y v r];by_cases z:e.1=y
  ·rw [M8 z,M8 z];rfl
  ·rw [M9 z,M9 z]
theorem J6 (kx:List (Str×Nat×Str)) (x y:Str) (v:Nat×Str):lk (put kx x v) y=if x=y then some v else lk kx y:=by
 unfold put
 cases q:lk kx x with
 | some w =>
  rw [M8 (by rfl),A0,q]
  rfl
 | none =>
  rw [M9 (by simp),A3]
  by_cases w:x=y
  ·subst w;rw [q,M8 rfl];rfl
  ·rw [M9 w,M9 w,Option.or_none]
theorem j7 (kx:List (Str×Nat×Str)) (x y:Str) (o:Option (Nat×Str)):lk (upd kx x o) y=if x=y then o else lk kx y:=by
 cases o with
 | some v=>exact J6 kx x y v
 | none=>exact AY x y kx
theorem zbO {x:Str}:∀ {kx:List (Str×Nat×Str)},lk kx x=none ↔ x∉kx.map (·.1)
 | []=>by simp [lk]
 | e::r=>by
  rw [gW,NG,Np];by_cases q:e.1=x
  ·simp [q]
  ·rw [M9 q,zbO]
   simp only [not_or]
   exact ⟨λh=>⟨λz=>q z.symm,h⟩,λh=>h.2⟩
theorem oO (h:(kx.map (·.1)).Nodup) (x:Str) (o:Option (Nat×Str)):((upd kx x o).map (·.1)).Nodup:=by
 cases o with
 | some v =>
  show ((put kx x v).map (·.1)).Nodup
  unfold put
  cases q:lk kx x with
  | some w =>
   rw [M8 (by rfl),Pr]
   have:((λe:Str×Nat×Str=>e.1) ∘ λe=>if e.1=x then (x,v) else e)=λe=>e.1:=by
    funext e
    show (if e.1=x then (x,v) else e).1=e.1
    split
    ·rename_i z;exact z.symm
    ·rfl
   rw [this];exact h
  | none =>
   rw [M9 (by simp),N9,Pt]
   refine ⟨h,by simp,λa ha b hb=>?_⟩
   simp at hb
   subst hb;exact λz=>zbO.mp q (z▸ha)
 | none=>exact h.sublist (List.Sublist.map _ List.filter_sublist)
variable {o:Option (Nat×Str)}
theorem rn {e:Str×Nat×Str} (h:e∈upd kx x o):(∃ v,o=some v/\e=(x,v))\/e∈kx:=by
 cases o with
 | some v=>exact (J5 h).imp (λz=>⟨v,rfl,z⟩) id
 | none=>exact .inr (QE.mp h).1
theorem rp (kx:List (Str×Nat×Str)) (x:Str) (o:Option (Nat×Str)):(upd kx x o).length<=kx.length+1:=by
 cases o with
 | some v=>exact AZ kx x v
 | none=>exact Nat.le_succ_of_le (Pz _ _)
structure Fh (p t:Nat) (h h':AH):Prop where
 fr:∀ i,(i<p\/p+8<i)->i≠t->i≠t+1->i≠t+2->h'[i]? = h[i]?
 hl:h'.length=h.length
theorem Fh.trans {p t:Nat} {h h' h'':AH} (a:Fh p t h h') (b:Fh p t h' h''):Fh p t h h'' := ⟨λi h1 h2 h3 h4=>(b.fr i h1 h2 h3 h4).trans (a.fr i h1 h2 h3 h4),b.hl.trans a.hl⟩
theorem Fh.dd {t:Nat} {k:Nat} (d:Dd p h h' ps ps' k):Fh p t h h' := ⟨λi h1 _ _ _=>d.fr i (by lia),d.hl⟩
section
variable {h:AH} {q p t:Nat} {ps:List Pc} {kx:List (Str×Nat×Str)} {ds bs:List De}
theorem Ho.dd (H:Ho h q p t ps kx ds bs) {k:Nat} (d:Dd p h h' ps ps' k):Ho h' q p t ps' kx ds bs:=by
 have lo:=H.lo
 exact ⟨(d.fr q (by lia)).trans H.ob,d.sh,d.gd,(d.fr t (by lia)).trans H.tx,(d.fr (t+1) (by lia)).trans H.de,(d.fr (t+2) (by lia)).trans H.ba,λe he=>⟨(H.tz e he).1.pre d.pre,(H.tz e he).2⟩,lo,H.ct,H.nd⟩
theorem vW (h:bV x=true):x.length<=8:=by
 unfold bV at h
 simp only [NM,Ox] at h
 exact h.1.2
theorem A4 (hx:bV x=true) (hh:AH):mH [.str x] hh = .ok (.bl true) hh:=by
 rw [J3 x hh (M6 (vW hx) (by decide)),hx]
theorem i4 (H:Ho h q p t ps kx ds bs) {v:Nat×Str} (l:lk kx x=some v):dJ [.ref q,.str x] h = .ok (.int v.1) h:=by
 have nm:=A4 (H.tz _ (dQ l)).2 h
 have vk:bF (kx.map (kG gN)) (.str x)=some (.int v.1):=by rw [j4,l];rfl
 have ni:dH (.str x) (.ref t) h = .ok (.bl false) h:=by
  simp only [dH,kL,H.tx,vk,d0,keyOf?,Option.isSome];rfl
 have ix:aw (.ref t) (.str x) h = .ok (.int v.1) h:=by
  have k1:d0 false (.str x)=true:=rfl
  simp only [aw,H.tx,k1,vk];rfl
 simp [dJ,H.ob,nm,ni,ix,-dH,-aw]
theorem vX (ob:hh[q]? = some (.ins 1 [some (.ref p),some (.ref t),some (.ref (t+1)),some (.ref (t+2))])) (tx:hh[t]? = some (.dct false (kx.map (kG gN)))) (ct:kx.length<=60) (ho:o=none->(lk kx x).isSome=true) :
  iC [.ref q,.str x,oN (o.map (·.1))] hh = .ok .non (hh.set t (.dct false ((upd kx x o).map (kG gN)))):=by
 have k1:d0 false (.str x)=true:=rfl
 cases o with
 | some v =>
  have sz:(kx.map (kG gN)).length<sizeLine:=by rw [Nc];exact Nl ct (by decide)
  have st:fT (Sm.sFld 1 1 (ae 0)) (ae 1) (ae 2) [some (.ref q),some (.str x),some (.int v.1)] hh = .nx [some (.ref q),some (.str x),some (.int v.1)] (hh.set t (.dct false ((upd kx x (some v)).map (kG gN)))):=by
   have e:Sm.sFld 1 1 (ae 0) [some (.ref q),some (.str x),some (.int v.1)] hh = .ok (.ref t) hh:=by simp [ob]
   have e1:ae 1 [some (.ref q),some (.str x),some (.int v.1)] hh = .ok (.str x) hh:=rfl
   have e2:ae 2 [some (.ref q),some (.str x),some (.int v.1)] hh = .ok (.int v.1) hh:=rfl
   simp only [fT,e,e1,e2,Out.go,tx]
   rw [M8 ⟨k1,sz⟩,rm gN kx x v];rfl
  show iC [.ref q,.str x,.int v.1] hh=_
  unfold iC
  generalize fT (Sm.sFld 1 1 (ae 0)) (ae 1) (ae 2)=SX at *;simp [st]
 | none =>
  obtain ⟨w,ew⟩:=Nr.mp (ho rfl)
  have st:iV (Sm.sFld 1 1 (ae 0)) (ae 1) [some (.ref q),some (.str x),some .non] hh = .ok (.int w.1) (hh.set t (.dct false ((upd kx x none).map (kG gN)))):=by
   have e:Sm.sFld 1 1 (ae 0) [some (.ref q),some (.str x),some .non] hh = .ok (.ref t) hh:=by simp [ob]
   have e1:ae 1 [some (.ref q),some (.str x),some .non] hh = .ok (.str x) hh:=rfl
   simp only [iV,e,e1,Out.bind,tx,k1,O3,j4,ew,Option.map]
   rw [AX];rfl
  show iC [.ref q,.str x,.non] hh=_
  unfold iC
  generalize iV (Sm.sFld 1 1 (ae 0)) (ae 1)=SX at *;simp [st]
theorem jJ (H:Ho h q p t ps kx ds bs) (hx:bV x=true) (T:∀ v,o=some v->TxZ ps v.1 v.2) (ct:(upd kx x o).length<=50) (ld:ds.length<=1000) (hs:o=none->(lk kx x).isSome=true) :
  ∃ h',dP [.ref q,.str x,oN (o.map (·.1))] h = .ok .non h'/\Ho h' q p t ps (upd kx x o) (ds++[(x,(lk kx x).map (·.1),o.map (·.1))]) []/\Fh p t h h' := by
 have ctk:=H.ct
 have lo:=H.lo
 have lt:=cL H.tx
 have ld1:=cL H.de
 have lb:=cL H.ba
 have k1:d0 false (.str x)=true:=rfl
 have g1:nS (Sm.sFld 1 1 (ae 0)) (ae 1) [some (.ref q),some (.str x),some (oN (o.map (·.1)))] h = .ok (oN ((lk kx x).map (·.1))) h:=by
  have e:Sm.sFld 1 1 (ae 0) [some (.ref q),some (.str x),some (oN (o.map (·.1)))] h = .ok (.ref t) h:=by simp [H.ob]
  unfold nS
  rw [e];simp only [Out.bind,H.tx,ae]
  show fy t (.str x) .non h=_
  simp only [fy,H.tx,k1,O3,j4]
  cases lk kx x<;>rfl
 have sz:(ds.map bt).length<sizeLine:=by rw [Nc];exact Nl ld (by decide)
 have ap:cG (.ref (t+1)) [bt (x,(lk kx x).map (·.1),o.map (·.1))] h = .ok .non (h.set (t+1) (.lst ((ds++[(x,(lk kx x).map (·.1),o.map (·.1))]).map bt))):=by
  simp only [cG,H.de]
  rw [M8 sz];simp
 have il:cn (.ref (t+1)) h=true:=by simp only [cn,gs,H.de];rfl
 have f2:Sm.sFld 1 2 (ae 0) [some (.ref q),some (.str x),some (oN (o.map (·.1)))] h = .ok (.ref (t+1)) h:=by simp [H.ob]
 have ob1:(h.set (t+1) (.lst ((ds++[(x,(lk kx x).map (·.1),o.map (·.1))]).map bt)))[q]? = some (.ins 1 [some (.ref p),some (.ref t),some (.ref (t+1)),some (.ref (t+2))]):=by rw [M5 (by lia)];exact H.ob
 have ba1:(h.set (t+1) (.lst ((ds++[(x,(lk kx x).map (·.1),o.map (·.1))]).map bt)))[t+2]? = some (.lst (bs.map bt)):=by rw [M5 (by lia)];exact H.ba
 have tx1:(h.set (t+1) (.lst ((ds++[(x,(lk kx x).map (·.1),o.map (·.1))]).map bt)))[t]? = some (.dct false (kx.map (kG gN))):=by rw [M5 (by lia)];exact H.tx
 have de1:(h.set (t+1) (.lst ((ds++[(x,(lk kx x).map (·.1),o.map (·.1))]).map bt)))[t+1]? = some (.lst ((ds++[(x,(lk kx x).map (·.1),o.map (·.1))]).map bt)):=Na ld1
 have n1:(h.set (t+1) (.lst ((ds++[(x,(lk kx x).map (·.1),o.map (·.1))]).map bt))).length=h.length:=NW
 have o1:∀ i,i≠t+1->(h.set (t+1) (.lst ((ds++[(x,(lk kx x).map (·.1),o.map (·.1))]).map bt)))[i]? = h[i]? := λi hi=>M5 (Ne.symm hi)
 generalize hh1:h.set (t+1) (.lst ((ds++[(x,(lk kx x).map (·.1),o.map (·.1))]).map bt))=h1 at *;have cl:mq (.ref (t+2)) [] h1 = .ok .non (h1.set (t+2) (.lst [])):=by simp only [mq,ba1]
 have il1:cn (.ref (t+2)) h1=true:=by simp only [cn,gs,ba1];rfl
 have f3:Sm.sFld 1 3 (ae 0) [some (.ref q),some (.str x),some (oN (o.map (·.1)))] h1 = .ok (.ref (t+2)) h1:=by simp [ob1]
 have ob2:(h1.set (t+2) (.lst []))[q]? = some (.ins 1 [some (.ref p),some (.ref t),some (.ref (t+1)),some (.ref (t+2))]):=by rw [M5 (by lia)];exact ob1
 have tx2:(h1.set (t+2) (.lst []))[t]? = some (.dct false (kx.map (kG gN))):=by rw [M5 (by lia)];exact tx1
 have de2:(h1.set (t+2) (.lst []))[t+1]? = some (.lst ((ds++[(x,(lk kx x).map (·.1),o.map (·.1))]).map bt)):=by rw [M5 (by lia)];exact de1
 have ba2:(h1.set (t+2) (.lst []))[t+2]? = some (.lst []):=Na (by lia)
 have n2:(h1.set (t+2) (.lst [])).length=h.length:=by rw [NW];exact n1
 have o2:∀ i,i≠t+1->i≠t+2->(h1.set (t+2) (.lst []))[i]? = h[i]? := λi a b=>(M5 (Ne.symm b)).trans (o1 i a)
 generalize hh2:h1.set (t+2) (.lst [])=h2 at *;have st:=vX (x:=x) (o:=o) ob2 tx2 (by lia) hs
 have o3:∀ i,i≠t->i≠t+1->i≠t+2->(h2.set t (.dct false ((upd kx x o).map (kG gN))))[i]? = h[i]? := λi a b c=>(M5 (Ne.symm a)).trans (o2 i b c)
 refine ⟨h2.set t (.dct false ((upd kx x o).map (kG gN))),?_,⟨(o3 q (by lia) (by lia) (by lia)).trans H.ob,H.sh.keep λi a b=>o3 i (by lia) (by lia) (by lia),H.gd,Na (by lia),?_,?_,λe he=>?_,lo,ct,oO H.nd x o⟩,⟨λi _ a b c=>o3 i a b c,by rw [NW];exact n2⟩⟩
 ·have ee:(AV.tup [.str x,oN ((lk kx x).map (·.1)),oN (o.map (·.1))])=bt (x,(lk kx x).map (·.1),o.map (·.1)):=rfl
  generalize h2.set t (.dct false ((upd kx x o).map (kG gN)))=h3 at *;generalize (lk kx x).map (·.1)=O at *;generalize oN (o.map (·.1))=ON at *;unfold dP
  generalize nS (Sm.sFld 1 1 (ae 0)) (ae 1)=G1 at *;generalize Sm.sFld 1 2 (ae 0)=G2 at *;generalize Sm.sFld 1 3 (ae 0)=G3 at *;simp [g1,f2,ee,il,ap,f3,il1,cl,ob2,st,-cn,-cG,-mq]
 ·rw [M5 (by lia)];exact de2
 ·rw [M5 (by lia)];exact ba2
 ·rcases rn he with ⟨v,ev,rfl⟩ | he
  ·exact ⟨T v ev,hx⟩
  ·exact H.tz e he
end
theorem A5 {R:Nat} {fs:List AV} (e:h[R]? = some (.lst fs)) (hf:fs.length<=2000) (v:AV):cG (.ref R) [v] h = .ok .non (h.set R (.lst (fs++[v]))):=by
 have:fs.length<sizeLine:=Nl hf (by decide)
 simp only [cG,e,this,O3]
theorem oQ (e:a+b=c) (h:AH):aE (.int a) (.int b) h = .ok (.int c) h:=by
 have:(a:Int)+b=c:=by lia
 simp only [aE,this]
theorem J7 (a b:Nat) (h:AH):dS (.int a) (.int b) h = .ok (.bl (decide (a<b))) h:=by
 have:decide ((a:Int)<b)=decide (a<b):=by apply decide_eq_decide.mpr;lia
 simp only [dS,this]
structure Fr (L:Nat) (h h':AH):Prop where
 fr:∀ i,i<h.length->i≠L->h'[i]? = h[i]?
 hl:h.length<=h'.length
 ro:∃ N:Int,h'[L]? = some (.lst [.int N])
theorem Fr.app (a:Fr L h h') (r:AH):Fr L h (h' ++ r):=by
 obtain ⟨N,e⟩:=a.ro
 exact ⟨λi hi n=>by rw [Nb (Nq hi a.hl)];exact a.fr i hi n,by rw [NL];have:=a.hl;lia,N,by rw [Nb (cL e)];exact e⟩
theorem Fr.trans {L:Nat} {h h' h'':AH} (a:Fr L h h') (b:Fr L h' h''):Fr L h h'' :=
 ⟨λi hi n=>(b.fr i (Nq hi a.hl) n).trans (a.fr i hi n),M6 a.hl b.hl,b.ro⟩
theorem Fr.set {L:Nat} {h h':AH} (a:Fr L h h') (N':Int):Fr L h (h'.set L (.lst [.int N'])):=by
 obtain ⟨N,e⟩:=a.ro
 exact ⟨λi hi n=>by rw [M5 (Ne.symm n)];exact a.fr i hi n,by rw [NW];exact a.hl,N',Na (cL e)⟩
theorem Fr.take (a:Fr L h h') (m:Nat) (hm:0<m) (hm2:m<=10 ^ 50):∃ (v:Nat) (N:Int),v<m/\bD [.ref L,.int m] h' = .ok (.int v) (h'.set L (.lst [.int N]))/\Fr L h (h'.set L (.lst [.int N])):=by
 obtain ⟨N,e⟩:=a.ro
 obtain ⟨v,N',hv,t⟩:=mQ m e hm hm2
 exact ⟨v,N',hv,t,a.set N'⟩
theorem vY (y:Str) (a:Nat):(bW y a).length=min a y.length:=by rw [cS,jI,Oa,<- cS]
theorem oR (x y:Str):(x++y).length=x.length+y.length:=by rw [cS,df,NL,<- cS,<- cS]
def aR:OutS->Out AV
 | .nx _ h=>.ok .non h
 | .rt v h=>.ok v h
 | .ex c _ h=>.ex c h
 | _=>.bad
section
variable {P:OutS->Prop} {a b x y z:SS} {c:SB} {en e2:En} {h h1 h2 h3:AH} {v:AV}
theorem bQ (s:a en h = .nx e2 h2) (r:P (b e2 h2)):P (ao a b en h):=by
 have:ao a b en h=b e2 h2:=by simp only [ao,s]
 rw [this];exact r
theorem dC (s:c en h = .ok false h1) (r:P (b en h1)):P (ao (aS c z aT) b en h):=by
 have:ao (aS c z aT) b en h=b en h1:=by simp [s]
 rw [this];exact r
end
theorem gh {P:Out AV->Prop} {m:Nat} {b:SS} {args:List AV} (hn:args.length=n) (r:P (aR (b (args.map some++List.replicate (m-n) none) h))):P (aD n m b args h):=by
 have:aD n m b args h=aR (b (args.map some++List.replicate (m-n) none) h):=by
  simp only [aD]
  rw [M8 hn];generalize b (args.map some++List.replicate (m-n) none) h=o
  cases o<;>rfl
 rw [this];exact r
variable {en:En}
theorem gi {P:OutS->Prop} {a:SE} {v:AV} (s:ay a en h = .rt v h') (r:P (.rt v h')):P (ay a en h):=by rw [s];exact r
theorem A6 (hx:bV x=true) (hh:AH):nX [.str x] hh = .ok .non hh:=by
 simp [nX,A4 hx hh]
section
variable {h:AH} {q p t:Nat} {ps:List Pc} {kx:List (Str×Nat×Str)} {ds bs:List De}
def oP:Option Nat->PyData
 | none=>.none
 | some n=>.int n
def vZ (d:De):PyData:=.tuple [.str d.1,oP d.2.1,oP d.2.2]
theorem A7 (k:Nat) (hh:AH):∀ l:List De,bP (bK (k+1) hh) (l.map bt)=some (l.map vZ)
 | []=>rfl
 | d::l=>by
  have e:bK (k+1) hh (bt d)=some (vZ d):=by
   obtain ⟨a,o,n⟩:=d
   cases o<;>cases n<;>cases k<;>rfl
  show (match bK (k+1) hh (bt d),bP (bK (k+1) hh) (l.map bt) with | some d,some ds=>some (d::ds) | _,_=>none)=_
  rw [e,A7 k hh l];rfl
theorem J8 {W:Nat} {l:List De} {d:De} (e:hh[W]? = some (.lst ((l++[d]).map bt))):aG (.ref W) (.fl []) hh = .ok (.bl false) hh:=by
 have d1:bK 8 hh (.ref W)=some (.list ((l++[d]).map vZ)):=by
  show (match hh[W]? with | some (.lst xs)=>(bP (bK 7 hh) xs).map PyData.list | _=>none)=_
  rw [e];show (bP (bK 7 hh) ((l++[d]).map bt)).map PyData.list=_
  rw [A7 6];rfl
 have qq:gF (.ref W) (.fl []) hh=some false:=by
  show (match bK 8 hh (.ref W),bK 8 hh (.fl []) with | some d,some e=>some (PyData.eqv d e) | _,_=>none)=_
  rw [d1];show some (PyData.eqv (.list _) (.list []))=_
  rw [PyData.eqv]
  cases l<;>rfl
 show (match gF (.ref W) (.fl []) hh with | some b=>Out.ok (AV.bl b) hh | none=>Out.bad)=_
 rw [qq]
theorem A8 (H:Ho h q p t ps kx ds bs) {l m:List De} {d:De} (ea:h[a]? = some (.lst ((l++[d]).map bt))) (eb:h[b]? = some (.lst (m.map bt))) (hab:a≠b) (lm:m.length<=1000) :
  aG (.ref a) (.fl []) h = .ok (.bl false) h/\fu (.ref a) [] h = .ok (bt d) (h.set a (.lst (l.map bt)))/\cn (.ref a) h=true/\cn (.ref b) (h.set a (.lst (l.map bt)))=true /\
   cG (.ref b) [bt d] (h.set a (.lst (l.map bt))) = .ok .non ((h.set a (.lst (l.map bt))).set b (.lst ((m++[d]).map bt))):=by
 have eb':(h.set a (.lst (l.map bt)))[b]? = some (.lst (m.map bt)):=by rw [M5 hab];exact eb
 refine ⟨J8 ea,?_,by simp only [cn,gs,ea];rfl,by simp only [cn,gs,eb'];rfl,?_⟩
 ·have i:((l++[d]).map bt)[((l++[d]).map bt).length-1]? = some (bt d):=by simp
  have dl:((l++[d]).map bt).dropLast=l.map bt:=by rw [N9];exact List.dropLast_concat
  simp only [fu,ea]
  rw [i,dl]
 ·have sz:(m.map bt).length<sizeLine:=by rw [Nc];exact Nl lm (by decide)
  simp only [cG,eb']
  rw [M8 sz];simp
theorem J9 {w1:Option Nat} (H:Ho h q p t ps kx (ds++[(x,o.map (·.1),w1)]) bs) (hx:bV x=true) (T:∀ v,o=some v->TxZ ps v.1 v.2) (ct:(upd kx x o).length<=50) (lb:bs.length<=1000) (hs:o=none->(lk kx x).isSome=true) :
  ∃ h',jz [.ref q] h = .ok .non h'/\Ho h' q p t ps (upd kx x o) ds (bs++[(x,o.map (·.1),w1)])/\Fh p t h h' := by
 have lo:=H.lo
 have ctk:=H.ct
 have lt:=cL H.tx
 have la:=cL H.de
 have lb' := cL H.ba
 obtain ⟨m1,m2,m3,m4,m5⟩:=A8 H H.de H.ba (by lia) lb
 have o1:∀ i,i≠t+1->(h.set (t+1) (.lst (ds.map bt)))[i]? = h[i]? := λi a=>M5 (Ne.symm a)
 have d1:(h.set (t+1) (.lst (ds.map bt)))[t+1]? = some (.lst (ds.map bt)):=Na la
 have n1':(h.set (t+1) (.lst (ds.map bt))).length=h.length:=NW
 generalize h.set (t+1) (.lst (ds.map bt))=h1 at *;have o2:∀ i,i≠t+1->i≠t+2->(h1.set (t+2) (.lst ((bs++[(x,o.map (·.1),w1)]).map bt)))[i]? = h[i]? := λi a b=>(M5 (Ne.symm b)).trans (o1 i a)
 have d2:(h1.set (t+2) (.lst ((bs++[(x,o.map (·.1),w1)]).map bt)))[t+1]? = some (.lst (ds.map bt)):=by rw [M5 (by lia)];exact d1
 have b2:(h1.set (t+2) (.lst ((bs++[(x,o.map (·.1),w1)]).map bt)))[t+2]? = some (.lst ((bs++[(x,o.map (·.1),w1)]).map bt)):=Na (by lia)
 have n2':(h1.set (t+2) (.lst ((bs++[(x,o.map (·.1),w1)]).map bt))).length=h.length:=by rw [NW];exact n1'
 generalize h1.set (t+2) (.lst ((bs++[(x,o.map (·.1),w1)]).map bt))=h2 at *;have ob1:=(o1 q (by lia)).trans H.ob
 have ob2:=(o2 q (by lia) (by lia)).trans H.ob
 have st:=vX (x:=x) (o:=o) ob2 ((o2 t (by lia) (by lia)).trans H.tx) (by lia) hs
 have o3:∀ i,i≠t->i≠t+1->i≠t+2->(h2.set t (.dct false ((upd kx x o).map (kG gN))))[i]? = h[i]? := λi a b c=>(M5 (Ne.symm a)).trans (o2 i b c)
 refine ⟨h2.set t (.dct false ((upd kx x o).map (kG gN))),?_,⟨(o3 q (by lia) (by lia) (by lia)).trans H.ob,H.sh.keep λi a b=>o3 i (by lia) (by lia) (by lia),H.gd,Na (by lia),?_,?_,λe he=>?_,lo,ct,oO H.nd x o⟩,⟨λi _ a b c=>o3 i a b c,by rw [NW];exact n2'⟩⟩
 ·have i0:∀ hh,aw (bt (x,o.map (·.1),w1)) (.int 0) hh = .ok (.str x) hh:=λ_=>rfl
  have i1:∀ hh,aw (bt (x,o.map (·.1),w1)) (.int 1) hh = .ok (oN (o.map (·.1))) hh:=λ_=>rfl
  have ob:=H.ob
  generalize oN (o.map (·.1))=ON at *;generalize h2.set t (.dct false ((upd kx x o).map (kG gN)))=h3 at *;generalize bt (x,o.map (·.1),w1)=V at *;unfold jz
  generalize iC=G at *;simp [ob,m1,m2,m3,m4,m5,ob1,ob2,i0,i1,st,-aG,-cn,-cG,-fu,-aw]
 ·rw [M5 (by lia)];exact d2
 ·rw [M5 (by lia)];exact b2
 ·rcases rn he with ⟨v,ev,rfl⟩ | he
  ·exact ⟨T v ev,hx⟩
  ·exact H.tz e he
theorem Ka {o0:Option Nat} (H:Ho h q p t ps kx ds (bs++[(x,o0,o.map (·.1))])) (hx:bV x=true) (T:∀ v,o=some v->TxZ ps v.1 v.2) (ct:(upd kx x o).length<=50) (ld:ds.length<=1000) (hs:o=none->(lk kx x).isSome=true) :
  ∃ h',jA [.ref q] h = .ok .non h'/\Ho h' q p t ps (upd kx x o) (ds++[(x,o0,o.map (·.1))]) bs/\Fh p t h h' := by
 have lo:=H.lo
 have ctk:=H.ct
 have lt:=cL H.tx
 have la:=cL H.de
 have lb' := cL H.ba
 obtain ⟨m1,m2,m3,m4,m5⟩:=A8 H H.ba H.de (by lia) ld
 have o1:∀ i,i≠t+2->(h.set (t+2) (.lst (bs.map bt)))[i]? = h[i]? := λi a=>M5 (Ne.symm a)
 have d1:(h.set (t+2) (.lst (bs.map bt)))[t+2]? = some (.lst (bs.map bt)):=Na lb'
 have n1':(h.set (t+2) (.lst (bs.map bt))).length=h.length:=NW
 generalize h.set (t+2) (.lst (bs.map bt))=h1 at *;have o2:∀ i,i≠t+1->i≠t+2->(h1.set (t+1) (.lst ((ds++[(x,o0,o.map (·.1))]).map bt)))[i]? = h[i]? := λi a b=>(M5 (Ne.symm a)).trans (o1 i b)
 have d2:(h1.set (t+1) (.lst ((ds++[(x,o0,o.map (·.1))]).map bt)))[t+2]? = some (.lst (bs.map bt)):=by rw [M5 (by lia)];exact d1
 have b2:(h1.set (t+1) (.lst ((ds++[(x,o0,o.map (·.1))]).map bt)))[t+1]? = some (.lst ((ds++[(x,o0,o.map (·.1))]).map bt)):=Na (by lia)
 have n2':(h1.set (t+1) (.lst ((ds++[(x,o0,o.map (·.1))]).map bt))).length=h.length:=by rw [NW];exact n1'
 generalize h1.set (t+1) (.lst ((ds++[(x,o0,o.map (·.1))]).map bt))=h2 at *;have ob1:=(o1 q (by lia)).trans H.ob
 have ob2:=(o2 q (by lia) (by lia)).trans H.ob
 have st:=vX (x:=x) (o:=o) ob2 ((o2 t (by lia) (by lia)).trans H.tx) (by lia) hs
 have o3:∀ i,i≠t->i≠t+1->i≠t+2->(h2.set t (.dct false ((upd kx x o).map (kG gN))))[i]? = h[i]? := λi a b c=>(M5 (Ne.symm a)).trans (o2 i b c)
 refine ⟨h2.set t (.dct false ((upd kx x o).map (kG gN))),?_,⟨(o3 q (by lia) (by lia) (by lia)).trans H.ob,H.sh.keep λi a b=>o3 i (by lia) (by lia) (by lia),H.gd,Na (by lia),?_,?_,λe he=>?_,lo,ct,oO H.nd x o⟩,⟨λi _ a b c=>o3 i a b c,by rw [NW];exact n2'⟩⟩
 ·have i0:∀ hh,aw (bt (x,o0,o.map (·.1))) (.int 0) hh = .ok (.str x) hh:=λ_=>rfl
  have i1:∀ hh,aw (bt (x,o0,o.map (·.1))) (.int 2) hh = .ok (oN (o.map (·.1))) hh:=λ_=>rfl
  have ob:=H.ob
  generalize oN (o.map (·.1))=ON at *;generalize h2.set t (.dct false ((upd kx x o).map (kG gN)))=h3 at *;generalize bt (x,o0,o.map (·.1))=V at *;unfold jA
  generalize iC=G at *;simp [ob,m1,m2,m3,m4,m5,ob1,ob2,i0,i1,st,-aG,-cn,-cG,-fu,-aw]
 ·rw [M5 (by lia)];exact b2
 ·rw [M5 (by lia)];exact d2
 ·rcases rn he with ⟨v,ev,rfl⟩ | he
  ·exact ⟨T v ev,hx⟩
  ·exact H.tz e he
theorem A9 {W:Nat} (e:hh[W]? = some (.lst ([].map bt))):aG (.ref W) (.fl []) hh = .ok (.bl true) hh:=by
 have d1:bK 8 hh (.ref W)=some (.list []):=by
  show (match hh[W]? with | some (.lst xs)=>(bP (bK 7 hh) xs).map PyData.list | _=>none)=_
  rw [e];rfl
 have qq:gF (.ref W) (.fl []) hh=some true:=by
  show (match bK 8 hh (.ref W),bK 8 hh (.fl []) with | some d,some e=>some (PyData.eqv d e) | _,_=>none)=_
  rw [d1];show some (PyData.eqv (.list _) (.list []))=_
  rw [PyData.eqv];rfl
 show (match gF (.ref W) (.fl []) hh with | some b=>Out.ok (AV.bl b) hh | none=>Out.bad)=_
 rw [qq]
theorem Kb (H:Ho h q p t ps kx [] bs):jz [.ref q] h = .ex nV h:=by
 have e:=A9 H.de
 simp [jz,H.ob,e,-aG]
theorem Kc (H:Ho h q p t ps kx ds []):jA [.ref q] h = .ex nV h:=by
 have e:=A9 H.ba
 simp [jA,H.ob,e,-aG]
end
def Dk (F:Out AV) (h:AH) (ps:List Pc) (kx:List (Str×Nat×Str)) (ds:List De) (x:Str) (y:Option Str) (c:Nat):Prop :=
 ∃ (o:Option (Nat×Str)) (ps':List Pc) (h':AH),F = .ok .non h'/\o.map (·.2)=y/\Ho h' 0 1 10 ps' (upd kx x o) (ds++[(x,(lk kx x).map (·.1),o.map (·.1))]) []/\Fh 1 10 h h'/\ps <+: ps'/\ps'.length<=ps.length+c
section
variable {h:AH} {ps:List Pc} {kx:List (Str×Nat×Str)} {ds bs:List De} {x z:Str} {v w:Nat×Str}
theorem gB (H:Ho h 0 1 10 ps kx ds bs) (l:lk kx x=some v):TxZ ps v.1 v.2/\bV x=true:=H.tz _ (dQ l)
theorem dk_of {k:Nat} {F:Out AV} (H:Ho h 0 1 10 ps kx ds bs) (D:Dd 1 h h1 ps ps1 k) (T:TxZ ps1 n y) (hx:bV x=true) (hc:k<=c) (ct:kx.length<50) (ld:ds.length<=1000) (e:∀ h',dP [.ref 0,.str x,.int n] h1 = .ok .non h'->F = .ok .non h'):Dk F h ps kx ds x (some y) c:=by
 obtain ⟨h',fd,H',Fr'⟩:=jJ (H.dd D) (o:=some (n,y)) hx (λv ev=>by cases ev;exact T) (M6 (rp ..) (by lia)) ld nofun
 exact ⟨some (n,y),ps1,h',e h' fd,rfl,H',(Fh.dd D).trans Fr',D.pre,by have:=D.len;lia⟩
theorem Kd (H:Ho h 0 1 10 ps kx ds bs) (hx:bV x=true) (py:cf y=true) (ly:y.length<=10000) (hz:ps.length<13000000) (ct:kx.length<50) (ld:ds.length<=1000):Dk (qy [.ref 0,.str x,.str y] h) h ps kx ds x (some y) (2*y.length):=by
 obtain ⟨n,ps',h1,fb,D,T⟩:=JA H.sh H.gd py ly (by lia)
 have ck:=A6 hx h
 refine dk_of H D T hx (MZ _) ct ld λh' fd=>?_
 unfold qy
 generalize mI=G at *;generalize dP=G2 at *;simp [ck,H.ob,fb,fd]
theorem Ke (H:Ho h 0 1 10 ps kx ds bs) (hx:bV x=true) (l:lk kx z=some v) (ct:kx.length<50) (ld:ds.length<=1000):Dk (qz [.ref 0,.str x,.str z] h) h ps kx ds x (some v.2) 0:=by
 obtain ⟨h',fd,H',Fr'⟩:=jJ H (x:=x) (o:=some v) hx (λv' ev=>by cases ev;exact (gB H l).1) (M6 (rp ..) (by lia)) ld nofun
 have fd:dP [.ref 0,.str x,.int v.1] h = .ok .non h' := fd
 have ck:=A6 hx h
 have ft:=i4 H l
 refine ⟨some v,ps,h',?_,rfl,H',Fr',Oc _,by lia⟩
 unfold qz
 generalize dP=G2 at *;generalize dJ=G3 at *;simp [ck,H.ob,ft,fd]
theorem Kf (H:Ho h 0 1 10 ps kx ds bs) {k:Nat} (l:lk kx x=some v) (hk:k<2 ^ 50) (hm:v.2.length*k<=1000000000000000000) (hz:ps.length<13000000) (ct:kx.length<50) (ld:ds.length<=1000):Dk (lh [.ref 0,.str x,.int k] h) h ps kx ds x (some (bE v.2 k)) 240000:=by
 obtain ⟨m,ps',h1,D,T⟩:=JF H.sh H.gd (gB H l).1 hk (by decide) hm (by lia)
 have ft:=i4 H l
 have ev:=D.ev
 refine dk_of H D.dd T (gB H l).2 (by decide) ct ld λh' fd=>?_
 unfold lh
 generalize j1=G at *;generalize dP=G2 at *;generalize dJ=G3 at *;simp [H.ob,ft,ev,fd]
theorem Kg (T:TxZ ps n ""):n=0:=by
 rcases T with ⟨a,_⟩ | ⟨m,f,l,T⟩
 ·exact a
 ·obtain ⟨k,c⟩:=T.ky.cnt
  have:=T.ky.f1
  have e:m.sg=0:=T.ky.sg
  lia
theorem Kh (H:Ho h 0 1 10 ps kx ds bs) {k:Nat} (l:lk kx x=some (n,("" : Str))) (hk:k<2 ^ 63) (ct:kx.length<50) (ld:ds.length<=1000):Dk (lh [.ref 0,.str x,.int k] h) h ps kx ds x (some "") 240000:=by
 have n0:=Kg (gB H l).1
 subst n0;have ev:=vN H.sh (oF ps) hk (by show 0*k<=_;rw [Nat.zero_mul];exact NB _)
 rw [M8 rfl] at ev;obtain ⟨h',fd,H',Fr'⟩:=jJ H (x:=x) (o:=some (0, "")) (gB H l).2 (λv' ev=>by cases ev;exact .inl ⟨rfl,rfl⟩) (M6 (rp ..) (by lia)) ld nofun
 have fd:dP [.ref 0,.str x,.int (0:Nat)] h = .ok .non h' := fd
 have ft:=i4 H l
 refine ⟨some (0, ""),ps,h',?_,rfl,H',Fr',Oc _,by lia⟩
 unfold lh
 generalize j1=G at *;generalize dP=G2 at *;generalize dJ=G3 at *;generalize ((0:Nat):Int)=Z at *;simp [H.ob,ft,ev,fd]
theorem Ki (H:Ho h 0 1 10 ps kx ds bs) (l:lk kx x=some v) (l2:lk kx z=some w) (hm:v.2.length+w.2.length<=1000000000000000000) (hz:ps.length<13000000) (ct:kx.length<50) (ld:ds.length<=1000):Dk (qD [.ref 0,.str x,.str z] h) h ps kx ds x (some (v.2++w.2)) 240000:=by
 obtain ⟨m,ps',h1,ev,D,T⟩:=rk H.sh H.gd (gB H l).1 (gB H l2).1 hm (by lia)
 have ft:=i4 H l
 have ft2:=i4 H l2
 refine dk_of H D T (gB H l).2 (by decide) ct ld λh' fd=>?_
 unfold qD
 generalize cq=G at *;generalize dP=G2 at *;generalize dJ=G3 at *;simp [H.ob,ft,ft2,ev,fd]
theorem Kj (H:Ho h 0 1 10 ps kx ds bs) (l:lk kx x=some v) (l2:lk kx z=some w) (ha:a<=v.2.length) (hm:v.2.length+w.2.length<=1000000000000000000) (hz:ps.length<13000000) (ct:kx.length<50) (ld:ds.length<=1000) :
  Dk (qF [.ref 0,.str x,.int a,.str z] h) h ps kx ds x (some ((bW v.2 a++w.2)++dB v.2 a)) 240000:=by
 obtain ⟨m,ps',h1,ev,D,T⟩:=JN H.sh H.gd (gB H l).1 (gB H l2).1 ha hm hz
 have ft:=i4 H l
 have ft2:=i4 H l2
 refine dk_of H D T (gB H l).2 (by decide) ct ld λh' fd=>?_
 unfold qF
 generalize oi=G at *;generalize dP=G2 at *;generalize dJ=G3 at *;simp [H.ob,ft,ft2,ev,fd]
theorem Kk (H:Ho h 0 1 10 ps kx ds bs) (l:lk kx x=some v) (ab:a<=b) (hb:b<=v.2.length) (hm:v.2.length<=1000000000000000000) (hz:ps.length<13000000) (ct:kx.length<50) (ld:ds.length<=1000) :
  Dk (qH [.ref 0,.str x,.int a,.int b] h) h ps kx ds x (some (bW v.2 a++dB v.2 b)) 240000:=by
 obtain ⟨m,ps',h1,ev,D,T⟩:=JM H.sh H.gd (gB H l).1 ab hb hm hz
 have ft:=i4 H l
 refine dk_of H D T (gB H l).2 (by decide) ct ld λh' fd=>?_
 unfold qH
 generalize oj=G at *;generalize dP=G2 at *;generalize dJ=G3 at *;simp [H.ob,ft,ev,fd]
theorem Kl (H:Ho h 0 1 10 ps kx ds bs) (l:lk kx x=some v) (ld:ds.length<=1000):Dk (qJ [.ref 0,.str x] h) h ps kx ds x none 0:=by
 obtain ⟨h',fd,H',Fr'⟩:=jJ H (x:=x) (o:=none) (gB H l).2 nofun (M6 (Pz _ _) H.ct) ld (λ_=>by rw [l];rfl)
 have fd:dP [.ref 0,.str x,.non] h = .ok .non h' := fd
 have ft:=i4 H l
 refine ⟨none,ps,h',?_,rfl,H',Fr',Oc _,by lia⟩
 unfold qJ
 generalize dP=G2 at *;generalize dJ=G3 at *;simp [H.ob,ft,fd]
end
inductive Gd (kx:List (Str×Nat×Str)):AV->Str->Option Str->Nat->Prop
 | give {x y:Str} (hx:bV x=true) (py:cf y=true) (ly:y.length<=10000):Gd kx (.tup [.str "give",.str x,.str y]) x (some y) (2*y.length)
 | copy {x z:Str} {v:Nat×Str} (hx:bV x=true) (l:lk kx z=some v):Gd kx (.tup [.str "copy_of",.str x,.str z]) x (some v.2) 0
 | join {x z:Str} {v w:Nat×Str} (l:lk kx x=some v) (l2:lk kx z=some w) (hm:v.2.length+w.2.length<=1000000000000000000):Gd kx (.tup [.str "join_to",.str x,.str z]) x (some (v.2++w.2)) 240000
 | put {x z:Str} {v w:Nat×Str} {a:Nat} (l:lk kx x=some v) (l2:lk kx z=some w) (ha:a<=v.2.length) (hm:v.2.length+w.2.length<=1000000000000000000):Gd kx (.tup [.str "put_into",.str x,.int a,.str z]) x (some ((bW v.2 a++w.2)++dB v.2 a)) 240000
 | take {x:Str} {v:Nat×Str} {a b:Nat} (l:lk kx x=some v) (ab:a<=b) (hb:b<=v.2.length) (hm:v.2.length<=1000000000000000000):Gd kx (.tup [.str "take_from",.str x,.int a,.int b]) x (some (bW v.2 a++dB v.2 b)) 240000
 | rep {x:Str} {v:Nat×Str} {k:Nat} (l:lk kx x=some v) (hk:k<2 ^ 50) (hm:v.2.length*k<=1000000000000000000):Gd kx (.tup [.str "repeat",.str x,.int k]) x (some (bE v.2 k)) 240000
 | rep0 {x:Str} {n k:Nat} (l:lk kx x=some (n,("" : Str))) (hk:k<2 ^ 63):Gd kx (.tup [.str "repeat",.str x,.int k]) x (some "") 240000
 | drop {x:Str} {v:Nat×Str} (l:lk kx x=some v):Gd kx (.tup [.str "drop",.str x]) x none 0
theorem v5 {V:AV} {o0:Option AV} (i0:aw V (.int 0) h = .ok (.str x) h):(aM (ah aG (ah aw (ae 1) (af (.int 0))) (af (.str y)))) [o0,some V] h = .ok (decide (x=y)) h:=by
 simp [i0,-aw]
section
variable {P:OutS->Prop} {h h':AH} {x y:Str} {V W:AV} {o0:Option AV} {a:SE} {b:SS}
theorem cu (i0:aw V (.int 0) h = .ok (.str x) h) (n : ¬ x=y) (r:P (b [o0,some V] h)):P (ao (aS (aM (ah aG (ah aw (ae 1) (af (.int 0))) (af (.str y)))) (ay a) aT) b [o0,some V] h) :=
 dC ((v5 i0).trans (by rw [NF n])) r
theorem lH (i0:aw V (.int 0) h = .ok (.str x) h) (s:a [o0,some V] h = .ok W h') (r:P (.rt W h')):P (ao (aS (aM (ah aG (ah aw (ae 1) (af (.int 0))) (af (.str x)))) (ay a) aT) b [o0,some V] h):=by
 have c:=v5 (y:=x) (o0:=o0) i0
 rw [NQ rfl] at c;have:ao (aS (aM (ah aG (ah aw (ae 1) (af (.int 0))) (af (.str x)))) (ay a) aT) b [o0,some V] h = .rt W h' := by
  generalize aM (ah aG (ah aw (ae 1) (af (.int 0))) (af (.str x)))=C at *;simp [c,s]
 rw [this];exact r
variable {p t:Nat} {u1 u2 u3:AV} {G:Fn}
theorem m1 (ob:h[0]? = some (.ins 1 [some (.ref p),some (.ref t),some (.ref (t+1)),some (.ref (t+2))])) (i1:aw V (.int 1) h = .ok u1 h) (e:G [.ref 0,u1] h = .ok W h'):aI 1 G (ae 0) (aj (ah aw (ae 1) (af (.int 1))) ag) [some (.ref 0),some V] h = .ok W h' := by simp [ob,i1,e,-aw]
theorem m2 (ob:h[0]? = some (.ins 1 [some (.ref p),some (.ref t),some (.ref (t+1)),some (.ref (t+2))])) (i1:aw V (.int 1) h = .ok u1 h) (i2:aw V (.int 2) h = .ok u2 h) (e:G [.ref 0,u1,u2] h = .ok W h'):aI 1 G (ae 0) (aj (ah aw (ae 1) (af (.int 1))) (aj (ah aw (ae 1) (af (.int 2))) ag)) [some (.ref 0),some V] h = .ok W h' := by simp [ob,i1,i2,e,-aw]
theorem m3 (ob:h[0]? = some (.ins 1 [some (.ref p),some (.ref t),some (.ref (t+1)),some (.ref (t+2))])) (i1:aw V (.int 1) h = .ok u1 h) (i2:aw V (.int 2) h = .ok u2 h) (i3:aw V (.int 3) h = .ok u3 h) (e:G [.ref 0,u1,u2,u3] h = .ok W h'):aI 1 G (ae 0) (aj (ah aw (ae 1) (af (.int 1))) (aj (ah aw (ae 1) (af (.int 2))) (aj (ah aw (ae 1) (af (.int 3))) ag))) [some (.ref 0),some V] h = .ok W h' := by simp [ob,i1,i2,i3,e,-aw]
end
theorem j8 {F G:Out AV} {ds:List De} {y:Option Str} (D:Dk F h ps kx ds x y c) (e:∀ h',F = .ok .non h'->G = .ok .non h'):Dk G h ps kx ds x y c:=by
 obtain ⟨o,ps',h',f,r⟩:=D
 exact ⟨o,ps',h',e h' f,r⟩
theorem Ba {t:Nat} {k:Nat} (ob:h[0]? = some (.ins 1 [some (.ref p),some (.ref t),some (.ref (t+1)),some (.ref (t+2))])) (e:lh [.ref 0,.str x,.int k] h = .ok .non h'):iX [.ref 0,.tup [.str "repeat",.str x,.int k]] h = .ok .non h' := by
 refine gh (P:=λo=>o = .ok .non h') rfl ?_
 refine cu (x := "repeat") (P:=λo=>aR o = .ok .non h') rfl (by decide +kernel) (cu (x := "repeat") (P:=λo=>aR o = .ok .non h') rfl (by decide +kernel) (cu (x := "repeat") (P:=λo=>aR o = .ok .non h') rfl (by decide +kernel) (cu (x := "repeat") (P:=λo=>aR o = .ok .non h') rfl (by decide +kernel) (cu (x := "repeat") (P:=λo=>aR o = .ok .non h') rfl (by decide +kernel) (lH (x := "repeat") (P:=λo=>aR o = .ok .non h') rfl ?_ rfl)))))
 exact m2 ob rfl rfl e
theorem oS {ds bs:List De} {deed:AV} {y:Option Str} (H:Ho h 0 1 10 ps kx ds bs) (g:Gd kx deed x y c) (hz:ps.length<13000000) (ct:kx.length<50) (ld:ds.length<=1000):Dk (iX [.ref 0,deed] h) h ps kx ds x y c:=by
 have ob:=H.ob
 have fo:∀ (h':AH),aR (.rt .non h') = .ok .non h' := λ_=>rfl
 cases g with
 | give hx py ly =>
  refine j8 (Kd H hx py ly hz ct ld) λh' e=>?_
  refine gh (P:=λo=>o = .ok .non h') rfl ?_
  refine lH (x := "give") (P:=λo=>aR o = .ok .non h') rfl ?_ (fo h')
  exact m2 ob rfl rfl e
 | copy hx l =>
  refine j8 (Ke H hx l ct ld) λh' e=>?_
  refine gh (P:=λo=>o = .ok .non h') rfl ?_
  refine cu (x := "copy_of") (P:=λo=>aR o = .ok .non h') rfl (by decide +kernel) (lH (x := "copy_of") (P:=λo=>aR o = .ok .non h') rfl ?_ (fo h'))
  exact m2 ob rfl rfl e
 | join l l2 hm =>
  refine j8 (Ki H l l2 hm hz ct ld) λh' e=>?_
  refine gh (P:=λo=>o = .ok .non h') rfl ?_
  refine cu (x := "join_to") (P:=λo=>aR o = .ok .non h') rfl (by decide +kernel) (cu (x := "join_to") (P:=λo=>aR o = .ok .non h') rfl (by decide +kernel) (lH (x := "join_to") (P:=λo=>aR o = .ok .non h') rfl ?_ (fo h')))
  exact m2 ob rfl rfl e
 | put l l2 ha hm =>
  refine j8 (Kj H l l2 ha hm hz ct ld) λh' e=>?_
  refine gh (P:=λo=>o = .ok .non h') rfl ?_
  refine cu (x := "put_into") (P:=λo=>aR o = .ok .non h') rfl (by decide +kernel) (cu (x := "put_into") (P:=λo=>aR o = .ok .non h') rfl (by decide +kernel) (cu (x := "put_into") (P:=λo=>aR o = .ok .non h') rfl (by decide +kernel) (lH (x := "put_into") (P:=λo=>aR o = .ok .non h') rfl ?_ (fo h'))))
  exact m3 ob rfl rfl rfl e
 | take l ab hb hm =>
  refine j8 (Kk H l ab hb hm hz ct ld) λh' e=>?_
  refine gh (P:=λo=>o = .ok .non h') rfl ?_
  refine cu (x := "take_from") (P:=λo=>aR o = .ok .non h') rfl (by decide +kernel) (cu (x := "take_from") (P:=λo=>aR o = .ok .non h') rfl (by decide +kernel) (cu (x := "take_from") (P:=λo=>aR o = .ok .non h') rfl (by decide +kernel) (cu (x := "take_from") (P:=λo=>aR o = .ok .non h') rfl (by decide +kernel) (lH (x := "take_from") (P:=λo=>aR o = .ok .non h') rfl ?_ (fo h')))))
  exact m3 ob rfl rfl rfl e
 | rep l hk hm =>
  refine j8 (Kf H l hk hm hz ct ld) λh' e=>?_
  exact Ba ob e
 | rep0 l hk =>
  refine j8 (Kh H l hk ct ld) λh' e=>?_
  exact Ba ob e
 | drop l =>
  refine j8 (Kl H l ld) λh' e=>?_
  refine gh (P:=λo=>o = .ok .non h') rfl ?_
  refine cu (x := "drop") (P:=λo=>aR o = .ok .non h') rfl (by decide +kernel) (cu (x := "drop") (P:=λo=>aR o = .ok .non h') rfl (by decide +kernel) (cu (x := "drop") (P:=λo=>aR o = .ok .non h') rfl (by decide +kernel) (cu (x := "drop") (P:=λo=>aR o = .ok .non h') rfl (by decide +kernel) (cu (x := "drop") (P:=λo=>aR o = .ok .non h') rfl (by decide +kernel) (cu (x := "drop") (P:=λo=>aR o = .ok .non h') rfl (by decide +kernel) (lH (x := "drop") (P:=λo=>aR o = .ok .non h') rfl ?_ (fo h')))))))
  exact m1 ob rfl e
theorem Bb (g:Nat×Str->AV):∀ kx:List (Str×Nat×Str),kU ((kx.map (kG g)).map (·.1))=some (kx.map (·.1))
 | []=>rfl
 | e::r=>by
  show (kU ((r.map (kG g)).map (·.1))).map (e.1 :: ·)=_
  rw [Bb g r];rfl
theorem Km (h:bV x=true):x.cps.all (· < 0x110000)=true:=by
 unfold bV at h
 simp only [NM] at h
 have a:=h.2
 rw [NR] at a;rw [<- Array.all_toList,NR];intro c hc
 have:=a c hc
 unfold lG at this
 simp only [NM,Ox] at this
 exact NQ (by lia)
def mR (p:Str×Nat):PyData:=.tuple [.str p.1,.int p.2]
theorem Bc (k:Nat) (hh:AH):∀ l:List (Str×Nat),bP (bK (k+1) hh) (l.map λp=>AV.tup [.str p.1,.int p.2])=some (l.map mR)
 | []=>rfl
 | d::l=>by
  have e:bK (k+1) hh (AV.tup [.str d.1,.int d.2])=some (mR d):=by cases k<;>rfl
  show (match bK (k+1) hh (AV.tup [.str d.1,.int d.2]),bP (bK (k+1) hh) (l.map λp=>AV.tup [.str p.1,.int p.2]) with | some d,some ds=>some (d::ds) | _,_=>none)=_
  rw [e,Bc k hh l];rfl
theorem Bd:∀ l:List (Str×Nat),PyData.eqvAll (l.map mR) (l.map mR)=true
 | []=>by simp [PyData.eqvAll]
 | d::l=>by rw [NG];simp [PyData.eqvAll,PyData.eqv,mR,Bd l]
theorem v7 {x:Str}:∀ {kx:List (Str×Nat×Str)},x∈kx.map (·.1)->∃ v,lk kx x=some v
 | [],h=>nomatch h
 | e::r,h=>by
  rw [gW];by_cases z:e.1=x
  ·exact ⟨e.2,M8 z⟩
  ·rw [M9 z]
   rcases Np.mp h with h | h
   ·exact absurd h.symm z
   ·exact v7 h
def mS (kx:List (Str×Nat×Str)):List (Str×Nat):=(eI (kx.map (·.1))).map λx=>(x,((lk kx x).map (·.1)).getD 0)
def cN (kx:List (Str×Nat×Str)):AV:=.fl ((mS kx).map λp=>AV.tup [.str p.1,.int p.2])
theorem Kn (kx:List (Str×Nat×Str)) (hh:AH):fR (cN kx) (cN kx) hh = .ok (.bl false) hh:=by
 have d1:bK 8 hh (cN kx)=some (.list ((mS kx).map mR)):=by
  show (bP (bK 7 hh) ((mS kx).map λp=>AV.tup [.str p.1,.int p.2])).map PyData.list=_
  rw [Bc 6];rfl
 have qq:gF (cN kx) (cN kx) hh=some true:=by
  show (match bK 8 hh (cN kx),bK 8 hh (cN kx) with | some d,some e=>some (PyData.eqv d e) | _,_=>none)=_
  rw [d1];show some (PyData.eqv (.list _) (.list _))=_
  simp [PyData.eqv,Bd]
 show (match gF (cN kx) (cN kx) hh with | some b=>Out.ok (AV.bl (!b)) hh | none=>Out.bad)=_
 rw [qq];rfl
theorem Be (a:(kx.map (·.1)).Nodup) (b:(ky.map (·.1)).Nodup) (s:∀ x,lk kx x=lk ky x):(kx.map (·.1)).Perm (ky.map (·.1)):=by
 refine (List.perm_ext_iff_of_nodup a b).mpr λx=>?_
 have:=s x
 by_cases q:x∈kx.map (·.1)
 ·obtain ⟨v,e⟩:=v7 q
  have : ¬ lk ky x=none:=by rw [<- s x,e];nofun
  exact ⟨λ_=>Classical.not_not.mp λz=>this (zbO.mpr z),λ_=>q⟩
 ·have e:=zbO.mpr q
  rw [s x] at e;exact ⟨λz=>absurd z q,λz=>absurd z (zbO.mp e)⟩
theorem Ko (a:(kx.map (·.1)).Nodup) (b:(ky.map (·.1)).Nodup) (s:∀ x,lk kx x=lk ky x):cN kx=cN ky:=by
 have p:=Be a b s
 have e:eI (kx.map (·.1))=eI (ky.map (·.1)):=qj ((gO _).trans (p.trans (gO _).symm)) (nR _) (nR _)
 have l:lk kx=lk ky:=funext s
 unfold cN mS
 rw [e,l]
theorem v8 (a:(kx.map (·.1)).Nodup) (b:(ky.map (·.1)).Nodup) (s:∀ x,lk kx x=lk ky x):kx.length=ky.length:=by
 have:=(Be a b s).length_eq
 rwa [Nc,Nc] at this
section
variable {h:AH} {q p t:Nat} {ps:List Pc} {kx:List (Str×Nat×Str)} {ds bs:List De}
theorem Bf {g:Nat×Str->AV} (e:h[K]? = some (.dct false (kx.map (kG g)))) (ct:kx.length<=50) (nm:∀ e∈kx,bV e.1=true):kW [.ref K] h = .ok (.fl ((eI (kx.map (·.1))).map AV.str)) h:=by
 have kt:mh (.ref K) h=some (kx.map (·.1)):=by
  unfold mh
  dsimp only;rw [e];exact Bb g kx
 have nm:∀ x∈kx.map (·.1),bV x=true:=λx hx=>by
  obtain ⟨e,he,rfl⟩:=O7.mp hx
  exact nm e he
 unfold kW
 dsimp only;rw [kt];dsimp only;rw [M8 ⟨by rw [Nc];lia,λx hx=>⟨M6 (vW (nm x hx)) (by decide),Km (nm x hx)⟩⟩]
theorem Bh (H:Ho h q p t ps kx ds bs):iY [.ref q] h = .ok (.fl ((eI (kx.map (·.1))).map AV.str)) h:=by
 have so:=Bf H.tx H.ct λe he=>(H.tz e he).2
 simp [iY,H.ob,so]
theorem v9 (H:Ho h q p t ps kx ds bs):jB [.ref q] h = .ok (cN kx) h:=by
 have fn:=Bh H
 have ob:=H.ob
 have l64:(eI (kx.map (·.1))).length<=64:=by
  rw [(gO _).length_eq,Nc];have:=H.ct;lia
 have cm:=qK (js:=[0]) (en:=[some (.ref q)]) (all:=(eI (kx.map (·.1))).map AV.str) (e:=bu (aj (ae 0) (aj (aI 1 dJ (ae 1) (aj (ae 0) ag)) ag))) (g:=AV.str) (f:=λx=>AV.tup [.str x,.int ((((lk kx x).map (·.1)).getD 0:Nat):Int)]) (h:=h) (eI (kx.map (·.1))) [] (λx hx=>by
  obtain ⟨v,e⟩:=v7 ((gO _).mem_iff.mp hx)
  have ft:=i4 H e
  generalize dJ=G at *;simp [ob,ft,e]) (by simp;exact M6 l64 (by decide))
 have ev:(eI (kx.map (·.1))).map (λx=>AV.tup [.str x,.int ((((lk kx x).map (·.1)).getD 0:Nat):Int)])=(mS kx).map λp=>AV.tup [.str p.1,.int p.2]:=by
  unfold mS
  rw [Pr];rfl
 rw [Ph,ev] at cm;have cc:fi [0] (cW (aI 1 iY (ae 0) ag)) bZ (bu (aj (ae 0) (aj (aI 1 dJ (ae 1) (aj (ae 0) ag)) ag))) [some (.ref q)] h = .ok (cN kx) h:=by
  have it:cW (aI 1 iY (ae 0) ag) [some (.ref q)] h = .ok ((eI (kx.map (·.1))).map AV.str,none) h:=by
   clear cm;generalize (eI (kx.map (·.1))).map AV.str=W at *;simp [ob,fn]
  simp only [fi,it,cm];rfl
 unfold jB
 generalize fi [0] (cW (aI 1 iY (ae 0) ag)) bZ (bu (aj (ae 0) (aj (aI 1 dJ (ae 1) (aj (ae 0) ag)) ag)))=C at *;simp [cc]
theorem Bi (H:Ho h q p t ps kx ds bs):lr [.ref q] h = .ok (.ref p) h:=by
 simp [lr,H.ob]
theorem rq {deed:AV} (e:iX [.ref q,deed] h = .ok .non h'):ia [.ref q,deed] h = .ok (.str "") h' := by
 unfold ia
 generalize iX=G at *;simp [nT,e]
theorem Bj {deed:AV} (e:iX [.ref q,deed] h = .ex nV h):ia [.ref q,deed] h = .ok (.str "NothingDone") h:=by
 have c1:uG 0=false:=rfl
 have c2:uI 0=false:=rfl
 have c3:uH 0=false:=rfl
 have c4:uK 0=false:=rfl
 have c5:uJ 0=true:=rfl
 unfold ia
 generalize iX=G at *;simp [nT,uF,e,c1,c2,c3,c4,c5]
end
structure Hy (M:Nat) (X:Nat->Str) (V:Nat->Option (Nat×Str)) (Kx:Nat->List (Str×Nat×Str)) (ps:List Pc):Prop where
 nd:∀ j,j<=M->((Kx j).map (·.1)).Nodup
 ct:∀ j,j<=M->(Kx j).length<=50
 tz:∀ j,j<=M->∀ e∈Kx j,TxZ ps e.2.1 e.2.2
 st:∀ j,j<M->bV (X j)=true/\Kx (j+1)=upd (Kx j) (X j) (V j)/\(V j=none->(lk (Kx j) (X j)).isSome=true)
def dj (X:Nat->Str) (V:Nat->Option (Nat×Str)) (Kx:Nat->List (Str×Nat×Str)) (j:Nat):De:=(X j,(lk (Kx j) (X j)).map (·.1),(V j).map (·.1))
structure At (M:Nat) (X:Nat->Str) (V:Nat->Option (Nat×Str)) (Kx:Nat->List (Str×Nat×Str)) (ps:List Pc) (H0 hh:AH) (r:Nat):Prop where
 ho:∃ kx,Ho hh 0 1 10 ps kx ((List.range r).map (dj X V Kx)) ((List.range (M-r)).map λs=>dj X V Kx (M-1-s))/\∀ x,lk kx x=lk (Kx r) x
 fr:∀ i,12<i->hh[i]? = H0[i]?
 hl:hh.length=H0.length
section
variable {M r:Nat} {X:Nat->Str} {V:Nat->Option (Nat×Str)} {Kx:Nat->List (Str×Nat×Str)} {ps:List Pc} {H0 hh:AH}
theorem At.fh (B:At M X V Kx ps H0 hh r) (F:Fh 1 10 hh h2) (H:Ho h2 0 1 10 ps kx ((List.range r').map (dj X V Kx)) ((List.range (M-r')).map λs=>dj X V Kx (M-1-s))) (l:∀ x,lk kx x=lk (Kx r') x):At M X V Kx ps H0 h2 r' :=
 ⟨⟨kx,H,l⟩,λi hi=>(F.fr i (by lia) (by lia) (by lia) (by lia)).trans (B.fr i hi),F.hl.trans B.hl⟩
theorem oT (r:Nat):(List.range (r+1)).map (dj X V Kx)=(List.range r).map (dj X V Kx)++[dj X V Kx r]:=by
 rw [OZ,N9];rfl
theorem oU (hr:r<M):(List.range (M-r)).map (λs=>dj X V Kx (M-1-s))=(List.range (M-(r+1))).map (λs=>dj X V Kx (M-1-s))++[dj X V Kx r]:=by
 rw [show M-r=(M-(r+1))+1 by lia,OZ,N9,NG,O8,show M-1-(M-(r+1))=r by lia]
theorem Kp (S:Hy M X V Kx ps) (hM:M<=1000) (hr:r<M) (B:At M X V Kx ps H0 hh (r+1)):∃ h',jz [.ref 0] hh = .ok .non h'/\At M X V Kx ps H0 h' r:=by
 obtain ⟨nx,eK,sn⟩:=S.st r hr
 obtain ⟨kx,H,l⟩:=B.ho
 rw [oT] at H;have lk2:∀ x,lk (upd kx (X r) (lk (Kx r) (X r))) x=lk (Kx r) x:=λx=>by
  rw [j7,l,eK,j7];by_cases q:X r=x
  ·rw [M8 q,q]
  ·rw [M9 q,M9 q]
 have ll:=v8 (oO H.nd (X r) (lk (Kx r) (X r))) (S.nd r (by lia)) lk2
 obtain ⟨h',f,H',F⟩:=J9 H nx (λv e=>S.tz r (by lia) _ (dQ e)) (by rw [ll];exact S.ct r (by lia)) (by simp<;>lia) (λe=>by
  rw [l,eK,j7,M8 rfl]
  cases q:V r with
  | some v=>rfl
  | none=>have:=sn q;rw [e] at this;cases this)
 exact ⟨h',f,B.fh F (by rw [oU hr];exact H') lk2⟩
theorem Kq (S:Hy M X V Kx ps) (hM:M<=1000) (hr:r<M) (B:At M X V Kx ps H0 hh r):∃ h',jA [.ref 0] hh = .ok .non h'/\At M X V Kx ps H0 h' (r+1):=by
 obtain ⟨nx,eK,sn⟩:=S.st r hr
 obtain ⟨kx,H,l⟩:=B.ho
 rw [oU hr] at H;have lk2:∀ x,lk (upd kx (X r) (V r)) x=lk (Kx (r+1)) x:=λx=>by
  rw [j7,eK,j7,l]
 have ll:=v8 (oO H.nd (X r) (V r)) (S.nd (r+1) (by lia)) lk2
 obtain ⟨h',f,H',F⟩:=Ka H nx (λv e=>S.tz (r+1) (by lia) (X r,v) (dQ (by rw [eK,j7,M8 rfl,e]))) (by rw [ll];exact S.ct (r+1) (by lia)) (by simp<;>lia) (λe=>by rw [l];exact sn e)
 exact ⟨h',f,B.fh F (by rw [oT];exact H') lk2⟩
theorem Bk {t:Nat} (ob:hh[0]? = some (.ins 1 [some (.ref p),some (.ref t),some (.ref (t+1)),some (.ref (t+2))])) {o:Out AV} (e:jz [.ref 0] hh=o) (ho:o = .ok .non h'\/o = .ex nV hh):iX [.ref 0,.tup [.str "back"]] hh=o:=by
 refine gh (P:=λz=>z=o) rfl ?_
 refine cu (x := "back") (P:=λz=>aR z=o) rfl (by decide +kernel) (cu (x := "back") (P:=λz=>aR z=o) rfl (by decide +kernel) (cu (x := "back") (P:=λz=>aR z=o) rfl (by decide +kernel) (cu (x := "back") (P:=λz=>aR z=o) rfl (by decide +kernel) (cu (x := "back") (P:=λz=>aR z=o) rfl (by decide +kernel) (cu (x := "back") (P:=λz=>aR z=o) rfl (by decide +kernel) (cu (x := "back") (P:=λz=>aR z=o) rfl (by decide +kernel) (cu (x := "back") (P:=λz=>aR z=o) rfl (by decide +kernel) ?_)))))))
 generalize jz=G at *;rcases ho with rfl | rfl<;>simp [ob,e,aR]
theorem Bl {t:Nat} (ob:hh[0]? = some (.ins 1 [some (.ref p),some (.ref t),some (.ref (t+1)),some (.ref (t+2))])) {o:Out AV} (e:jA [.ref 0] hh=o) (ho:o = .ok .non h'\/o = .ex nV hh):iX [.ref 0,.tup [.str "again"]] hh=o:=by
 refine gh (P:=λz=>z=o) rfl ?_
 refine cu (x := "again") (P:=λz=>aR z=o) rfl (by decide +kernel) (cu (x := "again") (P:=λz=>aR z=o) rfl (by decide +kernel) (cu (x := "again") (P:=λz=>aR z=o) rfl (by decide +kernel) (cu (x := "again") (P:=λz=>aR z=o) rfl (by decide +kernel) (cu (x := "again") (P:=λz=>aR z=o) rfl (by decide +kernel) (cu (x := "again") (P:=λz=>aR z=o) rfl (by decide +kernel) (cu (x := "again") (P:=λz=>aR z=o) rfl (by decide +kernel) ?_))))))
 have c:=v5 (y := "again") (x := "again") (V:=.tup [.str "again"]) (o0:=some (.ref 0)) (h:=hh) rfl
 rw [NQ rfl] at c;generalize aM (ah aG (ah aw (ae 1) (af (.int 0))) (af (.str "again")))=C at *;generalize jA=G at *;rcases ho with rfl | rfl<;>simp [ob,e,c,aR]
theorem rB {due:Str} {b:Bool} {t:Int} (B:At M X V Kx ps H0 hh r) (B':At M X V Kx ps H0 h' r') (nd:((Kx r').map (·.1)).Nodup) (eS:H0[14]? = some (.lst ((List.range (M+1)).map λj=>cN (Kx j)))) (hr':r'<=M) (hM:M<=1000) (e1:decide (w = "again")=b) (e2:(if b=true then (r:Int)+1 else (r:Int)-1)=t) (hd:due=(if 0<=t/\t<(M:Int)+1 then "" else "NothingDone")) (ew:ia [.ref 0,.tup [.str w]] hh = .ok (.str due) h') (et:(if due = "" then t else (r:Int))=r') :
  iZ [.ref 0,.str w,.int r,.ref 14] hh = .ok (.int r') h' := by
 obtain ⟨kx,H,_⟩:=B.ho
 obtain ⟨kx',H',l'⟩:=B'.ho
 have sh:=Bi H
 have sh' := Bi H'
 have mn:=Aj H.sh
 have mn' := Aj H'.sh
 have nb:=v9 H'
 rw [Ko H'.nd nd l'] at nb;have eS1:=(B.fr 14 (by lia)).trans eS
 have eS2:=(B'.fr 14 (by lia)).trans eS
 have ln:aJ [.ref 14] hh = .ok (.int ((M:Int)+1)) hh:=by
  simp only [aJ,eS1,Nc,Ol];rfl
 have ix:aw (.ref 14) (.int r') h' = .ok (cN (Kx r')) h' := by
  have:((List.range (M+1)).map λj=>cN (Kx j))[r']? = some (cN (Kx r')):=by
   rw [NK,Pe (by lia)];rfl
  simp only [aw,eS2,kz this]
 have nn:=Kn (Kx r') h'
 have nm:fR (.int ps.length) (.int ps.length) h' = .ok (.bl false) h' := by simp
 have q4:(ah aw (aN (aj (ah bH (ae 2) (af (.int 1))) (aj (ah aE (ae 2) (af (.int 1))) ag))) (aC bJ (aj (ah aG (ae 1) (af (.str "again"))) ag))) [some (.ref 0),some (.str w),some (.int r),some (.ref 14),none,none,none] hh = .ok (.int t) hh:=by
  have f:aG (.str w) (.str "again") hh = .ok (.bl b) hh:=by rw [<- e1];simp
  have a0:atI [AV.int ((r:Int)-1),.int (r+1)] 0=some (.int (r-1)):=rfl
  have a1:atI [AV.int ((r:Int)-1),.int (r+1)] 1=some (.int (r+1)):=rfl
  subst e2
  cases b<;>simp [f,a0,a1,-aG]
 have q5:(ah aw (aN (aj (af (.str "")) (aj (af (.str "NothingDone")) ag))) (aC bJ (aj (hE (dU bC dS (af (.int 0)) (ae 4) (aC aJ (aj (ae 3) ag)))) ag))) [some (.ref 0),some (.str w),some (.int r),some (.ref 14),some (.int t),none,none] hh = .ok (.str due) hh:=by
  have a0:atI [AV.str "",.str "NothingDone"] 0=some (.str ""):=rfl
  have a1:atI [AV.str "",.str "NothingDone"] 1=some (.str "NothingDone"):=rfl
  by_cases z0:0<=t
  ·by_cases z1:t<(M:Int)+1
   ·rw [M8 ⟨z0,z1⟩] at hd
    subst hd;simp [z0,z1,ln,a0,a1,-aJ]
   ·rw [M9 (λz=>z1 z.2)] at hd
    subst hd;simp [z0,z1,ln,a0,a1,-aJ]
  ·rw [M9 (λz=>z0 z.1)] at hd
   subst hd;simp [z0,a0,a1]
 have ob:=H.ob
 have ob' := H'.ob
 unfold iZ
 refine gh (P:=λz=>z = .ok (.int r') h') rfl ?_
 obtain ⟨PP,ePP⟩:∃ PP:OutS->Prop,PP=λz=>aR z = .ok (.int r') h' := ⟨_,rfl⟩
 have toP:∀ o,PP o->aR o = .ok (.int r') h' := λo z=>by rw [ePP] at z;exact z
 have ofP:PP (.rt (.int r') h'):=by rw [ePP];rfl
 clear ePP;refine toP _ ?_
 refine bQ (e2:=[some (.ref 0),some (.str w),some (.int r),some (.ref 14),some (.int t),none,none]) (h2:=hh) ?_ ?_
 ·generalize ah aw (aN (aj (ah bH (ae 2) (af (.int 1))) (aj (ah aE (ae 2) (af (.int 1))) ag))) (aC bJ (aj (ah aG (ae 1) (af (.str "again"))) ag))=Q at *
  simp [q4]
 refine bQ (e2:=[some (.ref 0),some (.str w),some (.int r),some (.ref 14),some (.int t),some (.str due),none]) (h2:=hh) ?_ ?_
 ·generalize ah aw (aN (aj (af (.str "")) (aj (af (.str "NothingDone")) ag))) (aC bJ (aj (hE (dU bC dS (af (.int 0)) (ae 4) (aC aJ (aj (ae 3) ag)))) ag))=Q at *
  simp [q5]
 refine bQ (e2:=[some (.ref 0),some (.str w),some (.int r),some (.ref 14),some (.int t),some (.str due),some (.int ps.length)]) (h2:=hh) ?_ ?_
 ·generalize lr=G at *
  generalize lq=G2 at *;have obp:=H.sh.ob
  simp [ob,sh,obp,mn]
 have nd0:fR (.str due) (.str due) h' = .ok (.bl false) h' := by simp
 refine dC (h1:=h') ?_ ?_
 ·generalize ia=G at *
  simp [ew,nd0,-fR]
 refine bQ (e2:=[some (.ref 0),some (.str w),some (.int r),some (.ref 14),some (.int r'),some (.str due),some (.int ps.length)]) (h2:=h') ?_ ?_
 ·by_cases z:due = ""
  ·rw [M8 z] at et
   subst et;simp [z]
  ·rw [M9 z] at et
   rw [<- et];simp [z]
 refine dC (h1:=h') ?_ ?_
 ·have obp:=H'.sh.ob
  generalize jB=G3 at *;generalize lr=G at *;generalize lq=G2 at *;generalize cN (Kx r')=NS at *;simp [nb,ix,nn,ob',sh',obp,mn',nm,-aw,-fR]
 exact gi (v:=.int r') (h' := h') (by simp) ofP
theorem Bm (S:Hy M X V Kx ps) (hM:M<=1000) (hr:r<=M) (eS:H0[14]? = some (.lst ((List.range (M+1)).map λj=>cN (Kx j)))) (B:At M X V Kx ps H0 hh r):∃ h',iZ [.ref 0,.str "back",.int r,.ref 14] hh = .ok (.int (r-1:Nat)) h'/\At M X V Kx ps H0 h' (r-1):=by
 obtain ⟨kx,H,l⟩:=B.ho
 have e1:decide (("back" : Str) = "again")=false:=by decide +kernel
 rcases Nat.eq_zero_or_pos r with rfl | h0
 ·have e:=Kb H
  exact ⟨hh,rB B B (S.nd 0 hr) eS hr hM e1 rfl (by rw [M9 (by simp)]) (Bj (Bk H.ob (h' := hh) e (.inr rfl))) (by rw [M9 (by decide +kernel)]),B⟩
 ·obtain ⟨s,rfl⟩:∃ s,r=s+1:=⟨r-1,by lia⟩
  obtain ⟨h',e,B'⟩:=Kp S hM hr B
  exact ⟨h',rB B B' (S.nd s (by lia)) eS (by lia) hM e1 rfl (by rw [M8 (by simp<;>lia)]) (rq (Bk H.ob e (.inl rfl))) (by rw [M8 rfl];simp<;>lia),B'⟩
theorem Kr (S:Hy M X V Kx ps) (hM:M<=1000) (hr:r<=M) (eS:H0[14]? = some (.lst ((List.range (M+1)).map λj=>cN (Kx j)))) (B:At M X V Kx ps H0 hh r):∃ r' h',r'<=M/\iZ [.ref 0,.str "again",.int r,.ref 14] hh = .ok (.int (r':Nat)) h'/\At M X V Kx ps H0 h' r' := by
 obtain ⟨kx,H,l⟩:=B.ho
 have e1:decide (("again" : Str) = "again")=true:=by decide +kernel
 by_cases h0:r=M
 ·subst h0
  rw [Nat.sub_self] at H;have e:=Kc H
  exact ⟨r,hh,hr,rB B B (S.nd r hr) eS hr hM e1 rfl (by rw [M9 (by simp<;>lia)]) (Bj (Bl H.ob (h' := hh) e (.inr rfl))) (by rw [M9 (by decide +kernel)]),B⟩
 ·obtain ⟨h',e,B'⟩:=Kq S hM (by lia) B
  exact ⟨r+1,h',by lia,rB B B' (S.nd _ (by lia)) eS (by lia) hM e1 rfl (by rw [M8 (by simp<;>lia)]) (rq (Bl H.ob e (.inl rfl))) (by rw [M8 rfl];simp),B'⟩
end
theorem Bn (k:Nat) (hh:AH):∀ l:List Str,bP (bK (k+1) hh) (l.map AV.str)=some (l.map PyData.str)
 | []=>rfl
 | d::l=>by
  have e:bK (k+1) hh (AV.str d)=some (.str d):=by cases k<;>rfl
  show (match bK (k+1) hh (AV.str d),bP (bK (k+1) hh) (l.map AV.str) with | some d,some ds=>some (d::ds) | _,_=>none)=_
  rw [e,Bn k hh l];rfl
theorem Bo (l:List Str) (hh:AH):aG (.fl (l.map AV.str)) (.fl []) hh = .ok (.bl (decide (l=[]))) hh:=by
 have d1:bK 8 hh (.fl (l.map AV.str))=some (.list (l.map PyData.str)):=by
  show (bP (bK 7 hh) (l.map AV.str)).map PyData.list=_
  rw [Bn 6];rfl
 have qq:gF (.fl (l.map AV.str)) (.fl []) hh=some (decide (l=[])):=by
  show (match bK 8 hh (.fl (l.map AV.str)),bK 8 hh (.fl []) with | some d,some e=>some (PyData.eqv d e) | _,_=>none)=_
  rw [d1];show some (PyData.eqv (.list _) (.list []))=_
  rw [PyData.eqv]
  cases l<;>rfl
 show (match gF (.fl (l.map AV.str)) (.fl []) hh with | some b=>Out.ok (AV.bl b) hh | none=>Out.bad)=_
 rw [qq]
def six:List Str:=["a", "ab", "b", "abcdefgh", "zz", "q"]
theorem Ks:∀ x∈six,bV x=true:=by decide +kernel
variable {xs:List AV}
theorem mT {v:AV} (e:xs[i]? = some v) (h:AH):aw (.fl xs) (.int i) h = .ok v h:=by
 simp only [aw,kz e]
abbrev Nm (odd:List AV) (v:AV):Prop:=v∈odd\/∃ x,v = .str x/\bV x=true
section
variable {h:AH} {L K:Nat} {kx:List (Str×Nat×Str)}
theorem oV (e:h[K]? = some (.dct false (kx.map (kG gS)))) (eL:∃ N:Int,h[L]? = some (.lst [.int N])) (KL:K≠L) (ct:kx.length<=50) (nm:∀ e∈kx,bV e.1=true) {odd:List AV} (o1:0<odd.length) (o2:odd.length<=20) :
  ∃ v h',fA [.ref L,.ref K,.fl odd] h = .ok v h'/\Fr L h h'/\Nm odd v:=by
 have F0:Fr L h h:=⟨λ_ _ _=>rfl,MZ _,eL⟩
 have so:=Bf e ct nm
 obtain ⟨W,eW⟩:∃ W,W=eI (kx.map (·.1)):=⟨_,rfl⟩
 have wm:∀ x∈W,bV x=true:=λx hx=>by
  rw [eW] at hx;obtain ⟨e,he,rfl⟩:=O7.mp ((gO _).mem_iff.mp hx)
  exact nm e he
 have wl:W.length<=50:=by rw [eW,(gO _).length_eq,Nc];exact ct
 rw [<- eW] at so;obtain ⟨kd,N1,hk,t1,F1⟩:=F0.take 8 (by decide) (by decide)
 have t1:bD [.ref L,.int 8] h = .ok (.int kd) (h.set L (.lst [.int N1])):=t1
 obtain ⟨h1,eh1⟩:∃ h1,h1=h.set L (.lst [.int N1]):=⟨_,rfl⟩
 rw [<- eh1] at t1 F1;obtain ⟨PP,ePP⟩:∃ PP:Out AV->Prop,PP=λo=>∃ v h',o = .ok v h'/\Fr L h h'/\Nm odd v:=⟨_,rfl⟩
 have toP:∀ o,PP o->∃ v h',o = .ok v h'/\Fr L h h'/\Nm odd v:=λo z=>by rw [ePP] at z;exact z
 have ofP:∀ v h',Fr L h h'->Nm odd v->PP (aR (.rt v h')):=λv h' a b=>by rw [ePP];exact ⟨v,h',rfl,a,b⟩
 clear ePP;refine toP _ (gh (P:=PP) rfl ?_)
 refine bQ (P:=λo=>PP (aR o)) (e2:=[some (.ref L),some (.ref K),some (.fl odd),some (.fl (W.map AV.str)),none]) (h2:=h) ?_ ?_
 ·have s:ql (ae 1) [some (.ref L),some (.ref K),some (.fl odd),none,none] h = .ok (.fl (W.map AV.str)) h:=so
  generalize W.map AV.str=Z at *;generalize ql (ae 1)=SK at *;simp [s]
 refine bQ (P:=λo=>PP (aR o)) (e2:=[some (.ref L),some (.ref K),some (.fl odd),some (.fl (W.map AV.str)),some (.int kd)]) (h2:=h1) ?_ ?_
 ·generalize W.map AV.str=Z at *
  generalize bD=G at *;simp [t1]
 have k0:(aM (ah aG (ae 4) (af (.int 0)))) [some (.ref L),some (.ref K),some (.fl odd),some (.fl (W.map AV.str)),some (.int kd)] h1 = .ok (decide (kd=0)) h1:=by
  by_cases z:kd=0
  ·subst z;simp
  ·have : ¬ (kd:Int)=0:=by lia
   simp [z]
 by_cases z0:kd=0
 ·obtain ⟨i,N2,hi,t2,F2⟩:=F1.take odd.length o1 (M6 o2 (by decide))
  have ev:odd[i]? = some odd[i]:=Ni hi
  have ix:=mT ev (h1.set L (.lst [.int N2]))
  have q:ah aw (ae 2) (aC bD (aj (ae 0) (aj (aC aJ (aj (ae 2) ag)) ag))) [some (.ref L),some (.ref K),some (.fl odd),some (.fl (W.map AV.str)),some (.int kd)] h1 = .ok odd[i] (h1.set L (.lst [.int N2])):=by
   generalize W.map AV.str=Z at *;generalize bD=G at *;generalize h1.set L (.lst [.int N2])=h2 at *;simp [t2,ix,-aw]
  rw [NQ z0] at k0;have s:∀ {a:SE} {b:SS} {en:En} {v:AV} {hx:AH},a en h1 = .ok v hx->(aM (ah aG (ae 4) (af (.int 0)))) en h1 = .ok true h1->ao (aS (aM (ah aG (ae 4) (af (.int 0)))) (ay a) aT) b en h1 = .rt v hx:=λ{a b en v hx} e1 e2=>by
   generalize aM (ah aG (ae 4) (af (.int 0)))=C at *;simp [e1,e2]
  rw [s q k0];exact ofP _ _ F2 (.inl (OI hi))
 rw [NF z0] at k0;refine dC (P:=λo=>PP (aR o)) k0 ?_
 have k3:(nz (aM (ah dS (ae 4) (af (.int 3)))) (aM (ah aG (ae 3) (aN ag)))) [some (.ref L),some (.ref K),some (.fl odd),some (.fl (W.map AV.str)),some (.int kd)] h1 = .ok (decide (kd<3) || decide (W=[])) h1:=by
  have q1:dS (.int kd) (.int 3) h1 = .ok (.bl (decide (kd<3))) h1:=J7 kd 3 h1
  have q2:=Bo W h1
  generalize decide (W=[])=bw at *;generalize decide (kd<3)=bk at *;generalize W.map AV.str=Z at *;generalize (kd:Int)=KD at *
  cases bk<;>cases bw<;>simp [q1,q2,-aG,-dS]
 by_cases z1:(decide (kd<3) || decide (W=[]))=true
 ·obtain ⟨i,N2,hi,t2,F2⟩:=F1.take 6 (by decide) (by decide)
  have t2:bD [.ref L,.int 6] h1 = .ok (.int i) (h1.set L (.lst [.int N2])):=t2
  have ev:(six.map AV.str)[i]? = some (.str six[i]):=by rw [NK,Ni (by exact hi)];rfl
  have ix:=mT ev (h1.set L (.lst [.int N2]))
  have sx:six.map AV.str=[.str "a",.str "ab",.str "b",.str "abcdefgh",.str "zz",.str "q"]:=rfl
  rw [sx] at ix;rw [z1] at k3;have q:ah aw (aN (aj (af (.str "a")) (aj (af (.str "ab")) (aj (af (.str "b")) (aj (af (.str "abcdefgh")) (aj (af (.str "zz")) (aj (af (.str "q")) ag))))))) (aC bD (aj (ae 0) (aj (af (.int 6)) ag))) [some (.ref L),some (.ref K),some (.fl odd),some (.fl (W.map AV.str)),some (.int kd)] h1 = .ok (.str six[i]) (h1.set L (.lst [.int N2])):=by
   generalize AV.str six[i]=SI at *;generalize W.map AV.str=Z at *;generalize bD=G at *;generalize h1.set L (.lst [.int N2])=h2 at *;simp [t2,ix,-aw]
  have s:∀ {a:SE} {c:SB} {b:SS} {en:En} {v:AV} {hx:AH},a en h1 = .ok v hx->c en h1 = .ok true h1->ao (aS c (ay a) aT) b en h1 = .rt v hx:=λ{a c b en v hx} e1 e2=>by simp [e1,e2]
  rw [s q k3];exact ofP _ _ F2 (.inr ⟨_,rfl,Ks _ (OI _)⟩)
 rw [Bool.not_eq_true] at z1;rw [z1] at k3;refine dC (P:=λo=>PP (aR o)) k3 ?_
 have w0:0<W.length:=by
  cases W with
  | nil=>simp at z1
  | cons x r=>simp
 obtain ⟨i,N2,hi,t2,F2⟩:=F1.take W.length w0 (M6 wl (by decide))
 have ev:(W.map AV.str)[i]? = some (.str W[i]):=by rw [NK,Ni hi];rfl
 have ix:=mT ev (h1.set L (.lst [.int N2]))
 have ln:aJ [.fl (W.map AV.str)] h1 = .ok (.int W.length) h1:=by
  show Out.ok (AV.int (W.map AV.str).length) h1=_
  rw [Nc]
 refine gi (P:=λo=>PP (aR o)) (v:=.str W[i]) (h' := h1.set L (.lst [.int N2])) ?_ (ofP _ _ F2 (.inr ⟨_,rfl,wm _ (OI hi)⟩))
 generalize AV.str W[i]=SI at *;generalize (W.length:Int)=WL at *;generalize W.map AV.str=Z at *;generalize bD=G at *;generalize h1.set L (.lst [.int N2])=h2 at *;simp [ln,t2,ix,-aw,-aJ]
abbrev jK (D:Nat):List AV:=[.str "",.str "A",.str "abcdefghi",.str "a1",.str "a ",.non,.int 7,.bl true,.fl [.str "a"],.tup [.str "a"],.ref D]
abbrev iH (D:Nat):List gw:=[.inl (.str ""),.inl (.str "A"),.inl (.str "abcdefghi"),.inl (.str "a1"),.inl (.str "a "),.inl .none,.inl (.int 7),.inl (.bool true),.inl (.list [.str "a"]),.inl (.tuple [.str "a"]),.inr D]
theorem Kt (e:h[D]? = some (.dct false [])):fY h (jK D)=some (iH D):=by
 have t:bK 8 h (.ref D)=none:=by
  show (match h[D]? with | some (.lst xs)=>(bP (bK 7 h) xs).map PyData.list | _=>none)=_
  rw [e]
 have d:gy h (.ref D)=some (.inr D):=by
  unfold gy
  rw [t];dsimp only;rw [e]
 have c:∀ {v:AV} {dd:PyData},bK 8 h v=some dd->gy h v=some (.inl dd):=λ{v dd} q=>by unfold gy;rw [q]
 simp only [fY,d,c (v:=.str "") rfl,c (v:=.str "A") rfl,c (v:=.str "abcdefghi") rfl,c (v:=.str "a1") rfl,c (v:=.str "a ") rfl,c (v:=.non) rfl,c (v:=.int 7) rfl,c (v:=.bl true) rfl,c (v:=.fl [.str "a"]) rfl,c (v:=.tup [.str "a"]) rfl]
theorem lI {v:AV} {t:gw} (e:h[D]? = some (.dct false [])) (ev:gy h v=some t) (c:(iH D).all (jy t)=true):dI v (.fl (jK D)) h = .ok (.bl ((iH D).any λe=>cB e t)) h:=by
 show (match gy h v,fY h (jK D) with | some t,some ts=>if ts.all (jy t)=true then Out.ok (AV.bl (ts.any λe=>cB e t)) h else .bad | _,_=>.bad)=_
 rw [ev,Kt e];dsimp only;rw [M8 c]
theorem wa {v:AV} (e:h[D]? = some (.dct false [])) (n:Nm (jK D) v):∃ b,dI v (.fl (jK D)) h = .ok (.bl b) h/\(b=false->∃ x,v = .str x/\bV x=true):=by
 have c:∀ {v:AV} {dd:PyData},bK 8 h v=some dd->gy h v=some (.inl dd):=λ{v dd} q=>by unfold gy;rw [q]
 have al:∀ d:PyData,(iH D).all (jy (.inl d))=true:=λd=>by simp [jy]
 rcases n with n | ⟨x,rfl,hx⟩
 ·refine ⟨true,?_,nofun⟩
  simp only [Np,OJ,Qr] at n
  have fin:∀ {v:AV} {d:PyData},bK 8 h v=some d->((iH D).any λe=>cB e (.inl d))=true->dI v (.fl (jK D)) h = .ok (.bl true) h:=λ{v d} q1 q2=>by rw [lI e (c q1) (al d),q2]
  rcases n with rfl | rfl | rfl | rfl | rfl | rfl | rfl | rfl | rfl | rfl | rfl
  ·exact fin rfl (by simp [cB,PyData.eqv])
  ·exact fin rfl (by simp [cB,PyData.eqv])
  ·exact fin rfl (by simp [cB,PyData.eqv])
  ·exact fin rfl (by simp [cB,PyData.eqv])
  ·exact fin rfl (by simp [cB,PyData.eqv])
  ·exact fin rfl (by simp [cB,PyData.eqv])
  ·exact fin rfl (by simp [cB,PyData.eqv])
  ·exact fin rfl (by simp [cB,PyData.eqv])
  ·exact fin rfl (by simp [cB,PyData.eqv,PyData.eqvAll])
  ·exact fin rfl (by simp [cB,PyData.eqv,PyData.eqvAll])
  ·have t:bK 8 h (.ref D)=none:=by
    show (match h[D]? with | some (.lst xs)=>(bP (bK 7 h) xs).map PyData.list | _=>none)=_
    rw [e]
   have d:gy h (.ref D)=some (.inr D):=by
    unfold gy
    rw [t];dsimp only;rw [e]
   rw [lI e d (by simp [jy])]
   simp [cB]
 ·exact ⟨_,lI e (c (v:=.str x) rfl) (al _),λ_=>⟨x,rfl,hx⟩⟩
end
def gt (kx:List (Str×Nat×Str)) (z:Str):Str:=((lk kx z).map (·.2)).getD ""
theorem lJ {z:Str} {v:Nat×Str} (l:lk kx z=some v):gt kx z=v.2:=by unfold gt;rw [l];rfl
theorem wb (e:h[K]? = some (.dct false (kx.map (kG gS)))) (z:Str):fy K (.str z) (.str "") h = .ok (.str (gt kx z)) h:=by
 have k1:d0 false (.str z)=true:=rfl
 simp only [fy,e,k1,O3,j4]
 unfold gt
 cases lk kx z<;>rfl
theorem rC (e:h[K]? = some (.dct false (kx.map (kG gS)))) (z:Str):dH (.str z) (.ref K) h = .ok (.bl (lk kx z).isNone) h:=by
 simp only [dH,kL,e,d0,keyOf?,j4]
 cases lk kx z<;>rfl
def Gv (L:Nat) (h:AH) (kx:List (Str×Nat×Str)) (F:Out AV):Prop :=
 ∃ (deed:AV) (due:Str) (pl:AV) (h':AH),F = .ok (.tup [deed,.str due,pl]) h'/\Fr L h h'/\(due = "" -> ∃ (x y:Str) (c:Nat) (k:AV) (r:List AV),pl = .str y/\deed = .tup (k :: .str x::r)/\bV x=true/\Gd kx deed x (some y) c/\c<=240000/\y.length<=1000)
theorem j9 {a b:Str} {k:Bool} {s:SE} (e:s en h = .ok (.bl k) h):ah aw (aN (aj (af (.str a)) (aj (af (.str b)) ag))) (aC bJ (aj s ag)) en h = .ok (.str (if k=true then b else a)) h:=by
 have a0:atI [AV.str a,.str b] 0=some (.str a):=rfl
 have a1:atI [AV.str a,.str b] 1=some (.str b):=rfl
 cases k<;>simp [e,a0,a1]
def lM (pl:AV):Prop:=∃ y,pl = .str y/\cf y=true/\y.length<=30
theorem Ku {pl:AV} (hp:lM pl\/pl∈[AV.non,.int 7,.str "a\t",.fl [.str "a"],.bl true,.str "\t"]) (o0 o1 o2 o3 o4 o5:Option AV) :
  ∃ k,(e7 (hE (fq "str" (ae 6))) (ah pV (af (.str "\t")) (ae 6))) [o0,o1,o2,o3,o4,o5,some pl] h = .ok (.bl k) h/\(k=false->lM pl):=by
 have st:∀ y:Str,(e7 (hE (fq "str" (ae 6))) (ah pV (af (.str "\t")) (ae 6))) [o0,o1,o2,o3,o4,o5,some (.str y)] h = .ok (.bl (!(Builtin.Str.occurrences y "\t" 0 y.length 1).isEmpty)) h:=λy=>by
  simp [jT]
 rcases hp with ⟨y,rfl,a,b⟩ | hp
 ·exact ⟨_,st y,λ_=>⟨y,rfl,a,b⟩⟩
 ·simp only [Np,OJ,Qr] at hp
  rcases hp with rfl | rfl | rfl | rfl | rfl | rfl
  ·exact ⟨true,by simp [jT],nofun⟩
  ·exact ⟨true,by simp [jT],nofun⟩
  ·have:(!(Builtin.Str.occurrences "a\t" "\t" 0 ("a\t" : Str).length 1).isEmpty)=true:=by decide +kernel
   exact ⟨true,by rw [st,this],nofun⟩
  ·exact ⟨true,by simp [jT],nofun⟩
  ·exact ⟨true,by simp [jT],nofun⟩
  ·have:(!(Builtin.Str.occurrences "\t" "\t" 0 ("\t" : Str).length 1).isEmpty)=true:=by decide +kernel
   exact ⟨true,by rw [st,this],nofun⟩
def gX:List AV:=[.str "",.str "A",.str "none"]
theorem rD {v:AV} (n:Nm gX v):∃ z,v = .str z/\z.length<=8:=by
 rcases n with n | ⟨x,rfl,hx⟩
 ·simp only [gX,Np,OJ,Qr] at n
  rcases n with rfl | rfl | rfl
  ·exact ⟨_,rfl,by decide⟩
  ·exact ⟨_,rfl,by decide⟩
  ·exact ⟨_,rfl,by decide⟩
 ·exact ⟨x,rfl,vW hx⟩
theorem Bp {a b:SE} {x y:Bool} (ha:a en h = .ok (.bl x) h) (hb:b en h = .ok (.bl y) h):e7 a b en h = .ok (.bl (x || y)) h:=by
 cases x<;>simp [ha,hb]
section
variable {P:OutS->Prop} {a b:SS} {c:SB} {x:SE} {en e2:En} {h h1 h2 h3:AH} {v:AV}
theorem oW (s:c en h = .ok true h1) (s1:x en h1 = .ok v h3) (r:P (.rt v h3)):P (ao (aS c (ay x) aT) b en h):=by
 have:ao (aS c (ay x) aT) b en h = .rt v h3:=by simp [s,s1]
 rw [this];exact r
theorem iI {w:OutS} (s:c en h = .ok true h1) (hw:a en h1=w) (hr:∃ v h3,w = .rt v h3) (r:P w):P (ao (aS c a aT) b en h):=by
 obtain ⟨v,h3,rfl⟩:=hr
 have:ao (aS c a aT) b en h = .rt v h3:=by simp [s,hw]
 rw [this];exact r
theorem bO (s:x en h = .ok v h2) (r:P (b (en.set i (some v)) h2)):P (ao (aB i x) b en h):=by
 have:ao (aB i x) b en h=b (en.set i (some v)) h2:=by simp [s]
 rw [this];exact r
end
theorem oX {a b c:SE} {x y z:AV} (ha:a en h = .ok x h) (hb:b en h = .ok y h) (hc:c en h = .ok z h):bu (aj a (aj b (aj c ag))) en h = .ok (.tup [x,y,z]) h:=by
 simp [ha,hb,hc]
theorem Kv (e:h[K]? = some (.dct false (kx.map (kG gS)))) (eL:∃ N:Int,h[L]? = some (.lst [.int N])) (KL:K≠L) (ct:kx.length<=50) (nm:∀ e∈kx,bV e.1=true/\e.2.2.length<=300):Gv L h kx (mF [.ref L,.ref K] h):=by
 have lK:=cL e
 obtain ⟨N0,eN0⟩:=eL
 have lL:=cL eN0
 obtain ⟨D,eD⟩:∃ D,D=h.length:=⟨_,rfl⟩
 obtain ⟨h0,eh0⟩:∃ h0,h0=h++[AO.dct false []]:=⟨_,rfl⟩
 have F0:Fr L h h0:=by rw [eh0];exact (⟨λ_ _ _=>rfl,MZ _,N0,eN0⟩:Fr L h h).app _
 have D0:h0[D]? = some (.dct false []):=by rw [eh0,eD];simp
 have n0:h0.length=D+1:=by rw [eh0,NL,eD];rfl
 have e0:=(F0.fr K lK KL).trans e
 have nm1:∀ e∈kx,bV e.1=true:=λe he=>(nm e he).1
 obtain ⟨v,h1,t1,F1,n1⟩:=oV e0 F0.ro KL ct nm1 (odd:=jK D) (show 0<11 by decide) (show 11<=20 by decide)
 obtain ⟨k3,N2,hk3,t2,F2⟩:=(⟨λ_ _ _=>rfl,MZ _,F1.ro⟩:Fr L h1 h1).take 3 (by decide) (by decide)
 have t2:bD [.ref L,.int 3] h1 = .ok (.int k3) (h1.set L (.lst [.int N2])):=t2
 obtain ⟨h2,eh2⟩:∃ h2,h2=h1.set L (.lst [.int N2]):=⟨_,rfl⟩
 rw [<- eh2] at t2 F2;have F02:=F0.trans (F1.trans F2)
 have F12:=F1.trans F2
 have e2:=(F02.fr K lK KL).trans e
 have D2:=(F12.fr D (by lia) (by lia)).trans D0
 obtain ⟨PP,ePP⟩:∃ PP:Out AV->Prop,PP=Gv L h kx:=⟨_,rfl⟩
 have toP:∀ o,PP o->Gv L h kx o:=λo z=>by rw [ePP] at z;exact z
 have ofP:∀ o,Gv L h kx o->PP o:=λo z=>by rw [ePP];exact z
 clear ePP;refine toP _ (gh (P:=PP) rfl ?_)
 have r1:∀ en:En,aN (aj (af (.str "")) (aj (af (.str "A")) (aj (af (.str "abcdefghi")) (aj (af (.str "a1")) (aj (af (.str "a ")) (aj (af .non) (aj (af (.int 7)) (aj (af (.bl true)) (aj (aN (aj (af (.str "a")) ag)) (aj (bu (aj (af (.str "a")) ag)) (aj (kJ false) ag))))))))))) en h = .ok (.fl (jK D)) h0:=λen=>by
  rw [eh0,eD];simp
 refine bO (P:=λo=>PP (aR o)) (r1 _) ?_
 obtain ⟨O,eO⟩:∃ O,O=AV.fl (jK D):=⟨_,rfl⟩
 rw [<- eO] at t1 ⊢;refine bO (P:=λo=>PP (aR o)) (v:=v) (h2:=h1) ?_ ?_
 ·generalize fA=G at *
  simp [t1]
 have c3:(aM (ah aG (aC bD (aj (ae 0) (aj (af (.int 3)) ag))) (af (.int 0)))) [some (.ref L),some (.ref K),some O,some v,none,none,none] h1 = .ok (decide (k3=0)) h2:=by
  generalize bD=G at *;by_cases z:k3=0
  ·subst z;simp [t2]
  ·have : ¬ (k3:Int)=0:=by lia
   simp [t2,z,this]
 obtain ⟨b2,i2,j2⟩:=wa D2 n1
 rw [<- eO] at i2;by_cases z3:k3=0
 ·rw [NQ z3] at c3
  obtain ⟨v2,h3,t3,F3,n3⟩:=oV e2 F2.ro KL ct nm1 (odd:=gX) (by decide) (by decide)
  obtain ⟨z,rfl,_⟩:=rD n3
  have F03:=F02.trans F3
  have e3:=(F03.fr K lK KL).trans e
  have D3:=((F12.trans F3).fr D (by lia) (by lia)).trans D0
  obtain ⟨b,ib,jb⟩:=wa D3 n1
  rw [<- eO] at ib;have ni:=rC e3 z
  have gk:=wb e3 z
  have du:=j9 (a := "") (b := "NoName") (Bp (a:=ah dI (ae 3) (ae 2)) (b:=ah dH (ae 4) (ae 1)) (en:=[some (.ref L),some (.ref K),some O,some v,some (.str z),none,none]) (h:=h3) (x:=b) (y:=(lk kx z).isNone) (by simp [ib]) (by simp [ni,-dH]))
  refine iI (P:=λo=>PP (aR o)) c3 (w:=.rt (.tup [.tup [.str "copy_of",v,.str z],.str (if (b || (lk kx z).isNone)=true then "NoName" else ""),.str (gt kx z)]) h3) ?_ ⟨_,_,rfl⟩ (ofP _ ⟨_,_,_,h3,rfl,F03,λhd=>?_⟩)
  ·refine bO (P:=λo=>o=_) (v:=.str z) (h2:=h3) ?_ (bO (P:=λo=>o=_) du ?_)
   ·have t3:fA [.ref L,.ref K,.fl [.str "",.str "A",.str "none"]] h2 = .ok (.str z) h3:=t3
    generalize fA=G at *;simp [t3]
   ·have sg:fz (ae 1) (ae 4) (af (.str "")) [some (.ref L),some (.ref K),some O,some v,some (.str z),some (.str (if (b || (lk kx z).isNone)=true then "NoName" else "")),none] h3 = .ok (.str (gt kx z)) h3:=by
     simp [fz,e3,gk]
    have tt:bu (aj (af (.str "copy_of")) (aj (ae 3) (aj (ae 4) ag))) [some (.ref L),some (.ref K),some O,some v,some (.str z),some (.str (if (b || (lk kx z).isNone)=true then "NoName" else "")),none] h3 = .ok (.tup [.str "copy_of",v,.str z]) h3:=oX rfl rfl rfl
    have:=oX (b:=ae 5) tt rfl sg
    show ay _ _ _=_
    unfold ay
    exact (congrArg (λo=>Out.go o _ _) this)
  ·cases hb:b with
   | true=>rw [hb,Bool.true_or,M8 rfl] at hd;exact absurd hd (by decide +kernel)
   | false =>
    obtain ⟨x,rfl,hx⟩:=jb hb
    cases hl:lk kx z with
    | none=>rw [hb,hl] at hd;exact absurd hd (by decide +kernel)
    | some w =>
     refine ⟨x,w.2,0,_,_,by rw [lJ hl],rfl,hx,.copy hx hl,by lia,?_⟩
     have:w.2.length<=300:=(nm _ (dQ hl)).2
     lia
 rw [NF z3] at c3;refine dC (P:=λo=>PP (aR o)) c3 ?_
 obtain ⟨N3,e3L⟩:=F2.ro
 obtain ⟨y,N4,fp,py,ly,_⟩:=JZ 30 (by decide) e3L
 have fp:mE [.ref L,.int 30] h2 = .ok (.str y) (h2.set L (.lst [.int N4])):=fp
 have F4:=(⟨λ_ _ _=>rfl,MZ _,N3,e3L⟩:Fr L h2 h2).set N4
 obtain ⟨h4,eh4⟩:∃ h4,h4=h2.set L (.lst [.int N4]):=⟨_,rfl⟩
 rw [<- eh4] at fp F4;refine bO (P:=λo=>PP (aR o)) (v:=.str y) (h2:=h4) ?_ ?_
 ·generalize mE=G at *
  simp [fp]
 obtain ⟨k10,N5,hk10,t5,F5⟩:=F4.take 10 (by decide) (by decide)
 have t5:bD [.ref L,.int 10] h4 = .ok (.int k10) (h4.set L (.lst [.int N5])):=t5
 obtain ⟨h5,eh5⟩:∃ h5,h5=h4.set L (.lst [.int N5]):=⟨_,rfl⟩
 rw [<- eh5] at t5 F5;obtain ⟨k6,N6,hk6,t6,F6⟩:=F5.take 6 (by decide) (by decide)
 have t6:bD [.ref L,.int 6] h5 = .ok (.int k6) (h5.set L (.lst [.int N6])):=t6
 obtain ⟨h6,eh6⟩:∃ h6,h6=h5.set L (.lst [.int N6]):=⟨_,rfl⟩
 rw [<- eh6] at t6 F6;have c10:(aM (ah aG (aC bD (aj (ae 0) (aj (af (.int 10)) ag))) (af (.int 0)))) [some (.ref L),some (.ref K),some O,some v,none,none,some (.str y)] h4 = .ok (decide (k10=0)) h5:=by
  generalize bD=G at *;by_cases z:k10=0
  ·subst z;simp [t5]
  ·have : ¬ (k10:Int)=0:=by lia
   simp [t5,z,this]
 obtain ⟨pl,h7,s7,F7,hp⟩:∃ pl h7,aS (aM (ah aG (aC bD (aj (ae 0) (aj (af (.int 10)) ag))) (af (.int 0)))) (aB 6 (ah aw (aN (aj (af .non) (aj (af (.int 7)) (aj (af (.str "a\t")) (aj (aN (aj (af (.str "a")) ag)) (aj (af (.bl true)) (aj (af (.str "\t")) ag))))))) (aC bD (aj (ae 0) (aj (af (.int 6)) ag))))) aT [some (.ref L),some (.ref K),some O,some v,none,none,some (.str y)] h4 = .nx [some (.ref L),some (.ref K),some O,some v,none,none,some pl] h7/\Fr L h2 h7/\(lM pl\/pl∈[AV.non,.int 7,.str "a\t",.fl [.str "a"],.bl true,.str "\t"]):=by
  by_cases z:k10=0
  ·rw [NQ z] at c10
   have ev:([AV.non,.int 7,.str "a\t",.fl [.str "a"],.bl true,.str "\t"]:List AV)[k6]? = some ([AV.non,.int 7,.str "a\t",.fl [.str "a"],.bl true,.str "\t"]:List AV)[k6]:=Ni hk6
   have ix:=mT ev h6
   have mm:([AV.non,.int 7,.str "a\t",.fl [.str "a"],.bl true,.str "\t"]:List AV)[k6]∈([AV.non,.int 7,.str "a\t",.fl [.str "a"],.bl true,.str "\t"]:List AV):=OI _
   generalize ([AV.non,.int 7,.str "a\t",.fl [.str "a"],.bl true,.str "\t"]:List AV)[k6]=pl at ix mm
   refine ⟨pl,h6,?_,F6,.inr mm⟩
   generalize aM (ah aG (aC bD (aj (ae 0) (aj (af (.int 10)) ag))) (af (.int 0)))=C at *;generalize bD=G at *;simp [c10,t6,ix,-aw]
  ·rw [NF z] at c10
   refine ⟨.str y,h5,?_,F5,.inl ⟨y,rfl,py,ly⟩⟩
   generalize aM (ah aG (aC bD (aj (ae 0) (aj (af (.int 10)) ag))) (af (.int 0)))=C at *;simp [c10]
 refine bQ (P:=λo=>PP (aR o)) s7 ?_
 obtain ⟨kb,dk,pk⟩:=Ku (h:=h7) hp (some (.ref L)) (some (.ref K)) (some O) (some v) none none
 have du:=j9 (a := "") (b := "NoText") dk
 refine bO (P:=λo=>PP (aR o)) du ?_
 have D7:=((F12.trans F7).fr D (by lia) (by lia)).trans D0
 obtain ⟨b,ib,jb⟩:=wa D7 n1
 rw [<- eO] at ib;have c7:∀ w,(aM (ah dI (ae 3) (ae 2))) [some (.ref L),some (.ref K),some O,some v,none,w,some pl] h7 = .ok b h7:=λw=>by simp [ib]
 obtain ⟨due,edue⟩:∃ due:Str,due=if b=true then ("NoName" : Str) else if kb=true then ("NoText" : Str) else ("" : Str):=⟨_,rfl⟩
 refine bQ (P:=λo=>PP (aR o)) (e2:=[some (.ref L),some (.ref K),some O,some v,none,some (.str due),some pl]) (h2:=h7) ?_ ?_
 ·have c8:=c7 (some (.str (if kb=true then "NoText" else "")))
  show aS (aM (ah dI (ae 3) (ae 2))) (aB 5 (af (.str "NoName"))) aT [some (.ref L),some (.ref K),some O,some v,none,some (.str (if kb=true then "NoText" else "")),some pl] h7=_
  generalize aM (ah dI (ae 3) (ae 2))=C at *;rw [edue]
  cases b<;>simp [c8]
 refine gi (P:=λo=>PP (aR o)) (v:=.tup [.tup [.str "give",v,pl],.str due,pl]) (h' := h7) ?_ (ofP _ ⟨_,_,_,h7,rfl,F02.trans F7,λhd=>?_⟩)
 ·simp
 ·rw [edue] at hd
  cases hb:b with
  | true=>rw [hb,M8 rfl] at hd;exact absurd hd (by decide +kernel)
  | false =>
   cases hkb:kb with
   | true=>rw [hb,hkb] at hd;exact absurd hd (by decide +kernel)
   | false =>
    obtain ⟨x,rfl,hx⟩:=jb hb
    obtain ⟨y',rfl,py',ly'⟩:=pk hkb
    exact ⟨x,y',2*y'.length,_,_,rfl,rfl,hx,.give hx py' (by lia),by lia,by lia⟩
theorem wc (i:Int) (h:AH):fk [.int 0,.int i] h = .ok (.int (i.toNat:Nat)) h:=by
 have:fk [.int 0,.int i] h = .ok (.int (if i > 0 then i else 0)) h:=rfl
 rw [this];congr 2
 split<;>lia
theorem Kw (k:Nat) (h:AH):lW [.int 3,.int k] h = .ok (.int (min 3 k:Nat)) h:=by
 have:lW [.int 3,.int k] h = .ok (.int (if (k:Int)<3 then (k:Int) else 3)) h:=rfl
 rw [this];congr 2
 split<;>lia
theorem rE {a b:SE} {u:Str} (ha:a en h = .ok (.str u) h) (hb:b en h = .ok (.str w) h):fW a b en h = .ok (.str (if u = "" then w else u)) h:=by
 by_cases q:u = ""
 ·subst q
  have:(("" : Str).length:Int)=0:=rfl
  simp [ha,hb,this]
 ·have : ¬ u.length=0:=λz=>q (cM (by rw [cS] at z;rw [OS.mp z];rfl))
  simp [ha,q,this]
theorem Bq (y:Str) (c:Nat) (h:AH):∃ z,dE (.str y) (some (c:Int)) none h = .ok (.str z) h/\z.length<=y.length/\(c<=y.length->z=dB y c):=by
 refine ⟨bY y (some (c:Int)) none,rfl,?_,λhc=>?_⟩
 ·simp [bY,Str.length];lia
 ·have:=AJ hc h
  have e:dE (.str y) (some (c:Int)) none h = .ok (.str (bY y (some (c:Int)) none)) h:=rfl
  rw [e] at this;injection this with a _
  injection a
theorem oY (h:AH) (hl:x.length+y.length<=5000):aE (.str x) (.str y) h = .ok (.str (x++y)) h:=by
 have:x.length+y.length<=sizeLine:=M6 hl (by decide)
 simp only [aE,this,O3]
theorem Br (nm:∀ e∈kx,bV e.1=true/\e.2.2.length<=300) (z:Str):(gt kx z).length<=300:=by
 unfold gt
 cases l:lk kx z with
 | none=>exact NB _
 | some v=>exact (nm _ (dQ l)).2
theorem none_of (h:o.isNone=false):∃ v,o=some v:=by
 cases o with
 | none=>cases h
 | some v=>exact ⟨v,rfl⟩
theorem Bs {b:Bool} (h:(if b=true then ("NoName" : Str) else ("" : Str)) = ""):b=false:=by
 cases b with
 | true=>exact absurd h (by decide +kernel)
 | false=>rfl
theorem rF {a:Str} {b:Bool} (n : ¬ a = "") (h:(if b=true then a else ("" : Str)) = ""):b=false:=by
 cases b with
 | true=>exact absurd h n
 | false=>rfl
theorem rG {u:Str} (h:(if u = "" then w else u) = ""):u = "" /\ w = "" := by
 by_cases q:u = ""
 ·rw [M8 q] at h;exact ⟨q,h⟩
 ·rw [M9 q] at h;exact absurd h q
abbrev oZ (L K:Nat) (kd:Int) (x z y1 y2 g b:Str) (a e:Int) (o11 o12:Option AV):En:=[some (.ref L),some (.ref K),some (.int kd),some (.str x),some (.str z),some (.str y1),some (.str y2),some (.str g),some (.str b),some (.int a),some (.int e),o11,o12]
theorem KA (e:h[K]? = some (.dct false (kx.map (kG gS)))) (eL:∃ N:Int,h[L]? = some (.lst [.int N])) (KL:K≠L) (ct:kx.length<=50) (nm:∀ e∈kx,bV e.1=true/\e.2.2.length<=300):Gv L h kx (mG [.ref L,.ref K] h):=by
 have lK:=cL e
 have nm1:∀ e∈kx,bV e.1=true:=λe he=>(nm e he).1
 have F0:Fr L h h:=⟨λ_ _ _=>rfl,MZ _,eL⟩
 obtain ⟨kd,N1,hk,t1,F1⟩:=F0.take 4 (by decide) (by decide)
 have t1:bD [.ref L,.int 4] h = .ok (.int kd) (h.set L (.lst [.int N1])):=t1
 obtain ⟨h1,eh1⟩:∃ h1,h1=h.set L (.lst [.int N1]):=⟨_,rfl⟩
 rw [<- eh1] at t1 F1;obtain ⟨v1,h2,t2,F2,n2⟩:=oV ((F1.fr K lK KL).trans e) F1.ro KL ct nm1 (odd:=gX) (by decide) (by decide)
 obtain ⟨x,rfl,lx⟩:=rD n2
 have F02:=F1.trans F2
 obtain ⟨v2,h3,t3,F3,n3⟩:=oV ((F02.fr K lK KL).trans e) F2.ro KL ct nm1 (odd:=gX) (by decide) (by decide)
 obtain ⟨z,rfl,lz⟩:=rD n3
 have t2:fA [.ref L,.ref K,.fl [.str "",.str "A",.str "none"]] h1 = .ok (.str x) h2:=t2
 have t3:fA [.ref L,.ref K,.fl [.str "",.str "A",.str "none"]] h2 = .ok (.str z) h3:=t3
 have F03:=F02.trans F3
 have e3:=(F03.fr K lK KL).trans e
 have g1:=wb e3 x
 have g2:=wb e3 z
 have ni1:=rC e3 x
 have ni2:=rC e3 z
 have l1:=Br nm x
 have l2:=Br nm z
 obtain ⟨y1,ey1⟩:∃ y1,y1=gt kx x:=⟨_,rfl⟩
 obtain ⟨y2,ey2⟩:∃ y2,y2=gt kx z:=⟨_,rfl⟩
 rw [<- ey1] at g1 l1;rw [<- ey2] at g2 l2;have len3:∀ hx,aJ [.str y1] hx = .ok (.int y1.length) hx:=λ_=>rfl
 have ad3:∀ hx,aE (.int y1.length) (.int 3) hx = .ok (.int ((y1.length+3:Nat):Int)) hx:=λhx=>oQ rfl hx
 obtain ⟨a,N4,ha,t4,F4⟩:=F03.take (y1.length+3) (by lia) (M6 (m:=303) (by lia) (by decide))
 obtain ⟨h4,eh4⟩:∃ h4,h4=h3.set L (.lst [.int N4]):=⟨_,rfl⟩
 rw [<- eh4] at t4 F4;obtain ⟨b,N5,hb,t5,F5⟩:=F4.take (y1.length+3) (by lia) (M6 (m:=303) (by lia) (by decide))
 obtain ⟨h5,eh5⟩:∃ h5,h5=h4.set L (.lst [.int N5]):=⟨_,rfl⟩
 rw [<- eh5] at t5 F5;obtain ⟨gn,egn⟩:∃ gn:Str,gn=if (lk kx x).isNone=true then ("NoName" : Str) else ("" : Str):=⟨_,rfl⟩
 obtain ⟨bo,ebo⟩:∃ bo:Str,bo=if ((lk kx x).isNone || (lk kx z).isNone)=true then ("NoName" : Str) else ("" : Str):=⟨_,rfl⟩
 have bo_ok:bo = "" -> ∃ v w,lk kx x=some v/\lk kx z=some w:=λq=>by
  rw [ebo] at q;have:=Bs q
  rw [Bool.or_eq_false_iff] at this;obtain ⟨v,ev⟩:=none_of this.1
  obtain ⟨w,ew⟩:=none_of this.2
  exact ⟨v,w,ev,ew⟩
 have gn_ok:gn = "" -> ∃ v,lk kx x=some v:=λq=>by
  rw [egn] at q;exact none_of (Bs q)
 obtain ⟨PP,ePP⟩:∃ PP:Out AV->Prop,PP=Gv L h kx:=⟨_,rfl⟩
 have toP:∀ o,PP o->Gv L h kx o:=λo z=>by rw [ePP] at z;exact z
 have ofP:∀ o,Gv L h kx o->PP o:=λo z=>by rw [ePP];exact z
 clear ePP;refine toP _ (gh (P:=PP) rfl ?_)
 refine bO (P:=λo=>PP (aR o)) (v:=.int kd) (h2:=h1) ?_ ?_
 ·generalize bD=G at *
  simp [t1]
 refine bO (P:=λo=>PP (aR o)) (v:=.str x) (h2:=h2) ?_ ?_
 ·generalize fA=G at *
  simp [t2]
 refine bO (P:=λo=>PP (aR o)) (v:=.str z) (h2:=h3) ?_ ?_
 ·generalize fA=G at *
  simp [t3]
 refine bO (P:=λo=>PP (aR o)) (v:=.str y1) (h2:=h3) ?_ ?_
 ·simp [fz,e3,g1]
 refine bO (P:=λo=>PP (aR o)) (v:=.str y2) (h2:=h3) ?_ ?_
 ·simp [fz,e3,g2]
 refine bO (P:=λo=>PP (aR o)) (v:=.str gn) (h2:=h3) ?_ ?_
 ·rw [egn]
  exact j9 (by simp [ni1,-dH])
 refine bO (P:=λo=>PP (aR o)) (v:=.str bo) (h2:=h3) ?_ ?_
 ·rw [ebo]
  exact j9 (Bp (by simp [ni1,-dH]) (by simp [ni2,-dH]))
 refine bO (P:=λo=>PP (aR o)) (v:=.int ((a:Int)-1)) (h2:=h4) ?_ ?_
 ·have sb:bH (.int a) (.int 1) h4 = .ok (.int ((a:Int)-1)) h4:=rfl
  have q1:=len3 h3
  have q2:=ad3 h3
  clear len3 ad3 t5;generalize ((y1.length+3:Nat):Int)=Y3 at *;generalize (y1.length:Int)=Y1 at *;generalize (a:Int)-1=A1 at *;generalize bD=G at *;simp [q1,q2,t4,sb,-bH,-aE,-aJ]
 refine bO (P:=λo=>PP (aR o)) (v:=.int ((b:Int)-1)) (h2:=h5) ?_ ?_
 ·have sb:bH (.int b) (.int 1) h5 = .ok (.int ((b:Int)-1)) h5:=rfl
  have q1:=len3 h4
  have q2:=ad3 h4
  clear len3 ad3 t4;generalize ((y1.length+3:Nat):Int)=Y3 at *;generalize (y1.length:Int)=Y1 at *;generalize (a:Int)-1=A1 at *;generalize (b:Int)-1=B1 at *;generalize bD=G at *;simp [q1,q2,t5,sb,-bH,-aE,-aJ]
 have ck:∀ c:Nat,(aM (ah aG (ae 2) (af (.int c)))) (oZ L K kd x z y1 y2 gn bo ((a:Int)-1) ((b:Int)-1) none none) h5 = .ok (decide (kd=c)) h5:=λc=>by
  by_cases q:kd=c
  ·subst q;simp
  ·have : ¬ (kd:Int)=c:=by lia
   simp [q,this]
 have nle:∀ {s t:Str},bV x=true->True:=λ_=>trivial
 have chain:∀ (u:Option AV) (w:Option AV),dU bC bC (af (.int 0)) (ae 9) (aC aJ (aj (ae 5) ag)) (oZ L K kd x z y1 y2 gn bo ((a:Int)-1) ((b:Int)-1) u w) h5 = .ok (.bl (decide (0<=(a:Int)-1) && decide ((a:Int)-1<=y1.length))) h5:=λu w=>by
  have q:=len3 h5
  generalize (a:Int)-1=A1 at *;generalize (y1.length:Int)=Y1 at *;by_cases z0:0<=A1<;>simp [z0,q,-aJ]
 have tka:(bW y1 (a-1)).length<=300:=by rw [vY];lia
 have at1:((a:Int)-1).toNat=a-1:=by lia
 have bt1:((b:Int)-1).toNat=b-1:=by lia
 have mxa:=wc ((a:Int)-1) h5
 rw [at1] at mxa;have mxb:=wc ((b:Int)-1) h5
 rw [bt1] at mxb;have cta:=vE (x:=y1) (a:=a-1) h5
 obtain ⟨da,cda,lda,oda⟩:=Bq y1 (a-1) h5
 obtain ⟨db,cdb,ldb,odb⟩:=Bq y1 (b-1) h5
 by_cases k0:kd=0
 ·have ad:=oY (x:=y1) (y:=y2) h5 (by lia)
  refine oW (P:=λo=>PP (aR o)) (h1:=h5) (v:=.tup [.tup [.str "join_to",.str x,.str z],.str bo,.str (y1++y2)]) (h3:=h5) ((ck 0).trans (by rw [NQ k0])) ?_ (ofP _ ⟨_,_,_,h5,rfl,F5,λhd=>?_⟩)
  ·simp [ad,-aE]
  ·obtain ⟨v,w,lv,lw⟩:=bo_ok hd
   rw [lJ lv] at ey1;have lv2:v.2.length<=300:=(nm _ (dQ lv)).2
   rw [lJ lw] at ey2;have lw2:w.2.length<=300:=(nm _ (dQ lw)).2
   rw [ey1,ey2];exact ⟨x,v.2++w.2,240000,_,_,rfl,rfl,nm1 _ (dQ lv),.join lv lw (by lia),MZ _,by rw [oR];lia⟩
 refine dC (P:=λo=>PP (aR o)) (h1:=h5) ((ck 0).trans (by rw [NF k0])) ?_
 by_cases k1:kd=1
 ·have ad:=oY (x:=bW y1 (a-1)) (y:=y2) h5 (by lia)
  have ad2:=oY (x:=bW y1 (a-1)++y2) (y:=da) h5 (by rw [oR];lia)
  obtain ⟨pb,epb⟩:∃ pb,pb = !(decide (0<=(a:Int)-1) && decide ((a:Int)-1<=y1.length)):=⟨_,rfl⟩
  have du:=rE (a:=ae 8) (b:=ah aw (aN (aj (af (.str "")) (aj (af (.str "NoPlace")) ag))) (aC bJ (aj (hE (dU bC bC (af (.int 0)) (ae 9) (aC aJ (aj (ae 5) ag)))) ag))) (en:=oZ L K kd x z y1 y2 gn bo ((a:Int)-1) ((b:Int)-1) none none) (h:=h5) (u:=bo) (w:=if pb=true then ("NoPlace" : Str) else ("" : Str)) rfl (j9 (by
   have:=chain none none
   rw [epb];generalize dU bC bC (af (.int 0)) (ae 9) (aC aJ (aj (ae 5) ag))=C at *;simp [this]))
  refine iI (P:=λo=>PP (aR o)) (h1:=h5) ((ck 1).trans (by rw [NQ k1])) (w:=.rt (.tup [.tup [.str "put_into",.str x,.int ((a:Int)-1),.str z],.str (if bo = "" then (if pb=true then ("NoPlace" : Str) else ("" : Str)) else bo),.str (bW y1 (a-1)++y2++da)]) h5) ?_ ⟨_,_,rfl⟩ (ofP _ ⟨_,_,_,h5,rfl,F5,λhd=>?_⟩)
  ·refine bO (P:=λo=>o=_) du ?_
   generalize (if bo = "" then (if pb=true then ("NoPlace" : Str) else ("" : Str)) else bo)=DU at *;generalize bW y1 (a-1)++y2++da=R at *;generalize bW y1 (a-1)++y2=R1 at *;generalize bW y1 (a-1)=R2 at *;generalize (a:Int)-1=A1 at *;generalize ((a-1:Nat):Int)=A2 at *;simp [mxa,cta,cda,ad,ad2,-fk,-dE,-aE]
  ·obtain ⟨q1,q2⟩:=rG hd
   have q3:=rF (by decide +kernel) q2
   obtain ⟨v,w,lv,lw⟩:=bo_ok q1
   rw [epb] at q3;simp only [Ro,NM,Ox] at q3
   have ea:(a:Int)-1=((a-1:Nat):Int):=by lia
   have ed:=oda (by lia)
   rw [ea,ed];rw [lJ lv] at ey1;have lv2:v.2.length<=300:=(nm _ (dQ lv)).2
   rw [lJ lw] at ey2;have lw2:w.2.length<=300:=(nm _ (dQ lw)).2
   have la:a-1<=v.2.length:=by rw [<- ey1];lia
   rw [ey1,ey2];exact ⟨x,bW v.2 (a-1)++w.2++dB v.2 (a-1),240000,_,_,rfl,rfl,nm1 _ (dQ lv),.put lv lw la (by lia),MZ _,by rw [oR,oR,vY,mP];lia⟩
 refine dC (P:=λo=>PP (aR o)) (h1:=h5) ((ck 1).trans (by rw [NF k1])) ?_
 by_cases k2:kd=2
 ·have ad:=oY (x:=bW y1 (a-1)) (y:=db) h5 (by lia)
  obtain ⟨pb,epb⟩:∃ pb,pb = !(decide (0<=(a:Int)-1) && (decide ((a:Int)-1<=(b:Int)-1) && decide ((b:Int)-1<=y1.length))):=⟨_,rfl⟩
  have du:=rE (a:=ae 7) (b:=ah aw (aN (aj (af (.str "")) (aj (af (.str "NoPlace")) ag))) (aC bJ (aj (hE (kT bC bC bC (af (.int 0)) (ae 9) (ae 10) (aC aJ (aj (ae 5) ag)))) ag))) (en:=oZ L K kd x z y1 y2 gn bo ((a:Int)-1) ((b:Int)-1) none none) (h:=h5) (u:=gn) (w:=if pb=true then ("NoPlace" : Str) else ("" : Str)) rfl (j9 (by
   have q:=len3 h5
   rw [epb];generalize (a:Int)-1=A1 at *;generalize (b:Int)-1=B1 at *;generalize (y1.length:Int)=Y1 at *;by_cases z0:0<=A1
   ·by_cases z1:A1<=B1<;>simp [z0,z1,q,-aJ]
   ·simp [z0]))
  refine iI (P:=λo=>PP (aR o)) (h1:=h5) ((ck 2).trans (by rw [NQ k2])) (w:=.rt (.tup [.tup [.str "take_from",.str x,.int ((a:Int)-1),.int ((b:Int)-1)],.str (if gn = "" then (if pb=true then ("NoPlace" : Str) else ("" : Str)) else gn),.str (bW y1 (a-1)++db)]) h5) ?_ ⟨_,_,rfl⟩ (ofP _ ⟨_,_,_,h5,rfl,F5,λhd=>?_⟩)
  ·refine bO (P:=λo=>o=_) du ?_
   generalize (if gn = "" then (if pb=true then ("NoPlace" : Str) else ("" : Str)) else gn)=DU at *;generalize bW y1 (a-1)++db=R1 at *;generalize bW y1 (a-1)=R2 at *;generalize (a:Int)-1=A1 at *;generalize ((a-1:Nat):Int)=A2 at *;generalize (b:Int)-1=B1 at *;generalize ((b-1:Nat):Int)=B2 at *;simp [mxa,cta,mxb,cdb,ad,-fk,-dE,-aE]
  ·obtain ⟨q1,q2⟩:=rG hd
   have q3:=rF (by decide +kernel) q2
   obtain ⟨v,lv⟩:=gn_ok q1
   rw [epb] at q3;simp only [Ro,NM,Ox] at q3
   have ea:(a:Int)-1=((a-1:Nat):Int):=by lia
   have eb:(b:Int)-1=((b-1:Nat):Int):=by lia
   have ed:=odb (by lia)
   rw [ea,eb,ed];rw [lJ lv] at ey1;have lv2:v.2.length<=300:=(nm _ (dQ lv)).2
   have la:b-1<=v.2.length:=by rw [<- ey1];lia
   rw [ey1];exact ⟨x,bW v.2 (a-1)++dB v.2 (b-1),240000,_,_,rfl,rfl,nm1 _ (dQ lv),.take lv (by lia) la (by lia),MZ _,by rw [oR,vY,mP];lia⟩
 refine dC (P:=λo=>PP (aR o)) (h1:=h5) ((ck 2).trans (by rw [NF k2])) ?_
 obtain ⟨i,N6,hi,t6,F6⟩:=F5.take 6 (by decide) (by decide)
 have t6:bD [.ref L,.int 6] h5 = .ok (.int i) (h5.set L (.lst [.int N6])):=t6
 obtain ⟨h6,eh6⟩:∃ h6,h6=h5.set L (.lst [.int N6]):=⟨_,rfl⟩
 rw [<- eh6] at t6 F6;obtain ⟨mxn,emx,mx1,mx2⟩:∃ mxn:Nat,fk [.int 1,.int y1.length] h5 = .ok (.int mxn) h5/\1<=mxn/\mxn<=300:=by
  refine ⟨max 1 y1.length,?_,by lia,by lia⟩
  have:fk [.int 1,.int y1.length] h5 = .ok (.int (if (y1.length:Int) > 1 then (y1.length:Int) else 1)) h5:=rfl
  rw [this];congr 2
  split<;>lia
 obtain ⟨Bg,eBg⟩:∃ Bg:Nat,Bg=1000000000000000000 / mxn+1:=⟨_,rfl⟩
 have Bg1:Bg<=1000000000000000001:=by rw [eBg];have:=Nat.div_le_self 1000000000000000000 mxn;lia
 have dv:cg (.int 1000000000000000000) (.int mxn) h5 = .ok (.int ((1000000000000000000 / mxn:Nat):Int)) h5:=by
  have c:(0:Int)<mxn/\(mxn:Int).natAbs<2 ^ 200:=⟨by lia,Nl (m:=300) (by lia) (by decide)⟩
  show (if (0:Int)<mxn/\(mxn:Int).natAbs<2 ^ 200 then Out.ok (AV.int (1000000000000000000 / (mxn:Int))) h5 else .bad)=_
  rw [M8 c];rfl
 have pw:cx (.int 10) (.int 18) h5 = .ok (.int 1000000000000000000) h5:=by simp [cx]
 have ad1:aE (.int ((1000000000000000000 / mxn:Nat):Int)) (.int 1) h5 = .ok (.int Bg) h5:=oQ eBg.symm h5
 obtain ⟨mv,emv,hmv⟩:∃ mv:Int,([.int 0,.int 1,.int 2,.int 3,.int (-1),.int Bg]:List AV)[i]? = some (.int mv)/\mv<=1000000000000000001:=by
  rcases (show i=0\/i=1\/i=2\/i=3\/i=4\/i=5 by lia) with rfl | rfl | rfl | rfl | rfl | rfl
  ·exact ⟨_,rfl,by decide⟩
  ·exact ⟨_,rfl,by decide⟩
  ·exact ⟨_,rfl,by decide⟩
  ·exact ⟨_,rfl,by decide⟩
  ·exact ⟨_,rfl,by decide⟩
  ·exact ⟨_,rfl,by lia⟩
 have ixm:=mT emv h6
 refine bO (P:=λo=>PP (aR o)) (v:=.int mv) (h2:=h6) ?_ ?_
 ·have q:=len3 h5
  have ng:fQ (.int 1) h5 = .ok (.int (-1)) h5:=rfl
  clear mxa mxb cta cda cdb chain ck;generalize ((1000000000000000000 / mxn:Nat):Int)=Q1 at *;generalize (1000000000000000000:Int)=Q2 at *;generalize (y1.length:Int)=Y1 at *;generalize (a:Int)-1=A1 at *;generalize (b:Int)-1=B1 at *;generalize (-1:Int)=M1 at *;generalize bD=G at *;simp [ng,pw,q,emx,dv,ad1,t6,ixm,-fQ,-cx,-aJ,-fk,-cg,-aE,-aw]
 obtain ⟨p3,ep3⟩:∃ p3,p3=(decide (3<mv) && !decide (y1 = "")):=⟨_,rfl⟩
 have du:=rE (a:=ae 7) (b:=fW (ah aw (aN (aj (af (.str "")) (aj (af (.str "NoPlace")) ag))) (aC bJ (aj (ah dS (ae 12) (af (.int 0))) ag))) (ah aw (aN (aj (af (.str "")) (aj (af (.str "TooLong")) ag))) (aC bJ (aj (jS (ah eZ (ae 12) (af (.int 3))) (ah fR (ae 5) (af (.str "")))) ag)))) (en:=oZ L K kd x z y1 y2 gn bo ((a:Int)-1) ((b:Int)-1) none (some (.int mv))) (h:=h6) (u:=gn) rfl (rE (u:=if decide (mv<0)=true then ("NoPlace" : Str) else ("" : Str)) (w:=if p3=true then ("TooLong" : Str) else ("" : Str)) (j9 (by simp)) (j9 (by
  rw [ep3];by_cases q:3<mv
  ·by_cases w:y1 = "" <;> simp [q,w]
  ·simp [q])))
 refine bO (P:=λo=>PP (aR o)) du ?_
 have mxm:=wc mv h6
 have mnm:=Kw mv.toNat h6
 have ml:nQ (.str y1) (.int (min 3 mv.toNat:Nat)) h6 = .ok (.str (bE y1 (min 3 mv.toNat))) h6:=by
  have c:((min 3 mv.toNat:Nat):Int).natAbs<2 ^ 40/\y1.length*((min 3 mv.toNat:Nat):Int).toNat<=1000000:=by
   refine ⟨Nl (m:=3) (by lia) (by decide),M6 (Pv l1 (show ((min 3 mv.toNat:Nat):Int).toNat<=3 by lia)) (by decide)⟩
  show (if _ then _ else _)=_
  rw [M8 c];rfl
 obtain ⟨DU,eDU⟩:∃ DU:Str,DU=(if gn = "" then (if (if decide (mv<0)=true then ("NoPlace" : Str) else ("" : Str)) = "" then (if p3=true then ("TooLong" : Str) else ("" : Str)) else (if decide (mv<0)=true then ("NoPlace" : Str) else ("" : Str))) else gn):=⟨_,rfl⟩
 rw [<- eDU];refine gi (P:=λo=>PP (aR o)) (v:=.tup [.tup [.str "repeat",.str x,.int mv],.str DU,.str (bE y1 (min 3 mv.toNat))]) (h' := h6) ?_ (ofP _ ⟨_,_,_,h6,rfl,F6,λhd=>?_⟩)
 ·generalize bE y1 (min 3 mv.toNat)=R at *
  generalize ((min 3 mv.toNat:Nat):Int)=Q1 at *;generalize ((mv.toNat:Nat):Int)=Q2 at *;generalize (a:Int)-1=A1 at *;generalize (b:Int)-1=B1 at *;simp [mxm,mnm,ml,-fk,-lW,-nQ]
 ·rw [eDU] at hd
  obtain ⟨q1,q2⟩:=rG hd
  obtain ⟨q2,q3⟩:=rG q2
  have q2:=rF (by decide +kernel) q2
  have q3:=rF (by decide +kernel) q3
  rw [Qs] at q2;obtain ⟨v,lv⟩:=gn_ok q1
  obtain ⟨k,rfl⟩:∃ k:Nat,mv=k:=⟨mv.toNat,by lia⟩
  rw [ep3] at q3;rw [Ru];rw [lJ lv] at ey1;have nx:=nm1 _ (dQ lv)
  by_cases c3:k<=3
  ·rw [show min 3 k=k by lia,ey1]
   refine ⟨x,bE v.2 k,240000,_,_,rfl,rfl,nx,.rep lv (Nl (m:=3) c3 (by decide)) ?_,MZ _,?_⟩
   ·rw [<- ey1];exact M6 (Pv l1 c3) (by decide)
   ·rw [rj,<- ey1];exact M6 (Pv l1 c3) (by decide)
  ·have:y1 = "" := by
    rw [NQ (show (3:Int)<k by lia),Bool.true_and] at q3
    simpa using q3
   rw [this,vI];obtain ⟨n,y⟩:=v
   have ey:y = "" := ey1.symm.trans this
   subst ey;exact ⟨x, "",240000,_,_,rfl,rfl,nx,.rep0 lv (Nl (m:=1000000000000000001) (by lia) (by decide)),MZ _,NB _⟩
def Dz (L:Nat) (h:AH) (kx:List (Str×Nat×Str)) (F:Out AV):Prop :=
 ∃ (deed:AV) (due:Str) (K':Nat) (h':AH),F = .ok (.tup [deed,.str due,.ref K']) h'/\Fr L h h'/\(due = "" -> ∃ (x:Str) (oy:Option Str) (c:Nat),Gd kx deed x oy c/\c<=240000/\h.length<=K'/\(∀ o:Option (Nat×Str),o.map (·.2)=oy->h'[K']? = some (.dct false ((upd kx x o).map (kG gS))))/\∀ y,oy=some y->y.length<=300)
theorem Bt {kvs:List (AV×AV)} (e:h[K]? = some (.dct false kvs)):jY [.ref K] h = .ok (.ref h.length) (h++[.dct false kvs]):=by
 simp only [jY,e]
theorem KC (e:h[K]? = some (.dct false (kx.map (kG gS)))) (eL:∃ N:Int,h[L]? = some (.lst [.int N])) (KL:K≠L) (ct:kx.length<=50) (nm:∀ e∈kx,bV e.1=true/\e.2.2.length<=300):Dz L h kx (nW [.ref L,.ref K] h):=by
 have lK:=cL e
 have nm1:∀ e∈kx,bV e.1=true:=λe he=>(nm e he).1
 have F0:Fr L h h:=⟨λ_ _ _=>rfl,MZ _,eL⟩
 obtain ⟨N0,eN0⟩:=eL
 have lL:=cL eN0
 obtain ⟨kd,N1,hk,t1,F1⟩:=F0.take 8 (by decide) (by decide)
 have t1:bD [.ref L,.int 8] h = .ok (.int kd) (h.set L (.lst [.int N1])):=t1
 obtain ⟨h1,eh1⟩:∃ h1,h1=h.set L (.lst [.int N1]):=⟨_,rfl⟩
 rw [<- eh1] at t1 F1;have e1:=(F1.fr K lK KL).trans e
 obtain ⟨PP,ePP⟩:∃ PP:Out AV->Prop,PP=Dz L h kx:=⟨_,rfl⟩
 have toP:∀ o,PP o->Dz L h kx o:=λo z=>by rw [ePP] at z;exact z
 have ofP:∀ o,Dz L h kx o->PP o:=λo z=>by rw [ePP];exact z
 clear ePP;refine toP _ (gh (P:=PP) rfl ?_)
 refine bO (P:=λo=>PP (aR o)) (v:=.int kd) (h2:=h1) ?_ ?_
 ·generalize bD=G at *
  simp [t1]
 have ck:(aM (ah aG (ae 2) (af (.int 0)))) [some (.ref L),some (.ref K),some (.int kd),none,none,none,none,none,none] h1 = .ok (decide (kd=0)) h1:=by
  by_cases q:kd=0
  ·subst q;simp
  ·have : ¬ (kd:Int)=0:=by lia
   simp [q,this]
 by_cases k0:kd=0
 ·obtain ⟨v1,h2,t2,F2,n2⟩:=oV e1 F1.ro KL ct nm1 (odd:=gX) (by decide) (by decide)
  obtain ⟨x,rfl,lx⟩:=rD n2
  have t2:fA [.ref L,.ref K,.fl [.str "",.str "A",.str "none"]] h1 = .ok (.str x) h2:=t2
  have F02:=F1.trans F2
  have e2:=(F02.fr K lK KL).trans e
  have ni:=rC e2 x
  rw [NQ k0] at ck
  cases lx':lk kx x with
  | none =>
   rw [lx'] at ni;refine iI (P:=λo=>PP (aR o)) (h1:=h1) ck (w:=.rt (.tup [.tup [.str "drop",.str x],.str "NoName",.ref K]) h2) ?_ ⟨_,_,rfl⟩ (ofP _ ⟨_,_,_,h2,rfl,F02,λhd=>absurd hd (by decide +kernel)⟩)
   refine bO (P:=λo=>o=_) (v:=.str x) (h2:=h2) ?_ ?_
   ·generalize fA=G at *
    simp [t2]
   refine oW (P:=λo=>o=_) (h1:=h2) (v:=.tup [.tup [.str "drop",.str x],.str "NoName",.ref K]) (h3:=h2) ?_ ?_ rfl
   ·have ni:dH (.str x) (.ref K) h2 = .ok (.bl true) h2:=ni
    simp [ni,-dH]
   ·simp
  | some v =>
   rw [lx'] at ni;have dc:=Bt e2
   obtain ⟨h3,eh3⟩:∃ h3,h3=h2++[AO.dct false (kx.map (kG gS))]:=⟨_,rfl⟩
   obtain ⟨K',eK'⟩:∃ K',K'=h2.length:=⟨_,rfl⟩
   rw [<- eh3,<- eK'] at dc;have e3:h3[K']? = some (.dct false (kx.map (kG gS))):=by rw [eh3,eK'];simp
   have hl:=F02.hl
   obtain ⟨h4,eh4⟩:∃ h4,h4=h3.set K' (.dct false ((j5 kx x).map (kG gS))):=⟨_,rfl⟩
   have F3:Fr L h h3:=by rw [eh3];exact F02.app _
   have F4:Fr L h h4:=by
    obtain ⟨N,eN⟩:=F3.ro
    have l3:=F3.hl
    exact ⟨λi hi n=>by rw [eh4,M5 (by lia)];exact F3.fr i hi n,by rw [eh4,NW];exact l3,N,by rw [eh4,M5 (by lia)];exact eN⟩
   have e4:h4[K']? = some (.dct false ((j5 kx x).map (kG gS))):=by rw [eh4];exact Na (cL e3)
   refine iI (P:=λo=>PP (aR o)) (h1:=h1) ck (w:=.rt (.tup [.tup [.str "drop",.str x],.str "",.ref K']) h4) ?_ ⟨_,_,rfl⟩ (ofP _ ⟨_,_,_,h4,rfl,F4,λ_=>⟨x,none,0,.drop lx',by lia,by lia,λo eo=>?_,nofun⟩⟩)
   ·refine bO (P:=λo=>o=_) (v:=.str x) (h2:=h2) ?_ ?_
    ·generalize fA=G at *
     simp [t2]
    refine dC (P:=λo=>o=_) (h1:=h2) ?_ ?_
    ·have ni:dH (.str x) (.ref K) h2 = .ok (.bl false) h2:=ni
     simp [ni,-dH]
    refine bO (P:=λo=>o=_) (v:=.ref K') (h2:=h3) ?_ ?_
    ·generalize jY=G at *
     simp [dc]
    refine bQ (P:=λo=>o=_) (e2:=[some (.ref L),some (.ref K),some (.int kd),some (.str x),some (.ref K'),none,none,none,none]) (h2:=h4) ?_ ?_
    ·have k1:d0 false (.str x)=true:=rfl
     have dp:iV (ae 4) (ae 3) [some (.ref L),some (.ref K),some (.int kd),some (.str x),some (.ref K'),none,none,none,none] h3 = .ok (gS v) h4:=by
      have a1:ae 4 [some (.ref L),some (.ref K),some (.int kd),some (.str x),some (.ref K'),none,none,none,none] h3 = .ok (.ref K') h3:=rfl
      have a2:ae 3 [some (.ref L),some (.ref K),some (.int kd),some (.str x),some (.ref K'),none,none,none,none] h3 = .ok (.str x) h3:=rfl
      simp only [iV,a1,a2,Out.bind,e3,k1,O3,j4,lx',Option.map]
      rw [AX,eh4]
     show bI (iV (ae 4) (ae 3)) [some (.ref L),some (.ref K),some (.int kd),some (.str x),some (.ref K'),none,none,none,none] h3=_
     generalize iV (ae 4) (ae 3)=SP at *;simp [dp]
    ·simp
   ·obtain rfl:o=none:=by
     cases o with
     | none=>rfl
     | some w=>cases eo
    exact e4
 rw [NF k0] at ck;refine dC (P:=λo=>PP (aR o)) (h1:=h1) ck ?_
 obtain ⟨G,eG,hG⟩:∃ G:Fn,Gv L h1 kx (G [.ref L,.ref K] h1)/\gP mF mG (aC bJ (aj (ah eZ (ae 2) (af (.int 3))) ag)) (aj (ae 0) (aj (ae 1) ag)) [some (.ref L),some (.ref K),some (.int kd),none,none,none,none,none,none] h1=G [.ref L,.ref K] h1:=by
  have ap:∀ G:Fn,aC G (aj (ae 0) (aj (ae 1) ag)) [some (.ref L),some (.ref K),some (.int kd),none,none,none,none,none,none] h1=G [.ref L,.ref K] h1:=λG=>by simp
  by_cases z:3<kd
  ·refine ⟨mG,KA e1 F1.ro KL ct nm,?_⟩
   have i:aC bJ (aj (ah eZ (ae 2) (af (.int 3))) ag) [some (.ref L),some (.ref K),some (.int kd),none,none,none,none,none,none] h1 = .ok (.int 1) h1:=by
    have:(3:Int)<kd:=by lia
    simp [this]
   simp only [gP,i,Out.bind]
   exact ap _
  ·refine ⟨mF,Kv e1 F1.ro KL ct nm,?_⟩
   have i:aC bJ (aj (ah eZ (ae 2) (af (.int 3))) ag) [some (.ref L),some (.ref K),some (.int kd),none,none,none,none,none,none] h1 = .ok (.int 0) h1:=by
    have : ¬ (3:Int)<kd:=by lia
    simp [this]
   simp only [gP,i,Out.bind]
   exact ap _
 obtain ⟨deed,due,pl,h2,eg,F2,gd⟩:=eG
 rw [eg] at hG;have F02:=F1.trans F2
 refine bQ (P:=λo=>PP (aR o)) (e2:=[some (.ref L),some (.ref K),some (.int kd),none,none,some deed,some (.str due),some pl,none]) (h2:=h2) ?_ ?_
 ·generalize gP mF mG (aC bJ (aj (ah eZ (ae 2) (af (.int 3))) ag)) (aj (ae 0) (aj (ae 1) ag))=SS at *
  simp [hG]
 obtain ⟨deed',pl',s4,gd'⟩:∃ deed' pl',aS (kK (aM (ah aG (ae 6) (af (.str "")))) (aM (ah eZ (aC aJ (aj (ae 7) ag)) (af (.int 300))))) (qr 5 6 7 (aj (bu (aj (af (.str "give")) (aj (ah aw (ae 5) (af (.int 1))) (aj (af (.str "long")) ag)))) (aj (af (.str "")) (aj (af (.str "long")) ag)))) aT [some (.ref L),some (.ref K),some (.int kd),none,none,some deed,some (.str due),some pl,none] h2 = .nx [some (.ref L),some (.ref K),some (.int kd),none,none,some deed',some (.str due),some pl',none] h2 /\
   (due = "" -> ∃ (x y:Str) (c:Nat) (k:AV) (r:List AV),pl' = .str y/\deed' = .tup (k :: .str x::r)/\Gd kx deed' x (some y) c/\c<=240000/\y.length<=300):=by
  by_cases hd:due = ""
  ·obtain ⟨x,y,c,k,r,rfl,rfl,hx,g,hc,hy⟩:=gd hd
   subst hd;by_cases ly:300<y.length
   ·refine ⟨.tup [.str "give",.str x,.str "long"],.str "long",?_,λ_=>⟨x, "long",_,_,_,rfl,rfl,.give hx (by decide +kernel) (by decide),by decide,by decide⟩⟩
    have a1:atI (k :: .str x::r) 1=some (.str x):=kz (j:=1) rfl
    have l2:(300:Int)<y.length:=by lia
    simp [l2,a1,qr]
   ·refine ⟨_,_,?_,λ_=>⟨x,y,c,k,r,rfl,rfl,g,hc,by lia⟩⟩
    have l2 : ¬ (300:Int)<y.length:=by lia
    simp [l2]
  ·exact ⟨deed,pl,by simp [hd],λz=>absurd z hd⟩
 refine bQ (P:=λo=>PP (aR o)) s4 ?_
 have e2:=(F02.fr K lK KL).trans e
 have dc:=Bt e2
 obtain ⟨h3,eh3⟩:∃ h3,h3=h2++[AO.dct false (kx.map (kG gS))]:=⟨_,rfl⟩
 obtain ⟨K',eK'⟩:∃ K',K'=h2.length:=⟨_,rfl⟩
 rw [<- eh3,<- eK'] at dc;have e3:h3[K']? = some (.dct false (kx.map (kG gS))):=by rw [eh3,eK'];simp
 have hl:=F02.hl
 have F3:Fr L h h3:=by rw [eh3];exact F02.app _
 refine bO (P:=λo=>PP (aR o)) (v:=.ref K') (h2:=h3) ?_ ?_
 ·generalize jY=G at *
  simp [dc]
 by_cases hd:due = ""
 ·obtain ⟨x,y,c,k,r,rfl,rfl,g,hc,hy⟩:=gd' hd
  subst hd;obtain ⟨h4,eh4⟩:∃ h4,h4=h3.set K' (.dct false ((put kx x (0,y)).map (kG gS))):=⟨_,rfl⟩
  have F4:Fr L h h4:=by
   obtain ⟨N,eN⟩:=F3.ro
   have l3:=F3.hl
   exact ⟨λi hi n=>by rw [eh4,M5 (by lia)];exact F3.fr i hi n,by rw [eh4,NW];exact l3,N,by rw [eh4,M5 (by lia)];exact eN⟩
  have e4:h4[K']? = some (.dct false ((put kx x (0,y)).map (kG gS))):=by rw [eh4];exact Na (cL e3)
  refine bQ (P:=λo=>PP (aR o)) (e2:=[some (.ref L),some (.ref K),some (.int kd),none,none,some (.tup (k :: .str x::r)),some (.str ""),some (.str y),some (.ref K')]) (h2:=h4) ?_ ?_
  ·have k1:d0 false (.str x)=true:=rfl
   have sz:(kx.map (kG gS)).length<sizeLine:=by rw [Nc];exact Nl ct (by decide)
   have a1:atI (k :: .str x::r) 1=some (.str x):=kz (j:=1) rfl
   have ix:ah aw (ae 5) (af (.int 1)) [some (.ref L),some (.ref K),some (.int kd),none,none,some (.tup (k :: .str x::r)),some (.str ""),some (.str y),some (.ref K')] h3 = .ok (.str x) h3:=by simp [a1]
   have b1:ae 8 [some (.ref L),some (.ref K),some (.int kd),none,none,some (.tup (k :: .str x::r)),some (.str ""),some (.str y),some (.ref K')] h3 = .ok (.ref K') h3:=rfl
   have b2:ae 7 [some (.ref L),some (.ref K),some (.int kd),none,none,some (.tup (k :: .str x::r)),some (.str ""),some (.str y),some (.ref K')] h3 = .ok (.str y) h3:=rfl
   have st:fT (ae 8) (ah aw (ae 5) (af (.int 1))) (ae 7) [some (.ref L),some (.ref K),some (.int kd),none,none,some (.tup (k :: .str x::r)),some (.str ""),some (.str y),some (.ref K')] h3 = .nx [some (.ref L),some (.ref K),some (.int kd),none,none,some (.tup (k :: .str x::r)),some (.str ""),some (.str y),some (.ref K')] h4:=by
    simp only [fT,b1,b2,ix,Out.go,e3]
    rw [M8 ⟨k1,sz⟩,eh4];exact congrArg (λz=>OutS.nx _ (h3.set K' (.dct false z))) (rm gS kx x (0,y))
   show aS (aM (ah aG (ae 6) (af (.str "")))) (fT (ae 8) (ah aw (ae 5) (af (.int 1))) (ae 7)) aT [some (.ref L),some (.ref K),some (.int kd),none,none,some (.tup (k :: .str x::r)),some (.str ""),some (.str y),some (.ref K')] h3=_
   generalize fT (ae 8) (ah aw (ae 5) (af (.int 1))) (ae 7)=SX at *;simp [st]
  refine gi (P:=λo=>PP (aR o)) (v:=.tup [.tup (k :: .str x::r),.str "",.ref K']) (h' := h4) (by simp) (ofP _ ⟨_,_,_,h4,rfl,F4,λ_=>⟨x,some y,c,g,hc,by lia,λo eo=>?_,λy' ey=>by cases ey;exact hy⟩⟩)
  cases o with
  | none=>cases eo
  | some w =>
   have:w.2=y:=by simpa using eo
   have q:(put kx x w).map (kG gS)=(put kx x (0,y)).map (kG gS):=by
    rw [<- rm gS kx x w,<- rm gS kx x (0,y)];show eB _ _ (.str w.2)=_
    rw [this]
   rw [e4,<- q];rfl
 ·refine bQ (P:=λo=>PP (aR o)) (e2:=[some (.ref L),some (.ref K),some (.int kd),none,none,some deed',some (.str due),some pl',some (.ref K')]) (h2:=h3) ?_ ?_
  ·show aS (aM (ah aG (ae 6) (af (.str "")))) (fT (ae 8) (ah aw (ae 5) (af (.int 1))) (ae 7)) aT [some (.ref L),some (.ref K),some (.int kd),none,none,some deed',some (.str due),some pl',some (.ref K')] h3=_
   generalize fT (ae 8) (ah aw (ae 5) (af (.int 1))) (ae 7)=SX at *;simp [hd]
  exact gi (P:=λo=>PP (aR o)) (v:=.tup [deed',.str due,.ref K']) (h' := h3) (by simp) (ofP _ ⟨_,_,_,h3,rfl,F3,λz=>absurd z hd⟩)
theorem Ho.keep {h h':AH} {ps:List Pc} {kx:List (Str×Nat×Str)} {ds bs:List De} (H:Ho h 0 1 10 ps kx ds bs) (k:∀ i,i<=12->h'[i]? = h[i]?):Ho h' 0 1 10 ps kx ds bs :=
 ⟨(k 0 (by lia)).trans H.ob,H.sh.keep λi _ _=>k i (by lia),H.gd,(k 10 (by lia)).trans H.tx,(k 11 (by lia)).trans H.de,(k 12 (by lia)).trans H.ba,H.tz,H.lo,H.ct,H.nd⟩
def ext {α:Type} (f:Nat->α) (n:Nat) (v:α):Nat->α:=λj=>if j<n then f j else v
theorem gC (f:Nat->α) (v:α) (h:j<n):ext f n v j=f j:=M8 h
theorem fM (f:Nat->α) (n:Nat) (v:α):ext f n v n=v:=M9 (Ot _)
theorem KF {γ:Type} (f:Nat->α) (n:Nat) (v:α) (F:α->γ):(List.range (n+1)).map (λj=>F (ext f n v j))=(List.range n).map (λj=>F (f j))++[F v]:=by
 rw [OZ,N9,NG,O8,fM];congr 1
 exact OD λj hj=>by rw [gC f v (Pp.mp hj)]
theorem KG (nm:∀ e∈kx,bV e.1=true) {deed:AV} {oy:Option Str} (g:Gd kx deed x oy c):bV x=true:=by
 cases g with
 | give hx=>exact hx
 | copy hx=>exact hx
 | join l=>exact nm _ (dQ l)
 | put l=>exact nm _ (dQ l)
 | take l=>exact nm _ (dQ l)
 | rep l=>exact nm _ (dQ l)
 | rep0 l=>exact nm _ (dQ l)
 | drop l=>exact nm _ (dQ l)
theorem KH {deed:AV} {oy:Option Str} (g:Gd kx deed x oy c) (e:oy=none):(lk kx x).isSome=true:=by
 cases g with
 | drop l=>rw [l];rfl
 | _=>cases e
structure Sz (h:AH) (m:Nat) (X:Nat->Str) (V:Nat->Option (Nat×Str)) (Kx:Nat->List (Str×Nat×Str)) (ps:List Pc):Prop where
 hy:Hy m X V Kx ps
 k0:Kx 0=[]
 ho:Ho h 0 1 10 ps (Kx m) ((List.range m).map (dj X V Kx)) []
 ss:h[14]? = some (.lst ((List.range (m+1)).map λj=>cN (Kx j)))
section
variable {h h2 h3:AH} {m:Nat} {X:Nat->Str} {V:Nat->Option (Nat×Str)} {Kx:Nat->List (Str×Nat×Str)} {ps ps':List Pc} {x:Str} {o:Option (Nat×Str)}
theorem KI:(List.range (m+1)).map (dj (ext X m x) (ext V m o) (ext Kx (m+1) (upd (Kx m) x o)))=(List.range m).map (dj X V Kx)++[(x,(lk (Kx m) x).map (·.1),o.map (·.1))]:=by
 rw [OZ,N9,NG,O8];congr 1
 ·refine OD λj hj=>?_
  have hj:=Pp.mp hj
  unfold dj
  rw [gC X x hj,gC V o hj,gC Kx _ (show j<m+1 by lia)]
 ·unfold dj
  rw [fM,fM,gC Kx _ (PC m)]
theorem Sz.step (S:Sz h m X V Kx ps) (H:Ho h3 0 1 10 ps' (upd (Kx m) x o) ((List.range m).map (dj X V Kx)++[(x,(lk (Kx m) x).map (·.1),o.map (·.1))]) []) (s14:h3[14]? = h[14]?) (pre:ps <+: ps') (hx:bV x=true) (hs:o=none->(lk (Kx m) x).isSome=true) (hm:m<=1000) :
  ∃ h4,cG (.ref 14) [cN (upd (Kx m) x o)] h3 = .ok .non h4/\cn (.ref 14) h3=true/\Sz h4 (m+1) (ext X m x) (ext V m o) (ext Kx (m+1) (upd (Kx m) x o)) ps'/\(∀ i,i≠14->h4[i]? = h3[i]?):=by
 have e3:=s14.trans S.ss
 have ap:=A5 e3 (by rw [Nc,Ol];lia) (cN (upd (Kx m) x o))
 have k:∀ i,i≠14->(h3.set 14 (.lst (((List.range (m+1)).map λj=>cN (Kx j))++[cN (upd (Kx m) x o)])))[i]? = h3[i]? := λi hi=>M5 (Ne.symm hi)
 refine ⟨_,ap,by simp only [cn,gs,e3];rfl,⟨⟨λj hj=>?_,λj hj=>?_,λj hj e he=>?_,λj hj=>?_⟩,by rw [gC Kx _ (Nat.succ_pos m)];exact S.k0,?_,?_⟩,k⟩
 ·by_cases q:j<m+1
  ·rw [gC Kx _ q];exact S.hy.nd j (by lia)
  ·obtain rfl:j=m+1:=by lia
   rw [fM];exact H.nd
 ·by_cases q:j<m+1
  ·rw [gC Kx _ q];exact S.hy.ct j (by lia)
  ·obtain rfl:j=m+1:=by lia
   rw [fM];exact H.ct
 ·by_cases q:j<m+1
  ·rw [gC Kx _ q] at he;exact (S.hy.tz j (by lia) e he).pre pre
  ·obtain rfl:j=m+1:=by lia
   rw [fM] at he;exact (H.tz e he).1
 ·by_cases q:j<m
  ·rw [gC X _ q,gC V _ q,gC Kx _ (show j<m+1 by lia),gC Kx _ (show j+1<m+1 by lia)];exact S.hy.st j q
  ·obtain rfl:j=m:=by lia
   rw [fM,fM,gC Kx _ (PC j),fM];exact ⟨hx,rfl,hs⟩
 ·rw [fM,KI]
  exact H.keep λi hi=>k i (by lia)
 ·rw [KF (F:=λz=>cN z)]
  exact Na (cL e3)
end
theorem KJ (v:Nat×Str) (h:(lk kx x).isSome=true):(put kx x v).length=kx.length:=by
 unfold put
 rw [M8 h,Nc]
structure Kz (h:AH) (m K:Nat) (Kx:Nat->List (Str×Nat×Str)):Prop where
 kk:h[K]? = some (.dct false ((Kx m).map (kG gS)))
 kc:12<K/\K≠14
 nl:∀ e∈Kx m,e.2.2.length<=300
 ct:(Kx m).length<=m
variable {X:Nat->Str} {Kx:Nat->List (Str×Nat×Str)}
theorem KM {m:Nat} {V:Nat->Option (Nat×Str)} (S:Sz h m X V Kx ps) (Z:Kz h m K Kx) (hm:m<40) (hp:ps.length<12000000) (c kk:Int) (sc o6 o7 o8:Option AV) :
  ∃ h' m' K' X' V' Kx' ps' a6 a7 a8,oo [sc,some (.ref 0),some (.ref K),some (.ref 14),some (.int kk),some (.int c),o6,o7,o8,none,none,none,none,none] h = .nx [sc,some (.ref 0),some (.ref K'),some (.ref 14),some (.int kk),some (.int c),a6,a7,a8,none,none,none,none,none] h'/\Sz h' m' X' V' Kx' ps'/\Kz h' m' K' Kx'/\m'<=m+1/\ps'.length<=ps.length+240000:=by
 have l14:=cL S.ss
 obtain ⟨N,st⟩:=AW [c,kk] (by simp) 0 (by decide) h
 have st:iB [.fl [.int c,.int kk],.int 0] h = .ok (.ref h.length) (h++[.lst [.int N]]):=st
 obtain ⟨L,eL⟩:∃ L,L=h.length:=⟨_,rfl⟩
 obtain ⟨h1,eh1⟩:∃ h1,h1=h++[AO.lst [.int N]]:=⟨_,rfl⟩
 rw [<- eL,<- eh1] at st;have k1:∀ i,i<L->h1[i]? = h[i]? := λi hi=>by rw [eh1,Nb (by lia)]
 have L1:h1[L]? = some (.lst [.int N]):=by rw [eh1,eL];simp
 have n1:h1.length=L+1:=by rw [eh1,NL,eL];rfl
 have lK:=cL Z.kk
 have kc:=Z.kc
 have zct:=Z.ct
 obtain ⟨deed,due,K',h2,fd,F2,gd⟩:=KC ((k1 K (by lia)).trans Z.kk) ⟨N,L1⟩ (by lia) (by lia) (λe he=>⟨(S.ho.tz e he).2,Z.nl e he⟩)
 have hl2:=F2.hl
 have k2:∀ i,i<L->h2[i]? = h[i]? := λi hi=>(F2.fr i (by lia) (by lia)).trans (k1 i hi)
 have H2:Ho h2 0 1 10 ps (Kx m) ((List.range m).map (dj X V Kx)) []:=S.ho.keep λi hi=>k2 i (by lia)
 have r1:pU (.tup [6,7,8]) (aC nW (aj (aC iB (aj (aN (aj (ae 5) (aj (ae 4) ag))) (aj (af (.int 0)) ag))) (aj (ae 2) ag))) [sc,some (.ref 0),some (.ref K),some (.ref 14),some (.int kk),some (.int c),o6,o7,o8,none,none,none,none,none] h = .nx [sc,some (.ref 0),some (.ref K),some (.ref 14),some (.int kk),some (.int c),some deed,some (.str due),some (.ref K'),none,none,none,none,none] h2:=by
  generalize nW=G at *;generalize iB=G2 at *;simp [st,fd]
 by_cases hd:due = ""
 ·obtain ⟨x,oy,cc,g,hc,lK',kd,ny⟩:=gd hd
  subst hd;obtain ⟨o,ps',h3,ed,eo,H3,F3,pre,len⟩:=oS H2 g (by lia) (by lia) (by simp;lia)
  have wd:=rq ed
  have nb:=v9 H3
  obtain ⟨h4,ap,il,S4,k4⟩:=S.step H3 ((F3.fr 14 (by lia) (by lia) (by lia) (by lia)).trans (k2 14 (by lia))) pre (KG (λe he=>(S.ho.tz e he).2) g) (λq=>KH g (by rw [<- eo,q];rfl)) (by lia)
  refine ⟨h4,m+1,K',_,_,_,ps',some deed,some (.str ""),some (.ref K'),?_,S4,⟨?_,by lia,λe he=>?_,?_⟩,MZ _,by lia⟩
  ·show ao _ _ _ _=_
   refine bQ (P:=λz=>z=_) r1 ?_
   generalize ia=G1 at *;generalize jB=G2 at *;generalize cN (upd (Kx m) x o)=NS at *;simp [wd,nb,ap,il,-cG,-cn]
  ·rw [fM]
   exact (k4 K' (by lia)).trans ((F3.fr K' (by lia) (by lia) (by lia) (by lia)).trans (kd o eo))
  ·rw [fM] at he
   rcases rn he with ⟨v,rfl,rfl⟩ | he
   ·exact ny v.2 eo.symm
   ·exact Z.nl e he
  ·rw [fM]
   exact M6 (rp _ _ _) (by lia)
 ·refine ⟨h2,m,K,X,V,Kx,ps,some deed,some (.str due),some (.ref K'),?_,⟨S.hy,S.k0,H2,(k2 14 (by lia)).trans S.ss⟩,⟨(k2 K (by lia)).trans Z.kk,kc,Z.nl,zct⟩,by lia,by lia⟩
  show ao _ _ _ _=_
  refine bQ (P:=λz=>z=_) r1 ?_
  simp [hd]
def gj (t:Nat):Str:=if t % 2=0 then "aa" else "bb"
theorem we (t:Nat):bV (gj t)=true:=by unfold gj;split<;>decide +kernel
theorem KN (t:Nat):cf (bW "xyz" (1+t % 3))=true/\(bW "xyz" (1+t % 3)).length<=3:=by
 rcases (show t % 3=0\/t % 3=1\/t % 3=2 by lia) with e | e | e<;>rw [e]<;>exact ⟨by decide +kernel,by decide +kernel⟩
structure Mz (h H0:AH) (t m0 c0 p0 m:Nat) (Kx:Nat->List (Str×Nat×Str)) (ps:List Pc):Prop where
 em:m=m0+t
 ct:(Kx m).length<=c0+min t 2
 aa:1<=t->(lk (Kx m) "aa").isSome=true
 bb:2<=t->(lk (Kx m) "bb").isSome=true
 pl:ps.length<=p0+6*t
 fr:∀ i,14<i->h[i]? = H0[i]?
 hl:h.length=H0.length
theorem KO {H0:AH} {t m0 c0 p0 m:Nat} {V:Nat->Option (Nat×Str)} (S:Sz h m X V Kx ps) (Z:Mz h H0 t m0 c0 p0 m Kx ps) (ht:t<300) (hm:m0<=40) (hc:c0<=40) (hp:p0<=12000000) (n:Int) (o4:Option AV) :
  ∃ h' m' X' V' Kx' ps',lj [some (.ref 0),some (.ref 14),some (.int n),some (.int t),o4] h = .nx [some (.ref 0),some (.ref 14),some (.int n),some (.int t),some (.str (gj t))] h'/\Sz h' m' X' V' Kx' ps'/\Mz h' H0 (t+1) m0 c0 p0 m' Kx' ps' := by
 have em:=Z.em
 have zc:=Z.ct
 have zp:=Z.pl
 have hcut:=vE (x := "xyz") (a:=1+t % 3) h
 obtain ⟨y,ey⟩:∃ y,y=bW "xyz" (1+t % 3):=⟨_,rfl⟩
 obtain ⟨py,ly⟩:=KN t
 rw [<- ey] at hcut py ly;have md2:bB (.int t) (.int 2) h = .ok (.int ((t % 2:Nat):Int)) h:=by
  simp [bB]
 have md3:bB (.int t) (.int 3) h = .ok (.int ((t % 3:Nat):Int)) h:=by
  simp [bB]
 have dv3:cg (.int t) (.int 3) h = .ok (.int ((t / 3:Nat):Int)) h:=by
  simp [cg]
 have md6:bB (.int ((t / 3:Nat):Int)) (.int 2) h = .ok (.int ((t / 3 % 2:Nat):Int)) h:=by
  simp [bB]
 have ad:aE (.int 1) (.int ((t % 3:Nat):Int)) h = .ok (.int ((1+t % 3:Nat):Int)) h:=oQ (a:=1) rfl h
 have ixn:aw (.fl [.str "aa",.str "bb"]) (.int ((t % 2:Nat):Int)) h = .ok (.str (gj t)) h:=by
  refine mT ?_ h
  unfold gj
  rcases (show t % 2=0\/t % 2=1 by lia) with e | e<;>rw [e]<;>rfl
 obtain ⟨deed,oy,cc,g,hcc,ixd⟩:∃ deed oy cc,Gd (Kx m) deed (gj t) (some oy) cc/\cc<=6/\aw (.fl [.tup [.str "give",.str (gj t),.str y],.tup [.str "copy_of",.str (gj t),.str "aa"]]) (.int ((t / 3 % 2:Nat):Int)) h = .ok deed h:=by
  rcases (show t / 3 % 2=0\/t / 3 % 2=1 by lia) with e | e
  ·rw [e]
   exact ⟨_,y,_,.give (we t) py (by lia),by lia,rfl⟩
  ·rw [e]
   obtain ⟨v,ev⟩:=Nr.mp (Z.aa (by lia))
   exact ⟨_,v.2,_,.copy (we t) ev,by lia,rfl⟩
 obtain ⟨o,ps',h3,ed,eo,H3,F3,pre,len⟩:=oS S.ho g (by lia) (by lia) (by simp;lia)
 have wd:=rq ed
 have nb:=v9 H3
 obtain ⟨h4,ap,il,S4,k4⟩:=S.step H3 (F3.fr 14 (by lia) (by lia) (by lia) (by lia)) pre (we t) (λq=>by rw [q] at eo;cases eo) (by lia)
 obtain ⟨v,rfl⟩:∃ v,o=some v:=by
  cases o with
  | none=>cases eo
  | some v=>exact ⟨v,rfl⟩
 have n4:h4.length=h3.length:=by
  have e14:=(F3.fr 14 (by lia) (by lia) (by lia) (by lia)).trans S.ss
  have ap' := A5 e14 (by rw [Nc,Ol];lia) (cN (upd (Kx m) (gj t) (some v)))
  rw [ap] at ap';injection ap' with _ ap'
  rw [ap',NW]
 refine ⟨h4,m+1,_,_,_,ps',?_,S4,⟨by lia,?_,λq=>?_,λq=>?_,by lia,λi hi=>(k4 i (by lia)).trans ((F3.fr i (by lia) (by lia) (by lia) (by lia)).trans (Z.fr i hi)),by rw [n4,F3.hl];exact Z.hl⟩⟩
 ·unfold lj
  refine bO (P:=λz=>z=_) (v:=.str (gj t)) (h2:=h) ?_ ?_
  ·generalize ((t % 2:Nat):Int)=T2 at *
   generalize (t:Int)=T at *;simp [md2,ixn,-bB,-aw]
  ·generalize ia=G1 at *
   generalize jB=G2 at *;generalize cN (upd (Kx m) (gj t) (some v))=NS at *;generalize ((1+t % 3:Nat):Int)=T13 at *;generalize ((t % 3:Nat):Int)=T3 at *;generalize ((t / 3 % 2:Nat):Int)=T6 at *;generalize ((t / 3:Nat):Int)=TD at *;generalize (t:Int)=T at *;simp [md3,ad,hcut,dv3,md6,ixd,wd,nb,ap,il,-bB,-cg,-aw,-aE,-dE,-cG,-cn]
 ·rw [fM]
  show (put (Kx m) (gj t) v).length<=_
  by_cases q:2<=t
  ·have:(lk (Kx m) (gj t)).isSome=true:=by
    unfold gj
    split
    ·exact Z.aa (by lia)
    ·exact Z.bb q
   rw [KJ v this];lia
  ·have:=AZ (Kx m) (gj t) v
   lia
 ·rw [fM,j7]
  split
  ·rfl
  ·rename_i w
   by_cases z:t=0
   ·subst z;exact absurd rfl w
   ·exact Z.aa (by lia)
 ·rw [fM,j7]
  split
  ·rfl
  ·rename_i w
   by_cases z:t=1
   ·subst z;exact absurd rfl w
   ·exact Z.bb (by lia)
theorem KP {m:Nat} {V:Nat->Option (Nat×Str)} (S:Sz h m X V Kx ps) (ct:(Kx m).length<=40) (hm:m<=40) (hp:ps.length<=12000000) (hn:n<=300) :
  ∃ h' m' X' V' Kx' ps',om [.ref 0,.ref 14,.int n] h = .ok (.bl true) h'/\Sz h' m' X' V' Kx' ps'/\m'<=340/\(∀ i,14<i->h'[i]? = h[i]?):=by
 obtain ⟨e',h',r1,m',X',V',Kx',ps',o3,o4,rfl,S',Z'⟩:=jC (w:=none) (all:=cP 0 n) (t:=.nm 3) (b:=lj) (xs:=cP 0 n) (en:=[some (.ref 0),some (.ref 14),some (.int n),none,none]) (h:=h)
  (λt en hh=>∃ m' X' V' Kx' ps' o3 o4,en=[some (.ref 0),some (.ref 14),some (.int n),o3,o4]/\Sz hh m' X' V' Kx' ps'/\Mz hh h t m (Kx m).length ps.length m' Kx' ps') ⟨m,X,V,Kx,ps,none,none,rfl,S,⟨rfl,by lia,by lia,by lia,by lia,λ_ _=>rfl,rfl⟩⟩ (λ_ _ _ _=>rfl) (by
   rintro t u en hh hu ⟨m',X',V',Kx',ps',o3,o4,rfl,S,Z⟩
   have tn:t<n:=by have:=(MY.mp hu).1;rwa [lB] at this
   obtain rfl:u = .int t:=by
    rw [uQ,M8 tn] at hu;cases hu;simp
   obtain ⟨h',m2,X2,V2,Kx2,ps2,e,S2,Z2⟩:=KO S Z (by lia) hm ct hp n o4
   show thn (lj [some (.ref 0),some (.ref 14),some (.int n),some (.int t),o4] hh) _
   rw [e];exact ⟨m2,X2,V2,Kx2,ps2,_,_,rfl,S2,Z2⟩)
 rw [lB] at Z';refine ⟨h',m',X',V',Kx',ps',?_,S',by have:=Z'.em;lia,Z'.fr⟩
 have f1:=(jD (t:=.nm 3) (b:=lj) (mL (a:=ae 2) (en:=[some (.ref 0),some (.ref 14),some (.int n),none,none]) (h:=h) (h1:=h) (n:=n) rfl (by lia))).trans r1
 unfold om
 generalize cy (hJ (ae 2)) (.nm 3) lj=F1 at *;simp [f1]
theorem wg {k:Nat} (h1:a<=k*j) (h2:b<=a+k):b<=k*(j+1):=by
 rw [Nat.mul_succ];lia
theorem Bu (h:a<=240000*j) (hj:j<=32):a<=7680000:=M6 h (Rh 240000 hj)
theorem KQ (l:List AV) (k:Nat) (h:AH):dE (.fl l) none (some (k:Int)) h = .ok (.fl (l.take k)) h:=by
 simp only [dE]
 congr 2
 unfold dW
 rw [HT.sIx_nat,HT.sIx_none];show (l.drop 0).take (min k l.length-0)=_
 rw [QV,Nat.sub_zero];by_cases q:k<=l.length
 ·rw [OY q]
 ·rw [Nat.min_eq_right (by lia),NU (MZ _),NU (by lia)]
abbrev eW (sc o2 o4 o5 o6 o7 o8:Option AV) (L r:Nat) (o11 o12 o13:Option AV):En:=[sc,some (.ref 0),o2,some (.ref 14),o4,o5,o6,o7,o8,some (.ref L),some (.int r),o11,o12,o13]
structure Iv (M:Nat) (X:Nat->Str) (V:Nat->Option (Nat×Str)) (Kx:Nat->List (Str×Nat×Str)) (ps:List Pc) (L:Nat) (hh:AH) (r:Nat):Prop where
 at_:At M X V Kx ps hh hh r
 ss:hh[14]? = some (.lst ((List.range (M+1)).map λj=>cN (Kx j)))
 st:∃ N:Int,hh[L]? = some (.lst [.int N])
 hr:r<=M
section
variable {M L:Nat} {X:Nat->Str} {V:Nat->Option (Nat×Str)} {Kx:Nat->List (Str×Nat×Str)} {ps:List Pc} {hh:AH} {r:Nat}
theorem Iv.go (I:Iv M X V Kx ps L hh r) (hL:14<L) (A:At M X V Kx ps hh h' r') (hr:r'<=M):Iv M X V Kx ps L h' r' := by
 obtain ⟨N,e⟩:=I.st
 obtain ⟨kx,H,l⟩:=A.ho
 exact ⟨⟨⟨kx,H,l⟩,λ_ _=>rfl,rfl⟩,(A.fr 14 (by lia)).trans I.ss,⟨N,(A.fr L (by lia)).trans e⟩,hr⟩
theorem Iv.tk (I:Iv M X V Kx ps L hh r) (hL:14<L) (N:Int):Iv M X V Kx ps L (hh.set L (.lst [.int N])) r:=by
 obtain ⟨N0,e⟩:=I.st
 obtain ⟨kx,H,l⟩:=I.at_.ho
 have k:∀ i,i<=14->(hh.set L (.lst [.int N]))[i]? = hh[i]? := λi hi=>M5 (by lia)
 exact ⟨⟨⟨kx,H.keep λi hi=>k i (by lia),l⟩,λ_ _=>rfl,rfl⟩,(k 14 (by lia)).trans I.ss,⟨N,Na (cL e)⟩,I.hr⟩
theorem Iv.take (I:Iv M X V Kx ps L hh r) (hL:14<L) (m:Nat) (h0:0<m) (hm:m<=1000):∃ (v:Nat) (h':AH),v<m/\bD [.ref L,.int m] hh = .ok (.int v) h'/\Iv M X V Kx ps L h' r:=by
 obtain ⟨N0,e⟩:=I.st
 obtain ⟨v,N,hv,t⟩:=mQ m e h0 (M6 hm (by decide))
 exact ⟨v,_,hv,t,I.tk hL N⟩
theorem Iv.len (I:Iv M X V Kx ps L hh r):aJ [.ref 14] hh = .ok (.int ((M+1:Nat):Int)) hh:=by
 simp only [aJ,I.ss,Nc,Ol]
theorem KR (S:Hy M X V Kx ps) (hM:M<=1000) (hL:14<L) (I:Iv M X V Kx ps L hh r) (sc o2 o4 o5 o6 o7 o8 o11 o13:Option AV) (hw:w = "back" \/ w = "again") :
  ∃ r' h',mK (eW sc o2 o4 o5 o6 o7 o8 L r o11 (some (.str w)) o13) hh = .nx (eW sc o2 o4 o5 o6 o7 o8 L r' o11 (some (.str w)) o13) h'/\Iv M X V Kx ps L h' r' := by
 obtain ⟨r',h',e,A,hr'⟩:∃ r' h',iZ [.ref 0,.str w,.int r,.ref 14] hh = .ok (.int (r':Nat)) h'/\At M X V Kx ps hh h' r'/\r'<=M:=by
  rcases hw with rfl | rfl
  ·obtain ⟨h',e,A⟩:=Bm S hM I.hr I.ss I.at_
   exact ⟨_,h',e,A,by have:=I.hr;lia⟩
  ·obtain ⟨r',h',hr,e,A⟩:=Kr S hM I.hr I.ss I.at_
   exact ⟨r',h',e,A,hr⟩
 refine ⟨r',h',?_,I.go hL A hr'⟩
 unfold mK eW
 generalize (r:Int)=R at *;generalize (r':Int)=R' at *;generalize iZ=G at *;simp [e]
theorem KS (S:Hy M X V Kx ps) (hM:M<=900) (hL:14<L) (I:Iv M X V Kx ps L hh r) (sc o2 o4 o5 o6 o7 o8 o11 o13:Option AV) (hw:w = "back" \/ w = "again") :
  ∃ r' h' c13,oq (eW sc o2 o4 o5 o6 o7 o8 L r o11 (some (.str w)) o13) hh = .nx (eW sc o2 o4 o5 o6 o7 o8 L r' o11 (some (.str w)) c13) h'/\Iv M X V Kx ps L h' r' := by
 have ln:=I.len
 have ad:aE (.int ((M+1:Nat):Int)) (.int 2) hh = .ok (.int ((M+3:Nat):Int)) hh:=by
  have:((M+1:Nat):Int)+2=((M+3:Nat):Int):=by lia
  simp only [aE,this]
 obtain ⟨n,h1,hn,t,I1⟩:=I.take hL (M+3) (by lia) (by lia)
 obtain ⟨e',h',r1,r',c13,rfl,I'⟩:=jC (w:=none) (all:=cP 0 n) (t:=.nm 13) (b:=mK) (xs:=cP 0 n) (en:=eW sc o2 o4 o5 o6 o7 o8 L r o11 (some (.str w)) o13) (h:=h1)
  (λt en hx=>∃ r' c13,en=eW sc o2 o4 o5 o6 o7 o8 L r' o11 (some (.str w)) c13/\Iv M X V Kx ps L hx r') ⟨r,o13,rfl,I1⟩ (λ_ _ _ _=>rfl) (by
   rintro t u en hx hu ⟨r',c13,rfl,I⟩
   obtain ⟨r2,h',e,I2⟩:=KR S (by lia) hL I sc o2 o4 o5 o6 o7 o8 o11 (some u) hw
   show thn (mK (eW sc o2 o4 o5 o6 o7 o8 L r' o11 (some (.str w)) (some u)) hx) _
   rw [e];exact ⟨r2,_,rfl,I2⟩)
 refine ⟨r',h',c13,?_,I'⟩
 have f1:=(jD (t:=.nm 13) (b:=mK) (mL (a:=aC bD (aj (ae 9) (aj (ah aE (aC aJ (aj (ae 3) ag)) (af (.int 2))) ag))) (en:=eW sc o2 o4 o5 o6 o7 o8 L r o11 (some (.str w)) o13) (h:=hh) (h1:=h1) (n:=n) (by
  generalize ((M+1:Nat):Int)=M1 at *;generalize ((M+3:Nat):Int)=M3 at *;generalize bD=G at *;simp [ln,ad,t,-aJ,-aE]) (by lia))).trans r1
 exact f1
theorem KU (S:Hy M X V Kx ps) (hM:M<=900) (hL:14<L) (I:Iv M X V Kx ps L hh r) (sc o2 o4 o5 o6 o7 o8 o11 o12 o13:Option AV) :
  ∃ r' h' c12 c13,ot (eW sc o2 o4 o5 o6 o7 o8 L r o11 o12 o13) hh = .nx (eW sc o2 o4 o5 o6 o7 o8 L r' o11 c12 c13) h'/\Iv M X V Kx ps L h' r' := by
 obtain ⟨W,eW'⟩:∃ W:List AV,W=[.str "back",.str "again"]:=⟨_,rfl⟩
 obtain ⟨e',h',r1,r',c12,c13,rfl,I'⟩:=jC (w:=none) (all:=W) (t:=.nm 12) (b:=oq) (xs:=W) (en:=eW sc o2 o4 o5 o6 o7 o8 L r o11 o12 o13) (h:=hh)
  (λt en hx=>∃ r' c12 c13,en=eW sc o2 o4 o5 o6 o7 o8 L r' o11 c12 c13/\Iv M X V Kx ps L hx r') ⟨r,o12,o13,rfl,I⟩ (λ_ _ _ _=>rfl) (by
   rintro t u en hx hu ⟨r',c12,c13,rfl,I⟩
   obtain ⟨w,rfl,hw⟩:∃ w:Str,u = .str w/\(w = "back" \/ w = "again"):=by
    have:=ND hu
    rw [eW'] at this;simp only [Np,OJ,Qr] at this
    rcases this with rfl | rfl
    ·exact ⟨_,rfl,.inl rfl⟩
    ·exact ⟨_,rfl,.inr rfl⟩
   obtain ⟨r2,h',d13,e,I2⟩:=KS S hM hL I sc o2 o4 o5 o6 o7 o8 o11 c13 hw
   show thn (oq (eW sc o2 o4 o5 o6 o7 o8 L r' o11 (some (.str w)) c13) hx) _
   rw [e];exact ⟨r2,_,_,rfl,I2⟩)
 refine ⟨r',h',c12,c13,?_,I'⟩
 subst eW'
 exact (jD (t:=.nm 12) (b:=oq) (it:=cW (aN (aj (af (.str "back")) (aj (af (.str "again")) ag)))) (by simp)).trans r1
theorem KW (S:Hy M X V Kx ps) (hM:M<=900) (hL:14<L) (I:Iv M X V Kx ps L hh r) (sc o2 o4 o5 o6 o7 o8 o11 o12 o13:Option AV) :
  ∃ h' c13,gu none (cP 0 (M+2)) (.nm 13) lA (cP 0 (M+2)) (eW sc o2 o4 o5 o6 o7 o8 L r o11 o12 o13) hh = .nx (eW sc o2 o4 o5 o6 o7 o8 L 0 o11 o12 c13) h'/\Iv M X V Kx ps L h' 0:=by
 obtain ⟨e',h',r1,c13,rfl,I'⟩:=jC (w:=none) (all:=cP 0 (M+2)) (t:=.nm 13) (b:=lA) (xs:=cP 0 (M+2)) (en:=eW sc o2 o4 o5 o6 o7 o8 L r o11 o12 o13) (h:=hh)
  (λt en hx=>∃ c13,en=eW sc o2 o4 o5 o6 o7 o8 L (r-t) o11 o12 c13/\Iv M X V Kx ps L hx (r-t)) ⟨o13,rfl,I⟩ (λ_ _ _ _=>rfl) (by
   rintro t u en hx hu ⟨c13,rfl,I⟩
   obtain ⟨h',e,A⟩:=Bm S (by lia) I.hr I.ss I.at_
   have b:lA (eW sc o2 o4 o5 o6 o7 o8 L (r-t) o11 o12 (some u)) hx = .nx (eW sc o2 o4 o5 o6 o7 o8 L (r-t-1) o11 o12 (some u)) h' := by
    unfold lA eW
    generalize ((r-t:Nat):Int)=R at *;generalize ((r-t-1:Nat):Int)=R' at *;generalize iZ=G at *;simp [e]
   show thn (lA (eW sc o2 o4 o5 o6 o7 o8 L (r-t) o11 o12 (some u)) hx) _
   rw [b,show r-t-1=r-(t+1) by lia]
   refine ⟨_,rfl,I.go hL ?_ (by have:=I.hr;lia)⟩
   rw [show r-(t+1)=r-t-1 by lia];exact A)
 have hr:=I.hr
 rw [lB,show r-(M+2)=0 by lia] at I'
 rw [lB,show r-(M+2)=0 by lia] at r1
 exact ⟨h',c13,r1,I'⟩
theorem KY (S:Hy M X V Kx ps) (k0:Kx 0=[]) (I:Iv M X V Kx ps L hh 0):iY [.ref 0] hh = .ok (.fl []) hh:=by
 obtain ⟨kx,H,l⟩:=I.at_.ho
 have:=v8 H.nd (S.nd 0 (NB _)) l
 rw [k0] at this;have e:kx=[]:=PD this
 have fn:=Bh H
 rw [e] at fn;exact fn
end
theorem KZ (v:Nat) (hv:v<4):∃ n:Nat,n<=300/\∀ h,aw (.fl [.int 0,.int 0,.int 20,.int 300]) (.int v) h = .ok (.int n) h:=by
 rcases (show v=0\/v=1\/v=2\/v=3 by lia) with rfl | rfl | rfl | rfl
 ·exact ⟨0,by decide,λ_=>rfl⟩
 ·exact ⟨0,by decide,λ_=>rfl⟩
 ·exact ⟨20,by decide,λ_=>rfl⟩
 ·exact ⟨300,by decide,λ_=>rfl⟩
theorem law_true (ns:List Int) (hl:ns.length<=63):∃ h',uO [.fl (ns.map AV.int)] [] = .ok (.bl true) h' := by
 obtain ⟨sc,esc⟩:∃ sc:Option AV,sc=some (.fl (ns.map AV.int)):=⟨_,rfl⟩
 obtain ⟨h0,eh0⟩:∃ h0:AH,h0 = .ins 1 [some (.ref 1),some (.ref 10),some (.ref 11),some (.ref 12)]::(qP 1++[.dct false [],.lst [],.lst []]):=⟨_,rfl⟩
 have mk:lV 1 4 mB ag [sc,none,none,none,none,none,none,none,none,none,none,none,none,none] [] = .ok (.ref 0) h0:=by rw [eh0];exact J4 _ []
 have H0:Ho h0 0 1 10 [] [] [] []:=by
  rw [eh0];exact ⟨rfl,IY [.ins 1 [some (.ref 1),some (.ref 10),some (.ref 11),some (.ref 12)]] [AO.dct false [],.lst [],.lst []],.nil,rfl,rfl,rfl,nofun,⟨by decide,by decide⟩,by decide,O4⟩
 have l0:h0.length=13:=by rw [eh0];rfl
 obtain ⟨h1,eh1⟩:∃ h1,h1=h0++[AO.dct false []]:=⟨_,rfl⟩
 have H1:Ho h1 0 1 10 [] [] [] []:=by rw [eh1];exact H0.app _
 have e1:h1[13]? = some (.dct false []):=by rw [eh1,<- l0];simp
 have l1:h1.length=14:=by rw [eh1,NL,l0];rfl
 obtain ⟨h2,eh2⟩:∃ h2,h2=h1++[AO.lst [.fl []]]:=⟨_,rfl⟩
 have H2:Ho h2 0 1 10 [] [] [] []:=by rw [eh2];exact H1.app _
 have e2:h2[13]? = some (.dct false []):=by rw [eh2,Nb (by lia)];exact e1
 have s2:h2[14]? = some (.lst [.fl []]):=by rw [eh2,<- l1];simp
 have S2:Sz h2 0 (λ_ => "") (λ_=>none) (λ_=>[]) []:=⟨⟨λ_ _=>O4,λ_ _=>NB _,λ_ _=>nofun,λj hj=>absurd hj (OA _)⟩,rfl,H2,s2⟩
 have Z2:Kz h2 0 13 (λ_=>[]):=⟨e2,⟨by decide,by decide⟩,nofun,MZ _⟩
 obtain ⟨cells,ecl⟩:∃ cells:List Int,cells=ns.take 30++[0,1]:=⟨_,rfl⟩
 have lc:cells.length<=32:=by rw [ecl,NL,Oa];show min 30 ns.length+2<=32;lia
 obtain ⟨e',h4,r4,q4⟩:=jC (w:=none) (all:=Sm.numbered 0 (cells.map AV.int)) (t:=.tup [4,5]) (b:=oo) (xs:=Sm.numbered 0 (cells.map AV.int)) (en:=[sc,some (.ref 0),some (.ref 13),some (.ref 14),none,none,none,none,none,none,none,none,none,none]) (h:=h2)
  (λj en hh=>j<=32->∃ (m K:Nat) (X:Nat->Str) (V:Nat->Option (Nat×Str)) (Kx:Nat->List (Str×Nat×Str)) (ps:List Pc) (o4 o5 o6 o7 o8:Option AV),en=[sc,some (.ref 0),some (.ref K),some (.ref 14),o4,o5,o6,o7,o8,none,none,none,none,none]/\Sz hh m X V Kx ps/\Kz hh m K Kx/\m<=j/\ps.length<=240000*j)
  (λ_=>⟨0,13,_,_,_,[],none,none,none,none,none,rfl,S2,Z2,MZ _,NB _⟩) (λ_ _ _ _=>rfl) (by
   intro j u en hh hu hp
   rw [Sm.numbered_get,NK] at hu;obtain ⟨w,ev',rfl⟩:=Nw.mp hu
   obtain ⟨c,ec,rfl⟩:=Nw.mp ev'
   have hj:j<cells.length:=(MY.mp ec).1
   obtain ⟨m,K,X,V,Kx,ps,o4,o5,o6,o7,o8,rfl,S,Z,mj,lp⟩:=hp (by lia)
   have lp7:=Bu lp (by lia)
   obtain ⟨h',m',K',X',V',Kx',ps',a6,a7,a8,e,S',Z',mm,lp'⟩:=KM S Z (by lia) (by lia) c ((0+j:Nat):Int) sc o6 o7 o8
   obtain ⟨BB,hB⟩:∃ BB,BB=oo:=⟨_,rfl⟩
   rw [<- hB] at e ⊢;show thn (BB [sc,some (.ref 0),some (.ref K),some (.ref 14),some (.int ((0+j:Nat):Int)),some (.int c),o6,o7,o8,none,none,none,none,none] hh) _
   rw [e];exact λ_=>⟨m',K',X',V',Kx',ps',_,_,a6,a7,a8,rfl,S',Z',by lia,wg lp lp'⟩)
 have nl:∀ (xs:List AV) (k:Nat),(Sm.numbered k xs).length=xs.length:=λxs=>by
  induction xs with
  | nil=>intro k;rfl
  | cons x xs ih=>intro k;simp [Sm.numbered,ih (k+1)]
 rw [nl,Nc] at q4;obtain ⟨m,K,X,V,Kx,ps,o4,o5,o6,o7,o8,rfl,S,Z,mj,lp⟩:=q4 lc
 have lp7:=Bu lp lc
 have zct:=Z.ct
 have l4:=cL S.ss
 obtain ⟨N,st⟩:=AW ns hl 1 (by decide) h4
 have st:iB [.fl (ns.map AV.int),.int 1] h4 = .ok (.ref h4.length) (h4++[.lst [.int N]]):=st
 obtain ⟨L,eL⟩:∃ L,L=h4.length:=⟨_,rfl⟩
 obtain ⟨h5,eh5⟩:∃ h5,h5=h4++[AO.lst [.int N]]:=⟨_,rfl⟩
 rw [<- eL,<- eh5] at st;have k5:∀ i,i<L->h5[i]? = h4[i]? := λi hi=>by rw [eh5,Nb (by lia)]
 have L5:h5[L]? = some (.lst [.int N]):=by rw [eh5,eL];simp
 obtain ⟨v4,N6,hv4,tk⟩:=mQ 4 L5 (by decide) (by decide)
 have tk:bD [.ref L,.int 4] h5 = .ok (.int v4) (h5.set L (.lst [.int N6])):=tk
 obtain ⟨h6,eh6⟩:∃ h6,h6=h5.set L (.lst [.int N6]):=⟨_,rfl⟩
 rw [<- eh6] at tk;have k6:∀ i,i<L->h6[i]? = h4[i]? := λi hi=>by rw [eh6,M5 (by lia)];exact k5 i hi
 have L6:h6[L]? = some (.lst [.int N6]):=by rw [eh6];exact Na (cL L5)
 have S6:Sz h6 m X V Kx ps:=⟨S.hy,S.k0,S.ho.keep λi hi=>k6 i (by lia),(k6 14 (by lia)).trans S.ss⟩
 obtain ⟨n,hn,pk⟩:=KZ v4 hv4
 obtain ⟨h7,M,X,V,Kx,ps,md,S7,hM,k7⟩:=KP S6 (by lia) (by lia) (by lia) hn
 have I7:Iv M X V Kx ps L h7 M:=⟨⟨⟨_,by rw [Nat.sub_self,List.range_zero,O8];exact S7.ho,λ_=>rfl⟩,λ_ _=>rfl,rfl⟩,S7.ss,⟨N6,(k7 L (by lia)).trans L6⟩,MZ _⟩
 obtain ⟨v3,h8,hv3,t8,I8⟩:=I7.take (by lia) 3 (by decide) (by decide)
 have t8:bD [.ref L,.int 3] h7 = .ok (.int v3) h8:=t8
 obtain ⟨e9,h9,r9,r',c11,c12,c13,rfl,I9⟩:=jC (w:=none) (all:=cP 0 (1+v3)) (t:=.nm 11) (b:=ot) (xs:=cP 0 (1+v3)) (en:=eW sc (some (.ref K)) o4 o5 o6 o7 o8 L M none none none) (h:=h8)
  (λt en hx=>∃ r' c11 c12 c13,en=eW sc (some (.ref K)) o4 o5 o6 o7 o8 L r' c11 c12 c13/\Iv M X V Kx ps L hx r') ⟨M,none,none,none,rfl,I8⟩ (λ_ _ _ _=>rfl) (by
   rintro t u en hx hu ⟨r',c11,c12,c13,rfl,I⟩
   obtain ⟨r2,h',d12,d13,e,I2⟩:=KU S7.hy (by lia) (by lia) I sc (some (.ref K)) o4 o5 o6 o7 o8 (some u) c12 c13
   show thn (ot (eW sc (some (.ref K)) o4 o5 o6 o7 o8 L r' (some u) c12 c13) hx) _
   rw [e];exact ⟨r2,_,_,_,rfl,I2⟩)
 obtain ⟨hA,d13,rA,IA⟩:=KW S7.hy (by lia) (by lia) I9 sc (some (.ref K)) o4 o5 o6 o7 o8 c11 c12 c13
 have nA:=KY S7.hy S7.k0 IA
 obtain ⟨kxA,HA,_⟩:=IA.at_.ho
 unfold uO
 refine gh (P:=λo=>∃ h',o = .ok (.bl true) h') rfl ?_
 obtain ⟨PP,ePP⟩:∃ PP:OutS->Prop,PP=λo=>∃ h',aR o = .ok (.bl true) h' := ⟨_,rfl⟩
 have toP:∀ o,PP o->∃ h',aR o = .ok (.bl true) h' := λo z=>by rw [ePP] at z;exact z
 have ofP:∀ h',PP (.rt (.bl true) h'):=λh' => by rw [ePP];exact ⟨h',rfl⟩
 clear ePP;refine toP _ ?_
 refine bQ (e2:=[sc,some (.ref 0),none,none,none,none,none,none,none,none,none,none,none,none]) (h2:=h0) ?_ ?_
 ·have mk' := mk
  rw [esc] at mk' ⊢;generalize lV 1 4 mB ag=MK at *;simp [mk']
 refine bQ (e2:=[sc,some (.ref 0),some (.ref 13),none,none,none,none,none,none,none,none,none,none,none]) (h2:=h1) ?_ ?_
 ·rw [eh1]
  simp [l0]
 refine bQ (e2:=[sc,some (.ref 0),some (.ref 13),some (.ref 14),none,none,none,none,none,none,none,none,none,none]) (h2:=h2) ?_ ?_
 ·rw [eh2]
  simp [l1]
 refine bQ ((jD (t:=.tup [4,5]) (b:=oo) (h1:=h2) (w:=none) (xs:=Sm.numbered 0 (cells.map AV.int)) ?_).trans r4) ?_
 ·have sl:min 30 ns.length+2<=sizeLine:=M6 (m:=32) (by lia) (by decide)
  have ct:dE (.fl (ns.map AV.int)) none (some 30) h2 = .ok (.fl ((ns.map AV.int).take 30)) h2:=KQ _ 30 h2
  have ad:aE (.fl ((ns.map AV.int).take 30)) (.fl [.int 0,.int 1]) h2 = .ok (.fl (cells.map AV.int)) h2:=by
   have q:((ns.map AV.int).take 30).length+[AV.int 0,.int 1].length<=sizeLine:=by rw [Oa,Nc];exact sl
   show (if ((ns.map AV.int).take 30).length+[AV.int 0,.int 1].length<=sizeLine then Out.ok (AV.fl ((ns.map AV.int).take 30++[AV.int 0,.int 1])) h2 else .bad)=_
   rw [M8 q,ecl,N9,List.map_take];rfl
  rw [esc];clear esc ecl;generalize ns.map AV.int=NS at *;generalize cells.map AV.int=CS at *;generalize NS.take 30=NT at *;simp [ct,ad,-dE,-aE]
 refine bQ (e2:=[sc,some (.ref 0),some (.ref K),some (.ref 14),o4,o5,o6,o7,o8,some (.ref L),none,none,none,none]) (h2:=h5) ?_ ?_
 ·rw [esc]
  generalize iB=G at *;generalize ns.map AV.int=NS at *;simp [st]
 refine dC (h1:=h7) ?_ ?_
 ·have q:=pk h6
  clear pk r4 r9 rA;generalize om=G1 at *;generalize bD=G2 at *;generalize (n:Int)=NN at *;generalize (v4:Int)=VV at *;simp [tk,q,md,-aw]
 refine bQ (e2:=eW sc (some (.ref K)) o4 o5 o6 o7 o8 L M none none none) (h2:=h7) ?_ ?_
 ·have ln:=I7.len
  have sb:bH (.int ((M+1:Nat):Int)) (.int 1) h7 = .ok (.int M) h7:=by
   have:((M+1:Nat):Int)-1=M:=by lia
   simp only [bH,this]
  unfold eW
  generalize ((M+1:Nat):Int)=M1 at *;generalize (M:Int)=M0 at *;simp [ln,sb,-aJ,-bH]
 refine bQ ((jD (t:=.nm 11) (b:=ot) (mL (n:=1+v3) (h1:=h8) ?_ (by lia))).trans r9) ?_
 ·have ad:aE (.int 1) (.int v3) h8 = .ok (.int ((1+v3:Nat):Int)) h8:=oQ (a:=1) rfl h8
  clear r9 rA r4;generalize ((1+v3:Nat):Int)=V1 at *;generalize (v3:Int)=V3 at *;generalize bD=G at *;simp [t8,ad,-aE]
 refine bQ ((jD (t:=.nm 13) (b:=lA) (mL (n:=M+2) (h1:=h9) ?_ (by lia))).trans rA) ?_
 ·have ln:=I9.len
  have ad:aE (.int ((M+1:Nat):Int)) (.int 1) h9 = .ok (.int ((M+2:Nat):Int)) h9:=oQ (b:=1) rfl h9
  clear r9 rA r4;generalize ((M+1:Nat):Int)=M1 at *;generalize ((M+2:Nat):Int)=M2 at *;simp [ln,ad,-aJ,-aE]
 refine gi (v:=.bl true) (h' := hA) ?_ (ofP hA)
 have obA:=HA.ob
 have eq:=Bo [] hA
 have eq:aG (.fl []) (.fl []) hA = .ok (.bl true) hA:=eq
 have eq0:aG (.int ((0:Nat):Int)) (.int 0) hA = .ok (.bl true) hA:=by simp
 generalize iY=G at *;unfold eW
 generalize ((0:Nat):Int)=Z0 at *;simp [obA,nA,eq,eq0,-aG]
theorem Bv:bootBuiltins "sorted" = some (.builtin "sorted"):=by decide +kernel
def br (i:Nat):Stmt:=PySem.Challenge.pw_skeinwood_k81_back_and_again.main.body.getD i (.Pass ⟨0,0,0,0⟩)
abbrev wj:Stmt:=cI (br 22) 0
abbrev wk:Stmt:=cI (br 46) 0
abbrev wo:Stmt:=br 49
abbrev rH:Stmt:=br 50
abbrev wq:Stmt:=br 51
abbrev wt:Stmt:=br 55
abbrev wu:Stmt:=br 52
abbrev wx:Stmt:=br 56
abbrev wy:Stmt:=br 57
abbrev wz:Stmt:=br 58
abbrev wA:Stmt:=cI (br 46) 14
abbrev wB:Stmt:=cI (br 46) 11
abbrev rJ:Stmt:=br 18
abbrev wC:Stmt:=br 47
abbrev wD:Stmt:=cI (br 46) 13
abbrev wF:Stmt:=br 14
abbrev wG:Stmt:=cI (br 22) 11
abbrev wH:Stmt:=cI (br 22) 12
abbrev wI:Stmt:=cI (br 22) 14
abbrev wJ:Stmt:=cI (br 22) 17
abbrev wK:Stmt:=cI (br 22) 16
abbrev wL:Stmt:=cI (br 22) 2
abbrev wM:Stmt:=br 35
abbrev wN:Stmt:=br 16
abbrev rK:Stmt:=br 15
abbrev wO:Stmt:=br 17
abbrev wQ:Stmt:=br 19
abbrev wR:Stmt:=cI (br 22) 15
abbrev wU:Stmt:=cI (br 22) 1
abbrev rL:Stmt:=br 25
abbrev wV:Stmt:=cI (br 46) 4
abbrev wW:Stmt:=cI (br 46) 3
abbrev wX:Stmt:=cI (br 46) 5
abbrev wY:Stmt:=br 27
abbrev wZ:Stmt:=cI (br 22) 13
abbrev w4:Stmt:=cI (br 22) 5
abbrev w6:Stmt:=cI (br 22) 10
abbrev w8:Stmt:=cI (br 22) 9
abbrev xa:Stmt:=br 28
abbrev xb:Stmt:=cI (br 22) 4
abbrev xg:Stmt:=br 33
abbrev xh:Stmt:=cI (br 22) 8
abbrev xj:Stmt:=br 30
abbrev xk:Stmt:=br 34
abbrev xl:Stmt:=br 31
abbrev xm:Stmt:=br 29
abbrev xn:Stmt:=br 32
abbrev xp:Stmt:=br 24
abbrev xq:Stmt:=cI (br 46) 6
abbrev xr:Stmt:=br 38
abbrev xt:Stmt:=br 43
abbrev xu:Stmt:=br 44
abbrev xw:Stmt:=br 41
abbrev xx:Stmt:=cI (br 46) 7
abbrev xy:Stmt:=br 39
abbrev xA:Stmt:=br 42
abbrev xB:Stmt:=cI (br 46) 8
abbrev xC:Stmt:=br 36
abbrev xD:Stmt:=br 26
abbrev xE:Stmt:=cI (br 46) 9
abbrev xF:Stmt:=cI (br 46) 10
abbrev xG:Stmt:=cI (br 46) 12
abbrev xH:Stmt:=br 53
abbrev xI:Stmt:=br 54
abbrev xJ:Stmt:=cI (br 46) 2
abbrev rM:Stmt:=br 59
abbrev xK:Stmt:=br 61
abbrev xM:Stmt:=cI (br 22) 3
abbrev xN:Stmt:=cI (br 46) 1
abbrev xO:Stmt:=br 60
abbrev rN:Stmt:=br 62
def bj:Nat->List Str
 | 0=>["pieces", "numbers", "sign_counts", "end_counts", "leaf_counts", "heights", "first_leaves", "last_leaves"]
 | 1=>["own_shelf", "texts", "deeds", "taken_back"]
 | _=>[]
theorem K0:∀ c,(bj c).Nodup
 | 0=>by decide +kernel
 | 1=>by decide +kernel
 | _+2=>O4
theorem K1:∀ c,(bj c).length<=500
 | 0=>by decide +kernel
 | 1=>by decide +kernel
 | _+2=>NB _
abbrev aY (K:PySem.W.Frag) (cls exc:Nat->Option Addr):Tb:=⟨K,cls,exc,bj,K0,K1⟩
structure ka (P:Program) (w:World) (K:PySem.W.Frag) (cls exc:Nat->Option Addr) (mg:Str->Option Value) (base:Heap):Prop where
 b_abs:mg "abs" = none
 b_all:mg "all" = none
 b_bool:mg "bool" = none
 b_dict:mg "dict" = none
 b_enumerate:mg "enumerate" = none
 b_int:mg "int" = none
 b_isinstance:mg "isinstance" = none
 b_len:mg "len" = none
 b_max:mg "max" = none
 b_min:mg "min" = none
 b_range:mg "range" = none
 b_sorted:mg "sorted" = none
 b_str:mg "str" = none
 b_sum:mg "sum" = none
 c_LEAF_SIGNS:∃ t,mg "LEAF_SIGNS" = some (.int 8 t)
 c_NAME_SIGNS:∃ t,mg "NAME_SIGNS" = some (.int 8 t)
 c_MOST_PLAIN:∃ t,mg "MOST_PLAIN" = some (.int 10000 t)
 c_MOST_SIGNS:∃ t,mg "MOST_SIGNS" = some (.int 1000000000000000000 t)
 cf_Shelf:CF (aY K cls exc) 0
 cf_House:CF (aY K cls exc) 1
 x_NothingDone:GX (aY K cls exc) mg base 0 "NothingDone"
 d_Shelf_init:DI K cls mg 0 "Shelf" "Shelf.__init__" wj ["self"]
 d_House_init:DI K cls mg 1 "House" "House.__init__" wk ["self"]
 d_law_mixed:DG K mg "_law_mixed" wo ["cell", "k"]
 d_law_stream:DG K mg "_law_stream" rH ["script", "k"]
 d_law_take:DG K mg "_law_take" wq ["stream", "many"]
 d_law_name:DG K mg "_law_name" wt ["stream", "known", "odd"]
 d_law_plain:DG K mg "_law_plain" wu ["stream", "most"]
 d_law_given:DG K mg "_law_given" wx ["stream", "known"]
 d_law_changed:DG K mg "_law_changed" wy ["stream", "known"]
 d_law_deed:DG K mg "_law_deed" wz ["stream", "known"]
 d_House_set_text:cK K cls 1 "set_text" "House.set_text" wA ["self", "name", "text"]
 d_House_back:cK K cls 1 "back" "House.back" wB ["self"]
 d_is_name:DG K mg "is_name" rJ ["thing"]
 d_check_name:DG K mg "check_name" wC ["name"]
 d_House_do:cK K cls 1 "do" "House.do" wD ["self", "name", "text"]
 d_is_whole:DG K mg "is_whole" wF ["thing"]
 d_Shelf_has_piece:cK K cls 0 "has_piece" "Shelf.has_piece" wG ["self", "number"]
 d_Shelf_check_piece:cK K cls 0 "check_piece" "Shelf.check_piece" wH ["self", "number"]
 d_Shelf_check_fork:cK K cls 0 "check_fork" "Shelf.check_fork" wI ["self", "one", "other"]
 d_Shelf_lay:cK K cls 0 "lay" "Shelf.lay" wJ ["self", "made"]
 d_Shelf_lay_fork:cK K cls 0 "lay_fork" "Shelf.lay_fork" wK ["self", "made"]
 d_Shelf_fork:cK K cls 0 "fork" "Shelf.fork" wL ["self", "one", "other"]
 d_halved:DG K mg "halved" wM ["shelf", "leaves"]
 d_is_plain_sign:DG K mg "is_plain_sign" wN ["sign"]
 d_is_plain:DG K mg "is_plain" rK ["thing"]
 d_is_short:DG K mg "is_short" wO ["thing"]
 d_ends_in:DG K mg "ends_in" wQ ["plain"]
 d_Shelf_lay_leaf:cK K cls 0 "lay_leaf" "Shelf.lay_leaf" wR ["self", "made"]
 d_Shelf_leaf:cK K cls 0 "leaf" "Shelf.leaf" wU ["self", "plain"]
 d_built:DG K mg "built" rL ["shelf", "plain"]
 d_House_give:cK K cls 1 "give" "House.give" wV ["self", "name", "plain"]
 d_House_text:cK K cls 1 "text" "House.text" wW ["self", "name"]
 d_House_copy_of:cK K cls 1 "copy_of" "House.copy_of" wX ["self", "name", "other"]
 d_check_length:DG K mg "check_length" wY ["signs"]
 d_Shelf_check_text:cK K cls 0 "check_text" "Shelf.check_text" wZ ["self", "text"]
 d_Shelf_signs:cK K cls 0 "signs" "Shelf.signs" w4 ["self", "text"]
 d_Shelf_last_leaf:cK K cls 0 "last_leaf" "Shelf.last_leaf" w6 ["self", "text"]
 d_Shelf_first_leaf:cK K cls 0 "first_leaf" "Shelf.first_leaf" w8 ["self", "text"]
 d_are_close:DG K mg "are_close" xa ["shelf", "one", "other"]
 d_Shelf_piece:cK K cls 0 "piece" "Shelf.piece" xb ["self", "number"]
 d_with_last:DG K mg "with_last" xg ["shelf", "text", "leaf"]
 d_Shelf_height:cK K cls 0 "height" "Shelf.height" xh ["self", "text"]
 d_turned_left:DG K mg "turned_left" xj ["shelf", "one", "other"]
 d_without_first:DG K mg "without_first" xk ["shelf", "text"]
 d_turned_right:DG K mg "turned_right" xl ["shelf", "one", "other"]
 d_linked:DG K mg "linked" xm ["shelf", "one", "other"]
 d_welded:DG K mg "welded" xn ["shelf", "one", "other"]
 d_joined:DG K mg "joined" xp ["shelf", "one", "other"]
 d_House_join_to:cK K cls 1 "join_to" "House.join_to" xq ["self", "name", "other"]
 d_check_gap:DG K mg "check_gap" xr ["shelf", "text", "at"]
 d_front_of:DG K mg "front_of" xt ["shelf", "text", "at"]
 d_back_of:DG K mg "back_of" xu ["shelf", "text", "at"]
 d_put_in:DG K mg "put_in" xw ["shelf", "text", "at", "other"]
 d_House_put_into:cK K cls 1 "put_into" "House.put_into" xx ["self", "name", "at", "other"]
 d_check_stretch:DG K mg "check_stretch" xy ["shelf", "text", "begin", "end"]
 d_taken_out:DG K mg "taken_out" xA ["shelf", "text", "begin", "end"]
 d_House_take_from:cK K cls 1 "take_from" "House.take_from" xB ["self", "name", "begin", "end"]
 d_doubled:DG K mg "doubled" xC ["shelf", "text", "many"]
 d_repeated:DG K mg "repeated" xD ["shelf", "text", "many"]
 d_House_repeat:cK K cls 1 "repeat" "House.repeat" xE ["self", "name", "many"]
 d_House_drop:cK K cls 1 "drop" "House.drop" xF ["self", "name"]
 d_House_again:cK K cls 1 "again" "House.again" xG ["self"]
 d_law_do:DG K mg "_law_do" xH ["house", "deed"]
 d_law_word:DG K mg "_law_word" xI ["house", "deed"]
 d_House_names:cK K cls 1 "names" "House.names" xJ ["self"]
 d_law_numbers:DG K mg "_law_numbers" rM ["house"]
 d_law_many_deeds:DG K mg "_law_many_deeds" xK ["house", "states", "many"]
 d_Shelf_many:cK K cls 0 "many" "Shelf.many" xM ["self"]
 d_House_shelf:cK K cls 1 "shelf" "House.shelf" xN ["self"]
 d_law_moved:DG K mg "_law_moved" xO ["house", "word", "at", "states"]
 d_law:DG K mg "law" rN ["script"]
 cu_NoName:CU (aY K cls exc) mg "NoName" uG
 cu_NoPlace:CU (aY K cls exc) mg "NoPlace" uH
 cu_NoText:CU (aY K cls exc) mg "NoText" uI
 cu_NothingDone:CU (aY K cls exc) mg "NothingDone" uJ
 cu_TooLong:CU (aY K cls exc) mg "TooLong" uK
theorem K3:aq ["self"] ["self"] (aP wj):=bq
theorem K4:aq ["self"] ["self"] (aP wk):=bq
theorem K5:aq ["cell", "k", "one"] ["cell", "k"] (aP wo):=bq
theorem K6:aq ["script", "k", "cell", "j", "found"] ["script", "k"] (aP rH):=bq
theorem K7:aq ["stream", "many", "digit"] ["stream", "many"] (aP wq):=bq
theorem K8:aq ["stream", "known", "odd", "some", "kind"] ["stream", "known", "odd"] (aP wt):=bq
theorem K9:aq ["stream", "most", "kinds", "found", "k"] ["stream", "most"] (aP wu):=bq
theorem La:aq ["stream", "known", "odd", "name", "other", "due", "plain"] ["stream", "known"] (aP wx):=bq
theorem Lb:aq ["stream", "known", "kind", "name", "other", "plain", "more", "gone", "both", "at", "end", "due", "many"] ["stream", "known"] (aP wy):=bq
theorem Lc:aq ["stream", "known", "kind", "name", "left", "deed", "due", "plain", "behind"] ["stream", "known"] (aP wz):=bq
theorem Ld:aq ["self", "name", "text"] ["self", "name", "text"] (aP wA):=bq
theorem Le:aq ["self", "deed"] ["self"] (aP wB):=bq
theorem Lf:aq ["thing"] ["thing"] (aP rJ):=bq
theorem Lg:aq ["name"] ["name"] (aP wC):=bq
theorem Lh:aq ["self", "name", "text"] ["self", "name", "text"] (aP wD):=bq
theorem Li:aq ["thing"] ["thing"] (aP wF):=bq
theorem Lj:aq ["self", "number"] ["self", "number"] (aP wG):=bq
theorem Lk:aq ["self", "number"] ["self", "number"] (aP wH):=bq
theorem Lm:aq ["self", "one", "other", "seam"] ["self", "one", "other"] (aP wI):=bq
theorem Ln:aq ["self", "made", "number"] ["self", "made"] (aP wJ):=bq
theorem Lo:aq ["self", "made", "one", "other"] ["self", "made"] (aP wK):=bq
theorem Lp:aq ["self", "one", "other", "made"] ["self", "one", "other"] (aP wL):=bq
theorem Bw:aq ["shelf", "leaves", "middle"] ["shelf", "leaves"] (aP wM):=bq
theorem Lq:aq ["sign"] ["sign"] (aP wN):=bq
theorem Lr:aq ["thing"] ["thing"] (aP rK):=bq
theorem Ls:aq ["thing"] ["thing"] (aP wO):=bq
theorem Lu:aq ["plain"] ["plain"] (aP wQ):=bq
theorem Lv:aq ["self", "made", "number", "plain"] ["self", "made"] (aP wR):=bq
theorem Lw:aq ["self", "plain", "made"] ["self", "plain"] (aP wU):=bq
theorem Lx:aq ["shelf", "plain", "leaves"] ["shelf", "plain"] (aP rL):=bq
theorem Ly:aq ["self", "name", "plain"] ["self", "name", "plain"] (aP wV):=bq
theorem Lz:aq ["self", "name"] ["self", "name"] (aP wW):=bq
theorem LA:aq ["self", "name", "other"] ["self", "name", "other"] (aP wX):=bq
theorem LB:aq ["signs"] ["signs"] (aP wY):=bq
theorem LC:aq ["self", "text"] ["self", "text"] (aP wZ):=bq
theorem LD:aq ["self", "text"] ["self", "text"] (aP w4):=bq
theorem LF:aq ["self", "text"] ["self", "text"] (aP w6):=bq
theorem LG:aq ["self", "text"] ["self", "text"] (aP w8):=bq
theorem LH:aq ["shelf", "one", "other"] ["shelf", "one", "other"] (aP xa):=bq
theorem LI:aq ["self", "number"] ["self", "number"] (aP xb):=bq
theorem Bx:aq ["shelf", "text", "leaf", "piece"] ["shelf", "text", "leaf"] (aP xg):=bq
theorem LJ:aq ["self", "text"] ["self", "text"] (aP xh):=bq
theorem LM:aq ["shelf", "one", "other", "piece", "near", "far", "inner"] ["shelf", "one", "other"] (aP xj):=bq
theorem By:aq ["shelf", "text", "piece", "rest"] ["shelf", "text"] (aP xk):=bq
theorem LN:aq ["shelf", "one", "other", "piece", "far", "near", "inner"] ["shelf", "one", "other"] (aP xl):=bq
theorem Bz:aq ["shelf", "one", "other", "tilt", "piece"] ["shelf", "one", "other"] (aP xm):=bq
theorem LO:aq ["shelf", "one", "other", "seam", "front", "back"] ["shelf", "one", "other"] (aP xn):=bq
theorem LP:aq ["shelf", "one", "other"] ["shelf", "one", "other"] (aP xp):=bq
theorem LQ:aq ["self", "name", "other"] ["self", "name", "other"] (aP xq):=bq
theorem LR:aq ["shelf", "text", "at", "signs"] ["shelf", "text", "at"] (aP xr):=bq
theorem BC:aq ["shelf", "text", "at", "piece", "ahead"] ["shelf", "text", "at"] (aP xt):=bq
theorem BD:aq ["shelf", "text", "at", "piece", "ahead"] ["shelf", "text", "at"] (aP xu):=bq
theorem LU:aq ["shelf", "text", "at", "other", "together", "front"] ["shelf", "text", "at", "other"] (aP xw):=bq
theorem LV:aq ["self", "name", "at", "other"] ["self", "name", "at", "other"] (aP xx):=bq
theorem LW:aq ["shelf", "text", "begin", "end", "signs"] ["shelf", "text", "begin", "end"] (aP xy):=bq
theorem LX:aq ["shelf", "text", "begin", "end"] ["shelf", "text", "begin", "end"] (aP xA):=bq
theorem LY:aq ["self", "name", "begin", "end"] ["self", "name", "begin", "end"] (aP xB):=bq
theorem BE:aq ["shelf", "text", "many", "half", "twice"] ["shelf", "text", "many"] (aP xC):=bq
theorem LZ:aq ["shelf", "text", "many", "signs"] ["shelf", "text", "many"] (aP xD):=bq
theorem L0:aq ["self", "name", "many"] ["self", "name", "many"] (aP xE):=bq
theorem L3:aq ["self", "name"] ["self", "name"] (aP xF):=bq
theorem L4:aq ["self", "deed"] ["self"] (aP xG):=bq
theorem L7:aq ["house", "deed"] ["house", "deed"] (aP xH):=bq
theorem L8:aq ["house", "deed", "told", "e"] ["house", "deed"] (aP xI):=bq
theorem L9:aq ["self"] ["self"] (aP xJ):=bq
theorem Ma:aq ["house"] ["house"] (aP rM):=bq
theorem Mb:aq ["house", "states", "many", "k", "name"] ["house", "states", "many"] (aP xK):=bq
theorem Mc:aq ["self"] ["self"] (aP xM):=bq
theorem Md:aq ["self"] ["self"] (aP xN):=bq
theorem Me:aq ["house", "word", "at", "states", "to", "due", "many"] ["house", "word", "at", "states"] (aP xO):=bq
theorem Mf:aq ["script", "house", "known", "states", "k", "cell", "deed", "due", "behind", "stream", "at", "turn", "word", "step"] ["script"] (aP rN):=bq
section
variable {P:Program} {w:World} {K:PySem.W.Frag} {cls exc:Nat->Option Addr} {mg:Str->Option Value} {base:Heap} (Z:ka P w K cls exc mg base)
include Z
theorem Mg:GK P w (aY K cls exc) mg base 1 0 "Shelf" uL:=gk Z.d_Shelf_init K3 λhr C hu nd =>
 (aA (hV rfl Z.cf_Shelf (ai 0) (hU ar))
  (aA (hV rfl Z.cf_Shelf (ai 0) GP)
  (aA (hV rfl Z.cf_Shelf (ai 0) (hU (ak az ar)))
  (aA (hV rfl Z.cf_Shelf (ai 0) (hU (ak az ar)))
  (aA (hV rfl Z.cf_Shelf (ai 0) (hU (ak az ar)))
  (aA (hV rfl Z.cf_Shelf (ai 0) (hU (ak (t9 az) ar)))
  (aA (hV rfl Z.cf_Shelf (ai 0) (hU (ak az ar)))
  (aH (hV rfl Z.cf_Shelf (ai 0) (hU (ak az ar)))))))))))
theorem Mh:GK P w (aY K cls exc) mg base 3 1 "House" mB:=gk Z.d_House_init K4 λhr C hu nd =>
 (aA (hV rfl Z.cf_House (ai 0) (zt rfl C (Mg Z) hr.m rfl))
  (aA (hV rfl Z.cf_House (ai 0) uc)
  (aA (hV rfl Z.cf_House (ai 0) (hU ar))
  (aH (hV rfl Z.cf_House (ai 0) (hU ar))))))
theorem Mi:GF P w (aY K cls exc) mg base 1 "_law_mixed" qt:=gf Z.d_law_mixed K5 λhr C hu nd =>
 (aA (aV (i:=2) nd (bc iw (bc iQ (bc (cF rfl) (bc (cF rfl) (bc iw (ai 0) az) (bc iQ az (ai 1))) az) az) az))
  (aH (aO (bc iw (bc iQ (bc iw (bc iQ (ai 2) (ai 2)) az) az) az))))
theorem BF:GF P w (aY K cls exc) mg base 2 "_law_stream" iB:=gf Z.d_law_stream K6 λ{f cdv A outer s H E} hr C hu nd =>
 (aA (aV (i:=2) nd az)
  (aA (ju rfl (zI (E:=EN) rfl Z.b_range (ai 1) (bg (b_len rfl) rfl Z.b_len Nz (ak (ai 0) ar)) az) (jU (i:=3) nd) (aH (aV (i:=2) nd (bc (cF rfl) (bc iQ (ai 2) (bc iQ (bc kO az az) (bc kO az az))) (bc iw (au rfl hu (ai 0) (ai 3)) (bc iQ (bc kO az az) (bc kO az az)))))))
  (aA (aF (bp nF (ai 2) (bc kO az az) (bh _)) (aH (aO (hU (ak (ai 2) ar)))) bf)
  (aA (aV (i:=2) nd (bc (cF rfl) (ai 2) (bg (b_sum rfl) rfl Z.b_sum PyProof.Rows.boot_sum (ak (p8 (jf:=[]) (nO (N:=["script", "k", "cell", "j", "found"]) (sc:=aP rH) rfl (λ_=>rfl) (by decide +kernel)) rfl (nH (E:=(λ_=>E)) rfl (ai 0)) (λ_ _ _ _ _=>nI) (λ_ _ _ _ _=>(bc iw (ai 0) (bc kO az az)))) ar))))
  (aA (aV (i:=4) nd az)
  (aA (ju rfl (lZ (E:=EN) rfl Z.b_range az) (jU (i:=3) nd) (aH (aV (i:=4) nd (bc (cF rfl) (bc iQ (ai 4) az) (aW rfl (C.nox) (Mi Z) hr.m rfl (ak (bc (cF rfl) (bc (cF rfl) (ai 2) (bc iQ az (ai 1))) (bg (b_len rfl) rfl Z.b_len Nz (ak (ai 0) ar))) (ak (ai 3) ar)))))))
  (aH (aO (hU (ak (ai 4) ar))))))))))
theorem eX:GF P w (aY K cls exc) mg base 1 "_law_take" bD:=gf Z.d_law_take K7 λhr C hu nd =>
 (aA (aV (i:=2) nd (bc iw (au rfl hu (ai 0) az) (ai 1)))
  (aA (qe hu (ai 0) az (bc nC (au rfl hu (ai 0) az) (ai 1)))
  (aH (aO (ai 2)))))
theorem o9:GF P w (aY K cls exc) mg base 2 "_law_name" fA:=gf Z.d_law_name K8 λhr C hu nd =>
 (aA (aV (i:=3) nd (HW rfl rfl Z.b_sorted Bv (ai 1)))
  (aA (aV (i:=4) nd (aW rfl C (eX Z) hr.m rfl (ak (ai 0) (ak az ar))))
  (aA (aF (bp (aX rfl hu) (ai 4) az (bh _)) (aH (aO (au rfl hu (ai 2) (aW rfl C (eX Z) hr.m rfl (ak (ai 0) (ak (bg (b_len rfl) rfl Z.b_len Nz (ak (ai 2) ar)) ar)))))) bf)
  (aA (aF (jq (ub (bp fU (ai 4) az (bh _)) (ua (bp (aX rfl hu) (ai 3) (cH ar) (bh _))))) (aH (aO (au rfl hu (cH (ak aK (ak aK (ak aK (ak aK (ak aK (ak aK ar))))))) (aW rfl C (eX Z) hr.m rfl (ak (ai 0) (ak az ar)))))) bf)
  (aH (aO (au rfl hu (ai 3) (aW rfl C (eX Z) hr.m rfl (ak (ai 0) (ak (bg (b_len rfl) rfl Z.b_len Nz (ak (ai 3) ar)) ar))))))))))
theorem Mj:GF P w (aY K cls exc) mg base 2 "_law_plain" mE:=gf Z.d_law_plain K9 λhr C hu nd =>
 (aA (aV (i:=2) nd (au rfl hu (cH (ak aK (ak aK (ak aK (ak aK (ak aK ar)))))) (aW rfl C (eX Z) hr.m rfl (ak (ai 0) (ak az ar)))))
  (aA (aV (i:=3) nd aK)
  (aA (ju rfl (lZ (E:=EN) rfl Z.b_range (aW rfl (C.nox) (eX Z) hr.m rfl (ak (ai 0) (ak (bc (cF rfl) (ai 1) az) ar)))) (jU (i:=4) nd) (aH (aV (i:=3) nd (bc (cF rfl) (ai 3) (au rfl hu (ai 2) (aW rfl (C.nox) (eX Z) hr.m rfl (ak (ai 0) (ak (bg (b_len rfl) rfl Z.b_len Nz (ak (ai 2) ar)) ar))))))))
  (aH (aO (ai 3))))))
theorem Ml:GF P w (aY K cls exc) mg base 3 "_law_given" mF:=gf Z.d_law_given La λhr C hu nd =>
 (@aA _ _ _ _ _ _ _ (@aV _ _ _ _ _ _ 2 _ _ nd (@cH _ _ _ _ _ _ (@iA _ _ _ _ _ _ _ aK (@iA _ _ _ _ _ _ _ aK (@iA _ _ _ _ _ _ _ aK (@iA _ _ _ _ _ _ _ aK (@iA _ _ _ _ _ _ _ aK (@iA _ _ _ _ _ _ _ jn (@iA _ _ _ _ _ _ _ az (@iA _ _ _ _ _ _ _ dX (@iA _ _ _ _ _ _ _ (cH (ak aK ar)) (@iA _ _ _ _ _ _ _ (c6 (ak aK ar)) (@iA _ _ _ _ _ _ _ uc ar rfl) rfl) rfl) rfl) rfl) rfl) rfl) rfl) rfl) rfl) rfl)) rfl (Or.inl rfl) rfl (.inl rfl))
  (aA (aV (i:=3) nd (aW rfl C (o9 Z) hr.m rfl (ak (ai 0) (ak (ai 1) (ak (ai 2) ar)))))
  (aA (aF (bp (aX rfl hu) (aW rfl C (eX Z) hr.m rfl (ak (ai 0) (ak az ar))) az (bh _)) (aA (aV (i:=4) nd (aW rfl C (o9 Z) hr.m rfl (ak (ai 0) (ak (ai 1) (ak (cH (ak aK (ak aK (ak aK ar)))) ar)))))
  (aA (aV (i:=5) nd (au rfl hu (cH (ak aK (ak aK ar))) (cX (b_int) rfl Z.b_int gZ (ak (jr (fV (z8 rfl hu) (ai 3) (ai 2) rfl) (gJ (fV (jX rfl hu) (ai 4) (ai 1) rfl))) ar))))
  (aH (aO (c6 (ak (c6 (ak aK (ak (ai 3) (ak (ai 4) ar)))) (ak (ai 5) (ak (uw hu (ai 1) (ai 4) aK) ar)))))))) bf)
  (aA (aV (i:=6) nd (aW rfl C (Mj Z) hr.m rfl (ak (ai 0) (ak az ar))))
  (aA (aF (bp (aX rfl hu) (aW rfl C (eX Z) hr.m rfl (ak (ai 0) (ak az ar))) az (bh _)) (aH (aV (i:=6) nd (au rfl hu (cH (ak jn (ak az (ak aK (ak (cH (ak aK ar)) (ak dX (ak aK ar))))))) (aW rfl C (eX Z) hr.m rfl (ak (ai 0) (ak az ar)))))) bf)
  (aA (aV (i:=5) nd (au rfl hu (cH (ak aK (ak aK ar))) (cX (b_int) rfl Z.b_int gZ (ak (jr (nG (nN rfl rfl Z.b_isinstance (ai 6) rfl Z.b_str tJ (by decide))) (gJ (fV (uk rfl hu) aK (ai 6) rfl))) ar))))
  (aA (aF (bp (z8 rfl hu) (ai 3) (ai 2) rfl) (aH (aV (i:=5) nd aK)) bf)
  (aH (aO (c6 (ak (c6 (ak aK (ak (ai 3) (ak (ai 6) ar)))) (ak (ai 5) (ak (ai 6) ar)))))))))))))
theorem Mm:GF P w (aY K cls exc) mg base 3 "_law_changed" mG:=gf Z.d_law_changed Lb λhr C hu nd =>
 (aA (aV (i:=2) nd (aW rfl C (eX Z) hr.m rfl (ak (ai 0) (ak az ar))))
  (aA (aV (i:=3) nd (aW rfl C (o9 Z) hr.m rfl (ak (ai 0) (ak (ai 1) (ak (cH (ak aK (ak aK (ak aK ar)))) ar)))))
  (aA (aV (i:=4) nd (aW rfl C (o9 Z) hr.m rfl (ak (ai 0) (ak (ai 1) (ak (cH (ak aK (ak aK (ak aK ar)))) ar)))))
  (aA (aV (i:=5) nd (uw hu (ai 1) (ai 3) aK))
  (aA (aV (i:=6) nd (uw hu (ai 1) (ai 4) aK))
  (aA (aV (i:=7) nd (au rfl hu (cH (ak aK (ak aK ar))) (cX (b_int) rfl Z.b_int gZ (ak (fV (jX rfl hu) (ai 3) (ai 1) rfl) ar))))
  (aA (aV (i:=8) nd (au rfl hu (cH (ak aK (ak aK ar))) (cX (b_int) rfl Z.b_int gZ (ak (jr (fV (jX rfl hu) (ai 3) (ai 1) rfl) (gJ (fV (jX rfl hu) (ai 4) (ai 1) rfl))) ar))))
  (aA (aV (i:=9) nd (bc iu (aW rfl C (eX Z) hr.m rfl (ak (ai 0) (ak (bc (cF rfl) (bg (b_len rfl) rfl Z.b_len Nz (ak (ai 5) ar)) az) ar))) az))
  (aA (aV (i:=10) nd (bc iu (aW rfl C (eX Z) hr.m rfl (ak (ai 0) (ak (bc (cF rfl) (bg (b_len rfl) rfl Z.b_len Nz (ak (ai 5) ar)) az) ar))) az))
  (aA (aF (bp (aX rfl hu) (ai 2) az (bh _)) (aH (aO (c6 (ak (c6 (ak aK (ak (ai 3) (ak (ai 4) ar)))) (ak (ai 8) (ak (bc (cF rfl) (ai 5) (ai 6)) ar)))))) bf)
  (aA (aF (bp (aX rfl hu) (ai 2) az (bh _)) (aA (aV (i:=11) nd (qh rfl (ai 8) (gJ (au rfl hu (cH (ak aK (ak aK ar))) (cX (b_int) rfl Z.b_int gZ (ak (nG (kP bM bM az (ai 9) (bg (b_len rfl) rfl Z.b_len Nz (ak (ai 5) ar)))) ar))))))
  (aH (aO (c6 (ak (c6 (ak aK (ak (ai 3) (ak (ai 9) (ak (ai 4) ar))))) (ak (ai 11) (ak (bc (cF rfl) (bc (cF rfl) (iz rfl (ai 5) iU (hX (bg (kS) rfl Z.b_max Oi (ak az (ak (ai 9) ar))))) (ai 6)) (iz rfl (ai 5) (hX (bg (kS) rfl Z.b_max Oi (ak az (ak (ai 9) ar)))) iU)) ar))))))) bf)
  (aA (aF (bp (aX rfl hu) (ai 2) az (bh _)) (aA (aV (i:=11) nd (qh rfl (ai 7) (gJ (au rfl hu (cH (ak aK (ak aK ar))) (cX (b_int) rfl Z.b_int gZ (ak (nG (Iw bM bM bM az (ai 9) (ai 10) (bg (b_len rfl) rfl Z.b_len Nz (ak (ai 5) ar)))) ar))))))
  (aH (aO (c6 (ak (c6 (ak aK (ak (ai 3) (ak (ai 9) (ak (ai 10) ar))))) (ak (ai 11) (ak (bc (cF rfl) (iz rfl (ai 5) iU (hX (bg (kS) rfl Z.b_max Oi (ak az (ak (ai 9) ar))))) (iz rfl (ai 5) (hX (bg (kS) rfl Z.b_max Oi (ak az (ak (ai 10) ar)))) iU)) ar))))))) bf)
  (aA (aV (i:=12) nd (au rfl hu (cH (ak az (ak az (ak az (ak az (ak (t9 az) (ak (bc (cF rfl) (bc nC (bc kO az az) (bg (kS) rfl Z.b_max Oi (ak az (ak (bg (b_len rfl) rfl Z.b_len Nz (ak (ai 5) ar)) ar)))) az) ar))))))) (aW rfl C (eX Z) hr.m rfl (ak (ai 0) (ak az ar)))))
  (aA (aV (i:=11) nd (qh rfl (ai 7) (qh rfl (au rfl hu (cH (ak aK (ak aK ar))) (cX (b_int) rfl Z.b_int gZ (ak (fV fU (ai 12) az (bh _)) ar))) (gJ (au rfl hu (cH (ak aK (ak aK ar))) (cX (b_int) rfl Z.b_int gZ (ak (lY (fV eE (ai 12) az (bh _)) (gJ (fV (fw rfl hu) (ai 5) aK (bh _)))) ar)))))))
  (aH (aO (c6 (ak (c6 (ak aK (ak (ai 3) (ak (ai 12) ar)))) (ak (ai 11) (ak (bc HI (ai 5) (bg (Hn) rfl Z.b_min PyProof.Rows.boot_min (ak az (ak (bg (kS) rfl Z.b_max Oi (ak az (ak (ai 12) ar))) ar)))) ar))))))))))))))))))))
theorem Mn:GF P w (aY K cls exc) mg base 4 "_law_deed" nW:=gf Z.d_law_deed Lc λhr C hu nd =>
 (aA (aV (i:=2) nd (aW rfl C (eX Z) hr.m rfl (ak (ai 0) (ak az ar))))
  (aA (aF (bp (aX rfl hu) (ai 2) az (bh _)) (aA (aV (i:=3) nd (aW rfl C (o9 Z) hr.m rfl (ak (ai 0) (ak (ai 1) (ak (cH (ak aK (ak aK (ak aK ar)))) ar)))))
  (aA (aF (bp (jX rfl hu) (ai 3) (ai 1) rfl) (aH (aO (c6 (ak (c6 (ak aK (ak (ai 3) ar))) (ak aK (ak (ai 1) ar)))))) bf)
  (aA (aV (i:=4) nd (cX zO rfl Z.b_dict zN (ak (ai 1) ar)))
  (aA (bN (zS (ai 4) (ai 3)))
  (aH (aO (c6 (ak (c6 (ak aK (ak (ai 3) ar))) (ak aK (ak (ai 4) ar)))))))))) bf)
  (aA (zb (Ic rfl C (Ml Z) (Mm Z) hr.m hr.m rfl rfl (cX (b_int) rfl Z.b_int gZ (ak (fV eE (ai 2) az (bh _)) ar)) (ak (ai 0) (ak (ai 1) ar))) (ue rfl rfl (jV (i:=5) nd (jV (i:=6) nd (jV (i:=7) nd ud)))))
  (aA (aF (jq (GO (bp (aX rfl hu) (ai 6) aK (bh _)) (GN (bp eE (bg (b_len rfl) rfl Z.b_len Nz (ak (ai 7) ar)) az (bh _))))) (aH (Iy (i:=5) (j:=6) (k:=7) nd (ak (c6 (ak aK (ak (au rfl hu (ai 5) az) (ak aK ar)))) (ak aK (ak aK ar))))) bf)
  (aA (aV (i:=8) nd (cX zO rfl Z.b_dict zN (ak (ai 1) ar)))
  (aA (aF (bp (aX rfl hu) (ai 6) aK (bh _)) (aH (qe hu (ai 8) (au rfl hu (ai 5) az) (ai 7))) bf)
  (aH (aO (c6 (ak (ai 5) (ak (ai 6) (ak (ai 8) ar))))))))))))
theorem xP:GM P w (aY K cls exc) mg base 1 1 "set_text" iC:=gm Z.d_House_set_text Ld (show ("set_text" : Str)∉bj 1 by decide +kernel) λhr C hu nd =>
 (aH (aF (bp pY (ai 2) jn (bh _)) (aH (bN (zS (bz rfl Z.cf_House (ai 0)) (ai 1)))) (aH (qe hu (bz rfl Z.cf_House (ai 0)) (ai 1) (ai 2)))))
theorem Mo:GM P w (aY K cls exc) mg base 2 1 "back" jz:=gm Z.d_House_back Le (show ("back" : Str)∉bj 1 by decide +kernel) λhr C hu nd =>
 (aA (aF (bp (aX rfl hu) (bz rfl Z.cf_House (ai 0)) (cH ar) (bh _)) (aH (zA Z.x_NothingDone yM rfl (ak aK ar))) bf)
  (aA (aV (i:=1) nd (uo rfl Nf QO QP (zE) dY (bz rfl Z.cf_House (ai 0))))
  (aA (bN (b9 rfl Nf Nj Nk (eR) dY (bz rfl Z.cf_House (ai 0)) (ak (ai 1) ar)))
  (aH (bN (aQ rfl C (xP Z) hr.m (ai 0) (ak (au rfl hu (ai 1) az) (ak (au rfl hu (ai 1) az) ar))))))))
theorem BG:GF P w (aY K cls exc) mg base 1 "is_name" mH:=gf Z.d_is_name Lf λ{f cdv A outer s H E} hr C hu nd =>
 (aA (aF (iS (jo rfl (nN rfl rfl Z.b_isinstance (ai 0) rfl Z.b_str tJ (by decide)))) (aH (aO dX)) bf)
  (aH (aO (lY (kP bM bM az (bg (b_len rfl) rfl Z.b_len Nz (ak (ai 0) ar)) (eF rfl Z.c_NAME_SIGNS)) (gJ (bg (b_all rfl) rfl Z.b_all QQ (ak (p8 (jf:=[]) (nO (N:=["thing"]) (sc:=aP rJ) rfl (λ_=>rfl) (by decide +kernel)) rfl (nH (E:=(λ_=>E)) rfl (ai 0)) (λ_ _ _ _ _=>nI) (λ_ _ _ _ _=>(kP bM bM aK (ai 0) aK))) ar)))))))
theorem BH:GF P w (aY K cls exc) mg base 2 "check_name" nX:=gf Z.d_check_name Lg λhr C hu nd =>
 (aH (aF (iS (jo rfl (aW rfl C (BG Z) hr.m rfl (ak (ai 0) ar)))) dN bf))
theorem lN:GM P w (aY K cls exc) mg base 2 1 "do" dP:=gm Z.d_House_do Lh (show ("do" : Str)∉bj 1 by decide +kernel) λhr C hu nd =>
 (aA (bN (b9 rfl Nf Nj Nk (eR) dY (bz rfl Z.cf_House (ai 0)) (ak (c6 (ak (ai 1) (ak (HM hu (bz rfl Z.cf_House (ai 0)) (ai 1)) (ak (ai 2) ar)))) ar)))
  (aA (bN (uo rfl Nf PySem.F.slot_list_clear PySem.F.type_list_clear (HP) dY (bz rfl Z.cf_House (ai 0))))
  (aH (bN (aQ rfl C (xP Z) hr.m (ai 0) (ak (ai 1) (ak (ai 2) ar)))))))
theorem Mp:GF P w (aY K cls exc) mg base 1 "is_whole" qu:=gf Z.d_is_whole Li λhr C hu nd =>
 (aH (aO (lY (nN rfl rfl Z.b_isinstance (ai 0) rfl Z.b_int gZ (by decide)) (gJ (nG (nN rfl rfl Z.b_isinstance (ai 0) rfl Z.b_bool Fz (by decide)))))))
theorem Mq:GM P w (aY K cls exc) mg base 2 0 "has_piece" qv:=gm Z.d_Shelf_has_piece Lj (show ("has_piece" : Str)∉bj 0 by decide +kernel) λhr C hu nd =>
 (aH (aO (lY (aW rfl C (Mp Z) hr.m rfl (ak (ai 1) ar)) (gJ (kP bM bM az (ai 1) (bg (b_len rfl) rfl Z.b_len Nz (ak (bz rfl Z.cf_Shelf (ai 0)) ar)))))))
theorem rO:GM P w (aY K cls exc) mg base 3 0 "check_piece" kZ:=gm Z.d_Shelf_check_piece Lk (show ("check_piece" : Str)∉bj 0 by decide +kernel) λhr C hu nd =>
 (aH (aF (iS (jo rfl (aQ rfl C (Mq Z) hr.m (ai 0) (ak (ai 1) ar)))) dN bf))
theorem Mr:GM P w (aY K cls exc) mg base 4 0 "check_fork" nY:=gm Z.d_Shelf_check_fork Lm (show ("check_fork" : Str)∉bj 0 by decide +kernel) λhr C hu nd =>
 (aA (bN (aQ rfl C (rO Z) hr.m (ai 0) (ak (ai 1) ar)))
  (aA (bN (aQ rfl C (rO Z) hr.m (ai 0) (ak (ai 2) ar)))
  (aA (aV (i:=3) nd (bc (cF rfl) (au rfl hu (bz rfl Z.cf_Shelf (ai 0)) (au rfl hu (bz rfl Z.cf_Shelf (ai 0)) (ai 1))) (au rfl hu (bz rfl Z.cf_Shelf (ai 0)) (au rfl hu (bz rfl Z.cf_Shelf (ai 0)) (ai 2)))))
  (aA (aF (bp bM (ai 3) (eF rfl Z.c_LEAF_SIGNS) (bh _)) dN bf)
  (aA (aF (bp eE (bg (b_abs) rfl Z.b_abs PyProof.Rows.boot_abs (ak (bc iu (au rfl hu (bz rfl Z.cf_Shelf (ai 0)) (ai 1)) (au rfl hu (bz rfl Z.cf_Shelf (ai 0)) (ai 2))) ar)) az (bh _)) dN bf)
  (aH (aF (bp eE (bc (cF rfl) (au rfl hu (bz rfl Z.cf_Shelf (ai 0)) (ai 1)) (au rfl hu (bz rfl Z.cf_Shelf (ai 0)) (ai 2))) (eF rfl Z.c_MOST_SIGNS) (bh _)) dN bf)))))))
theorem BI:GM P w (aY K cls exc) mg base 1 0 "lay" nZ:=gm Z.d_Shelf_lay Ln (show ("lay" : Str)∉bj 0 by decide +kernel) λhr C hu nd =>
 (aA (bN (b9 rfl Nf Nj Nk (eR) dY (bz rfl Z.cf_Shelf (ai 0)) (ak (ai 1) ar)))
  (aA (aV (i:=2) nd (bg (b_len rfl) rfl Z.b_len Nz (ak (bz rfl Z.cf_Shelf (ai 0)) ar)))
  (aA (qe hu (bz rfl Z.cf_Shelf (ai 0)) (ai 1) (ai 2))
  (aH (aO (ai 2))))))
theorem Mt:GM P w (aY K cls exc) mg base 2 0 "lay_fork" n5:=gm Z.d_Shelf_lay_fork Lo (show ("lay_fork" : Str)∉bj 0 by decide +kernel) λhr C hu nd =>
 (aA (bN (aQ rfl C (BI Z) hr.m (ai 0) (ak (ai 1) ar)))
  (aA (aV (i:=2) nd (au rfl hu (ai 1) az))
  (aA (aV (i:=3) nd (au rfl hu (ai 1) az))
  (aA (bN (b9 rfl Nf Nj Nk (eR) dY (bz rfl Z.cf_Shelf (ai 0)) (ak (bc (cF rfl) (au rfl hu (bz rfl Z.cf_Shelf (ai 0)) (ai 2)) (au rfl hu (bz rfl Z.cf_Shelf (ai 0)) (ai 3))) ar)))
  (aA (bN (b9 rfl Nf Nj Nk (eR) dY (bz rfl Z.cf_Shelf (ai 0)) (ak (bc (cF rfl) (au rfl hu (bz rfl Z.cf_Shelf (ai 0)) (ai 2)) (au rfl hu (bz rfl Z.cf_Shelf (ai 0)) (ai 3))) ar)))
  (aA (bN (b9 rfl Nf Nj Nk (eR) dY (bz rfl Z.cf_Shelf (ai 0)) (ak (bc (cF rfl) (au rfl hu (bz rfl Z.cf_Shelf (ai 0)) (ai 2)) (au rfl hu (bz rfl Z.cf_Shelf (ai 0)) (ai 3))) ar)))
  (aA (bN (b9 rfl Nf Nj Nk (eR) dY (bz rfl Z.cf_Shelf (ai 0)) (ak (bc (cF rfl) (bg (kS) rfl Z.b_max Oi (ak (au rfl hu (bz rfl Z.cf_Shelf (ai 0)) (ai 2)) (ak (au rfl hu (bz rfl Z.cf_Shelf (ai 0)) (ai 3)) ar))) az) ar)))
  (aA (bN (b9 rfl Nf Nj Nk (eR) dY (bz rfl Z.cf_Shelf (ai 0)) (ak (au rfl hu (bz rfl Z.cf_Shelf (ai 0)) (ai 2)) ar)))
  (aH (bN (b9 rfl Nf Nj Nk (eR) dY (bz rfl Z.cf_Shelf (ai 0)) (ak (au rfl hu (bz rfl Z.cf_Shelf (ai 0)) (ai 3)) ar))))))))))))
theorem gp:GM P w (aY K cls exc) mg base 5 0 "fork" bA:=gm Z.d_Shelf_fork Lp (show ("fork" : Str)∉bj 0 by decide +kernel) λhr C hu nd =>
 (aA (bN (aQ rfl C (Mr Z) hr.m (ai 0) (ak (ai 1) (ak (ai 2) ar))))
  (aA (aV (i:=3) nd (c6 (ak aK (ak (ai 1) (ak (ai 2) ar)))))
  (aA (aF (bp (jX rfl hu) (ai 3) (bz rfl Z.cf_Shelf (ai 0)) rfl) (aH (bN (aQ rfl C (Mt Z) hr.m (ai 0) (ak (ai 3) ar)))) bf)
  (aH (aO (au rfl hu (bz rfl Z.cf_Shelf (ai 0)) (ai 3)))))))
theorem xQ:∀ d,GF P w (aY K cls exc) mg base (5+d+1) "halved" (iD d)
 | 0=>gf Z.d_halved Bw λ_ _ _ _=>dN
 | d+1=>gf Z.d_halved Bw λhr C hu nd =>
  (aA (aF (bp (aX rfl hu) (bg (b_len rfl) rfl Z.b_len Nz (ak (ai 1) ar)) az (bh _)) (aH (aO (au rfl hu (ai 1) az))) bf)
  (aA (aV (i:=2) nd (bc nC (bg (b_len rfl) rfl Z.b_len Nz (ak (ai 1) ar)) az))
  (aH (aO (aQ rfl C (gp Z) (hr.mono (show 5<=5+(d+1) by lia)) (ai 0) (ak (aW rfl C (xQ d) (hr.mono (by lia)) rfl (ak (ai 0) (ak (iz rfl (ai 1) iU (hX (ai 2))) ar))) (ak (aW rfl C (xQ d) (hr.mono (by lia)) rfl (ak (ai 0) (ak (iz rfl (ai 1) (hX (ai 2)) iU) ar))) ar)))))))
theorem Mu:GF P w (aY K cls exc) mg base 1 "is_plain_sign" n8:=gf Z.d_is_plain_sign Lq λhr C hu nd =>
 (aH (aO (jr (fV (aX rfl hu) (ai 0) aK (bh _)) (gJ (kP bM bM aK (ai 0) aK)))))
theorem BJ:GF P w (aY K cls exc) mg base 2 "is_plain" n9:=gf Z.d_is_plain Lr λ{f cdv A outer s H E} hr C hu nd =>
 (aA (aF (iS (jo rfl (nN rfl rfl Z.b_isinstance (ai 0) rfl Z.b_str tJ (by decide)))) (aH (aO dX)) bf)
  (aH (aO (bg (b_all rfl) rfl Z.b_all QQ (ak (p8 (jf:=[]) (nO (N:=["thing"]) (sc:=aP rK) rfl (λ_=>rfl) (by decide +kernel)) rfl (nH (E:=(λ_=>E)) rfl (ai 0)) (λ_ _ _ _ _=>nI) (λ_ _ _ _ _=>(aW rfl (CA.never rfl) (Mu Z) hr.m rfl (ak (ai 0) ar)))) ar)))))
theorem Mv:GF P w (aY K cls exc) mg base 3 "is_short" qw:=gf Z.d_is_short Ls λhr C hu nd =>
 (aH (aO (lY (aW rfl C (BJ Z) hr.m rfl (ak (ai 0) ar)) (gJ (kP bM bM az (bg (b_len rfl) rfl Z.b_len Nz (ak (ai 0) ar)) (eF rfl Z.c_LEAF_SIGNS))))))
theorem Mw:GF P w (aY K cls exc) mg base 1 "ends_in" qx:=gf Z.d_ends_in Lu λhr C hu nd =>
 (aH (aO (b9 rfl PySem.F.plainAttrs_str PySem.F.slot_str_count PySem.F.type_str_count (Ht) Hs (ai 0) (ak aK ar))))
theorem Mx:GM P w (aY K cls exc) mg base 2 0 "lay_leaf" oa:=gm Z.d_Shelf_lay_leaf Lv (show ("lay_leaf" : Str)∉bj 0 by decide +kernel) λhr C hu nd =>
 (aA (aV (i:=2) nd (aQ rfl C (BI Z) hr.m (ai 0) (ak (ai 1) ar)))
  (aA (aV (i:=3) nd (au rfl hu (ai 1) az))
  (aA (bN (b9 rfl Nf Nj Nk (eR) dY (bz rfl Z.cf_Shelf (ai 0)) (ak (bg (b_len rfl) rfl Z.b_len Nz (ak (ai 3) ar)) ar)))
  (aA (bN (b9 rfl Nf Nj Nk (eR) dY (bz rfl Z.cf_Shelf (ai 0)) (ak (aW rfl C (Mw Z) hr.m rfl (ak (ai 3) ar)) ar)))
  (aA (bN (b9 rfl Nf Nj Nk (eR) dY (bz rfl Z.cf_Shelf (ai 0)) (ak az ar)))
  (aA (bN (b9 rfl Nf Nj Nk (eR) dY (bz rfl Z.cf_Shelf (ai 0)) (ak az ar)))
  (aA (bN (b9 rfl Nf Nj Nk (eR) dY (bz rfl Z.cf_Shelf (ai 0)) (ak (ai 2) ar)))
  (aH (bN (b9 rfl Nf Nj Nk (eR) dY (bz rfl Z.cf_Shelf (ai 0)) (ak (ai 2) ar)))))))))))
theorem rP:GM P w (aY K cls exc) mg base 4 0 "leaf" d6:=gm Z.d_Shelf_leaf Lw (show ("leaf" : Str)∉bj 0 by decide +kernel) λhr C hu nd =>
 (aA (aF (iS (jo rfl (aW rfl C (Mv Z) hr.m rfl (ak (ai 1) ar)))) dN bf)
  (aA (aV (i:=2) nd (c6 (ak aK (ak (ai 1) ar))))
  (aA (aF (bp (jX rfl hu) (ai 2) (bz rfl Z.cf_Shelf (ai 0)) rfl) (aH (bN (aQ rfl C (Mx Z) hr.m (ai 0) (ak (ai 2) ar)))) bf)
  (aH (aO (au rfl hu (bz rfl Z.cf_Shelf (ai 0)) (ai 2)))))))
theorem My:GF P w (aY K cls exc) mg base 27 "built" mI:=gf Z.d_built Lx λ{f cdv A outer s H E} hr C hu nd =>
 (aA (aF (iS (jo rfl (aW rfl C (BJ Z) hr.m rfl (ak (ai 1) ar)))) dN bf)
  (aA (aF (bp eE (bg (b_len rfl) rfl Z.b_len Nz (ak (ai 1) ar)) (eF rfl Z.c_MOST_PLAIN) (bh _)) dN bf)
  (aA (aF (bp (aX rfl hu) (ai 1) aK (bh _)) (aH (aO az)) bf)
  (aA (G8 (jf:=[(0, "shelf"),(1, "plain")]) (nO (N:=["shelf", "plain", "leaves"]) (sc:=aP rL) rfl (λ_=>rfl) (by decide +kernel)) rfl (zI (E:=(λ_=>E)) rfl Z.b_range az (bg (b_len rfl) rfl Z.b_len Nz (ak (ai 1) ar)) (eF rfl Z.c_LEAF_SIGNS)) (λ_ _ _ _ _=>nI) (λ_ _ _ _ _=>(aQ rfl (CA.never rfl) (rP Z) hr.m (ai 1) (ak (iz rfl (ai 2) (hX (ai 0)) (hX (bc (cF rfl) (ai 0) (eF rfl Z.c_LEAF_SIGNS)))) ar))) nd (i:=2))
  (aH (aO (aW rfl C (xQ Z 20) hr.m rfl (ak (ai 0) (ak (ai 2) ar)))))))))
theorem MA:GM P w (aY K cls exc) mg base 28 1 "give" qy:=gm Z.d_House_give Ly (show ("give" : Str)∉bj 1 by decide +kernel) λhr C hu nd =>
 (aA (bN (aW rfl C (BH Z) hr.m rfl (ak (ai 1) ar)))
  (aH (bN (aQ rfl C (lN Z) hr.m (ai 0) (ak (ai 1) (ak (aW rfl C (My Z) hr.m rfl (ak (bz rfl Z.cf_House (ai 0)) (ak (ai 2) ar))) ar))))))
theorem jL:GM P w (aY K cls exc) mg base 2 1 "text" dJ:=gm Z.d_House_text Lz (show ("text" : Str)∉bj 1 by decide +kernel) λhr C hu nd =>
 (aA (aF (jq (ub (iS (jo rfl (aW rfl C (BG Z) hr.m rfl (ak (ai 1) ar)))) (ua (bp (jX rfl hu) (ai 1) (bz rfl Z.cf_House (ai 0)) rfl)))) dN bf)
  (aH (aO (au rfl hu (bz rfl Z.cf_House (ai 0)) (ai 1)))))
theorem MB:GM P w (aY K cls exc) mg base 3 1 "copy_of" qz:=gm Z.d_House_copy_of LA (show ("copy_of" : Str)∉bj 1 by decide +kernel) λhr C hu nd =>
 (aA (bN (aW rfl C (BH Z) hr.m rfl (ak (ai 1) ar)))
  (aH (bN (aQ rfl C (lN Z) hr.m (ai 0) (ak (ai 1) (ak (aQ rfl C (jL Z) hr.m (ai 0) (ak (ai 2) ar)) ar))))))
theorem xR:GF P w (aY K cls exc) mg base 1 "check_length" mJ:=gf Z.d_check_length LB λhr C hu nd =>
 (aH (aF (bp eE (ai 0) (eF rfl Z.c_MOST_SIGNS) (bh _)) dN bf))
theorem rQ:GM P w (aY K cls exc) mg base 4 0 "check_text" j0:=gm Z.d_Shelf_check_text LC (show ("check_text" : Str)∉bj 0 by decide +kernel) λhr C hu nd =>
 (aH (aF (bp (fw rfl hu) (ai 1) az (bh _)) (aH (bN (aQ rfl C (rO Z) hr.m (ai 0) (ak (ai 1) ar)))) bf))
theorem gY:GM P w (aY K cls exc) mg base 5 0 "signs" eJ:=gm Z.d_Shelf_signs LD (show ("signs" : Str)∉bj 0 by decide +kernel) λhr C hu nd =>
 (aA (bN (aQ rfl C (rQ Z) hr.m (ai 0) (ak (ai 1) ar)))
  (aH (aO (au rfl hu (bz rfl Z.cf_Shelf (ai 0)) (ai 1)))))
theorem BK:GM P w (aY K cls exc) mg base 5 0 "last_leaf" og:=gm Z.d_Shelf_last_leaf LF (show ("last_leaf" : Str)∉bj 0 by decide +kernel) λhr C hu nd =>
 (aA (bN (aQ rfl C (rQ Z) hr.m (ai 0) (ak (ai 1) ar)))
  (aH (aO (au rfl hu (bz rfl Z.cf_Shelf (ai 0)) (ai 1)))))
theorem BM:GM P w (aY K cls exc) mg base 5 0 "first_leaf" oh:=gm Z.d_Shelf_first_leaf LG (show ("first_leaf" : Str)∉bj 0 by decide +kernel) λhr C hu nd =>
 (aA (bN (aQ rfl C (rQ Z) hr.m (ai 0) (ak (ai 1) ar)))
  (aH (aO (au rfl hu (bz rfl Z.cf_Shelf (ai 0)) (ai 1)))))
theorem MC:GF P w (aY K cls exc) mg base 6 "are_close" qA:=gf Z.d_are_close LH λhr C hu nd =>
 (aH (aO (fV eE (bc (cF rfl) (aQ rfl C (gY Z) hr.m (ai 0) (ak (aQ rfl C (BK Z) hr.m (ai 0) (ak (ai 1) ar)) ar)) (aQ rfl C (gY Z) hr.m (ai 0) (ak (aQ rfl C (BM Z) hr.m (ai 0) (ak (ai 2) ar)) ar))) (eF rfl Z.c_LEAF_SIGNS) (bh _))))
theorem ie:GM P w (aY K cls exc) mg base 4 0 "piece" eU:=gm Z.d_Shelf_piece LI (show ("piece" : Str)∉bj 0 by decide +kernel) λhr C hu nd =>
 (aA (bN (aQ rfl C (rO Z) hr.m (ai 0) (ak (ai 1) ar)))
  (aH (aO (au rfl hu (bz rfl Z.cf_Shelf (ai 0)) (bc iu (ai 1) az)))))
theorem BN:∀ d,GF P w (aY K cls exc) mg base (5+d+1) "with_last" (hZ d)
 | 0=>gf Z.d_with_last Bx λ_ _ _ _=>dN
 | d+1=>gf Z.d_with_last Bx λhr C hu nd =>
  (aA (aV (i:=3) nd (aQ rfl C (ie Z) (hr.mono (show 4<=5+(d+1) by lia)) (ai 0) (ak (ai 1) ar)))
  (aA (aF (bp (aX rfl hu) (au rfl hu (ai 3) az) aK (bh _)) (aH (aO (ai 2))) bf)
  (aH (aO (aQ rfl C (gp Z) (hr.mono (show 5<=5+(d+1) by lia)) (ai 0) (ak (au rfl hu (ai 3) az) (ak (aW rfl C (BN d) (hr.mono (by lia)) rfl (ak (ai 0) (ak (au rfl hu (ai 3) az) (ak (ai 2) ar)))) ar)))))))
theorem i5:GM P w (aY K cls exc) mg base 5 0 "height" gR:=gm Z.d_Shelf_height LJ (show ("height" : Str)∉bj 0 by decide +kernel) λhr C hu nd =>
 (aA (bN (aQ rfl C (rQ Z) hr.m (ai 0) (ak (ai 1) ar)))
  (aH (aO (au rfl hu (bz rfl Z.cf_Shelf (ai 0)) (ai 1)))))
theorem BO:GF P w (aY K cls exc) mg base 6 "turned_left" gz:=gf Z.d_turned_left LM λhr C hu nd =>
 (aA (aF (bp fU (bc iu (aQ rfl C (i5 Z) hr.m (ai 0) (ak (ai 2) ar)) (aQ rfl C (i5 Z) hr.m (ai 0) (ak (ai 1) ar))) az (bh _)) (aH (aO (aQ rfl C (gp Z) hr.m (ai 0) (ak (ai 1) (ak (ai 2) ar))))) bf)
  (aA (aV (i:=3) nd (aQ rfl C (ie Z) hr.m (ai 0) (ak (ai 2) ar)))
  (aA (aV (i:=4) nd (au rfl hu (ai 3) az))
  (aA (aV (i:=5) nd (au rfl hu (ai 3) az))
  (aA (aF (bp bM (aQ rfl C (i5 Z) hr.m (ai 0) (ak (ai 4) ar)) (aQ rfl C (i5 Z) hr.m (ai 0) (ak (ai 5) ar)) (bh _)) (aH (aO (aQ rfl C (gp Z) hr.m (ai 0) (ak (aQ rfl C (gp Z) hr.m (ai 0) (ak (ai 1) (ak (ai 4) ar))) (ak (ai 5) ar))))) bf)
  (aA (aV (i:=6) nd (aQ rfl C (ie Z) hr.m (ai 0) (ak (ai 4) ar)))
  (aH (aO (aQ rfl C (gp Z) hr.m (ai 0) (ak (aQ rfl C (gp Z) hr.m (ai 0) (ak (ai 1) (ak (au rfl hu (ai 6) az) ar))) (ak (aQ rfl C (gp Z) hr.m (ai 0) (ak (au rfl hu (ai 6) az) (ak (ai 5) ar))) ar)))))))))))
theorem BP:∀ d,GF P w (aY K cls exc) mg base (6+d+1) "without_first" (fK d)
 | 0=>gf Z.d_without_first By λ_ _ _ _=>dN
 | d+1=>gf Z.d_without_first By λhr C hu nd =>
  (aA (aV (i:=2) nd (aQ rfl C (ie Z) (hr.mono (show 4<=6+(d+1) by lia)) (ai 0) (ak (ai 1) ar)))
  (aA (aF (bp (aX rfl hu) (au rfl hu (ai 2) az) aK (bh _)) (aH (aO az)) bf)
  (aA (aV (i:=3) nd (aW rfl C (BP d) (hr.mono (by lia)) rfl (ak (ai 0) (ak (au rfl hu (ai 2) az) ar))))
  (aA (aF (bp (aX rfl hu) (ai 3) az (bh _)) (aH (aO (au rfl hu (ai 2) az))) bf)
  (aH (aO (aW rfl C (BO Z) (hr.mono (show 6<=6+(d+1) by lia)) rfl (ak (ai 0) (ak (ai 3) (ak (au rfl hu (ai 2) az) ar))))))))))
theorem MD:GF P w (aY K cls exc) mg base 6 "turned_right" iE:=gf Z.d_turned_right LN λhr C hu nd =>
 (aA (aF (bp fU (bc iu (aQ rfl C (i5 Z) hr.m (ai 0) (ak (ai 1) ar)) (aQ rfl C (i5 Z) hr.m (ai 0) (ak (ai 2) ar))) az (bh _)) (aH (aO (aQ rfl C (gp Z) hr.m (ai 0) (ak (ai 1) (ak (ai 2) ar))))) bf)
  (aA (aV (i:=3) nd (aQ rfl C (ie Z) hr.m (ai 0) (ak (ai 1) ar)))
  (aA (aV (i:=4) nd (au rfl hu (ai 3) az))
  (aA (aV (i:=5) nd (au rfl hu (ai 3) az))
  (aA (aF (bp bM (aQ rfl C (i5 Z) hr.m (ai 0) (ak (ai 5) ar)) (aQ rfl C (i5 Z) hr.m (ai 0) (ak (ai 4) ar)) (bh _)) (aH (aO (aQ rfl C (gp Z) hr.m (ai 0) (ak (ai 4) (ak (aQ rfl C (gp Z) hr.m (ai 0) (ak (ai 5) (ak (ai 2) ar))) ar))))) bf)
  (aA (aV (i:=6) nd (aQ rfl C (ie Z) hr.m (ai 0) (ak (ai 5) ar)))
  (aH (aO (aQ rfl C (gp Z) hr.m (ai 0) (ak (aQ rfl C (gp Z) hr.m (ai 0) (ak (ai 4) (ak (au rfl hu (ai 6) az) ar))) (ak (aQ rfl C (gp Z) hr.m (ai 0) (ak (au rfl hu (ai 6) az) (ak (ai 2) ar))) ar)))))))))))
theorem rR:∀ d,GF P w (aY K cls exc) mg base (6+d+1) "linked" (fB d)
 | 0=>gf Z.d_linked Bz λ_ _ _ _=>dN
 | d+1=>gf Z.d_linked Bz λhr C hu nd =>
  (aA (aV (i:=3) nd (bc iu (aQ rfl C (i5 Z) (hr.mono (show 5<=6+(d+1) by lia)) (ai 0) (ak (ai 1) ar)) (aQ rfl C (i5 Z) (hr.mono (show 5<=6+(d+1) by lia)) (ai 0) (ak (ai 2) ar))))
  (aA (aF (bp eE (ai 3) az (bh _)) (aA (aV (i:=4) nd (aQ rfl C (ie Z) (hr.mono (show 4<=6+(d+1) by lia)) (ai 0) (ak (ai 1) ar)))
  (aH (aO (aW rfl C (BO Z) (hr.mono (show 6<=6+(d+1) by lia)) rfl (ak (ai 0) (ak (au rfl hu (ai 4) az) (ak (aW rfl C (rR d) (hr.mono (by lia)) rfl (ak (ai 0) (ak (au rfl hu (ai 4) az) (ak (ai 2) ar)))) ar))))))) bf)
  (aA (aF (bp fU (ai 3) (t9 az) (bh _)) (aA (aV (i:=4) nd (aQ rfl C (ie Z) (hr.mono (show 4<=6+(d+1) by lia)) (ai 0) (ak (ai 2) ar)))
  (aH (aO (aW rfl C (MD Z) (hr.mono (show 6<=6+(d+1) by lia)) rfl (ak (ai 0) (ak (aW rfl C (rR d) (hr.mono (by lia)) rfl (ak (ai 0) (ak (ai 1) (ak (au rfl hu (ai 4) az) ar)))) (ak (au rfl hu (ai 4) az) ar))))))) bf)
  (aH (aO (aQ rfl C (gp Z) (hr.mono (show 5<=6+(d+1) by lia)) (ai 0) (ak (ai 1) (ak (ai 2) ar))))))))
theorem ME:GF P w (aY K cls exc) mg base 98 "welded" k8:=gf Z.d_welded LO λhr C hu nd =>
 (aA (aV (i:=3) nd (bc (cF rfl) (au rfl hu (aQ rfl C (ie Z) hr.m (ai 0) (ak (aQ rfl C (BK Z) hr.m (ai 0) (ak (ai 1) ar)) ar)) az) (au rfl hu (aQ rfl C (ie Z) hr.m (ai 0) (ak (aQ rfl C (BM Z) hr.m (ai 0) (ak (ai 2) ar)) ar)) az)))
  (aA (aV (i:=4) nd (aW rfl C (BN Z 90) hr.m rfl (ak (ai 0) (ak (ai 1) (ak (aQ rfl C (rP Z) hr.m (ai 0) (ak (ai 3) ar)) ar)))))
  (aA (aV (i:=5) nd (aW rfl C (BP Z 90) hr.m rfl (ak (ai 0) (ak (ai 2) ar))))
  (aA (aF (bp (aX rfl hu) (ai 5) az (bh _)) (aH (aO (ai 4))) bf)
  (aH (aO (aW rfl C (rR Z 90) hr.m rfl (ak (ai 0) (ak (ai 4) (ak (ai 5) ar))))))))))
theorem ke:GF P w (aY K cls exc) mg base 99 "joined" cq:=gf Z.d_joined LP λhr C hu nd =>
 (aA (bN (aW rfl C (xR Z) hr.m rfl (ak (bc (cF rfl) (aQ rfl C (gY Z) hr.m (ai 0) (ak (ai 1) ar)) (aQ rfl C (gY Z) hr.m (ai 0) (ak (ai 2) ar))) ar)))
  (aA (aF (bp (aX rfl hu) (ai 1) az (bh _)) (aH (aO (ai 2))) bf)
  (aA (aF (bp (aX rfl hu) (ai 2) az (bh _)) (aH (aO (ai 1))) bf)
  (aA (aF (jo rfl (aW rfl C (MC Z) hr.m rfl (ak (ai 0) (ak (ai 1) (ak (ai 2) ar))))) (aH (aO (aW rfl C (rR Z 90) hr.m rfl (ak (ai 0) (ak (ai 1) (ak (ai 2) ar)))))) bf)
  (aH (aO (aW rfl C (ME Z) hr.m rfl (ak (ai 0) (ak (ai 1) (ak (ai 2) ar))))))))))
theorem MF:GM P w (aY K cls exc) mg base 100 1 "join_to" qD:=gm Z.d_House_join_to LQ (show ("join_to" : Str)∉bj 1 by decide +kernel) λhr C hu nd =>
 (aH (bN (aQ rfl C (lN Z) hr.m (ai 0) (ak (ai 1) (ak (aW rfl C (ke Z) hr.m rfl (ak (bz rfl Z.cf_House (ai 0)) (ak (aQ rfl C (jL Z) hr.m (ai 0) (ak (ai 1) ar)) (ak (aQ rfl C (jL Z) hr.m (ai 0) (ak (ai 2) ar)) ar)))) ar)))))
theorem MG:GF P w (aY K cls exc) mg base 6 "check_gap" qE:=gf Z.d_check_gap LR λhr C hu nd =>
 (aA (aV (i:=3) nd (aQ rfl C (gY Z) hr.m (ai 0) (ak (ai 1) ar)))
  (aH (aF (iS (GL bM bM az (ai 2) (ai 3))) dN bf)))
theorem rS:∀ d,GF P w (aY K cls exc) mg base (99+d+1) "front_of" (dq d)
 | 0=>gf Z.d_front_of BC λ_ _ _ _=>dN
 | d+1=>gf Z.d_front_of BC λhr C hu nd =>
  (aA (aF (bp (aX rfl hu) (ai 2) az (bh _)) (aH (aO az)) bf)
  (aA (aF (bp (aX rfl hu) (ai 2) (aQ rfl C (gY Z) (hr.mono (show 5<=99+(d+1) by lia)) (ai 0) (ak (ai 1) ar)) (bh _)) (aH (aO (ai 1))) bf)
  (aA (aV (i:=3) nd (aQ rfl C (ie Z) (hr.mono (show 4<=99+(d+1) by lia)) (ai 0) (ak (ai 1) ar)))
  (aA (aF (bp (aX rfl hu) (au rfl hu (ai 3) az) aK (bh _)) (aH (aO (aQ rfl C (rP Z) (hr.mono (show 4<=99+(d+1) by lia)) (ai 0) (ak (iz rfl (au rfl hu (ai 3) az) iU (hX (ai 2))) ar)))) bf)
  (aA (aV (i:=4) nd (aQ rfl C (gY Z) (hr.mono (show 5<=99+(d+1) by lia)) (ai 0) (ak (au rfl hu (ai 3) az) ar)))
  (aA (aF (bp bM (ai 2) (ai 4) (bh _)) (aH (aO (aW rfl C (rS d) (hr.mono (by lia)) rfl (ak (ai 0) (ak (au rfl hu (ai 3) az) (ak (ai 2) ar)))))) bf)
  (aH (aO (aW rfl C (ke Z) (hr.mono (show 99<=99+(d+1) by lia)) rfl (ak (ai 0) (ak (au rfl hu (ai 3) az) (ak (aW rfl C (rS d) (hr.mono (by lia)) rfl (ak (ai 0) (ak (au rfl hu (ai 3) az) (ak (bc iu (ai 2) (ai 4)) ar)))) ar))))))))))))
theorem rT:∀ d,GF P w (aY K cls exc) mg base (99+d+1) "back_of" (dw d)
 | 0=>gf Z.d_back_of BD λ_ _ _ _=>dN
 | d+1=>gf Z.d_back_of BD λhr C hu nd =>
  (aA (aF (bp (aX rfl hu) (ai 2) az (bh _)) (aH (aO (ai 1))) bf)
  (aA (aF (bp (aX rfl hu) (ai 2) (aQ rfl C (gY Z) (hr.mono (show 5<=99+(d+1) by lia)) (ai 0) (ak (ai 1) ar)) (bh _)) (aH (aO az)) bf)
  (aA (aV (i:=3) nd (aQ rfl C (ie Z) (hr.mono (show 4<=99+(d+1) by lia)) (ai 0) (ak (ai 1) ar)))
  (aA (aF (bp (aX rfl hu) (au rfl hu (ai 3) az) aK (bh _)) (aH (aO (aQ rfl C (rP Z) (hr.mono (show 4<=99+(d+1) by lia)) (ai 0) (ak (iz rfl (au rfl hu (ai 3) az) (hX (ai 2)) iU) ar)))) bf)
  (aA (aV (i:=4) nd (aQ rfl C (gY Z) (hr.mono (show 5<=99+(d+1) by lia)) (ai 0) (ak (au rfl hu (ai 3) az) ar)))
  (aA (aF (bp nF (ai 2) (ai 4) (bh _)) (aH (aO (aW rfl C (rT d) (hr.mono (by lia)) rfl (ak (ai 0) (ak (au rfl hu (ai 3) az) (ak (bc iu (ai 2) (ai 4)) ar)))))) bf)
  (aH (aO (aW rfl C (ke Z) (hr.mono (show 99<=99+(d+1) by lia)) rfl (ak (ai 0) (ak (aW rfl C (rT d) (hr.mono (by lia)) rfl (ak (ai 0) (ak (au rfl hu (ai 3) az) (ak (ai 2) ar)))) (ak (au rfl hu (ai 3) az) ar))))))))))))
theorem MH:GF P w (aY K cls exc) mg base 191 "put_in" oi:=gf Z.d_put_in LU λhr C hu nd =>
 (aA (aV (i:=4) nd (bc (cF rfl) (aQ rfl C (gY Z) hr.m (ai 0) (ak (ai 1) ar)) (aQ rfl C (gY Z) hr.m (ai 0) (ak (ai 3) ar))))
  (aA (bN (aW rfl C (MG Z) hr.m rfl (ak (ai 0) (ak (ai 1) (ak (ai 2) ar)))))
  (aA (bN (aW rfl C (xR Z) hr.m rfl (ak (ai 4) ar)))
  (aA (aV (i:=5) nd (aW rfl C (ke Z) hr.m rfl (ak (ai 0) (ak (aW rfl C (rS Z 90) hr.m rfl (ak (ai 0) (ak (ai 1) (ak (ai 2) ar)))) (ak (ai 3) ar)))))
  (aH (aO (aW rfl C (ke Z) hr.m rfl (ak (ai 0) (ak (ai 5) (ak (aW rfl C (rT Z 90) hr.m rfl (ak (ai 0) (ak (ai 1) (ak (ai 2) ar)))) ar))))))))))
theorem MI:GM P w (aY K cls exc) mg base 192 1 "put_into" qF:=gm Z.d_House_put_into LV (show ("put_into" : Str)∉bj 1 by decide +kernel) λhr C hu nd =>
 (aH (bN (aQ rfl C (lN Z) hr.m (ai 0) (ak (ai 1) (ak (aW rfl C (MH Z) hr.m rfl (ak (bz rfl Z.cf_House (ai 0)) (ak (aQ rfl C (jL Z) hr.m (ai 0) (ak (ai 1) ar)) (ak (ai 2) (ak (aQ rfl C (jL Z) hr.m (ai 0) (ak (ai 3) ar)) ar))))) ar)))))
theorem MJ:GF P w (aY K cls exc) mg base 6 "check_stretch" qG:=gf Z.d_check_stretch LW λhr C hu nd =>
 (aA (aV (i:=4) nd (aQ rfl C (gY Z) hr.m (ai 0) (ak (ai 1) ar)))
  (aH (aF (iS (HB bM bM bM az (ai 2) (ai 3) (ai 4))) dN bf)))
theorem ML:GF P w (aY K cls exc) mg base 191 "taken_out" oj:=gf Z.d_taken_out LX λhr C hu nd =>
 (aA (bN (aW rfl C (MJ Z) hr.m rfl (ak (ai 0) (ak (ai 1) (ak (ai 2) (ak (ai 3) ar))))))
  (aH (aO (aW rfl C (ke Z) hr.m rfl (ak (ai 0) (ak (aW rfl C (rS Z 90) hr.m rfl (ak (ai 0) (ak (ai 1) (ak (ai 2) ar)))) (ak (aW rfl C (rT Z 90) hr.m rfl (ak (ai 0) (ak (ai 1) (ak (ai 3) ar)))) ar)))))))
theorem MM:GM P w (aY K cls exc) mg base 192 1 "take_from" qH:=gm Z.d_House_take_from LY (show ("take_from" : Str)∉bj 1 by decide +kernel) λhr C hu nd =>
 (aH (bN (aQ rfl C (lN Z) hr.m (ai 0) (ak (ai 1) (ak (aW rfl C (ML Z) hr.m rfl (ak (bz rfl Z.cf_House (ai 0)) (ak (aQ rfl C (jL Z) hr.m (ai 0) (ak (ai 1) ar)) (ak (ai 2) (ak (ai 3) ar))))) ar)))))
theorem BQ:∀ d,GF P w (aY K cls exc) mg base (99+d+1) "doubled" (fC d)
 | 0=>gf Z.d_doubled BE λ_ _ _ _=>dN
 | d+1=>gf Z.d_doubled BE λhr C hu nd =>
  (aA (aF (bp (aX rfl hu) (ai 2) az (bh _)) (aH (aO az)) bf)
  (aA (aV (i:=3) nd (aW rfl C (BQ d) (hr.mono (by lia)) rfl (ak (ai 0) (ak (ai 1) (ak (bc nC (ai 2) az) ar)))))
  (aA (aV (i:=4) nd (aW rfl C (ke Z) (hr.mono (show 99<=99+(d+1) by lia)) rfl (ak (ai 0) (ak (ai 3) (ak (ai 3) ar)))))
  (aA (aF (bp (aX rfl hu) (bc iw (ai 2) az) az (bh _)) (aH (aO (ai 4))) bf)
  (aH (aO (aW rfl C (ke Z) (hr.mono (show 99<=99+(d+1) by lia)) rfl (ak (ai 0) (ak (ai 4) (ak (ai 1) ar))))))))))
theorem MN:GF P w (aY K cls exc) mg base 165 "repeated" j1:=gf Z.d_repeated LZ λhr C hu nd =>
 (aA (aV (i:=3) nd (aQ rfl C (gY Z) hr.m (ai 0) (ak (ai 1) ar)))
  (aA (aF (bp fU (ai 2) az (bh _)) dN bf)
  (aA (bN (aW rfl C (xR Z) hr.m rfl (ak (bc iQ (ai 3) (ai 2)) ar)))
  (aA (aF (bp (aX rfl hu) (ai 1) az (bh _)) (aH (aO az)) bf)
  (aH (aO (aW rfl C (BQ Z 64) hr.m rfl (ak (ai 0) (ak (ai 1) (ak (ai 2) ar))))))))))
theorem MO:GM P w (aY K cls exc) mg base 166 1 "repeat" lh:=gm Z.d_House_repeat L0 (show ("repeat" : Str)∉bj 1 by decide +kernel) λhr C hu nd =>
 (aH (bN (aQ rfl C (lN Z) hr.m (ai 0) (ak (ai 1) (ak (aW rfl C (MN Z) hr.m rfl (ak (bz rfl Z.cf_House (ai 0)) (ak (aQ rfl C (jL Z) hr.m (ai 0) (ak (ai 1) ar)) (ak (ai 2) ar)))) ar)))))
theorem MP:GM P w (aY K cls exc) mg base 3 1 "drop" qJ:=gm Z.d_House_drop L3 (show ("drop" : Str)∉bj 1 by decide +kernel) λhr C hu nd =>
 (aA (bN (aQ rfl C (jL Z) hr.m (ai 0) (ak (ai 1) ar)))
  (aH (bN (aQ rfl C (lN Z) hr.m (ai 0) (ak (ai 1) (ak jn ar))))))
theorem MQ:GM P w (aY K cls exc) mg base 2 1 "again" jA:=gm Z.d_House_again L4 (show ("again" : Str)∉bj 1 by decide +kernel) λhr C hu nd =>
 (aA (aF (bp (aX rfl hu) (bz rfl Z.cf_House (ai 0)) (cH ar) (bh _)) (aH (zA Z.x_NothingDone yM rfl (ak aK ar))) bf)
  (aA (aV (i:=1) nd (uo rfl Nf QO QP (zE) dY (bz rfl Z.cf_House (ai 0))))
  (aA (bN (b9 rfl Nf Nj Nk (eR) dY (bz rfl Z.cf_House (ai 0)) (ak (ai 1) ar)))
  (aH (bN (aQ rfl C (xP Z) hr.m (ai 0) (ak (au rfl hu (ai 1) az) (ak (au rfl hu (ai 1) az) ar))))))))
theorem MR:GF P w (aY K cls exc) mg base 193 "_law_do" iX:=gf Z.d_law_do L7 λhr C hu nd =>
 (aA (aF (bp (aX rfl hu) (au rfl hu (ai 1) az) aK (bh _)) (aH (aO (aQ rfl C (MA Z) hr.m (ai 0) (ak (au rfl hu (ai 1) az) (ak (au rfl hu (ai 1) az) ar))))) bf)
  (aA (aF (bp (aX rfl hu) (au rfl hu (ai 1) az) aK (bh _)) (aH (aO (aQ rfl C (MB Z) hr.m (ai 0) (ak (au rfl hu (ai 1) az) (ak (au rfl hu (ai 1) az) ar))))) bf)
  (aA (aF (bp (aX rfl hu) (au rfl hu (ai 1) az) aK (bh _)) (aH (aO (aQ rfl C (MF Z) hr.m (ai 0) (ak (au rfl hu (ai 1) az) (ak (au rfl hu (ai 1) az) ar))))) bf)
  (aA (aF (bp (aX rfl hu) (au rfl hu (ai 1) az) aK (bh _)) (aH (aO (aQ rfl C (MI Z) hr.m (ai 0) (ak (au rfl hu (ai 1) az) (ak (au rfl hu (ai 1) az) (ak (au rfl hu (ai 1) az) ar)))))) bf)
  (aA (aF (bp (aX rfl hu) (au rfl hu (ai 1) az) aK (bh _)) (aH (aO (aQ rfl C (MM Z) hr.m (ai 0) (ak (au rfl hu (ai 1) az) (ak (au rfl hu (ai 1) az) (ak (au rfl hu (ai 1) az) ar)))))) bf)
  (aA (aF (bp (aX rfl hu) (au rfl hu (ai 1) az) aK (bh _)) (aH (aO (aQ rfl C (MO Z) hr.m (ai 0) (ak (au rfl hu (ai 1) az) (ak (au rfl hu (ai 1) az) ar))))) bf)
  (aA (aF (bp (aX rfl hu) (au rfl hu (ai 1) az) aK (bh _)) (aH (aO (aQ rfl C (MP Z) hr.m (ai 0) (ak (au rfl hu (ai 1) az) ar)))) bf)
  (aA (aF (bp (aX rfl hu) (au rfl hu (ai 1) az) aK (bh _)) (aH (aO (jW rfl C (MQ Z) hr.m (ai 0)))) bf)
  (aH (aO (jW rfl C (Mo Z) hr.m (ai 0))))))))))))
theorem xS:GF P w (aY K cls exc) mg base 194 "_law_word" ia:=gf Z.d_law_word L8 λhr C hu nd =>
 (aA (aV (i:=2) nd aK)
  (aA (Ia (i:=3) rfl nd rfl rfl rfl rfl rfl Z.cu_NoName Z.cu_NoText Z.cu_NoPlace Z.cu_TooLong Z.cu_NothingDone (λ_ _ Ex2 C2 R2=>(aH (aF (bp pY (aW rfl C2 (MR Z) hr.m rfl (ak (ai 0) (ak (ai 1) ar))) jn (bh _)) (aH (aV (i:=2) nd aK)) bf))) (λ_ C3=>dN) (λ_ C3=>dN) (λ_ C3=>(aH (aV (i:=2) nd aK))))
  (aH (aO (ai 2)))))
theorem BR:GM P w (aY K cls exc) mg base 1 1 "names" iY:=gm Z.d_House_names L9 (show ("names" : Str)∉bj 1 by decide +kernel) λhr C hu nd =>
 (aH (aO (bg (HN rfl) rfl Z.b_sorted Bv (ak (bz rfl Z.cf_House (ai 0)) ar))))
theorem xT:GF P w (aY K cls exc) mg base 3 "_law_numbers" jB:=gf Z.d_law_numbers Ma λ{f cdv A outer s H E} hr C hu nd =>
 (aH (aO (p8 (jf:=[(0, "house")]) (nO (N:=["house"]) (sc:=aP rM) rfl (λ_=>rfl) (by decide +kernel)) rfl (nH (E:=(λ_=>E)) rfl (jW rfl C (BR Z) hr.m (ai 0))) (λ_ _ _ _ _=>nI) (λ_ _ _ _ _=>(c6 (ak (ai 0) (ak (aQ rfl (CA.never rfl) (jL Z) hr.m (ai 1) (ak (ai 0) ar)) ar)))))))
theorem MS:GF P w (aY K cls exc) mg base 195 "_law_many_deeds" om:=gf Z.d_law_many_deeds Mb λhr C hu nd =>
 (aA (ju rfl (lZ (E:=EN) rfl Z.b_range (ai 2)) (jU (i:=3) nd) (aA (aV (i:=4) nd (au rfl hu (cH (ak aK (ak aK ar))) (bc iw (ai 3) az)))
  (aA (aF (bp (fw rfl hu) (aW rfl (C.nox) (xS Z) hr.m rfl (ak (ai 0) (ak (au rfl hu (cH (ak (c6 (ak aK (ak (ai 4) (ak (iz rfl aK iU (hX (bc (cF rfl) az (bc iw (ai 3) az)))) ar)))) (ak (c6 (ak aK (ak (ai 4) (ak aK ar)))) ar))) (bc iw (bc nC (ai 3) az) az)) ar))) aK (bh _)) (aH (aO dX)) bf)
  (aH (bN (b9 rfl Nf Nj Nk (eR) dY (ai 1) (ak (aW rfl (C.nox) (xT Z) hr.m rfl (ak (ai 0) ar)) ar)))))))
  (aH (aO dX)))
theorem BS:GM P w (aY K cls exc) mg base 1 0 "many" lq:=gm Z.d_Shelf_many Mc (show ("many" : Str)∉bj 0 by decide +kernel) λhr C hu nd =>
 (aH (aO (bg (b_len rfl) rfl Z.b_len Nz (ak (bz rfl Z.cf_Shelf (ai 0)) ar))))
theorem BU:GM P w (aY K cls exc) mg base 1 1 "shelf" lr:=gm Z.d_House_shelf Md (show ("shelf" : Str)∉bj 1 by decide +kernel) λhr C hu nd =>
 (aH (aO (bz rfl Z.cf_House (ai 0))))
theorem BV:GF P w (aY K cls exc) mg base 195 "_law_moved" iZ:=gf Z.d_law_moved Me λhr C hu nd =>
 (aA (aV (i:=4) nd (au rfl hu (cH (ak (bc iu (ai 2) az) (ak (bc (cF rfl) (ai 2) az) ar))) (cX (b_int) rfl Z.b_int gZ (ak (fV (aX rfl hu) (ai 1) aK (bh _)) ar))))
  (aA (aV (i:=5) nd (au rfl hu (cH (ak aK (ak aK ar))) (cX (b_int) rfl Z.b_int gZ (ak (nG (kP bM fU az (ai 4) (bg (b_len rfl) rfl Z.b_len Nz (ak (ai 3) ar)))) ar))))
  (aA (aV (i:=6) nd (jW rfl C (BS Z) hr.m (jW rfl C (BU Z) hr.m (ai 0))))
  (aA (aF (bp (fw rfl hu) (aW rfl C (xS Z) hr.m rfl (ak (ai 0) (ak (c6 (ak (ai 1) ar)) ar))) (ai 5) (bh _)) (aH (aO jn)) bf)
  (aA (aF (bp (fw rfl hu) (ai 5) aK (bh _)) (aH (aV (i:=4) nd (ai 2))) bf)
  (aA (aF (jq (ub (bp (fw rfl hu) (aW rfl C (xT Z) hr.m rfl (ak (ai 0) ar)) (au rfl hu (ai 3) (ai 4)) (bh _)) (ua (bp (fw rfl hu) (jW rfl C (BS Z) hr.m (jW rfl C (BU Z) hr.m (ai 0))) (ai 6) (bh _))))) (aH (aO jn)) bf)
  (aH (aO (ai 4)))))))))
theorem MT {f:Addr} {fd:FuncData} (h4:Fun K "law" "law" rN f fd):FnOk P w K mg base (cT P w) 196 f fd ["script"] (iy (aY K cls exc) uO):=gl (T:=aY K cls exc) h4 Mf λhr C hu nd =>
 (aA (aV (i:=1) nd (zt rfl C (Mh Z) hr.m rfl))
  (aA (aV (i:=2) nd uc)
  (aA (aV (i:=3) nd (hU (ak (cH ar) ar)))
  (aA (ju rfl (GZ (E:=EN) rfl rfl Z.b_enumerate (bc (cF rfl) (iz rfl (ai 0) iU (hX az)) (cH (ak az (ak az ar))))) (ue rfl rfl (jV (i:=4) nd (jV (i:=5) nd ud))) (aA (zb (aW rfl (C.nox) (Mn Z) hr.m rfl (ak (aW rfl (C.nox) (BF Z) hr.m rfl (ak (cH (ak (ai 5) (ak (ai 4) ar))) (ak az ar))) (ak (ai 2) ar))) (ue rfl rfl (jV (i:=6) nd (jV (i:=7) nd (jV (i:=8) nd ud)))))
  (aH (aF (bp (aX rfl hu) (ai 7) aK (bh _)) (aA (aF (bp (fw rfl hu) (aW rfl (C.nox) (xS Z) hr.m rfl (ak (ai 1) (ak (ai 6) ar))) aK (bh _)) (aH (aO dX)) bf)
  (aA (aV (i:=2) nd (ai 8))
  (aH (bN (b9 rfl Nf Nj Nk (eR) dY (ai 3) (ak (aW rfl (C.nox) (xT Z) hr.m rfl (ak (ai 1) ar)) ar)))))) bf))))
  (aA (aV (i:=9) nd (aW rfl C (BF Z) hr.m rfl (ak (ai 0) (ak az ar))))
  (aA (aF (iS (jo rfl (aW rfl C (MS Z) hr.m rfl (ak (ai 1) (ak (ai 3) (ak (au rfl hu (cH (ak az (ak az (ak az (ak az ar))))) (aW rfl C (eX Z) hr.m rfl (ak (ai 9) (ak az ar)))) ar)))))) (aH (aO dX)) bf)
  (aA (aV (i:=10) nd (bc iu (bg (b_len rfl) rfl Z.b_len Nz (ak (ai 3) ar)) az))
  (aA (ju rfl (lZ (E:=EN) rfl Z.b_range (bc (cF rfl) az (aW rfl (C.nox) (eX Z) hr.m rfl (ak (ai 9) (ak az ar))))) (jU (i:=11) nd) (aH (ju rfl (nH (E:=EN) rfl (cH (ak aK (ak aK ar)))) (jU (i:=12) nd) (aH (ju rfl (lZ (E:=EN) rfl Z.b_range (aW rfl (((C.nox).nox).nox) (eX Z) hr.m rfl (ak (ai 9) (ak (bc (cF rfl) (bg (b_len rfl) rfl Z.b_len Nz (ak (ai 3) ar)) az) ar)))) (jU (i:=13) nd) (aA (aV (i:=10) nd (aW rfl (((C.nox).nox).nox) (BV Z) hr.m rfl (ak (ai 1) (ak (ai 12) (ak (ai 10) (ak (ai 3) ar))))))
  (aH (aF (bp pY (ai 10) jn (bh _)) (aH (aO dX)) bf))))))))
  (aA (ju rfl (lZ (E:=EN) rfl Z.b_range (bc (cF rfl) (bg (b_len rfl) rfl Z.b_len Nz (ak (ai 3) ar)) az)) (jU (i:=13) nd) (aA (aV (i:=10) nd (aW rfl (C.nox) (BV Z) hr.m rfl (ak (ai 1) (ak aK (ak (ai 10) (ak (ai 3) ar))))))
  (aH (aF (bp pY (ai 10) jn (bh _)) (aH (aO dX)) bf))))
  (aH (aO (lY (fV (aX rfl hu) (ai 10) az (bh _)) (gJ (fV (aX rfl hu) (jW rfl C (BR Z) hr.m (ai 1)) (cH ar) (bh _)))))))))))))))
end
abbrev FX (l:PySem.W.OpenLaw) (w:World) (K:PySem.W.Frag) (mg:Str->Option Value) (fa:Addr):Prop:=∃ fd:FuncData,(∀ (s:Shared) (v:Value),BindsTo s fd ⟨[v],[]⟩ [("script",v)])/\∀ base:Heap,K.In base->base.Ns mainGlobals mg->FnOk l.prog w K mg base (cT l.prog w) 196 fa fd ["script"] (uv K)
theorem all_mk {l:PySem.W.OpenLaw} {w:World} {K:PySem.W.Frag} {h:Heap} {mg:Str->Option Value} {fa C0 C1 X0 Y_NoName Y_NoPlace Y_NoText Y_TooLong:Addr} {tk_LEAF_SIGNS tk_NAME_SIGNS tk_MOST_PLAIN tk_MOST_SIGNS:Tok} (X:K.In h) (G:h.Ns mainGlobals mg) (hfa:mg "law" = some (.ref fa))
  (aC0:NA K "Shelf" (some (.ref C0))) (aC1:NA K "House" (some (.ref C1))) (a0:DN K C0 "__init__" "Shelf.__init__" wj) (a1:DN K C1 "__init__" "House.__init__" wk) (a10:DN K C1 "set_text" "House.set_text" wA) (a11:DN K C1 "back" "House.back" wB) (a14:DN K C1 "do" "House.do" wD) (a16:DN K C0 "has_piece" "Shelf.has_piece" wG) (a17:DN K C0 "check_piece" "Shelf.check_piece" wH) (a18:DN K C0 "check_fork" "Shelf.check_fork" wI) (a19:DN K C0 "lay" "Shelf.lay" wJ) (a20:DN K C0 "lay_fork" "Shelf.lay_fork" wK) (a21:DN K C0 "fork" "Shelf.fork" wL) (a27:DN K C0 "lay_leaf" "Shelf.lay_leaf" wR) (a28:DN K C0 "leaf" "Shelf.leaf" wU) (a30:DN K C1 "give" "House.give" wV) (a31:DN K C1 "text" "House.text" wW) (a32:DN K C1 "copy_of" "House.copy_of" wX) (a34:DN K C0 "check_text" "Shelf.check_text" wZ) (a35:DN K C0 "signs" "Shelf.signs" w4) (a36:DN K C0 "last_leaf" "Shelf.last_leaf" w6) (a37:DN K C0 "first_leaf" "Shelf.first_leaf" w8) (a39:DN K C0 "piece" "Shelf.piece" xb) (a41:DN K C0 "height" "Shelf.height" xh) (a48:DN K C1 "join_to" "House.join_to" xq) (a53:DN K C1 "put_into" "House.put_into" xx) (a56:DN K C1 "take_from" "House.take_from" xB) (a59:DN K C1 "repeat" "House.repeat" xE) (a60:DN K C1 "drop" "House.drop" xF) (a61:DN K C1 "again" "House.again" xG) (a64:DN K C1 "names" "House.names" xJ) (a67:DN K C0 "many" "Shelf.many" xM) (a68:DN K C1 "shelf" "House.shelf" xN) (a2:DK K "_law_mixed" wo) (a3:DK K "_law_stream" rH) (a4:DK K "_law_take" wq) (a5:DK K "_law_name" wt) (a6:DK K "_law_plain" wu) (a7:DK K "_law_given" wx) (a8:DK K "_law_changed" wy) (a9:DK K "_law_deed" wz) (a12:DK K "is_name" rJ) (a13:DK K "check_name" wC) (a15:DK K "is_whole" wF) (a22:DK K "halved" wM) (a23:DK K "is_plain_sign" wN) (a24:DK K "is_plain" rK) (a25:DK K "is_short" wO) (a26:DK K "ends_in" wQ) (a29:DK K "built" rL) (a33:DK K "check_length" wY) (a38:DK K "are_close" xa) (a40:DK K "with_last" xg) (a42:DK K "turned_left" xj) (a43:DK K "without_first" xk) (a44:DK K "turned_right" xl) (a45:DK K "linked" xm) (a46:DK K "welded" xn) (a47:DK K "joined" xp) (a49:DK K "check_gap" xr) (a50:DK K "front_of" xt) (a51:DK K "back_of" xu) (a52:DK K "put_in" xw) (a54:DK K "check_stretch" xy) (a55:DK K "taken_out" xA) (a57:DK K "doubled" xC) (a58:DK K "repeated" xD) (a62:DK K "_law_do" xH) (a63:DK K "_law_word" xI) (a65:DK K "_law_numbers" rM) (a66:DK K "_law_many_deeds" xK) (a69:DK K "_law_moved" xO) (a70:DK K "law" rN) (kk0:Cls K C0) (mk0:PySem.W.makesIn K C0=true) (kc0:PySem.W.keepIn K (.ref C0)=true) (nf0_0:FA K C0 "pieces") (nf0_1:FA K C0 "numbers") (nf0_2:FA K C0 "sign_counts") (nf0_3:FA K C0 "end_counts") (nf0_4:FA K C0 "leaf_counts") (nf0_5:FA K C0 "heights") (nf0_6:FA K C0 "first_leaves") (nf0_7:FA K C0 "last_leaves") (kk1:Cls K C1) (mk1:PySem.W.makesIn K C1=true) (kc1:PySem.W.keepIn K (.ref C1)=true) (nf1_0:FA K C1 "own_shelf") (nf1_1:FA K C1 "texts") (nf1_2:FA K C1 "deeds") (nf1_3:FA K C1 "taken_back") (z_abs:NA K "abs" none) (z_all:NA K "all" none) (z_bool:NA K "bool" none) (z_dict:NA K "dict" none) (z_enumerate:NA K "enumerate" none) (z_int:NA K "int" none) (z_isinstance:NA K "isinstance" none) (z_len:NA K "len" none) (z_max:NA K "max" none) (z_min:NA K "min" none) (z_range:NA K "range" none) (z_sorted:NA K "sorted" none) (z_str:NA K "str" none) (z_sum:NA K "sum" none) (e_NothingDone:NA K "NothingDone" (some (.ref X0))) (x_NothingDone:XI K X0) (e_NoName:NA K "NoName" (some (.ref Y_NoName))) (em_NoName_0:XF K X0 Y_NoName) (e_NoPlace:NA K "NoPlace" (some (.ref Y_NoPlace))) (em_NoPlace_0:XF K X0 Y_NoPlace) (e_NoText:NA K "NoText" (some (.ref Y_NoText))) (em_NoText_0:XF K X0 Y_NoText) (em_NothingDone_0:XO K X0 X0) (e_TooLong:NA K "TooLong" (some (.ref Y_TooLong))) (em_TooLong_0:XF K X0 Y_TooLong) (m_LEAF_SIGNS:NA K "LEAF_SIGNS" (some (.int 8 tk_LEAF_SIGNS))) (m_NAME_SIGNS:NA K "NAME_SIGNS" (some (.int 8 tk_NAME_SIGNS))) (m_MOST_PLAIN:NA K "MOST_PLAIN" (some (.int 10000 tk_MOST_PLAIN))) (m_MOST_SIGNS:NA K "MOST_SIGNS" (some (.int 1000000000000000000 tk_MOST_SIGNS)))
  : FX l w K mg fa:=by
 have Z:∀ base:Heap,K.In base->ka l.prog w K (λn=>[C0,C1][n]?) (λn=>[X0][n]?) mg base:=λbase KB=>{
   b_abs:=NO X G z_abs,
   b_all:=NO X G z_all,
   b_bool:=NO X G z_bool,
   b_dict:=NO X G z_dict,
   b_enumerate:=NO X G z_enumerate,
   b_int:=NO X G z_int,
   b_isinstance:=NO X G z_isinstance,
   b_len:=NO X G z_len,
   b_max:=NO X G z_max,
   b_min:=NO X G z_min,
   b_range:=NO X G z_range,
   b_sorted:=NO X G z_sorted,
   b_str:=NO X G z_str,
   b_sum:=NO X G z_sum,
   c_LEAF_SIGNS:=⟨_,Ob X G m_LEAF_SIGNS⟩,
   c_NAME_SIGNS:=⟨_,Ob X G m_NAME_SIGNS⟩,
   c_MOST_PLAIN:=⟨_,Ob X G m_MOST_PLAIN⟩,
   c_MOST_SIGNS:=⟨_,Ob X G m_MOST_SIGNS⟩,
   cf_Shelf:=⟨C0,rfl,kk0,λf hf=>by
   have hf2:f∈bj 0:=hf
   simp only [bj,Np,OJ,Qr] at hf2
   rcases hf2 with rfl | rfl | rfl | rfl | rfl | rfl | rfl | rfl
   ·exact nf0_0
   ·exact nf0_1
   ·exact nf0_2
   ·exact nf0_3
   ·exact nf0_4
   ·exact nf0_5
   ·exact nf0_6
   ·exact nf0_7⟩,
   cf_House:=⟨C1,rfl,kk1,λf hf=>by
   have hf2:f∈bj 1:=hf
   simp only [bj,Np,OJ,Qr] at hf2
   rcases hf2 with rfl | rfl | rfl | rfl
   ·exact nf1_0
   ·exact nf1_1
   ·exact nf1_2
   ·exact nf1_3⟩,
   x_NothingDone:=gx KB X G rfl e_NothingDone x_NothingDone,
   d_Shelf_init:=di rfl (Ob X G aC0) mk0 kc0 a0 eT,
   d_House_init:=di rfl (Ob X G aC1) mk1 kc1 a1 eT,
   d_law_mixed:=dg X G a2 c9,
   d_law_stream:=dg X G a3 c9,
   d_law_take:=dg X G a4 c9,
   d_law_name:=dg X G a5 dO,
   d_law_plain:=dg X G a6 c9,
   d_law_given:=dg X G a7 c9,
   d_law_changed:=dg X G a8 c9,
   d_law_deed:=dg X G a9 c9,
   d_House_set_text:=dm rfl kk1 a10 dO,
   d_House_back:=dm rfl kk1 a11 eT,
   d_is_name:=dg X G a12 eT,
   d_check_name:=dg X G a13 eT,
   d_House_do:=dm rfl kk1 a14 dO,
   d_is_whole:=dg X G a15 eT,
   d_Shelf_has_piece:=dm rfl kk0 a16 c9,
   d_Shelf_check_piece:=dm rfl kk0 a17 c9,
   d_Shelf_check_fork:=dm rfl kk0 a18 dO,
   d_Shelf_lay:=dm rfl kk0 a19 c9,
   d_Shelf_lay_fork:=dm rfl kk0 a20 c9,
   d_Shelf_fork:=dm rfl kk0 a21 dO,
   d_halved:=dg X G a22 c9,
   d_is_plain_sign:=dg X G a23 eT,
   d_is_plain:=dg X G a24 eT,
   d_is_short:=dg X G a25 eT,
   d_ends_in:=dg X G a26 eT,
   d_Shelf_lay_leaf:=dm rfl kk0 a27 c9,
   d_Shelf_leaf:=dm rfl kk0 a28 c9,
   d_built:=dg X G a29 c9,
   d_House_give:=dm rfl kk1 a30 dO,
   d_House_text:=dm rfl kk1 a31 c9,
   d_House_copy_of:=dm rfl kk1 a32 dO,
   d_check_length:=dg X G a33 eT,
   d_Shelf_check_text:=dm rfl kk0 a34 c9,
   d_Shelf_signs:=dm rfl kk0 a35 c9,
   d_Shelf_last_leaf:=dm rfl kk0 a36 c9,
   d_Shelf_first_leaf:=dm rfl kk0 a37 c9,
   d_are_close:=dg X G a38 dO,
   d_Shelf_piece:=dm rfl kk0 a39 c9,
   d_with_last:=dg X G a40 dO,
   d_Shelf_height:=dm rfl kk0 a41 c9,
   d_turned_left:=dg X G a42 dO,
   d_without_first:=dg X G a43 c9,
   d_turned_right:=dg X G a44 dO,
   d_linked:=dg X G a45 dO,
   d_welded:=dg X G a46 dO,
   d_joined:=dg X G a47 dO,
   d_House_join_to:=dm rfl kk1 a48 dO,
   d_check_gap:=dg X G a49 dO,
   d_front_of:=dg X G a50 dO,
   d_back_of:=dg X G a51 dO,
   d_put_in:=dg X G a52 mf,
   d_House_put_into:=dm rfl kk1 a53 mf,
   d_check_stretch:=dg X G a54 mf,
   d_taken_out:=dg X G a55 mf,
   d_House_take_from:=dm rfl kk1 a56 mf,
   d_doubled:=dg X G a57 dO,
   d_repeated:=dg X G a58 dO,
   d_House_repeat:=dm rfl kk1 a59 dO,
   d_House_drop:=dm rfl kk1 a60 c9,
   d_House_again:=dm rfl kk1 a61 eT,
   d_law_do:=dg X G a62 c9,
   d_law_word:=dg X G a63 c9,
   d_House_names:=dm rfl kk1 a64 eT,
   d_law_numbers:=dg X G a65 eT,
   d_law_many_deeds:=dg X G a66 dO,
   d_Shelf_many:=dm rfl kk0 a67 eT,
   d_House_shelf:=dm rfl kk1 a68 eT,
   d_law_moved:=dg X G a69 mf,
   d_law:=dg X G a70 eT,
   cu_NoName:=⟨Y_NoName,Ob X G e_NoName,(λc C' h=>match c,C',h with
    | 0,_,rfl=>em_NoName_0
    | _+1,_,h=>nomatch h)⟩,
   cu_NoPlace:=⟨Y_NoPlace,Ob X G e_NoPlace,(λc C' h=>match c,C',h with
    | 0,_,rfl=>em_NoPlace_0
    | _+1,_,h=>nomatch h)⟩,
   cu_NoText:=⟨Y_NoText,Ob X G e_NoText,(λc C' h=>match c,C',h with
    | 0,_,rfl=>em_NoText_0
    | _+1,_,h=>nomatch h)⟩,
   cu_NothingDone:=⟨X0,Ob X G e_NothingDone,(λc C' h=>match c,C',h with
    | 0,_,rfl=>em_NothingDone_0
    | _+1,_,h=>nomatch h)⟩,
   cu_TooLong:=⟨Y_TooLong,Ob X G e_TooLong,(λc C' h=>match c,C',h with
    | 0,_,rfl=>em_TooLong_0
    | _+1,_,h=>nomatch h)⟩ }
 obtain ⟨fd,h1,F⟩:=uy (p := "script") X G hfa a70 eT
 exact ⟨fd,h1,λbase KB _=>FnOk.imp (MT (Z base KB) F) (Hv (T:=aY K (λn=>[C0,C1][n]?) (λn=>[X0][n]?)) law_true)⟩
theorem walk {l:PySem.W.OpenLaw} {q:Program} {loose:List Str} {XP:(Str->Option Value)->Heap->Prop} {YP:World->Heap->Prop} {d:DefRec} {K:Params->PySem.W.Frag} (hn:l.most=some 63) (hdf:d.params.defaults=[])
  (hY:∀ (w:World) (h:Heap),YP w h->(K w.params).In h)
  (F:∀ (w:World) (mg:Str->Option Value) (fa:Addr) (h:Heap),(K w.params).In h->h.Ns mainGlobals mg->mg d.name=some (.ref fa)->FX l w (K w.params) mg fa) :
  PySem.W.WalkO q loose XP YP l.row.toRowW d [] (λf vs=>PySem.call f vs) :=
 L2.walk_of (n:=63) (k:=196) (x := "script") (CX:=λw=>cT l.prog w) (sp:=λw=>uv (K w.params)) hn (by decide) hdf ⟨rfl,by decide,by decide⟩ hY F (λ_ _ a ns hl _ hS=>⟨a,ns,rfl,hS,hl,λ_=>rfl⟩) λ_ _ _ _ _ z=>Hw z
end Sk
open PySem PySem.W PyProof.Rows
section
structure PySem.W.Fast:Prop where(tw11816914842205616420 tw15362230696115053050 tw6214948885384690655 tw16681514332907395039 tw2283759837141864287 tw10590603501967894303 tw319790175689729759 tw10183063820863674079 tw10329270604270215807 tw11285974499544680031 tw8710719549294004735 tw391597563392783871 tw3324452648680172959 tw13374570574396716383 tw12603677978001742175 tw7751174071833595199 tw4655745748751501599 tw6507341372626480383 tw18374560605564263679 tw12737991592313242847 tw1311323340496577759 tw6508443041989347487 tw15032470783558453246 tw4311826386715275102 tw6326553082464954142 tw12629868599888554782 tw14416592304151258878 tw13618887789272278782 tw13780237335282900606 tw9114855967819551358 tw11799798176635195006 tw6241288757613908478 tw693893105359044062 tw890721220489272766 tw12226191446475526590 tw8997945865894112670 tw6872907354640659838 tw17280174012868405630 tw12516953189099614526 tw16401473468009770270 tw18327097328892355646 tw14604881026845033437 tw5879231224135112573 tw17987308274549946141 tw9294431454698003229 tw17486791891309087229 tw10203435656069937629 tw3134003383358229949 tw9732858058845795773 tw5862076692875581821 tw18212432342452405501 tw14566937138680395005 tw7683435443230218461 tw2901862151623744733 tw17375416065689563325 tw7867732345464464445 tw14177859086432249852 tw10188552040544467932 tw14762943049606136796 tw8807501191073974108 tw14609467966958677852 tw11729302595267533660 tw4092802587486873404 tw12936989427946776380 tw15354042050590647100 tw7213075082230071068 tw1172722816040756988 tw2260202567907074812 tw1041331491257136892 tw16588485445665033980 tw7134945061357470396 tw15623273328745378492 tw13116708480188811932 tw1620528043774911068 tw7264613737481697820 tw15698799938504605212 tw6999545465296613788 tw17036207233882894716 tw12865776145688445308 tw10359921543055142140 tw5875801700110233852 tw13105694293061915836 tw4577935755493436508 tw15005413588319379484 tw14866854946670834651 tw5451117717493611451 tw961942295522366395 tw4606777211784935355 tw5419390584372110235 tw18073859496152273819 tw9933583777994789755 tw17080727304884983643 tw18266701953929743195 tw6090880437238769467 tw11297912221709355675 tw15233106609980547739 tw1296312098759210491 tw12481323987739858427 tw18078859533672196539 tw6902442732380780955 tw3974258886493025659 tw16066590793864688987 tw13127307537909717307 tw12350345885766960411 tw15451991365231164603 tw5799312839690913979 tw17726566104172264603 tw12708608174100510875 tw11363808857217366171 tw11655718658999186587 tw8064697385551141019 tw6596303342940189787 tw3306337681990931483 tw11245120436917828602 tw230335888126199706 tw14731909055225985914 tw1203702641734713146 tw14752902235891640122 tw4358137590249896730 tw15377296164041652986 tw13490960175410799322 tw3664846091466027738 tw15202024834614536890 tw6782111174320902810 tw9168919289634807386 tw17504210979150252538 tw17891401216982817274 tw13019907007434640762 tw826202041069079930 tw1332809762303305018 tw13756292265467946266 tw10244743530556366106 tw14289145707165751546 tw16090945937067282682 tw5833678740085298394 tw18152484544017907866 tw3855328607434724442 tw8515671677849517146 tw14683662405699474522 tw12569549393521024058 tw13322558299170753529 tw18267984207242351577 tw9305323643373577145 tw2655322191053578169 tw1984308314370175769 tw7648270716563662617 tw8983526833718193913 tw16662117585140493017 tw15031520830512314969 tw5207285468661416281 tw7517724108535407961 tw16425647862578298169 tw14510028157529946361 tw1872422820203729145 tw584218840625086713 tw4038618314005305561 tw14451361056331230393 tw12010374920418629817 tw8624137846969045177 tw10000167930210565273 tw2353636736899760249 tw2546082627851618393 tw17010714533184110649 tw18318427083999212569 tw4536458369000507384 tw1072132271661720536 tw7983470791610940216 tw9421949149949209400 tw17139526418968913624 tw7144805298820379256 tw15034806201306908184 tw15875028859631858072 tw10960836622324751704 tw8751523083260401976 tw7627688446978898136 tw17494076275601826008 tw9156744860389790872 tw3421275014692615288 tw382885870428743768 tw9589275991785750552 tw16052242222496917495 tw3745481195804535767 tw4130505492665963479 tw160122284387169207 tw3574996336507428791 tw4536429067035122487 tw11743893394332342967 tw14776249819971622583 tw1376690564875389623 tw7553340377929153175 tw2802465813113295511 tw16236066766158941815 tw11463110949262418519 tw3070408344473113175 tw4959252608935921239 tw5593542244889966071 tw7917994782338293143 tw13487881012230346103 tw12897102877438611831 tw5396566068396313943 tw865736452184205655 tw38741729617286455 tw6596197960631450903 tw3902361849314662679 tw2148805549911922967 tw15005147383194291415 tw15129270807890544727 tw18263835851894549559 tw1148586879157832694 tw6754500171603483542 tw3928771890925477622 tw15045657914151693046 tw11704023677817141878 tw14809324400455994806 tw11593381320385054966 tw2869023755681472758 tw14000688511010834646 tw2558777622427771062 tw16490027244035447990 tw13245171714233246870 tw5643301013981300854 tw13928621339201487990 tw8622113135611487318 tw12315649209563728918 tw9562090398139163637 tw13933795335668406261 tw13654126772374008821 tw10983691866416298837 tw6044263427454898997 tw5862891976885194517 tw17241155502277624565 tw16035423426627865301 tw13901118190269577845 tw14575019230206048885 tw13164629135502662197 tw10319828713370883445 tw4421813588447260021 tw14556957984040696181 tw16660900175834770773 tw12486625979220832597 tw4070700468902866261 tw9913699746756241749 tw10748464557151143189 tw12471377843173168405 tw8367467870811852053 tw2513266229402303733 tw3451610251496275189 tw712882590169758901 tw9925755083231827029 tw18013229386096966644 tw10237181715358673908 tw15313460948796687316 tw9435606289925411796 tw10419642455181027156 tw3363648983404967732 tw3175768437022381844 tw7844965415767366100 tw5010319741097738708 tw15961747784737849812 tw269839999506603412 tw252080068554705300 tw8609972599926061396 tw275667964856077652 tw6802182610778510644 tw13705655013081846036 tw2214394516570209556 tw8776630732955418868 tw13455641800303273204 tw1008377019603208372 tw1941109223934118036 tw3962232449339968660 tw14264636167629145140 tw3902752229936438292 tw1695263652462070771 tw12272735491506783155 tw17477389296841544595 tw17036604098668837715 tw13041979500456517427 tw7900528443036478195 tw13712004240954696403 tw12373899315781453491 tw13776783786456530611 tw9016004311723379251 tw4980824798710622739 tw13928488476529691155 tw3837563821809548723 tw11479522439340721555 tw2583716983991367027 tw14693757327703754067 tw342063415438768435 tw13660423808585010483 tw6801518009941955859 tw13859903818104188051 tw17714964926897204243 tw17112805301274157075 tw14558388413386881010 tw15099931970323404754 tw9058648517839901650 tw10602937518290713458 tw4256964805603218258 tw5138092516445993778 tw16712080955072028466 tw18201162703838345970 tw18171470102309868274 tw6725699747971064530 tw8028522052583254674 tw17118953309729039954 tw14132449765961141810 tw14169306559609920978 tw16859834956468974002 tw5609547935187002770 tw12205307048433992050 tw10491238822932188530 tw14354842716449206610 tw8518189232332106066 tw15363683603731926354 tw6443429190997482834 tw18121961332441413938 tw15823351993812842802 tw3831318489863746866 tw3410256482701500722 tw12283443397491752210 tw1584279842029888786 tw13013184906193973522 tw5750771837696184594 tw1784740601473358034 tw17063087941217999058 tw9204738372599465170 tw10000707319834477746 tw6363741390998621362 tw12513678419137116242 tw11980571404947250258 tw14787348914391396402 tw13921466349272213522 tw17458078205673035601 tw16708329413365574449 tw2393120135585004273 tw11653553119369272017 tw4256079338422934129 tw12911890785157198385 tw4711363365725662737 tw7820294984811985425 tw16644942750721763825 tw2936668703357713905 tw1818185868352991633 tw8812305438068461937 tw3530482388034187601 tw14562166333715440977 tw6912923293072597233 tw1109136504130140369 tw15378767706033588337 tw12173966431358901329 tw14305187670061483025 tw2504125312369837008 tw12673424241403424688 tw7792184824113952656 tw7518815306689309584 tw17989482498745262896 tw1662266588258483888 tw2874030644561936880 tw5042627914008638928 tw645086432218714544 tw17090882078012751248 tw15814181037762408816 tw16918782511389455664 tw1325234453989259568 tw1864553855233130768 tw7230345779937759504 tw17828592349041229040 tw17658902841476907248 tw11091664311224575184 tw6629137845983041712 tw1952081661956525232 tw18415342071811143824 tw12689424313856682096 tw14221026177646723152 tw1697089653708151824 tw3103949264033373200 tw15397647430303814575 tw9923499316773477231 tw12262020532202415951 tw284176852995187503 tw6573607742159795983 tw12083680429779905103 tw7195368303691721295 tw10920565477050003023 tw16817086721192379919 tw818393790490598767 tw3328088557985639759 tw8933903812437298447 tw7938846649064161551 tw3364703960287314191 tw16595443421230621903 tw16182968329342033071 tw2118396557659179119 tw1977379991445538831 tw6438700500047444974 tw12709777436614191054 tw14779871467130118094 tw2038128169301542862 tw12930390055028587374 tw15761292134574631758 tw10277157847964129070 tw5110137880355028686 tw7165860927230130862 tw3351746281894886062 tw5503181569486769806 tw16864155722809100910 tw8846745581851734606 tw6453045598618763854 tw6272363187926464046 tw10752288142612048398 tw17284868773681727918 tw206797092364261774 tw3225900194036605294 tw1382218516935894286 tw9085380857204034830 tw592155494411683054 tw1391752272888980686 tw13428724572531525774 tw15598353323864809453 tw12530773714189913037 tw1153142572957169581 tw10462581681279400877 tw13918827655993725837 tw15689597962834525069 tw10111544419421941613 tw15153535338720491277 tw1647879768991263373 tw11734937960867966605 tw14742651039559854701 tw8378420826941039213 tw9184207501188256333 tw8252413263356274253 tw6925335558307394093 tw15434269398783086925 tw14595337939276697933 tw5804526283478764877 tw5066574121566228749 tw10057762706691360013 tw6905695573048748237 tw18153297212373472429 tw5738504919086055533 tw8570281464762951789 tw14732761924901399597 tw1715024600156028973 tw7345077758295553069 tw12350080263752655917 tw10154721698094843917 tw15483296298911705068 tw6123075852356326380 tw4799617767951422412 tw15785998535844254668 tw4479835041635829676 tw9614273093455325068 tw8019949332066706316 tw9825374304761202508 tw6344169151008817964 tw13813305091234488076 tw8077367198037733132 tw5020002073362090732 tw10265599666941016812 tw158137894163945164 tw15539745457680173772 tw10722213848616964812 tw16089866169108737676 tw16018806379666843212 tw8440990362348823084 tw13783625305545121324 tw10207541344809441708 tw1338221794130900364 tw12317689764581800268 tw17135775831531827500 tw5148039013717604620 tw4454396821930721548 tw12204566037213509804 tw644615185263653036 tw6711314205064779916 tw2071051728468667468 tw7145827524710896652 tw14056487858300771307 tw2532195251587896299 tw6616646543914947467 tw6789453679986124619 tw7427685108054296331 tw11286403982207448811 tw9155543472497662667 tw9967644399866492587 tw2751320257834188427 tw4918314304241174155 tw7729199083160992331 tw11795956012153102923 tw10729063969486494187 tw3958576982324852203 tw2474689115841741227 tw11137961866160795019 tw4080681860695283083 tw5611527701011744107 tw11007664245728900395 tw6225174307089342731 tw9844925018799073483 tw9165351564564683947 tw17504849158457959531 tw6235207444561313803 tw13684882053327664139 tw13054253248132962250 tw12335380251311699818 tw13211639923966197546 tw7288895836518560554 tw1743121246039924490 tw10586299551610411754 tw994898426452808426 tw9516340137035057802 tw4239172524662575722 tw15535291280508658282 tw4229222028571585066 tw6596221614778553802 tw5905498418796392874 tw2742599968886079882 tw18387345448921961866 tw5667501284642655594 tw18274368225546930506 tw9949653085988459850 tw180045783336382730 tw18093714192371110122 tw14194003573422508138 tw13893555673999183946 tw12208623228267433002 tw14395339149519661066 tw3989079519720086473 tw12143860505425540009 tw16965056704739951529 tw916685956916380553 tw2087914164713446249 tw9446530359879593833 tw4802286565529343817 tw10808950566784436009 tw14735843890491634441 tw4620659038642546441 tw13557665721245325929 tw12321380460752863593 tw17367821308989396201 tw13305237858289710185 tw15128657506713179241 tw11838992863657880552 tw10961392026618512328 tw7665019405622794088 tw3373459424136040232 tw56564353182034696 tw9948883932174180104 tw6865699337230458632 tw14421260024636203752 tw16907949552032495304 tw3969602831532226184 tw2204360452243602024 tw1220170526097545800 tw7156257318053942856 tw299604624692169288 tw3983651825302790536 tw9979598582463562088 tw5805323127606096232 tw8556419014156623144 tw17220923839779116264 tw3693545169203394760 tw3225872144743657672 tw1598234353433146536 tw10385262868942745768 tw3841250894722586760 tw4328371296432721960 tw16147459972045148168 tw13981293149133791143 tw13172064802052947815 tw14066183307255280455 tw9759358220355360551 tw15627174541510556423 tw17207408869691520775 tw3989225882952656615 tw2950306671504216807 tw8891115625363264231 tw1891607547750744775 tw5868664922024194759 tw13504092332773388967 tw11909684568524129959 tw14989674984096080487 tw2662731652432204391 tw11965631917999810119 tw14298117432668558759 tw6641842421973375367 tw9637613234550669671 tw731857331698884935 tw3375654666569206087 tw18287481842947384583 tw3113693227948135687 tw17955022781449191687 tw12044923278363575527 tw15815424430660953319 tw5982344212108096711 tw17203751036483016903 tw12716483782665987207 tw14788084808331916391 tw8273246035005160519 tw11290849047420150823 tw3007785085275535367 tw7171723089991825382 tw16624290400758587366 tw9127673321589448678 tw973464577435639782 tw8721761723566134246 tw16713392737680641958 tw13898303556599041926 tw5078442578375643974 tw8333668306954695462 tw16639451822834568998 tw7254774811856946918 tw14629077417034802790 tw2031533935712823878 tw15419516469154464262 tw1810157102644937190 tw6163025798361970054 tw16300290524921426278 tw10136150880339501414 tw17334477236112455014 tw16990989019870043462 tw15333701972820851014 tw2833733125899340070 tw9776227494659609862 tw15995100808290209030 tw15451184058691560678 tw15977872150937255110 tw6049662971665758374 tw8659012109784297638 tw10975793398134301830 tw4471888189426475014 tw10129522016194707397 tw2526012091169223621 tw4858419601492853637 tw9268878269303364389 tw9907779197001772805 tw11968401609788710597 tw16039572071737612965 tw8375169461915788933 tw2334206601553473029 tw4255222667338805765 tw6688851991409949157 tw16841708582350309829 tw7598237236397062565 tw4156779630832637317 tw8600581020918366565 tw9244583813198676261 tw1397857105449665765 tw1236629140549050597 tw7955030386491672773 tw13025750713550421157 tw12164990599446789221 tw1240468352341673029 tw8438117756189008933 tw7126964259778916357 tw3109311426577269765 tw5415185472149159908 tw3775082812865411044 tw270365549255692100 tw8351263929939459876 tw4817308390104520484 tw5121594334156173092 tw12643334472129142500 tw405698784891917028 tw4345982777072003748 tw15777684996534784676 tw2279815861328705156 tw6914269773979448932 tw9141668346231085668 tw15707120093363121732 tw14728285073593348420 tw17132648552861589796 tw2234943259364111652 tw11427250435195305220 tw16714606230881997060 tw7052245940479281380 tw8102230716685392068 tw748025553449380004 tw16054489743522324644 tw17159993326989906084 tw17059771935039957092 tw14763247845837361220 tw8744995313441338243 tw7370928695140574083 tw16945679922100759427 tw3217915894719939427 tw245669516427598371 tw6868804709823697411 tw4692099800657222147 tw5832938519110648291 tw10033426282617096643 tw18286017006632495491 tw5472863982973962499 tw5777325779169017091 tw13171561363597371555 tw18433370105100073059 tw1561690141609240675 tw13238812487680783363 tw17316556447561412611 tw7212505917922780130 tw15841264863032671074 tw16712508140978645666 tw18251225851384287842 tw7168794595711657538 tw9483914708563970594 tw14117337341618244098 tw1694802292142831042 tw9601865267193902530 tw776856425741271490 tw11817014507908646306 tw3913838103639853410 tw16887489166197478722 tw9871810196381697346 tw8058074396752689410 tw14296739342267546786 tw16282404008913814690 tw16474910638024324194 tw5702968568934433890 tw2857930966030871618 tw3432934930606681154 tw11169434695017416770 tw8400792374657426466 tw15254451521096498145 tw7839351128006243265 tw10421350059694498753 tw5732501968449770401 tw12479591833353126817 tw4694027149818826625 tw13816159368322400033 tw10671573857582698273 tw8184508093245793025 tw5575705206466462401 tw3635454226730039969 tw5307590084194840225 tw1159048209158015553 tw9650018798706109985 tw17819645205499284961 tw14840671448953959873 tw1760208449619568961 tw1152552820229749025 tw1776399912726859009 tw3502507574197217505 tw8697092415437306049 tw8344694000907700385 tw9679247653470082209 tw11994883407246696577 tw5587487225714514017 tw555028246697127904 tw17915243980644714464 tw1565210828657352576 tw16733823952952940320 tw7231728570163828480 tw3905893841182669536 tw12661778843181359840 tw16970703800787177184 tw11964724646744457920 tw14974441115580659328 tw16682610549684361856 tw11271111745913997952 tw17568068863863914080 tw6120602281059748288 tw3651195938670760384 tw8200312710501959968 tw9629871606821677216 tw9728575234826484736:True)
end
set_option maxRecDepth 100000 in
set_option maxHeartbeats 0 in
theorem PySem.Challenge.cw_skeinwood_k81_back_and_again_holds : PySem.Challenge.rw_skeinwood_k81_back_and_again.Holds := by
 w_on; o_law; k_head; (case hw => w_witness2)
 k_fill
 refine Sk.walk (l := PySem.Challenge.rw_skeinwood_k81_back_and_again) rfl rfl (fun w h Y => PySem.W.kIn_of Y) ?F
 case F =>
  intro w mg fa h KX G hmg
  refine' Sk.all_mk KX G hmg ?aC0 ?aC1 ?a0 ?a1 ?a10 ?a11 ?a14 ?a16 ?a17 ?a18 ?a19 ?a20 ?a21 ?a27 ?a28 ?a30 ?a31 ?a32 ?a34 ?a35 ?a36 ?a37 ?a39 ?a41 ?a48 ?a53 ?a56 ?a59 ?a60 ?a61 ?a64 ?a67 ?a68 ?a2 ?a3 ?a4 ?a5 ?a6 ?a7 ?a8 ?a9 ?a12 ?a13 ?a15 ?a22 ?a23 ?a24 ?a25 ?a26 ?a29 ?a33 ?a38 ?a40 ?a42 ?a43 ?a44 ?a45 ?a46 ?a47 ?a49 ?a50 ?a51 ?a52 ?a54 ?a55 ?a57 ?a58 ?a62 ?a63 ?a65 ?a66 ?a69 ?a70 ?kk0 ?mk0 ?kc0 ?nf0_0 ?nf0_1 ?nf0_2 ?nf0_3 ?nf0_4 ?nf0_5 ?nf0_6 ?nf0_7 ?kk1 ?mk1 ?kc1 ?nf1_0 ?nf1_1 ?nf1_2 ?nf1_3 ?z_abs ?z_all ?z_bool ?z_dict ?z_enumerate ?z_int ?z_isinstance ?z_len ?z_max ?z_min ?z_range ?z_sorted ?z_str ?z_sum ?e_NothingDone ?x_NothingDone ?e_NoName ?em_NoName_0 ?e_NoPlace ?em_NoPlace_0 ?e_NoText ?em_NoText_0 ?em_NothingDone_0 ?e_TooLong ?em_TooLong_0 ?m_LEAF_SIGNS ?m_NAME_SIGNS ?m_MOST_PLAIN ?m_MOST_SIGNS
  (case aC0 => apply Sm.na;k_is)
  (case aC1 => apply Sm.na;k_is)
  (case a0 => apply Sm.dn<;>k_is)
  (case a1 => apply Sm.dn<;>k_is)
  (case a10 => apply Sm.dn<;>k_is)
  (case a11 => apply Sm.dn<;>k_is)
  (case a14 => apply Sm.dn<;>k_is)
  (case a16 => apply Sm.dn<;>k_is)
  (case a17 => apply Sm.dn<;>k_is)
  (case a18 => apply Sm.dn<;>k_is)
  (case a19 => apply Sm.dn<;>k_is)
  (case a20 => apply Sm.dn<;>k_is)
  (case a21 => apply Sm.dn<;>k_is)
  (case a27 => apply Sm.dn<;>k_is)
  (case a28 => apply Sm.dn<;>k_is)
  (case a30 => apply Sm.dn<;>k_is)
  (case a31 => apply Sm.dn<;>k_is)
  (case a32 => apply Sm.dn<;>k_is)
  (case a34 => apply Sm.dn<;>k_is)
  (case a35 => apply Sm.dn<;>k_is)
  (case a36 => apply Sm.dn<;>k_is)
  (case a37 => apply Sm.dn<;>k_is)
  (case a39 => apply Sm.dn<;>k_is)
  (case a41 => apply Sm.dn<;>k_is)
  (case a48 => apply Sm.dn<;>k_is)
  (case a53 => apply Sm.dn<;>k_is)
  (case a56 => apply Sm.dn<;>k_is)
  (case a59 => apply Sm.dn<;>k_is)
  (case a60 => apply Sm.dn<;>k_is)
  (case a61 => apply Sm.dn<;>k_is)
  (case a64 => apply Sm.dn<;>k_is)
  (case a67 => apply Sm.dn<;>k_is)
  (case a68 => apply Sm.dn<;>k_is)
  (case a2 => apply Sm.dk<;>k_is)
  (case a3 => apply Sm.dk<;>k_is)
  (case a4 => apply Sm.dk<;>k_is)
  (case a5 => apply Sm.dk<;>k_is)
  (case a6 => apply Sm.dk<;>k_is)
  (case a7 => apply Sm.dk<;>k_is)
  (case a8 => apply Sm.dk<;>k_is)
  (case a9 => apply Sm.dk<;>k_is)
  (case a12 => apply Sm.dk<;>k_is)
  (case a13 => apply Sm.dk<;>k_is)
  (case a15 => apply Sm.dk<;>k_is)
  (case a22 => apply Sm.dk<;>k_is)
  (case a23 => apply Sm.dk<;>k_is)
  (case a24 => apply Sm.dk<;>k_is)
  (case a25 => apply Sm.dk<;>k_is)
  (case a26 => apply Sm.dk<;>k_is)
  (case a29 => apply Sm.dk<;>k_is)
  (case a33 => apply Sm.dk<;>k_is)
  (case a38 => apply Sm.dk<;>k_is)
  (case a40 => apply Sm.dk<;>k_is)
  (case a42 => apply Sm.dk<;>k_is)
  (case a43 => apply Sm.dk<;>k_is)
  (case a44 => apply Sm.dk<;>k_is)
  (case a45 => apply Sm.dk<;>k_is)
  (case a46 => apply Sm.dk<;>k_is)
  (case a47 => apply Sm.dk<;>k_is)
  (case a49 => apply Sm.dk<;>k_is)
  (case a50 => apply Sm.dk<;>k_is)
  (case a51 => apply Sm.dk<;>k_is)
  (case a52 => apply Sm.dk<;>k_is)
  (case a54 => apply Sm.dk<;>k_is)
  (case a55 => apply Sm.dk<;>k_is)
  (case a57 => apply Sm.dk<;>k_is)
  (case a58 => apply Sm.dk<;>k_is)
  (case a62 => apply Sm.dk<;>k_is)
  (case a63 => apply Sm.dk<;>k_is)
  (case a65 => apply Sm.dk<;>k_is)
  (case a66 => apply Sm.dk<;>k_is)
  (case a69 => apply Sm.dk<;>k_is)
  (case a70 => apply Sm.dk<;>k_is)
  (case kk0 => constructor<;>k_is)
  (case mk0 => k_is)
  (case kc0 => k_is)
  (case nf0_0 => apply Sm.fatt;k_is)
  (case nf0_1 => apply Sm.fatt;k_is)
  (case nf0_2 => apply Sm.fatt;k_is)
  (case nf0_3 => apply Sm.fatt;k_is)
  (case nf0_4 => apply Sm.fatt;k_is)
  (case nf0_5 => apply Sm.fatt;k_is)
  (case nf0_6 => apply Sm.fatt;k_is)
  (case nf0_7 => apply Sm.fatt;k_is)
  (case kk1 => constructor<;>k_is)
  (case mk1 => k_is)
  (case kc1 => k_is)
  (case nf1_0 => apply Sm.fatt;k_is)
  (case nf1_1 => apply Sm.fatt;k_is)
  (case nf1_2 => apply Sm.fatt;k_is)
  (case nf1_3 => apply Sm.fatt;k_is)
  (case z_abs => apply Sm.na;k_is)
  (case z_all => apply Sm.na;k_is)
  (case z_bool => apply Sm.na;k_is)
  (case z_dict => apply Sm.na;k_is)
  (case z_enumerate => apply Sm.na;k_is)
  (case z_int => apply Sm.na;k_is)
  (case z_isinstance => apply Sm.na;k_is)
  (case z_len => apply Sm.na;k_is)
  (case z_max => apply Sm.na;k_is)
  (case z_min => apply Sm.na;k_is)
  (case z_range => apply Sm.na;k_is)
  (case z_sorted => apply Sm.na;k_is)
  (case z_str => apply Sm.na;k_is)
  (case z_sum => apply Sm.na;k_is)
  (case e_NothingDone => apply Sm.na;k_is)
  (case x_NothingDone => apply Sm.xi;k_exc)
  (case e_NoName => apply Sm.na;k_is)
  (case em_NoName_0 => apply Sm.xf<;>kts_exm)
  (case e_NoPlace => apply Sm.na;k_is)
  (case em_NoPlace_0 => apply Sm.xf<;>kts_exm)
  (case e_NoText => apply Sm.na;k_is)
  (case em_NoText_0 => apply Sm.xf<;>kts_exm)
  (case em_NothingDone_0 => apply Sm.xo;kts_exm)
  (case e_TooLong => apply Sm.na;k_is)
  (case em_TooLong_0 => apply Sm.xf<;>kts_exm)
  (case m_LEAF_SIGNS => apply Sm.na;k_is)
  (case m_NAME_SIGNS => apply Sm.na;k_is)
  (case m_MOST_PLAIN => apply Sm.na;k_is)
  (case m_MOST_SIGNS => apply Sm.na;k_is)
