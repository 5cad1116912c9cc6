import PyProof.Rows.All
import Wide.All
import OpenK.AllK
import Wide.FinOn
import Lean
import PyProof.EqAt
import PyProof.EqKinds
import PyProof.TupleCall
import PyProof.StrCalls2
import PyProof.SumAny
import PyProof.Rows.Range3
import PyProof.StrBlockI
import PyProof.SliceStr2
import PyProof.IsRules
import PyProof.StrBlock2
import PyProof.Seq
import KE.KRevIter
import PyProof.StrBlock
import PyProof.Rows.SortStr
import PyProof.Rows.SortShellK
import KE.KDictOf
import KE.KDictList
import KE.KTryMore
import KE.KEqDict
import PyProof.StrLawsIn
import PySem.Challenge.RW_skeinwood_k79_house_by_deeds
set_option Elab.async false
set_option genSizeOf false
set_option bootstrap.genMatcherCode false
set_option compiler.extract_closed false
set_option compiler.postponeCompile true
set_option linter.all false
set_option maxRecDepth 100000
local macro_rules|`(⋯)=>`(by lia)
local macro_rules|`(∅)=>`(by decide +kernel)
local macro_rules|`(tactic|exists$t)=>`(tactic|with_reducible show$t)
local macro_rules|`($a⁻¹)=>`(autoParam $a $(Lean.mkIdent `L2.DV._auto_1))
local macro_rules|`(‹$t›)=>match t with|`(_)=>Lean.Macro.throwUnsupported|_=>`(autoParam $t $(Lean.mkIdent `L2.Ep._auto_1))
local macro_rules|`(def$n:declId$s:optDeclSig$v:declVal)=>`(noncomputable def$n:declId$s:optDeclSig$v:declVal)
local macro_rules|`('d')=>`(by decide)
local macro_rules|`('s')=>`(by simp)
local macro_rules|`(def$n:declId$s:optDeclSig:=($t))=>`(theorem$n:declId$(⟨Lean.mkNode `Lean.Parser.Command.declSig #[s.raw[0],s.raw[1][0]]⟩):declSig:=$t)
local macro_rules|`(def$n:declId$s:optDeclSig:=by$t:tacticSeq)=>`(theorem$n:declId$(⟨Lean.mkNode `Lean.Parser.Command.declSig #[s.raw[0],s.raw[1][0]]⟩):declSig:=by$t:tacticSeq)
local macro_rules|`(abbrev$n:declId$s:optDeclSig$v:declVal)=>`(noncomputable abbrev$n:declId$s:optDeclSig$v:declVal)
local macro_rules|`(@[simp]def$n:declId$s:optDeclSig$v:declVal)=>`(@[simp]noncomputable def$n:declId$s:optDeclSig$v:declVal)
local macro_rules|`($d:declaration)=>if d.raw.getPos?.isNone then Lean.Macro.throwUnsupported else return (d.raw.rewriteBottomUp λs=>s.setInfo .none)
namespace Lake
noncomputable section
section
open PySem PySem.Spec PyProof.Rows
abbrev ZA:=PySem.W.Frag
abbrev ZB:=PySem.Shared
abbrev ZC:=PySem.Value
abbrev ZD:=PySem.Program
abbrev ZE:=PySem.Addr
abbrev ZF:=PySem.World
abbrev ZG:=PySem.Around
abbrev YA:=Str->Option ZC
abbrev YB:=List ZC
abbrev YC:=Option ZE
abbrev YD:=List Expr
def OS:=@List.getElem?_eq_some_iff
def OT:=@wpAny_bind
def OU:=@List.getElem?_set_ne
def OV:=@Nat.le_refl
def OW:=@Nat.le_trans
def OX:=@if_pos
def OY:=@List.getElem?_set_self
def OZ:=@Heap.get?_push_of_some
def O0:=@if_neg
def O1:=@wpAny_pure
def O2:=@List.length_map
def O3:=@List.getElem?_append_left
def O4:=@Heap.lt_size
def O5:=@List.size_toArray
def O6:=@List.getElem?_eq_getElem
def O7:=@Nat.lt_of_le_of_lt
def O8:=@List.map_cons
def O9:=@decide_eq_false
def Pa:=@Heap.get?_push_size
def Pb:=@List.mem_cons
def Pd:=@Option.map_eq_some_iff
def Pe:=@Bool.false_ne_true
def Pf:=@decide_eq_true
def Pg:=@Nat.add_le_add_left
def Ph:=@Nat.lt_of_lt_of_le
def Pi:=@Option.isSome_iff_exists
def Pj:=@wpAny_truthy_bool
def Pk:=@List.mem_append_left
def Pl:=@List.getElem?_append_right
def Pm:=@List.mem_of_getElem?
def Pn:=@List.mem_append_right
def Po:=@Nat.zero_le
def Pp:=@Option.some.inj
def Pq:=@Nat.ne_of_lt
def Pr:=@List.getElem?_map
def Pt:=@List.mem_cons_of_mem
def Pu:=@Bool.and_eq_true
def Pv:=@List.length_set
def Pw:=@List.length_append
def Px:=@List.all_eq_true
def Py:=@List.map_append
def Pz:=@PySem.F.plainAttrs_list
def PB:=@PySem.W.mg_none_of
def PC:=@wpAny_mono
def PD:=@Array.all_eq_true_iff_forall_mem
def PF:=@List.take_of_length_le
def PH:=@List.mem_append
def PJ:=@wpAny_holding
def PK:=@List.mem_cons_self
def PM:=@PySem.W.mg_of
def PN:=@List.nodup_cons
def PQ:=@List.find?_cons
def PU:=@List.length_cons
def PX:=@PySem.W.kia_one
def PY:=@List.range_succ
def PZ:=@List.length_take
def P0:=@List.prefix_refl
def P1:=@List.length_replicate
def P2:=@List.drop_of_length_le
def P3:=@decide_eq_true_eq
def P4:=@PyProof.Rows.boot_max
def P5:=@List.length_eq_zero_iff
def P6:=@Int.eq_ofNat_of_zero_le
def P7:=@wpAny_call_entry
def P8:=@List.length_range
def P9:=@PySem.boot_len
def Qa:=@PySem.mem_of_lookup
def Qb:=@Nat.not_lt_zero
def Qc:=@Option.isNone_iff_eq_none
def Qd:=@if_true
def Qe:=@PySem.F.slot_dict_get
def Qg:=@List.getElem?_eq_none
def Qh:=@List.pairwise_cons
def Qi:=@Nat.lt_irrefl
def Qj:=@List.any_cons
def Qk:=@List.mem_map
def Ql:=@PySem.F.slot_list_append
def Qm:=@PySem.F.type_list_append
def Qn:=@List.getElem?_replicate
def Qo:=@wpAny_newObj_type
def Qq:=@Bool.eq_iff_iff
def Qr:=@Int.max_eq_left
def Qs:=@wpAny_loadPart'
def Qt:=@Array.length_toList
def Qu:=@List.map_congr_left
def Qv:=@PyProof.Rows.callWith_type1
def Qw:=@Calls.callWith_builtin
def Qx:=@List.length_drop
def Qy:=@List.filter_cons
def Qz:=@List.getElem_mem
def QA:=@List.not_mem_nil
def QB:=@tupleKind_room_in1
def QC:=@PySem.typeIs_bool
def QD:=@Calls.evalArgs_plain
def QE:=@Heap.SameBut.update
def QF:=@PySem.F.plainAttrs_dict
def QG:=@Int.max_eq_right
def QH:=@PySem.F.slot_bool_hash
def QI:=@Calls.spliced_cons
def QJ:=@PySem.F.entry_dict_get
def QK:=@List.map_nil
def QL:=@List.getElem?_take
def QM:=@PySem.F.plainAttrs_str
def QN:=@List.nil_append
def QO:=@Nat.min_eq_left
def QP:=@Heap.get?_update_self
def QQ:=@wpAny_callSpecialIfBoundUnlessNone?_slot
def QR:=@Option.isSome_map
def QS:=@List.nodup_nil
def QT:=@List.mem_of_mem_drop
def QU:=@wpAny_of_eq
def QV:=@List.map_map
def QW:=@List.lookup_cons
def QX:=@Nat.add_comm
def QY:=@List.filterMap_cons
def QZ:=@List.getElem_of_mem
def Q3:=@List.append_nil
def Q4:=@List.foldl_cons
def Q5:=@Nat.min_le_left
def Q6:=@wpAny_passesOwn
def Q7:=@List.mem_singleton
def Q8:=@List.getElem?_drop
def Q9:=@assignInOrder_cons
def Ra:=@wpAny_load
def Rb:=@wpAny_Call_Name_kw
def Rc:=@call_meets
def Re:=@PySem.F.slot_list_clear
def Rf:=@PySem.F.type_list_clear
def Rg:=@decide_eq_false_iff_not
def Rh:=@List.mem_range
def Ri:=@Nat.le_of_lt
def Rj:=@Calls.spliced_nil
def Rk:=@List.nodup_append
def Rl:=@Nat.lt_succ_of_lt
def Rm:=@Nat.mul_le_mul
def Rn:=@Nat.le_succ_of_le
def Ro:=@call_meetsIn
def Rp:=@PyProof.Rows.slot_tuple_getitem
def Rq:=@Array.getElem?_toList
def Rr:=@List.length_filter_le
def Rt:=@PySem.F.slot_list_pop
def Ru:=@PySem.F.type_list_pop
def Rv:=@wpAny_notOrdered_dict
def Rx:=@Nat.lt_succ_self
def Ry:=@typeIs_str
def Rz:=@List.mem_of_mem_take
def RA:=@List.take_append_of_le_length
def RB:=@decide_true
def RC:=@PyProof.Rows.boot_isinstance
def RD:=@Int.emod_nonneg
def RE:=@wpAny_execs_nil
def RF:=@wpAny_ite_split
def RG:=@PySem.W.plainGet_of
def RH:=@List.getElem?_range
def RI:=@Nat.lt_trans
def RJ:=@Nat.zero_add
def RK:=@PySem.W.of_hideAll
def RL:=@Calls.Name_function_global
def RM:=@List.mem_filterMap
def RN:=@List.filterMap_map
def RO:=@PySem.W.callWith_K
def RP:=@List.drop_zero
def RQ:=@Int.emod_lt_of_pos
def RR:=@wpAny_call
def RU:=@List.drop_eq_getElem_cons
def RW:=@Calls.call_function_entry
def RX:=@PySem.W.kitx_list
def RY:=@Nat.le_succ
def RZ:=@Bool.eq_false_iff
def R0:=@Bool.not_eq_true'
def R3:=@List.append_assoc
def R4:=@List.getElem?_set
def R5:=@of_decide_eq_true
def R6:=@wpAny_pyIter_list
def R7:=@wpAny_Call_method
def R8:=@PySem.F.args_tuple_add_2
def R9:=@PySem.SeqAt.Reads.unique
def Sa:=@PySem.F.slot_NoneType_eq
def Sb:=@wpAny_standAt
def Sd:=@PySem.F.entry_tuple_add
def Se:=@PySem.F.args_dict_get_2
def Sf:=@PySem.F.args_dict_get_3
def Sg:=@Nat.le_of_not_lt
def Sh:=@Array.any_toList
def Sj:=@Array.toList_inj
def Sl:=@Option.bind_eq_some_iff
def Sn:=@List.all_toArray
def So:=@List.pairwise_singleton
def Sq:=@List.getElem?_cons_succ
def Sr:=@wpAny_callSpecial?_slot
def Ss:=@eq_of_beq
def Su:=@or_false
def Sv:=@Nat.le_of_eq
def Sw:=@PySem.W.cellsFrom_some
def Sx:=@PySem.F.slot_tuple_add
def Sy:=@Heap.get?_update_other
def Sz:=@Nat.mul_comm
def SA:=@Nat.pow_succ
def SD:=@List.length_eq_one_iff
def SF:=@wpAny_pyNext_range_end
def SG:=@wpAny_pyIter_rangeiter
def SH:=@subscriptTail_builtinR
def SJ:=@codeAny_mono
def SM:=@List.mem_filter
def SN:=@List.of_mem_zip
def SO:=@List.forIn_cons
def SQ:=@wpAny_specialOf
def SR:=@PySem.F.slot_dict_pop
def SU:=@PySem.F.type_dict_get
def SV:=@PySem.W.methodCall_KW
def SW:=@List.dropLast_eq_take
def SY:=@PySem.F.args_int_eq_2
def SZ:=@PySem.F.slot_tuple_eq
def S0:=@PyProof.Rows.boot_all
def S8:=@PyProof.Rows.boot_min
def S9:=@PySem.F.slot_str_join
def Ta:=@PySem.F.type_str_join
def Tc:=@codeAny_handlers_test
def Td:=@Heap.get?_none_of_le
def Te:=@Heap.size_push
def Tf:=@List.getElem?_of_mem
def Th:=@PySem.F.slot_dict_eq
def Ti:=@PySem.F.slot_bool_eq
def Tj:=@PySem.F.entry_int_eq
def Tn:=@PySem.F.slot_list_eq
def To:=@Nat.add_le_add
def Tp:=@Nat.mul_add
def Tq:=@Nat.pow_le_pow_right
def Tr:=@wpAny_field
def Ts:=@lookup_relabel_local
def Tt:=@codeAny_call_builtin
def Tu:=@isSubtype_type
def Tv:=@wpAny_bindName
def Tw:=@Value.isStrOf_shape
def Tz:=@PySem.W.hideAll_get
def TB:=@PySem.W.callWith_K0
def TC:=@PySem.W.kdu_collect
def TF:=@PySem.F.slot_int_eq
def TH:=@PySem.F.slot_str_eq
def TJ:=@Nat.mul_le_mul_left
def TK:=@Int.toNat_of_nonneg
def TL:=@List.replicate_succ
def TM:=@wpAny_handleBy_cons
def TN:=@List.set_comm
def TQ:=@PySem.Reads.unique
def TR:=@List.foldl_toArray
def TU:=@Nat.not_lt
def TV:=@List.prefix_append
def TX:=@Nat.add_sub_cancel
def TY:=@Bool.not_eq_false'
def TZ:=@wpAny_pyIter_range
def T5:=@wpAny_rule
def T6:=@Value.isInt_shape
def T7:=@PySem.W.kitx_dict
def T8:=@Int.toNat_natCast
def T9:=@List.set_set
def Ua:=@List.ext_getElem?
def Ub:=@List.find?_append
def Uc:=@List.foldl_append
def Ud:=@Int.ofNat_lt
def Ue:=@wpAny_assign_Name
def Ug:=@assignInOrder_nil
def Uh:=@concat_meets
def Ui:=@wpAny_sequenceKey
def Uj:=@seqIndex_neg
def Uk:=@slot_dict_setitem
def Ul:=@wpAny_pyIter_enum
def Um:=@wpAny_Name
def Uo:=@chain_link
def Up:=@if_false
def Uq:=@typeIs_int
def Ur:=@call_gives
def Us:=@beq_iff_eq
end
namespace L2
open PySem PySem.Spec PyProof.Rows
abbrev aF:=Sum Int Str
def ka:aF->ZC->Bool
 |.inl k,v=>Value.isInt k v
 |.inr x,v=>Value.isStrOf x v
def nQ(w:ZF):aF->Int
 |.inl k=>hashInt k
 |.inr x=>hashStr w x
theorem ip:∀ {k:aF} {v:ZC},ka k v=true->(∃ i t,k=Sum.inl i/\v=Value.int i t)\/(∃ x t,k=Sum.inr x/\v=Value.str x t)
 |.inl i,v,h=>by
  obtain⟨t,e⟩:=T6 (k:=i) (v:=v) h;exact .inl ⟨i,t,rfl,e⟩
 |.inr x,v,h=>by
  obtain⟨t,e⟩:=Tw (x:=x) (v:=v) h;exact .inr ⟨x,t,rfl,e⟩
def DC(i:Int)(t:Tok):ka (.inl i) (.int i t)=true:=by simp[ka,Value.isInt]
def DD(x:Str)(t:Tok):ka (.inr x) (.str x t)=true:=by simp[ka,Value.isStrOf]
def p6(a b:Int):decide ((Sum.inl a:aF)=Sum.inl b)=(a == b):=by
 by_cases e:a=b
 ·subst e;simp
 ·have h:¬ (Sum.inl a:aF)=Sum.inl b:=λq=>e (Sum.inl.inj q)
  rw[O9 h];exact(beq_eq_false_iff_ne.mpr e).symm
def xW(a b:Str):decide ((Sum.inr a:aF)=Sum.inr b)=decide (a=b):=by
 by_cases e:a=b
 ·subst e;simp
 ·have h:¬ (Sum.inr a:aF)=Sum.inr b:=λq=>e (Sum.inr.inj q)
  rw[O9 h,O9 e]
def sX(a:Int)(b:Str):decide ((Sum.inl a:aF)=Sum.inr b)=false:=(O9 (λq=>nomatch q))
def sY(a:Str)(b:Int):decide ((Sum.inr a:aF)=Sum.inl b)=false:=(O9 (λq=>nomatch q))
def d9(prog:ZD)(w:ZF):PySem.KeyKind prog w aF where
 is:=ka
 hash:=nQ w
 inj:=λv a b ha hb=>by
  rcases ip ha with⟨i,t,rfl,rfl⟩|⟨x,t,rfl,rfl⟩
  ·rcases ip hb with⟨j,u,rfl,e⟩|⟨y,u,rfl,e⟩
   ·injection e with e1 _;rw[e1]
   ·exact nomatch e
  ·rcases ip hb with⟨j,u,rfl,e⟩|⟨y,u,rfl,e⟩
   ·exact nomatch e
   ·injection e with e1 _;rw[e1]
 byValue:=λk v h=>by
  rcases ip h with⟨i,t,rfl,rfl⟩|⟨x,t,rfl,rfl⟩<;>rfl
 pyHash:=λhv h=>by
  rcases ip hv with⟨i,t,rfl,rfl⟩|⟨x,t,rfl,rfl⟩
  ·exact wpAny_pyHash_int h
  ·exact wpAny_pyHash_str h
 eqBool:=λhu hv h=>by
  rcases ip hu with⟨i,t,rfl,rfl⟩|⟨x,t,rfl,rfl⟩
  ·rcases ip hv with⟨j,u,rfl,rfl⟩|⟨y,u,rfl,rfl⟩
   ·rw[p6] at h;exact wpAny_eqBool_int h
   ·rw[sX] at h;exact SeqAt.EqAt.int_str i t y u _ _ _ _ h
  ·rcases ip hv with⟨j,u,rfl,rfl⟩|⟨y,u,rfl,rfl⟩
   ·rw[sY] at h;exact SeqAt.EqAt.str_int x t j u _ _ _ _ h
   ·rw[xW] at h;exact wpAny_eqBool_str h
 «strs»:=λk x t v h=>by
  rcases ip h with⟨i,u,rfl,e⟩|⟨y,u,rfl,e⟩
  ·exact nomatch e
  ·injection e with e1 _
   subst e1
   cases v<;>rfl
abbrev kS(b:Bool):Int:=if b then 1 else 0
def kT:aF->ZC->Bool
 |.inl k,.bool b=>decide (k=kS b)
 |.inl k,v=>Value.isInt k v
 |.inr x,v=>Value.isStrOf x v
theorem iq:∀ {k:aF} {v:ZC},kT k v=true->(∃ i t,k=Sum.inl i/\v=Value.int i t)\/(∃ b,k=Sum.inl (kS b)/\v=Value.bool b)\/(∃ x t,k=Sum.inr x/\v=Value.str x t)
 |.inl i,v,h=>by
  cases v with
  |bool b=>exact .inr (.inl ⟨b,by rw[R5 (show decide (i=kS b)=true from h)],rfl⟩)
  |int j t =>
   obtain⟨t,e⟩:=T6 (k:=i) (v:=.int j t) h;exact .inl ⟨i,t,rfl,e⟩
  |_=>exact absurd h (by simp[kT,Value.isInt])
 |.inr x,v,h=>by
  obtain⟨t,e⟩:=Tw (x:=x) (v:=v) h;exact .inr (.inr ⟨x,t,rfl,e⟩)
def DE{prog:ZD}{w:ZF}{A:ZG}{E:ZC->ZB->Prop}{s:ZB}{b:Bool}{Q:Int->ZB->Prop}(h:Q (hashInt (kS b)) { s with toks:=s.toks+1 }) :
  wpAny (model prog w) A (pyHash (.bool b)) Q E s:=by
 unfold pyHash;unfold pyHashByItsType;have hv:[Value.bool b].any Value.onHeap=false:=rfl;refine OT ?_
 rw[cRoomFor,O0 (by rw[hv];exact Pe)];refine O1 ?_
 refine OT (SQ (QC s b) PySem.F.slot_bool_hash.lookup ?_)
 show wpAny _ _ (if (some (Value.builtin "int.__hash__") == some Value.none)=true then _ else _) Q E s
 rw[O0 (by rw[beq_builtin_none];exact Pe)];refine OT (SQ (QC s b) PySem.F.slot_bool_hash.lookup ?_)
 show wpAny _ _ (callSpecialIfBoundUnlessNone? (.bool b) "__hash__" _ >>= _) Q E s
 cases b with
 |false =>
  refine OT (QQ (QC s false) QH
   (P7 QH (QC s false) entry_int_hash
    (show wpAny _ _ (do ret (<- mkInt 0)) _ _ s from wpAny_ret_mkInt ?_) (args_int_hash _)))
  exact O1 h
 |true =>
  refine OT (QQ (QC s true) QH
   (P7 QH (QC s true) entry_int_hash
    (show wpAny _ _ (do ret (<- mkInt 1)) _ _ s from wpAny_ret_mkInt ?_) (args_int_hash _)))
  exact O1 h
def DF(a b:Bool):(a == b)=decide ((Sum.inl (kS a):aF)=Sum.inl (kS b)):=by cases a<;>cases b<;>decide
def iu(prog:ZD)(w:ZF):PySem.KeyKind prog w aF where
 is:=kT
 hash:=nQ w
 inj:=λv a b ha hb=>by
  rcases iq ha with⟨i,t,rfl,rfl⟩|⟨c,rfl,rfl⟩|⟨x,t,rfl,rfl⟩
  ·rcases iq hb with⟨j,u,rfl,e⟩|⟨d,rfl,e⟩|⟨y,u,rfl,e⟩
   ·injection e with e1 _;rw[e1]
   ·exact nomatch e
   ·exact nomatch e
  ·rcases iq hb with⟨j,u,rfl,e⟩|⟨d,rfl,e⟩|⟨y,u,rfl,e⟩
   ·exact nomatch e
   ·injection e with e1;rw[e1]
   ·exact nomatch e
  ·rcases iq hb with⟨j,u,rfl,e⟩|⟨d,rfl,e⟩|⟨y,u,rfl,e⟩
   ·exact nomatch e
   ·exact nomatch e
   ·injection e with e1 _;rw[e1]
 byValue:=λk v h=>by
  rcases iq h with⟨i,t,rfl,rfl⟩|⟨c,rfl,rfl⟩|⟨x,t,rfl,rfl⟩<;>rfl
 pyHash:=λhv h=>by
  rcases iq hv with⟨i,t,rfl,rfl⟩|⟨c,rfl,rfl⟩|⟨x,t,rfl,rfl⟩
  ·exact wpAny_pyHash_int h
  ·exact DE h
  ·exact wpAny_pyHash_str h
 eqBool:=λhu hv h=>by
  rcases iq hu with⟨i,t,rfl,rfl⟩|⟨c,rfl,rfl⟩|⟨x,t,rfl,rfl⟩
  ·rcases iq hv with⟨j,u,rfl,rfl⟩|⟨d,rfl,rfl⟩|⟨y,u,rfl,rfl⟩
   ·rw[p6] at h;exact wpAny_eqBool_int h
   ·rw[p6] at h;exact SeqAt.EqAt.int_bool i t d _ _ _ _ h
   ·rw[sX] at h;exact SeqAt.EqAt.int_str i t y u _ _ _ _ h
  ·rcases iq hv with⟨j,u,rfl,rfl⟩|⟨d,rfl,rfl⟩|⟨y,u,rfl,rfl⟩
   ·rw[p6] at h;exact SeqAt.EqAt.bool_int c j u _ _ _ _ h
   ·rw[<- DF] at h;exact SeqAt.EqAt.bool_bool c d _ _ _ _ h
   ·rw[sX] at h;exact SeqAt.EqAt.bool_str c y u _ _ _ _ h
  ·rcases iq hv with⟨j,u,rfl,rfl⟩|⟨d,rfl,rfl⟩|⟨y,u,rfl,rfl⟩
   ·rw[sY] at h;exact SeqAt.EqAt.str_int x t j u _ _ _ _ h
   ·rw[sY] at h;exact SeqAt.EqAt.str_bool x t d _ _ _ _ h
   ·rw[xW] at h;exact wpAny_eqBool_str h
 «strs»:=λk x t v h=>by
  rcases iq h with⟨i,u,rfl,e⟩|⟨d,rfl,e⟩|⟨y,u,rfl,e⟩
  ·exact nomatch e
  ·exact nomatch e
  ·injection e with e1 _
   subst e1
   cases v<;>rfl
def DH(prog:ZD)(w:ZF)(i:Int)(t:Tok):(iu prog w).is (.inl i) (.int i t)=true:=by show kT (.inl i) (.int i t)=true;simp[kT,Value.isInt]
def DJ(prog:ZD)(w:ZF)(x:Str)(t:Tok):(iu prog w).is (.inr x) (.str x t)=true:=by show kT (.inr x) (.str x t)=true;simp[kT,Value.isStrOf]
def DL(prog:ZD)(w:ZF)(k:aF)(v:ZC):(d9 prog w).is k v=ka k v:=(rfl)
def DM(prog:ZD)(w:ZF)(i:Int)(t:Tok):(d9 prog w).is (.inl i) (.int i t)=true:=(DC i t)
def DO(prog:ZD)(w:ZF)(x:Str)(t:Tok):(d9 prog w).is (.inr x) (.str x t)=true:=(DD x t)
inductive V where
 |non|bl (b:Bool)|int (i:Int)|str (x:Str)|byt (b:Array UInt8)|flt (b:UInt64)|ref (a:ZE)|ty (n:String)
 deriving DecidableEq
def RelV:V->ZC->Prop
 |.non,u=>u=Value.none
 |.bl b,u=>u=Value.bool b
 |.int i,u=>∃ t,u=Value.int i t
 |.str x,u=>∃ t,u=Value.str x t
 |.byt b,u=>∃ t,u=Value.bytes b t
 |.flt b,u=>∃ t,u=Value.float b t
 |.ref a,u=>u=Value.ref a
 |.ty n,u=>u=Value.type n
abbrev YE:=List V
abbrev Vals:YE->YB->Prop:=Paired RelV
def Vals.length{xs:YE}{us:YB}(r:Vals xs us):xs.length=us.length:=(Paired.length r)
theorem Vals.get:∀ {xs:YE} {us:YB} {i:Nat} {x:V},Vals xs us->xs[i]?=some x->∃ u,us[i]?=some u/\RelV x u
 |_,_,_,_,.nil,e=>by simp at e
 |_,_,0,_,.cons r _,e=>by simp at e;subst e;exact⟨_,rfl,r⟩
 |_,_,i+1,x,.cons _ t,e=>by
  obtain⟨u,h1,h2⟩:=Vals.get (i:=i) (x:=x) t (by simpa using e);exact⟨u,by simpa using h1,h2⟩
theorem Vals.set{x:V}{u:ZC}(r:RelV x u):∀ {xs:YE} {us:YB} (i:Nat),Vals xs us->Vals (xs.set i x) (us.set i u)
 |_,_,_,.nil=>.nil
 |_,_,0,.cons _ t=>.cons r t
 |_,_,i+1,.cons q t=>.cons q (Vals.set r i t)
theorem Vals.append:∀ {xs ys:YE} {us ws:YB},Vals xs us->Vals ys ws->Vals (xs++ys) (us++ws)
 |_,_,_,_,.nil,s=>s
 |_,_,_,_,.cons r t,s=>.cons r (Vals.append t s)
theorem Vals.take:∀ {xs:YE} {us:YB} (n:Nat),Vals xs us->Vals (xs.take n) (us.take n)
 |_,_,0,_=>.nil
 |_,_,_+1,.nil=>.nil
 |_,_,n+1,.cons r t=>.cons r (Vals.take n t)
theorem Vals.drop:∀ {xs:YE} {us:YB} (n:Nat),Vals xs us->Vals (xs.drop n) (us.drop n)
 |_,_,0,r=>r
 |_,_,_+1,.nil=>.nil
 |_,_,n+1,.cons _ t=>Vals.drop n t
def RelO:Option V->Option ZC->Prop
 |some v,some u=>RelV v u
 |none,none=>True
 |_,_=>False
def KV{κ:Type}:List (κ×V)->List (κ×ZC)->Prop:=Paired λ(p:κ×V) (q:κ×ZC)=>p.1=q.1/\RelV p.2 q.2
def kV:aF->V
 |.inl i=>.int i
 |.inr x=>.str x
def mJ:V->Option aF
 |.int i=>some (.inl i)
 |.bl b=>some (.inl (kS b))
 |.str x=>some (.inr x)
 |_=>none
def DP(k:aF):mJ (kV k)=some k:=by cases k<;>rfl
inductive HO where
 |lst (xs:YE)
 |tup (xs:YE)
 |dK (kvs:List (aF×V))|dT (xc:Option (List ZE)) (kvs:List (List aF×V))
 |set (S:Int->Bool) (n:Nat)
 |ins (C dx:ZE) (fs:List (Str×V))
 |own (x:ZE)
 |xd (fs:List (Str×V))
 |met (f x:ZE)
 |rng (lo hi:Int)
 |frz (o:Obj) (u:HO)
 |tbl (ps:Array ZC)
 |ext (φ:Heap->Prop)
abbrev Hp:=ZE->Option HO
def upd(H:Hp)(a:ZE)(o:HO):Hp:=λb=>if b=a then some o else H b
def dH{H:Hp}{a:ZE}{o:HO}:upd H a o a=some o:=by unfold upd;rw[OX rfl]
def bg{H:Hp}{a b:ZE}{o:HO}(h:b≠a):upd H a o b=H b:=by unfold upd;rw[O0 h]
def DQ{H:Hp}{a b:ZE}{o u:HO}(h:H a=some o)(h':H b=some u)(d:o≠u):a≠b:=by
 intro e;subst e;rw[h] at h';exact d (Pp h')
def fN{H:Hp}{a b:ZE}{o:HO}(h:H a=some o)(h':H b=none):a≠b:=by
 intro e;subst e;rw[h] at h';cases h'
section
variable(P:ZD)(w:ZF)
def ObjOk(H:Hp)(h:Heap)(a:ZE):HO->Prop
 |.lst xs=>xs.length<=sizeLine/\∃ (its:YB) (n:Nat),Vals xs its/\h.get? a=some { cls:=.type "list",data:=.seq its.toArray n }
 |.tup xs=>xs.length<=sizeLine/\∃ its:YB,Vals xs its/\IsTup h a its.toArray
 |.dK kvs=>kvs.length<=sizeLine/\(a == sysModules)=false/\∃ vs,KV kvs vs/\h.DictOf (d9 P w) a vs
 |.dT xc kvs=>kvs.length<=sizeLine/\(a == sysModules)=false/\∃ xs:List (List aF×ZE×ZC),
   Paired (λ(p:List aF×V) (q:List aF×ZE×ZC)=>p.1=q.1/\(∃ ys,H q.2.1=some (.tup ys)/\ys.map mJ=p.1.map some)/\RelV p.2 q.2.2) kvs xs /\
   ∃ o es ep,h.get? a=some o/\o.ExactDict/\o.data=.dict es ep/\es.toList=xs.map (entryOfKey (tupleKind (iu P w)))/\(xs.map (·.1)).Nodup/\ep=xs.length/\∀ as,xc=some as->xs.map (·.2.1)=as
 |.set S n=>h.SetOf (intKind P w) a S n
 |.ins C dx fs=>H dx=some (.own a)/\fs.length<=1000/\dx≠a/\h.get? a=some (PySem.W.instObj C dx) /\
   ∃ mA,h.Ns1 dx mA/\(∀ f,RelO (fs.lookup f) (mA f))/\PySem.Within mA (fs.map (·.1))
 |.own _=>∃ o,h.get? a=some o
 |.xd fs=>∃ mA,h.Ns1 a mA/\∀ f,RelO (fs.lookup f) (mA f)
 |.rng lo hi=>∃ t u v,h.get? a=some { cls:=.type "range",data:=.fields #[.int lo t,.int hi u,.int 1 v] }
 |.frz o u=>h.get? a=some o/\ObjOk H h a u
 |.tbl ps=>h.get? a=some { cls:=.none,data:=.fields ps }
 |.met f x=>h.get? a=some (PySem.W.methodObj (.ref f) (.ref x))
 |.ext φ=>φ h/\(∃ o,h.get? a=some o)/\∀ h1 h2:Heap,φ h1->(∀ o,h1.get? a=some o->h2.get? a=some o)->φ h2
def HOk(H:Hp)(h:Heap):Prop:=∀ a o,H a=some o->ObjOk P w H h a o
end
section
variable{P:ZD}{w:ZF}{H H':Hp}{h h':Heap}{a:ZE}{o:HO}
def ObjOk.lt(x:ObjOk P w H h a o):a<h.objs.size:=by
 cases o with
 |lst xs=>obtain⟨_,_,_,_,e⟩:=x;exact O4 e
 |tup xs=>obtain⟨_,_,_,p⟩:=x;exact p.lt
 |dK kvs=>obtain⟨_,_,_,_,o,_,_,e,_⟩:=x;exact O4 e
 |dT xc kvs=>obtain⟨_,_,_,_,o,_,_,e,_⟩:=x;exact O4 e
 |set S n=>obtain⟨o,_,_,_,e,_⟩:=x;exact O4 e
 |ins C dx fs=>obtain⟨_,_,_,e,_⟩:=x;exact O4 e
 |own y=>obtain⟨_,e⟩:=x;exact O4 e
 |xd fs=>obtain⟨_,⟨_,_,_,e,_⟩,_⟩:=x;exact O4 e
 |rng lo hi=>obtain⟨_,_,_,e⟩:=x;exact O4 e
 |frz ob u=>obtain⟨e,_⟩:=x;exact O4 e
 |tbl ps=>exact O4 (show h.get? a=some _ from x)
 |met f y=>exact O4 (show h.get? a=some _ from x)
 |ext φ=>obtain⟨_,⟨_,e⟩,_⟩:=x;exact O4 e
theorem Paired.mapP{α β:Type}{F G:α->β->Prop}:∀ {l₁:List α} {l₂:List β},Paired F l₁ l₂->(∀ a b,F a b->G a b)->Paired G l₁ l₂
 |_,_,.nil,_=>.nil
 |_,_,.cons r t,f=>.cons (f _ _ r) (Paired.mapP t f)
def ObjOk.stay(x:ObjOk P w H h a o)(k:∀ b u,(b=a\/H b=some (.own a))->h.get? b=some u->h'.get? b=some u)
  (ho:∀ b,H b=some (.own a)->H' b=some (.own a))(ht:∀ b xs,H b=some (.tup xs)->H' b=some (.tup xs)):ObjOk P w H' h' a o:=by
 induction o with
 |lst xs=>obtain⟨z,its,n,r,e⟩:=x;exact⟨z,its,n,r,k _ _ (.inl rfl) e⟩
 |tup xs=>obtain⟨z,its,r,ob,e,c⟩:=x;exact⟨z,its,r,ob,k _ _ (.inl rfl) e,c⟩
 |dK kvs=>obtain⟨z,y,vs,r,ob,es,ep,e,c⟩:=x;exact⟨z,y,vs,r,ob,es,ep,k _ _ (.inl rfl) e,c⟩
 |dT xc kvs =>
  obtain⟨z,y,xs,r,ob,es,ep,e,c⟩:=x;exact⟨z,y,xs,Paired.mapP r λp q z=>⟨z.1,z.2.1.imp λ_ e=>⟨ht _ _ e.1,e.2⟩,z.2.2⟩,ob,es,ep,k _ _ (.inl rfl) e,c⟩
 |set S n=>obtain⟨ob,es,ep,t,e,c⟩:=x;exact⟨ob,es,ep,t,k _ _ (.inl rfl) e,c⟩
 |ins C dx fs =>
  obtain⟨d,z,ne,e,mA,⟨od,es,ep,e2,c⟩,r⟩:=x;exact⟨ho _ d,z,ne,k _ _ (.inl rfl) e,mA,⟨od,es,ep,k _ _ (.inr d) e2,c⟩,r⟩
 |own y=>obtain⟨ob,e⟩:=x;exact⟨ob,k _ _ (.inl rfl) e⟩
 |xd fs=>obtain⟨mA,⟨od,es,ep,e,c⟩,r⟩:=x;exact⟨mA,⟨od,es,ep,k _ _ (.inl rfl) e,c⟩,r⟩
 |rng lo hi=>obtain⟨t,u,v,e⟩:=x;exact⟨t,u,v,k _ _ (.inl rfl) e⟩
 |frz ob u ih=>obtain⟨e,q⟩:=x;exact⟨k _ _ (.inl rfl) e,ih q⟩
 |tbl ps =>
  have e:h.get? a=some { cls:=.none,data:=.fields ps }:=x;show h'.get? a=some { cls:=.none,data:=.fields ps }
  exact k a _ (.inl rfl) e
 |met f y =>
  have e:h.get? a=some (PySem.W.methodObj (.ref f) (.ref y)):=x;show h'.get? a=some (PySem.W.methodObj (.ref f) (.ref y))
  exact k a _ (.inl rfl) e
 |ext φ=>obtain⟨p,⟨o,e⟩,st⟩:=x;exact⟨st _ _ p λo q=>k _ _ (.inl rfl) q,⟨o,k _ _ (.inl rfl) e⟩,st⟩
def HOk.lt(x:HOk P w H h)(e:H a=some o):a<h.objs.size:=((x a o e).lt)
def HOk.fresh(x:HOk P w H h)(e:h.objs.size<=a):H a=none:=by
 cases q:H a with
 |none=>rfl
 |some u=>exact absurd (Ph (x.lt q) e) (Qi _)
def HOk.kept(x:HOk P w H h)(k:∀ b u,h.get? b=some u->h'.get? b=some u):HOk P w H h':=(λa o e =>
 (x a o e).stay (λb u _ q=>k b u q) (λ_ q=>q) λ_ _ q=>q)
def HOk.laid(x:HOk P w H h)(k:∀ b u,h.get? b=some u->h'.get? b=some u)(hp:h.objs.size<=a)(new:ObjOk P w (upd H a o) h' a o):HOk P w (upd H a o) h':=(λb u e=>by
 have hn:=x.fresh hp;by_cases hb:b=a
 ·subst hb;rw[dH] at e;cases e;exact new
 ·rw[bg hb] at e
  exact(x b u e).stay (λc v _ q=>k c v q) (λc q=>by rw[bg (fN q hn)];exact q) λc xs q=>by rw[bg (fN q hn)];exact q)
end
def Rd(H:Hp)(a:ZE)(u:HO):Prop:=H a=some u\/∃ o,H a=some (.frz o u)
def Rd.of{H:Hp}{a:ZE}{u:HO}(h:H a=some u):Rd H a u:=(.inl h)
def Rd.ok{P:ZD}{w:ZF}{H:Hp}{h:Heap}{a:ZE}{u:HO}(r:Rd H a u)(x:HOk P w H h):ObjOk P w H h a u:=by
 rcases r with r|⟨o,r⟩
 ·exact x a u r
 ·obtain⟨_,q⟩:=x a _ r
  exact q
def nR:Option HO->Prop
 |some (.lst _)=>True
 |some (.dK _)=>True
 |some (.dT _ _)=>True
 |some (.set _ _)=>True
 |some (.ins _ _ _)=>True
 |some (.ext _)=>True
 |_=>False
section
variable{P:ZD}{w:ZF}{H:Hp}{h h':Heap}{x e:ZE}{o':HO}
def HOk.write(ok:HOk P w H h)(mu:nR (H x))(he:e=x\/H e=some (.own x))(k:∀ b u,b≠e->h.get? b=some u->h'.get? b=some u)(heo:∃ u,h'.get? e=some u)
  (new:ObjOk P w (upd H x o') h' x o'):HOk P w (upd H x o') h':=(λb u q=>by
 have nown:∀ c y,H c=some (.own y)->c≠x:=λc y r z=>by subst z;rw[r] at mu;exact mu
 have ntup:∀ c xs,H c=some (.tup xs)->c≠x:=λc xs r z=>by subst z;rw[r] at mu;exact mu
 by_cases hb:b=x
 ·subst hb;rw[dH] at q;cases q;exact new
 ·rw[bg hb] at q
  by_cases hbe:b=e
  ·have q':H b=some (.own x):=by
    rcases he with z|z
    ·exact absurd (hbe.trans z) hb
    ·rw[hbe];exact z
   rw[q] at q';cases q'
   obtain⟨v,hv⟩:=heo;exact⟨v,by rw[hbe];exact hv⟩
  ·refine(ok b u q).stay (λc v hc r=>k c v ?_ r) (λc r=>by rw[bg (nown c b r)];exact r) λc xs r=>by rw[bg (ntup c xs r)];exact r
   rcases hc with rfl|hc
   ·exact hbe
   ·rintro rfl
    rcases he with z|z
    ·exact nown c b hc z
    ·rw[hc] at z;cases z;exact hb rfl)
end
structure Un(fs ex:List ZE)(H H':Hp)(h h':Heap):Prop where
 keep:∀ b o,h.get? b=some o->H b=none->b∉fs->b∉ex->h'.get? b=some o
 slot:∀ b o,h.get? b=some o->H b=none->b∈fs->b∉ex->∃ sl,h'.get? b=some { o with slots:=sl }
 free:∀ b o,h.get? b=some o->H b=none->b∉ex->H' b=none
 there:∀ b o,h.get? b=some o->b∉ex->∃ o',h'.get? b=some o'
 tups:∀ b xs,H b=some (.tup xs)->H' b=some (.tup xs)
 frzs:∀ b o u,H b=some (.frz o u)->H' b=some (.frz o u)
 tbls:∀ b ps,H b=some (.tbl ps)->∃ more,H' b=some (.tbl (ps++more))
section
variable{fs fs' ex ex':List ZE}{H H1 H2:Hp}{h h1 h2 h':Heap}{a x e:ZE}{o:HO}
def Un.any(u:Un fs ex H H1 h h1){b:ZE}{ob:Obj}(q:h.get? b=some ob)(n:H b=none)(hx:b∉ex):∃ sl,h1.get? b=some { ob with slots:=sl }:=by
 by_cases hb:b∈fs
 ·exact u.slot b ob q n hb hx
 ·exact⟨ob.slots,u.keep b ob q n hb hx⟩
def Un.kept(k:∀ b u,h.get? b=some u->h'.get? b=some u):Un fs ex H H h h' :=(
 ⟨λb ob q _ _ _=>k b ob q,λb ob q _ _ _=>⟨ob.slots,k b ob q⟩,λ_ _ _ n _=>n,λb ob q _=>⟨ob,k b ob q⟩,λ_ _ q=>q,λ_ _ _ q=>q,λ_ ps q=>⟨#[],by rw[q];simp⟩⟩)
def Un.refl:Un fs ex H H h h:=(Un.kept λ_ _ q=>q)
theorem Un.laid(k:∀ b u,h.get? b=some u->h'.get? b=some u)(hp:h.objs.size<=a)(hn:H a=none):Un fs ex H (upd H a o) h h' where
 keep:=λb u q _ _ _=>k b u q
 slot:=λb u q _ _ _=>⟨u.slots,k b u q⟩
 free:=λb u q n _=>by rw[bg (Pq (Ph (O4 q) hp))];exact n
 there:=λb u q _=>⟨u,k b u q⟩
 tups:=λb xs q=>by rw[bg (fN q hn)];exact q
 frzs:=λb u xs q=>by rw[bg (fN q hn)];exact q
 tbls:=λb ps q=>⟨#[],by rw[bg (fN q hn),q];simp⟩
def Un.write(mu:nR (H x))(he:e=x\/H e=some (.own x))(k:∀ b u,b≠e->h.get? b=some u->h'.get? b=some u)(heo:∃ u,h'.get? e=some u):Un fs ex H (upd H x o) h h':=by
 have hx:∀ b,H b=none->b≠x:=λb n z=>by subst z;rw[n] at mu;exact mu
 have hb:∀ b,H b=none->b≠e:=λb n z=>by
  subst z;rcases he with r|r
  ·exact hx b n r
  ·rw[n] at r;cases r
 have hm:∀ b u,H b=some u -> ¬ nR (some u)->b≠x:=λb u q nm z=>by subst z;rw[q] at mu;exact nm mu
 refine⟨λb u q n _ _=>k b u (hb b n) q,λb u q n _ _=>⟨u.slots,k b u (hb b n) q⟩,λb u q n _=>by rw[bg (hx b n)];exact n,λb u q _=>?_,
  λb xs q=>by rw[bg (hm b _ q λz=>z)];exact q,λb u xs q=>by rw[bg (hm b _ q λz=>z)];exact q,λb ps q=>⟨#[],by rw[bg (hm b _ q λz=>z),q];simp⟩⟩
 by_cases hbe:b=e
 ·subst hbe;exact heo
 ·exact⟨u,k b u hbe q⟩
end
def p7(h:Heap)(H:Hp):List ZE:=(List.range h.objs.size).filter λa=>(H a).isSome
def eC(h:Heap)(H:Hp):Heap:=PySem.W.hideAll h (p7 h H)
def DR(h:Heap)(H:Hp):(eC h H).objs.size=h.objs.size:=(PySem.W.hideAll_size _ _)
def DS{h:Heap}{H:Hp}{b:ZE}{o:Obj}(e:h.get? b=some o)(n:H b=none):(eC h H).get? b=some o :=(
 Tz _ e λhm=>by
  have q:(H b).isSome=true:=(SM.mp hm).2;rw[n] at q;simp at q)
def DT{h:Heap}{H:Hp}{b:ZE}{o:Obj}(e:(eC h H).get? b=some o):h.get? b=some o/\H b=none:=by
 have e':h.get? b=some o:=RK (p7 h H) e;refine⟨e',?_⟩
 cases q:H b with
 |none=>rfl
 |some x =>
  have hm:b∈p7 h H:=SM.mpr ⟨Rh.mpr (O4 e'),by simp[q]⟩;have z:(eC h H).get? b=none:=PySem.W.hideAll_none (p7 h H) hm;rw[z] at e;cases e
structure Mod(K:ZA)(mg:YA)(base:Heap):Prop where
 kin:K.In base
 glob:base.Ns mainGlobals mg
 blt:∃ mb,base.Ns builtinsNs mb/\∀ x:Str,x ≠ "__name__" -> mb x=bootBuiltins x
 nolimit:base.NoLimit
structure Cx where
 prog:ZD
 w:ZF
 K:ZA
 mg:Str->Option ZC
 base:Heap
 A:ZG
 N:List Str
 s₀:ZB
 H₀:Hp
 env:Env
 outer:List Env
 stack:List Env
 ex:List ZE
 fn:Str->Bool
 calm:Bool
 pn:List (ZE×Obj)
 xe:ZC->ZB->Prop
def dU(l:List Env):List ZE:=l.filterMap (·.frame)
abbrev Cx.fs(X:Cx):List ZE:=dU X.outer
def nS(sc:Scope)(x:Str):Prop:=sc.names.lookup x=some .local\/sc.names.lookup x=some .cell\/sc.names.lookup x=some .free
def kU(sc:Scope)(x:Str):Prop:=sc.names.lookup x=some .local\/sc.names.lookup x=some .cell
def sZ(env:Env)(h:Heap)(m:YA)(x:Str)(u:ZC):Prop :=
 (env.kindOf x=some .local/\m x=some u)\/((env.kindOf x=some .cell\/env.kindOf x=some .free)/\∃ c,env.cells.lookup x=some c/\h.IsCell c (some u))
structure Cx.Ok(X:Cx):Prop where
 mod:Mod X.K X.mg X.base
 kind:X.env.scope.kind=.function
 glob:X.env.globals=mainGlobals
 blt:X.env.builtins=builtinsNs
 above:X.s₀.heap.objs.size<=X.env.locals
 inj:∀ x y c,X.env.cells.lookup x=some c->X.env.cells.lookup y=some c->x=y
 has:∀ x,(X.env.kindOf x=some .cell\/X.env.kindOf x=some .free)->∃ c,X.env.cells.lookup x=some c
 cab:∀ x c,X.fn x=true->X.env.cells.lookup x=some c->X.s₀.heap.objs.size<=c
 hd:X.calm=true->X.A.handled=none
 frames:X.A.frames=some X.stack
 stk:X.stack=X.outer\/(X.stack=X.env::X.outer/\X.env.frame=some X.env.locals)
 exf:∀ b∈X.ex,b≠X.env.locals/\∀ x c,X.env.cells.lookup x=some c->c≠b
 bs:∀ b o,X.base.get? b=some o->X.s₀.heap.get? b=some o/\X.H₀ b=none
 bsz:X.base.objs.size<=X.s₀.heap.objs.size
 noex:∀ b o,X.base.get? b=some o->b∉X.ex
 exfs:∀ b∈X.ex,b∉X.fs
 funs:X.s₀.heap.FunFrames X.base X.outer
 frf:∀ b∈X.fs,X.H₀ b=none
structure Inv(X:Cx)(pins:List (ZE×Obj))(σ:List (Option V))(H:Hp)(s:ZB):Prop where
 ok:X.Ok
 os:s.os=X.s₀.os
 bare:AllBare s.gens
 base:Un X.fs X.ex X.H₀ H X.s₀.heap s.heap
 loc:∃ m,s.heap.Ns X.env.locals m/\∀ (i:Nat) (x:Str) (v:V),X.N[i]?=some x->σ[i]?=some (some v)->nS X.env.scope x->∃ u,RelV v u/\sZ X.env s.heap m x u
 cell:∀ x c,X.env.cells.lookup x=some c->∃ v,s.heap.IsCell c v
 free:H X.env.locals=none
 freeC:∀ x c,X.env.cells.lookup x=some c->H c=none
 pin:∀ p∈X.pn++pins,s.heap.get? p.1=some p.2/\H p.1=none/\p.1≠X.env.locals/\p.1∉X.fs/\∀ v,p.2.data ≠ .cell v
 hok:HOk X.prog X.w H s.heap
 len:σ.length=X.N.length
abbrev qE1(e:Expr)(es:YD)(v:Env):=starEach (e::es) v=(false,eval e v)::starEach es v
abbrev qF1(p:Pos)(es:YD)(v:Env):=(backTo p (starEach es v)).any (·.1)=false
section
variable{X:Cx}{pins:List (ZE×Obj)}{σ:List (Option V)}{H H':Hp}{s:ZB}{h':Heap}
def Cx.Ok.nofr(ok:X.Ok){b:ZE}{o:Obj}(e:X.base.get? b=some o):b∉X.fs:=(λhb=>by
 have:=(ok.funs.mem hb).1;rw[e] at this;cases this)
def Inv.bs(I:Inv X pins σ H s):∀ b o,X.base.get? b=some o->s.heap.get? b=some o/\H b=none:=(λb o e =>
 ⟨I.base.keep b o (I.ok.bs b o e).1 (I.ok.bs b o e).2 (I.ok.nofr e) (I.ok.noex b o e),I.base.free b o (I.ok.bs b o e).1 (I.ok.bs b o e).2 (I.ok.noex b o e)⟩)
def Inv.bk(I:Inv X pins σ H s):∀ b o,X.base.get? b=some o->s.heap.get? b=some o:=(λb o e=>(I.bs b o e).1)
def Inv.mod(I:Inv X pins σ H s):Mod X.K X.mg X.base:=(I.ok.mod)
def Inv.kIn(I:Inv X pins σ H s):X.K.In s.heap:=(I.ok.mod.kin.keeps I.bk)
def Inv.fr(I:Inv X pins σ H s):∃ m,Fr X.base X.env.locals s.heap m :=(
 let ⟨m,hn,_⟩:=I.loc
 ⟨m,hn,I.bk,OW I.ok.bsz I.ok.above⟩)
def Inv.lt(I:Inv X pins σ H s):X.env.locals<s.heap.objs.size:=(let ⟨_,hn,_⟩:=I.loc;hn.lt)
def Inv.sz(I:Inv X pins σ H s):X.s₀.heap.objs.size<=s.heap.objs.size:=(OW I.ok.above (Ri I.lt))
def Inv.nofs(I:Inv X pins σ H s){a:ZE}(h:s.heap.objs.size<=a):a∉X.fs:=(λhb=>by
 obtain⟨_,o,ho,_⟩:=I.ok.funs.mem hb;exact absurd (Ph (O4 ho) (OW I.sz h)) (Qi _))
def Inv.cne(I:Inv X pins σ H s):∀ x c,X.env.cells.lookup x=some c->c≠X.env.locals:=(λx c e z=>by
 obtain⟨v,o,ho,hd⟩:=I.cell x c e;obtain⟨m,⟨o',es,ep,ho',hd',_⟩,_⟩:=I.loc;rw[z,ho'] at ho;cases ho;rw[hd'] at hd;cases hd)
def Inv.funs(I:Inv X pins σ H s):s.heap.FunFrames X.base X.outer:=by
 have all:∀ (l:List Env),(∀ b∈dU l,b∈X.fs)->X.s₀.heap.FunFrames X.base l->s.heap.FunFrames X.base l:=by
  intro l;induction l with
  |nil=>intro _ _;trivial
  |cons env r ih =>
   intro hs hl;obtain⟨hk,⟨L,o,hf,hn,ho,hd⟩,hr⟩:=hl;have hL:L∈X.fs:=hs L (by unfold dU;rw[QY,hf];exact PK)
   obtain⟨sl,e⟩:=I.base.slot L o ho (I.ok.frf L hL) hL λz=>I.ok.exfs L z hL
   exact⟨hk,⟨L,_,hf,hn,e,hd⟩,ih (λb hb=>hs b (by unfold dU;rw[QY,hf];exact Pt _ hb)) hr⟩
 exact all X.outer (λ_ hb=>hb) I.ok.funs
def Inv.stack(I:Inv X pins σ H s):s.heap.FunFrames X.base X.stack:=by
 rcases I.ok.stk with e|⟨e,hf⟩
 ·rw[e];exact I.funs
 ·rw[e]
  obtain⟨m,hn,_⟩:=I.loc;refine .cons (by rw[I.ok.kind];decide) hf hn ?_ I.funs
  exact Td (OW I.ok.bsz I.ok.above)
def Inv.stkSub(I:Inv X pins σ H s):∀ b∈dU X.stack,b∈X.env.locals::X.fs:=(λb hb=>by
 rcases I.ok.stk with e|⟨e,hf⟩
 ·rw[e] at hb;exact Pt _ hb
 ·rw[e] at hb
  unfold dU at hb;rw[QY,hf] at hb;exact hb)
def Inv.stkFree(I:Inv X pins σ H s):∀ b∈dU X.stack,H b=none:=(λb hb=>by
 rcases Pb.mp (I.stkSub b hb) with e|hb
 ·rw[e];exact I.free
 ·obtain⟨_,o,ho,_⟩:=I.ok.funs.mem hb
  exact I.base.free b o ho (I.ok.frf b hb) λz=>I.ok.exfs b z hb)
def Inv.step{g':Array GenState}{t':Nat}{d':Drawn}{ch:List ZE}(I:Inv X pins σ H s)
  (hch:∀ b∈ch,(b∈X.ex\/X.s₀.heap.objs.size<=b)/\b≠X.env.locals/\(∀ x c,X.env.cells.lookup x=some c->c≠b)/\∀ p∈X.pn++pins,p.1≠b)
  (keep:∀ b o,b≠X.env.locals->b∉X.fs->b∉ch->s.heap.get? b=some o->H b=none->h'.get? b=some o)
  (slot:∀ b o,b≠X.env.locals->b∈X.fs->b∉ch->s.heap.get? b=some o->H b=none->∃ sl,h'.get? b=some { o with slots:=sl })(free:∀ b o,b∉ch->s.heap.get? b=some o->H b=none->H' b=none)
  (there:∀ b o,b∉ch->s.heap.get? b=some o->∃ o',h'.get? b=some o')
  (tups:∀ b xs,H b=some (.tup xs)->H' b=some (.tup xs))(frzs:∀ b o u,H b=some (.frz o u)->H' b=some (.frz o u))(tbls:∀ b ps,H b=some (.tbl ps)->∃ more,H' b=some (.tbl (ps++more)))
  (ns:∀ m,s.heap.Ns X.env.locals m->h'.Ns X.env.locals m)(hok:HOk X.prog X.w H' h')(hg:AllBare g') :
  Inv X pins σ H' { s with heap:=h',gens:=g',drawn:=d',toks:=t' }:=by
 have neL:∀ b o,X.s₀.heap.get? b=some o->b≠X.env.locals:=λb o e=>Pq (Ph (O4 e) I.ok.above)
 have neC:∀ b o,X.s₀.heap.get? b=some o->b∉X.ex->b∉ch:=λb o e hx hb=>by
  rcases (hch b hb).1 with z|z
  ·exact hx z
  ·exact absurd (Ph (O4 e) z) (Qi _)
 have cellK:∀ x c,X.env.cells.lookup x=some c->∀ v,s.heap.IsCell c v->h'.IsCell c v:=λx c e v ⟨o,ho,hd⟩=>by
  have nch:c∉ch:=λz=>(hch c z).2.2.1 x c e rfl
  by_cases hc:c∈X.fs
  ·obtain⟨sl,q⟩:=slot c o (I.cne x c e) hc nch ho (I.freeC x c e)
   exact⟨_,q,hd⟩
  ·exact⟨o,keep c o (I.cne x c e) hc nch ho (I.freeC x c e),hd⟩
 refine⟨I.ok,I.os,hg,⟨λb o e n hb hx=>?_,λb o e n hb hx=>?_,λb o e n hx=>?_,λb o e hx=>?_,λb xs e=>tups b xs (I.base.tups b xs e),λb o xs e=>frzs b o xs (I.base.frzs b o xs e),λb ps e=>?_⟩,?_,λx c e=>?_,?_,λx c e=>?_,λp hp=>?_,hok,I.len⟩
 ·exact keep b o (neL b o e) hb (neC b o e hx) (I.base.keep b o e n hb hx) (I.base.free b o e n hx)
 ·obtain⟨sl,e1⟩:=I.base.slot b o e n hb hx
  obtain⟨sl',e2⟩:=slot b _ (neL b o e) hb (neC b o e hx) e1 (I.base.free b o e n hx);exact⟨sl',e2⟩
 ·obtain⟨o',e1⟩:=I.base.there b o e hx
  exact free b o' (neC b o e hx) e1 (I.base.free b o e n hx)
 ·obtain⟨o',e1⟩:=I.base.there b o e hx
  exact there b o' (neC b o e hx) e1
 ·obtain⟨m1,e1⟩:=I.base.tbls b ps e
  obtain⟨m2,e2⟩:=tbls b _ e1;exact⟨m1++m2,by rw[e2,Array.append_assoc]⟩
 ·obtain⟨m,hn,hl⟩:=I.loc
  refine⟨m,ns m hn,λi x v e1 e2 e3=>?_⟩
  obtain⟨u,r,l⟩:=hl i x v e1 e2 e3;refine⟨u,r,?_⟩
  rcases l with l|⟨k,c,e,z⟩
  ·exact .inl l
  ·exact .inr ⟨k,c,e,cellK x c e _ z⟩
 ·obtain⟨v,z⟩:=I.cell x c e
  exact⟨v,cellK x c e v z⟩
 ·obtain⟨m,⟨o,_,_,ho,_⟩,_⟩:=I.loc
  exact free _ o (λz=>(hch _ z).2.1 rfl) ho I.free
 ·obtain⟨v,o,ho,hd⟩:=I.cell x c e
  exact free c o (λz=>(hch c z).2.2.1 x c e rfl) ho (I.freeC x c e)
 ·obtain⟨e,n,ne,nf,d⟩:=I.pin p hp
  have nch:p.1∉ch:=λz=>(hch p.1 z).2.2.2 p hp rfl
  exact⟨keep p.1 p.2 ne nf nch e n,free p.1 p.2 nch e n,ne,nf,d⟩
def Inv.un{t':Nat}(I:Inv X pins σ H s)(u:Un X.fs [] H H' s.heap h')(hok:HOk X.prog X.w H' h'):Inv X pins σ H' { s with heap:=h',toks:=t' }:=by
 obtain⟨m,⟨o,es,ep,ho,r⟩,_⟩:=id I.loc;obtain⟨sl,hL⟩:=u.any ho I.free 's';exact I.step (g':=s.gens) (d':=s.drawn) (ch:=[]) (λ_ z=>nomatch z) (λb o _ hb _ e n=>u.keep b o e n hb 's') (λb o _ hb _ e n=>u.slot b o e n hb 's') (λb o _ e n=>u.free b o e n 's') (λb o _ e=>u.there b o e 's') u.tups u.frzs u.tbls (λm' hm=>by
  obtain⟨o',es',ep',ho',r'⟩:=hm;rw[ho] at ho';cases ho'
  exact⟨_,es',ep',hL,r'⟩) hok I.bare
def Inv.call{g':Array GenState}{t':Nat}{d':Drawn}{ch:List ZE}(I:Inv X pins σ H s)(u:Un (dU X.stack) ch H H' s.heap h')(hok:HOk X.prog X.w H' h')(hg:AllBare g')
  (hch:∀ b∈ch,(b∈X.ex\/X.s₀.heap.objs.size<=b)/\b≠X.env.locals/\(∀ x c,X.env.cells.lookup x=some c->c≠b)/\∀ p∈X.pn++pins,p.1≠b) :
  Inv X pins σ H' { s with heap:=h',gens:=g',drawn:=d',toks:=t' }:=by
 obtain⟨m,⟨o,es,ep,ho,r⟩,_⟩:=id I.loc;obtain⟨sl,hL⟩:=u.any ho I.free λz=>(hch _ z).2.1 rfl
 exact I.step (ch:=ch) hch (λb o hL hb hc e n=>u.keep b o e n (λz=>(Pb.mp (I.stkSub b z)).elim hL hb) hc) (λb o _ _ hc e n=>u.any e n hc) (λb o hc e n=>u.free b o e n hc) (λb o hc e=>u.there b o e hc) u.tups u.frzs u.tbls (λm' hm=>by
  obtain⟨o',es',ep',ho',r'⟩:=hm;rw[ho] at ho';cases ho'
  exact⟨_,es',ep',hL,r'⟩) hok hg
def Inv.turned{t':Nat}{it:ZE}(I:Inv X pins σ H s)(k:∀ b o,b≠it->s.heap.get? b=some o->h'.get? b=some o)(hn:H it=none)(hL:it≠X.env.locals)
  (h1:it∈X.ex\/X.s₀.heap.objs.size<=it)(h2:∀ x c,X.env.cells.lookup x=some c->c≠it)(h3:∀ p∈X.pn++pins,p.1≠it):Inv X pins σ H { s with heap:=h',toks:=t' }:=by
 have nit:∀ b u,H b=some u->b≠it:=λb u e z=>by rw[z,hn] at e;cases e
 refine I.step (g':=s.gens) (d':=s.drawn) (ch:=[it]) (λb hb=>?_) (λb o _ _ hc e _=>k b o (λz=>hc (by simp[z])) e) (λb o _ _ hc e _=>⟨o.slots,k b o (λz=>hc (by simp[z])) e⟩) (λ_ _ _ _ n=>n)
  (λb o hc e=>⟨o,k b o (λz=>hc (by simp[z])) e⟩) (λ_ _ e=>e) (λ_ _ _ e=>e) (λb ps e=>⟨#[],by rw[e];simp⟩) (λm hm=>?_) (λb u e=>?_) I.bare
 ·have e:b=it:=by simpa using hb
  subst e;exact⟨h1,hL,h2,h3⟩
 ·obtain⟨o,es,ep,ho,r⟩:=hm
  exact⟨o,es,ep,k _ o (Ne.symm hL) ho,r⟩
 ·refine(I.hok b u e).stay (λc v hc q=>k c v ?_ q) (λ_ q=>q) λ_ _ q=>q
  rcases hc with z|z
  ·rw[z];exact nit b u e
  ·exact nit c _ z
def Inv.tok(I:Inv X pins σ H s)(t:Nat):Inv X pins σ H { s with toks:=t }:=(I.un (h':=s.heap) (t':=t) Un.refl I.hok)
def Inv.kept{t':Nat}(I:Inv X pins σ H s)(k:∀ b u,s.heap.get? b=some u->h'.get? b=some u):Inv X pins σ H { s with heap:=h',toks:=t' }:=(I.un (Un.kept k) (I.hok.kept k))
def Inv.laid{a:ZE}{o:HO}{t':Nat}(I:Inv X pins σ H s)(k:∀ b u,s.heap.get? b=some u->h'.get? b=some u)(hp:s.heap.objs.size<=a)(new:ObjOk X.prog X.w (upd H a o) h' a o) :
  Inv X pins σ (upd H a o) { s with heap:=h',toks:=t' }:=(I.un (Un.laid k hp (I.hok.fresh hp)) (I.hok.laid k hp new))
def Inv.write{x e:ZE}{o:HO}{t':Nat}(I:Inv X pins σ H s)(mu:nR (H x))(he:e=x\/H e=some (.own x))(k:∀ b u,b≠e->s.heap.get? b=some u->h'.get? b=some u)(heo:∃ u,h'.get? e=some u)
  (new:ObjOk X.prog X.w (upd H x o) h' x o):Inv X pins σ (upd H x o) { s with heap:=h',toks:=t' }:=(I.un (Un.write mu he k heo) (I.hok.write mu he k heo new))
def Inv.weak{σ':List (Option V)}(I:Inv X pins σ H s)(hl:σ'.length=σ.length)(w:∀ (i:Nat) v,σ'[i]?=some (some v)->σ[i]?=some (some v)):Inv X pins σ' H s :=(
 ⟨I.ok,I.os,I.bare,I.base,let ⟨m,hn,hl'⟩:=I.loc;⟨m,hn,λi x v e1 e2 e3=>hl' i x v e1 (w i v e2) e3⟩,I.cell,I.free,I.freeC,I.pin,I.hok,hl.trans I.len⟩)
def Inv.pins_of{pins':List (ZE×Obj)}(I:Inv X pins σ H s)(h:∀ p∈pins',s.heap.get? p.1=some p.2/\H p.1=none/\p.1≠X.env.locals/\p.1∉X.fs/\∀ v,p.2.data ≠ .cell v):Inv X pins' σ H s :=(
 ⟨I.ok,I.os,I.bare,I.base,I.loc,I.cell,I.free,I.freeC,λp hp=>(PH.mp hp).elim (λz=>I.pin p (Pk _ z)) (h p),I.hok,I.len⟩)
def p8{N:List Str}(hN:N.Nodup){i j:Nat}{x:Str}(a:N[i]?=some x)(b:N[j]?=some x):i=j:=by
 obtain⟨h1,e1⟩:=OS.mp a;obtain⟨h2,e2⟩:=OS.mp b;exact(List.getElem_inj hN).mp (e1.trans e2.symm)
def xX{M:Model}{A:ZG}{E:ZC->ZB->Prop}{i:Nat}{x:Str}{v:V}{u:ZC}{Q:Unit->ZB->Prop}(I:Inv X pins σ H s)(hN:X.N.Nodup)(hi:X.N[i]?=some x)(hx:kU X.env.scope x)(r:RelV v u)
  (h:∀ s',Inv X pins (σ.set i (some v)) H s'->(∃ a,Heap.SameBut a s.heap s'.heap/\(a=X.env.locals\/X.env.cells.lookup x=some a))->Q () s')(hf:X.fn x=true\/X.env.scope.names.lookup x=some .local:=by first|exact .inl rfl|exact .inr rfl|assumption):wpAny M A (storeName X.env x u) Q E s:=by
 obtain⟨m,hn,hl⟩:=id I.loc;have hcls:(X.env.scope.kind == .class || (X.env.scope.kind == .module && X.env.locals != X.env.globals))=false:=by rw[I.ok.kind];rfl
 have hiσ:i<σ.length:=by rw[I.len];exact(OS.mp hi).1
 have cne:=I.cne;have tracked:∀ {a:ZE} {h':Heap},(∃ o,s.heap.get? a=some o/\H a=none)->Heap.SameBut a s.heap h'->HOk X.prog X.w H h':=λ{a h'} ha hs b ob e=>by
  obtain⟨_,_,hfree⟩:=ha;refine(I.hok b ob e).stay (λc w' hc q=>(hs.2 c ?_).trans q) (λ_ q=>q) λ_ _ q=>q
  rintro rfl
  rcases hc with rfl|hc
  ·rw[hfree] at e;cases e
  ·rw[hfree] at hc;cases hc
 rcases hx with hk|hk
 ·refine wpAny_storeName_local hk hn (λh' hn' hs=>?_) hcls
  obtain⟨oL,_,_,hoL,_⟩:=id hn;refine h _ ⟨I.ok,I.os,I.bare,⟨λb o e n hb hx=>?_,λb o e n hb hx=>?_,I.base.free,λb o e hx=>?_,I.base.tups,I.base.frzs,I.base.tbls⟩,⟨_,hn',λj y v' e1 e2 e3=>?_⟩,λy c e=>?_,I.free,I.freeC,λp hp=>?_,tracked ⟨oL,hoL,I.free⟩ hs,by simpa using I.len⟩ ⟨_,hs,.inl rfl⟩
  ·exact(hs.2 b (Pq (Ph (O4 e) I.ok.above))).trans (I.base.keep b o e n hb hx)
  ·obtain⟨sl,e1⟩:=I.base.slot b o e n hb hx
   exact⟨sl,(hs.2 b (Pq (Ph (O4 e) I.ok.above))).trans e1⟩
  ·obtain⟨o',e1⟩:=I.base.there b o e hx
   exact⟨o',(hs.2 b (Pq (Ph (O4 e) I.ok.above))).trans e1⟩
  ·by_cases hj:j=i
   ·subst hj
    rw[hi] at e1;cases e1
    rw[OY hiσ] at e2
    cases e2
    exact⟨u,r,.inl ⟨hk,by simp⟩⟩
   ·rw[OU (Ne.symm hj)] at e2
    obtain⟨u',r',q⟩:=hl j y v' e1 e2 e3;refine⟨u',r',?_⟩
    rcases q with⟨k,e⟩|⟨k,c,e,z⟩
    ·refine .inl ⟨k,?_⟩
     have:y≠x:=λe=>hj (p8 hN e1 (e▸hi))
     simp[this,e]
    ·exact .inr ⟨k,c,e,z.sameBut hs (cne y c e)⟩
  ·obtain⟨w',z⟩:=I.cell y c e
   exact⟨w',z.sameBut hs (cne y c e)⟩
  ·obtain⟨e,n,ne,nf,d⟩:=I.pin p hp
   exact⟨(hs.2 p.1 ne).trans e,n,ne,nf,d⟩
 ·have hfn:X.fn x=true:=by
   rcases hf with z|z
   ·exact z
   ·rw[z] at hk;cases hk
  obtain⟨c,hc⟩:=I.ok.has x (.inl hk);obtain⟨w',z⟩:=I.cell x c hc;refine wpAny_storeName_cell I.ok.kind hk hc z (λh' hc' hs=>?_)
  obtain⟨oc,hoc,hocd⟩:=id z;refine h { s with heap:=h' } ⟨I.ok,I.os,I.bare,⟨λb o e n hb hx=>?_,λb o e n hb hx=>?_,I.base.free,λb o e hx=>?_,I.base.tups,I.base.frzs,I.base.tbls⟩,⟨m,hn.sameBut hs (Ne.symm (cne x c hc)),λj y v' e1 e2 e3=>?_⟩,λy c' e=>?_,I.free,I.freeC,λp hp=>?_,tracked ⟨oc,hoc,I.freeC x c hc⟩ hs,by simpa using I.len⟩ ⟨c,hs,.inr hc⟩
  ·exact(hs.2 b (Pq (Ph (O4 e) (I.ok.cab x c hfn hc)))).trans (I.base.keep b o e n hb hx)
  ·obtain⟨sl,e1⟩:=I.base.slot b o e n hb hx
   exact⟨sl,(hs.2 b (Pq (Ph (O4 e) (I.ok.cab x c hfn hc)))).trans e1⟩
  ·obtain⟨o',e1⟩:=I.base.there b o e hx
   exact⟨o',(hs.2 b (Pq (Ph (O4 e) (I.ok.cab x c hfn hc)))).trans e1⟩
  ·by_cases hj:j=i
   ·subst hj
    rw[hi] at e1;cases e1
    rw[OY hiσ] at e2
    cases e2
    exact⟨u,r,.inr ⟨.inl hk,c,hc,hc'⟩⟩
   ·rw[OU (Ne.symm hj)] at e2
    obtain⟨u',r',q⟩:=hl j y v' e1 e2 e3;refine⟨u',r',?_⟩
    rcases q with q|⟨k,c',e,z'⟩
    ·exact .inl q
    ·refine .inr ⟨k,c',e,z'.sameBut hs ?_⟩
     rintro rfl
     exact hj (p8 hN e1 (I.ok.inj _ _ _ e hc▸hi))
  ·by_cases hcc:c'=c
   ·subst hcc;exact⟨_,hc'⟩
   ·obtain⟨w2,z2⟩:=I.cell y c' e
    exact⟨w2,z2.sameBut hs hcc⟩
  ·obtain⟨e,n,ne,nf,d⟩:=I.pin p hp
   refine⟨(hs.2 p.1 ?_).trans e,n,ne,nf,d⟩
   intro q;rw[q,hoc] at e;have q':oc=p.2:=Pp e
   exact d w' (by rw[<- q'];exact hocd)
def mK{M:Model}{A:ZG}{E:ZC->ZB->Prop}{i:Nat}{x:Str}{v:V}{u:ZC}{Q:Unit->ZB->Prop}(I:Inv X pins σ H s)(hN:X.N.Nodup)(hi:X.N[i]?=some x)(hx:kU X.env.scope x)(r:RelV v u)
  (h:∀ s',Inv X pins (σ.set i (some v)) H s'->Q () s')(hf:autoParam (X.fn x=true\/X.env.scope.names.lookup x=some .local) xX._auto_1):wpAny M A (storeName X.env x u) Q E s :=(
 xX I hN hi hx r (λs' I' _=>h s' I') hf)
def Inv.call'{s':ZB}{ch:List ZE}(I:Inv X pins σ H s)(ho:s'.os=s.os)(u:Un (dU X.stack) ch H H' s.heap s'.heap)(hok:HOk X.prog X.w H' s'.heap)(hg:AllBare s'.gens)
  (hch:∀ b∈ch,(b∈X.ex\/X.s₀.heap.objs.size<=b)/\b≠X.env.locals/\(∀ x c,X.env.cells.lookup x=some c->c≠b)/\∀ p∈X.pn++pins,p.1≠b):Inv X pins σ H' s':=by
 obtain⟨h',g',d',t',o'⟩:=s';have e:o'=s.os:=ho;subst e;exact I.call (g':=g') (t':=t') (d':=d') u hok hg hch
end
abbrev XK:=ZC->YC->Hp->Prop
abbrev St:=List (Option V)
abbrev VK:=V->Hp->Prop
abbrev TE:=St->Hp->VK->Prop
abbrev TT:=St->Hp->(Bool->Hp->Prop)->Prop
abbrev TA:=St->Hp->(YE->Hp->Prop)->Prop
structure cR where
 nx:St->Hp->Prop
 rt:VK
 bk:St->Hp->Prop:=λ_ _=>False
 ct:St->Hp->Prop:=λ_ _=>False
abbrev TS:=cR->St->Hp->Prop
def EP(X:Cx)(pins:List (ZE×Obj))(σ:St)(Q:VK)(u:ZC)(s':ZB):Prop:=∃ v H',Inv X pins σ H' s'/\RelV v u/\Q v H'
def TP(X:Cx)(pins:List (ZE×Obj))(σ:St)(Q:Bool->Hp->Prop)(b:Bool)(s':ZB):Prop:=∃ H',Inv X pins σ H' s'/\Q b H'
def AP(X:Cx)(pins:List (ZE×Obj))(σ:St)(Q:YE->Hp->Prop)(us:YB)(s':ZB):Prop:=∃ vs H',Inv X pins σ H' s'/\Vals vs us/\Q vs H'
def SP(X:Cx)(pins:List (ZE×Obj))(D:cR)(f:Flow)(s':ZB):Prop :=
 match f with
 |.next=>∃ σ' H',Inv X pins σ' H' s'/\D.nx σ' H'
 |.brk=>∃ σ' H',Inv X pins σ' H' s'/\D.bk σ' H'
 |.cont=>∃ σ' H',Inv X pins σ' H' s'/\D.ct σ' H'
 |.ret u=>∃ v σ' H',Inv X pins σ' H' s'/\RelV v u/\D.rt v H'
def PE(X:Cx)(e:Expr)(t:TE):Prop :=
 ∀ (pins:List (ZE×Obj)) (s:ZB) (σ:St) (H:Hp) (Q:VK),Inv X pins σ H s->t σ H Q->wpAny (model X.prog X.w) X.A (eval e X.env) (EP X pins σ Q) X.xe s
def PT(X:Cx)(e:Expr)(t:TT):Prop :=
 ∀ (pins:List (ZE×Obj)) (s:ZB) (σ:St) (H:Hp) (Q:Bool->Hp->Prop),Inv X pins σ H s->t σ H Q->wpAny (model X.prog X.w) X.A (isTrue e X.env (eval e X.env)) (TP X pins σ Q) X.xe s
def PW(X:Cx)(e:Expr)(t:TT):Prop :=
 ∀ (whole:Sem ZC) (pins:List (ZE×Obj)) (s:ZB) (σ:St) (H:Hp) (Q:Bool->Hp->Prop),Inv X pins σ H s->t σ H Q->wpAny (model X.prog X.w) X.A (isTrue e X.env whole) (TP X pins σ Q) X.xe s
def PW.pt{X:Cx}{e:Expr}{t:TT}(h:PW X e t):PT X e t:=(h _)
def PA(X:Cx)(es:YD)(t:TA):Prop :=
 ∀ (pos:Pos) (pins:List (ZE×Obj)) (s:ZB) (σ:St) (H:Hp) (Q:YE->Hp->Prop),Inv X pins σ H s->t σ H Q->wpAny (model X.prog X.w) X.A (spliced (backTo pos (starEach es X.env))) (AP X pins σ Q) X.xe s
def PS(X:Cx)(st:Stmt)(t:TS):Prop :=
 ∀ (pins:List (ZE×Obj)) (s:ZB) (σ:St) (H:Hp) (D:cR),Inv X pins σ H s->t D σ H->wpAny (model X.prog X.w) X.A (exec st X.env) (SP X pins D) X.xe s
def PSs(X:Cx)(st:List Stmt)(t:TS):Prop :=
 ∀ (pins:List (ZE×Obj)) (s:ZB) (σ:St) (H:Hp) (D:cR),Inv X pins σ H s->t D σ H->wpAny (model X.prog X.w) X.A (execs st X.env) (SP X pins D) X.xe s
def thn{α:Type}{t:Sem α}{Q Q':α->ZB->Prop}{M:Model}{A:ZG}{E:ZC->ZB->Prop}{s:ZB}(h:wpAny M A t Q E s)(hQ:∀ a s,Q a s->Q' a s):wpAny M A t Q' E s:=(PC h hQ λ_ _ x=>x)
section
variable{X:Cx}
def nT(i:Nat):TE:=λσ H Q=>∃ v,σ[i]?=some (some v)/\Q v H
def tC(v:V):TE:=λ_ H Q=>Q v H
def DV {i:Nat} {x:Str} {pos:Pos} (hN:X.N[i]?=some x) (hv:nS X.env.scope x) (hd:(x == ("__debug__" : Str))=false:=by decide) (hcd:autoParam ((x == ("__classdict__" : Str))=false) DV._auto_1):PE X (.Name x pos) (nT i):=by
 intro pins s σ H Q I h;obtain⟨v,e,h⟩:=h;obtain⟨m,hn,hl⟩:=I.loc;obtain⟨u,r,l⟩:=hl i x v hN e hv;have fin:EP X pins σ Q u s:=⟨v,H,I,r,h⟩
 rcases l with⟨hk,hm⟩|⟨hk,c,hc,hcell⟩
 ·exact Um (wpAny_loadName_local I.ok.kind hk hn hm fin) hd
 ·rcases hk with hk|hk
  ·exact Um (wpAny_loadName_cell I.ok.kind hk hc hcell fin) hd
  ·exact Um (wpAny_loadName_free I.ok.kind hk hc hcell fin hcd) hd
def DW{i j pos}:PE X (.Constant (.int i) j pos) (tC (.int i)):=(λ_ _ _ H _ I h=>wpAny_Constant_int ⟨.int i,H,I.tok _,⟨_,rfl⟩,h⟩)
def DX{b j pos}:PE X (.Constant (.bool b) j pos) (tC (.bl b)):=(λ_ _ _ H _ I h=>Constant_bool ⟨.bl b,H,I,rfl,h⟩)
def DY{j pos}:PE X (.Constant .none j pos) (tC .non):=(λ_ _ _ H _ I h=>Constant_none ⟨.non,H,I,rfl,h⟩)
def DZ{x j pos}:PE X (.Constant (.str x) j pos) (tC (.str x)):=(λ_ _ _ H _ I h=>Calls.Constant_str ⟨.str x,H,I.tok _,⟨_,rfl⟩,h⟩)
def Gl(X:Cx)(x:Str):Prop:=X.env.kindOf x=some .globalImplicit
def kW {E:ZC->ZB->Prop} {pins:List (ZE×Obj)} {s:ZB} {σ:St} {H:Hp} {x:Str} {u:ZC} {pos:Pos} {Q:ZC->ZB->Prop} (I:Inv X pins σ H s) (hg:Gl X x) (hm:X.mg x=some u) (h:Q u s)
  (hd:((x == ("__debug__" : Str))=false)⁻¹):wpAny (model X.prog X.w) X.A (eval (.Name x pos) X.env) Q E s :=(
 RL I.ok.kind hg (Calls.loadGlobal_global (by rw[I.ok.glob];exact I.mod.glob.keeps I.bk) hm h) hd)
def mL {E:ZC->ZB->Prop} {pins:List (ZE×Obj)} {s:ZB} {σ:St} {H:Hp} {x:Str} {u:ZC} {pos:Pos} {Q:ZC->ZB->Prop} (I:Inv X pins σ H s) (hg:Gl X x) (hm:X.mg x=none) (hv:bootBuiltins x=some u) (h:Q u s)
  (hn:x ≠ "__name__" := by decide) (hd:((x == ("__debug__" : Str))=false)⁻¹):wpAny (model X.prog X.w) X.A (eval (.Name x pos) X.env) Q E s:=by
 obtain⟨mb,h1,h2⟩:=I.mod.blt;exact RL I.ok.kind hg (Calls.loadGlobal_builtin (by rw[I.ok.glob];exact I.mod.glob.keeps I.bk) hm (by rw[I.ok.blt];exact h1.keeps I.bk) ((h2 x hn).trans hv) h) hd
def p9 {x:Str} {v:V} {u:ZC} {pos:Pos} (hg:Gl X x) (hm:X.mg x=some u) (r:RelV v u) (hd:((x == ("__debug__" : Str))=false)⁻¹):PE X (.Name x pos) (tC v) :=(
 λ_ _ _ H _ I h=>kW I hg hm ⟨v,H,I,r,h⟩ hd)
def D5 {x:Str} {v:V} {u:ZC} {pos:Pos} (hg:Gl X x) (hm:X.mg x=none) (hv:bootBuiltins x=some u) (r:RelV v u) (hn:x ≠ "__name__" := by decide) (hd:((x == ("__debug__" : Str))=false)⁻¹):PE X (.Name x pos) (tC v) :=(
 λ_ _ _ H _ I h=>mL I hg hm hv ⟨v,H,I,r,h⟩ hn hd)
variable{a b:Expr}{ta tb:TE}{pos:Pos}
variable{tA tB':TT}{rest:YD}
def tf(t u:TT):TT:=λσ H Q=>t σ H λc H1=>if c=true then u σ H1 Q else Q false H1
def D6(t u:TT):TT:=λσ H Q=>t σ H λc H1=>if c=true then Q true H1 else u σ H1 Q
def tj(t:TT):TT:=λσ H Q=>t σ H λc H1=>Q (!c) H1
def D8(ha:PT X a tA):PW X (.BoolOp .And [a] pos) tA:=by
 intro wh pins s σ H Q I h;refine isTrue_and (thn (ha pins s σ H Q I h) λc s1 e=>?_)
 cases c with
 |true=>exact isTrue_and_nil e
 |false=>exact e
def D9(ha:PT X a tA):PW X (.BoolOp .Or [a] pos) tA:=by
 intro wh pins s σ H Q I h;refine isTrue_or (thn (ha pins s σ H Q I h) λc s1 e=>?_)
 cases c with
 |false=>exact isTrue_or_nil e
 |true=>exact e
def Ea(ha:PT X a tA)(hb:PW X (.BoolOp .And (b::rest) pos) tB'):PW X (.BoolOp .And (a::b::rest) pos) (tf tA tB'):=by
 intro wh pins s σ H Q I h;refine isTrue_and (thn (ha pins s σ H _ I h) λc s1 Zz=>?_);obtain⟨H1,I1,q1⟩:=Zz
 cases c with
 |true=>exact hb wh pins s1 σ H1 Q I1 q1
 |false=>exact⟨H1,I1,q1⟩
def Eb(ha:PT X a tA)(hb:PW X (.BoolOp .Or (b::rest) pos) tB'):PW X (.BoolOp .Or (a::b::rest) pos) (D6 tA tB'):=by
 intro wh pins s σ H Q I h;refine isTrue_or (thn (ha pins s σ H _ I h) λc s1 Zz=>?_);obtain⟨H1,I1,q1⟩:=Zz
 cases c with
 |true=>exact⟨H1,I1,q1⟩
 |false=>exact hb wh pins s1 σ H1 Q I1 q1
def Ec(ha:PT X a tA):PT X (.UnaryOp .Not a pos) (tj tA):=by
 intro pins s σ H Q I h;exact isTrue_not (ha pins s σ H (λc H1=>Q (!c) H1) I h)
def Ed(ta tb:TE):TE:=λσ H Q=>ta σ H λx H1=>∃ c,x=.bl c/\if c=true then tb σ H1 Q else Q (.bl false) H1
def tm(ta tb:TE):TE:=λσ H Q=>ta σ H λx H1=>∃ c,x=.bl c/\if c=true then Q (.bl true) H1 else tb σ H1 Q
def Ee(ta:TE):TE:=λσ H Q=>ta σ H λx H1=>∃ c,x=.bl c/\Q (.bl (!c)) H1
def Ef{op}{t:TE}(h:PE X a t):PE X (.BoolOp op [a] pos) t:=(λpins s σ H Q I hw=>BoolOp_one (h pins s σ H Q I hw))
def Eg(ha:PE X a ta)(hb:PE X (.BoolOp .And (b::rest) pos) tb):PE X (.BoolOp .And (a::b::rest) pos) (Ed ta tb):=by
 intro pins s σ H Q I h;refine BoolOp_and (thn (ha pins s σ H _ I h) λv s1 Zz=>?_);obtain⟨x,H1,I1,r1,q1⟩:=Zz
 obtain⟨c,rfl,q1⟩:=q1
 cases r1
 refine Pj ?_
 cases c with
 |true=>exact hb pins s1 σ H1 Q I1 q1
 |false=>exact⟨.bl false,H1,I1,rfl,q1⟩
def Eh(ha:PE X a ta)(hb:PE X (.BoolOp .Or (b::rest) pos) tb):PE X (.BoolOp .Or (a::b::rest) pos) (tm ta tb):=by
 intro pins s σ H Q I h;refine BoolOp_or (thn (ha pins s σ H _ I h) λv s1 Zz=>?_);obtain⟨x,H1,I1,r1,q1⟩:=Zz
 obtain⟨c,rfl,q1⟩:=q1
 cases r1
 refine Pj ?_
 cases c with
 |false=>exact hb pins s1 σ H1 Q I1 q1
 |true=>exact⟨.bl true,H1,I1,rfl,q1⟩
def Ei(ha:PE X a ta):PE X (.UnaryOp .Not a pos) (Ee ta):=by
 intro pins s σ H Q I h;refine UnaryOp_ (thn (ha pins s σ H _ I h) λv s1 Zz=>?_);obtain⟨x,H1,I1,r1,q1⟩:=Zz
 obtain⟨c,rfl,q1⟩:=q1
 cases r1
 exact not_of (Pj ⟨.bl (!c),H1,I1,rfl,q1⟩)
end
def SqL(K:ZA)(H:Hp)(a:ZE)(xs:YE):Prop :=
 Rd H a (.lst xs) \/
  ∃ (o:Obj) (its:Array ZC) (n:Nat),K.lookup a=some o/\o.cls=.type "list" /\ o.dict=none/\o.data=.seq its n/\its.size<=sizeLine/\Vals xs its.toList
def SqT(K:ZA)(H:Hp)(a:ZE)(xs:YE):Prop :=
 Rd H a (.tup xs) \/
  ∃ (o:Obj) (its:Array ZC) (n:Nat),K.lookup a=some o/\o.cls=.type "tuple" /\ o.data=.seq its n/\its.size<=sizeLine/\Vals xs its.toList
def tq:ZC->Option V
 |.none=>some .non
 |.bool b=>some (.bl b)
 |.int i _=>some (.int i)
 |.str x _=>some (.str x)
 |.bytes b _=>some (.byt b)
 |.float b _=>some (.flt b)
 |.ref a=>some (.ref a)
 |.type n=>some (.ty n)
 |_=>none
def RelV.abs{x:V}{u:ZC}(r:RelV x u):tq u=some x:=by
 cases x with
 |non=>cases r;rfl
 |bl _=>cases r;rfl
 |int _=>obtain⟨t,rfl⟩:=r;rfl
 |str _=>obtain⟨t,rfl⟩:=r;rfl
 |byt _=>obtain⟨t,rfl⟩:=r;rfl
 |flt _=>obtain⟨t,rfl⟩:=r;rfl
 |ref _=>cases r;rfl
 |ty _=>cases r;rfl
def RelV.inj{x y:V}{u:ZC}(r:RelV x u)(q:RelV y u):x=y:=(Pp (r.abs.symm.trans q.abs))
theorem Vals.inj:∀ {xs ys:YE} {us:YB},Vals xs us->Vals ys us->xs=ys
 |_,_,_,.nil,.nil=>rfl
 |_,_,_,.cons r t,.cons r' t'=>by rw[r.inj r',Vals.inj t t']
section
variable{X:Cx}{pins:List (ZE×Obj)}{σ:St}{H:Hp}{s:ZB}{a:ZE}{xs ys:YE}
def SqL.of{K:ZA}(h:H a=some (.lst xs)):SqL K H a xs:=(.inl (.inl h))
def SqT.of{K:ZA}(h:H a=some (.tup xs)):SqT K H a xs:=(.inl (.inl h))
def Inv.list(I:Inv X pins σ H s)(h:SqL X.K H a xs):∃ its:YB,Vals xs its/\PlainL s.heap a its.toArray/\xs.length<=sizeLine:=by
 rcases h with h|⟨o,its,n,hk,hc,hd,hs,hz,r⟩
 ·obtain⟨z,its,n,r,e⟩:=h.ok I.hok
  exact⟨its,r,⟨_,n,e,rfl,rfl,rfl⟩,z⟩
 ·refine⟨its.toList,r,⟨o,n,I.kIn a o hk,hc,hd,by simpa using hs⟩,?_⟩
  have e:=r.length;simp only[Qt] at e
  lia
def Inv.tuple(I:Inv X pins σ H s)(h:SqT X.K H a xs):∃ its:YB,Vals xs its/\IsTup s.heap a its.toArray/\xs.length<=sizeLine:=by
 rcases h with h|⟨o,its,n,hk,hc,hs,hz,r⟩
 ·obtain⟨z,its,r,p⟩:=h.ok I.hok
  exact⟨its,r,p,z⟩
 ·refine⟨its.toList,r,⟨o,I.kIn a o hk,hc,n,by simpa using hs⟩,?_⟩
  have e:=r.length;simp only[Qt] at e
  lia
def Inv.list_inj(I:Inv X pins σ H s)(h:SqL X.K H a xs)(h':SqL X.K H a ys):xs=ys:=by
 obtain⟨its,r,⟨o,n,e,_,_,d⟩,_⟩:=I.list h;obtain⟨its',r',⟨o',n',e',_,_,d'⟩,_⟩:=I.list h';rw[e] at e';cases e'
 rw[d] at d';injection d' with d1 _
 have:its=its':=by simpa using congrArg Array.toList d1
 subst this;exact r.inj r'
def Inv.tuple_inj(I:Inv X pins σ H s)(h:SqT X.K H a xs)(h':SqT X.K H a ys):xs=ys:=by
 obtain⟨its,r,⟨o,e,_,n,d⟩,_⟩:=I.tuple h;obtain⟨its',r',⟨o',e',_,n',d'⟩,_⟩:=I.tuple h';rw[e] at e';cases e'
 rw[d] at d';injection d' with d1 _
 have:its=its':=by simpa using congrArg Array.toList d1
 subst this;exact r.inj r'
end
abbrev Cx.wish(X:Cx)(E:ZC->ZB->Prop):Cx:={ X with xe:=E }
abbrev Cx.nox(X:Cx):Cx:=X.wish λ_ _=>False
def Cx.Ok.wish{X:Cx}(ok:X.Ok)(E:ZC->ZB->Prop):(X.wish E).Ok :=(
 ⟨ok.mod,ok.kind,ok.glob,ok.blt,ok.above,ok.inj,ok.has,ok.cab,ok.hd,ok.frames,ok.stk,ok.exf,ok.bs,ok.bsz,ok.noex,ok.exfs,ok.funs,ok.frf⟩)
def Cx.Ok.unwish{X:Cx}{E:ZC->ZB->Prop}(ok:(X.wish E).Ok):X.Ok :=(
 ⟨ok.mod,ok.kind,ok.glob,ok.blt,ok.above,ok.inj,ok.has,ok.cab,ok.hd,ok.frames,ok.stk,ok.exf,ok.bs,ok.bsz,ok.noex,ok.exfs,ok.funs,ok.frf⟩)
section
variable{X:Cx}{pins:List (ZE×Obj)}{σ:St}{H:Hp}{s:ZB}{E:ZC->ZB->Prop}
def Inv.wish(I:Inv X pins σ H s)(E:ZC->ZB->Prop):Inv (X.wish E) pins σ H s:=(⟨I.ok.wish E,I.os,I.bare,I.base,I.loc,I.cell,I.free,I.freeC,I.pin,I.hok,I.len⟩)
def Inv.unwish(I:Inv (X.wish E) pins σ H s):Inv X pins σ H s:=(⟨I.ok.unwish,I.os,I.bare,I.base,I.loc,I.cell,I.free,I.freeC,I.pin,I.hok,I.len⟩)
def SP.unwish{D:cR}{f:Flow}{s':ZB}(h:SP (X.wish E) pins D f s'):SP X pins D f s':=by
 cases f with
 |next=>obtain⟨σ',H',I,q⟩:=h;exact⟨σ',H',I.unwish,q⟩
 |brk=>obtain⟨σ',H',I,q⟩:=h;exact⟨σ',H',I.unwish,q⟩
 |cont=>obtain⟨σ',H',I,q⟩:=h;exact⟨σ',H',I.unwish,q⟩
 |ret u=>obtain⟨v,σ',H',I,r,q⟩:=h;exact⟨v,σ',H',I.unwish,r,q⟩
end
section
variable{X:Cx}{st:Stmt}{rest:List Stmt}{t u:TS}{e:Expr}{te:TE}{pos:Pos}
def Ej:TS:=λD σ H=>D.nx σ H
def tw(t u:TS):TS:=λD σ H=>t { D with nx:=u D } σ H
def Ek:PSs X [] Ej:=(λ_ _ σ H _ I h=>RE ⟨σ,H,I,h⟩)
def El(h1:PS X st t)(h2:PSs X rest u):PSs X (st::rest) (tw t u):=by
 intro pins s σ H D I h;refine wpAny_execs_cons (thn (h1 pins s σ H { D with nx:=u D } I h) λf s1 q=>?_)
 cases f with
 |next =>
  obtain⟨σ',H',I',q⟩:=q;exact h2 pins s1 σ' H' D I' q
 |ret v=>exact q
 |brk=>exact q
 |cont=>exact q
def Em(h1:PS X st t):PSs X [st] t:=by
 intro pins s σ H D I h;refine wpAny_execs_cons (thn (h1 pins s σ H D I h) λf s1 q=>?_)
 cases f with
 |next=>exact RE q
 |ret v=>exact q
 |brk=>exact q
 |cont=>exact q
def Inv.quiet{pins:List (ZE×Obj)}{σ:St}{H:Hp}{s:ZB}(I:Inv X pins σ H s):interactive X.env=false:=by simp[interactive,I.ok.kind]
def Eo(te:TE):TS:=λD σ H=>te σ H λ_ H1=>D.nx σ H1
def Ep(he:PE X e te)(hs:swapsWith e none pos.line X.env=pure false:=by rfl):PS X (.Expr e pos) (Eo te):=by
 intro pins s σ H D I h;exact wpAny_Expr_any (thn (he pins s σ H _ I h) λv s1 ⟨x,H1,I1,r1,q1⟩=>⟨σ,H1,I1,q1⟩) I.quiet hs
def tB(te:TE):TS:=λD σ H=>te σ H D.rt
def Er(he:PE X e te):PS X (.Return (some e) pos) (tB te):=by
 intro pins s σ H D I h;exact wpAny_Return_some (thn (he pins s σ H _ I h) λv s1 ⟨x,H1,I1,r1,q1⟩=>⟨x,σ,H1,I1,r1,q1⟩)
def tD(c:TT)(t u:TS):TS:=λD σ H=>c σ H λb H1=>if b=true then t D σ H1 else u D σ H1
def Es{c:Expr}{a b:List Stmt}{tc:TT}(hc:PT X c tc)(ha:PSs X a t)(hb:PSs X b u):PS X (.If c a b pos) (tD tc t u):=by
 intro pins s σ H D I h;refine wpAny_If (thn (hc pins s σ H _ I h) λd s1 Zz=>?_);obtain⟨H1,I1,q1⟩:=Zz
 cases d with
 |true=>exact ha pins s1 σ H1 D I1 q1
 |false=>exact hb pins s1 σ H1 D I1 q1
end
abbrev TG:=V->St->Hp->(St->Hp->Prop)->Prop
abbrev ke:=YE->St->Hp->(St->Hp->Prop)->Prop
def PG(X:Cx)(target:Expr)(t:TG):Prop :=
 ∀ (pins:List (ZE×Obj)) (s:ZB) (σ:St) (H:Hp) (v:V) (u:ZC) (Q:St->Hp->Prop),Inv X pins σ H s->RelV v u->t v σ H Q ->
  wpAny (model X.prog X.w) X.A (assign target X.env u) (λ_ s'=>∃ σ' H',Inv X pins σ' H' s'/\Q σ' H') X.xe s
def kY(X:Cx)(ts:YD)(t:ke):Prop :=
 ∀ (pins:List (ZE×Obj)) (s:ZB) (σ:St) (H:Hp) (vs:YE) (us:YB) (Q:St->Hp->Prop),Inv X pins σ H s->Vals vs us->t vs σ H Q ->
  wpAny (model X.prog X.w) X.A (assignInOrder ((assignEach ts X.env).map (·.2)) us) (λ_ s'=>∃ σ' H',Inv X pins σ' H' s'/\Q σ' H') X.xe s
abbrev kZ:=V->V->V->Hp->(Hp->Prop)->Prop
def nU(X:Cx)(t:kZ):Prop :=
 ∀ (pins:List (ZE×Obj)) (s:ZB) (σ:St) (H:Hp) (o i v:V) (ov iv u:ZC) (Q:Hp->Prop),Inv X pins σ H s->RelV o ov->RelV i iv->RelV v u->t o i v H Q ->
  wpAny (model X.prog X.w) X.A (setItem ov iv u) (λ_ s'=>∃ H',Inv X pins σ H' s'/\Q H') X.xe s
section
variable{X:Cx}{pos:Pos}
def mO(i:Nat):TG:=λv σ H Q=>Q (σ.set i (some v)) H
def tF{i:Nat}{x:Str}(hN:X.N.Nodup)(hi:X.N[i]?=some x)(hx:kU X.env.scope x)(hf:autoParam (X.fn x=true\/X.env.scope.names.lookup x=some .local) xX._auto_1):PG X (.Name x pos) (mO i):=by
 intro pins s σ H v u Q I r h;exact Ue (mK I hN hi hx r (λs' I'=>⟨_,H,I',h⟩) hf)
def tG:ke:=λvs σ H Q=>vs=[]/\Q σ H
def Et(t:TG)(u:ke):ke:=λvs σ H Q=>∃ v r,vs=v::r/\t v σ H λσ' H'=>u r σ' H' Q
def Eu:kY X [] tG:=by
 intro pins s σ H vs us Q I r h;obtain⟨e,h⟩:=h;subst e
 cases r
 exact Ug ⟨σ,H,I,h⟩
def Ew{e:Expr}{es:YD}{t:TG}{u:ke}(h1:PG X e t)(h2:kY X es u)
  (hs:‹(assignEach (e::es) X.env).map (·.2)=assign e X.env::(assignEach es X.env).map (·.2)›):kY X (e::es) (Et t u):=by
 intro pins s σ H vs us Q I r h;obtain⟨v,vr,e1,h⟩:=h;subst e1
 cases r with
 |cons r rr =>
  rw[hs];refine Q9 (thn (h1 pins s σ H _ _ _ I r h) λ_ s1 Zz=>?_);obtain⟨σ1,H1,I1,q1⟩:=Zz
  exact h2 pins s1 σ1 H1 _ _ Q I1 rr q1
def tH(K:ZA)(n:Nat)(t:ke):TG:=λv σ H Q=>∃ a xs,v=.ref a/\SqT K H a xs/\xs.length=n/\t xs σ H Q
def Ey{es:YD}{k:Nat}{t:ke}{n:Nat}(hc:X.calm=true)(h:kY X es t)
  (hn:‹(assignEach es X.env).length=n›)(hst:‹(assignEach es X.env).findIdx? (·.1)=none›):PG X (.Tuple es k pos) (tH X.K n t):=by
 intro pins s σ H v u Q I r hw;obtain⟨a,xs,e1,hq,hl,hw⟩:=hw;subst e1
 cases r
 obtain⟨its,rv,ht,hz⟩:=I.tuple hq;refine assign_Tuple_tuple (I.ok.hd hc) ht (by simp[hn,<- hl,rv.length]) hst λh' hx=>?_
 have I1:Inv X pins σ H { s with heap:=h' }:=I.kept (t':=s.toks) λb o e=>hx b o (Pq (O4 e)) e
 exact h pins _ σ H xs _ Q I1 (by simpa using rv) hw
def tJ(to ti:TE)(t:kZ):TG:=λv σ H Q=>to σ H λo H1=>ti σ H1 λi H2=>t o i v H2 λH3=>Q σ H3
def Ez{o i:Expr}{to ti:TE}{t:kZ}(ho:PE X o to)(hi:PE X i ti)(hs:nU X t)
  (ha:∀ v,assign (.Subscript o i pos) X.env v=(do
   let ov <- holding [v] (eval o X.env)
   let iv <- holding [v,ov] (eval i X.env)
   standAt pos
   holding [v,ov,iv] (setItem ov iv v)
   release [v,ov,iv] []):=by intro _;rfl):PG X (.Subscript o i pos) (tJ to ti t):=by
 intro pins s σ H v u Q I r h;rw[ha];refine OT (PJ (thn (ho pins s σ H _ I h) λov s1 Zz=>?_));obtain⟨x,H1,I1,r1,q1⟩:=Zz
 refine OT (PJ (thn (hi pins s1 σ H1 _ I1 q1) λiv s2 Zz=>?_));obtain⟨y,H2,I2,r2,q2⟩:=Zz
 refine OT (Sb (OT (PJ (thn (hs pins s2 σ H2 x y v ov iv u _ I2 r1 r2 r q2) λ_ s3 Zz=>?_))));obtain⟨H3,I3,q3⟩:=Zz
 exact wpAny_release ⟨σ,H3,I3,q3⟩
def jl(te:TE)(g:TG):TS:=λD σ H=>te σ H λx H1=>g x σ H1 D.nx
def xY{tg e:Expr}{te:TE}{g:TG}(he:PE X e te)(hg:PG X tg g)(hs:‹swapsWithSole [tg] e pos.line X.env=pure false›)(hw:‹swappedStores [tg] e X.env=pure none›)
  (h1:‹(assignEach [tg] X.env).map (·.2)=[assign tg X.env]›):PS X (.Assign [tg] e pos) (jl te g):=by
 intro pins s σ H D I h;refine wpAny_Assign_stores (thn (he pins s σ H _ I h) λv s1 Zz=>?_) hs hw;obtain⟨x,H1,I1,r1,q1⟩:=Zz
 rw[h1];exact thn (hg pins s1 σ H1 x v _ I1 r1 q1) λ_ s2 q=>q
def EA{i:Nat}{x:Str}{e:Expr}{te:TE}{pos':Pos}(hN:X.N.Nodup)(hi:X.N[i]?=some x)(hx:kU X.env.scope x)(he:PE X e te)(hs:‹swapsWith e (some (.Name x pos')) pos.line X.env=pure false›)(hf:autoParam (X.fn x=true\/X.env.scope.names.lookup x=some .local) xX._auto_1) :
  PS X (.Assign [.Name x pos'] e pos) (jl te (mO i)):=by
 intro pins s σ H D I h;refine wpAny_Assign_Name (thn (he pins s σ H _ I h) λv s1 Zz=>?_) hs;obtain⟨y,H1,I1,r1,q1⟩:=Zz
 exact mK I1 hN hi hx r1 (λs2 I2=>⟨_,H1,I2,q1⟩) hf
end
section
variable{X:Cx}{pos:Pos}
end
structure It where
 go:Nat->Hp->Prop
 yld:Nat->Hp->V->Hp->Prop
 stop:Nat->Hp->Prop
def dI(X:Cx)(pins:List (ZE×Obj))(H:Hp)(b:ZE):Prop :=
 H b=none/\b≠X.env.locals/\b∉X.fs/\(b∈X.ex\/X.s₀.heap.objs.size<=b)/\(∀ x c,X.env.cells.lookup x=some c->c≠b)/\∀ p∈X.pn++pins,p.1≠b
def Inv.fpOk{X:Cx}{pins:List (ZE×Obj)}{σ:St}{H H':Hp}{s:ZB}{b:ZE}(I:Inv X pins σ H s)(hb:s.heap.objs.size<=b)(hn:H' b=none):dI X pins H' b:=by
 refine⟨hn,Nat.ne_of_gt (Ph I.lt hb),I.nofs hb,.inr (OW I.sz hb),λx c e z=>?_,λp hp z=>?_⟩
 ·obtain⟨v,q⟩:=I.cell x c e
  exact absurd (Ph q.lt (by rw[z];exact hb)) (Qi _)
 ·exact absurd (Ph (O4 (I.pin p hp).1) (by rw[z];exact hb)) (Qi _)
structure fu(P:ZD)(w:ZF)(K:ZA)(tg:Expr)(J:It)(fp:List ZE)(it:ZE)(tn:Nat->Heap->Prop):Prop where
 mem:it∈fp
 obj:∀ i h,tn i h->∀ b∈fp,∃ o,h.get? b=some o/\∀ v,o.data ≠ .cell v
 keep:∀ i h h',tn i h->(∀ b∈fp,∀ o,h.get? b=some o->h'.get? b=some o)->tn i h'
 item:∀ (X:Cx),X.prog=P->X.w=w->X.K=K->X.calm=true->∀ (i:Nat) (pins:List (ZE×Obj)) (s:ZB) (σ:St) (H:Hp) (E:ZC->ZB->Prop),Inv X pins σ H s->(∀ b∈fp,dI X pins H b)->tn i s.heap->J.go i H ->
  wpAny (model P w) X.A (pyNext (.ref it)) (λr s1=>∃ u,r=some u /\
   wpAny (model P w) X.A (letOwnedTupleGo tg (.ref it) u) (λ_ s2=>∃ x H',Inv X pins σ H' s2/\RelV x u/\J.yld i H x H'/\tn (i+1) s2.heap/\∀ b∈fp,H' b=none) E s1) E s
 done:∀ (X:Cx),X.prog=P->X.w=w->X.K=K->X.calm=true->∀ (i:Nat) (pins:List (ZE×Obj)) (s:ZB) (σ:St) (H:Hp) (E:ZC->ZB->Prop),Inv X pins σ H s->(∀ b∈fp,dI X pins H b)->tn i s.heap->J.stop i H ->
  wpAny (model P w) X.A (pyNext (.ref it)) (λr s1=>r=none/\Inv X pins σ H s1) E s
 self:∀ (A:ZG) (i:Nat) (s:ZB) (Q:ZC->ZB->Prop) (E:ZC->ZB->Prop),tn i s.heap->Q (.ref it) s->wpAny (model P w) A (pyIter (.ref it)) Q E s
abbrev TI:=St->Hp->(It->Hp->Prop)->Prop
def tK(X:Cx)(pins:List (ZE×Obj))(σ:St)(tg:Expr)(R:It->Hp->Prop)(itv:ZC)(s2:ZB):Prop :=
 ∃ (it:ZE) (fp:List ZE) (tn:Nat->Heap->Prop) (J:It) (H':Hp),itv=.ref it/\Inv X pins σ H' s2/\fu X.prog X.w X.K tg J fp it tn/\tn 0 s2.heap/\(∀ b∈fp,dI X pins H' b)/\R J H'
def PI(X:Cx)(tg iter:Expr)(wi:TI):Prop :=
 ∀ (pins:List (ZE×Obj)) (s:ZB) (σ:St) (H:Hp) (R:It->Hp->Prop),Inv X pins σ H s->wi σ H R ->
  wpAny (model X.prog X.w) X.A (eval iter X.env) (λv s1=>wpAny (model X.prog X.w) X.A (pyIter v) (tK X pins σ tg R) X.xe s1) X.xe s
def nV {M:Model} {A:ZG} {E:ZC->ZB->Prop} {s:ZB} {tg:Expr} {it:ZE} {u:ZC} {o:Obj} {n:String} {vs:Array ZC} {Q:Unit->ZB->Prop} (ho:s.heap.get? it=some o) (hc:o.cls=.type n) (hd:o.data=.fields vs)
  (hn:["enumerate", "zip", "dict_itemiterator", "dict_reverseitemiterator", "odict_iterator", "itertools.zip_longest", "itertools.pairwise"].contains n=false) (hQ:Q () s):wpAny M A (letOwnedTupleGo tg (.ref it) u) Q E s:=by
 unfold letOwnedTupleGo
 cases tg<;>first
  |exact O1 hQ
  | (cases u<;>first
    |exact O1 hQ
    | (refine OT (Ra ho ?_)
       rw[hc,hd];show wpAny M A (if (["enumerate", "zip", "dict_itemiterator", "dict_reverseitemiterator", "odict_iterator", "itertools.zip_longest", "itertools.pairwise"].contains n && vs[0]? == some (rawInt _))=true then _ else _) Q E s
       rw[O0 (by intro h;rw[hn,Bool.false_and] at h;cases h)];exact O1 hQ))
def qa(K:ZA)(a:ZE):It :=
 ⟨λi H=>∃ xs x,SqL K H a xs/\xs[i]?=some x,λi H x H'=>H'=H/\∀ xs,SqL K H a xs->xs[i]?=some x,λi H=>∃ xs,SqL K H a xs/\xs.length<=i⟩
def tL(K:ZA)(a:ZE):It :=
 ⟨λi H=>∃ xs x,SqT K H a xs/\xs[i]?=some x,λi H x H'=>H'=H/\∀ xs,SqT K H a xs->xs[i]?=some x,λi H=>∃ xs,SqT K H a xs/\xs.length<=i⟩
def qc(lo:Int)(n:Nat):It:=⟨λi _=>i<n,λi H x H'=>H'=H/\x=.int (lo+i),λi _=>n<=i⟩
def EB{P:ZD}{w:ZF}{K:ZA}{tg:Expr}(a it:ZE):fu P w K tg (qa K a) [it] it (λi h=>h.IsListIter it a i) where
 mem:=by simp
 obj:=λi h st b hb=>by
  have e:b=it:=by simpa using hb
  subst e;obtain⟨o,e,c,d⟩:=st
  exact⟨o,e,λv z=>by rw[d] at z;cases z⟩
 keep:=λi h h' st k=>st.at λo e=>k it 's' o e
 item:=by
  intro X hP hw hK hc i pins s σ H E I hf st hg;subst hP hw hK
  obtain⟨xs,x,hq,hx⟩:=hg;obtain⟨its,rv,p,hz⟩:=I.list hq;obtain⟨u,hu,ru⟩:=rv.get hx;obtain⟨f0,f1,f2,f3,f4,f5⟩:=hf it 's';refine wpAny_pyNext_list_item st p.isList (x:=u) (by simpa using hu) λh' st' sb=>?_
  have I1:Inv X pins σ H { s with heap:=h' }:=I.turned (t':=s.toks) (λb o hb e=>(sb.2 b hb).trans e) f0 f1 f3 f4 f5;obtain⟨o,e,c,d⟩:=id st';exact⟨u,rfl,nV (s:={ s with heap:=h' }) e c d 'd' ⟨x,H,I1,ru,⟨rfl,λys hy=>by rw[I.list_inj hy hq];exact hx⟩,st',λb hb=>(hf b hb).1⟩⟩
 done:=by
  intro X hP hw hK hc i pins s σ H E I hf st hg;subst hP hw hK
  obtain⟨xs,hq,hx⟩:=hg;obtain⟨its,rv,p,hz⟩:=I.list hq;obtain⟨f0,f1,f2,f3,f4,f5⟩:=hf it 's';have hl:=rv.length;exact wpAny_pyNext_list_end (I.ok.hd hc) st p.isList (by simp;lia) λh' eb=>⟨rfl,I.turned (t':=s.toks) (λb o hb e=>eb b o hb e) f0 f1 f3 f4 f5⟩
 self:=λ_ _ _ _ _ st h=>wpAny_pyIter_listiter st h
def EC{P:ZD}{w:ZF}{K:ZA}{tg:Expr}(a it:ZE):fu P w K tg (tL K a) [it] it (λi h=>h.IsTupleIter it a i) where
 mem:=by simp
 obj:=λi h st b hb=>by
  have e:b=it:=by simpa using hb
  subst e;obtain⟨o,e,c,d⟩:=st
  exact⟨o,e,λv z=>by rw[d] at z;cases z⟩
 keep:=λi h h' st k=>st.at λo e=>k it 's' o e
 item:=by
  intro X hP hw hK hc i pins s σ H E I hf st hg;subst hP hw hK
  obtain⟨xs,x,hq,hx⟩:=hg;obtain⟨its,rv,p,hz⟩:=I.tuple hq;obtain⟨u,hu,ru⟩:=rv.get hx;obtain⟨f0,f1,f2,f3,f4,f5⟩:=hf it 's';refine wpAny_pyNext_tuple_item st (show s.heap.IsTuple a its.toArray from p) (x:=u) (by simpa using hu) λh' st' sb=>?_
  have I1:Inv X pins σ H { s with heap:=h' }:=I.turned (t':=s.toks) (λb o hb e=>(sb.2 b hb).trans e) f0 f1 f3 f4 f5;obtain⟨o,e,c,d⟩:=id st';exact⟨u,rfl,nV (s:={ s with heap:=h' }) e c d 'd' ⟨x,H,I1,ru,⟨rfl,λys hy=>by rw[I.tuple_inj hy hq];exact hx⟩,st',λb hb=>(hf b hb).1⟩⟩
 done:=by
  intro X hP hw hK hc i pins s σ H E I hf st hg;subst hP hw hK
  obtain⟨xs,hq,hx⟩:=hg;obtain⟨its,rv,p,hz⟩:=I.tuple hq;obtain⟨f0,f1,f2,f3,f4,f5⟩:=hf it 's';have hl:=rv.length;exact wpAny_pyNext_tuple_end (I.ok.hd hc) st (show s.heap.IsTuple a its.toArray from p) (by simp;lia) λh' eb=>⟨rfl,I.turned (t':=s.toks) (λb o hb e=>eb b o hb e) f0 f1 f3 f4 f5⟩
 self:=λ_ _ _ _ _ st h=>wpAny_pyIter_tupleiter st h
def ED{P:ZD}{w:ZF}{K:ZA}{tg:Expr}(it:ZE)(lo:Int)(n:Nat):fu P w K tg (qc lo n) [it] it (λi h=>IsRangeIter h it (lo+(i:Nat)*1) ((n:Int)-(i:Nat)) 1) where
 mem:=by simp
 obj:=λi h st b hb=>by
  have e:b=it:=by simpa using hb
  subst e;exact⟨_,st,λv z=>by
   have z':Data.fields _=Data.cell v:=z
   cases z'⟩
 keep:=λi h h' st k=>k it 's' _ st
 item:=by
  intro X hP hw hK hc i pins s σ H E I hf st hg;subst hP hw hK
  obtain⟨f0,f1,f2,f3,f4,f5⟩:=hf it 's';have W:=Walks.range (prog:=X.prog) (w:=X.w) (I.ok.hd hc) it lo 1 n;refine W.item i s _ _ hg st λv h' tk hv st' kk=>?_
  obtain⟨t,rfl⟩:=hv;have I1:Inv X pins σ H { s with heap:=h',toks:=tk }:=I.turned (λb o hb e=>kk b o (by simpa using hb) e) f0 f1 f3 f4 f5;refine⟨_,rfl,nV (s:={ s with heap:=h',toks:=tk }) (n := "range_iterator") st' rfl rfl 'd' ⟨.int (lo+i),H,I1,⟨t,?_⟩,⟨rfl,rfl⟩,st',λb hb=>(hf b hb).1⟩⟩
  rw[Int.mul_one]
 done:=by
  intro X hP hw hK hc i pins s σ H E I hf st hg;subst hP hw hK
  obtain⟨f0,f1,f2,f3,f4,f5⟩:=hf it 's';exact SF (I.ok.hd hc) st (by have:n<=i:=hg;lia) λh' eb=>⟨rfl,I.turned (t':=s.toks) (λb o hb e=>eb b o hb e) f0 f1 f3 f4 f5⟩
 self:=λ_ _ _ _ _ st h=>SG st h
section
variable{X:Cx}{tg:Expr}
def xZ(K:ZA)(tl:TE):TI:=λσ H R=>tl σ H λx H1=>∃ a,x=.ref a/\(∃ xs,SqL K H1 a xs)/\R (qa K a) H1
def nW(K:ZA)(tl:TE):TI:=λσ H R=>tl σ H λx H1=>∃ a,x=.ref a/\(∃ xs,SqT K H1 a xs)/\R (tL K a) H1
def EE{l:Expr}{tl:TE}(hl:PE X l tl):PI X tg l (xZ X.K tl):=by
 intro pins s σ H R I h;refine thn (hl pins s σ H _ I h) λv s1 Zz=>?_;obtain⟨x,H1,I1,r1,q1⟩:=Zz
 obtain⟨a,e,⟨xs,hq⟩,q⟩:=q1;subst e
 cases r1
 obtain⟨its,rv,p,hz⟩:=I1.list hq;refine R6 p.isList ?_
 refine⟨s1.heap.objs.size,[s1.heap.objs.size],_,_,H1,rfl,I1.kept (t':=s1.toks) λb o e=>OZ _ e,EB a _,⟨_,Pa _ rfl,rfl,rfl⟩,λb hb=>?_,q⟩
 have e:b=s1.heap.objs.size:=by simpa using hb
 subst e;exact I1.fpOk (OV _) (I1.hok.fresh (OV _))
def EF{l:Expr}{tl:TE}(hl:PE X l tl):PI X tg l (nW X.K tl):=by
 intro pins s σ H R I h;refine thn (hl pins s σ H _ I h) λv s1 Zz=>?_;obtain⟨x,H1,I1,r1,q1⟩:=Zz
 obtain⟨a,e,⟨xs,hq⟩,q⟩:=q1;subst e
 cases r1
 obtain⟨its,rv,p,hz⟩:=I1.tuple hq;refine wpAny_pyIter_tuple (show s1.heap.IsTuple a its.toArray from p) ?_
 refine⟨s1.heap.objs.size,[s1.heap.objs.size],_,_,H1,rfl,I1.kept (t':=s1.toks) λb o e=>OZ _ e,EC a _,⟨_,Pa _ rfl,rfl,rfl⟩,λb hb=>?_,q⟩
 have e:b=s1.heap.objs.size:=by simpa using hb
 subst e;exact I1.fpOk (OV _) (I1.hok.fresh (OV _))
def EG{pins:List (ZE×Obj)}{σ:St}{H:Hp}{s:ZB}{R:It->Hp->Prop}{E:ZC->ZB->Prop}{lo hi:Int}{t u v:Tok}{tk:Nat}(I:Inv X pins σ H s)(h1:-(2 ^ 62)<=lo)(h2:lo<2 ^ 62)(h3:-(2 ^ 62)<=hi)(h4:hi<2 ^ 62)
  (q:R (qc lo (hi-lo).toNat) H):wpAny (model X.prog X.w) X.A (pyIter (.ref s.heap.objs.size)) (tK X pins σ tg R) E { s with heap:=s.heap.push { cls:=.type "range",data:=.fields #[.int lo t,.int hi u,.int 1 v] },toks:=tk }:=by
 refine TZ (IsRange.new ..) (small_one h1 h2 h3 h4) ?_
 have I1:Inv X pins σ H { s with heap:=s.heap.push { cls:=.type "range",data:=.fields #[.int lo t,.int hi u,.int 1 v] },toks:=tk }:=I.kept λb o e=>OZ _ e
 refine⟨(s.heap.push { cls:=.type "range",data:=.fields #[.int lo t,.int hi u,.int 1 v] }).objs.size,[(s.heap.push { cls:=.type "range",data:=.fields #[.int lo t,.int hi u,.int 1 v] }).objs.size],_,_,H,rfl,
  I1.kept (t':=tk) λb o e=>OZ _ e,ED _ lo (hi-lo).toNat,?_,λb hb=>?_,q⟩
 ·have e1:lo+((0:Nat):Int)*1=lo:=by simp
  have e2:(((hi-lo).toNat:Nat):Int)-((0:Nat):Int)=Builtin.Range.rangeSize lo hi 1:=by rw[rangeSize_one];split<;>omega
  show IsRangeIter _ _ (lo+((0:Nat):Int)*1) ((((hi-lo).toNat:Nat):Int)-((0:Nat):Int)) 1
  rw[e1,e2];exact Pa _ rfl
 ·have e:b=(s.heap.push { cls:=.type "range",data:=.fields #[.int lo t,.int hi u,.int 1 v] }).objs.size:=by simpa using hb
  subst e;exact I1.fpOk (OV _) (I1.hok.fresh (OV _))
def EH(ta:TA):TI:=λσ H R=>ta σ H λvs H1=>∃ j:Int,vs=[.int j] /\ -(2 ^ 62)<=j/\j<2 ^ 62/\R (qc 0 j.toNat) H1
def EI {a:Expr} {ta:TA} {p pos:Pos} (hg:Gl X "range") (hm:X.mg "range"=none) (ha:PA X [a] ta) (hs:‹starEach [a] X.env=[(false,eval a X.env)]›):PI X tg (.Call (.Name "range" p) [a] [] pos) (EH ta):=by
 intro pins s σ H R I h;refine Call_ (mL I hg hm boot_range (Qv (thn (ha pos pins s σ H _ I h) λus s1 Zz=>?_) hs rfl));obtain⟨vs,H1,I1,r1,q1⟩:=Zz
 obtain⟨j,e,q1,q2,q⟩:=q1;subst e
 cases r1 with
 |cons r rr =>
  cases rr
  obtain⟨t,rfl⟩:=r;exact call_range_1 (EG I1 ⋯ ⋯ q1 q2 (by simpa using q))
def tM(wi:TI)(g:TG)(tb:TS):TS:=λD σ H=>wi σ H λJ H1=>∃ W:Nat->Nat->St->Hp->Prop,(∃ m,W 0 m σ H1)/\∀ i m σ H,W i m σ H ->
 (J.stop i H/\D.nx σ H)\/(J.go i H/\∃ N:St->Hp->Prop,(∀ σ' H',N σ' H'->∃ m',m'<m/\W (i+1) m' σ' H')/\∀ x H',J.yld i H x H'->g x σ H' λσ2 H2=>tb { D with nx:=N,ct:=N,bk:=D.nx } σ2 H2)
def iU(fp:List ZE)(h:Heap):List (ZE×Obj):=fp.filterMap λb=>(h.get? b).map λo=>(b,o)
def qd{fp:List ZE}{h:Heap}{b:ZE}{o:Obj}(hb:b∈fp)(e:h.get? b=some o):(b,o)∈iU fp h:=(RM.mpr ⟨b,hb,by rw[e];rfl⟩)
def EJ{fp:List ZE}{h:Heap}{p:ZE×Obj}(hp:p∈iU fp h):p.1∈fp/\h.get? p.1=some p.2:=by
 obtain⟨b,hb,e⟩:=RM.mp hp
 cases q:h.get? b with
 |none=>rw[q] at e;cases e
 |some o =>
  rw[q] at e;have e':(b,o)=p:=Pp e
  subst e'
  exact⟨hb,q⟩
def Inv.pinned{pins:List (ZE×Obj)}{σ:St}{H:Hp}{s:ZB}{fp:List ZE}(I:Inv X pins σ H s)(hf:∀ b∈fp,dI X pins H b)(ho:∀ b∈fp,∃ o,s.heap.get? b=some o/\∀ v,o.data ≠ .cell v):Inv X (pins++iU fp s.heap) σ H s :=(
 I.pins_of λp hp=>(PH.mp hp).elim (λz=>I.pin p (Pn _ z)) λz=>by
  obtain⟨hb,e⟩:=EJ z;obtain⟨f0,f1,f2,_⟩:=hf p.1 hb;obtain⟨o,e',d⟩:=ho p.1 hb;rw[e] at e';cases e'
  exact⟨e,f0,f1,f2,d⟩)
def Inv.unpinned{pins pl:List (ZE×Obj)}{σ:St}{H:Hp}{s:ZB}(I:Inv X (pins++pl) σ H s):Inv X pins σ H s:=(I.pins_of λp hp=>I.pin p (Pn _ (Pk _ hp)))
def EK{iter:Expr}{body:List Stmt}{wi:TI}{g:TG}{tb:TS}{pos:Pos}(hp:PassesOwn (model X.prog X.w) X.A X.env X.xe)(hc:X.calm=true)(hi:PI X tg iter wi)(hg:PG X tg g)(hb:PSs X body tb)
  (hs:autoParam (∀ x,foldedSetIterable iter X.env x=pure x) L2.Ez._auto_1):PS X (.For tg iter body [] pos) (tM wi g tb):=by
 intro pins s σ H D I h;refine wpAny_For (thn (hi pins s σ H _ I h) λv s1 h1=>thn h1 λitv s2 h2=>?_) hs
 obtain⟨it,fp,tn,J,H2,e,I2,T,st2,f2,W,⟨m0,w0⟩,turn⟩:=h2;subst e;have stat:∀ {H':Hp},(∀ b∈fp,H' b=none)->∀ b∈fp,dI X pins H' b:=λhn b hb=>⟨hn b hb,(f2 b hb).2⟩
 refine codeAny_forLoop_any (λn s'=>∃ i σ' H',Inv X pins σ' H' s'/\tn i s'.heap/\(∀ b∈fp,H' b=none)/\W i n σ' H') ?_ m0 ⟨0,σ,H2,I2,st2,λb hb=>(f2 b hb).1,w0⟩
 rintro n s3 ⟨i,σ3,H3,I3,st3,fr3,w3⟩
 rcases turn i n σ3 H3 w3 with⟨stop,qn⟩|⟨go,N,hN,step⟩
 ·refine Q6 hp (thn (T.done X rfl rfl rfl hc i pins s3 σ3 H3 X.xe I3 (stat fr3) st3 stop) λr s4 Zz=>?_);obtain⟨hr,I4⟩:=Zz
  subst hr;exact RE ⟨σ3,H3,I4,qn⟩
 ·refine Q6 hp (thn (T.item X rfl rfl rfl hc i pins s3 σ3 H3 X.xe I3 (stat fr3) st3 go) λr s4 Zz=>?_);obtain⟨u,hr,h4⟩:=Zz
  subst hr;refine Q6 hp (thn h4 λ_ s5 Zz=>?_);obtain⟨x,H5,I5,r5,y5,st5,fr5⟩:=Zz
  have I5':=I5.pinned (stat fr5) (T.obj _ _ st5);refine Q6 hp (thn (hg _ s5 σ3 H5 x u _ I5' r5 (step x H5 y5)) λ_ s6 Zz=>?_);obtain⟨σ6,H6,I6,q6⟩:=Zz
  refine Q6 hp (thn (hb _ s6 σ6 H6 _ I6 q6) λf s7 q7=>?_)
  have again:∀ {σ7:St} {H7:Hp},Inv X (pins++iU fp s5.heap) σ7 H7 s7->N σ7 H7->∃ m,m<n/\∃ i σ' H',Inv X pins σ' H' s7/\tn i s7.heap/\(∀ b∈fp,H' b=none)/\W i m σ' H':=λ{σ7 H7} I7 n7=>by
   obtain⟨m',hm,w7⟩:=hN σ7 H7 n7;refine⟨m',hm,i+1,σ7,H7,I7.unpinned,T.keep _ _ _ st5 λb hb o e=>(I7.pin (b,o) (Pn _ (Pn _ (qd hb e)))).1,λb hb=>?_,w7⟩
   obtain⟨o,e,d⟩:=T.obj _ _ st5 b hb;exact(I7.pin (b,o) (Pn _ (Pn _ (qd hb e)))).2.1
  cases f with
  |next=>obtain⟨σ7,H7,I7,n7⟩:=q7;exact again I7 n7
  |cont=>obtain⟨σ7,H7,I7,n7⟩:=q7;exact again I7 n7
  |brk=>obtain⟨σ7,H7,I7,q7⟩:=q7;exact⟨σ7,H7,I7.unpinned,q7⟩
  |ret v=>obtain⟨x7,σ7,H7,I7,r7,q7⟩:=q7;exact⟨x7,σ7,H7,I7.unpinned,r7,q7⟩
end
abbrev R2:=V->V->Hp->VK->Prop
def OpR(X:Cx)(f:ZC->ZC->Sem ZC)(r:R2):Prop :=
 ∀ (pins:List (ZE×Obj)) (s:ZB) (σ:St) (H:Hp) (x y:V) (v u:ZC) (Q:VK),Inv X pins σ H s->RelV x v->RelV y u->r x y H Q ->
  wpAny (model X.prog X.w) X.A (f v u) (EP X pins σ Q) X.xe s
def tN(X:Cx)(f:ZC->Sem ZC)(r:V->Hp->VK->Prop):Prop :=
 ∀ (pins:List (ZE×Obj)) (s:ZB) (σ:St) (H:Hp) (x:V) (v:ZC) (Q:VK),Inv X pins σ H s->RelV x v->r x H Q ->
  wpAny (model X.prog X.w) X.A (f v) (EP X pins σ Q) X.xe s
def CallR(X:Cx)(f:ZC)(r:YE->Hp->VK->Prop):Prop :=
 ∀ (pins:List (ZE×Obj)) (s:ZB) (σ:St) (H:Hp) (xs:YE) (us:YB) (Q:VK),Inv X pins σ H s->Vals xs us->r xs H Q ->
  wpAny (model X.prog X.w) X.A (call f us) (EP X pins σ Q) X.xe s
def tP(X:Cx)(r:V->Hp->(Bool->Hp->Prop)->Prop):Prop :=
 ∀ (pins:List (ZE×Obj)) (s:ZB) (σ:St) (H:Hp) (x:V) (v:ZC) (Q:Bool->Hp->Prop),Inv X pins σ H s->RelV x v->r x H Q ->
  wpAny (model X.prog X.w) X.A (truthy v) (TP X pins σ Q) X.xe s
def mP(r:R2)(ta tb:TE):TE:=λσ H Q=>ta σ H λx H1=>tb σ H1 λy H2=>r x y H2 Q
def EL(r:V->Hp->VK->Prop)(ta:TE):TE:=λσ H Q=>ta σ H λx H1=>r x H1 Q
def rI(C:Int->Int->Prop)(g:Int->Int->V):R2:=λx y H Q=>∃ i j,x=.int i/\y=.int j/\C i j/\Q (g i j) H
def kf(g:Int->Int->V):R2:=λx y H Q=>∃ i j,x=.int i/\y=.int j/\Q (g i j) H
def rU(g:Int->V):V->Hp->VK->Prop:=λx H Q=>∃ i,x=.int i/\Q (g i) H
section
variable{X:Cx}{a b c:Expr}{ta tb tc:TE}{pos:Pos}
def k8(ha:PE X a ta)(hb:PE X b tb){pins:List (ZE×Obj)}{s:ZB}{σ:St}{H:Hp}{R:V->V->Hp->Prop}(I:Inv X pins σ H s)
  (h:ta σ H λx H1=>tb σ H1 λy H2=>R x y H2){Q:ZC->ZB->Prop}{f:ZC->ZC->Sem ZC}
  (hf:∀ v u s2 x y H2,Inv X pins σ H2 s2->RelV x v->RelV y u->R x y H2->wpAny (model X.prog X.w) X.A (f v u) Q X.xe s2) :
  wpAny (model X.prog X.w) X.A (eval a X.env) (λv s₁=>wpAny (model X.prog X.w) X.A (eval b X.env) (λu s₂=>wpAny (model X.prog X.w) X.A (f v u) Q X.xe s₂) X.xe s₁) X.xe s:=by
 refine thn (ha pins s σ H _ I h) λv s1 Zz=>?_;obtain⟨x,H1,I1,r1,q1⟩:=Zz
 refine thn (hb pins s1 σ H1 _ I1 q1) λu s2 Zz=>?_;obtain⟨y,H2,I2,r2,q2⟩:=Zz
 exact hf v u s2 x y H2 I2 r1 r2 q2
def EM{op:Operator}{r:R2}(ho:OpR X (binaryOp op) r)(ha:PE X a ta)(hb:PE X b tb):PE X (.BinOp a op b pos) (mP r ta tb):=by
 intro pins s σ H Q I h;exact wpAny_BinOp (k8 ha hb I h λv u s2 x y H2 I2 rx ry q=>ho pins s2 σ H2 x y v u Q I2 rx ry q)
def EO{op:UnaryOp}{r:V->Hp->VK->Prop}(ho:tN X (unaryOp op) r)(ha:PE X a ta):PE X (.UnaryOp op a pos) (EL r ta):=by
 intro pins s σ H Q I h;exact UnaryOp_ (thn (ha pins s σ H _ I h) λv s1 ⟨x,H1,I1,r1,q1⟩=>ho pins s1 σ H1 x v Q I1 r1 q1)
def qe{f:ZC->ZC->Sem ZC}{C:Int->Int->Prop}{g:Int->Int->Int}
  (rule:∀ (i j:Int) (t u:Tok) (s:ZB) (Q:ZC->ZB->Prop) (E:ZC->ZB->Prop),C i j->Q (.int (g i j) s.toks) { s with toks:=s.toks+1 }->wpAny (model X.prog X.w) X.A (f (.int i t) (.int j u)) Q E s) :
  OpR X f (rI C λi j=>.int (g i j)):=by
 intro pins s σ H x y v u Q I rx ry h;obtain⟨i,j,rfl,rfl,hc,q⟩:=h;obtain⟨t,rfl⟩:=rx;obtain⟨t',rfl⟩:=ry;exact rule i j t t' s _ _ hc ⟨.int (g i j),H,I.tok _,⟨_,rfl⟩,q⟩
def nX{f:ZC->ZC->Sem ZC}{g:Int->Int->Int}
  (rule:∀ (i j:Int) (t u:Tok) (s:ZB) (Q:ZC->ZB->Prop) (E:ZC->ZB->Prop),Q (.int (g i j) s.toks) { s with toks:=s.toks+1 }->wpAny (model X.prog X.w) X.A (f (.int i t) (.int j u)) Q E s) :
  OpR X f (kf λi j=>.int (g i j)):=by
 intro pins s σ H x y v u Q I rx ry h;obtain⟨i,j,rfl,rfl,q⟩:=h;obtain⟨t,rfl⟩:=rx;obtain⟨t',rfl⟩:=ry;exact rule i j t t' s _ _ ⟨.int (g i j),H,I.tok _,⟨_,rfl⟩,q⟩
def jm{f:ZC->ZC->Sem ZC}{g:Int->Int->Bool}
  (rule:∀ (i j:Int) (t u:Tok) (s:ZB) (Q:ZC->ZB->Prop) (E:ZC->ZB->Prop),Q (.bool (g i j)) s->wpAny (model X.prog X.w) X.A (f (.int i t) (.int j u)) Q E s) :
  OpR X f (kf λi j=>.bl (g i j)):=by
 intro pins s σ H x y v u Q I rx ry h;obtain⟨i,j,rfl,rfl,q⟩:=h;obtain⟨t,rfl⟩:=rx;obtain⟨t',rfl⟩:=ry;exact rule i j t t' s _ _ ⟨.bl (g i j),H,I,rfl,q⟩
def tQ(i j:Int):Prop:=0<=j/\j<=1000000/\i.natAbs<2 ^ 64
def CMul(i j:Int):Prop:=(-(2 ^ 64)<i/\i<2 ^ 64)\/(-(2 ^ 64)<j/\j<2 ^ 64)
def CMul.ok{i j:Int}(h:CMul i j):IntMulOk i j:=by
 rcases h with⟨h1,h2⟩|⟨h1,h2⟩
 ·exact .of_left (intBits_le_64 h1 h2)
 ·exact .of_right (intBits_le_64 h1 h2)
def op_add:OpR X (binaryOp .Add) (kf λi j=>.int (i+j)):=(nX λ_ _ _ _ _ _ _ q=>add_int q)
def ES:OpR X (binaryOp .Sub) (kf λi j=>.int (i-j)):=(nX λ_ _ _ _ _ _ _ q=>sub_int q)
def ET:OpR X (binaryOp .Mod) (rI (λ_ j=>0<j) λi j=>.int (i % j)):=(qe λi j _ _ _ _ _ hc q=>by
 have h1:(0:Int)<j:=hc;exact mod_int' ⋯ (by rw[Int.fmod_eq_emod_of_nonneg i ⋯];exact q))
def EU:OpR X (binaryOp .Pow) (rI tQ λi j=>.int (i ^ j.toNat)):=(qe λ_ _ _ _ _ _ _ hc q=>pow_int_small hc.1 hc.2.1 hc.2.2 q)
def EV{f:ZC->Sem ZC}{g:Int->Int}
  (rule:∀ (i:Int) (t:Tok) (s:ZB) (Q:ZC->ZB->Prop) (E:ZC->ZB->Prop),Q (.int (g i) s.toks) { s with toks:=s.toks+1 }->wpAny (model X.prog X.w) X.A (f (.int i t)) Q E s) :
  tN X f (rU λi=>.int (g i)):=by
 intro pins s σ H x v Q I rx h;obtain⟨i,rfl,q⟩:=h;obtain⟨t,rfl⟩:=rx;exact rule i t s _ _ ⟨.int (g i),H,I.tok _,⟨_,rfl⟩,q⟩
def EW:tN X (unaryOp .USub) (rU λi=>.int (-i)):=(EV λ_ _ _ _ _ q=>neg_int q)
end
def k9:V->V->Bool
 |.non,.non=>true|.non,.int _=>true|.int _,.non=>true|.non,.bl _=>true|.bl _,.non=>true|.non,.str _=>true|.str _,.non=>true
 |.int _,.int _=>true|.bl _,.bl _=>true|.str _,.str _=>true|.byt _,.byt _=>true
 |.int _,.str _=>true|.str _,.int _=>true|.bl _,.str _=>true|.str _,.bl _=>true
 |_,_=>false
def EX:R2:=λx y H Q=>k9 x y=true/\Q (.bl (decide (x=y))) H
def EY:R2:=λx y H Q=>k9 x y=true/\Q (.bl (!decide (x=y))) H
def x6{i j:Int}:decide (V.int i=V.int j)=(i == j):=by
 rw[Qq];simp
def x8{i j:Bool}:decide (V.bl i=V.bl j)=(i == j):=by
 rw[Qq];simp
def x9{i j:Str}:decide (V.str i=V.str j)=(i == j):=by
 rw[Qq];simp
def ya{i j:Array UInt8}:decide (V.byt i=V.byt j)=(i.toList == j.toList):=by
 rw[Qq]
 cases i
 cases j
 simp
section
variable{X:Cx}{a b c:Expr}{ta tb tc:TE}{pos:Pos}
def b9{pins:List (ZE×Obj)}{σ:St}{H:Hp}{s:ZB}{Q:VK}{k k':Bool}(I:Inv X pins σ H s)(q:Q (.bl k) H)(e:k=k'):EP X pins σ Q (.bool k') s:=by
 subst e;exact⟨.bl k,H,I,rfl,q⟩
def op_eq:OpR X (compareOp .Eq) EX:=by
 intro pins s σ H x y v u Q I rx ry h;obtain⟨hs,q⟩:=h
 cases x with
 |non =>
  cases rx
  cases y with
  |non=>cases ry;exact PySem.EqNone.eq_none_none (b9 I q 's')
  |bl j=>cases ry;exact PySem.EqNone.eq_none_bool (b9 I q 's')
  |int j=>obtain⟨t',rfl⟩:=ry;exact PySem.EqNone.eq_none_int (b9 I q 's')
  |str j=>obtain⟨t',rfl⟩:=ry;exact PySem.EqNone.eq_none_str (b9 I q 's')
  |_=>exact absurd (show false=true from hs) Pe
 |bl i =>
  cases rx
  cases y with
  |non=>cases ry;exact PySem.EqNone.eq_bool_none (b9 I q 's')
  |bl j=>cases ry;exact eq_bool (b9 I q x8)
  |str j=>obtain⟨t',rfl⟩:=ry;exact PySem.EqMixed.eq_bool_str (b9 I q 's')
  |_=>exact absurd (show false=true from hs) Pe
 |int i =>
  obtain⟨t,rfl⟩:=rx
  cases y with
  |non=>cases ry;exact PySem.EqNone.eq_int_none (b9 I q 's')
  |int j=>obtain⟨t',rfl⟩:=ry;exact eq_int (b9 I q x6)
  |str j=>obtain⟨t',rfl⟩:=ry;exact PySem.EqMixed.eq_int_str (b9 I q 's')
  |_=>exact absurd (show false=true from hs) Pe
 |str i =>
  obtain⟨t,rfl⟩:=rx
  cases y with
  |non=>cases ry;exact PySem.EqNone.eq_str_none (b9 I q 's')
  |bl j=>cases ry;exact PySem.EqMixed.eq_str_bool (b9 I q 's')
  |int j=>obtain⟨t',rfl⟩:=ry;exact PySem.EqMixed.eq_str_int (b9 I q 's')
  |str j=>obtain⟨t',rfl⟩:=ry;exact eq_str (b9 I q x9)
  |_=>exact absurd (show false=true from hs) Pe
 |byt i =>
  obtain⟨t,rfl⟩:=rx
  cases y with
  |byt j=>obtain⟨t',rfl⟩:=ry;exact PySem.W.eq_bytes (b9 I q ya)
  |_=>exact absurd (show false=true from hs) Pe
 |_=>cases y<;>exact absurd (show false=true from hs) Pe
def op_ne:OpR X (compareOp .NotEq) EY:=by
 intro pins s σ H x y v u Q I rx ry h;obtain⟨hs,q⟩:=h
 cases x with
 |non =>
  cases rx
  cases y with
  |non=>cases ry;exact PySem.EqNone.ne_none_none (b9 I q 's')
  |bl j=>cases ry;exact PySem.EqNone.ne_none_bool (b9 I q 's')
  |int j=>obtain⟨t',rfl⟩:=ry;exact PySem.EqNone.ne_none_int (b9 I q 's')
  |str j=>obtain⟨t',rfl⟩:=ry;exact PySem.EqNone.ne_none_str (b9 I q 's')
  |_=>exact absurd (show false=true from hs) Pe
 |bl i =>
  cases rx
  cases y with
  |non=>cases ry;exact PySem.EqNone.ne_bool_none (b9 I q 's')
  |bl j=>cases ry;exact ne_bool (b9 I q (congrArg not x8))
  |str j=>obtain⟨t',rfl⟩:=ry;exact PySem.EqMixed.ne_bool_str (b9 I q 's')
  |_=>exact absurd (show false=true from hs) Pe
 |int i =>
  obtain⟨t,rfl⟩:=rx
  cases y with
  |non=>cases ry;exact PySem.EqNone.ne_int_none (b9 I q 's')
  |int j=>obtain⟨t',rfl⟩:=ry;exact ne_int (b9 I q (congrArg not x6))
  |str j=>obtain⟨t',rfl⟩:=ry;exact PySem.EqMixed.ne_int_str (b9 I q 's')
  |_=>exact absurd (show false=true from hs) Pe
 |str i =>
  obtain⟨t,rfl⟩:=rx
  cases y with
  |non=>cases ry;exact PySem.EqNone.ne_str_none (b9 I q 's')
  |bl j=>cases ry;exact PySem.EqMixed.ne_str_bool (b9 I q 's')
  |int j=>obtain⟨t',rfl⟩:=ry;exact PySem.EqMixed.ne_str_int (b9 I q 's')
  |str j=>obtain⟨t',rfl⟩:=ry;exact ne_str (b9 I q (congrArg not x9))
  |_=>exact absurd (show false=true from hs) Pe
 |byt i =>
  obtain⟨t,rfl⟩:=rx
  cases y with
  |byt j=>obtain⟨t',rfl⟩:=ry;exact PySem.W.ne_bytes (b9 I q (congrArg not ya))
  |_=>exact absurd (show false=true from hs) Pe
 |_=>cases y<;>exact absurd (show false=true from hs) Pe
def op_lt:OpR X (compareOp .Lt) (kf λi j=>.bl (decide (i<j))):=(jm λ_ _ _ _ _ _ _ q=>lt_int q)
def op_le:OpR X (compareOp .LtE) (kf λi j=>.bl (decide (i<=j))):=(jm λ_ _ _ _ _ _ _ q=>le_int q)
def EZ:OpR X (compareOp .Gt) (kf λi j=>.bl (decide (j<i))):=(jm λ_ _ _ _ _ _ _ q=>gt_int q)
def E1:OpR X (compareOp .GtE) (kf λi j=>.bl (decide (j<=i))):=(jm λ_ _ _ _ _ _ _ q=>ge_int q)
def E2:OpR X (compareOp .Lt) (λx y H Q=>∃ i j,x=.str i/\y=.str j/\Q (.bl (decide (i.cps.toList<j.cps.toList))) H):=by
 intro pins s σ H x y v u Q I rx ry h;obtain⟨i,j,rfl,rfl,q⟩:=h;obtain⟨t,rfl⟩:=rx;obtain⟨t',rfl⟩:=ry;exact lt_str (b9 I q rfl)
def zhg:OpR X (compareOp .In) (λx y H Q=>∃ i j,x=.str i/\y=.str j/\Q (.bl (!(Builtin.Str.occurrences j i 0 j.length 1).isEmpty)) H):=by
 intro pins s σ H x y v u Q I rx ry h;obtain⟨i,j,rfl,rfl,q⟩:=h;obtain⟨t,rfl⟩:=rx;obtain⟨t',rfl⟩:=ry;exact in_str (b9 I q rfl)
def E3:OpR X (compareOp .Is) (λx y H Q=>y=.non/\Q (.bl (decide (x=.non))) H):=by
 intro pins s σ H x y v u Q I rx ry h;obtain⟨rfl,q⟩:=h
 cases ry
 refine is_none_gen (b9 I q ?_)
 cases x<;>first
  |(cases rx;rfl)
  |(obtain⟨t,rfl⟩:=rx;rfl)
def OpR.or{f:ZC->ZC->Sem ZC}{r r':R2}(h:OpR X f r)(h':OpR X f r'):OpR X f (λx y H Q=>r x y H Q\/r' x y H Q):=by
 intro pins s σ H x y v u Q I rx ry q;rcases q with q|q
 ·exact h pins s σ H x y v u Q I rx ry q
 ·exact h' pins s σ H x y v u Q I rx ry q
def cf(b:Expr){op:CmpOp}(h:(op ≠ .In)⁻¹)(h2:(op ≠ .NotIn)⁻¹):behindInMarks op b=false:=by
 have e1:(op == CmpOp.In)=false:=by cases op<;>first|rfl|exact absurd rfl h
 have e2:(op == CmpOp.NotIn)=false:=by cases op<;>first|rfl|exact absurd rfl h2
 cases b<;>simp[behindInMarks,e1,e2]
def E4{op:CmpOp}{r:R2}(ho:OpR X (compareOp op) r)(ha:PE X a ta)(hb:PE X b tb)(hm:behindInMarks op b=false):PE X (.Compare a [op] [b] pos) (mP r ta tb):=by
 intro pins s σ H Q I h;exact wpAny_Compare1 (k8 ha hb I h λv u s2 x y H2 I2 rx ry q=>ho pins s2 σ H2 x y v u Q I2 rx ry q) hm
def tR(t:TE):TT:=λσ H Q=>t σ H λx H'=>∃ k,x=.bl k/\Q k H'
def E5{op:CmpOp}{r:R2}(ho:OpR X (compareOp op) r)(ha:PE X a ta)(hb:PE X b tb)(hm:behindInMarks op b=false):PT X (.Compare a [op] [b] pos) (tR (mP r ta tb)):=by
 intro pins s σ H Q I h;refine wpAny_isTrue_Compare1 (thn (ha pins s σ H _ I h) λv s1 ⟨x,H1,I1,r1,q1⟩=>thn (hb pins s1 σ H1 _ I1 q1) λu s2 ⟨y,H2,I2,r2,q2⟩ =>
  thn (ho pins s2 σ H2 x y v u _ I2 r1 r2 q2) λc s3 ⟨z,H3,I3,r3,k,e,q3⟩=>?_) hm
 subst e
 cases r3
 exact Pj ⟨H3,I3,q3⟩
def tU(r r':R2)(ta tb tc:TE):TE:=λσ H Q=>ta σ H λx H1=>tb σ H1 λy H2=>r x y H2 λz H3=>∃ k,z=.bl k /\
 (if k=true then tc σ H3 λw' H4=>r' y w' H4 Q else Q (.bl false) H3)
def E6{op op':CmpOp}{r r':R2}(ho:OpR X (compareOp op) r)(ho':OpR X (compareOp op') r')(ha:PE X a ta)(hb:PE X b tb)(hc:PE X c tc)
  (hm:lastMarks [op,op'] [b,c]=false:=by with_unfolding_all rfl):PE X (.Compare a [op,op'] [b,c] pos) (tU r r' ta tb tc):=by
 intro pins s σ H Q I h;refine Compare_chain (thn (ha pins s σ H _ I h) λv s1 ⟨x,H1,I1,r1,q1⟩=>Uo (thn (hb pins s1 σ H1 _ I1 q1) λu s2 ⟨y,H2,I2,r2,q2⟩ =>
  thn (ho pins s2 σ H2 x y v u _ I2 r1 r2 q2) λd s3 ⟨z,H3,I3,r3,k,e,q3⟩=>?_)) hm
 subst e
 cases r3
 refine Pj ?_
 cases k with
 |false=>exact ite_ff ⟨.bl false,H3,I3,rfl,q3⟩
 |true=>exact ite_tt (chain_last (thn (hc pins s3 σ H3 _ I3 q3) λw' s4 ⟨z',H4,I4,r4,q4⟩=>ho' pins s4 σ H4 y z' u w' Q I4 r2 r4 q4))
def E7{op op':CmpOp}{r r':R2}(ho:OpR X (compareOp op) r)(ho':OpR X (compareOp op') r')(ha:PE X a ta)(hb:PE X b tb)(hc:PE X c tc)
  (hm:autoParam (lastMarks [op,op'] [b,c]=false) E6._auto_1):PT X (.Compare a [op,op'] [b,c] pos) (tR (tU r r' ta tb tc)):=by
 intro pins s σ H Q I h;refine isTrue_chain (thn (ha pins s σ H _ I h) λv s1 ⟨x,H1,I1,r1,q1⟩=>test_link (thn (hb pins s1 σ H1 _ I1 q1) λu s2 ⟨y,H2,I2,r2,q2⟩ =>
  thn (ho pins s2 σ H2 x y v u _ I2 r1 r2 q2) λd s3 ⟨z,H3,I3,r3,k,e,q3⟩=>?_)) hm
 subst e
 cases r3
 refine Pj ?_
 cases k with
 |false =>
  obtain⟨k',e',q'⟩:=q3
  cases e'
  exact ite_ff ⟨H3,I3,q'⟩
 |true =>
  refine ite_tt (test_last (thn (hc pins s3 σ H3 _ I3 q3) λw' s4 ⟨z',H4,I4,r4,q4⟩=>thn (ho' pins s4 σ H4 y z' u w' _ I4 r2 r4 q4) λd' s5 Zz=>?_));obtain⟨z2,H5,I5,r5,k2,e2,q5⟩:=Zz
  subst e2
  cases r5
  exact Pj ⟨H5,I5,q5⟩
def jo(K:ZA)(x:V)(H:Hp)(k:Bool):Prop :=
 match x with
 |.non=>k=false
 |.bl b=>k=b
 |.int i=>k=(i != 0)
 |.str y=>y.length<=sizeLine/\k=((y.length:Int) != 0)
 |.byt y=>y.size<=sizeLine/\k=((y.size:Int) != 0)
 |.ref p=>(∃ xs,SqL K H p xs/\k=!xs.isEmpty)\/(∃ xs,SqT K H p xs/\k=!xs.isEmpty)\/∃ kvs,H p=some (.dK kvs)/\k=!kvs.isEmpty
 |_=>False
def E8{κ:Type}{kvs:List (κ×V)}{vs:List (κ×ZC)}(r:KV kvs vs):(!vs.isEmpty)=!kvs.isEmpty:=by
 cases r<;>rfl
def yb{xs:YE}{its:YB}(r:Vals xs its):(!its.toArray.isEmpty)=!xs.isEmpty:=by
 cases r<;>simp
def lg:(sizeLine:Nat)<2 ^ 63:=by rw[sizeLine_eq];decide
def yc:tP X (λx H Q=>∃ k,jo X.K x H k/\Q k H):=by
 intro pins s σ H x v Q I rx h;obtain⟨k,e,q⟩:=h;have hl:=lg;have hs:sizeLine=16777216:=sizeLine_eq
 cases x with
 |non =>
  cases rx
  have e':k=false:=e;subst e'
  exact truthy_none ⟨H,I,q⟩
 |bl b =>
  cases rx
  have e':k=b:=e;subst e'
  exact Pj ⟨H,I,q⟩
 |int i =>
  obtain⟨t,rfl⟩:=rx;have e':k=(i != 0):=e;subst e'
  exact PySem.P.truthy_int ⟨H,I,q⟩
 |str y =>
  obtain⟨t,rfl⟩:=rx;obtain⟨hy,e'⟩:y.length<=sizeLine/\k=((y.length:Int) != 0):=e;subst e'
  exact PySem.P.truthy_str ⋯ ⟨H,I.tok _,q⟩
 |byt y =>
  obtain⟨t,rfl⟩:=rx;obtain⟨hy,e'⟩:y.size<=sizeLine/\k=((y.size:Int) != 0):=e;subst e'
  exact PySem.W.truthy_bytes ⋯ ⟨H,I.tok _,q⟩
 |ref p =>
  cases rx
  have e':(∃ xs,SqL X.K H p xs/\k=!xs.isEmpty)\/(∃ xs,SqT X.K H p xs/\k=!xs.isEmpty)\/∃ kvs,H p=some (.dK kvs)/\k=!kvs.isEmpty:=e;rcases e' with⟨xs,hx,e'⟩|⟨xs,hx,e'⟩|⟨kvs,hx,e'⟩
  ·subst e'
   obtain⟨its,r,pl,hz⟩:=I.list hx;have hlen:=r.length;exact wpAny_truthy_list pl.isList (by simp only[O5];lia) ⟨H,I.tok _,by rw[yb r];exact q⟩
  ·subst e'
   obtain⟨its,r,pl,hz⟩:=I.tuple hx;have hlen:=r.length;exact truthy_tuple pl (by simp only[O5];lia) ⟨H,I.tok _,by rw[yb r];exact q⟩
  ·subst e'
   obtain⟨hz,hS,vs,r,m⟩:kvs.length<=sizeLine/\(p == sysModules)=false/\∃ vs,KV kvs vs/\s.heap.DictOf (d9 X.prog X.w) p vs:=I.hok p _ hx;have hlen:kvs.length=vs.length:=Paired.length r;exact wpAny_truthy_dict hS m ⋯ ⟨H,I.tok _,by rw[E8 r];exact q⟩
 |_=>exact(show False from e).elim
def E9(ha:PE X a ta)(he:∀ whole,isTrue a X.env whole=(do let v <- whole;standAt a.pos;holding [v] (truthy v))) :
  PT X a (λσ H Q=>ta σ H λx H'=>∃ k,jo X.K x H' k/\Q k H'):=by
 intro pins s σ H Q I h;exact isTrue_plain (thn (ha pins s σ H _ I h) λv s1 ⟨x,H1,I1,r1,q1⟩=>yc pins s1 σ H1 x v Q I1 r1 q1) (he _)
def zgE:OpR X (binaryOp .Add) (λx y H Q=>∃ i j,x=.str i/\y=.str j/\i.length+j.length<=sizeLine/\Q (.str (i++j)) H):=by
 intro pins s σ H x y v u Q I rx ry h;obtain⟨i,j,rfl,rfl,hz,q⟩:=h;obtain⟨t,rfl⟩:=rx;obtain⟨t',rfl⟩:=ry;exact add_str (λt' tk=>⟨.str (i++j),H,I.tok _,⟨_,rfl⟩,q⟩) hz
def iV{x:V}{us:YB}(r:Vals [x] us):∃ u,us=[u]/\RelV x u:=by
 cases r with
 |cons r1 r2=>cases r2;exact⟨_,rfl,r1⟩
def nY{x y:V}{us:YB}(r:Vals [x,y] us):∃ u w',us=[u,w']/\RelV x u/\RelV y w':=by
 cases r with
 |cons r1 r2 =>
  cases r2 with
  |cons r3 r4=>cases r4;exact⟨_,_,rfl,r1,r3⟩
def Fb:CallR X (.builtin "abs") (λxs H Q=>∃ i,xs=[.int i]/\Q (.int (if i<0 then -i else i)) H):=by
 intro pins s σ H xs us Q I r h;obtain⟨i,rfl,q⟩:=h;obtain⟨u,rfl,t,rfl⟩:=iV r;exact call_abs_int λu tk=>⟨.int (if i<0 then -i else i),H,I.tok _,⟨_,rfl⟩,q⟩
def Fc(hc:X.calm=true):CallR X (.builtin "max") (λxs H Q=>∃ i j,xs=[.int i,.int j]/\Q (.int (if j > i then j else i)) H):=by
 intro pins s σ H xs us Q I r h;obtain⟨i,j,rfl,q⟩:=h;obtain⟨u,w',rfl,⟨t,rfl⟩,⟨t',rfl⟩⟩:=nY r;refine max_two_ints (I.ok.hd hc) λh' tk k=>⟨_,H,I.kept k,?_,q⟩
 by_cases hj:j > i
 ·rw[OX hj,OX hj];exact⟨_,rfl⟩
 ·rw[O0 hj,O0 hj];exact⟨_,rfl⟩
def Fd(hc:X.calm=true):CallR X (.builtin "min") (λxs H Q=>∃ i j,xs=[.int i,.int j]/\Q (.int (if j<i then j else i)) H):=by
 intro pins s σ H xs us Q I r h;obtain⟨i,j,rfl,q⟩:=h;obtain⟨u,w',rfl,⟨t,rfl⟩,⟨t',rfl⟩⟩:=nY r;refine min_two_ints (I.ok.hd hc) λh' tk k=>⟨_,H,I.kept k,?_,q⟩
 by_cases hj:j<i
 ·rw[OX hj,OX hj];exact⟨_,rfl⟩
 ·rw[O0 hj,O0 hj];exact⟨_,rfl⟩
def Fe:CallR X (.type "int") (λxs H Q=>(∃ i,xs=[.int i]/\Q (.int i) H)\/∃ k,xs=[.bl k]/\Q (.int (if k then 1 else 0)) H):=by
 intro pins s σ H xs us Q I r h;rcases h with⟨i,rfl,q⟩|⟨k,rfl,q⟩
 ·obtain⟨u,rfl,t,rfl⟩:=iV r
  exact call_int_int ⟨.int i,H,I,⟨_,rfl⟩,q⟩
 ·obtain⟨u,rfl,r1⟩:=iV r
  cases r1
  exact call_int_bool ⟨.int (if k then 1 else 0),H,I.tok _,⟨_,rfl⟩,q⟩
end
structure ObjM(h:Heap)(x dx C:ZE)(mA:YA):Prop where
 obj:h.get? x=some (PySem.W.instObj C dx)
 ns:h.Ns1 dx mA
 ne:dx≠x
def Ff{h:Heap}{dx:ZE}{mA:YA}(n:h.Ns1 dx mA):∃ od,h.get? dx=some od/\∀ name,PySem.W.lookIn name od=some (mA name):=by
 obtain⟨o,es,ep,ho,hd,hk,_,hm⟩:=n;refine⟨o,ho,λname=>?_⟩
 have e:=hm name;unfold nsFind findBy at e;rw[<- Array.find?_toList] at e;unfold PySem.W.lookIn
 rw[hd];dsimp only;split
 ·rename_i y q
  rw[q] at e;exact congrArg some e
 ·rename_i q
  rw[q] at e;have a:es.toList.any (·.refKey)=false:=by
   rw[List.any_eq_false];intro y hy
   obtain⟨z,t,hkey⟩:=hk y (Array.mem_toList_iff.mp hy);simp[DictEntry.refKey,hkey]
  have a':¬ es.toList.any (·.refKey)=true:=by rw[a];exact Pe
  rw[O0 a'];exact congrArg some e
def ObjM.look{h:Heap}{x dx C:ZE}{mA:YA}(I:ObjM h x dx C mA):∃ od,PySem.W.InstAt h x (PySem.W.instObj C dx) C (some od)/\∀ name,PySem.W.lookIn name od=some (mA name) :=(
 let ⟨od,ho,hl⟩:=Ff I.ns
 ⟨od,⟨I.obj,rfl,rfl,ho⟩,hl⟩)
section
variable{prog:ZD}{w:ZF}{A:ZG}{E:ZC->ZB->Prop}{s:ZB}{K:ZA}{x dx C f:ZE}{mA:YA}{name:Str}{v:ZC}
def Fg{expr:Bool}{Q:ZC->ZB->Prop}(X:K.In s.heap)(I:ObjM s.heap x dx C mA)(hg:PySem.W.plainGet K C name=true)(hh:PySem.W.hasDictIn K C=true)
  (ha:PySem.W.findIn K (.ref C) name=some none)(hv:mA name=some v)(hv':PySem.W.handedIn v=true)(h:Q v { s with toks:=s.toks+1 }) :
  wpAny (model prog w) A (getAttr (.ref x) name expr) Q E s:=by
 obtain⟨od,J,hl⟩:=I.look;exact PySem.W.get_value X J (RG hg).1 (PySem.W.findObj_own hh ha rfl (by rw[hl,hv])) hv' h
def Fi{pl:Sem Bool}{Q:ZC×YB->ZB->Prop}(X:K.In s.heap)(I:ObjM s.heap x dx C mA)(hg:PySem.W.plainGet K C name=true)
  (hf:PySem.W.findIn K (.ref C) name=some (some (.ref f)))(ht:PySem.W.isFn K (.ref f)=true)(hv:mA name=none)(h:Q (.ref f,[.ref x]) s) :
  wpAny (model prog w) A (getMethod (.ref x) name pl) Q E s:=by
 obtain⟨od,J,hl⟩:=I.look;exact PySem.W.method_fn X J (RG hg).1 (RG hg).2 hf (beq_iff_eq.mp ht) (by show (PySem.W.lookIn name od).map (·.isSome)=some false;rw[hl,hv];rfl) h
def Fj {ns:List Str} {Q:Unit->ZB->Prop} (X:K.In s.heap) (I:ObjM s.heap x dx C mA)
  (hs:PySem.W.findIn K (.ref C) "__setattr__"=some (some (.builtin "object.__setattr__"))) (hp:PySem.W.plainOver K C=true) (ht:PySem.W.takerIn K C name=some none) (hh:PySem.W.hasDictIn K C=true)
  (hw:PySem.Within mA ns) (hsz:ns.length<=sizeLine)
  (h:∀ h',ObjM h' x dx C (λy=>if y=name then some v else mA y)->Heap.SameBut dx s.heap h'->Q () { s with heap:=h',toks:=s.toks+2 }) :
  wpAny (model prog w) A (setAttr (.ref x) name v) Q E s:=by
 obtain⟨od,J,hl⟩:=I.look;refine PySem.W.set_plain X J hs (PySem.W.osa_open (s:={ s with toks:=s.toks+1 }) (r:=none) X J hp ht λb=>?_)
 obtain⟨cd,hc,hd'⟩:=PySem.W.any_some hh;have hx:s.heap.get? x=some ⟨.ref C,some dx,.plain,#[]⟩:=I.obj;refine OT (O1 (OT (OT (wpAny_loadPart hx (OT (PySem.W.Looks.here (s:={ s with toks:=s.toks+1 }) (PySem.W.looks_clsIn X hc) ?_))))))
 rw[hd'];refine O1 (a:=some dx) (OT (O1 (OT ?_)))
 refine wpAny_nsSet1 (s:={ s with toks:=s.toks+1 }) I.ns λh' hn2 hs2=>?_
 obtain⟨oD,esD,epD,hoD,hdD,hcD⟩:=hn2.count (PySem.Within.cons name v hw);refine OT (wpAny_lookBehind hoD (by rw[hdD];exact pastItsLine_dict (OW hcD (by rw[PU];lia))) ?_)
 exact O1 (h _ ⟨(hs2.2 _ (Ne.symm I.ne)).trans I.obj,hn2,I.ne⟩ hs2)
def Fk {R:Result->ZB->Prop} {vs:YB} {kw:List (Str×ZC)} (X:K.In s.heap) (hm:PySem.W.makesIn K C=true)
  (hi:PySem.W.findIn K (.ref C) "__init__"=some (some (.ref f))) (hf:PySem.W.typeIn K (.ref f)=some (.type "function"))
  (h:codeAny (model prog w) (A.under (.builtin "type.__call__" ⟨.ref C::vs,kw⟩)) (.call (.ref f) ⟨.ref (s.heap.objs.size+1)::vs,kw⟩) (PySem.W.InitBack (s.heap.objs.size+1) R)
   { s with heap:=(s.heap.push PySem.W.emptyDict).push (PySem.W.instObj C s.heap.objs.size) }) :
  codeAny (model prog w) A (.call (.ref C) ⟨vs,kw⟩) R s:=by
 obtain⟨hh,g,d,t,os⟩:=s;exact PySem.W.make_core (PySem.W.makes_of X hm) (PySem.W.looks_findIn X hi) (λself=>PySem.W.bind_fn X self hf) (.inl rfl) h
end
def bz(f:Str)(v:V):List (Str×V)->List (Str×V)
 |[]=>[(f,v)]
 |(g,x)::r=>if g=f then(g,v)::r else(g,x)::bz f v r
theorem qf(f g:Str)(v:V):∀ fs:List (Str×V),(bz f v fs).lookup g=if g=f then some v else fs.lookup g
 |[]=>by
  show List.lookup g [(f,v)]=_
  by_cases h:g=f
  ·have hb:(g == f)=true:=beq_iff_eq.mpr h
   simp only[List.lookup,hb,OX h]
  ·have hb:(g == f)=false:=beq_eq_false_iff_ne.mpr h
   simp only[List.lookup,hb,O0 h]
 |(k,x)::r=>by
  have ih:=qf f g v r;rw[show bz f v ((k,x)::r)=(if k=f then(k,v)::r else(k,x)::bz f v r) from rfl];by_cases hk:k=f
  ·rw[OX hk]
   by_cases h:g=k
   ·have hb:(g == k)=true:=beq_iff_eq.mpr h
    simp only[List.lookup,hb,OX (h.trans hk)]
   ·have hb:(g == k)=false:=beq_eq_false_iff_ne.mpr h
    simp only[List.lookup,hb,O0 (λe:g=f=>h (e.trans hk.symm))]
  ·rw[O0 hk]
   by_cases h:g=k
   ·have hb:(g == k)=true:=beq_iff_eq.mpr h
    simp only[List.lookup,hb,O0 (λe:g=f=>hk (h.symm.trans e))]
   ·have hb:(g == k)=false:=beq_eq_false_iff_ne.mpr h
    simp only[List.lookup,hb]
    exact ih
theorem tV(f:Str)(v:V):∀ fs:List (Str×V),f∈(bz f v fs).map (·.1)/\∀ g,g∈fs.map (·.1)->g∈(bz f v fs).map (·.1)
 |[]=>⟨by simp[bz],λg h=>by simp at h⟩
 |(k,x)::r=>by
  obtain⟨i1,i2⟩:=tV f v r;rw[show bz f v ((k,x)::r)=(if k=f then(k,v)::r else(k,x)::bz f v r) from rfl];by_cases hk:k=f
  ·rw[OX hk]
   subst hk;exact⟨by simp,λg h=>by simpa using h⟩
  ·rw[O0 hk]
   refine⟨?_,λg h=>?_⟩
   ·rw[O8]
    exact Pt _ i1
   ·rw[O8] at h ⊢
    rcases Pb.mp h with e|e
    ·exact Pb.mpr (.inl e)
    ·exact Pt _ (i2 g e)
theorem yd(f:Str)(v:V):∀ fs:List (Str×V),(bz f v fs).length<=fs.length+1
 |[]=>by simp[bz]
 |(k,x)::r=>by
  have ih:=yd f v r;rw[show bz f v ((k,x)::r)=(if k=f then(k,v)::r else(k,x)::bz f v r) from rfl];by_cases hk:k=f
  ·rw[OX hk,PU,PU];lia
  ·rw[O0 hk,PU,PU];lia
def RelO.some_of{v:V}{o:Option ZC}(r:RelO (some v) o):∃ u,o=some u/\RelV v u:=by
 cases o with
 |none=>exact(show False from r).elim
 |some u=>exact⟨u,rfl,r⟩
def RelO.none_of{o:Option ZC}(r:RelO none o):o=none:=by
 cases o with
 |none=>rfl
 |some u=>exact(show False from r).elim
def Fl{v:V}{u:ZC}(r:RelV v u):PySem.W.handedIn u=true:=by
 cases v with
 |non=>cases (show u=Value.none from r);rfl
 |bl b=>cases (show u=Value.bool b from r);rfl
 |int i=>obtain⟨t,e⟩:=(show ∃ t,u=Value.int i t from r);cases e;rfl
 |str x=>obtain⟨t,e⟩:=(show ∃ t,u=Value.str x t from r);cases e;rfl
 |byt b=>obtain⟨t,e⟩:=(show ∃ t,u=Value.bytes b t from r);cases e;rfl
 |flt b=>obtain⟨t,e⟩:=(show ∃ t,u=Value.float b t from r);cases e;rfl
 |ref a=>cases (show u=Value.ref a from r);rfl
 |ty n=>cases (show u=Value.type n from r);rfl
section
variable{P:ZD}{w:ZF}{H H':Hp}{h h':Heap}{a C dx:ZE}{fs fs':List (Str×V)}
def qg(hok:HOk P w H h)(e:H a=some (.ins C dx fs)):∃ mA,ObjM h a dx C mA/\(∀ f,RelO (fs.lookup f) (mA f))/\PySem.Within mA (fs.map (·.1))/\fs.length<=1000/\H dx=some (.own a):=by
 obtain⟨d,z,ne,ob,mA,n,r,q⟩:=(show ObjOk P w H h a (.ins C dx fs) from hok a _ e)
 exact⟨mA,⟨ob,n,ne⟩,r,q,z,d⟩
end
structure Cls(K:ZA)(C:ZE):Prop where
 pg:PySem.W.plainGet K C Str.empty=true
 hd:PySem.W.hasDictIn K C=true
 po:PySem.W.plainOver K C=true
 sa:PySem.W.findIn K (.ref C) "__setattr__"=some (some (.builtin "object.__setattr__"))
def Cls.get{K:ZA}{C:ZE}(c:Cls K C)(f:Str):PySem.W.plainGet K C f=true:=(c.pg)
def NoAttr(K:ZA)(C:ZE)(f:Str):Prop:=PySem.W.findIn K (.ref C) f=some none
def NoAttr.taker{K:ZA}{C:ZE}{f:Str}(n:NoAttr K C f):PySem.W.takerIn K C f=some none:=by
 unfold PySem.W.takerIn;rw[show PySem.W.findIn K (.ref C) f=some none from n];rfl
structure iw(K:ZA)(C:ZE)(m:Str)(f:ZE):Prop where
 at_:PySem.W.findIn K (.ref C) m=some (some (.ref f))
 fn:PySem.W.isFn K (.ref f)=true
 kp:PySem.W.keepIn K (.ref f)=true
section
variable{X:Cx}{pins:List (ZE×Obj)}{σ:St}{H:Hp}{s:ZB}{a C dx:ZE}{fs:List (Str×V)}{f:Str}{v:V}{A:ZG}{E:ZC->ZB->Prop}
def Fm{b:Bool}{Q:ZC->ZB->Prop}(I:Inv X pins σ H s)(e:H a=some (.ins C dx fs))(c:Cls X.K C)(n:NoAttr X.K C f)(l:fs.lookup f=some v)
  (h:∀ u s',Inv X pins σ H s'->RelV v u->Q u s'):wpAny (model X.prog X.w) A (getAttr (.ref a) f b) Q E s:=by
 obtain⟨mA,O,r,_,_,_⟩:=qg I.hok e;obtain⟨u,hu,ru⟩:=RelO.some_of (v:=v) (o:=mA f) (by rw[<- l];exact r f)
 exact Fg I.kIn O (c.get f) c.hd n hu (Fl ru) (h u _ (I.tok _) ru)
def ye{m:Str}{g:ZE}{pl:Sem Bool}{Q:ZC×YB->ZB->Prop}(I:Inv X pins σ H s)(e:H a=some (.ins C dx fs))(c:Cls X.K C)(k:iw X.K C m g)(l:fs.lookup m=none)
  (h:Q (.ref g,[.ref a]) s):wpAny (model X.prog X.w) A (getMethod (.ref a) m pl) Q E s:=by
 obtain⟨mA,O,r,_,_,_⟩:=qg I.hok e;have hn:mA m=none:=RelO.none_of (by rw[<- l];exact r m)
 exact Fi I.kIn O (c.get m) k.at_ k.fn hn h
def Fo{y:V}{u:ZC}{Q:Unit->ZB->Prop}(I:Inv X pins σ H s)(e:H a=some (.ins C dx fs))(c:Cls X.K C)(n:NoAttr X.K C f)(hl:fs.length<1000)(ry:RelV y u)
  (h:∀ s',Inv X pins σ (upd H a (.ins C dx (bz f y fs))) s'->Q () s'):wpAny (model X.prog X.w) A (setAttr (.ref a) f u) Q E s:=by
 obtain⟨mA,O,r,wi,_,ho⟩:=qg I.hok e;have hz:(fs.map (·.1)).length<=sizeLine:=by rw[O2,sizeLine_eq];lia
 refine Fj I.kIn O c.sa c.po n.taker c.hd wi hz λh' O' sb=>h _ ?_
 have hd:∃ o,h'.get? dx=some o:=let ⟨o,_,_,e',_⟩:=O'.ns;⟨o,e'⟩
 refine I.write (x:=a) (e:=dx) (by rw[e];exact True.intro) (.inr ho) (λb q hb z=>(sb.2 b hb).trans z) hd ?_
 refine⟨by rw[bg O.ne];exact ho,?_,O.ne,O'.obj,_,O'.ns,λg=>?_,λg hg=>?_⟩
 ·have:=yd f y fs;lia
 ·show RelO ((bz f y fs).lookup g) (if g=f then some u else mA g)
  rw[qf];by_cases q:g=f
  ·rw[OX q,OX q];exact ry
  ·rw[O0 q,O0 q];exact r g
 ·by_cases q:g=f
  ·rw[q];exact(tV f y fs).1
  ·refine(tV f y fs).2 g (wi g λz=>hg ?_)
   show (if g=f then some u else mA g)=none
   rw[O0 q];exact z
def Inv.made(I:Inv X pins σ H s):Inv X pins σ (upd (upd H s.heap.objs.size (.own (s.heap.objs.size+1))) (s.heap.objs.size+1) (.ins C s.heap.objs.size []))
  { s with heap:=(s.heap.push PySem.W.emptyDict).push (PySem.W.instObj C s.heap.objs.size) }:=by
 have e1:(s.heap.push PySem.W.emptyDict).get? s.heap.objs.size=some PySem.W.emptyDict:=Pa s.heap rfl;have e2:((s.heap.push PySem.W.emptyDict).push (PySem.W.instObj C s.heap.objs.size)).get? (s.heap.objs.size+1)=some (PySem.W.instObj C s.heap.objs.size):=by
  have:=Pa (s.heap.push PySem.W.emptyDict) (o:=PySem.W.instObj C s.heap.objs.size) rfl;rwa[Te] at this
 have e3:(s.heap.push PySem.W.emptyDict).Ns s.heap.objs.size (λ_=>none):=⟨PySem.W.emptyDict,#[],_,e1,rfl,(λe he=>absurd he 's'),λ_=>rfl⟩
 have I1:=I.laid (a:=s.heap.objs.size) (o:=.own (s.heap.objs.size+1)) (h':=s.heap.push PySem.W.emptyDict) (t':=s.toks) (λb u q=>OZ _ q) (OV _) ⟨_,e1⟩;refine I1.laid (a:=s.heap.objs.size+1) (o:=.ins C s.heap.objs.size []) (t':=s.toks) (λb u q=>OZ _ q) (Sv (Te _ _)) ?_
 have ne:s.heap.objs.size≠s.heap.objs.size+1:=Pq (Rx _);refine⟨by rw[bg ne,dH],Po _,ne,e2,λ_=>none,(Heap.Ns1.of_empty e3).at λo q=>OZ _ q,λ_=>True.intro,λy hy=>absurd rfl hy⟩
def Fp{prog:ZD}{w:ZF}{env:Env}{e:Expr}{f:Str}{pos:Pos}{s:ZB}{Q:ZC->ZB->Prop}(hb:attributeBase e f env (eval e env)=eval e env)
  (h:wpAny (model prog w) A (eval e env) (λo s₁=>wpAny (model prog w) A (getAttr o f true) Q E s₁) E s):wpAny (model prog w) A (eval (.Attribute e f pos) env) Q E s :=(
 Attribute_any_ h (by rw[arm_eval_Attribute,hb]))
end
def tW(K:ZA)(ta:TE)(f:Str):TE:=λσ H Q=>ta σ H λx H1=>∃ a C dx fs v,x=.ref a/\H1 a=some (.ins C dx fs)/\Cls K C/\NoAttr K C f/\fs.lookup f=some v/\Q v H1
def sFld(K:ZA)(ta tv:TE)(f:Str):TS:=λD σ H=>tv σ H λy H1=>ta σ H1 λx H2=>∃ a C dx fs,x=.ref a/\H2 a=some (.ins C dx fs)/\Cls K C/\NoAttr K C f/\fs.length<1000 /\
 D.nx σ (upd H2 a (.ins C dx (bz f y fs)))
section
variable{X:Cx}{o e value:Expr}{f:Str}{pos pos' tpos:Pos}{ta tv:TE}
def Fq(he:PE X e ta)(hb:attributeBase e f X.env (eval e X.env)=eval e X.env):PE X (.Attribute e f pos) (tW X.K ta f):=by
 intro pins s σ H Q I h;refine Fp hb (thn (he pins s σ H _ I h) λu s1 Zz=>?_);obtain⟨x,H1,I1,rx,a,C,dx,fs,v,ex,ea,c,n,l,q⟩:=Zz
 subst ex;obtain rfl:u=Value.ref a:=rx
 exact Fm I1 ea c n l λu' s2 I2 ru=>⟨v,H1,I2,ru,q⟩
def Fs(ha:PE X o ta)(hv:PE X value tv)(hs:swapsWith value (some (.Attribute o f pos')) pos.line X.env=pure false):PS X (.Assign [.Attribute o f pos'] value pos) (sFld X.K ta tv f):=by
 intro pins s σ H D I h;refine plainObj_wpAny_Assign_Attribute (thn (hv pins s σ H _ I h) λu s1 ⟨y,H1,I1,ry,q⟩=>thn (ha pins s1 σ H1 _ I1 q) λov s2 Zz=>?_) hs;obtain⟨x,H2,I2,rx,a,C,dx,fs,ex,ea,c,n,l,q2⟩:=Zz
 subst ex;obtain rfl:ov=Value.ref a:=rx
 exact Fo I2 ea c n l ry λs3 I3=>⟨σ,_,I3,q2⟩
end
section
variable{X:Cx}{pins:List (ZE×Obj)}{σ:St}{H:Hp}{s:ZB}{A:ZG}{E:ZC->ZB->Prop}{Q:ZC->ZB->Prop}{c:ZC}{b:Bool}
inductive cH (K:ZA) (H:Hp):V->ZC->Prop where
 |non:cH K H .non (.type "NoneType")
 |bl (x:Bool):cH K H (.bl x) (.type "bool")
 |int (i:Int):cH K H (.int i) (.type "int")
 |str (x:Str):cH K H (.str x) (.type "str")
 |flt (x:UInt64):cH K H (.flt x) (.type "float")
 |lst {a:ZE} {xs:YE} (e:H a=some (.lst xs)):cH K H (.ref a) (.type "list")
 |frz {a:ZE} {o:Obj} {xs:YE} (e:H a=some (.frz o (.lst xs))):cH K H (.ref a) (.type "list")
 |tup {a:ZE} {xs:YE} (e:H a=some (.tup xs)):cH K H (.ref a) (.type "tuple")
 |dK {a:ZE} {kvs:List (aF×V)} (e:H a=some (.dK kvs)):cH K H (.ref a) (.type "dict")
 |dT {a:ZE} {xc:Option (List ZE)} {kvs:List (List aF×V)} (e:H a=some (.dT xc kvs)):cH K H (.ref a) (.type "dict")
 |ins {a C dx:ZE} {fs:List (Str×V)} (e:H a=some (.ins C dx fs)) (cl:Cls K C) (ha:PySem.W.findIn K (.ref C) "__class__"=some (some (.builtin "object.__class__")))
   (hn:PySem.W.specialIn K (.builtin "object.__class__") "__get__"=some (some (.builtin "getset_descriptor.__get__"))) (htk:PySem.W.takesIn K (.builtin "object.__class__")=some true)
   (hm:PySem.W.mroIn K C (.type "object")=some true):cH K H (.ref a) (.ref C)
def Ft{x:V}{u t:ZC}(I:Inv X pins σ H s)(rx:RelV x u)(ty:cH X.K H x t)(e:PySem.W.kitOne X.K t c=some b)(h:∀ tk,Q (.bool b) { s with toks:=tk }) :
  wpAny (model X.prog X.w) A (call (.builtin "isinstance") [u,c]) Q E s:=by
 cases ty with
 |non=>cases (show u=Value.none from rx);exact PX PySem.W.kitx_none I.kIn True.intro e (λz=>nomatch z) h
 |bl y=>cases (show u=Value.bool y from rx);exact PX PySem.W.kitx_bool I.kIn True.intro e (λz=>nomatch z) h
 |int i=>obtain⟨t,q⟩:=(show ∃ t,u=Value.int i t from rx);cases q;exact PX PySem.W.kitx_int I.kIn True.intro e (λz=>nomatch z) h
 |str y=>obtain⟨t,q⟩:=(show ∃ t,u=Value.str y t from rx);cases q;exact PX PySem.W.kitx_str I.kIn True.intro e (λz=>nomatch z) h
 |flt y=>obtain⟨t,q⟩:=(show ∃ t,u=Value.float y t from rx);cases q;exact PX PySem.W.kitx_float I.kIn True.intro e (λz=>nomatch z) h
 |@lst a xs ea =>
  cases (show u=Value.ref a from rx)
  obtain⟨_,_,n,_,h1⟩:=(show ObjOk X.prog X.w H s.heap a (.lst xs) from I.hok a _ ea)
  exact PX RX I.kIn ⟨_,h1,rfl⟩ e (λz=>nomatch z) h
 |@frz a ob xs ea =>
  cases (show u=Value.ref a from rx)
  obtain⟨_,_,_,n,_,h1⟩:=(show ObjOk X.prog X.w H s.heap a (.frz ob (.lst xs)) from I.hok a _ ea)
  exact PX RX I.kIn ⟨_,h1,rfl⟩ e (λz=>nomatch z) h
 |@tup a xs ea =>
  cases (show u=Value.ref a from rx)
  obtain⟨_,_,_,p⟩:=(show ObjOk X.prog X.w H s.heap a (.tup xs) from I.hok a _ ea)
  obtain⟨o,h1,h2,_⟩:=p;exact PX PySem.W.kitx_tuple I.kIn ⟨o,h1,h2⟩ e (λz=>nomatch z) h
 |@dK a kvs ea =>
  cases (show u=Value.ref a from rx)
  obtain⟨_,_,vs,_,p⟩:=(show ObjOk X.prog X.w H s.heap a (.dK kvs) from I.hok a _ ea)
  obtain⟨o,es,ep,h1,h2,_⟩:=p;exact PX T7 I.kIn ⟨o,h1,h2.1⟩ e (λz=>nomatch z) h
 |@dT a xc kvs ea =>
  cases (show u=Value.ref a from rx)
  obtain⟨_,_,xs,_,o,es,ep,h1,h2,_⟩:=(show ObjOk X.prog X.w H s.heap a (.dT xc kvs) from I.hok a _ ea)
  exact PX T7 I.kIn ⟨o,h1,h2.1⟩ e (λz=>nomatch z) h
 |@ins a C dx fs ea cl ha hn htk hm =>
  cases (show u=Value.ref a from rx)
  obtain⟨mA,O,_⟩:=qg I.hok ea;obtain⟨od,J,_⟩:=O.look;exact PX (PySem.W.kitx_own (cl.get _) cl.hd ha hn htk hm) I.kIn J e (λz=>nomatch z) h
end
structure Room(k:Nat)(A:ZG):Prop where
 hd:A.handled=none
 dp:A.depth+3*k+5<recursionLimit
 un:A.units+16*k+200<cLine
def Room.mono{j k:Nat}{A:ZG}(r:Room k A)(h:j<=k):Room j A:=(⟨r.hd,by have:=r.dp;lia,by have:=r.un;lia⟩)
def Room.deeper{k:Nat}{A:ZG}(r:Room (k+1) A)(env:Env):Room k (A.deeper env) :=(
 ⟨r.hd,by have:=r.dp;show A.depth+1+3*k+5<_;lia,by have:=r.un;show A.units+3+16*k+200<_;lia⟩)
def Fu{A:ZG}{C:ZE}{us:YB}{kw:List (Str×ZC)}:(A.under (.builtin "type.__call__" ⟨.ref C::us,kw⟩)).depth=A.depth+1:=by
 first|rfl|simp[Around.under,Code.weight,Code.isCreation,Code.isGuard,Code.isCaller,Code.frames,Code.isFrame,guardIds]
def Fv{A:ZG}{C:ZE}{us:YB}{kw:List (Str×ZC)}:(A.under (.builtin "type.__call__" ⟨.ref C::us,kw⟩)).units=A.units+1:=by
 first|rfl|simp[Around.under,Code.cUnits,Code.frames,Code.isFrame]
def Room.make{k:Nat}{A:ZG}(r:Room (k+1) A)(C:ZE)(us:YB)(kw:List (Str×ZC)):Room k (A.under (.builtin "type.__call__" ⟨.ref C::us,kw⟩)) :=(
 ⟨r.hd,by have:=r.dp;rw[Fu];lia,by have:=r.un;rw[Fv];lia⟩)
def Room.depth{k:Nat}{A:ZG}(r:Room k A):A.depth<recursionLimit:=by have:=r.dp;lia
def tX:TA:=λ_ H Q=>Q [] H
def Fw(ta:TE)(tr:TA):TA:=λσ H Q=>ta σ H λx H1=>tr σ H1 λxs H2=>Q (x::xs) H2
section
variable{X:Cx}{e:Expr}{es:YD}{te:TE}{t:TA}{pos:Pos}
def nZ:PA X [] tX:=(λ_ _ _ _ H Q I h=>Rj ⟨[],H,I,.nil,h⟩)
def kg(ha:PE X e te)(hr:PA X es t)(hs:‹qE1 e es X.env›):PA X (e::es) (Fw te t):=by
 intro pos pins s σ H Q I h;rw[hs];show wpAny _ _ (spliced ((false,eval e X.env)::backTo pos (starEach es X.env))) _ _ s
 refine QI (thn (ha pins s σ H _ I h) λu s1 Zz=>?_);obtain⟨x,H1,I1,r1,q1⟩:=Zz
 exact thn (hr pos pins s1 σ H1 _ I1 q1) λus s2 ⟨xs,H2,I2,r2,q2⟩=>⟨x::xs,H2,I2,.cons r1 r2,q2⟩
def tY(t:TA):TE:=λσ H Q=>t σ H λxs H1=>xs.length<=sizeLine/\∀ p,H1 p=none->Q (.ref p) (upd H1 p (.tup xs))
def tZ(t:TA):TE:=λσ H Q=>t σ H λxs H1=>xs.length<=sizeLine/\∀ p,H1 p=none->Q (.ref p) (upd H1 p (.lst xs))
def Fx{x1}(h:PA X es t):PE X (.Tuple es x1 pos) (tY t):=by
 intro pins s σ H Q I hq;refine wpAny_Tuple_spliced (thn (h pos pins s σ H _ I hq) λus s1 ⟨xs,H1,I1,r,z,q⟩=>⟨by rw[<- r.length];exact z,?_⟩)
 have hf:H1 s1.heap.objs.size=none:=I1.hok.fresh (OV _);refine⟨.ref s1.heap.objs.size,upd H1 s1.heap.objs.size (.tup xs),I1.laid (t':=s1.toks) (λb u e=>OZ _ e) (OV _) ?_,rfl,q _ hf⟩
 exact⟨z,us,r,⟨_,Pa _ rfl,rfl,_,rfl⟩⟩
def t7(h:PA X es t):PE X (.List es pos) (tZ t):=by
 intro pins s σ H Q I hq;refine wpAny_List_spliced (thn (h pos pins s σ H _ I hq) λus s1 ⟨xs,H1,I1,r,z,q⟩=>⟨by rw[<- r.length];exact z,?_⟩)
 have hf:H1 s1.heap.objs.size=none:=I1.hok.fresh (OV _);refine⟨.ref s1.heap.objs.size,upd H1 s1.heap.objs.size (.lst xs),I1.laid (t':=s1.toks) (λb u e=>OZ _ e) (OV _) ?_,rfl,q _ hf⟩
 exact⟨z,us,0,r,Pa _ rfl⟩
end
abbrev Sp:=YE->Hp->VK->XK->Prop
abbrev fO:=List Env->Hp->ZB->XK->ZC->ZB->Prop
structure Env0(P:ZD)(w:ZF)(K:ZA)(mg:YA)(base:Heap)(A:ZG)(outer:List Env)(s:ZB)(H:Hp):Prop where
 frames:A.frames=some outer
 mod:Mod K mg base
 bs:∀ b o,base.get? b=some o->s.heap.get? b=some o/\H b=none
 bsz:base.objs.size<=s.heap.objs.size
 funs:s.heap.FunFrames base outer
 frf:∀ b∈dU outer,H b=none
 hok:HOk P w H s.heap
 bare:AllBare s.gens
def CE(outer:List Env)(P:ZD)(w:ZF)(H:Hp)(s:ZB)(Q:VK)(u:ZC)(s':ZB):Prop :=
 ∃ v H',s'.os=s.os/\AllBare s'.gens/\Un (dU outer) [] H H' s.heap s'.heap/\HOk P w H' s'.heap/\RelV v u/\Q v H'
def CR(CX:fO)(outer:List Env)(P:ZD)(w:ZF)(H:Hp)(s:ZB)(Q:VK)(E:XK)(r:Result)(s':ZB):Prop :=
 match r with
 |.ok (.ret u)=>CE outer P w H s Q u s'
 |.ok _=>False
 |.error e=>CX outer H s E e s'
structure FnOk(P:ZD)(w:ZF)(K:ZA)(mg:YA)(base:Heap)(CX:fO)(k:Nat)(f:ZE)(fd:FuncData)(ps:List Str)(sp:Sp):Prop where
 len:∀ vs H Q E,sp vs H Q E->vs.length=ps.length
 run:∀ (A:ZG) (outer:List Env) (s:ZB) (H:Hp) (args:Args) (us:YB) (vs:YE) (Q:VK) (E:XK),Room k A->Env0 P w K mg base A outer s H->BindsTo s fd args (ps.zip us)->Vals vs us->sp vs H Q E ->
  codeAny (model P w) A (.call (.ref f) args) (CR CX outer P w H s Q E) s
def FnOk.imp{P:ZD}{w:ZF}{K:ZA}{mg:YA}{base:Heap}{CX:fO}{k:Nat}{f:ZE}{fd:FuncData}{ps:List Str}{sp sp':Sp}(F:FnOk P w K mg base CX k f fd ps sp)
  (h:∀ vs H Q E,sp' vs H Q E->sp vs H Q E):FnOk P w K mg base CX k f fd ps sp' :=(
 ⟨λvs H Q E q=>F.len vs H Q E (h _ _ _ _ q),λA outer s H args us vs Q E hr he hb hv hs=>F.run A outer s H args us vs Q E hr he hb hv (h _ _ _ _ hs)⟩)
def Env0.make{P:ZD}{w:ZF}{K:ZA}{mg:YA}{base:Heap}{A:ZG}{outer:List Env}{s:ZB}{H:Hp}(e:Env0 P w K mg base A outer s H)(C:ZE)(us:YB)(kw:List (Str×ZC)) :
  Env0 P w K mg base (A.under (.builtin "type.__call__" ⟨.ref C::us,kw⟩)) outer s H:=(⟨by first|exact e.frames|(simpa[Around.under,Code.envs,Code.isFrame,pushEnvs] using e.frames),e.mod,e.bs,e.bsz,e.funs,e.frf,e.hok,e.bare⟩)
section
variable{X:Cx}{pins:List (ZE×Obj)}{σ:St}{H:Hp}{s s':ZB}
def Inv.env0(I:Inv X pins σ H s):Env0 X.prog X.w X.K X.mg X.base X.A X.stack s H :=(
 ⟨I.ok.frames,I.ok.mod,I.bs,OW I.ok.bsz I.sz,I.stack,I.stkFree,I.hok,I.bare⟩)
def Inv.after{Q:VK}{u:ZC}(I:Inv X pins σ H s)(h:CE X.stack X.prog X.w H s Q u s'):EP X pins σ Q u s':=by
 obtain⟨v,H',os,bare,un,hok,r,q⟩:=h;obtain⟨hh,g,d,t,os'⟩:=s';obtain rfl:os'=s.os:=os;exact⟨v,H',I.call (h':=hh) (g':=g) (d':=d) (t':=t) (ch:=[]) un hok bare (λb z=>absurd z 's'),r,q⟩
end
def Binds(K:ZA)(fd:FuncData)(ps:List Str)(ds:YB):Prop :=
 ∀ (s:ZB) (us:YB),K.In s.heap->(us++ds).length=ps.length->BindsTo s fd ⟨us,[]⟩ (ps.zip (us++ds))
def Binds.all{K:ZA}{fd:FuncData}{ps:List Str}(h:∀ us:YB,us.length=ps.length->bindArgs fd ⟨us,[]⟩=pure (ps.zip us)):Binds K fd ps []:=(λs us _ hl=>by
 rw[Q3] at hl ⊢;exact .of_eq (h us hl))
def Fy(CX:fO)(X:Cx)(E:XK):Prop:=∀ (pins:List (ZE×Obj)) (σ:St) (H:Hp) (s:ZB) (e:ZC) (s':ZB),Inv X pins σ H s->CX X.stack H s E e s'->X.xe e s'
section
variable{X:Cx}{CX:fO}{k:Nat}{f C:ZE}{fd:FuncData}{ps:List Str}{sp:Sp}{dvs:YE}{ds:YB}{E:XK}{x m:Str}{p pos apos:Pos}{e o:Expr}{es:YD}{ta:TE}{t:TA}
structure Mk(K:ZA)(C f:ZE):Prop where
 makes:PySem.W.makesIn K C=true
 init:PySem.W.findIn K (.ref C) "__init__"=some (some (.ref f))
 fn:PySem.W.isFn K (.ref f)=true
 kp:PySem.W.keepIn K (.ref C)=true
end
section
variable{X:Cx}{CX:fO}{k:Nat}{f C:ZE}{fd:FuncData}{ps ks:List Str}{sp:Sp}{E:XK}{x m:Str}{p pos apos kpos:Pos}{e o:Expr}{es:YD}{kws:List Keyword}{te ta:TE}{t tk:TA}{nm:Option Str}
variable{g:YB->YB->YB}{gV:YE->YE->YE}
end
structure aC(N P:List Str)(sc:Scope):Prop where
 kind:sc.kind=.function
 co:sc.isCoroutine=false
 gen:sc.isGenerator=false
 nd:N.Nodup
 pre:N.take P.length=P
 par:∀ x∈P,sc.names.lookup x=some .local\/sc.names.lookup x=some .cell
 nofree:∀ y∈sc.names,y.2 ≠ .free
theorem yf{kindOf:Str->Option NameKind}{x:Str}:∀ {binds:List (Str×ZC)} {m:YA},(∀ v,(x,v)∉binds)->bindL kindOf binds m x=m x
 |[],_,_=>rfl
 |(n,v)::r,m,h=>by
  unfold bindL;rw[yf λw hw=>h w (Pt _ hw)];split
  ·have:x≠n:=by rintro rfl;exact h v PK
   simp[this]
  ·rfl
theorem yg{kindOf:Str->Option NameKind}{x:Str}:∀ {binds:List (Str×ZC)} {m:YA},(∀ v,(x,v)∉binds)->bindC kindOf binds m x=m x
 |[],_,_=>rfl
 |(n,v)::r,m,h=>by
  unfold bindC;rw[yg λw hw=>h w (Pt _ hw)];split
  ·rfl
  ·have:x≠n:=by rintro rfl;exact h v PK
   simp[this]
theorem yh{kindOf:Str->Option NameKind}{x:Str}{v:ZC}:∀ {P:List Str} {vs:YB} {i:Nat} {m:YA},P.Nodup->P[i]?=some x->vs[i]?=some v->kindOf x=some .local ->
  bindL kindOf (P.zip vs) m x=some v
 |[],_,_,_,_,h,_,_=>by simp at h
 |_::_,[],_,_,_,_,h,_=>by simp at h
 |p::P,w::vs,0,m,nd,h1,h2,hk=>by
  simp at h1 h2;subst h1;subst h2
  show bindL kindOf ((p,w)::P.zip vs) m p=_
  unfold bindL;rw[yf λv hv=>(PN.mp nd).1 (SN hv).1,OX hk];simp
 |p::P,w::vs,i+1,m,nd,h1,h2,hk=>by
  show bindL kindOf ((p,w)::P.zip vs) m x=_
  unfold bindL;exact yh (i:=i) (PN.mp nd).2 (by simpa using h1) (by simpa using h2) hk
theorem yi{kindOf:Str->Option NameKind}{x:Str}{v:ZC}:∀ {P:List Str} {vs:YB} {i:Nat} {m:YA},P.Nodup->P[i]?=some x->vs[i]?=some v->kindOf x≠some .local ->
  bindC kindOf (P.zip vs) m x=some v
 |[],_,_,_,_,h,_,_=>by simp at h
 |_::_,[],_,_,_,_,h,_=>by simp at h
 |p::P,w::vs,0,m,nd,h1,h2,hk=>by
  simp at h1 h2;subst h1;subst h2
  show bindC kindOf ((p,w)::P.zip vs) m p=_
  unfold bindC;rw[yg λv hv=>(PN.mp nd).1 (SN hv).1,O0 hk];simp
 |p::P,w::vs,i+1,m,nd,h1,h2,hk=>by
  show bindC kindOf ((p,w)::P.zip vs) m x=_
  unfold bindC;exact yi (i:=i) (PN.mp nd).2 (by simpa using h1) (by simpa using h2) hk
def start(N:List Str)(vs:YE):St:=vs.map some++List.replicate (N.length-vs.length) none
def bX(CX:fO)(P:ZD)(w:ZF)(K:ZA)(mg:YA)(base:Heap)(N:List Str)(qual:Str)(scope:Scope)(f:ZE)(cd:ZC)(A:ZG)(outer:List Env)(s:ZB)(H:Hp)(E:XK):Cx where
 prog:=P
 w:=w
 K:=K
 mg:=mg
 base:=base
 A:=A.deeper (envOfC qual scope s.heap.objs.size f cd)
 N:=N
 s₀:=s
 H₀:=H
 env:=envOfC qual scope s.heap.objs.size f cd
 outer:=outer
 stack:=envOfC qual scope s.heap.objs.size f cd::outer
 ex:=[]
 calm:=true
 fn:=λ_=>true
 pn:=[]
 xe:=λe s'=>wpAny (model P w) (A.deeper (envOfC qual scope s.heap.objs.size f cd)) (leaving (envOfC qual scope s.heap.objs.size f cd) e) (λ_ s''=>CX outer H s E e s'') (λe' s''=>CX outer H s E e' s'') s'
def yj{sc:Scope}{n:Nat}{x:Str}(h:sc.names.lookup x=some .cell):∃ c,(cellsFrom n sc.names []).lookup x=some c:=by
 have q:=Sw sc.names n [] (.inl h);exact Pi.mp q
def Fz{CX:fO}{P:ZD}{w:ZF}{K:ZA}{mg:YA}{base:Heap}{N ps:List Str}{qual:Str}{scope:Scope}{f:ZE}{cd:ZC}{A:ZG}{outer:List Env}{s s1:ZB}{H:Hp}{E:XK}{us:YB}{vs:YE}
  (S:aC N ps scope)(hd:A.handled=none)(e0:Env0 P w K mg base A outer s H)(hl:vs.length=ps.length)(r:Vals vs us)
  (x:InCallC s s.heap.objs.size (bindL (envOfC qual scope s.heap.objs.size f cd).kindOf (ps.zip us) λ_=>none) (cellsFrom (s.heap.objs.size+1) scope.names []) (bindC (envOfC qual scope s.heap.objs.size f cd).kindOf (ps.zip us) λ_=>none) s1) :
  Inv (bX CX P w K mg base N qual scope f cd A outer s H E) [] (start N vs) H s1:=by
 have hpl:ps.length<=N.length:=by have:=congrArg List.length S.pre;rw[PZ] at this;omega
 obtain⟨h1,tk,rfl,hk⟩:=x.done;have noA:∀ b:ZE,b∉(bX CX P w K mg base N qual scope f cd A outer s H E).ex:=λb z=>absurd (show b∈([]:List ZE) from z) 's'
 refine⟨⟨e0.mod,S.kind,rfl,rfl,OV _,λy z c h1 h2=>?_,λy hy=>?_,λy c _ h=>?_,λ_=>hd,Around.frames_deeper e0.frames,.inr ⟨rfl,rfl⟩,λb z=>absurd z (noA b),e0.bs,e0.bsz,λb _ _=>noA b,λb z=>absurd z (noA b),e0.funs,e0.frf⟩,
  rfl,e0.bare,Un.kept hk,⟨_,x.toInCall.ns,λi y v h1 h2 h3=>?_⟩,λy c h=>⟨_,x.cell y c h⟩,e0.hok.fresh (OV _),λy c h=>?_,λp hp=>absurd (show p∈([]:List (ZE×Obj)) from hp) 's',e0.hok.kept hk,?_⟩
 ·exact name_of_addr x.apart (Qa h1) (Qa h2)
 ·have hy:scope.names.lookup y=some .cell\/scope.names.lookup y=some .free:=hy
  rcases hy with hy|hy
  ·exact yj hy
  ·exact absurd rfl (S.nofree _ (Qa hy))
 ·exact Ri (x.above y c (Qa h))
 ·have hi:i<vs.length:=by
   unfold start at h2;by_cases hi:i<vs.length
   ·exact hi
   ·rw[Pl (by simpa using hi)] at h2
    rw[Qn] at h2;split at h2<;>cases h2
  have ha:vs[i]?=some v:=by
   unfold start at h2;rw[O3 (by simpa using hi),Pr] at h2
   cases e:vs[i]? with
   |none=>rw[e] at h2;cases h2
   |some a=>rw[e] at h2;cases h2;rfl
  obtain⟨u,hu,rv⟩:=r.get ha;have hp:ps[i]?=some y:=by
   rw[<- S.pre,List.getElem?_take_of_lt (by omega)];exact h1
  have ndP:ps.Nodup:=by rw[<- S.pre];exact S.nd.sublist (List.take_sublist _ _)
  refine⟨u,rv,?_⟩
  rcases S.par y (Pm hp) with k|k
  ·exact .inl ⟨k,yh ndP hp hu k⟩
  ·obtain⟨c,e⟩:=yj (n:=s.heap.objs.size+1) k
   refine .inr ⟨.inl k,c,e,?_⟩
   have q:=x.cell y c e;rw[yi ndP hp hu (by show scope.names.lookup y≠_;rw[k];decide)] at q;exact q
 ·exact e0.hok.fresh (Ri (x.above y c (Qa h)))
 ·unfold start
  show _=N.length
  rw[Pw,O2,P1];omega
def FC{CX:fO}{P:ZD}{w:ZF}{K:ZA}{mg:YA}{base:Heap}{k:Nat}{f:ZE}{name qual:Str}{params:Arguments}{body:List Stmt}{scope:Scope}{dV kV doc pm cdv ct oc:ZC}{an od:YC}
  {osl:Array (Option ZC)}{N ps:List Str}{sp:Sp}(lk:K.lookup f=some ⟨oc,od,.func (PySem.W.fnOf name qual params body scope dV kV doc pm an cdv ct),osl⟩)(hcd:PySem.W.codeIn K cdv qual=true)(S:aC N ps scope)
  (len:∀ vs H Q E,sp vs H Q E->vs.length=ps.length)
  (hbody:∀ (A:ZG) (outer:List Env) (s:ZB) (H:Hp) (vs:YE) (Q:VK) (E:XK),Room k (A.deeper (envOfC qual scope s.heap.objs.size f cdv))->sp vs H Q E ->
   ∃ t,PSs (bX CX P w K mg base N qual scope f cdv A outer s H E) body t/\t { nx:=λ_ H'=>Q .non H',rt:=Q } (start N vs) H) :
  FnOk P w K mg base CX (k+1) f (PySem.W.fnOf name qual params body scope dV kV doc pm an cdv ct) ps sp:=by
 refine⟨len,λA outer s H args us vs Q E hr e0 hb r hsp=>?_⟩
 have hl:=len _ _ _ _ hsp;have KX:K.In s.heap:=e0.mod.kin.keeps λb o e=>(e0.bs b o e).1
 have lim:s.heap.NoLimit:=e0.mod.nolimit.keeps λb o e=>(e0.bs b o e).1
 have hkind:∀ y∈ps.zip us,scope.names.lookup y.1=some .local\/(scope.names.lookup y.1=some .cell/\((cellsFrom (s.heap.objs.size+1) scope.names []).lookup y.1).isSome=true):=λ⟨n,v⟩ hy=>by
  rcases S.par n (SN hy).1 with q|q
  ·exact .inl q
  ·exact .inr ⟨q,Sw _ _ _ (.inl q)⟩
 refine codeAny_call_function hr.depth (KX _ _ lk) rfl S.co S.gen rfl (PySem.W.codeRec_of KX hcd) (hb _ _ _ _ ?_)
 refine wpAny_newFunctionEnv_cells S.kind hkind λenv he s1 x=>?_
 subst he;refine⟨lim.keeps x.toInCall.keep,codeAny_func ?_⟩
 obtain⟨t,ht,hq⟩:=hbody A outer s H vs Q E (hr.deeper _) hsp;have I:Inv (bX CX P w K mg base N qual scope f cdv A outer s H E) [] (start N vs) H s1:=Fz S hr.hd e0 hl r x;refine PC (ht [] s1 (start N vs) H _ I hq) (λfl s' hs=>?_) λe s' hs=>hs
 have fin:∀ {σ':St} {H':Hp} {v:V} {u:ZC},Inv (bX CX P w K mg base N qual scope f cdv A outer s H E) [] σ' H' s'->RelV v u->Q v H'->CE outer P w H s Q u s' :=
  λ{σ' H' v u} J rv q=>⟨v,H',J.os,J.bare,J.base,J.hok,rv,q⟩
 cases fl with
 |ret u =>
  obtain⟨v,σ',H',J,rv,q⟩:=hs;exact fin J rv q
 |next =>
  obtain⟨σ',H',J,q⟩:=hs;exact fin (v:=V.non) (u:=Value.none) J rfl q
 |brk =>
  obtain⟨_,_,_,q⟩:=hs;exact False.elim q
 |cont =>
  obtain⟨_,_,_,q⟩:=hs;exact False.elim q
section
variable{X:Cx}{x:Str}{p pos:Pos}{e:Expr}{es:YD}{t:TA}{id T:String}{r:YE->Hp->VK->Prop}
def t8(r:YE->Hp->VK->Prop)(t:TA):TE:=λσ H Q=>t σ H λvs H1=>r vs H1 Q
def qh (hc:CallR X (.builtin id) r) (hg:Gl X x) (hm:X.mg x=none) (hv:bootBuiltins x=some (.builtin id)) (ha:PA X (e::es) t) (hn:x ≠ "__name__" := by decide) (hdb:((x == ("__debug__" : Str))=false)⁻¹)
  (he:‹qE1 e es X.env›) (hpl:‹qF1 pos es X.env›):PE X (.Call (.Name x p) (e::es) [] pos) (t8 r t):=by
 intro pins s σ H Q I h;refine Rb (mL I hg hm hv ?_ hn hdb)
 exact PyProof.Rows.callWith_builtin1 (thn (ha pos pins s σ H _ I h) λus s1 ⟨vs,H1,I1,r1,q1⟩=>hc pins s1 σ H1 vs us Q I1 r1 q1) he hpl
def FD (hc:CallR X (.type T) r) (hg:Gl X x) (hm:X.mg x=none) (hv:bootBuiltins x=some (.type T)) (ha:PA X (e::es) t) (hn:x ≠ "__name__" := by decide) (hdb:((x == ("__debug__" : Str))=false)⁻¹)
  (he:‹qE1 e es X.env›) (hpl:‹qF1 pos es X.env›):PE X (.Call (.Name x p) (e::es) [] pos) (t8 r t):=by
 intro pins s σ H Q I h;refine Rb (mL I hg hm hv ?_ hn hdb)
 exact Qv (thn (ha pos pins s σ H _ I h) λus s1 ⟨vs,H1,I1,r1,q1⟩=>hc pins s1 σ H1 vs us Q I1 r1 q1) he hpl
end
end L2
namespace HT
open PySem PyProof.Rows
section
open PySem.SeqAt
open PySem.AutoSeq1 (wpAny_loadPart')
open PySem.MeetsSeq PySem.MeetsSeq2 PySem.MeetsSeq3
end
section
variable{prog:ZD}{w:ZF}{A:ZG}{E:ZC->ZB->Prop}{s:ZB}
def cat_tup {t b:ZE} {vs ws:YB} {Q:ZC->ZB->Prop} (ht:IsTup s.heap t vs.toArray) (hb:IsTup s.heap b ws.toArray) (hv:vs≠[])
  (h1:ws=[]->Q (.ref t) s) (h2:ws≠[]->Q (.ref s.heap.objs.size) { s with heap:=s.heap.push { cls:=.type "tuple",data:=.seq (vs++ws).toArray } })
  (hsz:vs.length+ws.length<=sizeLine):wpAny (model prog w) A (binaryOp .Add (.ref t) (.ref b)) Q E s:=by
 obtain⟨⟨cls,dd,data,sl⟩,ho,hc,n,hd⟩:=id ht;obtain⟨⟨cls2,dd2,data2,sl2⟩,ho2,hc2,n2,hd2⟩:=id hb;simp only at hc hd hc2 hd2
 subst hc hd hc2 hd2
 have e:vs.toArray++ws.toArray=(vs++ws).toArray:=by simp
 by_cases hw:ws=[]
 ·exact Uh ⟨_,ho,rfl⟩ ⟨_,ho2,rfl⟩ noFill_tuple_add seq_tuple_add Sx Sd (R8 _ _)
   (tuple_addW1 t b vs.toArray ws.toArray n n2 dd dd2 sl sl2 (by simpa using hv) (by simp[hw])) ⟨ho,ho2,h1 hw⟩
 ·refine Uh ⟨_,ho,rfl⟩ ⟨_,ho2,rfl⟩ noFill_tuple_add seq_tuple_add Sx Sd (R8 _ _)
   (tuple_addW2 t b vs.toArray ws.toArray n n2 dd dd2 sl sl2 (by simpa using hv) (by simpa using hw) (by rw[O5,O5];exact hsz)) ⟨ho,ho2,?_⟩
  rw[e];exact h2 hw
def sIx(n d:Nat):Option Int->Nat
 |none=>d
 |some v=>if v<0 then(v+(n:Int)).toNat else min v.toNat n
def sIx_none(n d:Nat):sIx n d none=d:=(rfl)
def sIx_nat(n d k:Nat):sIx n d (some (k:Int))=min k n:=by
 show (if (k:Int)<0 then((k:Int)+(n:Int)).toNat else min (k:Int).toNat n)=min k n
 rw[O0 ⋯,T8]
def sIx_le(n d:Nat)(hd:d<=n)(o:Option Int):sIx n d o<=n:=by
 cases o with
 |none=>exact hd
 |some v =>
  show (if v<0 then(v+(n:Int)).toNat else min v.toNat n)<=n
  by_cases hv:v<0
  ·rw[OX hv];lia
  ·rw[O0 hv];exact Nat.min_le_right _ _
def yk(v:Int)(n d:Nat):(if v<0 then max (v+(n:Int)) 0 else min v (n:Int))=((sIx n d (some v):Nat):Int):=by
 show (if v<0 then max (v+(n:Int)) 0 else min v (n:Int))=(((if v<0 then(v+(n:Int)).toNat else min v.toNat n):Nat):Int)
 by_cases hv:v<0
 ·simp only[OX hv];lia
 ·simp only[O0 hv];lia
def FE(lo hi:Option Int)(n:Nat):Builtin.Slice.sliceAdjust lo hi 1 (n:Int)=(((sIx n 0 lo:Nat):Int),((sIx n n hi:Nat):Int)):=by
 have h1:¬ ((1:Int)<0):=by lia
 unfold Builtin.Slice.sliceAdjust;simp only[h1,Up]
 refine Prod.ext ?_ ?_
 ·cases lo with
  |none=>rfl
  |some v=>exact yk v n 0
 ·cases hi with
  |none=>rfl
  |some v=>exact yk v n n
def FG(i j:Nat):Builtin.Slice.slicePlaces (i:Int) (j:Int) 1=j-i:=by
 unfold Builtin.Slice.slicePlaces;have h1:(1:Int) > 0:=by lia
 simp only[h1,Qd,Int.ediv_one]
 split<;>lia
def yl{v:ZC}{o:Option Int}{Q:Option Int->ZB->Prop}(p:IsPart v o)(h:Q o s):wpAny (model prog w) A (Builtin.Slice.slicePartIndex v) Q E s:=by
 cases p with
 |none=>exact slicePart_none h
 |int i t=>exact slicePart_int h
def FH{sl:ZE}{vl vu:ZC}{lo hi:Option Int}{n:Nat}{Q:Int×Int×Nat->ZB->Prop}(hs:s.heap.IsSliceOf sl vl vu .none)(pl:IsPart vl lo)(pu:IsPart vu hi)
  (h:Q (((sIx n 0 lo:Nat):Int),1,sIx n n hi-sIx n 0 lo) s):wpAny (model prog w) A (Builtin.Slice.sliceApplied (.ref sl) (pure (n:Int))) Q E s:=by
 obtain⟨os,hos,hcs,hds⟩:=id hs;unfold Builtin.Slice.sliceApplied Builtin.Slice.sliceFields;refine OT (OT (Tr hos hds (x:=vl) rfl (OT (Tr hos hds (x:=vu) rfl (OT (Tr hos hds (x:=.none) rfl (O1 ?_)))))))
 refine OT (slicePart_none ?_)
 show wpAny _ _ (if ((1:Int) == 0)=true then _ else _) _ _ s
 rw[O0 'd'];refine OT (yl pl (OT (yl pu (OT (O1 ?_)))))
 show wpAny _ _ (match Builtin.Slice.sliceAdjust lo hi 1 (n:Int) with|(lo,hi)=>pure (lo,(1:Int),Builtin.Slice.slicePlaces lo hi 1)) _ _ s
 rw[FE lo hi n];show wpAny _ _ (pure (((sIx n 0 lo:Nat):Int),(1:Int),Builtin.Slice.slicePlaces ((sIx n 0 lo:Nat):Int) ((sIx n n hi:Nat):Int) 1)) _ _ s
 rw[FG];exact O1 h
def FI(xs:Array ZC)(i k:Nat):((List.range k).filterMap λ(m:Nat)=>xs[((i:Int)+(m:Int)*1).toNat]?).toArray=((xs.toList.drop i).take k).toArray:=by
 have e:(λ(m:Nat)=>xs[((i:Int)+(m:Int)*1).toNat]?)=λm=>xs[i+m]?:=by
  funext m
  have:((i:Int)+(m:Int)*1).toNat=i+m:=by lia
  rw[this]
 rw[e];have:=pick_run xs i k
 rw[RN] at this;have e2:((λx=>xs[x]?) ∘ λx=>i+x)=λm=>xs[i+m]?:=rfl
 rw[e2] at this;rw[this]
def getItem_tuple_cut {t sl:ZE} {items:Array ZC} {vl vu:ZC} {lo hi:Option Int} {Q:ZC->ZB->Prop} (ht:IsTup s.heap t items) (hs:s.heap.IsSliceOf sl vl vu .none) (pl:IsPart vl lo) (pu:IsPart vu hi)
  (hw:¬ (sIx items.size 0 lo=0/\sIx items.size items.size hi=items.size))
  (h:Q (.ref s.heap.objs.size) { s with heap:=s.heap.push { cls:=.type "tuple",data:=.seq ((items.toList.drop (sIx items.size 0 lo)).take (sIx items.size items.size hi-sIx items.size 0 lo)).toArray } })
  (hsz:items.size<=sizeLine):wpAny (model prog w) A (getItem (.ref t) (.ref sl)) Q E s:=by
 have htake:sizeOk (.seq ((items.toList.drop (sIx items.size 0 lo)).take (sIx items.size items.size hi-sIx items.size 0 lo)).toArray):=by
  show ((items.toList.drop (sIx items.size 0 lo)).take (sIx items.size items.size hi-sIx items.size 0 lo)).toArray.size<=sizeLine
  rw[O5,PZ,Qx,Qt];omega
 have hj:sIx items.size items.size hi<=items.size:=sIx_le _ _ (OV _) hi;obtain⟨os,hos,hcs,hds⟩:=id hs;have hTs:s.TypeIs (.ref sl) "slice" := ⟨os,hos,hcs⟩;unfold getItem;try with_reducible refine PJ ?_
 first|refine OT (O1 ?_)|skip
 refine OT (Ui ht.typeIs 'd' ?_)
 refine OT (Sr (name:=Str.ofString "__getitem__") ht.typeIs Rp
  (P7 Rp ht.typeIs entry_tuple_getitem ?_ (args_tuple_getitem _ _)))
 show wpAny _ _ (Builtin.Tuple.tupleItemsOf (.ref t) >>= _) _ _ s
 refine OT (tupleItemsOf_ ht ?_)
 refine OT (wpAny_typeOf hTs ?_)
 rw[OX 'd'];refine OT (FH hs pl pu ?_)
 have hno:¬ ((((sIx items.size 0 lo:Nat):Int) == 0 && (1:Int) == 1 && (sIx items.size items.size hi-sIx items.size 0 lo) == items.size)=true):=by
  intro q;rw[Pu,Pu] at q;have q1:((sIx items.size 0 lo:Nat):Int)=0:=Ss q.1.1
  have q2:sIx items.size items.size hi-sIx items.size 0 lo=items.size:=Ss q.2;exact hw ⟨by omega,by omega⟩
 show wpAny _ _ (if (((sIx items.size 0 lo:Nat):Int) == 0 && (1:Int) == 1 && (sIx items.size items.size hi-sIx items.size 0 lo) == items.size)=true then _ else _) _ _ s
 rw[O0 hno,FI];first
  |exact OT (m:=Builtin.Tuple.tupleExact _) (Qo (O1 ⟨_,rfl,O1 h⟩) htake)
  |exact OT (m:=Builtin.Tuple.tupleExact _) (Qo (OT (O1 (O1 ⟨_,rfl,O1 h⟩))) htake)
  |exact OT (OT (m:=Builtin.Tuple.tupleExact _) (Qo (O1 (O1 ⟨_,rfl,O1 h⟩)) htake))
  |exact OT (OT (m:=Builtin.Tuple.tupleExact _) (Qo (O1 ⟨_,rfl,O1 h⟩) htake))
end
end HT
namespace L2
open PySem PySem.Spec PyProof.Rows
abbrev TO:=St->Hp->(Option Int->Hp->Prop)->Prop
def PO(X:Cx)(e:Option Expr)(t:TO):Prop :=
 ∀ (pins:List (ZE×Obj)) (s:ZB) (σ:St) (H:Hp) (Q:Option Int->Hp->Prop),Inv X pins σ H s->t σ H Q ->
  wpAny (model X.prog X.w) X.A (evalPart e X.env) (λu s'=>∃ o H',Inv X pins σ H' s'/\IsPart u o/\Q o H') X.xe s
def ym:TO:=λ_ H Q=>Q none H
def yn(t:TE):TO:=λσ H Q=>t σ H λx H1=>∃ i,x=.int i/\Q (some i) H1
section
variable{X:Cx}{e:Expr}{te:TE}{lo hi:Option Expr}{tl th:TO}{pos p2:Pos}
def FJ:PO X none ym:=by
 intro pins s σ H Q I h;rw[evalPart_none];exact O1 ⟨none,H,I,.none,h⟩
def FK(h:PE X e te):PO X (some e) (yn te):=by
 intro pins s σ H Q I hw;rw[evalPart_some];refine thn (h pins s σ H _ I hw) λu s1 Zz=>?_;obtain⟨x,H1,I1,r1,q1⟩:=Zz
 obtain⟨i,rfl,q⟩:=q1;obtain⟨t,rfl⟩:=r1;exact⟨some i,H1,I1,.int i t,q⟩
def SlR(X:Cx)(r:V->Option Int->Option Int->Hp->VK->Prop):Prop :=
 ∀ (pins:List (ZE×Obj)) (s:ZB) (σ:St) (H:Hp) (x:V) (v vl vu:ZC) (lo hi:Option Int) (sl:ZE) (Q:VK),Inv X pins σ H s->RelV x v->s.heap.IsSliceOf sl vl vu .none->IsPart vl lo->IsPart vu hi->r x lo hi H Q ->
  ∃ T id,typeLookup (.type T) "__getitem__"=pure (some (.builtin id))/\s.TypeIs v T/\wpAny (model X.prog X.w) X.A (getItem v (.ref sl)) (EP X pins σ Q) X.xe s
def SlR.or{r r':V->Option Int->Option Int->Hp->VK->Prop}(h:SlR X r)(h':SlR X r'):SlR X (λx lo hi H Q=>r x lo hi H Q\/r' x lo hi H Q):=by
 intro pins s σ H x v vl vu lo hi sl Q I rx hs pl pu q;rcases q with q|q
 ·exact h pins s σ H x v vl vu lo hi sl Q I rx hs pl pu q
 ·exact h' pins s σ H x v vl vu lo hi sl Q I rx hs pl pu q
def FL(r:V->Option Int->Option Int->Hp->VK->Prop)(te:TE)(tl th:TO):TE:=λσ H Q=>te σ H λx H1=>tl σ H1 λl H2=>th σ H2 λu H3=>r x l u H3 Q
def FN{r:V->Option Int->Option Int->Hp->VK->Prop}(hr:SlR X r)(he:PE X e te)(hl:PO X lo tl)(hu:PO X hi th):PE X (.Subscript e (.Slice lo hi none p2) pos) (FL r te tl th):=by
 intro pins s σ H Q I h;refine Subscript_ (thn (he pins s σ H _ I h) λv s1 Zz=>?_);obtain⟨x,H1,I1,r1,q1⟩:=Zz
 refine wpAny_Slice (thn (hl pins s1 σ H1 _ I1 q1) λvl s2 ⟨l,H2,I2,pl,q2⟩=>thn (hu pins s2 σ H2 _ I2 q2) λvu s3 Zz=>?_);obtain⟨u,H3,I3,pu,q3⟩:=Zz
 rw[evalPart_none];refine O1 ?_
 have I4:Inv X pins σ H3 { s3 with heap:=s3.heap.push { cls:=.type "slice",data:=.fields #[vl,vu,.none] } }:=I3.kept (t':=s3.toks) λb ob q=>OZ _ q
 obtain⟨T,id,hT,ht,hg⟩:=hr pins { s3 with heap:=s3.heap.push { cls:=.type "slice",data:=.fields #[vl,vu,.none] } } σ H3 x v vl vu l u s3.heap.objs.size Q I4 r1 (Heap.IsSliceOf.new ..) pl pu q3;show wpAny (model X.prog X.w) X.A (subscriptTail e (.Slice lo hi none p2) v (.ref s3.heap.objs.size)) (EP X pins σ Q) X.xe { s3 with heap:=s3.heap.push { cls:=.type "slice",data:=.fields #[vl,vu,.none] } }
 exact tail_any (ops:=[.ref s3.heap.objs.size,v]) ht hT hg (by with_unfolding_all rfl)
def fw(xs:YE)(lo hi:Option Int):YE:=(xs.drop (HT.sIx xs.length 0 lo)).take (HT.sIx xs.length xs.length hi-HT.sIx xs.length 0 lo)
def yo(xs:YE)(lo hi:Option Int):(fw xs lo hi).length<=xs.length:=by
 unfold fw;rw[PZ,Qx];lia
def ua(K:ZA):V->Option Int->Option Int->Hp->VK->Prop:=λx lo hi H Q=>∃ a xs,x=.ref a/\SqT K H a xs /\
 ¬ (HT.sIx xs.length 0 lo=0/\HT.sIx xs.length xs.length hi=xs.length)/\∀ p,H p=none->Q (.ref p) (upd H p (.tup (fw xs lo hi)))
def sl_tup:SlR X (ua X.K):=by
 intro pins s σ H x v vl vu lo hi sl Q I rx hs pl pu h;obtain⟨a,xs,rfl,hx,hw,q⟩:=h
 cases rx
 obtain⟨its,r,ht,hz⟩:=I.tuple hx;have hlen:its.toArray.size=xs.length:=by rw[O5];exact r.length.symm
 refine⟨"tuple",_,PyProof.Rows.slot_tuple_getitem.lookup,ht.typeIs,?_⟩
 refine HT.getItem_tuple_cut ht hs pl pu (by rw[hlen];exact hw) ?_ (by rw[hlen];exact hz)
 rw[hlen];refine⟨.ref s.heap.objs.size,_,I.laid (t':=s.toks) (o:=.tup (fw xs lo hi)) (λb ob q=>OZ _ q) (OV _) ?_,rfl,q _ (I.hok.fresh (OV _))⟩
 exact⟨OW (yo xs lo hi) hz,_,(r.drop (HT.sIx xs.length 0 lo)).take (HT.sIx xs.length xs.length hi-HT.sIx xs.length 0 lo),IsTup.new _ _⟩
def FO(K:ZA):R2:=λx y H Q=>∃ a b xs ys,x=.ref a/\y=.ref b/\SqT K H a xs/\SqT K H b ys/\xs≠[]/\xs.length+ys.length<=sizeLine /\
 (ys=[]->Q (.ref a) H)/\(ys≠[]->∀ p,H p=none->Q (.ref p) (upd H p (.tup (xs++ys))))
def Vals.nil_iff{xs:YE}{us:YB}(r:Vals xs us):us=[] ↔ xs=[]:=by
 cases r with
 |nil=>simp
 |cons _ _=>simp
def zjM:OpR X (binaryOp .Add) (FO X.K):=by
 intro pins s σ H x y v u Q I rx ry h;obtain⟨a,b,xs,ys,rfl,rfl,ha,hb,hx,hz,q1,q2⟩:=h
 cases rx
 cases ry
 obtain⟨its,r1,p1,_⟩:=I.tuple ha;obtain⟨its2,r2,p2,_⟩:=I.tuple hb;refine HT.cat_tup p1 p2 (λz=>hx (r1.nil_iff.mp z)) (λz=>⟨.ref a,H,I,rfl,q1 (r2.nil_iff.mp z)⟩) (λz=>?_) (by rw[<- r1.length,<- r2.length];exact hz)
 refine⟨.ref s.heap.objs.size,_,I.laid (t':=s.toks) (o:=.tup (xs++ys)) (λb ob q=>OZ _ q) (OV _) ?_,rfl,q2 (λw=>z (r2.nil_iff.mpr w)) _ (I.hok.fresh (OV _))⟩
 exact⟨by rw[Pw];exact hz,_,r1.append r2,IsTup.new _ _⟩
end
def gv(n:Nat)(i:Int):Option Nat:=if 0<=i then(if i<n then some i.toNat else none) else if -(n:Int)<=i then some (i+n).toNat else none
def atI{α:Type}(xs:List α)(i:Int):Option α:=(gv xs.length i).bind λj=>xs[j]?
def yp{n:Nat}{i:Int}{j:Nat}(h:gv n i=some j):seqIndex? i n=some j/\j<n /\ -(n:Int)<=i/\i<n:=by
 unfold gv at h;by_cases h0:0<=i
 ·rw[OX h0] at h
  by_cases h1:i<n
  ·rw[OX h1] at h
   have e:i.toNat=j:=Pp h;exact⟨by rw[seqIndex_of h0 h1,e],by lia,by lia,h1⟩
  ·rw[O0 h1] at h;cases h
 ·rw[O0 h0] at h
  by_cases h1:-(n:Int)<=i
  ·rw[OX h1] at h
   have e:(i+n).toNat=j:=Pp h;exact⟨by rw[Uj ⋯ h1,e],by lia,h1,by lia⟩
  ·rw[O0 h1] at h;cases h
def qi{α:Type}{xs:List α}{i:Int}{v:α}(h:atI xs i=some v):∃ j,seqIndex? i xs.length=some j/\xs[j]?=some v/\j<xs.length /\ -(xs.length:Int)<=i/\i<xs.length:=by
 unfold atI at h
 cases e:gv xs.length i with
 |none=>rw[e] at h;cases h
 |some j =>
  rw[e] at h;obtain⟨h1,h2,h3,h4⟩:=yp e
  exact⟨j,h1,h,h2,h3,h4⟩
def lh{α:Type}{xs:List α}{j:Nat}{v:α}(h:xs[j]?=some v):atI xs (j:Int)=some v:=by
 have hj:j<xs.length:=(OS.mp h).1;have e:gv xs.length (j:Int)=some j:=by
  unfold gv;rw[OX ⋯,OX ⋯];simp
 unfold atI;rw[e];exact h
def qj(b:Expr):Prop:=∀ o i,subscripted b false o i=operate [o,i] (getItem o i)
def IxR(X:Cx)(r:R2):Prop :=
 ∀ (value slice:Expr) (pins:List (ZE×Obj)) (s:ZB) (σ:St) (H:Hp) (x y:V) (v u:ZC) (Q:VK),Inv X pins σ H s->RelV x v->RelV y u->r x y H Q ->
  subscripted slice false v u=operate [v,u] (getItem v u)->wpAny (model X.prog X.w) X.A (subscriptTail value slice v u) (EP X pins σ Q) X.xe s
def gw(X:Cx)(id:String)(r:V->YE->Hp->VK->Prop):Prop :=
 ∀ (pins:List (ZE×Obj)) (s:ZB) (σ:St) (H:Hp) (x:V) (xs:YE) (v:ZC) (us:YB) (Q:VK),Inv X pins σ H s->RelV x v->Vals xs us->r x xs H Q ->
  wpAny (model X.prog X.w) X.A (call (.builtin id) (v::us)) (EP X pins σ Q) X.xe s
section
variable{X:Cx}{a b:Expr}{ta tb:TE}{pos:Pos}
def IxR.or{r r':R2}(h:IxR X r)(h':IxR X r'):IxR X (λx y H Q=>r x y H Q\/r' x y H Q):=by
 intro value slice pins s σ H x y v u Q I rx ry q hs;rcases q with q|q
 ·exact h value slice pins s σ H x y v u Q I rx ry q hs
 ·exact h' value slice pins s σ H x y v u Q I rx ry q hs
def yq{r:R2}(hr:IxR X r)(ha:PE X a ta)(hb:PE X b tb)(hs:qj b):PE X (.Subscript a b pos) (mP r ta tb):=by
 intro pins s σ H Q I h;exact Subscript_ (k8 ha hb I h λv u s2 x y H2 I2 rx ry q=>hr a b pins s2 σ H2 x y v u Q I2 rx ry q (hs _ _))
def n5(K:ZA):R2:=λx y H Q=>∃ p xs i v,x=.ref p/\y=.int i/\SqL K H p xs/\atI xs i=some v/\Q v H
def n8(K:ZA):R2:=λx y H Q=>∃ p xs i v,x=.ref p/\y=.int i/\SqT K H p xs/\atI xs i=some v/\Q v H
def n9:R2:=λx y H Q=>∃ z i c,x=.str z/\y=.int i/\z.length<=sizeLine/\atI z.cps.toList i=some c/\Q (.str ⟨#[c]⟩) H
def zfR:IxR X (n5 X.K):=by
 intro value slice pins s σ H x y v u Q I rx ry h hs;obtain⟨p,xs,i,z,rfl,rfl,hq,he,q⟩:=h
 cases rx
 obtain⟨t,rfl⟩:=ry;obtain⟨its,r,pl,hz⟩:=I.list hq;obtain⟨j,h1,h2,h3,h4,h5⟩:=qi he;obtain⟨w,ew,rw'⟩:=r.get h2;have hl:=r.length;have hn:=lg;have fin:EP X pins σ Q w s:=⟨z,H,I,rw',q⟩
 by_cases h0:0<=i
 ·have hj:i.toNat=j:=by
   rw[seqIndex_of h0 h5] at h1;exact Pp h1
  exact item_listR pl.isList h0 ⋯ (by rw[hj];simpa using ew) fin hs
 ·have hj:(i+(its.toArray.size:Int)).toNat=j:=by
   rw[Uj ⋯ h4] at h1;rw[O5,<- hl];exact Pp h1
  exact SH (x:=w) pl.isList.typeIs slot_list_getitem.lookup
   (wpAny_getItem_list_neg (Q:=λr s'=>r=w/\EP X pins σ Q r s') pl.isList ⋯ (by rw[O5]<;>lia) ⋯ (by rw[hj];simpa using ew) ⟨rfl,fin⟩) hs
def ix_tup:IxR X (n8 X.K):=by
 intro value slice pins s σ H x y v u Q I rx ry h hs;obtain⟨p,xs,i,z,rfl,rfl,hq,he,q⟩:=h
 cases rx
 obtain⟨t,rfl⟩:=ry;obtain⟨its,r,pl,hz⟩:=I.tuple hq;obtain⟨j,h1,h2,h3,h4,h5⟩:=qi he;obtain⟨w,ew,rw'⟩:=r.get h2;have hl:=r.length;have hn:=lg;have fin:EP X pins σ Q w s:=⟨z,H,I,rw',q⟩
 exact SH (x:=w) pl.typeIs slot_tuple_getitem.lookup
  (getItem_tuple (j:=j) (Q:=λr s'=>r=w/\EP X pins σ Q r s') pl ⋯ ⋯ (by rw[O5,<- hl];exact h1) (by simpa using ew) ⟨rfl,fin⟩) hs
def FP:IxR X n9:=by
 intro value slice pins s σ H x y v u Q I rx ry h hs;obtain⟨z,i,c,rfl,rfl,hz,he,q⟩:=h;obtain⟨t,rfl⟩:=rx;obtain⟨t',rfl⟩:=ry;obtain⟨j,h1,h2,h3,h4,h5⟩:=qi he;have hl:z.cps.toList.length=z.length:=by simp[Str.length]
 rw[hl] at h1 h4 h5;have hn:=lg
 exact tail_any (Ry s z t) slot_str_getitem.lookup (getItem_str (c:=c) (by
  have e1:decide (i < -(2 ^ 63:Int))=false:=O9 ⋯;have e2:decide (i ≥ 2 ^ 63)=false:=O9 ⋯;rw[e1,e2,Bool.or_false]) (by rw[h1];simpa using h2) ⟨.str ⟨#[c]⟩,H,I.tok _,⟨_,rfl⟩,q⟩) hs
def yr(K:ZA):R2:=λx y H Q=>n5 K x y H Q\/n8 K x y H Q\/n9 x y H Q
def FQ:IxR X (yr X.K):=(zfR.or (ix_tup.or FP))
def FR(its:YB)(n j:Nat)(u:ZC):Obj.mapSeq (·.setIfInBounds j u) { cls:=.type "list",data:=.seq its.toArray n }={ cls:=.type "list",data:=.seq (its.set j u).toArray n }:=by
 simp[Obj.mapSeq]
def Inv.lst{pins:List (ZE×Obj)}{σ:St}{H:Hp}{s:ZB}{p:ZE}{xs:YE}(I:Inv X pins σ H s)(h:H p=some (.lst xs)) :
  ∃ (its:YB) (n:Nat),Vals xs its/\s.heap.get? p=some { cls:=.type "list",data:=.seq its.toArray n }/\xs.length<=sizeLine:=by
 obtain⟨z,its,n,r,e⟩:=I.hok p _ h;exact⟨its,n,r,e,z⟩
def Inv.lstUpd {pins:List (ZE×Obj)} {σ:St} {H:Hp} {s:ZB} {p:ZE} {xs ys:YE} {its its':YB} {n n':Nat} {f:Obj->Obj} (I:Inv X pins σ H s) (h:H p=some (.lst xs))
  (ho:s.heap.get? p=some { cls:=.type "list",data:=.seq its.toArray n }) (hf:f { cls:=.type "list",data:=.seq its.toArray n }={ cls:=.type "list",data:=.seq its'.toArray n' }) (r:Vals ys its') (hz:ys.length<=sizeLine) (t:Nat) :
  Inv X pins σ (upd H p (.lst ys)) { s with heap:=s.heap.update p f,toks:=t }:=by
 have e:(s.heap.update p f).get? p=some { cls:=.type "list",data:=.seq its'.toArray n' }:=by
  rw[QP f ho (by rw[hf]<;>rfl),hf]
 refine I.write (x:=p) (e:=p) (by rw[h];trivial) (.inl rfl) (λb u hb q=>(Sy _ _ (Ne.symm hb)).trans q) ⟨_,e⟩ ?_
 exact⟨hz,its',n',r,e⟩
def FS:V->V->V->Hp->(Hp->Prop)->Prop:=λo i v H Q=>∃ p xs k j,o=.ref p/\i=.int k/\H p=some (.lst xs)/\gv xs.length k=some j/\Q (upd H p (.lst (xs.set j v)))
def FT:nU X FS:=by
 intro pins s σ H o i v ov iv u Q I ro ri rv h;obtain⟨p,xs,k,j,rfl,rfl,hp,hj,q⟩:=h
 cases ro
 obtain⟨t,rfl⟩:=ri;obtain⟨its,n,r,ho,hz⟩:=I.lst hp;obtain⟨h1,h2,h3,h4⟩:=yp hj;have hl:=r.length;have hn:=lg;have I':Inv X pins σ (upd H p (.lst (xs.set j v))) { s with heap:=s.heap.update p (Obj.mapSeq (·.setIfInBounds j u)) } :=
  I.lstUpd hp ho (FR its n j u) (r.set rv j) (by rw[Pv];exact hz) s.toks
 by_cases h0:0<=k
 ·have hk:k.toNat=j:=by
   rw[seqIndex_of h0 h4] at h1;exact Pp h1
  exact PySem.W.ki_setAt ho h0 ⋯ (by rw[O5,<- hl];exact h4) (by rw[hk];exact⟨_,I',q⟩)
 ·have hk:(k+(its.toArray.size:Int)).toNat=j:=by
   rw[Uj ⋯ h3] at h1;rw[O5,<- hl];exact Pp h1
  exact PySem.W.ki_setBack ho ⋯ (by rw[O5,<- hl];exact h3) ⋯ (by rw[hk];exact⟨_,I',q⟩)
def FU(lo hi:Option Int)(n:Nat):(sliceBounds lo hi none n).1=((HT.sIx n 0 lo:Nat):Int)/\(sliceBounds lo hi none n).2.1=((HT.sIx n n hi:Nat):Int)/\(sliceBounds lo hi none n).2.2=1:=by
 refine⟨?_,?_,rfl⟩
 ·cases lo with
  |none=>simp[sliceBounds,HT.sIx]
  |some i =>
   simp only[sliceBounds,HT.sIx,Option.getD_none,show (1:Int) > 0 by decide,Qd]
   by_cases h:i<0
   ·simp only[h,Qd]<;>lia
   ·simp only[h,Up]<;>lia
 ·cases hi with
  |none=>simp[sliceBounds,HT.sIx]
  |some i =>
   simp only[sliceBounds,HT.sIx,Option.getD_none,show (1:Int) > 0 by decide,Qd]
   by_cases h:i<0
   ·simp only[h,Qd]<;>lia
   ·simp only[h,Up]<;>lia
def FV(its:YB)(lo hi:Option Int):slicePick its.toArray lo hi none=((its.drop (HT.sIx its.length 0 lo)).take (HT.sIx its.length its.length hi-HT.sIx its.length 0 lo)).toArray:=by
 obtain⟨h1,h2,h3⟩:=FU lo hi its.toArray.size;unfold slicePick;rw[h1,h2,h3];simp only[sliceRange_one,pick_run,O5]<;>rfl
def ub(K:ZA):V->Option Int->Option Int->Hp->VK->Prop:=λx lo hi H Q=>∃ a xs,x=.ref a/\SqL K H a xs/\∀ p,H p=none->Q (.ref p) (upd H p (.lst (fw xs lo hi)))
def zjN:SlR X (ub X.K):=by
 intro pins s σ H x v vl vu lo hi sl Q I rx hs pl pu h;obtain⟨a,xs,rfl,hx,q⟩:=h
 cases rx
 obtain⟨its,r,ht,hz⟩:=I.list hx;have hlen:=r.length;refine⟨"list",_,slot_list_getitem.lookup,ht.isList.typeIs,?_⟩
 refine wpAny_getItem_list_slice ht.isList hs pl pu .none 's' ?_ (by rw[O5]<;>omega)
 rw[FV,<- hlen];refine⟨.ref s.heap.objs.size,_,I.laid (t':=s.toks) (o:=.lst (fw xs lo hi)) (λb ob q=>OZ _ q) (OV _) ?_,rfl,q _ (I.hok.fresh (OV _))⟩
 exact⟨OW (yo xs lo hi) hz,_,0,(r.drop (HT.sIx xs.length 0 lo)).take (HT.sIx xs.length xs.length hi-HT.sIx xs.length 0 lo),Pa _ rfl⟩
def zeF:OpR X (compareOp .NotIn) (λx y H Q=>∃ i j,x=.str i/\y=.str j/\Q (.bl (!(!(Builtin.Str.occurrences j i 0 j.length 1).isEmpty))) H):=by
 intro pins s σ H x y v u Q I rx ry h;obtain⟨i,j,rfl,rfl,q⟩:=h;obtain⟨t,rfl⟩:=rx;obtain⟨t',rfl⟩:=ry;exact notIn_str ⟨.bl _,H,I,rfl,q⟩
def zeG:CallR X (.builtin "len") (λxs H Q=>∃ p ys,xs=[.ref p]/\(SqL X.K H p ys\/SqT X.K H p ys)/\Q (.int ys.length) H):=by
 intro pins s σ H xs us Q I r h;obtain⟨p,ys,rfl,hq,q⟩:=h;obtain⟨u,rfl,rx⟩:=iV r
 cases rx
 have hn:=lg;rcases hq with hq|hq
 ·obtain⟨its,r',pl,hz⟩:=I.list hq
  have hlen:=r'.length;exact Calls.call_len_list pl.isList (by simp only[O5]<;>lia) ⟨.int ys.length,H,I.tok _,⟨s.toks+1,by rw[O5,hlen]⟩,q⟩
 ·obtain⟨its,r',pl,hz⟩:=I.tuple hq
  have hlen:=r'.length;exact len_tuple pl (by simp only[O5]<;>lia) ⟨.int ys.length,H,I.tok _,⟨s.toks+1,by rw[O5,hlen]⟩,q⟩
def zeH:CallR X (.builtin "len") (λxs H Q=>∃ z,xs=[.str z]/\z.length<=sizeLine/\Q (.int z.length) H):=by
 intro pins s σ H xs us Q I r h;obtain⟨z,rfl,hz,q⟩:=h;obtain⟨u,rfl,t,rfl⟩:=iV r;have hn:=lg;exact len_str ⋯ ⟨.int z.length,H,I.tok _,⟨_,rfl⟩,q⟩
def CallR.or{f:ZC}{r r':YE->Hp->VK->Prop}(h:CallR X f r)(h':CallR X f r'):CallR X f (λxs H Q=>r xs H Q\/r' xs H Q):=by
 intro pins s σ H xs us Q I rs q;rcases q with q|q
 ·exact h pins s σ H xs us Q I rs q
 ·exact h' pins s σ H xs us Q I rs q
def qk(K:ZA)(T:String)(x:V)(H:Hp):Prop:=match x with
 |.str _=>T="str"
 |.int _=>T="int"
 |.ref p=>(T="list" /\ ∃ xs,SqL K H p xs)\/(T="tuple" /\ ∃ o,K.lookup p=some o/\o.cls=.type "tuple" /\ o.dict=none) \/
   (T="dict" /\ ((∃ kvs,H p=some (.dK kvs))\/∃ xc kvs,H p=some (.dT xc kvs)))\/(T="set" /\ ∃ S n,H p=some (.set S n))
 |_=>False
def yt{pins:List (ZE×Obj)}{σ:St}{H:Hp}{s:ZB}{T:String}{x:V}{v:ZC}(I:Inv X pins σ H s)(r:RelV x v)(ty:qk X.K T x H) :
  s.TypeIs v T/\∀ a,v=.ref a->∃ ob,s.heap.get? a=some ob/\ob.dict=none:=by
 cases x with
 |str z =>
  obtain⟨t,rfl⟩:=r
  cases (show T="str" from ty)
  exact⟨Ry s z t,λ_ e=>nomatch e⟩
 |int i =>
  obtain⟨t,rfl⟩:=r
  cases (show T="int" from ty)
  exact⟨Uq s i t,λ_ e=>nomatch e⟩
 |ref p =>
  cases r
  rcases ty with⟨rfl,xs,hq⟩|⟨rfl,o,hk,hc,hd⟩|⟨rfl,hk⟩|⟨rfl,S,n,hk⟩
  ·obtain⟨its,_,pl,_⟩:=I.list hq
   refine⟨pl.isList.typeIs,λa e=>?_⟩
   cases e
   obtain⟨o,n,e,c,hd,_⟩:=pl;exact⟨o,e,hd⟩
  ·refine⟨⟨o,I.kIn p o hk,hc⟩,λa e=>?_⟩
   cases e
   exact⟨o,I.kIn _ o hk,hd⟩
  ·have z:∃ o,s.heap.get? p=some o/\o.ExactDict:=by
    rcases hk with⟨kvs,hk⟩|⟨xc,kvs,hk⟩
    ·obtain⟨_,_,_,_,o,_,_,e,ex,_⟩:=I.hok p _ hk
     exact⟨o,e,ex⟩
    ·obtain⟨_,_,_,_,o,_,_,e,ex,_⟩:=I.hok p _ hk
     exact⟨o,e,ex⟩
   obtain⟨o,e,ex⟩:=z;refine⟨⟨o,e,ex.1⟩,λa e2=>?_⟩
   cases e2
   exact⟨o,e,ex.2.1⟩
  ·obtain⟨o,_,_,_,e,ex,_⟩:=I.hok p _ hk
   refine⟨⟨o,e,ex.1⟩,λa e2=>?_⟩
   cases e2
   exact⟨o,e,ex.2.1⟩
 |_=>exact False.elim ty
def uc(K:ZA)(T:String)(r:V->YE->Hp->VK->Prop)(to:TE):TE:=λσ H Q=>to σ H λx H1=>qk K T x H1/\r x [] H1 Q
def FW(K:ZA)(T:String)(r:V->YE->Hp->VK->Prop)(to:TE)(t:TA):TE:=λσ H Q=>to σ H λx H1=>qk K T x H1/\t σ H1 λxs H2=>r x xs H2 Q
variable{o e:Expr}{es:YD}{to:TE}{t:TA}{name:Str}{apos cpos:Pos}{T id:String}{r:V->YE->Hp->VK->Prop}
def yu (pa:PlainAttrs T) (slot:Slot T name id) (hty:typeOf (.builtin id)=pure (.type "method_descriptor")) (hm:gw X id r) (ho:PE X o to)
  (hbase:‹attributeBase o name X.env (eval o X.env)=eval o X.env›) (hline:‹(apos.endLine == cpos.line)=true›):PE X (.Call (.Attribute o name apos) [] [] cpos) (uc X.K T r to):=by
 intro pins s σ H Q I h;refine wpAny_Call_method0_late hbase hline (thn (ho pins s σ H _ I h) λv s1 Zz=>?_);obtain⟨x,H1,I1,r1,ty,q1⟩:=Zz
 obtain⟨h1,h2⟩:=yt I1 r1 ty;exact⟨T,id,pa,slot,hty,h1,h2,Qw rfl (PySem.evalArgs_none (hm pins s1 σ H1 x [] v [] Q I1 r1 .nil q1))⟩
def FY (pa:PlainAttrs T) (slot:Slot T name id) (hty:typeOf (.builtin id)=pure (.type "method_descriptor")) (hm:gw X id r) (ho:PE X o to) (ha:PA X (e::es) t)
  (hbase:‹attributeBase o name X.env (eval o X.env)=eval o X.env›)
  (hfew:‹((backTo cpos (starEach (e::es) X.env)).all (λx=>!x.1) && (backToKw cpos (keywordEach [] X.env)).all (λx=>x.1.isSome)
   && decide ((e::es).length+([]:List Keyword).length+(if ([]:List Keyword).isEmpty then 0 else 1)<30))=true›)
  (hline:‹(apos.endLine == cpos.line)=true›) (hs:‹qE1 e es X.env›) (hplain:‹qF1 cpos es X.env›) :
  PE X (.Call (.Attribute o name apos) (e::es) [] cpos) (FW X.K T r to t):=by
 intro pins s σ H Q I h;refine wpAny_Call_method_late hbase hfew hline rfl (thn (ho pins s σ H _ I h) λv s1 Zz=>?_);obtain⟨x,H1,I1,r1,ty,q1⟩:=Zz
 obtain⟨h1,h2⟩:=yt I1 r1 ty;refine⟨T,id,pa,slot,hty,h1,h2,?_⟩
 have hA:=ha cpos pins s1 σ H1 _ I1 q1;rw[hs] at hA ⊢;refine Qw (by show (false || (backTo cpos (starEach es X.env)).any (·.1))=false;rw[hplain]<;>rfl) (QD ?_)
 exact thn hA λus s2 ⟨vs,H2,I2,r2,q2⟩=>hm pins s2 σ H2 x vs v us Q I2 r1 r2 q2
end
def ud(X:Cx)(id:String)(r:V->YE->Hp->VK->Prop):Prop :=
 ∀ (pins:List (ZE×Obj)) (s:ZB) (σ:St) (H:Hp) (x:V) (xs:YE) (v:ZC) (us:YB) (Q:VK),Inv X pins σ H s->RelV x v->Vals xs us->r x xs H Q ->
  wpAny (model X.prog X.w) X.A (call (.builtin id) (v::us)) (EP X pins σ Q) X.xe s
theorem Vals.one:∀ {x:V} {us:YB},Vals [x] us->∃ u,us=[u]/\RelV x u
 |_,_,.cons r .nil=>⟨_,rfl,r⟩
theorem Vals.zero:∀ {us:YB},Vals [] us->us=[]
 |_,.nil=>rfl
def Vals.dropLast{xs:YE}{us:YB}(h:Vals xs us):Vals xs.dropLast us.dropLast:=by
 induction h with
 |nil=>exact .nil
 |cons r t ih =>
  cases t with
  |nil=>exact .nil
  |cons q t'=>exact .cons r ih
def FZ{α:Type}(l:List α):l.eraseIdx (l.length-1)=l.dropLast:=by
 induction l with
 |nil=>rfl
 |cons a r ih =>
  cases r with
  |nil=>rfl
  |cons b r =>
   have e:(a::b::r).length-1=((b::r).length-1)+1:=by
    have h1:(a::b::r).length=r.length+2:=rfl;have h2:(b::r).length=r.length+1:=rfl;omega
   rw[e,List.eraseIdx_cons_succ,ih];all_goals rfl
section
variable{X:Cx}{pins:List (ZE×Obj)}{σ:St}{H:Hp}{s:ZB}{l b:ZE}{xs ys zs:YE}
def Inv.lset {its its':YB} {n:Nat} {f:Array ZC->Array ZC} {t':Nat} (I:Inv X pins σ H s) (hH:H l=some (.lst xs))
  (e:s.heap.get? l=some { cls:=.type "list",data:=.seq its.toArray n }) (hf:f its.toArray=its'.toArray) (hv:Vals ys its') (hz:ys.length<=sizeLine) :
  Inv X pins σ (upd H l (.lst ys)) { s with heap:=s.heap.update l (Obj.mapSeq f),toks:=t' }:=by
 have q:=PySem.IsL.update e f;rw[hf] at q;refine I.write (x:=l) (e:=l) (by rw[hH];exact trivial) (.inl rfl) (λb' u hb hu=>(Sy s.heap (Obj.mapSeq f) (Ne.symm hb)).trans hu) ⟨_,q⟩ ?_
 exact⟨hz,its',_,hv,q⟩
def Inv.lnew{its:YB}{t':Nat}(I:Inv X pins σ H s)(hv:Vals ys its)(hz:ys.length<=sizeLine) :
  Inv X pins σ (upd H s.heap.objs.size (.lst ys)) { s with heap:=s.heap.push { cls:=.type "list",data:=.seq its.toArray },toks:=t' } :=(
 I.laid (λ_ _ q=>OZ _ q) (OV _) ⟨hz,its,0,hv,Pa _ rfl⟩)
def Inv.fresh(I:Inv X pins σ H s):H s.heap.objs.size=none:=(I.hok.fresh (OV _))
def Inv.lstM(I:Inv X pins σ H s)(hH:H l=some (.lst xs)):xs.length<=sizeLine/\∃ (its:YB) (n:Nat),Vals xs its/\xs.length=its.length/\s.heap.get? l=some { cls:=.type "list",data:=.seq its.toArray n }:=by
 obtain⟨z,its,n,r,e⟩:=I.hok l _ hH;exact⟨z,its,n,r,r.length,e⟩
end
section
variable{X:Cx}
def F8:V->YE->Hp->VK->Prop:=λx vs H Q=>∃ l xs y,x=.ref l/\vs=[y]/\H l=some (.lst xs)/\xs.length<sizeLine/\Q .non (upd H l (.lst (xs++[y])))
def yv:ud X "list.append" F8:=by
 intro pins s σ H x vs v us Q I rx rv h;obtain⟨l,xs,y,rfl,rfl,hH,hz,q⟩:=h
 cases rx
 obtain⟨u,rfl,ru⟩:=rv.one;obtain⟨z,its,n,r,hl,e⟩:=I.lstM hH;refine Rc F.slot_list_append ⟨_,e,rfl⟩ F.entry_list_append (F.args_list_append_2 _ _) (PySem.list_append l its.toArray n u (by rw[O5];lia)) ⟨e,?_⟩
 refine⟨.non,_,I.lset (its':=its++[u]) hH e 's' (r.append (.cons ru .nil)) ?_,rfl,q⟩
 rw[Pw,List.length_singleton];lia
def ue:V->YE->Hp->VK->Prop:=λx vs H Q=>∃ l xs y,x=.ref l/\vs=[]/\H l=some (.lst xs)/\xs[xs.length-1]?=some y/\Q y (upd H l (.lst xs.dropLast))
def F9:ud X "list.pop" ue:=by
 intro pins s σ H x vs v us Q I rx rv h;obtain⟨l,xs,y,rfl,rfl,hH,hy,q⟩:=h
 cases rx
 have hus:=rv.zero;subst hus;obtain⟨z,its,n,r,hl,e⟩:=I.lstM hH
 obtain⟨u,hu,ru⟩:=r.get hy;have hy':its.toArray[its.toArray.size-1]?=some u:=by
  show its.toArray[its.length-1]?=some u
  rw[<- Rq,<- hl];exact hu
 refine Rc F.slot_list_pop ⟨_,e,rfl⟩ F.entry_list_pop (F.args_list_pop_1 _) (MeetsSeq.list_pop_last l its.toArray n u hy' (by rw[O5];omega)) ⟨e,?_⟩
 refine⟨y,_,I.lset (its':=its.dropLast) hH e ?_ r.dropLast ?_,ru,q⟩
 ·show its.toArray.eraseIdxIfInBounds (its.toArray.size-1)=its.dropLast.toArray
  rw[O5,List.eraseIdxIfInBounds_toArray,FZ]
 ·rw[List.length_dropLast]
  omega
def Ga:V->YE->Hp->VK->Prop:=λx vs H Q=>∃ l xs,x=.ref l/\vs=[]/\H l=some (.lst xs)/\Q .non (upd H l (.lst []))
def Gb:ud X "list.clear" Ga:=by
 intro pins s σ H x vs v us Q I rx rv h;obtain⟨l,xs,rfl,rfl,hH,q⟩:=h
 cases rx
 have hus:=rv.zero;subst hus;obtain⟨z,its,n,r,hl,e⟩:=I.lstM hH
 refine Rc F.slot_list_clear ⟨_,e,rfl⟩ F.entry_list_clear (F.args_list_clear_1 _) (AutoSeq1.list_clear_list_0 l its.toArray n (by rw[O5];lia)) ⟨e,?_⟩
 exact⟨.non,_,I.lset (its':=[]) (ys:=[]) hH e rfl .nil (Po _),rfl,q⟩
end
section
variable{prog:ZD}{w:ZF}{A:ZG}{E:ZC->ZB->Prop}{s:ZB}
end
section
variable{X:Cx}
end
section
variable{κ:Type}[DecidableEq κ]
def bF(kvs:List (κ×V))(k:κ):Option V:=(kvs.find? λkv=>decide (kv.1=k)).map (·.2)
def cq(kvs:List (κ×V))(k:κ)(v:V):List (κ×V) :=
 if (kvs.any λkv=>decide (kv.1=k))=true then kvs.map (λkv=>if kv.1=k then(kv.1,v) else kv) else kvs++[(k,v)]
def jq(kvs:List (κ×V))(k:κ):List (κ×V):=kvs.filter λkv=>decide (kv.1≠k)
def ql{p:κ×V}{r:List (κ×V)}{k:κ}(e:p.1=k):bF (p::r) k=some p.2:=by simp[bF,PQ,e]
def oa{p:κ×V}{r:List (κ×V)}{k:κ}(e:¬ p.1=k):bF (p::r) k=bF r k:=by simp[bF,PQ,e]
theorem qm(k:κ):∀ kvs:List (κ×V),(kvs.any λkv=>decide (kv.1=k))=(bF kvs k).isSome
 |[]=>rfl
 |p::r=>by
  rw[Qj];by_cases e:p.1=k
  ·simp only[ql e,Pf e,Bool.true_or,Option.isSome_some]
  ·rw[oa e,O9 e,Bool.false_or];exact qm k r
def yw(kvs:List (κ×V))(k:κ)(v:V):(cq kvs k v).length<=kvs.length+1:=by
 unfold cq;split
 ·rw[O2];lia
 ·rw[Pw,PU,List.length_nil];lia
def RelO.isSome_eq{o:Option V}{u:Option ZC}(r:RelO o u):o.isSome=u.isSome:=by
 cases o with
 |none=>cases u with
  |none=>rfl
  |some _=>exact(show False from r).elim
 |some _=>cases u with
  |none=>exact(show False from r).elim
  |some _=>rfl
def RelO.getD{o:Option V}{u:Option ZC}{d:V}{d':ZC}(r:RelO o u)(rd:RelV d d'):RelV (o.getD d) (u.getD d'):=by
 cases o with
 |none=>cases u with
  |none=>exact rd
  |some _=>exact(show False from r).elim
 |some _=>cases u with
  |none=>exact(show False from r).elim
  |some _=>exact r
def KV.val{kvs:List (κ×V)}{vs:List (κ×ZC)}(r:KV kvs vs)(k:κ):RelO (bF kvs k) (valueAt vs k):=by
 unfold KV at r;induction r with
 |nil=>exact True.intro
 |@cons p q ps qs h t ih =>
  obtain⟨h1,h2⟩:=h;by_cases e:p.1=k
  ·have e':q.1=k:=h1.symm.trans e
   have b:valueAt (q::qs) k=some q.2:=by simp[valueAt,PQ,e']
   rw[ql e,b];exact h2
  ·have e':¬ q.1=k:=λz=>e (h1.trans z)
   have b:valueAt (q::qs) k=valueAt qs k:=by simp[valueAt,PQ,e']
   rw[oa e,b];exact ih
def KV.any{kvs:List (κ×V)}{vs:List (κ×ZC)}(r:KV kvs vs)(k:κ):(kvs.any λkv=>decide (kv.1=k))=vs.any λkv=>decide (kv.1=k):=by
 unfold KV at r;induction r with
 |nil=>rfl
 |cons h t ih=>rw[Qj,Qj,ih,h.1]
def KV.repl{kvs:List (κ×V)}{vs:List (κ×ZC)}(r:KV kvs vs)(k:κ){y:V}{u:ZC}(ry:RelV y u) :
  KV (kvs.map λkv=>if kv.1=k then(kv.1,y) else kv) (vs.map λkv=>if kv.1=k then(kv.1,u) else kv):=by
 unfold KV at r ⊢
 induction r with
 |nil=>exact .nil
 |@cons p q ps qs h t ih =>
  rw[O8,O8];refine .cons ?_ ih
  obtain⟨h1,h2⟩:=h;by_cases e:p.1=k
  ·rw[OX e,OX (h1.symm.trans e)];exact⟨h1,ry⟩
  ·rw[O0 e,O0 (λz=>e (h1.trans z))];exact⟨h1,h2⟩
def KV.put{kvs:List (κ×V)}{vs:List (κ×ZC)}(r:KV kvs vs)(k:κ){y:V}{u:ZC}(ry:RelV y u):KV (cq kvs k y) (stored vs k u):=by
 unfold cq stored;rw[r.any k];by_cases e:(vs.any λkv=>decide (kv.1=k))=true
 ·rw[OX e,OX e];exact r.repl k ry
 ·rw[O0 e,O0 e];exact Paired.snoc r ⟨rfl,ry⟩
def KV.drop{kvs:List (κ×V)}{vs:List (κ×ZC)}(r:KV kvs vs)(k:κ):KV (jq kvs k) (without vs k):=by
 unfold KV at r ⊢
 unfold jq without;induction r with
 |nil=>exact .nil
 |@cons p q ps qs h t ih =>
  obtain⟨h1,h2⟩:=h;rw[Qy,Qy];by_cases e:p.1=k
  ·have a:¬ decide (p.1≠k)=true:=by simp[e]
   have b:¬ decide (q.1≠k)=true:=by simp[h1.symm.trans e]
   rw[O0 a,O0 b];exact ih
  ·have e':¬ q.1=k:=λz=>e (h1.trans z)
   have a:decide (p.1≠k)=true:=by simp[e]
   have b:decide (q.1≠k)=true:=by simp[e']
   rw[OX a,OX b];exact .cons ⟨h1,h2⟩ ih
def KV.keys{kvs:List (κ×V)}{vs:List (κ×ZC)}(r:KV kvs vs):kvs.map (·.1)=vs.map (·.1):=by
 unfold KV at r;induction r with
 |nil=>rfl
 |cons h t ih=>rw[O8,O8,ih,h.1]
def KV.length{kvs:List (κ×V)}{vs:List (κ×ZC)}(r:KV kvs vs):kvs.length=vs.length:=(Paired.length r)
def yx(kvs:List (κ×V))(k:κ):(jq kvs k).length<=kvs.length:=(Rr _ _)
end
def kh{P:ZD}{w:ZF}{k:aF}{u:ZC}(r:RelV (kV k) u):(d9 P w).is k u=true:=by
 cases k with
 |inl i=>obtain⟨t,e⟩:=(show ∃ t,u=Value.int i t from r);subst e;exact DM P w i t
 |inr x=>obtain⟨t,e⟩:=(show ∃ t,u=Value.str x t from r);subst e;exact DO P w x t
def Gc{P:ZD}{w:ZF}{y:V}{k:aF}{u:ZC}(e:mJ y=some k)(r:RelV y u):(iu P w).is k u=true:=by
 cases y with
 |int i=>cases e;obtain⟨t,e⟩:=(show ∃ t,u=Value.int i t from r);subst e;exact DH P w i t
 |str x=>cases e;obtain⟨t,e⟩:=(show ∃ t,u=Value.str x t from r);subst e;exact DJ P w x t
 |bl b=>cases e;cases (show u=Value.bool b from r);exact Pf rfl
 |_=>cases e
theorem yz{P:ZD}{w:ZF}:∀ {ys:YE} {ks:List aF} {us:YB},ys.map mJ=ks.map some->Vals ys us->ItemsAre (iu P w) ks us
 |[],[],_,_,r=>by cases r;exact .nil
 |[],_::_,_,e,_=>by simp at e
 |_::_,[],_,e,_=>by simp at e
 |y::ys,k::ks,_,e,r=>by
  rw[O8,O8] at e;injection e with e1 e2
  cases r with
  |cons h t=>exact .cons (Gc e1 h) (yz e2 t)
def KTup(H:Hp)(b:ZE)(k:List aF):Prop:=∃ ys,H b=some (.tup ys)/\ys.map mJ=k.map some
def KTup.of{H:Hp}{b:ZE}{k:List aF}(e:H b=some (.tup (k.map kV))):KTup H b k:=(⟨_,e,by rw[QV];exact Qu λx _=>DP x⟩)
def DictE{P:ZD}{w:ZF}{K:Type}[DecidableEq K](h:Heap)(kn:PySem.HeapKind P w K)(d:ZE)(xs:List (K×ZE×ZC))(n:Nat):Prop :=
 ∃ o es,h.get? d=some o/\o.ExactDict/\o.data=.dict es n/\es.toList=xs.map (entryOfKey kn)/\(∀ x∈xs,kn.is h x.1 x.2.1)/\(xs.map (·.1)).Nodup
def DictE.of{P:ZD}{w:ZF}{K:Type}[DecidableEq K]{h:Heap}{kn:PySem.HeapKind P w K}{d:ZE}{xs:List (K×ZE×ZC)}{n:Nat}(e:DictE h kn d xs n):h.DictOfH kn d xs:=(e.imp λ_ ⟨es,r⟩=>⟨es,n,r⟩)
def uf{P:ZD}{w:ZF}{K:Type}[DecidableEq K]{kn:PySem.HeapKind P w K}{d b:ZE}{k:K}{xs:List (K×ZE×ZC)}{A:ZG}{E:ZC->ZB->Prop}{s:ZB}{v:ZC}{Q:Unit->ZB->Prop}
  (hu:kn.room A.in1)(hk:kn.is s.heap k b)(hm:DictE s.heap kn d xs xs.length)(hz:xs.length<=sizeLine)
  (q:∀ g,DictE g kn d (storedH xs k b v) (storedH xs k b v).length->Heap.SameBut d s.heap g->Q () { s with heap:=g,toks:=s.toks+kn.draws k }) :
  wpAny (model P w) A (setItem (.ref d) (.ref b) v) Q E s:=by
 have ty:=hm.of.typeIs;obtain⟨o,es,e1,e2,e3,e4,e5,e6⟩:=hm;unfold setItem;try with_reducible refine PJ ?_
 refine OT (Ui ty 'd' (OT (Sr (name:=Str.ofString "__setitem__") ty Uk (P7 Uk ty entry_dict_setitem ?_ (args_dict_setitem _ _ _)))))
 show wpAny _ _ (Builtin.Dict.notOrdered "__setitem__" _ >>= _) _ _ s
 refine OT (Rv ty (show wpAny _ _ (dictSet d (.ref b) v >>= _) _ _ s from OT ?_))
 have fin:∀ g,DictE g kn d (storedH xs k b v) (storedH xs k b v).length->Heap.SameBut d s.heap g->wpAny (model P w) A.in1 (pure Unit.unit) (λ_ s'=>Q () s') (λ_ _=>False) { s with heap:=g,toks:=s.toks+kn.draws k }:=λg a c=>O1 (q g a c)
 unfold dictSet;try with_reducible refine PJ ?_
 refine OT (kn.pyHash hu hk ?_)
 unfold dictSetHashed;try with_reducible refine PJ ?_
 refine OT (wpAny_dictFind_heap (s:={ s with toks:=s.toks+kn.draws k }) hu hk e1 e3 e4 e5 e6 (λno=>?_) λj p hj=>?_)
 ·have st:=storedH_new (a:=b) (v:=v) (atKey_none_of_get no)
  refine OT (T5 (wpAny_updateDictKeys (hz:=by have z:=size_of_entries e4;lia) (s:={ s with toks:=s.toks+kn.draws k }) e1 e3 (O1 ⟨.none,rfl,O1 (q _ ?_ (QE ..))⟩)))
  have ln:(xs++[(k,b,v)]).length=xs.length+1:=by simp
  rw[st,ln];refine⟨_,_,QP _ e1 (Obj.isFreed_of_dict (Obj.data_mapDictKeys e3 _)),e2.mapDictKeys _,Obj.data_mapDictKeys e3 _,?_,λx hx=>?_,?_⟩
  ·simp[e4,entryOfKey]
  ·rcases PH.mp hx with hx|hx
   ·exact kn.keeps (e5 x hx) e1 e3 (QE ..)
   ·have z:x=(k,b,v):=by simpa using hx
    rw[z];exact kn.keeps hk e1 e3 (QE ..)
  ·rw[Py,Rk]
   exact⟨e6,by simp,λx hx y hy z=>not_mem_keys_of_get no (by
    have e:y=k:=by simpa using hy
    rw[<- e,<- z];exact hx)⟩
 ·have st:=storedH_old (a:=b) (v:=v) (atKey_of_get e6 hj)
  refine OT (T5 (OT (wpAny_updateDict (s:={ s with toks:=s.toks+kn.draws k }) e1 e3 (wpAny_point (O1 ⟨.none,rfl,O1 (q _ ?_ (QE ..))⟩)))))
  rw[st,O2];refine⟨_,_,QP _ e1 (Obj.isFreed_of_dict (Obj.data_mapDict e3 _)),e2.mapDict _,Obj.data_mapDict e3 _,?_,λx hx=>?_,?_⟩
  ·have z:=modify_map_putAt (entryOfKey kn) (λe:DictEntry=>{ e with val:=v }) k v (λ_ _=>rfl) e6 hj
   rw[<- e4] at z;obtain⟨l⟩:=es
   simpa using z
  ·obtain⟨y,hy,rfl⟩:=Qk.mp hx
   unfold putAt;split<;>exact kn.keeps (e5 y hy) e1 e3 (QE ..)
  ·rw[keys_map_putAt];exact e6
def yA(xc:Option (List ZE))(old:Bool)(b:ZE):Option (List ZE):=xc.map λas=>if old then as else as++[b]
def Ge{xs:List (List aF×ZE×ZC)}{k:List aF}{b:ZE}{u:ZC}{xc:Option (List ZE)}(h:∀ as,xc=some as->xs.map (·.2.1)=as):∀ as,yA xc (atKey xs k).isSome b=some as->(storedH xs k b u).map (·.2.1)=as:=by
 intro as e;obtain⟨bs,e1,e2⟩:=Pd.mp e;subst e2;unfold storedH
 by_cases q:(atKey xs k).isSome=true
 ·rw[OX q,OX q,QV,<- h bs e1]
  exact Qu λx _=>by show (putAt k u x).2.1=x.2.1;unfold putAt;split<;>rfl
 ·rw[O0 q,O0 q,Py,h bs e1];rfl
abbrev KT(H:Hp):List (List aF×V)->List (List aF×ZE×ZC)->Prop:=Paired λp q=>p.1=q.1/\(∃ ys,H q.2.1=some (.tup ys)/\ys.map mJ=p.1.map some)/\RelV p.2 q.2.2
def KT.val{H:Hp}{kvs:List (List aF×V)}{xs:List (List aF×ZE×ZC)}(r:KT H kvs xs)(k:List aF):RelO (bF kvs k) ((atKey xs k).map (·.2)):=by
 induction r with
 |nil=>exact True.intro
 |@cons p q ps qs h t ih =>
  obtain⟨h1,_,h2⟩:=h;by_cases e:p.1=k
  ·have e':q.1=k:=h1.symm.trans e
   have b:atKey (q::qs) k=some q.2:=by simp[atKey,PQ,e']
   rw[ql e,b];exact h2
  ·have e':¬ q.1=k:=λz=>e (h1.trans z)
   have b:atKey (q::qs) k=atKey qs k:=by simp[atKey,PQ,e']
   rw[oa e,b];exact ih
def KT.repl{H:Hp}{kvs:List (List aF×V)}{xs:List (List aF×ZE×ZC)}(r:KT H kvs xs)(k:List aF){y:V}{u:ZC}(ry:RelV y u) :
  KT H (kvs.map λkv=>if kv.1=k then(kv.1,y) else kv) (xs.map (putAt k u)):=by
 induction r with
 |nil=>exact .nil
 |@cons p q ps qs h t ih =>
  rw[O8,O8];refine .cons ?_ ih
  obtain⟨h1,h2,h3⟩:=h;unfold putAt;by_cases e:p.1=k
  ·rw[OX e,OX (h1.symm.trans e)];exact⟨h1,h2,ry⟩
  ·rw[O0 e,O0 (λz=>e (h1.trans z))];exact⟨h1,h2,h3⟩
def KT.put{H:Hp}{kvs:List (List aF×V)}{xs:List (List aF×ZE×ZC)}(r:KT H kvs xs)(k:List aF){b:ZE}{y:V}{u:ZC}(hb:KTup H b k)(ry:RelV y u) :
  KT H (cq kvs k y) (storedH xs k b u):=by
 have e:(kvs.any λkv=>decide (kv.1=k))=(atKey xs k).isSome:=by
  rw[qm,(r.val k).isSome_eq,QR]
 unfold cq storedH;rw[e];by_cases q:(atKey xs k).isSome=true
 ·rw[OX q,OX q];exact r.repl k ry
 ·rw[O0 q,O0 q];exact Paired.snoc r ⟨rfl,hb,ry⟩
def KT.keeps{H H':Hp}{kvs:List (List aF×V)}{xs:List (List aF×ZE×ZC)}(r:KT H kvs xs)(ht:∀ b ys,H b=some (.tup ys)->H' b=some (.tup ys)):KT H' kvs xs :=(
 Paired.mapP r λ_ _ z=>⟨z.1,z.2.1.imp λ_ e=>⟨ht _ _ e.1,e.2⟩,z.2.2⟩)
section
variable{P:ZD}{w:ZF}{H:Hp}{h:Heap}{a:ZE}
def yB{u:HO}(ok:HOk P w H h)(e:Rd H a u):ObjOk P w H h a u:=(e.ok ok)
def iW{kvs:List (aF×V)}(ok:HOk P w H h)(e:Rd H a (.dK kvs)):kvs.length<=sizeLine/\(a == sysModules)=false/\∃ vs,KV kvs vs/\h.DictOf (d9 P w) a vs :=(
 show ObjOk P w H h a (.dK kvs) from yB ok e)
def dk_of{kvs:List (aF×V)}(ok:HOk P w H h)(e:H a=some (.dK kvs)):kvs.length<=sizeLine/\(a == sysModules)=false/\∃ vs,KV kvs vs/\h.DictOf (d9 P w) a vs:=(iW ok (.inl e))
def lj{ks:List aF}(ok:HOk P w H h)(e:KTup H a ks):(tupleKind (iu P w)).is h ks a:=by
 obtain⟨ys,e,ek⟩:=e;obtain⟨_,its,r,o,h1,h2,n,h3⟩:=(show ObjOk P w H h a (.tup ys) from ok a _ e)
 exact⟨o,its.toArray,n,h1,h2,h3,by simpa using yz ek r⟩
def ki{xc:Option (List ZE)}{kvs:List (List aF×V)}(ok:HOk P w H h)(e:Rd H a (.dT xc kvs)):kvs.length<=sizeLine/\(a == sysModules)=false /\
  ∃ xs,KT H kvs xs/\(∀ as,xc=some as->xs.map (·.2.1)=as)/\DictE h (tupleKind (iu P w)) a xs xs.length:=by
 obtain⟨z,y,xs,r,o,es,ep,h1,h2,h3,h4,h5⟩:=(show ObjOk P w H h a (.dT xc kvs) from yB ok e)
 obtain⟨h5,h6,h7⟩:=h5;subst h6;refine⟨z,y,xs,r,h7,o,es,h1,h2,h3,h4,λx hx=>?_,h5⟩
 have all:∀ {l:List (List aF×V)} {m:List (List aF×ZE×ZC)},KT H l m->∀ x∈m,(tupleKind (iu P w)).is h x.1 x.2.1:=by
  intro l m q;induction q with
  |nil=>intro x hx;exact nomatch hx
  |@cons p q ps qs hq t ih =>
   intro x hx;rcases Pb.mp hx with e|hx
   ·subst e
    exact lj ok (by rw[<- hq.1];exact hq.2.1)
   ·exact ih x hx
 exact all r x hx
def Gg{xc:Option (List ZE)}{kvs:List (List aF×V)}(ok:HOk P w H h)(e:H a=some (.dT xc kvs)):kvs.length<=sizeLine/\(a == sysModules)=false /\
  ∃ xs,KT H kvs xs/\(∀ as,xc=some as->xs.map (·.2.1)=as)/\DictE h (tupleKind (iu P w)) a xs xs.length:=(ki ok (.inl e))
end
def DGet(H:Hp)(a:ZE)(y:V)(r:Option V):Prop :=
 (∃ kvs k,Rd H a (.dK kvs)/\y=kV k/\r=bF kvs k)\/∃ xc kvs k b,Rd H a (.dT xc kvs)/\y=.ref b/\KTup H b k/\r=bF kvs k
def DPut(H:Hp)(a:ZE)(y v:V)(H':Hp):Prop :=
 (∃ kvs k,H a=some (.dK kvs)/\y=kV k/\kvs.length<sizeLine/\H'=upd H a (.dK (cq kvs k v))) \/
 ∃ xc kvs k b,H a=some (.dT xc kvs)/\y=.ref b/\KTup H b k/\kvs.length<sizeLine/\H'=upd H a (.dT (yA xc (kvs.any λkv=>decide (kv.1=k)) b) (cq kvs k v))
def DGet.k{H:Hp}{a:ZE}{kvs:List (aF×V)}{k:aF}(e:H a=some (.dK kvs)):DGet H a (kV k) (bF kvs k):=(.inl ⟨kvs,k,.inl e,rfl,rfl⟩)
def DGet.t{H:Hp}{a b:ZE}{kvs:List (List aF×V)}{k:List aF}{xc:Option (List ZE)}(e:H a=some (.dT xc kvs))(eb:KTup H b k):DGet H a (.ref b) (bF kvs k):=(.inr ⟨xc,kvs,k,b,.inl e,rfl,eb,rfl⟩)
def DPut.k{H:Hp}{a:ZE}{kvs:List (aF×V)}{k:aF}{v:V}(e:H a=some (.dK kvs))(hl:kvs.length<sizeLine):DPut H a (kV k) v (upd H a (.dK (cq kvs k v))):=(.inl ⟨kvs,k,e,rfl,hl,rfl⟩)
def DPut.t{H:Hp}{a b:ZE}{kvs:List (List aF×V)}{k:List aF}{v:V}(e:H a=some (.dT none kvs))(eb:KTup H b k)(hl:kvs.length<sizeLine) :
  DPut H a (.ref b) v (upd H a (.dT none (cq kvs k v))):=(.inr ⟨none,kvs,k,b,e,rfl,eb,hl,rfl⟩)
section
variable{X:Cx}{pins:List (ZE×Obj)}{σ:St}{H:Hp}{s:ZB}{a:ZE}{y v:V}{u r:ZC}{o:Option V}{A:ZG}{E:ZC->ZB->Prop}
def Inv.big(I:Inv X pins σ H s):sysModules<s.heap.objs.size:=by
 have h:mainGlobals<s.heap.objs.size:=(I.mod.glob.keeps I.bk).lt;exact RI 'd' h
def Gh{Q:ZC->ZB->Prop}(hu:A.units+1<cLine)(I:Inv X pins σ H s)(g:DGet H a y (some v))(ry:RelV y u)(h:∀ w' s',Inv X pins σ H s'->RelV v w'->Q w' s') :
  wpAny (model X.prog X.w) A (getItem (.ref a) u) Q E s:=by
 rcases g with⟨kvs,k,e,ey,l⟩|⟨xc,kvs,k,b,e,ey,eb,l⟩
 ·subst ey
  obtain⟨z,hd,vs,rel,dd⟩:=iW I.hok e;obtain⟨w',hw,rw'⟩:=RelO.some_of (v:=v) (o:=valueAt vs k) (by rw[l];exact rel.val k)
  exact wpAny_getItem_of (kh ry) dd.mapOf hw (h w' _ (I.tok _) rw')
 ·subst ey
  cases (show u=Value.ref b from ry)
  obtain⟨z,hd,xs,rel,_,dd⟩:=ki I.hok e;replace dd:=dd.of
  obtain⟨w',hw,rw'⟩:=RelO.some_of (v:=v) (o:=(atKey xs k).map (·.2)) (by rw[l];exact rel.val k)
  obtain⟨p,hp,hp2⟩:=Pd.mp hw;refine wpAny_getItem_heap (QB hu) (lj I.hok eb) dd hp ?_
  rw[hp2];exact h w' _ (I.tok _) rw'
def ug{Q:ZC->ZB->Prop}(hu:A.units+1<cLine)(I:Inv X pins σ H s)(g:DGet H a y o)(ry:RelV y u)(h:∀ s',Inv X pins σ H s'->Q (.bool o.isSome) s') :
  wpAny (model X.prog X.w) A (compareOp .In u (.ref a)) Q E s:=by
 rcases g with⟨kvs,k,e,ey,l⟩|⟨xc,kvs,k,b,e,ey,eb,l⟩
 ·subst ey
  obtain⟨z,hd,vs,rel,dd⟩:=iW I.hok e;refine wpAny_in_of (kh ry) hd dd.mapOf ?_
  rw[<- (rel.val k).isSome_eq,<- l];exact h _ (I.tok _)
 ·subst ey
  cases (show u=Value.ref b from ry)
  obtain⟨z,hd,xs,rel,_,dd⟩:=ki I.hok e;replace dd:=dd.of
  refine wpAny_in_heap (QB hu) (lj I.hok eb) hd dd ?_
  have q:=(rel.val k).isSome_eq;rw[QR] at q;rw[<- q,<- l];exact h _ (I.tok _)
def Gi{Q:ZC->ZB->Prop}(hu:A.units+1<cLine)(I:Inv X pins σ H s)(g:DGet H a y o)(ry:RelV y u)(h:∀ s',Inv X pins σ H s'->Q (.bool (!o.isSome)) s') :
  wpAny (model X.prog X.w) A (compareOp .NotIn u (.ref a)) Q E s:=by
 rcases g with⟨kvs,k,e,ey,l⟩|⟨xc,kvs,k,b,e,ey,eb,l⟩
 ·subst ey
  obtain⟨z,hd,vs,rel,dd⟩:=iW I.hok e;refine wpAny_notIn_of (kh ry) hd dd.mapOf ?_
  rw[<- (rel.val k).isSome_eq,<- l];exact h _ (I.tok _)
 ·subst ey
  cases (show u=Value.ref b from ry)
  obtain⟨z,hd,xs,rel,_,dd⟩:=ki I.hok e;replace dd:=dd.of
  refine wpAny_notIn_heap (QB hu) (lj I.hok eb) hd dd ?_
  have q:=(rel.val k).isSome_eq;rw[QR] at q;rw[<- q,<- l];exact h _ (I.tok _)
def qo{h':Heap}{t':Nat}{ob:HO}(I:Inv X pins σ H s)(mu:nR (H a))(hs:Heap.SameBut a s.heap h')(he:∃ q,h'.get? a=some q)(new:ObjOk X.prog X.w (upd H a ob) h' a ob) :
  Inv X pins σ (upd H a ob) { s with heap:=h',toks:=t' } :=(
 I.write (x:=a) (e:=a) mu (.inl rfl) (λb q hb z=>(hs.2 b hb).trans z) he new)
def qr{P:ZD}{w:ZF}{H':Hp}{h':Heap}{kvs:List (aF×V)}{vs:List (aF×ZC)}(z:kvs.length<=sizeLine)(hd:(a == sysModules)=false)(rel:KV kvs vs)(dd:h'.DictOf (d9 P w) a vs) :
  ObjOk P w H' h' a (.dK kvs):=(⟨z,hd,vs,rel,dd⟩)
def Gj{H':Hp}{Q:Unit->ZB->Prop}(hu:A.units+1<cLine)(I:Inv X pins σ H s)(g:DPut H a y v H')(ry:RelV y u)(rv:RelV v r)(h:∀ s',Inv X pins σ H' s'->Q () s') :
  wpAny (model X.prog X.w) A (setItem (.ref a) u r) Q E s:=by
 rcases g with⟨kvs,k,e,ey,l,eH⟩|⟨xc,kvs,k,b,e,ey,eb,l,eH⟩
 ·subst ey eH
  obtain⟨z,hd,vs,rel,dd⟩:=dk_of I.hok e;have hz:vs.length<=sizeLine:=by rw[<- rel.length];exact z
  have hl:(cq kvs k v).length<=sizeLine:=by have:=yw kvs k v;lia
  refine wpAny_setItem_pairs (hsz:=hz) (kh ry) dd λh' dd' hs=>h _ ?_
  have he:∃ q,h'.get? a=some q:=let ⟨q,_,_,hq,_⟩:=dd';⟨q,hq⟩
  exact qo I (by rw[e];exact True.intro) hs he (qr hl hd (rel.put k rv) dd')
 ·subst ey eH
  cases (show u=Value.ref b from ry)
  obtain⟨z,hd,xs,rel,ha,dd⟩:=Gg I.hok e;have hz:xs.length<=sizeLine:=by rw[<- Paired.length rel];exact z
  have hl:(cq kvs k v).length<=sizeLine:=by have:=yw kvs k v;lia
  have eo:(kvs.any λkv=>decide (kv.1=k))=(atKey xs k).isSome:=by rw[qm,(rel.val k).isSome_eq,QR]
  refine uf (QB hu) (lj I.hok eb) dd hz λh' dd' hs=>h _ ?_
  obtain⟨q,es,hq,h2,h3,h4,_,h5⟩:=dd';refine qo I (by rw[e];exact True.intro) hs ⟨q,hq⟩ ⟨hl,hd,_,(rel.put k eb rv).keeps λc ys ec=>?_,q,es,_,hq,h2,h3,h4,h5,rfl,by rw[eo];exact Ge ha⟩
  rw[bg (DQ ec e (λz=>nomatch z))];exact ec
end
section
variable{X:Cx}{pins:List (ZE×Obj)}{σ:St}{H:Hp}{s:ZB}{a:ZE}{kvs:List (aF×V)}{k:aF}{u:ZC}{A:ZG}{E:ZC->ZB->Prop}
def Gn{v:V}{more:YB}{Q:ZC->ZB->Prop}(I:Inv X pins σ H s)(e:H a=some (.dK kvs))(ry:RelV (kV k) u)(l:bF kvs k=some v)(hm:more=[]\/∃ x,more=[x])
  (h:∀ w' s',Inv X pins σ (upd H a (.dK (jq kvs k))) s'->RelV v w'->Q w' s'):wpAny (model X.prog X.w) A (call (.builtin "dict.pop") (.ref a::u::more)) Q E s:=by
 obtain⟨z,hd,vs,rel,dd⟩:=dk_of I.hok e;obtain⟨w',hw,rw'⟩:=RelO.some_of (v:=v) (o:=valueAt vs k) (by rw[<- l];exact rel.val k)
 have hp:(keyPart u).isSome=true:=by
  cases k with
  |inl i=>obtain⟨t,q⟩:=(show ∃ t,u=Value.int i t from ry);subst q;rfl
  |inr x=>obtain⟨t,q⟩:=(show ∃ t,u=Value.str x t from ry);subst q;rfl
 have ha:argsOk "dict.pop" ⟨.ref a::u::more,[]⟩:=by
  rcases hm with q|⟨x,q⟩
  ·subst q;exact PySem.F.args_dict_pop_2 _ _
  ·subst q;exact PySem.F.args_dict_pop_3 _ _ _
 refine Ro SR dd.typeIs PySem.F.entry_dict_pop ha (meets_dict_pop_there (d9 X.prog X.w) a (kh ry) more hm hp)
  ⟨vs,w',dd,by rw[<- rel.length];exact z,hw,λh' dd' hs=>h w' _ ?_ rw'⟩
 have he:∃ q,h'.get? a=some q:=let ⟨q,_,_,hq,_⟩:=dd';⟨q,hq⟩
 exact qo I (by rw[e];exact True.intro) hs he (qr (OW (yx kvs k) z) hd (rel.drop k) dd')
def Gp{Q:ZC->ZB->Prop}(I:Inv X pins σ H s)(e:Rd H a (.dK kvs))(h:∀ t s',Inv X pins σ H s'->Q (.int kvs.length t) s'):wpAny (model X.prog X.w) A (call (.builtin "len") [.ref a]) Q E s:=by
 obtain⟨z,hd,vs,rel,dd⟩:=iW I.hok e;refine call_len_dict hd dd (by rw[<- rel.length];rw[sizeLine_eq] at z;lia) ?_
 rw[<- rel.length];exact h _ _ (I.tok _)
end
def og(i:Expr):Prop:=∀ ov iv,subscripted i false ov iv=operate [ov,iv] (getItem ov iv)
def Gq {prog:ZD} {w:ZF} {A:ZG} {E:ZC->ZB->Prop} {s:ZB} {env:Env} {value slice:Expr} {pos:Pos} {T id:String} {Q:ZC->ZB->Prop}
  (hl:typeLookup (.type T) "__getitem__"=pure (some (.builtin id))) (hs:og slice)
  (h:wpAny (model prog w) A (eval value env) (λo s₁=>wpAny (model prog w) A (eval slice env) (λi s₂=>s₂.TypeIs o T/\wpAny (model prog w) A (getItem o i) Q E s₂) E s₁) E s) :
  wpAny (model prog w) A (eval (.Subscript value slice pos) env) Q E s:=by
 refine Subscript_ (PC h (λo s₁ h₁=>PC h₁ (λi s₂ h₂=>?_) λ_ _ x=>x) λ_ _ x=>x)
 obtain⟨hT,h₂⟩:=h₂;unfold subscriptTail;refine OT ?_
 rw[getitemInPython_of_ne hT.not_modules];refine OT (SQ hT hl ?_)
 have fin:wpAny (model prog w) A (subscripted slice false o i) (λr s₃=>wpAny (model prog w) A (letTemporaryGo value o r >>= λ_=>pure r) Q E s₃) E s₂:=by
  rw[hs o i];exact wpAny_operating (PC h₂ (λr s₃ h₃=>OT (wpAny_letTemporaryGo (O1 h₃))) λ_ _ x=>x)
 first
  |exact O1 (OT fin)
  |exact OT (O1 (OT fin))
  |exact OT fin
def Gr{X:Cx}{pins:List (ZE×Obj)}{σ:St}{H:Hp}{s:ZB}{a:ZE}{y:V}{o:Option V}(I:Inv X pins σ H s)(g:DGet H a y o):s.TypeIs (.ref a) "dict" := by
 rcases g with⟨kvs,k,e,_,_⟩|⟨xc,kvs,k,b,e,_,_,_⟩
 ·obtain⟨_,_,vs,_,dd⟩:=iW I.hok e
  exact dd.typeIs
 ·obtain⟨_,_,xs,_,_,dd⟩:=ki I.hok e
  replace dd:=dd.of
  exact dd.typeIs
def Gs(td ty:TE):TE:=λσ H Q=>td σ H λx H1=>ty σ H1 λy H2=>∃ a v,x=.ref a/\DGet H2 a y (some v)/\Q v H2
def Gu(td ty tv:TE):TS:=λD σ H=>tv σ H λv H1=>td σ H1 λx H2=>ty σ H2 λy H3=>∃ a H4,x=.ref a/\DPut H3 a y v H4/\D.nx σ H4
section
variable{X:Cx}{o i e value:Expr}{pos pos' tpos:Pos}{td ty tv:TE}
def yC(hu:X.A.units+1<cLine)(ho:PE X o td)(hi:PE X i ty)(hs:og i):PE X (.Subscript o i pos) (Gs td ty):=by
 intro pins s σ H Q I h;refine Gq PySem.F.slot_dict_getitem.lookup hs (thn (ho pins s σ H _ I h) λu s1 ⟨x,H1,I1,rx,q1⟩=>thn (hi pins s1 σ H1 _ I1 q1) λiv s2 Zz=>?_);obtain⟨y,H2,I2,ry,a,v,ex,g,q2⟩:=Zz
 subst ex;obtain rfl:u=Value.ref a:=rx
 exact⟨Gr I2 g,Gh hu I2 g ry λw' s3 I3 rw'=>⟨v,H2,I3,rw',q2⟩⟩
def Gw(hu:X.A.units+1<cLine)(ho:PE X o td)(hi:PE X i ty)(hv:PE X value tv)(hs:swapsWith value (some (.Subscript o i pos')) pos.line X.env=pure false) :
  PS X (.Assign [.Subscript o i pos'] value pos) (Gu td ty tv):=by
 intro pins s σ H D I h;refine wpAny_Assign_Subscript (thn (hv pins s σ H _ I h) λr s1 ⟨v,H1,I1,rv,q1⟩=>thn (ho pins s1 σ H1 _ I1 q1) λu s2 ⟨x,H2,I2,rx,q2⟩=>thn (hi pins s2 σ H2 _ I2 q2) λiv s3 Zz=>?_) hs;obtain⟨y,H3,I3,ry,a,H4,ex,g,q3⟩:=Zz
 subst ex;obtain rfl:u=Value.ref a:=rx
 exact Gj hu I3 g ry rv λs4 I4=>⟨σ,H4,I4,q3⟩
end
def Gx{P:ZD}{w:ZF}{H:Hp}(h:Heap)(hb:sysModules<h.objs.size):ObjOk P w H (h.push { cls:=.type "dict",data:=.dict #[] }) h.objs.size (.dK []) :=(
 ⟨Po _,beq_eq_false_iff_ne.mpr (Ne.symm (Pq hb)),[],.nil,Heap.DictOf.new h⟩)
def Gy{P:ZD}{w:ZF}{H:Hp}{xc:Option (List ZE)}(hx:xc=none\/xc=some [])(h:Heap)(hb:sysModules<h.objs.size):ObjOk P w H (h.push { cls:=.type "dict",data:=.dict #[] }) h.objs.size (.dT xc []) :=(
 ⟨Po _,beq_eq_false_iff_ne.mpr (Ne.symm (Pq hb)),[],.nil,_,#[],0,Pa _ rfl,⟨rfl,rfl,rfl⟩,rfl,rfl,QS,rfl,λas e=>by
  rcases hx with rfl|rfl
  ·cases e
  ·injection e⟩)
def Gz:TE:=λ_ H Q=>∀ p,H p=none->Q (.ref p) (upd H p (.dK []))
def GA:TE:=λ_ H Q=>∀ p,H p=none->Q (.ref p) (upd H p (.dT none []))
section
variable{X:Cx}{pos:Pos}
def GB:PE X (.Dict [] [] pos) Gz:=(λpins s σ H Q I h =>
 wpAny_Dict_empty ⟨.ref s.heap.objs.size,_,I.laid (a:=s.heap.objs.size) (o:=.dK []) (t':=s.toks) (λ_ _ q=>OZ _ q) (OV _) (Gx s.heap I.big),rfl,h _ (I.hok.fresh (OV _))⟩)
def GC:PE X (.Dict [] [] pos) GA:=(λpins s σ H Q I h =>
 wpAny_Dict_empty ⟨.ref s.heap.objs.size,_,I.laid (a:=s.heap.objs.size) (o:=.dT none []) (t':=s.toks) (λ_ _ q=>OZ _ q) (OV _) (Gy (.inl rfl) s.heap I.big),rfl,h _ (I.hok.fresh (OV _))⟩)
end
structure M1(X:Cx)(o:Expr)(m:Str)(apos:Pos)(e:Expr)(cpos:Pos):Prop where
 base:attributeBase o m X.env (eval o X.env)=eval o X.env
 few:((backTo cpos (starEach [e] X.env)).all (λx=>!x.1) && (backToKw cpos (keywordEach [] X.env)).all (λx=>x.1.isSome)
  && decide (([e]:YD).length+([]:List Keyword).length+(if ([]:List Keyword).isEmpty then 0 else 1)<30))=true
 line:(apos.endLine == cpos.line)=true
 trees:backTo cpos (starEach [e] X.env)=[(false,eval e X.env)]
structure M2(X:Cx)(o:Expr)(m:Str)(apos:Pos)(e f:Expr)(cpos:Pos):Prop where
 base:attributeBase o m X.env (eval o X.env)=eval o X.env
 few:((backTo cpos (starEach [e,f] X.env)).all (λx=>!x.1) && (backToKw cpos (keywordEach [] X.env)).all (λx=>x.1.isSome)
  && decide (([e,f]:YD).length+([]:List Keyword).length+(if ([]:List Keyword).isEmpty then 0 else 1)<30))=true
 line:(apos.endLine == cpos.line)=true
 trees:backTo cpos (starEach [e,f] X.env)=[(false,eval e X.env),(false,eval f X.env)]
def oh(H:Hp)(a:ZE):Prop:=(∃ kvs,Rd H a (.dK kvs))\/∃ xc kvs,Rd H a (.dT xc kvs)
def uh{X:Cx}{pins:List (ZE×Obj)}{σ:St}{H:Hp}{s:ZB}{a:ZE}(I:Inv X pins σ H s)(d:oh H a) :
  s.TypeIs (.ref a) "dict" /\ (∀ b,Value.ref a=.ref b->∃ ob,s.heap.get? b=some ob/\ob.dict=none)/\(a == sysModules)=false:=by
 rcases d with⟨kvs,e⟩|⟨xc,kvs,e⟩
 ·obtain⟨_,hd,vs,_,dd⟩:=iW I.hok e
  refine⟨dd.typeIs,λb q=>?_,hd⟩
  cases q
  obtain⟨ob,_,_,h1,h2,_⟩:=dd;exact⟨ob,h1,h2.2.1⟩
 ·obtain⟨_,hd,xs,_,_,dd⟩:=ki I.hok e
  replace dd:=dd.of
  refine⟨dd.typeIs,λb q=>?_,hd⟩
  cases q
  obtain⟨ob,_,_,h1,h2,_⟩:=dd;exact⟨ob,h1,h2.2.1⟩
section
variable{X:Cx}{pins:List (ZE×Obj)}{σ:St}{H:Hp}{s:ZB}{a:ZE}{y d:V}{u r:ZC}{o:Option V}{A:ZG}{E:ZC->ZB->Prop}
def GD{Q:ZC->ZB->Prop}(hu:A.units+1<cLine)(I:Inv X pins σ H s)(g:DGet H a y o)(ry:RelV y u)(h:∀ w' s',Inv X pins σ H s'->RelV (o.getD .non) w'->Q w' s') :
  wpAny (model X.prog X.w) A (call (.builtin "dict.get") [.ref a,u]) Q E s:=by
 rcases g with⟨kvs,k,e,ey,l⟩|⟨xc,kvs,k,b,e,ey,eb,l⟩
 ·subst ey
  obtain⟨z,hd,vs,rel,dd⟩:=iW I.hok e;refine Ro Qe dd.typeIs QJ (Se _ _) (meets_dict_get (d9 X.prog X.w) a (kh ry) hd) ⟨_,dd.mapOf,h _ _ (I.tok _) ?_⟩
  rw[l];exact(rel.val k).getD rfl
 ·subst ey
  cases (show u=Value.ref b from ry)
  obtain⟨z,hd,xs,rel,_,dd⟩:=ki I.hok e;replace dd:=dd.of
  refine Ro Qe dd.typeIs QJ (Se _ _) (meetsH_dict_get (tupleKind (iu X.prog X.w)) a b hd) ⟨QB hu,k,xs,lj I.hok eb,dd,h _ _ (I.tok _) ?_⟩
  rw[l];exact(rel.val k).getD rfl
def GE{Q:ZC->ZB->Prop}(hu:A.units+1<cLine)(I:Inv X pins σ H s)(g:DGet H a y o)(ry:RelV y u)(rd:RelV d r)(h:∀ w' s',Inv X pins σ H s'->RelV (o.getD d) w'->Q w' s') :
  wpAny (model X.prog X.w) A (call (.builtin "dict.get") [.ref a,u,r]) Q E s:=by
 rcases g with⟨kvs,k,e,ey,l⟩|⟨xc,kvs,k,b,e,ey,eb,l⟩
 ·subst ey
  obtain⟨z,hd,vs,rel,dd⟩:=iW I.hok e;refine Ro Qe dd.typeIs QJ (Sf _ _ _) (meets_dict_get_default (d9 X.prog X.w) a (kh ry) hd r) ⟨_,dd.mapOf,h _ _ (I.tok _) ?_⟩
  rw[l];exact(rel.val k).getD rd
 ·subst ey
  cases (show u=Value.ref b from ry)
  obtain⟨z,hd,xs,rel,_,dd⟩:=ki I.hok e;replace dd:=dd.of
  refine Ro Qe dd.typeIs QJ (Sf _ _ _) (meetsH_dict_get_default (tupleKind (iu X.prog X.w)) a b hd r) ⟨QB hu,k,xs,lj I.hok eb,dd,h _ _ (I.tok _) ?_⟩
  rw[l];exact(rel.val k).getD rd
end
def GG(td ty:TE):TE:=λσ H Q=>td σ H λx H1=>∃ a,x=.ref a/\oh H1 a/\ty σ H1 λy H2=>∃ o,DGet H2 a y o/\Q (o.getD .non) H2
def GH(td ty tx:TE):TE:=λσ H Q=>td σ H λx H1=>∃ a,x=.ref a/\oh H1 a/\ty σ H1 λy H2=>tx σ H2 λz H3=>∃ o,DGet H3 a y o/\Q (o.getD z) H3
def GI(td ty:TE):TE:=λσ H Q=>td σ H λx H1=>∃ a,x=.ref a/\oh H1 a/\ty σ H1 λy H2=>∃ kvs k v,H2 a=some (.dK kvs)/\y=kV k/\bF kvs k=some v/\Q v (upd H2 a (.dK (jq kvs k)))
section
variable{X:Cx}{o e f:Expr}{apos cpos:Pos}{td ty tx:TE}
def GJ (hu:X.A.units+1<cLine) (ho:PE X o td) (he:PE X e ty) (m:M1 X o "get" apos e cpos):PE X (.Call (.Attribute o "get" apos) [e] [] cpos) (GG td ty):=by
 intro pins s σ H Q I h;refine R7 m.base m.few m.line QF Qe SU (thn (ho pins s σ H _ I h) λu s1 Zz=>?_);obtain⟨x,H1,I1,rx,a,ex,d,q1⟩:=Zz
 subst ex;obtain rfl:u=Value.ref a:=rx
 obtain⟨t1,t2,_⟩:=uh I1 d;refine⟨t1,t2,?_⟩
 rw[m.trees];refine Qw rfl (QD (QI (thn (he pins s1 σ H1 _ I1 q1) λiv s2 ⟨y,H2,I2,ry,ov,g,q2⟩=>Rj ?_)))
 exact GD hu I2 g ry λw' s3 I3 rw'=>⟨_,H2,I3,rw',q2⟩
def GL (hu:X.A.units+1<cLine) (ho:PE X o td) (he:PE X e ty) (hf:PE X f tx) (m:M2 X o "get" apos e f cpos):PE X (.Call (.Attribute o "get" apos) [e,f] [] cpos) (GH td ty tx):=by
 intro pins s σ H Q I h;refine R7 m.base m.few m.line QF Qe SU (thn (ho pins s σ H _ I h) λu s1 Zz=>?_);obtain⟨x,H1,I1,rx,a,ex,d,q1⟩:=Zz
 subst ex;obtain rfl:u=Value.ref a:=rx
 obtain⟨t1,t2,_⟩:=uh I1 d;refine⟨t1,t2,?_⟩
 rw[m.trees];refine Qw rfl (QD (QI (thn (he pins s1 σ H1 _ I1 q1) λiv s2 ⟨y,H2,I2,ry,q2⟩ =>
  QI (thn (hf pins s2 σ H2 _ I2 q2) λfv s3 ⟨z,H3,I3,rz,ov,g,q3⟩=>Rj ?_))))
 exact GE hu I3 g ry rz λw' s4 I4 rw'=>⟨_,H3,I4,rw',q3⟩
def GN (ho:PE X o td) (he:PE X e ty) (m:M1 X o "pop" apos e cpos):PE X (.Call (.Attribute o "pop" apos) [e] [] cpos) (GI td ty):=by
 intro pins s σ H Q I h;refine R7 m.base m.few m.line QF SR PySem.F.type_dict_pop (thn (ho pins s σ H _ I h) λu s1 Zz=>?_);obtain⟨x,H1,I1,rx,a,ex,d,q1⟩:=Zz
 subst ex;obtain rfl:u=Value.ref a:=rx
 obtain⟨t1,t2,_⟩:=uh I1 d;refine⟨t1,t2,?_⟩
 rw[m.trees];refine Qw rfl (QD (QI (thn (he pins s1 σ H1 _ I1 q1) λiv s2 ⟨y,H2,I2,ry,kvs,k,v,ea,ey,l,q2⟩=>Rj ?_)))
 subst ey;exact Gn I2 ea ry l (.inl rfl) λw' s3 I3 rw'=>⟨v,_,I3,rw',q2⟩
end
section
variable{X:Cx}{pins:List (ZE×Obj)}{σ:St}{H:Hp}{s:ZB}{a:ZE}{kvs:List (aF×V)}{A:ZG}{E:ZC->ZB->Prop}
end
section
variable{X:Cx}{pins:List (ZE×Obj)}{σ:St}{H:Hp}{s:ZB}{a:ZE}{y:V}{u:ZC}{A:ZG}{E:ZC->ZB->Prop}
end
end L2
namespace Att
open PySem PySem.W PySem.Calls PyProof.Rows
def GO{P:Params}{h:Heap}:∀ (ns:List Int) (vs:YB),WellAll P h vs (ns.map WData.int)->IntsAre vs ns:=by
 intro ns;induction ns with
 |nil =>
  intro vs w;rw[QK] at w
  cases w
  exact .nil
 |cons n ns ih =>
  intro vs w;rw[O8] at w
  cases w with
  |cons a b =>
   cases a
   exact .cons _ _ (ih _ b)
def GP{l:OpenLaw}{n:Nat}(hn:l.most=some n){P:Params}{h:Heap}{args:List WData}{vals:YB}
  (hpre:l.row.toRowW.claim.pre args=true)(hwl:WellAll P h vals args) :
  ∃ a vs ns,vals=[Value.ref a]/\args=[WData.list (ns.map WData.int)]/\h.get? a=some { cls:=.type "list",data:=.seq vs.toArray }/\IntsAre vs ns/\ns.length<=n:=by
 have hsh:WShape.hasAll [] args [.list .int]=true:=(pre_splitW hpre).1;have hc:l.pre.holds [] { args:=args }=true:=(pre_splitW hpre).2;obtain⟨d,r,rfl,h1,h2⟩:=hasAllW_cons hsh;obtain rfl:=hasAllW_nil h2;obtain⟨xs,rfl,h3⟩:=hasW_list h1;obtain⟨ns,rfl⟩:=items_int h3;have hlen:ns.length<=n:=by
  unfold OpenLaw.pre at hc;have h4:(WTm.not (.lt (.lit (.int (n:Int))) (.len (.arg 0)))).holds [] { args:=[.list (ns.map .int)] }=true:=by
   have h4:=(holds_andW hc).1;rw[hn] at h4;exact h4
  have h5:=condW_of h4 (w_not (w_lt w_lit (w_len_list (w_arg rfl))));rw[O2] at h5;refine Sg λq=>?_
  have q':(n:Int)<((ns.length:Nat):Int):=by lia
  first
   |(rw[Pf q'] at h5;exact absurd h5 'd')
   |(simp at h5;lia)
 cases hwl with
 |cons w1 w2 =>
  cases w2
  cases w1 with
  |list ho hall=>exact⟨_,_,ns,rfl,rfl,ho,GO ns _ hall,hlen⟩
def GQ(l:OpenLaw)(args:List WData):l.row.toRowW.claim.post args (.bool true) args=true :=(
 postW_of (r:=l.row.toRowW) (X:=(true == true))
  (show WShape.has [] (.bool true) .bool=true by first|rfl|decide|simp[WShape.has,WShape.arms,WShape.armsAll])
  (show (WTm.eq .res (.lit (.bool true))).value [] { args:=args,res:=some (.bool true),after:=args }=some (.bool (true == true)) from w_eq_bool (w_res rfl) w_lit) rfl)
def attach_call {l:OpenLaw} {n:Nat} {q:ZD} {loose:List Str} {XP:YA->Heap->Prop} {YP:ZF->Heap->Prop} {d:DefRec}
  (hn:l.most=some n) (hdf:d.params.defaults=[])
  (call:∀ (w:ZF) (s₀ s₁:ZB) (mg mb:YA) (fa:ZE) (o:Obj) (pm cd doc:ZC) (a:ZE) (vs:YB) (ns:List Int),
   Ground q loose [] XP w s₀ mg mb s₁.heap->YP w s₁.heap ->
   s₁.heap.get? fa=some o->o.data=.func (docDef d.name d.params d.body d.scope pm cd doc)->s₁.heap.CodeRec cd d.name->mg d.name=some (.ref fa) ->
   s₁.heap.get? a=some { cls:=.type "list",data:=.seq vs.toArray }->IntsAre vs ns->ns.length<=n->s₁.gens=#[] ->
   codeAny (model l.prog w) callerA (.call (.ref fa) ⟨[.ref a],[]⟩) (λr s'=>r=.ok (.ret (.bool true))/\OldK s₁.heap s'.heap/\s'.os=s₁.os/\AllBare s'.gens) s₁) :
  WalkO q loose XP YP l.row.toRowW d [] (λf vs=>PySem.call f vs):=by
 intro w s₀ s₁ mg mb G Y fa o pm cd doc dV kV ho hd hcd hD hmg hg args vals as hpre hlay hrd hwl hlo;obtain rfl:dV=.none:=Dflts.none hD hdf;obtain rfl:kV=.none:=Dflts.noKw hD;obtain⟨a,vs,ns,rfl,rfl,hobj,hints,hlen⟩:=GP hn hpre hwl;refine enter_call (SJ (call w s₀ s₁ mg mb fa o pm cd doc a vs ns G Y ho (fd_plain hd) hcd hmg hobj hints hlen hg) λr s' hq=>?_)
 obtain⟨rfl,h2,h3,h4⟩:=hq;exact⟨.inl ⟨.bool true,.bool true,[],rfl,λ_=>rfl,.bool true,GQ l _,λ_=>⟨List.Pairwise.nil,λ_ hm=>(nomatch hm)⟩⟩,h2,h3,h4⟩
section
variable{prog:ZD}{w:ZF}{A:ZG}{E:ZC->ZB->Prop}{s:ZB}{K:Frag}
end
end Att
namespace L2
open PySem PySem.Spec PyProof.Rows
theorem yD:∀ {vs:YB} {ns:List Int},IntsAre vs ns->Vals (ns.map V.int) vs
 |_,_,.nil=>.nil
 |_,_,.cons n t h=>.cons ⟨t,rfl⟩ (yD h)
def lq(H:Hp):Prop:=∀ b,H b=none\/∃ o xs,H b=some (.frz o (.lst xs))
def GR {P:ZD} {w:ZF} {K:ZA} {mg mb:YA} {CX:fO} {k:Nat} {fa a:ZE} {fd:FuncData} {x:Str} {sp:Sp} {s₁:ZB} {vs:YB} {ns:List Int}
  (KX:K.In s₁.heap) (hns:s₁.heap.Ns mainGlobals mg) (hb:s₁.heap.Ns builtinsNs mb) (hbb:∀ x:Str,x ≠ "__name__" -> mb x=bootBuiltins x) (hlim:s₁.heap.NoLimit) (hg:s₁.gens=#[])
  (ha:s₁.heap.get? a=some { cls:=.type "list",data:=.seq vs.toArray }) (hi:IntsAre vs ns) (hl:ns.length<=sizeLine) (hr:Room k callerA)
  (F:∀ base:Heap,K.In base->base.Ns mainGlobals mg->FnOk P w K mg base CX k fa fd [x] sp) (hbind:∀ (s:ZB) (u:ZC),BindsTo s fd ⟨[u],[]⟩ [(x,u)])
  (hsp:∀ H:Hp,lq H->SqL K H a (ns.map V.int)->sp [.ref a] H (λv _=>v=.bl true) λ_ _ _=>False)
  (hCX:∀ H e s',CX [] H s₁ (λ_ _ _=>False) e s'->False) :
  codeAny (model P w) callerA (.call (.ref fa) ⟨[.ref a],[]⟩) (λr s'=>r=.ok (.ret (.bool true))/\OldK s₁.heap s'.heap/\s'.os=s₁.os/\AllBare s'.gens) s₁:=by
 have rv:=yD hi;have lenV:=hi.length;have core:∀ H:Hp,lq H->SqL K H a (ns.map V.int)->HOk P w H s₁.heap->(∀ b,H b≠none->b=a)->(H a≠none->K.lookup a=none) ->
   codeAny (model P w) callerA (.call (.ref fa) ⟨[.ref a],[]⟩) (λr s'=>r=.ok (.ret (.bool true))/\OldK s₁.heap s'.heap/\s'.os=s₁.os/\AllBare s'.gens) s₁:=by
  intro H hO hS hok hA hK;have base_of:∀ {b:ZE} {o:Obj},s₁.heap.get? b=some o->H b=none->(eC s₁.heap H).get? b=some o:=λe n=>DS e n
  have noA:∀ {b:ZE} {o:Obj} {es:Array DictEntry} {ep:Nat},s₁.heap.get? b=some o->o.data=.dict es ep->H b=none:=λ{b o es ep} e d=>by
   cases q:H b with
   |none=>rfl
   |some u =>
    have e':b=a:=hA b (by rw[q];simp)
    subst e'
    rw[ha] at e;cases e
    have d':Data.seq vs.toArray _=Data.dict es ep:=d
    cases d'
  have nsK:∀ {b:ZE} {m:YA},s₁.heap.Ns b m->(eC s₁.heap H).Ns b m:=λ{b m} ⟨o,es,ep,e,d,r⟩=>⟨o,es,ep,base_of e (noA e d),d,r⟩
  have hKb:K.In (eC s₁.heap H):=λb o e=>base_of (KX b o e) (by
   cases q:H b with
   |none=>rfl
   |some u =>
    have e':b=a:=hA b (by rw[q];simp)
    subst e'
    rw[hK (by rw[q];simp)] at e;cases e)
  have hM:Mod K mg (eC s₁.heap H):=⟨hKb,nsK hns,⟨mb,nsK hb,hbb⟩,let ⟨mc,h1,h2⟩:=hlim;⟨mc,nsK h1,h2⟩⟩
  have e0:Env0 P w K mg (eC s₁.heap H) callerA [] s₁ H:=⟨rfl,hM,λb o e=>DT e,Sv (DR _ _),trivial,λb hb=>absurd (show b∈([]:List ZE) from hb) 's',hok,.of_eq hg⟩
  refine SJ ((F _ hKb (nsK hns)).run callerA [] s₁ H ⟨[.ref a],[]⟩ [.ref a] [.ref a] _ _ hr e0 (hbind s₁ (.ref a)) (.cons rfl .nil) (hsp H hO hS)) λr s' h=>?_
  cases r with
  |error e=>exact(hCX H e s' h).elim
  |ok fl =>
   cases fl with
   |next=>exact False.elim h
   |brk=>exact False.elim h
   |cont=>exact False.elim h
   |ret u =>
    obtain⟨v,H',os,bare,un,hok',r',q⟩:=h;have q':v=.bl true:=q;subst q'
    obtain rfl:u=Value.bool true:=r';refine⟨rfl,OldK.of_keep λb o e=>?_,os,bare⟩
    cases q:H b with
    |none=>exact un.keep b o e q (by intro z;exact absurd (show b∈([]:List ZE) from z) 's') 's'
    |some u =>
     rcases hO b with z|⟨ob,xs,z⟩
     ·rw[q] at z;cases z
     ·have z2:=un.frzs b ob _ z
      obtain⟨e1,_⟩:=hok b _ z;obtain⟨e2,_⟩:=hok' b _ z2;rw[e] at e1;cases e1
      exact e2
 cases hk:K.lookup a with
 |some o =>
  have e:=KX a o hk;rw[ha] at e
  cases e
  refine core (λ_=>none) (λ_=>.inl rfl) (.inr ⟨_,vs.toArray,_,hk,rfl,rfl,rfl,by rw[O5,lenV];exact hl,by simpa using rv⟩) (λb u z=>by have z':(none:Option HO)=some u:=z;cases z') (λb z=>absurd rfl z) λz=>absurd rfl z
 |none =>
  refine core (λb=>if b=a then some (.frz { cls:=.type "list",data:=.seq vs.toArray } (.lst (ns.map V.int))) else none) (λb=>?_) (.inl (.inr ⟨{ cls:=.type "list",data:=.seq vs.toArray },OX rfl⟩)) (λb u z=>?_) (λb z=>?_) λ_=>hk
  ·by_cases hb:b=a
   ·exact .inr ⟨_,_,OX hb⟩
   ·exact .inl (O0 hb)
  ·by_cases hb:b=a
   ·have z':=(OX hb).symm.trans z
    cases z'
    subst hb;exact⟨ha,by rw[O2];exact hl,vs,_,rv,ha⟩
   ·have z':=(O0 hb).symm.trans z
    cases z'
  ·by_cases hb:b=a
   ·exact hb
   ·exact absurd (O0 hb) z
def walk_of{l:PySem.W.OpenLaw}{n k:Nat}{q:ZD}{loose:List Str}{XP:YA->Heap->Prop}{YP:ZF->Heap->Prop}{d:DefRec}{K:Params->ZA}{CX:ZF->fO}{sp:ZF->Sp}{x:Str}
  (hn:l.most=some n)(hn2:n<=sizeLine)(hdf:d.params.defaults=[])(hr:Room k callerA)
  (hY:∀ (w:ZF) (h:Heap),YP w h->(K w.params).In h)
  (F:∀ (w:ZF) (mg:YA) (fa:ZE) (h:Heap),(K w.params).In h->h.Ns mainGlobals mg->mg d.name=some (.ref fa) ->
   ∃ fd:FuncData,(∀ (s:ZB) (u:ZC),BindsTo s fd ⟨[u],[]⟩ [(x,u)]) /\
    ∀ base:Heap,(K w.params).In base->base.Ns mainGlobals mg->FnOk l.prog w (K w.params) mg base (CX w) k fa fd [x] (sp w))
  (hsp:∀ (w:ZF) (H:Hp) (a:ZE) (ns:List Int),ns.length<=n->lq H->SqL (K w.params) H a (ns.map V.int)->sp w [.ref a] H (λv _=>v=.bl true) λ_ _ _=>False)
  (hCX:∀ (w:ZF) (H:Hp) (s:ZB) (e:ZC) (s':ZB),CX w [] H s (λ_ _ _=>False) e s'->False) :
  PySem.W.WalkO q loose XP YP l.row.toRowW d [] (λf vs=>PySem.call f vs):=by
 refine Att.attach_call hn hdf λw s₀ s₁ mg mb fa o pm cd doc a vs ns G Y ho hd hcd hmg hobj hints hlen hg=>?_
 have KX:=hY w _ Y;obtain⟨fd,hb,hF⟩:=F w mg fa _ KX G.T.g hmg;exact GR KX G.T.g G.T.b G.T.builtins G.T.nolimit hg hobj hints (OW hlen hn2) hr hF hb (λH hO hS=>hsp w H a ns hlen hO hS) λH e s'=>hCX w H s₁ e s'
def cy(s:Stmt)(j:Nat):Stmt:=match s with
 |.ClassDef _ _ _ body _ _ _ _ _ _ _=>body.getD j (.Pass ⟨0,0,0,0⟩)
 |_=>.Pass ⟨0,0,0,0⟩
def lr(s:Stmt):Arguments:=match s with
 |.FunctionDef _ a _ _ _ _ _ _ _ _=>a
 |_=>{ posonlyargs:=[],args:=[],vararg:=none,kwonlyargs:=[],kw_defaults:=[],kwarg:=none,defaults:=[] }
def iX(s:Stmt):List Stmt:=match s with
 |.FunctionDef _ _ b _ _ _ _ _ _ _=>b
 |_=>[]
def bK(s:Stmt):Scope:=match s with
 |.FunctionDef _ _ _ _ _ _ sc _ _ _=>sc
 |_=>{ kind:=.function,names:=[],isGenerator:=false,isCoroutine:=false }
abbrev E0:XK:=λ_ _ _=>False
structure Fun(K:ZA)(x qual:Str)(st:Stmt)(f:ZE)(fd:FuncData):Prop where
 ex:∃ (oc:ZC) (od:YC) (kV doc pm:ZC) (an:YC) (cdv ct:ZC) (osl:Array (Option ZC)),
  fd=PySem.W.fnOf x qual (lr st) (iX st) (bK st) .none kV doc pm an cdv ct/\K.lookup f=some ⟨oc,od,.func fd,osl⟩/\PySem.W.codeIn K cdv qual=true
 kp:PySem.W.keepIn K (.ref f)=true
section
variable{P:ZD}{w:ZF}{K:ZA}{mg:YA}{base:Heap}
def Fun.binds{x qual:Str}{st:Stmt}{f:ZE}{fd:FuncData}{ps:List Str}(F:Fun K x qual st f fd)
  (h:∀ (kV doc pm:ZC) (an:YC) (cdv ct:ZC) (us:YB),us.length=ps.length->bindArgs (PySem.W.fnOf x qual (lr st) (iX st) (bK st) .none kV doc pm an cdv ct) ⟨us,[]⟩=pure (ps.zip us)):Binds K fd ps []:=by
 obtain⟨oc,od,kV,doc,pm,an,cdv,ct,osl,rfl,lk,hcd⟩:=F.ex;exact .all (h kV doc pm an cdv ct)
def yE{x qual:Str}{st:Stmt}{f:ZE}{oc:ZC}{od an:YC}{osl:Array (Option ZC)}{kV doc pm cdv ct:ZC}(l:K.lookup f=some ⟨oc,od,.func (PySem.W.fnOf x qual (lr st) (iX st) (bK st) .none kV doc pm an cdv ct),osl⟩)
  (c:PySem.W.codeIn K cdv qual=true)(k:PySem.W.keepIn K (.ref f)=true):Fun K x qual st f (PySem.W.fnOf x qual (lr st) (iX st) (bK st) .none kV doc pm an cdv ct):=(⟨⟨oc,od,kV,doc,pm,an,cdv,ct,osl,rfl,l,c⟩,k⟩)
end
section
variable{X:Cx}
def pv (i:Nat) {x:Str} {pos:Pos} (hN:‹X.N[i]?=some x›) (hv:nS X.env.scope x:=by first|exact Or.inl rfl|exact Or.inr (Or.inl rfl)|exact Or.inr (Or.inr rfl)) (hd:((x == ("__debug__" : Str))=false)⁻¹)
  (hcd:((x == ("__classdict__" : Str))=false)⁻¹):PE X (.Name x pos) (nT i):=(DV hN hv hd hcd)
def GS:CallR X (.builtin "len") (λxs H Q=>∃ a kvs,xs=[V.ref a]/\H a=some (.dK kvs)/\Q (.int kvs.length) H):=by
 intro pins s σ H xs us Q I r h;obtain⟨a,kvs,rfl,ha,q⟩:=h;obtain⟨u,rfl,ru⟩:=iV r
 cases ru
 exact Gp I (.inl ha) λt s' I'=>⟨.int kvs.length,H,I',⟨t,rfl⟩,q⟩
end
section
variable{κ:Type}[DecidableEq κ]
end
end L2
set_option maxHeartbeats 4000000
namespace L2
open PySem PySem.Spec PyProof.Rows
section
variable{X:Cx}{pins:List (ZE×Obj)}{σ:St}{H:Hp}{s:ZB}{h':Heap}
def Inv.turnedL{t':Nat}{fp:List ZE}(I:Inv X pins σ H s)(k:∀ b o,b∉fp->s.heap.get? b=some o->h'.get? b=some o)(hf:∀ b∈fp,dI X pins H b) :
  Inv X pins σ H { s with heap:=h',toks:=t' }:=by
 have nit:∀ b u,H b=some u->b∉fp:=λb u e z=>by
  have q:=(hf b z).1;rw[q] at e
  cases e
 refine I.step (g':=s.gens) (d':=s.drawn) (ch:=fp) (λb hb=>?_) (λb o _ _ hc e _=>k b o hc e) (λb o _ _ hc e _=>⟨o.slots,k b o hc e⟩) (λ_ _ _ _ n=>n)
  (λb o hc e=>⟨o,k b o hc e⟩) (λ_ _ e=>e) (λ_ _ _ e=>e) (λb ps e=>⟨#[],by rw[e];simp⟩) (λm hm=>?_) (λb u e=>?_) I.bare
 ·obtain⟨_,f1,_,f3,f4,f5⟩:=hf b hb
  exact⟨f3,f1,f4,f5⟩
 ·obtain⟨o,es,ep,ho,r⟩:=hm
  exact⟨o,es,ep,k _ o (λz=>(hf _ z).2.1 rfl) ho,r⟩
 ·refine(I.hok b u e).stay (λc v hc q=>k c v ?_ q) (λ_ q=>q) λ_ _ q=>q
  rcases hc with z|z
  ·rw[z];exact nit b u e
  ·exact nit c _ z
def Inv.adopt{T:ZE}{ob:HO}(I:Inv X pins σ H s)(hn:H T=none)(hT:X.s₀.heap.objs.size<=T)(hL:T≠X.env.locals)(hc:∀ x c,X.env.cells.lookup x=some c->c≠T)
  (hp:∀ p∈X.pn++pins,p.1≠T)(new:ObjOk X.prog X.w (upd H T ob) s.heap T ob):Inv X pins σ (upd H T ob) s:=by
 have hne:∀ b u,H b=some u->b≠T:=λb u e=>fN e hn
 refine I.step (h':=s.heap) (g':=s.gens) (d':=s.drawn) (t':=s.toks) (ch:=[T]) (λb hb=>?_) (λb o _ _ _ e _=>e) (λb o _ _ _ e _=>⟨o.slots,e⟩) (λb o hb e n=>?_) (λb o _ e=>⟨o,e⟩)
  (λb xs e=>by rw[bg (hne b _ e)];exact e) (λb o u e=>by rw[bg (hne b _ e)];exact e) (λb ps e=>⟨#[],by rw[bg (hne b _ e),e];simp⟩) (λm hm=>hm) (λb u e=>?_) I.bare
 ·have e:b=T:=by simpa using hb
  subst e;exact⟨.inr hT,hL,hc,hp⟩
 ·rw[bg (λz=>hb (by simp[z]))];exact n
 ·by_cases hb:b=T
  ·subst hb;rw[dH] at e;cases e;exact new
  ·rw[bg hb] at e
   exact(I.hok b u e).stay (λc v _ q=>q) (λc q=>by rw[bg (hne c _ q)];exact q) λc xs q=>by rw[bg (hne c _ q)];exact q
end
def ui(K:ZA)(a:ZE):It :=
 ⟨λi H=>∃ xs x,SqL K H a xs/\xs[i]?=some x,λi H x H'=>∃ (T:ZE) (y:V),x=.ref T/\H T=none/\H'=upd H T (.tup [.int i,y])/\∀ xs,SqL K H a xs->xs[i]?=some y,λi H=>∃ xs,SqL K H a xs/\xs.length<=i⟩
def GT{P:ZD}{w:ZF}{K:ZA}{es:YD}{k:Nat}{tp:Pos}(a it e:ZE)(hei:e≠it) :
  fu P w K (.Tuple es k tp) (ui K a) [e,it] e (λi h=>(∃ old,IsEnum h e it i old)/\h.IsListIter it a i) where
 mem:=by simp
 obj:=λi h st b hb=>by
  obtain⟨⟨old,he⟩,o,ho,hc,hd⟩:=st;have hb':b=e\/b=it:=by simpa using hb
  rcases hb' with rfl|rfl
  ·exact⟨_,he,λv z=>by
    have z':Data.fields _=Data.cell v:=z
    cases z'⟩
  ·exact⟨o,ho,λv z=>by rw[hd] at z;cases z⟩
 keep:=λi h h' st k=>by
  obtain⟨⟨old,he⟩,hit⟩:=st;exact⟨⟨old,k e 's' _ he⟩,hit.at λo q=>k it 's' o q⟩
 item:=by
  intro X hP hw hK hc i pins s σ H E I hf st hg;subst hP hw hK
  obtain⟨xs,x,hq,hx⟩:=hg;obtain⟨its,rv,p,hz⟩:=I.list hq;obtain⟨u,hu,ru⟩:=rv.get hx;obtain⟨⟨old,he⟩,hit⟩:=st;refine wpAny_pyNext_enum_item he hit p.isList (x:=u) (by simpa using hu) hei λh1 ho hit1 hT hsz hk=>?_
  refine⟨.ref s.heap.objs.size,rfl,wpAny_letOwnedTupleGo_enum ho λh2 he2 hs2=>?_⟩
  replace hs2:Heap.SameBut e h1 h2:=hs2
  have helt:e<s.heap.objs.size:=O4 he;have I1:Inv X pins σ H { s with heap:=h2,toks:=s.toks+1 }:=I.turnedL (fp:=[e,it]) (λb o hb q=>by
   have n1:b≠e:=λz=>hb (by simp[z])
   have n2:b≠it:=λz=>hb (by simp[z])
   exact(hs2.2 b n1).trans (hk b o n1 n2 q)) hf
  have hT2:h2.get? s.heap.objs.size=some { cls:=.type "tuple",data:=.seq #[.int i s.toks,u] }:=(hs2.2 _ (Nat.ne_of_gt helt)).trans hT;have fp:=I.fpOk (H':=H) (OV s.heap.objs.size) (I.hok.fresh (OV _));obtain⟨f0,f1,f2,f3,f4,f5⟩:=fp;have I2:Inv X pins σ (upd H s.heap.objs.size (.tup [.int i,x])) { s with heap:=h2,toks:=s.toks+1 } :=
   I1.adopt (T:=s.heap.objs.size) f0 (I.sz) f1 f4 f5 ⟨by show 2<=sizeLine;decide,[.int i s.toks,u],.cons ⟨_,rfl⟩ (.cons ru .nil),⟨_,hT2,rfl,_,rfl⟩⟩
  refine⟨.ref s.heap.objs.size,_,I2,rfl,⟨s.heap.objs.size,x,rfl,f0,rfl,λys hy=>by rw[I.list_inj hy hq];exact hx⟩,⟨⟨u,by simpa using he2⟩,hit1.extBut hs2.extBut (Ne.symm hei)⟩,λb hb=>?_⟩
  obtain⟨g0,_⟩:=hf b hb;obtain⟨o,hob,_⟩:∃ o,s.heap.get? b=some o/\True:=by
   have hb':b=e\/b=it:=by simpa using hb
   rcases hb' with rfl|rfl
   ·exact⟨_,he,trivial⟩
   ·obtain⟨o,q,_⟩:=hit
    exact⟨o,q,trivial⟩
  rw[bg (Pq (O4 hob))];exact g0
 done:=by
  intro X hP hw hK hc i pins s σ H E I hf st hg;subst hP hw hK
  obtain⟨xs,hq,hx⟩:=hg;obtain⟨its,rv,p,hz⟩:=I.list hq;obtain⟨⟨old,he⟩,hit⟩:=st;have hl:=rv.length;exact wpAny_pyNext_enum_end (I.ok.hd hc) he hit p.isList (by simp;omega) λh' eb=>⟨rfl,I.turnedL (fp:=[e,it]) (t':=s.toks) (λb o hb q=>eb b o (λz=>hb (by simp[z])) q) hf⟩
 self:=λ_ _ _ _ _ st h=>by
  obtain⟨⟨old,he⟩,_⟩:=st;exact Ul he h
section
variable{X:Cx}
def iEnum(K:ZA)(ta:TA):TI:=λσ H R=>ta σ H λvs H1=>∃ a,vs=[.ref a]/\(∃ xs,SqL K H1 a xs)/\R (ui K a) H1
def GU {l:Expr} {ta:TA} {p pos tp:Pos} {es:YD} {k:Nat} (hg:Gl X "enumerate") (hm:X.mg "enumerate"=none) (ha:PA X [l] ta) (hs:‹starEach [l] X.env=[(false,eval l X.env)]›) :
  PI X (.Tuple es k tp) (.Call (.Name "enumerate" p) [l] [] pos) (iEnum X.K ta):=by
 intro pins s σ H R I h;refine Call_ (mL I hg hm boot_enumerate (Qv (thn (ha pos pins s σ H _ I h) λus s1 Zz=>?_) hs rfl));obtain⟨vs,H1,I1,r1,q1⟩:=Zz
 obtain⟨a,e,⟨xs,hq⟩,q⟩:=q1;subst e
 cases r1 with
 |cons r rr =>
  cases rr
  cases r
  obtain⟨its,rv,pl,hz⟩:=I1.list hq;refine call_enumerate_list pl.isList λh' he hit hsz hk=>Ul he ?_
  refine⟨s1.heap.objs.size+1,[s1.heap.objs.size+1,s1.heap.objs.size],_,_,H1,rfl,I1.kept (t':=s1.toks) λb o e=>hk b o e,GT a _ _ (Nat.succ_ne_self _),⟨⟨_,he⟩,hit⟩,λb hb=>?_,q⟩
  have hb':b=s1.heap.objs.size+1\/b=s1.heap.objs.size:=by simpa using hb
  rcases hb' with rfl|rfl
  ·exact I1.fpOk (RY _) (I1.hok.fresh (RY _))
  ·exact I1.fpOk (OV _) (I1.hok.fresh (OV _))
end
def uj(x:Str):It:=⟨λi _=>i<x.cps.size,λi H v H'=>H'=H/\∃ c,x.cps[i]?=some c/\v=.str ⟨#[c]⟩,λi _=>x.cps.size<=i⟩
def GV{P:ZD}{w:ZF}{A:ZG}(hh:A.handled=none)(it:ZE)(x:Str)(t:Tok) :
  Walks P w A it [it] [it] x.cps.size (SignAt x) (λi h=>h.IsStrIter it (strIterType x) x t i):=by
 cases ha:x.cps.all (· < 128) with
 |false =>
  have e:strIterType x="str_iterator" := by simp[strIterType,ha]
  rw[e];exact Walks.strWide hh it x t
 |true =>
  have e:strIterType x="str_ascii_iterator" := by simp[strIterType,ha]
  rw[e];exact Walks.strAscii hh it x t
def GW{P:ZD}{w:ZF}{K:ZA}{y:Str}{py:Pos}(it:ZE)(x:Str)(t:Tok):fu P w K (.Name y py) (uj x) [it] it (λi h=>h.IsStrIter it (strIterType x) x t i) where
 mem:=by simp
 obj:=λi h st b hb=>by
  have e:b=it:=by simpa using hb
  subst e;obtain⟨o,e,c,d⟩:=st
  exact⟨o,e,λv z=>by rw[d] at z;cases z⟩
 keep:=λi h h' st k=>by
  obtain⟨o,e,r⟩:=st;exact⟨o,k it 's' o e,r⟩
 item:=by
  intro X hP hw hK hc i pins s σ H E I hf st hg;subst hP hw hK
  refine(GV (I.ok.hd hc) it x t).item i s _ _ hg st λv h1 tk hv st1 kk=>?_
  obtain⟨c,u,hcp,rfl⟩:=hv;have I1:Inv X pins σ H { s with heap:=h1,toks:=tk }:=I.turnedL (fp:=[it]) kk hf;exact⟨_,rfl,O1 ⟨.str ⟨#[c]⟩,H,I1,⟨u,rfl⟩,⟨rfl,c,hcp,rfl⟩,st1,λb hb=>(hf b hb).1⟩⟩
 done:=by
  intro X hP hw hK hc i pins s σ H E I hf st hg;subst hP hw hK
  have hx:x.cps[i]?=none:=Array.getElem?_eq_none hg
  cases ha:x.cps.all (· < 128) with
  |false =>
   have e:strIterType x="str_iterator" := by simp[strIterType,ha]
   rw[e] at st;exact wpAny_pyNext_wide_end (I.ok.hd hc) st hx λh' eb=>⟨rfl,I.turnedL (fp:=[it]) (t':=s.toks) (λb o hb q=>eb b o (λz=>hb (by simp[z])) q) hf⟩
  |true =>
   have e:strIterType x="str_ascii_iterator" := by simp[strIterType,ha]
   rw[e] at st;exact wpAny_pyNext_ascii_end (I.ok.hd hc) st hx λh' eb=>⟨rfl,I.turnedL (fp:=[it]) (t':=s.toks) (λb o hb q=>eb b o (λz=>hb (by simp[z])) q) hf⟩
 self:=λA i s Q E st h=>by
  cases ha:x.cps.all (· < 128) with
  |false =>
   have e:strIterType x="str_iterator" := by simp[strIterType,ha]
   rw[e] at st;exact wpAny_pyIter_striter_wide st h
  |true =>
   have e:strIterType x="str_ascii_iterator" := by simp[strIterType,ha]
   rw[e] at st;exact wpAny_pyIter_striter_ascii st h
section
variable{X:Cx}
def uk(tl:TE):TI:=λσ H R=>tl σ H λx H1=>∃ t,x=.str t/\R (uj t) H1
def GY{l:Expr}{tl:TE}{y:Str}{py:Pos}(hl:PE X l tl):PI X (.Name y py) l (uk tl):=by
 intro pins s σ H R I h;refine thn (hl pins s σ H _ I h) λv s1 Zz=>?_;obtain⟨x,H1,I1,r1,q1⟩:=Zz
 obtain⟨t,e,q⟩:=q1;subst e;obtain⟨tk,rfl⟩:=r1
 refine wpAny_pyIter_strU ?_
 refine⟨s1.heap.objs.size,[s1.heap.objs.size],_,_,H1,rfl,I1.kept (t':=s1.toks) λb o e=>OZ _ e,GW _ t tk,⟨_,Pa _ rfl,rfl,rfl⟩,λb hb=>?_,q⟩
 have e:b=s1.heap.objs.size:=by simpa using hb
 subst e;exact I1.fpOk (OV _) (I1.hok.fresh (OV _))
end
def eE(env:Env):List (Str×NameKind)->List (Str×ZE)->List (Str×ZE)
 |[],acc=>acc
 |(n,k)::r,acc=>eE env r (if k=.free then(n,(env.cells.lookup n).getD 0)::acc else acc)
def GZ{env:Env}{scope:Scope}(h:∀ y∈scope.names,y.2=.free->(env.cells.lookup y.1).isSome=true):closureFor scope env=pure (eE env scope.names []):=by
 have all:∀ (l:List (Str×NameKind)) (acc:List (Str×ZE)),(∀ y∈l,y.2=.free->(env.cells.lookup y.1).isSome=true) ->
   (forIn l acc λ(x:Str×NameKind) (cs:List (Str×ZE))=>if (x.2 == NameKind.free)=true then(do let a <- cellOf env x.1;pure (ForInStep.yield ((x.1,a)::cs))) else(pure (ForInStep.yield cs):Sem _))=pure (eE env l acc):=by
  intro l;induction l with
  |nil=>intro acc _;rfl
  |cons y r ih =>
   intro acc hl;obtain⟨n,k⟩:=y;rw[SO];have hr:=λz hz=>hl z (Pt _ hz)
   by_cases hk:k=.free
   ·subst hk
    obtain⟨c,hc⟩:=Pi.mp (hl (n,.free) PK rfl);have e1:cellOf env n=pure c:=by
     simp only[cellOf]
     have hc':env.cells.lookup n=some c:=hc;rw[hc']
    simp only[beq_self_eq_true,Qd,e1,pure_bind,eE]
    have hc':env.cells.lookup n=some c:=hc;rw[hc'];exact ih _ hr
   ·have hb:(k == NameKind.free)=false:=by simpa using hk
    simp only[hb,Bool.false_eq_true,Up,pure_bind,eE,hk]
    exact ih _ hr
 unfold closureFor;have q:=all scope.names [] h;first
  |exact q
  |(simp only[bind_pure];exact q)
  |(rw[<- q];simp)
theorem um{env:Env}:∀ {l:List (Str×NameKind)} {acc:List (Str×ZE)},(∀ y∈l,y.2=.free->(env.cells.lookup y.1).isSome=true)->(∀ y c,acc.lookup y=some c->env.cells.lookup y=some c) ->
  ∀ y c,(eE env l acc).lookup y=some c->env.cells.lookup y=some c
 |[],_,_,h,y,c,e=>h y c e
 |(n,k)::r,acc,hl,h,y,c,e=>by
  refine um (l:=r) (λz hz=>hl z (Pt _ hz)) ?_ y c e
  intro y c e;by_cases hk:k=.free
  ·rw[OX hk] at e
   rw[QW] at e
   cases hy:y == n with
   |true =>
    rw[hy] at e;have e':y=n:=by simpa using hy
    obtain⟨c',hc'⟩:=Pi.mp (hl (n,k) PK hk);have hc'':env.cells.lookup n=some c':=hc';rw[hc''] at e;rw[e',hc''];exact e
   |false =>
    rw[hy] at e;exact h y c e
  ·rw[O0 hk] at e
   exact h y c e
theorem uo{env:Env}:∀ {l:List (Str×NameKind)} {acc:List (Str×ZE)} {y:Str},(y,NameKind.free)∈l\/(acc.lookup y).isSome=true->((eE env l acc).lookup y).isSome=true
 |[],_,_,h=>by
  rcases h with h|h
  ·cases h
  ·exact h
 |(n,k)::r,acc,y,h=>by
  refine uo (l:=r) ?_
  rcases h with h|h
  ·rcases Pb.mp h with e|e
   ·right
    cases e
    rw[OX rfl,QW];simp
   ·exact .inl e
  ·right
   by_cases hk:k=.free
   ·rw[OX hk,QW]
    cases hy:y == n with
    |true=>rfl
    |false=>exact h
   ·rw[O0 hk];exact h
def oi{names:List (Str×NameKind)}{x:Str}{k:NameKind}(h:names.lookup x=some k):(x,k)∈names:=(Qa h)
theorem qt{env:Env}{x:Str}{k:NameKind}:∀ {names:List (Str×NameKind)},(names.map λ(n,k)=>if (k == NameKind.free && env.scope.kind == .function && env.kindOf n == some .cell) then(n,NameKind.cell) else(n,k)).lookup x=some k ->
  names.lookup x=some k\/(k=.cell/\names.lookup x=some .free)
 |[],h=>by simp at h
 |(n,kk)::r,h=>by
  have ih:=@qt env x k r;by_cases hc:(kk == NameKind.free && env.scope.kind == .function && env.kindOf n == some .cell)=true
  ·have hf:kk=.free:=by
    have q:=(Pu _ _).mp ((Pu _ _).mp hc).1;simpa using q.1
   subst hf;have h':List.lookup x ((n,NameKind.cell)::(r.map λ(n,k)=>if (k == NameKind.free && env.scope.kind == .function && env.kindOf n == some .cell) then(n,NameKind.cell) else(n,k)))=some k:=by
    have e:(λ(p:Str×NameKind)=>match p with|(n,k)=>if (k == NameKind.free && env.scope.kind == .function && env.kindOf n == some .cell)=true then(n,NameKind.cell) else(n,k)) (n,NameKind.free)=(n,NameKind.cell):=by
     show (if _ then _ else _)=_
     rw[OX hc]
    rw[O8] at h;rw[<- e];exact h
   rw[QW] at h' ⊢
   cases hx:x == n with
   |true =>
    rw[hx] at h';right
    exact⟨(Pp h').symm,rfl⟩
   |false =>
    rw[hx] at h';exact ih h'
  ·have h':List.lookup x ((n,kk)::(r.map λ(n,k)=>if (k == NameKind.free && env.scope.kind == .function && env.kindOf n == some .cell) then(n,NameKind.cell) else(n,k)))=some k:=by
    have e:(λ(p:Str×NameKind)=>match p with|(n,k)=>if (k == NameKind.free && env.scope.kind == .function && env.kindOf n == some .cell)=true then(n,NameKind.cell) else(n,k)) (n,kk)=(n,kk):=by
     show (if _ then _ else _)=_
     rw[O0 hc]
    rw[O8] at h;rw[<- e];exact h
   rw[QW] at h' ⊢
   cases hx:x == n with
   |true =>
    rw[hx] at h';exact .inl h'
   |false =>
    rw[hx] at h';exact ih h'
structure CompOk(X:Cx)(ns:List Str)(jf:List (Nat×Str))(scope:Scope):Prop where
 hN:(ns++jf.map (·.2)).Nodup
 hx:∀ x∈ns,scope.names.lookup x=some .local
 hjf:∀ p∈jf,X.N[p.1]?=some p.2
 hjl:∀ p∈jf,scope.names.lookup p.2=some .free
 hkind:scope.kind=.function
 hcell:∀ y∈scope.names,y.2 ≠ .cell
 hfr:∀ y∈scope.names,y.2=.free->X.env.kindOf y.1=some .cell\/X.env.kindOf y.1=some .free
 hnames:∀ y∈scope.names,y.2=.local->scope.names.lookup y.1=some .local
def cz(X:Cx)(pins:List (ZE×Obj))(ns:List Str)(jf:List (Nat×Str))(scope:Scope)(cl:List (Str×ZE))(s:ZB)(H:Hp)(fp:List ZE):Cx where
 prog:=X.prog
 w:=X.w
 K:=X.K
 mg:=X.mg
 base:=X.base
 A:=X.A
 N:=ns++jf.map (·.2)
 s₀:=s
 H₀:=H
 env:=compEnvC scope cl s.heap.objs.size X.env
 outer:=X.stack
 stack:=X.stack
 ex:=fp
 fn:=λ_=>false
 calm:=X.calm
 pn:=X.pn++pins
 xe:=λ_ _=>False
def fP(vs:List (Option V))(js:List (Nat×Str))(σ:St):St:=vs++js.map λj=>(σ[j.1]?).join
def jr(X:Cx)(ifs:YD)(t:TT):Prop :=
 ∀ (pins:List (ZE×Obj)) (s:ZB) (σ:St) (H:Hp) (Q:Bool->Hp->Prop),Inv X pins σ H s->t σ H Q ->
  wpAny (model X.prog X.w) X.A (forIn ifs true λc r=>if r=true then do let ok <- isTrue c X.env (eval c X.env);pure (ForInStep.yield ok) else pure (ForInStep.yield r)) (TP X pins σ Q) X.xe s
def uq:TT:=λ_ H Q=>Q true H
def G0{X:Cx}:jr X [] uq:=(λpins s σ H Q I h=>wpAny_tests_nil ⟨H,I,h⟩)
def ur(k:Nat)(g:TG)(jf:List (Nat×Str))(tc:TT)(te:TE)(σ:St)(Q:VK)(J:It)(H1:Hp):Prop:=∀ D,H1 D=none->∃ W:Nat->Nat->YE->Hp->Prop,(∃ m,W 0 m [] (upd H1 D (.lst []))) /\
 ∀ i m ys H2,W i m ys H2->H2 D=some (.lst ys)/\((J.stop i H2/\Q (.ref D) H2)\/(J.go i H2/\ys.length<sizeLine/\∀ x H3,J.yld i H2 x H3->∃ us:YE,us.length=k/\g x (fP (List.replicate k none) jf σ) H3 (λσ' H'=>σ'=fP (us.map some) jf σ/\H'=H3)/\tc (fP (us.map some) jf σ) H3 λb H5 =>
  if b=true then te (fP (us.map some) jf σ) H5 λv H6=>H6 D=some (.lst ys)/\∃ m',m'<m/\W (i+1) m' (ys++[v]) (upd H6 D (.lst (ys++[v]))) else ∃ m',m'<m/\W (i+1) m' ys H5))
def oj(k:Nat)(g:TG)(jf:List (Nat×Str))(wi:TI)(tc:TT)(te:TE):TE:=λσ H Q=>wi σ H (ur k g jf tc te σ Q)
section
variable{X:Cx}{pins:List (ZE×Obj)}{σ:St}{H:Hp}{s:ZB}{ns:List Str}{jf:List (Nat×Str)}{scope:Scope}{fp:List ZE}
def CompOk.pg{cl:List (Str×ZE)}{x:Str}{p:Pos}(C:CompOk X ns jf scope)(i:Nat)(h:(ns++jf.map (·.2))[i]?=some x)(m:x∈ns):PG (cz X pins ns jf scope cl s H fp) (.Name x p) (mO i) :=(
 tF C.hN h (.inl (Ts (C.hx x m))) (.inr (Ts (C.hx x m))))
def Inv.block{h1:Heap}{tk:Nat}(I:Inv X pins σ H s)(hf:∀ b∈fp,dI X pins H b)(hlt:∀ b∈fp,b<s.heap.objs.size)(C:CompOk X ns jf scope)
  (hn:h1.Ns s.heap.objs.size (λ_=>none))(hk:∀ b o,s.heap.get? b=some o->h1.get? b=some o) :
  Inv (cz X pins ns jf scope (eE X.env scope.names []) s H fp) [] (fP (List.replicate ns.length none) jf σ) H { s with heap:=h1,toks:=tk }:=by
 obtain⟨_,_,hjf,hjl,hkind,hcell,hfr,_⟩:=C;have hsome:∀ y∈scope.names,y.2=.free->(X.env.cells.lookup y.1).isSome=true:=λy hy hyf=>Pi.mpr (I.ok.has y.1 (hfr y hy hyf))
 have sub:∀ y c,(eE X.env scope.names []).lookup y=some c->X.env.cells.lookup y=some c:=um hsome (λy c e=>by simp at e);have hsz:=I.sz;have inE:∀ b,b∈(cz X pins ns jf scope (eE X.env scope.names []) s H fp).ex->b∈fp:=λb z=>z
 have stk:∀ b∈dU X.stack,b<s.heap.objs.size:=λb hb=>by
  obtain⟨_,o,ho,_⟩:=I.stack.mem hb;exact O4 ho
 refine⟨⟨I.ok.mod,hkind,I.ok.glob,I.ok.blt,OV _,λy z c e1 e2=>I.ok.inj y z c (sub y c e1) (sub z c e2),λy hy=>?_,λy c hfn _=>(by cases hfn),I.ok.hd,I.ok.frames,.inl rfl,λb hb=>?_,λb o e=>I.bs b o e,OW I.ok.bsz hsz,λb o e z=>?_,λb hb z=>?_,I.stack,I.stkFree⟩,
  rfl,I.bare,Un.kept hk,⟨_,hn,λi y v e1 e2 e3=>?_⟩,λy c e=>?_,I.hok.fresh (OV _),λy c e=>I.freeC y c (sub y c e),λp hp=>?_,I.hok.kept hk,?_⟩
 ·have hy':(relabel scope X.env).names.lookup y=some .cell\/(relabel scope X.env).names.lookup y=some .free:=hy
  have mem:(y,NameKind.free)∈scope.names:=by
   rcases hy' with q|q
   ·rcases qt (env:=X.env) q with z|z
    ·exact absurd rfl (hcell _ (oi z))
    ·exact oi z.2
   ·rcases qt (env:=X.env) q with z|z
    ·exact oi z
    ·exact oi z.2
  exact Pi.mp (uo (.inl mem))
 ·exact⟨Pq (hlt b hb),λy c e=>(hf b hb).2.2.2.2.1 y c (sub y c e)⟩
 ·rcases (hf b z).2.2.2.1 with q|q
  ·exact I.ok.noex b o e q
  ·exact absurd (Ph (O4 e) (OW I.ok.bsz q)) (Qi _)
 ·rcases Pb.mp (I.stkSub b z) with q|q
  ·exact(hf b hb).2.1 q
  ·exact(hf b hb).2.2.1 q
 ·have e1':(ns++jf.map (·.2))[i]?=some y:=e1
  unfold fP at e2;by_cases hi:i<ns.length
  ·rw[O3 (by rw[P1];exact hi),Qn,OX hi] at e2;cases e2
  ·have hi:=Sg hi
   rw[Pl hi,Pr] at e1';rw[Pl (by rw[P1];exact hi),P1,Pr] at e2
   cases q:jf[i-ns.length]? with
   |none=>rw[q] at e2;cases e2
   |some p =>
    rw[q] at e1' e2;have ey:p.2=y:=Pp e1'
    have ev:(σ[p.1]?).join=some v:=Pp e2;have hp:p∈jf:=Pm q;have eσ:σ[p.1]?=some (some v):=by
     cases z:σ[p.1]? with
     |none=>rw[z] at ev;cases ev
     |some r=>rw[z] at ev;rw[show r=some v from ev]
    have hfree:scope.names.lookup y=some .free:=by rw[<- ey];exact hjl p hp
    have mem:=oi hfree;have kX:=hfr _ mem rfl;obtain⟨m,hnX,hl⟩:=I.loc;obtain⟨u,ru,lk⟩:=hl p.1 y v (by rw[<- ey];exact hjf p hp) eσ (by
     rcases kX with z|z
     ·exact .inr (.inl z)
     ·exact .inr (.inr z))
    refine⟨u,ru,.inr ⟨?_,?_⟩⟩
    ·have e3':nS (relabel scope X.env) y:=e3
     rcases e3' with z|z|z
     ·exfalso
      rcases qt (env:=X.env) z with q|q
      ·rw[hfree] at q;cases q
      ·cases q.1
     ·exact .inl z
     ·exact .inr z
    ·rcases lk with⟨z,_⟩|⟨_,c,hc,hcell'⟩
     ·exfalso
      rcases kX with q|q
      ·rw[show X.env.kindOf y=some .cell from q] at z;cases z
      ·rw[show X.env.kindOf y=some .free from q] at z;cases z
     ·obtain⟨c',hc'⟩:=Pi.mp (uo (env:=X.env) (acc:=[]) (.inl mem))
      have e:=sub y c' hc';rw[hc] at e
      cases e
      obtain⟨o,ho,hd⟩:=hcell';exact⟨c,hc',o,hk c o ho,hd⟩
 ·obtain⟨v,o,ho,hd⟩:=I.cell y c (sub y c e)
  exact⟨v,o,hk c o ho,hd⟩
 ·have hp':p∈X.pn++pins:=by simpa[cz] using hp
  obtain⟨e,n,ne,nf,d⟩:=I.pin p hp';refine⟨hk _ _ e,n,Pq (O4 e),λz=>?_,d⟩
  rcases Pb.mp (I.stkSub p.1 z) with q|q
  ·exact ne q
  ·exact nf q
 ·unfold fP
  show _=(ns++jf.map (·.2)).length
  rw[Pw,Pw,P1,O2,O2]
end
def HOk.sameBut{P:ZD}{w:ZF}{H:Hp}{h h':Heap}{C:ZE}(ok:HOk P w H h)(hn:H C=none)(hs:Heap.SameBut C h h'):HOk P w H h':=(λb u e=>by
 refine(ok b u e).stay (λc v hc q=>(hs.2 c ?_).trans q) (λ_ q=>q) λ_ _ q=>q
 rcases hc with z|z
 ·rw[z];exact fN e hn
 ·exact fN z hn)
def Un.sameBut{fs ex:List ZE}{H H':Hp}{h h1 h2:Heap}{C:ZE}(u:Un fs ex H H' h h1)(hC:h.get? C=none)(hs:Heap.SameBut C h1 h2):Un fs ex H H' h h2:=by
 have ne:∀ b o,h.get? b=some o->b≠C:=λb o e z=>by rw[z,hC] at e;cases e
 refine⟨λb o e n hb hx=>(hs.2 b (ne b o e)).trans (u.keep b o e n hb hx),λb o e n hb hx=>?_,u.free,λb o e hx=>?_,u.tups,u.frzs,u.tbls⟩
 ·obtain⟨sl,q⟩:=u.slot b o e n hb hx
  exact⟨sl,(hs.2 b (ne b o e)).trans q⟩
 ·obtain⟨o',q⟩:=u.there b o e hx
  exact⟨o',(hs.2 b (ne b o e)).trans q⟩
def G4 {prog:ZD} {w:ZF} {A:ZG} {R:Result->ZB->Prop} {s:ZB} {elt target iter:Expr} {ifs:YD} {scope:Scope} {pos:Pos} {it acc:ZC} {env:Env} (I:Nat->ZB->Prop)
  (turn:∀ n s,I n s->wpAny (model prog w) A (pyNext it) (λr s₁=>match r with
   |none=>R (.ok .next) s₁
   |some v=>wpAny (model prog w) A (letOwnedTupleGo target it v) (λ_ s₂=>wpAny (model prog w) A (assign target env v) (λ_ s₃ =>
     wpAny (model prog w) A (forIn ifs true λc r=>if r=true then do let ok <- isTrue c env (eval c env);pure (ForInStep.yield ok) else pure (ForInStep.yield r)) (λok s₄ =>
      if ok=true then wpAny (model prog w) A (eval elt env) (λx s₅=>wpAny (model prog w) A (call (.builtin "list.append") [acc,x]) (λ_ s₆=>∃ m,m<n/\I m s₆) (λ_ _=>False) s₅) (λ_ _=>False) s₄
      else ∃ m,m<n/\I m s₄) (λ_ _=>False) s₃) (λ_ _=>False) s₂) (λ_ _=>False) s₁) (λ_ _=>False) s)
  (n:Nat) (h:I n s):codeAny (model prog w) A (.compLoop (.ListComp elt [⟨target,iter,ifs,0⟩] scope pos) 0 it acc env) R s:=by
 refine codeAny_loop rfl I (λn s hI=>?_) n h
 show wpAny _ A ((compTurn (.ListComp elt [⟨target,iter,ifs,0⟩] scope pos) 0 it acc env).onRaise (λx=>do noteFrame x env;theTreesLotGoes x)) _ _ s
 refine wpAny_noted ?_
 rw[compTurn_list];refine OT (Sb (OT (PC (turn n s hI) (λr s₁ h₁=>?_) λ_ _ z=>z.elim)))
 cases r with
 |none=>exact O1 h₁
 |some v =>
  refine OT (PC h₁ (λ_ s₂ h₂=>?_) λ_ _ z=>z.elim)
  refine OT (PC h₂ (λ_ s₃ h₃=>OT (PC h₃ (λok s₄ h₄=>?_) λ_ _ z=>z.elim)) λ_ _ z=>z.elim)
  cases ok with
  |false=>exact O1 ⟨rfl,h₄⟩
  |true =>
   exact OT (OT (PC h₄ (λx s₅ h₅=>OT (PC h₅ (λ_ s₆ h₆=>O1 (O1 ⟨rfl,h₆⟩)) λ_ _ z=>z.elim)) λ_ _ z=>z.elim))
section
variable{X:Cx}{ns:List Str}{tg:Expr}{g:TG}{jf:List (Nat×Str)}{scope:Scope}{iter elt:Expr}{ifs:YD}{pos:Pos}{wi:TI}{tc:TT}{te:TE}
def yF(hcalm:X.calm=true)(hg:∀ pins cl s H fp,PG (cz X pins ns jf scope cl s H fp) tg g)(hi:PI X tg iter wi)(hc:∀ pins cl s H fp,jr (cz X pins ns jf scope cl s H fp) ifs tc)(he:∀ pins cl s H fp,PE (cz X pins ns jf scope cl s H fp) elt te)(C:CompOk X ns jf scope){use:Option (ZC->Sem Unit)}{Qf:ZC->ZB->Prop}{cpos:Pos}
  {pins:List (ZE×Obj)}{σ:St}{H:Hp}{s:ZB}{Q:VK}(I:Inv X pins σ H s)(h:oj ns.length g jf wi tc te σ H Q)
  (fin:∀ D C s6 H6 m6,Inv X pins σ H6 s6->Q (.ref D) H6->dI X pins H6 C->s6.heap.Ns C m6->compPost (model X.prog X.w) X.A X.xe use Qf (.ref D) C (.ok .next) s6)(hs:∀ x,foldedSetIterable iter X.env x=pure x) :
  wpAny (model X.prog X.w) X.A (comprehension (.ListComp elt [⟨tg,iter,ifs,0⟩] scope pos) scope X.env cpos (newList []) false (eval iter X.env) use) Qf X.xe s:=by
 obtain⟨_,_,_,_,hkind,hcell,hfr,hnames⟩:=id C;have hsome:∀ y∈scope.names,y.2=.free->(X.env.cells.lookup y.1).isSome=true:=λy hy hyf=>Pi.mpr (I.ok.has y.1 (hfr y hy hyf))
 refine wpAny_comprehension_free (use:=use) rfl hs (GZ hsome) hkind hnames (thn (hi pins s σ H _ I h) λxv s1 h1=>thn h1 λitv s2 h2=>?_)
 obtain⟨it,fp,tn,J,H2,e,I2,T,st2,f2,h⟩:=h2;subst e;refine Qo (wpAny_newFunctionEnv hcell (by intro y hy;simp at hy) (λh₁ hns₁ hsb₁=>?_) hkind)
 have hD0:H2 s2.heap.objs.size=none:=I2.hok.fresh (OV _);obtain⟨W,⟨m0,w0⟩,step⟩:=h s2.heap.objs.size hD0;dsimp only at hns₁ hsb₁ ⊢;have I3:Inv X pins σ (upd H2 s2.heap.objs.size (.lst [])) { s2 with heap:=s2.heap.push { cls:=.type "list",dict:=none,data:=.seq ([]:YB).toArray } } :=
  I2.laid (t':=s2.toks) (λb u q=>OZ _ q) (OV _) ⟨Po _,[],0,.nil,Pa _ rfl⟩
 generalize hH3:s2.heap.push { cls:=.type "list",dict:=none,data:=.seq ([]:YB).toArray }=hp3 at hns₁ hsb₁ I3 ⊢
 have hsz3:hp3.objs.size=s2.heap.objs.size+1:=by rw[<- hH3,Te]
 have k23:∀ b o,s2.heap.get? b=some o->hp3.get? b=some o:=λb o q=>by rw[<- hH3];exact OZ _ q
 have flt:∀ b∈fp,b<s2.heap.objs.size:=λb hb=>by
  obtain⟨o,q,_⟩:=T.obj 0 _ st2 b hb;exact O4 q
 have f3:∀ b∈fp,dI X pins (upd H2 s2.heap.objs.size (.lst [])) b:=λb hb=>by
  obtain⟨g0,g⟩:=f2 b hb;exact⟨by rw[bg (Pq (flt b hb))];exact g0,g⟩
 have kC:∀ b o,hp3.get? b=some o->h₁.get? b=some o:=λb o q=>(hsb₁.2 b (Pq (O4 q))).trans (OZ _ q)
 have B0:=I3.block (ns:=ns) (jf:=jf) (scope:=scope) (fp:=fp) (h1:=h₁) (tk:=s2.toks+([]:List (Str×ZC)).length) f3 (λb hb=>by show b<hp3.objs.size;rw[hsz3];exact Rl (flt b hb)) C (by simpa using hns₁) kC
 have st4:tn 0 h₁:=T.keep _ _ _ st2 λb _ o q=>kC b o (k23 b o q)
 have w0':=w0;have stat:∀ {H':Hp},(∀ b∈fp,H' b=none)->∀ b∈fp,dI (cz X pins ns jf scope (eE X.env scope.names []) { s2 with heap:=hp3 } (upd H2 s2.heap.objs.size (.lst [])) fp) [] H' b:=λhn b hb=>by
  obtain⟨_,g1,g2,g3,g4,g5⟩:=f2 b hb;refine⟨hn b hb,Pq (by show b<hp3.objs.size;rw[hsz3];exact Rl (flt b hb)),λz=>?_,.inl hb,λy c q=>g4 y c (um hsome (λy c e=>by simp at e) y c q),λp hp=>g5 p (by simpa[cz] using hp)⟩
  rcases Pb.mp (I2.stkSub b z) with q|q
  ·exact g1 q
  ·exact g2 q
 have loop:codeAny (model X.prog X.w) X.A (.compLoop (.ListComp elt [⟨tg,iter,ifs,0⟩] scope pos) 0 (.ref it) (.ref s2.heap.objs.size) (compEnvC scope (eE X.env scope.names []) hp3.objs.size X.env))
   (compPost (model X.prog X.w) X.A X.xe use Qf (.ref s2.heap.objs.size) hp3.objs.size) { s2 with heap:=h₁,toks:=s2.toks+([]:List (Str×ZC)).length }:=by
  refine G4 (λn s'=>∃ i ys H',Inv (cz X pins ns jf scope (eE X.env scope.names []) { s2 with heap:=hp3 } (upd H2 s2.heap.objs.size (.lst [])) fp) [] (fP (List.replicate ns.length none) jf σ) H' s'/\tn i s'.heap/\(∀ b∈fp,H' b=none)/\W i n ys H') ?_ m0
   ⟨0,[],_,B0,st4,λb hb=>(f3 b hb).1,w0⟩
  rintro n s5 ⟨i,ys,H5,I5,st5,fr5,w5⟩
  obtain⟨hD5,alt⟩:=step i n ys H5 w5;rcases alt with⟨stop,q5⟩|⟨go,hlen,next⟩
  ·refine PC (T.done (cz X pins ns jf scope (eE X.env scope.names []) { s2 with heap:=hp3 } (upd H2 s2.heap.objs.size (.lst [])) fp) rfl rfl rfl hcalm i [] s5 _ H5 (λ_ _=>False) I5 (stat fr5) st5 stop) (λr s6 Zz=>?_) λ_ _ z=>z;obtain⟨hr,I6⟩:=Zz
   subst hr;obtain⟨m6,hn6,_⟩:=id I6.loc
   refine fin _ _ s6 H5 m6 ?_ q5 (I3.fpOk (OV _) I6.free) hn6
   refine I3.call' (ch:=fp) I6.os I6.base I6.hok I6.bare (λb hb=>?_)
   obtain⟨_,g1,g2,g3,g4,g5⟩:=f2 b hb;exact⟨g3,g1,g4,g5⟩
  ·refine PC (T.item (cz X pins ns jf scope (eE X.env scope.names []) { s2 with heap:=hp3 } (upd H2 s2.heap.objs.size (.lst [])) fp) rfl rfl rfl hcalm i [] s5 _ H5 (λ_ _=>False) I5 (stat fr5) st5 go) (λr s6 Zz=>?_) λ_ _ z=>z;obtain⟨u,hr,h6⟩:=Zz
   subst hr;refine PC h6 (λ_ s7 Zz=>?_) λ_ _ z=>z;obtain⟨x,H7,I7,r7,y7,st7,fr7⟩:=Zz
   have I7':=I7.pinned (stat fr7) (T.obj _ _ st7);obtain⟨us,hu,gq,q8⟩:=next x H7 y7;refine PC (hg pins _ _ _ fp ([]++iU fp s7.heap) s7 _ H7 x _ _ I7' r7 gq) (λ_ s8 Zz=>?_) λ_ _ z=>z;obtain⟨σ8,H8,I8,e8,e8'⟩:=Zz
   subst e8 e8'
   have I8':Inv (cz X pins ns jf scope (eE X.env scope.names []) { s2 with heap:=hp3 } (upd H2 s2.heap.objs.size (.lst [])) fp) ([]++iU fp s7.heap) (fP (us.map some) jf σ) H8 s8:=I8;have again:∀ {s9:ZB} {H9:Hp} {zs:YE} {m':Nat},Inv (cz X pins ns jf scope (eE X.env scope.names []) { s2 with heap:=hp3 } (upd H2 s2.heap.objs.size (.lst [])) fp) ([]++iU fp s7.heap) (fP (us.map some) jf σ) H9 s9->m'<n->W (i+1) m' zs H9 ->
     ∃ m,m<n/\∃ i ys H',Inv (cz X pins ns jf scope (eE X.env scope.names []) { s2 with heap:=hp3 } (upd H2 s2.heap.objs.size (.lst [])) fp) [] (fP (List.replicate ns.length none) jf σ) H' s9/\tn i s9.heap/\(∀ b∈fp,H' b=none)/\W i m ys H':=λ{s9 H9 zs m'} I9 hm w9=>by
    refine⟨m',hm,i+1,zs,H9,I9.unpinned.weak (by simp[fP,hu]) (λj v e=>?_),T.keep _ _ _ st7 λb hb o e=>(I9.pin (b,o) (Pn _ (Pn _ (qd hb e)))).1,λb hb=>?_,w9⟩
    ·unfold fP at e ⊢
     by_cases hj:j<ns.length
     ·rw[O3 (by rw[P1];exact hj),Qn,OX hj] at e;cases e
     ·have hj:=Sg hj
      rw[Pl (by rw[P1];exact hj),P1] at e;rw[Pl (by rw[O2,hu];exact hj),O2,hu];exact e
    ·obtain⟨o,e,d⟩:=T.obj _ _ st7 b hb
     exact(I9.pin (b,o) (Pn _ (Pn _ (qd hb e)))).2.1
   refine PC (hc pins _ _ _ fp ([]++iU fp s7.heap) s8 _ H8 _ I8' q8) (λok s9 Zz=>?_) λ_ _ z=>z;obtain⟨H9,I9,q9⟩:=Zz
   cases ok with
   |false =>
    rw[O0 Pe] at q9 ⊢;obtain⟨m',hm,w9⟩:=q9
    exact again I9 hm w9
   |true =>
    rw[OX rfl] at q9 ⊢;refine PC (he pins _ _ _ fp ([]++iU fp s7.heap) s9 _ H9 _ I9 q9) (λy s10 Zz=>?_) λ_ _ z=>z;obtain⟨v,H10,I10,r10,hD10,m',hm,w10⟩:=Zz
    refine PC (yv (X:=(cz X pins ns jf scope (eE X.env scope.names []) { s2 with heap:=hp3 } (upd H2 s2.heap.objs.size (.lst [])) fp)) ([]++iU fp s7.heap) s10 (fP (us.map some) jf σ) H10 (.ref s2.heap.objs.size) [v] (.ref s2.heap.objs.size) [y] (λ_ H'=>H'=upd H10 s2.heap.objs.size (.lst (ys++[v]))) I10 rfl (.cons r10 .nil) ⟨_,ys,v,rfl,rfl,hD10,hlen,rfl⟩)
     (λ_ s11 ⟨_,H11,I11,_,e11⟩=>?_) λ_ _ z=>z
    subst e11;exact again I11 hm w10
 exact codeAny_compStart_list loop (T.self _ 0 _ _ _ st4 loop)
def yG(hcalm:X.calm=true)(hg:∀ pins cl s H fp,PG (cz X pins ns jf scope cl s H fp) tg g)(hi:PI X tg iter wi)(hc:∀ pins cl s H fp,jr (cz X pins ns jf scope cl s H fp) ifs tc)(he:∀ pins cl s H fp,PE (cz X pins ns jf scope cl s H fp) elt te)(C:CompOk X ns jf scope)(hs:autoParam (∀ x,foldedSetIterable iter X.env x=pure x) L2.Ez._auto_1) :
  PE X (.ListComp elt [⟨tg,iter,ifs,0⟩] scope pos) (oj ns.length g jf wi tc te):=by
 intro pins s σ H Q I h;rw[eval_ListComp];refine yF hcalm hg hi hc he C (use:=none) (Qf:=EP X pins σ Q) I h (λD C s6 H6 m6 I6 q6 f6 n6=>?_) hs
 refine⟨m6,n6,λh' hs'=>⟨.ref D,H6,?_,rfl,q6⟩⟩
 exact I6.turnedL (fp:=[C]) (t':=s6.toks) (λb o hb q=>(hs'.2 b (λz=>hb (by simp[z]))).trans q) (λb hb=>by
  have e:b=C:=by simpa using hb
  subst e;exact f6)
def G5{y:Str}{py spos:Pos}{i:Nat}(hcalm:X.calm=true)(hg:∀ pins cl s H fp,PG (cz X pins ns jf scope cl s H fp) tg g)(hi:PI X tg iter wi)(hc:∀ pins cl s H fp,jr (cz X pins ns jf scope cl s H fp) ifs tc)(he:∀ pins cl s H fp,PE (cz X pins ns jf scope cl s H fp) elt te)(C:CompOk X ns jf scope)(hNX:X.N.Nodup)(hi':X.N[i]?=some y)(hy:X.env.scope.names.lookup y=some .local)
  (hsw:swapsWith (.ListComp elt [⟨tg,iter,ifs,0⟩] scope pos) (some (.Name y py)) spos.line X.env=pure true)(hs:autoParam (∀ x,foldedSetIterable iter X.env x=pure x) L2.Ez._auto_1) :
  PS X (.Assign [.Name y py] (.ListComp elt [⟨tg,iter,ifs,0⟩] scope pos) spos) (jl (oj ns.length g jf wi tc te) (mO i)):=by
 intro pins s σ H D I h;rw[exec_Assign_Name_used _ _ _ _ hsw];refine OT (Sb (OT ?_))
 show wpAny _ X.A (do let _ <- comprehension (.ListComp elt [⟨tg,iter,ifs,0⟩] scope pos) scope X.env _ (newList []) false (eval iter X.env) (some (assign (.Name y py) X.env))) _ _ s
 refine OT (PC (yF (Qf:=λ_ s'=>SP X pins D .next s') hcalm hg hi hc he C (use:=some (assign (.Name y py) X.env)) I h (λD' C s6 H6 m6 I6 q6 f6 n6=>?_) hs) (λ_ s' hq=>O1 (O1 hq)) λ_ _ e=>e)
 refine Ue (xX I6 hNX hi' (.inl hy) (v:=.ref D') rfl (λs7 I7 Zz=>?_) (.inr hy));obtain⟨a,hsa,ha⟩:=Zz
 have ne:C≠a:=by
  rcases ha with z|z
  ·rw[z];exact f6.2.1
  ·exactλq=>f6.2.2.2.2.1 y a z q.symm
 refine⟨m6,n6.sameBut hsa ne,λh' hs'=>⟨_,H6,?_,q6⟩⟩
 exact I7.turnedL (fp:=[C]) (t':=s7.toks) (λb o hb q=>(hs'.2 b (λz=>hb (by simp[z]))).trans q) (λb hb=>by
  have e:b=C:=by simpa using hb
  subst e;exact f6)
end
section
variable{X:Cx}{a b e:Expr}{ta tb:TE}{p p2 pos:Pos}
def G6{c:V}{cv:ZC}(rc:∀ u,RelV c u->u=cv) :
  CallR X (.builtin "isinstance") (λxs H Q=>∃ x t r,xs=[x,c]/\cH X.K H x t/\PySem.W.kitOne X.K t cv=some r/\Q (.bl r) H):=by
 intro pins s σ H xs us Q I r h;obtain⟨x,t,k,rfl,ty,hk,q⟩:=h;obtain⟨u,w',rfl,rx,ry⟩:=nY r;obtain rfl:=rc _ ry;exact Ft I rx ty hk λtk=>⟨.bl k,H,I.tok _,rfl,q⟩
def yH(n:String):∀ u,RelV (.ty n) u->u=Value.type n:=(λ_ r=>r)
def G7(c:ZE):∀ u,RelV (.ref c) u->u=Value.ref c:=(λ_ r=>r)
def G8:OpR X (compareOp .LtE) (λx y H Q=>∃ i j,x=.str i/\y=.str j/\Q (.bl (!decide (j.cps.toList<i.cps.toList))) H):=by
 intro pins s σ H x y v u Q I rx ry h;obtain⟨i,j,rfl,rfl,q⟩:=h;obtain⟨t,rfl⟩:=rx;obtain⟨t',rfl⟩:=ry;exact PySem.P.le_str (b9 I q rfl)
def G9:gw X "str.count" (λx vs H Q=>∃ z y,x=.str z/\vs=[.str y]/\Q (.int ((Builtin.Str.occurrences z y 0 z.length (z.length+1)).length:Nat)) H):=by
 intro pins s σ H x vs v us Q I rx rv h;obtain⟨z,y,rfl,rfl,q⟩:=h;obtain⟨t,rfl⟩:=rx;obtain⟨u,rfl,t',rfl⟩:=iV rv;exact Ur F.slot_str_count (Ry s z t) F.entry_str_count (F.args_str_count_2 _ _) (gives_str_count z y t t') ⟨.int _,H,I.tok _,⟨_,rfl⟩,q⟩
def Ha(l:List (Array Nat)):∀ acc:Array Nat,(l.foldl (· ++ ·) acc).toList=acc.toList++(l.map Array.toList).flatten:=by
 induction l with
 |nil=>intro acc;simp
 |cons x r ih=>intro acc;rw[Q4,ih];simp
def Hb(hc:X.calm=true):CallR X (.builtin "all") (λxs H Q=>∃ (a:ZE) (bs:List Bool),xs=[.ref a]/\SqL X.K H a (bs.map V.bl)/\Q (.bl (bs.all id)) H):=by
 intro pins s σ H xs us Q I r h;obtain⟨l,bs,rfl,hq,q⟩:=h;obtain⟨u,rfl,rx⟩:=iV r
 cases rx
 obtain⟨its,rv,pl,hz⟩:=I.list hq;have hlt:l<s.heap.objs.size:=by obtain⟨_,_,e,_⟩:=pl;exact O4 e
 have hlen:its.length=bs.length:=by rw[<- rv.length,O2]
 refine call_all_walk (R6 pl.isList ?_)
 refine⟨s.heap.objs.size,[s.heap.objs.size,l],[s.heap.objs.size],its.toArray.size,_,_,λi=>(bs[i]?).getD true,rfl,Walks.list (A:=X.A.in1) (I.ok.hd hc) _ l (Pq hlt) its.toArray,
  ⟨⟨_,Pa _ rfl,rfl,rfl⟩,pl.isList.push _⟩,λi v s' Q' E' hP hQ=>?_,λh' tk hk=>?_⟩
 ·have hP':its[i]?=some v:=by simpa using hP
  have hi:i<its.length:=(OS.mp hP').1;have hb:(bs.map V.bl)[i]?=some (V.bl (bs[i]'(by omega))):=by rw[Pr,O6 (by omega)];rfl
  obtain⟨u,hu,ru⟩:=rv.get hb;rw[hP'] at hu
  cases hu
  cases ru
  have e:(bs[i]?).getD true=bs[i]'(by omega):=by rw[O6 (by omega)];rfl
  have hQ2:Q' ((bs[i]?).getD true) s':=hQ;rw[e] at hQ2;exact Pj hQ2
 ·have e:((List.range its.toArray.size).all λi=>(bs[i]?).getD true)=bs.all id:=by
   rw[O5,hlen,Qq,Px,Px];constructor
   ·intro z c hc'
    obtain⟨i,hi,rfl⟩:=QZ hc';have:=z i (Rh.mpr hi);rw[O6 hi] at this;exact this
   ·intro z i hi
    have hi':=Rh.mp hi;rw[O6 hi'];exact z _ (Qz hi')
  rw[e];refine⟨.bl _,H,I.kept (t':=tk) λb o q=>?_,rfl,q⟩
  exact hk b o (λhm=>by rw[Q7.mp hm] at q;exact Qi _ (O4 q)) (OZ _ q)
end
section
variable{X:Cx}
def Hc:OpR X (binaryOp .FloorDiv) (rI (λ_ j=>0<j/\j<2 ^ 200) λi j=>.int (i / j)):=(qe λi j _ _ _ _ _ hc q=>by
 obtain⟨h1,h2⟩:=hc;refine floordiv_int ⋯ (by rw[Int.fdiv_eq_ediv_of_nonneg i ⋯];exact q) (.inl (PyProof.noPylong_of_log2 ?_))
 have h3:j.natAbs<2 ^ 200:=by lia
 have h4:j.natAbs.log2<200:=(Nat.log2_lt ⋯).mpr h3;lia)
def Hd:OpR X (binaryOp .Mult) (rI IntMulOk λi j=>.int (i*j)):=(qe λ_ _ _ _ _ _ _ hc q=>mul_int q hc)
end
def gy:bootBuiltins "int"=some (.type "int"):=by decide +kernel
def He:bootBuiltins "bool"=some (.type "bool"):=by decide +kernel
def yI:bootBuiltins "str"=some (.type "str"):=by decide +kernel
open Sem (wp)
def DkH(h h':Heap):Prop:=∀ b o,h.get? b=some o->∃ o',h'.get? b=some o'/\o'.dict=o.dict
def DkH.refl(h:Heap):DkH h h:=(λ_ o e=>⟨o,e,rfl⟩)
def cF{α:Type}(m:Sem α):Prop:=∀ (M:Model) (Γ:PySem.Ctx) (Q:α->Pos->ZB->Prop) (E:ZC->Pos->ZB->Prop) (p:Pos) (s:ZB) (h0:Heap),DkH h0 s.heap->wp M Γ m Q E p s->wp M Γ m (λa p' s'=>Q a p' s'/\DkH h0 s'.heap) E p s
section
variable{α β:Type}
def cS{m:Sem α}{f:α->Sem β}(h:cF m)(g:∀ a,cF (f a)):cF (m >>= f):=(λM Γ Q E p s h0 d q=>by
 rw[Sem.wp_bind'] at q ⊢;exact Sem.wp_mono M Γ m (λa p' s' z=>g a M Γ _ _ p' s' h0 z.2 z.1) (λ_ _ _ x=>x) p s (h M Γ _ _ p s h0 d q))
def dB(a:α):cF (pure a:Sem α):=(λM Γ Q E p s h0 d q=>by
 have q':Q a p s:=q;exact(show wp M Γ (Sem.pure a) _ E p s by rw[wp];exact⟨q',d⟩))
def iY(w:String):cF (Sem.unsupported w:Sem α):=(λM Γ Q E p s h0 d q=>by rw[wp] at q;exact q.elim)
def Hf{a:ZE}{pt:Option ZC}{k:Obj->Sem α}(h:∀ o,cF (k o)):cF (Sem.load a pt k):=(λM Γ Q E p s h0 d q=>by
 rw[wp] at q ⊢;obtain⟨o,h1,h2⟩:=q
 exact⟨o,h1,h o M Γ _ _ p _ h0 d h2⟩)
def Hg{k:List (Code×Pos)->Sem α}(h:∀ o,cF (k o)):cF (Sem.stack k):=(λM Γ Q E p s h0 d q=>by
 rw[wp] at q ⊢;exact h _ M Γ _ _ p _ h0 d q)
def Hh{o:Obj}{k:ZE->Sem α}(h:∀ o,cF (k o)):cF (Sem.alloc o k):=(λM Γ Q E p s h0 d q=>by
 rw[wp] at q ⊢;exact h _ M Γ _ _ p { s with heap:=s.heap.push o } h0 (λb o' e=>by
  obtain⟨o2,e2,e3⟩:=d b o' e;exact⟨o2,OZ _ e2,e3⟩) q)
def Hi{a:ZE}{pt:Option ZC}{f:Obj->Obj}{k:Unit->Sem α}(hf:∀ o,(f o).dict=o.dict/\(o.isFreed=false->(f o).isFreed=false))(h:∀ o,cF (k o)):cF (Sem.update a pt f k):=(λM Γ Q E p s h0 d q=>by
 rw[wp] at q ⊢;refine⟨q.1,h _ M Γ _ _ p { s with heap:=s.heap.update a f } h0 (λb o' e=>?_) q.2⟩
 obtain⟨o2,e2,e3⟩:=d b o' e;by_cases hb:b=a
 ·subst hb
  exact⟨f o2,QP f e2 ((hf o2).2 (Heap.get?_some_iff.mp e2).2),(hf o2).1.trans e3⟩
 ·exact⟨o2,(Heap.get?_update_ne _ _ _ _ hb).trans e2,e3⟩)
end
def uv(a:ZE):cF (load a):=(Hf λo=>dB o)
def yJ{a:ZE}{f:Obj->Obj}(hf:∀ o,(f o).dict=o.dict/\(o.isFreed=false->(f o).isFreed=false)):cF (update a f):=(Hi hf λo=>dB o)
def Hj(v:ZC):cF (fieldsOf v):=by
 unfold fieldsOf
 cases v<;>first|exact iY _|skip
 refine cS (uv _) λo=>?_
 cases o.data<;>first|exact dB _|exact iY _
def qu(v:ZC)(i:Nat):cF (field v i):=by
 unfold field;refine cS (Hj v) λo=>?_
 cases o[i]? <;> first|exact dB _|exact iY _
def Hk(g:Array ZC->Array ZC)(o:Obj):(Obj.mapFields g o).dict=o.dict/\(o.isFreed=false->(Obj.mapFields g o).isFreed=false):=by
 obtain⟨c,d,dt,sl⟩:=o
 cases dt<;>exact⟨rfl,λh=>h⟩
def qv(v:ZC)(i:Nat)(x:ZC):cF (setField v i x):=by
 unfold setField
 cases v<;>first|exact iY _|skip
 unfold updateField;refine cS (uv _) λo=>?_
 cases o.data<;>first|exact iY _|skip
 dsimp only;split
 ·exact yJ (Hk _)
 ·exact iY _
def yK(e:ZC)(fr:YC):cF (setFlight e fr):=by
 unfold setFlight;refine cS (qu e 1) λtb=>?_
 split
 ·exact qv _ _ _
 ·exact dB _
def Hl(env:Env)(outer:List Env):cF (behindIsImport env outer):=by
 unfold behindIsImport;split
 ·exact dB _
 ·split
  ·exact dB _
  ·exact cS (qu _ _) λ_=>dB _
def uw:cF stack:=(Hg λo=>dB o)
def Hm:cF underTheClaimsCaller:=by
 unfold underTheClaimsCaller;exact cS uw λ_=>dB _
def Hn(env:Env)(b:Bool)(l:List Env):cF (keptBack env b l):=by
 unfold keptBack
 cases l with
 |nil =>
  dsimp only;split
  ·exact dB _
  ·exact cS Hm λ_=>dB _
 |cons=>exact dB _
theorem yL:∀ l:List Env,cF (readyFrames l)
 |[]=>dB _
 |env::outer=>by
  unfold readyFrames
  cases env.frame with
  |none=>exact iY _
  |some f =>
   refine cS (uv f) λo=>?_
   split
   ·exact dB _
   ·refine cS (Hl _ _) λb=>cS (Hn _ _ _) λv=>cS (yJ λo=>⟨rfl,λh=>by obtain⟨c,d,dt,sl⟩:=o;cases dt<;>exact h⟩) λ_=>yL outer
def yM(env:Env):cF (PySem.frameOf env):=by
 unfold PySem.frameOf frameEnvs;refine cS (cS uw λ_=>dB _) λl=>cS ?_ λr=>?_
 ·generalize l.dropWhile _=m
  unfold frameObject
  cases m with
  |nil=>exact dB _
  |cons e r=>exact cS (yL _) λ_=>dB _
 ·cases r with
  |none=>exact iY _
  |some v=>exact dB _
def yN(f:ZE)(b:Bool):cF (entryPlaceOf f b):=by
 unfold entryPlaceOf;refine cS uw λl=>?_
 split
 ·exact dB _
 ·exact dB _
def yO(a b c d e:ZC)(l:YB):cF (EntryCells.newEntry a b c d e l):=by
 unfold EntryCells.newEntry newFields newObj;dsimp only;have k:∀ d,cF (newObjAsIs (.type "traceback") (.fields d)):=λd=>by
  unfold newObjAsIs;exact cS (Hh λo=>dB o) λ_=>dB _
 generalize ([a,b,c,d,e]++if l.isEmpty=true then List.replicate 6 Value.none else l).toArray=arr
 split
 ·exact cS (iY _) λ_=>k _
 ·exact k _
def Hq(e:ZC)(env:Env):cF (noteFrame e env):=by
 unfold noteFrame
 cases env.frame with
 |none=>exact iY _
 |some f =>
  refine cS (qu e 1) λh=>?_
  dsimp only;split
  ·refine cS (qu h 3) λx=>?_
   split
   ·exact dB _
   ·exact cS (qv _ _ _) λ_=>cS (yM env) λ_=>cS (yN _ _) λ_=>cS (yO _ _ _ _ _ _) λ_=>qv _ _ _
  ·exact cS (yM env) λ_=>cS (yN _ _) λ_=>cS (yO _ _ _ _ _ _) λ_=>qv _ _ _
def ux{α:Type}{M:Model}{A:ZG}{t:Sem α}{Q:α->ZB->Prop}{E:ZC->ZB->Prop}{s:ZB}{h0:Heap}(k:cF t)(d:DkH h0 s.heap)(h:wpAny M A t Q E s):wpAny M A t (λa s'=>Q a s'/\DkH h0 s'.heap) E s :=(
 λΓ p hΓ=>k M Γ _ _ p s h0 d (h Γ p hΓ))
def ObjOk.some{P:ZD}{w:ZF}{H:Hp}{h:Heap}{a:ZE}{o:HO}(x:ObjOk P w H h a o):∃ ob,h.get? a=Option.some ob:=by
 cases o with
 |lst xs=>obtain⟨_,_,_,_,e⟩:=x;exact⟨_,e⟩
 |tup xs=>obtain⟨_,_,_,o,e,_⟩:=x;exact⟨o,e⟩
 |dK kvs=>obtain⟨_,_,_,_,o,_,_,e,_⟩:=x;exact⟨_,e⟩
 |dT xc kvs=>obtain⟨_,_,_,_,o,_,_,e,_⟩:=x;exact⟨_,e⟩
 |set S n=>obtain⟨o,_,_,_,e,_⟩:=x;exact⟨_,e⟩
 |ins C dx fs=>obtain⟨_,_,_,e,_⟩:=x;exact⟨_,e⟩
 |own y=>obtain⟨_,e⟩:=x;exact⟨_,e⟩
 |xd fs=>obtain⟨_,⟨_,_,_,e,_⟩,_⟩:=x;exact⟨_,e⟩
 |rng lo hi=>obtain⟨_,_,_,e⟩:=x;exact⟨_,e⟩
 |frz ob u=>obtain⟨e,_⟩:=x;exact⟨_,e⟩
 |tbl ps=>exact⟨_,(show h.get? a=Option.some _ from x)⟩
 |met f y=>exact⟨_,(show h.get? a=Option.some _ from x)⟩
 |ext φ=>obtain⟨_,⟨_,e⟩,_⟩:=x;exact⟨_,e⟩
def gO(X:Cx)(pins:List (ZE×Obj))(H:Hp)(h B:Heap):Prop :=
 ∀ b o,h.get? b=some o->b∉dU X.stack->((∃ u,H b=some u)\/(∃ o',X.s₀.heap.get? b=some o')\/∃ p∈X.pn++pins,p.1=b)->B.get? b=some o
section
variable{X:Cx}{pins:List (ZE×Obj)}{σ:St}{H:Hp}{s:ZB}
def Inv.nofr(I:Inv X pins σ H s){b:ZE}{o:Obj}(e:X.s₀.heap.get? b=some o)(hb:b∉X.fs):b∉dU X.stack:=(λz=>by
 rcases Pb.mp (I.stkSub b z) with q|q
 ·exact Pq (Ph (O4 e) I.ok.above) q
 ·exact hb q)
def Inv.nofrT(I:Inv X pins σ H s){b:ZE}{u:HO}(e:H b=some u):b∉dU X.stack:=(λz=>by
 have q:=I.stkFree b z;rw[q] at e
 cases e)
def Inv.nofrP(I:Inv X pins σ H s){p:ZE×Obj}(hp:p∈X.pn++pins):p.1∉dU X.stack:=(λz=>by
 obtain⟨_,_,ne,nf,_⟩:=I.pin p hp;rcases Pb.mp (I.stkSub p.1 z) with q|q
 ·exact ne q
 ·exact nf q)
def Inv.flown{B h':Heap}{t':Nat}(I:Inv X pins σ H s)(hex:X.ex=[])(F:gO X pins H s.heap B)(st:B.StaysIn h')(sm:s.heap.UpToSlots h'):Inv X pins σ H { s with heap:=h',toks:=t' }:=by
 have nx:∀ b,b∉X.ex:=λb z=>by rw[hex] at z;cases z
 refine⟨I.ok,I.os,I.bare,⟨λb o e n hb hx=>?_,λb o e n hb hx=>?_,I.base.free,λb o e hx=>?_,I.base.tups,I.base.frzs,I.base.tbls⟩,?_,λx c e=>?_,I.free,I.freeC,λp hp=>?_,λb u e=>?_,I.len⟩
 ·exact st b o (F b o (I.base.keep b o e n hb hx) (I.nofr e hb) (.inr (.inl ⟨o,e⟩)))
 ·obtain⟨sl,q⟩:=I.base.slot b o e n hb hx
  obtain⟨_,o',ho',hd⟩:=I.funs.mem hb;rw[q] at ho'
  cases ho'
  obtain⟨sl',q'⟩:=sm b _ q hd;exact⟨sl',q'⟩
 ·obtain⟨o',q⟩:=I.base.there b o e hx
  by_cases hb:b∈X.fs
  ·obtain⟨_,o'',ho'',hd⟩:=I.funs.mem hb
   rw[q] at ho''
   cases ho''
   obtain⟨sl',q'⟩:=sm b _ q hd;exact⟨_,q'⟩
  ·exact⟨o',st b o' (F b o' q (I.nofr e hb) (.inr (.inl ⟨o,e⟩)))⟩
 ·obtain⟨m,hn,hl⟩:=I.loc
  refine⟨m,sm.ns hn,λi x v e1 e2 e3=>?_⟩
  obtain⟨u,r,l⟩:=hl i x v e1 e2 e3;refine⟨u,r,?_⟩
  rcases l with l|⟨k,c,e,o,ho,hd⟩
  ·exact .inl l
  ·obtain⟨sl,q⟩:=sm c o ho λvs z=>by rw[hd] at z;cases z
   exact .inr ⟨k,c,e,_,q,hd⟩
 ·obtain⟨v,o,ho,hd⟩:=I.cell x c e
  obtain⟨sl,q⟩:=sm c o ho λvs z=>by rw[hd] at z;cases z
  exact⟨v,_,q,hd⟩
 ·obtain⟨e,n,ne,nf,d⟩:=I.pin p hp
  exact⟨st _ _ (F _ _ e (I.nofrP hp) (.inr (.inr ⟨p,hp,rfl⟩))),n,ne,nf,d⟩
 ·refine(I.hok b u e).stay (λc v hc q=>?_) (λ_ q=>q) λ_ _ q=>q
  rcases hc with z|z
  ·subst z
   exact st _ _ (F _ _ q (I.nofrT e) (.inl ⟨_,e⟩))
  ·exact st _ _ (F _ _ q (I.nofrT z) (.inl ⟨_,z⟩))
def Inv.adopt0{T:ZE}{ob:HO}(I:Inv X pins σ H s)(hn:H T=none)(hT:X.s₀.heap.get? T=none)(hL:T≠X.env.locals)(hc:∀ x c,X.env.cells.lookup x=some c->c≠T)
  (hp:∀ p∈X.pn++pins,p.1≠T)(new:ObjOk X.prog X.w (upd H T ob) s.heap T ob):Inv X pins σ (upd H T ob) s:=by
 have hne:∀ b u,H b=some u->b≠T:=λb u e=>fN e hn
 have hs:∀ b o,X.s₀.heap.get? b=some o->b≠T:=λb o e z=>by rw[z,hT] at e;cases e
 refine⟨I.ok,I.os,I.bare,⟨I.base.keep,I.base.slot,λb o e n hx=>by rw[bg (hs b o e)];exact I.base.free b o e n hx,I.base.there,λb xs e=>?_,λb o u e=>?_,λb ps e=>?_⟩,I.loc,I.cell,by rw[bg (Ne.symm hL)];exact I.free,λx c e=>by rw[bg (hc x c e)];exact I.freeC x c e,λp hp'=>?_,λb u e=>?_,I.len⟩
 ·have q:=I.base.tups b xs e
  rw[bg (hne b _ q)];exact q
 ·have q:=I.base.frzs b o u e
  rw[bg (hne b _ q)];exact q
 ·obtain⟨more,q⟩:=I.base.tbls b ps e
  exact⟨more,by rw[bg (hne b _ q)];exact q⟩
 ·obtain⟨e,n,ne,nf,d⟩:=I.pin p hp'
  exact⟨e,by rw[bg (hp p hp')];exact n,ne,nf,d⟩
 ·by_cases hb:b=T
  ·subst hb;rw[dH] at e;cases e;exact new
  ·rw[bg hb] at e
   exact(I.hok b u e).stay (λc v _ q=>q) (λc q=>by rw[bg (hne c _ q)];exact q) λc xs q=>by rw[bg (hne c _ q)];exact q
end
structure Arr(X:Cx)(pins:List (ZE×Obj))(σ:St)(H:Hp)(a:ZE)(cls:ZC)(dx:YC)(s:ZB):Prop where
 inv:Inv X pins σ H s
 un:H a=none
 new:X.s₀.heap.get? a=none
 nl:a≠X.env.locals
 nc:∀ x c,X.env.cells.lookup x=some c->c≠a
 np:∀ p∈X.pn++pins,p.1≠a
 dic:∃ ob,s.heap.get? a=some ob/\ob.dict=dx
 fly:∃ B a0,gO X pins H s.heap B/\B.StaysIn s.heap/\B.get? a=none/\s.heap.FunFrames B X.stack /\
  ((∃ oe vs,s.heap.get? a=some oe/\oe.cls=cls/\oe.data=.fields vs/\vs[0]?=some a0/\vs[1]?=some .none)\/s.heap.TracedW B a cls a0)
def cO(P:ZD)(w:ZF):fO:=λouter H s E e s'=>∃ (a:ZE) (cls a0:ZC) (dx:YC) (H':Hp) (B:Heap),e=.ref a/\s'.os=s.os/\AllBare s'.gens/\Un (dU outer) [] H H' s.heap s'.heap/\HOk P w H' s'.heap /\
 Heap.FlyingW B outer a cls a0 s'.heap/\(∀ b o,s'.heap.get? b=some o->b∉dU outer->((∃ u,H' b=some u)\/∃ o',s.heap.get? b=some o')->B.get? b=some o)/\H' a=none/\s.heap.get? a=none/\(∃ ob,s'.heap.get? a=some ob/\ob.dict=dx)/\E cls dx H'
section
variable{X:Cx}{pins:List (ZE×Obj)}{σ:St}{H:Hp}{s:ZB}
def Hr{h':Heap}{e:ZE}{cls:ZC}{args:YB}{t':Nat}(I:Inv X pins σ H s)(hex:X.ex=[])(hx:Heap.MadeExcOf s.heap h' e cls args):Arr X pins σ H e cls none { s with heap:=h',toks:=t' }:=by
 have nx:∀ b,b∉X.ex:=λb z=>by rw[hex] at z;cases z
 have none_of:∀ b o,s.heap.get? b=some o->b≠e:=λb o q z=>by rw[z,hx.new] at q;cases q
 have eq_of:∀ b o o1,h'.get? b=some o->s.heap.get? b=some o1->o1=o:=λb o o1 q q1=>by
  have z:=hx.keeps b o1 q1;rw[q] at z;exact(Pp z).symm
 obtain⟨t,he,_,_⟩:=hx.there;refine⟨I.kept hx.keeps,?_,?_,λz=>?_,λx c q z=>?_,λp hp z=>?_,⟨_,he,rfl⟩,PySem.W.hideAll s.heap (dU X.stack),.ref t,λb o q nb alt=>?_,λb o q=>hx.keeps b o (RK _ q),?_,?_,.inl ⟨_,_,he,rfl,rfl,rfl,rfl⟩⟩
 ·cases q:H e with
  |none=>rfl
  |some u =>
   obtain⟨ob,z⟩:=(I.hok e u q).some;exact absurd rfl (none_of e ob z)
 ·cases q:X.s₀.heap.get? e with
  |none=>rfl
  |some o =>
   obtain⟨ob,z⟩:=I.base.there e o q (nx e);exact absurd rfl (none_of e ob z)
 ·obtain⟨m,⟨o,_,_,ho,_⟩,_⟩:=I.loc
  exact none_of _ o ho z.symm
 ·obtain⟨v,o,ho,_⟩:=I.cell x c q
  exact none_of _ o ho z
 ·exact none_of _ _ (I.pin p hp).1 z
 ·have there:∃ o1,s.heap.get? b=some o1:=by
   rcases alt with⟨u,q'⟩|⟨o',q'⟩|⟨p,hp,rfl⟩
   ·exact(I.hok b u q').some
   ·exact I.base.there b o' q' (nx b)
   ·exact⟨_,(I.pin p hp).1⟩
  obtain⟨o1,q1⟩:=there;rw[<- eq_of b o o1 q q1];exact Tz _ q1 nb
 ·cases q:(PySem.W.hideAll s.heap (dU X.stack)).get? e with
  |none=>rfl
  |some o=>exact absurd rfl (none_of e o (RK _ q))
 ·refine(PySem.W.funFrames_hide I.stack λenv henv b hb=>RM.mpr ⟨env,henv,hb⟩).of_keeps λb o q _=>⟨o,hx.keeps b o q,rfl⟩
def yP{E:XK}{e:ZC}{s':ZB}(I:Inv X pins σ H s)(hex:X.ex=[])(h:cO X.prog X.w X.stack H s E e s'):∃ a cls dx H',e=.ref a/\Arr X pins σ H' a cls dx s'/\E cls dx H':=by
 obtain⟨a,cls,a0,dx,H',B,rfl,os,bare,un,hok,⟨f1,f2,f3,f4⟩,ext,na,ns,dk,q⟩:=h;have nx:∀ b,b∉X.ex:=λb z=>by rw[hex] at z;cases z
 have none_of:∀ b o,s.heap.get? b=some o->b≠a:=λb o q z=>by rw[z,ns] at q;cases q
 refine⟨a,cls,dx,H',rfl,⟨I.call' (ch:=[]) os un hok bare (λb z=>absurd z 's'),na,?_,λz=>?_,λx c q z=>?_,λp hp z=>?_,dk,B,a0,λb o q nb alt=>?_,f1,f2,f3,.inr f4⟩,q⟩
 ·cases q:X.s₀.heap.get? a with
  |none=>rfl
  |some o =>
   obtain⟨ob,z⟩:=I.base.there a o q (nx a);exact absurd rfl (none_of a ob z)
 ·obtain⟨m,⟨o,_,_,ho,_⟩,_⟩:=I.loc
  exact none_of _ o ho z.symm
 ·obtain⟨v,o,ho,_⟩:=I.cell x c q
  exact none_of _ o ho z
 ·exact none_of _ _ (I.pin p hp).1 z
 ·refine ext b o q nb ?_
  rcases alt with⟨u,q'⟩|⟨o',q'⟩|⟨p,hp,rfl⟩
  ·exact .inl ⟨u,q'⟩
  ·exact .inr (I.base.there b o' q' (nx b))
  ·exact .inr ⟨_,(I.pin p hp).1⟩
def Arr.land0{a:ZE}{cls:ZC}{dx:YC}{Q:Unit->ZB->Prop}{E:ZC->ZB->Prop}{M:Model}{A:ZG}(R:Arr X pins σ H a cls dx s)(hex:X.ex=[])(hfr:A.frames=some X.stack){outer:List Env}(hst:X.stack=X.env::outer)(hf:X.env.frame=some X.env.locals)
  (hQ:∀ h' B a0,gO X pins H s.heap B->Heap.FlyingW B X.stack a cls a0 h'->s.heap.UpToSlots h'->Inv X pins σ H { s with heap:=h' }->Q () { s with heap:=h' }) :
  wpAny M A (noteFrame (.ref a) X.env) (λ_ s₂=>wpAny M A (setFlight (.ref a) none) Q E s₂) E s:=by
 obtain⟨B,a0,fm,st,hb,ff,alt⟩:=R.fly;have after:∀ h4,Heap.HeldW B X.stack a cls a0 X.env.locals h4->s.heap.UpToSlots h4->wpAny M A (setFlight (.ref a) none) Q E { s with heap:=h4 }:=λh4 hh sm=>by
  refine wpAny_landsW (s:={ s with heap:=h4 }) hh λh5 fl sm5=>?_
  have sm':s.heap.UpToSlots h5:=sm.trans sm5;exact hQ h5 B a0 fm fl sm' (R.inv.flown (t':=s.toks) hex fm fl.1 sm')
 rw[hst] at hfr;rw[hst] at ff;rcases alt with⟨oe,vs,he,hc,hd,h0,h1⟩|tr
 ·subst hc
  have hsz:1<vs.size:=(Array.getElem?_eq_some_iff.mp h1).1;unfold noteFrame;simp only[hf]
  refine OT (Tr he hd h1 ?_)
  rw[O0 'd'];refine wpAny_entryW hfr ff hf he st hb hd hsz h0 λh4 hN=>?_
  obtain⟨k1,k2,k3,k4⟩:=hN;exact after h4 (by rw[hst];exact⟨k1,hb,k2,k3⟩) k4
 ·exact wpAny_looks_onW hfr hf ⟨st,hb,ff,tr⟩ λh4 hh sm=>after h4 (by rw[hst];exact hh) sm
def Arr.land{a:ZE}{cls:ZC}{dx:YC}{Q:Unit->ZB->Prop}{E:ZC->ZB->Prop}{M:Model}{A:ZG}(R:Arr X pins σ H a cls dx s)(hex:X.ex=[])(hfr:A.frames=some X.stack){outer:List Env}(hst:X.stack=X.env::outer)(hf:X.env.frame=some X.env.locals)
  (hQ:∀ h' B a0,gO X pins H s.heap B->Heap.FlyingW B X.stack a cls a0 h'->s.heap.UpToSlots h'->Inv X pins σ H { s with heap:=h' }->(∃ ob,h'.get? a=some ob/\ob.dict=dx)->Q () { s with heap:=h' }) :
  wpAny M A (noteFrame (.ref a) X.env) (λ_ s₂=>wpAny M A (setFlight (.ref a) none) Q E s₂) E s:=by
 refine PC (ux (Hq _ _) (DkH.refl _) (R.land0 (E:=E) (Q:=λ_ s'=>∃ h' B a0,s'={ s with heap:=h' }/\gO X pins H s.heap B/\Heap.FlyingW B X.stack a cls a0 h'/\s.heap.UpToSlots h'/\Inv X pins σ H { s with heap:=h' }) hex hfr hst hf λh' B a0 z1 z2 z3 z4=>⟨h',B,a0,rfl,z1,z2,z3,z4⟩)) (λ_ s2 h2=>?_) λ_ _ z=>z
 refine PC (ux (yK _ _) h2.2 h2.1) (λ_ s3 h3=>?_) λ_ _ z=>z
 obtain⟨⟨h',B,a0,rfl,z1,z2,z3,z4⟩,dk⟩:=h3;obtain⟨ob,e1,e2⟩:=R.dic;obtain⟨ob',e3,e4⟩:=dk a ob e1;exact hQ h' B a0 z1 z2 z3 z4 ⟨ob',e3,e4.trans e2⟩
def yQ{P:ZD}{w:ZF}{K:ZA}{mg:YA}{base:Heap}{N:List Str}{qual:Str}{scope:Scope}{f:ZE}{cd:ZC}{A:ZG}{outer:List Env}{s0:ZB}{H0:Hp}{E:XK}{a:ZE}{cls:ZC}{dx:YC}
  (R:Arr (bX (cO P w) P w K mg base N qual scope f cd A outer s0 H0 E) pins σ H a cls dx s)(q:E cls dx H):(bX (cO P w) P w K mg base N qual scope f cd A outer s0 H0 E).xe (.ref a) s:=by
 show wpAny _ _ (leaving _ _) _ _ s
 unfold leaving;refine OT (R.land (E:=λe' s''=>cO P w outer H0 s0 E e' s'') rfl R.inv.ok.frames rfl rfl λh' B a0 fm fl sm I' dk=>?_)
 have I:=R.inv;obtain⟨k1,k2,⟨_,_,k3⟩,k4⟩:=fl;refine⟨a,cls,a0,dx,H,B,rfl,I'.os,I'.bare,I'.base,I'.hok,⟨k1,k2,k3,k4⟩,λb o e nb alt=>?_,R.un,R.new,dk,q⟩
 have nstk:b∉dU (bX (cO P w) P w K mg base N qual scope f cd A outer s0 H0 E).stack:=by
  rcases alt with⟨u,z⟩|⟨o',z⟩
  ·exact I.nofrT z
  ·exact I.nofr z nb
 have there:∃ o1,s.heap.get? b=some o1:=by
  rcases alt with⟨u,z⟩|⟨o',z⟩
  ·exact(I.hok b u z).some
  ·exact I.base.there b o' z (λz=>absurd (show b∈([]:List ZE) from z) 's')
 obtain⟨o1,q1⟩:=there;have z:B.get? b=some o1:=fm b o1 q1 nstk (by
  rcases alt with⟨u,z⟩|⟨o',z⟩
  ·exact .inl ⟨u,z⟩
  ·exact .inr (.inl ⟨o',z⟩))
 have z2:=k1 b o1 z;rw[show (Heap.get? h' b)=some o from e] at z2
 cases z2
 exact z
end
def mQ(X:Cx)(Ex:St->XK):Prop:=∀ (pins:List (ZE×Obj)) (σ:St) (H:Hp) (s:ZB) (a:ZE) (cls:ZC) (dx:YC),Arr X pins σ H a cls dx s->Ex σ cls dx H->X.xe (.ref a) s
def lA(CX:fO)(X:Cx)(Ex:St->XK):Prop:=∀ (pins:List (ZE×Obj)) (σ:St) (H:Hp) (s:ZB) (e:ZC) (s':ZB),Inv X pins σ H s->CX X.stack H s (Ex σ) e s'->X.xe e s'
section
variable{P:ZD}{w:ZF}{K:ZA}{mg:YA}{base:Heap}{N:List Str}{qual:Str}{scope:Scope}{f:ZE}{cd:ZC}{A:ZG}{outer:List Env}{s0:ZB}{H0:Hp}{E:XK}
def mR:mQ (bX (cO P w) P w K mg base N qual scope f cd A outer s0 H0 E) (λ_=>E):=(λ_ _ _ _ _ _ _ R q=>yQ R q)
def Hs:Fy (cO P w) (bX (cO P w) P w K mg base N qual scope f cd A outer s0 H0 E) E:=(λpins σ H s e s' I h=>by
 obtain⟨a,cls,dx,H',rfl,R,q⟩:=yP (X:=bX (cO P w) P w K mg base N qual scope f cd A outer s0 H0 E) I rfl h;exact yQ R q)
end
section
variable{X:Cx}{x:Str}{C:ZE}{bm:YB}{B newId initId:String}{np cpos pos:Pos}{e:Expr}{es:YD}{t:TA}{Ex:St->XK}
def Ht(cls:ZC)(Ex:St->XK)(t:TA):TS:=λ_ σ H=>t σ H λvs H1=>vs.length<=1000/\Ex σ cls none H1
def Hu (O:OwnCls x C bm newId X.mg X.base) (FB:ExcBaseFacts B newId initId bm) (hc:X.calm=true) (hex:X.ex=[]) (hr:mQ X Ex) (hg:Gl X x) (ha:PA X (e::es) t)
  (hdb:((x == ("__debug__" : Str))=false)⁻¹) (he:‹qE1 e es X.env›) (hpl:‹qF1 cpos es X.env›) :
  PS X (.Raise (some (.Call (.Name x np) (e::es) [] cpos)) none pos) (Ht (.ref C) Ex t):=by
 intro pins s σ H D I h;obtain⟨tl,NN,nm,q,bs,hdct,sn,sub,ab,col,dd,k0,k1,k2,k3,k5,mN,hC,hN,hni,T⟩:=O.obj;refine wpAny_Raise_call_subT (C:=C) (nm:=nm) (q:=q) (N:=NN) (bs:=bs) (bm:=tl) (hdct:=hdct) (sn:=sn) (sub:=sub) (ab:=ab) (col:=col) (dd:=dd) (k0:=k0) (k1:=k1) (k2:=k2) (k3:=k3) (k5:=k5) FB (mN:=mN)
  (T.hasType FB.hasBase) (I.ok.hd hc) (by rw[he];show (false || (backTo cpos (starEach es X.env)).any (·.1))=false;rw[hpl];rfl) hni (kW I hg O.bound ⟨rfl,?_⟩ hdb)
 have hA:=ha cpos pins s σ H _ I h;rw[he] at hA ⊢;refine QD (thn hA λus s2 ⟨vs,H1,I1,r1,hl,q1⟩=>⟨rfl,?_,I1.bk _ _ hC,hN.keeps I1.bk,T.keeps I1.bk,λh' a hm=>hr pins σ H1 _ a _ none (Hr (t':=s2.toks) I1 hex hm) q1⟩)
 show us.length<=sizeLine
 rw[<- r1.length];exact OW hl 'd'
end
section
variable{X:Cx}{CX:fO}{k:Nat}{f C:ZE}{fd:FuncData}{ps:List Str}{sp:Sp}{dvs:YE}{ds:YB}{Ex:St->XK}{x m:Str}{p pos apos:Pos}{e o:Expr}{es:YD}{ta:TE}{t:TA}
def qw{pins:List (ZE×Obj)}{σ:St}{H:Hp}{s:ZB}{Q:VK}{us:YB}{vs:YE}(F:FnOk X.prog X.w X.K X.mg X.base CX k f fd ps sp)(hr:Room k X.A)(hb:Binds X.K fd ps ds)(hd:Vals dvs ds)(hx:lA CX X Ex)
  (I:Inv X pins σ H s)(r:Vals vs us)(h:sp (vs++dvs) H Q (Ex σ)):wpAny (model X.prog X.w) X.A (call (.ref f) us) (EP X pins σ Q) X.xe s:=by
 have r2:Vals (vs++dvs) (us++ds):=r.append hd;have hl:(us++ds).length=ps.length:=by rw[<- r2.length];exact F.len _ _ _ _ h
 refine RR (SJ (F.run X.A X.stack s H ⟨us,[]⟩ (us++ds) (vs++dvs) Q (Ex σ) hr I.env0 (hb s us I.kIn hl) r2 h) λr s' hq=>?_)
 cases r with
 |error e=>exact hx pins σ H s e s' I hq
 |ok fl =>
  cases fl with
  |ret u=>exact I.after hq
  |next=>exact False.elim hq
  |brk=>exact False.elim hq
  |cont=>exact False.elim hq
def Hv(sp:Sp)(dvs:YE)(Ex:St->XK)(t:TA):TE:=λσ H Q=>t σ H λvs H1=>sp (vs++dvs) H1 Q (Ex σ)
def Hw (F:FnOk X.prog X.w X.K X.mg X.base CX k f fd ps sp) (hr:Room k X.A) (hg:Gl X x) (hm:X.mg x=some (.ref f)) (hk:PySem.W.keepIn X.K (.ref f)=true) (hb:Binds X.K fd ps ds) (hd:Vals dvs ds) (hx:lA CX X Ex)
  (ha:PA X (e::es) t) (hdb:((x == ("__debug__" : Str))=false)⁻¹) (he:‹qE1 e es X.env›) (hpl:‹qF1 pos es X.env›) :
  PE X (.Call (.Name x p) (e::es) [] pos) (Hv sp dvs Ex t):=by
 intro pins s σ H Q I h;refine Rb (kW I hg hm ?_ hdb)
 refine RO (h₀:=X.base) I.ok.mod.kin hk (thn (ha pos pins s σ H _ I h) λus s1 ⟨vs,H1,I1,r,q⟩=>⟨I1.kIn,?_⟩) he hpl
 exact qw F hr hb hd hx I1 r q
def yR(C:ZE)(m:Str)(sp:Sp)(dvs:YE)(Ex:St->XK)(ta:TE)(t:TA):TE:=λσ H Q=>ta σ H λx H1=>∃ a dx fs,x=.ref a/\H1 a=some (.ins C dx fs)/\fs.lookup m=none /\
 t σ H1 λvs H2=>sp (x::(vs++dvs)) H2 Q (Ex σ)
def Hx{pl:Sem Bool}(he:PE X o ta)(c:Cls X.K C)(hm:iw X.K C m f)(F:FnOk X.prog X.w X.K X.mg X.base CX k f fd ps sp)(hr:Room k X.A)(hb:Binds X.K fd ps ds)(hd:Vals dvs ds)(hx:lA CX X Ex)(ha:PA X (e::es) t)
  (hst:‹qE1 e es X.env›)(hpl:‹qF1 pos es X.env›)
  (ht:‹eval (.Call (.Attribute o m apos) (e::es) [] pos) X.env=(do
   let ov <- eval o X.env
   standAt apos.atName
   let (f,first) <- holding [ov] (getMethod ov m pl)
   callWith pos f first (backTo pos (starEach (e::es) X.env)) (backToKw pos (keywordEach [] X.env)))›) :
  PE X (.Call (.Attribute o m apos) (e::es) [] pos) (yR C m sp dvs Ex ta t):=by
 intro pins s σ H Q I h;refine SV (pl:=pl) (thn (he pins s σ H _ I h) λu s1 Zz=>?_) ht;obtain⟨x,H1,I1,rx,a,dx,fs,ex,ea,l,q⟩:=Zz
 subst ex;obtain rfl:u=Value.ref a:=rx
 refine ye I1 ea c hm l ?_
 refine RO (first:=[.ref a]) (h₀:=X.base) I.ok.mod.kin hm.kp (thn (ha pos pins s1 σ H1 _ I1 q) λus s2 ⟨vs,H2,I2,r,q2⟩=>⟨I2.kIn,?_⟩) hst hpl
 exact qw (us:=.ref a::us) (vs:=.ref a::vs) F hr hb hd hx I2 (.cons rfl r) q2
end
abbrev tryC(X:Cx)(pins:List (ZE×Obj))(xe:ZC->ZB->Prop):Cx:={ X with pn:=X.pn++pins,xe:=xe }
abbrev cB(X:Cx)(a:ZE):Cx:={ X with A:=X.A.mark (some (.ref a)),calm:=false,xe:=λ_ _=>False }
def fV(a:ZE)(cls:ZC)(dx:YC):HO:=.ext λh=>∃ ob vs,h.get? a=some ob/\ob.cls=cls/\ob.data=.fields vs/\ob.dict=dx
section
variable{X:Cx}{pins pins':List (ZE×Obj)}{σ:St}{H:Hp}{s:ZB}{xe:ZC->ZB->Prop}
def Cx.Ok.tryC(ok:X.Ok):(tryC X pins xe).Ok:=(⟨ok.mod,ok.kind,ok.glob,ok.blt,ok.above,ok.inj,ok.has,ok.cab,ok.hd,ok.frames,ok.stk,ok.exf,ok.bs,ok.bsz,ok.noex,ok.exfs,ok.funs,ok.frf⟩)
def Cx.Ok.untry(ok:(L2.tryC X pins xe).Ok):X.Ok:=(⟨ok.mod,ok.kind,ok.glob,ok.blt,ok.above,ok.inj,ok.has,ok.cab,ok.hd,ok.frames,ok.stk,ok.exf,ok.bs,ok.bsz,ok.noex,ok.exfs,ok.funs,ok.frf⟩)
def Cx.Ok.hdl(ok:X.Ok)(a:ZE):(cB X a).Ok:=(⟨ok.mod,ok.kind,ok.glob,ok.blt,ok.above,ok.inj,ok.has,ok.cab,λz=>(nomatch z),ok.frames,ok.stk,ok.exf,ok.bs,ok.bsz,ok.noex,ok.exfs,ok.funs,ok.frf⟩)
def Inv.toTry(I:Inv X pins σ H s):Inv (tryC X pins xe) [] σ H s:=(⟨I.ok.tryC,I.os,I.bare,I.base,I.loc,I.cell,I.free,I.freeC,λp hp=>I.pin p (by simpa using hp),I.hok,I.len⟩)
def Inv.untry(I:Inv (tryC X pins xe) pins' σ H s):Inv X pins σ H s:=(⟨I.ok.untry,I.os,I.bare,I.base,I.loc,I.cell,I.free,I.freeC,λp hp=>I.pin p (Pk _ hp),I.hok,I.len⟩)
def Inv.hdl(I:Inv X pins σ H s)(a:ZE):Inv (cB X a) pins σ H s:=(⟨I.ok.hdl a,I.os,I.bare,I.base,I.loc,I.cell,I.free,I.freeC,I.pin,I.hok,I.len⟩)
def Inv.unhdl{a:ZE}(I:Inv (cB X a) pins σ H s)(ok:X.Ok):Inv X pins σ H s:=(⟨ok,I.os,I.bare,I.base,I.loc,I.cell,I.free,I.freeC,I.pin,I.hok,I.len⟩)
def Arr.untry{a:ZE}{cls:ZC}{dx:YC}(R:Arr (tryC X pins xe) pins' σ H a cls dx s):Arr X pins σ H a cls dx s:=by
 obtain⟨B,a0,fm,r⟩:=R.fly;refine⟨R.inv.untry,R.un,R.new,R.nl,R.nc,λp hp=>R.np p (Pk _ hp),R.dic,B,a0,λb o q nb alt=>fm b o q nb ?_,r⟩
 rcases alt with z|z|⟨p,hp,e⟩
 ·exact .inl z
 ·exact .inr (.inl z)
 ·exact .inr (.inr ⟨p,Pk _ hp,e⟩)
def qx{M:Model}{A:ZG}{E:ZC->ZB->Prop}{n:Str}{i:Nat}{pos:Pos}{Q:Unit->ZB->Prop}(I:Inv X pins σ H s)(hN:X.N.Nodup)(hi:X.N[i]?=some n)(hk:X.env.scope.names.lookup n=some .local)
  (h:∀ s',Inv X pins (σ.set i none) H s'->Q () s'):wpAny M A (do bindName X.env n .none;unbindBehindTheSuite X.env n pos) Q E s:=by
 obtain⟨m,hn,hl⟩:=id I.loc;refine wpAny_nameGoes_keeps hk hn (by rw[I.ok.kind];rfl) λh' v hn' hs=>h _ ?_
 have cne:=I.cne;refine⟨I.ok,I.os,I.bare,Un.sameBut I.base (Td I.ok.above) hs,⟨_,hn',λj y v' e1 e2 e3=>?_⟩,λy c e=>?_,I.free,I.freeC,λp hp=>?_,I.hok.sameBut I.free hs,by simpa using I.len⟩
 ·by_cases hj:j=i
  ·subst hj
   by_cases hlt:j<σ.length
   ·rw[OY hlt] at e2;cases e2
   ·rw[Qg (by simpa using hlt)] at e2;cases e2
  ·rw[OU (Ne.symm hj)] at e2
   obtain⟨u',r',q⟩:=hl j y v' e1 e2 e3;refine⟨u',r',?_⟩
   rcases q with⟨k,e⟩|⟨k,c,e,z⟩
   ·refine .inl ⟨k,?_⟩
    have ne:y≠n:=λe=>hj (p8 hN e1 (e▸hi))
    simp[ne,e]
   ·exact .inr ⟨k,c,e,z.sameBut hs (cne y c e)⟩
 ·obtain⟨w',z⟩:=I.cell y c e
  exact⟨w',z.sameBut hs (cne y c e)⟩
 ·obtain⟨e,nn,ne,nf,d⟩:=I.pin p hp
  exact⟨(hs.2 p.1 ne).trans e,nn,ne,nf,d⟩
end
def HA{M:Model}{A:ZG}{E:ZC->ZB->Prop}{s:ZB}{B:Heap}{l:List Env}{e:ZE}{cls a0:ZC}{dx:YC}{Q:Unit->ZB->Prop}(hh:Heap.FlyingW B l e cls a0 s.heap)(dk:∃ ob,s.heap.get? e=some ob/\ob.dict=dx)
  (hQ:∀ h',Heap.FlyingW B l e cls a0 h'->s.heap.UpToSlots h'->(∃ ob,h'.get? e=some ob/\ob.dict=dx)->Q () { s with heap:=h' }):wpAny M A (setFlight (.ref e) none) Q E s:=by
 refine PC (ux (yK _ _) (DkH.refl _) (lands_againW (E:=E) (Q:=λ_ s'=>∃ h',s'={ s with heap:=h' }/\Heap.FlyingW B l e cls a0 h'/\s.heap.UpToSlots h') hh λh' z1 z2=>⟨h',rfl,z1,z2⟩)) (λ_ s3 h3=>?_) λ_ _ z=>z
 obtain⟨⟨h',rfl,z1,z2⟩,d⟩:=h3;obtain⟨ob,e1,e2⟩:=dk;obtain⟨ob',e3,e4⟩:=d e ob e1;exact hQ h' z1 z2 ⟨ob',e3,e4.trans e2⟩
def yS{M:Model}{h:Heap}{a:ZE}{ob:Obj}(e:h.get? a=some ob):PySem.W.Looks M h (typeOf (.ref a)) ob.cls:=((PySem.W.Looks.ld e).andThen .now)
section
variable{X:Cx}{xc n:Str}{C:ZE}{i:Nat}{body suite:List Stmt}{b0:Stmt}{np hpos pos:Pos}{tb:(St->XK)->TS}{th:TS}{outer:List Env}
end
section
variable{P:ZD}{w:ZF}{K:ZA}{mg:YA}{base:Heap}
def Fun.okE{x qual:Str}{st:Stmt}{f:ZE}{fd:FuncData}{N ps:List Str}{k:Nat}{sp:Sp}(F:Fun K x qual st f fd)(S:aC N ps (bK st))(len:∀ vs H Q E,sp vs H Q E->vs.length=ps.length)
  (hbody:∀ (cdv:ZC) (A:ZG) (outer:List Env) (s:ZB) (H:Hp) (vs:YE) (Q:VK) (E:XK),Room k (A.deeper (envOfC qual (bK st) s.heap.objs.size f cdv))->sp vs H Q E ->
   ∃ t,PSs (bX (cO P w) P w K mg base N qual (bK st) f cdv A outer s H E) (iX st) t/\t { nx:=λ_ H'=>Q .non H',rt:=Q } (start N vs) H):FnOk P w K mg base (cO P w) (k+1) f fd ps sp:=by
 obtain⟨oc,od,kV,doc,pm,an,cdv,ct,osl,rfl,lk,hcd⟩:=F.ex;exact FC lk hcd S len λA outer s H vs Q E hr hsp=>hbody cdv A outer s H vs Q E hr hsp
end
open PySem.W (Frag Looks looks_findIn looks_specialIn looks_takesIn looks_mroIn findIn specialIn takesIn mroIn clsIn KitX kitOne kitAny kia_one kia_tup)
open PySem.Calls Builtin Builtin.ObjectAttr Builtin.Getset_descriptor
structure bR(K:Frag)(C:ZE):Prop where
 cl:(clsIn K C).isSome=true
 ga:findIn K (.ref C) "__getattribute__"=some (some (.builtin "BaseException.__getattribute__"))
 gh:findIn K (.ref C) "__getattr__"=some none
 ca:findIn K (.ref C) "__class__"=some (some (.builtin "object.__class__"))
 cg:specialIn K (.builtin "object.__class__") "__get__"=some (some (.builtin "getset_descriptor.__get__"))
 ct:takesIn K (.builtin "object.__class__")=some true
 mo:mroIn K C (.type "object")=some true
 mb:mroIn K C (.type "BaseException")=some true
def ExcAt(a C:ZE)(h:Heap):Prop:=∃ ob vs,h.get? a=some ob/\ob.cls=.ref C/\ob.data=.fields vs
section
variable{prog:ZD}{w:ZF}{A:ZG}{K:Frag}{a C:ZE}
def ExcAt.ty{M:Model}{h:Heap}(x:ExcAt a C h):Looks M h (typeOf (.ref a)) (.ref C):=by
 obtain⟨ob,vs,e,c,_⟩:=x;exact c▸yS e
def uy{tp:ZC}{s:ZB}{R:Result->ZB->Prop}(X:K.In s.heap)(Z:bR K C)(I:ExcAt a C s.heap)(q:R (.ok (.ret (.ref C))) s) :
  codeAny (model prog w) A (.call (.builtin "getset_descriptor.__get__") ⟨[.builtin "object.__class__",.ref a,tp],[]⟩) R s:=by
 obtain⟨hp,gg,dd,tt,oo⟩:=s;have La:=I.ty (M:=model prog w);have Lb:=looks_mroIn (M:=model prog w) X Z.mo;refine Tt PySem.W.KF.slot_gs.plain PySem.W.KF.entry_gs (PySem.W.KF.slot_gs.check _ _ _ _ _ _ _ _ PySem.W.KF.type_class (PySem.W.KF.args_gs _ _ _) ?_)
 unfold Builtin.«getset_descriptor.__get__» descrGet
 rw[PySem.W.dga_obj];refine OT (O1 ?_)
 unfold descrGetter descrCheckInstance descrNameAndClass isInstance;simp only[PySem.W.KF.owner_class]
 repeat lk
 refine⟨Code.quiet_builtin _ ∅,codeAny_builtin PySem.W.KF.entry_class ?_⟩
 unfold Builtin.«object.__class__» shownTypeOf
 repeat lk
 exact q
def HB{M:Model}{h:Heap}{x:ZC}(X:K.In h)(Z:bR K C):Looks M h (find x (.ref C) "__class__") (.bind (.builtin "getset_descriptor.__get__") (.builtin "object.__class__")):=by
 have l1:=looks_findIn (M:=M) X Z.ca;have l2:Looks M h (getOf (some (.builtin "object.__class__"))) (some (.builtin "getset_descriptor.__get__")):=looks_specialIn X Z.cg;have l3:=looks_takesIn (M:=M) X Z.ct;exact l1.andThen (l2.andThen ((show Looks M h (dataDescriptor? (some (.builtin "object.__class__")) (some (.builtin "getset_descriptor.__get__"))) (some (.builtin "getset_descriptor.__get__",.builtin "object.__class__")) from l3.andThen .now).andThen (Looks.tag .now)))
def HC{tk:Tok}{s:ZB}{Q:Fin->ZB->Prop}{E:ZC->ZB->Prop}(X:K.In s.heap)(Z:bR K C)(I:ExcAt a C s.heap)(q:Q (.done (.ret (.ref C))) s) :
  wpAny (model prog w) A (Builtin.«object.__getattribute__» ⟨[.ref a,.str "__class__" tk],[]⟩) Q E s:=by
 obtain⟨hp,gg,dd,tt,oo⟩:=s;have La:=I.ty (M:=model prog w);have Lf:=HB (M:=model prog w) (x:=.ref a) X Z;refine OT (O1 ?_)
 refine OT (O1 ?_)
 refine OT (La.at (OT (Lf.at ?_)))
 unfold bindTo;first
  |exact OT (RR (uy X Z I (O1 q)))
  |exact OT (PJ (RR (uy X Z I (O1 q))))
  |exact OT (PJ (RR (uy X Z I q)))
def HD{nm:ZC}{s:ZB}{M:Model}{Q:Unit->ZB->Prop}{E:ZC->ZB->Prop}(X:K.In s.heap)(Z:bR K C)(I:ExcAt a C s.heap)(q:Q () s) :
  wpAny M A (checkBuiltinCall "BaseException.__getattribute__" ⟨[.ref a,nm],[]⟩) Q E s:=by
 obtain⟨hp,gg,dd,tt,oo⟩:=s;have k1:builtinKind "BaseException.__getattribute__"=some .slot:=by decide +kernel
 have k2:splitId "BaseException.__getattribute__"=some ("BaseException", "__getattribute__"):=by decide +kernel
 have k3:=F.args_bexc_ga (.ref a) nm;have La:=I.ty (M:=M);have Lb:=looks_mroIn (M:=M) X Z.mb;have Li:Looks M hp (isInstance (.ref a) (.type "BaseException")) true:=La.andThen Lb;simp only[checkBuiltinCall,k1,k2]
 refine OT (Li.at ?_)
 repeat lk
 exact q
def HE{tk:Tok}{s:ZB}{Q:ZC->ZB->Prop}{E:ZC->ZB->Prop}(X:K.In s.heap)(Z:bR K C)(I:ExcAt a C s.heap)(q:Q (.ref C) s) :
  wpAny (model prog w) A (getAttrBy (.ref a) (.str "__class__" tk) false) Q E s:=by
 obtain⟨hp,gg,dd,tt,oo⟩:=s;have La:=I.ty (M:=model prog w);have Lg:=looks_findIn (M:=model prog w) X Z.ga;have Lh:=looks_findIn (M:=model prog w) X Z.gh;have f3:=F.attrBase_ValueError.ga.bind (.ref a);unfold getAttrBy;refine PJ (OT (La.at (OT (Lg.at ?_))))
 show wpAny _ _ (getAttrByItsOwn _ _ _ _ _ _) _ _ _
 unfold getAttrByItsOwn;refine OT ((show Looks _ hp (hookBefore (.ref C)) none from Lh).at ?_)
 refine OT (wpAny_attempt (PJ ?_))
 show wpAny _ _ (boundAndCalled _ _ _) _ _ _
 unfold boundAndCalled;rw[f3];refine OT (O1 ?_)
 refine RR (Tt F.attrBase_ValueError.ga.plain F.entry_bexc_ga (HD X Z I (HC X Z I ?_)))
 repeat lk
 exact q
def HF{s:ZB}{Q:Option ZC->ZB->Prop}{E:ZC->ZB->Prop}(X:K.In s.heap)(Z:bR K C)(I:ExcAt a C s.heap)(q:Q (some (.ref C)) { s with toks:=s.toks+1 }) :
  wpAny (model prog w) A (getAttr? (.ref a) "__class__") Q E s:=by
 unfold getAttr? getAttrBy?
 exact OT (wpAny_mkText (OT (wpAny_attempt (HE (s:={ s with toks:=s.toks+1 }) X Z I (O1 q)))))
theorem HH(Z:bR K C):KitX K (.ref a) (.ref C) (ExcAt a C) where
 ty:=λ_ _ _ I=>I.ty
 it:=λ_ _ X _=>by
  have z:=Z.cl;unfold clsIn at z;split at z
  ·rename_i ho
   intro A' Q' E' s' k q;unfold isType loadHead;exact OT (wpAny_loadPart (k _ _ (X _ _ ho)) (O1 q))
  ·cases z
 ne:=λhp tp dd its n sl X htp=>by
  refine RZ.mpr λq=>?_
  have e:C=tp:=Value.ref.inj (beq_iff_eq.mp q);subst e;have z:=Z.cl
  unfold clsIn at z;split at z
  ·rename_i ho
   have zz:=(X _ _ ho).symm.trans htp
   cases zz
  ·cases z
 ca:=λX I k=>HF X Z I k
end
section
variable{X:Cx}
def HI{P:ZD}{w:ZF}{H:Hp}{h:Heap}{a C:ZE}{dx:YC}(x:ObjOk P w H h a (fV a (.ref C) dx)):ExcAt a C h:=by
 obtain⟨⟨ob,vs,z1,z2,z3,_⟩,_⟩:=x;exact⟨ob,vs,z1,z2,z3⟩
def HJ{c:V}{cv:ZC}(rc:∀ u,RelV c u->u=cv) :
  CallR X (.builtin "isinstance") (λxs H Q=>∃ (a D:ZE) (r:Bool),xs=[.ref a,c]/\(∃ dx,H a=some (fV a (.ref D) dx))/\bR X.K D/\kitOne X.K (.ref D) cv=some r/\Q (.bl r) H):=by
 intro pins s σ H xs us Q I r h;obtain⟨a,D,b,rfl,⟨dx,ha⟩,Z,hk,q⟩:=h;obtain⟨u,w',rfl,rx,ry⟩:=nY r;obtain rfl:=rc _ ry;obtain rfl:u=Value.ref a:=rx;exact kia_one (HH Z) I.kIn (HI (I.hok a _ ha)) hk (by intro z;cases z) λtk=>⟨.bl b,H,I.tok _,rfl,q⟩
end
def HK{K:ZA}{hp:Heap}{g:YA}{nm:Str}{Ca:ZE}{bb:YB}{nid:String}(Z:K.In hp)(hb:g nm=some (.ref Ca))(ok:PySem.W.excIn K Ca bb nid=true):OwnCls nm Ca bb nid g hp:=by
 refine⟨hb,?_⟩
 unfold PySem.W.excIn at ok;split at ok
 ·rename_i dA cA sA hA;obtain⟨f1,f2,f3,f4,f5,f6,f7,f8,f9,f10,f11⟩:=cA;obtain⟨ll⟩:=sA;dsimp only at ok
  rcases f3 with _|⟨v,tl⟩
  ·exact absurd ok Bool.false_ne_true
  cases v<;>try exact absurd ok Bool.false_ne_true
  rcases ll with _|⟨w0,_|⟨w1,_|⟨w2,_|⟨w3,_|⟨_|v,l⟩⟩⟩⟩⟩<;>try exact absurd ok Bool.false_ne_true
  cases v<;>try exact absurd ok Bool.false_ne_true
  rcases l with _|⟨w5,_|_⟩<;>try exact absurd ok Bool.false_ne_true
  simp only[Pu,Us,R0] at ok
  obtain⟨⟨⟨⟨⟨rfl,rfl⟩,e1⟩,e2⟩,e3⟩,e4⟩:=ok;subst e1;refine⟨tl,f4,f1,f5,f2,f6,f7,f8,f9,f10,dA,w0,w1,w2,w3,w5,_,Z _ _ hA,.of_isNs (PySem.W.isNs_of_in Z e3),?_,PySem.W.tail_of_in Z e2⟩
  exact PySem.W.nsMap_none_of_in Z e3 e4
 ·cases ok
mutual
inductive DaV (K:ZA) (H:Hp):V->PyData->Prop
 |non:DaV K H .non .none
 |bl (b):DaV K H (.bl b) (.bool b)
 |int (i):DaV K H (.int i) (.int i)
 |str (x):DaV K H (.str x) (.str x)
 |lst {a xs ds}:SqL K H a xs->DaVs K H xs ds->DaV K H (.ref a) (.list ds)
 |tup {a xs ds}:SqT K H a xs->DaVs K H xs ds->DaV K H (.ref a) (.tuple ds)
inductive DaVs (K:ZA) (H:Hp):YE->List PyData->Prop
 |nil:DaVs K H [] []
 |cons {x xs d ds}:DaV K H x d->DaVs K H xs ds->DaVs K H (x::xs) (d::ds)
end
section
variable{X:Cx}{pins:List (ZE×Obj)}{σ:St}{H:Hp}{s:ZB}
mutual
theorem DaV.reads(I:Inv X pins σ H s):∀ {x:V} {d:PyData} {u:ZC},DaV X.K H x d->RelV x u->∃ as,Reads s.heap u d as
 |_,_,_,.non,r=>by cases r;exact⟨_,.none⟩
 |_,_,_,.bl b,r=>by cases r;exact⟨_,.bool b⟩
 |_,_,_,.int i,r=>by obtain⟨t,rfl⟩:=r;exact⟨_,.int i t⟩
 |_,_,_,.str x,r=>by obtain⟨t,rfl⟩:=r;exact⟨_,.str x t⟩
 |_,_,_,.lst (a:=a) h1 h2,r=>by
  cases r
  obtain⟨its,rv,⟨o,n,e1,e2,e3⟩,_⟩:=I.list h1;obtain⟨as,q⟩:=DaVs.reads I h2 rv;exact⟨_,.list (vs:=its.toArray) (n:=n) e1 (by first|exact e2.1|exact e2) (by first|exact e2.2.2|exact e2.2|exact e3|exact e3.2) (by simpa using q)⟩
 |_,_,_,.tup (a:=a) h1 h2,r=>by
  cases r
  obtain⟨its,rv,⟨o,e1,e2,n,e3⟩,_⟩:=I.tuple h1;obtain⟨as,q⟩:=DaVs.reads I h2 rv;exact⟨_,.tuple (vs:=its.toArray) (n:=n) e1 e2 e3 (by simpa using q)⟩
theorem DaVs.reads(I:Inv X pins σ H s):∀ {xs:YE} {ds:List PyData} {us:YB},DaVs X.K H xs ds->Vals xs us->∃ as,ReadsAll s.heap us ds as
 |_,_,_,.nil,r=>by cases r;exact⟨_,.nil⟩
 |_,_,_,.cons h1 h2,r=>by
  cases r with
  |cons r1 r2 =>
   obtain⟨as,q1⟩:=DaV.reads I h1 r1;obtain⟨bs,q2⟩:=DaVs.reads I h2 r2;exact⟨_,.cons q1 q2⟩
end
def uz(K:ZA):R2:=λx y H Q=>∃ d e,DaV K H x d/\DaV K H y e/\d.canLay0=true/\e.canLay0=true/\d.depth<=60/\Q (.bl (PyData.eqv d e)) H
def uA(K:ZA):R2:=λx y H Q=>∃ d e,DaV K H x d/\DaV K H y e/\d.canLay0=true/\e.canLay0=true/\d.depth<=60/\Q (.bl (!PyData.eqv d e)) H
def yT(hu:X.A.units+64<cLine):OpR X (compareOp .Eq) (uz X.K):=by
 intro pins s σ H x y v u Q I rx ry h;obtain⟨d,e,h1,h2,c1,c2,dp,q⟩:=h;obtain⟨as,r1⟩:=h1.reads I rx;obtain⟨bs,r2⟩:=h2.reads I ry;exact SeqAt.compareEq_reads r1 r2 c1 c2 (by have:=Q5 d.depth e.depth;lia) ⟨.bl _,H,I,rfl,q⟩
def yU(hu:X.A.units+64<cLine):OpR X (compareOp .NotEq) (uA X.K):=by
 intro pins s σ H x y v u Q I rx ry h;obtain⟨d,e,h1,h2,c1,c2,dp,q⟩:=h;obtain⟨as,r1⟩:=h1.reads I rx;obtain⟨bs,r2⟩:=h2.reads I ry;exact SeqAt.compareNe_reads r1 r2 c1 c2 (by have:=Q5 d.depth e.depth;lia) ⟨.bl _,H,I,rfl,q⟩
end
def jt{A:ZG}{k:Nat}(hr:Room k A):A.units+64<cLine:=by
 have:=hr.un;lia
def HL(K:ZA):R2:=λx y H Q=>∃ l b xs zs,x=.ref l/\y=.ref b/\SqL K H l xs/\SqL K H b zs/\xs.length+zs.length<=sizeLine/\∀ p,H p=none->Q (.ref p) (upd H p (.lst (xs++zs)))
def HM{X:Cx}:OpR X (binaryOp .Add) (HL X.K):=by
 intro pins s σ H x y v u Q I rx ry h;obtain⟨l,b,xs,zs,rfl,rfl,hH,hB,hz,q⟩:=h
 cases rx
 cases ry
 obtain⟨its,r,⟨o,n,e1,e2,e3,e4⟩,z⟩:=I.list hH;obtain⟨its2,r2,⟨o2,n2,g1,g2,g3,g4⟩,z2⟩:=I.list hB;obtain⟨oc,od,oda,osl⟩:=o;obtain⟨oc2,od2,oda2,osl2⟩:=o2;dsimp only at e2 e3 e4 g2 g3 g4;subst e2 e3 e4 g2 g3 g4
 have l1:=r.length;have l2:=r2.length;refine Uh ⟨_,e1,rfl⟩ ⟨_,g1,rfl⟩ noFill_list_add seq_list_add PySem.F.slot_list_add PySem.F.entry_list_add (PySem.F.args_list_add_2 _ _) (list_addW l b its.toArray its2.toArray n n2 none none osl osl2 (by rw[O5,O5];omega)) ⟨e1,g1,?_⟩
 have ea:its.toArray++its2.toArray=(its++its2).toArray:=by simp
 rw[ea];exact⟨.ref s.heap.objs.size,_,I.lnew (t':=s.toks) (r.append r2) (by rw[Pw];exact hz),rfl,q _ I.fresh⟩
section
variable{X:Cx}{pins:List (ZE×Obj)}{σ:St}{H:Hp}{s:ZB}
open Classical in
def iy(h:Heap)(d:PyData)(v:ZC):Bool:=if q:∃ e as,e.canLay0=true/\Reads h v e as then PyData.eqv q.choose d else false
def isD_of{h:Heap}{d e:PyData}{v:ZC}{as:List ZE}(c:e.canLay0=true)(r:Reads h v e as):iy h d v=PyData.eqv e d:=by
 have q:∃ e as,e.canLay0=true/\Reads h v e as:=⟨e,as,c,r⟩
 unfold iy;rw[dif_pos q];obtain⟨as',c',r'⟩:=q.choose_spec
 have z:q.choose=e:=by first|exact(Reads.unique _ _ r' r).1|exact(Reads.unique r' r).1|exact Reads.unique _ _ _ _ _ c' r' r|exact R9 _ _ _ _ _ c' r' r|exact TQ _ _ _ _ _ c' r' r
 rw[z]
theorem uB(I:Inv X pins σ H s):∀ {xs:YE} {ds:List PyData} {us:YB},DaVs X.K H xs ds->Vals xs us->us.length=ds.length/\∀ (j:Nat) u d,us[j]?=some u->ds[j]?=some d->∃ as,Reads s.heap u d as
 |_,_,_,.nil,r=>by cases r;exact⟨rfl,λj u d e=>by cases e⟩
 |_,_,_,.cons h1 h2,r=>by
  cases r with
  |cons r1 r2 =>
   obtain⟨l,q⟩:=uB I h2 r2;refine⟨by rw[PU,PU,l],λj u d e1 e2=>?_⟩
   cases j with
   |zero=>cases e1;cases e2;exact h1.reads I r1
   |succ j=>exact q j u d e1 e2
def uC(K:ZA):R2:=λx y H Q=>∃ p xs d ds,y=.ref p/\SqL K H p xs/\DaV K H x d/\DaVs K H xs ds/\d.canLay0=true/\(∀ e∈ds,e.canLay0=true/\e.depth<=30)/\Q (.bl (ds.any λe=>PyData.eqv e d)) H
theorem uD{h:Heap}{d:PyData}:∀ {us:YB} {ds:List PyData},us.length=ds.length->(∀ (j:Nat) u e,us[j]?=some u->ds[j]?=some e->iy h d u=PyData.eqv e d)->us.any (iy h d)=ds.any λe=>PyData.eqv e d
 |[],[],_,_=>rfl
 |u::us,e::ds,hl,hh=>by
  rw[Qj,Qj,hh 0 u e rfl rfl,uD (us:=us) (ds:=ds) (Nat.succ.inj hl) λj u' e' a b=>hh (j+1) u' e' a b]
def HN(hu:X.A.units+64<cLine):OpR X (compareOp .In) (uC X.K):=by
 intro pins s σ H x y v u Q I rx ry h;obtain⟨p,xs,d,ds,rfl,hq,hd,hds,cd,cds,q⟩:=h
 cases ry
 obtain⟨its,r,pl,hz⟩:=I.list hq;obtain⟨as,ra⟩:=hd.reads I rx;obtain⟨hl,hat⟩:=uB I hds r;refine SeqAt.in_listAt (iy s.heap d) pl.isList (λy hy=>?_) ⟨.bl _,H,I,rfl,?_⟩
 ·have hy':y∈its:=by simpa using hy
  obtain⟨j,hj⟩:=Tf hy';have hlt:=(OS.mp hj).1;have hdj:ds[j]?=some (ds[j]'⋯):=O6 ⋯;obtain⟨bs,rb⟩:=hat j _ _ hj hdj;have cj:=cds _ (Pm hdj);rw[isD_of cj.1 rb];exact SeqAt.eqAt_reads _ _ _ _ _ _ _ _ rb ra cj.1 cd (by
   have:=Q5 (ds[j]'⋯).depth d.depth;show X.A.units+1+_<cLine
   lia)
 ·have e:its.toArray.any (iy s.heap d)=ds.any λe=>PyData.eqv e d:=by
   rw[<- Sh];refine uD hl λj u e h1 h2=>?_
   obtain⟨bs,rb⟩:=hat j _ _ h1 h2;exact isD_of (cds _ (Pm h2)).1 rb
  rw[e];exact q
end
theorem yV:∀ {xs:List Str} {us:YB},Vals (xs.map V.str) us->∃ l:List (Str×Tok),us=strValues l/\l.map (·.1)=xs
 |[],_,r=>by cases r;exact⟨[],rfl,rfl⟩
 |x::xs,_,r=>by
  cases r with
  |cons r1 r2 =>
   obtain⟨t,rfl⟩:=r1;obtain⟨l,e1,e2⟩:=yV r2;exact⟨(x,t)::l,by rw[e1];rfl,by rw[O8,e2]⟩
def HP:∀ (xs:List Str),(Builtin.Str.glued Str.empty xs).cps.toList=(xs.map λx=>x.cps.toList).flatten:=by
 have all:∀ (xs:List Str) (acc:Array Nat),(xs.foldl (λacc p=>acc++Str.empty.cps++p.cps) acc).toList=acc.toList++(xs.map λx=>x.cps.toList).flatten:=by
  intro xs;induction xs with
  |nil=>intro acc;simp
  |cons x r ih =>
   intro acc;rw[Q4,ih];have e:(Str.empty.cps)=#[]:=rfl
   simp[e]
 intro xs;unfold Builtin.Str.glued
 cases xs with
 |nil=>rfl
 |cons x r=>simp only[List.drop_succ_cons,RP,List.headD_cons];rw[all];simp
theorem uE:∀ (xs:List Str) (a:Nat),xs.foldl (λn x=>n+x.length+Str.empty.length) a=a+((xs.map λx=>x.cps.toList).flatten).length
 |[],a=>by simp
 |x::r,a=>by
  rw[Q4,uE r];have e1:Str.empty.length=0:=rfl
  have e2:x.length=x.cps.toList.length:=by simp[Str.length]
  rw[e1,e2,O8,List.flatten_cons,Pw];lia
def HQ(K:ZA):V->YE->Hp->VK->Prop:=λx vs H Q=>∃ (l:ZE) (xs:List Str),x=.str Str.empty/\vs=[.ref l]/\SqL K H l (xs.map V.str)/\((xs.map λx:Str=>x.cps.toList).flatten).length<=1000000/\∀ r:Str,r.cps.toList=(xs.map λx:Str=>x.cps.toList).flatten->Q (.str r) H
def HR{X:Cx}:gw X "str.join" (HQ X.K):=by
 intro pins s σ H x vs v us Q I rx rv h;obtain⟨l,xs,rfl,rfl,hq,hz,q⟩:=h;obtain⟨t,rfl⟩:=rx;obtain⟨u,rfl,ru⟩:=iV rv
 cases ru
 obtain⟨its,r,pl,_⟩:=I.list hq;obtain⟨ll,rfl,e2⟩:=yV r;have hok:JoinOk Str.empty xs=true:=by
  unfold JoinOk;rw[R0];first
   |(rw[TR,uE,RJ];unfold Builtin.Str.tooLong;exact O9 (TU.mpr (OW hz 'd')))
   |(unfold joinFit;rw[TR,uE,RJ];unfold Builtin.Str.tooLong;exact O9 (TU.mpr (OW hz 'd')))
 exact SC.join pl.isList e2 hok λt' k=>⟨.str _,H,I.tok _,⟨_,rfl⟩,q _ (HP xs)⟩
section
variable{X:Cx}{tg:Expr}
theorem yW(ns:List Int):∀ k,k<=ns.length->preSum (λi=>(ns[i]?).getD 0) k=(ns.take k).sum
 |0,_=>by simp[preSum]
 |k+1,h=>by
  show preSum _ k+(ns[k]?).getD 0=_
  rw[yW ns k ⋯,List.take_succ,List.sum_append];congr 1
  rw[O6 ⋯];simp
def HS(hc:X.calm=true):CallR X (.builtin "sum") (λxs H Q=>∃ (a:ZE) (ns:List Int),xs=[.ref a]/\SqL X.K H a (ns.map V.int)/\Q (.int ns.sum) H):=by
 intro pins s σ H xs us Q I r h;obtain⟨l,bs,rfl,hq,q⟩:=h;obtain⟨u,rfl,rx⟩:=iV r
 cases rx
 obtain⟨its,rv,pl,hz⟩:=I.list hq;have hlt:l<s.heap.objs.size:=by obtain⟨_,_,e,_⟩:=pl;exact O4 e
 have hlen:its.length=bs.length:=by rw[<- rv.length,O2]
 refine call_sum_walkAnyS (R6 pl.isList ?_)
 refine⟨s.heap.objs.size,[s.heap.objs.size,l],[s.heap.objs.size],_,its.toArray.size,_,_,λi=>(bs[i]?).getD 0,rfl,(Walks.list (prog:=X.prog) (w:=X.w) (A:=X.A.in1) (I.ok.hd hc) s.heap.objs.size l (Pq hlt) its.toArray).toS,
  ⟨⟨_,Pa _ rfl,rfl,rfl⟩,pl.isList.push _⟩,λb hb=>?_,λi v hP=>?_,λs' t' hm=>?_⟩
 ·rcases Pb.mp hb with rfl|hb
  ·exact O4 (Pa _ rfl)
  ·obtain rfl:=Q7.mp hb
   obtain⟨_,_,e,_⟩:=pl;exact O4 (OZ _ e)
 ·have hP':its[i]?=some v:=by simpa using hP
  have hi:i<its.length:=(OS.mp hP').1;have hb:(bs.map V.int)[i]?=some (V.int (bs[i]'(by omega))):=by rw[Pr,O6 (by omega)];rfl
  obtain⟨u,hu,ru⟩:=rv.get hb;rw[hP'] at hu
  cases hu
  obtain⟨t,rfl⟩:=ru;refine⟨t,?_⟩
  show Value.int _ t=Value.int ((bs[i]?).getD 0) t
  rw[O6 (by omega)];rfl
 ·obtain⟨h',g',d',tk',os'⟩:=s'
  have e1:g'=s.gens:=hm.gens;have e2:d'=s.drawn:=hm.drawn;have e3:os'=s.os:=hm.os;subst e1 e2 e3
  have e:preSum (λi=>(bs[i]?).getD 0) its.toArray.size=bs.sum:=by
   rw[O5,hlen,yW bs _ (OV _),PF (OV _)]
  rw[e];refine⟨.int _,H,I.kept (t':=tk') λb o q=>?_,⟨_,rfl⟩,q⟩
  exact hm.heap b o (λhb=>by rw[Q7.mp hb] at q;exact Qi _ (O4 q)) (OZ _ q)
def ju(lo c:Int)(n:Nat):It:=⟨λi _=>i<n,λi H x H'=>H'=H/\x=.int (lo+i*c),λi _=>n<=i⟩
def HU{P:ZD}{w:ZF}{K:ZA}{tg:Expr}(it:ZE)(lo c:Int)(n:Nat):fu P w K tg (ju lo c n) [it] it (λi h=>IsRangeIter h it (lo+(i:Nat)*c) ((n:Int)-(i:Nat)) c) where
 mem:=by simp
 obj:=λi h st b hb=>by
  have e:b=it:=by simpa using hb
  subst e;exact⟨_,st,λv z=>by
   have z':Data.fields _=Data.cell v:=z
   cases z'⟩
 keep:=λi h h' st k=>k it 's' _ st
 item:=by
  intro X hP hw hK hc i pins s σ H E I hf st hg;subst hP hw hK
  obtain⟨f0,f1,f2,f3,f4,f5⟩:=hf it 's';have W:=Walks.range (prog:=X.prog) (w:=X.w) (I.ok.hd hc) it lo c n;refine W.item i s _ _ hg st λv h' tk hv st' kk=>?_
  obtain⟨t,rfl⟩:=hv;have I1:Inv X pins σ H { s with heap:=h',toks:=tk }:=I.turned (λb o hb e=>kk b o (by simpa using hb) e) f0 f1 f3 f4 f5;exact⟨_,rfl,nV (s:={ s with heap:=h',toks:=tk }) (n := "range_iterator") st' rfl rfl 'd' ⟨.int (lo+i*c),H,I1,⟨t,rfl⟩,⟨rfl,rfl⟩,st',λb hb=>(hf b hb).1⟩⟩
 done:=by
  intro X hP hw hK hc i pins s σ H E I hf st hg;subst hP hw hK
  obtain⟨f0,f1,f2,f3,f4,f5⟩:=hf it 's';exact SF (I.ok.hd hc) st (by have:n<=i:=hg;lia) λh' eb=>⟨rfl,I.turned (t':=s.toks) (λb o hb e=>eb b o hb e) f0 f1 f3 f4 f5⟩
 self:=λ_ _ _ _ _ st h=>SG st h
def HW{a b c:Int}(hc:0<c):Builtin.Range.rangeSize a b c=(((if a<b then(b-a-1) / c+1 else 0:Int).toNat:Nat):Int):=by
 unfold Builtin.Range.rangeSize;rw[OX hc];split
 ·have:0<=(b-a-1) / c:=Int.ediv_nonneg ⋯ ⋯
  lia
 ·rfl
def om{x:Int}(h:x.natAbs<2 ^ 42):Builtin.Range.rangeFitsLong x=true:=by
 have h2:x.natAbs<4398046511104:=h;simp only[Builtin.Range.rangeFitsLong,Pu,P3]
 lia
def HX{a b c:Int}(ha:a.natAbs<2 ^ 40)(hb:b.natAbs<2 ^ 40)(hc:0<c):(Builtin.Range.rangeSize a b c).natAbs<2 ^ 42:=by
 have ha2:a.natAbs<1099511627776:=ha;have hb2:b.natAbs<1099511627776:=hb;show _<4398046511104
 unfold Builtin.Range.rangeSize;rw[OX hc];split
 ·have h1:0<=(b-a-1) / c:=Int.ediv_nonneg ⋯ ⋯
  have h2:(b-a-1) / c<=b-a-1:=Int.ediv_le_self _ ⋯;generalize (b-a-1) / c=d at *;lia
 ·decide
def HY{a b c:Int}(ha:a.natAbs<2 ^ 40)(hb:b.natAbs<2 ^ 40)(hc:0<c)(hc':c<2 ^ 20):Builtin.Range.small a b c=true:=by
 have l:(2:Nat) ^ 40<2 ^ 42:=by decide
 unfold Builtin.Range.small;rw[om (RI ha l),om (RI hb l),om (x:=c) (by have h2:c<1048576:=hc';show _<4398046511104;lia),om (HX ha hb hc),OX hc,om (x:=b+(c-1)) (by have h2:c<1048576:=hc';have h3:b.natAbs<1099511627776:=hb;show _<4398046511104;lia)];simp
def HZ(ta:TA):TI:=λσ H R=>ta σ H λvs H1=>∃ i j c:Int,vs=[.int i,.int j,.int c]/\(i.natAbs<2 ^ 40/\j.natAbs<2 ^ 40/\0<c/\c<2 ^ 20)/\R (ju i c (if i<j then(j-i-1) / c+1 else 0:Int).toNat) H1
def Ia{pins:List (ZE×Obj)}{σ:St}{H:Hp}{s:ZB}{R:It->Hp->Prop}{E:ZC->ZB->Prop}{lo hi c:Int}{t u v:Tok}{tk:Nat}(I:Inv X pins σ H s)(h1:lo.natAbs<2 ^ 40)(h2:hi.natAbs<2 ^ 40)(h3:0<c)(h4:c<2 ^ 20)
  (q:R (ju lo c (if lo<hi then(hi-lo-1) / c+1 else 0:Int).toNat) H):wpAny (model X.prog X.w) X.A (pyIter (.ref s.heap.objs.size)) (tK X pins σ tg R) E { s with heap:=s.heap.push { cls:=.type "range",data:=.fields #[.int lo t,.int hi u,.int c v] },toks:=tk }:=by
 refine TZ (IsRange.new ..) (HY h1 h2 h3 h4) ?_
 have I1:Inv X pins σ H { s with heap:=s.heap.push { cls:=.type "range",data:=.fields #[.int lo t,.int hi u,.int c v] },toks:=tk }:=I.kept λb o e=>OZ _ e
 refine⟨(s.heap.push { cls:=.type "range",data:=.fields #[.int lo t,.int hi u,.int c v] }).objs.size,[(s.heap.push { cls:=.type "range",data:=.fields #[.int lo t,.int hi u,.int c v] }).objs.size],_,_,H,rfl,
  I1.kept (t':=tk) λb o e=>OZ _ e,HU _ lo c (if lo<hi then(hi-lo-1) / c+1 else 0:Int).toNat,?_,λb hb=>?_,q⟩
 ·have e1:lo+((0:Nat):Int)*c=lo:=by simp
  have e2:(((if lo<hi then(hi-lo-1) / c+1 else 0:Int).toNat:Nat):Int)-((0:Nat):Int)=Builtin.Range.rangeSize lo hi c:=by rw[HW h3];omega
  show IsRangeIter _ _ (lo+((0:Nat):Int)*c) ((((if lo<hi then(hi-lo-1) / c+1 else 0:Int).toNat:Nat):Int)-((0:Nat):Int)) c
  rw[e1,e2];exact Pa _ rfl
 ·have e:b=(s.heap.push { cls:=.type "range",data:=.fields #[.int lo t,.int hi u,.int c v] }).objs.size:=by simpa using hb
  subst e;exact I1.fpOk (OV _) (I1.hok.fresh (OV _))
def Ib {a b c:Expr} {ta:TA} {p pos:Pos} (hg:Gl X "range") (hm:X.mg "range"=none) (ha:PA X [a,b,c] ta) (hs:‹starEach [a,b,c] X.env=[(false,eval a X.env),(false,eval b X.env),(false,eval c X.env)]›) (hs2:‹starEach [b,c] X.env=[(false,eval b X.env),(false,eval c X.env)]›) :
  PI X tg (.Call (.Name "range" p) [a,b,c] [] pos) (HZ ta):=by
 intro pins s σ H R I h;refine Call_ (mL I hg hm boot_range (Qv (thn (ha pos pins s σ H _ I h) λus s1 Zz=>?_) (by rw[hs,hs2]) (by rw[hs2];rfl)));obtain⟨vs,H1,I1,r1,q1⟩:=Zz
 obtain⟨i,j,c,e,⟨q1,q2,q3,q4⟩,q⟩:=q1;subst e
 cases r1 with
 |cons r rr =>
  cases rr with
  |cons r' rr =>
   cases rr with
   |cons r'' rr =>
    cases rr
    obtain⟨t,rfl⟩:=r;obtain⟨t',rfl⟩:=r';obtain⟨t'',rfl⟩:=r'';exact call_range_3 ⋯ (Ia I1 q1 q2 q3 q4 q) (.inl (PyProof.noPylong_small ⋯))
end
open PySem.Builtin PySem.Builtin.Str
section
variable{X:Cx}
def bL(z:Str)(lo hi:Option Int):Str:=⟨((z.cps.toList.drop (HT.sIx z.cps.toList.length 0 lo)).take (HT.sIx z.cps.toList.length z.cps.toList.length hi-HT.sIx z.cps.toList.length 0 lo)).toArray⟩
def qy(n d:Nat)(i:Int):max 0 (min (if i<0 then i+(n:Int) else i) (n:Int))=((HT.sIx n d (some i):Nat):Int):=by
 show max 0 (min (if i<0 then i+(n:Int) else i) (n:Int))=(((if i<0 then(i+(n:Int)).toNat else min i.toNat n):Nat):Int)
 split<;>lia
def qz{a b:Int}{A B:Nat}(ha:a=A)(hb:b=B):sliceRange a b 1=(List.range (B-A)).map λk=>A+k:=by
 subst ha hb
 unfold sliceRange;simp only[show (1:Int) > 0 by decide,Qd]
 have:(if (A:Int)<(B:Int) then((B:Int)-A+1-1) / 1 else 0).toNat=B-A:=by
  split<;>(try simp only[Int.ediv_one])<;>lia
 rw[this];apply Qu
 intro k _;lia
def Ic(xs:List Nat)(i k:Nat):(List.range k).filterMap (λm=>xs[i+m]?)=(xs.drop i).take k:=by
 induction k generalizing i with
 |zero=>simp
 |succ k ih =>
  rw[List.range_succ_eq_map,QY,RN];have e:((λm=>xs[i+m]?) ∘ Nat.succ)=λm=>xs[(i+1)+m]?:=by
   funext m;show xs[i+(m+1)]?=_;congr 1;lia
  rw[e,ih (i+1)]
  cases h:xs[i]? with
  |none =>
   have hl:xs.length<=i:=List.getElem?_eq_none_iff.mp h;simp only[Nat.add_zero,h]
   rw[P2 ⋯,P2 hl];simp
  |some v =>
   have hi:=(OS.mp h).1;simp only[Nat.add_zero,h]
   rw[RU hi,List.take_succ_cons];congr 1
   exact(Pp ((O6 hi).symm.trans h)).symm
def Ie(n:Nat)(lo hi:Option Int):strSliceIndices lo hi 1 n=(List.range (HT.sIx n n hi-HT.sIx n 0 lo)).map λk=>HT.sIx n 0 lo+k:=by
 cases lo with
 |none =>
  cases hi with
  |none=>exact qz rfl rfl
  |some j=>exact qz rfl (qy n n j)
 |some i =>
  cases hi with
  |none=>exact qz (qy n 0 i) rfl
  |some j=>exact qz (qy n 0 i) (qy n n j)
def Ig(z:Str)(lo hi:Option Int):Txt.slice z lo hi=bL z lo hi:=by
 have hz:z.length=z.cps.toList.length:=by simp[Str.length]
 unfold Txt.slice bL;rw[hz,Ie,RN];have e:((λx=>z.cps[x]?) ∘ λk=>HT.sIx z.cps.toList.length 0 lo+k)=λm=>z.cps.toList[HT.sIx z.cps.toList.length 0 lo+m]?:=by
  funext m;simp
 rw[e,Ic];split
 ·rename_i hc
  simp only[beq_self_eq_true,Bool.true_and,Us,O2,P8] at hc
  have h1:HT.sIx z.cps.toList.length z.cps.toList.length hi<=z.cps.toList.length:=HT.sIx_le _ _ (OV _) _;have h2:HT.sIx z.cps.toList.length 0 lo=0\/z.cps.toList.length=0:=by lia
  rw[hc];rcases h2 with h2|h2
  ·rw[h2,RP,PF (OV _)]
  ·have:z.cps.toList=[]:=List.eq_nil_of_length_eq_zero h2
   have h3:z.cps=#[]:=by simpa using this
   simp[h3]
   cases z;simp_all
 ·rfl
def yX{v:ZC}{o:Option Int}(p:IsPart v o):∃ l:Option (Int×Tok),v=partValue l/\l.map (·.1)=o:=by
 cases p with
 |none=>exact⟨none,rfl,rfl⟩
 |int i t=>exact⟨some (i,t),rfl,rfl⟩
def Ih:SlR X (λx lo hi H Q=>∃ z,x=.str z/\z.length<=sizeLine/\Q (.str (bL z lo hi)) H):=by
 intro pins s σ H x v vl vu lo hi sl Q I rx hs pl pu h;obtain⟨z,rfl,hz,q⟩:=h;obtain⟨t,rfl⟩:=rx;obtain⟨l,rfl,rfl⟩:=yX pl;obtain⟨u,rfl,rfl⟩:=yX pu;refine⟨"str",_,F.slot_str_getitem.lookup,Ry _ _ _,?_⟩
 refine wpAny_getItem_str_slice (l:=l) (u:=u) (st:=none) hs rfl ?_
 refine post_val_or_str ⟨OW (Txt.slice_le z (l.map (·.1)) (u.map (·.1))) hz,λt' k=>?_⟩
 have e:=Ig z (l.map (·.1)) (u.map (·.1));refine⟨.str (bL z (l.map (·.1)) (u.map (·.1))),H,I.tok _,⟨t',?_⟩,q⟩
 rw[<- e];rfl
def yY(r r' r'':R2)(ta tb tc td:TE):TE:=λσ H Q=>ta σ H λx H1=>tb σ H1 λy H2=>r x y H2 λz H3=>∃ k,z=.bl k /\
 (if k=true then tc σ H3 λw' H4=>r' y w' H4 λz2 H5=>∃ k2,z2=.bl k2/\(if k2=true then td σ H5 λv' H6=>r'' w' v' H6 Q else Q (.bl false) H5) else Q (.bl false) H3)
def Ii{a b c d:Expr}{ta tb tc td:TE}{pos:Pos}{op op' op'':CmpOp}{r r' r'':R2}(ho:OpR X (compareOp op) r)(ho':OpR X (compareOp op') r')(ho'':OpR X (compareOp op'') r'')(ha:PE X a ta)(hb:PE X b tb)(hc:PE X c tc)(hd:PE X d td)
  (hm:autoParam (lastMarks [op,op',op''] [b,c,d]=false) E6._auto_1):PT X (.Compare a [op,op',op''] [b,c,d] pos) (tR (yY r r' r'' ta tb tc td)):=by
 intro pins s σ H Q I h;refine isTrue_chain (thn (ha pins s σ H _ I h) λv s1 ⟨x,H1,I1,r1,q1⟩=>test_link (thn (hb pins s1 σ H1 _ I1 q1) λu s2 ⟨y,H2,I2,r2,q2⟩ =>
  thn (ho pins s2 σ H2 x y v u _ I2 r1 r2 q2) λd s3 ⟨z,H3,I3,r3,k,e,q3⟩=>?_)) hm
 subst e
 cases r3
 refine Pj ?_
 cases k with
 |false =>
  obtain⟨k',e',q'⟩:=q3
  cases e'
  exact ite_ff ⟨H3,I3,q'⟩
 |true =>
  refine ite_tt (test_link (thn (hc pins s3 σ H3 _ I3 q3) λw' s4 ⟨z',H4,I4,r4,q4⟩=>thn (ho' pins s4 σ H4 y z' u w' _ I4 r2 r4 q4) λd' s5 Zz=>?_));obtain⟨z2,H5,I5,r5,k2,e2,q5⟩:=Zz
  subst e2
  cases r5
  refine Pj ?_
  cases k2 with
  |false =>
   obtain⟨k',e',q'⟩:=q5
   cases e'
   exact ite_ff ⟨H5,I5,q'⟩
  |true =>
   refine ite_tt (test_last (thn (hd pins s5 σ H5 _ I5 q5) λw2 s6 ⟨z3,H6,I6,r6,q6⟩=>thn (ho'' pins s6 σ H6 z' z3 w' w2 _ I6 r4 r6 q6) λd2 s7 Zz=>?_));obtain⟨z4,H7,I7,r7,k3,e3,q7⟩:=Zz
   subst e3
   cases r7
   exact Pj ⟨H7,I7,q7⟩
def aX(z:Str)(n:Nat):Str:=⟨((List.replicate n z.cps.toList).flatten).toArray⟩
def Ij{z:Str}{n:Int}(h2:2<=n)(hz:1<=z.length):Txt.mul z n=aX z n.toNat:=by
 unfold Txt.mul aX;rw[O0 ⋯,O0 (by simp;lia)];have:=Ha (List.replicate n.toNat z.cps) #[];rw[List.map_replicate] at this;have e:(List.replicate n.toNat z.cps).foldl (· ++ ·) #[]=((List.replicate n.toNat z.cps.toList).flatten).toArray:=by
  apply Sj.mp
  rw[this];simp
 rw[e]
end
open PySem.Builtin PySem.Builtin.Str
section
variable{X:Cx}
def Ik(z:Str)(n:Int):Txt.mul z n=aX z n.toNat:=by
 by_cases h2:2<=n/\1<=z.length
 ·exact Ij h2.1 h2.2
 ·unfold Txt.mul
  by_cases h1:n<1
  ·rw[OX h1,show n.toNat=0 by lia];rfl
  ·rw[O0 h1,OX (by simp;lia)]
   by_cases hz:z.length=0
   ·have e:z.cps.toList=[]:=P5.mp (by simpa[Str.length] using hz)
    cases z
    simp only[aX,Str.mk.injEq] at *
    rw[e];apply Sj.mp
    simp[e]
   ·rw[show n.toNat=1 by lia]
    cases z
    simp[aX]
def Il:OpR X (binaryOp .Mult) (λx y H Q=>∃ z n,x=.str z/\y=.int n/\n.natAbs<2 ^ 40/\z.length*n.toNat<=1000000/\Q (.str (aX z n.toNat)) H):=by
 intro pins s σ H x y v u Q I rx ry h;obtain⟨z,n,rfl,rfl,hb,hl,q⟩:=h;obtain⟨t,rfl⟩:=rx;obtain⟨t',rfl⟩:=ry;have hb2:n.natAbs<1099511627776:=hb;refine SB.mul ⟨?_,λh1 _=>?_,λ_ _=>?_⟩ λt2 k=>⟨.str (aX z n.toNat),H,I.tok _,⟨t2,by rw[Ik]⟩,q⟩
 ·simp;lia
 ·intro hc
  have n0:(n:Int)=(n.toNat:Int):=by lia
  have h1:n*(z.length:Int)<=1000000:=by
   rw[n0,<- Int.natCast_mul,Sz];exact Int.ofNat_le.mpr hl
  have h3:(2 ^ 63-1:Int) / n<z.length:=hc;have h4:(2 ^ 63-1:Int)<z.length*n:=Int.lt_mul_of_ediv_lt ⋯ h3;rw[Int.mul_comm] at h4;have:(9223372036854775807:Int)<n*z.length:=h4
  lia
 ·exact O9 (TU.mpr (OW hl 'd'))
end
section
variable{prog:ZD}{w:ZF}{A:ZG}{E:ZC->ZB->Prop}{s:ZB}
end
section
variable{X:Cx}{pos:Pos}
end
open PySem.Builtin PySem.Builtin.Str
section
variable{X:Cx}{tg:Expr}
def Im:gw X "str.upper" (λx vs H Q=>∃ z,x=.str z/\vs=[]/\(Txt.upper z).length<=sizeLine/\Q (.str (Txt.upper z)) H):=by
 intro pins s σ H x vs v us Q I rx rv h;obtain⟨z,rfl,rfl,hl,q⟩:=h;obtain⟨t,rfl⟩:=rx
 cases rv
 exact Ur F.slot_str_upper (Ry s z t) F.entry_str_upper (F.args_str_upper_1 _) (gives_str_upper z t (O9 (TU.mpr hl))) ⟨hl,.str _,H,I.tok _,⟨_,rfl⟩,q⟩
end
end L2
namespace Sm
open PySem L2
def E6x{α β γ:Type}{p q r:α->β->γ->Prop}{R:Prop}(h:∀ a b c,p a b c->q a b c->r a b c->R):(∃ a b c,p a b c/\q a b c/\r a b c)->R:=(λ⟨a,b,c,x,y,z⟩=>h a b c x y z)
inductive AV where
 |non|bl (b:Bool)|int (i:Int)|str (x:Str)
 |tup (xs:List AV)
 |fl (xs:List AV)
 |ref (n:Nat)
 |exc (c:Nat)
 deriving Inhabited
abbrev YF:=List AV
inductive AO where
 |lst (xs:YF)
 |dct (t:Bool) (kvs:List (AV×AV))
 |dcx (kvs:List (AV×AV))
 |dcz (ob:Obj) (kvs:List (AV×AV))
 |ins (c:Nat) (fs:List (Option AV))
abbrev AH:=List AO
abbrev En:=List (Option AV)
inductive Out (α:Type) where
 |ok (a:α) (h:AH)
 |ex (c:Nat) (h:AH)
 |bad
@[simp] def Out.bind{α β:Type}(o:Out α)(f:α->AH->Out β):Out β :=
 match o with
 |.ok a h=>f a h
 |.ex c h=>.ex c h
 |.bad=>.bad
inductive OutS where
 |nx (e:En) (h:AH)
 |rt (v:AV) (h:AH)
 |bk (e:En) (h:AH)
 |ct (e:En) (h:AH)
 |ex (c:Nat) (e:En) (h:AH)
 |bad
abbrev SE:=En->AH->Out AV
abbrev SB:=En->AH->Out Bool
abbrev SL:=En->AH->Out YF
abbrev SS:=En->AH->OutS
abbrev Fn:=YF->AH->Out AV
@[simp] def Out.go{α:Type}(o:Out α)(e:En)(f:α->AH->OutS):OutS :=
 match o with
 |.ok a h=>f a h
 |.ex c h=>.ex c e h
 |.bad=>.bad
structure Tb where
 K:ZA
 cls:Nat->YC
 exc:Nat->YC
 fields:Nat->List Str
 nd:∀ c,(fields c).Nodup
 few:∀ c,(fields c).length<=500
def KL(K:ZA)(a:ZE)(xs:YE):Prop:=∃ (o:Obj) (its:Array ZC) (n:Nat),K.lookup a=some o/\o.cls=.type "list" /\ o.dict=none/\o.data=.seq its n/\its.size<=sizeLine/\Vals xs its.toList
structure Ix where
 refs:List ZE
 priv:List ZE
def Ix.all(ι:Ix):List ZE:=ι.refs++ι.priv
def Io(c:Nat):Int:=((c / 64:Nat):Int)-1
def XdOk(ι:Ix)(H:Hp)(c:Nat)(dx:YC):Prop:=64<=c->∃ d,dx=some d/\d∉ι.all/\H d=some (.xd [("row",.int (Io c))])
def uF(T:Tb)(ι:Ix)(H:Hp)(c:Nat)(C:ZE×YC):Prop:=T.exc c=some C.1/\XdOk ι H c C.2
def Ip{ι:Ix}{H:Hp}{c:Nat}{dx:YC}(h:c<64):XdOk ι H c dx:=(λz=>absurd h (Nat.not_lt_of_le z))
mutual
inductive RV (T:Tb) (ι:Ix) (H:Hp):AV->V->Prop
 |non:RV T ι H .non .non
 |bl (b:Bool):RV T ι H (.bl b) (.bl b)
 |int (i:Int):RV T ι H (.int i) (.int i)
 |str {x:Str} (n:x.length<=sizeLine) (o:x.cps.all (· < 0x110000)=true):RV T ι H (.str x) (.str x)
 |tup {xs:YF} {us:YE} {a:ZE} (n:a∉ι.all) (h:H a=some (.tup us)) (r:RVs T ι H xs us):RV T ι H (.tup xs) (.ref a)
 |fl {xs:YF} {us:YE} {a:ZE} (n:a∉ι.all) (h:Rd H a (.lst us)) (r:RVs T ι H xs us):RV T ι H (.fl xs) (.ref a)
 |kfl {xs:YF} {us:YE} {a:ZE} (h:KL T.K a us) (r:RVs T ι H xs us):RV T ι H (.fl xs) (.ref a)
 |ref {k:Nat} {a:ZE} (h:ι.refs[k]?=some a):RV T ι H (.ref k) (.ref a)
 |exc {c:Nat} {C:ZE×YC} {a:ZE} (n:a∉ι.all) (h:uF T ι H c C) (q:H a=some (fV a (.ref C.1) C.2)):RV T ι H (.exc c) (.ref a)
inductive RVs (T:Tb) (ι:Ix) (H:Hp):YF->YE->Prop
 |nil:RVs T ι H [] []
 |cons {x:AV} {u:V} {xs:YF} {us:YE} (r:RV T ι H x u) (rs:RVs T ι H xs us):RVs T ι H (x::xs) (u::us)
end
structure Grow(ι:Ix)(H:Hp)(ι':Ix)(H':Hp):Prop where
 pre:∃ n,ι'.refs=ι.refs++n/\∀ a∈n,H a=none
 priv:ι'.priv=ι.priv
 keep:∀ a o,a∉ι.refs->H a=some o->H' a=some o
 live:∀ a∈ι.all,H' a≠none
theorem yZ:∀ {l:List ZE} {i j:Nat} {a:ZE},l.Nodup->l[i]?=some a->l[j]?=some a->i=j
 |[],_,_,_,_,e,_=>by simp at e
 |x::l,0,0,_,_,_,_=>rfl
 |x::l,0,j+1,a,n,e,f=>by
  simp at e f;subst e
  exact absurd (Pm f) (PN.mp n).1
 |x::l,i+1,0,a,n,e,f=>by
  simp at e f;subst f
  exact absurd (Pm e) (PN.mp n).1
 |x::l,i+1,j+1,a,n,e,f=>by
  simp at e f
  rw[yZ (PN.mp n).2 e f]
def Ix.nr{ι:Ix}{a:ZE}(h:a∉ι.all):a∉ι.refs:=(λz=>h (Pk _ z))
def Ix.np{ι:Ix}{a:ZE}(h:a∉ι.all):a∉ι.priv:=(λz=>h (Pn _ z))
def Grow.refl{ι:Ix}{H:Hp}(l:∀ a∈ι.all,H a≠none):Grow ι H ι H:=(⟨⟨[],by simp,by simp⟩,rfl,λ_ _ _ e=>e,l⟩)
def Grow.at{ι ι':Ix}{H H':Hp}(g:Grow ι H ι' H'){k:Nat}{a:ZE}(h:ι.refs[k]?=some a):ι'.refs[k]?=some a:=by
 obtain⟨n,e,_⟩:=g.pre;rw[e,O3 (OS.mp h).1];exact h
def Grow.outR{ι ι':Ix}{H H':Hp}(g:Grow ι H ι' H'){a:ZE}{o:HO}(n:a∉ι.refs)(e:H a=some o):a∉ι'.refs:=(λz=>by
 obtain⟨m,e',hm⟩:=g.pre;rw[e'] at z;rcases PH.mp z with z|z
 ·exact n z
 ·rw[hm a z] at e;cases e)
def Grow.out{ι ι':Ix}{H H':Hp}(g:Grow ι H ι' H'){a:ZE}{o:HO}(n:a∉ι.all)(e:H a=some o):a∉ι'.all:=(λz=>by
 rcases PH.mp z with z|z
 ·exact g.outR (Ix.nr n) e z
 ·rw[g.priv] at z;exact Ix.np n z)
def Grow.trans{ι ι' ι'':Ix}{H H' H'':Hp}(g:Grow ι H ι' H')(k:Grow ι' H' ι'' H''):Grow ι H ι'' H'':=by
 obtain⟨n,e1,hn⟩:=g.pre;obtain⟨m,e2,hm⟩:=k.pre;refine⟨⟨n++m,by rw[e2,e1];simp,λa ha=>?_⟩,k.priv.trans g.priv,λa o na e=>k.keep a o (g.outR na e) (g.keep a o na e),λa ha=>k.live a ?_⟩
 ·rcases PH.mp ha with z|z
  ·exact hn a z
  ·have q:=hm a z
   by_cases hi:a∈ι.refs
   ·exact absurd q (g.live a (Pk _ hi))
   ·cases e:H a with
    |none=>rfl
    |some o=>rw[g.keep a o hi e] at q;cases q
 ·rcases PH.mp ha with z|z
  ·exact Pk _ (by rw[e1];exact Pk _ z)
  ·exact Pn _ (by rw[g.priv];exact z)
structure Ext(ι:Ix)(H:Hp)(ι':Ix)(H':Hp):Prop where
 at_:∀ {k:Nat} {a:ZE},ι.refs[k]?=some a->ι'.refs[k]?=some a
 keep:∀ a o,a∉ι.all->H a=some o->H' a=some o
 out:∀ a o,a∉ι.all->H a=some o->a∉ι'.all
def Grow.ext{ι ι':Ix}{H H':Hp}(g:Grow ι H ι' H'):Ext ι H ι' H':=(⟨g.at,λa o n e=>g.keep a o (Ix.nr n) e,λa o n e=>g.out n e⟩)
def Ext.trans{ι ι' ι'':Ix}{H H' H'':Hp}(g:Ext ι H ι' H')(k:Ext ι' H' ι'' H''):Ext ι H ι'' H'' :=(
 ⟨λe=>k.at_ (g.at_ e),λa o n e=>k.keep a o (g.out a o n e) (g.keep a o n e),λa o n e=>k.out a o (g.out a o n e) (g.keep a o n e)⟩)
def XdOk.ext{ι ι':Ix}{H H':Hp}{c:Nat}{dx:YC}(x:XdOk ι H c dx)(g:Ext ι H ι' H'):XdOk ι' H' c dx:=(λz=>by
 obtain⟨d,e,n,q⟩:=x z;exact⟨d,e,g.out _ _ n q,g.keep _ _ n q⟩)
def y6{ι ι':Ix}{H H':Hp}(g:Ext ι H ι' H'){a:ZE}{u:HO}(n:a∉ι.all)(r:Rd H a u):Rd H' a u:=by
 rcases r with r|⟨o,r⟩
 ·exact .inl (g.keep a _ n r)
 ·exact .inr ⟨o,g.keep a _ n r⟩
def Iq{ι ι':Ix}{H H':Hp}(g:Ext ι H ι' H'){a:ZE}{u:HO}(n:a∉ι.all)(r:Rd H a u):a∉ι'.all:=by
 rcases r with r|⟨o,r⟩
 ·exact g.out _ _ n r
 ·exact g.out _ _ n r
mutual
theorem RV.ext{T:Tb}{ι ι':Ix}{H H':Hp}(g:Ext ι H ι' H'):∀ {x:AV} {u:V},RV T ι H x u->RV T ι' H' x u
 |_,_,.non=>.non
 |_,_,.bl b=>.bl b
 |_,_,.int i=>.int i
 |_,_,.str n o=>.str n o
 |_,_,.tup n h r=>.tup (g.out _ _ n h) (g.keep _ _ n h) (RVs.ext g r)
 |_,_,.fl n h r=>.fl (Iq g n h) (y6 g n h) (RVs.ext g r)
 |_,_,.kfl h r=>.kfl h (RVs.ext g r)
 |_,_,.ref h=>.ref (g.at_ h)
 |_,_,.exc n h q=>.exc (g.out _ _ n q) ⟨h.1,h.2.ext g⟩ (g.keep _ _ n q)
theorem RVs.ext{T:Tb}{ι ι':Ix}{H H':Hp}(g:Ext ι H ι' H'):∀ {xs:YF} {us:YE},RVs T ι H xs us->RVs T ι' H' xs us
 |_,_,.nil=>.nil
 |_,_,.cons r rs=>.cons (RV.ext g r) (RVs.ext g rs)
end
def RV.mono{T:Tb}{ι ι':Ix}{H H':Hp}(g:Grow ι H ι' H'){x:AV}{u:V}(r:RV T ι H x u):RV T ι' H' x u:=(r.ext g.ext)
def RVs.mono{T:Tb}{ι ι':Ix}{H H':Hp}(g:Grow ι H ι' H'){xs:YF}{us:YE}(r:RVs T ι H xs us):RVs T ι' H' xs us:=(r.ext g.ext)
section
variable{T:Tb}{ι:Ix}{H:Hp}
theorem RVs.length:∀ {xs:YF} {us:YE},RVs T ι H xs us->xs.length=us.length
 |_,_,.nil=>rfl
 |_,_,.cons _ rs=>by simp[RVs.length rs]
theorem RVs.get:∀ {xs:YF} {us:YE} {i:Nat} {x:AV},RVs T ι H xs us->xs[i]?=some x->∃ u,us[i]?=some u/\RV T ι H x u
 |_,_,_,_,.nil,e=>by simp at e
 |_,_,0,_,.cons r _,e=>by simp at e;subst e;exact⟨_,rfl,r⟩
 |_,_,i+1,x,.cons _ t,e=>by
  obtain⟨u,h1,h2⟩:=RVs.get (i:=i) (x:=x) t (by simpa using e);exact⟨u,by simpa using h1,h2⟩
theorem RVs.append:∀ {xs ys:YF} {us ws:YE},RVs T ι H xs us->RVs T ι H ys ws->RVs T ι H (xs++ys) (us++ws)
 |_,_,_,_,.nil,s=>s
 |_,_,_,_,.cons r t,s=>.cons r (RVs.append t s)
theorem RVs.set{x:AV}{u:V}(r:RV T ι H x u):∀ {xs:YF} {us:YE} (i:Nat),RVs T ι H xs us->RVs T ι H (xs.set i x) (us.set i u)
 |_,_,_,.nil=>.nil
 |_,_,0,.cons _ t=>.cons r t
 |_,_,i+1,.cons q t=>.cons q (RVs.set r i t)
theorem RVs.take:∀ {xs:YF} {us:YE} (n:Nat),RVs T ι H xs us->RVs T ι H (xs.take n) (us.take n)
 |_,_,0,_=>by simpa using RVs.nil
 |_,_,_+1,.nil=>.nil
 |_,_,n+1,.cons r t=>.cons r (RVs.take n t)
theorem RVs.drop:∀ {xs:YF} {us:YE} (n:Nat),RVs T ι H xs us->RVs T ι H (xs.drop n) (us.drop n)
 |_,_,0,r=>r
 |_,_,_+1,.nil=>.nil
 |_,_,n+1,.cons _ t=>RVs.drop n t
end
def kA:aF->AV
 |.inl i=>.int i
 |.inr x=>.str x
def OR(T:Tb)(ι:Ix)(H:Hp):AO->HO->Prop
 |.lst xs,o=>∃ us,o=.lst us/\RVs T ι H xs us
 |.dct false kvs,o=>∃ kus:List (aF×V),o=.dK kus/\Paired (λ(p:AV×AV) (q:aF×V)=>p.1=kA q.1/\RV T ι H p.2 q.2) kvs kus
 |.dct true kvs,o=>∃ kus:List (List aF×V),o=.dT none kus/\Paired (λ(p:AV×AV) (q:List aF×V)=>p.1=.tup (q.1.map kA)/\RV T ι H p.2 q.2) kvs kus
 |.dcx kvs,o=>∃ (ads:List ZE) (kus:List (List aF×V)),o=.dT (some ads) kus/\ads.length=kus.length/\Paired (λ(p:AV×AV) (q:ZE×List aF×V)=>p.1=.tup (q.2.1.map kA)/\RV T ι H p.1 (.ref q.1)/\RV T ι H p.2 q.2.2) kvs (ads.zip kus)
 |.dcz ob kvs,o=>∃ kus:List (aF×V),o=.frz ob (.dK kus)/\Paired (λ(p:AV×AV) (q:aF×V)=>p.1=kA q.1/\RV T ι H p.2 q.2) kvs kus
 |.ins c fs,o=>∃ C dx fus,T.cls c=some C/\o=.ins C dx fus/\(fus.map (·.1)).Nodup/\(∀ p∈fus,p.1∈T.fields c)/\fs.length=(T.fields c).length /\
   ∀ (i:Nat) (v:AV),fs[i]?=some (some v)->∃ f u,(T.fields c)[i]?=some f/\fus.lookup f=some u/\RV T ι H v u
def OR.mono{T:Tb}{ι ι':Ix}{H H':Hp}(g:Grow ι H ι' H'){o:AO}{u:HO}(h:OR T ι H o u):OR T ι' H' o u:=by
 cases o with
 |lst xs=>obtain⟨us,e,r⟩:=h;exact⟨us,e,r.mono g⟩
 |dct t kvs =>
  cases t with
  |false=>obtain⟨us,e,r⟩:=h;exact⟨us,e,Paired.mapP r λ_ _ ⟨a,b⟩=>⟨a,b.mono g⟩⟩
  |true=>obtain⟨us,e,r⟩:=h;exact⟨us,e,Paired.mapP r λ_ _ ⟨a,b⟩=>⟨a,b.mono g⟩⟩
 |dcx kvs=>obtain⟨ads,us,e,l,r⟩:=h;exact⟨ads,us,e,l,Paired.mapP r λ_ _ ⟨a,b,c⟩=>⟨a,b.mono g,c.mono g⟩⟩
 |dcz ob kvs=>obtain⟨us,e,r⟩:=h;exact⟨us,e,Paired.mapP r λ_ _ ⟨a,b⟩=>⟨a,b.mono g⟩⟩
 |ins c fs =>
  obtain⟨C,dx,fus,a,b,n,w,l,r⟩:=h;refine⟨C,dx,fus,a,b,n,w,l,λi v e=>?_⟩
  obtain⟨f,u,e1,e2,q⟩:=r i v e;exact⟨f,u,e1,e2,q.mono g⟩
structure Sim(T:Tb)(ι:Ix)(h:AH)(H:Hp):Prop where
 len:ι.refs.length=h.length
 nd:ι.refs.Nodup
 plive:∀ a∈ι.priv,H a≠none
 obj:∀ (i:Nat) (o:AO) (a:ZE),h[i]?=some o->ι.refs[i]?=some a->∃ u,H a=some u/\OR T ι H o u
section
variable{T:Tb}{ι:Ix}{h:AH}{H:Hp}
def Sim.live(S:Sim T ι h H):∀ a∈ι.all,H a≠none:=(λa ha z=>by
 rcases PH.mp ha with ha|ha
 ·obtain⟨i,hi⟩:=List.mem_iff_getElem?.mp ha
  have hl:i<h.length:=by rw[<- S.len];exact(OS.mp hi).1
  obtain⟨u,e,_⟩:=S.obj i h[i] a (by simp[hl]) hi;rw[z] at e;cases e
 ·exact S.plive a ha z)
def Sim.refl(S:Sim T ι h H):Grow ι H ι H:=(.refl S.live)
def Sim.at(S:Sim T ι h H){i:Nat}{o:AO}(e:h[i]?=some o):∃ a u,ι.refs[i]?=some a/\H a=some u/\OR T ι H o u:=by
 have hl:i<ι.refs.length:=by rw[S.len];exact(OS.mp e).1
 obtain⟨u,e1,r⟩:=S.obj i o ι.refs[i] e (by simp[hl]);exact⟨ι.refs[i],u,by simp[hl],e1,r⟩
def Sim.fresh(S:Sim T ι h H){p:ZE}(n:H p=none):p∉ι.all:=(λz=>S.live p z n)
def Sim.still(S:Sim T ι h H){H':Hp}(g:Grow ι H ι H')(k:∀ a∈ι.refs,H' a=H a):Sim T ι h H' :=(
 ⟨S.len,S.nd,λa ha=>g.live a (Pn _ ha),λi o a e1 e2=>by
  obtain⟨u,e,r⟩:=S.obj i o a e1 e2;exact⟨u,by rw[k a (Pm e2)];exact e,r.mono g⟩⟩)
def Sim.growNew(S:Sim T ι h H){p:ZE}{o:HO}(n:H p=none):Grow ι H ι (upd H p o) :=(
 ⟨⟨[],by simp,by simp⟩,rfl,λa u _ e=>by rw[bg (fN e n)];exact e,λa ha=>by
  rw[bg (show a≠p fromλz=>S.fresh n (z▸ha))];exact S.live a ha⟩)
def Sim.new(S:Sim T ι h H){p:ZE}{o:HO}(n:H p=none):Sim T ι h (upd H p o) :=(
 S.still (S.growNew n) λa ha=>bg λz=>S.fresh n (z▸Pk _ ha))
def Ix.add(ι:Ix)(p:ZE):Ix:=⟨ι.refs++[p],ι.priv⟩
def Sim.growAdd(S:Sim T ι h H){p:ZE}{u:HO}(n:H p=none):Grow ι H (ι.add p) (upd H p u) :=(
 ⟨⟨[p],rfl,λa ha=>by have e:a=p:=(by simpa using ha);rw[e];exact n⟩,rfl,(S.growNew n).keep,(S.growNew n).live⟩)
def Sim.add(S:Sim T ι h H){p:ZE}{u:HO}{o:AO}(n:H p=none)(r:OR T (ι.add p) (upd H p u) o u):Sim T (ι.add p) (h++[o]) (upd H p u):=by
 refine⟨by simp[Ix.add,S.len],?_,λa ha=>(S.growNew n).live a (Pn _ ha),λi o' a e1 e2=>?_⟩
 ·show (ι.refs++[p]).Nodup
  rw[Rk];exact⟨S.nd,by simp,λa ha b hb z=>by have e:b=p:=(by simpa using hb);subst e;subst z;exact S.fresh n (Pk _ ha)⟩
 ·replace e2:(ι.refs++[p])[i]?=some a:=e2
  by_cases hi:i<h.length
  ·rw[O3 hi] at e1
   rw[O3 (by rw[S.len];exact hi)] at e2;obtain⟨v,e,q⟩:=S.obj i o' a e1 e2;exact⟨v,by rw[bg (fN e n)];exact e,q.mono (S.growAdd n)⟩
  ·have e3:i=h.length:=by
    have:=(OS.mp e1).1;simp at this;lia
   subst e3;rw[Pl (OV _)] at e1;rw[Pl (by rw[S.len];exact OV _),S.len] at e2
   simp at e1 e2
   subst e1 e2
   exact⟨u,dH,r⟩
def Sim.addAt(S:Sim T ι h H){p:ZE}:(ι.add p).refs[h.length]?=some p:=by
 show (ι.refs++[p])[h.length]?=some p
 rw[<- S.len];simp
def Sim.growSet(S:Sim T ι h H){i:Nat}{a:ZE}{u:HO}(e:ι.refs[i]?=some a):Grow ι H ι (upd H a u) :=(
 ⟨⟨[],by simp,by simp⟩,rfl,λb o nb q=>by rw[bg (show b≠a fromλz=>nb (by rw[z];exact Pm e))];exact q,λb hb=>by
  by_cases z:b=a
  ·subst z;rw[dH];simp
  ·rw[bg z];exact S.live b hb⟩)
def Sim.set(S:Sim T ι h H){i:Nat}{a:ZE}{u:HO}{o:AO}(e:ι.refs[i]?=some a)(r:OR T ι (upd H a u) o u):Sim T ι (h.set i o) (upd H a u):=by
 refine⟨by simp[S.len],S.nd,λb hb=>(S.growSet e).live b (Pn _ hb),λj o' b e1 e2=>?_⟩
 by_cases hj:j=i
 ·subst hj
  rw[e] at e2;cases e2
  have hl:j<h.length:=by rw[<- S.len];exact(OS.mp e).1
  rw[OY hl] at e1;cases e1
  exact⟨u,dH,r⟩
 ·rw[OU (Ne.symm hj)] at e1
  obtain⟨v,q,r'⟩:=S.obj j o' b e1 e2;have ne:b≠a:=λz=>hj (by
   subst z;exact yZ S.nd e2 e)
  exact⟨v,by rw[bg ne];exact q,r'.mono (S.growSet e)⟩
end
def Ix.hide(ι:Ix)(D:ZE):Ix:=⟨ι.refs,D::ι.priv⟩
def Ix.hide_all{ι:Ix}{D a:ZE}:a∉(ι.hide D).all ↔ a∉ι.all/\a≠D:=by
 unfold Ix.all Ix.hide;simp only[PH,Pb]
 constructor
 ·intro h;exact⟨λz=>h (z.elim .inl λz=>.inr (.inr z)),λz=>h (.inr (.inl z))⟩
 ·rintro⟨h1,h2⟩ (z|z|z)
  ·exact h1 (.inl z)
  ·exact h2 z
  ·exact h1 (.inr z)
section
variable{T:Tb}{ι:Ix}{H:Hp}{D:ZE}
def Ext.hide{o:HO}(hn:H D=none):Ext ι H (ι.hide D) (upd H D o):=(⟨λe=>e,λa u n e=>by rw[bg (fN e hn)];exact e,λa u n e=>Ix.hide_all.mpr ⟨n,fN e hn⟩⟩)
def Ext.poke{o:HO}:Ext (ι.hide D) H (ι.hide D) (upd H D o):=(⟨λe=>e,λa u n e=>by rw[bg (Ix.hide_all.mp n).2];exact e,λa u n e=>n⟩)
def Ext.show:Ext (ι.hide D) H ι H:=(⟨λe=>e,λa u n e=>e,λa u n e=>(Ix.hide_all.mp n).1⟩)
def OR.ext{ι ι':Ix}{H H':Hp}(g:Ext ι H ι' H'){o:AO}{u:HO}(h:OR T ι H o u):OR T ι' H' o u:=by
 cases o with
 |lst xs=>obtain⟨us,e,r⟩:=h;exact⟨us,e,r.ext g⟩
 |dct t kvs =>
  cases t with
  |false=>obtain⟨us,e,r⟩:=h;exact⟨us,e,Paired.mapP r λ_ _ ⟨a,b⟩=>⟨a,b.ext g⟩⟩
  |true=>obtain⟨us,e,r⟩:=h;exact⟨us,e,Paired.mapP r λ_ _ ⟨a,b⟩=>⟨a,b.ext g⟩⟩
 |dcx kvs=>obtain⟨ads,us,e,l,r⟩:=h;exact⟨ads,us,e,l,Paired.mapP r λ_ _ ⟨a,b,c⟩=>⟨a,b.ext g,c.ext g⟩⟩
 |dcz ob kvs=>obtain⟨us,e,r⟩:=h;exact⟨us,e,Paired.mapP r λ_ _ ⟨a,b⟩=>⟨a,b.ext g⟩⟩
 |ins c fs =>
  obtain⟨C,dx,fus,a,b,n,w,l,r⟩:=h;refine⟨C,dx,fus,a,b,n,w,l,λi v e=>?_⟩
  obtain⟨f,u,e1,e2,q⟩:=r i v e;exact⟨f,u,e1,e2,q.ext g⟩
def Sim.hide{h:AH}{o:HO}(S:Sim T ι h H)(hn:H D=none):Sim T (ι.hide D) h (upd H D o) :=(
 ⟨S.len,S.nd,λa ha=>by
  rcases Pb.mp ha with rfl|ha
  ·rw[dH];simp
  ·rw[bg (show a≠D fromλz=>S.plive a ha (z▸hn))];exact S.plive a ha,λi o' a e1 e2=>by
  obtain⟨u,e,r⟩:=S.obj i o' a e1 e2;exact⟨u,by rw[bg (fN e hn)];exact e,r.ext (Ext.hide hn)⟩⟩)
def Sim.poke{h:AH}{o:HO}(S:Sim T (ι.hide D) h H)(hr:D∉ι.refs):Sim T (ι.hide D) h (upd H D o) :=(
 ⟨S.len,S.nd,λa ha=>by
  by_cases z:a=D
  ·subst z;rw[dH];simp
  ·rw[bg z];exact S.plive a ha,λi o' a e1 e2=>by
  obtain⟨u,e,r⟩:=S.obj i o' a e1 e2;have ne:a≠D:=λz=>hr (z▸Pm e2)
  exact⟨u,by rw[bg ne];exact e,r.ext Ext.poke⟩⟩)
def Sim.show{h:AH}(S:Sim T (ι.hide D) h H):Sim T ι h H :=(
 ⟨S.len,S.nd,λa ha=>S.plive a (Pt _ ha),λi o' a e1 e2=>by
  obtain⟨u,e,r⟩:=S.obj i o' a e1 e2;exact⟨u,e,r.ext Ext.show⟩⟩)
end
def ER(T:Tb)(ι:Ix)(H:Hp)(e:En)(σ:St):Prop:=e.length=σ.length/\∀ (i:Nat) (v:AV),e[i]?=some (some v)->∃ u,σ[i]?=some (some u)/\RV T ι H v u
def ER.mono{T:Tb}{ι ι':Ix}{H H':Hp}{e:En}{σ:St}(r:ER T ι H e σ)(g:Grow ι H ι' H'):ER T ι' H' e σ :=(
 ⟨r.1,λi v q=>let ⟨u,a,b⟩:=r.2 i v q;⟨u,a,b.mono g⟩⟩)
def ER.ext{T:Tb}{ι ι':Ix}{H H':Hp}{e:En}{σ:St}(r:ER T ι H e σ)(g:Ext ι H ι' H'):ER T ι' H' e σ :=(
 ⟨r.1,λi v q=>let ⟨u,a,b⟩:=r.2 i v q;⟨u,a,b.ext g⟩⟩)
def ER.set{T:Tb}{ι:Ix}{H:Hp}{e:En}{σ:St}(r:ER T ι H e σ){v:AV}{u:V}(q:RV T ι H v u)(i:Nat):ER T ι H (e.set i (some v)) (σ.set i (some u)):=by
 refine⟨by simp[r.1],λj w z=>?_⟩
 by_cases hj:j=i
 ·subst hj
  by_cases hl:j<e.length
  ·rw[OY hl] at z;cases z
   exact⟨u,by rw[OY (by rw[<- r.1];exact hl)],q⟩
  ·rw[Qg (by simpa using hl)] at z;cases z
 ·rw[OU (Ne.symm hj)] at z ⊢
  exact r.2 j w z
def ER.unset{T:Tb}{ι:Ix}{H:Hp}{e:En}{σ:St}(r:ER T ι H e σ)(i:Nat):ER T ι H (e.set i none) (σ.set i none):=by
 refine⟨by simp[r.1],λj w z=>?_⟩
 by_cases hj:j=i
 ·subst hj
  by_cases hl:j<e.length
  ·rw[OY hl] at z;cases z
  ·rw[Qg (by simpa using hl)] at z;cases z
 ·rw[OU (Ne.symm hj)] at z ⊢
  exact r.2 j w z
def Post{α β:Type}(T:Tb)(ι:Ix)(H:Hp)(E:XK)(R:Ix->Hp->α->β->Prop)(o:Out α)(Q:β->Hp->Prop):Prop :=
 match o with
 |.ok v h'=>∀ ι' H' u,Grow ι H ι' H'->Sim T ι' h' H'->R ι' H' v u->Q u H'
 |.ex c h'=>∀ ι' H' C,Grow ι H ι' H'->Sim T ι' h' H'->uF T ι' H' c C->E (.ref C.1) C.2 H'
 |.bad=>False
def PostS(T:Tb)(ι:Ix)(H:Hp)(E:St->XK)(o:OutS)(D:cR):Prop :=
 match o with
 |.nx e h'=>∀ ι' H' σ',Grow ι H ι' H'->Sim T ι' h' H'->ER T ι' H' e σ'->D.nx σ' H'
 |.bk e h'=>∀ ι' H' σ',Grow ι H ι' H'->Sim T ι' h' H'->ER T ι' H' e σ'->D.bk σ' H'
 |.ct e h'=>∀ ι' H' σ',Grow ι H ι' H'->Sim T ι' h' H'->ER T ι' H' e σ'->D.ct σ' H'
 |.rt v h'=>∀ ι' H' u,Grow ι H ι' H'->Sim T ι' h' H'->RV T ι' H' v u->D.rt u H'
 |.ex c e h'=>∀ ι' H' σ' C,Grow ι H ι' H'->Sim T ι' h' H'->ER T ι' H' e σ'->uF T ι' H' c C->E σ' (.ref C.1) C.2 H'
 |.bad=>False
abbrev Ir{α:Type}:Ix->Hp->α->α->Prop:=λ_ _ a b=>a=b
section
variable{T:Tb}{ι ι':Ix}{h:AH}{H H':Hp}{α β γ δ:Type}{E:XK}{R:Ix->Hp->α->β->Prop}{R':Ix->Hp->γ->δ->Prop}
def Post.shift{o:Out α}{Q:β->Hp->Prop}(p:Post T ι H E R o Q)(g:Grow ι H ι' H'):Post T ι' H' E R o Q:=by
 cases o with
 |ok v h'=>exactλi2 H2 u g2=>p i2 H2 u (g.trans g2)
 |ex c h'=>exactλi2 H2 C g2=>p i2 H2 C (g.trans g2)
 |bad=>exact p
def Post.bind{o:Out α}{f:α->AH->Out γ}{Q:δ->Hp->Prop}{Q1:β->Hp->Prop}(p:Post T ι H E R' (o.bind f) Q)
  (k:∀ v h' ι' H' u,Grow ι H ι' H'->Sim T ι' h' H'->R ι' H' v u->Post T ι' H' E R' (f v h') Q->Q1 u H'):Post T ι H E R o Q1:=by
 cases o with
 |ok v h'=>exactλi2 H2 u g S r=>k v h' i2 H2 u g S r (Post.shift p g)
 |ex c h'=>exact p
 |bad=>exact p
def Post.now{v:α}{u:β}{Q:β->Hp->Prop}(p:Post T ι H E R (.ok v h) Q)(S:Sim T ι h H)(r:R ι H v u):Q u H:=(p ι H u S.refl S r)
def PostS.shift{E:St->XK}{o:OutS}{D:cR}(p:PostS T ι H E o D)(g:Grow ι H ι' H'):PostS T ι' H' E o D:=by
 cases o with
 |nx e h'=>exactλi2 H2 u g2=>p i2 H2 u (g.trans g2)
 |bk e h'=>exactλi2 H2 u g2=>p i2 H2 u (g.trans g2)
 |ct e h'=>exactλi2 H2 u g2=>p i2 H2 u (g.trans g2)
 |rt v h'=>exactλi2 H2 u g2=>p i2 H2 u (g.trans g2)
 |ex c e h'=>exactλi2 H2 u C g2=>p i2 H2 u C (g.trans g2)
 |bad=>exact p
def PostS.go{E:St->XK}{o:Out α}{en:En}{σ:St}{f:α->AH->OutS}{D:cR}{Q1:β->Hp->Prop}(p:PostS T ι H E (o.go en f) D)(er:ER T ι H en σ)
  (k:∀ v h' ι' H' u,Grow ι H ι' H'->Sim T ι' h' H'->R ι' H' v u->PostS T ι' H' E (f v h') D->Q1 u H'):Post T ι H (E σ) R o Q1:=by
 cases o with
 |ok v h'=>exactλi2 H2 u g S r=>k v h' i2 H2 u g S r (PostS.shift p g)
 |ex c h'=>exactλi2 H2 C g S e=>p i2 H2 σ C g S (er.mono g) e
 |bad=>exact p
end
def tE(T:Tb)(E:St->XK)(a:SE):TE:=λσ H Q=>∃ ι h en,Sim T ι h H/\ER T ι H en σ/\Post T ι H (E σ) (RV T) (a en h) Q
def tT(T:Tb)(E:St->XK)(a:SB):TT:=λσ H Q=>∃ ι h en,Sim T ι h H/\ER T ι H en σ/\Post T ι H (E σ) Ir (a en h) Q
def tA(T:Tb)(E:St->XK)(a:SL):TA:=λσ H Q=>∃ ι h en,Sim T ι h H/\ER T ι H en σ/\Post T ι H (E σ) (RVs T) (a en h) Q
def tS(T:Tb)(E:St->XK)(b:SS):TS:=λD σ H=>∃ ι h en,Sim T ι h H/\ER T ι H en σ/\PostS T ι H E (b en h) D
abbrev aD(T:Tb)(E:St->XK)(X:Cx)(e:Expr)(a:SE):Prop:=PE X e (tE T E a)
abbrev hX(T:Tb)(E:St->XK)(X:Cx)(e:Expr)(a:SB):Prop:=PT X e (tT T E a)
abbrev lB(T:Tb)(E:St->XK)(X:Cx)(e:Expr)(a:SB):Prop:=PW X e (tT T E a)
abbrev fQ(T:Tb)(E:St->XK)(X:Cx)(es:YD)(a:SL):Prop:=PA X es (tA T E a)
abbrev gz(T:Tb)(E:St->XK)(X:Cx)(st:Stmt)(b:SS):Prop:=PS X st (tS T E b)
abbrev cI(T:Tb)(E:St->XK)(X:Cx)(sts:List Stmt)(b:SS):Prop:=PSs X sts (tS T E b)
def bO{X:Cx}{e:Expr}{t t':TE}(h:PE X e t)(k:∀ σ H Q,t' σ H Q->t σ H Q):PE X e t':=(λpins s σ H Q I q=>h pins s σ H Q I (k σ H Q q))
def oq{X:Cx}{e:Expr}{t t':TT}(h:PT X e t)(k:∀ σ H Q,t' σ H Q->t σ H Q):PT X e t':=(λpins s σ H Q I q=>h pins s σ H Q I (k σ H Q q))
def y8{X:Cx}{e:Expr}{t t':TT}(h:PW X e t)(k:∀ σ H Q,t' σ H Q->t σ H Q):PW X e t':=(λw pins s σ H Q I q=>h w pins s σ H Q I (k σ H Q q))
def y9{X:Cx}{e:YD}{t t':TA}(h:PA X e t)(k:∀ σ H Q,t' σ H Q->t σ H Q):PA X e t':=(λp pins s σ H Q I q=>h p pins s σ H Q I (k σ H Q q))
def hZ{X:Cx}{e:Stmt}{t t':TS}(h:PS X e t)(k:∀ D σ H,t' D σ H->t D σ H):PS X e t':=(λpins s σ H D I q=>h pins s σ H D I (k D σ H q))
def za{X:Cx}{e:List Stmt}{t t':TS}(h:PSs X e t)(k:∀ D σ H,t' D σ H->t D σ H):PSs X e t':=(λpins s σ H D I q=>h pins s σ H D I (k D σ H q))
def Iu{X:Cx}{st:Stmt}{t:TS}(h:PS X.nox st t):PS X st t:=(λpins s σ H D I hw=>by
 refine PC (h pins s σ H D (I.wish _) hw) (λf s' q=>SP.unwish q) λ_ _ z=>z.elim)
instance:DecidableEq AV:=λ_ _=>Classical.propDecidable _
@[simp] def aa(i:Nat):SE:=λen h=>match en[i]? with
 |some (some v)=>.ok v h
 |_=>.bad
@[simp] def ae(v:AV):SE:=λ_ h=>.ok v h
abbrev F1:=AV->AH->Out AV
abbrev F2:=AV->AV->AH->Out AV
@[simp] def dJ(f:F1)(a:SE):SE:=λen h=>(a en h).bind f
@[simp] def ag(f:F2)(a b:SE):SE:=λen h=>(a en h).bind λx h1=>(b en h1).bind λy h2=>f x y h2
@[simp] def af:SL:=λ_ h=>.ok [] h
@[simp] def ah(a:SE)(r:SL):SL:=λen h=>(a en h).bind λx h1=>(r en h1).bind λxs h2=>.ok (x::xs) h2
@[simp] def au(F:Fn)(as:SL):SE:=λen h=>(as en h).bind F
@[simp] def aN(as:SL):SE:=λen h=>(as en h).bind λxs h1=>if xs.length<=1000 then .ok (.tup xs) h1 else .bad
@[simp] def aJ(as:SL):SE:=λen h=>(as en h).bind λxs h1=>if xs.length<=1000 then .ok (.fl xs) h1 else .bad
@[simp] def fW(as:SL):SE:=λen h=>(as en h).bind λxs h1=>if xs.length<=1000 then .ok (.ref h1.length) (h1++[.lst xs]) else .bad
@[simp] def lC(t:Bool):SE:=λ_ h=>.ok (.ref h.length) (h++[.dct t []])
@[simp] def OO(v:AV)(h:AH):Option YF:=match v with
 |.tup xs=>some xs
 |.fl xs=>some xs
 |.ref n=>match h[n]? with
  |some (.lst xs)=>some xs
  |_=>none
 |_=>none
@[simp] def dC(v:AV)(h:AH):Option YF:=match v with
 |.fl xs=>some xs
 |.ref n=>match h[n]? with
  |some (.lst xs)=>some xs
  |_=>none
 |_=>none
@[simp] def az:F2:=λx y h=>match x,y with
 |.int i,.int j=>.ok (.int (i+j)) h
 |.str i,.str j=>if i.length+j.length<=sizeLine then .ok (.str (i++j)) h else .bad
 |.tup xs,.tup ys=>if xs≠[]/\xs.length+ys.length<=sizeLine then .ok (.tup (xs++ys)) h else .bad
 |x,y=>match dC x h,dC y h with
  |some xs,some ys=>if xs.length+ys.length<=sizeLine then .ok (.fl (xs++ys)) h else .bad
  |_,_=>.bad
@[simp] def bM:F2:=λx y h=>match x,y with
 |.int i,.int j=>.ok (.int (i-j)) h
 |_,_=>.bad
@[simp] def bj:F2:=λx y h=>match x,y with
 |.int i,.int j=>if (i.natAbs<2 ^ 64\/j.natAbs<2 ^ 64)\/(i.natAbs<2 ^ 4000/\j.natAbs<2 ^ 4000) then .ok (.int (i*j)) h else .bad
 |_,_=>.bad
@[simp] def cJ:F2:=λx y h=>match x,y with
 |.int i,.int j=>if 0<j/\j.natAbs<2 ^ 200 then .ok (.int (i / j)) h else .bad
 |_,_=>.bad
@[simp] def bG:F2:=λx y h=>match x,y with
 |.int i,.int j=>if 0<j then .ok (.int (i % j)) h else .bad
 |_,_=>.bad
@[simp] def bY:F2:=λx y h=>match x,y with
 |.int i,.int j=>if 0<=j/\j<=1000000/\i.natAbs<2 ^ 64 then .ok (.int (i ^ j.toNat)) h else .bad
 |_,_=>.bad
@[simp] def bH:F1:=λx h=>match x with
 |.int i=>.ok (.int (-i)) h
 |_=>.bad
def bq(f:AV->Option PyData):YF->Option (List PyData)
 |[]=>some []
 |x::xs=>match f x,bq f xs with
  |some d,some ds=>some (d::ds)
  |_,_=>none
def bf:Nat->AH->AV->Option PyData
 |0,_,v=>match v with
  |.non=>some .none
  |.bl b=>some (.bool b)
  |.int i=>some (.int i)
  |.str x=>some (.str x)
  |_=>none
 |n+1,h,v=>match v with
  |.non=>some .none
  |.bl b=>some (.bool b)
  |.int i=>some (.int i)
  |.str x=>some (.str x)
  |.tup xs=>(bq (bf n h) xs).map .tuple
  |.fl xs=>(bq (bf n h) xs).map .list
  |.ref k=>match h[k]? with
   |some (.lst xs)=>(bq (bf n h) xs).map .list
   |_=>none
  |.exc _=>none
@[simp] def fi(x y:AV)(h:AH):Option Bool:=match x,y with
 |.int i,.int j=>some (decide (i=j))
 |.str i,.str j=>some (decide (i=j))
 |.bl i,.bl j=>some (decide (i=j))
 |.non,.non=>some true
 |x,y=>match bf 8 h x,bf 8 h y with
  |some d,some e=>some (PyData.eqv d e)
  |_,_=>none
@[simp] def ay:F2:=λx y h=>match fi x y h with
 |some b=>.ok (.bl b) h
 |none=>.bad
@[simp] def eF:F2:=λx y h=>match fi x y h with
 |some b=>.ok (.bl (!b)) h
 |none=>.bad
@[simp] def cP:F2:=λx y h=>match x,y with
 |.int i,.int j=>.ok (.bl (decide (i<j))) h
 |.str i,.str j=>.ok (.bl (decide (i.cps.toList<j.cps.toList))) h
 |_,_=>.bad
@[simp] def bc:F2:=λx y h=>match x,y with
 |.int i,.int j=>.ok (.bl (decide (i<=j))) h
 |.str i,.str j=>.ok (.bl (!decide (j.cps.toList<i.cps.toList))) h
 |_,_=>.bad
@[simp] def fy:F2:=λx y h=>match x,y with
 |.int i,.int j=>.ok (.bl (decide (j<i))) h
 |_,_=>.bad
@[simp] def kj:F2:=λx y h=>match x,y with
 |.int i,.int j=>.ok (.bl (decide (j<=i))) h
 |_,_=>.bad
@[simp] def jw:F2:=λx y h=>match y with
 |.non=>.ok (.bl (decide (x=.non))) h
 |_=>.bad
@[simp] def jx(v:AV)(h:AH):Option Bool:=match v with
 |.non=>some false
 |.bl b=>some b
 |.int i=>some (i != 0)
 |.str y=>some ((y.length:Int) != 0)
 |.tup xs=>some (!xs.isEmpty)
 |.fl xs=>some (!xs.isEmpty)
 |.ref n=>match h[n]? with
  |some (.lst xs)=>some (!xs.isEmpty)
  |some (.dct false kvs)=>some (!kvs.isEmpty)
  |_=>none
 |_=>none
@[simp] def iz(a:SE):SB:=λen h=>(a en h).bind λv h1=>match jx v h1 with
 |some b=>.ok b h1
 |none=>.bad
@[simp] def aE(a:SE):SB:=λen h=>(a en h).bind λv h1=>match v with
 |.bl b=>.ok b h1
 |_=>.bad
@[simp] def iA(a b:SB):SB:=λen h=>(a en h).bind λx h1=>if x=true then b en h1 else .ok false h1
@[simp] def ot(a b:SB):SB:=λen h=>(a en h).bind λx h1=>if x=true then .ok true h1 else b en h1
@[simp] def c9(a:SB):SB:=λen h=>(a en h).bind λx h1=>.ok (!x) h1
@[simp] def kq(a b:SE):SE:=λen h=>(a en h).bind λv h1=>match v with
 |.bl k=>if k=true then b en h1 else .ok (.bl false) h1
 |_=>.bad
@[simp] def fz(a b:SE):SE:=λen h=>(a en h).bind λv h1=>match v with
 |.bl k=>if k=true then .ok (.bl true) h1 else b en h1
 |_=>.bad
@[simp] def jy(a:SE):SE:=λen h=>(a en h).bind λv h1=>match v with
 |.bl b=>.ok (.bl (!b)) h1
 |_=>.bad
@[simp] def fk(f f':F2)(a b c:SE):SE:=λen h=>(a en h).bind λx h1=>(b en h1).bind λy h2=>(f x y h2).bind λz h3=>match z with
 |.bl k=>if k=true then(c en h3).bind λw h4=>f' y w h4 else .ok (.bl false) h3
 |_=>.bad
@[simp] def aH:SS:=λen h=>.nx en h
@[simp] def ai(a b:SS):SS:=λen h=>match a en h with
 |.nx e h'=>b e h'
 |o=>o
@[simp] def bh(a:SE):SS:=λen h=>(a en h).go en λ_ h'=>.nx en h'
@[simp] def ao(a:SE):SS:=λen h=>(a en h).go en λv h'=>.rt v h'
@[simp] def aG(c:SB)(a b:SS):SS:=λen h=>(c en h).go en λx h'=>if x=true then a en h' else b en h'
@[simp] def ar(i:Nat)(a:SE):SS:=λen h=>(a en h).go en λv h'=>.nx (en.set i (some v)) h'
abbrev SI:=En->AH->Out (List AV×Option Nat)
@[simp] def gA(w:Option Nat)(xs:YF)(h:AH):Bool:=match w with
 |none=>true
 |some n=>match h[n]? with
  |some (.lst ys)=>decide (ys=xs)
  |_=>false
inductive Tg where
 |nm (i:Nat)
 |tup (is:List Nat)
 |nst (i:Nat) (is:List Nat)
@[simp] def qA:List Nat->YF->En->Option En
 |[],[],en=>some en
 |i::is,x::xs,en=>qA is xs (en.set i (some x))
 |_,_,_=>none
@[simp] def fA(t:Tg)(v:AV)(en:En):Option En:=match t,v with
 |.nm i,v=>some (en.set i (some v))
 |.tup is,.tup xs=>qA is xs en
 |.nst i is,.tup [y,.tup xs]=>qA is xs (en.set i (some y))
 |_,_=>none
def gP(w:Option Nat)(all:YF)(t:Tg)(b:SS):YF->SS
 |[]=>λen h=>if gA w all h=true then .nx en h else .bad
 |x::xs=>λen h=>if gA w all h=true then
   (match fA t x en with
   |some e1=>(match b e1 h with
    |.nx e2 h2=>gP w all t b xs e2 h2
    |.ct e2 h2=>gP w all t b xs e2 h2
    |.bk e2 h2=>.nx e2 h2
    |.rt v h2=>.rt v h2
    |_=>.bad)
   |none=>.bad) else .bad
@[simp] def df(it:SI)(t:Tg)(b:SS):SS:=λen h=>match it en h with
 |.ok (xs,w) h1=>gP w xs t b xs en h1
 |_=>.bad
@[simp] def uG(t:Tg)(a:SE):SS:=λen h=>(a en h).go en λv h'=>match fA t v en with
 |some e=>.nx e h'
 |none=>.bad
@[simp] def dM(a:SE):SI:=λen h=>(a en h).bind λv h1=>match v with
 |.fl xs=>.ok (xs,none) h1
 |.tup xs=>.ok (xs,none) h1
 |.str z=>.ok (z.cps.toList.map (λc=>.str ⟨#[c]⟩),none) h1
 |.ref n=>match h1[n]? with
  |some (.lst xs)=>.ok (xs,some n) h1
  |_=>.bad
 |_=>.bad
def dR(lo:Int):Nat->YF
 |0=>[]
 |n+1=>.int lo::dR (lo+1) n
@[simp] def iZ(a:SE):SI:=λen h=>(a en h).bind λv h1=>match v with
 |.int j=>if j.natAbs<2 ^ 62 then .ok (dR 0 j.toNat,none) h1 else .bad
 |_=>.bad
def numbered(k:Nat):YF->YF
 |[]=>[]
 |x::xs=>.tup [.int k,x]::numbered (k+1) xs
@[simp] def iEnum(a:SE):SI:=λen h=>(a en h).bind λv h1=>match v with
 |.fl xs=>.ok (numbered 0 xs,none) h1
 |_=>.bad
def dN(js:List Nat)(en:En)(w:Option Nat)(all:YF)(c:SB)(e:SE):YF->YF->AH->Out YF
 |[],ys,h=>if gA w all h=true then .ok ys h else .bad
 |x::xs,ys,h=>if gA w all h=true/\ys.length<sizeLine then
   (match c (some x::js.map λj=>(en[j]?).join) h with
   |.ok true h1=>(match e (some x::js.map λj=>(en[j]?).join) h1 with
    |.ok v h2=>dN js en w all c e xs (ys++[v]) h2
    |_=>.bad)
   |.ok false h1=>dN js en w all c e xs ys h1
   |_=>.bad) else .bad
def gQ(js:List Nat)(en:En)(L:AH->Bool)(c:SB)(e:SE):YF->YF->AH->Out YF
 |[],ys,h=>if L h=true then .ok ys h else .bad
 |x::xs,ys,h=>if L h=true/\ys.length<sizeLine then
   (match c (some x::js.map λj=>(en[j]?).join) h with
   |.ok true h1=>(match e (some x::js.map λj=>(en[j]?).join) h1 with
    |.ok v h2=>gQ js en L c e xs (ys++[v]) h2
    |_=>.bad)
   |.ok false h1=>gQ js en L c e xs ys h1
   |_=>.bad) else .bad
theorem ou{js:List Nat}{en:En}{w:Option Nat}{all:YF}{c:SB}{e:SE}:∀ (xs ys:YF) (h:AH),dN js en w all c e xs ys h=gQ js en (gA w all) c e xs ys h
 |[],ys,h=>by unfold dN gQ;rfl
 |x::xs,ys,h=>by
  unfold dN gQ;simp only[ou xs]
@[simp] def aY:SB:=λ_ h=>.ok true h
@[simp] def dW(js:List Nat)(it:SI)(c:SB)(e:SE):SE:=λen h=>match it en h with
 |.ok (xs,w) h1=>(match dN js en w xs c e xs [] h1 with
  |.ok ys h2=>.ok (.fl ys) h2
  |_=>.bad)
 |_=>.bad
@[simp] def aw(n m:Nat)(b:SS):Fn:=λargs h =>
 if args.length=n then
  match b (args.map some++List.replicate (m-n) none) h with
  |.nx _ h'=>.ok .non h'
  |.rt v h'=>.ok v h'
  |.ex c _ h'=>.ex c h'
  |_=>.bad
 else .bad
@[simp] def aB(c:Nat)(F:Fn)(o:SE)(as:SL):SE:=λen h=>(o en h).bind λx h1=>match x with
 |.ref n=>match h1[n]? with
  |some (.ins c' _)=>if c'=c then(as en h1).bind λxs h2=>F (x::xs) h2 else .bad
  |_=>.bad
 |_=>.bad
@[simp] def mS(c k:Nat)(F:Fn)(as:SL):SE:=λen h=>(as en h).bind λxs h1=>match F (.ref h1.length::xs) (h1++[.ins c (List.replicate k none)]) with
 |.ok .non h2=>.ok (.ref h1.length) h2
 |.ex c h2=>.ex c h2
 |_=>.bad
@[simp] def sFld(c i:Nat)(o:SE):SE:=λen h=>(o en h).bind λx h1=>match x with
 |.ref n=>match h1[n]? with
  |some (.ins c' fs)=>if c'=c then(match fs[i]? with|some (some v)=>.ok v h1|_=>.bad) else .bad
  |_=>.bad
 |_=>.bad
@[simp] def gR(c i:Nat)(o v:SE):SS:=λen h=>(v en h).go en λy h1=>(o en h1).go en λx h2=>match x with
 |.ref n=>match h2[n]? with
  |some (.ins c' fs)=>if c'=c then .nx en (h2.set n (.ins c (fs.set i (some y)))) else .bad
  |_=>.bad
 |_=>.bad
@[simp] def gT(c:Nat)(as:SL):SS:=λen h=>(as en h).go en λxs h1=>if xs.length<=1000 then .ex c en h1 else .bad
@[simp] def keyOf? (v:AV):Option aF:=match v with
 |.int i=>some (.inl i)
 |.str x=>some (.inr x)
 |_=>none
@[simp] def keysOf?:YF->Option (List aF)
 |[]=>some []
 |v::r=>match keyOf? v,keysOf? r with
  |some k,some ks=>some (k::ks)
  |_,_=>none
@[simp] def dX(t:Bool)(v:AV):Bool:=match t,v with
 |false,v=>(keyOf? v).isSome
 |true,.tup xs=>(keysOf? xs).isSome
 |true,_=>false
def aT(kvs:List (AV×AV))(k:AV):Option AV:=(kvs.find? λp=>decide (p.1=k)).map (·.2)
def eI(kvs:List (AV×AV))(k v:AV):List (AV×AV) :=
 if kvs.any (λp=>decide (p.1=k)) then kvs.map λp=>if p.1=k then(p.1,v) else p else kvs++[(k,v)]
@[simp] def aj:F2:=λx y h=>match x,y with
 |.str z,.int i=>match atI z.cps.toList i with
  |some c=>.ok (.str ⟨#[c]⟩) h
  |none=>.bad
 |.tup xs,.int i=>match atI xs i with
  |some v=>.ok v h
  |none=>.bad
 |.fl xs,.int i=>match atI xs i with
  |some v=>.ok v h
  |none=>.bad
 |.ref n,y=>match h[n]? with
  |some (.lst xs)=>match y with
   |.int i=>match atI xs i with
    |some v=>.ok v h
    |none=>.bad
   |_=>.bad
  |some (.dct t kvs)=>if dX t y then(match aT kvs y with|some v=>.ok v h|none=>.bad) else .bad
  |_=>.bad
 |_,_=>.bad
@[simp] def fX(o i v:SE):SS:=λen h=>(v en h).go en λz h1=>(o en h1).go en λx h2=>(i en h2).go en λy h3=>match x with
 |.ref n=>match h3[n]? with
  |some (.lst xs)=>match y with
   |.int k=>match gv xs.length k with
    |some j=>.nx en (h3.set n (.lst (xs.set j z)))
    |none=>.bad
   |_=>.bad
  |some (.dct t kvs)=>if dX t y=true/\kvs.length<sizeLine then .nx en (h3.set n (.dct t (eI kvs y z))) else .bad
  |_=>.bad
 |_=>.bad
@[simp] def kr(x y:AV)(h:AH):Option Bool:=match x,y with
 |.str i,.str j=>some (!(Builtin.Str.occurrences j i 0 j.length 1).isEmpty)
 |x,.ref n=>match h[n]? with
  |some (.dct t kvs)=>if dX t x then some (aT kvs x).isSome else none
  |some (.lst xs)=>match bf 8 h x,bq (bf 8 h) xs with
   |some d,some ds=>some (ds.any λe=>PyData.eqv e d)
   |_,_=>none
  |_=>none
 |x,.fl xs=>match bf 8 h x,bq (bf 8 h) xs with
  |some d,some ds=>some (ds.any λe=>PyData.eqv e d)
  |_,_=>none
 |x,.tup xs=>match bf 8 h x,bq (bf 8 h) xs with
  |some d,some ds=>some (ds.any λe=>PyData.eqv e d)
  |_,_=>none
 |_,_=>none
@[simp] def qB:F2:=λx y h=>match kr x y h with
 |some b=>.ok (.bl b) h
 |none=>.bad
@[simp] def cU:F2:=λx y h=>match kr x y h with
 |some b=>.ok (.bl (!b)) h
 |none=>.bad
@[simp] def aI:Fn:=λargs h=>match args with
 |[.str x]=>.ok (.int x.length) h
 |[.tup xs]=>.ok (.int xs.length) h
 |[.fl xs]=>.ok (.int xs.length) h
 |[.ref n]=>match h[n]? with
  |some (.lst xs)=>.ok (.int xs.length) h
  |some (.dct false kvs)=>.ok (.int kvs.length) h
  |_=>.bad
 |_=>.bad
@[simp] def lD:Fn:=λargs h=>match args with
 |[.int i]=>.ok (.int (if i<0 then -i else i)) h
 |_=>.bad
@[simp] def fB:Fn:=λargs h=>match args with
 |[.int i,.int j]=>.ok (.int (if j > i then j else i)) h
 |_=>.bad
@[simp] def mT:Fn:=λargs h=>match args with
 |[.int i,.int j]=>.ok (.int (if j<i then j else i)) h
 |_=>.bad
@[simp] def lE:YF->Option (List Bool)
 |[]=>some []
 |.bl b::r=>(lE r).map (b :: ·)
 |_::_=>none
@[simp] def eJ:Fn:=λargs h=>match args with
 |[.fl xs]=>match lE xs with
  |some bs=>.ok (.bl (bs.all id)) h
  |none=>.bad
 |_=>.bad
@[simp] def bp:Fn:=λargs h=>match args with
 |[.int i]=>.ok (.int i) h
 |[.bl k]=>.ok (.int (if k then 1 else 0)) h
 |_=>.bad
@[simp] def h9(v:AV)(h:AH):Option String:=match v with
 |.non=>some "NoneType"
 |.bl _=>some "bool"
 |.int _=>some "int"
 |.str _=>some "str"
 |.tup _=>some "tuple"
 |.fl _=>some "list"
 |.ref n=>match h[n]? with
  |some (.lst _)=>some "list"
  |some (.dct _ _)=>some "dict"
  |_=>none
 |.exc _=>none
@[simp] def fC(t:String)(a:SE):SE:=λen h=>(a en h).bind λv h1=>match h9 v h1 with
 |some n=>.ok (.bl (n == t || (t == "int" && n == "bool"))) h1
 |none=>.bad
@[simp] def jz(p:Nat->Bool)(a:SE):SE:=λen h=>(a en h).bind λv h1=>match v with
 |.exc c=>.ok (.bl (p c)) h1
 |_=>.bad
abbrev FM:=AV->YF->AH->Out AV
@[simp] def aW(v:AV)(h:AH):Bool:=(dC v h).isSome
@[simp] def lF(v:AV)(_:AH):Bool:=match v with
 |.str _=>true
 |_=>false
@[simp] def cW(chk:AV->AH->Bool)(f:FM)(o:SE)(as:SL):SE:=λen h=>(o en h).bind λx h1=>if chk x h1=true then(as en h1).bind λxs h2=>f x xs h2 else .bad
@[simp] def dY(chk:AV->AH->Bool)(f:FM)(o:SE):SE:=λen h=>(o en h).bind λx h1=>if chk x h1=true then f x [] h1 else .bad
@[simp] def bP:FM:=λx vs h=>match x,vs with
 |.ref n,[y]=>match h[n]? with
  |some (.lst xs)=>if xs.length<sizeLine then .ok .non (h.set n (.lst (xs++[y]))) else .bad
  |_=>.bad
 |_,_=>.bad
@[simp] def bI:FM:=λx vs h=>match x,vs with
 |.ref n,[]=>match h[n]? with
  |some (.lst xs)=>match xs[xs.length-1]? with
   |some y=>.ok y (h.set n (.lst xs.dropLast))
   |none=>.bad
  |_=>.bad
 |_,_=>.bad
def zc(d:PyData):List PyData->Nat->Option Nat
 |[],_=>none
 |e::r,k=>if PyData.eqv e d=true then some k else zc d r (k+1)
@[simp] def OP:FM:=λx vs h=>match vs with
 |[y]=>match dC x h with
  |some xs=>match bf 8 h y,bq (bf 8 h) xs with
   |some d,some ds=>match zc d ds 0 with
    |some k=>.ok (.int k) h
    |none=>.bad
   |_,_=>.bad
  |none=>.bad
 |_=>.bad
@[simp] def uH:FM:=λx vs h=>match x,vs with
 |.str z,[.str y]=>.ok (.int ((Builtin.Str.occurrences z y 0 z.length (z.length+1)).length:Nat)) h
 |_,_=>.bad
@[simp] def ow:YF->Option (List Str)
 |[]=>some []
 |.str x::r=>(ow r).map (x :: ·)
 |_::_=>none
@[simp] def mU:FM:=λx vs h=>match x,vs with
 |.str z,[y]=>if z=Str.empty then(match dC y h with
  |some xs=>match ow xs with
   |some zs=>if ((zs.map λx:Str=>x.cps.toList).flatten).length<=1000000 then .ok (.str ⟨((zs.map λx:Str=>x.cps.toList).flatten).toArray⟩) h else .bad
   |none=>.bad
  |none=>.bad) else .bad
 |_,_=>.bad
def dZ{α:Type}(xs:List α)(lo hi:Option Int):List α:=(xs.drop (HT.sIx xs.length 0 lo)).take (HT.sIx xs.length xs.length hi-HT.sIx xs.length 0 lo)
structure CA(T:Tb)(E:St->XK)(X:Cx):Prop where
 hK:X.K=T.K
 pass:lA (cO X.prog X.w) X E
abbrev EN:St->XK:=λ_=>E0
def CA.nox{T:Tb}{E:St->XK}{X:Cx}(c:CA T E X):CA T EN X.nox:=(⟨c.hK,λ_ _ _ _ _ _ _ h=>by
 obtain⟨_,_,_,_,_,_,_,_,_,_,_,_,_,_,_,_,q⟩:=h;exact q.elim⟩)
def CA.never{T:Tb}{X:Cx}(hK:X.K=T.K):CA T EN X:=(⟨hK,λ_ _ _ _ _ _ _ h=>by
 obtain⟨_,_,_,_,_,_,_,_,_,_,_,_,_,_,_,_,q⟩:=h;exact q.elim⟩)
section
variable{T:Tb}{ι:Ix}{h:AH}{H:Hp}
def fR{x:AV}{u:V}{xs:YF}(S:Sim T ι h H)(r:RV T ι H x u)(e:dC x h=some xs):∃ a us,u=.ref a/\SqL T.K H a us/\RVs T ι H xs us:=by
 unfold dC at e
 cases r with
 |fl n q r=>cases e;exact⟨_,_,rfl,.inl q,r⟩
 |kfl q r=>cases e;exact⟨_,_,rfl,.inr q,r⟩
 |@ref k a q =>
  dsimp only at e;split at e
  ·rename_i ys hk
   cases e
   obtain⟨u,e1,us,rfl,r⟩:=S.obj k _ a hk q;exact⟨a,us,rfl,.inl (.inl e1),r⟩
  ·cases e
 |_=>cases e
def lG{u:V}{xs:YF}(r:RV T ι H (.tup xs) u):∃ a us,u=.ref a/\SqT T.K H a us/\RVs T ι H xs us:=by
 cases r with
 |tup n q r=>exact⟨_,_,rfl,.of q,r⟩
def dS{u:V}{x:Str}(r:RV T ι H (.str x) u):u=.str x/\x.length<=sizeLine/\x.cps.all (· < 0x110000)=true:=by
 cases r with
 |str n o=>exact⟨rfl,n,o⟩
def bE{u:V}{i:Int}(r:RV T ι H (.int i) u):u=.int i:=by cases r;rfl
def fS{u:V}{i:Bool}(r:RV T ι H (.bl i) u):u=.bl i:=by cases r;rfl
def qC{u:V}(r:RV T ι H .non u):u=.non:=by cases r;rfl
def qD{us:YE}{xs:YF}{p:ZE}{E:XK}{Q:VK}(S:Sim T ι h H)(r:RVs T ι H xs us)(n:H p=none)(q:Post T ι H E (RV T) (.ok (.fl xs) h) Q):Q (.ref p) (upd H p (.lst us)) :=(
 q ι _ _ (S.growNew n) (S.new n) (.fl (S.fresh n) (.inl dH) (r.mono (S.growNew n))))
def uI{us:YE}{xs:YF}{p:ZE}{E:XK}{Q:VK}(S:Sim T ι h H)(r:RVs T ι H xs us)(n:H p=none)(q:Post T ι H E (RV T) (.ok (.tup xs) h) Q):Q (.ref p) (upd H p (.tup us)) :=(
 q ι _ _ (S.growNew n) (S.new n) (.tup (S.fresh n) dH (r.mono (S.growNew n))))
def Iv{us:YE}{xs:YF}{p:ZE}{E:XK}{Q:VK}(S:Sim T ι h H)(r:RVs T ι H xs us)(n:H p=none)(q:Post T ι H E (RV T) (.ok (.ref h.length) (h++[.lst xs])) Q):Q (.ref p) (upd H p (.lst us)) :=(
 q _ _ _ (S.growAdd n) (S.add n ⟨us,rfl,r.mono (S.growAdd n)⟩) (.ref S.addAt))
end
section
variable{T:Tb}{E:St->XK}{X:Cx}{pos:Pos}
def aq (i:Nat) {x:Str} {p:Pos} (hN:‹X.N[i]?=some x›) (hv:autoParam (nS X.env.scope x) L2.pv._auto_1) (hd:((x == ("__debug__" : Str))=false)⁻¹)
  (hcd:((x == ("__classdict__" : Str))=false)⁻¹):aD T E X (.Name x p) (aa i) :=(
 bO (pv i hN hv hd hcd) λσ H Q=>E6x λι h en S er q=>by
  unfold aa at q;split at q
  ·rename_i v hv
   obtain⟨u,e,r⟩:=er.2 i v hv;exact⟨u,e,q.now S r⟩
  ·exact q.elim)
def aO{i j p}:aD T E X (.Constant (.int i) j p) (ae (.int i)):=(bO DW λσ H Q=>E6x λι h en S er q=>q.now S (.int i))
def eP{i j p}:aD T E X (.Constant (.bool i) j p) (ae (.bl i)):=(bO DX λσ H Q=>E6x λι h en S er q=>q.now S (.bl i))
def ox{j p}:aD T E X (.Constant .none j p) (ae .non):=(bO DY λσ H Q=>E6x λι h en S er q=>q.now S .non)
def aK{x j p}(n:x.length<=sizeLine:=by decide +kernel)(o:autoParam (x.cps.all (· < 0x110000)=true) aK._auto_1):aD T E X (.Constant (.str x) j p) (ae (.str x)):=(bO DZ λσ H Q=>E6x λι h en S er q=>q.now S (.str n o))
def Iw {x:Str} {i:Int} {t:Tok} {p:Pos} (hg:Gl X x) (hm:X.mg x=some (.int i t)) (hd:((x == ("__debug__" : Str))=false)⁻¹):aD T E X (.Name x p) (ae (.int i)) :=(
 bO (p9 (v:=.int i) hg hm ⟨t,rfl⟩ hd) λσ H Q=>E6x λι h en S er q=>q.now S (.int i))
def mV(T:Tb)(f:F2)(r:R2):Prop:=∀ (ι:Ix) (h:AH) (H:Hp) (x y:AV) (u w:V) (E:XK) (Q:VK),Sim T ι h H->RV T ι H x u->RV T ι H y w->Post T ι H E (RV T) (f x y h) Q->r u w H Q
def Op(T:Tb)(X:Cx)(g:ZC->ZC->Sem ZC)(f:F2):Prop:=∃ r,OpR X g r/\mV T f r
variable{a b c:Expr}{sa sb sc:SE}
def uJ{f:F2}{r:R2}(hs:mV T f r){σ:St}{H:Hp}{Q:VK}(q:tE T E (ag f sa sb) σ H Q):mP r (tE T E sa) (tE T E sb) σ H Q:=by
 obtain⟨ι,h,en,S,er,q⟩:=q;refine⟨ι,h,en,S,er,q.bind λx h1 ι1 H1 u g1 S1 r1 q1=>⟨ι1,h1,en,S1,er.mono g1,q1.bind λy h2 ι2 H2 w g2 S2 r2 q2=>?_⟩⟩
 exact hs ι2 h2 H2 x y u w _ Q S2 (r1.mono g2) r2 q2
def fY{op:Operator}{f:F2}(ho:Op T X (binaryOp op) f)(ha:aD T E X a sa)(hb:aD T E X b sb):aD T E X (.BinOp a op b pos) (ag f sa sb):=by
 obtain⟨r,h1,h2⟩:=ho;exact bO (EM h1 ha hb) λσ H Q q=>uJ h2 q
def Iy{i j:Str}(hi:i.cps.all (· < 0x110000)=true)(hj:j.cps.all (· < 0x110000)=true):(i++j).cps.all (· < 0x110000)=true:=by
 show (i.cps++j.cps).all _=true
 rw[Array.all_append,hi,hj];rfl
def Iz(i j:Str):(i++j).length=i.length+j.length:=by
 show (i.cps++j.cps).size=_
 rw[Array.size_append];rfl
def i4(hK:X.K=T.K):Op T X (binaryOp .Add) az:=by
 refine⟨_,op_add.or (zgE.or (zjM.or HM)),λι h H x y u w E Q S rx ry p=>?_⟩
 unfold az at p;split at p
 ·rw[bE rx,bE ry]
  exact .inl ⟨_,_,rfl,rfl,p.now S (.int _)⟩
 ·split at p
  ·rename_i hz
   obtain⟨rfl,_,o1⟩:=dS rx;obtain⟨rfl,_,o2⟩:=dS ry;exact .inr (.inl ⟨_,_,rfl,rfl,hz,p.now S (.str (by rw[Iz];exact hz) (Iy o1 o2))⟩)
  ·exact p.elim
 ·split at p
  ·rename_i hz
   obtain⟨a,us,rfl,q1,r1⟩:=lG rx;obtain⟨b,ws,rfl,q2,r2⟩:=lG ry;refine .inr (.inr (.inl ⟨a,b,us,ws,rfl,rfl,hK▸q1,hK▸q2,λz=>hz.1 ?_,by rw[<- r1.length,<- r2.length];exact hz.2,λz=>?_,λ_ l n=>uI S (r1.append r2) n p⟩))
   ·subst z;cases r1;rfl
   ·subst z;cases r2
    rw[Q3] at p;exact p.now S rx
  ·exact p.elim
 ·split at p
  ·split at p
   ·rename_i e1 e2 hz
    obtain⟨a,us,rfl,q1,r1⟩:=fR S rx e1;obtain⟨b,ws,rfl,q2,r2⟩:=fR S ry e2;exact .inr (.inr (.inr ⟨a,b,us,ws,rfl,rfl,hK▸q1,hK▸q2,by rw[<- r1.length,<- r2.length];exact hz,λl n=>qD S (r1.append r2) n p⟩))
   ·exact p.elim
  ·exact p.elim
def uK:Op T X (binaryOp .Sub) bM:=by
 refine⟨_,ES,λι h H x y u w E Q S rx ry p=>?_⟩
 unfold bM at p;split at p
 ·rw[bE rx,bE ry]
  exact⟨_,_,rfl,rfl,p.now S (.int _)⟩
 ·exact p.elim
def zd{i:Int}(h:i.natAbs<2 ^ 4000):Builtin.Int.intBits i<=2 ^ 20:=by
 unfold Builtin.Int.intBits;split
 ·exact Po _
 ·rename_i hz
  have h0:i.natAbs≠0:=λz=>hz (by simpa using z)
  have:i.natAbs.log2<4000:=(Nat.log2_lt h0).mpr h
  exact OW (by lia:i.natAbs.log2+1<=4001) 'd'
def IA:Op T X (binaryOp .Mult) bj:=by
 refine⟨_,Hd,λι h H x y u w E Q S rx ry p=>?_⟩
 unfold bj at p;split at p
 ·split at p
  ·rename_i hz
   rw[bE rx,bE ry];exact⟨_,_,rfl,rfl,hz.elim (λz=>CMul.ok (z.elim (λz=>.inl ⟨by lia,by lia⟩) (λz=>.inr ⟨by lia,by lia⟩))) (λz=>.of_bits (zd z.1) (zd z.2)),p.now S (.int _)⟩
  ·exact p.elim
 ·exact p.elim
def ze:Op T X (binaryOp .FloorDiv) cJ:=by
 refine⟨_,Hc,λι h H x y u w E Q S rx ry p=>?_⟩
 unfold cJ at p;split at p
 ·split at p
  ·rename_i hz
   rw[bE rx,bE ry];exact⟨_,_,rfl,rfl,⟨hz.1,by lia⟩,p.now S (.int _)⟩
  ·exact p.elim
 ·exact p.elim
def IB:Op T X (binaryOp .Mod) bG:=by
 refine⟨_,ET,λι h H x y u w E Q S rx ry p=>?_⟩
 unfold bG at p;split at p
 ·split at p
  ·rename_i hz
   rw[bE rx,bE ry];exact⟨_,_,rfl,rfl,hz,p.now S (.int _)⟩
  ·exact p.elim
 ·exact p.elim
def zf:Op T X (binaryOp .Pow) bY:=by
 refine⟨_,EU,λι h H x y u w E Q S rx ry p=>?_⟩
 unfold bY at p;split at p
 ·split at p
  ·rename_i hz
   rw[bE rx,bE ry];exact⟨_,_,rfl,rfl,hz,p.now S (.int _)⟩
  ·exact p.elim
 ·exact p.elim
def mW(ha:aD T E X a sa):aD T E X (.UnaryOp .USub a pos) (dJ bH sa) :=(
 bO (EO EW ha) λσ H Q=>E6x λι h en S er q=>⟨ι,h,en,S,er,q.bind λx h1 ι1 H1 u g1 S1 r1 q1=>by
  unfold bH at q1;split at q1
  ·rw[bE r1]
   exact⟨_,rfl,q1.now S1 (.int _)⟩
  ·exact q1.elim⟩)
def IC{ds:List PyData}(h:∀ d∈ds,d.canLay0=true):PyData.canLayAll0 ds=true:=by
 induction ds with
 |nil=>rfl
 |cons d r ih=>show (d.canLay0 && PyData.canLayAll0 r)=true;rw[h d 's',ih λe he=>h e (by simp[he])];rfl
def ID{n:Nat}{ds:List PyData}(h:∀ d∈ds,d.depth<=n):PyData.depthAll ds<=n:=by
 induction ds with
 |nil=>exact Po _
 |cons d r ih=>show max d.depth (PyData.depthAll r)<=n;have:=h d 's';have:=ih λe he=>h e (by simp[he]);lia
section
variable{ι:Ix}{h:AH}{H:Hp}
theorem oz{f:AV->Option PyData}{n:Nat}(hf:∀ {x:AV} {u:V} {d:PyData},RV T ι H x u->f x=some d->DaV T.K H u d/\d.canLay0=true/\d.depth<=n) :
  ∀ {xs:YF} {us:YE} {ds:List PyData},RVs T ι H xs us->bq f xs=some ds->DaVs T.K H us ds/\∀ d∈ds,d.canLay0=true/\d.depth<=n
 |_,_,ds,.nil,e=>by cases e;exact⟨.nil,by simp⟩
 |_,_,ds,.cons (x:=x) (xs:=xs) r rs,e=>by
  unfold bq at e;split at e
  ·rename_i d ds' e1 e2
   cases e
   obtain⟨q1,q2⟩:=hf r e1;obtain⟨q3,q4⟩:=oz hf rs e2;refine⟨.cons q1 q3,λd hd=>?_⟩
   rcases Pb.mp hd with rfl|hd
   ·exact q2
   ·exact q4 d hd
  ·cases e
theorem i5(S:Sim T ι h H):∀ (n:Nat) {x:AV} {u:V} {d:PyData},RV T ι H x u->bf n h x=some d->DaV T.K H u d/\d.canLay0=true/\d.depth<=n
 |0,x,u,d,r,e=>by
  unfold bf at e
  cases r with
  |non=>cases e;exact⟨.non,rfl,OV _⟩
  |bl b=>cases e;exact⟨.bl b,rfl,OV _⟩
  |int b=>cases e;exact⟨.int b,rfl,OV _⟩
  |str a b=>cases e;exact⟨.str _,b,OV _⟩
  |_=>cases e
 |n+1,x,u,d,r,e=>by
  unfold bf at e;have many:∀ {xs:YF} {us:YE} {ds:List PyData},RVs T ι H xs us->bq (bf n h) xs=some ds->DaVs T.K H us ds/\∀ d∈ds,d.canLay0=true/\d.depth<=n:=λr e=>oz (λr e=>i5 S n r e) r e
  have fin:∀ {ds:List PyData},(∀ d∈ds,d.canLay0=true/\d.depth<=n)->PyData.canLayAll0 ds=true/\PyData.depthAll ds+1<=n+1:=λq=>⟨IC λd hd=>(q d hd).1,Nat.succ_le_succ (ID λd hd=>(q d hd).2)⟩
  cases r with
  |non=>cases e;exact⟨.non,rfl,Po _⟩
  |bl b=>cases e;exact⟨.bl b,rfl,Po _⟩
  |int b=>cases e;exact⟨.int b,rfl,Po _⟩
  |str a b=>cases e;exact⟨.str _,b,Po _⟩
  |tup k q r =>
   obtain⟨ds,e1,rfl⟩:=Pd.mp e;obtain⟨q1,q2⟩:=many r e1;exact⟨.tup (.of q) q1,fin q2⟩
  |fl k q r =>
   obtain⟨ds,e1,rfl⟩:=Pd.mp e;obtain⟨q1,q2⟩:=many r e1;exact⟨.lst (.inl q) q1,fin q2⟩
  |kfl q r =>
   obtain⟨ds,e1,rfl⟩:=Pd.mp e;obtain⟨q1,q2⟩:=many r e1;exact⟨.lst (.inr q) q1,fin q2⟩
  |@ref k a q =>
   dsimp only at e;split at e
   ·rename_i ys hk
    obtain⟨ds,e1,rfl⟩:=Pd.mp e;obtain⟨u,e2,us,rfl,r⟩:=S.obj k _ a hk q;obtain⟨q1,q2⟩:=many r e1;exact⟨.lst (.inl (.inl e2)) q1,fin q2⟩
   ·cases e
  |exc _ _ _=>cases e
end
def IE{i j:Int}:decide (V.int i=V.int j)=decide (i=j):=by rw[Qq];simp
def IF{i j:Str}:decide (V.str i=V.str j)=decide (i=j):=by rw[Qq];simp
def IG{i j:Bool}:decide (V.bl i=V.bl j)=decide (i=j):=by rw[Qq];simp
def zg{r:R2}{neg:Bool}(ho:OpR X g r)(h1:∀ x y H Q,(k9 x y=true/\Q (.bl (if neg then !decide (x=y) else decide (x=y))) H)->r x y H Q)
  (h2:∀ x y H Q,(∃ d e,DaV T.K H x d/\DaV T.K H y e/\d.canLay0=true/\e.canLay0=true/\d.depth<=60/\Q (.bl (if neg then !PyData.eqv d e else PyData.eqv d e)) H)->r x y H Q) :
  mV T (λx y h=>match fi x y h with|some b=>.ok (.bl (if neg then !b else b)) h|none=>.bad) r:=by
 intro ι h H x y u w E Q S rx ry p;dsimp only at p
 cases hb:fi x y h with
 |none=>rw[hb] at p;exact p.elim
 |some b =>
  rw[hb] at p;dsimp only at p
  unfold fi at hb;split at hb
  ·cases hb
   rw[bE rx,bE ry];exact h1 _ _ _ _ ⟨rfl,by rw[IE];exact p.now S (.bl _)⟩
  ·cases hb
   obtain⟨rfl,_⟩:=dS rx;obtain⟨rfl,_⟩:=dS ry;exact h1 _ _ _ _ ⟨rfl,by rw[IF];exact p.now S (.bl _)⟩
  ·cases hb
   rw[fS rx,fS ry];exact h1 _ _ _ _ ⟨rfl,by rw[IG];exact p.now S (.bl _)⟩
  ·cases hb
   rw[qC rx,qC ry];exact h1 _ _ _ _ ⟨rfl,by rw[show decide (V.non=V.non)=true from rfl];exact p.now S (.bl _)⟩
  ·split at hb
   ·rename_i d e e1 e2
    cases hb
    obtain⟨q1,q2,q3⟩:=i5 S 8 rx e1;obtain⟨q4,q5,q6⟩:=i5 S 8 ry e2;exact h2 _ _ _ _ ⟨d,e,q1,q4,q2,q5,by lia,p.now S (.bl _)⟩
   ·cases hb
def bB(hK:X.K=T.K)(hu:X.A.units+64<cLine):Op T X (compareOp .Eq) ay :=(
 ⟨_,op_eq.or (yT hu),zg (neg:=false) (op_eq.or (yT hu)) (λ_ _ _ _ q=>.inl q) λ_ _ _ _ q=>.inr (hK▸q)⟩)
def iB(hK:X.K=T.K)(hu:X.A.units+64<cLine):Op T X (compareOp .NotEq) eF :=(
 ⟨_,op_ne.or (yU hu),zg (neg:=true) (op_ne.or (yU hu)) (λ_ _ _ _ q=>.inl q) λ_ _ _ _ q=>.inr (hK▸q)⟩)
def jA:Op T X (compareOp .Lt) cP:=by
 refine⟨_,op_lt.or E2,λι h H x y u w E Q S rx ry p=>?_⟩
 unfold cP at p;split at p
 ·rw[bE rx,bE ry]
  exact .inl ⟨_,_,rfl,rfl,p.now S (.bl _)⟩
 ·obtain⟨rfl,_⟩:=dS rx
  obtain⟨rfl,_⟩:=dS ry;exact .inr ⟨_,_,rfl,rfl,p.now S (.bl _)⟩
 ·exact p.elim
def eQ:Op T X (compareOp .LtE) bc:=by
 refine⟨_,op_le.or G8,λι h H x y u w E Q S rx ry p=>?_⟩
 unfold bc at p;split at p
 ·rw[bE rx,bE ry]
  exact .inl ⟨_,_,rfl,rfl,p.now S (.bl _)⟩
 ·obtain⟨rfl,_⟩:=dS rx
  obtain⟨rfl,_⟩:=dS ry;exact .inr ⟨_,_,rfl,rfl,p.now S (.bl _)⟩
 ·exact p.elim
def jB:Op T X (compareOp .Gt) fy:=by
 refine⟨_,EZ,λι h H x y u w E Q S rx ry p=>?_⟩
 unfold fy at p;split at p
 ·rw[bE rx,bE ry]
  exact⟨_,_,rfl,rfl,p.now S (.bl _)⟩
 ·exact p.elim
def uL:Op T X (compareOp .GtE) kj:=by
 refine⟨_,E1,λι h H x y u w E Q S rx ry p=>?_⟩
 unfold kj at p;split at p
 ·rw[bE rx,bE ry]
  exact⟨_,_,rfl,rfl,p.now S (.bl _)⟩
 ·exact p.elim
def RV.non_iff{ι:Ix}{H:Hp}{x:AV}{u:V}(r:RV T ι H x u):decide (x=.non)=decide (u=.non):=by
 exact decide_eq_decide.mpr ⟨λz=>by subst z;cases r;rfl,λz=>by subst z;cases r;rfl⟩
def uM:Op T X (compareOp .Is) jw:=by
 refine⟨_,E3,λι h H x y u w E Q S rx ry p=>?_⟩
 unfold jw at p;split at p
 ·refine⟨qC ry,?_⟩
  rw[<- rx.non_iff];exact p.now S (.bl _)
 ·exact p.elim
def fD{op:CmpOp}{f:F2}(ho:Op T X (compareOp op) f)(ha:aD T E X a sa)(hb:aD T E X b sb)(hm:behindInMarks op b=false):aD T E X (.Compare a [op] [b] pos) (ag f sa sb):=by
 obtain⟨r,h1,h2⟩:=ho;exact bO (E4 h1 ha hb hm) λσ H Q q=>uJ h2 q
def cX{op:CmpOp}{f:F2}(ho:Op T X (compareOp op) f)(ha:aD T E X a sa)(hb:aD T E X b sb)(hm:behindInMarks op b=false):hX T E X (.Compare a [op] [b] pos) (aE (ag f sa sb)):=by
 obtain⟨r,h1,h2⟩:=ho;refine oq (E5 h1 ha hb hm) λσ H Q q=>uJ (E:=E) (Q:=λx H'=>∃ k,x=V.bl k/\Q k H') h2 ?_
 obtain⟨ι,h,en,S,er,q⟩:=q;refine⟨ι,h,en,S,er,q.bind λx h1 ι1 H1 u g1 S1 r1 q1=>?_⟩
 split at q1
 ·rw[fS r1]
  exact⟨_,rfl,q1.now S1 rfl⟩
 ·exact q1.elim
def zh{f f':F2}{r r':R2}(hs:mV T f r)(hs':mV T f' r'){σ:St}{H:Hp}{Q:VK}(q:tE T E (fk f f' sa sb sc) σ H Q):tU r r' (tE T E sa) (tE T E sb) (tE T E sc) σ H Q:=by
 obtain⟨ι,h,en,S,er,q⟩:=q;refine⟨ι,h,en,S,er,q.bind λx h1 ι1 H1 u g1 S1 r1 q1=>⟨ι1,h1,en,S1,er.mono g1,q1.bind λy h2 ι2 H2 w g2 S2 r2 q2=>?_⟩⟩
 refine hs ι2 h2 H2 x y u w (E σ) _ S2 (r1.mono g2) r2 (q2.bind λz h3 ι3 H3 k g3 S3 r3 q3=>?_)
 split at q3
 ·rename_i kk
  rw[fS r3];refine⟨kk,rfl,?_⟩
  by_cases hkk:kk=true
  ·rw[OX hkk] at q3 ⊢
   refine⟨ι3,h3,en,S3,er.mono (g1.trans (g2.trans g3)),q3.bind λv h4 ι4 H4 j g4 S4 r4 q4=>?_⟩
   exact hs' ι4 h4 H4 y v w j _ Q S4 (r2.mono (g3.trans g4)) r4 q4
  ·rw[O0 hkk] at q3 ⊢
   exact q3.now S3 (.bl _)
 ·exact q3.elim
def zi{op op':CmpOp}{f f':F2}(ho:Op T X (compareOp op) f)(ho':Op T X (compareOp op') f')(ha:aD T E X a sa)(hb:aD T E X b sb)(hc:aD T E X c sc)(hm:autoParam (lastMarks [op,op'] [b,c]=false) L2.E6._auto_1) :
  aD T E X (.Compare a [op,op'] [b,c] pos) (fk f f' sa sb sc):=by
 obtain⟨r,h1,h2⟩:=ho;obtain⟨r',h1',h2'⟩:=ho';exact bO (E6 h1 h1' ha hb hc hm) λσ H Q q=>zh h2 h2' q
def IH{op op':CmpOp}{f f':F2}(ho:Op T X (compareOp op) f)(ho':Op T X (compareOp op') f')(ha:aD T E X a sa)(hb:aD T E X b sb)(hc:aD T E X c sc)(hm:autoParam (lastMarks [op,op'] [b,c]=false) L2.E6._auto_1) :
  hX T E X (.Compare a [op,op'] [b,c] pos) (aE (fk f f' sa sb sc)):=by
 obtain⟨r,h1,h2⟩:=ho;obtain⟨r',h1',h2'⟩:=ho';refine oq (E7 h1 h1' ha hb hc hm) λσ H Q q=>zh (E:=E) (Q:=λx H'=>∃ k,x=V.bl k/\Q k H') h2 h2' ?_
 obtain⟨ι,h,en,S,er,q⟩:=q;refine⟨ι,h,en,S,er,q.bind λx h1 ι1 H1 u g1 S1 r1 q1=>?_⟩
 split at q1
 ·rw[fS r1]
  exact⟨_,rfl,q1.now S1 rfl⟩
 ·exact q1.elim
def zj{ι:Ix}{h:AH}{H:Hp}{v:AV}{u:V}{k:Bool}(S:Sim T ι h H)(r:RV T ι H v u)(e:jx v h=some k):jo T.K u H k:=by
 unfold jx at e
 cases r with
 |non=>cases e;rfl
 |bl b=>cases e;rfl
 |int b=>cases e;rfl
 |str n o=>cases e;exact⟨n,rfl⟩
 |tup n q r=>cases e;exact .inr (.inl ⟨_,.of q,by cases r<;>rfl⟩)
 |fl n q r=>cases e;exact .inl ⟨_,.inl q,by cases r<;>rfl⟩
 |kfl q r=>cases e;exact .inl ⟨_,.inr q,by cases r<;>rfl⟩
 |@ref n a q =>
  dsimp only at e;split at e
  ·rename_i xs hk
   cases e
   obtain⟨u,e1,us,rfl,r⟩:=S.obj n _ a hk q;exact .inl ⟨us,.inl (.inl e1),by cases r<;>rfl⟩
  ·rename_i xs hk
   cases e
   obtain⟨u,e1,us,rfl,r⟩:=S.obj n _ a hk q;exact .inr (.inr ⟨us,e1,by cases r<;>rfl⟩)
  ·cases e
 |exc _ _ _=>cases e
def uN(hK:X.K=T.K)(ha:aD T E X a sa)(he:autoParam (∀ whole,isTrue a X.env whole=(do let v <- whole;standAt a.pos;holding [v] (truthy v))) L2.Ez._auto_1):hX T E X a (iz sa) :=(
 oq (E9 ha he) λσ H Q=>E6x λι h en S er q=>⟨ι,h,en,S,er,q.bind λx h1 ι1 H1 u g1 S1 r1 q1=>by
  split at q1
  ·rename_i b hb
   exact⟨b,hK▸zj S1 r1 hb,q1.now S1 rfl⟩
  ·exact q1.elim⟩)
variable{ca cb:SB}{rest:YD}
def qE(ha:hX T E X a ca):hX T E X (.UnaryOp .Not a pos) (c9 ca) :=(
 oq (Ec ha) λσ H Q=>E6x λι h en S er q=>⟨ι,h,en,S,er,q.bind λx h1 ι1 H1 u g1 S1 r1 q1=>by subst r1;exact q1.now S1 rfl⟩)
def gU(h:lB T E X a ca):hX T E X a ca:=(PW.pt h)
def uO(ha:hX T E X a ca):lB T E X (.BoolOp .And [a] pos) ca:=(D8 ha)
def uP(ha:hX T E X a ca):lB T E X (.BoolOp .Or [a] pos) ca:=(D9 ha)
def qF(ha:hX T E X a ca)(hb:lB T E X (.BoolOp .And (b::rest) pos) cb):lB T E X (.BoolOp .And (a::b::rest) pos) (iA ca cb) :=(
 y8 (Ea ha hb) λσ H Q=>E6x λι h en S er q=>⟨ι,h,en,S,er,q.bind λx h1 ι1 H1 u g1 S1 r1 q1=>by
  subst r1;by_cases hx:x=true
  ·rw[OX hx] at q1 ⊢
   exact⟨ι1,h1,en,S1,er.mono g1,q1⟩
  ·rw[O0 hx] at q1 ⊢
   exact q1.now S1 rfl⟩)
def qG(ha:hX T E X a ca)(hb:lB T E X (.BoolOp .Or (b::rest) pos) cb):lB T E X (.BoolOp .Or (a::b::rest) pos) (ot ca cb) :=(
 y8 (Eb ha hb) λσ H Q=>E6x λι h en S er q=>⟨ι,h,en,S,er,q.bind λx h1 ι1 H1 u g1 S1 r1 q1=>by
  subst r1;by_cases hx:x=true
  ·rw[OX hx] at q1 ⊢
   exact q1.now S1 rfl
  ·rw[O0 hx] at q1 ⊢
   exact⟨ι1,h1,en,S1,er.mono g1,q1⟩⟩)
def jC{op}(h:aD T E X a sa):aD T E X (.BoolOp op [a] pos) sa:=(Ef h)
def uQ(ha:aD T E X a sa)(hb:aD T E X (.BoolOp .And (b::rest) pos) sb):aD T E X (.BoolOp .And (a::b::rest) pos) (kq sa sb) :=(
 bO (Eg ha hb) λσ H Q=>E6x λι h en S er q=>⟨ι,h,en,S,er,q.bind λx h1 ι1 H1 u g1 S1 r1 q1=>by
  split at q1
  ·rename_i kk
   rw[fS r1];refine⟨kk,rfl,?_⟩
   by_cases hkk:kk=true
   ·rw[OX hkk] at q1 ⊢
    exact⟨ι1,h1,en,S1,er.mono g1,q1⟩
   ·rw[O0 hkk] at q1 ⊢
    exact q1.now S1 (.bl _)
  ·exact q1.elim⟩)
def jD(ha:aD T E X a sa)(hb:aD T E X (.BoolOp .Or (b::rest) pos) sb):aD T E X (.BoolOp .Or (a::b::rest) pos) (fz sa sb) :=(
 bO (Eh ha hb) λσ H Q=>E6x λι h en S er q=>⟨ι,h,en,S,er,q.bind λx h1 ι1 H1 u g1 S1 r1 q1=>by
  split at q1
  ·rename_i kk
   rw[fS r1];refine⟨kk,rfl,?_⟩
   by_cases hkk:kk=true
   ·rw[OX hkk] at q1 ⊢
    exact q1.now S1 (.bl _)
   ·rw[O0 hkk] at q1 ⊢
    exact⟨ι1,h1,en,S1,er.mono g1,q1⟩
  ·exact q1.elim⟩)
def qH(ha:aD T E X a sa):aD T E X (.UnaryOp .Not a pos) (jy sa) :=(
 bO (Ei ha) λσ H Q=>E6x λι h en S er q=>⟨ι,h,en,S,er,q.bind λx h1 ι1 H1 u g1 S1 r1 q1=>by
  split at q1
  ·rw[fS r1]
   exact⟨_,rfl,q1.now S1 (.bl _)⟩
  ·exact q1.elim⟩)
variable{es:YD}{as:SL}
def aA:fQ T E X [] af:=(y9 nZ λσ H Q=>E6x λι h en S er q=>q.now S .nil)
def ak(ha:aD T E X a sa)(hr:fQ T E X es as)(hs:‹starEach (a::es) X.env=(false,eval a X.env)::starEach es X.env›):fQ T E X (a::es) (ah sa as) :=(
 y9 (kg ha hr hs) λσ H Q=>E6x λι h en S er q=>⟨ι,h,en,S,er,q.bind λx h1 ι1 H1 u g1 S1 r1 q1=>⟨ι1,h1,en,S1,er.mono g1,q1.bind λxs h2 ι2 H2 us g2 S2 r2 q2=>q2.now S2 (.cons (r1.mono g2) r2)⟩⟩)
def dD{k}(h:fQ T E X es as):aD T E X (.Tuple es k pos) (aN as) :=(
 bO (Fx h) λσ H Q=>E6x λι h en S er q=>⟨ι,h,en,S,er,q.bind λxs h1 ι1 H1 us g1 S1 r1 q1=>by
  split at q1
  ·rename_i hl
   exact⟨by rw[<- r1.length];exact OW hl 'd',λp n=>uI S1 r1 n q1⟩
  ·exact q1.elim⟩)
def cK(h:fQ T E X es as):aD T E X (.List es pos) (aJ as) :=(
 bO (t7 h) λσ H Q=>E6x λι h en S er q=>⟨ι,h,en,S,er,q.bind λxs h1 ι1 H1 us g1 S1 r1 q1=>by
  split at q1
  ·rename_i hl
   exact⟨by rw[<- r1.length];exact OW hl 'd',λp n=>qD S1 r1 n q1⟩
  ·exact q1.elim⟩)
def oA(h:fQ T E X es as):aD T E X (.List es pos) (fW as) :=(
 bO (t7 h) λσ H Q=>E6x λι h en S er q=>⟨ι,h,en,S,er,q.bind λxs h1 ι1 H1 us g1 S1 r1 q1=>by
  split at q1
  ·rename_i hl
   exact⟨by rw[<- r1.length];exact OW hl 'd',λp n=>Iv S1 r1 n q1⟩
  ·exact q1.elim⟩)
def uR:aD T E X (.Dict [] [] pos) (lC false) :=(
 bO GB λσ H Q ⟨ι,h,en,S,er,q⟩ p n=>q _ _ _ (S.growAdd n) (S.add n ⟨[],rfl,.nil⟩) (.ref S.addAt))
def II:aD T E X (.Dict [] [] pos) (lC true) :=(
 bO GC λσ H Q ⟨ι,h,en,S,er,q⟩ p n=>q _ _ _ (S.growAdd n) (S.add n ⟨[],rfl,.nil⟩) (.ref S.addAt))
end
section
variable{T:Tb}{E:St->XK}{X:Cx}{pos:Pos}{a b:Expr}{sa sb:SE}{ca:SB}{st:Stmt}{sts ss1 ss2:List Stmt}{s1 s2:SS}
def dO:cI T E X [] aH:=(za Ek λD σ H=>E6x λι h en S er q=>q ι H σ S.refl S er)
def aQ(h1:gz T E X st s1)(h2:cI T E X sts s2):cI T E X (st::sts) (ai s1 s2) :=(
 za (El h1 h2) λD σ H=>E6x λι h en S er q=>by
  refine⟨ι,h,en,S,er,?_⟩
  unfold ai at q
  cases e:s1 en h with
  |nx e1 h1 =>
   rw[e] at q;exactλι' H' σ' g S' er'=>⟨ι',h1,e1,S',er',q.shift g⟩
  |rt v h1=>rw[e] at q;exact q
  |bk e1 h1=>rw[e] at q;exact q
  |ct e1 h1=>rw[e] at q;exact q
  |ex c e1 h1=>rw[e] at q;exact q
  |bad=>rw[e] at q;exact q)
def bA(h1:gz T E X st s1):cI T E X [st] s1:=(Em h1)
def i6(ha:aD T E X a sa)(hs:‹swapsWith a none pos.line X.env=pure false›):gz T E X (.Expr a pos) (bh sa) :=(
 hZ (Ep ha hs) λD σ H=>E6x λι h en S er q=>⟨ι,h,en,S,er,q.go er λv h1 ι1 H1 u g1 S1 r1 q1=>q1 ι1 H1 σ S1.refl S1 (er.mono g1)⟩)
def dE(ha:aD T E X a sa):gz T E X (.Return (some a) pos) (ao sa) :=(
 hZ (Er ha) λD σ H=>E6x λι h en S er q=>⟨ι,h,en,S,er,q.go er λv h1 ι1 H1 u g1 S1 r1 q1=>q1 ι1 H1 u S1.refl S1 r1⟩)
def br(hc:hX T E X a ca)(h1:cI T E X ss1 s1)(h2:cI T E X ss2 s2):gz T E X (.If a ss1 ss2 pos) (aG ca s1 s2) :=(
 hZ (Es hc h1 h2) λD σ H=>E6x λι h en S er q=>⟨ι,h,en,S,er,q.go er λx h1 ι1 H1 u g1 S1 r1 q1=>by
  subst r1;by_cases hx:x=true
  ·rw[OX hx] at q1 ⊢
   exact⟨ι1,h1,en,S1,er.mono g1,q1⟩
  ·rw[O0 hx] at q1 ⊢
   exact⟨ι1,h1,en,S1,er.mono g1,q1⟩⟩)
def zk{σ:St}{H:Hp}{D:cR}{i:Nat}(q:tS T E (ar i sa) D σ H):jl (tE T E sa) (mO i) D σ H:=by
 obtain⟨ι,h,en,S,er,q⟩:=q;exact⟨ι,h,en,S,er,q.go er λv h1 ι1 H1 u g1 S1 r1 q1=>q1 ι1 H1 _ S1.refl S1 ((er.mono g1).set r1 i)⟩
def bC{i:Nat}{x:Str}{p':Pos}(hN:X.N.Nodup)(ha:aD T E X a sa)(hi:‹X.N[i]?=some x›)(hx:kU X.env.scope x:=by first|exact Or.inl rfl|exact Or.inr rfl)(hs:‹swapsWith a (some (.Name x p')) pos.line X.env=pure false›)
  (hf:autoParam (X.fn x=true\/X.env.scope.names.lookup x=some .local) L2.xX._auto_1):gz T E X (.Assign [.Name x p'] a pos) (ar i sa) :=(
 hZ (EA hN hi hx ha hs hf) λD σ H q=>zk q)
theorem zm{ι:Ix}{H:Hp}:∀ {is:List Nat} {xs:YF} {us:YE} {en e:En} {σ:St},RVs T ι H xs us->ER T ι H en σ->qA is xs en=some e->ER T ι H e ((is.zip us).foldl (λσ p=>σ.set p.1 (some p.2)) σ)/\us.length=is.length
 |[],_,_,en,e,σ,.nil,er,q=>by cases q;exact⟨er,rfl⟩
 |i::is,_,_,en,e,σ,.cons r rs,er,q=>by
  obtain⟨h1,h2⟩:=zm (is:=is) rs (er.set r i) q;exact⟨h1,by simp[h2]⟩
 |[],_,_,en,e,σ,.cons r rs,er,q=>by cases q
 |i::is,_,_,en,e,σ,.nil,er,q=>by cases q
def qI(T:Tb)(X:Cx)(tg:Expr)(t:Tg):Prop:=∃ g,PG X tg g/\∀ {ι:Ix} {h:AH} {H:Hp} {en e:En} {σ:St} {v:AV} {u:V} {Q:St->Hp->Prop},Sim T ι h H->ER T ι H en σ->RV T ι H v u->fA t v en=some e ->
 (∀ σ',ER T ι H e σ'->Q σ' H)->g u σ H Q
def IJ{i:Nat}{x:Str}(hN:X.N.Nodup)(hi:‹X.N[i]?=some x›)(hx:autoParam (kU X.env.scope x) bC._auto_1)(hf:autoParam (X.fn x=true\/X.env.scope.names.lookup x=some .local) L2.xX._auto_1) :
  qI T X (.Name x pos) (.nm i):=(⟨_,tF hN hi hx hf,λS er r e k=>by cases e;exact k _ (er.set r i)⟩)
def jE(X:Cx)(es:YD)(is:List Nat):Prop:=kY X es (λvs σ H Q=>vs.length=is.length/\Q ((is.zip vs).foldl (λσ p=>σ.set p.1 (some p.2)) σ) H)
def zp{X:Cx}{es:YD}{t t':ke}(h:kY X es t)(k:∀ vs σ H Q,t' vs σ H Q->t vs σ H Q):kY X es t':=(λpins s σ H vs us Q I r q=>h pins s σ H vs us Q I r (k vs σ H Q q))
def qJ:jE X [] []:=(zp Eu λvs σ H Q ⟨l,q⟩=>by
 cases vs with
 |nil=>exact⟨rfl,q⟩
 |cons=>cases l)
def jF{i:Nat}{is:List Nat}{x:Str}{p:Pos}{es:YD}(hN:X.N.Nodup)(hr:jE X es is)(hi:‹X.N[i]?=some x›)(hx:autoParam (kU X.env.scope x) bC._auto_1)
  (hf:autoParam (X.fn x=true\/X.env.scope.names.lookup x=some .local) L2.xX._auto_1)(hs:‹(assignEach (.Name x p::es) X.env).map (·.2)=assign (.Name x p) X.env::(assignEach es X.env).map (·.2)›):jE X (.Name x p::es) (i::is) :=(
 zp (Ew (tF hN hi hx hf) hr hs) λvs σ H Q ⟨l,q⟩=>by
  cases vs with
  |nil=>cases l
  |cons v r=>exact⟨v,r,rfl,Nat.succ.inj l,q⟩)
def qK{es:YD}{is:List Nat}{k:Nat}(hK:X.K=T.K)(hc:X.calm=true)(h:jE X es is)(hn:‹(assignEach es X.env).length=is.length›)(hst:‹(assignEach es X.env).findIdx? (·.1)=none›):qI T X (.Tuple es k pos) (.tup is) :=(
 ⟨_,Ey hc h hn hst,λ{ι h H en e σ v u Q} S er r q k=>by
  unfold fA at q;split at q
  ·rename_i hh;cases hh
  ·rename_i hh
   cases hh
   obtain⟨a,us,rfl,q1,r1⟩:=lG r;obtain⟨h1,h2⟩:=zm r1 er q;exact⟨a,us,rfl,hK▸q1,h2,h2,k _ h1⟩
  ·rename_i hh;cases hh
  ·cases q⟩)
def zq{tg:Expr}{t:Tg}(ha:aD T E X a sa)(hg:qI T X tg t)(hs:‹swapsWithSole [tg] a pos.line X.env=pure false›)(hw:‹swappedStores [tg] a X.env=pure none›)
  (h1:‹(assignEach [tg] X.env).map (·.2)=[assign tg X.env]›):gz T E X (.Assign [tg] a pos) (uG t sa):=by
 obtain⟨g,hg1,hg2⟩:=hg;refine hZ (xY ha hg1 hs hw h1) λD σ H=>E6x λι h en S er q=>⟨ι,h,en,S,er,q.go er λv h1 ι1 H1 u g1 S1 r1 q1=>?_⟩
 split at q1
 ·rename_i e he
  exact hg2 S1 (er.mono g1) r1 he λσ' er'=>q1 ι1 H1 σ' S1.refl S1 er'
 ·exact q1.elim
structure oB(T:Tb)(J:It)(ι:Ix)(H:Hp)(ys:YF)(L:AH->Bool):Prop where
 go:∀ (i:Nat) (ι':Ix) (h':AH) (H':Hp) (x:AV),Ext ι H ι' H'->Sim T ι' h' H'->L h'=true->ys[i]?=some x->J.go i H'/\∀ u H2,J.yld i H' u H2->Grow ι' H' ι' H2/\Sim T ι' h' H2/\RV T ι' H2 x u
 stop:∀ (i:Nat) (ι':Ix) (h':AH) (H':Hp),Ext ι H ι' H'->Sim T ι' h' H'->L h'=true->ys.length<=i->J.stop i H'
abbrev i7(T:Tb)(J:It)(ι:Ix)(H:Hp)(xs:YF)(w:Option Nat):Prop:=oB T J ι H xs (gA w xs)
def tI(T:Tb)(it:SI):TI:=λσ H R=>∃ ι h en,Sim T ι h H/\ER T ι H en σ/\match it en h with
 |.ok (xs,w) h'=>∀ ι' H' J,Grow ι H ι' H'->Sim T ι' h' H'->i7 T J ι' H' xs w->R J H'
 |_=>False
abbrev lH(T:Tb)(X:Cx)(tg iter:Expr)(it:SI):Prop:=PI X tg iter (tI T it)
def qL{X:Cx}{tg iter:Expr}{t t':TI}(h:PI X tg iter t)(k:∀ σ H R,t' σ H R->t σ H R):PI X tg iter t':=(λpins s σ H R I q=>h pins s σ H R I (k σ H R q))
def PI.or{X:Cx}{tg iter:Expr}{t t':TI}(h:PI X tg iter t)(h':PI X tg iter t'):PI X tg iter (λσ H R=>t σ H R\/t' σ H R):=(λpins s σ H R I q=>q.elim (h pins s σ H R I) (h' pins s σ H R I))
def zr{ι:Ix}{H:Hp}{a:ZE}{us:YE}{xs:YF}{K:ZA}(keep:∀ (ι':Ix) (H':Hp),Ext ι H ι' H'->SqL K H' a us)(r:RVs T ι H xs us):i7 T (qa K a) ι H xs none:=by
 constructor
 ·intro i ι' h' H' x g S _ e
  obtain⟨u,e1,r1⟩:=(r.ext g).get e;refine⟨⟨us,u,keep ι' H' g,e1⟩,?_⟩
  rintro u2 H2 ⟨rfl,y⟩
  have z:=y us (keep ι' _ g);rw[e1] at z;cases z
  exact⟨S.refl,S,r1⟩
 ·intro i ι' h' H' g S _ hl
  exact⟨us,keep ι' H' g,by rw[<- r.length];exact hl⟩
def IK{ι:Ix}{H:Hp}{a:ZE}{us:YE}{xs:YF}{K:ZA}(keep:∀ (ι':Ix) (H':Hp),Ext ι H ι' H'->SqT K H' a us)(r:RVs T ι H xs us):i7 T (tL K a) ι H xs none:=by
 constructor
 ·intro i ι' h' H' x g S _ e
  obtain⟨u,e1,r1⟩:=(r.ext g).get e;refine⟨⟨us,u,keep ι' H' g,e1⟩,?_⟩
  rintro u2 H2 ⟨rfl,y⟩
  have z:=y us (keep ι' _ g);rw[e1] at z;cases z
  exact⟨S.refl,S,r1⟩
 ·intro i ι' h' H' g S _ hl
  exact⟨us,keep ι' H' g,by rw[<- r.length];exact hl⟩
def IL{ι:Ix}{H:Hp}{a:ZE}{n:Nat}{xs:YF}{K:ZA}(e:ι.refs[n]?=some a):i7 T (qa K a) ι H xs (some n):=by
 have at_:∀ {ι':Ix} {h':AH} {H':Hp},Ext ι H ι' H'->Sim T ι' h' H'->gA (some n) xs h'=true->∃ us,H' a=some (.lst us)/\RVs T ι' H' xs us:=λ{ι' h' H'} g S l=>by
  unfold gA at l;dsimp only at l;split at l
  ·rename_i ys hy
   have z:=R5 l;subst z;obtain⟨u,e1,us,rfl,r⟩:=S.obj n _ a hy (g.at_ e)
   exact⟨us,e1,r⟩
  ·cases l
 constructor
 ·intro i ι' h' H' x g S l e
  obtain⟨us,e0,r⟩:=at_ g S l;obtain⟨u,e1,r1⟩:=r.get e;refine⟨⟨us,u,.of e0,e1⟩,?_⟩
  rintro u2 H2 ⟨rfl,y⟩
  have z:=y us (.of e0);rw[e1] at z;cases z
  exact⟨S.refl,S,r1⟩
 ·intro i ι' h' H' g S l hl
  obtain⟨us,e0,r⟩:=at_ g S l;exact⟨us,.of e0,by rw[<- r.length];exact hl⟩
def IM{ι:Ix}{H:Hp}{x:Str}(o:x.cps.all (· < 0x110000)=true):i7 T (uj x) ι H (x.cps.toList.map λc=>.str ⟨#[c]⟩) none:=by
 constructor
 ·intro i ι' h' H' y g S _ e
  rw[Pr] at e;obtain⟨c,e1,rfl⟩:=Pd.mp e
  have hi:i<x.cps.size:=by
   have:=(OS.mp e1).1;simpa using this
  refine⟨hi,?_⟩
  rintro u H2 ⟨rfl,c',e2,rfl⟩
  have z:x.cps[i]?=some c:=by simpa using e1
  rw[e2] at z;cases z
  refine⟨S.refl,S,.str (show 1<=sizeLine by decide) ?_⟩
  have m:=Array.mem_of_getElem? e2;have:=PD.mp o _ m;simpa using this
 ·intro i ι' h' H' g S _ hl
  show x.cps.size<=i
  simpa using hl
def IP(n:Nat):∀ (lo:Int) (i:Nat),(dR lo n)[i]?=if i<n then some (.int (lo+i)) else none:=by
 induction n with
 |zero=>intro lo i;simp[dR]
 |succ n ih =>
  intro lo i
  cases i with
  |zero=>simp[dR]
  |succ i =>
   show (dR (lo+1) n)[i]?=_
   rw[ih];by_cases h:i<n
   ·rw[OX h,OX ⋯]
    congr 2
    show lo+1+(i:Int)=lo+((i+1:Nat):Int)
    lia
   ·rw[O0 h,O0 ⋯]
def IQ(n:Nat):∀ lo:Int,(dR lo n).length=n:=by
 induction n with
 |zero=>intro lo;rfl
 |succ n ih=>intro lo;show (dR (lo+1) n).length+1=n+1;rw[ih]
def IS{ι:Ix}{H:Hp}{lo:Int}{n:Nat}:i7 T (qc lo n) ι H (dR lo n) none:=by
 constructor
 ·intro i ι' h' H' y g S _ e
  rw[IP] at e;split at e
  ·rename_i hi
   cases e
   refine⟨hi,?_⟩
   rintro u H2 ⟨rfl,rfl⟩
   exact⟨S.refl,S,.int _⟩
  ·cases e
 ·intro i ι' h' H' g S _ hl
  rw[IQ] at hl;exact hl
theorem numbered_get:∀ (xs:YF) (k i:Nat),(numbered k xs)[i]?=(xs[i]?).map λx=>.tup [.int ((k+i:Nat):Int),x]
 |[],k,i=>by simp[numbered]
 |x::xs,k,0=>by simp[numbered]
 |x::xs,k,i+1=>by
  show (numbered (k+1) xs)[i]?=_
  rw[numbered_get xs (k+1) i];show _=(xs[i]?).map _
  congr 1
  funext y
  rw[show k+1+i=k+(i+1) by lia]
theorem zt:∀ (xs:YF) (k:Nat),(numbered k xs).length=xs.length
 |[],_=>rfl
 |x::xs,k=>by show (numbered (k+1) xs).length+1=_;rw[zt xs];rfl
def zu{ι:Ix}{H:Hp}{a:ZE}{us:YE}{xs:YF}{K:ZA}(keep:∀ (ι':Ix) (H':Hp),Ext ι H ι' H'->SqL K H' a us)(r:RVs T ι H xs us):i7 T (ui K a) ι H (numbered 0 xs) none:=by
 constructor
 ·intro i ι' h' H' x g S _ e
  rw[numbered_get] at e;obtain⟨y,e0,rfl⟩:=Pd.mp e
  obtain⟨u,e1,r1⟩:=(r.ext g).get e0;refine⟨⟨us,u,keep ι' H' g,e1⟩,?_⟩
  rintro u2 H2 ⟨t,y2,rfl,hn,rfl,hy⟩
  have z:=hy us (keep ι' _ g);rw[e1] at z;cases z
  have g2:=S.growNew (o:=.tup [.int i,u]) hn;refine⟨g2,S.new hn,.tup (S.fresh hn) dH (.cons ?_ (.cons (r1.mono g2) .nil))⟩
  rw[RJ];exact .int _
 ·intro i ι' h' H' g S _ hl
  rw[zt] at hl;exact⟨us,keep ι' H' g,by rw[<- r.length];exact hl⟩
def zv{ι:Ix}{H:Hp}{a:ZE}{us:YE}(n:a∉ι.all)(h:Rd H a (.lst us)):∀ (ι':Ix) (H':Hp),Ext ι H ι' H'->SqL T.K H' a us:=(λ_ _ g=>.inl (y6 g n h))
def IT{ι:Ix}{H:Hp}{a:ZE}{us:YE}(n:a∉ι.all)(h:H a=some (.tup us)):∀ (ι':Ix) (H':Hp),Ext ι H ι' H'->SqT T.K H' a us:=(λ_ _ g=>.of (g.keep _ _ n h))
def qM{K K':ZA}{H:Hp}{a:ZE}{us:YE}(e:K=K')(h:SqL K' H a us):SqL K H a us:=(e▸h)
def zw{σ:St}{H:Hp}{R:It->Hp->Prop}{ι:Ix}{h h1:AH}{en:En}{v:AV}{xs:YF}{w:Option Nat}(hK:X.K=T.K)(S:Sim T ι h H)(er:ER T ι H en σ)(e:sa en h=.ok v h1)(hv:(v=.fl xs/\w=none)\/∃ n,v=.ref n/\h1[n]?=some (.lst xs)/\w=some n)
  (q:∀ ι' H' J,Grow ι H ι' H'->Sim T ι' h1 H'->i7 T J ι' H' xs w->R J H'):xZ X.K (tE T E sa) σ H R:=by
 refine⟨ι,h,en,S,er,?_⟩
 rw[e];intro ι1 H1 u g1 S1 r1
 rcases hv with⟨rfl,rfl⟩|⟨n,rfl,hn,rfl⟩
 ·cases r1 with
  |fl n hr rs=>exact⟨_,rfl,⟨_,qM hK (.inl hr)⟩,q ι1 H1 _ g1 S1 (hK▸zr (zv n hr) rs)⟩
  |kfl hr rs=>exact⟨_,rfl,⟨_,qM hK (.inr hr)⟩,q ι1 H1 _ g1 S1 (hK▸zr (λ_ _ _=>.inr hr) rs)⟩
 ·cases r1 with
  |ref hr =>
   obtain⟨u,e1,us,rfl,rs⟩:=S1.obj n _ _ hn hr;exact⟨_,rfl,⟨_,.of e1⟩,q ι1 H1 _ g1 S1 (IL hr)⟩
def IU{σ:St}{H:Hp}{R:It->Hp->Prop}{ι:Ix}{h h1:AH}{en:En}{xs:YF}(hK:X.K=T.K)(S:Sim T ι h H)(er:ER T ι H en σ)(e:sa en h=.ok (.tup xs) h1)
  (q:∀ ι' H' J,Grow ι H ι' H'->Sim T ι' h1 H'->i7 T J ι' H' xs none->R J H'):nW X.K (tE T E sa) σ H R:=by
 refine⟨ι,h,en,S,er,?_⟩
 rw[e];intro ι1 H1 u g1 S1 r1
 cases r1 with
 |tup n hr rs=>exact⟨_,rfl,⟨_,.of hr⟩,q ι1 H1 _ g1 S1 (hK▸IK (IT n hr) rs)⟩
def IV{y:Str}{py:Pos}(hK:X.K=T.K)(ha:aD T E X a sa):lH T X (.Name y py) a (dM sa) :=(
 qL (PI.or (EE ha) (PI.or (EF ha) (GY ha))) λσ H R=>E6x λι h en S er q=>by
  unfold dM at q
  cases e:sa en h with
  |bad=>rw[e] at q;exact q.elim
  |ex c h1=>rw[e] at q;exact q.elim
  |ok v h1 =>
   rw[e] at q
   cases v with
   |fl xs=>exact .inl (zw hK S er e (.inl ⟨rfl,rfl⟩) q)
   |tup xs=>exact .inr (.inl (IU hK S er e q))
   |str z =>
    refine .inr (.inr ⟨ι,h,en,S,er,?_⟩)
    rw[e];intro ι1 H1 u g1 S1 r1
    obtain⟨rfl,_,o⟩:=dS r1;exact⟨_,rfl,q ι1 H1 _ g1 S1 (IM o)⟩
   |ref n =>
    dsimp only[Out.bind] at q
    cases e2:h1[n]? with
    |none=>rw[e2] at q;exact q.elim
    |some o =>
     rw[e2] at q
     cases o with
     |lst xs=>exact .inl (zw hK S er e (.inr ⟨n,rfl,e2,rfl⟩) q)
     |_=>exact q.elim
   |_=>exact q.elim)
def zx {tg:Expr} {p:Pos} (hg:Gl X "range") (hm:X.mg "range"=none) (ha:aD T E X a sa) (hs:‹starEach [a] X.env=[(false,eval a X.env)]›):lH T X tg (.Call (.Name "range" p) [a] [] pos) (iZ sa) :=(
 qL (EI hg hm (ak ha aA hs) hs) λσ H R=>E6x λι h en S er q=>by
  unfold iZ at q;refine⟨ι,h,en,S,er,?_⟩
  unfold ah
  cases e:sa en h with
  |bad=>rw[e] at q;exact q
  |ex c h1=>rw[e] at q;exact q.elim
  |ok v h1 =>
   rw[e] at q;intro ι1 H1 u g1 S1 r1
   dsimp only[Out.bind] at q
   cases v with
   |int j =>
    dsimp only at q;split at q
    ·rename_i hx
     split at hx
     ·rename_i hb
      cases hx
      cases r1 with
      |cons r r' =>
       cases r'
       rw[bE r];exact⟨j,rfl,by lia,by lia,q ι1 H1 _ g1 S1 IS⟩
     ·cases hx
    ·exact q.elim
   |_=>exact q.elim)
def zy {p tp:Pos} {es:YD} {k:Nat} (hK:X.K=T.K) (hg:Gl X "enumerate") (hm:X.mg "enumerate"=none) (ha:aD T E X a sa) (hs:‹starEach [a] X.env=[(false,eval a X.env)]›):lH T X (.Tuple es k tp) (.Call (.Name "enumerate" p) [a] [] pos) (Sm.iEnum sa) :=(
 qL (GU hg hm (ak ha aA hs) hs) λσ H R=>E6x λι h en S er q=>by
  unfold Sm.iEnum at q;refine⟨ι,h,en,S,er,?_⟩
  unfold ah
  cases e:sa en h with
  |bad=>rw[e] at q;exact q
  |ex c h1=>rw[e] at q;exact q.elim
  |ok v h1 =>
   rw[e] at q;intro ι1 H1 u g1 S1 r1
   dsimp only[Out.bind] at q
   cases v with
   |fl xs =>
    cases r1 with
    |cons r r' =>
     cases r'
     cases r with
     |fl n hr rs=>exact⟨_,rfl,⟨_,qM hK (.inl hr)⟩,q ι1 H1 _ g1 S1 (hK▸zu (zv n hr) rs)⟩
     |kfl hr rs=>exact⟨_,rfl,⟨_,qM hK (.inr hr)⟩,q ι1 H1 _ g1 S1 (hK▸zu (λ_ _ _=>.inr hr) rs)⟩
   |_=>exact q.elim)
def zA{α:Type}{xs:List α}{i:Nat}(h:i<xs.length):xs.drop i=xs[i]::xs.drop (i+1):=by simp
def IW(g:TG)(tb:TS)(D:cR)(σ:St)(H1:Hp)(J:It):Prop:=∃ W:Nat->Nat->St->Hp->Prop,(∃ m,W 0 m σ H1)/\∀ i m σ H,W i m σ H->(J.stop i H/\D.nx σ H)\/(J.go i H/\∃ N:St->Hp->Prop,(∀ σ' H',N σ' H'->∃ m',m'<m/\W (i+1) m' σ' H')/\∀ x H',J.yld i H x H'->g x σ H' λσ' H''=>tb { D with nx:=N,ct:=N,bk:=D.nx } σ' H'')
def IX{g:TG}{t:Tg}{J:It}{ι1:Ix}{h1:AH}{H1:Hp}{en:En}{σ:St}{D:cR}{w:Option Nat}{all ys:YF}
  (hg2:∀ {ι:Ix} {h:AH} {H:Hp} {en e:En} {σ:St} {v:AV} {u:V} {Q:St->Hp->Prop},Sim T ι h H->ER T ι H en σ->RV T ι H v u->fA t v en=some e->(∀ σ',ER T ι H e σ'->Q σ' H)->g u σ H Q)
  (S1:Sim T ι1 h1 H1)(er:ER T ι1 H1 en σ)(IR:oB T J ι1 H1 ys (gA w all))(q:PostS T ι1 H1 E (gP w all t s1 ys en h1) D):IW g (tS T EN s1) D σ H1 J:=by
 refine⟨λi m σ H=>m=ys.length-i/\i<=ys.length/\∃ ι' h' en',Grow ι1 H1 ι' H/\Sim T ι' h' H/\ER T ι' H en' σ/\PostS T ι' H E (gP w all t s1 (ys.drop i) en' h') D,
  ⟨ys.length,by simp,Po _,ι1,h1,en,S1.refl,S1,er,q⟩,?_⟩
 rintro i m σ H ⟨rfl,hi,ι',h',en',g',S',er',q'⟩
 by_cases hl:i<ys.length
 ·rw[zA hl] at q'
  unfold gP at q'
  split at q'
  ·rename_i hlive
   obtain⟨go,yld⟩:=IR.go i ι' h' H ys[i] g'.ext S' hlive (by simp[hl]);refine .inr ⟨go,λσ H=>∃ ι' h' en',Grow ι1 H1 ι' H/\Sim T ι' h' H/\ER T ι' H en' σ/\PostS T ι' H E (gP w all t s1 (ys.drop (i+1)) en' h') D,
    λσ' H' w'=>⟨ys.length-(i+1),by lia,rfl,hl,w'⟩,λx H' y=>?_⟩
   obtain⟨g2,S2,r2⟩:=yld x H' y;split at q'
   ·rename_i e1 he1
    refine hg2 S2 (er'.mono g2) r2 he1 λσ' er2=>⟨ι',h',e1,S2,er2,?_⟩
    have q2:=PostS.shift q' g2
    cases e2:s1 e1 h' with
    |nx e3 h3=>rw[e2] at q2;exactλι3 H3 σ3 g3 S3 er3=>⟨ι3,h3,e3,g'.trans (g2.trans g3),S3,er3,q2.shift g3⟩
    |ct e3 h3=>rw[e2] at q2;exactλι3 H3 σ3 g3 S3 er3=>⟨ι3,h3,e3,g'.trans (g2.trans g3),S3,er3,q2.shift g3⟩
    |bk e3 h3=>rw[e2] at q2;exact q2
    |rt v h3=>rw[e2] at q2;exact q2
    |ex c e3 h3=>rw[e2] at q2;exact(show False from q2).elim
    |bad=>rw[e2] at q2;exact q2
   ·exact(show False from q').elim
  ·exact(show False from q').elim
 ·have ei:i=ys.length:=by lia
  subst ei;rw[List.drop_length] at q';unfold gP at q'
  split at q'
  ·rename_i hlive
   exact .inl ⟨IR.stop _ ι' h' H g'.ext S' hlive (OV _),q' ι' H σ S'.refl S' er'⟩
  ·exact(show False from q').elim
def zB{tg iter:Expr}{it:SI}{t:Tg}(hc:X.calm=true)(hi:lH T X.nox tg iter it)(hg:qI T X.nox tg t)(hb:cI T EN X.nox sts s1)(hs:autoParam (∀ x,foldedSetIterable iter X.nox.env x=pure x) L2.Ez._auto_1) :
  gz T E X (.For tg iter sts [] pos) (df it t s1):=by
 obtain⟨g,hg1,hg2⟩:=hg;refine hZ (Iu (EK PassesOwn.never hc hi hg1 hb hs)) λD σ H=>E6x λι h en S er q=>⟨ι,h,en,S,er,?_⟩
 unfold df at q
 cases e:it en h with
 |bad=>rw[e] at q;exact q
 |ex c h1=>rw[e] at q;exact q
 |ok p h1 =>
  obtain⟨xs,w⟩:=p;rw[e] at q;intro ι1 H1 J g1 S1 IR
  exact IX hg2 S1 (er.mono g1) IR (PostS.shift q g1)
def ER.comp{ι:Ix}{H:Hp}{en:En}{σ:St}{ys:YF}{us:YE}{jf:List (Nat×Str)}(er:ER T ι H en σ)(r:RVs T ι H ys us):ER T ι H (ys.map some++(jf.map (·.1)).map λj=>(en[j]?).join) (fP (us.map some) jf σ):=by
 unfold fP;induction ys generalizing us with
 |nil =>
  cases r
  refine⟨by simp,λi v e=>?_⟩
  simp only[QK,QN,Pr] at e ⊢
  cases e1:jf[i]? with
  |none=>rw[e1] at e;cases e
  |some j =>
   rw[e1] at e;simp only[Option.map_some,Option.some.injEq] at e
   have e2:en[j.1]?=some (some v):=by
    cases e3:en[j.1]? with
    |none=>rw[e3] at e;cases e
    |some o=>rw[e3] at e;exact congrArg some e
   obtain⟨u',e4,r'⟩:=er.2 j.1 v e2;exact⟨u',by simp[e4],r'⟩
 |cons y ys ih =>
  cases r with
  |cons r rs =>
   obtain⟨h1,h2⟩:=ih rs;refine⟨congrArg Nat.succ h1,λi v e=>?_⟩
   cases i with
   |zero=>cases e;exact⟨_,rfl,r⟩
   |succ i=>exact h2 i v e
def jG(T:Tb)(k:Nat)(g:TG)(cc' cc:SB)(ce' ce:SE):Prop:=∀ x,(∀ r h,cc' (some x::r) h=.bad)\/∃ ys:YF,ys.length=k/\(∀ r h,cc' (some x::r) h=cc (ys.map some++r) h)/\(∀ r h,ce' (some x::r) h=ce (ys.map some++r) h) /\
 ∀ (ι:Ix) (H:Hp) (u:V),RV T ι H x u->∃ us,RVs T ι H ys us/\∀ (σ:St) (Q:St->Hp->Prop),Q (us.map some++σ) H->g u (List.replicate k none++σ) H Q
def uS{cc:SB}{ce:SE}:jG T 1 (mO 0) cc cc ce ce:=(λx=>.inr ⟨[x],rfl,λ_ _=>rfl,λ_ _=>rfl,λ_ _ u r=>⟨[u],.cons r .nil,λ_ _ q=>q⟩⟩)
structure CoS(T:Tb)(ι1:Ix)(H1:Hp)(en:En)(σ:St)(D:ZE)(ι':Ix)(h':AH)(vs:YF)(ys:YE)(H2:Hp):Prop where
 hD:H2 D=some (.lst ys)
 g:Grow ι1 H1 ι' H2
 x:Ext ι1 H1 (ι'.hide D) H2
 S:Sim T (ι'.hide D) h' H2
 er:ER T (ι'.hide D) H2 en σ
 rv:RVs T (ι'.hide D) H2 vs ys
 nD:D∉ι'.refs
def zC{ι' ι5:Ix}{D:ZE}(e:ι5.priv=(ι'.hide D).priv):ι5=Ix.hide ⟨ι5.refs,ι'.priv⟩ D:=by
 cases ι5
 simp only at e
 subst e;rfl
def IY{ι1 ι' ι5:Ix}{H1 H2 H5:Hp}{D:ZE}(g':Grow ι1 H1 ι' H2)(g:Grow (ι'.hide D) H2 ι5 H5):Grow ι1 H1 ⟨ι5.refs,ι'.priv⟩ H5:=by
 obtain⟨n,en1,hn⟩:=g'.pre;obtain⟨k,ek,hk⟩:=g.pre;refine⟨⟨n++k,?_,λa ha=>?_⟩,g'.priv,λa o na ea=>g.keep a o (g'.outR na ea) (g'.keep a o na ea),λa ha=>g.live a ?_⟩
 ·show ι5.refs=_;rw[ek];show ι'.refs++k=_;rw[en1,R3]
 ·rcases PH.mp ha with z|z
  ·exact hn a z
  ·have z2:=hk a z
   by_cases hr:a∈ι1.refs
   ·exact absurd z2 (g'.live a (Pk _ hr))
   ·cases e9:H1 a with
    |none=>rfl
    |some o=>rw[g'.keep a o hr e9] at z2;cases z2
 ·rcases PH.mp ha with z|z
  ·exact Pk _ (by show a∈ι'.refs;rw[en1];exact Pk _ z)
  ·exact Pn _ (Pt _ (by rw[g'.priv];exact z))
section
variable{ι ι1 ι' ι5:Ix}{H H1 H2 H5:Hp}{h1 h' h5:AH}{en:En}{σ:St}{D:ZE}{vs:YF}{ys:YE}
def CoS.skip(c:CoS T ι1 H1 en σ D ι' h' vs ys H2)(g:Grow (ι'.hide D) H2 ι5 H5)(S:Sim T ι5 h5 H5):CoS T ι1 H1 en σ D ⟨ι5.refs,ι'.priv⟩ h5 vs ys H5:=by
 have e:=zC g.priv;exact⟨g.keep D _ c.nD c.hD,IY c.g g,e▸c.x.trans g.ext,e▸S,e▸c.er.mono g,e▸c.rv.mono g,g.outR c.nD c.hD⟩
def CoS.poke{v:AV}{u:V}(c:CoS T ι1 H1 en σ D ι' h' vs ys H2)(hD:H1 D=none)(r:RV T (ι'.hide D) H2 v u):CoS T ι1 H1 en σ D ι' h' (vs++[v]) (ys++[u]) (upd H2 D (.lst (ys++[u]))):=by
 refine⟨dH,⟨c.g.pre,c.g.priv,λa o na ea=>by rw[bg (fN ea hD)];exact c.g.keep a o na ea,λa ha=>?_⟩,c.x.trans Ext.poke,Sim.poke c.S c.nD,ER.ext c.er Ext.poke,RVs.ext Ext.poke (c.rv.append (.cons r .nil)),c.nD⟩
 by_cases z:a=D
 ·subst z;rw[dH];simp
 ·rw[bg z];exact c.g.live a ha
def CoS.push{v:AV}{u:V}(c:CoS T ι1 H1 en σ D ι' h' vs ys H2)(hD:H1 D=none)(g:Grow (ι'.hide D) H2 ι5 H5)(S:Sim T ι5 h5 H5)(r:RV T ι5 H5 v u):CoS T ι1 H1 en σ D ⟨ι5.refs,ι'.priv⟩ h5 (vs++[v]) (ys++[u]) (upd H5 D (.lst (ys++[u]))) :=(
 (c.skip g S).poke hD ((zC g.priv)▸r))
def CoS.fin(c:CoS T ι1 H1 en σ D ι' h' vs ys H2)(g1:Grow ι H ι1 H1)(S1:Sim T ι1 h1 H1)(hD:H1 D=none):D∉ι'.all/\∀ n,ι'.refs=ι.refs++n->∀ a∈n++[D],H a=none:=by
 refine⟨λz=>(PH.mp z).elim c.nD λz=>by rw[c.g.priv] at z;exact S1.plive D z hD,λn en1 a ha=>?_⟩
 obtain⟨k,ek,hk⟩:=(g1.trans c.g).pre;have:n=k:=List.append_cancel_left (en1.symm.trans ek)
 subst this;rcases PH.mp ha with z|z
 ·exact hk a z
 ·have z':a=D:=by simpa using z
  subst z'
  cases e9:H a with
  |none=>rfl
  |some o =>
   by_cases hr:a∈ι.refs
   ·obtain⟨k1,ek1,_⟩:=g1.pre
    exact absurd hD (S1.live a (Pk _ (by rw[ek1];exact Pk _ hr)))
   ·rw[g1.keep a o hr e9] at hD;cases hD
def CoS.start(er:ER T ι H en σ)(g1:Grow ι H ι1 H1)(S1:Sim T ι1 h1 H1)(hD:H1 D=none):CoS T ι1 H1 en σ D ι1 h1 [] [] (upd H1 D (.lst [])) :=(
 ⟨dH,S1.growNew hD,Ext.hide hD,S1.hide hD,(er.mono g1).ext (Ext.hide hD),.nil,λz=>S1.fresh hD (Pk _ z)⟩)
end
def qN(T:Tb)(ι:Ix)(H:Hp)(Q:VK)(o:Out YF):Prop:=match o with
 |.ok ys h2=>∀ ι' H' D vs,Grow ι H ι' H'->Sim T (ι'.hide D) h2 H'->RVs T (ι'.hide D) H' ys vs->H' D=some (.lst vs)->D∉ι'.all->(∀ n,ι'.refs=ι.refs++n->∀ a∈n++[D],H a=none)->Q (.ref D) H'
 |_=>False
def zD{k:Nat}{g:TG}{cc' cc:SB}{ce' ce:SE}{jf:List (Nat×Str)}{σ:St}{H H1:Hp}{Q:VK}{ι ι1:Ix}{h1:AH}{en:En}{xs:YF}{L:AH->Bool}{J:It}(U:jG T k g cc' cc ce' ce)(er:ER T ι H en σ)(g1:Grow ι H ι1 H1)(S1:Sim T ι1 h1 H1)
  (IR:oB T J ι1 H1 xs L)(q:qN T ι H Q (gQ (jf.map (·.1)) en L cc' ce' xs [] h1)):ur k g jf (tT T EN cc) (tE T EN ce) σ Q J H1:=by
 intro D hD;refine⟨λi m ys H2=>m=xs.length-i/\i<=xs.length/\∃ ι' h' vs,CoS T ι1 H1 en σ D ι' h' vs ys H2/\qN T ι H Q (gQ (jf.map (·.1)) en L cc' ce' (xs.drop i) vs h'),⟨xs.length,rfl,Po _,ι1,h1,[],CoS.start er g1 S1 hD,q⟩,?_⟩
 rintro i m ys H2 ⟨rfl,hi,ι',h',vs,c,q'⟩
 refine⟨c.hD,?_⟩
 by_cases hl:i<xs.length
 ·rw[zA hl] at q'
  unfold gQ at q'
  by_cases hs:L h'=true/\vs.length<sizeLine
  ·rw[OX hs] at q'
   obtain⟨go,yld⟩:=IR.go i _ h' H2 xs[i] c.x c.S hs.1 (by simp[hl]);refine .inr ⟨go,by rw[<- c.rv.length];exact hs.2,λx H3 y=>?_⟩
   obtain⟨g3,S3,r3⟩:=yld x H3 y;rcases U xs[i] with z|⟨zs,lz,z1,z2,z3⟩
   ·rw[z] at q';exact False.elim q'
   obtain⟨us,rs,gq⟩:=z3 _ _ _ r3;have er3:=ER.comp (jf:=jf) (c.er.mono g3) rs;rw[z1] at q';refine⟨us,by rw[<- rs.length];exact lz,gq _ _ ⟨rfl,rfl⟩,ι'.hide D,h',_,S3,er3,?_⟩
   cases ec:cc (zs.map some++(jf.map (·.1)).map λj=>(en[j]?).join) h' with
   |bad=>rw[ec] at q';exact q'
   |ex k h5=>rw[ec] at q';exact False.elim q'
   |ok bb h5 =>
    rw[ec] at q';intro ι5 H5 b5 g5 S5 r5
    subst r5
    cases bb with
    |false =>
     rw[O0 Pe];exact⟨xs.length-(i+1),by lia,rfl,hl,_,h5,vs,c.skip (g3.trans g5) S5,q'⟩
    |true =>
     rw[OX rfl];refine⟨ι5,h5,_,S5,er3.mono g5,?_⟩
     dsimp only at q';rw[z2] at q'
     cases ee:ce (zs.map some++(jf.map (·.1)).map λj=>(en[j]?).join) h5 with
     |bad=>rw[ee] at q';exact q'
     |ex k h6=>rw[ee] at q';exact False.elim q'
     |ok v h6 =>
      rw[ee] at q';intro ι6 H6 u6 g6 S6 r6
      have g36:=(g3.trans g5).trans g6;exact⟨g36.keep D _ c.nD c.hD,xs.length-(i+1),by lia,rfl,hl,_,h6,vs++[v],c.push hD g36 S6 r6,q'⟩
  ·rw[O0 hs] at q';exact False.elim q'
 ·have ei:i=xs.length:=by lia
  subst ei;rw[List.drop_length] at q';unfold gQ at q'
  by_cases hs:L h'=true
  ·rw[OX hs] at q'
   have f:=c.fin g1 S1 hD;exact .inl ⟨IR.stop _ _ h' H2 c.x c.S hs (OV _),q' ι' H2 D ys (g1.trans c.g) c.S c.rv c.hD f.1 f.2⟩
  ·rw[O0 hs] at q';exact False.elim q'
def IZ{k:Nat}{g:TG}{cc' cc:SB}{ce' ce:SE}{jf:List (Nat×Str)}{σ:St}{H H1:Hp}{Q:VK}{ι ι1:Ix}{h1:AH}{en:En}{xs all:YF}{w:Option Nat}{J:It}(U:jG T k g cc' cc ce' ce)(er:ER T ι H en σ)(g1:Grow ι H ι1 H1)(S1:Sim T ι1 h1 H1)
  (IR:oB T J ι1 H1 xs (gA w all))(q:qN T ι H Q (dN (jf.map (·.1)) en w all cc' ce' xs [] h1)):ur k g jf (tT T EN cc) (tE T EN ce) σ Q J H1:=(zD U er g1 S1 IR (by rw[<- ou];exact q))
end
end Sm
namespace Sm
open PySem PySem.Spec L2
section
variable{T:Tb}{E:St->XK}{X:Cx}{pos px:Pos}{iter elt:Expr}{ifs:YD}{scope:Scope}{x₁:Str}{jf:List (Nat×Str)}{it:SI}{cc:SB}{ce:SE}
def I0{ι:Ix}{H:Hp}{Q:VK}{F:XK}{o:Out YF}(q:Post T ι H F (RV T) (match o with|.ok ys h2=>.ok (.fl ys) h2|_=>.bad) Q):qN T ι H Q o:=by
 cases o with
 |bad=>exact q
 |ex c h1=>exact q.elim
 |ok ys h2=>exactλι' H' D vs g S' r hD nD _=>q ι' H' _ g S'.show (.fl nD (.inl hD) (r.ext Ext.show))
def zE{k:Nat}{g:TG}{cc':SB}{ce':SE}{σ:St}{H:Hp}{Q:VK}(U:jG T k g cc' cc ce' ce)(q:tE T E (dW (jf.map (·.1)) it cc' ce') σ H Q):oj k g jf (tI T it) (tT T EN cc) (tE T EN ce) σ H Q:=by
 obtain⟨ι,h,en,S,er,q⟩:=q;refine⟨ι,h,en,S,er,?_⟩
 unfold dW at q
 cases e:it en h with
 |bad=>rw[e] at q;exact q
 |ex c h1=>rw[e] at q;exact q.elim
 |ok p h1=>rw[e] at q;exactλι1 H1 J g1 S1 IR=>IZ U er g1 S1 IR (I0 q)
def uT:jr X [] (tT T E aY):=(λpins s σ H Q I ⟨ι,h,en,S,er,q⟩=>G0 pins s σ H Q I (q.now S rfl))
def qO(C:CompOk X [x₁] jf scope)(hcalm:X.calm=true)(hi:lH T X (.Name x₁ px) iter it)(hc:∀ pins cl s H fp,jr (cz X pins [x₁] jf scope cl s H fp) ifs (tT T EN cc))(he:∀ pins cl s H fp,aD T EN (cz X pins [x₁] jf scope cl s H fp) elt ce)
  (hs:autoParam (∀ x,foldedSetIterable iter X.env x=pure x) L2.Ez._auto_1):aD T E X (.ListComp elt [⟨.Name x₁ px,iter,ifs,0⟩] scope pos) (dW (jf.map (·.1)) it cc ce) :=(
 bO (yG hcalm (λ_ _ _ _ _=>C.pg 0 rfl (.head _)) hi hc he C hs) λ_ _ _ q=>zE uS q)
def Ja{y:Str}{py spos:Pos}{i:Nat}(C:CompOk X [x₁] jf scope)(hcalm:X.calm=true)(hi:lH T X (.Name x₁ px) iter it)(hc:∀ pins cl s H fp,jr (cz X pins [x₁] jf scope cl s H fp) ifs (tT T EN cc))(he:∀ pins cl s H fp,aD T EN (cz X pins [x₁] jf scope cl s H fp) elt ce)
  (hNX:X.N.Nodup)(hi':‹X.N[i]?=some y›)(hy:‹X.env.scope.names.lookup y=some .local›)(hsw:‹swapsWith (.ListComp elt [⟨.Name x₁ px,iter,ifs,0⟩] scope pos) (some (.Name y py)) spos.line X.env=pure true›)(hs:autoParam (∀ x,foldedSetIterable iter X.env x=pure x) L2.Ez._auto_1) :
  gz T E X (.Assign [.Name y py] (.ListComp elt [⟨.Name x₁ px,iter,ifs,0⟩] scope pos) spos) (ar i (dW (jf.map (·.1)) it cc ce)) :=(
 hZ (G5 hcalm (λ_ _ _ _ _=>C.pg 0 rfl (.head _)) hi hc he C hNX hi' hy hsw hs) λD σ H q=>zE uS (zk q))
end
def iC(T:Tb)(F:Fn):Sp:=λvs H Q E=>∃ ι h args,Sim T ι h H/\RVs T ι H args vs/\Post T ι H E (RV T) (F args h) Q
def Jb(F:Fn)(n:Nat):Prop:=∀ args h,args.length≠n->F args h=.bad
def zF(n m:Nat)(b:SS):Jb (aw n m b) n:=(λargs h hl=>by
 unfold aw;rw[O0 hl])
def qP{P:ZD}{w:ZF}{K:ZA}{mg:YA}{base:Heap}{T:Tb}{x qual:Str}{st:Stmt}{f:ZE}{fd:FuncData}{N ps:List Str}{k:Nat}{b:SS}(F:Fun K x qual st f fd)(hK:K=T.K)(S:aC N ps (bK st))
  (hbody:∀ (cdv:ZC) (A:ZG) (outer:List Env) (s:ZB) (H:Hp) (E:XK),Room k (A.deeper (PyProof.Rows.envOfC qual (bK st) s.heap.objs.size f cdv))->CA T (λ_=>E) (bX (cO P w) P w K mg base N qual (bK st) f cdv A outer s H E) ->
   cI T (λ_=>E) (bX (cO P w) P w K mg base N qual (bK st) f cdv A outer s H E) (iX st) b):FnOk P w K mg base (cO P w) (k+1) f fd ps (iC T (aw ps.length N.length b)):=by
 refine F.okE S (λvs H Q E h=>?_) (λcdv A outer s H vs Q E hr h=>?_)
 ·obtain⟨ι,h,args,_,r,q⟩:=h
  by_cases hl:args.length=ps.length
  ·rw[<- hl,r.length]
  ·rw[zF _ _ _ args h hl] at q;exact q.elim
 ·obtain⟨ι,h,args,Si,r,q⟩:=h
  refine⟨_,hbody cdv A outer s H E hr ⟨hK,Hs⟩,ι,h,args.map some++List.replicate (N.length-ps.length) none,Si,?_,?_⟩
  ·by_cases hl:args.length=ps.length
   ·refine⟨by simp[L2.start,r.length,<- hl],λi v e=>?_⟩
    unfold L2.start;by_cases hi:i<args.length
    ·rw[O3 (by simpa using hi),Pr] at e
     rw[O3 (by simpa[<- r.length] using hi),Pr];obtain⟨x,e1,e2⟩:=Pd.mp e
     cases e2
     obtain⟨u,e3,r3⟩:=r.get e1;exact⟨u,by rw[e3];rfl,r3⟩
    ·rw[Pl (by simpa using hi),Qn] at e
     split at e
     ·cases e
     ·cases e
   ·rw[zF _ _ _ args h hl] at q;exact q.elim
  ·unfold aw at q
   split at q
   ·split at q
    ·rename_i e1 h1 he
     rw[he];exactλι' H' σ' g S' er=>q ι' H' _ g S' .non
    ·rename_i v h1 he
     rw[he];exact q
    ·rename_i c e1 h1 he
     rw[he];exactλι' H' σ' C g S' er ec=>q ι' H' C g S' ec
    ·exact q.elim
   ·exact q.elim
structure GF(P:ZD)(w:ZF)(T:Tb)(mg:YA)(base:Heap)(k:Nat)(x:Str)(F:Fn):Prop where
 ex:∃ f fd ps,mg x=some (.ref f)/\PySem.W.keepIn T.K (.ref f)=true/\Binds T.K fd ps []/\FnOk P w T.K mg base (cO P w) k f fd ps (iC T F)
structure GM(P:ZD)(w:ZF)(T:Tb)(mg:YA)(base:Heap)(k:Nat)(c:Nat)(m:Str)(F:Fn):Prop where
 ex:∃ C f fd ps,T.cls c=some C/\Cls T.K C/\iw T.K C m f/\Binds T.K fd ps []/\FnOk P w T.K mg base (cO P w) k f fd ps (iC T F)
 no:m∉T.fields c
section
variable{T:Tb}{E:St->XK}{X:Cx}{pos p apos:Pos}{e o a:Expr}{es:YD}{x m:Str}{F:Fn}{k c:Nat}{as:SL}{so sa:SE}
def cn (hK:X.K=T.K) (C:CA T E X) (G:GF X.prog X.w T X.mg X.base k x F) (hr:Room k X.A) (hg:Gl X x) (ha:fQ T E X (e::es) as) (hdb:((x == ("__debug__" : Str))=false)⁻¹)
  (he:‹qE1 e es X.env›) (hpl:‹qF1 pos es X.env›):aD T E X (.Call (.Name x p) (e::es) [] pos) (au F as):=by
 obtain⟨f,fd,ps,h1,h2,h3,h4⟩:=G.ex;refine bO (Hw (Ex:=E) (dvs:=[]) (hK▸h4) hr hg h1 (hK▸h2) (hK▸h3) .nil C.pass ha hdb he hpl) λσ H Q=>E6x λι h en S er q=>⟨ι,h,en,S,er,q.bind λxs h1 ι1 H1 us g1 S1 r1 q1=>?_⟩
 rw[Q3];exact⟨ι1,h1,xs,S1,r1,q1⟩
def zG{C:ZE}{σ:St}{H:Hp}{Q:VK}(hc:T.cls c=some C)(no:m∉T.fields c)(q:tE T E (aB c F so as) σ H Q):yR C m (iC T F) [] E (tE T E so) (tA T E as) σ H Q:=by
 obtain⟨ι,h,en,S,er,q⟩:=q;refine⟨ι,h,en,S,er,q.bind λx h1 ι1 H1 u g1 S1 r1 q1=>?_⟩
 split at q1
 ·rename_i n
  split at q1
  ·rename_i c' fs hn
   split at q1
   ·rename_i ec
    subst ec
    cases r1 with
    |@ref _ a hr =>
     obtain⟨o,e1,C',dx,fus,hC,rfl,nd,hw,hl,_⟩:=S1.obj n _ a hn hr;rw[hc] at hC;cases hC
     refine⟨a,dx,fus,rfl,e1,?_,ι1,h1,en,S1,er.mono g1,q1.bind λxs h2 ι2 H2 us g2 S2 r2 q2=>?_⟩
     ·cases e:fus.lookup m with
      |none=>rfl
      |some v =>
       have:=Qa e;exact absurd (hw _ this) no
     ·rw[Q3]
      exact⟨ι2,h2,.ref n::xs,S2,.cons (.ref (g2.at hr)) r2,q2⟩
   ·exact q1.elim
  ·exact q1.elim
 ·exact q1.elim
def qQ{pl:Sem Bool}(hK:X.K=T.K)(CC:CA T E X)(G:GM X.prog X.w T X.mg X.base k c m F)(hr:Room k X.A)(ho:aD T E X o so)(ha:fQ T E X (e::es) as)
  (hst:‹qE1 e es X.env›)(hpl:‹qF1 pos es X.env›)
  (ht:‹eval (.Call (.Attribute o m apos) (e::es) [] pos) X.env=(do
   let ov <- eval o X.env
   standAt apos.atName
   let (f,first) <- holding [ov] (getMethod ov m pl)
   callWith pos f first (backTo pos (starEach (e::es) X.env)) (backToKw pos (keywordEach [] X.env)))›):aD T E X (.Call (.Attribute o m apos) (e::es) [] pos) (aB c F so as):=by
 obtain⟨C,f,fd,ps,h1,h2,h3,h4,h5⟩:=G.ex;exact bO (Hx (Ex:=E) (dvs:=[]) (pl:=pl) ho (hK▸h2) (hK▸h3) (hK▸h5) hr (hK▸h4) .nil CC.pass ha hst hpl ht) λσ H Q q=>zG h1 G.no q
def lI{pl:Sem Bool}(hK:X.K=T.K)(CC:CA T E X)(G:GM X.prog X.w T X.mg X.base k c m F)(hr:Room k X.A)(ho:aD T E X o so)
  (ht:‹eval (.Call (.Attribute o m apos) [] [] pos) X.env=(do
   let ov <- eval o X.env
   standAt apos.atName
   let (f,first) <- holding [ov] (getMethod ov m pl)
   callWith pos f first (backTo pos (starEach [] X.env)) (backToKw pos (keywordEach [] X.env)))›):aD T E X (.Call (.Attribute o m apos) [] [] pos) (aB c F so af):=by
 obtain⟨C,f,fd,ps,h1,h2,h3,h4,h5⟩:=G.ex;intro pins s σ H Q I q;have q':=zG (C:=C) h1 G.no q;refine SV (pl:=pl) (thn (ho pins s σ H _ I q') λu s1 Zz=>?_) ht;obtain⟨x,H1,I1,rx,a,dx,fs,ex,ea,l,q⟩:=Zz
 subst ex;obtain rfl:u=Value.ref a:=rx
 refine ye I1 ea (hK▸h2) (hK▸h3) l ?_
 obtain⟨ι,h,en,S,er,q⟩:=q;refine TB (first:=[.ref a]) I1.kIn (hK▸h3.kp) (qw (dvs:=[]) (us:=[.ref a]) (vs:=[.ref a]) (hK▸h5) hr (hK▸h4) .nil CC.pass I1 (.cons rfl .nil) (q.now S .nil))
structure CF(T:Tb)(c:Nat):Prop where
 ex:∃ C,T.cls c=some C/\Cls T.K C/\∀ f∈T.fields c,NoAttr T.K C f
structure GK(P:ZD)(w:ZF)(T:Tb)(mg:YA)(base:Heap)(k:Nat)(c:Nat)(x:Str)(F:Fn):Prop where
 ex:∃ C f fd ps,T.cls c=some C/\mg x=some (.ref C)/\Mk T.K C f/\Binds T.K fd ps []/\FnOk P w T.K mg base (cO P w) k f fd ps (iC T F)
def Jc{CX:fO}{C f:ZE}{fd:FuncData}{ps:List Str}{sp:Sp}{dvs:YE}{ds:YB}{pins:List (ZE×Obj)}{σ:St}{H:Hp}{s:ZB}{Q:VK}{us:YB}{vs:YE}(M:Mk X.K C f)(F:FnOk X.prog X.w X.K X.mg X.base CX k f fd ps sp)(hr:Room (k+1) X.A)(hb:Binds X.K fd ps ds)(hd:Vals dvs ds)
  (hx:lA CX X E)(I:L2.Inv X pins σ H s)(r:Vals vs us)
  (h:∀ x dx,H x=none->H dx=none->dx≠x->sp (.ref x::(vs++dvs)) (upd (upd H dx (.own x)) x (.ins C dx [])) (λv H2=>v=.non/\Q (.ref x) H2) (E σ)) :
  wpAny (model X.prog X.w) X.A (call (.ref C) us) (EP X pins σ Q) X.xe s:=by
 have hq:=h (s.heap.objs.size+1) s.heap.objs.size (I.hok.fresh (RY _)) (I.hok.fresh (OV _)) (Pq (Rx _));have I2:=Inv.made (C:=C) I;have r2:Vals (V.ref (s.heap.objs.size+1)::(vs++dvs)) (Value.ref (s.heap.objs.size+1)::(us++ds)):=.cons rfl (r.append hd);have hl:(Value.ref (s.heap.objs.size+1)::us++ds).length=ps.length:=by
  have e:=r2.length;rw[F.len _ _ _ _ hq] at e;exact e.symm
 refine RR (Fk (f:=f) I.kIn M.makes M.init (beq_iff_eq.mp M.fn) (SJ (F.run _ X.stack _ _ ⟨Value.ref (s.heap.objs.size+1)::us,[]⟩ (Value.ref (s.heap.objs.size+1)::(us++ds)) _ _ (E σ) (hr.make C us [])
  (I2.env0.make C us []) (hb _ (Value.ref (s.heap.objs.size+1)::us) I2.kIn hl) r2 hq) λr s' hq'=>?_))
 cases r with
 |error e=>exact hx pins σ _ _ e s' I2 hq'
 |ok fl =>
  cases fl with
  |ret u =>
   obtain⟨v,H',I3,rv,ev,q3⟩:=I2.after hq';subst ev;exact⟨rv,⟨V.ref (s.heap.objs.size+1),H',I3,rfl,q3⟩⟩
  |next=>exact False.elim hq'
  |brk=>exact False.elim hq'
  |cont=>exact False.elim hq'
def Jd{C:ZE}{xs:YF}{us:YE}{H:Hp}{Q:VK}{ι:Ix}{h:AH}{E:XK}{n:Nat}(hc:T.cls c=some C)(hn:(T.fields c).length=n)(S:Sim T ι h H)(r:RVs T ι H xs us)
  (q:Post T ι H E (RV T) (match F (.ref h.length::xs) (h++[.ins c (List.replicate n none)]) with|.ok .non h2=>Out.ok (AV.ref h.length) h2|.ex c h2=>.ex c h2|_=>.bad) Q) :
  ∀ x dx,H x=none->H dx=none->dx≠x->iC T F (.ref x::us) (upd (upd H dx (.own x)) x (.ins C dx [])) (λv H2=>v=.non/\Q (.ref x) H2) E:=by
 intro x dx nx ndx ne;have nx':(upd H dx (.own x)) x=none:=by rw[bg (Ne.symm ne)];exact nx
 have S1:=S.new (o:=.own x) ndx;have g1:=S.growNew (o:=.own x) ndx;have g2:=S1.growAdd (u:=.ins C dx []) nx';have S2:Sim T (ι.add x) (h++[.ins c (List.replicate n none)]) (upd (upd H dx (.own x)) x (.ins C dx [])):=S1.add nx' ⟨C,dx,[],hc,rfl,by simp,by simp,by simp[hn],λi v e=>by
  rw[Qn] at e;split at e
  ·cases e
  ·cases e⟩
 refine⟨ι.add x,_,.ref h.length::xs,S2,.cons (.ref S.addAt) (r.mono (g1.trans g2)),?_⟩
 have q2:=q.shift (g1.trans g2)
 cases e:F (.ref h.length::xs) (h++[.ins c (List.replicate n none)]) with
 |bad=>rw[e] at q2;exact q2
 |ex c' h2=>rw[e] at q2;exact q2
 |ok v h2 =>
  rw[e] at q2
  cases v with
  |non=>exactλι' H' u g S' r'=>⟨qC r',q2 ι' H' _ g S' (.ref (g.at S.addAt))⟩
  |_=>exact(show False from q2).elim
def uU {n:Nat} (hK:X.K=T.K) (CC:CA T E X) (G:GK X.prog X.w T X.mg X.base k c x F) (hr:Room (k+1) X.A) (hg:Gl X x) (hn:‹(T.fields c).length=n›) (hdb:((x == ("__debug__" : Str))=false)⁻¹):aD T E X (.Call (.Name x p) [] [] pos) (mS c n F af):=by
 obtain⟨C,f,fd,ps,h1,h2,h3,h4,h5⟩:=G.ex;intro pins s σ H Q I ⟨ι,h,en,S,er,q⟩;refine Rb (kW I hg h2 ?_ hdb)
 have M:Mk X.K C f:=hK▸h3;exact TB I.kIn M.kp (Jc (us:=[]) (vs:=[]) (dvs:=[]) M (hK▸h5) hr (hK▸h4) .nil CC.pass I .nil (Jd h1 hn S .nil q))
def lJ{i:Nat}{f:Str}(hK:X.K=T.K)(CFc:CF T c)(ho:aD T E X o so)(hf:‹(T.fields c)[i]?=some f›)(hb:‹attributeBase o f X.env (eval o X.env)=eval o X.env›):aD T E X (.Attribute o f pos) (Sm.sFld c i so):=by
 obtain⟨C,hC,hcl,hna⟩:=CFc.ex;refine bO (Fq ho hb) λσ H Q=>E6x λι h en S er q=>⟨ι,h,en,S,er,q.bind λx h1 ι1 H1 u g1 S1 r1 q1=>?_⟩
 split at q1
 ·rename_i n
  split at q1
  ·rename_i c' fs hn
   split at q1
   ·rename_i ec
    subst ec;split at q1
    ·rename_i v hv
     cases r1 with
     |@ref _ a hr =>
      obtain⟨o,e1,C',dx,fus,hC',rfl,nd,hw,hl,hr2⟩:=S1.obj n _ a hn hr;rw[hC] at hC';cases hC'
      obtain⟨f',u,e2,e3,r3⟩:=hr2 i v hv;rw[hf] at e2;cases e2
      exact⟨a,_,dx,fus,u,rfl,e1,hK▸hcl,hK▸hna f (Pm hf),e3,q1.now S1 r3⟩
    ·exact q1.elim
   ·exact q1.elim
  ·exact q1.elim
 ·exact q1.elim
theorem zH(f:Str)(v:V):∀ {fs:List (Str×V)},(fs.map (·.1)).Nodup->((bz f v fs).map (·.1)).Nodup/\∀ g,g∈(bz f v fs).map (·.1)->g=f\/g∈fs.map (·.1)
 |[],_=>by simp[bz]
 |(g,x)::r,n=>by
  obtain⟨n1,n2⟩:=PN.mp (show (g::r.map (·.1)).Nodup from n);unfold bz;split
  ·rename_i e
   subst e;exact⟨n,λk hk=>.inr hk⟩
  ·rename_i e
   obtain⟨h1,h2⟩:=zH f v (fs:=r) n2;refine⟨PN.mpr ⟨λz=>?_,h1⟩,λk hk=>?_⟩
   ·rcases h2 g z with z|z
    ·exact e z
    ·exact n1 z
   ·rcases Pb.mp hk with z|z
    ·exact .inr (by rw[z];simp)
    ·rcases h2 k z with z|z
     ·exact .inl z
     ·exact .inr (Pt _ z)
theorem zI:∀ {l m:List Str},l.Nodup->(∀ x∈l,x∈m)->l.length<=m.length
 |[],m,_,_=>Po _
 |x::l,m,n,h=>by
  obtain⟨n1,n2⟩:=PN.mp n;have hx:=h x 's';have:=zI (l:=l) (m:=m.erase x) n2 λy hy=>by
   have ne:y≠x:=λz=>n1 (z▸hy)
   exact(List.mem_erase_of_ne ne).mpr (h y (by simp[hy]))
  rw[List.length_erase_of_mem hx] at this;have:0<m.length:=List.length_pos_of_mem hx
  simp only[PU]
  lia
def mX{i:Nat}{f:Str}{p':Pos}(hK:X.K=T.K)(CFc:CF T c)(ho:aD T E X o so)(ha:aD T E X a sa)(hf:‹(T.fields c)[i]?=some f›)(hs:‹swapsWith a (some (.Attribute o f p')) pos.line X.env=pure false›) :
  gz T E X (.Assign [.Attribute o f p'] a pos) (gR c i so sa):=by
 obtain⟨C,hC,hcl,hna⟩:=CFc.ex;refine hZ (Fs ho ha hs) λD σ H=>E6x λι h en S er q=>⟨ι,h,en,S,er,q.go er λy h1 ι1 H1 v g1 S1 r1 q1=>⟨ι1,h1,en,S1,er.mono g1,q1.go (er.mono g1) λx h2 ι2 H2 u g2 S2 r2 q2=>?_⟩⟩
 split at q2
 ·rename_i n
  split at q2
  ·rename_i c' fs hn
   split at q2
   ·rename_i ec
    subst ec
    cases r2 with
    |@ref _ a hr =>
     obtain⟨o,e1,C',dx,fus,hC',rfl,nd,hw,hl,hr2⟩:=S2.obj n _ a hn hr;rw[hC] at hC';cases hC'
     have hmem:f∈T.fields c':=Pm hf;have hlen:fus.length<1000:=by
      have:=zI nd (m:=T.fields c') (λx hx=>by
       obtain⟨p,hp,rfl⟩:=Qk.mp hx;exact hw p hp)
      have:=T.few c';rw[O2] at *
      lia
     obtain⟨k1,k2⟩:=zH f v nd;have g3:=S2.growSet (u:=.ins C dx (bz f v fus)) hr;refine⟨a,C,dx,fus,rfl,e1,hK▸hcl,hK▸hna f hmem,hlen,q2 ι2 _ σ g3 (S2.set hr ⟨C,dx,bz f v fus,hC,rfl,k1,λp hp=>?_,by simp[hl],λj w hj=>?_⟩) (er.mono (g1.trans (g2.trans g3)))⟩
     ·rcases k2 p.1 (Qk.mpr ⟨p,hp,rfl⟩) with z|z
      ·rw[z];exact hmem
      ·obtain⟨p',hp',e⟩:=Qk.mp z
       rw[<- e];exact hw p' hp'
     ·by_cases hji:j=i
      ·subst hji
       have hjl:j<fs.length:=by
        have:=(OS.mp hj).1;simpa using this
       rw[OY hjl] at hj
       cases hj
       exact⟨f,v,hf,by rw[qf,OX rfl],r1.mono (g2.trans g3)⟩
      ·rw[OU (Ne.symm hji)] at hj
       obtain⟨f',u,e2,e3,r3⟩:=hr2 j w hj;have ne:f'≠f:=λz=>hji (p8 (T.nd c') e2 (z▸hf))
       exact⟨f',u,e2,by rw[qf,O0 ne];exact e3,r3.mono g3⟩
   ·exact(show False from q2).elim
  ·exact(show False from q2).elim
 ·exact(show False from q2).elim
end
def oC{T:Tb}{ι:Ix}{H:Hp}{k:aF}{u:V}(r:RV T ι H (kA k) u):u=kV k:=by
 cases k with
 |inl i=>exact bE r
 |inr x=>exact(dS r).1
def lM{k j:aF}(e:kA k=kA j):k=j:=by
 cases k<;>cases j<;>simp[kA] at e<;>simp[e]
theorem uV:∀ {ks js:List aF},ks.map kA=js.map kA->ks=js
 |[],[],_=>rfl
 |[],_::_,e=>by simp at e
 |_::_,[],e=>by simp at e
 |k::ks,j::js,e=>by
  simp only[O8,List.cons.injEq] at e
  rw[lM e.1,uV e.2]
theorem zJ{T:Tb}{ι:Ix}{H:Hp}:∀ {ks:List aF} {us:YE},RVs T ι H (ks.map kA) us->us=ks.map kV
 |[],_,.nil=>rfl
 |k::ks,_,.cons r rs=>by rw[oC r,zJ rs];rfl
def oE{v:AV}{k:aF}(e:keyOf? v=some k):v=kA k:=by
 unfold keyOf? at e
 split at e<;>cases e<;>rfl
theorem qR:∀ {vs:YF} {ks:List aF},keysOf? vs=some ks->vs=ks.map kA
 |[],_,e=>by cases e;rfl
 |v::vs,ks,e=>by
  unfold keysOf? at e
  split at e
  ·rename_i k ks' e1 e2
   cases e
   rw[oE e1,qR e2];rfl
  ·cases e
theorem mY{κ:Type}[DecidableEq κ]{T:Tb}{ι:Ix}{H:Hp}{f:κ->AV}(hf:∀ {a b},f a=f b->a=b){k:κ}:∀ {kvs:List (AV×AV)} {kus:List (κ×V)},Paired (λ(p:AV×AV) (q:κ×V)=>p.1=f q.1/\RV T ι H p.2 q.2) kvs kus ->
  (aT kvs (f k)=none/\bF kus k=none)\/∃ v u,aT kvs (f k)=some v/\bF kus k=some u/\RV T ι H v u
 |_,_,.nil=>.inl ⟨rfl,rfl⟩
 |(a,v)::kvs,(j,u)::kus,.cons ⟨e,r⟩ rs=>by
  by_cases h:j=k
  ·subst h
   replace e:a=f j:=e
   subst e;exact .inr ⟨v,u,by simp[aT],ql rfl,r⟩
  ·have h':¬ a=f k:=λz=>h (hf (e.symm.trans z))
   rcases mY hf rs (k:=k) with⟨h1,h2⟩|⟨v',u',h1,h2,h3⟩
   ·refine .inl ⟨?_,by rw[oa h];exact h2⟩
    unfold aT at h1 ⊢
    rw[PQ,O9 h'];exact h1
   ·refine .inr ⟨v',u',?_,by rw[oa h];exact h2,h3⟩
    unfold aT at h1 ⊢
    rw[PQ,O9 h'];exact h1
def uW{kvs:List (AV×AV)}{k:AV}:(kvs.any λp=>decide (p.1=k))=(aT kvs k).isSome:=by
 induction kvs with
 |nil=>rfl
 |cons p r ih =>
  unfold aT at ih ⊢
  rw[Qj,PQ,ih]
  cases h:decide (p.1=k)<;>simp
def zK{κ:Type}[DecidableEq κ]{T:Tb}{ι:Ix}{H:Hp}{f:κ->AV}(hf:∀ {a b},f a=f b->a=b){k:κ}{v:AV}{u:V}(rv:RV T ι H v u){kvs:List (AV×AV)}{kus:List (κ×V)}(r:Paired (λ(p:AV×AV) (q:κ×V)=>p.1=f q.1/\RV T ι H p.2 q.2) kvs kus) :
  Paired (λ(p:AV×AV) (q:κ×V)=>p.1=f q.1/\RV T ι H p.2 q.2) (eI kvs (f k) v) (cq kus k u):=by
 have e:(kvs.any λp=>decide (p.1=f k))=kus.any λkv=>decide (kv.1=k):=by
  rw[uW,qm];rcases mY hf r (k:=k) with⟨h1,h2⟩|⟨v',u',h1,h2,h3⟩
  ·rw[h1,h2];rfl
  ·rw[h1,h2];rfl
 unfold eI cq;rw[e];by_cases h:(kus.any λkv=>decide (kv.1=k))=true
 ·rw[OX h,OX h]
  clear e h;induction r with
  |nil=>exact .nil
  |cons p rs ih =>
   rename_i a b l1 l2;refine .cons ?_ ih
   obtain⟨e1,r1⟩:=p;dsimp only;by_cases hk:b.1=k
   ·rw[OX hk,OX (by rw[e1,hk])]
    exact⟨e1,rv⟩
   ·rw[O0 hk,O0 (λz=>hk (hf (e1.symm.trans z)))]
    exact⟨e1,r1⟩
 ·rw[O0 h,O0 h]
  have app:∀ {l1:List (AV×AV)} {l2:List (κ×V)},Paired (λ(p:AV×AV) (q:κ×V)=>p.1=f q.1/\RV T ι H p.2 q.2) l1 l2->Paired (λ(p:AV×AV) (q:κ×V)=>p.1=f q.1/\RV T ι H p.2 q.2) (l1++[(f k,v)]) (l2++[(k,u)]):=λz=>by
   induction z with
   |nil=>exact .cons ⟨rfl,rv⟩ .nil
   |cons p _ ih=>exact .cons p ih
  exact app r
section
variable{T:Tb}{ι:Ix}{h:AH}{H:Hp}
def oF{xs:YF}{u:V}{ks:List aF}(r:RV T ι H (.tup xs) u)(e:keysOf? xs=some ks):∃ b,u=.ref b/\KTup H b ks:=by
 have:=qR e;subst this
 cases r with
 |tup n q r=>exact⟨_,rfl,.of (by rw[<- zJ r];exact q)⟩
def qS{n:Nat}{t:Bool}{kvs:List (AV×AV)}{y:AV}{a:ZE}{w:V}(S:Sim T ι h H)(hn:h[n]?=some (.dct t kvs))(hr:ι.refs[n]?=some a)(ry:RV T ι H y w)(hk:dX t y=true) :
  ∃ o,DGet H a w o/\((aT kvs y=none/\o=none)\/∃ v u,aT kvs y=some v/\o=some u/\RV T ι H v u):=by
 obtain⟨ob,e1,r⟩:=S.obj n _ a hn hr
 cases t with
 |false =>
  obtain⟨kus,rfl,r⟩:=r;have hk':(keyOf? y).isSome=true:=hk;obtain⟨k,ek⟩:=Pi.mp hk';have:=oE ek;subst this;rw[oC ry];refine⟨bF kus k,.k e1,?_⟩
  rcases mY lM r (k:=k) with⟨h1,h2⟩|⟨v',u',h1,h2,h3⟩
  ·exact .inl ⟨h1,h2⟩
  ·exact .inr ⟨v',u',h1,h2,h3⟩
 |true =>
  obtain⟨kus,rfl,r⟩:=r;unfold dX at hk;split at hk
  ·rename_i hh;cases hh
  ·rename_i xs hh
   obtain⟨ks,ek⟩:=Pi.mp hk;obtain⟨b,rfl,hb⟩:=oF ry ek;have:=qR ek;subst this;refine⟨bF kus ks,.t e1 hb,?_⟩
   rcases mY (f:=λks:List aF=>AV.tup (ks.map kA)) (λe=>uV (by injection e)) r (k:=ks) with⟨h1,h2⟩|⟨v',u',h1,h2,h3⟩
   ·exact .inl ⟨h1,h2⟩
   ·exact .inr ⟨v',u',h1,h2,h3⟩
  ·cases hk
def Je{n:Nat}{t:Bool}{kvs:List (AV×AV)}{y z:AV}{a:ZE}{w u:V}(S:Sim T ι h H)(hn:h[n]?=some (.dct t kvs))(hr:ι.refs[n]?=some a)(ry:RV T ι H y w)(rz:RV T ι H z u)(hk:dX t y=true)(hl:kvs.length<sizeLine) :
  ∃ H',DPut H a w u H'/\Grow ι H ι H'/\Sim T ι (h.set n (.dct t (eI kvs y z))) H':=by
 obtain⟨ob,e1,r⟩:=S.obj n _ a hn hr
 cases t with
 |false =>
  obtain⟨kus,rfl,r⟩:=r;have hk':(keyOf? y).isSome=true:=hk;obtain⟨k,ek⟩:=Pi.mp hk';have:=oE ek;subst this;rw[oC ry];have g:=S.growSet (u:=.dK (cq kus k u)) hr
  exact⟨_,.k e1 (by rw[<- Paired.length r];exact hl),g,S.set hr ⟨_,rfl,zK lM (rz.mono g) (Paired.mapP r λ_ _ ⟨p,q⟩=>⟨p,q.mono g⟩)⟩⟩
 |true =>
  obtain⟨kus,rfl,r⟩:=r;unfold dX at hk;split at hk
  ·rename_i hh;cases hh
  ·rename_i xs hh
   obtain⟨ks,ek⟩:=Pi.mp hk;obtain⟨b,rfl,hb⟩:=oF ry ek;have:=qR ek;subst this;have g:=S.growSet (u:=.dT none (cq kus ks u)) hr
   exact⟨_,.t e1 hb (by rw[<- Paired.length r];exact hl),g,S.set hr ⟨_,rfl,zK (f:=λks:List aF=>AV.tup (ks.map kA)) (λe=>uV (by injection e)) (rz.mono g) (Paired.mapP r λ_ _ ⟨p,q⟩=>⟨p,q.mono g⟩)⟩⟩
  ·cases hk
def RVs.atI{xs:YF}{us:YE}{i:Int}{v:AV}(r:RVs T ι H xs us)(e:atI xs i=some v):∃ u,L2.atI us i=some u/\RV T ι H v u:=by
 unfold L2.atI at e ⊢
 rw[<- r.length];obtain⟨j,e1,e2⟩:=Sl.mp e
 obtain⟨u,e3,r3⟩:=r.get e2;exact⟨u,by rw[e1];exact e3,r3⟩
end
section
variable{T:Tb}{E:St->XK}{X:Cx}{pos:Pos}{a b c:Expr}{sa sb sc:SE}
def Jf{e:Expr}{t t':TE}(h:PE X e t)(h':PE X e t'):PE X e (λσ H Q=>t σ H Q\/t' σ H Q):=(λpins s σ H Q I q=>q.elim (h pins s σ H Q I) (h' pins s σ H Q I))
def Jg{e:Stmt}{t t':TS}(h:PS X e t)(h':PS X e t'):PS X e (λD σ H=>t D σ H\/t' D σ H):=(λpins s σ H Q I q=>q.elim (h pins s σ H Q I) (h' pins s σ H Q I))
def aZ(hK:X.K=T.K)(hu:X.A.units+64<cLine)(ha:aD T E X a sa)(hb:aD T E X b sb)(hs:qj b:=by(repeat intro _);rfl):aD T E X (.Subscript a b pos) (ag aj sa sb):=by
 refine bO (Jf (yq FQ ha hb hs) (yC (O7 (Pg (by decide:1<=64) _) hu) ha hb hs)) λσ H Q q=>?_
 obtain⟨ι,h,en,S,er,q⟩:=q;have left:(∀ x h1 y h2,sa en h=.ok x h1->sb en h1=.ok y h2->∀ n t kvs,x=.ref n->h2[n]?=some (.dct t kvs)->False)->mP (yr X.K) (tE T E sa) (tE T E sb) σ H Q:=λno=>by
  refine⟨ι,h,en,S,er,?_⟩
  unfold ag at q
  cases e1:sa en h with
  |bad=>rw[e1] at q;exact q
  |ex c h1=>rw[e1] at q;exact q
  |ok x h1 =>
   rw[e1] at q;intro ι1 H1 u g1 S1 r1
   refine⟨ι1,h1,en,S1,er.mono g1,?_⟩
   dsimp only[Out.bind] at q
   cases e2:sb en h1 with
   |bad=>rw[e2] at q;exact q
   |ex c h2=>rw[e2] at q;exact Post.shift (R:=RV T) (o:=.ex c h2) q g1
   |ok y h2 =>
    rw[e2] at q;intro ι2 H2 w g2 S2 r2
    have q2:=Post.shift q (g1.trans g2);have r1':=r1.mono g2;dsimp only at q2;unfold aj at q2;split at q2
    ·rename_i z i
     split at q2
     ·rename_i cc hc
      obtain⟨rfl,zl,zo⟩:=dS r1';rw[bE r2];refine .inr (.inr ⟨z,i,cc,rfl,rfl,zl,hc,q2.now S2 (.str (show 1<=sizeLine by decide) ?_)⟩)
      obtain⟨j,_,e3,_⟩:=qi hc;have m:cc∈z.cps:=by
       have:=Pm e3;simpa using this
      have:=PD.mp zo _ m;simpa using this
     ·exact q2.elim
    ·rename_i xs i
     split at q2
     ·rename_i v hv
      obtain⟨b,us,rfl,sq,rs⟩:=lG r1';obtain⟨u2,e3,r3⟩:=rs.atI hv;rw[bE r2];exact .inr (.inl ⟨b,us,i,u2,rfl,rfl,hK▸sq,e3,q2.now S2 r3⟩)
     ·exact q2.elim
    ·rename_i xs i
     split at q2
     ·rename_i v hv
      obtain⟨b,us,rfl,sq,rs⟩:=fR S2 r1' rfl;obtain⟨u2,e3,r3⟩:=rs.atI hv;rw[bE r2];exact .inl ⟨b,us,i,u2,rfl,rfl,hK▸sq,e3,q2.now S2 r3⟩
     ·exact q2.elim
    ·rename_i n
     split at q2
     ·rename_i xs hn
      split at q2
      ·rename_i i
       split at q2
       ·rename_i v hv
        obtain⟨b,us,rfl,sq,rs⟩:=fR (xs:=xs) S2 r1' (by simp[dC,hn]);obtain⟨u2,e3,r3⟩:=rs.atI hv;rw[bE r2];exact .inl ⟨b,us,i,u2,rfl,rfl,hK▸sq,e3,q2.now S2 r3⟩
       ·exact q2.elim
      ·exact q2.elim
     ·rename_i t kvs hn
      exact(no _ h1 _ h2 e1 e2 n t kvs rfl hn).elim
     ·exact q2.elim
    ·exact q2.elim
 by_cases dd:∃ x h1 y h2,sa en h=.ok x h1/\sb en h1=.ok y h2/\∃ n t kvs,x=.ref n/\h2[n]?=some (.dct t kvs)
 ·obtain⟨x,h1,y,h2,e1,e2,n,t,kvs,rfl,hn⟩:=dd
  refine .inr ⟨ι,h,en,S,er,?_⟩
  unfold ag at q;rw[e1] at q ⊢;intro ι1 H1 u g1 S1 r1
  refine⟨ι1,h1,en,S1,er.mono g1,?_⟩
  dsimp only[Out.bind] at q;rw[e2] at q ⊢;intro ι2 H2 w g2 S2 r2
  have q2:=Post.shift q (g1.trans g2);have r1':=r1.mono g2;dsimp only at q2;unfold aj at q2;simp only[hn] at q2
  split at q2
  ·rename_i hk
   cases r1' with
   |@ref _ ad hr =>
    obtain⟨o,dg,alt⟩:=qS S2 hn hr r2 hk;rcases alt with⟨v1,rfl⟩|⟨v,u,v1,rfl,r3⟩
    ·rw[v1] at q2;exact q2.elim
    ·rw[v1] at q2
     exact⟨ad,u,rfl,dg,q2.now S2 r3⟩
  ·exact q2.elim
 ·exact .inl (left λx h1 y h2 e1 e2 n t kvs e3 e4=>dd ⟨x,h1,y,h2,e1,e2,n,t,kvs,e3,e4⟩)
def uX{p':Pos}(hu:X.A.units+64<cLine)(ho:aD T E X a sa)(hi:aD T E X b sb)(hv:aD T E X c sc)(hs:‹swapsWith c (some (.Subscript a b p')) pos.line X.env=pure false›)(hs':‹swapsWithSole [.Subscript a b p'] c pos.line X.env=pure false›)(hw:‹swappedStores [.Subscript a b p'] c X.env=pure none›)
  (h1:‹(assignEach [.Subscript a b p'] X.env).map (·.2)=[assign (.Subscript a b p') X.env]›)
  (has:autoParam (∀ v,assign (.Subscript a b p') X.env v=(do
   let ov <- holding [v] (eval a X.env)
   let iv <- holding [v,ov] (eval b X.env)
   standAt p'
   holding [v,ov,iv] (setItem ov iv v)
   release [v,ov,iv] [])) L2.Ez._auto_1):gz T E X (.Assign [.Subscript a b p'] c pos) (fX sa sb sc):=by
 refine hZ (Jg (xY hv (Ez ho hi FT has) hs' hw h1) (Gw (O7 (Pg (by decide:1<=64) _) hu) ho hi hv hs)) λD σ H q=>?_
 obtain⟨ι,h,en,S,er,q⟩:=q;unfold fX at q;by_cases dd:∃ z h1 x h2 y h3,sc en h=.ok z h1/\sa en h1=.ok x h2/\sb en h2=.ok y h3/\∃ n t kvs,x=.ref n/\h3[n]?=some (.dct t kvs)
 ·obtain⟨z,h1,x,h2,y,h3,e1,e2,e3,n,t,kvs,rfl,hn⟩:=dd
  refine .inr ⟨ι,h,en,S,er,?_⟩
  rw[e1] at q ⊢;intro ι1 H1 u g1 S1 r1
  refine⟨ι1,h1,en,S1,er.mono g1,?_⟩
  dsimp only[Out.go] at q;rw[e2] at q ⊢;intro ι2 H2 w g2 S2 r2
  refine⟨ι2,h2,en,S2,er.mono (g1.trans g2),?_⟩
  dsimp only at q;rw[e3] at q ⊢;intro ι3 H3 j g3 S3 r3
  have q2:=PostS.shift q (g1.trans (g2.trans g3));simp only[hn] at q2
  split at q2
  ·rename_i hk
   cases (r2.mono g3) with
   |@ref _ ad hr =>
    obtain⟨H4,dp,g4,S4⟩:=Je S3 hn hr r3 (r1.mono (g2.trans g3)) hk.1 hk.2;exact⟨ad,H4,rfl,dp,q2 ι3 H4 σ g4 S4 (er.mono (g1.trans (g2.trans (g3.trans g4))))⟩
  ·exact q2.elim
 ·refine .inl ⟨ι,h,en,S,er,?_⟩
  cases e1:sc en h with
  |bad=>rw[e1] at q;exact q
  |ex cc h1=>rw[e1] at q;exactλi2 H2 C g S e=>q i2 H2 σ C g S (er.mono g) e
  |ok z h1 =>
   rw[e1] at q;intro ι1 H1 u g1 S1 r1
   refine⟨ι1,h1,en,S1,er.mono g1,?_⟩
   dsimp only[Out.go] at q
   cases e2:sa en h1 with
   |bad=>rw[e2] at q;exact q
   |ex cc h2=>rw[e2] at q;exactλi2 H2 C g S e=>q i2 H2 σ C (g1.trans g) S (er.mono (g1.trans g)) e
   |ok x h2 =>
    rw[e2] at q;intro ι2 H2 w g2 S2 r2
    refine⟨ι2,h2,en,S2,er.mono (g1.trans g2),?_⟩
    dsimp only at q
    cases e3:sb en h2 with
    |bad=>rw[e3] at q;exact q
    |ex cc h3=>rw[e3] at q;exactλi2 H2 C g S e=>q i2 H2 σ C (g1.trans (g2.trans g)) S (er.mono (g1.trans (g2.trans g))) e
    |ok y h3 =>
     rw[e3] at q;intro ι3 H3 j g3 S3 r3
     have q2:=PostS.shift q (g1.trans (g2.trans g3));dsimp only at q2;split at q2
     ·rename_i n
      split at q2
      ·rename_i xs hn
       split at q2
       ·rename_i k
        split at q2
        ·rename_i jj hj
         cases (r2.mono g3) with
         |@ref _ ad hr =>
          obtain⟨o,e4,us,rfl,rs⟩:=S3.obj n _ ad hn hr;have g4:=S3.growSet (u:=.lst (us.set jj u)) hr;rw[bE r3];exact⟨ad,us,k,jj,rfl,rfl,e4,by rw[<- rs.length];exact hj,q2 ι3 _ σ g4 (S3.set hr ⟨_,rfl,RVs.set (r1.mono (g2.trans (g3.trans g4))) jj (rs.mono g4)⟩) (er.mono (g1.trans (g2.trans (g3.trans g4))))⟩
        ·exact q2.elim
       ·exact q2.elim
      ·rename_i t kvs hn
       exact(dd ⟨_,h1,_,h2,_,h3,e1,e2,e3,n,t,kvs,rfl,hn⟩).elim
      ·exact q2.elim
     ·exact q2.elim
def zL{g:ZC->ZC->Sem ZC}{r:R2}{neg:Bool}(hK:X.K=T.K)
  (h1:∀ (i j:Str) H Q,Q (V.bl (if neg then !(!(Builtin.Str.occurrences j i 0 j.length 1).isEmpty) else !(Builtin.Str.occurrences j i 0 j.length 1).isEmpty)) H->r (.str i) (.str j) H Q)
  (h2:∀ x y H Q p xs d ds,y=V.ref p->SqL T.K H p xs->DaV T.K H x d->DaVs T.K H xs ds->d.canLay0=true->(∀ e∈ds,e.canLay0=true/\e.depth<=30)->Q (V.bl (if neg then !(ds.any λe=>PyData.eqv e d) else ds.any λe=>PyData.eqv e d)) H->r x y H Q)
  (h2t:∀ x y H Q p xs d ds,y=V.ref p->SqT T.K H p xs->DaV T.K H x d->DaVs T.K H xs ds->d.canLay0=true->(∀ e∈ds,e.canLay0=true/\e.depth<=30)->Q (V.bl (if neg then !(ds.any λe=>PyData.eqv e d) else ds.any λe=>PyData.eqv e d)) H->r x y H Q)
  (h3:∀ (y:V) (a:ZE) o H Q,DGet H a y o->Q (V.bl (if neg then !o.isSome else o.isSome)) H->r y (.ref a) H Q) :
  mV T (λx y h=>match kr x y h with|some b=>.ok (.bl (if neg then !b else b)) h|none=>.bad) r:=by
 intro ι h H x y u w E Q S rx ry p;dsimp only at p
 cases hb:kr x y h with
 |none=>rw[hb] at p;exact p.elim
 |some b =>
  rw[hb] at p;dsimp only at p
  unfold kr at hb;split at hb
  ·cases hb
   obtain⟨rfl,_⟩:=dS rx;obtain⟨rfl,_⟩:=dS ry;exact h1 _ _ _ _ (p.now S (.bl _))
  ·rename_i n
   split at hb
   ·rename_i t kvs hn
    split at hb
    ·rename_i hk
     cases hb
     cases ry with
     |@ref _ ad hr =>
      obtain⟨o,dg,alt⟩:=qS S hn hr rx hk;refine h3 u ad o H Q dg ?_
      rcases alt with⟨v1,rfl⟩|⟨v,u',v1,rfl,r3⟩
      ·rw[v1] at p;exact p.now S (.bl _)
      ·rw[v1] at p;exact p.now S (.bl _)
    ·cases hb
   ·rename_i xs hn
    split at hb
    ·rename_i d ds e1 e2
     cases hb
     obtain⟨a,us,rfl,sq,rs⟩:=fR (xs:=xs) S ry (by simp[dC,hn]);obtain⟨q1,q2,q3⟩:=i5 S 8 rx e1;obtain⟨q4,q5⟩:=oz (n:=8) (λr e=>i5 S 8 r e) rs e2;exact h2 _ _ _ _ a us d ds rfl sq q1 q4 q2 (λe he=>⟨(q5 e he).1,by have:=(q5 e he).2;lia⟩) (p.now S (.bl _))
    ·cases hb
   ·cases hb
  ·rename_i xs
   split at hb
   ·rename_i d ds e1 e2
    cases hb
    obtain⟨a,us,rfl,sq,rs⟩:=fR S ry rfl;obtain⟨q1,q2,q3⟩:=i5 S 8 rx e1;obtain⟨q4,q5⟩:=oz (n:=8) (λr e=>i5 S 8 r e) rs e2;exact h2 _ _ _ _ a us d ds rfl sq q1 q4 q2 (λe he=>⟨(q5 e he).1,by have:=(q5 e he).2;lia⟩) (p.now S (.bl _))
   ·cases hb
  ·rename_i xs
   split at hb
   ·rename_i d ds e1 e2
    cases hb
    obtain⟨a,us,rfl,sq,rs⟩:=lG ry;obtain⟨q1,q2,q3⟩:=i5 S 8 rx e1;obtain⟨q4,q5⟩:=oz (n:=8) (λr e=>i5 S 8 r e) rs e2;exact h2t _ _ _ _ a us d ds rfl sq q1 q4 q2 (λe he=>⟨(q5 e he).1,by have:=(q5 e he).2;lia⟩) (p.now S (.bl _))
   ·cases hb
  ·cases hb
end
end Sm
namespace L2
open PySem PySem.Spec PyProof.Rows
section
variable{X:Cx}{pins:List (ZE×Obj)}{σ:St}{H:Hp}{s:ZB}
def uY(I:Inv X pins σ H s)(hu:X.A.units+64<cLine){xs:YE}{ds:List PyData}{its:YB}{d:PyData}{v:ZC}{as:List ZE}(ra:Reads s.heap v d as)(hds:DaVs X.K H xs ds)(r:Vals xs its)(cd:d.canLay0=true)(cds:∀ e∈ds,e.canLay0=true/\e.depth<=30) :
  (∀ y,y∈its.toArray->SeqAt.EqAt X.A.in1 s y v (iy s.heap d y))/\its.toArray.any (iy s.heap d)=ds.any λe=>PyData.eqv e d:=by
 obtain⟨hl,hat⟩:=uB I hds r;constructor
 ·intro y hy
  have hy':y∈its:=by simpa using hy
  obtain⟨j,hj⟩:=Tf hy';have hlt:=(OS.mp hj).1;have hdj:ds[j]?=some (ds[j]'⋯):=O6 ⋯;obtain⟨bs,rb⟩:=hat j _ _ hj hdj;have cj:=cds _ (Pm hdj);rw[isD_of cj.1 rb];exact SeqAt.eqAt_reads _ _ _ _ _ _ _ _ rb ra cj.1 cd (by
   have:=Q5 (ds[j]'⋯).depth d.depth;show X.A.units+1+_<cLine
   lia)
 ·rw[<- Sh]
  refine uD hl λj u e h1 h2=>?_
  obtain⟨bs,rb⟩:=hat j _ _ h1 h2;exact isD_of (cds _ (Pm h2)).1 rb
def Jh(K:ZA):R2:=λx y H Q=>∃ p xs d ds,y=.ref p/\SqL K H p xs/\DaV K H x d/\DaVs K H xs ds/\d.canLay0=true/\(∀ e∈ds,e.canLay0=true/\e.depth<=30)/\Q (.bl (!(ds.any λe=>PyData.eqv e d))) H
def Ji(K:ZA):R2:=λx y H Q=>∃ p xs d ds,y=.ref p/\SqT K H p xs/\DaV K H x d/\DaVs K H xs ds/\d.canLay0=true/\(∀ e∈ds,e.canLay0=true/\e.depth<=30)/\Q (.bl (ds.any λe=>PyData.eqv e d)) H
def Jj(K:ZA):R2:=λx y H Q=>∃ p xs d ds,y=.ref p/\SqT K H p xs/\DaV K H x d/\DaVs K H xs ds/\d.canLay0=true/\(∀ e∈ds,e.canLay0=true/\e.depth<=30)/\Q (.bl (!(ds.any λe=>PyData.eqv e d))) H
def Jk(hu:X.A.units+64<cLine):OpR X (compareOp .NotIn) (Jh X.K):=by
 intro pins s σ H x y v u Q I rx ry h;obtain⟨p,xs,d,ds,rfl,hq,hd,hds,cd,cds,q⟩:=h
 cases ry
 obtain⟨its,r,pl,hz⟩:=I.list hq;obtain⟨as,ra⟩:=hd.reads I rx;obtain⟨h1,h2⟩:=uY I hu ra hds r cd cds;exact SeqAt.notIn_listAt (iy s.heap d) pl.isList h1 ⟨.bl _,H,I,rfl,by rw[h2];exact q⟩
def Jl(hu:X.A.units+64<cLine):OpR X (compareOp .In) (Ji X.K):=by
 intro pins s σ H x y v u Q I rx ry h;obtain⟨p,xs,d,ds,rfl,hq,hd,hds,cd,cds,q⟩:=h
 cases ry
 obtain⟨its,r,pl,hz⟩:=I.tuple hq;obtain⟨as,ra⟩:=hd.reads I rx;obtain⟨h1,h2⟩:=uY I hu ra hds r cd cds;exact SeqAt.in_tupleAt (iy s.heap d) pl h1 ⟨.bl _,H,I,rfl,by rw[h2];exact q⟩
def Jm(hu:X.A.units+64<cLine):OpR X (compareOp .NotIn) (Jj X.K):=by
 intro pins s σ H x y v u Q I rx ry h;obtain⟨p,xs,d,ds,rfl,hq,hd,hds,cd,cds,q⟩:=h
 cases ry
 obtain⟨its,r,pl,hz⟩:=I.tuple hq;obtain⟨as,ra⟩:=hd.reads I rx;obtain⟨h1,h2⟩:=uY I hu ra hds r cd cds;exact SeqAt.notIn_tupleAt (iy s.heap d) pl h1 ⟨.bl _,H,I,rfl,by rw[h2];exact q⟩
def Jn(hu:X.A.units+64<cLine):OpR X (compareOp .In) (λx y H Q=>∃ a o,y=.ref a/\DGet H a x o/\Q (.bl o.isSome) H):=by
 intro pins s σ H x y v u Q I rx ry h;obtain⟨a,o,rfl,g,q⟩:=h
 cases ry
 exact ug (O7 (Pg (by decide:1<=64) _) hu) I g rx λs' I'=>⟨.bl _,H,I',rfl,q⟩
def Jo(hu:X.A.units+64<cLine):OpR X (compareOp .NotIn) (λx y H Q=>∃ a o,y=.ref a/\DGet H a x o/\Q (.bl (!o.isSome)) H):=by
 intro pins s σ H x y v u Q I rx ry h;obtain⟨a,o,rfl,g,q⟩:=h
 cases ry
 exact Gi (O7 (Pg (by decide:1<=64) _) hu) I g rx λs' I'=>⟨.bl _,H,I',rfl,q⟩
end
end L2
namespace Sm
open PySem PySem.Spec L2
section
variable{T:Tb}{E:St->XK}{X:Cx}
def oG(hK:X.K=T.K)(hu:X.A.units+64<cLine):Op T X (compareOp .In) qB:=by
 refine⟨_,zhg.or ((HN hu).or ((Jl hu).or (Jn hu))),zL (neg:=false) (g:=compareOp .In) hK ?_ ?_ ?_ ?_⟩
 ·exactλi j H Q q=>.inl ⟨i,j,rfl,rfl,q⟩
 ·exactλx y H Q p xs d ds e1 e2 e3 e4 e5 e6 q=>.inr (.inl ⟨p,xs,d,ds,e1,hK▸e2,hK▸e3,hK▸e4,e5,e6,q⟩)
 ·exactλx y H Q p xs d ds e1 e2 e3 e4 e5 e6 q=>.inr (.inr (.inl ⟨p,xs,d,ds,e1,hK▸e2,hK▸e3,hK▸e4,e5,e6,q⟩))
 ·exactλy a o H Q g q=>.inr (.inr (.inr ⟨a,o,rfl,g,q⟩))
def mZ(hK:X.K=T.K)(hu:X.A.units+64<cLine):Op T X (compareOp .NotIn) cU:=by
 refine⟨_,zeF.or ((Jk hu).or ((Jm hu).or (Jo hu))),zL (neg:=true) (g:=compareOp .NotIn) hK ?_ ?_ ?_ ?_⟩
 ·exactλi j H Q q=>.inl ⟨i,j,rfl,rfl,q⟩
 ·exactλx y H Q p xs d ds e1 e2 e3 e4 e5 e6 q=>.inr (.inl ⟨p,xs,d,ds,e1,hK▸e2,hK▸e3,hK▸e4,e5,e6,q⟩)
 ·exactλx y H Q p xs d ds e1 e2 e3 e4 e5 e6 q=>.inr (.inr (.inl ⟨p,xs,d,ds,e1,hK▸e2,hK▸e3,hK▸e4,e5,e6,q⟩))
 ·exactλy a o H Q g q=>.inr (.inr (.inr ⟨a,o,rfl,g,q⟩))
end
abbrev uZ(x:Str)(C:ZE)(mg:YA)(base:Heap):Prop:=PyProof.Rows.OwnCls x C [.type "ValueError",.type "Exception",.type "BaseException",.type "object"] "ValueError.__new__" mg base
structure GX(T:Tb)(mg:YA)(base:Heap)(c:Nat)(x:Str):Prop where
 ex:∃ C,T.exc c=some C/\uZ x C mg base
section
variable{T:Tb}{E:St->XK}{X:Cx}{pos np cpos:Pos}{e:Expr}{es:YD}{x:Str}{c:Nat}{as:SL}
def m7 (G:GX T X.mg X.base c x) (hr:mQ X E) (hg:Gl X x) (ha:fQ T E X (e::es) as) (h6:(c<64)⁻¹) (hc:‹X.calm=true›) (hex:‹X.ex=[]›)
  (hdb:((x == ("__debug__" : Str))=false)⁻¹) (he:‹qE1 e es X.env›) (hpl:‹qF1 cpos es X.env›) :
  gz T E X (.Raise (some (.Call (.Name x np) (e::es) [] cpos)) none pos) (gT c as):=by
 obtain⟨C,h1,O⟩:=G.ex;refine hZ (Hu O PySem.F.excBase_ValueError hc hex hr hg ha hdb he hpl) λD σ H=>E6x λι h en S er q=>⟨ι,h,en,S,er,q.go er λxs h1' ι1 H1 us g1 S1 r1 q1=>?_⟩
 split at q1
 ·rename_i hl
  exact⟨by rw[<- r1.length];exact hl,q1 ι1 H1 σ (C,none) S1.refl S1 (er.mono g1) ⟨h1,Ip h6⟩⟩
 ·exact q1.elim
end
def ic(T:Tb)(f:Fn)(r:YE->Hp->VK->Prop):Prop:=∀ (ι:Ix) (h:AH) (H:Hp) (xs:YF) (us:YE) (E:XK) (Q:VK),Sim T ι h H->RVs T ι H xs us->Post T ι H E (RV T) (f xs h) Q->r us H Q
section
variable{T:Tb}{E:St->XK}{X:Cx}{pos p:Pos}{e a:Expr}{es:YD}{x:Str}{as:SL}{sa:SE}
def zM{f:Fn}{r:YE->Hp->VK->Prop}(hs:ic T f r){σ:St}{H:Hp}{Q:VK}(q:tE T E (au f as) σ H Q):t8 r (tA T E as) σ H Q:=by
 obtain⟨ι,h,en,S,er,q⟩:=q;exact⟨ι,h,en,S,er,q.bind λxs h1 ι1 H1 us g1 S1 r1 q1=>hs ι1 h1 H1 xs us _ Q S1 r1 q1⟩
def bu {id:String} {f:Fn} (hc:∃ r,CallR X (.builtin id) r/\ic T f r) (hg:Gl X x) (hm:X.mg x=none) (hv:bootBuiltins x=some (.builtin id)) (ha:fQ T E X (e::es) as) (hn:x ≠ "__name__" := by decide) (hdb:((x == ("__debug__" : Str))=false)⁻¹)
  (he:‹qE1 e es X.env›) (hpl:‹qF1 pos es X.env›):aD T E X (.Call (.Name x p) (e::es) [] pos) (au f as):=by
 obtain⟨r,h1,h2⟩:=hc;exact bO (qh h1 hg hm hv ha hn hdb he hpl) λσ H Q q=>zM h2 q
def cC {id:String} {f:Fn} (hc:∃ r,CallR X (.type id) r/\ic T f r) (hg:Gl X x) (hm:X.mg x=none) (hv:bootBuiltins x=some (.type id)) (ha:fQ T E X (e::es) as) (hn:x ≠ "__name__" := by decide) (hdb:((x == ("__debug__" : Str))=false)⁻¹)
  (he:‹qE1 e es X.env›) (hpl:‹qF1 pos es X.env›):aD T E X (.Call (.Name x p) (e::es) [] pos) (au f as):=by
 obtain⟨r,h1,h2⟩:=hc;exact bO (FD h1 hg hm hv ha hn hdb he hpl) λσ H Q q=>zM h2 q
def L_(hK:X.K=T.K):∃ r,CallR X (.builtin "len") r/\ic T aI r:=by
 refine⟨_,zeH.or (zeG.or GS),λι h H xs us E Q S r q=>?_⟩
 unfold aI at q;split at q
 ·cases r with
  |cons r r' =>
   cases r'
   obtain⟨rfl,n,_⟩:=dS r;exact .inl ⟨_,rfl,n,q.now S (.int _)⟩
 ·cases r with
  |cons r r' =>
   cases r'
   obtain⟨a,us,rfl,sq,rs⟩:=lG r;exact .inr (.inl ⟨a,us,rfl,.inr (hK▸sq),by rw[<- rs.length];exact q.now S (.int _)⟩)
 ·cases r with
  |cons r r' =>
   cases r'
   obtain⟨a,us,rfl,sq,rs⟩:=fR S r rfl;exact .inr (.inl ⟨a,us,rfl,.inl (hK▸sq),by rw[<- rs.length];exact q.now S (.int _)⟩)
 ·rename_i n
  cases r with
  |cons r r' =>
   cases r'
   split at q
   ·rename_i xs hn
    obtain⟨a,us,rfl,sq,rs⟩:=fR (xs:=xs) S r (by simp[dC,hn]);exact .inr (.inl ⟨a,us,rfl,.inl (hK▸sq),by rw[<- rs.length];exact q.now S (.int _)⟩)
   ·rename_i kvs hn
    cases r with
    |@ref _ ad hr =>
     obtain⟨o,e1,kus,rfl,rs⟩:=S.obj n _ ad hn hr;exact .inr (.inr ⟨ad,kus,rfl,e1,by rw[<- Paired.length rs];exact q.now S (.int _)⟩)
   ·exact q.elim
 ·exact q.elim
def No:∃ r,CallR X (.builtin "abs") r/\ic T lD r:=by
 refine⟨_,Fb,λι h H xs us E Q S r q=>?_⟩
 unfold lD at q;split at q
 ·cases r with
  |cons r r'=>cases r';rw[bE r];exact⟨_,rfl,q.now S (.int _)⟩
 ·exact q.elim
def lN(hc:‹X.calm=true›):∃ r,CallR X (.builtin "max") r/\ic T fB r:=by
 refine⟨_,Fc hc,λι h H xs us E Q S r q=>?_⟩
 unfold fB at q;split at q
 ·cases r with
  |cons r r'=>cases r' with
   |cons r1 r2=>cases r2;rw[bE r,bE r1];exact⟨_,_,rfl,q.now S (.int _)⟩
 ·exact q.elim
def zN(hc:‹X.calm=true›):∃ r,CallR X (.builtin "min") r/\ic T mT r:=by
 refine⟨_,Fd hc,λι h H xs us E Q S r q=>?_⟩
 unfold mT at q;split at q
 ·cases r with
  |cons r r'=>cases r' with
   |cons r1 r2=>cases r2;rw[bE r,bE r1];exact⟨_,_,rfl,q.now S (.int _)⟩
 ·exact q.elim
theorem zO{ι:Ix}{H:Hp}:∀ {xs:YF} {us:YE} {bs:List Bool},RVs T ι H xs us->lE xs=some bs->us=bs.map V.bl
 |_,_,_,.nil,e=>by cases e;rfl
 |_,_,bs,.cons (x:=x) r rs,e=>by
  unfold lE at e;split at e
  ·rename_i hh;cases hh
  ·rename_i b r' hh
   cases hh
   obtain⟨bs',e1,rfl⟩:=Pd.mp e;rw[fS r,zO rs e1];rfl
  ·cases e
def LT(hK:X.K=T.K)(hc:‹X.calm=true›):∃ r,CallR X (.builtin "all") r/\ic T eJ r:=by
 refine⟨_,Hb hc,λι h H xs us E Q S r q=>?_⟩
 unfold eJ at q;split at q
 ·split at q
  ·rename_i bs hb
   cases r with
   |cons r r' =>
    cases r'
    obtain⟨a,us,rfl,sq,rs⟩:=fR S r rfl;rw[zO rs hb] at sq;exact⟨a,bs,rfl,hK▸sq,q.now S (.bl _)⟩
  ·exact q.elim
 ·exact q.elim
def NE:∃ r,CallR X (.type "int") r/\ic T bp r:=by
 refine⟨_,Fe,λι h H xs us E Q S r q=>?_⟩
 unfold bp at q;split at q
 ·cases r with
  |cons r r'=>cases r';rw[bE r];exact .inl ⟨_,rfl,q.now S (.int _)⟩
 ·cases r with
  |cons r r'=>cases r';rw[fS r];exact .inr ⟨_,rfl,q.now S (.int _)⟩
 ·exact q.elim
abbrev oH:List String:=["NoneType", "bool", "int", "str", "list", "tuple", "dict"]
def zP(K:ZA):∀ n∈oH,∀ t∈oH,PySem.W.kitOne K (.type n) (.type t)=some (n == t || (t == "int" && n == "bool")):=by
 intro n hn t ht;simp only[oH,Pb,QA,Su] at hn ht
 rcases hn with rfl|rfl|rfl|rfl|rfl|rfl|rfl<;>rcases ht with rfl|rfl|rfl|rfl|rfl|rfl|rfl<;>rfl
def Jp{c:V}{cv:ZC}(rc:∀ u,RelV c u->u=cv) :
  CallR X (.builtin "isinstance") (λxs H Q=>∃ a us r,xs=[.ref a,c]/\SqL X.K H a us/\PySem.W.kitOne X.K (.type "list") cv=some r/\Q (.bl r) H):=by
 intro pins s σ H xs us Q I r h;obtain⟨a,ws,k,rfl,sq,hk,q⟩:=h;obtain⟨u,w',rfl,rx,ry⟩:=nY r;obtain rfl:=rc _ ry;obtain rfl:u=Value.ref a:=rx;obtain⟨its,_,⟨o,n,e1,e2,_⟩,_⟩:=I.list sq;exact PX RX I.kIn ⟨_,e1,e2⟩ hk (λz=>nomatch z) λtk=>⟨.bl k,H,I.tok _,rfl,q⟩
def Jq{ι:Ix}{h:AH}{H:Hp}{v:AV}{u:V}{n:String}(S:Sim T ι h H)(r:RV T ι H v u)(e:h9 v h=some n):(cH T.K H u (.type n)\/(n="list" /\ ∃ a us,u=.ref a/\SqL T.K H a us))/\n∈oH:=by
 unfold h9 at e
 cases r with
 |non=>cases e;exact⟨.inl .non,by decide⟩
 |bl b=>cases e;exact⟨.inl (.bl b),by decide⟩
 |int b=>cases e;exact⟨.inl (.int b),by decide⟩
 |str n o=>cases e;exact⟨.inl (.str _),by decide⟩
 |tup n q r=>cases e;exact⟨.inl (.tup q),by decide⟩
 |fl n q r=>cases e;exact⟨.inr ⟨rfl,_,_,rfl,.inl q⟩,by decide⟩
 |kfl q r=>cases e;exact⟨.inr ⟨rfl,_,_,rfl,.inr q⟩,by decide⟩
 |@ref k a q =>
  dsimp only at e;split at e
  ·rename_i xs hn
   cases e
   obtain⟨o,e1,us,rfl,rs⟩:=S.obj k _ a hn q;exact⟨.inl (.lst e1),by decide⟩
  ·rename_i t kvs hn
   cases e
   obtain⟨o,e1,r⟩:=S.obj k _ a hn q
   cases t with
   |false=>obtain⟨kus,rfl,rs⟩:=r;exact⟨.inl (.dK e1),by decide⟩
   |true=>obtain⟨kus,rfl,rs⟩:=r;exact⟨.inl (.dT e1),by decide⟩
  ·cases e
 |exc _ _ _=>cases e
def qT {t:Str} {id:String} {p2:Pos} (hK:X.K=T.K) (hg:Gl X "isinstance") (hm:X.mg "isinstance"=none) (ha:aD T E X a sa) (hgt:Gl X t) (hmt:X.mg t=none) (hvt:bootBuiltins t=some (.type id)) (hid:id∈oH) (hnt:t ≠ "__name__" := by decide) (hdt:((t == ("__debug__" : Str))=false)⁻¹)
  (he:‹starEach [a,.Name t p2] X.env=(false,eval a X.env)::starEach [.Name t p2] X.env›):aD T E X (.Call (.Name "isinstance" p) [a,.Name t p2] [] pos) (fC id sa):=by
 refine bO (qh ((G6 (X:=X) (yH id)).or (Jp (X:=X) (yH id))) hg hm RC (kg ha (kg (D5 (v:=.ty id) hgt hmt hvt rfl hnt hdt) nZ) he) (he:=he)) λσ H Q=>E6x λι h en S er q=>⟨ι,h,en,S,er,q.bind λv h1 ι1 H1 u g1 S1 r1 q1=>?_⟩
 split at q1
 ·rename_i n hn
  obtain⟨ty,hmem⟩:=Jq S1 r1 hn;rcases ty with ty|⟨rfl,ad,us,rfl,sq⟩
  ·exact .inl ⟨u,.type n,_,rfl,hK▸ty,zP _ n hmem id hid,q1.now S1 (.bl _)⟩
  ·exact .inr ⟨ad,us,_,rfl,hK▸sq,zP _ _ hmem id hid,q1.now S1 (.bl _)⟩
 ·exact q1.elim
def Jr {t:Str} {p2:Pos} {cv:ZC} {cV:V} {pr:Nat->Bool} (hK:X.K=T.K) (hg:Gl X "isinstance") (hm:X.mg "isinstance"=none) (ha:aD T E X a sa) (hcl:PE X (.Name t p2) (tC cV)) (rc:∀ u,RelV cV u->u=cv)
  (hp:∀ c C,T.exc c=some C->bR T.K C/\PySem.W.kitOne T.K (.ref C) cv=some (pr c)) (he:‹starEach [a,.Name t p2] X.env=(false,eval a X.env)::starEach [.Name t p2] X.env›):aD T E X (.Call (.Name "isinstance" p) [a,.Name t p2] [] pos) (jz pr sa):=by
 refine bO (qh (HJ (X:=X) rc) hg hm RC (kg ha (kg hcl nZ) he) (he:=he)) λσ H Q=>E6x λι h en S er q=>⟨ι,h,en,S,er,q.bind λv h1 ι1 H1 u g1 S1 r1 q1=>?_⟩
 split at q1
 ·rename_i c
  cases r1 with
  |@exc _ C ad n ec hq =>
   obtain⟨Z,k⟩:=hp c C.1 ec.1;exact⟨ad,C.1,_,rfl,⟨_,hq⟩,hK▸Z,hK▸k,q1.now S1 (.bl _)⟩
 ·exact q1.elim
def ku(T:Tb)(f:FM)(r:V->YE->Hp->VK->Prop):Prop:=∀ (ι:Ix) (h:AH) (H:Hp) (x:AV) (xs:YF) (u:V) (us:YE) (E:XK) (Q:VK),Sim T ι h H->RV T ι H x u->RVs T ι H xs us->Post T ι H E (RV T) (f x xs h) Q->r u us H Q
def jH(T:Tb)(chk:AV->AH->Bool)(n:String):Prop:=∀ (ι:Ix) (h:AH) (H:Hp) (x:AV) (u:V),Sim T ι h H->RV T ι H x u->chk x h=true->qk T.K n u H
def iD:jH T aW "list" :=(λι h H x u S r e=>by
 obtain⟨xs,e1⟩:=Pi.mp e;obtain⟨a,us,rfl,sq,rs⟩:=fR S r e1;exact .inl ⟨rfl,us,sq⟩)
def qU:jH T lF "str" :=(λι h H x u S r e=>by
 unfold lF at e;split at e
 ·obtain⟨rfl,_⟩:=dS r;rfl
 ·cases e)
variable{o:Expr}{so:SE}{name:Str}{apos:Pos}{chk:AV->AH->Bool}{f:FM}{tn id:String}
def fE (hK:X.K=T.K) (pa:PlainAttrs tn) (slot:Slot tn name id) (hty:typeOf (.builtin id)=pure (.type "method_descriptor")) (hm:∃ r,gw X id r/\ku T f r) (hc:jH T chk tn) (ho:aD T E X o so) (ha:fQ T E X (e::es) as)
  (hbase:‹attributeBase o name X.env (eval o X.env)=eval o X.env›)
  (hfew:‹((backTo pos (starEach (e::es) X.env)).all (λx=>!x.1) && (backToKw pos (keywordEach [] X.env)).all (λx=>x.1.isSome)
   && decide ((e::es).length+([]:List Keyword).length+(if ([]:List Keyword).isEmpty then 0 else 1)<30))=true›)
  (hline:‹(apos.endLine == pos.line)=true›) (hs:‹qE1 e es X.env›) (hplain:‹qF1 pos es X.env›) :
  aD T E X (.Call (.Attribute o name apos) (e::es) [] pos) (cW chk f so as):=by
 obtain⟨r,h1,h2⟩:=hm;refine bO (FY pa slot hty h1 ho ha hbase hfew hline hs hplain) λσ H Q=>E6x λι h en S er q=>⟨ι,h,en,S,er,q.bind λx h1 ι1 H1 u g1 S1 r1 q1=>?_⟩
 by_cases hx:chk x h1=true
 ·rw[OX hx] at q1
  exact⟨hK▸hc ι1 h1 H1 x u S1 r1 hx,ι1,h1,en,S1,er.mono g1,q1.bind λxs h2' ι2 H2 us g2 S2 r2 q2=>h2 ι2 h2' H2 x xs u us _ Q S2 (r1.mono g2) r2 q2⟩
 ·rw[O0 hx] at q1;exact q1.elim
def lO (hK:X.K=T.K) (pa:PlainAttrs tn) (slot:Slot tn name id) (hty:typeOf (.builtin id)=pure (.type "method_descriptor")) (hm:∃ r,gw X id r/\ku T f r) (hc:jH T chk tn) (ho:aD T E X o so)
  (hbase:‹attributeBase o name X.env (eval o X.env)=eval o X.env›) (hline:‹(apos.endLine == pos.line)=true›):aD T E X (.Call (.Attribute o name apos) [] [] pos) (dY chk f so):=by
 obtain⟨r,h1,h2⟩:=hm;refine bO (yu pa slot hty h1 ho hbase hline) λσ H Q=>E6x λι h en S er q=>⟨ι,h,en,S,er,q.bind λx h1 ι1 H1 u g1 S1 r1 q1=>?_⟩
 by_cases hx:chk x h1=true
 ·rw[OX hx] at q1
  exact⟨hK▸hc ι1 h1 H1 x u S1 r1 hx,h2 ι1 h1 H1 x [] u [] _ Q S1 r1 .nil q1⟩
 ·rw[O0 hx] at q1;exact q1.elim
def oI:∃ r,gw X "list.append" r/\ku T bP r:=by
 refine⟨_,yv,λι h H x xs u us E Q S rx rs q=>?_⟩
 unfold bP at q;split at q
 ·rename_i n y
  split at q
  ·rename_i ys hn
   split at q
   ·rename_i hl
    cases rx with
    |@ref _ ad hr =>
     cases rs with
     |@cons _ uu _ _ r r' =>
      cases r'
      obtain⟨o,e1,ws,rfl,rw_⟩:=S.obj n _ ad hn hr;have g:=S.growSet (u:=.lst (ws++[uu])) hr;exact⟨ad,ws,_,rfl,rfl,e1,by rw[<- rw_.length];exact hl,q ι _ _ g (S.set hr ⟨_,rfl,(rw_.mono g).append (.cons (r.mono g) .nil)⟩) .non⟩
   ·exact q.elim
  ·exact q.elim
 ·exact q.elim
def u0:∃ r,gw X "list.pop" r/\ku T bI r:=by
 refine⟨_,F9,λι h H x xs u us E Q S rx rs q=>?_⟩
 unfold bI at q;split at q
 ·rename_i n
  split at q
  ·rename_i ys hn
   split at q
   ·rename_i y hy
    cases rx with
    |@ref _ ad hr =>
     cases rs
     obtain⟨o,e1,ws,rfl,rw_⟩:=S.obj n _ ad hn hr;have g:=S.growSet (u:=.lst ws.dropLast) hr;obtain⟨v,e2,r2⟩:=rw_.get hy;refine⟨ad,ws,v,rfl,rfl,e1,by rw[<- rw_.length];exact e2,q ι _ _ g (S.set hr ⟨_,rfl,?_⟩) (r2.mono g)⟩
     have z:=(rw_.mono g).take (ys.length-1);have e3:ys.take (ys.length-1)=ys.dropLast:=SW.symm;have e4:ws.take (ys.length-1)=ws.dropLast:=by rw[rw_.length];exact SW.symm
     rw[e3,e4] at z;exact z
   ·exact q.elim
  ·exact q.elim
 ·exact q.elim
def Js:∃ r,gw X "str.count" r/\ku T uH r:=by
 refine⟨_,G9,λι h H x xs u us E Q S rx rs q=>?_⟩
 unfold uH at q;split at q
 ·cases rs with
  |cons r r' =>
   cases r'
   obtain⟨rfl,_⟩:=dS rx;obtain⟨rfl,_⟩:=dS r;exact⟨_,_,rfl,rfl,q.now S (.int _)⟩
 ·exact q.elim
theorem zQ{ι:Ix}{H:Hp}:∀ {xs:YF} {us:YE} {zs:List Str},RVs T ι H xs us->ow xs=some zs->us=zs.map V.str/\∀ z∈zs,z.cps.all (· < 0x110000)=true
 |_,_,_,.nil,e=>by cases e;exact⟨rfl,by simp⟩
 |_,_,zs,.cons (x:=x) r rs,e=>by
  unfold ow at e;split at e
  ·rename_i hh;cases hh
  ·rename_i b r' hh
   cases hh
   obtain⟨zs',e1,rfl⟩:=Pd.mp e;obtain⟨rfl,_,o⟩:=dS r;obtain⟨h1,h2⟩:=zQ rs e1;refine⟨by rw[h1];rfl,λz hz=>?_⟩
   rcases Pb.mp hz with rfl|hz
   ·exact o
   ·exact h2 z hz
  ·cases e
def zR(hK:X.K=T.K):∃ r,gw X "str.join" r/\ku T mU r:=by
 refine⟨_,HR,λι h H x xs u us E Q S rx rs q=>?_⟩
 unfold mU at q;split at q
 ·rename_i z y
  split at q
  ·rename_i hz
   subst hz;split at q
   ·rename_i ys hy
    split at q
    ·rename_i zs hzs
     split at q
     ·rename_i hl
      cases rs with
      |cons r r' =>
       cases r'
       obtain⟨rfl,_⟩:=dS rx;obtain⟨a,ws,rfl,sq,rw_⟩:=fR S r hy;obtain⟨h1,h2⟩:=zQ rw_ hzs;subst h1;refine⟨a,zs,rfl,rfl,hK▸sq,hl,λrr hrr=>?_⟩
       have e:rr=⟨((zs.map λx:Str=>x.cps.toList).flatten).toArray⟩:=by
        cases rr
        simp only[Str.mk.injEq]
        rw[<- hrr]
       rw[e];refine q.now S (.str ?_ ?_)
       ·show ((zs.map λx:Str=>x.cps.toList).flatten).toArray.size<=sizeLine
        rw[O5];exact OW hl 'd'
       ·rw[PD]
        intro c hc;simp only[List.mem_toArray,List.mem_flatten,Qk] at hc
        obtain⟨l,⟨zz,hz1,rfl⟩,hc2⟩:=hc;exact PD.mp (h2 zz hz1) c (by simpa using hc2)
     ·exact q.elim
    ·exact q.elim
   ·exact q.elim
  ·exact q.elim
 ·exact q.elim
end
def Out.bind_assoc{α β γ:Type}(o:Out α)(f:α->AH->Out β)(g:β->AH->Out γ):(o.bind f).bind g=o.bind λa h=>(f a h).bind g:=by cases o<;>rfl
section
variable{T:Tb}{E:St->XK}{X:Cx}{pos p2:Pos}{a b:Expr}{sa sb:SE}
def tO(T:Tb)(E:St->XK):Option SE->TO
 |none=>ym
 |some s=>yn (tE T E s)
abbrev qV(T:Tb)(E:St->XK)(X:Cx)(e:Option Expr)(s:Option SE):Prop:=PO X e (tO T E s)
def m8:qV T E X none none:=(FJ)
def m9(h:aD T E X a sa):qV T E X (some a) (some sa):=(FK h)
@[simp] def qW(s:Option SE):En->AH->Out (Option Int):=λen h=>match s with
 |none=>.ok none h
 |some l=>(l en h).bind λv h2=>match v with|.int i=>.ok (some i) h2|_=>.bad
def zS{s:Option SE}{σ:St}{H:Hp}{ι:Ix}{h:AH}{en:En}{γ δ:Type}{R':Ix->Hp->γ->δ->Prop}{Q0:δ->Hp->Prop}{f:Option Int->AH->Out γ}{Q:Option Int->Hp->Prop}(S:Sim T ι h H)(er:ER T ι H en σ)(q:Post T ι H (E σ) R' ((qW s en h).bind f) Q0)
  (k:∀ l h' ι' H',Grow ι H ι' H'->Sim T ι' h' H'->Post T ι' H' (E σ) R' (f l h') Q0->Q l H'):tO T E s σ H Q:=by
 cases s with
 |none=>exact k none h ι H S.refl S q
 |some l =>
  refine⟨ι,h,en,S,er,?_⟩
  unfold qW at q;dsimp only at q;rw[Out.bind_assoc] at q;refine q.bind λv h1 ι1 H1 u g1 S1 r1 q1=>?_
  split at q1
  ·rw[bE r1]
   exact⟨_,rfl,k _ _ ι1 H1 g1 S1 q1⟩
  ·exact q1.elim
@[simp] def dP(x:AV)(l u:Option Int)(h:AH):Out AV:=match x with
 |.fl xs=>.ok (.fl (dZ xs l u)) h
 |.str z=>.ok (.str (bL z l u)) h
 |.tup xs=>if ¬ (HT.sIx xs.length 0 l=0/\HT.sIx xs.length xs.length u=xs.length) then .ok (.tup (dZ xs l u)) h else .bad
 |.ref n=>match h[n]? with
  |some (.lst xs)=>.ok (.fl (dZ xs l u)) h
  |_=>.bad
 |_=>.bad
@[simp] def bZ(a:SE)(lo hi:Option SE):SE:=λen h=>(a en h).bind λx h1=>(qW lo en h1).bind λl h2=>(qW hi en h2).bind λu h3=>dP x l u h3
def RVs.cut{ι:Ix}{H:Hp}{xs:YF}{us:YE}{lo hi:Option Int}(r:RVs T ι H xs us):RVs T ι H (dZ xs lo hi) (fw us lo hi):=by
 unfold dZ fw;rw[<- r.length];exact(r.drop _).take _
def Jt{ι:Ix}{H:Hp}{z:Str}{l u:Option Int}(hz:z.length<=sizeLine)(hc:z.cps.all (· < 0x110000)=true):RV T ι H (.str (bL z l u)) (.str (bL z l u)):=by
 refine .str ?_ ?_
 ·refine OW ?_ hz
  simp[bL,Str.length];lia
 ·simp only[bL,Sn,Px]
  intro c h;have hm:c∈z.cps.toList:=QT (Rz h);exact(PD.mp hc) c (by simpa using hm)
def nh{lo hi:Option Expr}{sl sh:Option SE}(hK:X.K=T.K)(ha:aD T E X a sa)(hl:qV T E X lo sl)(hh:qV T E X hi sh):aD T E X (.Subscript a (.Slice lo hi none p2) pos) (bZ sa sl sh):=by
 refine bO (FN (zjN.or (sl_tup.or Ih)) ha hl hh) λσ H Q=>E6x λι h en S er q=>⟨ι,h,en,S,er,q.bind λx h1 ι1 H1 u g1 S1 r1 q1=>?_⟩
 refine zS (E:=E) S1 (er.mono g1) q1 λl h2 ι2 H2 g2 S2 q2=>zS (E:=E) S2 (er.mono (g1.trans g2)) q2 λw h3 ι3 H3 g3 S3 q3=>?_
 have r3:=r1.mono (g2.trans g3);unfold dP at q3;split at q3
 ·obtain⟨ad,us,rfl,sq,rs⟩:=fR S3 r3 rfl
  exact .inl ⟨ad,us,rfl,hK▸sq,λp n=>qD S3 rs.cut n q3⟩
 ·obtain⟨rfl,hz,hc⟩:=dS r3
  exact .inr (.inr ⟨_,rfl,hz,q3.now S3 (Jt hz hc)⟩)
 ·rename_i xs
  split at q3
  ·rename_i hz
   obtain⟨ad,us,rfl,sq,rs⟩:=lG r3;exact .inr (.inl ⟨ad,us,rfl,hK▸sq,by rw[<- rs.length];exact hz,λp n=>uI S3 rs.cut n q3⟩)
  ·exact q3.elim
 ·split at q3
  ·rename_i xs hn
   obtain⟨ad,us,rfl,sq,rs⟩:=fR (xs:=xs) S3 r3 (by simp[dC,hn]);exact .inl ⟨ad,us,rfl,hK▸sq,λp n=>qD S3 rs.cut n q3⟩
  ·exact q3.elim
 ·exact q3.elim
def jI {x:Str} {i:Int} {p:Pos} (hg:Gl X x) (hm:∃ t,X.mg x=some (.int i t)) (hd:((x == ("__debug__" : Str))=false)⁻¹):aD T E X (.Name x p) (ae (.int i)):=by
 obtain⟨t,hm⟩:=hm;exact Iw hg hm hd
end
def DG(K:ZA)(mg:YA)(x:Str)(st:Stmt)(ps:List Str):Prop:=∃ f fd,mg x=some (.ref f)/\PySem.W.keepIn K (.ref f)=true/\Binds K fd ps []/\Fun K x x st f fd
def u7(N:List Str)(sc:Scope)(ns:List Str)(jf:List (Nat×Str))(scope:Scope):Bool :=
 decide (ns++jf.map (·.2)).Nodup && ns.all (λx=>scope.names.lookup x == some .local) && jf.all (λp=>N[p.1]? == some p.2) && jf.all (λp=>scope.names.lookup p.2 == some .free) && (scope.kind == .function) &&
 scope.names.all (λy=>y.2 != .cell) && scope.names.all (λy=>y.2 != .free || sc.names.lookup y.1 == some .cell || sc.names.lookup y.1 == some .free) && scope.names.all (λy=>y.2 != .local || scope.names.lookup y.1 == some .local)
def u9{X:Cx}{N:List Str}{sc scope:Scope}{ns:List Str}{jf:List (Nat×Str)}(hN:X.N=N)(hk:∀ x,X.env.kindOf x=sc.names.lookup x)(h:u7 N sc ns jf scope=true):CompOk X ns jf scope:=by
 unfold u7 at h;simp only[Pu,P3,Px,Us,bne_iff_ne,Bool.or_eq_true] at h
 obtain⟨⟨⟨⟨⟨⟨⟨h1,h2⟩,h3⟩,h4⟩,h5⟩,h6⟩,h7⟩,h8⟩:=h;refine⟨h1,h2,λp hp=>by rw[hN];exact h3 p hp,h4,h5,λy hy=>h6 y hy,λy hy e=>?_,λy hy e=>?_⟩
 ·rw[hk]
  rcases h7 y hy with (z|z)|z
  ·exact absurd e z
  ·exact .inl z
  ·exact .inr z
 ·rcases h8 y hy with z|z
  ·exact absurd e z
  ·exact z
theorem vb{T:Tb}{ι:Ix}{H:Hp}:∀ ns:List Int,RVs T ι H (ns.map AV.int) (ns.map V.int)
 |[]=>.nil
 |n::ns=>.cons (.int n) (vb ns)
def vc{T:Tb}{H:Hp}:Sim T ⟨[],[]⟩ [] H:=(⟨rfl,QS,(λ_ z=>nomatch z),(λi o a e=>by simp at e)⟩)
def vd(K:ZA):Sp:=λvs H Q _=>∃ (a:ZE) (ns:List Int),vs=[.ref a]/\SqL K H a (ns.map V.int)/\ns.length<=63/\∀ H',Q (.bl true) H'
def Ju{T:Tb}{F:Fn}(ht:∀ ns:List Int,ns.length<=63->∃ h',F [.fl (ns.map AV.int)] []=.ok (.bl true) h'):∀ vs H Q E,vd T.K vs H Q E->iC T F vs H Q E:=by
 rintro vs H Q E ⟨a,ns,rfl,hs,hl,q⟩
 obtain⟨h',e⟩:=ht ns hl;refine⟨⟨[],[]⟩,[],[.fl (ns.map AV.int)],vc,.cons ?_ .nil,?_⟩
 ·rcases hs with hs|hs
  ·exact .fl (by simp[Ix.all]) hs (vb ns)
  ·exact .kfl hs (vb ns)
 ·rw[e]
  intro ι' H' u g S r;rw[fS r];exact q H'
def Jv{P:ZD}{w:ZF}{outer:List Env}{H:Hp}{s s':ZB}{e:ZC}(h:cO P w outer H s (λ_ _ _=>False) e s'):False:=by
 obtain⟨_,_,_,_,_,_,_,_,_,_,_,_,_,_,_,_,q⟩:=h;exact q
end Sm
namespace L2
open PySem PySem.Spec PyProof.Rows
end L2
namespace Sm
open PySem PySem.Spec L2
section
variable{T:Tb}{E:L2.St->XK}{X:Cx}{pos p np:Pos}{a:Expr}{sa:SE}
def excK_of {K:ZA} {C:ZE} (g1:PySem.W.findIn K (.ref C) "__getattribute__"=some (some (.builtin "BaseException.__getattribute__"))) (g2:PySem.W.findIn K (.ref C) "__getattr__"=some none) (g3:PySem.W.findIn K (.ref C) "__class__"=some (some (.builtin "object.__class__")))
  (g4:PySem.W.mroIn K C (.type "object")=some true) (g5:PySem.W.mroIn K C (.type "BaseException")=some true) (g6:PySem.W.specialIn K (.builtin "object.__class__") "__get__"=some (some (.builtin "getset_descriptor.__get__"))) (g7:PySem.W.takesIn K (.builtin "object.__class__")=some true):bR K C:=by
 refine⟨?_,g1,g2,g3,g6,g7,g4,g5⟩
 obtain⟨cd,hc,_⟩:=Sl.mp g4;rw[hc];rfl
def zT {t:Str} {p2:Pos} {pr:Nat->Bool} (hK:X.K=T.K) (hg:Gl X "isinstance") (hm:X.mg "isinstance"=none) (ha:aD T E X a sa) (hgt:Gl X t) (hp:∃ C,X.mg t=some (.ref C)/\∀ c C',T.exc c=some C'->bR T.K C'/\PySem.W.kitOne T.K (.ref C') (.ref C)=some (pr c)) (hd:((t == ("__debug__" : Str))=false)⁻¹)
  (he:‹starEach [a,.Name t p2] X.env=(false,eval a X.env)::starEach [.Name t p2] X.env›):aD T E X (.Call (.Name "isinstance" p) [a,.Name t p2] [] pos) (jz pr sa):=by
 obtain⟨C,h1,h2⟩:=hp;exact Jr hK hg hm ha (p9 (v:=.ref C) hgt h1 rfl hd) (G7 C) h2 he
end
end Sm
namespace L2
open PySem PySem.Spec PyProof.Rows
section
variable{X:Cx}{pins:List (ZE×Obj)}{σ:L2.St}{H:Hp}{s:ZB}
end
end L2
namespace Sm
open PySem PySem.Spec L2
@[simp] def oJ:YF->Option (List Int)
 |[]=>some []
 |.int i::r=>(oJ r).map (i :: ·)
 |_=>none
@[simp] def gW:Fn:=λargs h=>match args with
 |[.fl xs]=>match oJ xs with
  |some ns=>.ok (.int ns.sum) h
  |none=>.bad
 |_=>.bad
@[simp] def jJ(a b c:SE):SI:=λen h=>(a en h).bind λv h1=>(b en h1).bind λw h2=>(c en h2).bind λz h3=>match v,w,z with
 |.int i,.int j,.int k=>if i.natAbs<2 ^ 40/\j.natAbs<2 ^ 40/\0<k/\k<2 ^ 20 then .ok ((List.range (if i<j then(j-i-1) / k+1 else 0:Int).toNat).map (λm:Nat=>.int (i+m*k)),none) h3 else .bad
 |_,_,_=>.bad
@[simp] def Jw:F2:=λx y h=>match x,y with
 |.bl a,.bl b=>.ok (.bl (a == b)) h
 |_,_=>.bad
@[simp] def i8(f f' f'':F2)(a b c d:SE):SE:=λen h=>(a en h).bind λx h1=>(b en h1).bind λy h2=>(f x y h2).bind λz h3=>match z with
 |.bl k=>if k=true then(c en h3).bind λw h4=>(f' y w h4).bind λz2 h5=>(match z2 with
  |.bl k2=>if k2=true then(d en h5).bind λv h6=>f'' w v h6 else .ok (.bl false) h5
  |_=>.bad) else .ok (.bl false) h3
 |_=>.bad
section
variable{T:Tb}{E:St->XK}{X:Cx}{pos p:Pos}{e a b c:Expr}{sa sb sc:SE}
theorem zU{ι:Ix}{H:Hp}:∀ {xs:YF} {us:YE} {bs:List Int},RVs T ι H xs us->oJ xs=some bs->us=bs.map V.int
 |_,_,_,.nil,e=>by cases e;rfl
 |_,_,bs,.cons (x:=x) r rs,e=>by
  unfold oJ at e;split at e
  ·rename_i hh;cases hh
  ·rename_i b r' hh
   cases hh
   obtain⟨bs',e1,rfl⟩:=Pd.mp e;rw[bE r,zU rs e1];rfl
  ·cases e
def LE(hK:X.K=T.K)(hc:‹X.calm=true›):∃ r,CallR X (.builtin "sum") r/\ic T gW r:=by
 refine⟨_,HS hc,λι h H xs us E Q S r q=>?_⟩
 unfold gW at q;split at q
 ·split at q
  ·rename_i bs hb
   cases r with
   |cons r r' =>
    cases r'
    obtain⟨a,us,rfl,sq,rs⟩:=fR S r rfl;rw[zU rs hb] at sq;exact⟨a,bs,rfl,hK▸sq,q.now S (.int _)⟩
  ·exact q.elim
 ·exact q.elim
def Jx{ι:Ix}{H:Hp}{lo c:Int}{n:Nat}:i7 T (ju lo c n) ι H ((List.range n).map (λm:Nat=>AV.int (lo+m*c))) none:=by
 constructor
 ·intro i ι' h' H' y g S _ e
  rw[Pr] at e;obtain⟨m,e1,rfl⟩:=Pd.mp e
  have hi:i<n:=by
   have:=(OS.mp e1).1;simpa using this
  rw[RH hi] at e1
  cases e1
  refine⟨hi,?_⟩
  rintro u H2 ⟨rfl,rfl⟩
  exact⟨S.refl,S,.int _⟩
 ·intro i ι' h' H' g S _ hl
  have hl':n<=i:=by simpa using hl
  exact hl'
def Jy {tg:Expr} {p:Pos} (hg:Gl X "range") (hm:X.mg "range"=none) (ha:aD T E X a sa) (hb:aD T E X b sb) (hc:aD T E X c sc) (hs:‹starEach [a,b,c] X.env=[(false,eval a X.env),(false,eval b X.env),(false,eval c X.env)]›) (hs2:‹starEach [b,c] X.env=[(false,eval b X.env),(false,eval c X.env)]›) (hs3:‹starEach [c] X.env=[(false,eval c X.env)]›) :
  lH T X tg (.Call (.Name "range" p) [a,b,c] [] pos) (jJ sa sb sc) :=(
 qL (Ib hg hm (ak ha (ak hb (ak hc aA hs3) (by rw[hs2,hs3])) (by rw[hs,hs2])) hs hs2) λσ H R=>E6x λι h en S er q=>by
  unfold jJ at q;refine⟨ι,h,en,S,er,?_⟩
  unfold ah
  cases e:sa en h with
  |bad=>rw[e] at q;exact q
  |ex c h1=>rw[e] at q;exact q.elim
  |ok v h1 =>
   rw[e] at q;dsimp only[Out.bind] at q ⊢
   cases e':sb en h1 with
   |bad=>rw[e'] at q;exact q
   |ex c h1=>rw[e'] at q;exact q.elim
   |ok v' h2 =>
    rw[e'] at q;dsimp only at q ⊢
    cases e'':sc en h2 with
    |bad=>rw[e''] at q;exact q
    |ex c h1=>rw[e''] at q;exact q.elim
    |ok v'' h3 =>
     rw[e''] at q;dsimp only at q
     intro ι1 H1 u g1 S1 r1;split at q
     ·rename_i hx
      split at hx
      ·split at hx
       ·rename_i hb
        cases hx
        cases r1 with
        |cons r r' =>
         cases r' with
         |cons r2 r3 =>
          cases r3 with
          |cons r4 r5 =>
           cases r5
           rw[bE r,bE r2,bE r4];exact⟨_,_,_,rfl,hb,q ι1 H1 _ g1 S1 Jx⟩
       ·cases hx
      ·cases hx
     ·exact q.elim)
def ve{sts:List Stmt}{E:St->XK}:cI T E X sts (λ_ _=>.bad):=(λpins s σ H D I ⟨ι,h,en,S,er,q⟩=>q.elim)
def Jz{d:Expr}{sd:SE}{op op' op'':CmpOp}{f f' f'':F2}(ho:Op T X (compareOp op) f)(ho':Op T X (compareOp op') f')(ho'':Op T X (compareOp op'') f'')(ha:aD T E X a sa)(hb:aD T E X b sb)(hc:aD T E X c sc)(hd:aD T E X d sd)(hm:autoParam (lastMarks [op,op',op''] [b,c,d]=false) L2.E6._auto_1) :
  hX T E X (.Compare a [op,op',op''] [b,c,d] pos) (aE (i8 f f' f'' sa sb sc sd)):=by
 obtain⟨r,h1,hs⟩:=ho;obtain⟨r',h1',hs'⟩:=ho';obtain⟨r'',h1'',hs''⟩:=ho'';refine oq (Ii h1 h1' h1'' ha hb hc hd hm) λσ H Q q=>?_
 obtain⟨ι,h,en,S,er,q⟩:=q;unfold aE i8 at q;rw[Out.bind_assoc] at q;refine⟨ι,h,en,S,er,q.bind λx h1 ι1 H1 u g1 S1 r1 q1=>?_⟩
 rw[Out.bind_assoc] at q1;refine⟨ι1,h1,en,S1,er.mono g1,q1.bind λy h2 ι2 H2 w g2 S2 r2 q2=>?_⟩
 rw[Out.bind_assoc] at q2;refine hs ι2 h2 H2 x y u w (E σ) _ S2 (r1.mono g2) r2 (q2.bind λz h3 ι3 H3 k g3 S3 r3 q3=>?_)
 split at q3
 ·rename_i kk
  rw[fS r3];refine⟨kk,rfl,?_⟩
  by_cases hkk:kk=true
  ·rw[OX hkk] at q3 ⊢
   rw[Out.bind_assoc] at q3;refine⟨ι3,h3,en,S3,er.mono (g1.trans (g2.trans g3)),q3.bind λv h4 ι4 H4 j g4 S4 r4 q4=>?_⟩
   rw[Out.bind_assoc] at q4;refine hs' ι4 h4 H4 y v w j (E σ) _ S4 (r2.mono (g3.trans g4)) r4 (q4.bind λz2 h5 ι5 H5 k5 g5 S5 r5 q5=>?_)
   split at q5
   ·rename_i k2
    rw[fS r5];refine⟨k2,rfl,?_⟩
    by_cases hk2:k2=true
    ·rw[OX hk2] at q5 ⊢
     rw[Out.bind_assoc] at q5;refine⟨ι5,h5,en,S5,er.mono (g1.trans (g2.trans (g3.trans (g4.trans g5)))),q5.bind λv6 h6 ι6 H6 j6 g6 S6 r6 q6=>?_⟩
     refine hs'' ι6 h6 H6 v v6 j j6 (E σ) _ S6 (r4.mono (g5.trans g6)) r6 (q6.bind λz7 h7 ι7 H7 k7 g7 S7 r7 q7=>?_)
     split at q7
     ·rw[fS r7];exact⟨_,rfl,q7.now S7 rfl⟩
     ·exact q7.elim
    ·rw[O0 hk2] at q5 ⊢
     exact⟨false,rfl,q5.now S5 rfl⟩
   ·exact q5.elim
  ·rw[O0 hkk] at q3 ⊢
   exact⟨false,rfl,q3.now S3 rfl⟩
 ·exact q3.elim
end
def JA:∀ {us:YB},us.length=1->∃ a:ZC,us=[a]:=by
 intro us h;cases us with
 |nil=>cases h
 |cons a us=>exact⟨a,by rw[List.length_eq_zero_iff.mp (Nat.succ.inj h)]⟩
def JB:∀ {us:YB},us.length=2->∃ a b:ZC,us=[a,b]:=by
 intro us h;cases us with
 |nil=>cases h
 |cons a us=>obtain⟨b,rfl⟩:=JA (Nat.succ.inj h);exact⟨a,b,rfl⟩
def JC:∀ {us:YB},us.length=3->∃ a b c:ZC,us=[a,b,c]:=by
 intro us h;cases us with
 |nil=>cases h
 |cons a us=>obtain⟨b,c,rfl⟩:=JB (Nat.succ.inj h);exact⟨a,b,c,rfl⟩
def JD:∀ {us:YB},us.length=4->∃ a b c d:ZC,us=[a,b,c,d]:=by
 intro us h;cases us with
 |nil=>cases h
 |cons a us=>obtain⟨b,c,d,rfl⟩:=JC (Nat.succ.inj h);exact⟨a,b,c,d,rfl⟩
def JE{T:Tb}{ι:Ix}{H:Hp}{z:Str}{n:Nat}(hl:z.length*n<=1000000)(hc:z.cps.all (· < 0x110000)=true):RV T ι H (.str (aX z n)) (.str (aX z n)):=by
 refine .str ?_ ?_
 ·refine OW ?_ (OW hl 'd')
  simp[aX,Str.length,Sz]
 ·simp only[aX,Sn,Px,List.mem_flatten,List.mem_replicate]
  rintro c ⟨l,⟨_,rfl⟩,hm⟩
  exact(PD.mp hc) c (by simpa using hm)
@[simp] def oK:F2:=λx y h=>match x,y with
 |.str z,.int n=>if n.natAbs<2 ^ 40/\z.length*n.toNat<=1000000 then .ok (.str (aX z n.toNat)) h else .bad
 |_,_=>.bad
def zV{T:Tb}{X:Cx}:Op T X (binaryOp .Mult) oK:=by
 refine⟨_,Il,λι h H x y u w E Q S rx ry p=>?_⟩
 unfold oK at p;split at p
 ·split at p
  ·rename_i hz
   obtain⟨rfl,_,hc⟩:=dS rx;rw[bE ry];exact⟨_,_,rfl,rfl,hz.1,hz.2,p.now S (JE hz.2 hc)⟩
  ·exact p.elim
 ·exact p.elim
def qX:FM:=λx vs h=>match x,vs with
 |.str z,[]=>if (Txt.upper z).length<=sizeLine/\(Txt.upper z).cps.all (· < 0x110000)=true then .ok (.str (Txt.upper z)) h else .bad
 |_,_=>.bad
def JF{T:Tb}{X:Cx}:∃ r,gw X "str.upper" r/\ku T qX r:=by
 refine⟨_,Im,λι h H x xs u us E Q S rx rs q=>?_⟩
 unfold qX at q;split at q
 ·split at q
  ·rename_i hz
   cases rs
   obtain⟨rfl,_⟩:=dS rx;exact⟨_,rfl,rfl,hz.1,q.now S (.str hz.1 hz.2)⟩
  ·exact q.elim
 ·exact q.elim
section
variable{T:Tb}{E:St->XK}{X:Cx}{pos:Pos}{a:Expr}{sa:SE}{sts:List Stmt}{s1:SS}
end
def fF(n:Nat)(y z:AV)(h:AH):Out AV:=match h[n]? with
 |some (.dct t kvs)=>if dX t y then .ok ((aT kvs y).getD z) h else .bad
 |_=>.bad
def fG(o k d:SE):SE:=λen h=>(o en h).bind λx h1=>match x with
 |.ref n=>(match h1[n]? with
  |some (.dct _ _)=>(k en h1).bind λy h2=>(d en h2).bind λz h3=>fF n y z h3
  |_=>.bad)
 |_=>.bad
section
variable{T:Tb}{E:St->XK}{X:Cx}{pos apos:Pos}{a b c:Expr}{sa sb sc:SE}
def isD_of{ι:Ix}{h:AH}{H:Hp}{n:Nat}{t:Bool}{kvs:List (AV×AV)}{ad:ZE}(S:Sim T ι h H)(hn:h[n]?=some (.dct t kvs))(hr:ι.refs[n]?=some ad):oh H ad:=by
 obtain⟨ob,e1,r⟩:=S.obj n _ ad hn hr
 cases t with
 |false=>obtain⟨kus,rfl,r⟩:=r;exact .inl ⟨_,.inl e1⟩
 |true=>obtain⟨kus,rfl,r⟩:=r;exact .inr ⟨_,_,.inl e1⟩
def vf (hu:X.A.units+64<cLine) (ha:aD T E X a sa) (hb:aD T E X b sb) (hc:aD T E X c sc) (hbase:‹attributeBase a "get" X.env (eval a X.env)=eval a X.env›)
  (hfew:‹((backTo pos (starEach [b,c] X.env)).all (λx=>!x.1) && (backToKw pos (keywordEach [] X.env)).all (λx=>x.1.isSome) && decide (([b,c]:YD).length+([]:List Keyword).length+(if ([]:List Keyword).isEmpty then 0 else 1)<30))=true›)
  (hline:‹(apos.endLine == pos.line)=true›) (htrees:‹backTo pos (starEach [b,c] X.env)=[(false,eval b X.env),(false,eval c X.env)]›):aD T E X (.Call (.Attribute a "get" apos) [b,c] [] pos) (fG sa sb sc):=by
 refine bO (GL (O7 (Pg (by decide:1<=64) _) hu) ha hb hc ⟨hbase,hfew,hline,htrees⟩) λσ H Q q=>?_
 obtain⟨ι,h,en,S,er,q⟩:=q;refine⟨ι,h,en,S,er,q.bind λx h1 ι1 H1 u g1 S1 r1 q1=>?_⟩
 split at q1
 ·rename_i n
  split at q1
  ·rename_i t0 kvs0 hn0
   cases r1 with
   |@ref _ ad hr =>
    refine⟨ad,rfl,isD_of S1 hn0 hr,ι1,h1,en,S1,er.mono g1,q1.bind λy h2 ι2 H2 v g2 S2 r2 q2=>⟨ι2,h2,en,S2,(er.mono g1).mono g2,q2.bind λz h3 ι3 H3 w g3 S3 r3 q3=>?_⟩⟩
    unfold fF at q3;split at q3
    ·rename_i t kvs hn
     split at q3
     ·rename_i hk
      obtain⟨o,dg,alt⟩:=qS S3 hn ((g2.trans g3).ext.at_ hr) (r2.mono g3) hk;refine⟨o,dg,?_⟩
      rcases alt with⟨v1,rfl⟩|⟨v',u',v1,rfl,r4⟩
      ·rw[v1] at q3;exact q3.now S3 r3
      ·rw[v1] at q3;exact q3.now S3 r4
     ·exact q3.elim
    ·exact q3.elim
  ·exact q1.elim
 ·exact q1.elim
end
def zW:Expr->Bool
 |.Starred _ _=>false
 |_=>true
def JG(a:Expr)(es:YD)(env:Env)(h:zW a=true):starEach (a::es) env=(false,eval a env)::starEach es env:=by
 cases a<;>first|rfl|cases h
section
variable{T:Tb}{E:St->XK}{X:Cx}{a:Expr}{es:YD}{sa:SE}
def iE(ha:aD T E X a sa)(hr:fQ T E X es as)(hn:‹zW a=true›):fQ T E X (a::es) (ah sa as):=(ak ha hr (JG _ _ _ hn))
end
section
variable{T:Tb}{E:St->XK}{X:Cx}{pos:Pos}{a b:Expr}{sa sb:SE}{sts:List Stmt}{s1:SS}
end
end Sm
namespace L2
open PySem PySem.Spec PyProof.Rows
section
variable{X:Cx}{a b:Expr}{rest:YD}{pos:Pos}{ta tb:TE}
def vg(K:ZA)(ta tb:TE):TE:=λσ H Q=>ta σ H λx H1=>∃ k,jo K x H1 k/\if k=true then Q x H1 else tb σ H1 Q
def JH(ha:PE X a ta)(hb:PE X (.BoolOp .Or (b::rest) pos) tb):PE X (.BoolOp .Or (a::b::rest) pos) (vg X.K ta tb):=by
 intro pins s σ H Q I h;refine BoolOp_or (thn (ha pins s σ H _ I h) λv s1 Zz=>?_);obtain⟨x,H1,I1,r1,k,tv,q1⟩:=Zz
 refine PC (yc pins s1 σ H1 x v (λc H'=>if c=true then Q x H' else tb σ H' Q) I1 r1 ⟨k,tv,q1⟩) (λc s2 Zz=>?_) λ_ _ z=>z;obtain⟨H2,I2,q2⟩:=Zz
 cases c with
 |false=>exact hb pins s2 σ H2 Q I2 q2
 |true=>exact⟨x,H2,I2,r1,q2⟩
end
end L2
namespace Sm
open PySem PySem.Spec L2
@[simp] def fZ(a b:SE):SE:=λen h=>(a en h).bind λv h1=>match jx v h1 with
 |some k=>if k=true then .ok v h1 else b en h1
 |none=>.bad
section
variable{T:Tb}{E:L2.St->XK}{X:Cx}{pos:Pos}{a b:Expr}{rest:YD}{sa sb:SE}
def qY(hK:X.K=T.K)(ha:aD T E X a sa)(hb:aD T E X (.BoolOp .Or (b::rest) pos) sb):aD T E X (.BoolOp .Or (a::b::rest) pos) (fZ sa sb) :=(
 bO (JH ha hb) λσ H Q=>E6x λι h en S er q=>⟨ι,h,en,S,er,q.bind λx h1 ι1 H1 u g1 S1 r1 q1=>by
  split at q1
  ·rename_i k hk
   refine⟨k,hK▸zj S1 r1 hk,?_⟩
   by_cases hkk:k=true
   ·rw[OX hkk] at q1 ⊢
    exact q1.now S1 r1
   ·rw[O0 hkk] at q1 ⊢
    exact⟨ι1,h1,en,S1,er.mono g1,q1⟩
  ·exact q1.elim⟩)
end
end Sm
namespace L2
open PySem PySem.Spec
def Room.m{j k:Nat}{A:ZG}(hr:Room k A)(h:‹Nat.ble j k=true›):Room j A:=(hr.mono (Nat.le_of_ble_eq_true h))
end L2
namespace Sm
open PySem PySem.Spec L2
def DK(K:ZA)(x:Str)(st:Stmt):Prop:=∃ f fd,PySem.W.nsIn K mainGlobals x=some (some (.ref f))/\Fun K x x st f fd
def DN(K:ZA)(C:ZE)(m q:Str)(st:Stmt):Prop:=∃ f fd,iw K C m f/\Fun K m q st f fd
def cu(K:ZA)(cls:Nat->YC)(c:Nat)(m q:Str)(st:Stmt)(ps:List Str):Prop:=∃ C f fd,cls c=some C/\Cls K C/\iw K C m f/\Binds K fd ps []/\Fun K m q st f fd
def DI(K:ZA)(cls:Nat->YC)(mg:YA)(c:Nat)(x q:Str)(st:Stmt)(ps:List Str):Prop:=∃ C f fd,cls c=some C/\mg x=some (.ref C)/\Mk K C f/\Binds K fd ps []/\Fun K "__init__" q st f fd
section
variable{P:ZD}{w:ZF}{K:ZA}{mg:YA}{base h:Heap}{T:Tb}{x m q:Str}{st:Stmt}{f C:ZE}{N ps:List Str}{k c:Nat}{b:SS}{cls:Nat->YC}
section
variable{oc:ZC}{od an:YC}{osl:Array (Option ZC)}{kV doc pm cdv ct:ZC}
def dk(a:PySem.W.nsIn K mainGlobals x=some (some (.ref f)))(l:K.lookup f=some ⟨oc,od,.func (PySem.W.fnOf x x (lr st) (iX st) (bK st) .none kV doc pm an cdv ct),osl⟩)
  (c:PySem.W.codeIn K cdv x=true)(k:PySem.W.keepIn K (.ref f)=true):DK K x st:=(⟨f,_,a,yE l c k⟩)
def dn(a:PySem.W.findIn K (.ref C) m=some (some (.ref f)))(i:PySem.W.isFn K (.ref f)=true)(l:K.lookup f=some ⟨oc,od,.func (PySem.W.fnOf m q (lr st) (iX st) (bK st) .none kV doc pm an cdv ct),osl⟩)
  (c:PySem.W.codeIn K cdv q=true)(k:PySem.W.keepIn K (.ref f)=true):DN K C m q st:=(⟨f,_,⟨a,i,k⟩,yE l c k⟩)
end
abbrev BA(x q:Str)(st:Stmt)(us:YB)(r:List (Str×ZC)):Prop:=∀ (kV doc pm:ZC) (an:YC) (cdv ct:ZC),bindArgs (PySem.W.fnOf x q (lr st) (iX st) (bK st) .none kV doc pm an cdv ct) ⟨us,[]⟩=pure r
def BL(x q:Str)(st:Stmt)(ps:List Str):Prop:=∀ (us:YB),us.length=ps.length->BA x q st us (ps.zip us)
def fo{p1:Str}(h:autoParam (∀ a,BA x q st [a] [(p1,a)]) aZ._auto_1):BL x q st [p1]:=(λus e=>by obtain⟨_,rfl⟩:=JA e;exact h _)
def cQ{p1 p2:Str}(h:autoParam (∀ a b,BA x q st [a,b] [(p1,a),(p2,b)]) aZ._auto_1):BL x q st [p1,p2]:=(λus e=>by obtain⟨_,_,rfl⟩:=JB e;exact h _ _)
def d0{p1 p2 p3:Str}(h:autoParam (∀ a b c,BA x q st [a,b,c] [(p1,a),(p2,b),(p3,c)]) aZ._auto_1):BL x q st [p1,p2,p3]:=(λus e=>by obtain⟨_,_,_,rfl⟩:=JC e;exact h _ _ _)
def nj{p1 p2 p3 p4:Str}(h:autoParam (∀ a b c d,BA x q st [a,b,c,d] [(p1,a),(p2,b),(p3,c),(p4,d)]) aZ._auto_1):BL x q st [p1,p2,p3,p4]:=(λus e=>by obtain⟨_,_,_,_,rfl⟩:=JD e;exact h _ _ _ _)
def dg(X:K.In h)(G:h.Ns mainGlobals mg)(d:DK K x st)(hb:BL x x st ps):DG K mg x st ps:=by
 obtain⟨f,fd,a,F⟩:=d;exact⟨f,fd,PM X G a,F.kp,F.binds λ_ _ _ _ _ _ us hl=>hb us hl _ _ _ _ _ _,F⟩
def dm(hc:cls c=some C)(k:Cls K C)(d:DN K C m q st)(hb:BL m q st ps):cu K cls c m q st ps:=by
 obtain⟨f,fd,M,F⟩:=d;exact⟨C,f,fd,hc,k,M,F.binds λ_ _ _ _ _ _ us hl=>hb us hl _ _ _ _ _ _,F⟩
def di (hc:cls c=some C) (hx:mg x=some (.ref C)) (mk:PySem.W.makesIn K C=true) (kc:PySem.W.keepIn K (.ref C)=true) (d:DN K C "__init__" q st) (hb:BL "__init__" q st ps):DI K cls mg c x q st ps:=by
 obtain⟨f,fd,M,F⟩:=d;exact⟨C,f,fd,hc,hx,⟨mk,M.at_,M.fn,kc⟩,F.binds λ_ _ _ _ _ _ us hl=>hb us hl _ _ _ _ _ _,F⟩
def vh{fa:ZE}{p:Str}(X:K.In h)(G:h.Ns mainGlobals mg)(hfa:mg x=some (.ref fa))(d:DK K x st)(hb:BL x x st [p]):∃ fd:FuncData,(∀ (s:ZB) (v:ZC),BindsTo s fd ⟨[v],[]⟩ [(p,v)])/\Fun K x x st fa fd:=by
 obtain⟨f,fd,a,F⟩:=d;have e:=hfa.symm.trans (PM X G a)
 cases e
 refine⟨fd,λs v=>?_,F⟩
 obtain⟨oc,od,kV,doc,pm,an,cdv,ct,osl,rfl,lk,hcd⟩:=F.ex;exact .of_eq (hb [v] rfl _ _ _ _ _ _)
def gb{sc:Scope}(h1:‹sc.kind=.function›)(h2:‹sc.isCoroutine=false›)(h3:‹sc.isGenerator=false›)(h4:autoParam (N.Nodup) aK._auto_1)(h5:‹N.take ps.length=ps›)
  (h6:autoParam (∀ x∈ps,sc.names.lookup x=some .local\/sc.names.lookup x=some .cell) aK._auto_1)(h7:autoParam (∀ y∈sc.names,y.2 ≠ .free) aK._auto_1):aC N ps sc:=(⟨h1,h2,h3,h4,h5,h6,h7⟩)
abbrev lP(P:ZD)(w:ZF)(mg:YA)(base:Heap)(T:Tb)(q:Str)(st:Stmt)(f:ZE)(N:List Str)(k:Nat)(b:SS):Prop :=
 ∀ {cdv:ZC} {A:ZG} {outer:List Env} {s:ZB} {H:Hp} {E:XK},Room k (A.deeper (PyProof.Rows.envOfC q (bK st) s.heap.objs.size f cdv))->CA T (λ_=>E) (bX (cO P w) P w T.K mg base N q (bK st) f cdv A outer s H E) ->
  (A.deeper (PyProof.Rows.envOfC q (bK st) s.heap.objs.size f cdv)).units+64<cLine->N.Nodup->cI T (λ_=>E) (bX (cO P w) P w T.K mg base N q (bK st) f cdv A outer s H E) (iX st) b
def gf(d:DG T.K mg x st ps)(S:aC N ps (bK st))(hb:∀ {f},lP P w mg base T x st f N k b):GF P w T mg base (k+1) x (aw ps.length N.length b):=by
 obtain⟨f,fd,h1,h2,h3,h4⟩:=d;exact⟨f,fd,_,h1,h2,h3,qP h4 rfl S λcdv A outer s H E hr C=>hb hr C (jt hr) S.nd⟩
def gm(d:cu T.K T.cls c m q st ps)(S:aC N ps (bK st))(no:m∉T.fields c)(hb:∀ {f},lP P w mg base T q st f N k b):GM P w T mg base (k+1) c m (aw ps.length N.length b):=by
 obtain⟨C,f,fd,h0,hc,h1,h3,h4⟩:=d;exact⟨⟨C,f,fd,_,h0,hc,h1,h3,qP h4 rfl S λcdv A outer s H E hr C=>hb hr C (jt hr) S.nd⟩,no⟩
def gk(d:DI T.K T.cls mg c x q st ps)(S:aC N ps (bK st))(hb:∀ {f},lP P w mg base T q st f N k b):GK P w T mg base (k+1) c x (aw ps.length N.length b):=by
 obtain⟨C,f,fd,h0,h1,h2,h3,h4⟩:=d;exact⟨C,f,fd,_,h0,h1,h2,h3,qP h4 rfl S λcdv A outer s H E hr C=>hb hr C (jt hr) S.nd⟩
def gl{f:ZE}{fd:FuncData}(h4:Fun T.K x x st f fd)(S:aC N ps (bK st))(hb:lP P w mg base T x st f N k b):FnOk P w T.K mg base (cO P w) (k+1) f fd ps (iC T (aw ps.length N.length b)) :=(
 qP h4 rfl S λcdv A outer s H E hr C=>hb hr C (jt hr) S.nd)
def XI(K:ZA)(X:ZE):Prop:=PySem.W.excIn K X [.type "ValueError",.type "Exception",.type "BaseException",.type "object"] "ValueError.__new__"=true
def xi {X:ZE} (h:PySem.W.excIn K X [.type "ValueError",.type "Exception",.type "BaseException",.type "object"] "ValueError.__new__"=true):XI K X:=(h)
def gx{X:ZE}{n:Nat}{g:Heap}(KB:K.In g)(KX:K.In h)(G:h.Ns mainGlobals mg)(hc:T.exc n=some X)(e:PySem.W.nsIn K mainGlobals x=some (some (.ref X)))(hx:XI K X):GX T mg g n x:=(⟨X,hc,HK KB (PM KX G e) hx⟩)
def KO(K:ZA)(a b:ZE)(v:Bool):Prop:=PySem.W.kitOne K (.ref a) (.ref b)=some v
def ko{a d:ZE}{v:Bool}(h:PySem.W.kitOne K (.ref a) (.ref d)=some v):KO K a d v:=(h)
def XO(K:ZA)(a b:ZE):Prop:=PySem.W.exmOne K (.ref a) (.ref b)=some true
def xo{a d:ZE}(h:PySem.W.exmOne K (.ref a) (.ref d)=some true):XO K a d:=(h)
def NA(K:ZA)(x:Str)(v:Option ZC):Prop:=PySem.W.nsIn K mainGlobals x=some v
def na{v:Option ZC}(h:PySem.W.nsIn K mainGlobals x=some v):NA K x v:=(h)
def FA(K:ZA)(C:ZE)(x:Str):Prop:=PySem.W.findIn K (.ref C) x=some none
def fatt(h:PySem.W.findIn K (.ref C) x=some none):FA K C x:=(h)
end
def eR(st:Stmt):List Str:=((bK st).names.filter λy=>match y.2 with|.local=>true|.cell=>true|_=>false).map (·.1)
section
variable{P:ZD}{w:ZF}{K:ZA}{cls exc:Nat->YC}{fl:Nat->List Str}{n1:∀ c,(fl c).Nodup}{n2:∀ c,(fl c).length<=500}{mg:YA}{base h:Heap}{x m q:Str}{st:Stmt}{ps:List Str}{k c:Nat}{b:SS}
def gF(d:DG K mg x st ps)(hb:∀ {f},lP P w mg base ⟨K,cls,exc,fl,n1,n2⟩ x st f (eR st) k b)(S:aC (eR st) ps (bK st):=by exact gb):GF P w ⟨K,cls,exc,fl,n1,n2⟩ mg base (k+1) x (aw ps.length (eR st).length b):=(gf d S hb)
def gM(d:cu K cls c m q st ps)(hb:∀ {f},lP P w mg base ⟨K,cls,exc,fl,n1,n2⟩ q st f (eR st) k b)(no:decide (m∈fl c)=false:=by kernel_rfl)(S:autoParam (aC (eR st) ps (bK st)) gF._auto_1):GM P w ⟨K,cls,exc,fl,n1,n2⟩ mg base (k+1) c m (aw ps.length (eR st).length b):=(gm d S (of_decide_eq_false no) hb)
def gK(d:DI K cls mg c x q st ps)(hb:∀ {f},lP P w mg base ⟨K,cls,exc,fl,n1,n2⟩ q st f (eR st) k b)(S:autoParam (aC (eR st) ps (bK st)) gF._auto_1):GK P w ⟨K,cls,exc,fl,n1,n2⟩ mg base (k+1) c x (aw ps.length (eR st).length b):=(gk d S hb)
end
section
variable{X:Cx}{P:ZD}{w:ZF}{K:ZA}{mg:YA}{base:Heap}{N:List Str}{q:Str}{sc scope:Scope}{f:ZE}{cd:ZC}{A:ZG}{outer:List Env}{s:ZB}{H:Hp}{E:XK}{CX:fO}{ns:List Str}{jf:List (Nat×Str)}{xe:ZC->ZB->Prop}
def lQ(h:u7 N sc ns jf scope=true):CompOk (bX CX P w K mg base N q sc f cd A outer s H E) ns jf scope:=(u9 rfl (λ_=>rfl) h)
end
end Sm
namespace L2
open PySem PySem.Spec PyProof.Rows
def vi{P:ZD}{w:ZF}{kvs:List (aF×V)}{vs:List (aF×ZC)}(r:KV kvs vs):∀ {ns:List Str} {us:YB},kvs.map (·.1)=ns.map Sum.inr->us.length=vs.length->(∀ (i:Nat) (v:ZC),us[i]?=some v->∃ k x,vs[i]?=some (k,x)/\(d9 P w).is k v=true)->StrsAre us ns:=by
 unfold KV at r;induction r with
 |nil=>
  intro ns us e l _;cases ns with
  |nil=>cases us with|nil=>exact .nil|cons _ _=>simp at l
  |cons _ _=>simp at e
 |@cons p q kvs vs r rs ih=>
  intro ns us e l f;cases ns with
  |nil=>simp at e
  |cons n ns=>
   cases us with
   |nil=>simp at l
   |cons u us=>
    simp only[O8,List.cons.injEq] at e
    obtain⟨k,x,e1,e2⟩:=f 0 u rfl;have e3:q=(k,x):=by simpa using e1
    have ek:k=Sum.inr n:=by rw[<- e.1,r.1,e3]
    rw[ek] at e2;rw[DL] at e2;rcases ip (k:=Sum.inr n) (v:=u) e2 with⟨i,t,a1,a2⟩|⟨y,t,a1,a2⟩
    ·cases a1
    ·injection a1 with a1
     subst a1 a2
     exact .cons _ _ (ih e.2 (by simpa using l) λi v h=>by simpa using f (i+1) v (by simpa using h))
theorem vj:∀ {vs:YB} {ns:List Str},StrsAre vs ns->Vals (ns.map V.str) vs
 |_,_,.nil=>.nil
 |_,_,.cons y t h=>.cons ⟨t,rfl⟩ (vj h)
theorem StrsAre.len:∀ {vs:YB} {ns:List Str},StrsAre vs ns->vs.length=ns.length
 |_,_,.nil=>rfl
 |_,_,.cons y t h=>congrArg Nat.succ (StrsAre.len h)
def JI{X:Cx}(hc:X.calm=true):CallR X (.builtin "sorted") (λxs H Q=>∃ (a:ZE) (kvs:List (aF×V)) (ns:List Str),xs=[.ref a]/\H a=some (.dK kvs)/\kvs.map (·.1)=ns.map Sum.inr/\ns.length<64/\∀ (p:ZE) (ns':List Str),H p=none->ns'.Perm ns->sortedS ns'=true->Q (.ref p) (upd H p (.lst (ns'.map V.str)))):=by
 intro pins s σ H xs us Q I rv h;obtain⟨a,kvs,ns,rfl,ha,hn,h64,q⟩:=h;obtain⟨u,rfl,ru⟩:=Vals.one rv;obtain rfl:u=Value.ref a:=ru;obtain⟨z,hd,vs,rel,dd⟩:=dk_of I.hok ha;obtain⟨ep,da⟩:=dd.dictAt;have lv:vs.length=kvs.length:=(Paired.length rel).symm;refine RW kind_sorted plain_sorted entry_sorted (args_sorted1 _) ?_
 unfold Builtin.«sorted»
 refine OT (m:=checkCount "sorted" 1 1 _) (O1 (OT (TC (PySem.W.kdl_dict (knd:=d9 X.prog X.w) (kvs:=vs) (ep:=ep) hd) (I.ok.hd hc) da (by rw[lv];exact z) λh' tk acc hk hacc=>?_)))
 have hl:acc.toList.length=vs.length:=by rw[Qt];exact hacc.1
 have hI:StrsAre acc.toList ns:=vi rel hn hl λi v e=>hacc.2 i v (by rw[<- Rq];exact e)
 have hz:acc.toList.length<=sizeLine:=by rw[hl,lv];exact z
 refine OT (wpAny_newList ?_ hz)
 have hoL:(h'.push (seqObj "list" acc.toList.toArray 0)).get? h'.objs.size=some (seqObj "list" acc.toList.toArray 0):=Pa _ rfl;refine OT (PJ (P7 slot_list_sort ⟨_,hoL,rfl⟩ entry_list_sort (list_sort_treeK (s:={ s with heap:=h'.push (seqObj "list" acc.toList.toArray 0),toks:=tk }) strKind_oneLt hoL hI.keysOf (λv₁ v₂ rest e=>keyKind_strs (by rw[<- e];exact hI)) (by rw[StrsAre.len hI];exact h64) λst' hp hs=>⟨_,rfl,O1 ⟨_,rfl,?_⟩⟩) (args_list_sort _)))
 obtain⟨ns',o1,o2,o3⟩:=sorted_out_str hI hp hs;have I1:Inv X pins σ H { s with heap:=h',toks:=tk }:=I.kept (t':=tk) hk;obtain⟨e,he⟩:=sortedHeap_at (out:=(arrOf st').map (·.2)) hoL;have l2:ns'.length=ns.length:=o2.length_eq;have l3:ns.length=kvs.length:=by have:=congrArg List.length hn;simpa using this.symm
 refine⟨.ref h'.objs.size,_,I1.laid (a:=h'.objs.size) (t':=tk) (o:=.lst (ns'.map V.str)) (λb o hb=>?_) (OV _) ⟨?_,((arrOf st').map (·.2)).toList,e,vj o1,?_⟩,rfl,q _ ns' (I1.hok.fresh (OV _)) o2 o3⟩
 ·have lt:b<h'.objs.size:=O4 hb
  rw[sortedHeap_old (Pq lt) (by rw[size_push'];exact Rl lt)];exact OZ _ hb
 ·rw[O2,l2,l3];exact z
 ·rw[he]
end L2
namespace Sm
open PySem PySem.Spec L2 PyProof.Rows
def gX(a b:Str):Prop:=ltCps b.cps.toList a.cps.toList=false
def gY(x:Str):List Str->List Str
 |[]=>[x]
 |y::r=>if ltCps y.cps.toList x.cps.toList then y::gY x r else x::y::r
def dF:List Str->List Str
 |[]=>[]
 |x::r=>gY x (dF r)
def leS_le{a b:Str}:gX a b ↔ a.cps.toList<=b.cps.toList:=by
 unfold gX;rw[ltCps_eq,Rg];exact Iff.rfl
theorem vm(x:Str):∀ l,(gY x l).Perm (x::l)
 |[]=>.refl _
 |y::r=>by
  unfold gY;split
  ·exact((vm x r).cons y).trans (.swap ..)
  ·exact .refl _
theorem gc:∀ l,(dF l).Perm l
 |[]=>.refl _
 |x::r=>(vm x (dF r)).trans ((gc r).cons x)
theorem zX(x:Str):∀ {l:List Str},l.Pairwise gX->(gY x l).Pairwise gX
 |[],_=>So ..
 |y::r,h=>by
  obtain⟨h1,h2⟩:=Qh.mp h;unfold gY;split
  ·rename_i q
   refine Qh.mpr ⟨λz hz=>?_,zX x h2⟩
   rcases Pb.mp ((vm x r).mem_iff.mp hz) with rfl|hz
   ·rw[leS_le]
    rw[ltCps_eq,P3] at q;exact List.le_of_lt q
   ·exact h1 z hz
  ·rename_i q
   have q':gX x y:=by simpa[gX] using q
   refine Qh.mpr ⟨λz hz=>?_,h⟩
   rcases Pb.mp hz with rfl|hz
   ·exact q'
   ·exact leS_le.mpr (List.le_trans (leS_le.mp q') (leS_le.mp (h1 z hz)))
theorem lR:∀ l,(dF l).Pairwise gX
 |[]=>.nil
 |x::r=>zX x (lR r)
theorem oM:∀ {l m:List Str},l.Perm m->l.Pairwise gX->m.Pairwise gX->l=m
 |[],m,p,_,_=>(List.nil_perm.mp p).symm
 |x::l,[],p,_,_=>by simp at p
 |x::l,y::m,p,h,g=>by
  obtain⟨h1,h2⟩:=Qh.mp h;obtain⟨g1,g2⟩:=Qh.mp g;have e:x=y:=by
   have a:x∈y::m:=p.mem_iff.mp (PK ..);have b:y∈x::l:=p.mem_iff.mpr (PK ..);rcases Pb.mp a with a|a
   ·exact a
   ·rcases Pb.mp b with b|b
    ·exact b.symm
    ·have:x.cps.toList=y.cps.toList:=List.le_antisymm (leS_le.mp (h1 y b)) (leS_le.mp (g1 x a))
     cases x;cases y
     congr 1
     exact Sj.mp this
  subst e;rw[oM (List.Perm.cons_inv p) h2 g2]
theorem zY:∀ (p:Str) (l:List Str),PyProof.Rows.risingS p l=true->(p::l).Pairwise gX
 |p,[],_=>So ..
 |p,x::r,h=>by
  have h':(!ltCps x.cps.toList p.cps.toList && PyProof.Rows.risingS x r)=true:=h;rw[Pu] at h';have t:=zY x r h'.2
  have a:gX p x:=by simpa[gX] using h'.1
  refine Qh.mpr ⟨λz hz=>?_,t⟩
  rcases Pb.mp hz with rfl|hz
  ·exact a
  ·exact leS_le.mpr (List.le_trans (leS_le.mp a) (leS_le.mp ((Qh.mp t).1 z hz)))
theorem zZ:∀ (l:List Str),PyProof.Rows.sortedS l=true->l.Pairwise gX
 |[],_=>.nil
 |x::r,h=>zY x r h
def lS:YF->Option (List Str)
 |[]=>some []
 |.str x::r=>(lS r).map (x :: ·)
 |_::_=>none
theorem vn:∀ {l:YF} {is:List Str},lS l=some is->l=is.map AV.str
 |[],is,e=>by cases e;rfl
 |.str i::r,is,e=>by
  unfold lS at e
  cases q:lS r with
  |none=>rw[q] at e;cases e
  |some js=>rw[q] at e;cases e;rw[vn q];rfl
 |.non::_,_,e|.bl _::_,_,e|.int _::_,_,e|.tup _::_,_,e|.fl _::_,_,e|.ref _::_,_,e|.exc _::_,_,e=>nomatch e
def nk(v:AV)(h:AH):Option (List Str):=match v with
 |.ref n=>(match h[n]? with
  |some (.dct false kvs)=>lS (kvs.map (·.1))
  |_=>none)
 |_=>none
def lT:Fn:=λargs h=>match args with
 |[v]=>(match nk v h with
  |some ns=>if ns.length<64/\∀ x∈ns,x.length<=1000/\x.cps.all (· < 0x110000)=true then .ok (.fl ((dF ns).map AV.str)) h else .bad
  |none=>.bad)
 |_=>.bad
def qZ:SS:=λ_ _=>.bad
def oO(o k:SE):SE:=λen h=>(o en h).bind λx h1=>match x with
 |.ref n=>(match h1[n]? with
  |some (.dct _ _)=>(k en h1).bind λy h2=>fF n y .non h2
  |_=>.bad)
 |_=>.bad
@[simp] def i9:FM:=λx vs h=>match x,vs with
 |.ref n,[]=>match h[n]? with
  |some (.lst _)=>.ok .non (h.set n (.lst []))
  |_=>.bad
 |_,_=>.bad
section
variable{T:Tb}{E:L2.St->XK}{X:Cx}{pos apos:Pos}{a b c:Expr}{sa sb sc:SE}{st:Stmt}
def JJ (hu:X.A.units+64<cLine) (ha:aD T E X a sa) (hb:aD T E X b sb) (hbase:‹attributeBase a "get" X.env (eval a X.env)=eval a X.env›)
  (hfew:‹((backTo pos (starEach [b] X.env)).all (λx=>!x.1) && (backToKw pos (keywordEach [] X.env)).all (λx=>x.1.isSome) && decide (([b]:YD).length+([]:List Keyword).length+(if ([]:List Keyword).isEmpty then 0 else 1)<30))=true›)
  (hline:‹(apos.endLine == pos.line)=true›) (htrees:‹backTo pos (starEach [b] X.env)=[(false,eval b X.env)]›):aD T E X (.Call (.Attribute a "get" apos) [b] [] pos) (oO sa sb):=by
 refine bO (GJ (O7 (Pg (by decide:1<=64) _) hu) ha hb ⟨hbase,hfew,hline,htrees⟩) λσ H Q q=>?_
 obtain⟨ι,h,en,S,er,q⟩:=q;refine⟨ι,h,en,S,er,q.bind λx h1 ι1 H1 u g1 S1 r1 q1=>?_⟩
 split at q1
 ·rename_i n
  split at q1
  ·rename_i t0 kvs0 hn0
   cases r1 with
   |@ref _ ad hr =>
    refine⟨ad,rfl,isD_of S1 hn0 hr,ι1,h1,en,S1,er.mono g1,q1.bind λy h2 ι2 H2 v g2 S2 r2 q2=>?_⟩
    unfold fF at q2;split at q2
    ·rename_i t kvs hn
     split at q2
     ·rename_i hk
      obtain⟨o,dg,alt⟩:=qS S2 hn (g2.ext.at_ hr) r2 hk;refine⟨o,dg,?_⟩
      rcases alt with⟨v1,rfl⟩|⟨v',u',v1,rfl,r4⟩
      ·rw[v1] at q2;exact q2.now S2 .non
      ·rw[v1] at q2;exact q2.now S2 r4
     ·exact q2.elim
    ·exact q2.elim
  ·exact q1.elim
 ·exact q1.elim
theorem vo{ι:Ix}{H:Hp}:∀ {l:List (AV×AV)} {m:List (aF×V)} {is:List Str},Paired (λ(p:AV×AV) (q:aF×V)=>p.1=kA q.1/\RV T ι H p.2 q.2) l m->l.map (·.1)=is.map AV.str->m.map (·.1)=is.map Sum.inr
 |_,_,[],.nil,_=>rfl
 |_,_,_::_,.nil,e=>by simp at e
 |_,_,[],.cons _ _,e=>by simp at e
 |_,_,i::is,.cons (a:=p) (b:=q) hh t,e=>by
  rw[O8,O8] at e ⊢;injection e with e1 e2
  rw[vo t e2];have e3:kA q.1=.str i:=by rw[<- hh.1];exact e1
  obtain⟨k,v⟩:=q
  cases k with
  |inr j=>injection e3 with e3;subst e3;rfl
  |inl x=>cases e3
theorem vp{ι:Ix}{H:Hp}:∀ (ns:List Str),(∀ x∈ns,x.length<=sizeLine/\x.cps.all (· < 0x110000)=true)->RVs T ι H (ns.map AV.str) (ns.map V.str)
 |[],_=>.nil
 |n::ns,h=>.cons (.str (h n (PK ..)).1 (h n (PK ..)).2) (vp ns λx hx=>h x (Pt _ hx))
def JK(hc:‹X.calm=true›):∃ r,CallR X (.builtin "sorted") r/\ic T lT r:=by
 refine⟨_,JI hc,λι h H xs us E Q S r q=>?_⟩
 unfold lT at q;split at q
 ·split at q
  ·rename_i ns hn
   split at q
   case isFalse=>exact q.elim
   rename_i hz;unfold nk at hn;split at hn
   ·rename_i n
    split at hn
    ·rename_i kvs hk
     cases r with
     |cons r r' =>
      cases r'
      cases r with
      |@ref _ ad hr =>
       obtain⟨ob,e1,kus,rfl,pr⟩:=S.obj n _ ad hk hr;refine⟨ad,kus,ns,rfl,e1,vo pr (vn hn),hz.1,λp ns' hp pm so=>?_⟩
       have:ns'=dF ns:=oM (pm.trans (gc ns).symm) (zZ _ so) (lR ns)
       subst this;exact q ι _ _ (S.growNew hp) (S.new hp) (.fl (S.fresh hp) (.of dH) (vp _ λx hx=>⟨OW (hz.2 x ((gc ns).mem_iff.mp hx)).1 'd',(hz.2 x ((gc ns).mem_iff.mp hx)).2⟩))
    ·cases hn
   ·cases hn
  ·exact q.elim
 ·exact q.elim
def vq:∃ r,gw X "list.clear" r/\ku T i9 r:=by
 refine⟨_,Gb,λι h H x xs u us E Q S rx rs q=>?_⟩
 unfold i9 at q;split at q
 ·rename_i n
  split at q
  ·rename_i ys hn
   cases rx with
   |@ref _ ad hr =>
    cases rs
    obtain⟨o,e1,ws,rfl,rw_⟩:=S.obj n _ ad hn hr;exact⟨ad,ws,rfl,rfl,e1,q ι _ _ (S.growSet (u:=.lst []) hr) (S.set hr ⟨_,rfl,.nil⟩) .non⟩
  ·exact q.elim
 ·exact q.elim
end
end Sm
namespace L2
open PySem PySem.Spec PyProof.Rows
def JL{X:Cx}:CallR X (.type "dict") (λxs H Q=>∃ (a:ZE) (kvs:List (aF×V)),xs=[.ref a]/\H a=some (.dK kvs)/\∀ (p:ZE),H p=none->Q (.ref p) (upd H p (.dK kvs))):=by
 intro pins s σ H xs us Q I rv h;obtain⟨a,kvs,rfl,ha,q⟩:=h;obtain⟨u,rfl,ru⟩:=Vals.one rv;obtain rfl:u=Value.ref a:=ru;obtain⟨z,hd,vs,rel,dd⟩:=dk_of I.hok ha;have lv:vs.length=kvs.length:=(Paired.length rel).symm;refine PySem.kt_call_dict hd dd (by rw[lv];exact z) λh' d' sb=>?_
 have ks:∀ b o,s.heap.get? b=some o->h'.get? b=some o:=λb o hb=>(sb.2 b (λe=>absurd (O4 hb) (by rw[e];exact Qi _))).trans (OZ _ hb)
 have hs:(s.heap.objs.size == sysModules)=false:=beq_eq_false_iff_ne.mpr (Ne.symm (Pq I.big));exact⟨.ref s.heap.objs.size,_,I.laid (a:=s.heap.objs.size) (t':=s.toks) (o:=.dK kvs) ks (OV _) ⟨z,hs,vs,rel,d'⟩,rfl,q _ (I.hok.fresh (OV _))⟩
end L2
namespace Sm
open PySem PySem.Spec L2 PyProof.Rows
def z8:bootBuiltins "dict"=some (.type "dict"):=by decide +kernel
def kB:Fn:=λargs h=>match args with
 |[.ref n]=>(match h[n]? with
  |some (.dct false kvs)=>.ok (.ref h.length) (h++[.dct false kvs])
  |_=>.bad)
 |_=>.bad
def z9{T:Tb}{X:Cx}:∃ r,CallR X (.type "dict") r/\ic T kB r:=by
 refine⟨_,JL,λι h H xs us E Q S r q=>?_⟩
 unfold kB at q;split at q
 ·rename_i n
  split at q
  ·rename_i kvs hn
   cases r with
   |cons r r' =>
    cases r'
    cases r with
    |@ref _ ad hr =>
     obtain⟨ob,e1,kus,rfl,pr⟩:=S.obj n _ ad hn hr;exact⟨ad,kus,rfl,e1,λp hp=>q _ _ _ (S.growAdd hp) (S.add hp ⟨_,rfl,Paired.mapP pr λ_ _ ⟨a,b⟩=>⟨a,b.mono (S.growAdd hp)⟩⟩) (.ref S.addAt)⟩
  ·exact q.elim
 ·exact q.elim
end Sm
namespace L2
open PySem PySem.Spec PyProof.Rows
section
variable{P:ZD}{w:ZF}{A:ZG}{E:ZC->ZB->Prop}{s:ZB}
def JM (d:ZE) (hd:(d == sysModules)=false) {Q:ZC->ZB->Prop} (ty:s.TypeIs (.ref d) "dict")
  (q:Q (.ref s.heap.objs.size) { s with heap:=s.heap.push { cls:=.type "dict_keys",data:=.fields #[.ref d] } }):wpAny (model P w) A (call (.builtin "dict.keys") [.ref d]) Q E s:=by
 refine P7 F.slot_dict_keys ty F.entry_dict_keys (OT ?_) (F.args_dict_keys_1 _)
 unfold Builtin.Dict.noArgs;refine OT (Rv ty (show wpAny _ _ (pure d) _ _ s from O1 (show wpAny _ _ (Builtin.Dict.showsAll d >>= _) _ _ s from ?_)))
 unfold Builtin.Dict.showsAll;rw[O0 (by rw[hd];exact Pe)];exact OT (O1 (OT (Qo (O1 ⟨_,rfl,q⟩))))
end
def rf(p a:ZE):HO:=.ext λh=>PySem.W.KdlKeysView h p a
def JN{X:Cx}:gw X "dict.keys" (λx xs H Q=>∃ a kvs,x=.ref a/\xs=[]/\H a=some (.dK kvs)/\∀ p,H p=none->Q (.ref p) (upd H p (rf p a))):=by
 intro pins s σ H x xs v us Q I rx r h;obtain⟨a,kvs,rfl,rfl,ha,q⟩:=h
 cases r
 cases rx
 obtain⟨z,hd,vs,rel,dd⟩:=dk_of I.hok ha;refine JM a hd dd.typeIs ⟨.ref s.heap.objs.size,_,I.laid (a:=s.heap.objs.size) (o:=rf s.heap.objs.size a) (t':=s.toks) (λ_ _ z=>OZ _ z) (OV _) ⟨⟨_,Pa _ rfl,rfl,rfl⟩,⟨_,Pa _ rfl⟩,λh1 h2 st k=>st.imp λo e=>⟨k o e.1,e.2⟩⟩,rfl,q _ (I.hok.fresh (OV _))⟩
def JO{X:Cx}(hc:X.calm=true):CallR X (.builtin "sorted") (λxs H Q=>∃ (v a:ZE) (kvs:List (aF×V)) (ns:List Str),xs=[.ref v]/\H v=some (rf v a)/\H a=some (.dK kvs)/\kvs.map (·.1)=ns.map Sum.inr/\ns.length<64/\∀ (p:ZE) (ns':List Str),H p=none->ns'.Perm ns->sortedS ns'=true->Q (.ref p) (upd H p (.lst (ns'.map V.str)))):=by
 intro pins s σ H xs us Q I rv h;obtain⟨v,a,kvs,ns,rfl,hv,ha,hn,h64,q⟩:=h;obtain⟨u,rfl,ru⟩:=Vals.one rv;obtain rfl:u=Value.ref v:=ru;obtain⟨vw,_⟩:=I.hok v _ hv;obtain⟨z,hd,vs,rel,dd⟩:=dk_of I.hok ha;obtain⟨ep,da⟩:=dd.dictAt;have lv:vs.length=kvs.length:=(Paired.length rel).symm;refine RW kind_sorted plain_sorted entry_sorted (args_sorted1 _) ?_
 unfold Builtin.«sorted»
 refine OT (m:=checkCount "sorted" 1 1 _) (O1 (OT (TC (PySem.W.kdl_keys (knd:=d9 X.prog X.w) (kvs:=vs) (ep:=ep) (r:=v) (d:=a)) (I.ok.hd hc) ⟨vw,da⟩ (by rw[lv];exact z) λh' tk acc hk hacc=>?_)))
 have hl:acc.toList.length=vs.length:=by rw[Qt];exact hacc.1
 have hI:StrsAre acc.toList ns:=vi rel hn hl λi v e=>hacc.2 i v (by rw[<- Rq];exact e)
 have hz:acc.toList.length<=sizeLine:=by rw[hl,lv];exact z
 refine OT (wpAny_newList ?_ hz)
 have hoL:(h'.push (seqObj "list" acc.toList.toArray 0)).get? h'.objs.size=some (seqObj "list" acc.toList.toArray 0):=Pa _ rfl;refine OT (PJ (P7 slot_list_sort ⟨_,hoL,rfl⟩ entry_list_sort (list_sort_treeK (s:={ s with heap:=h'.push (seqObj "list" acc.toList.toArray 0),toks:=tk }) strKind_oneLt hoL hI.keysOf (λv₁ v₂ rest e=>keyKind_strs (by rw[<- e];exact hI)) (by rw[StrsAre.len hI];exact h64) λst' hp hs=>⟨_,rfl,O1 ⟨_,rfl,?_⟩⟩) (args_list_sort _)))
 obtain⟨ns',o1,o2,o3⟩:=sorted_out_str hI hp hs;have I1:Inv X pins σ H { s with heap:=h',toks:=tk }:=I.kept (t':=tk) hk;obtain⟨e,he⟩:=sortedHeap_at (out:=(arrOf st').map (·.2)) hoL;have l2:ns'.length=ns.length:=o2.length_eq;have l3:ns.length=kvs.length:=by have:=congrArg List.length hn;simpa using this.symm
 refine⟨.ref h'.objs.size,_,I1.laid (a:=h'.objs.size) (t':=tk) (o:=.lst (ns'.map V.str)) (λb o hb=>?_) (OV _) ⟨?_,((arrOf st').map (·.2)).toList,e,vj o1,?_⟩,rfl,q _ ns' (I1.hok.fresh (OV _)) o2 o3⟩
 ·have lt:b<h'.objs.size:=O4 hb
  rw[sortedHeap_old (Pq lt) (by rw[size_push'];exact Rl lt)];exact OZ _ hb
 ·rw[O2,l2,l3];exact z
 ·rw[he]
end L2
namespace Sm
open PySem PySem.Spec L2 PyProof.Rows
def lU(a:SE):SE:=λen h=>(a en h).bind λv h1=>lT [v] h1
section
variable{T:Tb}{E:L2.St->XK}{X:Cx}{p pos apos cpos:Pos}{a:Expr}{sa:SE}
def Aa (hc:X.calm=true) (hg:Gl X "sorted") (hm:X.mg "sorted"=none) (hb:bootBuiltins "sorted"=some (.builtin "sorted")) (ha:aD T E X a sa) (hbase:‹attributeBase a "keys" X.env (eval a X.env)=eval a X.env›) (hline:‹(apos.endLine == cpos.line)=true›)
  (he:‹starEach [.Call (.Attribute a "keys" apos) [] [] cpos] X.env=[(false,eval (.Call (.Attribute a "keys" apos) [] [] cpos) X.env)]›):aD T E X (.Call (.Name "sorted" p) [.Call (.Attribute a "keys" apos) [] [] cpos] [] pos) (lU sa):=by
 refine bO (qh (JO hc) hg hm hb (kg (yu QF PySem.F.slot_dict_keys PySem.F.type_dict_keys JN ha hbase hline) nZ he) (he:=he)) λσ H Q=>E6x λι h en S er q=>⟨ι,h,en,S,er,q.bind λx h1 ι1 H1 u g1 S1 r1 q1=>?_⟩
 unfold lT at q1;dsimp only at q1
 cases hn:nk x h1 with
 |none=>rw[hn] at q1;exact q1.elim
 |some ns =>
  rw[hn] at q1;dsimp only at q1
  by_cases hz:ns.length<64/\∀ x∈ns,x.length<=1000/\x.cps.all (· < 0x110000)=true
  ·rw[OX hz] at q1
   unfold nk at hn;split at hn
   ·rename_i n
    split at hn
    ·rename_i kvs hk
     cases r1 with
     |@ref _ ad hr =>
      obtain⟨ob,e1,kus,rfl,pr⟩:=S1.obj n _ ad hk hr;refine⟨.inr (.inr (.inl ⟨rfl,.inl ⟨_,e1⟩⟩)),ad,kus,rfl,rfl,e1,λp hp=>⟨p,ad,kus,ns,rfl,dH,by rw[bg (fN e1 hp)];exact e1,vo pr (vn hn),hz.1,λp2 ns' hp2 pm so=>?_⟩⟩
      have:ns'=dF ns:=oM (pm.trans (gc ns).symm) (zZ _ so) (lR ns)
      subst this;have S2:=S1.new (o:=rf p ad) hp
      exact q1 ι1 _ _ ((S1.growNew hp).trans (S2.growNew hp2)) (S2.new hp2) (.fl (S2.fresh hp2) (.of dH) (vp _ λx hx=>⟨OW (hz.2 x ((gc ns).mem_iff.mp hx)).1 'd',(hz.2 x ((gc ns).mem_iff.mp hx)).2⟩))
    ·cases hn
   ·cases hn
  ·rw[O0 hz] at q1;exact q1.elim
end
end Sm
namespace L2
open PySem PySem.Spec PyProof.Rows
def Ldd(X:Cx)(pins:List (ZE×Obj))(σ:St)(H:Hp)(a:ZE)(cls:ZC)(dx:YC)(s:ZB)(h5:Heap):Prop :=
 Arr X pins σ H a cls dx s/\∃ B a0,gO X pins H s.heap B/\Heap.FlyingW B X.stack a cls a0 h5/\s.heap.UpToSlots h5/\∃ ob,h5.get? a=some ob/\ob.dict=dx
section
variable{X:Cx}{pins:List (ZE×Obj)}{σ:St}{H:Hp}{a:ZE}{cls:ZC}{dx:YC}{s:ZB}{h5 h6:Heap}
def Ldd.keeps(L:Ldd X pins σ H a cls dx s h5)(k:∀ b o,h5.get? b=some o->h6.get? b=some o):Ldd X pins σ H a cls dx s h6:=by
 obtain⟨R,B,a0,fm,fl,sm,ob,e1,e2⟩:=L;exact⟨R,B,a0,fm,PySem.W.flying_keeps fl k,sm.trans (Heap.UpToSlots.of_keeps k),ob,k _ _ e1,e2⟩
def Ldd.inv(L:Ldd X pins σ H a cls dx s h5)(hex:X.ex=[]):Inv X pins σ H { s with heap:=h5 }:=by
 obtain⟨R,B,a0,fm,fl,sm,_⟩:=L;exact R.inv.flown (t':=s.toks) hex fm fl.1 sm
def Ldd.ty{M:Model}(L:Ldd X pins σ H a cls dx s h5):PySem.W.Looks M h5 (typeOf (.ref a)) cls:=by
 obtain⟨R,B,a0,fm,fl,sm,_⟩:=L;obtain⟨oe,vs,hoe,hoec,_⟩:=fl.first;exact hoec▸yS hoe
end
abbrev HG:=cR->St->ZC->YC->Hp->Prop
def rg(X:Cx)(hs:List ExceptHandler)(g:HG):Prop :=
 ∀ (pins:List (ZE×Obj)) (σ:St) (H:Hp) (a:ZE) (cls:ZC) (dx:YC) (s:ZB) (h5:Heap) (D:cR),Ldd X pins σ H a cls dx s h5->g D σ cls dx H ->
  wpAny (model X.prog X.w) X.A (handleBy (.ref a) X.env hs) (SP X pins D) X.xe { s with heap:=h5 }
section
variable{X:Cx}{C C1 C2:ZE}{x1 x2 xc n:Str}{i kk:Nat}{p1 p2 tp hpos np pos:Pos}{b0:Stmt}{suite body:List Stmt}{rest:List ExceptHandler}{th:TS}{g:HG}{outer:List Env}
def JP (hex:X.ex=[]) (hg:Gl X xc) (hm:X.mg xc=some (.ref C)) (hh:∀ a,PSs (cB X a) (b0::suite) th) (hdb:((xc == ("__debug__" : Str))=false)⁻¹) :
  rg X [.ExceptHandler (some (.Name xc np)) none (b0::suite) hpos] (λD σ cls _ H=>PySem.W.exmOne X.K cls (.ref C)=some true/\th { nx:=D.nx,rt:=D.rt,bk:=D.bk,ct:=D.ct } σ H):=by
 intro pins σ H a cls dx s h5 D L ⟨hxm,q⟩;have I5:=L.inv hex;have okX:=I5.ok;have ty:=L.ty (M:=model X.prog X.w);refine TM (Tc (kW (X:=cB X a) (I5.hdl a) hg hm ?_ hdb)) (by intro z;cases z)
 refine(PySem.W.exm_one I5.kIn ty hxm).here ?_
 refine codeAny_handlers_suite ?_
 obtain⟨R,B,a0,fm,fl,sm,_⟩:=L;refine lands_againW fl λh6 fl6 sm6=>?_
 have I6:Inv X pins σ H { s with heap:=h6 }:=R.inv.flown (t':=s.toks) hex fm fl6.1 (sm.trans sm6);refine PC (hh a pins _ _ _ _ (I6.hdl a) q) (λf s9 q9=>?_) λ_ _ z=>z.elim
 cases f with
 |next=>obtain⟨σ2,H2,I2,q2⟩:=q9;exact⟨σ2,H2,I2.unhdl okX,q2⟩
 |brk=>obtain⟨σ2,H2,I2,q2⟩:=q9;exact⟨σ2,H2,I2.unhdl okX,q2⟩
 |cont=>obtain⟨σ2,H2,I2,q2⟩:=q9;exact⟨σ2,H2,I2.unhdl okX,q2⟩
 |ret u=>obtain⟨v2,σ2,H2,I2,r2,q2⟩:=q9;exact⟨v2,σ2,H2,I2.unhdl okX,r2,q2⟩
def Ab (hex:X.ex=[]) (hN:X.N.Nodup) (hi:X.N[i]?=some n) (hl:X.env.scope.names.lookup n=some .local) (hg1:Gl X x1) (hm1:X.mg x1=some (.ref C1)) (hg2:Gl X x2) (hm2:X.mg x2=some (.ref C2)) (hh:∀ a,PSs (cB X a) (b0::suite) th) (hr:rg X rest g)
  (d1:((x1 == ("__debug__" : Str))=false)⁻¹) (d2:((x2 == ("__debug__" : Str))=false)⁻¹) :
  rg X (.ExceptHandler (some (.Tuple [.Name x1 p1,.Name x2 p2] kk tp)) (some n) (b0::suite) hpos::rest) (λD σ cls dx H =>
   (PySem.W.exmAny X.K cls [.ref C1,.ref C2]=some false/\g D σ cls dx H) \/
   (PySem.W.exmAny X.K cls [.ref C1,.ref C2]=some true/\∀ a,H a=none->th { nx:=λσ2 H2=>D.nx (σ2.set i none) H2,rt:=D.rt,bk:=λσ2 H2=>D.bk (σ2.set i none) H2,ct:=λσ2 H2=>D.ct (σ2.set i none) H2 } (σ.set i (some (.ref a))) (upd H a (fV a cls dx)))):=by
 intro pins σ H a cls dx s h5 D L q;have I5:=L.inv hex;have okX:=I5.ok;have kp:∀ q o,h5.get? q=some o->(h5.push { cls:=.type "tuple",data:=.seq [.ref C1,.ref C2].toArray }).get? q=some o:=λ_ _ z=>OZ _ z
 have L6:=L.keeps kp;have I6:=L6.inv hex;have ty:=L6.ty (M:=model X.prog X.w);refine TM (Tc ?_) (by intro z;cases z)
 refine wpAny_Tuple ?_
 refine wpAny_items_cons (kW (X:=cB X a) (I5.hdl a) hg1 hm1 ?_ d1)
 refine wpAny_items_cons (kW (X:=cB X a) (I5.hdl a) hg2 hm2 ?_ d2)
 refine wpAny_items_nil ⟨by size_fits,?_⟩
 rcases q with⟨hx,q⟩|⟨hx,q⟩
 ·exact(PySem.W.exm_tup2 I6.kIn ty (Pa h5 rfl) hx).here (hr pins σ H a cls dx s _ D L6 q)
 ·refine(PySem.W.exm_tup2 I6.kIn ty (Pa h5 rfl) hx).here ?_
  refine codeAny_handlers_suite_as ?_
  obtain⟨R,B,a0,fm,fl,sm,dk⟩:=L6;refine HA fl dk λh7 fl7 sm7 dk7=>?_
  have I7:Inv X pins σ H { s with heap:=h7 }:=R.inv.flown (t':=s.toks) hex fm fl7.1 (sm.trans sm7);obtain⟨oe6,vs6,hoe6,hoec6,hoed6,_⟩:=fl7.first;have I8:Inv X pins σ (upd H a (fV a cls dx)) { s with heap:=h7 }:=I7.adopt0 R.un R.new R.nl R.nc R.np
   ⟨⟨oe6,vs6,hoe6,hoec6,hoed6,by obtain⟨ob,e1,e2⟩:=dk7;rw[show h7.get? a=some oe6 from hoe6] at e1;cases e1;exact e2⟩,⟨oe6,hoe6⟩,λg1 g2 ⟨ob,ws,z1,z2,z3⟩ k=>⟨ob,ws,k ob z1,z2,z3⟩⟩
  refine mK (X:=cB X a) (I8.hdl a) hN hi (.inl hl) (v:=.ref a) rfl (λs8 I8=>?_) (.inr hl)
  refine PC (hh a pins s8 _ _ _ I8 (q a R.un)) (λf s9 q9=>?_) λ_ _ z=>z.elim
  cases f with
  |next=>obtain⟨σ2,H2,I2,q2⟩:=q9;exact qx (I2.unhdl okX) hN hi hl λs' I'=>⟨_,H2,I',q2⟩
  |brk=>obtain⟨σ2,H2,I2,q2⟩:=q9;exact qx (I2.unhdl okX) hN hi hl λs' I'=>⟨_,H2,I',q2⟩
  |cont=>obtain⟨σ2,H2,I2,q2⟩:=q9;exact qx (I2.unhdl okX) hN hi hl λs' I'=>⟨_,H2,I',q2⟩
  |ret u=>obtain⟨v2,σ2,H2,I2,r2,q2⟩:=q9;exact qx (I2.unhdl okX) hN hi hl λs' I'=>⟨v2,_,H2,I',r2,q2⟩
def JQ(g:HG)(tb:(St->XK)->TS):TS:=λD σ H=>tb (λσ' cls dx H'=>g D σ' cls dx H') D σ H
def JR{h0:ExceptHandler}{hs:List ExceptHandler}{tb:(St->XK)->TS}(hex:X.ex=[])(hst:X.stack=X.env::outer)(hf:X.env.frame=some X.env.locals)(hh:rg X (h0::hs) g)
  (hb:∀ pins xe Ex,lA (cO X.prog X.w) (tryC X pins xe) Ex->mQ (tryC X pins xe) Ex->PSs (tryC X pins xe) body (tb Ex)):PS X (.Try body (h0::hs) [] [] pos) (JQ g tb):=by
 intro pins s σ H D I h;have okX:=I.ok;let Ex:St->XK:=λσ' cls dx H'=>g D σ' cls dx H'
 let xe:ZC->ZB->Prop:=λe s'=>∃ σ' H' a cls dx,e=.ref a/\Arr X pins σ' H' a cls dx s'/\Ex σ' cls dx H'
 have hR:mQ (tryC X pins xe) Ex:=λpins' σ' H' s' a cls dx R q=>⟨σ',H',a,cls,dx,rfl,R.untry,q⟩
 have hP:lA (cO X.prog X.w) (tryC X pins xe) Ex:=λpins' σ' H' s1 e s2 I' hq=>by
  obtain⟨a,cls,dx,H2,rfl,R,q⟩:=yP (X:=tryC X pins xe) I' hex hq;exact⟨σ',H2,a,cls,dx,rfl,R.untry,q⟩
 have hbody:=hb pins xe Ex hP hR [] s σ H D (I.toTry (xe:=xe)) h;refine wpAny_Try_except (PC hbody (λf s1 q=>?_) λe s1 q=>?_)
 ·cases f with
  |next=>obtain⟨σ1,H1,I1,q1⟩:=q;exact RE ⟨σ1,H1,I1.untry,q1⟩
  |brk=>obtain⟨σ1,H1,I1,q1⟩:=q;exact⟨σ1,H1,I1.untry,q1⟩
  |cont=>obtain⟨σ1,H1,I1,q1⟩:=q;exact⟨σ1,H1,I1.untry,q1⟩
  |ret u=>obtain⟨v1,σ1,H1,I1,r1,q1⟩:=q;exact⟨v1,σ1,H1,I1.untry,r1,q1⟩
 ·obtain⟨σ1,H1,a,cls,dx,rfl,R,q1⟩:=q
  refine R.land hex okX.frames hst hf λh5 B a0 fm fl sm I5 dk=>?_
  exact hh pins σ1 H1 a cls dx s1 h5 D ⟨R,B,a0,fm,fl,sm,dk⟩ q1
end
end L2
namespace Sm
open PySem PySem.Spec L2 PyProof.Rows
def jK(i:Nat)(o:OutS):OutS:=match o with
 |.nx e2 h2=>.nx (e2.set i none) h2
 |.bk e2 h2=>.bk (e2.set i none) h2
 |.ct e2 h2=>.ct (e2.set i none) h2
 |.rt v h2=>.rt v h2
 |_=>.bad
def vt(o:OutS):OutS:=match o with
 |.ex _ _ _=>.bad
 |o=>o
def jL(i:Nat)(c1 c2 c3:Nat->Bool)(b d1 d2 d3:SS):SS:=λen h=>match b en h with
 |.ex c e h'=>if c1 c=true then jK i (d1 (e.set i (some (.exc c))) h') else if c2 c=true then jK i (d2 (e.set i (some (.exc c))) h') else if c3 c=true then vt (d3 e h') else .bad
 |o=>o
def CU(T:Tb)(mg:YA)(x:Str)(f:Nat->Bool):Prop:=∃ C,mg x=some (.ref C)/\∀ c C',T.exc c=some C'->PySem.W.exmOne T.K (.ref C') (.ref C)=some (f c)
def XF(K:ZA)(a b:ZE):Prop:=PySem.W.exmOne K (.ref a) (.ref b)=some false
def xf{K:ZA}{a b:ZE}(h:PySem.W.exmOne K (.ref a) (.ref b)=some false):XF K a b:=(h)
section
variable{T:Tb}{E:L2.St->XK}{X:Cx}{pos p1 p2 p3 p4 tp tp2 np hp1 hp2 hp3:Pos}{k1 k2:Nat}
def Ac{mg:YA}{x1 x2:Str}{f1 f2:Nat->Bool}(u1:CU T mg x1 f1)(u2:CU T mg x2 f2):∃ C1 C2,mg x1=some (.ref C1)/\mg x2=some (.ref C2)/\∀ c C',T.exc c=some C'->PySem.W.exmAny T.K (.ref C') [.ref C1,.ref C2]=some (f1 c || f2 c):=by
 obtain⟨C1,m1,e1⟩:=u1;obtain⟨C2,m2,e2⟩:=u2;refine⟨C1,C2,m1,m2,λc C' h=>?_⟩
 simp only[PySem.W.exmAny,e1 c C' h,e2 c C' h,Bool.or_false]
def JS {x1 x2 x3 x4 x5 n:Str} {i:Nat} {body s1 s2 s3:List Stmt} {b1 b2 b3:Stmt} {sb d1 d2 d3:SS} {outer:List Env} {f1 f2 f3 f4 f5:Nat->Bool} (hK:X.K=T.K) (hN:X.N.Nodup)
  (hg1:Gl X x1) (hg2:Gl X x2) (hg3:Gl X x3) (hg4:Gl X x4) (hg5:Gl X x5) (u1:CU T X.mg x1 f1) (u2:CU T X.mg x2 f2) (u3:CU T X.mg x3 f3) (u4:CU T X.mg x4 f4) (u5:CU T X.mg x5 f5)
  (hb:∀ pins xe Ex,CA T Ex (tryC X pins xe)->mQ (tryC X pins xe) Ex->cI T Ex (tryC X pins xe) body sb)
  (h1:∀ a,CA T EN (cB X a)->cI T EN (cB X a) (b1::s1) d1) (h2:∀ a,CA T EN (cB X a)->cI T EN (cB X a) (b2::s2) d2) (h3:∀ a,CA T EN (cB X a)->cI T EN (cB X a) (b3::s3) d3)
  (hex:‹X.ex=[]›) (hst:‹X.stack=X.env::outer›) (hf:‹X.env.frame=some X.env.locals›) (hi:‹X.N[i]?=some n›) (hl:‹X.env.scope.names.lookup n=some .local›)
  (q1:((x1 == ("__debug__" : Str))=false)⁻¹) (q2:((x2 == ("__debug__" : Str))=false)⁻¹) (q3:((x3 == ("__debug__" : Str))=false)⁻¹) (q4:((x4 == ("__debug__" : Str))=false)⁻¹) (q5:((x5 == ("__debug__" : Str))=false)⁻¹) :
  gz T E X (.Try body [.ExceptHandler (some (.Tuple [.Name x1 p1,.Name x2 p2] k1 tp)) (some n) (b1::s1) hp1,.ExceptHandler (some (.Tuple [.Name x3 p3,.Name x4 p4] k2 tp2)) (some n) (b2::s2) hp2,.ExceptHandler (some (.Name x5 np)) none (b3::s3) hp3] [] [] pos)
   (jL i (λc=>f1 c || f2 c) (λc=>f3 c || f4 c) f5 sb d1 d2 d3):=by
 obtain⟨C1,C2,m1,m2,e12⟩:=Ac u1 u2;obtain⟨C3,C4,m3,m4,e34⟩:=Ac u3 u4;obtain⟨C5,m5,e5⟩:=u5;refine hZ (JR hex hst hf (Ab hex hN hi hl hg1 m1 hg2 m2 (λa=>h1 a (CA.never hK)) (Ab hex hN hi hl hg3 m3 hg4 m4 (λa=>h2 a (CA.never hK)) (JP hex hg5 m5 (λa=>h3 a (CA.never hK)) q5) q3 q4) q1 q2) (λpins xe Ex h1 h2=>hb pins xe Ex ⟨hK,h1⟩ h2)) λD σ H=>E6x λι h en S er q=>⟨ι,h,en,S,er,?_⟩
 unfold jL at q
 cases z1:sb en h with
 |nx e2 h2=>rw[z1] at q;exact q
 |rt v h2=>rw[z1] at q;exact q
 |bk e2 h2=>rw[z1] at q;exact q
 |ct e2 h2=>rw[z1] at q;exact q
 |bad=>rw[z1] at q;exact q
 |ex c e2 h2 =>
  rw[z1] at q;dsimp only at q
  intro ι' H' σ' C' g S' er' ec;have w12:=e12 c C'.1 ec.1;have w34:=e34 c C'.1 ec.1;have w5:=e5 c C'.1 ec.1;rw[<- hK] at w12 w34 w5;by_cases hc1:(f1 c || f2 c)=true
  ·rw[OX hc1] at q
   rw[hc1] at w12;refine .inr ⟨w12,λa hn=>⟨ι',h2,e2.set i (some (.exc c)),S'.new hn,(er'.mono (S'.growNew hn)).set (.exc (S'.fresh hn) ⟨ec.1,ec.2.ext (S'.growNew hn).ext⟩ dH) i,?_⟩⟩
   have q2:=PostS.shift q (g.trans (S'.growNew (o:=fV a (.ref C'.1) C'.2) hn));unfold jK at q2
   cases z3:d1 (e2.set i (some (.exc c))) h2 with
   |nx e4 h4=>rw[z3] at q2;exactλι5 H5 σ5 g5 S5 er5=>q2 ι5 H5 _ g5 S5 (er5.unset i)
   |bk e4 h4=>rw[z3] at q2;exactλι5 H5 σ5 g5 S5 er5=>q2 ι5 H5 _ g5 S5 (er5.unset i)
   |ct e4 h4=>rw[z3] at q2;exactλι5 H5 σ5 g5 S5 er5=>q2 ι5 H5 _ g5 S5 (er5.unset i)
   |rt v h4=>rw[z3] at q2;exact q2
   |ex c' e4 h4=>rw[z3] at q2;exact(show False from q2).elim
   |bad=>rw[z3] at q2;exact q2
  ·rw[O0 hc1] at q
   rw[RZ.mpr hc1] at w12;refine .inl ⟨w12,?_⟩
   by_cases hc2:(f3 c || f4 c)=true
   ·rw[OX hc2] at q
    rw[hc2] at w34;refine .inr ⟨w34,λa hn=>⟨ι',h2,e2.set i (some (.exc c)),S'.new hn,(er'.mono (S'.growNew hn)).set (.exc (S'.fresh hn) ⟨ec.1,ec.2.ext (S'.growNew hn).ext⟩ dH) i,?_⟩⟩
    have q2:=PostS.shift q (g.trans (S'.growNew (o:=fV a (.ref C'.1) C'.2) hn));unfold jK at q2
    cases z3:d2 (e2.set i (some (.exc c))) h2 with
    |nx e4 h4=>rw[z3] at q2;exactλι5 H5 σ5 g5 S5 er5=>q2 ι5 H5 _ g5 S5 (er5.unset i)
    |bk e4 h4=>rw[z3] at q2;exactλι5 H5 σ5 g5 S5 er5=>q2 ι5 H5 _ g5 S5 (er5.unset i)
    |ct e4 h4=>rw[z3] at q2;exactλι5 H5 σ5 g5 S5 er5=>q2 ι5 H5 _ g5 S5 (er5.unset i)
    |rt v h4=>rw[z3] at q2;exact q2
    |ex c' e4 h4=>rw[z3] at q2;exact(show False from q2).elim
    |bad=>rw[z3] at q2;exact q2
   ·rw[O0 hc2] at q
    rw[RZ.mpr hc2] at w34;refine .inl ⟨w34,?_⟩
    by_cases hc3:f5 c=true
    ·rw[OX hc3] at q
     rw[hc3] at w5;refine⟨w5,ι',h2,e2,S',er',?_⟩
     have q2:=PostS.shift q g;unfold vt at q2
     cases z3:d3 e2 h2 with
     |nx e4 h4=>rw[z3] at q2;exact q2
     |bk e4 h4=>rw[z3] at q2;exact q2
     |ct e4 h4=>rw[z3] at q2;exact q2
     |rt v h4=>rw[z3] at q2;exact q2
     |ex c' e4 h4=>rw[z3] at q2;exact(show False from q2).elim
     |bad=>rw[z3] at q2;exact q2
    ·rw[O0 hc3] at q;exact(show False from q).elim
end
end Sm
namespace L2
open PySem PySem.Spec PyProof.Rows
def JT(a b:Expr)(sp:Pos)(args:YD)(keywords:List Keyword)(pos:Pos)(env:Env):eval (.Call (.Subscript a b sp) args keywords pos) env=(do
  callWith pos (<- eval (.Subscript a b sp) env) [] (backTo pos (starEach args env)) (backToKw pos (keywordEach keywords env))):=(rfl)
end L2
namespace Sm
open PySem PySem.Spec L2 PyProof.Rows
def gZ(F1 F2:Fn)(i:SE)(as:SL):SE:=λen h=>(i en h).bind λv h1=>match v with
 |.int 0=>au F1 as en h1
 |.int 1=>au F2 as en h1
 |_=>.bad
section
variable{T:Tb}{E:L2.St->XK}{X:Cx}{pos p1 p2 lp sp:Pos}{e b:Expr}{es:YD}{x1 x2:Str}{F1 F2:Fn}{k1 k2:Nat}{as:SL}{sb:SE}
def JU (hK:X.K=T.K) (C:CA T E X) (G1:GF X.prog X.w T X.mg X.base k1 x1 F1) (G2:GF X.prog X.w T X.mg X.base k2 x2 F2) (hr1:Room k1 X.A) (hr2:Room k2 X.A) (hg1:Gl X x1) (hg2:Gl X x2) (hb:aD T E X b sb) (ha:fQ T E X (e::es) as)
  (d1:((x1 == ("__debug__" : Str))=false)⁻¹) (d2:((x2 == ("__debug__" : Str))=false)⁻¹) (hs:autoParam (qj b) aZ._auto_1)
  (he:‹qE1 e es X.env›) (hpl:‹qF1 pos es X.env›)
  (s1:‹starEach [.Name x1 p1,.Name x2 p2] X.env=(false,eval (.Name x1 p1) X.env)::starEach [.Name x2 p2] X.env›) (s2:‹starEach [.Name x2 p2] X.env=(false,eval (.Name x2 p2) X.env)::starEach [] X.env›) :
  aD T E X (.Call (.Subscript (.List [.Name x1 p1,.Name x2 p2] lp) b sp) (e::es) [] pos) (gZ F1 F2 sb as):=by
 obtain⟨f1,fd1,ps1,a1,a2,a3,a4⟩:=G1.ex;obtain⟨f2,fd2,ps2,b1,b2,b3,b4⟩:=G2.ex;intro pins s σ H Q I ⟨ι,h,en,S,er,q⟩;rw[JT];have one:∀ {F:Fn} {f:ZE} {fd:FuncData} {ps:List Str} {k:Nat},PySem.W.keepIn T.K (.ref f)=true->Binds T.K fd ps []->FnOk X.prog X.w T.K X.mg X.base (cO X.prog X.w) k f fd ps (iC T F)->Room k X.A ->
   ∀ (s1:ZB) (H1:Hp),Inv X pins σ H1 s1->tE T E (au F as) σ H1 Q->wpAny (model X.prog X.w) X.A (callWith pos (.ref f) [] (backTo pos (starEach (e::es) X.env)) (backToKw pos (keywordEach [] X.env))) (EP X pins σ Q) X.xe s1:=by
  intro F f fd ps k c2 c3 c4 hr s1 H1 I1 q1;obtain⟨ι,h,en,S,er,q1⟩:=q1;refine RO (h₀:=X.base) I1.ok.mod.kin (hK▸c2) (thn (ha pos pins s1 σ H1 (λvs H2=>iC T F (vs++[]) H2 Q (E σ)) I1 ⟨ι,h,en,S,er,q1.bind λxs h1 ι1 H1 us g1 S1 r1 q1=>?_⟩) λus s2 ⟨vs,H2,I2,r,q⟩=>⟨I2.kIn,?_⟩) he hpl
  ·rw[Q3]
   exact⟨ι1,h1,xs,S1,r1,q1⟩
  ·exact qw (hK▸c4) hr (hK▸c3) .nil C.pass I2 r q
 refine OT (thn (yq (X:=X) zfR (t7 (kg (p9 (v:=.ref f1) hg1 a1 rfl d1) (kg (p9 (v:=.ref f2) hg2 b1 rfl d2) nZ s2) s1)) hb hs pins s σ H (λv H1=>(v=.ref f1/\tE T E (au F1 as) σ H1 Q)\/(v=.ref f2/\tE T E (au F2 as) σ H1 Q)) I ?_) λu s1 ⟨v,H1,I1,rv,q1⟩=>?_)
 ·refine⟨by show 2<=sizeLine;decide,λp hp=>⟨ι,h,en,S.new hp,er.mono (S.growNew hp),(q.shift (S.growNew hp)).bind λy h1 ι1 H1 u g1 S1 r1 q1=>?_⟩⟩
  have lp1:H1 p=some (.lst [.ref f1,.ref f2]):=g1.keep p _ (λz=>S.fresh hp (Pk _ z)) dH;split at q1
  ·cases r1
   exact⟨p,_,0,.ref f1,rfl,rfl,.inl (.inl lp1),rfl,.inl ⟨rfl,ι1,h1,en,S1,(er.mono (S.growNew hp)).mono g1,q1⟩⟩
  ·cases r1
   exact⟨p,_,1,.ref f2,rfl,rfl,.inl (.inl lp1),rfl,.inr ⟨rfl,ι1,h1,en,S1,(er.mono (S.growNew hp)).mono g1,q1⟩⟩
  ·exact q1.elim
 ·rcases q1 with⟨rfl,q1⟩|⟨rfl,q1⟩
  ·obtain rfl:u=Value.ref f1:=rv
   exact one a2 a3 a4 hr1 s1 H1 I1 q1
  ·obtain rfl:u=Value.ref f2:=rv
   exact one b2 b3 b4 hr2 s1 H1 I1 q1
end
def oQ(kvs:List (AV×AV))(k:AV):List (AV×AV):=kvs.filter λp=>decide (¬ p.1=k)
def ja(a b:SE):SE:=λen h=>(a en h).bind λx h1=>match x with
 |.ref n=>(match h1[n]? with
  |some (.dct false _)=>(b en h1).bind λy h2=>(match h2[n]? with
   |some (.dct false kvs)=>if dX false y=true then(match aT kvs y with
    |some v=>.ok v (h2.set n (.dct false (oQ kvs y)))
    |none=>.bad) else .bad
   |_=>.bad)
  |_=>.bad)
 |_=>.bad
section
variable{T:Tb}{E:L2.St->XK}{X:Cx}{pos apos:Pos}{a b:Expr}{sa sb:SE}
theorem Ad{κ:Type}[DecidableEq κ]{ι:Ix}{H:Hp}{f:κ->AV}(hf:∀ {a b},f a=f b->a=b){k:κ}:∀ {kvs:List (AV×AV)} {kus:List (κ×V)},Paired (λ(p:AV×AV) (q:κ×V)=>p.1=f q.1/\RV T ι H p.2 q.2) kvs kus ->
  Paired (λ(p:AV×AV) (q:κ×V)=>p.1=f q.1/\RV T ι H p.2 q.2) (oQ kvs (f k)) (jq kus k)
 |_,_,.nil=>.nil
 |(a,v)::kvs,(j,u)::kus,.cons ⟨e,r⟩ rs=>by
  have ih:=Ad hf (k:=k) rs;unfold oQ jq at ih ⊢
  rw[Qy,Qy];by_cases h:j=k
  ·have h':a=f k:=by rw[<- h];exact e
   rw[O0 (by simp[h']),O0 (by simp[h])];exact ih
  ·have h':¬ a=f k:=λz=>h (hf (e.symm.trans z))
   rw[OX (by simp[h']),OX (by simp[h])];exact .cons ⟨e,r⟩ ih
def Ae (ha:aD T E X a sa) (hb:aD T E X b sb) (hbase:‹attributeBase a "pop" X.env (eval a X.env)=eval a X.env›)
  (hfew:‹((backTo pos (starEach [b] X.env)).all (λx=>!x.1) && (backToKw pos (keywordEach [] X.env)).all (λx=>x.1.isSome) && decide (([b]:YD).length+([]:List Keyword).length+(if ([]:List Keyword).isEmpty then 0 else 1)<30))=true›)
  (hline:‹(apos.endLine == pos.line)=true›) (htrees:‹backTo pos (starEach [b] X.env)=[(false,eval b X.env)]›):aD T E X (.Call (.Attribute a "pop" apos) [b] [] pos) (ja sa sb):=by
 refine bO (GN ha hb ⟨hbase,hfew,hline,htrees⟩) λσ H Q q=>?_
 obtain⟨ι,h,en,S,er,q⟩:=q;refine⟨ι,h,en,S,er,q.bind λx h1 ι1 H1 u g1 S1 r1 q1=>?_⟩
 split at q1
 ·rename_i n
  split at q1
  ·rename_i kvs0 hn0
   cases r1 with
   |@ref _ ad hr =>
    refine⟨ad,rfl,isD_of S1 hn0 hr,ι1,h1,en,S1,er.mono g1,q1.bind λy h2 ι2 H2 v g2 S2 r2 q2=>?_⟩
    split at q2
    ·rename_i kvs hn
     by_cases hk:dX false y=true
     ·rw[OX hk] at q2
      have hr2:=g2.at hr;obtain⟨ob,e1,kus,rfl,r⟩:=S2.obj n _ ad hn hr2;have hk':(keyOf? y).isSome=true:=hk;obtain⟨k,ek⟩:=Pi.mp hk';have:=oE ek;subst this;rcases mY lM r (k:=k) with⟨w1,w2⟩|⟨v',u',w1,w2,w3⟩
      ·rw[w1] at q2;exact q2.elim
      ·rw[w1] at q2
       have g3:=S2.growSet (u:=.dK (jq kus k)) hr2;exact⟨kus,k,u',e1,oC r2,w2,q2 ι2 _ _ g3 (S2.set hr2 ⟨_,rfl,Paired.mapP (Ad lM r) λ_ _ ⟨p,q⟩=>⟨p,q.mono g3⟩⟩) (w3.mono g3)⟩
     ·rw[O0 hk] at q2;exact q2.elim
    ·exact q2.elim
  ·exact q1.elim
 ·exact q1.elim
end
end Sm
namespace L2
open PySem PySem.Spec PyProof.Rows PySem.SeqAt PySem.AutoSeq1 PySem.MeetsSeq PySem.MeetsSeq2 PySem.MeetsSeq3 PySem.SeqRoads2
section
variable{A:ZG}{s:ZB}{d l:ZE}{es:Array DictEntry}{n:Nat}{dd:YC}{sl:Array (Option ZC)}
def Af {prog:ZD} {w:ZF} {E Q:ZC->ZB->Prop} {b:ZC} {T:String} (ty:s.TypeIs (.ref d) "dict") (tb:s.TypeIs b T) (sub:isSubtype (.type T) (.type "dict")=pure false) (h:Q .notImplemented s):wpAny (model prog w) A (call (.builtin "dict.__eq__") [.ref d,b]) Q E s:=by
 refine P7 Th ty PySem.F.entry_dict_eq ?_ (PySem.F.args_dict_eq_2 _ _)
 show wpAny _ _ (Builtin.Dict.dictSlotArgs "__eq__" ⟨[.ref d,b],[]⟩ >>= _) _ _ s
 refine OT ?_
 unfold Builtin.Dict.dictSlotArgs;refine OT (Rv ty ?_)
 show wpAny _ _ (pure (Value.ref d,b)) _ _ s
 refine O1 ?_
 refine OT (wpAny_isInstance (T:=T) tb sub ?_)
 simp only[Bool.not_false,Qd]
 refine OT (T5 (OT (O1 (O1 ?_))))
 exact⟨_,rfl,h⟩
def JV(b:Str)(u:Tok):Meets (Builtin.«str.__eq__» ⟨[.str b u,.ref d],[]⟩) (λ_ R s=>s.heap.get? d=some { cls:=.type "dict",dict:=dd,data:=.dict es n,slots:=sl }/\R (.ok (.ret .notImplemented)) s) :=(
 .of_wp λprog w A R s h=>by obtain⟨hp,g,dr,tk,os⟩:=s;obtain⟨hl,h⟩:=h;wp_walk using Qs hl,Ra hl;exact⟨_,rfl,h⟩)
def JW(b:Int)(u:Tok):Meets (Builtin.«int.__eq__» ⟨[.int b u,.ref d],[]⟩) (λ_ R s=>s.heap.get? d=some { cls:=.type "dict",dict:=dd,data:=.dict es n,slots:=sl }/\R (.ok (.ret .notImplemented)) s) :=(
 .of_wp λprog w A R s h=>by obtain⟨hp,g,dr,tk,os⟩:=s;obtain⟨hl,h⟩:=h;wp_walk using Qs hl,Ra hl;exact⟨_,rfl,h⟩)
def JX(b:Bool):Meets (Builtin.«int.__eq__» ⟨[.bool b,.ref d],[]⟩) (λ_ R s=>s.heap.get? d=some { cls:=.type "dict",dict:=dd,data:=.dict es n,slots:=sl }/\R (.ok (.ret .notImplemented)) s) :=(
 .of_wp λprog w A R s h=>by obtain⟨hp,g,dr,tk,os⟩:=s;obtain⟨hl,h⟩:=h;wp_walk using Qs hl,Ra hl;exact⟨_,rfl,h⟩)
def JY(items:Array ZC)(n2:Nat)(dd2:YC)(sl2:Array (Option ZC)):Meets (Builtin.«list.__eq__» ⟨[.ref l,.ref d],[]⟩) (λ_ R s=>s.heap.get? l=some { cls:=.type "list",dict:=dd2,data:=.seq items n2,slots:=sl2 }/\s.heap.get? d=some { cls:=.type "dict",dict:=dd,data:=.dict es n,slots:=sl }/\R (.ok (.ret .notImplemented)) s) :=(
 .of_wp λprog w A R s h=>by obtain⟨hp,g,dr,tk,os⟩:=s;obtain⟨hl,hd,h⟩:=h;have f1:=PySem.F.sub_dict_list;wp_walk using Qs hl,Qs hd;exact⟨_,rfl,h⟩)
def JZ(items:Array ZC)(n2:Nat)(dd2:YC)(sl2:Array (Option ZC)):Meets (Builtin.«tuple.__eq__» ⟨[.ref l,.ref d],[]⟩) (λ_ R s=>s.heap.get? l=some { cls:=.type "tuple",dict:=dd2,data:=.seq items n2,slots:=sl2 }/\s.heap.get? d=some { cls:=.type "dict",dict:=dd,data:=.dict es n,slots:=sl }/\R (.ok (.ret .notImplemented)) s) :=(
 .of_wp λprog w A R s h=>by obtain⟨hp,g,dr,tk,os⟩:=s;obtain⟨hl,hd,h⟩:=h;have f1:isSubtype (.type "dict") (.type "tuple")=pure false:=(by rw[Tu];kernel_rfl);wp_walk using Qs hl,Qs hd;exact⟨_,rfl,h⟩)
end
section
variable{A:ZG}{s:ZB}{d l:ZE}{es:Array DictEntry}{n:Nat}{dd:YC}{sl:Array (Option ZC)}{b:ZC}{T idT:String}
def nq (hd:s.heap.get? d=some { cls:=.type "dict",dict:=dd,data:=.dict es n,slots:=sl }) (tb:s.TypeIs b T) (ne1:(Value.type T != Value.type "dict")=true) (ne2:(Value.type "dict" != Value.type T)=true)
  (sub1:isSubtype (.type T) (.type "dict")=pure false) (sub2:isSubtype (.type "dict") (.type T)=pure false) (h1:Slot T (cmpInfo .Eq).2.1 idT) (h2:Slot T (cmpInfo .Eq).2.2 idT)
  (hc:∀ (prog:ZD) (w:ZF) (E:ZC->ZB->Prop) (Q':ZC->ZB->Prop),Q' .notImplemented s->wpAny (model prog w) A (call (.builtin idT) [b,.ref d]) Q' E s)
  (AS:∀ (prog:ZD) (w:ZF) (E:ZC->ZB->Prop) (Q':Bool->ZB->Prop),Q' false s->wpAny (model prog w) A (isSame b (.ref d)) Q' E s) (hs2:∀ (prog:ZD) (w:ZF) (E:ZC->ZB->Prop) (Q':Bool->ZB->Prop),Q' false s->wpAny (model prog w) A (isSame (.ref d) b) Q' E s)
  (hu:A.units<cLine):RcAt A s b (.ref d) false/\RcAt A s (.ref d) b false:=by
 have ty:s.TypeIs (.ref d) "dict" := ⟨_,hd,rfl⟩;exact⟨λprog w E Q h=>rc_eq_decline_or (k:=false) tb ty ne1 sub2 h1 PySem.F.slot_dict_eq_refl (hc prog w E) (λ_ hq=>Af ty tb sub1 hq) (AS prog w E) (.inr hu) h,
  λprog w E Q h=>rc_eq_decline_or (k:=false) ty tb ne2 sub1 Th h2 (λ_ hq=>Af ty tb sub1 hq) (hc prog w E) (hs2 prog w E) (.inr hu) h⟩
def nt (T:String) (h:isSubtype (.type T) (.type "dict")=pure false:=by rw[Tu];kernel_rfl):isSubtype (.type T) (.type "dict")=pure false:=(h)
def nv (T:String) (h:autoParam (isSubtype (.type "dict") (.type T)=pure false) nt._auto_1):isSubtype (.type "dict") (.type T)=pure false:=(h)
def rh {prog:ZD} {w:ZF} {E:ZC->ZB->Prop} {a c:ZE} {c2:YC} {vs:Array ZC} {k:Nat} {c4:Array (Option ZC)} (h1:s.heap.get? a=some { cls:=.type T,dict:=c2,data:=.seq vs k,slots:=c4 }) (hd:s.heap.get? c=some { cls:=.type "dict",dict:=dd,data:=.dict es n,slots:=sl }) (h:a≠c) {Q':Bool->ZB->Prop} (q:Q' false s) :
  wpAny (model prog w) A (isSame (.ref a) (.ref c)) Q' E s/\wpAny (model prog w) A (isSame (.ref c) (.ref a)) Q' E s:=by
 have b1:(a == c)=false:=beq_eq_false_iff_ne.mpr h;have b2:(c == a)=false:=beq_eq_false_iff_ne.mpr (Ne.symm h);constructor
 ·unfold isSame
  dsimp only;rw[O0 (by rw[b1];exact Pe)]
  refine OT (Ra h1 (OT (Ra hd ?_)))
  dsimp only;split<;>first|exact O1 q|exact absurd (by assumption:Value.type "dict"=Value.type "tuple") 's'
 ·unfold isSame
  dsimp only;rw[O0 (by rw[b2];exact Pe)]
  refine OT (Ra hd (OT (Ra h1 ?_)))
  dsimp only;exact O1 q
theorem Ag (hd:s.heap.get? d=some { cls:=.type "dict",dict:=dd,data:=.dict es n,slots:=sl }) (hu:A.units<cLine):∀ {v:ZC} {e:PyData} {as:List ZE},Reads s.heap v e as->e.canLay0=true->EqAt A s v (.ref d) false/\EqAt A s (.ref d) v false
 |_,_,_,.none,_=>by
  obtain⟨r1,r2⟩:=nq hd (T := "NoneType") (b:=.none) rfl 'd' 'd' (nt _) (nv _) Sa PySem.F.slot_NoneType_eq_refl (λprog w E Q' hq=>Ur Sa rfl PySem.F.entry_NoneType_eq (PySem.F.args_NoneType_eq_2 _ _) (NoneType___eq___none_ref_0 d) hq)
   (λprog w E Q' hq=>QU (rfl:isSame .none (.ref d)=pure false) hq) (λprog w E Q' hq=>QU (rfl:isSame (.ref d) .none=pure false) hq) hu
  constructor
  all_goals
   intro prog w E Q h;unfold eqBool;refine PJ ?_
   refine RF (λhab=>absurd (Ss hab) nofun) (λ_=>?_)
   first|exact OT (r1 prog w E _ (Pj h))|exact OT (r2 prog w E _ (Pj h))
 |_,_,_,.bool k,_=>by
  obtain⟨r1,r2⟩:=nq hd (T := "bool") (b:=.bool k) rfl 'd' 'd' (nt _) (nv _) Ti PySem.F.slot_bool_eq_refl (λprog w E Q' hq=>Rc Ti rfl Tj (SY _ _) (JX k) ⟨hd,hq⟩)
   (λprog w E Q' hq=>QU (rfl:isSame (.bool k) (.ref d)=pure false) hq) (λprog w E Q' hq=>QU (rfl:isSame (.ref d) (.bool k)=pure false) hq) hu
  constructor
  all_goals
   intro prog w E Q h;unfold eqBool;refine PJ ?_
   refine RF (λhab=>absurd (Ss hab) nofun) (λ_=>?_)
   first|exact OT (r1 prog w E _ (Pj h))|exact OT (r2 prog w E _ (Pj h))
 |_,_,_,.int i t,_=>by
  obtain⟨r1,r2⟩:=nq hd (T := "int") (b:=.int i t) (Uq s i t) 'd' 'd' (nt _) (nv _) TF PySem.F.slot_int_eq_refl (λprog w E Q' hq=>Rc TF (Uq s i t) Tj (SY _ _) (JW i t) ⟨hd,hq⟩)
   (λprog w E Q' hq=>QU (rfl:isSame (.int i t) (.ref d)=pure false) hq) (λprog w E Q' hq=>QU (rfl:isSame (.ref d) (.int i t)=pure false) hq) hu
  constructor
  all_goals
   intro prog w E Q h;unfold eqBool;refine PJ ?_
   refine RF (λhab=>absurd (Ss hab) nofun) (λ_=>?_)
   first|exact OT (r1 prog w E _ (Pj h))|exact OT (r2 prog w E _ (Pj h))
 |_,_,_,.str x t,_=>by
  obtain⟨r1,r2⟩:=nq hd (T := "str") (b:=.str x t) (Ry s x t) 'd' 'd' (nt _) (nv _) TH PySem.F.slot_str_eq_refl (λprog w E Q' hq=>Rc TH (Ry s x t) PySem.F.entry_str_eq (PySem.F.args_str_eq_2 _ _) (JV x t) ⟨hd,hq⟩)
   (λprog w E Q' hq=>QU (rfl:isSame (.str x t) (.ref d)=pure false) hq) (λprog w E Q' hq=>QU (rfl:isSame (.ref d) (.str x t)=pure false) hq) hu
  constructor
  all_goals
   intro prog w E Q h;unfold eqBool;refine PJ ?_
   refine RF (λhab=>absurd (Ss hab) nofun) (λ_=>?_)
   first|exact OT (r1 prog w E _ (Pj h))|exact OT (r2 prog w E _ (Pj h))
 |_,_,_,.list (a:=a) (o:=o) h1 h2 h3 h4,_=>by
  obtain⟨c1,c2,c3,c4⟩:=o;simp only at h2 h3
  subst h2 h3
  have ne:a≠d:=λz=>by rw[z,hd] at h1;exact absurd (congrArg Obj.cls (Pp h1)) 's'
  obtain⟨r1,r2⟩:=nq hd (T := "list") (b:=.ref a) ⟨_,h1,rfl⟩ 'd' 'd' (nt _) (nv _) Tn PySem.F.slot_list_eq_refl (λprog w E Q' hq=>Rc Tn ⟨_,h1,rfl⟩ PySem.F.entry_list_eq (PySem.F.args_list_eq_2 _ _) (JY _ _ _ _) ⟨h1,hd,hq⟩)
   (λprog w E Q' hq=>(rh h1 hd ne hq).1) (λprog w E Q' hq=>(rh h1 hd ne hq).2) hu
  exact⟨.of_refs ne r1,.of_refs (Ne.symm ne) r2⟩
 |_,_,_,.tuple (a:=a) (o:=o) h1 h2 h3 h4,_=>by
  obtain⟨c1,c2,c3,c4⟩:=o;simp only at h2 h3
  subst h2 h3
  have ne:a≠d:=λz=>by rw[z,hd] at h1;exact absurd (congrArg Obj.cls (Pp h1)) 's'
  obtain⟨r1,r2⟩:=nq hd (T := "tuple") (b:=.ref a) ⟨_,h1,rfl⟩ 'd' 'd' (nt _) (nv _) SZ PySem.F.slot_tuple_eq_refl (λprog w E Q' hq=>Rc SZ ⟨_,h1,rfl⟩ PySem.F.entry_tuple_eq (PySem.F.args_tuple_eq_2 _ _) (JZ _ _ _ _) ⟨h1,hd,hq⟩)
   (λprog w E Q' hq=>(rh h1 hd ne hq).1) (λprog w E Q' hq=>(rh h1 hd ne hq).2) hu
  exact⟨.of_refs ne r1,.of_refs (Ne.symm ne) r2⟩
 |_,_,_,.dict _ _ _ _ _,c=>by cases c
end
end L2
namespace L2
open PySem PySem.Spec PyProof.Rows
abbrev Od:=PyData ⊕ ZE
def jM:Od->Od->Bool
 |.inl e,.inl d=>PyData.eqv e d
 |.inr a,.inr b=>decide (a=b)
 |_,_=>false
inductive kD (K:ZA) (H:Hp):V->Od->Prop
 |dat {x:V} {d:PyData} (h:DaV K H x d) (c:d.canLay0=true) (m:d.depth<=30):kD K H x (.inl d)
 |dic {a:ZE} {kvs:List (aF×V)} (h:H a=some (.dK kvs)):kD K H (.ref a) (.inr a)
inductive g8 (K:ZA) (H:Hp):YE->List Od->Prop
 |nil:g8 K H [] []
 |cons {x:V} {xs:YE} {d:Od} {ds:List Od} (h:kD K H x d) (t:g8 K H xs ds):g8 K H (x::xs) (d::ds)
open Classical in
def jc(h:Heap)(t:Od)(v:ZC):Bool:=if q:∃ e as,e.canLay0=true/\Reads h v e as then jM (.inl q.choose) t else match t with
 |.inl _=>false
 |.inr a=>decide (v=.ref a)
def J0{h:Heap}{t:Od}{e:PyData}{v:ZC}{as:List ZE}(c:e.canLay0=true)(r:Reads h v e as):jc h t v=jM (.inl e) t:=by
 have q:∃ e as,e.canLay0=true/\Reads h v e as:=⟨e,as,c,r⟩
 unfold jc;rw[dif_pos q];obtain⟨as',c',r'⟩:=q.choose_spec
 have z:q.choose=e:=by first|exact(Reads.unique _ _ r' r).1|exact(Reads.unique r' r).1|exact Reads.unique _ _ _ _ _ c' r' r|exact R9 _ _ _ _ _ c' r' r|exact TQ _ _ _ _ _ c' r' r
 rw[z]
def J1{h:Heap}{t:Od}{a:ZE}{o:Obj}{es:Array DictEntry}{n:Nat}(e:h.get? a=some o)(hd:o.data=.dict es n):jc h t (.ref a)=jM (.inr a) t:=by
 unfold jc;rw[dif_neg]
 ·cases t with
  |inl d=>rfl
  |inr b =>
   show decide (Value.ref a=Value.ref b)=decide (a=b)
   exact decide_eq_decide.mpr ⟨λh=>by injection h,λh=>by rw[h]⟩
 ·rintro⟨d,as,c,r⟩
  cases r with
  |list h1 h2 h3=>rw[e] at h1;cases h1;rw[hd] at h3;cases h3
  |tuple h1 h2 h3=>rw[e] at h1;cases h1;rw[hd] at h3;cases h3
  |dict=>cases c
section
variable{X:Cx}{pins:List (ZE×Obj)}{σ:St}{H:Hp}{s:ZB}
def Ah(I:Inv X pins σ H s){a:ZE}{kvs:List (aF×V)}(e:H a=some (.dK kvs)):∃ dd sl es n,s.heap.get? a=some { cls:=.type "dict",dict:=dd,data:=.dict es n,slots:=sl }:=by
 obtain⟨_,_,vs,_,o,es,ep,h1,h2,h3,_⟩:=dk_of I.hok e;obtain⟨c1,c2,c3,c4⟩:=o;obtain⟨z1,_⟩:=h2;simp only at z1 h3
 subst z1 h3
 exact⟨c2,c4,es,ep,h1⟩
def J2(I:Inv X pins σ H s)(hu:X.A.units+64<cLine){x y:V}{u v:ZC}{e t:Od}(hx:kD X.K H x e)(hy:kD X.K H y t)(rx:RelV x u)(ry:RelV y v)(one:∀ a b,e=.inr a->t=.inr b->a=b):jc s.heap t u=jM e t/\SeqAt.EqAt X.A.in1 s u v (jc s.heap t u):=by
 have hu1:X.A.in1.units<cLine:=by show X.A.units+1<cLine;lia
 cases hx with
 |dat h c m =>
  obtain⟨as,ra⟩:=h.reads I rx;rw[J0 c ra];refine⟨rfl,?_⟩
  cases hy with
  |dat h2 c2 m2 =>
   obtain⟨bs,rb⟩:=h2.reads I ry;exact SeqAt.eqAt_reads _ _ _ _ _ _ _ _ ra rb c c2 (by
    rename_i d1 d2;have:=Q5 d1.depth d2.depth;show X.A.units+1+_<cLine
    lia)
  |dic h2 =>
   cases ry
   obtain⟨dd,sl,es,n,hd⟩:=Ah I h2;exact(Ag hd hu1 ra c).1
 |dic h =>
  cases rx
  obtain⟨dd,sl,es,n,hd⟩:=Ah I h;rw[J1 hd rfl];refine⟨rfl,?_⟩
  cases hy with
  |dat h2 c2 m2 =>
   obtain⟨bs,rb⟩:=h2.reads I ry;exact(Ag hd hu1 rb c2).2
  |dic h2 =>
   cases ry
   have z:=one _ _ rfl rfl;subst z;rw[show jM (.inr _) (.inr _)=true from Pf rfl];exact SeqAt.EqAt.same _
theorem Ai(I:Inv X pins σ H s)(hu:X.A.units+64<cLine){y:V}{v:ZC}{t:Od}(hy:kD X.K H y t)(ry:RelV y v):∀ {xs:YE} {ts:List Od} {us:YB},g8 X.K H xs ts->Vals xs us->(∀ e∈ts,∀ a b,e=.inr a->t=.inr b->a=b) ->
  us.any (jc s.heap t)=ts.any (λe=>jM e t)/\∀ u∈us,SeqAt.EqAt X.A.in1 s u v (jc s.heap t u)
 |_,_,_,.nil,r,_=>by cases r;exact⟨rfl,nofun⟩
 |_,_,_,.cons h hs,r,one=>by
  cases r with
  |cons r1 r2 =>
   obtain⟨e1,e2⟩:=J2 I hu h hy r1 ry (one _ (PK ..));obtain⟨i1,i2⟩:=Ai I hu hy ry hs r2 λe he=>one e (Pt _ he)
   refine⟨by rw[Qj,Qj,e1,i1],λu hu=>?_⟩
   rcases Pb.mp hu with rfl|hu
   ·exact e2
   ·exact i2 u hu
def J3(hu:X.A.units+64<cLine):OpR X (compareOp .In) (λx y H Q=>∃ p xs ts t,y=.ref p/\SqL X.K H p xs/\kD X.K H x t/\g8 X.K H xs ts/\(∀ e∈ts,∀ a b,e=.inr a->t=.inr b->a=b)/\Q (.bl (ts.any λe=>jM e t)) H):=by
 intro pins s σ H x y v u Q I rx ry h;obtain⟨p,xs,ts,t,rfl,hq,hd,hds,one,q⟩:=h
 cases ry
 obtain⟨its,r,pl,hz⟩:=I.list hq;obtain⟨i1,i2⟩:=Ai I hu hd rx hds r one;refine SeqAt.in_listAt (jc s.heap t) pl.isList (λy hy=>i2 y (by simpa using hy)) ⟨.bl _,H,I,rfl,?_⟩
 rw[<- Sh];show Q (.bl (its.any (jc s.heap t))) H
 rw[i1];exact q
end
end L2
namespace Sm
open PySem PySem.Spec L2 PyProof.Rows
abbrev gB:=PyData ⊕ Nat
def gC(h:AH)(v:AV):Option gB:=match bf 8 h v with
 |some d=>some (.inl d)
 |none=>match v with
  |.ref n=>(match h[n]? with
   |some (.dct false _)=>some (.inr n)
   |_=>none)
  |_=>none
def gi(h:AH):YF->Option (List gB)
 |[]=>some []
 |v::r=>match gC h v,gi h r with
  |some d,some ds=>some (d::ds)
  |_,_=>none
def bS:gB->gB->Bool
 |.inl e,.inl d=>PyData.eqv e d
 |.inr a,.inr b=>decide (a=b)
 |_,_=>false
def jO(t:gB):gB->Bool
 |.inr a=>(match t with
  |.inr b=>decide (a=b)
  |_=>true)
 |_=>true
def dQ:F2:=λx y h=>match y with
 |.fl xs=>(match gC h x,gi h xs with
  |some t,some ts=>if ts.all (jO t)=true then .ok (.bl (ts.any λe=>bS e t)) h else .bad
  |_,_=>.bad)
 |_=>.bad
section
variable{T:Tb}{ι:Ix}{h:AH}{H:Hp}
inductive Oo (ι:Ix):gB->Od->Prop
 |dat (d:PyData):Oo ι (.inl d) (.inl d)
 |dic {n:Nat} {a:ZE} (e:ι.refs[n]?=some a):Oo ι (.inr n) (.inr a)
def Aj(S:Sim T ι h H){x:AV}{u:V}{t:gB}(r:RV T ι H x u)(e:gC h x=some t):∃ t',Oo ι t t'/\kD T.K H u t':=by
 unfold gC at e;split at e
 ·rename_i d hd
  cases e
  obtain⟨q1,q2,q3⟩:=i5 S 8 r hd;exact⟨_,.dat d,.dat q1 q2 ⋯⟩
 ·split at e
  ·rename_i n hz
   split at e
   ·rename_i kvs hn
    cases e
    cases r with
    |@ref _ ad hr =>
     obtain⟨ob,e1,kus,rfl,_⟩:=S.obj n _ ad hn hr;exact⟨_,.dic hr,.dic e1⟩
   ·cases e
  ·cases e
theorem Ak(S:Sim T ι h H):∀ {xs:YF} {us:YE} {ts:List gB},RVs T ι H xs us->gi h xs=some ts->∃ ts',Paired (Oo ι) ts ts'/\g8 T.K H us ts'
 |_,_,_,.nil,e=>by cases e;exact⟨[],.nil,.nil⟩
 |x::xs,_,ts,.cons r rs,e=>by
  unfold gi at e;split at e
  ·rename_i d ds e1 e2
   cases e
   obtain⟨t',o1,o2⟩:=Aj S r e1;obtain⟨ts',o3,o4⟩:=Ak S rs e2;exact⟨t'::ts',.cons o1 o3,.cons o2 o4⟩
  ·cases e
def J4(S:Sim T ι h H){e t:gB}{e' t':Od}(o1:Oo ι e e')(o2:Oo ι t t')(one:jO t e=true):bS e t=jM e' t'/\∀ a b,e'=.inr a->t'=.inr b->a=b:=by
 cases o1 with
 |dat d=>cases o2<;>exact⟨rfl,λa b h=>nomatch h⟩
 |dic q1 =>
  cases o2 with
  |dat d=>exact⟨rfl,λa b _ h=>nomatch h⟩
  |dic q2 =>
   have z:=R5 one;subst z;rw[q1] at q2
   cases q2
   refine⟨?_,λa b h1 h2=>?_⟩
   ·show decide (_=_)=decide (_=_)
    rw[Pf rfl,Pf rfl]
   ·cases h1;cases h2;rfl
theorem Al(S:Sim T ι h H){t:gB}{t':Od}(o2:Oo ι t t'):∀ {ts:List gB} {ts':List Od},Paired (Oo ι) ts ts'->ts.all (jO t)=true->(ts.any λe=>bS e t)=(ts'.any λe=>jM e t')/\∀ e∈ts',∀ a b,e=.inr a->t'=.inr b->a=b
 |_,_,.nil,_=>⟨rfl,nofun⟩
 |_,_,.cons o os,c=>by
  rw[List.all_cons,Pu] at c;obtain⟨z1,z2⟩:=J4 S o o2 c.1
  obtain⟨i1,i2⟩:=Al S o2 os c.2;refine⟨by rw[Qj,Qj,z1,i1],λe he=>?_⟩
  rcases Pb.mp he with rfl|he
  ·exact z2
  ·exact i2 e he
def vv{X:Cx}(hK:X.K=T.K)(hu:X.A.units+64<cLine):Op T X (compareOp .In) dQ:=by
 refine⟨_,J3 hu,λι h H x y u w E Q S rx ry p=>?_⟩
 unfold dQ at p;split at p
 ·rename_i xs
  split at p
  ·rename_i t ts e1 e2
   by_cases c:ts.all (jO t)=true
   ·rw[OX c] at p
    obtain⟨a,us,rfl,sq,rs⟩:=fR S ry rfl;obtain⟨t',o1,o2⟩:=Aj S rx e1;obtain⟨ts',o3,o4⟩:=Ak S rs e2;obtain⟨z1,z2⟩:=Al S o1 o3 c;rw[z1] at p;exact⟨a,us,ts',t',rfl,hK▸sq,hK▸o2,hK▸o4,z2,p.now S (.bl _)⟩
   ·rw[O0 c] at p;exact p.elim
  ·exact p.elim
 ·exact p.elim
end
end Sm
namespace L2
open PySem PySem.Spec PyProof.Rows
open PySem.Builtin PySem.Builtin.Str
section
variable{X:Cx}
def J5{a b c d:Expr}{ta tb tc td:TE}{pos:Pos}{op op' op'':CmpOp}{r r' r'':R2}(ho:OpR X (compareOp op) r)(ho':OpR X (compareOp op') r')(ho'':OpR X (compareOp op'') r'')(ha:PE X a ta)(hb:PE X b tb)(hc:PE X c tc)(hd:PE X d td)
  (hm:autoParam (lastMarks [op,op',op''] [b,c,d]=false) E6._auto_1):PE X (.Compare a [op,op',op''] [b,c,d] pos) (yY r r' r'' ta tb tc td):=by
 intro pins s σ H Q I h;refine Compare_chain (thn (ha pins s σ H _ I h) λv s1 ⟨x,H1,I1,r1,q1⟩=>Uo (thn (hb pins s1 σ H1 _ I1 q1) λu s2 ⟨y,H2,I2,r2,q2⟩ =>
  thn (ho pins s2 σ H2 x y v u _ I2 r1 r2 q2) λd s3 ⟨z,H3,I3,r3,k,e,q3⟩=>?_)) hm
 subst e
 cases r3
 refine Pj ?_
 cases k with
 |false=>exact ite_ff ⟨.bl false,H3,I3,rfl,q3⟩
 |true =>
  refine ite_tt (Uo (thn (hc pins s3 σ H3 _ I3 q3) λw' s4 ⟨z',H4,I4,r4,q4⟩=>thn (ho' pins s4 σ H4 y z' u w' _ I4 r2 r4 q4) λd' s5 Zz=>?_));obtain⟨z2,H5,I5,r5,k2,e2,q5⟩:=Zz
  subst e2
  cases r5
  refine Pj ?_
  cases k2 with
  |false=>exact ite_ff ⟨.bl false,H5,I5,rfl,q5⟩
  |true=>exact ite_tt (chain_last (thn (hd pins s5 σ H5 _ I5 q5) λw2 s6 ⟨z3,H6,I6,r6,q6⟩=>ho'' pins s6 σ H6 z' z3 w' w2 Q I6 r4 r6 q6))
def J6(i j k:Nat)(ta:TA):TS:=λD σ H=>ta σ H λvs H1=>∃ v w z,vs=[v,w,z]/\D.nx (((σ.set i (some v)).set j (some w)).set k (some z)) H1
def J7{i j k:Nat}{x y z:Str}{a b c:Expr}{ta:TA}{pos px py pz pt:Pos}{kt k2:Nat}{pt2:Pos}(hc:X.calm=true)(hN:X.N.Nodup)(hi:X.N[i]?=some x)(hj:X.N[j]?=some y)(hk:X.N[k]?=some z)(hij:i≠j)(hik:i≠k)(hjk:j≠k)
  (hx:X.env.scope.names.lookup x=some .local)(hy:X.env.scope.names.lookup y=some .local)(hz:X.env.scope.names.lookup z=some .local)(ha:PA X [a,b,c] ta)
  (hw:swappedStores [.Tuple [.Name x px,.Name y py,.Name z pz] kt pt] (.Tuple [a,b,c] k2 pt2) X.env=pure (some [x,y,z]))
  (hs:‹swapsWithSole [.Tuple [.Name x px,.Name y py,.Name z pz] kt pt] (.Tuple [a,b,c] k2 pt2) pos.line X.env=pure false›) :
  PS X (.Assign [.Tuple [.Name x px,.Name y py,.Name z pz] kt pt] (.Tuple [a,b,c] k2 pt2) pos) (J6 i j k ta):=by
 intro pins s σ H D I h;rw[exec_Assign_arm];refine OT (Sb ?_)
 rw[hs];refine OT (O1 ?_)
 rw[O0 'd'];refine OT (Tuple_ (thn (ha _ pins s σ H _ I h) λus s1 Zz=>?_));obtain⟨vs,H1,I1,r1,q1⟩:=Zz
 obtain⟨v,w,v3,e1,q1⟩:=q1;subst e1;obtain⟨u1,u2,u3,rfl,rv,rw',r3⟩:∃ u1 u2 u3,us=[u1,u2,u3]/\RelV v u1/\RelV w u2/\RelV v3 u3:=by
  cases r1 with
  |cons p q =>
   cases q with
   |cons p' q' =>
    cases q' with
    |cons p2 q2 =>
     cases q2
     exact⟨_,_,_,rfl,p,p',p2⟩
 refine Qo ?_ (by show 3<=sizeLine;decide)
 have I2:Inv X pins σ H1 { s1 with heap:=s1.heap.push { cls:=.type "tuple",data:=.seq [u1,u2,u3].toArray } }:=I1.kept (t':=s1.toks) λb o e=>OZ _ e
 rw[hw];refine OT (O1 ?_)
 show wpAny (model X.prog X.w) X.A (do rule "assign.swapped-stores";let items <- unpackItems (.ref s1.heap.objs.size) 3 none;assignInOrder [λv=>bindName X.env z v,λv=>bindName X.env y v,λv=>bindName X.env x v] items.reverse;pure Flow.next) _ _ _
 refine OT (T5 (OT (unpackItems_tuple (items:=#[u1,u2,u3]) (I.ok.hd hc) (IsTup.new s1.heap _) λh' hx'=>?_)))
 have I3:=I2.kept (h':=h') (t':=s1.toks) λb o e=>hx' b o (Pq (O4 e)) e
 show wpAny _ _ (assignInOrder [λv=>bindName X.env z v,λv=>bindName X.env y v,λv=>bindName X.env x v] [u3,u2,u1] >>= λ_=>pure Flow.next) _ _ _
 refine OT (Q9 (Tv (mK I3 hN hk (.inl hz) r3 (λs2 I4=>?_) (.inr hz))))
 refine Q9 (Tv (mK I4 hN hj (.inl hy) rw' (λs2 I5=>?_) (.inr hy)))
 refine Q9 (Tv (mK I5 hN hi (.inl hx) rv (λs3 I6=>Ug (O1 ?_)) (.inr hx)))
 have e:((σ.set k (some v3)).set j (some w)).set i (some v)=((σ.set i (some v)).set j (some w)).set k (some v3):=by
  rw[TN _ _ (Ne.symm hjk),TN _ _ (Ne.symm hik),TN _ _ (Ne.symm hij)]
 rw[e] at I6;exact⟨_,H1,I6,q1⟩
end
end L2
namespace Sm
open PySem PySem.Spec L2
section
variable{T:Tb}{E:L2.St->XK}{X:Cx}{pos:Pos}{a b c d:Expr}{sa sb sc sd:SE}
def J8{op op' op'':CmpOp}{f f' f'':F2}(ho:Op T X (compareOp op) f)(ho':Op T X (compareOp op') f')(ho'':Op T X (compareOp op'') f'')(ha:aD T E X a sa)(hb:aD T E X b sb)(hc:aD T E X c sc)(hd:aD T E X d sd)(hm:autoParam (lastMarks [op,op',op''] [b,c,d]=false) L2.E6._auto_1) :
  aD T E X (.Compare a [op,op',op''] [b,c,d] pos) (i8 f f' f'' sa sb sc sd):=by
 obtain⟨r,h1,hs⟩:=ho;obtain⟨r',h1',hs'⟩:=ho';obtain⟨r'',h1'',hs''⟩:=ho'';refine bO (J5 h1 h1' h1'' ha hb hc hd hm) λσ H Q q=>?_
 obtain⟨ι,h,en,S,er,q⟩:=q;unfold i8 at q;refine⟨ι,h,en,S,er,q.bind λx h1 ι1 H1 u g1 S1 r1 q1=>?_⟩
 refine⟨ι1,h1,en,S1,er.mono g1,q1.bind λy h2 ι2 H2 w g2 S2 r2 q2=>?_⟩
 refine hs ι2 h2 H2 x y u w (E σ) _ S2 (r1.mono g2) r2 (q2.bind λz h3 ι3 H3 k g3 S3 r3 q3=>?_)
 split at q3
 ·rename_i kk
  rw[fS r3];refine⟨kk,rfl,?_⟩
  by_cases hkk:kk=true
  ·rw[OX hkk] at q3 ⊢
   refine⟨ι3,h3,en,S3,er.mono (g1.trans (g2.trans g3)),q3.bind λv h4 ι4 H4 j g4 S4 r4 q4=>?_⟩
   refine hs' ι4 h4 H4 y v w j (E σ) _ S4 (r2.mono (g3.trans g4)) r4 (q4.bind λz2 h5 ι5 H5 k5 g5 S5 r5 q5=>?_)
   split at q5
   ·rename_i k2
    rw[fS r5];refine⟨k2,rfl,?_⟩
    by_cases hk2:k2=true
    ·rw[OX hk2] at q5 ⊢
     refine⟨ι5,h5,en,S5,er.mono (g1.trans (g2.trans (g3.trans (g4.trans g5)))),q5.bind λv6 h6 ι6 H6 j6 g6 S6 r6 q6=>?_⟩
     exact hs'' ι6 h6 H6 v v6 j j6 (E σ) _ S6 (r4.mono (g5.trans g6)) r6 q6
    ·rw[O0 hk2] at q5 ⊢
     exact q5.now S5 (.bl _)
   ·exact q5.elim
  ·rw[O0 hkk] at q3 ⊢
   exact q3.now S3 (.bl _)
 ·exact q3.elim
def rj(i j k:Nat)(as:SL):SS:=λen h=>(as en h).go en λvs h1=>match vs with
 |[v,w,z]=>.nx (((en.set i (some v)).set j (some w)).set k (some z)) h1
 |_=>.bad
def J9{i j k:Nat}{x y z:Str}{as:SL}{px py pz pt pt2:Pos}{kt k2:Nat}(hN:X.N.Nodup)(ha:fQ T E X [a,b,c] as)(hc:‹X.calm=true›)(hij:(i≠j)⁻¹)(hik:(i≠k)⁻¹)(hjk:(j≠k)⁻¹)(hi:‹X.N[i]?=some x›)(hj:‹X.N[j]?=some y›)(hk:‹X.N[k]?=some z›)(hx:‹X.env.scope.names.lookup x=some .local›)(hy:‹X.env.scope.names.lookup y=some .local›)(hz:‹X.env.scope.names.lookup z=some .local›)
  (hw:‹swappedStores [.Tuple [.Name x px,.Name y py,.Name z pz] kt pt] (.Tuple [a,b,c] k2 pt2) X.env=pure (some [x,y,z])›)(hs:‹swapsWithSole [.Tuple [.Name x px,.Name y py,.Name z pz] kt pt] (.Tuple [a,b,c] k2 pt2) pos.line X.env=pure false›) :
  gz T E X (.Assign [.Tuple [.Name x px,.Name y py,.Name z pz] kt pt] (.Tuple [a,b,c] k2 pt2) pos) (rj i j k as):=by
 refine hZ (J7 hc hN hi hj hk hij hik hjk hx hy hz ha hw hs) λD σ H=>E6x λι h en S er q=>⟨ι,h,en,S,er,q.go er λvs h1 ι1 H1 us g1 S1 r1 q1=>?_⟩
 split at q1
 ·cases r1 with
  |cons r r' =>
   cases r' with
   |cons r2 r3 =>
    cases r3 with
    |cons r4 r5 =>
     cases r5
     exact⟨_,_,_,rfl,q1 ι1 H1 _ S1.refl S1 ((((er.mono g1).set r i).set r2 j).set r4 k)⟩
 ·exact q1.elim
end
end Sm
namespace L2
open PySem PySem.Spec PyProof.Rows
section
variable{X:Cx}{pins:List (ZE×Obj)}{σ:St}{H:Hp}{s:ZB}{a:ZE}
def Inv.swap{u u':HO}(I:Inv X pins σ H s)(e:H a=some u)(n1:∀ xs,u ≠ .tup xs)(n2:∀ ps,u ≠ .tbl ps)(n3:∀ y,u ≠ .own y)(nf:∀ o v,X.H₀ a≠some (.frz o v))
  (new:ObjOk X.prog X.w (upd H a u') s.heap a u'):Inv X pins σ (upd H a u') s:=by
 have up:∀ {b:ZE} {o:HO},H b=some o->(b=a->o≠u)->upd H a u' b=some o:=λ{b o} q n=>by
  rw[bg λz=>n z (by subst z;rw[e] at q;exact(Pp q).symm)];exact q
 have no:∀ {b:ZE},H b=none->upd H a u' b=none:=λ{b} q=>by rw[bg λz=>by subst z;rw[e] at q;cases q];exact q
 refine⟨I.ok,I.os,I.bare,⟨I.base.keep,I.base.slot,λb o q n hx=>no (I.base.free b o q n hx),I.base.there,λb xs q=>up (I.base.tups b xs q) λ_=>Ne.symm (n1 xs),λb o v q=>?_,λb ps q=>?_⟩,
  I.loc,I.cell,no I.free,λx c q=>no (I.freeC x c q),λp hp=>?_,λb o q=>?_,I.len⟩
 ·rw[bg λz=>by subst z;exact nf o v q];exact I.base.frzs b o v q
 ·obtain⟨m,q'⟩:=I.base.tbls b ps q
  exact⟨m,up q' λ_=>Ne.symm (n2 _)⟩
 ·obtain⟨h1,h2,h3⟩:=I.pin p hp
  exact⟨h1,no h2,h3⟩
 ·by_cases z:b=a
  ·subst z;rw[dH] at q;cases q;exact new
  ·rw[bg z] at q
   exact(I.hok b o q).stay (λc v _ r=>r) (λc r=>up r λ_=>Ne.symm (n3 _)) λc xs r=>up r λ_=>Ne.symm (n1 _)
def Inv.nofrz{u:HO}(I:Inv X pins σ H s)(e:H a=some u)(n:∀ o v,u ≠ .frz o v):∀ o v,X.H₀ a≠some (.frz o v):=(λo v q=>by
 have:=I.base.frzs a o v q;rw[e] at this;exact n o v (Pp this))
def Inv.freeze{kus:List (aF×V)}(I:Inv X pins σ H s)(e:H a=some (.dK kus)):∃ ob,Inv X pins σ (upd H a (.frz ob (.dK kus))) s:=by
 obtain⟨z,hd,vs,rel,dd⟩:=dk_of I.hok e;obtain⟨o,es,ep,h1,h2⟩:=id dd;exact⟨o,I.swap e (λ_ z=>HO.noConfusion z) (λ_ z=>HO.noConfusion z) (λ_ z=>HO.noConfusion z) (I.nofrz e λ_ _ z=>HO.noConfusion z) (show s.heap.get? a=some o/\ObjOk X.prog X.w (upd H a (.frz o (.dK kus))) s.heap a (.dK kus) from⟨h1,qr z hd rel dd⟩)⟩
def Inv.thaw{kus:List (aF×V)}{ob:Obj}(I:Inv X pins σ H s)(n:∀ o v,X.H₀ a≠some (.frz o v))(e:H a=some (.frz ob (.dK kus))):Inv X pins σ (upd H a (.dK kus)) s :=(
 I.swap e (λ_ z=>HO.noConfusion z) (λ_ z=>HO.noConfusion z) (λ_ z=>HO.noConfusion z) n (show ObjOk X.prog X.w (upd H a (.dK kus)) s.heap a (.dK kus) from(show ObjOk X.prog X.w H s.heap a (.frz ob (.dK kus)) from I.hok a _ e).2))
end
def vx{P:ZD}{w:ZF}{H:Hp}{h:Heap}{a:ZE}{ob:Obj}{kus:List (aF×V)}(ok:HOk P w H h)(e:H a=some (.frz ob (.dK kus))) :
  (a == sysModules)=false/\∃ (es:Array DictEntry) (ep:Nat) (vs:List (aF×ZC)),ob.data=.dict es ep/\KV kus vs/\h.DictAt (d9 P w) a vs ep:=by
 have g:h.get? a=some ob:=(show ObjOk P w H h a (.frz ob (.dK kus)) from ok a _ e).1;obtain⟨z,hd,vs,rel,o,es,ep,h1,h2,h3,h4⟩:=iW (P:=P) (w:=w) ok (.inr ⟨ob,e⟩);rw[g] at h1;cases h1
 exact⟨hd,es,ep,vs,h3,rel,ob,es,g,h2,h3,h4⟩
def lV(a:ZE)(ob:Obj)(ks:List aF):It :=
 ⟨λi H=>∃ kus,H a=some (.frz ob (.dK kus))/\kus.map (·.1)=ks/\i<ks.length,
  λi H x H'=>H'=H/\∃ k,ks[i]?=some k/\x=kV k,
  λi H=>∃ kus,H a=some (.frz ob (.dK kus))/\kus.map (·.1)=ks/\ks.length<=i⟩
def Ka{P:ZD}{w:ZF}{K:ZA}{tg:Expr}(a it:ZE)(ob:Obj)(ks:List aF)(n ep:Nat)(hn:n=ks.length)(hob:∃ es,ob.data=.dict es ep):fu P w K tg (lV a ob ks) [it] it (λi h=>h.IsKeyIter it a i n ep) where
 mem:=by simp
 obj:=λi h st b hb=>by
  have e:b=it:=by simpa using hb
  subst e;obtain⟨o,e,c,d⟩:=st
  exact⟨o,e,λv z=>by rw[d] at z;cases z⟩
 keep:=λi h h' st k=>st.imp λo e=>⟨k it 's' o e.1,e.2⟩
 item:=by
  intro X hP hw hK hc i pins s σ H E I hf st hg;subst hP hw hK
  obtain⟨kus,ha,hk,hi⟩:=hg;obtain⟨_,es',ep',vs,d1,rel,dd⟩:=vx I.hok ha;obtain⟨es,d2⟩:=hob;rw[d2] at d1;cases d1
  have l1:vs.length=n:=by rw[hn,<- hk,O2,rel.length]
  have hv:i<vs.length:=by rw[l1,hn];exact hi
  have hki:ks[i]?=some vs[i].1:=by
   rw[<- hk,rel.keys,Pr];simp[hv]
  obtain⟨f0,f1,f2,f3,f4,f5⟩:=hf it 's';refine wpAny_pyNext_dict_item (knd:=d9 X.prog X.w) (kvs:=vs) (k:=vs[i].1) (v:=vs[i].2) (l1▸st) dd (by simp[hv]) λkey h' hkey st' sb=>?_
  have I1:Inv X pins σ H { s with heap:=h' }:=I.turned (t':=s.toks) (λb o hb e=>(sb.2 b hb).trans e) f0 f1 f3 f4 f5;have st2:h'.IsKeyIter it a (i+1) n ep:=l1▸st';obtain⟨o,e,c,d⟩:=id st2;refine⟨_,rfl,nV (s:={ s with heap:=h' }) e c d 'd' ⟨kV vs[i].1,H,I1,?_,⟨rfl,_,hki,rfl⟩,st2,λb hb=>(hf b hb).1⟩⟩
  rcases ip (show ka vs[i].1 key=true from hkey) with⟨j,t,e1,e2⟩|⟨x,t,e1,e2⟩
  ·rw[e1,e2];exact⟨t,rfl⟩
  ·rw[e1,e2];exact⟨t,rfl⟩
 done:=by
  intro X hP hw hK hc i pins s σ H E I hf st hg;subst hP hw hK
  obtain⟨kus,ha,hk,hi⟩:=hg;obtain⟨_,es',ep',vs,d1,rel,dd⟩:=vx I.hok ha;obtain⟨es,d2⟩:=hob;rw[d2] at d1;cases d1
  have l1:vs.length=n:=by rw[hn,<- hk,O2,rel.length]
  obtain⟨f0,f1,f2,f3,f4,f5⟩:=hf it 's';exact wpAny_pyNext_dict_end (knd:=d9 X.prog X.w) (kvs:=vs) (I.ok.hd hc) (l1▸st) dd (Qg (by rw[l1,hn];exact hi)) λh' eb=>⟨rfl,I.turned (t':=s.toks) (λb o hb e=>eb b o hb e) f0 f1 f3 f4 f5⟩
 self:=λ_ _ _ _ _ st h=>by
  obtain⟨o,e,c,d⟩:=st;refine wpAny_pyIter_slot ⟨o,e,c⟩ F.slot_dict_keyiterator_iter (P7 F.slot_dict_keyiterator_iter ⟨o,e,c⟩ F.entry_dict_keyiterator_iter ?_ (F.args_dict_keyiterator_iter_1 _))
  exact OT (O1 (O1 ⟨_,rfl, "dict_keyiterator",_,⟨o,e,c⟩,F.slot_dict_keyiterator_next.lookup,h⟩))
section
variable{X:Cx}{tg:Expr}
def Am(tl:TE):TI:=λσ H R=>tl σ H λx H1=>∃ a ob kus,x=.ref a/\H1 a=some (.frz ob (.dK kus))/\R (lV a ob (kus.map (·.1))) H1
def Kb{l:Expr}{tl:TE}(hl:PE X l tl):PI X tg l (Am tl):=by
 intro pins s σ H R I h;refine thn (hl pins s σ H _ I h) λv s1 Zz=>?_;obtain⟨x,H1,I1,r1,q1⟩:=Zz
 obtain⟨a,ob,kus,e,hq,q⟩:=q1;subst e
 cases r1
 obtain⟨hd,es,ep,vs,d1,rel,dd⟩:=vx I1.hok hq;refine wpAny_pyIter_dict (knd:=d9 X.prog X.w) hd dd ⟨s1.heap.objs.size,[s1.heap.objs.size],_,_,H1,rfl,I1.kept (t':=s1.toks) λb o e=>OZ _ e,Ka a _ ob (kus.map (·.1)) vs.length ep (by rw[O2,rel.length]) ⟨es,d1⟩,⟨_,Pa _ rfl,rfl,rfl⟩,λb hb=>?_,q⟩
 have e:b=s1.heap.objs.size:=by simpa using hb
 subst e;exact I1.fpOk (OV _) (I1.hok.fresh (OV _))
variable{ns:List Str}{g:TG}{jf:List (Nat×Str)}{scope:Scope}{iter elt:Expr}{ifs:YD}{pos:Pos}{tl:TE}{tc:TT}{te:TE}
def Kc(k:Nat)(g:TG)(jf:List (Nat×Str))(tl:TE)(tc:TT)(te:TE):TE:=λσ H Q=>∃ a kus,H a=some (.dK kus) /\
 ∀ ob,oj k g jf (Am tl) tc te σ (upd H a (.frz ob (.dK kus))) λv H'=>∃ kus',H' a=some (.frz ob (.dK kus'))/\Q v (upd H' a (.dK kus'))
def Kd(hcalm:X.calm=true)(hg:∀ pins cl s H fp,PG (cz X pins ns jf scope cl s H fp) tg g)(hl:PE X iter tl)(hc:∀ pins cl s H fp,jr (cz X pins ns jf scope cl s H fp) ifs tc)(he:∀ pins cl s H fp,PE (cz X pins ns jf scope cl s H fp) elt te)(C:CompOk X ns jf scope)(hs:autoParam (∀ x,foldedSetIterable iter X.env x=pure x) L2.Ez._auto_1) :
  PE X (.ListComp elt [⟨tg,iter,ifs,0⟩] scope pos) (Kc ns.length g jf tl tc te):=by
 intro pins s σ H Q I ⟨a,kus,e,h⟩;obtain⟨ob,I1⟩:=I.freeze e;have nf:=I.nofrz e λ_ _ z=>HO.noConfusion z
 refine PC (yG hcalm hg (Kb hl) hc he C hs pins s σ _ _ I1 (h ob)) (λv s' ⟨x,H',I',r',kus',e',q'⟩=>⟨x,_,I'.thaw nf e',r',q'⟩) λ_ _ z=>z
end
end L2
set_option maxHeartbeats 400000
namespace Sm
open PySem PySem.Spec L2
def Lz(n:Nat)(ob:Obj)(kvs:List (AV×AV)):AH->Bool:=λh=>@decide (h[n]?=some (.dcz ob kvs)) (Classical.propDecidable _)
def vy(js:List Nat)(en:En)(n:Nat)(kvs:List (AV×AV))(c:SB)(e:SE)(h:AH)(ys:YF):Prop :=
 (∀ p∈kvs,∀ x,p.1=.str x->x.length<=sizeLine/\x.cps.all (· < 0x110000)=true) /\
 ∀ ob,gQ js en (Lz n ob kvs) c e (kvs.map (·.1)) [] (h.set n (.dcz ob kvs))=.ok ys (h.set n (.dcz ob kvs))
def lW(js:List Nat)(i:Nat)(c:SB)(e:SE):SE:=λen h=>match en[i]? with
 |some (some (.ref n))=>(match h[n]? with
  |some (.dct false kvs)=>@dite _ (∃ ys,vy js en n kvs c e h ys) (Classical.propDecidable _) (λp=>.ok (.fl p.choose) h) (λ_=>.bad)
  |_=>.bad)
 |_=>.bad
def g9:F2:=λx y h=>match x with
 |.ref n=>(match h[n]? with
  |some (.dcz _ kvs)=>if (keyOf? y).isSome then(match aT kvs y with|some v=>.ok v h|none=>.bad) else .bad
  |_=>.bad)
 |_=>.bad
def Ke{js:List Nat}{i n:Nat}{c:SB}{e:SE}{en:En}{h:AH}{kvs:List (AV×AV)}{ys:YF}(e1:en[i]?=some (some (.ref n)))(e2:h[n]?=some (.dct false kvs))(g:vy js en n kvs c e h ys):lW js i c e en h=.ok (.fl ys) h:=by
 have p:∃ ys,vy js en n kvs c e h ys:=⟨ys,g⟩
 unfold lW;rw[e1];dsimp only;rw[e2];dsimp only;rw[dif_pos p];have a:=p.choose_spec.2 default
 rw[g.2 default] at a;injection a with a _
 rw[<- a]
section
variable{T:Tb}{E:St->XK}{X:Cx}{pos px:Pos}{iter elt:Expr}{ifs:YD}{scope:Scope}{x₁:Str}{jf:List (Nat×Str)}{i:Nat}{cc:SB}{ce:SE}
def Kf{ι:Ix}{H:Hp}{n:Nat}{ob:Obj}{ad:ZE}{kvs:List (AV×AV)}{ks:List aF}(hr:ι.refs[n]?=some ad)(hk:kvs.map (·.1)=ks.map kA)(hs:∀ p∈kvs,∀ x,p.1=.str x->x.length<=sizeLine/\x.cps.all (· < 0x110000)=true):oB T (lV ad ob ks) ι H (kvs.map (·.1)) (Lz n ob kvs):=by
 have at_:∀ {ι':Ix} {h':AH} {H':Hp},Ext ι H ι' H'->Sim T ι' h' H'->Lz n ob kvs h'=true->∃ kus,H' ad=some (.frz ob (.dK kus))/\kus.map (·.1)=ks:=λ{ι' h' H'} x' S' l=>by
  have hy:h'[n]?=some (.dcz ob kvs):=@of_decide_eq_true _ (Classical.propDecidable _) l;obtain⟨u,e1,kus,rfl,r⟩:=S'.obj n _ ad hy (x'.at_ hr);refine⟨kus,e1,?_⟩
  have:∀ {l:List (AV×AV)} {m:List (aF×V)},Paired (λ(p:AV×AV) (q:aF×V)=>p.1=kA q.1/\RV T ι' H' p.2 q.2) l m->l.map (·.1)=(m.map (·.1)).map kA:=by
   intro l m q;induction q with
   |nil=>rfl
   |cons q _ ih=>rw[O8,O8,O8,ih,q.1]
  have z:=(this r).symm.trans hk;exact(List.map_inj_right λa b=>lM).mp z
 constructor
 ·intro i ι' h' H' x x' S' l hx
  obtain⟨kus,e1,hl⟩:=at_ x' S' l;rw[hk,Pr] at hx;obtain⟨k,hki,rfl⟩:=Pd.mp hx
  refine⟨⟨kus,e1,hl,(OS.mp hki).1⟩,?_⟩
  rintro u H2 ⟨rfl,k',hk',rfl⟩
  rw[hki] at hk';cases hk'
  refine⟨S'.refl,S',?_⟩
  cases k with
  |inl j=>exact .int j
  |inr x =>
   have:AV.str x∈kvs.map (·.1):=by rw[hk];exact Qk.mpr ⟨_,Pm hki,rfl⟩
   obtain⟨p,hp,ep⟩:=Qk.mp this;exact .str (hs p hp x ep).1 (hs p hp x ep).2
 ·intro i ι' h' H' x' S' l hi
  obtain⟨kus,e1,hl⟩:=at_ x' S' l;exact⟨kus,e1,hl,by rw[hk,O2] at hi;exact hi⟩
def Kg{h:AH}{n:Nat}{o:AO}(o':AO)(e:h[n]?=some o):(h.set n o').set n o=h:=by
 rw[T9];refine Ua λj=>?_
 by_cases z:n=j
 ·subst z
  rw[OY (OS.mp e).1,e]
 ·rw[OU z]
def Kh(C:CompOk X [x₁] jf scope)(hcalm:X.calm=true)(ha:aD T EN X iter (aa i))(hc:∀ pins cl s H fp,jr (cz X pins [x₁] jf scope cl s H fp) ifs (tT T EN cc))(he:∀ pins cl s H fp,aD T EN (cz X pins [x₁] jf scope cl s H fp) elt ce)
  (hs:autoParam (∀ x,foldedSetIterable iter X.env x=pure x) L2.Ez._auto_1):aD T E X (.ListComp elt [⟨.Name x₁ px,iter,ifs,0⟩] scope pos) (lW (jf.map (·.1)) i cc ce) :=(
 bO (Kd hcalm (λ_ _ _ _ _=>C.pg 0 rfl (.head _)) ha hc he C hs) λσ H Q=>E6x λι h en S er q=>by
  unfold lW at q;split at q
  ·rename_i n en1
   split at q
   ·rename_i kvs hn
    split at q
    ·rename_i p
     obtain⟨ks,go⟩:=p.choose_spec;generalize p.choose=ys at ks go q
     have hlt:n<h.length:=(OS.mp hn).1;obtain⟨ad,u,hr,ea,kus,rfl,r⟩:=S.at hn;refine⟨ad,kus,ea,λob=>?_⟩
     have G:=S.growSet (u:=.frz ob (.dK kus)) hr;have S1:Sim T ι (h.set n (.dcz ob kvs)) (upd H ad (.frz ob (.dK kus))):=S.set hr ⟨kus,rfl,Paired.mapP r λ_ _ ⟨a,b⟩=>⟨a,b.mono G⟩⟩;refine⟨ι,_,en,S1,er.mono G,?_⟩
     unfold aa;rw[en1];intro ι1 H1 u1 g1 S2 r1
     cases r1 with
     |@ref _ ad' hr' =>
      have:ad'=ad:=by
       have:=g1.at hr;rw[this] at hr';exact(Pp hr').symm
      subst this;obtain⟨u2,e2,kus1,rfl,r2⟩:=S2.obj n _ _ (OY hlt) hr'
      refine⟨_,ob,kus1,rfl,e2,zD uS (er.mono G) g1 S2 (Kf hr' ?_ ks) ?_⟩
      ·have:∀ {l:List (AV×AV)} {m:List (aF×V)},Paired (λ(p:AV×AV) (q:aF×V)=>p.1=kA q.1/\RV T ι1 H1 p.2 q.2) l m->l.map (·.1)=(m.map (·.1)).map kA:=by
        intro l m q;induction q with
        |nil=>rfl
        |cons q _ ih=>rw[O8,O8,O8,ih,q.1]
       exact this r2
      ·rw[go ob]
       intro ι' H' D vs g S' rv hD nD _;have hr2:ι'.refs[n]?=some ad':=g.at hr;obtain⟨u3,e3,kus3,rfl,r3⟩:=S'.show.obj n _ _ (OY hlt) hr2;refine⟨kus3,e3,?_⟩
       have G2:=S'.show.growSet (u:=.dK kus3) hr2;have S3:Sim T ι' h (upd H' ad' (.dK kus3)):=by
        have z:=S'.show.set (o:=.dct false kvs) (u:=.dK kus3) hr2 ⟨kus3,rfl,Paired.mapP r3 λ_ _ ⟨a,b⟩=>⟨a,b.mono G2⟩⟩;rwa[Kg _ hn] at z
       exact q ι' _ _ ((G.trans g).trans G2) S3 ((RV.fl nD (.inl hD) (rv.ext Ext.show)).mono G2)
    ·exact q.elim
   ·exact q.elim
  ·exact q.elim)
variable{a b:Expr}{sa sb:SE}
def Ki(hu:X.A.units+64<cLine)(ha:aD T E X a sa)(hb:aD T E X b sb)(hs:autoParam (qj b) aZ._auto_1):aD T E X (.Subscript a b pos) (ag g9 sa sb):=by
 refine bO (yC (O7 (Pg (by decide:1<=64) _) hu) ha hb hs) λσ H Q q=>?_
 obtain⟨ι,h,en,S,er,q⟩:=q;refine⟨ι,h,en,S,er,q.bind λx h1 ι1 H1 u g1 S1 r1 q1=>⟨ι1,h1,en,S1,er.mono g1,q1.bind λy h2 ι2 H2 w g2 S2 r2 q2=>?_⟩⟩
 have r1':=r1.mono g2;unfold g9 at q2;split at q2
 ·rename_i n
  split at q2
  ·rename_i ob kvs hn
   split at q2
   ·rename_i hk
    cases r1' with
    |@ref _ ad hr =>
     obtain⟨o,e1,kus,rfl,r⟩:=S2.obj n _ ad hn hr;obtain⟨k,ek⟩:=Pi.mp hk;have:=oE ek;subst this;have dg:DGet H2 ad w (bF kus k):=.inl ⟨kus,k,.inr ⟨ob,e1⟩,oC r2,rfl⟩
     rcases mY lM r (k:=k) with⟨h1,h2⟩|⟨v',u',h1,h2,h3⟩
     ·rw[h1] at q2;exact q2.elim
     ·rw[h1] at q2
      rw[h2] at dg;exact⟨ad,u',rfl,dg,q2.now S2 h3⟩
   ·exact q2.elim
  ·exact q2.elim
 ·exact q2.elim
end
end Sm
set_option maxHeartbeats 4000000
namespace L2
open PySem PySem.Spec PyProof.Rows PySem.SeqAt
section
variable{X:Cx}
def Kj(hu:X.A.units+64<cLine):OpR X (compareOp .Eq) (λx y H Q=>∃ a b xs,x=.ref a/\y=.ref b/\SqL X.K H a xs/\SqL X.K H b []/\Q (.bl xs.isEmpty) H):=by
 intro pins s σ H x y v u Q I rx ry h;obtain⟨a,b,xs,rfl,rfl,h1,h2,q⟩:=h
 cases rx
 cases ry
 obtain⟨its,r,pl,hz⟩:=I.list h1;obtain⟨its2,r2,pl2,hz2⟩:=I.list h2;have e2:its2.length=0:=r2.length.symm;have e1:xs.length=its.length:=r.length;by_cases e:its.length=0
 ·have z:=RcAt.lists (A:=X.A) (e:=λ_=>true) pl.isList pl2.isList (by simp[e,e2]) ⋯ (λj h1 _=>absurd h1 (by simp[e]))
  have z2:((List.range its.toArray.size).all λ_=>true)=true:=by simp
  rw[z2] at z;refine z X.prog X.w X.xe _ ⟨.bl _,H,I,rfl,?_⟩
  have:xs=[]:=P5.mp (e1.trans e)
  subst this;exact q
 ·have z:=RcAt.lists_lengths (A:=X.A) pl.isList pl2.isList (by simp[e2];exactλz=>e (by rw[z];rfl)) ⋯
  refine z X.prog X.w X.xe _ ⟨.bl _,H,I,rfl,?_⟩
  have:xs.isEmpty=false:=by
   cases xs with
   |nil=>exact absurd e1.symm e
   |cons _ _=>rfl
  rw[this] at q;exact q
end
end L2
namespace Sm
open PySem PySem.Spec L2 PyProof.Rows
def iF:F2:=λx y h=>match x,y with
 |.ref n,.fl []=>(match h[n]? with
  |some (.lst xs)=>.ok (.bl xs.isEmpty) h
  |_=>.bad)
 |_,_=>.bad
section
variable{T:Tb}
def An{X:Cx}(hK:X.K=T.K)(hu:X.A.units+64<cLine):Op T X (compareOp .Eq) iF:=by
 refine⟨_,Kj hu,λι h H x y u w E Q S rx ry p=>?_⟩
 unfold iF at p;split at p
 ·rename_i n
  split at p
  ·rename_i xs hn
   cases rx with
   |@ref _ ad hr =>
    obtain⟨o,e1,us,rfl,rs⟩:=S.obj n _ ad hn hr;obtain⟨b,us2,rfl,sq,rs2⟩:=fR S ry rfl
    cases rs2
    refine⟨ad,b,us,rfl,rfl,.inl (.inl e1),hK▸sq,?_⟩
    have:us.isEmpty=xs.isEmpty:=by
     have:=rs.length
     cases us<;>cases xs<;>simp at this ⊢
    rw[this];exact p.now S (.bl _)
  ·exact p.elim
 ·exact p.elim
end
end Sm
namespace Sk
open PySem PySem.Spec L2 Sm
section
abbrev vz:Nat:=0
abbrev vA:Nat:=1
abbrev kE:Nat:=2
abbrev d5:Nat:=3
abbrev vB:Nat:=4
def rk(c:Nat):Bool:=[true,false,false,false,false].getD c false
def rm(c:Nat):Bool:=[false,true,false,false,false].getD c false
def lX(c:Nat):Bool:=[false,false,false,true,false].getD c false
def oR(c:Nat):Bool:=[false,false,true,false,false].getD c false
def nz(c:Nat):Bool:=[true,false,false,false,false].getD c false
def vC(c:Nat):Bool:=[false,false,false,false,true].getD c false
def rn(c:Nat):Bool:=[false,true,false,false,false].getD c false
def vD:Fn:=aw 1 1
  (ai (gR 0 0 (aa 0) (fW af))
  (ai (gR 0 1 (aa 0) (lC true))
  (ai (gR 0 2 (aa 0) (fW (ah (ae (.int 0)) af)))
  (ai (gR 0 3 (aa 0) (fW (ah (ae (.int 0)) af)))
  (ai (gR 0 4 (aa 0) (fW (ah (ae (.int 0)) af)))
  (ai (gR 0 5 (aa 0) (fW (ah (dJ bH (ae (.int 1))) af)))
  (ai (gR 0 6 (aa 0) (fW (ah (ae (.int 0)) af)))
  (gR 0 7 (aa 0) (fW (ah (ae (.int 0)) af))))))))))
def nA:Fn:=aw 1 1
  (ai (gR 1 0 (aa 0) (mS 0 8 vD af))
  (ai (gR 1 1 (aa 0) (lC false))
  (ai (gR 1 2 (aa 0) (fW af))
  (gR 1 3 (aa 0) (fW af)))))
def rp:Fn:=aw 2 3
  (ai (ar 2 (ag bG (ag bj (ag az (ag az (ag bG (aa 0) (ae (.int 1000000007))) (ag bj (ae (.int 7919)) (aa 1))) (ae (.int 101))) (ae (.int 48271))) (ae (.int 2147483647))))
  (ao (ag bG (ag bj (ag bG (ag bj (aa 2) (aa 2)) (ae (.int 2147483629))) (ae (.int 69621))) (ae (.int 2147483647)))))
def nB:SS :=ar 2 (ag az (ag bj (aa 2) (ag bj (ag bY (ae (.int 10)) (ae (.int 60))) (ag bY (ae (.int 10)) (ae (.int 60))))) (ag bG (ag aj (aa 0) (aa 3)) (ag bj (ag bY (ae (.int 10)) (ae (.int 60))) (ag bY (ae (.int 10)) (ae (.int 60))))))
def nC:SS :=ar 4 (ag az (ag bj (aa 4) (ae (.int 2147483647))) (au rp (ah (ag az (ag az (aa 2) (ag bj (ae (.int 1009)) (aa 1))) (au aI (ah (aa 0) af))) (ah (aa 3) af))))
def lY:Fn:=aw 2 5
  (ai (ar 2 (ae (.int 0)))
  (ai (df (jJ (aa 1) (au aI (ah (aa 0) af)) (ae (.int 8))) (.nm 3) nB)
  (ai (aG (aE (ag kj (aa 2) (ag bY (ae (.int 10)) (ae (.int 18))))) (ao (fW (ah (aa 2) af))) aH)
  (ai (ar 2 (ag az (aa 2) (au gW (ah (dW [] (dM (aa 0)) aY (ag bG (aa 0) (ag bY (ae (.int 10)) (ae (.int 18))))) af))))
  (ai (ar 4 (ae (.int 0)))
  (ai (df (iZ (ae (.int 16))) (.nm 3) nC)
  (ao (fW (ah (aa 4) af)))))))))
def aS:Fn:=aw 2 3
  (ai (ar 2 (ag bG (ag aj (aa 0) (ae (.int 0))) (aa 1)))
  (ai (fX (aa 0) (ae (.int 0)) (ag cJ (ag aj (aa 0) (ae (.int 0))) (aa 1)))
  (ao (aa 2))))
def fH:Fn:=aw 3 6
  (ai (ar 3 (lU (aa 1)))
  (ai (ar 4 (au aS (ah (aa 0) (ah (ae (.int 8)) af))))
  (ai (aG (aE (ag ay (aa 4) (ae (.int 0)))) (ao (ag aj (aa 2) (au aS (ah (aa 0) (ah (au aI (ah (aa 2) af)) af))))) aH)
  (ai (aG (ot (aE (ag cP (aa 4) (ae (.int 3)))) (aE (ag ay (aa 3) (aJ af)))) (ai (aG (aE (ag ay (au aS (ah (aa 0) (ah (ae (.int 3)) af))) (ae (.int 0)))) (ai (ar 5 (ae (.str "abcdefghijklmnopqrstuvwxyz")))
  (ao (cW lF mU (ae (.str "")) (ah (dW [5,0] (iZ (ag az (ae (.int 1)) (au aS (ah (aa 0) (ah (ae (.int 8)) af))))) aY (ag aj (aa 1) (au aS (ah (aa 2) (ah (ae (.int 26)) af))))) af)))) aH)
  (ao (ag aj (aJ (ah (ae (.str "a")) (ah (ae (.str "ab")) (ah (ae (.str "b")) (ah (ae (.str "abcdefgh")) (ah (ae (.str "zz")) (ah (ae (.str "q")) af))))))) (au aS (ah (aa 0) (ah (ae (.int 6)) af)))))) aH)
  (ao (ag aj (aa 3) (au aS (ah (aa 0) (ah (au aI (ah (aa 3) af)) af)))))))))
def lZ:SS :=ar 5 (ag az (aa 5) (ag aj (aa 4) (au aS (ah (aa 0) (ah (au aI (ah (aa 4) af)) af)))))
def nE:Fn:=aw 2 7
  (ai (ar 2 (ae (.str "abcdefghijklmnopqrstuvwxyz")))
  (ai (ar 3 (ag az (ag az (aa 2) (dY lF qX (aa 2))) (ae (.str " !\"#$&'()*+,-./0123456789:;<=>?\x40[\\]^_`{|}~\n"))))
  (ai (ar 4 (ag aj (aJ (ah (ae (.str "ab")) (ah (ae (.str "aaab")) (ah (ae (.str "a\n")) (ah (ae (.str "ab \n")) (ah (aa 3) af)))))) (au aS (ah (aa 0) (ah (ae (.int 5)) af)))))
  (ai (ar 5 (ae (.str "")))
  (ai (df (iZ (au aS (ah (aa 0) (ah (ag az (aa 1) (ae (.int 1))) af)))) (.nm 6) lZ)
  (ao (aa 5)))))))
def nF:Fn:=aw 2 7
  (ai (ar 2 (aJ (ah (ae (.str "")) (ah (ae (.str "A")) (ah (ae (.str "abcdefghi")) (ah (ae (.str "a1")) (ah (ae (.str "a ")) (ah (ae .non) (ah (ae (.int 7)) (ah (ae (.bl true)) (ah (aJ (ah (ae (.str "a")) af)) (ah (aN (ah (ae (.str "a")) af)) (ah (lC false) af)))))))))))))
  (ai (ar 3 (au fH (ah (aa 0) (ah (aa 1) (ah (aa 2) af)))))
  (ai (aG (aE (ag ay (au aS (ah (aa 0) (ah (ae (.int 3)) af))) (ae (.int 0)))) (ai (ar 4 (au fH (ah (aa 0) (ah (aa 1) (ah (aJ (ah (ae (.str "")) (ah (ae (.str "A")) (ah (ae (.str "none")) af)))) af)))))
  (ai (ar 5 (ag aj (aJ (ah (ae (.str "")) (ah (ae (.str "NoName")) af))) (au bp (ah (fz (ag dQ (aa 3) (aa 2)) (ag cU (aa 4) (aa 1))) af))))
  (ao (aN (ah (aN (ah (ae (.str "copy_of")) (ah (aa 3) (ah (aa 4) af)))) (ah (aa 5) (ah (fG (aa 1) (aa 4) (ae (.str ""))) af))))))) aH)
  (ai (ar 6 (au nE (ah (aa 0) (ah (ae (.int 30)) af))))
  (ai (aG (aE (ag ay (au aS (ah (aa 0) (ah (ae (.int 10)) af))) (ae (.int 0)))) (ar 6 (ag aj (aJ (ah (ae .non) (ah (ae (.int 7)) (ah (ae (.str "a\t")) (ah (aJ (ah (ae (.str "a")) af)) (ah (ae (.bl true)) (ah (ae (.str "\t")) af))))))) (au aS (ah (aa 0) (ah (ae (.int 6)) af))))) aH)
  (ai (ar 5 (ag aj (aJ (ah (ae (.str "")) (ah (ae (.str "NoText")) af))) (au bp (ah (fz (jy (fC "str" (aa 6))) (ag qB (ae (.str "\t")) (aa 6))) af))))
  (ai (aG (aE (ag dQ (aa 3) (aa 2))) (ar 5 (ae (.str "NoName"))) aH)
  (ao (aN (ah (aN (ah (ae (.str "give")) (ah (aa 3) (ah (aa 6) af)))) (ah (aa 5) (ah (aa 6) af))))))))))))
def nG:Fn:=aw 2 13
  (ai (ar 2 (au aS (ah (aa 0) (ah (ae (.int 4)) af))))
  (ai (ar 3 (au fH (ah (aa 0) (ah (aa 1) (ah (aJ (ah (ae (.str "")) (ah (ae (.str "A")) (ah (ae (.str "none")) af)))) af)))))
  (ai (ar 4 (au fH (ah (aa 0) (ah (aa 1) (ah (aJ (ah (ae (.str "")) (ah (ae (.str "A")) (ah (ae (.str "none")) af)))) af)))))
  (ai (ar 5 (fG (aa 1) (aa 3) (ae (.str ""))))
  (ai (ar 6 (fG (aa 1) (aa 4) (ae (.str ""))))
  (ai (ar 7 (ag aj (aJ (ah (ae (.str "")) (ah (ae (.str "NoName")) af))) (au bp (ah (ag cU (aa 3) (aa 1)) af))))
  (ai (ar 8 (ag aj (aJ (ah (ae (.str "")) (ah (ae (.str "NoName")) af))) (au bp (ah (fz (ag cU (aa 3) (aa 1)) (ag cU (aa 4) (aa 1))) af))))
  (ai (ar 9 (ag bM (au aS (ah (aa 0) (ah (ag az (au aI (ah (aa 5) af)) (ae (.int 3))) af))) (ae (.int 1))))
  (ai (ar 10 (ag bM (au aS (ah (aa 0) (ah (ag az (au aI (ah (aa 5) af)) (ae (.int 3))) af))) (ae (.int 1))))
  (ai (aG (aE (ag ay (aa 2) (ae (.int 0)))) (ao (aN (ah (aN (ah (ae (.str "join_to")) (ah (aa 3) (ah (aa 4) af)))) (ah (aa 8) (ah (ag az (aa 5) (aa 6)) af))))) aH)
  (ai (aG (aE (ag ay (aa 2) (ae (.int 1)))) (ai (ar 11 (fZ (aa 8) (ag aj (aJ (ah (ae (.str "")) (ah (ae (.str "NoPlace")) af))) (au bp (ah (jy (fk bc bc (ae (.int 0)) (aa 9) (au aI (ah (aa 5) af)))) af)))))
  (ao (aN (ah (aN (ah (ae (.str "put_into")) (ah (aa 3) (ah (aa 9) (ah (aa 4) af))))) (ah (aa 11) (ah (ag az (ag az (bZ (aa 5) none (some (au fB (ah (ae (.int 0)) (ah (aa 9) af))))) (aa 6)) (bZ (aa 5) (some (au fB (ah (ae (.int 0)) (ah (aa 9) af)))) none)) af)))))) aH)
  (ai (aG (aE (ag ay (aa 2) (ae (.int 2)))) (ai (ar 11 (fZ (aa 7) (ag aj (aJ (ah (ae (.str "")) (ah (ae (.str "NoPlace")) af))) (au bp (ah (jy (i8 bc bc bc (ae (.int 0)) (aa 9) (aa 10) (au aI (ah (aa 5) af)))) af)))))
  (ao (aN (ah (aN (ah (ae (.str "take_from")) (ah (aa 3) (ah (aa 9) (ah (aa 10) af))))) (ah (aa 11) (ah (ag az (bZ (aa 5) none (some (au fB (ah (ae (.int 0)) (ah (aa 9) af))))) (bZ (aa 5) (some (au fB (ah (ae (.int 0)) (ah (aa 10) af)))) none)) af)))))) aH)
  (ai (ar 12 (ag aj (aJ (ah (ae (.int 0)) (ah (ae (.int 1)) (ah (ae (.int 2)) (ah (ae (.int 3)) (ah (dJ bH (ae (.int 1))) (ah (ag az (ag cJ (ag bY (ae (.int 10)) (ae (.int 18))) (au fB (ah (ae (.int 1)) (ah (au aI (ah (aa 5) af)) af)))) (ae (.int 1))) af))))))) (au aS (ah (aa 0) (ah (ae (.int 6)) af)))))
  (ai (ar 11 (fZ (aa 7) (fZ (ag aj (aJ (ah (ae (.str "")) (ah (ae (.str "NoPlace")) af))) (au bp (ah (ag cP (aa 12) (ae (.int 0))) af))) (ag aj (aJ (ah (ae (.str "")) (ah (ae (.str "TooLong")) af))) (au bp (ah (kq (ag fy (aa 12) (ae (.int 3))) (ag eF (aa 5) (ae (.str "")))) af))))))
  (ao (aN (ah (aN (ah (ae (.str "repeat")) (ah (aa 3) (ah (aa 12) af)))) (ah (aa 11) (ah (ag oK (aa 5) (au mT (ah (ae (.int 3)) (ah (au fB (ah (ae (.int 0)) (ah (aa 12) af))) af)))) af)))))))))))))))))))
def rq:Fn:=aw 2 9
  (ai (ar 2 (au aS (ah (aa 0) (ah (ae (.int 8)) af))))
  (ai (aG (aE (ag ay (aa 2) (ae (.int 0)))) (ai (ar 3 (au fH (ah (aa 0) (ah (aa 1) (ah (aJ (ah (ae (.str "")) (ah (ae (.str "A")) (ah (ae (.str "none")) af)))) af)))))
  (ai (aG (aE (ag cU (aa 3) (aa 1))) (ao (aN (ah (aN (ah (ae (.str "drop")) (ah (aa 3) af))) (ah (ae (.str "NoName")) (ah (aa 1) af))))) aH)
  (ai (ar 4 (au kB (ah (aa 1) af)))
  (ai (bh (ja (aa 4) (aa 3)))
  (ao (aN (ah (aN (ah (ae (.str "drop")) (ah (aa 3) af))) (ah (ae (.str "")) (ah (aa 4) af))))))))) aH)
  (ai (uG (.tup [5,6,7]) (gZ nF nG (au bp (ah (ag fy (aa 2) (ae (.int 3))) af)) (ah (aa 0) (ah (aa 1) af))))
  (ai (aG (iA (aE (ag ay (aa 6) (ae (.str "")))) (aE (ag fy (au aI (ah (aa 7) af)) (ae (.int 300))))) (rj 5 6 7 (ah (aN (ah (ae (.str "give")) (ah (ag aj (aa 5) (ae (.int 1))) (ah (ae (.str "long")) af)))) (ah (ae (.str "")) (ah (ae (.str "long")) af)))) aH)
  (ai (ar 8 (au kB (ah (aa 1) af)))
  (ai (aG (aE (ag ay (aa 6) (ae (.str "")))) (fX (aa 8) (ag aj (aa 5) (ae (.int 1))) (aa 7)) aH)
  (ao (aN (ah (aa 5) (ah (aa 6) (ah (aa 8) af)))))))))))
def jP:Fn:=aw 1 1
  (ao (au aI (ah (Sm.sFld 0 0 (aa 0)) af)))
def iG:Fn:=aw 3 3
  (aG (aE (ag jw (aa 2) (ae .non))) (bh (ja (Sm.sFld 1 1 (aa 0)) (aa 1))) (fX (Sm.sFld 1 1 (aa 0)) (aa 1) (aa 2)))
def kF:Fn:=aw 1 2
  (ai (aG (aE (ag ay (Sm.sFld 1 2 (aa 0)) (aJ af))) (gT 4 (ah (ae (.str "there is no deed to take back")) af)) aH)
  (ai (ar 1 (dY aW bI (Sm.sFld 1 2 (aa 0))))
  (ai (bh (cW aW bP (Sm.sFld 1 3 (aa 0)) (ah (aa 1) af)))
  (bh (aB 1 iG (aa 0) (ah (ag aj (aa 1) (ae (.int 0))) (ah (ag aj (aa 1) (ae (.int 1))) af)))))))
def gj:Fn:=aw 1 1
  (ai (aG (c9 (iz (fC "str" (aa 0)))) (ao (ae (.bl false))) aH)
  (ao (kq (fk bc bc (ae (.int 1)) (au aI (ah (aa 0) af)) (ae (.int 8))) (au eJ (ah (dW [] (dM (aa 0)) aY (fk bc bc (ae (.str "a")) (aa 0) (ae (.str "z")))) af)))))
def iH:Fn:=aw 1 1
  (aG (c9 (iz (au gj (ah (aa 0) af)))) (gT 3 (ah (ae (.str "a name has one to eight small letters")) af)) aH)
def bV:Fn:=aw 3 3
  (ai (bh (cW aW bP (Sm.sFld 1 2 (aa 0)) (ah (aN (ah (aa 1) (ah (oO (Sm.sFld 1 1 (aa 0)) (aa 1)) (ah (aa 2) af)))) af)))
  (ai (bh (dY aW i9 (Sm.sFld 1 3 (aa 0))))
  (bh (aB 1 iG (aa 0) (ah (aa 1) (ah (aa 2) af))))))
def rA:Fn:=aw 1 1
  (ao (kq (fC "int" (aa 0)) (jy (fC "bool" (aa 0)))))
def rB:Fn:=aw 2 2
  (ao (kq (au rA (ah (aa 1) af)) (fk bc bc (ae (.int 1)) (aa 1) (au aI (ah (Sm.sFld 0 0 (aa 0)) af)))))
def l9:Fn:=aw 2 2
  (aG (c9 (iz (aB 0 rB (aa 0) (ah (aa 1) af)))) qZ aH)
def oS:Fn:=aw 3 4
  (ai (bh (aB 0 l9 (aa 0) (ah (aa 1) af)))
  (ai (bh (aB 0 l9 (aa 0) (ah (aa 2) af)))
  (ai (ar 3 (ag az (ag aj (Sm.sFld 0 2 (aa 0)) (ag aj (Sm.sFld 0 7 (aa 0)) (aa 1))) (ag aj (Sm.sFld 0 2 (aa 0)) (ag aj (Sm.sFld 0 6 (aa 0)) (aa 2)))))
  (ai (aG (aE (ag bc (aa 3) (ae (.int 8)))) qZ aH)
  (ai (aG (aE (ag fy (au lD (ah (ag bM (ag aj (Sm.sFld 0 5 (aa 0)) (aa 1)) (ag aj (Sm.sFld 0 5 (aa 0)) (aa 2))) af)) (ae (.int 1)))) qZ aH)
  (aG (aE (ag fy (ag az (ag aj (Sm.sFld 0 2 (aa 0)) (aa 1)) (ag aj (Sm.sFld 0 2 (aa 0)) (aa 2))) (ae (.int 1000000000000000000)))) (gT 1 (ah (ae (.str "the fork would have more than 10 ** 18 signs")) af)) aH))))))
def oT:Fn:=aw 2 3
  (ai (bh (cW aW bP (Sm.sFld 0 0 (aa 0)) (ah (aa 1) af)))
  (ai (ar 2 (au aI (ah (Sm.sFld 0 0 (aa 0)) af)))
  (ai (fX (Sm.sFld 0 1 (aa 0)) (aa 1) (aa 2))
  (ao (aa 2)))))
def oU:Fn:=aw 2 4
  (ai (bh (aB 0 oT (aa 0) (ah (aa 1) af)))
  (ai (ar 2 (ag aj (aa 1) (ae (.int 1))))
  (ai (ar 3 (ag aj (aa 1) (ae (.int 2))))
  (ai (bh (cW aW bP (Sm.sFld 0 2 (aa 0)) (ah (ag az (ag aj (Sm.sFld 0 2 (aa 0)) (aa 2)) (ag aj (Sm.sFld 0 2 (aa 0)) (aa 3))) af)))
  (ai (bh (cW aW bP (Sm.sFld 0 3 (aa 0)) (ah (ag az (ag aj (Sm.sFld 0 3 (aa 0)) (aa 2)) (ag aj (Sm.sFld 0 3 (aa 0)) (aa 3))) af)))
  (ai (bh (cW aW bP (Sm.sFld 0 4 (aa 0)) (ah (ag az (ag aj (Sm.sFld 0 4 (aa 0)) (aa 2)) (ag aj (Sm.sFld 0 4 (aa 0)) (aa 3))) af)))
  (ai (bh (cW aW bP (Sm.sFld 0 5 (aa 0)) (ah (ag az (au fB (ah (ag aj (Sm.sFld 0 5 (aa 0)) (aa 2)) (ah (ag aj (Sm.sFld 0 5 (aa 0)) (aa 3)) af))) (ae (.int 1))) af)))
  (ai (bh (cW aW bP (Sm.sFld 0 6 (aa 0)) (ah (ag aj (Sm.sFld 0 6 (aa 0)) (aa 2)) af)))
  (bh (cW aW bP (Sm.sFld 0 7 (aa 0)) (ah (ag aj (Sm.sFld 0 7 (aa 0)) (aa 3)) af)))))))))))
def aV:Fn:=aw 3 4
  (ai (bh (aB 0 oS (aa 0) (ah (aa 1) (ah (aa 2) af))))
  (ai (ar 3 (aN (ah (ae (.str "fork")) (ah (aa 1) (ah (aa 2) af)))))
  (ai (aG (aE (ag cU (aa 3) (Sm.sFld 0 1 (aa 0)))) (bh (aB 0 oU (aa 0) (ah (aa 3) af))) aH)
  (ao (ag aj (Sm.sFld 0 1 (aa 0)) (aa 3))))))
def vE(G:Fn):Fn:=aw 2 3
  (ai (aG (aE (ag ay (au aI (ah (aa 1) af)) (ae (.int 1)))) (ao (ag aj (aa 1) (ae (.int 0)))) aH)
  (ai (ar 2 (ag cJ (au aI (ah (aa 1) af)) (ae (.int 2))))
  (ao (aB 0 aV (aa 0) (ah (au G (ah (aa 0) (ah (bZ (aa 1) none (some (aa 2))) af))) (ah (au G (ah (aa 0) (ah (bZ (aa 1) (some (aa 2)) none) af))) af))))))
def ie:Nat->Fn
 |0=>aw 2 3 (λ_ _=>.bad)
 |d+1=>vE (ie d)
def oV:Fn:=aw 1 1
  (ao (fz (ag ay (aa 0) (ae (.str "\n"))) (fk bc bc (ae (.str " ")) (aa 0) (ae (.str "~")))))
def iI:Fn:=aw 1 1
  (ai (aG (c9 (iz (fC "str" (aa 0)))) (ao (ae (.bl false))) aH)
  (ao (au eJ (ah (dW [] (dM (aa 0)) aY (au oV (ah (aa 0) af))) af))))
def rC:Fn:=aw 1 1
  (ao (kq (au iI (ah (aa 0) af)) (fk bc bc (ae (.int 1)) (au aI (ah (aa 0) af)) (ae (.int 8)))))
def rD:Fn:=aw 1 1
  (ao (cW lF uH (aa 0) (ah (ae (.str "\n")) af)))
def oW:Fn:=aw 2 4
  (ai (ar 2 (aB 0 oT (aa 0) (ah (aa 1) af)))
  (ai (ar 3 (ag aj (aa 1) (ae (.int 1))))
  (ai (bh (cW aW bP (Sm.sFld 0 2 (aa 0)) (ah (au aI (ah (aa 3) af)) af)))
  (ai (bh (cW aW bP (Sm.sFld 0 3 (aa 0)) (ah (au rD (ah (aa 3) af)) af)))
  (ai (bh (cW aW bP (Sm.sFld 0 4 (aa 0)) (ah (ae (.int 1)) af)))
  (ai (bh (cW aW bP (Sm.sFld 0 5 (aa 0)) (ah (ae (.int 0)) af)))
  (ai (bh (cW aW bP (Sm.sFld 0 6 (aa 0)) (ah (aa 2) af)))
  (bh (cW aW bP (Sm.sFld 0 7 (aa 0)) (ah (aa 2) af))))))))))
def eh:Fn:=aw 2 3
  (ai (aG (c9 (iz (au rC (ah (aa 1) af)))) (gT 0 (ah (ae (.str "a leaf is a plain text of one to eight signs")) af)) aH)
  (ai (ar 2 (aN (ah (ae (.str "leaf")) (ah (aa 1) af))))
  (ai (aG (aE (ag cU (aa 2) (Sm.sFld 0 1 (aa 0)))) (bh (aB 0 oW (aa 0) (ah (aa 2) af))) aH)
  (ao (ag aj (Sm.sFld 0 1 (aa 0)) (aa 2))))))
def jd:Fn:=aw 2 3
  (ai (aG (c9 (iz (au iI (ah (aa 1) af)))) (gT 0 (ah (ae (.str "a text is built of a plain text")) af)) aH)
  (ai (aG (aE (ag fy (au aI (ah (aa 1) af)) (ae (.int 10000)))) (gT 1 (ah (ae (.str "a text is built of ten thousand signs at most")) af)) aH)
  (ai (aG (aE (ag ay (aa 1) (ae (.str "")))) (ao (ae (.int 0))) aH)
  (ai (ar 2 (dW [0,1] (jJ (ae (.int 0)) (au aI (ah (aa 1) af)) (ae (.int 8))) aY (aB 0 eh (aa 1) (ah (bZ (aa 2) (some (aa 0)) (some (ag az (aa 0) (ae (.int 8))))) af))))
  (ao (au (ie 20) (ah (aa 0) (ah (aa 2) af))))))))
def jQ:Fn:=aw 3 3
  (ai (bh (au iH (ah (aa 1) af)))
  (bh (aB 1 bV (aa 0) (ah (aa 1) (ah (au jd (ah (Sm.sFld 1 0 (aa 0)) (ah (aa 2) af))) af)))))
def bx:Fn:=aw 2 2
  (ai (aG (ot (c9 (iz (au gj (ah (aa 1) af)))) (aE (ag cU (aa 1) (Sm.sFld 1 1 (aa 0))))) (gT 3 (ah (ae (.str "this name is not there")) af)) aH)
  (ao (ag aj (Sm.sFld 1 1 (aa 0)) (aa 1))))
def jR:Fn:=aw 3 3
  (ai (bh (au iH (ah (aa 1) af)))
  (bh (aB 1 bV (aa 0) (ah (aa 1) (ah (aB 1 bx (aa 0) (ah (aa 2) af)) af)))))
def jS:Fn:=aw 1 1
  (aG (aE (ag fy (aa 0) (ae (.int 1000000000000000000)))) (gT 1 (ah (ae (.str "the text would have more than 10 ** 18 signs")) af)) aH)
def kH:Fn:=aw 2 2
  (aG (aE (ag eF (aa 1) (ae (.int 0)))) (bh (aB 0 l9 (aa 0) (ah (aa 1) af))) aH)
def eT:Fn:=aw 2 2
  (ai (bh (aB 0 kH (aa 0) (ah (aa 1) af)))
  (ao (ag aj (Sm.sFld 0 2 (aa 0)) (aa 1))))
def oX:Fn:=aw 2 2
  (ai (bh (aB 0 kH (aa 0) (ah (aa 1) af)))
  (ao (ag aj (Sm.sFld 0 7 (aa 0)) (aa 1))))
def oY:Fn:=aw 2 2
  (ai (bh (aB 0 kH (aa 0) (ah (aa 1) af)))
  (ao (ag aj (Sm.sFld 0 6 (aa 0)) (aa 1))))
def rE:Fn:=aw 3 3
  (ao (ag fy (ag az (aB 0 eT (aa 0) (ah (aB 0 oX (aa 0) (ah (aa 1) af)) af)) (aB 0 eT (aa 0) (ah (aB 0 oY (aa 0) (ah (aa 2) af)) af))) (ae (.int 8))))
def eU:Fn:=aw 2 2
  (ai (bh (aB 0 l9 (aa 0) (ah (aa 1) af)))
  (ao (ag aj (Sm.sFld 0 0 (aa 0)) (ag bM (aa 1) (ae (.int 1))))))
def vF(G:Fn):Fn:=aw 3 4
  (ai (ar 3 (aB 0 eU (aa 0) (ah (aa 1) af)))
  (ai (aG (aE (ag ay (ag aj (aa 3) (ae (.int 0))) (ae (.str "leaf")))) (ao (aa 2)) aH)
  (ao (aB 0 aV (aa 0) (ah (ag aj (aa 3) (ae (.int 1))) (ah (au G (ah (aa 0) (ah (ag aj (aa 3) (ae (.int 2))) (ah (aa 2) af)))) af))))))
def ig:Nat->Fn
 |0=>aw 3 4 (λ_ _=>.bad)
 |d+1=>vF (ig d)
def hE:Fn:=aw 2 2
  (ai (bh (aB 0 kH (aa 0) (ah (aa 1) af)))
  (ao (ag aj (Sm.sFld 0 5 (aa 0)) (aa 1))))
def gD:Fn:=aw 3 7
  (ai (aG (aE (ag cP (ag bM (aB 0 hE (aa 0) (ah (aa 2) af)) (aB 0 hE (aa 0) (ah (aa 1) af))) (ae (.int 2)))) (ao (aB 0 aV (aa 0) (ah (aa 1) (ah (aa 2) af)))) aH)
  (ai (ar 3 (aB 0 eU (aa 0) (ah (aa 2) af)))
  (ai (ar 4 (ag aj (aa 3) (ae (.int 1))))
  (ai (ar 5 (ag aj (aa 3) (ae (.int 2))))
  (ai (aG (aE (ag bc (aB 0 hE (aa 0) (ah (aa 4) af)) (aB 0 hE (aa 0) (ah (aa 5) af)))) (ao (aB 0 aV (aa 0) (ah (aB 0 aV (aa 0) (ah (aa 1) (ah (aa 4) af))) (ah (aa 5) af)))) aH)
  (ai (ar 6 (aB 0 eU (aa 0) (ah (aa 4) af)))
  (ao (aB 0 aV (aa 0) (ah (aB 0 aV (aa 0) (ah (aa 1) (ah (ag aj (aa 6) (ae (.int 1))) af))) (ah (aB 0 aV (aa 0) (ah (ag aj (aa 6) (ae (.int 2))) (ah (aa 5) af))) af))))))))))
def rF(G:Fn):Fn:=aw 2 4
  (ai (ar 2 (aB 0 eU (aa 0) (ah (aa 1) af)))
  (ai (aG (aE (ag ay (ag aj (aa 2) (ae (.int 0))) (ae (.str "leaf")))) (ao (ae (.int 0))) aH)
  (ai (ar 3 (au G (ah (aa 0) (ah (ag aj (aa 2) (ae (.int 1))) af))))
  (ai (aG (aE (ag ay (aa 3) (ae (.int 0)))) (ao (ag aj (aa 2) (ae (.int 2)))) aH)
  (ao (au gD (ah (aa 0) (ah (aa 3) (ah (ag aj (aa 2) (ae (.int 2))) af)))))))))
def fT:Nat->Fn
 |0=>aw 2 4 (λ_ _=>.bad)
 |d+1=>rF (fT d)
def iJ:Fn:=aw 3 7
  (ai (aG (aE (ag cP (ag bM (aB 0 hE (aa 0) (ah (aa 1) af)) (aB 0 hE (aa 0) (ah (aa 2) af))) (ae (.int 2)))) (ao (aB 0 aV (aa 0) (ah (aa 1) (ah (aa 2) af)))) aH)
  (ai (ar 3 (aB 0 eU (aa 0) (ah (aa 1) af)))
  (ai (ar 4 (ag aj (aa 3) (ae (.int 1))))
  (ai (ar 5 (ag aj (aa 3) (ae (.int 2))))
  (ai (aG (aE (ag bc (aB 0 hE (aa 0) (ah (aa 5) af)) (aB 0 hE (aa 0) (ah (aa 4) af)))) (ao (aB 0 aV (aa 0) (ah (aa 4) (ah (aB 0 aV (aa 0) (ah (aa 5) (ah (aa 2) af))) af)))) aH)
  (ai (ar 6 (aB 0 eU (aa 0) (ah (aa 5) af)))
  (ao (aB 0 aV (aa 0) (ah (aB 0 aV (aa 0) (ah (aa 4) (ah (ag aj (aa 6) (ae (.int 1))) af))) (ah (aB 0 aV (aa 0) (ah (ag aj (aa 6) (ae (.int 2))) (ah (aa 2) af))) af))))))))))
def rG(G:Fn):Fn:=aw 3 5
  (ai (ar 3 (ag bM (aB 0 hE (aa 0) (ah (aa 1) af)) (aB 0 hE (aa 0) (ah (aa 2) af))))
  (ai (aG (aE (ag fy (aa 3) (ae (.int 1)))) (ai (ar 4 (aB 0 eU (aa 0) (ah (aa 1) af)))
  (ao (au gD (ah (aa 0) (ah (ag aj (aa 4) (ae (.int 1))) (ah (au G (ah (aa 0) (ah (ag aj (aa 4) (ae (.int 2))) (ah (aa 2) af)))) af)))))) aH)
  (ai (aG (aE (ag cP (aa 3) (dJ bH (ae (.int 1))))) (ai (ar 4 (aB 0 eU (aa 0) (ah (aa 2) af)))
  (ao (au iJ (ah (aa 0) (ah (au G (ah (aa 0) (ah (aa 1) (ah (ag aj (aa 4) (ae (.int 1))) af)))) (ah (ag aj (aa 4) (ae (.int 2))) af)))))) aH)
  (ao (aB 0 aV (aa 0) (ah (aa 1) (ah (aa 2) af)))))))
def fI:Nat->Fn
 |0=>aw 3 5 (λ_ _=>.bad)
 |d+1=>rG (fI d)
def mf:Fn:=aw 3 6
  (ai (ar 3 (ag az (ag aj (aB 0 eU (aa 0) (ah (aB 0 oX (aa 0) (ah (aa 1) af)) af)) (ae (.int 1))) (ag aj (aB 0 eU (aa 0) (ah (aB 0 oY (aa 0) (ah (aa 2) af)) af)) (ae (.int 1)))))
  (ai (ar 4 (au (ig 90) (ah (aa 0) (ah (aa 1) (ah (aB 0 eh (aa 0) (ah (aa 3) af)) af)))))
  (ai (ar 5 (au (fT 90) (ah (aa 0) (ah (aa 2) af))))
  (ai (aG (aE (ag ay (aa 5) (ae (.int 0)))) (ao (aa 4)) aH)
  (ao (au (fI 90) (ah (aa 0) (ah (aa 4) (ah (aa 5) af)))))))))
def bQ:Fn:=aw 3 3
  (ai (bh (au jS (ah (ag az (aB 0 eT (aa 0) (ah (aa 1) af)) (aB 0 eT (aa 0) (ah (aa 2) af))) af)))
  (ai (aG (aE (ag ay (aa 1) (ae (.int 0)))) (ao (aa 2)) aH)
  (ai (aG (aE (ag ay (aa 2) (ae (.int 0)))) (ao (aa 1)) aH)
  (ai (aG (iz (au rE (ah (aa 0) (ah (aa 1) (ah (aa 2) af))))) (ao (au (fI 90) (ah (aa 0) (ah (aa 1) (ah (aa 2) af))))) aH)
  (ao (au mf (ah (aa 0) (ah (aa 1) (ah (aa 2) af)))))))))
def jT:Fn:=aw 3 3
  (bh (aB 1 bV (aa 0) (ah (aa 1) (ah (au bQ (ah (Sm.sFld 1 0 (aa 0)) (ah (aB 1 bx (aa 0) (ah (aa 1) af)) (ah (aB 1 bx (aa 0) (ah (aa 2) af)) af)))) af))))
def kI:Fn:=aw 3 4
  (ai (ar 3 (aB 0 eT (aa 0) (ah (aa 1) af)))
  (aG (c9 (aE (fk bc bc (ae (.int 0)) (aa 2) (aa 3)))) (gT 2 (ah (ae (.str "the text has no such place, and does not end there")) af)) aH))
def mh(G:Fn):Fn:=aw 3 5
  (ai (aG (aE (ag ay (aa 2) (ae (.int 0)))) (ao (ae (.int 0))) aH)
  (ai (aG (aE (ag ay (aa 2) (aB 0 eT (aa 0) (ah (aa 1) af)))) (ao (aa 1)) aH)
  (ai (ar 3 (aB 0 eU (aa 0) (ah (aa 1) af)))
  (ai (aG (aE (ag ay (ag aj (aa 3) (ae (.int 0))) (ae (.str "leaf")))) (ao (aB 0 eh (aa 0) (ah (bZ (ag aj (aa 3) (ae (.int 1))) none (some (aa 2))) af))) aH)
  (ai (ar 4 (aB 0 eT (aa 0) (ah (ag aj (aa 3) (ae (.int 1))) af)))
  (ai (aG (aE (ag bc (aa 2) (aa 4))) (ao (au G (ah (aa 0) (ah (ag aj (aa 3) (ae (.int 1))) (ah (aa 2) af))))) aH)
  (ao (au bQ (ah (aa 0) (ah (ag aj (aa 3) (ae (.int 1))) (ah (au G (ah (aa 0) (ah (ag aj (aa 3) (ae (.int 2))) (ah (ag bM (aa 2) (aa 4)) af)))) af)))))))))))
def dh:Nat->Fn
 |0=>aw 3 5 (λ_ _=>.bad)
 |d+1=>mh (dh d)
def mq(G:Fn):Fn:=aw 3 5
  (ai (aG (aE (ag ay (aa 2) (ae (.int 0)))) (ao (aa 1)) aH)
  (ai (aG (aE (ag ay (aa 2) (aB 0 eT (aa 0) (ah (aa 1) af)))) (ao (ae (.int 0))) aH)
  (ai (ar 3 (aB 0 eU (aa 0) (ah (aa 1) af)))
  (ai (aG (aE (ag ay (ag aj (aa 3) (ae (.int 0))) (ae (.str "leaf")))) (ao (aB 0 eh (aa 0) (ah (bZ (ag aj (aa 3) (ae (.int 1))) (some (aa 2)) none) af))) aH)
  (ai (ar 4 (aB 0 eT (aa 0) (ah (ag aj (aa 3) (ae (.int 1))) af)))
  (ai (aG (aE (ag kj (aa 2) (aa 4))) (ao (au G (ah (aa 0) (ah (ag aj (aa 3) (ae (.int 2))) (ah (ag bM (aa 2) (aa 4)) af))))) aH)
  (ao (au bQ (ah (aa 0) (ah (au G (ah (aa 0) (ah (ag aj (aa 3) (ae (.int 1))) (ah (aa 2) af)))) (ah (ag aj (aa 3) (ae (.int 2))) af)))))))))))
def dq:Nat->Fn
 |0=>aw 3 5 (λ_ _=>.bad)
 |d+1=>mq (dq d)
def je:Fn:=aw 4 6
  (ai (ar 4 (ag az (aB 0 eT (aa 0) (ah (aa 1) af)) (aB 0 eT (aa 0) (ah (aa 3) af))))
  (ai (bh (au kI (ah (aa 0) (ah (aa 1) (ah (aa 2) af)))))
  (ai (bh (au jS (ah (aa 4) af)))
  (ai (ar 5 (au bQ (ah (aa 0) (ah (au (dh 90) (ah (aa 0) (ah (aa 1) (ah (aa 2) af)))) (ah (aa 3) af)))))
  (ao (au bQ (ah (aa 0) (ah (aa 5) (ah (au (dq 90) (ah (aa 0) (ah (aa 1) (ah (aa 2) af)))) af)))))))))
def iK:Fn:=aw 4 4
  (bh (aB 1 bV (aa 0) (ah (aa 1) (ah (au je (ah (Sm.sFld 1 0 (aa 0)) (ah (aB 1 bx (aa 0) (ah (aa 1) af)) (ah (aa 2) (ah (aB 1 bx (aa 0) (ah (aa 3) af)) af))))) af))))
def jU:Fn:=aw 4 5
  (ai (ar 4 (aB 0 eT (aa 0) (ah (aa 1) af)))
  (aG (c9 (aE (i8 bc bc bc (ae (.int 0)) (aa 2) (aa 3) (aa 4)))) (gT 2 (ah (ae (.str "the text has no such stretch")) af)) aH))
def jV:Fn:=aw 4 4
  (ai (bh (au jU (ah (aa 0) (ah (aa 1) (ah (aa 2) (ah (aa 3) af))))))
  (ao (au bQ (ah (aa 0) (ah (au (dh 90) (ah (aa 0) (ah (aa 1) (ah (aa 2) af)))) (ah (au (dq 90) (ah (aa 0) (ah (aa 1) (ah (aa 3) af)))) af))))))
def jW:Fn:=aw 4 4
  (bh (aB 1 bV (aa 0) (ah (aa 1) (ah (au jV (ah (Sm.sFld 1 0 (aa 0)) (ah (aB 1 bx (aa 0) (ah (aa 1) af)) (ah (aa 2) (ah (aa 3) af))))) af))))
def rH(G:Fn):Fn:=aw 3 5
  (ai (aG (aE (ag ay (aa 2) (ae (.int 0)))) (ao (ae (.int 0))) aH)
  (ai (ar 3 (au G (ah (aa 0) (ah (aa 1) (ah (ag cJ (aa 2) (ae (.int 2))) af)))))
  (ai (ar 4 (au bQ (ah (aa 0) (ah (aa 3) (ah (aa 3) af)))))
  (ai (aG (aE (ag ay (ag bG (aa 2) (ae (.int 2))) (ae (.int 0)))) (ao (aa 4)) aH)
  (ao (au bQ (ah (aa 0) (ah (aa 4) (ah (aa 1) af)))))))))
def eV:Nat->Fn
 |0=>aw 3 5 (λ_ _=>.bad)
 |d+1=>rH (eV d)
def hJ:Fn:=aw 3 4
  (ai (ar 3 (aB 0 eT (aa 0) (ah (aa 1) af)))
  (ai (aG (aE (ag cP (aa 2) (ae (.int 0)))) (gT 2 (ah (ae (.str "a text is repeated 0 times at least")) af)) aH)
  (ai (bh (au jS (ah (ag bj (aa 3) (aa 2)) af)))
  (ai (aG (aE (ag ay (aa 1) (ae (.int 0)))) (ao (ae (.int 0))) aH)
  (ao (au (eV 64) (ah (aa 0) (ah (aa 1) (ah (aa 2) af)))))))))
def iL:Fn:=aw 3 3
  (bh (aB 1 bV (aa 0) (ah (aa 1) (ah (au hJ (ah (Sm.sFld 1 0 (aa 0)) (ah (aB 1 bx (aa 0) (ah (aa 1) af)) (ah (aa 2) af)))) af))))
def mr:Fn:=aw 2 2
  (ai (bh (aB 1 bx (aa 0) (ah (aa 1) af)))
  (bh (aB 1 bV (aa 0) (ah (aa 1) (ah (ae .non) af)))))
def kJ:Fn:=aw 1 2
  (ai (aG (aE (ag ay (Sm.sFld 1 3 (aa 0)) (aJ af))) (gT 4 (ah (ae (.str "there is no deed to do again")) af)) aH)
  (ai (ar 1 (dY aW bI (Sm.sFld 1 3 (aa 0))))
  (ai (bh (cW aW bP (Sm.sFld 1 2 (aa 0)) (ah (aa 1) af)))
  (bh (aB 1 iG (aa 0) (ah (ag aj (aa 1) (ae (.int 0))) (ah (ag aj (aa 1) (ae (.int 2))) af)))))))
def dG:Fn:=aw 2 2
  (ai (aG (aE (ag ay (ag aj (aa 1) (ae (.int 0))) (ae (.str "give")))) (ao (aB 1 jQ (aa 0) (ah (ag aj (aa 1) (ae (.int 1))) (ah (ag aj (aa 1) (ae (.int 2))) af)))) aH)
  (ai (aG (aE (ag ay (ag aj (aa 1) (ae (.int 0))) (ae (.str "copy_of")))) (ao (aB 1 jR (aa 0) (ah (ag aj (aa 1) (ae (.int 1))) (ah (ag aj (aa 1) (ae (.int 2))) af)))) aH)
  (ai (aG (aE (ag ay (ag aj (aa 1) (ae (.int 0))) (ae (.str "join_to")))) (ao (aB 1 jT (aa 0) (ah (ag aj (aa 1) (ae (.int 1))) (ah (ag aj (aa 1) (ae (.int 2))) af)))) aH)
  (ai (aG (aE (ag ay (ag aj (aa 1) (ae (.int 0))) (ae (.str "put_into")))) (ao (aB 1 iK (aa 0) (ah (ag aj (aa 1) (ae (.int 1))) (ah (ag aj (aa 1) (ae (.int 2))) (ah (ag aj (aa 1) (ae (.int 3))) af))))) aH)
  (ai (aG (aE (ag ay (ag aj (aa 1) (ae (.int 0))) (ae (.str "take_from")))) (ao (aB 1 jW (aa 0) (ah (ag aj (aa 1) (ae (.int 1))) (ah (ag aj (aa 1) (ae (.int 2))) (ah (ag aj (aa 1) (ae (.int 3))) af))))) aH)
  (ai (aG (aE (ag ay (ag aj (aa 1) (ae (.int 0))) (ae (.str "repeat")))) (ao (aB 1 iL (aa 0) (ah (ag aj (aa 1) (ae (.int 1))) (ah (ag aj (aa 1) (ae (.int 2))) af)))) aH)
  (ai (aG (aE (ag ay (ag aj (aa 1) (ae (.int 0))) (ae (.str "drop")))) (ao (aB 1 mr (aa 0) (ah (ag aj (aa 1) (ae (.int 1))) af))) aH)
  (ai (aG (aE (ag ay (ag aj (aa 1) (ae (.int 0))) (ae (.str "again")))) (ao (aB 1 kJ (aa 0) af)) aH)
  (ao (aB 1 kF (aa 0) af))))))))))
def cY:Fn:=aw 2 4
  (ai (ar 2 (ae (.str "other")))
  (ai (jL 3 (λc=>lX c || nz c) (λc=>oR c || rn c) vC (aG (aE (ag jw (au dG (ah (aa 0) (ah (aa 1) af))) (ae .non))) (ar 2 (ae (.str ""))) aH) (ar 2 (ag aj (aJ (ah (ae (.str "NoName")) (ah (ae (.str "NoText")) af))) (au bp (ah (jz rk (aa 3)) af)))) (ar 2 (ag aj (aJ (ah (ae (.str "NoPlace")) (ah (ae (.str "TooLong")) af))) (au bp (ah (jz rm (aa 3)) af)))) (ar 2 (ae (.str "NothingDone"))))
  (ao (aa 2))))
def jX:Fn:=aw 1 1
  (ao (au lT (ah (Sm.sFld 1 1 (aa 0)) af)))
def gE:Fn:=aw 1 1
  (ao (dW [0] (dM (aB 1 jX (aa 0) af)) aY (aN (ah (aa 0) (ah (aB 1 bx (aa 1) (ah (aa 0) af)) af)))))
def ij:Fn:=aw 1 1
  (ao (Sm.sFld 1 0 (aa 0)))
def rJ:Fn:=aw 4 10
  (ai (ar 4 (au aS (ah (aa 1) (ah (ae (.int 6)) af))))
  (ai (aG (aE (ag cP (aa 4) (ae (.int 2)))) (ai (ar 5 (ag aj (aJ (ah (ae (.str "back")) (ah (ae (.str "again")) af))) (aa 4)))
  (ai (ar 6 (ag aj (aJ (ah (ae (.str "")) (ah (ae (.str "NothingDone")) af))) (au bp (ah (ag aj (aJ (ah (ag ay (au aI (ah (aa 2) af)) (ae (.int 1))) (ah (ag iF (aa 3) (aJ af)) af))) (aa 4)) af))))
  (ai (aG (aE (ag eF (au cY (ah (aa 0) (ah (aN (ah (aa 5) af)) af))) (aa 6))) (ao (ae (.bl false))) aH)
  (ai (aG (iA (aE (ag ay (aa 6) (ae (.str "")))) (aE (ag ay (aa 4) (ae (.int 0))))) (bh (cW aW bP (aa 3) (ah (dY aW bI (aa 2)) af))) (aG (aE (ag ay (aa 6) (ae (.str "")))) (bh (cW aW bP (aa 2) (ah (dY aW bI (aa 3)) af))) aH))
  (ao (ag ay (au gE (ah (aa 0) af)) (ag aj (ag aj (aa 2) (dJ bH (ae (.int 1)))) (ae (.int 1))))))))) aH)
  (ai (uG (.tup [7,6,8]) (au rq (ah (aa 1) (ah (ag aj (ag aj (aa 2) (dJ bH (ae (.int 1)))) (ae (.int 0))) af))))
  (ai (ar 9 (aB 0 jP (aB 1 ij (aa 0) af) af))
  (ai (aG (aE (ag eF (au cY (ah (aa 0) (ah (aa 7) af))) (aa 6))) (ao (ae (.bl false))) aH)
  (ai (aG (aE (ag ay (aa 6) (ae (.str "")))) (ai (bh (cW aW bP (aa 2) (ah (aN (ah (aa 8) (ah (au gE (ah (aa 0) af)) af))) af)))
  (ai (bh (dY aW i9 (aa 3)))
  (ao (ae (.bl true))))) aH)
  (ao (kq (ag ay (aB 0 jP (aB 1 ij (aa 0) af) af) (aa 9)) (ag ay (au gE (ah (aa 0) af)) (ag aj (ag aj (aa 2) (dJ bH (ae (.int 1)))) (ae (.int 1))))))))))))
def mw(G:Fn):Fn:=aw 2 3
  (ai (aG (aE (ag ay (aa 1) (ae (.int 0)))) (ao (ae (.str ""))) aH)
  (ai (ar 2 (aB 0 eU (aa 0) (ah (aa 1) af)))
  (ai (aG (aE (ag ay (ag aj (aa 2) (ae (.int 0))) (ae (.str "leaf")))) (ao (ag aj (aa 2) (ae (.int 1)))) aH)
  (ao (ag az (au G (ah (aa 0) (ah (ag aj (aa 2) (ae (.int 1))) af))) (au G (ah (aa 0) (ah (ag aj (aa 2) (ae (.int 2))) af))))))))
def gG:Nat->Fn
 |0=>aw 2 3 (λ_ _=>.bad)
 |d+1=>mw (gG d)
def oZ:Fn:=aw 2 2
  (ai (aG (aE (ag eF (aB 1 jX (aa 0) af) (lU (aa 1)))) (ao (ae (.bl false))) aH)
  (ao (au eJ (ah (lW [0,1] 1 aY (ag ay (au (gG 90) (ah (aB 1 ij (aa 1) af) (ah (aB 1 bx (aa 1) (ah (aa 0) af)) af))) (ag g9 (aa 2) (aa 0)))) af))))
def nH:SS :=ai (ar 6 (au lY (ah (aJ (ah (aa 5) (ah (aa 4) af))) (ah (ae (.int 0)) af))))
  (aG (ot (c9 (iz (au rJ (ah (aa 1) (ah (aa 6) (ah (aa 2) (ah (aa 3) af))))))) (c9 (iz (au oZ (ah (aa 1) (ah (ag aj (ag aj (aa 2) (dJ bH (ae (.int 1)))) (ae (.int 0))) af)))))) (ao (ae (.bl false))) aH)
def vG:Fn:=aw 1 7
  (ai (ar 1 (mS 1 4 nA af))
  (ai (ar 2 (fW (ah (aN (ah (lC false) (ah (aJ af) af))) af)))
  (ai (ar 3 (fW af))
  (ai (df (Sm.iEnum (ag az (bZ (aa 0) none (some (ae (.int 40)))) (aJ (ah (ae (.int 0)) (ah (ae (.int 1)) (ah (ae (.int 2)) af)))))) (.tup [4,5]) nH)
  (ao (ae (.bl true)))))))
end
end Sk
set_option exponentiation.threshold 2000
namespace Sk
open PySem PySem.Spec L2 Sm
theorem Ao{w:Option Nat}{all:YF}{t:Tg}{b:SS}(P:Nat->En->AH->Prop):∀ (xs:YF) (i:Nat) (en:En) (h:AH),P i en h ->
  (∀ i en h,P i en h->gA w all h=true) ->
  (∀ (j:Nat) (x:AV) (en:En) (h:AH),xs[j]?=some x->P (i+j) en h->∃ e1 e2 h2,fA t x en=some e1/\(b e1 h=.nx e2 h2\/b e1 h=.ct e2 h2)/\P (i+j+1) e2 h2) ->
  ∃ e' h',gP w all t b xs en h=.nx e' h'/\P (i+xs.length) e' h'
 |[],i,en,h,p,lv,_=>⟨en,h,by unfold gP;rw[OX (lv _ _ _ p)],p⟩
 |x::xs,i,en,h,p,lv,s=>by
  obtain⟨e1,e2,h2,q1,q2,q3⟩:=s 0 x en h rfl p;obtain⟨e',h',r1,r2⟩:=Ao P xs (i+1) e2 h2 q3 lv λj y en h e q=>by
   have:=s (j+1) y en h (by simpa using e) (by rw[show i+(j+1)=i+1+j by lia];exact q)
   rw[show i+(j+1)+1=i+1+j+1 by lia] at this;exact this
  refine⟨e',h',?_,by rw[PU,show i+(xs.length+1)=i+1+xs.length by lia];exact r2⟩
  unfold gP;rw[OX (lv _ _ _ p)];simp only[q1]
  rcases q2 with q2|q2
  ·rw[q2];exact r1
  ·rw[q2];exact r1
theorem vH{α:Type}{js:List Nat}{en:En}{w:Option Nat}{all:YF}{c:SB}{e:SE}{g f:α->AV}{p:α->Bool}{h:AH}(lv:gA w all h=true):∀ (cs:List α) (ys:YF),(∀ x∈cs,c (some (g x)::js.map λj=>(en[j]?).join) h=.ok (p x) h)->(∀ x∈cs,p x=true->e (some (g x)::js.map λj=>(en[j]?).join) h=.ok (f x) h)->ys.length+cs.length<=sizeLine ->
  dN js en w all c e (cs.map g) ys h=.ok (ys++(cs.filter p).map f) h
 |[],ys,_,_,_=>by rw[QK];unfold dN;rw[OX lv];simp
 |x::xs,ys,hc,he,hl=>by
  have hl':ys.length<sizeLine:=by simp at hl;lia
  rw[O8];unfold dN
  rw[OX ⟨lv,hl'⟩,hc x 's']
  cases hp:p x with
  |false =>
   dsimp only;rw[vH lv xs ys (λy hy=>hc y (by simp[hy])) (λy hy=>he y (by simp[hy])) (by simp at hl ⊢;lia)]
   simp[Qy,hp]
  |true =>
   dsimp only;rw[he x 's' hp]
   dsimp only;rw[vH lv xs (ys++[f x]) (λy hy=>hc y (by simp[hy])) (λy hy=>he y (by simp[hy])) (by simp at hl ⊢;lia)]
   simp[Qy,hp]
variable{α:Type}{js:List Nat}{en:En}{h h1 h' h2 hh:AH}
def Kk{w:Option Nat}{all:YF}{e:SE}{g f:α->AV}(lv:gA w all h=true)(cs:List α)(ys:YF)(he:∀ x∈cs,e (some (g x)::js.map λj=>(en[j]?).join) h=.ok (f x) h)(hl:ys.length+cs.length<=sizeLine) :
  dN js en w all aY e (cs.map g) ys h=.ok (ys++cs.map f) h:=by
 rw[vH (p:=λ_=>true) lv cs ys (λ_ _=>rfl) (λx hx _=>he x hx) hl,List.filter_eq_self.mpr (λ_ _=>rfl)]
@[simp] def thn(o:OutS)(Q:En->AH->Prop):Prop:=match o with
 |.nx e h=>Q e h
 |.ct e h=>Q e h
 |_=>False
def Kl{o:OutS}{Q:En->AH->Prop}(t:thn o Q):∃ e h,(o=.nx e h\/o=.ct e h)/\Q e h:=by
 cases o with
 |nx e h=>exact⟨e,h,.inl rfl,t⟩
 |ct e h=>exact⟨e,h,.inr rfl,t⟩
 |_=>exact t.elim
@[simp] def Km(o:Option En)(Q:En->Prop):Prop:=match o with
 |some e=>Q e
 |none=>False
variable{xs:YF}
def rK{w:Option Nat}{all:YF}{t:Tg}{b:SS}(P:Nat->En->AH->Prop)(p0:P 0 en h)(lv:∀ i en h,P i en h->gA w all h=true)(st:∀ (j:Nat) (x:AV) (en:En) (h:AH),xs[j]?=some x->P j en h->Km (fA t x en) λe1=>thn (b e1 h) (P (j+1))) :
  ∃ e' h',gP w all t b xs en h=.nx e' h'/\P xs.length e' h':=by
 have:=Ao (w:=w) (all:=all) (t:=t) (b:=b) P xs 0 en h p0 lv λj x en h hx hp=>by
  have q:=st j x en h hx (by simpa using hp)
  cases z:fA t x en with
  |none=>rw[z] at q;exact q.elim
  |some e1 =>
   rw[z] at q;obtain⟨e,h2,a,c⟩:=Kl q
   exact⟨e1,e,h2,rfl,a,by simpa using c⟩
 simpa using this
theorem Ap{js:List Nat}{en:En}{all:YF}{e:SE}(P:YF->AH->Prop):∀ (xs ys:YF) (h:AH),P ys h ->
  (∀ x∈xs,∀ ys h,P ys h->∃ v h2,e (some x::js.map λj=>(en[j]?).join) h=.ok v h2/\P (ys++[v]) h2)->ys.length+xs.length<=sizeLine ->
  ∃ zs h',dN js en none all aY e xs ys h=.ok zs h'/\P zs h'/\zs.length=ys.length+xs.length
 |[],ys,h,p,_,_=>⟨ys,h,by simp[dN],p,rfl⟩
 |x::xs,ys,h,p,s,hl=>by
  obtain⟨v,h2,q1,q2⟩:=s x 's' ys h p;obtain⟨zs,h',r1,r2,r3⟩:=Ap P xs (ys++[v]) h2 q2 (λy hy=>s y (by simp[hy])) (by simp at hl ⊢;lia)
  refine⟨zs,h',?_,r2,by rw[r3];simp;lia⟩
  unfold dN;rw[OX ⟨rfl,by simp at hl;lia⟩];simp only[aY]
  rw[q1];exact r1
@[simp] def Aq(o:Out AV)(Q:AV->AH->Prop):Prop:=match o with
 |.ok v h=>Q v h
 |_=>False
def Kn{all:YF}{e:SE}(P:YF->AH->Prop)(p0:P [] h)(st:∀ x∈xs,∀ ys h,P ys h->Aq (e (some x::js.map λj=>(en[j]?).join) h) λv h2=>P (ys++[v]) h2)(hl:xs.length<=sizeLine) :
  ∃ zs h',dN js en none all aY e xs [] h=.ok zs h'/\P zs h'/\zs.length=xs.length:=by
 have:=Ap (js:=js) (en:=en) (all:=all) (e:=e) P xs [] h p0 (λx hx ys h p=>by
  have q:=st x hx ys h p
  cases z:e (some x::js.map λj=>(en[j]?).join) h with
  |ok v h2=>rw[z] at q;exact⟨v,h2,rfl,q⟩
  |ex _ _=>rw[z] at q;exact q.elim
  |bad=>rw[z] at q;exact q.elim) (by simpa using hl)
 simpa using this
theorem Ar{js:List Nat}{en:En}{all:YF}{e:SE}(P:Nat->YF->AH->Prop):∀ (xs ys:YF) (i:Nat) (h:AH),P i ys h ->
  (∀ j x ys h,xs[j]?=some x->P (i+j) ys h->∃ v h2,e (some x::js.map λj=>(en[j]?).join) h=.ok v h2/\P (i+j+1) (ys++[v]) h2)->ys.length+xs.length<=sizeLine ->
  ∃ zs h',dN js en none all aY e xs ys h=.ok zs h'/\P (i+xs.length) zs h'
 |[],ys,i,h,p,_,_=>⟨ys,h,by simp[dN],p⟩
 |x::xs,ys,i,h,p,s,hl=>by
  obtain⟨v,h2,q1,q2⟩:=s 0 x ys h rfl p;obtain⟨zs,h',r1,r2⟩:=Ar P xs (ys++[v]) (i+1) h2 q2 (λj y ys h hy hp=>by
   have:=s (j+1) y ys h (by simpa using hy) (by rw[show i+(j+1)=i+1+j by lia];exact hp)
   rw[show i+(j+1)+1=i+1+j+1 by lia] at this;exact this) (by simp at hl ⊢;lia)
  refine⟨zs,h',?_,by rw[PU,show i+(xs.length+1)=i+1+xs.length by lia];exact r2⟩
  unfold dN;rw[OX ⟨rfl,by simp at hl;lia⟩];simp only[aY]
  rw[q1];exact r1
def Ko{all:YF}{e:SE}(P:Nat->YF->AH->Prop)(p0:P 0 [] h)(st:∀ j x ys h,xs[j]?=some x->P j ys h->Aq (e (some x::js.map λj=>(en[j]?).join) h) λv h2=>P (j+1) (ys++[v]) h2)(hl:xs.length<=sizeLine) :
  ∃ zs h',dN js en none all aY e xs [] h=.ok zs h'/\P xs.length zs h':=by
 have:=Ar (js:=js) (en:=en) (all:=all) (e:=e) P xs [] 0 h p0 (λj x ys h hx p=>by
  have q:=st j x ys h hx (by simpa using p)
  cases z:e (some x::js.map λj=>(en[j]?).join) h with
  |ok v h2=>rw[z] at q;exact⟨v,h2,rfl,by simpa using q⟩
  |ex _ _=>rw[z] at q;exact q.elim
  |bad=>rw[z] at q;exact q.elim) (by simpa using hl)
 simpa using this
theorem As:∀ (n:Nat) (lo:Int) (i:Nat),(dR lo n)[i]?=if i<n then some (.int (lo+i)) else none
 |0,lo,i=>by simp[dR]
 |n+1,lo,0=>by simp[dR]
 |n+1,lo,i+1=>by
  unfold dR;rw[Sq,As n (lo+1) i];by_cases q:i<n
  ·rw[OX q,OX ⋯];congr 2;lia
  ·rw[O0 q,O0 ⋯]
theorem pe:∀ (n:Nat) (lo:Int),(dR lo n).length=n
 |0,_=>rfl
 |n+1,lo=>by unfold dR;rw[PU,pe n]
variable{n e b a i j p d k2 k1 n1 c L hb K D:Nat}
def vI{a:SE}(e:a en h=.ok (.int n) h1)(hn:n<=10000000):iZ a en h=.ok (dR 0 n,none) h1:=by
 have h1':(n:Int).natAbs<2 ^ 62:=by lia
 simp only[iZ,e,Out.bind]
 rw[OX h1'];rfl
def rL{it:SI}{t:Tg}{b:SS}{w:Option Nat}(e:it en h=.ok (xs,w) h1):df it t b en h=gP w xs t b xs en h1:=by simp only[df,e]
def Au{i j:Int}(hi:i.natAbs<2 ^ 64):bj (.int i) (.int j) h=.ok (.int (i*j)) h:=(OX (.inl (.inl hi)))
def Av{i j:Int}(hj:j.natAbs<2 ^ 64):bj (.int i) (.int j) h=.ok (.int (i*j)) h:=(OX (.inl (.inr hj)))
def Kp{f:α->AV}{l:List α}{q:α}(e:l[j]?=some q):atI (l.map f) (j:Int)=some (f q):=(lh (by simp[e]))
end Sk
set_option exponentiation.threshold 5000
namespace Sk
open PySem PySem.Spec L2 Sm
def nI(c:Nat):Bool:=decide (c=10) || (decide (32<=c) && decide (c<=126))
def Aw(a b:Nat):([a]<[b]) ↔ a<b:=by
 simp[List.cons_lt_cons_iff]
def Ax:(Str.ofString "\n")=⟨#[10]⟩:=by decide +kernel
def Kq:(Str.ofString " ")=⟨#[32]⟩:=by decide +kernel
def Kr:(Str.ofString "~")=⟨#[126]⟩:=by decide +kernel
def Kt(c:Nat)(h:AH):oV [.str ⟨#[c]⟩] h=.ok (.bl (nI c)) h:=by
 simp[oV,Ax,Kq,Kr,Aw,nI]
 by_cases h1:c=10
 ·simp[h1]
 ·by_cases h2:c<32
  ·have:¬ 32<=c:=by lia
   simp[h1,h2,this]
  ·have h3:32<=c:=by lia
   by_cases h4:c<=126
   ·have:¬ 126<c:=by lia
    simp[h1,h2,h3,h4,this]
   ·have:126<c:=by lia
    simp[h1,h2,h3,h4,this]
theorem rM{α:Type}{js:List Nat}{en:En}{all:YF}{e:SE}{g f:α->AV}{h:AH}:∀ (cs:List α) (ys:YF),(∀ c∈cs,e (some (g c)::js.map λj=>(en[j]?).join) h=.ok (f c) h)->ys.length+cs.length<=sizeLine->dN js en none all aY e (cs.map g) ys h=.ok (ys++cs.map f) h
 |[],ys,_,_=>by simp[dN]
 |x::xs,ys,he,hl=>by
  have hl':ys.length<sizeLine:=by simp at hl;lia
  rw[O8];unfold dN
  rw[OX ⟨rfl,hl'⟩];simp only[aY]
  rw[he x 's'];dsimp only;rw[rM xs (ys++[f x]) (λy hy=>he y (by simp[hy])) (by simp at hl ⊢;lia)]
  simp
theorem vJ(f:Nat->Bool):∀ cs:List Nat,lE (cs.map λc=>.bl (f c))=some (cs.map f)
 |[]=>rfl
 |c::cs=>by simp[vJ f cs]
def bN(x:Str):Bool:=x.cps.toList.all nI
def rN(x:Str)(h:AH)(hl:x.length<=sizeLine):iI [.str x] h=.ok (.bl (bN x)) h:=by
 have e:=rM (js:=[]) (en:=[some (.str x)]) (all:=x.cps.toList.map λc=>AV.str ⟨#[c]⟩) (e:=au oV (ah (aa 0) af)) (g:=λc=>AV.str ⟨#[c]⟩) (f:=λc=>AV.bl (nI c)) (h:=h) x.cps.toList [] (by
  intro c hc;simp[Kt]) (by simp;exact hl)
 simp only[QN] at e
 simp[iI]
 rw[e];simp[vJ,bN]
def fU(x:Str):Bool:=bN x && (decide (1<=x.length) && decide (x.length<=8))
def Ay(x:Str)(h:AH)(hl:x.length<=sizeLine):rC [.str x] h=.ok (.bl (fU x)) h:=by
 simp[rC,rN x h hl,fU]
 by_cases h1:bN x=true
 ·by_cases h2:1<=x.length
  ·have:(1:Int)<=x.length:=by lia
   by_cases h3:x.length<=8
   ·have:(x.length:Int)<=8:=by lia
    simp[*]
   ·have:¬ (x.length:Int)<=8:=by lia
    simp[*]
  ·have:¬ (1:Int)<=x.length:=by lia
   simp[*]
 ·simp[h1]
def jY(x:Str):Nat:=(Builtin.Str.occurrences x ⟨#[10]⟩ 0 x.length (x.length+1)).length
def Ku(x:Str)(h:AH):rD [.str x] h=.ok (.int (jY x)) h:=by
 simp[rD,Ax,jY]
def Kv(i:Int)(h:AH):rA [.int i] h=.ok (.bl true) h:=by
 simp[rA]
inductive Pc where
 |leaf (x:Str)
 |fork (a b:Nat)
 deriving DecidableEq
def Pc.av:Pc->AV
 |.leaf x=>.tup [.str "leaf",.str x]
 |.fork a b=>.tup [.str "fork",.int a,.int b]
theorem Pc.av_inj:∀ {p q:Pc},p.av=q.av->p=q
 |.leaf x,.leaf y,e=>by simp[Pc.av] at e;rw[e]
 |.leaf x,.fork a b,e=>by simp[Pc.av] at e
 |.fork a b,.leaf x,e=>by simp[Pc.av] at e
 |.fork a b,.fork c d,e=>by simp[Pc.av] at e;rw[Int.ofNat.inj e.1,Int.ofNat.inj e.2]
structure Ms where
 sg:Nat
 en:Nat
 lv:Nat
 ht:Int
 fl:Nat
 ll:Nat
def ms0:Ms:=⟨0,0,0,-1,0,0⟩
def iM(ms:List Ms):Pc->Ms
 |.leaf x=>⟨x.length,jY x,1,0,ms.length,ms.length⟩
 |.fork a b=>⟨(ms.getD a ms0).sg+(ms.getD b ms0).sg,(ms.getD a ms0).en+(ms.getD b ms0).en,(ms.getD a ms0).lv+(ms.getD b ms0).lv,max (ms.getD a ms0).ht (ms.getD b ms0).ht+1,(ms.getD a ms0).fl,(ms.getD b ms0).ll⟩
abbrev YG:=List Pc
def meas(ps:YG):List Ms:=ps.foldl (λms q=>ms++[iM ms q]) [ms0]
def vK(ps:YG)(q:Pc):meas (ps++[q])=meas ps++[iM (meas ps) q]:=by simp[meas]
def fq:∀ ps:YG,(meas ps).length=ps.length+1:=by
 have all:∀ (ps:YG) (ms:List Ms),(ps.foldl (λms q=>ms++[iM ms q]) ms).length=ms.length+ps.length:=by
  intro ps;induction ps with
  |nil=>intro ms;rfl
  |cons q r ih=>intro ms;rw[Q4,ih];simp;lia
 intro ps;rw[meas,all];simp;lia
def gp(k:Nat):YG->List (AV×AV)
 |[]=>[]
 |q::r=>(q.av,.int k)::gp (k+1) r
def eX(ps:YG):List (AV×AV):=gp 1 ps
theorem rO(q:Pc):∀ (ps:YG) (k:Nat),gp k (ps++[q])=gp k ps++[(q.av,.int ((k+ps.length:Nat):Int))]
 |[],k=>by simp[gp]
 |p::r,k=>by
  simp only[List.cons_append,gp,rO q r (k+1)]
  rw[show k+1+r.length=k+(p::r).length by simp;lia]
theorem Az:∀ (ps:YG) (k:Nat),(gp k ps).length=ps.length
 |[],_=>rfl
 |p::r,k=>by simp[gp,Az r]
theorem rP{q:Pc}:∀ {ps:YG} {k:Nat},q∉ps->aT (gp k ps) q.av=none
 |[],k,_=>rfl
 |p::r,k,h=>by
  have h1:¬ p.av=q.av:=λe=>h (by rw[Pc.av_inj e];simp)
  have h2:=rP (q:=q) (ps:=r) (k:=k+1) λz=>h (by simp[z])
  unfold aT at h2 ⊢
  simp only[gp,PQ,O9 h1]
  exact h2
theorem vL{q:Pc}:∀ {ps:YG} {k i:Nat},ps.Nodup->ps[i]?=some q->aT (gp k ps) q.av=some (.int ((k+i:Nat):Int))
 |[],k,i,_,e=>by simp at e
 |p::r,k,0,n,e=>by simp at e;subst e;simp[aT,gp]
 |p::r,k,i+1,n,e=>by
  simp at e
  have h1:¬ p.av=q.av:=λz=>(PN.mp n).1 (by rw[Pc.av_inj z];exact Pm e)
  have h2:=vL (q:=q) (k:=k+1) (PN.mp n).2 e;unfold aT at h2 ⊢
  simp only[gp,PQ,O9 h1]
  rw[h2];congr 3
  lia
variable{q:Pc}{ps ps' ps1:YG}
def Kw(h:q∉ps):eI (eX ps) q.av (.int ((ps.length+1:Nat):Int))=eX (ps++[q]):=by
 unfold eI;rw[uW,eX,rP h,eX,rO];simp[QX]
structure ShelfAt(h:AH)(p:Nat)(ps:YG):Prop where
 ob:h[p]?=some (.ins 0 [some (.ref (p+1)),some (.ref (p+2)),some (.ref (p+3)),some (.ref (p+4)),some (.ref (p+5)),some (.ref (p+6)),some (.ref (p+7)),some (.ref (p+8))])
 h1:h[p+1]?=some (.lst (ps.map Pc.av))
 h2:h[p+2]?=some (.dct true (eX ps))
 h3:h[p+3]?=some (.lst ((meas ps).map λm=>.int m.sg))
 h4:h[p+4]?=some (.lst ((meas ps).map λm=>.int m.en))
 h5:h[p+5]?=some (.lst ((meas ps).map λm=>.int m.lv))
 h6:h[p+6]?=some (.lst ((meas ps).map λm=>.int m.ht))
 h7:h[p+7]?=some (.lst ((meas ps).map λm=>.int m.fl))
 h8:h[p+8]?=some (.lst ((meas ps).map λm=>.int m.ll))
def gH(h:AH)(p:Nat)(ps:YG):AH :=
 (((((((h.set (p+1) (.lst (ps.map Pc.av))).set (p+2) (.dct true (eX ps))).set (p+3) (.lst ((meas ps).map λm=>.int m.sg))).set (p+4) (.lst ((meas ps).map λm=>.int m.en))).set (p+5) (.lst ((meas ps).map λm=>.int m.lv))).set
  (p+6) (.lst ((meas ps).map λm=>.int m.ht))).set (p+7) (.lst ((meas ps).map λm=>.int m.fl))).set (p+8) (.lst ((meas ps).map λm=>.int m.ll))
variable{h h1 h' h2 hh:AH}{i e b a n j p d k2 k1 n1 c L hb K D:Nat}
def bT{o:AO}(e:h[i]?=some o):i<h.length:=((OS.mp e).1)
def AA(h:AH)(p:Nat)(ps:YG):(gH h p ps).length=h.length:=by simp[gH]
def AB{q:Nat}(hq:q<=p\/p+8<q):(gH h p ps)[q]?=h[q]?:=by
 unfold gH;repeat rw[OU ⋯]
def rQ(S:ShelfAt h p ps):ShelfAt (gH h p ps') p ps':=by
 have b:=bT S.h8;have l1:p+1<h.length:=O7 (Pg 'd' p) b;have l2:p+2<h.length:=O7 (Pg 'd' p) b;have l3:p+3<h.length:=O7 (Pg 'd' p) b;have l4:p+4<h.length:=O7 (Pg 'd' p) b;have l5:p+5<h.length:=O7 (Pg 'd' p) b;have l6:p+6<h.length:=O7 (Pg 'd' p) b;have l7:p+7<h.length:=O7 (Pg 'd' p) b;have ob:=S.ob;constructor<;>simp[gH,R4,l1,l2,l3,l4,l5,l6,l7,b,ob,-List.getElem?_eq_getElem]
variable{α:Type}
def vM(l:List α)(f:α->AV):(l.map f).length=l.length:=by simp
def Kz(S:ShelfAt h p ps):jP [.ref p] h=.ok (.int ps.length) h:=by
 simp[jP,S.ob,S.h1]
def KA{i:Int}(S:ShelfAt h p ps):rB [.ref p,.int i] h=.ok (.bl (decide (1<=i/\i<=ps.length))) h:=by
 simp[rB,Kv,S.ob,S.h1]
 by_cases h1:1<=i<;>simp[h1]
def rR{i:Int}(S:ShelfAt h p ps)(hi:1<=i/\i<=ps.length):l9 [.ref p,.int i] h=.ok .non h:=by
 simp[l9,KA S,S.ob,hi.1,hi.2]
def hU{f:α->AV}{l:List α}{q:α}(e:l[j]?=some q):atI (l.map f) (j:Int)=some (f q):=(lh (by simp[e]))
def KC(S:ShelfAt h p ps)(e:ps[j]?=some q):eU [.ref p,.int ((j:Int)+1)] h=.ok q.av h:=by
 have hj:=(OS.mp e).1;have h1:=rR S (i:=(j:Int)+1) ⟨by lia,by lia⟩;simp[eU,h1,S.ob,S.h1,hU e]
def AC(S:ShelfAt h p ps)(hq:q∉ps)(hl:ps.length<16000000) :
  oT [.ref p,q.av] h=.ok (.int ((ps.length+1:Nat):Int)) ((h.set (p+1) (.lst ((ps++[q]).map Pc.av))).set (p+2) (.dct true (eX (ps++[q])))):=by
 have b:=bT S.h8;have hs:ps.length<sizeLine:=RI hl 'd';have ht:(eX ps).length<sizeLine:=by rw[eX,Az];exact hs
 have hk:dX true q.av=true:=by cases q<;>simp[Pc.av]
 have e1:(h.set (p+1) (.lst (ps.map Pc.av++[q.av])))[p]?=h[p]?:=OU ⋯;have e2:(h.set (p+1) (.lst (ps.map Pc.av++[q.av])))[p+1]?=some (.lst (ps.map Pc.av++[q.av])):=OY ⋯;have e3:(h.set (p+1) (.lst (ps.map Pc.av++[q.av])))[p+2]?=h[p+2]?:=OU ⋯;have tp:=Kw hq;simp[oT,S.ob,S.h1,hs,e1,e2,e3,S.h2,hk,ht,-dX]
 rw[show ((ps.length:Int)+1)=((ps.length+1:Nat):Int) by simp,tp]
variable{x w y:Str}
def KG(S:ShelfAt h p ps)(hq:Pc.leaf x∉ps)(hl:ps.length<16000000) :
  oW [.ref p,(Pc.leaf x).av] h=.ok .non (gH h p (ps++[.leaf x])):=by
 have b:=bT S.h8;have hs:ps.length+1<sizeLine:=Ph (Nat.succ_lt_succ hl) 'd';have hm:(meas ps).length<sizeLine:=by rw[fq];exact hs
 have e:=AC S hq hl;have b2:((meas ps).length:Int)=(ps.length:Int)+1:=by rw[fq];simp
 have e2:aj (Pc.leaf x).av (.int 1)=λh=>Out.ok (.str x) h:=by funext h;rfl
 have l1:p+1<h.length:=by lia
 have l2:p+2<h.length:=by lia
 have l3:p+3<h.length:=by lia
 have l4:p+4<h.length:=by lia
 have l5:p+5<h.length:=by lia
 have l6:p+6<h.length:=by lia
 have l7:p+7<h.length:=by lia
 simp[oW,e,S.ob,S.h3,S.h4,S.h5,S.h6,S.h7,S.h8,hm,Ku,R4,vK,iM,gH,e2,fq,hs,-aj,-List.getElem?_eq_getElem]
def AD{l:List α}{d x:α}(e:l[i]?=some x):l.getD i d=x:=by simp[List.getD,e]
variable{ma mb f l la fb fa lb mc md:Ms}
def KH(S:ShelfAt h p ps)(hq:Pc.fork a b∉ps)(hl:ps.length<16000000)(ha:(meas ps)[a]?=some ma)(hb:(meas ps)[b]?=some mb) :
  oU [.ref p,(Pc.fork a b).av] h=.ok .non (gH h p (ps++[.fork a b])):=by
 have bb:=bT S.h8;have hs:ps.length+1<sizeLine:=Ph (Nat.succ_lt_succ hl) 'd';have hm:(meas ps).length<sizeLine:=by rw[fq];exact hs
 have e:=AC S hq hl;have e2:aj (Pc.fork a b).av (.int 1)=λh=>Out.ok (.int a) h:=by funext h;rfl
 have e3:aj (Pc.fork a b).av (.int 2)=λh=>Out.ok (.int b) h:=by funext h;rfl
 have l1:p+1<h.length:=by lia
 have l2:p+2<h.length:=by lia
 have l3:p+3<h.length:=by lia
 have l4:p+4<h.length:=by lia
 have l5:p+5<h.length:=by lia
 have l6:p+6<h.length:=by lia
 have l7:p+7<h.length:=by lia
 have fx:∀ (n:Nat) (g:Ms->AV) (h':AH),h'[n]?=some (.lst ((meas ps).map g))->aj (.ref n) (.int a) h'=.ok (g ma) h'/\aj (.ref n) (.int b) h'=.ok (g mb) h':=λn g h' e=>by
  simp[aj,e,hU ha,hU hb]
 have f3:=λ(h':AH) (e:h'[p+3]?=some (.lst ((meas ps).map λm=>.int m.sg)))=>fx _ _ h' e
 have f4:=λ(h':AH) (e:h'[p+4]?=some (.lst ((meas ps).map λm=>.int m.en)))=>fx _ _ h' e
 have f5:=λ(h':AH) (e:h'[p+5]?=some (.lst ((meas ps).map λm=>.int m.lv)))=>fx _ _ h' e
 have f6:=λ(h':AH) (e:h'[p+6]?=some (.lst ((meas ps).map λm=>.int m.ht)))=>fx _ _ h' e
 have f7:=λ(h':AH) (e:h'[p+7]?=some (.lst ((meas ps).map λm=>.int m.fl)))=>fx _ _ h' e
 have f8:=λ(h':AH) (e:h'[p+8]?=some (.lst ((meas ps).map λm=>.int m.ll)))=>fx _ _ h' e
 have hmax:∀ i j:Int,(if j > i then j else i)=max i j:=λi j=>by split<;>lia
 simp[oU,e,S.ob,S.h3,S.h4,S.h5,S.h6,S.h7,S.h8,hm,R4,vK,iM,gH,e2,e3,fq,hs,hU ha,hU hb,AD ha,AD hb,-aj,-List.getElem?_eq_getElem,-List.getD_eq_getElem?_getD,f3,f4,f5,f6,f7,f8,hmax]
def vN(S:ShelfAt h p ps)(nd:ps.Nodup)(hx:fU x=true)(hl:x.length<=sizeLine)(e:ps[i]?=some (.leaf x)):eh [.ref p,.str x] h=.ok (.int ((i+1:Nat):Int)) h:=by
 have t:=vL (k:=1) nd e;have t':aT (eX ps) (.tup [.str "leaf",.str x])=some (.int ((i+1:Nat):Int)):=by rw[QX];exact t
 simp[eh,Ay x h hl,hx,S.ob,S.h2,t']
def KI(S:ShelfAt h p ps)(hx:fU x=true)(hl:x.length<=sizeLine)(hq:Pc.leaf x∉ps)(hz:ps.length<16000000):eh [.ref p,.str x] h=.ok (.int ((ps.length+1:Nat):Int)) (gH h p (ps++[.leaf x])):=by
 have t:aT (eX ps) (.tup [.str "leaf",.str x])=none:=rP (q:=.leaf x) (k:=1) hq;have S2:=rQ (ps':=ps++[.leaf x]) S;have e:=KG S hq hz;have t2:aT (eX (ps++[.leaf x])) (.tup [.str "leaf",.str x])=some (.int ((ps.length+1:Nat):Int)):=by
  unfold eX;rw[rO];unfold aT at t ⊢
  rw[Ub];have t3:(gp 1 ps).find? (λp=>decide (p.1=.tup [.str "leaf",.str x]))=none:=by simpa[eX] using t
  rw[t3];simp[Pc.av,QX]
 have e':oW [.ref p,.tup [.str "leaf",.str x]] h=.ok .non (gH h p (ps++[.leaf x])):=e;simp[eh,Ay x h hl,hx,S.ob,S.h2,t,e',S2.ob,S2.h2,t2]
def KJ(S:ShelfAt h p ps)(ha:(meas ps)[a]?=some ma)(hb:(meas ps)[b]?=some mb)(pa:1<=a)(pb:1<=b)(hla:(meas ps)[ma.ll]?=some la)(hfb:(meas ps)[mb.fl]?=some fb)(d1:¬ la.sg+fb.sg<=8)(d2:¬ 1<(ma.ht-mb.ht).natAbs)(d3:¬ 1000000000000000000<ma.sg+mb.sg) :
  oS [.ref p,.int a,.int b] h=.ok .non h:=by
 have la_:=(OS.mp ha).1;have lb_:=(OS.mp hb).1;rw[fq] at la_ lb_;have c1:=rR S (i:=(a:Int)) ⟨by lia,by lia⟩
 have c2:=rR S (i:=(b:Int)) ⟨by lia,by lia⟩;have d1':¬ ((la.sg:Int)+fb.sg)<=8:=by lia
 have d2':¬ (1:Int)<(if ma.ht-mb.ht<0 then -(ma.ht-mb.ht) else ma.ht-mb.ht):=by split<;>lia
 have d3':¬ (1000000000000000000:Int)<(ma.sg:Int)+mb.sg:=by lia
 simp[oS,c1,c2,S.ob,S.h3,S.h5,S.h6,S.h7,S.h8,hU ha,hU hb,hU hla,hU hfb,d1',d2',d3',-Int.neg_sub]
structure ForkOk(ps:YG)(a b:Nat):Prop where
 pa:1<=a
 pb:1<=b
 ex:∃ ma mb la fb,(meas ps)[a]?=some ma/\(meas ps)[b]?=some mb/\(meas ps)[ma.ll]?=some la/\(meas ps)[mb.fl]?=some fb/\8<la.sg+fb.sg/\(ma.ht-mb.ht).natAbs<=1/\ma.sg+mb.sg<=1000000000000000000
def AE(S:ShelfAt h p ps)(F:ForkOk ps a b):oS [.ref p,.int a,.int b] h=.ok .non h:=by
 obtain⟨ma,mb,la,fb,h1,h2,h3,h4,h5,h6,h7⟩:=F.ex;exact KJ S h1 h2 F.pa F.pb h3 h4 ⋯ ⋯ ⋯
def vO(S:ShelfAt h p ps)(nd:ps.Nodup)(F:ForkOk ps a b)(e:ps[i]?=some (.fork a b)):aV [.ref p,.int a,.int b] h=.ok (.int ((i+1:Nat):Int)) h:=by
 have t:=vL (k:=1) nd e;have t':aT (eX ps) (.tup [.str "fork",.int a,.int b])=some (.int ((i+1:Nat):Int)):=by rw[QX];exact t
 simp[aV,AE S F,S.ob,S.h2,t']
def KM(S:ShelfAt h p ps)(F:ForkOk ps a b)(hq:Pc.fork a b∉ps)(hz:ps.length<16000000):aV [.ref p,.int a,.int b] h=.ok (.int ((ps.length+1:Nat):Int)) (gH h p (ps++[.fork a b])):=by
 have t:aT (eX ps) (.tup [.str "fork",.int a,.int b])=none:=rP (q:=.fork a b) (k:=1) hq;have S2:=rQ (ps':=ps++[.fork a b]) S;obtain⟨ma,mb,la,fb,h1,h2,_⟩:=F.ex;have e:=KH S hq hz h1 h2;have t2:aT (eX (ps++[.fork a b])) (.tup [.str "fork",.int a,.int b])=some (.int ((ps.length+1:Nat):Int)):=by
  unfold eX;rw[rO];unfold aT at t ⊢
  rw[Ub];have t3:(gp 1 ps).find? (λp=>decide (p.1=.tup [.str "fork",.int a,.int b]))=none:=by simpa[eX] using t
  rw[t3];simp[Pc.av,QX]
 have e':oU [.ref p,.tup [.str "fork",.int a,.int b]] h=.ok .non (gH h p (ps++[.fork a b])):=e;simp[aV,AE S F,S.ob,S.h2,t,e',S2.ob,S2.h2,t2]
def rS(n:Nat):List AO:=[.ins 0 [some (.ref (n+1)),some (.ref (n+2)),some (.ref (n+3)),some (.ref (n+4)),some (.ref (n+5)),some (.ref (n+6)),some (.ref (n+7)),some (.ref (n+8))],.lst [],.dct true [],.lst [.int 0],.lst [.int 0],.lst [.int 0],.lst [.int (-1)],.lst [.int 0],.lst [.int 0]]
def KN{o o':AO}{r:AH}:(h++o::r).set h.length o'=h++o'::r:=by
 induction h with
 |nil=>rfl
 |cons x t ih=>simp[ih]
def AF{r:AH}{k:Nat}:(h++r)[h.length+k]?=r[k]?:=by
 rw[Pl ⋯];simp
def KP(h r:AH):ShelfAt (h++(rS h.length++r)) h.length []:=by
 refine⟨?_,?_,?_,?_,?_,?_,?_,?_,?_⟩
 ·rw[show h.length=h.length+0 from rfl,AF];rfl
 all_goals (rw[AF];rfl)
def vP(x:Str)(c i:Nat)(hi:i<x.length):Builtin.Str.subAt x ⟨#[c]⟩ i=decide (x.cps.toList[i]?=some c):=by
 have hi':i<x.cps.size:=hi;unfold Builtin.Str.subAt;have e:x.cps.extract i (i+1)=#[x.cps[i]]:=by
  apply Array.ext
  ·simp;lia
  ·intro j h1 h2
   have:j=0:=by simp at h2;lia
   subst this;simp
 show (x.cps.extract i (i+1) == #[c])=_
 rw[e];have:x.cps.toList[i]?=some x.cps[i]:=by simp[hi']
 rw[this];by_cases q:x.cps[i]=c
 ·simp[q]
 ·simp[q]
theorem rT(x:Str)(c:Nat):∀ (n i:Nat) (st:Array Nat×Nat),i+n=x.length+1->st.2<=i->st.1.size<=i->(forIn (List.range' i n) st (StrLaws.occBody x ⟨#[c]⟩ x.length (x.length+1))).run.fst.size=st.1.size+(x.cps.toList.drop i).count c
 |0,i,st,hn,_,_=>by
  rw[P2 (by simp;simp only[Str.length] at hn;lia)];simp
 |n+1,i,st,hn,h2,h3=>by
  rw[List.range'_succ,SO];unfold StrLaws.occBody
  by_cases hi:i<x.length
  ·have hi':i<x.cps.size:=hi
   have hd:x.cps.toList.drop i=x.cps[i]'hi'::x.cps.toList.drop (i+1):=by
    rw[RU (show i<x.cps.toList.length by simpa using hi')];simp
   have hg:x.cps.toList[i]?=some (x.cps[i]'hi'):=by
    simp[hi']
   by_cases q:x.cps[i]'hi'=c
   ·have hs:Builtin.Str.subAt x ⟨#[c]⟩ i=true:=by rw[vP x c i hi,hg,q];simp
    rw[OX ⟨⟨⟨by lia,h2⟩,hi⟩,hs⟩];show (forIn (List.range' (i+1) n) (st.1.push i,i+1) (StrLaws.occBody x ⟨#[c]⟩ x.length (x.length+1))).run.fst.size=_
    rw[rT x c n (i+1) _ ⋯ (OV _) (by simp;omega),hd,q];simp;lia
   ·have hs:Builtin.Str.subAt x ⟨#[c]⟩ i=false:=by rw[vP x c i hi,hg];simp[q]
    rw[O0 (by simp[hs])];show (forIn (List.range' (i+1) n) (st.1,st.2) (StrLaws.occBody x ⟨#[c]⟩ x.length (x.length+1))).run.fst.size=_
    rw[rT x c n (i+1) _ ⋯ (by show st.2<=i+1;lia) (by show st.1.size<=i+1;lia),hd];simp[q]
  ·rw[O0 (by rintro⟨⟨_,z⟩,_⟩;exact hi z)]
   show (forIn (List.range' (i+1) n) (st.1,st.2) (StrLaws.occBody x ⟨#[c]⟩ x.length (x.length+1))).run.fst.size=_
   rw[rT x c n (i+1) _ ⋯ (by show st.2<=i+1;lia) (by show st.1.size<=i+1;lia)];rw[P2 (by simp;simp only[Str.length] at hi;lia),P2 (by simp;simp only[Str.length] at hi;lia)]
def KQ(x:Str)(c:Nat):(Builtin.Str.occurrences x ⟨#[c]⟩ 0 x.length (x.length+1)).length=x.cps.toList.count c:=by
 rw[StrLaws.occ_eq,Qt];rw[show x.length+1-0=x.length+1 from rfl,rT x c (x.length+1) 0 _ ⋯ (OV _) 's']
 simp
def vQ(x:Str):jY x=x.cps.toList.count 10:=(KQ x 10)
def dw(x y:Str):(x++y).cps.toList=x.cps.toList++y.cps.toList:=by
 show (x.cps++y.cps).toList=_
 simp
def KR(x y:Str):jY (x++y)=jY x+jY y:=by
 rw[vQ,vQ,vQ,dw,List.count_append]
def cG(x:Str):x.length=x.cps.toList.length:=by simp[Str.length]
def d6(x y:Str):(x++y).length=x.length+y.length:=by
 rw[cG,cG,cG,dw,Pw]
def mz(rs:List Str):Pc->Str
 |.leaf x=>x
 |.fork a b=>rs.getD a "" ++ rs.getD b ""
def reads(ps:YG):List Str:=ps.foldl (λrs q=>rs++[mz rs q]) [""]
def KS(ps:YG)(q:Pc):reads (ps++[q])=reads ps++[mz (reads ps) q]:=by simp[reads]
theorem pf{α β:Type}(g:List β->α->β):∀ (qs:List α) (ms:List β),∃ r,qs.foldl (λms q=>ms++[g ms q]) ms=ms++r/\r.length=qs.length
 |[],ms=>⟨[],by simp,rfl⟩
 |q::qs,ms=>by
  obtain⟨r,e,l⟩:=pf g qs (ms++[g ms q]);exact⟨g ms q::r,by rw[Q4,e];simp,by simp[l]⟩
def rV(ps:YG):(reads ps).length=ps.length+1:=by
 obtain⟨r,e,l⟩:=pf mz ps [""];rw[reads,e];simp[l,QX]
def KU(ps qs:YG):∃ r,meas (ps++qs)=meas ps++r:=by
 unfold meas;rw[Uc];obtain⟨r,e,_⟩:=pf iM qs (ps.foldl (λms q=>ms++[iM ms q]) [ms0])
 exact⟨r,e⟩
def KW(ps qs:YG):∃ r,reads (ps++qs)=reads ps++r:=by
 unfold reads;rw[Uc];obtain⟨r,e,_⟩:=pf mz qs (ps.foldl (λms q=>ms++[mz ms q]) [""])
 exact⟨r,e⟩
def aL(h:ps <+: ps'){m:Ms}(e:(meas ps)[n]?=some m):(meas ps')[n]?=some m:=by
 obtain⟨qs,rfl⟩:=h;obtain⟨r,q⟩:=KU ps qs;rw[q,O3 (OS.mp e).1];exact e
def rW(h:ps <+: ps'){m:Str}(e:(reads ps)[n]?=some m):(reads ps')[n]?=some m:=by
 obtain⟨qs,rfl⟩:=h;obtain⟨r,q⟩:=KW ps qs;rw[q,O3 (OS.mp e).1];exact e
def rX(ps:YG)(i:Nat):ps.take i <+: ps:=(List.take_prefix i ps)
def vR(e:ps[i]?=some q):(ps.take i++[q]) <+: ps/\(ps.take i).length=i:=by
 have hi:=(OS.mp e).1;have:ps.take (i+1)=ps.take i++[q]:=by
  rw[List.take_succ,e];rfl
 exact⟨this▸List.take_prefix _ _,by simp;lia⟩
def AG(e:ps[i]?=some q):(meas ps)[i+1]?=some (iM (meas (ps.take i)) q):=by
 obtain⟨h,l⟩:=vR e;refine aL h ?_
 rw[vK,Pl (by rw[fq,l];lia),fq,l];simp
def AI(e:ps[i]?=some q):(reads ps)[i+1]?=some (mz (reads (ps.take i)) q):=by
 obtain⟨h,l⟩:=vR e;refine rW h ?_
 rw[KS,Pl (by rw[rV,l];lia),rV,l];simp
def ph(ps:YG):Pc->Prop
 |.leaf x=>fU x=true
 |.fork a b=>ForkOk ps a b
inductive Good:YG->Prop
 |nil:Good []
 |snoc {ps:YG} {q:Pc}:Good ps->q∉ps->ph ps q->Good (ps++[q])
def Good.nodup(g:Good ps):ps.Nodup:=by
 induction g with
 |nil=>exact QS
 |snoc g n ok ih=>exact Rk.mpr ⟨ih,by simp,λa ha b hb=>by simp at hb;subst hb;exactλe=>n (e▸ha)⟩
def Good.get(g:Good ps):∀ {i:Nat} {q:Pc},ps[i]?=some q->ph (ps.take i) q:=by
 induction g with
 |nil=>intro i q e;simp at e
 |@snoc ps q' g n ok ih =>
  intro i q e;by_cases hi:i<ps.length
  ·rw[O3 hi] at e
   rw[RA ⋯];exact ih e
  ·have hi2:i=ps.length:=by
    have:=(OS.mp e).1;simp at this;lia
   subst hi2;simp at e
   subst e;simpa using ok
def ForkOk.pre(F:ForkOk ps a b)(h:ps <+: ps'):ForkOk ps' a b:=by
 obtain⟨ma,mb,la,fb,h1,h2,h3,h4,h5⟩:=F.ex;exact⟨F.pa,F.pb,ma,mb,la,fb,aL h h1,aL h h2,aL h h3,aL h h4,h5⟩
structure Ky(ps:YG)(m:Ms)(x:Str)(f l:Ms):Prop where
 fl:(meas ps)[m.fl]?=some f
 ll:(meas ps)[m.ll]?=some l
 sg:m.sg=x.length
 en:m.en=jY x
 f1:1<=f.sg
 f8:f.sg<=8
 l1:1<=l.sg
 l8:l.sg<=8
 lv:1<=m.lv
 ht:0<=m.ht
 most:m.sg<=1000000000000000000
 cnt:∃ k,(m.lv=2*k+1/\9*k+f.sg<=m.sg/\9*k+l.sg<=m.sg)\/(m.lv=2*k+2/\9*k+9<=m.sg/\9*k+f.sg+l.sg<=m.sg)
 pl:bN x=true
structure Tx(ps:YG)(n:Nat)(m:Ms)(x:Str)(f l:Ms):Prop where
 n1:1<=n
 ms:(meas ps)[n]?=some m
 rd:(reads ps)[n]?=some x
 ky:Ky ps m x f l
def Ky.pre{m:Ms}(k:Ky ps m x f l)(h:ps <+: ps'):Ky ps' m x f l :=(
 { k with fl:=aL h k.fl,ll:=aL h k.ll })
def Tx.pre{ps ps':YG}{n:Nat}{m:Ms}{x:Str}{f l:Ms}(k:Tx ps n m x f l)(h:ps <+: ps'):Tx ps' n m x f l :=(
 ⟨k.n1,aL h k.ms,rW h k.rd,k.ky.pre h⟩)
def Tx.le{m:Ms}(k:Tx ps n m x f l):n<=ps.length:=by
 have:=(OS.mp k.ms).1;rw[fq] at this;lia
def mB(ma mb:Ms):Ms:=⟨ma.sg+mb.sg,ma.en+mb.en,ma.lv+mb.lv,max ma.ht mb.ht+1,ma.fl,mb.ll⟩
def pj(x y:Str):bN (x++y)=(bN x && bN y):=by unfold bN;rw[dw,List.all_append]
def KY{n' s s' f l f' l':Nat}(a:∃ k,(n=2*k+1/\9*k+f<=s/\9*k+l<=s)\/(n=2*k+2/\9*k+9<=s/\9*k+f+l<=s))(b:∃ k,(n'=2*k+1/\9*k+f'<=s'/\9*k+l'<=s')\/(n'=2*k+2/\9*k+9<=s'/\9*k+f'+l'<=s'))(hs:8<l+f') :
  ∃ k,(n+n'=2*k+1/\9*k+f<=s+s'/\9*k+l'<=s+s')\/(n+n'=2*k+2/\9*k+9<=s+s'/\9*k+f+l'<=s+s'):=by
 obtain⟨k,⟨rfl,a1,a2⟩|⟨rfl,a1,a2⟩⟩:=a<;>obtain⟨k',⟨rfl,b1,b2⟩|⟨rfl,b1,b2⟩⟩:=b
 ·exact⟨k+k',.inr ⟨by lia,by lia,by lia⟩⟩
 ·exact⟨k+k'+1,.inl ⟨by lia,by lia,by lia⟩⟩
 ·exact⟨k+k'+1,.inl ⟨by lia,by lia,by lia⟩⟩
 ·exact⟨k+k'+1,.inr ⟨by lia,by lia,by lia⟩⟩
def Ky.fork(A:Ky ps ma x fa la)(B:Ky ps mb y fb lb)(hs:8<la.sg+fb.sg)(hm:ma.sg+mb.sg<=1000000000000000000):Ky ps (mB ma mb) (x++y) fa lb:=by
 have k:=KY A.cnt B.cnt hs;refine⟨A.fl,B.ll,?_,?_,A.f1,A.f8,B.l1,B.l8,OW A.lv (Nat.le_add_right _ _),?_,hm,k,?_⟩
 ·show ma.sg+mb.sg=_;rw[d6,A.sg,B.sg]
 ·show ma.en+mb.en=_;rw[KR,A.en,B.en]
 ·have a4:=A.ht
  show 0<=max ma.ht mb.ht+1
  clear k hs hm;lia
 ·rw[pj,A.pl,B.pl];rfl
def vS(h:fU x=true):1<=x.length/\x.length<=8/\bN x=true:=by
 simp[fU] at h;exact⟨h.2.1,h.2.2,h.1⟩
def pq{l:List α}{d x:α}(e:l[i]?=some x):l.getD i d=x:=by simp[List.getD,e]
def bD(x:Str)(n:Nat):Ms:=⟨x.length,jY x,1,0,n,n⟩
def pA(g:Good ps)(e:ps[i]?=some (.leaf x)):Tx ps (i+1) (bD x (i+1)) x (bD x (i+1)) (bD x (i+1)):=by
 have hi:=(OS.mp e).1;have ok:fU x=true:=g.get e;obtain⟨s1,s2,s3⟩:=vS ok;have li:(ps.take i).length=i:=by simp;lia
 have ml:(meas (ps.take i)).length=i+1:=by rw[fq,li]
 have e1':(meas ps)[i+1]?=some (bD x (i+1)):=by rw[AG e];simp only[iM,bD];rw[ml]
 exact⟨by lia,e1',AI e,⟨e1',e1',rfl,rfl,s1,s2,s1,s2,OV 1,Int.le_refl 0,by show x.length<=_;lia,⟨0,.inl ⟨rfl,Sv (RJ _),Sv (RJ _)⟩⟩,s3⟩⟩
def pB(g:Good ps)(e:ps[i]?=some (.fork a b))(A:Tx ps a ma x fa la)(B:Tx ps b mb y fb lb):Tx ps (i+1) (mB ma mb) (x++y) fa lb:=by
 have hi:=(OS.mp e).1;have ok':ForkOk (ps.take i) a b:=g.get e;have li:(ps.take i).length=i:=by simp;lia
 have tp:=rX ps i;obtain⟨ma',mb',la',fb',q1,q2,q3,q4,q5,q6,q7⟩:=ok'.ex;have ba:=(OS.mp q1).1;have bb:=(OS.mp q2).1;rw[fq,li] at ba bb;have z1:=A.ms.symm.trans (aL tp q1);cases z1
 have z2:=B.ms.symm.trans (aL tp q2);cases z2
 have z3:=A.ky.ll.symm.trans (aL tp q3);cases z3
 have z4:=B.ky.fl.symm.trans (aL tp q4);cases z4
 have r1:(reads (ps.take i))[a]?=some x:=by
  obtain⟨w,ew⟩:∃ w,(reads (ps.take i))[a]?=some w:=⟨(reads (ps.take i))[a]'(by rw[rV,li];lia),by simp⟩
  have:=(rW tp ew).symm.trans A.rd;cases this;exact ew
 have r2:(reads (ps.take i))[b]?=some y:=by
  obtain⟨w,ew⟩:∃ w,(reads (ps.take i))[b]?=some w:=⟨(reads (ps.take i))[b]'(by rw[rV,li];lia),by simp⟩
  have:=(rW tp ew).symm.trans B.rd;cases this;exact ew
 refine⟨by lia,?_,?_,A.ky.fork B.ky q5 q7⟩
 ·rw[AG e];simp only[iM,pq q1,pq q2];rfl
 ·rw[AI e];simp only[mz,pq r1,pq r2]
def Good.tx(g:Good ps):∀ n,1<=n->n<=ps.length->∃ m x f l,Tx ps n m x f l:=by
 intro n;induction n using Nat.strongRecOn with
 |ind n ih =>
  intro h1 h2;obtain⟨i,rfl⟩:∃ i,n=i+1:=⟨n-1,(Nat.sub_add_cancel h1).symm⟩
  obtain⟨q,eq⟩:∃ q,ps[i]?=some q:=⟨ps[i],by simp⟩
  have ok:=g.get eq;have li:(ps.take i).length=i:=(vR eq).2
  cases q with
  |leaf x=>exact⟨_,_,_,_,pA g eq⟩
  |fork a b =>
   have ok':ForkOk (ps.take i) a b:=ok;obtain⟨ma,mb,la,fb,q1,q2,_⟩:=ok'.ex;have ba:=(OS.mp q1).1;have bb:=(OS.mp q2).1;rw[fq,li] at ba bb;obtain⟨_,_,_,_,A⟩:=ih a ba ok'.pa (OW (Ri ba) h2)
   obtain⟨_,_,_,_,B⟩:=ih b bb ok'.pb (OW (Ri bb) h2);exact⟨_,_,_,_,pB g eq A B⟩
structure Dd(p:Nat)(h h':AH)(ps ps':YG)(k:Nat):Prop where
 sh:ShelfAt h' p ps'
 gd:Good ps'
 pre:ps <+: ps'
 len:ps'.length<=ps.length+k
 fr:∀ i,i<=p\/p+8<i->h'[i]?=h[i]?
 hl:h'.length=h.length
def ShelfAt.keep(S:ShelfAt h p ps)(e:∀ i,p<=i->i<=p+8->h'[i]?=h[i]?):ShelfAt h' p ps:=by
 have k:∀ j,j<=8->h'[p+j]?=h[p+j]?:=λj hj=>e _ (Nat.le_add_right p j) (Pg hj p)
 exact⟨(k 0 'd').trans S.ob,(k 1 'd').trans S.h1,(k 2 'd').trans S.h2,(k 3 'd').trans S.h3,(k 4 'd').trans S.h4,(k 5 'd').trans S.h5,(k 6 'd').trans S.h6,(k 7 'd').trans S.h7,(k 8 'd').trans S.h8⟩
def ShelfAt.app(S:ShelfAt h p ps)(r:AH):ShelfAt (h++r) p ps:=by
 have:=bT S.h8;exact S.keep λi _ b=>O3 (O7 b this)
theorem AJ:∀ cs:List Nat,ow (cs.map λc=>AV.str ⟨#[c]⟩)=some (cs.map λc=>(⟨#[c]⟩:Str))
 |[]=>rfl
 |c::cs=>by simp[AJ cs]
theorem AK:∀ cs:List Nat,((cs.map λc=>(⟨#[c]⟩:Str)).map λx:Str=>x.cps.toList).flatten=cs
 |[]=>rfl
 |c::cs=>by simpa using AK cs
def KZ{cs:List Nat}(hl:cs.length<=1000000):mU (.str "") [.fl (cs.map λc=>AV.str ⟨#[c]⟩)] h=.ok (.str ⟨cs.toArray⟩) h:=by
 have e:(Str.ofString "")=Str.empty:=by decide +kernel
 unfold mU;simp only[e,Qd,dC,AJ,AK]
 rw[OX hl]
def rY(S:ShelfAt h p ps)(hi:i<=ps.length):kH [.ref p,.int i] h=.ok .non h:=by
 by_cases z:i=0
 ·subst z;simp[kH]
 ·have c:=rR S (i:=(i:Int)) ⟨by lia,by lia⟩
  simp[kH,z,S.ob,c]
def cL{m:Ms}(S:ShelfAt h p ps)(e:(meas ps)[i]?=some m):eT [.ref p,.int i] h=.ok (.int m.sg) h:=by
 have hi:=(OS.mp e).1;rw[fq] at hi;simp[eT,rY S (show i<=ps.length by lia),S.ob,S.h3,hU e]
def cZ{m:Ms}(S:ShelfAt h p ps)(e:(meas ps)[i]?=some m):hE [.ref p,.int i] h=.ok (.int m.ht) h:=by
 have hi:=(OS.mp e).1;rw[fq] at hi;simp[hE,rY S (show i<=ps.length by lia),S.ob,S.h6,hU e]
def AN{m:Ms}(S:ShelfAt h p ps)(e:(meas ps)[i]?=some m):oY [.ref p,.int i] h=.ok (.int m.fl) h:=by
 have hi:=(OS.mp e).1;rw[fq] at hi;simp[oY,rY S (show i<=ps.length by lia),S.ob,S.h7,hU e]
def AQ{m:Ms}(S:ShelfAt h p ps)(e:(meas ps)[i]?=some m):oX [.ref p,.int i] h=.ok (.int m.ll) h:=by
 have hi:=(OS.mp e).1;rw[fq] at hi;simp[oX,rY S (show i<=ps.length by lia),S.ob,S.h8,hU e]
def lp:Nat->Nat×Nat
 |0=>(1,2)
 |n+1=>((lp n).2,(lp n).1+(lp n).2)
def ll(n:Nat):Nat:=(lp n).1
def ls(n:Nat):Nat:=9*(ll n / 2)+ll n % 2
def jZ(n:Nat):ll (n+2)=ll n+ll (n+1):=(rfl)
theorem AR:∀ n,ll n<=ll (n+1)
 |0=>by decide
 |n+1=>by rw[show n+1+1=n+2 from rfl,jZ];lia
def K0(h:a<=b):ll a<=ll b:=by
 induction h with
 |refl=>exact OV _
 |step h ih=>exact OW ih (AR _)
def K1(h:a<=b):ls a<=ls b:=by
 have:=K0 h;unfold ls;lia
def K3(h1:i<=j+1)(h2:j<=i+1)(u1:ll i<=a)(u2:ll j<=b):ll (max i j+1)<=a+b:=by
 rcases Nat.lt_trichotomy i j with c|c|c
 ·have e':j=i+1:=Nat.le_antisymm h2 c
  subst e'
  rw[Nat.max_eq_right (RY i),jZ];exact To u1 u2
 ·subst c
  rw[Nat.max_self];refine OW ?_ (To u1 u2)
  cases i with
  |zero=>exact OV 2
  |succ k=>rw[show k+1+1=k+2 from rfl,jZ];exact Nat.add_le_add_right (AR k) _
 ·have e':i=j+1:=Nat.le_antisymm h1 c
  subst e'
  rw[Nat.max_eq_left (RY j),jZ,QX];exact To u1 u2
def K4{x y:Int}(hx:0<=x)(hy:0<=y)(q:(x-y).natAbs<=1)(u1:ll x.toNat<=a)(u2:ll y.toNat<=b):ll (max x y+1).toNat<=a+b:=by
 obtain⟨i,rfl⟩:=P6 hx;obtain⟨j,rfl⟩:=P6 hy;have e:(max (i:Int) j+1).toNat=max i j+1:=by clear u1 u2 q;omega
 rw[e];exact K3 (by clear u1 u2 e;omega) (by clear u1 u2 e;lia) u1 u2
def Good.lv{ps:YG}(g:Good ps):∀ n m x f l,Tx ps n m x f l->ll m.ht.toNat<=m.lv:=by
 intro n;induction n using Nat.strongRecOn with
 |ind n ih =>
  intro m x f l T;have hn:=T.n1;have hle:=T.le;obtain⟨i,rfl⟩:∃ i,n=i+1:=⟨n-1,by lia⟩
  obtain⟨q,eq⟩:∃ q,ps[i]?=some q:=⟨ps[i],by simp⟩
  cases q with
  |leaf y =>
   have z:=(pA g eq).ms.symm.trans T.ms;cases z
   exact OV 1
  |fork a b =>
   have ok':ForkOk (ps.take i) a b:=g.get eq;have li:(ps.take i).length=i:=by simp;lia
   obtain⟨ma,mb,la,fb,q1,q2,q3,q4,q5,q6,q7⟩:=ok'.ex;have ba:=(OS.mp q1).1;have bb:=(OS.mp q2).1;rw[fq,li] at ba bb;obtain⟨ma',x1,fa,la',A⟩:=g.tx a ok'.pa ⋯
   obtain⟨mb',y1,fb',lb,B⟩:=g.tx b ok'.pb ⋯;have tp:=rX ps i;have z1:=A.ms.symm.trans (aL tp q1);cases z1
   have z2:=B.ms.symm.trans (aL tp q2);cases z2
   have u1:=ih a ⋯ _ _ _ _ A;have u2:=ih b ⋯ _ _ _ _ B;have z:=(pB g eq A B).ms.symm.trans T.ms;cases z
   exact K4 A.ky.ht B.ky.ht q6 u1 u2
def Tx.ls{ps:YG}(g:Good ps){n:Nat}{m:Ms}{x:Str}{f l:Ms}(T:Tx ps n m x f l):Sk.ls m.ht.toNat<=m.sg:=by
 have u:=g.lv _ _ _ _ _ T;have f1:=T.ky.f1;unfold Sk.ls;obtain⟨k,⟨e,a,_⟩|⟨e,a,_⟩⟩:=T.ky.cnt
 ·rw[e] at u;generalize ll m.ht.toNat=q at *;clear e;lia
 ·rw[e] at u;generalize ll m.ht.toNat=q at *;clear e;lia
def Good.kind(g:Good ps){m:Ms}(T:Tx ps n m x f l) :
  (ps[n-1]?=some (.leaf x)/\m.ht=0/\m=bD x n/\1<=x.length/\x.length<=8)\/∃ a b ma mb y z fa la fb lb,ps[n-1]?=some (.fork a b)/\a<n/\b<n/\Tx ps a ma y fa la/\Tx ps b mb z fb lb/\x=y++z/\m=mB ma mb/\(ma.ht-mb.ht).natAbs<=1:=by
 have hn:=T.n1;have hle:=T.le;obtain⟨i,rfl⟩:∃ i,n=i+1:=⟨n-1,by lia⟩
 obtain⟨q,eq⟩:∃ q,ps[i]?=some q:=⟨ps[i],by simp⟩
 cases q with
 |leaf y =>
  have L:=pA g eq;have z:=L.ms.symm.trans T.ms;cases z
  have z2:=L.rd.symm.trans T.rd;cases z2
  have ok:fU x=true:=g.get eq;obtain⟨s1,s2,s3⟩:=vS ok;exact .inl ⟨eq,rfl,rfl,s1,s2⟩
 |fork a b =>
  have ok':ForkOk (ps.take i) a b:=g.get eq;have li:(ps.take i).length=i:=by simp;lia
  obtain⟨ma,mb,la,fb,q1,q2,q3,q4,q5,q6,q7⟩:=ok'.ex;have ba:=(OS.mp q1).1;have bb:=(OS.mp q2).1;rw[fq,li] at ba bb;obtain⟨ma',y,fa,la',A⟩:=g.tx a ok'.pa ⋯
  obtain⟨mb',z,fb',lb,B⟩:=g.tx b ok'.pb ⋯;have tp:=rX ps i;have z1:=A.ms.symm.trans (aL tp q1);cases z1
  have z2:=B.ms.symm.trans (aL tp q2);cases z2
  have F:=pB g eq A B;have z3:=F.ms.symm.trans T.ms;cases z3
  have z4:=F.rd.symm.trans T.rd;cases z4
  exact .inr ⟨a,b,ma,mb,y,z,fa,la',fb',lb,eq,by lia,by lia,A,B,rfl,rfl,q6⟩
def rZ(S:ShelfAt h p ps)(n1:1<=n)(e:ps[n-1]?=some q):eU [.ref p,.int n] h=.ok q.av h:=by
 have:=KC S e;rw[show ((n-1:Nat):Int)+1=(n:Int) by lia] at this;exact this
def AS{m a b:Int}(e:m=max a b+1)(ha:0<=a)(hb:0<=b):∃ j:Nat,m.toNat=j+1/\a.toNat<=j/\b.toNat<=j/\0<m:=by
 obtain⟨x,rfl⟩:=P6 ha;obtain⟨y,rfl⟩:=P6 hb;subst e;exact⟨max x y,by lia,Nat.le_max_left _ _,Nat.le_max_right _ _,by lia⟩
def cw(e:x.cps.toList=y.cps.toList):x=y:=by
 cases x;cases y
 simpa using e
def eY(x y z:Str):(x++y)++z=x++(y++z):=(cw (by simp only[dw,R3]))
def vT:1000000000000000000<ls 83:=by decide +kernel
def eZ(g:Good ps){m:Ms}(T:Tx ps n m x f l):m.ht<=82:=by
 have h1:=T.ls g;have h2:=T.ky.most;have h3:=T.ky.ht;apply Classical.byContradiction
 intro h4;have:=K1 (show 83<=m.ht.toNat by lia);have:=vT;lia
def Good.cut(g:Good ps){m:Ms}(T:Tx ps n m x f l)(hh:0<m.ht) :
  ∃ a b ma mb y z la fb,ps[n-1]?=some (.fork a b)/\Tx ps a ma y f la/\Tx ps b mb z fb l/\x=y++z/\m=mB ma mb /\ -1<=ma.ht-mb.ht/\ma.ht-mb.ht<=1/\8<la.sg+fb.sg:=by
 rcases g.kind T with⟨_,e,_⟩|⟨a,b,ma,mb,y,z,fa,la,fb,lb,e1,e2,e3,A,B,e4,e5,e6⟩
 ·lia
 ·have ok:ForkOk (ps.take (n-1)) a b:=g.get e1
  obtain⟨ma',mb',la',fb',q1,q2,q3,q4,q5,_⟩:=(ok.pre (rX ps _)).ex;have z1:=A.ms.symm.trans q1;cases z1
  have z2:=B.ms.symm.trans q2;cases z2
  have z3:=A.ky.ll.symm.trans q3;cases z3
  have z4:=B.ky.fl.symm.trans q4;cases z4
  have f1:=T.ky.fl;have l1:=T.ky.ll;rw[e5] at f1 l1;have z5:=f1.symm.trans A.ky.fl;cases z5
  have z6:=l1.symm.trans B.ky.ll;cases z6
  exact⟨a,b,ma,mb,y,z,la,fb,e1,A,B,e4,e5,by lia,by lia,q5⟩
structure Dn(F:AH->Out AV)(p:Nat)(h h':AH)(ps ps':YG)(k n:Nat):Prop where
 ev:F h=.ok (.int n) h'
 dd:Dd p h h' ps ps' k
 re:∀ h2 ps2,ShelfAt h2 p ps2->Good ps2->ps' <+: ps2->F h2=.ok (.int n) h2
def Dd.trans{p:Nat}{h h' h'':AH}{ps ps' ps'':YG}{k k' k2:Nat}(a:Dd p h h' ps ps' k)(b:Dd p h' h'' ps' ps'' k')(hk:k+k'<=k2):Dd p h h'' ps ps'' k2 :=(
 ⟨b.sh,b.gd,a.pre.trans b.pre,by have:=a.len;have:=b.len;lia,λi hi=>(b.fr i hi).trans (a.fr i hi),b.hl.trans a.hl⟩)
def Dd.refl(S:ShelfAt h p ps)(g:Good ps):Dd p h h ps ps 0:=(⟨S,g,P0 _,by lia,λ_ _=>rfl,rfl⟩)
variable{F:AH->Out AV}
def Dn.seq{F1:AH->Out AV}{F2:AV->AH->Out AV}{ps2:YG}{k n2:Nat}(S:ShelfAt h p ps)(g:Good ps)(d1:Dn F1 p h h1 ps ps1 k1 n1)(d2:Dn (F2 (.int n1)) p h1 h2 ps1 ps2 k2 n2)(eq:∀ hh pp,ShelfAt hh p pp->Good pp->ps <+: pp->F hh=(F1 hh).bind F2)(hk:k1+k2<=k):Dn F p h h2 ps ps2 k n2:=by
 refine⟨?_,d1.dd.trans d2.dd hk,λh3 ps3 S3 g3 p3=>?_⟩
 ·rw[eq h ps S g (P0 _),d1.ev];exact d2.ev
 ·rw[eq h3 ps3 S3 g3 (d1.dd.pre.trans (d2.dd.pre.trans p3)),d1.re h3 ps3 S3 g3 (d2.dd.pre.trans p3)]
  exact d2.re h3 ps3 S3 g3 p3
def Dn.as{F1:AH->Out AV}{k:Nat}(S:ShelfAt h p ps)(g:Good ps)(d1:Dn F1 p h h1 ps ps1 k1 n1)(eq:∀ hh pp,ShelfAt hh p pp->Good pp->ps <+: pp->F hh=F1 hh)(hk:k1<=k):Dn F p h h1 ps ps1 k n1:=by
 refine⟨?_,{ d1.dd with len:=OW d1.dd.len (Pg hk _) },λh3 ps3 S3 g3 p3=>?_⟩
 ·rw[eq h ps S g (P0 _)];exact d1.ev
 ·rw[eq h3 ps3 S3 g3 (d1.dd.pre.trans p3)];exact d1.re h3 ps3 S3 g3 p3
def Dn.val(S:ShelfAt h p ps)(g:Good ps)(eq:∀ hh pp,ShelfAt hh p pp->Good pp->ps <+: pp->F hh=.ok (.int n) hh):Dn F p h h ps ps 0 n :=(
 ⟨eq h ps S g (P0 _),Dd.refl S g,λh3 ps3 S3 g3 p3=>eq h3 ps3 S3 g3 p3⟩)
def cT(h:ps <+: ps')(e:ps[i]?=some q):ps'[i]?=some q:=by
 obtain⟨r,rfl⟩:=h;rw[O3 (OS.mp e).1];exact e
def r8(S:ShelfAt h p ps)(g:Good ps)(hx:fU x=true)(hz:ps.length<16000000) :
  ∃ (n:Nat) (ps':YG) (h':AH),Dn (eh [.ref p,.str x]) p h h' ps ps' 1 n/\Tx ps' n (bD x n) x (bD x n) (bD x n):=by
 obtain⟨s1,s2,s3⟩:=vS hx;have hs:x.length<=sizeLine:=OW s2 'd';by_cases hq:Pc.leaf x∈ps
 ·obtain⟨i,hi,e⟩:=QZ hq
  have e':ps[i]?=some (.leaf x):=by rw[O6 hi,e]
  exact⟨i+1,ps,h,⟨vN S g.nodup hx hs e',⟨S,g,P0 _,by lia,λ_ _=>rfl,rfl⟩,λh2 ps2 S2 g2 p2=>vN S2 g2.nodup hx hs (cT p2 e')⟩,pA g e'⟩
 ·have g':Good (ps++[.leaf x]):=.snoc g hq hx
  have e':(ps++[Pc.leaf x])[ps.length]?=some (.leaf x):=by simp
  exact⟨ps.length+1,_,_,⟨KI S hx hs hq hz,⟨rQ S,g',TV _ _,by simp,λi hi=>AB hi,AA _ _ _⟩,λh2 ps2 S2 g2 p2=>vN S2 g2.nodup hx hs (cT p2 e')⟩,pA g' e'⟩
def gr(S:ShelfAt h p ps)(g:Good ps)(A:Tx ps a ma x fa la)(B:Tx ps b mb y fb lb)(hc:8<la.sg+fb.sg)(v1:-1<=ma.ht-mb.ht)(v2:ma.ht-mb.ht<=1)(hm:ma.sg+mb.sg<=1000000000000000000)(hz:ps.length<16000000) :
  ∃ (n:Nat) (ps':YG) (h':AH),Dn (aV [.ref p,.int a,.int b]) p h h' ps ps' 1 n/\Tx ps' n (mB ma mb) (x++y) fa lb:=by
 have F:ForkOk ps a b:=⟨A.n1,B.n1,ma,mb,la,fb,A.ms,B.ms,A.ky.ll,B.ky.fl,hc,by lia,hm⟩
 by_cases hq:Pc.fork a b∈ps
 ·obtain⟨i,hi,e⟩:=QZ hq
  have e':ps[i]?=some (.fork a b):=by rw[O6 hi,e]
  exact⟨i+1,ps,h,⟨vO S g.nodup F e',⟨S,g,P0 _,by lia,λ_ _=>rfl,rfl⟩,λh2 ps2 S2 g2 p2=>vO S2 g2.nodup (F.pre p2) (cT p2 e')⟩,pB g e' A B⟩
 ·have g':Good (ps++[.fork a b]):=.snoc g hq F
  have e':(ps++[Pc.fork a b])[ps.length]?=some (.fork a b):=by simp
  have pr:ps <+: ps++[Pc.fork a b]:=TV _ _;exact⟨ps.length+1,_,_,⟨KM S F hq hz,⟨rQ S,g',pr,by simp,λi hi=>AB hi,AA _ _ _⟩,λh2 ps2 S2 g2 p2=>vO S2 g2.nodup (F.pre (pr.trans p2)) (cT p2 e')⟩,pB g' e' (A.pre pr) (B.pre pr)⟩
def gs(ma mb:Ms):(mB ma mb).sg=ma.sg+mb.sg:=(rfl)
def bJ(ma mb:Ms):(mB ma mb).ht=max ma.ht mb.ht+1:=(rfl)
def i1(s:Str)(a b:Int)(h:AH):aj (.tup [.str s,.int a,.int b]) (.int 1) h=.ok (.int a) h:=(rfl)
def i2(s:Str)(a b:Int)(h:AH):aj (.tup [.str s,.int a,.int b]) (.int 2) h=.ok (.int b) h:=(rfl)
def gu(S:ShelfAt h p ps)(n1:1<=n)(e:ps[n-1]?=some (.fork a b)):eU [.ref p,.int n] h=.ok (.tup [.str "fork",.int a,.int b]) h:=(rZ S n1 e)
def vU(S:ShelfAt h p ps)(ea:(meas ps)[a]?=some ma)(eb:(meas ps)[b]?=some mb)(hd:mb.ht-ma.ht<2) :
  gD [.ref p,.int a,.int b] h=aV [.ref p,.int a,.int b] h:=by
 have f1:=cZ S ea;have f2:=cZ S eb;generalize hF:aV [.ref p,.int a,.int b] h=R
 simp[gD,S.ob,f1,f2,hd,hF]
 cases R<;>rfl
def vV(S:ShelfAt h p ps)(b1:1<=b)(ea:(meas ps)[a]?=some ma)(eb:(meas ps)[b]?=some mb)(e:ps[b-1]?=some (.fork c d))(ec:(meas ps)[c]?=some mc)(ed:(meas ps)[d]?=some md)(hd:¬ mb.ht-ma.ht<2)(hh:mc.ht<=md.ht) :
  gD [.ref p,.int a,.int b] h=(aV [.ref p,.int a,.int c] h).bind λv h1=>aV [.ref p,v,.int d] h1:=by
 have f1:=cZ S ea;have f2:=cZ S eb;have f3:=gu S b1 e;have f4:=cZ S ec;have f5:=cZ S ed;generalize hF:aV [.ref p,.int a,.int c] h=R
 simp[gD,S.ob,f1,f2,hd,f3,i1,i2,f4,f5,hh,hF,-aj]
 cases R with
 |ok v h1=>dsimp only;cases aV [.ref p,v,.int d] h1<;>rfl
 |ex c h1=>rfl
 |bad=>rfl
def dy(p:Nat)(F:AH->Out AV)(h:AH):Out AV:=match h[p]? with
 |some (.ins c' _)=>if c'=0 then F h else .bad
 |_=>.bad
def AU(S:ShelfAt h p ps)(F:AH->Out AV):dy p F h=F h:=by simp[dy,S.ob]
def vW(S:ShelfAt h p ps)(b1:1<=b)(c1:1<=c)(ea:(meas ps)[a]?=some ma)(eb:(meas ps)[b]?=some mb)(e:ps[b-1]?=some (.fork c d))(ec:(meas ps)[c]?=some mc)(ed:(meas ps)[d]?=some md)(e2:ps[c-1]?=some (.fork i j))(hd:¬ mb.ht-ma.ht<2)(hh:¬ mc.ht<=md.ht) :
  gD [.ref p,.int a,.int b] h=(aV [.ref p,.int a,.int i] h).bind λv h1=>(dy p (aV [.ref p,.int j,.int d]) h1).bind λw h2=>aV [.ref p,v,w] h2:=by
 have f1:=cZ S ea;have f2:=cZ S eb;have f3:=gu S b1 e;have f4:=cZ S ec;have f5:=cZ S ed;have f6:=gu S c1 e2;generalize hF:aV [.ref p,.int a,.int i] h=R
 simp[gD,S.ob,f1,f2,hd,f3,i1,i2,f4,f5,hh,f6,hF,-aj]
 cases R with
 |ok v h1 =>
  unfold dy;dsimp only
  cases hx:h1[p]? with
  |none=>rfl
  |some o =>
   cases o with
   |lst l=>rfl
   |dct q l=>rfl
   |dcx l=>rfl
   |dcz b l=>rfl
   |ins c' l =>
    dsimp only;by_cases z:c'=0
    ·rw[OX z]
     cases aV [.ref p,.int j,.int d] h1 with
     |ok w h2=>dsimp only;cases aV [.ref p,v,w] h2<;>rfl
     |ex c h2=>rfl
     |bad=>rfl
    ·rw[O0 z]
 |ex c h1=>rfl
 |bad=>rfl
def vX{a b m:Int}(h1:-1<=b-a)(h2:b-a<2)(e:m=max a b+1):max a b<=m/\m<=max a b+1/\(b-a<=1->m=max a b+1):=by lia
def K5{a b c d i j:Int}(ht:b=max c d+1)(ht2:c=max i j+1)(w1:-1<=c-d)(w2:c-d<=1)(v2:b-a<=2)(q:¬ b-a<2)(r:¬ c<=d):max a b<=max (max a i+1) (max j d+1)+1/\max (max a i+1) (max j d+1)+1<=max a b+1/\(b-a<=1->max (max a i+1) (max j d+1)+1=max a b+1):=by
 have hi:=Int.le_max_left i j;have hj:=Int.le_max_right i j;generalize max i j=k at *;rw[Qr (show d<=c by lia)] at ht
 rw[Qr (show i<=a by(clear hj r q w2 w1;lia)),QG (show j<=d by lia),QG (show a<=b by(clear hj hi ht2 r v2 w2 w1 ht;lia)),Qr (show d+1<=a+1 by(clear hj hi ht2 q w2;lia))];(clear hj hi ht2 r w2 w1 ht;omega)
def K6{a b c d i j:Int}(ht:a=max c d+1)(ht2:d=max i j+1)(w1:-1<=c-d)(w2:c-d<=1)(v2:a-b<=2)(q:¬ a-b<2)(r:¬ d<=c):max a b<=max (max c i+1) (max j b+1)+1/\max (max c i+1) (max j b+1)+1<=max a b+1/\(a-b<=1->max (max c i+1) (max j b+1)+1=max a b+1):=by
 have hi:=Int.le_max_left i j;have hj:=Int.le_max_right i j;generalize max i j=k at *;rw[QG (show c<=d by lia)] at ht
 rw[Qr (show i<=c by lia),QG (show j<=b by(clear hi r q w2 w1;lia)),Qr (show b<=a by(clear hj hi ht2 r v2 w2 w1 ht;lia)),Qr (show b+1<=c+1 by(clear hj hi ht2 r v2 w2;lia))];lia
def AW(S:ShelfAt h p ps)(g:Good ps)(A:Tx ps a ma x fa la)(B:Tx ps b mb y fb lb)(hc:8<la.sg+fb.sg)(v1:-1<=mb.ht-ma.ht)(v2:mb.ht-ma.ht<=2)(hm:ma.sg+mb.sg<=1000000000000000000)(hz:ps.length+3<16000000) :
  ∃ (n:Nat) (ps':YG) (h':AH) (m:Ms),Dn (gD [.ref p,.int a,.int b]) p h h' ps ps' 3 n/\Tx ps' n m (x++y) fa lb/\max ma.ht mb.ht<=m.ht/\m.ht<=max ma.ht mb.ht+1/\(mb.ht-ma.ht<=1->m.ht=max ma.ht mb.ht+1):=by
 by_cases q:mb.ht-ma.ht<2
 ·obtain⟨n,ps',h',d,T⟩:=gr S g A B hc ⋯ ⋯ hm ⋯
  exact⟨n,ps',h',_,d.as S g (λhh pp S' _ pr=>vU S' (aL pr A.ms) (aL pr B.ms) q) ⋯,T,vX v1 q (bJ ma mb)⟩
 ·obtain⟨c,d,mc,md,y1,y2,lc,fd,e,C,D,rfl,em,w1,w2,w3⟩:=g.cut B (by have:=A.ky.ht;lia)
  have sg:=congrArg Ms.sg em;have ht:=congrArg Ms.ht em;rw[gs] at sg;rw[bJ] at ht;by_cases r:mc.ht<=md.ht
  ·obtain⟨n1,ps1,h1,d1,T1⟩:=gr S g A C hc ⋯ ⋯ ⋯ ⋯
   obtain⟨n2,ps2,h2,d2,T2⟩:=gr d1.dd.sh d1.dd.gd T1 (D.pre d1.dd.pre) w3 (by rw[bJ];(clear T1 d1 r ht sg w3 w2 em B D C e q hz hm v2 v1 hc A g S;lia)) (by rw[bJ];lia) (by rw[gs];lia) (by have:=d1.dd.len;lia)
   rw[eY] at T2;refine⟨n2,ps2,h2,_,Dn.seq S g d1 d2 (λhh pp S' _ pr=>vV S' B.n1 (aL pr A.ms) (aL pr B.ms) (cT pr e) (aL pr C.ms) (aL pr D.ms) q r) ⋯,T2,?_⟩
   rw[bJ,bJ];lia
  ·obtain⟨i,j,mi,mj,z1,z2,li,fj,e2,I,J,rfl,em2,u1,u2,u3⟩:=g.cut C (by have:=D.ky.ht;lia)
   have sg2:=congrArg Ms.sg em2;have ht2:=congrArg Ms.ht em2;rw[gs] at sg2;rw[bJ] at ht2;obtain⟨n1,ps1,h1,d1,T1⟩:=gr S g A I hc ⋯ ⋯ ⋯ ⋯
   obtain⟨n2,ps2,h2,d2,T2⟩:=gr d1.dd.sh d1.dd.gd (J.pre d1.dd.pre) (D.pre d1.dd.pre) w3 (by(clear T1 d1 sg2 u3 u1 em2 B C J I e2 ht sg w3 w2 w1 em D e q hz hm v2 v1 hc A g S;lia)) (by(clear T1 d1 sg2 u3 u2 u1 em2 B C J I e2 r ht sg w3 w1 em D e q hz hm v2 v1 hc A g S;lia)) ⋯ (by have:=d1.dd.len;lia)
   obtain⟨n3,ps3,h3,d3,T3⟩:=gr d2.dd.sh d2.dd.gd (T1.pre d2.dd.pre) T2 u3 (by rw[bJ,bJ];lia) (by rw[bJ,bJ];lia) (by rw[gs,gs];lia) (by have:=d1.dd.len;have:=d2.dd.len;lia)
   have d2':Dn (dy p (aV [.ref p,.int j,.int d])) p h1 h2 ps1 ps2 1 n2:=d2.as d1.dd.sh d1.dd.gd (λhh pp S' _ _=>AU S' _) (OV _);have d23:=Dn.seq (F:=λh1=>(dy p (aV [.ref p,.int j,.int d]) h1).bind λw h2=>aV [.ref p,.int n1,w] h2) (F2:=λw h2=>aV [.ref p,.int n1,w] h2) d1.dd.sh d1.dd.gd d2' d3 (λ_ _ _ _ _=>rfl) (k:=2) ⋯;have ea:(x++z1)++(z2++y2)=x++(z1++z2++y2):=by rw[eY,eY]
   rw[ea] at T3;refine⟨n3,ps3,h3,_,Dn.seq (F2:=λv h1=>(dy p (aV [.ref p,.int j,.int d]) h1).bind λw h2=>aV [.ref p,v,w] h2) S g d1 d23 (λhh pp S' _ pr=>vW S' B.n1 C.n1 (aL pr A.ms) (aL pr B.ms) (cT pr e) (aL pr C.ms) (aL pr D.ms) (cT pr e2) q r) ⋯,T3,?_⟩
   rw[bJ,bJ,bJ];exact K5 ht ht2 w1 w2 v2 q r
def vY(S:ShelfAt h p ps)(ea:(meas ps)[a]?=some ma)(eb:(meas ps)[b]?=some mb)(hd:ma.ht-mb.ht<2) :
  iJ [.ref p,.int a,.int b] h=aV [.ref p,.int a,.int b] h:=by
 have f1:=cZ S ea;have f2:=cZ S eb;generalize hF:aV [.ref p,.int a,.int b] h=R
 simp[iJ,S.ob,f1,f2,hd,hF]
 cases R<;>rfl
def vZ(S:ShelfAt h p ps)(a1:1<=a)(ea:(meas ps)[a]?=some ma)(eb:(meas ps)[b]?=some mb)(e:ps[a-1]?=some (.fork c d))(ec:(meas ps)[c]?=some mc)(ed:(meas ps)[d]?=some md)(hd:¬ ma.ht-mb.ht<2)(hh:md.ht<=mc.ht) :
  iJ [.ref p,.int a,.int b] h=(aV [.ref p,.int d,.int b] h).bind λv h1=>aV [.ref p,.int c,v] h1:=by
 have f1:=cZ S ea;have f2:=cZ S eb;have f3:=gu S a1 e;have f4:=cZ S ec;have f5:=cZ S ed;generalize hF:aV [.ref p,.int d,.int b] h=R
 simp[iJ,S.ob,f1,f2,hd,f3,i1,i2,f4,f5,hh,hF,-aj]
 cases R with
 |ok v h1=>dsimp only;cases aV [.ref p,.int c,v] h1<;>rfl
 |ex c h1=>rfl
 |bad=>rfl
def v5(S:ShelfAt h p ps)(a1:1<=a)(d1:1<=d)(ea:(meas ps)[a]?=some ma)(eb:(meas ps)[b]?=some mb)(e:ps[a-1]?=some (.fork c d))(ec:(meas ps)[c]?=some mc)(ed:(meas ps)[d]?=some md)(e2:ps[d-1]?=some (.fork i j))(hd:¬ ma.ht-mb.ht<2)(hh:¬ md.ht<=mc.ht) :
  iJ [.ref p,.int a,.int b] h=(aV [.ref p,.int c,.int i] h).bind λv h1=>(dy p (aV [.ref p,.int j,.int b]) h1).bind λw h2=>aV [.ref p,v,w] h2:=by
 have f1:=cZ S ea;have f2:=cZ S eb;have f3:=gu S a1 e;have f4:=cZ S ec;have f5:=cZ S ed;have f6:=gu S d1 e2;generalize hF:aV [.ref p,.int c,.int i] h=R
 simp[iJ,S.ob,f1,f2,hd,f3,i1,i2,f4,f5,hh,f6,hF,-aj]
 cases R with
 |ok v h1 =>
  unfold dy;dsimp only
  cases hx:h1[p]? with
  |none=>rfl
  |some o =>
   cases o with
   |lst l=>rfl
   |dct q l=>rfl
   |dcx l=>rfl
   |dcz b l=>rfl
   |ins c' l =>
    dsimp only;by_cases z:c'=0
    ·rw[OX z]
     cases aV [.ref p,.int j,.int b] h1 with
     |ok w h2=>dsimp only;cases aV [.ref p,v,w] h2<;>rfl
     |ex c h2=>rfl
     |bad=>rfl
    ·rw[O0 z]
 |ex c h1=>rfl
 |bad=>rfl
def K7(S:ShelfAt h p ps)(g:Good ps)(A:Tx ps a ma x fa la)(B:Tx ps b mb y fb lb)(hc:8<la.sg+fb.sg)(v1:-1<=ma.ht-mb.ht)(v2:ma.ht-mb.ht<=2)(hm:ma.sg+mb.sg<=1000000000000000000)(hz:ps.length+3<16000000) :
  ∃ (n:Nat) (ps':YG) (h':AH) (m:Ms),Dn (iJ [.ref p,.int a,.int b]) p h h' ps ps' 3 n/\Tx ps' n m (x++y) fa lb/\max ma.ht mb.ht<=m.ht/\m.ht<=max ma.ht mb.ht+1/\(ma.ht-mb.ht<=1->m.ht=max ma.ht mb.ht+1):=by
 by_cases q:ma.ht-mb.ht<2
 ·obtain⟨n,ps',h',d,T⟩:=gr S g A B hc (by omega) ⋯ hm ⋯
  refine⟨n,ps',h',_,d.as S g (λhh pp S' _ pr=>vY S' (aL pr A.ms) (aL pr B.ms) q) ⋯,T,?_⟩
  rw[bJ];lia
 ·obtain⟨c,d,mc,md,y1,y2,lc,fd,e,C,D,rfl,em,w1,w2,w3⟩:=g.cut A (by have:=B.ky.ht;lia)
  have sg:=congrArg Ms.sg em;have ht:=congrArg Ms.ht em;rw[gs] at sg;rw[bJ] at ht;by_cases r:md.ht<=mc.ht
  ·obtain⟨n1,ps1,h1,d1,T1⟩:=gr S g D B hc ⋯ ⋯ ⋯ ⋯
   obtain⟨n2,ps2,h2,d2,T2⟩:=gr d1.dd.sh d1.dd.gd (C.pre d1.dd.pre) T1 w3 (by rw[bJ];lia) (by rw[bJ];lia) (by rw[gs];lia) (by have:=d1.dd.len;lia)
   rw[<- eY] at T2;refine⟨n2,ps2,h2,_,Dn.seq (F2:=λv h1=>aV [.ref p,.int c,v] h1) S g d1 d2 (λhh pp S' _ pr=>vZ S' A.n1 (aL pr A.ms) (aL pr B.ms) (cT pr e) (aL pr C.ms) (aL pr D.ms) q r) ⋯,T2,?_⟩
   rw[bJ,bJ];(clear T2 d2 T1 d1 r sg w3 w1 em A D C e hz hm v1 hc B g S;lia)
  ·obtain⟨i,j,mi,mj,z1,z2,li,fj,e2,I,J,rfl,em2,u1,u2,u3⟩:=g.cut D (by have:=C.ky.ht;lia)
   have sg2:=congrArg Ms.sg em2;have ht2:=congrArg Ms.ht em2;rw[gs] at sg2;rw[bJ] at ht2;obtain⟨n1,ps1,h1,d1,T1⟩:=gr S g C I w3 (by(clear sg2 u3 u2 em2 A D J I e2 r ht sg w3 w2 em C e q hz hm v2 v1 hc B g S;lia)) (by(clear sg2 u3 u2 em2 A D J I e2 ht sg w3 w2 w1 em C e q hz hm v2 v1 hc B g S;lia)) ⋯ ⋯
   obtain⟨n2,ps2,h2,d2,T2⟩:=gr d1.dd.sh d1.dd.gd (J.pre d1.dd.pre) (B.pre d1.dd.pre) hc ⋯ ⋯ ⋯ (by have:=d1.dd.len;lia)
   obtain⟨n3,ps3,h3,d3,T3⟩:=gr d2.dd.sh d2.dd.gd (T1.pre d2.dd.pre) T2 u3 (by rw[bJ,bJ];lia) (by rw[bJ,bJ];lia) (by rw[gs,gs];lia) (by have:=d1.dd.len;have:=d2.dd.len;lia)
   have d2':Dn (dy p (aV [.ref p,.int j,.int b])) p h1 h2 ps1 ps2 1 n2:=d2.as d1.dd.sh d1.dd.gd (λhh pp S' _ _=>AU S' _) (OV _);have d23:=Dn.seq (F:=λh1=>(dy p (aV [.ref p,.int j,.int b]) h1).bind λw h2=>aV [.ref p,.int n1,w] h2) (F2:=λw h2=>aV [.ref p,.int n1,w] h2) d1.dd.sh d1.dd.gd d2' d3 (λ_ _ _ _ _=>rfl) (k:=2) ⋯;have ea:(y1++z1)++(z2++y)=y1++(z1++z2)++y:=by rw[eY,eY,eY]
   rw[ea] at T3;refine⟨n3,ps3,h3,_,Dn.seq (F2:=λv h1=>(dy p (aV [.ref p,.int j,.int b]) h1).bind λw h2=>aV [.ref p,v,w] h2) S g d1 d23 (λhh pp S' _ pr=>v5 S' A.n1 D.n1 (aL pr A.ms) (aL pr B.ms) (cT pr e) (aL pr C.ms) (aL pr D.ms) (cT pr e2) q r) ⋯,T3,?_⟩
   rw[bJ,bJ,bJ];exact K6 ht ht2 w1 w2 v2 q r
def Dn.seq'{F1 F2:AH->Out AV}{ps2:YG}{k n2:Nat}(S:ShelfAt h p ps)(g:Good ps)(d1:Dn F1 p h h1 ps ps1 k1 n1)(d2:Dn F2 p h1 h2 ps1 ps2 k2 n2)(eq:∀ hh hh1 pp,ShelfAt hh p pp->Good pp->ps <+: pp->F1 hh=.ok (.int n1) hh1->F hh=F2 hh1)(hk:k1+k2<=k):Dn F p h h2 ps ps2 k n2:=by
 refine⟨?_,d1.dd.trans d2.dd hk,λh3 ps3 S3 g3 p3=>?_⟩
 ·rw[eq h h1 ps S g (P0 _) d1.ev];exact d2.ev
 ·rw[eq h3 h3 ps3 S3 g3 (d1.dd.pre.trans (d2.dd.pre.trans p3)) (d1.re h3 ps3 S3 g3 (d2.dd.pre.trans p3))]
  exact d2.re h3 ps3 S3 g3 p3
def v7(S:ShelfAt h p ps)(ea:(meas ps)[a]?=some ma)(eb:(meas ps)[b]?=some mb)(h1:ma.ht-mb.ht<=1)(h2:-1<=ma.ht-mb.ht) :
  fI (d+1) [.ref p,.int a,.int b] h=aV [.ref p,.int a,.int b] h:=by
 have f1:=cZ S ea;have f2:=cZ S eb;have c1:¬ 1<ma.ht-mb.ht:=by lia
 have c2:¬ ma.ht-mb.ht < -1:=by lia
 generalize hF:aV [.ref p,.int a,.int b] h=R
 simp[fI,rG,S.ob,f1,f2,c1,c2,hF]
 cases R<;>rfl
def v8{v:Int}(S:ShelfAt h p ps)(a1:1<=a)(ea:(meas ps)[a]?=some ma)(eb:(meas ps)[b]?=some mb)(ep:ps[a-1]?=some (.fork c e))(hd:1<ma.ht-mb.ht)(ev:fI d [.ref p,.int e,.int b] h=.ok (.int v) h1) :
  fI (d+1) [.ref p,.int a,.int b] h=gD [.ref p,.int c,.int v] h1:=by
 have f1:=cZ S ea;have f2:=cZ S eb;have f3:=gu S a1 ep;generalize hF:gD [.ref p,.int c,.int v] h1=R
 simp[fI,rG,S.ob,f1,f2,hd,f3,i1,i2,ev,hF,-aj]
 cases R<;>rfl
def v9{v:Int}(S:ShelfAt h p ps)(b1:1<=b)(ea:(meas ps)[a]?=some ma)(eb:(meas ps)[b]?=some mb)(ep:ps[b-1]?=some (.fork c e))(hd:ma.ht-mb.ht < -1)(ev:fI d [.ref p,.int a,.int c] h=.ok (.int v) h1) :
  fI (d+1) [.ref p,.int a,.int b] h=iJ [.ref p,.int v,.int e] h1:=by
 have f1:=cZ S ea;have f2:=cZ S eb;have f3:=gu S b1 ep;have c1:¬ 1<ma.ht-mb.ht:=by lia
 generalize hF:iJ [.ref p,.int v,.int e] h1=R
 simp[fI,rG,S.ob,f1,f2,c1,hd,f3,i1,i2,ev,hF,-aj]
 cases R<;>rfl
def r9(a b:Int):a<=max a b/\b<=max a b/\(max a b=a\/max a b=b):=by lia
def K8{a b c e m n:Int}(hh:a=max c e+1)(w1:-1<=c-e)(w2:c-e<=1)(q:1<a-b)(u1:max e b<=m)(u2:m<=max e b+1)(u3:max c m<=n)(u4:n<=max c m+1)(u5:m-c<=1->n=max c m+1):max a b<=n/\n<=max a b+1:=by
 obtain⟨x1,x2,x3⟩:=r9 c e;obtain⟨y1,y2,y3⟩:=r9 c m;generalize max c m=l,max c e=k at *;rw[Qr (show b<=e by lia)] at u1 u2
 rw[Qr (show b<=a by lia)];(clear x1 q;omega)
def K9{a b c e m n:Int}(hh:b=max c e+1)(w1:-1<=c-e)(w2:c-e<=1)(q:a-b < -1)(u1:max a c<=m)(u2:m<=max a c+1)(u3:max m e<=n)(u4:n<=max m e+1)(u5:m-e<=1->n=max m e+1):max a b<=n/\n<=max a b+1:=by
 obtain⟨x1,x2,x3⟩:=r9 c e;obtain⟨y1,y2,y3⟩:=r9 m e;generalize max m e=l,max c e=k at *;rw[QG (show a<=c by lia)] at u1 u2
 rw[QG (show a<=b by lia)];(clear x2 q;omega)
theorem pC{p:Nat}:∀ (d t:Nat) {h:AH} {ps:YG} {a b:Nat} {ma mb fa la fb lb:Ms} {x y:Str} (S:ShelfAt h p ps) (g:Good ps) (A:Tx ps a ma x fa la) (B:Tx ps b mb y fb lb) (hc:8<la.sg+fb.sg) (hm:ma.sg+mb.sg<=1000000000000000000)
  (ht:(ma.ht-mb.ht).natAbs<=t) (hd:t<d) (hz:ps.length+3*t+4<16000000),
  ∃ (n:Nat) (ps':YG) (h':AH) (m:Ms),Dn (fI d [.ref p,.int a,.int b]) p h h' ps ps' (3*t+1) n/\Tx ps' n m (x++y) fa lb/\max ma.ht mb.ht<=m.ht/\m.ht<=max ma.ht mb.ht+1
 |0,t,h,ps,a,b,ma,mb,fa,la,fb,lb,x,y,S,g,A,B,hc,hm,ht,hd,hz=>absurd hd (Qb t)
 |d+1,t,h,ps,a,b,ma,mb,fa,la,fb,lb,x,y,S,g,A,B,hc,hm,ht,hd,hz=>by
  by_cases q1:1<ma.ht-mb.ht
  ·obtain⟨c,e,mc,me,y1,y2,lc,fe,ep,C,E,rfl,em,w1,w2,w3⟩:=g.cut A (by have:=B.ky.ht;lia)
   have sg:=congrArg Ms.sg em;have hh:=congrArg Ms.ht em;rw[gs] at sg;rw[bJ] at hh;obtain⟨n1,ps1,h1,m1,d1,T1,u1,u2⟩:=pC d (t-1) S g E B hc ⋯ ⋯ ⋯ ⋯
   have s1:m1.sg=me.sg+mb.sg:=by rw[T1.ky.sg,d6,<- E.ky.sg,<- B.ky.sg]
   obtain⟨n2,ps2,h2,m2,d2,T2,u3,u4,u5⟩:=AW d1.dd.sh d1.dd.gd (C.pre d1.dd.pre) T1 w3 ⋯ ⋯ ⋯ (by have:=d1.dd.len;lia)
   rw[<- eY] at T2;exact⟨n2,ps2,h2,m2,Dn.seq' S g d1 d2 (λhh hh1 pp S' _ pr ev=>v8 S' A.n1 (aL pr A.ms) (aL pr B.ms) (cT pr ep) q1 ev) ⋯,T2,K8 hh w1 w2 q1 u1 u2 u3 u4 u5⟩
  ·by_cases q2:ma.ht-mb.ht < -1
   ·obtain⟨c,e,mc,me,y1,y2,lc,fe,ep,C,E,rfl,em,w1,w2,w3⟩:=g.cut B (by have:=A.ky.ht;lia)
    have sg:=congrArg Ms.sg em;have hh:=congrArg Ms.ht em;rw[gs] at sg;rw[bJ] at hh;obtain⟨n1,ps1,h1,m1,d1,T1,u1,u2⟩:=pC d (t-1) S g A C hc ⋯ ⋯ ⋯ ⋯
    have s1:m1.sg=ma.sg+mc.sg:=by rw[T1.ky.sg,d6,<- A.ky.sg,<- C.ky.sg]
    obtain⟨n2,ps2,h2,m2,d2,T2,u3,u4,u5⟩:=K7 d1.dd.sh d1.dd.gd T1 (E.pre d1.dd.pre) w3 ⋯ ⋯ ⋯ (by have:=d1.dd.len;lia)
    rw[eY] at T2;exact⟨n2,ps2,h2,m2,Dn.seq' S g d1 d2 (λhh hh1 pp S' _ pr ev=>v9 S' B.n1 (aL pr A.ms) (aL pr B.ms) (cT pr ep) q2 ev) ⋯,T2,K9 hh w1 w2 q2 u1 u2 u3 u4 u5⟩
   ·obtain⟨n,ps',h',dn,T⟩:=gr S g A B hc ⋯ ⋯ hm ⋯
    exact⟨n,ps',h',_,dn.as S g (λhh pp S' _ pr=>v7 S' (aL pr A.ms) (aL pr B.ms) ⋯ ⋯) ⋯,T,by rw[bJ];lia,by rw[bJ];lia⟩
def nJ(S:ShelfAt h p ps)(n1:1<=n)(e:ps[n-1]?=some (.leaf x)):eU [.ref p,.int n] h=.ok (.tup [.str "leaf",.str x]) h:=(rZ S n1 e)
def sf(x:Str)(h:AH):aj (.tup [.str "leaf",.str x]) (.int 0) h=.ok (.str "leaf") h:=(rfl)
def mC(a b:Int)(h:AH):aj (.tup [.str "fork",.int a,.int b]) (.int 0) h=.ok (.str "fork") h:=(rfl)
def si(x:Str)(h:AH):aj (.tup [.str "leaf",.str x]) (.int 1) h=.ok (.str x) h:=(rfl)
def sj(h:AH):ay (.str "leaf") (.str "leaf") h=.ok (.bl true) h:=by simp
def mD(h:AH):ay (.str "fork") (.str "leaf") h=.ok (.bl false) h:=by
 have:¬ (Str.ofString "fork"=Str.ofString "leaf"):=by decide +kernel
 simp[this]
def wa{L:Int}(S:ShelfAt h p ps)(a1:1<=a)(ep:ps[a-1]?=some (.leaf x)):ig (d+1) [.ref p,.int a,.int L] h=.ok (.int L) h:=by
 simp[ig,vF,S.ob,nJ S a1 ep,sf,sj,-aj,-ay]
def wb{L v:Int}(S:ShelfAt h p ps)(a1:1<=a)(ep:ps[a-1]?=some (.fork c e))(ev:ig d [.ref p,.int e,.int L] h=.ok (.int v) h1) :
  ig (d+1) [.ref p,.int a,.int L] h=aV [.ref p,.int c,.int v] h1:=by
 generalize hF:aV [.ref p,.int c,.int v] h1=R
 simp[ig,vF,S.ob,gu S a1 ep,mC,i1,i2,mD,ev,hF,-aj,-ay]
 cases R<;>rfl
def sk{m:Ms}(T:Tx ps n m x f l)(e:m=bD x n):f=m/\l=m:=by
 have h1:=T.ky.fl;have h2:=T.ky.ll;have h3:=T.ms;rw[e] at h1 h2;exact⟨Pp (h1.symm.trans h3),Pp (h2.symm.trans h3)⟩
theorem AX{p:Nat}:∀ (d:Nat) {h:AH} {ps:YG} {a L:Nat} {m f l:Ms} {x w:Str} (S:ShelfAt h p ps) (g:Good ps) (T:Tx ps a m x f l) (N:Tx ps L (bD w L) w (bD w L) (bD w L)) (hw:l.sg<=w.length) (hm:m.sg+w.length<=1000000000000000000+l.sg) (hd:m.ht.toNat<d) (hz:ps.length+m.ht.toNat<16000000),
  ∃ (n:Nat) (ps':YG) (h':AH) (m' f':Ms) (u v:Str),Dn (ig d [.ref p,.int a,.int L]) p h h' ps ps' m.ht.toNat n/\x=u++v/\v.length=l.sg/\Tx ps' n m' (u++w) f' (bD w L)/\m'.ht=m.ht/\f.sg<=f'.sg
 |0,h,ps,a,L,m,f,l,x,w,S,g,T,N,hw,hm,hd,hz=>absurd hd (Qb _)
 |d+1,h,ps,a,L,m,f,l,x,w,S,g,T,N,hw,hm,hd,hz=>by
  by_cases q:0<m.ht
  ·obtain⟨c,e,mc,me,y1,y2,lc,fe,ep,C,E,rfl,em,w1,w2,w3⟩:=g.cut T q
   have sg:=congrArg Ms.sg em;have hh:=congrArg Ms.ht em;rw[gs] at sg;rw[bJ] at hh;have c0:=C.ky.ht
   have e0:=E.ky.ht;obtain⟨n1,ps1,h1,m1,f1,u,v,d1,rfl,lv,T1,k1,k2⟩:=AX d S g E N hw ⋯ ⋯ ⋯;have s1:m1.sg+l.sg=me.sg+w.length:=by rw[T1.ky.sg,E.ky.sg,d6,d6];lia
   obtain⟨n2,ps2,h2,d2,T2⟩:=gr d1.dd.sh d1.dd.gd (C.pre d1.dd.pre) T1 ⋯ ⋯ ⋯ ⋯ (by have:=d1.dd.len;lia)
   rw[<- eY] at T2;exact⟨n2,ps2,h2,_,f,y1++u,v,Dn.seq' S g d1 d2 (λhh hh1 pp S' _ pr ev=>wb S' T.n1 (cT pr ep) ev) ⋯,by rw[eY],lv,T2,by rw[bJ,k1,hh],OV _⟩
  ·rcases g.kind T with⟨e1,e2,e3,e4,e5⟩|⟨c,e,mc,me,y1,y2,fc,lc,fe,le,e1,e2,e3,C,E,e4,e5,e6⟩
   ·obtain⟨z1,z2⟩:=sk T e3
    subst z1 z2
    have em:("" : Str)++x=x:=cw (by rw[dw];rfl)
    have em2:("" : Str)++w=w:=cw (by rw[dw];rfl)
    have dv:Dn (ig (d+1) [.ref p,.int a,.int L]) p h h ps ps 0 L:=Dn.val S g λhh pp S' _ pr=>wa S' T.n1 (cT pr e1)
    refine⟨L,ps,h,_,_, "",x,dv.as S g (λ_ _ _ _ _=>rfl) (Po _),em.symm,T.ky.sg.symm,by rw[em2];exact N,e2.symm,hw⟩
   ·have:=congrArg Ms.ht e5
    rw[bJ] at this;have c0:=C.ky.ht
    (clear e6 e5 e4 E C e3 e2 e1 hz hd hm hw N T g S;omega)
def wc(S:ShelfAt h p ps)(a1:1<=a)(ep:ps[a-1]?=some (.leaf x)):fT (d+1) [.ref p,.int a] h=.ok (.int (0:Nat)) h:=by
 simp[fT,rF,S.ob,nJ S a1 ep,sf,sj,-aj,-ay]
def pD(S:ShelfAt h p ps)(a1:1<=a)(ep:ps[a-1]?=some (.fork c e))(ev:fT d [.ref p,.int c] h=.ok (.int (0:Nat)) h1) :
  fT (d+1) [.ref p,.int a] h=.ok (.int e) h1:=by
 have z:ay (.int 0) (.int 0) h1=.ok (.bl true) h1:=by simp
 simp[fT,rF,S.ob,gu S a1 ep,mC,i1,i2,mD,ev,z,-aj,-ay]
def we{v:Nat}(S:ShelfAt h p ps)(a1:1<=a)(ep:ps[a-1]?=some (.fork c e))(v1:1<=v)(ev:fT d [.ref p,.int c] h=.ok (.int v) h1) :
  fT (d+1) [.ref p,.int a] h=gD [.ref p,.int v,.int e] h1:=by
 have z:ay (.int (v:Int)) (.int 0) h1=.ok (.bl false) h1:=by
  have:¬ (v=0):=by lia
  simp[this]
 generalize hF:gD [.ref p,.int v,.int e] h1=R
 simp[fT,rF,S.ob,gu S a1 ep,mC,i1,i2,mD,ev,z,hF,-aj,-ay]
 cases R<;>rfl
theorem AY{p:Nat}:∀ (d:Nat) {h:AH} {ps:YG} {a:Nat} {m f l:Ms} {x:Str} (S:ShelfAt h p ps) (g:Good ps) (T:Tx ps a m x f l) (hd:m.ht.toNat<d) (hz:ps.length+3*m.ht.toNat<16000000),
  (m.ht=0/\f.sg=x.length/\Dn (fT d [.ref p,.int a]) p h h ps ps 0 0) \/
  (0<m.ht/\∃ (n:Nat) (ps':YG) (h':AH) (m' f2:Ms) (u v:Str),Dn (fT d [.ref p,.int a]) p h h' ps ps' (3*m.ht.toNat) n/\x=u++v/\u.length=f.sg/\Tx ps' n m' v f2 l/\m.ht-1<=m'.ht/\m'.ht<=m.ht/\8<f.sg+f2.sg)
 |0,h,ps,a,m,f,l,x,S,g,T,hd,hz=>absurd hd (Qb _)
 |d+1,h,ps,a,m,f,l,x,S,g,T,hd,hz=>by
  by_cases q:0<m.ht
  ·obtain⟨c,e,mc,me,y1,y2,lc,fe,ep,C,E,rfl,em,w1,w2,w3⟩:=g.cut T q
   have sg:=congrArg Ms.sg em;have hh:=congrArg Ms.ht em;rw[gs] at sg;rw[bJ] at hh;have c0:=C.ky.ht
   have e0:=E.ky.ht;have most:=T.ky.most;refine .inr ⟨q,?_⟩
   rcases AY d S g C ⋯ ⋯ with⟨k1,k2,d1⟩|⟨k1,n1,ps1,h1,m1,f2,u,v,d1,rfl,lu,T1,r1,r2,r3⟩
   ·rcases g.kind C with⟨e1,e2,e3,e4,e5⟩|⟨_,_,mx,my,_,_,_,_,_,_,_,_,_,X,Y,_,e5,_⟩
    ·obtain⟨z1,z2⟩:=sk C e3
     have dv:Dn (fT (d+1) [.ref p,.int a]) p h h ps ps 0 e:=by
      refine⟨pD S T.n1 ep d1.ev,Dd.refl S g,λh3 ps3 S3 g3 p3=>pD S3 T.n1 (cT p3 ep) (d1.re h3 ps3 S3 g3 p3)⟩
     exact⟨e,ps,h,me,fe,y1,y2,dv.as S g (λ_ _ _ _ _=>rfl) (Po _),rfl,k2.symm,E,by lia,by lia,by rw[z1];rw[z2] at w3;exact w3⟩
    ·have:=congrArg Ms.ht e5
     rw[bJ] at this;have:=X.ky.ht
     (clear e5 Y X d1 k2 most e0 c0 hh sg w3 w2 w1 em T E C ep q hz hd g S;omega)
   ·have s1:m1.sg+f.sg=mc.sg:=by rw[T1.ky.sg,C.ky.sg,d6];lia
    obtain⟨n2,ps2,h2,m2,d2,T2,u3,u4,u5⟩:=AW d1.dd.sh d1.dd.gd T1 (E.pre d1.dd.pre) w3 ⋯ ⋯ ⋯ (by have:=d1.dd.len;lia)
    refine⟨n2,ps2,h2,m2,f2,u,v++y2,Dn.seq' S g d1 d2 (λhh hh1 pp S' _ pr ev=>we S' T.n1 (cT pr ep) T1.n1 ev) ⋯,by rw[eY],lu,T2,?_,?_,r3⟩
    ·(clear u4 T2 d2 s1 r3 r2 T1 lu T C d1 k1 most e0 c0 sg w3 w1 em E q hz hd g S;lia)
    ·(clear u3 T2 d2 s1 r3 r1 T1 lu T C d1 k1 most e0 c0 sg w3 em E q hz g S;lia)
  ·rcases g.kind T with⟨e1,e2,e3,e4,e5⟩|⟨_,_,mx,my,_,_,_,_,_,_,_,_,_,X,Y,_,e5,_⟩
   ·obtain⟨z1,z2⟩:=sk T e3
    exact .inl ⟨e2,by rw[z1];exact T.ky.sg,Dn.val S g λhh pp S' _ pr=>wc S' T.n1 (cT pr e1)⟩
   ·have:=congrArg Ms.ht e5
    rw[bJ] at this;have:=X.ky.ht
    lia
theorem Good.ends{ps:YG}(g:Good ps):∀ (k n:Nat) {m f l:Ms} {x:Str},n<=k->Tx ps n m x f l ->
  (∃ w u:Str,1<=m.fl/\ps[m.fl-1]?=some (.leaf w)/\x=w++u/\w.length=f.sg)/\(∃ w u:Str,1<=m.ll/\ps[m.ll-1]?=some (.leaf w)/\x=u++w/\w.length=l.sg)
 |0,n,m,f,l,x,hn,T=>absurd T.n1 ⋯
 |k+1,n,m,f,l,x,hn,T=>by
  rcases g.kind T with⟨e1,e2,e3,e4,e5⟩|⟨a,b,ma,mb,y,z,fa,la,fb,lb,e1,e2,e3,A,B,rfl,e5,e6⟩
  ·obtain⟨z1,z2⟩:=sk T e3
   have em:("" : Str)++x=x:=cw (by rw[dw];rfl)
   have em2:x++("" : Str)=x:=cw (by rw[dw];simp;rfl)
   have hf:m.fl=n:=by rw[e3];rfl
   have hl:m.ll=n:=by rw[e3];rfl
   have hx:=T.ky.sg;refine⟨⟨x, "",by rw[hf];exact T.n1,by rw[hf];exact e1,em2.symm,by rw[z1];exact hx.symm⟩,⟨x, "",by rw[hl];exact T.n1,by rw[hl];exact e1,em.symm,by rw[z2];exact hx.symm⟩⟩
  ·have q1:=g.ends k a ⋯ A
   have q2:=g.ends k b ⋯ B;obtain⟨⟨w,u,a1,a2,rfl,a4⟩,_⟩:=q1;obtain⟨_,⟨w2,u2,b1,b2,rfl,b4⟩⟩:=q2;have f1:=T.ky.fl;have l1:=T.ky.ll;have hf:m.fl=ma.fl:=by rw[e5];rfl
   have hl:m.ll=mb.ll:=by rw[e5];rfl
   rw[hf] at f1;rw[hl] at l1;have z5:=f1.symm.trans A.ky.fl;cases z5
   have z6:=l1.symm.trans B.ky.ll;cases z6
   rw[hf,hl];exact⟨⟨w,u++(u2++w2),a1,a2,by rw[eY],a4⟩,⟨w2,w++u++u2,b1,b2,by rw[eY (w++u)],b4⟩⟩
def AZ{a b c d:Str}(e:a++b=c++d)(h:a.length=c.length):a=c/\b=d:=by
 have:=congrArg (λz:Str=>z.cps.toList) e;simp only[dw] at this
 obtain⟨h1,h2⟩:=List.append_inj this (by rw[<- cG,<- cG];exact h)
 exact⟨cw h1,cw h2⟩
def Lc{a b c d:Str}(e:a++b=c++d)(h:b.length=d.length):a=c/\b=d:=by
 refine AZ e ?_
 have:=congrArg Str.length e;rw[d6,d6] at this;lia
def Ld(S:ShelfAt h p ps)(ea:(meas ps)[a]?=some ma)(eb:(meas ps)[b]?=some mb)(el:(meas ps)[ma.ll]?=some la)(ef:(meas ps)[mb.fl]?=some fb) :
  rE [.ref p,.int a,.int b] h=.ok (.bl (decide (8<la.sg+fb.sg))) h:=by
 have e1:=AQ S ea;have e2:=AN S eb;have e3:=cL S el;have e4:=cL S ef;have:decide ((8:Int)<(la.sg:Int)+fb.sg)=decide (8<la.sg+fb.sg):=by apply decide_eq_decide.mpr;lia
 simp[rE,S.ob,e1,e2,e3,e4,this]
def Le{v:Str}(hw:w.length+v.length<=100)(h:AH):az (.str w) (.str v) h=.ok (.str (w++v)) h:=by
 have:w.length+v.length<=sizeLine:=OW hw 'd'
 simp[az,this]
def j0{h3:AH}{L n k:Int}{v:Str}(S:ShelfAt h p ps)(ea:(meas ps)[a]?=some ma)(eb:(meas ps)[b]?=some mb)(l1:1<=ma.ll)(f1:1<=mb.fl)(el:ps[ma.ll-1]?=some (.leaf w))(ef:ps[mb.fl-1]?=some (.leaf v))(hw:w.length+v.length<=100)(e1:eh [.ref p,.str (w++v)] h=.ok (.int L) h1)(e2:ig 90 [.ref p,.int a,.int L] h1=.ok (.int n) h2)(e3:fT 90 [.ref p,.int b] h2=.ok (.int k) h3) :
  mf [.ref p,.int a,.int b] h=if k=0 then .ok (.int n) h3 else fI 90 [.ref p,.int n,.int k] h3:=by
 have q1:=AQ S ea;have q2:=AN S eb;have q3:=nJ S l1 el;have q4:=nJ S f1 ef;have ad:=Le hw h;unfold mf;generalize hF:fI 90=LK,fT 90=WF,ig 90=WL at *;by_cases z:k=0
 ·subst z
  have zz:ay (.int 0) (.int 0) h3=.ok (.bl true) h3:=by simp
  simp[S.ob,q1,q2,q3,q4,si,ad,e1,e2,e3,zz,-aj,-ay,-az]
 ·have zz:ay (.int k) (.int 0) h3=.ok (.bl false) h3:=by simp[z]
  rw[O0 z];generalize hR:LK [.ref p,.int n,.int k] h3=R
  simp[S.ob,q1,q2,q3,q4,si,ad,e1,e2,e3,zz,hR,-aj,-ay,-az]
  cases R<;>rfl
def Lj{v:Str}(h1:1<=w.length)(h2:w.length+v.length<=8)(pw:bN w=true)(pv:bN v=true):fU (w++v)=true:=by
 unfold fU;rw[pj,d6,pw,pv];simp;lia
def A0(S:ShelfAt h p ps)(g:Good ps)(A:Tx ps a ma x fa la)(B:Tx ps b mb y fb lb)(hc:¬ 8<la.sg+fb.sg)(hm:ma.sg+mb.sg<=1000000000000000000)(hz:ps.length<15000000) :
  ∃ (n:Nat) (ps':YG) (h':AH) (m f l:Ms),Dn (mf [.ref p,.int a,.int b]) p h h' ps ps' (7*(max ma.ht mb.ht).toNat+2) n/\Tx ps' n m (x++y) f l/\m.ht<=max ma.ht mb.ht+1:=by
 obtain⟨_,w,u,l1,el,ex,lw⟩:=g.ends a a (OV _) A;obtain⟨⟨v,t,f1,ef,ey,lv⟩,_⟩:=g.ends b b (OV _) B;have a0:=A.ky.ht;have b0:=B.ky.ht;have ha:=eZ g A;have hb:=eZ g B;have px:bN x=true:=A.ky.pl;have py:bN y=true:=B.ky.pl;have pw:bN w=true:=by rw[ex,pj,Pu] at px;exact px.2
 have pv:bN v=true:=by rw[ey,pj,Pu] at py;exact py.1
 have la1:=A.ky.l1;have fb1:=B.ky.f1;have sx:=A.ky.sg;have sy:=B.ky.sg;have lx:x.length=u.length+w.length:=by rw[ex,d6]
 have ly:y.length=v.length+t.length:=by rw[ey,d6]
 have lwv:(w++v).length=w.length+v.length:=d6 w v;obtain⟨L,ps1,h1,d1,N⟩:=r8 S g (Lj (w:=w) (v:=v) ⋯ ⋯ pw pv) ⋯;have z1:=d1.dd.len;obtain⟨n2,ps2,h2,m2,f2,u2,v2,d2,ex2,lv2,T2,k1,k2⟩:=AX 90 d1.dd.sh d1.dd.gd (A.pre d1.dd.pre) N ⋯ ⋯ ⋯ ⋯;have z2:=d2.dd.len;obtain⟨rfl,rfl⟩:u=u2/\w=v2:=Lc (ex.symm.trans ex2) ⋯;have s2:m2.sg=u.length+(w.length+v.length):=by rw[T2.ky.sg,d6,d6]
 have p12:=d1.dd.pre.trans d2.dd.pre;have lm:(bD (w++v) L).sg=w.length+v.length:=d6 w v;have tb:∀ q:Int,0<=q->q<=max ma.ht mb.ht->q.toNat<=(max ma.ht mb.ht).toNat:=λq _ _=>by lia
 rcases AY 90 d2.dd.sh d2.dd.gd (B.pre p12) ⋯ ⋯ with⟨r1,r2,d3⟩|⟨r1,n3,ps3,h3,m3,f3,u3,v3,d3,ey3,lu3,T3,r2,r3,r4⟩
 ·have t0:t.length=0:=by lia
  have te:t="" := cw (by rw[cG] at t0;rw[P5.mp t0];rfl)
  have rd:u++(w++v)=x++y:=by
   rw[ex,ey,te,eY];congr 2
  rw[rd] at T2;refine⟨n2,ps2,h2,m2,f2,_,⟨?_,d1.dd.trans d2.dd ⋯,λh4 ps4 S4 g4 p4=>?_⟩,T2,by lia⟩
  ·rw[j0 S A.ms B.ms l1 f1 el ef ⋯ d1.ev d2.ev d3.ev];rfl
  ·have q1:=d1.re h4 ps4 S4 g4 (d2.dd.pre.trans p4)
   have q2:=d2.re h4 ps4 S4 g4 p4;have q3:=d3.re h4 ps4 S4 g4 p4;rw[j0 S4 (aL (p12.trans p4) A.ms) (aL (p12.trans p4) B.ms) l1 f1 (cT (p12.trans p4) el) (cT (p12.trans p4) ef) ⋯ q1 q2 q3];rfl
 ·obtain⟨rfl,rfl⟩:v=u3/\t=v3:=AZ (ey.symm.trans ey3) ⋯
  have z3:=d3.dd.len;have s3:m3.sg=t.length:=T3.ky.sg;have m30:=T3.ky.ht;obtain⟨n4,ps4,h4,m4,d4,T4,r5,r6⟩:=pC 90 (max ma.ht mb.ht).toNat d3.dd.sh d3.dd.gd (T2.pre d3.dd.pre) T3 ⋯ ⋯ (by(clear m30 s3 ey3 T3 lu3 d3 lm p12 s2 ex2 lv2 T2 z2 k2 d2 z1 N d1 lwv ly lx sy sx fb1 la1 pv pw py px hb ha lv ey ef f1 lw ex el l1 hz hm hc B A g S;lia)) ⋯ ⋯;have rd:(u++(w++v))++t=x++y:=by rw[ex,ey,eY,eY,eY]
  rw[rd] at T4;have n3z:¬ (n3:Int)=0:=by have:=T3.n1;lia
  have p123:=p12.trans d3.dd.pre;refine⟨n4,ps4,h4,m4,f2,lb,⟨?_,((d1.dd.trans d2.dd (OV _)).trans d3.dd (OV _)).trans d4.dd ⋯,λh5 ps5 S5 g5 p5=>?_⟩,T4,by lia⟩
  ·rw[j0 S A.ms B.ms l1 f1 el ef ⋯ d1.ev d2.ev d3.ev,O0 n3z];exact d4.ev
  ·have p45:=d4.dd.pre.trans p5
   have q1:=d1.re h5 ps5 S5 g5 (d2.dd.pre.trans (d3.dd.pre.trans p45));have q2:=d2.re h5 ps5 S5 g5 (d3.dd.pre.trans p45);have q3:=d3.re h5 ps5 S5 g5 p45;have q4:=d4.re h5 ps5 S5 g5 p5;have pa:=p123.trans p45;rw[j0 S5 (aL pa A.ms) (aL pa B.ms) l1 f1 (cT pa el) (cT pa ef) ⋯ q1 q2 q3,O0 n3z];exact q4
def TxZ(ps:YG)(n:Nat)(y:Str):Prop:=(n=0/\y="")\/∃ m f l,Tx ps n m y f l
def TxZ.pre{ps ps':YG}{n:Nat}{y:Str}(t:TxZ ps n y)(h:ps <+: ps'):TxZ ps' n y:=by
 rcases t with t|⟨m,f,l,t⟩
 ·exact .inl t
 ·exact .inr ⟨m,f,l,t.pre h⟩
def pE(ps:YG):(meas ps)[0]?=some ms0:=by
 obtain⟨r,e,_⟩:=pf iM ps [ms0];rw[meas,e];rfl
def aR(ps:YG)(n:Nat):Int:=((meas ps).getD n ms0).ht
def eu{m:Ms}(e:(meas ps)[n]?=some m):aR ps n=m.ht:=by unfold aR;rw[pq e]
def pF(ps:YG):aR ps 0=-1:=(eu (pE ps))
def pG{i:Int}(hi:i<=1000000000000000000)(h:AH):jS [.int i] h=.ok .non h:=by
 have:¬ (1000000000000000000:Int)<i:=by lia
 simp[jS,this]
def pH(S:ShelfAt h p ps)(eb:(meas ps)[b]?=some mb)(hm:mb.sg<=1000000000000000000):bQ [.ref p,.int (0:Nat),.int b] h=.ok (.int b) h:=by
 have e1:=cL S (pE ps);have e2:=cL S eb;have z:ms0.sg=0:=rfl;rw[z] at e1;have e1':eT [.ref p,.int 0] h=.ok (.int 0) h:=e1
 have ck:=pG (i:=(0:Int)+mb.sg) ⋯ h;have zz:ay (.int 0) (.int 0) h=.ok (.bl true) h:=by simp
 have ad:az (.int 0) (.int mb.sg) h=.ok (.int (0+mb.sg)) h:=rfl;simp[bQ,S.ob,e1',e2,ad,ck,zz,-ay,-az,-Int.zero_add]
def pI(S:ShelfAt h p ps)(a1:1<=a)(ea:(meas ps)[a]?=some ma)(hm:ma.sg<=1000000000000000000):bQ [.ref p,.int a,.int (0:Nat)] h=.ok (.int a) h:=by
 have e1:=cL S (pE ps);have e2:=cL S ea;have z:ms0.sg=0:=rfl;rw[z] at e1;have e1':eT [.ref p,.int 0] h=.ok (.int 0) h:=e1
 have ck:=pG (i:=(ma.sg:Int)+0) ⋯ h;have zz:ay (.int 0) (.int 0) h=.ok (.bl true) h:=by simp
 have z2:ay (.int a) (.int 0) h=.ok (.bl false) h:=by
  have:¬ a=0:=by lia
  simp[this]
 have ad:az (.int ma.sg) (.int 0) h=.ok (.int (ma.sg+0)) h:=rfl;simp[bQ,S.ob,e1',e2,ad,ck,zz,z2,-ay,-az,-Int.add_zero]
def j1(S:ShelfAt h p ps)(a1:1<=a)(b1:1<=b)(ea:(meas ps)[a]?=some ma)(eb:(meas ps)[b]?=some mb)(el:(meas ps)[ma.ll]?=some la)(ef:(meas ps)[mb.fl]?=some fb)(hm:ma.sg+mb.sg<=1000000000000000000) :
  bQ [.ref p,.int a,.int b] h=if 8<la.sg+fb.sg then fI 90 [.ref p,.int a,.int b] h else mf [.ref p,.int a,.int b] h:=by
 have e1:=cL S ea;have e2:=cL S eb;have cl:=Ld S ea eb el ef;have ck:=pG (i:=(ma.sg:Int)+mb.sg) ⋯ h;have z1:ay (.int a) (.int 0) h=.ok (.bl false) h:=by
  have:¬ a=0:=by lia
  simp[this]
 have z2:ay (.int b) (.int 0) h=.ok (.bl false) h:=by
  have:¬ b=0:=by lia
  simp[this]
 have ad:az (.int ma.sg) (.int mb.sg) h=.ok (.int (ma.sg+mb.sg)) h:=rfl;unfold bQ;generalize fI 90=LK at *;by_cases q:8<la.sg+fb.sg
 ·rw[OX q]
  generalize hR:LK [.ref p,.int a,.int b] h=R
  simp[S.ob,e1,e2,ad,ck,z1,z2,cl,q,hR,-ay,-az]
  cases R<;>rfl
 ·rw[O0 q]
  generalize hR:mf [.ref p,.int a,.int b] h=R
  simp[S.ob,e1,e2,ad,ck,z1,z2,cl,q,hR,-ay,-az]
  cases R<;>rfl
def TxZ.meas{ps:YG}{n:Nat}{y:Str}(t:TxZ ps n y):∃ m,(meas ps)[n]?=some m/\m.sg=y.length:=by
 rcases t with⟨rfl,rfl⟩|⟨m,f,l,T⟩
 ·exact⟨ms0,pE ps,rfl⟩
 ·exact⟨m,T.ms,T.ky.sg⟩
def wg(S:ShelfAt h p ps)(g:Good ps)(A:TxZ ps a x)(B:TxZ ps b y)(hm:x.length+y.length<=1000000000000000000)(hz:ps.length<15000000) :
  ∃ (n:Nat) (ps':YG) (h':AH),Dn (bQ [.ref p,.int a,.int b]) p h h' ps ps' (16*(max (aR ps a) (aR ps b)+1).toNat) n/\TxZ ps' n (x++y):=by
 rcases A with⟨rfl,rfl⟩|⟨ma,fa,la,A⟩
 ·obtain⟨mb,eb,sb⟩:=B.meas
  have em:("" : Str)++y=y:=cw (by rw[dw];rfl)
  have dv:Dn (bQ [.ref p,.int (0:Nat),.int b]) p h h ps ps 0 b:=Dn.val S g λhh pp S' _ pr=>pH S' (aL pr eb) (by rw[sb];lia)
  exact⟨b,ps,h,dv.as S g (λ_ _ _ _ _=>rfl) (Po _),by rw[em];exact B⟩
 ·rcases B with⟨rfl,rfl⟩|⟨mb,fb,lb,B⟩
  ·have em:x++("" : Str)=x:=cw (by rw[dw];simp;rfl)
   have dv:Dn (bQ [.ref p,.int a,.int (0:Nat)]) p h h ps ps 0 a:=Dn.val S g λhh pp S' _ pr=>pI S' A.n1 (aL pr A.ms) A.ky.most
   exact⟨a,ps,h,dv.as S g (λ_ _ _ _ _=>rfl) (Po _),by rw[em];exact .inr ⟨_,_,_,A⟩⟩
  ·have sa:=A.ky.sg
   have sb:=B.ky.sg;have a0:=A.ky.ht;have b0:=B.ky.ht;have ha:=eZ g A;have hb:=eZ g B;rw[eu A.ms,eu B.ms];by_cases q:8<la.sg+fb.sg
   ·obtain⟨n,ps',h',m,d,T,_⟩:=pC 90 (max ma.ht mb.ht).toNat S g A B q ⋯ ⋯ ⋯ ⋯
    exact⟨n,ps',h',d.as S g (λhh pp S' _ pr=>by rw[j1 S' A.n1 B.n1 (aL pr A.ms) (aL pr B.ms) (aL pr A.ky.ll) (aL pr B.ky.fl) ⋯,OX q]) ⋯,.inr ⟨_,_,_,T⟩⟩
   ·obtain⟨n,ps',h',m,f,l,d,T,_⟩:=A0 S g A B q ⋯ hz
    exact⟨n,ps',h',d.as S g (λhh pp S' _ pr=>by rw[j1 S' A.n1 B.n1 (aL pr A.ms) (aL pr B.ms) (aL pr A.ky.ll) (aL pr B.ky.fl) ⋯,O0 q]) ⋯,.inr ⟨_,_,_,T⟩⟩
def Lk(be:b<=e):(bL y (some (b:Int)) (some (e:Int))).cps.toList=(y.cps.toList.drop b).take (e-b):=by
 unfold bL;rw[HT.sIx_nat,HT.sIx_nat];generalize y.cps.toList=l
 show (l.drop (min b l.length)).take (min e l.length-min b l.length)=_
 apply Ua
 intro i;rw[QL,QL,Q8,Q8];by_cases q:b<=l.length
 ·rw[QO q]
  by_cases c1:i<e-b
  ·rw[OX c1]
   by_cases c2:i<min e l.length-b
   ·rw[OX c2]
   ·rw[O0 c2,Qg ⋯]
  ·rw[O0 c1,O0 ⋯]
 ·rw[O0 ⋯,Qg (l:=l) (i:=b+i) ⋯]
  split<;>rfl
def fJ:List Str->Str
 |[] => ""
 |w::ws=>w++fJ ws
theorem wj:∀ as bs:List Str,fJ (as++bs)=fJ as++fJ bs
 |[],bs=>(cw (by rw[dw];rfl):fJ bs=("" : Str)++fJ bs)
 |w::as,bs=>by
  show w++fJ (as++bs)=(w++fJ as)++fJ bs
  rw[wj as bs,eY]
def A3(w:Str):fJ [w]=w:=(cw (by show (w++("" : Str)).cps.toList=_;rw[dw];simp;rfl))
def LS(ps:YG)(ns:List Nat)(ws:List Str):Prop:=ns.length=ws.length/\∀ (i n:Nat) (w:Str),ns[i]?=some n->ws[i]?=some w->Tx ps n (bD w n) w (bD w n) (bD w n)
def LS.pre{ps ps':YG}{ns:List Nat}{ws:List Str}(s:LS ps ns ws)(h:ps <+: ps'):LS ps' ns ws:=(⟨s.1,λi n w a b=>(s.2 i n w a b).pre h⟩)
def LS.take{ps:YG}{ns:List Nat}{ws:List Str}(s:LS ps ns ws)(k:Nat):LS ps (ns.take k) (ws.take k):=by
 refine⟨by simp[s.1],λi n w a b=>?_⟩
 rw[QL] at a b;by_cases q:i<k
 ·rw[OX q] at a b;exact s.2 i n w a b
 ·rw[O0 q] at a;cases a
def LS.drop{ps:YG}{ns:List Nat}{ws:List Str}(s:LS ps ns ws)(k:Nat):LS ps (ns.drop k) (ws.drop k):=by
 refine⟨by simp[s.1],λi n w a b=>?_⟩
 rw[Q8] at a b;exact s.2 _ n w a b
abbrev d7(ns:List Nat):YF:=ns.map λn:Nat=>AV.int (n:Int)
def wk:ie (d+1) [.ref p,.fl (d7 [n])] h=.ok (.int n) h:=by
 have ix:aj (.fl [.int (n:Int)]) (.int 0) h=.ok (.int n) h:=rfl;simp[ie,vE,ix,-aj]
def Lm(l:List α){k:Nat}(hk:k<=l.length):dZ l none (some (k:Int))=l.take k:=by
 unfold dZ;rw[HT.sIx_nat,HT.sIx_none,QO hk];simp
def Ln(l:List α){k:Nat}(hk:k<=l.length):dZ l (some (k:Int)) none=l.drop k:=by
 unfold dZ;rw[HT.sIx_nat,HT.sIx_none,QO hk,PF 's']
def wo{ns:List Nat}{v1 v2:Int}(S:ShelfAt h p ps)(hl:2<=ns.length)(e1:ie d [.ref p,.fl (d7 (ns.take (ns.length / 2)))] h=.ok (.int v1) h1)(e2:ie d [.ref p,.fl (d7 (ns.drop (ns.length / 2)))] h1=.ok (.int v2) h2) :
  ie (d+1) [.ref p,.fl (d7 ns)] h=aV [.ref p,.int v1,.int v2] h2:=by
 have hh:ns.length / 2<=ns.length:=Nat.div_le_self _ _;have ln:aI [.fl (d7 ns)] h=.ok (.int ns.length) h:=by simp[aI]
 have q:ay (.int ns.length) (.int 1) h=.ok (.bl false) h:=by
  have:¬ (ns.length:Int)=1:=by lia
  simp[this]
 have dv:cJ (.int ns.length) (.int 2) h=.ok (.int (ns.length / 2:Nat)) h:=rfl;have c1:dP (.fl (d7 ns)) none (some (ns.length / 2:Nat)) h=.ok (.fl (d7 (ns.take (ns.length / 2)))) h:=by
  have:=Lm (d7 ns) (k:=ns.length / 2) (by simpa using hh);simp only[dP,this,d7,List.map_take]
 have c2:∀ h,dP (.fl (d7 ns)) (some (ns.length / 2:Nat)) none h=.ok (.fl (d7 (ns.drop (ns.length / 2)))) h:=λh=>by
  have:=Ln (d7 ns) (k:=ns.length / 2) (by simpa using hh);simp only[dP,this,d7,List.map_drop]
 generalize hF:aV [.ref p,.int v1,.int v2] h2=R
 unfold ie vE;generalize (ns.length:Int)=K,((ns.length / 2:Nat):Int)=M,d7 (ns.drop (ns.length / 2))=Z2,d7 (ns.take (ns.length / 2))=Z1,d7 ns=Z at *;simp[S.ob,ln,q,dv,c1,c2,e1,e2,hF,-aI,-ay,-cJ,-dP]
 cases R<;>rfl
def Lo{ha:Nat}(ab:b<=a+1)(h1:a<=2 ^ ha)(h2:hb=0\/2 ^ (hb-1)<b):hb<=ha+1:=by
 rcases h2 with h2|h2
 ·lia
 ·have:2 ^ (hb-1)<=2 ^ ha:=by lia
  have:=(Nat.pow_le_pow_iff_right (a:=2) 'd').mp this;lia
def Lp{ha:Nat}(ab:a<=b)(h1:b<=2 ^ hb)(h2:ha=0\/2 ^ (ha-1)<a):ha<=hb:=by
 rcases h2 with h2|h2
 ·lia
 ·have:2 ^ (ha-1)<2 ^ hb:=by lia
  have:=(Nat.pow_lt_pow_iff_right (a:=2) 'd').mp this;lia
def Lq{k:Nat}(h1:k<=2*b)(h2:2*b<=k+1)(h3:2<=k)(h4:b<=2 ^ hb)(h5:hb=0\/2 ^ (hb-1)<b):k<=2 ^ (hb+1)/\2 ^ (hb+1-1)<k:=by
 rw[SA,TX];refine⟨by lia,?_⟩
 rcases h5 with h5|h5
 ·subst h5;simp;lia
 ·cases hb with
  |zero=>simp;lia
  |succ n =>
   rw[TX] at h5;rw[SA];lia
def Lr{k:Nat}(h:k<=2 ^ (e+1)):k / 2<=2 ^ e/\k-k / 2<=2 ^ e:=by rw[SA] at h;lia
theorem wq{p:Nat}:∀ (d e:Nat) {h:AH} {ps:YG} {ns:List Nat} {ws:List Str},ShelfAt h p ps->Good ps->LS ps ns ws->1<=ns.length->ns.length<=2 ^ e->e<d->(∀ (i:Nat) (w:Str),ws[i]?=some w->i+1<ws.length->w.length=8)->ps.length+ns.length<16000000->ns.length<=10000 ->
  ∃ (n:Nat) (ps':YG) (h':AH) (m f l:Ms) (H:Nat),ie d [.ref p,.fl (d7 ns)] h=.ok (.int n) h'/\Dd p h h' ps ps' (ns.length-1)/\Tx ps' n m (fJ ws) f l/\m.ht=H/\ns.length<=2 ^ H/\(H=0\/2 ^ (H-1)<ns.length)/\((∀ w∈ws,w.length=8)->l.sg=8)/\m.sg<=8*ns.length
 |0,e,h,ps,ns,ws,S,g,LL,h1,h2,h3,h4,h5,h6=>absurd h3 (Qb _)
 |d+1,e,h,ps,ns,ws,S,g,LL,h1,h2,h3,h4,h5,h6=>by
  by_cases q:ns.length=1
  ·obtain⟨n,rfl⟩:∃ n,ns=[n]:=SD.mp q
   obtain⟨w,rfl⟩:∃ w,ws=[w]:=SD.mp (LL.1.symm.trans q);have T:=LL.2 0 n w rfl rfl;refine⟨n,ps,h,_,_,_,0,wk,{ Dd.refl S g with len:=by lia },by rw[A3];exact T,rfl,by simp,.inl rfl,λhw=>hw w 's',?_⟩
   have:=T.ky.f8;simpa using this
  ·have hh:2<=ns.length:=by lia
   obtain⟨e',rfl⟩:∃ e',e=e'+1:=by
    cases e with
    |zero=>simp at h2;lia
    |succ e'=>exact⟨e',rfl⟩
   obtain⟨w1,w2⟩:=Lr h2;have lt:(ns.take (ns.length / 2)).length=ns.length / 2:=by rw[PZ];lia
   have ld:(ns.drop (ns.length / 2)).length=ns.length-ns.length / 2:=Qx ..;have lw:=LL.1;obtain⟨n1,ps1,hh1,m1,f1,l1,H1,a1,a2,a3,a4,a5,a6,a7,a8⟩:=wq d e' S g (LL.take (ns.length / 2)) ⋯ ⋯ ⋯ (λi w ew hi=>by
    rw[QL] at ew;split at ew
    ·rw[PZ] at hi;exact h4 i w ew ⋯
    ·cases ew) ⋯ ⋯
   have z1:=a2.len;obtain⟨n2,ps2,hh2,m2,f2,l2,H2,b1,b2,b3,b4,b5,b6,b7,b8⟩:=wq d e' a2.sh a2.gd ((LL.drop (ns.length / 2)).pre a2.pre) ⋯ ⋯ ⋯ (λi w ew hi=>by
    rw[Q8] at ew;rw[Qx] at hi;exact h4 _ w ew ⋯) ⋯ ⋯
   have z2:=b2.len;rw[lt] at a5 a6 a8;rw[ld] at b5 b6 b8;have g1:=Lo (a:=ns.length / 2) (b:=ns.length-ns.length / 2) ⋯ a5 b6
   have g2:=Lp (a:=ns.length / 2) (b:=ns.length-ns.length / 2) (by(clear g1 z2 b8 b7 b6 b5 b4 b3 b2 b1 z1 a8 a7 a6 a5 a4 a3 a2 a1 lw ld lt w2 w1 h3 h2 hh h6 h5 h4 LL g S;lia)) b5 a6;have l8:l1.sg=8:=a7 λw hw=>by
    obtain⟨i,hi,ei⟩:=QZ hw;have hi':=hi;rw[PZ] at hi';have:(ws.take (ns.length / 2))[i]?=some w:=by rw[O6 hi,ei]
    rw[QL] at this;split at this
    ·exact h4 i w this ⋯
    ·cases this
   have f1':=b3.ky.f1;obtain⟨n3,ps3,hh3,d3,T3⟩:=gr b2.sh b2.gd (a3.pre b2.pre) b3 ⋯ ⋯ ⋯ ⋯ (by(clear f1' l8 g2 g1 b8 b7 b6 b5 b4 b3 b2 b1 a8 a7 a6 a5 a4 a3 a2 a1 lw w2 w1 h3 h2 hh h6 h4 LL g S;lia));have rd:fJ (ws.take (ns.length / 2))++fJ (ws.drop (ns.length / 2))=fJ ws:=by rw[<- wj,List.take_append_drop]
   rw[rd] at T3;have hv:=wo S hh a1 b1
   obtain⟨y1,y2⟩:=Lq (k:=ns.length) (b:=ns.length-ns.length / 2) (by(clear hv rd T3 d3 f1' l8 g2 g1 z2 b8 b7 b6 b5 b4 b3 b2 b1 z1 a8 a7 a6 a5 a4 a3 a2 a1 lw ld lt w2 w1 h3 h2 hh q h6 h5 h4 LL g S;lia)) ⋯ hh b5 b6;refine⟨n3,ps3,hh3,_,f1,l2,H2+1,hv.trans d3.ev,(a2.trans b2 (OV _)).trans d3.dd (by(clear y2 y1 hv rd T3 d3 f1' l8 g2 g1 z2 b8 b7 b6 b5 b4 b3 b2 b1 z1 a8 a7 a6 a5 a4 a3 a2 a1 lw w2 w1 h3 h2 hh h6 h5 h4 LL g S;lia)),T3,by rw[bJ,a4,b4];lia,y1,.inr y2,λhw=>b7 λw hm=>hw w (QT hm),by rw[gs];lia⟩
def iO(x:Str)(k:Nat):Str:=bL x (some ((8*k:Nat):Int)) (some ((8*k+8:Nat):Int))
def wt(x:Str)(k:Nat):(iO x k).cps.toList=(x.cps.toList.drop (8*k)).take 8:=by
 unfold iO;rw[Lk ⋯,show 8*k+8-8*k=8 by lia]
def A4(x:Str)(k:Nat):(iO x k).length=min 8 (x.length-8*k):=by
 rw[cG,wt,PZ,Qx,<- cG]
def Ls(px:bN x=true)(k:Nat):bN (iO x k)=true:=by
 unfold bN at *
 rw[wt,Px];rw[Px] at px;exactλc hc=>px c (QT (Rz hc))
theorem A5(x:Str):∀ j,(fJ ((List.range j).map (iO x))).cps.toList=x.cps.toList.take (8*j)
 |0=>rfl
 |j+1=>by
  rw[PY,Py,wj,dw,A5 x j];show _++(fJ [iO x j]).cps.toList=_
  rw[A3,wt,show 8*(j+1)=8*j+8 by lia,List.take_add]
def A6{f:Nat->α}{N:Nat}{w:α}(e:((List.range N).map f)[i]?=some w):i<N/\w=f i:=by
 rw[Pr] at e;obtain⟨j,ej,ew⟩:=Pd.mp e
 have h1:=(OS.mp ej).1;rw[P8] at h1;rw[RH h1] at ej
 cases ej
 exact⟨h1,ew.symm⟩
def LS.snoc{ns:List Nat}{ws:List Str}(s:LS ps ns ws)(h:ps <+: ps')(T:Tx ps' n (bD w n) w (bD w n) (bD w n)):LS ps' (ns++[n]) (ws++[w]):=by
 have l:=s.1;refine⟨by simp[s.1],λi a b ea eb=>?_⟩
 by_cases q:i<ns.length
 ·rw[O3 q] at ea
  rw[O3 ⋯] at eb;exact(s.2 i a b ea eb).pre h
 ·have h1:=(OS.mp ea).1
  have hi:i=ns.length:=by simp at h1;lia
  subst hi;rw[Pl ⋯] at ea eb
  simp at ea
  rw[show ns.length-ws.length=0 by lia] at eb;simp at eb
  subst ea eb
  exact T
def Lu(S:ShelfAt h p ps)(g:Good ps)(px:bN x=true)(N:Nat)(hN:8*N<x.length+8)(hx:x.length<=10000)(hz:ps.length+N<16000000)(all:YF)(js:List Nat)(en:En)(hj:js.map (λj=>(en[j]?).join)=[some (.ref p),some (.str x)]) :
  ∃ (ns:List Nat) (ps':YG) (h':AH),dN js en none all aY (aB 0 eh (aa 1) (ah (bZ (aa 2) (some (aa 0)) (some (ag az (aa 0) (ae (.int 8))))) af)) ((List.range N).map λm:Nat=>AV.int (0+(m:Int)*8)) [] h=.ok (d7 ns) h'/\Dd p h h' ps ps' N/\LS ps' ns ((List.range N).map (iO x)):=by
 obtain⟨zs,h',c1,ns,ps',e1,D,LL⟩:=Ko (js:=js) (en:=en) (all:=all) (e:=aB 0 eh (aa 1) (ah (bZ (aa 2) (some (aa 0)) (some (ag az (aa 0) (ae (.int 8))))) af)) (xs:=(List.range N).map λm:Nat=>AV.int (0+(m:Int)*8)) (h:=h)
  (λj ys h'=>∃ (ns:List Nat) (ps':YG),ys=d7 ns/\Dd p h h' ps ps' j/\LS ps' ns ((List.range j).map (iO x))) ⟨[],ps,rfl,Dd.refl S g,rfl,λi n w a _=>by simp at a⟩ (by
   rintro j v ys h' hv ⟨ns,ps',rfl,D,LL⟩
   obtain⟨jN,rfl⟩:=A6 hv;have z:=D.len;have lc:=A4 x j;have sc:fU (iO x j)=true:=by
    unfold fU;rw[Ls px j,lc];simp;lia
   obtain⟨n,ps2,h2,d2,T⟩:=r8 D.sh D.gd sc ⋯;have i1:(0:Int)+(j:Int)*8=((8*j:Nat):Int):=by lia
   have i2:((8*j:Nat):Int)+8=((8*j+8:Nat):Int):=by lia
   have ct:dP (.str x) (some ((8*j:Nat):Int)) (some ((8*j+8:Nat):Int)) h'=.ok (.str (iO x j)) h':=rfl;have ev:=d2.ev;rw[hj];have e:aB 0 eh (aa 1) (ah (bZ (aa 2) (some (aa 0)) (some (ag az (aa 0) (ae (.int 8))))) af) [some (.int (0+(j:Int)*8)),some (.ref p),some (.str x)] h'=.ok (.int n) h2:=by
    rw[i1];have ad:az (.int ((8*j:Nat):Int)) (.int 8) h'=.ok (.int ((8*j+8:Nat):Int)) h':=by rw[<- i2];rfl
    generalize ((8*j+8:Nat):Int)=B2,((8*j:Nat):Int)=B1 at *;simp[D.sh.ob,ad,ct,ev,-az,-dP]
   rw[e];refine⟨ns++[n],ps2,by simp[d7],D.trans d2.dd ⋯,?_⟩
   rw[PY,Py];exact LL.snoc d2.dd.pre T) (by simp;exact OW (show N<=10000 by lia) 'd')
 rw[O2,P8] at D LL;exact⟨ns,ps',h',by rw[c1,e1],D,LL⟩
def Lv(S:ShelfAt h p ps)(g:Good ps)(px:bN x=true)(hx:x.length<=10000)(hz:ps.length+2*x.length<16000000) :
  ∃ (n:Nat) (ps':YG) (h':AH),jd [.ref p,.str x] h=.ok (.int n) h'/\Dd p h h' ps ps' (2*x.length)/\TxZ ps' n x:=by
 have sl:x.length<=sizeLine:=OW hx 'd';have fp:=rN x h sl;rw[px] at fp;have c1:¬ (10000:Int)<x.length:=by lia
 by_cases q:x.length=0
 ·have xe:x="" := cw (by rw[cG] at q;rw[P5.mp q];rfl)
  subst xe;refine⟨0,ps,h,?_,{ Dd.refl S g with len:=by lia },.inl ⟨rfl,rfl⟩⟩
  simp[jd,fp,c1]
 ·obtain⟨N,eN⟩:∃ N,N=(x.length-1) / 8+1:=⟨_,rfl⟩
  obtain⟨ns,ps1,h1,e1,D1,LL⟩:=Lu S g px N ⋯ hx ⋯ ((List.range N).map λm:Nat=>AV.int (0+(m:Int)*8)) [0,1] [some (.ref p),some (.str x),none] rfl;have z1:=D1.len;have ln:ns.length=N:=by rw[LL.1];simp
  obtain⟨n,ps2,h2,m,f,l,H,b1,b2,b3,_⟩:=wq (p:=p) 20 11 D1.sh D1.gd LL ⋯ (by rw[ln];have:(2:Nat) ^ 11=2048:=rfl;lia) 'd' (λi w ew hi=>by
   obtain⟨iN,rfl⟩:=A6 ew;rw[O2,P8] at hi;rw[A4];(clear ew iN ln z1 LL D1 e1 q c1 fp sl hz hx px g S;lia)) ⋯ ⋯
  have rd:fJ ((List.range N).map (iO x))=x:=cw (by rw[A5,PF (by rw[<- cG];lia)])
  rw[rd] at b3;have ir:jJ (ae (.int 0)) (au aI (ah (aa 1) af)) (ae (.int 8)) [some (.ref p),some (.str x),none] h=.ok ((List.range N).map (λm:Nat=>AV.int (0+(m:Int)*8)),none) h:=by
   have r1:((if (0:Int)<x.length then((x.length:Int)-0-1) / 8+1 else 0:Int)).toNat=N:=by
    rw[OX ⋯];lia
   have r2:(0:Int).natAbs<2 ^ 40/\(x.length:Int).natAbs<2 ^ 40/\(0:Int)<8/\(8:Int)<2 ^ 20:=⟨by decide,by lia,by decide,by decide⟩
   show (if _ then _ else _)=_
   rw[OX r2,r1]
  have cp:dW [0,1] (jJ (ae (.int 0)) (au aI (ah (aa 1) af)) (ae (.int 8))) aY (aB 0 eh (aa 1) (ah (bZ (aa 2) (some (aa 0)) (some (ag az (aa 0) (ae (.int 8))))) af)) [some (.ref p),some (.str x),none] h=.ok (.fl (d7 ns)) h1:=by
   simp only[dW,ir,e1]
  have ne:ay (.str x) (.str "") h=.ok (.bl false) h:=by
   have:¬ x=Str.ofString "" := λz=>q (by rw[z];rfl)
   simp[this]
  refine⟨n,ps2,h2,?_,D1.trans b2 ⋯,.inr ⟨_,_,_,b3⟩⟩
  unfold jd;generalize ie 20=HV,dW [0,1] (jJ (ae (.int 0)) (au aI (ah (aa 1) af)) (ae (.int 8))) aY (aB 0 eh (aa 1) (ah (bZ (aa 2) (some (aa 0)) (some (ag az (aa 0) (ae (.int 8))))) af))=CP at *;simp[fp,c1,ne,cp,b1,-ay]
def A7(S:ShelfAt h p ps)(g:Good ps)(A:TxZ ps a x)(B:TxZ ps b y)(hm:x.length+y.length<=1000000000000000000)(hz:ps.length<15000000) :
  ∃ (n:Nat) (ps':YG) (h':AH),Dn (bQ [.ref p,.int a,.int b]) p h h' ps ps' (16*(max (aR ps a) (aR ps b)+1).toNat) n/\TxZ ps' n (x++y)/\aR ps' n<=max (aR ps a) (aR ps b)+1:=by
 rcases A with⟨rfl,rfl⟩|⟨ma,fa,la,A⟩
 ·obtain⟨mb,eb,sb⟩:=B.meas
  have em:("" : Str)++y=y:=cw (by rw[dw];rfl)
  have dv:Dn (bQ [.ref p,.int (0:Nat),.int b]) p h h ps ps 0 b:=Dn.val S g λhh pp S' _ pr=>pH S' (aL pr eb) (by rw[sb];lia)
  exact⟨b,ps,h,dv.as S g (λ_ _ _ _ _=>rfl) (Po _),by rw[em];exact B,by lia⟩
 ·rcases B with⟨rfl,rfl⟩|⟨mb,fb,lb,B⟩
  ·have em:x++("" : Str)=x:=cw (by rw[dw];simp;rfl)
   have dv:Dn (bQ [.ref p,.int a,.int (0:Nat)]) p h h ps ps 0 a:=Dn.val S g λhh pp S' _ pr=>pI S' A.n1 (aL pr A.ms) A.ky.most
   exact⟨a,ps,h,dv.as S g (λ_ _ _ _ _=>rfl) (Po _),by rw[em];exact .inr ⟨_,_,_,A⟩,by lia⟩
  ·have sa:=A.ky.sg
   have sb:=B.ky.sg;have a0:=A.ky.ht;have b0:=B.ky.ht;have ha:=eZ g A;have hb:=eZ g B;rw[eu A.ms,eu B.ms];by_cases q:8<la.sg+fb.sg
   ·obtain⟨n,ps',h',m,d,T,_,hu⟩:=pC 90 (max ma.ht mb.ht).toNat S g A B q ⋯ ⋯ ⋯ ⋯
    exact⟨n,ps',h',d.as S g (λhh pp S' _ pr=>by rw[j1 S' A.n1 B.n1 (aL pr A.ms) (aL pr B.ms) (aL pr A.ky.ll) (aL pr B.ky.fl) ⋯,OX q]) ⋯,.inr ⟨_,_,_,T⟩,by rw[eu T.ms];exact hu⟩
   ·obtain⟨n,ps',h',m,f,l,d,T,hu⟩:=A0 S g A B q ⋯ hz
    exact⟨n,ps',h',d.as S g (λhh pp S' _ pr=>by rw[j1 S' A.n1 B.n1 (aL pr A.ms) (aL pr B.ms) (aL pr A.ky.ll) (aL pr B.ky.fl) ⋯,O0 q]) ⋯,.inr ⟨_,_,_,T⟩,by rw[eu T.ms];exact hu⟩
def bU(x:Str)(a:Nat):Str:=⟨(x.cps.toList.take a).toArray⟩
def dz(x:Str)(a:Nat):Str:=⟨(x.cps.toList.drop a).toArray⟩
def j3(x:Str)(a:Nat):(bU x a).cps.toList=x.cps.toList.take a:=(rfl)
def kK(x:Str)(a:Nat):(dz x a).cps.toList=x.cps.toList.drop a:=(rfl)
def sr(h:a<=x.length):(bU x a).length=a:=by
 rw[cG] at *
 rw[j3,PZ];lia
def nK(x:Str)(a:Nat):(dz x a).length=x.length-a:=by
 rw[cG,cG x,kK,Qx]
def wu(x:Str):bU x 0="" :=(cw rfl)
def wx(x:Str):dz x 0=x:=(cw rfl)
def Lw(h:x.length<=a):bU x a=x:=(cw (by rw[j3,PF (by rw[<- cG];exact h)]))
def Lx(h:x.length<=a):dz x a="" :=(cw (by rw[kK,P2 (by rw[<- cG];exact h)];rfl))
def wy(h:a<=x.length):bU (x++y) a=bU x a:=(cw (by rw[j3,dw,j3,RA (by rw[<- cG];exact h)]))
def wz(h:x.length<=a):bU (x++y) a=x++bU y (a-x.length):=(cw (by
 rw[j3,dw,dw,j3,List.take_append,PF (by rw[<- cG];exact h),<- cG]))
def wA(h:a<=x.length):dz (x++y) a=dz x a++y:=(cw (by rw[kK,dw,dw,kK,List.drop_append_of_le_length (by rw[<- cG];exact h)]))
def wB(h:x.length<=a):dz (x++y) a=dz y (a-x.length):=(cw (by
 rw[kK,dw,kK,List.drop_append,P2 (by rw[<- cG];exact h),<- cG];rfl))
def Ly(h:bN x=true)(a:Nat):bN (bU x a)=true:=by
 unfold bN at *
 rw[j3,Px];rw[Px] at h;exactλc hc=>h c (Rz hc)
def LA(h:bN x=true)(a:Nat):bN (dz x a)=true:=by
 unfold bN at *
 rw[kK,Px];rw[Px] at h;exactλc hc=>h c (QT hc)
def A8(h:AH):dP (.str x) none (some (a:Int)) h=.ok (.str (bU x a)) h:=by
 have:bL x none (some (a:Int))=bU x a:=cw (by
  unfold bL;rw[HT.sIx_nat,HT.sIx_none,j3];show (x.cps.toList.drop 0).take (min a x.cps.toList.length-0)=_
  rw[RP,Nat.sub_zero];by_cases q:a<=x.cps.toList.length
  ·rw[QO q]
  ·rw[Nat.min_eq_right ⋯,List.take_length,PF ⋯])
 simp only[dP,this]
def A9(ha:a<=x.length)(h:AH):dP (.str x) (some (a:Int)) none h=.ok (.str (dz x a)) h:=by
 have:bL x (some (a:Int)) none=dz x a:=cw (by
  unfold bL;rw[HT.sIx_nat,HT.sIx_none,kK];rw[cG] at ha;rw[QO ha];show (x.cps.toList.drop a).take (x.cps.toList.length-a)=_
  rw[PF (by rw[Qx];exact OV _)])
 simp only[dP,this]
def ik(z:Int):Nat:=8*((z+1).toNat*(z+2).toNat)
def Ba{a b:Int}(h0:0<=b)(h:b<=a):ik b+16*(a+1+1).toNat<=ik (a+1):=by
 unfold ik;obtain⟨m,rfl⟩:=P6 h0;obtain⟨n,rfl⟩:=P6 (show 0<=a by lia);rw[show ((m:Int)+1).toNat=m+1 by lia,show ((m:Int)+2).toNat=m+2 by lia,show ((n:Int)+1+1).toNat=n+2 by lia,show ((n:Int)+1+2).toNat=n+3 by lia];have hmn:m<=n:=by lia
 have h1:(m+1)*(m+2)<=(n+1)*(n+2):=Rm ⋯ ⋯;have h2:(n+2)*(n+3)=(n+1)*(n+2)+2*(n+2):=by
  rw[Sz (n+1),<- Sz (n+2) 2,<- Tp]
 lia
def wC{a b:Int}(h:a<=b)(ha:-1<=a):ik a<=ik b:=by
 unfold ik;exact TJ 8 (Rm ⋯ ⋯)
def Bb{a:Int}(h:a<=83)(h1:-1<=a):ik a<=57120:=by
 have:=wC h h1;have:ik 83=57120:=by decide +kernel
 lia
def su(z:Str)(n:Nat):(aX z n).cps.toList=(List.replicate n z.cps.toList).flatten:=(rfl)
def sv(z:Str)(a b:Nat):aX z a++aX z b=aX z (a+b):=(cw (by rw[dw,su,su,su,<- List.flatten_append,List.replicate_append_replicate]))
def wD(z:Str):aX z 1=z:=(cw (by rw[su];simp))
def wF(z:Str):aX z 0="" :=(cw rfl)
theorem sC(z:Str):∀ n,(aX z n).length=z.length*n
 |0=>by rw[wF];rfl
 |n+1=>by rw[<- sv,d6,sC z n,wD,Nat.mul_succ]
theorem wG:∀ n,aX "" n=""
 |0=>wF _
 |n+1=>by
  rw[<- sv,wG n,wD];exact cw (by rw[dw];rfl)
def wH:eV (d+1) [.ref p,.int n,.int (0:Nat)] h=.ok (.int (0:Nat)) h:=by
 have z:ay (.int 0) (.int 0) h=.ok (.bl true) h:=by simp
 simp[eV,rH,z,-ay]
def wI{k:Nat}{a:Int}(hk:¬ k=0)(hp:k % 2=0)(e1:eV d [.ref p,.int n,.int (k / 2:Nat)] h=.ok (.int a) h1):eV (d+1) [.ref p,.int n,.int k] h=bQ [.ref p,.int a,.int a] h1:=by
 have z:ay (.int k) (.int 0) h=.ok (.bl false) h:=by simp[hk]
 have dv:cJ (.int k) (.int 2) h=.ok (.int (k / 2:Nat)) h:=rfl;have md:∀ h,bG (.int k) (.int 2) h=.ok (.int 0) h:=λh=>by
  have:(k:Int) % 2=0:=by lia
  show Out.ok (AV.int ((k:Int) % 2)) h=_
  rw[this]
 have z2:∀ h,ay (.int 0) (.int 0) h=.ok (.bl true) h:=λh=>by simp
 unfold eV rH;generalize hF:bQ [.ref p,.int a,.int a] h1=R
 generalize eV d=G,((k / 2:Nat):Int)=K2 at *;simp[z,dv,e1,hF,-ay,-cJ,-bG]
 cases R with
 |ok v h2=>simp[md,z2,-ay,-bG]
 |ex c h2=>rfl
 |bad=>rfl
def wJ{k:Nat}{a:Int}(hk:¬ k=0)(hp:¬ k % 2=0)(e1:eV d [.ref p,.int n,.int (k / 2:Nat)] h=.ok (.int a) h1):eV (d+1) [.ref p,.int n,.int k] h=(bQ [.ref p,.int a,.int a] h1).bind λv h2=>bQ [.ref p,v,.int n] h2:=by
 have z:ay (.int k) (.int 0) h=.ok (.bl false) h:=by simp[hk]
 have dv:cJ (.int k) (.int 2) h=.ok (.int (k / 2:Nat)) h:=rfl;have md:∀ h,bG (.int k) (.int 2) h=.ok (.int 1) h:=λh=>by
  have:(k:Int) % 2=1:=by lia
  show Out.ok (AV.int ((k:Int) % 2)) h=_
  rw[this]
 have z2:∀ h,ay (.int 1) (.int 0) h=.ok (.bl false) h:=λh=>by simp
 unfold eV rH;generalize hF:bQ [.ref p,.int a,.int a] h1=R
 generalize eV d=G,((k / 2:Nat):Int)=K2 at *;simp[z,dv,e1,hF,-ay,-cJ,-bG]
 cases R with
 |ok v h2 =>
  simp[md,z2,-ay,-bG]
  cases bQ [.ref p,v,.int n] h2<;>rfl
 |ex c h2=>rfl
 |bad=>rfl
def wK(g:Good ps)(A:TxZ ps a x)(B:TxZ ps b y):16*(max (aR ps a) (aR ps b)+1).toNat<=1400:=by
 have key:∀ {n:Nat} {y:Str},TxZ ps n y->aR ps n<=82:=λ{n y} t=>by
  rcases t with⟨rfl,rfl⟩|⟨m,f,l,T⟩
  ·rw[pF];lia
  ·rw[eu T.ms];exact eZ g T
 have:=key A;have:=key B;lia
theorem Bc{p:Nat}:∀ (d e:Nat) {h:AH} {ps:YG} {n k:Nat} {x:Str},ShelfAt h p ps->Good ps->TxZ ps n x->k<2 ^ e->e<d->x.length*k<=1000000000000000000->ps.length+2800*e<15000000 ->
  ∃ (m:Nat) (ps':YG) (h':AH),Dn (eV d [.ref p,.int n,.int k]) p h h' ps ps' (2800*e) m/\TxZ ps' m (aX x k)
 |0,e,h,ps,n,k,x,S,g,T,hk,hd,hm,hz=>absurd hd (Qb _)
 |d+1,e,h,ps,n,k,x,S,g,T,hk,hd,hm,hz=>by
  by_cases k0:k=0
  ·subst k0
   have dv:Dn (eV (d+1) [.ref p,.int n,.int (0:Nat)]) p h h ps ps 0 0:=Dn.val S g λhh pp S' _ pr=>wH
   exact⟨0,ps,h,dv.as S g (λ_ _ _ _ _=>rfl) (Po _),.inl ⟨rfl,wF x⟩⟩
  ·obtain⟨e',rfl⟩:∃ e',e=e'+1:=by
    cases e with
    |zero=>simp at hk;lia
    |succ e'=>exact⟨e',rfl⟩
   rw[SA] at hk;have kk:x.length*(k / 2)+x.length*(k / 2)+x.length*(k % 2)=x.length*k:=by
    rw[<- Tp,<- Tp];congr 1
    lia
   obtain⟨a,ps1,h1,d1,T1⟩:=Bc d e' (k:=k / 2) S g T ⋯ ⋯ ⋯ ⋯;have z1:=d1.dd.len;have l1:=sC x (k / 2);obtain⟨b,ps2,h2,d2,T2⟩:=wg d1.dd.sh d1.dd.gd T1 T1 ⋯ ⋯;have w2:=wK d1.dd.gd T1 T1;have z2:=d2.dd.len;rw[sv] at T2;by_cases hp:k % 2=0
   ·have ek:k / 2+k / 2=k:=by lia
    rw[ek] at T2;exact⟨b,ps2,h2,Dn.seq' S g d1 d2 (λhh hh1 pp S' _ pr ev=>wI k0 hp ev) ⋯,T2⟩
   ·have l2:=sC x (k / 2+k / 2)
    rw[Tp] at l2;have km:x.length*(k % 2)=x.length:=by rw[show k % 2=1 by lia,Nat.mul_one]
    have p12:=d1.dd.pre.trans d2.dd.pre;obtain⟨c,ps3,h3,d3,T3⟩:=wg d2.dd.sh d2.dd.gd T2 (T.pre p12) ⋯ ⋯;have w3:=wK d2.dd.gd T2 (T.pre p12);have ek:aX x (k / 2+k / 2)++x=aX x k:=by
     conv=>lhs;rhs;rw[<- wD x]
     rw[sv];congr 1
     lia
    rw[ek] at T3;have d23:=Dn.seq (F:=λhh=>(bQ [.ref p,.int a,.int a] hh).bind λv h2=>bQ [.ref p,v,.int n] h2) (F2:=λv h2=>bQ [.ref p,v,.int n] h2) d1.dd.sh d1.dd.gd d2 d3 (λ_ _ _ _ _=>rfl) (k:=2800) ⋯
    exact⟨c,ps3,h3,Dn.seq' S g d1 d23 (λhh hh1 pp S' _ pr ev=>wJ k0 hp ev) ⋯,T3⟩
def wL{k:Nat}{m:Ms}(S:ShelfAt h p ps)(em:(meas ps)[n]?=some m)(hk:k<2 ^ 63)(hm:m.sg*k<=1000000000000000000):hJ [.ref p,.int n,.int k] h=if n=0 then .ok (.int (0:Nat)) h else eV 64 [.ref p,.int n,.int k] h:=by
 have fs:=cL S em;have lt:cP (.int k) (.int 0) h=.ok (.bl false) h:=by
  have:¬ (k:Int)<0:=by lia
  simp only[cP,this,decide_false]
 have ml:bj (.int m.sg) (.int k) h=.ok (.int ((m.sg*k:Nat):Int)) h:=by
  have h2:(k:Int).natAbs<2 ^ 64:=by
   have:(2:Nat) ^ 63<2 ^ 64:=by decide
   lia
  rw[Av h2];congr 2
 have ck:=pG (i:=((m.sg*k:Nat):Int)) ⋯ h;unfold hJ;generalize ((m.sg*k:Nat):Int)=MK,eV 64=G at *;by_cases z:n=0
 ·subst z
  have z0:ay (.int 0) (.int 0) h=.ok (.bl true) h:=by simp
  have fs':eT [.ref p,.int 0] h=.ok (.int m.sg) h:=fs;simp[S.ob,fs',lt,ml,ck,z0,-cP,-bj,-ay]
 ·have z0:ay (.int n) (.int 0) h=.ok (.bl false) h:=by simp[z]
  rw[O0 z];generalize hR:G [.ref p,.int n,.int k] h=R
  simp[S.ob,fs,lt,ml,ck,z0,hR,-cP,-bj,-ay]
  cases R<;>rfl
def LB{k:Nat}(S:ShelfAt h p ps)(g:Good ps)(T:TxZ ps n x)(hk:k<2 ^ e)(he:e<62)(hm:x.length*k<=1000000000000000000)(hz:ps.length+2800*e<15000000) :
  ∃ (m:Nat) (ps':YG) (h':AH),Dn (hJ [.ref p,.int n,.int k]) p h h' ps ps' (2800*e) m/\TxZ ps' m (aX x k):=by
 obtain⟨m,em,sm⟩:=T.meas;have k63:k<2 ^ 63:=Ph hk (Tq 'd' ⋯);by_cases z:n=0
 ·rcases T with⟨_,rfl⟩|⟨_,_,_,T⟩
  ·have dv:Dn (hJ [.ref p,.int n,.int k]) p h h ps ps 0 0:=Dn.val S g λhh pp S' _ pr=>by rw[wL S' (aL pr em) k63 (by rw[sm];exact hm),OX z]
   exact⟨0,ps,h,dv.as S g (λ_ _ _ _ _=>rfl) (Po _),.inl ⟨rfl,wG k⟩⟩
  ·exact absurd T.n1 ⋯
 ·obtain⟨c,ps',h',d,T'⟩:=Bc 64 e S g T hk ⋯ hm hz
  exact⟨c,ps',h',d.as S g (λhh pp S' _ pr=>by rw[wL S' (aL pr em) k63 (by rw[sm];exact hm),O0 z]) (OV _),T'⟩
def pJ(t:TxZ ps n y):-1<=aR ps n:=by
 rcases t with⟨rfl,rfl⟩|⟨m,f,l,T⟩
 ·rw[pF];lia
 ·rw[eu T.ms];have:=T.ky.ht;lia
def TxZ.pos(t:TxZ ps n y)(hy:1<=y.length):∃ m f l,Tx ps n m y f l:=by
 rcases t with⟨rfl,rfl⟩|t
 ·exact absurd hy 'd'
 ·exact t
def wM:dh (d+1) [.ref p,.int n,.int (0:Nat)] h=.ok (.int (0:Nat)) h:=by
 have z:ay (.int 0) (.int 0) h=.ok (.bl true) h:=by simp
 simp[dh,mh,z,-ay]
def LC{m:Ms}(S:ShelfAt h p ps)(em:(meas ps)[n]?=some m)(a0:¬ a=0)(ea:a=m.sg):dh (d+1) [.ref p,.int n,.int a] h=.ok (.int n) h:=by
 have z:ay (.int a) (.int 0) h=.ok (.bl false) h:=by simp[a0]
 have fs:=cL S em;rw[<- ea] at fs;have z2:ay (.int a) (.int a) h=.ok (.bl true) h:=by simp
 simp[dh,mh,z,S.ob,fs,z2,-ay]
def LD{m:Ms}(S:ShelfAt h p ps)(n1:1<=n)(em:(meas ps)[n]?=some m)(ep:ps[n-1]?=some (.leaf x))(a0:¬ a=0)(ea:¬ a=m.sg):dh (d+1) [.ref p,.int n,.int a] h=eh [.ref p,.str (bU x a)] h:=by
 have z:ay (.int a) (.int 0) h=.ok (.bl false) h:=by simp[a0]
 have fs:=cL S em;have z2:ay (.int a) (.int m.sg) h=.ok (.bl false) h:=by
  have:¬ (a:Int)=m.sg:=by lia
  simp[this]
 have ct:=A8 (x:=x) (a:=a) h;generalize hF:eh [.ref p,.str (bU x a)] h=R
 simp[dh,mh,z,S.ob,fs,z2,nJ S n1 ep,sf,sj,si,ct,hF,-ay,-aj,-dP]
 cases R<;>first|rfl|simp
def wN{m:Ms}(S:ShelfAt h p ps)(n1:1<=n)(em:(meas ps)[n]?=some m)(ec:(meas ps)[c]?=some mc)(ep:ps[n-1]?=some (.fork c e))(a0:¬ a=0)(ea:¬ a=m.sg)(hl:a<=mc.sg):dh (d+1) [.ref p,.int n,.int a] h=dh d [.ref p,.int c,.int a] h:=by
 have z:ay (.int a) (.int 0) h=.ok (.bl false) h:=by simp[a0]
 have fs:=cL S em;have fc:=cL S ec;have z2:ay (.int a) (.int m.sg) h=.ok (.bl false) h:=by
  have:¬ (a:Int)=m.sg:=by lia
  simp[this]
 have le:bc (.int a) (.int mc.sg) h=.ok (.bl true) h:=by simp[hl]
 show mh (dh d) [.ref p,.int n,.int a] h=dh d [.ref p,.int c,.int a] h
 generalize dh d=G at *;unfold mh
 generalize hF:G [.ref p,.int c,.int a] h=R
 simp[z,S.ob,fs,fc,z2,gu S n1 ep,mC,mD,i1,le,hF,-ay,-aj,-bc]
 cases R<;>first|rfl|simp
def wO{v:Int}{m:Ms}(S:ShelfAt h p ps)(n1:1<=n)(em:(meas ps)[n]?=some m)(ec:(meas ps)[c]?=some mc)(ep:ps[n-1]?=some (.fork c e))(a0:¬ a=0)(ea:¬ a=m.sg)(hl:¬ a<=mc.sg)(ev:dh d [.ref p,.int e,.int (a-mc.sg:Nat)] h=.ok (.int v) h1) :
  dh (d+1) [.ref p,.int n,.int a] h=bQ [.ref p,.int c,.int v] h1:=by
 have z:ay (.int a) (.int 0) h=.ok (.bl false) h:=by simp[a0]
 have fs:=cL S em;have fc:=cL S ec;have z2:ay (.int a) (.int m.sg) h=.ok (.bl false) h:=by
  have:¬ (a:Int)=m.sg:=by lia
  simp[this]
 have le:bc (.int a) (.int mc.sg) h=.ok (.bl false) h:=by
  simp;lia
 have sb:bM (.int a) (.int mc.sg) h=.ok (.int (a-mc.sg:Nat)) h:=by
  have:(a:Int)-mc.sg=((a-mc.sg:Nat):Int):=by lia
  rw[<- this];rfl
 unfold dh mh;generalize ((a-mc.sg:Nat):Int)=AM,dh d=G at *;generalize hF:bQ [.ref p,.int c,.int v] h1=R
 simp[z,S.ob,fs,fc,z2,gu S n1 ep,mC,mD,i1,i2,le,sb,ev,hF,-ay,-aj,-bc,-bM]
 cases R<;>first|rfl|simp
theorem wQ{p:Nat}:∀ (d:Nat) {h:AH} {ps:YG} {n a:Nat} {x:Str},ShelfAt h p ps->Good ps->TxZ ps n x->a<=x.length->(aR ps n).toNat<d->ps.length+ik (aR ps n)<14900000 ->
  ∃ (r:Nat) (ps':YG) (h':AH),Dn (dh d [.ref p,.int n,.int a]) p h h' ps ps' (ik (aR ps n)) r/\TxZ ps' r (bU x a)/\aR ps' r<=aR ps n+1
 |0,h,ps,n,a,x,S,g,T,ha,hd,hz=>absurd hd (Qb _)
 |d+1,h,ps,n,a,x,S,g,T,ha,hd,hz=>by
  have hge:=pJ T;by_cases a0:a=0
  ·subst a0
   have dv:Dn (dh (d+1) [.ref p,.int n,.int (0:Nat)]) p h h ps ps 0 0:=Dn.val S g λhh pp S' _ pr=>wM
   exact⟨0,ps,h,dv.as S g (λ_ _ _ _ _=>rfl) (Po _),.inl ⟨rfl,wu x⟩,by rw[pF];lia⟩
  ·obtain⟨m,f,l,T1⟩:=T.pos ⋯
   have sg:=T1.ky.sg;by_cases ea:a=m.sg
   ·have dv:Dn (dh (d+1) [.ref p,.int n,.int a]) p h h ps ps 0 n:=Dn.val S g λhh pp S' _ pr=>LC S' (aL pr T1.ms) a0 ea
    exact⟨n,ps,h,dv.as S g (λ_ _ _ _ _=>rfl) (Po _),by rw[Lw ⋯];exact T,by lia⟩
   ·rw[eu T1.ms] at hd hz hge ⊢
    rcases g.kind T1 with⟨e1,e2,e3,e4,e5⟩|⟨_,_,mx,my,_,_,_,_,_,_,_,_,_,X,Y,_,e5,_⟩
    ·have lt:=sr ha
     obtain⟨r,ps',h',d1,L⟩:=r8 S g (x:=bU x a) (by
      unfold fU;rw[Ly T1.ky.pl,lt];simp;lia) ⋯
     refine⟨r,ps',h',d1.as S g (λhh pp S' _ pr=>LD S' T1.n1 (aL pr T1.ms) (cT pr e1) a0 ea) (by rw[e2];decide),.inr ⟨_,_,_,L⟩,by rw[eu L.ms,e2];show (0:Int)<=0+1;decide⟩
    ·have hpos:0<m.ht:=by
      have:=congrArg Ms.ht e5;rw[bJ] at this;have:=X.ky.ht
      (clear e5 Y X ea sg T1 hd hz hge a0 ha T g S;omega)
     obtain⟨c,e,mc,me,y1,y2,lc,fe,ep,C,E,rfl,em,w1,w2,w3⟩:=g.cut T1 hpos;have hh:m.ht=max mc.ht me.ht+1:=by rw[em];rfl
     have c0:=C.ky.ht;have e0:=E.ky.ht;have sc:=C.ky.sg;have se:=E.ky.sg;have la:=d6 y1 y2;by_cases hl:a<=mc.sg
     ·have hc1:aR ps c=mc.ht:=eu C.ms
      have cm:=wC (a:=mc.ht) (b:=m.ht) ⋯ ⋯;obtain⟨r,ps',h',d1,T',q1⟩:=wQ d (n:=c) (a:=a) (x:=y1) S g (.inr ⟨_,_,_,C⟩) ⋯ (by rw[hc1];lia) (by rw[hc1];lia)
      rw[hc1] at d1 q1;exact⟨r,ps',h',d1.as S g (λhh pp S' _ pr=>wN S' T1.n1 (aL pr T1.ms) (aL pr C.ms) (cT pr ep) a0 ea hl) cm,by rw[wy ⋯];exact T',by lia⟩
     ·have he1:aR ps e=me.ht:=eu E.ms
      have cs:=Ba (a:=m.ht-1) (b:=me.ht) e0 ⋯;rw[show m.ht-1+1=m.ht by lia] at cs;obtain⟨r,ps1,h1,d1,T',q1⟩:=wQ d (n:=e) (a:=a-mc.sg) (x:=y2) S g (.inr ⟨_,_,_,E⟩) ⋯ (by rw[he1];lia) (by rw[he1];lia)
      rw[he1] at d1 q1;have z1:=d1.dd.len
      have lt:=sr (x:=y2) (a:=a-mc.sg) ⋯;have most:=T1.ky.most;have C':TxZ ps1 c y1:=.inr ⟨_,_,_,C.pre d1.dd.pre⟩;have hc2:aR ps1 c=mc.ht:=eu (C.pre d1.dd.pre).ms;obtain⟨s,ps2,h2,d2,T2,q2⟩:=A7 d1.dd.sh d1.dd.gd C' T' ⋯ ⋯;have hr:=pJ T';refine⟨s,ps2,h2,Dn.seq' S g d1 d2 (λhh hh1 pp S' _ pr ev=>wO S' T1.n1 (aL pr T1.ms) (aL pr C.ms) (cT pr ep) a0 ea hl ev) ⋯,?_,by lia⟩
      rw[wz ⋯,<- sc];exact T2
def wR:dq (d+1) [.ref p,.int n,.int (0:Nat)] h=.ok (.int n) h:=by
 have z:ay (.int 0) (.int 0) h=.ok (.bl true) h:=by simp
 simp[dq,mq,z,-ay]
def LF{m:Ms}(S:ShelfAt h p ps)(em:(meas ps)[n]?=some m)(a0:¬ a=0)(ea:a=m.sg):dq (d+1) [.ref p,.int n,.int a] h=.ok (.int (0:Nat)) h:=by
 have z:ay (.int a) (.int 0) h=.ok (.bl false) h:=by simp[a0]
 have fs:=cL S em;rw[<- ea] at fs;have z2:ay (.int a) (.int a) h=.ok (.bl true) h:=by simp
 simp[dq,mq,z,S.ob,fs,z2,-ay]
def LG{m:Ms}(S:ShelfAt h p ps)(n1:1<=n)(em:(meas ps)[n]?=some m)(ep:ps[n-1]?=some (.leaf x))(ax:a<=x.length)(a0:¬ a=0)(ea:¬ a=m.sg):dq (d+1) [.ref p,.int n,.int a] h=eh [.ref p,.str (dz x a)] h:=by
 have z:ay (.int a) (.int 0) h=.ok (.bl false) h:=by simp[a0]
 have fs:=cL S em;have z2:ay (.int a) (.int m.sg) h=.ok (.bl false) h:=by
  have:¬ (a:Int)=m.sg:=by lia
  simp[this]
 have ct:=A9 (x:=x) ax h;generalize hF:eh [.ref p,.str (dz x a)] h=R
 simp[dq,mq,z,S.ob,fs,z2,nJ S n1 ep,sf,sj,si,ct,hF,-ay,-aj,-dP]
 cases R<;>first|rfl|simp
def wU{m:Ms}(S:ShelfAt h p ps)(n1:1<=n)(em:(meas ps)[n]?=some m)(ec:(meas ps)[c]?=some mc)(ep:ps[n-1]?=some (.fork c e))(a0:¬ a=0)(ea:¬ a=m.sg)(hl:mc.sg<=a):dq (d+1) [.ref p,.int n,.int a] h=dq d [.ref p,.int e,.int (a-mc.sg:Nat)] h:=by
 have z:ay (.int a) (.int 0) h=.ok (.bl false) h:=by simp[a0]
 have fs:=cL S em;have fc:=cL S ec;have z2:ay (.int a) (.int m.sg) h=.ok (.bl false) h:=by
  have:¬ (a:Int)=m.sg:=by lia
  simp[this]
 have le:kj (.int a) (.int mc.sg) h=.ok (.bl true) h:=by simp[hl]
 have sb:bM (.int a) (.int mc.sg) h=.ok (.int (a-mc.sg:Nat)) h:=by
  have:(a:Int)-mc.sg=((a-mc.sg:Nat):Int):=by lia
  rw[<- this];rfl
 show mq (dq d) [.ref p,.int n,.int a] h=dq d [.ref p,.int e,.int (a-mc.sg:Nat)] h
 generalize dq d=G at *;unfold mq
 generalize ((a-mc.sg:Nat):Int)=AM at *;generalize hF:G [.ref p,.int e,.int AM] h=R
 simp[z,S.ob,fs,fc,z2,gu S n1 ep,mC,mD,i1,i2,le,sb,hF,-ay,-aj,-kj,-bM]
 cases R<;>first|rfl|simp
def wV{v:Int}{m:Ms}(S:ShelfAt h p ps)(n1:1<=n)(em:(meas ps)[n]?=some m)(ec:(meas ps)[c]?=some mc)(ep:ps[n-1]?=some (.fork c e))(a0:¬ a=0)(ea:¬ a=m.sg)(hl:¬ mc.sg<=a)(ev:dq d [.ref p,.int c,.int a] h=.ok (.int v) h1) :
  dq (d+1) [.ref p,.int n,.int a] h=bQ [.ref p,.int v,.int e] h1:=by
 have z:ay (.int a) (.int 0) h=.ok (.bl false) h:=by simp[a0]
 have fs:=cL S em;have fc:=cL S ec;have z2:ay (.int a) (.int m.sg) h=.ok (.bl false) h:=by
  have:¬ (a:Int)=m.sg:=by lia
  simp[this]
 have le:kj (.int a) (.int mc.sg) h=.ok (.bl false) h:=by
  simp;lia
 unfold dq mq;generalize dq d=G at *;generalize hF:bQ [.ref p,.int v,.int e] h1=R
 simp[z,S.ob,fs,fc,z2,gu S n1 ep,mC,mD,i1,i2,le,ev,hF,-ay,-aj,-kj]
 cases R<;>first|rfl|simp
theorem wW{p:Nat}:∀ (d:Nat) {h:AH} {ps:YG} {n a:Nat} {x:Str},ShelfAt h p ps->Good ps->TxZ ps n x->a<=x.length->(aR ps n).toNat<d->ps.length+ik (aR ps n)<14900000 ->
  ∃ (r:Nat) (ps':YG) (h':AH),Dn (dq d [.ref p,.int n,.int a]) p h h' ps ps' (ik (aR ps n)) r/\TxZ ps' r (dz x a)/\aR ps' r<=aR ps n+1
 |0,h,ps,n,a,x,S,g,T,ha,hd,hz=>absurd hd (Qb _)
 |d+1,h,ps,n,a,x,S,g,T,ha,hd,hz=>by
  have hge:=pJ T;by_cases a0:a=0
  ·subst a0
   have dv:Dn (dq (d+1) [.ref p,.int n,.int (0:Nat)]) p h h ps ps 0 n:=Dn.val S g λhh pp S' _ pr=>wR
   exact⟨n,ps,h,dv.as S g (λ_ _ _ _ _=>rfl) (Po _),by rw[wx];exact T,by lia⟩
  ·obtain⟨m,f,l,T1⟩:=T.pos ⋯
   have sg:=T1.ky.sg;by_cases ea:a=m.sg
   ·have dv:Dn (dq (d+1) [.ref p,.int n,.int a]) p h h ps ps 0 0:=Dn.val S g λhh pp S' _ pr=>LF S' (aL pr T1.ms) a0 ea
    exact⟨0,ps,h,dv.as S g (λ_ _ _ _ _=>rfl) (Po _),.inl ⟨rfl,Lx ⋯⟩,by rw[pF];lia⟩
   ·rw[eu T1.ms] at hd hz hge ⊢
    rcases g.kind T1 with⟨e1,e2,e3,e4,e5⟩|⟨_,_,mx,my,_,_,_,_,_,_,_,_,_,X,Y,_,e5,_⟩
    ·have lt:=nK x a
     obtain⟨r,ps',h',d1,L⟩:=r8 S g (x:=dz x a) (by
      unfold fU;rw[LA T1.ky.pl,lt];simp;lia) ⋯
     refine⟨r,ps',h',d1.as S g (λhh pp S' _ pr=>LG S' T1.n1 (aL pr T1.ms) (cT pr e1) ha a0 ea) (by rw[e2];decide),.inr ⟨_,_,_,L⟩,by rw[eu L.ms,e2];show (0:Int)<=0+1;decide⟩
    ·have hpos:0<m.ht:=by
      have:=congrArg Ms.ht e5;rw[bJ] at this;have:=X.ky.ht
      (clear e5 Y X ea sg T1 hd hz hge a0 ha T g S;omega)
     obtain⟨c,e,mc,me,y1,y2,lc,fe,ep,C,E,rfl,em,w1,w2,w3⟩:=g.cut T1 hpos;have hh:m.ht=max mc.ht me.ht+1:=by rw[em];rfl
     have c0:=C.ky.ht;have e0:=E.ky.ht;have sc:=C.ky.sg;have se:=E.ky.sg;have la:=d6 y1 y2;by_cases hl:mc.sg<=a
     ·have he1:aR ps e=me.ht:=eu E.ms
      have cm:=wC (a:=me.ht) (b:=m.ht) ⋯ ⋯;obtain⟨r,ps',h',d1,T',q1⟩:=wW d (n:=e) (a:=a-mc.sg) (x:=y2) S g (.inr ⟨_,_,_,E⟩) ⋯ (by rw[he1];lia) (by rw[he1];lia)
      rw[he1] at d1 q1;refine⟨r,ps',h',d1.as S g (λhh pp S' _ pr=>wU S' T1.n1 (aL pr T1.ms) (aL pr C.ms) (cT pr ep) a0 ea hl) cm,?_,by lia⟩
      rw[wB ⋯,<- sc];exact T'
     ·have hc1:aR ps c=mc.ht:=eu C.ms
      have cs:=Ba (a:=m.ht-1) (b:=mc.ht) c0 ⋯;rw[show m.ht-1+1=m.ht by lia] at cs;obtain⟨r,ps1,h1,d1,T',q1⟩:=wW d (n:=c) (a:=a) (x:=y1) S g (.inr ⟨_,_,_,C⟩) ⋯ (by rw[hc1];lia) (by rw[hc1];lia)
      rw[hc1] at d1 q1;have z1:=d1.dd.len
      have lt:=nK y1 a;have most:=T1.ky.most;have E':TxZ ps1 e y2:=.inr ⟨_,_,_,E.pre d1.dd.pre⟩;have he2:aR ps1 e=me.ht:=eu (E.pre d1.dd.pre).ms;obtain⟨s,ps2,h2,d2,T2,q2⟩:=A7 d1.dd.sh d1.dd.gd T' E' ⋯ ⋯;have hr:=pJ T';refine⟨s,ps2,h2,Dn.seq' S g d1 d2 (λhh hh1 pp S' _ pr ev=>wV S' T1.n1 (aL pr T1.ms) (aL pr C.ms) (cT pr ep) a0 ea hl ev) ⋯,?_,by lia⟩
      rw[wA ⋯];exact T2
def Bd(g:Good ps)(t:TxZ ps n x):-1<=aR ps n/\aR ps n<=82:=by
 refine⟨pJ t,?_⟩
 rcases t with⟨rfl,rfl⟩|⟨m,f,l,T⟩
 ·rw[pF];lia
 ·rw[eu T.ms];exact eZ g T
def Be(S:ShelfAt h p ps)(g:Good ps)(T:TxZ ps n x)(ha:a<=x.length)(hz:ps.length<14000000) :
  ∃ (r:Nat) (ps':YG) (h':AH),dh 90 [.ref p,.int n,.int a] h=.ok (.int r) h'/\Dd p h h' ps ps' 57120/\TxZ ps' r (bU x a):=by
 have b:=Bd g T;have c:=Bb (a:=aR ps n) ⋯ b.1;obtain⟨r,ps',h',d,T',_⟩:=wQ (p:=p) 90 (a:=a) S g T ha ⋯ ⋯;exact⟨r,ps',h',d.ev,{ d.dd with len:=OW d.dd.len (Pg c _) },T'⟩
def Bf(S:ShelfAt h p ps)(g:Good ps)(T:TxZ ps n x)(ha:a<=x.length)(hz:ps.length<14000000) :
  ∃ (r:Nat) (ps':YG) (h':AH),dq 90 [.ref p,.int n,.int a] h=.ok (.int r) h'/\Dd p h h' ps ps' 57120/\TxZ ps' r (dz x a):=by
 have b:=Bd g T;have c:=Bb (a:=aR ps n) ⋯ b.1;obtain⟨r,ps',h',d,T',_⟩:=wW (p:=p) 90 (a:=a) S g T ha ⋯ ⋯;exact⟨r,ps',h',d.ev,{ d.dd with len:=OW d.dd.len (Pg c _) },T'⟩
def sD(S:ShelfAt h p ps)(g:Good ps)(A:TxZ ps a x)(B:TxZ ps b y)(hm:x.length+y.length<=1000000000000000000)(hz:ps.length<15000000) :
  ∃ (n:Nat) (ps':YG) (h':AH),bQ [.ref p,.int a,.int b] h=.ok (.int n) h'/\Dd p h h' ps ps' 1400/\TxZ ps' n (x++y):=by
 obtain⟨n,ps',h',d,T⟩:=wg S g A B hm hz;exact⟨n,ps',h',d.ev,{ d.dd with len:=OW d.dd.len (Pg (wK g A B) _) },T⟩
def LH{m:Ms}(S:ShelfAt h p ps)(em:(meas ps)[n]?=some m)(be:b<=e)(hm:e<=m.sg):jU [.ref p,.int n,.int b,.int e] h=.ok .non h:=by
 have fs:=cL S em;have l1:bc (.int 0) (.int b) h=.ok (.bl true) h:=by
  have:(0:Int)<=b:=by lia
  simp only[bc,this,RB]
 have l2:bc (.int b) (.int e) h=.ok (.bl true) h:=by
  have:(b:Int)<=e:=by lia
  simp only[bc,this,RB]
 have l3:bc (.int e) (.int m.sg) h=.ok (.bl true) h:=by
  have:(e:Int)<=m.sg:=by lia
  simp only[bc,this,RB]
 simp[jU,S.ob,fs,l1,l2,l3,-bc]
def LI{t:Nat}{m:Ms}(S:ShelfAt h p ps)(em:(meas ps)[n]?=some m)(hm:t<=m.sg):kI [.ref p,.int n,.int t] h=.ok .non h:=by
 have fs:=cL S em;have l1:bc (.int 0) (.int t) h=.ok (.bl true) h:=by
  have:(0:Int)<=t:=by lia
  simp only[bc,this,RB]
 have l2:bc (.int t) (.int m.sg) h=.ok (.bl true) h:=by
  have:(t:Int)<=m.sg:=by lia
  simp only[bc,this,RB]
 simp[kI,S.ob,fs,l1,l2,-bc]
def LJ(S:ShelfAt h p ps)(g:Good ps)(T:TxZ ps n x)(be:b<=e)(ex:e<=x.length)(hx:x.length<=1000000000000000000)(hz:ps.length<13000000) :
  ∃ (r:Nat) (ps':YG) (h':AH),jV [.ref p,.int n,.int b,.int e] h=.ok (.int r) h'/\Dd p h h' ps ps' 120000/\TxZ ps' r (bU x b++dz x e):=by
 obtain⟨m,em,sm⟩:=T.meas;have ck:=LH S em be ⋯;obtain⟨r1,ps1,h1,e1,D1,T1⟩:=Be (a:=b) S g T ⋯ ⋯;have z1:=D1.len;obtain⟨r2,ps2,h2,e2,D2,T2⟩:=Bf (a:=e) D1.sh D1.gd (T.pre D1.pre) ex ⋯;have z2:=D2.len;have l1:=sr (x:=x) (a:=b) ⋯;have l2:=nK x e;obtain⟨r,ps3,h3,e3,D3,T3⟩:=sD D2.sh D2.gd (T1.pre D2.pre) T2 ⋯ ⋯;refine⟨r,ps3,h3,?_,(D1.trans D2 (OV _)).trans D3 ⋯,T3⟩
 unfold jV;generalize dq 90=FB,dh 90=FF at *;simp[ck,e1,e2,e3]
def LM{t:Nat}(S:ShelfAt h p ps)(g:Good ps)(A:TxZ ps a x)(B:TxZ ps b y)(tx:t<=x.length)(hx:x.length+y.length<=1000000000000000000)(hz:ps.length<13000000) :
  ∃ (r:Nat) (ps':YG) (h':AH),je [.ref p,.int a,.int t,.int b] h=.ok (.int r) h'/\Dd p h h' ps ps' 120000/\TxZ ps' r ((bU x t++y)++dz x t):=by
 obtain⟨ma,ema,sma⟩:=A.meas;obtain⟨mb,emb,smb⟩:=B.meas;have ck:=LI S ema (show t<=ma.sg by lia);have f1:=cL S ema;have f2:=cL S emb;have lk:=pG (i:=(ma.sg:Int)+mb.sg) ⋯ h;obtain⟨r1,ps1,h1,e1,D1,T1⟩:=Be (a:=t) S g A tx ⋯;have z1:=D1.len;have l1:=sr tx;obtain⟨r2,ps2,h2,e2,D2,T2⟩:=sD D1.sh D1.gd T1 (B.pre D1.pre) ⋯ ⋯;have z2:=D2.len;have l2:=d6 (bU x t) y;obtain⟨r3,ps3,h3,e3,D3,T3⟩:=Bf (a:=t) D2.sh D2.gd (A.pre (D1.pre.trans D2.pre)) tx ⋯;have z3:=D3.len;have l3:=nK x t;obtain⟨r,ps4,h4,e4,D4,T4⟩:=sD D3.sh D3.gd (T2.pre D3.pre) T3 ⋯ ⋯;refine⟨r,ps4,h4,?_,((D1.trans D2 (OV _)).trans D3 (OV _)).trans D4 ⋯,T4⟩
 have ob:=S.ob;unfold je;generalize dq 90=FB,dh 90=FF at *;simp[ob,f1,f2,ck,lk,e1,e2,e3,e4]
def LN(c k:Int)(h:AH):∃ m,rp [.int c,.int k] h=.ok (.int m) h:=by
 have b1:0<=(c % 1000000007+7919*k+101)*48271 % 2147483647:=RD _ 'd';have b2:(c % 1000000007+7919*k+101)*48271 % 2147483647<2147483647:=RQ _ 'd';refine⟨(c % 1000000007+7919*k+101)*48271 % 2147483647*((c % 1000000007+7919*k+101)*48271 % 2147483647) % 2147483629*69621 % 2147483647,?_⟩
 generalize he:(c % 1000000007+7919*k+101)*48271 % 2147483647=v at *;have c1:v.natAbs<18446744073709551616:=by lia
 simp[rp,he,c1]
def LP{i j:Int}(hi:i.natAbs<2 ^ 4000)(hj:j.natAbs<2 ^ 4000):bj (.int i) (.int j) h=.ok (.int (i*j)) h:=(OX (.inr ⟨hi,hj⟩))
def LQ(ns:List Int):oJ (ns.map AV.int)=some ns:=by
 induction ns with
 |nil=>rfl
 |cons n r ih=>simp[ih]
abbrev T60:Int:=1000000000000000000000000000000000000000000000000000000000000000000000000000000000000000000000000000000000000000000000000
def LR:(10:Nat) ^ 960<2 ^ 4000:=by decide +kernel
def LV:T60.natAbs<2 ^ 4000:=by decide +kernel
def LW(ns:List Int)(k:Nat)(i:Nat)(c:Nat)(o:Option AV)(h:AH)(hi:i<8)(hc:c<10 ^ (120*i))(hj:k+i*8<ns.length) :
  ∃ c':Nat,c'<10 ^ (120*(i+1))/\nB [some (.fl (ns.map AV.int)),some (.int k),some (.int c),some (.int ((k:Int)+i*8)),o] h=.nx [some (.fl (ns.map AV.int)),some (.int k),some (.int c'),some (.int ((k:Int)+i*8)),o] h:=by
 obtain⟨s,es⟩:∃ s,ns[k+i*8]?=some s:=⟨ns[k+i*8],by simp[hj]⟩
 have ix:aj (.fl (ns.map AV.int)) (.int ((k:Int)+i*8)) h=.ok (.int s) h:=by
  rw[show ((k:Int)+i*8)=((k+i*8:Nat):Int) by simp];simp only[aj,Kp es]
 have p1:(10:Nat) ^ (120*i)<=10 ^ 960:=Tq 'd' ⋯;have m1:((c:Int)).natAbs<2 ^ 4000:=by
  have:=LR;exact RI (show c<10 ^ 960 by lia) this
 have mu:bj (.int c) (.int T60) h=.ok (.int (c*T60)) h:=LP m1 LV;have r0:0<=s % T60:=RD _ 'd';have r1:s % T60<T60:=RQ _ 'd';obtain⟨r,er⟩:∃ r:Nat,s % T60=(r:Int):=⟨(s % T60).toNat,(TK r0).symm⟩
 have rl:r<10 ^ 120:=by
  have:(r:Int)<T60:=er▸r1
  have e:T60=((10 ^ 120:Nat):Int):=by decide +kernel
  rw[e] at this;exact Ud.mp this
 obtain⟨c',ec,lc⟩:∃ c':Nat,(c:Int)*T60+r=(c':Int)/\c'<10 ^ (120*(i+1)):=by
  refine⟨c*10 ^ 120+r,?_,?_⟩
  ·have e:T60=((10 ^ 120:Nat):Int):=by decide +kernel
   rw[e,Int.natCast_add,Int.natCast_mul]
  ·rw[show 120*(i+1)=120*i+120 by lia,Nat.pow_add]
   have:(c+1)*10 ^ 120<=10 ^ (120*i)*10 ^ 120:=Nat.mul_le_mul_right _ hc
   have e2:(c+1)*10 ^ 120=c*10 ^ 120+10 ^ 120:=Nat.succ_mul _ _;lia
 refine⟨c',lc,?_⟩
 have pw:(ag bj (ag bY (ae (.int 10)) (ae (.int 60))) (ag bY (ae (.int 10)) (ae (.int 60)))) [some (.fl (ns.map AV.int)),some (.int k),some (.int c),some (.int ((k:Int)+i*8)),o] h=.ok (.int T60) h:=by simp
 have md:bG (.int s) (.int T60) h=.ok (.int r) h:=by simp only[bG];rw[OX 'd',er]
 clear p1 m1 r0 r1 er rl hc lc hi;unfold nB
 generalize T60=t60,ag bj (ag bY (ae (.int 10)) (ae (.int 60))) (ag bY (ae (.int 10)) (ae (.int 60)))=PW at *;simp[pw,mu,ix,md,ec,-bj,-aj,-bG]
def LX(en0:Option AV)(ns:List Int)(k c f j:Int)(h:AH):∃ f',nC [some (.fl (ns.map AV.int)),some (.int k),some (.int c),some (.int j),some (.int f)] h=.nx [some (.fl (ns.map AV.int)),some (.int k),some (.int c),some (.int j),some (.int f')] h:=by
 obtain⟨m,hm⟩:=LN (c+1009*k+ns.length) j h;refine⟨f*2147483647+m,?_⟩
 have m1:bj (.int f) (.int 2147483647) h=.ok (.int (f*2147483647)) h:=Av 'd';have m2:bj (.int 1009) (.int k) h=.ok (.int (1009*k)) h:=Au 'd';simp[nC,hm,m1,m2,-bj]
def LY(ns:List Int)(hl:ns.length<=63)(k:Nat)(hk:k<=10)(h:AH):∃ N:Int,lY [.fl (ns.map AV.int),.int k] h=.ok (.ref h.length) (h++[.lst [.int N]]):=by
 obtain⟨M,eM⟩:∃ M:Nat,M=(if (k:Int)<(ns.length:Int) then((ns.length:Int)-k-1) / 8+1 else 0).toNat:=⟨_,rfl⟩
 have hM:M<=8/\∀ i,i<M->k+i*8<ns.length:=by
  rw[eM];split
  ·refine⟨by(clear eM hk;lia),λi hi=>by(clear eM hk hl;omega)⟩
  ·refine⟨by lia,λi hi=>by simp at hi⟩
 obtain⟨e1,h1,r1,r2⟩:=rK (w:=none) (all:=(List.range M).map (λm:Nat=>AV.int ((k:Int)+m*8))) (t:=.nm 3) (b:=nB) (xs:=(List.range M).map (λm:Nat=>AV.int ((k:Int)+m*8))) (en:=[some (.fl (ns.map AV.int)),some (.int k),some (.int 0),none,none]) (h:=h)
  (λi en h'=>h'=h/\∃ (c:Nat) (o:Option AV),c<10 ^ (120*i)/\en=[some (.fl (ns.map AV.int)),some (.int k),some (.int c),o,none]) ⟨rfl,0,none,by decide,rfl⟩ (λ_ _ _ _=>rfl) (by
   rintro j x en h' hx ⟨rfl,c,o,hc,rfl⟩
   rw[Pr] at hx;obtain⟨m,em,rfl⟩:=Pd.mp hx
   have hj:j<M:=by
    have:=(OS.mp em).1;simpa using this
   rw[RH hj] at em
   cases em
   obtain⟨c',l',e⟩:=LW ns k j c none h' (by have:=hM.1;(clear this hx hc eM hk hl;lia)) hc (hM.2 j hj)
   show thn (nB [some (.fl (ns.map AV.int)),some (.int k),some (.int c),some (.int ((k:Int)+j*8)),none] h') _
   rw[e];exact⟨rfl,c',_,l',rfl⟩)
 obtain⟨rfl,c,o,hc,rfl⟩:=r2;have z1:(k:Int).natAbs<1099511627776:=by lia
 have z2:((ns.length:Nat):Int).natAbs<1099511627776:=by lia
 have it3:jJ (aa 1) (au aI (ah (aa 0) af)) (ae (.int 8)) [some (.fl (ns.map AV.int)),some (.int k),some (.int 0),none,none] h1=.ok ((List.range M).map (λm:Nat=>AV.int ((k:Int)+m*8)),none) h1:=by
  simp only[jJ,aa,au,ah,af,ae,Out.bind,aI,List.getElem?_cons_zero,Sq,vM]
  rw[OX ⟨z1,z2,by decide,by decide⟩,<- eM]
 have f1:=(rL (t:=.nm 3) (b:=nB) it3).trans r1;clear r1 it3;by_cases hb:(1000000000000000000:Int)<=c
 ·exact⟨c,by simp[lY,f1,hb,-df]⟩
 ·have cm:=Kk (js:=[]) (en:=[some (.fl (ns.map AV.int)),some (.int k),some (.int c),o,none]) (w:=none) (all:=ns.map AV.int) (e:=ag bG (aa 0) (ag bY (ae (.int 10)) (ae (.int 18)))) (g:=AV.int) (f:=λi=>AV.int (i % 1000000000000000000)) (h:=h1) rfl ns [] (by intro i _;simp) (by
    simp only[List.length_nil];exact OW (show 0+ns.length<=63 by lia) 'd')
  have im:(ns.map λi=>AV.int (i % 1000000000000000000))=(ns.map λi=>i % 1000000000000000000).map AV.int:=by simp
  obtain⟨S,eS⟩:∃ S:Int,S=(ns.map λi=>i % 1000000000000000000).sum:=⟨_,rfl⟩
  have sm:gW [.fl (ns.map λi=>AV.int (i % 1000000000000000000))] h1=.ok (.int S) h1:=by
   rw[im,eS];simp only[gW,LQ]
  obtain⟨e2,h2,s1,s2⟩:=rK (w:=none) (all:=dR 0 16) (t:=.nm 3) (b:=nC) (xs:=dR 0 16) (en:=[some (.fl (ns.map AV.int)),some (.int k),some (.int (c+S)),o,some (.int 0)]) (h:=h1)
   (λi en h'=>h'=h1/\∃ (f:Int) (o:Option AV),en=[some (.fl (ns.map AV.int)),some (.int k),some (.int (c+S)),o,some (.int f)]) ⟨rfl,0,o,rfl⟩ (λ_ _ _ _=>rfl) (by
    rintro j x en h' hx ⟨rfl,f,o,rfl⟩
    rw[As] at hx;by_cases q:j<16
    ·rw[OX q] at hx
     cases hx
     obtain⟨f',e⟩:=LX none ns k (c+S) f (0+(j:Int)) h';show thn (nC [some (.fl (ns.map AV.int)),some (.int k),some (.int (c+S)),some (.int (0+(j:Int))),some (.int f)] h') _
     rw[e];exact⟨rfl,f',_,rfl⟩
    ·rw[O0 q] at hx;cases hx)
  obtain⟨rfl,f,o',rfl⟩:=s2;have f2:=(rL (t:=.nm 3) (b:=nC) (vI (a:=ae (.int 16)) (en:=[some (.fl (ns.map AV.int)),some (.int k),some (.int (c+S)),o,some (.int 0)]) (h:=h2) (n:=16) rfl 'd')).trans s1;refine⟨f,?_⟩
  simp at cm
  simp[lY,f1,hb,cm,sm,f2,-df,-gW]
def LZ{st:Nat}{n:Int}(m:Nat)(e:h[st]?=some (.lst [.int n]))(hm:0<m)(hm2:m<=10 ^ 50):∃ v:Nat,v<m/\aS [.ref st,.int m] h=.ok (.int v) (h.set st (.lst [.int (n / m)])):=by
 have a0:atI [AV.int n] 0=some (.int n):=rfl;have i0:gv 1 0=some 0:=rfl;have hm0:(0:Int)<m:=Ud.mpr hm;have hm3:m<1606938044258990275541962092341162602522202993782792835301376:=O7 hm2 'd';refine⟨(n % m).toNat,?_,?_⟩
 ·have:=RQ n hm0;have:=RD n (show (m:Int)≠0 by lia);lia
 ·rw[TK (RD n (show (m:Int)≠0 by lia))]
  simp[aS,e,a0,hm0,hm,hm3,i0]
def L0{v:Nat}(hv:v<x.length)(hx:bN x=true)(h:AH):∃ c,nI c=true/\aj (.str x) (.int v) h=.ok (.str ⟨#[c]⟩) h:=by
 have hv':v<x.cps.toList.length:=by rw[<- cG];exact hv
 refine⟨x.cps.toList[v],Px.mp hx _ (Qz hv'),?_⟩
 have e:x.cps.toList[v]?=some x.cps.toList[v]:=O6 hv';simp only[aj,lh e]
variable{N:Int}
def pK(m:Nat)(e:hh[L]?=some (.lst [.int N]))(hm:0<m)(hm2:m<=10 ^ 50):∃ (v:Nat) (N':Int),v<m/\aS [.ref L,.int m] hh=.ok (.int v) (hh.set L (.lst [.int N'])):=by
 obtain⟨v,hv,e1⟩:=LZ m e hm hm2;exact⟨v,N / m,hv,e1⟩
def L3(hy:bN y=true)(hc:nI c=true):bN (y++⟨#[c]⟩)=true/\(y++(⟨#[c]⟩:Str)).length=y.length+1:=by
 refine⟨?_,by rw[d6];rfl⟩
 rw[pj,hy];simp[bN,hc]
def lowS:Str := "abcdefghijklmnopqrstuvwxyz"
def upS:Str := "ABCDEFGHIJKLMNOPQRSTUVWXYZ"
def restS:Str := " !\"#$&'()*+,-./0123456789:;<=>?\x40[\\]^_`{|}~\n"
def hV:List Str:=["ab", "aaab", "a\n", "ab \n",(lowS++upS)++restS]
def pL:∀ x∈hV,bN x=true/\1<=x.length/\x.length<=200:=by decide +kernel
def Bh:Txt.upper lowS=upS:=by decide +kernel
def L4(h:AH):qX (.str lowS) [] h=.ok (.str upS) h:=by
 have c:(Txt.upper lowS).length<=sizeLine/\(Txt.upper lowS).cps.all (· < 0x110000)=true:=by rw[Bh];decide +kernel
 show (if (Txt.upper lowS).length<=sizeLine/\(Txt.upper lowS).cps.all (· < 0x110000)=true then Out.ok (AV.str (Txt.upper lowS)) h else .bad)=_
 rw[OX c,Bh]
def L5(v:Nat)(hv:v<5):∃ z:Str,(∀ h,aj (.fl [.str "ab",.str "aaab",.str "a\n",.str "ab \n",.str ((lowS++upS)++restS)]) (.int (v:Int)) h=.ok (.str z) h)/\bN z=true/\1<=z.length/\z.length<=200:=by
 have:v=0\/v=1\/v=2\/v=3\/v=4:=by lia
 rcases this with rfl|rfl|rfl|rfl|rfl
 ·exact⟨_,λ_=>rfl,pL _ (by simp[hV])⟩
 ·exact⟨_,λ_=>rfl,pL _ (by simp[hV])⟩
 ·exact⟨_,λ_=>rfl,pL _ (by simp[hV])⟩
 ·exact⟨_,λ_=>rfl,pL _ (by simp[hV])⟩
 ·exact⟨_,λ_=>rfl,pL _ (by simp[hV])⟩
def L7(most:Nat)(hm:most<=1000)(e:hh[L]?=some (.lst [.int N])):∃ (y:Str) (N':Int),nE [.ref L,.int most] hh=.ok (.str y) (hh.set L (.lst [.int N']))/\bN y=true/\y.length<=most:=by
 have Ll:=bT e;obtain⟨v,N1,hv,t1⟩:=pK 5 e 'd' 'd';have t1':aS [.ref L,.int 5] hh=.ok (.int v) (hh.set L (.lst [.int N1])):=t1;obtain⟨z,ez,pz,z1,z2⟩:=L5 v hv;have e1:(hh.set L (.lst [.int N1]))[L]?=some (.lst [.int N1]):=OY Ll;obtain⟨k,N2,hk,t2⟩:=pK (most+1) e1 (Nat.succ_pos _) (OW (Nat.succ_le_succ hm) 'd');rw[T9] at t2;have t2':aS [.ref L,.int ((most:Int)+1)] (hh.set L (.lst [.int N1]))=.ok (.int k) (hh.set L (.lst [.int N2])):=by
  have:=t2;rw[Int.natCast_succ] at this;exact this
 obtain⟨W3,eW3⟩:∃ W3:Str,W3=(lowS++upS)++restS:=⟨_,rfl⟩
 rw[<- eW3] at ez;obtain⟨e',h',r1,y,N3,o4,r2,r3,r4,r5⟩:=rK (w:=none) (all:=dR 0 k) (t:=.nm 6) (b:=lZ) (xs:=dR 0 k) (en:=[some (.ref L),some (.int most),some (.str lowS),some (.str W3),some (.str z),some (.str ""),none]) (h:=hh.set L (.lst [.int N2]))
  (λj en h'=>∃ (y:Str) (N':Int) (o4:Option AV),en=[some (.ref L),some (.int most),some (.str lowS),some (.str W3),some (.str z),some (.str y),o4]/\h'=hh.set L (.lst [.int N'])/\bN y=true/\y.length=j) ⟨"",N2,none,rfl,rfl,rfl,rfl⟩ (λ_ _ _ _=>rfl) (by
   rintro j u en h' hu ⟨y,N',o4,rfl,rfl,py,ly⟩
   have jk:j<k:=by have:=(OS.mp hu).1;rwa[pe] at this
   have e3:(hh.set L (.lst [.int N']))[L]?=some (.lst [.int N']):=OY Ll;obtain⟨t,N4,ht,et⟩:=pK z.length e3 ⋯ (OW z2 'd');rw[T9] at et;obtain⟨c,pc,ec⟩:=L0 ht pz (hh.set L (.lst [.int N4]))
   have ad:az (.str y) (.str ⟨#[c]⟩) (hh.set L (.lst [.int N4]))=.ok (.str (y++⟨#[c]⟩)) (hh.set L (.lst [.int N4])):=by
    have:y.length+(⟨#[c]⟩:Str).length<=sizeLine:=OW (m:=1001) (by show y.length+1<=_;lia) 'd'
    simp only[az,this,Qd]
   have es:lZ [some (.ref L),some (.int most),some (.str lowS),some (.str W3),some (.str z),some (.str y),some u] (hh.set L (.lst [.int N']))=.nx [some (.ref L),some (.int most),some (.str lowS),some (.str W3),some (.str z),some (.str (y++⟨#[c]⟩)),some u] (hh.set L (.lst [.int N4])):=by
    generalize hh.set L (.lst [.int N'])=h1,hh.set L (.lst [.int N4])=h2 at *;simp[lZ,et,ec,ad,-aj,-az]
   show thn (lZ [some (.ref L),some (.int most),some (.str lowS),some (.str W3),some (.str z),some (.str y),some u] (hh.set L (.lst [.int N']))) _
   rw[es];obtain⟨q1,q2⟩:=L3 py pc
   exact⟨_,N4,_,rfl,rfl,q1,by rw[q2,ly]⟩)
 rw[pe] at r5;have f1:=(rL (t:=.nm 6) (b:=lZ) (vI (a:=au aS (ah (aa 0) (ah (ag az (aa 1) (ae (.int 1))) af))) (en:=[some (.ref L),some (.int most),some (.str lowS),some (.str W3),some (.str z),some (.str ""),none]) (h:=hh.set L (.lst [.int N1])) (n:=k) (by simp[t2']) ⋯)).trans r1
 refine⟨y,N3,?_,r4,by lia⟩
 rw[<- r3];subst r2;have a1:az (.str lowS) (.str upS) hh=.ok (.str (lowS++upS)) hh:=by
  have:lowS.length+upS.length<=sizeLine:=by decide +kernel
  simp only[az,this,Qd]
 have a2:az (.str (lowS++upS)) (.str restS) hh=.ok (.str W3) hh:=by
  have:(lowS++upS).length+restS.length<=sizeLine:=by decide +kernel
  rw[eW3];simp only[az,this,Qd]
 have mu:=L4 hh;have el:Str.ofString "abcdefghijklmnopqrstuvwxyz"=lowS:=rfl;have er:Str.ofString " !\"#$&'()*+,-./0123456789:;<=>?\x40[\\]^_`{|}~\n"=restS:=rfl
 unfold nE;rw[el,er];generalize upS=UP,lowS=LO,hh.set L (.lst [.int N1])=h1,df (iZ (au aS (ah (aa 0) (ah (ag az (aa 1) (ae (.int 1))) af)))) (.nm 6) lZ=F1 at *;generalize LO++UP=LU,restS=RS at *;simp[mu,a1,a2,t1',ez,f1,-az,-aj]
def jg(c:Nat):Bool:=decide (97<=c) && decide (c<=122)
def L8:(Str.ofString "a")=⟨#[97]⟩:=by decide +kernel
def L9:(Str.ofString "z")=⟨#[122]⟩:=by decide +kernel
def Ma(c:Nat)(en:En)(h:AH):fk bc bc (ae (.str "a")) (aa 0) (ae (.str "z")) (some (.str ⟨#[c]⟩)::en) h=.ok (.bl (jg c)) h:=by
 simp[L8,L9,Aw,jg]
 by_cases h2:c<97
 ·have:¬ 97<=c:=by lia
  simp[h2,this]
 ·have h3:97<=c:=by lia
  by_cases h4:c<=122
  ·have:¬ 122<c:=by lia
   simp[h2,h3,h4,this]
  ·have:122<c:=by lia
   simp[h2,h3,h4,this]
def bt(x:Str):Bool:=decide (1<=x.length) && decide (x.length<=8) && x.cps.toList.all jg
def wX(x:Str)(h:AH)(hl:x.length<=sizeLine):gj [.str x] h=.ok (.bl (bt x)) h:=by
 have e:=rM (js:=[]) (en:=[some (.str x)]) (all:=x.cps.toList.map λc=>AV.str ⟨#[c]⟩) (e:=fk bc bc (ae (.str "a")) (aa 0) (ae (.str "z"))) (g:=λc=>AV.str ⟨#[c]⟩) (f:=λc=>AV.bl (jg c)) (h:=h) x.cps.toList [] (λc _=>Ma c _ h) (by simp;exact hl)
 simp only[QN] at e
 have al:au eJ (ah (dW [] (dM (aa 0)) aY (fk bc bc (ae (.str "a")) (aa 0) (ae (.str "z")))) af) [some (.str x)] h=.ok (.bl (x.cps.toList.all jg)) h:=by
  simp[-fk]
  rw[e];simp[vJ]
 unfold gj;generalize au eJ (ah (dW [] (dM (aa 0)) aY (fk bc bc (ae (.str "a")) (aa 0) (ae (.str "z")))) af)=AL at al ⊢
 generalize hb:x.cps.toList.all jg=b at al
 by_cases h1:1<=x.length
 ·have i1:(1:Int)<=x.length:=by lia
  by_cases h2:x.length<=8
  ·have i2:(x.length:Int)<=8:=by lia
   simp[i1,i2,h1,h2,al,bt,hb]
  ·have i2:¬ (x.length:Int)<=8:=by lia
   simp[i1,i2,h1,h2,bt,hb]
 ·have i1:¬ (1:Int)<=x.length:=by lia
  simp[i1,h1,bt,hb]
def Mb(en:En)(h:AH):mS 1 4 nA af en h=.ok (.ref h.length) (h++(.ins 1 [some (.ref (h.length+1)),some (.ref (h.length+10)),some (.ref (h.length+11)),some (.ref (h.length+12))]::(rS (h.length+1)++[.dct false [],.lst [],.lst []]))):=by
 simp[nA,vD,rS,List.getElem?_append,KN]
abbrev De:=Str×Option Nat×Option Nat
def kG(g:Nat×Str->AV)(e:Str×Nat×Str):AV×AV:=(.str e.1,g e.2)
abbrev gN(v:Nat×Str):AV:=.int v.1
abbrev gS(v:Nat×Str):AV:=.str v.2
def oN:Option Nat->AV
 |none=>.non
 |some n=>.int n
def aP(d:De):AV:=.tup [.str d.1,oN d.2.1,oN d.2.2]
abbrev ZH:=List (Str×Nat×Str)
structure Ho(h:AH)(q p t:Nat)(ps:YG)(kx:ZH)(ds bs:List De):Prop where
 ob:h[q]?=some (.ins 1 [some (.ref p),some (.ref t),some (.ref (t+1)),some (.ref (t+2))])
 sh:ShelfAt h p ps
 gd:Good ps
 tx:h[t]?=some (.dct false (kx.map (kG gN)))
 de:h[t+1]?=some (.lst (ds.map aP))
 ba:h[t+2]?=some (.lst (bs.map aP))
 tz:∀ e∈kx,TxZ ps e.2.1 e.2.2/\bt e.1=true
 lo:q<p/\p+8<t
 ct:kx.length<=50
 nd:(kx.map (·.1)).Nodup
def Ho.app{h:AH}{q p t:Nat}{ps:YG}{kx:ZH}{ds bs:List De}(H:Ho h q p t ps kx ds bs)(r:AH):Ho (h++r) q p t ps kx ds bs:=by
 have l:=bT H.ba;have lo:=H.lo;have k:∀ i,i<h.length->(h++r)[i]?=h[i]?:=λi hi=>O3 hi
 exact⟨(k _ ⋯).trans H.ob,H.sh.app r,H.gd,(k _ ⋯).trans H.tx,(k _ ⋯).trans H.de,(k _ l).trans H.ba,H.tz,lo,H.ct,H.nd⟩
def lk(kx:ZH)(x:Str):Option (Nat×Str):=(kx.find? λe=>decide (e.1=x)).map (·.2)
def gI(e:Str×Nat×Str)(r:ZH)(x:Str):lk (e::r) x=if e.1=x then some e.2 else lk r x:=by
 unfold lk;rw[PQ];by_cases q:e.1=x
 ·simp[q]
 ·simp[q]
theorem cx{x:Str}{v:Nat×Str}:∀ {kx:ZH},lk kx x=some v->(x,v)∈kx
 |[],e=>nomatch e
 |e::r,h=>by
  rw[gI] at h;by_cases q:e.1=x
  ·rw[OX q] at h
   cases h
   subst q;exact PK ..
  ·rw[O0 q] at h
   exact Pt _ (cx h)
theorem jh(g:Nat×Str->AV)(x:Str):∀ kx:ZH,aT (kx.map (kG g)) (.str x)=(lk kx x).map g
 |[]=>rfl
 |e::r=>by
  have ih:=jh g x r;unfold aT at ih ⊢
  rw[O8,gI,PQ];by_cases q:e.1=x
  ·have:decide ((kG g e).1=AV.str x)=true:=Pf (by rw[<- q];rfl)
   rw[this,OX q];rfl
  ·have:decide ((kG g e).1=AV.str x)=false:=O9 (λz=>q (by injection z))
   rw[this,O0 q];exact ih
def put(kx:ZH)(x:Str)(v:Nat×Str):ZH:=if (lk kx x).isSome=true then kx.map λe=>if e.1=x then(x,v) else e else kx++[(x,v)]
def sE(g:Nat×Str->AV)(kx:ZH)(x:Str)(v:Nat×Str):eI (kx.map (kG g)) (.str x) (g v)=(put kx x v).map (kG g):=by
 unfold eI put;rw[uW,jh,QR];by_cases q:(lk kx x).isSome=true
 ·rw[OX q,OX q,QV,QV]
  refine Qu λe _=>?_
  show (if (kG g e).1=.str x then((kG g e).1,g v) else kG g e)=kG g (if e.1=x then(x,v) else e)
  by_cases z:e.1=x
  ·rw[OX z,OX (by rw[<- z];rfl)]
   show (AV.str e.1,g v)=_
   rw[z];rfl
  ·rw[O0 z,O0 (λw=>z (by injection w))]
 ·rw[O0 q,O0 q,Py]
  rfl
def kL(kx:ZH)(x:Str):ZH:=kx.filter λe=>decide (¬ e.1=x)
def Bi(g:Nat×Str->AV)(kx:ZH)(x:Str):oQ (kx.map (kG g)) (.str x)=(kL kx x).map (kG g):=by
 unfold oQ kL;rw[List.filter_map];congr 1
 refine List.filter_congr λe _=>?_
 show decide (¬ AV.str e.1=AV.str x)=decide (¬ e.1=x)
 exact decide_eq_decide.mpr ⟨λh z=>h (by rw[z]),λh z=>h (by injection z)⟩
theorem Bj(x y:Str):∀ kx:ZH,lk (kL kx x) y=if x=y then none else lk kx y
 |[]=>by simp[kL,lk]
 |e::r=>by
  have ih:=Bj x y r;unfold kL at ih ⊢
  rw[Qy];by_cases q:e.1=x
  ·rw[O0 (by simp[q]),ih,gI]
   by_cases z:x=y
   ·rw[OX z,OX z]
   ·rw[O0 z,O0 z,O0 (by rw[q];exact z)]
  ·rw[OX (by simp[q]),gI,gI,ih]
   by_cases w:e.1=y
   ·rw[OX w,OX w,O0 (by rw[<- w];exactλz=>q z.symm)]
   ·rw[O0 w,O0 w]
def upd(kx:ZH)(x:Str):Option (Nat×Str)->ZH
 |some v=>put kx x v
 |none=>kL kx x
def Mc(kx:ZH)(x:Str)(v:Nat×Str):(put kx x v).length<=kx.length+1:=by
 unfold put;split
 ·rw[O2];lia
 ·rw[Pw];simp
variable{kx ky:ZH}
def Md{v:Nat×Str}{e:Str×Nat×Str}(h:e∈put kx x v):e=(x,v)\/e∈kx:=by
 unfold put at h;split at h
 ·obtain⟨e',h',rfl⟩:=Qk.mp h
  by_cases z:e'.1=x
  ·rw[OX z];exact .inl rfl
  ·rw[O0 z];exact .inr h'
 ·rcases PH.mp h with h|h
  ·exact .inr h
  ·exact .inl (Q7.mp h)
theorem Bk(x y:Str)(v:Nat×Str):∀ kx:ZH,lk (kx.map λe=>if e.1=x then(x,v) else e) y=if x=y then(lk kx x).map λ_=>v else lk kx y
 |[]=>by simp[lk]
 |e::r=>by
  rw[O8,gI,Bk x y v r,gI,gI];by_cases z:e.1=x
  ·rw[OX z,OX z]
   by_cases w:x=y
   ·rw[OX w];simp[w]
   ·rw[O0 w]
    simp[w,z]
  ·rw[O0 z,O0 z]
   by_cases w:x=y
   ·have:¬ e.1=y:=w▸z
    simp[w,this]
   ·simp[w]
theorem Bl(x y:Str)(v:Nat×Str):∀ kx:ZH,lk (kx++[(x,v)]) y=(lk kx y).or (if x=y then some v else none)
 |[]=>by rw[QN,gI];rfl
 |e::r=>by
  rw[List.cons_append,gI,gI,Bl x y v r];by_cases z:e.1=y
  ·rw[OX z,OX z];rfl
  ·rw[O0 z,O0 z]
def Me(kx:ZH)(x y:Str)(v:Nat×Str):lk (put kx x v) y=if x=y then some v else lk kx y:=by
 unfold put
 cases q:lk kx x with
 |some w =>
  rw[OX (by rfl),Bk,q];rfl
 |none =>
  rw[O0 's',Bl];by_cases w:x=y
  ·subst w;rw[q,OX rfl];rfl
  ·rw[O0 w,O0 w,Option.or_none]
def j4(kx:ZH)(x y:Str)(o:Option (Nat×Str)):lk (upd kx x o) y=if x=y then o else lk kx y:=by
 cases o with
 |some v=>exact Me kx x y v
 |none=>exact Bj x y kx
theorem zbN{x:Str}:∀ {kx:ZH},lk kx x=none ↔ x∉kx.map (·.1)
 |[]=>by simp[lk]
 |e::r=>by
  rw[gI,O8,Pb];by_cases q:e.1=x
  ·simp[q]
  ·rw[O0 q,zbN]
   simp only[not_or]
   exact⟨λh=>⟨λz=>q z.symm,h⟩,λh=>h.2⟩
def nL(h:(kx.map (·.1)).Nodup)(x:Str)(o:Option (Nat×Str)):((upd kx x o).map (·.1)).Nodup:=by
 cases o with
 |some v =>
  show ((put kx x v).map (·.1)).Nodup
  unfold put
  cases q:lk kx x with
  |some w =>
   rw[OX (by rfl),QV];have:((λe:Str×Nat×Str=>e.1) ∘ λe=>if e.1=x then(x,v) else e)=λe=>e.1:=by
    funext e
    show (if e.1=x then(x,v) else e).1=e.1
    split
    ·rename_i z;exact z.symm
    ·rfl
   rw[this];exact h
  |none =>
   rw[O0 's',Py,Rk];refine⟨h,by simp,λa ha b hb=>?_⟩
   simp at hb
   subst hb;exactλz=>zbN.mp q (z▸ha)
 |none=>exact h.sublist (List.Sublist.map _ List.filter_sublist)
variable{o:Option (Nat×Str)}
def pM{e:Str×Nat×Str}(h:e∈upd kx x o):(∃ v,o=some v/\e=(x,v))\/e∈kx:=by
 cases o with
 |some v=>exact(Md h).imp (λz=>⟨v,rfl,z⟩) id
 |none=>exact .inr (SM.mp h).1
def sF(kx:ZH)(x:Str)(o:Option (Nat×Str)):(upd kx x o).length<=kx.length+1:=by
 cases o with
 |some v=>exact Mc kx x v
 |none=>exact Rn (Rr _ _)
structure Fh(p t:Nat)(h h':AH):Prop where
 fr:∀ i,(i<p\/p+8<i)->i≠t->i≠t+1->i≠t+2->h'[i]?=h[i]?
 hl:h'.length=h.length
def Fh.trans{p t:Nat}{h h' h'':AH}(a:Fh p t h h')(b:Fh p t h' h''):Fh p t h h'':=(⟨λi h1 h2 h3 h4=>(b.fr i h1 h2 h3 h4).trans (a.fr i h1 h2 h3 h4),b.hl.trans a.hl⟩)
def Fh.dd{t:Nat}{k:Nat}(d:Dd p h h' ps ps' k):Fh p t h h':=(⟨λi h1 _ _ _=>d.fr i ⋯,d.hl⟩)
section
variable{h:AH}{q p t:Nat}{ps:YG}{kx:ZH}{ds bs:List De}
def Ho.dd(H:Ho h q p t ps kx ds bs){k:Nat}(d:Dd p h h' ps ps' k):Ho h' q p t ps' kx ds bs:=by
 have lo:=H.lo;exact⟨(d.fr q ⋯).trans H.ob,d.sh,d.gd,(d.fr t ⋯).trans H.tx,(d.fr (t+1) ⋯).trans H.de,(d.fr (t+2) ⋯).trans H.ba,λe he=>⟨(H.tz e he).1.pre d.pre,(H.tz e he).2⟩,lo,H.ct,H.nd⟩
def sG(h:bt x=true):x.length<=8:=by
 unfold bt at h;simp only[Pu,P3] at h
 exact h.1.2
def Bm(hx:bt x=true)(hh:AH):gj [.str x] hh=.ok (.bl true) hh:=by
 rw[wX x hh (OW (sG hx) 'd'),hx]
def fK(H:Ho h q p t ps kx ds bs){v:Nat×Str}(l:lk kx x=some v):bx [.ref q,.str x] h=.ok (.int v.1) h:=by
 have nm:=Bm (H.tz _ (cx l)).2 h;have vk:aT (kx.map (kG gN)) (.str x)=some (.int v.1):=by rw[jh,l];rfl
 have ni:cU (.str x) (.ref t) h=.ok (.bl false) h:=by
  simp only[cU,kr,H.tx,vk,dX,keyOf?,Option.isSome];rfl
 have ix:aj (.ref t) (.str x) h=.ok (.int v.1) h:=by
  have k1:dX false (.str x)=true:=rfl;simp only[aj,H.tx,k1,vk];rfl
 simp[bx,H.ob,nm,ni,ix,-cU,-aj]
def wY(ob:hh[q]?=some (.ins 1 [some (.ref p),some (.ref t),some (.ref (t+1)),some (.ref (t+2))]))(tx:hh[t]?=some (.dct false (kx.map (kG gN))))(ct:kx.length<=60)(ho:o=none->(lk kx x).isSome=true) :
  iG [.ref q,.str x,oN (o.map (·.1))] hh=.ok .non (hh.set t (.dct false ((upd kx x o).map (kG gN)))):=by
 have k1:dX false (.str x)=true:=rfl
 cases o with
 |some v =>
  have sz:(kx.map (kG gN)).length<sizeLine:=by rw[O2];exact O7 ct 'd'
  have st:fX (Sm.sFld 1 1 (aa 0)) (aa 1) (aa 2) [some (.ref q),some (.str x),some (.int v.1)] hh=.nx [some (.ref q),some (.str x),some (.int v.1)] (hh.set t (.dct false ((upd kx x (some v)).map (kG gN)))):=by
   have e:Sm.sFld 1 1 (aa 0) [some (.ref q),some (.str x),some (.int v.1)] hh=.ok (.ref t) hh:=by simp[ob]
   have e1:aa 1 [some (.ref q),some (.str x),some (.int v.1)] hh=.ok (.str x) hh:=rfl;have e2:aa 2 [some (.ref q),some (.str x),some (.int v.1)] hh=.ok (.int v.1) hh:=rfl;simp only[fX,e,e1,e2,Out.go,tx]
   rw[OX ⟨k1,sz⟩,sE gN kx x v];rfl
  show iG [.ref q,.str x,.int v.1] hh=_
  unfold iG;generalize fX (Sm.sFld 1 1 (aa 0)) (aa 1) (aa 2)=SX at *;simp[st]
 |none =>
  obtain⟨w,ew⟩:=Pi.mp (ho rfl);have st:ja (Sm.sFld 1 1 (aa 0)) (aa 1) [some (.ref q),some (.str x),some .non] hh=.ok (.int w.1) (hh.set t (.dct false ((upd kx x none).map (kG gN)))):=by
   have e:Sm.sFld 1 1 (aa 0) [some (.ref q),some (.str x),some .non] hh=.ok (.ref t) hh:=by simp[ob]
   have e1:aa 1 [some (.ref q),some (.str x),some .non] hh=.ok (.str x) hh:=rfl;simp only[ja,e,e1,Out.bind,tx,k1,Qd,jh,ew,Option.map]
   rw[Bi];rfl
  show iG [.ref q,.str x,.non] hh=_
  unfold iG;generalize ja (Sm.sFld 1 1 (aa 0)) (aa 1)=SX at *;simp[st]
def j5(H:Ho h q p t ps kx ds bs)(hx:bt x=true)(T:∀ v,o=some v->TxZ ps v.1 v.2)(ct:(upd kx x o).length<=50)(ld:ds.length<=1000)(hs:o=none->(lk kx x).isSome=true) :
  ∃ h',bV [.ref q,.str x,oN (o.map (·.1))] h=.ok .non h'/\Ho h' q p t ps (upd kx x o) (ds++[(x,(lk kx x).map (·.1),o.map (·.1))]) []/\Fh p t h h':=by
 have ctk:=H.ct;have lo:=H.lo;have lt:=bT H.tx;have ld1:=bT H.de;have lb:=bT H.ba;have k1:dX false (.str x)=true:=rfl;have g1:oO (Sm.sFld 1 1 (aa 0)) (aa 1) [some (.ref q),some (.str x),some (oN (o.map (·.1)))] h=.ok (oN ((lk kx x).map (·.1))) h:=by
  have e:Sm.sFld 1 1 (aa 0) [some (.ref q),some (.str x),some (oN (o.map (·.1)))] h=.ok (.ref t) h:=by simp[H.ob]
  unfold oO;rw[e];simp only[Out.bind,H.tx,aa]
  show fF t (.str x) .non h=_
  simp only[fF,H.tx,k1,Qd,jh]
  cases lk kx x<;>rfl
 have sz:(ds.map aP).length<sizeLine:=by rw[O2];exact O7 ld 'd'
 have ap:bP (.ref (t+1)) [aP (x,(lk kx x).map (·.1),o.map (·.1))] h=.ok .non (h.set (t+1) (.lst ((ds++[(x,(lk kx x).map (·.1),o.map (·.1))]).map aP))):=by
  simp only[bP,H.de]
  rw[OX sz];simp
 have il:aW (.ref (t+1)) h=true:=by simp only[aW,dC,H.de];rfl
 have f2:Sm.sFld 1 2 (aa 0) [some (.ref q),some (.str x),some (oN (o.map (·.1)))] h=.ok (.ref (t+1)) h:=by simp[H.ob]
 have ob1:(h.set (t+1) (.lst ((ds++[(x,(lk kx x).map (·.1),o.map (·.1))]).map aP)))[q]?=some (.ins 1 [some (.ref p),some (.ref t),some (.ref (t+1)),some (.ref (t+2))]):=by rw[OU ⋯];exact H.ob
 have ba1:(h.set (t+1) (.lst ((ds++[(x,(lk kx x).map (·.1),o.map (·.1))]).map aP)))[t+2]?=some (.lst (bs.map aP)):=by rw[OU ⋯];exact H.ba
 have tx1:(h.set (t+1) (.lst ((ds++[(x,(lk kx x).map (·.1),o.map (·.1))]).map aP)))[t]?=some (.dct false (kx.map (kG gN))):=by rw[OU ⋯];exact H.tx
 have de1:(h.set (t+1) (.lst ((ds++[(x,(lk kx x).map (·.1),o.map (·.1))]).map aP)))[t+1]?=some (.lst ((ds++[(x,(lk kx x).map (·.1),o.map (·.1))]).map aP)):=OY ld1;have n1:(h.set (t+1) (.lst ((ds++[(x,(lk kx x).map (·.1),o.map (·.1))]).map aP))).length=h.length:=Pv;have o1:∀ i,i≠t+1->(h.set (t+1) (.lst ((ds++[(x,(lk kx x).map (·.1),o.map (·.1))]).map aP)))[i]?=h[i]?:=λi hi=>OU (Ne.symm hi)
 generalize hh1:h.set (t+1) (.lst ((ds++[(x,(lk kx x).map (·.1),o.map (·.1))]).map aP))=h1 at *;have cl:i9 (.ref (t+2)) [] h1=.ok .non (h1.set (t+2) (.lst [])):=by simp only[i9,ba1]
 have il1:aW (.ref (t+2)) h1=true:=by simp only[aW,dC,ba1];rfl
 have f3:Sm.sFld 1 3 (aa 0) [some (.ref q),some (.str x),some (oN (o.map (·.1)))] h1=.ok (.ref (t+2)) h1:=by simp[ob1]
 have ob2:(h1.set (t+2) (.lst []))[q]?=some (.ins 1 [some (.ref p),some (.ref t),some (.ref (t+1)),some (.ref (t+2))]):=by rw[OU ⋯];exact ob1
 have tx2:(h1.set (t+2) (.lst []))[t]?=some (.dct false (kx.map (kG gN))):=by rw[OU ⋯];exact tx1
 have de2:(h1.set (t+2) (.lst []))[t+1]?=some (.lst ((ds++[(x,(lk kx x).map (·.1),o.map (·.1))]).map aP)):=by rw[OU ⋯];exact de1
 have ba2:(h1.set (t+2) (.lst []))[t+2]?=some (.lst []):=OY ⋯;have n2:(h1.set (t+2) (.lst [])).length=h.length:=by rw[Pv];exact n1
 have o2:∀ i,i≠t+1->i≠t+2->(h1.set (t+2) (.lst []))[i]?=h[i]?:=λi a b=>(OU (Ne.symm b)).trans (o1 i a)
 generalize hh2:h1.set (t+2) (.lst [])=h2 at *;have st:=wY (x:=x) (o:=o) ob2 tx2 ⋯ hs
 have o3:∀ i,i≠t->i≠t+1->i≠t+2->(h2.set t (.dct false ((upd kx x o).map (kG gN))))[i]?=h[i]?:=λi a b c=>(OU (Ne.symm a)).trans (o2 i b c)
 refine⟨h2.set t (.dct false ((upd kx x o).map (kG gN))),?_,⟨(o3 q ⋯ ⋯ ⋯).trans H.ob,H.sh.keep λi a b=>o3 i ⋯ ⋯ ⋯,H.gd,OY ⋯,?_,?_,λe he=>?_,lo,ct,nL H.nd x o⟩,⟨λi _ a b c=>o3 i a b c,by rw[Pv];exact n2⟩⟩
 ·have ee:(AV.tup [.str x,oN ((lk kx x).map (·.1)),oN (o.map (·.1))])=aP (x,(lk kx x).map (·.1),o.map (·.1)):=rfl
  generalize oN (o.map (·.1))=ON,(lk kx x).map (·.1)=O,h2.set t (.dct false ((upd kx x o).map (kG gN)))=h3 at *;unfold bV
  generalize Sm.sFld 1 3 (aa 0)=G3,Sm.sFld 1 2 (aa 0)=G2,oO (Sm.sFld 1 1 (aa 0)) (aa 1)=G1 at *;simp[g1,f2,ee,il,ap,f3,il1,cl,ob2,st,-aW,-bP,-i9]
 ·rw[OU ⋯];exact de2
 ·rw[OU ⋯];exact ba2
 ·rcases pM he with⟨v,ev,rfl⟩|he
  ·exact⟨T v ev,hx⟩
  ·exact H.tz e he
end
def wZ{R:Nat}{fs:YF}(e:h[R]?=some (.lst fs))(hf:fs.length<=2000)(v:AV):bP (.ref R) [v] h=.ok .non (h.set R (.lst (fs++[v]))):=by
 have:fs.length<sizeLine:=O7 hf 'd'
 simp only[bP,e,this,Qd]
def w4(e:a+b=c)(h:AH):az (.int a) (.int b) h=.ok (.int c) h:=by
 have:(a:Int)+b=c:=by lia
 simp only[az,this]
def Bn(a b:Nat)(h:AH):cP (.int a) (.int b) h=.ok (.bl (decide (a<b))) h:=by
 have:decide ((a:Int)<b)=decide (a<b):=by apply decide_eq_decide.mpr;lia
 simp only[cP,this]
structure Fr(L:Nat)(h h':AH):Prop where
 fr:∀ i,i<h.length->i≠L->h'[i]?=h[i]?
 hl:h.length<=h'.length
 ro:∃ N:Int,h'[L]?=some (.lst [.int N])
def Fr.app(a:Fr L h h')(r:AH):Fr L h (h' ++ r):=by
 obtain⟨N,e⟩:=a.ro;exact⟨λi hi n=>by rw[O3 (Ph hi a.hl)];exact a.fr i hi n,by rw[Pw];have:=a.hl;lia,N,by rw[O3 (bT e)];exact e⟩
def Fr.trans{L:Nat}{h h' h'':AH}(a:Fr L h h')(b:Fr L h' h''):Fr L h h'' :=(
 ⟨λi hi n=>(b.fr i (Ph hi a.hl) n).trans (a.fr i hi n),OW a.hl b.hl,b.ro⟩)
def Fr.set{L:Nat}{h h':AH}(a:Fr L h h')(N':Int):Fr L h (h'.set L (.lst [.int N'])):=by
 obtain⟨N,e⟩:=a.ro;exact⟨λi hi n=>by rw[OU (Ne.symm n)];exact a.fr i hi n,by rw[Pv];exact a.hl,N',OY (bT e)⟩
def Fr.take(a:Fr L h h')(m:Nat)(hm:0<m)(hm2:m<=10 ^ 50):∃ (v:Nat) (N:Int),v<m/\aS [.ref L,.int m] h'=.ok (.int v) (h'.set L (.lst [.int N]))/\Fr L h (h'.set L (.lst [.int N])):=by
 obtain⟨N,e⟩:=a.ro;obtain⟨v,N',hv,t⟩:=pK m e hm hm2;exact⟨v,N',hv,t,a.set N'⟩
def w6(y:Str)(a:Nat):(bU y a).length=min a y.length:=by rw[cG,j3,PZ,<- cG]
def pN(x y:Str):(x++y).length=x.length+y.length:=by rw[cG,dw,Pw,<- cG,<- cG]
def eB:OutS->Out AV
 |.nx _ h=>.ok .non h
 |.rt v h=>.ok v h
 |.ex c _ h=>.ex c h
 |_=>.bad
section
variable{P:OutS->Prop}{a b x y z:SS}{c:SB}{en e2:En}{h h1 h2 h3:AH}{v:AV}
def cM(s:a en h=.nx e2 h2)(r:P (b e2 h2)):P (ai a b en h):=by
 have:ai a b en h=b e2 h2:=by simp only[ai,s]
 rw[this];exact r
def w8(s:c en h=.ok true h1)(s1:x en h1=.nx e2 h2)(s2:y e2 h2=.rt v h3)(r:P (.rt v h3)):P (ai (aG c (ai x y) aH) b en h):=by
 have:ai (aG c (ai x y) aH) b en h=.rt v h3:=by simp only[ai,aG,s,Out.go,Qd,s1,s2]
 rw[this];exact r
def cD(s:c en h=.ok false h1)(r:P (b en h1)):P (ai (aG c z aH) b en h):=by
 have:ai (aG c z aH) b en h=b en h1:=by simp[s]
 rw[this];exact r
end
def mE{P:Out AV->Prop}{m:Nat}{b:SS}{args:YF}(hn:args.length=n)(r:P (eB (b (args.map some++List.replicate (m-n) none) h))):P (aw n m b args h):=by
 have:aw n m b args h=eB (b (args.map some++List.replicate (m-n) none) h):=by
  simp only[aw]
  rw[OX hn];generalize b (args.map some++List.replicate (m-n) none) h=o
  cases o<;>rfl
 rw[this];exact r
variable{en:En}{v:AV}
def d8{P:OutS->Prop}{a:SE}(s:ao a en h=.rt v h')(r:P (.rt v h')):P (ao a en h):=by rw[s];exact r
def sH(hx:bt x=true)(hh:AH):iH [.str x] hh=.ok .non hh:=by
 simp[iH,Bm hx hh]
section
variable{h:AH}{q p t:Nat}{ps:YG}{kx:ZH}{ds bs:List De}
def oP:Option Nat->PyData
 |none=>.none
 |some n=>.int n
def xa(d:De):PyData:=.tuple [.str d.1,oP d.2.1,oP d.2.2]
theorem Bo(k:Nat)(hh:AH):∀ l:List De,bq (bf (k+1) hh) (l.map aP)=some (l.map xa)
 |[]=>rfl
 |d::l=>by
  have e:bf (k+1) hh (aP d)=some (xa d):=by
   obtain⟨a,o,n⟩:=d
   cases o<;>cases n<;>cases k<;>rfl
  show (match bf (k+1) hh (aP d),bq (bf (k+1) hh) (l.map aP) with|some d,some ds=>some (d::ds)|_,_=>none)=_
  rw[e,Bo k hh l];rfl
def Mf{W:Nat}{l:List De}{d:De}(e:hh[W]?=some (.lst ((l++[d]).map aP))):ay (.ref W) (.fl []) hh=.ok (.bl false) hh:=by
 have d1:bf 8 hh (.ref W)=some (.list ((l++[d]).map xa)):=by
  show (match hh[W]? with|some (.lst xs)=>(bq (bf 7 hh) xs).map PyData.list|_=>none)=_
  rw[e];show (bq (bf 7 hh) ((l++[d]).map aP)).map PyData.list=_
  rw[Bo 6];rfl
 have qq:fi (.ref W) (.fl []) hh=some false:=by
  show (match bf 8 hh (.ref W),bf 8 hh (.fl []) with|some d,some e=>some (PyData.eqv d e)|_,_=>none)=_
  rw[d1];show some (PyData.eqv (.list _) (.list []))=_
  rw[PyData.eqv]
  cases l<;>rfl
 show (match fi (.ref W) (.fl []) hh with|some b=>Out.ok (AV.bl b) hh|none=>Out.bad)=_
 rw[qq]
def Bp(H:Ho h q p t ps kx ds bs){l m:List De}{d:De}(ea:h[a]?=some (.lst ((l++[d]).map aP)))(eb:h[b]?=some (.lst (m.map aP)))(hab:a≠b)(lm:m.length<=1000) :
  ay (.ref a) (.fl []) h=.ok (.bl false) h/\bI (.ref a) [] h=.ok (aP d) (h.set a (.lst (l.map aP)))/\aW (.ref a) h=true/\aW (.ref b) (h.set a (.lst (l.map aP)))=true /\
   bP (.ref b) [aP d] (h.set a (.lst (l.map aP)))=.ok .non ((h.set a (.lst (l.map aP))).set b (.lst ((m++[d]).map aP))):=by
 have eb':(h.set a (.lst (l.map aP)))[b]?=some (.lst (m.map aP)):=by rw[OU hab];exact eb
 refine⟨Mf ea,?_,by simp only[aW,dC,ea];rfl,by simp only[aW,dC,eb'];rfl,?_⟩
 ·have i:((l++[d]).map aP)[((l++[d]).map aP).length-1]?=some (aP d):=by simp
  have dl:((l++[d]).map aP).dropLast=l.map aP:=by rw[Py];exact List.dropLast_concat
  simp only[bI,ea]
  rw[i,dl]
 ·have sz:(m.map aP).length<sizeLine:=by rw[O2];exact O7 lm 'd'
  simp only[bP,eb']
  rw[OX sz];simp
def Mg{w1:Option Nat}(H:Ho h q p t ps kx (ds++[(x,o.map (·.1),w1)]) bs)(hx:bt x=true)(T:∀ v,o=some v->TxZ ps v.1 v.2)(ct:(upd kx x o).length<=50)(lb:bs.length<=1000)(hs:o=none->(lk kx x).isSome=true) :
  ∃ h',kF [.ref q] h=.ok .non h'/\Ho h' q p t ps (upd kx x o) ds (bs++[(x,o.map (·.1),w1)])/\Fh p t h h':=by
 have lo:=H.lo;have ctk:=H.ct;have lt:=bT H.tx;have la:=bT H.de;have lb':=bT H.ba;obtain⟨m1,m2,m3,m4,m5⟩:=Bp H H.de H.ba ⋯ lb;have o1:∀ i,i≠t+1->(h.set (t+1) (.lst (ds.map aP)))[i]?=h[i]?:=λi a=>OU (Ne.symm a)
 have d1:(h.set (t+1) (.lst (ds.map aP)))[t+1]?=some (.lst (ds.map aP)):=OY la;have n1':(h.set (t+1) (.lst (ds.map aP))).length=h.length:=Pv;generalize h.set (t+1) (.lst (ds.map aP))=h1 at *;have o2:∀ i,i≠t+1->i≠t+2->(h1.set (t+2) (.lst ((bs++[(x,o.map (·.1),w1)]).map aP)))[i]?=h[i]?:=λi a b=>(OU (Ne.symm b)).trans (o1 i a)
 have d2:(h1.set (t+2) (.lst ((bs++[(x,o.map (·.1),w1)]).map aP)))[t+1]?=some (.lst (ds.map aP)):=by rw[OU ⋯];exact d1
 have b2:(h1.set (t+2) (.lst ((bs++[(x,o.map (·.1),w1)]).map aP)))[t+2]?=some (.lst ((bs++[(x,o.map (·.1),w1)]).map aP)):=OY ⋯;have n2':(h1.set (t+2) (.lst ((bs++[(x,o.map (·.1),w1)]).map aP))).length=h.length:=by rw[Pv];exact n1'
 generalize h1.set (t+2) (.lst ((bs++[(x,o.map (·.1),w1)]).map aP))=h2 at *;have ob1:=(o1 q ⋯).trans H.ob
 have ob2:=(o2 q ⋯ ⋯).trans H.ob;have st:=wY (x:=x) (o:=o) ob2 ((o2 t ⋯ ⋯).trans H.tx) ⋯ hs;have o3:∀ i,i≠t->i≠t+1->i≠t+2->(h2.set t (.dct false ((upd kx x o).map (kG gN))))[i]?=h[i]?:=λi a b c=>(OU (Ne.symm a)).trans (o2 i b c)
 refine⟨h2.set t (.dct false ((upd kx x o).map (kG gN))),?_,⟨(o3 q ⋯ ⋯ ⋯).trans H.ob,H.sh.keep λi a b=>o3 i ⋯ ⋯ ⋯,H.gd,OY ⋯,?_,?_,λe he=>?_,lo,ct,nL H.nd x o⟩,⟨λi _ a b c=>o3 i a b c,by rw[Pv];exact n2'⟩⟩
 ·have i0:∀ hh,aj (aP (x,o.map (·.1),w1)) (.int 0) hh=.ok (.str x) hh:=λ_=>rfl
  have i1:∀ hh,aj (aP (x,o.map (·.1),w1)) (.int 1) hh=.ok (oN (o.map (·.1))) hh:=λ_=>rfl
  have ob:=H.ob;generalize aP (x,o.map (·.1),w1)=V,h2.set t (.dct false ((upd kx x o).map (kG gN)))=h3,oN (o.map (·.1))=ON at *;unfold kF
  generalize iG=G at *;simp[ob,m1,m2,m3,m4,m5,ob1,ob2,i0,i1,st,-ay,-aW,-bP,-bI,-aj]
 ·rw[OU ⋯];exact d2
 ·rw[OU ⋯];exact b2
 ·rcases pM he with⟨v,ev,rfl⟩|he
  ·exact⟨T v ev,hx⟩
  ·exact H.tz e he
def Mh{o0:Option Nat}(H:Ho h q p t ps kx ds (bs++[(x,o0,o.map (·.1))]))(hx:bt x=true)(T:∀ v,o=some v->TxZ ps v.1 v.2)(ct:(upd kx x o).length<=50)(ld:ds.length<=1000)(hs:o=none->(lk kx x).isSome=true) :
  ∃ h',kJ [.ref q] h=.ok .non h'/\Ho h' q p t ps (upd kx x o) (ds++[(x,o0,o.map (·.1))]) bs/\Fh p t h h':=by
 have lo:=H.lo;have ctk:=H.ct;have lt:=bT H.tx;have la:=bT H.de;have lb':=bT H.ba;obtain⟨m1,m2,m3,m4,m5⟩:=Bp H H.ba H.de ⋯ ld;have o1:∀ i,i≠t+2->(h.set (t+2) (.lst (bs.map aP)))[i]?=h[i]?:=λi a=>OU (Ne.symm a)
 have d1:(h.set (t+2) (.lst (bs.map aP)))[t+2]?=some (.lst (bs.map aP)):=OY lb';have n1':(h.set (t+2) (.lst (bs.map aP))).length=h.length:=Pv;generalize h.set (t+2) (.lst (bs.map aP))=h1 at *;have o2:∀ i,i≠t+1->i≠t+2->(h1.set (t+1) (.lst ((ds++[(x,o0,o.map (·.1))]).map aP)))[i]?=h[i]?:=λi a b=>(OU (Ne.symm a)).trans (o1 i b)
 have d2:(h1.set (t+1) (.lst ((ds++[(x,o0,o.map (·.1))]).map aP)))[t+2]?=some (.lst (bs.map aP)):=by rw[OU ⋯];exact d1
 have b2:(h1.set (t+1) (.lst ((ds++[(x,o0,o.map (·.1))]).map aP)))[t+1]?=some (.lst ((ds++[(x,o0,o.map (·.1))]).map aP)):=OY ⋯;have n2':(h1.set (t+1) (.lst ((ds++[(x,o0,o.map (·.1))]).map aP))).length=h.length:=by rw[Pv];exact n1'
 generalize h1.set (t+1) (.lst ((ds++[(x,o0,o.map (·.1))]).map aP))=h2 at *;have ob1:=(o1 q ⋯).trans H.ob
 have ob2:=(o2 q ⋯ ⋯).trans H.ob;have st:=wY (x:=x) (o:=o) ob2 ((o2 t ⋯ ⋯).trans H.tx) ⋯ hs;have o3:∀ i,i≠t->i≠t+1->i≠t+2->(h2.set t (.dct false ((upd kx x o).map (kG gN))))[i]?=h[i]?:=λi a b c=>(OU (Ne.symm a)).trans (o2 i b c)
 refine⟨h2.set t (.dct false ((upd kx x o).map (kG gN))),?_,⟨(o3 q ⋯ ⋯ ⋯).trans H.ob,H.sh.keep λi a b=>o3 i ⋯ ⋯ ⋯,H.gd,OY ⋯,?_,?_,λe he=>?_,lo,ct,nL H.nd x o⟩,⟨λi _ a b c=>o3 i a b c,by rw[Pv];exact n2'⟩⟩
 ·have i0:∀ hh,aj (aP (x,o0,o.map (·.1))) (.int 0) hh=.ok (.str x) hh:=λ_=>rfl
  have i1:∀ hh,aj (aP (x,o0,o.map (·.1))) (.int 2) hh=.ok (oN (o.map (·.1))) hh:=λ_=>rfl
  have ob:=H.ob;generalize aP (x,o0,o.map (·.1))=V,h2.set t (.dct false ((upd kx x o).map (kG gN)))=h3,oN (o.map (·.1))=ON at *;unfold kJ
  generalize iG=G at *;simp[ob,m1,m2,m3,m4,m5,ob1,ob2,i0,i1,st,-ay,-aW,-bP,-bI,-aj]
 ·rw[OU ⋯];exact b2
 ·rw[OU ⋯];exact d2
 ·rcases pM he with⟨v,ev,rfl⟩|he
  ·exact⟨T v ev,hx⟩
  ·exact H.tz e he
def Bq{W:Nat}(e:hh[W]?=some (.lst ([].map aP))):ay (.ref W) (.fl []) hh=.ok (.bl true) hh:=by
 have d1:bf 8 hh (.ref W)=some (.list []):=by
  show (match hh[W]? with|some (.lst xs)=>(bq (bf 7 hh) xs).map PyData.list|_=>none)=_
  rw[e];rfl
 have qq:fi (.ref W) (.fl []) hh=some true:=by
  show (match bf 8 hh (.ref W),bf 8 hh (.fl []) with|some d,some e=>some (PyData.eqv d e)|_,_=>none)=_
  rw[d1];show some (PyData.eqv (.list _) (.list []))=_
  rw[PyData.eqv];rfl
 show (match fi (.ref W) (.fl []) hh with|some b=>Out.ok (AV.bl b) hh|none=>Out.bad)=_
 rw[qq]
def Mi(H:Ho h q p t ps kx [] bs):kF [.ref q] h=.ex vB h:=by
 have e:=Bq H.de;simp[kF,H.ob,e,-ay]
def Mj(H:Ho h q p t ps kx ds []):kJ [.ref q] h=.ex vB h:=by
 have e:=Bq H.ba;simp[kJ,H.ob,e,-ay]
end
def Dk(F:Out AV)(h:AH)(ps:YG)(kx:ZH)(ds:List De)(x:Str)(y:Option Str)(c:Nat):Prop :=
 ∃ (o:Option (Nat×Str)) (ps':YG) (h':AH),F=.ok .non h'/\o.map (·.2)=y/\Ho h' 0 1 10 ps' (upd kx x o) (ds++[(x,(lk kx x).map (·.1),o.map (·.1))]) []/\Fh 1 10 h h'/\ps <+: ps'/\ps'.length<=ps.length+c
theorem pO{x:Str}{v:Nat×Str}:∀ {kx:ZH},(kx.map (·.1)).Nodup->(x,v)∈kx->lk kx x=some v
 |e::r,nd,h=>by
  rw[gI];rw[O8,PN] at nd;rcases Pb.mp h with h|h
  ·rw[<- h,OX rfl]
  ·rw[O0 (λz:e.1=x=>nd.1 (z▸List.mem_map_of_mem (f:=λe=>e.1) h)),pO nd.2 h]
section
variable{h:AH}{ps:YG}{kx:ZH}{ds bs:List De}{x z:Str}{v w:Nat×Str}
def gJ(H:Ho h 0 1 10 ps kx ds bs)(l:lk kx x=some v):TxZ ps v.1 v.2/\bt x=true:=(H.tz _ (cx l))
def dk_of{k:Nat}{F:Out AV}(H:Ho h 0 1 10 ps kx ds bs)(D:Dd 1 h h1 ps ps1 k)(T:TxZ ps1 n y)(hx:bt x=true)(hc:k<=c)(ct:kx.length<50)(ld:ds.length<=1000)(e:∀ h',bV [.ref 0,.str x,.int n] h1=.ok .non h'->F=.ok .non h'):Dk F h ps kx ds x (some y) c:=by
 obtain⟨h',fd,H',Fr'⟩:=j5 (H.dd D) (o:=some (n,y)) hx (λv ev=>by cases ev;exact T) (OW (sF ..) ⋯) ld nofun
 exact⟨some (n,y),ps1,h',e h' fd,rfl,H',(Fh.dd D).trans Fr',D.pre,by have:=D.len;lia⟩
def Ml(H:Ho h 0 1 10 ps kx ds bs)(hx:bt x=true)(py:bN y=true)(ly:y.length<=10000)(hz:ps.length<13000000)(ct:kx.length<50)(ld:ds.length<=1000):Dk (jQ [.ref 0,.str x,.str y] h) h ps kx ds x (some y) (2*y.length):=by
 obtain⟨n,ps',h1,fb,D,T⟩:=Lv H.sh H.gd py ly ⋯;have ck:=sH hx h;refine dk_of H D T hx (OV _) ct ld λh' fd=>?_
 unfold jQ;generalize bV=G2,jd=G at *;simp[ck,H.ob,fb,fd]
def Mm(H:Ho h 0 1 10 ps kx ds bs)(hx:bt x=true)(l:lk kx z=some v)(ct:kx.length<50)(ld:ds.length<=1000):Dk (jR [.ref 0,.str x,.str z] h) h ps kx ds x (some v.2) 0:=by
 obtain⟨h',fd,H',Fr'⟩:=j5 H (x:=x) (o:=some v) hx (λv' ev=>by cases ev;exact(gJ H l).1) (OW (sF ..) ⋯) ld nofun
 have fd:bV [.ref 0,.str x,.int v.1] h=.ok .non h':=fd;have ck:=sH hx h;have ft:=fK H l;refine⟨some v,ps,h',?_,rfl,H',Fr',P0 _,by lia⟩
 unfold jR;generalize bx=G3,bV=G2 at *;simp[ck,H.ob,ft,fd]
def Mn(H:Ho h 0 1 10 ps kx ds bs){k:Nat}(l:lk kx x=some v)(hk:k<2 ^ 50)(hm:v.2.length*k<=1000000000000000000)(hz:ps.length<13000000)(ct:kx.length<50)(ld:ds.length<=1000):Dk (iL [.ref 0,.str x,.int k] h) h ps kx ds x (some (aX v.2 k)) 240000:=by
 obtain⟨m,ps',h1,D,T⟩:=LB H.sh H.gd (gJ H l).1 hk 'd' hm ⋯;have ft:=fK H l;have ev:=D.ev;refine dk_of H D.dd T (gJ H l).2 'd' ct ld λh' fd=>?_
 unfold iL;generalize bx=G3,bV=G2,hJ=G at *;simp[H.ob,ft,ev,fd]
def Mo (T:TxZ ps n ""):n=0:=by
 rcases T with⟨a,_⟩|⟨m,f,l,T⟩
 ·exact a
 ·obtain⟨k,c⟩:=T.ky.cnt
  have:=T.ky.f1;have e:m.sg=0:=T.ky.sg;lia
def Mp (H:Ho h 0 1 10 ps kx ds bs) {k:Nat} (l:lk kx x=some (n,("" : Str))) (hk:k<2 ^ 63) (ct:kx.length<50) (ld:ds.length<=1000):Dk (iL [.ref 0,.str x,.int k] h) h ps kx ds x (some "") 240000:=by
 have n0:=Mo (gJ H l).1;subst n0;have ev:=wL H.sh (pE ps) hk (by show 0*k<=_;rw[Nat.zero_mul];exact Po _)
 rw[OX rfl] at ev;obtain⟨h',fd,H',Fr'⟩:=j5 H (x:=x) (o:=some (0, "")) (gJ H l).2 (λv' ev=>by cases ev;exact .inl ⟨rfl,rfl⟩) (OW (sF ..) ⋯) ld nofun
 have fd:bV [.ref 0,.str x,.int (0:Nat)] h=.ok .non h':=fd;have ft:=fK H l;refine⟨some (0, ""),ps,h',?_,rfl,H',Fr',P0 _,by lia⟩
 unfold iL;generalize ((0:Nat):Int)=Z,bx=G3,bV=G2,hJ=G at *;simp[H.ob,ft,ev,fd]
def Mq(H:Ho h 0 1 10 ps kx ds bs)(l:lk kx x=some v)(l2:lk kx z=some w)(hm:v.2.length+w.2.length<=1000000000000000000)(hz:ps.length<13000000)(ct:kx.length<50)(ld:ds.length<=1000):Dk (jT [.ref 0,.str x,.str z] h) h ps kx ds x (some (v.2++w.2)) 240000:=by
 obtain⟨m,ps',h1,ev,D,T⟩:=sD H.sh H.gd (gJ H l).1 (gJ H l2).1 hm ⋯;have ft:=fK H l;have ft2:=fK H l2;refine dk_of H D T (gJ H l).2 'd' ct ld λh' fd=>?_
 unfold jT;generalize bx=G3,bV=G2,bQ=G at *;simp[H.ob,ft,ft2,ev,fd]
def Mr(H:Ho h 0 1 10 ps kx ds bs)(l:lk kx x=some v)(l2:lk kx z=some w)(ha:a<=v.2.length)(hm:v.2.length+w.2.length<=1000000000000000000)(hz:ps.length<13000000)(ct:kx.length<50)(ld:ds.length<=1000) :
  Dk (iK [.ref 0,.str x,.int a,.str z] h) h ps kx ds x (some ((bU v.2 a++w.2)++dz v.2 a)) 240000:=by
 obtain⟨m,ps',h1,ev,D,T⟩:=LM H.sh H.gd (gJ H l).1 (gJ H l2).1 ha hm hz;have ft:=fK H l;have ft2:=fK H l2;refine dk_of H D T (gJ H l).2 'd' ct ld λh' fd=>?_
 unfold iK;generalize bx=G3,bV=G2,je=G at *;simp[H.ob,ft,ft2,ev,fd]
def Mu(H:Ho h 0 1 10 ps kx ds bs)(l:lk kx x=some v)(ab:a<=b)(hb:b<=v.2.length)(hm:v.2.length<=1000000000000000000)(hz:ps.length<13000000)(ct:kx.length<50)(ld:ds.length<=1000) :
  Dk (jW [.ref 0,.str x,.int a,.int b] h) h ps kx ds x (some (bU v.2 a++dz v.2 b)) 240000:=by
 obtain⟨m,ps',h1,ev,D,T⟩:=LJ H.sh H.gd (gJ H l).1 ab hb hm hz;have ft:=fK H l;refine dk_of H D T (gJ H l).2 'd' ct ld λh' fd=>?_
 unfold jW;generalize bx=G3,bV=G2,jV=G at *;simp[H.ob,ft,ev,fd]
def Mv(H:Ho h 0 1 10 ps kx ds bs)(l:lk kx x=some v)(ld:ds.length<=1000):Dk (mr [.ref 0,.str x] h) h ps kx ds x none 0:=by
 obtain⟨h',fd,H',Fr'⟩:=j5 H (x:=x) (o:=none) (gJ H l).2 nofun (OW (Rr _ _) H.ct) ld (λ_=>by rw[l];rfl)
 have fd:bV [.ref 0,.str x,.non] h=.ok .non h':=fd;have ft:=fK H l;refine⟨none,ps,h',?_,rfl,H',Fr',P0 _,by lia⟩
 unfold mr;generalize bx=G3,bV=G2 at *;simp[H.ob,ft,fd]
end
inductive Gd (kx:ZH):AV->Str->Option Str->Nat->Prop
 |give {x y:Str} (hx:bt x=true) (py:bN y=true) (ly:y.length<=10000):Gd kx (.tup [.str "give",.str x,.str y]) x (some y) (2*y.length)
 |copy {x z:Str} {v:Nat×Str} (hx:bt x=true) (l:lk kx z=some v):Gd kx (.tup [.str "copy_of",.str x,.str z]) x (some v.2) 0
 |join {x z:Str} {v w:Nat×Str} (l:lk kx x=some v) (l2:lk kx z=some w) (hm:v.2.length+w.2.length<=1000000000000000000):Gd kx (.tup [.str "join_to",.str x,.str z]) x (some (v.2++w.2)) 240000
 |put {x z:Str} {v w:Nat×Str} {a:Nat} (l:lk kx x=some v) (l2:lk kx z=some w) (ha:a<=v.2.length) (hm:v.2.length+w.2.length<=1000000000000000000):Gd kx (.tup [.str "put_into",.str x,.int a,.str z]) x (some ((bU v.2 a++w.2)++dz v.2 a)) 240000
 |take {x:Str} {v:Nat×Str} {a b:Nat} (l:lk kx x=some v) (ab:a<=b) (hb:b<=v.2.length) (hm:v.2.length<=1000000000000000000):Gd kx (.tup [.str "take_from",.str x,.int a,.int b]) x (some (bU v.2 a++dz v.2 b)) 240000
 |rep {x:Str} {v:Nat×Str} {k:Nat} (l:lk kx x=some v) (hk:k<2 ^ 50) (hm:v.2.length*k<=1000000000000000000):Gd kx (.tup [.str "repeat",.str x,.int k]) x (some (aX v.2 k)) 240000
 |rep0 {x:Str} {n k:Nat} (l:lk kx x=some (n,("" : Str))) (hk:k<2 ^ 63):Gd kx (.tup [.str "repeat",.str x,.int k]) x (some "") 240000
 |drop {x:Str} {v:Nat×Str} (l:lk kx x=some v):Gd kx (.tup [.str "drop",.str x]) x none 0
def Br{V:AV}{o0:Option AV}(i0:aj V (.int 0) h=.ok (.str x) h):(aE (ag ay (ag aj (aa 1) (ae (.int 0))) (ae (.str y)))) [o0,some V] h=.ok (decide (x=y)) h:=by
 simp[i0,-aj]
def Mw(a:SE)(en:En)(h:AH):eB (ao a en h)=a en h:=by
 show eB ((a en h).go en λv h'=>.rt v h')=_
 cases a en h<;>rfl
def Qp(Y:Out AV)(o:OutS):Prop:=eB o=Y
section
variable{P:OutS->Prop}{h h':AH}{x y:Str}{V W:AV}{o0:Option AV}{a:SE}{b:SS}{Y:Out AV}
def bW(i0:aj V (.int 0) h=.ok (.str x) h)(n:¬ x=y)(r:P (b [o0,some V] h)):P (ai (aG (aE (ag ay (ag aj (aa 1) (ae (.int 0))) (ae (.str y)))) (ao a) aH) b [o0,some V] h) :=(
 cD ((Br i0).trans (by rw[O9 n])) r)
def Bs(s:a [o0,some V] h=Y):Qp Y (ao a [o0,some V] h):=((Mw ..).trans s)
def kM(i0:aj V (.int 0) h=.ok (.str x) h)(s:a [o0,some V] h=Y):Qp Y (ai (aG (aE (ag ay (ag aj (aa 1) (ae (.int 0))) (ae (.str x)))) (ao a) aH) b [o0,some V] h):=by
 have c:=Br (y:=x) (o0:=o0) i0;rw[Pf rfl] at c;have q:ai (aG (aE (ag ay (ag aj (aa 1) (ae (.int 0))) (ae (.str x)))) (ao a) aH) b [o0,some V] h=ao a [o0,some V] h:=by
  generalize aE (ag ay (ag aj (aa 1) (ae (.int 0))) (ae (.str x)))=C at *;simp only[ai,aG,c,Out.go,Qd]
  show (match (a [o0,some V] h).go [o0,some V] λv h'=>.rt v h' with|.nx e h'=>b e h'|o=>o)=(a [o0,some V] h).go [o0,some V] λv h'=>.rt v h'
  cases a [o0,some V] h<;>rfl
 rw[q];exact Bs s
def j7{m:Nat}{b:SS}{args:YF}(hn:args.length=n)(r:Qp Y (b (args.map some++List.replicate (m-n) none) h)):aw n m b args h=Y:=(mE (P:=λo=>o=Y) hn r)
variable{p t:Nat}{u1 u2 u3:AV}{G:Fn}
def m0(ob:h[0]?=some (.ins 1 [some (.ref p),some (.ref t),some (.ref (t+1)),some (.ref (t+2))])):aB 1 G (aa 0) af [some (.ref 0),some V] h=G [.ref 0] h:=by simp[ob]
def m1(ob:h[0]?=some (.ins 1 [some (.ref p),some (.ref t),some (.ref (t+1)),some (.ref (t+2))]))(i1:aj V (.int 1) h=.ok u1 h):aB 1 G (aa 0) (ah (ag aj (aa 1) (ae (.int 1))) af) [some (.ref 0),some V] h=G [.ref 0,u1] h:=by simp[ob,i1,-aj]
def m2(ob:h[0]?=some (.ins 1 [some (.ref p),some (.ref t),some (.ref (t+1)),some (.ref (t+2))]))(i1:aj V (.int 1) h=.ok u1 h)(i2:aj V (.int 2) h=.ok u2 h):aB 1 G (aa 0) (ah (ag aj (aa 1) (ae (.int 1))) (ah (ag aj (aa 1) (ae (.int 2))) af)) [some (.ref 0),some V] h=G [.ref 0,u1,u2] h:=by simp[ob,i1,i2,-aj]
def m3(ob:h[0]?=some (.ins 1 [some (.ref p),some (.ref t),some (.ref (t+1)),some (.ref (t+2))]))(i1:aj V (.int 1) h=.ok u1 h)(i2:aj V (.int 2) h=.ok u2 h)(i3:aj V (.int 3) h=.ok u3 h):aB 1 G (aa 0) (ah (ag aj (aa 1) (ae (.int 1))) (ah (ag aj (aa 1) (ae (.int 2))) (ah (ag aj (aa 1) (ae (.int 3))) af))) [some (.ref 0),some V] h=G [.ref 0,u1,u2,u3] h:=by simp[ob,i1,i2,i3,-aj]
end
section
variable{h:AH}{ps:YG}{kx:ZH}{ds bs:List De}(H:Ho h 0 1 10 ps kx ds bs)(a b c:AV)
include H
def xb:dG [.ref 0,.tup [.str "give",a,b]] h=jQ [.ref 0,a,b] h :=(
 j7 rfl (kM rfl (m2 H.ob rfl rfl)))
def xg:dG [.ref 0,.tup [.str "copy_of",a,b]] h=jR [.ref 0,a,b] h :=(
 j7 rfl (bW rfl ∅ (kM rfl (m2 H.ob rfl rfl))))
def Bt:dG [.ref 0,.tup [.str "join_to",a,b]] h=jT [.ref 0,a,b] h :=(
 j7 rfl (bW rfl ∅ (bW rfl ∅ (kM rfl (m2 H.ob rfl rfl)))))
def xh:dG [.ref 0,.tup [.str "put_into",a,b,c]] h=iK [.ref 0,a,b,c] h :=(
 j7 rfl (bW rfl ∅ (bW rfl ∅ (bW rfl ∅ (kM rfl (m3 H.ob rfl rfl rfl))))))
def xj:dG [.ref 0,.tup [.str "take_from",a,b,c]] h=jW [.ref 0,a,b,c] h :=(
 j7 rfl (bW rfl ∅ (bW rfl ∅ (bW rfl ∅ (bW rfl ∅ (kM rfl (m3 H.ob rfl rfl rfl)))))))
def pP:dG [.ref 0,.tup [.str "repeat",a,b]] h=iL [.ref 0,a,b] h :=(
 j7 rfl (bW rfl ∅ (bW rfl ∅ (bW rfl ∅ (bW rfl ∅ (bW rfl ∅ (kM rfl (m2 H.ob rfl rfl))))))))
def Bu:dG [.ref 0,.tup [.str "drop",a]] h=mr [.ref 0,a] h :=(
 j7 rfl (bW rfl ∅ (bW rfl ∅ (bW rfl ∅ (bW rfl ∅ (bW rfl ∅ (bW rfl ∅ (kM rfl (m1 H.ob rfl)))))))))
def Bv:dG [.ref 0,.tup [.str "back"]] h=kF [.ref 0] h :=(
 j7 rfl (bW (x := "back") rfl ∅ (bW (x := "back") rfl ∅ (bW (x := "back") rfl ∅ (bW (x := "back") rfl ∅ (bW (x := "back") rfl ∅ (bW (x := "back") rfl ∅ (bW (x := "back") rfl ∅ (bW (x := "back") rfl ∅ (Bs (m0 H.ob)))))))))))
def xk{deed:AV}{y:Option Str}{c:Nat}(g:Gd kx deed x y c)(hz:ps.length<13000000)(ct:kx.length<50)(ld:ds.length<=1000):Dk (dG [.ref 0,deed] h) h ps kx ds x y c:=by
 cases g with
 |give hx py ly=>rw[xb H];exact Ml H hx py ly hz ct ld
 |copy hx l=>rw[xg H];exact Mm H hx l ct ld
 |join l l2 hm=>rw[Bt H];exact Mq H l l2 hm hz ct ld
 |put l l2 ha hm=>rw[xh H];exact Mr H l l2 ha hm hz ct ld
 |take l ab hb hm=>rw[xj H];exact Mu H l ab hb hm hz ct ld
 |rep l hk hm=>rw[pP H];exact Mn H l hk hm hz ct ld
 |rep0 l hk=>rw[pP H];exact Mp H l hk ct ld
 |drop l=>rw[Bu H];exact Mv H l ld
end
def Bw(nm:gj [v] hh=.ok (.bl false) hh):iH [v] hh=.ex d5 hh:=by
 simp[iH,nm]
def nM {n:String} (e:h9 v h=some n) (q:(n == "str")=false):gj [v] h=.ok (.bl false) h:=by
 simp[gj,e,q,-h9]
def sI {n:String} (e:h9 v h=some n) (q:(n == "str")=false):iI [v] h=.ok (.bl false) h:=by
 simp[iI,e,q,-h9]
def pQ(hx:bt x=false)(lx:x.length<=1000)(hh:AH):gj [.str x] hh=.ok (.bl false) hh:=by
 rw[wX x hh (OW lx 'd'),hx]
section
variable{h:AH}{ps:YG}{kx:ZH}{ds bs:List De}{u v w:AV}{x z:Str}{e f:Nat×Str}(H:Ho h 0 1 10 ps kx ds bs)
include H
def kN(hx:x.length<=1000)(l:lk kx x=none):bx [.ref 0,.str x] h=.ex d5 h:=by
 have nm:=wX x h (OW hx 'd');have vk:aT (kx.map (kG gN)) (.str x)=none:=by rw[jh,l];rfl
 have ni:cU (.str x) (.ref 10) h=.ok (.bl true) h:=by
  simp only[cU,kr,H.tx,vk,dX,keyOf?,Option.isSome];rfl
 cases bt x<;>simp[bx,H.ob,nm,ni,-cU,-aj]
def Mx(o:bx [.ref 0,v] h=.ex d5 h):mr [.ref 0,v] h=.ex d5 h:=by
 unfold mr;generalize bV=G2,bx=G at *;simp[H.ob,o]
def My(o:bx [.ref 0,v] h=.ex d5 h):jT [.ref 0,v,w] h=.ex d5 h:=by
 unfold jT;generalize bQ=G3,bV=G2,bx=G at *;simp[H.ob,o]
def Mz(l:lk kx x=some e)(o:bx [.ref 0,v] h=.ex d5 h):jT [.ref 0,.str x,v] h=.ex d5 h:=by
 have ft:=fK H l;unfold jT;generalize bQ=G3,bV=G2,bx=G at *;simp[H.ob,ft,o]
def MA(o:bx [.ref 0,v] h=.ex d5 h):iK [.ref 0,v,u,w] h=.ex d5 h:=by
 unfold iK;generalize je=G3,bV=G2,bx=G at *;simp[H.ob,o]
def MB(l:lk kx x=some e)(o:bx [.ref 0,v] h=.ex d5 h):iK [.ref 0,.str x,u,v] h=.ex d5 h:=by
 have ft:=fK H l;unfold iK;generalize je=G3,bV=G2,bx=G at *;simp[H.ob,ft,o]
def MC(o:bx [.ref 0,v] h=.ex d5 h):jW [.ref 0,v,u,w] h=.ex d5 h:=by
 unfold jW;generalize jV=G3,bV=G2,bx=G at *;simp[H.ob,o]
def MD(o:bx [.ref 0,v] h=.ex d5 h):iL [.ref 0,v,w] h=.ex d5 h:=by
 unfold iL;generalize hJ=G3,bV=G2,bx=G at *;simp[H.ob,o]
def ME(hx:bt x=true)(o:bx [.ref 0,v] h=.ex d5 h):jR [.ref 0,.str x,v] h=.ex d5 h:=by
 have ck:=sH hx h;unfold jR;generalize iH=G3,bV=G2,bx=G at *;simp[H.ob,ck,o]
def MF(hx:bt x=true)(np:iI [v] h=.ok (.bl false) h):jQ [.ref 0,.str x,v] h=.ex vz h:=by
 have ck:=sH hx h;have fb:jd [.ref 1,v] h=.ex vz h:=by
  unfold jd;generalize ie 20=G2,iI=G at *;simp[np]
 unfold jQ;generalize iH=G3,bV=G2,jd=G at *;simp[H.ob,ck,fb]
def MG{a:Int}(l:lk kx x=some e)(l2:lk kx z=some f)(no:¬ (0<=a/\a<=e.2.length)):iK [.ref 0,.str x,.int a,.str z] h=.ex kE h:=by
 have ft:=fK H l;have ft2:=fK H l2;obtain⟨m,em,sm⟩:=(H.tz _ (cx l)).1.meas;obtain⟨m2,em2,sm2⟩:=(H.tz _ (cx l2)).1.meas;have fs:=cL H.sh em;have fs2:=cL H.sh em2;have g:kI [.ref 1,.int e.1,.int a] h=.ex kE h:=by
  rw[<- sm] at no;by_cases q1:0<=a
  ·have q2:¬ a<=(m.sg:Int):=λz=>no ⟨q1,z⟩
   simp[kI,H.sh.ob,fs,q1,q2]
  ·simp[kI,H.sh.ob,fs,q1]
 have fp:je [.ref 1,.int e.1,.int a,.int f.1] h=.ex kE h:=by
  unfold je;generalize jS=G2,kI=G at *;simp[H.sh.ob,fs,fs2,g]
 unfold iK;generalize je=G3,bV=G2,bx=G at *;simp[H.ob,ft,ft2,fp]
def MH{a b:Int}(l:lk kx x=some e)(no:¬ (0<=a/\a<=b/\b<=e.2.length)):jW [.ref 0,.str x,.int a,.int b] h=.ex kE h:=by
 have ft:=fK H l;obtain⟨m,em,sm⟩:=(H.tz _ (cx l)).1.meas;have fs:=cL H.sh em;have ck:jU [.ref 1,.int e.1,.int a,.int b] h=.ex kE h:=by
  rw[<- sm] at no;by_cases q1:0<=a
  ·by_cases q2:a<=b
   ·have q3:¬ b<=(m.sg:Int):=λz=>no ⟨q1,q2,z⟩
    simp[jU,H.sh.ob,fs,q1,q2,q3,i8]
   ·simp[jU,H.sh.ob,fs,q1,q2,i8]
  ·simp[jU,H.sh.ob,fs,q1,i8]
 have fp:jV [.ref 1,.int e.1,.int a,.int b] h=.ex kE h:=by
  unfold jV;generalize jU=G at *;simp[ck]
 unfold jW;generalize jV=G3,bV=G2,bx=G at *;simp[H.ob,ft,fp]
def Bx{k:Int}(l:lk kx x=some e)(le:e.2.length<=1000)(q:k<0/\c=kE\/0<=k/\(1000000000000000000:Int)<e.2.length*k/\c=vA):iL [.ref 0,.str x,.int k] h=.ex c h:=by
 have ft:=fK H l;obtain⟨m,em,sm⟩:=(H.tz _ (cx l)).1.meas;have fs:=cL H.sh em;have hs:m.sg<=1000:=by rw[sm];exact le
 have fr:hJ [.ref 1,.int e.1,.int k] h=.ex c h:=by
  rcases q with⟨q,rfl⟩|⟨q0,q,rfl⟩
  ·have lt:cP (.int k) (.int 0) h=.ok (.bl true) h:=by simp only[cP,q,RB]
   unfold hJ;generalize eV 64=G at *;simp[H.sh.ob,fs,lt,-cP]
  ·have lt:cP (.int k) (.int 0) h=.ok (.bl false) h:=by
    have:¬ k<0:=by lia
    simp only[cP,this,decide_false]
   obtain⟨MK,eM⟩:∃ MK:Int,MK=m.sg*k:=⟨_,rfl⟩
   rw[<- sm,<- eM] at q;have ml:bj (.int m.sg) (.int k) h=.ok (.int MK) h:=by
    rw[Au (O7 (m:=1000) ⋯ 'd'),eM]
   have ck:jS [.int MK] h=.ex vA h:=by simp[jS,q]
   unfold hJ;generalize eV 64=G at *;simp[H.sh.ob,fs,lt,ml,ck,-cP,-bj]
 unfold iL;generalize hJ=G3,bV=G2,bx=G at *;simp[H.ob,ft,fr]
end
section
variable{h:AH}{q:Nat}{v w deed:AV}
def MI(nm:gj [v] h=.ok (.bl false) h):jR [.ref q,v,w] h=.ex d5 h:=by
 have ck:=Bw nm;unfold jR;generalize iH=G3,bV=G2,bx=G at *;simp[ck]
def MJ(nm:gj [v] h=.ok (.bl false) h):jQ [.ref q,v,w] h=.ex d5 h:=by
 have ck:=Bw nm;unfold jQ;generalize iH=G3,bV=G2,jd=G at *;simp[ck]
def xl(e:dG [.ref q,deed] h=.ok .non h'):cY [.ref q,deed] h=.ok (.str "") h':=by
 unfold cY;generalize dG=G at *;simp[jL,e]
def kO(e:dG [.ref q,deed] h=.ex d5 h):cY [.ref q,deed] h=.ok (.str "NoName") h:=by
 have c1:lX 3=true:=rfl;have c2:rk 3=false:=rfl;unfold cY;generalize dG=G at *;simp[jL,jK,e,c1,c2,atI,gv]
def ML(e:dG [.ref q,deed] h=.ex vz h):cY [.ref q,deed] h=.ok (.str "NoText") h:=by
 have c1:lX 0=false:=rfl;have c3:nz 0=true:=rfl;have c2:rk 0=true:=rfl;unfold cY;generalize dG=G at *;simp[jL,jK,e,c1,c2,c3,atI,gv]
def xm(e:dG [.ref q,deed] h=.ex kE h):cY [.ref q,deed] h=.ok (.str "NoPlace") h:=by
 have c1:lX 2=false:=rfl;have c3:nz 2=false:=rfl;have c4:oR 2=true:=rfl;have c2:rm 2=false:=rfl;unfold cY;generalize dG=G at *;simp[jL,jK,e,c1,c2,c3,c4,atI,gv]
def MM(e:dG [.ref q,deed] h=.ex vA h):cY [.ref q,deed] h=.ok (.str "TooLong") h:=by
 have c1:lX 1=false:=rfl;have c3:nz 1=false:=rfl;have c4:oR 1=false:=rfl;have c5:rn 1=true:=rfl;have c2:rm 1=true:=rfl;unfold cY;generalize dG=G at *;simp[jL,jK,e,c1,c2,c3,c4,c5,atI,gv]
end
def Rw(h:AH)(kx:ZH)(deed:AV)(due:Str):Prop:=∀ (kz:ZH) (ps:YG) (ds bs:List De),(∀ x,lk kz x=lk kx x)->Ho h 0 1 10 ps kz ds bs->cY [.ref 0,deed] h=.ok (.str due) h
section
variable{h:AH}{kx:ZH}{v w u:AV}{x z:Str}{e f:Nat×Str}
def MN(l:lk kx x=none)(lx:x.length<=1000):Rw h kx (.tup [.str "drop",.str x]) "NoName" :=(λkz ps ds bs q H =>
 kO ((Bu H _).trans (Mx H (kN H lx ((q x).trans l)))))
def MO(l:(lk kx x).isNone || (lk kx z).isNone)(lx:x.length<=1000)(lz:z.length<=1000):Rw h kx (.tup [.str "join_to",.str x,.str z]) "NoName" :=(λkz ps ds bs q H=>by
 refine kO ((Bt H _ _).trans ?_)
 cases e:lk kx x with
 |none=>exact My H (kN H lx ((q x).trans e))
 |some v =>
  rw[e] at l;exact Mz H ((q x).trans e) (kN H lz ((q z).trans (Qc.mp l))))
def MP(l:(lk kx x).isNone || (lk kx z).isNone)(lx:x.length<=1000)(lz:z.length<=1000):Rw h kx (.tup [.str "put_into",.str x,u,.str z]) "NoName" :=(λkz ps ds bs q H=>by
 refine kO ((xh H _ _ _).trans ?_)
 cases e:lk kx x with
 |none=>exact MA H (kN H lx ((q x).trans e))
 |some v =>
  rw[e] at l;exact MB H ((q x).trans e) (kN H lz ((q z).trans (Qc.mp l))))
def MQ{a:Int}(l:lk kx x=some e)(l2:lk kx z=some f)(no:¬ (0<=a/\a<=e.2.length)):Rw h kx (.tup [.str "put_into",.str x,.int a,.str z]) "NoPlace" :=(λkz ps ds bs q H =>
 xm ((xh H _ _ _).trans (MG H ((q x).trans l) ((q z).trans l2) no)))
def MR(l:lk kx x=none)(lx:x.length<=1000):Rw h kx (.tup [.str "take_from",.str x,u,v]) "NoName" :=(λkz ps ds bs q H =>
 kO ((xj H _ _ _).trans (MC H (kN H lx ((q x).trans l)))))
def MS{a b:Int}(l:lk kx x=some e)(no:¬ (0<=a/\a<=b/\b<=e.2.length)):Rw h kx (.tup [.str "take_from",.str x,.int a,.int b]) "NoPlace" :=(λkz ps ds bs q H =>
 xm ((xj H _ _ _).trans (MH H ((q x).trans l) no)))
def MT(l:lk kx x=none)(lx:x.length<=1000):Rw h kx (.tup [.str "repeat",.str x,v]) "NoName" :=(λkz ps ds bs q H =>
 kO ((pP H _ _).trans (MD H (kN H lx ((q x).trans l)))))
def MU{k:Int}(l:lk kx x=some e)(le:e.2.length<=1000)(no:k<0):Rw h kx (.tup [.str "repeat",.str x,.int k]) "NoPlace" :=(λkz ps ds bs q H =>
 xm ((pP H _ _).trans (Bx H ((q x).trans l) le (.inl ⟨no,rfl⟩))))
def MV{k:Int}(l:lk kx x=some e)(le:e.2.length<=1000)(k0:0<=k)(no:(1000000000000000000:Int)<e.2.length*k):Rw h kx (.tup [.str "repeat",.str x,.int k]) "TooLong" :=(λkz ps ds bs q H =>
 MM ((pP H _ _).trans (Bx H ((q x).trans l) le (.inr ⟨k0,no,rfl⟩))))
def MW(nm:gj [v] h=.ok (.bl false) h):Rw h kx (.tup [.str "give",v,w]) "NoName" :=(λkz ps ds bs q H =>
 kO ((xb H _ _).trans (MJ nm)))
def MX(hx:bt x=true)(np:iI [v] h=.ok (.bl false) h):Rw h kx (.tup [.str "give",.str x,v]) "NoText" :=(λkz ps ds bs q H =>
 ML ((xb H _ _).trans (MF H hx np)))
def MY(nm:gj [v] h=.ok (.bl false) h):Rw h kx (.tup [.str "copy_of",v,w]) "NoName" :=(λkz ps ds bs q H =>
 kO ((xg H _ _).trans (MI nm)))
def MZ(hx:bt x=true)(l:lk kx z=none)(lz:z.length<=1000):Rw h kx (.tup [.str "copy_of",.str x,.str z]) "NoName" :=(λkz ps ds bs q H =>
 kO ((xg H _ _).trans (ME H hx (kN H lz ((q z).trans l)))))
end
def xn{kz:ZH}{deed:AV}{y:Option Str}(q:∀ x,lk kz x=lk kx x)(g:Gd kx deed x y c):Gd kz deed x y c:=by
 cases g with
 |give hx py ly=>exact .give hx py ly
 |copy hx l=>exact .copy hx ((q _).trans l)
 |join l l2 hm=>exact .join ((q _).trans l) ((q _).trans l2) hm
 |put l l2 ha hm=>exact .put ((q _).trans l) ((q _).trans l2) ha hm
 |take l ab hb hm=>exact .take ((q _).trans l) ab hb hm
 |rep l hk hm=>exact .rep ((q _).trans l) hk hm
 |rep0 l hk=>exact .rep0 ((q _).trans l) hk
 |drop l=>exact .drop ((q _).trans l)
theorem By(g:Nat×Str->AV):∀ kx:ZH,lS ((kx.map (kG g)).map (·.1))=some (kx.map (·.1))
 |[]=>rfl
 |e::r=>by
  show (lS ((r.map (kG g)).map (·.1))).map (e.1 :: ·)=_
  rw[By g r];rfl
def Bz(h:bt x=true):x.cps.all (· < 0x110000)=true:=by
 unfold bt at h;simp only[Pu] at h
 have a:=h.2;rw[Px] at a;rw[<- Array.all_toList,Px];intro c hc
 have:=a c hc;unfold jg at this;simp only[Pu,P3] at this
 exact Pf ⋯
def nN(p:Str×Nat):PyData:=.tuple [.str p.1,.int p.2]
theorem BC(k:Nat)(hh:AH):∀ l:List (Str×Nat),bq (bf (k+1) hh) (l.map λp=>AV.tup [.str p.1,.int p.2])=some (l.map nN)
 |[]=>rfl
 |d::l=>by
  have e:bf (k+1) hh (AV.tup [.str d.1,.int d.2])=some (nN d):=by cases k<;>rfl
  show (match bf (k+1) hh (AV.tup [.str d.1,.int d.2]),bq (bf (k+1) hh) (l.map λp=>AV.tup [.str p.1,.int p.2]) with|some d,some ds=>some (d::ds)|_,_=>none)=_
  rw[e,BC k hh l];rfl
theorem BD:∀ l:List (Str×Nat),PyData.eqvAll (l.map nN) (l.map nN)=true
 |[]=>by simp[PyData.eqvAll]
 |d::l=>by rw[O8];simp[PyData.eqvAll,PyData.eqv,nN,BD l]
theorem xp{x:Str}:∀ {kx:ZH},x∈kx.map (·.1)->∃ v,lk kx x=some v
 |[],h=>nomatch h
 |e::r,h=>by
  rw[gI];by_cases z:e.1=x
  ·exact⟨e.2,OX z⟩
  ·rw[O0 z]
   rcases Pb.mp h with h|h
   ·exact absurd h.symm z
   ·exact xp h
def nO(kx:ZH):List (Str×Nat):=(dF (kx.map (·.1))).map λx=>(x,((lk kx x).map (·.1)).getD 0)
def cE(kx:ZH):AV:=.fl ((nO kx).map λp=>AV.tup [.str p.1,.int p.2])
def M0(kx:ZH)(hh:AH):eF (cE kx) (cE kx) hh=.ok (.bl false) hh:=by
 have d1:bf 8 hh (cE kx)=some (.list ((nO kx).map nN)):=by
  show (bq (bf 7 hh) ((nO kx).map λp=>AV.tup [.str p.1,.int p.2])).map PyData.list=_
  rw[BC 6];rfl
 have qq:fi (cE kx) (cE kx) hh=some true:=by
  show (match bf 8 hh (cE kx),bf 8 hh (cE kx) with|some d,some e=>some (PyData.eqv d e)|_,_=>none)=_
  rw[d1];show some (PyData.eqv (.list _) (.list _))=_
  simp[PyData.eqv,BD]
 show (match fi (cE kx) (cE kx) hh with|some b=>Out.ok (AV.bl (!b)) hh|none=>Out.bad)=_
 rw[qq];rfl
def xq(a:(kx.map (·.1)).Nodup)(b:(ky.map (·.1)).Nodup)(s:∀ x,lk kx x=lk ky x):(kx.map (·.1)).Perm (ky.map (·.1)):=by
 refine(List.perm_ext_iff_of_nodup a b).mpr λx=>?_
 have:=s x;by_cases q:x∈kx.map (·.1)
 ·obtain⟨v,e⟩:=xp q
  have:¬ lk ky x=none:=by rw[<- s x,e];nofun
  exact⟨λ_=>Classical.not_not.mp λz=>this (zbN.mpr z),λ_=>q⟩
 ·have e:=zbN.mpr q
  rw[s x] at e;exact⟨λz=>absurd z q,λz=>absurd z (zbN.mp e)⟩
def BE(a:(kx.map (·.1)).Nodup)(b:(ky.map (·.1)).Nodup)(s:∀ x,lk kx x=lk ky x):cE kx=cE ky:=by
 have p:=xq a b s;have e:dF (kx.map (·.1))=dF (ky.map (·.1)):=oM ((gc _).trans (p.trans (gc _).symm)) (lR _) (lR _);have l:lk kx=lk ky:=funext s;unfold cE nO;rw[e,l]
def sJ(a:(kx.map (·.1)).Nodup)(b:(ky.map (·.1)).Nodup)(s:∀ x,lk kx x=lk ky x):kx.length=ky.length:=by
 have:=(xq a b s).length_eq;rwa[O2,O2] at this
section
variable{h:AH}{q p t:Nat}{ps:YG}{kx:ZH}{ds bs:List De}
def xr{g:Nat×Str->AV}(e:h[K]?=some (.dct false (kx.map (kG g))))(ct:kx.length<=50)(nm:∀ e∈kx,bt e.1=true):lT [.ref K] h=.ok (.fl ((dF (kx.map (·.1))).map AV.str)) h:=by
 have kt:nk (.ref K) h=some (kx.map (·.1)):=by
  unfold nk;dsimp only;rw[e];exact By g kx
 have nm:∀ x∈kx.map (·.1),bt x=true:=λx hx=>by
  obtain⟨e,he,rfl⟩:=Qk.mp hx;exact nm e he
 unfold lT;dsimp only;rw[kt];dsimp only;rw[OX ⟨by rw[O2];lia,λx hx=>⟨OW (sG (nm x hx)) 'd',Bz (nm x hx)⟩⟩]
def BF(H:Ho h q p t ps kx ds bs):jX [.ref q] h=.ok (.fl ((dF (kx.map (·.1))).map AV.str)) h:=by
 have so:=xr H.tx H.ct λe he=>(H.tz e he).2
 simp[jX,H.ob,so]
def BG(H:Ho h q p t ps kx ds bs):gE [.ref q] h=.ok (cE kx) h:=by
 have fn:=BF H;have ob:=H.ob;have l64:(dF (kx.map (·.1))).length<=64:=by
  rw[(gc _).length_eq,O2];have:=H.ct;lia
 have cm:=rM (js:=[0]) (en:=[some (.ref q)]) (all:=(dF (kx.map (·.1))).map AV.str) (e:=aN (ah (aa 0) (ah (aB 1 bx (aa 1) (ah (aa 0) af)) af))) (g:=AV.str) (f:=λx=>AV.tup [.str x,.int ((((lk kx x).map (·.1)).getD 0:Nat):Int)]) (h:=h) (dF (kx.map (·.1))) [] (λx hx=>by
  obtain⟨v,e⟩:=xp ((gc _).mem_iff.mp hx);have ft:=fK H e;generalize bx=G at *;simp[ob,ft,e]) (by simp;exact OW l64 'd')
 have ev:(dF (kx.map (·.1))).map (λx=>AV.tup [.str x,.int ((((lk kx x).map (·.1)).getD 0:Nat):Int)])=(nO kx).map λp=>AV.tup [.str p.1,.int p.2]:=by
  unfold nO;rw[QV];rfl
 rw[QN,ev] at cm;have cc:dW [0] (dM (aB 1 jX (aa 0) af)) aY (aN (ah (aa 0) (ah (aB 1 bx (aa 1) (ah (aa 0) af)) af))) [some (.ref q)] h=.ok (cE kx) h:=by
  have it:dM (aB 1 jX (aa 0) af) [some (.ref q)] h=.ok ((dF (kx.map (·.1))).map AV.str,none) h:=by
   clear cm;generalize (dF (kx.map (·.1))).map AV.str=W at *;simp[ob,fn]
  simp only[dW,it,cm];rfl
 unfold gE;generalize dW [0] (dM (aB 1 jX (aa 0) af)) aY (aN (ah (aa 0) (ah (aB 1 bx (aa 1) (ah (aa 0) af)) af)))=C at *;simp[cc]
def BH(H:Ho h q p t ps kx ds bs):ij [.ref q] h=.ok (.ref p) h:=by
 simp[ij,H.ob]
def BI{deed:AV}(e:dG [.ref q,deed] h=.ex vB h):cY [.ref q,deed] h=.ok (.str "NothingDone") h:=by
 have c1:lX 4=false:=rfl;have c2:nz 4=false:=rfl;have c3:oR 4=false:=rfl;have c4:rn 4=false:=rfl;have c5:vC 4=true:=rfl;unfold cY;generalize dG=G at *;simp[jL,vt,jK,e,c1,c2,c3,c4,c5]
end
def M3(kx:ZH)(hh:AH):ay (cE kx) (cE kx) hh=.ok (.bl true) hh:=by
 have:=M0 kx hh;revert this
 show (match fi (cE kx) (cE kx) hh with|some b=>Out.ok (AV.bl (!b)) hh|none=>Out.bad)=_->(match fi (cE kx) (cE kx) hh with|some b=>Out.ok (AV.bl b) hh|none=>Out.bad)=_
 cases fi (cE kx) (cE kx) hh with
 |none=>intro z;cases z
 |some b=>cases b<;>simp
theorem xt(k:Nat)(hh:AH):∀ l:List Str,bq (bf (k+1) hh) (l.map AV.str)=some (l.map PyData.str)
 |[]=>rfl
 |d::l=>by
  have e:bf (k+1) hh (AV.str d)=some (.str d):=by cases k<;>rfl
  show (match bf (k+1) hh (AV.str d),bq (bf (k+1) hh) (l.map AV.str) with|some d,some ds=>some (d::ds)|_,_=>none)=_
  rw[e,xt k hh l];rfl
def M4(l:List Str)(hh:AH):ay (.fl (l.map AV.str)) (.fl []) hh=.ok (.bl (decide (l=[]))) hh:=by
 have d1:bf 8 hh (.fl (l.map AV.str))=some (.list (l.map PyData.str)):=by
  show (bq (bf 7 hh) (l.map AV.str)).map PyData.list=_
  rw[xt 6];rfl
 have qq:fi (.fl (l.map AV.str)) (.fl []) hh=some (decide (l=[])):=by
  show (match bf 8 hh (.fl (l.map AV.str)),bf 8 hh (.fl []) with|some d,some e=>some (PyData.eqv d e)|_,_=>none)=_
  rw[d1];show some (PyData.eqv (.list _) (.list []))=_
  rw[PyData.eqv]
  cases l<;>rfl
 show (match fi (.fl (l.map AV.str)) (.fl []) hh with|some b=>Out.ok (AV.bl b) hh|none=>Out.bad)=_
 rw[qq]
def six:List Str:=["a", "ab", "b", "abcdefgh", "zz", "q"]
def M5:∀ x∈six,bt x=true:=by decide +kernel
variable{xs:YF}
def pR(e:xs[i]?=some v)(h:AH):aj (.fl xs) (.int i) h=.ok v h:=by
 simp only[aj,lh e]
abbrev Nm(odd:YF)(v:AV):Prop:=v∈odd\/∃ x,v=.str x/\bt x=true
def lowN:Str := "abcdefghijklmnopqrstuvwxyz"
def M6:∀ c∈lowN.cps.toList,jg c=true:=by decide +kernel
def M7{v:Nat}(hv:v<26)(h:AH):∃ c,jg c=true/\aj (.str lowN) (.int v) h=.ok (.str ⟨#[c]⟩) h:=by
 have hv':v<lowN.cps.toList.length:=hv;have e:lowN.cps.toList[v]?=some lowN.cps.toList[v]:=O6 hv';refine⟨lowN.cps.toList[v],M6 _ (Qz hv'),?_⟩
 generalize lowN=z at *;simp only[aj,lh e]
def M8{h0:AH}(F:Fr L h0 h)(o1 o2 o3 o4:Option AV):∃ x h',bt x=true/\Fr L h0 h' /\
  cW lF mU (ae (.str "")) (ah (dW [5,0] (iZ (ag az (ae (.int 1)) (au aS (ah (aa 0) (ah (ae (.int 8)) af))))) aY (ag aj (aa 1) (au aS (ah (aa 2) (ah (ae (.int 26)) af))))) af) [some (.ref L),o1,o2,o3,o4,some (.str lowN)] h=.ok (.str x) h':=by
 obtain⟨v,N1,hv,ev,F1⟩:=F.take 8 'd' 'd';have ev:aS [.ref L,.int 8] h=.ok (.int v) (h.set L (.lst [.int N1])):=ev;generalize h.set L (.lst [.int N1])=h1 at ev F1
 obtain⟨zs,h',c1,⟨cs,c2,c3,W⟩,c4⟩:=Kn (js:=[5,0]) (en:=[some (.ref L),o1,o2,o3,o4,some (.str lowN)]) (all:=dR 0 (1+v)) (e:=ag aj (aa 1) (au aS (ah (aa 2) (ah (ae (.int 26)) af)))) (xs:=dR 0 (1+v)) (h:=h1)
  (λys h'=>∃ cs:List Nat,ys=cs.map (λc=>AV.str ⟨#[c]⟩)/\(∀ c∈cs,jg c=true)/\Fr L h0 h') ⟨[],rfl,by simp,F1⟩ (by
   rintro u hu ys h2 ⟨cs,rfl,hc,W⟩
   obtain⟨d,N2,hd,e1,W2⟩:=W.take 26 'd' 'd';have e1:aS [.ref L,.int 26] h2=.ok (.int d) (h2.set L (.lst [.int N2])):=e1;generalize h2.set L (.lst [.int N2])=h3 at e1 W2
   obtain⟨c,pc,ec⟩:=M7 hd h3;generalize lowN=z at *;simp[e1,ec,-aj]
   refine⟨cs++[c],by simp,?_,W2⟩
   intro c' hc';rcases PH.mp hc' with q|q
   ·exact hc _ q
   ·simp at q;subst q;exact pc) (by rw[pe];exact OW (Pg (Ri hv) 1) 'd')
 have lc:cs.length=1+v:=by
  have:=congrArg List.length c2;rw[c4,pe] at this;simpa using this.symm
 refine⟨⟨cs.toArray⟩,h',?_,W,?_⟩
 ·unfold bt
  simp only[Pu,P3,Px]
  refine⟨⟨?_,?_⟩,λc hc=>c3 c (by simpa using hc)⟩
  ·simp[Str.length,lc]
  ·simp[Str.length,lc];lia
 ·have jn:=KZ (h:=h') (cs:=cs) (by rw[lc];lia)
  have ad:=w4 (a:=1) (b:=v) rfl h1;have r1:=vI (a:=ag az (ae (.int 1)) (au aS (ah (aa 0) (ah (ae (.int 8)) af)))) (en:=[some (.ref L),o1,o2,o3,o4,some (.str lowN)]) (h:=h) (h1:=h1) (n:=1+v) (by generalize lowN=z at *;simp[ev]) ⋯
  have cc:dW [5,0] (iZ (ag az (ae (.int 1)) (au aS (ah (aa 0) (ah (ae (.int 8)) af))))) aY (ag aj (aa 1) (au aS (ah (aa 2) (ah (ae (.int 26)) af)))) [some (.ref L),o1,o2,o3,o4,some (.str lowN)] h=.ok (.fl zs) h':=by
   simp only[dW,r1,c1]
  rw[c2] at cc;simp only[cW,ae,Out.bind,ah,af,cc,lF,Qd,jn]
section
variable{P:OutS->Prop}{a b:SS}{c:SB}{x:SE}{en e2:En}{h h1 h2 h3:AH}{v:AV}
def pS(s:c en h=.ok true h1)(s1:x en h1=.ok v h3)(r:P (.rt v h3)):P (ai (aG c (ao x) aH) b en h):=by
 have:ai (aG c (ao x) aH) b en h=.rt v h3:=by simp[s,s1]
 rw[this];exact r
def iP{w:OutS}(s:c en h=.ok true h1)(hw:a en h1=w)(hr:∃ v h3,w=.rt v h3)(r:P w):P (ai (aG c a aH) b en h):=by
 obtain⟨v,h3,rfl⟩:=hr;have:ai (aG c a aH) b en h=.rt v h3:=by simp[s,hw]
 rw[this];exact r
def aU(s:x en h=.ok v h2)(r:P (b (en.set i (some v)) h2)):P (ai (ar i x) b en h):=by
 have:ai (ar i x) b en h=b (en.set i (some v)) h2:=by simp[s]
 rw[this];exact r
end
def PR(P:OutS->Prop):OutS->Prop:=λw=>∃ v h3,w=.rt v h3/\P (.rt v h3)
def mF{P:OutS->Prop}{a b:SS}{c:SB}(s:c en h=.ok true h1)(r:PR P (a en h1)):P (ai (aG c a aH) b en h):=by
 obtain⟨v,h3,e,r⟩:=r;have:ai (aG c a aH) b en h=.rt v h3:=by simp[s,e]
 rw[this];exact r
section
variable{h:AH}{L K:Nat}{kx:ZH}
def pT(e:h[K]?=some (.dct false (kx.map (kG gS))))(eL:∃ N:Int,h[L]?=some (.lst [.int N]))(KL:K≠L)(ct:kx.length<=50)(nm:∀ e∈kx,bt e.1=true){odd:YF}(o1:0<odd.length)(o2:odd.length<=20) :
  ∃ v h',fH [.ref L,.ref K,.fl odd] h=.ok v h'/\Fr L h h'/\Nm odd v:=by
 have F0:Fr L h h:=⟨λ_ _ _=>rfl,OV _,eL⟩
 have so:=xr e ct nm;obtain⟨W,eW⟩:∃ W,W=dF (kx.map (·.1)):=⟨_,rfl⟩
 have wm:∀ x∈W,bt x=true:=λx hx=>by
  rw[eW] at hx;obtain⟨e,he,rfl⟩:=Qk.mp ((gc _).mem_iff.mp hx)
  exact nm e he
 have wl:W.length<=50:=by rw[eW,(gc _).length_eq,O2];exact ct
 rw[<- eW] at so;obtain⟨kd,N1,hk,t1,F1⟩:=F0.take 8 'd' 'd'
 have t1:aS [.ref L,.int 8] h=.ok (.int kd) (h.set L (.lst [.int N1])):=t1;obtain⟨h1,eh1⟩:∃ h1,h1=h.set L (.lst [.int N1]):=⟨_,rfl⟩
 rw[<- eh1] at t1 F1;obtain⟨PP,ePP⟩:∃ PP:OutS->Prop,PP=λo=>∃ v h',eB o=.ok v h'/\Fr L h h'/\Nm odd v:=⟨_,rfl⟩
 have toP:∀ o,PP o->∃ v h',eB o=.ok v h'/\Fr L h h'/\Nm odd v:=λo z=>by rw[ePP] at z;exact z
 have ofP:∀ v h',Fr L h h'->Nm odd v->PP (.rt v h'):=λv h' a b=>by rw[ePP];exact⟨v,h',rfl,a,b⟩
 clear ePP;refine mE (P:=λo=>∃ v h',o=.ok v h'/\Fr L h h'/\Nm odd v) rfl (toP _ ?_)
 refine cM (e2:=[some (.ref L),some (.ref K),some (.fl odd),some (.fl (W.map AV.str)),none,none]) (h2:=h) ?_ ?_
 ·have s:lU (aa 1) [some (.ref L),some (.ref K),some (.fl odd),none,none,none] h=.ok (.fl (W.map AV.str)) h:=so
  generalize lU (aa 1)=SK,W.map AV.str=Z at *;simp[s]
 refine cM (e2:=[some (.ref L),some (.ref K),some (.fl odd),some (.fl (W.map AV.str)),some (.int kd),none]) (h2:=h1) ?_ ?_
 ·generalize aS=G,W.map AV.str=Z at *;simp[t1]
 have k0:(aE (ag ay (aa 4) (ae (.int 0)))) [some (.ref L),some (.ref K),some (.fl odd),some (.fl (W.map AV.str)),some (.int kd),none] h1=.ok (decide (kd=0)) h1:=by
  by_cases z:kd=0
  ·subst z;simp
  ·have:¬ (kd:Int)=0:=by lia
   simp[z]
 by_cases z0:kd=0
 ·obtain⟨i,N2,hi,t2,F2⟩:=F1.take odd.length o1 (OW o2 'd')
  have ev:odd[i]?=some odd[i]:=O6 hi;have ix:=pR ev (h1.set L (.lst [.int N2]));have q:ag aj (aa 2) (au aS (ah (aa 0) (ah (au aI (ah (aa 2) af)) af))) [some (.ref L),some (.ref K),some (.fl odd),some (.fl (W.map AV.str)),some (.int kd),none] h1=.ok odd[i] (h1.set L (.lst [.int N2])):=by
   generalize h1.set L (.lst [.int N2])=h2,aS=G,W.map AV.str=Z at *;simp[t2,ix,-aj]
  rw[Pf z0] at k0;have s:∀ {a:SE} {b:SS} {en:En} {v:AV} {hx:AH},a en h1=.ok v hx->(aE (ag ay (aa 4) (ae (.int 0)))) en h1=.ok true h1->ai (aG (aE (ag ay (aa 4) (ae (.int 0)))) (ao a) aH) b en h1=.rt v hx:=λ{a b en v hx} e1 e2=>by
   generalize aE (ag ay (aa 4) (ae (.int 0)))=C at *;simp[e1,e2]
  rw[s q k0];exact ofP _ _ F2 (.inl (Qz hi))
 rw[O9 z0] at k0;refine cD k0 ?_
 have k3:(ot (aE (ag cP (aa 4) (ae (.int 3)))) (aE (ag ay (aa 3) (aJ af)))) [some (.ref L),some (.ref K),some (.fl odd),some (.fl (W.map AV.str)),some (.int kd),none] h1=.ok (decide (kd<3) || decide (W=[])) h1:=by
  have q1:cP (.int kd) (.int 3) h1=.ok (.bl (decide (kd<3))) h1:=Bn kd 3 h1;have q2:=M4 W h1;generalize (kd:Int)=KD,W.map AV.str=Z,decide (kd<3)=bk,decide (W=[])=bw at *
  cases bk<;>cases bw<;>simp[q1,q2,-ay,-cP]
 by_cases z1:(decide (kd<3) || decide (W=[]))=true
 ·rw[z1] at k3
  refine mF (P:=PP) k3 ?_
  obtain⟨d3,N3,hd3,t3,F3⟩:=F1.take 3 'd' 'd';have t3:aS [.ref L,.int 3] h1=.ok (.int d3) (h1.set L (.lst [.int N3])):=t3;generalize h1.set L (.lst [.int N3])=h3 at t3 F3
  have k4:(aE (ag ay (au aS (ah (aa 0) (ah (ae (.int 3)) af))) (ae (.int 0)))) [some (.ref L),some (.ref K),some (.fl odd),some (.fl (W.map AV.str)),some (.int kd),none] h1=.ok (decide (d3=0)) h3:=by
   generalize aS=G at *;have:((d3:Int)=0)=(d3=0):=by simp
   simp[t3,this]
  obtain⟨x,h4,nx,F4,e4⟩:=M8 F3 (some (.ref K)) (some (.fl odd)) (some (.fl (W.map AV.str))) (some (.int kd));obtain⟨i,N2,hi,t2,F2⟩:=F3.take 6 'd' 'd';have t2:aS [.ref L,.int 6] h3=.ok (.int i) (h3.set L (.lst [.int N2])):=t2;have ev:(six.map AV.str)[i]?=some (.str six[i]):=by rw[Pr,O6 (by exact hi)];rfl
  have ix:=pR ev (h3.set L (.lst [.int N2]));have sx:six.map AV.str=[.str "a",.str "ab",.str "b",.str "abcdefgh",.str "zz",.str "q"]:=rfl;rw[sx] at ix;have n6:=M5 _ (Qz (show i<six.length from hi))
  by_cases q3:d3=0
  ·rw[Pf q3] at k4
   refine w8 (P:=PR PP) k4 (e2:=[some (.ref L),some (.ref K),some (.fl odd),some (.fl (W.map AV.str)),some (.int kd),some (.str lowN)]) (h2:=h3) (v:=.str x) (h3:=h4) rfl ?_ ?_
   ·generalize W.map AV.str=Z at *
    show ((_:SE) _ _).go _ _=_
    rw[e4];rfl
   ·exact⟨_,_,rfl,ofP _ _ F4 (.inr ⟨_,rfl,nx⟩)⟩
  ·rw[O9 q3] at k4
   refine cD (P:=PR PP) k4 (d8 (v:=.str six[i]) (h':=h3.set L (.lst [.int N2])) ?_ ?_)
   ·generalize h3.set L (.lst [.int N2])=h2,aS=G,W.map AV.str=Z,AV.str six[i]=SI at *;simp[t2,ix,-aj]
   ·exact⟨_,_,rfl,ofP _ _ F2 (.inr ⟨_,rfl,n6⟩)⟩
 rw[Bool.not_eq_true] at z1;rw[z1] at k3;refine cD k3 ?_
 have w0:0<W.length:=by
  cases W with
  |nil=>simp at z1
  |cons x r=>simp
 obtain⟨i,N2,hi,t2,F2⟩:=F1.take W.length w0 (OW wl 'd');have ev:(W.map AV.str)[i]?=some (.str W[i]):=by rw[Pr,O6 hi];rfl
 have ix:=pR ev (h1.set L (.lst [.int N2]));have ln:aI [.fl (W.map AV.str)] h1=.ok (.int W.length) h1:=by
  show Out.ok (AV.int (W.map AV.str).length) h1=_
  rw[O2]
 refine d8 (v:=.str W[i]) (h':=h1.set L (.lst [.int N2])) ?_ (ofP _ _ F2 (.inr ⟨_,rfl,wm _ (Qz hi)⟩))
 generalize h1.set L (.lst [.int N2])=h2,aS=G,W.map AV.str=Z,(W.length:Int)=WL,AV.str W[i]=SI at *;simp[ln,t2,ix,-aj,-aI]
abbrev iQ(D:Nat):YF:=[.str "",.str "A",.str "abcdefghi",.str "a1",.str "a ",.non,.int 7,.bl true,.fl [.str "a"],.tup [.str "a"],.ref D]
abbrev iR(D:Nat):List gB:=[.inl (.str ""),.inl (.str "A"),.inl (.str "abcdefghi"),.inl (.str "a1"),.inl (.str "a "),.inl .none,.inl (.int 7),.inl (.bool true),.inl (.list [.str "a"]),.inl (.tuple [.str "a"]),.inr D]
def M9(e:h[D]?=some (.dct false [])):gi h (iQ D)=some (iR D):=by
 have t:bf 8 h (.ref D)=none:=by
  show (match h[D]? with|some (.lst xs)=>(bq (bf 7 h) xs).map PyData.list|_=>none)=_
  rw[e]
 have d:gC h (.ref D)=some (.inr D):=by
  unfold gC;rw[t];dsimp only;rw[e]
 have c:∀ {v:AV} {dd:PyData},bf 8 h v=some dd->gC h v=some (.inl dd):=λ{v dd} q=>by unfold gC;rw[q]
 simp only[gi,d,c (v:=.str "") rfl,c (v:=.str "A") rfl,c (v:=.str "abcdefghi") rfl,c (v:=.str "a1") rfl,c (v:=.str "a ") rfl,c (v:=.non) rfl,c (v:=.int 7) rfl,c (v:=.bl true) rfl,c (v:=.fl [.str "a"]) rfl,c (v:=.tup [.str "a"]) rfl]
def mG{t:gB}(e:h[D]?=some (.dct false []))(ev:gC h v=some t)(c:(iR D).all (jO t)=true):dQ v (.fl (iQ D)) h=.ok (.bl ((iR D).any λe=>bS e t)) h:=by
 show (match gC h v,gi h (iQ D) with|some t,some ts=>if ts.all (jO t)=true then Out.ok (AV.bl (ts.any λe=>bS e t)) h else .bad|_,_=>.bad)=_
 rw[ev,M9 e];dsimp only;rw[OX c]
def BJ(e:h[D]?=some (.dct false []))(n:v∈iQ D):gj [v] h=.ok (.bl false) h:=by
 simp only[Pb,QA,Su] at n
 rcases n with rfl|rfl|rfl|rfl|rfl|rfl|rfl|rfl|rfl|rfl|rfl
 ·exact pQ ∅ ∅ h
 ·exact pQ ∅ ∅ h
 ·exact pQ ∅ ∅ h
 ·exact pQ ∅ ∅ h
 ·exact pQ ∅ ∅ h
 ·exact nM rfl 'd'
 ·exact nM rfl 'd'
 ·exact nM rfl 'd'
 ·exact nM rfl 'd'
 ·exact nM rfl 'd'
 ·exact nM (n := "dict") (by simp[e]) 'd'
def xu(e:h[D]?=some (.dct false []))(n:Nm (iQ D) v):∃ b,dQ v (.fl (iQ D)) h=.ok (.bl b) h/\(b=false->∃ x,v=.str x/\bt x=true)/\(b=true->v∈iQ D):=by
 have c:∀ {v:AV} {dd:PyData},bf 8 h v=some dd->gC h v=some (.inl dd):=λ{v dd} q=>by unfold gC;rw[q]
 have al:∀ d:PyData,(iR D).all (jO (.inl d))=true:=λd=>by simp[jO]
 rcases n with n|⟨x,rfl,hx⟩
 ·refine⟨true,?_,nofun,λ_=>n⟩
  simp only[Pb,QA,Su] at n
  have fin:∀ {v:AV} {d:PyData},bf 8 h v=some d->((iR D).any λe=>bS e (.inl d))=true->dQ v (.fl (iQ D)) h=.ok (.bl true) h:=λ{v d} q1 q2=>by rw[mG e (c q1) (al d),q2]
  rcases n with rfl|rfl|rfl|rfl|rfl|rfl|rfl|rfl|rfl|rfl|rfl
  ·exact fin rfl (by simp[bS,PyData.eqv])
  ·exact fin rfl (by simp[bS,PyData.eqv])
  ·exact fin rfl (by simp[bS,PyData.eqv])
  ·exact fin rfl (by simp[bS,PyData.eqv])
  ·exact fin rfl (by simp[bS,PyData.eqv])
  ·exact fin rfl (by simp[bS,PyData.eqv])
  ·exact fin rfl (by simp[bS,PyData.eqv])
  ·exact fin rfl (by simp[bS,PyData.eqv])
  ·exact fin rfl (by simp[bS,PyData.eqv,PyData.eqvAll])
  ·exact fin rfl (by simp[bS,PyData.eqv,PyData.eqvAll])
  ·have t:bf 8 h (.ref D)=none:=by
    show (match h[D]? with|some (.lst xs)=>(bq (bf 7 h) xs).map PyData.list|_=>none)=_
    rw[e]
   have d:gC h (.ref D)=some (.inr D):=by
    unfold gC;rw[t];dsimp only;rw[e]
   rw[mG e d (by simp[jO])];simp[bS]
 ·have nx:∀ y:Str,bt y=false -> ¬ y=x:=λy a b=>by rw[b,hx] at a;cases a
  refine⟨_,mG e (c (v:=.str x) rfl) (al _),λ_=>⟨x,rfl,hx⟩,λq=>?_⟩
  simp[bS,PyData.eqv,nx "" ∅,nx "A" ∅,nx "abcdefghi" ∅,nx "a1" ∅,nx "a " ∅] at q
end
def gt(kx:ZH)(z:Str):Str:=((lk kx z).map (·.2)).getD ""
def ji{z:Str}{v:Nat×Str}(l:lk kx z=some v):gt kx z=v.2:=by unfold gt;rw[l];rfl
def xw(e:h[K]?=some (.dct false (kx.map (kG gS))))(z:Str):fF K (.str z) (.str "") h=.ok (.str (gt kx z)) h:=by
 have k1:dX false (.str z)=true:=rfl;simp only[fF,e,k1,Qd,jh]
 unfold gt
 cases lk kx z<;>rfl
def sL(e:h[K]?=some (.dct false (kx.map (kG gS))))(z:Str):cU (.str z) (.ref K) h=.ok (.bl (lk kx z).isNone) h:=by
 simp only[cU,kr,e,dX,keyOf?,jh]
 cases lk kx z<;>rfl
def Gv(L:Nat)(h:AH)(kx:ZH)(F:Out AV):Prop :=
 ∃ (deed:AV) (due:Str) (pl:AV) (h':AH),F=.ok (.tup [deed,.str due,pl]) h'/\Fr L h h'/\(due="" -> ∃ (x y:Str) (c:Nat) (k:AV) (r:YF),pl=.str y/\deed=.tup (k :: .str x::r)/\bt x=true/\Gd kx deed x (some y) c/\c<=240000/\y.length<=1000)/\(¬ due="" -> ∀ r,Rw (h' ++ r) kx deed due)
def Na(a b:Str)(k:Bool)(h:AH):(bp [.bl k] h).bind (λv h1=>aj (.fl [.str a,.str b]) v h1)=.ok (.str (if k=true then b else a)) h:=by
 cases k<;>rfl
def kP{a b:Str}{k:Bool}{s:SE}(e:s en h=.ok (.bl k) h):ag aj (aJ (ah (ae (.str a)) (ah (ae (.str b)) af))) (au bp (ah s af)) en h=.ok (.str (if k=true then b else a)) h:=by
 have a0:atI [AV.str a,.str b] 0=some (.str a):=rfl;have a1:atI [AV.str a,.str b] 1=some (.str b):=rfl
 cases k<;>simp[e,a0,a1]
def mH(pl:AV):Prop:=∃ y,pl=.str y/\bN y=true/\y.length<=30
def Nb(px:bN x=true):Builtin.Str.occurrences x "\t" 0 x.length 1=[]:=by
 have t9:(Str.ofString "\t")=⟨#[9]⟩:=by decide +kernel
 have hj:∀ j:Nat,x.cps.toList[j]? ≠ some 9:=λj e=>by
  have:=Px.mp px 9 (Pm e);exact absurd this 'd'
 have go:∀ (n i:Nat) (st:Array Nat×Nat),(forIn (List.range' i n) st (StrLaws.occBody x ⟨#[9]⟩ x.length 1)).run.fst=st.1:=by
  intro n;induction n with
  |zero=>intro i st;simp
  |succ n ih =>
   intro i st;rw[List.range'_succ,SO];unfold StrLaws.occBody
   rw[O0 (by
    rintro⟨⟨_,z⟩,w⟩
    have hi:i<x.length:=z;rw[vP x 9 i hi] at w;exact hj i (by simpa using w))]
   exact ih (i+1) (st.1,st.2)
 show Builtin.Str.occurrences x (Str.ofString "\t") 0 x.length 1=[]
 rw[t9,StrLaws.occ_eq,go]
def j8 {a:Str} {b:Bool} (h:¬ (if b=true then a else("" : Str))=""):b=true:=by
 cases b with
 |true=>rfl
 |false=>exact absurd (O0 nofun) h
def Nc {pl:AV} (hp:mH pl\/pl∈[AV.non,.int 7,.str "a\t",.fl [.str "a"],.bl true,.str "\t"]) (o0 o1 o2 o3 o4 o5:Option AV) :
  ∃ k,(fz (jy (fC "str" (aa 6))) (ag qB (ae (.str "\t")) (aa 6))) [o0,o1,o2,o3,o4,o5,some pl] h=.ok (.bl k) h/\(k=false->mH pl)/\(k=true->∀ hh,iI [pl] hh=.ok (.bl false) hh):=by
 have st:∀ y:Str,(fz (jy (fC "str" (aa 6))) (ag qB (ae (.str "\t")) (aa 6))) [o0,o1,o2,o3,o4,o5,some (.str y)] h=.ok (.bl (!(Builtin.Str.occurrences y "\t" 0 y.length 1).isEmpty)) h:=λy=>by
  simp[h9]
 rcases hp with⟨y,rfl,a,b⟩|hp
 ·exact⟨_,st y,λ_=>⟨y,rfl,a,b⟩,λk=>by rw[Nb a] at k;cases k⟩
 ·simp only[Pb,QA,Su] at hp
  rcases hp with rfl|rfl|rfl|rfl|rfl|rfl
  ·exact⟨true,by simp[h9],nofun,λ_ hh=>sI rfl 'd'⟩
  ·exact⟨true,by simp[h9],nofun,λ_ hh=>sI rfl 'd'⟩
  ·have:(!(Builtin.Str.occurrences "a\t" "\t" 0 ("a\t" : Str).length 1).isEmpty)=true:=by decide +kernel
   exact⟨true,by rw[st,this],nofun,λ_ hh=>by rw[rN _ hh 'd'];rfl⟩
  ·exact⟨true,by simp[h9],nofun,λ_ hh=>sI rfl 'd'⟩
  ·exact⟨true,by simp[h9],nofun,λ_ hh=>sI rfl 'd'⟩
  ·have:(!(Builtin.Str.occurrences "\t" "\t" 0 ("\t" : Str).length 1).isEmpty)=true:=by decide +kernel
   exact⟨true,by rw[st,this],nofun,λ_ hh=>by rw[rN _ hh 'd'];rfl⟩
def hW:YF:=[.str "",.str "A",.str "none"]
def sM(n:Nm hW v):∃ z,v=.str z/\z.length<=8:=by
 rcases n with n|⟨x,rfl,hx⟩
 ·simp only[hW,Pb,QA,Su] at n
  rcases n with rfl|rfl|rfl
  ·exact⟨_,rfl,by decide⟩
  ·exact⟨_,rfl,by decide⟩
  ·exact⟨_,rfl,by decide⟩
 ·exact⟨x,rfl,sG hx⟩
def BK{a b:SE}{x y:Bool}(ha:a en h=.ok (.bl x) h)(hb:b en h=.ok (.bl y) h):fz a b en h=.ok (.bl (x || y)) h:=by
 cases x<;>simp[ha,hb]
def pU{a b c:SE}{x y z:AV}(ha:a en h=.ok x h)(hb:b en h=.ok y h)(hc:c en h=.ok z h):aN (ah a (ah b (ah c af))) en h=.ok (.tup [x,y,z]) h:=by
 simp[ha,hb,hc]
def Nd(e:h[K]?=some (.dct false (kx.map (kG gS))))(eL:∃ N:Int,h[L]?=some (.lst [.int N]))(KL:K≠L)(ct:kx.length<=50)(nm:∀ e∈kx,bt e.1=true/\e.2.2.length<=300):Gv L h kx (nF [.ref L,.ref K] h):=by
 have lK:=bT e;obtain⟨N0,eN0⟩:=eL;have lL:=bT eN0;obtain⟨D,eD⟩:∃ D,D=h.length:=⟨_,rfl⟩
 obtain⟨h0,eh0⟩:∃ h0,h0=h++[AO.dct false []]:=⟨_,rfl⟩
 have F0:Fr L h h0:=by rw[eh0];exact(⟨λ_ _ _=>rfl,OV _,N0,eN0⟩:Fr L h h).app _
 have D0:h0[D]?=some (.dct false []):=by rw[eh0,eD];simp
 have n0:h0.length=D+1:=by rw[eh0,Pw,eD];rfl
 have e0:=(F0.fr K lK KL).trans e;have nm1:∀ e∈kx,bt e.1=true:=λe he=>(nm e he).1
 obtain⟨v,h1,t1,F1,n1⟩:=pT e0 F0.ro KL ct nm1 (odd:=iQ D) (show 0<11 by decide) (show 11<=20 by decide);obtain⟨k3,N2,hk3,t2,F2⟩:=(⟨λ_ _ _=>rfl,OV _,F1.ro⟩:Fr L h1 h1).take 3 'd' 'd';have t2:aS [.ref L,.int 3] h1=.ok (.int k3) (h1.set L (.lst [.int N2])):=t2;obtain⟨h2,eh2⟩:∃ h2,h2=h1.set L (.lst [.int N2]):=⟨_,rfl⟩
 rw[<- eh2] at t2 F2;have F02:=F0.trans (F1.trans F2)
 have F12:=F1.trans F2;have e2:=(F02.fr K lK KL).trans e;have D2:=(F12.fr D ⋯ ⋯).trans D0;obtain⟨PP,ePP⟩:∃ PP:OutS->Prop,PP=λo=>Gv L h kx (eB o):=⟨_,rfl⟩
 have toP:∀ o,PP o->Gv L h kx (eB o):=λo z=>by rw[ePP] at z;exact z
 have ofP:∀ o,Gv L h kx (eB o)->PP o:=λo z=>by rw[ePP];exact z
 clear ePP;refine mE (P:=Gv L h kx) rfl (toP _ ?_)
 have r1:∀ en:En,aJ (ah (ae (.str "")) (ah (ae (.str "A")) (ah (ae (.str "abcdefghi")) (ah (ae (.str "a1")) (ah (ae (.str "a ")) (ah (ae .non) (ah (ae (.int 7)) (ah (ae (.bl true)) (ah (aJ (ah (ae (.str "a")) af)) (ah (aN (ah (ae (.str "a")) af)) (ah (lC false) af))))))))))) en h=.ok (.fl (iQ D)) h0:=λen=>by
  rw[eh0,eD];simp
 refine aU (r1 _) ?_
 obtain⟨O,eO⟩:∃ O,O=AV.fl (iQ D):=⟨_,rfl⟩
 rw[<- eO] at t1 ⊢;refine aU (v:=v) (h2:=h1) ?_ ?_
 ·exact t1
 have c3:(aE (ag ay (au aS (ah (aa 0) (ah (ae (.int 3)) af))) (ae (.int 0)))) [some (.ref L),some (.ref K),some O,some v,none,none,none] h1=.ok (decide (k3=0)) h2:=by
  generalize aS=G at *;by_cases z:k3=0
  ·subst z;simp[t2]
  ·have:¬ (k3:Int)=0:=by lia
   simp[t2,z,this]
 obtain⟨b2,i2,j2,_⟩:=xu D2 n1;rw[<- eO] at i2;by_cases z3:k3=0
 ·rw[Pf z3] at c3
  obtain⟨v2,h3,t3,F3,n3⟩:=pT e2 F2.ro KL ct nm1 (odd:=hW) 'd' 'd';obtain⟨z,rfl,lz⟩:=sM n3;have F03:=F02.trans F3;have e3:=(F03.fr K lK KL).trans e;have D3:=((F12.trans F3).fr D ⋯ ⋯).trans D0;obtain⟨b,ib,jb,kb⟩:=xu D3 n1;rw[<- eO] at ib;have ni:=sL e3 z
  have gk:=xw e3 z;have du:=kP (a := "") (b := "NoName") (BK (a:=ag dQ (aa 3) (aa 2)) (b:=ag cU (aa 4) (aa 1)) (en:=[some (.ref L),some (.ref K),some O,some v,some (.str z),none,none]) (h:=h3) (x:=b) (y:=(lk kx z).isNone) (by simp[ib]) (by simp[ni,-cU]));refine iP c3 (w:=.rt (.tup [.tup [.str "copy_of",v,.str z],.str (if (b || (lk kx z).isNone)=true then "NoName" else ""),.str (gt kx z)]) h3) ?_ ⟨_,_,rfl⟩ (ofP _ ⟨_,_,_,h3,rfl,F03,λhd=>?_,λhd r=>?_⟩)
  ·refine aU (P:=λo=>o=_) (v:=.str z) (h2:=h3) ?_ (aU (P:=λo=>o=_) du ?_)
   ·have t3:fH [.ref L,.ref K,.fl [.str "",.str "A",.str "none"]] h2=.ok (.str z) h3:=t3
    exact t3
   ·have sg:fG (aa 1) (aa 4) (ae (.str "")) [some (.ref L),some (.ref K),some O,some v,some (.str z),some (.str (if (b || (lk kx z).isNone)=true then "NoName" else "")),none] h3=.ok (.str (gt kx z)) h3:=by
     simp[fG,e3,gk]
    have tt:aN (ah (ae (.str "copy_of")) (ah (aa 3) (ah (aa 4) af))) [some (.ref L),some (.ref K),some O,some v,some (.str z),some (.str (if (b || (lk kx z).isNone)=true then "NoName" else "")),none] h3=.ok (.tup [.str "copy_of",v,.str z]) h3:=pU rfl rfl rfl;have:=pU (b:=aa 5) tt rfl sg;show ao _ _ _=_
    unfold ao;exact(congrArg (λo=>Out.go o _ _) this)
  ·cases hb:b with
   |true=>rw[hb,Bool.true_or,OX rfl] at hd;exact absurd hd ∅
   |false =>
    obtain⟨x,rfl,hx⟩:=jb hb
    cases hl:lk kx z with
    |none=>rw[hb,hl] at hd;exact absurd hd ∅
    |some w =>
     refine⟨x,w.2,0,_,_,by rw[ji hl],rfl,hx,.copy hx hl,by lia,?_⟩
     have:w.2.length<=300:=(nm _ (cx hl)).2
     lia
  ·have q:=j8 hd
   rw[OX q]
   cases hb:b with
   |true=>exact MY (BJ (by rw[O3 (bT D3)];exact D3) (kb hb))
   |false =>
    rw[hb,Bool.false_or] at q;obtain⟨x,rfl,hx⟩:=jb hb
    exact MZ hx (Qc.mp q) ⋯
 rw[O9 z3] at c3;refine cD c3 ?_
 obtain⟨N3,e3L⟩:=F2.ro;obtain⟨y,N4,fp,py,ly⟩:=L7 30 'd' e3L;have fp:nE [.ref L,.int 30] h2=.ok (.str y) (h2.set L (.lst [.int N4])):=fp;have F4:=(⟨λ_ _ _=>rfl,OV _,N3,e3L⟩:Fr L h2 h2).set N4;obtain⟨h4,eh4⟩:∃ h4,h4=h2.set L (.lst [.int N4]):=⟨_,rfl⟩
 rw[<- eh4] at fp F4;refine aU (v:=.str y) (h2:=h4) ?_ ?_
 ·exact fp
 obtain⟨k10,N5,hk10,t5,F5⟩:=F4.take 10 'd' 'd';have t5:aS [.ref L,.int 10] h4=.ok (.int k10) (h4.set L (.lst [.int N5])):=t5;obtain⟨h5,eh5⟩:∃ h5,h5=h4.set L (.lst [.int N5]):=⟨_,rfl⟩
 rw[<- eh5] at t5 F5;obtain⟨k6,N6,hk6,t6,F6⟩:=F5.take 6 'd' 'd'
 have t6:aS [.ref L,.int 6] h5=.ok (.int k6) (h5.set L (.lst [.int N6])):=t6;obtain⟨h6,eh6⟩:∃ h6,h6=h5.set L (.lst [.int N6]):=⟨_,rfl⟩
 rw[<- eh6] at t6 F6;have c10:(aE (ag ay (au aS (ah (aa 0) (ah (ae (.int 10)) af))) (ae (.int 0)))) [some (.ref L),some (.ref K),some O,some v,none,none,some (.str y)] h4=.ok (decide (k10=0)) h5:=by
  generalize aS=G at *;by_cases z:k10=0
  ·subst z;simp[t5]
  ·have:¬ (k10:Int)=0:=by lia
   simp[t5,z,this]
 obtain⟨pl,h7,s7,F7,hp⟩:∃ pl h7,aG (aE (ag ay (au aS (ah (aa 0) (ah (ae (.int 10)) af))) (ae (.int 0)))) (ar 6 (ag aj (aJ (ah (ae .non) (ah (ae (.int 7)) (ah (ae (.str "a\t")) (ah (aJ (ah (ae (.str "a")) af)) (ah (ae (.bl true)) (ah (ae (.str "\t")) af))))))) (au aS (ah (aa 0) (ah (ae (.int 6)) af))))) aH [some (.ref L),some (.ref K),some O,some v,none,none,some (.str y)] h4=.nx [some (.ref L),some (.ref K),some O,some v,none,none,some pl] h7/\Fr L h2 h7/\(mH pl\/pl∈[AV.non,.int 7,.str "a\t",.fl [.str "a"],.bl true,.str "\t"]):=by
  by_cases z:k10=0
  ·rw[Pf z] at c10
   have ev:([AV.non,.int 7,.str "a\t",.fl [.str "a"],.bl true,.str "\t"]:YF)[k6]?=some ([AV.non,.int 7,.str "a\t",.fl [.str "a"],.bl true,.str "\t"]:YF)[k6]:=O6 hk6;have ix:=pR ev h6;have mm:([AV.non,.int 7,.str "a\t",.fl [.str "a"],.bl true,.str "\t"]:YF)[k6]∈([AV.non,.int 7,.str "a\t",.fl [.str "a"],.bl true,.str "\t"]:YF):=Qz _;generalize ([AV.non,.int 7,.str "a\t",.fl [.str "a"],.bl true,.str "\t"]:YF)[k6]=pl at ix mm
   refine⟨pl,h6,?_,F6,.inr mm⟩
   generalize aS=G,aE (ag ay (au aS (ah (aa 0) (ah (ae (.int 10)) af))) (ae (.int 0)))=C at *;simp[c10,t6,ix,-aj]
  ·rw[O9 z] at c10
   refine⟨.str y,h5,?_,F5,.inl ⟨y,rfl,py,ly⟩⟩
   generalize aE (ag ay (au aS (ah (aa 0) (ah (ae (.int 10)) af))) (ae (.int 0)))=C at *;simp[c10]
 refine cM s7 ?_
 obtain⟨kb,dk,pk,pn⟩:=Nc (h:=h7) hp (some (.ref L)) (some (.ref K)) (some O) (some v) none none;have du:=kP (a := "") (b := "NoText") dk;refine aU du ?_
 have D7:=((F12.trans F7).fr D ⋯ ⋯).trans D0;obtain⟨b,ib,jb,kb7⟩:=xu D7 n1;rw[<- eO] at ib;have c7:∀ w,(aE (ag dQ (aa 3) (aa 2))) [some (.ref L),some (.ref K),some O,some v,none,w,some pl] h7=.ok b h7:=λw=>by simp[ib]
 obtain⟨due,edue⟩:∃ due:Str,due=if b=true then("NoName" : Str) else if kb=true then("NoText" : Str) else("" : Str):=⟨_,rfl⟩
 refine cM (e2:=[some (.ref L),some (.ref K),some O,some v,none,some (.str due),some pl]) (h2:=h7) ?_ ?_
 ·have c8:=c7 (some (.str (if kb=true then "NoText" else "")))
  show aG (aE (ag dQ (aa 3) (aa 2))) (ar 5 (ae (.str "NoName"))) aH [some (.ref L),some (.ref K),some O,some v,none,some (.str (if kb=true then "NoText" else "")),some pl] h7=_
  generalize aE (ag dQ (aa 3) (aa 2))=C at *;rw[edue]
  cases b<;>simp[c8]
 refine d8 (v:=.tup [.tup [.str "give",v,pl],.str due,pl]) (h':=h7) ?_ (ofP _ ⟨_,_,_,h7,rfl,F02.trans F7,λhd=>?_,λhd r=>?_⟩)
 ·simp
 ·rw[edue] at hd
  cases hb:b with
  |true=>rw[hb,OX rfl] at hd;exact absurd hd ∅
  |false =>
   cases hkb:kb with
   |true=>rw[hb,hkb] at hd;exact absurd hd ∅
   |false =>
    obtain⟨x,rfl,hx⟩:=jb hb;obtain⟨y',rfl,py',ly'⟩:=pk hkb;exact⟨x,y',2*y'.length,_,_,rfl,rfl,hx,.give hx py' ⋯,by lia,by lia⟩
 ·rw[edue] at hd ⊢
  cases hb:b with
  |true=>rw[OX rfl];exact MW (BJ (by rw[O3 (bT D7)];exact D7) (kb7 hb))
  |false =>
   rw[hb,O0 nofun] at hd;have q:=j8 hd
   rw[O0 nofun,OX q];obtain⟨x,rfl,hx⟩:=jb hb
   exact MX hx (pn q _)
def xx(i:Int)(h:AH):fB [.int 0,.int i] h=.ok (.int (i.toNat:Nat)) h:=by
 have:fB [.int 0,.int i] h=.ok (.int (if i > 0 then i else 0)) h:=rfl
 rw[this];congr 2
 split<;>lia
def Nf(k:Nat)(h:AH):mT [.int 3,.int k] h=.ok (.int (min 3 k:Nat)) h:=by
 have:mT [.int 3,.int k] h=.ok (.int (if (k:Int)<3 then(k:Int) else 3)) h:=rfl
 rw[this];congr 2
 split<;>lia
def sN{a b:SE}{u:Str}(ha:a en h=.ok (.str u) h)(hb:b en h=.ok (.str w) h):fZ a b en h=.ok (.str (if u="" then w else u)) h:=by
 by_cases q:u=""
 ·subst q
  have:(("" : Str).length:Int)=0:=rfl
  simp[ha,hb,this]
 ·have:¬ u.length=0:=λz=>q (cw (by rw[cG] at z;rw[P5.mp z];rfl))
  simp[ha,q,this]
def BM(y:Str)(c:Nat)(h:AH):∃ z,dP (.str y) (some (c:Int)) none h=.ok (.str z) h/\z.length<=y.length/\(c<=y.length->z=dz y c):=by
 refine⟨bL y (some (c:Int)) none,rfl,?_,λhc=>?_⟩
 ·simp[bL,Str.length];lia
 ·have:=A9 hc h
  have e:dP (.str y) (some (c:Int)) none h=.ok (.str (bL y (some (c:Int)) none)) h:=rfl;rw[e] at this;injection this with a _
  injection a
def sO(h:AH)(hl:x.length+y.length<=5000):az (.str x) (.str y) h=.ok (.str (x++y)) h:=by
 have:x.length+y.length<=sizeLine:=OW hl 'd'
 simp only[az,this,Qd]
def BN(nm:∀ e∈kx,bt e.1=true/\e.2.2.length<=300)(z:Str):(gt kx z).length<=300:=by
 unfold gt
 cases l:lk kx z with
 |none=>exact Po _
 |some v=>exact(nm _ (cx l)).2
def none_of(h:o.isNone=false):∃ v,o=some v:=by
 cases o with
 |none=>cases h
 |some v=>exact⟨v,rfl⟩
def BO {b:Bool} (h:(if b=true then("NoName" : Str) else("" : Str))=""):b=false:=by
 cases b with
 |true=>exact absurd h ∅
 |false=>rfl
def sP {a:Str} {b:Bool} (n:¬ a="") (h:(if b=true then a else("" : Str))=""):b=false:=by
 cases b with
 |true=>exact absurd h n
 |false=>rfl
def sQ {u:Str} (h:(if u="" then w else u)=""):u="" /\ w="" := by
 by_cases q:u=""
 ·rw[OX q] at h;exact⟨q,h⟩
 ·rw[O0 q] at h;exact absurd h q
abbrev pV(L K:Nat)(kd:Int)(x z y1 y2 g b:Str)(a e:Int)(o11 o12:Option AV):En:=[some (.ref L),some (.ref K),some (.int kd),some (.str x),some (.str z),some (.str y1),some (.str y2),some (.str g),some (.str b),some (.int a),some (.int e),o11,o12]
def Ng(e:h[K]?=some (.dct false (kx.map (kG gS))))(eL:∃ N:Int,h[L]?=some (.lst [.int N]))(KL:K≠L)(ct:kx.length<=50)(nm:∀ e∈kx,bt e.1=true/\e.2.2.length<=300):Gv L h kx (nG [.ref L,.ref K] h):=by
 have lK:=bT e;have nm1:∀ e∈kx,bt e.1=true:=λe he=>(nm e he).1
 have F0:Fr L h h:=⟨λ_ _ _=>rfl,OV _,eL⟩
 obtain⟨kd,N1,hk,t1,F1⟩:=F0.take 4 'd' 'd';have t1:aS [.ref L,.int 4] h=.ok (.int kd) (h.set L (.lst [.int N1])):=t1;obtain⟨h1,eh1⟩:∃ h1,h1=h.set L (.lst [.int N1]):=⟨_,rfl⟩
 rw[<- eh1] at t1 F1;obtain⟨v1,h2,t2,F2,n2⟩:=pT ((F1.fr K lK KL).trans e) F1.ro KL ct nm1 (odd:=hW) 'd' 'd'
 obtain⟨x,rfl,lx⟩:=sM n2;have F02:=F1.trans F2;obtain⟨v2,h3,t3,F3,n3⟩:=pT ((F02.fr K lK KL).trans e) F2.ro KL ct nm1 (odd:=hW) 'd' 'd';obtain⟨z,rfl,lz⟩:=sM n3;have t2:fH [.ref L,.ref K,.fl [.str "",.str "A",.str "none"]] h1=.ok (.str x) h2:=t2;have t3:fH [.ref L,.ref K,.fl [.str "",.str "A",.str "none"]] h2=.ok (.str z) h3:=t3;have F03:=F02.trans F3;have e3:=(F03.fr K lK KL).trans e;have g1:=xw e3 x;have g2:=xw e3 z;have ni1:=sL e3 x;have ni2:=sL e3 z;have l1:=BN nm x;have l2:=BN nm z;obtain⟨y1,ey1⟩:∃ y1,y1=gt kx x:=⟨_,rfl⟩
 obtain⟨y2,ey2⟩:∃ y2,y2=gt kx z:=⟨_,rfl⟩
 rw[<- ey1] at g1 l1;rw[<- ey2] at g2 l2;have len3:∀ hx,aI [.str y1] hx=.ok (.int y1.length) hx:=λ_=>rfl
 have ad3:∀ hx,az (.int y1.length) (.int 3) hx=.ok (.int ((y1.length+3:Nat):Int)) hx:=λhx=>w4 rfl hx
 obtain⟨a,N4,ha,t4,F4⟩:=F03.take (y1.length+3) ⋯ (OW (m:=303) ⋯ 'd');obtain⟨h4,eh4⟩:∃ h4,h4=h3.set L (.lst [.int N4]):=⟨_,rfl⟩
 rw[<- eh4] at t4 F4;obtain⟨b,N5,hb,t5,F5⟩:=F4.take (y1.length+3) ⋯ (OW (m:=303) ⋯ 'd')
 obtain⟨h5,eh5⟩:∃ h5,h5=h4.set L (.lst [.int N5]):=⟨_,rfl⟩
 rw[<- eh5] at t5 F5;obtain⟨gn,egn⟩:∃ gn:Str,gn=if (lk kx x).isNone=true then("NoName" : Str) else("" : Str):=⟨_,rfl⟩
 obtain⟨bo,ebo⟩:∃ bo:Str,bo=if ((lk kx x).isNone || (lk kx z).isNone)=true then("NoName" : Str) else("" : Str):=⟨_,rfl⟩
 have bo_ok:bo="" -> ∃ v w,lk kx x=some v/\lk kx z=some w:=λq=>by
  rw[ebo] at q;have:=BO q
  rw[Bool.or_eq_false_iff] at this;obtain⟨v,ev⟩:=none_of this.1
  obtain⟨w,ew⟩:=none_of this.2;exact⟨v,w,ev,ew⟩
 have gn_ok:gn="" -> ∃ v,lk kx x=some v:=λq=>by
  rw[egn] at q;exact none_of (BO q)
 obtain⟨PP,ePP⟩:∃ PP:OutS->Prop,PP=λo=>Gv L h kx (eB o):=⟨_,rfl⟩
 have toP:∀ o,PP o->Gv L h kx (eB o):=λo z=>by rw[ePP] at z;exact z
 have ofP:∀ o,Gv L h kx (eB o)->PP o:=λo z=>by rw[ePP];exact z
 clear ePP;refine mE (P:=Gv L h kx) rfl (toP _ ?_)
 refine aU (v:=.int kd) (h2:=h1) ?_ ?_
 ·exact t1
 refine aU (v:=.str x) (h2:=h2) ?_ ?_
 ·exact t2
 refine aU (v:=.str z) (h2:=h3) ?_ ?_
 ·exact t3
 refine aU (v:=.str y1) (h2:=h3) ?_ ?_
 ·simp[fG,e3,g1]
 refine aU (v:=.str y2) (h2:=h3) ?_ ?_
 ·simp[fG,e3,g2]
 refine aU (v:=.str gn) (h2:=h3) ?_ ?_
 ·rw[egn]
  exact kP (by simp[ni1,-cU])
 refine aU (v:=.str bo) (h2:=h3) ?_ ?_
 ·rw[ebo]
  exact kP (BK (by simp[ni1,-cU]) (by simp[ni2,-cU]))
 refine aU (v:=.int ((a:Int)-1)) (h2:=h4) ?_ ?_
 ·have sb:bM (.int a) (.int 1) h4=.ok (.int ((a:Int)-1)) h4:=rfl
  have q1:=len3 h3;have q2:=ad3 h3;clear len3 ad3 t5;generalize aS=G,(a:Int)-1=A1,(y1.length:Int)=Y1,((y1.length+3:Nat):Int)=Y3 at *;simp[q1,q2,t4,sb,-bM,-az,-aI]
 refine aU (v:=.int ((b:Int)-1)) (h2:=h5) ?_ ?_
 ·have sb:bM (.int b) (.int 1) h5=.ok (.int ((b:Int)-1)) h5:=rfl
  have q1:=len3 h4;have q2:=ad3 h4;clear len3 ad3 t4;generalize aS=G,(b:Int)-1=B1,(a:Int)-1=A1,(y1.length:Int)=Y1,((y1.length+3:Nat):Int)=Y3 at *;simp[q1,q2,t5,sb,-bM,-az,-aI]
 have ck:∀ c:Nat,(aE (ag ay (aa 2) (ae (.int c)))) (pV L K kd x z y1 y2 gn bo ((a:Int)-1) ((b:Int)-1) none none) h5=.ok (decide (kd=c)) h5:=λc=>by
  by_cases q:kd=c
  ·subst q;simp
  ·have:¬ (kd:Int)=c:=by lia
   simp[q,this]
 have nle:∀ {s t:Str},bt x=true->True:=λ_=>trivial
 have chain:∀ (u:Option AV) (w:Option AV),fk bc bc (ae (.int 0)) (aa 9) (au aI (ah (aa 5) af)) (pV L K kd x z y1 y2 gn bo ((a:Int)-1) ((b:Int)-1) u w) h5=.ok (.bl (decide (0<=(a:Int)-1) && decide ((a:Int)-1<=y1.length))) h5:=λu w=>by
  have q:=len3 h5;generalize (y1.length:Int)=Y1,(a:Int)-1=A1 at *;by_cases z0:0<=A1<;>simp[z0,q,-aI]
 have tka:(bU y1 (a-1)).length<=300:=by rw[w6];lia
 have at1:((a:Int)-1).toNat=a-1:=by lia
 have bt1:((b:Int)-1).toNat=b-1:=by lia
 have mxa:=xx ((a:Int)-1) h5;rw[at1] at mxa;have mxb:=xx ((b:Int)-1) h5
 rw[bt1] at mxb;have cta:=A8 (x:=y1) (a:=a-1) h5
 obtain⟨da,cda,lda,oda⟩:=BM y1 (a-1) h5;obtain⟨db,cdb,ldb,odb⟩:=BM y1 (b-1) h5;by_cases k0:kd=0
 ·have ad:=sO (x:=y1) (y:=y2) h5 ⋯
  refine pS (h1:=h5) (v:=.tup [.tup [.str "join_to",.str x,.str z],.str bo,.str (y1++y2)]) (h3:=h5) ((ck 0).trans (by rw[Pf k0])) ?_ (ofP _ ⟨_,_,_,h5,rfl,F5,λhd=>?_,λhd r=>?_⟩)
  ·simp[ad,-az]
  ·obtain⟨v,w,lv,lw⟩:=bo_ok hd
   rw[ji lv] at ey1;have lv2:v.2.length<=300:=(nm _ (cx lv)).2
   rw[ji lw] at ey2;have lw2:w.2.length<=300:=(nm _ (cx lw)).2
   rw[ey1,ey2];exact⟨x,v.2++w.2,240000,_,_,rfl,rfl,nm1 _ (cx lv),.join lv lw ⋯,OV _,by rw[pN];lia⟩
  ·rw[ebo] at hd ⊢
   have q:=j8 hd;rw[OX q];exact MO q ⋯ ⋯
 refine cD (h1:=h5) ((ck 0).trans (by rw[O9 k0])) ?_
 by_cases k1:kd=1
 ·have ad:=sO (x:=bU y1 (a-1)) (y:=y2) h5 ⋯
  have ad2:=sO (x:=bU y1 (a-1)++y2) (y:=da) h5 (by rw[pN];lia)
  obtain⟨pb,epb⟩:∃ pb,pb=!(decide (0<=(a:Int)-1) && decide ((a:Int)-1<=y1.length)):=⟨_,rfl⟩
  have du:=sN (a:=aa 8) (b:=ag aj (aJ (ah (ae (.str "")) (ah (ae (.str "NoPlace")) af))) (au bp (ah (jy (fk bc bc (ae (.int 0)) (aa 9) (au aI (ah (aa 5) af)))) af))) (en:=pV L K kd x z y1 y2 gn bo ((a:Int)-1) ((b:Int)-1) none none) (h:=h5) (u:=bo) (w:=if pb=true then("NoPlace" : Str) else("" : Str)) rfl (kP (by
   have:=chain none none;rw[epb];generalize fk bc bc (ae (.int 0)) (aa 9) (au aI (ah (aa 5) af))=C at *;simp[this]))
  refine iP (h1:=h5) ((ck 1).trans (by rw[Pf k1])) (w:=.rt (.tup [.tup [.str "put_into",.str x,.int ((a:Int)-1),.str z],.str (if bo="" then(if pb=true then("NoPlace" : Str) else("" : Str)) else bo),.str (bU y1 (a-1)++y2++da)]) h5) ?_ ⟨_,_,rfl⟩ (ofP _ ⟨_,_,_,h5,rfl,F5,λhd=>?_,λhd r=>?_⟩)
  ·refine aU (P:=λo=>o=_) du ?_
   generalize ((a-1:Nat):Int)=A2,(a:Int)-1=A1,bU y1 (a-1)=R2,bU y1 (a-1)++y2=R1,bU y1 (a-1)++y2++da=R,(if bo="" then(if pb=true then("NoPlace" : Str) else("" : Str)) else bo)=DU at *;simp[mxa,cta,cda,ad,ad2,-fB,-dP,-az]
  ·obtain⟨q1,q2⟩:=sQ hd
   have q3:=sP ∅ q2;obtain⟨v,w,lv,lw⟩:=bo_ok q1;rw[epb] at q3;simp only[TY,Pu,P3] at q3
   have ea:(a:Int)-1=((a-1:Nat):Int):=by lia
   have ed:=oda ⋯;rw[ea,ed];rw[ji lv] at ey1;have lv2:v.2.length<=300:=(nm _ (cx lv)).2
   rw[ji lw] at ey2;have lw2:w.2.length<=300:=(nm _ (cx lw)).2
   have la:a-1<=v.2.length:=by rw[<- ey1];lia
   rw[ey1,ey2];exact⟨x,bU v.2 (a-1)++w.2++dz v.2 (a-1),240000,_,_,rfl,rfl,nm1 _ (cx lv),.put lv lw la ⋯,OV _,by rw[pN,pN,w6,nK];lia⟩
  ·by_cases qb:bo=""
   ·obtain⟨v,w,lv,lw⟩:=bo_ok qb
    rw[OX qb] at hd ⊢;have qp:=j8 hd
    rw[OX qp];refine MQ lv lw λu=>?_
    have u2:=u.2;rw[<- ji lv,<- ey1] at u2;rw[epb,Pf u.1,Pf u2] at qp
    cases qp
   ·rw[O0 qb]
    rw[ebo] at qb ⊢;have q:=j8 qb
    rw[OX q];exact MP q ⋯ ⋯
 refine cD (h1:=h5) ((ck 1).trans (by rw[O9 k1])) ?_
 by_cases k2:kd=2
 ·have ad:=sO (x:=bU y1 (a-1)) (y:=db) h5 ⋯
  obtain⟨pb,epb⟩:∃ pb,pb=!(decide (0<=(a:Int)-1) && (decide ((a:Int)-1<=(b:Int)-1) && decide ((b:Int)-1<=y1.length))):=⟨_,rfl⟩
  have du:=sN (a:=aa 7) (b:=ag aj (aJ (ah (ae (.str "")) (ah (ae (.str "NoPlace")) af))) (au bp (ah (jy (i8 bc bc bc (ae (.int 0)) (aa 9) (aa 10) (au aI (ah (aa 5) af)))) af))) (en:=pV L K kd x z y1 y2 gn bo ((a:Int)-1) ((b:Int)-1) none none) (h:=h5) (u:=gn) (w:=if pb=true then("NoPlace" : Str) else("" : Str)) rfl (kP (by
   have q:=len3 h5;rw[epb];generalize (y1.length:Int)=Y1,(b:Int)-1=B1,(a:Int)-1=A1 at *;by_cases z0:0<=A1
   ·by_cases z1:A1<=B1<;>simp[z0,z1,q,-aI]
   ·simp[z0]))
  refine iP (h1:=h5) ((ck 2).trans (by rw[Pf k2])) (w:=.rt (.tup [.tup [.str "take_from",.str x,.int ((a:Int)-1),.int ((b:Int)-1)],.str (if gn="" then(if pb=true then("NoPlace" : Str) else("" : Str)) else gn),.str (bU y1 (a-1)++db)]) h5) ?_ ⟨_,_,rfl⟩ (ofP _ ⟨_,_,_,h5,rfl,F5,λhd=>?_,λhd r=>?_⟩)
  ·refine aU (P:=λo=>o=_) du ?_
   generalize ((b-1:Nat):Int)=B2,(b:Int)-1=B1,((a-1:Nat):Int)=A2,(a:Int)-1=A1,bU y1 (a-1)=R2,bU y1 (a-1)++db=R1,(if gn="" then(if pb=true then("NoPlace" : Str) else("" : Str)) else gn)=DU at *;simp[mxa,cta,mxb,cdb,ad,-fB,-dP,-az]
  ·obtain⟨q1,q2⟩:=sQ hd
   have q3:=sP ∅ q2;obtain⟨v,lv⟩:=gn_ok q1;rw[epb] at q3;simp only[TY,Pu,P3] at q3
   have ea:(a:Int)-1=((a-1:Nat):Int):=by lia
   have eb:(b:Int)-1=((b-1:Nat):Int):=by lia
   have ed:=odb ⋯;rw[ea,eb,ed];rw[ji lv] at ey1;have lv2:v.2.length<=300:=(nm _ (cx lv)).2
   have la:b-1<=v.2.length:=by rw[<- ey1];lia
   rw[ey1];exact⟨x,bU v.2 (a-1)++dz v.2 (b-1),240000,_,_,rfl,rfl,nm1 _ (cx lv),.take lv ⋯ la ⋯,OV _,by rw[pN,w6,nK];lia⟩
  ·by_cases qb:gn=""
   ·obtain⟨v,lv⟩:=gn_ok qb
    rw[OX qb] at hd ⊢;have qp:=j8 hd
    rw[OX qp];refine MS lv λu=>?_
    have u2:=u.2.2;rw[<- ji lv,<- ey1] at u2;rw[epb,Pf u.1,Pf u.2.1,Pf u2] at qp
    cases qp
   ·rw[O0 qb]
    rw[egn] at qb ⊢;have q:=j8 qb
    rw[OX q];exact MR (Qc.mp q) ⋯
 refine cD (h1:=h5) ((ck 2).trans (by rw[O9 k2])) ?_
 obtain⟨i,N6,hi,t6,F6⟩:=F5.take 6 'd' 'd';have t6:aS [.ref L,.int 6] h5=.ok (.int i) (h5.set L (.lst [.int N6])):=t6;obtain⟨h6,eh6⟩:∃ h6,h6=h5.set L (.lst [.int N6]):=⟨_,rfl⟩
 rw[<- eh6] at t6 F6;obtain⟨mxn,emx,mx1,mx2,mx3⟩:∃ mxn:Nat,fB [.int 1,.int y1.length] h5=.ok (.int mxn) h5/\1<=mxn/\mxn<=300/\(1<=y1.length->mxn=y1.length):=by
  refine⟨max 1 y1.length,?_,by lia,by lia,by lia⟩
  have:fB [.int 1,.int y1.length] h5=.ok (.int (if (y1.length:Int) > 1 then(y1.length:Int) else 1)) h5:=rfl
  rw[this];congr 2
  split<;>lia
 obtain⟨Bg,eBg⟩:∃ Bg:Nat,Bg=1000000000000000000 / mxn+1:=⟨_,rfl⟩
 have Bg1:Bg<=1000000000000000001:=by rw[eBg];have:=Nat.div_le_self 1000000000000000000 mxn;lia
 have dv:cJ (.int 1000000000000000000) (.int mxn) h5=.ok (.int ((1000000000000000000 / mxn:Nat):Int)) h5:=by
  have c:(0:Int)<mxn/\(mxn:Int).natAbs<2 ^ 200:=⟨by lia,O7 (m:=300) ⋯ 'd'⟩
  show (if (0:Int)<mxn/\(mxn:Int).natAbs<2 ^ 200 then Out.ok (AV.int (1000000000000000000 / (mxn:Int))) h5 else .bad)=_
  rw[OX c];rfl
 have pw:bY (.int 10) (.int 18) h5=.ok (.int 1000000000000000000) h5:=by simp[bY]
 have ad1:az (.int ((1000000000000000000 / mxn:Nat):Int)) (.int 1) h5=.ok (.int Bg) h5:=w4 eBg.symm h5;obtain⟨mv,emv,hmv,hmB⟩:∃ mv:Int,([.int 0,.int 1,.int 2,.int 3,.int (-1),.int Bg]:YF)[i]?=some (.int mv)/\mv<=1000000000000000001/\(3<mv->mv=Bg):=by
  rcases (show i=0\/i=1\/i=2\/i=3\/i=4\/i=5 by lia) with rfl|rfl|rfl|rfl|rfl|rfl
  ·exact⟨_,rfl,by decide,λz=>absurd z 'd'⟩
  ·exact⟨_,rfl,by decide,λz=>absurd z 'd'⟩
  ·exact⟨_,rfl,by decide,λz=>absurd z 'd'⟩
  ·exact⟨_,rfl,by decide,λz=>absurd z 'd'⟩
  ·exact⟨_,rfl,by decide,λz=>absurd z 'd'⟩
  ·exact⟨_,rfl,by lia,λ_=>rfl⟩
 have ixm:=pR emv h6;refine aU (v:=.int mv) (h2:=h6) ?_ ?_
 ·have q:=len3 h5
  have ng:bH (.int 1) h5=.ok (.int (-1)) h5:=rfl;clear mxa mxb cta cda cdb chain ck;generalize aS=G,(-1:Int)=M1,(b:Int)-1=B1,(a:Int)-1=A1,(y1.length:Int)=Y1,(1000000000000000000:Int)=Q2,((1000000000000000000 / mxn:Nat):Int)=Q1 at *;simp[ng,pw,q,emx,dv,ad1,t6,ixm,-bH,-bY,-aI,-fB,-cJ,-az,-aj]
 obtain⟨p3,ep3⟩:∃ p3,p3=(decide (3<mv) && !decide (y1="")):=⟨_,rfl⟩
 have du:=sN (a:=aa 7) (b:=fZ (ag aj (aJ (ah (ae (.str "")) (ah (ae (.str "NoPlace")) af))) (au bp (ah (ag cP (aa 12) (ae (.int 0))) af))) (ag aj (aJ (ah (ae (.str "")) (ah (ae (.str "TooLong")) af))) (au bp (ah (kq (ag fy (aa 12) (ae (.int 3))) (ag eF (aa 5) (ae (.str "")))) af)))) (en:=pV L K kd x z y1 y2 gn bo ((a:Int)-1) ((b:Int)-1) none (some (.int mv))) (h:=h6) (u:=gn) rfl (sN (u:=if decide (mv<0)=true then("NoPlace" : Str) else("" : Str)) (w:=if p3=true then("TooLong" : Str) else("" : Str)) (kP 's') (kP (by
  rw[ep3];by_cases q:3<mv
  ·by_cases w:y1="" <;> simp[q,w]
  ·simp[q])))
 refine aU du ?_
 have mxm:=xx mv h6;have mnm:=Nf mv.toNat h6;have ml:oK (.str y1) (.int (min 3 mv.toNat:Nat)) h6=.ok (.str (aX y1 (min 3 mv.toNat))) h6:=by
  have c:((min 3 mv.toNat:Nat):Int).natAbs<2 ^ 40/\y1.length*((min 3 mv.toNat:Nat):Int).toNat<=1000000:=by
   refine⟨O7 (m:=3) ⋯ 'd',OW (Rm l1 (show ((min 3 mv.toNat:Nat):Int).toNat<=3 by lia)) 'd'⟩
  show (if _ then _ else _)=_
  rw[OX c];rfl
 obtain⟨DU,eDU⟩:∃ DU:Str,DU=(if gn="" then(if (if decide (mv<0)=true then("NoPlace" : Str) else("" : Str))="" then(if p3=true then("TooLong" : Str) else("" : Str)) else(if decide (mv<0)=true then("NoPlace" : Str) else("" : Str))) else gn):=⟨_,rfl⟩
 rw[<- eDU];refine d8 (v:=.tup [.tup [.str "repeat",.str x,.int mv],.str DU,.str (aX y1 (min 3 mv.toNat))]) (h':=h6) ?_ (ofP _ ⟨_,_,_,h6,rfl,F6,λhd=>?_,λhd r=>?_⟩)
 ·generalize (b:Int)-1=B1,(a:Int)-1=A1,((mv.toNat:Nat):Int)=Q2,((min 3 mv.toNat:Nat):Int)=Q1,aX y1 (min 3 mv.toNat)=R at *;simp[mxm,mnm,ml,-fB,-mT,-oK]
 ·rw[eDU] at hd
  obtain⟨q1,q2⟩:=sQ hd;obtain⟨q2,q3⟩:=sQ q2;have q2:=sP ∅ q2;have q3:=sP ∅ q3;rw[Rg] at q2;obtain⟨v,lv⟩:=gn_ok q1
  obtain⟨k,rfl⟩:∃ k:Nat,mv=k:=⟨mv.toNat,by lia⟩
  rw[ep3] at q3;rw[T8];rw[ji lv] at ey1;have nx:=nm1 _ (cx lv)
  by_cases c3:k<=3
  ·rw[show min 3 k=k by lia,ey1]
   refine⟨x,aX v.2 k,240000,_,_,rfl,rfl,nx,.rep lv (O7 (m:=3) c3 'd') ?_,OV _,?_⟩
   ·rw[<- ey1];exact OW (Rm l1 c3) 'd'
   ·rw[sC,<- ey1];exact OW (Rm l1 c3) 'd'
  ·have:y1="" := by
    rw[Pf (show (3:Int)<k by lia),Bool.true_and] at q3;simpa using q3
   rw[this,wG];obtain⟨n,y⟩:=v
   have ey:y="" := ey1.symm.trans this;subst ey;exact⟨x, "",240000,_,_,rfl,rfl,nx,.rep0 lv (O7 (m:=1000000000000000001) ⋯ 'd'),OV _,Po _⟩
 ·rw[eDU] at hd ⊢
  by_cases qb:gn=""
  ·obtain⟨v,lv⟩:=gn_ok qb
   have le:v.2.length<=300:=(nm _ (cx lv)).2;rw[OX qb] at hd ⊢;by_cases q0:mv<0
   ·rw[Pf q0,OX rfl,O0 ∅]
    exact MU lv ⋯ q0
   ·have n0:(if decide (mv<0)=true then("NoPlace" : Str) else("" : Str))="" := by rw[O9 q0];rfl
    rw[n0,OX rfl] at hd ⊢;have qp:=j8 hd
    rw[OX qp];refine MV lv ⋯ ⋯ ?_
    rw[ep3,Pu,P3,R0,Rg] at qp;have y0:¬ y1.length=0:=λz=>qp.2 (cw (by rw[cG] at z;rw[P5.mp z];rfl))
    rw[hmB qp.1,<- ji lv,<- ey1,<- mx3 ⋯,eBg];exact Ud.mpr (Nat.lt_mul_div_succ 1000000000000000000 ⋯)
  ·rw[O0 qb]
   rw[egn] at qb ⊢;have q:=j8 qb
   rw[OX q];exact MT (Qc.mp q) ⋯
def Dz(L:Nat)(h:AH)(kx:ZH)(F:Out AV):Prop :=
 ∃ (deed:AV) (due:Str) (K':Nat) (h':AH),F=.ok (.tup [deed,.str due,.ref K']) h'/\Fr L h h'/\(due="" -> ∃ (x:Str) (oy:Option Str) (c:Nat),Gd kx deed x oy c/\c<=240000/\h.length<=K'/\(∀ o:Option (Nat×Str),o.map (·.2)=oy->h'[K']?=some (.dct false ((upd kx x o).map (kG gS))))/\∀ y,oy=some y->y.length<=300)/\(¬ due="" -> Rw h' kx deed due)
def BP{kvs:List (AV×AV)}(e:h[K]?=some (.dct false kvs)):kB [.ref K] h=.ok (.ref h.length) (h++[.dct false kvs]):=by
 simp only[kB,e]
def Nh(e:h[K]?=some (.dct false (kx.map (kG gS))))(eL:∃ N:Int,h[L]?=some (.lst [.int N]))(KL:K≠L)(ct:kx.length<=50)(nm:∀ e∈kx,bt e.1=true/\e.2.2.length<=300):Dz L h kx (rq [.ref L,.ref K] h):=by
 have lK:=bT e;have nm1:∀ e∈kx,bt e.1=true:=λe he=>(nm e he).1
 have F0:Fr L h h:=⟨λ_ _ _=>rfl,OV _,eL⟩
 obtain⟨N0,eN0⟩:=eL;have lL:=bT eN0;obtain⟨kd,N1,hk,t1,F1⟩:=F0.take 8 'd' 'd';have t1:aS [.ref L,.int 8] h=.ok (.int kd) (h.set L (.lst [.int N1])):=t1;obtain⟨h1,eh1⟩:∃ h1,h1=h.set L (.lst [.int N1]):=⟨_,rfl⟩
 rw[<- eh1] at t1 F1;have e1:=(F1.fr K lK KL).trans e
 obtain⟨PP,ePP⟩:∃ PP:OutS->Prop,PP=λo=>Dz L h kx (eB o):=⟨_,rfl⟩
 have toP:∀ o,PP o->Dz L h kx (eB o):=λo z=>by rw[ePP] at z;exact z
 have ofP:∀ o,Dz L h kx (eB o)->PP o:=λo z=>by rw[ePP];exact z
 clear ePP;refine mE (P:=Dz L h kx) rfl (toP _ ?_)
 refine aU (v:=.int kd) (h2:=h1) ?_ ?_
 ·exact t1
 have ck:(aE (ag ay (aa 2) (ae (.int 0)))) [some (.ref L),some (.ref K),some (.int kd),none,none,none,none,none,none] h1=.ok (decide (kd=0)) h1:=by
  by_cases q:kd=0
  ·subst q;simp
  ·have:¬ (kd:Int)=0:=by lia
   simp[q,this]
 by_cases k0:kd=0
 ·obtain⟨v1,h2,t2,F2,n2⟩:=pT e1 F1.ro KL ct nm1 (odd:=hW) 'd' 'd'
  obtain⟨x,rfl,lx⟩:=sM n2;have t2:fH [.ref L,.ref K,.fl [.str "",.str "A",.str "none"]] h1=.ok (.str x) h2:=t2;have F02:=F1.trans F2;have e2:=(F02.fr K lK KL).trans e;have ni:=sL e2 x;rw[Pf k0] at ck
  cases lx':lk kx x with
  |none =>
   rw[lx'] at ni;refine iP (h1:=h1) ck (w:=.rt (.tup [.tup [.str "drop",.str x],.str "NoName",.ref K]) h2) ?_ ⟨_,_,rfl⟩ (ofP _ ⟨_,_,_,h2,rfl,F02,λhd=>absurd hd ∅,λ_=>MN lx' ⋯⟩)
   refine aU (P:=λo=>o=_) (v:=.str x) (h2:=h2) ?_ ?_
   ·exact t2
   refine pS (P:=λo=>o=_) (h1:=h2) (v:=.tup [.tup [.str "drop",.str x],.str "NoName",.ref K]) (h3:=h2) ?_ ?_ rfl
   ·have ni:cU (.str x) (.ref K) h2=.ok (.bl true) h2:=ni
    simp[ni,-cU]
   ·simp
  |some v =>
   rw[lx'] at ni;have dc:=BP e2
   obtain⟨h3,eh3⟩:∃ h3,h3=h2++[AO.dct false (kx.map (kG gS))]:=⟨_,rfl⟩
   obtain⟨K',eK'⟩:∃ K',K'=h2.length:=⟨_,rfl⟩
   rw[<- eh3,<- eK'] at dc;have e3:h3[K']?=some (.dct false (kx.map (kG gS))):=by rw[eh3,eK'];simp
   have hl:=F02.hl;obtain⟨h4,eh4⟩:∃ h4,h4=h3.set K' (.dct false ((kL kx x).map (kG gS))):=⟨_,rfl⟩
   have F3:Fr L h h3:=by rw[eh3];exact F02.app _
   have F4:Fr L h h4:=by
    obtain⟨N,eN⟩:=F3.ro;have l3:=F3.hl;exact⟨λi hi n=>by rw[eh4,OU ⋯];exact F3.fr i hi n,by rw[eh4,Pv];exact l3,N,by rw[eh4,OU ⋯];exact eN⟩
   have e4:h4[K']?=some (.dct false ((kL kx x).map (kG gS))):=by rw[eh4];exact OY (bT e3)
   refine iP (h1:=h1) ck (w:=.rt (.tup [.tup [.str "drop",.str x],.str "",.ref K']) h4) ?_ ⟨_,_,rfl⟩ (ofP _ ⟨_,_,_,h4,rfl,F4,λ_=>⟨x,none,0,.drop lx',by lia,by lia,λo eo=>?_,nofun⟩,λq=>absurd rfl q⟩)
   ·refine aU (P:=λo=>o=_) (v:=.str x) (h2:=h2) ?_ ?_
    ·exact t2
    refine cD (P:=λo=>o=_) (h1:=h2) ?_ ?_
    ·have ni:cU (.str x) (.ref K) h2=.ok (.bl false) h2:=ni
     simp[ni,-cU]
    refine aU (P:=λo=>o=_) (v:=.ref K') (h2:=h3) ?_ ?_
    ·exact dc
    refine cM (P:=λo=>o=_) (e2:=[some (.ref L),some (.ref K),some (.int kd),some (.str x),some (.ref K'),none,none,none,none]) (h2:=h4) ?_ ?_
    ·have k1:dX false (.str x)=true:=rfl
     have dp:ja (aa 4) (aa 3) [some (.ref L),some (.ref K),some (.int kd),some (.str x),some (.ref K'),none,none,none,none] h3=.ok (gS v) h4:=by
      have a1:aa 4 [some (.ref L),some (.ref K),some (.int kd),some (.str x),some (.ref K'),none,none,none,none] h3=.ok (.ref K') h3:=rfl;have a2:aa 3 [some (.ref L),some (.ref K),some (.int kd),some (.str x),some (.ref K'),none,none,none,none] h3=.ok (.str x) h3:=rfl;simp only[ja,a1,a2,Out.bind,e3,k1,Qd,jh,lx',Option.map]
      rw[Bi,eh4]
     show bh (ja (aa 4) (aa 3)) [some (.ref L),some (.ref K),some (.int kd),some (.str x),some (.ref K'),none,none,none,none] h3=_
     generalize ja (aa 4) (aa 3)=SP at *;simp[dp]
    ·simp
   ·obtain rfl:o=none:=by
     cases o with
     |none=>rfl
     |some w=>cases eo
    exact e4
 rw[O9 k0] at ck;refine cD (h1:=h1) ck ?_
 obtain⟨G,eG,hG⟩:∃ G:Fn,Gv L h1 kx (G [.ref L,.ref K] h1)/\gZ nF nG (au bp (ah (ag fy (aa 2) (ae (.int 3))) af)) (ah (aa 0) (ah (aa 1) af)) [some (.ref L),some (.ref K),some (.int kd),none,none,none,none,none,none] h1=G [.ref L,.ref K] h1:=by
  have ap:∀ G:Fn,au G (ah (aa 0) (ah (aa 1) af)) [some (.ref L),some (.ref K),some (.int kd),none,none,none,none,none,none] h1=G [.ref L,.ref K] h1:=λG=>by simp
  by_cases z:3<kd
  ·refine⟨nG,Ng e1 F1.ro KL ct nm,?_⟩
   have i:au bp (ah (ag fy (aa 2) (ae (.int 3))) af) [some (.ref L),some (.ref K),some (.int kd),none,none,none,none,none,none] h1=.ok (.int 1) h1:=by
    have:(3:Int)<kd:=by lia
    simp[this]
   simp only[gZ,i,Out.bind]
   exact ap _
  ·refine⟨nF,Nd e1 F1.ro KL ct nm,?_⟩
   have i:au bp (ah (ag fy (aa 2) (ae (.int 3))) af) [some (.ref L),some (.ref K),some (.int kd),none,none,none,none,none,none] h1=.ok (.int 0) h1:=by
    have:¬ (3:Int)<kd:=by lia
    simp[this]
   simp only[gZ,i,Out.bind]
   exact ap _
 obtain⟨deed,due,pl,h2,eg,F2,gd,gn⟩:=eG;rw[eg] at hG;have F02:=F1.trans F2
 refine cM (e2:=[some (.ref L),some (.ref K),some (.int kd),none,none,some deed,some (.str due),some pl,none]) (h2:=h2) ?_ ?_
 ·generalize gZ nF nG (au bp (ah (ag fy (aa 2) (ae (.int 3))) af)) (ah (aa 0) (ah (aa 1) af))=SS at *
  simp[hG]
 obtain⟨deed',pl',s4,gd',gn'⟩:∃ deed' pl',aG (iA (aE (ag ay (aa 6) (ae (.str "")))) (aE (ag fy (au aI (ah (aa 7) af)) (ae (.int 300))))) (rj 5 6 7 (ah (aN (ah (ae (.str "give")) (ah (ag aj (aa 5) (ae (.int 1))) (ah (ae (.str "long")) af)))) (ah (ae (.str "")) (ah (ae (.str "long")) af)))) aH [some (.ref L),some (.ref K),some (.int kd),none,none,some deed,some (.str due),some pl,none] h2=.nx [some (.ref L),some (.ref K),some (.int kd),none,none,some deed',some (.str due),some pl',none] h2 /\
   (due="" -> ∃ (x y:Str) (c:Nat) (k:AV) (r:YF),pl'=.str y/\deed'=.tup (k :: .str x::r)/\Gd kx deed' x (some y) c/\c<=240000/\y.length<=300)/\(¬ due="" -> deed'=deed):=by
  by_cases hd:due=""
  ·obtain⟨x,y,c,k,r,rfl,rfl,hx,g,hc,hy⟩:=gd hd
   subst hd;by_cases ly:300<y.length
   ·refine⟨.tup [.str "give",.str x,.str "long"],.str "long",?_,λ_=>⟨x, "long",_,_,_,rfl,rfl,.give hx ∅ 'd',by decide,by decide⟩,λq=>absurd rfl q⟩
    have a1:atI (k :: .str x::r) 1=some (.str x):=lh (j:=1) rfl;have l2:(300:Int)<y.length:=by lia
    simp[l2,a1,rj]
   ·refine⟨_,_,?_,λ_=>⟨x,y,c,k,r,rfl,rfl,g,hc,by lia⟩,λq=>absurd rfl q⟩
    have l2:¬ (300:Int)<y.length:=by lia
    simp[l2]
  ·exact⟨deed,pl,by simp[hd],λz=>absurd z hd,λ_=>rfl⟩
 refine cM s4 ?_
 have e2:=(F02.fr K lK KL).trans e;have dc:=BP e2;obtain⟨h3,eh3⟩:∃ h3,h3=h2++[AO.dct false (kx.map (kG gS))]:=⟨_,rfl⟩
 obtain⟨K',eK'⟩:∃ K',K'=h2.length:=⟨_,rfl⟩
 rw[<- eh3,<- eK'] at dc;have e3:h3[K']?=some (.dct false (kx.map (kG gS))):=by rw[eh3,eK'];simp
 have hl:=F02.hl;have F3:Fr L h h3:=by rw[eh3];exact F02.app _
 refine aU (v:=.ref K') (h2:=h3) ?_ ?_
 ·exact dc
 by_cases hd:due=""
 ·obtain⟨x,y,c,k,r,rfl,rfl,g,hc,hy⟩:=gd' hd
  subst hd;obtain⟨h4,eh4⟩:∃ h4,h4=h3.set K' (.dct false ((put kx x (0,y)).map (kG gS))):=⟨_,rfl⟩
  have F4:Fr L h h4:=by
   obtain⟨N,eN⟩:=F3.ro;have l3:=F3.hl;exact⟨λi hi n=>by rw[eh4,OU ⋯];exact F3.fr i hi n,by rw[eh4,Pv];exact l3,N,by rw[eh4,OU ⋯];exact eN⟩
  have e4:h4[K']?=some (.dct false ((put kx x (0,y)).map (kG gS))):=by rw[eh4];exact OY (bT e3)
  refine cM (e2:=[some (.ref L),some (.ref K),some (.int kd),none,none,some (.tup (k :: .str x::r)),some (.str ""),some (.str y),some (.ref K')]) (h2:=h4) ?_ ?_
  ·have k1:dX false (.str x)=true:=rfl
   have sz:(kx.map (kG gS)).length<sizeLine:=by rw[O2];exact O7 ct 'd'
   have a1:atI (k :: .str x::r) 1=some (.str x):=lh (j:=1) rfl;have ix:ag aj (aa 5) (ae (.int 1)) [some (.ref L),some (.ref K),some (.int kd),none,none,some (.tup (k :: .str x::r)),some (.str ""),some (.str y),some (.ref K')] h3=.ok (.str x) h3:=by simp[a1]
   have b1:aa 8 [some (.ref L),some (.ref K),some (.int kd),none,none,some (.tup (k :: .str x::r)),some (.str ""),some (.str y),some (.ref K')] h3=.ok (.ref K') h3:=rfl;have b2:aa 7 [some (.ref L),some (.ref K),some (.int kd),none,none,some (.tup (k :: .str x::r)),some (.str ""),some (.str y),some (.ref K')] h3=.ok (.str y) h3:=rfl;have st:fX (aa 8) (ag aj (aa 5) (ae (.int 1))) (aa 7) [some (.ref L),some (.ref K),some (.int kd),none,none,some (.tup (k :: .str x::r)),some (.str ""),some (.str y),some (.ref K')] h3=.nx [some (.ref L),some (.ref K),some (.int kd),none,none,some (.tup (k :: .str x::r)),some (.str ""),some (.str y),some (.ref K')] h4:=by
    simp only[fX,b1,b2,ix,Out.go,e3]
    rw[OX ⟨k1,sz⟩,eh4];exact congrArg (λz=>OutS.nx _ (h3.set K' (.dct false z))) (sE gS kx x (0,y))
   show aG (aE (ag ay (aa 6) (ae (.str "")))) (fX (aa 8) (ag aj (aa 5) (ae (.int 1))) (aa 7)) aH [some (.ref L),some (.ref K),some (.int kd),none,none,some (.tup (k :: .str x::r)),some (.str ""),some (.str y),some (.ref K')] h3=_
   exact st
  refine d8 (v:=.tup [.tup (k :: .str x::r),.str "",.ref K']) (h':=h4) 's' (ofP _ ⟨_,_,_,h4,rfl,F4,λ_=>⟨x,some y,c,g,hc,by lia,λo eo=>?_,λy' ey=>by cases ey;exact hy⟩,λq=>absurd rfl q⟩)
  cases o with
  |none=>cases eo
  |some w =>
   have:w.2=y:=by simpa using eo
   have q:(put kx x w).map (kG gS)=(put kx x (0,y)).map (kG gS):=by
    rw[<- sE gS kx x w,<- sE gS kx x (0,y)];show eI _ _ (.str w.2)=_
    rw[this]
   rw[e4,<- q];rfl
 ·refine cM (e2:=[some (.ref L),some (.ref K),some (.int kd),none,none,some deed',some (.str due),some pl',some (.ref K')]) (h2:=h3) ?_ ?_
  ·show aG (aE (ag ay (aa 6) (ae (.str "")))) (fX (aa 8) (ag aj (aa 5) (ae (.int 1))) (aa 7)) aH [some (.ref L),some (.ref K),some (.int kd),none,none,some deed',some (.str due),some pl',some (.ref K')] h3=_
   generalize fX (aa 8) (ag aj (aa 5) (ae (.int 1))) (aa 7)=SX at *;simp[hd]
  exact d8 (v:=.tup [deed',.str due,.ref K']) (h':=h3) 's' (ofP _ ⟨_,_,_,h3,rfl,F3,λz=>absurd z hd,λ_=>by rw[eh3,gn' hd];exact gn hd _⟩)
def xy(a b:Int)(h:AH):ay (.int a) (.int b) h=.ok (.bl (decide (a=b))) h:=by simp
def Ni(h:AH):ay (.str "leaf") (.str "leaf") h=.ok (.bl true) h:=by simp
def Nj(h:AH):ay (.str "fork") (.str "leaf") h=.ok (.bl false) h:=by
 have:¬ (Str.ofString "fork"=Str.ofString "leaf"):=by decide +kernel
 simp[this]
theorem xA{h:AH}{p:Nat}{ps:YG}(S:ShelfAt h p ps)(g:Good ps):∀ (d:Nat) {t:Nat} {m f l:Ms} {x:Str},Tx ps t m x f l->m.ht.toNat<d->x.length<=100000->gG d [.ref p,.int t] h=.ok (.str x) h
 |0,t,m,f,l,x,T,hd,hx=>absurd hd (Qb _)
 |d+1,t,m,f,l,x,T,hd,hx=>by
  have ob:=S.ob;have z:=xy t 0 h;rw[O9 (by have:=T.n1;lia)] at z;have lt:=Ni h;have lf:=Nj h;rcases g.kind T with⟨e,_⟩|⟨a,b,ma,mb,y,w,fa,la,fb,lb,e,e2,_,A,B,x1,x2,_⟩
  ·have fp:=rZ S T.n1 e
   have c0:aj (Pc.leaf x).av (.int 0) h=.ok (.str "leaf") h:=rfl;have c1:aj (Pc.leaf x).av (.int 1) h=.ok (.str x) h:=rfl;show mw (gG d) [.ref p,.int t] h=_
   generalize gG d=G
   generalize (Pc.leaf x).av=PA at *;simp[mw,z,ob,fp,c0,c1,lt,-ay,-aj]
  ·have fp:=rZ S T.n1 e
   have a0:=A.ky.ht;have b0:=B.ky.ht;have hh:m.ht=max ma.ht mb.ht+1:=by rw[x2];rfl
   have ll:y.length+w.length=x.length:=by rw[x1,d6]
   have ia:=xA S g d A (by(clear ll a0 fp x2 x1 B A e2 e lf lt z ob hx T g S;omega)) ⋯;have ib:=xA S g d B ⋯ ⋯;have ad:az (.str y) (.str w) h=.ok (.str x) h:=by
    have:y.length+w.length<=sizeLine:=OW (m:=100000) ⋯ 'd'
    rw[x1];simp only[az,this,Qd]
   show mw (gG d) [.ref p,.int t] h=_
   have c0:aj (Pc.fork a b).av (.int 0) h=.ok (.str "fork") h:=rfl;have c1:aj (Pc.fork a b).av (.int 1) h=.ok (.int a) h:=rfl;have c2:aj (Pc.fork a b).av (.int 2) h=.ok (.int b) h:=rfl;generalize (Pc.fork a b).av=PA,gG d=G at *;simp[mw,z,ob,fp,c0,c1,c2,lf,ia,ib,ad,-ay,-az,-aj]
def Nk(S:ShelfAt h p ps)(g:Good ps){t:Nat}(T:TxZ ps t x)(hx:x.length<=100000):gG 90 [.ref p,.int t] h=.ok (.str x) h:=by
 rcases T with⟨rfl,rfl⟩|⟨m,f,l,T⟩
 ·have z:=xy 0 0 h
  rw[Pf rfl] at z;show mw (gG 89) [.ref p,.int 0] h=_
  generalize gG 89=G at *;simp[mw,z,-ay]
 ·exact xA S g 90 T (by have:=eZ g T;lia) hx
def Pc.pd:Pc->PyData
 |.leaf x=>.tuple [.str "leaf",.str x]
 |.fork a b=>.tuple [.str "fork",.int a,.int b]
structure Hy(M:Nat)(X:Nat->Str)(V:Nat->Option (Nat×Str))(Kx:Nat->ZH)(ps:YG):Prop where
 nd:∀ j,j<=M->((Kx j).map (·.1)).Nodup
 ct:∀ j,j<=M->(Kx j).length<=50
 tz:∀ j,j<=M->∀ e∈Kx j,TxZ ps e.2.1 e.2.2
 st:∀ j,j<M->bt (X j)=true/\Kx (j+1)=upd (Kx j) (X j) (V j)/\(V j=none->(lk (Kx j) (X j)).isSome=true)
def dj(X:Nat->Str)(V:Nat->Option (Nat×Str))(Kx:Nat->ZH)(j:Nat):De:=(X j,(lk (Kx j) (X j)).map (·.1),(V j).map (·.1))
structure At(M:Nat)(X:Nat->Str)(V:Nat->Option (Nat×Str))(Kx:Nat->ZH)(ps:YG)(H0 hh:AH)(r:Nat):Prop where
 ho:∃ kx,Ho hh 0 1 10 ps kx ((List.range r).map (dj X V Kx)) ((List.range (M-r)).map λs=>dj X V Kx (M-1-s))/\∀ x,lk kx x=lk (Kx r) x
 fr:∀ i,12<i->hh[i]?=H0[i]?
 hl:hh.length=H0.length
section
variable{M r:Nat}{X:Nat->Str}{V:Nat->Option (Nat×Str)}{Kx:Nat->ZH}{ps:YG}{H0 hh:AH}
def At.fh{r':Nat}(B:At M X V Kx ps H0 hh r)(F:Fh 1 10 hh h2)(H:Ho h2 0 1 10 ps kx ((List.range r').map (dj X V Kx)) ((List.range (M-r')).map λs=>dj X V Kx (M-1-s)))(l:∀ x,lk kx x=lk (Kx r') x):At M X V Kx ps H0 h2 r' :=(
 ⟨⟨kx,H,l⟩,λi hi=>(F.fr i ⋯ ⋯ ⋯ ⋯).trans (B.fr i hi),F.hl.trans B.hl⟩)
def pW(r:Nat):(List.range (r+1)).map (dj X V Kx)=(List.range r).map (dj X V Kx)++[dj X V Kx r]:=by
 rw[PY,Py];rfl
def pX(hr:r<M):(List.range (M-r)).map (λs=>dj X V Kx (M-1-s))=(List.range (M-(r+1))).map (λs=>dj X V Kx (M-1-s))++[dj X V Kx r]:=by
 rw[show M-r=(M-(r+1))+1 by lia,PY,Py,O8,QK,show M-1-(M-(r+1))=r by lia]
def Nl(S:Hy M X V Kx ps)(hM:M<=1000)(hr:r<M)(B:At M X V Kx ps H0 hh (r+1)):∃ h',kF [.ref 0] hh=.ok .non h'/\At M X V Kx ps H0 h' r:=by
 obtain⟨nx,eK,sn⟩:=S.st r hr;obtain⟨kx,H,l⟩:=B.ho;rw[pW] at H;have lk2:∀ x,lk (upd kx (X r) (lk (Kx r) (X r))) x=lk (Kx r) x:=λx=>by
  rw[j4,l,eK,j4];by_cases q:X r=x
  ·rw[OX q,q]
  ·rw[O0 q,O0 q]
 have ll:=sJ (nL H.nd (X r) (lk (Kx r) (X r))) (S.nd r ⋯) lk2;obtain⟨h',f,H',F⟩:=Mg H nx (λv e=>S.tz r ⋯ _ (cx e)) (by rw[ll];exact S.ct r ⋯) (by simp<;>lia) (λe=>by
  rw[l,eK,j4,OX rfl]
  cases q:V r with
  |some v=>rfl
  |none=>have:=sn q;rw[e] at this;cases this)
 exact⟨h',f,B.fh F (by rw[pX hr];exact H') lk2⟩
def Nn(S:Hy M X V Kx ps)(hM:M<=1000)(hr:r<M)(B:At M X V Kx ps H0 hh r):∃ h',kJ [.ref 0] hh=.ok .non h'/\At M X V Kx ps H0 h' (r+1):=by
 obtain⟨nx,eK,sn⟩:=S.st r hr;obtain⟨kx,H,l⟩:=B.ho;rw[pX hr] at H;have lk2:∀ x,lk (upd kx (X r) (V r)) x=lk (Kx (r+1)) x:=λx=>by
  rw[j4,eK,j4,l]
 have ll:=sJ (nL H.nd (X r) (V r)) (S.nd (r+1) ⋯) lk2;obtain⟨h',f,H',F⟩:=Mh H nx (λv e=>S.tz (r+1) ⋯ (X r,v) (cx (by rw[eK,j4,OX rfl,e]))) (by rw[ll];exact S.ct (r+1) ⋯) (by simp<;>lia) (λe=>by rw[l];exact sn e)
 exact⟨h',f,B.fh F (by rw[pW];exact H') lk2⟩
end
def BQ{ds bs:List De}(H:Ho h 0 1 10 ps kx ds bs):dG [.ref 0,.tup [.str "again"]] h=kJ [.ref 0] h :=(
 j7 rfl (bW (x := "again") rfl ∅ (bW (x := "again") rfl ∅ (bW (x := "again") rfl ∅ (bW (x := "again") rfl ∅ (bW (x := "again") rfl ∅ (bW (x := "again") rfl ∅ (bW (x := "again") rfl ∅ (kM rfl (m0 H.ob))))))))))
def Ho.keep{h h':AH}{ps:YG}{kx:ZH}{ds bs:List De}(H:Ho h 0 1 10 ps kx ds bs)(k:∀ i,i<=12->h'[i]?=h[i]?):Ho h' 0 1 10 ps kx ds bs :=(
 ⟨(k 0 ⋯).trans H.ob,H.sh.keep λi _ _=>k i ⋯,H.gd,(k 10 ⋯).trans H.tx,(k 11 ⋯).trans H.de,(k 12 ⋯).trans H.ba,H.tz,H.lo,H.ct,H.nd⟩)
def ext{α:Type}(f:Nat->α)(n:Nat)(v:α):Nat->α:=λj=>if j<n then f j else v
def fL(f:Nat->α)(v:α)(h:j<n):ext f n v j=f j:=(OX h)
def iS(f:Nat->α)(n:Nat)(v:α):ext f n v n=v:=(O0 (Qi _))
def Np(nm:∀ e∈kx,bt e.1=true){deed:AV}{oy:Option Str}(g:Gd kx deed x oy c):bt x=true:=by
 cases g with
 |give hx=>exact hx
 |copy hx=>exact hx
 |join l=>exact nm _ (cx l)
 |put l=>exact nm _ (cx l)
 |take l=>exact nm _ (cx l)
 |rep l=>exact nm _ (cx l)
 |rep0 l=>exact nm _ (cx l)
 |drop l=>exact nm _ (cx l)
def Nq{deed:AV}{oy:Option Str}(g:Gd kx deed x oy c)(e:oy=none):(lk kx x).isSome=true:=by
 cases g with
 |drop l=>rw[l];rfl
 |_=>cases e
def Nr{m:Nat}{X:Nat->Str}{V:Nat->Option (Nat×Str)}{Kx:Nat->ZH}:(List.range (m+1)).map (dj (ext X m x) (ext V m o) (ext Kx (m+1) (upd (Kx m) x o)))=(List.range m).map (dj X V Kx)++[(x,(lk (Kx m) x).map (·.1),o.map (·.1))]:=by
 rw[PY,Py,O8,QK];congr 1
 ·refine Qu λj hj=>?_
  have hj:=Rh.mp hj;unfold dj;rw[fL X x hj,fL V o hj,fL Kx _ (show j<m+1 by lia)]
 ·unfold dj
  rw[iS,iS,fL Kx _ (Rx m)]
def pv(Kx:Nat->ZH)(Ks:Nat->Nat)(j:Nat):AV:=.tup [.ref (Ks j),cE (Kx j)]
structure Zn(h:AH)(t M m:Nat)(X:Nat->Str)(V:Nat->Option (Nat×Str))(Kx:Nat->ZH)(Ks:Nat->Nat)(ps:YG):Prop where
 hy:Hy M X V Kx ps
 ho:∃ kx,Ho h 0 1 10 ps kx ((List.range m).map (dj X V Kx)) ((List.range (M-m)).map λs=>dj X V Kx (M-1-s))/\∀ x,lk kx x=lk (Kx m) x
 mM:m<=M
 Mt:M<=t
 pa:h[14]?=some (.lst ((List.range (m+1)).map (pv Kx Ks)))
 un:h[15]?=some (.lst ((List.range (M-m)).map λs=>pv Kx Ks (M-s)))
 ks:∀ j,j<=M->(Ks j=13\/15<Ks j)/\h[Ks j]?=some (.dct false ((Kx j).map (kG gS)))
 nl:∀ j,j<=M->(∀ e∈Kx j,e.2.2.length<=300)/\(Kx j).length<=t
def Nt{R:Nat}{Z:YF}{w:AV}(e:h[R]?=some (.lst (Z++[w]))):aj (.ref R) (.int (-1)) h=.ok w h:=by
 have q:atI (Z++[w]) (-1)=some w:=by
  have e:(-1+((Z.length:Int)+1)).toNat=Z.length:=by lia
  have e2:(1:Int)<=(Z.length:Int)+1:=by lia
  simp[atI,gv,e,e2]
 simp only[aj,e,q]
section
variable{h h':AH}{t M m:Nat}{X:Nat->Str}{V:Nat->Option (Nat×Str)}{Kx:Nat->ZH}{Ks:Nat->Nat}{ps ps':YG}
def Zn.l15(Z:Zn h t M m X V Kx Ks ps):15<h.length:=(bT Z.un)
def Zn.kl(Z:Zn h t M m X V Kx Ks ps)(j:Nat)(hj:j<=M):Ks j<h.length:=(bT (Z.ks j hj).2)
def Zn.kp(Z:Zn h t M m X V Kx Ks ps)(hL:15<L)(KL:∀ j,j<=M->Ks j≠L)(k:∀ i,i<h.length->i≠L->h'[i]?=h[i]?):Zn h' t M m X V Kx Ks ps:=by
 obtain⟨kx,H,l⟩:=Z.ho;have l15:=Z.l15;exact⟨Z.hy,⟨kx,H.keep λi hi=>k i ⋯ ⋯,l⟩,Z.mM,Z.Mt,(k 14 ⋯ ⋯).trans Z.pa,(k 15 ⋯ ⋯).trans Z.un,λj hj=>⟨(Z.ks j hj).1,(k _ (Z.kl j hj) (KL j hj)).trans (Z.ks j hj).2⟩,Z.nl⟩
def Zn.up(Z:Zn h t M m X V Kx Ks ps):Zn h (t+1) M m X V Kx Ks ps :=(
 ⟨Z.hy,Z.ho,Z.mM,Rn Z.Mt,Z.pa,Z.un,Z.ks,λj hj=>⟨(Z.nl j hj).1,Rn (Z.nl j hj).2⟩⟩)
def Zn.atm(Z:Zn h t M m X V Kx Ks ps):At M X V Kx ps h h m:=(⟨Z.ho,λ_ _=>rfl,rfl⟩)
def Zn.nums(Z:Zn h t M m X V Kx Ks ps):gE [.ref 0] h=.ok (cE (Kx m)) h:=by
 obtain⟨kx,H,l⟩:=Z.ho;rw[BG H,BE H.nd (Z.hy.nd m Z.mM) l]
def Zn.last(Z:Zn h t M m X V Kx Ks ps):aj (.ref 14) (.int (-1)) h=.ok (pv Kx Ks m) h :=(
 Nt (Z:=(List.range m).map (pv Kx Ks)) (by rw[Z.pa,PY,Py];rfl))
def Zn.move(Z:Zn h t M m X V Kx Ks ps){m':Nat}{a b:YF}(hm:m'<=M)(A:At M X V Kx ps h h' m')(ea:a=(List.range (m'+1)).map (pv Kx Ks))(eb:b=(List.range (M-m')).map λs=>pv Kx Ks (M-s))(k:∀ i,i≠14->i≠15->h2[i]?=h'[i]?)(e14:h2[14]?=some (.lst a))(e15:h2[15]?=some (.lst b)):Zn h2 t M m' X V Kx Ks ps:=by
 obtain⟨kx,H,l⟩:=A.ho;refine⟨Z.hy,⟨kx,H.keep λi hi=>k i ⋯ ⋯,l⟩,hm,Z.Mt,by rw[e14,ea],by rw[e15,eb],λj hj=>⟨(Z.ks j hj).1,?_⟩,Z.nl⟩
 have:=(Z.ks j hj).1;rw[k _ ⋯ ⋯,A.fr _ ⋯];exact(Z.ks j hj).2
def Zn.back{r:Nat}(Z:Zn h t M (r+1) X V Kx Ks ps)(ht:t<=50):∃ h1 h2 h3 v,cY [.ref 0,.tup [.str "back"]] h=.ok (.str "") h1/\bI (.ref 14) [] h1=.ok v h2/\bP (.ref 15) [v] h2=.ok .non h3/\aW (.ref 14) h1=true/\aW (.ref 15) h1=true/\aW (.ref 15) h2=true/\Zn h3 t M r X V Kx Ks ps/\h3.length=h.length:=by
 have Mt:=Z.Mt;have mM:=Z.mM;obtain⟨h1,f,A⟩:=Nl Z.hy ⋯ ⋯ Z.atm;obtain⟨kx,H,_⟩:=A.ho;obtain⟨kx0,H0,_⟩:=Z.ho;have wd:=xl ((Bv H0).trans f);have e14:h1[14]?=some (.lst ((List.range (r+1)).map (pv Kx Ks)++[pv Kx Ks (r+1)])):=by rw[A.fr 14 ⋯,Z.pa,PY,Py];rfl
 have e15:h1[15]?=some (.lst ((List.range (M-(r+1))).map λs=>pv Kx Ks (M-s))):=by rw[A.fr 15 ⋯,Z.un]
 have pp:bI (.ref 14) [] h1=.ok (pv Kx Ks (r+1)) (h1.set 14 (.lst ((List.range (r+1)).map (pv Kx Ks)))):=by simp[bI,e14]
 have k2:∀ i,i≠14->(h1.set 14 (.lst ((List.range (r+1)).map (pv Kx Ks))))[i]?=h1[i]?:=λi hi=>OU (Ne.symm hi)
 have e15':=(k2 15 ⋯).trans e15;have ap:=wZ e15' (by rw[O2,P8];lia) (pv Kx Ks (r+1))
 refine⟨h1,_,_,_,wd,pp,ap,by simp only[aW,dC,e14];rfl,by simp only[aW,dC,e15];rfl,by simp only[aW,dC,e15'];rfl,Z.move ⋯ A rfl ?_ (λi h1 h2=>(OU (Ne.symm h2)).trans (k2 i h1)) ((OU ⋯).trans (OY (bT e14))) (OY (bT e15')),by rw[Pv,Pv];exact A.hl⟩
 rw[show M-r=(M-(r+1))+1 by lia,PY,Py,O8,QK,show M-(M-(r+1))=r+1 by(clear ap e15' k2 pp e15 e14 wd H0 H A f Mt ht Z;lia)]
def Zn.again(Z:Zn h t M m X V Kx Ks ps)(hm:m<M)(ht:t<=50):∃ h1 h2 h3 v,cY [.ref 0,.tup [.str "again"]] h=.ok (.str "") h1/\bI (.ref 15) [] h1=.ok v h2/\bP (.ref 14) [v] h2=.ok .non h3/\aW (.ref 14) h1=true/\aW (.ref 15) h1=true/\aW (.ref 14) h2=true/\Zn h3 t M (m+1) X V Kx Ks ps/\h3.length=h.length:=by
 have Mt:=Z.Mt;obtain⟨h1,f,A⟩:=Nn Z.hy ⋯ hm Z.atm;obtain⟨kx,H,_⟩:=A.ho;obtain⟨kx0,H0,_⟩:=Z.ho;have wd:=xl ((BQ H0).trans f);have e14:h1[14]?=some (.lst ((List.range (m+1)).map (pv Kx Ks))):=by rw[A.fr 14 ⋯,Z.pa]
 have e15:h1[15]?=some (.lst (((List.range (M-(m+1))).map λs=>pv Kx Ks (M-s))++[pv Kx Ks (m+1)])):=by
  rw[A.fr 15 ⋯,Z.un,show M-m=(M-(m+1))+1 by lia,PY,Py,O8,QK,show M-(M-(m+1))=m+1 by lia]
 have pp:bI (.ref 15) [] h1=.ok (pv Kx Ks (m+1)) (h1.set 15 (.lst ((List.range (M-(m+1))).map λs=>pv Kx Ks (M-s)))):=by simp[bI,e15]
 have k2:∀ i,i≠15->(h1.set 15 (.lst ((List.range (M-(m+1))).map λs=>pv Kx Ks (M-s))))[i]?=h1[i]?:=λi hi=>OU (Ne.symm hi)
 have e14':=(k2 14 ⋯).trans e14;have ap:=wZ e14' (by rw[O2,P8];lia) (pv Kx Ks (m+1))
 refine⟨h1,_,_,_,wd,pp,ap,by simp only[aW,dC,e14];rfl,by simp only[aW,dC,e15];rfl,by simp only[aW,dC,e14'];rfl,Z.move ⋯ A ?_ rfl (λi h1 h2=>(OU (Ne.symm h1)).trans (k2 i h2)) (OY (bT e14')) ((OU ⋯).trans (OY (bT e15))),by rw[Pv,Pv];exact A.hl⟩
 rw[PY (n:=m+1),Py];rfl
def Zn.deed(Z:Zn h t M m X V Kx Ks ps){deed:AV}{x:Str}{oy:Option Str}{c K':Nat}(g:Gd (Kx m) deed x oy c)(kd:∀ o:Option (Nat×Str),o.map (·.2)=oy->h[K']?=some (.dct false ((upd (Kx m) x o).map (kG gS))))(hK:15<K')(ny:∀ y,oy=some y->y.length<=300)(hz:ps.length<13000000)(ht:t<50) :
  ∃ h1 h2 h3 ps' X' V' Kx' Ks',cY [.ref 0,deed] h=.ok (.str "") h1/\gE [.ref 0] h1=.ok (cE (Kx' (m+1))) h1/\Ks' (m+1)=K'/\aW (.ref 14) h1=true/\bP (.ref 14) [pv Kx' Ks' (m+1)] h1=.ok .non h2/\aW (.ref 15) h2=true/\i9 (.ref 15) [] h2=.ok .non h3/\Zn h3 (t+1) (m+1) (m+1) X' V' Kx' Ks' ps'/\ps'.length<=ps.length+c/\h3.length=h.length:=by
 obtain⟨kx,H,l⟩:=Z.ho;have Mt:=Z.Mt;have mM:=Z.mM;have lx:kx.length<=t:=by rw[sJ H.nd (Z.hy.nd m mM) l];exact(Z.nl m mM).2
 obtain⟨o,ps',h1,ed,eo,H1,F,pre,len⟩:=xk H (xn l g) hz ⋯ (by simp;lia)
 have nm:=Np (λe he=>(H.tz e he).2) (xn l g);have k:∀ i,12<i->h1[i]?=h[i]?:=λi hi=>F.fr i ⋯ ⋯ ⋯ ⋯
 have e14:=(k 14 ⋯).trans Z.pa;have e15:=(k 15 ⋯).trans Z.un;have l2:∀ z,lk (upd kx x o) z=lk (upd (Kx m) x o) z:=λz=>by rw[j4,j4,l]
 have nd2:=nL (Z.hy.nd m mM) x o;have ln2:=sJ H1.nd nd2 l2;have ny2:∀ e∈upd (Kx m) x o,e.2.2.length<=300:=λe he=>by
  rcases pM he with⟨v,rfl,rfl⟩|he
  ·exact ny v.2 eo.symm
  ·exact(Z.nl m mM).1 e he
 have tz2:∀ e∈upd (Kx m) x o,TxZ ps' e.2.1 e.2.2:=λe he=>by
  rcases pM he with⟨v,rfl,rfl⟩|he
  ·exact(H1.tz (x,v) (cx (by rw[j4,OX rfl]))).1
  ·exact(Z.hy.tz m mM e he).pre pre
 have nu:gE [.ref 0] h1=.ok (cE (upd (Kx m) x o)) h1:=by rw[BG H1,BE H1.nd nd2 l2]
 have eK:ext Kx (m+1) (upd (Kx m) x o) (m+1)=upd (Kx m) x o:=iS ..;have eS:ext Ks (m+1) K' (m+1)=K':=iS ..;have lm:(List.range (m+1)).map (pv (ext Kx (m+1) (upd (Kx m) x o)) (ext Ks (m+1) K'))=(List.range (m+1)).map (pv Kx Ks):=Qu λj hj=>by
  have hj:=Rh.mp hj;unfold pv;rw[fL Kx _ hj,fL Ks _ hj]
 have ap:=wZ e14 (by rw[O2,P8];lia) (pv (ext Kx (m+1) (upd (Kx m) x o)) (ext Ks (m+1) K') (m+1))
 have e15':(h1.set 14 (.lst ((List.range (m+1)).map (pv Kx Ks)++[pv (ext Kx (m+1) (upd (Kx m) x o)) (ext Ks (m+1) K') (m+1)])))[15]?=h1[15]?:=OU ⋯;rw[e15] at e15';obtain⟨h2,eh2⟩:∃ h2,h2=h1.set 14 (.lst ((List.range (m+1)).map (pv Kx Ks)++[pv (ext Kx (m+1) (upd (Kx m) x o)) (ext Ks (m+1) K') (m+1)])):=⟨_,rfl⟩
 have e14':h2[14]?=some (.lst ((List.range (m+1)).map (pv Kx Ks)++[pv (ext Kx (m+1) (upd (Kx m) x o)) (ext Ks (m+1) K') (m+1)])):=by rw[eh2];exact OY (bT e14)
 have k2:∀ i,i≠14->h2[i]?=h1[i]?:=λi hi=>by rw[eh2];exact OU (Ne.symm hi)
 have l2h:h2.length=h1.length:=by rw[eh2,Pv]
 rw[<- eh2] at ap e15';have k3:∀ i,i≠15->(h2.set 15 (.lst []))[i]?=h2[i]?:=λi hi=>OU (Ne.symm hi)
 have kk:∀ i,i≠14->i≠15->(h2.set 15 (.lst []))[i]?=h1[i]?:=λi a b=>(k3 i b).trans (k2 i a)
 refine⟨h1,h2,h2.set 15 (.lst []),ps',ext X m x,ext V m o,ext Kx (m+1) (upd (Kx m) x o),ext Ks (m+1) K',xl ed,by rw[eK];exact nu,eS,by simp only[aW,dC,e14];rfl,ap,by simp only[aW,dC,e15'];rfl,by simp[i9,e15'],?_,len,by rw[Pv,l2h];exact F.hl⟩
 refine⟨⟨λj hj=>?_,λj hj=>?_,λj hj e he=>?_,λj hj=>?_⟩,⟨upd kx x o,?_,?_⟩,OV _,by lia,?_,?_,λj hj=>?_,λj hj=>?_⟩
 ·by_cases q:j<m+1
  ·rw[fL Kx _ q];exact Z.hy.nd j ⋯
  ·obtain rfl:j=m+1:=by lia
   rw[iS];exact nd2
 ·by_cases q:j<m+1
  ·rw[fL Kx _ q];exact Z.hy.ct j ⋯
  ·obtain rfl:j=m+1:=by lia
   rw[iS,<- ln2];exact H1.ct
 ·by_cases q:j<m+1
  ·rw[fL Kx _ q] at he;exact(Z.hy.tz j ⋯ e he).pre pre
  ·obtain rfl:j=m+1:=by lia
   rw[iS] at he;exact tz2 e he
 ·by_cases q:j<m
  ·rw[fL X _ q,fL V _ q,fL Kx _ (show j<m+1 by lia),fL Kx _ (show j+1<m+1 by lia)];exact Z.hy.st j ⋯
  ·obtain rfl:j=m:=by lia
   rw[iS,iS,fL Kx _ (Rx j),iS];exact⟨nm,rfl,λq=>by rw[<- l];exact Nq (xn l g) (by rw[<- eo,q];rfl)⟩
 ·rw[Nr,<- l,Nat.sub_self];exact H1.keep λi hi=>kk i ⋯ ⋯
 ·rw[eK];exact l2
 ·rw[k3 14 ⋯,e14',PY (n:=m+1),Py,lm];rfl
 ·rw[Nat.sub_self];exact OY (bT e15')
 ·by_cases q:j<m+1
  ·rw[fL Kx _ q,fL Ks _ q]
   have:=Z.ks j ⋯;exact⟨this.1,((kk _ ⋯ ⋯).trans (k _ ⋯)).trans this.2⟩
  ·obtain rfl:j=m+1:=by lia
   rw[eS,eK];exact⟨.inr hK,((kk K' ⋯ ⋯).trans (k K' ⋯)).trans (kd o eo)⟩
 ·by_cases q:j<m+1
  ·rw[fL Kx _ q];exact⟨(Z.nl j ⋯).1,Rn (Z.nl j ⋯).2⟩
  ·obtain rfl:j=m+1:=by lia
   rw[iS];exact⟨ny2,by have:=sF (Kx m) x o;have:=(Z.nl m mM).2;lia⟩
end
theorem BR:∀ zs:List Str,PyData.eqvAll (zs.map PyData.str) (zs.map PyData.str)=true
 |[]=>by simp[PyData.eqvAll]
 |z::zs=>by simp[PyData.eqvAll,PyData.eqv,BR zs]
def Nu(zs:List Str)(h:AH):eF (.fl (zs.map AV.str)) (.fl (zs.map AV.str)) h=.ok (.bl false) h:=by
 have t:bf 8 h (.fl (zs.map AV.str))=some (.list (zs.map PyData.str)):=by
  show (bq (bf 7 h) (zs.map AV.str)).map PyData.list=_
  rw[xt 6];rfl
 have e:fi (.fl (zs.map AV.str)) (.fl (zs.map AV.str)) h=some true:=by
  show (match bf 8 h (.fl (zs.map AV.str)),bf 8 h (.fl (zs.map AV.str)) with|some d,some e=>some (PyData.eqv d e)|_,_=>none)=_
  rw[t];show some (PyData.eqv (.list _) (.list _))=some true
  rw[PyData.eqv,BR]
 show (match fi (.fl (zs.map AV.str)) (.fl (zs.map AV.str)) h with|some b=>Out.ok (AV.bl (!b)) h|none=>Out.bad)=_
 rw[e];rfl
theorem BS{α:Type}{js:List Nat}{en:En}{L:AH->Bool}{e:SE}{g f:α->AV}{h:AH}(lv:L h=true):∀ (cs:List α) (ys:YF),(∀ x∈cs,e (some (g x)::js.map λj=>(en[j]?).join) h=.ok (f x) h)->ys.length+cs.length<=sizeLine ->
  gQ js en L aY e (cs.map g) ys h=.ok (ys++cs.map f) h
 |[],ys,_,_=>by rw[QK];unfold gQ;rw[OX lv];simp
 |x::xs,ys,he,hl=>by
  have hl':ys.length<sizeLine:=by simp at hl;lia
  rw[O8];unfold gQ
  rw[OX ⟨lv,hl'⟩];simp only[aY]
  rw[he x 's'];dsimp only;rw[BS lv xs (ys++[f x]) (λy hy=>he y (by simp[hy])) (by simp at hl ⊢;lia)]
  simp
theorem BU:∀ n:Nat,lE (List.replicate n (AV.bl true))=some (List.replicate n true)
 |0=>rfl
 |n+1=>by rw[TL,TL];simp[lE,BU n]
section
variable{h:AH}{t M m:Nat}{X:Nat->Str}{V:Nat->Option (Nat×Str)}{Kx:Nat->ZH}{Ks:Nat->Nat}{ps:YG}
abbrev iT:SE:=ag ay (au (gG 90) (ah (aB 1 ij (aa 1) af) (ah (aB 1 bx (aa 1) (ah (aa 0) af)) af))) (ag g9 (aa 2) (aa 0))
def Nv{ds bs:List De}{ob:Obj}(H:Ho h 0 1 10 ps kx ds bs)(l:∀ x,lk kx x=lk ky x)(eK:h[K]?=some (.dcz ob (ky.map (kG gS)))){v:Nat×Str}(lv:lk ky x=some v)(lx:v.2.length<=300):iT [some (.str x),some (.ref 0),some (.ref K)] h=.ok (.bl true) h:=by
 have l1:lk kx x=some v:=(l x).trans lv;have ft:=fK H l1;have rd:=Nk H.sh H.gd (H.tz _ (cx l1)).1 (by show v.2.length<=_;lia)
 have hs:=BH H;have ob0:=H.ob;have ix:g9 (.ref K) (.str x) h=.ok (.str v.2) h:=by
  have va:aT (ky.map (kG gS)) (.str x)=some (.str v.2):=by rw[jh,lv];rfl
  have k:(keyOf? (.str x)).isSome=true:=rfl;simp only[g9,eK,k,Qd,va]
 have eq:ay (.str v.2) (.str v.2) h=.ok (.bl true) h:=by simp
 have rd:gG 90 [.ref 1,.int v.1] h=.ok (.str v.2) h:=rd;unfold iT;generalize bx=G3,ij=G2,gG 90=G at *;simp[ob0,ft,hs,rd,ix,eq,-ay]
def Nw(Z:Zn h t M m X V Kx Ks ps):lW [0,1] 1 aY iT [some (.ref 0),some (.ref (Ks m))] h=.ok (.fl (List.replicate (Kx m).length (.bl true))) h:=by
 obtain⟨kx,H,l⟩:=Z.ho;obtain⟨k1,k2⟩:=Z.ks m Z.mM;have lK:=bT k2;have nd:=Z.hy.nd m Z.mM;have ct:=Z.hy.ct m Z.mM;refine Ke (n:=Ks m) rfl k2 ⟨λp hp x ex=>?_,λob=>?_⟩
 ·obtain⟨e,he,rfl⟩:=Qk.mp hp
  have:e.1=x:=by injection ex
  subst this;have nm:=(H.tz _ (cx ((l e.1).trans (pO nd he)))).2
  exact⟨OW (sG nm) 'd',Bz nm⟩
 ·have ez:(h.set (Ks m) (.dcz ob ((Kx m).map (kG gS))))[Ks m]?=some (.dcz ob ((Kx m).map (kG gS))):=OY lK
  have Hz:=H.keep (h':=h.set (Ks m) (.dcz ob ((Kx m).map (kG gS)))) λi hi=>OU ⋯
  have lv:Lz (Ks m) ob ((Kx m).map (kG gS)) (h.set (Ks m) (.dcz ob ((Kx m).map (kG gS))))=true:=@decide_eq_true _ (Classical.propDecidable _) ez;have c:=BS (js:=[0,1]) (en:=[some (.ref 0),some (.ref (Ks m))]) (e:=iT) (g:=λe:Str×Nat×Str=>AV.str e.1) (f:=λ_=>AV.bl true) lv (Kx m) [] (λe he=>by
   exact Nv Hz l ez (pO nd he) ((Z.nl m Z.mM).1 e he)) (by
    have:(Kx m).length<=sizeLine:=OW ct 'd'
    simpa using this)
  rw[QV];have e1:List.map ((λx:AV×AV=>x.1) ∘ kG gS) (Kx m)=(Kx m).map λe=>AV.str e.1:=rfl
  have e2:(Kx m).map (λ_=>AV.bl true)=List.replicate (Kx m).length (AV.bl true):=List.map_const' ..;rw[e2,QN] at c;rw[e1];exact c
def Nx(Z:Zn h t M m X V Kx Ks ps):oZ [.ref 0,.ref (Ks m)] h=.ok (.bl true) h:=by
 have c:=Nw Z;obtain⟨kx,H,l⟩:=Z.ho;have fn:=BF H;have ob0:=H.ob;have nd:=Z.hy.nd m Z.mM;have nm:∀ e∈Kx m,bt e.1=true:=λe he=>(H.tz _ (cx ((l e.1).trans (pO nd he)))).2
 have so:=xr (Z.ks m Z.mM).2 (Z.hy.ct m Z.mM) nm;have es:dF (kx.map (·.1))=dF ((Kx m).map (·.1)):=oM ((gc _).trans ((xq H.nd nd l).trans (gc _).symm)) (lR _) (lR _);rw[es] at fn;have ne:=Nu (dF ((Kx m).map (·.1))) h
 have so:lU (aa 1) [some (.ref 0),some (.ref (Ks m))] h=.ok (.fl ((dF ((Kx m).map (·.1))).map AV.str)) h:=so;have al:eJ [.fl (List.replicate (Kx m).length (.bl true))] h=.ok (.bl true) h:=by
  simp[BU]
 unfold oZ;generalize jX=G,lU (aa 1)=SK,(dF ((Kx m).map (·.1))).map AV.str=W,lW [0,1] 1 aY iT=C at *;simp[ob0,fn,so,ne,c,al,-eF,-eJ]
end
def Ny{a b:Str}{k:Nat}(hk:k<2)(h:AH):aj (.fl [.str a,.str b]) (.int (k:Int)) h=.ok (.str (if k=0 then a else b)) h:=by
 have:k=0\/k=1:=by lia
 rcases this with rfl|rfl<;>rfl
def BV(a b:Nat)(h:AH):ay (.int a) (.int b) h=.ok (.bl (decide (a=b))) h:=by
 have:decide ((a:Int)=(b:Int))=decide (a=b):=decide_eq_decide.mpr ⋯
 rw[xy,this]
def sR(x y:Str)(h:AH):ay (.str x) (.str y) h=.ok (.bl (decide (x=y))) h:=by simp
section
variable{h:AH}{t M m:Nat}{X:Nat->Str}{V:Nat->Option (Nat×Str)}{Kx:Nat->ZH}{Ks:Nat->Nat}{ps:YG}
abbrev gL(L:Nat)(o4 o5 o6 o7 o8 o9:Option AV):En:=[some (.ref 0),some (.ref L),some (.ref 14),some (.ref 15),o4,o5,o6,o7,o8,o9]
def BW(Z:Zn h t M m X V Kx Ks ps)(L:Nat)(o4 o5 o6 o7 o8 o9:Option AV):(ag ay (au gE (ah (aa 0) af)) (ag aj (ag aj (aa 2) (dJ bH (ae (.int 1)))) (ae (.int 1)))) (gL L o4 o5 o6 o7 o8 o9) h=.ok (.bl true) h:=by
 have nu:=Z.nums;have la:=Z.last;have i1:aj (pv Kx Ks m) (.int 1) h=.ok (cE (Kx m)) h:=rfl;have eq:=M3 (Kx m) h;have ng:bH (.int 1) h=.ok (.int (-1)) h:=rfl;generalize (-1:Int)=M1,pv Kx Ks m=PV,cE (Kx m)=NS,gE=G at *;simp[nu,ng,la,i1,eq,-aj,-ay,-bH]
def Nz(Z:Zn h t M m X V Kx Ks ps)(ht:t<=50)(L:Nat){kd:Nat}(hk:kd<2)(o7 o8 o9:Option AV):∃ (due:Str) (h1 h2:AH) (m':Nat),due=(if (if kd=0 then decide (m=0) else decide (M-m=0))=true then("NothingDone" : Str) else("" : Str)) /\
  cY [.ref 0,.tup [.str (if kd=0 then "back" else "again")]] h=.ok (.str due) h1 /\
  (aG (iA (aE (ag ay (aa 6) (ae (.str "")))) (aE (ag ay (aa 4) (ae (.int 0))))) (bh (cW aW bP (aa 3) (ah (dY aW bI (aa 2)) af))) (aG (aE (ag ay (aa 6) (ae (.str "")))) (bh (cW aW bP (aa 2) (ah (dY aW bI (aa 3)) af))) aH)) (gL L (some (.int kd)) (some (.str (if kd=0 then "back" else "again"))) (some (.str due)) o7 o8 o9) h1=.nx (gL L (some (.int kd)) (some (.str (if kd=0 then "back" else "again"))) (some (.str due)) o7 o8 o9) h2/\Zn h2 t M m' X V Kx Ks ps:=by
 have mM:=Z.mM;obtain⟨kx,H,l⟩:=Z.ho;have nn:decide (("NothingDone" : Str)="")=false:=by decide +kernel
 have yy:decide (("" : Str)="")=true:=by decide +kernel
 by_cases k0:kd=0
 ·subst k0
  rw[OX rfl,OX rfl];by_cases q:m=0
  ·subst q
   rw[Pf rfl,OX rfl];have e:=BI ((Bv H).trans (Mi H))
   refine⟨_,h,h,0,rfl,e,?_,Z⟩
   have eq:=sR "NothingDone" "" h;rw[nn] at eq;simp[eq,-ay]
  ·obtain⟨r,rfl⟩:∃ r,m=r+1:=⟨m-1,by lia⟩
   rw[O9 q,O0 Pe];obtain⟨h1,h2,h3,v,wd,pp,ap,_,l15,l15',Z3,_⟩:=Z.back ht
   refine⟨_,h1,h3,r,rfl,wd,?_,Z3⟩
   have l14:aW (.ref 14) h1=true:=(by assumption:aW (.ref 14) h1=true);have eq:=sR "" "" h1;rw[yy] at eq;have eq0:ay (.int 0) (.int 0) h1=.ok (.bl true) h1:=by simp
   simp[eq,eq0,l15,l14,pp,ap,-ay,-bI,-bP,-aW]
 ·obtain rfl:kd=1:=by lia
  rw[O0 k0,O0 k0];by_cases q:M-m=0
  ·rw[Pf q,OX rfl]
   rw[q] at H;have e:=BI ((BQ H).trans (Mj H))
   refine⟨_,h,h,m,rfl,e,?_,Z⟩
   have eq:=sR "NothingDone" "" h;rw[nn] at eq;simp[eq,-ay]
  ·rw[O9 q,O0 Pe]
   obtain⟨h1,h2,h3,v,wd,pp,ap,l14,l15,l14',Z3,_⟩:=Z.again ⋯ ht;refine⟨_,h1,h3,m+1,rfl,wd,?_,Z3⟩
   have eq:=sR "" "" h1;rw[yy] at eq;have eq0:ay (.int 1) (.int 0) h1=.ok (.bl false) h1:=by simp
   simp[eq,eq0,l15,l14,pp,ap,-ay,-bI,-bP,-aW]
def NB(Z:Zn h t M m X V Kx Ks ps)(eL:h[L]?=some (.lst [.int N]))(lL:15<L)(KL:∀ j,j<=M->Ks j≠L)(ht:t<50)(hz:ps.length<12000000) :
  ∃ h' M' m' X' V' Kx' Ks' ps',rJ [.ref 0,.ref L,.ref 14,.ref 15] h=.ok (.bl true) h'/\Zn h' (t+1) M' m' X' V' Kx' Ks' ps'/\ps'.length<=ps.length+240040:=by
 obtain⟨PP,ePP⟩:∃ PP:OutS->Prop,PP=λo=>∃ h' M' m' X' V' Kx' Ks' ps',eB o=.ok (.bl true) h'/\Zn h' (t+1) M' m' X' V' Kx' Ks' ps'/\ps'.length<=ps.length+240040:=⟨_,rfl⟩
 have toP:∀ o,PP o->∃ h' M' m' X' V' Kx' Ks' ps',eB o=.ok (.bl true) h'/\Zn h' (t+1) M' m' X' V' Kx' Ks' ps'/\ps'.length<=ps.length+240040:=λo z=>by rw[ePP] at z;exact z
 have ofP:∀ {h':AH} {M' m':Nat} {X':Nat->Str} {V':Nat->Option (Nat×Str)} {Kx':Nat->ZH} {Ks':Nat->Nat} {ps':YG},Zn h' (t+1) M' m' X' V' Kx' Ks' ps'->ps'.length<=ps.length+240040->PP (.rt (.bl true) h'):=λa b=>by rw[ePP];exact⟨_,_,_,_,_,_,_,_,rfl,a,b⟩
 clear ePP;obtain⟨kd,N1,hk,tk⟩:=pK 6 eL 'd' 'd'
 have tk:aS [.ref L,.int 6] h=.ok (.int kd) (h.set L (.lst [.int N1])):=tk;obtain⟨h1,eh1⟩:∃ h1,h1=h.set L (.lst [.int N1]):=⟨_,rfl⟩
 have L1:h1[L]?=some (.lst [.int N1]):=by rw[eh1];exact OY (bT eL)
 have Z1:Zn h1 t M m X V Kx Ks ps:=Z.kp lL KL λi _ hi=>by rw[eh1];exact OU (Ne.symm hi)
 rw[<- eh1] at tk;have mM:=Z1.mM
 refine mE (P:=λo=>∃ h' M' m' X' V' Kx' Ks' ps',o=.ok (.bl true) h'/\Zn h' (t+1) M' m' X' V' Kx' Ks' ps'/\ps'.length<=ps.length+240040) rfl (toP _ ?_)
 refine aU (P:=PP) (v:=.int kd) (h2:=h1) (by generalize aS=G at *;simp[tk]) ?_
 have c2:(aE (ag cP (aa 4) (ae (.int 2)))) (gL L (some (.int kd)) none none none none none) h1=.ok (decide (kd<2)) h1:=by
  have q:=Bn kd 2 h1;have q:cP (.int (kd:Int)) (.int 2) h1=.ok (.bl (decide (kd<2))) h1:=q;generalize (kd:Int)=KD,decide (kd<2)=bk at *;simp[q,-cP]
 by_cases q2:kd<2
 ·rw[Pf q2] at c2
  obtain⟨due,h2,h3,m',ed,wd,mv,Z3⟩:=Nz Z1 ⋯ L q2 none none none;refine mF (P:=PP) c2 ?_
  have s5:=Ny (a := "back") (b := "again") q2 h1;refine aU (P:=PR PP) (v:=.str (if kd=0 then "back" else "again")) (h2:=h1) (by generalize AV.str (if kd=0 then "back" else "again")=W,(kd:Int)=KD at *;simp[s5,-aj]) ?_
  have ln:aI [.ref 14] h1=.ok (.int ((m+1:Nat):Int)) h1:=by
   simp only[aI,Z1.pa,O2,P8]
  have g1:=BV (m+1) 1 h1;rw[show decide (m+1=1)=decide (m=0) from decide_eq_decide.mpr ⋯] at g1;have g2:iF (.ref 15) (.fl []) h1=.ok (.bl (decide (M-m=0))) h1:=by
   have:((List.range (M-m)).map λs=>pv Kx Ks (M-s)).isEmpty=decide (M-m=0):=by
    cases e:M-m with
    |zero=>rfl
    |succ n=>rw[PY,Py];simp
   simp only[iF,Z1.un,this]
  have g3:aj (.fl [.bl (decide (m=0)),.bl (decide (M-m=0))]) (.int (kd:Int)) h1=.ok (.bl (if kd=0 then decide (m=0) else decide (M-m=0))) h1:=by
   have:kd=0\/kd=1:=by lia
   rcases this with rfl|rfl<;>rfl
  have g4:(bp [.bl (if kd=0 then decide (m=0) else decide (M-m=0))] h1).bind (λv h1=>aj (.fl [.str "",.str "NothingDone"]) v h1)=.ok (.str due) h1:=by
   rw[Na,ed]
  refine aU (P:=PR PP) (v:=.str due) (h2:=h1) ?_ ?_
  ·generalize decide (M-m=0)=b2,decide (m=0)=b1,(kd:Int)=KD,((m+1:Nat):Int)=M1 at *;generalize (if kd=0 then b1 else b2)=b3 at *
   cases hi:bp [.bl b3] h1 with
   |ok v hh =>
    rw[hi] at g4;have g4:aj (.fl [.str "",.str "NothingDone"]) v hh=.ok (.str due) h1:=g4
    have g1:ay (.int M1) (.int 1) h1=.ok (.bl b1) h1:=g1;simp[ln,g1,g2,g3,hi,g4,-aj,-ay,-aI,-bp]
   |ex c hh=>rw[hi] at g4;cases g4
   |bad=>rw[hi] at g4;cases g4
  have nw:(aE (ag eF (au cY (ah (aa 0) (ah (aN (ah (aa 5) af)) af))) (aa 6))) (gL L (some (.int kd)) (some (.str (if kd=0 then "back" else "again"))) (some (.str due)) none none none) h1=.ok false h2:=by
   have ne0:eF (.str due) (.str due) h2=.ok (.bl false) h2:=by simp
   generalize AV.str (if kd=0 then "back" else "again")=W,cY=G at *;simp[wd,ne0,-eF]
  refine cD (P:=PR PP) nw (cM (P:=PR PP) mv (d8 (v:=.bl true) (h':=h3) ?_ ⟨_,_,rfl,ofP Z3.up ⋯⟩))
  have e:=BW Z3 L (some (.int kd)) (some (.str (if kd=0 then "back" else "again"))) (some (.str due)) none none none;generalize ag ay (au gE (ah (aa 0) af)) (ag aj (ag aj (aa 2) (dJ bH (ae (.int 1)))) (ae (.int 1)))=C2 at *;simp only[ao,e,Out.go]
 ·rw[O9 q2] at c2
  refine cD (P:=PP) c2 ?_
  obtain⟨kx,H,l⟩:=Z1.ho;have kxm:∀ e∈Kx m,bt e.1=true/\e.2.2.length<=300:=λe he=>by
   have:=pO (x:=e.1) (v:=e.2) (Z1.hy.nd m mM) he;exact⟨(H.tz _ (cx ((l e.1).trans this))).2,(Z1.nl m mM).1 e he⟩
  obtain⟨deed,due,K',h2,fd,F1,gd,gn⟩:=Nh (Z1.ks m mM).2 ⟨N1,L1⟩ (KL m mM) (Z1.hy.ct m mM) kxm;have Z2:Zn h2 t M m X V Kx Ks ps:=Z1.kp lL KL λi hi hn=>F1.fr i hi hn
  obtain⟨kx2,H2,l2⟩:=Z2.ho;have la:=Z1.last;have i0:aj (pv Kx Ks m) (.int 0) h1=.ok (.ref (Ks m)) h1:=rfl;have ng:bH (.int 1) h1=.ok (.int (-1)) h1:=rfl;refine cM (P:=PP) (e2:=gL L (some (.int kd)) none (some (.str due)) (some deed) (some (.ref K')) none) (h2:=h2) ?_ ?_
  ·generalize (-1:Int)=M1,pv Kx Ks m=PV,rq=G at *;simp[ng,la,i0,fd,-bH,-aj]
  have ob:=H2.ob;have obp:=H2.sh.ob;have hs:=BH H2;have mn:=Kz H2.sh;refine aU (P:=PP) (v:=.int ps.length) (h2:=h2) ?_ ?_
  ·generalize (ps.length:Int)=PL,jP=G2,ij=G at *;simp[ob,hs,obp,mn]
  by_cases hd:due=""
  ·subst hd
   obtain⟨x,oy,cc,g,hc,lK,kd',ny⟩:=gd rfl;obtain⟨h3,h4,h5,ps',X',V',Kx',Ks',wd,nu,eKs,i14,ap,i15,cl,Z5,len,_⟩:=Z2.deed g kd' (by have:=Z1.l15;lia) ny ⋯ ht
   have nw:(aE (ag eF (au cY (ah (aa 0) (ah (aa 7) af))) (aa 6))) (gL L (some (.int kd)) none (some (.str "")) (some deed) (some (.ref K')) (some (.int ps.length))) h2=.ok false h3:=by
    have ne0:eF (.str "") (.str "") h3=.ok (.bl false) h3:=by simp
    generalize (ps.length:Int)=PL,cY=G at *;simp[wd,ne0,-eF]
   refine cD (P:=PP) nw ?_
   have yy:(aE (ag ay (aa 6) (ae (.str "")))) (gL L (some (.int kd)) none (some (.str "")) (some deed) (some (.ref K')) (some (.int ps.length))) h3=.ok true h3:=by simp
   refine mF (P:=PP) yy (cM (P:=PR PP) (e2:=gL L (some (.int kd)) none (some (.str "")) (some deed) (some (.ref K')) (some (.int ps.length))) (h2:=h4) ?_ (cM (P:=PR PP) (e2:=gL L (some (.int kd)) none (some (.str "")) (some deed) (some (.ref K')) (some (.int ps.length))) (h2:=h5) ?_ (d8 (v:=.bl true) (h':=h5) rfl ⟨_,_,rfl,ofP Z5 ⋯⟩)))
   ·unfold pv at ap
    rw[eKs] at ap;generalize (ps.length:Int)=PL,cE (Kx' (m+1))=NS,gE=G at *;simp[i14,nu,ap,-bP,-aW]
   ·generalize (ps.length:Int)=PL at *
    simp[i15,cl,-i9,-aW]
  ·have wd:=gn hd kx2 ps _ _ l2 H2
   have nw:(aE (ag eF (au cY (ah (aa 0) (ah (aa 7) af))) (aa 6))) (gL L (some (.int kd)) none (some (.str due)) (some deed) (some (.ref K')) (some (.int ps.length))) h2=.ok false h2:=by
    have ne0:eF (.str due) (.str due) h2=.ok (.bl false) h2:=by simp
    generalize (ps.length:Int)=PL,cY=G at *;simp[wd,ne0,-eF]
   refine cD (P:=PP) nw ?_
   have yy:(aE (ag ay (aa 6) (ae (.str "")))) (gL L (some (.int kd)) none (some (.str due)) (some deed) (some (.ref K')) (some (.int ps.length))) h2=.ok false h2:=by simp[hd]
   refine cD (P:=PP) yy (d8 (v:=.bl true) (h':=h2) ?_ (ofP Z2.up ⋯))
   have e:=BW Z2 L (some (.int kd)) none (some (.str due)) (some deed) (some (.ref K')) (some (.int ps.length));have e2:(ag ay (aB 0 jP (aB 1 ij (aa 0) af) af) (aa 9)) (gL L (some (.int kd)) none (some (.str due)) (some deed) (some (.ref K')) (some (.int ps.length))) h2=.ok (.bl true) h2:=by
    have eq:=BV ps.length ps.length h2;rw[Pf rfl] at eq;generalize (ps.length:Int)=PL,jP=G2,ij=G at *;simp[ob,hs,obp,mn,eq,-ay]
   generalize ag ay (au gE (ah (aa 0) af)) (ag aj (ag aj (aa 2) (dJ bH (ae (.int 1)))) (ae (.int 1)))=C2,ag ay (aB 0 jP (aB 1 ij (aa 0) af) af) (aa 9)=C1 at *;dsimp only[gL] at e e2
   simp[e2,e]
end
def NC(l:YF)(k:Nat)(h:AH):dP (.fl l) none (some (k:Int)) h=.ok (.fl (l.take k)) h:=by
 simp only[dP]
 congr 2
 unfold dZ;rw[HT.sIx_nat,HT.sIx_none];show (l.drop 0).take (min k l.length-0)=_
 rw[RP,Nat.sub_zero];by_cases q:k<=l.length
 ·rw[QO q]
 ·rw[Nat.min_eq_right ⋯,PF (OV _),PF ⋯]
def xB{k:Nat}(h1:a<=k*j)(h2:b<=a+k):b<=k*(j+1):=by
 rw[Nat.mul_succ];lia
def ND(h:a<=240040*j)(hj:j<=43):a<=10321720:=(OW h (TJ 240040 hj))
abbrev e7(sc o4 o5 o6:Option AV):En:=[sc,some (.ref 0),some (.ref 14),some (.ref 15),o4,o5,o6]
section
variable{h:AH}{t M m:Nat}{X:Nat->Str}{V:Nat->Option (Nat×Str)}{Kx:Nat->ZH}{Ks:Nat->Nat}{ps:YG}
def NF(Z:Zn h t M m X V Kx Ks ps)(ht:t<50)(hz:ps.length<12000000)(c kk:Int)(sc o6:Option AV) :
  ∃ h' M' m' X' V' Kx' Ks' ps' c6,nH (e7 sc (some (.int kk)) (some (.int c)) o6) h=.nx (e7 sc (some (.int kk)) (some (.int c)) c6) h'/\Zn h' (t+1) M' m' X' V' Kx' Ks' ps'/\ps'.length<=ps.length+240040:=by
 have l15:=Z.l15;obtain⟨N,st⟩:=LY [c,kk] 's' 0 'd' h;have st:lY [.fl [.int c,.int kk],.int 0] h=.ok (.ref h.length) (h++[.lst [.int N]]):=st;obtain⟨L,eL0⟩:∃ L,L=h.length:=⟨_,rfl⟩
 obtain⟨h1,eh1⟩:∃ h1,h1=h++[AO.lst [.int N]]:=⟨_,rfl⟩
 rw[<- eL0,<- eh1] at st;have KL:∀ j,j<=M->Ks j≠L:=λj hj z=>by have:=Z.kl j hj;lia
 have Z1:Zn h1 t M m X V Kx Ks ps:=Z.kp (L:=L) ⋯ KL λi hi _=>by rw[eh1,O3 hi]
 have L1:h1[L]?=some (.lst [.int N]):=by rw[eh1,eL0];simp
 obtain⟨h2,M',m',X',V',Kx',Ks',ps',tu,Z2,len⟩:=NB Z1 L1 ⋯ KL ht hz;have sh:=Nx Z2;have la:=Z2.last;have i0:aj (pv Kx' Ks' m') (.int 0) h2=.ok (.ref (Ks' m')) h2:=rfl;have ng:bH (.int 1) h2=.ok (.int (-1)) h2:=rfl;refine⟨h2,M',m',X',V',Kx',Ks',ps',some (.ref L),?_,Z2,len⟩
 unfold nH;refine aU (P:=λz=>z=_) (v:=.ref L) (h2:=h1) ?_ ?_
 ·generalize lY=G at *
  simp[st]
 ·generalize (-1:Int)=M1,pv Kx' Ks' m'=PV,oZ=G2,rJ=G at *;simp[tu,ng,la,i0,sh,-bH,-aj]
end
def law_true(ns:List Int)(hl:ns.length<=63):∃ h',vG [.fl (ns.map AV.int)] []=.ok (.bl true) h':=by
 obtain⟨sc,esc⟩:∃ sc:Option AV,sc=some (.fl (ns.map AV.int)):=⟨_,rfl⟩
 obtain⟨h0,eh0⟩:∃ h0:AH,h0=.ins 1 [some (.ref 1),some (.ref 10),some (.ref 11),some (.ref 12)]::(rS 1++[.dct false [],.lst [],.lst []]):=⟨_,rfl⟩
 have mk:mS 1 4 nA af [sc,none,none,none,none,none,none] []=.ok (.ref 0) h0:=by rw[eh0];exact Mb _ []
 have H0:Ho h0 0 1 10 [] [] [] []:=by
  rw[eh0];exact⟨rfl,KP [.ins 1 [some (.ref 1),some (.ref 10),some (.ref 11),some (.ref 12)]] [AO.dct false [],.lst [],.lst []],.nil,rfl,rfl,rfl,nofun,⟨by decide,by decide⟩,by decide,QS⟩
 have l0:h0.length=13:=by rw[eh0];rfl
 obtain⟨h1,eh1⟩:∃ h1,h1=h0++[AO.dct false [],.lst [.tup [.ref 13,.fl []]]]:=⟨_,rfl⟩
 obtain⟨h2,eh2⟩:∃ h2,h2=h1++[AO.lst []]:=⟨_,rfl⟩
 have l1:h1.length=15:=by rw[eh1,Pw,l0];rfl
 have H2:Ho h2 0 1 10 [] [] [] []:=by rw[eh2,eh1];exact(H0.app _).app _
 have at2:∀ i,h2[13+i]?=([AO.dct false [],.lst [.tup [.ref 13,.fl []]],.lst []]:AH)[i]?:=λi=>by
  rw[eh2,eh1,R3,Pl ⋯,l0,show 13+i-13=i by lia];rfl
 have n0:cE []=.fl []:=rfl;have Z2:Zn h2 0 0 0 (λ_ => "") (λ_=>none) (λ_=>[]) (λ_=>13) []:=⟨⟨λ_ _=>QS,λ_ _=>Po _,λ_ _=>nofun,λj hj=>absurd hj (Qb _)⟩,⟨[],H2,λ_=>rfl⟩,OV _,OV _,
  (at2 1).trans (by rw[show (List.range (0+1)).map (pv (λ_=>[]) λ_=>13)=[AV.tup [.ref 13,cE []]] from rfl,n0];rfl),at2 2,λ_ _=>⟨.inl rfl,at2 0⟩,λ_ _=>⟨nofun,OV _⟩⟩
 obtain⟨cells,ecl⟩:∃ cells:List Int,cells=ns.take 40++[0,1,2]:=⟨_,rfl⟩
 have lc:cells.length<=43:=by rw[ecl,Pw,PZ];show min 40 ns.length+3<=43;lia
 obtain⟨e',h4,r4,q4⟩:=rK (w:=none) (all:=Sm.numbered 0 (cells.map AV.int)) (t:=.tup [4,5]) (b:=nH) (xs:=Sm.numbered 0 (cells.map AV.int)) (en:=e7 sc none none none) (h:=h2)
  (λj en hh=>j<=43->∃ (M m:Nat) (X:Nat->Str) (V:Nat->Option (Nat×Str)) (Kx:Nat->ZH) (Ks:Nat->Nat) (ps:YG) (o4 o5 o6:Option AV),en=e7 sc o4 o5 o6/\Zn hh j M m X V Kx Ks ps/\ps.length<=240040*j)
  (λ_=>⟨0,0,_,_,_,_,[],_,_,_,rfl,Z2,Po _⟩) (λ_ _ _ _=>rfl) (by
   intro j u en hh hu hp;rw[Sm.numbered_get,Pr] at hu;obtain⟨w,ev',rfl⟩:=Pd.mp hu
   obtain⟨c,ec,rfl⟩:=Pd.mp ev';have hj:j<cells.length:=(OS.mp ec).1;obtain⟨M,m,X,V,Kx,Ks,ps,o4,o5,o6,rfl,Z,lp⟩:=hp ⋯;have lp7:=ND lp ⋯;obtain⟨h',M',m',X',V',Kx',Ks',ps',c6,e,Z',lp'⟩:=NF Z ⋯ ⋯ c ((0+j:Nat):Int) sc o6;obtain⟨BB,hB⟩:∃ BB,BB=nH:=⟨_,rfl⟩
   rw[<- hB] at e ⊢;show thn (BB (e7 sc (some (.int ((0+j:Nat):Int))) (some (.int c)) o6) hh) _
   rw[e];exactλ_=>⟨M',m',X',V',Kx',Ks',ps',_,_,c6,rfl,Z',xB lp lp'⟩)
 unfold vG;refine mE (P:=λo=>∃ h',o=.ok (.bl true) h') rfl ?_
 obtain⟨PP,ePP⟩:∃ PP:OutS->Prop,PP=λo=>∃ h',eB o=.ok (.bl true) h':=⟨_,rfl⟩
 have toP:∀ o,PP o->∃ h',eB o=.ok (.bl true) h':=λo z=>by rw[ePP] at z;exact z
 have ofP:∀ h',PP (.rt (.bl true) h'):=λh'=>by rw[ePP];exact⟨h',rfl⟩
 clear ePP;refine toP _ ?_
 refine aU (v:=.ref 0) (h2:=h0) ?_ ?_
 ·have mk':=mk
  rw[esc] at mk';generalize mS 1 4 nA af=MK at *;exact mk'
 refine aU (v:=.ref 14) (h2:=h1) ?_ ?_
 ·rw[eh1,<- l0];simp[l0]
 refine aU (v:=.ref 15) (h2:=h2) ?_ ?_
 ·rw[eh2,<- l1];simp
 refine cM ((rL (t:=.tup [4,5]) (b:=nH) (h1:=h2) (w:=none) (xs:=Sm.numbered 0 (cells.map AV.int)) ?_).trans (esc▸r4)) (d8 (v:=.bl true) (h':=h4) rfl (ofP h4))
 have sl:min 40 ns.length+3<=sizeLine:=OW (m:=43) ⋯ 'd';have ct:dP (.fl (ns.map AV.int)) none (some 40) h2=.ok (.fl ((ns.map AV.int).take 40)) h2:=NC _ 40 h2;have ad:az (.fl ((ns.map AV.int).take 40)) (.fl [.int 0,.int 1,.int 2]) h2=.ok (.fl (cells.map AV.int)) h2:=by
  have q:((ns.map AV.int).take 40).length+[AV.int 0,.int 1,.int 2].length<=sizeLine:=by rw[PZ,O2];exact sl
  show (if ((ns.map AV.int).take 40).length+[AV.int 0,.int 1,.int 2].length<=sizeLine then Out.ok (AV.fl ((ns.map AV.int).take 40++[AV.int 0,.int 1,.int 2])) h2 else .bad)=_
  rw[OX q,ecl,Py,List.map_take];rfl
 clear esc ecl r4;generalize cells.map AV.int=CS,ns.map AV.int=NS at *;generalize NS.take 40=NT at *;simp[ct,ad,-dP,-az]
def xC:bootBuiltins "sorted"=some (.builtin "sorted"):=by decide +kernel
def aM(i:Nat):Stmt:=PySem.Challenge.pw_skeinwood_k79_house_by_deeds.main.body.getD i (.Pass ⟨0,0,0,0⟩)
abbrev BX:Stmt:=cy (aM 22) 0
abbrev xD:Stmt:=cy (aM 46) 0
abbrev BY:Stmt:=aM 49
abbrev BZ:Stmt:=aM 50
abbrev B3:Stmt:=aM 51
abbrev sS:Stmt:=aM 56
abbrev B4:Stmt:=aM 52
abbrev xE:Stmt:=aM 57
abbrev xF:Stmt:=aM 58
abbrev xG:Stmt:=aM 59
abbrev B5:Stmt:=cy (aM 22) 3
abbrev xH:Stmt:=cy (aM 46) 14
abbrev B6:Stmt:=cy (aM 46) 11
abbrev B7:Stmt:=aM 18
abbrev B8:Stmt:=aM 47
abbrev xI:Stmt:=cy (aM 46) 13
abbrev B9:Stmt:=aM 14
abbrev Cb:Stmt:=cy (aM 22) 11
abbrev Cc:Stmt:=cy (aM 22) 12
abbrev Cd:Stmt:=cy (aM 22) 14
abbrev Ce:Stmt:=cy (aM 22) 17
abbrev Cf:Stmt:=cy (aM 22) 16
abbrev Cg:Stmt:=cy (aM 22) 2
abbrev Ci:Stmt:=aM 35
abbrev Cj:Stmt:=aM 16
abbrev Ck:Stmt:=aM 15
abbrev Cm:Stmt:=aM 17
abbrev Cn:Stmt:=aM 19
abbrev Co:Stmt:=cy (aM 22) 15
abbrev Cp:Stmt:=cy (aM 22) 1
abbrev Cq:Stmt:=aM 25
abbrev Cr:Stmt:=cy (aM 46) 4
abbrev Cs:Stmt:=cy (aM 46) 3
abbrev Ct:Stmt:=cy (aM 46) 5
abbrev Cu:Stmt:=aM 27
abbrev Cv:Stmt:=cy (aM 22) 13
abbrev Cw:Stmt:=cy (aM 22) 5
abbrev Cy:Stmt:=cy (aM 22) 10
abbrev Cz:Stmt:=cy (aM 22) 9
abbrev CB:Stmt:=aM 28
abbrev CD:Stmt:=cy (aM 22) 4
abbrev CG:Stmt:=aM 33
abbrev CH:Stmt:=cy (aM 22) 8
abbrev CI:Stmt:=aM 30
abbrev CJ:Stmt:=aM 34
abbrev CK:Stmt:=aM 31
abbrev CL:Stmt:=aM 29
abbrev CM:Stmt:=aM 32
abbrev CN:Stmt:=aM 24
abbrev CO:Stmt:=cy (aM 46) 6
abbrev CQ:Stmt:=aM 38
abbrev CT:Stmt:=aM 43
abbrev CV:Stmt:=aM 44
abbrev CW:Stmt:=aM 41
abbrev CY:Stmt:=cy (aM 46) 7
abbrev xJ:Stmt:=aM 39
abbrev CZ:Stmt:=aM 42
abbrev C6:Stmt:=cy (aM 46) 8
abbrev C7:Stmt:=aM 36
abbrev C8:Stmt:=aM 26
abbrev C9:Stmt:=cy (aM 46) 9
abbrev Da:Stmt:=cy (aM 46) 10
abbrev Dc:Stmt:=cy (aM 46) 12
abbrev Df:Stmt:=aM 54
abbrev xK:Stmt:=aM 55
abbrev Dg:Stmt:=cy (aM 46) 2
abbrev Dh:Stmt:=aM 61
abbrev Di:Stmt:=cy (aM 46) 1
abbrev xM:Stmt:=aM 62
abbrev Dj:Stmt:=aM 53
abbrev sT:Stmt:=aM 60
abbrev sU:Stmt:=aM 63
def fg:Nat->List Str
 |0=>["pieces", "numbers", "sign_counts", "end_counts", "leaf_counts", "heights", "first_leaves", "last_leaves"]
 |1=>["own_shelf", "texts", "deeds", "taken_back"]
 |_=>[]
theorem NG:∀ c,(fg c).Nodup
 |0=>by decide +kernel
 |1=>by decide +kernel
 |_+2=>QS
theorem NH:∀ c,(fg c).length<=500
 |0=>by decide +kernel
 |1=>by decide +kernel
 |_+2=>Po _
abbrev cN(K:ZA)(cls exc:Nat->YC):Tb:=⟨K,cls,exc,fg,NG,NH⟩
structure Facts(P:ZD)(w:ZF)(K:ZA)(cls exc:Nat->YC)(mg:YA)(base:Heap):Prop where
 No:mg "abs"=none
 LT:mg "all"=none
 J_:mg "bool"=none
 I_:mg "dict"=none
 ww:mg "enumerate"=none
 NE:mg "int"=none
 sw:mg "isinstance"=none
 L_:mg "len"=none
 N_:mg "max"=none
 KK:mg "min"=none
 IO:mg "range"=none
 Go:mg "sorted"=none
 K_:mg "str"=none
 LE:mg "sum"=none
 r_:∃ t,mg "LEAF_SIGNS"=some (.int 8 t)
 ss:∃ t,mg "NAME_SIGNS"=some (.int 8 t)
 q_:∃ t,mg "MOST_PLAIN"=some (.int 10000 t)
 u_:∃ t,mg "MOST_SIGNS"=some (.int 1000000000000000000 t)
 EQ:CF (cN K cls exc) 0
 Fa:CF (cN K cls exc) 1
 Db:GX (cN K cls exc) mg base 0 "NoText"
 B_:GX (cN K cls exc) mg base 1 "TooLong"
 Ch:GX (cN K cls exc) mg base 2 "NoPlace"
 D_:GX (cN K cls exc) mg base 3 "NoName"
 jv:GX (cN K cls exc) mg base 4 "NothingDone"
 kx_NoText:∃ C,mg "NoText"=some (.ref C)/\∀ c C',exc c=some C'->bR K C'/\PySem.W.kitOne K (.ref C') (.ref C)=some (rk c)
 kx_TooLong:∃ C,mg "TooLong"=some (.ref C)/\∀ c C',exc c=some C'->bR K C'/\PySem.W.kitOne K (.ref C') (.ref C)=some (rm c)
 o_:DI K cls mg 0 "Shelf" "Shelf.__init__" BX ["self"]
 ul:DI K cls mg 1 "House" "House.__init__" xD ["self"]
 wS:DG K mg "_law_mixed" BY ["cell", "k"]
 pi:DG K mg "_law_stream" BZ ["script", "k"]
 x0:DG K mg "_law_take" B3 ["stream", "many"]
 z_:DG K mg "_law_name" sS ["stream", "known", "odd"]
 wr:DG K mg "_law_plain" B4 ["stream", "most"]
 v_:DG K mg "_law_given" xE ["stream", "known"]
 k_:DG K mg "_law_changed" xF ["stream", "known"]
 AT:DG K mg "_law_deed" xG ["stream", "known"]
 s_:cu K cls 0 "many" "Shelf.many" B5 ["self"]
 cr:cu K cls 1 "set_text" "House.set_text" xH ["self", "name", "text"]
 on:cu K cls 1 "back" "House.back" B6 ["self"]
 C_:DG K mg "is_name" B7 ["thing"]
 u8:DG K mg "check_name" B8 ["name"]
 xL:cu K cls 1 "do" "House.do" xI ["self", "name", "text"]
 y_:DG K mg "is_whole" B9 ["thing"]
 bv:cu K cls 0 "has_piece" "Shelf.has_piece" Cb ["self", "number"]
 ac:cu K cls 0 "check_piece" "Shelf.check_piece" Cc ["self", "number"]
 am:cu K cls 0 "check_fork" "Shelf.check_fork" Cd ["self", "one", "other"]
 wn:cu K cls 0 "lay" "Shelf.lay" Ce ["self", "made"]
 ci:cu K cls 0 "lay_fork" "Shelf.lay_fork" Cf ["self", "made"]
 sB:cu K cls 0 "fork" "Shelf.fork" Cg ["self", "one", "other"]
 Id:DG K mg "halved" Ci ["shelf", "leaves"]
 e_:DG K mg "is_plain_sign" Cj ["sign"]
 w_:DG K mg "is_plain" Ck ["thing"]
 zn:DG K mg "is_short" Cm ["thing"]
 A_:DG K mg "ends_in" Cn ["plain"]
 dL:cu K cls 0 "lay_leaf" "Shelf.lay_leaf" Co ["self", "made"]
 p_:cu K cls 0 "leaf" "Shelf.leaf" Cp ["self", "plain"]
 IN:DG K mg "built" Cq ["shelf", "plain"]
 sK:cu K cls 1 "give" "House.give" Cr ["self", "name", "plain"]
 ut:cu K cls 1 "text" "House.text" Cs ["self", "name"]
 d_:cu K cls 1 "copy_of" "House.copy_of" Ct ["self", "name", "other"]
 ii:DG K mg "check_length" Cu ["signs"]
 bd:cu K cls 0 "check_text" "Shelf.check_text" Cv ["self", "text"]
 ol:cu K cls 0 "signs" "Shelf.signs" Cw ["self", "text"]
 bi:cu K cls 0 "last_leaf" "Shelf.last_leaf" Cy ["self", "text"]
 a_:cu K cls 0 "first_leaf" "Shelf.first_leaf" Cz ["self", "text"]
 wf:DG K mg "are_close" CB ["shelf", "one", "other"]
 mt:cu K cls 0 "piece" "Shelf.piece" CD ["self", "number"]
 wP:DG K mg "with_last" CG ["shelf", "text", "leaf"]
 h_:cu K cls 0 "height" "Shelf.height" CH ["self", "text"]
 n_:DG K mg "turned_left" CI ["shelf", "one", "other"]
 f_:DG K mg "without_first" CJ ["shelf", "text"]
 io:DG K mg "turned_right" CK ["shelf", "one", "other"]
 Ev:DG K mg "linked" CL ["shelf", "one", "other"]
 E_:DG K mg "welded" CM ["shelf", "one", "other"]
 G_:DG K mg "joined" CN ["shelf", "one", "other"]
 ge:cu K cls 1 "join_to" "House.join_to" CO ["self", "name", "other"]
 v4:DG K mg "check_gap" CQ ["shelf", "text", "at"]
 zb:DG K mg "front_of" CT ["shelf", "text", "at"]
 Cl:DG K mg "back_of" CV ["shelf", "text", "at"]
 H_:DG K mg "put_in" CW ["shelf", "text", "at", "other"]
 c_:cu K cls 1 "put_into" "House.put_into" CY ["self", "name", "at", "other"]
 g_:DG K mg "check_stretch" xJ ["shelf", "text", "begin", "end"]
 v0:DG K mg "taken_out" CZ ["shelf", "text", "begin", "end"]
 b_:cu K cls 1 "take_from" "House.take_from" C6 ["self", "name", "begin", "end"]
 BT:DG K mg "doubled" C7 ["shelf", "text", "many"]
 wT:DG K mg "repeated" C8 ["shelf", "text", "many"]
 i_:cu K cls 1 "repeat" "House.repeat" C9 ["self", "name", "many"]
 t_:cu K cls 1 "drop" "House.drop" Da ["self", "name"]
 j_:cu K cls 1 "again" "House.again" Dc ["self"]
 F_:DG K mg "_law_do" Df ["house", "deed"]
 xz:DG K mg "_law_word" xK ["house", "deed"]
 jp:cu K cls 1 "names" "House.names" Dg ["self"]
 l_:DG K mg "_law_numbers" Dh ["house"]
 m_:cu K cls 1 "shelf" "House.shelf" Di ["self"]
 x_:DG K mg "_law_turn" xM ["house", "stream", "past", "undone"]
 wv:DG K mg "_law_reads" Dj ["shelf", "text"]
 wE:DG K mg "_law_shown" sT ["house", "known"]
 M_:DG K mg "law" sU ["script"]
 cu_NoName:CU (cN K cls exc) mg "NoName" lX
 cu_NoPlace:CU (cN K cls exc) mg "NoPlace" oR
 cu_NoText:CU (cN K cls exc) mg "NoText" nz
 cu_NothingDone:CU (cN K cls exc) mg "NothingDone" vC
 cu_TooLong:CU (cN K cls exc) mg "TooLong" rn
def NI:aC ["self"] ["self"] (bK xD):=(gb)
def NJ:aC ["stream", "known", "odd", "some", "kind", "letters"] ["stream", "known", "odd"] (bK sS):=(gb)
def NK:aC ["stream", "known", "odd", "name", "other", "due", "plain"] ["stream", "known"] (bK xE):=(gb)
def NL:aC ["stream", "known", "kind", "name", "other", "plain", "more", "gone", "both", "at", "end", "due", "many"] ["stream", "known"] (bK xF):=(gb)
def NM:aC ["stream", "known", "kind", "name", "left", "deed", "due", "plain", "behind"] ["stream", "known"] (bK xG):=(gb)
def NO:aC ["self", "name", "text"] ["self", "name", "text"] (bK xH):=(gb)
def NP:aC ["self", "name", "text"] ["self", "name", "text"] (bK xI):=(gb)
def NQ:aC ["shelf", "text", "begin", "end", "signs"] ["shelf", "text", "begin", "end"] (bK xJ):=(gb)
def NR:aC ["house", "deed", "told", "e"] ["house", "deed"] (bK xK):=(gb)
def NU:aC ["house", "stream", "past", "undone", "kind", "word", "due", "deed", "known", "many"] ["house", "stream", "past", "undone"] (bK xM):=(gb)
def NV:aC ["house", "known"] ["house", "known"] (bK sT):=(gb)
def NW:aC ["script", "house", "past", "undone", "k", "cell", "stream"] ["script"] (bK sU):=(gb)
abbrev Gf{P:ZD}{w:ZF}{K:ZA}{cls exc:Nat->YC}{mg:YA}{base:Heap}(_:Facts P w K cls exc mg base):=GF P w (cN K cls exc) mg base
abbrev Gm{P:ZD}{w:ZF}{K:ZA}{cls exc:Nat->YC}{mg:YA}{base:Heap}(_:Facts P w K cls exc mg base):=GM P w (cN K cls exc) mg base
abbrev Gk{P:ZD}{w:ZF}{K:ZA}{cls exc:Nat->YC}{mg:YA}{base:Heap}(_:Facts P w K cls exc mg base):=GK P w (cN K cls exc) mg base
section
variable{P:ZD}{w:ZF}{K:ZA}{cls exc:Nat->YC}{mg:YA}{base:Heap}(Z:Facts P w K cls exc mg base)
include Z
set_option maxHeartbeats 0 in
def Z_:(Gk Z 1 0 "Shelf" vD)∧(Gf Z 1 "_law_mixed" rp)∧(Gf Z 1 "_law_mixed" rp→Gf Z 2 "_law_stream" lY)∧(Gf Z 1 "_law_take" aS)∧(Gf Z 1 "_law_take" aS→Gf Z 2 "_law_plain" nE)∧(Gm Z 1 0 "many" jP)∧(GM P w (cN K cls exc) mg base 1 1 "set_text" iG→Gm Z 2 1 "back" kF)∧(Gf Z 1 "is_name" gj)∧(Gf Z 1 "is_name" gj→Gf Z 2 "check_name" iH)∧(Gf Z 1 "is_whole" rA)∧(Gf Z 1 "is_whole" rA→Gm Z 2 0 "has_piece" rB)∧(Gm Z 2 0 "has_piece" rB→Gm Z 3 0 "check_piece" l9)∧(Gm Z 3 0 "check_piece" l9→Gm Z 4 0 "check_fork" oS)∧(Gm Z 1 0 "lay" oT)∧(Gm Z 1 0 "lay" oT→Gm Z 2 0 "lay_fork" oU)∧(Gm Z 4 0 "check_fork" oS→Gm Z 2 0 "lay_fork" oU→Gm Z 5 0 "fork" aV)∧(Gm Z 5 0 "fork" aV→∀ d,Gf Z (5+d+1) "halved" (ie d))∧(Gf Z 1 "is_plain_sign" oV)∧(Gf Z 1 "is_plain_sign" oV→Gf Z 2 "is_plain" iI)∧(Gf Z 2 "is_plain" iI→Gf Z 3 "is_short" rC)∧(Gf Z 1 "ends_in" rD)∧(Gm Z 1 0 "lay" oT→Gf Z 1 "ends_in" rD→Gm Z 2 0 "lay_leaf" oW)∧(Gf Z 3 "is_short" rC→Gm Z 2 0 "lay_leaf" oW→Gm Z 4 0 "leaf" eh)∧(Gf Z 2 "is_plain" iI→Gm Z 4 0 "leaf" eh→Gf Z (5+20+1) "halved" (ie 20)→Gf Z 27 "built" jd)∧(Gf Z 2 "check_name" iH→GM P w (cN K cls exc) mg base 2 1 "do" bV→Gf Z 27 "built" jd→Gm Z 28 1 "give" jQ)∧(Gf Z 1 "is_name" gj→Gm Z 2 1 "text" bx)∧(Gf Z 2 "check_name" iH→GM P w (cN K cls exc) mg base 2 1 "do" bV→Gm Z 2 1 "text" bx→Gm Z 3 1 "copy_of" jR)∧(Gf Z 1 "check_length" jS)∧(Gm Z 3 0 "check_piece" l9→Gm Z 4 0 "check_text" kH)∧(Gm Z 4 0 "check_text" kH→Gm Z 5 0 "signs" eT)∧(Gm Z 4 0 "check_text" kH→Gm Z 5 0 "last_leaf" oX)∧(Gm Z 4 0 "check_text" kH→Gm Z 5 0 "first_leaf" oY)∧(Gm Z 5 0 "signs" eT→Gm Z 5 0 "last_leaf" oX→Gm Z 5 0 "first_leaf" oY→Gf Z 6 "are_close" rE)∧(Gm Z 3 0 "check_piece" l9→Gm Z 4 0 "piece" eU)∧(Gm Z 4 0 "piece" eU→Gm Z 5 0 "fork" aV→∀ d,Gf Z (5+d+1) "with_last" (ig d))∧(Gm Z 4 0 "check_text" kH→Gm Z 5 0 "height" hE)∧(Gm Z 5 0 "height" hE→Gm Z 5 0 "fork" aV→Gm Z 4 0 "piece" eU→Gf Z 6 "turned_left" gD)∧(Gm Z 4 0 "piece" eU→Gf Z 6 "turned_left" gD→∀ d,Gf Z (6+d+1) "without_first" (fT d))∧(Gm Z 5 0 "height" hE→Gm Z 5 0 "fork" aV→Gm Z 4 0 "piece" eU→Gf Z 6 "turned_right" iJ)∧(Gm Z 5 0 "height" hE→Gm Z 4 0 "piece" eU→Gf Z 6 "turned_left" gD→Gf Z 6 "turned_right" iJ→Gm Z 5 0 "fork" aV→∀ d,Gf Z (6+d+1) "linked" (fI d))∧(Gm Z 4 0 "piece" eU→Gm Z 5 0 "last_leaf" oX→Gm Z 5 0 "first_leaf" oY→Gf Z (5+90+1) "with_last" (ig 90)→Gm Z 4 0 "leaf" eh→Gf Z (6+90+1) "without_first" (fT 90)→Gf Z (6+90+1) "linked" (fI 90)→Gf Z 98 "welded" mf)∧(Gf Z 1 "check_length" jS→Gm Z 5 0 "signs" eT→Gf Z 6 "are_close" rE→Gf Z (6+90+1) "linked" (fI 90)→Gf Z 98 "welded" mf→Gf Z 99 "joined" bQ)∧(GM P w (cN K cls exc) mg base 2 1 "do" bV→Gf Z 99 "joined" bQ→Gm Z 2 1 "text" bx→Gm Z 100 1 "join_to" jT)∧(Gm Z 5 0 "signs" eT→Gf Z 6 "check_gap" kI)∧(Gm Z 5 0 "signs" eT→Gm Z 4 0 "piece" eU→Gm Z 4 0 "leaf" eh→Gf Z 99 "joined" bQ→∀ d,Gf Z (99+d+1) "front_of" (dh d))∧(Gm Z 5 0 "signs" eT→Gm Z 4 0 "piece" eU→Gm Z 4 0 "leaf" eh→Gf Z 99 "joined" bQ→∀ d,Gf Z (99+d+1) "back_of" (dq d))∧(Gm Z 5 0 "signs" eT→Gf Z 6 "check_gap" kI→Gf Z 1 "check_length" jS→Gf Z 99 "joined" bQ→Gf Z (99+90+1) "front_of" (dh 90)→Gf Z (99+90+1) "back_of" (dq 90)→Gf Z 191 "put_in" je)∧(GM P w (cN K cls exc) mg base 2 1 "do" bV→Gf Z 191 "put_in" je→Gm Z 2 1 "text" bx→Gm Z 192 1 "put_into" iK)∧(GF P w (cN K cls exc) mg base 6 "check_stretch" jU→Gf Z 99 "joined" bQ→Gf Z (99+90+1) "front_of" (dh 90)→Gf Z (99+90+1) "back_of" (dq 90)→Gf Z 191 "taken_out" jV)∧(GM P w (cN K cls exc) mg base 2 1 "do" bV→Gf Z 191 "taken_out" jV→Gm Z 2 1 "text" bx→Gm Z 192 1 "take_from" jW)∧(Gf Z 99 "joined" bQ→∀ d,Gf Z (99+d+1) "doubled" (eV d))∧(Gm Z 5 0 "signs" eT→Gf Z 1 "check_length" jS→Gf Z (99+64+1) "doubled" (eV 64)→Gf Z 165 "repeated" hJ)∧(GM P w (cN K cls exc) mg base 2 1 "do" bV→Gf Z 165 "repeated" hJ→Gm Z 2 1 "text" bx→Gm Z 166 1 "repeat" iL)∧(Gm Z 2 1 "text" bx→GM P w (cN K cls exc) mg base 2 1 "do" bV→Gm Z 3 1 "drop" mr)∧(GM P w (cN K cls exc) mg base 1 1 "set_text" iG→Gm Z 2 1 "again" kJ)∧(Gm Z 28 1 "give" jQ→Gm Z 3 1 "copy_of" jR→Gm Z 100 1 "join_to" jT→Gm Z 192 1 "put_into" iK→Gm Z 192 1 "take_from" jW→Gm Z 166 1 "repeat" iL→Gm Z 3 1 "drop" mr→Gm Z 2 1 "again" kJ→Gm Z 2 1 "back" kF→Gf Z 193 "_law_do" dG)∧(Gm Z 1 1 "names" jX)∧(Gm Z 1 1 "names" jX→Gm Z 2 1 "text" bx→Gf Z 3 "_law_numbers" gE)∧(Gm Z 1 1 "shelf" ij)∧(Gm Z 4 0 "piece" eU→∀ d,Gf Z (4+d+1) "_law_reads" (gG d)):=by
 refine⟨gK Z.o_ ?_,
  gF Z.wS ?_,
  λ_=>gF Z.pi ?_,
  gF Z.x0 ?_,
  λ_=>gF Z.wr ?_,
  gM Z.s_ ?_,
  λ_=>gM Z.on ?_,
  gF Z.C_ ?_,
  λ_=>gF Z.u8 ?_,
  gF Z.y_ ?_,
  λ_=>gM Z.bv ?_,
  λ_=>gM Z.ac ?_,
  λ_=>gM Z.am ?_,
  gM Z.wn ?_,
  λ_=>gM Z.ci ?_,
  λ_ _=>gM Z.sB ?_,
  λ_=>λd=>d.rec (gF Z.Id ?_) (λd _=>gF Z.Id ?_),
  gF Z.e_ ?_,
  λ_=>gF Z.w_ ?_,
  λ_=>gF Z.zn ?_,
  gF Z.A_ ?_,
  λ_ _=>gM Z.dL ?_,
  λ_ _=>gM Z.p_ ?_,
  λ_ _ _=>gF Z.IN ?_,
  λ_ _ _=>gM Z.sK ?_,
  λ_=>gM Z.ut ?_,
  λ_ _ _=>gM Z.d_ ?_,
  gF Z.ii ?_,
  λ_=>gM Z.bd ?_,
  λ_=>gM Z.ol ?_,
  λ_=>gM Z.bi ?_,
  λ_=>gM Z.a_ ?_,
  λ_ _ _=>gF Z.wf ?_,
  λ_=>gM Z.mt ?_,
  λ_ _=>λd=>d.rec (gF Z.wP ?_) (λd _=>gF Z.wP ?_),
  λ_=>gM Z.h_ ?_,
  λ_ _ _=>gF Z.n_ ?_,
  λ_ _=>λd=>d.rec (gF Z.f_ ?_) (λd _=>gF Z.f_ ?_),
  λ_ _ _=>gF Z.io ?_,
  λ_ _ _ _ _=>λd=>d.rec (gF Z.Ev ?_) (λd _=>gF Z.Ev ?_),
  λ_ _ _ _ _ _ _=>gF Z.E_ ?_,
  λ_ _ _ _ _=>gF Z.G_ ?_,
  λ_ _ _=>gM Z.ge ?_,
  λ_=>gF Z.v4 ?_,
  λ_ _ _ _=>λd=>d.rec (gF Z.zb ?_) (λd _=>gF Z.zb ?_),
  λ_ _ _ _=>λd=>d.rec (gF Z.Cl ?_) (λd _=>gF Z.Cl ?_),
  λ_ _ _ _ _ _=>gF Z.H_ ?_,
  λ_ _ _=>gM Z.c_ ?_,
  λ_ _ _ _=>gF Z.v0 ?_,
  λ_ _ _=>gM Z.b_ ?_,
  λ_=>λd=>d.rec (gF Z.BT ?_) (λd _=>gF Z.BT ?_),
  λ_ _ _=>gF Z.wT ?_,
  λ_ _ _=>gM Z.i_ ?_,
  λ_ _=>gM Z.t_ ?_,
  λ_=>gM Z.j_ ?_,
  λ_ _ _ _ _ _ _ _ _=>gF Z.F_ ?_,
  gM Z.jp ?_,
  λ_ _=>gF Z.l_ ?_,
  gM Z.m_ ?_,
  λ_=>λd=>d.rec (gF Z.wv ?_) (λd _=>gF Z.wv ?_)⟩
 all_goals(intro _ _ _ _ _ _ _ _ _ _ _;(first|refine bA ?_|refine aQ ?_ ?_|exact ve);repeat' first
  |((exists L2.PE _ (.Name _ _) _);first|exact aq _)
  |((exists L2.PE _ (.Name "LEAF_SIGNS" _) _);first|exact jI rfl (Z.r_))
  |((exists L2.PE _ (.Name "MOST_PLAIN" _) _);first|exact jI rfl (Z.q_))
  |((exists L2.PE _ (.Name "MOST_SIGNS" _) _);first|exact jI rfl (Z.u_))
  |((exists L2.PE _ (.Name "NAME_SIGNS" _) _);first|exact jI rfl (Z.ss))
  |((exists L2.PA _ [] _);first|exact aA)
  |((exists L2.PA _ (_::_) _);first|refine ak ?_ ?_)
  |((exists L2.PSs _ _ (tS _ _ qZ));exact ve)
  |((exists L2.PSs _ [_] _);first|refine bA ?_)
  |((exists L2.PSs _ (_::_) _);first|refine aQ ?_ ?_)
  |((exists L2.PSs _ [] _);first|exact dO)
  |((exists L2.PSs _ _ _);first|exact ve)
  |((exists L2.PE _ (.Constant (.int _) _ _) _);first|exact aO)
  |((exists L2.PE _ (.Constant (.str _) _ _) _);first|exact aK)
  |((exists L2.PE _ (.Constant _ _ _) _);first|exact eP|exact ox)
  |((exists L2.PE _ (.Call (.Name _ _) (_::_) _ _) _);first|refine cn rfl ?_ ‹_› ?_ rfl ?_)
  |((exists L2.PE _ (.Call (.Attribute _ _ _) (_::_) _ _) _);first|refine qQ rfl ?_ ‹_› ?_ ?_ ?_)
  |((exists L2.PE _ (.Call (.Attribute _ _ _) [] _ _) _);first|refine lI rfl ?_ ‹_› ?_ ?_)
  |((exists L2.PE _ (.Call (.Name _ _) [] _ _) _);first|refine uU rfl ?_ ‹_› ?_ rfl)
  |((exists L2.PE _ (.Call (.Name "abs" _) _ _ _) _);first|refine bu (No) rfl (Z.No) PyProof.Rows.boot_abs ?_)
  |((exists L2.PE _ (.Call (.Name "all" _) _ _ _) _);first|refine bu (LT rfl) rfl (Z.LT) S0 ?_)
  |((exists L2.PE _ (.Call (.Name "len" _) _ _ _) _);first|refine bu (L_ rfl) rfl (Z.L_) P9 ?_)
  |((exists L2.PE _ (.Call (.Name "max" _) _ _ _) _);first|refine bu (lN) rfl (Z.N_) P4 ?_)
  |((exists L2.PE _ (.Call (.Name "min" _) _ _ _) _);first|refine bu (zN) rfl (Z.KK) S8 ?_)
  |((exists L2.PE _ (.Call (.Name "sorted" _) _ _ _) _);first|refine bu (JK rfl) rfl (Z.Go) xC ?_)
  |((exists L2.PE _ (.Call (.Name "sum" _) _ _ _) _);first|refine bu (LE rfl) rfl (Z.LE) PyProof.Rows.boot_sum ?_)
  |((exists L2.PE _ (.Call (.Name "int" _) _ _ _) _);first|refine cC (NE) rfl (Z.NE) gy ?_)
  |((exists L2.PE _ (.Call (.Attribute _ "append" _) _ _ _) _);first|refine fE rfl Pz Ql Qm (oI) iD ?_ ?_)
  |((exists L2.PE _ (.Call (.Attribute _ "count" _) _ _ _) _);first|refine fE rfl QM PySem.F.slot_str_count PySem.F.type_str_count (Js) qU ?_ ?_)
  |((exists L2.PE _ (.Call (.Attribute _ "join" _) _ _ _) _);first|refine fE rfl QM S9 Ta (zR rfl) qU ?_ ?_)
  |((exists L2.PE _ (.Call (.Attribute _ "clear" _) _ _ _) _);first|refine lO rfl Pz Re Rf (vq) iD ?_)
  |((exists L2.PE _ (.Call (.Attribute _ "pop" _) _ _ _) _);first|refine lO rfl Pz Rt Ru (u0) iD ?_)
  |((exists L2.PE _ (.Call (.Attribute _ "upper" _) _ _ _) _);first|refine lO rfl QM PySem.F.slot_str_upper PySem.F.type_str_upper (JF) qU ?_)
  |((exists L2.PE _ (.Call (.Name "isinstance" _) [_,.Name "bool" _] _ _) _);first|refine qT rfl rfl (Z.sw) ?_ rfl (Z.J_) He 'd')
  |((exists L2.PE _ (.Call (.Name "isinstance" _) [_,.Name "int" _] _ _) _);first|refine qT rfl rfl (Z.sw) ?_ rfl (Z.NE) gy 'd')
  |((exists L2.PE _ (.Call (.Name "isinstance" _) [_,.Name "str" _] _ _) _);first|refine qT rfl rfl (Z.sw) ?_ rfl (Z.K_) yI 'd')
  |((exists L2.PE _ (.Attribute _ _ _) _);first|refine lJ rfl (Z.Fa) ?_|refine lJ rfl (Z.EQ) ?_)
  |((exists L2.PE _ (.Subscript _ _ _) _);first|refine aZ rfl ‹_› ?_ ?_)
  |((exists L2.PE _ (.BinOp _ _ _ _) _);first|refine fY ?_ ?_ ?_)
  |((exists L2.PE _ (.List _ _) (tE _ _ (aJ _)));first|refine cK ?_)
  |((exists L2.PE _ (.List _ _) (tE _ _ (fW _)));first|refine oA ?_)
  |((exists L2.PE _ (.Tuple _ _ _) _);first|refine dD ?_)
  |((exists L2.PE _ (.Subscript _ _ _) (tE _ _ (bZ _ _ _)));first|refine nh rfl ?_ ?_ ?_)
  |((exists L2.PE _ (.UnaryOp _ _ _) _);first|refine mW ?_)
  |((exists L2.PE _ (.Dict _ _ _) _);first|exact II)
  |((exists L2.PE _ (.Compare _ [_] _ _) _);first|refine fD ?_ ?_ ?_ ?_)
  |((exists L2.PE _ (.BoolOp .And _ _) _);first|refine uQ ?_ ?_)
  |((exists L2.PE _ (.BoolOp .Or _ _) _);first|refine jD ?_ ?_)
  |((exists L2.PE _ (.BoolOp _ [_] _) _);first|refine jC ?_)
  |((exists L2.PE _ (.UnaryOp _ _ _) _);first|refine qH ?_)
  |((exists L2.PE _ (.Compare _ _ _ _) _);first|refine zi ?_ ?_ ?_ ?_ ?_)
  |((exists L2.PE _ (.ListComp _ _ _ _) _);first|refine qO (jf:=[(0, "house")]) ?_ rfl ?_ ?_ ?_|refine qO (jf:=[(5, "letters"),(0, "stream")]) ?_ rfl ?_ ?_ ?_|refine qO (jf:=[]) ?_ rfl ?_ ?_ ?_)
  |((exists L2.PS _ (.Assign [.Name _ _] _ _) _);first|refine bC ‹_› ?_)
  |((exists L2.PS _ (.Return _ _) _);first|refine dE ?_)
  |((exists L2.PS _ (.If _ _ _ _) _);first|refine br ?_ ?_ ?_)
  |((exists L2.PS _ (.Expr _ _) _);first|refine i6 ?_)
  |((exists L2.PS _ (.Assign [.Attribute _ _ _] _ _) _);first|refine mX rfl (Z.Fa) ?_ ?_|refine mX rfl (Z.EQ) ?_ ?_)
  |((exists L2.PS _ (.Assign [.Subscript _ _ _] _ _) _);first|refine uX ‹_› ?_ ?_ ?_)
  |((exists L2.PS _ _ (tS _ _ (df _ _ _)));first|refine zB rfl ?_ ?_ ?_)
  |((exists L2.PS _ (.Raise (some (.Call (.Name "NoName" _) _ _ _)) _ _) _);first|refine m7 (Z.D_) mR rfl ?_)
  |((exists L2.PS _ (.Raise (some (.Call (.Name "NoPlace" _) _ _ _)) _ _) _);first|refine m7 (Z.Ch) mR rfl ?_)
  |((exists L2.PS _ (.Raise (some (.Call (.Name "NoText" _) _ _ _)) _ _) _);first|refine m7 (Z.Db) mR rfl ?_)
  |((exists L2.PS _ (.Raise (some (.Call (.Name "NothingDone" _) _ _ _)) _ _) _);first|refine m7 (Z.jv) mR rfl ?_)
  |((exists L2.PS _ (.Raise (some (.Call (.Name "TooLong" _) _ _ _)) _ _) _);first|refine m7 (Z.B_) mR rfl ?_)
  |((exists L2.PS _ (.Assign [.Name _ _] (.ListComp _ _ _ _) _) _);first|refine Ja (jf:=[(0, "shelf"),(1, "plain")]) ?_ rfl ?_ ?_ ?_ ‹_›)
  |((exists L2.PT _ (.Compare _ [_] _ _) _);first|refine cX ?_ ?_ ?_ ?_)
  |((exists L2.PT _ (.UnaryOp _ _ _) _);first|refine qE ?_)
  |((exists L2.PT _ (_) _);first|refine uN rfl ?_)
  |((exists L2.PT _ (.Compare _ _ _ _) _);first|refine IH ?_ ?_ ?_ ?_ ?_)
  |((exists L2.PT _ (.BoolOp .And _ _) _);first|refine gU (qF ?_ ?_))
  |((exists L2.PT _ (.BoolOp .Or _ _) _);first|refine gU (qG ?_ ?_))
  |((exists L2.CompOk _ _ _ _);first|exact lQ ∅|exact ck_w (lQ ∅)|exact ck_w (ck_w (lQ ∅)))
  |with_reducible assumption
  |((exists Sm.CA _ _ _);first|with_reducible exact CA.never rfl|refine CA.nox ?_)
  |((exists L2.Room _ _);first|exact Room.m ‹_›|exact Room.mono ‹_› ⋯)
  |((exists _=false);first|exact cf _)
  |((exists _=_);first|exact rfl)
  |((exists Sm.Op _ _ _ _);first|with_reducible refine i4 ?_|with_reducible exact ze|with_reducible refine bB ?_ ?_|with_reducible refine An ?_ ?_|with_reducible exact uL|with_reducible exact jB|with_reducible refine oG ?_ ?_|with_reducible refine vv ?_ ?_|with_reducible exact uM|with_reducible exact eQ|with_reducible exact jA|with_reducible exact IB|with_reducible exact IA|with_reducible exact zV|with_reducible refine iB ?_ ?_|with_reducible refine mZ ?_ ?_|with_reducible exact zf|with_reducible exact uK)
  |refine m9 ?_
  |exact m8
  |refine qF ?_ ?_
  |refine qG ?_ ?_
  |refine uO ?_
  |refine uP ?_
  |exact IJ ‹_›
  |refine qK rfl rfl ?_
  |refine jF ‹_› ?_
  |exact qJ
  |refine zx (E:=EN) rfl (Z.IO) ?_
  |refine Jy (E:=EN) rfl (Z.IO) ?_ ?_ ?_
  |refine IV (E:=EN) rfl ?_
  |refine zy (E:=EN) rfl rfl (Z.ww) ?_
  |exact uT
  |intro _
  |assumption)
def OK {f:ZE} {fd:FuncData} (h4:Fun K "law" "law" sU f fd):FnOk P w K mg base (cO P w) 196 f fd ["script"] (iC (cN K cls exc) vG):=by
 obtain⟨NX,NZ,N7,fM,N8,Dl,Oc,Dm,Do,Oe,Of,xO,Og,Dp,Oh,pZ,Dq,Oi,Dr,Oj,Ol,Om,sV,On,Oq,kQ,Os,xP,sW,kR,Ds,Dt,Ot,j9,Du,xQ,Dv,Dw,Ou,xR,Ov,nP,Ow,Ox,xS,xT,Oy,Oz,OB,OC,Dx,OD,OE,OF,OG,OH,DA,xU,xV,DB⟩:=Z_ Z
 have NY:GK P w (cN K cls exc) mg base 3 1 "House" nA:=gk Z.ul NI λhr C hu nd =>
   (aQ (mX rfl Z.Fa (aq 0) (uU rfl C NX hr.m rfl))
    (aQ (mX rfl Z.Fa (aq 0) uR)
    (aQ (mX rfl Z.Fa (aq 0) (oA aA))
    (bA (mX rfl Z.Fa (aq 0) (oA aA))))))
 have N7:=N7 NZ
 have pY:GF P w (cN K cls exc) mg base 2 "_law_name" fH:=gf Z.z_ NJ λ{f cdv A outer s H E} hr C hu nd =>
   (aQ (bC (i:=3) nd (Aa rfl rfl Z.Go xC (aq 1)))
    (aQ (bC (i:=4) nd (cn rfl C fM hr.m rfl (ak (aq 0) (ak aO aA))))
    (aQ (br (cX (bB rfl hu) (aq 4) aO (cf _)) (bA (dE (aZ rfl hu (aq 2) (cn rfl C fM hr.m rfl (ak (aq 0) (ak (bu (L_ rfl) rfl Z.L_ P9 (ak (aq 2) aA)) aA)))))) dO)
    (aQ (br (gU (qG (cX jA (aq 4) aO (cf _)) (uP (cX (bB rfl hu) (aq 3) (cK aA) (cf _))))) (aQ (br (cX (bB rfl hu) (cn rfl C fM hr.m rfl (ak (aq 0) (ak aO aA))) aO (cf _)) (aQ (bC (i:=5) nd aK)
    (bA (dE (fE rfl QM S9 Ta (zR rfl) qU aK (ak (qO (jf:=[(5, "letters"),(0, "stream")]) (u9 (N:=["stream", "known", "odd", "some", "kind", "letters"]) (sc:=bK sS) rfl (λ_=>rfl) ∅) rfl (zx (E:=(λ_=>E)) rfl Z.IO (fY (i4 rfl) aO (cn rfl C fM hr.m rfl (ak (aq 0) (ak aO aA))))) (λ_ _ _ _ _=>uT) (λ_ _ _ _ _=>(aZ rfl hu (aq 1) (cn rfl (CA.never rfl) fM hr.m rfl (ak (aq 2) (ak aO aA)))))) aA))))) dO)
    (bA (dE (aZ rfl hu (cK (ak aK (ak aK (ak aK (ak aK (ak aK (ak aK aA))))))) (cn rfl C fM hr.m rfl (ak (aq 0) (ak aO aA))))))) dO)
    (bA (dE (aZ rfl hu (aq 3) (cn rfl C fM hr.m rfl (ak (aq 0) (ak (bu (L_ rfl) rfl Z.L_ P9 (ak (aq 3) aA)) aA))))))))))
 have N8:=N8 fM
 have N9:GF P w (cN K cls exc) mg base 3 "_law_given" nF:=gf Z.v_ NK λhr C hu nd =>
   (@aQ _ _ _ _ _ _ _ (@bC _ _ _ _ _ _ 2 _ _ nd (@cK _ _ _ _ _ _ (@iE _ _ _ _ _ _ _ aK (@iE _ _ _ _ _ _ _ aK (@iE _ _ _ _ _ _ _ aK (@iE _ _ _ _ _ _ _ aK (@iE _ _ _ _ _ _ _ aK (@iE _ _ _ _ _ _ _ ox (@iE _ _ _ _ _ _ _ aO (@iE _ _ _ _ _ _ _ eP (@iE _ _ _ _ _ _ _ (cK (ak aK aA)) (@iE _ _ _ _ _ _ _ (dD (ak aK aA)) (@iE _ _ _ _ _ _ _ uR aA rfl) rfl) rfl) rfl) rfl) rfl) rfl) rfl) rfl) rfl) rfl)) rfl (Or.inl rfl) rfl (.inl rfl))
    (aQ (bC (i:=3) nd (cn rfl C pY hr.m rfl (ak (aq 0) (ak (aq 1) (ak (aq 2) aA)))))
    (aQ (br (cX (bB rfl hu) (cn rfl C fM hr.m rfl (ak (aq 0) (ak aO aA))) aO (cf _)) (aQ (bC (i:=4) nd (cn rfl C pY hr.m rfl (ak (aq 0) (ak (aq 1) (ak (cK (ak aK (ak aK (ak aK aA)))) aA)))))
    (aQ (bC (i:=5) nd (aZ rfl hu (cK (ak aK (ak aK aA))) (cC (NE) rfl Z.NE gy (ak (jD (fD (vv rfl hu) (aq 3) (aq 2) rfl) (jC (fD (mZ rfl hu) (aq 4) (aq 1) rfl))) aA))))
    (bA (dE (dD (ak (dD (ak aK (ak (aq 3) (ak (aq 4) aA)))) (ak (aq 5) (ak (vf hu (aq 1) (aq 4) aK) aA)))))))) dO)
    (aQ (bC (i:=6) nd (cn rfl C N8 hr.m rfl (ak (aq 0) (ak aO aA))))
    (aQ (br (cX (bB rfl hu) (cn rfl C fM hr.m rfl (ak (aq 0) (ak aO aA))) aO (cf _)) (bA (bC (i:=6) nd (aZ rfl hu (cK (ak ox (ak aO (ak aK (ak (cK (ak aK aA)) (ak eP (ak aK aA))))))) (cn rfl C fM hr.m rfl (ak (aq 0) (ak aO aA)))))) dO)
    (aQ (bC (i:=5) nd (aZ rfl hu (cK (ak aK (ak aK aA))) (cC (NE) rfl Z.NE gy (ak (jD (qH (qT rfl rfl Z.sw (aq 6) rfl Z.K_ yI 'd')) (jC (fD (oG rfl hu) aK (aq 6) rfl))) aA))))
    (aQ (br (cX (vv rfl hu) (aq 3) (aq 2) rfl) (bA (bC (i:=5) nd aK)) dO)
    (bA (dE (dD (ak (dD (ak aK (ak (aq 3) (ak (aq 6) aA)))) (ak (aq 5) (ak (aq 6) aA)))))))))))))
 have Oa:GF P w (cN K cls exc) mg base 3 "_law_changed" nG:=gf Z.k_ NL λhr C hu nd =>
   (aQ (bC (i:=2) nd (cn rfl C fM hr.m rfl (ak (aq 0) (ak aO aA))))
    (aQ (bC (i:=3) nd (cn rfl C pY hr.m rfl (ak (aq 0) (ak (aq 1) (ak (cK (ak aK (ak aK (ak aK aA)))) aA)))))
    (aQ (bC (i:=4) nd (cn rfl C pY hr.m rfl (ak (aq 0) (ak (aq 1) (ak (cK (ak aK (ak aK (ak aK aA)))) aA)))))
    (aQ (bC (i:=5) nd (vf hu (aq 1) (aq 3) aK))
    (aQ (bC (i:=6) nd (vf hu (aq 1) (aq 4) aK))
    (aQ (bC (i:=7) nd (aZ rfl hu (cK (ak aK (ak aK aA))) (cC (NE) rfl Z.NE gy (ak (fD (mZ rfl hu) (aq 3) (aq 1) rfl) aA))))
    (aQ (bC (i:=8) nd (aZ rfl hu (cK (ak aK (ak aK aA))) (cC (NE) rfl Z.NE gy (ak (jD (fD (mZ rfl hu) (aq 3) (aq 1) rfl) (jC (fD (mZ rfl hu) (aq 4) (aq 1) rfl))) aA))))
    (aQ (bC (i:=9) nd (fY uK (cn rfl C fM hr.m rfl (ak (aq 0) (ak (fY (i4 rfl) (bu (L_ rfl) rfl Z.L_ P9 (ak (aq 5) aA)) aO) aA))) aO))
    (aQ (bC (i:=10) nd (fY uK (cn rfl C fM hr.m rfl (ak (aq 0) (ak (fY (i4 rfl) (bu (L_ rfl) rfl Z.L_ P9 (ak (aq 5) aA)) aO) aA))) aO))
    (aQ (br (cX (bB rfl hu) (aq 2) aO (cf _)) (bA (dE (dD (ak (dD (ak aK (ak (aq 3) (ak (aq 4) aA)))) (ak (aq 8) (ak (fY (i4 rfl) (aq 5) (aq 6)) aA)))))) dO)
    (aQ (br (cX (bB rfl hu) (aq 2) aO (cf _)) (aQ (bC (i:=11) nd (qY rfl (aq 8) (jC (aZ rfl hu (cK (ak aK (ak aK aA))) (cC (NE) rfl Z.NE gy (ak (qH (zi eQ eQ aO (aq 9) (bu (L_ rfl) rfl Z.L_ P9 (ak (aq 5) aA)))) aA))))))
    (bA (dE (dD (ak (dD (ak aK (ak (aq 3) (ak (aq 9) (ak (aq 4) aA))))) (ak (aq 11) (ak (fY (i4 rfl) (fY (i4 rfl) (nh rfl (aq 5) m8 (m9 (bu (lN) rfl Z.N_ P4 (ak aO (ak (aq 9) aA))))) (aq 6)) (nh rfl (aq 5) (m9 (bu (lN) rfl Z.N_ P4 (ak aO (ak (aq 9) aA)))) m8)) aA))))))) dO)
    (aQ (br (cX (bB rfl hu) (aq 2) aO (cf _)) (aQ (bC (i:=11) nd (qY rfl (aq 7) (jC (aZ rfl hu (cK (ak aK (ak aK aA))) (cC (NE) rfl Z.NE gy (ak (qH (J8 eQ eQ eQ aO (aq 9) (aq 10) (bu (L_ rfl) rfl Z.L_ P9 (ak (aq 5) aA)))) aA))))))
    (bA (dE (dD (ak (dD (ak aK (ak (aq 3) (ak (aq 9) (ak (aq 10) aA))))) (ak (aq 11) (ak (fY (i4 rfl) (nh rfl (aq 5) m8 (m9 (bu (lN) rfl Z.N_ P4 (ak aO (ak (aq 9) aA))))) (nh rfl (aq 5) (m9 (bu (lN) rfl Z.N_ P4 (ak aO (ak (aq 10) aA)))) m8)) aA))))))) dO)
    (aQ (bC (i:=12) nd (aZ rfl hu (cK (ak aO (ak aO (ak aO (ak aO (ak (mW aO) (ak (fY (i4 rfl) (fY ze (fY zf aO aO) (bu (lN) rfl Z.N_ P4 (ak aO (ak (bu (L_ rfl) rfl Z.L_ P9 (ak (aq 5) aA)) aA)))) aO) aA))))))) (cn rfl C fM hr.m rfl (ak (aq 0) (ak aO aA)))))
    (aQ (bC (i:=11) nd (qY rfl (aq 7) (qY rfl (aZ rfl hu (cK (ak aK (ak aK aA))) (cC (NE) rfl Z.NE gy (ak (fD jA (aq 12) aO (cf _)) aA))) (jC (aZ rfl hu (cK (ak aK (ak aK aA))) (cC (NE) rfl Z.NE gy (ak (uQ (fD jB (aq 12) aO (cf _)) (jC (fD (iB rfl hu) (aq 5) aK (cf _)))) aA)))))))
    (bA (dE (dD (ak (dD (ak aK (ak (aq 3) (ak (aq 12) aA)))) (ak (aq 11) (ak (fY zV (aq 5) (bu (zN) rfl Z.KK S8 (ak aO (ak (bu (lN) rfl Z.N_ P4 (ak aO (ak (aq 12) aA))) aA)))) aA))))))))))))))))))))
 have Ob:GF P w (cN K cls exc) mg base 4 "_law_deed" rq:=gf Z.AT NM λhr C hu nd =>
   (aQ (bC (i:=2) nd (cn rfl C fM hr.m rfl (ak (aq 0) (ak aO aA))))
    (aQ (br (cX (bB rfl hu) (aq 2) aO (cf _)) (aQ (bC (i:=3) nd (cn rfl C pY hr.m rfl (ak (aq 0) (ak (aq 1) (ak (cK (ak aK (ak aK (ak aK aA)))) aA)))))
    (aQ (br (cX (mZ rfl hu) (aq 3) (aq 1) rfl) (bA (dE (dD (ak (dD (ak aK (ak (aq 3) aA))) (ak aK (ak (aq 1) aA)))))) dO)
    (aQ (bC (i:=4) nd (cC z9 rfl Z.I_ z8 (ak (aq 1) aA)))
    (aQ (i6 (Ae (aq 4) (aq 3)))
    (bA (dE (dD (ak (dD (ak aK (ak (aq 3) aA))) (ak aK (ak (aq 4) aA)))))))))) dO)
    (aQ (zq (JU rfl C N9 Oa hr.m hr.m rfl rfl (cC (NE) rfl Z.NE gy (ak (fD jB (aq 2) aO (cf _)) aA)) (ak (aq 0) (ak (aq 1) aA))) (qK rfl rfl (jF (i:=5) nd (jF (i:=6) nd (jF (i:=7) nd qJ)))))
    (aQ (br (gU (qF (cX (bB rfl hu) (aq 6) aK (cf _)) (uO (cX jB (bu (L_ rfl) rfl Z.L_ P9 (ak (aq 7) aA)) aO (cf _))))) (bA (J9 (i:=5) (j:=6) (k:=7) nd (ak (dD (ak aK (ak (aZ rfl hu (aq 5) aO) (ak aK aA)))) (ak aK (ak aK aA))))) dO)
    (aQ (bC (i:=8) nd (cC z9 rfl Z.I_ z8 (ak (aq 1) aA)))
    (aQ (br (cX (bB rfl hu) (aq 6) aK (cf _)) (bA (uX hu (aq 8) (aZ rfl hu (aq 5) aO) (aq 7))) dO)
    (bA (dE (dD (ak (aq 5) (ak (aq 6) (ak (aq 8) aA))))))))))))
 have xN:GM P w (cN K cls exc) mg base 1 1 "set_text" iG:=gm Z.cr NO (show ("set_text" : Str)∉fg 1 by decide +kernel) λhr C hu nd =>
   (bA (br (cX uM (aq 2) ox (cf _)) (bA (i6 (Ae (lJ rfl Z.Fa (aq 0)) (aq 1)))) (bA (uX hu (lJ rfl Z.Fa (aq 0)) (aq 1) (aq 2)))))
 have Oc:=Oc xN
 have Do:=Do Dm
 have mI:GM P w (cN K cls exc) mg base 2 1 "do" bV:=gm Z.xL NP (show ("do" : Str)∉fg 1 by decide +kernel) λhr C hu nd =>
   (aQ (i6 (fE rfl Pz Ql Qm (oI) iD (lJ rfl Z.Fa (aq 0)) (ak (dD (ak (aq 1) (ak (JJ hu (lJ rfl Z.Fa (aq 0)) (aq 1)) (ak (aq 2) aA)))) aA)))
    (aQ (i6 (lO rfl Pz Re Rf (vq) iD (lJ rfl Z.Fa (aq 0))))
    (bA (i6 (qQ rfl C xN hr.m (aq 0) (ak (aq 1) (ak (aq 2) aA)))))))
 have Of:=Of Oe
 have xO:=xO Of
 have Og:=Og xO
 have Oh:=Oh Dp
 have pZ:=pZ Og Oh
 have Dq:=Dq pZ
 have Dr:=Dr Oi
 have Oj:=Oj Dr
 have Om:=Om Dp Ol
 have sV:=sV Oj Om
 have On:=On Dr sV (Dq 20)
 have Oq:=Oq Do mI On
 have kQ:=kQ Dm
 have Os:=Os Do mI kQ
 have sW:=sW xO
 have kR:=kR sW
 have Ds:=Ds sW
 have Dt:=Dt sW
 have Ot:=Ot kR Ds Dt
 have j9:=j9 xO
 have Du:=Du j9 pZ
 have xQ:=xQ sW
 have Dv:=Dv xQ pZ j9
 have Dw:=Dw j9 Dv
 have Ou:=Ou xQ pZ j9
 have xR:=xR xQ j9 Dv Ou pZ
 have Ov:=Ov j9 Ds Dt (Du 90) sV (Dw 90) (xR 90)
 have nP:=nP xP kR Ot (xR 90) Ov
 have Ow:=Ow mI nP kQ
 have Ox:=Ox kR
 have xS:=xS kR j9 sV nP
 have xT:=xT kR j9 sV nP
 have Oy:=Oy kR Ox xP nP (xS 90) (xT 90)
 have Oz:=Oz mI Oy kQ
 have OA:GF P w (cN K cls exc) mg base 6 "check_stretch" jU:=gf Z.g_ NQ λhr C hu nd =>
   (aQ (bC (i:=4) nd (qQ rfl C kR hr.m (aq 0) (ak (aq 1) aA)))
    (bA (br (qE (Jz eQ eQ eQ aO (aq 2) (aq 3) (aq 4))) (bA (m7 Z.Ch mR rfl (ak aK aA))) dO)))
 have OB:=OB OA nP (xS 90) (xT 90)
 have OC:=OC mI OB kQ
 have Dx:=Dx nP
 have OD:=OD kR xP (Dx 64)
 have OE:=OE mI OD kQ
 have OF:=OF kQ mI
 have OG:=OG xN
 have OH:=OH Oq Os Ow Oz OC OE OF OG Oc
 have Dy:GF P w (cN K cls exc) mg base 194 "_law_word" cY:=gf Z.xz NR λhr C hu nd =>
   (aQ (bC (i:=2) nd aK)
    (aQ (JS (i:=3) rfl nd rfl rfl rfl rfl rfl Z.cu_NoName Z.cu_NoText Z.cu_NoPlace Z.cu_TooLong Z.cu_NothingDone (λ_ _ Ex2 C2 R2=>(bA (br (cX uM (cn rfl C2 OH hr.m rfl (ak (aq 0) (ak (aq 1) aA))) ox (cf _)) (bA (bC (i:=2) nd aK)) dO))) (λ_ C3=>(bA (bC (i:=2) nd (aZ rfl hu (cK (ak aK (ak aK aA))) (cC (NE) rfl Z.NE gy (ak (zT rfl rfl Z.sw (aq 3) rfl Z.kx_NoText) aA)))))) (λ_ C3=>(bA (bC (i:=2) nd (aZ rfl hu (cK (ak aK (ak aK aA))) (cC (NE) rfl Z.NE gy (ak (zT rfl rfl Z.sw (aq 3) rfl Z.kx_TooLong) aA)))))) (λ_ C3=>(bA (bC (i:=2) nd aK))))
    (bA (dE (aq 2)))))
 have xU:=xU DA kQ
 have OI:GF P w (cN K cls exc) mg base 195 "_law_turn" rJ:=gf Z.x_ NU λhr C hu nd =>
   (aQ (bC (i:=4) nd (cn rfl C fM hr.m rfl (ak (aq 1) (ak aO aA))))
    (aQ (br (cX jA (aq 4) aO (cf _)) (aQ (bC (i:=5) nd (aZ rfl hu (cK (ak aK (ak aK aA))) (aq 4)))
    (aQ (bC (i:=6) nd (aZ rfl hu (cK (ak aK (ak aK aA))) (cC (NE) rfl Z.NE gy (ak (aZ rfl hu (cK (ak (fD (bB rfl hu) (bu (L_ rfl) rfl Z.L_ P9 (ak (aq 2) aA)) aO (cf _)) (ak (fD (An rfl hu) (aq 3) (cK aA) (cf _)) aA))) (aq 4)) aA))))
    (aQ (br (cX (iB rfl hu) (cn rfl C Dy hr.m rfl (ak (aq 0) (ak (dD (ak (aq 5) aA)) aA))) (aq 6) (cf _)) (bA (dE eP)) dO)
    (aQ (br (gU (qF (cX (bB rfl hu) (aq 6) aK (cf _)) (uO (cX (bB rfl hu) (aq 4) aO (cf _))))) (bA (i6 (fE rfl Pz Ql Qm (oI) iD (aq 3) (ak (lO rfl Pz Rt Ru (u0) iD (aq 2)) aA)))) (bA (br (cX (bB rfl hu) (aq 6) aK (cf _)) (bA (i6 (fE rfl Pz Ql Qm (oI) iD (aq 2) (ak (lO rfl Pz Rt Ru (u0) iD (aq 3)) aA)))) dO)))
    (bA (dE (fD (bB rfl hu) (cn rfl C xU hr.m rfl (ak (aq 0) aA)) (aZ rfl hu (aZ rfl hu (aq 2) (mW aO)) aO) (cf _)))))))) dO)
    (aQ (zq (cn rfl C Ob hr.m rfl (ak (aq 1) (ak (aZ rfl hu (aZ rfl hu (aq 2) (mW aO)) aO) aA))) (qK rfl rfl (jF (i:=7) nd (jF (i:=6) nd (jF (i:=8) nd qJ)))))
    (aQ (bC (i:=9) nd (lI rfl C Dl hr.m (lI rfl C xV hr.m (aq 0))))
    (aQ (br (cX (iB rfl hu) (cn rfl C Dy hr.m rfl (ak (aq 0) (ak (aq 7) aA))) (aq 6) (cf _)) (bA (dE eP)) dO)
    (aQ (br (cX (bB rfl hu) (aq 6) aK (cf _)) (aQ (i6 (fE rfl Pz Ql Qm (oI) iD (aq 2) (ak (dD (ak (aq 8) (ak (cn rfl C xU hr.m rfl (ak (aq 0) aA)) aA))) aA)))
    (aQ (i6 (lO rfl Pz Re Rf (vq) iD (aq 3)))
    (bA (dE eP)))) dO)
    (bA (dE (uQ (fD (bB rfl hu) (lI rfl C Dl hr.m (lI rfl C xV hr.m (aq 0))) (aq 9) (cf _)) (jC (fD (bB rfl hu) (cn rfl C xU hr.m rfl (ak (aq 0) aA)) (aZ rfl hu (aZ rfl hu (aq 2) (mW aO)) aO) (cf _))))))))))))
 have DB:=DB j9
 have OJ:GF P w (cN K cls exc) mg base 96 "_law_shown" oZ:=gf Z.wE NV λhr C hu nd =>
   (aQ (br (cX (iB rfl hu) (lI rfl C DA hr.m (aq 0)) (Aa rfl rfl Z.Go xC (aq 1)) (cf _)) (bA (dE eP)) dO)
    (bA (dE (bu (LT rfl) rfl Z.LT S0 (ak (Kh (jf:=[(0, "house"),(1, "known")]) (u9 (N:=["house", "known"]) (sc:=bK sT) rfl (λ_=>rfl) ∅) rfl (aq 1) (λ_ _ _ _ _=>uT) (λ_ _ _ _ _=>(fD (bB rfl hu) (cn rfl (CA.never rfl) (DB 90) hr.m rfl (ak (lI rfl (CA.never rfl) xV hr.m (aq 1)) (ak (qQ rfl (CA.never rfl) kQ hr.m (aq 1) (ak (aq 0) aA)) aA))) (Ki hu (aq 2) (aq 0)) (cf _)))) aA)))))
 exact gl (T:=cN K cls exc) h4 NW λhr C hu nd =>
   (aQ (bC (i:=1) nd (uU rfl C NY hr.m rfl))
    (aQ (bC (i:=2) nd (oA (ak (dD (ak uR (ak (cK aA) aA))) aA)))
    (aQ (bC (i:=3) nd (oA aA))
    (aQ (zB rfl (zy (E:=EN) rfl rfl Z.ww (fY (i4 rfl) (nh rfl (aq 0) m8 (m9 aO)) (cK (ak aO (ak aO (ak aO aA)))))) (qK rfl rfl (jF (i:=4) nd (jF (i:=5) nd qJ))) (aQ (bC (i:=6) nd (cn rfl (C.nox) N7 hr.m rfl (ak (cK (ak (aq 5) (ak (aq 4) aA))) (ak aO aA))))
    (bA (br (gU (qG (qE (uN rfl (cn rfl (C.nox) OI hr.m rfl (ak (aq 1) (ak (aq 6) (ak (aq 2) (ak (aq 3) aA))))))) (uP (qE (uN rfl (cn rfl (C.nox) OJ hr.m rfl (ak (aq 1) (ak (aZ rfl hu (aZ rfl hu (aq 2) (mW aO)) aO) aA)))))))) (bA (dE eP)) dO))))
    (bA (dE eP))))))
end
abbrev FX(l:PySem.W.OpenLaw)(w:ZF)(K:ZA)(mg:YA)(fa:ZE):Prop:=∃ fd:FuncData,(∀ (s:ZB) (v:ZC),BindsTo s fd ⟨[v],[]⟩ [("script",v)])/\∀ base:Heap,K.In base->base.Ns mainGlobals mg->FnOk l.prog w K mg base (cO l.prog w) 196 fa fd ["script"] (vd K)
def all_mk {l:PySem.W.OpenLaw} {w:ZF} {K:ZA} {h:Heap} {mg:YA} {fa C0 C1 X0 X1 X2 X3 X4:ZE} {tk_LEAF_SIGNS tk_NAME_SIGNS tk_MOST_PLAIN tk_MOST_SIGNS:Tok} (X:K.In h) (G:h.Ns mainGlobals mg) (hfa:mg "law"=some (.ref fa))
  (aC0:NA K "Shelf" (some (.ref C0))) (aC1:NA K "House" (some (.ref C1))) (a0:DN K C0 "__init__" "Shelf.__init__" BX) (a1:DN K C1 "__init__" "House.__init__" xD) (a10:DN K C0 "many" "Shelf.many" B5) (a11:DN K C1 "set_text" "House.set_text" xH) (a12:DN K C1 "back" "House.back" B6) (a15:DN K C1 "do" "House.do" xI) (a17:DN K C0 "has_piece" "Shelf.has_piece" Cb) (a18:DN K C0 "check_piece" "Shelf.check_piece" Cc) (a19:DN K C0 "check_fork" "Shelf.check_fork" Cd) (a20:DN K C0 "lay" "Shelf.lay" Ce) (a21:DN K C0 "lay_fork" "Shelf.lay_fork" Cf) (a22:DN K C0 "fork" "Shelf.fork" Cg) (a28:DN K C0 "lay_leaf" "Shelf.lay_leaf" Co) (a29:DN K C0 "leaf" "Shelf.leaf" Cp) (a31:DN K C1 "give" "House.give" Cr) (a32:DN K C1 "text" "House.text" Cs) (a33:DN K C1 "copy_of" "House.copy_of" Ct) (a35:DN K C0 "check_text" "Shelf.check_text" Cv) (a36:DN K C0 "signs" "Shelf.signs" Cw) (a37:DN K C0 "last_leaf" "Shelf.last_leaf" Cy) (a38:DN K C0 "first_leaf" "Shelf.first_leaf" Cz) (a40:DN K C0 "piece" "Shelf.piece" CD) (a42:DN K C0 "height" "Shelf.height" CH) (a49:DN K C1 "join_to" "House.join_to" CO) (a54:DN K C1 "put_into" "House.put_into" CY) (a57:DN K C1 "take_from" "House.take_from" C6) (a60:DN K C1 "repeat" "House.repeat" C9) (a61:DN K C1 "drop" "House.drop" Da) (a62:DN K C1 "again" "House.again" Dc) (a65:DN K C1 "names" "House.names" Dg) (a67:DN K C1 "shelf" "House.shelf" Di) (a2:DK K "_law_mixed" BY) (a3:DK K "_law_stream" BZ) (a4:DK K "_law_take" B3) (a5:DK K "_law_name" sS) (a6:DK K "_law_plain" B4) (a7:DK K "_law_given" xE) (a8:DK K "_law_changed" xF) (a9:DK K "_law_deed" xG) (a13:DK K "is_name" B7) (a14:DK K "check_name" B8) (a16:DK K "is_whole" B9) (a23:DK K "halved" Ci) (a24:DK K "is_plain_sign" Cj) (a25:DK K "is_plain" Ck) (a26:DK K "is_short" Cm) (a27:DK K "ends_in" Cn) (a30:DK K "built" Cq) (a34:DK K "check_length" Cu) (a39:DK K "are_close" CB) (a41:DK K "with_last" CG) (a43:DK K "turned_left" CI) (a44:DK K "without_first" CJ) (a45:DK K "turned_right" CK) (a46:DK K "linked" CL) (a47:DK K "welded" CM) (a48:DK K "joined" CN) (a50:DK K "check_gap" CQ) (a51:DK K "front_of" CT) (a52:DK K "back_of" CV) (a53:DK K "put_in" CW) (a55:DK K "check_stretch" xJ) (a56:DK K "taken_out" CZ) (a58:DK K "doubled" C7) (a59:DK K "repeated" C8) (a63:DK K "_law_do" Df) (a64:DK K "_law_word" xK) (a66:DK K "_law_numbers" Dh) (a68:DK K "_law_turn" xM) (a69:DK K "_law_reads" Dj) (a70:DK K "_law_shown" sT) (a71:DK K "law" sU) (kk0:Cls K C0) (mk0:PySem.W.makesIn K C0=true) (kc0:PySem.W.keepIn K (.ref C0)=true) (nf0_0:FA K C0 "pieces") (nf0_1:FA K C0 "numbers") (nf0_2:FA K C0 "sign_counts") (nf0_3:FA K C0 "end_counts") (nf0_4:FA K C0 "leaf_counts") (nf0_5:FA K C0 "heights") (nf0_6:FA K C0 "first_leaves") (nf0_7:FA K C0 "last_leaves") (kk1:Cls K C1) (mk1:PySem.W.makesIn K C1=true) (kc1:PySem.W.keepIn K (.ref C1)=true) (nf1_0:FA K C1 "own_shelf") (nf1_1:FA K C1 "texts") (nf1_2:FA K C1 "deeds") (nf1_3:FA K C1 "taken_back") (z_abs:NA K "abs" none) (z_all:NA K "all" none) (z_bool:NA K "bool" none) (z_dict:NA K "dict" none) (z_enumerate:NA K "enumerate" none) (z_int:NA K "int" none) (z_isinstance:NA K "isinstance" none) (z_len:NA K "len" none) (z_max:NA K "max" none) (z_min:NA K "min" none) (z_range:NA K "range" none) (z_sorted:NA K "sorted" none) (z_str:NA K "str" none) (z_sum:NA K "sum" none) (e_NoText:NA K "NoText" (some (.ref X0))) (Db:XI K X0) (e_TooLong:NA K "TooLong" (some (.ref X1))) (B_:XI K X1) (e_NoPlace:NA K "NoPlace" (some (.ref X2))) (Ch:XI K X2) (e_NoName:NA K "NoName" (some (.ref X3))) (D_:XI K X3) (e_NothingDone:NA K "NothingDone" (some (.ref X4))) (jv:XI K X4) (em_NoName_0:XF K X0 X3) (em_NoName_1:XF K X1 X3) (em_NoName_2:XF K X2 X3) (em_NoName_3:XO K X3 X3) (em_NoName_4:XF K X4 X3) (em_NoPlace_0:XF K X0 X2) (em_NoPlace_1:XF K X1 X2) (em_NoPlace_2:XO K X2 X2) (em_NoPlace_3:XF K X3 X2) (em_NoPlace_4:XF K X4 X2) (em_NoText_0:XO K X0 X0) (em_NoText_1:XF K X1 X0) (em_NoText_2:XF K X2 X0) (em_NoText_3:XF K X3 X0) (em_NoText_4:XF K X4 X0) (em_NothingDone_0:XF K X0 X4) (em_NothingDone_1:XF K X1 X4) (em_NothingDone_2:XF K X2 X4) (em_NothingDone_3:XF K X3 X4) (em_NothingDone_4:XO K X4 X4) (em_TooLong_0:XF K X0 X1) (em_TooLong_1:XO K X1 X1) (em_TooLong_2:XF K X2 X1) (em_TooLong_3:XF K X3 X1) (em_TooLong_4:XF K X4 X1) (m_LEAF_SIGNS:NA K "LEAF_SIGNS" (some (.int 8 tk_LEAF_SIGNS))) (m_NAME_SIGNS:NA K "NAME_SIGNS" (some (.int 8 tk_NAME_SIGNS))) (m_MOST_PLAIN:NA K "MOST_PLAIN" (some (.int 10000 tk_MOST_PLAIN))) (m_MOST_SIGNS:NA K "MOST_SIGNS" (some (.int 1000000000000000000 tk_MOST_SIGNS))) (y0:bR K X0) (y1:bR K X1) (y2:bR K X2) (y3:bR K X3) (y4:bR K X4) (kt_NoText_0:KO K X0 X0 true) (kt_NoText_1:KO K X1 X0 false) (kt_NoText_2:KO K X2 X0 false) (kt_NoText_3:KO K X3 X0 false) (kt_NoText_4:KO K X4 X0 false) (kt_TooLong_0:KO K X0 X1 false) (kt_TooLong_1:KO K X1 X1 true) (kt_TooLong_2:KO K X2 X1 false) (kt_TooLong_3:KO K X3 X1 false) (kt_TooLong_4:KO K X4 X1 false)
  : FX l w K mg fa:=by
 have Z:∀ base:Heap,K.In base->Facts l.prog w K (λn=>[C0,C1][n]?) (λn=>[X0,X1,X2,X3,X4][n]?) mg base:=λbase KB=>{
   No:=PB X G z_abs,
   LT:=PB X G z_all,
   J_:=PB X G z_bool,
   I_:=PB X G z_dict,
   ww:=PB X G z_enumerate,
   NE:=PB X G z_int,
   sw:=PB X G z_isinstance,
   L_:=PB X G z_len,
   N_:=PB X G z_max,
   KK:=PB X G z_min,
   IO:=PB X G z_range,
   Go:=PB X G z_sorted,
   K_:=PB X G z_str,
   LE:=PB X G z_sum,
   r_:=⟨_,PM X G m_LEAF_SIGNS⟩,
   ss:=⟨_,PM X G m_NAME_SIGNS⟩,
   q_:=⟨_,PM X G m_MOST_PLAIN⟩,
   u_:=⟨_,PM X G m_MOST_SIGNS⟩,
   EQ:=⟨C0,rfl,kk0,λf hf=>by
   have hf2:f∈fg 0:=hf;simp only[fg,Pb,QA,Su] at hf2
   rcases hf2 with rfl|rfl|rfl|rfl|rfl|rfl|rfl|rfl
   ·exact nf0_0
   ·exact nf0_1
   ·exact nf0_2
   ·exact nf0_3
   ·exact nf0_4
   ·exact nf0_5
   ·exact nf0_6
   ·exact nf0_7⟩,
   Fa:=⟨C1,rfl,kk1,λf hf=>by
   have hf2:f∈fg 1:=hf;simp only[fg,Pb,QA,Su] at hf2
   rcases hf2 with rfl|rfl|rfl|rfl
   ·exact nf1_0
   ·exact nf1_1
   ·exact nf1_2
   ·exact nf1_3⟩,
   Db:=gx KB X G rfl e_NoText Db,
   B_:=gx KB X G rfl e_TooLong B_,
   Ch:=gx KB X G rfl e_NoPlace Ch,
   D_:=gx KB X G rfl e_NoName D_,
   jv:=gx KB X G rfl e_NothingDone jv,
   o_:=di rfl (PM X G aC0) mk0 kc0 a0 fo,
   ul:=di rfl (PM X G aC1) mk1 kc1 a1 fo,
   wS:=dg X G a2 cQ,
   pi:=dg X G a3 cQ,
   x0:=dg X G a4 cQ,
   z_:=dg X G a5 d0,
   wr:=dg X G a6 cQ,
   v_:=dg X G a7 cQ,
   k_:=dg X G a8 cQ,
   AT:=dg X G a9 cQ,
   s_:=dm rfl kk0 a10 fo,
   cr:=dm rfl kk1 a11 d0,
   on:=dm rfl kk1 a12 fo,
   C_:=dg X G a13 fo,
   u8:=dg X G a14 fo,
   xL:=dm rfl kk1 a15 d0,
   y_:=dg X G a16 fo,
   bv:=dm rfl kk0 a17 cQ,
   ac:=dm rfl kk0 a18 cQ,
   am:=dm rfl kk0 a19 d0,
   wn:=dm rfl kk0 a20 cQ,
   ci:=dm rfl kk0 a21 cQ,
   sB:=dm rfl kk0 a22 d0,
   Id:=dg X G a23 cQ,
   e_:=dg X G a24 fo,
   w_:=dg X G a25 fo,
   zn:=dg X G a26 fo,
   A_:=dg X G a27 fo,
   dL:=dm rfl kk0 a28 cQ,
   p_:=dm rfl kk0 a29 cQ,
   IN:=dg X G a30 cQ,
   sK:=dm rfl kk1 a31 d0,
   ut:=dm rfl kk1 a32 cQ,
   d_:=dm rfl kk1 a33 d0,
   ii:=dg X G a34 fo,
   bd:=dm rfl kk0 a35 cQ,
   ol:=dm rfl kk0 a36 cQ,
   bi:=dm rfl kk0 a37 cQ,
   a_:=dm rfl kk0 a38 cQ,
   wf:=dg X G a39 d0,
   mt:=dm rfl kk0 a40 cQ,
   wP:=dg X G a41 d0,
   h_:=dm rfl kk0 a42 cQ,
   n_:=dg X G a43 d0,
   f_:=dg X G a44 cQ,
   io:=dg X G a45 d0,
   Ev:=dg X G a46 d0,
   E_:=dg X G a47 d0,
   G_:=dg X G a48 d0,
   ge:=dm rfl kk1 a49 d0,
   v4:=dg X G a50 d0,
   zb:=dg X G a51 d0,
   Cl:=dg X G a52 d0,
   H_:=dg X G a53 nj,
   c_:=dm rfl kk1 a54 nj,
   g_:=dg X G a55 nj,
   v0:=dg X G a56 nj,
   b_:=dm rfl kk1 a57 nj,
   BT:=dg X G a58 d0,
   wT:=dg X G a59 d0,
   i_:=dm rfl kk1 a60 d0,
   t_:=dm rfl kk1 a61 cQ,
   j_:=dm rfl kk1 a62 fo,
   F_:=dg X G a63 cQ,
   xz:=dg X G a64 cQ,
   jp:=dm rfl kk1 a65 fo,
   l_:=dg X G a66 fo,
   m_:=dm rfl kk1 a67 fo,
   x_:=dg X G a68 nj,
   wv:=dg X G a69 cQ,
   wE:=dg X G a70 cQ,
   M_:=dg X G a71 fo,
   kx_NoText:=⟨X0,PM X G e_NoText,(λc C' h=>match c,C',h with
    |0,_,rfl=>⟨y0,kt_NoText_0⟩
    |1,_,rfl=>⟨y1,kt_NoText_1⟩
    |2,_,rfl=>⟨y2,kt_NoText_2⟩
    |3,_,rfl=>⟨y3,kt_NoText_3⟩
    |4,_,rfl=>⟨y4,kt_NoText_4⟩
    |_+5,_,h=>nomatch h)⟩,
   kx_TooLong:=⟨X1,PM X G e_TooLong,(λc C' h=>match c,C',h with
    |0,_,rfl=>⟨y0,kt_TooLong_0⟩
    |1,_,rfl=>⟨y1,kt_TooLong_1⟩
    |2,_,rfl=>⟨y2,kt_TooLong_2⟩
    |3,_,rfl=>⟨y3,kt_TooLong_3⟩
    |4,_,rfl=>⟨y4,kt_TooLong_4⟩
    |_+5,_,h=>nomatch h)⟩,
   cu_NoName:=⟨X3,PM X G e_NoName,(λc C' h=>match c,C',h with
    |0,_,rfl=>em_NoName_0
    |1,_,rfl=>em_NoName_1
    |2,_,rfl=>em_NoName_2
    |3,_,rfl=>em_NoName_3
    |4,_,rfl=>em_NoName_4
    |_+5,_,h=>nomatch h)⟩,
   cu_NoPlace:=⟨X2,PM X G e_NoPlace,(λc C' h=>match c,C',h with
    |0,_,rfl=>em_NoPlace_0
    |1,_,rfl=>em_NoPlace_1
    |2,_,rfl=>em_NoPlace_2
    |3,_,rfl=>em_NoPlace_3
    |4,_,rfl=>em_NoPlace_4
    |_+5,_,h=>nomatch h)⟩,
   cu_NoText:=⟨X0,PM X G e_NoText,(λc C' h=>match c,C',h with
    |0,_,rfl=>em_NoText_0
    |1,_,rfl=>em_NoText_1
    |2,_,rfl=>em_NoText_2
    |3,_,rfl=>em_NoText_3
    |4,_,rfl=>em_NoText_4
    |_+5,_,h=>nomatch h)⟩,
   cu_NothingDone:=⟨X4,PM X G e_NothingDone,(λc C' h=>match c,C',h with
    |0,_,rfl=>em_NothingDone_0
    |1,_,rfl=>em_NothingDone_1
    |2,_,rfl=>em_NothingDone_2
    |3,_,rfl=>em_NothingDone_3
    |4,_,rfl=>em_NothingDone_4
    |_+5,_,h=>nomatch h)⟩,
   cu_TooLong:=⟨X1,PM X G e_TooLong,(λc C' h=>match c,C',h with
    |0,_,rfl=>em_TooLong_0
    |1,_,rfl=>em_TooLong_1
    |2,_,rfl=>em_TooLong_2
    |3,_,rfl=>em_TooLong_3
    |4,_,rfl=>em_TooLong_4
    |_+5,_,h=>nomatch h)⟩ }
 obtain⟨fd,h1,F⟩:=vh (p := "script") X G hfa a71 fo;exact⟨fd,h1,λbase KB _=>FnOk.imp (OK (Z base KB) F) (Ju (T:=cN K (λn=>[C0,C1][n]?) (λn=>[X0,X1,X2,X3,X4][n]?)) law_true)⟩
def walk{l:PySem.W.OpenLaw}{q:ZD}{loose:List Str}{XP:YA->Heap->Prop}{YP:ZF->Heap->Prop}{d:DefRec}{K:Params->ZA}(hn:l.most=some 63)(hdf:d.params.defaults=[])
  (hY:∀ (w:ZF) (h:Heap),YP w h->(K w.params).In h)
  (F:∀ (w:ZF) (mg:YA) (fa:ZE) (h:Heap),(K w.params).In h->h.Ns mainGlobals mg->mg d.name=some (.ref fa)->FX l w (K w.params) mg fa) :
  PySem.W.WalkO q loose XP YP l.row.toRowW d [] (λf vs=>PySem.call f vs) :=(
 L2.walk_of (n:=63) (k:=196) (x := "script") (CX:=λw=>cO l.prog w) (sp:=λw=>vd (K w.params)) hn 'd' hdf ⟨rfl,by decide,by decide⟩ hY F (λ_ _ a ns hl _ hS=>⟨a,ns,rfl,hS,hl,λ_=>rfl⟩) λ_ _ _ _ _ z=>Jv z)
end Sk
end
end Lake
open Lake PySem PySem.W PyProof.Rows
section
structure PySem.W.Fast:Prop where(tw5384983081036890890 tw885402003968382629 tw7955228864266295135 tw561876383246458719 tw11405169014498343743 tw17057432269301849791 tw1096394508266186399 tw12087169865243448991 tw3324441315323001375 tw12447914455290893727 tw4366955893614593343 tw7323250693696062687 tw1113610230531529855 tw4356690226050762879 tw5272318150248823903 tw17157257576844531775 tw18241529237840696383 tw5145035123308439583 tw8643565492208933886 tw17344663266557773726 tw8487150903173268382 tw1015025683244982174 tw1753003611835570078 tw354248393916283774 tw14269086319507656382 tw9381674261151342238 tw15550341996568282750 tw14788561218873364062 tw1178745827011067486 tw10569322745521561054 tw15029002544815332830 tw8813637774208682462 tw12549203597073866174 tw11234629445552510398 tw18137742350123109790 tw18139397663051911582 tw752561202581798206 tw12763829031843665214 tw15965038385793629470 tw7695446828563991838 tw1248749261332110590 tw6091396166811539646 tw4115187249512408190 tw5196057704070439038 tw16917711600971206750 tw2121782542106098653 tw3264121844289324989 tw13529974848069571517 tw4556591199537739517 tw1186138668430793437 tw688946411465783997 tw11965621443748787869 tw5614444964062217885 tw2468741394448835197 tw14308142174762285661 tw3938211945122035261 tw16225670307348891197 tw9522200703617462781 tw13123879404287557053 tw8092202702145162653 tw2058564718360136093 tw4393526448892391741 tw5508726992151283005 tw1285989487351320861 tw16579196987573792893 tw13314023316529374269 tw3712517158930252861 tw1525965261455990748 tw6748654026131930012 tw6236341176912591772 tw9465601170477821820 tw1016708682337852284 tw865870648009784156 tw10183225581558122332 tw3353437295661909820 tw16444400669671966364 tw18284424838373858748 tw10901871804124717436 tw1548826654787370268 tw6964298043490662684 tw2491685812855655676 tw8251543071026555100 tw15444467164762722460 tw17087935350447799324 tw9757284705346779164 tw3325883919446198300 tw16647819690848157531 tw9929591679692547771 tw9753022062917198523 tw12747111255394642523 tw8038656634964624987 tw10284931835692359227 tw2500562040813107547 tw2104245784673081691 tw11500646241269838107 tw5848597492293496059 tw8904923857671234779 tw11436740249197992091 tw11003971003502373019 tw5568370172583358587 tw17224870938282601563 tw15072289599802851322 tw9479646965349456858 tw3870191608456154074 tw15234565198024609594 tw15214992638907204346 tw4270457572532047546 tw7955667354893353594 tw18112316097839364666 tw11460648010683118138 tw17483477925356498458 tw4591926125493074394 tw7345508200383306170 tw15074531740593412250 tw14918573225190370426 tw5005401642990712890 tw4794774171211038746 tw823090414477409273 tw5033892496542922681 tw4414572116163884953 tw12850776894921001817 tw12403988571453262649 tw2628802237405099769 tw1093936978911854329 tw2340697468712850137 tw2209140726414650073 tw17316048576045041337 tw14362093081697385081 tw10047694490440953433 tw11410847803156270617 tw15171114758606367193 tw4196855842996486617 tw5985618925533745593 tw1824620848504145273 tw1331208879857107289 tw9783107862381544697 tw70092499418259705 tw7870988365469300953 tw1831065969452719257 tw2355794929103053977 tw2743013659070939225 tw12228117935507403865 tw7426640583223914521 tw2749492793680437240 tw15541541905378300888 tw6624502414398041048 tw11367201388690458520 tw12020540773576626072 tw10224357515183082360 tw16068346428654928760 tw13551117716040640280 tw8688150340397016856 tw5771412455071095512 tw15163418674771477176 tw16360762975729064632 tw8405997895658275512 tw2189138509795585688 tw2274428449047060120 tw12650929397911379512 tw12095449248655491576 tw10134928583168162264 tw9451798895161227672 tw6981163286063143288 tw7593899872117089560 tw5253111438238764216 tw16423844569523097752 tw18069086451850531928 tw2824284734329048120 tw2226706055664073784 tw285746897312935863 tw431076541005431735 tw911744761546911639 tw6134267535069410167 tw5460497886310053719 tw8941914675794406167 tw17386366742522031831 tw12933279251434674903 tw4537019430688057975 tw7771566630157065847 tw10784702306242504279 tw16890036312943782455 tw13371577565458910743 tw1328761747131849207 tw13406120637059217879 tw8634613667317444023 tw190945373350338999 tw14357219522105155991 tw10999249784616148343 tw1278830438279692599 tw8469638926033867031 tw5411400828536980663 tw13690861876777362583 tw5159862796279395447 tw10178158793299073079 tw15082655301089287158 tw17117595399882211286 tw8048258998184642518 tw2015912552356750166 tw5694517912563036918 tw2980320652246247094 tw9445788895505220278 tw15777512837542292118 tw8930221792260809366 tw12511473571619668502 tw500272522298862102 tw819541006632008214 tw17157230257143097846 tw13139444984075051350 tw6959391054176830806 tw5951441683852517686 tw6681653756456592630 tw7183673278005562582 tw8872724969860438230 tw4573057665555134614 tw17939112092766032022 tw7415065818585637014 tw1657961690488096886 tw4856881118189571094 tw7857283203652263958 tw3384052322043207669 tw8001594338069162933 tw11207798265514045333 tw15568458719317544821 tw9295396581844162389 tw12420243002758286037 tw1775846725294776021 tw17698617781908681397 tw9102810981382005429 tw11753925884969252437 tw6080818244573826645 tw17816401719379567157 tw207853349658562101 tw3549946313417330229 tw5602953244443125269 tw7399834859717104149 tw1625466106102453749 tw17207269225129503157 tw16224964642579091797 tw8567729518952889621 tw7478816672359345397 tw9061253445424673013 tw13700940082814732501 tw18231389604947687637 tw15770652807867217077 tw5654011285355144341 tw2667574544775969909 tw16997867679528597589 tw5257551357738479669 tw5347137940347162677 tw7555289085598002197 tw7196709943241396245 tw12152476273868537877 tw4050315854688082868 tw16187011023852063668 tw17247411047244148660 tw6191580715007081364 tw3046318362571764596 tw6949664331675295604 tw6645392501583024980 tw7315694013127218996 tw15795519841454774036 tw745669701416618740 tw7683346752415196852 tw4467963594763579956 tw10523763828502877684 tw7340527715660582388 tw8555895081267565012 tw11592671690513798548 tw10403734352396048756 tw1272835010926402900 tw12489934647440943444 tw5852756356906306868 tw11321601756010956084 tw12727904681948428596 tw2242913038704346420 tw7606254866872960308 tw7501994736078202132 tw12301568490350679188 tw10779575833546813524 tw12226195856684032052 tw1342576689204064276 tw14905362316645021716 tw619186698907641843 tw18439824050526634963 tw8418962448259465139 tw12615345652030086067 tw13195825510818169747 tw6889211210933837683 tw1417674437347735379 tw17493924516030436083 tw3055924035713271539 tw10240136770826523347 tw9364901805149017747 tw7255144466510632531 tw17453655887009725011 tw8415655377147528659 tw12332101664111089075 tw2907913382414897523 tw14578126476570579283 tw10898974639944132851 tw12356362941643008051 tw9733351692912885618 tw13657603823055695730 tw3312791987467324274 tw11771354950466049778 tw7995227390389212882 tw18405759850075909810 tw806805227464369842 tw13634886288322910834 tw16810137477404503570 tw11042181057808901618 tw8731146262082190770 tw10065174050458893714 tw42491315815147922 tw1027728930069964178 tw9977491123331394898 tw9554418623650035922 tw17599890510225077394 tw5782706449250196626 tw10271539999394186161 tw4348031217727316913 tw17123897457791476625 tw3150026172625502993 tw15851937195778292497 tw12677237706315587313 tw13260573531907018449 tw3868181363536858769 tw11003912972078547505 tw10369982645205578257 tw10778281216976475569 tw3114533886218353073 tw8718789399242449265 tw13827633173809830225 tw13186043922420039985 tw5616290952052761841 tw14804770171418745009 tw8346566689760373905 tw8873661472324987025 tw1213800082916753489 tw2187416574054331441 tw13975794739883678737 tw30511904524103664 tw18085735649193506800 tw13608650642132482992 tw14761946730359057232 tw9783595746649267024 tw15054951975873449776 tw6338859646131772144 tw3545779416542137040 tw3882820630991784656 tw1249748170640606928 tw1340963843773914800 tw3820013697800613552 tw2788530763836967536 tw3247922121157830224 tw17631569891079552528 tw4424101938018686448 tw17238353587334105520 tw17041895992038733072 tw10083147768539647152 tw6844453118598702192 tw16732082946326132816 tw4542795049094093904 tw8317862057280773200 tw11866217277725980655 tw17048572484094014447 tw7655880499078527951 tw8416474007199212495 tw6546489570439058351 tw7655045947392129935 tw11935507800745336719 tw2158870392283244431 tw11619953194263383951 tw6570704705183623951 tw1070829388879928015 tw7952433753311273647 tw6715789897604552367 tw7346503653348569711 tw12653487157627373135 tw18307778896229405135 tw4382050673356106191 tw17324015151541955983 tw3432761038758791535 tw17118340631843721519 tw8488157267924821263 tw5350697532458454255 tw9119635128719936751 tw16535925690739267823 tw14879584968929822895 tw11374120642719904815 tw5491658220542807087 tw16306642051436241935 tw17754757282871392271 tw1527245804663627758 tw8120951478023819182 tw6563812237174931246 tw3217720194645384974 tw13686042984364443406 tw17418897094569363182 tw15602432487277791918 tw9432558746651910830 tw12842558516935946894 tw2260375040103992942 tw769692346282222190 tw13356770652236879470 tw12691515808103806542 tw14730734225609926222 tw2540982615450195502 tw17319775668540032526 tw8537218238788529646 tw9118393052332645774 tw11986530763677194638 tw240035900790334830 tw5615439184762791278 tw13028229603816683854 tw13908138744411858254 tw18145420284396852526 tw3855189382408654062 tw15894823179917901998 tw7844407435448160430 tw9925698934217217166 tw4781096804135029870 tw6897759422728632366 tw9182699915593921582 tw5070341759579702286 tw17789810554159716333 tw16438365060625142765 tw1032674850581812205 tw5430277719070149549 tw10602826569775434509 tw10051882315670137581 tw16929316919252503245 tw14438661914570581677 tw1091904622358813357 tw7518769279952575149 tw14368909711869092301 tw17621375238336280941 tw2123851975974629613 tw8769275952122612941 tw3717593606427463853 tw917349780325743757 tw2521370767213774861 tw4572651040043958220 tw17600615465780475692 tw6494318648703141612 tw9887622940616922860 tw6896973608863141580 tw1732416441614253740 tw2080859025858016940 tw907391699673137772 tw2425593409744264748 tw15035540543374511628 tw17386423880113170924 tw794219322948278732 tw6297777334061280684 tw12440572201629177228 tw2579974834606209388 tw17184892553707573612 tw17274405969256329580 tw110136844328551756 tw2300293907940474156 tw3983314375237495052 tw6617417698287839500 tw1805318341286060172 tw7385253538482301036 tw6350484704133936204 tw9338511827668075499 tw10545954198363846603 tw4362743723022396363 tw3792985037727464363 tw668246047851964331 tw17682291875526153131 tw8090863597803352971 tw14003132651414484779 tw14963072687342566155 tw9447064540640085771 tw16950409119464359659 tw13634639997594394315 tw1277612277334501995 tw16003019123785384523 tw4065735105974368779 tw13291898846805812715 tw16530068611290127851 tw2663026062447728107 tw16946221754355996043 tw15363411155526666411 tw15347127889713296555 tw11605494868743215243 tw6303522646142615595 tw9981273275161245707 tw4686711314928325610 tw8411810266611784618 tw603003449936975786 tw5449146106549341098 tw1109226133357824906 tw9384041342386348842 tw131792313328587530 tw2764831319209616138 tw4731555949737583338 tw12523199592249248458 tw4399399731900770858 tw5111331855044298250 tw5539072250815865322 tw17305484897409626570 tw12491893895199148426 tw7068151151623357802 tw10995279415270261098 tw16648981370601080170 tw15882171956582139210 tw11598545708019913034 tw9539874701255417130 tw14468372251401237802 tw10185704574630340874 tw3486586906432444618 tw1232727447058222218 tw12372849779202473066 tw14725173271757771689 tw14166969461651329961 tw15390039565761892265 tw11405290730639897513 tw4443442422728239017 tw18009285228092349225 tw656349907884346057 tw10756973412905320105 tw13310581046505951881 tw10981956996232017513 tw8095276957201547881 tw8284332090892981833 tw17628717654322116169 tw13991060775933758985 tw4524177012483958281 tw6513914142552826377 tw13939274706124716521 tw11734742705385471401 tw9866557160525854121 tw18413813735304575337 tw17603662241728118025 tw2383460318756935945 tw1212598235123755177 tw17521997855422830761 tw7797227536649557129 tw12650553402224910441 tw4547687728486171689 tw12221889718961644553 tw9688883984595223496 tw14748567038477881224 tw7609451416077307752 tw6942831852664059656 tw5787011512950484712 tw11226724127101455080 tw3649640363326161608 tw6625548717723092680 tw13429156485071582760 tw7484267515196683784 tw2575859335315006984 tw12592930024997370344 tw17129512435892221384 tw3619111425370991016 tw12320823274001533320 tw6149251001753211272 tw13858800039750028648 tw9989835850218660104 tw3219203883573606568 tw17661170427843691688 tw10765550045931527272 tw2933469263994843208 tw9273453688923800616 tw10840887493993389064 tw15968989561351562151 tw2585540693967066023 tw13859578824199604135 tw6593147379056197447 tw18433476749835775719 tw1598128892019884711 tw5451338424033149607 tw21684947182473799 tw2442038519530999367 tw11739535965053601351 tw8600438482893705799 tw698132693507402279 tw4652340051305578023 tw2381057840589058599 tw17093029634466986503 tw7522647016577986023 tw14860836874514851111 tw4137421808324437287 tw10709345325469922503 tw13789817288169048231 tw419758097730940007 tw5139622259986960455 tw7333069814182899719 tw7226961544651491335 tw4630224093748117511 tw2418153284682280934 tw12252350532400924550 tw2066241849410618246 tw9612899403279558470 tw18047846206403165894 tw6788305707215032006 tw13359163224297711270 tw2022681422288557734 tw3071158082593014278 tw4012486957838082534 tw5421448398277798310 tw13274652264964162982 tw11028551097141102918 tw4689350819787419910 tw12152674047183997158 tw2310916621939987654 tw1202739239740386502 tw7340528462905715910 tw12284420698769819782 tw12625008800445058182 tw16281737451995367526 tw821249527787273222 tw9159822383946213382 tw15466196555963454437 tw3678628327363173349 tw17206960595728917445 tw17819429283835041701 tw17898524277032226725 tw12785799645028984709 tw375852397120942949 tw15654710511435207397 tw1952585243584342661 tw16395398325085601381 tw10819659123798872677 tw9609014975824486981 tw16953667514003520869 tw9871410168716058981 tw16494426570026790245 tw17110702884680882469 tw11566154939350341925 tw12705852859596451109 tw7238939408063746309 tw5384702044186195205 tw11504115705323488517 tw2652052057390698693 tw2126057622779382981 tw11405324062245521573 tw11795439486220189829 tw7702650350596845637 tw10116124802732793861 tw3078416671548505956 tw14135952414546823940 tw1756903436205033220 tw9551720311726493412 tw5088139659070372548 tw12585351337179781700 tw11180505236788647492 tw17732053513916767748 tw14706405169512827396 tw7663393795563221412 tw12327815409491321156 tw418796272507216164 tw9243243645142128836 tw1027298640183989444 tw7543299126919697572 tw17863071025743578180 tw11978242093878905924 tw518703960055587844 tw4047790752066210787 tw18027252896279945155 tw12481087974537048003 tw17158704990911766403 tw429853338525954915 tw1476184017466941251 tw7379020306243080003 tw14539600940952887075 tw7861295807620763427 tw10089028424934628995 tw18143989916648158787 tw4171872949903305283 tw9585396515071425059 tw7949973564932299203 tw3730185031159633315 tw2641199119280474467 tw16254206473277972771 tw9100799514708168931 tw1313462766878598339 tw16916472911206883491 tw15866315403067444355 tw964886907174952003 tw6777399808363941955 tw14342033965794956323 tw12628058353225962499 tw5061553668544276450 tw11751150227236687810 tw11511660095864794018 tw15709967132442859426 tw15302262925058927490 tw16241054389169358722 tw5189753172047818594 tw2637711783672968994 tw10781337736351667970 tw6975325741357127426 tw3470486054083049154 tw6018536871171951298 tw12538944223431329442 tw14975450374329086594 tw5224421770021789282 tw563139402873360994 tw17253864608507605570 tw14371882909321156098 tw4789931735026427394 tw16527835886882638306 tw2739063550494293474 tw2972214830720830850 tw10113493062707691874 tw15083751368264984770 tw1953834772423971938 tw15006231353201639490 tw10336817705369655330 tw16859755031952635745 tw13020813254882208609 tw16007584321686618849 tw930982422386247297 tw14921135238619125345 tw12436913329806200417 tw16507421250775253569 tw7691184002268014881 tw155685712513883393 tw10550423624337882337 tw17842126773547103457 tw16248244865083182305 tw335260930581256385 tw10044389645647209569 tw3063326163221297249 tw5516303602465025025 tw6223377719899896833 tw1803338812007692224 tw4007807042385780672 tw12133458125360216992 tw3098486697541090144 tw10234148435708061536 tw3080987740861701984 tw15754699988700339040 tw12669767028614758208 tw3425868386910863168 tw6123713345303803712 tw17307020922048613184 tw4460522737560646432 tw3650761576216412928 tw2932021390701738752 tw16255929691795798752 tw11790475977713452736 tw18305395022550994592 tw9901344779642840704 tw10260172266402659904 tw4607123695801306656 tw3389336623852487200 tw6869760415798967808 tw13246536656500790752 tw2487845738563640736 tw6370411754379358624 tw1349949210253944128 tw2570795616893014336 tw10160846081962944800 tw15288532059869915424 tw5176170759142315296 tw2778260011182531744 tw14534446794160970912 tw1642941218038323360 tw15453273096842545312 tw4358483916053769344 tw14157641677175924864 tw10398773521372346464 tw15574739514994782272 tw8081516187646351392:True)
end
set_option maxRecDepth 100000 in
set_option maxHeartbeats 0 in
theorem PySem.Challenge.cw_skeinwood_k79_house_by_deeds_holds : PySem.Challenge.rw_skeinwood_k79_house_by_deeds.Holds := by
 w_on; o_law; k_head; (case hw => w_witness2)
 k_fill
 refine Sk.walk (l := PySem.Challenge.rw_skeinwood_k79_house_by_deeds) rfl rfl (fun w h Y => PySem.W.kIn_of Y) ?F
 case F =>
  intro w mg fa h KX G hmg;refine' Sk.all_mk KX G hmg ?aC0 ?aC1 ?a0 ?a1 ?a10 ?a11 ?a12 ?a15 ?a17 ?a18 ?a19 ?a20 ?a21 ?a22 ?a28 ?a29 ?a31 ?a32 ?a33 ?a35 ?a36 ?a37 ?a38 ?a40 ?a42 ?a49 ?a54 ?a57 ?a60 ?a61 ?a62 ?a65 ?a67 ?a2 ?a3 ?a4 ?a5 ?a6 ?a7 ?a8 ?a9 ?a13 ?a14 ?a16 ?a23 ?a24 ?a25 ?a26 ?a27 ?a30 ?a34 ?a39 ?a41 ?a43 ?a44 ?a45 ?a46 ?a47 ?a48 ?a50 ?a51 ?a52 ?a53 ?a55 ?a56 ?a58 ?a59 ?a63 ?a64 ?a66 ?a68 ?a69 ?a70 ?a71 ?kk0 ?mk0 ?kc0 ?nf0_0 ?nf0_1 ?nf0_2 ?nf0_3 ?nf0_4 ?nf0_5 ?nf0_6 ?nf0_7 ?kk1 ?mk1 ?kc1 ?nf1_0 ?nf1_1 ?nf1_2 ?nf1_3 ?z_abs ?z_all ?z_bool ?z_dict ?z_enumerate ?z_int ?z_isinstance ?z_len ?z_max ?z_min ?z_range ?z_sorted ?z_str ?z_sum ?e_NoText ?Db ?e_TooLong ?B_ ?e_NoPlace ?Ch ?e_NoName ?D_ ?e_NothingDone ?jv ?em_NoName_0 ?em_NoName_1 ?em_NoName_2 ?em_NoName_3 ?em_NoName_4 ?em_NoPlace_0 ?em_NoPlace_1 ?em_NoPlace_2 ?em_NoPlace_3 ?em_NoPlace_4 ?em_NoText_0 ?em_NoText_1 ?em_NoText_2 ?em_NoText_3 ?em_NoText_4 ?em_NothingDone_0 ?em_NothingDone_1 ?em_NothingDone_2 ?em_NothingDone_3 ?em_NothingDone_4 ?em_TooLong_0 ?em_TooLong_1 ?em_TooLong_2 ?em_TooLong_3 ?em_TooLong_4 ?m_LEAF_SIGNS ?m_NAME_SIGNS ?m_MOST_PLAIN ?m_MOST_SIGNS ?y0 ?y1 ?y2 ?y3 ?y4 ?kt_NoText_0 ?kt_NoText_1 ?kt_NoText_2 ?kt_NoText_3 ?kt_NoText_4 ?kt_TooLong_0 ?kt_TooLong_1 ?kt_TooLong_2 ?kt_TooLong_3 ?kt_TooLong_4
  (case aC0 => apply Sm.na;k_is)
  (case aC1 => apply Sm.na;k_is)
  (case a0 => apply Sm.dn<;>k_is)
  (case a1 => apply Sm.dn<;>k_is)
  (case a10 => apply Sm.dn<;>k_is)
  (case a11 => apply Sm.dn<;>k_is)
  (case a12 => apply Sm.dn<;>k_is)
  (case a15 => apply Sm.dn<;>k_is)
  (case a17 => apply Sm.dn<;>k_is)
  (case a18 => apply Sm.dn<;>k_is)
  (case a19 => apply Sm.dn<;>k_is)
  (case a20 => apply Sm.dn<;>k_is)
  (case a21 => apply Sm.dn<;>k_is)
  (case a22 => apply Sm.dn<;>k_is)
  (case a28 => apply Sm.dn<;>k_is)
  (case a29 => apply Sm.dn<;>k_is)
  (case a31 => apply Sm.dn<;>k_is)
  (case a32 => apply Sm.dn<;>k_is)
  (case a33 => apply Sm.dn<;>k_is)
  (case a35 => apply Sm.dn<;>k_is)
  (case a36 => apply Sm.dn<;>k_is)
  (case a37 => apply Sm.dn<;>k_is)
  (case a38 => apply Sm.dn<;>k_is)
  (case a40 => apply Sm.dn<;>k_is)
  (case a42 => apply Sm.dn<;>k_is)
  (case a49 => apply Sm.dn<;>k_is)
  (case a54 => apply Sm.dn<;>k_is)
  (case a57 => apply Sm.dn<;>k_is)
  (case a60 => apply Sm.dn<;>k_is)
  (case a61 => apply Sm.dn<;>k_is)
  (case a62 => apply Sm.dn<;>k_is)
  (case a65 => apply Sm.dn<;>k_is)
  (case a67 => apply Sm.dn<;>k_is)
  (case a2 => apply Sm.dk<;>k_is)
  (case a3 => apply Sm.dk<;>k_is)
  (case a4 => apply Sm.dk<;>k_is)
  (case a5 => apply Sm.dk<;>k_is)
  (case a6 => apply Sm.dk<;>k_is)
  (case a7 => apply Sm.dk<;>k_is)
  (case a8 => apply Sm.dk<;>k_is)
  (case a9 => apply Sm.dk<;>k_is)
  (case a13 => apply Sm.dk<;>k_is)
  (case a14 => apply Sm.dk<;>k_is)
  (case a16 => apply Sm.dk<;>k_is)
  (case a23 => apply Sm.dk<;>k_is)
  (case a24 => apply Sm.dk<;>k_is)
  (case a25 => apply Sm.dk<;>k_is)
  (case a26 => apply Sm.dk<;>k_is)
  (case a27 => apply Sm.dk<;>k_is)
  (case a30 => apply Sm.dk<;>k_is)
  (case a34 => apply Sm.dk<;>k_is)
  (case a39 => apply Sm.dk<;>k_is)
  (case a41 => apply Sm.dk<;>k_is)
  (case a43 => apply Sm.dk<;>k_is)
  (case a44 => apply Sm.dk<;>k_is)
  (case a45 => apply Sm.dk<;>k_is)
  (case a46 => apply Sm.dk<;>k_is)
  (case a47 => apply Sm.dk<;>k_is)
  (case a48 => apply Sm.dk<;>k_is)
  (case a50 => apply Sm.dk<;>k_is)
  (case a51 => apply Sm.dk<;>k_is)
  (case a52 => apply Sm.dk<;>k_is)
  (case a53 => apply Sm.dk<;>k_is)
  (case a55 => apply Sm.dk<;>k_is)
  (case a56 => apply Sm.dk<;>k_is)
  (case a58 => apply Sm.dk<;>k_is)
  (case a59 => apply Sm.dk<;>k_is)
  (case a63 => apply Sm.dk<;>k_is)
  (case a64 => apply Sm.dk<;>k_is)
  (case a66 => apply Sm.dk<;>k_is)
  (case a68 => apply Sm.dk<;>k_is)
  (case a69 => apply Sm.dk<;>k_is)
  (case a70 => apply Sm.dk<;>k_is)
  (case a71 => apply Sm.dk<;>k_is)
  (case kk0 => constructor<;>k_is)
  (case mk0 => k_is)
  (case kc0 => k_is)
  (case nf0_0 => apply Sm.fatt;k_is)
  (case nf0_1 => apply Sm.fatt;k_is)
  (case nf0_2 => apply Sm.fatt;k_is)
  (case nf0_3 => apply Sm.fatt;k_is)
  (case nf0_4 => apply Sm.fatt;k_is)
  (case nf0_5 => apply Sm.fatt;k_is)
  (case nf0_6 => apply Sm.fatt;k_is)
  (case nf0_7 => apply Sm.fatt;k_is)
  (case kk1 => constructor<;>k_is)
  (case mk1 => k_is)
  (case kc1 => k_is)
  (case nf1_0 => apply Sm.fatt;k_is)
  (case nf1_1 => apply Sm.fatt;k_is)
  (case nf1_2 => apply Sm.fatt;k_is)
  (case nf1_3 => apply Sm.fatt;k_is)
  (case z_abs => apply Sm.na;k_is)
  (case z_all => apply Sm.na;k_is)
  (case z_bool => apply Sm.na;k_is)
  (case z_dict => apply Sm.na;k_is)
  (case z_enumerate => apply Sm.na;k_is)
  (case z_int => apply Sm.na;k_is)
  (case z_isinstance => apply Sm.na;k_is)
  (case z_len => apply Sm.na;k_is)
  (case z_max => apply Sm.na;k_is)
  (case z_min => apply Sm.na;k_is)
  (case z_range => apply Sm.na;k_is)
  (case z_sorted => apply Sm.na;k_is)
  (case z_str => apply Sm.na;k_is)
  (case z_sum => apply Sm.na;k_is)
  (case e_NoText => apply Sm.na;k_is)
  (case Db => apply Sm.xi;k_exc)
  (case e_TooLong => apply Sm.na;k_is)
  (case B_ => apply Sm.xi;k_exc)
  (case e_NoPlace => apply Sm.na;k_is)
  (case Ch => apply Sm.xi;k_exc)
  (case e_NoName => apply Sm.na;k_is)
  (case D_ => apply Sm.xi;k_exc)
  (case e_NothingDone => apply Sm.na;k_is)
  (case jv => apply Sm.xi;k_exc)
  (case em_NoName_0 => apply Sm.xf<;>kts_exm)
  (case em_NoName_1 => apply Sm.xf<;>kts_exm)
  (case em_NoName_2 => apply Sm.xf<;>kts_exm)
  (case em_NoName_3 => apply Sm.xo;kts_exm)
  (case em_NoName_4 => apply Sm.xf<;>kts_exm)
  (case em_NoPlace_0 => apply Sm.xf<;>kts_exm)
  (case em_NoPlace_1 => apply Sm.xf<;>kts_exm)
  (case em_NoPlace_2 => apply Sm.xo;kts_exm)
  (case em_NoPlace_3 => apply Sm.xf<;>kts_exm)
  (case em_NoPlace_4 => apply Sm.xf<;>kts_exm)
  (case em_NoText_0 => apply Sm.xo;kts_exm)
  (case em_NoText_1 => apply Sm.xf<;>kts_exm)
  (case em_NoText_2 => apply Sm.xf<;>kts_exm)
  (case em_NoText_3 => apply Sm.xf<;>kts_exm)
  (case em_NoText_4 => apply Sm.xf<;>kts_exm)
  (case em_NothingDone_0 => apply Sm.xf<;>kts_exm)
  (case em_NothingDone_1 => apply Sm.xf<;>kts_exm)
  (case em_NothingDone_2 => apply Sm.xf<;>kts_exm)
  (case em_NothingDone_3 => apply Sm.xf<;>kts_exm)
  (case em_NothingDone_4 => apply Sm.xo;kts_exm)
  (case em_TooLong_0 => apply Sm.xf<;>kts_exm)
  (case em_TooLong_1 => apply Sm.xo;kts_exm)
  (case em_TooLong_2 => apply Sm.xf<;>kts_exm)
  (case em_TooLong_3 => apply Sm.xf<;>kts_exm)
  (case em_TooLong_4 => apply Sm.xf<;>kts_exm)
  (case m_LEAF_SIGNS => apply Sm.na;k_is)
  (case m_NAME_SIGNS => apply Sm.na;k_is)
  (case m_MOST_PLAIN => apply Sm.na;k_is)
  (case m_MOST_SIGNS => apply Sm.na;k_is)
  (case y0 => apply Sm.excK_of<;>k_is)
  (case y1 => apply Sm.excK_of<;>k_is)
  (case y2 => apply Sm.excK_of<;>k_is)
  (case y3 => apply Sm.excK_of<;>k_is)
  (case y4 => apply Sm.excK_of<;>k_is)
  (case kt_NoText_0 => apply Sm.ko;kit_is)
  (case kt_NoText_1 => apply Sm.ko;kit_is)
  (case kt_NoText_2 => apply Sm.ko;kit_is)
  (case kt_NoText_3 => apply Sm.ko;kit_is)
  (case kt_NoText_4 => apply Sm.ko;kit_is)
  (case kt_TooLong_0 => apply Sm.ko;kit_is)
  (case kt_TooLong_1 => apply Sm.ko;kit_is)
  (case kt_TooLong_2 => apply Sm.ko;kit_is)
  (case kt_TooLong_3 => apply Sm.ko;kit_is)
  (case kt_TooLong_4 => apply Sm.ko;kit_is)
