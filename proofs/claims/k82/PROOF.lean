import PyProof.Rows.All
import Wide.All
import OpenK.AllK
import Wide.FinOn
import Lean
import PyProof.EqAt
import PyProof.EqKinds
import PyProof.TupleCall
import PyProof.StrCalls2
import PyProof.SumAny
import PyProof.Rows.Range3
import PyProof.StrBlockI
import PyProof.SliceStr2
import PyProof.IsRules
import PyProof.StrBlock2
import PyProof.Seq
import PyProof.Rows.SortStr
import PyProof.Rows.SortShellK
import KE.KDictOf
import KE.KDictList
import KE.KTryMore
import KE.KEqDict
import PyProof.StrLawsIn
import PySem.Challenge.RW_skeinwood_k82_otherwise
set_option Elab.async false
set_option genSizeOf false
set_option bootstrap.genMatcherCode false
set_option compiler.extract_closed false
set_option compiler.postponeCompile true
set_option linter.all false
set_option maxRecDepth 100000
local macro_rules|`(⋯)=>`(by lia)
local macro_rules|`(∅)=>`(by decide +kernel)
local macro_rules|`(tactic|exists$t)=>`(tactic|with_reducible show$t)
local macro_rules|`($a⁻¹)=>`(autoParam $a $(Lean.mkIdent `L2.DB._auto_1))
local macro_rules|`(‹$t›)=>match t with|`(_)=>Lean.Macro.throwUnsupported|_=>`(autoParam $t $(Lean.mkIdent `L2.Ea._auto_1))
local macro_rules|`(def$n:declId$s:optDeclSig$v:declVal)=>`(noncomputable def$n:declId$s:optDeclSig$v:declVal)
local macro_rules|`('d')=>`(by decide)
local macro_rules|`('s')=>`(by simp)
local macro_rules|`(def$n:declId$s:optDeclSig:=($t))=>`(theorem$n:declId$(⟨Lean.mkNode `Lean.Parser.Command.declSig #[s.raw[0],s.raw[1][0]]⟩):declSig:=$t)
local macro_rules|`(def$n:declId$s:optDeclSig:=by$t:tacticSeq)=>`(theorem$n:declId$(⟨Lean.mkNode `Lean.Parser.Command.declSig #[s.raw[0],s.raw[1][0]]⟩):declSig:=by$t:tacticSeq)
local macro_rules|`(abbrev$n:declId$s:optDeclSig$v:declVal)=>`(noncomputable abbrev$n:declId$s:optDeclSig$v:declVal)
local macro_rules|`(@[simp]def$n:declId$s:optDeclSig$v:declVal)=>`(@[simp]noncomputable def$n:declId$s:optDeclSig$v:declVal)
local macro_rules|`($d:declaration)=>if d.raw.getPos?.isNone then Lean.Macro.throwUnsupported else return (d.raw.rewriteBottomUp λs=>s.setInfo .none)
namespace Lake
noncomputable section
section
open PySem PySem.Spec PyProof.Rows
abbrev ZA:=PySem.W.Frag
abbrev ZB:=PySem.Shared
abbrev ZC:=PySem.Value
abbrev ZD:=PySem.Program
abbrev ZE:=PySem.Addr
abbrev ZF:=PySem.World
abbrev ZG:=PySem.Around
def NZ:=@List.getElem?_eq_some_iff
def N8:=@List.getElem?_set_ne
def N9:=@wpAny_bind
def Oa:=@Nat.le_refl
def Ob:=@List.getElem?_set_self
def Oc:=@Nat.le_trans
def Oe:=@Heap.get?_push_of_some
def Of:=@if_pos
def Og:=@if_neg
def Oh:=@List.length_map
def Oi:=@wpAny_pure
def Oj:=@List.getElem?_append_left
def Ol:=@Nat.lt_of_le_of_lt
def Om:=@Heap.lt_size
def On:=@List.getElem?_eq_getElem
def Oq:=@List.size_toArray
def Os:=@Heap.get?_push_size
def Ot:=@List.map_cons
def Ou:=@Bool.false_ne_true
def Ov:=@List.mem_cons
def Ow:=@Option.map_eq_some_iff
def Ox:=@Nat.lt_of_lt_of_le
def Oy:=@List.getElem?_append_right
def Oz:=@Option.isSome_iff_exists
def OA:=@wpAny_truthy_bool
def OB:=@decide_eq_false
def OC:=@List.mem_append_left
def OD:=@Nat.add_le_add_left
def OE:=@List.mem_of_getElem?
def OF:=@List.mem_append_right
def OG:=@Option.some.inj
def OH:=@Nat.zero_le
def OI:=@List.getElem?_map
def OJ:=@Nat.ne_of_lt
def OK:=@List.mem_cons_of_mem
def OL:=@PySem.F.plainAttrs_list
def OM:=@decide_eq_true
def OO:=@List.length_set
def OP:=@List.length_append
def OQ:=@List.take_of_length_le
def OS:=@List.map_append
def OT:=@Bool.and_eq_true
def OU:=@PySem.W.mg_none_of
def OV:=@wpAny_mono
def OW:=@List.all_eq_true
def OX:=@List.length_take
def OY:=@List.mem_append
def OZ:=@wpAny_holding
def O0:=@List.mem_cons_self
def O1:=@List.nodup_cons
def O2:=@List.find?_cons
def O3:=@List.length_cons
def O4:=@PySem.W.mg_of
def O5:=@PySem.W.kia_one
def O6:=@List.range_succ
def O7:=@List.prefix_refl
def O8:=@List.length_replicate
def O9:=@Array.all_eq_true_iff_forall_mem
def Pa:=@List.drop_of_length_le
def Pb:=@PyProof.Rows.boot_max
def Pd:=@PySem.boot_len
def Pe:=@PySem.F.slot_list_append
def Pf:=@PySem.F.type_list_append
def Pg:=@Nat.not_lt_zero
def Ph:=@List.length_eq_zero_iff
def Pi:=@Int.eq_ofNat_of_zero_le
def Pj:=@wpAny_call_entry
def Pk:=@List.length_range
def Pl:=@PySem.mem_of_lookup
def Pm:=@List.map_congr_left
def Pn:=@Nat.min_eq_left
def Po:=@PySem.F.slot_dict_get
def Pp:=@List.getElem?_eq_none
def Pq:=@List.length_drop
def Pr:=@List.pairwise_cons
def Pt:=@Nat.lt_irrefl
def Pu:=@List.any_cons
def Pv:=@List.getElem?_replicate
def Pw:=@wpAny_newObj_type
def Px:=@decide_eq_true_eq
def Py:=@Bool.eq_iff_iff
def Pz:=@Int.max_eq_left
def PB:=@wpAny_loadPart'
def PC:=@Array.length_toList
def PD:=@PyProof.Rows.callWith_type1
def PF:=@Calls.callWith_builtin
def PH:=@List.mem_map
def PJ:=@List.filter_cons
def PK:=@List.getElem_mem
def PL:=@tupleKind_room_in1
def PM:=@if_true
def PN:=@wpAny_passesOwn
def PQ:=@PySem.typeIs_bool
def PR:=@Calls.evalArgs_plain
def PU:=@Heap.SameBut.update
def PX:=@Nat.lt_succ_self
def PY:=@PySem.F.plainAttrs_dict
def PZ:=@List.not_mem_nil
def P0:=@Int.max_eq_right
def P1:=@PySem.F.slot_bool_hash
def P2:=@Calls.spliced_cons
def P3:=@List.map_map
def P4:=@PySem.F.entry_dict_get
def P5:=@List.map_nil
def P6:=@List.getElem?_take
def P7:=@List.drop_eq_nil_of_le
def P8:=@List.nil_append
def P9:=@Heap.get?_update_self
def Qa:=@PySem.F.slot_list_pop
def Qb:=@PySem.F.type_list_pop
def Qc:=@wpAny_callSpecialIfBoundUnlessNone?_slot
def Qd:=@Option.isSome_map
def Qe:=@List.nodup_nil
def Qg:=@List.mem_of_mem_drop
def Qh:=@wpAny_of_eq
def Qi:=@List.lookup_cons
def Qj:=@Nat.add_comm
def Qk:=@Nat.min_eq_right
def Ql:=@List.filterMap_cons
def Qm:=@List.getElem_of_mem
def Qn:=@Nat.mul_le_mul_left
def Qo:=@List.append_nil
def Qq:=@Nat.min_le_left
def Qr:=@wpAny_execs_nil
def Qs:=@List.mem_singleton
def Qt:=@List.getElem?_drop
def Qu:=@assignInOrder_cons
def Qv:=@wpAny_load
def Qw:=@wpAny_Call_Name_kw
def Qx:=@call_meets
def Qy:=@List.mem_range
def Qz:=@Nat.le_of_lt
def QA:=@Calls.spliced_nil
def QB:=@List.nodup_append
def QC:=@Nat.lt_succ_of_lt
def QD:=@Nat.mul_le_mul
def QE:=@Nat.le_succ_of_le
def QF:=@of_decide_eq_true
def QG:=@call_meetsIn
def QH:=@PyProof.Rows.slot_tuple_getitem
def QI:=@Array.getElem?_toList
def QJ:=@List.length_filter_le
def QK:=@wpAny_notOrdered_dict
def QL:=@List.mem_of_mem_take
def QM:=@List.take_append_of_le_length
def QN:=@Bool.and_eq_true_iff
def QO:=@PyProof.Rows.boot_isinstance
def QP:=@Int.emod_nonneg
def QQ:=@wpAny_ite_split
def QR:=@PySem.W.plainGet_of
def QS:=@List.getElem?_range
def QT:=@Nat.lt_trans
def QU:=@Nat.succ_pos
def QV:=@PySem.W.of_hideAll
def QW:=@Calls.Name_function_global
def QX:=@List.mem_filterMap
def QY:=@List.filterMap_map
def QZ:=@PySem.W.callWith_K
def Q3:=@Int.emod_lt_of_pos
def Q4:=@typeIs_str
def Q5:=@wpAny_call
def Q7:=@List.drop_eq_getElem_cons
def Q8:=@Calls.call_function_entry
def Q9:=@PySem.W.kitx_list
def Ra:=@Nat.le_succ
def Rb:=@Bool.eq_false_iff
def Rc:=@List.getElem?_set
def Re:=@wpAny_pyIter_list
def Rf:=@wpAny_Call_method
def Rg:=@decide_true
def Rh:=@PySem.F.args_tuple_add_2
def Ri:=@PySem.SeqAt.Reads.unique
def Rj:=@PySem.F.slot_NoneType_eq
def Rk:=@wpAny_standAt
def Rl:=@PySem.F.entry_tuple_add
def Rm:=@PySem.F.args_dict_get_2
def Rn:=@PySem.F.args_dict_get_3
def Ro:=@Nat.le_of_not_lt
def Rp:=@Array.any_toList
def Rq:=@Array.toList_inj
def Rr:=@Option.bind_eq_some_iff
def Rt:=@List.all_toArray
def Ru:=@List.pairwise_singleton
def Rv:=@List.getElem?_cons_succ
def Rw:=@PySem.F.slot_list_clear
def Rx:=@PySem.F.type_list_clear
def Ry:=@wpAny_callSpecial?_slot
def Rz:=@eq_of_beq
def RA:=@decide_eq_false_iff_not
def RB:=@Nat.le_of_eq
def RC:=@PySem.W.cellsFrom_some
def RD:=@PySem.F.slot_tuple_add
def RE:=@Heap.get?_update_other
def RF:=@Nat.mul_comm
def RG:=@Nat.zero_add
def RH:=@Nat.pow_succ
def RI:=@List.length_eq_one_iff
def RJ:=@wpAny_pyNext_range_end
def RK:=@wpAny_pyIter_rangeiter
def RL:=@subscriptTail_builtinR
def RM:=@codeAny_mono
def RN:=@List.mem_filter
def RO:=@List.of_mem_zip
def RP:=@List.foldl_cons
def RQ:=@wpAny_specialOf
def RR:=@PySem.F.slot_dict_pop
def RS:=@PySem.F.type_dict_get
def RT:=@PySem.W.methodCall_KW
def RU:=@List.dropLast_eq_take
def RW:=@PySem.F.args_int_eq_2
def RX:=@PySem.F.slot_tuple_eq
def RY:=@PyProof.Rows.boot_all
def RZ:=@PyProof.Rows.boot_min
def R0:=@codeAny_handlers_test
def R3:=@Heap.get?_none_of_le
def R4:=@Heap.size_push
def R5:=@List.getElem?_of_mem
def R6:=@List.drop_zero
def R7:=@PySem.F.slot_dict_eq
def R8:=@PySem.F.slot_bool_eq
def R9:=@PySem.F.entry_int_eq
def Sa:=@PySem.F.slot_list_eq
def Sb:=@Nat.add_le_add
def Sd:=@Nat.mul_add
def Se:=@Nat.pow_le_pow_right
def Sf:=@wpAny_field
def Sg:=@lookup_relabel_local
def Sh:=@codeAny_call_builtin
def Sj:=@or_false
def Sl:=@isSubtype_type
def Sn:=@wpAny_bindName
def So:=@Value.isStrOf_shape
def Sq:=@PySem.W.hideAll_get
def Sr:=@PySem.W.callWith_K0
def Ss:=@PySem.W.kdu_collect
def Su:=@PySem.F.slot_int_eq
def Sv:=@PySem.F.slot_str_eq
def Sw:=@Int.toNat_of_nonneg
def Sx:=@List.replicate_succ
def Sy:=@wpAny_handleBy_cons
def Sz:=@List.set_comm
def SA:=@List.map_take
def SC:=@PySem.Reads.unique
def SF:=@List.prefix_append
def SG:=@Nat.add_sub_cancel
def SH:=@Bool.not_eq_false'
def SJ:=@wpAny_pyIter_range
def SM:=@wpAny_rule
def SN:=@Value.isInt_shape
def SO:=@PySem.W.kitx_dict
def SQ:=@Int.toNat_natCast
def SR:=@List.append_assoc
def SU:=@List.set_set
def SV:=@List.ext_getElem?
def SW:=@List.find?_append
def SY:=@List.foldl_append
def SZ:=@Nat.sub_self
def S0:=@wpAny_assign_Name
def S8:=@assignInOrder_nil
def S9:=@concat_meets
def Ta:=@wpAny_sequenceKey
def Tc:=@seqIndex_neg
def Td:=@slot_dict_setitem
def Te:=@wpAny_pyIter_enum
def Tf:=@wpAny_Name
def Th:=@chain_link
def Ti:=@if_false
def Tj:=@typeIs_int
def Tn:=@beq_iff_eq
end
namespace L2
open PySem PySem.Spec PyProof.Rows
abbrev aJ:=Sum Int Str
def jS:aJ->ZC->Bool
 |.inl k,v=>Value.isInt k v
 |.inr x,v=>Value.isStrOf x v
def nT(w:ZF):aJ->Int
 |.inl k=>hashInt k
 |.inr x=>hashStr w x
theorem iA:∀ {k:aJ} {v:ZC},jS k v=true->(∃ i t,k=Sum.inl i/\v=Value.int i t)\/(∃ x t,k=Sum.inr x/\v=Value.str x t)
 |.inl i,v,h=>by
  obtain⟨t,e⟩:=SN (k:=i) (v:=v) h;exact .inl ⟨i,t,rfl,e⟩
 |.inr x,v,h=>by
  obtain⟨t,e⟩:=So (x:=x) (v:=v) h;exact .inr ⟨x,t,rfl,e⟩
def Dl(i:Int)(t:Tok):jS (.inl i) (.int i t)=true:=by simp[jS,Value.isInt]
def Dm(x:Str)(t:Tok):jS (.inr x) (.str x t)=true:=by simp[jS,Value.isStrOf]
def qd(a b:Int):decide ((Sum.inl a:aJ)=Sum.inl b)=(a == b):=by
 by_cases e:a=b
 ·subst e;simp
 ·have h:¬ (Sum.inl a:aJ)=Sum.inl b:=λq=>e (Sum.inl.inj q)
  rw[OB h];exact(beq_eq_false_iff_ne.mpr e).symm
def xR(a b:Str):decide ((Sum.inr a:aJ)=Sum.inr b)=decide (a=b):=by
 by_cases e:a=b
 ·subst e;simp
 ·have h:¬ (Sum.inr a:aJ)=Sum.inr b:=λq=>e (Sum.inr.inj q)
  rw[OB h,OB e]
def tq(a:Int)(b:Str):decide ((Sum.inl a:aJ)=Sum.inr b)=false:=(OB (λq=>nomatch q))
def tu(a:Str)(b:Int):decide ((Sum.inr a:aJ)=Sum.inl b)=false:=(OB (λq=>nomatch q))
def eB(prog:ZD)(w:ZF):PySem.KeyKind prog w aJ where
 is:=jS
 hash:=nT w
 inj:=λv a b ha hb=>by
  rcases iA ha with⟨i,t,rfl,rfl⟩|⟨x,t,rfl,rfl⟩
  ·rcases iA hb with⟨j,u,rfl,e⟩|⟨y,u,rfl,e⟩
   ·injection e with e1 _;rw[e1]
   ·exact nomatch e
  ·rcases iA hb with⟨j,u,rfl,e⟩|⟨y,u,rfl,e⟩
   ·exact nomatch e
   ·injection e with e1 _;rw[e1]
 byValue:=λk v h=>by
  rcases iA h with⟨i,t,rfl,rfl⟩|⟨x,t,rfl,rfl⟩<;>rfl
 pyHash:=λhv h=>by
  rcases iA hv with⟨i,t,rfl,rfl⟩|⟨x,t,rfl,rfl⟩
  ·exact wpAny_pyHash_int h
  ·exact wpAny_pyHash_str h
 eqBool:=λhu hv h=>by
  rcases iA hu with⟨i,t,rfl,rfl⟩|⟨x,t,rfl,rfl⟩
  ·rcases iA hv with⟨j,u,rfl,rfl⟩|⟨y,u,rfl,rfl⟩
   ·rw[qd] at h;exact wpAny_eqBool_int h
   ·rw[tq] at h;exact SeqAt.EqAt.int_str i t y u _ _ _ _ h
  ·rcases iA hv with⟨j,u,rfl,rfl⟩|⟨y,u,rfl,rfl⟩
   ·rw[tu] at h;exact SeqAt.EqAt.str_int x t j u _ _ _ _ h
   ·rw[xR] at h;exact wpAny_eqBool_str h
 «strs»:=λk x t v h=>by
  rcases iA h with⟨i,u,rfl,e⟩|⟨y,u,rfl,e⟩
  ·exact nomatch e
  ·injection e with e1 _
   subst e1
   cases v<;>rfl
abbrev kj(b:Bool):Int:=if b then 1 else 0
def kq:aJ->ZC->Bool
 |.inl k,.bool b=>decide (k=kj b)
 |.inl k,v=>Value.isInt k v
 |.inr x,v=>Value.isStrOf x v
theorem iB:∀ {k:aJ} {v:ZC},kq k v=true->(∃ i t,k=Sum.inl i/\v=Value.int i t)\/(∃ b,k=Sum.inl (kj b)/\v=Value.bool b)\/(∃ x t,k=Sum.inr x/\v=Value.str x t)
 |.inl i,v,h=>by
  cases v with
  |bool b=>exact .inr (.inl ⟨b,by rw[QF (show decide (i=kj b)=true from h)],rfl⟩)
  |int j t =>
   obtain⟨t,e⟩:=SN (k:=i) (v:=.int j t) h;exact .inl ⟨i,t,rfl,e⟩
  |_=>exact absurd h (by simp[kq,Value.isInt])
 |.inr x,v,h=>by
  obtain⟨t,e⟩:=So (x:=x) (v:=v) h;exact .inr (.inr ⟨x,t,rfl,e⟩)
def Do{prog:ZD}{w:ZF}{A:ZG}{E:ZC->ZB->Prop}{s:ZB}{b:Bool}{Q:Int->ZB->Prop}(h:Q (hashInt (kj b)) { s with toks:=s.toks+1 }) :
  wpAny (model prog w) A (pyHash (.bool b)) Q E s:=by
 unfold pyHash;unfold pyHashByItsType;have hv:[Value.bool b].any Value.onHeap=false:=rfl;refine N9 ?_
 rw[cRoomFor,Og (by rw[hv];exact Ou)];refine Oi ?_
 refine N9 (RQ (PQ s b) PySem.F.slot_bool_hash.lookup ?_)
 show wpAny _ _ (if (some (Value.builtin "int.__hash__") == some Value.none)=true then _ else _) Q E s
 rw[Og (by rw[beq_builtin_none];exact Ou)];refine N9 (RQ (PQ s b) PySem.F.slot_bool_hash.lookup ?_)
 show wpAny _ _ (callSpecialIfBoundUnlessNone? (.bool b) "__hash__" _ >>= _) Q E s
 cases b with
 |false =>
  refine N9 (Qc (PQ s false) P1
   (Pj P1 (PQ s false) entry_int_hash
    (show wpAny _ _ (do ret (<- mkInt 0)) _ _ s from wpAny_ret_mkInt ?_) (args_int_hash _)))
  exact Oi h
 |true =>
  refine N9 (Qc (PQ s true) P1
   (Pj P1 (PQ s true) entry_int_hash
    (show wpAny _ _ (do ret (<- mkInt 1)) _ _ s from wpAny_ret_mkInt ?_) (args_int_hash _)))
  exact Oi h
def Dp(a b:Bool):(a == b)=decide ((Sum.inl (kj a):aJ)=Sum.inl (kj b)):=by cases a<;>cases b<;>decide
def iC(prog:ZD)(w:ZF):PySem.KeyKind prog w aJ where
 is:=kq
 hash:=nT w
 inj:=λv a b ha hb=>by
  rcases iB ha with⟨i,t,rfl,rfl⟩|⟨c,rfl,rfl⟩|⟨x,t,rfl,rfl⟩
  ·rcases iB hb with⟨j,u,rfl,e⟩|⟨d,rfl,e⟩|⟨y,u,rfl,e⟩
   ·injection e with e1 _;rw[e1]
   ·exact nomatch e
   ·exact nomatch e
  ·rcases iB hb with⟨j,u,rfl,e⟩|⟨d,rfl,e⟩|⟨y,u,rfl,e⟩
   ·exact nomatch e
   ·injection e with e1;rw[e1]
   ·exact nomatch e
  ·rcases iB hb with⟨j,u,rfl,e⟩|⟨d,rfl,e⟩|⟨y,u,rfl,e⟩
   ·exact nomatch e
   ·exact nomatch e
   ·injection e with e1 _;rw[e1]
 byValue:=λk v h=>by
  rcases iB h with⟨i,t,rfl,rfl⟩|⟨c,rfl,rfl⟩|⟨x,t,rfl,rfl⟩<;>rfl
 pyHash:=λhv h=>by
  rcases iB hv with⟨i,t,rfl,rfl⟩|⟨c,rfl,rfl⟩|⟨x,t,rfl,rfl⟩
  ·exact wpAny_pyHash_int h
  ·exact Do h
  ·exact wpAny_pyHash_str h
 eqBool:=λhu hv h=>by
  rcases iB hu with⟨i,t,rfl,rfl⟩|⟨c,rfl,rfl⟩|⟨x,t,rfl,rfl⟩
  ·rcases iB hv with⟨j,u,rfl,rfl⟩|⟨d,rfl,rfl⟩|⟨y,u,rfl,rfl⟩
   ·rw[qd] at h;exact wpAny_eqBool_int h
   ·rw[qd] at h;exact SeqAt.EqAt.int_bool i t d _ _ _ _ h
   ·rw[tq] at h;exact SeqAt.EqAt.int_str i t y u _ _ _ _ h
  ·rcases iB hv with⟨j,u,rfl,rfl⟩|⟨d,rfl,rfl⟩|⟨y,u,rfl,rfl⟩
   ·rw[qd] at h;exact SeqAt.EqAt.bool_int c j u _ _ _ _ h
   ·rw[<- Dp] at h;exact SeqAt.EqAt.bool_bool c d _ _ _ _ h
   ·rw[tq] at h;exact SeqAt.EqAt.bool_str c y u _ _ _ _ h
  ·rcases iB hv with⟨j,u,rfl,rfl⟩|⟨d,rfl,rfl⟩|⟨y,u,rfl,rfl⟩
   ·rw[tu] at h;exact SeqAt.EqAt.str_int x t j u _ _ _ _ h
   ·rw[tu] at h;exact SeqAt.EqAt.str_bool x t d _ _ _ _ h
   ·rw[xR] at h;exact wpAny_eqBool_str h
 «strs»:=λk x t v h=>by
  rcases iB h with⟨i,u,rfl,e⟩|⟨d,rfl,e⟩|⟨y,u,rfl,e⟩
  ·exact nomatch e
  ·exact nomatch e
  ·injection e with e1 _
   subst e1
   cases v<;>rfl
def Dq(prog:ZD)(w:ZF)(i:Int)(t:Tok):(iC prog w).is (.inl i) (.int i t)=true:=by show kq (.inl i) (.int i t)=true;simp[kq,Value.isInt]
def Dr(prog:ZD)(w:ZF)(x:Str)(t:Tok):(iC prog w).is (.inr x) (.str x t)=true:=by show kq (.inr x) (.str x t)=true;simp[kq,Value.isStrOf]
def Ds(prog:ZD)(w:ZF)(k:aJ)(v:ZC):(eB prog w).is k v=jS k v:=(rfl)
def Dt(prog:ZD)(w:ZF)(i:Int)(t:Tok):(eB prog w).is (.inl i) (.int i t)=true:=(Dl i t)
def Du(prog:ZD)(w:ZF)(x:Str)(t:Tok):(eB prog w).is (.inr x) (.str x t)=true:=(Dm x t)
inductive V where
 |non|bl (b:Bool)|int (i:Int)|str (x:Str)|byt (b:Array UInt8)|flt (b:UInt64)|ref (a:ZE)|ty (n:String)
 deriving DecidableEq
def RelV:V->ZC->Prop
 |.non,u=>u=Value.none
 |.bl b,u=>u=Value.bool b
 |.int i,u=>∃ t,u=Value.int i t
 |.str x,u=>∃ t,u=Value.str x t
 |.byt b,u=>∃ t,u=Value.bytes b t
 |.flt b,u=>∃ t,u=Value.float b t
 |.ref a,u=>u=Value.ref a
 |.ty n,u=>u=Value.type n
abbrev Vals:List V->List ZC->Prop:=Paired RelV
def Vals.length{xs:List V}{us:List ZC}(r:Vals xs us):xs.length=us.length:=(Paired.length r)
theorem Vals.get:∀ {xs:List V} {us:List ZC} {i:Nat} {x:V},Vals xs us->xs[i]?=some x->∃ u,us[i]?=some u/\RelV x u
 |_,_,_,_,.nil,e=>by simp at e
 |_,_,0,_,.cons r _,e=>by simp at e;subst e;exact⟨_,rfl,r⟩
 |_,_,i+1,x,.cons _ t,e=>by
  obtain⟨u,h1,h2⟩:=Vals.get (i:=i) (x:=x) t (by simpa using e);exact⟨u,by simpa using h1,h2⟩
theorem Vals.set{x:V}{u:ZC}(r:RelV x u):∀ {xs:List V} {us:List ZC} (i:Nat),Vals xs us->Vals (xs.set i x) (us.set i u)
 |_,_,_,.nil=>.nil
 |_,_,0,.cons _ t=>.cons r t
 |_,_,i+1,.cons q t=>.cons q (Vals.set r i t)
theorem Vals.append:∀ {xs ys:List V} {us ws:List ZC},Vals xs us->Vals ys ws->Vals (xs++ys) (us++ws)
 |_,_,_,_,.nil,s=>s
 |_,_,_,_,.cons r t,s=>.cons r (Vals.append t s)
theorem Vals.take:∀ {xs:List V} {us:List ZC} (n:Nat),Vals xs us->Vals (xs.take n) (us.take n)
 |_,_,0,_=>.nil
 |_,_,_+1,.nil=>.nil
 |_,_,n+1,.cons r t=>.cons r (Vals.take n t)
theorem Vals.drop:∀ {xs:List V} {us:List ZC} (n:Nat),Vals xs us->Vals (xs.drop n) (us.drop n)
 |_,_,0,r=>r
 |_,_,_+1,.nil=>.nil
 |_,_,n+1,.cons _ t=>Vals.drop n t
def RelO:Option V->Option ZC->Prop
 |some v,some u=>RelV v u
 |none,none=>True
 |_,_=>False
def KV{κ:Type}:List (κ×V)->List (κ×ZC)->Prop:=Paired λ(p:κ×V) (q:κ×ZC)=>p.1=q.1/\RelV p.2 q.2
def kV:aJ->V
 |.inl i=>.int i
 |.inr x=>.str x
def mC:V->Option aJ
 |.int i=>some (.inl i)
 |.bl b=>some (.inl (kj b))
 |.str x=>some (.inr x)
 |_=>none
def Dv(k:aJ):mC (kV k)=some k:=by cases k<;>rfl
inductive HO where
 |lst (xs:List V)
 |tup (xs:List V)
 |dK (kvs:List (aJ×V))|dT (xc:Option (List ZE)) (kvs:List (List aJ×V))
 |set (S:Int->Bool) (n:Nat)
 |ins (C dx:ZE) (fs:List (Str×V))
 |own (x:ZE)
 |xd (fs:List (Str×V))
 |met (f x:ZE)
 |rng (lo hi:Int)
 |frz (o:Obj) (u:HO)
 |tbl (ps:Array ZC)
 |ext (φ:Heap->Prop)
abbrev Hp:=ZE->Option HO
def upd(H:Hp)(a:ZE)(o:HO):Hp:=λb=>if b=a then some o else H b
def dQ{H:Hp}{a:ZE}{o:HO}:upd H a o a=some o:=by unfold upd;rw[Of rfl]
def bg{H:Hp}{a b:ZE}{o:HO}(h:b≠a):upd H a o b=H b:=by unfold upd;rw[Og h]
def Dw{H:Hp}{a b:ZE}{o u:HO}(h:H a=some o)(h':H b=some u)(d:o≠u):a≠b:=by
 intro e;subst e;rw[h] at h';exact d (OG h')
def fQ{H:Hp}{a b:ZE}{o:HO}(h:H a=some o)(h':H b=none):a≠b:=by
 intro e;subst e;rw[h] at h';cases h'
section
variable(P:ZD)(w:ZF)
def ObjOk(H:Hp)(h:Heap)(a:ZE):HO->Prop
 |.lst xs=>xs.length<=sizeLine/\∃ (its:List ZC) (n:Nat),Vals xs its/\h.get? a=some { cls:=.type "list",data:=.seq its.toArray n }
 |.tup xs=>xs.length<=sizeLine/\∃ its:List ZC,Vals xs its/\IsTup h a its.toArray
 |.dK kvs=>kvs.length<=sizeLine/\(a == sysModules)=false/\∃ vs,KV kvs vs/\h.DictOf (eB P w) a vs
 |.dT xc kvs=>kvs.length<=sizeLine/\(a == sysModules)=false/\∃ xs:List (List aJ×ZE×ZC),
   Paired (λ(p:List aJ×V) (q:List aJ×ZE×ZC)=>p.1=q.1/\(∃ ys,H q.2.1=some (.tup ys)/\ys.map mC=p.1.map some)/\RelV p.2 q.2.2) kvs xs /\
   ∃ o es ep,h.get? a=some o/\o.ExactDict/\o.data=.dict es ep/\es.toList=xs.map (entryOfKey (tupleKind (iC P w)))/\(xs.map (·.1)).Nodup/\ep=xs.length/\∀ as,xc=some as->xs.map (·.2.1)=as
 |.set S n=>h.SetOf (intKind P w) a S n
 |.ins C dx fs=>H dx=some (.own a)/\fs.length<=1000/\dx≠a/\h.get? a=some (PySem.W.instObj C dx) /\
   ∃ mA,h.Ns1 dx mA/\(∀ f,RelO (fs.lookup f) (mA f))/\PySem.Within mA (fs.map (·.1))
 |.own _=>∃ o,h.get? a=some o
 |.xd fs=>∃ mA,h.Ns1 a mA/\∀ f,RelO (fs.lookup f) (mA f)
 |.rng lo hi=>∃ t u v,h.get? a=some { cls:=.type "range",data:=.fields #[.int lo t,.int hi u,.int 1 v] }
 |.frz o u=>h.get? a=some o/\ObjOk H h a u
 |.tbl ps=>h.get? a=some { cls:=.none,data:=.fields ps }
 |.met f x=>h.get? a=some (PySem.W.methodObj (.ref f) (.ref x))
 |.ext φ=>φ h/\(∃ o,h.get? a=some o)/\∀ h1 h2:Heap,φ h1->(∀ o,h1.get? a=some o->h2.get? a=some o)->φ h2
def HOk(H:Hp)(h:Heap):Prop:=∀ a o,H a=some o->ObjOk P w H h a o
end
section
variable{P:ZD}{w:ZF}{H H':Hp}{h h':Heap}{a:ZE}{o:HO}
def ObjOk.lt(x:ObjOk P w H h a o):a<h.objs.size:=by
 cases o with
 |lst xs=>obtain⟨_,_,_,_,e⟩:=x;exact Om e
 |tup xs=>obtain⟨_,_,_,p⟩:=x;exact p.lt
 |dK kvs=>obtain⟨_,_,_,_,o,_,_,e,_⟩:=x;exact Om e
 |dT xc kvs=>obtain⟨_,_,_,_,o,_,_,e,_⟩:=x;exact Om e
 |set S n=>obtain⟨o,_,_,_,e,_⟩:=x;exact Om e
 |ins C dx fs=>obtain⟨_,_,_,e,_⟩:=x;exact Om e
 |own y=>obtain⟨_,e⟩:=x;exact Om e
 |xd fs=>obtain⟨_,⟨_,_,_,e,_⟩,_⟩:=x;exact Om e
 |rng lo hi=>obtain⟨_,_,_,e⟩:=x;exact Om e
 |frz ob u=>obtain⟨e,_⟩:=x;exact Om e
 |tbl ps=>exact Om (show h.get? a=some _ from x)
 |met f y=>exact Om (show h.get? a=some _ from x)
 |ext φ=>obtain⟨_,⟨_,e⟩,_⟩:=x;exact Om e
theorem Paired.mapP{α β:Type}{F G:α->β->Prop}:∀ {l₁:List α} {l₂:List β},Paired F l₁ l₂->(∀ a b,F a b->G a b)->Paired G l₁ l₂
 |_,_,.nil,_=>.nil
 |_,_,.cons r t,f=>.cons (f _ _ r) (Paired.mapP t f)
def ObjOk.stay(x:ObjOk P w H h a o)(k:∀ b u,(b=a\/H b=some (.own a))->h.get? b=some u->h'.get? b=some u)
  (ho:∀ b,H b=some (.own a)->H' b=some (.own a))(ht:∀ b xs,H b=some (.tup xs)->H' b=some (.tup xs)):ObjOk P w H' h' a o:=by
 induction o with
 |lst xs=>obtain⟨z,its,n,r,e⟩:=x;exact⟨z,its,n,r,k _ _ (.inl rfl) e⟩
 |tup xs=>obtain⟨z,its,r,ob,e,c⟩:=x;exact⟨z,its,r,ob,k _ _ (.inl rfl) e,c⟩
 |dK kvs=>obtain⟨z,y,vs,r,ob,es,ep,e,c⟩:=x;exact⟨z,y,vs,r,ob,es,ep,k _ _ (.inl rfl) e,c⟩
 |dT xc kvs =>
  obtain⟨z,y,xs,r,ob,es,ep,e,c⟩:=x;exact⟨z,y,xs,Paired.mapP r λp q z=>⟨z.1,z.2.1.imp λ_ e=>⟨ht _ _ e.1,e.2⟩,z.2.2⟩,ob,es,ep,k _ _ (.inl rfl) e,c⟩
 |set S n=>obtain⟨ob,es,ep,t,e,c⟩:=x;exact⟨ob,es,ep,t,k _ _ (.inl rfl) e,c⟩
 |ins C dx fs =>
  obtain⟨d,z,ne,e,mA,⟨od,es,ep,e2,c⟩,r⟩:=x;exact⟨ho _ d,z,ne,k _ _ (.inl rfl) e,mA,⟨od,es,ep,k _ _ (.inr d) e2,c⟩,r⟩
 |own y=>obtain⟨ob,e⟩:=x;exact⟨ob,k _ _ (.inl rfl) e⟩
 |xd fs=>obtain⟨mA,⟨od,es,ep,e,c⟩,r⟩:=x;exact⟨mA,⟨od,es,ep,k _ _ (.inl rfl) e,c⟩,r⟩
 |rng lo hi=>obtain⟨t,u,v,e⟩:=x;exact⟨t,u,v,k _ _ (.inl rfl) e⟩
 |frz ob u ih=>obtain⟨e,q⟩:=x;exact⟨k _ _ (.inl rfl) e,ih q⟩
 |tbl ps =>
  have e:h.get? a=some { cls:=.none,data:=.fields ps }:=x;show h'.get? a=some { cls:=.none,data:=.fields ps }
  exact k a _ (.inl rfl) e
 |met f y =>
  have e:h.get? a=some (PySem.W.methodObj (.ref f) (.ref y)):=x;show h'.get? a=some (PySem.W.methodObj (.ref f) (.ref y))
  exact k a _ (.inl rfl) e
 |ext φ=>obtain⟨p,⟨o,e⟩,st⟩:=x;exact⟨st _ _ p λo q=>k _ _ (.inl rfl) q,⟨o,k _ _ (.inl rfl) e⟩,st⟩
def HOk.lt(x:HOk P w H h)(e:H a=some o):a<h.objs.size:=((x a o e).lt)
def HOk.fresh(x:HOk P w H h)(e:h.objs.size<=a):H a=none:=by
 cases q:H a with
 |none=>rfl
 |some u=>exact absurd (Ox (x.lt q) e) (Pt _)
def HOk.kept(x:HOk P w H h)(k:∀ b u,h.get? b=some u->h'.get? b=some u):HOk P w H h':=(λa o e =>
 (x a o e).stay (λb u _ q=>k b u q) (λ_ q=>q) λ_ _ q=>q)
def HOk.laid(x:HOk P w H h)(k:∀ b u,h.get? b=some u->h'.get? b=some u)(hp:h.objs.size<=a)(new:ObjOk P w (upd H a o) h' a o):HOk P w (upd H a o) h':=(λb u e=>by
 have hn:=x.fresh hp;by_cases hb:b=a
 ·subst hb;rw[dQ] at e;cases e;exact new
 ·rw[bg hb] at e
  exact(x b u e).stay (λc v _ q=>k c v q) (λc q=>by rw[bg (fQ q hn)];exact q) λc xs q=>by rw[bg (fQ q hn)];exact q)
end
def Rd(H:Hp)(a:ZE)(u:HO):Prop:=H a=some u\/∃ o,H a=some (.frz o u)
def Rd.of{H:Hp}{a:ZE}{u:HO}(h:H a=some u):Rd H a u:=(.inl h)
def Rd.ok{P:ZD}{w:ZF}{H:Hp}{h:Heap}{a:ZE}{u:HO}(r:Rd H a u)(x:HOk P w H h):ObjOk P w H h a u:=by
 rcases r with r|⟨o,r⟩
 ·exact x a u r
 ·obtain⟨_,q⟩:=x a _ r
  exact q
def nU:Option HO->Prop
 |some (.lst _)=>True
 |some (.dK _)=>True
 |some (.dT _ _)=>True
 |some (.set _ _)=>True
 |some (.ins _ _ _)=>True
 |some (.ext _)=>True
 |_=>False
section
variable{P:ZD}{w:ZF}{H:Hp}{h h':Heap}{x e:ZE}{o':HO}
def HOk.write(ok:HOk P w H h)(mu:nU (H x))(he:e=x\/H e=some (.own x))(k:∀ b u,b≠e->h.get? b=some u->h'.get? b=some u)(heo:∃ u,h'.get? e=some u)
  (new:ObjOk P w (upd H x o') h' x o'):HOk P w (upd H x o') h':=(λb u q=>by
 have nown:∀ c y,H c=some (.own y)->c≠x:=λc y r z=>by subst z;rw[r] at mu;exact mu
 have ntup:∀ c xs,H c=some (.tup xs)->c≠x:=λc xs r z=>by subst z;rw[r] at mu;exact mu
 by_cases hb:b=x
 ·subst hb;rw[dQ] at q;cases q;exact new
 ·rw[bg hb] at q
  by_cases hbe:b=e
  ·have q':H b=some (.own x):=by
    rcases he with z|z
    ·exact absurd (hbe.trans z) hb
    ·rw[hbe];exact z
   rw[q] at q';cases q'
   obtain⟨v,hv⟩:=heo;exact⟨v,by rw[hbe];exact hv⟩
  ·refine(ok b u q).stay (λc v hc r=>k c v ?_ r) (λc r=>by rw[bg (nown c b r)];exact r) λc xs r=>by rw[bg (ntup c xs r)];exact r
   rcases hc with rfl|hc
   ·exact hbe
   ·rintro rfl
    rcases he with z|z
    ·exact nown c b hc z
    ·rw[hc] at z;cases z;exact hb rfl)
end
structure Un(fs ex:List ZE)(H H':Hp)(h h':Heap):Prop where
 keep:∀ b o,h.get? b=some o->H b=none->b∉fs->b∉ex->h'.get? b=some o
 slot:∀ b o,h.get? b=some o->H b=none->b∈fs->b∉ex->∃ sl,h'.get? b=some { o with slots:=sl }
 free:∀ b o,h.get? b=some o->H b=none->b∉ex->H' b=none
 there:∀ b o,h.get? b=some o->b∉ex->∃ o',h'.get? b=some o'
 tups:∀ b xs,H b=some (.tup xs)->H' b=some (.tup xs)
 frzs:∀ b o u,H b=some (.frz o u)->H' b=some (.frz o u)
 tbls:∀ b ps,H b=some (.tbl ps)->∃ more,H' b=some (.tbl (ps++more))
section
variable{fs fs' ex ex':List ZE}{H H1 H2:Hp}{h h1 h2 h':Heap}{a x e:ZE}{o:HO}
def Un.any(u:Un fs ex H H1 h h1){b:ZE}{ob:Obj}(q:h.get? b=some ob)(n:H b=none)(hx:b∉ex):∃ sl,h1.get? b=some { ob with slots:=sl }:=by
 by_cases hb:b∈fs
 ·exact u.slot b ob q n hb hx
 ·exact⟨ob.slots,u.keep b ob q n hb hx⟩
def Un.kept(k:∀ b u,h.get? b=some u->h'.get? b=some u):Un fs ex H H h h' :=(
 ⟨λb ob q _ _ _=>k b ob q,λb ob q _ _ _=>⟨ob.slots,k b ob q⟩,λ_ _ _ n _=>n,λb ob q _=>⟨ob,k b ob q⟩,λ_ _ q=>q,λ_ _ _ q=>q,λ_ ps q=>⟨#[],by rw[q];simp⟩⟩)
def Un.refl:Un fs ex H H h h:=(Un.kept λ_ _ q=>q)
theorem Un.laid(k:∀ b u,h.get? b=some u->h'.get? b=some u)(hp:h.objs.size<=a)(hn:H a=none):Un fs ex H (upd H a o) h h' where
 keep:=λb u q _ _ _=>k b u q
 slot:=λb u q _ _ _=>⟨u.slots,k b u q⟩
 free:=λb u q n _=>by rw[bg (OJ (Ox (Om q) hp))];exact n
 there:=λb u q _=>⟨u,k b u q⟩
 tups:=λb xs q=>by rw[bg (fQ q hn)];exact q
 frzs:=λb u xs q=>by rw[bg (fQ q hn)];exact q
 tbls:=λb ps q=>⟨#[],by rw[bg (fQ q hn),q];simp⟩
def Un.write(mu:nU (H x))(he:e=x\/H e=some (.own x))(k:∀ b u,b≠e->h.get? b=some u->h'.get? b=some u)(heo:∃ u,h'.get? e=some u):Un fs ex H (upd H x o) h h':=by
 have hx:∀ b,H b=none->b≠x:=λb n z=>by subst z;rw[n] at mu;exact mu
 have hb:∀ b,H b=none->b≠e:=λb n z=>by
  subst z;rcases he with r|r
  ·exact hx b n r
  ·rw[n] at r;cases r
 have hm:∀ b u,H b=some u -> ¬ nU (some u)->b≠x:=λb u q nm z=>by subst z;rw[q] at mu;exact nm mu
 refine⟨λb u q n _ _=>k b u (hb b n) q,λb u q n _ _=>⟨u.slots,k b u (hb b n) q⟩,λb u q n _=>by rw[bg (hx b n)];exact n,λb u q _=>?_,
  λb xs q=>by rw[bg (hm b _ q λz=>z)];exact q,λb u xs q=>by rw[bg (hm b _ q λz=>z)];exact q,λb ps q=>⟨#[],by rw[bg (hm b _ q λz=>z),q];simp⟩⟩
 by_cases hbe:b=e
 ·subst hbe;exact heo
 ·exact⟨u,k b u hbe q⟩
end
def qe(h:Heap)(H:Hp):List ZE:=(List.range h.objs.size).filter λa=>(H a).isSome
def eI(h:Heap)(H:Hp):Heap:=PySem.W.hideAll h (qe h H)
def Dx(h:Heap)(H:Hp):(eI h H).objs.size=h.objs.size:=(PySem.W.hideAll_size _ _)
def Dy{h:Heap}{H:Hp}{b:ZE}{o:Obj}(e:h.get? b=some o)(n:H b=none):(eI h H).get? b=some o :=(
 Sq _ e λhm=>by
  have q:(H b).isSome=true:=(RN.mp hm).2;rw[n] at q;simp at q)
def DA{h:Heap}{H:Hp}{b:ZE}{o:Obj}(e:(eI h H).get? b=some o):h.get? b=some o/\H b=none:=by
 have e':h.get? b=some o:=QV (qe h H) e;refine⟨e',?_⟩
 cases q:H b with
 |none=>rfl
 |some x =>
  have hm:b∈qe h H:=RN.mpr ⟨Qy.mpr (Om e'),by simp[q]⟩;have z:(eI h H).get? b=none:=PySem.W.hideAll_none (qe h H) hm;rw[z] at e;cases e
structure Mod(K:ZA)(mg:Str->Option ZC)(base:Heap):Prop where
 kin:K.In base
 glob:base.Ns mainGlobals mg
 blt:∃ mb,base.Ns builtinsNs mb/\∀ x:Str,x ≠ "__name__" -> mb x=bootBuiltins x
 nolimit:base.NoLimit
structure Cx where
 prog:ZD
 w:ZF
 K:ZA
 mg:Str->Option ZC
 base:Heap
 A:ZG
 N:List Str
 s₀:ZB
 H₀:Hp
 env:Env
 outer:List Env
 stack:List Env
 ex:List ZE
 fn:Str->Bool
 calm:Bool
 pn:List (ZE×Obj)
 xe:ZC->ZB->Prop
def d7(l:List Env):List ZE:=l.filterMap (·.frame)
abbrev Cx.fs(X:Cx):List ZE:=d7 X.outer
def nV(sc:Scope)(x:Str):Prop:=sc.names.lookup x=some .local\/sc.names.lookup x=some .cell\/sc.names.lookup x=some .free
def kr(sc:Scope)(x:Str):Prop:=sc.names.lookup x=some .local\/sc.names.lookup x=some .cell
def tw(env:Env)(h:Heap)(m:Str->Option ZC)(x:Str)(u:ZC):Prop :=
 (env.kindOf x=some .local/\m x=some u)\/((env.kindOf x=some .cell\/env.kindOf x=some .free)/\∃ c,env.cells.lookup x=some c/\h.IsCell c (some u))
structure Cx.Ok(X:Cx):Prop where
 mod:Mod X.K X.mg X.base
 kind:X.env.scope.kind=.function
 glob:X.env.globals=mainGlobals
 blt:X.env.builtins=builtinsNs
 above:X.s₀.heap.objs.size<=X.env.locals
 inj:∀ x y c,X.env.cells.lookup x=some c->X.env.cells.lookup y=some c->x=y
 has:∀ x,(X.env.kindOf x=some .cell\/X.env.kindOf x=some .free)->∃ c,X.env.cells.lookup x=some c
 cab:∀ x c,X.fn x=true->X.env.cells.lookup x=some c->X.s₀.heap.objs.size<=c
 hd:X.calm=true->X.A.handled=none
 frames:X.A.frames=some X.stack
 stk:X.stack=X.outer\/(X.stack=X.env::X.outer/\X.env.frame=some X.env.locals)
 exf:∀ b∈X.ex,b≠X.env.locals/\∀ x c,X.env.cells.lookup x=some c->c≠b
 bs:∀ b o,X.base.get? b=some o->X.s₀.heap.get? b=some o/\X.H₀ b=none
 bsz:X.base.objs.size<=X.s₀.heap.objs.size
 noex:∀ b o,X.base.get? b=some o->b∉X.ex
 exfs:∀ b∈X.ex,b∉X.fs
 funs:X.s₀.heap.FunFrames X.base X.outer
 frf:∀ b∈X.fs,X.H₀ b=none
structure Inv(X:Cx)(pins:List (ZE×Obj))(σ:List (Option V))(H:Hp)(s:ZB):Prop where
 ok:X.Ok
 os:s.os=X.s₀.os
 bare:AllBare s.gens
 base:Un X.fs X.ex X.H₀ H X.s₀.heap s.heap
 loc:∃ m,s.heap.Ns X.env.locals m/\∀ (i:Nat) (x:Str) (v:V),X.N[i]?=some x->σ[i]?=some (some v)->nV X.env.scope x->∃ u,RelV v u/\tw X.env s.heap m x u
 cell:∀ x c,X.env.cells.lookup x=some c->∃ v,s.heap.IsCell c v
 free:H X.env.locals=none
 freeC:∀ x c,X.env.cells.lookup x=some c->H c=none
 pin:∀ p∈X.pn++pins,s.heap.get? p.1=some p.2/\H p.1=none/\p.1≠X.env.locals/\p.1∉X.fs/\∀ v,p.2.data ≠ .cell v
 hok:HOk X.prog X.w H s.heap
 len:σ.length=X.N.length
abbrev qE1(e:Expr)(es:List Expr)(v:Env):=starEach (e::es) v=(false,eval e v)::starEach es v
abbrev qF1(p:Pos)(es:List Expr)(v:Env):=(backTo p (starEach es v)).any (·.1)=false
section
variable{X:Cx}{pins:List (ZE×Obj)}{σ:List (Option V)}{H H':Hp}{s:ZB}{h':Heap}
def Cx.Ok.nofr(ok:X.Ok){b:ZE}{o:Obj}(e:X.base.get? b=some o):b∉X.fs:=(λhb=>by
 have:=(ok.funs.mem hb).1;rw[e] at this;cases this)
def Inv.bs(I:Inv X pins σ H s):∀ b o,X.base.get? b=some o->s.heap.get? b=some o/\H b=none:=(λb o e =>
 ⟨I.base.keep b o (I.ok.bs b o e).1 (I.ok.bs b o e).2 (I.ok.nofr e) (I.ok.noex b o e),I.base.free b o (I.ok.bs b o e).1 (I.ok.bs b o e).2 (I.ok.noex b o e)⟩)
def Inv.bk(I:Inv X pins σ H s):∀ b o,X.base.get? b=some o->s.heap.get? b=some o:=(λb o e=>(I.bs b o e).1)
def Inv.mod(I:Inv X pins σ H s):Mod X.K X.mg X.base:=(I.ok.mod)
def Inv.kIn(I:Inv X pins σ H s):X.K.In s.heap:=(I.ok.mod.kin.keeps I.bk)
def Inv.fr(I:Inv X pins σ H s):∃ m,Fr X.base X.env.locals s.heap m :=(
 let ⟨m,hn,_⟩:=I.loc
 ⟨m,hn,I.bk,Oc I.ok.bsz I.ok.above⟩)
def Inv.lt(I:Inv X pins σ H s):X.env.locals<s.heap.objs.size:=(let ⟨_,hn,_⟩:=I.loc;hn.lt)
def Inv.sz(I:Inv X pins σ H s):X.s₀.heap.objs.size<=s.heap.objs.size:=(Oc I.ok.above (Qz I.lt))
def Inv.nofs(I:Inv X pins σ H s){a:ZE}(h:s.heap.objs.size<=a):a∉X.fs:=(λhb=>by
 obtain⟨_,o,ho,_⟩:=I.ok.funs.mem hb;exact absurd (Ox (Om ho) (Oc I.sz h)) (Pt _))
def Inv.cne(I:Inv X pins σ H s):∀ x c,X.env.cells.lookup x=some c->c≠X.env.locals:=(λx c e z=>by
 obtain⟨v,o,ho,hd⟩:=I.cell x c e;obtain⟨m,⟨o',es,ep,ho',hd',_⟩,_⟩:=I.loc;rw[z,ho'] at ho;cases ho;rw[hd'] at hd;cases hd)
def Inv.funs(I:Inv X pins σ H s):s.heap.FunFrames X.base X.outer:=by
 have all:∀ (l:List Env),(∀ b∈d7 l,b∈X.fs)->X.s₀.heap.FunFrames X.base l->s.heap.FunFrames X.base l:=by
  intro l;induction l with
  |nil=>intro _ _;trivial
  |cons env r ih =>
   intro hs hl;obtain⟨hk,⟨L,o,hf,hn,ho,hd⟩,hr⟩:=hl;have hL:L∈X.fs:=hs L (by unfold d7;rw[Ql,hf];exact O0)
   obtain⟨sl,e⟩:=I.base.slot L o ho (I.ok.frf L hL) hL λz=>I.ok.exfs L z hL
   exact⟨hk,⟨L,_,hf,hn,e,hd⟩,ih (λb hb=>hs b (by unfold d7;rw[Ql,hf];exact OK _ hb)) hr⟩
 exact all X.outer (λ_ hb=>hb) I.ok.funs
def Inv.stack(I:Inv X pins σ H s):s.heap.FunFrames X.base X.stack:=by
 rcases I.ok.stk with e|⟨e,hf⟩
 ·rw[e];exact I.funs
 ·rw[e]
  obtain⟨m,hn,_⟩:=I.loc;refine .cons (by rw[I.ok.kind];decide) hf hn ?_ I.funs
  exact R3 (Oc I.ok.bsz I.ok.above)
def Inv.stkSub(I:Inv X pins σ H s):∀ b∈d7 X.stack,b∈X.env.locals::X.fs:=(λb hb=>by
 rcases I.ok.stk with e|⟨e,hf⟩
 ·rw[e] at hb;exact OK _ hb
 ·rw[e] at hb
  unfold d7 at hb;rw[Ql,hf] at hb;exact hb)
def Inv.stkFree(I:Inv X pins σ H s):∀ b∈d7 X.stack,H b=none:=(λb hb=>by
 rcases Ov.mp (I.stkSub b hb) with e|hb
 ·rw[e];exact I.free
 ·obtain⟨_,o,ho,_⟩:=I.ok.funs.mem hb
  exact I.base.free b o ho (I.ok.frf b hb) λz=>I.ok.exfs b z hb)
def Inv.step{g':Array GenState}{t':Nat}{d':Drawn}{ch:List ZE}(I:Inv X pins σ H s)
  (hch:∀ b∈ch,(b∈X.ex\/X.s₀.heap.objs.size<=b)/\b≠X.env.locals/\(∀ x c,X.env.cells.lookup x=some c->c≠b)/\∀ p∈X.pn++pins,p.1≠b)
  (keep:∀ b o,b≠X.env.locals->b∉X.fs->b∉ch->s.heap.get? b=some o->H b=none->h'.get? b=some o)
  (slot:∀ b o,b≠X.env.locals->b∈X.fs->b∉ch->s.heap.get? b=some o->H b=none->∃ sl,h'.get? b=some { o with slots:=sl })(free:∀ b o,b∉ch->s.heap.get? b=some o->H b=none->H' b=none)
  (there:∀ b o,b∉ch->s.heap.get? b=some o->∃ o',h'.get? b=some o')
  (tups:∀ b xs,H b=some (.tup xs)->H' b=some (.tup xs))(frzs:∀ b o u,H b=some (.frz o u)->H' b=some (.frz o u))(tbls:∀ b ps,H b=some (.tbl ps)->∃ more,H' b=some (.tbl (ps++more)))
  (ns:∀ m,s.heap.Ns X.env.locals m->h'.Ns X.env.locals m)(hok:HOk X.prog X.w H' h')(hg:AllBare g') :
  Inv X pins σ H' { s with heap:=h',gens:=g',drawn:=d',toks:=t' }:=by
 have neL:∀ b o,X.s₀.heap.get? b=some o->b≠X.env.locals:=λb o e=>OJ (Ox (Om e) I.ok.above)
 have neC:∀ b o,X.s₀.heap.get? b=some o->b∉X.ex->b∉ch:=λb o e hx hb=>by
  rcases (hch b hb).1 with z|z
  ·exact hx z
  ·exact absurd (Ox (Om e) z) (Pt _)
 have cellK:∀ x c,X.env.cells.lookup x=some c->∀ v,s.heap.IsCell c v->h'.IsCell c v:=λx c e v ⟨o,ho,hd⟩=>by
  have nch:c∉ch:=λz=>(hch c z).2.2.1 x c e rfl
  by_cases hc:c∈X.fs
  ·obtain⟨sl,q⟩:=slot c o (I.cne x c e) hc nch ho (I.freeC x c e)
   exact⟨_,q,hd⟩
  ·exact⟨o,keep c o (I.cne x c e) hc nch ho (I.freeC x c e),hd⟩
 refine⟨I.ok,I.os,hg,⟨λb o e n hb hx=>?_,λb o e n hb hx=>?_,λb o e n hx=>?_,λb o e hx=>?_,λb xs e=>tups b xs (I.base.tups b xs e),λb o xs e=>frzs b o xs (I.base.frzs b o xs e),λb ps e=>?_⟩,?_,λx c e=>?_,?_,λx c e=>?_,λp hp=>?_,hok,I.len⟩
 ·exact keep b o (neL b o e) hb (neC b o e hx) (I.base.keep b o e n hb hx) (I.base.free b o e n hx)
 ·obtain⟨sl,e1⟩:=I.base.slot b o e n hb hx
  obtain⟨sl',e2⟩:=slot b _ (neL b o e) hb (neC b o e hx) e1 (I.base.free b o e n hx);exact⟨sl',e2⟩
 ·obtain⟨o',e1⟩:=I.base.there b o e hx
  exact free b o' (neC b o e hx) e1 (I.base.free b o e n hx)
 ·obtain⟨o',e1⟩:=I.base.there b o e hx
  exact there b o' (neC b o e hx) e1
 ·obtain⟨m1,e1⟩:=I.base.tbls b ps e
  obtain⟨m2,e2⟩:=tbls b _ e1;exact⟨m1++m2,by rw[e2,Array.append_assoc]⟩
 ·obtain⟨m,hn,hl⟩:=I.loc
  refine⟨m,ns m hn,λi x v e1 e2 e3=>?_⟩
  obtain⟨u,r,l⟩:=hl i x v e1 e2 e3;refine⟨u,r,?_⟩
  rcases l with l|⟨k,c,e,z⟩
  ·exact .inl l
  ·exact .inr ⟨k,c,e,cellK x c e _ z⟩
 ·obtain⟨v,z⟩:=I.cell x c e
  exact⟨v,cellK x c e v z⟩
 ·obtain⟨m,⟨o,_,_,ho,_⟩,_⟩:=I.loc
  exact free _ o (λz=>(hch _ z).2.1 rfl) ho I.free
 ·obtain⟨v,o,ho,hd⟩:=I.cell x c e
  exact free c o (λz=>(hch c z).2.2.1 x c e rfl) ho (I.freeC x c e)
 ·obtain⟨e,n,ne,nf,d⟩:=I.pin p hp
  have nch:p.1∉ch:=λz=>(hch p.1 z).2.2.2 p hp rfl
  exact⟨keep p.1 p.2 ne nf nch e n,free p.1 p.2 nch e n,ne,nf,d⟩
def Inv.un{t':Nat}(I:Inv X pins σ H s)(u:Un X.fs [] H H' s.heap h')(hok:HOk X.prog X.w H' h'):Inv X pins σ H' { s with heap:=h',toks:=t' }:=by
 obtain⟨m,⟨o,es,ep,ho,r⟩,_⟩:=id I.loc;obtain⟨sl,hL⟩:=u.any ho I.free 's';exact I.step (g':=s.gens) (d':=s.drawn) (ch:=[]) (λ_ z=>nomatch z) (λb o _ hb _ e n=>u.keep b o e n hb 's') (λb o _ hb _ e n=>u.slot b o e n hb 's') (λb o _ e n=>u.free b o e n 's') (λb o _ e=>u.there b o e 's') u.tups u.frzs u.tbls (λm' hm=>by
  obtain⟨o',es',ep',ho',r'⟩:=hm;rw[ho] at ho';cases ho'
  exact⟨_,es',ep',hL,r'⟩) hok I.bare
def Inv.call{g':Array GenState}{t':Nat}{d':Drawn}{ch:List ZE}(I:Inv X pins σ H s)(u:Un (d7 X.stack) ch H H' s.heap h')(hok:HOk X.prog X.w H' h')(hg:AllBare g')
  (hch:∀ b∈ch,(b∈X.ex\/X.s₀.heap.objs.size<=b)/\b≠X.env.locals/\(∀ x c,X.env.cells.lookup x=some c->c≠b)/\∀ p∈X.pn++pins,p.1≠b) :
  Inv X pins σ H' { s with heap:=h',gens:=g',drawn:=d',toks:=t' }:=by
 obtain⟨m,⟨o,es,ep,ho,r⟩,_⟩:=id I.loc;obtain⟨sl,hL⟩:=u.any ho I.free λz=>(hch _ z).2.1 rfl
 exact I.step (ch:=ch) hch (λb o hL hb hc e n=>u.keep b o e n (λz=>(Ov.mp (I.stkSub b z)).elim hL hb) hc) (λb o _ _ hc e n=>u.any e n hc) (λb o hc e n=>u.free b o e n hc) (λb o hc e=>u.there b o e hc) u.tups u.frzs u.tbls (λm' hm=>by
  obtain⟨o',es',ep',ho',r'⟩:=hm;rw[ho] at ho';cases ho'
  exact⟨_,es',ep',hL,r'⟩) hok hg
def Inv.turned{t':Nat}{it:ZE}(I:Inv X pins σ H s)(k:∀ b o,b≠it->s.heap.get? b=some o->h'.get? b=some o)(hn:H it=none)(hL:it≠X.env.locals)
  (h1:it∈X.ex\/X.s₀.heap.objs.size<=it)(h2:∀ x c,X.env.cells.lookup x=some c->c≠it)(h3:∀ p∈X.pn++pins,p.1≠it):Inv X pins σ H { s with heap:=h',toks:=t' }:=by
 have nit:∀ b u,H b=some u->b≠it:=λb u e z=>by rw[z,hn] at e;cases e
 refine I.step (g':=s.gens) (d':=s.drawn) (ch:=[it]) (λb hb=>?_) (λb o _ _ hc e _=>k b o (λz=>hc (by simp[z])) e) (λb o _ _ hc e _=>⟨o.slots,k b o (λz=>hc (by simp[z])) e⟩) (λ_ _ _ _ n=>n)
  (λb o hc e=>⟨o,k b o (λz=>hc (by simp[z])) e⟩) (λ_ _ e=>e) (λ_ _ _ e=>e) (λb ps e=>⟨#[],by rw[e];simp⟩) (λm hm=>?_) (λb u e=>?_) I.bare
 ·have e:b=it:=by simpa using hb
  subst e;exact⟨h1,hL,h2,h3⟩
 ·obtain⟨o,es,ep,ho,r⟩:=hm
  exact⟨o,es,ep,k _ o (Ne.symm hL) ho,r⟩
 ·refine(I.hok b u e).stay (λc v hc q=>k c v ?_ q) (λ_ q=>q) λ_ _ q=>q
  rcases hc with z|z
  ·rw[z];exact nit b u e
  ·exact nit c _ z
def Inv.tok(I:Inv X pins σ H s)(t:Nat):Inv X pins σ H { s with toks:=t }:=(I.un (h':=s.heap) (t':=t) Un.refl I.hok)
def Inv.kept{t':Nat}(I:Inv X pins σ H s)(k:∀ b u,s.heap.get? b=some u->h'.get? b=some u):Inv X pins σ H { s with heap:=h',toks:=t' }:=(I.un (Un.kept k) (I.hok.kept k))
def Inv.laid{a:ZE}{o:HO}{t':Nat}(I:Inv X pins σ H s)(k:∀ b u,s.heap.get? b=some u->h'.get? b=some u)(hp:s.heap.objs.size<=a)(new:ObjOk X.prog X.w (upd H a o) h' a o) :
  Inv X pins σ (upd H a o) { s with heap:=h',toks:=t' }:=(I.un (Un.laid k hp (I.hok.fresh hp)) (I.hok.laid k hp new))
def Inv.write{x e:ZE}{o:HO}{t':Nat}(I:Inv X pins σ H s)(mu:nU (H x))(he:e=x\/H e=some (.own x))(k:∀ b u,b≠e->s.heap.get? b=some u->h'.get? b=some u)(heo:∃ u,h'.get? e=some u)
  (new:ObjOk X.prog X.w (upd H x o) h' x o):Inv X pins σ (upd H x o) { s with heap:=h',toks:=t' }:=(I.un (Un.write mu he k heo) (I.hok.write mu he k heo new))
def Inv.weak{σ':List (Option V)}(I:Inv X pins σ H s)(hl:σ'.length=σ.length)(w:∀ (i:Nat) v,σ'[i]?=some (some v)->σ[i]?=some (some v)):Inv X pins σ' H s :=(
 ⟨I.ok,I.os,I.bare,I.base,let ⟨m,hn,hl'⟩:=I.loc;⟨m,hn,λi x v e1 e2 e3=>hl' i x v e1 (w i v e2) e3⟩,I.cell,I.free,I.freeC,I.pin,I.hok,hl.trans I.len⟩)
def Inv.pins_of{pins':List (ZE×Obj)}(I:Inv X pins σ H s)(h:∀ p∈pins',s.heap.get? p.1=some p.2/\H p.1=none/\p.1≠X.env.locals/\p.1∉X.fs/\∀ v,p.2.data ≠ .cell v):Inv X pins' σ H s :=(
 ⟨I.ok,I.os,I.bare,I.base,I.loc,I.cell,I.free,I.freeC,λp hp=>(OY.mp hp).elim (λz=>I.pin p (OC _ z)) (h p),I.hok,I.len⟩)
def qf{N:List Str}(hN:N.Nodup){i j:Nat}{x:Str}(a:N[i]?=some x)(b:N[j]?=some x):i=j:=by
 obtain⟨h1,e1⟩:=NZ.mp a;obtain⟨h2,e2⟩:=NZ.mp b;exact(List.getElem_inj hN).mp (e1.trans e2.symm)
def xS{M:Model}{A:ZG}{E:ZC->ZB->Prop}{i:Nat}{x:Str}{v:V}{u:ZC}{Q:Unit->ZB->Prop}(I:Inv X pins σ H s)(hN:X.N.Nodup)(hi:X.N[i]?=some x)(hx:kr X.env.scope x)(r:RelV v u)
  (h:∀ s',Inv X pins (σ.set i (some v)) H s'->(∃ a,Heap.SameBut a s.heap s'.heap/\(a=X.env.locals\/X.env.cells.lookup x=some a))->Q () s')(hf:X.fn x=true\/X.env.scope.names.lookup x=some .local:=by first|exact .inl rfl|exact .inr rfl|assumption):wpAny M A (storeName X.env x u) Q E s:=by
 obtain⟨m,hn,hl⟩:=id I.loc;have hcls:(X.env.scope.kind == .class || (X.env.scope.kind == .module && X.env.locals != X.env.globals))=false:=by rw[I.ok.kind];rfl
 have hiσ:i<σ.length:=by rw[I.len];exact(NZ.mp hi).1
 have cne:=I.cne;have tracked:∀ {a:ZE} {h':Heap},(∃ o,s.heap.get? a=some o/\H a=none)->Heap.SameBut a s.heap h'->HOk X.prog X.w H h':=λ{a h'} ha hs b ob e=>by
  obtain⟨_,_,hfree⟩:=ha;refine(I.hok b ob e).stay (λc w' hc q=>(hs.2 c ?_).trans q) (λ_ q=>q) λ_ _ q=>q
  rintro rfl
  rcases hc with rfl|hc
  ·rw[hfree] at e;cases e
  ·rw[hfree] at hc;cases hc
 rcases hx with hk|hk
 ·refine wpAny_storeName_local hk hn (λh' hn' hs=>?_) hcls
  obtain⟨oL,_,_,hoL,_⟩:=id hn;refine h _ ⟨I.ok,I.os,I.bare,⟨λb o e n hb hx=>?_,λb o e n hb hx=>?_,I.base.free,λb o e hx=>?_,I.base.tups,I.base.frzs,I.base.tbls⟩,⟨_,hn',λj y v' e1 e2 e3=>?_⟩,λy c e=>?_,I.free,I.freeC,λp hp=>?_,tracked ⟨oL,hoL,I.free⟩ hs,by simpa using I.len⟩ ⟨_,hs,.inl rfl⟩
  ·exact(hs.2 b (OJ (Ox (Om e) I.ok.above))).trans (I.base.keep b o e n hb hx)
  ·obtain⟨sl,e1⟩:=I.base.slot b o e n hb hx
   exact⟨sl,(hs.2 b (OJ (Ox (Om e) I.ok.above))).trans e1⟩
  ·obtain⟨o',e1⟩:=I.base.there b o e hx
   exact⟨o',(hs.2 b (OJ (Ox (Om e) I.ok.above))).trans e1⟩
  ·by_cases hj:j=i
   ·subst hj
    rw[hi] at e1;cases e1
    rw[Ob hiσ] at e2
    cases e2
    exact⟨u,r,.inl ⟨hk,by simp⟩⟩
   ·rw[N8 (Ne.symm hj)] at e2
    obtain⟨u',r',q⟩:=hl j y v' e1 e2 e3;refine⟨u',r',?_⟩
    rcases q with⟨k,e⟩|⟨k,c,e,z⟩
    ·refine .inl ⟨k,?_⟩
     have:y≠x:=λe=>hj (qf hN e1 (e▸hi))
     simp[this,e]
    ·exact .inr ⟨k,c,e,z.sameBut hs (cne y c e)⟩
  ·obtain⟨w',z⟩:=I.cell y c e
   exact⟨w',z.sameBut hs (cne y c e)⟩
  ·obtain⟨e,n,ne,nf,d⟩:=I.pin p hp
   exact⟨(hs.2 p.1 ne).trans e,n,ne,nf,d⟩
 ·have hfn:X.fn x=true:=by
   rcases hf with z|z
   ·exact z
   ·rw[z] at hk;cases hk
  obtain⟨c,hc⟩:=I.ok.has x (.inl hk);obtain⟨w',z⟩:=I.cell x c hc;refine wpAny_storeName_cell I.ok.kind hk hc z (λh' hc' hs=>?_)
  obtain⟨oc,hoc,hocd⟩:=id z;refine h { s with heap:=h' } ⟨I.ok,I.os,I.bare,⟨λb o e n hb hx=>?_,λb o e n hb hx=>?_,I.base.free,λb o e hx=>?_,I.base.tups,I.base.frzs,I.base.tbls⟩,⟨m,hn.sameBut hs (Ne.symm (cne x c hc)),λj y v' e1 e2 e3=>?_⟩,λy c' e=>?_,I.free,I.freeC,λp hp=>?_,tracked ⟨oc,hoc,I.freeC x c hc⟩ hs,by simpa using I.len⟩ ⟨c,hs,.inr hc⟩
  ·exact(hs.2 b (OJ (Ox (Om e) (I.ok.cab x c hfn hc)))).trans (I.base.keep b o e n hb hx)
  ·obtain⟨sl,e1⟩:=I.base.slot b o e n hb hx
   exact⟨sl,(hs.2 b (OJ (Ox (Om e) (I.ok.cab x c hfn hc)))).trans e1⟩
  ·obtain⟨o',e1⟩:=I.base.there b o e hx
   exact⟨o',(hs.2 b (OJ (Ox (Om e) (I.ok.cab x c hfn hc)))).trans e1⟩
  ·by_cases hj:j=i
   ·subst hj
    rw[hi] at e1;cases e1
    rw[Ob hiσ] at e2
    cases e2
    exact⟨u,r,.inr ⟨.inl hk,c,hc,hc'⟩⟩
   ·rw[N8 (Ne.symm hj)] at e2
    obtain⟨u',r',q⟩:=hl j y v' e1 e2 e3;refine⟨u',r',?_⟩
    rcases q with q|⟨k,c',e,z'⟩
    ·exact .inl q
    ·refine .inr ⟨k,c',e,z'.sameBut hs ?_⟩
     rintro rfl
     exact hj (qf hN e1 (I.ok.inj _ _ _ e hc▸hi))
  ·by_cases hcc:c'=c
   ·subst hcc;exact⟨_,hc'⟩
   ·obtain⟨w2,z2⟩:=I.cell y c' e
    exact⟨w2,z2.sameBut hs hcc⟩
  ·obtain⟨e,n,ne,nf,d⟩:=I.pin p hp
   refine⟨(hs.2 p.1 ?_).trans e,n,ne,nf,d⟩
   intro q;rw[q,hoc] at e;have q':oc=p.2:=OG e
   exact d w' (by rw[<- q'];exact hocd)
def mD{M:Model}{A:ZG}{E:ZC->ZB->Prop}{i:Nat}{x:Str}{v:V}{u:ZC}{Q:Unit->ZB->Prop}(I:Inv X pins σ H s)(hN:X.N.Nodup)(hi:X.N[i]?=some x)(hx:kr X.env.scope x)(r:RelV v u)
  (h:∀ s',Inv X pins (σ.set i (some v)) H s'->Q () s')(hf:autoParam (X.fn x=true\/X.env.scope.names.lookup x=some .local) xS._auto_1):wpAny M A (storeName X.env x u) Q E s :=(
 xS I hN hi hx r (λs' I' _=>h s' I') hf)
def Inv.call'{s':ZB}{ch:List ZE}(I:Inv X pins σ H s)(ho:s'.os=s.os)(u:Un (d7 X.stack) ch H H' s.heap s'.heap)(hok:HOk X.prog X.w H' s'.heap)(hg:AllBare s'.gens)
  (hch:∀ b∈ch,(b∈X.ex\/X.s₀.heap.objs.size<=b)/\b≠X.env.locals/\(∀ x c,X.env.cells.lookup x=some c->c≠b)/\∀ p∈X.pn++pins,p.1≠b):Inv X pins σ H' s':=by
 obtain⟨h',g',d',t',o'⟩:=s';have e:o'=s.os:=ho;subst e;exact I.call (g':=g') (t':=t') (d':=d') u hok hg hch
end
abbrev XK:=ZC->Option ZE->Hp->Prop
abbrev St:=List (Option V)
abbrev VK:=V->Hp->Prop
abbrev TE:=St->Hp->VK->Prop
abbrev TT:=St->Hp->(Bool->Hp->Prop)->Prop
abbrev TA:=St->Hp->(List V->Hp->Prop)->Prop
structure cY where
 nx:St->Hp->Prop
 rt:VK
 bk:St->Hp->Prop:=λ_ _=>False
 ct:St->Hp->Prop:=λ_ _=>False
abbrev TS:=cY->St->Hp->Prop
def EP(X:Cx)(pins:List (ZE×Obj))(σ:St)(Q:VK)(u:ZC)(s':ZB):Prop:=∃ v H',Inv X pins σ H' s'/\RelV v u/\Q v H'
def TP(X:Cx)(pins:List (ZE×Obj))(σ:St)(Q:Bool->Hp->Prop)(b:Bool)(s':ZB):Prop:=∃ H',Inv X pins σ H' s'/\Q b H'
def AP(X:Cx)(pins:List (ZE×Obj))(σ:St)(Q:List V->Hp->Prop)(us:List ZC)(s':ZB):Prop:=∃ vs H',Inv X pins σ H' s'/\Vals vs us/\Q vs H'
def SP(X:Cx)(pins:List (ZE×Obj))(D:cY)(f:Flow)(s':ZB):Prop :=
 match f with
 |.next=>∃ σ' H',Inv X pins σ' H' s'/\D.nx σ' H'
 |.brk=>∃ σ' H',Inv X pins σ' H' s'/\D.bk σ' H'
 |.cont=>∃ σ' H',Inv X pins σ' H' s'/\D.ct σ' H'
 |.ret u=>∃ v σ' H',Inv X pins σ' H' s'/\RelV v u/\D.rt v H'
def PE(X:Cx)(e:Expr)(t:TE):Prop :=
 ∀ (pins:List (ZE×Obj)) (s:ZB) (σ:St) (H:Hp) (Q:VK),Inv X pins σ H s->t σ H Q->wpAny (model X.prog X.w) X.A (eval e X.env) (EP X pins σ Q) X.xe s
def PT(X:Cx)(e:Expr)(t:TT):Prop :=
 ∀ (pins:List (ZE×Obj)) (s:ZB) (σ:St) (H:Hp) (Q:Bool->Hp->Prop),Inv X pins σ H s->t σ H Q->wpAny (model X.prog X.w) X.A (isTrue e X.env (eval e X.env)) (TP X pins σ Q) X.xe s
def PW(X:Cx)(e:Expr)(t:TT):Prop :=
 ∀ (whole:Sem ZC) (pins:List (ZE×Obj)) (s:ZB) (σ:St) (H:Hp) (Q:Bool->Hp->Prop),Inv X pins σ H s->t σ H Q->wpAny (model X.prog X.w) X.A (isTrue e X.env whole) (TP X pins σ Q) X.xe s
def PW.pt{X:Cx}{e:Expr}{t:TT}(h:PW X e t):PT X e t:=(h _)
def PA(X:Cx)(es:List Expr)(t:TA):Prop :=
 ∀ (pos:Pos) (pins:List (ZE×Obj)) (s:ZB) (σ:St) (H:Hp) (Q:List V->Hp->Prop),Inv X pins σ H s->t σ H Q->wpAny (model X.prog X.w) X.A (spliced (backTo pos (starEach es X.env))) (AP X pins σ Q) X.xe s
def PS(X:Cx)(st:Stmt)(t:TS):Prop :=
 ∀ (pins:List (ZE×Obj)) (s:ZB) (σ:St) (H:Hp) (D:cY),Inv X pins σ H s->t D σ H->wpAny (model X.prog X.w) X.A (exec st X.env) (SP X pins D) X.xe s
def PSs(X:Cx)(st:List Stmt)(t:TS):Prop :=
 ∀ (pins:List (ZE×Obj)) (s:ZB) (σ:St) (H:Hp) (D:cY),Inv X pins σ H s->t D σ H->wpAny (model X.prog X.w) X.A (execs st X.env) (SP X pins D) X.xe s
def thn{α:Type}{t:Sem α}{Q Q':α->ZB->Prop}{M:Model}{A:ZG}{E:ZC->ZB->Prop}{s:ZB}(h:wpAny M A t Q E s)(hQ:∀ a s,Q a s->Q' a s):wpAny M A t Q' E s:=(OV h hQ λ_ _ x=>x)
section
variable{X:Cx}
def nW(i:Nat):TE:=λσ H Q=>∃ v,σ[i]?=some (some v)/\Q v H
def tC(v:V):TE:=λ_ H Q=>Q v H
def DB {i:Nat} {x:Str} {pos:Pos} (hN:X.N[i]?=some x) (hv:nV X.env.scope x) (hd:(x == ("__debug__" : Str))=false:=by decide) (hcd:autoParam ((x == ("__classdict__" : Str))=false) DB._auto_1):PE X (.Name x pos) (nW i):=by
 intro pins s σ H Q I h;obtain⟨v,e,h⟩:=h;obtain⟨m,hn,hl⟩:=I.loc;obtain⟨u,r,l⟩:=hl i x v hN e hv;have fin:EP X pins σ Q u s:=⟨v,H,I,r,h⟩
 rcases l with⟨hk,hm⟩|⟨hk,c,hc,hcell⟩
 ·exact Tf (wpAny_loadName_local I.ok.kind hk hn hm fin) hd
 ·rcases hk with hk|hk
  ·exact Tf (wpAny_loadName_cell I.ok.kind hk hc hcell fin) hd
  ·exact Tf (wpAny_loadName_free I.ok.kind hk hc hcell fin hcd) hd
def DC{i j pos}:PE X (.Constant (.int i) j pos) (tC (.int i)):=(λ_ _ _ H _ I h=>wpAny_Constant_int ⟨.int i,H,I.tok _,⟨_,rfl⟩,h⟩)
def DD{b j pos}:PE X (.Constant (.bool b) j pos) (tC (.bl b)):=(λ_ _ _ H _ I h=>Constant_bool ⟨.bl b,H,I,rfl,h⟩)
def DE{j pos}:PE X (.Constant .none j pos) (tC .non):=(λ_ _ _ H _ I h=>Constant_none ⟨.non,H,I,rfl,h⟩)
def DF{x j pos}:PE X (.Constant (.str x) j pos) (tC (.str x)):=(λ_ _ _ H _ I h=>Calls.Constant_str ⟨.str x,H,I.tok _,⟨_,rfl⟩,h⟩)
def Gl(X:Cx)(x:Str):Prop:=X.env.kindOf x=some .globalImplicit
def ku {E:ZC->ZB->Prop} {pins:List (ZE×Obj)} {s:ZB} {σ:St} {H:Hp} {x:Str} {u:ZC} {pos:Pos} {Q:ZC->ZB->Prop} (I:Inv X pins σ H s) (hg:Gl X x) (hm:X.mg x=some u) (h:Q u s)
  (hd:((x == ("__debug__" : Str))=false)⁻¹):wpAny (model X.prog X.w) X.A (eval (.Name x pos) X.env) Q E s :=(
 QW I.ok.kind hg (Calls.loadGlobal_global (by rw[I.ok.glob];exact I.mod.glob.keeps I.bk) hm h) hd)
def mE {E:ZC->ZB->Prop} {pins:List (ZE×Obj)} {s:ZB} {σ:St} {H:Hp} {x:Str} {u:ZC} {pos:Pos} {Q:ZC->ZB->Prop} (I:Inv X pins σ H s) (hg:Gl X x) (hm:X.mg x=none) (hv:bootBuiltins x=some u) (h:Q u s)
  (hn:x ≠ "__name__" := by decide) (hd:((x == ("__debug__" : Str))=false)⁻¹):wpAny (model X.prog X.w) X.A (eval (.Name x pos) X.env) Q E s:=by
 obtain⟨mb,h1,h2⟩:=I.mod.blt;exact QW I.ok.kind hg (Calls.loadGlobal_builtin (by rw[I.ok.glob];exact I.mod.glob.keeps I.bk) hm (by rw[I.ok.blt];exact h1.keeps I.bk) ((h2 x hn).trans hv) h) hd
def qg {x:Str} {v:V} {u:ZC} {pos:Pos} (hg:Gl X x) (hm:X.mg x=some u) (r:RelV v u) (hd:((x == ("__debug__" : Str))=false)⁻¹):PE X (.Name x pos) (tC v) :=(
 λ_ _ _ H _ I h=>ku I hg hm ⟨v,H,I,r,h⟩ hd)
def DH {x:Str} {v:V} {u:ZC} {pos:Pos} (hg:Gl X x) (hm:X.mg x=none) (hv:bootBuiltins x=some u) (r:RelV v u) (hn:x ≠ "__name__" := by decide) (hd:((x == ("__debug__" : Str))=false)⁻¹):PE X (.Name x pos) (tC v) :=(
 λ_ _ _ H _ I h=>mE I hg hm hv ⟨v,H,I,r,h⟩ hn hd)
variable{a b:Expr}{ta tb:TE}{pos:Pos}
variable{tA tB':TT}{rest:List Expr}
def tB(t u:TT):TT:=λσ H Q=>t σ H λc H1=>if c=true then u σ H1 Q else Q false H1
def DJ(t u:TT):TT:=λσ H Q=>t σ H λc H1=>if c=true then Q true H1 else u σ H1 Q
def tD(t:TT):TT:=λσ H Q=>t σ H λc H1=>Q (!c) H1
def DL(ha:PT X a tA):PW X (.BoolOp .And [a] pos) tA:=by
 intro wh pins s σ H Q I h;refine isTrue_and (thn (ha pins s σ H Q I h) λc s1 e=>?_)
 cases c with
 |true=>exact isTrue_and_nil e
 |false=>exact e
def DM(ha:PT X a tA):PW X (.BoolOp .Or [a] pos) tA:=by
 intro wh pins s σ H Q I h;refine isTrue_or (thn (ha pins s σ H Q I h) λc s1 e=>?_)
 cases c with
 |false=>exact isTrue_or_nil e
 |true=>exact e
def DO(ha:PT X a tA)(hb:PW X (.BoolOp .And (b::rest) pos) tB'):PW X (.BoolOp .And (a::b::rest) pos) (tB tA tB'):=by
 intro wh pins s σ H Q I h;refine isTrue_and (thn (ha pins s σ H _ I h) λc s1 Zz=>?_);obtain⟨H1,I1,q1⟩:=Zz
 cases c with
 |true=>exact hb wh pins s1 σ H1 Q I1 q1
 |false=>exact⟨H1,I1,q1⟩
def DP(ha:PT X a tA)(hb:PW X (.BoolOp .Or (b::rest) pos) tB'):PW X (.BoolOp .Or (a::b::rest) pos) (DJ tA tB'):=by
 intro wh pins s σ H Q I h;refine isTrue_or (thn (ha pins s σ H _ I h) λc s1 Zz=>?_);obtain⟨H1,I1,q1⟩:=Zz
 cases c with
 |true=>exact⟨H1,I1,q1⟩
 |false=>exact hb wh pins s1 σ H1 Q I1 q1
def DQ(ha:PT X a tA):PT X (.UnaryOp .Not a pos) (tD tA):=by
 intro pins s σ H Q I h;exact isTrue_not (ha pins s σ H (λc H1=>Q (!c) H1) I h)
def DR(ta tb:TE):TE:=λσ H Q=>ta σ H λx H1=>∃ c,x=.bl c/\if c=true then tb σ H1 Q else Q (.bl false) H1
def tF(ta tb:TE):TE:=λσ H Q=>ta σ H λx H1=>∃ c,x=.bl c/\if c=true then Q (.bl true) H1 else tb σ H1 Q
def DS(ta:TE):TE:=λσ H Q=>ta σ H λx H1=>∃ c,x=.bl c/\Q (.bl (!c)) H1
def DT{op}{t:TE}(h:PE X a t):PE X (.BoolOp op [a] pos) t:=(λpins s σ H Q I hw=>BoolOp_one (h pins s σ H Q I hw))
def DV(ha:PE X a ta)(hb:PE X (.BoolOp .And (b::rest) pos) tb):PE X (.BoolOp .And (a::b::rest) pos) (DR ta tb):=by
 intro pins s σ H Q I h;refine BoolOp_and (thn (ha pins s σ H _ I h) λv s1 Zz=>?_);obtain⟨x,H1,I1,r1,q1⟩:=Zz
 obtain⟨c,rfl,q1⟩:=q1
 cases r1
 refine OA ?_
 cases c with
 |true=>exact hb pins s1 σ H1 Q I1 q1
 |false=>exact⟨.bl false,H1,I1,rfl,q1⟩
def DW(ha:PE X a ta)(hb:PE X (.BoolOp .Or (b::rest) pos) tb):PE X (.BoolOp .Or (a::b::rest) pos) (tF ta tb):=by
 intro pins s σ H Q I h;refine BoolOp_or (thn (ha pins s σ H _ I h) λv s1 Zz=>?_);obtain⟨x,H1,I1,r1,q1⟩:=Zz
 obtain⟨c,rfl,q1⟩:=q1
 cases r1
 refine OA ?_
 cases c with
 |false=>exact hb pins s1 σ H1 Q I1 q1
 |true=>exact⟨.bl true,H1,I1,rfl,q1⟩
def DX(ha:PE X a ta):PE X (.UnaryOp .Not a pos) (DS ta):=by
 intro pins s σ H Q I h;refine UnaryOp_ (thn (ha pins s σ H _ I h) λv s1 Zz=>?_);obtain⟨x,H1,I1,r1,q1⟩:=Zz
 obtain⟨c,rfl,q1⟩:=q1
 cases r1
 exact not_of (OA ⟨.bl (!c),H1,I1,rfl,q1⟩)
end
def SqL(K:ZA)(H:Hp)(a:ZE)(xs:List V):Prop :=
 Rd H a (.lst xs) \/
  ∃ (o:Obj) (its:Array ZC) (n:Nat),K.lookup a=some o/\o.cls=.type "list" /\ o.dict=none/\o.data=.seq its n/\its.size<=sizeLine/\Vals xs its.toList
def SqT(K:ZA)(H:Hp)(a:ZE)(xs:List V):Prop :=
 Rd H a (.tup xs) \/
  ∃ (o:Obj) (its:Array ZC) (n:Nat),K.lookup a=some o/\o.cls=.type "tuple" /\ o.data=.seq its n/\its.size<=sizeLine/\Vals xs its.toList
def tG:ZC->Option V
 |.none=>some .non
 |.bool b=>some (.bl b)
 |.int i _=>some (.int i)
 |.str x _=>some (.str x)
 |.bytes b _=>some (.byt b)
 |.float b _=>some (.flt b)
 |.ref a=>some (.ref a)
 |.type n=>some (.ty n)
 |_=>none
def RelV.abs{x:V}{u:ZC}(r:RelV x u):tG u=some x:=by
 cases x with
 |non=>cases r;rfl
 |bl _=>cases r;rfl
 |int _=>obtain⟨t,rfl⟩:=r;rfl
 |str _=>obtain⟨t,rfl⟩:=r;rfl
 |byt _=>obtain⟨t,rfl⟩:=r;rfl
 |flt _=>obtain⟨t,rfl⟩:=r;rfl
 |ref _=>cases r;rfl
 |ty _=>cases r;rfl
def RelV.inj{x y:V}{u:ZC}(r:RelV x u)(q:RelV y u):x=y:=(OG (r.abs.symm.trans q.abs))
theorem Vals.inj:∀ {xs ys:List V} {us:List ZC},Vals xs us->Vals ys us->xs=ys
 |_,_,_,.nil,.nil=>rfl
 |_,_,_,.cons r t,.cons r' t'=>by rw[r.inj r',Vals.inj t t']
section
variable{X:Cx}{pins:List (ZE×Obj)}{σ:St}{H:Hp}{s:ZB}{a:ZE}{xs ys:List V}
def SqL.of{K:ZA}(h:H a=some (.lst xs)):SqL K H a xs:=(.inl (.inl h))
def SqT.of{K:ZA}(h:H a=some (.tup xs)):SqT K H a xs:=(.inl (.inl h))
def Inv.list(I:Inv X pins σ H s)(h:SqL X.K H a xs):∃ its:List ZC,Vals xs its/\PlainL s.heap a its.toArray/\xs.length<=sizeLine:=by
 rcases h with h|⟨o,its,n,hk,hc,hd,hs,hz,r⟩
 ·obtain⟨z,its,n,r,e⟩:=h.ok I.hok
  exact⟨its,r,⟨_,n,e,rfl,rfl,rfl⟩,z⟩
 ·refine⟨its.toList,r,⟨o,n,I.kIn a o hk,hc,hd,by simpa using hs⟩,?_⟩
  have e:=r.length;simp only[PC] at e
  lia
def Inv.tuple(I:Inv X pins σ H s)(h:SqT X.K H a xs):∃ its:List ZC,Vals xs its/\IsTup s.heap a its.toArray/\xs.length<=sizeLine:=by
 rcases h with h|⟨o,its,n,hk,hc,hs,hz,r⟩
 ·obtain⟨z,its,r,p⟩:=h.ok I.hok
  exact⟨its,r,p,z⟩
 ·refine⟨its.toList,r,⟨o,I.kIn a o hk,hc,n,by simpa using hs⟩,?_⟩
  have e:=r.length;simp only[PC] at e
  lia
def Inv.list_inj(I:Inv X pins σ H s)(h:SqL X.K H a xs)(h':SqL X.K H a ys):xs=ys:=by
 obtain⟨its,r,⟨o,n,e,_,_,d⟩,_⟩:=I.list h;obtain⟨its',r',⟨o',n',e',_,_,d'⟩,_⟩:=I.list h';rw[e] at e';cases e'
 rw[d] at d';injection d' with d1 _
 have:its=its':=by simpa using congrArg Array.toList d1
 subst this;exact r.inj r'
def Inv.tuple_inj(I:Inv X pins σ H s)(h:SqT X.K H a xs)(h':SqT X.K H a ys):xs=ys:=by
 obtain⟨its,r,⟨o,e,_,n,d⟩,_⟩:=I.tuple h;obtain⟨its',r',⟨o',e',_,n',d'⟩,_⟩:=I.tuple h';rw[e] at e';cases e'
 rw[d] at d';injection d' with d1 _
 have:its=its':=by simpa using congrArg Array.toList d1
 subst this;exact r.inj r'
end
abbrev Cx.wish(X:Cx)(E:ZC->ZB->Prop):Cx:={ X with xe:=E }
abbrev Cx.nox(X:Cx):Cx:=X.wish λ_ _=>False
def Cx.Ok.wish{X:Cx}(ok:X.Ok)(E:ZC->ZB->Prop):(X.wish E).Ok :=(
 ⟨ok.mod,ok.kind,ok.glob,ok.blt,ok.above,ok.inj,ok.has,ok.cab,ok.hd,ok.frames,ok.stk,ok.exf,ok.bs,ok.bsz,ok.noex,ok.exfs,ok.funs,ok.frf⟩)
def Cx.Ok.unwish{X:Cx}{E:ZC->ZB->Prop}(ok:(X.wish E).Ok):X.Ok :=(
 ⟨ok.mod,ok.kind,ok.glob,ok.blt,ok.above,ok.inj,ok.has,ok.cab,ok.hd,ok.frames,ok.stk,ok.exf,ok.bs,ok.bsz,ok.noex,ok.exfs,ok.funs,ok.frf⟩)
section
variable{X:Cx}{pins:List (ZE×Obj)}{σ:St}{H:Hp}{s:ZB}{E:ZC->ZB->Prop}
def Inv.wish(I:Inv X pins σ H s)(E:ZC->ZB->Prop):Inv (X.wish E) pins σ H s:=(⟨I.ok.wish E,I.os,I.bare,I.base,I.loc,I.cell,I.free,I.freeC,I.pin,I.hok,I.len⟩)
def Inv.unwish(I:Inv (X.wish E) pins σ H s):Inv X pins σ H s:=(⟨I.ok.unwish,I.os,I.bare,I.base,I.loc,I.cell,I.free,I.freeC,I.pin,I.hok,I.len⟩)
def SP.unwish{D:cY}{f:Flow}{s':ZB}(h:SP (X.wish E) pins D f s'):SP X pins D f s':=by
 cases f with
 |next=>obtain⟨σ',H',I,q⟩:=h;exact⟨σ',H',I.unwish,q⟩
 |brk=>obtain⟨σ',H',I,q⟩:=h;exact⟨σ',H',I.unwish,q⟩
 |cont=>obtain⟨σ',H',I,q⟩:=h;exact⟨σ',H',I.unwish,q⟩
 |ret u=>obtain⟨v,σ',H',I,r,q⟩:=h;exact⟨v,σ',H',I.unwish,r,q⟩
end
section
variable{X:Cx}{st:Stmt}{rest:List Stmt}{t u:TS}{e:Expr}{te:TE}{pos:Pos}
def DY:TS:=λD σ H=>D.nx σ H
def tH(t u:TS):TS:=λD σ H=>t { D with nx:=u D } σ H
def DZ:PSs X [] DY:=(λ_ _ σ H _ I h=>Qr ⟨σ,H,I,h⟩)
def D6(h1:PS X st t)(h2:PSs X rest u):PSs X (st::rest) (tH t u):=by
 intro pins s σ H D I h;refine wpAny_execs_cons (thn (h1 pins s σ H { D with nx:=u D } I h) λf s1 q=>?_)
 cases f with
 |next =>
  obtain⟨σ',H',I',q⟩:=q;exact h2 pins s1 σ' H' D I' q
 |ret v=>exact q
 |brk=>exact q
 |cont=>exact q
def D8(h1:PS X st t):PSs X [st] t:=by
 intro pins s σ H D I h;refine wpAny_execs_cons (thn (h1 pins s σ H D I h) λf s1 q=>?_)
 cases f with
 |next=>exact Qr q
 |ret v=>exact q
 |brk=>exact q
 |cont=>exact q
def Inv.quiet{pins:List (ZE×Obj)}{σ:St}{H:Hp}{s:ZB}(I:Inv X pins σ H s):interactive X.env=false:=by simp[interactive,I.ok.kind]
def D9(te:TE):TS:=λD σ H=>te σ H λ_ H1=>D.nx σ H1
def Ea(he:PE X e te)(hs:swapsWith e none pos.line X.env=pure false:=by rfl):PS X (.Expr e pos) (D9 te):=by
 intro pins s σ H D I h;exact wpAny_Expr_any (thn (he pins s σ H _ I h) λv s1 ⟨x,H1,I1,r1,q1⟩=>⟨σ,H1,I1,q1⟩) I.quiet hs
def tJ(te:TE):TS:=λD σ H=>te σ H D.rt
def Eb(he:PE X e te):PS X (.Return (some e) pos) (tJ te):=by
 intro pins s σ H D I h;exact wpAny_Return_some (thn (he pins s σ H _ I h) λv s1 ⟨x,H1,I1,r1,q1⟩=>⟨x,σ,H1,I1,r1,q1⟩)
def tK(c:TT)(t u:TS):TS:=λD σ H=>c σ H λb H1=>if b=true then t D σ H1 else u D σ H1
def Ec{c:Expr}{a b:List Stmt}{tc:TT}(hc:PT X c tc)(ha:PSs X a t)(hb:PSs X b u):PS X (.If c a b pos) (tK tc t u):=by
 intro pins s σ H D I h;refine wpAny_If (thn (hc pins s σ H _ I h) λd s1 Zz=>?_);obtain⟨H1,I1,q1⟩:=Zz
 cases d with
 |true=>exact ha pins s1 σ H1 D I1 q1
 |false=>exact hb pins s1 σ H1 D I1 q1
end
abbrev TG:=V->St->Hp->(St->Hp->Prop)->Prop
abbrev jT:=List V->St->Hp->(St->Hp->Prop)->Prop
def PG(X:Cx)(target:Expr)(t:TG):Prop :=
 ∀ (pins:List (ZE×Obj)) (s:ZB) (σ:St) (H:Hp) (v:V) (u:ZC) (Q:St->Hp->Prop),Inv X pins σ H s->RelV v u->t v σ H Q ->
  wpAny (model X.prog X.w) X.A (assign target X.env u) (λ_ s'=>∃ σ' H',Inv X pins σ' H' s'/\Q σ' H') X.xe s
def kB(X:Cx)(ts:List Expr)(t:jT):Prop :=
 ∀ (pins:List (ZE×Obj)) (s:ZB) (σ:St) (H:Hp) (vs:List V) (us:List ZC) (Q:St->Hp->Prop),Inv X pins σ H s->Vals vs us->t vs σ H Q ->
  wpAny (model X.prog X.w) X.A (assignInOrder ((assignEach ts X.env).map (·.2)) us) (λ_ s'=>∃ σ' H',Inv X pins σ' H' s'/\Q σ' H') X.xe s
abbrev kD:=V->V->V->Hp->(Hp->Prop)->Prop
def nX(X:Cx)(t:kD):Prop :=
 ∀ (pins:List (ZE×Obj)) (s:ZB) (σ:St) (H:Hp) (o i v:V) (ov iv u:ZC) (Q:Hp->Prop),Inv X pins σ H s->RelV o ov->RelV i iv->RelV v u->t o i v H Q ->
  wpAny (model X.prog X.w) X.A (setItem ov iv u) (λ_ s'=>∃ H',Inv X pins σ H' s'/\Q H') X.xe s
section
variable{X:Cx}{pos:Pos}
def mF(i:Nat):TG:=λv σ H Q=>Q (σ.set i (some v)) H
def tL{i:Nat}{x:Str}(hN:X.N.Nodup)(hi:X.N[i]?=some x)(hx:kr X.env.scope x)(hf:autoParam (X.fn x=true\/X.env.scope.names.lookup x=some .local) xS._auto_1):PG X (.Name x pos) (mF i):=by
 intro pins s σ H v u Q I r h;exact S0 (mD I hN hi hx r (λs' I'=>⟨_,H,I',h⟩) hf)
def tM:jT:=λvs σ H Q=>vs=[]/\Q σ H
def Ed(t:TG)(u:jT):jT:=λvs σ H Q=>∃ v r,vs=v::r/\t v σ H λσ' H'=>u r σ' H' Q
def Ee:kB X [] tM:=by
 intro pins s σ H vs us Q I r h;obtain⟨e,h⟩:=h;subst e
 cases r
 exact S8 ⟨σ,H,I,h⟩
def Ef{e:Expr}{es:List Expr}{t:TG}{u:jT}(h1:PG X e t)(h2:kB X es u)
  (hs:‹(assignEach (e::es) X.env).map (·.2)=assign e X.env::(assignEach es X.env).map (·.2)›):kB X (e::es) (Ed t u):=by
 intro pins s σ H vs us Q I r h;obtain⟨v,vr,e1,h⟩:=h;subst e1
 cases r with
 |cons r rr =>
  rw[hs];refine Qu (thn (h1 pins s σ H _ _ _ I r h) λ_ s1 Zz=>?_);obtain⟨σ1,H1,I1,q1⟩:=Zz
  exact h2 pins s1 σ1 H1 _ _ Q I1 rr q1
def tN(K:ZA)(n:Nat)(t:jT):TG:=λv σ H Q=>∃ a xs,v=.ref a/\SqT K H a xs/\xs.length=n/\t xs σ H Q
def Eg{es:List Expr}{k:Nat}{t:jT}{n:Nat}(hc:X.calm=true)(h:kB X es t)
  (hn:‹(assignEach es X.env).length=n›)(hst:‹(assignEach es X.env).findIdx? (·.1)=none›):PG X (.Tuple es k pos) (tN X.K n t):=by
 intro pins s σ H v u Q I r hw;obtain⟨a,xs,e1,hq,hl,hw⟩:=hw;subst e1
 cases r
 obtain⟨its,rv,ht,hz⟩:=I.tuple hq;refine assign_Tuple_tuple (I.ok.hd hc) ht (by simp[hn,<- hl,rv.length]) hst λh' hx=>?_
 have I1:Inv X pins σ H { s with heap:=h' }:=I.kept (t':=s.toks) λb o e=>hx b o (OJ (Om e)) e
 exact h pins _ σ H xs _ Q I1 (by simpa using rv) hw
def tP(to ti:TE)(t:kD):TG:=λv σ H Q=>to σ H λo H1=>ti σ H1 λi H2=>t o i v H2 λH3=>Q σ H3
def Eh{o i:Expr}{to ti:TE}{t:kD}(ho:PE X o to)(hi:PE X i ti)(hs:nX X t)
  (ha:∀ v,assign (.Subscript o i pos) X.env v=(do
   let ov <- holding [v] (eval o X.env)
   let iv <- holding [v,ov] (eval i X.env)
   standAt pos
   holding [v,ov,iv] (setItem ov iv v)
   release [v,ov,iv] []):=by intro _;rfl):PG X (.Subscript o i pos) (tP to ti t):=by
 intro pins s σ H v u Q I r h;rw[ha];refine N9 (OZ (thn (ho pins s σ H _ I h) λov s1 Zz=>?_));obtain⟨x,H1,I1,r1,q1⟩:=Zz
 refine N9 (OZ (thn (hi pins s1 σ H1 _ I1 q1) λiv s2 Zz=>?_));obtain⟨y,H2,I2,r2,q2⟩:=Zz
 refine N9 (Rk (N9 (OZ (thn (hs pins s2 σ H2 x y v ov iv u _ I2 r1 r2 r q2) λ_ s3 Zz=>?_))));obtain⟨H3,I3,q3⟩:=Zz
 exact wpAny_release ⟨σ,H3,I3,q3⟩
def jc(te:TE)(g:TG):TS:=λD σ H=>te σ H λx H1=>g x σ H1 D.nx
def xT{tg e:Expr}{te:TE}{g:TG}(he:PE X e te)(hg:PG X tg g)(hs:‹swapsWithSole [tg] e pos.line X.env=pure false›)(hw:‹swappedStores [tg] e X.env=pure none›)
  (h1:‹(assignEach [tg] X.env).map (·.2)=[assign tg X.env]›):PS X (.Assign [tg] e pos) (jc te g):=by
 intro pins s σ H D I h;refine wpAny_Assign_stores (thn (he pins s σ H _ I h) λv s1 Zz=>?_) hs hw;obtain⟨x,H1,I1,r1,q1⟩:=Zz
 rw[h1];exact thn (hg pins s1 σ H1 x v _ I1 r1 q1) λ_ s2 q=>q
def Ei{i:Nat}{x:Str}{e:Expr}{te:TE}{pos':Pos}(hN:X.N.Nodup)(hi:X.N[i]?=some x)(hx:kr X.env.scope x)(he:PE X e te)(hs:‹swapsWith e (some (.Name x pos')) pos.line X.env=pure false›)(hf:autoParam (X.fn x=true\/X.env.scope.names.lookup x=some .local) xS._auto_1) :
  PS X (.Assign [.Name x pos'] e pos) (jc te (mF i)):=by
 intro pins s σ H D I h;refine wpAny_Assign_Name (thn (he pins s σ H _ I h) λv s1 Zz=>?_) hs;obtain⟨y,H1,I1,r1,q1⟩:=Zz
 exact mD I1 hN hi hx r1 (λs2 I2=>⟨_,H1,I2,q1⟩) hf
end
section
variable{X:Cx}{pos:Pos}
def Ej(c:TT)(tb:TS):TS:=λD σ H=>∃ W:Nat->St->Hp->Prop,(∃ m,W m σ H)/\∀ m σ H,W m σ H ->
 c σ H λb H1=>if b=true then ∃ N:St->Hp->Prop,(∀ σ' H',N σ' H'->∃ m',m'<m/\W m' σ' H')/\tb { D with nx:=N,ct:=N,bk:=D.nx } σ H1 else D.nx σ H1
def Ek{c:Expr}{body:List Stmt}{tc:TT}{tb:TS}(hp:PassesOwn (model X.prog X.w) X.A X.env X.xe)(hc:PT X c tc)(hb:PSs X body tb):PS X (.While c body [] pos) (Ej tc tb):=by
 intro pins s σ H D I h;obtain⟨W,⟨m0,w0⟩,turn⟩:=h;refine wpAny_While (codeAny_whileLoop (λn s'=>∃ σ' H',Inv X pins σ' H' s'/\W n σ' H') ?_ m0 ⟨σ,H,I,w0⟩)
 rintro n s1 ⟨σ1,H1,I1,w1⟩
 refine PN hp (thn (hc pins s1 σ1 H1 _ I1 (turn n σ1 H1 w1)) λb s2 Zz=>?_);obtain⟨H2,I2,q2⟩:=Zz
 cases b with
 |true =>
  obtain⟨N,hN,q2⟩:=q2;rw[Of rfl];refine PN hp (thn (hb pins s2 σ1 H2 _ I2 q2) λf s3 q3=>?_)
  cases f with
  |next =>
   obtain⟨σ3,H3,I3,n3⟩:=q3;obtain⟨m',hm,w3⟩:=hN σ3 H3 n3;exact⟨m',hm,σ3,H3,I3,w3⟩
  |cont =>
   obtain⟨σ3,H3,I3,n3⟩:=q3;obtain⟨m',hm,w3⟩:=hN σ3 H3 n3;exact⟨m',hm,σ3,H3,I3,w3⟩
  |brk=>exact q3
  |ret v=>exact q3
 |false =>
  rw[Og Ou];exact Qr ⟨σ1,H2,I2,q2⟩
end
structure It where
 go:Nat->Hp->Prop
 yld:Nat->Hp->V->Hp->Prop
 stop:Nat->Hp->Prop
def dR(X:Cx)(pins:List (ZE×Obj))(H:Hp)(b:ZE):Prop :=
 H b=none/\b≠X.env.locals/\b∉X.fs/\(b∈X.ex\/X.s₀.heap.objs.size<=b)/\(∀ x c,X.env.cells.lookup x=some c->c≠b)/\∀ p∈X.pn++pins,p.1≠b
def Inv.fpOk{X:Cx}{pins:List (ZE×Obj)}{σ:St}{H H':Hp}{s:ZB}{b:ZE}(I:Inv X pins σ H s)(hb:s.heap.objs.size<=b)(hn:H' b=none):dR X pins H' b:=by
 refine⟨hn,Nat.ne_of_gt (Ox I.lt hb),I.nofs hb,.inr (Oc I.sz hb),λx c e z=>?_,λp hp z=>?_⟩
 ·obtain⟨v,q⟩:=I.cell x c e
  exact absurd (Ox q.lt (by rw[z];exact hb)) (Pt _)
 ·exact absurd (Ox (Om (I.pin p hp).1) (by rw[z];exact hb)) (Pt _)
structure fz(P:ZD)(w:ZF)(K:ZA)(tg:Expr)(J:It)(fp:List ZE)(it:ZE)(tn:Nat->Heap->Prop):Prop where
 mem:it∈fp
 obj:∀ i h,tn i h->∀ b∈fp,∃ o,h.get? b=some o/\∀ v,o.data ≠ .cell v
 keep:∀ i h h',tn i h->(∀ b∈fp,∀ o,h.get? b=some o->h'.get? b=some o)->tn i h'
 item:∀ (X:Cx),X.prog=P->X.w=w->X.K=K->X.calm=true->∀ (i:Nat) (pins:List (ZE×Obj)) (s:ZB) (σ:St) (H:Hp) (E:ZC->ZB->Prop),Inv X pins σ H s->(∀ b∈fp,dR X pins H b)->tn i s.heap->J.go i H ->
  wpAny (model P w) X.A (pyNext (.ref it)) (λr s1=>∃ u,r=some u /\
   wpAny (model P w) X.A (letOwnedTupleGo tg (.ref it) u) (λ_ s2=>∃ x H',Inv X pins σ H' s2/\RelV x u/\J.yld i H x H'/\tn (i+1) s2.heap/\∀ b∈fp,H' b=none) E s1) E s
 done:∀ (X:Cx),X.prog=P->X.w=w->X.K=K->X.calm=true->∀ (i:Nat) (pins:List (ZE×Obj)) (s:ZB) (σ:St) (H:Hp) (E:ZC->ZB->Prop),Inv X pins σ H s->(∀ b∈fp,dR X pins H b)->tn i s.heap->J.stop i H ->
  wpAny (model P w) X.A (pyNext (.ref it)) (λr s1=>r=none/\Inv X pins σ H s1) E s
 self:∀ (A:ZG) (i:Nat) (s:ZB) (Q:ZC->ZB->Prop) (E:ZC->ZB->Prop),tn i s.heap->Q (.ref it) s->wpAny (model P w) A (pyIter (.ref it)) Q E s
abbrev TI:=St->Hp->(It->Hp->Prop)->Prop
def tQ(X:Cx)(pins:List (ZE×Obj))(σ:St)(tg:Expr)(R:It->Hp->Prop)(itv:ZC)(s2:ZB):Prop :=
 ∃ (it:ZE) (fp:List ZE) (tn:Nat->Heap->Prop) (J:It) (H':Hp),itv=.ref it/\Inv X pins σ H' s2/\fz X.prog X.w X.K tg J fp it tn/\tn 0 s2.heap/\(∀ b∈fp,dR X pins H' b)/\R J H'
def PI(X:Cx)(tg iter:Expr)(wi:TI):Prop :=
 ∀ (pins:List (ZE×Obj)) (s:ZB) (σ:St) (H:Hp) (R:It->Hp->Prop),Inv X pins σ H s->wi σ H R ->
  wpAny (model X.prog X.w) X.A (eval iter X.env) (λv s1=>wpAny (model X.prog X.w) X.A (pyIter v) (tQ X pins σ tg R) X.xe s1) X.xe s
def nY {M:Model} {A:ZG} {E:ZC->ZB->Prop} {s:ZB} {tg:Expr} {it:ZE} {u:ZC} {o:Obj} {n:String} {vs:Array ZC} {Q:Unit->ZB->Prop} (ho:s.heap.get? it=some o) (hc:o.cls=.type n) (hd:o.data=.fields vs)
  (hn:["enumerate", "zip", "dict_itemiterator", "dict_reverseitemiterator", "odict_iterator", "itertools.zip_longest", "itertools.pairwise"].contains n=false) (hQ:Q () s):wpAny M A (letOwnedTupleGo tg (.ref it) u) Q E s:=by
 unfold letOwnedTupleGo
 cases tg<;>first
  |exact Oi hQ
  | (cases u<;>first
    |exact Oi hQ
    | (refine N9 (Qv ho ?_)
       rw[hc,hd];show wpAny M A (if (["enumerate", "zip", "dict_itemiterator", "dict_reverseitemiterator", "odict_iterator", "itertools.zip_longest", "itertools.pairwise"].contains n && vs[0]? == some (rawInt _))=true then _ else _) Q E s
       rw[Og (by intro h;rw[hn,Bool.false_and] at h;cases h)];exact Oi hQ))
def qh(K:ZA)(a:ZE):It :=
 ⟨λi H=>∃ xs x,SqL K H a xs/\xs[i]?=some x,λi H x H'=>H'=H/\∀ xs,SqL K H a xs->xs[i]?=some x,λi H=>∃ xs,SqL K H a xs/\xs.length<=i⟩
def tR(K:ZA)(a:ZE):It :=
 ⟨λi H=>∃ xs x,SqT K H a xs/\xs[i]?=some x,λi H x H'=>H'=H/\∀ xs,SqT K H a xs->xs[i]?=some x,λi H=>∃ xs,SqT K H a xs/\xs.length<=i⟩
def qi(lo:Int)(n:Nat):It:=⟨λi _=>i<n,λi H x H'=>H'=H/\x=.int (lo+i),λi _=>n<=i⟩
def El{P:ZD}{w:ZF}{K:ZA}{tg:Expr}(a it:ZE):fz P w K tg (qh K a) [it] it (λi h=>h.IsListIter it a i) where
 mem:=by simp
 obj:=λi h st b hb=>by
  have e:b=it:=by simpa using hb
  subst e;obtain⟨o,e,c,d⟩:=st
  exact⟨o,e,λv z=>by rw[d] at z;cases z⟩
 keep:=λi h h' st k=>st.at λo e=>k it 's' o e
 item:=by
  intro X hP hw hK hc i pins s σ H E I hf st hg;subst hP hw hK
  obtain⟨xs,x,hq,hx⟩:=hg;obtain⟨its,rv,p,hz⟩:=I.list hq;obtain⟨u,hu,ru⟩:=rv.get hx;obtain⟨f0,f1,f2,f3,f4,f5⟩:=hf it 's';refine wpAny_pyNext_list_item st p.isList (x:=u) (by simpa using hu) λh' st' sb=>?_
  have I1:Inv X pins σ H { s with heap:=h' }:=I.turned (t':=s.toks) (λb o hb e=>(sb.2 b hb).trans e) f0 f1 f3 f4 f5;obtain⟨o,e,c,d⟩:=id st';exact⟨u,rfl,nY (s:={ s with heap:=h' }) e c d 'd' ⟨x,H,I1,ru,⟨rfl,λys hy=>by rw[I.list_inj hy hq];exact hx⟩,st',λb hb=>(hf b hb).1⟩⟩
 done:=by
  intro X hP hw hK hc i pins s σ H E I hf st hg;subst hP hw hK
  obtain⟨xs,hq,hx⟩:=hg;obtain⟨its,rv,p,hz⟩:=I.list hq;obtain⟨f0,f1,f2,f3,f4,f5⟩:=hf it 's';have hl:=rv.length;exact wpAny_pyNext_list_end (I.ok.hd hc) st p.isList (by simp;lia) λh' eb=>⟨rfl,I.turned (t':=s.toks) (λb o hb e=>eb b o hb e) f0 f1 f3 f4 f5⟩
 self:=λ_ _ _ _ _ st h=>wpAny_pyIter_listiter st h
def Em{P:ZD}{w:ZF}{K:ZA}{tg:Expr}(a it:ZE):fz P w K tg (tR K a) [it] it (λi h=>h.IsTupleIter it a i) where
 mem:=by simp
 obj:=λi h st b hb=>by
  have e:b=it:=by simpa using hb
  subst e;obtain⟨o,e,c,d⟩:=st
  exact⟨o,e,λv z=>by rw[d] at z;cases z⟩
 keep:=λi h h' st k=>st.at λo e=>k it 's' o e
 item:=by
  intro X hP hw hK hc i pins s σ H E I hf st hg;subst hP hw hK
  obtain⟨xs,x,hq,hx⟩:=hg;obtain⟨its,rv,p,hz⟩:=I.tuple hq;obtain⟨u,hu,ru⟩:=rv.get hx;obtain⟨f0,f1,f2,f3,f4,f5⟩:=hf it 's';refine wpAny_pyNext_tuple_item st (show s.heap.IsTuple a its.toArray from p) (x:=u) (by simpa using hu) λh' st' sb=>?_
  have I1:Inv X pins σ H { s with heap:=h' }:=I.turned (t':=s.toks) (λb o hb e=>(sb.2 b hb).trans e) f0 f1 f3 f4 f5;obtain⟨o,e,c,d⟩:=id st';exact⟨u,rfl,nY (s:={ s with heap:=h' }) e c d 'd' ⟨x,H,I1,ru,⟨rfl,λys hy=>by rw[I.tuple_inj hy hq];exact hx⟩,st',λb hb=>(hf b hb).1⟩⟩
 done:=by
  intro X hP hw hK hc i pins s σ H E I hf st hg;subst hP hw hK
  obtain⟨xs,hq,hx⟩:=hg;obtain⟨its,rv,p,hz⟩:=I.tuple hq;obtain⟨f0,f1,f2,f3,f4,f5⟩:=hf it 's';have hl:=rv.length;exact wpAny_pyNext_tuple_end (I.ok.hd hc) st (show s.heap.IsTuple a its.toArray from p) (by simp;lia) λh' eb=>⟨rfl,I.turned (t':=s.toks) (λb o hb e=>eb b o hb e) f0 f1 f3 f4 f5⟩
 self:=λ_ _ _ _ _ st h=>wpAny_pyIter_tupleiter st h
def Eo{P:ZD}{w:ZF}{K:ZA}{tg:Expr}(it:ZE)(lo:Int)(n:Nat):fz P w K tg (qi lo n) [it] it (λi h=>IsRangeIter h it (lo+(i:Nat)*1) ((n:Int)-(i:Nat)) 1) where
 mem:=by simp
 obj:=λi h st b hb=>by
  have e:b=it:=by simpa using hb
  subst e;exact⟨_,st,λv z=>by
   have z':Data.fields _=Data.cell v:=z
   cases z'⟩
 keep:=λi h h' st k=>k it 's' _ st
 item:=by
  intro X hP hw hK hc i pins s σ H E I hf st hg;subst hP hw hK
  obtain⟨f0,f1,f2,f3,f4,f5⟩:=hf it 's';have W:=Walks.range (prog:=X.prog) (w:=X.w) (I.ok.hd hc) it lo 1 n;refine W.item i s _ _ hg st λv h' tk hv st' kk=>?_
  obtain⟨t,rfl⟩:=hv;have I1:Inv X pins σ H { s with heap:=h',toks:=tk }:=I.turned (λb o hb e=>kk b o (by simpa using hb) e) f0 f1 f3 f4 f5;refine⟨_,rfl,nY (s:={ s with heap:=h',toks:=tk }) (n := "range_iterator") st' rfl rfl 'd' ⟨.int (lo+i),H,I1,⟨t,?_⟩,⟨rfl,rfl⟩,st',λb hb=>(hf b hb).1⟩⟩
  rw[Int.mul_one]
 done:=by
  intro X hP hw hK hc i pins s σ H E I hf st hg;subst hP hw hK
  obtain⟨f0,f1,f2,f3,f4,f5⟩:=hf it 's';exact RJ (I.ok.hd hc) st (by have:n<=i:=hg;lia) λh' eb=>⟨rfl,I.turned (t':=s.toks) (λb o hb e=>eb b o hb e) f0 f1 f3 f4 f5⟩
 self:=λ_ _ _ _ _ st h=>RK st h
section
variable{X:Cx}{tg:Expr}
def xU(K:ZA)(tl:TE):TI:=λσ H R=>tl σ H λx H1=>∃ a,x=.ref a/\(∃ xs,SqL K H1 a xs)/\R (qh K a) H1
def nZ(K:ZA)(tl:TE):TI:=λσ H R=>tl σ H λx H1=>∃ a,x=.ref a/\(∃ xs,SqT K H1 a xs)/\R (tR K a) H1
def Ep{l:Expr}{tl:TE}(hl:PE X l tl):PI X tg l (xU X.K tl):=by
 intro pins s σ H R I h;refine thn (hl pins s σ H _ I h) λv s1 Zz=>?_;obtain⟨x,H1,I1,r1,q1⟩:=Zz
 obtain⟨a,e,⟨xs,hq⟩,q⟩:=q1;subst e
 cases r1
 obtain⟨its,rv,p,hz⟩:=I1.list hq;refine Re p.isList ?_
 refine⟨s1.heap.objs.size,[s1.heap.objs.size],_,_,H1,rfl,I1.kept (t':=s1.toks) λb o e=>Oe _ e,El a _,⟨_,Os _ rfl,rfl,rfl⟩,λb hb=>?_,q⟩
 have e:b=s1.heap.objs.size:=by simpa using hb
 subst e;exact I1.fpOk (Oa _) (I1.hok.fresh (Oa _))
def Er{l:Expr}{tl:TE}(hl:PE X l tl):PI X tg l (nZ X.K tl):=by
 intro pins s σ H R I h;refine thn (hl pins s σ H _ I h) λv s1 Zz=>?_;obtain⟨x,H1,I1,r1,q1⟩:=Zz
 obtain⟨a,e,⟨xs,hq⟩,q⟩:=q1;subst e
 cases r1
 obtain⟨its,rv,p,hz⟩:=I1.tuple hq;refine wpAny_pyIter_tuple (show s1.heap.IsTuple a its.toArray from p) ?_
 refine⟨s1.heap.objs.size,[s1.heap.objs.size],_,_,H1,rfl,I1.kept (t':=s1.toks) λb o e=>Oe _ e,Em a _,⟨_,Os _ rfl,rfl,rfl⟩,λb hb=>?_,q⟩
 have e:b=s1.heap.objs.size:=by simpa using hb
 subst e;exact I1.fpOk (Oa _) (I1.hok.fresh (Oa _))
def Es{pins:List (ZE×Obj)}{σ:St}{H:Hp}{s:ZB}{R:It->Hp->Prop}{E:ZC->ZB->Prop}{lo hi:Int}{t u v:Tok}{tk:Nat}(I:Inv X pins σ H s)(h1:-(2 ^ 62)<=lo)(h2:lo<2 ^ 62)(h3:-(2 ^ 62)<=hi)(h4:hi<2 ^ 62)
  (q:R (qi lo (hi-lo).toNat) H):wpAny (model X.prog X.w) X.A (pyIter (.ref s.heap.objs.size)) (tQ X pins σ tg R) E { s with heap:=s.heap.push { cls:=.type "range",data:=.fields #[.int lo t,.int hi u,.int 1 v] },toks:=tk }:=by
 refine SJ (IsRange.new ..) (small_one h1 h2 h3 h4) ?_
 have I1:Inv X pins σ H { s with heap:=s.heap.push { cls:=.type "range",data:=.fields #[.int lo t,.int hi u,.int 1 v] },toks:=tk }:=I.kept λb o e=>Oe _ e
 refine⟨(s.heap.push { cls:=.type "range",data:=.fields #[.int lo t,.int hi u,.int 1 v] }).objs.size,[(s.heap.push { cls:=.type "range",data:=.fields #[.int lo t,.int hi u,.int 1 v] }).objs.size],_,_,H,rfl,
  I1.kept (t':=tk) λb o e=>Oe _ e,Eo _ lo (hi-lo).toNat,?_,λb hb=>?_,q⟩
 ·have e1:lo+((0:Nat):Int)*1=lo:=by simp
  have e2:(((hi-lo).toNat:Nat):Int)-((0:Nat):Int)=Builtin.Range.rangeSize lo hi 1:=by rw[rangeSize_one];split<;>omega
  show IsRangeIter _ _ (lo+((0:Nat):Int)*1) ((((hi-lo).toNat:Nat):Int)-((0:Nat):Int)) 1
  rw[e1,e2];exact Os _ rfl
 ·have e:b=(s.heap.push { cls:=.type "range",data:=.fields #[.int lo t,.int hi u,.int 1 v] }).objs.size:=by simpa using hb
  subst e;exact I1.fpOk (Oa _) (I1.hok.fresh (Oa _))
def Et(ta:TA):TI:=λσ H R=>ta σ H λvs H1=>∃ j:Int,vs=[.int j] /\ -(2 ^ 62)<=j/\j<2 ^ 62/\R (qi 0 j.toNat) H1
def Eu {a:Expr} {ta:TA} {p pos:Pos} (hg:Gl X "range") (hm:X.mg "range"=none) (ha:PA X [a] ta) (hs:‹starEach [a] X.env=[(false,eval a X.env)]›):PI X tg (.Call (.Name "range" p) [a] [] pos) (Et ta):=by
 intro pins s σ H R I h;refine Call_ (mE I hg hm boot_range (PD (thn (ha pos pins s σ H _ I h) λus s1 Zz=>?_) hs rfl));obtain⟨vs,H1,I1,r1,q1⟩:=Zz
 obtain⟨j,e,q1,q2,q⟩:=q1;subst e
 cases r1 with
 |cons r rr =>
  cases rr
  obtain⟨t,rfl⟩:=r;exact call_range_1 (Es I1 ⋯ ⋯ q1 q2 (by simpa using q))
def tU(wi:TI)(g:TG)(tb:TS):TS:=λD σ H=>wi σ H λJ H1=>∃ W:Nat->Nat->St->Hp->Prop,(∃ m,W 0 m σ H1)/\∀ i m σ H,W i m σ H ->
 (J.stop i H/\D.nx σ H)\/(J.go i H/\∃ N:St->Hp->Prop,(∀ σ' H',N σ' H'->∃ m',m'<m/\W (i+1) m' σ' H')/\∀ x H',J.yld i H x H'->g x σ H' λσ2 H2=>tb { D with nx:=N,ct:=N,bk:=D.nx } σ2 H2)
def iW(fp:List ZE)(h:Heap):List (ZE×Obj):=fp.filterMap λb=>(h.get? b).map λo=>(b,o)
def qj{fp:List ZE}{h:Heap}{b:ZE}{o:Obj}(hb:b∈fp)(e:h.get? b=some o):(b,o)∈iW fp h:=(QX.mpr ⟨b,hb,by rw[e];rfl⟩)
def Ew{fp:List ZE}{h:Heap}{p:ZE×Obj}(hp:p∈iW fp h):p.1∈fp/\h.get? p.1=some p.2:=by
 obtain⟨b,hb,e⟩:=QX.mp hp
 cases q:h.get? b with
 |none=>rw[q] at e;cases e
 |some o =>
  rw[q] at e;have e':(b,o)=p:=OG e
  subst e'
  exact⟨hb,q⟩
def Inv.pinned{pins:List (ZE×Obj)}{σ:St}{H:Hp}{s:ZB}{fp:List ZE}(I:Inv X pins σ H s)(hf:∀ b∈fp,dR X pins H b)(ho:∀ b∈fp,∃ o,s.heap.get? b=some o/\∀ v,o.data ≠ .cell v):Inv X (pins++iW fp s.heap) σ H s :=(
 I.pins_of λp hp=>(OY.mp hp).elim (λz=>I.pin p (OF _ z)) λz=>by
  obtain⟨hb,e⟩:=Ew z;obtain⟨f0,f1,f2,_⟩:=hf p.1 hb;obtain⟨o,e',d⟩:=ho p.1 hb;rw[e] at e';cases e'
  exact⟨e,f0,f1,f2,d⟩)
def Inv.unpinned{pins pl:List (ZE×Obj)}{σ:St}{H:Hp}{s:ZB}(I:Inv X (pins++pl) σ H s):Inv X pins σ H s:=(I.pins_of λp hp=>I.pin p (OF _ (OC _ hp)))
def Ey{iter:Expr}{body:List Stmt}{wi:TI}{g:TG}{tb:TS}{pos:Pos}(hp:PassesOwn (model X.prog X.w) X.A X.env X.xe)(hc:X.calm=true)(hi:PI X tg iter wi)(hg:PG X tg g)(hb:PSs X body tb)
  (hs:autoParam (∀ x,foldedSetIterable iter X.env x=pure x) L2.Eh._auto_1):PS X (.For tg iter body [] pos) (tU wi g tb):=by
 intro pins s σ H D I h;refine wpAny_For (thn (hi pins s σ H _ I h) λv s1 h1=>thn h1 λitv s2 h2=>?_) hs
 obtain⟨it,fp,tn,J,H2,e,I2,T,st2,f2,W,⟨m0,w0⟩,turn⟩:=h2;subst e;have stat:∀ {H':Hp},(∀ b∈fp,H' b=none)->∀ b∈fp,dR X pins H' b:=λhn b hb=>⟨hn b hb,(f2 b hb).2⟩
 refine codeAny_forLoop_any (λn s'=>∃ i σ' H',Inv X pins σ' H' s'/\tn i s'.heap/\(∀ b∈fp,H' b=none)/\W i n σ' H') ?_ m0 ⟨0,σ,H2,I2,st2,λb hb=>(f2 b hb).1,w0⟩
 rintro n s3 ⟨i,σ3,H3,I3,st3,fr3,w3⟩
 rcases turn i n σ3 H3 w3 with⟨stop,qn⟩|⟨go,N,hN,step⟩
 ·refine PN hp (thn (T.done X rfl rfl rfl hc i pins s3 σ3 H3 X.xe I3 (stat fr3) st3 stop) λr s4 Zz=>?_);obtain⟨hr,I4⟩:=Zz
  subst hr;exact Qr ⟨σ3,H3,I4,qn⟩
 ·refine PN hp (thn (T.item X rfl rfl rfl hc i pins s3 σ3 H3 X.xe I3 (stat fr3) st3 go) λr s4 Zz=>?_);obtain⟨u,hr,h4⟩:=Zz
  subst hr;refine PN hp (thn h4 λ_ s5 Zz=>?_);obtain⟨x,H5,I5,r5,y5,st5,fr5⟩:=Zz
  have I5':=I5.pinned (stat fr5) (T.obj _ _ st5);refine PN hp (thn (hg _ s5 σ3 H5 x u _ I5' r5 (step x H5 y5)) λ_ s6 Zz=>?_);obtain⟨σ6,H6,I6,q6⟩:=Zz
  refine PN hp (thn (hb _ s6 σ6 H6 _ I6 q6) λf s7 q7=>?_)
  have again:∀ {σ7:St} {H7:Hp},Inv X (pins++iW fp s5.heap) σ7 H7 s7->N σ7 H7->∃ m,m<n/\∃ i σ' H',Inv X pins σ' H' s7/\tn i s7.heap/\(∀ b∈fp,H' b=none)/\W i m σ' H':=λ{σ7 H7} I7 n7=>by
   obtain⟨m',hm,w7⟩:=hN σ7 H7 n7;refine⟨m',hm,i+1,σ7,H7,I7.unpinned,T.keep _ _ _ st5 λb hb o e=>(I7.pin (b,o) (OF _ (OF _ (qj hb e)))).1,λb hb=>?_,w7⟩
   obtain⟨o,e,d⟩:=T.obj _ _ st5 b hb;exact(I7.pin (b,o) (OF _ (OF _ (qj hb e)))).2.1
  cases f with
  |next=>obtain⟨σ7,H7,I7,n7⟩:=q7;exact again I7 n7
  |cont=>obtain⟨σ7,H7,I7,n7⟩:=q7;exact again I7 n7
  |brk=>obtain⟨σ7,H7,I7,q7⟩:=q7;exact⟨σ7,H7,I7.unpinned,q7⟩
  |ret v=>obtain⟨x7,σ7,H7,I7,r7,q7⟩:=q7;exact⟨x7,σ7,H7,I7.unpinned,r7,q7⟩
end
abbrev R2:=V->V->Hp->VK->Prop
def OpR(X:Cx)(f:ZC->ZC->Sem ZC)(r:R2):Prop :=
 ∀ (pins:List (ZE×Obj)) (s:ZB) (σ:St) (H:Hp) (x y:V) (v u:ZC) (Q:VK),Inv X pins σ H s->RelV x v->RelV y u->r x y H Q ->
  wpAny (model X.prog X.w) X.A (f v u) (EP X pins σ Q) X.xe s
def tV(X:Cx)(f:ZC->Sem ZC)(r:V->Hp->VK->Prop):Prop :=
 ∀ (pins:List (ZE×Obj)) (s:ZB) (σ:St) (H:Hp) (x:V) (v:ZC) (Q:VK),Inv X pins σ H s->RelV x v->r x H Q ->
  wpAny (model X.prog X.w) X.A (f v) (EP X pins σ Q) X.xe s
def CallR(X:Cx)(f:ZC)(r:List V->Hp->VK->Prop):Prop :=
 ∀ (pins:List (ZE×Obj)) (s:ZB) (σ:St) (H:Hp) (xs:List V) (us:List ZC) (Q:VK),Inv X pins σ H s->Vals xs us->r xs H Q ->
  wpAny (model X.prog X.w) X.A (call f us) (EP X pins σ Q) X.xe s
def tW(X:Cx)(r:V->Hp->(Bool->Hp->Prop)->Prop):Prop :=
 ∀ (pins:List (ZE×Obj)) (s:ZB) (σ:St) (H:Hp) (x:V) (v:ZC) (Q:Bool->Hp->Prop),Inv X pins σ H s->RelV x v->r x H Q ->
  wpAny (model X.prog X.w) X.A (truthy v) (TP X pins σ Q) X.xe s
def mG(r:R2)(ta tb:TE):TE:=λσ H Q=>ta σ H λx H1=>tb σ H1 λy H2=>r x y H2 Q
def Ez(r:V->Hp->VK->Prop)(ta:TE):TE:=λσ H Q=>ta σ H λx H1=>r x H1 Q
def rI(C:Int->Int->Prop)(g:Int->Int->V):R2:=λx y H Q=>∃ i j,x=.int i/\y=.int j/\C i j/\Q (g i j) H
def jU(g:Int->Int->V):R2:=λx y H Q=>∃ i j,x=.int i/\y=.int j/\Q (g i j) H
def rU(g:Int->V):V->Hp->VK->Prop:=λx H Q=>∃ i,x=.int i/\Q (g i) H
section
variable{X:Cx}{a b c:Expr}{ta tb tc:TE}{pos:Pos}
def kE(ha:PE X a ta)(hb:PE X b tb){pins:List (ZE×Obj)}{s:ZB}{σ:St}{H:Hp}{R:V->V->Hp->Prop}(I:Inv X pins σ H s)
  (h:ta σ H λx H1=>tb σ H1 λy H2=>R x y H2){Q:ZC->ZB->Prop}{f:ZC->ZC->Sem ZC}
  (hf:∀ v u s2 x y H2,Inv X pins σ H2 s2->RelV x v->RelV y u->R x y H2->wpAny (model X.prog X.w) X.A (f v u) Q X.xe s2) :
  wpAny (model X.prog X.w) X.A (eval a X.env) (λv s₁=>wpAny (model X.prog X.w) X.A (eval b X.env) (λu s₂=>wpAny (model X.prog X.w) X.A (f v u) Q X.xe s₂) X.xe s₁) X.xe s:=by
 refine thn (ha pins s σ H _ I h) λv s1 Zz=>?_;obtain⟨x,H1,I1,r1,q1⟩:=Zz
 refine thn (hb pins s1 σ H1 _ I1 q1) λu s2 Zz=>?_;obtain⟨y,H2,I2,r2,q2⟩:=Zz
 exact hf v u s2 x y H2 I2 r1 r2 q2
def EA{op:Operator}{r:R2}(ho:OpR X (binaryOp op) r)(ha:PE X a ta)(hb:PE X b tb):PE X (.BinOp a op b pos) (mG r ta tb):=by
 intro pins s σ H Q I h;exact wpAny_BinOp (kE ha hb I h λv u s2 x y H2 I2 rx ry q=>ho pins s2 σ H2 x y v u Q I2 rx ry q)
def EB{op:UnaryOp}{r:V->Hp->VK->Prop}(ho:tV X (unaryOp op) r)(ha:PE X a ta):PE X (.UnaryOp op a pos) (Ez r ta):=by
 intro pins s σ H Q I h;exact UnaryOp_ (thn (ha pins s σ H _ I h) λv s1 ⟨x,H1,I1,r1,q1⟩=>ho pins s1 σ H1 x v Q I1 r1 q1)
def qk{f:ZC->ZC->Sem ZC}{C:Int->Int->Prop}{g:Int->Int->Int}
  (rule:∀ (i j:Int) (t u:Tok) (s:ZB) (Q:ZC->ZB->Prop) (E:ZC->ZB->Prop),C i j->Q (.int (g i j) s.toks) { s with toks:=s.toks+1 }->wpAny (model X.prog X.w) X.A (f (.int i t) (.int j u)) Q E s) :
  OpR X f (rI C λi j=>.int (g i j)):=by
 intro pins s σ H x y v u Q I rx ry h;obtain⟨i,j,rfl,rfl,hc,q⟩:=h;obtain⟨t,rfl⟩:=rx;obtain⟨t',rfl⟩:=ry;exact rule i j t t' s _ _ hc ⟨.int (g i j),H,I.tok _,⟨_,rfl⟩,q⟩
def n8{f:ZC->ZC->Sem ZC}{g:Int->Int->Int}
  (rule:∀ (i j:Int) (t u:Tok) (s:ZB) (Q:ZC->ZB->Prop) (E:ZC->ZB->Prop),Q (.int (g i j) s.toks) { s with toks:=s.toks+1 }->wpAny (model X.prog X.w) X.A (f (.int i t) (.int j u)) Q E s) :
  OpR X f (jU λi j=>.int (g i j)):=by
 intro pins s σ H x y v u Q I rx ry h;obtain⟨i,j,rfl,rfl,q⟩:=h;obtain⟨t,rfl⟩:=rx;obtain⟨t',rfl⟩:=ry;exact rule i j t t' s _ _ ⟨.int (g i j),H,I.tok _,⟨_,rfl⟩,q⟩
def jd{f:ZC->ZC->Sem ZC}{g:Int->Int->Bool}
  (rule:∀ (i j:Int) (t u:Tok) (s:ZB) (Q:ZC->ZB->Prop) (E:ZC->ZB->Prop),Q (.bool (g i j)) s->wpAny (model X.prog X.w) X.A (f (.int i t) (.int j u)) Q E s) :
  OpR X f (jU λi j=>.bl (g i j)):=by
 intro pins s σ H x y v u Q I rx ry h;obtain⟨i,j,rfl,rfl,q⟩:=h;obtain⟨t,rfl⟩:=rx;obtain⟨t',rfl⟩:=ry;exact rule i j t t' s _ _ ⟨.bl (g i j),H,I,rfl,q⟩
def tX(i j:Int):Prop:=0<=j/\j<=1000000/\i.natAbs<2 ^ 64
def CMul(i j:Int):Prop:=(-(2 ^ 64)<i/\i<2 ^ 64)\/(-(2 ^ 64)<j/\j<2 ^ 64)
def CMul.ok{i j:Int}(h:CMul i j):IntMulOk i j:=by
 rcases h with⟨h1,h2⟩|⟨h1,h2⟩
 ·exact .of_left (intBits_le_64 h1 h2)
 ·exact .of_right (intBits_le_64 h1 h2)
def op_add:OpR X (binaryOp .Add) (jU λi j=>.int (i+j)):=(n8 λ_ _ _ _ _ _ _ q=>add_int q)
def EC:OpR X (binaryOp .Sub) (jU λi j=>.int (i-j)):=(n8 λ_ _ _ _ _ _ _ q=>sub_int q)
def ED:OpR X (binaryOp .Mod) (rI (λ_ j=>0<j) λi j=>.int (i % j)):=(qk λi j _ _ _ _ _ hc q=>by
 have h1:(0:Int)<j:=hc;exact mod_int' ⋯ (by rw[Int.fmod_eq_emod_of_nonneg i ⋯];exact q))
def EE:OpR X (binaryOp .Pow) (rI tX λi j=>.int (i ^ j.toNat)):=(qk λ_ _ _ _ _ _ _ hc q=>pow_int_small hc.1 hc.2.1 hc.2.2 q)
def EF{f:ZC->Sem ZC}{g:Int->Int}
  (rule:∀ (i:Int) (t:Tok) (s:ZB) (Q:ZC->ZB->Prop) (E:ZC->ZB->Prop),Q (.int (g i) s.toks) { s with toks:=s.toks+1 }->wpAny (model X.prog X.w) X.A (f (.int i t)) Q E s) :
  tV X f (rU λi=>.int (g i)):=by
 intro pins s σ H x v Q I rx h;obtain⟨i,rfl,q⟩:=h;obtain⟨t,rfl⟩:=rx;exact rule i t s _ _ ⟨.int (g i),H,I.tok _,⟨_,rfl⟩,q⟩
def EG:tV X (unaryOp .USub) (rU λi=>.int (-i)):=(EF λ_ _ _ _ _ q=>neg_int q)
end
def kF:V->V->Bool
 |.non,.non=>true|.non,.int _=>true|.int _,.non=>true|.non,.bl _=>true|.bl _,.non=>true|.non,.str _=>true|.str _,.non=>true
 |.int _,.int _=>true|.bl _,.bl _=>true|.str _,.str _=>true|.byt _,.byt _=>true
 |.int _,.str _=>true|.str _,.int _=>true|.bl _,.str _=>true|.str _,.bl _=>true
 |_,_=>false
def EH:R2:=λx y H Q=>kF x y=true/\Q (.bl (decide (x=y))) H
def EI:R2:=λx y H Q=>kF x y=true/\Q (.bl (!decide (x=y))) H
def xV{i j:Int}:decide (V.int i=V.int j)=(i == j):=by
 rw[Py];simp
def xW{i j:Bool}:decide (V.bl i=V.bl j)=(i == j):=by
 rw[Py];simp
def xX{i j:Str}:decide (V.str i=V.str j)=(i == j):=by
 rw[Py];simp
def xY{i j:Array UInt8}:decide (V.byt i=V.byt j)=(i.toList == j.toList):=by
 rw[Py]
 cases i
 cases j
 simp
section
variable{X:Cx}{a b c:Expr}{ta tb tc:TE}{pos:Pos}
def cq{pins:List (ZE×Obj)}{σ:St}{H:Hp}{s:ZB}{Q:VK}{k k':Bool}(I:Inv X pins σ H s)(q:Q (.bl k) H)(e:k=k'):EP X pins σ Q (.bool k') s:=by
 subst e;exact⟨.bl k,H,I,rfl,q⟩
def op_eq:OpR X (compareOp .Eq) EH:=by
 intro pins s σ H x y v u Q I rx ry h;obtain⟨hs,q⟩:=h
 cases x with
 |non =>
  cases rx
  cases y with
  |non=>cases ry;exact PySem.EqNone.eq_none_none (cq I q 's')
  |bl j=>cases ry;exact PySem.EqNone.eq_none_bool (cq I q 's')
  |int j=>obtain⟨t',rfl⟩:=ry;exact PySem.EqNone.eq_none_int (cq I q 's')
  |str j=>obtain⟨t',rfl⟩:=ry;exact PySem.EqNone.eq_none_str (cq I q 's')
  |_=>exact absurd (show false=true from hs) Ou
 |bl i =>
  cases rx
  cases y with
  |non=>cases ry;exact PySem.EqNone.eq_bool_none (cq I q 's')
  |bl j=>cases ry;exact eq_bool (cq I q xW)
  |str j=>obtain⟨t',rfl⟩:=ry;exact PySem.EqMixed.eq_bool_str (cq I q 's')
  |_=>exact absurd (show false=true from hs) Ou
 |int i =>
  obtain⟨t,rfl⟩:=rx
  cases y with
  |non=>cases ry;exact PySem.EqNone.eq_int_none (cq I q 's')
  |int j=>obtain⟨t',rfl⟩:=ry;exact eq_int (cq I q xV)
  |str j=>obtain⟨t',rfl⟩:=ry;exact PySem.EqMixed.eq_int_str (cq I q 's')
  |_=>exact absurd (show false=true from hs) Ou
 |str i =>
  obtain⟨t,rfl⟩:=rx
  cases y with
  |non=>cases ry;exact PySem.EqNone.eq_str_none (cq I q 's')
  |bl j=>cases ry;exact PySem.EqMixed.eq_str_bool (cq I q 's')
  |int j=>obtain⟨t',rfl⟩:=ry;exact PySem.EqMixed.eq_str_int (cq I q 's')
  |str j=>obtain⟨t',rfl⟩:=ry;exact eq_str (cq I q xX)
  |_=>exact absurd (show false=true from hs) Ou
 |byt i =>
  obtain⟨t,rfl⟩:=rx
  cases y with
  |byt j=>obtain⟨t',rfl⟩:=ry;exact PySem.W.eq_bytes (cq I q xY)
  |_=>exact absurd (show false=true from hs) Ou
 |_=>cases y<;>exact absurd (show false=true from hs) Ou
def op_ne:OpR X (compareOp .NotEq) EI:=by
 intro pins s σ H x y v u Q I rx ry h;obtain⟨hs,q⟩:=h
 cases x with
 |non =>
  cases rx
  cases y with
  |non=>cases ry;exact PySem.EqNone.ne_none_none (cq I q 's')
  |bl j=>cases ry;exact PySem.EqNone.ne_none_bool (cq I q 's')
  |int j=>obtain⟨t',rfl⟩:=ry;exact PySem.EqNone.ne_none_int (cq I q 's')
  |str j=>obtain⟨t',rfl⟩:=ry;exact PySem.EqNone.ne_none_str (cq I q 's')
  |_=>exact absurd (show false=true from hs) Ou
 |bl i =>
  cases rx
  cases y with
  |non=>cases ry;exact PySem.EqNone.ne_bool_none (cq I q 's')
  |bl j=>cases ry;exact ne_bool (cq I q (congrArg not xW))
  |str j=>obtain⟨t',rfl⟩:=ry;exact PySem.EqMixed.ne_bool_str (cq I q 's')
  |_=>exact absurd (show false=true from hs) Ou
 |int i =>
  obtain⟨t,rfl⟩:=rx
  cases y with
  |non=>cases ry;exact PySem.EqNone.ne_int_none (cq I q 's')
  |int j=>obtain⟨t',rfl⟩:=ry;exact ne_int (cq I q (congrArg not xV))
  |str j=>obtain⟨t',rfl⟩:=ry;exact PySem.EqMixed.ne_int_str (cq I q 's')
  |_=>exact absurd (show false=true from hs) Ou
 |str i =>
  obtain⟨t,rfl⟩:=rx
  cases y with
  |non=>cases ry;exact PySem.EqNone.ne_str_none (cq I q 's')
  |bl j=>cases ry;exact PySem.EqMixed.ne_str_bool (cq I q 's')
  |int j=>obtain⟨t',rfl⟩:=ry;exact PySem.EqMixed.ne_str_int (cq I q 's')
  |str j=>obtain⟨t',rfl⟩:=ry;exact ne_str (cq I q (congrArg not xX))
  |_=>exact absurd (show false=true from hs) Ou
 |byt i =>
  obtain⟨t,rfl⟩:=rx
  cases y with
  |byt j=>obtain⟨t',rfl⟩:=ry;exact PySem.W.ne_bytes (cq I q (congrArg not xY))
  |_=>exact absurd (show false=true from hs) Ou
 |_=>cases y<;>exact absurd (show false=true from hs) Ou
def op_lt:OpR X (compareOp .Lt) (jU λi j=>.bl (decide (i<j))):=(jd λ_ _ _ _ _ _ _ q=>lt_int q)
def op_le:OpR X (compareOp .LtE) (jU λi j=>.bl (decide (i<=j))):=(jd λ_ _ _ _ _ _ _ q=>le_int q)
def EJ:OpR X (compareOp .Gt) (jU λi j=>.bl (decide (j<i))):=(jd λ_ _ _ _ _ _ _ q=>gt_int q)
def EK:OpR X (compareOp .GtE) (jU λi j=>.bl (decide (j<=i))):=(jd λ_ _ _ _ _ _ _ q=>ge_int q)
def EL:OpR X (compareOp .Lt) (λx y H Q=>∃ i j,x=.str i/\y=.str j/\Q (.bl (decide (i.cps.toList<j.cps.toList))) H):=by
 intro pins s σ H x y v u Q I rx ry h;obtain⟨i,j,rfl,rfl,q⟩:=h;obtain⟨t,rfl⟩:=rx;obtain⟨t',rfl⟩:=ry;exact lt_str (cq I q rfl)
def zg5:OpR X (compareOp .In) (λx y H Q=>∃ i j,x=.str i/\y=.str j/\Q (.bl (!(Builtin.Str.occurrences j i 0 j.length 1).isEmpty)) H):=by
 intro pins s σ H x y v u Q I rx ry h;obtain⟨i,j,rfl,rfl,q⟩:=h;obtain⟨t,rfl⟩:=rx;obtain⟨t',rfl⟩:=ry;exact in_str (cq I q rfl)
def EM:OpR X (compareOp .Is) (λx y H Q=>y=.non/\Q (.bl (decide (x=.non))) H):=by
 intro pins s σ H x y v u Q I rx ry h;obtain⟨rfl,q⟩:=h
 cases ry
 refine is_none_gen (cq I q ?_)
 cases x<;>first
  |(cases rx;rfl)
  |(obtain⟨t,rfl⟩:=rx;rfl)
def OpR.or{f:ZC->ZC->Sem ZC}{r r':R2}(h:OpR X f r)(h':OpR X f r'):OpR X f (λx y H Q=>r x y H Q\/r' x y H Q):=by
 intro pins s σ H x y v u Q I rx ry q;rcases q with q|q
 ·exact h pins s σ H x y v u Q I rx ry q
 ·exact h' pins s σ H x y v u Q I rx ry q
def bR(b:Expr){op:CmpOp}(h:(op ≠ .In)⁻¹)(h2:(op ≠ .NotIn)⁻¹):behindInMarks op b=false:=by
 have e1:(op == CmpOp.In)=false:=by cases op<;>first|rfl|exact absurd rfl h
 have e2:(op == CmpOp.NotIn)=false:=by cases op<;>first|rfl|exact absurd rfl h2
 cases b<;>simp[behindInMarks,e1,e2]
def EO{op:CmpOp}{r:R2}(ho:OpR X (compareOp op) r)(ha:PE X a ta)(hb:PE X b tb)(hm:behindInMarks op b=false):PE X (.Compare a [op] [b] pos) (mG r ta tb):=by
 intro pins s σ H Q I h;exact wpAny_Compare1 (kE ha hb I h λv u s2 x y H2 I2 rx ry q=>ho pins s2 σ H2 x y v u Q I2 rx ry q) hm
def tY(t:TE):TT:=λσ H Q=>t σ H λx H'=>∃ k,x=.bl k/\Q k H'
def ES{op:CmpOp}{r:R2}(ho:OpR X (compareOp op) r)(ha:PE X a ta)(hb:PE X b tb)(hm:behindInMarks op b=false):PT X (.Compare a [op] [b] pos) (tY (mG r ta tb)):=by
 intro pins s σ H Q I h;refine wpAny_isTrue_Compare1 (thn (ha pins s σ H _ I h) λv s1 ⟨x,H1,I1,r1,q1⟩=>thn (hb pins s1 σ H1 _ I1 q1) λu s2 ⟨y,H2,I2,r2,q2⟩ =>
  thn (ho pins s2 σ H2 x y v u _ I2 r1 r2 q2) λc s3 ⟨z,H3,I3,r3,k,e,q3⟩=>?_) hm
 subst e
 cases r3
 exact OA ⟨H3,I3,q3⟩
def tZ(r r':R2)(ta tb tc:TE):TE:=λσ H Q=>ta σ H λx H1=>tb σ H1 λy H2=>r x y H2 λz H3=>∃ k,z=.bl k /\
 (if k=true then tc σ H3 λw' H4=>r' y w' H4 Q else Q (.bl false) H3)
def ET{op op':CmpOp}{r r':R2}(ho:OpR X (compareOp op) r)(ho':OpR X (compareOp op') r')(ha:PE X a ta)(hb:PE X b tb)(hc:PE X c tc)
  (hm:lastMarks [op,op'] [b,c]=false:=by with_unfolding_all rfl):PE X (.Compare a [op,op'] [b,c] pos) (tZ r r' ta tb tc):=by
 intro pins s σ H Q I h;refine Compare_chain (thn (ha pins s σ H _ I h) λv s1 ⟨x,H1,I1,r1,q1⟩=>Th (thn (hb pins s1 σ H1 _ I1 q1) λu s2 ⟨y,H2,I2,r2,q2⟩ =>
  thn (ho pins s2 σ H2 x y v u _ I2 r1 r2 q2) λd s3 ⟨z,H3,I3,r3,k,e,q3⟩=>?_)) hm
 subst e
 cases r3
 refine OA ?_
 cases k with
 |false=>exact ite_ff ⟨.bl false,H3,I3,rfl,q3⟩
 |true=>exact ite_tt (chain_last (thn (hc pins s3 σ H3 _ I3 q3) λw' s4 ⟨z',H4,I4,r4,q4⟩=>ho' pins s4 σ H4 y z' u w' Q I4 r2 r4 q4))
def EU{op op':CmpOp}{r r':R2}(ho:OpR X (compareOp op) r)(ho':OpR X (compareOp op') r')(ha:PE X a ta)(hb:PE X b tb)(hc:PE X c tc)
  (hm:autoParam (lastMarks [op,op'] [b,c]=false) ET._auto_1):PT X (.Compare a [op,op'] [b,c] pos) (tY (tZ r r' ta tb tc)):=by
 intro pins s σ H Q I h;refine isTrue_chain (thn (ha pins s σ H _ I h) λv s1 ⟨x,H1,I1,r1,q1⟩=>test_link (thn (hb pins s1 σ H1 _ I1 q1) λu s2 ⟨y,H2,I2,r2,q2⟩ =>
  thn (ho pins s2 σ H2 x y v u _ I2 r1 r2 q2) λd s3 ⟨z,H3,I3,r3,k,e,q3⟩=>?_)) hm
 subst e
 cases r3
 refine OA ?_
 cases k with
 |false =>
  obtain⟨k',e',q'⟩:=q3
  cases e'
  exact ite_ff ⟨H3,I3,q'⟩
 |true =>
  refine ite_tt (test_last (thn (hc pins s3 σ H3 _ I3 q3) λw' s4 ⟨z',H4,I4,r4,q4⟩=>thn (ho' pins s4 σ H4 y z' u w' _ I4 r2 r4 q4) λd' s5 Zz=>?_));obtain⟨z2,H5,I5,r5,k2,e2,q5⟩:=Zz
  subst e2
  cases r5
  exact OA ⟨H5,I5,q5⟩
def je(K:ZA)(x:V)(H:Hp)(k:Bool):Prop :=
 match x with
 |.non=>k=false
 |.bl b=>k=b
 |.int i=>k=(i != 0)
 |.str y=>y.length<=sizeLine/\k=((y.length:Int) != 0)
 |.byt y=>y.size<=sizeLine/\k=((y.size:Int) != 0)
 |.ref p=>(∃ xs,SqL K H p xs/\k=!xs.isEmpty)\/(∃ xs,SqT K H p xs/\k=!xs.isEmpty)\/∃ kvs,H p=some (.dK kvs)/\k=!kvs.isEmpty
 |_=>False
def EV{κ:Type}{kvs:List (κ×V)}{vs:List (κ×ZC)}(r:KV kvs vs):(!vs.isEmpty)=!kvs.isEmpty:=by
 cases r<;>rfl
def xZ{xs:List V}{its:List ZC}(r:Vals xs its):(!its.toArray.isEmpty)=!xs.isEmpty:=by
 cases r<;>simp
def kH:(sizeLine:Nat)<2 ^ 63:=by rw[sizeLine_eq];decide
def x6:tW X (λx H Q=>∃ k,je X.K x H k/\Q k H):=by
 intro pins s σ H x v Q I rx h;obtain⟨k,e,q⟩:=h;have hl:=kH;have hs:sizeLine=16777216:=sizeLine_eq
 cases x with
 |non =>
  cases rx
  have e':k=false:=e;subst e'
  exact truthy_none ⟨H,I,q⟩
 |bl b =>
  cases rx
  have e':k=b:=e;subst e'
  exact OA ⟨H,I,q⟩
 |int i =>
  obtain⟨t,rfl⟩:=rx;have e':k=(i != 0):=e;subst e'
  exact PySem.P.truthy_int ⟨H,I,q⟩
 |str y =>
  obtain⟨t,rfl⟩:=rx;obtain⟨hy,e'⟩:y.length<=sizeLine/\k=((y.length:Int) != 0):=e;subst e'
  exact PySem.P.truthy_str ⋯ ⟨H,I.tok _,q⟩
 |byt y =>
  obtain⟨t,rfl⟩:=rx;obtain⟨hy,e'⟩:y.size<=sizeLine/\k=((y.size:Int) != 0):=e;subst e'
  exact PySem.W.truthy_bytes ⋯ ⟨H,I.tok _,q⟩
 |ref p =>
  cases rx
  have e':(∃ xs,SqL X.K H p xs/\k=!xs.isEmpty)\/(∃ xs,SqT X.K H p xs/\k=!xs.isEmpty)\/∃ kvs,H p=some (.dK kvs)/\k=!kvs.isEmpty:=e;rcases e' with⟨xs,hx,e'⟩|⟨xs,hx,e'⟩|⟨kvs,hx,e'⟩
  ·subst e'
   obtain⟨its,r,pl,hz⟩:=I.list hx;have hlen:=r.length;exact wpAny_truthy_list pl.isList (by simp only[Oq];lia) ⟨H,I.tok _,by rw[xZ r];exact q⟩
  ·subst e'
   obtain⟨its,r,pl,hz⟩:=I.tuple hx;have hlen:=r.length;exact truthy_tuple pl (by simp only[Oq];lia) ⟨H,I.tok _,by rw[xZ r];exact q⟩
  ·subst e'
   obtain⟨hz,hS,vs,r,m⟩:kvs.length<=sizeLine/\(p == sysModules)=false/\∃ vs,KV kvs vs/\s.heap.DictOf (eB X.prog X.w) p vs:=I.hok p _ hx;have hlen:kvs.length=vs.length:=Paired.length r;exact wpAny_truthy_dict hS m ⋯ ⟨H,I.tok _,by rw[EV r];exact q⟩
 |_=>exact(show False from e).elim
def EW(ha:PE X a ta)(he:∀ whole,isTrue a X.env whole=(do let v <- whole;standAt a.pos;holding [v] (truthy v))) :
  PT X a (λσ H Q=>ta σ H λx H'=>∃ k,je X.K x H' k/\Q k H'):=by
 intro pins s σ H Q I h;exact isTrue_plain (thn (ha pins s σ H _ I h) λv s1 ⟨x,H1,I1,r1,q1⟩=>x6 pins s1 σ H1 x v Q I1 r1 q1) (he _)
def zgu:OpR X (binaryOp .Add) (λx y H Q=>∃ i j,x=.str i/\y=.str j/\i.length+j.length<=sizeLine/\Q (.str (i++j)) H):=by
 intro pins s σ H x y v u Q I rx ry h;obtain⟨i,j,rfl,rfl,hz,q⟩:=h;obtain⟨t,rfl⟩:=rx;obtain⟨t',rfl⟩:=ry;exact add_str (λt' tk=>⟨.str (i++j),H,I.tok _,⟨_,rfl⟩,q⟩) hz
def jg{x:V}{us:List ZC}(r:Vals [x] us):∃ u,us=[u]/\RelV x u:=by
 cases r with
 |cons r1 r2=>cases r2;exact⟨_,rfl,r1⟩
def n9{x y:V}{us:List ZC}(r:Vals [x,y] us):∃ u w',us=[u,w']/\RelV x u/\RelV y w':=by
 cases r with
 |cons r1 r2 =>
  cases r2 with
  |cons r3 r4=>cases r4;exact⟨_,_,rfl,r1,r3⟩
def EX:CallR X (.builtin "abs") (λxs H Q=>∃ i,xs=[.int i]/\Q (.int (if i<0 then -i else i)) H):=by
 intro pins s σ H xs us Q I r h;obtain⟨i,rfl,q⟩:=h;obtain⟨u,rfl,t,rfl⟩:=jg r;exact call_abs_int λu tk=>⟨.int (if i<0 then -i else i),H,I.tok _,⟨_,rfl⟩,q⟩
def EY(hc:X.calm=true):CallR X (.builtin "max") (λxs H Q=>∃ i j,xs=[.int i,.int j]/\Q (.int (if j > i then j else i)) H):=by
 intro pins s σ H xs us Q I r h;obtain⟨i,j,rfl,q⟩:=h;obtain⟨u,w',rfl,⟨t,rfl⟩,⟨t',rfl⟩⟩:=n9 r;refine max_two_ints (I.ok.hd hc) λh' tk k=>⟨_,H,I.kept k,?_,q⟩
 by_cases hj:j > i
 ·rw[Of hj,Of hj];exact⟨_,rfl⟩
 ·rw[Og hj,Og hj];exact⟨_,rfl⟩
def EZ(hc:X.calm=true):CallR X (.builtin "min") (λxs H Q=>∃ i j,xs=[.int i,.int j]/\Q (.int (if j<i then j else i)) H):=by
 intro pins s σ H xs us Q I r h;obtain⟨i,j,rfl,q⟩:=h;obtain⟨u,w',rfl,⟨t,rfl⟩,⟨t',rfl⟩⟩:=n9 r;refine min_two_ints (I.ok.hd hc) λh' tk k=>⟨_,H,I.kept k,?_,q⟩
 by_cases hj:j<i
 ·rw[Of hj,Of hj];exact⟨_,rfl⟩
 ·rw[Og hj,Og hj];exact⟨_,rfl⟩
def E1:CallR X (.type "int") (λxs H Q=>(∃ i,xs=[.int i]/\Q (.int i) H)\/∃ k,xs=[.bl k]/\Q (.int (if k then 1 else 0)) H):=by
 intro pins s σ H xs us Q I r h;rcases h with⟨i,rfl,q⟩|⟨k,rfl,q⟩
 ·obtain⟨u,rfl,t,rfl⟩:=jg r
  exact call_int_int ⟨.int i,H,I,⟨_,rfl⟩,q⟩
 ·obtain⟨u,rfl,r1⟩:=jg r
  cases r1
  exact call_int_bool ⟨.int (if k then 1 else 0),H,I.tok _,⟨_,rfl⟩,q⟩
end
structure ObjM(h:Heap)(x dx C:ZE)(mA:Str->Option ZC):Prop where
 obj:h.get? x=some (PySem.W.instObj C dx)
 ns:h.Ns1 dx mA
 ne:dx≠x
def E2{h:Heap}{dx:ZE}{mA:Str->Option ZC}(n:h.Ns1 dx mA):∃ od,h.get? dx=some od/\∀ name,PySem.W.lookIn name od=some (mA name):=by
 obtain⟨o,es,ep,ho,hd,hk,_,hm⟩:=n;refine⟨o,ho,λname=>?_⟩
 have e:=hm name;unfold nsFind findBy at e;rw[<- Array.find?_toList] at e;unfold PySem.W.lookIn
 rw[hd];dsimp only;split
 ·rename_i y q
  rw[q] at e;exact congrArg some e
 ·rename_i q
  rw[q] at e;have a:es.toList.any (·.refKey)=false:=by
   rw[List.any_eq_false];intro y hy
   obtain⟨z,t,hkey⟩:=hk y (Array.mem_toList_iff.mp hy);simp[DictEntry.refKey,hkey]
  have a':¬ es.toList.any (·.refKey)=true:=by rw[a];exact Ou
  rw[Og a'];exact congrArg some e
def ObjM.look{h:Heap}{x dx C:ZE}{mA:Str->Option ZC}(I:ObjM h x dx C mA):∃ od,PySem.W.InstAt h x (PySem.W.instObj C dx) C (some od)/\∀ name,PySem.W.lookIn name od=some (mA name) :=(
 let ⟨od,ho,hl⟩:=E2 I.ns
 ⟨od,⟨I.obj,rfl,rfl,ho⟩,hl⟩)
section
variable{prog:ZD}{w:ZF}{A:ZG}{E:ZC->ZB->Prop}{s:ZB}{K:ZA}{x dx C f:ZE}{mA:Str->Option ZC}{name:Str}{v:ZC}
def E3{expr:Bool}{Q:ZC->ZB->Prop}(X:K.In s.heap)(I:ObjM s.heap x dx C mA)(hg:PySem.W.plainGet K C name=true)(hh:PySem.W.hasDictIn K C=true)
  (ha:PySem.W.findIn K (.ref C) name=some none)(hv:mA name=some v)(hv':PySem.W.handedIn v=true)(h:Q v { s with toks:=s.toks+1 }) :
  wpAny (model prog w) A (getAttr (.ref x) name expr) Q E s:=by
 obtain⟨od,J,hl⟩:=I.look;exact PySem.W.get_value X J (QR hg).1 (PySem.W.findObj_own hh ha rfl (by rw[hl,hv])) hv' h
def E4{pl:Sem Bool}{Q:ZC×List ZC->ZB->Prop}(X:K.In s.heap)(I:ObjM s.heap x dx C mA)(hg:PySem.W.plainGet K C name=true)
  (hf:PySem.W.findIn K (.ref C) name=some (some (.ref f)))(ht:PySem.W.isFn K (.ref f)=true)(hv:mA name=none)(h:Q (.ref f,[.ref x]) s) :
  wpAny (model prog w) A (getMethod (.ref x) name pl) Q E s:=by
 obtain⟨od,J,hl⟩:=I.look;exact PySem.W.method_fn X J (QR hg).1 (QR hg).2 hf (beq_iff_eq.mp ht) (by show (PySem.W.lookIn name od).map (·.isSome)=some false;rw[hl,hv];rfl) h
def E5 {ns:List Str} {Q:Unit->ZB->Prop} (X:K.In s.heap) (I:ObjM s.heap x dx C mA)
  (hs:PySem.W.findIn K (.ref C) "__setattr__"=some (some (.builtin "object.__setattr__"))) (hp:PySem.W.plainOver K C=true) (ht:PySem.W.takerIn K C name=some none) (hh:PySem.W.hasDictIn K C=true)
  (hw:PySem.Within mA ns) (hsz:ns.length<=sizeLine)
  (h:∀ h',ObjM h' x dx C (λy=>if y=name then some v else mA y)->Heap.SameBut dx s.heap h'->Q () { s with heap:=h',toks:=s.toks+2 }) :
  wpAny (model prog w) A (setAttr (.ref x) name v) Q E s:=by
 obtain⟨od,J,hl⟩:=I.look;refine PySem.W.set_plain X J hs (PySem.W.osa_open (s:={ s with toks:=s.toks+1 }) (r:=none) X J hp ht λb=>?_)
 obtain⟨cd,hc,hd'⟩:=PySem.W.any_some hh;have hx:s.heap.get? x=some ⟨.ref C,some dx,.plain,#[]⟩:=I.obj;refine N9 (Oi (N9 (N9 (wpAny_loadPart hx (N9 (PySem.W.Looks.here (s:={ s with toks:=s.toks+1 }) (PySem.W.looks_clsIn X hc) ?_))))))
 rw[hd'];refine Oi (a:=some dx) (N9 (Oi (N9 ?_)))
 refine wpAny_nsSet1 (s:={ s with toks:=s.toks+1 }) I.ns λh' hn2 hs2=>?_
 obtain⟨oD,esD,epD,hoD,hdD,hcD⟩:=hn2.count (PySem.Within.cons name v hw);refine N9 (wpAny_lookBehind hoD (by rw[hdD];exact pastItsLine_dict (Oc hcD (by rw[O3];lia))) ?_)
 exact Oi (h _ ⟨(hs2.2 _ (Ne.symm I.ne)).trans I.obj,hn2,I.ne⟩ hs2)
def E6 {R:Result->ZB->Prop} {vs:List ZC} {kw:List (Str×ZC)} (X:K.In s.heap) (hm:PySem.W.makesIn K C=true)
  (hi:PySem.W.findIn K (.ref C) "__init__"=some (some (.ref f))) (hf:PySem.W.typeIn K (.ref f)=some (.type "function"))
  (h:codeAny (model prog w) (A.under (.builtin "type.__call__" ⟨.ref C::vs,kw⟩)) (.call (.ref f) ⟨.ref (s.heap.objs.size+1)::vs,kw⟩) (PySem.W.InitBack (s.heap.objs.size+1) R)
   { s with heap:=(s.heap.push PySem.W.emptyDict).push (PySem.W.instObj C s.heap.objs.size) }) :
  codeAny (model prog w) A (.call (.ref C) ⟨vs,kw⟩) R s:=by
 obtain⟨hh,g,d,t,os⟩:=s;exact PySem.W.make_core (PySem.W.makes_of X hm) (PySem.W.looks_findIn X hi) (λself=>PySem.W.bind_fn X self hf) (.inl rfl) h
end
def bA(f:Str)(v:V):List (Str×V)->List (Str×V)
 |[]=>[(f,v)]
 |(g,x)::r=>if g=f then(g,v)::r else(g,x)::bA f v r
theorem ql(f g:Str)(v:V):∀ fs:List (Str×V),(bA f v fs).lookup g=if g=f then some v else fs.lookup g
 |[]=>by
  show List.lookup g [(f,v)]=_
  by_cases h:g=f
  ·have hb:(g == f)=true:=beq_iff_eq.mpr h
   simp only[List.lookup,hb,Of h]
  ·have hb:(g == f)=false:=beq_eq_false_iff_ne.mpr h
   simp only[List.lookup,hb,Og h]
 |(k,x)::r=>by
  have ih:=ql f g v r;rw[show bA f v ((k,x)::r)=(if k=f then(k,v)::r else(k,x)::bA f v r) from rfl];by_cases hk:k=f
  ·rw[Of hk]
   by_cases h:g=k
   ·have hb:(g == k)=true:=beq_iff_eq.mpr h
    simp only[List.lookup,hb,Of (h.trans hk)]
   ·have hb:(g == k)=false:=beq_eq_false_iff_ne.mpr h
    simp only[List.lookup,hb,Og (λe:g=f=>h (e.trans hk.symm))]
  ·rw[Og hk]
   by_cases h:g=k
   ·have hb:(g == k)=true:=beq_iff_eq.mpr h
    simp only[List.lookup,hb,Og (λe:g=f=>hk (h.symm.trans e))]
   ·have hb:(g == k)=false:=beq_eq_false_iff_ne.mpr h
    simp only[List.lookup,hb]
    exact ih
theorem t8(f:Str)(v:V):∀ fs:List (Str×V),f∈(bA f v fs).map (·.1)/\∀ g,g∈fs.map (·.1)->g∈(bA f v fs).map (·.1)
 |[]=>⟨by simp[bA],λg h=>by simp at h⟩
 |(k,x)::r=>by
  obtain⟨i1,i2⟩:=t8 f v r;rw[show bA f v ((k,x)::r)=(if k=f then(k,v)::r else(k,x)::bA f v r) from rfl];by_cases hk:k=f
  ·rw[Of hk]
   subst hk;exact⟨by simp,λg h=>by simpa using h⟩
  ·rw[Og hk]
   refine⟨?_,λg h=>?_⟩
   ·rw[Ot]
    exact OK _ i1
   ·rw[Ot] at h ⊢
    rcases Ov.mp h with e|e
    ·exact Ov.mpr (.inl e)
    ·exact OK _ (i2 g e)
theorem x8(f:Str)(v:V):∀ fs:List (Str×V),(bA f v fs).length<=fs.length+1
 |[]=>by simp[bA]
 |(k,x)::r=>by
  have ih:=x8 f v r;rw[show bA f v ((k,x)::r)=(if k=f then(k,v)::r else(k,x)::bA f v r) from rfl];by_cases hk:k=f
  ·rw[Of hk,O3,O3];lia
  ·rw[Og hk,O3,O3];lia
def RelO.some_of{v:V}{o:Option ZC}(r:RelO (some v) o):∃ u,o=some u/\RelV v u:=by
 cases o with
 |none=>exact(show False from r).elim
 |some u=>exact⟨u,rfl,r⟩
def RelO.none_of{o:Option ZC}(r:RelO none o):o=none:=by
 cases o with
 |none=>rfl
 |some u=>exact(show False from r).elim
def E7{v:V}{u:ZC}(r:RelV v u):PySem.W.handedIn u=true:=by
 cases v with
 |non=>cases (show u=Value.none from r);rfl
 |bl b=>cases (show u=Value.bool b from r);rfl
 |int i=>obtain⟨t,e⟩:=(show ∃ t,u=Value.int i t from r);cases e;rfl
 |str x=>obtain⟨t,e⟩:=(show ∃ t,u=Value.str x t from r);cases e;rfl
 |byt b=>obtain⟨t,e⟩:=(show ∃ t,u=Value.bytes b t from r);cases e;rfl
 |flt b=>obtain⟨t,e⟩:=(show ∃ t,u=Value.float b t from r);cases e;rfl
 |ref a=>cases (show u=Value.ref a from r);rfl
 |ty n=>cases (show u=Value.type n from r);rfl
section
variable{P:ZD}{w:ZF}{H H':Hp}{h h':Heap}{a C dx:ZE}{fs fs':List (Str×V)}
def qm(hok:HOk P w H h)(e:H a=some (.ins C dx fs)):∃ mA,ObjM h a dx C mA/\(∀ f,RelO (fs.lookup f) (mA f))/\PySem.Within mA (fs.map (·.1))/\fs.length<=1000/\H dx=some (.own a):=by
 obtain⟨d,z,ne,ob,mA,n,r,q⟩:=(show ObjOk P w H h a (.ins C dx fs) from hok a _ e)
 exact⟨mA,⟨ob,n,ne⟩,r,q,z,d⟩
end
structure Cls(K:ZA)(C:ZE):Prop where
 pg:PySem.W.plainGet K C Str.empty=true
 hd:PySem.W.hasDictIn K C=true
 po:PySem.W.plainOver K C=true
 sa:PySem.W.findIn K (.ref C) "__setattr__"=some (some (.builtin "object.__setattr__"))
def Cls.get{K:ZA}{C:ZE}(c:Cls K C)(f:Str):PySem.W.plainGet K C f=true:=(c.pg)
def NoAttr(K:ZA)(C:ZE)(f:Str):Prop:=PySem.W.findIn K (.ref C) f=some none
def NoAttr.taker{K:ZA}{C:ZE}{f:Str}(n:NoAttr K C f):PySem.W.takerIn K C f=some none:=by
 unfold PySem.W.takerIn;rw[show PySem.W.findIn K (.ref C) f=some none from n];rfl
structure iD(K:ZA)(C:ZE)(m:Str)(f:ZE):Prop where
 at_:PySem.W.findIn K (.ref C) m=some (some (.ref f))
 fn:PySem.W.isFn K (.ref f)=true
 kp:PySem.W.keepIn K (.ref f)=true
section
variable{X:Cx}{pins:List (ZE×Obj)}{σ:St}{H:Hp}{s:ZB}{a C dx:ZE}{fs:List (Str×V)}{f:Str}{v:V}{A:ZG}{E:ZC->ZB->Prop}
def E8{b:Bool}{Q:ZC->ZB->Prop}(I:Inv X pins σ H s)(e:H a=some (.ins C dx fs))(c:Cls X.K C)(n:NoAttr X.K C f)(l:fs.lookup f=some v)
  (h:∀ u s',Inv X pins σ H s'->RelV v u->Q u s'):wpAny (model X.prog X.w) A (getAttr (.ref a) f b) Q E s:=by
 obtain⟨mA,O,r,_,_,_⟩:=qm I.hok e;obtain⟨u,hu,ru⟩:=RelO.some_of (v:=v) (o:=mA f) (by rw[<- l];exact r f)
 exact E3 I.kIn O (c.get f) c.hd n hu (E7 ru) (h u _ (I.tok _) ru)
def x9{m:Str}{g:ZE}{pl:Sem Bool}{Q:ZC×List ZC->ZB->Prop}(I:Inv X pins σ H s)(e:H a=some (.ins C dx fs))(c:Cls X.K C)(k:iD X.K C m g)(l:fs.lookup m=none)
  (h:Q (.ref g,[.ref a]) s):wpAny (model X.prog X.w) A (getMethod (.ref a) m pl) Q E s:=by
 obtain⟨mA,O,r,_,_,_⟩:=qm I.hok e;have hn:mA m=none:=RelO.none_of (by rw[<- l];exact r m)
 exact E4 I.kIn O (c.get m) k.at_ k.fn hn h
def E9{y:V}{u:ZC}{Q:Unit->ZB->Prop}(I:Inv X pins σ H s)(e:H a=some (.ins C dx fs))(c:Cls X.K C)(n:NoAttr X.K C f)(hl:fs.length<1000)(ry:RelV y u)
  (h:∀ s',Inv X pins σ (upd H a (.ins C dx (bA f y fs))) s'->Q () s'):wpAny (model X.prog X.w) A (setAttr (.ref a) f u) Q E s:=by
 obtain⟨mA,O,r,wi,_,ho⟩:=qm I.hok e;have hz:(fs.map (·.1)).length<=sizeLine:=by rw[Oh,sizeLine_eq];lia
 refine E5 I.kIn O c.sa c.po n.taker c.hd wi hz λh' O' sb=>h _ ?_
 have hd:∃ o,h'.get? dx=some o:=let ⟨o,_,_,e',_⟩:=O'.ns;⟨o,e'⟩
 refine I.write (x:=a) (e:=dx) (by rw[e];exact True.intro) (.inr ho) (λb q hb z=>(sb.2 b hb).trans z) hd ?_
 refine⟨by rw[bg O.ne];exact ho,?_,O.ne,O'.obj,_,O'.ns,λg=>?_,λg hg=>?_⟩
 ·have:=x8 f y fs;lia
 ·show RelO ((bA f y fs).lookup g) (if g=f then some u else mA g)
  rw[ql];by_cases q:g=f
  ·rw[Of q,Of q];exact ry
  ·rw[Og q,Og q];exact r g
 ·by_cases q:g=f
  ·rw[q];exact(t8 f y fs).1
  ·refine(t8 f y fs).2 g (wi g λz=>hg ?_)
   show (if g=f then some u else mA g)=none
   rw[Og q];exact z
def Inv.made(I:Inv X pins σ H s):Inv X pins σ (upd (upd H s.heap.objs.size (.own (s.heap.objs.size+1))) (s.heap.objs.size+1) (.ins C s.heap.objs.size []))
  { s with heap:=(s.heap.push PySem.W.emptyDict).push (PySem.W.instObj C s.heap.objs.size) }:=by
 have e1:(s.heap.push PySem.W.emptyDict).get? s.heap.objs.size=some PySem.W.emptyDict:=Os s.heap rfl;have e2:((s.heap.push PySem.W.emptyDict).push (PySem.W.instObj C s.heap.objs.size)).get? (s.heap.objs.size+1)=some (PySem.W.instObj C s.heap.objs.size):=by
  have:=Os (s.heap.push PySem.W.emptyDict) (o:=PySem.W.instObj C s.heap.objs.size) rfl;rwa[R4] at this
 have e3:(s.heap.push PySem.W.emptyDict).Ns s.heap.objs.size (λ_=>none):=⟨PySem.W.emptyDict,#[],_,e1,rfl,(λe he=>absurd he 's'),λ_=>rfl⟩
 have I1:=I.laid (a:=s.heap.objs.size) (o:=.own (s.heap.objs.size+1)) (h':=s.heap.push PySem.W.emptyDict) (t':=s.toks) (λb u q=>Oe _ q) (Oa _) ⟨_,e1⟩;refine I1.laid (a:=s.heap.objs.size+1) (o:=.ins C s.heap.objs.size []) (t':=s.toks) (λb u q=>Oe _ q) (RB (R4 _ _)) ?_
 have ne:s.heap.objs.size≠s.heap.objs.size+1:=OJ (PX _);refine⟨by rw[bg ne,dQ],OH _,ne,e2,λ_=>none,(Heap.Ns1.of_empty e3).at λo q=>Oe _ q,λ_=>True.intro,λy hy=>absurd rfl hy⟩
def Fb{prog:ZD}{w:ZF}{env:Env}{e:Expr}{f:Str}{pos:Pos}{s:ZB}{Q:ZC->ZB->Prop}(hb:attributeBase e f env (eval e env)=eval e env)
  (h:wpAny (model prog w) A (eval e env) (λo s₁=>wpAny (model prog w) A (getAttr o f true) Q E s₁) E s):wpAny (model prog w) A (eval (.Attribute e f pos) env) Q E s :=(
 Attribute_any_ h (by rw[arm_eval_Attribute,hb]))
end
def t9(K:ZA)(ta:TE)(f:Str):TE:=λσ H Q=>ta σ H λx H1=>∃ a C dx fs v,x=.ref a/\H1 a=some (.ins C dx fs)/\Cls K C/\NoAttr K C f/\fs.lookup f=some v/\Q v H1
def sFld(K:ZA)(ta tv:TE)(f:Str):TS:=λD σ H=>tv σ H λy H1=>ta σ H1 λx H2=>∃ a C dx fs,x=.ref a/\H2 a=some (.ins C dx fs)/\Cls K C/\NoAttr K C f/\fs.length<1000 /\
 D.nx σ (upd H2 a (.ins C dx (bA f y fs)))
section
variable{X:Cx}{o e value:Expr}{f:Str}{pos pos' tpos:Pos}{ta tv:TE}
def Fc(he:PE X e ta)(hb:attributeBase e f X.env (eval e X.env)=eval e X.env):PE X (.Attribute e f pos) (t9 X.K ta f):=by
 intro pins s σ H Q I h;refine Fb hb (thn (he pins s σ H _ I h) λu s1 Zz=>?_);obtain⟨x,H1,I1,rx,a,C,dx,fs,v,ex,ea,c,n,l,q⟩:=Zz
 subst ex;obtain rfl:u=Value.ref a:=rx
 exact E8 I1 ea c n l λu' s2 I2 ru=>⟨v,H1,I2,ru,q⟩
def Fd(ha:PE X o ta)(hv:PE X value tv)(hs:swapsWith value (some (.Attribute o f pos')) pos.line X.env=pure false):PS X (.Assign [.Attribute o f pos'] value pos) (sFld X.K ta tv f):=by
 intro pins s σ H D I h;refine plainObj_wpAny_Assign_Attribute (thn (hv pins s σ H _ I h) λu s1 ⟨y,H1,I1,ry,q⟩=>thn (ha pins s1 σ H1 _ I1 q) λov s2 Zz=>?_) hs;obtain⟨x,H2,I2,rx,a,C,dx,fs,ex,ea,c,n,l,q2⟩:=Zz
 subst ex;obtain rfl:ov=Value.ref a:=rx
 exact E9 I2 ea c n l ry λs3 I3=>⟨σ,_,I3,q2⟩
end
section
variable{X:Cx}{pins:List (ZE×Obj)}{σ:St}{H:Hp}{s:ZB}{A:ZG}{E:ZC->ZB->Prop}{Q:ZC->ZB->Prop}{c:ZC}{b:Bool}
inductive cP (K:ZA) (H:Hp):V->ZC->Prop where
 |non:cP K H .non (.type "NoneType")
 |bl (x:Bool):cP K H (.bl x) (.type "bool")
 |int (i:Int):cP K H (.int i) (.type "int")
 |str (x:Str):cP K H (.str x) (.type "str")
 |flt (x:UInt64):cP K H (.flt x) (.type "float")
 |lst {a:ZE} {xs:List V} (e:H a=some (.lst xs)):cP K H (.ref a) (.type "list")
 |frz {a:ZE} {o:Obj} {xs:List V} (e:H a=some (.frz o (.lst xs))):cP K H (.ref a) (.type "list")
 |tup {a:ZE} {xs:List V} (e:H a=some (.tup xs)):cP K H (.ref a) (.type "tuple")
 |dK {a:ZE} {kvs:List (aJ×V)} (e:H a=some (.dK kvs)):cP K H (.ref a) (.type "dict")
 |dT {a:ZE} {xc:Option (List ZE)} {kvs:List (List aJ×V)} (e:H a=some (.dT xc kvs)):cP K H (.ref a) (.type "dict")
 |ins {a C dx:ZE} {fs:List (Str×V)} (e:H a=some (.ins C dx fs)) (cl:Cls K C) (ha:PySem.W.findIn K (.ref C) "__class__"=some (some (.builtin "object.__class__")))
   (hn:PySem.W.specialIn K (.builtin "object.__class__") "__get__"=some (some (.builtin "getset_descriptor.__get__"))) (htk:PySem.W.takesIn K (.builtin "object.__class__")=some true)
   (hm:PySem.W.mroIn K C (.type "object")=some true):cP K H (.ref a) (.ref C)
def Fe{x:V}{u t:ZC}(I:Inv X pins σ H s)(rx:RelV x u)(ty:cP X.K H x t)(e:PySem.W.kitOne X.K t c=some b)(h:∀ tk,Q (.bool b) { s with toks:=tk }) :
  wpAny (model X.prog X.w) A (call (.builtin "isinstance") [u,c]) Q E s:=by
 cases ty with
 |non=>cases (show u=Value.none from rx);exact O5 PySem.W.kitx_none I.kIn True.intro e (λz=>nomatch z) h
 |bl y=>cases (show u=Value.bool y from rx);exact O5 PySem.W.kitx_bool I.kIn True.intro e (λz=>nomatch z) h
 |int i=>obtain⟨t,q⟩:=(show ∃ t,u=Value.int i t from rx);cases q;exact O5 PySem.W.kitx_int I.kIn True.intro e (λz=>nomatch z) h
 |str y=>obtain⟨t,q⟩:=(show ∃ t,u=Value.str y t from rx);cases q;exact O5 PySem.W.kitx_str I.kIn True.intro e (λz=>nomatch z) h
 |flt y=>obtain⟨t,q⟩:=(show ∃ t,u=Value.float y t from rx);cases q;exact O5 PySem.W.kitx_float I.kIn True.intro e (λz=>nomatch z) h
 |@lst a xs ea =>
  cases (show u=Value.ref a from rx)
  obtain⟨_,_,n,_,h1⟩:=(show ObjOk X.prog X.w H s.heap a (.lst xs) from I.hok a _ ea)
  exact O5 Q9 I.kIn ⟨_,h1,rfl⟩ e (λz=>nomatch z) h
 |@frz a ob xs ea =>
  cases (show u=Value.ref a from rx)
  obtain⟨_,_,_,n,_,h1⟩:=(show ObjOk X.prog X.w H s.heap a (.frz ob (.lst xs)) from I.hok a _ ea)
  exact O5 Q9 I.kIn ⟨_,h1,rfl⟩ e (λz=>nomatch z) h
 |@tup a xs ea =>
  cases (show u=Value.ref a from rx)
  obtain⟨_,_,_,p⟩:=(show ObjOk X.prog X.w H s.heap a (.tup xs) from I.hok a _ ea)
  obtain⟨o,h1,h2,_⟩:=p;exact O5 PySem.W.kitx_tuple I.kIn ⟨o,h1,h2⟩ e (λz=>nomatch z) h
 |@dK a kvs ea =>
  cases (show u=Value.ref a from rx)
  obtain⟨_,_,vs,_,p⟩:=(show ObjOk X.prog X.w H s.heap a (.dK kvs) from I.hok a _ ea)
  obtain⟨o,es,ep,h1,h2,_⟩:=p;exact O5 SO I.kIn ⟨o,h1,h2.1⟩ e (λz=>nomatch z) h
 |@dT a xc kvs ea =>
  cases (show u=Value.ref a from rx)
  obtain⟨_,_,xs,_,o,es,ep,h1,h2,_⟩:=(show ObjOk X.prog X.w H s.heap a (.dT xc kvs) from I.hok a _ ea)
  exact O5 SO I.kIn ⟨o,h1,h2.1⟩ e (λz=>nomatch z) h
 |@ins a C dx fs ea cl ha hn htk hm =>
  cases (show u=Value.ref a from rx)
  obtain⟨mA,O,_⟩:=qm I.hok ea;obtain⟨od,J,_⟩:=O.look;exact O5 (PySem.W.kitx_own (cl.get _) cl.hd ha hn htk hm) I.kIn J e (λz=>nomatch z) h
end
structure Room(k:Nat)(A:ZG):Prop where
 hd:A.handled=none
 dp:A.depth+3*k+5<recursionLimit
 un:A.units+16*k+200<cLine
def Room.mono{j k:Nat}{A:ZG}(r:Room k A)(h:j<=k):Room j A:=(⟨r.hd,by have:=r.dp;lia,by have:=r.un;lia⟩)
def Room.deeper{k:Nat}{A:ZG}(r:Room (k+1) A)(env:Env):Room k (A.deeper env) :=(
 ⟨r.hd,by have:=r.dp;show A.depth+1+3*k+5<_;lia,by have:=r.un;show A.units+3+16*k+200<_;lia⟩)
def Ff{A:ZG}{C:ZE}{us:List ZC}{kw:List (Str×ZC)}:(A.under (.builtin "type.__call__" ⟨.ref C::us,kw⟩)).depth=A.depth+1:=by
 first|rfl|simp[Around.under,Code.weight,Code.isCreation,Code.isGuard,Code.isCaller,Code.frames,Code.isFrame,guardIds]
def Fg{A:ZG}{C:ZE}{us:List ZC}{kw:List (Str×ZC)}:(A.under (.builtin "type.__call__" ⟨.ref C::us,kw⟩)).units=A.units+1:=by
 first|rfl|simp[Around.under,Code.cUnits,Code.frames,Code.isFrame]
def Room.make{k:Nat}{A:ZG}(r:Room (k+1) A)(C:ZE)(us:List ZC)(kw:List (Str×ZC)):Room k (A.under (.builtin "type.__call__" ⟨.ref C::us,kw⟩)) :=(
 ⟨r.hd,by have:=r.dp;rw[Ff];lia,by have:=r.un;rw[Fg];lia⟩)
def Room.depth{k:Nat}{A:ZG}(r:Room k A):A.depth<recursionLimit:=by have:=r.dp;lia
def ua:TA:=λ_ H Q=>Q [] H
def Fi(ta:TE)(tr:TA):TA:=λσ H Q=>ta σ H λx H1=>tr σ H1 λxs H2=>Q (x::xs) H2
section
variable{X:Cx}{e:Expr}{es:List Expr}{te:TE}{t:TA}{pos:Pos}
def oa:PA X [] ua:=(λ_ _ _ _ H Q I h=>QA ⟨[],H,I,.nil,h⟩)
def jV(ha:PE X e te)(hr:PA X es t)(hs:‹qE1 e es X.env›):PA X (e::es) (Fi te t):=by
 intro pos pins s σ H Q I h;rw[hs];show wpAny _ _ (spliced ((false,eval e X.env)::backTo pos (starEach es X.env))) _ _ s
 refine P2 (thn (ha pins s σ H _ I h) λu s1 Zz=>?_);obtain⟨x,H1,I1,r1,q1⟩:=Zz
 exact thn (hr pos pins s1 σ H1 _ I1 q1) λus s2 ⟨xs,H2,I2,r2,q2⟩=>⟨x::xs,H2,I2,.cons r1 r2,q2⟩
def ub(t:TA):TE:=λσ H Q=>t σ H λxs H1=>xs.length<=sizeLine/\∀ p,H1 p=none->Q (.ref p) (upd H1 p (.tup xs))
def uc(t:TA):TE:=λσ H Q=>t σ H λxs H1=>xs.length<=sizeLine/\∀ p,H1 p=none->Q (.ref p) (upd H1 p (.lst xs))
def Fj{x1}(h:PA X es t):PE X (.Tuple es x1 pos) (ub t):=by
 intro pins s σ H Q I hq;refine wpAny_Tuple_spliced (thn (h pos pins s σ H _ I hq) λus s1 ⟨xs,H1,I1,r,z,q⟩=>⟨by rw[<- r.length];exact z,?_⟩)
 have hf:H1 s1.heap.objs.size=none:=I1.hok.fresh (Oa _);refine⟨.ref s1.heap.objs.size,upd H1 s1.heap.objs.size (.tup xs),I1.laid (t':=s1.toks) (λb u e=>Oe _ e) (Oa _) ?_,rfl,q _ hf⟩
 exact⟨z,us,r,⟨_,Os _ rfl,rfl,_,rfl⟩⟩
def ud(h:PA X es t):PE X (.List es pos) (uc t):=by
 intro pins s σ H Q I hq;refine wpAny_List_spliced (thn (h pos pins s σ H _ I hq) λus s1 ⟨xs,H1,I1,r,z,q⟩=>⟨by rw[<- r.length];exact z,?_⟩)
 have hf:H1 s1.heap.objs.size=none:=I1.hok.fresh (Oa _);refine⟨.ref s1.heap.objs.size,upd H1 s1.heap.objs.size (.lst xs),I1.laid (t':=s1.toks) (λb u e=>Oe _ e) (Oa _) ?_,rfl,q _ hf⟩
 exact⟨z,us,0,r,Os _ rfl⟩
end
abbrev Sp:=List V->Hp->VK->XK->Prop
abbrev fR:=List Env->Hp->ZB->XK->ZC->ZB->Prop
structure Env0(P:ZD)(w:ZF)(K:ZA)(mg:Str->Option ZC)(base:Heap)(A:ZG)(outer:List Env)(s:ZB)(H:Hp):Prop where
 frames:A.frames=some outer
 mod:Mod K mg base
 bs:∀ b o,base.get? b=some o->s.heap.get? b=some o/\H b=none
 bsz:base.objs.size<=s.heap.objs.size
 funs:s.heap.FunFrames base outer
 frf:∀ b∈d7 outer,H b=none
 hok:HOk P w H s.heap
 bare:AllBare s.gens
def CE(outer:List Env)(P:ZD)(w:ZF)(H:Hp)(s:ZB)(Q:VK)(u:ZC)(s':ZB):Prop :=
 ∃ v H',s'.os=s.os/\AllBare s'.gens/\Un (d7 outer) [] H H' s.heap s'.heap/\HOk P w H' s'.heap/\RelV v u/\Q v H'
def CR(CX:fR)(outer:List Env)(P:ZD)(w:ZF)(H:Hp)(s:ZB)(Q:VK)(E:XK)(r:Result)(s':ZB):Prop :=
 match r with
 |.ok (.ret u)=>CE outer P w H s Q u s'
 |.ok _=>False
 |.error e=>CX outer H s E e s'
structure FnOk(P:ZD)(w:ZF)(K:ZA)(mg:Str->Option ZC)(base:Heap)(CX:fR)(k:Nat)(f:ZE)(fd:FuncData)(ps:List Str)(sp:Sp):Prop where
 len:∀ vs H Q E,sp vs H Q E->vs.length=ps.length
 run:∀ (A:ZG) (outer:List Env) (s:ZB) (H:Hp) (args:Args) (us:List ZC) (vs:List V) (Q:VK) (E:XK),Room k A->Env0 P w K mg base A outer s H->BindsTo s fd args (ps.zip us)->Vals vs us->sp vs H Q E ->
  codeAny (model P w) A (.call (.ref f) args) (CR CX outer P w H s Q E) s
def FnOk.imp{P:ZD}{w:ZF}{K:ZA}{mg:Str->Option ZC}{base:Heap}{CX:fR}{k:Nat}{f:ZE}{fd:FuncData}{ps:List Str}{sp sp':Sp}(F:FnOk P w K mg base CX k f fd ps sp)
  (h:∀ vs H Q E,sp' vs H Q E->sp vs H Q E):FnOk P w K mg base CX k f fd ps sp' :=(
 ⟨λvs H Q E q=>F.len vs H Q E (h _ _ _ _ q),λA outer s H args us vs Q E hr he hb hv hs=>F.run A outer s H args us vs Q E hr he hb hv (h _ _ _ _ hs)⟩)
def Env0.make{P:ZD}{w:ZF}{K:ZA}{mg:Str->Option ZC}{base:Heap}{A:ZG}{outer:List Env}{s:ZB}{H:Hp}(e:Env0 P w K mg base A outer s H)(C:ZE)(us:List ZC)(kw:List (Str×ZC)) :
  Env0 P w K mg base (A.under (.builtin "type.__call__" ⟨.ref C::us,kw⟩)) outer s H:=(⟨by first|exact e.frames|(simpa[Around.under,Code.envs,Code.isFrame,pushEnvs] using e.frames),e.mod,e.bs,e.bsz,e.funs,e.frf,e.hok,e.bare⟩)
section
variable{X:Cx}{pins:List (ZE×Obj)}{σ:St}{H:Hp}{s s':ZB}
def Inv.env0(I:Inv X pins σ H s):Env0 X.prog X.w X.K X.mg X.base X.A X.stack s H :=(
 ⟨I.ok.frames,I.ok.mod,I.bs,Oc I.ok.bsz I.sz,I.stack,I.stkFree,I.hok,I.bare⟩)
def Inv.after{Q:VK}{u:ZC}(I:Inv X pins σ H s)(h:CE X.stack X.prog X.w H s Q u s'):EP X pins σ Q u s':=by
 obtain⟨v,H',os,bare,un,hok,r,q⟩:=h;obtain⟨hh,g,d,t,os'⟩:=s';obtain rfl:os'=s.os:=os;exact⟨v,H',I.call (h':=hh) (g':=g) (d':=d) (t':=t) (ch:=[]) un hok bare (λb z=>absurd z 's'),r,q⟩
end
def Binds(K:ZA)(fd:FuncData)(ps:List Str)(ds:List ZC):Prop :=
 ∀ (s:ZB) (us:List ZC),K.In s.heap->(us++ds).length=ps.length->BindsTo s fd ⟨us,[]⟩ (ps.zip (us++ds))
def Binds.all{K:ZA}{fd:FuncData}{ps:List Str}(h:∀ us:List ZC,us.length=ps.length->bindArgs fd ⟨us,[]⟩=pure (ps.zip us)):Binds K fd ps []:=(λs us _ hl=>by
 rw[Qo] at hl ⊢;exact .of_eq (h us hl))
def Fk(CX:fR)(X:Cx)(E:XK):Prop:=∀ (pins:List (ZE×Obj)) (σ:St) (H:Hp) (s:ZB) (e:ZC) (s':ZB),Inv X pins σ H s->CX X.stack H s E e s'->X.xe e s'
section
variable{X:Cx}{CX:fR}{k:Nat}{f C:ZE}{fd:FuncData}{ps:List Str}{sp:Sp}{dvs:List V}{ds:List ZC}{E:XK}{x m:Str}{p pos apos:Pos}{e o:Expr}{es:List Expr}{ta:TE}{t:TA}
structure Mk(K:ZA)(C f:ZE):Prop where
 makes:PySem.W.makesIn K C=true
 init:PySem.W.findIn K (.ref C) "__init__"=some (some (.ref f))
 fn:PySem.W.isFn K (.ref f)=true
 kp:PySem.W.keepIn K (.ref C)=true
end
section
variable{X:Cx}{CX:fR}{k:Nat}{f C:ZE}{fd:FuncData}{ps ks:List Str}{sp:Sp}{E:XK}{x m:Str}{p pos apos kpos:Pos}{e o:Expr}{es:List Expr}{kws:List Keyword}{te ta:TE}{t tk:TA}{nm:Option Str}
variable{g:List ZC->List ZC->List ZC}{gV:List V->List V->List V}
end
structure aE(N P:List Str)(sc:Scope):Prop where
 kind:sc.kind=.function
 co:sc.isCoroutine=false
 gen:sc.isGenerator=false
 nd:N.Nodup
 pre:N.take P.length=P
 par:∀ x∈P,sc.names.lookup x=some .local\/sc.names.lookup x=some .cell
 nofree:∀ y∈sc.names,y.2 ≠ .free
theorem ya{kindOf:Str->Option NameKind}{x:Str}:∀ {binds:List (Str×ZC)} {m:Str->Option ZC},(∀ v,(x,v)∉binds)->bindL kindOf binds m x=m x
 |[],_,_=>rfl
 |(n,v)::r,m,h=>by
  unfold bindL;rw[ya λw hw=>h w (OK _ hw)];split
  ·have:x≠n:=by rintro rfl;exact h v O0
   simp[this]
  ·rfl
theorem yb{kindOf:Str->Option NameKind}{x:Str}:∀ {binds:List (Str×ZC)} {m:Str->Option ZC},(∀ v,(x,v)∉binds)->bindC kindOf binds m x=m x
 |[],_,_=>rfl
 |(n,v)::r,m,h=>by
  unfold bindC;rw[yb λw hw=>h w (OK _ hw)];split
  ·rfl
  ·have:x≠n:=by rintro rfl;exact h v O0
   simp[this]
theorem yc{kindOf:Str->Option NameKind}{x:Str}{v:ZC}:∀ {P:List Str} {vs:List ZC} {i:Nat} {m:Str->Option ZC},P.Nodup->P[i]?=some x->vs[i]?=some v->kindOf x=some .local ->
  bindL kindOf (P.zip vs) m x=some v
 |[],_,_,_,_,h,_,_=>by simp at h
 |_::_,[],_,_,_,_,h,_=>by simp at h
 |p::P,w::vs,0,m,nd,h1,h2,hk=>by
  simp at h1 h2;subst h1;subst h2
  show bindL kindOf ((p,w)::P.zip vs) m p=_
  unfold bindL;rw[ya λv hv=>(O1.mp nd).1 (RO hv).1,Of hk];simp
 |p::P,w::vs,i+1,m,nd,h1,h2,hk=>by
  show bindL kindOf ((p,w)::P.zip vs) m x=_
  unfold bindL;exact yc (i:=i) (O1.mp nd).2 (by simpa using h1) (by simpa using h2) hk
theorem yd{kindOf:Str->Option NameKind}{x:Str}{v:ZC}:∀ {P:List Str} {vs:List ZC} {i:Nat} {m:Str->Option ZC},P.Nodup->P[i]?=some x->vs[i]?=some v->kindOf x≠some .local ->
  bindC kindOf (P.zip vs) m x=some v
 |[],_,_,_,_,h,_,_=>by simp at h
 |_::_,[],_,_,_,_,h,_=>by simp at h
 |p::P,w::vs,0,m,nd,h1,h2,hk=>by
  simp at h1 h2;subst h1;subst h2
  show bindC kindOf ((p,w)::P.zip vs) m p=_
  unfold bindC;rw[yb λv hv=>(O1.mp nd).1 (RO hv).1,Og hk];simp
 |p::P,w::vs,i+1,m,nd,h1,h2,hk=>by
  show bindC kindOf ((p,w)::P.zip vs) m x=_
  unfold bindC;exact yd (i:=i) (O1.mp nd).2 (by simpa using h1) (by simpa using h2) hk
def start(N:List Str)(vs:List V):St:=vs.map some++List.replicate (N.length-vs.length) none
def bY(CX:fR)(P:ZD)(w:ZF)(K:ZA)(mg:Str->Option ZC)(base:Heap)(N:List Str)(qual:Str)(scope:Scope)(f:ZE)(cd:ZC)(A:ZG)(outer:List Env)(s:ZB)(H:Hp)(E:XK):Cx where
 prog:=P
 w:=w
 K:=K
 mg:=mg
 base:=base
 A:=A.deeper (envOfC qual scope s.heap.objs.size f cd)
 N:=N
 s₀:=s
 H₀:=H
 env:=envOfC qual scope s.heap.objs.size f cd
 outer:=outer
 stack:=envOfC qual scope s.heap.objs.size f cd::outer
 ex:=[]
 calm:=true
 fn:=λ_=>true
 pn:=[]
 xe:=λe s'=>wpAny (model P w) (A.deeper (envOfC qual scope s.heap.objs.size f cd)) (leaving (envOfC qual scope s.heap.objs.size f cd) e) (λ_ s''=>CX outer H s E e s'') (λe' s''=>CX outer H s E e' s'') s'
def ye{sc:Scope}{n:Nat}{x:Str}(h:sc.names.lookup x=some .cell):∃ c,(cellsFrom n sc.names []).lookup x=some c:=by
 have q:=RC sc.names n [] (.inl h);exact Oz.mp q
def Fl{CX:fR}{P:ZD}{w:ZF}{K:ZA}{mg:Str->Option ZC}{base:Heap}{N ps:List Str}{qual:Str}{scope:Scope}{f:ZE}{cd:ZC}{A:ZG}{outer:List Env}{s s1:ZB}{H:Hp}{E:XK}{us:List ZC}{vs:List V}
  (S:aE N ps scope)(hd:A.handled=none)(e0:Env0 P w K mg base A outer s H)(hl:vs.length=ps.length)(r:Vals vs us)
  (x:InCallC s s.heap.objs.size (bindL (envOfC qual scope s.heap.objs.size f cd).kindOf (ps.zip us) λ_=>none) (cellsFrom (s.heap.objs.size+1) scope.names []) (bindC (envOfC qual scope s.heap.objs.size f cd).kindOf (ps.zip us) λ_=>none) s1) :
  Inv (bY CX P w K mg base N qual scope f cd A outer s H E) [] (start N vs) H s1:=by
 have hpl:ps.length<=N.length:=by have:=congrArg List.length S.pre;rw[OX] at this;omega
 obtain⟨h1,tk,rfl,hk⟩:=x.done;have noA:∀ b:ZE,b∉(bY CX P w K mg base N qual scope f cd A outer s H E).ex:=λb z=>absurd (show b∈([]:List ZE) from z) 's'
 refine⟨⟨e0.mod,S.kind,rfl,rfl,Oa _,λy z c h1 h2=>?_,λy hy=>?_,λy c _ h=>?_,λ_=>hd,Around.frames_deeper e0.frames,.inr ⟨rfl,rfl⟩,λb z=>absurd z (noA b),e0.bs,e0.bsz,λb _ _=>noA b,λb z=>absurd z (noA b),e0.funs,e0.frf⟩,
  rfl,e0.bare,Un.kept hk,⟨_,x.toInCall.ns,λi y v h1 h2 h3=>?_⟩,λy c h=>⟨_,x.cell y c h⟩,e0.hok.fresh (Oa _),λy c h=>?_,λp hp=>absurd (show p∈([]:List (ZE×Obj)) from hp) 's',e0.hok.kept hk,?_⟩
 ·exact name_of_addr x.apart (Pl h1) (Pl h2)
 ·have hy:scope.names.lookup y=some .cell\/scope.names.lookup y=some .free:=hy
  rcases hy with hy|hy
  ·exact ye hy
  ·exact absurd rfl (S.nofree _ (Pl hy))
 ·exact Qz (x.above y c (Pl h))
 ·have hi:i<vs.length:=by
   unfold start at h2;by_cases hi:i<vs.length
   ·exact hi
   ·rw[Oy (by simpa using hi)] at h2
    rw[Pv] at h2;split at h2<;>cases h2
  have ha:vs[i]?=some v:=by
   unfold start at h2;rw[Oj (by simpa using hi),OI] at h2
   cases e:vs[i]? with
   |none=>rw[e] at h2;cases h2
   |some a=>rw[e] at h2;cases h2;rfl
  obtain⟨u,hu,rv⟩:=r.get ha;have hp:ps[i]?=some y:=by
   rw[<- S.pre,List.getElem?_take_of_lt (by omega)];exact h1
  have ndP:ps.Nodup:=by rw[<- S.pre];exact S.nd.sublist (List.take_sublist _ _)
  refine⟨u,rv,?_⟩
  rcases S.par y (OE hp) with k|k
  ·exact .inl ⟨k,yc ndP hp hu k⟩
  ·obtain⟨c,e⟩:=ye (n:=s.heap.objs.size+1) k
   refine .inr ⟨.inl k,c,e,?_⟩
   have q:=x.cell y c e;rw[yd ndP hp hu (by show scope.names.lookup y≠_;rw[k];decide)] at q;exact q
 ·exact e0.hok.fresh (Qz (x.above y c (Pl h)))
 ·unfold start
  show _=N.length
  rw[OP,Oh,O8];omega
def Fm{CX:fR}{P:ZD}{w:ZF}{K:ZA}{mg:Str->Option ZC}{base:Heap}{k:Nat}{f:ZE}{name qual:Str}{params:Arguments}{body:List Stmt}{scope:Scope}{dV kV doc pm cdv ct oc:ZC}{an od:Option ZE}
  {osl:Array (Option ZC)}{N ps:List Str}{sp:Sp}(lk:K.lookup f=some ⟨oc,od,.func (PySem.W.fnOf name qual params body scope dV kV doc pm an cdv ct),osl⟩)(hcd:PySem.W.codeIn K cdv qual=true)(S:aE N ps scope)
  (len:∀ vs H Q E,sp vs H Q E->vs.length=ps.length)
  (hbody:∀ (A:ZG) (outer:List Env) (s:ZB) (H:Hp) (vs:List V) (Q:VK) (E:XK),Room k (A.deeper (envOfC qual scope s.heap.objs.size f cdv))->sp vs H Q E ->
   ∃ t,PSs (bY CX P w K mg base N qual scope f cdv A outer s H E) body t/\t { nx:=λ_ H'=>Q .non H',rt:=Q } (start N vs) H) :
  FnOk P w K mg base CX (k+1) f (PySem.W.fnOf name qual params body scope dV kV doc pm an cdv ct) ps sp:=by
 refine⟨len,λA outer s H args us vs Q E hr e0 hb r hsp=>?_⟩
 have hl:=len _ _ _ _ hsp;have KX:K.In s.heap:=e0.mod.kin.keeps λb o e=>(e0.bs b o e).1
 have lim:s.heap.NoLimit:=e0.mod.nolimit.keeps λb o e=>(e0.bs b o e).1
 have hkind:∀ y∈ps.zip us,scope.names.lookup y.1=some .local\/(scope.names.lookup y.1=some .cell/\((cellsFrom (s.heap.objs.size+1) scope.names []).lookup y.1).isSome=true):=λ⟨n,v⟩ hy=>by
  rcases S.par n (RO hy).1 with q|q
  ·exact .inl q
  ·exact .inr ⟨q,RC _ _ _ (.inl q)⟩
 refine codeAny_call_function hr.depth (KX _ _ lk) rfl S.co S.gen rfl (PySem.W.codeRec_of KX hcd) (hb _ _ _ _ ?_)
 refine wpAny_newFunctionEnv_cells S.kind hkind λenv he s1 x=>?_
 subst he;refine⟨lim.keeps x.toInCall.keep,codeAny_func ?_⟩
 obtain⟨t,ht,hq⟩:=hbody A outer s H vs Q E (hr.deeper _) hsp;have I:Inv (bY CX P w K mg base N qual scope f cdv A outer s H E) [] (start N vs) H s1:=Fl S hr.hd e0 hl r x;refine OV (ht [] s1 (start N vs) H _ I hq) (λfl s' hs=>?_) λe s' hs=>hs
 have fin:∀ {σ':St} {H':Hp} {v:V} {u:ZC},Inv (bY CX P w K mg base N qual scope f cdv A outer s H E) [] σ' H' s'->RelV v u->Q v H'->CE outer P w H s Q u s' :=
  λ{σ' H' v u} J rv q=>⟨v,H',J.os,J.bare,J.base,J.hok,rv,q⟩
 cases fl with
 |ret u =>
  obtain⟨v,σ',H',J,rv,q⟩:=hs;exact fin J rv q
 |next =>
  obtain⟨σ',H',J,q⟩:=hs;exact fin (v:=V.non) (u:=Value.none) J rfl q
 |brk =>
  obtain⟨_,_,_,q⟩:=hs;exact False.elim q
 |cont =>
  obtain⟨_,_,_,q⟩:=hs;exact False.elim q
section
variable{X:Cx}{x:Str}{p pos:Pos}{e:Expr}{es:List Expr}{t:TA}{id T:String}{r:List V->Hp->VK->Prop}
def ue(r:List V->Hp->VK->Prop)(t:TA):TE:=λσ H Q=>t σ H λvs H1=>r vs H1 Q
def qo (hc:CallR X (.builtin id) r) (hg:Gl X x) (hm:X.mg x=none) (hv:bootBuiltins x=some (.builtin id)) (ha:PA X (e::es) t) (hn:x ≠ "__name__" := by decide) (hdb:((x == ("__debug__" : Str))=false)⁻¹)
  (he:‹qE1 e es X.env›) (hpl:‹qF1 pos es X.env›):PE X (.Call (.Name x p) (e::es) [] pos) (ue r t):=by
 intro pins s σ H Q I h;refine Qw (mE I hg hm hv ?_ hn hdb)
 exact PyProof.Rows.callWith_builtin1 (thn (ha pos pins s σ H _ I h) λus s1 ⟨vs,H1,I1,r1,q1⟩=>hc pins s1 σ H1 vs us Q I1 r1 q1) he hpl
def Fo (hc:CallR X (.type T) r) (hg:Gl X x) (hm:X.mg x=none) (hv:bootBuiltins x=some (.type T)) (ha:PA X (e::es) t) (hn:x ≠ "__name__" := by decide) (hdb:((x == ("__debug__" : Str))=false)⁻¹)
  (he:‹qE1 e es X.env›) (hpl:‹qF1 pos es X.env›):PE X (.Call (.Name x p) (e::es) [] pos) (ue r t):=by
 intro pins s σ H Q I h;refine Qw (mE I hg hm hv ?_ hn hdb)
 exact PD (thn (ha pos pins s σ H _ I h) λus s1 ⟨vs,H1,I1,r1,q1⟩=>hc pins s1 σ H1 vs us Q I1 r1 q1) he hpl
end
end L2
namespace HT
open PySem PyProof.Rows
section
open PySem.SeqAt
open PySem.AutoSeq1 (wpAny_loadPart')
open PySem.MeetsSeq PySem.MeetsSeq2 PySem.MeetsSeq3
end
section
variable{prog:ZD}{w:ZF}{A:ZG}{E:ZC->ZB->Prop}{s:ZB}
def cat_tup {t b:ZE} {vs ws:List ZC} {Q:ZC->ZB->Prop} (ht:IsTup s.heap t vs.toArray) (hb:IsTup s.heap b ws.toArray) (hv:vs≠[])
  (h1:ws=[]->Q (.ref t) s) (h2:ws≠[]->Q (.ref s.heap.objs.size) { s with heap:=s.heap.push { cls:=.type "tuple",data:=.seq (vs++ws).toArray } })
  (hsz:vs.length+ws.length<=sizeLine):wpAny (model prog w) A (binaryOp .Add (.ref t) (.ref b)) Q E s:=by
 obtain⟨⟨cls,dd,data,sl⟩,ho,hc,n,hd⟩:=id ht;obtain⟨⟨cls2,dd2,data2,sl2⟩,ho2,hc2,n2,hd2⟩:=id hb;simp only at hc hd hc2 hd2
 subst hc hd hc2 hd2
 have e:vs.toArray++ws.toArray=(vs++ws).toArray:=by simp
 by_cases hw:ws=[]
 ·exact S9 ⟨_,ho,rfl⟩ ⟨_,ho2,rfl⟩ noFill_tuple_add seq_tuple_add RD Rl (Rh _ _)
   (tuple_addW1 t b vs.toArray ws.toArray n n2 dd dd2 sl sl2 (by simpa using hv) (by simp[hw])) ⟨ho,ho2,h1 hw⟩
 ·refine S9 ⟨_,ho,rfl⟩ ⟨_,ho2,rfl⟩ noFill_tuple_add seq_tuple_add RD Rl (Rh _ _)
   (tuple_addW2 t b vs.toArray ws.toArray n n2 dd dd2 sl sl2 (by simpa using hv) (by simpa using hw) (by rw[Oq,Oq];exact hsz)) ⟨ho,ho2,?_⟩
  rw[e];exact h2 hw
def sIx(n d:Nat):Option Int->Nat
 |none=>d
 |some v=>if v<0 then(v+(n:Int)).toNat else min v.toNat n
def sIx_none(n d:Nat):sIx n d none=d:=(rfl)
def sIx_nat(n d k:Nat):sIx n d (some (k:Int))=min k n:=by
 show (if (k:Int)<0 then((k:Int)+(n:Int)).toNat else min (k:Int).toNat n)=min k n
 rw[Og ⋯,SQ]
def sIx_le(n d:Nat)(hd:d<=n)(o:Option Int):sIx n d o<=n:=by
 cases o with
 |none=>exact hd
 |some v =>
  show (if v<0 then(v+(n:Int)).toNat else min v.toNat n)<=n
  by_cases hv:v<0
  ·rw[Of hv];lia
  ·rw[Og hv];exact Nat.min_le_right _ _
def yf(v:Int)(n d:Nat):(if v<0 then max (v+(n:Int)) 0 else min v (n:Int))=((sIx n d (some v):Nat):Int):=by
 show (if v<0 then max (v+(n:Int)) 0 else min v (n:Int))=(((if v<0 then(v+(n:Int)).toNat else min v.toNat n):Nat):Int)
 by_cases hv:v<0
 ·simp only[Of hv];lia
 ·simp only[Og hv];lia
def Fp(lo hi:Option Int)(n:Nat):Builtin.Slice.sliceAdjust lo hi 1 (n:Int)=(((sIx n 0 lo:Nat):Int),((sIx n n hi:Nat):Int)):=by
 have h1:¬ ((1:Int)<0):=by lia
 unfold Builtin.Slice.sliceAdjust;simp only[h1,Ti]
 refine Prod.ext ?_ ?_
 ·cases lo with
  |none=>rfl
  |some v=>exact yf v n 0
 ·cases hi with
  |none=>rfl
  |some v=>exact yf v n n
def Fq(i j:Nat):Builtin.Slice.slicePlaces (i:Int) (j:Int) 1=j-i:=by
 unfold Builtin.Slice.slicePlaces;have h1:(1:Int) > 0:=by lia
 simp only[h1,PM,Int.ediv_one]
 split<;>lia
def yg{v:ZC}{o:Option Int}{Q:Option Int->ZB->Prop}(p:IsPart v o)(h:Q o s):wpAny (model prog w) A (Builtin.Slice.slicePartIndex v) Q E s:=by
 cases p with
 |none=>exact slicePart_none h
 |int i t=>exact slicePart_int h
def Fs{sl:ZE}{vl vu:ZC}{lo hi:Option Int}{n:Nat}{Q:Int×Int×Nat->ZB->Prop}(hs:s.heap.IsSliceOf sl vl vu .none)(pl:IsPart vl lo)(pu:IsPart vu hi)
  (h:Q (((sIx n 0 lo:Nat):Int),1,sIx n n hi-sIx n 0 lo) s):wpAny (model prog w) A (Builtin.Slice.sliceApplied (.ref sl) (pure (n:Int))) Q E s:=by
 obtain⟨os,hos,hcs,hds⟩:=id hs;unfold Builtin.Slice.sliceApplied Builtin.Slice.sliceFields;refine N9 (N9 (Sf hos hds (x:=vl) rfl (N9 (Sf hos hds (x:=vu) rfl (N9 (Sf hos hds (x:=.none) rfl (Oi ?_)))))))
 refine N9 (slicePart_none ?_)
 show wpAny _ _ (if ((1:Int) == 0)=true then _ else _) _ _ s
 rw[Og 'd'];refine N9 (yg pl (N9 (yg pu (N9 (Oi ?_)))))
 show wpAny _ _ (match Builtin.Slice.sliceAdjust lo hi 1 (n:Int) with|(lo,hi)=>pure (lo,(1:Int),Builtin.Slice.slicePlaces lo hi 1)) _ _ s
 rw[Fp lo hi n];show wpAny _ _ (pure (((sIx n 0 lo:Nat):Int),(1:Int),Builtin.Slice.slicePlaces ((sIx n 0 lo:Nat):Int) ((sIx n n hi:Nat):Int) 1)) _ _ s
 rw[Fq];exact Oi h
def Ft(xs:Array ZC)(i k:Nat):((List.range k).filterMap λ(m:Nat)=>xs[((i:Int)+(m:Int)*1).toNat]?).toArray=((xs.toList.drop i).take k).toArray:=by
 have e:(λ(m:Nat)=>xs[((i:Int)+(m:Int)*1).toNat]?)=λm=>xs[i+m]?:=by
  funext m
  have:((i:Int)+(m:Int)*1).toNat=i+m:=by lia
  rw[this]
 rw[e];have:=pick_run xs i k
 rw[QY] at this;have e2:((λx=>xs[x]?) ∘ λx=>i+x)=λm=>xs[i+m]?:=rfl
 rw[e2] at this;rw[this]
def getItem_tuple_cut {t sl:ZE} {items:Array ZC} {vl vu:ZC} {lo hi:Option Int} {Q:ZC->ZB->Prop} (ht:IsTup s.heap t items) (hs:s.heap.IsSliceOf sl vl vu .none) (pl:IsPart vl lo) (pu:IsPart vu hi)
  (hw:¬ (sIx items.size 0 lo=0/\sIx items.size items.size hi=items.size))
  (h:Q (.ref s.heap.objs.size) { s with heap:=s.heap.push { cls:=.type "tuple",data:=.seq ((items.toList.drop (sIx items.size 0 lo)).take (sIx items.size items.size hi-sIx items.size 0 lo)).toArray } })
  (hsz:items.size<=sizeLine):wpAny (model prog w) A (getItem (.ref t) (.ref sl)) Q E s:=by
 have htake:sizeOk (.seq ((items.toList.drop (sIx items.size 0 lo)).take (sIx items.size items.size hi-sIx items.size 0 lo)).toArray):=by
  show ((items.toList.drop (sIx items.size 0 lo)).take (sIx items.size items.size hi-sIx items.size 0 lo)).toArray.size<=sizeLine
  rw[Oq,OX,Pq,PC];omega
 have hj:sIx items.size items.size hi<=items.size:=sIx_le _ _ (Oa _) hi;obtain⟨os,hos,hcs,hds⟩:=id hs;have hTs:s.TypeIs (.ref sl) "slice" := ⟨os,hos,hcs⟩;unfold getItem;try with_reducible refine OZ ?_
 first|refine N9 (Oi ?_)|skip
 refine N9 (Ta ht.typeIs 'd' ?_)
 refine N9 (Ry (name:=Str.ofString "__getitem__") ht.typeIs QH
  (Pj QH ht.typeIs entry_tuple_getitem ?_ (args_tuple_getitem _ _)))
 show wpAny _ _ (Builtin.Tuple.tupleItemsOf (.ref t) >>= _) _ _ s
 refine N9 (tupleItemsOf_ ht ?_)
 refine N9 (wpAny_typeOf hTs ?_)
 rw[Of 'd'];refine N9 (Fs hs pl pu ?_)
 have hno:¬ ((((sIx items.size 0 lo:Nat):Int) == 0 && (1:Int) == 1 && (sIx items.size items.size hi-sIx items.size 0 lo) == items.size)=true):=by
  intro q;rw[OT,OT] at q;have q1:((sIx items.size 0 lo:Nat):Int)=0:=Rz q.1.1
  have q2:sIx items.size items.size hi-sIx items.size 0 lo=items.size:=Rz q.2;exact hw ⟨by omega,by omega⟩
 show wpAny _ _ (if (((sIx items.size 0 lo:Nat):Int) == 0 && (1:Int) == 1 && (sIx items.size items.size hi-sIx items.size 0 lo) == items.size)=true then _ else _) _ _ s
 rw[Og hno,Ft];first
  |exact N9 (m:=Builtin.Tuple.tupleExact _) (Pw (Oi ⟨_,rfl,Oi h⟩) htake)
  |exact N9 (m:=Builtin.Tuple.tupleExact _) (Pw (N9 (Oi (Oi ⟨_,rfl,Oi h⟩))) htake)
  |exact N9 (N9 (m:=Builtin.Tuple.tupleExact _) (Pw (Oi (Oi ⟨_,rfl,Oi h⟩)) htake))
  |exact N9 (N9 (m:=Builtin.Tuple.tupleExact _) (Pw (Oi ⟨_,rfl,Oi h⟩) htake))
end
end HT
namespace L2
open PySem PySem.Spec PyProof.Rows
abbrev TO:=St->Hp->(Option Int->Hp->Prop)->Prop
def PO(X:Cx)(e:Option Expr)(t:TO):Prop :=
 ∀ (pins:List (ZE×Obj)) (s:ZB) (σ:St) (H:Hp) (Q:Option Int->Hp->Prop),Inv X pins σ H s->t σ H Q ->
  wpAny (model X.prog X.w) X.A (evalPart e X.env) (λu s'=>∃ o H',Inv X pins σ H' s'/\IsPart u o/\Q o H') X.xe s
def yh:TO:=λ_ H Q=>Q none H
def yi(t:TE):TO:=λσ H Q=>t σ H λx H1=>∃ i,x=.int i/\Q (some i) H1
section
variable{X:Cx}{e:Expr}{te:TE}{lo hi:Option Expr}{tl th:TO}{pos p2:Pos}
def Fu:PO X none yh:=by
 intro pins s σ H Q I h;rw[evalPart_none];exact Oi ⟨none,H,I,.none,h⟩
def Fv(h:PE X e te):PO X (some e) (yi te):=by
 intro pins s σ H Q I hw;rw[evalPart_some];refine thn (h pins s σ H _ I hw) λu s1 Zz=>?_;obtain⟨x,H1,I1,r1,q1⟩:=Zz
 obtain⟨i,rfl,q⟩:=q1;obtain⟨t,rfl⟩:=r1;exact⟨some i,H1,I1,.int i t,q⟩
def SlR(X:Cx)(r:V->Option Int->Option Int->Hp->VK->Prop):Prop :=
 ∀ (pins:List (ZE×Obj)) (s:ZB) (σ:St) (H:Hp) (x:V) (v vl vu:ZC) (lo hi:Option Int) (sl:ZE) (Q:VK),Inv X pins σ H s->RelV x v->s.heap.IsSliceOf sl vl vu .none->IsPart vl lo->IsPart vu hi->r x lo hi H Q ->
  ∃ T id,typeLookup (.type T) "__getitem__"=pure (some (.builtin id))/\s.TypeIs v T/\wpAny (model X.prog X.w) X.A (getItem v (.ref sl)) (EP X pins σ Q) X.xe s
def SlR.or{r r':V->Option Int->Option Int->Hp->VK->Prop}(h:SlR X r)(h':SlR X r'):SlR X (λx lo hi H Q=>r x lo hi H Q\/r' x lo hi H Q):=by
 intro pins s σ H x v vl vu lo hi sl Q I rx hs pl pu q;rcases q with q|q
 ·exact h pins s σ H x v vl vu lo hi sl Q I rx hs pl pu q
 ·exact h' pins s σ H x v vl vu lo hi sl Q I rx hs pl pu q
def Fw(r:V->Option Int->Option Int->Hp->VK->Prop)(te:TE)(tl th:TO):TE:=λσ H Q=>te σ H λx H1=>tl σ H1 λl H2=>th σ H2 λu H3=>r x l u H3 Q
def Fx{r:V->Option Int->Option Int->Hp->VK->Prop}(hr:SlR X r)(he:PE X e te)(hl:PO X lo tl)(hu:PO X hi th):PE X (.Subscript e (.Slice lo hi none p2) pos) (Fw r te tl th):=by
 intro pins s σ H Q I h;refine Subscript_ (thn (he pins s σ H _ I h) λv s1 Zz=>?_);obtain⟨x,H1,I1,r1,q1⟩:=Zz
 refine wpAny_Slice (thn (hl pins s1 σ H1 _ I1 q1) λvl s2 ⟨l,H2,I2,pl,q2⟩=>thn (hu pins s2 σ H2 _ I2 q2) λvu s3 Zz=>?_);obtain⟨u,H3,I3,pu,q3⟩:=Zz
 rw[evalPart_none];refine Oi ?_
 have I4:Inv X pins σ H3 { s3 with heap:=s3.heap.push { cls:=.type "slice",data:=.fields #[vl,vu,.none] } }:=I3.kept (t':=s3.toks) λb ob q=>Oe _ q
 obtain⟨T,id,hT,ht,hg⟩:=hr pins { s3 with heap:=s3.heap.push { cls:=.type "slice",data:=.fields #[vl,vu,.none] } } σ H3 x v vl vu l u s3.heap.objs.size Q I4 r1 (Heap.IsSliceOf.new ..) pl pu q3;show wpAny (model X.prog X.w) X.A (subscriptTail e (.Slice lo hi none p2) v (.ref s3.heap.objs.size)) (EP X pins σ Q) X.xe { s3 with heap:=s3.heap.push { cls:=.type "slice",data:=.fields #[vl,vu,.none] } }
 exact tail_any (ops:=[.ref s3.heap.objs.size,v]) ht hT hg (by with_unfolding_all rfl)
def fA(xs:List V)(lo hi:Option Int):List V:=(xs.drop (HT.sIx xs.length 0 lo)).take (HT.sIx xs.length xs.length hi-HT.sIx xs.length 0 lo)
def yj(xs:List V)(lo hi:Option Int):(fA xs lo hi).length<=xs.length:=by
 unfold fA;rw[OX,Pq];lia
def uf(K:ZA):V->Option Int->Option Int->Hp->VK->Prop:=λx lo hi H Q=>∃ a xs,x=.ref a/\SqT K H a xs /\
 ¬ (HT.sIx xs.length 0 lo=0/\HT.sIx xs.length xs.length hi=xs.length)/\∀ p,H p=none->Q (.ref p) (upd H p (.tup (fA xs lo hi)))
def sl_tup:SlR X (uf X.K):=by
 intro pins s σ H x v vl vu lo hi sl Q I rx hs pl pu h;obtain⟨a,xs,rfl,hx,hw,q⟩:=h
 cases rx
 obtain⟨its,r,ht,hz⟩:=I.tuple hx;have hlen:its.toArray.size=xs.length:=by rw[Oq];exact r.length.symm
 refine⟨"tuple",_,PyProof.Rows.slot_tuple_getitem.lookup,ht.typeIs,?_⟩
 refine HT.getItem_tuple_cut ht hs pl pu (by rw[hlen];exact hw) ?_ (by rw[hlen];exact hz)
 rw[hlen];refine⟨.ref s.heap.objs.size,_,I.laid (t':=s.toks) (o:=.tup (fA xs lo hi)) (λb ob q=>Oe _ q) (Oa _) ?_,rfl,q _ (I.hok.fresh (Oa _))⟩
 exact⟨Oc (yj xs lo hi) hz,_,(r.drop (HT.sIx xs.length 0 lo)).take (HT.sIx xs.length xs.length hi-HT.sIx xs.length 0 lo),IsTup.new _ _⟩
def Fy(K:ZA):R2:=λx y H Q=>∃ a b xs ys,x=.ref a/\y=.ref b/\SqT K H a xs/\SqT K H b ys/\xs≠[]/\xs.length+ys.length<=sizeLine /\
 (ys=[]->Q (.ref a) H)/\(ys≠[]->∀ p,H p=none->Q (.ref p) (upd H p (.tup (xs++ys))))
def Vals.nil_iff{xs:List V}{us:List ZC}(r:Vals xs us):us=[] ↔ xs=[]:=by
 cases r with
 |nil=>simp
 |cons _ _=>simp
def zjr:OpR X (binaryOp .Add) (Fy X.K):=by
 intro pins s σ H x y v u Q I rx ry h;obtain⟨a,b,xs,ys,rfl,rfl,ha,hb,hx,hz,q1,q2⟩:=h
 cases rx
 cases ry
 obtain⟨its,r1,p1,_⟩:=I.tuple ha;obtain⟨its2,r2,p2,_⟩:=I.tuple hb;refine HT.cat_tup p1 p2 (λz=>hx (r1.nil_iff.mp z)) (λz=>⟨.ref a,H,I,rfl,q1 (r2.nil_iff.mp z)⟩) (λz=>?_) (by rw[<- r1.length,<- r2.length];exact hz)
 refine⟨.ref s.heap.objs.size,_,I.laid (t':=s.toks) (o:=.tup (xs++ys)) (λb ob q=>Oe _ q) (Oa _) ?_,rfl,q2 (λw=>z (r2.nil_iff.mpr w)) _ (I.hok.fresh (Oa _))⟩
 exact⟨by rw[OP];exact hz,_,r1.append r2,IsTup.new _ _⟩
end
def ic(n:Nat)(i:Int):Option Nat:=if 0<=i then(if i<n then some i.toNat else none) else if -(n:Int)<=i then some (i+n).toNat else none
def atI{α:Type}(xs:List α)(i:Int):Option α:=(ic xs.length i).bind λj=>xs[j]?
def yk{n:Nat}{i:Int}{j:Nat}(h:ic n i=some j):seqIndex? i n=some j/\j<n /\ -(n:Int)<=i/\i<n:=by
 unfold ic at h;by_cases h0:0<=i
 ·rw[Of h0] at h
  by_cases h1:i<n
  ·rw[Of h1] at h
   have e:i.toNat=j:=OG h;exact⟨by rw[seqIndex_of h0 h1,e],by lia,by lia,h1⟩
  ·rw[Og h1] at h;cases h
 ·rw[Og h0] at h
  by_cases h1:-(n:Int)<=i
  ·rw[Of h1] at h
   have e:(i+n).toNat=j:=OG h;exact⟨by rw[Tc ⋯ h1,e],by lia,h1,by lia⟩
  ·rw[Og h1] at h;cases h
def qp{α:Type}{xs:List α}{i:Int}{v:α}(h:atI xs i=some v):∃ j,seqIndex? i xs.length=some j/\xs[j]?=some v/\j<xs.length /\ -(xs.length:Int)<=i/\i<xs.length:=by
 unfold atI at h
 cases e:ic xs.length i with
 |none=>rw[e] at h;cases h
 |some j =>
  rw[e] at h;obtain⟨h1,h2,h3,h4⟩:=yk e
  exact⟨j,h1,h,h2,h3,h4⟩
def mH{α:Type}{xs:List α}{j:Nat}{v:α}(h:xs[j]?=some v):atI xs (j:Int)=some v:=by
 have hj:j<xs.length:=(NZ.mp h).1;have e:ic xs.length (j:Int)=some j:=by
  unfold ic;rw[Of ⋯,Of ⋯];simp
 unfold atI;rw[e];exact h
def qr(b:Expr):Prop:=∀ o i,subscripted b false o i=operate [o,i] (getItem o i)
def IxR(X:Cx)(r:R2):Prop :=
 ∀ (value slice:Expr) (pins:List (ZE×Obj)) (s:ZB) (σ:St) (H:Hp) (x y:V) (v u:ZC) (Q:VK),Inv X pins σ H s->RelV x v->RelV y u->r x y H Q ->
  subscripted slice false v u=operate [v,u] (getItem v u)->wpAny (model X.prog X.w) X.A (subscriptTail value slice v u) (EP X pins σ Q) X.xe s
def iX(X:Cx)(id:String)(r:V->List V->Hp->VK->Prop):Prop :=
 ∀ (pins:List (ZE×Obj)) (s:ZB) (σ:St) (H:Hp) (x:V) (xs:List V) (v:ZC) (us:List ZC) (Q:VK),Inv X pins σ H s->RelV x v->Vals xs us->r x xs H Q ->
  wpAny (model X.prog X.w) X.A (call (.builtin id) (v::us)) (EP X pins σ Q) X.xe s
section
variable{X:Cx}{a b:Expr}{ta tb:TE}{pos:Pos}
def IxR.or{r r':R2}(h:IxR X r)(h':IxR X r'):IxR X (λx y H Q=>r x y H Q\/r' x y H Q):=by
 intro value slice pins s σ H x y v u Q I rx ry q hs;rcases q with q|q
 ·exact h value slice pins s σ H x y v u Q I rx ry q hs
 ·exact h' value slice pins s σ H x y v u Q I rx ry q hs
def yl{r:R2}(hr:IxR X r)(ha:PE X a ta)(hb:PE X b tb)(hs:qr b):PE X (.Subscript a b pos) (mG r ta tb):=by
 intro pins s σ H Q I h;exact Subscript_ (kE ha hb I h λv u s2 x y H2 I2 rx ry q=>hr a b pins s2 σ H2 x y v u Q I2 rx ry q (hs _ _))
def og(K:ZA):R2:=λx y H Q=>∃ p xs i v,x=.ref p/\y=.int i/\SqL K H p xs/\atI xs i=some v/\Q v H
def oh(K:ZA):R2:=λx y H Q=>∃ p xs i v,x=.ref p/\y=.int i/\SqT K H p xs/\atI xs i=some v/\Q v H
def oi:R2:=λx y H Q=>∃ z i c,x=.str z/\y=.int i/\z.length<=sizeLine/\atI z.cps.toList i=some c/\Q (.str ⟨#[c]⟩) H
def zfJ:IxR X (og X.K):=by
 intro value slice pins s σ H x y v u Q I rx ry h hs;obtain⟨p,xs,i,z,rfl,rfl,hq,he,q⟩:=h
 cases rx
 obtain⟨t,rfl⟩:=ry;obtain⟨its,r,pl,hz⟩:=I.list hq;obtain⟨j,h1,h2,h3,h4,h5⟩:=qp he;obtain⟨w,ew,rw'⟩:=r.get h2;have hl:=r.length;have hn:=kH;have fin:EP X pins σ Q w s:=⟨z,H,I,rw',q⟩
 by_cases h0:0<=i
 ·have hj:i.toNat=j:=by
   rw[seqIndex_of h0 h5] at h1;exact OG h1
  exact item_listR pl.isList h0 ⋯ (by rw[hj];simpa using ew) fin hs
 ·have hj:(i+(its.toArray.size:Int)).toNat=j:=by
   rw[Tc ⋯ h4] at h1;rw[Oq,<- hl];exact OG h1
  exact RL (x:=w) pl.isList.typeIs slot_list_getitem.lookup
   (wpAny_getItem_list_neg (Q:=λr s'=>r=w/\EP X pins σ Q r s') pl.isList ⋯ (by rw[Oq]<;>lia) ⋯ (by rw[hj];simpa using ew) ⟨rfl,fin⟩) hs
def ix_tup:IxR X (oh X.K):=by
 intro value slice pins s σ H x y v u Q I rx ry h hs;obtain⟨p,xs,i,z,rfl,rfl,hq,he,q⟩:=h
 cases rx
 obtain⟨t,rfl⟩:=ry;obtain⟨its,r,pl,hz⟩:=I.tuple hq;obtain⟨j,h1,h2,h3,h4,h5⟩:=qp he;obtain⟨w,ew,rw'⟩:=r.get h2;have hl:=r.length;have hn:=kH;have fin:EP X pins σ Q w s:=⟨z,H,I,rw',q⟩
 exact RL (x:=w) pl.typeIs slot_tuple_getitem.lookup
  (getItem_tuple (j:=j) (Q:=λr s'=>r=w/\EP X pins σ Q r s') pl ⋯ ⋯ (by rw[Oq,<- hl];exact h1) (by simpa using ew) ⟨rfl,fin⟩) hs
def Fz:IxR X oi:=by
 intro value slice pins s σ H x y v u Q I rx ry h hs;obtain⟨z,i,c,rfl,rfl,hz,he,q⟩:=h;obtain⟨t,rfl⟩:=rx;obtain⟨t',rfl⟩:=ry;obtain⟨j,h1,h2,h3,h4,h5⟩:=qp he;have hl:z.cps.toList.length=z.length:=by simp[Str.length]
 rw[hl] at h1 h4 h5;have hn:=kH
 exact tail_any (Q4 s z t) slot_str_getitem.lookup (getItem_str (c:=c) (by
  have e1:decide (i < -(2 ^ 63:Int))=false:=OB ⋯;have e2:decide (i ≥ 2 ^ 63)=false:=OB ⋯;rw[e1,e2,Bool.or_false]) (by rw[h1];simpa using h2) ⟨.str ⟨#[c]⟩,H,I.tok _,⟨_,rfl⟩,q⟩) hs
def ym(K:ZA):R2:=λx y H Q=>og K x y H Q\/oh K x y H Q\/oi x y H Q
def FC:IxR X (ym X.K):=(zfJ.or (ix_tup.or Fz))
def FD(its:List ZC)(n j:Nat)(u:ZC):Obj.mapSeq (·.setIfInBounds j u) { cls:=.type "list",data:=.seq its.toArray n }={ cls:=.type "list",data:=.seq (its.set j u).toArray n }:=by
 simp[Obj.mapSeq]
def Inv.lst{pins:List (ZE×Obj)}{σ:St}{H:Hp}{s:ZB}{p:ZE}{xs:List V}(I:Inv X pins σ H s)(h:H p=some (.lst xs)) :
  ∃ (its:List ZC) (n:Nat),Vals xs its/\s.heap.get? p=some { cls:=.type "list",data:=.seq its.toArray n }/\xs.length<=sizeLine:=by
 obtain⟨z,its,n,r,e⟩:=I.hok p _ h;exact⟨its,n,r,e,z⟩
def Inv.lstUpd {pins:List (ZE×Obj)} {σ:St} {H:Hp} {s:ZB} {p:ZE} {xs ys:List V} {its its':List ZC} {n n':Nat} {f:Obj->Obj} (I:Inv X pins σ H s) (h:H p=some (.lst xs))
  (ho:s.heap.get? p=some { cls:=.type "list",data:=.seq its.toArray n }) (hf:f { cls:=.type "list",data:=.seq its.toArray n }={ cls:=.type "list",data:=.seq its'.toArray n' }) (r:Vals ys its') (hz:ys.length<=sizeLine) (t:Nat) :
  Inv X pins σ (upd H p (.lst ys)) { s with heap:=s.heap.update p f,toks:=t }:=by
 have e:(s.heap.update p f).get? p=some { cls:=.type "list",data:=.seq its'.toArray n' }:=by
  rw[P9 f ho (by rw[hf]<;>rfl),hf]
 refine I.write (x:=p) (e:=p) (by rw[h];trivial) (.inl rfl) (λb u hb q=>(RE _ _ (Ne.symm hb)).trans q) ⟨_,e⟩ ?_
 exact⟨hz,its',n',r,e⟩
def FE:V->V->V->Hp->(Hp->Prop)->Prop:=λo i v H Q=>∃ p xs k j,o=.ref p/\i=.int k/\H p=some (.lst xs)/\ic xs.length k=some j/\Q (upd H p (.lst (xs.set j v)))
def FG:nX X FE:=by
 intro pins s σ H o i v ov iv u Q I ro ri rv h;obtain⟨p,xs,k,j,rfl,rfl,hp,hj,q⟩:=h
 cases ro
 obtain⟨t,rfl⟩:=ri;obtain⟨its,n,r,ho,hz⟩:=I.lst hp;obtain⟨h1,h2,h3,h4⟩:=yk hj;have hl:=r.length;have hn:=kH;have I':Inv X pins σ (upd H p (.lst (xs.set j v))) { s with heap:=s.heap.update p (Obj.mapSeq (·.setIfInBounds j u)) } :=
  I.lstUpd hp ho (FD its n j u) (r.set rv j) (by rw[OO];exact hz) s.toks
 by_cases h0:0<=k
 ·have hk:k.toNat=j:=by
   rw[seqIndex_of h0 h4] at h1;exact OG h1
  exact PySem.W.ki_setAt ho h0 ⋯ (by rw[Oq,<- hl];exact h4) (by rw[hk];exact⟨_,I',q⟩)
 ·have hk:(k+(its.toArray.size:Int)).toNat=j:=by
   rw[Tc ⋯ h3] at h1;rw[Oq,<- hl];exact OG h1
  exact PySem.W.ki_setBack ho ⋯ (by rw[Oq,<- hl];exact h3) ⋯ (by rw[hk];exact⟨_,I',q⟩)
def FH(lo hi:Option Int)(n:Nat):(sliceBounds lo hi none n).1=((HT.sIx n 0 lo:Nat):Int)/\(sliceBounds lo hi none n).2.1=((HT.sIx n n hi:Nat):Int)/\(sliceBounds lo hi none n).2.2=1:=by
 refine⟨?_,?_,rfl⟩
 ·cases lo with
  |none=>simp[sliceBounds,HT.sIx]
  |some i =>
   simp only[sliceBounds,HT.sIx,Option.getD_none,show (1:Int) > 0 by decide,PM]
   by_cases h:i<0
   ·simp only[h,PM]<;>lia
   ·simp only[h,Ti]<;>lia
 ·cases hi with
  |none=>simp[sliceBounds,HT.sIx]
  |some i =>
   simp only[sliceBounds,HT.sIx,Option.getD_none,show (1:Int) > 0 by decide,PM]
   by_cases h:i<0
   ·simp only[h,PM]<;>lia
   ·simp only[h,Ti]<;>lia
def FI(its:List ZC)(lo hi:Option Int):slicePick its.toArray lo hi none=((its.drop (HT.sIx its.length 0 lo)).take (HT.sIx its.length its.length hi-HT.sIx its.length 0 lo)).toArray:=by
 obtain⟨h1,h2,h3⟩:=FH lo hi its.toArray.size;unfold slicePick;rw[h1,h2,h3];simp only[sliceRange_one,pick_run,Oq]<;>rfl
def ug(K:ZA):V->Option Int->Option Int->Hp->VK->Prop:=λx lo hi H Q=>∃ a xs,x=.ref a/\SqL K H a xs/\∀ p,H p=none->Q (.ref p) (upd H p (.lst (fA xs lo hi)))
def zjs:SlR X (ug X.K):=by
 intro pins s σ H x v vl vu lo hi sl Q I rx hs pl pu h;obtain⟨a,xs,rfl,hx,q⟩:=h
 cases rx
 obtain⟨its,r,ht,hz⟩:=I.list hx;have hlen:=r.length;refine⟨"list",_,slot_list_getitem.lookup,ht.isList.typeIs,?_⟩
 refine wpAny_getItem_list_slice ht.isList hs pl pu .none 's' ?_ (by rw[Oq]<;>omega)
 rw[FI,<- hlen];refine⟨.ref s.heap.objs.size,_,I.laid (t':=s.toks) (o:=.lst (fA xs lo hi)) (λb ob q=>Oe _ q) (Oa _) ?_,rfl,q _ (I.hok.fresh (Oa _))⟩
 exact⟨Oc (yj xs lo hi) hz,_,0,(r.drop (HT.sIx xs.length 0 lo)).take (HT.sIx xs.length xs.length hi-HT.sIx xs.length 0 lo),Os _ rfl⟩
def zeB:OpR X (compareOp .NotIn) (λx y H Q=>∃ i j,x=.str i/\y=.str j/\Q (.bl (!(!(Builtin.Str.occurrences j i 0 j.length 1).isEmpty))) H):=by
 intro pins s σ H x y v u Q I rx ry h;obtain⟨i,j,rfl,rfl,q⟩:=h;obtain⟨t,rfl⟩:=rx;obtain⟨t',rfl⟩:=ry;exact notIn_str ⟨.bl _,H,I,rfl,q⟩
def zeC:CallR X (.builtin "len") (λxs H Q=>∃ p ys,xs=[.ref p]/\(SqL X.K H p ys\/SqT X.K H p ys)/\Q (.int ys.length) H):=by
 intro pins s σ H xs us Q I r h;obtain⟨p,ys,rfl,hq,q⟩:=h;obtain⟨u,rfl,rx⟩:=jg r
 cases rx
 have hn:=kH;rcases hq with hq|hq
 ·obtain⟨its,r',pl,hz⟩:=I.list hq
  have hlen:=r'.length;exact Calls.call_len_list pl.isList (by simp only[Oq]<;>lia) ⟨.int ys.length,H,I.tok _,⟨s.toks+1,by rw[Oq,hlen]⟩,q⟩
 ·obtain⟨its,r',pl,hz⟩:=I.tuple hq
  have hlen:=r'.length;exact len_tuple pl (by simp only[Oq]<;>lia) ⟨.int ys.length,H,I.tok _,⟨s.toks+1,by rw[Oq,hlen]⟩,q⟩
def zeD:CallR X (.builtin "len") (λxs H Q=>∃ z,xs=[.str z]/\z.length<=sizeLine/\Q (.int z.length) H):=by
 intro pins s σ H xs us Q I r h;obtain⟨z,rfl,hz,q⟩:=h;obtain⟨u,rfl,t,rfl⟩:=jg r;have hn:=kH;exact len_str ⋯ ⟨.int z.length,H,I.tok _,⟨_,rfl⟩,q⟩
def CallR.or{f:ZC}{r r':List V->Hp->VK->Prop}(h:CallR X f r)(h':CallR X f r'):CallR X f (λxs H Q=>r xs H Q\/r' xs H Q):=by
 intro pins s σ H xs us Q I rs q;rcases q with q|q
 ·exact h pins s σ H xs us Q I rs q
 ·exact h' pins s σ H xs us Q I rs q
def qt(K:ZA)(T:String)(x:V)(H:Hp):Prop:=match x with
 |.str _=>T="str"
 |.int _=>T="int"
 |.ref p=>(T="list" /\ ∃ xs,SqL K H p xs)\/(T="tuple" /\ ∃ o,K.lookup p=some o/\o.cls=.type "tuple" /\ o.dict=none) \/
   (T="dict" /\ ((∃ kvs,H p=some (.dK kvs))\/∃ xc kvs,H p=some (.dT xc kvs)))\/(T="set" /\ ∃ S n,H p=some (.set S n))
 |_=>False
def yn{pins:List (ZE×Obj)}{σ:St}{H:Hp}{s:ZB}{T:String}{x:V}{v:ZC}(I:Inv X pins σ H s)(r:RelV x v)(ty:qt X.K T x H) :
  s.TypeIs v T/\∀ a,v=.ref a->∃ ob,s.heap.get? a=some ob/\ob.dict=none:=by
 cases x with
 |str z =>
  obtain⟨t,rfl⟩:=r
  cases (show T="str" from ty)
  exact⟨Q4 s z t,λ_ e=>nomatch e⟩
 |int i =>
  obtain⟨t,rfl⟩:=r
  cases (show T="int" from ty)
  exact⟨Tj s i t,λ_ e=>nomatch e⟩
 |ref p =>
  cases r
  rcases ty with⟨rfl,xs,hq⟩|⟨rfl,o,hk,hc,hd⟩|⟨rfl,hk⟩|⟨rfl,S,n,hk⟩
  ·obtain⟨its,_,pl,_⟩:=I.list hq
   refine⟨pl.isList.typeIs,λa e=>?_⟩
   cases e
   obtain⟨o,n,e,c,hd,_⟩:=pl;exact⟨o,e,hd⟩
  ·refine⟨⟨o,I.kIn p o hk,hc⟩,λa e=>?_⟩
   cases e
   exact⟨o,I.kIn _ o hk,hd⟩
  ·have z:∃ o,s.heap.get? p=some o/\o.ExactDict:=by
    rcases hk with⟨kvs,hk⟩|⟨xc,kvs,hk⟩
    ·obtain⟨_,_,_,_,o,_,_,e,ex,_⟩:=I.hok p _ hk
     exact⟨o,e,ex⟩
    ·obtain⟨_,_,_,_,o,_,_,e,ex,_⟩:=I.hok p _ hk
     exact⟨o,e,ex⟩
   obtain⟨o,e,ex⟩:=z;refine⟨⟨o,e,ex.1⟩,λa e2=>?_⟩
   cases e2
   exact⟨o,e,ex.2.1⟩
  ·obtain⟨o,_,_,_,e,ex,_⟩:=I.hok p _ hk
   refine⟨⟨o,e,ex.1⟩,λa e2=>?_⟩
   cases e2
   exact⟨o,e,ex.2.1⟩
 |_=>exact False.elim ty
def uh(K:ZA)(T:String)(r:V->List V->Hp->VK->Prop)(to:TE):TE:=λσ H Q=>to σ H λx H1=>qt K T x H1/\r x [] H1 Q
def FJ(K:ZA)(T:String)(r:V->List V->Hp->VK->Prop)(to:TE)(t:TA):TE:=λσ H Q=>to σ H λx H1=>qt K T x H1/\t σ H1 λxs H2=>r x xs H2 Q
variable{o e:Expr}{es:List Expr}{to:TE}{t:TA}{name:Str}{apos cpos:Pos}{T id:String}{r:V->List V->Hp->VK->Prop}
def yo (pa:PlainAttrs T) (slot:Slot T name id) (hty:typeOf (.builtin id)=pure (.type "method_descriptor")) (hm:iX X id r) (ho:PE X o to)
  (hbase:‹attributeBase o name X.env (eval o X.env)=eval o X.env›) (hline:‹(apos.endLine == cpos.line)=true›):PE X (.Call (.Attribute o name apos) [] [] cpos) (uh X.K T r to):=by
 intro pins s σ H Q I h;refine wpAny_Call_method0_late hbase hline (thn (ho pins s σ H _ I h) λv s1 Zz=>?_);obtain⟨x,H1,I1,r1,ty,q1⟩:=Zz
 obtain⟨h1,h2⟩:=yn I1 r1 ty;exact⟨T,id,pa,slot,hty,h1,h2,PF rfl (PySem.evalArgs_none (hm pins s1 σ H1 x [] v [] Q I1 r1 .nil q1))⟩
def FK (pa:PlainAttrs T) (slot:Slot T name id) (hty:typeOf (.builtin id)=pure (.type "method_descriptor")) (hm:iX X id r) (ho:PE X o to) (ha:PA X (e::es) t)
  (hbase:‹attributeBase o name X.env (eval o X.env)=eval o X.env›)
  (hfew:‹((backTo cpos (starEach (e::es) X.env)).all (λx=>!x.1) && (backToKw cpos (keywordEach [] X.env)).all (λx=>x.1.isSome)
   && decide ((e::es).length+([]:List Keyword).length+(if ([]:List Keyword).isEmpty then 0 else 1)<30))=true›)
  (hline:‹(apos.endLine == cpos.line)=true›) (hs:‹qE1 e es X.env›) (hplain:‹qF1 cpos es X.env›) :
  PE X (.Call (.Attribute o name apos) (e::es) [] cpos) (FJ X.K T r to t):=by
 intro pins s σ H Q I h;refine wpAny_Call_method_late hbase hfew hline rfl (thn (ho pins s σ H _ I h) λv s1 Zz=>?_);obtain⟨x,H1,I1,r1,ty,q1⟩:=Zz
 obtain⟨h1,h2⟩:=yn I1 r1 ty;refine⟨T,id,pa,slot,hty,h1,h2,?_⟩
 have hA:=ha cpos pins s1 σ H1 _ I1 q1;rw[hs] at hA ⊢;refine PF (by show (false || (backTo cpos (starEach es X.env)).any (·.1))=false;rw[hplain]<;>rfl) (PR ?_)
 exact thn hA λus s2 ⟨vs,H2,I2,r2,q2⟩=>hm pins s2 σ H2 x vs v us Q I2 r1 r2 q2
end
def ui(X:Cx)(id:String)(r:V->List V->Hp->VK->Prop):Prop :=
 ∀ (pins:List (ZE×Obj)) (s:ZB) (σ:St) (H:Hp) (x:V) (xs:List V) (v:ZC) (us:List ZC) (Q:VK),Inv X pins σ H s->RelV x v->Vals xs us->r x xs H Q ->
  wpAny (model X.prog X.w) X.A (call (.builtin id) (v::us)) (EP X pins σ Q) X.xe s
theorem Vals.one:∀ {x:V} {us:List ZC},Vals [x] us->∃ u,us=[u]/\RelV x u
 |_,_,.cons r .nil=>⟨_,rfl,r⟩
theorem Vals.zero:∀ {us:List ZC},Vals [] us->us=[]
 |_,.nil=>rfl
def Vals.dropLast{xs:List V}{us:List ZC}(h:Vals xs us):Vals xs.dropLast us.dropLast:=by
 induction h with
 |nil=>exact .nil
 |cons r t ih =>
  cases t with
  |nil=>exact .nil
  |cons q t'=>exact .cons r ih
def FL{α:Type}(l:List α):l.eraseIdx (l.length-1)=l.dropLast:=by
 induction l with
 |nil=>rfl
 |cons a r ih =>
  cases r with
  |nil=>rfl
  |cons b r =>
   have e:(a::b::r).length-1=((b::r).length-1)+1:=by
    have h1:(a::b::r).length=r.length+2:=rfl;have h2:(b::r).length=r.length+1:=rfl;omega
   rw[e,List.eraseIdx_cons_succ,ih];all_goals rfl
section
variable{X:Cx}{pins:List (ZE×Obj)}{σ:St}{H:Hp}{s:ZB}{l b:ZE}{xs ys zs:List V}
def Inv.lset {its its':List ZC} {n:Nat} {f:Array ZC->Array ZC} {t':Nat} (I:Inv X pins σ H s) (hH:H l=some (.lst xs))
  (e:s.heap.get? l=some { cls:=.type "list",data:=.seq its.toArray n }) (hf:f its.toArray=its'.toArray) (hv:Vals ys its') (hz:ys.length<=sizeLine) :
  Inv X pins σ (upd H l (.lst ys)) { s with heap:=s.heap.update l (Obj.mapSeq f),toks:=t' }:=by
 have q:=PySem.IsL.update e f;rw[hf] at q;refine I.write (x:=l) (e:=l) (by rw[hH];exact trivial) (.inl rfl) (λb' u hb hu=>(RE s.heap (Obj.mapSeq f) (Ne.symm hb)).trans hu) ⟨_,q⟩ ?_
 exact⟨hz,its',_,hv,q⟩
def Inv.lnew{its:List ZC}{t':Nat}(I:Inv X pins σ H s)(hv:Vals ys its)(hz:ys.length<=sizeLine) :
  Inv X pins σ (upd H s.heap.objs.size (.lst ys)) { s with heap:=s.heap.push { cls:=.type "list",data:=.seq its.toArray },toks:=t' } :=(
 I.laid (λ_ _ q=>Oe _ q) (Oa _) ⟨hz,its,0,hv,Os _ rfl⟩)
def Inv.fresh(I:Inv X pins σ H s):H s.heap.objs.size=none:=(I.hok.fresh (Oa _))
def Inv.lstM(I:Inv X pins σ H s)(hH:H l=some (.lst xs)):xs.length<=sizeLine/\∃ (its:List ZC) (n:Nat),Vals xs its/\xs.length=its.length/\s.heap.get? l=some { cls:=.type "list",data:=.seq its.toArray n }:=by
 obtain⟨z,its,n,r,e⟩:=I.hok l _ hH;exact⟨z,its,n,r,r.length,e⟩
end
section
variable{X:Cx}
def FN:V->List V->Hp->VK->Prop:=λx vs H Q=>∃ l xs y,x=.ref l/\vs=[y]/\H l=some (.lst xs)/\xs.length<sizeLine/\Q .non (upd H l (.lst (xs++[y])))
def yp:ui X "list.append" FN:=by
 intro pins s σ H x vs v us Q I rx rv h;obtain⟨l,xs,y,rfl,rfl,hH,hz,q⟩:=h
 cases rx
 obtain⟨u,rfl,ru⟩:=rv.one;obtain⟨z,its,n,r,hl,e⟩:=I.lstM hH;refine Qx F.slot_list_append ⟨_,e,rfl⟩ F.entry_list_append (F.args_list_append_2 _ _) (PySem.list_append l its.toArray n u (by rw[Oq];lia)) ⟨e,?_⟩
 refine⟨.non,_,I.lset (its':=its++[u]) hH e 's' (r.append (.cons ru .nil)) ?_,rfl,q⟩
 rw[OP,List.length_singleton];lia
def uj:V->List V->Hp->VK->Prop:=λx vs H Q=>∃ l xs y,x=.ref l/\vs=[]/\H l=some (.lst xs)/\xs[xs.length-1]?=some y/\Q y (upd H l (.lst xs.dropLast))
def FO:ui X "list.pop" uj:=by
 intro pins s σ H x vs v us Q I rx rv h;obtain⟨l,xs,y,rfl,rfl,hH,hy,q⟩:=h
 cases rx
 have hus:=rv.zero;subst hus;obtain⟨z,its,n,r,hl,e⟩:=I.lstM hH
 obtain⟨u,hu,ru⟩:=r.get hy;have hy':its.toArray[its.toArray.size-1]?=some u:=by
  show its.toArray[its.length-1]?=some u
  rw[<- QI,<- hl];exact hu
 refine Qx F.slot_list_pop ⟨_,e,rfl⟩ F.entry_list_pop (F.args_list_pop_1 _) (MeetsSeq.list_pop_last l its.toArray n u hy' (by rw[Oq];omega)) ⟨e,?_⟩
 refine⟨y,_,I.lset (its':=its.dropLast) hH e ?_ r.dropLast ?_,ru,q⟩
 ·show its.toArray.eraseIdxIfInBounds (its.toArray.size-1)=its.dropLast.toArray
  rw[Oq,List.eraseIdxIfInBounds_toArray,FL]
 ·rw[List.length_dropLast]
  omega
def FP:V->List V->Hp->VK->Prop:=λx vs H Q=>∃ l xs,x=.ref l/\vs=[]/\H l=some (.lst xs)/\Q .non (upd H l (.lst []))
def FQ:ui X "list.clear" FP:=by
 intro pins s σ H x vs v us Q I rx rv h;obtain⟨l,xs,rfl,rfl,hH,q⟩:=h
 cases rx
 have hus:=rv.zero;subst hus;obtain⟨z,its,n,r,hl,e⟩:=I.lstM hH
 refine Qx F.slot_list_clear ⟨_,e,rfl⟩ F.entry_list_clear (F.args_list_clear_1 _) (AutoSeq1.list_clear_list_0 l its.toArray n (by rw[Oq];lia)) ⟨e,?_⟩
 exact⟨.non,_,I.lset (its':=[]) (ys:=[]) hH e rfl .nil (OH _),rfl,q⟩
end
section
variable{prog:ZD}{w:ZF}{A:ZG}{E:ZC->ZB->Prop}{s:ZB}
end
section
variable{X:Cx}
end
section
variable{κ:Type}[DecidableEq κ]
def bG(kvs:List (κ×V))(k:κ):Option V:=(kvs.find? λkv=>decide (kv.1=k)).map (·.2)
def cu(kvs:List (κ×V))(k:κ)(v:V):List (κ×V) :=
 if (kvs.any λkv=>decide (kv.1=k))=true then kvs.map (λkv=>if kv.1=k then(kv.1,v) else kv) else kvs++[(k,v)]
def jh(kvs:List (κ×V))(k:κ):List (κ×V):=kvs.filter λkv=>decide (kv.1≠k)
def qu{p:κ×V}{r:List (κ×V)}{k:κ}(e:p.1=k):bG (p::r) k=some p.2:=by simp[bG,O2,e]
def oj{p:κ×V}{r:List (κ×V)}{k:κ}(e:¬ p.1=k):bG (p::r) k=bG r k:=by simp[bG,O2,e]
theorem qv(k:κ):∀ kvs:List (κ×V),(kvs.any λkv=>decide (kv.1=k))=(bG kvs k).isSome
 |[]=>rfl
 |p::r=>by
  rw[Pu];by_cases e:p.1=k
  ·simp only[qu e,OM e,Bool.true_or,Option.isSome_some]
  ·rw[oj e,OB e,Bool.false_or];exact qv k r
def yq(kvs:List (κ×V))(k:κ)(v:V):(cu kvs k v).length<=kvs.length+1:=by
 unfold cu;split
 ·rw[Oh];lia
 ·rw[OP,O3,List.length_nil];lia
def RelO.isSome_eq{o:Option V}{u:Option ZC}(r:RelO o u):o.isSome=u.isSome:=by
 cases o with
 |none=>cases u with
  |none=>rfl
  |some _=>exact(show False from r).elim
 |some _=>cases u with
  |none=>exact(show False from r).elim
  |some _=>rfl
def RelO.getD{o:Option V}{u:Option ZC}{d:V}{d':ZC}(r:RelO o u)(rd:RelV d d'):RelV (o.getD d) (u.getD d'):=by
 cases o with
 |none=>cases u with
  |none=>exact rd
  |some _=>exact(show False from r).elim
 |some _=>cases u with
  |none=>exact(show False from r).elim
  |some _=>exact r
def KV.val{kvs:List (κ×V)}{vs:List (κ×ZC)}(r:KV kvs vs)(k:κ):RelO (bG kvs k) (valueAt vs k):=by
 unfold KV at r;induction r with
 |nil=>exact True.intro
 |@cons p q ps qs h t ih =>
  obtain⟨h1,h2⟩:=h;by_cases e:p.1=k
  ·have e':q.1=k:=h1.symm.trans e
   have b:valueAt (q::qs) k=some q.2:=by simp[valueAt,O2,e']
   rw[qu e,b];exact h2
  ·have e':¬ q.1=k:=λz=>e (h1.trans z)
   have b:valueAt (q::qs) k=valueAt qs k:=by simp[valueAt,O2,e']
   rw[oj e,b];exact ih
def KV.any{kvs:List (κ×V)}{vs:List (κ×ZC)}(r:KV kvs vs)(k:κ):(kvs.any λkv=>decide (kv.1=k))=vs.any λkv=>decide (kv.1=k):=by
 unfold KV at r;induction r with
 |nil=>rfl
 |cons h t ih=>rw[Pu,Pu,ih,h.1]
def KV.repl{kvs:List (κ×V)}{vs:List (κ×ZC)}(r:KV kvs vs)(k:κ){y:V}{u:ZC}(ry:RelV y u) :
  KV (kvs.map λkv=>if kv.1=k then(kv.1,y) else kv) (vs.map λkv=>if kv.1=k then(kv.1,u) else kv):=by
 unfold KV at r ⊢
 induction r with
 |nil=>exact .nil
 |@cons p q ps qs h t ih =>
  rw[Ot,Ot];refine .cons ?_ ih
  obtain⟨h1,h2⟩:=h;by_cases e:p.1=k
  ·rw[Of e,Of (h1.symm.trans e)];exact⟨h1,ry⟩
  ·rw[Og e,Og (λz=>e (h1.trans z))];exact⟨h1,h2⟩
def KV.put{kvs:List (κ×V)}{vs:List (κ×ZC)}(r:KV kvs vs)(k:κ){y:V}{u:ZC}(ry:RelV y u):KV (cu kvs k y) (stored vs k u):=by
 unfold cu stored;rw[r.any k];by_cases e:(vs.any λkv=>decide (kv.1=k))=true
 ·rw[Of e,Of e];exact r.repl k ry
 ·rw[Og e,Og e];exact Paired.snoc r ⟨rfl,ry⟩
def KV.drop{kvs:List (κ×V)}{vs:List (κ×ZC)}(r:KV kvs vs)(k:κ):KV (jh kvs k) (without vs k):=by
 unfold KV at r ⊢
 unfold jh without;induction r with
 |nil=>exact .nil
 |@cons p q ps qs h t ih =>
  obtain⟨h1,h2⟩:=h;rw[PJ,PJ];by_cases e:p.1=k
  ·have a:¬ decide (p.1≠k)=true:=by simp[e]
   have b:¬ decide (q.1≠k)=true:=by simp[h1.symm.trans e]
   rw[Og a,Og b];exact ih
  ·have e':¬ q.1=k:=λz=>e (h1.trans z)
   have a:decide (p.1≠k)=true:=by simp[e]
   have b:decide (q.1≠k)=true:=by simp[e']
   rw[Of a,Of b];exact .cons ⟨h1,h2⟩ ih
def KV.keys{kvs:List (κ×V)}{vs:List (κ×ZC)}(r:KV kvs vs):kvs.map (·.1)=vs.map (·.1):=by
 unfold KV at r;induction r with
 |nil=>rfl
 |cons h t ih=>rw[Ot,Ot,ih,h.1]
def KV.length{kvs:List (κ×V)}{vs:List (κ×ZC)}(r:KV kvs vs):kvs.length=vs.length:=(Paired.length r)
def yr(kvs:List (κ×V))(k:κ):(jh kvs k).length<=kvs.length:=(QJ _ _)
end
def jW{P:ZD}{w:ZF}{k:aJ}{u:ZC}(r:RelV (kV k) u):(eB P w).is k u=true:=by
 cases k with
 |inl i=>obtain⟨t,e⟩:=(show ∃ t,u=Value.int i t from r);subst e;exact Dt P w i t
 |inr x=>obtain⟨t,e⟩:=(show ∃ t,u=Value.str x t from r);subst e;exact Du P w x t
def FR{P:ZD}{w:ZF}{y:V}{k:aJ}{u:ZC}(e:mC y=some k)(r:RelV y u):(iC P w).is k u=true:=by
 cases y with
 |int i=>cases e;obtain⟨t,e⟩:=(show ∃ t,u=Value.int i t from r);subst e;exact Dq P w i t
 |str x=>cases e;obtain⟨t,e⟩:=(show ∃ t,u=Value.str x t from r);subst e;exact Dr P w x t
 |bl b=>cases e;cases (show u=Value.bool b from r);exact OM rfl
 |_=>cases e
theorem yt{P:ZD}{w:ZF}:∀ {ys:List V} {ks:List aJ} {us:List ZC},ys.map mC=ks.map some->Vals ys us->ItemsAre (iC P w) ks us
 |[],[],_,_,r=>by cases r;exact .nil
 |[],_::_,_,e,_=>by simp at e
 |_::_,[],_,e,_=>by simp at e
 |y::ys,k::ks,_,e,r=>by
  rw[Ot,Ot] at e;injection e with e1 e2
  cases r with
  |cons h t=>exact .cons (FR e1 h) (yt e2 t)
def KTup(H:Hp)(b:ZE)(k:List aJ):Prop:=∃ ys,H b=some (.tup ys)/\ys.map mC=k.map some
def KTup.of{H:Hp}{b:ZE}{k:List aJ}(e:H b=some (.tup (k.map kV))):KTup H b k:=(⟨_,e,by rw[P3];exact Pm λx _=>Dv x⟩)
def DictE{P:ZD}{w:ZF}{K:Type}[DecidableEq K](h:Heap)(kn:PySem.HeapKind P w K)(d:ZE)(xs:List (K×ZE×ZC))(n:Nat):Prop :=
 ∃ o es,h.get? d=some o/\o.ExactDict/\o.data=.dict es n/\es.toList=xs.map (entryOfKey kn)/\(∀ x∈xs,kn.is h x.1 x.2.1)/\(xs.map (·.1)).Nodup
def DictE.of{P:ZD}{w:ZF}{K:Type}[DecidableEq K]{h:Heap}{kn:PySem.HeapKind P w K}{d:ZE}{xs:List (K×ZE×ZC)}{n:Nat}(e:DictE h kn d xs n):h.DictOfH kn d xs:=(e.imp λ_ ⟨es,r⟩=>⟨es,n,r⟩)
def uk{P:ZD}{w:ZF}{K:Type}[DecidableEq K]{kn:PySem.HeapKind P w K}{d b:ZE}{k:K}{xs:List (K×ZE×ZC)}{A:ZG}{E:ZC->ZB->Prop}{s:ZB}{v:ZC}{Q:Unit->ZB->Prop}
  (hu:kn.room A.in1)(hk:kn.is s.heap k b)(hm:DictE s.heap kn d xs xs.length)(hz:xs.length<=sizeLine)
  (q:∀ g,DictE g kn d (storedH xs k b v) (storedH xs k b v).length->Heap.SameBut d s.heap g->Q () { s with heap:=g,toks:=s.toks+kn.draws k }) :
  wpAny (model P w) A (setItem (.ref d) (.ref b) v) Q E s:=by
 have ty:=hm.of.typeIs;obtain⟨o,es,e1,e2,e3,e4,e5,e6⟩:=hm;unfold setItem;try with_reducible refine OZ ?_
 refine N9 (Ta ty 'd' (N9 (Ry (name:=Str.ofString "__setitem__") ty Td (Pj Td ty entry_dict_setitem ?_ (args_dict_setitem _ _ _)))))
 show wpAny _ _ (Builtin.Dict.notOrdered "__setitem__" _ >>= _) _ _ s
 refine N9 (QK ty (show wpAny _ _ (dictSet d (.ref b) v >>= _) _ _ s from N9 ?_))
 have fin:∀ g,DictE g kn d (storedH xs k b v) (storedH xs k b v).length->Heap.SameBut d s.heap g->wpAny (model P w) A.in1 (pure Unit.unit) (λ_ s'=>Q () s') (λ_ _=>False) { s with heap:=g,toks:=s.toks+kn.draws k }:=λg a c=>Oi (q g a c)
 unfold dictSet;try with_reducible refine OZ ?_
 refine N9 (kn.pyHash hu hk ?_)
 unfold dictSetHashed;try with_reducible refine OZ ?_
 refine N9 (wpAny_dictFind_heap (s:={ s with toks:=s.toks+kn.draws k }) hu hk e1 e3 e4 e5 e6 (λno=>?_) λj p hj=>?_)
 ·have st:=storedH_new (a:=b) (v:=v) (atKey_none_of_get no)
  refine N9 (SM (wpAny_updateDictKeys (hz:=by have z:=size_of_entries e4;lia) (s:={ s with toks:=s.toks+kn.draws k }) e1 e3 (Oi ⟨.none,rfl,Oi (q _ ?_ (PU ..))⟩)))
  have ln:(xs++[(k,b,v)]).length=xs.length+1:=by simp
  rw[st,ln];refine⟨_,_,P9 _ e1 (Obj.isFreed_of_dict (Obj.data_mapDictKeys e3 _)),e2.mapDictKeys _,Obj.data_mapDictKeys e3 _,?_,λx hx=>?_,?_⟩
  ·simp[e4,entryOfKey]
  ·rcases OY.mp hx with hx|hx
   ·exact kn.keeps (e5 x hx) e1 e3 (PU ..)
   ·have z:x=(k,b,v):=by simpa using hx
    rw[z];exact kn.keeps hk e1 e3 (PU ..)
  ·rw[OS,QB]
   exact⟨e6,by simp,λx hx y hy z=>not_mem_keys_of_get no (by
    have e:y=k:=by simpa using hy
    rw[<- e,<- z];exact hx)⟩
 ·have st:=storedH_old (a:=b) (v:=v) (atKey_of_get e6 hj)
  refine N9 (SM (N9 (wpAny_updateDict (s:={ s with toks:=s.toks+kn.draws k }) e1 e3 (wpAny_point (Oi ⟨.none,rfl,Oi (q _ ?_ (PU ..))⟩)))))
  rw[st,Oh];refine⟨_,_,P9 _ e1 (Obj.isFreed_of_dict (Obj.data_mapDict e3 _)),e2.mapDict _,Obj.data_mapDict e3 _,?_,λx hx=>?_,?_⟩
  ·have z:=modify_map_putAt (entryOfKey kn) (λe:DictEntry=>{ e with val:=v }) k v (λ_ _=>rfl) e6 hj
   rw[<- e4] at z;obtain⟨l⟩:=es
   simpa using z
  ·obtain⟨y,hy,rfl⟩:=PH.mp hx
   unfold putAt;split<;>exact kn.keeps (e5 y hy) e1 e3 (PU ..)
  ·rw[keys_map_putAt];exact e6
def yu(xc:Option (List ZE))(old:Bool)(b:ZE):Option (List ZE):=xc.map λas=>if old then as else as++[b]
def FS{xs:List (List aJ×ZE×ZC)}{k:List aJ}{b:ZE}{u:ZC}{xc:Option (List ZE)}(h:∀ as,xc=some as->xs.map (·.2.1)=as):∀ as,yu xc (atKey xs k).isSome b=some as->(storedH xs k b u).map (·.2.1)=as:=by
 intro as e;obtain⟨bs,e1,e2⟩:=Ow.mp e;subst e2;unfold storedH
 by_cases q:(atKey xs k).isSome=true
 ·rw[Of q,Of q,P3,<- h bs e1]
  exact Pm λx _=>by show (putAt k u x).2.1=x.2.1;unfold putAt;split<;>rfl
 ·rw[Og q,Og q,OS,h bs e1];rfl
abbrev KT(H:Hp):List (List aJ×V)->List (List aJ×ZE×ZC)->Prop:=Paired λp q=>p.1=q.1/\(∃ ys,H q.2.1=some (.tup ys)/\ys.map mC=p.1.map some)/\RelV p.2 q.2.2
def KT.val{H:Hp}{kvs:List (List aJ×V)}{xs:List (List aJ×ZE×ZC)}(r:KT H kvs xs)(k:List aJ):RelO (bG kvs k) ((atKey xs k).map (·.2)):=by
 induction r with
 |nil=>exact True.intro
 |@cons p q ps qs h t ih =>
  obtain⟨h1,_,h2⟩:=h;by_cases e:p.1=k
  ·have e':q.1=k:=h1.symm.trans e
   have b:atKey (q::qs) k=some q.2:=by simp[atKey,O2,e']
   rw[qu e,b];exact h2
  ·have e':¬ q.1=k:=λz=>e (h1.trans z)
   have b:atKey (q::qs) k=atKey qs k:=by simp[atKey,O2,e']
   rw[oj e,b];exact ih
def KT.repl{H:Hp}{kvs:List (List aJ×V)}{xs:List (List aJ×ZE×ZC)}(r:KT H kvs xs)(k:List aJ){y:V}{u:ZC}(ry:RelV y u) :
  KT H (kvs.map λkv=>if kv.1=k then(kv.1,y) else kv) (xs.map (putAt k u)):=by
 induction r with
 |nil=>exact .nil
 |@cons p q ps qs h t ih =>
  rw[Ot,Ot];refine .cons ?_ ih
  obtain⟨h1,h2,h3⟩:=h;unfold putAt;by_cases e:p.1=k
  ·rw[Of e,Of (h1.symm.trans e)];exact⟨h1,h2,ry⟩
  ·rw[Og e,Og (λz=>e (h1.trans z))];exact⟨h1,h2,h3⟩
def KT.put{H:Hp}{kvs:List (List aJ×V)}{xs:List (List aJ×ZE×ZC)}(r:KT H kvs xs)(k:List aJ){b:ZE}{y:V}{u:ZC}(hb:KTup H b k)(ry:RelV y u) :
  KT H (cu kvs k y) (storedH xs k b u):=by
 have e:(kvs.any λkv=>decide (kv.1=k))=(atKey xs k).isSome:=by
  rw[qv,(r.val k).isSome_eq,Qd]
 unfold cu storedH;rw[e];by_cases q:(atKey xs k).isSome=true
 ·rw[Of q,Of q];exact r.repl k ry
 ·rw[Og q,Og q];exact Paired.snoc r ⟨rfl,hb,ry⟩
def KT.keeps{H H':Hp}{kvs:List (List aJ×V)}{xs:List (List aJ×ZE×ZC)}(r:KT H kvs xs)(ht:∀ b ys,H b=some (.tup ys)->H' b=some (.tup ys)):KT H' kvs xs :=(
 Paired.mapP r λ_ _ z=>⟨z.1,z.2.1.imp λ_ e=>⟨ht _ _ e.1,e.2⟩,z.2.2⟩)
section
variable{P:ZD}{w:ZF}{H:Hp}{h:Heap}{a:ZE}
def yv{u:HO}(ok:HOk P w H h)(e:Rd H a u):ObjOk P w H h a u:=(e.ok ok)
def iY{kvs:List (aJ×V)}(ok:HOk P w H h)(e:Rd H a (.dK kvs)):kvs.length<=sizeLine/\(a == sysModules)=false/\∃ vs,KV kvs vs/\h.DictOf (eB P w) a vs :=(
 show ObjOk P w H h a (.dK kvs) from yv ok e)
def dk_of{kvs:List (aJ×V)}(ok:HOk P w H h)(e:H a=some (.dK kvs)):kvs.length<=sizeLine/\(a == sysModules)=false/\∃ vs,KV kvs vs/\h.DictOf (eB P w) a vs:=(iY ok (.inl e))
def kI{ks:List aJ}(ok:HOk P w H h)(e:KTup H a ks):(tupleKind (iC P w)).is h ks a:=by
 obtain⟨ys,e,ek⟩:=e;obtain⟨_,its,r,o,h1,h2,n,h3⟩:=(show ObjOk P w H h a (.tup ys) from ok a _ e)
 exact⟨o,its.toArray,n,h1,h2,h3,by simpa using yt ek r⟩
def jX{xc:Option (List ZE)}{kvs:List (List aJ×V)}(ok:HOk P w H h)(e:Rd H a (.dT xc kvs)):kvs.length<=sizeLine/\(a == sysModules)=false /\
  ∃ xs,KT H kvs xs/\(∀ as,xc=some as->xs.map (·.2.1)=as)/\DictE h (tupleKind (iC P w)) a xs xs.length:=by
 obtain⟨z,y,xs,r,o,es,ep,h1,h2,h3,h4,h5⟩:=(show ObjOk P w H h a (.dT xc kvs) from yv ok e)
 obtain⟨h5,h6,h7⟩:=h5;subst h6;refine⟨z,y,xs,r,h7,o,es,h1,h2,h3,h4,λx hx=>?_,h5⟩
 have all:∀ {l:List (List aJ×V)} {m:List (List aJ×ZE×ZC)},KT H l m->∀ x∈m,(tupleKind (iC P w)).is h x.1 x.2.1:=by
  intro l m q;induction q with
  |nil=>intro x hx;exact nomatch hx
  |@cons p q ps qs hq t ih =>
   intro x hx;rcases Ov.mp hx with e|hx
   ·subst e
    exact kI ok (by rw[<- hq.1];exact hq.2.1)
   ·exact ih x hx
 exact all r x hx
def FT{xc:Option (List ZE)}{kvs:List (List aJ×V)}(ok:HOk P w H h)(e:H a=some (.dT xc kvs)):kvs.length<=sizeLine/\(a == sysModules)=false /\
  ∃ xs,KT H kvs xs/\(∀ as,xc=some as->xs.map (·.2.1)=as)/\DictE h (tupleKind (iC P w)) a xs xs.length:=(jX ok (.inl e))
end
def DGet(H:Hp)(a:ZE)(y:V)(r:Option V):Prop :=
 (∃ kvs k,Rd H a (.dK kvs)/\y=kV k/\r=bG kvs k)\/∃ xc kvs k b,Rd H a (.dT xc kvs)/\y=.ref b/\KTup H b k/\r=bG kvs k
def DPut(H:Hp)(a:ZE)(y v:V)(H':Hp):Prop :=
 (∃ kvs k,H a=some (.dK kvs)/\y=kV k/\kvs.length<sizeLine/\H'=upd H a (.dK (cu kvs k v))) \/
 ∃ xc kvs k b,H a=some (.dT xc kvs)/\y=.ref b/\KTup H b k/\kvs.length<sizeLine/\H'=upd H a (.dT (yu xc (kvs.any λkv=>decide (kv.1=k)) b) (cu kvs k v))
def DGet.k{H:Hp}{a:ZE}{kvs:List (aJ×V)}{k:aJ}(e:H a=some (.dK kvs)):DGet H a (kV k) (bG kvs k):=(.inl ⟨kvs,k,.inl e,rfl,rfl⟩)
def DGet.t{H:Hp}{a b:ZE}{kvs:List (List aJ×V)}{k:List aJ}{xc:Option (List ZE)}(e:H a=some (.dT xc kvs))(eb:KTup H b k):DGet H a (.ref b) (bG kvs k):=(.inr ⟨xc,kvs,k,b,.inl e,rfl,eb,rfl⟩)
def DPut.k{H:Hp}{a:ZE}{kvs:List (aJ×V)}{k:aJ}{v:V}(e:H a=some (.dK kvs))(hl:kvs.length<sizeLine):DPut H a (kV k) v (upd H a (.dK (cu kvs k v))):=(.inl ⟨kvs,k,e,rfl,hl,rfl⟩)
def DPut.t{H:Hp}{a b:ZE}{kvs:List (List aJ×V)}{k:List aJ}{v:V}(e:H a=some (.dT none kvs))(eb:KTup H b k)(hl:kvs.length<sizeLine) :
  DPut H a (.ref b) v (upd H a (.dT none (cu kvs k v))):=(.inr ⟨none,kvs,k,b,e,rfl,eb,hl,rfl⟩)
section
variable{X:Cx}{pins:List (ZE×Obj)}{σ:St}{H:Hp}{s:ZB}{a:ZE}{y v:V}{u r:ZC}{o:Option V}{A:ZG}{E:ZC->ZB->Prop}
def Inv.big(I:Inv X pins σ H s):sysModules<s.heap.objs.size:=by
 have h:mainGlobals<s.heap.objs.size:=(I.mod.glob.keeps I.bk).lt;exact QT 'd' h
def FU{Q:ZC->ZB->Prop}(hu:A.units+1<cLine)(I:Inv X pins σ H s)(g:DGet H a y (some v))(ry:RelV y u)(h:∀ w' s',Inv X pins σ H s'->RelV v w'->Q w' s') :
  wpAny (model X.prog X.w) A (getItem (.ref a) u) Q E s:=by
 rcases g with⟨kvs,k,e,ey,l⟩|⟨xc,kvs,k,b,e,ey,eb,l⟩
 ·subst ey
  obtain⟨z,hd,vs,rel,dd⟩:=iY I.hok e;obtain⟨w',hw,rw'⟩:=RelO.some_of (v:=v) (o:=valueAt vs k) (by rw[l];exact rel.val k)
  exact wpAny_getItem_of (jW ry) dd.mapOf hw (h w' _ (I.tok _) rw')
 ·subst ey
  cases (show u=Value.ref b from ry)
  obtain⟨z,hd,xs,rel,_,dd⟩:=jX I.hok e;replace dd:=dd.of
  obtain⟨w',hw,rw'⟩:=RelO.some_of (v:=v) (o:=(atKey xs k).map (·.2)) (by rw[l];exact rel.val k)
  obtain⟨p,hp,hp2⟩:=Ow.mp hw;refine wpAny_getItem_heap (PL hu) (kI I.hok eb) dd hp ?_
  rw[hp2];exact h w' _ (I.tok _) rw'
def um{Q:ZC->ZB->Prop}(hu:A.units+1<cLine)(I:Inv X pins σ H s)(g:DGet H a y o)(ry:RelV y u)(h:∀ s',Inv X pins σ H s'->Q (.bool o.isSome) s') :
  wpAny (model X.prog X.w) A (compareOp .In u (.ref a)) Q E s:=by
 rcases g with⟨kvs,k,e,ey,l⟩|⟨xc,kvs,k,b,e,ey,eb,l⟩
 ·subst ey
  obtain⟨z,hd,vs,rel,dd⟩:=iY I.hok e;refine wpAny_in_of (jW ry) hd dd.mapOf ?_
  rw[<- (rel.val k).isSome_eq,<- l];exact h _ (I.tok _)
 ·subst ey
  cases (show u=Value.ref b from ry)
  obtain⟨z,hd,xs,rel,_,dd⟩:=jX I.hok e;replace dd:=dd.of
  refine wpAny_in_heap (PL hu) (kI I.hok eb) hd dd ?_
  have q:=(rel.val k).isSome_eq;rw[Qd] at q;rw[<- q,<- l];exact h _ (I.tok _)
def FV{Q:ZC->ZB->Prop}(hu:A.units+1<cLine)(I:Inv X pins σ H s)(g:DGet H a y o)(ry:RelV y u)(h:∀ s',Inv X pins σ H s'->Q (.bool (!o.isSome)) s') :
  wpAny (model X.prog X.w) A (compareOp .NotIn u (.ref a)) Q E s:=by
 rcases g with⟨kvs,k,e,ey,l⟩|⟨xc,kvs,k,b,e,ey,eb,l⟩
 ·subst ey
  obtain⟨z,hd,vs,rel,dd⟩:=iY I.hok e;refine wpAny_notIn_of (jW ry) hd dd.mapOf ?_
  rw[<- (rel.val k).isSome_eq,<- l];exact h _ (I.tok _)
 ·subst ey
  cases (show u=Value.ref b from ry)
  obtain⟨z,hd,xs,rel,_,dd⟩:=jX I.hok e;replace dd:=dd.of
  refine wpAny_notIn_heap (PL hu) (kI I.hok eb) hd dd ?_
  have q:=(rel.val k).isSome_eq;rw[Qd] at q;rw[<- q,<- l];exact h _ (I.tok _)
def qw{h':Heap}{t':Nat}{ob:HO}(I:Inv X pins σ H s)(mu:nU (H a))(hs:Heap.SameBut a s.heap h')(he:∃ q,h'.get? a=some q)(new:ObjOk X.prog X.w (upd H a ob) h' a ob) :
  Inv X pins σ (upd H a ob) { s with heap:=h',toks:=t' } :=(
 I.write (x:=a) (e:=a) mu (.inl rfl) (λb q hb z=>(hs.2 b hb).trans z) he new)
def qx{P:ZD}{w:ZF}{H':Hp}{h':Heap}{kvs:List (aJ×V)}{vs:List (aJ×ZC)}(z:kvs.length<=sizeLine)(hd:(a == sysModules)=false)(rel:KV kvs vs)(dd:h'.DictOf (eB P w) a vs) :
  ObjOk P w H' h' a (.dK kvs):=(⟨z,hd,vs,rel,dd⟩)
def FW{H':Hp}{Q:Unit->ZB->Prop}(hu:A.units+1<cLine)(I:Inv X pins σ H s)(g:DPut H a y v H')(ry:RelV y u)(rv:RelV v r)(h:∀ s',Inv X pins σ H' s'->Q () s') :
  wpAny (model X.prog X.w) A (setItem (.ref a) u r) Q E s:=by
 rcases g with⟨kvs,k,e,ey,l,eH⟩|⟨xc,kvs,k,b,e,ey,eb,l,eH⟩
 ·subst ey eH
  obtain⟨z,hd,vs,rel,dd⟩:=dk_of I.hok e;have hz:vs.length<=sizeLine:=by rw[<- rel.length];exact z
  have hl:(cu kvs k v).length<=sizeLine:=by have:=yq kvs k v;lia
  refine wpAny_setItem_pairs (hsz:=hz) (jW ry) dd λh' dd' hs=>h _ ?_
  have he:∃ q,h'.get? a=some q:=let ⟨q,_,_,hq,_⟩:=dd';⟨q,hq⟩
  exact qw I (by rw[e];exact True.intro) hs he (qx hl hd (rel.put k rv) dd')
 ·subst ey eH
  cases (show u=Value.ref b from ry)
  obtain⟨z,hd,xs,rel,ha,dd⟩:=FT I.hok e;have hz:xs.length<=sizeLine:=by rw[<- Paired.length rel];exact z
  have hl:(cu kvs k v).length<=sizeLine:=by have:=yq kvs k v;lia
  have eo:(kvs.any λkv=>decide (kv.1=k))=(atKey xs k).isSome:=by rw[qv,(rel.val k).isSome_eq,Qd]
  refine uk (PL hu) (kI I.hok eb) dd hz λh' dd' hs=>h _ ?_
  obtain⟨q,es,hq,h2,h3,h4,_,h5⟩:=dd';refine qw I (by rw[e];exact True.intro) hs ⟨q,hq⟩ ⟨hl,hd,_,(rel.put k eb rv).keeps λc ys ec=>?_,q,es,_,hq,h2,h3,h4,h5,rfl,by rw[eo];exact FS ha⟩
  rw[bg (Dw ec e (λz=>nomatch z))];exact ec
end
section
variable{X:Cx}{pins:List (ZE×Obj)}{σ:St}{H:Hp}{s:ZB}{a:ZE}{kvs:List (aJ×V)}{k:aJ}{u:ZC}{A:ZG}{E:ZC->ZB->Prop}
def FY{v:V}{more:List ZC}{Q:ZC->ZB->Prop}(I:Inv X pins σ H s)(e:H a=some (.dK kvs))(ry:RelV (kV k) u)(l:bG kvs k=some v)(hm:more=[]\/∃ x,more=[x])
  (h:∀ w' s',Inv X pins σ (upd H a (.dK (jh kvs k))) s'->RelV v w'->Q w' s'):wpAny (model X.prog X.w) A (call (.builtin "dict.pop") (.ref a::u::more)) Q E s:=by
 obtain⟨z,hd,vs,rel,dd⟩:=dk_of I.hok e;obtain⟨w',hw,rw'⟩:=RelO.some_of (v:=v) (o:=valueAt vs k) (by rw[<- l];exact rel.val k)
 have hp:(keyPart u).isSome=true:=by
  cases k with
  |inl i=>obtain⟨t,q⟩:=(show ∃ t,u=Value.int i t from ry);subst q;rfl
  |inr x=>obtain⟨t,q⟩:=(show ∃ t,u=Value.str x t from ry);subst q;rfl
 have ha:argsOk "dict.pop" ⟨.ref a::u::more,[]⟩:=by
  rcases hm with q|⟨x,q⟩
  ·subst q;exact PySem.F.args_dict_pop_2 _ _
  ·subst q;exact PySem.F.args_dict_pop_3 _ _ _
 refine QG RR dd.typeIs PySem.F.entry_dict_pop ha (meets_dict_pop_there (eB X.prog X.w) a (jW ry) more hm hp)
  ⟨vs,w',dd,by rw[<- rel.length];exact z,hw,λh' dd' hs=>h w' _ ?_ rw'⟩
 have he:∃ q,h'.get? a=some q:=let ⟨q,_,_,hq,_⟩:=dd';⟨q,hq⟩
 exact qw I (by rw[e];exact True.intro) hs he (qx (Oc (yr kvs k) z) hd (rel.drop k) dd')
def FZ{Q:ZC->ZB->Prop}(I:Inv X pins σ H s)(e:Rd H a (.dK kvs))(h:∀ t s',Inv X pins σ H s'->Q (.int kvs.length t) s'):wpAny (model X.prog X.w) A (call (.builtin "len") [.ref a]) Q E s:=by
 obtain⟨z,hd,vs,rel,dd⟩:=iY I.hok e;refine call_len_dict hd dd (by rw[<- rel.length];rw[sizeLine_eq] at z;lia) ?_
 rw[<- rel.length];exact h _ _ (I.tok _)
end
def om(i:Expr):Prop:=∀ ov iv,subscripted i false ov iv=operate [ov,iv] (getItem ov iv)
def F8 {prog:ZD} {w:ZF} {A:ZG} {E:ZC->ZB->Prop} {s:ZB} {env:Env} {value slice:Expr} {pos:Pos} {T id:String} {Q:ZC->ZB->Prop}
  (hl:typeLookup (.type T) "__getitem__"=pure (some (.builtin id))) (hs:om slice)
  (h:wpAny (model prog w) A (eval value env) (λo s₁=>wpAny (model prog w) A (eval slice env) (λi s₂=>s₂.TypeIs o T/\wpAny (model prog w) A (getItem o i) Q E s₂) E s₁) E s) :
  wpAny (model prog w) A (eval (.Subscript value slice pos) env) Q E s:=by
 refine Subscript_ (OV h (λo s₁ h₁=>OV h₁ (λi s₂ h₂=>?_) λ_ _ x=>x) λ_ _ x=>x)
 obtain⟨hT,h₂⟩:=h₂;unfold subscriptTail;refine N9 ?_
 rw[getitemInPython_of_ne hT.not_modules];refine N9 (RQ hT hl ?_)
 have fin:wpAny (model prog w) A (subscripted slice false o i) (λr s₃=>wpAny (model prog w) A (letTemporaryGo value o r >>= λ_=>pure r) Q E s₃) E s₂:=by
  rw[hs o i];exact wpAny_operating (OV h₂ (λr s₃ h₃=>N9 (wpAny_letTemporaryGo (Oi h₃))) λ_ _ x=>x)
 first
  |exact Oi (N9 fin)
  |exact N9 (Oi (N9 fin))
  |exact N9 fin
def F9{X:Cx}{pins:List (ZE×Obj)}{σ:St}{H:Hp}{s:ZB}{a:ZE}{y:V}{o:Option V}(I:Inv X pins σ H s)(g:DGet H a y o):s.TypeIs (.ref a) "dict" := by
 rcases g with⟨kvs,k,e,_,_⟩|⟨xc,kvs,k,b,e,_,_,_⟩
 ·obtain⟨_,_,vs,_,dd⟩:=iY I.hok e
  exact dd.typeIs
 ·obtain⟨_,_,xs,_,_,dd⟩:=jX I.hok e
  replace dd:=dd.of
  exact dd.typeIs
def Ga(td ty:TE):TE:=λσ H Q=>td σ H λx H1=>ty σ H1 λy H2=>∃ a v,x=.ref a/\DGet H2 a y (some v)/\Q v H2
def Gb(td ty tv:TE):TS:=λD σ H=>tv σ H λv H1=>td σ H1 λx H2=>ty σ H2 λy H3=>∃ a H4,x=.ref a/\DPut H3 a y v H4/\D.nx σ H4
section
variable{X:Cx}{o i e value:Expr}{pos pos' tpos:Pos}{td ty tv:TE}
def yw(hu:X.A.units+1<cLine)(ho:PE X o td)(hi:PE X i ty)(hs:om i):PE X (.Subscript o i pos) (Ga td ty):=by
 intro pins s σ H Q I h;refine F8 PySem.F.slot_dict_getitem.lookup hs (thn (ho pins s σ H _ I h) λu s1 ⟨x,H1,I1,rx,q1⟩=>thn (hi pins s1 σ H1 _ I1 q1) λiv s2 Zz=>?_);obtain⟨y,H2,I2,ry,a,v,ex,g,q2⟩:=Zz
 subst ex;obtain rfl:u=Value.ref a:=rx
 exact⟨F9 I2 g,FU hu I2 g ry λw' s3 I3 rw'=>⟨v,H2,I3,rw',q2⟩⟩
def Gc(hu:X.A.units+1<cLine)(ho:PE X o td)(hi:PE X i ty)(hv:PE X value tv)(hs:swapsWith value (some (.Subscript o i pos')) pos.line X.env=pure false) :
  PS X (.Assign [.Subscript o i pos'] value pos) (Gb td ty tv):=by
 intro pins s σ H D I h;refine wpAny_Assign_Subscript (thn (hv pins s σ H _ I h) λr s1 ⟨v,H1,I1,rv,q1⟩=>thn (ho pins s1 σ H1 _ I1 q1) λu s2 ⟨x,H2,I2,rx,q2⟩=>thn (hi pins s2 σ H2 _ I2 q2) λiv s3 Zz=>?_) hs;obtain⟨y,H3,I3,ry,a,H4,ex,g,q3⟩:=Zz
 subst ex;obtain rfl:u=Value.ref a:=rx
 exact FW hu I3 g ry rv λs4 I4=>⟨σ,H4,I4,q3⟩
end
def Ge{P:ZD}{w:ZF}{H:Hp}(h:Heap)(hb:sysModules<h.objs.size):ObjOk P w H (h.push { cls:=.type "dict",data:=.dict #[] }) h.objs.size (.dK []) :=(
 ⟨OH _,beq_eq_false_iff_ne.mpr (Ne.symm (OJ hb)),[],.nil,Heap.DictOf.new h⟩)
def Gg{P:ZD}{w:ZF}{H:Hp}{xc:Option (List ZE)}(hx:xc=none\/xc=some [])(h:Heap)(hb:sysModules<h.objs.size):ObjOk P w H (h.push { cls:=.type "dict",data:=.dict #[] }) h.objs.size (.dT xc []) :=(
 ⟨OH _,beq_eq_false_iff_ne.mpr (Ne.symm (OJ hb)),[],.nil,_,#[],0,Os _ rfl,⟨rfl,rfl,rfl⟩,rfl,rfl,Qe,rfl,λas e=>by
  rcases hx with rfl|rfl
  ·cases e
  ·injection e⟩)
def Gh:TE:=λ_ H Q=>∀ p,H p=none->Q (.ref p) (upd H p (.dK []))
def Gi:TE:=λ_ H Q=>∀ p,H p=none->Q (.ref p) (upd H p (.dT none []))
section
variable{X:Cx}{pos:Pos}
def Gj:PE X (.Dict [] [] pos) Gh:=(λpins s σ H Q I h =>
 wpAny_Dict_empty ⟨.ref s.heap.objs.size,_,I.laid (a:=s.heap.objs.size) (o:=.dK []) (t':=s.toks) (λ_ _ q=>Oe _ q) (Oa _) (Ge s.heap I.big),rfl,h _ (I.hok.fresh (Oa _))⟩)
def Gn:PE X (.Dict [] [] pos) Gi:=(λpins s σ H Q I h =>
 wpAny_Dict_empty ⟨.ref s.heap.objs.size,_,I.laid (a:=s.heap.objs.size) (o:=.dT none []) (t':=s.toks) (λ_ _ q=>Oe _ q) (Oa _) (Gg (.inl rfl) s.heap I.big),rfl,h _ (I.hok.fresh (Oa _))⟩)
end
structure M1(X:Cx)(o:Expr)(m:Str)(apos:Pos)(e:Expr)(cpos:Pos):Prop where
 base:attributeBase o m X.env (eval o X.env)=eval o X.env
 few:((backTo cpos (starEach [e] X.env)).all (λx=>!x.1) && (backToKw cpos (keywordEach [] X.env)).all (λx=>x.1.isSome)
  && decide (([e]:List Expr).length+([]:List Keyword).length+(if ([]:List Keyword).isEmpty then 0 else 1)<30))=true
 line:(apos.endLine == cpos.line)=true
 trees:backTo cpos (starEach [e] X.env)=[(false,eval e X.env)]
structure M2(X:Cx)(o:Expr)(m:Str)(apos:Pos)(e f:Expr)(cpos:Pos):Prop where
 base:attributeBase o m X.env (eval o X.env)=eval o X.env
 few:((backTo cpos (starEach [e,f] X.env)).all (λx=>!x.1) && (backToKw cpos (keywordEach [] X.env)).all (λx=>x.1.isSome)
  && decide (([e,f]:List Expr).length+([]:List Keyword).length+(if ([]:List Keyword).isEmpty then 0 else 1)<30))=true
 line:(apos.endLine == cpos.line)=true
 trees:backTo cpos (starEach [e,f] X.env)=[(false,eval e X.env),(false,eval f X.env)]
def oq(H:Hp)(a:ZE):Prop:=(∃ kvs,Rd H a (.dK kvs))\/∃ xc kvs,Rd H a (.dT xc kvs)
def uo{X:Cx}{pins:List (ZE×Obj)}{σ:St}{H:Hp}{s:ZB}{a:ZE}(I:Inv X pins σ H s)(d:oq H a) :
  s.TypeIs (.ref a) "dict" /\ (∀ b,Value.ref a=.ref b->∃ ob,s.heap.get? b=some ob/\ob.dict=none)/\(a == sysModules)=false:=by
 rcases d with⟨kvs,e⟩|⟨xc,kvs,e⟩
 ·obtain⟨_,hd,vs,_,dd⟩:=iY I.hok e
  refine⟨dd.typeIs,λb q=>?_,hd⟩
  cases q
  obtain⟨ob,_,_,h1,h2,_⟩:=dd;exact⟨ob,h1,h2.2.1⟩
 ·obtain⟨_,hd,xs,_,_,dd⟩:=jX I.hok e
  replace dd:=dd.of
  refine⟨dd.typeIs,λb q=>?_,hd⟩
  cases q
  obtain⟨ob,_,_,h1,h2,_⟩:=dd;exact⟨ob,h1,h2.2.1⟩
section
variable{X:Cx}{pins:List (ZE×Obj)}{σ:St}{H:Hp}{s:ZB}{a:ZE}{y d:V}{u r:ZC}{o:Option V}{A:ZG}{E:ZC->ZB->Prop}
def Gp{Q:ZC->ZB->Prop}(hu:A.units+1<cLine)(I:Inv X pins σ H s)(g:DGet H a y o)(ry:RelV y u)(h:∀ w' s',Inv X pins σ H s'->RelV (o.getD .non) w'->Q w' s') :
  wpAny (model X.prog X.w) A (call (.builtin "dict.get") [.ref a,u]) Q E s:=by
 rcases g with⟨kvs,k,e,ey,l⟩|⟨xc,kvs,k,b,e,ey,eb,l⟩
 ·subst ey
  obtain⟨z,hd,vs,rel,dd⟩:=iY I.hok e;refine QG Po dd.typeIs P4 (Rm _ _) (meets_dict_get (eB X.prog X.w) a (jW ry) hd) ⟨_,dd.mapOf,h _ _ (I.tok _) ?_⟩
  rw[l];exact(rel.val k).getD rfl
 ·subst ey
  cases (show u=Value.ref b from ry)
  obtain⟨z,hd,xs,rel,_,dd⟩:=jX I.hok e;replace dd:=dd.of
  refine QG Po dd.typeIs P4 (Rm _ _) (meetsH_dict_get (tupleKind (iC X.prog X.w)) a b hd) ⟨PL hu,k,xs,kI I.hok eb,dd,h _ _ (I.tok _) ?_⟩
  rw[l];exact(rel.val k).getD rfl
def Gq{Q:ZC->ZB->Prop}(hu:A.units+1<cLine)(I:Inv X pins σ H s)(g:DGet H a y o)(ry:RelV y u)(rd:RelV d r)(h:∀ w' s',Inv X pins σ H s'->RelV (o.getD d) w'->Q w' s') :
  wpAny (model X.prog X.w) A (call (.builtin "dict.get") [.ref a,u,r]) Q E s:=by
 rcases g with⟨kvs,k,e,ey,l⟩|⟨xc,kvs,k,b,e,ey,eb,l⟩
 ·subst ey
  obtain⟨z,hd,vs,rel,dd⟩:=iY I.hok e;refine QG Po dd.typeIs P4 (Rn _ _ _) (meets_dict_get_default (eB X.prog X.w) a (jW ry) hd r) ⟨_,dd.mapOf,h _ _ (I.tok _) ?_⟩
  rw[l];exact(rel.val k).getD rd
 ·subst ey
  cases (show u=Value.ref b from ry)
  obtain⟨z,hd,xs,rel,_,dd⟩:=jX I.hok e;replace dd:=dd.of
  refine QG Po dd.typeIs P4 (Rn _ _ _) (meetsH_dict_get_default (tupleKind (iC X.prog X.w)) a b hd r) ⟨PL hu,k,xs,kI I.hok eb,dd,h _ _ (I.tok _) ?_⟩
  rw[l];exact(rel.val k).getD rd
end
def Gr(td ty:TE):TE:=λσ H Q=>td σ H λx H1=>∃ a,x=.ref a/\oq H1 a/\ty σ H1 λy H2=>∃ o,DGet H2 a y o/\Q (o.getD .non) H2
def Gs(td ty tx:TE):TE:=λσ H Q=>td σ H λx H1=>∃ a,x=.ref a/\oq H1 a/\ty σ H1 λy H2=>tx σ H2 λz H3=>∃ o,DGet H3 a y o/\Q (o.getD z) H3
def Gu(td ty:TE):TE:=λσ H Q=>td σ H λx H1=>∃ a,x=.ref a/\oq H1 a/\ty σ H1 λy H2=>∃ kvs k v,H2 a=some (.dK kvs)/\y=kV k/\bG kvs k=some v/\Q v (upd H2 a (.dK (jh kvs k)))
section
variable{X:Cx}{o e f:Expr}{apos cpos:Pos}{td ty tx:TE}
def Gw (hu:X.A.units+1<cLine) (ho:PE X o td) (he:PE X e ty) (m:M1 X o "get" apos e cpos):PE X (.Call (.Attribute o "get" apos) [e] [] cpos) (Gr td ty):=by
 intro pins s σ H Q I h;refine Rf m.base m.few m.line PY Po RS (thn (ho pins s σ H _ I h) λu s1 Zz=>?_);obtain⟨x,H1,I1,rx,a,ex,d,q1⟩:=Zz
 subst ex;obtain rfl:u=Value.ref a:=rx
 obtain⟨t1,t2,_⟩:=uo I1 d;refine⟨t1,t2,?_⟩
 rw[m.trees];refine PF rfl (PR (P2 (thn (he pins s1 σ H1 _ I1 q1) λiv s2 ⟨y,H2,I2,ry,ov,g,q2⟩=>QA ?_)))
 exact Gp hu I2 g ry λw' s3 I3 rw'=>⟨_,H2,I3,rw',q2⟩
def Gx (hu:X.A.units+1<cLine) (ho:PE X o td) (he:PE X e ty) (hf:PE X f tx) (m:M2 X o "get" apos e f cpos):PE X (.Call (.Attribute o "get" apos) [e,f] [] cpos) (Gs td ty tx):=by
 intro pins s σ H Q I h;refine Rf m.base m.few m.line PY Po RS (thn (ho pins s σ H _ I h) λu s1 Zz=>?_);obtain⟨x,H1,I1,rx,a,ex,d,q1⟩:=Zz
 subst ex;obtain rfl:u=Value.ref a:=rx
 obtain⟨t1,t2,_⟩:=uo I1 d;refine⟨t1,t2,?_⟩
 rw[m.trees];refine PF rfl (PR (P2 (thn (he pins s1 σ H1 _ I1 q1) λiv s2 ⟨y,H2,I2,ry,q2⟩ =>
  P2 (thn (hf pins s2 σ H2 _ I2 q2) λfv s3 ⟨z,H3,I3,rz,ov,g,q3⟩=>QA ?_))))
 exact Gq hu I3 g ry rz λw' s4 I4 rw'=>⟨_,H3,I4,rw',q3⟩
def Gy (ho:PE X o td) (he:PE X e ty) (m:M1 X o "pop" apos e cpos):PE X (.Call (.Attribute o "pop" apos) [e] [] cpos) (Gu td ty):=by
 intro pins s σ H Q I h;refine Rf m.base m.few m.line PY RR PySem.F.type_dict_pop (thn (ho pins s σ H _ I h) λu s1 Zz=>?_);obtain⟨x,H1,I1,rx,a,ex,d,q1⟩:=Zz
 subst ex;obtain rfl:u=Value.ref a:=rx
 obtain⟨t1,t2,_⟩:=uo I1 d;refine⟨t1,t2,?_⟩
 rw[m.trees];refine PF rfl (PR (P2 (thn (he pins s1 σ H1 _ I1 q1) λiv s2 ⟨y,H2,I2,ry,kvs,k,v,ea,ey,l,q2⟩=>QA ?_)))
 subst ey;exact FY I2 ea ry l (.inl rfl) λw' s3 I3 rw'=>⟨v,_,I3,rw',q2⟩
end
section
variable{X:Cx}{pins:List (ZE×Obj)}{σ:St}{H:Hp}{s:ZB}{a:ZE}{kvs:List (aJ×V)}{A:ZG}{E:ZC->ZB->Prop}
end
section
variable{X:Cx}{pins:List (ZE×Obj)}{σ:St}{H:Hp}{s:ZB}{a:ZE}{y:V}{u:ZC}{A:ZG}{E:ZC->ZB->Prop}
end
end L2
namespace Att
open PySem PySem.W PySem.Calls PyProof.Rows
def Gz{P:Params}{h:Heap}:∀ (ns:List Int) (vs:List ZC),WellAll P h vs (ns.map WData.int)->IntsAre vs ns:=by
 intro ns;induction ns with
 |nil =>
  intro vs w;rw[P5] at w
  cases w
  exact .nil
 |cons n ns ih =>
  intro vs w;rw[Ot] at w
  cases w with
  |cons a b =>
   cases a
   exact .cons _ _ (ih _ b)
def GA{l:OpenLaw}{n:Nat}(hn:l.most=some n){P:Params}{h:Heap}{args:List WData}{vals:List ZC}
  (hpre:l.row.toRowW.claim.pre args=true)(hwl:WellAll P h vals args) :
  ∃ a vs ns,vals=[Value.ref a]/\args=[WData.list (ns.map WData.int)]/\h.get? a=some { cls:=.type "list",data:=.seq vs.toArray }/\IntsAre vs ns/\ns.length<=n:=by
 have hsh:WShape.hasAll [] args [.list .int]=true:=(pre_splitW hpre).1;have hc:l.pre.holds [] { args:=args }=true:=(pre_splitW hpre).2;obtain⟨d,r,rfl,h1,h2⟩:=hasAllW_cons hsh;obtain rfl:=hasAllW_nil h2;obtain⟨xs,rfl,h3⟩:=hasW_list h1;obtain⟨ns,rfl⟩:=items_int h3;have hlen:ns.length<=n:=by
  unfold OpenLaw.pre at hc;have h4:(WTm.not (.lt (.lit (.int (n:Int))) (.len (.arg 0)))).holds [] { args:=[.list (ns.map .int)] }=true:=by
   have h4:=(holds_andW hc).1;rw[hn] at h4;exact h4
  have h5:=condW_of h4 (w_not (w_lt w_lit (w_len_list (w_arg rfl))));rw[Oh] at h5;refine Ro λq=>?_
  have q':(n:Int)<((ns.length:Nat):Int):=by lia
  first
   |(rw[OM q'] at h5;exact absurd h5 'd')
   |(simp at h5;lia)
 cases hwl with
 |cons w1 w2 =>
  cases w2
  cases w1 with
  |list ho hall=>exact⟨_,_,ns,rfl,rfl,ho,Gz ns _ hall,hlen⟩
def GB(l:OpenLaw)(args:List WData):l.row.toRowW.claim.post args (.bool true) args=true :=(
 postW_of (r:=l.row.toRowW) (X:=(true == true))
  (show WShape.has [] (.bool true) .bool=true by first|rfl|decide|simp[WShape.has,WShape.arms,WShape.armsAll])
  (show (WTm.eq .res (.lit (.bool true))).value [] { args:=args,res:=some (.bool true),after:=args }=some (.bool (true == true)) from w_eq_bool (w_res rfl) w_lit) rfl)
def attach_call {l:OpenLaw} {n:Nat} {q:ZD} {loose:List Str} {XP:(Str->Option ZC)->Heap->Prop} {YP:ZF->Heap->Prop} {d:DefRec}
  (hn:l.most=some n) (hdf:d.params.defaults=[])
  (call:∀ (w:ZF) (s₀ s₁:ZB) (mg mb:Str->Option ZC) (fa:ZE) (o:Obj) (pm cd doc:ZC) (a:ZE) (vs:List ZC) (ns:List Int),
   Ground q loose [] XP w s₀ mg mb s₁.heap->YP w s₁.heap ->
   s₁.heap.get? fa=some o->o.data=.func (docDef d.name d.params d.body d.scope pm cd doc)->s₁.heap.CodeRec cd d.name->mg d.name=some (.ref fa) ->
   s₁.heap.get? a=some { cls:=.type "list",data:=.seq vs.toArray }->IntsAre vs ns->ns.length<=n->s₁.gens=#[] ->
   codeAny (model l.prog w) callerA (.call (.ref fa) ⟨[.ref a],[]⟩) (λr s'=>r=.ok (.ret (.bool true))/\OldK s₁.heap s'.heap/\s'.os=s₁.os/\AllBare s'.gens) s₁) :
  WalkO q loose XP YP l.row.toRowW d [] (λf vs=>PySem.call f vs):=by
 intro w s₀ s₁ mg mb G Y fa o pm cd doc dV kV ho hd hcd hD hmg hg args vals as hpre hlay hrd hwl hlo;obtain rfl:dV=.none:=Dflts.none hD hdf;obtain rfl:kV=.none:=Dflts.noKw hD;obtain⟨a,vs,ns,rfl,rfl,hobj,hints,hlen⟩:=GA hn hpre hwl;refine enter_call (RM (call w s₀ s₁ mg mb fa o pm cd doc a vs ns G Y ho (fd_plain hd) hcd hmg hobj hints hlen hg) λr s' hq=>?_)
 obtain⟨rfl,h2,h3,h4⟩:=hq;exact⟨.inl ⟨.bool true,.bool true,[],rfl,λ_=>rfl,.bool true,GB l _,λ_=>⟨List.Pairwise.nil,λ_ hm=>(nomatch hm)⟩⟩,h2,h3,h4⟩
section
variable{prog:ZD}{w:ZF}{A:ZG}{E:ZC->ZB->Prop}{s:ZB}{K:Frag}
end
end Att
namespace L2
open PySem PySem.Spec PyProof.Rows
theorem yx:∀ {vs:List ZC} {ns:List Int},IntsAre vs ns->Vals (ns.map V.int) vs
 |_,_,.nil=>.nil
 |_,_,.cons n t h=>.cons ⟨t,rfl⟩ (yx h)
def kJ(H:Hp):Prop:=∀ b,H b=none\/∃ o xs,H b=some (.frz o (.lst xs))
def GC {P:ZD} {w:ZF} {K:ZA} {mg mb:Str->Option ZC} {CX:fR} {k:Nat} {fa a:ZE} {fd:FuncData} {x:Str} {sp:Sp} {s₁:ZB} {vs:List ZC} {ns:List Int}
  (KX:K.In s₁.heap) (hns:s₁.heap.Ns mainGlobals mg) (hb:s₁.heap.Ns builtinsNs mb) (hbb:∀ x:Str,x ≠ "__name__" -> mb x=bootBuiltins x) (hlim:s₁.heap.NoLimit) (hg:s₁.gens=#[])
  (ha:s₁.heap.get? a=some { cls:=.type "list",data:=.seq vs.toArray }) (hi:IntsAre vs ns) (hl:ns.length<=sizeLine) (hr:Room k callerA)
  (F:∀ base:Heap,K.In base->base.Ns mainGlobals mg->FnOk P w K mg base CX k fa fd [x] sp) (hbind:∀ (s:ZB) (u:ZC),BindsTo s fd ⟨[u],[]⟩ [(x,u)])
  (hsp:∀ H:Hp,kJ H->SqL K H a (ns.map V.int)->sp [.ref a] H (λv _=>v=.bl true) λ_ _ _=>False)
  (hCX:∀ H e s',CX [] H s₁ (λ_ _ _=>False) e s'->False) :
  codeAny (model P w) callerA (.call (.ref fa) ⟨[.ref a],[]⟩) (λr s'=>r=.ok (.ret (.bool true))/\OldK s₁.heap s'.heap/\s'.os=s₁.os/\AllBare s'.gens) s₁:=by
 have rv:=yx hi;have lenV:=hi.length;have core:∀ H:Hp,kJ H->SqL K H a (ns.map V.int)->HOk P w H s₁.heap->(∀ b,H b≠none->b=a)->(H a≠none->K.lookup a=none) ->
   codeAny (model P w) callerA (.call (.ref fa) ⟨[.ref a],[]⟩) (λr s'=>r=.ok (.ret (.bool true))/\OldK s₁.heap s'.heap/\s'.os=s₁.os/\AllBare s'.gens) s₁:=by
  intro H hO hS hok hA hK;have base_of:∀ {b:ZE} {o:Obj},s₁.heap.get? b=some o->H b=none->(eI s₁.heap H).get? b=some o:=λe n=>Dy e n
  have noA:∀ {b:ZE} {o:Obj} {es:Array DictEntry} {ep:Nat},s₁.heap.get? b=some o->o.data=.dict es ep->H b=none:=λ{b o es ep} e d=>by
   cases q:H b with
   |none=>rfl
   |some u =>
    have e':b=a:=hA b (by rw[q];simp)
    subst e'
    rw[ha] at e;cases e
    have d':Data.seq vs.toArray _=Data.dict es ep:=d
    cases d'
  have nsK:∀ {b:ZE} {m:Str->Option ZC},s₁.heap.Ns b m->(eI s₁.heap H).Ns b m:=λ{b m} ⟨o,es,ep,e,d,r⟩=>⟨o,es,ep,base_of e (noA e d),d,r⟩
  have hKb:K.In (eI s₁.heap H):=λb o e=>base_of (KX b o e) (by
   cases q:H b with
   |none=>rfl
   |some u =>
    have e':b=a:=hA b (by rw[q];simp)
    subst e'
    rw[hK (by rw[q];simp)] at e;cases e)
  have hM:Mod K mg (eI s₁.heap H):=⟨hKb,nsK hns,⟨mb,nsK hb,hbb⟩,let ⟨mc,h1,h2⟩:=hlim;⟨mc,nsK h1,h2⟩⟩
  have e0:Env0 P w K mg (eI s₁.heap H) callerA [] s₁ H:=⟨rfl,hM,λb o e=>DA e,RB (Dx _ _),trivial,λb hb=>absurd (show b∈([]:List ZE) from hb) 's',hok,.of_eq hg⟩
  refine RM ((F _ hKb (nsK hns)).run callerA [] s₁ H ⟨[.ref a],[]⟩ [.ref a] [.ref a] _ _ hr e0 (hbind s₁ (.ref a)) (.cons rfl .nil) (hsp H hO hS)) λr s' h=>?_
  cases r with
  |error e=>exact(hCX H e s' h).elim
  |ok fl =>
   cases fl with
   |next=>exact False.elim h
   |brk=>exact False.elim h
   |cont=>exact False.elim h
   |ret u =>
    obtain⟨v,H',os,bare,un,hok',r',q⟩:=h;have q':v=.bl true:=q;subst q'
    obtain rfl:u=Value.bool true:=r';refine⟨rfl,OldK.of_keep λb o e=>?_,os,bare⟩
    cases q:H b with
    |none=>exact un.keep b o e q (by intro z;exact absurd (show b∈([]:List ZE) from z) 's') 's'
    |some u =>
     rcases hO b with z|⟨ob,xs,z⟩
     ·rw[q] at z;cases z
     ·have z2:=un.frzs b ob _ z
      obtain⟨e1,_⟩:=hok b _ z;obtain⟨e2,_⟩:=hok' b _ z2;rw[e] at e1;cases e1
      exact e2
 cases hk:K.lookup a with
 |some o =>
  have e:=KX a o hk;rw[ha] at e
  cases e
  refine core (λ_=>none) (λ_=>.inl rfl) (.inr ⟨_,vs.toArray,_,hk,rfl,rfl,rfl,by rw[Oq,lenV];exact hl,by simpa using rv⟩) (λb u z=>by have z':(none:Option HO)=some u:=z;cases z') (λb z=>absurd rfl z) λz=>absurd rfl z
 |none =>
  refine core (λb=>if b=a then some (.frz { cls:=.type "list",data:=.seq vs.toArray } (.lst (ns.map V.int))) else none) (λb=>?_) (.inl (.inr ⟨{ cls:=.type "list",data:=.seq vs.toArray },Of rfl⟩)) (λb u z=>?_) (λb z=>?_) λ_=>hk
  ·by_cases hb:b=a
   ·exact .inr ⟨_,_,Of hb⟩
   ·exact .inl (Og hb)
  ·by_cases hb:b=a
   ·have z':=(Of hb).symm.trans z
    cases z'
    subst hb;exact⟨ha,by rw[Oh];exact hl,vs,_,rv,ha⟩
   ·have z':=(Og hb).symm.trans z
    cases z'
  ·by_cases hb:b=a
   ·exact hb
   ·exact absurd (Og hb) z
def walk_of{l:PySem.W.OpenLaw}{n k:Nat}{q:ZD}{loose:List Str}{XP:(Str->Option ZC)->Heap->Prop}{YP:ZF->Heap->Prop}{d:DefRec}{K:Params->ZA}{CX:ZF->fR}{sp:ZF->Sp}{x:Str}
  (hn:l.most=some n)(hn2:n<=sizeLine)(hdf:d.params.defaults=[])(hr:Room k callerA)
  (hY:∀ (w:ZF) (h:Heap),YP w h->(K w.params).In h)
  (F:∀ (w:ZF) (mg:Str->Option ZC) (fa:ZE) (h:Heap),(K w.params).In h->h.Ns mainGlobals mg->mg d.name=some (.ref fa) ->
   ∃ fd:FuncData,(∀ (s:ZB) (u:ZC),BindsTo s fd ⟨[u],[]⟩ [(x,u)]) /\
    ∀ base:Heap,(K w.params).In base->base.Ns mainGlobals mg->FnOk l.prog w (K w.params) mg base (CX w) k fa fd [x] (sp w))
  (hsp:∀ (w:ZF) (H:Hp) (a:ZE) (ns:List Int),ns.length<=n->kJ H->SqL (K w.params) H a (ns.map V.int)->sp w [.ref a] H (λv _=>v=.bl true) λ_ _ _=>False)
  (hCX:∀ (w:ZF) (H:Hp) (s:ZB) (e:ZC) (s':ZB),CX w [] H s (λ_ _ _=>False) e s'->False) :
  PySem.W.WalkO q loose XP YP l.row.toRowW d [] (λf vs=>PySem.call f vs):=by
 refine Att.attach_call hn hdf λw s₀ s₁ mg mb fa o pm cd doc a vs ns G Y ho hd hcd hmg hobj hints hlen hg=>?_
 have KX:=hY w _ Y;obtain⟨fd,hb,hF⟩:=F w mg fa _ KX G.T.g hmg;exact GC KX G.T.g G.T.b G.T.builtins G.T.nolimit hg hobj hints (Oc hlen hn2) hr hF hb (λH hO hS=>hsp w H a ns hlen hO hS) λH e s'=>hCX w H s₁ e s'
def cL(s:Stmt)(j:Nat):Stmt:=match s with
 |.ClassDef _ _ _ body _ _ _ _ _ _ _=>body.getD j (.Pass ⟨0,0,0,0⟩)
 |_=>.Pass ⟨0,0,0,0⟩
def kK(s:Stmt):Arguments:=match s with
 |.FunctionDef _ a _ _ _ _ _ _ _ _=>a
 |_=>{ posonlyargs:=[],args:=[],vararg:=none,kwonlyargs:=[],kw_defaults:=[],kwarg:=none,defaults:=[] }
def iZ(s:Stmt):List Stmt:=match s with
 |.FunctionDef _ _ b _ _ _ _ _ _ _=>b
 |_=>[]
def bL(s:Stmt):Scope:=match s with
 |.FunctionDef _ _ _ _ _ _ sc _ _ _=>sc
 |_=>{ kind:=.function,names:=[],isGenerator:=false,isCoroutine:=false }
abbrev E0:XK:=λ_ _ _=>False
structure Fun(K:ZA)(x qual:Str)(st:Stmt)(f:ZE)(fd:FuncData):Prop where
 ex:∃ (oc:ZC) (od:Option ZE) (kV doc pm:ZC) (an:Option ZE) (cdv ct:ZC) (osl:Array (Option ZC)),
  fd=PySem.W.fnOf x qual (kK st) (iZ st) (bL st) .none kV doc pm an cdv ct/\K.lookup f=some ⟨oc,od,.func fd,osl⟩/\PySem.W.codeIn K cdv qual=true
 kp:PySem.W.keepIn K (.ref f)=true
section
variable{P:ZD}{w:ZF}{K:ZA}{mg:Str->Option ZC}{base:Heap}
def Fun.binds{x qual:Str}{st:Stmt}{f:ZE}{fd:FuncData}{ps:List Str}(F:Fun K x qual st f fd)
  (h:∀ (kV doc pm:ZC) (an:Option ZE) (cdv ct:ZC) (us:List ZC),us.length=ps.length->bindArgs (PySem.W.fnOf x qual (kK st) (iZ st) (bL st) .none kV doc pm an cdv ct) ⟨us,[]⟩=pure (ps.zip us)):Binds K fd ps []:=by
 obtain⟨oc,od,kV,doc,pm,an,cdv,ct,osl,rfl,lk,hcd⟩:=F.ex;exact .all (h kV doc pm an cdv ct)
def yy{x qual:Str}{st:Stmt}{f:ZE}{oc:ZC}{od an:Option ZE}{osl:Array (Option ZC)}{kV doc pm cdv ct:ZC}(l:K.lookup f=some ⟨oc,od,.func (PySem.W.fnOf x qual (kK st) (iZ st) (bL st) .none kV doc pm an cdv ct),osl⟩)
  (c:PySem.W.codeIn K cdv qual=true)(k:PySem.W.keepIn K (.ref f)=true):Fun K x qual st f (PySem.W.fnOf x qual (kK st) (iZ st) (bL st) .none kV doc pm an cdv ct):=(⟨⟨oc,od,kV,doc,pm,an,cdv,ct,osl,rfl,l,c⟩,k⟩)
end
section
variable{X:Cx}
def pv (i:Nat) {x:Str} {pos:Pos} (hN:‹X.N[i]?=some x›) (hv:nV X.env.scope x:=by first|exact Or.inl rfl|exact Or.inr (Or.inl rfl)|exact Or.inr (Or.inr rfl)) (hd:((x == ("__debug__" : Str))=false)⁻¹)
  (hcd:((x == ("__classdict__" : Str))=false)⁻¹):PE X (.Name x pos) (nW i):=(DB hN hv hd hcd)
def GD:CallR X (.builtin "len") (λxs H Q=>∃ a kvs,xs=[V.ref a]/\H a=some (.dK kvs)/\Q (.int kvs.length) H):=by
 intro pins s σ H xs us Q I r h;obtain⟨a,kvs,rfl,ha,q⟩:=h;obtain⟨u,rfl,ru⟩:=jg r
 cases ru
 exact FZ I (.inl ha) λt s' I'=>⟨.int kvs.length,H,I',⟨t,rfl⟩,q⟩
end
section
variable{κ:Type}[DecidableEq κ]
end
end L2
set_option maxHeartbeats 4000000
namespace L2
open PySem PySem.Spec PyProof.Rows
section
variable{X:Cx}{pins:List (ZE×Obj)}{σ:St}{H:Hp}{s:ZB}{h':Heap}
def Inv.turnedL{t':Nat}{fp:List ZE}(I:Inv X pins σ H s)(k:∀ b o,b∉fp->s.heap.get? b=some o->h'.get? b=some o)(hf:∀ b∈fp,dR X pins H b) :
  Inv X pins σ H { s with heap:=h',toks:=t' }:=by
 have nit:∀ b u,H b=some u->b∉fp:=λb u e z=>by
  have q:=(hf b z).1;rw[q] at e
  cases e
 refine I.step (g':=s.gens) (d':=s.drawn) (ch:=fp) (λb hb=>?_) (λb o _ _ hc e _=>k b o hc e) (λb o _ _ hc e _=>⟨o.slots,k b o hc e⟩) (λ_ _ _ _ n=>n)
  (λb o hc e=>⟨o,k b o hc e⟩) (λ_ _ e=>e) (λ_ _ _ e=>e) (λb ps e=>⟨#[],by rw[e];simp⟩) (λm hm=>?_) (λb u e=>?_) I.bare
 ·obtain⟨_,f1,_,f3,f4,f5⟩:=hf b hb
  exact⟨f3,f1,f4,f5⟩
 ·obtain⟨o,es,ep,ho,r⟩:=hm
  exact⟨o,es,ep,k _ o (λz=>(hf _ z).2.1 rfl) ho,r⟩
 ·refine(I.hok b u e).stay (λc v hc q=>k c v ?_ q) (λ_ q=>q) λ_ _ q=>q
  rcases hc with z|z
  ·rw[z];exact nit b u e
  ·exact nit c _ z
def Inv.adopt{T:ZE}{ob:HO}(I:Inv X pins σ H s)(hn:H T=none)(hT:X.s₀.heap.objs.size<=T)(hL:T≠X.env.locals)(hc:∀ x c,X.env.cells.lookup x=some c->c≠T)
  (hp:∀ p∈X.pn++pins,p.1≠T)(new:ObjOk X.prog X.w (upd H T ob) s.heap T ob):Inv X pins σ (upd H T ob) s:=by
 have hne:∀ b u,H b=some u->b≠T:=λb u e=>fQ e hn
 refine I.step (h':=s.heap) (g':=s.gens) (d':=s.drawn) (t':=s.toks) (ch:=[T]) (λb hb=>?_) (λb o _ _ _ e _=>e) (λb o _ _ _ e _=>⟨o.slots,e⟩) (λb o hb e n=>?_) (λb o _ e=>⟨o,e⟩)
  (λb xs e=>by rw[bg (hne b _ e)];exact e) (λb o u e=>by rw[bg (hne b _ e)];exact e) (λb ps e=>⟨#[],by rw[bg (hne b _ e),e];simp⟩) (λm hm=>hm) (λb u e=>?_) I.bare
 ·have e:b=T:=by simpa using hb
  subst e;exact⟨.inr hT,hL,hc,hp⟩
 ·rw[bg (λz=>hb (by simp[z]))];exact n
 ·by_cases hb:b=T
  ·subst hb;rw[dQ] at e;cases e;exact new
  ·rw[bg hb] at e
   exact(I.hok b u e).stay (λc v _ q=>q) (λc q=>by rw[bg (hne c _ q)];exact q) λc xs q=>by rw[bg (hne c _ q)];exact q
end
def uq(K:ZA)(a:ZE):It :=
 ⟨λi H=>∃ xs x,SqL K H a xs/\xs[i]?=some x,λi H x H'=>∃ (T:ZE) (y:V),x=.ref T/\H T=none/\H'=upd H T (.tup [.int i,y])/\∀ xs,SqL K H a xs->xs[i]?=some y,λi H=>∃ xs,SqL K H a xs/\xs.length<=i⟩
def GE{P:ZD}{w:ZF}{K:ZA}{es:List Expr}{k:Nat}{tp:Pos}(a it e:ZE)(hei:e≠it) :
  fz P w K (.Tuple es k tp) (uq K a) [e,it] e (λi h=>(∃ old,IsEnum h e it i old)/\h.IsListIter it a i) where
 mem:=by simp
 obj:=λi h st b hb=>by
  obtain⟨⟨old,he⟩,o,ho,hc,hd⟩:=st;have hb':b=e\/b=it:=by simpa using hb
  rcases hb' with rfl|rfl
  ·exact⟨_,he,λv z=>by
    have z':Data.fields _=Data.cell v:=z
    cases z'⟩
  ·exact⟨o,ho,λv z=>by rw[hd] at z;cases z⟩
 keep:=λi h h' st k=>by
  obtain⟨⟨old,he⟩,hit⟩:=st;exact⟨⟨old,k e 's' _ he⟩,hit.at λo q=>k it 's' o q⟩
 item:=by
  intro X hP hw hK hc i pins s σ H E I hf st hg;subst hP hw hK
  obtain⟨xs,x,hq,hx⟩:=hg;obtain⟨its,rv,p,hz⟩:=I.list hq;obtain⟨u,hu,ru⟩:=rv.get hx;obtain⟨⟨old,he⟩,hit⟩:=st;refine wpAny_pyNext_enum_item he hit p.isList (x:=u) (by simpa using hu) hei λh1 ho hit1 hT hsz hk=>?_
  refine⟨.ref s.heap.objs.size,rfl,wpAny_letOwnedTupleGo_enum ho λh2 he2 hs2=>?_⟩
  replace hs2:Heap.SameBut e h1 h2:=hs2
  have helt:e<s.heap.objs.size:=Om he;have I1:Inv X pins σ H { s with heap:=h2,toks:=s.toks+1 }:=I.turnedL (fp:=[e,it]) (λb o hb q=>by
   have n1:b≠e:=λz=>hb (by simp[z])
   have n2:b≠it:=λz=>hb (by simp[z])
   exact(hs2.2 b n1).trans (hk b o n1 n2 q)) hf
  have hT2:h2.get? s.heap.objs.size=some { cls:=.type "tuple",data:=.seq #[.int i s.toks,u] }:=(hs2.2 _ (Nat.ne_of_gt helt)).trans hT;have fp:=I.fpOk (H':=H) (Oa s.heap.objs.size) (I.hok.fresh (Oa _));obtain⟨f0,f1,f2,f3,f4,f5⟩:=fp;have I2:Inv X pins σ (upd H s.heap.objs.size (.tup [.int i,x])) { s with heap:=h2,toks:=s.toks+1 } :=
   I1.adopt (T:=s.heap.objs.size) f0 (I.sz) f1 f4 f5 ⟨by show 2<=sizeLine;decide,[.int i s.toks,u],.cons ⟨_,rfl⟩ (.cons ru .nil),⟨_,hT2,rfl,_,rfl⟩⟩
  refine⟨.ref s.heap.objs.size,_,I2,rfl,⟨s.heap.objs.size,x,rfl,f0,rfl,λys hy=>by rw[I.list_inj hy hq];exact hx⟩,⟨⟨u,by simpa using he2⟩,hit1.extBut hs2.extBut (Ne.symm hei)⟩,λb hb=>?_⟩
  obtain⟨g0,_⟩:=hf b hb;obtain⟨o,hob,_⟩:∃ o,s.heap.get? b=some o/\True:=by
   have hb':b=e\/b=it:=by simpa using hb
   rcases hb' with rfl|rfl
   ·exact⟨_,he,trivial⟩
   ·obtain⟨o,q,_⟩:=hit
    exact⟨o,q,trivial⟩
  rw[bg (OJ (Om hob))];exact g0
 done:=by
  intro X hP hw hK hc i pins s σ H E I hf st hg;subst hP hw hK
  obtain⟨xs,hq,hx⟩:=hg;obtain⟨its,rv,p,hz⟩:=I.list hq;obtain⟨⟨old,he⟩,hit⟩:=st;have hl:=rv.length;exact wpAny_pyNext_enum_end (I.ok.hd hc) he hit p.isList (by simp;omega) λh' eb=>⟨rfl,I.turnedL (fp:=[e,it]) (t':=s.toks) (λb o hb q=>eb b o (λz=>hb (by simp[z])) q) hf⟩
 self:=λ_ _ _ _ _ st h=>by
  obtain⟨⟨old,he⟩,_⟩:=st;exact Te he h
section
variable{X:Cx}
def iEnum(K:ZA)(ta:TA):TI:=λσ H R=>ta σ H λvs H1=>∃ a,vs=[.ref a]/\(∃ xs,SqL K H1 a xs)/\R (uq K a) H1
def GG {l:Expr} {ta:TA} {p pos tp:Pos} {es:List Expr} {k:Nat} (hg:Gl X "enumerate") (hm:X.mg "enumerate"=none) (ha:PA X [l] ta) (hs:‹starEach [l] X.env=[(false,eval l X.env)]›) :
  PI X (.Tuple es k tp) (.Call (.Name "enumerate" p) [l] [] pos) (iEnum X.K ta):=by
 intro pins s σ H R I h;refine Call_ (mE I hg hm boot_enumerate (PD (thn (ha pos pins s σ H _ I h) λus s1 Zz=>?_) hs rfl));obtain⟨vs,H1,I1,r1,q1⟩:=Zz
 obtain⟨a,e,⟨xs,hq⟩,q⟩:=q1;subst e
 cases r1 with
 |cons r rr =>
  cases rr
  cases r
  obtain⟨its,rv,pl,hz⟩:=I1.list hq;refine call_enumerate_list pl.isList λh' he hit hsz hk=>Te he ?_
  refine⟨s1.heap.objs.size+1,[s1.heap.objs.size+1,s1.heap.objs.size],_,_,H1,rfl,I1.kept (t':=s1.toks) λb o e=>hk b o e,GE a _ _ (Nat.succ_ne_self _),⟨⟨_,he⟩,hit⟩,λb hb=>?_,q⟩
  have hb':b=s1.heap.objs.size+1\/b=s1.heap.objs.size:=by simpa using hb
  rcases hb' with rfl|rfl
  ·exact I1.fpOk (Ra _) (I1.hok.fresh (Ra _))
  ·exact I1.fpOk (Oa _) (I1.hok.fresh (Oa _))
end
def ur(x:Str):It:=⟨λi _=>i<x.cps.size,λi H v H'=>H'=H/\∃ c,x.cps[i]?=some c/\v=.str ⟨#[c]⟩,λi _=>x.cps.size<=i⟩
def GH{P:ZD}{w:ZF}{A:ZG}(hh:A.handled=none)(it:ZE)(x:Str)(t:Tok) :
  Walks P w A it [it] [it] x.cps.size (SignAt x) (λi h=>h.IsStrIter it (strIterType x) x t i):=by
 cases ha:x.cps.all (· < 128) with
 |false =>
  have e:strIterType x="str_iterator" := by simp[strIterType,ha]
  rw[e];exact Walks.strWide hh it x t
 |true =>
  have e:strIterType x="str_ascii_iterator" := by simp[strIterType,ha]
  rw[e];exact Walks.strAscii hh it x t
def GI{P:ZD}{w:ZF}{K:ZA}{y:Str}{py:Pos}(it:ZE)(x:Str)(t:Tok):fz P w K (.Name y py) (ur x) [it] it (λi h=>h.IsStrIter it (strIterType x) x t i) where
 mem:=by simp
 obj:=λi h st b hb=>by
  have e:b=it:=by simpa using hb
  subst e;obtain⟨o,e,c,d⟩:=st
  exact⟨o,e,λv z=>by rw[d] at z;cases z⟩
 keep:=λi h h' st k=>by
  obtain⟨o,e,r⟩:=st;exact⟨o,k it 's' o e,r⟩
 item:=by
  intro X hP hw hK hc i pins s σ H E I hf st hg;subst hP hw hK
  refine(GH (I.ok.hd hc) it x t).item i s _ _ hg st λv h1 tk hv st1 kk=>?_
  obtain⟨c,u,hcp,rfl⟩:=hv;have I1:Inv X pins σ H { s with heap:=h1,toks:=tk }:=I.turnedL (fp:=[it]) kk hf;exact⟨_,rfl,Oi ⟨.str ⟨#[c]⟩,H,I1,⟨u,rfl⟩,⟨rfl,c,hcp,rfl⟩,st1,λb hb=>(hf b hb).1⟩⟩
 done:=by
  intro X hP hw hK hc i pins s σ H E I hf st hg;subst hP hw hK
  have hx:x.cps[i]?=none:=Array.getElem?_eq_none hg
  cases ha:x.cps.all (· < 128) with
  |false =>
   have e:strIterType x="str_iterator" := by simp[strIterType,ha]
   rw[e] at st;exact wpAny_pyNext_wide_end (I.ok.hd hc) st hx λh' eb=>⟨rfl,I.turnedL (fp:=[it]) (t':=s.toks) (λb o hb q=>eb b o (λz=>hb (by simp[z])) q) hf⟩
  |true =>
   have e:strIterType x="str_ascii_iterator" := by simp[strIterType,ha]
   rw[e] at st;exact wpAny_pyNext_ascii_end (I.ok.hd hc) st hx λh' eb=>⟨rfl,I.turnedL (fp:=[it]) (t':=s.toks) (λb o hb q=>eb b o (λz=>hb (by simp[z])) q) hf⟩
 self:=λA i s Q E st h=>by
  cases ha:x.cps.all (· < 128) with
  |false =>
   have e:strIterType x="str_iterator" := by simp[strIterType,ha]
   rw[e] at st;exact wpAny_pyIter_striter_wide st h
  |true =>
   have e:strIterType x="str_ascii_iterator" := by simp[strIterType,ha]
   rw[e] at st;exact wpAny_pyIter_striter_ascii st h
section
variable{X:Cx}
def uv(tl:TE):TI:=λσ H R=>tl σ H λx H1=>∃ t,x=.str t/\R (ur t) H1
def GJ{l:Expr}{tl:TE}{y:Str}{py:Pos}(hl:PE X l tl):PI X (.Name y py) l (uv tl):=by
 intro pins s σ H R I h;refine thn (hl pins s σ H _ I h) λv s1 Zz=>?_;obtain⟨x,H1,I1,r1,q1⟩:=Zz
 obtain⟨t,e,q⟩:=q1;subst e;obtain⟨tk,rfl⟩:=r1
 refine wpAny_pyIter_strU ?_
 refine⟨s1.heap.objs.size,[s1.heap.objs.size],_,_,H1,rfl,I1.kept (t':=s1.toks) λb o e=>Oe _ e,GI _ t tk,⟨_,Os _ rfl,rfl,rfl⟩,λb hb=>?_,q⟩
 have e:b=s1.heap.objs.size:=by simpa using hb
 subst e;exact I1.fpOk (Oa _) (I1.hok.fresh (Oa _))
end
def eJ(env:Env):List (Str×NameKind)->List (Str×ZE)->List (Str×ZE)
 |[],acc=>acc
 |(n,k)::r,acc=>eJ env r (if k=.free then(n,(env.cells.lookup n).getD 0)::acc else acc)
def GN{env:Env}{scope:Scope}(h:∀ y∈scope.names,y.2=.free->(env.cells.lookup y.1).isSome=true):closureFor scope env=pure (eJ env scope.names []):=by
 have all:∀ (l:List (Str×NameKind)) (acc:List (Str×ZE)),(∀ y∈l,y.2=.free->(env.cells.lookup y.1).isSome=true) ->
   (forIn l acc λ(x:Str×NameKind) (cs:List (Str×ZE))=>if (x.2 == NameKind.free)=true then(do let a <- cellOf env x.1;pure (ForInStep.yield ((x.1,a)::cs))) else(pure (ForInStep.yield cs):Sem _))=pure (eJ env l acc):=by
  intro l;induction l with
  |nil=>intro acc _;rfl
  |cons y r ih =>
   intro acc hl;obtain⟨n,k⟩:=y;rw[List.forIn_cons];have hr:=λz hz=>hl z (OK _ hz)
   by_cases hk:k=.free
   ·subst hk
    obtain⟨c,hc⟩:=Oz.mp (hl (n,.free) O0 rfl);have e1:cellOf env n=pure c:=by
     simp only[cellOf]
     have hc':env.cells.lookup n=some c:=hc;rw[hc']
    simp only[beq_self_eq_true,PM,e1,pure_bind,eJ]
    have hc':env.cells.lookup n=some c:=hc;rw[hc'];exact ih _ hr
   ·have hb:(k == NameKind.free)=false:=by simpa using hk
    simp only[hb,Bool.false_eq_true,Ti,pure_bind,eJ,hk]
    exact ih _ hr
 unfold closureFor;have q:=all scope.names [] h;first
  |exact q
  |(simp only[bind_pure];exact q)
  |(rw[<- q];simp)
theorem uw{env:Env}:∀ {l:List (Str×NameKind)} {acc:List (Str×ZE)},(∀ y∈l,y.2=.free->(env.cells.lookup y.1).isSome=true)->(∀ y c,acc.lookup y=some c->env.cells.lookup y=some c) ->
  ∀ y c,(eJ env l acc).lookup y=some c->env.cells.lookup y=some c
 |[],_,_,h,y,c,e=>h y c e
 |(n,k)::r,acc,hl,h,y,c,e=>by
  refine uw (l:=r) (λz hz=>hl z (OK _ hz)) ?_ y c e
  intro y c e;by_cases hk:k=.free
  ·rw[Of hk] at e
   rw[Qi] at e
   cases hy:y == n with
   |true =>
    rw[hy] at e;have e':y=n:=by simpa using hy
    obtain⟨c',hc'⟩:=Oz.mp (hl (n,k) O0 hk);have hc'':env.cells.lookup n=some c':=hc';rw[hc''] at e;rw[e',hc''];exact e
   |false =>
    rw[hy] at e;exact h y c e
  ·rw[Og hk] at e
   exact h y c e
theorem ux{env:Env}:∀ {l:List (Str×NameKind)} {acc:List (Str×ZE)} {y:Str},(y,NameKind.free)∈l\/(acc.lookup y).isSome=true->((eJ env l acc).lookup y).isSome=true
 |[],_,_,h=>by
  rcases h with h|h
  ·cases h
  ·exact h
 |(n,k)::r,acc,y,h=>by
  refine ux (l:=r) ?_
  rcases h with h|h
  ·rcases Ov.mp h with e|e
   ·right
    cases e
    rw[Of rfl,Qi];simp
   ·exact .inl e
  ·right
   by_cases hk:k=.free
   ·rw[Of hk,Qi]
    cases hy:y == n with
    |true=>rfl
    |false=>exact h
   ·rw[Og hk];exact h
def ot{names:List (Str×NameKind)}{x:Str}{k:NameKind}(h:names.lookup x=some k):(x,k)∈names:=(Pl h)
theorem qy{env:Env}{x:Str}{k:NameKind}:∀ {names:List (Str×NameKind)},(names.map λ(n,k)=>if (k == NameKind.free && env.scope.kind == .function && env.kindOf n == some .cell) then(n,NameKind.cell) else(n,k)).lookup x=some k ->
  names.lookup x=some k\/(k=.cell/\names.lookup x=some .free)
 |[],h=>by simp at h
 |(n,kk)::r,h=>by
  have ih:=@qy env x k r;by_cases hc:(kk == NameKind.free && env.scope.kind == .function && env.kindOf n == some .cell)=true
  ·have hf:kk=.free:=by
    have q:=(OT _ _).mp ((OT _ _).mp hc).1;simpa using q.1
   subst hf;have h':List.lookup x ((n,NameKind.cell)::(r.map λ(n,k)=>if (k == NameKind.free && env.scope.kind == .function && env.kindOf n == some .cell) then(n,NameKind.cell) else(n,k)))=some k:=by
    have e:(λ(p:Str×NameKind)=>match p with|(n,k)=>if (k == NameKind.free && env.scope.kind == .function && env.kindOf n == some .cell)=true then(n,NameKind.cell) else(n,k)) (n,NameKind.free)=(n,NameKind.cell):=by
     show (if _ then _ else _)=_
     rw[Of hc]
    rw[Ot] at h;rw[<- e];exact h
   rw[Qi] at h' ⊢
   cases hx:x == n with
   |true =>
    rw[hx] at h';right
    exact⟨(OG h').symm,rfl⟩
   |false =>
    rw[hx] at h';exact ih h'
  ·have h':List.lookup x ((n,kk)::(r.map λ(n,k)=>if (k == NameKind.free && env.scope.kind == .function && env.kindOf n == some .cell) then(n,NameKind.cell) else(n,k)))=some k:=by
    have e:(λ(p:Str×NameKind)=>match p with|(n,k)=>if (k == NameKind.free && env.scope.kind == .function && env.kindOf n == some .cell)=true then(n,NameKind.cell) else(n,k)) (n,kk)=(n,kk):=by
     show (if _ then _ else _)=_
     rw[Og hc]
    rw[Ot] at h;rw[<- e];exact h
   rw[Qi] at h' ⊢
   cases hx:x == n with
   |true =>
    rw[hx] at h';exact .inl h'
   |false =>
    rw[hx] at h';exact ih h'
structure CompOk(X:Cx)(ns:List Str)(jf:List (Nat×Str))(scope:Scope):Prop where
 hN:(ns++jf.map (·.2)).Nodup
 hx:∀ x∈ns,scope.names.lookup x=some .local
 hjf:∀ p∈jf,X.N[p.1]?=some p.2
 hjl:∀ p∈jf,scope.names.lookup p.2=some .free
 hkind:scope.kind=.function
 hcell:∀ y∈scope.names,y.2 ≠ .cell
 hfr:∀ y∈scope.names,y.2=.free->X.env.kindOf y.1=some .cell\/X.env.kindOf y.1=some .free
 hnames:∀ y∈scope.names,y.2=.local->scope.names.lookup y.1=some .local
def cC(X:Cx)(pins:List (ZE×Obj))(ns:List Str)(jf:List (Nat×Str))(scope:Scope)(cl:List (Str×ZE))(s:ZB)(H:Hp)(fp:List ZE):Cx where
 prog:=X.prog
 w:=X.w
 K:=X.K
 mg:=X.mg
 base:=X.base
 A:=X.A
 N:=ns++jf.map (·.2)
 s₀:=s
 H₀:=H
 env:=compEnvC scope cl s.heap.objs.size X.env
 outer:=X.stack
 stack:=X.stack
 ex:=fp
 fn:=λ_=>false
 calm:=X.calm
 pn:=X.pn++pins
 xe:=λ_ _=>False
def fS(vs:List (Option V))(js:List (Nat×Str))(σ:St):St:=vs++js.map λj=>(σ[j.1]?).join
def ji(X:Cx)(ifs:List Expr)(t:TT):Prop :=
 ∀ (pins:List (ZE×Obj)) (s:ZB) (σ:St) (H:Hp) (Q:Bool->Hp->Prop),Inv X pins σ H s->t σ H Q ->
  wpAny (model X.prog X.w) X.A (forIn ifs true λc r=>if r=true then do let ok <- isTrue c X.env (eval c X.env);pure (ForInStep.yield ok) else pure (ForInStep.yield r)) (TP X pins σ Q) X.xe s
def uy:TT:=λ_ H Q=>Q true H
def GO{X:Cx}:ji X [] uy:=(λpins s σ H Q I h=>wpAny_tests_nil ⟨H,I,h⟩)
def uz(k:Nat)(g:TG)(jf:List (Nat×Str))(tc:TT)(te:TE)(σ:St)(Q:VK)(J:It)(H1:Hp):Prop:=∀ D,H1 D=none->∃ W:Nat->Nat->List V->Hp->Prop,(∃ m,W 0 m [] (upd H1 D (.lst []))) /\
 ∀ i m ys H2,W i m ys H2->H2 D=some (.lst ys)/\((J.stop i H2/\Q (.ref D) H2)\/(J.go i H2/\ys.length<sizeLine/\∀ x H3,J.yld i H2 x H3->∃ us:List V,us.length=k/\g x (fS (List.replicate k none) jf σ) H3 (λσ' H'=>σ'=fS (us.map some) jf σ/\H'=H3)/\tc (fS (us.map some) jf σ) H3 λb H5 =>
  if b=true then te (fS (us.map some) jf σ) H5 λv H6=>H6 D=some (.lst ys)/\∃ m',m'<m/\W (i+1) m' (ys++[v]) (upd H6 D (.lst (ys++[v]))) else ∃ m',m'<m/\W (i+1) m' ys H5))
def ou(k:Nat)(g:TG)(jf:List (Nat×Str))(wi:TI)(tc:TT)(te:TE):TE:=λσ H Q=>wi σ H (uz k g jf tc te σ Q)
section
variable{X:Cx}{pins:List (ZE×Obj)}{σ:St}{H:Hp}{s:ZB}{ns:List Str}{jf:List (Nat×Str)}{scope:Scope}{fp:List ZE}
def CompOk.pg{cl:List (Str×ZE)}{x:Str}{p:Pos}(C:CompOk X ns jf scope)(i:Nat)(h:(ns++jf.map (·.2))[i]?=some x)(m:x∈ns):PG (cC X pins ns jf scope cl s H fp) (.Name x p) (mF i) :=(
 tL C.hN h (.inl (Sg (C.hx x m))) (.inr (Sg (C.hx x m))))
def Inv.block{h1:Heap}{tk:Nat}(I:Inv X pins σ H s)(hf:∀ b∈fp,dR X pins H b)(hlt:∀ b∈fp,b<s.heap.objs.size)(C:CompOk X ns jf scope)
  (hn:h1.Ns s.heap.objs.size (λ_=>none))(hk:∀ b o,s.heap.get? b=some o->h1.get? b=some o) :
  Inv (cC X pins ns jf scope (eJ X.env scope.names []) s H fp) [] (fS (List.replicate ns.length none) jf σ) H { s with heap:=h1,toks:=tk }:=by
 obtain⟨_,_,hjf,hjl,hkind,hcell,hfr,_⟩:=C;have hsome:∀ y∈scope.names,y.2=.free->(X.env.cells.lookup y.1).isSome=true:=λy hy hyf=>Oz.mpr (I.ok.has y.1 (hfr y hy hyf))
 have sub:∀ y c,(eJ X.env scope.names []).lookup y=some c->X.env.cells.lookup y=some c:=uw hsome (λy c e=>by simp at e);have hsz:=I.sz;have inE:∀ b,b∈(cC X pins ns jf scope (eJ X.env scope.names []) s H fp).ex->b∈fp:=λb z=>z
 have stk:∀ b∈d7 X.stack,b<s.heap.objs.size:=λb hb=>by
  obtain⟨_,o,ho,_⟩:=I.stack.mem hb;exact Om ho
 refine⟨⟨I.ok.mod,hkind,I.ok.glob,I.ok.blt,Oa _,λy z c e1 e2=>I.ok.inj y z c (sub y c e1) (sub z c e2),λy hy=>?_,λy c hfn _=>(by cases hfn),I.ok.hd,I.ok.frames,.inl rfl,λb hb=>?_,λb o e=>I.bs b o e,Oc I.ok.bsz hsz,λb o e z=>?_,λb hb z=>?_,I.stack,I.stkFree⟩,
  rfl,I.bare,Un.kept hk,⟨_,hn,λi y v e1 e2 e3=>?_⟩,λy c e=>?_,I.hok.fresh (Oa _),λy c e=>I.freeC y c (sub y c e),λp hp=>?_,I.hok.kept hk,?_⟩
 ·have hy':(relabel scope X.env).names.lookup y=some .cell\/(relabel scope X.env).names.lookup y=some .free:=hy
  have mem:(y,NameKind.free)∈scope.names:=by
   rcases hy' with q|q
   ·rcases qy (env:=X.env) q with z|z
    ·exact absurd rfl (hcell _ (ot z))
    ·exact ot z.2
   ·rcases qy (env:=X.env) q with z|z
    ·exact ot z
    ·exact ot z.2
  exact Oz.mp (ux (.inl mem))
 ·exact⟨OJ (hlt b hb),λy c e=>(hf b hb).2.2.2.2.1 y c (sub y c e)⟩
 ·rcases (hf b z).2.2.2.1 with q|q
  ·exact I.ok.noex b o e q
  ·exact absurd (Ox (Om e) (Oc I.ok.bsz q)) (Pt _)
 ·rcases Ov.mp (I.stkSub b z) with q|q
  ·exact(hf b hb).2.1 q
  ·exact(hf b hb).2.2.1 q
 ·have e1':(ns++jf.map (·.2))[i]?=some y:=e1
  unfold fS at e2;by_cases hi:i<ns.length
  ·rw[Oj (by rw[O8];exact hi),Pv,Of hi] at e2;cases e2
  ·have hi:=Ro hi
   rw[Oy hi,OI] at e1';rw[Oy (by rw[O8];exact hi),O8,OI] at e2
   cases q:jf[i-ns.length]? with
   |none=>rw[q] at e2;cases e2
   |some p =>
    rw[q] at e1' e2;have ey:p.2=y:=OG e1'
    have ev:(σ[p.1]?).join=some v:=OG e2;have hp:p∈jf:=OE q;have eσ:σ[p.1]?=some (some v):=by
     cases z:σ[p.1]? with
     |none=>rw[z] at ev;cases ev
     |some r=>rw[z] at ev;rw[show r=some v from ev]
    have hfree:scope.names.lookup y=some .free:=by rw[<- ey];exact hjl p hp
    have mem:=ot hfree;have kX:=hfr _ mem rfl;obtain⟨m,hnX,hl⟩:=I.loc;obtain⟨u,ru,lk⟩:=hl p.1 y v (by rw[<- ey];exact hjf p hp) eσ (by
     rcases kX with z|z
     ·exact .inr (.inl z)
     ·exact .inr (.inr z))
    refine⟨u,ru,.inr ⟨?_,?_⟩⟩
    ·have e3':nV (relabel scope X.env) y:=e3
     rcases e3' with z|z|z
     ·exfalso
      rcases qy (env:=X.env) z with q|q
      ·rw[hfree] at q;cases q
      ·cases q.1
     ·exact .inl z
     ·exact .inr z
    ·rcases lk with⟨z,_⟩|⟨_,c,hc,hcell'⟩
     ·exfalso
      rcases kX with q|q
      ·rw[show X.env.kindOf y=some .cell from q] at z;cases z
      ·rw[show X.env.kindOf y=some .free from q] at z;cases z
     ·obtain⟨c',hc'⟩:=Oz.mp (ux (env:=X.env) (acc:=[]) (.inl mem))
      have e:=sub y c' hc';rw[hc] at e
      cases e
      obtain⟨o,ho,hd⟩:=hcell';exact⟨c,hc',o,hk c o ho,hd⟩
 ·obtain⟨v,o,ho,hd⟩:=I.cell y c (sub y c e)
  exact⟨v,o,hk c o ho,hd⟩
 ·have hp':p∈X.pn++pins:=by simpa[cC] using hp
  obtain⟨e,n,ne,nf,d⟩:=I.pin p hp';refine⟨hk _ _ e,n,OJ (Om e),λz=>?_,d⟩
  rcases Ov.mp (I.stkSub p.1 z) with q|q
  ·exact ne q
  ·exact nf q
 ·unfold fS
  show _=(ns++jf.map (·.2)).length
  rw[OP,OP,O8,Oh,Oh]
end
def HOk.sameBut{P:ZD}{w:ZF}{H:Hp}{h h':Heap}{C:ZE}(ok:HOk P w H h)(hn:H C=none)(hs:Heap.SameBut C h h'):HOk P w H h':=(λb u e=>by
 refine(ok b u e).stay (λc v hc q=>(hs.2 c ?_).trans q) (λ_ q=>q) λ_ _ q=>q
 rcases hc with z|z
 ·rw[z];exact fQ e hn
 ·exact fQ z hn)
def Un.sameBut{fs ex:List ZE}{H H':Hp}{h h1 h2:Heap}{C:ZE}(u:Un fs ex H H' h h1)(hC:h.get? C=none)(hs:Heap.SameBut C h1 h2):Un fs ex H H' h h2:=by
 have ne:∀ b o,h.get? b=some o->b≠C:=λb o e z=>by rw[z,hC] at e;cases e
 refine⟨λb o e n hb hx=>(hs.2 b (ne b o e)).trans (u.keep b o e n hb hx),λb o e n hb hx=>?_,u.free,λb o e hx=>?_,u.tups,u.frzs,u.tbls⟩
 ·obtain⟨sl,q⟩:=u.slot b o e n hb hx
  exact⟨sl,(hs.2 b (ne b o e)).trans q⟩
 ·obtain⟨o',q⟩:=u.there b o e hx
  exact⟨o',(hs.2 b (ne b o e)).trans q⟩
def GP {prog:ZD} {w:ZF} {A:ZG} {R:Result->ZB->Prop} {s:ZB} {elt target iter:Expr} {ifs:List Expr} {scope:Scope} {pos:Pos} {it acc:ZC} {env:Env} (I:Nat->ZB->Prop)
  (turn:∀ n s,I n s->wpAny (model prog w) A (pyNext it) (λr s₁=>match r with
   |none=>R (.ok .next) s₁
   |some v=>wpAny (model prog w) A (letOwnedTupleGo target it v) (λ_ s₂=>wpAny (model prog w) A (assign target env v) (λ_ s₃ =>
     wpAny (model prog w) A (forIn ifs true λc r=>if r=true then do let ok <- isTrue c env (eval c env);pure (ForInStep.yield ok) else pure (ForInStep.yield r)) (λok s₄ =>
      if ok=true then wpAny (model prog w) A (eval elt env) (λx s₅=>wpAny (model prog w) A (call (.builtin "list.append") [acc,x]) (λ_ s₆=>∃ m,m<n/\I m s₆) (λ_ _=>False) s₅) (λ_ _=>False) s₄
      else ∃ m,m<n/\I m s₄) (λ_ _=>False) s₃) (λ_ _=>False) s₂) (λ_ _=>False) s₁) (λ_ _=>False) s)
  (n:Nat) (h:I n s):codeAny (model prog w) A (.compLoop (.ListComp elt [⟨target,iter,ifs,0⟩] scope pos) 0 it acc env) R s:=by
 refine codeAny_loop rfl I (λn s hI=>?_) n h
 show wpAny _ A ((compTurn (.ListComp elt [⟨target,iter,ifs,0⟩] scope pos) 0 it acc env).onRaise (λx=>do noteFrame x env;theTreesLotGoes x)) _ _ s
 refine wpAny_noted ?_
 rw[compTurn_list];refine N9 (Rk (N9 (OV (turn n s hI) (λr s₁ h₁=>?_) λ_ _ z=>z.elim)))
 cases r with
 |none=>exact Oi h₁
 |some v =>
  refine N9 (OV h₁ (λ_ s₂ h₂=>?_) λ_ _ z=>z.elim)
  refine N9 (OV h₂ (λ_ s₃ h₃=>N9 (OV h₃ (λok s₄ h₄=>?_) λ_ _ z=>z.elim)) λ_ _ z=>z.elim)
  cases ok with
  |false=>exact Oi ⟨rfl,h₄⟩
  |true =>
   exact N9 (N9 (OV h₄ (λx s₅ h₅=>N9 (OV h₅ (λ_ s₆ h₆=>Oi (Oi ⟨rfl,h₆⟩)) λ_ _ z=>z.elim)) λ_ _ z=>z.elim))
section
variable{X:Cx}{ns:List Str}{tg:Expr}{g:TG}{jf:List (Nat×Str)}{scope:Scope}{iter elt:Expr}{ifs:List Expr}{pos:Pos}{wi:TI}{tc:TT}{te:TE}
def yz(hcalm:X.calm=true)(hg:∀ pins cl s H fp,PG (cC X pins ns jf scope cl s H fp) tg g)(hi:PI X tg iter wi)(hc:∀ pins cl s H fp,ji (cC X pins ns jf scope cl s H fp) ifs tc)(he:∀ pins cl s H fp,PE (cC X pins ns jf scope cl s H fp) elt te)(C:CompOk X ns jf scope){use:Option (ZC->Sem Unit)}{Qf:ZC->ZB->Prop}{cpos:Pos}
  {pins:List (ZE×Obj)}{σ:St}{H:Hp}{s:ZB}{Q:VK}(I:Inv X pins σ H s)(h:ou ns.length g jf wi tc te σ H Q)
  (fin:∀ D C s6 H6 m6,Inv X pins σ H6 s6->Q (.ref D) H6->dR X pins H6 C->s6.heap.Ns C m6->compPost (model X.prog X.w) X.A X.xe use Qf (.ref D) C (.ok .next) s6)(hs:∀ x,foldedSetIterable iter X.env x=pure x) :
  wpAny (model X.prog X.w) X.A (comprehension (.ListComp elt [⟨tg,iter,ifs,0⟩] scope pos) scope X.env cpos (newList []) false (eval iter X.env) use) Qf X.xe s:=by
 obtain⟨_,_,_,_,hkind,hcell,hfr,hnames⟩:=id C;have hsome:∀ y∈scope.names,y.2=.free->(X.env.cells.lookup y.1).isSome=true:=λy hy hyf=>Oz.mpr (I.ok.has y.1 (hfr y hy hyf))
 refine wpAny_comprehension_free (use:=use) rfl hs (GN hsome) hkind hnames (thn (hi pins s σ H _ I h) λxv s1 h1=>thn h1 λitv s2 h2=>?_)
 obtain⟨it,fp,tn,J,H2,e,I2,T,st2,f2,h⟩:=h2;subst e;refine Pw (wpAny_newFunctionEnv hcell (by intro y hy;simp at hy) (λh₁ hns₁ hsb₁=>?_) hkind)
 have hD0:H2 s2.heap.objs.size=none:=I2.hok.fresh (Oa _);obtain⟨W,⟨m0,w0⟩,step⟩:=h s2.heap.objs.size hD0;dsimp only at hns₁ hsb₁ ⊢;have I3:Inv X pins σ (upd H2 s2.heap.objs.size (.lst [])) { s2 with heap:=s2.heap.push { cls:=.type "list",dict:=none,data:=.seq ([]:List ZC).toArray } } :=
  I2.laid (t':=s2.toks) (λb u q=>Oe _ q) (Oa _) ⟨OH _,[],0,.nil,Os _ rfl⟩
 generalize hH3:s2.heap.push { cls:=.type "list",dict:=none,data:=.seq ([]:List ZC).toArray }=hp3 at hns₁ hsb₁ I3 ⊢
 have hsz3:hp3.objs.size=s2.heap.objs.size+1:=by rw[<- hH3,R4]
 have k23:∀ b o,s2.heap.get? b=some o->hp3.get? b=some o:=λb o q=>by rw[<- hH3];exact Oe _ q
 have flt:∀ b∈fp,b<s2.heap.objs.size:=λb hb=>by
  obtain⟨o,q,_⟩:=T.obj 0 _ st2 b hb;exact Om q
 have f3:∀ b∈fp,dR X pins (upd H2 s2.heap.objs.size (.lst [])) b:=λb hb=>by
  obtain⟨g0,g⟩:=f2 b hb;exact⟨by rw[bg (OJ (flt b hb))];exact g0,g⟩
 have kC:∀ b o,hp3.get? b=some o->h₁.get? b=some o:=λb o q=>(hsb₁.2 b (OJ (Om q))).trans (Oe _ q)
 have B0:=I3.block (ns:=ns) (jf:=jf) (scope:=scope) (fp:=fp) (h1:=h₁) (tk:=s2.toks+([]:List (Str×ZC)).length) f3 (λb hb=>by show b<hp3.objs.size;rw[hsz3];exact QC (flt b hb)) C (by simpa using hns₁) kC
 have st4:tn 0 h₁:=T.keep _ _ _ st2 λb _ o q=>kC b o (k23 b o q)
 have w0':=w0;have stat:∀ {H':Hp},(∀ b∈fp,H' b=none)->∀ b∈fp,dR (cC X pins ns jf scope (eJ X.env scope.names []) { s2 with heap:=hp3 } (upd H2 s2.heap.objs.size (.lst [])) fp) [] H' b:=λhn b hb=>by
  obtain⟨_,g1,g2,g3,g4,g5⟩:=f2 b hb;refine⟨hn b hb,OJ (by show b<hp3.objs.size;rw[hsz3];exact QC (flt b hb)),λz=>?_,.inl hb,λy c q=>g4 y c (uw hsome (λy c e=>by simp at e) y c q),λp hp=>g5 p (by simpa[cC] using hp)⟩
  rcases Ov.mp (I2.stkSub b z) with q|q
  ·exact g1 q
  ·exact g2 q
 have loop:codeAny (model X.prog X.w) X.A (.compLoop (.ListComp elt [⟨tg,iter,ifs,0⟩] scope pos) 0 (.ref it) (.ref s2.heap.objs.size) (compEnvC scope (eJ X.env scope.names []) hp3.objs.size X.env))
   (compPost (model X.prog X.w) X.A X.xe use Qf (.ref s2.heap.objs.size) hp3.objs.size) { s2 with heap:=h₁,toks:=s2.toks+([]:List (Str×ZC)).length }:=by
  refine GP (λn s'=>∃ i ys H',Inv (cC X pins ns jf scope (eJ X.env scope.names []) { s2 with heap:=hp3 } (upd H2 s2.heap.objs.size (.lst [])) fp) [] (fS (List.replicate ns.length none) jf σ) H' s'/\tn i s'.heap/\(∀ b∈fp,H' b=none)/\W i n ys H') ?_ m0
   ⟨0,[],_,B0,st4,λb hb=>(f3 b hb).1,w0⟩
  rintro n s5 ⟨i,ys,H5,I5,st5,fr5,w5⟩
  obtain⟨hD5,alt⟩:=step i n ys H5 w5;rcases alt with⟨stop,q5⟩|⟨go,hlen,next⟩
  ·refine OV (T.done (cC X pins ns jf scope (eJ X.env scope.names []) { s2 with heap:=hp3 } (upd H2 s2.heap.objs.size (.lst [])) fp) rfl rfl rfl hcalm i [] s5 _ H5 (λ_ _=>False) I5 (stat fr5) st5 stop) (λr s6 Zz=>?_) λ_ _ z=>z;obtain⟨hr,I6⟩:=Zz
   subst hr;obtain⟨m6,hn6,_⟩:=id I6.loc
   refine fin _ _ s6 H5 m6 ?_ q5 (I3.fpOk (Oa _) I6.free) hn6
   refine I3.call' (ch:=fp) I6.os I6.base I6.hok I6.bare (λb hb=>?_)
   obtain⟨_,g1,g2,g3,g4,g5⟩:=f2 b hb;exact⟨g3,g1,g4,g5⟩
  ·refine OV (T.item (cC X pins ns jf scope (eJ X.env scope.names []) { s2 with heap:=hp3 } (upd H2 s2.heap.objs.size (.lst [])) fp) rfl rfl rfl hcalm i [] s5 _ H5 (λ_ _=>False) I5 (stat fr5) st5 go) (λr s6 Zz=>?_) λ_ _ z=>z;obtain⟨u,hr,h6⟩:=Zz
   subst hr;refine OV h6 (λ_ s7 Zz=>?_) λ_ _ z=>z;obtain⟨x,H7,I7,r7,y7,st7,fr7⟩:=Zz
   have I7':=I7.pinned (stat fr7) (T.obj _ _ st7);obtain⟨us,hu,gq,q8⟩:=next x H7 y7;refine OV (hg pins _ _ _ fp ([]++iW fp s7.heap) s7 _ H7 x _ _ I7' r7 gq) (λ_ s8 Zz=>?_) λ_ _ z=>z;obtain⟨σ8,H8,I8,e8,e8'⟩:=Zz
   subst e8 e8'
   have I8':Inv (cC X pins ns jf scope (eJ X.env scope.names []) { s2 with heap:=hp3 } (upd H2 s2.heap.objs.size (.lst [])) fp) ([]++iW fp s7.heap) (fS (us.map some) jf σ) H8 s8:=I8;have again:∀ {s9:ZB} {H9:Hp} {zs:List V} {m':Nat},Inv (cC X pins ns jf scope (eJ X.env scope.names []) { s2 with heap:=hp3 } (upd H2 s2.heap.objs.size (.lst [])) fp) ([]++iW fp s7.heap) (fS (us.map some) jf σ) H9 s9->m'<n->W (i+1) m' zs H9 ->
     ∃ m,m<n/\∃ i ys H',Inv (cC X pins ns jf scope (eJ X.env scope.names []) { s2 with heap:=hp3 } (upd H2 s2.heap.objs.size (.lst [])) fp) [] (fS (List.replicate ns.length none) jf σ) H' s9/\tn i s9.heap/\(∀ b∈fp,H' b=none)/\W i m ys H':=λ{s9 H9 zs m'} I9 hm w9=>by
    refine⟨m',hm,i+1,zs,H9,I9.unpinned.weak (by simp[fS,hu]) (λj v e=>?_),T.keep _ _ _ st7 λb hb o e=>(I9.pin (b,o) (OF _ (OF _ (qj hb e)))).1,λb hb=>?_,w9⟩
    ·unfold fS at e ⊢
     by_cases hj:j<ns.length
     ·rw[Oj (by rw[O8];exact hj),Pv,Of hj] at e;cases e
     ·have hj:=Ro hj
      rw[Oy (by rw[O8];exact hj),O8] at e;rw[Oy (by rw[Oh,hu];exact hj),Oh,hu];exact e
    ·obtain⟨o,e,d⟩:=T.obj _ _ st7 b hb
     exact(I9.pin (b,o) (OF _ (OF _ (qj hb e)))).2.1
   refine OV (hc pins _ _ _ fp ([]++iW fp s7.heap) s8 _ H8 _ I8' q8) (λok s9 Zz=>?_) λ_ _ z=>z;obtain⟨H9,I9,q9⟩:=Zz
   cases ok with
   |false =>
    rw[Og Ou] at q9 ⊢;obtain⟨m',hm,w9⟩:=q9
    exact again I9 hm w9
   |true =>
    rw[Of rfl] at q9 ⊢;refine OV (he pins _ _ _ fp ([]++iW fp s7.heap) s9 _ H9 _ I9 q9) (λy s10 Zz=>?_) λ_ _ z=>z;obtain⟨v,H10,I10,r10,hD10,m',hm,w10⟩:=Zz
    refine OV (yp (X:=(cC X pins ns jf scope (eJ X.env scope.names []) { s2 with heap:=hp3 } (upd H2 s2.heap.objs.size (.lst [])) fp)) ([]++iW fp s7.heap) s10 (fS (us.map some) jf σ) H10 (.ref s2.heap.objs.size) [v] (.ref s2.heap.objs.size) [y] (λ_ H'=>H'=upd H10 s2.heap.objs.size (.lst (ys++[v]))) I10 rfl (.cons r10 .nil) ⟨_,ys,v,rfl,rfl,hD10,hlen,rfl⟩)
     (λ_ s11 ⟨_,H11,I11,_,e11⟩=>?_) λ_ _ z=>z
    subst e11;exact again I11 hm w10
 exact codeAny_compStart_list loop (T.self _ 0 _ _ _ st4 loop)
def yA(hcalm:X.calm=true)(hg:∀ pins cl s H fp,PG (cC X pins ns jf scope cl s H fp) tg g)(hi:PI X tg iter wi)(hc:∀ pins cl s H fp,ji (cC X pins ns jf scope cl s H fp) ifs tc)(he:∀ pins cl s H fp,PE (cC X pins ns jf scope cl s H fp) elt te)(C:CompOk X ns jf scope)(hs:autoParam (∀ x,foldedSetIterable iter X.env x=pure x) L2.Eh._auto_1) :
  PE X (.ListComp elt [⟨tg,iter,ifs,0⟩] scope pos) (ou ns.length g jf wi tc te):=by
 intro pins s σ H Q I h;rw[eval_ListComp];refine yz hcalm hg hi hc he C (use:=none) (Qf:=EP X pins σ Q) I h (λD C s6 H6 m6 I6 q6 f6 n6=>?_) hs
 refine⟨m6,n6,λh' hs'=>⟨.ref D,H6,?_,rfl,q6⟩⟩
 exact I6.turnedL (fp:=[C]) (t':=s6.toks) (λb o hb q=>(hs'.2 b (λz=>hb (by simp[z]))).trans q) (λb hb=>by
  have e:b=C:=by simpa using hb
  subst e;exact f6)
def GQ{y:Str}{py spos:Pos}{i:Nat}(hcalm:X.calm=true)(hg:∀ pins cl s H fp,PG (cC X pins ns jf scope cl s H fp) tg g)(hi:PI X tg iter wi)(hc:∀ pins cl s H fp,ji (cC X pins ns jf scope cl s H fp) ifs tc)(he:∀ pins cl s H fp,PE (cC X pins ns jf scope cl s H fp) elt te)(C:CompOk X ns jf scope)(hNX:X.N.Nodup)(hi':X.N[i]?=some y)(hy:X.env.scope.names.lookup y=some .local)
  (hsw:swapsWith (.ListComp elt [⟨tg,iter,ifs,0⟩] scope pos) (some (.Name y py)) spos.line X.env=pure true)(hs:autoParam (∀ x,foldedSetIterable iter X.env x=pure x) L2.Eh._auto_1) :
  PS X (.Assign [.Name y py] (.ListComp elt [⟨tg,iter,ifs,0⟩] scope pos) spos) (jc (ou ns.length g jf wi tc te) (mF i)):=by
 intro pins s σ H D I h;rw[exec_Assign_Name_used _ _ _ _ hsw];refine N9 (Rk (N9 ?_))
 show wpAny _ X.A (do let _ <- comprehension (.ListComp elt [⟨tg,iter,ifs,0⟩] scope pos) scope X.env _ (newList []) false (eval iter X.env) (some (assign (.Name y py) X.env))) _ _ s
 refine N9 (OV (yz (Qf:=λ_ s'=>SP X pins D .next s') hcalm hg hi hc he C (use:=some (assign (.Name y py) X.env)) I h (λD' C s6 H6 m6 I6 q6 f6 n6=>?_) hs) (λ_ s' hq=>Oi (Oi hq)) λ_ _ e=>e)
 refine S0 (xS I6 hNX hi' (.inl hy) (v:=.ref D') rfl (λs7 I7 Zz=>?_) (.inr hy));obtain⟨a,hsa,ha⟩:=Zz
 have ne:C≠a:=by
  rcases ha with z|z
  ·rw[z];exact f6.2.1
  ·exactλq=>f6.2.2.2.2.1 y a z q.symm
 refine⟨m6,n6.sameBut hsa ne,λh' hs'=>⟨_,H6,?_,q6⟩⟩
 exact I7.turnedL (fp:=[C]) (t':=s7.toks) (λb o hb q=>(hs'.2 b (λz=>hb (by simp[z]))).trans q) (λb hb=>by
  have e:b=C:=by simpa using hb
  subst e;exact f6)
end
section
variable{X:Cx}{a b e:Expr}{ta tb:TE}{p p2 pos:Pos}
def GR{c:V}{cv:ZC}(rc:∀ u,RelV c u->u=cv) :
  CallR X (.builtin "isinstance") (λxs H Q=>∃ x t r,xs=[x,c]/\cP X.K H x t/\PySem.W.kitOne X.K t cv=some r/\Q (.bl r) H):=by
 intro pins s σ H xs us Q I r h;obtain⟨x,t,k,rfl,ty,hk,q⟩:=h;obtain⟨u,w',rfl,rx,ry⟩:=n9 r;obtain rfl:=rc _ ry;exact Fe I rx ty hk λtk=>⟨.bl k,H,I.tok _,rfl,q⟩
def yB(n:String):∀ u,RelV (.ty n) u->u=Value.type n:=(λ_ r=>r)
def GS(c:ZE):∀ u,RelV (.ref c) u->u=Value.ref c:=(λ_ r=>r)
def GT:OpR X (compareOp .LtE) (λx y H Q=>∃ i j,x=.str i/\y=.str j/\Q (.bl (!decide (j.cps.toList<i.cps.toList))) H):=by
 intro pins s σ H x y v u Q I rx ry h;obtain⟨i,j,rfl,rfl,q⟩:=h;obtain⟨t,rfl⟩:=rx;obtain⟨t',rfl⟩:=ry;exact PySem.P.le_str (cq I q rfl)
def GU:iX X "str.count" (λx vs H Q=>∃ z y,x=.str z/\vs=[.str y]/\Q (.int ((Builtin.Str.occurrences z y 0 z.length (z.length+1)).length:Nat)) H):=by
 intro pins s σ H x vs v us Q I rx rv h;obtain⟨z,y,rfl,rfl,q⟩:=h;obtain⟨t,rfl⟩:=rx;obtain⟨u,rfl,t',rfl⟩:=jg rv;exact call_gives F.slot_str_count (Q4 s z t) F.entry_str_count (F.args_str_count_2 _ _) (gives_str_count z y t t') ⟨.int _,H,I.tok _,⟨_,rfl⟩,q⟩
def GV(l:List (Array Nat)):∀ acc:Array Nat,(l.foldl (· ++ ·) acc).toList=acc.toList++(l.map Array.toList).flatten:=by
 induction l with
 |nil=>intro acc;simp
 |cons x r ih=>intro acc;rw[RP,ih];simp
def GW(hc:X.calm=true):CallR X (.builtin "all") (λxs H Q=>∃ (a:ZE) (bs:List Bool),xs=[.ref a]/\SqL X.K H a (bs.map V.bl)/\Q (.bl (bs.all id)) H):=by
 intro pins s σ H xs us Q I r h;obtain⟨l,bs,rfl,hq,q⟩:=h;obtain⟨u,rfl,rx⟩:=jg r
 cases rx
 obtain⟨its,rv,pl,hz⟩:=I.list hq;have hlt:l<s.heap.objs.size:=by obtain⟨_,_,e,_⟩:=pl;exact Om e
 have hlen:its.length=bs.length:=by rw[<- rv.length,Oh]
 refine call_all_walk (Re pl.isList ?_)
 refine⟨s.heap.objs.size,[s.heap.objs.size,l],[s.heap.objs.size],its.toArray.size,_,_,λi=>(bs[i]?).getD true,rfl,Walks.list (A:=X.A.in1) (I.ok.hd hc) _ l (OJ hlt) its.toArray,
  ⟨⟨_,Os _ rfl,rfl,rfl⟩,pl.isList.push _⟩,λi v s' Q' E' hP hQ=>?_,λh' tk hk=>?_⟩
 ·have hP':its[i]?=some v:=by simpa using hP
  have hi:i<its.length:=(NZ.mp hP').1;have hb:(bs.map V.bl)[i]?=some (V.bl (bs[i]'(by omega))):=by rw[OI,On (by omega)];rfl
  obtain⟨u,hu,ru⟩:=rv.get hb;rw[hP'] at hu
  cases hu
  cases ru
  have e:(bs[i]?).getD true=bs[i]'(by omega):=by rw[On (by omega)];rfl
  have hQ2:Q' ((bs[i]?).getD true) s':=hQ;rw[e] at hQ2;exact OA hQ2
 ·have e:((List.range its.toArray.size).all λi=>(bs[i]?).getD true)=bs.all id:=by
   rw[Oq,hlen,Py,OW,OW];constructor
   ·intro z c hc'
    obtain⟨i,hi,rfl⟩:=Qm hc';have:=z i (Qy.mpr hi);rw[On hi] at this;exact this
   ·intro z i hi
    have hi':=Qy.mp hi;rw[On hi'];exact z _ (PK hi')
  rw[e];refine⟨.bl _,H,I.kept (t':=tk) λb o q=>?_,rfl,q⟩
  exact hk b o (λhm=>by rw[Qs.mp hm] at q;exact Pt _ (Om q)) (Oe _ q)
end
section
variable{X:Cx}
def GY:OpR X (binaryOp .FloorDiv) (rI (λ_ j=>0<j/\j<2 ^ 200) λi j=>.int (i / j)):=(qk λi j _ _ _ _ _ hc q=>by
 obtain⟨h1,h2⟩:=hc;refine floordiv_int ⋯ (by rw[Int.fdiv_eq_ediv_of_nonneg i ⋯];exact q) (.inl (PyProof.noPylong_of_log2 ?_))
 have h3:j.natAbs<2 ^ 200:=by lia
 have h4:j.natAbs.log2<200:=(Nat.log2_lt ⋯).mpr h3;lia)
def GZ:OpR X (binaryOp .Mult) (rI IntMulOk λi j=>.int (i*j)):=(qk λ_ _ _ _ _ _ _ hc q=>mul_int q hc)
end
def ie:bootBuiltins "int"=some (.type "int"):=by decide +kernel
def G0:bootBuiltins "bool"=some (.type "bool"):=by decide +kernel
def yC:bootBuiltins "str"=some (.type "str"):=by decide +kernel
open Sem (wp)
def DkH(h h':Heap):Prop:=∀ b o,h.get? b=some o->∃ o',h'.get? b=some o'/\o'.dict=o.dict
def DkH.refl(h:Heap):DkH h h:=(λ_ o e=>⟨o,e,rfl⟩)
def cM{α:Type}(m:Sem α):Prop:=∀ (M:Model) (Γ:PySem.Ctx) (Q:α->Pos->ZB->Prop) (E:ZC->Pos->ZB->Prop) (p:Pos) (s:ZB) (h0:Heap),DkH h0 s.heap->wp M Γ m Q E p s->wp M Γ m (λa p' s'=>Q a p' s'/\DkH h0 s'.heap) E p s
section
variable{α β:Type}
def cZ{m:Sem α}{f:α->Sem β}(h:cM m)(g:∀ a,cM (f a)):cM (m >>= f):=(λM Γ Q E p s h0 d q=>by
 rw[Sem.wp_bind'] at q ⊢;exact Sem.wp_mono M Γ m (λa p' s' z=>g a M Γ _ _ p' s' h0 z.2 z.1) (λ_ _ _ x=>x) p s (h M Γ _ _ p s h0 d q))
def dM(a:α):cM (pure a:Sem α):=(λM Γ Q E p s h0 d q=>by
 have q':Q a p s:=q;exact(show wp M Γ (Sem.pure a) _ E p s by rw[wp];exact⟨q',d⟩))
def i4(w:String):cM (Sem.unsupported w:Sem α):=(λM Γ Q E p s h0 d q=>by rw[wp] at q;exact q.elim)
def G4{a:ZE}{pt:Option ZC}{k:Obj->Sem α}(h:∀ o,cM (k o)):cM (Sem.load a pt k):=(λM Γ Q E p s h0 d q=>by
 rw[wp] at q ⊢;obtain⟨o,h1,h2⟩:=q
 exact⟨o,h1,h o M Γ _ _ p _ h0 d h2⟩)
def G5{k:List (Code×Pos)->Sem α}(h:∀ o,cM (k o)):cM (Sem.stack k):=(λM Γ Q E p s h0 d q=>by
 rw[wp] at q ⊢;exact h _ M Γ _ _ p _ h0 d q)
def G6{o:Obj}{k:ZE->Sem α}(h:∀ o,cM (k o)):cM (Sem.alloc o k):=(λM Γ Q E p s h0 d q=>by
 rw[wp] at q ⊢;exact h _ M Γ _ _ p { s with heap:=s.heap.push o } h0 (λb o' e=>by
  obtain⟨o2,e2,e3⟩:=d b o' e;exact⟨o2,Oe _ e2,e3⟩) q)
def G7{a:ZE}{pt:Option ZC}{f:Obj->Obj}{k:Unit->Sem α}(hf:∀ o,(f o).dict=o.dict/\(o.isFreed=false->(f o).isFreed=false))(h:∀ o,cM (k o)):cM (Sem.update a pt f k):=(λM Γ Q E p s h0 d q=>by
 rw[wp] at q ⊢;refine⟨q.1,h _ M Γ _ _ p { s with heap:=s.heap.update a f } h0 (λb o' e=>?_) q.2⟩
 obtain⟨o2,e2,e3⟩:=d b o' e;by_cases hb:b=a
 ·subst hb
  exact⟨f o2,P9 f e2 ((hf o2).2 (Heap.get?_some_iff.mp e2).2),(hf o2).1.trans e3⟩
 ·exact⟨o2,(Heap.get?_update_ne _ _ _ _ hb).trans e2,e3⟩)
end
def uA(a:ZE):cM (load a):=(G4 λo=>dM o)
def yD{a:ZE}{f:Obj->Obj}(hf:∀ o,(f o).dict=o.dict/\(o.isFreed=false->(f o).isFreed=false)):cM (update a f):=(G7 hf λo=>dM o)
def G8(v:ZC):cM (fieldsOf v):=by
 unfold fieldsOf
 cases v<;>first|exact i4 _|skip
 refine cZ (uA _) λo=>?_
 cases o.data<;>first|exact dM _|exact i4 _
def qz(v:ZC)(i:Nat):cM (field v i):=by
 unfold field;refine cZ (G8 v) λo=>?_
 cases o[i]? <;> first|exact dM _|exact i4 _
def G9(g:Array ZC->Array ZC)(o:Obj):(Obj.mapFields g o).dict=o.dict/\(o.isFreed=false->(Obj.mapFields g o).isFreed=false):=by
 obtain⟨c,d,dt,sl⟩:=o
 cases dt<;>exact⟨rfl,λh=>h⟩
def qA(v:ZC)(i:Nat)(x:ZC):cM (setField v i x):=by
 unfold setField
 cases v<;>first|exact i4 _|skip
 unfold updateField;refine cZ (uA _) λo=>?_
 cases o.data<;>first|exact i4 _|skip
 dsimp only;split
 ·exact yD (G9 _)
 ·exact i4 _
def yE(e:ZC)(fr:Option ZE):cM (setFlight e fr):=by
 unfold setFlight;refine cZ (qz e 1) λtb=>?_
 split
 ·exact qA _ _ _
 ·exact dM _
def Ha(env:Env)(outer:List Env):cM (behindIsImport env outer):=by
 unfold behindIsImport;split
 ·exact dM _
 ·split
  ·exact dM _
  ·exact cZ (qz _ _) λ_=>dM _
def uB:cM stack:=(G5 λo=>dM o)
def Hb:cM underTheClaimsCaller:=by
 unfold underTheClaimsCaller;exact cZ uB λ_=>dM _
def Hc(env:Env)(b:Bool)(l:List Env):cM (keptBack env b l):=by
 unfold keptBack
 cases l with
 |nil =>
  dsimp only;split
  ·exact dM _
  ·exact cZ Hb λ_=>dM _
 |cons=>exact dM _
theorem yF:∀ l:List Env,cM (readyFrames l)
 |[]=>dM _
 |env::outer=>by
  unfold readyFrames
  cases env.frame with
  |none=>exact i4 _
  |some f =>
   refine cZ (uA f) λo=>?_
   split
   ·exact dM _
   ·refine cZ (Ha _ _) λb=>cZ (Hc _ _ _) λv=>cZ (yD λo=>⟨rfl,λh=>by obtain⟨c,d,dt,sl⟩:=o;cases dt<;>exact h⟩) λ_=>yF outer
def yG(env:Env):cM (PySem.frameOf env):=by
 unfold PySem.frameOf frameEnvs;refine cZ (cZ uB λ_=>dM _) λl=>cZ ?_ λr=>?_
 ·generalize l.dropWhile _=m
  unfold frameObject
  cases m with
  |nil=>exact dM _
  |cons e r=>exact cZ (yF _) λ_=>dM _
 ·cases r with
  |none=>exact i4 _
  |some v=>exact dM _
def yH(f:ZE)(b:Bool):cM (entryPlaceOf f b):=by
 unfold entryPlaceOf;refine cZ uB λl=>?_
 split
 ·exact dM _
 ·exact dM _
def yI(a b c d e:ZC)(l:List ZC):cM (EntryCells.newEntry a b c d e l):=by
 unfold EntryCells.newEntry newFields newObj;dsimp only;have k:∀ d,cM (newObjAsIs (.type "traceback") (.fields d)):=λd=>by
  unfold newObjAsIs;exact cZ (G6 λo=>dM o) λ_=>dM _
 generalize ([a,b,c,d,e]++if l.isEmpty=true then List.replicate 6 Value.none else l).toArray=arr
 split
 ·exact cZ (i4 _) λ_=>k _
 ·exact k _
def Hd(e:ZC)(env:Env):cM (noteFrame e env):=by
 unfold noteFrame
 cases env.frame with
 |none=>exact i4 _
 |some f =>
  refine cZ (qz e 1) λh=>?_
  dsimp only;split
  ·refine cZ (qz h 3) λx=>?_
   split
   ·exact dM _
   ·exact cZ (qA _ _ _) λ_=>cZ (yG env) λ_=>cZ (yH _ _) λ_=>cZ (yI _ _ _ _ _ _) λ_=>qA _ _ _
  ·exact cZ (yG env) λ_=>cZ (yH _ _) λ_=>cZ (yI _ _ _ _ _ _) λ_=>qA _ _ _
def uC{α:Type}{M:Model}{A:ZG}{t:Sem α}{Q:α->ZB->Prop}{E:ZC->ZB->Prop}{s:ZB}{h0:Heap}(k:cM t)(d:DkH h0 s.heap)(h:wpAny M A t Q E s):wpAny M A t (λa s'=>Q a s'/\DkH h0 s'.heap) E s :=(
 λΓ p hΓ=>k M Γ _ _ p s h0 d (h Γ p hΓ))
def ObjOk.some{P:ZD}{w:ZF}{H:Hp}{h:Heap}{a:ZE}{o:HO}(x:ObjOk P w H h a o):∃ ob,h.get? a=Option.some ob:=by
 cases o with
 |lst xs=>obtain⟨_,_,_,_,e⟩:=x;exact⟨_,e⟩
 |tup xs=>obtain⟨_,_,_,o,e,_⟩:=x;exact⟨o,e⟩
 |dK kvs=>obtain⟨_,_,_,_,o,_,_,e,_⟩:=x;exact⟨_,e⟩
 |dT xc kvs=>obtain⟨_,_,_,_,o,_,_,e,_⟩:=x;exact⟨_,e⟩
 |set S n=>obtain⟨o,_,_,_,e,_⟩:=x;exact⟨_,e⟩
 |ins C dx fs=>obtain⟨_,_,_,e,_⟩:=x;exact⟨_,e⟩
 |own y=>obtain⟨_,e⟩:=x;exact⟨_,e⟩
 |xd fs=>obtain⟨_,⟨_,_,_,e,_⟩,_⟩:=x;exact⟨_,e⟩
 |rng lo hi=>obtain⟨_,_,_,e⟩:=x;exact⟨_,e⟩
 |frz ob u=>obtain⟨e,_⟩:=x;exact⟨_,e⟩
 |tbl ps=>exact⟨_,(show h.get? a=Option.some _ from x)⟩
 |met f y=>exact⟨_,(show h.get? a=Option.some _ from x)⟩
 |ext φ=>obtain⟨_,⟨_,e⟩,_⟩:=x;exact⟨_,e⟩
def gP(X:Cx)(pins:List (ZE×Obj))(H:Hp)(h B:Heap):Prop :=
 ∀ b o,h.get? b=some o->b∉d7 X.stack->((∃ u,H b=some u)\/(∃ o',X.s₀.heap.get? b=some o')\/∃ p∈X.pn++pins,p.1=b)->B.get? b=some o
section
variable{X:Cx}{pins:List (ZE×Obj)}{σ:St}{H:Hp}{s:ZB}
def Inv.nofr(I:Inv X pins σ H s){b:ZE}{o:Obj}(e:X.s₀.heap.get? b=some o)(hb:b∉X.fs):b∉d7 X.stack:=(λz=>by
 rcases Ov.mp (I.stkSub b z) with q|q
 ·exact OJ (Ox (Om e) I.ok.above) q
 ·exact hb q)
def Inv.nofrT(I:Inv X pins σ H s){b:ZE}{u:HO}(e:H b=some u):b∉d7 X.stack:=(λz=>by
 have q:=I.stkFree b z;rw[q] at e
 cases e)
def Inv.nofrP(I:Inv X pins σ H s){p:ZE×Obj}(hp:p∈X.pn++pins):p.1∉d7 X.stack:=(λz=>by
 obtain⟨_,_,ne,nf,_⟩:=I.pin p hp;rcases Ov.mp (I.stkSub p.1 z) with q|q
 ·exact ne q
 ·exact nf q)
def Inv.flown{B h':Heap}{t':Nat}(I:Inv X pins σ H s)(hex:X.ex=[])(F:gP X pins H s.heap B)(st:B.StaysIn h')(sm:s.heap.UpToSlots h'):Inv X pins σ H { s with heap:=h',toks:=t' }:=by
 have nx:∀ b,b∉X.ex:=λb z=>by rw[hex] at z;cases z
 refine⟨I.ok,I.os,I.bare,⟨λb o e n hb hx=>?_,λb o e n hb hx=>?_,I.base.free,λb o e hx=>?_,I.base.tups,I.base.frzs,I.base.tbls⟩,?_,λx c e=>?_,I.free,I.freeC,λp hp=>?_,λb u e=>?_,I.len⟩
 ·exact st b o (F b o (I.base.keep b o e n hb hx) (I.nofr e hb) (.inr (.inl ⟨o,e⟩)))
 ·obtain⟨sl,q⟩:=I.base.slot b o e n hb hx
  obtain⟨_,o',ho',hd⟩:=I.funs.mem hb;rw[q] at ho'
  cases ho'
  obtain⟨sl',q'⟩:=sm b _ q hd;exact⟨sl',q'⟩
 ·obtain⟨o',q⟩:=I.base.there b o e hx
  by_cases hb:b∈X.fs
  ·obtain⟨_,o'',ho'',hd⟩:=I.funs.mem hb
   rw[q] at ho''
   cases ho''
   obtain⟨sl',q'⟩:=sm b _ q hd;exact⟨_,q'⟩
  ·exact⟨o',st b o' (F b o' q (I.nofr e hb) (.inr (.inl ⟨o,e⟩)))⟩
 ·obtain⟨m,hn,hl⟩:=I.loc
  refine⟨m,sm.ns hn,λi x v e1 e2 e3=>?_⟩
  obtain⟨u,r,l⟩:=hl i x v e1 e2 e3;refine⟨u,r,?_⟩
  rcases l with l|⟨k,c,e,o,ho,hd⟩
  ·exact .inl l
  ·obtain⟨sl,q⟩:=sm c o ho λvs z=>by rw[hd] at z;cases z
   exact .inr ⟨k,c,e,_,q,hd⟩
 ·obtain⟨v,o,ho,hd⟩:=I.cell x c e
  obtain⟨sl,q⟩:=sm c o ho λvs z=>by rw[hd] at z;cases z
  exact⟨v,_,q,hd⟩
 ·obtain⟨e,n,ne,nf,d⟩:=I.pin p hp
  exact⟨st _ _ (F _ _ e (I.nofrP hp) (.inr (.inr ⟨p,hp,rfl⟩))),n,ne,nf,d⟩
 ·refine(I.hok b u e).stay (λc v hc q=>?_) (λ_ q=>q) λ_ _ q=>q
  rcases hc with z|z
  ·subst z
   exact st _ _ (F _ _ q (I.nofrT e) (.inl ⟨_,e⟩))
  ·exact st _ _ (F _ _ q (I.nofrT z) (.inl ⟨_,z⟩))
def Inv.adopt0{T:ZE}{ob:HO}(I:Inv X pins σ H s)(hn:H T=none)(hT:X.s₀.heap.get? T=none)(hL:T≠X.env.locals)(hc:∀ x c,X.env.cells.lookup x=some c->c≠T)
  (hp:∀ p∈X.pn++pins,p.1≠T)(new:ObjOk X.prog X.w (upd H T ob) s.heap T ob):Inv X pins σ (upd H T ob) s:=by
 have hne:∀ b u,H b=some u->b≠T:=λb u e=>fQ e hn
 have hs:∀ b o,X.s₀.heap.get? b=some o->b≠T:=λb o e z=>by rw[z,hT] at e;cases e
 refine⟨I.ok,I.os,I.bare,⟨I.base.keep,I.base.slot,λb o e n hx=>by rw[bg (hs b o e)];exact I.base.free b o e n hx,I.base.there,λb xs e=>?_,λb o u e=>?_,λb ps e=>?_⟩,I.loc,I.cell,by rw[bg (Ne.symm hL)];exact I.free,λx c e=>by rw[bg (hc x c e)];exact I.freeC x c e,λp hp'=>?_,λb u e=>?_,I.len⟩
 ·have q:=I.base.tups b xs e
  rw[bg (hne b _ q)];exact q
 ·have q:=I.base.frzs b o u e
  rw[bg (hne b _ q)];exact q
 ·obtain⟨more,q⟩:=I.base.tbls b ps e
  exact⟨more,by rw[bg (hne b _ q)];exact q⟩
 ·obtain⟨e,n,ne,nf,d⟩:=I.pin p hp'
  exact⟨e,by rw[bg (hp p hp')];exact n,ne,nf,d⟩
 ·by_cases hb:b=T
  ·subst hb;rw[dQ] at e;cases e;exact new
  ·rw[bg hb] at e
   exact(I.hok b u e).stay (λc v _ q=>q) (λc q=>by rw[bg (hne c _ q)];exact q) λc xs q=>by rw[bg (hne c _ q)];exact q
end
structure Arr(X:Cx)(pins:List (ZE×Obj))(σ:St)(H:Hp)(a:ZE)(cls:ZC)(dx:Option ZE)(s:ZB):Prop where
 inv:Inv X pins σ H s
 un:H a=none
 new:X.s₀.heap.get? a=none
 nl:a≠X.env.locals
 nc:∀ x c,X.env.cells.lookup x=some c->c≠a
 np:∀ p∈X.pn++pins,p.1≠a
 dic:∃ ob,s.heap.get? a=some ob/\ob.dict=dx
 fly:∃ B a0,gP X pins H s.heap B/\B.StaysIn s.heap/\B.get? a=none/\s.heap.FunFrames B X.stack /\
  ((∃ oe vs,s.heap.get? a=some oe/\oe.cls=cls/\oe.data=.fields vs/\vs[0]?=some a0/\vs[1]?=some .none)\/s.heap.TracedW B a cls a0)
def cU(P:ZD)(w:ZF):fR:=λouter H s E e s'=>∃ (a:ZE) (cls a0:ZC) (dx:Option ZE) (H':Hp) (B:Heap),e=.ref a/\s'.os=s.os/\AllBare s'.gens/\Un (d7 outer) [] H H' s.heap s'.heap/\HOk P w H' s'.heap /\
 Heap.FlyingW B outer a cls a0 s'.heap/\(∀ b o,s'.heap.get? b=some o->b∉d7 outer->((∃ u,H' b=some u)\/∃ o',s.heap.get? b=some o')->B.get? b=some o)/\H' a=none/\s.heap.get? a=none/\(∃ ob,s'.heap.get? a=some ob/\ob.dict=dx)/\E cls dx H'
section
variable{X:Cx}{pins:List (ZE×Obj)}{σ:St}{H:Hp}{s:ZB}
def He{h':Heap}{e:ZE}{cls:ZC}{args:List ZC}{t':Nat}(I:Inv X pins σ H s)(hex:X.ex=[])(hx:Heap.MadeExcOf s.heap h' e cls args):Arr X pins σ H e cls none { s with heap:=h',toks:=t' }:=by
 have nx:∀ b,b∉X.ex:=λb z=>by rw[hex] at z;cases z
 have none_of:∀ b o,s.heap.get? b=some o->b≠e:=λb o q z=>by rw[z,hx.new] at q;cases q
 have eq_of:∀ b o o1,h'.get? b=some o->s.heap.get? b=some o1->o1=o:=λb o o1 q q1=>by
  have z:=hx.keeps b o1 q1;rw[q] at z;exact(OG z).symm
 obtain⟨t,he,_,_⟩:=hx.there;refine⟨I.kept hx.keeps,?_,?_,λz=>?_,λx c q z=>?_,λp hp z=>?_,⟨_,he,rfl⟩,PySem.W.hideAll s.heap (d7 X.stack),.ref t,λb o q nb alt=>?_,λb o q=>hx.keeps b o (QV _ q),?_,?_,.inl ⟨_,_,he,rfl,rfl,rfl,rfl⟩⟩
 ·cases q:H e with
  |none=>rfl
  |some u =>
   obtain⟨ob,z⟩:=(I.hok e u q).some;exact absurd rfl (none_of e ob z)
 ·cases q:X.s₀.heap.get? e with
  |none=>rfl
  |some o =>
   obtain⟨ob,z⟩:=I.base.there e o q (nx e);exact absurd rfl (none_of e ob z)
 ·obtain⟨m,⟨o,_,_,ho,_⟩,_⟩:=I.loc
  exact none_of _ o ho z.symm
 ·obtain⟨v,o,ho,_⟩:=I.cell x c q
  exact none_of _ o ho z
 ·exact none_of _ _ (I.pin p hp).1 z
 ·have there:∃ o1,s.heap.get? b=some o1:=by
   rcases alt with⟨u,q'⟩|⟨o',q'⟩|⟨p,hp,rfl⟩
   ·exact(I.hok b u q').some
   ·exact I.base.there b o' q' (nx b)
   ·exact⟨_,(I.pin p hp).1⟩
  obtain⟨o1,q1⟩:=there;rw[<- eq_of b o o1 q q1];exact Sq _ q1 nb
 ·cases q:(PySem.W.hideAll s.heap (d7 X.stack)).get? e with
  |none=>rfl
  |some o=>exact absurd rfl (none_of e o (QV _ q))
 ·refine(PySem.W.funFrames_hide I.stack λenv henv b hb=>QX.mpr ⟨env,henv,hb⟩).of_keeps λb o q _=>⟨o,hx.keeps b o q,rfl⟩
def yJ{E:XK}{e:ZC}{s':ZB}(I:Inv X pins σ H s)(hex:X.ex=[])(h:cU X.prog X.w X.stack H s E e s'):∃ a cls dx H',e=.ref a/\Arr X pins σ H' a cls dx s'/\E cls dx H':=by
 obtain⟨a,cls,a0,dx,H',B,rfl,os,bare,un,hok,⟨f1,f2,f3,f4⟩,ext,na,ns,dk,q⟩:=h;have nx:∀ b,b∉X.ex:=λb z=>by rw[hex] at z;cases z
 have none_of:∀ b o,s.heap.get? b=some o->b≠a:=λb o q z=>by rw[z,ns] at q;cases q
 refine⟨a,cls,dx,H',rfl,⟨I.call' (ch:=[]) os un hok bare (λb z=>absurd z 's'),na,?_,λz=>?_,λx c q z=>?_,λp hp z=>?_,dk,B,a0,λb o q nb alt=>?_,f1,f2,f3,.inr f4⟩,q⟩
 ·cases q:X.s₀.heap.get? a with
  |none=>rfl
  |some o =>
   obtain⟨ob,z⟩:=I.base.there a o q (nx a);exact absurd rfl (none_of a ob z)
 ·obtain⟨m,⟨o,_,_,ho,_⟩,_⟩:=I.loc
  exact none_of _ o ho z.symm
 ·obtain⟨v,o,ho,_⟩:=I.cell x c q
  exact none_of _ o ho z
 ·exact none_of _ _ (I.pin p hp).1 z
 ·refine ext b o q nb ?_
  rcases alt with⟨u,q'⟩|⟨o',q'⟩|⟨p,hp,rfl⟩
  ·exact .inl ⟨u,q'⟩
  ·exact .inr (I.base.there b o' q' (nx b))
  ·exact .inr ⟨_,(I.pin p hp).1⟩
def Arr.land0{a:ZE}{cls:ZC}{dx:Option ZE}{Q:Unit->ZB->Prop}{E:ZC->ZB->Prop}{M:Model}{A:ZG}(R:Arr X pins σ H a cls dx s)(hex:X.ex=[])(hfr:A.frames=some X.stack){outer:List Env}(hst:X.stack=X.env::outer)(hf:X.env.frame=some X.env.locals)
  (hQ:∀ h' B a0,gP X pins H s.heap B->Heap.FlyingW B X.stack a cls a0 h'->s.heap.UpToSlots h'->Inv X pins σ H { s with heap:=h' }->Q () { s with heap:=h' }) :
  wpAny M A (noteFrame (.ref a) X.env) (λ_ s₂=>wpAny M A (setFlight (.ref a) none) Q E s₂) E s:=by
 obtain⟨B,a0,fm,st,hb,ff,alt⟩:=R.fly;have after:∀ h4,Heap.HeldW B X.stack a cls a0 X.env.locals h4->s.heap.UpToSlots h4->wpAny M A (setFlight (.ref a) none) Q E { s with heap:=h4 }:=λh4 hh sm=>by
  refine wpAny_landsW (s:={ s with heap:=h4 }) hh λh5 fl sm5=>?_
  have sm':s.heap.UpToSlots h5:=sm.trans sm5;exact hQ h5 B a0 fm fl sm' (R.inv.flown (t':=s.toks) hex fm fl.1 sm')
 rw[hst] at hfr;rw[hst] at ff;rcases alt with⟨oe,vs,he,hc,hd,h0,h1⟩|tr
 ·subst hc
  have hsz:1<vs.size:=(Array.getElem?_eq_some_iff.mp h1).1;unfold noteFrame;simp only[hf]
  refine N9 (Sf he hd h1 ?_)
  rw[Og 'd'];refine wpAny_entryW hfr ff hf he st hb hd hsz h0 λh4 hN=>?_
  obtain⟨k1,k2,k3,k4⟩:=hN;exact after h4 (by rw[hst];exact⟨k1,hb,k2,k3⟩) k4
 ·exact wpAny_looks_onW hfr hf ⟨st,hb,ff,tr⟩ λh4 hh sm=>after h4 (by rw[hst];exact hh) sm
def Arr.land{a:ZE}{cls:ZC}{dx:Option ZE}{Q:Unit->ZB->Prop}{E:ZC->ZB->Prop}{M:Model}{A:ZG}(R:Arr X pins σ H a cls dx s)(hex:X.ex=[])(hfr:A.frames=some X.stack){outer:List Env}(hst:X.stack=X.env::outer)(hf:X.env.frame=some X.env.locals)
  (hQ:∀ h' B a0,gP X pins H s.heap B->Heap.FlyingW B X.stack a cls a0 h'->s.heap.UpToSlots h'->Inv X pins σ H { s with heap:=h' }->(∃ ob,h'.get? a=some ob/\ob.dict=dx)->Q () { s with heap:=h' }) :
  wpAny M A (noteFrame (.ref a) X.env) (λ_ s₂=>wpAny M A (setFlight (.ref a) none) Q E s₂) E s:=by
 refine OV (uC (Hd _ _) (DkH.refl _) (R.land0 (E:=E) (Q:=λ_ s'=>∃ h' B a0,s'={ s with heap:=h' }/\gP X pins H s.heap B/\Heap.FlyingW B X.stack a cls a0 h'/\s.heap.UpToSlots h'/\Inv X pins σ H { s with heap:=h' }) hex hfr hst hf λh' B a0 z1 z2 z3 z4=>⟨h',B,a0,rfl,z1,z2,z3,z4⟩)) (λ_ s2 h2=>?_) λ_ _ z=>z
 refine OV (uC (yE _ _) h2.2 h2.1) (λ_ s3 h3=>?_) λ_ _ z=>z
 obtain⟨⟨h',B,a0,rfl,z1,z2,z3,z4⟩,dk⟩:=h3;obtain⟨ob,e1,e2⟩:=R.dic;obtain⟨ob',e3,e4⟩:=dk a ob e1;exact hQ h' B a0 z1 z2 z3 z4 ⟨ob',e3,e4.trans e2⟩
def yK{P:ZD}{w:ZF}{K:ZA}{mg:Str->Option ZC}{base:Heap}{N:List Str}{qual:Str}{scope:Scope}{f:ZE}{cd:ZC}{A:ZG}{outer:List Env}{s0:ZB}{H0:Hp}{E:XK}{a:ZE}{cls:ZC}{dx:Option ZE}
  (R:Arr (bY (cU P w) P w K mg base N qual scope f cd A outer s0 H0 E) pins σ H a cls dx s)(q:E cls dx H):(bY (cU P w) P w K mg base N qual scope f cd A outer s0 H0 E).xe (.ref a) s:=by
 show wpAny _ _ (leaving _ _) _ _ s
 unfold leaving;refine N9 (R.land (E:=λe' s''=>cU P w outer H0 s0 E e' s'') rfl R.inv.ok.frames rfl rfl λh' B a0 fm fl sm I' dk=>?_)
 have I:=R.inv;obtain⟨k1,k2,⟨_,_,k3⟩,k4⟩:=fl;refine⟨a,cls,a0,dx,H,B,rfl,I'.os,I'.bare,I'.base,I'.hok,⟨k1,k2,k3,k4⟩,λb o e nb alt=>?_,R.un,R.new,dk,q⟩
 have nstk:b∉d7 (bY (cU P w) P w K mg base N qual scope f cd A outer s0 H0 E).stack:=by
  rcases alt with⟨u,z⟩|⟨o',z⟩
  ·exact I.nofrT z
  ·exact I.nofr z nb
 have there:∃ o1,s.heap.get? b=some o1:=by
  rcases alt with⟨u,z⟩|⟨o',z⟩
  ·exact(I.hok b u z).some
  ·exact I.base.there b o' z (λz=>absurd (show b∈([]:List ZE) from z) 's')
 obtain⟨o1,q1⟩:=there;have z:B.get? b=some o1:=fm b o1 q1 nstk (by
  rcases alt with⟨u,z⟩|⟨o',z⟩
  ·exact .inl ⟨u,z⟩
  ·exact .inr (.inl ⟨o',z⟩))
 have z2:=k1 b o1 z;rw[show (Heap.get? h' b)=some o from e] at z2
 cases z2
 exact z
end
def mI(X:Cx)(Ex:St->XK):Prop:=∀ (pins:List (ZE×Obj)) (σ:St) (H:Hp) (s:ZB) (a:ZE) (cls:ZC) (dx:Option ZE),Arr X pins σ H a cls dx s->Ex σ cls dx H->X.xe (.ref a) s
def kL(CX:fR)(X:Cx)(Ex:St->XK):Prop:=∀ (pins:List (ZE×Obj)) (σ:St) (H:Hp) (s:ZB) (e:ZC) (s':ZB),Inv X pins σ H s->CX X.stack H s (Ex σ) e s'->X.xe e s'
section
variable{P:ZD}{w:ZF}{K:ZA}{mg:Str->Option ZC}{base:Heap}{N:List Str}{qual:Str}{scope:Scope}{f:ZE}{cd:ZC}{A:ZG}{outer:List Env}{s0:ZB}{H0:Hp}{E:XK}
def uD:mI (bY (cU P w) P w K mg base N qual scope f cd A outer s0 H0 E) (λ_=>E):=(λ_ _ _ _ _ _ _ R q=>yK R q)
def Hf:Fk (cU P w) (bY (cU P w) P w K mg base N qual scope f cd A outer s0 H0 E) E:=(λpins σ H s e s' I h=>by
 obtain⟨a,cls,dx,H',rfl,R,q⟩:=yJ (X:=bY (cU P w) P w K mg base N qual scope f cd A outer s0 H0 E) I rfl h;exact yK R q)
end
section
variable{X:Cx}{x:Str}{C:ZE}{bm:List ZC}{B newId initId:String}{np cpos pos:Pos}{e:Expr}{es:List Expr}{t:TA}{Ex:St->XK}
def Hg(cls:ZC)(Ex:St->XK)(t:TA):TS:=λ_ σ H=>t σ H λvs H1=>vs.length<=1000/\Ex σ cls none H1
def Hh (O:OwnCls x C bm newId X.mg X.base) (FB:ExcBaseFacts B newId initId bm) (hc:X.calm=true) (hex:X.ex=[]) (hr:mI X Ex) (hg:Gl X x) (ha:PA X (e::es) t)
  (hdb:((x == ("__debug__" : Str))=false)⁻¹) (he:‹qE1 e es X.env›) (hpl:‹qF1 cpos es X.env›) :
  PS X (.Raise (some (.Call (.Name x np) (e::es) [] cpos)) none pos) (Hg (.ref C) Ex t):=by
 intro pins s σ H D I h;obtain⟨tl,NN,nm,q,bs,hdct,sn,sub,ab,col,dd,k0,k1,k2,k3,k5,mN,hC,hN,hni,T⟩:=O.obj;refine wpAny_Raise_call_subT (C:=C) (nm:=nm) (q:=q) (N:=NN) (bs:=bs) (bm:=tl) (hdct:=hdct) (sn:=sn) (sub:=sub) (ab:=ab) (col:=col) (dd:=dd) (k0:=k0) (k1:=k1) (k2:=k2) (k3:=k3) (k5:=k5) FB (mN:=mN)
  (T.hasType FB.hasBase) (I.ok.hd hc) (by rw[he];show (false || (backTo cpos (starEach es X.env)).any (·.1))=false;rw[hpl];rfl) hni (ku I hg O.bound ⟨rfl,?_⟩ hdb)
 have hA:=ha cpos pins s σ H _ I h;rw[he] at hA ⊢;refine PR (thn hA λus s2 ⟨vs,H1,I1,r1,hl,q1⟩=>⟨rfl,?_,I1.bk _ _ hC,hN.keeps I1.bk,T.keeps I1.bk,λh' a hm=>hr pins σ H1 _ a _ none (He (t':=s2.toks) I1 hex hm) q1⟩)
 show us.length<=sizeLine
 rw[<- r1.length];exact Oc hl 'd'
end
section
variable{X:Cx}{CX:fR}{k:Nat}{f C:ZE}{fd:FuncData}{ps:List Str}{sp:Sp}{dvs:List V}{ds:List ZC}{Ex:St->XK}{x m:Str}{p pos apos:Pos}{e o:Expr}{es:List Expr}{ta:TE}{t:TA}
def qB{pins:List (ZE×Obj)}{σ:St}{H:Hp}{s:ZB}{Q:VK}{us:List ZC}{vs:List V}(F:FnOk X.prog X.w X.K X.mg X.base CX k f fd ps sp)(hr:Room k X.A)(hb:Binds X.K fd ps ds)(hd:Vals dvs ds)(hx:kL CX X Ex)
  (I:Inv X pins σ H s)(r:Vals vs us)(h:sp (vs++dvs) H Q (Ex σ)):wpAny (model X.prog X.w) X.A (call (.ref f) us) (EP X pins σ Q) X.xe s:=by
 have r2:Vals (vs++dvs) (us++ds):=r.append hd;have hl:(us++ds).length=ps.length:=by rw[<- r2.length];exact F.len _ _ _ _ h
 refine Q5 (RM (F.run X.A X.stack s H ⟨us,[]⟩ (us++ds) (vs++dvs) Q (Ex σ) hr I.env0 (hb s us I.kIn hl) r2 h) λr s' hq=>?_)
 cases r with
 |error e=>exact hx pins σ H s e s' I hq
 |ok fl =>
  cases fl with
  |ret u=>exact I.after hq
  |next=>exact False.elim hq
  |brk=>exact False.elim hq
  |cont=>exact False.elim hq
def Hi(sp:Sp)(dvs:List V)(Ex:St->XK)(t:TA):TE:=λσ H Q=>t σ H λvs H1=>sp (vs++dvs) H1 Q (Ex σ)
def Hj (F:FnOk X.prog X.w X.K X.mg X.base CX k f fd ps sp) (hr:Room k X.A) (hg:Gl X x) (hm:X.mg x=some (.ref f)) (hk:PySem.W.keepIn X.K (.ref f)=true) (hb:Binds X.K fd ps ds) (hd:Vals dvs ds) (hx:kL CX X Ex)
  (ha:PA X (e::es) t) (hdb:((x == ("__debug__" : Str))=false)⁻¹) (he:‹qE1 e es X.env›) (hpl:‹qF1 pos es X.env›) :
  PE X (.Call (.Name x p) (e::es) [] pos) (Hi sp dvs Ex t):=by
 intro pins s σ H Q I h;refine Qw (ku I hg hm ?_ hdb)
 refine QZ (h₀:=X.base) I.ok.mod.kin hk (thn (ha pos pins s σ H _ I h) λus s1 ⟨vs,H1,I1,r,q⟩=>⟨I1.kIn,?_⟩) he hpl
 exact qB F hr hb hd hx I1 r q
def yL(C:ZE)(m:Str)(sp:Sp)(dvs:List V)(Ex:St->XK)(ta:TE)(t:TA):TE:=λσ H Q=>ta σ H λx H1=>∃ a dx fs,x=.ref a/\H1 a=some (.ins C dx fs)/\fs.lookup m=none /\
 t σ H1 λvs H2=>sp (x::(vs++dvs)) H2 Q (Ex σ)
def Hk{pl:Sem Bool}(he:PE X o ta)(c:Cls X.K C)(hm:iD X.K C m f)(F:FnOk X.prog X.w X.K X.mg X.base CX k f fd ps sp)(hr:Room k X.A)(hb:Binds X.K fd ps ds)(hd:Vals dvs ds)(hx:kL CX X Ex)(ha:PA X (e::es) t)
  (hst:‹qE1 e es X.env›)(hpl:‹qF1 pos es X.env›)
  (ht:‹eval (.Call (.Attribute o m apos) (e::es) [] pos) X.env=(do
   let ov <- eval o X.env
   standAt apos.atName
   let (f,first) <- holding [ov] (getMethod ov m pl)
   callWith pos f first (backTo pos (starEach (e::es) X.env)) (backToKw pos (keywordEach [] X.env)))›) :
  PE X (.Call (.Attribute o m apos) (e::es) [] pos) (yL C m sp dvs Ex ta t):=by
 intro pins s σ H Q I h;refine RT (pl:=pl) (thn (he pins s σ H _ I h) λu s1 Zz=>?_) ht;obtain⟨x,H1,I1,rx,a,dx,fs,ex,ea,l,q⟩:=Zz
 subst ex;obtain rfl:u=Value.ref a:=rx
 refine x9 I1 ea c hm l ?_
 refine QZ (first:=[.ref a]) (h₀:=X.base) I.ok.mod.kin hm.kp (thn (ha pos pins s1 σ H1 _ I1 q) λus s2 ⟨vs,H2,I2,r,q2⟩=>⟨I2.kIn,?_⟩) hst hpl
 exact qB (us:=.ref a::us) (vs:=.ref a::vs) F hr hb hd hx I2 (.cons rfl r) q2
end
abbrev tryC(X:Cx)(pins:List (ZE×Obj))(xe:ZC->ZB->Prop):Cx:={ X with pn:=X.pn++pins,xe:=xe }
abbrev cD(X:Cx)(a:ZE):Cx:={ X with A:=X.A.mark (some (.ref a)),calm:=false,xe:=λ_ _=>False }
def fY(a:ZE)(cls:ZC)(dx:Option ZE):HO:=.ext λh=>∃ ob vs,h.get? a=some ob/\ob.cls=cls/\ob.data=.fields vs/\ob.dict=dx
section
variable{X:Cx}{pins pins':List (ZE×Obj)}{σ:St}{H:Hp}{s:ZB}{xe:ZC->ZB->Prop}
def Cx.Ok.tryC(ok:X.Ok):(tryC X pins xe).Ok:=(⟨ok.mod,ok.kind,ok.glob,ok.blt,ok.above,ok.inj,ok.has,ok.cab,ok.hd,ok.frames,ok.stk,ok.exf,ok.bs,ok.bsz,ok.noex,ok.exfs,ok.funs,ok.frf⟩)
def Cx.Ok.untry(ok:(L2.tryC X pins xe).Ok):X.Ok:=(⟨ok.mod,ok.kind,ok.glob,ok.blt,ok.above,ok.inj,ok.has,ok.cab,ok.hd,ok.frames,ok.stk,ok.exf,ok.bs,ok.bsz,ok.noex,ok.exfs,ok.funs,ok.frf⟩)
def Cx.Ok.hdl(ok:X.Ok)(a:ZE):(cD X a).Ok:=(⟨ok.mod,ok.kind,ok.glob,ok.blt,ok.above,ok.inj,ok.has,ok.cab,λz=>(nomatch z),ok.frames,ok.stk,ok.exf,ok.bs,ok.bsz,ok.noex,ok.exfs,ok.funs,ok.frf⟩)
def Inv.toTry(I:Inv X pins σ H s):Inv (tryC X pins xe) [] σ H s:=(⟨I.ok.tryC,I.os,I.bare,I.base,I.loc,I.cell,I.free,I.freeC,λp hp=>I.pin p (by simpa using hp),I.hok,I.len⟩)
def Inv.untry(I:Inv (tryC X pins xe) pins' σ H s):Inv X pins σ H s:=(⟨I.ok.untry,I.os,I.bare,I.base,I.loc,I.cell,I.free,I.freeC,λp hp=>I.pin p (OC _ hp),I.hok,I.len⟩)
def Inv.hdl(I:Inv X pins σ H s)(a:ZE):Inv (cD X a) pins σ H s:=(⟨I.ok.hdl a,I.os,I.bare,I.base,I.loc,I.cell,I.free,I.freeC,I.pin,I.hok,I.len⟩)
def Inv.unhdl{a:ZE}(I:Inv (cD X a) pins σ H s)(ok:X.Ok):Inv X pins σ H s:=(⟨ok,I.os,I.bare,I.base,I.loc,I.cell,I.free,I.freeC,I.pin,I.hok,I.len⟩)
def Arr.untry{a:ZE}{cls:ZC}{dx:Option ZE}(R:Arr (tryC X pins xe) pins' σ H a cls dx s):Arr X pins σ H a cls dx s:=by
 obtain⟨B,a0,fm,r⟩:=R.fly;refine⟨R.inv.untry,R.un,R.new,R.nl,R.nc,λp hp=>R.np p (OC _ hp),R.dic,B,a0,λb o q nb alt=>fm b o q nb ?_,r⟩
 rcases alt with z|z|⟨p,hp,e⟩
 ·exact .inl z
 ·exact .inr (.inl z)
 ·exact .inr (.inr ⟨p,OC _ hp,e⟩)
def qC{M:Model}{A:ZG}{E:ZC->ZB->Prop}{n:Str}{i:Nat}{pos:Pos}{Q:Unit->ZB->Prop}(I:Inv X pins σ H s)(hN:X.N.Nodup)(hi:X.N[i]?=some n)(hk:X.env.scope.names.lookup n=some .local)
  (h:∀ s',Inv X pins (σ.set i none) H s'->Q () s'):wpAny M A (do bindName X.env n .none;unbindBehindTheSuite X.env n pos) Q E s:=by
 obtain⟨m,hn,hl⟩:=id I.loc;refine wpAny_nameGoes_keeps hk hn (by rw[I.ok.kind];rfl) λh' v hn' hs=>h _ ?_
 have cne:=I.cne;refine⟨I.ok,I.os,I.bare,Un.sameBut I.base (R3 I.ok.above) hs,⟨_,hn',λj y v' e1 e2 e3=>?_⟩,λy c e=>?_,I.free,I.freeC,λp hp=>?_,I.hok.sameBut I.free hs,by simpa using I.len⟩
 ·by_cases hj:j=i
  ·subst hj
   by_cases hlt:j<σ.length
   ·rw[Ob hlt] at e2;cases e2
   ·rw[Pp (by simpa using hlt)] at e2;cases e2
  ·rw[N8 (Ne.symm hj)] at e2
   obtain⟨u',r',q⟩:=hl j y v' e1 e2 e3;refine⟨u',r',?_⟩
   rcases q with⟨k,e⟩|⟨k,c,e,z⟩
   ·refine .inl ⟨k,?_⟩
    have ne:y≠n:=λe=>hj (qf hN e1 (e▸hi))
    simp[ne,e]
   ·exact .inr ⟨k,c,e,z.sameBut hs (cne y c e)⟩
 ·obtain⟨w',z⟩:=I.cell y c e
  exact⟨w',z.sameBut hs (cne y c e)⟩
 ·obtain⟨e,nn,ne,nf,d⟩:=I.pin p hp
  exact⟨(hs.2 p.1 ne).trans e,nn,ne,nf,d⟩
end
def Hl{M:Model}{A:ZG}{E:ZC->ZB->Prop}{s:ZB}{B:Heap}{l:List Env}{e:ZE}{cls a0:ZC}{dx:Option ZE}{Q:Unit->ZB->Prop}(hh:Heap.FlyingW B l e cls a0 s.heap)(dk:∃ ob,s.heap.get? e=some ob/\ob.dict=dx)
  (hQ:∀ h',Heap.FlyingW B l e cls a0 h'->s.heap.UpToSlots h'->(∃ ob,h'.get? e=some ob/\ob.dict=dx)->Q () { s with heap:=h' }):wpAny M A (setFlight (.ref e) none) Q E s:=by
 refine OV (uC (yE _ _) (DkH.refl _) (lands_againW (E:=E) (Q:=λ_ s'=>∃ h',s'={ s with heap:=h' }/\Heap.FlyingW B l e cls a0 h'/\s.heap.UpToSlots h') hh λh' z1 z2=>⟨h',rfl,z1,z2⟩)) (λ_ s3 h3=>?_) λ_ _ z=>z
 obtain⟨⟨h',rfl,z1,z2⟩,d⟩:=h3;obtain⟨ob,e1,e2⟩:=dk;obtain⟨ob',e3,e4⟩:=d e ob e1;exact hQ h' z1 z2 ⟨ob',e3,e4.trans e2⟩
def yM{M:Model}{h:Heap}{a:ZE}{ob:Obj}(e:h.get? a=some ob):PySem.W.Looks M h (typeOf (.ref a)) ob.cls:=((PySem.W.Looks.ld e).andThen .now)
section
variable{X:Cx}{xc n:Str}{C:ZE}{i:Nat}{body suite:List Stmt}{b0:Stmt}{np hpos pos:Pos}{tb:(St->XK)->TS}{th:TS}{outer:List Env}
end
section
variable{P:ZD}{w:ZF}{K:ZA}{mg:Str->Option ZC}{base:Heap}
def Fun.okE{x qual:Str}{st:Stmt}{f:ZE}{fd:FuncData}{N ps:List Str}{k:Nat}{sp:Sp}(F:Fun K x qual st f fd)(S:aE N ps (bL st))(len:∀ vs H Q E,sp vs H Q E->vs.length=ps.length)
  (hbody:∀ (cdv:ZC) (A:ZG) (outer:List Env) (s:ZB) (H:Hp) (vs:List V) (Q:VK) (E:XK),Room k (A.deeper (envOfC qual (bL st) s.heap.objs.size f cdv))->sp vs H Q E ->
   ∃ t,PSs (bY (cU P w) P w K mg base N qual (bL st) f cdv A outer s H E) (iZ st) t/\t { nx:=λ_ H'=>Q .non H',rt:=Q } (start N vs) H):FnOk P w K mg base (cU P w) (k+1) f fd ps sp:=by
 obtain⟨oc,od,kV,doc,pm,an,cdv,ct,osl,rfl,lk,hcd⟩:=F.ex;exact Fm lk hcd S len λA outer s H vs Q E hr hsp=>hbody cdv A outer s H vs Q E hr hsp
end
open PySem.W (Frag Looks looks_findIn looks_specialIn looks_takesIn looks_mroIn findIn specialIn takesIn mroIn clsIn KitX kitOne kitAny kia_one kia_tup)
open PySem.Calls Builtin Builtin.ObjectAttr Builtin.Getset_descriptor
structure cE(K:Frag)(C:ZE):Prop where
 cl:(clsIn K C).isSome=true
 ga:findIn K (.ref C) "__getattribute__"=some (some (.builtin "BaseException.__getattribute__"))
 gh:findIn K (.ref C) "__getattr__"=some none
 ca:findIn K (.ref C) "__class__"=some (some (.builtin "object.__class__"))
 cg:specialIn K (.builtin "object.__class__") "__get__"=some (some (.builtin "getset_descriptor.__get__"))
 ct:takesIn K (.builtin "object.__class__")=some true
 mo:mroIn K C (.type "object")=some true
 mb:mroIn K C (.type "BaseException")=some true
def ExcAt(a C:ZE)(h:Heap):Prop:=∃ ob vs,h.get? a=some ob/\ob.cls=.ref C/\ob.data=.fields vs
section
variable{prog:ZD}{w:ZF}{A:ZG}{K:Frag}{a C:ZE}
def ExcAt.ty{M:Model}{h:Heap}(x:ExcAt a C h):Looks M h (typeOf (.ref a)) (.ref C):=by
 obtain⟨ob,vs,e,c,_⟩:=x;exact c▸yM e
def uE{tp:ZC}{s:ZB}{R:Result->ZB->Prop}(X:K.In s.heap)(Z:cE K C)(I:ExcAt a C s.heap)(q:R (.ok (.ret (.ref C))) s) :
  codeAny (model prog w) A (.call (.builtin "getset_descriptor.__get__") ⟨[.builtin "object.__class__",.ref a,tp],[]⟩) R s:=by
 obtain⟨hp,gg,dd,tt,oo⟩:=s;have La:=I.ty (M:=model prog w);have Lb:=looks_mroIn (M:=model prog w) X Z.mo;refine Sh PySem.W.KF.slot_gs.plain PySem.W.KF.entry_gs (PySem.W.KF.slot_gs.check _ _ _ _ _ _ _ _ PySem.W.KF.type_class (PySem.W.KF.args_gs _ _ _) ?_)
 unfold Builtin.«getset_descriptor.__get__» descrGet
 rw[PySem.W.dga_obj];refine N9 (Oi ?_)
 unfold descrGetter descrCheckInstance descrNameAndClass isInstance;simp only[PySem.W.KF.owner_class]
 repeat lk
 refine⟨Code.quiet_builtin _ ∅,codeAny_builtin PySem.W.KF.entry_class ?_⟩
 unfold Builtin.«object.__class__» shownTypeOf
 repeat lk
 exact q
def Hm{M:Model}{h:Heap}{x:ZC}(X:K.In h)(Z:cE K C):Looks M h (find x (.ref C) "__class__") (.bind (.builtin "getset_descriptor.__get__") (.builtin "object.__class__")):=by
 have l1:=looks_findIn (M:=M) X Z.ca;have l2:Looks M h (getOf (some (.builtin "object.__class__"))) (some (.builtin "getset_descriptor.__get__")):=looks_specialIn X Z.cg;have l3:=looks_takesIn (M:=M) X Z.ct;exact l1.andThen (l2.andThen ((show Looks M h (dataDescriptor? (some (.builtin "object.__class__")) (some (.builtin "getset_descriptor.__get__"))) (some (.builtin "getset_descriptor.__get__",.builtin "object.__class__")) from l3.andThen .now).andThen (Looks.tag .now)))
def Hn{tk:Tok}{s:ZB}{Q:Fin->ZB->Prop}{E:ZC->ZB->Prop}(X:K.In s.heap)(Z:cE K C)(I:ExcAt a C s.heap)(q:Q (.done (.ret (.ref C))) s) :
  wpAny (model prog w) A (Builtin.«object.__getattribute__» ⟨[.ref a,.str "__class__" tk],[]⟩) Q E s:=by
 obtain⟨hp,gg,dd,tt,oo⟩:=s;have La:=I.ty (M:=model prog w);have Lf:=Hm (M:=model prog w) (x:=.ref a) X Z;refine N9 (Oi ?_)
 refine N9 (Oi ?_)
 refine N9 (La.at (N9 (Lf.at ?_)))
 unfold bindTo;first
  |exact N9 (Q5 (uE X Z I (Oi q)))
  |exact N9 (OZ (Q5 (uE X Z I (Oi q))))
  |exact N9 (OZ (Q5 (uE X Z I q)))
def Hq{nm:ZC}{s:ZB}{M:Model}{Q:Unit->ZB->Prop}{E:ZC->ZB->Prop}(X:K.In s.heap)(Z:cE K C)(I:ExcAt a C s.heap)(q:Q () s) :
  wpAny M A (checkBuiltinCall "BaseException.__getattribute__" ⟨[.ref a,nm],[]⟩) Q E s:=by
 obtain⟨hp,gg,dd,tt,oo⟩:=s;have k1:builtinKind "BaseException.__getattribute__"=some .slot:=by decide +kernel
 have k2:splitId "BaseException.__getattribute__"=some ("BaseException", "__getattribute__"):=by decide +kernel
 have k3:=F.args_bexc_ga (.ref a) nm;have La:=I.ty (M:=M);have Lb:=looks_mroIn (M:=M) X Z.mb;have Li:Looks M hp (isInstance (.ref a) (.type "BaseException")) true:=La.andThen Lb;simp only[checkBuiltinCall,k1,k2]
 refine N9 (Li.at ?_)
 repeat lk
 exact q
def Hr{tk:Tok}{s:ZB}{Q:ZC->ZB->Prop}{E:ZC->ZB->Prop}(X:K.In s.heap)(Z:cE K C)(I:ExcAt a C s.heap)(q:Q (.ref C) s) :
  wpAny (model prog w) A (getAttrBy (.ref a) (.str "__class__" tk) false) Q E s:=by
 obtain⟨hp,gg,dd,tt,oo⟩:=s;have La:=I.ty (M:=model prog w);have Lg:=looks_findIn (M:=model prog w) X Z.ga;have Lh:=looks_findIn (M:=model prog w) X Z.gh;have f3:=F.attrBase_ValueError.ga.bind (.ref a);unfold getAttrBy;refine OZ (N9 (La.at (N9 (Lg.at ?_))))
 show wpAny _ _ (getAttrByItsOwn _ _ _ _ _ _) _ _ _
 unfold getAttrByItsOwn;refine N9 ((show Looks _ hp (hookBefore (.ref C)) none from Lh).at ?_)
 refine N9 (wpAny_attempt (OZ ?_))
 show wpAny _ _ (boundAndCalled _ _ _) _ _ _
 unfold boundAndCalled;rw[f3];refine N9 (Oi ?_)
 refine Q5 (Sh F.attrBase_ValueError.ga.plain F.entry_bexc_ga (Hq X Z I (Hn X Z I ?_)))
 repeat lk
 exact q
def Hs{s:ZB}{Q:Option ZC->ZB->Prop}{E:ZC->ZB->Prop}(X:K.In s.heap)(Z:cE K C)(I:ExcAt a C s.heap)(q:Q (some (.ref C)) { s with toks:=s.toks+1 }) :
  wpAny (model prog w) A (getAttr? (.ref a) "__class__") Q E s:=by
 unfold getAttr? getAttrBy?
 exact N9 (wpAny_mkText (N9 (wpAny_attempt (Hr (s:={ s with toks:=s.toks+1 }) X Z I (Oi q)))))
theorem Ht(Z:cE K C):KitX K (.ref a) (.ref C) (ExcAt a C) where
 ty:=λ_ _ _ I=>I.ty
 it:=λ_ _ X _=>by
  have z:=Z.cl;unfold clsIn at z;split at z
  ·rename_i ho
   intro A' Q' E' s' k q;unfold isType loadHead;exact N9 (wpAny_loadPart (k _ _ (X _ _ ho)) (Oi q))
  ·cases z
 ne:=λhp tp dd its n sl X htp=>by
  refine Rb.mpr λq=>?_
  have e:C=tp:=Value.ref.inj (beq_iff_eq.mp q);subst e;have z:=Z.cl
  unfold clsIn at z;split at z
  ·rename_i ho
   have zz:=(X _ _ ho).symm.trans htp
   cases zz
  ·cases z
 ca:=λX I k=>Hs X Z I k
end
section
variable{X:Cx}
def Hu{P:ZD}{w:ZF}{H:Hp}{h:Heap}{a C:ZE}{dx:Option ZE}(x:ObjOk P w H h a (fY a (.ref C) dx)):ExcAt a C h:=by
 obtain⟨⟨ob,vs,z1,z2,z3,_⟩,_⟩:=x;exact⟨ob,vs,z1,z2,z3⟩
def Hv{c:V}{cv:ZC}(rc:∀ u,RelV c u->u=cv) :
  CallR X (.builtin "isinstance") (λxs H Q=>∃ (a D:ZE) (r:Bool),xs=[.ref a,c]/\(∃ dx,H a=some (fY a (.ref D) dx))/\cE X.K D/\kitOne X.K (.ref D) cv=some r/\Q (.bl r) H):=by
 intro pins s σ H xs us Q I r h;obtain⟨a,D,b,rfl,⟨dx,ha⟩,Z,hk,q⟩:=h;obtain⟨u,w',rfl,rx,ry⟩:=n9 r;obtain rfl:=rc _ ry;obtain rfl:u=Value.ref a:=rx;exact kia_one (Ht Z) I.kIn (Hu (I.hok a _ ha)) hk (by intro z;cases z) λtk=>⟨.bl b,H,I.tok _,rfl,q⟩
end
def Hw{K:ZA}{hp:Heap}{g:Str->Option ZC}{nm:Str}{Ca:ZE}{bb:List ZC}{nid:String}(Z:K.In hp)(hb:g nm=some (.ref Ca))(ok:PySem.W.excIn K Ca bb nid=true):OwnCls nm Ca bb nid g hp:=by
 refine⟨hb,?_⟩
 unfold PySem.W.excIn at ok;split at ok
 ·rename_i dA cA sA hA;obtain⟨f1,f2,f3,f4,f5,f6,f7,f8,f9,f10,f11⟩:=cA;obtain⟨ll⟩:=sA;dsimp only at ok
  rcases f3 with _|⟨v,tl⟩
  ·exact absurd ok Bool.false_ne_true
  cases v<;>try exact absurd ok Bool.false_ne_true
  rcases ll with _|⟨w0,_|⟨w1,_|⟨w2,_|⟨w3,_|⟨_|v,l⟩⟩⟩⟩⟩<;>try exact absurd ok Bool.false_ne_true
  cases v<;>try exact absurd ok Bool.false_ne_true
  rcases l with _|⟨w5,_|_⟩<;>try exact absurd ok Bool.false_ne_true
  simp only[OT,Tn,Bool.not_eq_true'] at ok
  obtain⟨⟨⟨⟨⟨rfl,rfl⟩,e1⟩,e2⟩,e3⟩,e4⟩:=ok;subst e1;refine⟨tl,f4,f1,f5,f2,f6,f7,f8,f9,f10,dA,w0,w1,w2,w3,w5,_,Z _ _ hA,.of_isNs (PySem.W.isNs_of_in Z e3),?_,PySem.W.tail_of_in Z e2⟩
  exact PySem.W.nsMap_none_of_in Z e3 e4
 ·cases ok
mutual
inductive DaV (K:ZA) (H:Hp):V->PyData->Prop
 |non:DaV K H .non .none
 |bl (b):DaV K H (.bl b) (.bool b)
 |int (i):DaV K H (.int i) (.int i)
 |str (x):DaV K H (.str x) (.str x)
 |lst {a xs ds}:SqL K H a xs->DaVs K H xs ds->DaV K H (.ref a) (.list ds)
 |tup {a xs ds}:SqT K H a xs->DaVs K H xs ds->DaV K H (.ref a) (.tuple ds)
inductive DaVs (K:ZA) (H:Hp):List V->List PyData->Prop
 |nil:DaVs K H [] []
 |cons {x xs d ds}:DaV K H x d->DaVs K H xs ds->DaVs K H (x::xs) (d::ds)
end
section
variable{X:Cx}{pins:List (ZE×Obj)}{σ:St}{H:Hp}{s:ZB}
mutual
theorem DaV.reads(I:Inv X pins σ H s):∀ {x:V} {d:PyData} {u:ZC},DaV X.K H x d->RelV x u->∃ as,Reads s.heap u d as
 |_,_,_,.non,r=>by cases r;exact⟨_,.none⟩
 |_,_,_,.bl b,r=>by cases r;exact⟨_,.bool b⟩
 |_,_,_,.int i,r=>by obtain⟨t,rfl⟩:=r;exact⟨_,.int i t⟩
 |_,_,_,.str x,r=>by obtain⟨t,rfl⟩:=r;exact⟨_,.str x t⟩
 |_,_,_,.lst (a:=a) h1 h2,r=>by
  cases r
  obtain⟨its,rv,⟨o,n,e1,e2,e3⟩,_⟩:=I.list h1;obtain⟨as,q⟩:=DaVs.reads I h2 rv;exact⟨_,.list (vs:=its.toArray) (n:=n) e1 (by first|exact e2.1|exact e2) (by first|exact e2.2.2|exact e2.2|exact e3|exact e3.2) (by simpa using q)⟩
 |_,_,_,.tup (a:=a) h1 h2,r=>by
  cases r
  obtain⟨its,rv,⟨o,e1,e2,n,e3⟩,_⟩:=I.tuple h1;obtain⟨as,q⟩:=DaVs.reads I h2 rv;exact⟨_,.tuple (vs:=its.toArray) (n:=n) e1 e2 e3 (by simpa using q)⟩
theorem DaVs.reads(I:Inv X pins σ H s):∀ {xs:List V} {ds:List PyData} {us:List ZC},DaVs X.K H xs ds->Vals xs us->∃ as,ReadsAll s.heap us ds as
 |_,_,_,.nil,r=>by cases r;exact⟨_,.nil⟩
 |_,_,_,.cons h1 h2,r=>by
  cases r with
  |cons r1 r2 =>
   obtain⟨as,q1⟩:=DaV.reads I h1 r1;obtain⟨bs,q2⟩:=DaVs.reads I h2 r2;exact⟨_,.cons q1 q2⟩
end
def uF(K:ZA):R2:=λx y H Q=>∃ d e,DaV K H x d/\DaV K H y e/\d.canLay0=true/\e.canLay0=true/\d.depth<=60/\Q (.bl (PyData.eqv d e)) H
def uG(K:ZA):R2:=λx y H Q=>∃ d e,DaV K H x d/\DaV K H y e/\d.canLay0=true/\e.canLay0=true/\d.depth<=60/\Q (.bl (!PyData.eqv d e)) H
def yN(hu:X.A.units+64<cLine):OpR X (compareOp .Eq) (uF X.K):=by
 intro pins s σ H x y v u Q I rx ry h;obtain⟨d,e,h1,h2,c1,c2,dp,q⟩:=h;obtain⟨as,r1⟩:=h1.reads I rx;obtain⟨bs,r2⟩:=h2.reads I ry;exact SeqAt.compareEq_reads r1 r2 c1 c2 (by have:=Qq d.depth e.depth;lia) ⟨.bl _,H,I,rfl,q⟩
def yO(hu:X.A.units+64<cLine):OpR X (compareOp .NotEq) (uG X.K):=by
 intro pins s σ H x y v u Q I rx ry h;obtain⟨d,e,h1,h2,c1,c2,dp,q⟩:=h;obtain⟨as,r1⟩:=h1.reads I rx;obtain⟨bs,r2⟩:=h2.reads I ry;exact SeqAt.compareNe_reads r1 r2 c1 c2 (by have:=Qq d.depth e.depth;lia) ⟨.bl _,H,I,rfl,q⟩
end
def jl{A:ZG}{k:Nat}(hr:Room k A):A.units+64<cLine:=by
 have:=hr.un;lia
def Hx(K:ZA):R2:=λx y H Q=>∃ l b xs zs,x=.ref l/\y=.ref b/\SqL K H l xs/\SqL K H b zs/\xs.length+zs.length<=sizeLine/\∀ p,H p=none->Q (.ref p) (upd H p (.lst (xs++zs)))
def HA{X:Cx}:OpR X (binaryOp .Add) (Hx X.K):=by
 intro pins s σ H x y v u Q I rx ry h;obtain⟨l,b,xs,zs,rfl,rfl,hH,hB,hz,q⟩:=h
 cases rx
 cases ry
 obtain⟨its,r,⟨o,n,e1,e2,e3,e4⟩,z⟩:=I.list hH;obtain⟨its2,r2,⟨o2,n2,g1,g2,g3,g4⟩,z2⟩:=I.list hB;obtain⟨oc,od,oda,osl⟩:=o;obtain⟨oc2,od2,oda2,osl2⟩:=o2;dsimp only at e2 e3 e4 g2 g3 g4;subst e2 e3 e4 g2 g3 g4
 have l1:=r.length;have l2:=r2.length;refine S9 ⟨_,e1,rfl⟩ ⟨_,g1,rfl⟩ noFill_list_add seq_list_add PySem.F.slot_list_add PySem.F.entry_list_add (PySem.F.args_list_add_2 _ _) (list_addW l b its.toArray its2.toArray n n2 none none osl osl2 (by rw[Oq,Oq];omega)) ⟨e1,g1,?_⟩
 have ea:its.toArray++its2.toArray=(its++its2).toArray:=by simp
 rw[ea];exact⟨.ref s.heap.objs.size,_,I.lnew (t':=s.toks) (r.append r2) (by rw[OP];exact hz),rfl,q _ I.fresh⟩
section
variable{X:Cx}{pins:List (ZE×Obj)}{σ:St}{H:Hp}{s:ZB}
open Classical in
def iE(h:Heap)(d:PyData)(v:ZC):Bool:=if q:∃ e as,e.canLay0=true/\Reads h v e as then PyData.eqv q.choose d else false
def isD_of{h:Heap}{d e:PyData}{v:ZC}{as:List ZE}(c:e.canLay0=true)(r:Reads h v e as):iE h d v=PyData.eqv e d:=by
 have q:∃ e as,e.canLay0=true/\Reads h v e as:=⟨e,as,c,r⟩
 unfold iE;rw[dif_pos q];obtain⟨as',c',r'⟩:=q.choose_spec
 have z:q.choose=e:=by first|exact(Reads.unique _ _ r' r).1|exact(Reads.unique r' r).1|exact Reads.unique _ _ _ _ _ c' r' r|exact Ri _ _ _ _ _ c' r' r|exact SC _ _ _ _ _ c' r' r
 rw[z]
theorem uH(I:Inv X pins σ H s):∀ {xs:List V} {ds:List PyData} {us:List ZC},DaVs X.K H xs ds->Vals xs us->us.length=ds.length/\∀ (j:Nat) u d,us[j]?=some u->ds[j]?=some d->∃ as,Reads s.heap u d as
 |_,_,_,.nil,r=>by cases r;exact⟨rfl,λj u d e=>by cases e⟩
 |_,_,_,.cons h1 h2,r=>by
  cases r with
  |cons r1 r2 =>
   obtain⟨l,q⟩:=uH I h2 r2;refine⟨by rw[O3,O3,l],λj u d e1 e2=>?_⟩
   cases j with
   |zero=>cases e1;cases e2;exact h1.reads I r1
   |succ j=>exact q j u d e1 e2
def uI(K:ZA):R2:=λx y H Q=>∃ p xs d ds,y=.ref p/\SqL K H p xs/\DaV K H x d/\DaVs K H xs ds/\d.canLay0=true/\(∀ e∈ds,e.canLay0=true/\e.depth<=30)/\Q (.bl (ds.any λe=>PyData.eqv e d)) H
theorem uJ{h:Heap}{d:PyData}:∀ {us:List ZC} {ds:List PyData},us.length=ds.length->(∀ (j:Nat) u e,us[j]?=some u->ds[j]?=some e->iE h d u=PyData.eqv e d)->us.any (iE h d)=ds.any λe=>PyData.eqv e d
 |[],[],_,_=>rfl
 |u::us,e::ds,hl,hh=>by
  rw[Pu,Pu,hh 0 u e rfl rfl,uJ (us:=us) (ds:=ds) (Nat.succ.inj hl) λj u' e' a b=>hh (j+1) u' e' a b]
def HB(hu:X.A.units+64<cLine):OpR X (compareOp .In) (uI X.K):=by
 intro pins s σ H x y v u Q I rx ry h;obtain⟨p,xs,d,ds,rfl,hq,hd,hds,cd,cds,q⟩:=h
 cases ry
 obtain⟨its,r,pl,hz⟩:=I.list hq;obtain⟨as,ra⟩:=hd.reads I rx;obtain⟨hl,hat⟩:=uH I hds r;refine SeqAt.in_listAt (iE s.heap d) pl.isList (λy hy=>?_) ⟨.bl _,H,I,rfl,?_⟩
 ·have hy':y∈its:=by simpa using hy
  obtain⟨j,hj⟩:=R5 hy';have hlt:=(NZ.mp hj).1;have hdj:ds[j]?=some (ds[j]'⋯):=On ⋯;obtain⟨bs,rb⟩:=hat j _ _ hj hdj;have cj:=cds _ (OE hdj);rw[isD_of cj.1 rb];exact SeqAt.eqAt_reads _ _ _ _ _ _ _ _ rb ra cj.1 cd (by
   have:=Qq (ds[j]'⋯).depth d.depth;show X.A.units+1+_<cLine
   lia)
 ·have e:its.toArray.any (iE s.heap d)=ds.any λe=>PyData.eqv e d:=by
   rw[<- Rp];refine uJ hl λj u e h1 h2=>?_
   obtain⟨bs,rb⟩:=hat j _ _ h1 h2;exact isD_of (cds _ (OE h2)).1 rb
  rw[e];exact q
end
section
variable{X:Cx}{tg:Expr}
theorem yP(ns:List Int):∀ k,k<=ns.length->preSum (λi=>(ns[i]?).getD 0) k=(ns.take k).sum
 |0,_=>by simp[preSum]
 |k+1,h=>by
  show preSum _ k+(ns[k]?).getD 0=_
  rw[yP ns k ⋯,List.take_succ,List.sum_append];congr 1
  rw[On ⋯];simp
def HC(hc:X.calm=true):CallR X (.builtin "sum") (λxs H Q=>∃ (a:ZE) (ns:List Int),xs=[.ref a]/\SqL X.K H a (ns.map V.int)/\Q (.int ns.sum) H):=by
 intro pins s σ H xs us Q I r h;obtain⟨l,bs,rfl,hq,q⟩:=h;obtain⟨u,rfl,rx⟩:=jg r
 cases rx
 obtain⟨its,rv,pl,hz⟩:=I.list hq;have hlt:l<s.heap.objs.size:=by obtain⟨_,_,e,_⟩:=pl;exact Om e
 have hlen:its.length=bs.length:=by rw[<- rv.length,Oh]
 refine call_sum_walkAnyS (Re pl.isList ?_)
 refine⟨s.heap.objs.size,[s.heap.objs.size,l],[s.heap.objs.size],_,its.toArray.size,_,_,λi=>(bs[i]?).getD 0,rfl,(Walks.list (prog:=X.prog) (w:=X.w) (A:=X.A.in1) (I.ok.hd hc) s.heap.objs.size l (OJ hlt) its.toArray).toS,
  ⟨⟨_,Os _ rfl,rfl,rfl⟩,pl.isList.push _⟩,λb hb=>?_,λi v hP=>?_,λs' t' hm=>?_⟩
 ·rcases Ov.mp hb with rfl|hb
  ·exact Om (Os _ rfl)
  ·obtain rfl:=Qs.mp hb
   obtain⟨_,_,e,_⟩:=pl;exact Om (Oe _ e)
 ·have hP':its[i]?=some v:=by simpa using hP
  have hi:i<its.length:=(NZ.mp hP').1;have hb:(bs.map V.int)[i]?=some (V.int (bs[i]'(by omega))):=by rw[OI,On (by omega)];rfl
  obtain⟨u,hu,ru⟩:=rv.get hb;rw[hP'] at hu
  cases hu
  obtain⟨t,rfl⟩:=ru;refine⟨t,?_⟩
  show Value.int _ t=Value.int ((bs[i]?).getD 0) t
  rw[On (by omega)];rfl
 ·obtain⟨h',g',d',tk',os'⟩:=s'
  have e1:g'=s.gens:=hm.gens;have e2:d'=s.drawn:=hm.drawn;have e3:os'=s.os:=hm.os;subst e1 e2 e3
  have e:preSum (λi=>(bs[i]?).getD 0) its.toArray.size=bs.sum:=by
   rw[Oq,hlen,yP bs _ (Oa _),OQ (Oa _)]
  rw[e];refine⟨.int _,H,I.kept (t':=tk') λb o q=>?_,⟨_,rfl⟩,q⟩
  exact hm.heap b o (λhb=>by rw[Qs.mp hb] at q;exact Pt _ (Om q)) (Oe _ q)
def jm(lo c:Int)(n:Nat):It:=⟨λi _=>i<n,λi H x H'=>H'=H/\x=.int (lo+i*c),λi _=>n<=i⟩
def HD{P:ZD}{w:ZF}{K:ZA}{tg:Expr}(it:ZE)(lo c:Int)(n:Nat):fz P w K tg (jm lo c n) [it] it (λi h=>IsRangeIter h it (lo+(i:Nat)*c) ((n:Int)-(i:Nat)) c) where
 mem:=by simp
 obj:=λi h st b hb=>by
  have e:b=it:=by simpa using hb
  subst e;exact⟨_,st,λv z=>by
   have z':Data.fields _=Data.cell v:=z
   cases z'⟩
 keep:=λi h h' st k=>k it 's' _ st
 item:=by
  intro X hP hw hK hc i pins s σ H E I hf st hg;subst hP hw hK
  obtain⟨f0,f1,f2,f3,f4,f5⟩:=hf it 's';have W:=Walks.range (prog:=X.prog) (w:=X.w) (I.ok.hd hc) it lo c n;refine W.item i s _ _ hg st λv h' tk hv st' kk=>?_
  obtain⟨t,rfl⟩:=hv;have I1:Inv X pins σ H { s with heap:=h',toks:=tk }:=I.turned (λb o hb e=>kk b o (by simpa using hb) e) f0 f1 f3 f4 f5;exact⟨_,rfl,nY (s:={ s with heap:=h',toks:=tk }) (n := "range_iterator") st' rfl rfl 'd' ⟨.int (lo+i*c),H,I1,⟨t,rfl⟩,⟨rfl,rfl⟩,st',λb hb=>(hf b hb).1⟩⟩
 done:=by
  intro X hP hw hK hc i pins s σ H E I hf st hg;subst hP hw hK
  obtain⟨f0,f1,f2,f3,f4,f5⟩:=hf it 's';exact RJ (I.ok.hd hc) st (by have:n<=i:=hg;lia) λh' eb=>⟨rfl,I.turned (t':=s.toks) (λb o hb e=>eb b o hb e) f0 f1 f3 f4 f5⟩
 self:=λ_ _ _ _ _ st h=>RK st h
def HE{a b c:Int}(hc:0<c):Builtin.Range.rangeSize a b c=(((if a<b then(b-a-1) / c+1 else 0:Int).toNat:Nat):Int):=by
 unfold Builtin.Range.rangeSize;rw[Of hc];split
 ·have:0<=(b-a-1) / c:=Int.ediv_nonneg ⋯ ⋯
  lia
 ·rfl
def ow{x:Int}(h:x.natAbs<2 ^ 42):Builtin.Range.rangeFitsLong x=true:=by
 have h2:x.natAbs<4398046511104:=h;simp only[Builtin.Range.rangeFitsLong,OT,Px]
 lia
def HF{a b c:Int}(ha:a.natAbs<2 ^ 40)(hb:b.natAbs<2 ^ 40)(hc:0<c):(Builtin.Range.rangeSize a b c).natAbs<2 ^ 42:=by
 have ha2:a.natAbs<1099511627776:=ha;have hb2:b.natAbs<1099511627776:=hb;show _<4398046511104
 unfold Builtin.Range.rangeSize;rw[Of hc];split
 ·have h1:0<=(b-a-1) / c:=Int.ediv_nonneg ⋯ ⋯
  have h2:(b-a-1) / c<=b-a-1:=Int.ediv_le_self _ ⋯;generalize (b-a-1) / c=d at *;lia
 ·decide
def HH{a b c:Int}(ha:a.natAbs<2 ^ 40)(hb:b.natAbs<2 ^ 40)(hc:0<c)(hc':c<2 ^ 20):Builtin.Range.small a b c=true:=by
 have l:(2:Nat) ^ 40<2 ^ 42:=by decide
 unfold Builtin.Range.small;rw[ow (QT ha l),ow (QT hb l),ow (x:=c) (by have h2:c<1048576:=hc';show _<4398046511104;lia),ow (HF ha hb hc),Of hc,ow (x:=b+(c-1)) (by have h2:c<1048576:=hc';have h3:b.natAbs<1099511627776:=hb;show _<4398046511104;lia)];simp
def HI(ta:TA):TI:=λσ H R=>ta σ H λvs H1=>∃ i j c:Int,vs=[.int i,.int j,.int c]/\(i.natAbs<2 ^ 40/\j.natAbs<2 ^ 40/\0<c/\c<2 ^ 20)/\R (jm i c (if i<j then(j-i-1) / c+1 else 0:Int).toNat) H1
def HJ{pins:List (ZE×Obj)}{σ:St}{H:Hp}{s:ZB}{R:It->Hp->Prop}{E:ZC->ZB->Prop}{lo hi c:Int}{t u v:Tok}{tk:Nat}(I:Inv X pins σ H s)(h1:lo.natAbs<2 ^ 40)(h2:hi.natAbs<2 ^ 40)(h3:0<c)(h4:c<2 ^ 20)
  (q:R (jm lo c (if lo<hi then(hi-lo-1) / c+1 else 0:Int).toNat) H):wpAny (model X.prog X.w) X.A (pyIter (.ref s.heap.objs.size)) (tQ X pins σ tg R) E { s with heap:=s.heap.push { cls:=.type "range",data:=.fields #[.int lo t,.int hi u,.int c v] },toks:=tk }:=by
 refine SJ (IsRange.new ..) (HH h1 h2 h3 h4) ?_
 have I1:Inv X pins σ H { s with heap:=s.heap.push { cls:=.type "range",data:=.fields #[.int lo t,.int hi u,.int c v] },toks:=tk }:=I.kept λb o e=>Oe _ e
 refine⟨(s.heap.push { cls:=.type "range",data:=.fields #[.int lo t,.int hi u,.int c v] }).objs.size,[(s.heap.push { cls:=.type "range",data:=.fields #[.int lo t,.int hi u,.int c v] }).objs.size],_,_,H,rfl,
  I1.kept (t':=tk) λb o e=>Oe _ e,HD _ lo c (if lo<hi then(hi-lo-1) / c+1 else 0:Int).toNat,?_,λb hb=>?_,q⟩
 ·have e1:lo+((0:Nat):Int)*c=lo:=by simp
  have e2:(((if lo<hi then(hi-lo-1) / c+1 else 0:Int).toNat:Nat):Int)-((0:Nat):Int)=Builtin.Range.rangeSize lo hi c:=by rw[HE h3];omega
  show IsRangeIter _ _ (lo+((0:Nat):Int)*c) ((((if lo<hi then(hi-lo-1) / c+1 else 0:Int).toNat:Nat):Int)-((0:Nat):Int)) c
  rw[e1,e2];exact Os _ rfl
 ·have e:b=(s.heap.push { cls:=.type "range",data:=.fields #[.int lo t,.int hi u,.int c v] }).objs.size:=by simpa using hb
  subst e;exact I1.fpOk (Oa _) (I1.hok.fresh (Oa _))
def HK {a b c:Expr} {ta:TA} {p pos:Pos} (hg:Gl X "range") (hm:X.mg "range"=none) (ha:PA X [a,b,c] ta) (hs:‹starEach [a,b,c] X.env=[(false,eval a X.env),(false,eval b X.env),(false,eval c X.env)]›) (hs2:‹starEach [b,c] X.env=[(false,eval b X.env),(false,eval c X.env)]›) :
  PI X tg (.Call (.Name "range" p) [a,b,c] [] pos) (HI ta):=by
 intro pins s σ H R I h;refine Call_ (mE I hg hm boot_range (PD (thn (ha pos pins s σ H _ I h) λus s1 Zz=>?_) (by rw[hs,hs2]) (by rw[hs2];rfl)));obtain⟨vs,H1,I1,r1,q1⟩:=Zz
 obtain⟨i,j,c,e,⟨q1,q2,q3,q4⟩,q⟩:=q1;subst e
 cases r1 with
 |cons r rr =>
  cases rr with
  |cons r' rr =>
   cases rr with
   |cons r'' rr =>
    cases rr
    obtain⟨t,rfl⟩:=r;obtain⟨t',rfl⟩:=r';obtain⟨t'',rfl⟩:=r'';exact call_range_3 ⋯ (HJ I1 q1 q2 q3 q4 q) (.inl (PyProof.noPylong_small ⋯))
end
open PySem.Builtin PySem.Builtin.Str
section
variable{X:Cx}
def bM(z:Str)(lo hi:Option Int):Str:=⟨((z.cps.toList.drop (HT.sIx z.cps.toList.length 0 lo)).take (HT.sIx z.cps.toList.length z.cps.toList.length hi-HT.sIx z.cps.toList.length 0 lo)).toArray⟩
def qD(n d:Nat)(i:Int):max 0 (min (if i<0 then i+(n:Int) else i) (n:Int))=((HT.sIx n d (some i):Nat):Int):=by
 show max 0 (min (if i<0 then i+(n:Int) else i) (n:Int))=(((if i<0 then(i+(n:Int)).toNat else min i.toNat n):Nat):Int)
 split<;>lia
def qE{a b:Int}{A B:Nat}(ha:a=A)(hb:b=B):sliceRange a b 1=(List.range (B-A)).map λk=>A+k:=by
 subst ha hb
 unfold sliceRange;simp only[show (1:Int) > 0 by decide,PM]
 have:(if (A:Int)<(B:Int) then((B:Int)-A+1-1) / 1 else 0).toNat=B-A:=by
  split<;>(try simp only[Int.ediv_one])<;>lia
 rw[this];apply Pm
 intro k _;lia
def HL(xs:List Nat)(i k:Nat):(List.range k).filterMap (λm=>xs[i+m]?)=(xs.drop i).take k:=by
 induction k generalizing i with
 |zero=>simp
 |succ k ih =>
  rw[List.range_succ_eq_map,Ql,QY];have e:((λm=>xs[i+m]?) ∘ Nat.succ)=λm=>xs[(i+1)+m]?:=by
   funext m;show xs[i+(m+1)]?=_;congr 1;lia
  rw[e,ih (i+1)]
  cases h:xs[i]? with
  |none =>
   have hl:xs.length<=i:=List.getElem?_eq_none_iff.mp h;simp only[Nat.add_zero,h]
   rw[Pa ⋯,Pa hl];simp
  |some v =>
   have hi:=(NZ.mp h).1;simp only[Nat.add_zero,h]
   rw[Q7 hi,List.take_succ_cons];congr 1
   exact(OG ((On hi).symm.trans h)).symm
def HM(n:Nat)(lo hi:Option Int):strSliceIndices lo hi 1 n=(List.range (HT.sIx n n hi-HT.sIx n 0 lo)).map λk=>HT.sIx n 0 lo+k:=by
 cases lo with
 |none =>
  cases hi with
  |none=>exact qE rfl rfl
  |some j=>exact qE rfl (qD n n j)
 |some i =>
  cases hi with
  |none=>exact qE (qD n 0 i) rfl
  |some j=>exact qE (qD n 0 i) (qD n n j)
def HN(z:Str)(lo hi:Option Int):Txt.slice z lo hi=bM z lo hi:=by
 have hz:z.length=z.cps.toList.length:=by simp[Str.length]
 unfold Txt.slice bM;rw[hz,HM,QY];have e:((λx=>z.cps[x]?) ∘ λk=>HT.sIx z.cps.toList.length 0 lo+k)=λm=>z.cps.toList[HT.sIx z.cps.toList.length 0 lo+m]?:=by
  funext m;simp
 rw[e,HL];split
 ·rename_i hc
  simp only[beq_self_eq_true,Bool.true_and,Tn,Oh,Pk] at hc
  have h1:HT.sIx z.cps.toList.length z.cps.toList.length hi<=z.cps.toList.length:=HT.sIx_le _ _ (Oa _) _;have h2:HT.sIx z.cps.toList.length 0 lo=0\/z.cps.toList.length=0:=by lia
  rw[hc];rcases h2 with h2|h2
  ·rw[h2,R6,OQ (Oa _)]
  ·have:z.cps.toList=[]:=List.eq_nil_of_length_eq_zero h2
   have h3:z.cps=#[]:=by simpa using this
   simp[h3]
   cases z;simp_all
 ·rfl
def yQ{v:ZC}{o:Option Int}(p:IsPart v o):∃ l:Option (Int×Tok),v=partValue l/\l.map (·.1)=o:=by
 cases p with
 |none=>exact⟨none,rfl,rfl⟩
 |int i t=>exact⟨some (i,t),rfl,rfl⟩
def HP:SlR X (λx lo hi H Q=>∃ z,x=.str z/\z.length<=sizeLine/\Q (.str (bM z lo hi)) H):=by
 intro pins s σ H x v vl vu lo hi sl Q I rx hs pl pu h;obtain⟨z,rfl,hz,q⟩:=h;obtain⟨t,rfl⟩:=rx;obtain⟨l,rfl,rfl⟩:=yQ pl;obtain⟨u,rfl,rfl⟩:=yQ pu;refine⟨"str",_,F.slot_str_getitem.lookup,Q4 _ _ _,?_⟩
 refine wpAny_getItem_str_slice (l:=l) (u:=u) (st:=none) hs rfl ?_
 refine post_val_or_str ⟨Oc (Txt.slice_le z (l.map (·.1)) (u.map (·.1))) hz,λt' k=>?_⟩
 have e:=HN z (l.map (·.1)) (u.map (·.1));refine⟨.str (bM z (l.map (·.1)) (u.map (·.1))),H,I.tok _,⟨t',?_⟩,q⟩
 rw[<- e];rfl
def yR(r r' r'':R2)(ta tb tc td:TE):TE:=λσ H Q=>ta σ H λx H1=>tb σ H1 λy H2=>r x y H2 λz H3=>∃ k,z=.bl k /\
 (if k=true then tc σ H3 λw' H4=>r' y w' H4 λz2 H5=>∃ k2,z2=.bl k2/\(if k2=true then td σ H5 λv' H6=>r'' w' v' H6 Q else Q (.bl false) H5) else Q (.bl false) H3)
def HQ{a b c d:Expr}{ta tb tc td:TE}{pos:Pos}{op op' op'':CmpOp}{r r' r'':R2}(ho:OpR X (compareOp op) r)(ho':OpR X (compareOp op') r')(ho'':OpR X (compareOp op'') r'')(ha:PE X a ta)(hb:PE X b tb)(hc:PE X c tc)(hd:PE X d td)
  (hm:autoParam (lastMarks [op,op',op''] [b,c,d]=false) ET._auto_1):PT X (.Compare a [op,op',op''] [b,c,d] pos) (tY (yR r r' r'' ta tb tc td)):=by
 intro pins s σ H Q I h;refine isTrue_chain (thn (ha pins s σ H _ I h) λv s1 ⟨x,H1,I1,r1,q1⟩=>test_link (thn (hb pins s1 σ H1 _ I1 q1) λu s2 ⟨y,H2,I2,r2,q2⟩ =>
  thn (ho pins s2 σ H2 x y v u _ I2 r1 r2 q2) λd s3 ⟨z,H3,I3,r3,k,e,q3⟩=>?_)) hm
 subst e
 cases r3
 refine OA ?_
 cases k with
 |false =>
  obtain⟨k',e',q'⟩:=q3
  cases e'
  exact ite_ff ⟨H3,I3,q'⟩
 |true =>
  refine ite_tt (test_link (thn (hc pins s3 σ H3 _ I3 q3) λw' s4 ⟨z',H4,I4,r4,q4⟩=>thn (ho' pins s4 σ H4 y z' u w' _ I4 r2 r4 q4) λd' s5 Zz=>?_));obtain⟨z2,H5,I5,r5,k2,e2,q5⟩:=Zz
  subst e2
  cases r5
  refine OA ?_
  cases k2 with
  |false =>
   obtain⟨k',e',q'⟩:=q5
   cases e'
   exact ite_ff ⟨H5,I5,q'⟩
  |true =>
   refine ite_tt (test_last (thn (hd pins s5 σ H5 _ I5 q5) λw2 s6 ⟨z3,H6,I6,r6,q6⟩=>thn (ho'' pins s6 σ H6 z' z3 w' w2 _ I6 r4 r6 q6) λd2 s7 Zz=>?_));obtain⟨z4,H7,I7,r7,k3,e3,q7⟩:=Zz
   subst e3
   cases r7
   exact OA ⟨H7,I7,q7⟩
def aW(z:Str)(n:Nat):Str:=⟨((List.replicate n z.cps.toList).flatten).toArray⟩
def HR{z:Str}{n:Int}(h2:2<=n)(hz:1<=z.length):Txt.mul z n=aW z n.toNat:=by
 unfold Txt.mul aW;rw[Og ⋯,Og (by simp;lia)];have:=GV (List.replicate n.toNat z.cps) #[];rw[List.map_replicate] at this;have e:(List.replicate n.toNat z.cps).foldl (· ++ ·) #[]=((List.replicate n.toNat z.cps.toList).flatten).toArray:=by
  apply Rq.mp
  rw[this];simp
 rw[e]
end
open PySem.Builtin PySem.Builtin.Str
section
variable{X:Cx}
def HS(z:Str)(n:Int):Txt.mul z n=aW z n.toNat:=by
 by_cases h2:2<=n/\1<=z.length
 ·exact HR h2.1 h2.2
 ·unfold Txt.mul
  by_cases h1:n<1
  ·rw[Of h1,show n.toNat=0 by lia];rfl
  ·rw[Og h1,Of (by simp;lia)]
   by_cases hz:z.length=0
   ·have e:z.cps.toList=[]:=Ph.mp (by simpa[Str.length] using hz)
    cases z
    simp only[aW,Str.mk.injEq] at *
    rw[e];apply Rq.mp
    simp[e]
   ·rw[show n.toNat=1 by lia]
    cases z
    simp[aW]
def HU:OpR X (binaryOp .Mult) (λx y H Q=>∃ z n,x=.str z/\y=.int n/\n.natAbs<2 ^ 40/\z.length*n.toNat<=1000000/\Q (.str (aW z n.toNat)) H):=by
 intro pins s σ H x y v u Q I rx ry h;obtain⟨z,n,rfl,rfl,hb,hl,q⟩:=h;obtain⟨t,rfl⟩:=rx;obtain⟨t',rfl⟩:=ry;have hb2:n.natAbs<1099511627776:=hb;refine SB.mul ⟨?_,λh1 _=>?_,λ_ _=>?_⟩ λt2 k=>⟨.str (aW z n.toNat),H,I.tok _,⟨t2,by rw[HS]⟩,q⟩
 ·simp;lia
 ·intro hc
  have n0:(n:Int)=(n.toNat:Int):=by lia
  have h1:n*(z.length:Int)<=1000000:=by
   rw[n0,<- Int.natCast_mul,RF];exact Int.ofNat_le.mpr hl
  have h3:(2 ^ 63-1:Int) / n<z.length:=hc;have h4:(2 ^ 63-1:Int)<z.length*n:=Int.lt_mul_of_ediv_lt ⋯ h3;rw[Int.mul_comm] at h4;have:(9223372036854775807:Int)<n*z.length:=h4
  lia
 ·exact OB (Nat.not_lt.mpr (Oc hl 'd'))
end
section
variable{prog:ZD}{w:ZF}{A:ZG}{E:ZC->ZB->Prop}{s:ZB}
end
section
variable{X:Cx}{pos:Pos}
end
end L2
namespace Sm
open PySem L2
def E6x{α β γ:Type}{p q r:α->β->γ->Prop}{R:Prop}(h:∀ a b c,p a b c->q a b c->r a b c->R):(∃ a b c,p a b c/\q a b c/\r a b c)->R:=(λ⟨a,b,c,x,y,z⟩=>h a b c x y z)
inductive AV where
 |non|bl (b:Bool)|int (i:Int)|str (x:Str)
 |tup (xs:List AV)
 |fl (xs:List AV)
 |ref (n:Nat)
 |exc (c:Nat)
 deriving Inhabited
inductive AO where
 |lst (xs:List AV)
 |dct (t:Bool) (kvs:List (AV×AV))
 |dcx (kvs:List (AV×AV))
 |dcz (ob:Obj) (kvs:List (AV×AV))
 |ins (c:Nat) (fs:List (Option AV))
abbrev AH:=List AO
abbrev En:=List (Option AV)
inductive Out (α:Type) where
 |ok (a:α) (h:AH)
 |ex (c:Nat) (h:AH)
 |bad
@[simp] def Out.bind{α β:Type}(o:Out α)(f:α->AH->Out β):Out β :=
 match o with
 |.ok a h=>f a h
 |.ex c h=>.ex c h
 |.bad=>.bad
inductive OutS where
 |nx (e:En) (h:AH)
 |rt (v:AV) (h:AH)
 |bk (e:En) (h:AH)
 |ct (e:En) (h:AH)
 |ex (c:Nat) (e:En) (h:AH)
 |bad
abbrev SE:=En->AH->Out AV
abbrev SB:=En->AH->Out Bool
abbrev SL:=En->AH->Out (List AV)
abbrev SS:=En->AH->OutS
abbrev Fn:=List AV->AH->Out AV
@[simp] def Out.go{α:Type}(o:Out α)(e:En)(f:α->AH->OutS):OutS :=
 match o with
 |.ok a h=>f a h
 |.ex c h=>.ex c e h
 |.bad=>.bad
structure Tb where
 K:ZA
 cls:Nat->Option ZE
 exc:Nat->Option ZE
 fields:Nat->List Str
 nd:∀ c,(fields c).Nodup
 few:∀ c,(fields c).length<=500
def KL(K:ZA)(a:ZE)(xs:List V):Prop:=∃ (o:Obj) (its:Array ZC) (n:Nat),K.lookup a=some o/\o.cls=.type "list" /\ o.dict=none/\o.data=.seq its n/\its.size<=sizeLine/\Vals xs its.toList
structure Ix where
 refs:List ZE
 priv:List ZE
def Ix.all(ι:Ix):List ZE:=ι.refs++ι.priv
def HW(c:Nat):Int:=((c / 64:Nat):Int)-1
def XdOk(ι:Ix)(H:Hp)(c:Nat)(dx:Option ZE):Prop:=64<=c->∃ d,dx=some d/\d∉ι.all/\H d=some (.xd [("row",.int (HW c))])
def uK(T:Tb)(ι:Ix)(H:Hp)(c:Nat)(C:ZE×Option ZE):Prop:=T.exc c=some C.1/\XdOk ι H c C.2
def HX{ι:Ix}{H:Hp}{c:Nat}{dx:Option ZE}(h:c<64):XdOk ι H c dx:=(λz=>absurd h (Nat.not_lt_of_le z))
mutual
inductive RV (T:Tb) (ι:Ix) (H:Hp):AV->V->Prop
 |non:RV T ι H .non .non
 |bl (b:Bool):RV T ι H (.bl b) (.bl b)
 |int (i:Int):RV T ι H (.int i) (.int i)
 |str {x:Str} (n:x.length<=sizeLine) (o:x.cps.all (· < 0x110000)=true):RV T ι H (.str x) (.str x)
 |tup {xs:List AV} {us:List V} {a:ZE} (n:a∉ι.all) (h:H a=some (.tup us)) (r:RVs T ι H xs us):RV T ι H (.tup xs) (.ref a)
 |fl {xs:List AV} {us:List V} {a:ZE} (n:a∉ι.all) (h:Rd H a (.lst us)) (r:RVs T ι H xs us):RV T ι H (.fl xs) (.ref a)
 |kfl {xs:List AV} {us:List V} {a:ZE} (h:KL T.K a us) (r:RVs T ι H xs us):RV T ι H (.fl xs) (.ref a)
 |ref {k:Nat} {a:ZE} (h:ι.refs[k]?=some a):RV T ι H (.ref k) (.ref a)
 |exc {c:Nat} {C:ZE×Option ZE} {a:ZE} (n:a∉ι.all) (h:uK T ι H c C) (q:H a=some (fY a (.ref C.1) C.2)):RV T ι H (.exc c) (.ref a)
inductive RVs (T:Tb) (ι:Ix) (H:Hp):List AV->List V->Prop
 |nil:RVs T ι H [] []
 |cons {x:AV} {u:V} {xs:List AV} {us:List V} (r:RV T ι H x u) (rs:RVs T ι H xs us):RVs T ι H (x::xs) (u::us)
end
structure Grow(ι:Ix)(H:Hp)(ι':Ix)(H':Hp):Prop where
 pre:∃ n,ι'.refs=ι.refs++n/\∀ a∈n,H a=none
 priv:ι'.priv=ι.priv
 keep:∀ a o,a∉ι.refs->H a=some o->H' a=some o
 live:∀ a∈ι.all,H' a≠none
theorem yS:∀ {l:List ZE} {i j:Nat} {a:ZE},l.Nodup->l[i]?=some a->l[j]?=some a->i=j
 |[],_,_,_,_,e,_=>by simp at e
 |x::l,0,0,_,_,_,_=>rfl
 |x::l,0,j+1,a,n,e,f=>by
  simp at e f;subst e
  exact absurd (OE f) (O1.mp n).1
 |x::l,i+1,0,a,n,e,f=>by
  simp at e f;subst f
  exact absurd (OE e) (O1.mp n).1
 |x::l,i+1,j+1,a,n,e,f=>by
  simp at e f
  rw[yS (O1.mp n).2 e f]
def Ix.nr{ι:Ix}{a:ZE}(h:a∉ι.all):a∉ι.refs:=(λz=>h (OC _ z))
def Ix.np{ι:Ix}{a:ZE}(h:a∉ι.all):a∉ι.priv:=(λz=>h (OF _ z))
def Grow.refl{ι:Ix}{H:Hp}(l:∀ a∈ι.all,H a≠none):Grow ι H ι H:=(⟨⟨[],by simp,by simp⟩,rfl,λ_ _ _ e=>e,l⟩)
def Grow.at{ι ι':Ix}{H H':Hp}(g:Grow ι H ι' H'){k:Nat}{a:ZE}(h:ι.refs[k]?=some a):ι'.refs[k]?=some a:=by
 obtain⟨n,e,_⟩:=g.pre;rw[e,Oj (NZ.mp h).1];exact h
def Grow.outR{ι ι':Ix}{H H':Hp}(g:Grow ι H ι' H'){a:ZE}{o:HO}(n:a∉ι.refs)(e:H a=some o):a∉ι'.refs:=(λz=>by
 obtain⟨m,e',hm⟩:=g.pre;rw[e'] at z;rcases OY.mp z with z|z
 ·exact n z
 ·rw[hm a z] at e;cases e)
def Grow.out{ι ι':Ix}{H H':Hp}(g:Grow ι H ι' H'){a:ZE}{o:HO}(n:a∉ι.all)(e:H a=some o):a∉ι'.all:=(λz=>by
 rcases OY.mp z with z|z
 ·exact g.outR (Ix.nr n) e z
 ·rw[g.priv] at z;exact Ix.np n z)
def Grow.trans{ι ι' ι'':Ix}{H H' H'':Hp}(g:Grow ι H ι' H')(k:Grow ι' H' ι'' H''):Grow ι H ι'' H'':=by
 obtain⟨n,e1,hn⟩:=g.pre;obtain⟨m,e2,hm⟩:=k.pre;refine⟨⟨n++m,by rw[e2,e1];simp,λa ha=>?_⟩,k.priv.trans g.priv,λa o na e=>k.keep a o (g.outR na e) (g.keep a o na e),λa ha=>k.live a ?_⟩
 ·rcases OY.mp ha with z|z
  ·exact hn a z
  ·have q:=hm a z
   by_cases hi:a∈ι.refs
   ·exact absurd q (g.live a (OC _ hi))
   ·cases e:H a with
    |none=>rfl
    |some o=>rw[g.keep a o hi e] at q;cases q
 ·rcases OY.mp ha with z|z
  ·exact OC _ (by rw[e1];exact OC _ z)
  ·exact OF _ (by rw[g.priv];exact z)
structure Ext(ι:Ix)(H:Hp)(ι':Ix)(H':Hp):Prop where
 at_:∀ {k:Nat} {a:ZE},ι.refs[k]?=some a->ι'.refs[k]?=some a
 keep:∀ a o,a∉ι.all->H a=some o->H' a=some o
 out:∀ a o,a∉ι.all->H a=some o->a∉ι'.all
def Grow.ext{ι ι':Ix}{H H':Hp}(g:Grow ι H ι' H'):Ext ι H ι' H':=(⟨g.at,λa o n e=>g.keep a o (Ix.nr n) e,λa o n e=>g.out n e⟩)
def Ext.trans{ι ι' ι'':Ix}{H H' H'':Hp}(g:Ext ι H ι' H')(k:Ext ι' H' ι'' H''):Ext ι H ι'' H'' :=(
 ⟨λe=>k.at_ (g.at_ e),λa o n e=>k.keep a o (g.out a o n e) (g.keep a o n e),λa o n e=>k.out a o (g.out a o n e) (g.keep a o n e)⟩)
def XdOk.ext{ι ι':Ix}{H H':Hp}{c:Nat}{dx:Option ZE}(x:XdOk ι H c dx)(g:Ext ι H ι' H'):XdOk ι' H' c dx:=(λz=>by
 obtain⟨d,e,n,q⟩:=x z;exact⟨d,e,g.out _ _ n q,g.keep _ _ n q⟩)
def yT{ι ι':Ix}{H H':Hp}(g:Ext ι H ι' H'){a:ZE}{u:HO}(n:a∉ι.all)(r:Rd H a u):Rd H' a u:=by
 rcases r with r|⟨o,r⟩
 ·exact .inl (g.keep a _ n r)
 ·exact .inr ⟨o,g.keep a _ n r⟩
def HY{ι ι':Ix}{H H':Hp}(g:Ext ι H ι' H'){a:ZE}{u:HO}(n:a∉ι.all)(r:Rd H a u):a∉ι'.all:=by
 rcases r with r|⟨o,r⟩
 ·exact g.out _ _ n r
 ·exact g.out _ _ n r
mutual
theorem RV.ext{T:Tb}{ι ι':Ix}{H H':Hp}(g:Ext ι H ι' H'):∀ {x:AV} {u:V},RV T ι H x u->RV T ι' H' x u
 |_,_,.non=>.non
 |_,_,.bl b=>.bl b
 |_,_,.int i=>.int i
 |_,_,.str n o=>.str n o
 |_,_,.tup n h r=>.tup (g.out _ _ n h) (g.keep _ _ n h) (RVs.ext g r)
 |_,_,.fl n h r=>.fl (HY g n h) (yT g n h) (RVs.ext g r)
 |_,_,.kfl h r=>.kfl h (RVs.ext g r)
 |_,_,.ref h=>.ref (g.at_ h)
 |_,_,.exc n h q=>.exc (g.out _ _ n q) ⟨h.1,h.2.ext g⟩ (g.keep _ _ n q)
theorem RVs.ext{T:Tb}{ι ι':Ix}{H H':Hp}(g:Ext ι H ι' H'):∀ {xs:List AV} {us:List V},RVs T ι H xs us->RVs T ι' H' xs us
 |_,_,.nil=>.nil
 |_,_,.cons r rs=>.cons (RV.ext g r) (RVs.ext g rs)
end
def RV.mono{T:Tb}{ι ι':Ix}{H H':Hp}(g:Grow ι H ι' H'){x:AV}{u:V}(r:RV T ι H x u):RV T ι' H' x u:=(r.ext g.ext)
def RVs.mono{T:Tb}{ι ι':Ix}{H H':Hp}(g:Grow ι H ι' H'){xs:List AV}{us:List V}(r:RVs T ι H xs us):RVs T ι' H' xs us:=(r.ext g.ext)
section
variable{T:Tb}{ι:Ix}{H:Hp}
theorem RVs.length:∀ {xs:List AV} {us:List V},RVs T ι H xs us->xs.length=us.length
 |_,_,.nil=>rfl
 |_,_,.cons _ rs=>by simp[RVs.length rs]
theorem RVs.get:∀ {xs:List AV} {us:List V} {i:Nat} {x:AV},RVs T ι H xs us->xs[i]?=some x->∃ u,us[i]?=some u/\RV T ι H x u
 |_,_,_,_,.nil,e=>by simp at e
 |_,_,0,_,.cons r _,e=>by simp at e;subst e;exact⟨_,rfl,r⟩
 |_,_,i+1,x,.cons _ t,e=>by
  obtain⟨u,h1,h2⟩:=RVs.get (i:=i) (x:=x) t (by simpa using e);exact⟨u,by simpa using h1,h2⟩
theorem RVs.append:∀ {xs ys:List AV} {us ws:List V},RVs T ι H xs us->RVs T ι H ys ws->RVs T ι H (xs++ys) (us++ws)
 |_,_,_,_,.nil,s=>s
 |_,_,_,_,.cons r t,s=>.cons r (RVs.append t s)
theorem RVs.set{x:AV}{u:V}(r:RV T ι H x u):∀ {xs:List AV} {us:List V} (i:Nat),RVs T ι H xs us->RVs T ι H (xs.set i x) (us.set i u)
 |_,_,_,.nil=>.nil
 |_,_,0,.cons _ t=>.cons r t
 |_,_,i+1,.cons q t=>.cons q (RVs.set r i t)
theorem RVs.take:∀ {xs:List AV} {us:List V} (n:Nat),RVs T ι H xs us->RVs T ι H (xs.take n) (us.take n)
 |_,_,0,_=>by simpa using RVs.nil
 |_,_,_+1,.nil=>.nil
 |_,_,n+1,.cons r t=>.cons r (RVs.take n t)
theorem RVs.drop:∀ {xs:List AV} {us:List V} (n:Nat),RVs T ι H xs us->RVs T ι H (xs.drop n) (us.drop n)
 |_,_,0,r=>r
 |_,_,_+1,.nil=>.nil
 |_,_,n+1,.cons _ t=>RVs.drop n t
end
def kA:aJ->AV
 |.inl i=>.int i
 |.inr x=>.str x
def OR(T:Tb)(ι:Ix)(H:Hp):AO->HO->Prop
 |.lst xs,o=>∃ us,o=.lst us/\RVs T ι H xs us
 |.dct false kvs,o=>∃ kus:List (aJ×V),o=.dK kus/\Paired (λ(p:AV×AV) (q:aJ×V)=>p.1=kA q.1/\RV T ι H p.2 q.2) kvs kus
 |.dct true kvs,o=>∃ kus:List (List aJ×V),o=.dT none kus/\Paired (λ(p:AV×AV) (q:List aJ×V)=>p.1=.tup (q.1.map kA)/\RV T ι H p.2 q.2) kvs kus
 |.dcx kvs,o=>∃ (ads:List ZE) (kus:List (List aJ×V)),o=.dT (some ads) kus/\ads.length=kus.length/\Paired (λ(p:AV×AV) (q:ZE×List aJ×V)=>p.1=.tup (q.2.1.map kA)/\RV T ι H p.1 (.ref q.1)/\RV T ι H p.2 q.2.2) kvs (ads.zip kus)
 |.dcz ob kvs,o=>∃ kus:List (aJ×V),o=.frz ob (.dK kus)/\Paired (λ(p:AV×AV) (q:aJ×V)=>p.1=kA q.1/\RV T ι H p.2 q.2) kvs kus
 |.ins c fs,o=>∃ C dx fus,T.cls c=some C/\o=.ins C dx fus/\(fus.map (·.1)).Nodup/\(∀ p∈fus,p.1∈T.fields c)/\fs.length=(T.fields c).length /\
   ∀ (i:Nat) (v:AV),fs[i]?=some (some v)->∃ f u,(T.fields c)[i]?=some f/\fus.lookup f=some u/\RV T ι H v u
def OR.mono{T:Tb}{ι ι':Ix}{H H':Hp}(g:Grow ι H ι' H'){o:AO}{u:HO}(h:OR T ι H o u):OR T ι' H' o u:=by
 cases o with
 |lst xs=>obtain⟨us,e,r⟩:=h;exact⟨us,e,r.mono g⟩
 |dct t kvs =>
  cases t with
  |false=>obtain⟨us,e,r⟩:=h;exact⟨us,e,Paired.mapP r λ_ _ ⟨a,b⟩=>⟨a,b.mono g⟩⟩
  |true=>obtain⟨us,e,r⟩:=h;exact⟨us,e,Paired.mapP r λ_ _ ⟨a,b⟩=>⟨a,b.mono g⟩⟩
 |dcx kvs=>obtain⟨ads,us,e,l,r⟩:=h;exact⟨ads,us,e,l,Paired.mapP r λ_ _ ⟨a,b,c⟩=>⟨a,b.mono g,c.mono g⟩⟩
 |dcz ob kvs=>obtain⟨us,e,r⟩:=h;exact⟨us,e,Paired.mapP r λ_ _ ⟨a,b⟩=>⟨a,b.mono g⟩⟩
 |ins c fs =>
  obtain⟨C,dx,fus,a,b,n,w,l,r⟩:=h;refine⟨C,dx,fus,a,b,n,w,l,λi v e=>?_⟩
  obtain⟨f,u,e1,e2,q⟩:=r i v e;exact⟨f,u,e1,e2,q.mono g⟩
structure Sim(T:Tb)(ι:Ix)(h:AH)(H:Hp):Prop where
 len:ι.refs.length=h.length
 nd:ι.refs.Nodup
 plive:∀ a∈ι.priv,H a≠none
 obj:∀ (i:Nat) (o:AO) (a:ZE),h[i]?=some o->ι.refs[i]?=some a->∃ u,H a=some u/\OR T ι H o u
section
variable{T:Tb}{ι:Ix}{h:AH}{H:Hp}
def Sim.live(S:Sim T ι h H):∀ a∈ι.all,H a≠none:=(λa ha z=>by
 rcases OY.mp ha with ha|ha
 ·obtain⟨i,hi⟩:=List.mem_iff_getElem?.mp ha
  have hl:i<h.length:=by rw[<- S.len];exact(NZ.mp hi).1
  obtain⟨u,e,_⟩:=S.obj i h[i] a (by simp[hl]) hi;rw[z] at e;cases e
 ·exact S.plive a ha z)
def Sim.refl(S:Sim T ι h H):Grow ι H ι H:=(.refl S.live)
def Sim.at(S:Sim T ι h H){i:Nat}{o:AO}(e:h[i]?=some o):∃ a u,ι.refs[i]?=some a/\H a=some u/\OR T ι H o u:=by
 have hl:i<ι.refs.length:=by rw[S.len];exact(NZ.mp e).1
 obtain⟨u,e1,r⟩:=S.obj i o ι.refs[i] e (by simp[hl]);exact⟨ι.refs[i],u,by simp[hl],e1,r⟩
def Sim.fresh(S:Sim T ι h H){p:ZE}(n:H p=none):p∉ι.all:=(λz=>S.live p z n)
def Sim.still(S:Sim T ι h H){H':Hp}(g:Grow ι H ι H')(k:∀ a∈ι.refs,H' a=H a):Sim T ι h H' :=(
 ⟨S.len,S.nd,λa ha=>g.live a (OF _ ha),λi o a e1 e2=>by
  obtain⟨u,e,r⟩:=S.obj i o a e1 e2;exact⟨u,by rw[k a (OE e2)];exact e,r.mono g⟩⟩)
def Sim.growNew(S:Sim T ι h H){p:ZE}{o:HO}(n:H p=none):Grow ι H ι (upd H p o) :=(
 ⟨⟨[],by simp,by simp⟩,rfl,λa u _ e=>by rw[bg (fQ e n)];exact e,λa ha=>by
  rw[bg (show a≠p fromλz=>S.fresh n (z▸ha))];exact S.live a ha⟩)
def Sim.new(S:Sim T ι h H){p:ZE}{o:HO}(n:H p=none):Sim T ι h (upd H p o) :=(
 S.still (S.growNew n) λa ha=>bg λz=>S.fresh n (z▸OC _ ha))
def Ix.add(ι:Ix)(p:ZE):Ix:=⟨ι.refs++[p],ι.priv⟩
def Sim.growAdd(S:Sim T ι h H){p:ZE}{u:HO}(n:H p=none):Grow ι H (ι.add p) (upd H p u) :=(
 ⟨⟨[p],rfl,λa ha=>by have e:a=p:=(by simpa using ha);rw[e];exact n⟩,rfl,(S.growNew n).keep,(S.growNew n).live⟩)
def Sim.add(S:Sim T ι h H){p:ZE}{u:HO}{o:AO}(n:H p=none)(r:OR T (ι.add p) (upd H p u) o u):Sim T (ι.add p) (h++[o]) (upd H p u):=by
 refine⟨by simp[Ix.add,S.len],?_,λa ha=>(S.growNew n).live a (OF _ ha),λi o' a e1 e2=>?_⟩
 ·show (ι.refs++[p]).Nodup
  rw[QB];exact⟨S.nd,by simp,λa ha b hb z=>by have e:b=p:=(by simpa using hb);subst e;subst z;exact S.fresh n (OC _ ha)⟩
 ·replace e2:(ι.refs++[p])[i]?=some a:=e2
  by_cases hi:i<h.length
  ·rw[Oj hi] at e1
   rw[Oj (by rw[S.len];exact hi)] at e2;obtain⟨v,e,q⟩:=S.obj i o' a e1 e2;exact⟨v,by rw[bg (fQ e n)];exact e,q.mono (S.growAdd n)⟩
  ·have e3:i=h.length:=by
    have:=(NZ.mp e1).1;simp at this;lia
   subst e3;rw[Oy (Oa _)] at e1;rw[Oy (by rw[S.len];exact Oa _),S.len] at e2
   simp at e1 e2
   subst e1 e2
   exact⟨u,dQ,r⟩
def Sim.addAt(S:Sim T ι h H){p:ZE}:(ι.add p).refs[h.length]?=some p:=by
 show (ι.refs++[p])[h.length]?=some p
 rw[<- S.len];simp
def Sim.growSet(S:Sim T ι h H){i:Nat}{a:ZE}{u:HO}(e:ι.refs[i]?=some a):Grow ι H ι (upd H a u) :=(
 ⟨⟨[],by simp,by simp⟩,rfl,λb o nb q=>by rw[bg (show b≠a fromλz=>nb (by rw[z];exact OE e))];exact q,λb hb=>by
  by_cases z:b=a
  ·subst z;rw[dQ];simp
  ·rw[bg z];exact S.live b hb⟩)
def Sim.set(S:Sim T ι h H){i:Nat}{a:ZE}{u:HO}{o:AO}(e:ι.refs[i]?=some a)(r:OR T ι (upd H a u) o u):Sim T ι (h.set i o) (upd H a u):=by
 refine⟨by simp[S.len],S.nd,λb hb=>(S.growSet e).live b (OF _ hb),λj o' b e1 e2=>?_⟩
 by_cases hj:j=i
 ·subst hj
  rw[e] at e2;cases e2
  have hl:j<h.length:=by rw[<- S.len];exact(NZ.mp e).1
  rw[Ob hl] at e1;cases e1
  exact⟨u,dQ,r⟩
 ·rw[N8 (Ne.symm hj)] at e1
  obtain⟨v,q,r'⟩:=S.obj j o' b e1 e2;have ne:b≠a:=λz=>hj (by
   subst z;exact yS S.nd e2 e)
  exact⟨v,by rw[bg ne];exact q,r'.mono (S.growSet e)⟩
end
def Ix.hide(ι:Ix)(D:ZE):Ix:=⟨ι.refs,D::ι.priv⟩
def Ix.hide_all{ι:Ix}{D a:ZE}:a∉(ι.hide D).all ↔ a∉ι.all/\a≠D:=by
 unfold Ix.all Ix.hide;simp only[OY,Ov]
 constructor
 ·intro h;exact⟨λz=>h (z.elim .inl λz=>.inr (.inr z)),λz=>h (.inr (.inl z))⟩
 ·rintro⟨h1,h2⟩ (z|z|z)
  ·exact h1 (.inl z)
  ·exact h2 z
  ·exact h1 (.inr z)
section
variable{T:Tb}{ι:Ix}{H:Hp}{D:ZE}
def Ext.hide{o:HO}(hn:H D=none):Ext ι H (ι.hide D) (upd H D o):=(⟨λe=>e,λa u n e=>by rw[bg (fQ e hn)];exact e,λa u n e=>Ix.hide_all.mpr ⟨n,fQ e hn⟩⟩)
def Ext.poke{o:HO}:Ext (ι.hide D) H (ι.hide D) (upd H D o):=(⟨λe=>e,λa u n e=>by rw[bg (Ix.hide_all.mp n).2];exact e,λa u n e=>n⟩)
def Ext.show:Ext (ι.hide D) H ι H:=(⟨λe=>e,λa u n e=>e,λa u n e=>(Ix.hide_all.mp n).1⟩)
def OR.ext{ι ι':Ix}{H H':Hp}(g:Ext ι H ι' H'){o:AO}{u:HO}(h:OR T ι H o u):OR T ι' H' o u:=by
 cases o with
 |lst xs=>obtain⟨us,e,r⟩:=h;exact⟨us,e,r.ext g⟩
 |dct t kvs =>
  cases t with
  |false=>obtain⟨us,e,r⟩:=h;exact⟨us,e,Paired.mapP r λ_ _ ⟨a,b⟩=>⟨a,b.ext g⟩⟩
  |true=>obtain⟨us,e,r⟩:=h;exact⟨us,e,Paired.mapP r λ_ _ ⟨a,b⟩=>⟨a,b.ext g⟩⟩
 |dcx kvs=>obtain⟨ads,us,e,l,r⟩:=h;exact⟨ads,us,e,l,Paired.mapP r λ_ _ ⟨a,b,c⟩=>⟨a,b.ext g,c.ext g⟩⟩
 |dcz ob kvs=>obtain⟨us,e,r⟩:=h;exact⟨us,e,Paired.mapP r λ_ _ ⟨a,b⟩=>⟨a,b.ext g⟩⟩
 |ins c fs =>
  obtain⟨C,dx,fus,a,b,n,w,l,r⟩:=h;refine⟨C,dx,fus,a,b,n,w,l,λi v e=>?_⟩
  obtain⟨f,u,e1,e2,q⟩:=r i v e;exact⟨f,u,e1,e2,q.ext g⟩
def Sim.hide{h:AH}{o:HO}(S:Sim T ι h H)(hn:H D=none):Sim T (ι.hide D) h (upd H D o) :=(
 ⟨S.len,S.nd,λa ha=>by
  rcases Ov.mp ha with rfl|ha
  ·rw[dQ];simp
  ·rw[bg (show a≠D fromλz=>S.plive a ha (z▸hn))];exact S.plive a ha,λi o' a e1 e2=>by
  obtain⟨u,e,r⟩:=S.obj i o' a e1 e2;exact⟨u,by rw[bg (fQ e hn)];exact e,r.ext (Ext.hide hn)⟩⟩)
def Sim.poke{h:AH}{o:HO}(S:Sim T (ι.hide D) h H)(hr:D∉ι.refs):Sim T (ι.hide D) h (upd H D o) :=(
 ⟨S.len,S.nd,λa ha=>by
  by_cases z:a=D
  ·subst z;rw[dQ];simp
  ·rw[bg z];exact S.plive a ha,λi o' a e1 e2=>by
  obtain⟨u,e,r⟩:=S.obj i o' a e1 e2;have ne:a≠D:=λz=>hr (z▸OE e2)
  exact⟨u,by rw[bg ne];exact e,r.ext Ext.poke⟩⟩)
def Sim.show{h:AH}(S:Sim T (ι.hide D) h H):Sim T ι h H :=(
 ⟨S.len,S.nd,λa ha=>S.plive a (OK _ ha),λi o' a e1 e2=>by
  obtain⟨u,e,r⟩:=S.obj i o' a e1 e2;exact⟨u,e,r.ext Ext.show⟩⟩)
end
def ER(T:Tb)(ι:Ix)(H:Hp)(e:En)(σ:St):Prop:=e.length=σ.length/\∀ (i:Nat) (v:AV),e[i]?=some (some v)->∃ u,σ[i]?=some (some u)/\RV T ι H v u
def ER.mono{T:Tb}{ι ι':Ix}{H H':Hp}{e:En}{σ:St}(r:ER T ι H e σ)(g:Grow ι H ι' H'):ER T ι' H' e σ :=(
 ⟨r.1,λi v q=>let ⟨u,a,b⟩:=r.2 i v q;⟨u,a,b.mono g⟩⟩)
def ER.ext{T:Tb}{ι ι':Ix}{H H':Hp}{e:En}{σ:St}(r:ER T ι H e σ)(g:Ext ι H ι' H'):ER T ι' H' e σ :=(
 ⟨r.1,λi v q=>let ⟨u,a,b⟩:=r.2 i v q;⟨u,a,b.ext g⟩⟩)
def ER.set{T:Tb}{ι:Ix}{H:Hp}{e:En}{σ:St}(r:ER T ι H e σ){v:AV}{u:V}(q:RV T ι H v u)(i:Nat):ER T ι H (e.set i (some v)) (σ.set i (some u)):=by
 refine⟨by simp[r.1],λj w z=>?_⟩
 by_cases hj:j=i
 ·subst hj
  by_cases hl:j<e.length
  ·rw[Ob hl] at z;cases z
   exact⟨u,by rw[Ob (by rw[<- r.1];exact hl)],q⟩
  ·rw[Pp (by simpa using hl)] at z;cases z
 ·rw[N8 (Ne.symm hj)] at z ⊢
  exact r.2 j w z
def ER.unset{T:Tb}{ι:Ix}{H:Hp}{e:En}{σ:St}(r:ER T ι H e σ)(i:Nat):ER T ι H (e.set i none) (σ.set i none):=by
 refine⟨by simp[r.1],λj w z=>?_⟩
 by_cases hj:j=i
 ·subst hj
  by_cases hl:j<e.length
  ·rw[Ob hl] at z;cases z
  ·rw[Pp (by simpa using hl)] at z;cases z
 ·rw[N8 (Ne.symm hj)] at z ⊢
  exact r.2 j w z
def Post{α β:Type}(T:Tb)(ι:Ix)(H:Hp)(E:XK)(R:Ix->Hp->α->β->Prop)(o:Out α)(Q:β->Hp->Prop):Prop :=
 match o with
 |.ok v h'=>∀ ι' H' u,Grow ι H ι' H'->Sim T ι' h' H'->R ι' H' v u->Q u H'
 |.ex c h'=>∀ ι' H' C,Grow ι H ι' H'->Sim T ι' h' H'->uK T ι' H' c C->E (.ref C.1) C.2 H'
 |.bad=>False
def PostS(T:Tb)(ι:Ix)(H:Hp)(E:St->XK)(o:OutS)(D:cY):Prop :=
 match o with
 |.nx e h'=>∀ ι' H' σ',Grow ι H ι' H'->Sim T ι' h' H'->ER T ι' H' e σ'->D.nx σ' H'
 |.bk e h'=>∀ ι' H' σ',Grow ι H ι' H'->Sim T ι' h' H'->ER T ι' H' e σ'->D.bk σ' H'
 |.ct e h'=>∀ ι' H' σ',Grow ι H ι' H'->Sim T ι' h' H'->ER T ι' H' e σ'->D.ct σ' H'
 |.rt v h'=>∀ ι' H' u,Grow ι H ι' H'->Sim T ι' h' H'->RV T ι' H' v u->D.rt u H'
 |.ex c e h'=>∀ ι' H' σ' C,Grow ι H ι' H'->Sim T ι' h' H'->ER T ι' H' e σ'->uK T ι' H' c C->E σ' (.ref C.1) C.2 H'
 |.bad=>False
abbrev HZ{α:Type}:Ix->Hp->α->α->Prop:=λ_ _ a b=>a=b
section
variable{T:Tb}{ι ι':Ix}{h:AH}{H H':Hp}{α β γ δ:Type}{E:XK}{R:Ix->Hp->α->β->Prop}{R':Ix->Hp->γ->δ->Prop}
def Post.shift{o:Out α}{Q:β->Hp->Prop}(p:Post T ι H E R o Q)(g:Grow ι H ι' H'):Post T ι' H' E R o Q:=by
 cases o with
 |ok v h'=>exactλi2 H2 u g2=>p i2 H2 u (g.trans g2)
 |ex c h'=>exactλi2 H2 C g2=>p i2 H2 C (g.trans g2)
 |bad=>exact p
def Post.bind{o:Out α}{f:α->AH->Out γ}{Q:δ->Hp->Prop}{Q1:β->Hp->Prop}(p:Post T ι H E R' (o.bind f) Q)
  (k:∀ v h' ι' H' u,Grow ι H ι' H'->Sim T ι' h' H'->R ι' H' v u->Post T ι' H' E R' (f v h') Q->Q1 u H'):Post T ι H E R o Q1:=by
 cases o with
 |ok v h'=>exactλi2 H2 u g S r=>k v h' i2 H2 u g S r (Post.shift p g)
 |ex c h'=>exact p
 |bad=>exact p
def Post.now{v:α}{u:β}{Q:β->Hp->Prop}(p:Post T ι H E R (.ok v h) Q)(S:Sim T ι h H)(r:R ι H v u):Q u H:=(p ι H u S.refl S r)
def PostS.shift{E:St->XK}{o:OutS}{D:cY}(p:PostS T ι H E o D)(g:Grow ι H ι' H'):PostS T ι' H' E o D:=by
 cases o with
 |nx e h'=>exactλi2 H2 u g2=>p i2 H2 u (g.trans g2)
 |bk e h'=>exactλi2 H2 u g2=>p i2 H2 u (g.trans g2)
 |ct e h'=>exactλi2 H2 u g2=>p i2 H2 u (g.trans g2)
 |rt v h'=>exactλi2 H2 u g2=>p i2 H2 u (g.trans g2)
 |ex c e h'=>exactλi2 H2 u C g2=>p i2 H2 u C (g.trans g2)
 |bad=>exact p
def PostS.go{E:St->XK}{o:Out α}{en:En}{σ:St}{f:α->AH->OutS}{D:cY}{Q1:β->Hp->Prop}(p:PostS T ι H E (o.go en f) D)(er:ER T ι H en σ)
  (k:∀ v h' ι' H' u,Grow ι H ι' H'->Sim T ι' h' H'->R ι' H' v u->PostS T ι' H' E (f v h') D->Q1 u H'):Post T ι H (E σ) R o Q1:=by
 cases o with
 |ok v h'=>exactλi2 H2 u g S r=>k v h' i2 H2 u g S r (PostS.shift p g)
 |ex c h'=>exactλi2 H2 C g S e=>p i2 H2 σ C g S (er.mono g) e
 |bad=>exact p
end
def tE(T:Tb)(E:St->XK)(a:SE):TE:=λσ H Q=>∃ ι h en,Sim T ι h H/\ER T ι H en σ/\Post T ι H (E σ) (RV T) (a en h) Q
def tT(T:Tb)(E:St->XK)(a:SB):TT:=λσ H Q=>∃ ι h en,Sim T ι h H/\ER T ι H en σ/\Post T ι H (E σ) HZ (a en h) Q
def tA(T:Tb)(E:St->XK)(a:SL):TA:=λσ H Q=>∃ ι h en,Sim T ι h H/\ER T ι H en σ/\Post T ι H (E σ) (RVs T) (a en h) Q
def tS(T:Tb)(E:St->XK)(b:SS):TS:=λD σ H=>∃ ι h en,Sim T ι h H/\ER T ι H en σ/\PostS T ι H E (b en h) D
abbrev aF(T:Tb)(E:St->XK)(X:Cx)(e:Expr)(a:SE):Prop:=PE X e (tE T E a)
abbrev gQ(T:Tb)(E:St->XK)(X:Cx)(e:Expr)(a:SB):Prop:=PT X e (tT T E a)
abbrev kM(T:Tb)(E:St->XK)(X:Cx)(e:Expr)(a:SB):Prop:=PW X e (tT T E a)
abbrev fT(T:Tb)(E:St->XK)(X:Cx)(es:List Expr)(a:SL):Prop:=PA X es (tA T E a)
abbrev fZ(T:Tb)(E:St->XK)(X:Cx)(st:Stmt)(b:SS):Prop:=PS X st (tS T E b)
abbrev cF(T:Tb)(E:St->XK)(X:Cx)(sts:List Stmt)(b:SS):Prop:=PSs X sts (tS T E b)
def bO{X:Cx}{e:Expr}{t t':TE}(h:PE X e t)(k:∀ σ H Q,t' σ H Q->t σ H Q):PE X e t':=(λpins s σ H Q I q=>h pins s σ H Q I (k σ H Q q))
def ox{X:Cx}{e:Expr}{t t':TT}(h:PT X e t)(k:∀ σ H Q,t' σ H Q->t σ H Q):PT X e t':=(λpins s σ H Q I q=>h pins s σ H Q I (k σ H Q q))
def yU{X:Cx}{e:Expr}{t t':TT}(h:PW X e t)(k:∀ σ H Q,t' σ H Q->t σ H Q):PW X e t':=(λw pins s σ H Q I q=>h w pins s σ H Q I (k σ H Q q))
def yV{X:Cx}{e:List Expr}{t t':TA}(h:PA X e t)(k:∀ σ H Q,t' σ H Q->t σ H Q):PA X e t':=(λp pins s σ H Q I q=>h p pins s σ H Q I (k σ H Q q))
def gR{X:Cx}{e:Stmt}{t t':TS}(h:PS X e t)(k:∀ D σ H,t' D σ H->t D σ H):PS X e t':=(λpins s σ H D I q=>h pins s σ H D I (k D σ H q))
def yW{X:Cx}{e:List Stmt}{t t':TS}(h:PSs X e t)(k:∀ D σ H,t' D σ H->t D σ H):PSs X e t':=(λpins s σ H D I q=>h pins s σ H D I (k D σ H q))
def yX{X:Cx}{st:Stmt}{t:TS}(h:PS X.nox st t):PS X st t:=(λpins s σ H D I hw=>by
 refine OV (h pins s σ H D (I.wish _) hw) (λf s' q=>SP.unwish q) λ_ _ z=>z.elim)
instance:DecidableEq AV:=λ_ _=>Classical.propDecidable _
@[simp] def aa(i:Nat):SE:=λen h=>match en[i]? with
 |some (some v)=>.ok v h
 |_=>.bad
@[simp] def ae(v:AV):SE:=λ_ h=>.ok v h
abbrev F1:=AV->AH->Out AV
abbrev F2:=AV->AV->AH->Out AV
@[simp] def bZ(f:F1)(a:SE):SE:=λen h=>(a en h).bind f
@[simp] def ah(f:F2)(a b:SE):SE:=λen h=>(a en h).bind λx h1=>(b en h1).bind λy h2=>f x y h2
@[simp] def af:SL:=λ_ h=>.ok [] h
@[simp] def ai(a:SE)(r:SL):SL:=λen h=>(a en h).bind λx h1=>(r en h1).bind λxs h2=>.ok (x::xs) h2
@[simp] def au(F:Fn)(as:SL):SE:=λen h=>(as en h).bind F
@[simp] def aG(as:SL):SE:=λen h=>(as en h).bind λxs h1=>if xs.length<=1000 then .ok (.tup xs) h1 else .bad
@[simp] def aM(as:SL):SE:=λen h=>(as en h).bind λxs h1=>if xs.length<=1000 then .ok (.fl xs) h1 else .bad
@[simp] def gb(as:SL):SE:=λen h=>(as en h).bind λxs h1=>if xs.length<=1000 then .ok (.ref h1.length) (h1++[.lst xs]) else .bad
@[simp] def fo(t:Bool):SE:=λ_ h=>.ok (.ref h.length) (h++[.dct t []])
@[simp] def NX(v:AV)(h:AH):Option (List AV):=match v with
 |.tup xs=>some xs
 |.fl xs=>some xs
 |.ref n=>match h[n]? with
  |some (.lst xs)=>some xs
  |_=>none
 |_=>none
@[simp] def d8(v:AV)(h:AH):Option (List AV):=match v with
 |.fl xs=>some xs
 |.ref n=>match h[n]? with
  |some (.lst xs)=>some xs
  |_=>none
 |_=>none
@[simp] def aB:F2:=λx y h=>match x,y with
 |.int i,.int j=>.ok (.int (i+j)) h
 |.str i,.str j=>if i.length+j.length<=sizeLine then .ok (.str (i++j)) h else .bad
 |.tup xs,.tup ys=>if xs≠[]/\xs.length+ys.length<=sizeLine then .ok (.tup (xs++ys)) h else .bad
 |x,y=>match d8 x h,d8 y h with
  |some xs,some ys=>if xs.length+ys.length<=sizeLine then .ok (.fl (xs++ys)) h else .bad
  |_,_=>.bad
@[simp] def bN:F2:=λx y h=>match x,y with
 |.int i,.int j=>.ok (.int (i-j)) h
 |_,_=>.bad
@[simp] def bq:F2:=λx y h=>match x,y with
 |.int i,.int j=>if (i.natAbs<2 ^ 64\/j.natAbs<2 ^ 64)\/(i.natAbs<2 ^ 4000/\j.natAbs<2 ^ 4000) then .ok (.int (i*j)) h else .bad
 |_,_=>.bad
@[simp] def cQ:F2:=λx y h=>match x,y with
 |.int i,.int j=>if 0<j/\j.natAbs<2 ^ 200 then .ok (.int (i / j)) h else .bad
 |_,_=>.bad
@[simp] def bH:F2:=λx y h=>match x,y with
 |.int i,.int j=>if 0<j then .ok (.int (i % j)) h else .bad
 |_,_=>.bad
@[simp] def b9:F2:=λx y h=>match x,y with
 |.int i,.int j=>if 0<=j/\j<=1000000/\i.natAbs<2 ^ 64 then .ok (.int (i ^ j.toNat)) h else .bad
 |_,_=>.bad
@[simp] def bh:F1:=λx h=>match x with
 |.int i=>.ok (.int (-i)) h
 |_=>.bad
def bu(f:AV->Option PyData):List AV->Option (List PyData)
 |[]=>some []
 |x::xs=>match f x,bu f xs with
  |some d,some ds=>some (d::ds)
  |_,_=>none
def bj:Nat->AH->AV->Option PyData
 |0,_,v=>match v with
  |.non=>some .none
  |.bl b=>some (.bool b)
  |.int i=>some (.int i)
  |.str x=>some (.str x)
  |_=>none
 |n+1,h,v=>match v with
  |.non=>some .none
  |.bl b=>some (.bool b)
  |.int i=>some (.int i)
  |.str x=>some (.str x)
  |.tup xs=>(bu (bj n h) xs).map .tuple
  |.fl xs=>(bu (bj n h) xs).map .list
  |.ref k=>match h[k]? with
   |some (.lst xs)=>(bu (bj n h) xs).map .list
   |_=>none
  |.exc _=>none
@[simp] def gc(x y:AV)(h:AH):Option Bool:=match x,y with
 |.int i,.int j=>some (decide (i=j))
 |.str i,.str j=>some (decide (i=j))
 |.bl i,.bl j=>some (decide (i=j))
 |.non,.non=>some true
 |x,y=>match bj 8 h x,bj 8 h y with
  |some d,some e=>some (PyData.eqv d e)
  |_,_=>none
@[simp] def az:F2:=λx y h=>match gc x y h with
 |some b=>.ok (.bl b) h
 |none=>.bad
@[simp] def bS:F2:=λx y h=>match gc x y h with
 |some b=>.ok (.bl (!b)) h
 |none=>.bad
@[simp] def fq:F2:=λx y h=>match x,y with
 |.int i,.int j=>.ok (.bl (decide (i<j))) h
 |.str i,.str j=>.ok (.bl (decide (i.cps.toList<j.cps.toList))) h
 |_,_=>.bad
@[simp] def aY:F2:=λx y h=>match x,y with
 |.int i,.int j=>.ok (.bl (decide (i<=j))) h
 |.str i,.str j=>.ok (.bl (!decide (j.cps.toList<i.cps.toList))) h
 |_,_=>.bad
@[simp] def dN:F2:=λx y h=>match x,y with
 |.int i,.int j=>.ok (.bl (decide (j<i))) h
 |_,_=>.bad
@[simp] def jY:F2:=λx y h=>match x,y with
 |.int i,.int j=>.ok (.bl (decide (j<=i))) h
 |_,_=>.bad
@[simp] def jo:F2:=λx y h=>match y with
 |.non=>.ok (.bl (decide (x=.non))) h
 |_=>.bad
@[simp] def jq(v:AV)(h:AH):Option Bool:=match v with
 |.non=>some false
 |.bl b=>some b
 |.int i=>some (i != 0)
 |.str y=>some ((y.length:Int) != 0)
 |.tup xs=>some (!xs.isEmpty)
 |.fl xs=>some (!xs.isEmpty)
 |.ref n=>match h[n]? with
  |some (.lst xs)=>some (!xs.isEmpty)
  |some (.dct false kvs)=>some (!kvs.isEmpty)
  |_=>none
 |_=>none
@[simp] def gA(a:SE):SB:=λen h=>(a en h).bind λv h1=>match jq v h1 with
 |some b=>.ok b h1
 |none=>.bad
@[simp] def aC(a:SE):SB:=λen h=>(a en h).bind λv h1=>match v with
 |.bl b=>.ok b h1
 |_=>.bad
@[simp] def dS(a b:SB):SB:=λen h=>(a en h).bind λx h1=>if x=true then b en h1 else .ok false h1
@[simp] def jZ(a b:SB):SB:=λen h=>(a en h).bind λx h1=>if x=true then .ok true h1 else b en h1
@[simp] def cG(a:SB):SB:=λen h=>(a en h).bind λx h1=>.ok (!x) h1
@[simp] def jr(a b:SE):SE:=λen h=>(a en h).bind λv h1=>match v with
 |.bl k=>if k=true then b en h1 else .ok (.bl false) h1
 |_=>.bad
@[simp] def fB(a b:SE):SE:=λen h=>(a en h).bind λv h1=>match v with
 |.bl k=>if k=true then .ok (.bl true) h1 else b en h1
 |_=>.bad
@[simp] def jt(a:SE):SE:=λen h=>(a en h).bind λv h1=>match v with
 |.bl b=>.ok (.bl (!b)) h1
 |_=>.bad
@[simp] def fu(f f':F2)(a b c:SE):SE:=λen h=>(a en h).bind λx h1=>(b en h1).bind λy h2=>(f x y h2).bind λz h3=>match z with
 |.bl k=>if k=true then(c en h3).bind λw h4=>f' y w h4 else .ok (.bl false) h3
 |_=>.bad
@[simp] def aK:SS:=λen h=>.nx en h
@[simp] def aj(a b:SS):SS:=λen h=>match a en h with
 |.nx e h'=>b e h'
 |o=>o
@[simp] def bp(a:SE):SS:=λen h=>(a en h).go en λ_ h'=>.nx en h'
@[simp] def aq(a:SE):SS:=λen h=>(a en h).go en λv h'=>.rt v h'
@[simp] def aH(c:SB)(a b:SS):SS:=λen h=>(c en h).go en λx h'=>if x=true then a en h' else b en h'
@[simp] def aw(i:Nat)(a:SE):SS:=λen h=>(a en h).go en λv h'=>.nx (en.set i (some v)) h'
def ig(c:SB)(b:SS):Nat->SS
 |0=>λ_ _=>.bad
 |n+1=>λen h=>match c en h with
  |.ok true h1=>(match b en h1 with
   |.nx e2 h2=>ig c b n e2 h2
   |.ct e2 h2=>ig c b n e2 h2
   |.bk e2 h2=>.nx e2 h2
   |.rt v h2=>.rt v h2
   |_=>.bad)
  |.ok false h1=>.nx en h1
  |_=>.bad
abbrev SI:=En->AH->Out (List AV×Option Nat)
@[simp] def gB(w:Option Nat)(xs:List AV)(h:AH):Bool:=match w with
 |none=>true
 |some n=>match h[n]? with
  |some (.lst ys)=>decide (ys=xs)
  |_=>false
inductive Tg where
 |nm (i:Nat)
 |tup (is:List Nat)
 |nst (i:Nat) (is:List Nat)
@[simp] def qF:List Nat->List AV->En->Option En
 |[],[],en=>some en
 |i::is,x::xs,en=>qF is xs (en.set i (some x))
 |_,_,_=>none
@[simp] def fC(t:Tg)(v:AV)(en:En):Option En:=match t,v with
 |.nm i,v=>some (en.set i (some v))
 |.tup is,.tup xs=>qF is xs en
 |.nst i is,.tup [y,.tup xs]=>qF is xs (en.set i (some y))
 |_,_=>none
def gT(w:Option Nat)(all:List AV)(t:Tg)(b:SS):List AV->SS
 |[]=>λen h=>if gB w all h=true then .nx en h else .bad
 |x::xs=>λen h=>if gB w all h=true then
   (match fC t x en with
   |some e1=>(match b e1 h with
    |.nx e2 h2=>gT w all t b xs e2 h2
    |.ct e2 h2=>gT w all t b xs e2 h2
    |.bk e2 h2=>.nx e2 h2
    |.rt v h2=>.rt v h2
    |_=>.bad)
   |none=>.bad) else .bad
@[simp] def cR(it:SI)(t:Tg)(b:SS):SS:=λen h=>match it en h with
 |.ok (xs,w) h1=>gT w xs t b xs en h1
 |_=>.bad
@[simp] def qG(t:Tg)(a:SE):SS:=λen h=>(a en h).go en λv h'=>match fC t v en with
 |some e=>.nx e h'
 |none=>.bad
@[simp] def dU(a:SE):SI:=λen h=>(a en h).bind λv h1=>match v with
 |.fl xs=>.ok (xs,none) h1
 |.tup xs=>.ok (xs,none) h1
 |.str z=>.ok (z.cps.toList.map (λc=>.str ⟨#[c]⟩),none) h1
 |.ref n=>match h1[n]? with
  |some (.lst xs)=>.ok (xs,some n) h1
  |_=>.bad
 |_=>.bad
def dz(lo:Int):Nat->List AV
 |0=>[]
 |n+1=>.int lo::dz (lo+1) n
@[simp] def ju(a:SE):SI:=λen h=>(a en h).bind λv h1=>match v with
 |.int j=>if j.natAbs<2 ^ 62 then .ok (dz 0 j.toNat,none) h1 else .bad
 |_=>.bad
def numbered(k:Nat):List AV->List AV
 |[]=>[]
 |x::xs=>.tup [.int k,x]::numbered (k+1) xs
@[simp] def iEnum(a:SE):SI:=λen h=>(a en h).bind λv h1=>match v with
 |.fl xs=>.ok (numbered 0 xs,none) h1
 |_=>.bad
def eP(js:List Nat)(en:En)(w:Option Nat)(all:List AV)(c:SB)(e:SE):List AV->List AV->AH->Out (List AV)
 |[],ys,h=>if gB w all h=true then .ok ys h else .bad
 |x::xs,ys,h=>if gB w all h=true/\ys.length<sizeLine then
   (match c (some x::js.map λj=>(en[j]?).join) h with
   |.ok true h1=>(match e (some x::js.map λj=>(en[j]?).join) h1 with
    |.ok v h2=>eP js en w all c e xs (ys++[v]) h2
    |_=>.bad)
   |.ok false h1=>eP js en w all c e xs ys h1
   |_=>.bad) else .bad
def gU(js:List Nat)(en:En)(L:AH->Bool)(c:SB)(e:SE):List AV->List AV->AH->Out (List AV)
 |[],ys,h=>if L h=true then .ok ys h else .bad
 |x::xs,ys,h=>if L h=true/\ys.length<sizeLine then
   (match c (some x::js.map λj=>(en[j]?).join) h with
   |.ok true h1=>(match e (some x::js.map λj=>(en[j]?).join) h1 with
    |.ok v h2=>gU js en L c e xs (ys++[v]) h2
    |_=>.bad)
   |.ok false h1=>gU js en L c e xs ys h1
   |_=>.bad) else .bad
theorem oz{js:List Nat}{en:En}{w:Option Nat}{all:List AV}{c:SB}{e:SE}:∀ (xs ys:List AV) (h:AH),eP js en w all c e xs ys h=gU js en (gB w all) c e xs ys h
 |[],ys,h=>by unfold eP gU;rfl
 |x::xs,ys,h=>by
  unfold eP gU;simp only[oz xs]
@[simp] def bx:SB:=λ_ h=>.ok true h
@[simp] def fD(js:List Nat)(it:SI)(c:SB)(e:SE):SE:=λen h=>match it en h with
 |.ok (xs,w) h1=>(match eP js en w xs c e xs [] h1 with
  |.ok ys h2=>.ok (.fl ys) h2
  |_=>.bad)
 |_=>.bad
@[simp] def ay(n m:Nat)(b:SS):Fn:=λargs h =>
 if args.length=n then
  match b (args.map some++List.replicate (m-n) none) h with
  |.nx _ h'=>.ok .non h'
  |.rt v h'=>.ok v h'
  |.ex c _ h'=>.ex c h'
  |_=>.bad
 else .bad
@[simp] def aD(c:Nat)(F:Fn)(o:SE)(as:SL):SE:=λen h=>(o en h).bind λx h1=>match x with
 |.ref n=>match h1[n]? with
  |some (.ins c' _)=>if c'=c then(as en h1).bind λxs h2=>F (x::xs) h2 else .bad
  |_=>.bad
 |_=>.bad
@[simp] def mJ(c k:Nat)(F:Fn)(as:SL):SE:=λen h=>(as en h).bind λxs h1=>match F (.ref h1.length::xs) (h1++[.ins c (List.replicate k none)]) with
 |.ok .non h2=>.ok (.ref h1.length) h2
 |.ex c h2=>.ex c h2
 |_=>.bad
@[simp] def sFld(c i:Nat)(o:SE):SE:=λen h=>(o en h).bind λx h1=>match x with
 |.ref n=>match h1[n]? with
  |some (.ins c' fs)=>if c'=c then(match fs[i]? with|some (some v)=>.ok v h1|_=>.bad) else .bad
  |_=>.bad
 |_=>.bad
@[simp] def gW(c i:Nat)(o v:SE):SS:=λen h=>(v en h).go en λy h1=>(o en h1).go en λx h2=>match x with
 |.ref n=>match h2[n]? with
  |some (.ins c' fs)=>if c'=c then .nx en (h2.set n (.ins c (fs.set i (some y)))) else .bad
  |_=>.bad
 |_=>.bad
@[simp] def kN(c:Nat)(as:SL):SS:=λen h=>(as en h).go en λxs h1=>if xs.length<=1000 then .ex c en h1 else .bad
@[simp] def keyOf? (v:AV):Option aJ:=match v with
 |.int i=>some (.inl i)
 |.str x=>some (.inr x)
 |_=>none
@[simp] def keysOf?:List AV->Option (List aJ)
 |[]=>some []
 |v::r=>match keyOf? v,keysOf? r with
  |some k,some ks=>some (k::ks)
  |_,_=>none
@[simp] def dW(t:Bool)(v:AV):Bool:=match t,v with
 |false,v=>(keyOf? v).isSome
 |true,.tup xs=>(keysOf? xs).isSome
 |true,_=>false
def aU(kvs:List (AV×AV))(k:AV):Option AV:=(kvs.find? λp=>decide (p.1=k)).map (·.2)
def d9(kvs:List (AV×AV))(k v:AV):List (AV×AV) :=
 if kvs.any (λp=>decide (p.1=k)) then kvs.map λp=>if p.1=k then(p.1,v) else p else kvs++[(k,v)]
@[simp] def ao:F2:=λx y h=>match x,y with
 |.str z,.int i=>match atI z.cps.toList i with
  |some c=>.ok (.str ⟨#[c]⟩) h
  |none=>.bad
 |.tup xs,.int i=>match atI xs i with
  |some v=>.ok v h
  |none=>.bad
 |.fl xs,.int i=>match atI xs i with
  |some v=>.ok v h
  |none=>.bad
 |.ref n,y=>match h[n]? with
  |some (.lst xs)=>match y with
   |.int i=>match atI xs i with
    |some v=>.ok v h
    |none=>.bad
   |_=>.bad
  |some (.dct t kvs)=>if dW t y then(match aU kvs y with|some v=>.ok v h|none=>.bad) else .bad
  |_=>.bad
 |_,_=>.bad
@[simp] def fw(o i v:SE):SS:=λen h=>(v en h).go en λz h1=>(o en h1).go en λx h2=>(i en h2).go en λy h3=>match x with
 |.ref n=>match h3[n]? with
  |some (.lst xs)=>match y with
   |.int k=>match ic xs.length k with
    |some j=>.nx en (h3.set n (.lst (xs.set j z)))
    |none=>.bad
   |_=>.bad
  |some (.dct t kvs)=>if dW t y=true/\kvs.length<sizeLine then .nx en (h3.set n (.dct t (d9 kvs y z))) else .bad
  |_=>.bad
 |_=>.bad
@[simp] def j0(x y:AV)(h:AH):Option Bool:=match x,y with
 |.str i,.str j=>some (!(Builtin.Str.occurrences j i 0 j.length 1).isEmpty)
 |x,.ref n=>match h[n]? with
  |some (.dct t kvs)=>if dW t x then some (aU kvs x).isSome else none
  |some (.lst xs)=>match bj 8 h x,bu (bj 8 h) xs with
   |some d,some ds=>some (ds.any λe=>PyData.eqv e d)
   |_,_=>none
  |_=>none
 |x,.fl xs=>match bj 8 h x,bu (bj 8 h) xs with
  |some d,some ds=>some (ds.any λe=>PyData.eqv e d)
  |_,_=>none
 |x,.tup xs=>match bj 8 h x,bu (bj 8 h) xs with
  |some d,some ds=>some (ds.any λe=>PyData.eqv e d)
  |_,_=>none
 |_,_=>none
@[simp] def qH:F2:=λx y h=>match j0 x y h with
 |some b=>.ok (.bl b) h
 |none=>.bad
@[simp] def dB:F2:=λx y h=>match j0 x y h with
 |some b=>.ok (.bl (!b)) h
 |none=>.bad
@[simp] def aI:Fn:=λargs h=>match args with
 |[.str x]=>.ok (.int x.length) h
 |[.tup xs]=>.ok (.int xs.length) h
 |[.fl xs]=>.ok (.int xs.length) h
 |[.ref n]=>match h[n]? with
  |some (.lst xs)=>.ok (.int xs.length) h
  |some (.dct false kvs)=>.ok (.int kvs.length) h
  |_=>.bad
 |_=>.bad
@[simp] def kO:Fn:=λargs h=>match args with
 |[.int i]=>.ok (.int (if i<0 then -i else i)) h
 |_=>.bad
@[simp] def fE:Fn:=λargs h=>match args with
 |[.int i,.int j]=>.ok (.int (if j > i then j else i)) h
 |_=>.bad
@[simp] def mK:Fn:=λargs h=>match args with
 |[.int i,.int j]=>.ok (.int (if j<i then j else i)) h
 |_=>.bad
@[simp] def kP:List AV->Option (List Bool)
 |[]=>some []
 |.bl b::r=>(kP r).map (b :: ·)
 |_::_=>none
@[simp] def eQ:Fn:=λargs h=>match args with
 |[.fl xs]=>match kP xs with
  |some bs=>.ok (.bl (bs.all id)) h
  |none=>.bad
 |_=>.bad
@[simp] def bC:Fn:=λargs h=>match args with
 |[.int i]=>.ok (.int i) h
 |[.bl k]=>.ok (.int (if k then 1 else 0)) h
 |_=>.bad
@[simp] def j1(v:AV)(h:AH):Option String:=match v with
 |.non=>some "NoneType"
 |.bl _=>some "bool"
 |.int _=>some "int"
 |.str _=>some "str"
 |.tup _=>some "tuple"
 |.fl _=>some "list"
 |.ref n=>match h[n]? with
  |some (.lst _)=>some "list"
  |some (.dct _ _)=>some "dict"
  |_=>none
 |.exc _=>none
@[simp] def fF(t:String)(a:SE):SE:=λen h=>(a en h).bind λv h1=>match j1 v h1 with
 |some n=>.ok (.bl (n == t || (t == "int" && n == "bool"))) h1
 |none=>.bad
@[simp] def kQ(p:Nat->Bool)(a:SE):SE:=λen h=>(a en h).bind λv h1=>match v with
 |.exc c=>.ok (.bl (p c)) h1
 |_=>.bad
abbrev FM:=AV->List AV->AH->Out AV
@[simp] def aZ(v:AV)(h:AH):Bool:=(d8 v h).isSome
@[simp] def uL(v:AV)(_:AH):Bool:=match v with
 |.str _=>true
 |_=>false
@[simp] def dZ(chk:AV->AH->Bool)(f:FM)(o:SE)(as:SL):SE:=λen h=>(o en h).bind λx h1=>if chk x h1=true then(as en h1).bind λxs h2=>f x xs h2 else .bad
@[simp] def gi(chk:AV->AH->Bool)(f:FM)(o:SE):SE:=λen h=>(o en h).bind λx h1=>if chk x h1=true then f x [] h1 else .bad
@[simp] def bP:FM:=λx vs h=>match x,vs with
 |.ref n,[y]=>match h[n]? with
  |some (.lst xs)=>if xs.length<sizeLine then .ok .non (h.set n (.lst (xs++[y]))) else .bad
  |_=>.bad
 |_,_=>.bad
@[simp] def bz:FM:=λx vs h=>match x,vs with
 |.ref n,[]=>match h[n]? with
  |some (.lst xs)=>match xs[xs.length-1]? with
   |some y=>.ok y (h.set n (.lst xs.dropLast))
   |none=>.bad
  |_=>.bad
 |_,_=>.bad
@[simp] def uM:FM:=λx vs h=>match x,vs with
 |.str z,[.str y]=>.ok (.int ((Builtin.Str.occurrences z y 0 z.length (z.length+1)).length:Nat)) h
 |_,_=>.bad
def dX{α:Type}(xs:List α)(lo hi:Option Int):List α:=(xs.drop (HT.sIx xs.length 0 lo)).take (HT.sIx xs.length xs.length hi-HT.sIx xs.length 0 lo)
structure CA(T:Tb)(E:St->XK)(X:Cx):Prop where
 hK:X.K=T.K
 pass:kL (cU X.prog X.w) X E
abbrev EN:St->XK:=λ_=>E0
def CA.nox{T:Tb}{E:St->XK}{X:Cx}(c:CA T E X):CA T EN X.nox:=(⟨c.hK,λ_ _ _ _ _ _ _ h=>by
 obtain⟨_,_,_,_,_,_,_,_,_,_,_,_,_,_,_,_,q⟩:=h;exact q.elim⟩)
def CA.never{T:Tb}{X:Cx}(hK:X.K=T.K):CA T EN X:=(⟨hK,λ_ _ _ _ _ _ _ h=>by
 obtain⟨_,_,_,_,_,_,_,_,_,_,_,_,_,_,_,_,q⟩:=h;exact q.elim⟩)
section
variable{T:Tb}{ι:Ix}{h:AH}{H:Hp}
def gC{x:AV}{u:V}{xs:List AV}(S:Sim T ι h H)(r:RV T ι H x u)(e:d8 x h=some xs):∃ a us,u=.ref a/\SqL T.K H a us/\RVs T ι H xs us:=by
 unfold d8 at e
 cases r with
 |fl n q r=>cases e;exact⟨_,_,rfl,.inl q,r⟩
 |kfl q r=>cases e;exact⟨_,_,rfl,.inr q,r⟩
 |@ref k a q =>
  dsimp only at e;split at e
  ·rename_i ys hk
   cases e
   obtain⟨u,e1,us,rfl,r⟩:=S.obj k _ a hk q;exact⟨a,us,rfl,.inl (.inl e1),r⟩
  ·cases e
 |_=>cases e
def kR{u:V}{xs:List AV}(r:RV T ι H (.tup xs) u):∃ a us,u=.ref a/\SqT T.K H a us/\RVs T ι H xs us:=by
 cases r with
 |tup n q r=>exact⟨_,_,rfl,.of q,r⟩
def eR{u:V}{x:Str}(r:RV T ι H (.str x) u):u=.str x/\x.length<=sizeLine/\x.cps.all (· < 0x110000)=true:=by
 cases r with
 |str n o=>exact⟨rfl,n,o⟩
def bE{u:V}{i:Int}(r:RV T ι H (.int i) u):u=.int i:=by cases r;rfl
def fU{u:V}{i:Bool}(r:RV T ι H (.bl i) u):u=.bl i:=by cases r;rfl
def qI{u:V}(r:RV T ι H .non u):u=.non:=by cases r;rfl
def qJ{us:List V}{xs:List AV}{p:ZE}{E:XK}{Q:VK}(S:Sim T ι h H)(r:RVs T ι H xs us)(n:H p=none)(q:Post T ι H E (RV T) (.ok (.fl xs) h) Q):Q (.ref p) (upd H p (.lst us)) :=(
 q ι _ _ (S.growNew n) (S.new n) (.fl (S.fresh n) (.inl dQ) (r.mono (S.growNew n))))
def uN{us:List V}{xs:List AV}{p:ZE}{E:XK}{Q:VK}(S:Sim T ι h H)(r:RVs T ι H xs us)(n:H p=none)(q:Post T ι H E (RV T) (.ok (.tup xs) h) Q):Q (.ref p) (upd H p (.tup us)) :=(
 q ι _ _ (S.growNew n) (S.new n) (.tup (S.fresh n) dQ (r.mono (S.growNew n))))
def Ia{us:List V}{xs:List AV}{p:ZE}{E:XK}{Q:VK}(S:Sim T ι h H)(r:RVs T ι H xs us)(n:H p=none)(q:Post T ι H E (RV T) (.ok (.ref h.length) (h++[.lst xs])) Q):Q (.ref p) (upd H p (.lst us)) :=(
 q _ _ _ (S.growAdd n) (S.add n ⟨us,rfl,r.mono (S.growAdd n)⟩) (.ref S.addAt))
end
section
variable{T:Tb}{E:St->XK}{X:Cx}{pos:Pos}
def ar (i:Nat) {x:Str} {p:Pos} (hN:‹X.N[i]?=some x›) (hv:autoParam (nV X.env.scope x) L2.pv._auto_1) (hd:((x == ("__debug__" : Str))=false)⁻¹)
  (hcd:((x == ("__classdict__" : Str))=false)⁻¹):aF T E X (.Name x p) (aa i) :=(
 bO (pv i hN hv hd hcd) λσ H Q=>E6x λι h en S er q=>by
  unfold aa at q;split at q
  ·rename_i v hv
   obtain⟨u,e,r⟩:=er.2 i v hv;exact⟨u,e,q.now S r⟩
  ·exact q.elim)
def aO{i j p}:aF T E X (.Constant (.int i) j p) (ae (.int i)):=(bO DC λσ H Q=>E6x λι h en S er q=>q.now S (.int i))
def cH{i j p}:aF T E X (.Constant (.bool i) j p) (ae (.bl i)):=(bO DD λσ H Q=>E6x λι h en S er q=>q.now S (.bl i))
def oA{j p}:aF T E X (.Constant .none j p) (ae .non):=(bO DE λσ H Q=>E6x λι h en S er q=>q.now S .non)
def aL{x j p}(n:x.length<=sizeLine:=by decide +kernel)(o:autoParam (x.cps.all (· < 0x110000)=true) aL._auto_1):aF T E X (.Constant (.str x) j p) (ae (.str x)):=(bO DF λσ H Q=>E6x λι h en S er q=>q.now S (.str n o))
def Ib {x:Str} {i:Int} {t:Tok} {p:Pos} (hg:Gl X x) (hm:X.mg x=some (.int i t)) (hd:((x == ("__debug__" : Str))=false)⁻¹):aF T E X (.Name x p) (ae (.int i)) :=(
 bO (qg (v:=.int i) hg hm ⟨t,rfl⟩ hd) λσ H Q=>E6x λι h en S er q=>q.now S (.int i))
def mL(T:Tb)(f:F2)(r:R2):Prop:=∀ (ι:Ix) (h:AH) (H:Hp) (x y:AV) (u w:V) (E:XK) (Q:VK),Sim T ι h H->RV T ι H x u->RV T ι H y w->Post T ι H E (RV T) (f x y h) Q->r u w H Q
def Op(T:Tb)(X:Cx)(g:ZC->ZC->Sem ZC)(f:F2):Prop:=∃ r,OpR X g r/\mL T f r
variable{a b c:Expr}{sa sb sc:SE}
def uO{f:F2}{r:R2}(hs:mL T f r){σ:St}{H:Hp}{Q:VK}(q:tE T E (ah f sa sb) σ H Q):mG r (tE T E sa) (tE T E sb) σ H Q:=by
 obtain⟨ι,h,en,S,er,q⟩:=q;refine⟨ι,h,en,S,er,q.bind λx h1 ι1 H1 u g1 S1 r1 q1=>⟨ι1,h1,en,S1,er.mono g1,q1.bind λy h2 ι2 H2 w g2 S2 r2 q2=>?_⟩⟩
 exact hs ι2 h2 H2 x y u w _ Q S2 (r1.mono g2) r2 q2
def gj{op:Operator}{f:F2}(ho:Op T X (binaryOp op) f)(ha:aF T E X a sa)(hb:aF T E X b sb):aF T E X (.BinOp a op b pos) (ah f sa sb):=by
 obtain⟨r,h1,h2⟩:=ho;exact bO (EA h1 ha hb) λσ H Q q=>uO h2 q
def Ic{i j:Str}(hi:i.cps.all (· < 0x110000)=true)(hj:j.cps.all (· < 0x110000)=true):(i++j).cps.all (· < 0x110000)=true:=by
 show (i.cps++j.cps).all _=true
 rw[Array.all_append,hi,hj];rfl
def Ie(i j:Str):(i++j).length=i.length+j.length:=by
 show (i.cps++j.cps).size=_
 rw[Array.size_append];rfl
def i5(hK:X.K=T.K):Op T X (binaryOp .Add) aB:=by
 refine⟨_,op_add.or (zgu.or (zjr.or HA)),λι h H x y u w E Q S rx ry p=>?_⟩
 unfold aB at p;split at p
 ·rw[bE rx,bE ry]
  exact .inl ⟨_,_,rfl,rfl,p.now S (.int _)⟩
 ·split at p
  ·rename_i hz
   obtain⟨rfl,_,o1⟩:=eR rx;obtain⟨rfl,_,o2⟩:=eR ry;exact .inr (.inl ⟨_,_,rfl,rfl,hz,p.now S (.str (by rw[Ie];exact hz) (Ic o1 o2))⟩)
  ·exact p.elim
 ·split at p
  ·rename_i hz
   obtain⟨a,us,rfl,q1,r1⟩:=kR rx;obtain⟨b,ws,rfl,q2,r2⟩:=kR ry;refine .inr (.inr (.inl ⟨a,b,us,ws,rfl,rfl,hK▸q1,hK▸q2,λz=>hz.1 ?_,by rw[<- r1.length,<- r2.length];exact hz.2,λz=>?_,λ_ l n=>uN S (r1.append r2) n p⟩))
   ·subst z;cases r1;rfl
   ·subst z;cases r2
    rw[Qo] at p;exact p.now S rx
  ·exact p.elim
 ·split at p
  ·split at p
   ·rename_i e1 e2 hz
    obtain⟨a,us,rfl,q1,r1⟩:=gC S rx e1;obtain⟨b,ws,rfl,q2,r2⟩:=gC S ry e2;exact .inr (.inr (.inr ⟨a,b,us,ws,rfl,rfl,hK▸q1,hK▸q2,by rw[<- r1.length,<- r2.length];exact hz,λl n=>qJ S (r1.append r2) n p⟩))
   ·exact p.elim
  ·exact p.elim
def uP:Op T X (binaryOp .Sub) bN:=by
 refine⟨_,EC,λι h H x y u w E Q S rx ry p=>?_⟩
 unfold bN at p;split at p
 ·rw[bE rx,bE ry]
  exact⟨_,_,rfl,rfl,p.now S (.int _)⟩
 ·exact p.elim
def yY{i:Int}(h:i.natAbs<2 ^ 4000):Builtin.Int.intBits i<=2 ^ 20:=by
 unfold Builtin.Int.intBits;split
 ·exact OH _
 ·rename_i hz
  have h0:i.natAbs≠0:=λz=>hz (by simpa using z)
  have:i.natAbs.log2<4000:=(Nat.log2_lt h0).mpr h
  exact Oc (by lia:i.natAbs.log2+1<=4001) 'd'
def Ig:Op T X (binaryOp .Mult) bq:=by
 refine⟨_,GZ,λι h H x y u w E Q S rx ry p=>?_⟩
 unfold bq at p;split at p
 ·split at p
  ·rename_i hz
   rw[bE rx,bE ry];exact⟨_,_,rfl,rfl,hz.elim (λz=>CMul.ok (z.elim (λz=>.inl ⟨by lia,by lia⟩) (λz=>.inr ⟨by lia,by lia⟩))) (λz=>.of_bits (yY z.1) (yY z.2)),p.now S (.int _)⟩
  ·exact p.elim
 ·exact p.elim
def yZ:Op T X (binaryOp .FloorDiv) cQ:=by
 refine⟨_,GY,λι h H x y u w E Q S rx ry p=>?_⟩
 unfold cQ at p;split at p
 ·split at p
  ·rename_i hz
   rw[bE rx,bE ry];exact⟨_,_,rfl,rfl,⟨hz.1,by lia⟩,p.now S (.int _)⟩
  ·exact p.elim
 ·exact p.elim
def Ih:Op T X (binaryOp .Mod) bH:=by
 refine⟨_,ED,λι h H x y u w E Q S rx ry p=>?_⟩
 unfold bH at p;split at p
 ·split at p
  ·rename_i hz
   rw[bE rx,bE ry];exact⟨_,_,rfl,rfl,hz,p.now S (.int _)⟩
  ·exact p.elim
 ·exact p.elim
def y4:Op T X (binaryOp .Pow) b9:=by
 refine⟨_,EE,λι h H x y u w E Q S rx ry p=>?_⟩
 unfold b9 at p;split at p
 ·split at p
  ·rename_i hz
   rw[bE rx,bE ry];exact⟨_,_,rfl,rfl,hz,p.now S (.int _)⟩
  ·exact p.elim
 ·exact p.elim
def kS(ha:aF T E X a sa):aF T E X (.UnaryOp .USub a pos) (bZ bh sa) :=(
 bO (EB EG ha) λσ H Q=>E6x λι h en S er q=>⟨ι,h,en,S,er,q.bind λx h1 ι1 H1 u g1 S1 r1 q1=>by
  unfold bh at q1;split at q1
  ·rw[bE r1]
   exact⟨_,rfl,q1.now S1 (.int _)⟩
  ·exact q1.elim⟩)
def Ii{ds:List PyData}(h:∀ d∈ds,d.canLay0=true):PyData.canLayAll0 ds=true:=by
 induction ds with
 |nil=>rfl
 |cons d r ih=>show (d.canLay0 && PyData.canLayAll0 r)=true;rw[h d 's',ih λe he=>h e (by simp[he])];rfl
def Ij{n:Nat}{ds:List PyData}(h:∀ d∈ds,d.depth<=n):PyData.depthAll ds<=n:=by
 induction ds with
 |nil=>exact OH _
 |cons d r ih=>show max d.depth (PyData.depthAll r)<=n;have:=h d 's';have:=ih λe he=>h e (by simp[he]);lia
section
variable{ι:Ix}{h:AH}{H:Hp}
theorem oB{f:AV->Option PyData}{n:Nat}(hf:∀ {x:AV} {u:V} {d:PyData},RV T ι H x u->f x=some d->DaV T.K H u d/\d.canLay0=true/\d.depth<=n) :
  ∀ {xs:List AV} {us:List V} {ds:List PyData},RVs T ι H xs us->bu f xs=some ds->DaVs T.K H us ds/\∀ d∈ds,d.canLay0=true/\d.depth<=n
 |_,_,ds,.nil,e=>by cases e;exact⟨.nil,by simp⟩
 |_,_,ds,.cons (x:=x) (xs:=xs) r rs,e=>by
  unfold bu at e;split at e
  ·rename_i d ds' e1 e2
   cases e
   obtain⟨q1,q2⟩:=hf r e1;obtain⟨q3,q4⟩:=oB hf rs e2;refine⟨.cons q1 q3,λd hd=>?_⟩
   rcases Ov.mp hd with rfl|hd
   ·exact q2
   ·exact q4 d hd
  ·cases e
theorem i6(S:Sim T ι h H):∀ (n:Nat) {x:AV} {u:V} {d:PyData},RV T ι H x u->bj n h x=some d->DaV T.K H u d/\d.canLay0=true/\d.depth<=n
 |0,x,u,d,r,e=>by
  unfold bj at e
  cases r with
  |non=>cases e;exact⟨.non,rfl,Oa _⟩
  |bl b=>cases e;exact⟨.bl b,rfl,Oa _⟩
  |int b=>cases e;exact⟨.int b,rfl,Oa _⟩
  |str a b=>cases e;exact⟨.str _,b,Oa _⟩
  |_=>cases e
 |n+1,x,u,d,r,e=>by
  unfold bj at e;have many:∀ {xs:List AV} {us:List V} {ds:List PyData},RVs T ι H xs us->bu (bj n h) xs=some ds->DaVs T.K H us ds/\∀ d∈ds,d.canLay0=true/\d.depth<=n:=λr e=>oB (λr e=>i6 S n r e) r e
  have fin:∀ {ds:List PyData},(∀ d∈ds,d.canLay0=true/\d.depth<=n)->PyData.canLayAll0 ds=true/\PyData.depthAll ds+1<=n+1:=λq=>⟨Ii λd hd=>(q d hd).1,Nat.succ_le_succ (Ij λd hd=>(q d hd).2)⟩
  cases r with
  |non=>cases e;exact⟨.non,rfl,OH _⟩
  |bl b=>cases e;exact⟨.bl b,rfl,OH _⟩
  |int b=>cases e;exact⟨.int b,rfl,OH _⟩
  |str a b=>cases e;exact⟨.str _,b,OH _⟩
  |tup k q r =>
   obtain⟨ds,e1,rfl⟩:=Ow.mp e;obtain⟨q1,q2⟩:=many r e1;exact⟨.tup (.of q) q1,fin q2⟩
  |fl k q r =>
   obtain⟨ds,e1,rfl⟩:=Ow.mp e;obtain⟨q1,q2⟩:=many r e1;exact⟨.lst (.inl q) q1,fin q2⟩
  |kfl q r =>
   obtain⟨ds,e1,rfl⟩:=Ow.mp e;obtain⟨q1,q2⟩:=many r e1;exact⟨.lst (.inr q) q1,fin q2⟩
  |@ref k a q =>
   dsimp only at e;split at e
   ·rename_i ys hk
    obtain⟨ds,e1,rfl⟩:=Ow.mp e;obtain⟨u,e2,us,rfl,r⟩:=S.obj k _ a hk q;obtain⟨q1,q2⟩:=many r e1;exact⟨.lst (.inl (.inl e2)) q1,fin q2⟩
   ·cases e
  |exc _ _ _=>cases e
end
def Ik{i j:Int}:decide (V.int i=V.int j)=decide (i=j):=by rw[Py];simp
def Il{i j:Str}:decide (V.str i=V.str j)=decide (i=j):=by rw[Py];simp
def Im{i j:Bool}:decide (V.bl i=V.bl j)=decide (i=j):=by rw[Py];simp
def y6{r:R2}{neg:Bool}(ho:OpR X g r)(h1:∀ x y H Q,(kF x y=true/\Q (.bl (if neg then !decide (x=y) else decide (x=y))) H)->r x y H Q)
  (h2:∀ x y H Q,(∃ d e,DaV T.K H x d/\DaV T.K H y e/\d.canLay0=true/\e.canLay0=true/\d.depth<=60/\Q (.bl (if neg then !PyData.eqv d e else PyData.eqv d e)) H)->r x y H Q) :
  mL T (λx y h=>match gc x y h with|some b=>.ok (.bl (if neg then !b else b)) h|none=>.bad) r:=by
 intro ι h H x y u w E Q S rx ry p;dsimp only at p
 cases hb:gc x y h with
 |none=>rw[hb] at p;exact p.elim
 |some b =>
  rw[hb] at p;dsimp only at p
  unfold gc at hb;split at hb
  ·cases hb
   rw[bE rx,bE ry];exact h1 _ _ _ _ ⟨rfl,by rw[Ik];exact p.now S (.bl _)⟩
  ·cases hb
   obtain⟨rfl,_⟩:=eR rx;obtain⟨rfl,_⟩:=eR ry;exact h1 _ _ _ _ ⟨rfl,by rw[Il];exact p.now S (.bl _)⟩
  ·cases hb
   rw[fU rx,fU ry];exact h1 _ _ _ _ ⟨rfl,by rw[Im];exact p.now S (.bl _)⟩
  ·cases hb
   rw[qI rx,qI ry];exact h1 _ _ _ _ ⟨rfl,by rw[show decide (V.non=V.non)=true from rfl];exact p.now S (.bl _)⟩
  ·split at hb
   ·rename_i d e e1 e2
    cases hb
    obtain⟨q1,q2,q3⟩:=i6 S 8 rx e1;obtain⟨q4,q5,q6⟩:=i6 S 8 ry e2;exact h2 _ _ _ _ ⟨d,e,q1,q4,q2,q5,by lia,p.now S (.bl _)⟩
   ·cases hb
def cw(hK:X.K=T.K)(hu:X.A.units+64<cLine):Op T X (compareOp .Eq) az :=(
 ⟨_,op_eq.or (yN hu),y6 (neg:=false) (op_eq.or (yN hu)) (λ_ _ _ _ q=>.inl q) λ_ _ _ _ q=>.inr (hK▸q)⟩)
def c9(hK:X.K=T.K)(hu:X.A.units+64<cLine):Op T X (compareOp .NotEq) bS :=(
 ⟨_,op_ne.or (yO hu),y6 (neg:=true) (op_ne.or (yO hu)) (λ_ _ _ _ q=>.inl q) λ_ _ _ _ q=>.inr (hK▸q)⟩)
def kT:Op T X (compareOp .Lt) fq:=by
 refine⟨_,op_lt.or EL,λι h H x y u w E Q S rx ry p=>?_⟩
 unfold fq at p;split at p
 ·rw[bE rx,bE ry]
  exact .inl ⟨_,_,rfl,rfl,p.now S (.bl _)⟩
 ·obtain⟨rfl,_⟩:=eR rx
  obtain⟨rfl,_⟩:=eR ry;exact .inr ⟨_,_,rfl,rfl,p.now S (.bl _)⟩
 ·exact p.elim
def eT:Op T X (compareOp .LtE) aY:=by
 refine⟨_,op_le.or GT,λι h H x y u w E Q S rx ry p=>?_⟩
 unfold aY at p;split at p
 ·rw[bE rx,bE ry]
  exact .inl ⟨_,_,rfl,rfl,p.now S (.bl _)⟩
 ·obtain⟨rfl,_⟩:=eR rx
  obtain⟨rfl,_⟩:=eR ry;exact .inr ⟨_,_,rfl,rfl,p.now S (.bl _)⟩
 ·exact p.elim
def iF:Op T X (compareOp .Gt) dN:=by
 refine⟨_,EJ,λι h H x y u w E Q S rx ry p=>?_⟩
 unfold dN at p;split at p
 ·rw[bE rx,bE ry]
  exact⟨_,_,rfl,rfl,p.now S (.bl _)⟩
 ·exact p.elim
def uQ:Op T X (compareOp .GtE) jY:=by
 refine⟨_,EK,λι h H x y u w E Q S rx ry p=>?_⟩
 unfold jY at p;split at p
 ·rw[bE rx,bE ry]
  exact⟨_,_,rfl,rfl,p.now S (.bl _)⟩
 ·exact p.elim
def RV.non_iff{ι:Ix}{H:Hp}{x:AV}{u:V}(r:RV T ι H x u):decide (x=.non)=decide (u=.non):=by
 exact decide_eq_decide.mpr ⟨λz=>by subst z;cases r;rfl,λz=>by subst z;cases r;rfl⟩
def uR:Op T X (compareOp .Is) jo:=by
 refine⟨_,EM,λι h H x y u w E Q S rx ry p=>?_⟩
 unfold jo at p;split at p
 ·refine⟨qI ry,?_⟩
  rw[<- rx.non_iff];exact p.now S (.bl _)
 ·exact p.elim
def gD{op:CmpOp}{f:F2}(ho:Op T X (compareOp op) f)(ha:aF T E X a sa)(hb:aF T E X b sb)(hm:behindInMarks op b=false):aF T E X (.Compare a [op] [b] pos) (ah f sa sb):=by
 obtain⟨r,h1,h2⟩:=ho;exact bO (EO h1 ha hb hm) λσ H Q q=>uO h2 q
def cy{op:CmpOp}{f:F2}(ho:Op T X (compareOp op) f)(ha:aF T E X a sa)(hb:aF T E X b sb)(hm:behindInMarks op b=false):gQ T E X (.Compare a [op] [b] pos) (aC (ah f sa sb)):=by
 obtain⟨r,h1,h2⟩:=ho;refine ox (ES h1 ha hb hm) λσ H Q q=>uO (E:=E) (Q:=λx H'=>∃ k,x=V.bl k/\Q k H') h2 ?_
 obtain⟨ι,h,en,S,er,q⟩:=q;refine⟨ι,h,en,S,er,q.bind λx h1 ι1 H1 u g1 S1 r1 q1=>?_⟩
 split at q1
 ·rw[fU r1]
  exact⟨_,rfl,q1.now S1 rfl⟩
 ·exact q1.elim
def y8{f f':F2}{r r':R2}(hs:mL T f r)(hs':mL T f' r'){σ:St}{H:Hp}{Q:VK}(q:tE T E (fu f f' sa sb sc) σ H Q):tZ r r' (tE T E sa) (tE T E sb) (tE T E sc) σ H Q:=by
 obtain⟨ι,h,en,S,er,q⟩:=q;refine⟨ι,h,en,S,er,q.bind λx h1 ι1 H1 u g1 S1 r1 q1=>⟨ι1,h1,en,S1,er.mono g1,q1.bind λy h2 ι2 H2 w g2 S2 r2 q2=>?_⟩⟩
 refine hs ι2 h2 H2 x y u w (E σ) _ S2 (r1.mono g2) r2 (q2.bind λz h3 ι3 H3 k g3 S3 r3 q3=>?_)
 split at q3
 ·rename_i kk
  rw[fU r3];refine⟨kk,rfl,?_⟩
  by_cases hkk:kk=true
  ·rw[Of hkk] at q3 ⊢
   refine⟨ι3,h3,en,S3,er.mono (g1.trans (g2.trans g3)),q3.bind λv h4 ι4 H4 j g4 S4 r4 q4=>?_⟩
   exact hs' ι4 h4 H4 y v w j _ Q S4 (r2.mono (g3.trans g4)) r4 q4
  ·rw[Og hkk] at q3 ⊢
   exact q3.now S3 (.bl _)
 ·exact q3.elim
def y9{op op':CmpOp}{f f':F2}(ho:Op T X (compareOp op) f)(ho':Op T X (compareOp op') f')(ha:aF T E X a sa)(hb:aF T E X b sb)(hc:aF T E X c sc)(hm:autoParam (lastMarks [op,op'] [b,c]=false) L2.ET._auto_1) :
  aF T E X (.Compare a [op,op'] [b,c] pos) (fu f f' sa sb sc):=by
 obtain⟨r,h1,h2⟩:=ho;obtain⟨r',h1',h2'⟩:=ho';exact bO (ET h1 h1' ha hb hc hm) λσ H Q q=>y8 h2 h2' q
def Io{op op':CmpOp}{f f':F2}(ho:Op T X (compareOp op) f)(ho':Op T X (compareOp op') f')(ha:aF T E X a sa)(hb:aF T E X b sb)(hc:aF T E X c sc)(hm:autoParam (lastMarks [op,op'] [b,c]=false) L2.ET._auto_1) :
  gQ T E X (.Compare a [op,op'] [b,c] pos) (aC (fu f f' sa sb sc)):=by
 obtain⟨r,h1,h2⟩:=ho;obtain⟨r',h1',h2'⟩:=ho';refine ox (EU h1 h1' ha hb hc hm) λσ H Q q=>y8 (E:=E) (Q:=λx H'=>∃ k,x=V.bl k/\Q k H') h2 h2' ?_
 obtain⟨ι,h,en,S,er,q⟩:=q;refine⟨ι,h,en,S,er,q.bind λx h1 ι1 H1 u g1 S1 r1 q1=>?_⟩
 split at q1
 ·rw[fU r1]
  exact⟨_,rfl,q1.now S1 rfl⟩
 ·exact q1.elim
def za{ι:Ix}{h:AH}{H:Hp}{v:AV}{u:V}{k:Bool}(S:Sim T ι h H)(r:RV T ι H v u)(e:jq v h=some k):je T.K u H k:=by
 unfold jq at e
 cases r with
 |non=>cases e;rfl
 |bl b=>cases e;rfl
 |int b=>cases e;rfl
 |str n o=>cases e;exact⟨n,rfl⟩
 |tup n q r=>cases e;exact .inr (.inl ⟨_,.of q,by cases r<;>rfl⟩)
 |fl n q r=>cases e;exact .inl ⟨_,.inl q,by cases r<;>rfl⟩
 |kfl q r=>cases e;exact .inl ⟨_,.inr q,by cases r<;>rfl⟩
 |@ref n a q =>
  dsimp only at e;split at e
  ·rename_i xs hk
   cases e
   obtain⟨u,e1,us,rfl,r⟩:=S.obj n _ a hk q;exact .inl ⟨us,.inl (.inl e1),by cases r<;>rfl⟩
  ·rename_i xs hk
   cases e
   obtain⟨u,e1,us,rfl,r⟩:=S.obj n _ a hk q;exact .inr (.inr ⟨us,e1,by cases r<;>rfl⟩)
  ·cases e
 |exc _ _ _=>cases e
def qK(hK:X.K=T.K)(ha:aF T E X a sa)(he:autoParam (∀ whole,isTrue a X.env whole=(do let v <- whole;standAt a.pos;holding [v] (truthy v))) L2.Eh._auto_1):gQ T E X a (gA sa) :=(
 ox (EW ha he) λσ H Q=>E6x λι h en S er q=>⟨ι,h,en,S,er,q.bind λx h1 ι1 H1 u g1 S1 r1 q1=>by
  split at q1
  ·rename_i b hb
   exact⟨b,hK▸za S1 r1 hb,q1.now S1 rfl⟩
  ·exact q1.elim⟩)
variable{ca cb:SB}{rest:List Expr}
def oC(ha:gQ T E X a ca):gQ T E X (.UnaryOp .Not a pos) (cG ca) :=(
 ox (DQ ha) λσ H Q=>E6x λι h en S er q=>⟨ι,h,en,S,er,q.bind λx h1 ι1 H1 u g1 S1 r1 q1=>by subst r1;exact q1.now S1 rfl⟩)
def fG(h:kM T E X a ca):gQ T E X a ca:=(PW.pt h)
def uS(ha:gQ T E X a ca):kM T E X (.BoolOp .And [a] pos) ca:=(DL ha)
def oE(ha:gQ T E X a ca):kM T E X (.BoolOp .Or [a] pos) ca:=(DM ha)
def qL(ha:gQ T E X a ca)(hb:kM T E X (.BoolOp .And (b::rest) pos) cb):kM T E X (.BoolOp .And (a::b::rest) pos) (dS ca cb) :=(
 yU (DO ha hb) λσ H Q=>E6x λι h en S er q=>⟨ι,h,en,S,er,q.bind λx h1 ι1 H1 u g1 S1 r1 q1=>by
  subst r1;by_cases hx:x=true
  ·rw[Of hx] at q1 ⊢
   exact⟨ι1,h1,en,S1,er.mono g1,q1⟩
  ·rw[Og hx] at q1 ⊢
   exact q1.now S1 rfl⟩)
def mO(ha:gQ T E X a ca)(hb:kM T E X (.BoolOp .Or (b::rest) pos) cb):kM T E X (.BoolOp .Or (a::b::rest) pos) (jZ ca cb) :=(
 yU (DP ha hb) λσ H Q=>E6x λι h en S er q=>⟨ι,h,en,S,er,q.bind λx h1 ι1 H1 u g1 S1 r1 q1=>by
  subst r1;by_cases hx:x=true
  ·rw[Of hx] at q1 ⊢
   exact q1.now S1 rfl
  ·rw[Og hx] at q1 ⊢
   exact⟨ι1,h1,en,S1,er.mono g1,q1⟩⟩)
def jv{op}(h:aF T E X a sa):aF T E X (.BoolOp op [a] pos) sa:=(DT h)
def uT(ha:aF T E X a sa)(hb:aF T E X (.BoolOp .And (b::rest) pos) sb):aF T E X (.BoolOp .And (a::b::rest) pos) (jr sa sb) :=(
 bO (DV ha hb) λσ H Q=>E6x λι h en S er q=>⟨ι,h,en,S,er,q.bind λx h1 ι1 H1 u g1 S1 r1 q1=>by
  split at q1
  ·rename_i kk
   rw[fU r1];refine⟨kk,rfl,?_⟩
   by_cases hkk:kk=true
   ·rw[Of hkk] at q1 ⊢
    exact⟨ι1,h1,en,S1,er.mono g1,q1⟩
   ·rw[Og hkk] at q1 ⊢
    exact q1.now S1 (.bl _)
  ·exact q1.elim⟩)
def jw(ha:aF T E X a sa)(hb:aF T E X (.BoolOp .Or (b::rest) pos) sb):aF T E X (.BoolOp .Or (a::b::rest) pos) (fB sa sb) :=(
 bO (DW ha hb) λσ H Q=>E6x λι h en S er q=>⟨ι,h,en,S,er,q.bind λx h1 ι1 H1 u g1 S1 r1 q1=>by
  split at q1
  ·rename_i kk
   rw[fU r1];refine⟨kk,rfl,?_⟩
   by_cases hkk:kk=true
   ·rw[Of hkk] at q1 ⊢
    exact q1.now S1 (.bl _)
   ·rw[Og hkk] at q1 ⊢
    exact⟨ι1,h1,en,S1,er.mono g1,q1⟩
  ·exact q1.elim⟩)
def qM(ha:aF T E X a sa):aF T E X (.UnaryOp .Not a pos) (jt sa) :=(
 bO (DX ha) λσ H Q=>E6x λι h en S er q=>⟨ι,h,en,S,er,q.bind λx h1 ι1 H1 u g1 S1 r1 q1=>by
  split at q1
  ·rw[fU r1]
   exact⟨_,rfl,q1.now S1 (.bl _)⟩
  ·exact q1.elim⟩)
variable{es:List Expr}{as:SL}
def aA:fT T E X [] af:=(yV oa λσ H Q=>E6x λι h en S er q=>q.now S .nil)
def ak(ha:aF T E X a sa)(hr:fT T E X es as)(hs:‹starEach (a::es) X.env=(false,eval a X.env)::starEach es X.env›):fT T E X (a::es) (ai sa as) :=(
 yV (jV ha hr hs) λσ H Q=>E6x λι h en S er q=>⟨ι,h,en,S,er,q.bind λx h1 ι1 H1 u g1 S1 r1 q1=>⟨ι1,h1,en,S1,er.mono g1,q1.bind λxs h2 ι2 H2 us g2 S2 r2 q2=>q2.now S2 (.cons (r1.mono g2) r2)⟩⟩)
def cf{k}(h:fT T E X es as):aF T E X (.Tuple es k pos) (aG as) :=(
 bO (Fj h) λσ H Q=>E6x λι h en S er q=>⟨ι,h,en,S,er,q.bind λxs h1 ι1 H1 us g1 S1 r1 q1=>by
  split at q1
  ·rename_i hl
   exact⟨by rw[<- r1.length];exact Oc hl 'd',λp n=>uN S1 r1 n q1⟩
  ·exact q1.elim⟩)
def dC(h:fT T E X es as):aF T E X (.List es pos) (aM as) :=(
 bO (ud h) λσ H Q=>E6x λι h en S er q=>⟨ι,h,en,S,er,q.bind λxs h1 ι1 H1 us g1 S1 r1 q1=>by
  split at q1
  ·rename_i hl
   exact⟨by rw[<- r1.length];exact Oc hl 'd',λp n=>qJ S1 r1 n q1⟩
  ·exact q1.elim⟩)
def oF(h:fT T E X es as):aF T E X (.List es pos) (gb as) :=(
 bO (ud h) λσ H Q=>E6x λι h en S er q=>⟨ι,h,en,S,er,q.bind λxs h1 ι1 H1 us g1 S1 r1 q1=>by
  split at q1
  ·rename_i hl
   exact⟨by rw[<- r1.length];exact Oc hl 'd',λp n=>Ia S1 r1 n q1⟩
  ·exact q1.elim⟩)
def qN:aF T E X (.Dict [] [] pos) (fo false) :=(
 bO Gj λσ H Q ⟨ι,h,en,S,er,q⟩ p n=>q _ _ _ (S.growAdd n) (S.add n ⟨[],rfl,.nil⟩) (.ref S.addAt))
def Ip:aF T E X (.Dict [] [] pos) (fo true) :=(
 bO Gn λσ H Q ⟨ι,h,en,S,er,q⟩ p n=>q _ _ _ (S.growAdd n) (S.add n ⟨[],rfl,.nil⟩) (.ref S.addAt))
end
section
variable{T:Tb}{E:St->XK}{X:Cx}{pos:Pos}{a b:Expr}{sa sb:SE}{ca:SB}{st:Stmt}{sts ss1 ss2:List Stmt}{s1 s2:SS}
def df:cF T E X [] aK:=(yW DZ λD σ H=>E6x λι h en S er q=>q ι H σ S.refl S er)
def aP(h1:fZ T E X st s1)(h2:cF T E X sts s2):cF T E X (st::sts) (aj s1 s2) :=(
 yW (D6 h1 h2) λD σ H=>E6x λι h en S er q=>by
  refine⟨ι,h,en,S,er,?_⟩
  unfold aj at q
  cases e:s1 en h with
  |nx e1 h1 =>
   rw[e] at q;exactλι' H' σ' g S' er'=>⟨ι',h1,e1,S',er',q.shift g⟩
  |rt v h1=>rw[e] at q;exact q
  |bk e1 h1=>rw[e] at q;exact q
  |ct e1 h1=>rw[e] at q;exact q
  |ex c e1 h1=>rw[e] at q;exact q
  |bad=>rw[e] at q;exact q)
def bt(h1:fZ T E X st s1):cF T E X [st] s1:=(D8 h1)
def iG(ha:aF T E X a sa)(hs:‹swapsWith a none pos.line X.env=pure false›):fZ T E X (.Expr a pos) (bp sa) :=(
 gR (Ea ha hs) λD σ H=>E6x λι h en S er q=>⟨ι,h,en,S,er,q.go er λv h1 ι1 H1 u g1 S1 r1 q1=>q1 ι1 H1 σ S1.refl S1 (er.mono g1)⟩)
def cW(ha:aF T E X a sa):fZ T E X (.Return (some a) pos) (aq sa) :=(
 gR (Eb ha) λD σ H=>E6x λι h en S er q=>⟨ι,h,en,S,er,q.go er λv h1 ι1 H1 u g1 S1 r1 q1=>q1 ι1 H1 u S1.refl S1 r1⟩)
def bc(hc:gQ T E X a ca)(h1:cF T E X ss1 s1)(h2:cF T E X ss2 s2):fZ T E X (.If a ss1 ss2 pos) (aH ca s1 s2) :=(
 gR (Ec hc h1 h2) λD σ H=>E6x λι h en S er q=>⟨ι,h,en,S,er,q.go er λx h1 ι1 H1 u g1 S1 r1 q1=>by
  subst r1;by_cases hx:x=true
  ·rw[Of hx] at q1 ⊢
   exact⟨ι1,h1,en,S1,er.mono g1,q1⟩
  ·rw[Og hx] at q1 ⊢
   exact⟨ι1,h1,en,S1,er.mono g1,q1⟩⟩)
def zb{σ:St}{H:Hp}{D:cY}{i:Nat}(q:tS T E (aw i sa) D σ H):jc (tE T E sa) (mF i) D σ H:=by
 obtain⟨ι,h,en,S,er,q⟩:=q;exact⟨ι,h,en,S,er,q.go er λv h1 ι1 H1 u g1 S1 r1 q1=>q1 ι1 H1 _ S1.refl S1 ((er.mono g1).set r1 i)⟩
def bF{i:Nat}{x:Str}{p':Pos}(hN:X.N.Nodup)(ha:aF T E X a sa)(hi:‹X.N[i]?=some x›)(hx:kr X.env.scope x:=by first|exact Or.inl rfl|exact Or.inr rfl)(hs:‹swapsWith a (some (.Name x p')) pos.line X.env=pure false›)
  (hf:autoParam (X.fn x=true\/X.env.scope.names.lookup x=some .local) L2.xS._auto_1):fZ T E X (.Assign [.Name x p'] a pos) (aw i sa) :=(
 gR (Ei hN hi hx ha hs hf) λD σ H q=>zb q)
def zc(n:Nat)(hc:gQ T EN X.nox a ca)(hb:cF T EN X.nox sts s1):fZ T E X (.While a sts [] pos) (ig ca s1 n) :=(
 gR (yX (Ek PassesOwn.never hc hb)) λD σ H=>E6x λι h en S er q=>by
  refine⟨λm σ H=>∃ ι h en,Sim T ι h H/\ER T ι H en σ/\PostS T ι H E (ig ca s1 m en h) D,⟨n,ι,h,en,S,er,q⟩,?_⟩
  rintro m σ H ⟨ι,h,en,S,er,q⟩
  cases m with
  |zero=>exact(show False from q).elim
  |succ m =>
   unfold ig at q;refine⟨ι,h,en,S,er,?_⟩
   cases e:ca en h with
   |bad=>rw[e] at q;exact q
   |ex c h1=>rw[e] at q;exact(show False from q).elim
   |ok x h1 =>
    rw[e] at q;intro ι1 H1 u g1 S1 r1
    subst r1;have q1:=PostS.shift q g1
    cases x with
    |true =>
     rw[Of rfl];refine⟨λσ H=>∃ ι h en,Sim T ι h H/\ER T ι H en σ/\PostS T ι H E (ig ca s1 m en h) D,λσ' H' w=>⟨m,PX m,w⟩,ι1,h1,en,S1,er.mono g1,?_⟩
     dsimp only at q1
     cases e2:s1 en h1 with
     |nx e3 h3=>rw[e2] at q1;exactλι2 H2 σ2 g2 S2 er2=>⟨ι2,h3,e3,S2,er2,q1.shift g2⟩
     |ct e3 h3=>rw[e2] at q1;exactλι2 H2 σ2 g2 S2 er2=>⟨ι2,h3,e3,S2,er2,q1.shift g2⟩
     |bk e3 h3=>rw[e2] at q1;exact q1
     |rt v h3=>rw[e2] at q1;exact q1
     |ex c e3 h3=>rw[e2] at q1;exact(show False from q1).elim
     |bad=>rw[e2] at q1;exact q1
    |false =>
     rw[Og Ou];exact q1 ι1 H1 σ S1.refl S1 (er.mono g1))
theorem zd{ι:Ix}{H:Hp}:∀ {is:List Nat} {xs:List AV} {us:List V} {en e:En} {σ:St},RVs T ι H xs us->ER T ι H en σ->qF is xs en=some e->ER T ι H e ((is.zip us).foldl (λσ p=>σ.set p.1 (some p.2)) σ)/\us.length=is.length
 |[],_,_,en,e,σ,.nil,er,q=>by cases q;exact⟨er,rfl⟩
 |i::is,_,_,en,e,σ,.cons r rs,er,q=>by
  obtain⟨h1,h2⟩:=zd (is:=is) rs (er.set r i) q;exact⟨h1,by simp[h2]⟩
 |[],_,_,en,e,σ,.cons r rs,er,q=>by cases q
 |i::is,_,_,en,e,σ,.nil,er,q=>by cases q
def qO(T:Tb)(X:Cx)(tg:Expr)(t:Tg):Prop:=∃ g,PG X tg g/\∀ {ι:Ix} {h:AH} {H:Hp} {en e:En} {σ:St} {v:AV} {u:V} {Q:St->Hp->Prop},Sim T ι h H->ER T ι H en σ->RV T ι H v u->fC t v en=some e ->
 (∀ σ',ER T ι H e σ'->Q σ' H)->g u σ H Q
def uU{i:Nat}{x:Str}(hN:X.N.Nodup)(hi:‹X.N[i]?=some x›)(hx:autoParam (kr X.env.scope x) bF._auto_1)(hf:autoParam (X.fn x=true\/X.env.scope.names.lookup x=some .local) L2.xS._auto_1) :
  qO T X (.Name x pos) (.nm i):=(⟨_,tL hN hi hx hf,λS er r e k=>by cases e;exact k _ (er.set r i)⟩)
def jx(X:Cx)(es:List Expr)(is:List Nat):Prop:=kB X es (λvs σ H Q=>vs.length=is.length/\Q ((is.zip vs).foldl (λσ p=>σ.set p.1 (some p.2)) σ) H)
def ze{X:Cx}{es:List Expr}{t t':jT}(h:kB X es t)(k:∀ vs σ H Q,t' vs σ H Q->t vs σ H Q):kB X es t':=(λpins s σ H vs us Q I r q=>h pins s σ H vs us Q I r (k vs σ H Q q))
def qP:jx X [] []:=(ze Ee λvs σ H Q ⟨l,q⟩=>by
 cases vs with
 |nil=>exact⟨rfl,q⟩
 |cons=>cases l)
def jy{i:Nat}{is:List Nat}{x:Str}{p:Pos}{es:List Expr}(hN:X.N.Nodup)(hr:jx X es is)(hi:‹X.N[i]?=some x›)(hx:autoParam (kr X.env.scope x) bF._auto_1)
  (hf:autoParam (X.fn x=true\/X.env.scope.names.lookup x=some .local) L2.xS._auto_1)(hs:‹(assignEach (.Name x p::es) X.env).map (·.2)=assign (.Name x p) X.env::(assignEach es X.env).map (·.2)›):jx X (.Name x p::es) (i::is) :=(
 ze (Ef (tL hN hi hx hf) hr hs) λvs σ H Q ⟨l,q⟩=>by
  cases vs with
  |nil=>cases l
  |cons v r=>exact⟨v,r,rfl,Nat.succ.inj l,q⟩)
def qQ{es:List Expr}{is:List Nat}{k:Nat}(hK:X.K=T.K)(hc:X.calm=true)(h:jx X es is)(hn:‹(assignEach es X.env).length=is.length›)(hst:‹(assignEach es X.env).findIdx? (·.1)=none›):qO T X (.Tuple es k pos) (.tup is) :=(
 ⟨_,Eg hc h hn hst,λ{ι h H en e σ v u Q} S er r q k=>by
  unfold fC at q;split at q
  ·rename_i hh;cases hh
  ·rename_i hh
   cases hh
   obtain⟨a,us,rfl,q1,r1⟩:=kR r;obtain⟨h1,h2⟩:=zd r1 er q;exact⟨a,us,rfl,hK▸q1,h2,h2,k _ h1⟩
  ·rename_i hh;cases hh
  ·cases q⟩)
def zf{tg:Expr}{t:Tg}(ha:aF T E X a sa)(hg:qO T X tg t)(hs:‹swapsWithSole [tg] a pos.line X.env=pure false›)(hw:‹swappedStores [tg] a X.env=pure none›)
  (h1:‹(assignEach [tg] X.env).map (·.2)=[assign tg X.env]›):fZ T E X (.Assign [tg] a pos) (qG t sa):=by
 obtain⟨g,hg1,hg2⟩:=hg;refine gR (xT ha hg1 hs hw h1) λD σ H=>E6x λι h en S er q=>⟨ι,h,en,S,er,q.go er λv h1 ι1 H1 u g1 S1 r1 q1=>?_⟩
 split at q1
 ·rename_i e he
  exact hg2 S1 (er.mono g1) r1 he λσ' er'=>q1 ι1 H1 σ' S1.refl S1 er'
 ·exact q1.elim
structure oG(T:Tb)(J:It)(ι:Ix)(H:Hp)(ys:List AV)(L:AH->Bool):Prop where
 go:∀ (i:Nat) (ι':Ix) (h':AH) (H':Hp) (x:AV),Ext ι H ι' H'->Sim T ι' h' H'->L h'=true->ys[i]?=some x->J.go i H'/\∀ u H2,J.yld i H' u H2->Grow ι' H' ι' H2/\Sim T ι' h' H2/\RV T ι' H2 x u
 stop:∀ (i:Nat) (ι':Ix) (h':AH) (H':Hp),Ext ι H ι' H'->Sim T ι' h' H'->L h'=true->ys.length<=i->J.stop i H'
abbrev i7(T:Tb)(J:It)(ι:Ix)(H:Hp)(xs:List AV)(w:Option Nat):Prop:=oG T J ι H xs (gB w xs)
def tI(T:Tb)(it:SI):TI:=λσ H R=>∃ ι h en,Sim T ι h H/\ER T ι H en σ/\match it en h with
 |.ok (xs,w) h'=>∀ ι' H' J,Grow ι H ι' H'->Sim T ι' h' H'->i7 T J ι' H' xs w->R J H'
 |_=>False
abbrev kU(T:Tb)(X:Cx)(tg iter:Expr)(it:SI):Prop:=PI X tg iter (tI T it)
def qR{X:Cx}{tg iter:Expr}{t t':TI}(h:PI X tg iter t)(k:∀ σ H R,t' σ H R->t σ H R):PI X tg iter t':=(λpins s σ H R I q=>h pins s σ H R I (k σ H R q))
def PI.or{X:Cx}{tg iter:Expr}{t t':TI}(h:PI X tg iter t)(h':PI X tg iter t'):PI X tg iter (λσ H R=>t σ H R\/t' σ H R):=(λpins s σ H R I q=>q.elim (h pins s σ H R I) (h' pins s σ H R I))
def zg{ι:Ix}{H:Hp}{a:ZE}{us:List V}{xs:List AV}{K:ZA}(keep:∀ (ι':Ix) (H':Hp),Ext ι H ι' H'->SqL K H' a us)(r:RVs T ι H xs us):i7 T (qh K a) ι H xs none:=by
 constructor
 ·intro i ι' h' H' x g S _ e
  obtain⟨u,e1,r1⟩:=(r.ext g).get e;refine⟨⟨us,u,keep ι' H' g,e1⟩,?_⟩
  rintro u2 H2 ⟨rfl,y⟩
  have z:=y us (keep ι' _ g);rw[e1] at z;cases z
  exact⟨S.refl,S,r1⟩
 ·intro i ι' h' H' g S _ hl
  exact⟨us,keep ι' H' g,by rw[<- r.length];exact hl⟩
def Iq{ι:Ix}{H:Hp}{a:ZE}{us:List V}{xs:List AV}{K:ZA}(keep:∀ (ι':Ix) (H':Hp),Ext ι H ι' H'->SqT K H' a us)(r:RVs T ι H xs us):i7 T (tR K a) ι H xs none:=by
 constructor
 ·intro i ι' h' H' x g S _ e
  obtain⟨u,e1,r1⟩:=(r.ext g).get e;refine⟨⟨us,u,keep ι' H' g,e1⟩,?_⟩
  rintro u2 H2 ⟨rfl,y⟩
  have z:=y us (keep ι' _ g);rw[e1] at z;cases z
  exact⟨S.refl,S,r1⟩
 ·intro i ι' h' H' g S _ hl
  exact⟨us,keep ι' H' g,by rw[<- r.length];exact hl⟩
def Ir{ι:Ix}{H:Hp}{a:ZE}{n:Nat}{xs:List AV}{K:ZA}(e:ι.refs[n]?=some a):i7 T (qh K a) ι H xs (some n):=by
 have at_:∀ {ι':Ix} {h':AH} {H':Hp},Ext ι H ι' H'->Sim T ι' h' H'->gB (some n) xs h'=true->∃ us,H' a=some (.lst us)/\RVs T ι' H' xs us:=λ{ι' h' H'} g S l=>by
  unfold gB at l;dsimp only at l;split at l
  ·rename_i ys hy
   have z:=QF l;subst z;obtain⟨u,e1,us,rfl,r⟩:=S.obj n _ a hy (g.at_ e)
   exact⟨us,e1,r⟩
  ·cases l
 constructor
 ·intro i ι' h' H' x g S l e
  obtain⟨us,e0,r⟩:=at_ g S l;obtain⟨u,e1,r1⟩:=r.get e;refine⟨⟨us,u,.of e0,e1⟩,?_⟩
  rintro u2 H2 ⟨rfl,y⟩
  have z:=y us (.of e0);rw[e1] at z;cases z
  exact⟨S.refl,S,r1⟩
 ·intro i ι' h' H' g S l hl
  obtain⟨us,e0,r⟩:=at_ g S l;exact⟨us,.of e0,by rw[<- r.length];exact hl⟩
def Iu{ι:Ix}{H:Hp}{x:Str}(o:x.cps.all (· < 0x110000)=true):i7 T (ur x) ι H (x.cps.toList.map λc=>.str ⟨#[c]⟩) none:=by
 constructor
 ·intro i ι' h' H' y g S _ e
  rw[OI] at e;obtain⟨c,e1,rfl⟩:=Ow.mp e
  have hi:i<x.cps.size:=by
   have:=(NZ.mp e1).1;simpa using this
  refine⟨hi,?_⟩
  rintro u H2 ⟨rfl,c',e2,rfl⟩
  have z:x.cps[i]?=some c:=by simpa using e1
  rw[e2] at z;cases z
  refine⟨S.refl,S,.str (show 1<=sizeLine by decide) ?_⟩
  have m:=Array.mem_of_getElem? e2;have:=O9.mp o _ m;simpa using this
 ·intro i ι' h' H' g S _ hl
  show x.cps.size<=i
  simpa using hl
def Iv(n:Nat):∀ (lo:Int) (i:Nat),(dz lo n)[i]?=if i<n then some (.int (lo+i)) else none:=by
 induction n with
 |zero=>intro lo i;simp[dz]
 |succ n ih =>
  intro lo i
  cases i with
  |zero=>simp[dz]
  |succ i =>
   show (dz (lo+1) n)[i]?=_
   rw[ih];by_cases h:i<n
   ·rw[Of h,Of ⋯]
    congr 2
    show lo+1+(i:Int)=lo+((i+1:Nat):Int)
    lia
   ·rw[Og h,Og ⋯]
def Iw(n:Nat):∀ lo:Int,(dz lo n).length=n:=by
 induction n with
 |zero=>intro lo;rfl
 |succ n ih=>intro lo;show (dz (lo+1) n).length+1=n+1;rw[ih]
def Iy{ι:Ix}{H:Hp}{lo:Int}{n:Nat}:i7 T (qi lo n) ι H (dz lo n) none:=by
 constructor
 ·intro i ι' h' H' y g S _ e
  rw[Iv] at e;split at e
  ·rename_i hi
   cases e
   refine⟨hi,?_⟩
   rintro u H2 ⟨rfl,rfl⟩
   exact⟨S.refl,S,.int _⟩
  ·cases e
 ·intro i ι' h' H' g S _ hl
  rw[Iw] at hl;exact hl
theorem numbered_get:∀ (xs:List AV) (k i:Nat),(numbered k xs)[i]?=(xs[i]?).map λx=>.tup [.int ((k+i:Nat):Int),x]
 |[],k,i=>by simp[numbered]
 |x::xs,k,0=>by simp[numbered]
 |x::xs,k,i+1=>by
  show (numbered (k+1) xs)[i]?=_
  rw[numbered_get xs (k+1) i];show _=(xs[i]?).map _
  congr 1
  funext y
  rw[show k+1+i=k+(i+1) by lia]
theorem zh:∀ (xs:List AV) (k:Nat),(numbered k xs).length=xs.length
 |[],_=>rfl
 |x::xs,k=>by show (numbered (k+1) xs).length+1=_;rw[zh xs];rfl
def zi{ι:Ix}{H:Hp}{a:ZE}{us:List V}{xs:List AV}{K:ZA}(keep:∀ (ι':Ix) (H':Hp),Ext ι H ι' H'->SqL K H' a us)(r:RVs T ι H xs us):i7 T (uq K a) ι H (numbered 0 xs) none:=by
 constructor
 ·intro i ι' h' H' x g S _ e
  rw[numbered_get] at e;obtain⟨y,e0,rfl⟩:=Ow.mp e
  obtain⟨u,e1,r1⟩:=(r.ext g).get e0;refine⟨⟨us,u,keep ι' H' g,e1⟩,?_⟩
  rintro u2 H2 ⟨t,y2,rfl,hn,rfl,hy⟩
  have z:=hy us (keep ι' _ g);rw[e1] at z;cases z
  have g2:=S.growNew (o:=.tup [.int i,u]) hn;refine⟨g2,S.new hn,.tup (S.fresh hn) dQ (.cons ?_ (.cons (r1.mono g2) .nil))⟩
  rw[RG];exact .int _
 ·intro i ι' h' H' g S _ hl
  rw[zh] at hl;exact⟨us,keep ι' H' g,by rw[<- r.length];exact hl⟩
def zj{ι:Ix}{H:Hp}{a:ZE}{us:List V}(n:a∉ι.all)(h:Rd H a (.lst us)):∀ (ι':Ix) (H':Hp),Ext ι H ι' H'->SqL T.K H' a us:=(λ_ _ g=>.inl (yT g n h))
def Iz{ι:Ix}{H:Hp}{a:ZE}{us:List V}(n:a∉ι.all)(h:H a=some (.tup us)):∀ (ι':Ix) (H':Hp),Ext ι H ι' H'->SqT T.K H' a us:=(λ_ _ g=>.of (g.keep _ _ n h))
def qS{K K':ZA}{H:Hp}{a:ZE}{us:List V}(e:K=K')(h:SqL K' H a us):SqL K H a us:=(e▸h)
def zk{σ:St}{H:Hp}{R:It->Hp->Prop}{ι:Ix}{h h1:AH}{en:En}{v:AV}{xs:List AV}{w:Option Nat}(hK:X.K=T.K)(S:Sim T ι h H)(er:ER T ι H en σ)(e:sa en h=.ok v h1)(hv:(v=.fl xs/\w=none)\/∃ n,v=.ref n/\h1[n]?=some (.lst xs)/\w=some n)
  (q:∀ ι' H' J,Grow ι H ι' H'->Sim T ι' h1 H'->i7 T J ι' H' xs w->R J H'):xU X.K (tE T E sa) σ H R:=by
 refine⟨ι,h,en,S,er,?_⟩
 rw[e];intro ι1 H1 u g1 S1 r1
 rcases hv with⟨rfl,rfl⟩|⟨n,rfl,hn,rfl⟩
 ·cases r1 with
  |fl n hr rs=>exact⟨_,rfl,⟨_,qS hK (.inl hr)⟩,q ι1 H1 _ g1 S1 (hK▸zg (zj n hr) rs)⟩
  |kfl hr rs=>exact⟨_,rfl,⟨_,qS hK (.inr hr)⟩,q ι1 H1 _ g1 S1 (hK▸zg (λ_ _ _=>.inr hr) rs)⟩
 ·cases r1 with
  |ref hr =>
   obtain⟨u,e1,us,rfl,rs⟩:=S1.obj n _ _ hn hr;exact⟨_,rfl,⟨_,.of e1⟩,q ι1 H1 _ g1 S1 (Ir hr)⟩
def IA{σ:St}{H:Hp}{R:It->Hp->Prop}{ι:Ix}{h h1:AH}{en:En}{xs:List AV}(hK:X.K=T.K)(S:Sim T ι h H)(er:ER T ι H en σ)(e:sa en h=.ok (.tup xs) h1)
  (q:∀ ι' H' J,Grow ι H ι' H'->Sim T ι' h1 H'->i7 T J ι' H' xs none->R J H'):nZ X.K (tE T E sa) σ H R:=by
 refine⟨ι,h,en,S,er,?_⟩
 rw[e];intro ι1 H1 u g1 S1 r1
 cases r1 with
 |tup n hr rs=>exact⟨_,rfl,⟨_,.of hr⟩,q ι1 H1 _ g1 S1 (hK▸Iq (Iz n hr) rs)⟩
def IB{y:Str}{py:Pos}(hK:X.K=T.K)(ha:aF T E X a sa):kU T X (.Name y py) a (dU sa) :=(
 qR (PI.or (Ep ha) (PI.or (Er ha) (GJ ha))) λσ H R=>E6x λι h en S er q=>by
  unfold dU at q
  cases e:sa en h with
  |bad=>rw[e] at q;exact q.elim
  |ex c h1=>rw[e] at q;exact q.elim
  |ok v h1 =>
   rw[e] at q
   cases v with
   |fl xs=>exact .inl (zk hK S er e (.inl ⟨rfl,rfl⟩) q)
   |tup xs=>exact .inr (.inl (IA hK S er e q))
   |str z =>
    refine .inr (.inr ⟨ι,h,en,S,er,?_⟩)
    rw[e];intro ι1 H1 u g1 S1 r1
    obtain⟨rfl,_,o⟩:=eR r1;exact⟨_,rfl,q ι1 H1 _ g1 S1 (Iu o)⟩
   |ref n =>
    dsimp only[Out.bind] at q
    cases e2:h1[n]? with
    |none=>rw[e2] at q;exact q.elim
    |some o =>
     rw[e2] at q
     cases o with
     |lst xs=>exact .inl (zk hK S er e (.inr ⟨n,rfl,e2,rfl⟩) q)
     |_=>exact q.elim
   |_=>exact q.elim)
def uV {tg:Expr} {p:Pos} (hg:Gl X "range") (hm:X.mg "range"=none) (ha:aF T E X a sa) (hs:‹starEach [a] X.env=[(false,eval a X.env)]›):kU T X tg (.Call (.Name "range" p) [a] [] pos) (ju sa) :=(
 qR (Eu hg hm (ak ha aA hs) hs) λσ H R=>E6x λι h en S er q=>by
  unfold ju at q;refine⟨ι,h,en,S,er,?_⟩
  unfold ai
  cases e:sa en h with
  |bad=>rw[e] at q;exact q
  |ex c h1=>rw[e] at q;exact q.elim
  |ok v h1 =>
   rw[e] at q;intro ι1 H1 u g1 S1 r1
   dsimp only[Out.bind] at q
   cases v with
   |int j =>
    dsimp only at q;split at q
    ·rename_i hx
     split at hx
     ·rename_i hb
      cases hx
      cases r1 with
      |cons r r' =>
       cases r'
       rw[bE r];exact⟨j,rfl,by lia,by lia,q ι1 H1 _ g1 S1 Iy⟩
     ·cases hx
    ·exact q.elim
   |_=>exact q.elim)
def zm {p tp:Pos} {es:List Expr} {k:Nat} (hK:X.K=T.K) (hg:Gl X "enumerate") (hm:X.mg "enumerate"=none) (ha:aF T E X a sa) (hs:‹starEach [a] X.env=[(false,eval a X.env)]›):kU T X (.Tuple es k tp) (.Call (.Name "enumerate" p) [a] [] pos) (Sm.iEnum sa) :=(
 qR (GG hg hm (ak ha aA hs) hs) λσ H R=>E6x λι h en S er q=>by
  unfold Sm.iEnum at q;refine⟨ι,h,en,S,er,?_⟩
  unfold ai
  cases e:sa en h with
  |bad=>rw[e] at q;exact q
  |ex c h1=>rw[e] at q;exact q.elim
  |ok v h1 =>
   rw[e] at q;intro ι1 H1 u g1 S1 r1
   dsimp only[Out.bind] at q
   cases v with
   |fl xs =>
    cases r1 with
    |cons r r' =>
     cases r'
     cases r with
     |fl n hr rs=>exact⟨_,rfl,⟨_,qS hK (.inl hr)⟩,q ι1 H1 _ g1 S1 (hK▸zi (zj n hr) rs)⟩
     |kfl hr rs=>exact⟨_,rfl,⟨_,qS hK (.inr hr)⟩,q ι1 H1 _ g1 S1 (hK▸zi (λ_ _ _=>.inr hr) rs)⟩
   |_=>exact q.elim)
def zp{α:Type}{xs:List α}{i:Nat}(h:i<xs.length):xs.drop i=xs[i]::xs.drop (i+1):=by simp
def IC(g:TG)(tb:TS)(D:cY)(σ:St)(H1:Hp)(J:It):Prop:=∃ W:Nat->Nat->St->Hp->Prop,(∃ m,W 0 m σ H1)/\∀ i m σ H,W i m σ H->(J.stop i H/\D.nx σ H)\/(J.go i H/\∃ N:St->Hp->Prop,(∀ σ' H',N σ' H'->∃ m',m'<m/\W (i+1) m' σ' H')/\∀ x H',J.yld i H x H'->g x σ H' λσ' H''=>tb { D with nx:=N,ct:=N,bk:=D.nx } σ' H'')
def ID{g:TG}{t:Tg}{J:It}{ι1:Ix}{h1:AH}{H1:Hp}{en:En}{σ:St}{D:cY}{w:Option Nat}{all ys:List AV}
  (hg2:∀ {ι:Ix} {h:AH} {H:Hp} {en e:En} {σ:St} {v:AV} {u:V} {Q:St->Hp->Prop},Sim T ι h H->ER T ι H en σ->RV T ι H v u->fC t v en=some e->(∀ σ',ER T ι H e σ'->Q σ' H)->g u σ H Q)
  (S1:Sim T ι1 h1 H1)(er:ER T ι1 H1 en σ)(IR:oG T J ι1 H1 ys (gB w all))(q:PostS T ι1 H1 E (gT w all t s1 ys en h1) D):IC g (tS T EN s1) D σ H1 J:=by
 refine⟨λi m σ H=>m=ys.length-i/\i<=ys.length/\∃ ι' h' en',Grow ι1 H1 ι' H/\Sim T ι' h' H/\ER T ι' H en' σ/\PostS T ι' H E (gT w all t s1 (ys.drop i) en' h') D,
  ⟨ys.length,by simp,OH _,ι1,h1,en,S1.refl,S1,er,q⟩,?_⟩
 rintro i m σ H ⟨rfl,hi,ι',h',en',g',S',er',q'⟩
 by_cases hl:i<ys.length
 ·rw[zp hl] at q'
  unfold gT at q'
  split at q'
  ·rename_i hlive
   obtain⟨go,yld⟩:=IR.go i ι' h' H ys[i] g'.ext S' hlive (by simp[hl]);refine .inr ⟨go,λσ H=>∃ ι' h' en',Grow ι1 H1 ι' H/\Sim T ι' h' H/\ER T ι' H en' σ/\PostS T ι' H E (gT w all t s1 (ys.drop (i+1)) en' h') D,
    λσ' H' w'=>⟨ys.length-(i+1),by lia,rfl,hl,w'⟩,λx H' y=>?_⟩
   obtain⟨g2,S2,r2⟩:=yld x H' y;split at q'
   ·rename_i e1 he1
    refine hg2 S2 (er'.mono g2) r2 he1 λσ' er2=>⟨ι',h',e1,S2,er2,?_⟩
    have q2:=PostS.shift q' g2
    cases e2:s1 e1 h' with
    |nx e3 h3=>rw[e2] at q2;exactλι3 H3 σ3 g3 S3 er3=>⟨ι3,h3,e3,g'.trans (g2.trans g3),S3,er3,q2.shift g3⟩
    |ct e3 h3=>rw[e2] at q2;exactλι3 H3 σ3 g3 S3 er3=>⟨ι3,h3,e3,g'.trans (g2.trans g3),S3,er3,q2.shift g3⟩
    |bk e3 h3=>rw[e2] at q2;exact q2
    |rt v h3=>rw[e2] at q2;exact q2
    |ex c e3 h3=>rw[e2] at q2;exact(show False from q2).elim
    |bad=>rw[e2] at q2;exact q2
   ·exact(show False from q').elim
  ·exact(show False from q').elim
 ·have ei:i=ys.length:=by lia
  subst ei;rw[List.drop_length] at q';unfold gT at q'
  split at q'
  ·rename_i hlive
   exact .inl ⟨IR.stop _ ι' h' H g'.ext S' hlive (Oa _),q' ι' H σ S'.refl S' er'⟩
  ·exact(show False from q').elim
def qT{tg iter:Expr}{it:SI}{t:Tg}(hc:X.calm=true)(hi:kU T X.nox tg iter it)(hg:qO T X.nox tg t)(hb:cF T EN X.nox sts s1)(hs:autoParam (∀ x,foldedSetIterable iter X.nox.env x=pure x) L2.Eh._auto_1) :
  fZ T E X (.For tg iter sts [] pos) (cR it t s1):=by
 obtain⟨g,hg1,hg2⟩:=hg;refine gR (yX (Ey PassesOwn.never hc hi hg1 hb hs)) λD σ H=>E6x λι h en S er q=>⟨ι,h,en,S,er,?_⟩
 unfold cR at q
 cases e:it en h with
 |bad=>rw[e] at q;exact q
 |ex c h1=>rw[e] at q;exact q
 |ok p h1 =>
  obtain⟨xs,w⟩:=p;rw[e] at q;intro ι1 H1 J g1 S1 IR
  exact ID hg2 S1 (er.mono g1) IR (PostS.shift q g1)
def ER.comp{ι:Ix}{H:Hp}{en:En}{σ:St}{ys:List AV}{us:List V}{jf:List (Nat×Str)}(er:ER T ι H en σ)(r:RVs T ι H ys us):ER T ι H (ys.map some++(jf.map (·.1)).map λj=>(en[j]?).join) (fS (us.map some) jf σ):=by
 unfold fS;induction ys generalizing us with
 |nil =>
  cases r
  refine⟨by simp,λi v e=>?_⟩
  simp only[P5,P8,OI] at e ⊢
  cases e1:jf[i]? with
  |none=>rw[e1] at e;cases e
  |some j =>
   rw[e1] at e;simp only[Option.map_some,Option.some.injEq] at e
   have e2:en[j.1]?=some (some v):=by
    cases e3:en[j.1]? with
    |none=>rw[e3] at e;cases e
    |some o=>rw[e3] at e;exact congrArg some e
   obtain⟨u',e4,r'⟩:=er.2 j.1 v e2;exact⟨u',by simp[e4],r'⟩
 |cons y ys ih =>
  cases r with
  |cons r rs =>
   obtain⟨h1,h2⟩:=ih rs;refine⟨congrArg Nat.succ h1,λi v e=>?_⟩
   cases i with
   |zero=>cases e;exact⟨_,rfl,r⟩
   |succ i=>exact h2 i v e
def jz(T:Tb)(k:Nat)(g:TG)(cc' cc:SB)(ce' ce:SE):Prop:=∀ x,(∀ r h,cc' (some x::r) h=.bad)\/∃ ys:List AV,ys.length=k/\(∀ r h,cc' (some x::r) h=cc (ys.map some++r) h)/\(∀ r h,ce' (some x::r) h=ce (ys.map some++r) h) /\
 ∀ (ι:Ix) (H:Hp) (u:V),RV T ι H x u->∃ us,RVs T ι H ys us/\∀ (σ:St) (Q:St->Hp->Prop),Q (us.map some++σ) H->g u (List.replicate k none++σ) H Q
def uW{cc:SB}{ce:SE}:jz T 1 (mF 0) cc cc ce ce:=(λx=>.inr ⟨[x],rfl,λ_ _=>rfl,λ_ _=>rfl,λ_ _ u r=>⟨[u],.cons r .nil,λ_ _ q=>q⟩⟩)
structure CoS(T:Tb)(ι1:Ix)(H1:Hp)(en:En)(σ:St)(D:ZE)(ι':Ix)(h':AH)(vs:List AV)(ys:List V)(H2:Hp):Prop where
 hD:H2 D=some (.lst ys)
 g:Grow ι1 H1 ι' H2
 x:Ext ι1 H1 (ι'.hide D) H2
 S:Sim T (ι'.hide D) h' H2
 er:ER T (ι'.hide D) H2 en σ
 rv:RVs T (ι'.hide D) H2 vs ys
 nD:D∉ι'.refs
def zq{ι' ι5:Ix}{D:ZE}(e:ι5.priv=(ι'.hide D).priv):ι5=Ix.hide ⟨ι5.refs,ι'.priv⟩ D:=by
 cases ι5
 simp only at e
 subst e;rfl
def IE{ι1 ι' ι5:Ix}{H1 H2 H5:Hp}{D:ZE}(g':Grow ι1 H1 ι' H2)(g:Grow (ι'.hide D) H2 ι5 H5):Grow ι1 H1 ⟨ι5.refs,ι'.priv⟩ H5:=by
 obtain⟨n,en1,hn⟩:=g'.pre;obtain⟨k,ek,hk⟩:=g.pre;refine⟨⟨n++k,?_,λa ha=>?_⟩,g'.priv,λa o na ea=>g.keep a o (g'.outR na ea) (g'.keep a o na ea),λa ha=>g.live a ?_⟩
 ·show ι5.refs=_;rw[ek];show ι'.refs++k=_;rw[en1,SR]
 ·rcases OY.mp ha with z|z
  ·exact hn a z
  ·have z2:=hk a z
   by_cases hr:a∈ι1.refs
   ·exact absurd z2 (g'.live a (OC _ hr))
   ·cases e9:H1 a with
    |none=>rfl
    |some o=>rw[g'.keep a o hr e9] at z2;cases z2
 ·rcases OY.mp ha with z|z
  ·exact OC _ (by show a∈ι'.refs;rw[en1];exact OC _ z)
  ·exact OF _ (OK _ (by rw[g'.priv];exact z))
section
variable{ι ι1 ι' ι5:Ix}{H H1 H2 H5:Hp}{h1 h' h5:AH}{en:En}{σ:St}{D:ZE}{vs:List AV}{ys:List V}
def CoS.skip(c:CoS T ι1 H1 en σ D ι' h' vs ys H2)(g:Grow (ι'.hide D) H2 ι5 H5)(S:Sim T ι5 h5 H5):CoS T ι1 H1 en σ D ⟨ι5.refs,ι'.priv⟩ h5 vs ys H5:=by
 have e:=zq g.priv;exact⟨g.keep D _ c.nD c.hD,IE c.g g,e▸c.x.trans g.ext,e▸S,e▸c.er.mono g,e▸c.rv.mono g,g.outR c.nD c.hD⟩
def CoS.poke{v:AV}{u:V}(c:CoS T ι1 H1 en σ D ι' h' vs ys H2)(hD:H1 D=none)(r:RV T (ι'.hide D) H2 v u):CoS T ι1 H1 en σ D ι' h' (vs++[v]) (ys++[u]) (upd H2 D (.lst (ys++[u]))):=by
 refine⟨dQ,⟨c.g.pre,c.g.priv,λa o na ea=>by rw[bg (fQ ea hD)];exact c.g.keep a o na ea,λa ha=>?_⟩,c.x.trans Ext.poke,Sim.poke c.S c.nD,ER.ext c.er Ext.poke,RVs.ext Ext.poke (c.rv.append (.cons r .nil)),c.nD⟩
 by_cases z:a=D
 ·subst z;rw[dQ];simp
 ·rw[bg z];exact c.g.live a ha
def CoS.push{v:AV}{u:V}(c:CoS T ι1 H1 en σ D ι' h' vs ys H2)(hD:H1 D=none)(g:Grow (ι'.hide D) H2 ι5 H5)(S:Sim T ι5 h5 H5)(r:RV T ι5 H5 v u):CoS T ι1 H1 en σ D ⟨ι5.refs,ι'.priv⟩ h5 (vs++[v]) (ys++[u]) (upd H5 D (.lst (ys++[u]))) :=(
 (c.skip g S).poke hD ((zq g.priv)▸r))
def CoS.fin(c:CoS T ι1 H1 en σ D ι' h' vs ys H2)(g1:Grow ι H ι1 H1)(S1:Sim T ι1 h1 H1)(hD:H1 D=none):D∉ι'.all/\∀ n,ι'.refs=ι.refs++n->∀ a∈n++[D],H a=none:=by
 refine⟨λz=>(OY.mp z).elim c.nD λz=>by rw[c.g.priv] at z;exact S1.plive D z hD,λn en1 a ha=>?_⟩
 obtain⟨k,ek,hk⟩:=(g1.trans c.g).pre;have:n=k:=List.append_cancel_left (en1.symm.trans ek)
 subst this;rcases OY.mp ha with z|z
 ·exact hk a z
 ·have z':a=D:=by simpa using z
  subst z'
  cases e9:H a with
  |none=>rfl
  |some o =>
   by_cases hr:a∈ι.refs
   ·obtain⟨k1,ek1,_⟩:=g1.pre
    exact absurd hD (S1.live a (OC _ (by rw[ek1];exact OC _ hr)))
   ·rw[g1.keep a o hr e9] at hD;cases hD
def CoS.start(er:ER T ι H en σ)(g1:Grow ι H ι1 H1)(S1:Sim T ι1 h1 H1)(hD:H1 D=none):CoS T ι1 H1 en σ D ι1 h1 [] [] (upd H1 D (.lst [])) :=(
 ⟨dQ,S1.growNew hD,Ext.hide hD,S1.hide hD,(er.mono g1).ext (Ext.hide hD),.nil,λz=>S1.fresh hD (OC _ z)⟩)
end
def qU(T:Tb)(ι:Ix)(H:Hp)(Q:VK)(o:Out (List AV)):Prop:=match o with
 |.ok ys h2=>∀ ι' H' D vs,Grow ι H ι' H'->Sim T (ι'.hide D) h2 H'->RVs T (ι'.hide D) H' ys vs->H' D=some (.lst vs)->D∉ι'.all->(∀ n,ι'.refs=ι.refs++n->∀ a∈n++[D],H a=none)->Q (.ref D) H'
 |_=>False
def zr{k:Nat}{g:TG}{cc' cc:SB}{ce' ce:SE}{jf:List (Nat×Str)}{σ:St}{H H1:Hp}{Q:VK}{ι ι1:Ix}{h1:AH}{en:En}{xs:List AV}{L:AH->Bool}{J:It}(U:jz T k g cc' cc ce' ce)(er:ER T ι H en σ)(g1:Grow ι H ι1 H1)(S1:Sim T ι1 h1 H1)
  (IR:oG T J ι1 H1 xs L)(q:qU T ι H Q (gU (jf.map (·.1)) en L cc' ce' xs [] h1)):uz k g jf (tT T EN cc) (tE T EN ce) σ Q J H1:=by
 intro D hD;refine⟨λi m ys H2=>m=xs.length-i/\i<=xs.length/\∃ ι' h' vs,CoS T ι1 H1 en σ D ι' h' vs ys H2/\qU T ι H Q (gU (jf.map (·.1)) en L cc' ce' (xs.drop i) vs h'),⟨xs.length,rfl,OH _,ι1,h1,[],CoS.start er g1 S1 hD,q⟩,?_⟩
 rintro i m ys H2 ⟨rfl,hi,ι',h',vs,c,q'⟩
 refine⟨c.hD,?_⟩
 by_cases hl:i<xs.length
 ·rw[zp hl] at q'
  unfold gU at q'
  by_cases hs:L h'=true/\vs.length<sizeLine
  ·rw[Of hs] at q'
   obtain⟨go,yld⟩:=IR.go i _ h' H2 xs[i] c.x c.S hs.1 (by simp[hl]);refine .inr ⟨go,by rw[<- c.rv.length];exact hs.2,λx H3 y=>?_⟩
   obtain⟨g3,S3,r3⟩:=yld x H3 y;rcases U xs[i] with z|⟨zs,lz,z1,z2,z3⟩
   ·rw[z] at q';exact False.elim q'
   obtain⟨us,rs,gq⟩:=z3 _ _ _ r3;have er3:=ER.comp (jf:=jf) (c.er.mono g3) rs;rw[z1] at q';refine⟨us,by rw[<- rs.length];exact lz,gq _ _ ⟨rfl,rfl⟩,ι'.hide D,h',_,S3,er3,?_⟩
   cases ec:cc (zs.map some++(jf.map (·.1)).map λj=>(en[j]?).join) h' with
   |bad=>rw[ec] at q';exact q'
   |ex k h5=>rw[ec] at q';exact False.elim q'
   |ok bb h5 =>
    rw[ec] at q';intro ι5 H5 b5 g5 S5 r5
    subst r5
    cases bb with
    |false =>
     rw[Og Ou];exact⟨xs.length-(i+1),by lia,rfl,hl,_,h5,vs,c.skip (g3.trans g5) S5,q'⟩
    |true =>
     rw[Of rfl];refine⟨ι5,h5,_,S5,er3.mono g5,?_⟩
     dsimp only at q';rw[z2] at q'
     cases ee:ce (zs.map some++(jf.map (·.1)).map λj=>(en[j]?).join) h5 with
     |bad=>rw[ee] at q';exact q'
     |ex k h6=>rw[ee] at q';exact False.elim q'
     |ok v h6 =>
      rw[ee] at q';intro ι6 H6 u6 g6 S6 r6
      have g36:=(g3.trans g5).trans g6;exact⟨g36.keep D _ c.nD c.hD,xs.length-(i+1),by lia,rfl,hl,_,h6,vs++[v],c.push hD g36 S6 r6,q'⟩
  ·rw[Og hs] at q';exact False.elim q'
 ·have ei:i=xs.length:=by lia
  subst ei;rw[List.drop_length] at q';unfold gU at q'
  by_cases hs:L h'=true
  ·rw[Of hs] at q'
   have f:=c.fin g1 S1 hD;exact .inl ⟨IR.stop _ _ h' H2 c.x c.S hs (Oa _),q' ι' H2 D ys (g1.trans c.g) c.S c.rv c.hD f.1 f.2⟩
  ·rw[Og hs] at q';exact False.elim q'
def IF{k:Nat}{g:TG}{cc' cc:SB}{ce' ce:SE}{jf:List (Nat×Str)}{σ:St}{H H1:Hp}{Q:VK}{ι ι1:Ix}{h1:AH}{en:En}{xs all:List AV}{w:Option Nat}{J:It}(U:jz T k g cc' cc ce' ce)(er:ER T ι H en σ)(g1:Grow ι H ι1 H1)(S1:Sim T ι1 h1 H1)
  (IR:oG T J ι1 H1 xs (gB w all))(q:qU T ι H Q (eP (jf.map (·.1)) en w all cc' ce' xs [] h1)):uz k g jf (tT T EN cc) (tE T EN ce) σ Q J H1:=(zr U er g1 S1 IR (by rw[<- oz];exact q))
end
end Sm
namespace Sm
open PySem PySem.Spec L2
section
variable{T:Tb}{E:St->XK}{X:Cx}{pos px:Pos}{iter elt:Expr}{ifs:List Expr}{scope:Scope}{x₁:Str}{jf:List (Nat×Str)}{it:SI}{cc:SB}{ce:SE}
def IG{ι:Ix}{H:Hp}{Q:VK}{F:XK}{o:Out (List AV)}(q:Post T ι H F (RV T) (match o with|.ok ys h2=>.ok (.fl ys) h2|_=>.bad) Q):qU T ι H Q o:=by
 cases o with
 |bad=>exact q
 |ex c h1=>exact q.elim
 |ok ys h2=>exactλι' H' D vs g S' r hD nD _=>q ι' H' _ g S'.show (.fl nD (.inl hD) (r.ext Ext.show))
def zt{k:Nat}{g:TG}{cc':SB}{ce':SE}{σ:St}{H:Hp}{Q:VK}(U:jz T k g cc' cc ce' ce)(q:tE T E (fD (jf.map (·.1)) it cc' ce') σ H Q):ou k g jf (tI T it) (tT T EN cc) (tE T EN ce) σ H Q:=by
 obtain⟨ι,h,en,S,er,q⟩:=q;refine⟨ι,h,en,S,er,?_⟩
 unfold fD at q
 cases e:it en h with
 |bad=>rw[e] at q;exact q
 |ex c h1=>rw[e] at q;exact q.elim
 |ok p h1=>rw[e] at q;exactλι1 H1 J g1 S1 IR=>IF U er g1 S1 IR (IG q)
def zu:ji X [] (tT T E bx):=(λpins s σ H Q I ⟨ι,h,en,S,er,q⟩=>GO pins s σ H Q I (q.now S rfl))
def zv(C:CompOk X [x₁] jf scope)(hcalm:X.calm=true)(hi:kU T X (.Name x₁ px) iter it)(hc:∀ pins cl s H fp,ji (cC X pins [x₁] jf scope cl s H fp) ifs (tT T EN cc))(he:∀ pins cl s H fp,aF T EN (cC X pins [x₁] jf scope cl s H fp) elt ce)
  (hs:autoParam (∀ x,foldedSetIterable iter X.env x=pure x) L2.Eh._auto_1):aF T E X (.ListComp elt [⟨.Name x₁ px,iter,ifs,0⟩] scope pos) (fD (jf.map (·.1)) it cc ce) :=(
 bO (yA hcalm (λ_ _ _ _ _=>C.pg 0 rfl (.head _)) hi hc he C hs) λ_ _ _ q=>zt uW q)
def IH{y:Str}{py spos:Pos}{i:Nat}(C:CompOk X [x₁] jf scope)(hcalm:X.calm=true)(hi:kU T X (.Name x₁ px) iter it)(hc:∀ pins cl s H fp,ji (cC X pins [x₁] jf scope cl s H fp) ifs (tT T EN cc))(he:∀ pins cl s H fp,aF T EN (cC X pins [x₁] jf scope cl s H fp) elt ce)
  (hNX:X.N.Nodup)(hi':‹X.N[i]?=some y›)(hy:‹X.env.scope.names.lookup y=some .local›)(hsw:‹swapsWith (.ListComp elt [⟨.Name x₁ px,iter,ifs,0⟩] scope pos) (some (.Name y py)) spos.line X.env=pure true›)(hs:autoParam (∀ x,foldedSetIterable iter X.env x=pure x) L2.Eh._auto_1) :
  fZ T E X (.Assign [.Name y py] (.ListComp elt [⟨.Name x₁ px,iter,ifs,0⟩] scope pos) spos) (aw i (fD (jf.map (·.1)) it cc ce)) :=(
 gR (GQ hcalm (λ_ _ _ _ _=>C.pg 0 rfl (.head _)) hi hc he C hNX hi' hy hsw hs) λD σ H q=>zt uW (zb q))
end
def iH(T:Tb)(F:Fn):Sp:=λvs H Q E=>∃ ι h args,Sim T ι h H/\RVs T ι H args vs/\Post T ι H E (RV T) (F args h) Q
def II(F:Fn)(n:Nat):Prop:=∀ args h,args.length≠n->F args h=.bad
def zw(n m:Nat)(b:SS):II (ay n m b) n:=(λargs h hl=>by
 unfold ay;rw[Og hl])
def qV{P:ZD}{w:ZF}{K:ZA}{mg:Str->Option ZC}{base:Heap}{T:Tb}{x qual:Str}{st:Stmt}{f:ZE}{fd:FuncData}{N ps:List Str}{k:Nat}{b:SS}(F:Fun K x qual st f fd)(hK:K=T.K)(S:aE N ps (bL st))
  (hbody:∀ (cdv:ZC) (A:ZG) (outer:List Env) (s:ZB) (H:Hp) (E:XK),Room k (A.deeper (PyProof.Rows.envOfC qual (bL st) s.heap.objs.size f cdv))->CA T (λ_=>E) (bY (cU P w) P w K mg base N qual (bL st) f cdv A outer s H E) ->
   cF T (λ_=>E) (bY (cU P w) P w K mg base N qual (bL st) f cdv A outer s H E) (iZ st) b):FnOk P w K mg base (cU P w) (k+1) f fd ps (iH T (ay ps.length N.length b)):=by
 refine F.okE S (λvs H Q E h=>?_) (λcdv A outer s H vs Q E hr h=>?_)
 ·obtain⟨ι,h,args,_,r,q⟩:=h
  by_cases hl:args.length=ps.length
  ·rw[<- hl,r.length]
  ·rw[zw _ _ _ args h hl] at q;exact q.elim
 ·obtain⟨ι,h,args,Si,r,q⟩:=h
  refine⟨_,hbody cdv A outer s H E hr ⟨hK,Hf⟩,ι,h,args.map some++List.replicate (N.length-ps.length) none,Si,?_,?_⟩
  ·by_cases hl:args.length=ps.length
   ·refine⟨by simp[L2.start,r.length,<- hl],λi v e=>?_⟩
    unfold L2.start;by_cases hi:i<args.length
    ·rw[Oj (by simpa using hi),OI] at e
     rw[Oj (by simpa[<- r.length] using hi),OI];obtain⟨x,e1,e2⟩:=Ow.mp e
     cases e2
     obtain⟨u,e3,r3⟩:=r.get e1;exact⟨u,by rw[e3];rfl,r3⟩
    ·rw[Oy (by simpa using hi),Pv] at e
     split at e
     ·cases e
     ·cases e
   ·rw[zw _ _ _ args h hl] at q;exact q.elim
  ·unfold ay at q
   split at q
   ·split at q
    ·rename_i e1 h1 he
     rw[he];exactλι' H' σ' g S' er=>q ι' H' _ g S' .non
    ·rename_i v h1 he
     rw[he];exact q
    ·rename_i c e1 h1 he
     rw[he];exactλι' H' σ' C g S' er ec=>q ι' H' C g S' ec
    ·exact q.elim
   ·exact q.elim
structure GF(P:ZD)(w:ZF)(T:Tb)(mg:Str->Option ZC)(base:Heap)(k:Nat)(x:Str)(F:Fn):Prop where
 ex:∃ f fd ps,mg x=some (.ref f)/\PySem.W.keepIn T.K (.ref f)=true/\Binds T.K fd ps []/\FnOk P w T.K mg base (cU P w) k f fd ps (iH T F)
structure GM(P:ZD)(w:ZF)(T:Tb)(mg:Str->Option ZC)(base:Heap)(k:Nat)(c:Nat)(m:Str)(F:Fn):Prop where
 ex:∃ C f fd ps,T.cls c=some C/\Cls T.K C/\iD T.K C m f/\Binds T.K fd ps []/\FnOk P w T.K mg base (cU P w) k f fd ps (iH T F)
 no:m∉T.fields c
section
variable{T:Tb}{E:St->XK}{X:Cx}{pos p apos:Pos}{e o a:Expr}{es:List Expr}{x m:Str}{F:Fn}{k c:Nat}{as:SL}{so sa:SE}
def bB (hK:X.K=T.K) (C:CA T E X) (G:GF X.prog X.w T X.mg X.base k x F) (hr:Room k X.A) (hg:Gl X x) (ha:fT T E X (e::es) as) (hdb:((x == ("__debug__" : Str))=false)⁻¹)
  (he:‹qE1 e es X.env›) (hpl:‹qF1 pos es X.env›):aF T E X (.Call (.Name x p) (e::es) [] pos) (au F as):=by
 obtain⟨f,fd,ps,h1,h2,h3,h4⟩:=G.ex;refine bO (Hj (Ex:=E) (dvs:=[]) (hK▸h4) hr hg h1 (hK▸h2) (hK▸h3) .nil C.pass ha hdb he hpl) λσ H Q=>E6x λι h en S er q=>⟨ι,h,en,S,er,q.bind λxs h1 ι1 H1 us g1 S1 r1 q1=>?_⟩
 rw[Qo];exact⟨ι1,h1,xs,S1,r1,q1⟩
def zx{C:ZE}{σ:St}{H:Hp}{Q:VK}(hc:T.cls c=some C)(no:m∉T.fields c)(q:tE T E (aD c F so as) σ H Q):yL C m (iH T F) [] E (tE T E so) (tA T E as) σ H Q:=by
 obtain⟨ι,h,en,S,er,q⟩:=q;refine⟨ι,h,en,S,er,q.bind λx h1 ι1 H1 u g1 S1 r1 q1=>?_⟩
 split at q1
 ·rename_i n
  split at q1
  ·rename_i c' fs hn
   split at q1
   ·rename_i ec
    subst ec
    cases r1 with
    |@ref _ a hr =>
     obtain⟨o,e1,C',dx,fus,hC,rfl,nd,hw,hl,_⟩:=S1.obj n _ a hn hr;rw[hc] at hC;cases hC
     refine⟨a,dx,fus,rfl,e1,?_,ι1,h1,en,S1,er.mono g1,q1.bind λxs h2 ι2 H2 us g2 S2 r2 q2=>?_⟩
     ·cases e:fus.lookup m with
      |none=>rfl
      |some v =>
       have:=Pl e;exact absurd (hw _ this) no
     ·rw[Qo]
      exact⟨ι2,h2,.ref n::xs,S2,.cons (.ref (g2.at hr)) r2,q2⟩
   ·exact q1.elim
  ·exact q1.elim
 ·exact q1.elim
def qW{pl:Sem Bool}(hK:X.K=T.K)(CC:CA T E X)(G:GM X.prog X.w T X.mg X.base k c m F)(hr:Room k X.A)(ho:aF T E X o so)(ha:fT T E X (e::es) as)
  (hst:‹qE1 e es X.env›)(hpl:‹qF1 pos es X.env›)
  (ht:‹eval (.Call (.Attribute o m apos) (e::es) [] pos) X.env=(do
   let ov <- eval o X.env
   standAt apos.atName
   let (f,first) <- holding [ov] (getMethod ov m pl)
   callWith pos f first (backTo pos (starEach (e::es) X.env)) (backToKw pos (keywordEach [] X.env)))›):aF T E X (.Call (.Attribute o m apos) (e::es) [] pos) (aD c F so as):=by
 obtain⟨C,f,fd,ps,h1,h2,h3,h4,h5⟩:=G.ex;exact bO (Hk (Ex:=E) (dvs:=[]) (pl:=pl) ho (hK▸h2) (hK▸h3) (hK▸h5) hr (hK▸h4) .nil CC.pass ha hst hpl ht) λσ H Q q=>zx h1 G.no q
def qX{pl:Sem Bool}(hK:X.K=T.K)(CC:CA T E X)(G:GM X.prog X.w T X.mg X.base k c m F)(hr:Room k X.A)(ho:aF T E X o so)
  (ht:‹eval (.Call (.Attribute o m apos) [] [] pos) X.env=(do
   let ov <- eval o X.env
   standAt apos.atName
   let (f,first) <- holding [ov] (getMethod ov m pl)
   callWith pos f first (backTo pos (starEach [] X.env)) (backToKw pos (keywordEach [] X.env)))›):aF T E X (.Call (.Attribute o m apos) [] [] pos) (aD c F so af):=by
 obtain⟨C,f,fd,ps,h1,h2,h3,h4,h5⟩:=G.ex;intro pins s σ H Q I q;have q':=zx (C:=C) h1 G.no q;refine RT (pl:=pl) (thn (ho pins s σ H _ I q') λu s1 Zz=>?_) ht;obtain⟨x,H1,I1,rx,a,dx,fs,ex,ea,l,q⟩:=Zz
 subst ex;obtain rfl:u=Value.ref a:=rx
 refine x9 I1 ea (hK▸h2) (hK▸h3) l ?_
 obtain⟨ι,h,en,S,er,q⟩:=q;refine Sr (first:=[.ref a]) I1.kIn (hK▸h3.kp) (qB (dvs:=[]) (us:=[.ref a]) (vs:=[.ref a]) (hK▸h5) hr (hK▸h4) .nil CC.pass I1 (.cons rfl .nil) (q.now S .nil))
structure CF(T:Tb)(c:Nat):Prop where
 ex:∃ C,T.cls c=some C/\Cls T.K C/\∀ f∈T.fields c,NoAttr T.K C f
structure GK(P:ZD)(w:ZF)(T:Tb)(mg:Str->Option ZC)(base:Heap)(k:Nat)(c:Nat)(x:Str)(F:Fn):Prop where
 ex:∃ C f fd ps,T.cls c=some C/\mg x=some (.ref C)/\Mk T.K C f/\Binds T.K fd ps []/\FnOk P w T.K mg base (cU P w) k f fd ps (iH T F)
def IJ{CX:fR}{C f:ZE}{fd:FuncData}{ps:List Str}{sp:Sp}{dvs:List V}{ds:List ZC}{pins:List (ZE×Obj)}{σ:St}{H:Hp}{s:ZB}{Q:VK}{us:List ZC}{vs:List V}(M:Mk X.K C f)(F:FnOk X.prog X.w X.K X.mg X.base CX k f fd ps sp)(hr:Room (k+1) X.A)(hb:Binds X.K fd ps ds)(hd:Vals dvs ds)
  (hx:kL CX X E)(I:L2.Inv X pins σ H s)(r:Vals vs us)
  (h:∀ x dx,H x=none->H dx=none->dx≠x->sp (.ref x::(vs++dvs)) (upd (upd H dx (.own x)) x (.ins C dx [])) (λv H2=>v=.non/\Q (.ref x) H2) (E σ)) :
  wpAny (model X.prog X.w) X.A (call (.ref C) us) (EP X pins σ Q) X.xe s:=by
 have hq:=h (s.heap.objs.size+1) s.heap.objs.size (I.hok.fresh (Ra _)) (I.hok.fresh (Oa _)) (OJ (PX _));have I2:=Inv.made (C:=C) I;have r2:Vals (V.ref (s.heap.objs.size+1)::(vs++dvs)) (Value.ref (s.heap.objs.size+1)::(us++ds)):=.cons rfl (r.append hd);have hl:(Value.ref (s.heap.objs.size+1)::us++ds).length=ps.length:=by
  have e:=r2.length;rw[F.len _ _ _ _ hq] at e;exact e.symm
 refine Q5 (E6 (f:=f) I.kIn M.makes M.init (beq_iff_eq.mp M.fn) (RM (F.run _ X.stack _ _ ⟨Value.ref (s.heap.objs.size+1)::us,[]⟩ (Value.ref (s.heap.objs.size+1)::(us++ds)) _ _ (E σ) (hr.make C us [])
  (I2.env0.make C us []) (hb _ (Value.ref (s.heap.objs.size+1)::us) I2.kIn hl) r2 hq) λr s' hq'=>?_))
 cases r with
 |error e=>exact hx pins σ _ _ e s' I2 hq'
 |ok fl =>
  cases fl with
  |ret u =>
   obtain⟨v,H',I3,rv,ev,q3⟩:=I2.after hq';subst ev;exact⟨rv,⟨V.ref (s.heap.objs.size+1),H',I3,rfl,q3⟩⟩
  |next=>exact False.elim hq'
  |brk=>exact False.elim hq'
  |cont=>exact False.elim hq'
def IK{C:ZE}{xs:List AV}{us:List V}{H:Hp}{Q:VK}{ι:Ix}{h:AH}{E:XK}{n:Nat}(hc:T.cls c=some C)(hn:(T.fields c).length=n)(S:Sim T ι h H)(r:RVs T ι H xs us)
  (q:Post T ι H E (RV T) (match F (.ref h.length::xs) (h++[.ins c (List.replicate n none)]) with|.ok .non h2=>Out.ok (AV.ref h.length) h2|.ex c h2=>.ex c h2|_=>.bad) Q) :
  ∀ x dx,H x=none->H dx=none->dx≠x->iH T F (.ref x::us) (upd (upd H dx (.own x)) x (.ins C dx [])) (λv H2=>v=.non/\Q (.ref x) H2) E:=by
 intro x dx nx ndx ne;have nx':(upd H dx (.own x)) x=none:=by rw[bg (Ne.symm ne)];exact nx
 have S1:=S.new (o:=.own x) ndx;have g1:=S.growNew (o:=.own x) ndx;have g2:=S1.growAdd (u:=.ins C dx []) nx';have S2:Sim T (ι.add x) (h++[.ins c (List.replicate n none)]) (upd (upd H dx (.own x)) x (.ins C dx [])):=S1.add nx' ⟨C,dx,[],hc,rfl,by simp,by simp,by simp[hn],λi v e=>by
  rw[Pv] at e;split at e
  ·cases e
  ·cases e⟩
 refine⟨ι.add x,_,.ref h.length::xs,S2,.cons (.ref S.addAt) (r.mono (g1.trans g2)),?_⟩
 have q2:=q.shift (g1.trans g2)
 cases e:F (.ref h.length::xs) (h++[.ins c (List.replicate n none)]) with
 |bad=>rw[e] at q2;exact q2
 |ex c' h2=>rw[e] at q2;exact q2
 |ok v h2 =>
  rw[e] at q2
  cases v with
  |non=>exactλι' H' u g S' r'=>⟨qI r',q2 ι' H' _ g S' (.ref (g.at S.addAt))⟩
  |_=>exact(show False from q2).elim
def uX {n:Nat} (hK:X.K=T.K) (CC:CA T E X) (G:GK X.prog X.w T X.mg X.base k c x F) (hr:Room (k+1) X.A) (hg:Gl X x) (hn:‹(T.fields c).length=n›) (hdb:((x == ("__debug__" : Str))=false)⁻¹):aF T E X (.Call (.Name x p) [] [] pos) (mJ c n F af):=by
 obtain⟨C,f,fd,ps,h1,h2,h3,h4,h5⟩:=G.ex;intro pins s σ H Q I ⟨ι,h,en,S,er,q⟩;refine Qw (ku I hg h2 ?_ hdb)
 have M:Mk X.K C f:=hK▸h3;exact Sr I.kIn M.kp (IJ (us:=[]) (vs:=[]) (dvs:=[]) M (hK▸h5) hr (hK▸h4) .nil CC.pass I .nil (IK h1 hn S .nil q))
def kW{i:Nat}{f:Str}(hK:X.K=T.K)(CFc:CF T c)(ho:aF T E X o so)(hf:‹(T.fields c)[i]?=some f›)(hb:‹attributeBase o f X.env (eval o X.env)=eval o X.env›):aF T E X (.Attribute o f pos) (Sm.sFld c i so):=by
 obtain⟨C,hC,hcl,hna⟩:=CFc.ex;refine bO (Fc ho hb) λσ H Q=>E6x λι h en S er q=>⟨ι,h,en,S,er,q.bind λx h1 ι1 H1 u g1 S1 r1 q1=>?_⟩
 split at q1
 ·rename_i n
  split at q1
  ·rename_i c' fs hn
   split at q1
   ·rename_i ec
    subst ec;split at q1
    ·rename_i v hv
     cases r1 with
     |@ref _ a hr =>
      obtain⟨o,e1,C',dx,fus,hC',rfl,nd,hw,hl,hr2⟩:=S1.obj n _ a hn hr;rw[hC] at hC';cases hC'
      obtain⟨f',u,e2,e3,r3⟩:=hr2 i v hv;rw[hf] at e2;cases e2
      exact⟨a,_,dx,fus,u,rfl,e1,hK▸hcl,hK▸hna f (OE hf),e3,q1.now S1 r3⟩
    ·exact q1.elim
   ·exact q1.elim
  ·exact q1.elim
 ·exact q1.elim
theorem zy(f:Str)(v:V):∀ {fs:List (Str×V)},(fs.map (·.1)).Nodup->((bA f v fs).map (·.1)).Nodup/\∀ g,g∈(bA f v fs).map (·.1)->g=f\/g∈fs.map (·.1)
 |[],_=>by simp[bA]
 |(g,x)::r,n=>by
  obtain⟨n1,n2⟩:=O1.mp (show (g::r.map (·.1)).Nodup from n);unfold bA;split
  ·rename_i e
   subst e;exact⟨n,λk hk=>.inr hk⟩
  ·rename_i e
   obtain⟨h1,h2⟩:=zy f v (fs:=r) n2;refine⟨O1.mpr ⟨λz=>?_,h1⟩,λk hk=>?_⟩
   ·rcases h2 g z with z|z
    ·exact e z
    ·exact n1 z
   ·rcases Ov.mp hk with z|z
    ·exact .inr (by rw[z];simp)
    ·rcases h2 k z with z|z
     ·exact .inl z
     ·exact .inr (OK _ z)
theorem zA:∀ {l m:List Str},l.Nodup->(∀ x∈l,x∈m)->l.length<=m.length
 |[],m,_,_=>OH _
 |x::l,m,n,h=>by
  obtain⟨n1,n2⟩:=O1.mp n;have hx:=h x 's';have:=zA (l:=l) (m:=m.erase x) n2 λy hy=>by
   have ne:y≠x:=λz=>n1 (z▸hy)
   exact(List.mem_erase_of_ne ne).mpr (h y (by simp[hy]))
  rw[List.length_erase_of_mem hx] at this;have:0<m.length:=List.length_pos_of_mem hx
  simp only[O3]
  lia
def mP{i:Nat}{f:Str}{p':Pos}(hK:X.K=T.K)(CFc:CF T c)(ho:aF T E X o so)(ha:aF T E X a sa)(hf:‹(T.fields c)[i]?=some f›)(hs:‹swapsWith a (some (.Attribute o f p')) pos.line X.env=pure false›) :
  fZ T E X (.Assign [.Attribute o f p'] a pos) (gW c i so sa):=by
 obtain⟨C,hC,hcl,hna⟩:=CFc.ex;refine gR (Fd ho ha hs) λD σ H=>E6x λι h en S er q=>⟨ι,h,en,S,er,q.go er λy h1 ι1 H1 v g1 S1 r1 q1=>⟨ι1,h1,en,S1,er.mono g1,q1.go (er.mono g1) λx h2 ι2 H2 u g2 S2 r2 q2=>?_⟩⟩
 split at q2
 ·rename_i n
  split at q2
  ·rename_i c' fs hn
   split at q2
   ·rename_i ec
    subst ec
    cases r2 with
    |@ref _ a hr =>
     obtain⟨o,e1,C',dx,fus,hC',rfl,nd,hw,hl,hr2⟩:=S2.obj n _ a hn hr;rw[hC] at hC';cases hC'
     have hmem:f∈T.fields c':=OE hf;have hlen:fus.length<1000:=by
      have:=zA nd (m:=T.fields c') (λx hx=>by
       obtain⟨p,hp,rfl⟩:=PH.mp hx;exact hw p hp)
      have:=T.few c';rw[Oh] at *
      lia
     obtain⟨k1,k2⟩:=zy f v nd;have g3:=S2.growSet (u:=.ins C dx (bA f v fus)) hr;refine⟨a,C,dx,fus,rfl,e1,hK▸hcl,hK▸hna f hmem,hlen,q2 ι2 _ σ g3 (S2.set hr ⟨C,dx,bA f v fus,hC,rfl,k1,λp hp=>?_,by simp[hl],λj w hj=>?_⟩) (er.mono (g1.trans (g2.trans g3)))⟩
     ·rcases k2 p.1 (PH.mpr ⟨p,hp,rfl⟩) with z|z
      ·rw[z];exact hmem
      ·obtain⟨p',hp',e⟩:=PH.mp z
       rw[<- e];exact hw p' hp'
     ·by_cases hji:j=i
      ·subst hji
       have hjl:j<fs.length:=by
        have:=(NZ.mp hj).1;simpa using this
       rw[Ob hjl] at hj
       cases hj
       exact⟨f,v,hf,by rw[ql,Of rfl],r1.mono (g2.trans g3)⟩
      ·rw[N8 (Ne.symm hji)] at hj
       obtain⟨f',u,e2,e3,r3⟩:=hr2 j w hj;have ne:f'≠f:=λz=>hji (qf (T.nd c') e2 (z▸hf))
       exact⟨f',u,e2,by rw[ql,Og ne];exact e3,r3.mono g3⟩
   ·exact(show False from q2).elim
  ·exact(show False from q2).elim
 ·exact(show False from q2).elim
end
def oH{T:Tb}{ι:Ix}{H:Hp}{k:aJ}{u:V}(r:RV T ι H (kA k) u):u=kV k:=by
 cases k with
 |inl i=>exact bE r
 |inr x=>exact(eR r).1
def kY{k j:aJ}(e:kA k=kA j):k=j:=by
 cases k<;>cases j<;>simp[kA] at e<;>simp[e]
theorem uY:∀ {ks js:List aJ},ks.map kA=js.map kA->ks=js
 |[],[],_=>rfl
 |[],_::_,e=>by simp at e
 |_::_,[],e=>by simp at e
 |k::ks,j::js,e=>by
  simp only[Ot,List.cons.injEq] at e
  rw[kY e.1,uY e.2]
theorem zB{T:Tb}{ι:Ix}{H:Hp}:∀ {ks:List aJ} {us:List V},RVs T ι H (ks.map kA) us->us=ks.map kV
 |[],_,.nil=>rfl
 |k::ks,_,.cons r rs=>by rw[oH r,zB rs];rfl
def oI{v:AV}{k:aJ}(e:keyOf? v=some k):v=kA k:=by
 unfold keyOf? at e
 split at e<;>cases e<;>rfl
theorem qY:∀ {vs:List AV} {ks:List aJ},keysOf? vs=some ks->vs=ks.map kA
 |[],_,e=>by cases e;rfl
 |v::vs,ks,e=>by
  unfold keysOf? at e
  split at e
  ·rename_i k ks' e1 e2
   cases e
   rw[oI e1,qY e2];rfl
  ·cases e
theorem mQ{κ:Type}[DecidableEq κ]{T:Tb}{ι:Ix}{H:Hp}{f:κ->AV}(hf:∀ {a b},f a=f b->a=b){k:κ}:∀ {kvs:List (AV×AV)} {kus:List (κ×V)},Paired (λ(p:AV×AV) (q:κ×V)=>p.1=f q.1/\RV T ι H p.2 q.2) kvs kus ->
  (aU kvs (f k)=none/\bG kus k=none)\/∃ v u,aU kvs (f k)=some v/\bG kus k=some u/\RV T ι H v u
 |_,_,.nil=>.inl ⟨rfl,rfl⟩
 |(a,v)::kvs,(j,u)::kus,.cons ⟨e,r⟩ rs=>by
  by_cases h:j=k
  ·subst h
   replace e:a=f j:=e
   subst e;exact .inr ⟨v,u,by simp[aU],qu rfl,r⟩
  ·have h':¬ a=f k:=λz=>h (hf (e.symm.trans z))
   rcases mQ hf rs (k:=k) with⟨h1,h2⟩|⟨v',u',h1,h2,h3⟩
   ·refine .inl ⟨?_,by rw[oj h];exact h2⟩
    unfold aU at h1 ⊢
    rw[O2,OB h'];exact h1
   ·refine .inr ⟨v',u',?_,by rw[oj h];exact h2,h3⟩
    unfold aU at h1 ⊢
    rw[O2,OB h'];exact h1
def uZ{kvs:List (AV×AV)}{k:AV}:(kvs.any λp=>decide (p.1=k))=(aU kvs k).isSome:=by
 induction kvs with
 |nil=>rfl
 |cons p r ih =>
  unfold aU at ih ⊢
  rw[Pu,O2,ih]
  cases h:decide (p.1=k)<;>simp
def zC{κ:Type}[DecidableEq κ]{T:Tb}{ι:Ix}{H:Hp}{f:κ->AV}(hf:∀ {a b},f a=f b->a=b){k:κ}{v:AV}{u:V}(rv:RV T ι H v u){kvs:List (AV×AV)}{kus:List (κ×V)}(r:Paired (λ(p:AV×AV) (q:κ×V)=>p.1=f q.1/\RV T ι H p.2 q.2) kvs kus) :
  Paired (λ(p:AV×AV) (q:κ×V)=>p.1=f q.1/\RV T ι H p.2 q.2) (d9 kvs (f k) v) (cu kus k u):=by
 have e:(kvs.any λp=>decide (p.1=f k))=kus.any λkv=>decide (kv.1=k):=by
  rw[uZ,qv];rcases mQ hf r (k:=k) with⟨h1,h2⟩|⟨v',u',h1,h2,h3⟩
  ·rw[h1,h2];rfl
  ·rw[h1,h2];rfl
 unfold d9 cu;rw[e];by_cases h:(kus.any λkv=>decide (kv.1=k))=true
 ·rw[Of h,Of h]
  clear e h;induction r with
  |nil=>exact .nil
  |cons p rs ih =>
   rename_i a b l1 l2;refine .cons ?_ ih
   obtain⟨e1,r1⟩:=p;dsimp only;by_cases hk:b.1=k
   ·rw[Of hk,Of (by rw[e1,hk])]
    exact⟨e1,rv⟩
   ·rw[Og hk,Og (λz=>hk (hf (e1.symm.trans z)))]
    exact⟨e1,r1⟩
 ·rw[Og h,Og h]
  have app:∀ {l1:List (AV×AV)} {l2:List (κ×V)},Paired (λ(p:AV×AV) (q:κ×V)=>p.1=f q.1/\RV T ι H p.2 q.2) l1 l2->Paired (λ(p:AV×AV) (q:κ×V)=>p.1=f q.1/\RV T ι H p.2 q.2) (l1++[(f k,v)]) (l2++[(k,u)]):=λz=>by
   induction z with
   |nil=>exact .cons ⟨rfl,rv⟩ .nil
   |cons p _ ih=>exact .cons p ih
  exact app r
section
variable{T:Tb}{ι:Ix}{h:AH}{H:Hp}
def oJ{xs:List AV}{u:V}{ks:List aJ}(r:RV T ι H (.tup xs) u)(e:keysOf? xs=some ks):∃ b,u=.ref b/\KTup H b ks:=by
 have:=qY e;subst this
 cases r with
 |tup n q r=>exact⟨_,rfl,.of (by rw[<- zB r];exact q)⟩
def qZ{n:Nat}{t:Bool}{kvs:List (AV×AV)}{y:AV}{a:ZE}{w:V}(S:Sim T ι h H)(hn:h[n]?=some (.dct t kvs))(hr:ι.refs[n]?=some a)(ry:RV T ι H y w)(hk:dW t y=true) :
  ∃ o,DGet H a w o/\((aU kvs y=none/\o=none)\/∃ v u,aU kvs y=some v/\o=some u/\RV T ι H v u):=by
 obtain⟨ob,e1,r⟩:=S.obj n _ a hn hr
 cases t with
 |false =>
  obtain⟨kus,rfl,r⟩:=r;have hk':(keyOf? y).isSome=true:=hk;obtain⟨k,ek⟩:=Oz.mp hk';have:=oI ek;subst this;rw[oH ry];refine⟨bG kus k,.k e1,?_⟩
  rcases mQ kY r (k:=k) with⟨h1,h2⟩|⟨v',u',h1,h2,h3⟩
  ·exact .inl ⟨h1,h2⟩
  ·exact .inr ⟨v',u',h1,h2,h3⟩
 |true =>
  obtain⟨kus,rfl,r⟩:=r;unfold dW at hk;split at hk
  ·rename_i hh;cases hh
  ·rename_i xs hh
   obtain⟨ks,ek⟩:=Oz.mp hk;obtain⟨b,rfl,hb⟩:=oJ ry ek;have:=qY ek;subst this;refine⟨bG kus ks,.t e1 hb,?_⟩
   rcases mQ (f:=λks:List aJ=>AV.tup (ks.map kA)) (λe=>uY (by injection e)) r (k:=ks) with⟨h1,h2⟩|⟨v',u',h1,h2,h3⟩
   ·exact .inl ⟨h1,h2⟩
   ·exact .inr ⟨v',u',h1,h2,h3⟩
  ·cases hk
def IL{n:Nat}{t:Bool}{kvs:List (AV×AV)}{y z:AV}{a:ZE}{w u:V}(S:Sim T ι h H)(hn:h[n]?=some (.dct t kvs))(hr:ι.refs[n]?=some a)(ry:RV T ι H y w)(rz:RV T ι H z u)(hk:dW t y=true)(hl:kvs.length<sizeLine) :
  ∃ H',DPut H a w u H'/\Grow ι H ι H'/\Sim T ι (h.set n (.dct t (d9 kvs y z))) H':=by
 obtain⟨ob,e1,r⟩:=S.obj n _ a hn hr
 cases t with
 |false =>
  obtain⟨kus,rfl,r⟩:=r;have hk':(keyOf? y).isSome=true:=hk;obtain⟨k,ek⟩:=Oz.mp hk';have:=oI ek;subst this;rw[oH ry];have g:=S.growSet (u:=.dK (cu kus k u)) hr
  exact⟨_,.k e1 (by rw[<- Paired.length r];exact hl),g,S.set hr ⟨_,rfl,zC kY (rz.mono g) (Paired.mapP r λ_ _ ⟨p,q⟩=>⟨p,q.mono g⟩)⟩⟩
 |true =>
  obtain⟨kus,rfl,r⟩:=r;unfold dW at hk;split at hk
  ·rename_i hh;cases hh
  ·rename_i xs hh
   obtain⟨ks,ek⟩:=Oz.mp hk;obtain⟨b,rfl,hb⟩:=oJ ry ek;have:=qY ek;subst this;have g:=S.growSet (u:=.dT none (cu kus ks u)) hr
   exact⟨_,.t e1 hb (by rw[<- Paired.length r];exact hl),g,S.set hr ⟨_,rfl,zC (f:=λks:List aJ=>AV.tup (ks.map kA)) (λe=>uY (by injection e)) (rz.mono g) (Paired.mapP r λ_ _ ⟨p,q⟩=>⟨p,q.mono g⟩)⟩⟩
  ·cases hk
def RVs.atI{xs:List AV}{us:List V}{i:Int}{v:AV}(r:RVs T ι H xs us)(e:atI xs i=some v):∃ u,L2.atI us i=some u/\RV T ι H v u:=by
 unfold L2.atI at e ⊢
 rw[<- r.length];obtain⟨j,e1,e2⟩:=Rr.mp e
 obtain⟨u,e3,r3⟩:=r.get e2;exact⟨u,by rw[e1];exact e3,r3⟩
end
section
variable{T:Tb}{E:St->XK}{X:Cx}{pos:Pos}{a b c:Expr}{sa sb sc:SE}
def IM{e:Expr}{t t':TE}(h:PE X e t)(h':PE X e t'):PE X e (λσ H Q=>t σ H Q\/t' σ H Q):=(λpins s σ H Q I q=>q.elim (h pins s σ H Q I) (h' pins s σ H Q I))
def IP{e:Stmt}{t t':TS}(h:PS X e t)(h':PS X e t'):PS X e (λD σ H=>t D σ H\/t' D σ H):=(λpins s σ H Q I q=>q.elim (h pins s σ H Q I) (h' pins s σ H Q I))
def aX(hK:X.K=T.K)(hu:X.A.units+64<cLine)(ha:aF T E X a sa)(hb:aF T E X b sb)(hs:qr b:=by(repeat intro _);rfl):aF T E X (.Subscript a b pos) (ah ao sa sb):=by
 refine bO (IM (yl FC ha hb hs) (yw (Ol (OD (by decide:1<=64) _) hu) ha hb hs)) λσ H Q q=>?_
 obtain⟨ι,h,en,S,er,q⟩:=q;have left:(∀ x h1 y h2,sa en h=.ok x h1->sb en h1=.ok y h2->∀ n t kvs,x=.ref n->h2[n]?=some (.dct t kvs)->False)->mG (ym X.K) (tE T E sa) (tE T E sb) σ H Q:=λno=>by
  refine⟨ι,h,en,S,er,?_⟩
  unfold ah at q
  cases e1:sa en h with
  |bad=>rw[e1] at q;exact q
  |ex c h1=>rw[e1] at q;exact q
  |ok x h1 =>
   rw[e1] at q;intro ι1 H1 u g1 S1 r1
   refine⟨ι1,h1,en,S1,er.mono g1,?_⟩
   dsimp only[Out.bind] at q
   cases e2:sb en h1 with
   |bad=>rw[e2] at q;exact q
   |ex c h2=>rw[e2] at q;exact Post.shift (R:=RV T) (o:=.ex c h2) q g1
   |ok y h2 =>
    rw[e2] at q;intro ι2 H2 w g2 S2 r2
    have q2:=Post.shift q (g1.trans g2);have r1':=r1.mono g2;dsimp only at q2;unfold ao at q2;split at q2
    ·rename_i z i
     split at q2
     ·rename_i cc hc
      obtain⟨rfl,zl,zo⟩:=eR r1';rw[bE r2];refine .inr (.inr ⟨z,i,cc,rfl,rfl,zl,hc,q2.now S2 (.str (show 1<=sizeLine by decide) ?_)⟩)
      obtain⟨j,_,e3,_⟩:=qp hc;have m:cc∈z.cps:=by
       have:=OE e3;simpa using this
      have:=O9.mp zo _ m;simpa using this
     ·exact q2.elim
    ·rename_i xs i
     split at q2
     ·rename_i v hv
      obtain⟨b,us,rfl,sq,rs⟩:=kR r1';obtain⟨u2,e3,r3⟩:=rs.atI hv;rw[bE r2];exact .inr (.inl ⟨b,us,i,u2,rfl,rfl,hK▸sq,e3,q2.now S2 r3⟩)
     ·exact q2.elim
    ·rename_i xs i
     split at q2
     ·rename_i v hv
      obtain⟨b,us,rfl,sq,rs⟩:=gC S2 r1' rfl;obtain⟨u2,e3,r3⟩:=rs.atI hv;rw[bE r2];exact .inl ⟨b,us,i,u2,rfl,rfl,hK▸sq,e3,q2.now S2 r3⟩
     ·exact q2.elim
    ·rename_i n
     split at q2
     ·rename_i xs hn
      split at q2
      ·rename_i i
       split at q2
       ·rename_i v hv
        obtain⟨b,us,rfl,sq,rs⟩:=gC (xs:=xs) S2 r1' (by simp[d8,hn]);obtain⟨u2,e3,r3⟩:=rs.atI hv;rw[bE r2];exact .inl ⟨b,us,i,u2,rfl,rfl,hK▸sq,e3,q2.now S2 r3⟩
       ·exact q2.elim
      ·exact q2.elim
     ·rename_i t kvs hn
      exact(no _ h1 _ h2 e1 e2 n t kvs rfl hn).elim
     ·exact q2.elim
    ·exact q2.elim
 by_cases dd:∃ x h1 y h2,sa en h=.ok x h1/\sb en h1=.ok y h2/\∃ n t kvs,x=.ref n/\h2[n]?=some (.dct t kvs)
 ·obtain⟨x,h1,y,h2,e1,e2,n,t,kvs,rfl,hn⟩:=dd
  refine .inr ⟨ι,h,en,S,er,?_⟩
  unfold ah at q;rw[e1] at q ⊢;intro ι1 H1 u g1 S1 r1
  refine⟨ι1,h1,en,S1,er.mono g1,?_⟩
  dsimp only[Out.bind] at q;rw[e2] at q ⊢;intro ι2 H2 w g2 S2 r2
  have q2:=Post.shift q (g1.trans g2);have r1':=r1.mono g2;dsimp only at q2;unfold ao at q2;simp only[hn] at q2
  split at q2
  ·rename_i hk
   cases r1' with
   |@ref _ ad hr =>
    obtain⟨o,dg,alt⟩:=qZ S2 hn hr r2 hk;rcases alt with⟨v1,rfl⟩|⟨v,u,v1,rfl,r3⟩
    ·rw[v1] at q2;exact q2.elim
    ·rw[v1] at q2
     exact⟨ad,u,rfl,dg,q2.now S2 r3⟩
  ·exact q2.elim
 ·exact .inl (left λx h1 y h2 e1 e2 n t kvs e3 e4=>dd ⟨x,h1,y,h2,e1,e2,n,t,kvs,e3,e4⟩)
def rf{p':Pos}(hu:X.A.units+64<cLine)(ho:aF T E X a sa)(hi:aF T E X b sb)(hv:aF T E X c sc)(hs:‹swapsWith c (some (.Subscript a b p')) pos.line X.env=pure false›)(hs':‹swapsWithSole [.Subscript a b p'] c pos.line X.env=pure false›)(hw:‹swappedStores [.Subscript a b p'] c X.env=pure none›)
  (h1:‹(assignEach [.Subscript a b p'] X.env).map (·.2)=[assign (.Subscript a b p') X.env]›)
  (has:autoParam (∀ v,assign (.Subscript a b p') X.env v=(do
   let ov <- holding [v] (eval a X.env)
   let iv <- holding [v,ov] (eval b X.env)
   standAt p'
   holding [v,ov,iv] (setItem ov iv v)
   release [v,ov,iv] [])) L2.Eh._auto_1):fZ T E X (.Assign [.Subscript a b p'] c pos) (fw sa sb sc):=by
 refine gR (IP (xT hv (Eh ho hi FG has) hs' hw h1) (Gc (Ol (OD (by decide:1<=64) _) hu) ho hi hv hs)) λD σ H q=>?_
 obtain⟨ι,h,en,S,er,q⟩:=q;unfold fw at q;by_cases dd:∃ z h1 x h2 y h3,sc en h=.ok z h1/\sa en h1=.ok x h2/\sb en h2=.ok y h3/\∃ n t kvs,x=.ref n/\h3[n]?=some (.dct t kvs)
 ·obtain⟨z,h1,x,h2,y,h3,e1,e2,e3,n,t,kvs,rfl,hn⟩:=dd
  refine .inr ⟨ι,h,en,S,er,?_⟩
  rw[e1] at q ⊢;intro ι1 H1 u g1 S1 r1
  refine⟨ι1,h1,en,S1,er.mono g1,?_⟩
  dsimp only[Out.go] at q;rw[e2] at q ⊢;intro ι2 H2 w g2 S2 r2
  refine⟨ι2,h2,en,S2,er.mono (g1.trans g2),?_⟩
  dsimp only at q;rw[e3] at q ⊢;intro ι3 H3 j g3 S3 r3
  have q2:=PostS.shift q (g1.trans (g2.trans g3));simp only[hn] at q2
  split at q2
  ·rename_i hk
   cases (r2.mono g3) with
   |@ref _ ad hr =>
    obtain⟨H4,dp,g4,S4⟩:=IL S3 hn hr r3 (r1.mono (g2.trans g3)) hk.1 hk.2;exact⟨ad,H4,rfl,dp,q2 ι3 H4 σ g4 S4 (er.mono (g1.trans (g2.trans (g3.trans g4))))⟩
  ·exact q2.elim
 ·refine .inl ⟨ι,h,en,S,er,?_⟩
  cases e1:sc en h with
  |bad=>rw[e1] at q;exact q
  |ex cc h1=>rw[e1] at q;exactλi2 H2 C g S e=>q i2 H2 σ C g S (er.mono g) e
  |ok z h1 =>
   rw[e1] at q;intro ι1 H1 u g1 S1 r1
   refine⟨ι1,h1,en,S1,er.mono g1,?_⟩
   dsimp only[Out.go] at q
   cases e2:sa en h1 with
   |bad=>rw[e2] at q;exact q
   |ex cc h2=>rw[e2] at q;exactλi2 H2 C g S e=>q i2 H2 σ C (g1.trans g) S (er.mono (g1.trans g)) e
   |ok x h2 =>
    rw[e2] at q;intro ι2 H2 w g2 S2 r2
    refine⟨ι2,h2,en,S2,er.mono (g1.trans g2),?_⟩
    dsimp only at q
    cases e3:sb en h2 with
    |bad=>rw[e3] at q;exact q
    |ex cc h3=>rw[e3] at q;exactλi2 H2 C g S e=>q i2 H2 σ C (g1.trans (g2.trans g)) S (er.mono (g1.trans (g2.trans g))) e
    |ok y h3 =>
     rw[e3] at q;intro ι3 H3 j g3 S3 r3
     have q2:=PostS.shift q (g1.trans (g2.trans g3));dsimp only at q2;split at q2
     ·rename_i n
      split at q2
      ·rename_i xs hn
       split at q2
       ·rename_i k
        split at q2
        ·rename_i jj hj
         cases (r2.mono g3) with
         |@ref _ ad hr =>
          obtain⟨o,e4,us,rfl,rs⟩:=S3.obj n _ ad hn hr;have g4:=S3.growSet (u:=.lst (us.set jj u)) hr;rw[bE r3];exact⟨ad,us,k,jj,rfl,rfl,e4,by rw[<- rs.length];exact hj,q2 ι3 _ σ g4 (S3.set hr ⟨_,rfl,RVs.set (r1.mono (g2.trans (g3.trans g4))) jj (rs.mono g4)⟩) (er.mono (g1.trans (g2.trans (g3.trans g4))))⟩
        ·exact q2.elim
       ·exact q2.elim
      ·rename_i t kvs hn
       exact(dd ⟨_,h1,_,h2,_,h3,e1,e2,e3,n,t,kvs,rfl,hn⟩).elim
      ·exact q2.elim
     ·exact q2.elim
def zD{g:ZC->ZC->Sem ZC}{r:R2}{neg:Bool}(hK:X.K=T.K)
  (h1:∀ (i j:Str) H Q,Q (V.bl (if neg then !(!(Builtin.Str.occurrences j i 0 j.length 1).isEmpty) else !(Builtin.Str.occurrences j i 0 j.length 1).isEmpty)) H->r (.str i) (.str j) H Q)
  (h2:∀ x y H Q p xs d ds,y=V.ref p->SqL T.K H p xs->DaV T.K H x d->DaVs T.K H xs ds->d.canLay0=true->(∀ e∈ds,e.canLay0=true/\e.depth<=30)->Q (V.bl (if neg then !(ds.any λe=>PyData.eqv e d) else ds.any λe=>PyData.eqv e d)) H->r x y H Q)
  (h2t:∀ x y H Q p xs d ds,y=V.ref p->SqT T.K H p xs->DaV T.K H x d->DaVs T.K H xs ds->d.canLay0=true->(∀ e∈ds,e.canLay0=true/\e.depth<=30)->Q (V.bl (if neg then !(ds.any λe=>PyData.eqv e d) else ds.any λe=>PyData.eqv e d)) H->r x y H Q)
  (h3:∀ (y:V) (a:ZE) o H Q,DGet H a y o->Q (V.bl (if neg then !o.isSome else o.isSome)) H->r y (.ref a) H Q) :
  mL T (λx y h=>match j0 x y h with|some b=>.ok (.bl (if neg then !b else b)) h|none=>.bad) r:=by
 intro ι h H x y u w E Q S rx ry p;dsimp only at p
 cases hb:j0 x y h with
 |none=>rw[hb] at p;exact p.elim
 |some b =>
  rw[hb] at p;dsimp only at p
  unfold j0 at hb;split at hb
  ·cases hb
   obtain⟨rfl,_⟩:=eR rx;obtain⟨rfl,_⟩:=eR ry;exact h1 _ _ _ _ (p.now S (.bl _))
  ·rename_i n
   split at hb
   ·rename_i t kvs hn
    split at hb
    ·rename_i hk
     cases hb
     cases ry with
     |@ref _ ad hr =>
      obtain⟨o,dg,alt⟩:=qZ S hn hr rx hk;refine h3 u ad o H Q dg ?_
      rcases alt with⟨v1,rfl⟩|⟨v,u',v1,rfl,r3⟩
      ·rw[v1] at p;exact p.now S (.bl _)
      ·rw[v1] at p;exact p.now S (.bl _)
    ·cases hb
   ·rename_i xs hn
    split at hb
    ·rename_i d ds e1 e2
     cases hb
     obtain⟨a,us,rfl,sq,rs⟩:=gC (xs:=xs) S ry (by simp[d8,hn]);obtain⟨q1,q2,q3⟩:=i6 S 8 rx e1;obtain⟨q4,q5⟩:=oB (n:=8) (λr e=>i6 S 8 r e) rs e2;exact h2 _ _ _ _ a us d ds rfl sq q1 q4 q2 (λe he=>⟨(q5 e he).1,by have:=(q5 e he).2;lia⟩) (p.now S (.bl _))
    ·cases hb
   ·cases hb
  ·rename_i xs
   split at hb
   ·rename_i d ds e1 e2
    cases hb
    obtain⟨a,us,rfl,sq,rs⟩:=gC S ry rfl;obtain⟨q1,q2,q3⟩:=i6 S 8 rx e1;obtain⟨q4,q5⟩:=oB (n:=8) (λr e=>i6 S 8 r e) rs e2;exact h2 _ _ _ _ a us d ds rfl sq q1 q4 q2 (λe he=>⟨(q5 e he).1,by have:=(q5 e he).2;lia⟩) (p.now S (.bl _))
   ·cases hb
  ·rename_i xs
   split at hb
   ·rename_i d ds e1 e2
    cases hb
    obtain⟨a,us,rfl,sq,rs⟩:=kR ry;obtain⟨q1,q2,q3⟩:=i6 S 8 rx e1;obtain⟨q4,q5⟩:=oB (n:=8) (λr e=>i6 S 8 r e) rs e2;exact h2t _ _ _ _ a us d ds rfl sq q1 q4 q2 (λe he=>⟨(q5 e he).1,by have:=(q5 e he).2;lia⟩) (p.now S (.bl _))
   ·cases hb
  ·cases hb
end
end Sm
namespace L2
open PySem PySem.Spec PyProof.Rows
section
variable{X:Cx}{pins:List (ZE×Obj)}{σ:St}{H:Hp}{s:ZB}
def u0(I:Inv X pins σ H s)(hu:X.A.units+64<cLine){xs:List V}{ds:List PyData}{its:List ZC}{d:PyData}{v:ZC}{as:List ZE}(ra:Reads s.heap v d as)(hds:DaVs X.K H xs ds)(r:Vals xs its)(cd:d.canLay0=true)(cds:∀ e∈ds,e.canLay0=true/\e.depth<=30) :
  (∀ y,y∈its.toArray->SeqAt.EqAt X.A.in1 s y v (iE s.heap d y))/\its.toArray.any (iE s.heap d)=ds.any λe=>PyData.eqv e d:=by
 obtain⟨hl,hat⟩:=uH I hds r;constructor
 ·intro y hy
  have hy':y∈its:=by simpa using hy
  obtain⟨j,hj⟩:=R5 hy';have hlt:=(NZ.mp hj).1;have hdj:ds[j]?=some (ds[j]'⋯):=On ⋯;obtain⟨bs,rb⟩:=hat j _ _ hj hdj;have cj:=cds _ (OE hdj);rw[isD_of cj.1 rb];exact SeqAt.eqAt_reads _ _ _ _ _ _ _ _ rb ra cj.1 cd (by
   have:=Qq (ds[j]'⋯).depth d.depth;show X.A.units+1+_<cLine
   lia)
 ·rw[<- Rp]
  refine uJ hl λj u e h1 h2=>?_
  obtain⟨bs,rb⟩:=hat j _ _ h1 h2;exact isD_of (cds _ (OE h2)).1 rb
def IQ(K:ZA):R2:=λx y H Q=>∃ p xs d ds,y=.ref p/\SqL K H p xs/\DaV K H x d/\DaVs K H xs ds/\d.canLay0=true/\(∀ e∈ds,e.canLay0=true/\e.depth<=30)/\Q (.bl (!(ds.any λe=>PyData.eqv e d))) H
def IS(K:ZA):R2:=λx y H Q=>∃ p xs d ds,y=.ref p/\SqT K H p xs/\DaV K H x d/\DaVs K H xs ds/\d.canLay0=true/\(∀ e∈ds,e.canLay0=true/\e.depth<=30)/\Q (.bl (ds.any λe=>PyData.eqv e d)) H
def IT(K:ZA):R2:=λx y H Q=>∃ p xs d ds,y=.ref p/\SqT K H p xs/\DaV K H x d/\DaVs K H xs ds/\d.canLay0=true/\(∀ e∈ds,e.canLay0=true/\e.depth<=30)/\Q (.bl (!(ds.any λe=>PyData.eqv e d))) H
def IU(hu:X.A.units+64<cLine):OpR X (compareOp .NotIn) (IQ X.K):=by
 intro pins s σ H x y v u Q I rx ry h;obtain⟨p,xs,d,ds,rfl,hq,hd,hds,cd,cds,q⟩:=h
 cases ry
 obtain⟨its,r,pl,hz⟩:=I.list hq;obtain⟨as,ra⟩:=hd.reads I rx;obtain⟨h1,h2⟩:=u0 I hu ra hds r cd cds;exact SeqAt.notIn_listAt (iE s.heap d) pl.isList h1 ⟨.bl _,H,I,rfl,by rw[h2];exact q⟩
def IV(hu:X.A.units+64<cLine):OpR X (compareOp .In) (IS X.K):=by
 intro pins s σ H x y v u Q I rx ry h;obtain⟨p,xs,d,ds,rfl,hq,hd,hds,cd,cds,q⟩:=h
 cases ry
 obtain⟨its,r,pl,hz⟩:=I.tuple hq;obtain⟨as,ra⟩:=hd.reads I rx;obtain⟨h1,h2⟩:=u0 I hu ra hds r cd cds;exact SeqAt.in_tupleAt (iE s.heap d) pl h1 ⟨.bl _,H,I,rfl,by rw[h2];exact q⟩
def IW(hu:X.A.units+64<cLine):OpR X (compareOp .NotIn) (IT X.K):=by
 intro pins s σ H x y v u Q I rx ry h;obtain⟨p,xs,d,ds,rfl,hq,hd,hds,cd,cds,q⟩:=h
 cases ry
 obtain⟨its,r,pl,hz⟩:=I.tuple hq;obtain⟨as,ra⟩:=hd.reads I rx;obtain⟨h1,h2⟩:=u0 I hu ra hds r cd cds;exact SeqAt.notIn_tupleAt (iE s.heap d) pl h1 ⟨.bl _,H,I,rfl,by rw[h2];exact q⟩
def IX(hu:X.A.units+64<cLine):OpR X (compareOp .In) (λx y H Q=>∃ a o,y=.ref a/\DGet H a x o/\Q (.bl o.isSome) H):=by
 intro pins s σ H x y v u Q I rx ry h;obtain⟨a,o,rfl,g,q⟩:=h
 cases ry
 exact um (Ol (OD (by decide:1<=64) _) hu) I g rx λs' I'=>⟨.bl _,H,I',rfl,q⟩
def IY(hu:X.A.units+64<cLine):OpR X (compareOp .NotIn) (λx y H Q=>∃ a o,y=.ref a/\DGet H a x o/\Q (.bl (!o.isSome)) H):=by
 intro pins s σ H x y v u Q I rx ry h;obtain⟨a,o,rfl,g,q⟩:=h
 cases ry
 exact FV (Ol (OD (by decide:1<=64) _) hu) I g rx λs' I'=>⟨.bl _,H,I',rfl,q⟩
end
end L2
namespace Sm
open PySem PySem.Spec L2
section
variable{T:Tb}{E:St->XK}{X:Cx}
def oK(hK:X.K=T.K)(hu:X.A.units+64<cLine):Op T X (compareOp .In) qH:=by
 refine⟨_,zg5.or ((HB hu).or ((IV hu).or (IX hu))),zD (neg:=false) (g:=compareOp .In) hK ?_ ?_ ?_ ?_⟩
 ·exactλi j H Q q=>.inl ⟨i,j,rfl,rfl,q⟩
 ·exactλx y H Q p xs d ds e1 e2 e3 e4 e5 e6 q=>.inr (.inl ⟨p,xs,d,ds,e1,hK▸e2,hK▸e3,hK▸e4,e5,e6,q⟩)
 ·exactλx y H Q p xs d ds e1 e2 e3 e4 e5 e6 q=>.inr (.inr (.inl ⟨p,xs,d,ds,e1,hK▸e2,hK▸e3,hK▸e4,e5,e6,q⟩))
 ·exactλy a o H Q g q=>.inr (.inr (.inr ⟨a,o,rfl,g,q⟩))
def mR(hK:X.K=T.K)(hu:X.A.units+64<cLine):Op T X (compareOp .NotIn) dB:=by
 refine⟨_,zeB.or ((IU hu).or ((IW hu).or (IY hu))),zD (neg:=true) (g:=compareOp .NotIn) hK ?_ ?_ ?_ ?_⟩
 ·exactλi j H Q q=>.inl ⟨i,j,rfl,rfl,q⟩
 ·exactλx y H Q p xs d ds e1 e2 e3 e4 e5 e6 q=>.inr (.inl ⟨p,xs,d,ds,e1,hK▸e2,hK▸e3,hK▸e4,e5,e6,q⟩)
 ·exactλx y H Q p xs d ds e1 e2 e3 e4 e5 e6 q=>.inr (.inr (.inl ⟨p,xs,d,ds,e1,hK▸e2,hK▸e3,hK▸e4,e5,e6,q⟩))
 ·exactλy a o H Q g q=>.inr (.inr (.inr ⟨a,o,rfl,g,q⟩))
end
abbrev u7(x:Str)(C:ZE)(mg:Str->Option ZC)(base:Heap):Prop:=PyProof.Rows.OwnCls x C [.type "ValueError",.type "Exception",.type "BaseException",.type "object"] "ValueError.__new__" mg base
structure GX(T:Tb)(mg:Str->Option ZC)(base:Heap)(c:Nat)(x:Str):Prop where
 ex:∃ C,T.exc c=some C/\u7 x C mg base
section
variable{T:Tb}{E:St->XK}{X:Cx}{pos np cpos:Pos}{e:Expr}{es:List Expr}{x:Str}{c:Nat}{as:SL}
def u9 (G:GX T X.mg X.base c x) (hr:mI X E) (hg:Gl X x) (ha:fT T E X (e::es) as) (h6:(c<64)⁻¹) (hc:‹X.calm=true›) (hex:‹X.ex=[]›)
  (hdb:((x == ("__debug__" : Str))=false)⁻¹) (he:‹qE1 e es X.env›) (hpl:‹qF1 cpos es X.env›) :
  fZ T E X (.Raise (some (.Call (.Name x np) (e::es) [] cpos)) none pos) (kN c as):=by
 obtain⟨C,h1,O⟩:=G.ex;refine gR (Hh O PySem.F.excBase_ValueError hc hex hr hg ha hdb he hpl) λD σ H=>E6x λι h en S er q=>⟨ι,h,en,S,er,q.go er λxs h1' ι1 H1 us g1 S1 r1 q1=>?_⟩
 split at q1
 ·rename_i hl
  exact⟨by rw[<- r1.length];exact hl,q1 ι1 H1 σ (C,none) S1.refl S1 (er.mono g1) ⟨h1,HX h6⟩⟩
 ·exact q1.elim
end
def ij(T:Tb)(f:Fn)(r:List V->Hp->VK->Prop):Prop:=∀ (ι:Ix) (h:AH) (H:Hp) (xs:List AV) (us:List V) (E:XK) (Q:VK),Sim T ι h H->RVs T ι H xs us->Post T ι H E (RV T) (f xs h) Q->r us H Q
section
variable{T:Tb}{E:St->XK}{X:Cx}{pos p:Pos}{e a:Expr}{es:List Expr}{x:Str}{as:SL}{sa:SE}
def zE{f:Fn}{r:List V->Hp->VK->Prop}(hs:ij T f r){σ:St}{H:Hp}{Q:VK}(q:tE T E (au f as) σ H Q):ue r (tA T E as) σ H Q:=by
 obtain⟨ι,h,en,S,er,q⟩:=q;exact⟨ι,h,en,S,er,q.bind λxs h1 ι1 H1 us g1 S1 r1 q1=>hs ι1 h1 H1 xs us _ Q S1 r1 q1⟩
def br {id:String} {f:Fn} (hc:∃ r,CallR X (.builtin id) r/\ij T f r) (hg:Gl X x) (hm:X.mg x=none) (hv:bootBuiltins x=some (.builtin id)) (ha:fT T E X (e::es) as) (hn:x ≠ "__name__" := by decide) (hdb:((x == ("__debug__" : Str))=false)⁻¹)
  (he:‹qE1 e es X.env›) (hpl:‹qF1 pos es X.env›):aF T E X (.Call (.Name x p) (e::es) [] pos) (au f as):=by
 obtain⟨r,h1,h2⟩:=hc;exact bO (qo h1 hg hm hv ha hn hdb he hpl) λσ H Q q=>zE h2 q
def cS {id:String} {f:Fn} (hc:∃ r,CallR X (.type id) r/\ij T f r) (hg:Gl X x) (hm:X.mg x=none) (hv:bootBuiltins x=some (.type id)) (ha:fT T E X (e::es) as) (hn:x ≠ "__name__" := by decide) (hdb:((x == ("__debug__" : Str))=false)⁻¹)
  (he:‹qE1 e es X.env›) (hpl:‹qF1 pos es X.env›):aF T E X (.Call (.Name x p) (e::es) [] pos) (au f as):=by
 obtain⟨r,h1,h2⟩:=hc;exact bO (Fo h1 hg hm hv ha hn hdb he hpl) λσ H Q q=>zE h2 q
def No(hK:X.K=T.K):∃ r,CallR X (.builtin "len") r/\ij T aI r:=by
 refine⟨_,zeD.or (zeC.or GD),λι h H xs us E Q S r q=>?_⟩
 unfold aI at q;split at q
 ·cases r with
  |cons r r' =>
   cases r'
   obtain⟨rfl,n,_⟩:=eR r;exact .inl ⟨_,rfl,n,q.now S (.int _)⟩
 ·cases r with
  |cons r r' =>
   cases r'
   obtain⟨a,us,rfl,sq,rs⟩:=kR r;exact .inr (.inl ⟨a,us,rfl,.inr (hK▸sq),by rw[<- rs.length];exact q.now S (.int _)⟩)
 ·cases r with
  |cons r r' =>
   cases r'
   obtain⟨a,us,rfl,sq,rs⟩:=gC S r rfl;exact .inr (.inl ⟨a,us,rfl,.inl (hK▸sq),by rw[<- rs.length];exact q.now S (.int _)⟩)
 ·rename_i n
  cases r with
  |cons r r' =>
   cases r'
   split at q
   ·rename_i xs hn
    obtain⟨a,us,rfl,sq,rs⟩:=gC (xs:=xs) S r (by simp[d8,hn]);exact .inr (.inl ⟨a,us,rfl,.inl (hK▸sq),by rw[<- rs.length];exact q.now S (.int _)⟩)
   ·rename_i kvs hn
    cases r with
    |@ref _ ad hr =>
     obtain⟨o,e1,kus,rfl,rs⟩:=S.obj n _ ad hn hr;exact .inr (.inr ⟨ad,kus,rfl,e1,by rw[<- Paired.length rs];exact q.now S (.int _)⟩)
   ·exact q.elim
 ·exact q.elim
def LT:∃ r,CallR X (.builtin "abs") r/\ij T kO r:=by
 refine⟨_,EX,λι h H xs us E Q S r q=>?_⟩
 unfold kO at q;split at q
 ·cases r with
  |cons r r'=>cases r';rw[bE r];exact⟨_,rfl,q.now S (.int _)⟩
 ·exact q.elim
def kZ(hc:‹X.calm=true›):∃ r,CallR X (.builtin "max") r/\ij T fE r:=by
 refine⟨_,EY hc,λι h H xs us E Q S r q=>?_⟩
 unfold fE at q;split at q
 ·cases r with
  |cons r r'=>cases r' with
   |cons r1 r2=>cases r2;rw[bE r,bE r1];exact⟨_,_,rfl,q.now S (.int _)⟩
 ·exact q.elim
def zF(hc:‹X.calm=true›):∃ r,CallR X (.builtin "min") r/\ij T mK r:=by
 refine⟨_,EZ hc,λι h H xs us E Q S r q=>?_⟩
 unfold mK at q;split at q
 ·cases r with
  |cons r r'=>cases r' with
   |cons r1 r2=>cases r2;rw[bE r,bE r1];exact⟨_,_,rfl,q.now S (.int _)⟩
 ·exact q.elim
theorem zG{ι:Ix}{H:Hp}:∀ {xs:List AV} {us:List V} {bs:List Bool},RVs T ι H xs us->kP xs=some bs->us=bs.map V.bl
 |_,_,_,.nil,e=>by cases e;rfl
 |_,_,bs,.cons (x:=x) r rs,e=>by
  unfold kP at e;split at e
  ·rename_i hh;cases hh
  ·rename_i b r' hh
   cases hh
   obtain⟨bs',e1,rfl⟩:=Ow.mp e;rw[fU r,zG rs e1];rfl
  ·cases e
def L_(hK:X.K=T.K)(hc:‹X.calm=true›):∃ r,CallR X (.builtin "all") r/\ij T eQ r:=by
 refine⟨_,GW hc,λι h H xs us E Q S r q=>?_⟩
 unfold eQ at q;split at q
 ·split at q
  ·rename_i bs hb
   cases r with
   |cons r r' =>
    cases r'
    obtain⟨a,us,rfl,sq,rs⟩:=gC S r rfl;rw[zG rs hb] at sq;exact⟨a,bs,rfl,hK▸sq,q.now S (.bl _)⟩
  ·exact q.elim
 ·exact q.elim
def KK:∃ r,CallR X (.type "int") r/\ij T bC r:=by
 refine⟨_,E1,λι h H xs us E Q S r q=>?_⟩
 unfold bC at q;split at q
 ·cases r with
  |cons r r'=>cases r';rw[bE r];exact .inl ⟨_,rfl,q.now S (.int _)⟩
 ·cases r with
  |cons r r'=>cases r';rw[fU r];exact .inr ⟨_,rfl,q.now S (.int _)⟩
 ·exact q.elim
abbrev oM:List String:=["NoneType", "bool", "int", "str", "list", "tuple", "dict"]
def zH(K:ZA):∀ n∈oM,∀ t∈oM,PySem.W.kitOne K (.type n) (.type t)=some (n == t || (t == "int" && n == "bool")):=by
 intro n hn t ht;simp only[oM,Ov,PZ,Sj] at hn ht
 rcases hn with rfl|rfl|rfl|rfl|rfl|rfl|rfl<;>rcases ht with rfl|rfl|rfl|rfl|rfl|rfl|rfl<;>rfl
def IZ{c:V}{cv:ZC}(rc:∀ u,RelV c u->u=cv) :
  CallR X (.builtin "isinstance") (λxs H Q=>∃ a us r,xs=[.ref a,c]/\SqL X.K H a us/\PySem.W.kitOne X.K (.type "list") cv=some r/\Q (.bl r) H):=by
 intro pins s σ H xs us Q I r h;obtain⟨a,ws,k,rfl,sq,hk,q⟩:=h;obtain⟨u,w',rfl,rx,ry⟩:=n9 r;obtain rfl:=rc _ ry;obtain rfl:u=Value.ref a:=rx;obtain⟨its,_,⟨o,n,e1,e2,_⟩,_⟩:=I.list sq;exact O5 Q9 I.kIn ⟨_,e1,e2⟩ hk (λz=>nomatch z) λtk=>⟨.bl k,H,I.tok _,rfl,q⟩
def I0{ι:Ix}{h:AH}{H:Hp}{v:AV}{u:V}{n:String}(S:Sim T ι h H)(r:RV T ι H v u)(e:j1 v h=some n):(cP T.K H u (.type n)\/(n="list" /\ ∃ a us,u=.ref a/\SqL T.K H a us))/\n∈oM:=by
 unfold j1 at e
 cases r with
 |non=>cases e;exact⟨.inl .non,by decide⟩
 |bl b=>cases e;exact⟨.inl (.bl b),by decide⟩
 |int b=>cases e;exact⟨.inl (.int b),by decide⟩
 |str n o=>cases e;exact⟨.inl (.str _),by decide⟩
 |tup n q r=>cases e;exact⟨.inl (.tup q),by decide⟩
 |fl n q r=>cases e;exact⟨.inr ⟨rfl,_,_,rfl,.inl q⟩,by decide⟩
 |kfl q r=>cases e;exact⟨.inr ⟨rfl,_,_,rfl,.inr q⟩,by decide⟩
 |@ref k a q =>
  dsimp only at e;split at e
  ·rename_i xs hn
   cases e
   obtain⟨o,e1,us,rfl,rs⟩:=S.obj k _ a hn q;exact⟨.inl (.lst e1),by decide⟩
  ·rename_i t kvs hn
   cases e
   obtain⟨o,e1,r⟩:=S.obj k _ a hn q
   cases t with
   |false=>obtain⟨kus,rfl,rs⟩:=r;exact⟨.inl (.dK e1),by decide⟩
   |true=>obtain⟨kus,rfl,rs⟩:=r;exact⟨.inl (.dT e1),by decide⟩
  ·cases e
 |exc _ _ _=>cases e
def rg {t:Str} {id:String} {p2:Pos} (hK:X.K=T.K) (hg:Gl X "isinstance") (hm:X.mg "isinstance"=none) (ha:aF T E X a sa) (hgt:Gl X t) (hmt:X.mg t=none) (hvt:bootBuiltins t=some (.type id)) (hid:id∈oM) (hnt:t ≠ "__name__" := by decide) (hdt:((t == ("__debug__" : Str))=false)⁻¹)
  (he:‹starEach [a,.Name t p2] X.env=(false,eval a X.env)::starEach [.Name t p2] X.env›):aF T E X (.Call (.Name "isinstance" p) [a,.Name t p2] [] pos) (fF id sa):=by
 refine bO (qo ((GR (X:=X) (yB id)).or (IZ (X:=X) (yB id))) hg hm QO (jV ha (jV (DH (v:=.ty id) hgt hmt hvt rfl hnt hdt) oa) he) (he:=he)) λσ H Q=>E6x λι h en S er q=>⟨ι,h,en,S,er,q.bind λv h1 ι1 H1 u g1 S1 r1 q1=>?_⟩
 split at q1
 ·rename_i n hn
  obtain⟨ty,hmem⟩:=I0 S1 r1 hn;rcases ty with ty|⟨rfl,ad,us,rfl,sq⟩
  ·exact .inl ⟨u,.type n,_,rfl,hK▸ty,zH _ n hmem id hid,q1.now S1 (.bl _)⟩
  ·exact .inr ⟨ad,us,_,rfl,hK▸sq,zH _ _ hmem id hid,q1.now S1 (.bl _)⟩
 ·exact q1.elim
def Ja {t:Str} {p2:Pos} {cv:ZC} {cV:V} {pr:Nat->Bool} (hK:X.K=T.K) (hg:Gl X "isinstance") (hm:X.mg "isinstance"=none) (ha:aF T E X a sa) (hcl:PE X (.Name t p2) (tC cV)) (rc:∀ u,RelV cV u->u=cv)
  (hp:∀ c C,T.exc c=some C->cE T.K C/\PySem.W.kitOne T.K (.ref C) cv=some (pr c)) (he:‹starEach [a,.Name t p2] X.env=(false,eval a X.env)::starEach [.Name t p2] X.env›):aF T E X (.Call (.Name "isinstance" p) [a,.Name t p2] [] pos) (kQ pr sa):=by
 refine bO (qo (Hv (X:=X) rc) hg hm QO (jV ha (jV hcl oa) he) (he:=he)) λσ H Q=>E6x λι h en S er q=>⟨ι,h,en,S,er,q.bind λv h1 ι1 H1 u g1 S1 r1 q1=>?_⟩
 split at q1
 ·rename_i c
  cases r1 with
  |@exc _ C ad n ec hq =>
   obtain⟨Z,k⟩:=hp c C.1 ec.1;exact⟨ad,C.1,_,rfl,⟨_,hq⟩,hK▸Z,hK▸k,q1.now S1 (.bl _)⟩
 ·exact q1.elim
def mS(T:Tb)(f:FM)(r:V->List V->Hp->VK->Prop):Prop:=∀ (ι:Ix) (h:AH) (H:Hp) (x:AV) (xs:List AV) (u:V) (us:List V) (E:XK) (Q:VK),Sim T ι h H->RV T ι H x u->RVs T ι H xs us->Post T ι H E (RV T) (f x xs h) Q->r u us H Q
def jA(T:Tb)(chk:AV->AH->Bool)(n:String):Prop:=∀ (ι:Ix) (h:AH) (H:Hp) (x:AV) (u:V),Sim T ι h H->RV T ι H x u->chk x h=true->qt T.K n u H
def ik:jA T aZ "list" :=(λι h H x u S r e=>by
 obtain⟨xs,e1⟩:=Oz.mp e;obtain⟨a,us,rfl,sq,rs⟩:=gC S r e1;exact .inl ⟨rfl,us,sq⟩)
def Jb:jA T uL "str" :=(λι h H x u S r e=>by
 unfold uL at e;split at e
 ·obtain⟨rfl,_⟩:=eR r;rfl
 ·cases e)
variable{o:Expr}{so:SE}{name:Str}{apos:Pos}{chk:AV->AH->Bool}{f:FM}{tn id:String}
def gp (hK:X.K=T.K) (pa:PlainAttrs tn) (slot:Slot tn name id) (hty:typeOf (.builtin id)=pure (.type "method_descriptor")) (hm:∃ r,iX X id r/\mS T f r) (hc:jA T chk tn) (ho:aF T E X o so) (ha:fT T E X (e::es) as)
  (hbase:‹attributeBase o name X.env (eval o X.env)=eval o X.env›)
  (hfew:‹((backTo pos (starEach (e::es) X.env)).all (λx=>!x.1) && (backToKw pos (keywordEach [] X.env)).all (λx=>x.1.isSome)
   && decide ((e::es).length+([]:List Keyword).length+(if ([]:List Keyword).isEmpty then 0 else 1)<30))=true›)
  (hline:‹(apos.endLine == pos.line)=true›) (hs:‹qE1 e es X.env›) (hplain:‹qF1 pos es X.env›) :
  aF T E X (.Call (.Attribute o name apos) (e::es) [] pos) (dZ chk f so as):=by
 obtain⟨r,h1,h2⟩:=hm;refine bO (FK pa slot hty h1 ho ha hbase hfew hline hs hplain) λσ H Q=>E6x λι h en S er q=>⟨ι,h,en,S,er,q.bind λx h1 ι1 H1 u g1 S1 r1 q1=>?_⟩
 by_cases hx:chk x h1=true
 ·rw[Of hx] at q1
  exact⟨hK▸hc ι1 h1 H1 x u S1 r1 hx,ι1,h1,en,S1,er.mono g1,q1.bind λxs h2' ι2 H2 us g2 S2 r2 q2=>h2 ι2 h2' H2 x xs u us _ Q S2 (r1.mono g2) r2 q2⟩
 ·rw[Og hx] at q1;exact q1.elim
def mT (hK:X.K=T.K) (pa:PlainAttrs tn) (slot:Slot tn name id) (hty:typeOf (.builtin id)=pure (.type "method_descriptor")) (hm:∃ r,iX X id r/\mS T f r) (hc:jA T chk tn) (ho:aF T E X o so)
  (hbase:‹attributeBase o name X.env (eval o X.env)=eval o X.env›) (hline:‹(apos.endLine == pos.line)=true›):aF T E X (.Call (.Attribute o name apos) [] [] pos) (gi chk f so):=by
 obtain⟨r,h1,h2⟩:=hm;refine bO (yo pa slot hty h1 ho hbase hline) λσ H Q=>E6x λι h en S er q=>⟨ι,h,en,S,er,q.bind λx h1 ι1 H1 u g1 S1 r1 q1=>?_⟩
 by_cases hx:chk x h1=true
 ·rw[Of hx] at q1
  exact⟨hK▸hc ι1 h1 H1 x u S1 r1 hx,h2 ι1 h1 H1 x [] u [] _ Q S1 r1 .nil q1⟩
 ·rw[Og hx] at q1;exact q1.elim
def mU:∃ r,iX X "list.append" r/\mS T bP r:=by
 refine⟨_,yp,λι h H x xs u us E Q S rx rs q=>?_⟩
 unfold bP at q;split at q
 ·rename_i n y
  split at q
  ·rename_i ys hn
   split at q
   ·rename_i hl
    cases rx with
    |@ref _ ad hr =>
     cases rs with
     |@cons _ uu _ _ r r' =>
      cases r'
      obtain⟨o,e1,ws,rfl,rw_⟩:=S.obj n _ ad hn hr;have g:=S.growSet (u:=.lst (ws++[uu])) hr;exact⟨ad,ws,_,rfl,rfl,e1,by rw[<- rw_.length];exact hl,q ι _ _ g (S.set hr ⟨_,rfl,(rw_.mono g).append (.cons (r.mono g) .nil)⟩) .non⟩
   ·exact q.elim
  ·exact q.elim
 ·exact q.elim
def rh:∃ r,iX X "list.pop" r/\mS T bz r:=by
 refine⟨_,FO,λι h H x xs u us E Q S rx rs q=>?_⟩
 unfold bz at q;split at q
 ·rename_i n
  split at q
  ·rename_i ys hn
   split at q
   ·rename_i y hy
    cases rx with
    |@ref _ ad hr =>
     cases rs
     obtain⟨o,e1,ws,rfl,rw_⟩:=S.obj n _ ad hn hr;have g:=S.growSet (u:=.lst ws.dropLast) hr;obtain⟨v,e2,r2⟩:=rw_.get hy;refine⟨ad,ws,v,rfl,rfl,e1,by rw[<- rw_.length];exact e2,q ι _ _ g (S.set hr ⟨_,rfl,?_⟩) (r2.mono g)⟩
     have z:=(rw_.mono g).take (ys.length-1);have e3:ys.take (ys.length-1)=ys.dropLast:=RU.symm;have e4:ws.take (ys.length-1)=ws.dropLast:=by rw[rw_.length];exact RU.symm
     rw[e3,e4] at z;exact z
   ·exact q.elim
  ·exact q.elim
 ·exact q.elim
def Jc:∃ r,iX X "str.count" r/\mS T uM r:=by
 refine⟨_,GU,λι h H x xs u us E Q S rx rs q=>?_⟩
 unfold uM at q;split at q
 ·cases rs with
  |cons r r' =>
   cases r'
   obtain⟨rfl,_⟩:=eR rx;obtain⟨rfl,_⟩:=eR r;exact⟨_,_,rfl,rfl,q.now S (.int _)⟩
 ·exact q.elim
end
def Out.bind_assoc{α β γ:Type}(o:Out α)(f:α->AH->Out β)(g:β->AH->Out γ):(o.bind f).bind g=o.bind λa h=>(f a h).bind g:=by cases o<;>rfl
section
variable{T:Tb}{E:St->XK}{X:Cx}{pos p2:Pos}{a b:Expr}{sa sb:SE}
def tO(T:Tb)(E:St->XK):Option SE->TO
 |none=>yh
 |some s=>yi (tE T E s)
abbrev rj(T:Tb)(E:St->XK)(X:Cx)(e:Option Expr)(s:Option SE):Prop:=PO X e (tO T E s)
def mV:rj T E X none none:=(Fu)
def j3(h:aF T E X a sa):rj T E X (some a) (some sa):=(Fv h)
@[simp] def rk(s:Option SE):En->AH->Out (Option Int):=λen h=>match s with
 |none=>.ok none h
 |some l=>(l en h).bind λv h2=>match v with|.int i=>.ok (some i) h2|_=>.bad
def zI{s:Option SE}{σ:St}{H:Hp}{ι:Ix}{h:AH}{en:En}{γ δ:Type}{R':Ix->Hp->γ->δ->Prop}{Q0:δ->Hp->Prop}{f:Option Int->AH->Out γ}{Q:Option Int->Hp->Prop}(S:Sim T ι h H)(er:ER T ι H en σ)(q:Post T ι H (E σ) R' ((rk s en h).bind f) Q0)
  (k:∀ l h' ι' H',Grow ι H ι' H'->Sim T ι' h' H'->Post T ι' H' (E σ) R' (f l h') Q0->Q l H'):tO T E s σ H Q:=by
 cases s with
 |none=>exact k none h ι H S.refl S q
 |some l =>
  refine⟨ι,h,en,S,er,?_⟩
  unfold rk at q;dsimp only at q;rw[Out.bind_assoc] at q;refine q.bind λv h1 ι1 H1 u g1 S1 r1 q1=>?_
  split at q1
  ·rw[bE r1]
   exact⟨_,rfl,k _ _ ι1 H1 g1 S1 q1⟩
  ·exact q1.elim
@[simp] def dh(x:AV)(l u:Option Int)(h:AH):Out AV:=match x with
 |.fl xs=>.ok (.fl (dX xs l u)) h
 |.str z=>.ok (.str (bM z l u)) h
 |.tup xs=>if ¬ (HT.sIx xs.length 0 l=0/\HT.sIx xs.length xs.length u=xs.length) then .ok (.tup (dX xs l u)) h else .bad
 |.ref n=>match h[n]? with
  |some (.lst xs)=>.ok (.fl (dX xs l u)) h
  |_=>.bad
 |_=>.bad
@[simp] def bT(a:SE)(lo hi:Option SE):SE:=λen h=>(a en h).bind λx h1=>(rk lo en h1).bind λl h2=>(rk hi en h2).bind λu h3=>dh x l u h3
def RVs.cut{ι:Ix}{H:Hp}{xs:List AV}{us:List V}{lo hi:Option Int}(r:RVs T ι H xs us):RVs T ι H (dX xs lo hi) (fA us lo hi):=by
 unfold dX fA;rw[<- r.length];exact(r.drop _).take _
def Jd{ι:Ix}{H:Hp}{z:Str}{l u:Option Int}(hz:z.length<=sizeLine)(hc:z.cps.all (· < 0x110000)=true):RV T ι H (.str (bM z l u)) (.str (bM z l u)):=by
 refine .str ?_ ?_
 ·refine Oc ?_ hz
  simp[bM,Str.length];lia
 ·simp only[bM,Rt,OW]
  intro c h;have hm:c∈z.cps.toList:=Qg (QL h);exact(O9.mp hc) c (by simpa using hm)
def k8{lo hi:Option Expr}{sl sh:Option SE}(hK:X.K=T.K)(ha:aF T E X a sa)(hl:rj T E X lo sl)(hh:rj T E X hi sh):aF T E X (.Subscript a (.Slice lo hi none p2) pos) (bT sa sl sh):=by
 refine bO (Fx (zjs.or (sl_tup.or HP)) ha hl hh) λσ H Q=>E6x λι h en S er q=>⟨ι,h,en,S,er,q.bind λx h1 ι1 H1 u g1 S1 r1 q1=>?_⟩
 refine zI (E:=E) S1 (er.mono g1) q1 λl h2 ι2 H2 g2 S2 q2=>zI (E:=E) S2 (er.mono (g1.trans g2)) q2 λw h3 ι3 H3 g3 S3 q3=>?_
 have r3:=r1.mono (g2.trans g3);unfold dh at q3;split at q3
 ·obtain⟨ad,us,rfl,sq,rs⟩:=gC S3 r3 rfl
  exact .inl ⟨ad,us,rfl,hK▸sq,λp n=>qJ S3 rs.cut n q3⟩
 ·obtain⟨rfl,hz,hc⟩:=eR r3
  exact .inr (.inr ⟨_,rfl,hz,q3.now S3 (Jd hz hc)⟩)
 ·rename_i xs
  split at q3
  ·rename_i hz
   obtain⟨ad,us,rfl,sq,rs⟩:=kR r3;exact .inr (.inl ⟨ad,us,rfl,hK▸sq,by rw[<- rs.length];exact hz,λp n=>uN S3 rs.cut n q3⟩)
  ·exact q3.elim
 ·split at q3
  ·rename_i xs hn
   obtain⟨ad,us,rfl,sq,rs⟩:=gC (xs:=xs) S3 r3 (by simp[d8,hn]);exact .inl ⟨ad,us,rfl,hK▸sq,λp n=>qJ S3 rs.cut n q3⟩
  ·exact q3.elim
 ·exact q3.elim
def jB {x:Str} {i:Int} {p:Pos} (hg:Gl X x) (hm:∃ t,X.mg x=some (.int i t)) (hd:((x == ("__debug__" : Str))=false)⁻¹):aF T E X (.Name x p) (ae (.int i)):=by
 obtain⟨t,hm⟩:=hm;exact Ib hg hm hd
end
def DG(K:ZA)(mg:Str->Option ZC)(x:Str)(st:Stmt)(ps:List Str):Prop:=∃ f fd,mg x=some (.ref f)/\PySem.W.keepIn K (.ref f)=true/\Binds K fd ps []/\Fun K x x st f fd
def vc(N:List Str)(sc:Scope)(ns:List Str)(jf:List (Nat×Str))(scope:Scope):Bool :=
 decide (ns++jf.map (·.2)).Nodup && ns.all (λx=>scope.names.lookup x == some .local) && jf.all (λp=>N[p.1]? == some p.2) && jf.all (λp=>scope.names.lookup p.2 == some .free) && (scope.kind == .function) &&
 scope.names.all (λy=>y.2 != .cell) && scope.names.all (λy=>y.2 != .free || sc.names.lookup y.1 == some .cell || sc.names.lookup y.1 == some .free) && scope.names.all (λy=>y.2 != .local || scope.names.lookup y.1 == some .local)
def zJ{X:Cx}{N:List Str}{sc scope:Scope}{ns:List Str}{jf:List (Nat×Str)}(hN:X.N=N)(hk:∀ x,X.env.kindOf x=sc.names.lookup x)(h:vc N sc ns jf scope=true):CompOk X ns jf scope:=by
 unfold vc at h;simp only[OT,Px,OW,Tn,bne_iff_ne,Bool.or_eq_true] at h
 obtain⟨⟨⟨⟨⟨⟨⟨h1,h2⟩,h3⟩,h4⟩,h5⟩,h6⟩,h7⟩,h8⟩:=h;refine⟨h1,h2,λp hp=>by rw[hN];exact h3 p hp,h4,h5,λy hy=>h6 y hy,λy hy e=>?_,λy hy e=>?_⟩
 ·rw[hk]
  rcases h7 y hy with (z|z)|z
  ·exact absurd e z
  ·exact .inl z
  ·exact .inr z
 ·rcases h8 y hy with z|z
  ·exact absurd e z
  ·exact z
theorem vd{T:Tb}{ι:Ix}{H:Hp}:∀ ns:List Int,RVs T ι H (ns.map AV.int) (ns.map V.int)
 |[]=>.nil
 |n::ns=>.cons (.int n) (vd ns)
def ve{T:Tb}{H:Hp}:Sim T ⟨[],[]⟩ [] H:=(⟨rfl,Qe,(λ_ z=>nomatch z),(λi o a e=>by simp at e)⟩)
def vf(K:ZA):Sp:=λvs H Q _=>∃ (a:ZE) (ns:List Int),vs=[.ref a]/\SqL K H a (ns.map V.int)/\ns.length<=63/\∀ H',Q (.bl true) H'
def Je{T:Tb}{F:Fn}(ht:∀ ns:List Int,ns.length<=63->∃ h',F [.fl (ns.map AV.int)] []=.ok (.bl true) h'):∀ vs H Q E,vf T.K vs H Q E->iH T F vs H Q E:=by
 rintro vs H Q E ⟨a,ns,rfl,hs,hl,q⟩
 obtain⟨h',e⟩:=ht ns hl;refine⟨⟨[],[]⟩,[],[.fl (ns.map AV.int)],ve,.cons ?_ .nil,?_⟩
 ·rcases hs with hs|hs
  ·exact .fl (by simp[Ix.all]) hs (vd ns)
  ·exact .kfl hs (vd ns)
 ·rw[e]
  intro ι' H' u g S r;rw[fU r];exact q H'
def Jf{P:ZD}{w:ZF}{outer:List Env}{H:Hp}{s s':ZB}{e:ZC}(h:cU P w outer H s (λ_ _ _=>False) e s'):False:=by
 obtain⟨_,_,_,_,_,_,_,_,_,_,_,_,_,_,_,_,q⟩:=h;exact q
end Sm
namespace L2
open PySem PySem.Spec PyProof.Rows
end L2
namespace Sm
open PySem PySem.Spec L2
section
variable{T:Tb}{E:L2.St->XK}{X:Cx}{pos p np:Pos}{a:Expr}{sa:SE}
def excK_of {K:ZA} {C:ZE} (g1:PySem.W.findIn K (.ref C) "__getattribute__"=some (some (.builtin "BaseException.__getattribute__"))) (g2:PySem.W.findIn K (.ref C) "__getattr__"=some none) (g3:PySem.W.findIn K (.ref C) "__class__"=some (some (.builtin "object.__class__")))
  (g4:PySem.W.mroIn K C (.type "object")=some true) (g5:PySem.W.mroIn K C (.type "BaseException")=some true) (g6:PySem.W.specialIn K (.builtin "object.__class__") "__get__"=some (some (.builtin "getset_descriptor.__get__"))) (g7:PySem.W.takesIn K (.builtin "object.__class__")=some true):cE K C:=by
 refine⟨?_,g1,g2,g3,g6,g7,g4,g5⟩
 obtain⟨cd,hc,_⟩:=Rr.mp g4;rw[hc];rfl
def Jg {t:Str} {p2:Pos} {pr:Nat->Bool} (hK:X.K=T.K) (hg:Gl X "isinstance") (hm:X.mg "isinstance"=none) (ha:aF T E X a sa) (hgt:Gl X t) (hp:∃ C,X.mg t=some (.ref C)/\∀ c C',T.exc c=some C'->cE T.K C'/\PySem.W.kitOne T.K (.ref C') (.ref C)=some (pr c)) (hd:((t == ("__debug__" : Str))=false)⁻¹)
  (he:‹starEach [a,.Name t p2] X.env=(false,eval a X.env)::starEach [.Name t p2] X.env›):aF T E X (.Call (.Name "isinstance" p) [a,.Name t p2] [] pos) (kQ pr sa):=by
 obtain⟨C,h1,h2⟩:=hp;exact Ja hK hg hm ha (qg (v:=.ref C) hgt h1 rfl hd) (GS C) h2 he
end
end Sm
namespace L2
open PySem PySem.Spec PyProof.Rows
section
variable{X:Cx}{pins:List (ZE×Obj)}{σ:L2.St}{H:Hp}{s:ZB}
end
end L2
namespace Sm
open PySem PySem.Spec L2
@[simp] def oO:List AV->Option (List Int)
 |[]=>some []
 |.int i::r=>(oO r).map (i :: ·)
 |_=>none
@[simp] def gX:Fn:=λargs h=>match args with
 |[.fl xs]=>match oO xs with
  |some ns=>.ok (.int ns.sum) h
  |none=>.bad
 |_=>.bad
@[simp] def jC(a b c:SE):SI:=λen h=>(a en h).bind λv h1=>(b en h1).bind λw h2=>(c en h2).bind λz h3=>match v,w,z with
 |.int i,.int j,.int k=>if i.natAbs<2 ^ 40/\j.natAbs<2 ^ 40/\0<k/\k<2 ^ 20 then .ok ((List.range (if i<j then(j-i-1) / k+1 else 0:Int).toNat).map (λm:Nat=>.int (i+m*k)),none) h3 else .bad
 |_,_,_=>.bad
@[simp] def Jh:F2:=λx y h=>match x,y with
 |.bl a,.bl b=>.ok (.bl (a == b)) h
 |_,_=>.bad
@[simp] def k9(f f' f'':F2)(a b c d:SE):SE:=λen h=>(a en h).bind λx h1=>(b en h1).bind λy h2=>(f x y h2).bind λz h3=>match z with
 |.bl k=>if k=true then(c en h3).bind λw h4=>(f' y w h4).bind λz2 h5=>(match z2 with
  |.bl k2=>if k2=true then(d en h5).bind λv h6=>f'' w v h6 else .ok (.bl false) h5
  |_=>.bad) else .ok (.bl false) h3
 |_=>.bad
section
variable{T:Tb}{E:St->XK}{X:Cx}{pos p:Pos}{e a b c:Expr}{sa sb sc:SE}
theorem zK{ι:Ix}{H:Hp}:∀ {xs:List AV} {us:List V} {bs:List Int},RVs T ι H xs us->oO xs=some bs->us=bs.map V.int
 |_,_,_,.nil,e=>by cases e;rfl
 |_,_,bs,.cons (x:=x) r rs,e=>by
  unfold oO at e;split at e
  ·rename_i hh;cases hh
  ·rename_i b r' hh
   cases hh
   obtain⟨bs',e1,rfl⟩:=Ow.mp e;rw[bE r,zK rs e1];rfl
  ·cases e
def K_(hK:X.K=T.K)(hc:‹X.calm=true›):∃ r,CallR X (.builtin "sum") r/\ij T gX r:=by
 refine⟨_,HC hc,λι h H xs us E Q S r q=>?_⟩
 unfold gX at q;split at q
 ·split at q
  ·rename_i bs hb
   cases r with
   |cons r r' =>
    cases r'
    obtain⟨a,us,rfl,sq,rs⟩:=gC S r rfl;rw[zK rs hb] at sq;exact⟨a,bs,rfl,hK▸sq,q.now S (.int _)⟩
  ·exact q.elim
 ·exact q.elim
def Ji{ι:Ix}{H:Hp}{lo c:Int}{n:Nat}:i7 T (jm lo c n) ι H ((List.range n).map (λm:Nat=>AV.int (lo+m*c))) none:=by
 constructor
 ·intro i ι' h' H' y g S _ e
  rw[OI] at e;obtain⟨m,e1,rfl⟩:=Ow.mp e
  have hi:i<n:=by
   have:=(NZ.mp e1).1;simpa using this
  rw[QS hi] at e1
  cases e1
  refine⟨hi,?_⟩
  rintro u H2 ⟨rfl,rfl⟩
  exact⟨S.refl,S,.int _⟩
 ·intro i ι' h' H' g S _ hl
  have hl':n<=i:=by simpa using hl
  exact hl'
def Jj {tg:Expr} {p:Pos} (hg:Gl X "range") (hm:X.mg "range"=none) (ha:aF T E X a sa) (hb:aF T E X b sb) (hc:aF T E X c sc) (hs:‹starEach [a,b,c] X.env=[(false,eval a X.env),(false,eval b X.env),(false,eval c X.env)]›) (hs2:‹starEach [b,c] X.env=[(false,eval b X.env),(false,eval c X.env)]›) (hs3:‹starEach [c] X.env=[(false,eval c X.env)]›) :
  kU T X tg (.Call (.Name "range" p) [a,b,c] [] pos) (jC sa sb sc) :=(
 qR (HK hg hm (ak ha (ak hb (ak hc aA hs3) (by rw[hs2,hs3])) (by rw[hs,hs2])) hs hs2) λσ H R=>E6x λι h en S er q=>by
  unfold jC at q;refine⟨ι,h,en,S,er,?_⟩
  unfold ai
  cases e:sa en h with
  |bad=>rw[e] at q;exact q
  |ex c h1=>rw[e] at q;exact q.elim
  |ok v h1 =>
   rw[e] at q;dsimp only[Out.bind] at q ⊢
   cases e':sb en h1 with
   |bad=>rw[e'] at q;exact q
   |ex c h1=>rw[e'] at q;exact q.elim
   |ok v' h2 =>
    rw[e'] at q;dsimp only at q ⊢
    cases e'':sc en h2 with
    |bad=>rw[e''] at q;exact q
    |ex c h1=>rw[e''] at q;exact q.elim
    |ok v'' h3 =>
     rw[e''] at q;dsimp only at q
     intro ι1 H1 u g1 S1 r1;split at q
     ·rename_i hx
      split at hx
      ·split at hx
       ·rename_i hb
        cases hx
        cases r1 with
        |cons r r' =>
         cases r' with
         |cons r2 r3 =>
          cases r3 with
          |cons r4 r5 =>
           cases r5
           rw[bE r,bE r2,bE r4];exact⟨_,_,_,rfl,hb,q ι1 H1 _ g1 S1 Ji⟩
       ·cases hx
      ·cases hx
     ·exact q.elim)
def oQ{sts:List Stmt}{E:St->XK}:cF T E X sts (λ_ _=>.bad):=(λpins s σ H D I ⟨ι,h,en,S,er,q⟩=>q.elim)
def Jk{d:Expr}{sd:SE}{op op' op'':CmpOp}{f f' f'':F2}(ho:Op T X (compareOp op) f)(ho':Op T X (compareOp op') f')(ho'':Op T X (compareOp op'') f'')(ha:aF T E X a sa)(hb:aF T E X b sb)(hc:aF T E X c sc)(hd:aF T E X d sd)(hm:autoParam (lastMarks [op,op',op''] [b,c,d]=false) L2.ET._auto_1) :
  gQ T E X (.Compare a [op,op',op''] [b,c,d] pos) (aC (k9 f f' f'' sa sb sc sd)):=by
 obtain⟨r,h1,hs⟩:=ho;obtain⟨r',h1',hs'⟩:=ho';obtain⟨r'',h1'',hs''⟩:=ho'';refine ox (HQ h1 h1' h1'' ha hb hc hd hm) λσ H Q q=>?_
 obtain⟨ι,h,en,S,er,q⟩:=q;unfold aC k9 at q;rw[Out.bind_assoc] at q;refine⟨ι,h,en,S,er,q.bind λx h1 ι1 H1 u g1 S1 r1 q1=>?_⟩
 rw[Out.bind_assoc] at q1;refine⟨ι1,h1,en,S1,er.mono g1,q1.bind λy h2 ι2 H2 w g2 S2 r2 q2=>?_⟩
 rw[Out.bind_assoc] at q2;refine hs ι2 h2 H2 x y u w (E σ) _ S2 (r1.mono g2) r2 (q2.bind λz h3 ι3 H3 k g3 S3 r3 q3=>?_)
 split at q3
 ·rename_i kk
  rw[fU r3];refine⟨kk,rfl,?_⟩
  by_cases hkk:kk=true
  ·rw[Of hkk] at q3 ⊢
   rw[Out.bind_assoc] at q3;refine⟨ι3,h3,en,S3,er.mono (g1.trans (g2.trans g3)),q3.bind λv h4 ι4 H4 j g4 S4 r4 q4=>?_⟩
   rw[Out.bind_assoc] at q4;refine hs' ι4 h4 H4 y v w j (E σ) _ S4 (r2.mono (g3.trans g4)) r4 (q4.bind λz2 h5 ι5 H5 k5 g5 S5 r5 q5=>?_)
   split at q5
   ·rename_i k2
    rw[fU r5];refine⟨k2,rfl,?_⟩
    by_cases hk2:k2=true
    ·rw[Of hk2] at q5 ⊢
     rw[Out.bind_assoc] at q5;refine⟨ι5,h5,en,S5,er.mono (g1.trans (g2.trans (g3.trans (g4.trans g5)))),q5.bind λv6 h6 ι6 H6 j6 g6 S6 r6 q6=>?_⟩
     refine hs'' ι6 h6 H6 v v6 j j6 (E σ) _ S6 (r4.mono (g5.trans g6)) r6 (q6.bind λz7 h7 ι7 H7 k7 g7 S7 r7 q7=>?_)
     split at q7
     ·rw[fU r7];exact⟨_,rfl,q7.now S7 rfl⟩
     ·exact q7.elim
    ·rw[Og hk2] at q5 ⊢
     exact⟨false,rfl,q5.now S5 rfl⟩
   ·exact q5.elim
  ·rw[Og hkk] at q3 ⊢
   exact⟨false,rfl,q3.now S3 rfl⟩
 ·exact q3.elim
end
def Jl:∀ {us:List ZC},us.length=1->∃ a:ZC,us=[a]:=by
 intro us h;cases us with
 |nil=>cases h
 |cons a us=>exact⟨a,by rw[List.length_eq_zero_iff.mp (Nat.succ.inj h)]⟩
def Jm:∀ {us:List ZC},us.length=2->∃ a b:ZC,us=[a,b]:=by
 intro us h;cases us with
 |nil=>cases h
 |cons a us=>obtain⟨b,rfl⟩:=Jl (Nat.succ.inj h);exact⟨a,b,rfl⟩
def Jn:∀ {us:List ZC},us.length=3->∃ a b c:ZC,us=[a,b,c]:=by
 intro us h;cases us with
 |nil=>cases h
 |cons a us=>obtain⟨b,c,rfl⟩:=Jm (Nat.succ.inj h);exact⟨a,b,c,rfl⟩
def Jo:∀ {us:List ZC},us.length=4->∃ a b c d:ZC,us=[a,b,c,d]:=by
 intro us h;cases us with
 |nil=>cases h
 |cons a us=>obtain⟨b,c,d,rfl⟩:=Jn (Nat.succ.inj h);exact⟨a,b,c,d,rfl⟩
def Jp{T:Tb}{ι:Ix}{H:Hp}{z:Str}{n:Nat}(hl:z.length*n<=1000000)(hc:z.cps.all (· < 0x110000)=true):RV T ι H (.str (aW z n)) (.str (aW z n)):=by
 refine .str ?_ ?_
 ·refine Oc ?_ (Oc hl 'd')
  simp[aW,Str.length,RF]
 ·simp only[aW,Rt,OW,List.mem_flatten,List.mem_replicate]
  rintro c ⟨l,⟨_,rfl⟩,hm⟩
  exact(O9.mp hc) c (by simpa using hm)
def rm:Nat:=100000000
@[simp] def oR:F2:=λx y h=>match x,y with
 |.str z,.int n=>if n.natAbs<2 ^ 40/\z.length*n.toNat<=1000000 then .ok (.str (aW z n.toNat)) h else .bad
 |_,_=>.bad
def zL{T:Tb}{X:Cx}:Op T X (binaryOp .Mult) oR:=by
 refine⟨_,HU,λι h H x y u w E Q S rx ry p=>?_⟩
 unfold oR at p;split at p
 ·split at p
  ·rename_i hz
   obtain⟨rfl,_,hc⟩:=eR rx;rw[bE ry];exact⟨_,_,rfl,rfl,hz.1,hz.2,p.now S (Jp hz.2 hc)⟩
  ·exact p.elim
 ·exact p.elim
def fH(n:Nat)(y z:AV)(h:AH):Out AV:=match h[n]? with
 |some (.dct t kvs)=>if dW t y then .ok ((aU kvs y).getD z) h else .bad
 |_=>.bad
def fI(o k d:SE):SE:=λen h=>(o en h).bind λx h1=>match x with
 |.ref n=>(match h1[n]? with
  |some (.dct _ _)=>(k en h1).bind λy h2=>(d en h2).bind λz h3=>fH n y z h3
  |_=>.bad)
 |_=>.bad
section
variable{T:Tb}{E:St->XK}{X:Cx}{pos apos:Pos}{a b c:Expr}{sa sb sc:SE}
def isD_of{ι:Ix}{h:AH}{H:Hp}{n:Nat}{t:Bool}{kvs:List (AV×AV)}{ad:ZE}(S:Sim T ι h H)(hn:h[n]?=some (.dct t kvs))(hr:ι.refs[n]?=some ad):oq H ad:=by
 obtain⟨ob,e1,r⟩:=S.obj n _ ad hn hr
 cases t with
 |false=>obtain⟨kus,rfl,r⟩:=r;exact .inl ⟨_,.inl e1⟩
 |true=>obtain⟨kus,rfl,r⟩:=r;exact .inr ⟨_,_,.inl e1⟩
def vg (hu:X.A.units+64<cLine) (ha:aF T E X a sa) (hb:aF T E X b sb) (hc:aF T E X c sc) (hbase:‹attributeBase a "get" X.env (eval a X.env)=eval a X.env›)
  (hfew:‹((backTo pos (starEach [b,c] X.env)).all (λx=>!x.1) && (backToKw pos (keywordEach [] X.env)).all (λx=>x.1.isSome) && decide (([b,c]:List Expr).length+([]:List Keyword).length+(if ([]:List Keyword).isEmpty then 0 else 1)<30))=true›)
  (hline:‹(apos.endLine == pos.line)=true›) (htrees:‹backTo pos (starEach [b,c] X.env)=[(false,eval b X.env),(false,eval c X.env)]›):aF T E X (.Call (.Attribute a "get" apos) [b,c] [] pos) (fI sa sb sc):=by
 refine bO (Gx (Ol (OD (by decide:1<=64) _) hu) ha hb hc ⟨hbase,hfew,hline,htrees⟩) λσ H Q q=>?_
 obtain⟨ι,h,en,S,er,q⟩:=q;refine⟨ι,h,en,S,er,q.bind λx h1 ι1 H1 u g1 S1 r1 q1=>?_⟩
 split at q1
 ·rename_i n
  split at q1
  ·rename_i t0 kvs0 hn0
   cases r1 with
   |@ref _ ad hr =>
    refine⟨ad,rfl,isD_of S1 hn0 hr,ι1,h1,en,S1,er.mono g1,q1.bind λy h2 ι2 H2 v g2 S2 r2 q2=>⟨ι2,h2,en,S2,(er.mono g1).mono g2,q2.bind λz h3 ι3 H3 w g3 S3 r3 q3=>?_⟩⟩
    unfold fH at q3;split at q3
    ·rename_i t kvs hn
     split at q3
     ·rename_i hk
      obtain⟨o,dg,alt⟩:=qZ S3 hn ((g2.trans g3).ext.at_ hr) (r2.mono g3) hk;refine⟨o,dg,?_⟩
      rcases alt with⟨v1,rfl⟩|⟨v',u',v1,rfl,r4⟩
      ·rw[v1] at q3;exact q3.now S3 r3
      ·rw[v1] at q3;exact q3.now S3 r4
     ·exact q3.elim
    ·exact q3.elim
  ·exact q1.elim
 ·exact q1.elim
end
def zM:Expr->Bool
 |.Starred _ _=>false
 |_=>true
def Jq(a:Expr)(es:List Expr)(env:Env)(h:zM a=true):starEach (a::es) env=(false,eval a env)::starEach es env:=by
 cases a<;>first|rfl|cases h
section
variable{T:Tb}{E:St->XK}{X:Cx}{a:Expr}{es:List Expr}{sa:SE}
def iI(ha:aF T E X a sa)(hr:fT T E X es as)(hn:‹zM a=true›):fT T E X (a::es) (ai sa as):=(ak ha hr (Jq _ _ _ hn))
end
section
variable{T:Tb}{E:St->XK}{X:Cx}{pos:Pos}{a b:Expr}{sa sb:SE}{sts:List Stmt}{s1:SS}
end
end Sm
namespace L2
open PySem PySem.Spec PyProof.Rows
section
variable{X:Cx}{a b:Expr}{rest:List Expr}{pos:Pos}{ta tb:TE}
def vh(K:ZA)(ta tb:TE):TE:=λσ H Q=>ta σ H λx H1=>∃ k,je K x H1 k/\if k=true then Q x H1 else tb σ H1 Q
def Jr(ha:PE X a ta)(hb:PE X (.BoolOp .Or (b::rest) pos) tb):PE X (.BoolOp .Or (a::b::rest) pos) (vh X.K ta tb):=by
 intro pins s σ H Q I h;refine BoolOp_or (thn (ha pins s σ H _ I h) λv s1 Zz=>?_);obtain⟨x,H1,I1,r1,k,tv,q1⟩:=Zz
 refine OV (x6 pins s1 σ H1 x v (λc H'=>if c=true then Q x H' else tb σ H' Q) I1 r1 ⟨k,tv,q1⟩) (λc s2 Zz=>?_) λ_ _ z=>z;obtain⟨H2,I2,q2⟩:=Zz
 cases c with
 |false=>exact hb pins s2 σ H2 Q I2 q2
 |true=>exact⟨x,H2,I2,r1,q2⟩
end
end L2
namespace Sm
open PySem PySem.Spec L2
@[simp] def gr(a b:SE):SE:=λen h=>(a en h).bind λv h1=>match jq v h1 with
 |some k=>if k=true then .ok v h1 else b en h1
 |none=>.bad
section
variable{T:Tb}{E:L2.St->XK}{X:Cx}{pos:Pos}{a b:Expr}{rest:List Expr}{sa sb:SE}
def rn(hK:X.K=T.K)(ha:aF T E X a sa)(hb:aF T E X (.BoolOp .Or (b::rest) pos) sb):aF T E X (.BoolOp .Or (a::b::rest) pos) (gr sa sb) :=(
 bO (Jr ha hb) λσ H Q=>E6x λι h en S er q=>⟨ι,h,en,S,er,q.bind λx h1 ι1 H1 u g1 S1 r1 q1=>by
  split at q1
  ·rename_i k hk
   refine⟨k,hK▸za S1 r1 hk,?_⟩
   by_cases hkk:k=true
   ·rw[Of hkk] at q1 ⊢
    exact q1.now S1 r1
   ·rw[Og hkk] at q1 ⊢
    exact⟨ι1,h1,en,S1,er.mono g1,q1⟩
  ·exact q1.elim⟩)
end
end Sm
namespace L2
open PySem PySem.Spec
def Room.m{j k:Nat}{A:ZG}(hr:Room k A)(h:‹Nat.ble j k=true›):Room j A:=(hr.mono (Nat.le_of_ble_eq_true h))
end L2
namespace Sm
open PySem PySem.Spec L2
def DK(K:ZA)(x:Str)(st:Stmt):Prop:=∃ f fd,PySem.W.nsIn K mainGlobals x=some (some (.ref f))/\Fun K x x st f fd
def DN(K:ZA)(C:ZE)(m q:Str)(st:Stmt):Prop:=∃ f fd,iD K C m f/\Fun K m q st f fd
def cI(K:ZA)(cls:Nat->Option ZE)(c:Nat)(m q:Str)(st:Stmt)(ps:List Str):Prop:=∃ C f fd,cls c=some C/\Cls K C/\iD K C m f/\Binds K fd ps []/\Fun K m q st f fd
def DI(K:ZA)(cls:Nat->Option ZE)(mg:Str->Option ZC)(c:Nat)(x q:Str)(st:Stmt)(ps:List Str):Prop:=∃ C f fd,cls c=some C/\mg x=some (.ref C)/\Mk K C f/\Binds K fd ps []/\Fun K "__init__" q st f fd
section
variable{P:ZD}{w:ZF}{K:ZA}{mg:Str->Option ZC}{base h:Heap}{T:Tb}{x m q:Str}{st:Stmt}{f C:ZE}{N ps:List Str}{k c:Nat}{b:SS}{cls:Nat->Option ZE}
section
variable{oc:ZC}{od an:Option ZE}{osl:Array (Option ZC)}{kV doc pm cdv ct:ZC}
def dk(a:PySem.W.nsIn K mainGlobals x=some (some (.ref f)))(l:K.lookup f=some ⟨oc,od,.func (PySem.W.fnOf x x (kK st) (iZ st) (bL st) .none kV doc pm an cdv ct),osl⟩)
  (c:PySem.W.codeIn K cdv x=true)(k:PySem.W.keepIn K (.ref f)=true):DK K x st:=(⟨f,_,a,yy l c k⟩)
def dn(a:PySem.W.findIn K (.ref C) m=some (some (.ref f)))(i:PySem.W.isFn K (.ref f)=true)(l:K.lookup f=some ⟨oc,od,.func (PySem.W.fnOf m q (kK st) (iZ st) (bL st) .none kV doc pm an cdv ct),osl⟩)
  (c:PySem.W.codeIn K cdv q=true)(k:PySem.W.keepIn K (.ref f)=true):DN K C m q st:=(⟨f,_,⟨a,i,k⟩,yy l c k⟩)
end
abbrev BA(x q:Str)(st:Stmt)(us:List ZC)(r:List (Str×ZC)):Prop:=∀ (kV doc pm:ZC) (an:Option ZE) (cdv ct:ZC),bindArgs (PySem.W.fnOf x q (kK st) (iZ st) (bL st) .none kV doc pm an cdv ct) ⟨us,[]⟩=pure r
def BL(x q:Str)(st:Stmt)(ps:List Str):Prop:=∀ (us:List ZC),us.length=ps.length->BA x q st us (ps.zip us)
def fJ{p1:Str}(h:autoParam (∀ a,BA x q st [a] [(p1,a)]) aX._auto_1):BL x q st [p1]:=(λus e=>by obtain⟨_,rfl⟩:=Jl e;exact h _)
def cX{p1 p2:Str}(h:autoParam (∀ a b,BA x q st [a,b] [(p1,a),(p2,b)]) aX._auto_1):BL x q st [p1,p2]:=(λus e=>by obtain⟨_,_,rfl⟩:=Jm e;exact h _ _)
def d0{p1 p2 p3:Str}(h:autoParam (∀ a b c,BA x q st [a,b,c] [(p1,a),(p2,b),(p3,c)]) aX._auto_1):BL x q st [p1,p2,p3]:=(λus e=>by obtain⟨_,_,_,rfl⟩:=Jn e;exact h _ _ _)
def oS{p1 p2 p3 p4:Str}(h:autoParam (∀ a b c d,BA x q st [a,b,c,d] [(p1,a),(p2,b),(p3,c),(p4,d)]) aX._auto_1):BL x q st [p1,p2,p3,p4]:=(λus e=>by obtain⟨_,_,_,_,rfl⟩:=Jo e;exact h _ _ _ _)
def dg(X:K.In h)(G:h.Ns mainGlobals mg)(d:DK K x st)(hb:BL x x st ps):DG K mg x st ps:=by
 obtain⟨f,fd,a,F⟩:=d;exact⟨f,fd,O4 X G a,F.kp,F.binds λ_ _ _ _ _ _ us hl=>hb us hl _ _ _ _ _ _,F⟩
def dm(hc:cls c=some C)(k:Cls K C)(d:DN K C m q st)(hb:BL m q st ps):cI K cls c m q st ps:=by
 obtain⟨f,fd,M,F⟩:=d;exact⟨C,f,fd,hc,k,M,F.binds λ_ _ _ _ _ _ us hl=>hb us hl _ _ _ _ _ _,F⟩
def di (hc:cls c=some C) (hx:mg x=some (.ref C)) (mk:PySem.W.makesIn K C=true) (kc:PySem.W.keepIn K (.ref C)=true) (d:DN K C "__init__" q st) (hb:BL "__init__" q st ps):DI K cls mg c x q st ps:=by
 obtain⟨f,fd,M,F⟩:=d;exact⟨C,f,fd,hc,hx,⟨mk,M.at_,M.fn,kc⟩,F.binds λ_ _ _ _ _ _ us hl=>hb us hl _ _ _ _ _ _,F⟩
def vi{fa:ZE}{p:Str}(X:K.In h)(G:h.Ns mainGlobals mg)(hfa:mg x=some (.ref fa))(d:DK K x st)(hb:BL x x st [p]):∃ fd:FuncData,(∀ (s:ZB) (v:ZC),BindsTo s fd ⟨[v],[]⟩ [(p,v)])/\Fun K x x st fa fd:=by
 obtain⟨f,fd,a,F⟩:=d;have e:=hfa.symm.trans (O4 X G a)
 cases e
 refine⟨fd,λs v=>?_,F⟩
 obtain⟨oc,od,kV,doc,pm,an,cdv,ct,osl,rfl,lk,hcd⟩:=F.ex;exact .of_eq (hb [v] rfl _ _ _ _ _ _)
def gs{sc:Scope}(h1:‹sc.kind=.function›)(h2:‹sc.isCoroutine=false›)(h3:‹sc.isGenerator=false›)(h4:autoParam (N.Nodup) aL._auto_1)(h5:‹N.take ps.length=ps›)
  (h6:autoParam (∀ x∈ps,sc.names.lookup x=some .local\/sc.names.lookup x=some .cell) aL._auto_1)(h7:autoParam (∀ y∈sc.names,y.2 ≠ .free) aL._auto_1):aE N ps sc:=(⟨h1,h2,h3,h4,h5,h6,h7⟩)
abbrev lh(P:ZD)(w:ZF)(mg:Str->Option ZC)(base:Heap)(T:Tb)(q:Str)(st:Stmt)(f:ZE)(N:List Str)(k:Nat)(b:SS):Prop :=
 ∀ {cdv:ZC} {A:ZG} {outer:List Env} {s:ZB} {H:Hp} {E:XK},Room k (A.deeper (PyProof.Rows.envOfC q (bL st) s.heap.objs.size f cdv))->CA T (λ_=>E) (bY (cU P w) P w T.K mg base N q (bL st) f cdv A outer s H E) ->
  (A.deeper (PyProof.Rows.envOfC q (bL st) s.heap.objs.size f cdv)).units+64<cLine->N.Nodup->cF T (λ_=>E) (bY (cU P w) P w T.K mg base N q (bL st) f cdv A outer s H E) (iZ st) b
def gf(d:DG T.K mg x st ps)(S:aE N ps (bL st))(hb:∀ {f},lh P w mg base T x st f N k b):GF P w T mg base (k+1) x (ay ps.length N.length b):=by
 obtain⟨f,fd,h1,h2,h3,h4⟩:=d;exact⟨f,fd,_,h1,h2,h3,qV h4 rfl S λcdv A outer s H E hr C=>hb hr C (jl hr) S.nd⟩
def gm(d:cI T.K T.cls c m q st ps)(S:aE N ps (bL st))(no:m∉T.fields c)(hb:∀ {f},lh P w mg base T q st f N k b):GM P w T mg base (k+1) c m (ay ps.length N.length b):=by
 obtain⟨C,f,fd,h0,hc,h1,h3,h4⟩:=d;exact⟨⟨C,f,fd,_,h0,hc,h1,h3,qV h4 rfl S λcdv A outer s H E hr C=>hb hr C (jl hr) S.nd⟩,no⟩
def gk(d:DI T.K T.cls mg c x q st ps)(S:aE N ps (bL st))(hb:∀ {f},lh P w mg base T q st f N k b):GK P w T mg base (k+1) c x (ay ps.length N.length b):=by
 obtain⟨C,f,fd,h0,h1,h2,h3,h4⟩:=d;exact⟨C,f,fd,_,h0,h1,h2,h3,qV h4 rfl S λcdv A outer s H E hr C=>hb hr C (jl hr) S.nd⟩
def gl{f:ZE}{fd:FuncData}(h4:Fun T.K x x st f fd)(S:aE N ps (bL st))(hb:lh P w mg base T x st f N k b):FnOk P w T.K mg base (cU P w) (k+1) f fd ps (iH T (ay ps.length N.length b)) :=(
 qV h4 rfl S λcdv A outer s H E hr C=>hb hr C (jl hr) S.nd)
def XI(K:ZA)(X:ZE):Prop:=PySem.W.excIn K X [.type "ValueError",.type "Exception",.type "BaseException",.type "object"] "ValueError.__new__"=true
def xi {X:ZE} (h:PySem.W.excIn K X [.type "ValueError",.type "Exception",.type "BaseException",.type "object"] "ValueError.__new__"=true):XI K X:=(h)
def gx{X:ZE}{n:Nat}{g:Heap}(KB:K.In g)(KX:K.In h)(G:h.Ns mainGlobals mg)(hc:T.exc n=some X)(e:PySem.W.nsIn K mainGlobals x=some (some (.ref X)))(hx:XI K X):GX T mg g n x:=(⟨X,hc,Hw KB (O4 KX G e) hx⟩)
def KO(K:ZA)(a b:ZE)(v:Bool):Prop:=PySem.W.kitOne K (.ref a) (.ref b)=some v
def ko{a d:ZE}{v:Bool}(h:PySem.W.kitOne K (.ref a) (.ref d)=some v):KO K a d v:=(h)
def XO(K:ZA)(a b:ZE):Prop:=PySem.W.exmOne K (.ref a) (.ref b)=some true
def xo{a d:ZE}(h:PySem.W.exmOne K (.ref a) (.ref d)=some true):XO K a d:=(h)
def NA(K:ZA)(x:Str)(v:Option ZC):Prop:=PySem.W.nsIn K mainGlobals x=some v
def na{v:Option ZC}(h:PySem.W.nsIn K mainGlobals x=some v):NA K x v:=(h)
def FA(K:ZA)(C:ZE)(x:Str):Prop:=PySem.W.findIn K (.ref C) x=some none
def fatt(h:PySem.W.findIn K (.ref C) x=some none):FA K C x:=(h)
end
def eU(st:Stmt):List Str:=((bL st).names.filter λy=>match y.2 with|.local=>true|.cell=>true|_=>false).map (·.1)
section
variable{P:ZD}{w:ZF}{K:ZA}{cls exc:Nat->Option ZE}{fl:Nat->List Str}{n1:∀ c,(fl c).Nodup}{n2:∀ c,(fl c).length<=500}{mg:Str->Option ZC}{base h:Heap}{x m q:Str}{st:Stmt}{ps:List Str}{k c:Nat}{b:SS}
def gF(d:DG K mg x st ps)(hb:∀ {f},lh P w mg base ⟨K,cls,exc,fl,n1,n2⟩ x st f (eU st) k b)(S:aE (eU st) ps (bL st):=by exact gs):GF P w ⟨K,cls,exc,fl,n1,n2⟩ mg base (k+1) x (ay ps.length (eU st).length b):=(gf d S hb)
def gM(d:cI K cls c m q st ps)(hb:∀ {f},lh P w mg base ⟨K,cls,exc,fl,n1,n2⟩ q st f (eU st) k b)(no:decide (m∈fl c)=false:=by kernel_rfl)(S:autoParam (aE (eU st) ps (bL st)) gF._auto_1):GM P w ⟨K,cls,exc,fl,n1,n2⟩ mg base (k+1) c m (ay ps.length (eU st).length b):=(gm d S (of_decide_eq_false no) hb)
def gK(d:DI K cls mg c x q st ps)(hb:∀ {f},lh P w mg base ⟨K,cls,exc,fl,n1,n2⟩ q st f (eU st) k b)(S:autoParam (aE (eU st) ps (bL st)) gF._auto_1):GK P w ⟨K,cls,exc,fl,n1,n2⟩ mg base (k+1) c x (ay ps.length (eU st).length b):=(gk d S hb)
end
section
variable{X:Cx}{P:ZD}{w:ZF}{K:ZA}{mg:Str->Option ZC}{base:Heap}{N:List Str}{q:Str}{sc scope:Scope}{f:ZE}{cd:ZC}{A:ZG}{outer:List Env}{s:ZB}{H:Hp}{E:XK}{CX:fR}{ns:List Str}{jf:List (Nat×Str)}{xe:ZC->ZB->Prop}
def lq(h:vc N sc ns jf scope=true):CompOk (bY CX P w K mg base N q sc f cd A outer s H E) ns jf scope:=(zJ rfl (λ_=>rfl) h)
end
end Sm
namespace L2
open PySem PySem.Spec PyProof.Rows
def vj{P:ZD}{w:ZF}{kvs:List (aJ×V)}{vs:List (aJ×ZC)}(r:KV kvs vs):∀ {ns:List Str} {us:List ZC},kvs.map (·.1)=ns.map Sum.inr->us.length=vs.length->(∀ (i:Nat) (v:ZC),us[i]?=some v->∃ k x,vs[i]?=some (k,x)/\(eB P w).is k v=true)->StrsAre us ns:=by
 unfold KV at r;induction r with
 |nil=>
  intro ns us e l _;cases ns with
  |nil=>cases us with|nil=>exact .nil|cons _ _=>simp at l
  |cons _ _=>simp at e
 |@cons p q kvs vs r rs ih=>
  intro ns us e l f;cases ns with
  |nil=>simp at e
  |cons n ns=>
   cases us with
   |nil=>simp at l
   |cons u us=>
    simp only[Ot,List.cons.injEq] at e
    obtain⟨k,x,e1,e2⟩:=f 0 u rfl;have e3:q=(k,x):=by simpa using e1
    have ek:k=Sum.inr n:=by rw[<- e.1,r.1,e3]
    rw[ek] at e2;rw[Ds] at e2;rcases iA (k:=Sum.inr n) (v:=u) e2 with⟨i,t,a1,a2⟩|⟨y,t,a1,a2⟩
    ·cases a1
    ·injection a1 with a1
     subst a1 a2
     exact .cons _ _ (ih e.2 (by simpa using l) λi v h=>by simpa using f (i+1) v (by simpa using h))
theorem vm:∀ {vs:List ZC} {ns:List Str},StrsAre vs ns->Vals (ns.map V.str) vs
 |_,_,.nil=>.nil
 |_,_,.cons y t h=>.cons ⟨t,rfl⟩ (vm h)
theorem StrsAre.len:∀ {vs:List ZC} {ns:List Str},StrsAre vs ns->vs.length=ns.length
 |_,_,.nil=>rfl
 |_,_,.cons y t h=>congrArg Nat.succ (StrsAre.len h)
def Js{X:Cx}(hc:X.calm=true):CallR X (.builtin "sorted") (λxs H Q=>∃ (a:ZE) (kvs:List (aJ×V)) (ns:List Str),xs=[.ref a]/\H a=some (.dK kvs)/\kvs.map (·.1)=ns.map Sum.inr/\ns.length<64/\∀ (p:ZE) (ns':List Str),H p=none->ns'.Perm ns->sortedS ns'=true->Q (.ref p) (upd H p (.lst (ns'.map V.str)))):=by
 intro pins s σ H xs us Q I rv h;obtain⟨a,kvs,ns,rfl,ha,hn,h64,q⟩:=h;obtain⟨u,rfl,ru⟩:=Vals.one rv;obtain rfl:u=Value.ref a:=ru;obtain⟨z,hd,vs,rel,dd⟩:=dk_of I.hok ha;obtain⟨ep,da⟩:=dd.dictAt;have lv:vs.length=kvs.length:=(Paired.length rel).symm;refine Q8 kind_sorted plain_sorted entry_sorted (args_sorted1 _) ?_
 unfold Builtin.«sorted»
 refine N9 (m:=checkCount "sorted" 1 1 _) (Oi (N9 (Ss (PySem.W.kdl_dict (knd:=eB X.prog X.w) (kvs:=vs) (ep:=ep) hd) (I.ok.hd hc) da (by rw[lv];exact z) λh' tk acc hk hacc=>?_)))
 have hl:acc.toList.length=vs.length:=by rw[PC];exact hacc.1
 have hI:StrsAre acc.toList ns:=vj rel hn hl λi v e=>hacc.2 i v (by rw[<- QI];exact e)
 have hz:acc.toList.length<=sizeLine:=by rw[hl,lv];exact z
 refine N9 (wpAny_newList ?_ hz)
 have hoL:(h'.push (seqObj "list" acc.toList.toArray 0)).get? h'.objs.size=some (seqObj "list" acc.toList.toArray 0):=Os _ rfl;refine N9 (OZ (Pj slot_list_sort ⟨_,hoL,rfl⟩ entry_list_sort (list_sort_treeK (s:={ s with heap:=h'.push (seqObj "list" acc.toList.toArray 0),toks:=tk }) strKind_oneLt hoL hI.keysOf (λv₁ v₂ rest e=>keyKind_strs (by rw[<- e];exact hI)) (by rw[StrsAre.len hI];exact h64) λst' hp hs=>⟨_,rfl,Oi ⟨_,rfl,?_⟩⟩) (args_list_sort _)))
 obtain⟨ns',o1,o2,o3⟩:=sorted_out_str hI hp hs;have I1:Inv X pins σ H { s with heap:=h',toks:=tk }:=I.kept (t':=tk) hk;obtain⟨e,he⟩:=sortedHeap_at (out:=(arrOf st').map (·.2)) hoL;have l2:ns'.length=ns.length:=o2.length_eq;have l3:ns.length=kvs.length:=by have:=congrArg List.length hn;simpa using this.symm
 refine⟨.ref h'.objs.size,_,I1.laid (a:=h'.objs.size) (t':=tk) (o:=.lst (ns'.map V.str)) (λb o hb=>?_) (Oa _) ⟨?_,((arrOf st').map (·.2)).toList,e,vm o1,?_⟩,rfl,q _ ns' (I1.hok.fresh (Oa _)) o2 o3⟩
 ·have lt:b<h'.objs.size:=Om hb
  rw[sortedHeap_old (OJ lt) (by rw[size_push'];exact QC lt)];exact Oe _ hb
 ·rw[Oh,l2,l3];exact z
 ·rw[he]
end L2
namespace Sm
open PySem PySem.Spec L2 PyProof.Rows
def gY(a b:Str):Prop:=ltCps b.cps.toList a.cps.toList=false
def gZ(x:Str):List Str->List Str
 |[]=>[x]
 |y::r=>if ltCps y.cps.toList x.cps.toList then y::gZ x r else x::y::r
def dD:List Str->List Str
 |[]=>[]
 |x::r=>gZ x (dD r)
def leS_le{a b:Str}:gY a b ↔ a.cps.toList<=b.cps.toList:=by
 unfold gY;rw[ltCps_eq,RA];exact Iff.rfl
theorem vn(x:Str):∀ l,(gZ x l).Perm (x::l)
 |[]=>.refl _
 |y::r=>by
  unfold gZ;split
  ·exact((vn x r).cons y).trans (.swap ..)
  ·exact .refl _
theorem fK:∀ l,(dD l).Perm l
 |[]=>.refl _
 |x::r=>(vn x (dD r)).trans ((fK r).cons x)
theorem zN(x:Str):∀ {l:List Str},l.Pairwise gY->(gZ x l).Pairwise gY
 |[],_=>Ru ..
 |y::r,h=>by
  obtain⟨h1,h2⟩:=Pr.mp h;unfold gZ;split
  ·rename_i q
   refine Pr.mpr ⟨λz hz=>?_,zN x h2⟩
   rcases Ov.mp ((vn x r).mem_iff.mp hz) with rfl|hz
   ·rw[leS_le]
    rw[ltCps_eq,Px] at q;exact List.le_of_lt q
   ·exact h1 z hz
  ·rename_i q
   have q':gY x y:=by simpa[gY] using q
   refine Pr.mpr ⟨λz hz=>?_,h⟩
   rcases Ov.mp hz with rfl|hz
   ·exact q'
   ·exact leS_le.mpr (List.le_trans (leS_le.mp q') (leS_le.mp (h1 z hz)))
theorem lr:∀ l,(dD l).Pairwise gY
 |[]=>.nil
 |x::r=>zN x (lr r)
theorem oT:∀ {l m:List Str},l.Perm m->l.Pairwise gY->m.Pairwise gY->l=m
 |[],m,p,_,_=>(List.nil_perm.mp p).symm
 |x::l,[],p,_,_=>by simp at p
 |x::l,y::m,p,h,g=>by
  obtain⟨h1,h2⟩:=Pr.mp h;obtain⟨g1,g2⟩:=Pr.mp g;have e:x=y:=by
   have a:x∈y::m:=p.mem_iff.mp (O0 ..);have b:y∈x::l:=p.mem_iff.mpr (O0 ..);rcases Ov.mp a with a|a
   ·exact a
   ·rcases Ov.mp b with b|b
    ·exact b.symm
    ·have:x.cps.toList=y.cps.toList:=List.le_antisymm (leS_le.mp (h1 y b)) (leS_le.mp (g1 x a))
     cases x;cases y
     congr 1
     exact Rq.mp this
  subst e;rw[oT (List.Perm.cons_inv p) h2 g2]
theorem zO:∀ (p:Str) (l:List Str),PyProof.Rows.risingS p l=true->(p::l).Pairwise gY
 |p,[],_=>Ru ..
 |p,x::r,h=>by
  have h':(!ltCps x.cps.toList p.cps.toList && PyProof.Rows.risingS x r)=true:=h;rw[OT] at h';have t:=zO x r h'.2
  have a:gY p x:=by simpa[gY] using h'.1
  refine Pr.mpr ⟨λz hz=>?_,t⟩
  rcases Ov.mp hz with rfl|hz
  ·exact a
  ·exact leS_le.mpr (List.le_trans (leS_le.mp a) (leS_le.mp ((Pr.mp t).1 z hz)))
theorem zP:∀ (l:List Str),PyProof.Rows.sortedS l=true->l.Pairwise gY
 |[],_=>.nil
 |x::r,h=>zO x r h
def lA:List AV->Option (List Str)
 |[]=>some []
 |.str x::r=>(lA r).map (x :: ·)
 |_::_=>none
theorem vo:∀ {l:List AV} {is:List Str},lA l=some is->l=is.map AV.str
 |[],is,e=>by cases e;rfl
 |.str i::r,is,e=>by
  unfold lA at e
  cases q:lA r with
  |none=>rw[q] at e;cases e
  |some js=>rw[q] at e;cases e;rw[vo q];rfl
 |.non::_,_,e|.bl _::_,_,e|.int _::_,_,e|.tup _::_,_,e|.fl _::_,_,e|.ref _::_,_,e|.exc _::_,_,e=>nomatch e
def mW(v:AV)(h:AH):Option (List Str):=match v with
 |.ref n=>(match h[n]? with
  |some (.dct false kvs)=>lA (kvs.map (·.1))
  |_=>none)
 |_=>none
def lB:Fn:=λargs h=>match args with
 |[v]=>(match mW v h with
  |some ns=>if ns.length<64/\∀ x∈ns,x.length<=1000/\x.cps.all (· < 0x110000)=true then .ok (.fl ((dD ns).map AV.str)) h else .bad
  |none=>.bad)
 |_=>.bad
def iJ:SS:=λ_ _=>.bad
def oU(o k:SE):SE:=λen h=>(o en h).bind λx h1=>match x with
 |.ref n=>(match h1[n]? with
  |some (.dct _ _)=>(k en h1).bind λy h2=>fH n y .non h2
  |_=>.bad)
 |_=>.bad
@[simp] def mX:FM:=λx vs h=>match x,vs with
 |.ref n,[]=>match h[n]? with
  |some (.lst _)=>.ok .non (h.set n (.lst []))
  |_=>.bad
 |_,_=>.bad
section
variable{T:Tb}{E:L2.St->XK}{X:Cx}{pos apos:Pos}{a b c:Expr}{sa sb sc:SE}{st:Stmt}
def Jt (hu:X.A.units+64<cLine) (ha:aF T E X a sa) (hb:aF T E X b sb) (hbase:‹attributeBase a "get" X.env (eval a X.env)=eval a X.env›)
  (hfew:‹((backTo pos (starEach [b] X.env)).all (λx=>!x.1) && (backToKw pos (keywordEach [] X.env)).all (λx=>x.1.isSome) && decide (([b]:List Expr).length+([]:List Keyword).length+(if ([]:List Keyword).isEmpty then 0 else 1)<30))=true›)
  (hline:‹(apos.endLine == pos.line)=true›) (htrees:‹backTo pos (starEach [b] X.env)=[(false,eval b X.env)]›):aF T E X (.Call (.Attribute a "get" apos) [b] [] pos) (oU sa sb):=by
 refine bO (Gw (Ol (OD (by decide:1<=64) _) hu) ha hb ⟨hbase,hfew,hline,htrees⟩) λσ H Q q=>?_
 obtain⟨ι,h,en,S,er,q⟩:=q;refine⟨ι,h,en,S,er,q.bind λx h1 ι1 H1 u g1 S1 r1 q1=>?_⟩
 split at q1
 ·rename_i n
  split at q1
  ·rename_i t0 kvs0 hn0
   cases r1 with
   |@ref _ ad hr =>
    refine⟨ad,rfl,isD_of S1 hn0 hr,ι1,h1,en,S1,er.mono g1,q1.bind λy h2 ι2 H2 v g2 S2 r2 q2=>?_⟩
    unfold fH at q2;split at q2
    ·rename_i t kvs hn
     split at q2
     ·rename_i hk
      obtain⟨o,dg,alt⟩:=qZ S2 hn (g2.ext.at_ hr) r2 hk;refine⟨o,dg,?_⟩
      rcases alt with⟨v1,rfl⟩|⟨v',u',v1,rfl,r4⟩
      ·rw[v1] at q2;exact q2.now S2 .non
      ·rw[v1] at q2;exact q2.now S2 r4
     ·exact q2.elim
    ·exact q2.elim
  ·exact q1.elim
 ·exact q1.elim
theorem vp{ι:Ix}{H:Hp}:∀ {l:List (AV×AV)} {m:List (aJ×V)} {is:List Str},Paired (λ(p:AV×AV) (q:aJ×V)=>p.1=kA q.1/\RV T ι H p.2 q.2) l m->l.map (·.1)=is.map AV.str->m.map (·.1)=is.map Sum.inr
 |_,_,[],.nil,_=>rfl
 |_,_,_::_,.nil,e=>by simp at e
 |_,_,[],.cons _ _,e=>by simp at e
 |_,_,i::is,.cons (a:=p) (b:=q) hh t,e=>by
  rw[Ot,Ot] at e ⊢;injection e with e1 e2
  rw[vp t e2];have e3:kA q.1=.str i:=by rw[<- hh.1];exact e1
  obtain⟨k,v⟩:=q
  cases k with
  |inr j=>injection e3 with e3;subst e3;rfl
  |inl x=>cases e3
theorem vq{ι:Ix}{H:Hp}:∀ (ns:List Str),(∀ x∈ns,x.length<=sizeLine/\x.cps.all (· < 0x110000)=true)->RVs T ι H (ns.map AV.str) (ns.map V.str)
 |[],_=>.nil
 |n::ns,h=>.cons (.str (h n (O0 ..)).1 (h n (O0 ..)).2) (vq ns λx hx=>h x (OK _ hx))
def Ju(hc:‹X.calm=true›):∃ r,CallR X (.builtin "sorted") r/\ij T lB r:=by
 refine⟨_,Js hc,λι h H xs us E Q S r q=>?_⟩
 unfold lB at q;split at q
 ·split at q
  ·rename_i ns hn
   split at q
   case isFalse=>exact q.elim
   rename_i hz;unfold mW at hn;split at hn
   ·rename_i n
    split at hn
    ·rename_i kvs hk
     cases r with
     |cons r r' =>
      cases r'
      cases r with
      |@ref _ ad hr =>
       obtain⟨ob,e1,kus,rfl,pr⟩:=S.obj n _ ad hk hr;refine⟨ad,kus,ns,rfl,e1,vp pr (vo hn),hz.1,λp ns' hp pm so=>?_⟩
       have:ns'=dD ns:=oT (pm.trans (fK ns).symm) (zP _ so) (lr ns)
       subst this;exact q ι _ _ (S.growNew hp) (S.new hp) (.fl (S.fresh hp) (.of dQ) (vq _ λx hx=>⟨Oc (hz.2 x ((fK ns).mem_iff.mp hx)).1 'd',(hz.2 x ((fK ns).mem_iff.mp hx)).2⟩))
    ·cases hn
   ·cases hn
  ·exact q.elim
 ·exact q.elim
def zQ:∃ r,iX X "list.clear" r/\mS T mX r:=by
 refine⟨_,FQ,λι h H x xs u us E Q S rx rs q=>?_⟩
 unfold mX at q;split at q
 ·rename_i n
  split at q
  ·rename_i ys hn
   cases rx with
   |@ref _ ad hr =>
    cases rs
    obtain⟨o,e1,ws,rfl,rw_⟩:=S.obj n _ ad hn hr;exact⟨ad,ws,rfl,rfl,e1,q ι _ _ (S.growSet (u:=.lst []) hr) (S.set hr ⟨_,rfl,.nil⟩) .non⟩
  ·exact q.elim
 ·exact q.elim
end
end Sm
namespace L2
open PySem PySem.Spec PyProof.Rows
def Jv{X:Cx}:CallR X (.type "dict") (λxs H Q=>∃ (a:ZE) (kvs:List (aJ×V)),xs=[.ref a]/\H a=some (.dK kvs)/\∀ (p:ZE),H p=none->Q (.ref p) (upd H p (.dK kvs))):=by
 intro pins s σ H xs us Q I rv h;obtain⟨a,kvs,rfl,ha,q⟩:=h;obtain⟨u,rfl,ru⟩:=Vals.one rv;obtain rfl:u=Value.ref a:=ru;obtain⟨z,hd,vs,rel,dd⟩:=dk_of I.hok ha;have lv:vs.length=kvs.length:=(Paired.length rel).symm;refine PySem.kt_call_dict hd dd (by rw[lv];exact z) λh' d' sb=>?_
 have ks:∀ b o,s.heap.get? b=some o->h'.get? b=some o:=λb o hb=>(sb.2 b (λe=>absurd (Om hb) (by rw[e];exact Pt _))).trans (Oe _ hb)
 have hs:(s.heap.objs.size == sysModules)=false:=beq_eq_false_iff_ne.mpr (Ne.symm (OJ I.big));exact⟨.ref s.heap.objs.size,_,I.laid (a:=s.heap.objs.size) (t':=s.toks) (o:=.dK kvs) ks (Oa _) ⟨z,hs,vs,rel,d'⟩,rfl,q _ (I.hok.fresh (Oa _))⟩
end L2
namespace Sm
open PySem PySem.Spec L2 PyProof.Rows
def vt:bootBuiltins "dict"=some (.type "dict"):=by decide +kernel
def ip:Fn:=λargs h=>match args with
 |[.ref n]=>(match h[n]? with
  |some (.dct false kvs)=>.ok (.ref h.length) (h++[.dct false kvs])
  |_=>.bad)
 |_=>.bad
def vv{T:Tb}{X:Cx}:∃ r,CallR X (.type "dict") r/\ij T ip r:=by
 refine⟨_,Jv,λι h H xs us E Q S r q=>?_⟩
 unfold ip at q;split at q
 ·rename_i n
  split at q
  ·rename_i kvs hn
   cases r with
   |cons r r' =>
    cases r'
    cases r with
    |@ref _ ad hr =>
     obtain⟨ob,e1,kus,rfl,pr⟩:=S.obj n _ ad hn hr;exact⟨ad,kus,rfl,e1,λp hp=>q _ _ _ (S.growAdd hp) (S.add hp ⟨_,rfl,Paired.mapP pr λ_ _ ⟨a,b⟩=>⟨a,b.mono (S.growAdd hp)⟩⟩) (.ref S.addAt)⟩
  ·exact q.elim
 ·exact q.elim
end Sm
namespace L2
open PySem PySem.Spec PyProof.Rows
section
variable{P:ZD}{w:ZF}{A:ZG}{E:ZC->ZB->Prop}{s:ZB}
def Jw (d:ZE) (hd:(d == sysModules)=false) {Q:ZC->ZB->Prop} (ty:s.TypeIs (.ref d) "dict")
  (q:Q (.ref s.heap.objs.size) { s with heap:=s.heap.push { cls:=.type "dict_keys",data:=.fields #[.ref d] } }):wpAny (model P w) A (call (.builtin "dict.keys") [.ref d]) Q E s:=by
 refine Pj F.slot_dict_keys ty F.entry_dict_keys (N9 ?_) (F.args_dict_keys_1 _)
 unfold Builtin.Dict.noArgs;refine N9 (QK ty (show wpAny _ _ (pure d) _ _ s from Oi (show wpAny _ _ (Builtin.Dict.showsAll d >>= _) _ _ s from ?_)))
 unfold Builtin.Dict.showsAll;rw[Og (by rw[hd];exact Ou)];exact N9 (Oi (N9 (Pw (Oi ⟨_,rfl,q⟩))))
end
def rp(p a:ZE):HO:=.ext λh=>PySem.W.KdlKeysView h p a
def Jx{X:Cx}:iX X "dict.keys" (λx xs H Q=>∃ a kvs,x=.ref a/\xs=[]/\H a=some (.dK kvs)/\∀ p,H p=none->Q (.ref p) (upd H p (rp p a))):=by
 intro pins s σ H x xs v us Q I rx r h;obtain⟨a,kvs,rfl,rfl,ha,q⟩:=h
 cases r
 cases rx
 obtain⟨z,hd,vs,rel,dd⟩:=dk_of I.hok ha;refine Jw a hd dd.typeIs ⟨.ref s.heap.objs.size,_,I.laid (a:=s.heap.objs.size) (o:=rp s.heap.objs.size a) (t':=s.toks) (λ_ _ z=>Oe _ z) (Oa _) ⟨⟨_,Os _ rfl,rfl,rfl⟩,⟨_,Os _ rfl⟩,λh1 h2 st k=>st.imp λo e=>⟨k o e.1,e.2⟩⟩,rfl,q _ (I.hok.fresh (Oa _))⟩
def Jy{X:Cx}(hc:X.calm=true):CallR X (.builtin "sorted") (λxs H Q=>∃ (v a:ZE) (kvs:List (aJ×V)) (ns:List Str),xs=[.ref v]/\H v=some (rp v a)/\H a=some (.dK kvs)/\kvs.map (·.1)=ns.map Sum.inr/\ns.length<64/\∀ (p:ZE) (ns':List Str),H p=none->ns'.Perm ns->sortedS ns'=true->Q (.ref p) (upd H p (.lst (ns'.map V.str)))):=by
 intro pins s σ H xs us Q I rv h;obtain⟨v,a,kvs,ns,rfl,hv,ha,hn,h64,q⟩:=h;obtain⟨u,rfl,ru⟩:=Vals.one rv;obtain rfl:u=Value.ref v:=ru;obtain⟨vw,_⟩:=I.hok v _ hv;obtain⟨z,hd,vs,rel,dd⟩:=dk_of I.hok ha;obtain⟨ep,da⟩:=dd.dictAt;have lv:vs.length=kvs.length:=(Paired.length rel).symm;refine Q8 kind_sorted plain_sorted entry_sorted (args_sorted1 _) ?_
 unfold Builtin.«sorted»
 refine N9 (m:=checkCount "sorted" 1 1 _) (Oi (N9 (Ss (PySem.W.kdl_keys (knd:=eB X.prog X.w) (kvs:=vs) (ep:=ep) (r:=v) (d:=a)) (I.ok.hd hc) ⟨vw,da⟩ (by rw[lv];exact z) λh' tk acc hk hacc=>?_)))
 have hl:acc.toList.length=vs.length:=by rw[PC];exact hacc.1
 have hI:StrsAre acc.toList ns:=vj rel hn hl λi v e=>hacc.2 i v (by rw[<- QI];exact e)
 have hz:acc.toList.length<=sizeLine:=by rw[hl,lv];exact z
 refine N9 (wpAny_newList ?_ hz)
 have hoL:(h'.push (seqObj "list" acc.toList.toArray 0)).get? h'.objs.size=some (seqObj "list" acc.toList.toArray 0):=Os _ rfl;refine N9 (OZ (Pj slot_list_sort ⟨_,hoL,rfl⟩ entry_list_sort (list_sort_treeK (s:={ s with heap:=h'.push (seqObj "list" acc.toList.toArray 0),toks:=tk }) strKind_oneLt hoL hI.keysOf (λv₁ v₂ rest e=>keyKind_strs (by rw[<- e];exact hI)) (by rw[StrsAre.len hI];exact h64) λst' hp hs=>⟨_,rfl,Oi ⟨_,rfl,?_⟩⟩) (args_list_sort _)))
 obtain⟨ns',o1,o2,o3⟩:=sorted_out_str hI hp hs;have I1:Inv X pins σ H { s with heap:=h',toks:=tk }:=I.kept (t':=tk) hk;obtain⟨e,he⟩:=sortedHeap_at (out:=(arrOf st').map (·.2)) hoL;have l2:ns'.length=ns.length:=o2.length_eq;have l3:ns.length=kvs.length:=by have:=congrArg List.length hn;simpa using this.symm
 refine⟨.ref h'.objs.size,_,I1.laid (a:=h'.objs.size) (t':=tk) (o:=.lst (ns'.map V.str)) (λb o hb=>?_) (Oa _) ⟨?_,((arrOf st').map (·.2)).toList,e,vm o1,?_⟩,rfl,q _ ns' (I1.hok.fresh (Oa _)) o2 o3⟩
 ·have lt:b<h'.objs.size:=Om hb
  rw[sortedHeap_old (OJ lt) (by rw[size_push'];exact QC lt)];exact Oe _ hb
 ·rw[Oh,l2,l3];exact z
 ·rw[he]
end L2
namespace Sm
open PySem PySem.Spec L2 PyProof.Rows
def g8(a:SE):SE:=λen h=>(a en h).bind λv h1=>lB [v] h1
section
variable{T:Tb}{E:L2.St->XK}{X:Cx}{p pos apos cpos:Pos}{a:Expr}{sa:SE}
def vx (hc:X.calm=true) (hg:Gl X "sorted") (hm:X.mg "sorted"=none) (hb:bootBuiltins "sorted"=some (.builtin "sorted")) (ha:aF T E X a sa) (hbase:‹attributeBase a "keys" X.env (eval a X.env)=eval a X.env›) (hline:‹(apos.endLine == cpos.line)=true›)
  (he:‹starEach [.Call (.Attribute a "keys" apos) [] [] cpos] X.env=[(false,eval (.Call (.Attribute a "keys" apos) [] [] cpos) X.env)]›):aF T E X (.Call (.Name "sorted" p) [.Call (.Attribute a "keys" apos) [] [] cpos] [] pos) (g8 sa):=by
 refine bO (qo (Jy hc) hg hm hb (jV (yo PY PySem.F.slot_dict_keys PySem.F.type_dict_keys Jx ha hbase hline) oa he) (he:=he)) λσ H Q=>E6x λι h en S er q=>⟨ι,h,en,S,er,q.bind λx h1 ι1 H1 u g1 S1 r1 q1=>?_⟩
 unfold lB at q1;dsimp only at q1
 cases hn:mW x h1 with
 |none=>rw[hn] at q1;exact q1.elim
 |some ns =>
  rw[hn] at q1;dsimp only at q1
  by_cases hz:ns.length<64/\∀ x∈ns,x.length<=1000/\x.cps.all (· < 0x110000)=true
  ·rw[Of hz] at q1
   unfold mW at hn;split at hn
   ·rename_i n
    split at hn
    ·rename_i kvs hk
     cases r1 with
     |@ref _ ad hr =>
      obtain⟨ob,e1,kus,rfl,pr⟩:=S1.obj n _ ad hk hr;refine⟨.inr (.inr (.inl ⟨rfl,.inl ⟨_,e1⟩⟩)),ad,kus,rfl,rfl,e1,λp hp=>⟨p,ad,kus,ns,rfl,dQ,by rw[bg (fQ e1 hp)];exact e1,vp pr (vo hn),hz.1,λp2 ns' hp2 pm so=>?_⟩⟩
      have:ns'=dD ns:=oT (pm.trans (fK ns).symm) (zP _ so) (lr ns)
      subst this;have S2:=S1.new (o:=rp p ad) hp
      exact q1 ι1 _ _ ((S1.growNew hp).trans (S2.growNew hp2)) (S2.new hp2) (.fl (S2.fresh hp2) (.of dQ) (vq _ λx hx=>⟨Oc (hz.2 x ((fK ns).mem_iff.mp hx)).1 'd',(hz.2 x ((fK ns).mem_iff.mp hx)).2⟩))
    ·cases hn
   ·cases hn
  ·rw[Og hz] at q1;exact q1.elim
end
end Sm
namespace L2
open PySem PySem.Spec PyProof.Rows
def Ldd(X:Cx)(pins:List (ZE×Obj))(σ:St)(H:Hp)(a:ZE)(cls:ZC)(dx:Option ZE)(s:ZB)(h5:Heap):Prop :=
 Arr X pins σ H a cls dx s/\∃ B a0,gP X pins H s.heap B/\Heap.FlyingW B X.stack a cls a0 h5/\s.heap.UpToSlots h5/\∃ ob,h5.get? a=some ob/\ob.dict=dx
section
variable{X:Cx}{pins:List (ZE×Obj)}{σ:St}{H:Hp}{a:ZE}{cls:ZC}{dx:Option ZE}{s:ZB}{h5 h6:Heap}
def Ldd.keeps(L:Ldd X pins σ H a cls dx s h5)(k:∀ b o,h5.get? b=some o->h6.get? b=some o):Ldd X pins σ H a cls dx s h6:=by
 obtain⟨R,B,a0,fm,fl,sm,ob,e1,e2⟩:=L;exact⟨R,B,a0,fm,PySem.W.flying_keeps fl k,sm.trans (Heap.UpToSlots.of_keeps k),ob,k _ _ e1,e2⟩
def Ldd.inv(L:Ldd X pins σ H a cls dx s h5)(hex:X.ex=[]):Inv X pins σ H { s with heap:=h5 }:=by
 obtain⟨R,B,a0,fm,fl,sm,_⟩:=L;exact R.inv.flown (t':=s.toks) hex fm fl.1 sm
def Ldd.ty{M:Model}(L:Ldd X pins σ H a cls dx s h5):PySem.W.Looks M h5 (typeOf (.ref a)) cls:=by
 obtain⟨R,B,a0,fm,fl,sm,_⟩:=L;obtain⟨oe,vs,hoe,hoec,_⟩:=fl.first;exact hoec▸yM hoe
end
abbrev HG:=cY->St->ZC->Option ZE->Hp->Prop
def rq(X:Cx)(hs:List ExceptHandler)(g:HG):Prop :=
 ∀ (pins:List (ZE×Obj)) (σ:St) (H:Hp) (a:ZE) (cls:ZC) (dx:Option ZE) (s:ZB) (h5:Heap) (D:cY),Ldd X pins σ H a cls dx s h5->g D σ cls dx H ->
  wpAny (model X.prog X.w) X.A (handleBy (.ref a) X.env hs) (SP X pins D) X.xe { s with heap:=h5 }
section
variable{X:Cx}{C C1 C2:ZE}{x1 x2 xc n:Str}{i kk:Nat}{p1 p2 tp hpos np pos:Pos}{b0:Stmt}{suite body:List Stmt}{rest:List ExceptHandler}{th:TS}{g:HG}{outer:List Env}
def Jz (hex:X.ex=[]) (hg:Gl X xc) (hm:X.mg xc=some (.ref C)) (hh:∀ a,PSs (cD X a) (b0::suite) th) (hdb:((xc == ("__debug__" : Str))=false)⁻¹) :
  rq X [.ExceptHandler (some (.Name xc np)) none (b0::suite) hpos] (λD σ cls _ H=>PySem.W.exmOne X.K cls (.ref C)=some true/\th { nx:=D.nx,rt:=D.rt,bk:=D.bk,ct:=D.ct } σ H):=by
 intro pins σ H a cls dx s h5 D L ⟨hxm,q⟩;have I5:=L.inv hex;have okX:=I5.ok;have ty:=L.ty (M:=model X.prog X.w);refine Sy (R0 (ku (X:=cD X a) (I5.hdl a) hg hm ?_ hdb)) (by intro z;cases z)
 refine(PySem.W.exm_one I5.kIn ty hxm).here ?_
 refine codeAny_handlers_suite ?_
 obtain⟨R,B,a0,fm,fl,sm,_⟩:=L;refine lands_againW fl λh6 fl6 sm6=>?_
 have I6:Inv X pins σ H { s with heap:=h6 }:=R.inv.flown (t':=s.toks) hex fm fl6.1 (sm.trans sm6);refine OV (hh a pins _ _ _ _ (I6.hdl a) q) (λf s9 q9=>?_) λ_ _ z=>z.elim
 cases f with
 |next=>obtain⟨σ2,H2,I2,q2⟩:=q9;exact⟨σ2,H2,I2.unhdl okX,q2⟩
 |brk=>obtain⟨σ2,H2,I2,q2⟩:=q9;exact⟨σ2,H2,I2.unhdl okX,q2⟩
 |cont=>obtain⟨σ2,H2,I2,q2⟩:=q9;exact⟨σ2,H2,I2.unhdl okX,q2⟩
 |ret u=>obtain⟨v2,σ2,H2,I2,r2,q2⟩:=q9;exact⟨v2,σ2,H2,I2.unhdl okX,r2,q2⟩
def zR (hex:X.ex=[]) (hN:X.N.Nodup) (hi:X.N[i]?=some n) (hl:X.env.scope.names.lookup n=some .local) (hg1:Gl X x1) (hm1:X.mg x1=some (.ref C1)) (hg2:Gl X x2) (hm2:X.mg x2=some (.ref C2)) (hh:∀ a,PSs (cD X a) (b0::suite) th) (hr:rq X rest g)
  (d1:((x1 == ("__debug__" : Str))=false)⁻¹) (d2:((x2 == ("__debug__" : Str))=false)⁻¹) :
  rq X (.ExceptHandler (some (.Tuple [.Name x1 p1,.Name x2 p2] kk tp)) (some n) (b0::suite) hpos::rest) (λD σ cls dx H =>
   (PySem.W.exmAny X.K cls [.ref C1,.ref C2]=some false/\g D σ cls dx H) \/
   (PySem.W.exmAny X.K cls [.ref C1,.ref C2]=some true/\∀ a,H a=none->th { nx:=λσ2 H2=>D.nx (σ2.set i none) H2,rt:=D.rt,bk:=λσ2 H2=>D.bk (σ2.set i none) H2,ct:=λσ2 H2=>D.ct (σ2.set i none) H2 } (σ.set i (some (.ref a))) (upd H a (fY a cls dx)))):=by
 intro pins σ H a cls dx s h5 D L q;have I5:=L.inv hex;have okX:=I5.ok;have kp:∀ q o,h5.get? q=some o->(h5.push { cls:=.type "tuple",data:=.seq [.ref C1,.ref C2].toArray }).get? q=some o:=λ_ _ z=>Oe _ z
 have L6:=L.keeps kp;have I6:=L6.inv hex;have ty:=L6.ty (M:=model X.prog X.w);refine Sy (R0 ?_) (by intro z;cases z)
 refine wpAny_Tuple ?_
 refine wpAny_items_cons (ku (X:=cD X a) (I5.hdl a) hg1 hm1 ?_ d1)
 refine wpAny_items_cons (ku (X:=cD X a) (I5.hdl a) hg2 hm2 ?_ d2)
 refine wpAny_items_nil ⟨by size_fits,?_⟩
 rcases q with⟨hx,q⟩|⟨hx,q⟩
 ·exact(PySem.W.exm_tup2 I6.kIn ty (Os h5 rfl) hx).here (hr pins σ H a cls dx s _ D L6 q)
 ·refine(PySem.W.exm_tup2 I6.kIn ty (Os h5 rfl) hx).here ?_
  refine codeAny_handlers_suite_as ?_
  obtain⟨R,B,a0,fm,fl,sm,dk⟩:=L6;refine Hl fl dk λh7 fl7 sm7 dk7=>?_
  have I7:Inv X pins σ H { s with heap:=h7 }:=R.inv.flown (t':=s.toks) hex fm fl7.1 (sm.trans sm7);obtain⟨oe6,vs6,hoe6,hoec6,hoed6,_⟩:=fl7.first;have I8:Inv X pins σ (upd H a (fY a cls dx)) { s with heap:=h7 }:=I7.adopt0 R.un R.new R.nl R.nc R.np
   ⟨⟨oe6,vs6,hoe6,hoec6,hoed6,by obtain⟨ob,e1,e2⟩:=dk7;rw[show h7.get? a=some oe6 from hoe6] at e1;cases e1;exact e2⟩,⟨oe6,hoe6⟩,λg1 g2 ⟨ob,ws,z1,z2,z3⟩ k=>⟨ob,ws,k ob z1,z2,z3⟩⟩
  refine mD (X:=cD X a) (I8.hdl a) hN hi (.inl hl) (v:=.ref a) rfl (λs8 I8=>?_) (.inr hl)
  refine OV (hh a pins s8 _ _ _ I8 (q a R.un)) (λf s9 q9=>?_) λ_ _ z=>z.elim
  cases f with
  |next=>obtain⟨σ2,H2,I2,q2⟩:=q9;exact qC (I2.unhdl okX) hN hi hl λs' I'=>⟨_,H2,I',q2⟩
  |brk=>obtain⟨σ2,H2,I2,q2⟩:=q9;exact qC (I2.unhdl okX) hN hi hl λs' I'=>⟨_,H2,I',q2⟩
  |cont=>obtain⟨σ2,H2,I2,q2⟩:=q9;exact qC (I2.unhdl okX) hN hi hl λs' I'=>⟨_,H2,I',q2⟩
  |ret u=>obtain⟨v2,σ2,H2,I2,r2,q2⟩:=q9;exact qC (I2.unhdl okX) hN hi hl λs' I'=>⟨v2,_,H2,I',r2,q2⟩
def JA(g:HG)(tb:(St->XK)->TS):TS:=λD σ H=>tb (λσ' cls dx H'=>g D σ' cls dx H') D σ H
def JB{h0:ExceptHandler}{hs:List ExceptHandler}{tb:(St->XK)->TS}(hex:X.ex=[])(hst:X.stack=X.env::outer)(hf:X.env.frame=some X.env.locals)(hh:rq X (h0::hs) g)
  (hb:∀ pins xe Ex,kL (cU X.prog X.w) (tryC X pins xe) Ex->mI (tryC X pins xe) Ex->PSs (tryC X pins xe) body (tb Ex)):PS X (.Try body (h0::hs) [] [] pos) (JA g tb):=by
 intro pins s σ H D I h;have okX:=I.ok;let Ex:St->XK:=λσ' cls dx H'=>g D σ' cls dx H'
 let xe:ZC->ZB->Prop:=λe s'=>∃ σ' H' a cls dx,e=.ref a/\Arr X pins σ' H' a cls dx s'/\Ex σ' cls dx H'
 have hR:mI (tryC X pins xe) Ex:=λpins' σ' H' s' a cls dx R q=>⟨σ',H',a,cls,dx,rfl,R.untry,q⟩
 have hP:kL (cU X.prog X.w) (tryC X pins xe) Ex:=λpins' σ' H' s1 e s2 I' hq=>by
  obtain⟨a,cls,dx,H2,rfl,R,q⟩:=yJ (X:=tryC X pins xe) I' hex hq;exact⟨σ',H2,a,cls,dx,rfl,R.untry,q⟩
 have hbody:=hb pins xe Ex hP hR [] s σ H D (I.toTry (xe:=xe)) h;refine wpAny_Try_except (OV hbody (λf s1 q=>?_) λe s1 q=>?_)
 ·cases f with
  |next=>obtain⟨σ1,H1,I1,q1⟩:=q;exact Qr ⟨σ1,H1,I1.untry,q1⟩
  |brk=>obtain⟨σ1,H1,I1,q1⟩:=q;exact⟨σ1,H1,I1.untry,q1⟩
  |cont=>obtain⟨σ1,H1,I1,q1⟩:=q;exact⟨σ1,H1,I1.untry,q1⟩
  |ret u=>obtain⟨v1,σ1,H1,I1,r1,q1⟩:=q;exact⟨v1,σ1,H1,I1.untry,r1,q1⟩
 ·obtain⟨σ1,H1,a,cls,dx,rfl,R,q1⟩:=q
  refine R.land hex okX.frames hst hf λh5 B a0 fm fl sm I5 dk=>?_
  exact hh pins σ1 H1 a cls dx s1 h5 D ⟨R,B,a0,fm,fl,sm,dk⟩ q1
end
end L2
namespace Sm
open PySem PySem.Spec L2 PyProof.Rows
def lC(i:Nat)(o:OutS):OutS:=match o with
 |.nx e2 h2=>.nx (e2.set i none) h2
 |.bk e2 h2=>.bk (e2.set i none) h2
 |.ct e2 h2=>.ct (e2.set i none) h2
 |.rt v h2=>.rt v h2
 |_=>.bad
def vy(o:OutS):OutS:=match o with
 |.ex _ _ _=>.bad
 |o=>o
def lD(i:Nat)(c1 c2 c3:Nat->Bool)(b d1 d2 d3:SS):SS:=λen h=>match b en h with
 |.ex c e h'=>if c1 c=true then lC i (d1 (e.set i (some (.exc c))) h') else if c2 c=true then lC i (d2 (e.set i (some (.exc c))) h') else if c3 c=true then vy (d3 e h') else .bad
 |o=>o
def CU(T:Tb)(mg:Str->Option ZC)(x:Str)(f:Nat->Bool):Prop:=∃ C,mg x=some (.ref C)/\∀ c C',T.exc c=some C'->PySem.W.exmOne T.K (.ref C') (.ref C)=some (f c)
def XF(K:ZA)(a b:ZE):Prop:=PySem.W.exmOne K (.ref a) (.ref b)=some false
def xf{K:ZA}{a b:ZE}(h:PySem.W.exmOne K (.ref a) (.ref b)=some false):XF K a b:=(h)
section
variable{T:Tb}{E:L2.St->XK}{X:Cx}{pos p1 p2 p3 p4 tp tp2 np hp1 hp2 hp3:Pos}{k1 k2:Nat}
def zS{mg:Str->Option ZC}{x1 x2:Str}{f1 f2:Nat->Bool}(u1:CU T mg x1 f1)(u2:CU T mg x2 f2):∃ C1 C2,mg x1=some (.ref C1)/\mg x2=some (.ref C2)/\∀ c C',T.exc c=some C'->PySem.W.exmAny T.K (.ref C') [.ref C1,.ref C2]=some (f1 c || f2 c):=by
 obtain⟨C1,m1,e1⟩:=u1;obtain⟨C2,m2,e2⟩:=u2;refine⟨C1,C2,m1,m2,λc C' h=>?_⟩
 simp only[PySem.W.exmAny,e1 c C' h,e2 c C' h,Bool.or_false]
def JC {x1 x2 x3 x4 x5 n:Str} {i:Nat} {body s1 s2 s3:List Stmt} {b1 b2 b3:Stmt} {sb d1 d2 d3:SS} {outer:List Env} {f1 f2 f3 f4 f5:Nat->Bool} (hK:X.K=T.K) (hN:X.N.Nodup)
  (hg1:Gl X x1) (hg2:Gl X x2) (hg3:Gl X x3) (hg4:Gl X x4) (hg5:Gl X x5) (u1:CU T X.mg x1 f1) (u2:CU T X.mg x2 f2) (u3:CU T X.mg x3 f3) (u4:CU T X.mg x4 f4) (u5:CU T X.mg x5 f5)
  (hb:∀ pins xe Ex,CA T Ex (tryC X pins xe)->mI (tryC X pins xe) Ex->cF T Ex (tryC X pins xe) body sb)
  (h1:∀ a,CA T EN (cD X a)->cF T EN (cD X a) (b1::s1) d1) (h2:∀ a,CA T EN (cD X a)->cF T EN (cD X a) (b2::s2) d2) (h3:∀ a,CA T EN (cD X a)->cF T EN (cD X a) (b3::s3) d3)
  (hex:‹X.ex=[]›) (hst:‹X.stack=X.env::outer›) (hf:‹X.env.frame=some X.env.locals›) (hi:‹X.N[i]?=some n›) (hl:‹X.env.scope.names.lookup n=some .local›)
  (q1:((x1 == ("__debug__" : Str))=false)⁻¹) (q2:((x2 == ("__debug__" : Str))=false)⁻¹) (q3:((x3 == ("__debug__" : Str))=false)⁻¹) (q4:((x4 == ("__debug__" : Str))=false)⁻¹) (q5:((x5 == ("__debug__" : Str))=false)⁻¹) :
  fZ T E X (.Try body [.ExceptHandler (some (.Tuple [.Name x1 p1,.Name x2 p2] k1 tp)) (some n) (b1::s1) hp1,.ExceptHandler (some (.Tuple [.Name x3 p3,.Name x4 p4] k2 tp2)) (some n) (b2::s2) hp2,.ExceptHandler (some (.Name x5 np)) none (b3::s3) hp3] [] [] pos)
   (lD i (λc=>f1 c || f2 c) (λc=>f3 c || f4 c) f5 sb d1 d2 d3):=by
 obtain⟨C1,C2,m1,m2,e12⟩:=zS u1 u2;obtain⟨C3,C4,m3,m4,e34⟩:=zS u3 u4;obtain⟨C5,m5,e5⟩:=u5;refine gR (JB hex hst hf (zR hex hN hi hl hg1 m1 hg2 m2 (λa=>h1 a (CA.never hK)) (zR hex hN hi hl hg3 m3 hg4 m4 (λa=>h2 a (CA.never hK)) (Jz hex hg5 m5 (λa=>h3 a (CA.never hK)) q5) q3 q4) q1 q2) (λpins xe Ex h1 h2=>hb pins xe Ex ⟨hK,h1⟩ h2)) λD σ H=>E6x λι h en S er q=>⟨ι,h,en,S,er,?_⟩
 unfold lD at q
 cases z1:sb en h with
 |nx e2 h2=>rw[z1] at q;exact q
 |rt v h2=>rw[z1] at q;exact q
 |bk e2 h2=>rw[z1] at q;exact q
 |ct e2 h2=>rw[z1] at q;exact q
 |bad=>rw[z1] at q;exact q
 |ex c e2 h2 =>
  rw[z1] at q;dsimp only at q
  intro ι' H' σ' C' g S' er' ec;have w12:=e12 c C'.1 ec.1;have w34:=e34 c C'.1 ec.1;have w5:=e5 c C'.1 ec.1;rw[<- hK] at w12 w34 w5;by_cases hc1:(f1 c || f2 c)=true
  ·rw[Of hc1] at q
   rw[hc1] at w12;refine .inr ⟨w12,λa hn=>⟨ι',h2,e2.set i (some (.exc c)),S'.new hn,(er'.mono (S'.growNew hn)).set (.exc (S'.fresh hn) ⟨ec.1,ec.2.ext (S'.growNew hn).ext⟩ dQ) i,?_⟩⟩
   have q2:=PostS.shift q (g.trans (S'.growNew (o:=fY a (.ref C'.1) C'.2) hn));unfold lC at q2
   cases z3:d1 (e2.set i (some (.exc c))) h2 with
   |nx e4 h4=>rw[z3] at q2;exactλι5 H5 σ5 g5 S5 er5=>q2 ι5 H5 _ g5 S5 (er5.unset i)
   |bk e4 h4=>rw[z3] at q2;exactλι5 H5 σ5 g5 S5 er5=>q2 ι5 H5 _ g5 S5 (er5.unset i)
   |ct e4 h4=>rw[z3] at q2;exactλι5 H5 σ5 g5 S5 er5=>q2 ι5 H5 _ g5 S5 (er5.unset i)
   |rt v h4=>rw[z3] at q2;exact q2
   |ex c' e4 h4=>rw[z3] at q2;exact(show False from q2).elim
   |bad=>rw[z3] at q2;exact q2
  ·rw[Og hc1] at q
   rw[Rb.mpr hc1] at w12;refine .inl ⟨w12,?_⟩
   by_cases hc2:(f3 c || f4 c)=true
   ·rw[Of hc2] at q
    rw[hc2] at w34;refine .inr ⟨w34,λa hn=>⟨ι',h2,e2.set i (some (.exc c)),S'.new hn,(er'.mono (S'.growNew hn)).set (.exc (S'.fresh hn) ⟨ec.1,ec.2.ext (S'.growNew hn).ext⟩ dQ) i,?_⟩⟩
    have q2:=PostS.shift q (g.trans (S'.growNew (o:=fY a (.ref C'.1) C'.2) hn));unfold lC at q2
    cases z3:d2 (e2.set i (some (.exc c))) h2 with
    |nx e4 h4=>rw[z3] at q2;exactλι5 H5 σ5 g5 S5 er5=>q2 ι5 H5 _ g5 S5 (er5.unset i)
    |bk e4 h4=>rw[z3] at q2;exactλι5 H5 σ5 g5 S5 er5=>q2 ι5 H5 _ g5 S5 (er5.unset i)
    |ct e4 h4=>rw[z3] at q2;exactλι5 H5 σ5 g5 S5 er5=>q2 ι5 H5 _ g5 S5 (er5.unset i)
    |rt v h4=>rw[z3] at q2;exact q2
    |ex c' e4 h4=>rw[z3] at q2;exact(show False from q2).elim
    |bad=>rw[z3] at q2;exact q2
   ·rw[Og hc2] at q
    rw[Rb.mpr hc2] at w34;refine .inl ⟨w34,?_⟩
    by_cases hc3:f5 c=true
    ·rw[Of hc3] at q
     rw[hc3] at w5;refine⟨w5,ι',h2,e2,S',er',?_⟩
     have q2:=PostS.shift q g;unfold vy at q2
     cases z3:d3 e2 h2 with
     |nx e4 h4=>rw[z3] at q2;exact q2
     |bk e4 h4=>rw[z3] at q2;exact q2
     |ct e4 h4=>rw[z3] at q2;exact q2
     |rt v h4=>rw[z3] at q2;exact q2
     |ex c' e4 h4=>rw[z3] at q2;exact(show False from q2).elim
     |bad=>rw[z3] at q2;exact q2
    ·rw[Og hc3] at q;exact(show False from q).elim
end
end Sm
namespace L2
open PySem PySem.Spec PyProof.Rows
def JD(a b:Expr)(sp:Pos)(args:List Expr)(keywords:List Keyword)(pos:Pos)(env:Env):eval (.Call (.Subscript a b sp) args keywords pos) env=(do
  callWith pos (<- eval (.Subscript a b sp) env) [] (backTo pos (starEach args env)) (backToKw pos (keywordEach keywords env))):=(rfl)
end L2
namespace Sm
open PySem PySem.Spec L2 PyProof.Rows
def g9(F1 F2:Fn)(i:SE)(as:SL):SE:=λen h=>(i en h).bind λv h1=>match v with
 |.int 0=>au F1 as en h1
 |.int 1=>au F2 as en h1
 |_=>.bad
section
variable{T:Tb}{E:L2.St->XK}{X:Cx}{pos p1 p2 lp sp:Pos}{e b:Expr}{es:List Expr}{x1 x2:Str}{F1 F2:Fn}{k1 k2:Nat}{as:SL}{sb:SE}
def JE (hK:X.K=T.K) (C:CA T E X) (G1:GF X.prog X.w T X.mg X.base k1 x1 F1) (G2:GF X.prog X.w T X.mg X.base k2 x2 F2) (hr1:Room k1 X.A) (hr2:Room k2 X.A) (hg1:Gl X x1) (hg2:Gl X x2) (hb:aF T E X b sb) (ha:fT T E X (e::es) as)
  (d1:((x1 == ("__debug__" : Str))=false)⁻¹) (d2:((x2 == ("__debug__" : Str))=false)⁻¹) (hs:autoParam (qr b) aX._auto_1)
  (he:‹qE1 e es X.env›) (hpl:‹qF1 pos es X.env›)
  (s1:‹starEach [.Name x1 p1,.Name x2 p2] X.env=(false,eval (.Name x1 p1) X.env)::starEach [.Name x2 p2] X.env›) (s2:‹starEach [.Name x2 p2] X.env=(false,eval (.Name x2 p2) X.env)::starEach [] X.env›) :
  aF T E X (.Call (.Subscript (.List [.Name x1 p1,.Name x2 p2] lp) b sp) (e::es) [] pos) (g9 F1 F2 sb as):=by
 obtain⟨f1,fd1,ps1,a1,a2,a3,a4⟩:=G1.ex;obtain⟨f2,fd2,ps2,b1,b2,b3,b4⟩:=G2.ex;intro pins s σ H Q I ⟨ι,h,en,S,er,q⟩;rw[JD];have one:∀ {F:Fn} {f:ZE} {fd:FuncData} {ps:List Str} {k:Nat},PySem.W.keepIn T.K (.ref f)=true->Binds T.K fd ps []->FnOk X.prog X.w T.K X.mg X.base (cU X.prog X.w) k f fd ps (iH T F)->Room k X.A ->
   ∀ (s1:ZB) (H1:Hp),Inv X pins σ H1 s1->tE T E (au F as) σ H1 Q->wpAny (model X.prog X.w) X.A (callWith pos (.ref f) [] (backTo pos (starEach (e::es) X.env)) (backToKw pos (keywordEach [] X.env))) (EP X pins σ Q) X.xe s1:=by
  intro F f fd ps k c2 c3 c4 hr s1 H1 I1 q1;obtain⟨ι,h,en,S,er,q1⟩:=q1;refine QZ (h₀:=X.base) I1.ok.mod.kin (hK▸c2) (thn (ha pos pins s1 σ H1 (λvs H2=>iH T F (vs++[]) H2 Q (E σ)) I1 ⟨ι,h,en,S,er,q1.bind λxs h1 ι1 H1 us g1 S1 r1 q1=>?_⟩) λus s2 ⟨vs,H2,I2,r,q⟩=>⟨I2.kIn,?_⟩) he hpl
  ·rw[Qo]
   exact⟨ι1,h1,xs,S1,r1,q1⟩
  ·exact qB (hK▸c4) hr (hK▸c3) .nil C.pass I2 r q
 refine N9 (thn (yl (X:=X) zfJ (ud (jV (qg (v:=.ref f1) hg1 a1 rfl d1) (jV (qg (v:=.ref f2) hg2 b1 rfl d2) oa s2) s1)) hb hs pins s σ H (λv H1=>(v=.ref f1/\tE T E (au F1 as) σ H1 Q)\/(v=.ref f2/\tE T E (au F2 as) σ H1 Q)) I ?_) λu s1 ⟨v,H1,I1,rv,q1⟩=>?_)
 ·refine⟨by show 2<=sizeLine;decide,λp hp=>⟨ι,h,en,S.new hp,er.mono (S.growNew hp),(q.shift (S.growNew hp)).bind λy h1 ι1 H1 u g1 S1 r1 q1=>?_⟩⟩
  have lp1:H1 p=some (.lst [.ref f1,.ref f2]):=g1.keep p _ (λz=>S.fresh hp (OC _ z)) dQ;split at q1
  ·cases r1
   exact⟨p,_,0,.ref f1,rfl,rfl,.inl (.inl lp1),rfl,.inl ⟨rfl,ι1,h1,en,S1,(er.mono (S.growNew hp)).mono g1,q1⟩⟩
  ·cases r1
   exact⟨p,_,1,.ref f2,rfl,rfl,.inl (.inl lp1),rfl,.inr ⟨rfl,ι1,h1,en,S1,(er.mono (S.growNew hp)).mono g1,q1⟩⟩
  ·exact q1.elim
 ·rcases q1 with⟨rfl,q1⟩|⟨rfl,q1⟩
  ·obtain rfl:u=Value.ref f1:=rv
   exact one a2 a3 a4 hr1 s1 H1 I1 q1
  ·obtain rfl:u=Value.ref f2:=rv
   exact one b2 b3 b4 hr2 s1 H1 I1 q1
end
def oV(kvs:List (AV×AV))(k:AV):List (AV×AV):=kvs.filter λp=>decide (¬ p.1=k)
def i8(a b:SE):SE:=λen h=>(a en h).bind λx h1=>match x with
 |.ref n=>(match h1[n]? with
  |some (.dct false _)=>(b en h1).bind λy h2=>(match h2[n]? with
   |some (.dct false kvs)=>if dW false y=true then(match aU kvs y with
    |some v=>.ok v (h2.set n (.dct false (oV kvs y)))
    |none=>.bad) else .bad
   |_=>.bad)
  |_=>.bad)
 |_=>.bad
section
variable{T:Tb}{E:L2.St->XK}{X:Cx}{pos apos:Pos}{a b:Expr}{sa sb:SE}
theorem zT{κ:Type}[DecidableEq κ]{ι:Ix}{H:Hp}{f:κ->AV}(hf:∀ {a b},f a=f b->a=b){k:κ}:∀ {kvs:List (AV×AV)} {kus:List (κ×V)},Paired (λ(p:AV×AV) (q:κ×V)=>p.1=f q.1/\RV T ι H p.2 q.2) kvs kus ->
  Paired (λ(p:AV×AV) (q:κ×V)=>p.1=f q.1/\RV T ι H p.2 q.2) (oV kvs (f k)) (jh kus k)
 |_,_,.nil=>.nil
 |(a,v)::kvs,(j,u)::kus,.cons ⟨e,r⟩ rs=>by
  have ih:=zT hf (k:=k) rs;unfold oV jh at ih ⊢
  rw[PJ,PJ];by_cases h:j=k
  ·have h':a=f k:=by rw[<- h];exact e
   rw[Og (by simp[h']),Og (by simp[h])];exact ih
  ·have h':¬ a=f k:=λz=>h (hf (e.symm.trans z))
   rw[Of (by simp[h']),Of (by simp[h])];exact .cons ⟨e,r⟩ ih
def zU (ha:aF T E X a sa) (hb:aF T E X b sb) (hbase:‹attributeBase a "pop" X.env (eval a X.env)=eval a X.env›)
  (hfew:‹((backTo pos (starEach [b] X.env)).all (λx=>!x.1) && (backToKw pos (keywordEach [] X.env)).all (λx=>x.1.isSome) && decide (([b]:List Expr).length+([]:List Keyword).length+(if ([]:List Keyword).isEmpty then 0 else 1)<30))=true›)
  (hline:‹(apos.endLine == pos.line)=true›) (htrees:‹backTo pos (starEach [b] X.env)=[(false,eval b X.env)]›):aF T E X (.Call (.Attribute a "pop" apos) [b] [] pos) (i8 sa sb):=by
 refine bO (Gy ha hb ⟨hbase,hfew,hline,htrees⟩) λσ H Q q=>?_
 obtain⟨ι,h,en,S,er,q⟩:=q;refine⟨ι,h,en,S,er,q.bind λx h1 ι1 H1 u g1 S1 r1 q1=>?_⟩
 split at q1
 ·rename_i n
  split at q1
  ·rename_i kvs0 hn0
   cases r1 with
   |@ref _ ad hr =>
    refine⟨ad,rfl,isD_of S1 hn0 hr,ι1,h1,en,S1,er.mono g1,q1.bind λy h2 ι2 H2 v g2 S2 r2 q2=>?_⟩
    split at q2
    ·rename_i kvs hn
     by_cases hk:dW false y=true
     ·rw[Of hk] at q2
      have hr2:=g2.at hr;obtain⟨ob,e1,kus,rfl,r⟩:=S2.obj n _ ad hn hr2;have hk':(keyOf? y).isSome=true:=hk;obtain⟨k,ek⟩:=Oz.mp hk';have:=oI ek;subst this;rcases mQ kY r (k:=k) with⟨w1,w2⟩|⟨v',u',w1,w2,w3⟩
      ·rw[w1] at q2;exact q2.elim
      ·rw[w1] at q2
       have g3:=S2.growSet (u:=.dK (jh kus k)) hr2;exact⟨kus,k,u',e1,oH r2,w2,q2 ι2 _ _ g3 (S2.set hr2 ⟨_,rfl,Paired.mapP (zT kY r) λ_ _ ⟨p,q⟩=>⟨p,q.mono g3⟩⟩) (w3.mono g3)⟩
     ·rw[Og hk] at q2;exact q2.elim
    ·exact q2.elim
  ·exact q1.elim
 ·exact q1.elim
end
end Sm
namespace L2
open PySem PySem.Spec PyProof.Rows PySem.SeqAt PySem.AutoSeq1 PySem.MeetsSeq PySem.MeetsSeq2 PySem.MeetsSeq3 PySem.SeqRoads2
section
variable{A:ZG}{s:ZB}{d l:ZE}{es:Array DictEntry}{n:Nat}{dd:Option ZE}{sl:Array (Option ZC)}
def zV {prog:ZD} {w:ZF} {E Q:ZC->ZB->Prop} {b:ZC} {T:String} (ty:s.TypeIs (.ref d) "dict") (tb:s.TypeIs b T) (sub:isSubtype (.type T) (.type "dict")=pure false) (h:Q .notImplemented s):wpAny (model prog w) A (call (.builtin "dict.__eq__") [.ref d,b]) Q E s:=by
 refine Pj R7 ty PySem.F.entry_dict_eq ?_ (PySem.F.args_dict_eq_2 _ _)
 show wpAny _ _ (Builtin.Dict.dictSlotArgs "__eq__" ⟨[.ref d,b],[]⟩ >>= _) _ _ s
 refine N9 ?_
 unfold Builtin.Dict.dictSlotArgs;refine N9 (QK ty ?_)
 show wpAny _ _ (pure (Value.ref d,b)) _ _ s
 refine Oi ?_
 refine N9 (wpAny_isInstance (T:=T) tb sub ?_)
 simp only[Bool.not_false,PM]
 refine N9 (SM (N9 (Oi (Oi ?_))))
 exact⟨_,rfl,h⟩
def JF(b:Str)(u:Tok):Meets (Builtin.«str.__eq__» ⟨[.str b u,.ref d],[]⟩) (λ_ R s=>s.heap.get? d=some { cls:=.type "dict",dict:=dd,data:=.dict es n,slots:=sl }/\R (.ok (.ret .notImplemented)) s) :=(
 .of_wp λprog w A R s h=>by obtain⟨hp,g,dr,tk,os⟩:=s;obtain⟨hl,h⟩:=h;wp_walk using PB hl,Qv hl;exact⟨_,rfl,h⟩)
def JG(b:Int)(u:Tok):Meets (Builtin.«int.__eq__» ⟨[.int b u,.ref d],[]⟩) (λ_ R s=>s.heap.get? d=some { cls:=.type "dict",dict:=dd,data:=.dict es n,slots:=sl }/\R (.ok (.ret .notImplemented)) s) :=(
 .of_wp λprog w A R s h=>by obtain⟨hp,g,dr,tk,os⟩:=s;obtain⟨hl,h⟩:=h;wp_walk using PB hl,Qv hl;exact⟨_,rfl,h⟩)
def JH(b:Bool):Meets (Builtin.«int.__eq__» ⟨[.bool b,.ref d],[]⟩) (λ_ R s=>s.heap.get? d=some { cls:=.type "dict",dict:=dd,data:=.dict es n,slots:=sl }/\R (.ok (.ret .notImplemented)) s) :=(
 .of_wp λprog w A R s h=>by obtain⟨hp,g,dr,tk,os⟩:=s;obtain⟨hl,h⟩:=h;wp_walk using PB hl,Qv hl;exact⟨_,rfl,h⟩)
def JI(items:Array ZC)(n2:Nat)(dd2:Option ZE)(sl2:Array (Option ZC)):Meets (Builtin.«list.__eq__» ⟨[.ref l,.ref d],[]⟩) (λ_ R s=>s.heap.get? l=some { cls:=.type "list",dict:=dd2,data:=.seq items n2,slots:=sl2 }/\s.heap.get? d=some { cls:=.type "dict",dict:=dd,data:=.dict es n,slots:=sl }/\R (.ok (.ret .notImplemented)) s) :=(
 .of_wp λprog w A R s h=>by obtain⟨hp,g,dr,tk,os⟩:=s;obtain⟨hl,hd,h⟩:=h;have f1:=PySem.F.sub_dict_list;wp_walk using PB hl,PB hd;exact⟨_,rfl,h⟩)
def JJ(items:Array ZC)(n2:Nat)(dd2:Option ZE)(sl2:Array (Option ZC)):Meets (Builtin.«tuple.__eq__» ⟨[.ref l,.ref d],[]⟩) (λ_ R s=>s.heap.get? l=some { cls:=.type "tuple",dict:=dd2,data:=.seq items n2,slots:=sl2 }/\s.heap.get? d=some { cls:=.type "dict",dict:=dd,data:=.dict es n,slots:=sl }/\R (.ok (.ret .notImplemented)) s) :=(
 .of_wp λprog w A R s h=>by obtain⟨hp,g,dr,tk,os⟩:=s;obtain⟨hl,hd,h⟩:=h;have f1:isSubtype (.type "dict") (.type "tuple")=pure false:=(by rw[Sl];kernel_rfl);wp_walk using PB hl,PB hd;exact⟨_,rfl,h⟩)
end
section
variable{A:ZG}{s:ZB}{d l:ZE}{es:Array DictEntry}{n:Nat}{dd:Option ZE}{sl:Array (Option ZC)}{b:ZC}{T idT:String}
def mY (hd:s.heap.get? d=some { cls:=.type "dict",dict:=dd,data:=.dict es n,slots:=sl }) (tb:s.TypeIs b T) (ne1:(Value.type T != Value.type "dict")=true) (ne2:(Value.type "dict" != Value.type T)=true)
  (sub1:isSubtype (.type T) (.type "dict")=pure false) (sub2:isSubtype (.type "dict") (.type T)=pure false) (h1:Slot T (cmpInfo .Eq).2.1 idT) (h2:Slot T (cmpInfo .Eq).2.2 idT)
  (hc:∀ (prog:ZD) (w:ZF) (E:ZC->ZB->Prop) (Q':ZC->ZB->Prop),Q' .notImplemented s->wpAny (model prog w) A (call (.builtin idT) [b,.ref d]) Q' E s)
  (Az:∀ (prog:ZD) (w:ZF) (E:ZC->ZB->Prop) (Q':Bool->ZB->Prop),Q' false s->wpAny (model prog w) A (isSame b (.ref d)) Q' E s) (hs2:∀ (prog:ZD) (w:ZF) (E:ZC->ZB->Prop) (Q':Bool->ZB->Prop),Q' false s->wpAny (model prog w) A (isSame (.ref d) b) Q' E s)
  (hu:A.units<cLine):RcAt A s b (.ref d) false/\RcAt A s (.ref d) b false:=by
 have ty:s.TypeIs (.ref d) "dict" := ⟨_,hd,rfl⟩;exact⟨λprog w E Q h=>rc_eq_decline_or (k:=false) tb ty ne1 sub2 h1 PySem.F.slot_dict_eq_refl (hc prog w E) (λ_ hq=>zV ty tb sub1 hq) (Az prog w E) (.inr hu) h,
  λprog w E Q h=>rc_eq_decline_or (k:=false) ty tb ne2 sub1 R7 h2 (λ_ hq=>zV ty tb sub1 hq) (hc prog w E) (hs2 prog w E) (.inr hu) h⟩
def mZ (T:String) (h:isSubtype (.type T) (.type "dict")=pure false:=by rw[Sl];kernel_rfl):isSubtype (.type T) (.type "dict")=pure false:=(h)
def m7 (T:String) (h:autoParam (isSubtype (.type "dict") (.type T)=pure false) mZ._auto_1):isSubtype (.type "dict") (.type T)=pure false:=(h)
def rA {prog:ZD} {w:ZF} {E:ZC->ZB->Prop} {a c:ZE} {c2:Option ZE} {vs:Array ZC} {k:Nat} {c4:Array (Option ZC)} (h1:s.heap.get? a=some { cls:=.type T,dict:=c2,data:=.seq vs k,slots:=c4 }) (hd:s.heap.get? c=some { cls:=.type "dict",dict:=dd,data:=.dict es n,slots:=sl }) (h:a≠c) {Q':Bool->ZB->Prop} (q:Q' false s) :
  wpAny (model prog w) A (isSame (.ref a) (.ref c)) Q' E s/\wpAny (model prog w) A (isSame (.ref c) (.ref a)) Q' E s:=by
 have b1:(a == c)=false:=beq_eq_false_iff_ne.mpr h;have b2:(c == a)=false:=beq_eq_false_iff_ne.mpr (Ne.symm h);constructor
 ·unfold isSame
  dsimp only;rw[Og (by rw[b1];exact Ou)]
  refine N9 (Qv h1 (N9 (Qv hd ?_)))
  dsimp only;split<;>first|exact Oi q|exact absurd (by assumption:Value.type "dict"=Value.type "tuple") 's'
 ·unfold isSame
  dsimp only;rw[Og (by rw[b2];exact Ou)]
  refine N9 (Qv hd (N9 (Qv h1 ?_)))
  dsimp only;exact Oi q
theorem zW (hd:s.heap.get? d=some { cls:=.type "dict",dict:=dd,data:=.dict es n,slots:=sl }) (hu:A.units<cLine):∀ {v:ZC} {e:PyData} {as:List ZE},Reads s.heap v e as->e.canLay0=true->EqAt A s v (.ref d) false/\EqAt A s (.ref d) v false
 |_,_,_,.none,_=>by
  obtain⟨r1,r2⟩:=mY hd (T := "NoneType") (b:=.none) rfl 'd' 'd' (mZ _) (m7 _) Rj PySem.F.slot_NoneType_eq_refl (λprog w E Q' hq=>call_gives Rj rfl PySem.F.entry_NoneType_eq (PySem.F.args_NoneType_eq_2 _ _) (NoneType___eq___none_ref_0 d) hq)
   (λprog w E Q' hq=>Qh (rfl:isSame .none (.ref d)=pure false) hq) (λprog w E Q' hq=>Qh (rfl:isSame (.ref d) .none=pure false) hq) hu
  constructor
  all_goals
   intro prog w E Q h;unfold eqBool;refine OZ ?_
   refine QQ (λhab=>absurd (Rz hab) nofun) (λ_=>?_)
   first|exact N9 (r1 prog w E _ (OA h))|exact N9 (r2 prog w E _ (OA h))
 |_,_,_,.bool k,_=>by
  obtain⟨r1,r2⟩:=mY hd (T := "bool") (b:=.bool k) rfl 'd' 'd' (mZ _) (m7 _) R8 PySem.F.slot_bool_eq_refl (λprog w E Q' hq=>Qx R8 rfl R9 (RW _ _) (JH k) ⟨hd,hq⟩)
   (λprog w E Q' hq=>Qh (rfl:isSame (.bool k) (.ref d)=pure false) hq) (λprog w E Q' hq=>Qh (rfl:isSame (.ref d) (.bool k)=pure false) hq) hu
  constructor
  all_goals
   intro prog w E Q h;unfold eqBool;refine OZ ?_
   refine QQ (λhab=>absurd (Rz hab) nofun) (λ_=>?_)
   first|exact N9 (r1 prog w E _ (OA h))|exact N9 (r2 prog w E _ (OA h))
 |_,_,_,.int i t,_=>by
  obtain⟨r1,r2⟩:=mY hd (T := "int") (b:=.int i t) (Tj s i t) 'd' 'd' (mZ _) (m7 _) Su PySem.F.slot_int_eq_refl (λprog w E Q' hq=>Qx Su (Tj s i t) R9 (RW _ _) (JG i t) ⟨hd,hq⟩)
   (λprog w E Q' hq=>Qh (rfl:isSame (.int i t) (.ref d)=pure false) hq) (λprog w E Q' hq=>Qh (rfl:isSame (.ref d) (.int i t)=pure false) hq) hu
  constructor
  all_goals
   intro prog w E Q h;unfold eqBool;refine OZ ?_
   refine QQ (λhab=>absurd (Rz hab) nofun) (λ_=>?_)
   first|exact N9 (r1 prog w E _ (OA h))|exact N9 (r2 prog w E _ (OA h))
 |_,_,_,.str x t,_=>by
  obtain⟨r1,r2⟩:=mY hd (T := "str") (b:=.str x t) (Q4 s x t) 'd' 'd' (mZ _) (m7 _) Sv PySem.F.slot_str_eq_refl (λprog w E Q' hq=>Qx Sv (Q4 s x t) PySem.F.entry_str_eq (PySem.F.args_str_eq_2 _ _) (JF x t) ⟨hd,hq⟩)
   (λprog w E Q' hq=>Qh (rfl:isSame (.str x t) (.ref d)=pure false) hq) (λprog w E Q' hq=>Qh (rfl:isSame (.ref d) (.str x t)=pure false) hq) hu
  constructor
  all_goals
   intro prog w E Q h;unfold eqBool;refine OZ ?_
   refine QQ (λhab=>absurd (Rz hab) nofun) (λ_=>?_)
   first|exact N9 (r1 prog w E _ (OA h))|exact N9 (r2 prog w E _ (OA h))
 |_,_,_,.list (a:=a) (o:=o) h1 h2 h3 h4,_=>by
  obtain⟨c1,c2,c3,c4⟩:=o;simp only at h2 h3
  subst h2 h3
  have ne:a≠d:=λz=>by rw[z,hd] at h1;exact absurd (congrArg Obj.cls (OG h1)) 's'
  obtain⟨r1,r2⟩:=mY hd (T := "list") (b:=.ref a) ⟨_,h1,rfl⟩ 'd' 'd' (mZ _) (m7 _) Sa PySem.F.slot_list_eq_refl (λprog w E Q' hq=>Qx Sa ⟨_,h1,rfl⟩ PySem.F.entry_list_eq (PySem.F.args_list_eq_2 _ _) (JI _ _ _ _) ⟨h1,hd,hq⟩)
   (λprog w E Q' hq=>(rA h1 hd ne hq).1) (λprog w E Q' hq=>(rA h1 hd ne hq).2) hu
  exact⟨.of_refs ne r1,.of_refs (Ne.symm ne) r2⟩
 |_,_,_,.tuple (a:=a) (o:=o) h1 h2 h3 h4,_=>by
  obtain⟨c1,c2,c3,c4⟩:=o;simp only at h2 h3
  subst h2 h3
  have ne:a≠d:=λz=>by rw[z,hd] at h1;exact absurd (congrArg Obj.cls (OG h1)) 's'
  obtain⟨r1,r2⟩:=mY hd (T := "tuple") (b:=.ref a) ⟨_,h1,rfl⟩ 'd' 'd' (mZ _) (m7 _) RX PySem.F.slot_tuple_eq_refl (λprog w E Q' hq=>Qx RX ⟨_,h1,rfl⟩ PySem.F.entry_tuple_eq (PySem.F.args_tuple_eq_2 _ _) (JJ _ _ _ _) ⟨h1,hd,hq⟩)
   (λprog w E Q' hq=>(rA h1 hd ne hq).1) (λprog w E Q' hq=>(rA h1 hd ne hq).2) hu
  exact⟨.of_refs ne r1,.of_refs (Ne.symm ne) r2⟩
 |_,_,_,.dict _ _ _ _ _,c=>by cases c
end
end L2
namespace L2
open PySem PySem.Spec PyProof.Rows
abbrev Od:=PyData ⊕ ZE
def jD:Od->Od->Bool
 |.inl e,.inl d=>PyData.eqv e d
 |.inr a,.inr b=>decide (a=b)
 |_,_=>false
inductive j4 (K:ZA) (H:Hp):V->Od->Prop
 |dat {x:V} {d:PyData} (h:DaV K H x d) (c:d.canLay0=true) (m:d.depth<=30):j4 K H x (.inl d)
 |dic {a:ZE} {kvs:List (aJ×V)} (h:H a=some (.dK kvs)):j4 K H (.ref a) (.inr a)
inductive hE (K:ZA) (H:Hp):List V->List Od->Prop
 |nil:hE K H [] []
 |cons {x:V} {xs:List V} {d:Od} {ds:List Od} (h:j4 K H x d) (t:hE K H xs ds):hE K H (x::xs) (d::ds)
open Classical in
def i9(h:Heap)(t:Od)(v:ZC):Bool:=if q:∃ e as,e.canLay0=true/\Reads h v e as then jD (.inl q.choose) t else match t with
 |.inl _=>false
 |.inr a=>decide (v=.ref a)
def JK{h:Heap}{t:Od}{e:PyData}{v:ZC}{as:List ZE}(c:e.canLay0=true)(r:Reads h v e as):i9 h t v=jD (.inl e) t:=by
 have q:∃ e as,e.canLay0=true/\Reads h v e as:=⟨e,as,c,r⟩
 unfold i9;rw[dif_pos q];obtain⟨as',c',r'⟩:=q.choose_spec
 have z:q.choose=e:=by first|exact(Reads.unique _ _ r' r).1|exact(Reads.unique r' r).1|exact Reads.unique _ _ _ _ _ c' r' r|exact Ri _ _ _ _ _ c' r' r|exact SC _ _ _ _ _ c' r' r
 rw[z]
def JL{h:Heap}{t:Od}{a:ZE}{o:Obj}{es:Array DictEntry}{n:Nat}(e:h.get? a=some o)(hd:o.data=.dict es n):i9 h t (.ref a)=jD (.inr a) t:=by
 unfold i9;rw[dif_neg]
 ·cases t with
  |inl d=>rfl
  |inr b =>
   show decide (Value.ref a=Value.ref b)=decide (a=b)
   exact decide_eq_decide.mpr ⟨λh=>by injection h,λh=>by rw[h]⟩
 ·rintro⟨d,as,c,r⟩
  cases r with
  |list h1 h2 h3=>rw[e] at h1;cases h1;rw[hd] at h3;cases h3
  |tuple h1 h2 h3=>rw[e] at h1;cases h1;rw[hd] at h3;cases h3
  |dict=>cases c
section
variable{X:Cx}{pins:List (ZE×Obj)}{σ:St}{H:Hp}{s:ZB}
def zX(I:Inv X pins σ H s){a:ZE}{kvs:List (aJ×V)}(e:H a=some (.dK kvs)):∃ dd sl es n,s.heap.get? a=some { cls:=.type "dict",dict:=dd,data:=.dict es n,slots:=sl }:=by
 obtain⟨_,_,vs,_,o,es,ep,h1,h2,h3,_⟩:=dk_of I.hok e;obtain⟨c1,c2,c3,c4⟩:=o;obtain⟨z1,_⟩:=h2;simp only at z1 h3
 subst z1 h3
 exact⟨c2,c4,es,ep,h1⟩
def JM(I:Inv X pins σ H s)(hu:X.A.units+64<cLine){x y:V}{u v:ZC}{e t:Od}(hx:j4 X.K H x e)(hy:j4 X.K H y t)(rx:RelV x u)(ry:RelV y v)(one:∀ a b,e=.inr a->t=.inr b->a=b):i9 s.heap t u=jD e t/\SeqAt.EqAt X.A.in1 s u v (i9 s.heap t u):=by
 have hu1:X.A.in1.units<cLine:=by show X.A.units+1<cLine;lia
 cases hx with
 |dat h c m =>
  obtain⟨as,ra⟩:=h.reads I rx;rw[JK c ra];refine⟨rfl,?_⟩
  cases hy with
  |dat h2 c2 m2 =>
   obtain⟨bs,rb⟩:=h2.reads I ry;exact SeqAt.eqAt_reads _ _ _ _ _ _ _ _ ra rb c c2 (by
    rename_i d1 d2;have:=Qq d1.depth d2.depth;show X.A.units+1+_<cLine
    lia)
  |dic h2 =>
   cases ry
   obtain⟨dd,sl,es,n,hd⟩:=zX I h2;exact(zW hd hu1 ra c).1
 |dic h =>
  cases rx
  obtain⟨dd,sl,es,n,hd⟩:=zX I h;rw[JL hd rfl];refine⟨rfl,?_⟩
  cases hy with
  |dat h2 c2 m2 =>
   obtain⟨bs,rb⟩:=h2.reads I ry;exact(zW hd hu1 rb c2).2
  |dic h2 =>
   cases ry
   have z:=one _ _ rfl rfl;subst z;rw[show jD (.inr _) (.inr _)=true from OM rfl];exact SeqAt.EqAt.same _
theorem zY(I:Inv X pins σ H s)(hu:X.A.units+64<cLine){y:V}{v:ZC}{t:Od}(hy:j4 X.K H y t)(ry:RelV y v):∀ {xs:List V} {ts:List Od} {us:List ZC},hE X.K H xs ts->Vals xs us->(∀ e∈ts,∀ a b,e=.inr a->t=.inr b->a=b) ->
  us.any (i9 s.heap t)=ts.any (λe=>jD e t)/\∀ u∈us,SeqAt.EqAt X.A.in1 s u v (i9 s.heap t u)
 |_,_,_,.nil,r,_=>by cases r;exact⟨rfl,nofun⟩
 |_,_,_,.cons h hs,r,one=>by
  cases r with
  |cons r1 r2 =>
   obtain⟨e1,e2⟩:=JM I hu h hy r1 ry (one _ (O0 ..));obtain⟨i1,i2⟩:=zY I hu hy ry hs r2 λe he=>one e (OK _ he)
   refine⟨by rw[Pu,Pu,e1,i1],λu hu=>?_⟩
   rcases Ov.mp hu with rfl|hu
   ·exact e2
   ·exact i2 u hu
def JN(hu:X.A.units+64<cLine):OpR X (compareOp .In) (λx y H Q=>∃ p xs ts t,y=.ref p/\SqL X.K H p xs/\j4 X.K H x t/\hE X.K H xs ts/\(∀ e∈ts,∀ a b,e=.inr a->t=.inr b->a=b)/\Q (.bl (ts.any λe=>jD e t)) H):=by
 intro pins s σ H x y v u Q I rx ry h;obtain⟨p,xs,ts,t,rfl,hq,hd,hds,one,q⟩:=h
 cases ry
 obtain⟨its,r,pl,hz⟩:=I.list hq;obtain⟨i1,i2⟩:=zY I hu hd rx hds r one;refine SeqAt.in_listAt (i9 s.heap t) pl.isList (λy hy=>i2 y (by simpa using hy)) ⟨.bl _,H,I,rfl,?_⟩
 rw[<- Rp];show Q (.bl (its.any (i9 s.heap t))) H
 rw[i1];exact q
end
end L2
namespace Sm
open PySem PySem.Spec L2 PyProof.Rows
abbrev gE:=PyData ⊕ Nat
def gG(h:AH)(v:AV):Option gE:=match bj 8 h v with
 |some d=>some (.inl d)
 |none=>match v with
  |.ref n=>(match h[n]? with
   |some (.dct false _)=>some (.inr n)
   |_=>none)
  |_=>none
def gu(h:AH):List AV->Option (List gE)
 |[]=>some []
 |v::r=>match gG h v,gu h r with
  |some d,some ds=>some (d::ds)
  |_,_=>none
def cn:gE->gE->Bool
 |.inl e,.inl d=>PyData.eqv e d
 |.inr a,.inr b=>decide (a=b)
 |_,_=>false
def jE(t:gE):gE->Bool
 |.inr a=>(match t with
  |.inr b=>decide (a=b)
  |_=>true)
 |_=>true
def dY:F2:=λx y h=>match y with
 |.fl xs=>(match gG h x,gu h xs with
  |some t,some ts=>if ts.all (jE t)=true then .ok (.bl (ts.any λe=>cn e t)) h else .bad
  |_,_=>.bad)
 |_=>.bad
section
variable{T:Tb}{ι:Ix}{h:AH}{H:Hp}
inductive Oo (ι:Ix):gE->Od->Prop
 |dat (d:PyData):Oo ι (.inl d) (.inl d)
 |dic {n:Nat} {a:ZE} (e:ι.refs[n]?=some a):Oo ι (.inr n) (.inr a)
def zZ(S:Sim T ι h H){x:AV}{u:V}{t:gE}(r:RV T ι H x u)(e:gG h x=some t):∃ t',Oo ι t t'/\j4 T.K H u t':=by
 unfold gG at e;split at e
 ·rename_i d hd
  cases e
  obtain⟨q1,q2,q3⟩:=i6 S 8 r hd;exact⟨_,.dat d,.dat q1 q2 ⋯⟩
 ·split at e
  ·rename_i n hz
   split at e
   ·rename_i kvs hn
    cases e
    cases r with
    |@ref _ ad hr =>
     obtain⟨ob,e1,kus,rfl,_⟩:=S.obj n _ ad hn hr;exact⟨_,.dic hr,.dic e1⟩
   ·cases e
  ·cases e
theorem z8(S:Sim T ι h H):∀ {xs:List AV} {us:List V} {ts:List gE},RVs T ι H xs us->gu h xs=some ts->∃ ts',Paired (Oo ι) ts ts'/\hE T.K H us ts'
 |_,_,_,.nil,e=>by cases e;exact⟨[],.nil,.nil⟩
 |x::xs,_,ts,.cons r rs,e=>by
  unfold gu at e;split at e
  ·rename_i d ds e1 e2
   cases e
   obtain⟨t',o1,o2⟩:=zZ S r e1;obtain⟨ts',o3,o4⟩:=z8 S rs e2;exact⟨t'::ts',.cons o1 o3,.cons o2 o4⟩
  ·cases e
def JO(S:Sim T ι h H){e t:gE}{e' t':Od}(o1:Oo ι e e')(o2:Oo ι t t')(one:jE t e=true):cn e t=jD e' t'/\∀ a b,e'=.inr a->t'=.inr b->a=b:=by
 cases o1 with
 |dat d=>cases o2<;>exact⟨rfl,λa b h=>nomatch h⟩
 |dic q1 =>
  cases o2 with
  |dat d=>exact⟨rfl,λa b _ h=>nomatch h⟩
  |dic q2 =>
   have z:=QF one;subst z;rw[q1] at q2
   cases q2
   refine⟨?_,λa b h1 h2=>?_⟩
   ·show decide (_=_)=decide (_=_)
    rw[OM rfl,OM rfl]
   ·cases h1;cases h2;rfl
theorem z9(S:Sim T ι h H){t:gE}{t':Od}(o2:Oo ι t t'):∀ {ts:List gE} {ts':List Od},Paired (Oo ι) ts ts'->ts.all (jE t)=true->(ts.any λe=>cn e t)=(ts'.any λe=>jD e t')/\∀ e∈ts',∀ a b,e=.inr a->t'=.inr b->a=b
 |_,_,.nil,_=>⟨rfl,nofun⟩
 |_,_,.cons o os,c=>by
  rw[List.all_cons,OT] at c;obtain⟨z1,z2⟩:=JO S o o2 c.1
  obtain⟨i1,i2⟩:=z9 S o2 os c.2;refine⟨by rw[Pu,Pu,z1,i1],λe he=>?_⟩
  rcases Ov.mp he with rfl|he
  ·exact z2
  ·exact i2 e he
def vz{X:Cx}(hK:X.K=T.K)(hu:X.A.units+64<cLine):Op T X (compareOp .In) dY:=by
 refine⟨_,JN hu,λι h H x y u w E Q S rx ry p=>?_⟩
 unfold dY at p;split at p
 ·rename_i xs
  split at p
  ·rename_i t ts e1 e2
   by_cases c:ts.all (jE t)=true
   ·rw[Of c] at p
    obtain⟨a,us,rfl,sq,rs⟩:=gC S ry rfl;obtain⟨t',o1,o2⟩:=zZ S rx e1;obtain⟨ts',o3,o4⟩:=z8 S rs e2;obtain⟨z1,z2⟩:=z9 S o1 o3 c;rw[z1] at p;exact⟨a,us,ts',t',rfl,hK▸sq,hK▸o2,hK▸o4,z2,p.now S (.bl _)⟩
   ·rw[Og c] at p;exact p.elim
  ·exact p.elim
 ·exact p.elim
end
end Sm
namespace L2
open PySem PySem.Spec PyProof.Rows
open PySem.Builtin PySem.Builtin.Str
section
variable{X:Cx}
def JP{a b c d:Expr}{ta tb tc td:TE}{pos:Pos}{op op' op'':CmpOp}{r r' r'':R2}(ho:OpR X (compareOp op) r)(ho':OpR X (compareOp op') r')(ho'':OpR X (compareOp op'') r'')(ha:PE X a ta)(hb:PE X b tb)(hc:PE X c tc)(hd:PE X d td)
  (hm:autoParam (lastMarks [op,op',op''] [b,c,d]=false) ET._auto_1):PE X (.Compare a [op,op',op''] [b,c,d] pos) (yR r r' r'' ta tb tc td):=by
 intro pins s σ H Q I h;refine Compare_chain (thn (ha pins s σ H _ I h) λv s1 ⟨x,H1,I1,r1,q1⟩=>Th (thn (hb pins s1 σ H1 _ I1 q1) λu s2 ⟨y,H2,I2,r2,q2⟩ =>
  thn (ho pins s2 σ H2 x y v u _ I2 r1 r2 q2) λd s3 ⟨z,H3,I3,r3,k,e,q3⟩=>?_)) hm
 subst e
 cases r3
 refine OA ?_
 cases k with
 |false=>exact ite_ff ⟨.bl false,H3,I3,rfl,q3⟩
 |true =>
  refine ite_tt (Th (thn (hc pins s3 σ H3 _ I3 q3) λw' s4 ⟨z',H4,I4,r4,q4⟩=>thn (ho' pins s4 σ H4 y z' u w' _ I4 r2 r4 q4) λd' s5 Zz=>?_));obtain⟨z2,H5,I5,r5,k2,e2,q5⟩:=Zz
  subst e2
  cases r5
  refine OA ?_
  cases k2 with
  |false=>exact ite_ff ⟨.bl false,H5,I5,rfl,q5⟩
  |true=>exact ite_tt (chain_last (thn (hd pins s5 σ H5 _ I5 q5) λw2 s6 ⟨z3,H6,I6,r6,q6⟩=>ho'' pins s6 σ H6 z' z3 w' w2 Q I6 r4 r6 q6))
def JQ(i j k:Nat)(ta:TA):TS:=λD σ H=>ta σ H λvs H1=>∃ v w z,vs=[v,w,z]/\D.nx (((σ.set i (some v)).set j (some w)).set k (some z)) H1
def JR{i j k:Nat}{x y z:Str}{a b c:Expr}{ta:TA}{pos px py pz pt:Pos}{kt k2:Nat}{pt2:Pos}(hc:X.calm=true)(hN:X.N.Nodup)(hi:X.N[i]?=some x)(hj:X.N[j]?=some y)(hk:X.N[k]?=some z)(hij:i≠j)(hik:i≠k)(hjk:j≠k)
  (hx:X.env.scope.names.lookup x=some .local)(hy:X.env.scope.names.lookup y=some .local)(hz:X.env.scope.names.lookup z=some .local)(ha:PA X [a,b,c] ta)
  (hw:swappedStores [.Tuple [.Name x px,.Name y py,.Name z pz] kt pt] (.Tuple [a,b,c] k2 pt2) X.env=pure (some [x,y,z]))
  (hs:‹swapsWithSole [.Tuple [.Name x px,.Name y py,.Name z pz] kt pt] (.Tuple [a,b,c] k2 pt2) pos.line X.env=pure false›) :
  PS X (.Assign [.Tuple [.Name x px,.Name y py,.Name z pz] kt pt] (.Tuple [a,b,c] k2 pt2) pos) (JQ i j k ta):=by
 intro pins s σ H D I h;rw[exec_Assign_arm];refine N9 (Rk ?_)
 rw[hs];refine N9 (Oi ?_)
 rw[Og 'd'];refine N9 (Tuple_ (thn (ha _ pins s σ H _ I h) λus s1 Zz=>?_));obtain⟨vs,H1,I1,r1,q1⟩:=Zz
 obtain⟨v,w,v3,e1,q1⟩:=q1;subst e1;obtain⟨u1,u2,u3,rfl,rv,rw',r3⟩:∃ u1 u2 u3,us=[u1,u2,u3]/\RelV v u1/\RelV w u2/\RelV v3 u3:=by
  cases r1 with
  |cons p q =>
   cases q with
   |cons p' q' =>
    cases q' with
    |cons p2 q2 =>
     cases q2
     exact⟨_,_,_,rfl,p,p',p2⟩
 refine Pw ?_ (by show 3<=sizeLine;decide)
 have I2:Inv X pins σ H1 { s1 with heap:=s1.heap.push { cls:=.type "tuple",data:=.seq [u1,u2,u3].toArray } }:=I1.kept (t':=s1.toks) λb o e=>Oe _ e
 rw[hw];refine N9 (Oi ?_)
 show wpAny (model X.prog X.w) X.A (do rule "assign.swapped-stores";let items <- unpackItems (.ref s1.heap.objs.size) 3 none;assignInOrder [λv=>bindName X.env z v,λv=>bindName X.env y v,λv=>bindName X.env x v] items.reverse;pure Flow.next) _ _ _
 refine N9 (SM (N9 (unpackItems_tuple (items:=#[u1,u2,u3]) (I.ok.hd hc) (IsTup.new s1.heap _) λh' hx'=>?_)))
 have I3:=I2.kept (h':=h') (t':=s1.toks) λb o e=>hx' b o (OJ (Om e)) e
 show wpAny _ _ (assignInOrder [λv=>bindName X.env z v,λv=>bindName X.env y v,λv=>bindName X.env x v] [u3,u2,u1] >>= λ_=>pure Flow.next) _ _ _
 refine N9 (Qu (Sn (mD I3 hN hk (.inl hz) r3 (λs2 I4=>?_) (.inr hz))))
 refine Qu (Sn (mD I4 hN hj (.inl hy) rw' (λs2 I5=>?_) (.inr hy)))
 refine Qu (Sn (mD I5 hN hi (.inl hx) rv (λs3 I6=>S8 (Oi ?_)) (.inr hx)))
 have e:((σ.set k (some v3)).set j (some w)).set i (some v)=((σ.set i (some v)).set j (some w)).set k (some v3):=by
  rw[Sz _ _ (Ne.symm hjk),Sz _ _ (Ne.symm hik),Sz _ _ (Ne.symm hij)]
 rw[e] at I6;exact⟨_,H1,I6,q1⟩
end
end L2
namespace Sm
open PySem PySem.Spec L2
section
variable{T:Tb}{E:L2.St->XK}{X:Cx}{pos:Pos}{a b c d:Expr}{sa sb sc sd:SE}
def JS{op op' op'':CmpOp}{f f' f'':F2}(ho:Op T X (compareOp op) f)(ho':Op T X (compareOp op') f')(ho'':Op T X (compareOp op'') f'')(ha:aF T E X a sa)(hb:aF T E X b sb)(hc:aF T E X c sc)(hd:aF T E X d sd)(hm:autoParam (lastMarks [op,op',op''] [b,c,d]=false) L2.ET._auto_1) :
  aF T E X (.Compare a [op,op',op''] [b,c,d] pos) (k9 f f' f'' sa sb sc sd):=by
 obtain⟨r,h1,hs⟩:=ho;obtain⟨r',h1',hs'⟩:=ho';obtain⟨r'',h1'',hs''⟩:=ho'';refine bO (JP h1 h1' h1'' ha hb hc hd hm) λσ H Q q=>?_
 obtain⟨ι,h,en,S,er,q⟩:=q;unfold k9 at q;refine⟨ι,h,en,S,er,q.bind λx h1 ι1 H1 u g1 S1 r1 q1=>?_⟩
 refine⟨ι1,h1,en,S1,er.mono g1,q1.bind λy h2 ι2 H2 w g2 S2 r2 q2=>?_⟩
 refine hs ι2 h2 H2 x y u w (E σ) _ S2 (r1.mono g2) r2 (q2.bind λz h3 ι3 H3 k g3 S3 r3 q3=>?_)
 split at q3
 ·rename_i kk
  rw[fU r3];refine⟨kk,rfl,?_⟩
  by_cases hkk:kk=true
  ·rw[Of hkk] at q3 ⊢
   refine⟨ι3,h3,en,S3,er.mono (g1.trans (g2.trans g3)),q3.bind λv h4 ι4 H4 j g4 S4 r4 q4=>?_⟩
   refine hs' ι4 h4 H4 y v w j (E σ) _ S4 (r2.mono (g3.trans g4)) r4 (q4.bind λz2 h5 ι5 H5 k5 g5 S5 r5 q5=>?_)
   split at q5
   ·rename_i k2
    rw[fU r5];refine⟨k2,rfl,?_⟩
    by_cases hk2:k2=true
    ·rw[Of hk2] at q5 ⊢
     refine⟨ι5,h5,en,S5,er.mono (g1.trans (g2.trans (g3.trans (g4.trans g5)))),q5.bind λv6 h6 ι6 H6 j6 g6 S6 r6 q6=>?_⟩
     exact hs'' ι6 h6 H6 v v6 j j6 (E σ) _ S6 (r4.mono (g5.trans g6)) r6 q6
    ·rw[Og hk2] at q5 ⊢
     exact q5.now S5 (.bl _)
   ·exact q5.elim
  ·rw[Og hkk] at q3 ⊢
   exact q3.now S3 (.bl _)
 ·exact q3.elim
def rB(i j k:Nat)(as:SL):SS:=λen h=>(as en h).go en λvs h1=>match vs with
 |[v,w,z]=>.nx (((en.set i (some v)).set j (some w)).set k (some z)) h1
 |_=>.bad
def JT{i j k:Nat}{x y z:Str}{as:SL}{px py pz pt pt2:Pos}{kt k2:Nat}(hN:X.N.Nodup)(ha:fT T E X [a,b,c] as)(hc:‹X.calm=true›)(hij:(i≠j)⁻¹)(hik:(i≠k)⁻¹)(hjk:(j≠k)⁻¹)(hi:‹X.N[i]?=some x›)(hj:‹X.N[j]?=some y›)(hk:‹X.N[k]?=some z›)(hx:‹X.env.scope.names.lookup x=some .local›)(hy:‹X.env.scope.names.lookup y=some .local›)(hz:‹X.env.scope.names.lookup z=some .local›)
  (hw:‹swappedStores [.Tuple [.Name x px,.Name y py,.Name z pz] kt pt] (.Tuple [a,b,c] k2 pt2) X.env=pure (some [x,y,z])›)(hs:‹swapsWithSole [.Tuple [.Name x px,.Name y py,.Name z pz] kt pt] (.Tuple [a,b,c] k2 pt2) pos.line X.env=pure false›) :
  fZ T E X (.Assign [.Tuple [.Name x px,.Name y py,.Name z pz] kt pt] (.Tuple [a,b,c] k2 pt2) pos) (rB i j k as):=by
 refine gR (JR hc hN hi hj hk hij hik hjk hx hy hz ha hw hs) λD σ H=>E6x λι h en S er q=>⟨ι,h,en,S,er,q.go er λvs h1 ι1 H1 us g1 S1 r1 q1=>?_⟩
 split at q1
 ·cases r1 with
  |cons r r' =>
   cases r' with
   |cons r2 r3 =>
    cases r3 with
    |cons r4 r5 =>
     cases r5
     exact⟨_,_,_,rfl,q1 ι1 H1 _ S1.refl S1 ((((er.mono g1).set r i).set r2 j).set r4 k)⟩
 ·exact q1.elim
end
end Sm
namespace L2
open PySem PySem.Spec PyProof.Rows
section
variable{X:Cx}{pins:List (ZE×Obj)}{σ:St}{H:Hp}{s:ZB}{a:ZE}
def Inv.swap{u u':HO}(I:Inv X pins σ H s)(e:H a=some u)(n1:∀ xs,u ≠ .tup xs)(n2:∀ ps,u ≠ .tbl ps)(n3:∀ y,u ≠ .own y)(nf:∀ o v,X.H₀ a≠some (.frz o v))
  (new:ObjOk X.prog X.w (upd H a u') s.heap a u'):Inv X pins σ (upd H a u') s:=by
 have up:∀ {b:ZE} {o:HO},H b=some o->(b=a->o≠u)->upd H a u' b=some o:=λ{b o} q n=>by
  rw[bg λz=>n z (by subst z;rw[e] at q;exact(OG q).symm)];exact q
 have no:∀ {b:ZE},H b=none->upd H a u' b=none:=λ{b} q=>by rw[bg λz=>by subst z;rw[e] at q;cases q];exact q
 refine⟨I.ok,I.os,I.bare,⟨I.base.keep,I.base.slot,λb o q n hx=>no (I.base.free b o q n hx),I.base.there,λb xs q=>up (I.base.tups b xs q) λ_=>Ne.symm (n1 xs),λb o v q=>?_,λb ps q=>?_⟩,
  I.loc,I.cell,no I.free,λx c q=>no (I.freeC x c q),λp hp=>?_,λb o q=>?_,I.len⟩
 ·rw[bg λz=>by subst z;exact nf o v q];exact I.base.frzs b o v q
 ·obtain⟨m,q'⟩:=I.base.tbls b ps q
  exact⟨m,up q' λ_=>Ne.symm (n2 _)⟩
 ·obtain⟨h1,h2,h3⟩:=I.pin p hp
  exact⟨h1,no h2,h3⟩
 ·by_cases z:b=a
  ·subst z;rw[dQ] at q;cases q;exact new
  ·rw[bg z] at q
   exact(I.hok b o q).stay (λc v _ r=>r) (λc r=>up r λ_=>Ne.symm (n3 _)) λc xs r=>up r λ_=>Ne.symm (n1 _)
def Inv.nofrz{u:HO}(I:Inv X pins σ H s)(e:H a=some u)(n:∀ o v,u ≠ .frz o v):∀ o v,X.H₀ a≠some (.frz o v):=(λo v q=>by
 have:=I.base.frzs a o v q;rw[e] at this;exact n o v (OG this))
def Inv.freeze{kus:List (aJ×V)}(I:Inv X pins σ H s)(e:H a=some (.dK kus)):∃ ob,Inv X pins σ (upd H a (.frz ob (.dK kus))) s:=by
 obtain⟨z,hd,vs,rel,dd⟩:=dk_of I.hok e;obtain⟨o,es,ep,h1,h2⟩:=id dd;exact⟨o,I.swap e (λ_ z=>HO.noConfusion z) (λ_ z=>HO.noConfusion z) (λ_ z=>HO.noConfusion z) (I.nofrz e λ_ _ z=>HO.noConfusion z) (show s.heap.get? a=some o/\ObjOk X.prog X.w (upd H a (.frz o (.dK kus))) s.heap a (.dK kus) from⟨h1,qx z hd rel dd⟩)⟩
def Inv.thaw{kus:List (aJ×V)}{ob:Obj}(I:Inv X pins σ H s)(n:∀ o v,X.H₀ a≠some (.frz o v))(e:H a=some (.frz ob (.dK kus))):Inv X pins σ (upd H a (.dK kus)) s :=(
 I.swap e (λ_ z=>HO.noConfusion z) (λ_ z=>HO.noConfusion z) (λ_ z=>HO.noConfusion z) n (show ObjOk X.prog X.w (upd H a (.dK kus)) s.heap a (.dK kus) from(show ObjOk X.prog X.w H s.heap a (.frz ob (.dK kus)) from I.hok a _ e).2))
end
def vA{P:ZD}{w:ZF}{H:Hp}{h:Heap}{a:ZE}{ob:Obj}{kus:List (aJ×V)}(ok:HOk P w H h)(e:H a=some (.frz ob (.dK kus))) :
  (a == sysModules)=false/\∃ (es:Array DictEntry) (ep:Nat) (vs:List (aJ×ZC)),ob.data=.dict es ep/\KV kus vs/\h.DictAt (eB P w) a vs ep:=by
 have g:h.get? a=some ob:=(show ObjOk P w H h a (.frz ob (.dK kus)) from ok a _ e).1;obtain⟨z,hd,vs,rel,o,es,ep,h1,h2,h3,h4⟩:=iY (P:=P) (w:=w) ok (.inr ⟨ob,e⟩);rw[g] at h1;cases h1
 exact⟨hd,es,ep,vs,h3,rel,ob,es,g,h2,h3,h4⟩
def lE(a:ZE)(ob:Obj)(ks:List aJ):It :=
 ⟨λi H=>∃ kus,H a=some (.frz ob (.dK kus))/\kus.map (·.1)=ks/\i<ks.length,
  λi H x H'=>H'=H/\∃ k,ks[i]?=some k/\x=kV k,
  λi H=>∃ kus,H a=some (.frz ob (.dK kus))/\kus.map (·.1)=ks/\ks.length<=i⟩
def JU{P:ZD}{w:ZF}{K:ZA}{tg:Expr}(a it:ZE)(ob:Obj)(ks:List aJ)(n ep:Nat)(hn:n=ks.length)(hob:∃ es,ob.data=.dict es ep):fz P w K tg (lE a ob ks) [it] it (λi h=>h.IsKeyIter it a i n ep) where
 mem:=by simp
 obj:=λi h st b hb=>by
  have e:b=it:=by simpa using hb
  subst e;obtain⟨o,e,c,d⟩:=st
  exact⟨o,e,λv z=>by rw[d] at z;cases z⟩
 keep:=λi h h' st k=>st.imp λo e=>⟨k it 's' o e.1,e.2⟩
 item:=by
  intro X hP hw hK hc i pins s σ H E I hf st hg;subst hP hw hK
  obtain⟨kus,ha,hk,hi⟩:=hg;obtain⟨_,es',ep',vs,d1,rel,dd⟩:=vA I.hok ha;obtain⟨es,d2⟩:=hob;rw[d2] at d1;cases d1
  have l1:vs.length=n:=by rw[hn,<- hk,Oh,rel.length]
  have hv:i<vs.length:=by rw[l1,hn];exact hi
  have hki:ks[i]?=some vs[i].1:=by
   rw[<- hk,rel.keys,OI];simp[hv]
  obtain⟨f0,f1,f2,f3,f4,f5⟩:=hf it 's';refine wpAny_pyNext_dict_item (knd:=eB X.prog X.w) (kvs:=vs) (k:=vs[i].1) (v:=vs[i].2) (l1▸st) dd (by simp[hv]) λkey h' hkey st' sb=>?_
  have I1:Inv X pins σ H { s with heap:=h' }:=I.turned (t':=s.toks) (λb o hb e=>(sb.2 b hb).trans e) f0 f1 f3 f4 f5;have st2:h'.IsKeyIter it a (i+1) n ep:=l1▸st';obtain⟨o,e,c,d⟩:=id st2;refine⟨_,rfl,nY (s:={ s with heap:=h' }) e c d 'd' ⟨kV vs[i].1,H,I1,?_,⟨rfl,_,hki,rfl⟩,st2,λb hb=>(hf b hb).1⟩⟩
  rcases iA (show jS vs[i].1 key=true from hkey) with⟨j,t,e1,e2⟩|⟨x,t,e1,e2⟩
  ·rw[e1,e2];exact⟨t,rfl⟩
  ·rw[e1,e2];exact⟨t,rfl⟩
 done:=by
  intro X hP hw hK hc i pins s σ H E I hf st hg;subst hP hw hK
  obtain⟨kus,ha,hk,hi⟩:=hg;obtain⟨_,es',ep',vs,d1,rel,dd⟩:=vA I.hok ha;obtain⟨es,d2⟩:=hob;rw[d2] at d1;cases d1
  have l1:vs.length=n:=by rw[hn,<- hk,Oh,rel.length]
  obtain⟨f0,f1,f2,f3,f4,f5⟩:=hf it 's';exact wpAny_pyNext_dict_end (knd:=eB X.prog X.w) (kvs:=vs) (I.ok.hd hc) (l1▸st) dd (Pp (by rw[l1,hn];exact hi)) λh' eb=>⟨rfl,I.turned (t':=s.toks) (λb o hb e=>eb b o hb e) f0 f1 f3 f4 f5⟩
 self:=λ_ _ _ _ _ st h=>by
  obtain⟨o,e,c,d⟩:=st;refine wpAny_pyIter_slot ⟨o,e,c⟩ F.slot_dict_keyiterator_iter (Pj F.slot_dict_keyiterator_iter ⟨o,e,c⟩ F.entry_dict_keyiterator_iter ?_ (F.args_dict_keyiterator_iter_1 _))
  exact N9 (Oi (Oi ⟨_,rfl, "dict_keyiterator",_,⟨o,e,c⟩,F.slot_dict_keyiterator_next.lookup,h⟩))
section
variable{X:Cx}{tg:Expr}
def Aa(tl:TE):TI:=λσ H R=>tl σ H λx H1=>∃ a ob kus,x=.ref a/\H1 a=some (.frz ob (.dK kus))/\R (lE a ob (kus.map (·.1))) H1
def JV{l:Expr}{tl:TE}(hl:PE X l tl):PI X tg l (Aa tl):=by
 intro pins s σ H R I h;refine thn (hl pins s σ H _ I h) λv s1 Zz=>?_;obtain⟨x,H1,I1,r1,q1⟩:=Zz
 obtain⟨a,ob,kus,e,hq,q⟩:=q1;subst e
 cases r1
 obtain⟨hd,es,ep,vs,d1,rel,dd⟩:=vA I1.hok hq;refine wpAny_pyIter_dict (knd:=eB X.prog X.w) hd dd ⟨s1.heap.objs.size,[s1.heap.objs.size],_,_,H1,rfl,I1.kept (t':=s1.toks) λb o e=>Oe _ e,JU a _ ob (kus.map (·.1)) vs.length ep (by rw[Oh,rel.length]) ⟨es,d1⟩,⟨_,Os _ rfl,rfl,rfl⟩,λb hb=>?_,q⟩
 have e:b=s1.heap.objs.size:=by simpa using hb
 subst e;exact I1.fpOk (Oa _) (I1.hok.fresh (Oa _))
variable{ns:List Str}{g:TG}{jf:List (Nat×Str)}{scope:Scope}{iter elt:Expr}{ifs:List Expr}{pos:Pos}{tl:TE}{tc:TT}{te:TE}
def JW(k:Nat)(g:TG)(jf:List (Nat×Str))(tl:TE)(tc:TT)(te:TE):TE:=λσ H Q=>∃ a kus,H a=some (.dK kus) /\
 ∀ ob,ou k g jf (Aa tl) tc te σ (upd H a (.frz ob (.dK kus))) λv H'=>∃ kus',H' a=some (.frz ob (.dK kus'))/\Q v (upd H' a (.dK kus'))
def JX(hcalm:X.calm=true)(hg:∀ pins cl s H fp,PG (cC X pins ns jf scope cl s H fp) tg g)(hl:PE X iter tl)(hc:∀ pins cl s H fp,ji (cC X pins ns jf scope cl s H fp) ifs tc)(he:∀ pins cl s H fp,PE (cC X pins ns jf scope cl s H fp) elt te)(C:CompOk X ns jf scope)(hs:autoParam (∀ x,foldedSetIterable iter X.env x=pure x) L2.Eh._auto_1) :
  PE X (.ListComp elt [⟨tg,iter,ifs,0⟩] scope pos) (JW ns.length g jf tl tc te):=by
 intro pins s σ H Q I ⟨a,kus,e,h⟩;obtain⟨ob,I1⟩:=I.freeze e;have nf:=I.nofrz e λ_ _ z=>HO.noConfusion z
 refine OV (yA hcalm hg (JV hl) hc he C hs pins s σ _ _ I1 (h ob)) (λv s' ⟨x,H',I',r',kus',e',q'⟩=>⟨x,_,I'.thaw nf e',r',q'⟩) λ_ _ z=>z
end
end L2
set_option maxHeartbeats 400000
namespace Sm
open PySem PySem.Spec L2
def Lz(n:Nat)(ob:Obj)(kvs:List (AV×AV)):AH->Bool:=λh=>@decide (h[n]?=some (.dcz ob kvs)) (Classical.propDecidable _)
def vB(js:List Nat)(en:En)(n:Nat)(kvs:List (AV×AV))(c:SB)(e:SE)(h:AH)(ys:List AV):Prop :=
 (∀ p∈kvs,∀ x,p.1=.str x->x.length<=sizeLine/\x.cps.all (· < 0x110000)=true) /\
 ∀ ob,gU js en (Lz n ob kvs) c e (kvs.map (·.1)) [] (h.set n (.dcz ob kvs))=.ok ys (h.set n (.dcz ob kvs))
def lF(js:List Nat)(i:Nat)(c:SB)(e:SE):SE:=λen h=>match en[i]? with
 |some (some (.ref n))=>(match h[n]? with
  |some (.dct false kvs)=>@dite _ (∃ ys,vB js en n kvs c e h ys) (Classical.propDecidable _) (λp=>.ok (.fl p.choose) h) (λ_=>.bad)
  |_=>.bad)
 |_=>.bad
def hJ:F2:=λx y h=>match x with
 |.ref n=>(match h[n]? with
  |some (.dcz _ kvs)=>if (keyOf? y).isSome then(match aU kvs y with|some v=>.ok v h|none=>.bad) else .bad
  |_=>.bad)
 |_=>.bad
def JY{js:List Nat}{i n:Nat}{c:SB}{e:SE}{en:En}{h:AH}{kvs:List (AV×AV)}{ys:List AV}(e1:en[i]?=some (some (.ref n)))(e2:h[n]?=some (.dct false kvs))(g:vB js en n kvs c e h ys):lF js i c e en h=.ok (.fl ys) h:=by
 have p:∃ ys,vB js en n kvs c e h ys:=⟨ys,g⟩
 unfold lF;rw[e1];dsimp only;rw[e2];dsimp only;rw[dif_pos p];have a:=p.choose_spec.2 default
 rw[g.2 default] at a;injection a with a _
 rw[<- a]
section
variable{T:Tb}{E:St->XK}{X:Cx}{pos px:Pos}{iter elt:Expr}{ifs:List Expr}{scope:Scope}{x₁:Str}{jf:List (Nat×Str)}{i:Nat}{cc:SB}{ce:SE}
def JZ{ι:Ix}{H:Hp}{n:Nat}{ob:Obj}{ad:ZE}{kvs:List (AV×AV)}{ks:List aJ}(hr:ι.refs[n]?=some ad)(hk:kvs.map (·.1)=ks.map kA)(hs:∀ p∈kvs,∀ x,p.1=.str x->x.length<=sizeLine/\x.cps.all (· < 0x110000)=true):oG T (lE ad ob ks) ι H (kvs.map (·.1)) (Lz n ob kvs):=by
 have at_:∀ {ι':Ix} {h':AH} {H':Hp},Ext ι H ι' H'->Sim T ι' h' H'->Lz n ob kvs h'=true->∃ kus,H' ad=some (.frz ob (.dK kus))/\kus.map (·.1)=ks:=λ{ι' h' H'} x' S' l=>by
  have hy:h'[n]?=some (.dcz ob kvs):=@of_decide_eq_true _ (Classical.propDecidable _) l;obtain⟨u,e1,kus,rfl,r⟩:=S'.obj n _ ad hy (x'.at_ hr);refine⟨kus,e1,?_⟩
  have:∀ {l:List (AV×AV)} {m:List (aJ×V)},Paired (λ(p:AV×AV) (q:aJ×V)=>p.1=kA q.1/\RV T ι' H' p.2 q.2) l m->l.map (·.1)=(m.map (·.1)).map kA:=by
   intro l m q;induction q with
   |nil=>rfl
   |cons q _ ih=>rw[Ot,Ot,Ot,ih,q.1]
  have z:=(this r).symm.trans hk;exact(List.map_inj_right λa b=>kY).mp z
 constructor
 ·intro i ι' h' H' x x' S' l hx
  obtain⟨kus,e1,hl⟩:=at_ x' S' l;rw[hk,OI] at hx;obtain⟨k,hki,rfl⟩:=Ow.mp hx
  refine⟨⟨kus,e1,hl,(NZ.mp hki).1⟩,?_⟩
  rintro u H2 ⟨rfl,k',hk',rfl⟩
  rw[hki] at hk';cases hk'
  refine⟨S'.refl,S',?_⟩
  cases k with
  |inl j=>exact .int j
  |inr x =>
   have:AV.str x∈kvs.map (·.1):=by rw[hk];exact PH.mpr ⟨_,OE hki,rfl⟩
   obtain⟨p,hp,ep⟩:=PH.mp this;exact .str (hs p hp x ep).1 (hs p hp x ep).2
 ·intro i ι' h' H' x' S' l hi
  obtain⟨kus,e1,hl⟩:=at_ x' S' l;exact⟨kus,e1,hl,by rw[hk,Oh] at hi;exact hi⟩
def J0{h:AH}{n:Nat}{o:AO}(o':AO)(e:h[n]?=some o):(h.set n o').set n o=h:=by
 rw[SU];refine SV λj=>?_
 by_cases z:n=j
 ·subst z
  rw[Ob (NZ.mp e).1,e]
 ·rw[N8 z]
def J1(C:CompOk X [x₁] jf scope)(hcalm:X.calm=true)(ha:aF T EN X iter (aa i))(hc:∀ pins cl s H fp,ji (cC X pins [x₁] jf scope cl s H fp) ifs (tT T EN cc))(he:∀ pins cl s H fp,aF T EN (cC X pins [x₁] jf scope cl s H fp) elt ce)
  (hs:autoParam (∀ x,foldedSetIterable iter X.env x=pure x) L2.Eh._auto_1):aF T E X (.ListComp elt [⟨.Name x₁ px,iter,ifs,0⟩] scope pos) (lF (jf.map (·.1)) i cc ce) :=(
 bO (JX hcalm (λ_ _ _ _ _=>C.pg 0 rfl (.head _)) ha hc he C hs) λσ H Q=>E6x λι h en S er q=>by
  unfold lF at q;split at q
  ·rename_i n en1
   split at q
   ·rename_i kvs hn
    split at q
    ·rename_i p
     obtain⟨ks,go⟩:=p.choose_spec;generalize p.choose=ys at ks go q
     have hlt:n<h.length:=(NZ.mp hn).1;obtain⟨ad,u,hr,ea,kus,rfl,r⟩:=S.at hn;refine⟨ad,kus,ea,λob=>?_⟩
     have G:=S.growSet (u:=.frz ob (.dK kus)) hr;have S1:Sim T ι (h.set n (.dcz ob kvs)) (upd H ad (.frz ob (.dK kus))):=S.set hr ⟨kus,rfl,Paired.mapP r λ_ _ ⟨a,b⟩=>⟨a,b.mono G⟩⟩;refine⟨ι,_,en,S1,er.mono G,?_⟩
     unfold aa;rw[en1];intro ι1 H1 u1 g1 S2 r1
     cases r1 with
     |@ref _ ad' hr' =>
      have:ad'=ad:=by
       have:=g1.at hr;rw[this] at hr';exact(OG hr').symm
      subst this;obtain⟨u2,e2,kus1,rfl,r2⟩:=S2.obj n _ _ (Ob hlt) hr'
      refine⟨_,ob,kus1,rfl,e2,zr uW (er.mono G) g1 S2 (JZ hr' ?_ ks) ?_⟩
      ·have:∀ {l:List (AV×AV)} {m:List (aJ×V)},Paired (λ(p:AV×AV) (q:aJ×V)=>p.1=kA q.1/\RV T ι1 H1 p.2 q.2) l m->l.map (·.1)=(m.map (·.1)).map kA:=by
        intro l m q;induction q with
        |nil=>rfl
        |cons q _ ih=>rw[Ot,Ot,Ot,ih,q.1]
       exact this r2
      ·rw[go ob]
       intro ι' H' D vs g S' rv hD nD _;have hr2:ι'.refs[n]?=some ad':=g.at hr;obtain⟨u3,e3,kus3,rfl,r3⟩:=S'.show.obj n _ _ (Ob hlt) hr2;refine⟨kus3,e3,?_⟩
       have G2:=S'.show.growSet (u:=.dK kus3) hr2;have S3:Sim T ι' h (upd H' ad' (.dK kus3)):=by
        have z:=S'.show.set (o:=.dct false kvs) (u:=.dK kus3) hr2 ⟨kus3,rfl,Paired.mapP r3 λ_ _ ⟨a,b⟩=>⟨a,b.mono G2⟩⟩;rwa[J0 _ hn] at z
       exact q ι' _ _ ((G.trans g).trans G2) S3 ((RV.fl nD (.inl hD) (rv.ext Ext.show)).mono G2)
    ·exact q.elim
   ·exact q.elim
  ·exact q.elim)
variable{a b:Expr}{sa sb:SE}
def J2(hu:X.A.units+64<cLine)(ha:aF T E X a sa)(hb:aF T E X b sb)(hs:autoParam (qr b) aX._auto_1):aF T E X (.Subscript a b pos) (ah hJ sa sb):=by
 refine bO (yw (Ol (OD (by decide:1<=64) _) hu) ha hb hs) λσ H Q q=>?_
 obtain⟨ι,h,en,S,er,q⟩:=q;refine⟨ι,h,en,S,er,q.bind λx h1 ι1 H1 u g1 S1 r1 q1=>⟨ι1,h1,en,S1,er.mono g1,q1.bind λy h2 ι2 H2 w g2 S2 r2 q2=>?_⟩⟩
 have r1':=r1.mono g2;unfold hJ at q2;split at q2
 ·rename_i n
  split at q2
  ·rename_i ob kvs hn
   split at q2
   ·rename_i hk
    cases r1' with
    |@ref _ ad hr =>
     obtain⟨o,e1,kus,rfl,r⟩:=S2.obj n _ ad hn hr;obtain⟨k,ek⟩:=Oz.mp hk;have:=oI ek;subst this;have dg:DGet H2 ad w (bG kus k):=.inl ⟨kus,k,.inr ⟨ob,e1⟩,oH r2,rfl⟩
     rcases mQ kY r (k:=k) with⟨h1,h2⟩|⟨v',u',h1,h2,h3⟩
     ·rw[h1] at q2;exact q2.elim
     ·rw[h1] at q2
      rw[h2] at dg;exact⟨ad,u',rfl,dg,q2.now S2 h3⟩
   ·exact q2.elim
  ·exact q2.elim
 ·exact q2.elim
end
end Sm
set_option maxHeartbeats 4000000
namespace L2
open PySem PySem.Spec PyProof.Rows PySem.SeqAt PySem.W
section
variable{X:Cx}
def J3(hu:X.A.units+64<cLine):OpR X (compareOp .NotEq) (λx y H Q=>∃ a b kus,x=.ref a/\y=.ref b/\H a=some (.dK kus)/\H b=some (.dK [])/\Q (.bl (!kus.isEmpty)) H):=by
 intro pins s σ H x y v u Q I rx ry h;obtain⟨a,b,kus,rfl,rfl,h1,h2,q⟩:=h
 cases rx
 cases ry
 obtain⟨_,la,va,ra,da⟩:=dk_of I.hok h1;obtain⟨_,lb,vb,rb,db⟩:=dk_of I.hok h2
 cases rb
 have e1:=ra.length;refine keq_ne (r:=true) la lb da db ⋯ (λe=>?_) ⟨.bl _,H,I,rfl,?_⟩
 ·have:va=[]:=Ph.mp e
  subst this;exact .nil
 ·have:(!(va.length == ([]:List (aJ×ZC)).length && true))=!kus.isEmpty:=by
   cases kus<;>cases va<;>simp at e1 ⊢
  rw[this];exact q
end
end L2
namespace Sm
open PySem PySem.Spec L2 PyProof.Rows
def hU:F2:=λx y h=>match x,y with
 |.ref n,.ref m=>(match h[n]?,h[m]? with
  |some (.dct false kvs),some (.dct false [])=>.ok (.bl (!kvs.isEmpty)) h
  |_,_=>.bad)
 |_,_=>.bad
section
variable{T:Tb}
def Ab{X:Cx}(hu:X.A.units+64<cLine):Op T X (compareOp .NotEq) hU:=by
 refine⟨_,J3 hu,λι h H x y u w E Q S rx ry p=>?_⟩
 unfold hU at p;split at p
 ·rename_i n m
  split at p
  ·rename_i kvs hn hm
   cases rx with
   |@ref _ ad hr =>
    cases ry with
    |@ref _ bd hr2 =>
     obtain⟨o,e1,us,rfl,rs⟩:=S.obj n _ ad hn hr;obtain⟨o2,e2,us2,rfl,rs2⟩:=S.obj m _ bd hm hr2
     cases rs2
     refine⟨ad,bd,us,rfl,rfl,e1,e2,?_⟩
     have:us.isEmpty=kvs.isEmpty:=by
      have:=Paired.length rs
      cases us<;>cases kvs<;>simp at this ⊢
     rw[this];exact p.now S (.bl _)
  ·exact p.elim
 ·exact p.elim
end
end Sm
namespace Sk
open PySem PySem.Spec L2 Sm
section
abbrev vC:Nat:=0
abbrev rC:Nat:=1
abbrev vD:Nat:=2
def rD(c:Nat):Bool:=[true,false,false].getD c false
def oW(c:Nat):Bool:=[false,true,false].getD c false
def vE(c:Nat):Bool:=[false,false,false].getD c false
def rE(c:Nat):Bool:=[true,false,false].getD c false
def vF(c:Nat):Bool:=[false,false,true].getD c false
def vG(c:Nat):Bool:=[false,false,false].getD c false
def vH:Fn:=ay 1 1
  (aj (gW 0 0 (aa 0) (gb af))
  (aj (gW 0 1 (aa 0) (fo true))
  (aj (gW 0 2 (aa 0) (gb (ai (ae (.int 0)) af)))
  (aj (gW 0 3 (aa 0) (gb (ai (ae (.int 0)) af)))
  (aj (gW 0 4 (aa 0) (gb (ai (ae (.int 0)) af)))
  (aj (gW 0 5 (aa 0) (gb (ai (bZ bh (ae (.int 1))) af)))
  (aj (gW 0 6 (aa 0) (gb (ai (ae (.int 0)) af)))
  (gW 0 7 (aa 0) (gb (ai (ae (.int 0)) af))))))))))
def m8:Fn:=ay 1 1
  (aj (gW 1 0 (aa 0) (mJ 0 8 vH af))
  (aj (gW 1 1 (aa 0) (fo false))
  (aj (gW 1 2 (aa 0) (gb af))
  (gW 1 3 (aa 0) (gb af)))))
def rF:Fn:=ay 2 3
  (aj (aw 2 (ah bH (ah bq (ah aB (ah aB (ah bH (aa 0) (ae (.int 1000000007))) (ah bq (ae (.int 7919)) (aa 1))) (ae (.int 101))) (ae (.int 48271))) (ae (.int 2147483647))))
  (aq (ah bH (ah bq (ah bH (ah bq (aa 2) (aa 2)) (ae (.int 2147483629))) (ae (.int 69621))) (ae (.int 2147483647)))))
def m9:SS :=aw 2 (ah aB (ah bq (aa 2) (ah bq (ah b9 (ae (.int 10)) (ae (.int 60))) (ah b9 (ae (.int 10)) (ae (.int 60))))) (ah bH (ah ao (aa 0) (aa 3)) (ah bq (ah b9 (ae (.int 10)) (ae (.int 60))) (ah b9 (ae (.int 10)) (ae (.int 60))))))
def nh:SS :=aw 4 (ah aB (ah bq (aa 4) (ae (.int 2147483647))) (au rF (ai (ah aB (ah aB (aa 2) (ah bq (ae (.int 1009)) (aa 1))) (au aI (ai (aa 0) af))) (ai (aa 3) af))))
def iK:Fn:=ay 2 5
  (aj (aw 2 (ae (.int 0)))
  (aj (cR (jC (aa 1) (au aI (ai (aa 0) af)) (ae (.int 8))) (.nm 3) m9)
  (aj (aH (aC (ah jY (aa 2) (ah b9 (ae (.int 10)) (ae (.int 18))))) (aq (gb (ai (aa 2) af))) aK)
  (aj (aw 2 (ah aB (aa 2) (au gX (ai (fD [] (dU (aa 0)) bx (ah bH (aa 0) (ah b9 (ae (.int 10)) (ae (.int 18))))) af))))
  (aj (aw 4 (ae (.int 0)))
  (aj (cR (ju (ae (.int 16))) (.nm 3) nh)
  (aq (gb (ai (aa 4) af)))))))))
def aQ:Fn:=ay 2 3
  (aj (aw 2 (ah bH (ah ao (aa 0) (ae (.int 0))) (aa 1)))
  (aj (fw (aa 0) (ae (.int 0)) (ah cQ (ah ao (aa 0) (ae (.int 0))) (aa 1)))
  (aq (aa 2))))
def fL:Fn:=ay 3 5
  (aj (aw 3 (g8 (aa 1)))
  (aj (aw 4 (au aQ (ai (aa 0) (ai (ae (.int 8)) af))))
  (aj (aH (aC (ah az (aa 4) (ae (.int 0)))) (aq (ah ao (aa 2) (au aQ (ai (aa 0) (ai (au aI (ai (aa 2) af)) af))))) aK)
  (aj (aH (jZ (aC (ah fq (aa 4) (ae (.int 3)))) (aC (ah az (aa 3) (aM af)))) (aq (ah ao (aM (ai (ae (.str "a")) (ai (ae (.str "ab")) (ai (ae (.str "b")) (ai (ae (.str "abcdefgh")) (ai (ae (.str "zz")) (ai (ae (.str "q")) af))))))) (au aQ (ai (aa 0) (ai (ae (.int 6)) af))))) aK)
  (aq (ah ao (aa 3) (au aQ (ai (aa 0) (ai (au aI (ai (aa 3) af)) af)))))))))
def lG:SS :=aw 3 (ah aB (aa 3) (ah ao (aa 2) (au aQ (ai (aa 0) (ai (au aI (ai (aa 2) af)) af)))))
def iL:Fn:=ay 2 5
  (aj (aw 2 (ah ao (aM (ai (ae (.str "ab")) (ai (ae (.str "aaab")) (ai (ae (.str "a\n")) (ai (ae (.str "ab \n")) (ai (ae (.str "abcdefghijklmnopqrstuvwxyz 0123456789.,~\n")) af)))))) (au aQ (ai (aa 0) (ai (ae (.int 5)) af)))))
  (aj (aw 3 (ae (.str "")))
  (aj (cR (ju (au aQ (ai (aa 0) (ai (ah aB (aa 1) (ae (.int 1))) af)))) (.nm 4) lG)
  (aq (aa 3)))))
def nj:Fn:=ay 2 7
  (aj (aw 2 (aM (ai (ae (.str "")) (ai (ae (.str "A")) (ai (ae (.str "abcdefghi")) (ai (ae (.str "a1")) (ai (ae (.str "a ")) (ai (ae .non) (ai (ae (.int 7)) (ai (ae (.bl true)) (ai (aM (ai (ae (.str "a")) af)) (ai (aG (ai (ae (.str "a")) af)) (ai (fo false) af)))))))))))))
  (aj (aw 3 (au fL (ai (aa 0) (ai (aa 1) (ai (aa 2) af)))))
  (aj (aH (aC (ah az (au aQ (ai (aa 0) (ai (ae (.int 3)) af))) (ae (.int 0)))) (aj (aw 4 (au fL (ai (aa 0) (ai (aa 1) (ai (aM (ai (ae (.str "")) (ai (ae (.str "A")) (ai (ae (.str "none")) af)))) af)))))
  (aj (aw 5 (ah ao (aM (ai (ae (.str "")) (ai (ae (.str "NoName")) af))) (au bC (ai (fB (ah dY (aa 3) (aa 2)) (ah dB (aa 4) (aa 1))) af))))
  (aq (aG (ai (aG (ai (ae (.str "copy_of")) (ai (aa 3) (ai (aa 4) af)))) (ai (aa 5) (ai (fI (aa 1) (aa 4) (ae (.str ""))) af))))))) aK)
  (aj (aw 6 (au iL (ai (aa 0) (ai (ae (.int 30)) af))))
  (aj (aH (aC (ah az (au aQ (ai (aa 0) (ai (ae (.int 10)) af))) (ae (.int 0)))) (aw 6 (ah ao (aM (ai (ae .non) (ai (ae (.int 7)) (ai (ae (.str "a\t")) (ai (aM (ai (ae (.str "a")) af)) (ai (ae (.bl true)) (ai (ae (.str "\t")) af))))))) (au aQ (ai (aa 0) (ai (ae (.int 6)) af))))) aK)
  (aj (aw 5 (ah ao (aM (ai (ae (.str "")) (ai (ae (.str "NoText")) af))) (au bC (ai (fB (jt (fF "str" (aa 6))) (ah qH (ae (.str "\t")) (aa 6))) af))))
  (aj (aH (aC (ah dY (aa 3) (aa 2))) (aw 5 (ae (.str "NoName"))) aK)
  (aq (aG (ai (aG (ai (ae (.str "give")) (ai (aa 3) (ai (aa 6) af)))) (ai (aa 5) (ai (aa 6) af))))))))))))
def nq:Fn:=ay 2 13
  (aj (aw 2 (au aQ (ai (aa 0) (ai (ae (.int 4)) af))))
  (aj (aw 3 (au fL (ai (aa 0) (ai (aa 1) (ai (aM (ai (ae (.str "")) (ai (ae (.str "A")) (ai (ae (.str "none")) af)))) af)))))
  (aj (aw 4 (au fL (ai (aa 0) (ai (aa 1) (ai (aM (ai (ae (.str "")) (ai (ae (.str "A")) (ai (ae (.str "none")) af)))) af)))))
  (aj (aw 5 (fI (aa 1) (aa 3) (ae (.str ""))))
  (aj (aw 6 (fI (aa 1) (aa 4) (ae (.str ""))))
  (aj (aw 7 (ah ao (aM (ai (ae (.str "")) (ai (ae (.str "NoName")) af))) (au bC (ai (ah dB (aa 3) (aa 1)) af))))
  (aj (aw 8 (ah ao (aM (ai (ae (.str "")) (ai (ae (.str "NoName")) af))) (au bC (ai (fB (ah dB (aa 3) (aa 1)) (ah dB (aa 4) (aa 1))) af))))
  (aj (aw 9 (ah bN (au aQ (ai (aa 0) (ai (ah aB (au aI (ai (aa 5) af)) (ae (.int 3))) af))) (ae (.int 1))))
  (aj (aw 10 (ah bN (au aQ (ai (aa 0) (ai (ah aB (au aI (ai (aa 5) af)) (ae (.int 3))) af))) (ae (.int 1))))
  (aj (aH (aC (ah az (aa 2) (ae (.int 0)))) (aq (aG (ai (aG (ai (ae (.str "join_to")) (ai (aa 3) (ai (aa 4) af)))) (ai (aa 8) (ai (ah aB (aa 5) (aa 6)) af))))) aK)
  (aj (aH (aC (ah az (aa 2) (ae (.int 1)))) (aj (aw 11 (gr (aa 8) (ah ao (aM (ai (ae (.str "")) (ai (ae (.str "NoPlace")) af))) (au bC (ai (jt (fu aY aY (ae (.int 0)) (aa 9) (au aI (ai (aa 5) af)))) af)))))
  (aq (aG (ai (aG (ai (ae (.str "put_into")) (ai (aa 3) (ai (aa 9) (ai (aa 4) af))))) (ai (aa 11) (ai (ah aB (ah aB (bT (aa 5) none (some (au fE (ai (ae (.int 0)) (ai (aa 9) af))))) (aa 6)) (bT (aa 5) (some (au fE (ai (ae (.int 0)) (ai (aa 9) af)))) none)) af)))))) aK)
  (aj (aH (aC (ah az (aa 2) (ae (.int 2)))) (aj (aw 11 (gr (aa 7) (ah ao (aM (ai (ae (.str "")) (ai (ae (.str "NoPlace")) af))) (au bC (ai (jt (k9 aY aY aY (ae (.int 0)) (aa 9) (aa 10) (au aI (ai (aa 5) af)))) af)))))
  (aq (aG (ai (aG (ai (ae (.str "take_from")) (ai (aa 3) (ai (aa 9) (ai (aa 10) af))))) (ai (aa 11) (ai (ah aB (bT (aa 5) none (some (au fE (ai (ae (.int 0)) (ai (aa 9) af))))) (bT (aa 5) (some (au fE (ai (ae (.int 0)) (ai (aa 10) af)))) none)) af)))))) aK)
  (aj (aw 12 (ah ao (aM (ai (ae (.int 0)) (ai (ae (.int 1)) (ai (ae (.int 2)) (ai (ae (.int 3)) (ai (bZ bh (ae (.int 1))) (ai (ah aB (ah cQ (ah b9 (ae (.int 10)) (ae (.int 18))) (au fE (ai (ae (.int 1)) (ai (au aI (ai (aa 5) af)) af)))) (ae (.int 1))) af))))))) (au aQ (ai (aa 0) (ai (ae (.int 6)) af)))))
  (aj (aw 11 (gr (aa 7) (gr (ah ao (aM (ai (ae (.str "")) (ai (ae (.str "NoPlace")) af))) (au bC (ai (ah fq (aa 12) (ae (.int 0))) af))) (ah ao (aM (ai (ae (.str "")) (ai (ae (.str "TooLong")) af))) (au bC (ai (jr (ah dN (aa 12) (ae (.int 3))) (ah bS (aa 5) (ae (.str "")))) af))))))
  (aq (aG (ai (aG (ai (ae (.str "repeat")) (ai (aa 3) (ai (aa 12) af)))) (ai (aa 11) (ai (ah oR (aa 5) (au mK (ai (ae (.int 3)) (ai (au fE (ai (ae (.int 0)) (ai (aa 12) af))) af)))) af)))))))))))))))))))
def oX:Fn:=ay 2 9
  (aj (aw 2 (au aQ (ai (aa 0) (ai (ae (.int 8)) af))))
  (aj (aH (aC (ah az (aa 2) (ae (.int 0)))) (aj (aw 3 (au fL (ai (aa 0) (ai (aa 1) (ai (aM (ai (ae (.str "")) (ai (ae (.str "A")) (ai (ae (.str "none")) af)))) af)))))
  (aj (aH (aC (ah dB (aa 3) (aa 1))) (aq (aG (ai (aG (ai (ae (.str "drop")) (ai (aa 3) af))) (ai (ae (.str "NoName")) (ai (aa 1) af))))) aK)
  (aj (aw 4 (au ip (ai (aa 1) af)))
  (aj (bp (i8 (aa 4) (aa 3)))
  (aq (aG (ai (aG (ai (ae (.str "drop")) (ai (aa 3) af))) (ai (ae (.str "")) (ai (aa 4) af))))))))) aK)
  (aj (qG (.tup [5,6,7]) (g9 nj nq (au bC (ai (ah dN (aa 2) (ae (.int 3))) af)) (ai (aa 0) (ai (aa 1) af))))
  (aj (aH (dS (aC (ah az (aa 6) (ae (.str "")))) (aC (ah dN (au aI (ai (aa 7) af)) (ae (.int 300))))) (rB 5 6 7 (ai (aG (ai (ae (.str "give")) (ai (ah ao (aa 5) (ae (.int 1))) (ai (ae (.str "long")) af)))) (ai (ae (.str "")) (ai (ae (.str "long")) af)))) aK)
  (aj (aw 8 (au ip (ai (aa 1) af)))
  (aj (aH (aC (ah az (aa 6) (ae (.str "")))) (fw (aa 8) (ah ao (aa 5) (ae (.int 1))) (aa 7)) aK)
  (aq (aG (ai (aa 5) (ai (aa 6) (ai (aa 8) af)))))))))))
def iM:Fn:=ay 3 3
  (aH (aC (ah jo (aa 2) (ae .non))) (bp (i8 (Sm.sFld 1 1 (aa 0)) (aa 1))) (fw (Sm.sFld 1 1 (aa 0)) (aa 1) (aa 2)))
def j5:Fn:=ay 1 2
  (aj (aH (aC (ah az (Sm.sFld 1 2 (aa 0)) (aM af))) (kN 2 (ai (ae (.str "there is no deed to take back")) af)) aK)
  (aj (aw 1 (gi aZ bz (Sm.sFld 1 2 (aa 0))))
  (aj (bp (dZ aZ bP (Sm.sFld 1 3 (aa 0)) (ai (aa 1) af)))
  (bp (aD 1 iM (aa 0) (ai (ah ao (aa 1) (ae (.int 0))) (ai (ah ao (aa 1) (ae (.int 1))) af)))))))
def nt:Fn:=ay 1 1
  (aj (aH (cG (gA (fF "str" (aa 0)))) (aq (ae (.bl false))) aK)
  (aq (jr (fu aY aY (ae (.int 1)) (au aI (ai (aa 0) af)) (ae (.int 8))) (au eQ (ai (fD [] (dU (aa 0)) bx (fu aY aY (ae (.str "a")) (aa 0) (ae (.str "z")))) af)))))
def nv:Fn:=ay 1 1
  (aH (cG (gA (au nt (ai (aa 0) af)))) (kN 1 (ai (ae (.str "a name has one to eight small letters")) af)) aK)
def dO:Fn:=ay 3 3
  (aj (bp (dZ aZ bP (Sm.sFld 1 2 (aa 0)) (ai (aG (ai (aa 1) (ai (oU (Sm.sFld 1 1 (aa 0)) (aa 1)) (ai (aa 2) af)))) af)))
  (aj (bp (gi aZ mX (Sm.sFld 1 3 (aa 0))))
  (bp (aD 1 iM (aa 0) (ai (aa 1) (ai (aa 2) af))))))
def rG:Fn:=ay 1 1
  (aq (jr (fF "int" (aa 0)) (jt (fF "bool" (aa 0)))))
def rH:Fn:=ay 2 2
  (aq (jr (au rG (ai (aa 1) af)) (fu aY aY (ae (.int 1)) (aa 1) (au aI (ai (Sm.sFld 0 0 (aa 0)) af)))))
def lH:Fn:=ay 2 2
  (aH (cG (gA (aD 0 rH (aa 0) (ai (aa 1) af)))) iJ aK)
def oY:Fn:=ay 3 4
  (aj (bp (aD 0 lH (aa 0) (ai (aa 1) af)))
  (aj (bp (aD 0 lH (aa 0) (ai (aa 2) af)))
  (aj (aw 3 (ah aB (ah ao (Sm.sFld 0 2 (aa 0)) (ah ao (Sm.sFld 0 7 (aa 0)) (aa 1))) (ah ao (Sm.sFld 0 2 (aa 0)) (ah ao (Sm.sFld 0 6 (aa 0)) (aa 2)))))
  (aj (aH (aC (ah aY (aa 3) (ae (.int 8)))) iJ aK)
  (aj (aH (aC (ah dN (au kO (ai (ah bN (ah ao (Sm.sFld 0 5 (aa 0)) (aa 1)) (ah ao (Sm.sFld 0 5 (aa 0)) (aa 2))) af)) (ae (.int 1)))) iJ aK)
  (aH (aC (ah dN (ah aB (ah ao (Sm.sFld 0 2 (aa 0)) (aa 1)) (ah ao (Sm.sFld 0 2 (aa 0)) (aa 2))) (ae (.int 1000000000000000000)))) iJ aK))))))
def oZ:Fn:=ay 2 3
  (aj (bp (dZ aZ bP (Sm.sFld 0 0 (aa 0)) (ai (aa 1) af)))
  (aj (aw 2 (au aI (ai (Sm.sFld 0 0 (aa 0)) af)))
  (aj (fw (Sm.sFld 0 1 (aa 0)) (aa 1) (aa 2))
  (aq (aa 2)))))
def pe:Fn:=ay 2 4
  (aj (bp (aD 0 oZ (aa 0) (ai (aa 1) af)))
  (aj (aw 2 (ah ao (aa 1) (ae (.int 1))))
  (aj (aw 3 (ah ao (aa 1) (ae (.int 2))))
  (aj (bp (dZ aZ bP (Sm.sFld 0 2 (aa 0)) (ai (ah aB (ah ao (Sm.sFld 0 2 (aa 0)) (aa 2)) (ah ao (Sm.sFld 0 2 (aa 0)) (aa 3))) af)))
  (aj (bp (dZ aZ bP (Sm.sFld 0 3 (aa 0)) (ai (ah aB (ah ao (Sm.sFld 0 3 (aa 0)) (aa 2)) (ah ao (Sm.sFld 0 3 (aa 0)) (aa 3))) af)))
  (aj (bp (dZ aZ bP (Sm.sFld 0 4 (aa 0)) (ai (ah aB (ah ao (Sm.sFld 0 4 (aa 0)) (aa 2)) (ah ao (Sm.sFld 0 4 (aa 0)) (aa 3))) af)))
  (aj (bp (dZ aZ bP (Sm.sFld 0 5 (aa 0)) (ai (ah aB (au fE (ai (ah ao (Sm.sFld 0 5 (aa 0)) (aa 2)) (ai (ah ao (Sm.sFld 0 5 (aa 0)) (aa 3)) af))) (ae (.int 1))) af)))
  (aj (bp (dZ aZ bP (Sm.sFld 0 6 (aa 0)) (ai (ah ao (Sm.sFld 0 6 (aa 0)) (aa 2)) af)))
  (bp (dZ aZ bP (Sm.sFld 0 7 (aa 0)) (ai (ah ao (Sm.sFld 0 7 (aa 0)) (aa 3)) af)))))))))))
def aV:Fn:=ay 3 4
  (aj (bp (aD 0 oY (aa 0) (ai (aa 1) (ai (aa 2) af))))
  (aj (aw 3 (aG (ai (ae (.str "fork")) (ai (aa 1) (ai (aa 2) af)))))
  (aj (aH (aC (ah dB (aa 3) (Sm.sFld 0 1 (aa 0)))) (bp (aD 0 pe (aa 0) (ai (aa 3) af))) aK)
  (aq (ah ao (Sm.sFld 0 1 (aa 0)) (aa 3))))))
def vI(G:Fn):Fn:=ay 2 3
  (aj (aH (aC (ah az (au aI (ai (aa 1) af)) (ae (.int 1)))) (aq (ah ao (aa 1) (ae (.int 0)))) aK)
  (aj (aw 2 (ah cQ (au aI (ai (aa 1) af)) (ae (.int 2))))
  (aq (aD 0 aV (aa 0) (ai (au G (ai (aa 0) (ai (bT (aa 1) none (some (aa 2))) af))) (ai (au G (ai (aa 0) (ai (bT (aa 1) (some (aa 2)) none) af))) af))))))
def iq:Nat->Fn
 |0=>ay 2 3 (λ_ _=>.bad)
 |d+1=>vI (iq d)
def pf:Fn:=ay 1 1
  (aq (fB (ah az (aa 0) (ae (.str "\n"))) (fu aY aY (ae (.str " ")) (aa 0) (ae (.str "~")))))
def lI:Fn:=ay 1 1
  (aj (aH (cG (gA (fF "str" (aa 0)))) (aq (ae (.bl false))) aK)
  (aq (au eQ (ai (fD [] (dU (aa 0)) bx (au pf (ai (aa 0) af))) af))))
def rJ:Fn:=ay 1 1
  (aq (jr (au lI (ai (aa 0) af)) (fu aY aY (ae (.int 1)) (au aI (ai (aa 0) af)) (ae (.int 8)))))
def rK:Fn:=ay 1 1
  (aq (dZ uL uM (aa 0) (ai (ae (.str "\n")) af)))
def ph:Fn:=ay 2 4
  (aj (aw 2 (aD 0 oZ (aa 0) (ai (aa 1) af)))
  (aj (aw 3 (ah ao (aa 1) (ae (.int 1))))
  (aj (bp (dZ aZ bP (Sm.sFld 0 2 (aa 0)) (ai (au aI (ai (aa 3) af)) af)))
  (aj (bp (dZ aZ bP (Sm.sFld 0 3 (aa 0)) (ai (au rK (ai (aa 3) af)) af)))
  (aj (bp (dZ aZ bP (Sm.sFld 0 4 (aa 0)) (ai (ae (.int 1)) af)))
  (aj (bp (dZ aZ bP (Sm.sFld 0 5 (aa 0)) (ai (ae (.int 0)) af)))
  (aj (bp (dZ aZ bP (Sm.sFld 0 6 (aa 0)) (ai (aa 2) af)))
  (bp (dZ aZ bP (Sm.sFld 0 7 (aa 0)) (ai (aa 2) af))))))))))
def eC:Fn:=ay 2 3
  (aj (aH (cG (gA (au rJ (ai (aa 1) af)))) (kN 0 (ai (ae (.str "a leaf is a plain text of one to eight signs")) af)) aK)
  (aj (aw 2 (aG (ai (ae (.str "leaf")) (ai (aa 1) af))))
  (aj (aH (aC (ah dB (aa 2) (Sm.sFld 0 1 (aa 0)))) (bp (aD 0 ph (aa 0) (ai (aa 2) af))) aK)
  (aq (ah ao (Sm.sFld 0 1 (aa 0)) (aa 2))))))
def jF:Fn:=ay 2 3
  (aj (aH (cG (gA (au lI (ai (aa 1) af)))) (kN 0 (ai (ae (.str "a text is built of a plain text")) af)) aK)
  (aj (aH (aC (ah dN (au aI (ai (aa 1) af)) (ae (.int 10000)))) iJ aK)
  (aj (aH (aC (ah az (aa 1) (ae (.str "")))) (aq (ae (.int 0))) aK)
  (aj (aw 2 (fD [0,1] (jC (ae (.int 0)) (au aI (ai (aa 1) af)) (ae (.int 8))) bx (aD 0 eC (aa 1) (ai (bT (aa 2) (some (aa 0)) (some (ah aB (aa 0) (ae (.int 8))))) af))))
  (aq (au (iq 20) (ai (aa 0) (ai (aa 2) af))))))))
def lJ:Fn:=ay 3 3
  (aj (bp (au nv (ai (aa 1) af)))
  (bp (aD 1 dO (aa 0) (ai (aa 1) (ai (au jF (ai (Sm.sFld 1 0 (aa 0)) (ai (aa 2) af))) af)))))
def cO:Fn:=ay 2 2
  (aj (aH (jZ (cG (gA (au nt (ai (aa 1) af)))) (aC (ah dB (aa 1) (Sm.sFld 1 1 (aa 0))))) (kN 1 (ai (ae (.str "this name is not there")) af)) aK)
  (aq (ah ao (Sm.sFld 1 1 (aa 0)) (aa 1))))
def pj:Fn:=ay 3 3
  (aj (bp (au nv (ai (aa 1) af)))
  (bp (aD 1 dO (aa 0) (ai (aa 1) (ai (aD 1 cO (aa 0) (ai (aa 2) af)) af)))))
def nz:Fn:=ay 1 1
  (aH (aC (ah dN (aa 0) (ae (.int 1000000000000000000)))) iJ aK)
def j7:Fn:=ay 2 2
  (aH (aC (ah bS (aa 1) (ae (.int 0)))) (bp (aD 0 lH (aa 0) (ai (aa 1) af))) aK)
def eV:Fn:=ay 2 2
  (aj (bp (aD 0 j7 (aa 0) (ai (aa 1) af)))
  (aq (ah ao (Sm.sFld 0 2 (aa 0)) (aa 1))))
def pq:Fn:=ay 2 2
  (aj (bp (aD 0 j7 (aa 0) (ai (aa 1) af)))
  (aq (ah ao (Sm.sFld 0 7 (aa 0)) (aa 1))))
def pA:Fn:=ay 2 2
  (aj (bp (aD 0 j7 (aa 0) (ai (aa 1) af)))
  (aq (ah ao (Sm.sFld 0 6 (aa 0)) (aa 1))))
def rL:Fn:=ay 3 3
  (aq (ah dN (ah aB (aD 0 eV (aa 0) (ai (aD 0 pq (aa 0) (ai (aa 1) af)) af)) (aD 0 eV (aa 0) (ai (aD 0 pA (aa 0) (ai (aa 2) af)) af))) (ae (.int 8))))
def eX:Fn:=ay 2 2
  (aj (bp (aD 0 lH (aa 0) (ai (aa 1) af)))
  (aq (ah ao (Sm.sFld 0 0 (aa 0)) (ah bN (aa 1) (ae (.int 1))))))
def vJ(G:Fn):Fn:=ay 3 4
  (aj (aw 3 (aD 0 eX (aa 0) (ai (aa 1) af)))
  (aj (aH (aC (ah az (ah ao (aa 3) (ae (.int 0))) (ae (.str "leaf")))) (aq (aa 2)) aK)
  (aq (aD 0 aV (aa 0) (ai (ah ao (aa 3) (ae (.int 1))) (ai (au G (ai (aa 0) (ai (ah ao (aa 3) (ae (.int 2))) (ai (aa 2) af)))) af))))))
def iu:Nat->Fn
 |0=>ay 3 4 (λ_ _=>.bad)
 |d+1=>vJ (iu d)
def hV:Fn:=ay 2 2
  (aj (bp (aD 0 j7 (aa 0) (ai (aa 1) af)))
  (aq (ah ao (Sm.sFld 0 5 (aa 0)) (aa 1))))
def gH:Fn:=ay 3 7
  (aj (aH (aC (ah fq (ah bN (aD 0 hV (aa 0) (ai (aa 2) af)) (aD 0 hV (aa 0) (ai (aa 1) af))) (ae (.int 2)))) (aq (aD 0 aV (aa 0) (ai (aa 1) (ai (aa 2) af)))) aK)
  (aj (aw 3 (aD 0 eX (aa 0) (ai (aa 2) af)))
  (aj (aw 4 (ah ao (aa 3) (ae (.int 1))))
  (aj (aw 5 (ah ao (aa 3) (ae (.int 2))))
  (aj (aH (aC (ah aY (aD 0 hV (aa 0) (ai (aa 4) af)) (aD 0 hV (aa 0) (ai (aa 5) af)))) (aq (aD 0 aV (aa 0) (ai (aD 0 aV (aa 0) (ai (aa 1) (ai (aa 4) af))) (ai (aa 5) af)))) aK)
  (aj (aw 6 (aD 0 eX (aa 0) (ai (aa 4) af)))
  (aq (aD 0 aV (aa 0) (ai (aD 0 aV (aa 0) (ai (aa 1) (ai (ah ao (aa 6) (ae (.int 1))) af))) (ai (aD 0 aV (aa 0) (ai (ah ao (aa 6) (ae (.int 2))) (ai (aa 5) af))) af))))))))))
def rM(G:Fn):Fn:=ay 2 4
  (aj (aw 2 (aD 0 eX (aa 0) (ai (aa 1) af)))
  (aj (aH (aC (ah az (ah ao (aa 2) (ae (.int 0))) (ae (.str "leaf")))) (aq (ae (.int 0))) aK)
  (aj (aw 3 (au G (ai (aa 0) (ai (ah ao (aa 2) (ae (.int 1))) af))))
  (aj (aH (aC (ah az (aa 3) (ae (.int 0)))) (aq (ah ao (aa 2) (ae (.int 2)))) aK)
  (aq (au gH (ai (aa 0) (ai (aa 3) (ai (ah ao (aa 2) (ae (.int 2))) af)))))))))
def fV:Nat->Fn
 |0=>ay 2 4 (λ_ _=>.bad)
 |d+1=>rM (fV d)
def iO:Fn:=ay 3 7
  (aj (aH (aC (ah fq (ah bN (aD 0 hV (aa 0) (ai (aa 1) af)) (aD 0 hV (aa 0) (ai (aa 2) af))) (ae (.int 2)))) (aq (aD 0 aV (aa 0) (ai (aa 1) (ai (aa 2) af)))) aK)
  (aj (aw 3 (aD 0 eX (aa 0) (ai (aa 1) af)))
  (aj (aw 4 (ah ao (aa 3) (ae (.int 1))))
  (aj (aw 5 (ah ao (aa 3) (ae (.int 2))))
  (aj (aH (aC (ah aY (aD 0 hV (aa 0) (ai (aa 5) af)) (aD 0 hV (aa 0) (ai (aa 4) af)))) (aq (aD 0 aV (aa 0) (ai (aa 4) (ai (aD 0 aV (aa 0) (ai (aa 5) (ai (aa 2) af))) af)))) aK)
  (aj (aw 6 (aD 0 eX (aa 0) (ai (aa 5) af)))
  (aq (aD 0 aV (aa 0) (ai (aD 0 aV (aa 0) (ai (aa 4) (ai (ah ao (aa 6) (ae (.int 1))) af))) (ai (aD 0 aV (aa 0) (ai (ah ao (aa 6) (ae (.int 2))) (ai (aa 2) af))) af))))))))))
def rN(G:Fn):Fn:=ay 3 5
  (aj (aw 3 (ah bN (aD 0 hV (aa 0) (ai (aa 1) af)) (aD 0 hV (aa 0) (ai (aa 2) af))))
  (aj (aH (aC (ah dN (aa 3) (ae (.int 1)))) (aj (aw 4 (aD 0 eX (aa 0) (ai (aa 1) af)))
  (aq (au gH (ai (aa 0) (ai (ah ao (aa 4) (ae (.int 1))) (ai (au G (ai (aa 0) (ai (ah ao (aa 4) (ae (.int 2))) (ai (aa 2) af)))) af)))))) aK)
  (aj (aH (aC (ah fq (aa 3) (bZ bh (ae (.int 1))))) (aj (aw 4 (aD 0 eX (aa 0) (ai (aa 2) af)))
  (aq (au iO (ai (aa 0) (ai (au G (ai (aa 0) (ai (aa 1) (ai (ah ao (aa 4) (ae (.int 1))) af)))) (ai (ah ao (aa 4) (ae (.int 2))) af)))))) aK)
  (aq (aD 0 aV (aa 0) (ai (aa 1) (ai (aa 2) af)))))))
def fM:Nat->Fn
 |0=>ay 3 5 (λ_ _=>.bad)
 |d+1=>rN (fM d)
def lM:Fn:=ay 3 6
  (aj (aw 3 (ah aB (ah ao (aD 0 eX (aa 0) (ai (aD 0 pq (aa 0) (ai (aa 1) af)) af)) (ae (.int 1))) (ah ao (aD 0 eX (aa 0) (ai (aD 0 pA (aa 0) (ai (aa 2) af)) af)) (ae (.int 1)))))
  (aj (aw 4 (au (iu 90) (ai (aa 0) (ai (aa 1) (ai (aD 0 eC (aa 0) (ai (aa 3) af)) af)))))
  (aj (aw 5 (au (fV 90) (ai (aa 0) (ai (aa 2) af))))
  (aj (aH (aC (ah az (aa 5) (ae (.int 0)))) (aq (aa 4)) aK)
  (aq (au (fM 90) (ai (aa 0) (ai (aa 4) (ai (aa 5) af)))))))))
def bW:Fn:=ay 3 3
  (aj (bp (au nz (ai (ah aB (aD 0 eV (aa 0) (ai (aa 1) af)) (aD 0 eV (aa 0) (ai (aa 2) af))) af)))
  (aj (aH (aC (ah az (aa 1) (ae (.int 0)))) (aq (aa 2)) aK)
  (aj (aH (aC (ah az (aa 2) (ae (.int 0)))) (aq (aa 1)) aK)
  (aj (aH (gA (au rL (ai (aa 0) (ai (aa 1) (ai (aa 2) af))))) (aq (au (fM 90) (ai (aa 0) (ai (aa 1) (ai (aa 2) af))))) aK)
  (aq (au lM (ai (aa 0) (ai (aa 1) (ai (aa 2) af)))))))))
def pB:Fn:=ay 3 3
  (bp (aD 1 dO (aa 0) (ai (aa 1) (ai (au bW (ai (Sm.sFld 1 0 (aa 0)) (ai (aD 1 cO (aa 0) (ai (aa 1) af)) (ai (aD 1 cO (aa 0) (ai (aa 2) af)) af)))) af))))
def rO:Fn:=ay 3 4
  (aj (aw 3 (aD 0 eV (aa 0) (ai (aa 1) af)))
  (aH (cG (aC (fu aY aY (ae (.int 0)) (aa 2) (aa 3)))) iJ aK))
def lN(G:Fn):Fn:=ay 3 5
  (aj (aH (aC (ah az (aa 2) (ae (.int 0)))) (aq (ae (.int 0))) aK)
  (aj (aH (aC (ah az (aa 2) (aD 0 eV (aa 0) (ai (aa 1) af)))) (aq (aa 1)) aK)
  (aj (aw 3 (aD 0 eX (aa 0) (ai (aa 1) af)))
  (aj (aH (aC (ah az (ah ao (aa 3) (ae (.int 0))) (ae (.str "leaf")))) (aq (aD 0 eC (aa 0) (ai (bT (ah ao (aa 3) (ae (.int 1))) none (some (aa 2))) af))) aK)
  (aj (aw 4 (aD 0 eV (aa 0) (ai (ah ao (aa 3) (ae (.int 1))) af)))
  (aj (aH (aC (ah aY (aa 2) (aa 4))) (aq (au G (ai (aa 0) (ai (ah ao (aa 3) (ae (.int 1))) (ai (aa 2) af))))) aK)
  (aq (au bW (ai (aa 0) (ai (ah ao (aa 3) (ae (.int 1))) (ai (au G (ai (aa 0) (ai (ah ao (aa 3) (ae (.int 2))) (ai (ah bN (aa 2) (aa 4)) af)))) af)))))))))))
def dF:Nat->Fn
 |0=>ay 3 5 (λ_ _=>.bad)
 |d+1=>lN (dF d)
def lO(G:Fn):Fn:=ay 3 5
  (aj (aH (aC (ah az (aa 2) (ae (.int 0)))) (aq (aa 1)) aK)
  (aj (aH (aC (ah az (aa 2) (aD 0 eV (aa 0) (ai (aa 1) af)))) (aq (ae (.int 0))) aK)
  (aj (aw 3 (aD 0 eX (aa 0) (ai (aa 1) af)))
  (aj (aH (aC (ah az (ah ao (aa 3) (ae (.int 0))) (ae (.str "leaf")))) (aq (aD 0 eC (aa 0) (ai (bT (ah ao (aa 3) (ae (.int 1))) (some (aa 2)) none) af))) aK)
  (aj (aw 4 (aD 0 eV (aa 0) (ai (ah ao (aa 3) (ae (.int 1))) af)))
  (aj (aH (aC (ah jY (aa 2) (aa 4))) (aq (au G (ai (aa 0) (ai (ah ao (aa 3) (ae (.int 2))) (ai (ah bN (aa 2) (aa 4)) af))))) aK)
  (aq (au bW (ai (aa 0) (ai (au G (ai (aa 0) (ai (ah ao (aa 3) (ae (.int 1))) (ai (aa 2) af)))) (ai (ah ao (aa 3) (ae (.int 2))) af)))))))))))
def dG:Nat->Fn
 |0=>ay 3 5 (λ_ _=>.bad)
 |d+1=>lO (dG d)
def pC:Fn:=ay 4 6
  (aj (aw 4 (ah aB (aD 0 eV (aa 0) (ai (aa 1) af)) (aD 0 eV (aa 0) (ai (aa 3) af))))
  (aj (bp (au rO (ai (aa 0) (ai (aa 1) (ai (aa 2) af)))))
  (aj (bp (au nz (ai (aa 4) af)))
  (aj (aw 5 (au bW (ai (aa 0) (ai (au (dF 90) (ai (aa 0) (ai (aa 1) (ai (aa 2) af)))) (ai (aa 3) af)))))
  (aq (au bW (ai (aa 0) (ai (aa 5) (ai (au (dG 90) (ai (aa 0) (ai (aa 1) (ai (aa 2) af)))) af)))))))))
def pD:Fn:=ay 4 4
  (bp (aD 1 dO (aa 0) (ai (aa 1) (ai (au pC (ai (Sm.sFld 1 0 (aa 0)) (ai (aD 1 cO (aa 0) (ai (aa 1) af)) (ai (aa 2) (ai (aD 1 cO (aa 0) (ai (aa 3) af)) af))))) af))))
def rP:Fn:=ay 4 5
  (aj (aw 4 (aD 0 eV (aa 0) (ai (aa 1) af)))
  (aH (cG (aC (k9 aY aY aY (ae (.int 0)) (aa 2) (aa 3) (aa 4)))) iJ aK))
def pE:Fn:=ay 4 4
  (aj (bp (au rP (ai (aa 0) (ai (aa 1) (ai (aa 2) (ai (aa 3) af))))))
  (aq (au bW (ai (aa 0) (ai (au (dF 90) (ai (aa 0) (ai (aa 1) (ai (aa 2) af)))) (ai (au (dG 90) (ai (aa 0) (ai (aa 1) (ai (aa 3) af)))) af))))))
def pF:Fn:=ay 4 4
  (bp (aD 1 dO (aa 0) (ai (aa 1) (ai (au pE (ai (Sm.sFld 1 0 (aa 0)) (ai (aD 1 cO (aa 0) (ai (aa 1) af)) (ai (aa 2) (ai (aa 3) af))))) af))))
def rQ(G:Fn):Fn:=ay 3 5
  (aj (aH (aC (ah az (aa 2) (ae (.int 0)))) (aq (ae (.int 0))) aK)
  (aj (aw 3 (au G (ai (aa 0) (ai (aa 1) (ai (ah cQ (aa 2) (ae (.int 2))) af)))))
  (aj (aw 4 (au bW (ai (aa 0) (ai (aa 3) (ai (aa 3) af)))))
  (aj (aH (aC (ah az (ah bH (aa 2) (ae (.int 2))) (ae (.int 0)))) (aq (aa 4)) aK)
  (aq (au bW (ai (aa 0) (ai (aa 4) (ai (aa 1) af)))))))))
def fN:Nat->Fn
 |0=>ay 3 5 (λ_ _=>.bad)
 |d+1=>rQ (fN d)
def j8:Fn:=ay 3 4
  (aj (aw 3 (aD 0 eV (aa 0) (ai (aa 1) af)))
  (aj (aH (aC (ah fq (aa 2) (ae (.int 0)))) iJ aK)
  (aj (bp (au nz (ai (ah bq (aa 3) (aa 2)) af)))
  (aj (aH (aC (ah az (aa 1) (ae (.int 0)))) (aq (ae (.int 0))) aK)
  (aq (au (fN 64) (ai (aa 0) (ai (aa 1) (ai (aa 2) af)))))))))
def lP:Fn:=ay 3 3
  (bp (aD 1 dO (aa 0) (ai (aa 1) (ai (au j8 (ai (Sm.sFld 1 0 (aa 0)) (ai (aD 1 cO (aa 0) (ai (aa 1) af)) (ai (aa 2) af)))) af))))
def lQ:Fn:=ay 2 2
  (aj (bp (aD 1 cO (aa 0) (ai (aa 1) af)))
  (bp (aD 1 dO (aa 0) (ai (aa 1) (ai (ae .non) af)))))
def j9:Fn:=ay 1 2
  (aj (aH (aC (ah az (Sm.sFld 1 3 (aa 0)) (aM af))) (kN 2 (ai (ae (.str "there is no deed to do again")) af)) aK)
  (aj (aw 1 (gi aZ bz (Sm.sFld 1 3 (aa 0))))
  (aj (bp (dZ aZ bP (Sm.sFld 1 2 (aa 0)) (ai (aa 1) af)))
  (bp (aD 1 iM (aa 0) (ai (ah ao (aa 1) (ae (.int 0))) (ai (ah ao (aa 1) (ae (.int 2))) af)))))))
def eE:Fn:=ay 2 2
  (aj (aH (aC (ah az (ah ao (aa 1) (ae (.int 0))) (ae (.str "give")))) (aq (aD 1 lJ (aa 0) (ai (ah ao (aa 1) (ae (.int 1))) (ai (ah ao (aa 1) (ae (.int 2))) af)))) aK)
  (aj (aH (aC (ah az (ah ao (aa 1) (ae (.int 0))) (ae (.str "copy_of")))) (aq (aD 1 pj (aa 0) (ai (ah ao (aa 1) (ae (.int 1))) (ai (ah ao (aa 1) (ae (.int 2))) af)))) aK)
  (aj (aH (aC (ah az (ah ao (aa 1) (ae (.int 0))) (ae (.str "join_to")))) (aq (aD 1 pB (aa 0) (ai (ah ao (aa 1) (ae (.int 1))) (ai (ah ao (aa 1) (ae (.int 2))) af)))) aK)
  (aj (aH (aC (ah az (ah ao (aa 1) (ae (.int 0))) (ae (.str "put_into")))) (aq (aD 1 pD (aa 0) (ai (ah ao (aa 1) (ae (.int 1))) (ai (ah ao (aa 1) (ae (.int 2))) (ai (ah ao (aa 1) (ae (.int 3))) af))))) aK)
  (aj (aH (aC (ah az (ah ao (aa 1) (ae (.int 0))) (ae (.str "take_from")))) (aq (aD 1 pF (aa 0) (ai (ah ao (aa 1) (ae (.int 1))) (ai (ah ao (aa 1) (ae (.int 2))) (ai (ah ao (aa 1) (ae (.int 3))) af))))) aK)
  (aj (aH (aC (ah az (ah ao (aa 1) (ae (.int 0))) (ae (.str "repeat")))) (aq (aD 1 lP (aa 0) (ai (ah ao (aa 1) (ae (.int 1))) (ai (ah ao (aa 1) (ae (.int 2))) af)))) aK)
  (aj (aH (aC (ah az (ah ao (aa 1) (ae (.int 0))) (ae (.str "drop")))) (aq (aD 1 lQ (aa 0) (ai (ah ao (aa 1) (ae (.int 1))) af))) aK)
  (aj (aH (aC (ah az (ah ao (aa 1) (ae (.int 0))) (ae (.str "again")))) (aq (aD 1 j9 (aa 0) af)) aK)
  (aq (aD 1 j5 (aa 0) af))))))))))
def cx:Fn:=ay 2 4
  (aj (aw 2 (ae (.str "other")))
  (aj (lD 3 (λc=>oW c || rE c) (λc=>vE c || vG c) vF (aH (aC (ah jo (au eE (ai (aa 0) (ai (aa 1) af))) (ae .non))) (aw 2 (ae (.str ""))) aK) (aw 2 (ah ao (aM (ai (ae (.str "NoName")) (ai (ae (.str "NoText")) af))) (au bC (ai (kQ rD (aa 3)) af)))) iJ (aw 2 (ae (.str "NothingDone"))))
  (aq (aa 2))))
def iw:Fn:=ay 1 1
  (aq (au lB (ai (Sm.sFld 1 1 (aa 0)) af)))
def fW:Fn:=ay 1 1
  (aq (fD [0] (dU (aD 1 iw (aa 0) af)) bx (aG (ai (aa 0) (ai (aD 1 cO (aa 1) (ai (aa 0) af)) af)))))
def lR:SS :=aj (qG (.tup [5,6,7]) (au oX (ai (au iK (ai (aM (ai (aa 4) (ai (aa 3) af))) (ai (ae (.int 0)) af))) (ai (ah ao (ah ao (aa 2) (bZ bh (ae (.int 1)))) (ae (.int 0))) af))))
  (aH (aC (ah az (aa 6) (ae (.str "")))) (aj (aH (aC (ah bS (au cx (ai (aa 0) (ai (aa 5) af))) (ae (.str "")))) (aq (ae (.bl false))) aK)
  (bp (dZ aZ bP (aa 2) (ai (aG (ai (aa 7) (ai (au fW (ai (aa 0) af)) af))) af)))) aK)
def nA:Fn:=ay 3 8
  (aj (cR (Sm.iEnum (aa 1)) (.tup [3,4]) lR)
  (aq (ae (.bl true))))
def lS(G:Fn):Fn:=ay 2 3
  (aj (aH (aC (ah az (aa 1) (ae (.int 0)))) (aq (ae (.str ""))) aK)
  (aj (aw 2 (aD 0 eX (aa 0) (ai (aa 1) af)))
  (aj (aH (aC (ah az (ah ao (aa 2) (ae (.int 0))) (ae (.str "leaf")))) (aq (ah ao (aa 2) (ae (.int 1)))) aK)
  (aq (ah aB (au G (ai (aa 0) (ai (ah ao (aa 2) (ae (.int 1))) af))) (au G (ai (aa 0) (ai (ah ao (aa 2) (ae (.int 2))) af))))))))
def gI:Nat->Fn
 |0=>ay 2 3 (λ_ _=>.bad)
 |d+1=>lS (gI d)
def nB:Fn:=ay 1 1
  (aq (Sm.sFld 1 0 (aa 0)))
def lT:Fn:=ay 2 2
  (aj (aH (aC (ah bS (aD 1 iw (aa 0) af) (g8 (aa 1)))) (aq (ae (.bl false))) aK)
  (aq (au eQ (ai (lF [0,1] 1 bx (ah az (au (gI 90) (ai (aD 1 nB (aa 1) af) (ai (aD 1 cO (aa 1) (ai (aa 0) af)) af))) (ah hJ (aa 2) (aa 0)))) af))))
def nC:SS :=aj (aH (aC (ah bS (au cx (ai (aa 1) (ai (aG (ai (ae (.str "back")) af)) af))) (ae (.str "")))) (aq (ae (.bl false))) aK)
  (bp (dZ aZ bP (aa 5) (ai (gi aZ bz (aa 2)) af)))
def nE:SS :=aj (aH (aC (ah bS (au cx (ai (aa 1) (ai (aG (ai (ae (.str "again")) af)) af))) (ae (.str "")))) (aq (ae (.bl false))) aK)
  (aj (bp (dZ aZ bP (aa 2) (ai (gi aZ bz (aa 5)) af)))
  (aH (aC (ah bS (au fW (ai (aa 1) af)) (ah ao (ah ao (aa 2) (bZ bh (ae (.int 1)))) (ae (.int 1))))) (aq (ae (.bl false))) aK))
def nF:SS :=aj (aH (jZ (aC (ah bS (au fW (ai (aa 1) af)) (ah ao (ah ao (aa 2) (bZ bh (ae (.int 1)))) (ae (.int 1))))) (cG (gA (au lT (ai (aa 1) (ai (ah ao (ah ao (aa 2) (bZ bh (ae (.int 1)))) (ae (.int 0))) af)))))) (aq (ae (.bl false))) aK)
  (aj (bp (gi aZ bz (aa 2)))
  (aH (aC (ah bS (au cx (ai (aa 1) (ai (aG (ai (ae (.str "back")) af)) af))) (ae (.str "")))) (aq (ae (.bl false))) aK))
def vK:Fn:=ay 1 10
  (aj (aw 1 (mJ 1 4 m8 af))
  (aj (aw 2 (gb (ai (aG (ai (fo false) (ai (aM af) af))) af)))
  (aj (aH (cG (gA (au nA (ai (aa 1) (ai (ah aB (bT (aa 0) none (some (ae (.int 20)))) (aM (ai (ae (.int 0)) (ai (ae (.int 1)) (ai (ae (.int 2)) af))))) (ai (aa 2) af)))))) (aq (ae (.bl false))) aK)
  (aj (aw 3 (au iK (ai (aa 0) (ai (ae (.int 1)) af))))
  (aj (aw 4 (au aQ (ai (aa 3) (ai (au aI (ai (aa 2) af)) af))))
  (aj (aw 5 (gb af))
  (aj (cR (ju (aa 4)) (.nm 6) nC)
  (aj (aH (jZ (aC (ah bS (au cx (ai (aa 1) (ai (aG (ai (ae (.str "drop")) (ai (ae (.str "none")) af))) af))) (ae (.str "NoName")))) (aC (ah bS (au cx (ai (aa 1) (ai (aG (ai (ae (.str "give")) (ai (ae (.str "a")) (ai (ae (.str "\t")) af)))) af))) (ae (.str "NoText"))))) (aq (ae (.bl false))) aK)
  (aj (cR (ju (au aQ (ai (aa 3) (ai (ah aB (aa 4) (ae (.int 1))) af)))) (.nm 6) nE)
  (aj (aw 7 (au ip (ai (ah ao (ah ao (aa 2) (bZ bh (ae (.int 1)))) (ae (.int 0))) af)))
  (aj (aw 8 (aG (ai (ae (.str "give")) (ai (ae (.str "other")) (ai (au iL (ai (aa 3) (ai (ae (.int 20)) af))) af)))))
  (aj (aH (dS (aC (ah hU (aa 7) (fo false))) (aC (ah az (au aQ (ai (aa 3) (ai (ae (.int 3)) af))) (ae (.int 0))))) (aj (aw 9 (ah ao (g8 (aa 7)) (ae (.int 0))))
  (aw 8 (ah ao (aM (ai (aG (ai (ae (.str "copy_of")) (ai (aa 9) (ai (aa 9) af)))) (ai (aG (ai (ae (.str "repeat")) (ai (aa 9) (ai (ae (.int 1)) af)))) (ai (aG (ai (ae (.str "take_from")) (ai (aa 9) (ai (ae (.int 0)) (ai (ae (.int 0)) af))))) af)))) (au aQ (ai (aa 3) (ai (ae (.int 3)) af)))))) (fw (aa 7) (ae (.str "other")) (ah ao (aa 8) (ae (.int 2)))))
  (aj (aH (aC (ah bS (au cx (ai (aa 1) (ai (aa 8) af))) (ae (.str "")))) (aq (ae (.bl false))) aK)
  (aj (bp (dZ aZ bP (aa 2) (ai (aG (ai (aa 7) (ai (au fW (ai (aa 1) af)) af))) af)))
  (aj (aH (jZ (aC (ah bS (au cx (ai (aa 1) (ai (aG (ai (ae (.str "again")) af)) af))) (ae (.str "NothingDone")))) (cG (gA (au nA (ai (aa 1) (ai (bT (aa 0) (some (ae (.int 20))) (some (ae (.int 40)))) (ai (aa 2) af))))))) (aq (ae (.bl false))) aK)
  (aj (ig (aC (ah dN (au aI (ai (aa 2) af)) (ae (.int 1)))) nF rm)
  (aq (jr (ah az (aD 1 iw (aa 1) af) (aM af)) (ah az (au cx (ai (aa 1) (ai (aG (ai (ae (.str "back")) af)) af))) (ae (.str "NothingDone")))))))))))))))))))))
end
end Sk
set_option exponentiation.threshold 2000
namespace Sk
open PySem PySem.Spec L2 Sm
theorem Ac{w:Option Nat}{all:List AV}{t:Tg}{b:SS}(P:Nat->En->AH->Prop):∀ (xs:List AV) (i:Nat) (en:En) (h:AH),P i en h ->
  (∀ i en h,P i en h->gB w all h=true) ->
  (∀ (j:Nat) (x:AV) (en:En) (h:AH),xs[j]?=some x->P (i+j) en h->∃ e1 e2 h2,fC t x en=some e1/\(b e1 h=.nx e2 h2\/b e1 h=.ct e2 h2)/\P (i+j+1) e2 h2) ->
  ∃ e' h',gT w all t b xs en h=.nx e' h'/\P (i+xs.length) e' h'
 |[],i,en,h,p,lv,_=>⟨en,h,by unfold gT;rw[Of (lv _ _ _ p)],p⟩
 |x::xs,i,en,h,p,lv,s=>by
  obtain⟨e1,e2,h2,q1,q2,q3⟩:=s 0 x en h rfl p;obtain⟨e',h',r1,r2⟩:=Ac P xs (i+1) e2 h2 q3 lv λj y en h e q=>by
   have:=s (j+1) y en h (by simpa using e) (by rw[show i+(j+1)=i+1+j by lia];exact q)
   rw[show i+(j+1)+1=i+1+j+1 by lia] at this;exact this
  refine⟨e',h',?_,by rw[O3,show i+(xs.length+1)=i+1+xs.length by lia];exact r2⟩
  unfold gT;rw[Of (lv _ _ _ p)];simp only[q1]
  rcases q2 with q2|q2
  ·rw[q2];exact r1
  ·rw[q2];exact r1
theorem vL{α:Type}{js:List Nat}{en:En}{w:Option Nat}{all:List AV}{c:SB}{e:SE}{g f:α->AV}{p:α->Bool}{h:AH}(lv:gB w all h=true):∀ (cs:List α) (ys:List AV),(∀ x∈cs,c (some (g x)::js.map λj=>(en[j]?).join) h=.ok (p x) h)->(∀ x∈cs,p x=true->e (some (g x)::js.map λj=>(en[j]?).join) h=.ok (f x) h)->ys.length+cs.length<=sizeLine ->
  eP js en w all c e (cs.map g) ys h=.ok (ys++(cs.filter p).map f) h
 |[],ys,_,_,_=>by rw[P5];unfold eP;rw[Of lv];simp
 |x::xs,ys,hc,he,hl=>by
  have hl':ys.length<sizeLine:=by simp at hl;lia
  rw[Ot];unfold eP
  rw[Of ⟨lv,hl'⟩,hc x 's']
  cases hp:p x with
  |false =>
   dsimp only;rw[vL lv xs ys (λy hy=>hc y (by simp[hy])) (λy hy=>he y (by simp[hy])) (by simp at hl ⊢;lia)]
   simp[PJ,hp]
  |true =>
   dsimp only;rw[he x 's' hp]
   dsimp only;rw[vL lv xs (ys++[f x]) (λy hy=>hc y (by simp[hy])) (λy hy=>he y (by simp[hy])) (by simp at hl ⊢;lia)]
   simp[PJ,hp]
variable{α:Type}{en:En}{h h1 h' h2 hh:AH}
def J4{js:List Nat}{w:Option Nat}{all:List AV}{e:SE}{g f:α->AV}(lv:gB w all h=true)(cs:List α)(ys:List AV)(he:∀ x∈cs,e (some (g x)::js.map λj=>(en[j]?).join) h=.ok (f x) h)(hl:ys.length+cs.length<=sizeLine) :
  eP js en w all bx e (cs.map g) ys h=.ok (ys++cs.map f) h:=by
 rw[vL (p:=λ_=>true) lv cs ys (λ_ _=>rfl) (λx hx _=>he x hx) hl,List.filter_eq_self.mpr (λ_ _=>rfl)]
theorem Ad{c:SB}{b:SS}(P:Nat->En->AH->Prop)(Q:En->AH->Prop):∀ (fuel n:Nat) (en:En) (h:AH),P n en h->n<fuel ->
  (∀ n en h,P n en h->(∃ h1,c en h=.ok false h1/\Q en h1)\/(∃ n' h1 e2 h2,n'<n/\c en h=.ok true h1/\(b en h1=.nx e2 h2\/b en h1=.ct e2 h2)/\P n' e2 h2)) ->
  ∃ e' h',ig c b fuel en h=.nx e' h'/\Q e' h'
 |0,n,en,h,_,l,_=>absurd l (Pg _)
 |fuel+1,n,en,h,p,l,s=>by
  rcases s n en h p with⟨h1,q1,q2⟩|⟨n',h1,e2,h2,q0,q1,q2,q3⟩
  ·refine⟨en,h1,?_,q2⟩
   unfold ig;rw[q1]
  ·obtain⟨e',h',r1,r2⟩:=Ad P Q fuel n' e2 h2 q3 ⋯ s
   refine⟨e',h',?_,r2⟩
   unfold ig;rw[q1]
   rcases q2 with q2|q2
   ·simp only[q2];exact r1
   ·simp only[q2];exact r1
@[simp] def thn(o:OutS)(Q:En->AH->Prop):Prop:=match o with
 |.nx e h=>Q e h
 |.ct e h=>Q e h
 |_=>False
def Ae{o:OutS}{Q:En->AH->Prop}(t:thn o Q):∃ e h,(o=.nx e h\/o=.ct e h)/\Q e h:=by
 cases o with
 |nx e h=>exact⟨e,h,.inl rfl,t⟩
 |ct e h=>exact⟨e,h,.inr rfl,t⟩
 |_=>exact t.elim
@[simp] def J5(o:Option En)(Q:En->Prop):Prop:=match o with
 |some e=>Q e
 |none=>False
variable{xs:List AV}
def nG{w:Option Nat}{all:List AV}{t:Tg}{b:SS}(P:Nat->En->AH->Prop)(p0:P 0 en h)(lv:∀ i en h,P i en h->gB w all h=true)(st:∀ (j:Nat) (x:AV) (en:En) (h:AH),xs[j]?=some x->P j en h->J5 (fC t x en) λe1=>thn (b e1 h) (P (j+1))) :
  ∃ e' h',gT w all t b xs en h=.nx e' h'/\P xs.length e' h':=by
 have:=Ac (w:=w) (all:=all) (t:=t) (b:=b) P xs 0 en h p0 lv λj x en h hx hp=>by
  have q:=st j x en h hx (by simpa using hp)
  cases z:fC t x en with
  |none=>rw[z] at q;exact q.elim
  |some e1 =>
   rw[z] at q;obtain⟨e,h2,a,c⟩:=Ae q
   exact⟨e1,e,h2,rfl,a,by simpa using c⟩
 simpa using this
variable{n e b c a i j p d r k2 k1 n1 L hb K D:Nat}
def J6{c:SB}{b:SS}{fuel:Nat}(P:Nat->En->AH->Prop)(Q:En->AH->Prop)(p0:P n en h)(hn:n<fuel)(st:∀ n en h,P n en h->match c en h with
   |.ok true h1=>thn (b en h1) λe2 h2=>∃ n',n'<n/\P n' e2 h2
   |.ok false h1=>Q en h1
   |_=>False) :
  ∃ e' h',ig c b fuel en h=.nx e' h'/\Q e' h':=by
 refine Ad P Q fuel n en h p0 hn λn en h p=>?_
 have q:=st n en h p
 cases z:c en h with
 |ok x h1 =>
  rw[z] at q
  cases x with
  |true =>
   obtain⟨e,h2,a,n',l,c⟩:=Ae q;exact .inr ⟨n',h1,e,h2,l,rfl,a,c⟩
  |false=>exact .inl ⟨h1,rfl,q⟩
 |ex _ _=>rw[z] at q;exact q.elim
 |bad=>rw[z] at q;exact q.elim
@[simp] def J7(o:Out AV)(Q:AV->AH->Prop):Prop:=match o with
 |.ok v h=>Q v h
 |_=>False
theorem Af{js:List Nat}{en:En}{all:List AV}{e:SE}(P:Nat->List AV->AH->Prop):∀ (xs ys:List AV) (i:Nat) (h:AH),P i ys h ->
  (∀ j x ys h,xs[j]?=some x->P (i+j) ys h->∃ v h2,e (some x::js.map λj=>(en[j]?).join) h=.ok v h2/\P (i+j+1) (ys++[v]) h2)->ys.length+xs.length<=sizeLine ->
  ∃ zs h',eP js en none all bx e xs ys h=.ok zs h'/\P (i+xs.length) zs h'
 |[],ys,i,h,p,_,_=>⟨ys,h,by simp[eP],p⟩
 |x::xs,ys,i,h,p,s,hl=>by
  obtain⟨v,h2,q1,q2⟩:=s 0 x ys h rfl p;obtain⟨zs,h',r1,r2⟩:=Af P xs (ys++[v]) (i+1) h2 q2 (λj y ys h hy hp=>by
   have:=s (j+1) y ys h (by simpa using hy) (by rw[show i+(j+1)=i+1+j by lia];exact hp)
   rw[show i+(j+1)+1=i+1+j+1 by lia] at this;exact this) (by simp at hl ⊢;lia)
  refine⟨zs,h',?_,by rw[O3,show i+(xs.length+1)=i+1+xs.length by lia];exact r2⟩
  unfold eP;rw[Of ⟨rfl,by simp at hl;lia⟩];simp only[bx]
  rw[q1];exact r1
def J8{js:List Nat}{all:List AV}{e:SE}(P:Nat->List AV->AH->Prop)(p0:P 0 [] h)(st:∀ j x ys h,xs[j]?=some x->P j ys h->J7 (e (some x::js.map λj=>(en[j]?).join) h) λv h2=>P (j+1) (ys++[v]) h2)(hl:xs.length<=sizeLine) :
  ∃ zs h',eP js en none all bx e xs [] h=.ok zs h'/\P xs.length zs h':=by
 have:=Af (js:=js) (en:=en) (all:=all) (e:=e) P xs [] 0 h p0 (λj x ys h hx p=>by
  have q:=st j x ys h hx (by simpa using p)
  cases z:e (some x::js.map λj=>(en[j]?).join) h with
  |ok v h2=>rw[z] at q;exact⟨v,h2,rfl,by simpa using q⟩
  |ex _ _=>rw[z] at q;exact q.elim
  |bad=>rw[z] at q;exact q.elim) (by simpa using hl)
 simpa using this
theorem Ag:∀ (n:Nat) (lo:Int) (i:Nat),(dz lo n)[i]?=if i<n then some (.int (lo+i)) else none
 |0,lo,i=>by simp[dz]
 |n+1,lo,0=>by simp[dz]
 |n+1,lo,i+1=>by
  unfold dz;rw[Rv,Ag n (lo+1) i];by_cases q:i<n
  ·rw[Of q,Of ⋯];congr 2;lia
  ·rw[Og q,Og ⋯]
theorem lU:∀ (n:Nat) (lo:Int),(dz lo n).length=n
 |0,_=>rfl
 |n+1,lo=>by unfold dz;rw[O3,lU n]
def rR{a:SE}(e:a en h=.ok (.int n) h1)(hn:n<=10000000):ju a en h=.ok (dz 0 n,none) h1:=by
 have h1':(n:Int).natAbs<2 ^ 62:=by lia
 simp only[ju,e,Out.bind]
 rw[Of h1'];rfl
def nH{it:SI}{t:Tg}{b:SS}{w:Option Nat}(e:it en h=.ok (xs,w) h1):cR it t b en h=gT w xs t b xs en h1:=by simp only[cR,e]
def J9{i j:Int}(hi:i.natAbs<2 ^ 64):bq (.int i) (.int j) h=.ok (.int (i*j)) h:=(Of (.inl (.inl hi)))
def Ah{i j:Int}(hj:j.natAbs<2 ^ 64):bq (.int i) (.int j) h=.ok (.int (i*j)) h:=(Of (.inl (.inr hj)))
def Ka{f:α->AV}{l:List α}{q:α}(e:l[j]?=some q):atI (l.map f) (j:Int)=some (f q):=(mH (by simp[e]))
end Sk
set_option exponentiation.threshold 5000
namespace Sk
open PySem PySem.Spec L2 Sm
def nI(c:Nat):Bool:=decide (c=10) || (decide (32<=c) && decide (c<=126))
def Ai(a b:Nat):([a]<[b]) ↔ a<b:=by
 simp[List.cons_lt_cons_iff]
def Aj:(Str.ofString "\n")=⟨#[10]⟩:=by decide +kernel
def Kb:(Str.ofString " ")=⟨#[32]⟩:=by decide +kernel
def Kc:(Str.ofString "~")=⟨#[126]⟩:=by decide +kernel
def Kd(c:Nat)(h:AH):pf [.str ⟨#[c]⟩] h=.ok (.bl (nI c)) h:=by
 simp[pf,Aj,Kb,Kc,Ai,nI]
 by_cases h1:c=10
 ·simp[h1]
 ·by_cases h2:c<32
  ·have:¬ 32<=c:=by lia
   simp[h1,h2,this]
  ·have h3:32<=c:=by lia
   by_cases h4:c<=126
   ·have:¬ 126<c:=by lia
    simp[h1,h2,h3,h4,this]
   ·have:126<c:=by lia
    simp[h1,h2,h3,h4,this]
theorem rS{α:Type}{js:List Nat}{en:En}{all:List AV}{e:SE}{g f:α->AV}{h:AH}:∀ (cs:List α) (ys:List AV),(∀ c∈cs,e (some (g c)::js.map λj=>(en[j]?).join) h=.ok (f c) h)->ys.length+cs.length<=sizeLine->eP js en none all bx e (cs.map g) ys h=.ok (ys++cs.map f) h
 |[],ys,_,_=>by simp[eP]
 |x::xs,ys,he,hl=>by
  have hl':ys.length<sizeLine:=by simp at hl;lia
  rw[Ot];unfold eP
  rw[Of ⟨rfl,hl'⟩];simp only[bx]
  rw[he x 's'];dsimp only;rw[rS xs (ys++[f x]) (λy hy=>he y (by simp[hy])) (by simp at hl ⊢;lia)]
  simp
theorem vM(f:Nat->Bool):∀ cs:List Nat,kP (cs.map λc=>.bl (f c))=some (cs.map f)
 |[]=>rfl
 |c::cs=>by simp[vM f cs]
def bQ(x:Str):Bool:=x.cps.toList.all nI
def vN(x:Str)(h:AH)(hl:x.length<=sizeLine):lI [.str x] h=.ok (.bl (bQ x)) h:=by
 have e:=rS (js:=[]) (en:=[some (.str x)]) (all:=x.cps.toList.map λc=>AV.str ⟨#[c]⟩) (e:=au pf (ai (aa 0) af)) (g:=λc=>AV.str ⟨#[c]⟩) (f:=λc=>AV.bl (nI c)) (h:=h) x.cps.toList [] (by
  intro c hc;simp[Kd]) (by simp;exact hl)
 simp only[P8] at e
 simp[lI]
 rw[e];simp[vM,bQ]
def fX(x:Str):Bool:=bQ x && (decide (1<=x.length) && decide (x.length<=8))
def Ak(x:Str)(h:AH)(hl:x.length<=sizeLine):rJ [.str x] h=.ok (.bl (fX x)) h:=by
 simp[rJ,vN x h hl,fX]
 by_cases h1:bQ x=true
 ·by_cases h2:1<=x.length
  ·have:(1:Int)<=x.length:=by lia
   by_cases h3:x.length<=8
   ·have:(x.length:Int)<=8:=by lia
    simp[*]
   ·have:¬ (x.length:Int)<=8:=by lia
    simp[*]
  ·have:¬ (1:Int)<=x.length:=by lia
   simp[*]
 ·simp[h1]
def jG(x:Str):Nat:=(Builtin.Str.occurrences x ⟨#[10]⟩ 0 x.length (x.length+1)).length
def Ke(x:Str)(h:AH):rK [.str x] h=.ok (.int (jG x)) h:=by
 simp[rK,Aj,jG]
def Kf(i:Int)(h:AH):rG [.int i] h=.ok (.bl true) h:=by
 simp[rG]
inductive Pc where
 |leaf (x:Str)
 |fork (a b:Nat)
 deriving DecidableEq
def Pc.av:Pc->AV
 |.leaf x=>.tup [.str "leaf",.str x]
 |.fork a b=>.tup [.str "fork",.int a,.int b]
theorem Pc.av_inj:∀ {p q:Pc},p.av=q.av->p=q
 |.leaf x,.leaf y,e=>by simp[Pc.av] at e;rw[e]
 |.leaf x,.fork a b,e=>by simp[Pc.av] at e
 |.fork a b,.leaf x,e=>by simp[Pc.av] at e
 |.fork a b,.fork c d,e=>by simp[Pc.av] at e;rw[Int.ofNat.inj e.1,Int.ofNat.inj e.2]
structure Ms where
 sg:Nat
 en:Nat
 lv:Nat
 ht:Int
 fl:Nat
 ll:Nat
def ms0:Ms:=⟨0,0,0,-1,0,0⟩
def iP(ms:List Ms):Pc->Ms
 |.leaf x=>⟨x.length,jG x,1,0,ms.length,ms.length⟩
 |.fork a b=>⟨(ms.getD a ms0).sg+(ms.getD b ms0).sg,(ms.getD a ms0).en+(ms.getD b ms0).en,(ms.getD a ms0).lv+(ms.getD b ms0).lv,max (ms.getD a ms0).ht (ms.getD b ms0).ht+1,(ms.getD a ms0).fl,(ms.getD b ms0).ll⟩
def meas(ps:List Pc):List Ms:=ps.foldl (λms q=>ms++[iP ms q]) [ms0]
def vO(ps:List Pc)(q:Pc):meas (ps++[q])=meas ps++[iP (meas ps) q]:=by simp[meas]
def fy:∀ ps:List Pc,(meas ps).length=ps.length+1:=by
 have all:∀ (ps:List Pc) (ms:List Ms),(ps.foldl (λms q=>ms++[iP ms q]) ms).length=ms.length+ps.length:=by
  intro ps;induction ps with
  |nil=>intro ms;rfl
  |cons q r ih=>intro ms;rw[RP,ih];simp;lia
 intro ps;rw[meas,all];simp;lia
def gv(k:Nat):List Pc->List (AV×AV)
 |[]=>[]
 |q::r=>(q.av,.int k)::gv (k+1) r
def eY(ps:List Pc):List (AV×AV):=gv 1 ps
theorem rT(q:Pc):∀ (ps:List Pc) (k:Nat),gv k (ps++[q])=gv k ps++[(q.av,.int ((k+ps.length:Nat):Int))]
 |[],k=>by simp[gv]
 |p::r,k=>by
  simp only[List.cons_append,gv,rT q r (k+1)]
  rw[show k+1+r.length=k+(p::r).length by simp;lia]
theorem Al:∀ (ps:List Pc) (k:Nat),(gv k ps).length=ps.length
 |[],_=>rfl
 |p::r,k=>by simp[gv,Al r]
theorem rV{q:Pc}:∀ {ps:List Pc} {k:Nat},q∉ps->aU (gv k ps) q.av=none
 |[],k,_=>rfl
 |p::r,k,h=>by
  have h1:¬ p.av=q.av:=λe=>h (by rw[Pc.av_inj e];simp)
  have h2:=rV (q:=q) (ps:=r) (k:=k+1) λz=>h (by simp[z])
  unfold aU at h2 ⊢
  simp only[gv,O2,OB h1]
  exact h2
theorem vP{q:Pc}:∀ {ps:List Pc} {k i:Nat},ps.Nodup->ps[i]?=some q->aU (gv k ps) q.av=some (.int ((k+i:Nat):Int))
 |[],k,i,_,e=>by simp at e
 |p::r,k,0,n,e=>by simp at e;subst e;simp[aU,gv]
 |p::r,k,i+1,n,e=>by
  simp at e
  have h1:¬ p.av=q.av:=λz=>(O1.mp n).1 (by rw[Pc.av_inj z];exact OE e)
  have h2:=vP (q:=q) (k:=k+1) (O1.mp n).2 e;unfold aU at h2 ⊢
  simp only[gv,O2,OB h1]
  rw[h2];congr 3
  lia
variable{q:Pc}{ps ps' ps1:List Pc}
def Kg(h:q∉ps):d9 (eY ps) q.av (.int ((ps.length+1:Nat):Int))=eY (ps++[q]):=by
 unfold d9;rw[uZ,eY,rV h,eY,rT];simp[Qj]
structure ShelfAt(h:AH)(p:Nat)(ps:List Pc):Prop where
 ob:h[p]?=some (.ins 0 [some (.ref (p+1)),some (.ref (p+2)),some (.ref (p+3)),some (.ref (p+4)),some (.ref (p+5)),some (.ref (p+6)),some (.ref (p+7)),some (.ref (p+8))])
 h1:h[p+1]?=some (.lst (ps.map Pc.av))
 h2:h[p+2]?=some (.dct true (eY ps))
 h3:h[p+3]?=some (.lst ((meas ps).map λm=>.int m.sg))
 h4:h[p+4]?=some (.lst ((meas ps).map λm=>.int m.en))
 h5:h[p+5]?=some (.lst ((meas ps).map λm=>.int m.lv))
 h6:h[p+6]?=some (.lst ((meas ps).map λm=>.int m.ht))
 h7:h[p+7]?=some (.lst ((meas ps).map λm=>.int m.fl))
 h8:h[p+8]?=some (.lst ((meas ps).map λm=>.int m.ll))
def gJ(h:AH)(p:Nat)(ps:List Pc):AH :=
 (((((((h.set (p+1) (.lst (ps.map Pc.av))).set (p+2) (.dct true (eY ps))).set (p+3) (.lst ((meas ps).map λm=>.int m.sg))).set (p+4) (.lst ((meas ps).map λm=>.int m.en))).set (p+5) (.lst ((meas ps).map λm=>.int m.lv))).set
  (p+6) (.lst ((meas ps).map λm=>.int m.ht))).set (p+7) (.lst ((meas ps).map λm=>.int m.fl))).set (p+8) (.lst ((meas ps).map λm=>.int m.ll))
variable{h h1 h' h2 hh:AH}{i e b c n a j p d r k2 k1 n1 L hb K D:Nat}
def bK{o:AO}(e:h[i]?=some o):i<h.length:=((NZ.mp e).1)
def Am(h:AH)(p:Nat)(ps:List Pc):(gJ h p ps).length=h.length:=by simp[gJ]
def An{q:Nat}(hq:q<=p\/p+8<q):(gJ h p ps)[q]?=h[q]?:=by
 unfold gJ;repeat rw[N8 ⋯]
def rW(S:ShelfAt h p ps):ShelfAt (gJ h p ps') p ps':=by
 have b:=bK S.h8;have l1:p+1<h.length:=Ol (OD 'd' p) b;have l2:p+2<h.length:=Ol (OD 'd' p) b;have l3:p+3<h.length:=Ol (OD 'd' p) b;have l4:p+4<h.length:=Ol (OD 'd' p) b;have l5:p+5<h.length:=Ol (OD 'd' p) b;have l6:p+6<h.length:=Ol (OD 'd' p) b;have l7:p+7<h.length:=Ol (OD 'd' p) b;have ob:=S.ob;constructor<;>simp[gJ,Rc,l1,l2,l3,l4,l5,l6,l7,b,ob,-List.getElem?_eq_getElem]
variable{α:Type}
def vQ(l:List α)(f:α->AV):(l.map f).length=l.length:=by simp
def Kh{i:Int}(S:ShelfAt h p ps):rH [.ref p,.int i] h=.ok (.bl (decide (1<=i/\i<=ps.length))) h:=by
 simp[rH,Kf,S.ob,S.h1]
 by_cases h1:1<=i<;>simp[h1]
def rX{i:Int}(S:ShelfAt h p ps)(hi:1<=i/\i<=ps.length):lH [.ref p,.int i] h=.ok .non h:=by
 simp[lH,Kh S,S.ob,hi.1,hi.2]
def hW{f:α->AV}{l:List α}{q:α}(e:l[j]?=some q):atI (l.map f) (j:Int)=some (f q):=(mH (by simp[e]))
def Ki(S:ShelfAt h p ps)(e:ps[j]?=some q):eX [.ref p,.int ((j:Int)+1)] h=.ok q.av h:=by
 have hj:=(NZ.mp e).1;have h1:=rX S (i:=(j:Int)+1) ⟨by lia,by lia⟩;simp[eX,h1,S.ob,S.h1,hW e]
def Ao(S:ShelfAt h p ps)(hq:q∉ps)(hl:ps.length<16000000) :
  oZ [.ref p,q.av] h=.ok (.int ((ps.length+1:Nat):Int)) ((h.set (p+1) (.lst ((ps++[q]).map Pc.av))).set (p+2) (.dct true (eY (ps++[q])))):=by
 have b:=bK S.h8;have hs:ps.length<sizeLine:=QT hl 'd';have ht:(eY ps).length<sizeLine:=by rw[eY,Al];exact hs
 have hk:dW true q.av=true:=by cases q<;>simp[Pc.av]
 have e1:(h.set (p+1) (.lst (ps.map Pc.av++[q.av])))[p]?=h[p]?:=N8 ⋯;have e2:(h.set (p+1) (.lst (ps.map Pc.av++[q.av])))[p+1]?=some (.lst (ps.map Pc.av++[q.av])):=Ob ⋯;have e3:(h.set (p+1) (.lst (ps.map Pc.av++[q.av])))[p+2]?=h[p+2]?:=N8 ⋯;have tp:=Kg hq;simp[oZ,S.ob,S.h1,hs,e1,e2,e3,S.h2,hk,ht,-dW]
 rw[show ((ps.length:Int)+1)=((ps.length+1:Nat):Int) by simp,tp]
variable{x w y:Str}
def Kj(S:ShelfAt h p ps)(hq:Pc.leaf x∉ps)(hl:ps.length<16000000) :
  ph [.ref p,(Pc.leaf x).av] h=.ok .non (gJ h p (ps++[.leaf x])):=by
 have b:=bK S.h8;have hs:ps.length+1<sizeLine:=Ox (Nat.succ_lt_succ hl) 'd';have hm:(meas ps).length<sizeLine:=by rw[fy];exact hs
 have e:=Ao S hq hl;have b2:((meas ps).length:Int)=(ps.length:Int)+1:=by rw[fy];simp
 have e2:ao (Pc.leaf x).av (.int 1)=λh=>Out.ok (.str x) h:=by funext h;rfl
 have l1:p+1<h.length:=by lia
 have l2:p+2<h.length:=by lia
 have l3:p+3<h.length:=by lia
 have l4:p+4<h.length:=by lia
 have l5:p+5<h.length:=by lia
 have l6:p+6<h.length:=by lia
 have l7:p+7<h.length:=by lia
 simp[ph,e,S.ob,S.h3,S.h4,S.h5,S.h6,S.h7,S.h8,hm,Ke,Rc,vO,iP,gJ,e2,fy,hs,-ao,-List.getElem?_eq_getElem]
def Ap{l:List α}{d x:α}(e:l[i]?=some x):l.getD i d=x:=by simp[List.getD,e]
variable{ma mb f l la fb fa lb mc md:Ms}
def Kk(S:ShelfAt h p ps)(hq:Pc.fork a b∉ps)(hl:ps.length<16000000)(ha:(meas ps)[a]?=some ma)(hb:(meas ps)[b]?=some mb) :
  pe [.ref p,(Pc.fork a b).av] h=.ok .non (gJ h p (ps++[.fork a b])):=by
 have bb:=bK S.h8;have hs:ps.length+1<sizeLine:=Ox (Nat.succ_lt_succ hl) 'd';have hm:(meas ps).length<sizeLine:=by rw[fy];exact hs
 have e:=Ao S hq hl;have e2:ao (Pc.fork a b).av (.int 1)=λh=>Out.ok (.int a) h:=by funext h;rfl
 have e3:ao (Pc.fork a b).av (.int 2)=λh=>Out.ok (.int b) h:=by funext h;rfl
 have l1:p+1<h.length:=by lia
 have l2:p+2<h.length:=by lia
 have l3:p+3<h.length:=by lia
 have l4:p+4<h.length:=by lia
 have l5:p+5<h.length:=by lia
 have l6:p+6<h.length:=by lia
 have l7:p+7<h.length:=by lia
 have fx:∀ (n:Nat) (g:Ms->AV) (h':AH),h'[n]?=some (.lst ((meas ps).map g))->ao (.ref n) (.int a) h'=.ok (g ma) h'/\ao (.ref n) (.int b) h'=.ok (g mb) h':=λn g h' e=>by
  simp[ao,e,hW ha,hW hb]
 have f3:=λ(h':AH) (e:h'[p+3]?=some (.lst ((meas ps).map λm=>.int m.sg)))=>fx _ _ h' e
 have f4:=λ(h':AH) (e:h'[p+4]?=some (.lst ((meas ps).map λm=>.int m.en)))=>fx _ _ h' e
 have f5:=λ(h':AH) (e:h'[p+5]?=some (.lst ((meas ps).map λm=>.int m.lv)))=>fx _ _ h' e
 have f6:=λ(h':AH) (e:h'[p+6]?=some (.lst ((meas ps).map λm=>.int m.ht)))=>fx _ _ h' e
 have f7:=λ(h':AH) (e:h'[p+7]?=some (.lst ((meas ps).map λm=>.int m.fl)))=>fx _ _ h' e
 have f8:=λ(h':AH) (e:h'[p+8]?=some (.lst ((meas ps).map λm=>.int m.ll)))=>fx _ _ h' e
 have hmax:∀ i j:Int,(if j > i then j else i)=max i j:=λi j=>by split<;>lia
 simp[pe,e,S.ob,S.h3,S.h4,S.h5,S.h6,S.h7,S.h8,hm,Rc,vO,iP,gJ,e2,e3,fy,hs,hW ha,hW hb,Ap ha,Ap hb,-ao,-List.getElem?_eq_getElem,-List.getD_eq_getElem?_getD,f3,f4,f5,f6,f7,f8,hmax]
def vR(S:ShelfAt h p ps)(nd:ps.Nodup)(hx:fX x=true)(hl:x.length<=sizeLine)(e:ps[i]?=some (.leaf x)):eC [.ref p,.str x] h=.ok (.int ((i+1:Nat):Int)) h:=by
 have t:=vP (k:=1) nd e;have t':aU (eY ps) (.tup [.str "leaf",.str x])=some (.int ((i+1:Nat):Int)):=by rw[Qj];exact t
 simp[eC,Ak x h hl,hx,S.ob,S.h2,t']
def Kl(S:ShelfAt h p ps)(hx:fX x=true)(hl:x.length<=sizeLine)(hq:Pc.leaf x∉ps)(hz:ps.length<16000000):eC [.ref p,.str x] h=.ok (.int ((ps.length+1:Nat):Int)) (gJ h p (ps++[.leaf x])):=by
 have t:aU (eY ps) (.tup [.str "leaf",.str x])=none:=rV (q:=.leaf x) (k:=1) hq;have S2:=rW (ps':=ps++[.leaf x]) S;have e:=Kj S hq hz;have t2:aU (eY (ps++[.leaf x])) (.tup [.str "leaf",.str x])=some (.int ((ps.length+1:Nat):Int)):=by
  unfold eY;rw[rT];unfold aU at t ⊢
  rw[SW];have t3:(gv 1 ps).find? (λp=>decide (p.1=.tup [.str "leaf",.str x]))=none:=by simpa[eY] using t
  rw[t3];simp[Pc.av,Qj]
 have e':ph [.ref p,.tup [.str "leaf",.str x]] h=.ok .non (gJ h p (ps++[.leaf x])):=e;simp[eC,Ak x h hl,hx,S.ob,S.h2,t,e',S2.ob,S2.h2,t2]
def Km(S:ShelfAt h p ps)(ha:(meas ps)[a]?=some ma)(hb:(meas ps)[b]?=some mb)(pa:1<=a)(pb:1<=b)(hla:(meas ps)[ma.ll]?=some la)(hfb:(meas ps)[mb.fl]?=some fb)(d1:¬ la.sg+fb.sg<=8)(d2:¬ 1<(ma.ht-mb.ht).natAbs)(d3:¬ 1000000000000000000<ma.sg+mb.sg) :
  oY [.ref p,.int a,.int b] h=.ok .non h:=by
 have la_:=(NZ.mp ha).1;have lb_:=(NZ.mp hb).1;rw[fy] at la_ lb_;have c1:=rX S (i:=(a:Int)) ⟨by lia,by lia⟩
 have c2:=rX S (i:=(b:Int)) ⟨by lia,by lia⟩;have d1':¬ ((la.sg:Int)+fb.sg)<=8:=by lia
 have d2':¬ (1:Int)<(if ma.ht-mb.ht<0 then -(ma.ht-mb.ht) else ma.ht-mb.ht):=by split<;>lia
 have d3':¬ (1000000000000000000:Int)<(ma.sg:Int)+mb.sg:=by lia
 simp[oY,c1,c2,S.ob,S.h3,S.h5,S.h6,S.h7,S.h8,hW ha,hW hb,hW hla,hW hfb,d1',d2',d3',-Int.neg_sub]
structure ForkOk(ps:List Pc)(a b:Nat):Prop where
 pa:1<=a
 pb:1<=b
 ex:∃ ma mb la fb,(meas ps)[a]?=some ma/\(meas ps)[b]?=some mb/\(meas ps)[ma.ll]?=some la/\(meas ps)[mb.fl]?=some fb/\8<la.sg+fb.sg/\(ma.ht-mb.ht).natAbs<=1/\ma.sg+mb.sg<=1000000000000000000
def Aq(S:ShelfAt h p ps)(F:ForkOk ps a b):oY [.ref p,.int a,.int b] h=.ok .non h:=by
 obtain⟨ma,mb,la,fb,h1,h2,h3,h4,h5,h6,h7⟩:=F.ex;exact Km S h1 h2 F.pa F.pb h3 h4 ⋯ ⋯ ⋯
def vS(S:ShelfAt h p ps)(nd:ps.Nodup)(F:ForkOk ps a b)(e:ps[i]?=some (.fork a b)):aV [.ref p,.int a,.int b] h=.ok (.int ((i+1:Nat):Int)) h:=by
 have t:=vP (k:=1) nd e;have t':aU (eY ps) (.tup [.str "fork",.int a,.int b])=some (.int ((i+1:Nat):Int)):=by rw[Qj];exact t
 simp[aV,Aq S F,S.ob,S.h2,t']
def Kn(S:ShelfAt h p ps)(F:ForkOk ps a b)(hq:Pc.fork a b∉ps)(hz:ps.length<16000000):aV [.ref p,.int a,.int b] h=.ok (.int ((ps.length+1:Nat):Int)) (gJ h p (ps++[.fork a b])):=by
 have t:aU (eY ps) (.tup [.str "fork",.int a,.int b])=none:=rV (q:=.fork a b) (k:=1) hq;have S2:=rW (ps':=ps++[.fork a b]) S;obtain⟨ma,mb,la,fb,h1,h2,_⟩:=F.ex;have e:=Kk S hq hz h1 h2;have t2:aU (eY (ps++[.fork a b])) (.tup [.str "fork",.int a,.int b])=some (.int ((ps.length+1:Nat):Int)):=by
  unfold eY;rw[rT];unfold aU at t ⊢
  rw[SW];have t3:(gv 1 ps).find? (λp=>decide (p.1=.tup [.str "fork",.int a,.int b]))=none:=by simpa[eY] using t
  rw[t3];simp[Pc.av,Qj]
 have e':pe [.ref p,.tup [.str "fork",.int a,.int b]] h=.ok .non (gJ h p (ps++[.fork a b])):=e;simp[aV,Aq S F,S.ob,S.h2,t,e',S2.ob,S2.h2,t2]
def rY(n:Nat):List AO:=[.ins 0 [some (.ref (n+1)),some (.ref (n+2)),some (.ref (n+3)),some (.ref (n+4)),some (.ref (n+5)),some (.ref (n+6)),some (.ref (n+7)),some (.ref (n+8))],.lst [],.dct true [],.lst [.int 0],.lst [.int 0],.lst [.int 0],.lst [.int (-1)],.lst [.int 0],.lst [.int 0]]
def Ko{o o':AO}{r:AH}:(h++o::r).set h.length o'=h++o'::r:=by
 induction h with
 |nil=>rfl
 |cons x t ih=>simp[ih]
def Ar{r:AH}{k:Nat}:(h++r)[h.length+k]?=r[k]?:=by
 rw[Oy ⋯];simp
def Kp(h r:AH):ShelfAt (h++(rY h.length++r)) h.length []:=by
 refine⟨?_,?_,?_,?_,?_,?_,?_,?_,?_⟩
 ·rw[show h.length=h.length+0 from rfl,Ar];rfl
 all_goals (rw[Ar];rfl)
def As(x:Str)(c i:Nat)(hi:i<x.length):Builtin.Str.subAt x ⟨#[c]⟩ i=decide (x.cps.toList[i]?=some c):=by
 have hi':i<x.cps.size:=hi;unfold Builtin.Str.subAt;have e:x.cps.extract i (i+1)=#[x.cps[i]]:=by
  apply Array.ext
  ·simp;lia
  ·intro j h1 h2
   have:j=0:=by simp at h2;lia
   subst this;simp
 show (x.cps.extract i (i+1) == #[c])=_
 rw[e];have:x.cps.toList[i]?=some x.cps[i]:=by simp[hi']
 rw[this];by_cases q:x.cps[i]=c
 ·simp[q]
 ·simp[q]
theorem rZ(x:Str)(c:Nat):∀ (n i:Nat) (st:Array Nat×Nat),i+n=x.length+1->st.2<=i->st.1.size<=i->(forIn (List.range' i n) st (StrLaws.occBody x ⟨#[c]⟩ x.length (x.length+1))).run.fst.size=st.1.size+(x.cps.toList.drop i).count c
 |0,i,st,hn,_,_=>by
  rw[Pa (by simp;simp only[Str.length] at hn;lia)];simp
 |n+1,i,st,hn,h2,h3=>by
  rw[List.range'_succ,List.forIn_cons];unfold StrLaws.occBody
  by_cases hi:i<x.length
  ·have hi':i<x.cps.size:=hi
   have hd:x.cps.toList.drop i=x.cps[i]'hi'::x.cps.toList.drop (i+1):=by
    rw[Q7 (show i<x.cps.toList.length by simpa using hi')];simp
   have hg:x.cps.toList[i]?=some (x.cps[i]'hi'):=by
    simp[hi']
   by_cases q:x.cps[i]'hi'=c
   ·have hs:Builtin.Str.subAt x ⟨#[c]⟩ i=true:=by rw[As x c i hi,hg,q];simp
    rw[Of ⟨⟨⟨by lia,h2⟩,hi⟩,hs⟩];show (forIn (List.range' (i+1) n) (st.1.push i,i+1) (StrLaws.occBody x ⟨#[c]⟩ x.length (x.length+1))).run.fst.size=_
    rw[rZ x c n (i+1) _ ⋯ (Oa _) (by simp;omega),hd,q];simp;lia
   ·have hs:Builtin.Str.subAt x ⟨#[c]⟩ i=false:=by rw[As x c i hi,hg];simp[q]
    rw[Og (by simp[hs])];show (forIn (List.range' (i+1) n) (st.1,st.2) (StrLaws.occBody x ⟨#[c]⟩ x.length (x.length+1))).run.fst.size=_
    rw[rZ x c n (i+1) _ ⋯ (by show st.2<=i+1;lia) (by show st.1.size<=i+1;lia),hd];simp[q]
  ·rw[Og (by rintro⟨⟨_,z⟩,_⟩;exact hi z)]
   show (forIn (List.range' (i+1) n) (st.1,st.2) (StrLaws.occBody x ⟨#[c]⟩ x.length (x.length+1))).run.fst.size=_
   rw[rZ x c n (i+1) _ ⋯ (by show st.2<=i+1;lia) (by show st.1.size<=i+1;lia)];rw[Pa (by simp;simp only[Str.length] at hi;lia),Pa (by simp;simp only[Str.length] at hi;lia)]
def Kq(x:Str)(c:Nat):(Builtin.Str.occurrences x ⟨#[c]⟩ 0 x.length (x.length+1)).length=x.cps.toList.count c:=by
 rw[StrLaws.occ_eq,PC];rw[show x.length+1-0=x.length+1 from rfl,rZ x c (x.length+1) 0 _ ⋯ (Oa _) 's']
 simp
def vT(x:Str):jG x=x.cps.toList.count 10:=(Kq x 10)
def dq(x y:Str):(x++y).cps.toList=x.cps.toList++y.cps.toList:=by
 show (x.cps++y.cps).toList=_
 simp
def Kr(x y:Str):jG (x++y)=jG x+jG y:=by
 rw[vT,vT,vT,dq,List.count_append]
def cT(x:Str):x.length=x.cps.toList.length:=by simp[Str.length]
def eh(x y:Str):(x++y).length=x.length+y.length:=by
 rw[cT,cT,cT,dq,OP]
def lV(rs:List Str):Pc->Str
 |.leaf x=>x
 |.fork a b=>rs.getD a "" ++ rs.getD b ""
def reads(ps:List Pc):List Str:=ps.foldl (λrs q=>rs++[lV rs q]) [""]
def Kt(ps:List Pc)(q:Pc):reads (ps++[q])=reads ps++[lV (reads ps) q]:=by simp[reads]
theorem pG{α β:Type}(g:List β->α->β):∀ (qs:List α) (ms:List β),∃ r,qs.foldl (λms q=>ms++[g ms q]) ms=ms++r/\r.length=qs.length
 |[],ms=>⟨[],by simp,rfl⟩
 |q::qs,ms=>by
  obtain⟨r,e,l⟩:=pG g qs (ms++[g ms q]);exact⟨g ms q::r,by rw[RP,e];simp,by simp[l]⟩
def r9(ps:List Pc):(reads ps).length=ps.length+1:=by
 obtain⟨r,e,l⟩:=pG lV ps [""];rw[reads,e];simp[l,Qj]
def Ku(ps qs:List Pc):∃ r,meas (ps++qs)=meas ps++r:=by
 unfold meas;rw[SY];obtain⟨r,e,_⟩:=pG iP qs (ps.foldl (λms q=>ms++[iP ms q]) [ms0])
 exact⟨r,e⟩
def Kv(ps qs:List Pc):∃ r,reads (ps++qs)=reads ps++r:=by
 unfold reads;rw[SY];obtain⟨r,e,_⟩:=pG lV qs (ps.foldl (λms q=>ms++[lV ms q]) [""])
 exact⟨r,e⟩
def aN(h:ps <+: ps'){m:Ms}(e:(meas ps)[n]?=some m):(meas ps')[n]?=some m:=by
 obtain⟨qs,rfl⟩:=h;obtain⟨r,q⟩:=Ku ps qs;rw[q,Oj (NZ.mp e).1];exact e
def sf(h:ps <+: ps'){m:Str}(e:(reads ps)[n]?=some m):(reads ps')[n]?=some m:=by
 obtain⟨qs,rfl⟩:=h;obtain⟨r,q⟩:=Kv ps qs;rw[q,Oj (NZ.mp e).1];exact e
def si(ps:List Pc)(i:Nat):ps.take i <+: ps:=(List.take_prefix i ps)
def vU(e:ps[i]?=some q):(ps.take i++[q]) <+: ps/\(ps.take i).length=i:=by
 have hi:=(NZ.mp e).1;have:ps.take (i+1)=ps.take i++[q]:=by
  rw[List.take_succ,e];rfl
 exact⟨this▸List.take_prefix _ _,by simp;lia⟩
def Au(e:ps[i]?=some q):(meas ps)[i+1]?=some (iP (meas (ps.take i)) q):=by
 obtain⟨h,l⟩:=vU e;refine aN h ?_
 rw[vO,Oy (by rw[fy,l];lia),fy,l];simp
def Av(e:ps[i]?=some q):(reads ps)[i+1]?=some (lV (reads (ps.take i)) q):=by
 obtain⟨h,l⟩:=vU e;refine sf h ?_
 rw[Kt,Oy (by rw[r9,l];lia),r9,l];simp
def pH(ps:List Pc):Pc->Prop
 |.leaf x=>fX x=true
 |.fork a b=>ForkOk ps a b
inductive Good:List Pc->Prop
 |nil:Good []
 |snoc {ps:List Pc} {q:Pc}:Good ps->q∉ps->pH ps q->Good (ps++[q])
def Good.nodup(g:Good ps):ps.Nodup:=by
 induction g with
 |nil=>exact Qe
 |snoc g n ok ih=>exact QB.mpr ⟨ih,by simp,λa ha b hb=>by simp at hb;subst hb;exactλe=>n (e▸ha)⟩
def Good.get(g:Good ps):∀ {i:Nat} {q:Pc},ps[i]?=some q->pH (ps.take i) q:=by
 induction g with
 |nil=>intro i q e;simp at e
 |@snoc ps q' g n ok ih =>
  intro i q e;by_cases hi:i<ps.length
  ·rw[Oj hi] at e
   rw[QM ⋯];exact ih e
  ·have hi2:i=ps.length:=by
    have:=(NZ.mp e).1;simp at this;lia
   subst hi2;simp at e
   subst e;simpa using ok
def ForkOk.pre(F:ForkOk ps a b)(h:ps <+: ps'):ForkOk ps' a b:=by
 obtain⟨ma,mb,la,fb,h1,h2,h3,h4,h5⟩:=F.ex;exact⟨F.pa,F.pb,ma,mb,la,fb,aN h h1,aN h h2,aN h h3,aN h h4,h5⟩
structure Ky(ps:List Pc)(m:Ms)(x:Str)(f l:Ms):Prop where
 fl:(meas ps)[m.fl]?=some f
 ll:(meas ps)[m.ll]?=some l
 sg:m.sg=x.length
 en:m.en=jG x
 f1:1<=f.sg
 f8:f.sg<=8
 l1:1<=l.sg
 l8:l.sg<=8
 lv:1<=m.lv
 ht:0<=m.ht
 most:m.sg<=1000000000000000000
 cnt:∃ k,(m.lv=2*k+1/\9*k+f.sg<=m.sg/\9*k+l.sg<=m.sg)\/(m.lv=2*k+2/\9*k+9<=m.sg/\9*k+f.sg+l.sg<=m.sg)
 pl:bQ x=true
structure Tx(ps:List Pc)(n:Nat)(m:Ms)(x:Str)(f l:Ms):Prop where
 n1:1<=n
 ms:(meas ps)[n]?=some m
 rd:(reads ps)[n]?=some x
 ky:Ky ps m x f l
def Ky.pre{m:Ms}(k:Ky ps m x f l)(h:ps <+: ps'):Ky ps' m x f l :=(
 { k with fl:=aN h k.fl,ll:=aN h k.ll })
def Tx.pre{ps ps':List Pc}{n:Nat}{m:Ms}{x:Str}{f l:Ms}(k:Tx ps n m x f l)(h:ps <+: ps'):Tx ps' n m x f l :=(
 ⟨k.n1,aN h k.ms,sf h k.rd,k.ky.pre h⟩)
def Tx.le{m:Ms}(k:Tx ps n m x f l):n<=ps.length:=by
 have:=(NZ.mp k.ms).1;rw[fy] at this;lia
def lW(ma mb:Ms):Ms:=⟨ma.sg+mb.sg,ma.en+mb.en,ma.lv+mb.lv,max ma.ht mb.ht+1,ma.fl,mb.ll⟩
def pI(x y:Str):bQ (x++y)=(bQ x && bQ y):=by unfold bQ;rw[dq,List.all_append]
def Kw{n' s s' f l f' l':Nat}(a:∃ k,(n=2*k+1/\9*k+f<=s/\9*k+l<=s)\/(n=2*k+2/\9*k+9<=s/\9*k+f+l<=s))(b:∃ k,(n'=2*k+1/\9*k+f'<=s'/\9*k+l'<=s')\/(n'=2*k+2/\9*k+9<=s'/\9*k+f'+l'<=s'))(hs:8<l+f') :
  ∃ k,(n+n'=2*k+1/\9*k+f<=s+s'/\9*k+l'<=s+s')\/(n+n'=2*k+2/\9*k+9<=s+s'/\9*k+f+l'<=s+s'):=by
 obtain⟨k,⟨rfl,a1,a2⟩|⟨rfl,a1,a2⟩⟩:=a<;>obtain⟨k',⟨rfl,b1,b2⟩|⟨rfl,b1,b2⟩⟩:=b
 ·exact⟨k+k',.inr ⟨by lia,by lia,by lia⟩⟩
 ·exact⟨k+k'+1,.inl ⟨by lia,by lia,by lia⟩⟩
 ·exact⟨k+k'+1,.inl ⟨by lia,by lia,by lia⟩⟩
 ·exact⟨k+k'+1,.inr ⟨by lia,by lia,by lia⟩⟩
def Ky.fork(A:Ky ps ma x fa la)(B:Ky ps mb y fb lb)(hs:8<la.sg+fb.sg)(hm:ma.sg+mb.sg<=1000000000000000000):Ky ps (lW ma mb) (x++y) fa lb:=by
 have k:=Kw A.cnt B.cnt hs;refine⟨A.fl,B.ll,?_,?_,A.f1,A.f8,B.l1,B.l8,Oc A.lv (Nat.le_add_right _ _),?_,hm,k,?_⟩
 ·show ma.sg+mb.sg=_;rw[eh,A.sg,B.sg]
 ·show ma.en+mb.en=_;rw[Kr,A.en,B.en]
 ·have a4:=A.ht
  show 0<=max ma.ht mb.ht+1
  clear k hs hm;lia
 ·rw[pI,A.pl,B.pl];rfl
def vV(h:fX x=true):1<=x.length/\x.length<=8/\bQ x=true:=by
 simp[fX] at h;exact⟨h.2.1,h.2.2,h.1⟩
def pJ{l:List α}{d x:α}(e:l[i]?=some x):l.getD i d=x:=by simp[List.getD,e]
def bD(x:Str)(n:Nat):Ms:=⟨x.length,jG x,1,0,n,n⟩
def pK(g:Good ps)(e:ps[i]?=some (.leaf x)):Tx ps (i+1) (bD x (i+1)) x (bD x (i+1)) (bD x (i+1)):=by
 have hi:=(NZ.mp e).1;have ok:fX x=true:=g.get e;obtain⟨s1,s2,s3⟩:=vV ok;have li:(ps.take i).length=i:=by simp;lia
 have ml:(meas (ps.take i)).length=i+1:=by rw[fy,li]
 have e1':(meas ps)[i+1]?=some (bD x (i+1)):=by rw[Au e];simp only[iP,bD];rw[ml]
 exact⟨by lia,e1',Av e,⟨e1',e1',rfl,rfl,s1,s2,s1,s2,Oa 1,Int.le_refl 0,by show x.length<=_;lia,⟨0,.inl ⟨rfl,RB (RG _),RB (RG _)⟩⟩,s3⟩⟩
def pL(g:Good ps)(e:ps[i]?=some (.fork a b))(A:Tx ps a ma x fa la)(B:Tx ps b mb y fb lb):Tx ps (i+1) (lW ma mb) (x++y) fa lb:=by
 have hi:=(NZ.mp e).1;have ok':ForkOk (ps.take i) a b:=g.get e;have li:(ps.take i).length=i:=by simp;lia
 have tp:=si ps i;obtain⟨ma',mb',la',fb',q1,q2,q3,q4,q5,q6,q7⟩:=ok'.ex;have ba:=(NZ.mp q1).1;have bb:=(NZ.mp q2).1;rw[fy,li] at ba bb;have z1:=A.ms.symm.trans (aN tp q1);cases z1
 have z2:=B.ms.symm.trans (aN tp q2);cases z2
 have z3:=A.ky.ll.symm.trans (aN tp q3);cases z3
 have z4:=B.ky.fl.symm.trans (aN tp q4);cases z4
 have r1:(reads (ps.take i))[a]?=some x:=by
  obtain⟨w,ew⟩:∃ w,(reads (ps.take i))[a]?=some w:=⟨(reads (ps.take i))[a]'(by rw[r9,li];lia),by simp⟩
  have:=(sf tp ew).symm.trans A.rd;cases this;exact ew
 have r2:(reads (ps.take i))[b]?=some y:=by
  obtain⟨w,ew⟩:∃ w,(reads (ps.take i))[b]?=some w:=⟨(reads (ps.take i))[b]'(by rw[r9,li];lia),by simp⟩
  have:=(sf tp ew).symm.trans B.rd;cases this;exact ew
 refine⟨by lia,?_,?_,A.ky.fork B.ky q5 q7⟩
 ·rw[Au e];simp only[iP,pJ q1,pJ q2];rfl
 ·rw[Av e];simp only[lV,pJ r1,pJ r2]
def Good.tx(g:Good ps):∀ n,1<=n->n<=ps.length->∃ m x f l,Tx ps n m x f l:=by
 intro n;induction n using Nat.strongRecOn with
 |ind n ih =>
  intro h1 h2;obtain⟨i,rfl⟩:∃ i,n=i+1:=⟨n-1,(Nat.sub_add_cancel h1).symm⟩
  obtain⟨q,eq⟩:∃ q,ps[i]?=some q:=⟨ps[i],by simp⟩
  have ok:=g.get eq;have li:(ps.take i).length=i:=(vU eq).2
  cases q with
  |leaf x=>exact⟨_,_,_,_,pK g eq⟩
  |fork a b =>
   have ok':ForkOk (ps.take i) a b:=ok;obtain⟨ma,mb,la,fb,q1,q2,_⟩:=ok'.ex;have ba:=(NZ.mp q1).1;have bb:=(NZ.mp q2).1;rw[fy,li] at ba bb;obtain⟨_,_,_,_,A⟩:=ih a ba ok'.pa (Oc (Qz ba) h2)
   obtain⟨_,_,_,_,B⟩:=ih b bb ok'.pb (Oc (Qz bb) h2);exact⟨_,_,_,_,pL g eq A B⟩
structure Dd(p:Nat)(h h':AH)(ps ps':List Pc)(k:Nat):Prop where
 sh:ShelfAt h' p ps'
 gd:Good ps'
 pre:ps <+: ps'
 len:ps'.length<=ps.length+k
 fr:∀ i,i<=p\/p+8<i->h'[i]?=h[i]?
 hl:h'.length=h.length
def ShelfAt.keep(S:ShelfAt h p ps)(e:∀ i,p<=i->i<=p+8->h'[i]?=h[i]?):ShelfAt h' p ps:=by
 have k:∀ j,j<=8->h'[p+j]?=h[p+j]?:=λj hj=>e _ (Nat.le_add_right p j) (OD hj p)
 exact⟨(k 0 'd').trans S.ob,(k 1 'd').trans S.h1,(k 2 'd').trans S.h2,(k 3 'd').trans S.h3,(k 4 'd').trans S.h4,(k 5 'd').trans S.h5,(k 6 'd').trans S.h6,(k 7 'd').trans S.h7,(k 8 'd').trans S.h8⟩
def ShelfAt.app(S:ShelfAt h p ps)(r:AH):ShelfAt (h++r) p ps:=by
 have:=bK S.h8;exact S.keep λi _ b=>Oj (Ol b this)
def sj(S:ShelfAt h p ps)(hi:i<=ps.length):j7 [.ref p,.int i] h=.ok .non h:=by
 by_cases z:i=0
 ·subst z;simp[j7]
 ·have c:=rX S (i:=(i:Int)) ⟨by lia,by lia⟩
  simp[j7,z,S.ob,c]
def dH{m:Ms}(S:ShelfAt h p ps)(e:(meas ps)[i]?=some m):eV [.ref p,.int i] h=.ok (.int m.sg) h:=by
 have hi:=(NZ.mp e).1;rw[fy] at hi;simp[eV,sj S (show i<=ps.length by lia),S.ob,S.h3,hW e]
def dE{m:Ms}(S:ShelfAt h p ps)(e:(meas ps)[i]?=some m):hV [.ref p,.int i] h=.ok (.int m.ht) h:=by
 have hi:=(NZ.mp e).1;rw[fy] at hi;simp[hV,sj S (show i<=ps.length by lia),S.ob,S.h6,hW e]
def Aw{m:Ms}(S:ShelfAt h p ps)(e:(meas ps)[i]?=some m):pA [.ref p,.int i] h=.ok (.int m.fl) h:=by
 have hi:=(NZ.mp e).1;rw[fy] at hi;simp[pA,sj S (show i<=ps.length by lia),S.ob,S.h7,hW e]
def Ax{m:Ms}(S:ShelfAt h p ps)(e:(meas ps)[i]?=some m):pq [.ref p,.int i] h=.ok (.int m.ll) h:=by
 have hi:=(NZ.mp e).1;rw[fy] at hi;simp[pq,sj S (show i<=ps.length by lia),S.ob,S.h8,hW e]
def lp:Nat->Nat×Nat
 |0=>(1,2)
 |n+1=>((lp n).2,(lp n).1+(lp n).2)
def ll(n:Nat):Nat:=(lp n).1
def ls(n:Nat):Nat:=9*(ll n / 2)+ll n % 2
def jH(n:Nat):ll (n+2)=ll n+ll (n+1):=(rfl)
theorem Ay:∀ n,ll n<=ll (n+1)
 |0=>by decide
 |n+1=>by rw[show n+1+1=n+2 from rfl,jH];lia
def Kz(h:a<=b):ll a<=ll b:=by
 induction h with
 |refl=>exact Oa _
 |step h ih=>exact Oc ih (Ay _)
def KA(h:a<=b):ls a<=ls b:=by
 have:=Kz h;unfold ls;lia
def KC(h1:i<=j+1)(h2:j<=i+1)(u1:ll i<=a)(u2:ll j<=b):ll (max i j+1)<=a+b:=by
 rcases Nat.lt_trichotomy i j with c|c|c
 ·have e':j=i+1:=Nat.le_antisymm h2 c
  subst e'
  rw[Nat.max_eq_right (Ra i),jH];exact Sb u1 u2
 ·subst c
  rw[Nat.max_self];refine Oc ?_ (Sb u1 u2)
  cases i with
  |zero=>exact Oa 2
  |succ k=>rw[show k+1+1=k+2 from rfl,jH];exact Nat.add_le_add_right (Ay k) _
 ·have e':i=j+1:=Nat.le_antisymm h1 c
  subst e'
  rw[Nat.max_eq_left (Ra j),jH,Qj];exact Sb u1 u2
def KG{x y:Int}(hx:0<=x)(hy:0<=y)(q:(x-y).natAbs<=1)(u1:ll x.toNat<=a)(u2:ll y.toNat<=b):ll (max x y+1).toNat<=a+b:=by
 obtain⟨i,rfl⟩:=Pi hx;obtain⟨j,rfl⟩:=Pi hy;have e:(max (i:Int) j+1).toNat=max i j+1:=by clear u1 u2 q;omega
 rw[e];exact KC (by clear u1 u2 e;omega) (by clear u1 u2 e;lia) u1 u2
def Good.lv{ps:List Pc}(g:Good ps):∀ n m x f l,Tx ps n m x f l->ll m.ht.toNat<=m.lv:=by
 intro n;induction n using Nat.strongRecOn with
 |ind n ih =>
  intro m x f l T;have hn:=T.n1;have hle:=T.le;obtain⟨i,rfl⟩:∃ i,n=i+1:=⟨n-1,by lia⟩
  obtain⟨q,eq⟩:∃ q,ps[i]?=some q:=⟨ps[i],by simp⟩
  cases q with
  |leaf y =>
   have z:=(pK g eq).ms.symm.trans T.ms;cases z
   exact Oa 1
  |fork a b =>
   have ok':ForkOk (ps.take i) a b:=g.get eq;have li:(ps.take i).length=i:=by simp;lia
   obtain⟨ma,mb,la,fb,q1,q2,q3,q4,q5,q6,q7⟩:=ok'.ex;have ba:=(NZ.mp q1).1;have bb:=(NZ.mp q2).1;rw[fy,li] at ba bb;obtain⟨ma',x1,fa,la',A⟩:=g.tx a ok'.pa ⋯
   obtain⟨mb',y1,fb',lb,B⟩:=g.tx b ok'.pb ⋯;have tp:=si ps i;have z1:=A.ms.symm.trans (aN tp q1);cases z1
   have z2:=B.ms.symm.trans (aN tp q2);cases z2
   have u1:=ih a ⋯ _ _ _ _ A;have u2:=ih b ⋯ _ _ _ _ B;have z:=(pL g eq A B).ms.symm.trans T.ms;cases z
   exact KG A.ky.ht B.ky.ht q6 u1 u2
def Tx.ls{ps:List Pc}(g:Good ps){n:Nat}{m:Ms}{x:Str}{f l:Ms}(T:Tx ps n m x f l):Sk.ls m.ht.toNat<=m.sg:=by
 have u:=g.lv _ _ _ _ _ T;have f1:=T.ky.f1;unfold Sk.ls;obtain⟨k,⟨e,a,_⟩|⟨e,a,_⟩⟩:=T.ky.cnt
 ·rw[e] at u;generalize ll m.ht.toNat=q at *;clear e;lia
 ·rw[e] at u;generalize ll m.ht.toNat=q at *;clear e;lia
def Good.kind(g:Good ps){m:Ms}(T:Tx ps n m x f l) :
  (ps[n-1]?=some (.leaf x)/\m.ht=0/\m=bD x n/\1<=x.length/\x.length<=8)\/∃ a b ma mb y z fa la fb lb,ps[n-1]?=some (.fork a b)/\a<n/\b<n/\Tx ps a ma y fa la/\Tx ps b mb z fb lb/\x=y++z/\m=lW ma mb/\(ma.ht-mb.ht).natAbs<=1:=by
 have hn:=T.n1;have hle:=T.le;obtain⟨i,rfl⟩:∃ i,n=i+1:=⟨n-1,by lia⟩
 obtain⟨q,eq⟩:∃ q,ps[i]?=some q:=⟨ps[i],by simp⟩
 cases q with
 |leaf y =>
  have L:=pK g eq;have z:=L.ms.symm.trans T.ms;cases z
  have z2:=L.rd.symm.trans T.rd;cases z2
  have ok:fX x=true:=g.get eq;obtain⟨s1,s2,s3⟩:=vV ok;exact .inl ⟨eq,rfl,rfl,s1,s2⟩
 |fork a b =>
  have ok':ForkOk (ps.take i) a b:=g.get eq;have li:(ps.take i).length=i:=by simp;lia
  obtain⟨ma,mb,la,fb,q1,q2,q3,q4,q5,q6,q7⟩:=ok'.ex;have ba:=(NZ.mp q1).1;have bb:=(NZ.mp q2).1;rw[fy,li] at ba bb;obtain⟨ma',y,fa,la',A⟩:=g.tx a ok'.pa ⋯
  obtain⟨mb',z,fb',lb,B⟩:=g.tx b ok'.pb ⋯;have tp:=si ps i;have z1:=A.ms.symm.trans (aN tp q1);cases z1
  have z2:=B.ms.symm.trans (aN tp q2);cases z2
  have F:=pL g eq A B;have z3:=F.ms.symm.trans T.ms;cases z3
  have z4:=F.rd.symm.trans T.rd;cases z4
  exact .inr ⟨a,b,ma,mb,y,z,fa,la',fb',lb,eq,by lia,by lia,A,B,rfl,rfl,q6⟩
def sk(S:ShelfAt h p ps)(n1:1<=n)(e:ps[n-1]?=some q):eX [.ref p,.int n] h=.ok q.av h:=by
 have:=Ki S e;rw[show ((n-1:Nat):Int)+1=(n:Int) by lia] at this;exact this
def Az{m a b:Int}(e:m=max a b+1)(ha:0<=a)(hb:0<=b):∃ j:Nat,m.toNat=j+1/\a.toNat<=j/\b.toNat<=j/\0<m:=by
 obtain⟨x,rfl⟩:=Pi ha;obtain⟨y,rfl⟩:=Pi hb;subst e;exact⟨max x y,by lia,Nat.le_max_left _ _,Nat.le_max_right _ _,by lia⟩
def cz(e:x.cps.toList=y.cps.toList):x=y:=by
 cases x;cases y
 simpa using e
def eZ(x y z:Str):(x++y)++z=x++(y++z):=(cz (by simp only[dq,SR]))
def vW:1000000000000000000<ls 83:=by decide +kernel
def e7(g:Good ps){m:Ms}(T:Tx ps n m x f l):m.ht<=82:=by
 have h1:=T.ls g;have h2:=T.ky.most;have h3:=T.ky.ht;apply Classical.byContradiction
 intro h4;have:=KA (show 83<=m.ht.toNat by lia);have:=vW;lia
def Good.cut(g:Good ps){m:Ms}(T:Tx ps n m x f l)(hh:0<m.ht) :
  ∃ a b ma mb y z la fb,ps[n-1]?=some (.fork a b)/\Tx ps a ma y f la/\Tx ps b mb z fb l/\x=y++z/\m=lW ma mb /\ -1<=ma.ht-mb.ht/\ma.ht-mb.ht<=1/\8<la.sg+fb.sg:=by
 rcases g.kind T with⟨_,e,_⟩|⟨a,b,ma,mb,y,z,fa,la,fb,lb,e1,e2,e3,A,B,e4,e5,e6⟩
 ·lia
 ·have ok:ForkOk (ps.take (n-1)) a b:=g.get e1
  obtain⟨ma',mb',la',fb',q1,q2,q3,q4,q5,_⟩:=(ok.pre (si ps _)).ex;have z1:=A.ms.symm.trans q1;cases z1
  have z2:=B.ms.symm.trans q2;cases z2
  have z3:=A.ky.ll.symm.trans q3;cases z3
  have z4:=B.ky.fl.symm.trans q4;cases z4
  have f1:=T.ky.fl;have l1:=T.ky.ll;rw[e5] at f1 l1;have z5:=f1.symm.trans A.ky.fl;cases z5
  have z6:=l1.symm.trans B.ky.ll;cases z6
  exact⟨a,b,ma,mb,y,z,la,fb,e1,A,B,e4,e5,by lia,by lia,q5⟩
structure Dn(F:AH->Out AV)(p:Nat)(h h':AH)(ps ps':List Pc)(k n:Nat):Prop where
 ev:F h=.ok (.int n) h'
 dd:Dd p h h' ps ps' k
 re:∀ h2 ps2,ShelfAt h2 p ps2->Good ps2->ps' <+: ps2->F h2=.ok (.int n) h2
def Dd.trans{p:Nat}{h h' h'':AH}{ps ps' ps'':List Pc}{k k' k2:Nat}(a:Dd p h h' ps ps' k)(b:Dd p h' h'' ps' ps'' k')(hk:k+k'<=k2):Dd p h h'' ps ps'' k2 :=(
 ⟨b.sh,b.gd,a.pre.trans b.pre,by have:=a.len;have:=b.len;lia,λi hi=>(b.fr i hi).trans (a.fr i hi),b.hl.trans a.hl⟩)
def Dd.refl(S:ShelfAt h p ps)(g:Good ps):Dd p h h ps ps 0:=(⟨S,g,O7 _,by lia,λ_ _=>rfl,rfl⟩)
variable{F:AH->Out AV}
def Dn.seq{F1:AH->Out AV}{F2:AV->AH->Out AV}{ps2:List Pc}{k n2:Nat}(S:ShelfAt h p ps)(g:Good ps)(d1:Dn F1 p h h1 ps ps1 k1 n1)(d2:Dn (F2 (.int n1)) p h1 h2 ps1 ps2 k2 n2)(eq:∀ hh pp,ShelfAt hh p pp->Good pp->ps <+: pp->F hh=(F1 hh).bind F2)(hk:k1+k2<=k):Dn F p h h2 ps ps2 k n2:=by
 refine⟨?_,d1.dd.trans d2.dd hk,λh3 ps3 S3 g3 p3=>?_⟩
 ·rw[eq h ps S g (O7 _),d1.ev];exact d2.ev
 ·rw[eq h3 ps3 S3 g3 (d1.dd.pre.trans (d2.dd.pre.trans p3)),d1.re h3 ps3 S3 g3 (d2.dd.pre.trans p3)]
  exact d2.re h3 ps3 S3 g3 p3
def Dn.as{F1:AH->Out AV}{k:Nat}(S:ShelfAt h p ps)(g:Good ps)(d1:Dn F1 p h h1 ps ps1 k1 n1)(eq:∀ hh pp,ShelfAt hh p pp->Good pp->ps <+: pp->F hh=F1 hh)(hk:k1<=k):Dn F p h h1 ps ps1 k n1:=by
 refine⟨?_,{ d1.dd with len:=Oc d1.dd.len (OD hk _) },λh3 ps3 S3 g3 p3=>?_⟩
 ·rw[eq h ps S g (O7 _)];exact d1.ev
 ·rw[eq h3 ps3 S3 g3 (d1.dd.pre.trans p3)];exact d1.re h3 ps3 S3 g3 p3
def Dn.val(S:ShelfAt h p ps)(g:Good ps)(eq:∀ hh pp,ShelfAt hh p pp->Good pp->ps <+: pp->F hh=.ok (.int n) hh):Dn F p h h ps ps 0 n :=(
 ⟨eq h ps S g (O7 _),Dd.refl S g,λh3 ps3 S3 g3 p3=>eq h3 ps3 S3 g3 p3⟩)
def dw(h:ps <+: ps')(e:ps[i]?=some q):ps'[i]?=some q:=by
 obtain⟨r,rfl⟩:=h;rw[Oj (NZ.mp e).1];exact e
def sr(S:ShelfAt h p ps)(g:Good ps)(hx:fX x=true)(hz:ps.length<16000000) :
  ∃ (n:Nat) (ps':List Pc) (h':AH),Dn (eC [.ref p,.str x]) p h h' ps ps' 1 n/\Tx ps' n (bD x n) x (bD x n) (bD x n):=by
 obtain⟨s1,s2,s3⟩:=vV hx;have hs:x.length<=sizeLine:=Oc s2 'd';by_cases hq:Pc.leaf x∈ps
 ·obtain⟨i,hi,e⟩:=Qm hq
  have e':ps[i]?=some (.leaf x):=by rw[On hi,e]
  exact⟨i+1,ps,h,⟨vR S g.nodup hx hs e',⟨S,g,O7 _,by lia,λ_ _=>rfl,rfl⟩,λh2 ps2 S2 g2 p2=>vR S2 g2.nodup hx hs (dw p2 e')⟩,pK g e'⟩
 ·have g':Good (ps++[.leaf x]):=.snoc g hq hx
  have e':(ps++[Pc.leaf x])[ps.length]?=some (.leaf x):=by simp
  exact⟨ps.length+1,_,_,⟨Kl S hx hs hq hz,⟨rW S,g',SF _ _,by simp,λi hi=>An hi,Am _ _ _⟩,λh2 ps2 S2 g2 p2=>vR S2 g2.nodup hx hs (dw p2 e')⟩,pK g' e'⟩
def gw(S:ShelfAt h p ps)(g:Good ps)(A:Tx ps a ma x fa la)(B:Tx ps b mb y fb lb)(hc:8<la.sg+fb.sg)(v1:-1<=ma.ht-mb.ht)(v2:ma.ht-mb.ht<=1)(hm:ma.sg+mb.sg<=1000000000000000000)(hz:ps.length<16000000) :
  ∃ (n:Nat) (ps':List Pc) (h':AH),Dn (aV [.ref p,.int a,.int b]) p h h' ps ps' 1 n/\Tx ps' n (lW ma mb) (x++y) fa lb:=by
 have F:ForkOk ps a b:=⟨A.n1,B.n1,ma,mb,la,fb,A.ms,B.ms,A.ky.ll,B.ky.fl,hc,by lia,hm⟩
 by_cases hq:Pc.fork a b∈ps
 ·obtain⟨i,hi,e⟩:=Qm hq
  have e':ps[i]?=some (.fork a b):=by rw[On hi,e]
  exact⟨i+1,ps,h,⟨vS S g.nodup F e',⟨S,g,O7 _,by lia,λ_ _=>rfl,rfl⟩,λh2 ps2 S2 g2 p2=>vS S2 g2.nodup (F.pre p2) (dw p2 e')⟩,pL g e' A B⟩
 ·have g':Good (ps++[.fork a b]):=.snoc g hq F
  have e':(ps++[Pc.fork a b])[ps.length]?=some (.fork a b):=by simp
  have pr:ps <+: ps++[Pc.fork a b]:=SF _ _;exact⟨ps.length+1,_,_,⟨Kn S F hq hz,⟨rW S,g',pr,by simp,λi hi=>An hi,Am _ _ _⟩,λh2 ps2 S2 g2 p2=>vS S2 g2.nodup (F.pre (pr.trans p2)) (dw p2 e')⟩,pL g' e' (A.pre pr) (B.pre pr)⟩
def gy(ma mb:Ms):(lW ma mb).sg=ma.sg+mb.sg:=(rfl)
def bI(ma mb:Ms):(lW ma mb).ht=max ma.ht mb.ht+1:=(rfl)
def i1(s:Str)(a b:Int)(h:AH):ao (.tup [.str s,.int a,.int b]) (.int 1) h=.ok (.int a) h:=(rfl)
def i2(s:Str)(a b:Int)(h:AH):ao (.tup [.str s,.int a,.int b]) (.int 2) h=.ok (.int b) h:=(rfl)
def gz(S:ShelfAt h p ps)(n1:1<=n)(e:ps[n-1]?=some (.fork a b)):eX [.ref p,.int n] h=.ok (.tup [.str "fork",.int a,.int b]) h:=(sk S n1 e)
def vX(S:ShelfAt h p ps)(ea:(meas ps)[a]?=some ma)(eb:(meas ps)[b]?=some mb)(hd:mb.ht-ma.ht<2) :
  gH [.ref p,.int a,.int b] h=aV [.ref p,.int a,.int b] h:=by
 have f1:=dE S ea;have f2:=dE S eb;generalize hF:aV [.ref p,.int a,.int b] h=R
 simp[gH,S.ob,f1,f2,hd,hF]
 cases R<;>rfl
def vY(S:ShelfAt h p ps)(b1:1<=b)(ea:(meas ps)[a]?=some ma)(eb:(meas ps)[b]?=some mb)(e:ps[b-1]?=some (.fork c d))(ec:(meas ps)[c]?=some mc)(ed:(meas ps)[d]?=some md)(hd:¬ mb.ht-ma.ht<2)(hh:mc.ht<=md.ht) :
  gH [.ref p,.int a,.int b] h=(aV [.ref p,.int a,.int c] h).bind λv h1=>aV [.ref p,v,.int d] h1:=by
 have f1:=dE S ea;have f2:=dE S eb;have f3:=gz S b1 e;have f4:=dE S ec;have f5:=dE S ed;generalize hF:aV [.ref p,.int a,.int c] h=R
 simp[gH,S.ob,f1,f2,hd,f3,i1,i2,f4,f5,hh,hF,-ao]
 cases R with
 |ok v h1=>dsimp only;cases aV [.ref p,v,.int d] h1<;>rfl
 |ex c h1=>rfl
 |bad=>rfl
def dI(p:Nat)(F:AH->Out AV)(h:AH):Out AV:=match h[p]? with
 |some (.ins c' _)=>if c'=0 then F h else .bad
 |_=>.bad
def AA(S:ShelfAt h p ps)(F:AH->Out AV):dI p F h=F h:=by simp[dI,S.ob]
def vZ(S:ShelfAt h p ps)(b1:1<=b)(c1:1<=c)(ea:(meas ps)[a]?=some ma)(eb:(meas ps)[b]?=some mb)(e:ps[b-1]?=some (.fork c d))(ec:(meas ps)[c]?=some mc)(ed:(meas ps)[d]?=some md)(e2:ps[c-1]?=some (.fork i j))(hd:¬ mb.ht-ma.ht<2)(hh:¬ mc.ht<=md.ht) :
  gH [.ref p,.int a,.int b] h=(aV [.ref p,.int a,.int i] h).bind λv h1=>(dI p (aV [.ref p,.int j,.int d]) h1).bind λw h2=>aV [.ref p,v,w] h2:=by
 have f1:=dE S ea;have f2:=dE S eb;have f3:=gz S b1 e;have f4:=dE S ec;have f5:=dE S ed;have f6:=gz S c1 e2;generalize hF:aV [.ref p,.int a,.int i] h=R
 simp[gH,S.ob,f1,f2,hd,f3,i1,i2,f4,f5,hh,f6,hF,-ao]
 cases R with
 |ok v h1 =>
  unfold dI;dsimp only
  cases hx:h1[p]? with
  |none=>rfl
  |some o =>
   cases o with
   |lst l=>rfl
   |dct q l=>rfl
   |dcx l=>rfl
   |dcz b l=>rfl
   |ins c' l =>
    dsimp only;by_cases z:c'=0
    ·rw[Of z]
     cases aV [.ref p,.int j,.int d] h1 with
     |ok w h2=>dsimp only;cases aV [.ref p,v,w] h2<;>rfl
     |ex c h2=>rfl
     |bad=>rfl
    ·rw[Og z]
 |ex c h1=>rfl
 |bad=>rfl
def v5{a b m:Int}(h1:-1<=b-a)(h2:b-a<2)(e:m=max a b+1):max a b<=m/\m<=max a b+1/\(b-a<=1->m=max a b+1):=by lia
def KH{a b c d i j:Int}(ht:b=max c d+1)(ht2:c=max i j+1)(w1:-1<=c-d)(w2:c-d<=1)(v2:b-a<=2)(q:¬ b-a<2)(r:¬ c<=d):max a b<=max (max a i+1) (max j d+1)+1/\max (max a i+1) (max j d+1)+1<=max a b+1/\(b-a<=1->max (max a i+1) (max j d+1)+1=max a b+1):=by
 have hi:=Int.le_max_left i j;have hj:=Int.le_max_right i j;generalize max i j=k at *;rw[Pz (show d<=c by lia)] at ht
 rw[Pz (show i<=a by(clear hj r q w2 w1;lia)),P0 (show j<=d by lia),P0 (show a<=b by(clear hj hi ht2 r v2 w2 w1 ht;lia)),Pz (show d+1<=a+1 by(clear hj hi ht2 q w2;lia))];(clear hj hi ht2 r w2 w1 ht;omega)
def KI{a b c d i j:Int}(ht:a=max c d+1)(ht2:d=max i j+1)(w1:-1<=c-d)(w2:c-d<=1)(v2:a-b<=2)(q:¬ a-b<2)(r:¬ d<=c):max a b<=max (max c i+1) (max j b+1)+1/\max (max c i+1) (max j b+1)+1<=max a b+1/\(a-b<=1->max (max c i+1) (max j b+1)+1=max a b+1):=by
 have hi:=Int.le_max_left i j;have hj:=Int.le_max_right i j;generalize max i j=k at *;rw[P0 (show c<=d by lia)] at ht
 rw[Pz (show i<=c by lia),P0 (show j<=b by(clear hi r q w2 w1;lia)),Pz (show b<=a by(clear hj hi ht2 r v2 w2 w1 ht;lia)),Pz (show b+1<=c+1 by(clear hj hi ht2 r v2 w2;lia))];(clear hj hi ht2 v2 w2;lia)
def AB(S:ShelfAt h p ps)(g:Good ps)(A:Tx ps a ma x fa la)(B:Tx ps b mb y fb lb)(hc:8<la.sg+fb.sg)(v1:-1<=mb.ht-ma.ht)(v2:mb.ht-ma.ht<=2)(hm:ma.sg+mb.sg<=1000000000000000000)(hz:ps.length+3<16000000) :
  ∃ (n:Nat) (ps':List Pc) (h':AH) (m:Ms),Dn (gH [.ref p,.int a,.int b]) p h h' ps ps' 3 n/\Tx ps' n m (x++y) fa lb/\max ma.ht mb.ht<=m.ht/\m.ht<=max ma.ht mb.ht+1/\(mb.ht-ma.ht<=1->m.ht=max ma.ht mb.ht+1):=by
 by_cases q:mb.ht-ma.ht<2
 ·obtain⟨n,ps',h',d,T⟩:=gw S g A B hc ⋯ ⋯ hm ⋯
  exact⟨n,ps',h',_,d.as S g (λhh pp S' _ pr=>vX S' (aN pr A.ms) (aN pr B.ms) q) ⋯,T,v5 v1 q (bI ma mb)⟩
 ·obtain⟨c,d,mc,md,y1,y2,lc,fd,e,C,D,rfl,em,w1,w2,w3⟩:=g.cut B (by have:=A.ky.ht;(clear hz hm v2 v1 hc B A g S;omega))
  have sg:=congrArg Ms.sg em;have ht:=congrArg Ms.ht em;rw[gy] at sg;rw[bI] at ht;by_cases r:mc.ht<=md.ht
  ·obtain⟨n1,ps1,h1,d1,T1⟩:=gw S g A C hc (by(clear sg w3 w2 w1 em B D C e q hz hm v1 hc A g S;lia)) ⋯ ⋯ ⋯
   obtain⟨n2,ps2,h2,d2,T2⟩:=gw d1.dd.sh d1.dd.gd T1 (D.pre d1.dd.pre) w3 (by rw[bI];(clear T1 d1 r ht sg w3 w2 em B D C e q hz hm v2 v1 hc A g S;lia)) (by rw[bI];lia) (by rw[gy];lia) (by have:=d1.dd.len;lia)
   rw[eZ] at T2;refine⟨n2,ps2,h2,_,Dn.seq S g d1 d2 (λhh pp S' _ pr=>vY S' B.n1 (aN pr A.ms) (aN pr B.ms) (dw pr e) (aN pr C.ms) (aN pr D.ms) q r) ⋯,T2,?_⟩
   rw[bI,bI];lia
  ·obtain⟨i,j,mi,mj,z1,z2,li,fj,e2,I,J,rfl,em2,u1,u2,u3⟩:=g.cut C (by have:=D.ky.ht;lia)
   have sg2:=congrArg Ms.sg em2;have ht2:=congrArg Ms.ht em2;rw[gy] at sg2;rw[bI] at ht2;obtain⟨n1,ps1,h1,d1,T1⟩:=gw S g A I hc (by(clear sg2 u3 u2 em2 B C J I e2 sg w3 w1 em D q hz hm v1 hc A g S;lia)) (by(clear sg2 u3 u2 em2 B C J I e2 sg w3 w1 em D hz hm v2 v1 hc A g S;lia)) ⋯ ⋯
   obtain⟨n2,ps2,h2,d2,T2⟩:=gw d1.dd.sh d1.dd.gd (J.pre d1.dd.pre) (D.pre d1.dd.pre) w3 (by(clear T1 d1 sg2 u3 u1 em2 B C J I e2 ht sg w3 w2 w1 em D e q hz hm v2 v1 hc A g S;lia)) (by(clear T1 d1 sg2 u3 u2 u1 em2 B C J I e2 r ht sg w3 w1 em D e q hz hm v2 v1 hc A g S;lia)) ⋯ (by have:=d1.dd.len;lia)
   obtain⟨n3,ps3,h3,d3,T3⟩:=gw d2.dd.sh d2.dd.gd (T1.pre d2.dd.pre) T2 u3 (by rw[bI,bI];(clear T2 d2 T1 d1 sg2 u3 u2 em2 B C J I sg w3 w1 em D q hz hm v1 hc A g S;lia)) (by rw[bI,bI];lia) (by rw[gy,gy];lia) (by have:=d1.dd.len;have:=d2.dd.len;lia)
   have d2':Dn (dI p (aV [.ref p,.int j,.int d])) p h1 h2 ps1 ps2 1 n2:=d2.as d1.dd.sh d1.dd.gd (λhh pp S' _ _=>AA S' _) (Oa _);have d23:=Dn.seq (F:=λh1=>(dI p (aV [.ref p,.int j,.int d]) h1).bind λw h2=>aV [.ref p,.int n1,w] h2) (F2:=λw h2=>aV [.ref p,.int n1,w] h2) d1.dd.sh d1.dd.gd d2' d3 (λ_ _ _ _ _=>rfl) (k:=2) ⋯;have ea:(x++z1)++(z2++y2)=x++(z1++z2++y2):=by rw[eZ,eZ]
   rw[ea] at T3;refine⟨n3,ps3,h3,_,Dn.seq (F2:=λv h1=>(dI p (aV [.ref p,.int j,.int d]) h1).bind λw h2=>aV [.ref p,v,w] h2) S g d1 d23 (λhh pp S' _ pr=>vZ S' B.n1 C.n1 (aN pr A.ms) (aN pr B.ms) (dw pr e) (aN pr C.ms) (aN pr D.ms) (dw pr e2) q r) ⋯,T3,?_⟩
   rw[bI,bI,bI];exact KH ht ht2 w1 w2 v2 q r
def v7(S:ShelfAt h p ps)(ea:(meas ps)[a]?=some ma)(eb:(meas ps)[b]?=some mb)(hd:ma.ht-mb.ht<2) :
  iO [.ref p,.int a,.int b] h=aV [.ref p,.int a,.int b] h:=by
 have f1:=dE S ea;have f2:=dE S eb;generalize hF:aV [.ref p,.int a,.int b] h=R
 simp[iO,S.ob,f1,f2,hd,hF]
 cases R<;>rfl
def v8(S:ShelfAt h p ps)(a1:1<=a)(ea:(meas ps)[a]?=some ma)(eb:(meas ps)[b]?=some mb)(e:ps[a-1]?=some (.fork c d))(ec:(meas ps)[c]?=some mc)(ed:(meas ps)[d]?=some md)(hd:¬ ma.ht-mb.ht<2)(hh:md.ht<=mc.ht) :
  iO [.ref p,.int a,.int b] h=(aV [.ref p,.int d,.int b] h).bind λv h1=>aV [.ref p,.int c,v] h1:=by
 have f1:=dE S ea;have f2:=dE S eb;have f3:=gz S a1 e;have f4:=dE S ec;have f5:=dE S ed;generalize hF:aV [.ref p,.int d,.int b] h=R
 simp[iO,S.ob,f1,f2,hd,f3,i1,i2,f4,f5,hh,hF,-ao]
 cases R with
 |ok v h1=>dsimp only;cases aV [.ref p,.int c,v] h1<;>rfl
 |ex c h1=>rfl
 |bad=>rfl
def v9(S:ShelfAt h p ps)(a1:1<=a)(d1:1<=d)(ea:(meas ps)[a]?=some ma)(eb:(meas ps)[b]?=some mb)(e:ps[a-1]?=some (.fork c d))(ec:(meas ps)[c]?=some mc)(ed:(meas ps)[d]?=some md)(e2:ps[d-1]?=some (.fork i j))(hd:¬ ma.ht-mb.ht<2)(hh:¬ md.ht<=mc.ht) :
  iO [.ref p,.int a,.int b] h=(aV [.ref p,.int c,.int i] h).bind λv h1=>(dI p (aV [.ref p,.int j,.int b]) h1).bind λw h2=>aV [.ref p,v,w] h2:=by
 have f1:=dE S ea;have f2:=dE S eb;have f3:=gz S a1 e;have f4:=dE S ec;have f5:=dE S ed;have f6:=gz S d1 e2;generalize hF:aV [.ref p,.int c,.int i] h=R
 simp[iO,S.ob,f1,f2,hd,f3,i1,i2,f4,f5,hh,f6,hF,-ao]
 cases R with
 |ok v h1 =>
  unfold dI;dsimp only
  cases hx:h1[p]? with
  |none=>rfl
  |some o =>
   cases o with
   |lst l=>rfl
   |dct q l=>rfl
   |dcx l=>rfl
   |dcz b l=>rfl
   |ins c' l =>
    dsimp only;by_cases z:c'=0
    ·rw[Of z]
     cases aV [.ref p,.int j,.int b] h1 with
     |ok w h2=>dsimp only;cases aV [.ref p,v,w] h2<;>rfl
     |ex c h2=>rfl
     |bad=>rfl
    ·rw[Og z]
 |ex c h1=>rfl
 |bad=>rfl
def KJ(S:ShelfAt h p ps)(g:Good ps)(A:Tx ps a ma x fa la)(B:Tx ps b mb y fb lb)(hc:8<la.sg+fb.sg)(v1:-1<=ma.ht-mb.ht)(v2:ma.ht-mb.ht<=2)(hm:ma.sg+mb.sg<=1000000000000000000)(hz:ps.length+3<16000000) :
  ∃ (n:Nat) (ps':List Pc) (h':AH) (m:Ms),Dn (iO [.ref p,.int a,.int b]) p h h' ps ps' 3 n/\Tx ps' n m (x++y) fa lb/\max ma.ht mb.ht<=m.ht/\m.ht<=max ma.ht mb.ht+1/\(ma.ht-mb.ht<=1->m.ht=max ma.ht mb.ht+1):=by
 by_cases q:ma.ht-mb.ht<2
 ·obtain⟨n,ps',h',d,T⟩:=gw S g A B hc (by omega) ⋯ hm ⋯
  refine⟨n,ps',h',_,d.as S g (λhh pp S' _ pr=>v7 S' (aN pr A.ms) (aN pr B.ms) q) ⋯,T,?_⟩
  rw[bI];lia
 ·obtain⟨c,d,mc,md,y1,y2,lc,fd,e,C,D,rfl,em,w1,w2,w3⟩:=g.cut A (by have:=B.ky.ht;(clear hz hm v2 v1 hc B A g S;omega))
  have sg:=congrArg Ms.sg em;have ht:=congrArg Ms.ht em;rw[gy] at sg;rw[bI] at ht;by_cases r:md.ht<=mc.ht
  ·obtain⟨n1,ps1,h1,d1,T1⟩:=gw S g D B hc ⋯ (by(clear r sg w3 w1 em A D C e q hz hm v1 hc B g S;lia)) ⋯ ⋯
   obtain⟨n2,ps2,h2,d2,T2⟩:=gw d1.dd.sh d1.dd.gd (C.pre d1.dd.pre) T1 w3 (by rw[bI];(clear T1 d1 sg w3 w2 w1 em A D C hz hm v2 v1 hc B g S;lia)) (by rw[bI];lia) (by rw[gy];lia) (by have:=d1.dd.len;lia)
   rw[<- eZ] at T2;refine⟨n2,ps2,h2,_,Dn.seq (F2:=λv h1=>aV [.ref p,.int c,v] h1) S g d1 d2 (λhh pp S' _ pr=>v8 S' A.n1 (aN pr A.ms) (aN pr B.ms) (dw pr e) (aN pr C.ms) (aN pr D.ms) q r) ⋯,T2,?_⟩
   rw[bI,bI];(clear T2 d2 T1 d1 r sg w3 w1 em A D C e hz hm v1 hc B g S;lia)
  ·obtain⟨i,j,mi,mj,z1,z2,li,fj,e2,I,J,rfl,em2,u1,u2,u3⟩:=g.cut D (by have:=C.ky.ht;lia)
   have sg2:=congrArg Ms.sg em2;have ht2:=congrArg Ms.ht em2;rw[gy] at sg2;rw[bI] at ht2;obtain⟨n1,ps1,h1,d1,T1⟩:=gw S g C I w3 (by(clear sg2 u3 u2 em2 A D J I e2 r ht sg w3 w2 em C e q hz hm v2 v1 hc B g S;lia)) (by(clear sg2 u3 u2 em2 A D J I e2 ht sg w3 w2 w1 em C e q hz hm v2 v1 hc B g S;lia)) ⋯ ⋯
   obtain⟨n2,ps2,h2,d2,T2⟩:=gw d1.dd.sh d1.dd.gd (J.pre d1.dd.pre) (B.pre d1.dd.pre) hc ⋯ (by(clear T1 d1 sg2 u3 u2 u1 em2 A D J I e2 sg w3 w2 em C e q hz hm v1 hc B g S;lia)) ⋯ (by have:=d1.dd.len;lia)
   obtain⟨n3,ps3,h3,d3,T3⟩:=gw d2.dd.sh d2.dd.gd (T1.pre d2.dd.pre) T2 u3 (by rw[bI,bI];lia) (by rw[bI,bI];lia) (by rw[gy,gy];lia) (by have:=d1.dd.len;have:=d2.dd.len;lia)
   have d2':Dn (dI p (aV [.ref p,.int j,.int b])) p h1 h2 ps1 ps2 1 n2:=d2.as d1.dd.sh d1.dd.gd (λhh pp S' _ _=>AA S' _) (Oa _);have d23:=Dn.seq (F:=λh1=>(dI p (aV [.ref p,.int j,.int b]) h1).bind λw h2=>aV [.ref p,.int n1,w] h2) (F2:=λw h2=>aV [.ref p,.int n1,w] h2) d1.dd.sh d1.dd.gd d2' d3 (λ_ _ _ _ _=>rfl) (k:=2) ⋯;have ea:(y1++z1)++(z2++y)=y1++(z1++z2)++y:=by rw[eZ,eZ,eZ]
   rw[ea] at T3;refine⟨n3,ps3,h3,_,Dn.seq (F2:=λv h1=>(dI p (aV [.ref p,.int j,.int b]) h1).bind λw h2=>aV [.ref p,v,w] h2) S g d1 d23 (λhh pp S' _ pr=>v9 S' A.n1 D.n1 (aN pr A.ms) (aN pr B.ms) (dw pr e) (aN pr C.ms) (aN pr D.ms) (dw pr e2) q r) ⋯,T3,?_⟩
   rw[bI,bI,bI];exact KI ht ht2 w1 w2 v2 q r
def Dn.seq'{F1 F2:AH->Out AV}{ps2:List Pc}{k n2:Nat}(S:ShelfAt h p ps)(g:Good ps)(d1:Dn F1 p h h1 ps ps1 k1 n1)(d2:Dn F2 p h1 h2 ps1 ps2 k2 n2)(eq:∀ hh hh1 pp,ShelfAt hh p pp->Good pp->ps <+: pp->F1 hh=.ok (.int n1) hh1->F hh=F2 hh1)(hk:k1+k2<=k):Dn F p h h2 ps ps2 k n2:=by
 refine⟨?_,d1.dd.trans d2.dd hk,λh3 ps3 S3 g3 p3=>?_⟩
 ·rw[eq h h1 ps S g (O7 _) d1.ev];exact d2.ev
 ·rw[eq h3 h3 ps3 S3 g3 (d1.dd.pre.trans (d2.dd.pre.trans p3)) (d1.re h3 ps3 S3 g3 (d2.dd.pre.trans p3))]
  exact d2.re h3 ps3 S3 g3 p3
def wa(S:ShelfAt h p ps)(ea:(meas ps)[a]?=some ma)(eb:(meas ps)[b]?=some mb)(h1:ma.ht-mb.ht<=1)(h2:-1<=ma.ht-mb.ht) :
  fM (d+1) [.ref p,.int a,.int b] h=aV [.ref p,.int a,.int b] h:=by
 have f1:=dE S ea;have f2:=dE S eb;have c1:¬ 1<ma.ht-mb.ht:=by lia
 have c2:¬ ma.ht-mb.ht < -1:=by lia
 generalize hF:aV [.ref p,.int a,.int b] h=R
 simp[fM,rN,S.ob,f1,f2,c1,c2,hF]
 cases R<;>rfl
variable{v N:Int}
def wb(S:ShelfAt h p ps)(a1:1<=a)(ea:(meas ps)[a]?=some ma)(eb:(meas ps)[b]?=some mb)(ep:ps[a-1]?=some (.fork c e))(hd:1<ma.ht-mb.ht)(ev:fM d [.ref p,.int e,.int b] h=.ok (.int v) h1) :
  fM (d+1) [.ref p,.int a,.int b] h=gH [.ref p,.int c,.int v] h1:=by
 have f1:=dE S ea;have f2:=dE S eb;have f3:=gz S a1 ep;generalize hF:gH [.ref p,.int c,.int v] h1=R
 simp[fM,rN,S.ob,f1,f2,hd,f3,i1,i2,ev,hF,-ao]
 cases R<;>rfl
def wc(S:ShelfAt h p ps)(b1:1<=b)(ea:(meas ps)[a]?=some ma)(eb:(meas ps)[b]?=some mb)(ep:ps[b-1]?=some (.fork c e))(hd:ma.ht-mb.ht < -1)(ev:fM d [.ref p,.int a,.int c] h=.ok (.int v) h1) :
  fM (d+1) [.ref p,.int a,.int b] h=iO [.ref p,.int v,.int e] h1:=by
 have f1:=dE S ea;have f2:=dE S eb;have f3:=gz S b1 ep;have c1:¬ 1<ma.ht-mb.ht:=by lia
 generalize hF:iO [.ref p,.int v,.int e] h1=R
 simp[fM,rN,S.ob,f1,f2,c1,hd,f3,i1,i2,ev,hF,-ao]
 cases R<;>rfl
def su(a b:Int):a<=max a b/\b<=max a b/\(max a b=a\/max a b=b):=by lia
def KM{a b c e m n:Int}(hh:a=max c e+1)(w1:-1<=c-e)(w2:c-e<=1)(q:1<a-b)(u1:max e b<=m)(u2:m<=max e b+1)(u3:max c m<=n)(u4:n<=max c m+1)(u5:m-c<=1->n=max c m+1):max a b<=n/\n<=max a b+1:=by
 obtain⟨x1,x2,x3⟩:=su c e;obtain⟨y1,y2,y3⟩:=su c m;generalize max c m=l,max c e=k at *;rw[Pz (show b<=e by lia)] at u1 u2
 rw[Pz (show b<=a by lia)];(clear x1 q;omega)
def KN{a b c e m n:Int}(hh:b=max c e+1)(w1:-1<=c-e)(w2:c-e<=1)(q:a-b < -1)(u1:max a c<=m)(u2:m<=max a c+1)(u3:max m e<=n)(u4:n<=max m e+1)(u5:m-e<=1->n=max m e+1):max a b<=n/\n<=max a b+1:=by
 obtain⟨x1,x2,x3⟩:=su c e;obtain⟨y1,y2,y3⟩:=su m e;generalize max m e=l,max c e=k at *;rw[P0 (show a<=c by lia)] at u1 u2
 rw[P0 (show a<=b by lia)];(clear x2 q;omega)
theorem pM{p:Nat}:∀ (d t:Nat) {h:AH} {ps:List Pc} {a b:Nat} {ma mb fa la fb lb:Ms} {x y:Str} (S:ShelfAt h p ps) (g:Good ps) (A:Tx ps a ma x fa la) (B:Tx ps b mb y fb lb) (hc:8<la.sg+fb.sg) (hm:ma.sg+mb.sg<=1000000000000000000)
  (ht:(ma.ht-mb.ht).natAbs<=t) (hd:t<d) (hz:ps.length+3*t+4<16000000),
  ∃ (n:Nat) (ps':List Pc) (h':AH) (m:Ms),Dn (fM d [.ref p,.int a,.int b]) p h h' ps ps' (3*t+1) n/\Tx ps' n m (x++y) fa lb/\max ma.ht mb.ht<=m.ht/\m.ht<=max ma.ht mb.ht+1
 |0,t,h,ps,a,b,ma,mb,fa,la,fb,lb,x,y,S,g,A,B,hc,hm,ht,hd,hz=>absurd hd (Pg t)
 |d+1,t,h,ps,a,b,ma,mb,fa,la,fb,lb,x,y,S,g,A,B,hc,hm,ht,hd,hz=>by
  by_cases q1:1<ma.ht-mb.ht
  ·obtain⟨c,e,mc,me,y1,y2,lc,fe,ep,C,E,rfl,em,w1,w2,w3⟩:=g.cut A (by have:=B.ky.ht;lia)
   have sg:=congrArg Ms.sg em;have hh:=congrArg Ms.ht em;rw[gy] at sg;rw[bI] at hh;obtain⟨n1,ps1,h1,m1,d1,T1,u1,u2⟩:=pM d (t-1) S g E B hc ⋯ ⋯ ⋯ ⋯
   have s1:m1.sg=me.sg+mb.sg:=by rw[T1.ky.sg,eh,<- E.ky.sg,<- B.ky.sg]
   obtain⟨n2,ps2,h2,m2,d2,T2,u3,u4,u5⟩:=AB d1.dd.sh d1.dd.gd (C.pre d1.dd.pre) T1 w3 ⋯ (by(clear s1 u1 T1 sg w3 w2 em A E C hz hd hm hc B g S;lia)) ⋯ (by have:=d1.dd.len;lia)
   rw[<- eZ] at T2;exact⟨n2,ps2,h2,m2,Dn.seq' S g d1 d2 (λhh hh1 pp S' _ pr ev=>wb S' A.n1 (aN pr A.ms) (aN pr B.ms) (dw pr ep) q1 ev) ⋯,T2,KM hh w1 w2 q1 u1 u2 u3 u4 u5⟩
  ·by_cases q2:ma.ht-mb.ht < -1
   ·obtain⟨c,e,mc,me,y1,y2,lc,fe,ep,C,E,rfl,em,w1,w2,w3⟩:=g.cut B (by have:=A.ky.ht;lia)
    have sg:=congrArg Ms.sg em;have hh:=congrArg Ms.ht em;rw[gy] at sg;rw[bI] at hh;obtain⟨n1,ps1,h1,m1,d1,T1,u1,u2⟩:=pM d (t-1) S g A C hc ⋯ ⋯ ⋯ ⋯
    have s1:m1.sg=ma.sg+mc.sg:=by rw[T1.ky.sg,eh,<- A.ky.sg,<- C.ky.sg]
    obtain⟨n2,ps2,h2,m2,d2,T2,u3,u4,u5⟩:=KJ d1.dd.sh d1.dd.gd T1 (E.pre d1.dd.pre) w3 ⋯ ⋯ ⋯ (by have:=d1.dd.len;lia)
    rw[eZ] at T2;exact⟨n2,ps2,h2,m2,Dn.seq' S g d1 d2 (λhh hh1 pp S' _ pr ev=>wc S' B.n1 (aN pr A.ms) (aN pr B.ms) (dw pr ep) q2 ev) ⋯,T2,KN hh w1 w2 q2 u1 u2 u3 u4 u5⟩
   ·obtain⟨n,ps',h',dn,T⟩:=gw S g A B hc ⋯ ⋯ hm ⋯
    exact⟨n,ps',h',_,dn.as S g (λhh pp S' _ pr=>wa S' (aN pr A.ms) (aN pr B.ms) ⋯ ⋯) ⋯,T,by rw[bI];lia,by rw[bI];lia⟩
def nJ(S:ShelfAt h p ps)(n1:1<=n)(e:ps[n-1]?=some (.leaf x)):eX [.ref p,.int n] h=.ok (.tup [.str "leaf",.str x]) h:=(sk S n1 e)
def sv(x:Str)(h:AH):ao (.tup [.str "leaf",.str x]) (.int 0) h=.ok (.str "leaf") h:=(rfl)
def lX(a b:Int)(h:AH):ao (.tup [.str "fork",.int a,.int b]) (.int 0) h=.ok (.str "fork") h:=(rfl)
def sC(x:Str)(h:AH):ao (.tup [.str "leaf",.str x]) (.int 1) h=.ok (.str x) h:=(rfl)
def sD(h:AH):az (.str "leaf") (.str "leaf") h=.ok (.bl true) h:=by simp
def lY(h:AH):az (.str "fork") (.str "leaf") h=.ok (.bl false) h:=by
 have:¬ (Str.ofString "fork"=Str.ofString "leaf"):=by decide +kernel
 simp[this]
def we{L:Int}(S:ShelfAt h p ps)(a1:1<=a)(ep:ps[a-1]?=some (.leaf x)):iu (d+1) [.ref p,.int a,.int L] h=.ok (.int L) h:=by
 simp[iu,vJ,S.ob,nJ S a1 ep,sv,sD,-ao,-az]
def wg{L:Int}(S:ShelfAt h p ps)(a1:1<=a)(ep:ps[a-1]?=some (.fork c e))(ev:iu d [.ref p,.int e,.int L] h=.ok (.int v) h1) :
  iu (d+1) [.ref p,.int a,.int L] h=aV [.ref p,.int c,.int v] h1:=by
 generalize hF:aV [.ref p,.int c,.int v] h1=R
 simp[iu,vJ,S.ob,gz S a1 ep,lX,i1,i2,lY,ev,hF,-ao,-az]
 cases R<;>rfl
def sE{m:Ms}(T:Tx ps n m x f l)(e:m=bD x n):f=m/\l=m:=by
 have h1:=T.ky.fl;have h2:=T.ky.ll;have h3:=T.ms;rw[e] at h1 h2;exact⟨OG (h1.symm.trans h3),OG (h2.symm.trans h3)⟩
theorem AC{p:Nat}:∀ (d:Nat) {h:AH} {ps:List Pc} {a L:Nat} {m f l:Ms} {x w:Str} (S:ShelfAt h p ps) (g:Good ps) (T:Tx ps a m x f l) (N:Tx ps L (bD w L) w (bD w L) (bD w L)) (hw:l.sg<=w.length) (hm:m.sg+w.length<=1000000000000000000+l.sg) (hd:m.ht.toNat<d) (hz:ps.length+m.ht.toNat<16000000),
  ∃ (n:Nat) (ps':List Pc) (h':AH) (m' f':Ms) (u v:Str),Dn (iu d [.ref p,.int a,.int L]) p h h' ps ps' m.ht.toNat n/\x=u++v/\v.length=l.sg/\Tx ps' n m' (u++w) f' (bD w L)/\m'.ht=m.ht/\f.sg<=f'.sg
 |0,h,ps,a,L,m,f,l,x,w,S,g,T,N,hw,hm,hd,hz=>absurd hd (Pg _)
 |d+1,h,ps,a,L,m,f,l,x,w,S,g,T,N,hw,hm,hd,hz=>by
  by_cases q:0<m.ht
  ·obtain⟨c,e,mc,me,y1,y2,lc,fe,ep,C,E,rfl,em,w1,w2,w3⟩:=g.cut T q
   have sg:=congrArg Ms.sg em;have hh:=congrArg Ms.ht em;rw[gy] at sg;rw[bI] at hh;have c0:=C.ky.ht
   have e0:=E.ky.ht;obtain⟨n1,ps1,h1,m1,f1,u,v,d1,rfl,lv,T1,k1,k2⟩:=AC d S g E N hw ⋯ ⋯ ⋯;have s1:m1.sg+l.sg=me.sg+w.length:=by rw[T1.ky.sg,E.ky.sg,eh,eh];lia
   obtain⟨n2,ps2,h2,d2,T2⟩:=gw d1.dd.sh d1.dd.gd (C.pre d1.dd.pre) T1 ⋯ ⋯ ⋯ ⋯ (by have:=d1.dd.len;lia)
   rw[<- eZ] at T2;exact⟨n2,ps2,h2,_,f,y1++u,v,Dn.seq' S g d1 d2 (λhh hh1 pp S' _ pr ev=>wg S' T.n1 (dw pr ep) ev) ⋯,by rw[eZ],lv,T2,by rw[bI,k1,hh],Oa _⟩
  ·rcases g.kind T with⟨e1,e2,e3,e4,e5⟩|⟨c,e,mc,me,y1,y2,fc,lc,fe,le,e1,e2,e3,C,E,e4,e5,e6⟩
   ·obtain⟨z1,z2⟩:=sE T e3
    subst z1 z2
    have em:("" : Str)++x=x:=cz (by rw[dq];rfl)
    have em2:("" : Str)++w=w:=cz (by rw[dq];rfl)
    have dv:Dn (iu (d+1) [.ref p,.int a,.int L]) p h h ps ps 0 L:=Dn.val S g λhh pp S' _ pr=>we S' T.n1 (dw pr e1)
    refine⟨L,ps,h,_,_, "",x,dv.as S g (λ_ _ _ _ _=>rfl) (OH _),em.symm,T.ky.sg.symm,by rw[em2];exact N,e2.symm,hw⟩
   ·have:=congrArg Ms.ht e5
    rw[bI] at this;have c0:=C.ky.ht
    (clear e6 e5 e4 E C e3 e2 e1 hz hd hm hw N T g S;omega)
def wj(S:ShelfAt h p ps)(a1:1<=a)(ep:ps[a-1]?=some (.leaf x)):fV (d+1) [.ref p,.int a] h=.ok (.int (0:Nat)) h:=by
 simp[fV,rM,S.ob,nJ S a1 ep,sv,sD,-ao,-az]
def pN(S:ShelfAt h p ps)(a1:1<=a)(ep:ps[a-1]?=some (.fork c e))(ev:fV d [.ref p,.int c] h=.ok (.int (0:Nat)) h1) :
  fV (d+1) [.ref p,.int a] h=.ok (.int e) h1:=by
 have z:az (.int 0) (.int 0) h1=.ok (.bl true) h1:=by simp
 simp[fV,rM,S.ob,gz S a1 ep,lX,i1,i2,lY,ev,z,-ao,-az]
def wk{v:Nat}(S:ShelfAt h p ps)(a1:1<=a)(ep:ps[a-1]?=some (.fork c e))(v1:1<=v)(ev:fV d [.ref p,.int c] h=.ok (.int v) h1) :
  fV (d+1) [.ref p,.int a] h=gH [.ref p,.int v,.int e] h1:=by
 have z:az (.int (v:Int)) (.int 0) h1=.ok (.bl false) h1:=by
  have:¬ (v=0):=by lia
  simp[this]
 generalize hF:gH [.ref p,.int v,.int e] h1=R
 simp[fV,rM,S.ob,gz S a1 ep,lX,i1,i2,lY,ev,z,hF,-ao,-az]
 cases R<;>rfl
theorem AD{p:Nat}:∀ (d:Nat) {h:AH} {ps:List Pc} {a:Nat} {m f l:Ms} {x:Str} (S:ShelfAt h p ps) (g:Good ps) (T:Tx ps a m x f l) (hd:m.ht.toNat<d) (hz:ps.length+3*m.ht.toNat<16000000),
  (m.ht=0/\f.sg=x.length/\Dn (fV d [.ref p,.int a]) p h h ps ps 0 0) \/
  (0<m.ht/\∃ (n:Nat) (ps':List Pc) (h':AH) (m' f2:Ms) (u v:Str),Dn (fV d [.ref p,.int a]) p h h' ps ps' (3*m.ht.toNat) n/\x=u++v/\u.length=f.sg/\Tx ps' n m' v f2 l/\m.ht-1<=m'.ht/\m'.ht<=m.ht/\8<f.sg+f2.sg)
 |0,h,ps,a,m,f,l,x,S,g,T,hd,hz=>absurd hd (Pg _)
 |d+1,h,ps,a,m,f,l,x,S,g,T,hd,hz=>by
  by_cases q:0<m.ht
  ·obtain⟨c,e,mc,me,y1,y2,lc,fe,ep,C,E,rfl,em,w1,w2,w3⟩:=g.cut T q
   have sg:=congrArg Ms.sg em;have hh:=congrArg Ms.ht em;rw[gy] at sg;rw[bI] at hh;have c0:=C.ky.ht
   have e0:=E.ky.ht;have most:=T.ky.most;refine .inr ⟨q,?_⟩
   rcases AD d S g C (by(clear most e0 c0 sg w3 w2 w1 em T E C ep hz g S;lia)) (by(clear most e0 c0 sg w3 w2 w1 em T E C ep hd g S;lia)) with⟨k1,k2,d1⟩|⟨k1,n1,ps1,h1,m1,f2,u,v,d1,rfl,lu,T1,r1,r2,r3⟩
   ·rcases g.kind C with⟨e1,e2,e3,e4,e5⟩|⟨_,_,mx,my,_,_,_,_,_,_,_,_,_,X,Y,_,e5,_⟩
    ·obtain⟨z1,z2⟩:=sE C e3
     have dv:Dn (fV (d+1) [.ref p,.int a]) p h h ps ps 0 e:=by
      refine⟨pN S T.n1 ep d1.ev,Dd.refl S g,λh3 ps3 S3 g3 p3=>pN S3 T.n1 (dw p3 ep) (d1.re h3 ps3 S3 g3 p3)⟩
     exact⟨e,ps,h,me,fe,y1,y2,dv.as S g (λ_ _ _ _ _=>rfl) (OH _),rfl,k2.symm,E,by lia,by lia,by rw[z1];rw[z2] at w3;exact w3⟩
    ·have:=congrArg Ms.ht e5
     rw[bI] at this;have:=X.ky.ht
     (clear e5 Y X d1 k2 most e0 c0 hh sg w3 w2 w1 em T E C ep q hz hd g S;omega)
   ·have s1:m1.sg+f.sg=mc.sg:=by rw[T1.ky.sg,C.ky.sg,eh];lia
    obtain⟨n2,ps2,h2,m2,d2,T2,u3,u4,u5⟩:=AB d1.dd.sh d1.dd.gd T1 (E.pre d1.dd.pre) w3 ⋯ ⋯ ⋯ (by have:=d1.dd.len;lia)
    refine⟨n2,ps2,h2,m2,f2,u,v++y2,Dn.seq' S g d1 d2 (λhh hh1 pp S' _ pr ev=>wk S' T.n1 (dw pr ep) T1.n1 ev) ⋯,by rw[eZ],lu,T2,?_,?_,r3⟩
    ·(clear u4 T2 d2 s1 r3 r2 T1 lu T C d1 k1 most e0 c0 sg w3 w1 em E q hz hd g S;lia)
    ·(clear u3 T2 d2 s1 r3 r1 T1 lu T C d1 k1 most e0 c0 sg w3 em E q hz g S;lia)
  ·rcases g.kind T with⟨e1,e2,e3,e4,e5⟩|⟨_,_,mx,my,_,_,_,_,_,_,_,_,_,X,Y,_,e5,_⟩
   ·obtain⟨z1,z2⟩:=sE T e3
    exact .inl ⟨e2,by rw[z1];exact T.ky.sg,Dn.val S g λhh pp S' _ pr=>wj S' T.n1 (dw pr e1)⟩
   ·have:=congrArg Ms.ht e5
    rw[bI] at this;have:=X.ky.ht
    lia
theorem Good.ends{ps:List Pc}(g:Good ps):∀ (k n:Nat) {m f l:Ms} {x:Str},n<=k->Tx ps n m x f l ->
  (∃ w u:Str,1<=m.fl/\ps[m.fl-1]?=some (.leaf w)/\x=w++u/\w.length=f.sg)/\(∃ w u:Str,1<=m.ll/\ps[m.ll-1]?=some (.leaf w)/\x=u++w/\w.length=l.sg)
 |0,n,m,f,l,x,hn,T=>absurd T.n1 ⋯
 |k+1,n,m,f,l,x,hn,T=>by
  rcases g.kind T with⟨e1,e2,e3,e4,e5⟩|⟨a,b,ma,mb,y,z,fa,la,fb,lb,e1,e2,e3,A,B,rfl,e5,e6⟩
  ·obtain⟨z1,z2⟩:=sE T e3
   have em:("" : Str)++x=x:=cz (by rw[dq];rfl)
   have em2:x++("" : Str)=x:=cz (by rw[dq];simp;rfl)
   have hf:m.fl=n:=by rw[e3];rfl
   have hl:m.ll=n:=by rw[e3];rfl
   have hx:=T.ky.sg;refine⟨⟨x, "",by rw[hf];exact T.n1,by rw[hf];exact e1,em2.symm,by rw[z1];exact hx.symm⟩,⟨x, "",by rw[hl];exact T.n1,by rw[hl];exact e1,em.symm,by rw[z2];exact hx.symm⟩⟩
  ·have q1:=g.ends k a ⋯ A
   have q2:=g.ends k b ⋯ B;obtain⟨⟨w,u,a1,a2,rfl,a4⟩,_⟩:=q1;obtain⟨_,⟨w2,u2,b1,b2,rfl,b4⟩⟩:=q2;have f1:=T.ky.fl;have l1:=T.ky.ll;have hf:m.fl=ma.fl:=by rw[e5];rfl
   have hl:m.ll=mb.ll:=by rw[e5];rfl
   rw[hf] at f1;rw[hl] at l1;have z5:=f1.symm.trans A.ky.fl;cases z5
   have z6:=l1.symm.trans B.ky.ll;cases z6
   rw[hf,hl];exact⟨⟨w,u++(u2++w2),a1,a2,by rw[eZ],a4⟩,⟨w2,w++u++u2,b1,b2,by rw[eZ (w++u)],b4⟩⟩
def AE{a b c d:Str}(e:a++b=c++d)(h:a.length=c.length):a=c/\b=d:=by
 have:=congrArg (λz:Str=>z.cps.toList) e;simp only[dq] at this
 obtain⟨h1,h2⟩:=List.append_inj this (by rw[<- cT,<- cT];exact h)
 exact⟨cz h1,cz h2⟩
def KP{a b c d:Str}(e:a++b=c++d)(h:b.length=d.length):a=c/\b=d:=by
 refine AE e ?_
 have:=congrArg Str.length e;rw[eh,eh] at this;lia
def KQ(S:ShelfAt h p ps)(ea:(meas ps)[a]?=some ma)(eb:(meas ps)[b]?=some mb)(el:(meas ps)[ma.ll]?=some la)(ef:(meas ps)[mb.fl]?=some fb) :
  rL [.ref p,.int a,.int b] h=.ok (.bl (decide (8<la.sg+fb.sg))) h:=by
 have e1:=Ax S ea;have e2:=Aw S eb;have e3:=dH S el;have e4:=dH S ef;have:decide ((8:Int)<(la.sg:Int)+fb.sg)=decide (8<la.sg+fb.sg):=by apply decide_eq_decide.mpr;lia
 simp[rL,S.ob,e1,e2,e3,e4,this]
def KR{v:Str}(hw:w.length+v.length<=100)(h:AH):aB (.str w) (.str v) h=.ok (.str (w++v)) h:=by
 have:w.length+v.length<=sizeLine:=Oc hw 'd'
 simp[aB,this]
def jI{h3:AH}{L n k:Int}{v:Str}(S:ShelfAt h p ps)(ea:(meas ps)[a]?=some ma)(eb:(meas ps)[b]?=some mb)(l1:1<=ma.ll)(f1:1<=mb.fl)(el:ps[ma.ll-1]?=some (.leaf w))(ef:ps[mb.fl-1]?=some (.leaf v))(hw:w.length+v.length<=100)(e1:eC [.ref p,.str (w++v)] h=.ok (.int L) h1)(e2:iu 90 [.ref p,.int a,.int L] h1=.ok (.int n) h2)(e3:fV 90 [.ref p,.int b] h2=.ok (.int k) h3) :
  lM [.ref p,.int a,.int b] h=if k=0 then .ok (.int n) h3 else fM 90 [.ref p,.int n,.int k] h3:=by
 have q1:=Ax S ea;have q2:=Aw S eb;have q3:=nJ S l1 el;have q4:=nJ S f1 ef;have ad:=KR hw h;unfold lM;generalize hF:fM 90=LK,fV 90=WF,iu 90=WL at *;by_cases z:k=0
 ·subst z
  have zz:az (.int 0) (.int 0) h3=.ok (.bl true) h3:=by simp
  simp[S.ob,q1,q2,q3,q4,sC,ad,e1,e2,e3,zz,-ao,-az,-aB]
 ·have zz:az (.int k) (.int 0) h3=.ok (.bl false) h3:=by simp[z]
  rw[Og z];generalize hR:LK [.ref p,.int n,.int k] h3=R
  simp[S.ob,q1,q2,q3,q4,sC,ad,e1,e2,e3,zz,hR,-ao,-az,-aB]
  cases R<;>rfl
def KS{v:Str}(h1:1<=w.length)(h2:w.length+v.length<=8)(pw:bQ w=true)(pv:bQ v=true):fX (w++v)=true:=by
 unfold fX;rw[pI,eh,pw,pv];simp;lia
def AF(S:ShelfAt h p ps)(g:Good ps)(A:Tx ps a ma x fa la)(B:Tx ps b mb y fb lb)(hc:¬ 8<la.sg+fb.sg)(hm:ma.sg+mb.sg<=1000000000000000000)(hz:ps.length<15000000) :
  ∃ (n:Nat) (ps':List Pc) (h':AH) (m f l:Ms),Dn (lM [.ref p,.int a,.int b]) p h h' ps ps' (7*(max ma.ht mb.ht).toNat+2) n/\Tx ps' n m (x++y) f l/\m.ht<=max ma.ht mb.ht+1:=by
 obtain⟨_,w,u,l1,el,ex,lw⟩:=g.ends a a (Oa _) A;obtain⟨⟨v,t,f1,ef,ey,lv⟩,_⟩:=g.ends b b (Oa _) B;have a0:=A.ky.ht;have b0:=B.ky.ht;have ha:=e7 g A;have hb:=e7 g B;have px:bQ x=true:=A.ky.pl;have py:bQ y=true:=B.ky.pl;have pw:bQ w=true:=by rw[ex,pI,OT] at px;exact px.2
 have pv:bQ v=true:=by rw[ey,pI,OT] at py;exact py.1
 have la1:=A.ky.l1;have fb1:=B.ky.f1;have sx:=A.ky.sg;have sy:=B.ky.sg;have lx:x.length=u.length+w.length:=by rw[ex,eh]
 have ly:y.length=v.length+t.length:=by rw[ey,eh]
 have lwv:(w++v).length=w.length+v.length:=eh w v;obtain⟨L,ps1,h1,d1,N⟩:=sr S g (KS (w:=w) (v:=v) ⋯ ⋯ pw pv) ⋯;have z1:=d1.dd.len;obtain⟨n2,ps2,h2,m2,f2,u2,v2,d2,ex2,lv2,T2,k1,k2⟩:=AC 90 d1.dd.sh d1.dd.gd (A.pre d1.dd.pre) N ⋯ ⋯ ⋯ ⋯;have z2:=d2.dd.len;obtain⟨rfl,rfl⟩:u=u2/\w=v2:=KP (ex.symm.trans ex2) ⋯;have s2:m2.sg=u.length+(w.length+v.length):=by rw[T2.ky.sg,eh,eh]
 have p12:=d1.dd.pre.trans d2.dd.pre;have lm:(bD (w++v) L).sg=w.length+v.length:=eh w v;have tb:∀ q:Int,0<=q->q<=max ma.ht mb.ht->q.toNat<=(max ma.ht mb.ht).toNat:=λq _ _=>by lia
 rcases AD 90 d2.dd.sh d2.dd.gd (B.pre p12) ⋯ ⋯ with⟨r1,r2,d3⟩|⟨r1,n3,ps3,h3,m3,f3,u3,v3,d3,ey3,lu3,T3,r2,r3,r4⟩
 ·have t0:t.length=0:=by lia
  have te:t="" := cz (by rw[cT] at t0;rw[Ph.mp t0];rfl)
  have rd:u++(w++v)=x++y:=by
   rw[ex,ey,te,eZ];congr 2
  rw[rd] at T2;refine⟨n2,ps2,h2,m2,f2,_,⟨?_,d1.dd.trans d2.dd ⋯,λh4 ps4 S4 g4 p4=>?_⟩,T2,by lia⟩
  ·rw[jI S A.ms B.ms l1 f1 el ef ⋯ d1.ev d2.ev d3.ev];rfl
  ·have q1:=d1.re h4 ps4 S4 g4 (d2.dd.pre.trans p4)
   have q2:=d2.re h4 ps4 S4 g4 p4;have q3:=d3.re h4 ps4 S4 g4 p4;rw[jI S4 (aN (p12.trans p4) A.ms) (aN (p12.trans p4) B.ms) l1 f1 (dw (p12.trans p4) el) (dw (p12.trans p4) ef) ⋯ q1 q2 q3];rfl
 ·obtain⟨rfl,rfl⟩:v=u3/\t=v3:=AE (ey.symm.trans ey3) ⋯
  have z3:=d3.dd.len;have s3:m3.sg=t.length:=T3.ky.sg;have m30:=T3.ky.ht;obtain⟨n4,ps4,h4,m4,d4,T4,r5,r6⟩:=pM 90 (max ma.ht mb.ht).toNat d3.dd.sh d3.dd.gd (T2.pre d3.dd.pre) T3 ⋯ ⋯ (by(clear m30 s3 ey3 T3 lu3 d3 lm p12 s2 ex2 lv2 T2 z2 k2 d2 z1 N d1 lwv ly lx sy sx fb1 la1 pv pw py px hb ha lv ey ef f1 lw ex el l1 hz hm hc B A g S;lia)) ⋯ ⋯;have rd:(u++(w++v))++t=x++y:=by rw[ex,ey,eZ,eZ,eZ]
  rw[rd] at T4;have n3z:¬ (n3:Int)=0:=by have:=T3.n1;lia
  have p123:=p12.trans d3.dd.pre;refine⟨n4,ps4,h4,m4,f2,lb,⟨?_,((d1.dd.trans d2.dd (Oa _)).trans d3.dd (Oa _)).trans d4.dd ⋯,λh5 ps5 S5 g5 p5=>?_⟩,T4,by lia⟩
  ·rw[jI S A.ms B.ms l1 f1 el ef ⋯ d1.ev d2.ev d3.ev,Og n3z];exact d4.ev
  ·have p45:=d4.dd.pre.trans p5
   have q1:=d1.re h5 ps5 S5 g5 (d2.dd.pre.trans (d3.dd.pre.trans p45));have q2:=d2.re h5 ps5 S5 g5 (d3.dd.pre.trans p45);have q3:=d3.re h5 ps5 S5 g5 p45;have q4:=d4.re h5 ps5 S5 g5 p5;have pa:=p123.trans p45;rw[jI S5 (aN pa A.ms) (aN pa B.ms) l1 f1 (dw pa el) (dw pa ef) ⋯ q1 q2 q3,Og n3z];exact q4
def TxZ(ps:List Pc)(n:Nat)(y:Str):Prop:=(n=0/\y="")\/∃ m f l,Tx ps n m y f l
def TxZ.pre{ps ps':List Pc}{n:Nat}{y:Str}(t:TxZ ps n y)(h:ps <+: ps'):TxZ ps' n y:=by
 rcases t with t|⟨m,f,l,t⟩
 ·exact .inl t
 ·exact .inr ⟨m,f,l,t.pre h⟩
def pO(ps:List Pc):(meas ps)[0]?=some ms0:=by
 obtain⟨r,e,_⟩:=pG iP ps [ms0];rw[meas,e];rfl
def aT(ps:List Pc)(n:Nat):Int:=((meas ps).getD n ms0).ht
def eF{m:Ms}(e:(meas ps)[n]?=some m):aT ps n=m.ht:=by unfold aT;rw[pJ e]
def pP(ps:List Pc):aT ps 0=-1:=(eF (pO ps))
def pQ{i:Int}(hi:i<=1000000000000000000)(h:AH):nz [.int i] h=.ok .non h:=by
 have:¬ (1000000000000000000:Int)<i:=by lia
 simp[nz,this]
def pR(S:ShelfAt h p ps)(eb:(meas ps)[b]?=some mb)(hm:mb.sg<=1000000000000000000):bW [.ref p,.int (0:Nat),.int b] h=.ok (.int b) h:=by
 have e1:=dH S (pO ps);have e2:=dH S eb;have z:ms0.sg=0:=rfl;rw[z] at e1;have e1':eV [.ref p,.int 0] h=.ok (.int 0) h:=e1
 have ck:=pQ (i:=(0:Int)+mb.sg) ⋯ h;have zz:az (.int 0) (.int 0) h=.ok (.bl true) h:=by simp
 have ad:aB (.int 0) (.int mb.sg) h=.ok (.int (0+mb.sg)) h:=rfl;simp[bW,S.ob,e1',e2,ad,ck,zz,-az,-aB,-Int.zero_add]
def pS(S:ShelfAt h p ps)(a1:1<=a)(ea:(meas ps)[a]?=some ma)(hm:ma.sg<=1000000000000000000):bW [.ref p,.int a,.int (0:Nat)] h=.ok (.int a) h:=by
 have e1:=dH S (pO ps);have e2:=dH S ea;have z:ms0.sg=0:=rfl;rw[z] at e1;have e1':eV [.ref p,.int 0] h=.ok (.int 0) h:=e1
 have ck:=pQ (i:=(ma.sg:Int)+0) ⋯ h;have zz:az (.int 0) (.int 0) h=.ok (.bl true) h:=by simp
 have z2:az (.int a) (.int 0) h=.ok (.bl false) h:=by
  have:¬ a=0:=by lia
  simp[this]
 have ad:aB (.int ma.sg) (.int 0) h=.ok (.int (ma.sg+0)) h:=rfl;simp[bW,S.ob,e1',e2,ad,ck,zz,z2,-az,-aB,-Int.add_zero]
def jJ(S:ShelfAt h p ps)(a1:1<=a)(b1:1<=b)(ea:(meas ps)[a]?=some ma)(eb:(meas ps)[b]?=some mb)(el:(meas ps)[ma.ll]?=some la)(ef:(meas ps)[mb.fl]?=some fb)(hm:ma.sg+mb.sg<=1000000000000000000) :
  bW [.ref p,.int a,.int b] h=if 8<la.sg+fb.sg then fM 90 [.ref p,.int a,.int b] h else lM [.ref p,.int a,.int b] h:=by
 have e1:=dH S ea;have e2:=dH S eb;have cl:=KQ S ea eb el ef;have ck:=pQ (i:=(ma.sg:Int)+mb.sg) ⋯ h;have z1:az (.int a) (.int 0) h=.ok (.bl false) h:=by
  have:¬ a=0:=by lia
  simp[this]
 have z2:az (.int b) (.int 0) h=.ok (.bl false) h:=by
  have:¬ b=0:=by lia
  simp[this]
 have ad:aB (.int ma.sg) (.int mb.sg) h=.ok (.int (ma.sg+mb.sg)) h:=rfl;unfold bW;generalize fM 90=LK at *;by_cases q:8<la.sg+fb.sg
 ·rw[Of q]
  generalize hR:LK [.ref p,.int a,.int b] h=R
  simp[S.ob,e1,e2,ad,ck,z1,z2,cl,q,hR,-az,-aB]
  cases R<;>rfl
 ·rw[Og q]
  generalize hR:lM [.ref p,.int a,.int b] h=R
  simp[S.ob,e1,e2,ad,ck,z1,z2,cl,q,hR,-az,-aB]
  cases R<;>rfl
def TxZ.meas{ps:List Pc}{n:Nat}{y:Str}(t:TxZ ps n y):∃ m,(meas ps)[n]?=some m/\m.sg=y.length:=by
 rcases t with⟨rfl,rfl⟩|⟨m,f,l,T⟩
 ·exact⟨ms0,pO ps,rfl⟩
 ·exact⟨m,T.ms,T.ky.sg⟩
def wo(S:ShelfAt h p ps)(g:Good ps)(A:TxZ ps a x)(B:TxZ ps b y)(hm:x.length+y.length<=1000000000000000000)(hz:ps.length<15000000) :
  ∃ (n:Nat) (ps':List Pc) (h':AH),Dn (bW [.ref p,.int a,.int b]) p h h' ps ps' (16*(max (aT ps a) (aT ps b)+1).toNat) n/\TxZ ps' n (x++y):=by
 rcases A with⟨rfl,rfl⟩|⟨ma,fa,la,A⟩
 ·obtain⟨mb,eb,sb⟩:=B.meas
  have em:("" : Str)++y=y:=cz (by rw[dq];rfl)
  have dv:Dn (bW [.ref p,.int (0:Nat),.int b]) p h h ps ps 0 b:=Dn.val S g λhh pp S' _ pr=>pR S' (aN pr eb) (by rw[sb];lia)
  exact⟨b,ps,h,dv.as S g (λ_ _ _ _ _=>rfl) (OH _),by rw[em];exact B⟩
 ·rcases B with⟨rfl,rfl⟩|⟨mb,fb,lb,B⟩
  ·have em:x++("" : Str)=x:=cz (by rw[dq];simp;rfl)
   have dv:Dn (bW [.ref p,.int a,.int (0:Nat)]) p h h ps ps 0 a:=Dn.val S g λhh pp S' _ pr=>pS S' A.n1 (aN pr A.ms) A.ky.most
   exact⟨a,ps,h,dv.as S g (λ_ _ _ _ _=>rfl) (OH _),by rw[em];exact .inr ⟨_,_,_,A⟩⟩
  ·have sa:=A.ky.sg
   have sb:=B.ky.sg;have a0:=A.ky.ht;have b0:=B.ky.ht;have ha:=e7 g A;have hb:=e7 g B;rw[eF A.ms,eF B.ms];by_cases q:8<la.sg+fb.sg
   ·obtain⟨n,ps',h',m,d,T,_⟩:=pM 90 (max ma.ht mb.ht).toNat S g A B q ⋯ ⋯ ⋯ ⋯
    exact⟨n,ps',h',d.as S g (λhh pp S' _ pr=>by rw[jJ S' A.n1 B.n1 (aN pr A.ms) (aN pr B.ms) (aN pr A.ky.ll) (aN pr B.ky.fl) ⋯,Of q]) ⋯,.inr ⟨_,_,_,T⟩⟩
   ·obtain⟨n,ps',h',m,f,l,d,T,_⟩:=AF S g A B q ⋯ hz
    exact⟨n,ps',h',d.as S g (λhh pp S' _ pr=>by rw[jJ S' A.n1 B.n1 (aN pr A.ms) (aN pr B.ms) (aN pr A.ky.ll) (aN pr B.ky.fl) ⋯,Og q]) ⋯,.inr ⟨_,_,_,T⟩⟩
def KU(be:b<=e):(bM y (some (b:Int)) (some (e:Int))).cps.toList=(y.cps.toList.drop b).take (e-b):=by
 unfold bM;rw[HT.sIx_nat,HT.sIx_nat];generalize y.cps.toList=l
 show (l.drop (min b l.length)).take (min e l.length-min b l.length)=_
 apply SV
 intro i;rw[P6,P6,Qt,Qt];by_cases q:b<=l.length
 ·rw[Pn q]
  by_cases c1:i<e-b
  ·rw[Of c1]
   by_cases c2:i<min e l.length-b
   ·rw[Of c2]
   ·rw[Og c2,Pp ⋯]
  ·rw[Og c1,Og ⋯]
 ·rw[Og ⋯,Pp (l:=l) (i:=b+i) ⋯]
  split<;>rfl
def fO:List Str->Str
 |[] => ""
 |w::ws=>w++fO ws
theorem wq:∀ as bs:List Str,fO (as++bs)=fO as++fO bs
 |[],bs=>(cz (by rw[dq];rfl):fO bs=("" : Str)++fO bs)
 |w::as,bs=>by
  show w++fO (as++bs)=(w++fO as)++fO bs
  rw[wq as bs,eZ]
def AG(w:Str):fO [w]=w:=(cz (by show (w++("" : Str)).cps.toList=_;rw[dq];simp;rfl))
def LS(ps:List Pc)(ns:List Nat)(ws:List Str):Prop:=ns.length=ws.length/\∀ (i n:Nat) (w:Str),ns[i]?=some n->ws[i]?=some w->Tx ps n (bD w n) w (bD w n) (bD w n)
def LS.pre{ps ps':List Pc}{ns:List Nat}{ws:List Str}(s:LS ps ns ws)(h:ps <+: ps'):LS ps' ns ws:=(⟨s.1,λi n w a b=>(s.2 i n w a b).pre h⟩)
def LS.take{ps:List Pc}{ns:List Nat}{ws:List Str}(s:LS ps ns ws)(k:Nat):LS ps (ns.take k) (ws.take k):=by
 refine⟨by simp[s.1],λi n w a b=>?_⟩
 rw[P6] at a b;by_cases q:i<k
 ·rw[Of q] at a b;exact s.2 i n w a b
 ·rw[Og q] at a;cases a
def LS.drop{ps:List Pc}{ns:List Nat}{ws:List Str}(s:LS ps ns ws)(k:Nat):LS ps (ns.drop k) (ws.drop k):=by
 refine⟨by simp[s.1],λi n w a b=>?_⟩
 rw[Qt] at a b;exact s.2 _ n w a b
abbrev eu(ns:List Nat):List AV:=ns.map λn:Nat=>AV.int (n:Int)
def wt:iq (d+1) [.ref p,.fl (eu [n])] h=.ok (.int n) h:=by
 have ix:ao (.fl [.int (n:Int)]) (.int 0) h=.ok (.int n) h:=rfl;simp[iq,vI,ix,-ao]
def KW(l:List α){k:Nat}(hk:k<=l.length):dX l none (some (k:Int))=l.take k:=by
 unfold dX;rw[HT.sIx_nat,HT.sIx_none,Pn hk];simp
def KY(l:List α){k:Nat}(hk:k<=l.length):dX l (some (k:Int)) none=l.drop k:=by
 unfold dX;rw[HT.sIx_nat,HT.sIx_none,Pn hk,OQ 's']
def wu{ns:List Nat}{v1 v2:Int}(S:ShelfAt h p ps)(hl:2<=ns.length)(e1:iq d [.ref p,.fl (eu (ns.take (ns.length / 2)))] h=.ok (.int v1) h1)(e2:iq d [.ref p,.fl (eu (ns.drop (ns.length / 2)))] h1=.ok (.int v2) h2) :
  iq (d+1) [.ref p,.fl (eu ns)] h=aV [.ref p,.int v1,.int v2] h2:=by
 have hh:ns.length / 2<=ns.length:=Nat.div_le_self _ _;have ln:aI [.fl (eu ns)] h=.ok (.int ns.length) h:=by simp[aI]
 have q:az (.int ns.length) (.int 1) h=.ok (.bl false) h:=by
  have:¬ (ns.length:Int)=1:=by lia
  simp[this]
 have dv:cQ (.int ns.length) (.int 2) h=.ok (.int (ns.length / 2:Nat)) h:=rfl;have c1:dh (.fl (eu ns)) none (some (ns.length / 2:Nat)) h=.ok (.fl (eu (ns.take (ns.length / 2)))) h:=by
  have:=KW (eu ns) (k:=ns.length / 2) (by simpa using hh);simp only[dh,this,eu,SA]
 have c2:∀ h,dh (.fl (eu ns)) (some (ns.length / 2:Nat)) none h=.ok (.fl (eu (ns.drop (ns.length / 2)))) h:=λh=>by
  have:=KY (eu ns) (k:=ns.length / 2) (by simpa using hh);simp only[dh,this,eu,List.map_drop]
 generalize hF:aV [.ref p,.int v1,.int v2] h2=R
 unfold iq vI;generalize (ns.length:Int)=K,((ns.length / 2:Nat):Int)=M,eu (ns.drop (ns.length / 2))=Z2,eu (ns.take (ns.length / 2))=Z1,eu ns=Z at *;simp[S.ob,ln,q,dv,c1,c2,e1,e2,hF,-aI,-az,-cQ,-dh]
 cases R<;>rfl
def KZ{ha:Nat}(ab:b<=a+1)(h1:a<=2 ^ ha)(h2:hb=0\/2 ^ (hb-1)<b):hb<=ha+1:=by
 rcases h2 with h2|h2
 ·lia
 ·have:2 ^ (hb-1)<=2 ^ ha:=by lia
  have:=(Nat.pow_le_pow_iff_right (a:=2) 'd').mp this;lia
def K0{ha:Nat}(ab:a<=b)(h1:b<=2 ^ hb)(h2:ha=0\/2 ^ (ha-1)<a):ha<=hb:=by
 rcases h2 with h2|h2
 ·lia
 ·have:2 ^ (ha-1)<2 ^ hb:=by lia
  have:=(Nat.pow_lt_pow_iff_right (a:=2) 'd').mp this;lia
def K1{k:Nat}(h1:k<=2*b)(h2:2*b<=k+1)(h3:2<=k)(h4:b<=2 ^ hb)(h5:hb=0\/2 ^ (hb-1)<b):k<=2 ^ (hb+1)/\2 ^ (hb+1-1)<k:=by
 rw[RH,SG];refine⟨by lia,?_⟩
 rcases h5 with h5|h5
 ·subst h5;simp;lia
 ·cases hb with
  |zero=>simp;lia
  |succ n =>
   rw[SG] at h5;rw[RH];lia
def K3{k:Nat}(h:k<=2 ^ (e+1)):k / 2<=2 ^ e/\k-k / 2<=2 ^ e:=by rw[RH] at h;lia
theorem wx{p:Nat}:∀ (d e:Nat) {h:AH} {ps:List Pc} {ns:List Nat} {ws:List Str},ShelfAt h p ps->Good ps->LS ps ns ws->1<=ns.length->ns.length<=2 ^ e->e<d->(∀ (i:Nat) (w:Str),ws[i]?=some w->i+1<ws.length->w.length=8)->ps.length+ns.length<16000000->ns.length<=10000 ->
  ∃ (n:Nat) (ps':List Pc) (h':AH) (m f l:Ms) (H:Nat),iq d [.ref p,.fl (eu ns)] h=.ok (.int n) h'/\Dd p h h' ps ps' (ns.length-1)/\Tx ps' n m (fO ws) f l/\m.ht=H/\ns.length<=2 ^ H/\(H=0\/2 ^ (H-1)<ns.length)/\((∀ w∈ws,w.length=8)->l.sg=8)/\m.sg<=8*ns.length
 |0,e,h,ps,ns,ws,S,g,LL,h1,h2,h3,h4,h5,h6=>absurd h3 (Pg _)
 |d+1,e,h,ps,ns,ws,S,g,LL,h1,h2,h3,h4,h5,h6=>by
  by_cases q:ns.length=1
  ·obtain⟨n,rfl⟩:∃ n,ns=[n]:=RI.mp q
   obtain⟨w,rfl⟩:∃ w,ws=[w]:=RI.mp (LL.1.symm.trans q);have T:=LL.2 0 n w rfl rfl;refine⟨n,ps,h,_,_,_,0,wt,{ Dd.refl S g with len:=by lia },by rw[AG];exact T,rfl,by simp,.inl rfl,λhw=>hw w 's',?_⟩
   have:=T.ky.f8;simpa using this
  ·have hh:2<=ns.length:=by lia
   obtain⟨e',rfl⟩:∃ e',e=e'+1:=by
    cases e with
    |zero=>simp at h2;lia
    |succ e'=>exact⟨e',rfl⟩
   obtain⟨w1,w2⟩:=K3 h2;have lt:(ns.take (ns.length / 2)).length=ns.length / 2:=by rw[OX];lia
   have ld:(ns.drop (ns.length / 2)).length=ns.length-ns.length / 2:=Pq ..;have lw:=LL.1;obtain⟨n1,ps1,hh1,m1,f1,l1,H1,a1,a2,a3,a4,a5,a6,a7,a8⟩:=wx d e' S g (LL.take (ns.length / 2)) ⋯ ⋯ ⋯ (λi w ew hi=>by
    rw[P6] at ew;split at ew
    ·rw[OX] at hi;exact h4 i w ew ⋯
    ·cases ew) ⋯ ⋯
   have z1:=a2.len;obtain⟨n2,ps2,hh2,m2,f2,l2,H2,b1,b2,b3,b4,b5,b6,b7,b8⟩:=wx d e' a2.sh a2.gd ((LL.drop (ns.length / 2)).pre a2.pre) ⋯ ⋯ ⋯ (λi w ew hi=>by
    rw[Qt] at ew;rw[Pq] at hi;exact h4 _ w ew ⋯) ⋯ (by(clear z1 a8 a7 a6 a5 a4 a3 a2 a1 lw lt w2 w1 h3 h2 hh q h5 h4 h1 LL g S;lia))
   have z2:=b2.len;rw[lt] at a5 a6 a8;rw[ld] at b5 b6 b8;have g1:=KZ (a:=ns.length / 2) (b:=ns.length-ns.length / 2) ⋯ a5 b6
   have g2:=K0 (a:=ns.length / 2) (b:=ns.length-ns.length / 2) (by(clear g1 z2 b8 b7 b6 b5 b4 b3 b2 b1 z1 a8 a7 a6 a5 a4 a3 a2 a1 lw ld lt w2 w1 h3 h2 hh h6 h5 h4 LL g S;lia)) b5 a6;have l8:l1.sg=8:=a7 λw hw=>by
    obtain⟨i,hi,ei⟩:=Qm hw;have hi':=hi;rw[OX] at hi';have:(ws.take (ns.length / 2))[i]?=some w:=by rw[On hi,ei]
    rw[P6] at this;split at this
    ·exact h4 i w this ⋯
    ·cases this
   have f1':=b3.ky.f1;obtain⟨n3,ps3,hh3,d3,T3⟩:=gw b2.sh b2.gd (a3.pre b2.pre) b3 ⋯ ⋯ ⋯ ⋯ (by(clear f1' l8 g2 g1 b8 b7 b6 b5 b4 b3 b2 b1 a8 a7 a6 a5 a4 a3 a2 a1 lw w2 w1 h3 h2 hh h6 h4 LL g S;lia));have rd:fO (ws.take (ns.length / 2))++fO (ws.drop (ns.length / 2))=fO ws:=by rw[<- wq,List.take_append_drop]
   rw[rd] at T3;have hv:=wu S hh a1 b1
   obtain⟨y1,y2⟩:=K1 (k:=ns.length) (b:=ns.length-ns.length / 2) (by(clear hv rd T3 d3 f1' l8 g2 g1 z2 b8 b7 b6 b5 b4 b3 b2 b1 z1 a8 a7 a6 a5 a4 a3 a2 a1 lw ld lt w2 w1 h3 h2 hh q h6 h5 h4 LL g S;lia)) ⋯ hh b5 b6;refine⟨n3,ps3,hh3,_,f1,l2,H2+1,hv.trans d3.ev,(a2.trans b2 (Oa _)).trans d3.dd (by(clear y2 y1 hv rd T3 d3 f1' l8 g2 g1 z2 b8 b7 b6 b5 b4 b3 b2 b1 z1 a8 a7 a6 a5 a4 a3 a2 a1 lw w2 w1 h3 h2 hh h6 h5 h4 LL g S;lia)),T3,by rw[bI,a4,b4];lia,y1,.inr y2,λhw=>b7 λw hm=>hw w (Qg hm),by rw[gy];(clear y2 y1 hv rd T3 d3 f1' l8 g2 g1 z2 b7 b6 b5 b4 b3 b2 b1 z1 a7 a6 a5 a4 a3 a2 a1 lw ld lt w2 w1 h3 h2 hh q h6 h5 h4 h1 LL g S;lia)⟩
def iQ(x:Str)(k:Nat):Str:=bM x (some ((8*k:Nat):Int)) (some ((8*k+8:Nat):Int))
def wy(x:Str)(k:Nat):(iQ x k).cps.toList=(x.cps.toList.drop (8*k)).take 8:=by
 unfold iQ;rw[KU ⋯,show 8*k+8-8*k=8 by lia]
def AI(x:Str)(k:Nat):(iQ x k).length=min 8 (x.length-8*k):=by
 rw[cT,wy,OX,Pq,<- cT]
def K4(px:bQ x=true)(k:Nat):bQ (iQ x k)=true:=by
 unfold bQ at *
 rw[wy,OW];rw[OW] at px;exactλc hc=>px c (Qg (QL hc))
theorem AJ(x:Str):∀ j,(fO ((List.range j).map (iQ x))).cps.toList=x.cps.toList.take (8*j)
 |0=>rfl
 |j+1=>by
  rw[O6,OS,wq,dq,AJ x j];show _++(fO [iQ x j]).cps.toList=_
  rw[AG,wy,show 8*(j+1)=8*j+8 by lia,List.take_add]
def AK{f:Nat->α}{N:Nat}{w:α}(e:((List.range N).map f)[i]?=some w):i<N/\w=f i:=by
 rw[OI] at e;obtain⟨j,ej,ew⟩:=Ow.mp e
 have h1:=(NZ.mp ej).1;rw[Pk] at h1;rw[QS h1] at ej
 cases ej
 exact⟨h1,ew.symm⟩
def LS.snoc{ns:List Nat}{ws:List Str}(s:LS ps ns ws)(h:ps <+: ps')(T:Tx ps' n (bD w n) w (bD w n) (bD w n)):LS ps' (ns++[n]) (ws++[w]):=by
 have l:=s.1;refine⟨by simp[s.1],λi a b ea eb=>?_⟩
 by_cases q:i<ns.length
 ·rw[Oj q] at ea
  rw[Oj ⋯] at eb;exact(s.2 i a b ea eb).pre h
 ·have h1:=(NZ.mp ea).1
  have hi:i=ns.length:=by simp at h1;lia
  subst hi;rw[Oy ⋯] at ea eb
  simp at ea
  rw[show ns.length-ws.length=0 by lia] at eb;simp at eb
  subst ea eb
  exact T
def K5(S:ShelfAt h p ps)(g:Good ps)(px:bQ x=true)(N:Nat)(hN:8*N<x.length+8)(hx:x.length<=10000)(hz:ps.length+N<16000000)(all:List AV)(js:List Nat)(en:En)(hj:js.map (λj=>(en[j]?).join)=[some (.ref p),some (.str x)]) :
  ∃ (ns:List Nat) (ps':List Pc) (h':AH),eP js en none all bx (aD 0 eC (aa 1) (ai (bT (aa 2) (some (aa 0)) (some (ah aB (aa 0) (ae (.int 8))))) af)) ((List.range N).map λm:Nat=>AV.int (0+(m:Int)*8)) [] h=.ok (eu ns) h'/\Dd p h h' ps ps' N/\LS ps' ns ((List.range N).map (iQ x)):=by
 obtain⟨zs,h',c1,ns,ps',e1,D,LL⟩:=J8 (js:=js) (en:=en) (all:=all) (e:=aD 0 eC (aa 1) (ai (bT (aa 2) (some (aa 0)) (some (ah aB (aa 0) (ae (.int 8))))) af)) (xs:=(List.range N).map λm:Nat=>AV.int (0+(m:Int)*8)) (h:=h)
  (λj ys h'=>∃ (ns:List Nat) (ps':List Pc),ys=eu ns/\Dd p h h' ps ps' j/\LS ps' ns ((List.range j).map (iQ x))) ⟨[],ps,rfl,Dd.refl S g,rfl,λi n w a _=>by simp at a⟩ (by
   rintro j v ys h' hv ⟨ns,ps',rfl,D,LL⟩
   obtain⟨jN,rfl⟩:=AK hv;have z:=D.len;have lc:=AI x j;have sc:fX (iQ x j)=true:=by
    unfold fX;rw[K4 px j,lc];simp;lia
   obtain⟨n,ps2,h2,d2,T⟩:=sr D.sh D.gd sc ⋯;have i1:(0:Int)+(j:Int)*8=((8*j:Nat):Int):=by lia
   have i2:((8*j:Nat):Int)+8=((8*j+8:Nat):Int):=by lia
   have ct:dh (.str x) (some ((8*j:Nat):Int)) (some ((8*j+8:Nat):Int)) h'=.ok (.str (iQ x j)) h':=rfl;have ev:=d2.ev;rw[hj];have e:aD 0 eC (aa 1) (ai (bT (aa 2) (some (aa 0)) (some (ah aB (aa 0) (ae (.int 8))))) af) [some (.int (0+(j:Int)*8)),some (.ref p),some (.str x)] h'=.ok (.int n) h2:=by
    rw[i1];have ad:aB (.int ((8*j:Nat):Int)) (.int 8) h'=.ok (.int ((8*j+8:Nat):Int)) h':=by rw[<- i2];rfl
    generalize ((8*j+8:Nat):Int)=B2,((8*j:Nat):Int)=B1 at *;simp[D.sh.ob,ad,ct,ev,-aB,-dh]
   rw[e];refine⟨ns++[n],ps2,by simp[eu],D.trans d2.dd ⋯,?_⟩
   rw[O6,OS];exact LL.snoc d2.dd.pre T) (by simp;exact Oc (show N<=10000 by lia) 'd')
 rw[Oh,Pk] at D LL;exact⟨ns,ps',h',by rw[c1,e1],D,LL⟩
def K6(S:ShelfAt h p ps)(g:Good ps)(px:bQ x=true)(hx:x.length<=10000)(hz:ps.length+2*x.length<16000000) :
  ∃ (n:Nat) (ps':List Pc) (h':AH),jF [.ref p,.str x] h=.ok (.int n) h'/\Dd p h h' ps ps' (2*x.length)/\TxZ ps' n x:=by
 have sl:x.length<=sizeLine:=Oc hx 'd';have fp:=vN x h sl;rw[px] at fp;have c1:¬ (10000:Int)<x.length:=by lia
 by_cases q:x.length=0
 ·have xe:x="" := cz (by rw[cT] at q;rw[Ph.mp q];rfl)
  subst xe;refine⟨0,ps,h,?_,{ Dd.refl S g with len:=by lia },.inl ⟨rfl,rfl⟩⟩
  simp[jF,fp,c1]
 ·obtain⟨N,eN⟩:∃ N,N=(x.length-1) / 8+1:=⟨_,rfl⟩
  obtain⟨ns,ps1,h1,e1,D1,LL⟩:=K5 S g px N ⋯ hx ⋯ ((List.range N).map λm:Nat=>AV.int (0+(m:Int)*8)) [0,1] [some (.ref p),some (.str x),none] rfl;have z1:=D1.len;have ln:ns.length=N:=by rw[LL.1];simp
  obtain⟨n,ps2,h2,m,f,l,H,b1,b2,b3,_⟩:=wx (p:=p) 20 11 D1.sh D1.gd LL ⋯ (by rw[ln];have:(2:Nat) ^ 11=2048:=rfl;lia) 'd' (λi w ew hi=>by
   obtain⟨iN,rfl⟩:=AK ew;rw[Oh,Pk] at hi;rw[AI];(clear ew iN ln z1 LL D1 e1 q c1 fp sl hz hx px g S;lia)) ⋯ ⋯
  have rd:fO ((List.range N).map (iQ x))=x:=cz (by rw[AJ,OQ (by rw[<- cT];lia)])
  rw[rd] at b3;have ir:jC (ae (.int 0)) (au aI (ai (aa 1) af)) (ae (.int 8)) [some (.ref p),some (.str x),none] h=.ok ((List.range N).map (λm:Nat=>AV.int (0+(m:Int)*8)),none) h:=by
   have r1:((if (0:Int)<x.length then((x.length:Int)-0-1) / 8+1 else 0:Int)).toNat=N:=by
    rw[Of ⋯];lia
   have r2:(0:Int).natAbs<2 ^ 40/\(x.length:Int).natAbs<2 ^ 40/\(0:Int)<8/\(8:Int)<2 ^ 20:=⟨by decide,by lia,by decide,by decide⟩
   show (if _ then _ else _)=_
   rw[Of r2,r1]
  have cp:fD [0,1] (jC (ae (.int 0)) (au aI (ai (aa 1) af)) (ae (.int 8))) bx (aD 0 eC (aa 1) (ai (bT (aa 2) (some (aa 0)) (some (ah aB (aa 0) (ae (.int 8))))) af)) [some (.ref p),some (.str x),none] h=.ok (.fl (eu ns)) h1:=by
   simp only[fD,ir,e1]
  have ne:az (.str x) (.str "") h=.ok (.bl false) h:=by
   have:¬ x=Str.ofString "" := λz=>q (by rw[z];rfl)
   simp[this]
  refine⟨n,ps2,h2,?_,D1.trans b2 ⋯,.inr ⟨_,_,_,b3⟩⟩
  unfold jF;generalize iq 20=HV,fD [0,1] (jC (ae (.int 0)) (au aI (ai (aa 1) af)) (ae (.int 8))) bx (aD 0 eC (aa 1) (ai (bT (aa 2) (some (aa 0)) (some (ah aB (aa 0) (ae (.int 8))))) af))=CP at *;simp[fp,c1,ne,cp,b1,-az]
def AN(S:ShelfAt h p ps)(g:Good ps)(A:TxZ ps a x)(B:TxZ ps b y)(hm:x.length+y.length<=1000000000000000000)(hz:ps.length<15000000) :
  ∃ (n:Nat) (ps':List Pc) (h':AH),Dn (bW [.ref p,.int a,.int b]) p h h' ps ps' (16*(max (aT ps a) (aT ps b)+1).toNat) n/\TxZ ps' n (x++y)/\aT ps' n<=max (aT ps a) (aT ps b)+1:=by
 rcases A with⟨rfl,rfl⟩|⟨ma,fa,la,A⟩
 ·obtain⟨mb,eb,sb⟩:=B.meas
  have em:("" : Str)++y=y:=cz (by rw[dq];rfl)
  have dv:Dn (bW [.ref p,.int (0:Nat),.int b]) p h h ps ps 0 b:=Dn.val S g λhh pp S' _ pr=>pR S' (aN pr eb) (by rw[sb];lia)
  exact⟨b,ps,h,dv.as S g (λ_ _ _ _ _=>rfl) (OH _),by rw[em];exact B,by lia⟩
 ·rcases B with⟨rfl,rfl⟩|⟨mb,fb,lb,B⟩
  ·have em:x++("" : Str)=x:=cz (by rw[dq];simp;rfl)
   have dv:Dn (bW [.ref p,.int a,.int (0:Nat)]) p h h ps ps 0 a:=Dn.val S g λhh pp S' _ pr=>pS S' A.n1 (aN pr A.ms) A.ky.most
   exact⟨a,ps,h,dv.as S g (λ_ _ _ _ _=>rfl) (OH _),by rw[em];exact .inr ⟨_,_,_,A⟩,by lia⟩
  ·have sa:=A.ky.sg
   have sb:=B.ky.sg;have a0:=A.ky.ht;have b0:=B.ky.ht;have ha:=e7 g A;have hb:=e7 g B;rw[eF A.ms,eF B.ms];by_cases q:8<la.sg+fb.sg
   ·obtain⟨n,ps',h',m,d,T,_,hu⟩:=pM 90 (max ma.ht mb.ht).toNat S g A B q ⋯ ⋯ ⋯ ⋯
    exact⟨n,ps',h',d.as S g (λhh pp S' _ pr=>by rw[jJ S' A.n1 B.n1 (aN pr A.ms) (aN pr B.ms) (aN pr A.ky.ll) (aN pr B.ky.fl) ⋯,Of q]) ⋯,.inr ⟨_,_,_,T⟩,by rw[eF T.ms];exact hu⟩
   ·obtain⟨n,ps',h',m,f,l,d,T,hu⟩:=AF S g A B q ⋯ hz
    exact⟨n,ps',h',d.as S g (λhh pp S' _ pr=>by rw[jJ S' A.n1 B.n1 (aN pr A.ms) (aN pr B.ms) (aN pr A.ky.ll) (aN pr B.ky.fl) ⋯,Og q]) ⋯,.inr ⟨_,_,_,T⟩,by rw[eF T.ms];exact hu⟩
def bU(x:Str)(a:Nat):Str:=⟨(x.cps.toList.take a).toArray⟩
def dJ(x:Str)(a:Nat):Str:=⟨(x.cps.toList.drop a).toArray⟩
def jK(x:Str)(a:Nat):(bU x a).cps.toList=x.cps.toList.take a:=(rfl)
def ka(x:Str)(a:Nat):(dJ x a).cps.toList=x.cps.toList.drop a:=(rfl)
def sF(h:a<=x.length):(bU x a).length=a:=by
 rw[cT] at *
 rw[jK,OX];lia
def nK(x:Str)(a:Nat):(dJ x a).length=x.length-a:=by
 rw[cT,cT x,ka,Pq]
def pT(x:Str):bU x 0="" :=(cz rfl)
def pU(x:Str):dJ x 0=x:=(cz rfl)
def K7(h:x.length<=a):bU x a=x:=(cz (by rw[jK,OQ (by rw[<- cT];exact h)]))
def K8(h:x.length<=a):dJ x a="" :=(cz (by rw[ka,Pa (by rw[<- cT];exact h)];rfl))
def wz(h:a<=x.length):bU (x++y) a=bU x a:=(cz (by rw[jK,dq,jK,QM (by rw[<- cT];exact h)]))
def wA(h:x.length<=a):bU (x++y) a=x++bU y (a-x.length):=(cz (by
 rw[jK,dq,dq,jK,List.take_append,OQ (by rw[<- cT];exact h),<- cT]))
def wB(h:a<=x.length):dJ (x++y) a=dJ x a++y:=(cz (by rw[ka,dq,dq,ka,List.drop_append_of_le_length (by rw[<- cT];exact h)]))
def wC(h:x.length<=a):dJ (x++y) a=dJ y (a-x.length):=(cz (by
 rw[ka,dq,ka,List.drop_append,Pa (by rw[<- cT];exact h),<- cT];rfl))
def K9(h:bQ x=true)(a:Nat):bQ (bU x a)=true:=by
 unfold bQ at *
 rw[jK,OW];rw[OW] at h;exactλc hc=>h c (QL hc)
def Lc(h:bQ x=true)(a:Nat):bQ (dJ x a)=true:=by
 unfold bQ at *
 rw[ka,OW];rw[OW] at h;exactλc hc=>h c (Qg hc)
def AQ(h:AH):dh (.str x) none (some (a:Int)) h=.ok (.str (bU x a)) h:=by
 have:bM x none (some (a:Int))=bU x a:=cz (by
  unfold bM;rw[HT.sIx_nat,HT.sIx_none,jK];show (x.cps.toList.drop 0).take (min a x.cps.toList.length-0)=_
  rw[R6,Nat.sub_zero];by_cases q:a<=x.cps.toList.length
  ·rw[Pn q]
  ·rw[Qk ⋯,List.take_length,OQ ⋯])
 simp only[dh,this]
def AR(ha:a<=x.length)(h:AH):dh (.str x) (some (a:Int)) none h=.ok (.str (dJ x a)) h:=by
 have:bM x (some (a:Int)) none=dJ x a:=cz (by
  unfold bM;rw[HT.sIx_nat,HT.sIx_none,ka];rw[cT] at ha;rw[Pn ha];show (x.cps.toList.drop a).take (x.cps.toList.length-a)=_
  rw[OQ (by rw[Pq];exact Oa _)])
 simp only[dh,this]
def iy(z:Int):Nat:=8*((z+1).toNat*(z+2).toNat)
def AS{a b:Int}(h0:0<=b)(h:b<=a):iy b+16*(a+1+1).toNat<=iy (a+1):=by
 unfold iy;obtain⟨m,rfl⟩:=Pi h0;obtain⟨n,rfl⟩:=Pi (show 0<=a by lia);rw[show ((m:Int)+1).toNat=m+1 by lia,show ((m:Int)+2).toNat=m+2 by lia,show ((n:Int)+1+1).toNat=n+2 by lia,show ((n:Int)+1+2).toNat=n+3 by lia];have hmn:m<=n:=by lia
 have h1:(m+1)*(m+2)<=(n+1)*(n+2):=QD ⋯ ⋯;have h2:(n+2)*(n+3)=(n+1)*(n+2)+2*(n+2):=by
  rw[RF (n+1),<- RF (n+2) 2,<- Sd]
 lia
def wD{a b:Int}(h:a<=b)(ha:-1<=a):iy a<=iy b:=by
 unfold iy;exact Qn 8 (QD ⋯ ⋯)
def AU{a:Int}(h:a<=83)(h1:-1<=a):iy a<=57120:=by
 have:=wD h h1;have:iy 83=57120:=by decide +kernel
 lia
def sG(z:Str)(n:Nat):(aW z n).cps.toList=(List.replicate n z.cps.toList).flatten:=(rfl)
def sH(z:Str)(a b:Nat):aW z a++aW z b=aW z (a+b):=(cz (by rw[dq,sG,sG,sG,<- List.flatten_append,List.replicate_append_replicate]))
def sI(z:Str):aW z 1=z:=(cz (by rw[sG];simp))
def wF(z:Str):aW z 0="" :=(cz rfl)
theorem sJ(z:Str):∀ n,(aW z n).length=z.length*n
 |0=>by rw[wF];rfl
 |n+1=>by rw[<- sH,eh,sJ z n,sI,Nat.mul_succ]
theorem wG:∀ n,aW "" n=""
 |0=>wF _
 |n+1=>by
  rw[<- sH,wG n,sI];exact cz (by rw[dq];rfl)
def wH:fN (d+1) [.ref p,.int n,.int (0:Nat)] h=.ok (.int (0:Nat)) h:=by
 have z:az (.int 0) (.int 0) h=.ok (.bl true) h:=by simp
 simp[fN,rQ,z,-az]
def wI{k:Nat}{a:Int}(hk:¬ k=0)(hp:k % 2=0)(e1:fN d [.ref p,.int n,.int (k / 2:Nat)] h=.ok (.int a) h1):fN (d+1) [.ref p,.int n,.int k] h=bW [.ref p,.int a,.int a] h1:=by
 have z:az (.int k) (.int 0) h=.ok (.bl false) h:=by simp[hk]
 have dv:cQ (.int k) (.int 2) h=.ok (.int (k / 2:Nat)) h:=rfl;have md:∀ h,bH (.int k) (.int 2) h=.ok (.int 0) h:=λh=>by
  have:(k:Int) % 2=0:=by lia
  show Out.ok (AV.int ((k:Int) % 2)) h=_
  rw[this]
 have z2:∀ h,az (.int 0) (.int 0) h=.ok (.bl true) h:=λh=>by simp
 unfold fN rQ;generalize hF:bW [.ref p,.int a,.int a] h1=R
 generalize fN d=G,((k / 2:Nat):Int)=K2 at *;simp[z,dv,e1,hF,-az,-cQ,-bH]
 cases R with
 |ok v h2=>simp[md,z2,-az,-bH]
 |ex c h2=>rfl
 |bad=>rfl
def wJ{k:Nat}{a:Int}(hk:¬ k=0)(hp:¬ k % 2=0)(e1:fN d [.ref p,.int n,.int (k / 2:Nat)] h=.ok (.int a) h1):fN (d+1) [.ref p,.int n,.int k] h=(bW [.ref p,.int a,.int a] h1).bind λv h2=>bW [.ref p,v,.int n] h2:=by
 have z:az (.int k) (.int 0) h=.ok (.bl false) h:=by simp[hk]
 have dv:cQ (.int k) (.int 2) h=.ok (.int (k / 2:Nat)) h:=rfl;have md:∀ h,bH (.int k) (.int 2) h=.ok (.int 1) h:=λh=>by
  have:(k:Int) % 2=1:=by lia
  show Out.ok (AV.int ((k:Int) % 2)) h=_
  rw[this]
 have z2:∀ h,az (.int 1) (.int 0) h=.ok (.bl false) h:=λh=>by simp
 unfold fN rQ;generalize hF:bW [.ref p,.int a,.int a] h1=R
 generalize fN d=G,((k / 2:Nat):Int)=K2 at *;simp[z,dv,e1,hF,-az,-cQ,-bH]
 cases R with
 |ok v h2 =>
  simp[md,z2,-az,-bH]
  cases bW [.ref p,v,.int n] h2<;>rfl
 |ex c h2=>rfl
 |bad=>rfl
def wK(g:Good ps)(A:TxZ ps a x)(B:TxZ ps b y):16*(max (aT ps a) (aT ps b)+1).toNat<=1400:=by
 have key:∀ {n:Nat} {y:Str},TxZ ps n y->aT ps n<=82:=λ{n y} t=>by
  rcases t with⟨rfl,rfl⟩|⟨m,f,l,T⟩
  ·rw[pP];lia
  ·rw[eF T.ms];exact e7 g T
 have:=key A;have:=key B;lia
theorem AW{p:Nat}:∀ (d e:Nat) {h:AH} {ps:List Pc} {n k:Nat} {x:Str},ShelfAt h p ps->Good ps->TxZ ps n x->k<2 ^ e->e<d->x.length*k<=1000000000000000000->ps.length+2800*e<15000000 ->
  ∃ (m:Nat) (ps':List Pc) (h':AH),Dn (fN d [.ref p,.int n,.int k]) p h h' ps ps' (2800*e) m/\TxZ ps' m (aW x k)
 |0,e,h,ps,n,k,x,S,g,T,hk,hd,hm,hz=>absurd hd (Pg _)
 |d+1,e,h,ps,n,k,x,S,g,T,hk,hd,hm,hz=>by
  by_cases k0:k=0
  ·subst k0
   have dv:Dn (fN (d+1) [.ref p,.int n,.int (0:Nat)]) p h h ps ps 0 0:=Dn.val S g λhh pp S' _ pr=>wH
   exact⟨0,ps,h,dv.as S g (λ_ _ _ _ _=>rfl) (OH _),.inl ⟨rfl,wF x⟩⟩
  ·obtain⟨e',rfl⟩:∃ e',e=e'+1:=by
    cases e with
    |zero=>simp at hk;lia
    |succ e'=>exact⟨e',rfl⟩
   rw[RH] at hk;have kk:x.length*(k / 2)+x.length*(k / 2)+x.length*(k % 2)=x.length*k:=by
    rw[<- Sd,<- Sd];congr 1
    lia
   obtain⟨a,ps1,h1,d1,T1⟩:=AW d e' (k:=k / 2) S g T ⋯ ⋯ ⋯ ⋯;have z1:=d1.dd.len;have l1:=sJ x (k / 2);obtain⟨b,ps2,h2,d2,T2⟩:=wo d1.dd.sh d1.dd.gd T1 T1 ⋯ ⋯;have w2:=wK d1.dd.gd T1 T1;have z2:=d2.dd.len;rw[sH] at T2;by_cases hp:k % 2=0
   ·have ek:k / 2+k / 2=k:=by lia
    rw[ek] at T2;exact⟨b,ps2,h2,Dn.seq' S g d1 d2 (λhh hh1 pp S' _ pr ev=>wI k0 hp ev) ⋯,T2⟩
   ·have l2:=sJ x (k / 2+k / 2)
    rw[Sd] at l2;have km:x.length*(k % 2)=x.length:=by rw[show k % 2=1 by lia,Nat.mul_one]
    have p12:=d1.dd.pre.trans d2.dd.pre;obtain⟨c,ps3,h3,d3,T3⟩:=wo d2.dd.sh d2.dd.gd T2 (T.pre p12) ⋯ ⋯;have w3:=wK d2.dd.gd T2 (T.pre p12);have ek:aW x (k / 2+k / 2)++x=aW x k:=by
     conv=>lhs;rhs;rw[<- sI x]
     rw[sH];congr 1
     lia
    rw[ek] at T3;have d23:=Dn.seq (F:=λhh=>(bW [.ref p,.int a,.int a] hh).bind λv h2=>bW [.ref p,v,.int n] h2) (F2:=λv h2=>bW [.ref p,v,.int n] h2) d1.dd.sh d1.dd.gd d2 d3 (λ_ _ _ _ _=>rfl) (k:=2800) ⋯
    exact⟨c,ps3,h3,Dn.seq' S g d1 d23 (λhh hh1 pp S' _ pr ev=>wJ k0 hp ev) ⋯,T3⟩
def wL{k:Nat}{m:Ms}(S:ShelfAt h p ps)(em:(meas ps)[n]?=some m)(hk:k<2 ^ 63)(hm:m.sg*k<=1000000000000000000):j8 [.ref p,.int n,.int k] h=if n=0 then .ok (.int (0:Nat)) h else fN 64 [.ref p,.int n,.int k] h:=by
 have fs:=dH S em;have lt:fq (.int k) (.int 0) h=.ok (.bl false) h:=by
  have:¬ (k:Int)<0:=by lia
  simp only[fq,this,decide_false]
 have ml:bq (.int m.sg) (.int k) h=.ok (.int ((m.sg*k:Nat):Int)) h:=by
  have h2:(k:Int).natAbs<2 ^ 64:=by
   have:(2:Nat) ^ 63<2 ^ 64:=by decide
   lia
  rw[Ah h2];congr 2
 have ck:=pQ (i:=((m.sg*k:Nat):Int)) ⋯ h;unfold j8;generalize ((m.sg*k:Nat):Int)=MK,fN 64=G at *;by_cases z:n=0
 ·subst z
  have z0:az (.int 0) (.int 0) h=.ok (.bl true) h:=by simp
  have fs':eV [.ref p,.int 0] h=.ok (.int m.sg) h:=fs;simp[S.ob,fs',lt,ml,ck,z0,-fq,-bq,-az]
 ·have z0:az (.int n) (.int 0) h=.ok (.bl false) h:=by simp[z]
  rw[Og z];generalize hR:G [.ref p,.int n,.int k] h=R
  simp[S.ob,fs,lt,ml,ck,z0,hR,-fq,-bq,-az]
  cases R<;>rfl
def Ld{k:Nat}(S:ShelfAt h p ps)(g:Good ps)(T:TxZ ps n x)(hk:k<2 ^ e)(he:e<62)(hm:x.length*k<=1000000000000000000)(hz:ps.length+2800*e<15000000) :
  ∃ (m:Nat) (ps':List Pc) (h':AH),Dn (j8 [.ref p,.int n,.int k]) p h h' ps ps' (2800*e) m/\TxZ ps' m (aW x k):=by
 obtain⟨m,em,sm⟩:=T.meas;have k63:k<2 ^ 63:=Ox hk (Se 'd' ⋯);by_cases z:n=0
 ·rcases T with⟨_,rfl⟩|⟨_,_,_,T⟩
  ·have dv:Dn (j8 [.ref p,.int n,.int k]) p h h ps ps 0 0:=Dn.val S g λhh pp S' _ pr=>by rw[wL S' (aN pr em) k63 (by rw[sm];exact hm),Of z]
   exact⟨0,ps,h,dv.as S g (λ_ _ _ _ _=>rfl) (OH _),.inl ⟨rfl,wG k⟩⟩
  ·exact absurd T.n1 ⋯
 ·obtain⟨c,ps',h',d,T'⟩:=AW 64 e S g T hk ⋯ hm hz
  exact⟨c,ps',h',d.as S g (λhh pp S' _ pr=>by rw[wL S' (aN pr em) k63 (by rw[sm];exact hm),Og z]) (Oa _),T'⟩
def pV(t:TxZ ps n y):-1<=aT ps n:=by
 rcases t with⟨rfl,rfl⟩|⟨m,f,l,T⟩
 ·rw[pP];lia
 ·rw[eF T.ms];have:=T.ky.ht;lia
def TxZ.pos(t:TxZ ps n y)(hy:1<=y.length):∃ m f l,Tx ps n m y f l:=by
 rcases t with⟨rfl,rfl⟩|t
 ·exact absurd hy 'd'
 ·exact t
def wM:dF (d+1) [.ref p,.int n,.int (0:Nat)] h=.ok (.int (0:Nat)) h:=by
 have z:az (.int 0) (.int 0) h=.ok (.bl true) h:=by simp
 simp[dF,lN,z,-az]
def Le{m:Ms}(S:ShelfAt h p ps)(em:(meas ps)[n]?=some m)(a0:¬ a=0)(ea:a=m.sg):dF (d+1) [.ref p,.int n,.int a] h=.ok (.int n) h:=by
 have z:az (.int a) (.int 0) h=.ok (.bl false) h:=by simp[a0]
 have fs:=dH S em;rw[<- ea] at fs;have z2:az (.int a) (.int a) h=.ok (.bl true) h:=by simp
 simp[dF,lN,z,S.ob,fs,z2,-az]
def Lj{m:Ms}(S:ShelfAt h p ps)(n1:1<=n)(em:(meas ps)[n]?=some m)(ep:ps[n-1]?=some (.leaf x))(a0:¬ a=0)(ea:¬ a=m.sg):dF (d+1) [.ref p,.int n,.int a] h=eC [.ref p,.str (bU x a)] h:=by
 have z:az (.int a) (.int 0) h=.ok (.bl false) h:=by simp[a0]
 have fs:=dH S em;have z2:az (.int a) (.int m.sg) h=.ok (.bl false) h:=by
  have:¬ (a:Int)=m.sg:=by lia
  simp[this]
 have ct:=AQ (x:=x) (a:=a) h;generalize hF:eC [.ref p,.str (bU x a)] h=R
 simp[dF,lN,z,S.ob,fs,z2,nJ S n1 ep,sv,sD,sC,ct,hF,-az,-ao,-dh]
 cases R<;>first|rfl|simp
def wN{m:Ms}(S:ShelfAt h p ps)(n1:1<=n)(em:(meas ps)[n]?=some m)(ec:(meas ps)[c]?=some mc)(ep:ps[n-1]?=some (.fork c e))(a0:¬ a=0)(ea:¬ a=m.sg)(hl:a<=mc.sg):dF (d+1) [.ref p,.int n,.int a] h=dF d [.ref p,.int c,.int a] h:=by
 have z:az (.int a) (.int 0) h=.ok (.bl false) h:=by simp[a0]
 have fs:=dH S em;have fc:=dH S ec;have z2:az (.int a) (.int m.sg) h=.ok (.bl false) h:=by
  have:¬ (a:Int)=m.sg:=by lia
  simp[this]
 have le:aY (.int a) (.int mc.sg) h=.ok (.bl true) h:=by simp[hl]
 show lN (dF d) [.ref p,.int n,.int a] h=dF d [.ref p,.int c,.int a] h
 generalize dF d=G at *;unfold lN
 generalize hF:G [.ref p,.int c,.int a] h=R
 simp[z,S.ob,fs,fc,z2,gz S n1 ep,lX,lY,i1,le,hF,-az,-ao,-aY]
 cases R<;>first|rfl|simp
def wO{m:Ms}(S:ShelfAt h p ps)(n1:1<=n)(em:(meas ps)[n]?=some m)(ec:(meas ps)[c]?=some mc)(ep:ps[n-1]?=some (.fork c e))(a0:¬ a=0)(ea:¬ a=m.sg)(hl:¬ a<=mc.sg)(ev:dF d [.ref p,.int e,.int (a-mc.sg:Nat)] h=.ok (.int v) h1) :
  dF (d+1) [.ref p,.int n,.int a] h=bW [.ref p,.int c,.int v] h1:=by
 have z:az (.int a) (.int 0) h=.ok (.bl false) h:=by simp[a0]
 have fs:=dH S em;have fc:=dH S ec;have z2:az (.int a) (.int m.sg) h=.ok (.bl false) h:=by
  have:¬ (a:Int)=m.sg:=by lia
  simp[this]
 have le:aY (.int a) (.int mc.sg) h=.ok (.bl false) h:=by
  simp;lia
 have sb:bN (.int a) (.int mc.sg) h=.ok (.int (a-mc.sg:Nat)) h:=by
  have:(a:Int)-mc.sg=((a-mc.sg:Nat):Int):=by lia
  rw[<- this];rfl
 unfold dF lN;generalize ((a-mc.sg:Nat):Int)=AM,dF d=G at *;generalize hF:bW [.ref p,.int c,.int v] h1=R
 simp[z,S.ob,fs,fc,z2,gz S n1 ep,lX,lY,i1,i2,le,sb,ev,hF,-az,-ao,-aY,-bN]
 cases R<;>first|rfl|simp
theorem wQ{p:Nat}:∀ (d:Nat) {h:AH} {ps:List Pc} {n a:Nat} {x:Str},ShelfAt h p ps->Good ps->TxZ ps n x->a<=x.length->(aT ps n).toNat<d->ps.length+iy (aT ps n)<14900000 ->
  ∃ (r:Nat) (ps':List Pc) (h':AH),Dn (dF d [.ref p,.int n,.int a]) p h h' ps ps' (iy (aT ps n)) r/\TxZ ps' r (bU x a)/\aT ps' r<=aT ps n+1
 |0,h,ps,n,a,x,S,g,T,ha,hd,hz=>absurd hd (Pg _)
 |d+1,h,ps,n,a,x,S,g,T,ha,hd,hz=>by
  have hge:=pV T;by_cases a0:a=0
  ·subst a0
   have dv:Dn (dF (d+1) [.ref p,.int n,.int (0:Nat)]) p h h ps ps 0 0:=Dn.val S g λhh pp S' _ pr=>wM
   exact⟨0,ps,h,dv.as S g (λ_ _ _ _ _=>rfl) (OH _),.inl ⟨rfl,pT x⟩,by rw[pP];lia⟩
  ·obtain⟨m,f,l,T1⟩:=T.pos ⋯
   have sg:=T1.ky.sg;by_cases ea:a=m.sg
   ·have dv:Dn (dF (d+1) [.ref p,.int n,.int a]) p h h ps ps 0 n:=Dn.val S g λhh pp S' _ pr=>Le S' (aN pr T1.ms) a0 ea
    exact⟨n,ps,h,dv.as S g (λ_ _ _ _ _=>rfl) (OH _),by rw[K7 ⋯];exact T,by lia⟩
   ·rw[eF T1.ms] at hd hz hge ⊢
    rcases g.kind T1 with⟨e1,e2,e3,e4,e5⟩|⟨_,_,mx,my,_,_,_,_,_,_,_,_,_,X,Y,_,e5,_⟩
    ·have lt:=sF ha
     obtain⟨r,ps',h',d1,L⟩:=sr S g (x:=bU x a) (by
      unfold fX;rw[K9 T1.ky.pl,lt];simp;lia) ⋯
     refine⟨r,ps',h',d1.as S g (λhh pp S' _ pr=>Lj S' T1.n1 (aN pr T1.ms) (dw pr e1) a0 ea) (by rw[e2];decide),.inr ⟨_,_,_,L⟩,by rw[eF L.ms,e2];show (0:Int)<=0+1;decide⟩
    ·have hpos:0<m.ht:=by
      have:=congrArg Ms.ht e5;rw[bI] at this;have:=X.ky.ht
      (clear e5 Y X ea sg T1 hd hz hge a0 ha T g S;omega)
     obtain⟨c,e,mc,me,y1,y2,lc,fe,ep,C,E,rfl,em,w1,w2,w3⟩:=g.cut T1 hpos;have hh:m.ht=max mc.ht me.ht+1:=by rw[em];rfl
     have c0:=C.ky.ht;have e0:=E.ky.ht;have sc:=C.ky.sg;have se:=E.ky.sg;have la:=eh y1 y2;by_cases hl:a<=mc.sg
     ·have hc1:aT ps c=mc.ht:=eF C.ms
      have cm:=wD (a:=mc.ht) (b:=m.ht) ⋯ ⋯;obtain⟨r,ps',h',d1,T',q1⟩:=wQ d (n:=c) (a:=a) (x:=y1) S g (.inr ⟨_,_,_,C⟩) ⋯ (by rw[hc1];lia) (by rw[hc1];lia)
      rw[hc1] at d1 q1;exact⟨r,ps',h',d1.as S g (λhh pp S' _ pr=>wN S' T1.n1 (aN pr T1.ms) (aN pr C.ms) (dw pr ep) a0 ea hl) cm,by rw[wz ⋯];exact T',by lia⟩
     ·have he1:aT ps e=me.ht:=eF E.ms
      have cs:=AS (a:=m.ht-1) (b:=me.ht) e0 ⋯;rw[show m.ht-1+1=m.ht by lia] at cs;obtain⟨r,ps1,h1,d1,T',q1⟩:=wQ d (n:=e) (a:=a-mc.sg) (x:=y2) S g (.inr ⟨_,_,_,E⟩) ⋯ (by rw[he1];lia) (by rw[he1];lia)
      rw[he1] at d1 q1;have z1:=d1.dd.len
      have lt:=sF (x:=y2) (a:=a-mc.sg) ⋯;have most:=T1.ky.most;have C':TxZ ps1 c y1:=.inr ⟨_,_,_,C.pre d1.dd.pre⟩;have hc2:aT ps1 c=mc.ht:=eF (C.pre d1.dd.pre).ms;obtain⟨s,ps2,h2,d2,T2,q2⟩:=AN d1.dd.sh d1.dd.gd C' T' ⋯ ⋯;have hr:=pV T';refine⟨s,ps2,h2,Dn.seq' S g d1 d2 (λhh hh1 pp S' _ pr ev=>wO S' T1.n1 (aN pr T1.ms) (aN pr C.ms) (dw pr ep) a0 ea hl ev) (by(clear hr q2 T2 d2 C' most lt z1 T' d1 hl la se sc e0 c0 w3 w2 w1 em sg T1 ha T E C ep e5 Y X ea hd hge a0 g S;lia)),?_,by(clear hr T2 d2 C' most lt z1 T' hl la se sc e0 c0 w3 w2 w1 em sg T1 ha T E C ep hpos e5 Y X ea hd hz hge a0 g S;lia)⟩
      rw[wA ⋯,<- sc];exact T2
def wR:dG (d+1) [.ref p,.int n,.int (0:Nat)] h=.ok (.int n) h:=by
 have z:az (.int 0) (.int 0) h=.ok (.bl true) h:=by simp
 simp[dG,lO,z,-az]
def Lk{m:Ms}(S:ShelfAt h p ps)(em:(meas ps)[n]?=some m)(a0:¬ a=0)(ea:a=m.sg):dG (d+1) [.ref p,.int n,.int a] h=.ok (.int (0:Nat)) h:=by
 have z:az (.int a) (.int 0) h=.ok (.bl false) h:=by simp[a0]
 have fs:=dH S em;rw[<- ea] at fs;have z2:az (.int a) (.int a) h=.ok (.bl true) h:=by simp
 simp[dG,lO,z,S.ob,fs,z2,-az]
def Lm{m:Ms}(S:ShelfAt h p ps)(n1:1<=n)(em:(meas ps)[n]?=some m)(ep:ps[n-1]?=some (.leaf x))(ax:a<=x.length)(a0:¬ a=0)(ea:¬ a=m.sg):dG (d+1) [.ref p,.int n,.int a] h=eC [.ref p,.str (dJ x a)] h:=by
 have z:az (.int a) (.int 0) h=.ok (.bl false) h:=by simp[a0]
 have fs:=dH S em;have z2:az (.int a) (.int m.sg) h=.ok (.bl false) h:=by
  have:¬ (a:Int)=m.sg:=by lia
  simp[this]
 have ct:=AR (x:=x) ax h;generalize hF:eC [.ref p,.str (dJ x a)] h=R
 simp[dG,lO,z,S.ob,fs,z2,nJ S n1 ep,sv,sD,sC,ct,hF,-az,-ao,-dh]
 cases R<;>first|rfl|simp
def wU{m:Ms}(S:ShelfAt h p ps)(n1:1<=n)(em:(meas ps)[n]?=some m)(ec:(meas ps)[c]?=some mc)(ep:ps[n-1]?=some (.fork c e))(a0:¬ a=0)(ea:¬ a=m.sg)(hl:mc.sg<=a):dG (d+1) [.ref p,.int n,.int a] h=dG d [.ref p,.int e,.int (a-mc.sg:Nat)] h:=by
 have z:az (.int a) (.int 0) h=.ok (.bl false) h:=by simp[a0]
 have fs:=dH S em;have fc:=dH S ec;have z2:az (.int a) (.int m.sg) h=.ok (.bl false) h:=by
  have:¬ (a:Int)=m.sg:=by lia
  simp[this]
 have le:jY (.int a) (.int mc.sg) h=.ok (.bl true) h:=by simp[hl]
 have sb:bN (.int a) (.int mc.sg) h=.ok (.int (a-mc.sg:Nat)) h:=by
  have:(a:Int)-mc.sg=((a-mc.sg:Nat):Int):=by lia
  rw[<- this];rfl
 show lO (dG d) [.ref p,.int n,.int a] h=dG d [.ref p,.int e,.int (a-mc.sg:Nat)] h
 generalize dG d=G at *;unfold lO
 generalize ((a-mc.sg:Nat):Int)=AM at *;generalize hF:G [.ref p,.int e,.int AM] h=R
 simp[z,S.ob,fs,fc,z2,gz S n1 ep,lX,lY,i1,i2,le,sb,hF,-az,-ao,-jY,-bN]
 cases R<;>first|rfl|simp
def wV{m:Ms}(S:ShelfAt h p ps)(n1:1<=n)(em:(meas ps)[n]?=some m)(ec:(meas ps)[c]?=some mc)(ep:ps[n-1]?=some (.fork c e))(a0:¬ a=0)(ea:¬ a=m.sg)(hl:¬ mc.sg<=a)(ev:dG d [.ref p,.int c,.int a] h=.ok (.int v) h1) :
  dG (d+1) [.ref p,.int n,.int a] h=bW [.ref p,.int v,.int e] h1:=by
 have z:az (.int a) (.int 0) h=.ok (.bl false) h:=by simp[a0]
 have fs:=dH S em;have fc:=dH S ec;have z2:az (.int a) (.int m.sg) h=.ok (.bl false) h:=by
  have:¬ (a:Int)=m.sg:=by lia
  simp[this]
 have le:jY (.int a) (.int mc.sg) h=.ok (.bl false) h:=by
  simp;lia
 unfold dG lO;generalize dG d=G at *;generalize hF:bW [.ref p,.int v,.int e] h1=R
 simp[z,S.ob,fs,fc,z2,gz S n1 ep,lX,lY,i1,i2,le,ev,hF,-az,-ao,-jY]
 cases R<;>first|rfl|simp
theorem wW{p:Nat}:∀ (d:Nat) {h:AH} {ps:List Pc} {n a:Nat} {x:Str},ShelfAt h p ps->Good ps->TxZ ps n x->a<=x.length->(aT ps n).toNat<d->ps.length+iy (aT ps n)<14900000 ->
  ∃ (r:Nat) (ps':List Pc) (h':AH),Dn (dG d [.ref p,.int n,.int a]) p h h' ps ps' (iy (aT ps n)) r/\TxZ ps' r (dJ x a)/\aT ps' r<=aT ps n+1
 |0,h,ps,n,a,x,S,g,T,ha,hd,hz=>absurd hd (Pg _)
 |d+1,h,ps,n,a,x,S,g,T,ha,hd,hz=>by
  have hge:=pV T;by_cases a0:a=0
  ·subst a0
   have dv:Dn (dG (d+1) [.ref p,.int n,.int (0:Nat)]) p h h ps ps 0 n:=Dn.val S g λhh pp S' _ pr=>wR
   exact⟨n,ps,h,dv.as S g (λ_ _ _ _ _=>rfl) (OH _),by rw[pU];exact T,by lia⟩
  ·obtain⟨m,f,l,T1⟩:=T.pos ⋯
   have sg:=T1.ky.sg;by_cases ea:a=m.sg
   ·have dv:Dn (dG (d+1) [.ref p,.int n,.int a]) p h h ps ps 0 0:=Dn.val S g λhh pp S' _ pr=>Lk S' (aN pr T1.ms) a0 ea
    exact⟨0,ps,h,dv.as S g (λ_ _ _ _ _=>rfl) (OH _),.inl ⟨rfl,K8 ⋯⟩,by rw[pP];lia⟩
   ·rw[eF T1.ms] at hd hz hge ⊢
    rcases g.kind T1 with⟨e1,e2,e3,e4,e5⟩|⟨_,_,mx,my,_,_,_,_,_,_,_,_,_,X,Y,_,e5,_⟩
    ·have lt:=nK x a
     obtain⟨r,ps',h',d1,L⟩:=sr S g (x:=dJ x a) (by
      unfold fX;rw[Lc T1.ky.pl,lt];simp;lia) ⋯
     refine⟨r,ps',h',d1.as S g (λhh pp S' _ pr=>Lm S' T1.n1 (aN pr T1.ms) (dw pr e1) ha a0 ea) (by rw[e2];decide),.inr ⟨_,_,_,L⟩,by rw[eF L.ms,e2];show (0:Int)<=0+1;decide⟩
    ·have hpos:0<m.ht:=by
      have:=congrArg Ms.ht e5;rw[bI] at this;have:=X.ky.ht
      (clear e5 Y X ea sg T1 hd hz hge a0 ha T g S;omega)
     obtain⟨c,e,mc,me,y1,y2,lc,fe,ep,C,E,rfl,em,w1,w2,w3⟩:=g.cut T1 hpos;have hh:m.ht=max mc.ht me.ht+1:=by rw[em];rfl
     have c0:=C.ky.ht;have e0:=E.ky.ht;have sc:=C.ky.sg;have se:=E.ky.sg;have la:=eh y1 y2;by_cases hl:mc.sg<=a
     ·have he1:aT ps e=me.ht:=eF E.ms
      have cm:=wD (a:=me.ht) (b:=m.ht) ⋯ ⋯;obtain⟨r,ps',h',d1,T',q1⟩:=wW d (n:=e) (a:=a-mc.sg) (x:=y2) S g (.inr ⟨_,_,_,E⟩) ⋯ (by rw[he1];lia) (by rw[he1];lia)
      rw[he1] at d1 q1;refine⟨r,ps',h',d1.as S g (λhh pp S' _ pr=>wU S' T1.n1 (aN pr T1.ms) (aN pr C.ms) (dw pr ep) a0 ea hl) cm,?_,by lia⟩
      rw[wC ⋯,<- sc];exact T'
     ·have hc1:aT ps c=mc.ht:=eF C.ms
      have cs:=AS (a:=m.ht-1) (b:=mc.ht) c0 ⋯;rw[show m.ht-1+1=m.ht by lia] at cs;obtain⟨r,ps1,h1,d1,T',q1⟩:=wW d (n:=c) (a:=a) (x:=y1) S g (.inr ⟨_,_,_,C⟩) ⋯ (by rw[hc1];lia) (by rw[hc1];lia)
      rw[hc1] at d1 q1;have z1:=d1.dd.len
      have lt:=nK y1 a;have most:=T1.ky.most;have E':TxZ ps1 e y2:=.inr ⟨_,_,_,E.pre d1.dd.pre⟩;have he2:aT ps1 e=me.ht:=eF (E.pre d1.dd.pre).ms;obtain⟨s,ps2,h2,d2,T2,q2⟩:=AN d1.dd.sh d1.dd.gd T' E' ⋯ ⋯;have hr:=pV T';refine⟨s,ps2,h2,Dn.seq' S g d1 d2 (λhh hh1 pp S' _ pr ev=>wV S' T1.n1 (aN pr T1.ms) (aN pr C.ms) (dw pr ep) a0 ea hl ev) (by(clear hr q2 T2 d2 E' most lt z1 T' d1 hc1 hl la se sc e0 c0 w3 w2 em sg T1 ha T E C ep e5 Y X ea hd hge a0 g S;lia)),?_,by lia⟩
      rw[wB ⋯];exact T2
def AX(g:Good ps)(t:TxZ ps n x):-1<=aT ps n/\aT ps n<=82:=by
 refine⟨pV t,?_⟩
 rcases t with⟨rfl,rfl⟩|⟨m,f,l,T⟩
 ·rw[pP];lia
 ·rw[eF T.ms];exact e7 g T
def AY(S:ShelfAt h p ps)(g:Good ps)(T:TxZ ps n x)(ha:a<=x.length)(hz:ps.length<14000000) :
  ∃ (r:Nat) (ps':List Pc) (h':AH),dF 90 [.ref p,.int n,.int a] h=.ok (.int r) h'/\Dd p h h' ps ps' 57120/\TxZ ps' r (bU x a):=by
 have b:=AX g T;have c:=AU (a:=aT ps n) ⋯ b.1;obtain⟨r,ps',h',d,T',_⟩:=wQ (p:=p) 90 (a:=a) S g T ha ⋯ ⋯;exact⟨r,ps',h',d.ev,{ d.dd with len:=Oc d.dd.len (OD c _) },T'⟩
def AZ(S:ShelfAt h p ps)(g:Good ps)(T:TxZ ps n x)(ha:a<=x.length)(hz:ps.length<14000000) :
  ∃ (r:Nat) (ps':List Pc) (h':AH),dG 90 [.ref p,.int n,.int a] h=.ok (.int r) h'/\Dd p h h' ps ps' 57120/\TxZ ps' r (dJ x a):=by
 have b:=AX g T;have c:=AU (a:=aT ps n) ⋯ b.1;obtain⟨r,ps',h',d,T',_⟩:=wW (p:=p) 90 (a:=a) S g T ha ⋯ ⋯;exact⟨r,ps',h',d.ev,{ d.dd with len:=Oc d.dd.len (OD c _) },T'⟩
def sL(S:ShelfAt h p ps)(g:Good ps)(A:TxZ ps a x)(B:TxZ ps b y)(hm:x.length+y.length<=1000000000000000000)(hz:ps.length<15000000) :
  ∃ (n:Nat) (ps':List Pc) (h':AH),bW [.ref p,.int a,.int b] h=.ok (.int n) h'/\Dd p h h' ps ps' 1400/\TxZ ps' n (x++y):=by
 obtain⟨n,ps',h',d,T⟩:=wo S g A B hm hz;exact⟨n,ps',h',d.ev,{ d.dd with len:=Oc d.dd.len (OD (wK g A B) _) },T⟩
def Ln{m:Ms}(S:ShelfAt h p ps)(em:(meas ps)[n]?=some m)(be:b<=e)(hm:e<=m.sg):rP [.ref p,.int n,.int b,.int e] h=.ok .non h:=by
 have fs:=dH S em;have l1:aY (.int 0) (.int b) h=.ok (.bl true) h:=by
  have:(0:Int)<=b:=by lia
  simp only[aY,this,Rg]
 have l2:aY (.int b) (.int e) h=.ok (.bl true) h:=by
  have:(b:Int)<=e:=by lia
  simp only[aY,this,Rg]
 have l3:aY (.int e) (.int m.sg) h=.ok (.bl true) h:=by
  have:(e:Int)<=m.sg:=by lia
  simp only[aY,this,Rg]
 simp[rP,S.ob,fs,l1,l2,l3,-aY]
def Lo{t:Nat}{m:Ms}(S:ShelfAt h p ps)(em:(meas ps)[n]?=some m)(hm:t<=m.sg):rO [.ref p,.int n,.int t] h=.ok .non h:=by
 have fs:=dH S em;have l1:aY (.int 0) (.int t) h=.ok (.bl true) h:=by
  have:(0:Int)<=t:=by lia
  simp only[aY,this,Rg]
 have l2:aY (.int t) (.int m.sg) h=.ok (.bl true) h:=by
  have:(t:Int)<=m.sg:=by lia
  simp only[aY,this,Rg]
 simp[rO,S.ob,fs,l1,l2,-aY]
def Lp(S:ShelfAt h p ps)(g:Good ps)(T:TxZ ps n x)(be:b<=e)(ex:e<=x.length)(hx:x.length<=1000000000000000000)(hz:ps.length<13000000) :
  ∃ (r:Nat) (ps':List Pc) (h':AH),pE [.ref p,.int n,.int b,.int e] h=.ok (.int r) h'/\Dd p h h' ps ps' 120000/\TxZ ps' r (bU x b++dJ x e):=by
 obtain⟨m,em,sm⟩:=T.meas;have ck:=Ln S em be ⋯;obtain⟨r1,ps1,h1,e1,D1,T1⟩:=AY (a:=b) S g T ⋯ ⋯;have z1:=D1.len;obtain⟨r2,ps2,h2,e2,D2,T2⟩:=AZ (a:=e) D1.sh D1.gd (T.pre D1.pre) ex ⋯;have z2:=D2.len;have l1:=sF (x:=x) (a:=b) ⋯;have l2:=nK x e;obtain⟨r,ps3,h3,e3,D3,T3⟩:=sL D2.sh D2.gd (T1.pre D2.pre) T2 ⋯ ⋯;refine⟨r,ps3,h3,?_,(D1.trans D2 (Oa _)).trans D3 ⋯,T3⟩
 unfold pE;generalize dG 90=FB,dF 90=FF at *;simp[ck,e1,e2,e3]
def Lq{t:Nat}(S:ShelfAt h p ps)(g:Good ps)(A:TxZ ps a x)(B:TxZ ps b y)(tx:t<=x.length)(hx:x.length+y.length<=1000000000000000000)(hz:ps.length<13000000) :
  ∃ (r:Nat) (ps':List Pc) (h':AH),pC [.ref p,.int a,.int t,.int b] h=.ok (.int r) h'/\Dd p h h' ps ps' 120000/\TxZ ps' r ((bU x t++y)++dJ x t):=by
 obtain⟨ma,ema,sma⟩:=A.meas;obtain⟨mb,emb,smb⟩:=B.meas;have ck:=Lo S ema (show t<=ma.sg by lia);have f1:=dH S ema;have f2:=dH S emb;have lk:=pQ (i:=(ma.sg:Int)+mb.sg) ⋯ h;obtain⟨r1,ps1,h1,e1,D1,T1⟩:=AY (a:=t) S g A tx ⋯;have z1:=D1.len;have l1:=sF tx;obtain⟨r2,ps2,h2,e2,D2,T2⟩:=sL D1.sh D1.gd T1 (B.pre D1.pre) ⋯ ⋯;have z2:=D2.len;have l2:=eh (bU x t) y;obtain⟨r3,ps3,h3,e3,D3,T3⟩:=AZ (a:=t) D2.sh D2.gd (A.pre (D1.pre.trans D2.pre)) tx ⋯;have z3:=D3.len;have l3:=nK x t;obtain⟨r,ps4,h4,e4,D4,T4⟩:=sL D3.sh D3.gd (T2.pre D3.pre) T3 ⋯ ⋯;refine⟨r,ps4,h4,?_,((D1.trans D2 (Oa _)).trans D3 (Oa _)).trans D4 ⋯,T4⟩
 have ob:=S.ob;unfold pC;generalize dG 90=FB,dF 90=FF at *;simp[ob,f1,f2,ck,lk,e1,e2,e3,e4]
def Lr(c k:Int)(h:AH):∃ m,rF [.int c,.int k] h=.ok (.int m) h:=by
 have b1:0<=(c % 1000000007+7919*k+101)*48271 % 2147483647:=QP _ 'd';have b2:(c % 1000000007+7919*k+101)*48271 % 2147483647<2147483647:=Q3 _ 'd';refine⟨(c % 1000000007+7919*k+101)*48271 % 2147483647*((c % 1000000007+7919*k+101)*48271 % 2147483647) % 2147483629*69621 % 2147483647,?_⟩
 generalize he:(c % 1000000007+7919*k+101)*48271 % 2147483647=v at *;have c1:v.natAbs<18446744073709551616:=by lia
 simp[rF,he,c1]
def Ls{i j:Int}(hi:i.natAbs<2 ^ 4000)(hj:j.natAbs<2 ^ 4000):bq (.int i) (.int j) h=.ok (.int (i*j)) h:=(Of (.inr ⟨hi,hj⟩))
def Lu(ns:List Int):oO (ns.map AV.int)=some ns:=by
 induction ns with
 |nil=>rfl
 |cons n r ih=>simp[ih]
abbrev T60:Int:=1000000000000000000000000000000000000000000000000000000000000000000000000000000000000000000000000000000000000000000000000
def Lv:(10:Nat) ^ 960<2 ^ 4000:=by decide +kernel
def Lw:T60.natAbs<2 ^ 4000:=by decide +kernel
def Lx(ns:List Int)(k:Nat)(i:Nat)(c:Nat)(o:Option AV)(h:AH)(hi:i<8)(hc:c<10 ^ (120*i))(hj:k+i*8<ns.length) :
  ∃ c':Nat,c'<10 ^ (120*(i+1))/\m9 [some (.fl (ns.map AV.int)),some (.int k),some (.int c),some (.int ((k:Int)+i*8)),o] h=.nx [some (.fl (ns.map AV.int)),some (.int k),some (.int c'),some (.int ((k:Int)+i*8)),o] h:=by
 obtain⟨s,es⟩:∃ s,ns[k+i*8]?=some s:=⟨ns[k+i*8],by simp[hj]⟩
 have ix:ao (.fl (ns.map AV.int)) (.int ((k:Int)+i*8)) h=.ok (.int s) h:=by
  rw[show ((k:Int)+i*8)=((k+i*8:Nat):Int) by simp];simp only[ao,Ka es]
 have p1:(10:Nat) ^ (120*i)<=10 ^ 960:=Se 'd' ⋯;have m1:((c:Int)).natAbs<2 ^ 4000:=by
  have:=Lv;exact QT (show c<10 ^ 960 by lia) this
 have mu:bq (.int c) (.int T60) h=.ok (.int (c*T60)) h:=Ls m1 Lw;have r0:0<=s % T60:=QP _ 'd';have r1:s % T60<T60:=Q3 _ 'd';obtain⟨r,er⟩:∃ r:Nat,s % T60=(r:Int):=⟨(s % T60).toNat,(Sw r0).symm⟩
 have rl:r<10 ^ 120:=by
  have:(r:Int)<T60:=er▸r1
  have e:T60=((10 ^ 120:Nat):Int):=by decide +kernel
  rw[e] at this;exact Int.ofNat_lt.mp this
 obtain⟨c',ec,lc⟩:∃ c':Nat,(c:Int)*T60+r=(c':Int)/\c'<10 ^ (120*(i+1)):=by
  refine⟨c*10 ^ 120+r,?_,?_⟩
  ·have e:T60=((10 ^ 120:Nat):Int):=by decide +kernel
   rw[e,Int.natCast_add,Int.natCast_mul]
  ·rw[show 120*(i+1)=120*i+120 by lia,Nat.pow_add]
   have:(c+1)*10 ^ 120<=10 ^ (120*i)*10 ^ 120:=Nat.mul_le_mul_right _ hc
   have e2:(c+1)*10 ^ 120=c*10 ^ 120+10 ^ 120:=Nat.succ_mul _ _;lia
 refine⟨c',lc,?_⟩
 have pw:(ah bq (ah b9 (ae (.int 10)) (ae (.int 60))) (ah b9 (ae (.int 10)) (ae (.int 60)))) [some (.fl (ns.map AV.int)),some (.int k),some (.int c),some (.int ((k:Int)+i*8)),o] h=.ok (.int T60) h:=by simp
 have md:bH (.int s) (.int T60) h=.ok (.int r) h:=by simp only[bH];rw[Of 'd',er]
 clear p1 m1 r0 r1 er rl hc lc hi;unfold m9
 generalize T60=t60,ah bq (ah b9 (ae (.int 10)) (ae (.int 60))) (ah b9 (ae (.int 10)) (ae (.int 60)))=PW at *;simp[pw,mu,ix,md,ec,-bq,-ao,-bH]
def Ly(en0:Option AV)(ns:List Int)(k c f j:Int)(h:AH):∃ f',nh [some (.fl (ns.map AV.int)),some (.int k),some (.int c),some (.int j),some (.int f)] h=.nx [some (.fl (ns.map AV.int)),some (.int k),some (.int c),some (.int j),some (.int f')] h:=by
 obtain⟨m,hm⟩:=Lr (c+1009*k+ns.length) j h;refine⟨f*2147483647+m,?_⟩
 have m1:bq (.int f) (.int 2147483647) h=.ok (.int (f*2147483647)) h:=Ah 'd';have m2:bq (.int 1009) (.int k) h=.ok (.int (1009*k)) h:=J9 'd';simp[nh,hm,m1,m2,-bq]
def A0(ns:List Int)(hl:ns.length<=63)(k:Nat)(hk:k<=10)(h:AH):∃ N:Int,iK [.fl (ns.map AV.int),.int k] h=.ok (.ref h.length) (h++[.lst [.int N]]):=by
 obtain⟨M,eM⟩:∃ M:Nat,M=(if (k:Int)<(ns.length:Int) then((ns.length:Int)-k-1) / 8+1 else 0).toNat:=⟨_,rfl⟩
 have hM:M<=8/\∀ i,i<M->k+i*8<ns.length:=by
  rw[eM];split
  ·refine⟨by(clear eM hk;lia),λi hi=>by(clear eM hk hl;omega)⟩
  ·refine⟨by lia,λi hi=>by simp at hi⟩
 obtain⟨e1,h1,r1,r2⟩:=nG (w:=none) (all:=(List.range M).map (λm:Nat=>AV.int ((k:Int)+m*8))) (t:=.nm 3) (b:=m9) (xs:=(List.range M).map (λm:Nat=>AV.int ((k:Int)+m*8))) (en:=[some (.fl (ns.map AV.int)),some (.int k),some (.int 0),none,none]) (h:=h)
  (λi en h'=>h'=h/\∃ (c:Nat) (o:Option AV),c<10 ^ (120*i)/\en=[some (.fl (ns.map AV.int)),some (.int k),some (.int c),o,none]) ⟨rfl,0,none,by decide,rfl⟩ (λ_ _ _ _=>rfl) (by
   rintro j x en h' hx ⟨rfl,c,o,hc,rfl⟩
   rw[OI] at hx;obtain⟨m,em,rfl⟩:=Ow.mp hx
   have hj:j<M:=by
    have:=(NZ.mp em).1;simpa using this
   rw[QS hj] at em
   cases em
   obtain⟨c',l',e⟩:=Lx ns k j c none h' (by have:=hM.1;(clear this hx hc eM hk hl;lia)) hc (hM.2 j hj)
   show thn (m9 [some (.fl (ns.map AV.int)),some (.int k),some (.int c),some (.int ((k:Int)+j*8)),none] h') _
   rw[e];exact⟨rfl,c',_,l',rfl⟩)
 obtain⟨rfl,c,o,hc,rfl⟩:=r2;have z1:(k:Int).natAbs<1099511627776:=by lia
 have z2:((ns.length:Nat):Int).natAbs<1099511627776:=by lia
 have it3:jC (aa 1) (au aI (ai (aa 0) af)) (ae (.int 8)) [some (.fl (ns.map AV.int)),some (.int k),some (.int 0),none,none] h1=.ok ((List.range M).map (λm:Nat=>AV.int ((k:Int)+m*8)),none) h1:=by
  simp only[jC,aa,au,ai,af,ae,Out.bind,aI,List.getElem?_cons_zero,Rv,vQ]
  rw[Of ⟨z1,z2,by decide,by decide⟩,<- eM]
 have f1:=(nH (t:=.nm 3) (b:=m9) it3).trans r1;clear r1 it3;by_cases hb:(1000000000000000000:Int)<=c
 ·exact⟨c,by simp[iK,f1,hb,-cR]⟩
 ·have cm:=J4 (js:=[]) (en:=[some (.fl (ns.map AV.int)),some (.int k),some (.int c),o,none]) (w:=none) (all:=ns.map AV.int) (e:=ah bH (aa 0) (ah b9 (ae (.int 10)) (ae (.int 18)))) (g:=AV.int) (f:=λi=>AV.int (i % 1000000000000000000)) (h:=h1) rfl ns [] (by intro i _;simp) (by
    simp only[List.length_nil];exact Oc (show 0+ns.length<=63 by lia) 'd')
  have im:(ns.map λi=>AV.int (i % 1000000000000000000))=(ns.map λi=>i % 1000000000000000000).map AV.int:=by simp
  obtain⟨S,eS⟩:∃ S:Int,S=(ns.map λi=>i % 1000000000000000000).sum:=⟨_,rfl⟩
  have sm:gX [.fl (ns.map λi=>AV.int (i % 1000000000000000000))] h1=.ok (.int S) h1:=by
   rw[im,eS];simp only[gX,Lu]
  obtain⟨e2,h2,s1,s2⟩:=nG (w:=none) (all:=dz 0 16) (t:=.nm 3) (b:=nh) (xs:=dz 0 16) (en:=[some (.fl (ns.map AV.int)),some (.int k),some (.int (c+S)),o,some (.int 0)]) (h:=h1)
   (λi en h'=>h'=h1/\∃ (f:Int) (o:Option AV),en=[some (.fl (ns.map AV.int)),some (.int k),some (.int (c+S)),o,some (.int f)]) ⟨rfl,0,o,rfl⟩ (λ_ _ _ _=>rfl) (by
    rintro j x en h' hx ⟨rfl,f,o,rfl⟩
    rw[Ag] at hx;by_cases q:j<16
    ·rw[Of q] at hx
     cases hx
     obtain⟨f',e⟩:=Ly none ns k (c+S) f (0+(j:Int)) h';show thn (nh [some (.fl (ns.map AV.int)),some (.int k),some (.int (c+S)),some (.int (0+(j:Int))),some (.int f)] h') _
     rw[e];exact⟨rfl,f',_,rfl⟩
    ·rw[Og q] at hx;cases hx)
  obtain⟨rfl,f,o',rfl⟩:=s2;have f2:=(nH (t:=.nm 3) (b:=nh) (rR (a:=ae (.int 16)) (en:=[some (.fl (ns.map AV.int)),some (.int k),some (.int (c+S)),o,some (.int 0)]) (h:=h2) (n:=16) rfl 'd')).trans s1;refine⟨f,?_⟩
  simp at cm
  simp[iK,f1,hb,cm,sm,f2,-cR,-gX]
def LA{st:Nat}{n:Int}(m:Nat)(e:h[st]?=some (.lst [.int n]))(hm:0<m)(hm2:m<=10 ^ 50):∃ v:Nat,v<m/\aQ [.ref st,.int m] h=.ok (.int v) (h.set st (.lst [.int (n / m)])):=by
 have a0:atI [AV.int n] 0=some (.int n):=rfl;have i0:ic 1 0=some 0:=rfl;have hm0:(0:Int)<m:=Int.ofNat_lt.mpr hm;have hm3:m<1606938044258990275541962092341162602522202993782792835301376:=Ol hm2 'd';refine⟨(n % m).toNat,?_,?_⟩
 ·have:=Q3 n hm0;have:=QP n (show (m:Int)≠0 by lia);lia
 ·rw[Sw (QP n (show (m:Int)≠0 by lia))]
  simp[aQ,e,a0,hm0,hm,hm3,i0]
def nL(m:Nat)(e:hh[L]?=some (.lst [.int N]))(hm:0<m)(hm2:m<=10 ^ 50):∃ (v:Nat) (N':Int),v<m/\aQ [.ref L,.int m] hh=.ok (.int v) (hh.set L (.lst [.int N'])):=by
 obtain⟨v,hv,e1⟩:=LA m e hm hm2;exact⟨v,N / m,hv,e1⟩
def LB(hy:bQ y=true)(hc:nI c=true):bQ (y++⟨#[c]⟩)=true/\(y++(⟨#[c]⟩:Str)).length=y.length+1:=by
 refine⟨?_,by rw[eh];rfl⟩
 rw[pI,hy];simp[bQ,hc]
def hX:List Str:=["ab", "aaab", "a\n", "ab \n", "abcdefghijklmnopqrstuvwxyz 0123456789.,~\n"]
def pW:∀ x∈hX,bQ x=true/\1<=x.length/\x.length<=200/\35∉x.cps.toList:=by decide +kernel
def LC(v:Nat)(hv:v<5):∃ z:Str,(∀ h,ao (.fl [.str "ab",.str "aaab",.str "a\n",.str "ab \n",.str "abcdefghijklmnopqrstuvwxyz 0123456789.,~\n"]) (.int (v:Int)) h=.ok (.str z) h)/\bQ z=true/\1<=z.length/\z.length<=200/\35∉z.cps.toList:=by
 have:v=0\/v=1\/v=2\/v=3\/v=4:=by lia
 rcases this with rfl|rfl|rfl|rfl|rfl
 ·exact⟨_,λ_=>rfl,pW _ (by simp[hX])⟩
 ·exact⟨_,λ_=>rfl,pW _ (by simp[hX])⟩
 ·exact⟨_,λ_=>rfl,pW _ (by simp[hX])⟩
 ·exact⟨_,λ_=>rfl,pW _ (by simp[hX])⟩
 ·exact⟨_,λ_=>rfl,pW _ (by simp[hX])⟩
def LD{v:Nat}(hv:v<x.length)(hx:bQ x=true)(h:AH):∃ c,c∈x.cps.toList/\nI c=true/\ao (.str x) (.int v) h=.ok (.str ⟨#[c]⟩) h:=by
 have hv':v<x.cps.toList.length:=by rw[<- cT];exact hv
 refine⟨x.cps.toList[v],PK hv',OW.mp hx _ (PK hv'),?_⟩
 have e:x.cps.toList[v]?=some x.cps.toList[v]:=On hv';simp only[ao,mH e]
def A3(most:Nat)(hm:most<=1000)(e:hh[L]?=some (.lst [.int N])):∃ (y:Str) (N':Int),iL [.ref L,.int most] hh=.ok (.str y) (hh.set L (.lst [.int N']))/\bQ y=true/\y.length<=most/\35∉y.cps.toList:=by
 have Ll:=bK e;obtain⟨v,N1,hv,t1⟩:=nL 5 e 'd' 'd';have t1':aQ [.ref L,.int 5] hh=.ok (.int v) (hh.set L (.lst [.int N1])):=t1;obtain⟨z,ez,pz,z1,z2,z3⟩:=LC v hv;have e1:(hh.set L (.lst [.int N1]))[L]?=some (.lst [.int N1]):=Ob Ll;obtain⟨k,N2,hk,t2⟩:=nL (most+1) e1 (QU _) (Oc (Nat.succ_le_succ hm) 'd');rw[SU] at t2;have t2':aQ [.ref L,.int ((most:Int)+1)] (hh.set L (.lst [.int N1]))=.ok (.int k) (hh.set L (.lst [.int N2])):=by
  have:=t2;rw[Int.natCast_succ] at this;exact this
 obtain⟨e',h',r1,y,N3,o4,r2,r3,r4,r5,b3⟩:=nG (w:=none) (all:=dz 0 k) (t:=.nm 4) (b:=lG) (xs:=dz 0 k) (en:=[some (.ref L),some (.int most),some (.str z),some (.str ""),none]) (h:=hh.set L (.lst [.int N2]))
  (λj en h'=>∃ (y:Str) (N':Int) (o4:Option AV),en=[some (.ref L),some (.int most),some (.str z),some (.str y),o4]/\h'=hh.set L (.lst [.int N'])/\bQ y=true/\y.length=j/\35∉y.cps.toList) ⟨"",N2,none,rfl,rfl,rfl,rfl,by decide⟩ (λ_ _ _ _=>rfl) (by
   rintro j u en h' hu ⟨y,N',o4,rfl,rfl,py,ly,bb⟩
   have jk:j<k:=by have:=(NZ.mp hu).1;rwa[lU] at this
   have e3:(hh.set L (.lst [.int N']))[L]?=some (.lst [.int N']):=Ob Ll;obtain⟨t,N4,ht,et⟩:=nL z.length e3 ⋯ (Oc z2 'd');rw[SU] at et;obtain⟨c,mc,pc,ec⟩:=LD ht pz (hh.set L (.lst [.int N4]))
   have ad:aB (.str y) (.str ⟨#[c]⟩) (hh.set L (.lst [.int N4]))=.ok (.str (y++⟨#[c]⟩)) (hh.set L (.lst [.int N4])):=by
    have:y.length+(⟨#[c]⟩:Str).length<=sizeLine:=Oc (m:=1001) (by show y.length+1<=_;lia) 'd'
    simp only[aB,this,PM]
   have es:lG [some (.ref L),some (.int most),some (.str z),some (.str y),some u] (hh.set L (.lst [.int N']))=.nx [some (.ref L),some (.int most),some (.str z),some (.str (y++⟨#[c]⟩)),some u] (hh.set L (.lst [.int N4])):=by
    generalize hh.set L (.lst [.int N'])=h1,hh.set L (.lst [.int N4])=h2 at *;simp[lG,et,ec,ad,-ao,-aB]
   show thn (lG [some (.ref L),some (.int most),some (.str z),some (.str y),some u] (hh.set L (.lst [.int N']))) _
   rw[es];obtain⟨q1,q2⟩:=LB py pc
   exact⟨_,N4,_,rfl,rfl,q1,by rw[q2,ly],λz=>by
    rw[dq,OY] at z;rcases z with z|z
    ·exact bb z
    ·have:35=c:=by simpa using z
     exact z3 (this▸mc)⟩)
 rw[lU] at r5;have f1:=(nH (t:=.nm 4) (b:=lG) (rR (a:=au aQ (ai (aa 0) (ai (ah aB (aa 1) (ae (.int 1))) af))) (en:=[some (.ref L),some (.int most),some (.str z),some (.str ""),none]) (h:=hh.set L (.lst [.int N1])) (n:=k) (by simp[t2']) ⋯)).trans r1
 refine⟨y,N3,?_,r4,by lia,b3⟩
 rw[<- r3];subst r2;unfold iL
 generalize hh.set L (.lst [.int N1])=h1,cR (ju (au aQ (ai (aa 0) (ai (ah aB (aa 1) (ae (.int 1))) af)))) (.nm 4) lG=F1 at *;simp[t1',ez,f1,-aB,-ao]
def lZ(c:Nat):Bool:=decide (97<=c) && decide (c<=122)
def LF:(Str.ofString "a")=⟨#[97]⟩:=by decide +kernel
def LG:(Str.ofString "z")=⟨#[122]⟩:=by decide +kernel
def LH(c:Nat)(en:En)(h:AH):fu aY aY (ae (.str "a")) (aa 0) (ae (.str "z")) (some (.str ⟨#[c]⟩)::en) h=.ok (.bl (lZ c)) h:=by
 simp[LF,LG,Ai,lZ]
 by_cases h2:c<97
 ·have:¬ 97<=c:=by lia
  simp[h2,this]
 ·have h3:97<=c:=by lia
  by_cases h4:c<=122
  ·have:¬ 122<c:=by lia
   simp[h2,h3,h4,this]
  ·have:122<c:=by lia
   simp[h2,h3,h4,this]
def cB(x:Str):Bool:=decide (1<=x.length) && decide (x.length<=8) && x.cps.toList.all lZ
def A4(x:Str)(h:AH)(hl:x.length<=sizeLine):nt [.str x] h=.ok (.bl (cB x)) h:=by
 have e:=rS (js:=[]) (en:=[some (.str x)]) (all:=x.cps.toList.map λc=>AV.str ⟨#[c]⟩) (e:=fu aY aY (ae (.str "a")) (aa 0) (ae (.str "z"))) (g:=λc=>AV.str ⟨#[c]⟩) (f:=λc=>AV.bl (lZ c)) (h:=h) x.cps.toList [] (λc _=>LH c _ h) (by simp;exact hl)
 simp only[P8] at e
 have al:au eQ (ai (fD [] (dU (aa 0)) bx (fu aY aY (ae (.str "a")) (aa 0) (ae (.str "z")))) af) [some (.str x)] h=.ok (.bl (x.cps.toList.all lZ)) h:=by
  simp[-fu]
  rw[e];simp[vM]
 unfold nt;generalize au eQ (ai (fD [] (dU (aa 0)) bx (fu aY aY (ae (.str "a")) (aa 0) (ae (.str "z")))) af)=AL at al ⊢
 generalize hb:x.cps.toList.all lZ=b at al
 by_cases h1:1<=x.length
 ·have i1:(1:Int)<=x.length:=by lia
  by_cases h2:x.length<=8
  ·have i2:(x.length:Int)<=8:=by lia
   simp[i1,i2,h1,h2,al,cB,hb]
  ·have i2:¬ (x.length:Int)<=8:=by lia
   simp[i1,i2,h1,h2,cB,hb]
 ·have i1:¬ (1:Int)<=x.length:=by lia
  simp[i1,h1,cB,hb]
def LI(en:En)(h:AH):mJ 1 4 m8 af en h=.ok (.ref h.length) (h++(.ins 1 [some (.ref (h.length+1)),some (.ref (h.length+10)),some (.ref (h.length+11)),some (.ref (h.length+12))]::(rY (h.length+1)++[.dct false [],.lst [],.lst []]))):=by
 simp[m8,vH,rY,List.getElem?_append,Ko]
abbrev De:=Str×Option Nat×Option Nat
def kG(g:Nat×Str->AV)(e:Str×Nat×Str):AV×AV:=(.str e.1,g e.2)
abbrev gN(v:Nat×Str):AV:=.int v.1
abbrev gS(v:Nat×Str):AV:=.str v.2
def oN:Option Nat->AV
 |none=>.non
 |some n=>.int n
def aS(d:De):AV:=.tup [.str d.1,oN d.2.1,oN d.2.2]
abbrev ZH:=List (Str×Nat×Str)
structure Ho(h:AH)(q p t:Nat)(ps:List Pc)(kx:ZH)(ds bs:List De):Prop where
 ob:h[q]?=some (.ins 1 [some (.ref p),some (.ref t),some (.ref (t+1)),some (.ref (t+2))])
 sh:ShelfAt h p ps
 gd:Good ps
 tx:h[t]?=some (.dct false (kx.map (kG gN)))
 de:h[t+1]?=some (.lst (ds.map aS))
 ba:h[t+2]?=some (.lst (bs.map aS))
 tz:∀ e∈kx,TxZ ps e.2.1 e.2.2/\cB e.1=true
 lo:q<p/\p+8<t
 ct:kx.length<=50
 nd:(kx.map (·.1)).Nodup
def Ho.app{h:AH}{q p t:Nat}{ps:List Pc}{kx:ZH}{ds bs:List De}(H:Ho h q p t ps kx ds bs)(r:AH):Ho (h++r) q p t ps kx ds bs:=by
 have l:=bK H.ba;have lo:=H.lo;have k:∀ i,i<h.length->(h++r)[i]?=h[i]?:=λi hi=>Oj hi
 exact⟨(k _ ⋯).trans H.ob,H.sh.app r,H.gd,(k _ ⋯).trans H.tx,(k _ ⋯).trans H.de,(k _ l).trans H.ba,H.tz,lo,H.ct,H.nd⟩
def lk(kx:ZH)(x:Str):Option (Nat×Str):=(kx.find? λe=>decide (e.1=x)).map (·.2)
def gL(e:Str×Nat×Str)(r:ZH)(x:Str):lk (e::r) x=if e.1=x then some e.2 else lk r x:=by
 unfold lk;rw[O2];by_cases q:e.1=x
 ·simp[q]
 ·simp[q]
theorem cJ{x:Str}{v:Nat×Str}:∀ {kx:ZH},lk kx x=some v->(x,v)∈kx
 |[],e=>nomatch e
 |e::r,h=>by
  rw[gL] at h;by_cases q:e.1=x
  ·rw[Of q] at h
   cases h
   subst q;exact O0 ..
  ·rw[Og q] at h
   exact OK _ (cJ h)
theorem ja(g:Nat×Str->AV)(x:Str):∀ kx:ZH,aU (kx.map (kG g)) (.str x)=(lk kx x).map g
 |[]=>rfl
 |e::r=>by
  have ih:=ja g x r;unfold aU at ih ⊢
  rw[Ot,gL,O2];by_cases q:e.1=x
  ·have:decide ((kG g e).1=AV.str x)=true:=OM (by rw[<- q];rfl)
   rw[this,Of q];rfl
  ·have:decide ((kG g e).1=AV.str x)=false:=OB (λz=>q (by injection z))
   rw[this,Og q];exact ih
def put(kx:ZH)(x:Str)(v:Nat×Str):ZH:=if (lk kx x).isSome=true then kx.map λe=>if e.1=x then(x,v) else e else kx++[(x,v)]
def l9(g:Nat×Str->AV)(kx:ZH)(x:Str)(v:Nat×Str):d9 (kx.map (kG g)) (.str x) (g v)=(put kx x v).map (kG g):=by
 unfold d9 put;rw[uZ,ja,Qd];by_cases q:(lk kx x).isSome=true
 ·rw[Of q,Of q,P3,P3]
  refine Pm λe _=>?_
  show (if (kG g e).1=.str x then((kG g e).1,g v) else kG g e)=kG g (if e.1=x then(x,v) else e)
  by_cases z:e.1=x
  ·rw[Of z,Of (by rw[<- z];rfl)]
   show (AV.str e.1,g v)=_
   rw[z];rfl
  ·rw[Og z,Og (λw=>z (by injection w))]
 ·rw[Og q,Og q,OS]
  rfl
def ke(kx:ZH)(x:Str):ZH:=kx.filter λe=>decide (¬ e.1=x)
def A5(g:Nat×Str->AV)(kx:ZH)(x:Str):oV (kx.map (kG g)) (.str x)=(ke kx x).map (kG g):=by
 unfold oV ke;rw[List.filter_map];congr 1
 refine List.filter_congr λe _=>?_
 show decide (¬ AV.str e.1=AV.str x)=decide (¬ e.1=x)
 exact decide_eq_decide.mpr ⟨λh z=>h (by rw[z]),λh z=>h (by injection z)⟩
theorem A6(x y:Str):∀ kx:ZH,lk (ke kx x) y=if x=y then none else lk kx y
 |[]=>by simp[ke,lk]
 |e::r=>by
  have ih:=A6 x y r;unfold ke at ih ⊢
  rw[PJ];by_cases q:e.1=x
  ·rw[Og (by simp[q]),ih,gL]
   by_cases z:x=y
   ·rw[Of z,Of z]
   ·rw[Og z,Og z,Og (by rw[q];exact z)]
  ·rw[Of (by simp[q]),gL,gL,ih]
   by_cases w:e.1=y
   ·rw[Of w,Of w,Og (by rw[<- w];exactλz=>q z.symm)]
   ·rw[Og w,Og w]
def upd(kx:ZH)(x:Str):Option (Nat×Str)->ZH
 |some v=>put kx x v
 |none=>ke kx x
def LJ(kx:ZH)(x:Str)(v:Nat×Str):(put kx x v).length<=kx.length+1:=by
 unfold put;split
 ·rw[Oh];lia
 ·rw[OP];simp
variable{kx ky:ZH}
def LM{v:Nat×Str}{e:Str×Nat×Str}(h:e∈put kx x v):e=(x,v)\/e∈kx:=by
 unfold put at h;split at h
 ·obtain⟨e',h',rfl⟩:=PH.mp h
  by_cases z:e'.1=x
  ·rw[Of z];exact .inl rfl
  ·rw[Og z];exact .inr h'
 ·rcases OY.mp h with h|h
  ·exact .inr h
  ·exact .inl (Qs.mp h)
theorem A7(x y:Str)(v:Nat×Str):∀ kx:ZH,lk (kx.map λe=>if e.1=x then(x,v) else e) y=if x=y then(lk kx x).map λ_=>v else lk kx y
 |[]=>by simp[lk]
 |e::r=>by
  rw[Ot,gL,A7 x y v r,gL,gL];by_cases z:e.1=x
  ·rw[Of z,Of z]
   by_cases w:x=y
   ·rw[Of w];simp[w]
   ·rw[Og w]
    simp[w,z]
  ·rw[Og z,Og z]
   by_cases w:x=y
   ·have:¬ e.1=y:=w▸z
    simp[w,this]
   ·simp[w]
theorem A8(x y:Str)(v:Nat×Str):∀ kx:ZH,lk (kx++[(x,v)]) y=(lk kx y).or (if x=y then some v else none)
 |[]=>by rw[P8,gL];rfl
 |e::r=>by
  rw[List.cons_append,gL,gL,A8 x y v r];by_cases z:e.1=y
  ·rw[Of z,Of z];rfl
  ·rw[Og z,Og z]
def LN(kx:ZH)(x y:Str)(v:Nat×Str):lk (put kx x v) y=if x=y then some v else lk kx y:=by
 unfold put
 cases q:lk kx x with
 |some w =>
  rw[Of (by rfl),A7,q];rfl
 |none =>
  rw[Og 's',A8];by_cases w:x=y
  ·subst w;rw[q,Of rfl];rfl
  ·rw[Og w,Og w,Option.or_none]
def jL(kx:ZH)(x y:Str)(o:Option (Nat×Str)):lk (upd kx x o) y=if x=y then o else lk kx y:=by
 cases o with
 |some v=>exact LN kx x y v
 |none=>exact A6 x y kx
theorem zbK{x:Str}:∀ {kx:ZH},lk kx x=none ↔ x∉kx.map (·.1)
 |[]=>by simp[lk]
 |e::r=>by
  rw[gL,Ot,Ov];by_cases q:e.1=x
  ·simp[q]
  ·rw[Og q,zbK]
   simp only[not_or]
   exact⟨λh=>⟨λz=>q z.symm,h⟩,λh=>h.2⟩
def nM(h:(kx.map (·.1)).Nodup)(x:Str)(o:Option (Nat×Str)):((upd kx x o).map (·.1)).Nodup:=by
 cases o with
 |some v =>
  show ((put kx x v).map (·.1)).Nodup
  unfold put
  cases q:lk kx x with
  |some w =>
   rw[Of (by rfl),P3];have:((λe:Str×Nat×Str=>e.1) ∘ λe=>if e.1=x then(x,v) else e)=λe=>e.1:=by
    funext e
    show (if e.1=x then(x,v) else e).1=e.1
    split
    ·rename_i z;exact z.symm
    ·rfl
   rw[this];exact h
  |none =>
   rw[Og 's',OS,QB];refine⟨h,by simp,λa ha b hb=>?_⟩
   simp at hb
   subst hb;exactλz=>zbK.mp q (z▸ha)
 |none=>exact h.sublist (List.Sublist.map _ List.filter_sublist)
variable{o:Option (Nat×Str)}
def nN{e:Str×Nat×Str}(h:e∈upd kx x o):(∃ v,o=some v/\e=(x,v))\/e∈kx:=by
 cases o with
 |some v=>exact(LM h).imp (λz=>⟨v,rfl,z⟩) id
 |none=>exact .inr (RN.mp h).1
def sM(kx:ZH)(x:Str)(o:Option (Nat×Str)):(upd kx x o).length<=kx.length+1:=by
 cases o with
 |some v=>exact LJ kx x v
 |none=>exact QE (QJ _ _)
structure Fh(p t:Nat)(h h':AH):Prop where
 fr:∀ i,(i<p\/p+8<i)->i≠t->i≠t+1->i≠t+2->h'[i]?=h[i]?
 hl:h'.length=h.length
def Fh.trans{p t:Nat}{h h' h'':AH}(a:Fh p t h h')(b:Fh p t h' h''):Fh p t h h'':=(⟨λi h1 h2 h3 h4=>(b.fr i h1 h2 h3 h4).trans (a.fr i h1 h2 h3 h4),b.hl.trans a.hl⟩)
def Fh.dd{t:Nat}{k:Nat}(d:Dd p h h' ps ps' k):Fh p t h h':=(⟨λi h1 _ _ _=>d.fr i ⋯,d.hl⟩)
section
variable{h:AH}{q p t:Nat}{ps:List Pc}{kx:ZH}{ds bs:List De}
def Ho.dd(H:Ho h q p t ps kx ds bs){k:Nat}(d:Dd p h h' ps ps' k):Ho h' q p t ps' kx ds bs:=by
 have lo:=H.lo;exact⟨(d.fr q ⋯).trans H.ob,d.sh,d.gd,(d.fr t ⋯).trans H.tx,(d.fr (t+1) ⋯).trans H.de,(d.fr (t+2) ⋯).trans H.ba,λe he=>⟨(H.tz e he).1.pre d.pre,(H.tz e he).2⟩,lo,H.ct,H.nd⟩
def sN(h:cB x=true):x.length<=8:=by
 unfold cB at h;simp only[OT,Px] at h
 exact h.1.2
def A9(hx:cB x=true)(hh:AH):nt [.str x] hh=.ok (.bl true) hh:=by
 rw[A4 x hh (Oc (sN hx) 'd'),hx]
def iR(H:Ho h q p t ps kx ds bs){v:Nat×Str}(l:lk kx x=some v):cO [.ref q,.str x] h=.ok (.int v.1) h:=by
 have nm:=A9 (H.tz _ (cJ l)).2 h;have vk:aU (kx.map (kG gN)) (.str x)=some (.int v.1):=by rw[ja,l];rfl
 have ni:dB (.str x) (.ref t) h=.ok (.bl false) h:=by
  simp only[dB,j0,H.tx,vk,dW,keyOf?,Option.isSome];rfl
 have ix:ao (.ref t) (.str x) h=.ok (.int v.1) h:=by
  have k1:dW false (.str x)=true:=rfl;simp only[ao,H.tx,k1,vk];rfl
 simp[cO,H.ob,nm,ni,ix,-dB,-ao]
def wX(ob:hh[q]?=some (.ins 1 [some (.ref p),some (.ref t),some (.ref (t+1)),some (.ref (t+2))]))(tx:hh[t]?=some (.dct false (kx.map (kG gN))))(ct:kx.length<=60)(ho:o=none->(lk kx x).isSome=true) :
  iM [.ref q,.str x,oN (o.map (·.1))] hh=.ok .non (hh.set t (.dct false ((upd kx x o).map (kG gN)))):=by
 have k1:dW false (.str x)=true:=rfl
 cases o with
 |some v =>
  have sz:(kx.map (kG gN)).length<sizeLine:=by rw[Oh];exact Ol ct 'd'
  have st:fw (Sm.sFld 1 1 (aa 0)) (aa 1) (aa 2) [some (.ref q),some (.str x),some (.int v.1)] hh=.nx [some (.ref q),some (.str x),some (.int v.1)] (hh.set t (.dct false ((upd kx x (some v)).map (kG gN)))):=by
   have e:Sm.sFld 1 1 (aa 0) [some (.ref q),some (.str x),some (.int v.1)] hh=.ok (.ref t) hh:=by simp[ob]
   have e1:aa 1 [some (.ref q),some (.str x),some (.int v.1)] hh=.ok (.str x) hh:=rfl;have e2:aa 2 [some (.ref q),some (.str x),some (.int v.1)] hh=.ok (.int v.1) hh:=rfl;simp only[fw,e,e1,e2,Out.go,tx]
   rw[Of ⟨k1,sz⟩,l9 gN kx x v];rfl
  show iM [.ref q,.str x,.int v.1] hh=_
  unfold iM;generalize fw (Sm.sFld 1 1 (aa 0)) (aa 1) (aa 2)=SX at *;simp[st]
 |none =>
  obtain⟨w,ew⟩:=Oz.mp (ho rfl);have st:i8 (Sm.sFld 1 1 (aa 0)) (aa 1) [some (.ref q),some (.str x),some .non] hh=.ok (.int w.1) (hh.set t (.dct false ((upd kx x none).map (kG gN)))):=by
   have e:Sm.sFld 1 1 (aa 0) [some (.ref q),some (.str x),some .non] hh=.ok (.ref t) hh:=by simp[ob]
   have e1:aa 1 [some (.ref q),some (.str x),some .non] hh=.ok (.str x) hh:=rfl;simp only[i8,e,e1,Out.bind,tx,k1,PM,ja,ew,Option.map]
   rw[A5];rfl
  show iM [.ref q,.str x,.non] hh=_
  unfold iM;generalize i8 (Sm.sFld 1 1 (aa 0)) (aa 1)=SX at *;simp[st]
def jM(H:Ho h q p t ps kx ds bs)(hx:cB x=true)(T:∀ v,o=some v->TxZ ps v.1 v.2)(ct:(upd kx x o).length<=50)(ld:ds.length<=1000)(hs:o=none->(lk kx x).isSome=true) :
  ∃ h',dO [.ref q,.str x,oN (o.map (·.1))] h=.ok .non h'/\Ho h' q p t ps (upd kx x o) (ds++[(x,(lk kx x).map (·.1),o.map (·.1))]) []/\Fh p t h h':=by
 have ctk:=H.ct;have lo:=H.lo;have lt:=bK H.tx;have ld1:=bK H.de;have lb:=bK H.ba;have k1:dW false (.str x)=true:=rfl;have g1:oU (Sm.sFld 1 1 (aa 0)) (aa 1) [some (.ref q),some (.str x),some (oN (o.map (·.1)))] h=.ok (oN ((lk kx x).map (·.1))) h:=by
  have e:Sm.sFld 1 1 (aa 0) [some (.ref q),some (.str x),some (oN (o.map (·.1)))] h=.ok (.ref t) h:=by simp[H.ob]
  unfold oU;rw[e];simp only[Out.bind,H.tx,aa]
  show fH t (.str x) .non h=_
  simp only[fH,H.tx,k1,PM,ja]
  cases lk kx x<;>rfl
 have sz:(ds.map aS).length<sizeLine:=by rw[Oh];exact Ol ld 'd'
 have ap:bP (.ref (t+1)) [aS (x,(lk kx x).map (·.1),o.map (·.1))] h=.ok .non (h.set (t+1) (.lst ((ds++[(x,(lk kx x).map (·.1),o.map (·.1))]).map aS))):=by
  simp only[bP,H.de]
  rw[Of sz];simp
 have il:aZ (.ref (t+1)) h=true:=by simp only[aZ,d8,H.de];rfl
 have f2:Sm.sFld 1 2 (aa 0) [some (.ref q),some (.str x),some (oN (o.map (·.1)))] h=.ok (.ref (t+1)) h:=by simp[H.ob]
 have ob1:(h.set (t+1) (.lst ((ds++[(x,(lk kx x).map (·.1),o.map (·.1))]).map aS)))[q]?=some (.ins 1 [some (.ref p),some (.ref t),some (.ref (t+1)),some (.ref (t+2))]):=by rw[N8 ⋯];exact H.ob
 have ba1:(h.set (t+1) (.lst ((ds++[(x,(lk kx x).map (·.1),o.map (·.1))]).map aS)))[t+2]?=some (.lst (bs.map aS)):=by rw[N8 ⋯];exact H.ba
 have tx1:(h.set (t+1) (.lst ((ds++[(x,(lk kx x).map (·.1),o.map (·.1))]).map aS)))[t]?=some (.dct false (kx.map (kG gN))):=by rw[N8 ⋯];exact H.tx
 have de1:(h.set (t+1) (.lst ((ds++[(x,(lk kx x).map (·.1),o.map (·.1))]).map aS)))[t+1]?=some (.lst ((ds++[(x,(lk kx x).map (·.1),o.map (·.1))]).map aS)):=Ob ld1;have n1:(h.set (t+1) (.lst ((ds++[(x,(lk kx x).map (·.1),o.map (·.1))]).map aS))).length=h.length:=OO;have o1:∀ i,i≠t+1->(h.set (t+1) (.lst ((ds++[(x,(lk kx x).map (·.1),o.map (·.1))]).map aS)))[i]?=h[i]?:=λi hi=>N8 (Ne.symm hi)
 generalize hh1:h.set (t+1) (.lst ((ds++[(x,(lk kx x).map (·.1),o.map (·.1))]).map aS))=h1 at *;have cl:mX (.ref (t+2)) [] h1=.ok .non (h1.set (t+2) (.lst [])):=by simp only[mX,ba1]
 have il1:aZ (.ref (t+2)) h1=true:=by simp only[aZ,d8,ba1];rfl
 have f3:Sm.sFld 1 3 (aa 0) [some (.ref q),some (.str x),some (oN (o.map (·.1)))] h1=.ok (.ref (t+2)) h1:=by simp[ob1]
 have ob2:(h1.set (t+2) (.lst []))[q]?=some (.ins 1 [some (.ref p),some (.ref t),some (.ref (t+1)),some (.ref (t+2))]):=by rw[N8 ⋯];exact ob1
 have tx2:(h1.set (t+2) (.lst []))[t]?=some (.dct false (kx.map (kG gN))):=by rw[N8 ⋯];exact tx1
 have de2:(h1.set (t+2) (.lst []))[t+1]?=some (.lst ((ds++[(x,(lk kx x).map (·.1),o.map (·.1))]).map aS)):=by rw[N8 ⋯];exact de1
 have ba2:(h1.set (t+2) (.lst []))[t+2]?=some (.lst []):=Ob ⋯;have n2:(h1.set (t+2) (.lst [])).length=h.length:=by rw[OO];exact n1
 have o2:∀ i,i≠t+1->i≠t+2->(h1.set (t+2) (.lst []))[i]?=h[i]?:=λi a b=>(N8 (Ne.symm b)).trans (o1 i a)
 generalize hh2:h1.set (t+2) (.lst [])=h2 at *;have st:=wX (x:=x) (o:=o) ob2 tx2 ⋯ hs
 have o3:∀ i,i≠t->i≠t+1->i≠t+2->(h2.set t (.dct false ((upd kx x o).map (kG gN))))[i]?=h[i]?:=λi a b c=>(N8 (Ne.symm a)).trans (o2 i b c)
 refine⟨h2.set t (.dct false ((upd kx x o).map (kG gN))),?_,⟨(o3 q ⋯ ⋯ ⋯).trans H.ob,H.sh.keep λi a b=>o3 i ⋯ ⋯ ⋯,H.gd,Ob ⋯,?_,?_,λe he=>?_,lo,ct,nM H.nd x o⟩,⟨λi _ a b c=>o3 i a b c,by rw[OO];exact n2⟩⟩
 ·have ee:(AV.tup [.str x,oN ((lk kx x).map (·.1)),oN (o.map (·.1))])=aS (x,(lk kx x).map (·.1),o.map (·.1)):=rfl
  generalize oN (o.map (·.1))=ON,(lk kx x).map (·.1)=O,h2.set t (.dct false ((upd kx x o).map (kG gN)))=h3 at *;unfold dO
  generalize Sm.sFld 1 3 (aa 0)=G3,Sm.sFld 1 2 (aa 0)=G2,oU (Sm.sFld 1 1 (aa 0)) (aa 1)=G1 at *;simp[g1,f2,ee,il,ap,f3,il1,cl,ob2,st,-aZ,-bP,-mX]
 ·rw[N8 ⋯];exact de2
 ·rw[N8 ⋯];exact ba2
 ·rcases nN he with⟨v,ev,rfl⟩|he
  ·exact⟨T v ev,hx⟩
  ·exact H.tz e he
end
def wY{R:Nat}{fs:List AV}(e:h[R]?=some (.lst fs))(hf:fs.length<=2000)(v:AV):bP (.ref R) [v] h=.ok .non (h.set R (.lst (fs++[v]))):=by
 have:fs.length<sizeLine:=Ol hf 'd'
 simp only[bP,e,this,PM]
def wZ(e:a+b=c)(h:AH):aB (.int a) (.int b) h=.ok (.int c) h:=by
 have:(a:Int)+b=c:=by lia
 simp only[aB,this]
def LO(a b:Nat)(h:AH):fq (.int a) (.int b) h=.ok (.bl (decide (a<b))) h:=by
 have:decide ((a:Int)<b)=decide (a<b):=by apply decide_eq_decide.mpr;lia
 simp only[fq,this]
structure Fr(L:Nat)(h h':AH):Prop where
 fr:∀ i,i<h.length->i≠L->h'[i]?=h[i]?
 hl:h.length<=h'.length
 ro:∃ N:Int,h'[L]?=some (.lst [.int N])
def Fr.app(a:Fr L h h')(r:AH):Fr L h (h' ++ r):=by
 obtain⟨N,e⟩:=a.ro;exact⟨λi hi n=>by rw[Oj (Ox hi a.hl)];exact a.fr i hi n,by rw[OP];have:=a.hl;lia,N,by rw[Oj (bK e)];exact e⟩
def Fr.trans{L:Nat}{h h' h'':AH}(a:Fr L h h')(b:Fr L h' h''):Fr L h h'' :=(
 ⟨λi hi n=>(b.fr i (Ox hi a.hl) n).trans (a.fr i hi n),Oc a.hl b.hl,b.ro⟩)
def Fr.set{L:Nat}{h h':AH}(a:Fr L h h')(N':Int):Fr L h (h'.set L (.lst [.int N'])):=by
 obtain⟨N,e⟩:=a.ro;exact⟨λi hi n=>by rw[N8 (Ne.symm n)];exact a.fr i hi n,by rw[OO];exact a.hl,N',Ob (bK e)⟩
def Fr.take(a:Fr L h h')(m:Nat)(hm:0<m)(hm2:m<=10 ^ 50):∃ (v:Nat) (N:Int),v<m/\aQ [.ref L,.int m] h'=.ok (.int v) (h'.set L (.lst [.int N]))/\Fr L h (h'.set L (.lst [.int N])):=by
 obtain⟨N,e⟩:=a.ro;obtain⟨v,N',hv,t⟩:=nL m e hm hm2;exact⟨v,N',hv,t,a.set N'⟩
def w4(y:Str)(a:Nat):(bU y a).length=min a y.length:=by rw[cT,jK,OX,<- cT]
def pX(x y:Str):(x++y).length=x.length+y.length:=by rw[cT,dq,OP,<- cT,<- cT]
def fg:OutS->Out AV
 |.nx _ h=>.ok .non h
 |.rt v h=>.ok v h
 |.ex c _ h=>.ex c h
 |_=>.bad
section
variable{P:OutS->Prop}{a b x y z:SS}{c:SB}{en e2:En}{h h1 h2 h3:AH}{v:AV}
def bV(s:a en h=.nx e2 h2)(r:P (b e2 h2)):P (aj a b en h):=by
 have:aj a b en h=b e2 h2:=by simp only[aj,s]
 rw[this];exact r
def cK(s:c en h=.ok false h1)(r:P (b en h1)):P (aj (aH c z aK) b en h):=by
 have:aj (aH c z aK) b en h=b en h1:=by simp[s]
 rw[this];exact r
end
def mf{P:Out AV->Prop}{m:Nat}{b:SS}{args:List AV}(hn:args.length=n)(r:P (fg (b (args.map some++List.replicate (m-n) none) h))):P (ay n m b args h):=by
 have:ay n m b args h=fg (b (args.map some++List.replicate (m-n) none) h):=by
  simp only[ay]
  rw[Of hn];generalize b (args.map some++List.replicate (m-n) none) h=o
  cases o<;>rfl
 rw[this];exact r
variable{en:En}
def iS{P:OutS->Prop}{a:SE}{v:AV}(s:aq a en h=.rt v h')(r:P (.rt v h')):P (aq a en h):=by rw[s];exact r
def w6(hx:cB x=true)(hh:AH):nv [.str x] hh=.ok .non hh:=by
 simp[nv,A9 hx hh]
section
variable{h:AH}{q p t:Nat}{ps:List Pc}{kx:ZH}{ds bs:List De}
def oP:Option Nat->PyData
 |none=>.none
 |some n=>.int n
def w8(d:De):PyData:=.tuple [.str d.1,oP d.2.1,oP d.2.2]
theorem Ba(k:Nat)(hh:AH):∀ l:List De,bu (bj (k+1) hh) (l.map aS)=some (l.map w8)
 |[]=>rfl
 |d::l=>by
  have e:bj (k+1) hh (aS d)=some (w8 d):=by
   obtain⟨a,o,n⟩:=d
   cases o<;>cases n<;>cases k<;>rfl
  show (match bj (k+1) hh (aS d),bu (bj (k+1) hh) (l.map aS) with|some d,some ds=>some (d::ds)|_,_=>none)=_
  rw[e,Ba k hh l];rfl
def LP{W:Nat}{l:List De}{d:De}(e:hh[W]?=some (.lst ((l++[d]).map aS))):az (.ref W) (.fl []) hh=.ok (.bl false) hh:=by
 have d1:bj 8 hh (.ref W)=some (.list ((l++[d]).map w8)):=by
  show (match hh[W]? with|some (.lst xs)=>(bu (bj 7 hh) xs).map PyData.list|_=>none)=_
  rw[e];show (bu (bj 7 hh) ((l++[d]).map aS)).map PyData.list=_
  rw[Ba 6];rfl
 have qq:gc (.ref W) (.fl []) hh=some false:=by
  show (match bj 8 hh (.ref W),bj 8 hh (.fl []) with|some d,some e=>some (PyData.eqv d e)|_,_=>none)=_
  rw[d1];show some (PyData.eqv (.list _) (.list []))=_
  rw[PyData.eqv]
  cases l<;>rfl
 show (match gc (.ref W) (.fl []) hh with|some b=>Out.ok (AV.bl b) hh|none=>Out.bad)=_
 rw[qq]
def Bb(H:Ho h q p t ps kx ds bs){l m:List De}{d:De}(ea:h[a]?=some (.lst ((l++[d]).map aS)))(eb:h[b]?=some (.lst (m.map aS)))(hab:a≠b)(lm:m.length<=1000) :
  az (.ref a) (.fl []) h=.ok (.bl false) h/\bz (.ref a) [] h=.ok (aS d) (h.set a (.lst (l.map aS)))/\aZ (.ref a) h=true/\aZ (.ref b) (h.set a (.lst (l.map aS)))=true /\
   bP (.ref b) [aS d] (h.set a (.lst (l.map aS)))=.ok .non ((h.set a (.lst (l.map aS))).set b (.lst ((m++[d]).map aS))):=by
 have eb':(h.set a (.lst (l.map aS)))[b]?=some (.lst (m.map aS)):=by rw[N8 hab];exact eb
 refine⟨LP ea,?_,by simp only[aZ,d8,ea];rfl,by simp only[aZ,d8,eb'];rfl,?_⟩
 ·have i:((l++[d]).map aS)[((l++[d]).map aS).length-1]?=some (aS d):=by simp
  have dl:((l++[d]).map aS).dropLast=l.map aS:=by rw[OS];exact List.dropLast_concat
  simp only[bz,ea]
  rw[i,dl]
 ·have sz:(m.map aS).length<sizeLine:=by rw[Oh];exact Ol lm 'd'
  simp only[bP,eb']
  rw[Of sz];simp
def LQ{w1:Option Nat}(H:Ho h q p t ps kx (ds++[(x,o.map (·.1),w1)]) bs)(hx:cB x=true)(T:∀ v,o=some v->TxZ ps v.1 v.2)(ct:(upd kx x o).length<=50)(lb:bs.length<=1000)(hs:o=none->(lk kx x).isSome=true) :
  ∃ h',j5 [.ref q] h=.ok .non h'/\Ho h' q p t ps (upd kx x o) ds (bs++[(x,o.map (·.1),w1)])/\Fh p t h h':=by
 have lo:=H.lo;have ctk:=H.ct;have lt:=bK H.tx;have la:=bK H.de;have lb':=bK H.ba;obtain⟨m1,m2,m3,m4,m5⟩:=Bb H H.de H.ba ⋯ lb;have o1:∀ i,i≠t+1->(h.set (t+1) (.lst (ds.map aS)))[i]?=h[i]?:=λi a=>N8 (Ne.symm a)
 have d1:(h.set (t+1) (.lst (ds.map aS)))[t+1]?=some (.lst (ds.map aS)):=Ob la;have n1':(h.set (t+1) (.lst (ds.map aS))).length=h.length:=OO;generalize h.set (t+1) (.lst (ds.map aS))=h1 at *;have o2:∀ i,i≠t+1->i≠t+2->(h1.set (t+2) (.lst ((bs++[(x,o.map (·.1),w1)]).map aS)))[i]?=h[i]?:=λi a b=>(N8 (Ne.symm b)).trans (o1 i a)
 have d2:(h1.set (t+2) (.lst ((bs++[(x,o.map (·.1),w1)]).map aS)))[t+1]?=some (.lst (ds.map aS)):=by rw[N8 ⋯];exact d1
 have b2:(h1.set (t+2) (.lst ((bs++[(x,o.map (·.1),w1)]).map aS)))[t+2]?=some (.lst ((bs++[(x,o.map (·.1),w1)]).map aS)):=Ob ⋯;have n2':(h1.set (t+2) (.lst ((bs++[(x,o.map (·.1),w1)]).map aS))).length=h.length:=by rw[OO];exact n1'
 generalize h1.set (t+2) (.lst ((bs++[(x,o.map (·.1),w1)]).map aS))=h2 at *;have ob1:=(o1 q ⋯).trans H.ob
 have ob2:=(o2 q ⋯ ⋯).trans H.ob;have st:=wX (x:=x) (o:=o) ob2 ((o2 t ⋯ ⋯).trans H.tx) ⋯ hs;have o3:∀ i,i≠t->i≠t+1->i≠t+2->(h2.set t (.dct false ((upd kx x o).map (kG gN))))[i]?=h[i]?:=λi a b c=>(N8 (Ne.symm a)).trans (o2 i b c)
 refine⟨h2.set t (.dct false ((upd kx x o).map (kG gN))),?_,⟨(o3 q ⋯ ⋯ ⋯).trans H.ob,H.sh.keep λi a b=>o3 i ⋯ ⋯ ⋯,H.gd,Ob ⋯,?_,?_,λe he=>?_,lo,ct,nM H.nd x o⟩,⟨λi _ a b c=>o3 i a b c,by rw[OO];exact n2'⟩⟩
 ·have i0:∀ hh,ao (aS (x,o.map (·.1),w1)) (.int 0) hh=.ok (.str x) hh:=λ_=>rfl
  have i1:∀ hh,ao (aS (x,o.map (·.1),w1)) (.int 1) hh=.ok (oN (o.map (·.1))) hh:=λ_=>rfl
  have ob:=H.ob;generalize aS (x,o.map (·.1),w1)=V,h2.set t (.dct false ((upd kx x o).map (kG gN)))=h3,oN (o.map (·.1))=ON at *;unfold j5
  generalize iM=G at *;simp[ob,m1,m2,m3,m4,m5,ob1,ob2,i0,i1,st,-az,-aZ,-bP,-bz,-ao]
 ·rw[N8 ⋯];exact d2
 ·rw[N8 ⋯];exact b2
 ·rcases nN he with⟨v,ev,rfl⟩|he
  ·exact⟨T v ev,hx⟩
  ·exact H.tz e he
def LR{o0:Option Nat}(H:Ho h q p t ps kx ds (bs++[(x,o0,o.map (·.1))]))(hx:cB x=true)(T:∀ v,o=some v->TxZ ps v.1 v.2)(ct:(upd kx x o).length<=50)(ld:ds.length<=1000)(hs:o=none->(lk kx x).isSome=true) :
  ∃ h',j9 [.ref q] h=.ok .non h'/\Ho h' q p t ps (upd kx x o) (ds++[(x,o0,o.map (·.1))]) bs/\Fh p t h h':=by
 have lo:=H.lo;have ctk:=H.ct;have lt:=bK H.tx;have la:=bK H.de;have lb':=bK H.ba;obtain⟨m1,m2,m3,m4,m5⟩:=Bb H H.ba H.de ⋯ ld;have o1:∀ i,i≠t+2->(h.set (t+2) (.lst (bs.map aS)))[i]?=h[i]?:=λi a=>N8 (Ne.symm a)
 have d1:(h.set (t+2) (.lst (bs.map aS)))[t+2]?=some (.lst (bs.map aS)):=Ob lb';have n1':(h.set (t+2) (.lst (bs.map aS))).length=h.length:=OO;generalize h.set (t+2) (.lst (bs.map aS))=h1 at *;have o2:∀ i,i≠t+1->i≠t+2->(h1.set (t+1) (.lst ((ds++[(x,o0,o.map (·.1))]).map aS)))[i]?=h[i]?:=λi a b=>(N8 (Ne.symm a)).trans (o1 i b)
 have d2:(h1.set (t+1) (.lst ((ds++[(x,o0,o.map (·.1))]).map aS)))[t+2]?=some (.lst (bs.map aS)):=by rw[N8 ⋯];exact d1
 have b2:(h1.set (t+1) (.lst ((ds++[(x,o0,o.map (·.1))]).map aS)))[t+1]?=some (.lst ((ds++[(x,o0,o.map (·.1))]).map aS)):=Ob ⋯;have n2':(h1.set (t+1) (.lst ((ds++[(x,o0,o.map (·.1))]).map aS))).length=h.length:=by rw[OO];exact n1'
 generalize h1.set (t+1) (.lst ((ds++[(x,o0,o.map (·.1))]).map aS))=h2 at *;have ob1:=(o1 q ⋯).trans H.ob
 have ob2:=(o2 q ⋯ ⋯).trans H.ob;have st:=wX (x:=x) (o:=o) ob2 ((o2 t ⋯ ⋯).trans H.tx) ⋯ hs;have o3:∀ i,i≠t->i≠t+1->i≠t+2->(h2.set t (.dct false ((upd kx x o).map (kG gN))))[i]?=h[i]?:=λi a b c=>(N8 (Ne.symm a)).trans (o2 i b c)
 refine⟨h2.set t (.dct false ((upd kx x o).map (kG gN))),?_,⟨(o3 q ⋯ ⋯ ⋯).trans H.ob,H.sh.keep λi a b=>o3 i ⋯ ⋯ ⋯,H.gd,Ob ⋯,?_,?_,λe he=>?_,lo,ct,nM H.nd x o⟩,⟨λi _ a b c=>o3 i a b c,by rw[OO];exact n2'⟩⟩
 ·have i0:∀ hh,ao (aS (x,o0,o.map (·.1))) (.int 0) hh=.ok (.str x) hh:=λ_=>rfl
  have i1:∀ hh,ao (aS (x,o0,o.map (·.1))) (.int 2) hh=.ok (oN (o.map (·.1))) hh:=λ_=>rfl
  have ob:=H.ob;generalize aS (x,o0,o.map (·.1))=V,h2.set t (.dct false ((upd kx x o).map (kG gN)))=h3,oN (o.map (·.1))=ON at *;unfold j9
  generalize iM=G at *;simp[ob,m1,m2,m3,m4,m5,ob1,ob2,i0,i1,st,-az,-aZ,-bP,-bz,-ao]
 ·rw[N8 ⋯];exact b2
 ·rw[N8 ⋯];exact d2
 ·rcases nN he with⟨v,ev,rfl⟩|he
  ·exact⟨T v ev,hx⟩
  ·exact H.tz e he
def Bc{W:Nat}(e:hh[W]?=some (.lst ([].map aS))):az (.ref W) (.fl []) hh=.ok (.bl true) hh:=by
 have d1:bj 8 hh (.ref W)=some (.list []):=by
  show (match hh[W]? with|some (.lst xs)=>(bu (bj 7 hh) xs).map PyData.list|_=>none)=_
  rw[e];rfl
 have qq:gc (.ref W) (.fl []) hh=some true:=by
  show (match bj 8 hh (.ref W),bj 8 hh (.fl []) with|some d,some e=>some (PyData.eqv d e)|_,_=>none)=_
  rw[d1];show some (PyData.eqv (.list _) (.list []))=_
  rw[PyData.eqv];rfl
 show (match gc (.ref W) (.fl []) hh with|some b=>Out.ok (AV.bl b) hh|none=>Out.bad)=_
 rw[qq]
def LU(H:Ho h q p t ps kx [] bs):j5 [.ref q] h=.ex vD h:=by
 have e:=Bc H.de;simp[j5,H.ob,e,-az]
def LV(H:Ho h q p t ps kx ds []):j9 [.ref q] h=.ex vD h:=by
 have e:=Bc H.ba;simp[j9,H.ob,e,-az]
end
def Dk(F:Out AV)(h:AH)(ps:List Pc)(kx:ZH)(ds:List De)(x:Str)(y:Option Str)(c:Nat):Prop :=
 ∃ (o:Option (Nat×Str)) (ps':List Pc) (h':AH),F=.ok .non h'/\o.map (·.2)=y/\Ho h' 0 1 10 ps' (upd kx x o) (ds++[(x,(lk kx x).map (·.1),o.map (·.1))]) []/\Fh 1 10 h h'/\ps <+: ps'/\ps'.length<=ps.length+c
theorem nO{x:Str}{v:Nat×Str}:∀ {kx:ZH},(kx.map (·.1)).Nodup->(x,v)∈kx->lk kx x=some v
 |e::r,nd,h=>by
  rw[gL];rw[Ot,O1] at nd;rcases Ov.mp h with h|h
  ·rw[<- h,Of rfl]
  ·rw[Og (λz:e.1=x=>nd.1 (z▸List.mem_map_of_mem (f:=λe=>e.1) h)),nO nd.2 h]
section
variable{h:AH}{ps:List Pc}{kx:ZH}{ds bs:List De}{x z:Str}{v w:Nat×Str}
def gO(H:Ho h 0 1 10 ps kx ds bs)(l:lk kx x=some v):TxZ ps v.1 v.2/\cB x=true:=(H.tz _ (cJ l))
def dk_of{k:Nat}{F:Out AV}(H:Ho h 0 1 10 ps kx ds bs)(D:Dd 1 h h1 ps ps1 k)(T:TxZ ps1 n y)(hx:cB x=true)(hc:k<=c)(ct:kx.length<50)(ld:ds.length<=1000)(e:∀ h',dO [.ref 0,.str x,.int n] h1=.ok .non h'->F=.ok .non h'):Dk F h ps kx ds x (some y) c:=by
 obtain⟨h',fd,H',Fr'⟩:=jM (H.dd D) (o:=some (n,y)) hx (λv ev=>by cases ev;exact T) (Oc (sM ..) ⋯) ld nofun
 exact⟨some (n,y),ps1,h',e h' fd,rfl,H',(Fh.dd D).trans Fr',D.pre,by have:=D.len;lia⟩
def LW(H:Ho h 0 1 10 ps kx ds bs)(hx:cB x=true)(py:bQ y=true)(ly:y.length<=10000)(hz:ps.length<13000000)(ct:kx.length<50)(ld:ds.length<=1000):Dk (lJ [.ref 0,.str x,.str y] h) h ps kx ds x (some y) (2*y.length):=by
 obtain⟨n,ps',h1,fb,D,T⟩:=K6 H.sh H.gd py ly ⋯;have ck:=w6 hx h;refine dk_of H D T hx (Oa _) ct ld λh' fd=>?_
 unfold lJ;generalize dO=G2,jF=G at *;simp[ck,H.ob,fb,fd]
def LX(H:Ho h 0 1 10 ps kx ds bs)(hx:cB x=true)(l:lk kx z=some v)(ct:kx.length<50)(ld:ds.length<=1000):Dk (pj [.ref 0,.str x,.str z] h) h ps kx ds x (some v.2) 0:=by
 obtain⟨h',fd,H',Fr'⟩:=jM H (x:=x) (o:=some v) hx (λv' ev=>by cases ev;exact(gO H l).1) (Oc (sM ..) ⋯) ld nofun
 have fd:dO [.ref 0,.str x,.int v.1] h=.ok .non h':=fd;have ck:=w6 hx h;have ft:=iR H l;refine⟨some v,ps,h',?_,rfl,H',Fr',O7 _,by lia⟩
 unfold pj;generalize cO=G3,dO=G2 at *;simp[ck,H.ob,ft,fd]
def LY(H:Ho h 0 1 10 ps kx ds bs){k:Nat}(l:lk kx x=some v)(hk:k<2 ^ 50)(hm:v.2.length*k<=1000000000000000000)(hz:ps.length<13000000)(ct:kx.length<50)(ld:ds.length<=1000):Dk (lP [.ref 0,.str x,.int k] h) h ps kx ds x (some (aW v.2 k)) 240000:=by
 obtain⟨m,ps',h1,D,T⟩:=Ld H.sh H.gd (gO H l).1 hk 'd' hm ⋯;have ft:=iR H l;have ev:=D.ev;refine dk_of H D.dd T (gO H l).2 'd' ct ld λh' fd=>?_
 unfold lP;generalize cO=G3,dO=G2,j8=G at *;simp[H.ob,ft,ev,fd]
def LZ (T:TxZ ps n ""):n=0:=by
 rcases T with⟨a,_⟩|⟨m,f,l,T⟩
 ·exact a
 ·obtain⟨k,c⟩:=T.ky.cnt
  have:=T.ky.f1;have e:m.sg=0:=T.ky.sg;lia
def L0 (H:Ho h 0 1 10 ps kx ds bs) {k:Nat} (l:lk kx x=some (n,("" : Str))) (hk:k<2 ^ 63) (ct:kx.length<50) (ld:ds.length<=1000):Dk (lP [.ref 0,.str x,.int k] h) h ps kx ds x (some "") 240000:=by
 have n0:=LZ (gO H l).1;subst n0;have ev:=wL H.sh (pO ps) hk (by show 0*k<=_;rw[Nat.zero_mul];exact OH _)
 rw[Of rfl] at ev;obtain⟨h',fd,H',Fr'⟩:=jM H (x:=x) (o:=some (0, "")) (gO H l).2 (λv' ev=>by cases ev;exact .inl ⟨rfl,rfl⟩) (Oc (sM ..) ⋯) ld nofun
 have fd:dO [.ref 0,.str x,.int (0:Nat)] h=.ok .non h':=fd;have ft:=iR H l;refine⟨some (0, ""),ps,h',?_,rfl,H',Fr',O7 _,by lia⟩
 unfold lP;generalize ((0:Nat):Int)=Z,cO=G3,dO=G2,j8=G at *;simp[H.ob,ft,ev,fd]
def L9(H:Ho h 0 1 10 ps kx ds bs)(l:lk kx x=some v)(l2:lk kx z=some w)(hm:v.2.length+w.2.length<=1000000000000000000)(hz:ps.length<13000000)(ct:kx.length<50)(ld:ds.length<=1000):Dk (pB [.ref 0,.str x,.str z] h) h ps kx ds x (some (v.2++w.2)) 240000:=by
 obtain⟨m,ps',h1,ev,D,T⟩:=sL H.sh H.gd (gO H l).1 (gO H l2).1 hm ⋯;have ft:=iR H l;have ft2:=iR H l2;refine dk_of H D T (gO H l).2 'd' ct ld λh' fd=>?_
 unfold pB;generalize cO=G3,dO=G2,bW=G at *;simp[H.ob,ft,ft2,ev,fd]
def Ma(H:Ho h 0 1 10 ps kx ds bs)(l:lk kx x=some v)(l2:lk kx z=some w)(ha:a<=v.2.length)(hm:v.2.length+w.2.length<=1000000000000000000)(hz:ps.length<13000000)(ct:kx.length<50)(ld:ds.length<=1000) :
  Dk (pD [.ref 0,.str x,.int a,.str z] h) h ps kx ds x (some ((bU v.2 a++w.2)++dJ v.2 a)) 240000:=by
 obtain⟨m,ps',h1,ev,D,T⟩:=Lq H.sh H.gd (gO H l).1 (gO H l2).1 ha hm hz;have ft:=iR H l;have ft2:=iR H l2;refine dk_of H D T (gO H l).2 'd' ct ld λh' fd=>?_
 unfold pD;generalize cO=G3,dO=G2,pC=G at *;simp[H.ob,ft,ft2,ev,fd]
def Mb(H:Ho h 0 1 10 ps kx ds bs)(l:lk kx x=some v)(ab:a<=b)(hb:b<=v.2.length)(hm:v.2.length<=1000000000000000000)(hz:ps.length<13000000)(ct:kx.length<50)(ld:ds.length<=1000) :
  Dk (pF [.ref 0,.str x,.int a,.int b] h) h ps kx ds x (some (bU v.2 a++dJ v.2 b)) 240000:=by
 obtain⟨m,ps',h1,ev,D,T⟩:=Lp H.sh H.gd (gO H l).1 ab hb hm hz;have ft:=iR H l;refine dk_of H D T (gO H l).2 'd' ct ld λh' fd=>?_
 unfold pF;generalize cO=G3,dO=G2,pE=G at *;simp[H.ob,ft,ev,fd]
def Mc(H:Ho h 0 1 10 ps kx ds bs)(l:lk kx x=some v)(ld:ds.length<=1000):Dk (lQ [.ref 0,.str x] h) h ps kx ds x none 0:=by
 obtain⟨h',fd,H',Fr'⟩:=jM H (x:=x) (o:=none) (gO H l).2 nofun (Oc (QJ _ _) H.ct) ld (λ_=>by rw[l];rfl)
 have fd:dO [.ref 0,.str x,.non] h=.ok .non h':=fd;have ft:=iR H l;refine⟨none,ps,h',?_,rfl,H',Fr',O7 _,by lia⟩
 unfold lQ;generalize cO=G3,dO=G2 at *;simp[H.ob,ft,fd]
end
inductive Gd (kx:ZH):AV->Str->Option Str->Nat->Prop
 |give {x y:Str} (hx:cB x=true) (py:bQ y=true) (ly:y.length<=10000):Gd kx (.tup [.str "give",.str x,.str y]) x (some y) (2*y.length)
 |copy {x z:Str} {v:Nat×Str} (hx:cB x=true) (l:lk kx z=some v):Gd kx (.tup [.str "copy_of",.str x,.str z]) x (some v.2) 0
 |join {x z:Str} {v w:Nat×Str} (l:lk kx x=some v) (l2:lk kx z=some w) (hm:v.2.length+w.2.length<=1000000000000000000):Gd kx (.tup [.str "join_to",.str x,.str z]) x (some (v.2++w.2)) 240000
 |put {x z:Str} {v w:Nat×Str} {a:Nat} (l:lk kx x=some v) (l2:lk kx z=some w) (ha:a<=v.2.length) (hm:v.2.length+w.2.length<=1000000000000000000):Gd kx (.tup [.str "put_into",.str x,.int a,.str z]) x (some ((bU v.2 a++w.2)++dJ v.2 a)) 240000
 |take {x:Str} {v:Nat×Str} {a b:Nat} (l:lk kx x=some v) (ab:a<=b) (hb:b<=v.2.length) (hm:v.2.length<=1000000000000000000):Gd kx (.tup [.str "take_from",.str x,.int a,.int b]) x (some (bU v.2 a++dJ v.2 b)) 240000
 |rep {x:Str} {v:Nat×Str} {k:Nat} (l:lk kx x=some v) (hk:k<2 ^ 50) (hm:v.2.length*k<=1000000000000000000):Gd kx (.tup [.str "repeat",.str x,.int k]) x (some (aW v.2 k)) 240000
 |rep0 {x:Str} {n k:Nat} (l:lk kx x=some (n,("" : Str))) (hk:k<2 ^ 63):Gd kx (.tup [.str "repeat",.str x,.int k]) x (some "") 240000
 |drop {x:Str} {v:Nat×Str} (l:lk kx x=some v):Gd kx (.tup [.str "drop",.str x]) x none 0
def Bd{V:AV}{o0:Option AV}(i0:ao V (.int 0) h=.ok (.str x) h):(aC (ah az (ah ao (aa 1) (ae (.int 0))) (ae (.str y)))) [o0,some V] h=.ok (decide (x=y)) h:=by
 simp[i0,-ao]
def Md(a:SE)(en:En)(h:AH):fg (aq a en h)=a en h:=by
 show fg ((a en h).go en λv h'=>.rt v h')=_
 cases a en h<;>rfl
def Qp(Y:Out AV)(o:OutS):Prop:=fg o=Y
section
variable{P:OutS->Prop}{h h':AH}{x y:Str}{V W:AV}{o0:Option AV}{a:SE}{b:SS}{Y:Out AV}
def bX(i0:ao V (.int 0) h=.ok (.str x) h)(n:¬ x=y)(r:P (b [o0,some V] h)):P (aj (aH (aC (ah az (ah ao (aa 1) (ae (.int 0))) (ae (.str y)))) (aq a) aK) b [o0,some V] h) :=(
 cK ((Bd i0).trans (by rw[OB n])) r)
def Be(s:a [o0,some V] h=Y):Qp Y (aq a [o0,some V] h):=((Md ..).trans s)
def kf(i0:ao V (.int 0) h=.ok (.str x) h)(s:a [o0,some V] h=Y):Qp Y (aj (aH (aC (ah az (ah ao (aa 1) (ae (.int 0))) (ae (.str x)))) (aq a) aK) b [o0,some V] h):=by
 have c:=Bd (y:=x) (o0:=o0) i0;rw[OM rfl] at c;have q:aj (aH (aC (ah az (ah ao (aa 1) (ae (.int 0))) (ae (.str x)))) (aq a) aK) b [o0,some V] h=aq a [o0,some V] h:=by
  generalize aC (ah az (ah ao (aa 1) (ae (.int 0))) (ae (.str x)))=C at *;simp only[aj,aH,c,Out.go,PM]
  show (match (a [o0,some V] h).go [o0,some V] λv h'=>.rt v h' with|.nx e h'=>b e h'|o=>o)=(a [o0,some V] h).go [o0,some V] λv h'=>.rt v h'
  cases a [o0,some V] h<;>rfl
 rw[q];exact Be s
def jO{m:Nat}{b:SS}{args:List AV}(hn:args.length=n)(r:Qp Y (b (args.map some++List.replicate (m-n) none) h)):ay n m b args h=Y:=(mf (P:=λo=>o=Y) hn r)
variable{p t:Nat}{u1 u2 u3:AV}{G:Fn}
def m0(ob:h[0]?=some (.ins 1 [some (.ref p),some (.ref t),some (.ref (t+1)),some (.ref (t+2))])):aD 1 G (aa 0) af [some (.ref 0),some V] h=G [.ref 0] h:=by simp[ob]
def m1(ob:h[0]?=some (.ins 1 [some (.ref p),some (.ref t),some (.ref (t+1)),some (.ref (t+2))]))(i1:ao V (.int 1) h=.ok u1 h):aD 1 G (aa 0) (ai (ah ao (aa 1) (ae (.int 1))) af) [some (.ref 0),some V] h=G [.ref 0,u1] h:=by simp[ob,i1,-ao]
def m2(ob:h[0]?=some (.ins 1 [some (.ref p),some (.ref t),some (.ref (t+1)),some (.ref (t+2))]))(i1:ao V (.int 1) h=.ok u1 h)(i2:ao V (.int 2) h=.ok u2 h):aD 1 G (aa 0) (ai (ah ao (aa 1) (ae (.int 1))) (ai (ah ao (aa 1) (ae (.int 2))) af)) [some (.ref 0),some V] h=G [.ref 0,u1,u2] h:=by simp[ob,i1,i2,-ao]
def m3(ob:h[0]?=some (.ins 1 [some (.ref p),some (.ref t),some (.ref (t+1)),some (.ref (t+2))]))(i1:ao V (.int 1) h=.ok u1 h)(i2:ao V (.int 2) h=.ok u2 h)(i3:ao V (.int 3) h=.ok u3 h):aD 1 G (aa 0) (ai (ah ao (aa 1) (ae (.int 1))) (ai (ah ao (aa 1) (ae (.int 2))) (ai (ah ao (aa 1) (ae (.int 3))) af))) [some (.ref 0),some V] h=G [.ref 0,u1,u2,u3] h:=by simp[ob,i1,i2,i3,-ao]
end
section
variable{h:AH}{ps:List Pc}{kx:ZH}{ds bs:List De}(H:Ho h 0 1 10 ps kx ds bs)(a b c:AV)
include H
def Bf:eE [.ref 0,.tup [.str "give",a,b]] h=lJ [.ref 0,a,b] h :=(
 jO rfl (kf rfl (m2 H.ob rfl rfl)))
def Me:eE [.ref 0,.tup [.str "copy_of",a,b]] h=pj [.ref 0,a,b] h :=(
 jO rfl (bX rfl ∅ (kf rfl (m2 H.ob rfl rfl))))
def Mf:eE [.ref 0,.tup [.str "join_to",a,b]] h=pB [.ref 0,a,b] h :=(
 jO rfl (bX rfl ∅ (bX rfl ∅ (kf rfl (m2 H.ob rfl rfl)))))
def Mg:eE [.ref 0,.tup [.str "put_into",a,b,c]] h=pD [.ref 0,a,b,c] h :=(
 jO rfl (bX rfl ∅ (bX rfl ∅ (bX rfl ∅ (kf rfl (m3 H.ob rfl rfl rfl))))))
def Mh:eE [.ref 0,.tup [.str "take_from",a,b,c]] h=pF [.ref 0,a,b,c] h :=(
 jO rfl (bX rfl ∅ (bX rfl ∅ (bX rfl ∅ (bX rfl ∅ (kf rfl (m3 H.ob rfl rfl rfl)))))))
def Bh:eE [.ref 0,.tup [.str "repeat",a,b]] h=lP [.ref 0,a,b] h :=(
 jO rfl (bX rfl ∅ (bX rfl ∅ (bX rfl ∅ (bX rfl ∅ (bX rfl ∅ (kf rfl (m2 H.ob rfl rfl))))))))
def Bi:eE [.ref 0,.tup [.str "drop",a]] h=lQ [.ref 0,a] h :=(
 jO rfl (bX rfl ∅ (bX rfl ∅ (bX rfl ∅ (bX rfl ∅ (bX rfl ∅ (bX rfl ∅ (kf rfl (m1 H.ob rfl)))))))))
def xa:eE [.ref 0,.tup [.str "back"]] h=j5 [.ref 0] h :=(
 jO rfl (bX (x := "back") rfl ∅ (bX (x := "back") rfl ∅ (bX (x := "back") rfl ∅ (bX (x := "back") rfl ∅ (bX (x := "back") rfl ∅ (bX (x := "back") rfl ∅ (bX (x := "back") rfl ∅ (bX (x := "back") rfl ∅ (Be (m0 H.ob)))))))))))
def xb{deed:AV}{y:Option Str}{c:Nat}(g:Gd kx deed x y c)(hz:ps.length<13000000)(ct:kx.length<50)(ld:ds.length<=1000):Dk (eE [.ref 0,deed] h) h ps kx ds x y c:=by
 cases g with
 |give hx py ly=>rw[Bf H];exact LW H hx py ly hz ct ld
 |copy hx l=>rw[Me H];exact LX H hx l ct ld
 |join l l2 hm=>rw[Mf H];exact L9 H l l2 hm hz ct ld
 |put l l2 ha hm=>rw[Mg H];exact Ma H l l2 ha hm hz ct ld
 |take l ab hb hm=>rw[Mh H];exact Mb H l ab hb hm hz ct ld
 |rep l hk hm=>rw[Bh H];exact LY H l hk hm hz ct ld
 |rep0 l hk=>rw[Bh H];exact L0 H l hk ct ld
 |drop l=>rw[Bi H];exact Mc H l ld
end
section
variable{h:AH}{ps:List Pc}{kx:ZH}{ds bs:List De}{u v w:AV}{x z:Str}{e f:Nat×Str}(H:Ho h 0 1 10 ps kx ds bs)
include H
def Mi(hx:x.length<=1000)(l:lk kx x=none):cO [.ref 0,.str x] h=.ex rC h:=by
 have nm:=A4 x h (Oc hx 'd');have vk:aU (kx.map (kG gN)) (.str x)=none:=by rw[ja,l];rfl
 have ni:dB (.str x) (.ref 10) h=.ok (.bl true) h:=by
  simp only[dB,j0,H.tx,vk,dW,keyOf?,Option.isSome];rfl
 cases cB x<;>simp[cO,H.ob,nm,ni,-dB,-ao]
def Mj(o:cO [.ref 0,v] h=.ex rC h):lQ [.ref 0,v] h=.ex rC h:=by
 unfold lQ;generalize dO=G2,cO=G at *;simp[H.ob,o]
def Ml(hx:cB x=true)(np:lI [v] h=.ok (.bl false) h):lJ [.ref 0,.str x,v] h=.ex vC h:=by
 have ck:=w6 hx h;have fb:jF [.ref 1,v] h=.ex vC h:=by
  unfold jF;generalize iq 20=G2,lI=G at *;simp[np]
 unfold lJ;generalize nv=G3,dO=G2,jF=G at *;simp[H.ob,ck,fb]
end
section
variable{h:AH}{q:Nat}{deed:AV}
def sO(e:eE [.ref q,deed] h=.ok .non h'):cx [.ref q,deed] h=.ok (.str "") h':=by
 unfold cx;generalize eE=G at *;simp[lD,e]
def Mm(e:eE [.ref q,deed] h=.ex rC h):cx [.ref q,deed] h=.ok (.str "NoName") h:=by
 have c1:oW 1=true:=rfl;have c2:rD 1=false:=rfl;unfold cx;generalize eE=G at *;simp[lD,lC,e,c1,c2,atI,ic]
def Mn(e:eE [.ref q,deed] h=.ex vC h):cx [.ref q,deed] h=.ok (.str "NoText") h:=by
 have c1:oW 0=false:=rfl;have c3:rE 0=true:=rfl;have c2:rD 0=true:=rfl;unfold cx;generalize eE=G at *;simp[lD,lC,e,c1,c2,c3,atI,ic]
def Bj(e:eE [.ref q,deed] h=.ex vD h):cx [.ref q,deed] h=.ok (.str "NothingDone") h:=by
 have c1:oW 2=false:=rfl;have c2:rE 2=false:=rfl;have c3:vE 2=false:=rfl;have c4:vG 2=false:=rfl;have c5:vF 2=true:=rfl;unfold cx;generalize eE=G at *;simp[lD,vy,lC,e,c1,c2,c3,c4,c5]
end
theorem Bk(g:Nat×Str->AV):∀ kx:ZH,lA ((kx.map (kG g)).map (·.1))=some (kx.map (·.1))
 |[]=>rfl
 |e::r=>by
  show (lA ((r.map (kG g)).map (·.1))).map (e.1 :: ·)=_
  rw[Bk g r];rfl
def Bl(h:cB x=true):x.cps.all (· < 0x110000)=true:=by
 unfold cB at h;simp only[OT] at h
 have a:=h.2;rw[OW] at a;rw[<- Array.all_toList,OW];intro c hc
 have:=a c hc;unfold lZ at this;simp only[OT,Px] at this
 exact OM ⋯
def nP(p:Str×Nat):PyData:=.tuple [.str p.1,.int p.2]
theorem Bm(k:Nat)(hh:AH):∀ l:List (Str×Nat),bu (bj (k+1) hh) (l.map λp=>AV.tup [.str p.1,.int p.2])=some (l.map nP)
 |[]=>rfl
 |d::l=>by
  have e:bj (k+1) hh (AV.tup [.str d.1,.int d.2])=some (nP d):=by cases k<;>rfl
  show (match bj (k+1) hh (AV.tup [.str d.1,.int d.2]),bu (bj (k+1) hh) (l.map λp=>AV.tup [.str p.1,.int p.2]) with|some d,some ds=>some (d::ds)|_,_=>none)=_
  rw[e,Bm k hh l];rfl
theorem Bn:∀ l:List (Str×Nat),PyData.eqvAll (l.map nP) (l.map nP)=true
 |[]=>by simp[PyData.eqvAll]
 |d::l=>by rw[Ot];simp[PyData.eqvAll,PyData.eqv,nP,Bn l]
theorem sP{x:Str}:∀ {kx:ZH},x∈kx.map (·.1)->∃ v,lk kx x=some v
 |[],h=>nomatch h
 |e::r,h=>by
  rw[gL];by_cases z:e.1=x
  ·exact⟨e.2,Of z⟩
  ·rw[Og z]
   rcases Ov.mp h with h|h
   ·exact absurd h.symm z
   ·exact sP h
def nQ(kx:ZH):List (Str×Nat):=(dD (kx.map (·.1))).map λx=>(x,((lk kx x).map (·.1)).getD 0)
def dP(kx:ZH):AV:=.fl ((nQ kx).map λp=>AV.tup [.str p.1,.int p.2])
def Mo(kx:ZH)(hh:AH):bS (dP kx) (dP kx) hh=.ok (.bl false) hh:=by
 have d1:bj 8 hh (dP kx)=some (.list ((nQ kx).map nP)):=by
  show (bu (bj 7 hh) ((nQ kx).map λp=>AV.tup [.str p.1,.int p.2])).map PyData.list=_
  rw[Bm 6];rfl
 have qq:gc (dP kx) (dP kx) hh=some true:=by
  show (match bj 8 hh (dP kx),bj 8 hh (dP kx) with|some d,some e=>some (PyData.eqv d e)|_,_=>none)=_
  rw[d1];show some (PyData.eqv (.list _) (.list _))=_
  simp[PyData.eqv,Bn]
 show (match gc (dP kx) (dP kx) hh with|some b=>Out.ok (AV.bl (!b)) hh|none=>Out.bad)=_
 rw[qq];rfl
def xg(a:(kx.map (·.1)).Nodup)(b:(ky.map (·.1)).Nodup)(s:∀ x,lk kx x=lk ky x):(kx.map (·.1)).Perm (ky.map (·.1)):=by
 refine(List.perm_ext_iff_of_nodup a b).mpr λx=>?_
 have:=s x;by_cases q:x∈kx.map (·.1)
 ·obtain⟨v,e⟩:=sP q
  have:¬ lk ky x=none:=by rw[<- s x,e];nofun
  exact⟨λ_=>Classical.not_not.mp λz=>this (zbK.mpr z),λ_=>q⟩
 ·have e:=zbK.mpr q
  rw[s x] at e;exact⟨λz=>absurd z q,λz=>absurd z (zbK.mp e)⟩
def Bo(a:(kx.map (·.1)).Nodup)(b:(ky.map (·.1)).Nodup)(s:∀ x,lk kx x=lk ky x):dP kx=dP ky:=by
 have p:=xg a b s;have e:dD (kx.map (·.1))=dD (ky.map (·.1)):=oT ((fK _).trans (p.trans (fK _).symm)) (lr _) (lr _);have l:lk kx=lk ky:=funext s;unfold dP nQ;rw[e,l]
def pY(a:(kx.map (·.1)).Nodup)(b:(ky.map (·.1)).Nodup)(s:∀ x,lk kx x=lk ky x):kx.length=ky.length:=by
 have:=(xg a b s).length_eq;rwa[Oh,Oh] at this
section
variable{h:AH}{q p t:Nat}{ps:List Pc}{kx:ZH}{ds bs:List De}
def sQ{g:Nat×Str->AV}(e:h[K]?=some (.dct false (kx.map (kG g))))(ct:kx.length<=50)(nm:∀ e∈kx,cB e.1=true):lB [.ref K] h=.ok (.fl ((dD (kx.map (·.1))).map AV.str)) h:=by
 have kt:mW (.ref K) h=some (kx.map (·.1)):=by
  unfold mW;dsimp only;rw[e];exact Bk g kx
 have nm:∀ x∈kx.map (·.1),cB x=true:=λx hx=>by
  obtain⟨e,he,rfl⟩:=PH.mp hx;exact nm e he
 unfold lB;dsimp only;rw[kt];dsimp only;rw[Of ⟨by rw[Oh];lia,λx hx=>⟨Oc (sN (nm x hx)) 'd',Bl (nm x hx)⟩⟩]
def xh(H:Ho h q p t ps kx ds bs):iw [.ref q] h=.ok (.fl ((dD (kx.map (·.1))).map AV.str)) h:=by
 have so:=sQ H.tx H.ct λe he=>(H.tz e he).2
 simp[iw,H.ob,so]
def Bp(H:Ho h q p t ps kx ds bs):fW [.ref q] h=.ok (dP kx) h:=by
 have fn:=xh H;have ob:=H.ob;have l64:(dD (kx.map (·.1))).length<=64:=by
  rw[(fK _).length_eq,Oh];have:=H.ct;lia
 have cm:=rS (js:=[0]) (en:=[some (.ref q)]) (all:=(dD (kx.map (·.1))).map AV.str) (e:=aG (ai (aa 0) (ai (aD 1 cO (aa 1) (ai (aa 0) af)) af))) (g:=AV.str) (f:=λx=>AV.tup [.str x,.int ((((lk kx x).map (·.1)).getD 0:Nat):Int)]) (h:=h) (dD (kx.map (·.1))) [] (λx hx=>by
  obtain⟨v,e⟩:=sP ((fK _).mem_iff.mp hx);have ft:=iR H e;generalize cO=G at *;simp[ob,ft,e]) (by simp;exact Oc l64 'd')
 have ev:(dD (kx.map (·.1))).map (λx=>AV.tup [.str x,.int ((((lk kx x).map (·.1)).getD 0:Nat):Int)])=(nQ kx).map λp=>AV.tup [.str p.1,.int p.2]:=by
  unfold nQ;rw[P3];rfl
 rw[P8,ev] at cm;have cc:fD [0] (dU (aD 1 iw (aa 0) af)) bx (aG (ai (aa 0) (ai (aD 1 cO (aa 1) (ai (aa 0) af)) af))) [some (.ref q)] h=.ok (dP kx) h:=by
  have it:dU (aD 1 iw (aa 0) af) [some (.ref q)] h=.ok ((dD (kx.map (·.1))).map AV.str,none) h:=by
   clear cm;generalize (dD (kx.map (·.1))).map AV.str=W at *;simp[ob,fn]
  simp only[fD,it,cm];rfl
 unfold fW;generalize fD [0] (dU (aD 1 iw (aa 0) af)) bx (aG (ai (aa 0) (ai (aD 1 cO (aa 1) (ai (aa 0) af)) af)))=C at *;simp[cc]
def Mp(H:Ho h q p t ps kx ds bs):nB [.ref q] h=.ok (.ref p) h:=by
 simp[nB,H.ob]
end
def d6(x:Str):Bool:=cB x && decide (¬ x="none")
def mh(h:d6 x=true):cB x=true:=((QN.mp h).1)
def Bq(h:d6 x=true):¬ x="none" :=(QF (QN.mp h).2)
def Mq (h:cB x=true) (n:¬ x="none"):d6 x=true:=(QN.mpr ⟨h,OM n⟩)
theorem xj(k:Nat)(hh:AH):∀ l:List Str,bu (bj (k+1) hh) (l.map AV.str)=some (l.map PyData.str)
 |[]=>rfl
 |d::l=>by
  have e:bj (k+1) hh (AV.str d)=some (.str d):=by cases k<;>rfl
  show (match bj (k+1) hh (AV.str d),bu (bj (k+1) hh) (l.map AV.str) with|some d,some ds=>some (d::ds)|_,_=>none)=_
  rw[e,xj k hh l];rfl
def Br(l:List Str)(hh:AH):az (.fl (l.map AV.str)) (.fl []) hh=.ok (.bl (decide (l=[]))) hh:=by
 have d1:bj 8 hh (.fl (l.map AV.str))=some (.list (l.map PyData.str)):=by
  show (bu (bj 7 hh) (l.map AV.str)).map PyData.list=_
  rw[xj 6];rfl
 have qq:gc (.fl (l.map AV.str)) (.fl []) hh=some (decide (l=[])):=by
  show (match bj 8 hh (.fl (l.map AV.str)),bj 8 hh (.fl []) with|some d,some e=>some (PyData.eqv d e)|_,_=>none)=_
  rw[d1];show some (PyData.eqv (.list _) (.list []))=_
  rw[PyData.eqv]
  cases l<;>rfl
 show (match gc (.fl (l.map AV.str)) (.fl []) hh with|some b=>Out.ok (AV.bl b) hh|none=>Out.bad)=_
 rw[qq]
def six:List Str:=["a", "ab", "b", "abcdefgh", "zz", "q"]
def Mr:∀ x∈six,d6 x=true:=by decide +kernel
variable{xs:List AV}
def nR{v:AV}(e:xs[i]?=some v)(h:AH):ao (.fl xs) (.int i) h=.ok v h:=by
 simp only[ao,mH e]
abbrev Nm(odd:List AV)(v:AV):Prop:=v∈odd\/∃ x,v=.str x/\d6 x=true
section
variable{h:AH}{L K:Nat}{kx:ZH}
def pZ(e:h[K]?=some (.dct false (kx.map (kG gS))))(eL:∃ N:Int,h[L]?=some (.lst [.int N]))(KL:K≠L)(ct:kx.length<=50)(nm:∀ e∈kx,d6 e.1=true){odd:List AV}(o1:0<odd.length)(o2:odd.length<=20) :
  ∃ v h',fL [.ref L,.ref K,.fl odd] h=.ok v h'/\Fr L h h'/\Nm odd v:=by
 have F0:Fr L h h:=⟨λ_ _ _=>rfl,Oa _,eL⟩
 have so:=sQ e ct (λe he=>mh (nm e he));obtain⟨W,eW⟩:∃ W,W=dD (kx.map (·.1)):=⟨_,rfl⟩
 have wm:∀ x∈W,d6 x=true:=λx hx=>by
  rw[eW] at hx;obtain⟨e,he,rfl⟩:=PH.mp ((fK _).mem_iff.mp hx)
  exact nm e he
 have wl:W.length<=50:=by rw[eW,(fK _).length_eq,Oh];exact ct
 rw[<- eW] at so;obtain⟨kd,N1,hk,t1,F1⟩:=F0.take 8 'd' 'd'
 have t1:aQ [.ref L,.int 8] h=.ok (.int kd) (h.set L (.lst [.int N1])):=t1;obtain⟨h1,eh1⟩:∃ h1,h1=h.set L (.lst [.int N1]):=⟨_,rfl⟩
 rw[<- eh1] at t1 F1;obtain⟨PP,ePP⟩:∃ PP:OutS->Prop,PP=λo=>∃ v h',fg o=.ok v h'/\Fr L h h'/\Nm odd v:=⟨_,rfl⟩
 have toP:∀ o,PP o->∃ v h',fg o=.ok v h'/\Fr L h h'/\Nm odd v:=λo z=>by rw[ePP] at z;exact z
 have ofP:∀ v h',Fr L h h'->Nm odd v->PP (.rt v h'):=λv h' a b=>by rw[ePP];exact⟨v,h',rfl,a,b⟩
 clear ePP;refine mf (P:=λo=>∃ v h',o=.ok v h'/\Fr L h h'/\Nm odd v) rfl (toP _ ?_)
 refine bV (e2:=[some (.ref L),some (.ref K),some (.fl odd),some (.fl (W.map AV.str)),none]) (h2:=h) ?_ ?_
 ·have s:g8 (aa 1) [some (.ref L),some (.ref K),some (.fl odd),none,none] h=.ok (.fl (W.map AV.str)) h:=so
  generalize g8 (aa 1)=SK,W.map AV.str=Z at *;simp[s]
 refine bV (e2:=[some (.ref L),some (.ref K),some (.fl odd),some (.fl (W.map AV.str)),some (.int kd)]) (h2:=h1) ?_ ?_
 ·generalize aQ=G,W.map AV.str=Z at *;simp[t1]
 have k0:(aC (ah az (aa 4) (ae (.int 0)))) [some (.ref L),some (.ref K),some (.fl odd),some (.fl (W.map AV.str)),some (.int kd)] h1=.ok (decide (kd=0)) h1:=by
  by_cases z:kd=0
  ·subst z;simp
  ·have:¬ (kd:Int)=0:=by lia
   simp[z]
 by_cases z0:kd=0
 ·obtain⟨i,N2,hi,t2,F2⟩:=F1.take odd.length o1 (Oc o2 'd')
  have ev:odd[i]?=some odd[i]:=On hi;have ix:=nR ev (h1.set L (.lst [.int N2]));have q:ah ao (aa 2) (au aQ (ai (aa 0) (ai (au aI (ai (aa 2) af)) af))) [some (.ref L),some (.ref K),some (.fl odd),some (.fl (W.map AV.str)),some (.int kd)] h1=.ok odd[i] (h1.set L (.lst [.int N2])):=by
   generalize h1.set L (.lst [.int N2])=h2,aQ=G,W.map AV.str=Z at *;simp[t2,ix,-ao]
  rw[OM z0] at k0;have s:∀ {a:SE} {b:SS} {en:En} {v:AV} {hx:AH},a en h1=.ok v hx->(aC (ah az (aa 4) (ae (.int 0)))) en h1=.ok true h1->aj (aH (aC (ah az (aa 4) (ae (.int 0)))) (aq a) aK) b en h1=.rt v hx:=λ{a b en v hx} e1 e2=>by
   generalize aC (ah az (aa 4) (ae (.int 0)))=C at *;simp[e1,e2]
  rw[s q k0];exact ofP _ _ F2 (.inl (PK hi))
 rw[OB z0] at k0;refine cK k0 ?_
 have k3:(jZ (aC (ah fq (aa 4) (ae (.int 3)))) (aC (ah az (aa 3) (aM af)))) [some (.ref L),some (.ref K),some (.fl odd),some (.fl (W.map AV.str)),some (.int kd)] h1=.ok (decide (kd<3) || decide (W=[])) h1:=by
  have q1:fq (.int kd) (.int 3) h1=.ok (.bl (decide (kd<3))) h1:=LO kd 3 h1;have q2:=Br W h1;generalize (kd:Int)=KD,W.map AV.str=Z,decide (kd<3)=bk,decide (W=[])=bw at *
  cases bk<;>cases bw<;>simp[q1,q2,-az,-fq]
 by_cases z1:(decide (kd<3) || decide (W=[]))=true
 ·obtain⟨i,N2,hi,t2,F2⟩:=F1.take 6 'd' 'd'
  have t2:aQ [.ref L,.int 6] h1=.ok (.int i) (h1.set L (.lst [.int N2])):=t2;have ev:(six.map AV.str)[i]?=some (.str six[i]):=by rw[OI,On (by exact hi)];rfl
  have ix:=nR ev (h1.set L (.lst [.int N2]));have sx:six.map AV.str=[.str "a",.str "ab",.str "b",.str "abcdefgh",.str "zz",.str "q"]:=rfl;rw[sx] at ix;rw[z1] at k3;have q:ah ao (aM (ai (ae (.str "a")) (ai (ae (.str "ab")) (ai (ae (.str "b")) (ai (ae (.str "abcdefgh")) (ai (ae (.str "zz")) (ai (ae (.str "q")) af))))))) (au aQ (ai (aa 0) (ai (ae (.int 6)) af))) [some (.ref L),some (.ref K),some (.fl odd),some (.fl (W.map AV.str)),some (.int kd)] h1=.ok (.str six[i]) (h1.set L (.lst [.int N2])):=by
   generalize h1.set L (.lst [.int N2])=h2,aQ=G,W.map AV.str=Z,AV.str six[i]=SI at *;simp[t2,ix,-ao]
  have s:∀ {a:SE} {c:SB} {b:SS} {en:En} {v:AV} {hx:AH},a en h1=.ok v hx->c en h1=.ok true h1->aj (aH c (aq a) aK) b en h1=.rt v hx:=λ{a c b en v hx} e1 e2=>by simp[e1,e2]
  rw[s q k3];exact ofP _ _ F2 (.inr ⟨_,rfl,Mr _ (PK _)⟩)
 rw[Bool.not_eq_true] at z1;rw[z1] at k3;refine cK k3 ?_
 have w0:0<W.length:=by
  cases W with
  |nil=>simp at z1
  |cons x r=>simp
 obtain⟨i,N2,hi,t2,F2⟩:=F1.take W.length w0 (Oc wl 'd');have ev:(W.map AV.str)[i]?=some (.str W[i]):=by rw[OI,On hi];rfl
 have ix:=nR ev (h1.set L (.lst [.int N2]));have ln:aI [.fl (W.map AV.str)] h1=.ok (.int W.length) h1:=by
  show Out.ok (AV.int (W.map AV.str).length) h1=_
  rw[Oh]
 refine iS (v:=.str W[i]) (h':=h1.set L (.lst [.int N2])) ?_ (ofP _ _ F2 (.inr ⟨_,rfl,wm _ (PK hi)⟩))
 generalize h1.set L (.lst [.int N2])=h2,aQ=G,W.map AV.str=Z,(W.length:Int)=WL,AV.str W[i]=SI at *;simp[ln,t2,ix,-ao,-aI]
abbrev jP(D:Nat):List AV:=[.str "",.str "A",.str "abcdefghi",.str "a1",.str "a ",.non,.int 7,.bl true,.fl [.str "a"],.tup [.str "a"],.ref D]
abbrev iT(D:Nat):List gE:=[.inl (.str ""),.inl (.str "A"),.inl (.str "abcdefghi"),.inl (.str "a1"),.inl (.str "a "),.inl .none,.inl (.int 7),.inl (.bool true),.inl (.list [.str "a"]),.inl (.tuple [.str "a"]),.inr D]
def Mu(e:h[D]?=some (.dct false [])):gu h (jP D)=some (iT D):=by
 have t:bj 8 h (.ref D)=none:=by
  show (match h[D]? with|some (.lst xs)=>(bu (bj 7 h) xs).map PyData.list|_=>none)=_
  rw[e]
 have d:gG h (.ref D)=some (.inr D):=by
  unfold gG;rw[t];dsimp only;rw[e]
 have c:∀ {v:AV} {dd:PyData},bj 8 h v=some dd->gG h v=some (.inl dd):=λ{v dd} q=>by unfold gG;rw[q]
 simp only[gu,d,c (v:=.str "") rfl,c (v:=.str "A") rfl,c (v:=.str "abcdefghi") rfl,c (v:=.str "a1") rfl,c (v:=.str "a ") rfl,c (v:=.non) rfl,c (v:=.int 7) rfl,c (v:=.bl true) rfl,c (v:=.fl [.str "a"]) rfl,c (v:=.tup [.str "a"]) rfl]
def mq{v:AV}{t:gE}(e:h[D]?=some (.dct false []))(ev:gG h v=some t)(c:(iT D).all (jE t)=true):dY v (.fl (jP D)) h=.ok (.bl ((iT D).any λe=>cn e t)) h:=by
 show (match gG h v,gu h (jP D) with|some t,some ts=>if ts.all (jE t)=true then Out.ok (AV.bl (ts.any λe=>cn e t)) h else .bad|_,_=>.bad)=_
 rw[ev,Mu e];dsimp only;rw[Of c]
def xk{v:AV}(e:h[D]?=some (.dct false []))(n:Nm (jP D) v):∃ b,dY v (.fl (jP D)) h=.ok (.bl b) h/\(b=false->∃ x,v=.str x/\d6 x=true):=by
 have c:∀ {v:AV} {dd:PyData},bj 8 h v=some dd->gG h v=some (.inl dd):=λ{v dd} q=>by unfold gG;rw[q]
 have al:∀ d:PyData,(iT D).all (jE (.inl d))=true:=λd=>by simp[jE]
 rcases n with n|⟨x,rfl,hx⟩
 ·refine⟨true,?_,nofun⟩
  simp only[Ov,PZ,Sj] at n
  have fin:∀ {v:AV} {d:PyData},bj 8 h v=some d->((iT D).any λe=>cn e (.inl d))=true->dY v (.fl (jP D)) h=.ok (.bl true) h:=λ{v d} q1 q2=>by rw[mq e (c q1) (al d),q2]
  rcases n with rfl|rfl|rfl|rfl|rfl|rfl|rfl|rfl|rfl|rfl|rfl
  ·exact fin rfl (by simp[cn,PyData.eqv])
  ·exact fin rfl (by simp[cn,PyData.eqv])
  ·exact fin rfl (by simp[cn,PyData.eqv])
  ·exact fin rfl (by simp[cn,PyData.eqv])
  ·exact fin rfl (by simp[cn,PyData.eqv])
  ·exact fin rfl (by simp[cn,PyData.eqv])
  ·exact fin rfl (by simp[cn,PyData.eqv])
  ·exact fin rfl (by simp[cn,PyData.eqv])
  ·exact fin rfl (by simp[cn,PyData.eqv,PyData.eqvAll])
  ·exact fin rfl (by simp[cn,PyData.eqv,PyData.eqvAll])
  ·have t:bj 8 h (.ref D)=none:=by
    show (match h[D]? with|some (.lst xs)=>(bu (bj 7 h) xs).map PyData.list|_=>none)=_
    rw[e]
   have d:gG h (.ref D)=some (.inr D):=by
    unfold gG;rw[t];dsimp only;rw[e]
   rw[mq e d (by simp[jE])];simp[cn]
 ·exact⟨_,mq e (c (v:=.str x) rfl) (al _),λ_=>⟨x,rfl,hx⟩⟩
end
def gt(kx:ZH)(z:Str):Str:=((lk kx z).map (·.2)).getD ""
def mr{z:Str}{v:Nat×Str}(l:lk kx z=some v):gt kx z=v.2:=by unfold gt;rw[l];rfl
def xl(e:h[K]?=some (.dct false (kx.map (kG gS))))(z:Str):fH K (.str z) (.str "") h=.ok (.str (gt kx z)) h:=by
 have k1:dW false (.str z)=true:=rfl;simp only[fH,e,k1,PM,ja]
 unfold gt
 cases lk kx z<;>rfl
def sR(e:h[K]?=some (.dct false (kx.map (kG gS))))(z:Str):dB (.str z) (.ref K) h=.ok (.bl (lk kx z).isNone) h:=by
 simp only[dB,j0,e,dW,keyOf?,ja]
 cases lk kx z<;>rfl
def Gv(L:Nat)(h:AH)(kx:ZH)(F:Out AV):Prop :=
 ∃ (deed:AV) (due:Str) (pl:AV) (h':AH),F=.ok (.tup [deed,.str due,pl]) h'/\Fr L h h'/\(due="" -> ∃ (x y:Str) (c:Nat) (k:AV) (r:List AV),pl=.str y/\deed=.tup (k :: .str x::r)/\d6 x=true/\Gd kx deed x (some y) c/\c<=240000/\y.length<=1000)
def kg{a b:Str}{k:Bool}{s:SE}(e:s en h=.ok (.bl k) h):ah ao (aM (ai (ae (.str a)) (ai (ae (.str b)) af))) (au bC (ai s af)) en h=.ok (.str (if k=true then b else a)) h:=by
 have a0:atI [AV.str a,.str b] 0=some (.str a):=rfl;have a1:atI [AV.str a,.str b] 1=some (.str b):=rfl
 cases k<;>simp[e,a0,a1]
def mw(pl:AV):Prop:=∃ y,pl=.str y/\bQ y=true/\y.length<=30
def Mv {pl:AV} (hp:mw pl\/pl∈[AV.non,.int 7,.str "a\t",.fl [.str "a"],.bl true,.str "\t"]) (o0 o1 o2 o3 o4 o5:Option AV) :
  ∃ k,(fB (jt (fF "str" (aa 6))) (ah qH (ae (.str "\t")) (aa 6))) [o0,o1,o2,o3,o4,o5,some pl] h=.ok (.bl k) h/\(k=false->mw pl):=by
 have st:∀ y:Str,(fB (jt (fF "str" (aa 6))) (ah qH (ae (.str "\t")) (aa 6))) [o0,o1,o2,o3,o4,o5,some (.str y)] h=.ok (.bl (!(Builtin.Str.occurrences y "\t" 0 y.length 1).isEmpty)) h:=λy=>by
  simp[j1]
 rcases hp with⟨y,rfl,a,b⟩|hp
 ·exact⟨_,st y,λ_=>⟨y,rfl,a,b⟩⟩
 ·simp only[Ov,PZ,Sj] at hp
  rcases hp with rfl|rfl|rfl|rfl|rfl|rfl
  ·exact⟨true,by simp[j1],nofun⟩
  ·exact⟨true,by simp[j1],nofun⟩
  ·have:(!(Builtin.Str.occurrences "a\t" "\t" 0 ("a\t" : Str).length 1).isEmpty)=true:=by decide +kernel
   exact⟨true,by rw[st,this],nofun⟩
  ·exact⟨true,by simp[j1],nofun⟩
  ·exact⟨true,by simp[j1],nofun⟩
  ·have:(!(Builtin.Str.occurrences "\t" "\t" 0 ("\t" : Str).length 1).isEmpty)=true:=by decide +kernel
   exact⟨true,by rw[st,this],nofun⟩
def hZ:List AV:=[.str "",.str "A",.str "none"]
def sS{v:AV}(n:Nm hZ v):∃ z,v=.str z/\z.length<=8:=by
 rcases n with n|⟨x,rfl,hx⟩
 ·simp only[hZ,Ov,PZ,Sj] at n
  rcases n with rfl|rfl|rfl
  ·exact⟨_,rfl,by decide⟩
  ·exact⟨_,rfl,by decide⟩
  ·exact⟨_,rfl,by decide⟩
 ·exact⟨x,rfl,sN (mh hx)⟩
def Bs{a b:SE}{x y:Bool}(ha:a en h=.ok (.bl x) h)(hb:b en h=.ok (.bl y) h):fB a b en h=.ok (.bl (x || y)) h:=by
 cases x<;>simp[ha,hb]
section
variable{P:OutS->Prop}{a b:SS}{c:SB}{x:SE}{en e2:En}{h h1 h2 h3:AH}{v:AV}
def p6(s:c en h=.ok true h1)(s1:x en h1=.ok v h3)(r:P (.rt v h3)):P (aj (aH c (aq x) aK) b en h):=by
 have:aj (aH c (aq x) aK) b en h=.rt v h3:=by simp[s,s1]
 rw[this];exact r
def iU{w:OutS}(s:c en h=.ok true h1)(hw:a en h1=w)(hr:∃ v h3,w=.rt v h3)(r:P w):P (aj (aH c a aK) b en h):=by
 obtain⟨v,h3,rfl⟩:=hr;have:aj (aH c a aK) b en h=.rt v h3:=by simp[s,hw]
 rw[this];exact r
def bf(s:x en h=.ok v h2)(r:P (b (en.set i (some v)) h2)):P (aj (aw i x) b en h):=by
 have:aj (aw i x) b en h=b (en.set i (some v)) h2:=by simp[s]
 rw[this];exact r
end
def p7{a b c:SE}{x y z:AV}(ha:a en h=.ok x h)(hb:b en h=.ok y h)(hc:c en h=.ok z h):aG (ai a (ai b (ai c af))) en h=.ok (.tup [x,y,z]) h:=by
 simp[ha,hb,hc]
def Mw(e:h[K]?=some (.dct false (kx.map (kG gS))))(eL:∃ N:Int,h[L]?=some (.lst [.int N]))(KL:K≠L)(ct:kx.length<=50)(nm:∀ e∈kx,d6 e.1=true/\e.2.2.length<=300):Gv L h kx (nj [.ref L,.ref K] h):=by
 have lK:=bK e;obtain⟨N0,eN0⟩:=eL;have lL:=bK eN0;obtain⟨D,eD⟩:∃ D,D=h.length:=⟨_,rfl⟩
 obtain⟨h0,eh0⟩:∃ h0,h0=h++[AO.dct false []]:=⟨_,rfl⟩
 have F0:Fr L h h0:=by rw[eh0];exact(⟨λ_ _ _=>rfl,Oa _,N0,eN0⟩:Fr L h h).app _
 have D0:h0[D]?=some (.dct false []):=by rw[eh0,eD];simp
 have n0:h0.length=D+1:=by rw[eh0,OP,eD];rfl
 have e0:=(F0.fr K lK KL).trans e;have nm1:∀ e∈kx,d6 e.1=true:=λe he=>(nm e he).1
 obtain⟨v,h1,t1,F1,n1⟩:=pZ e0 F0.ro KL ct nm1 (odd:=jP D) (show 0<11 by decide) (show 11<=20 by decide);obtain⟨k3,N2,hk3,t2,F2⟩:=(⟨λ_ _ _=>rfl,Oa _,F1.ro⟩:Fr L h1 h1).take 3 'd' 'd';have t2:aQ [.ref L,.int 3] h1=.ok (.int k3) (h1.set L (.lst [.int N2])):=t2;obtain⟨h2,eh2⟩:∃ h2,h2=h1.set L (.lst [.int N2]):=⟨_,rfl⟩
 rw[<- eh2] at t2 F2;have F02:=F0.trans (F1.trans F2)
 have F12:=F1.trans F2;have e2:=(F02.fr K lK KL).trans e;have D2:=(F12.fr D ⋯ ⋯).trans D0;obtain⟨PP,ePP⟩:∃ PP:OutS->Prop,PP=λo=>Gv L h kx (fg o):=⟨_,rfl⟩
 have toP:∀ o,PP o->Gv L h kx (fg o):=λo z=>by rw[ePP] at z;exact z
 have ofP:∀ o,Gv L h kx (fg o)->PP o:=λo z=>by rw[ePP];exact z
 clear ePP;refine mf (P:=Gv L h kx) rfl (toP _ ?_)
 have r1:∀ en:En,aM (ai (ae (.str "")) (ai (ae (.str "A")) (ai (ae (.str "abcdefghi")) (ai (ae (.str "a1")) (ai (ae (.str "a ")) (ai (ae .non) (ai (ae (.int 7)) (ai (ae (.bl true)) (ai (aM (ai (ae (.str "a")) af)) (ai (aG (ai (ae (.str "a")) af)) (ai (fo false) af))))))))))) en h=.ok (.fl (jP D)) h0:=λen=>by
  rw[eh0,eD];simp
 refine bf (r1 _) ?_
 obtain⟨O,eO⟩:∃ O,O=AV.fl (jP D):=⟨_,rfl⟩
 rw[<- eO] at t1 ⊢;refine bf (v:=v) (h2:=h1) ?_ ?_
 ·exact t1
 have c3:(aC (ah az (au aQ (ai (aa 0) (ai (ae (.int 3)) af))) (ae (.int 0)))) [some (.ref L),some (.ref K),some O,some v,none,none,none] h1=.ok (decide (k3=0)) h2:=by
  generalize aQ=G at *;by_cases z:k3=0
  ·subst z;simp[t2]
  ·have:¬ (k3:Int)=0:=by lia
   simp[t2,z,this]
 obtain⟨b2,i2,j2⟩:=xk D2 n1;rw[<- eO] at i2;by_cases z3:k3=0
 ·rw[OM z3] at c3
  obtain⟨v2,h3,t3,F3,n3⟩:=pZ e2 F2.ro KL ct nm1 (odd:=hZ) 'd' 'd';obtain⟨z,rfl,_⟩:=sS n3;have F03:=F02.trans F3;have e3:=(F03.fr K lK KL).trans e;have D3:=((F12.trans F3).fr D ⋯ ⋯).trans D0;obtain⟨b,ib,jb⟩:=xk D3 n1;rw[<- eO] at ib;have ni:=sR e3 z
  have gk:=xl e3 z;have du:=kg (a := "") (b := "NoName") (Bs (a:=ah dY (aa 3) (aa 2)) (b:=ah dB (aa 4) (aa 1)) (en:=[some (.ref L),some (.ref K),some O,some v,some (.str z),none,none]) (h:=h3) (x:=b) (y:=(lk kx z).isNone) (by simp[ib]) (by simp[ni,-dB]));refine iU c3 (w:=.rt (.tup [.tup [.str "copy_of",v,.str z],.str (if (b || (lk kx z).isNone)=true then "NoName" else ""),.str (gt kx z)]) h3) ?_ ⟨_,_,rfl⟩ (ofP _ ⟨_,_,_,h3,rfl,F03,λhd=>?_⟩)
  ·refine bf (P:=λo=>o=_) (v:=.str z) (h2:=h3) ?_ (bf (P:=λo=>o=_) du ?_)
   ·have t3:fL [.ref L,.ref K,.fl [.str "",.str "A",.str "none"]] h2=.ok (.str z) h3:=t3
    exact t3
   ·have sg:fI (aa 1) (aa 4) (ae (.str "")) [some (.ref L),some (.ref K),some O,some v,some (.str z),some (.str (if (b || (lk kx z).isNone)=true then "NoName" else "")),none] h3=.ok (.str (gt kx z)) h3:=by
     simp[fI,e3,gk]
    have tt:aG (ai (ae (.str "copy_of")) (ai (aa 3) (ai (aa 4) af))) [some (.ref L),some (.ref K),some O,some v,some (.str z),some (.str (if (b || (lk kx z).isNone)=true then "NoName" else "")),none] h3=.ok (.tup [.str "copy_of",v,.str z]) h3:=p7 rfl rfl rfl;have:=p7 (b:=aa 5) tt rfl sg;show aq _ _ _=_
    unfold aq;exact(congrArg (λo=>Out.go o _ _) this)
  ·cases hb:b with
   |true=>rw[hb,Bool.true_or,Of rfl] at hd;exact absurd hd ∅
   |false =>
    obtain⟨x,rfl,hx⟩:=jb hb
    cases hl:lk kx z with
    |none=>rw[hb,hl] at hd;exact absurd hd ∅
    |some w =>
     refine⟨x,w.2,0,_,_,by rw[mr hl],rfl,hx,.copy (mh hx) hl,by lia,?_⟩
     have:w.2.length<=300:=(nm _ (cJ hl)).2
     lia
 rw[OB z3] at c3;refine cK c3 ?_
 obtain⟨N3,e3L⟩:=F2.ro;obtain⟨y,N4,fp,py,ly,_⟩:=A3 30 'd' e3L;have fp:iL [.ref L,.int 30] h2=.ok (.str y) (h2.set L (.lst [.int N4])):=fp;have F4:=(⟨λ_ _ _=>rfl,Oa _,N3,e3L⟩:Fr L h2 h2).set N4;obtain⟨h4,eh4⟩:∃ h4,h4=h2.set L (.lst [.int N4]):=⟨_,rfl⟩
 rw[<- eh4] at fp F4;refine bf (v:=.str y) (h2:=h4) ?_ ?_
 ·exact fp
 obtain⟨k10,N5,hk10,t5,F5⟩:=F4.take 10 'd' 'd';have t5:aQ [.ref L,.int 10] h4=.ok (.int k10) (h4.set L (.lst [.int N5])):=t5;obtain⟨h5,eh5⟩:∃ h5,h5=h4.set L (.lst [.int N5]):=⟨_,rfl⟩
 rw[<- eh5] at t5 F5;obtain⟨k6,N6,hk6,t6,F6⟩:=F5.take 6 'd' 'd'
 have t6:aQ [.ref L,.int 6] h5=.ok (.int k6) (h5.set L (.lst [.int N6])):=t6;obtain⟨h6,eh6⟩:∃ h6,h6=h5.set L (.lst [.int N6]):=⟨_,rfl⟩
 rw[<- eh6] at t6 F6;have c10:(aC (ah az (au aQ (ai (aa 0) (ai (ae (.int 10)) af))) (ae (.int 0)))) [some (.ref L),some (.ref K),some O,some v,none,none,some (.str y)] h4=.ok (decide (k10=0)) h5:=by
  generalize aQ=G at *;by_cases z:k10=0
  ·subst z;simp[t5]
  ·have:¬ (k10:Int)=0:=by lia
   simp[t5,z,this]
 obtain⟨pl,h7,s7,F7,hp⟩:∃ pl h7,aH (aC (ah az (au aQ (ai (aa 0) (ai (ae (.int 10)) af))) (ae (.int 0)))) (aw 6 (ah ao (aM (ai (ae .non) (ai (ae (.int 7)) (ai (ae (.str "a\t")) (ai (aM (ai (ae (.str "a")) af)) (ai (ae (.bl true)) (ai (ae (.str "\t")) af))))))) (au aQ (ai (aa 0) (ai (ae (.int 6)) af))))) aK [some (.ref L),some (.ref K),some O,some v,none,none,some (.str y)] h4=.nx [some (.ref L),some (.ref K),some O,some v,none,none,some pl] h7/\Fr L h2 h7/\(mw pl\/pl∈[AV.non,.int 7,.str "a\t",.fl [.str "a"],.bl true,.str "\t"]):=by
  by_cases z:k10=0
  ·rw[OM z] at c10
   have ev:([AV.non,.int 7,.str "a\t",.fl [.str "a"],.bl true,.str "\t"]:List AV)[k6]?=some ([AV.non,.int 7,.str "a\t",.fl [.str "a"],.bl true,.str "\t"]:List AV)[k6]:=On hk6;have ix:=nR ev h6;have mm:([AV.non,.int 7,.str "a\t",.fl [.str "a"],.bl true,.str "\t"]:List AV)[k6]∈([AV.non,.int 7,.str "a\t",.fl [.str "a"],.bl true,.str "\t"]:List AV):=PK _;generalize ([AV.non,.int 7,.str "a\t",.fl [.str "a"],.bl true,.str "\t"]:List AV)[k6]=pl at ix mm
   refine⟨pl,h6,?_,F6,.inr mm⟩
   generalize aQ=G,aC (ah az (au aQ (ai (aa 0) (ai (ae (.int 10)) af))) (ae (.int 0)))=C at *;simp[c10,t6,ix,-ao]
  ·rw[OB z] at c10
   refine⟨.str y,h5,?_,F5,.inl ⟨y,rfl,py,ly⟩⟩
   generalize aC (ah az (au aQ (ai (aa 0) (ai (ae (.int 10)) af))) (ae (.int 0)))=C at *;simp[c10]
 refine bV s7 ?_
 obtain⟨kb,dk,pk⟩:=Mv (h:=h7) hp (some (.ref L)) (some (.ref K)) (some O) (some v) none none;have du:=kg (a := "") (b := "NoText") dk;refine bf du ?_
 have D7:=((F12.trans F7).fr D ⋯ ⋯).trans D0;obtain⟨b,ib,jb⟩:=xk D7 n1;rw[<- eO] at ib;have c7:∀ w,(aC (ah dY (aa 3) (aa 2))) [some (.ref L),some (.ref K),some O,some v,none,w,some pl] h7=.ok b h7:=λw=>by simp[ib]
 obtain⟨due,edue⟩:∃ due:Str,due=if b=true then("NoName" : Str) else if kb=true then("NoText" : Str) else("" : Str):=⟨_,rfl⟩
 refine bV (e2:=[some (.ref L),some (.ref K),some O,some v,none,some (.str due),some pl]) (h2:=h7) ?_ ?_
 ·have c8:=c7 (some (.str (if kb=true then "NoText" else "")))
  show aH (aC (ah dY (aa 3) (aa 2))) (aw 5 (ae (.str "NoName"))) aK [some (.ref L),some (.ref K),some O,some v,none,some (.str (if kb=true then "NoText" else "")),some pl] h7=_
  generalize aC (ah dY (aa 3) (aa 2))=C at *;rw[edue]
  cases b<;>simp[c8]
 refine iS (v:=.tup [.tup [.str "give",v,pl],.str due,pl]) (h':=h7) ?_ (ofP _ ⟨_,_,_,h7,rfl,F02.trans F7,λhd=>?_⟩)
 ·simp
 ·rw[edue] at hd
  cases hb:b with
  |true=>rw[hb,Of rfl] at hd;exact absurd hd ∅
  |false =>
   cases hkb:kb with
   |true=>rw[hb,hkb] at hd;exact absurd hd ∅
   |false =>
    obtain⟨x,rfl,hx⟩:=jb hb;obtain⟨y',rfl,py',ly'⟩:=pk hkb;exact⟨x,y',2*y'.length,_,_,rfl,rfl,hx,.give (mh hx) py' ⋯,by lia,by lia⟩
def xm(i:Int)(h:AH):fE [.int 0,.int i] h=.ok (.int (i.toNat:Nat)) h:=by
 have:fE [.int 0,.int i] h=.ok (.int (if i > 0 then i else 0)) h:=rfl
 rw[this];congr 2
 split<;>lia
def Mx(k:Nat)(h:AH):mK [.int 3,.int k] h=.ok (.int (min 3 k:Nat)) h:=by
 have:mK [.int 3,.int k] h=.ok (.int (if (k:Int)<3 then(k:Int) else 3)) h:=rfl
 rw[this];congr 2
 split<;>lia
def sT{a b:SE}{u:Str}(ha:a en h=.ok (.str u) h)(hb:b en h=.ok (.str w) h):gr a b en h=.ok (.str (if u="" then w else u)) h:=by
 by_cases q:u=""
 ·subst q
  have:(("" : Str).length:Int)=0:=rfl
  simp[ha,hb,this]
 ·have:¬ u.length=0:=λz=>q (cz (by rw[cT] at z;rw[Ph.mp z];rfl))
  simp[ha,q,this]
def Bt(y:Str)(c:Nat)(h:AH):∃ z,dh (.str y) (some (c:Int)) none h=.ok (.str z) h/\z.length<=y.length/\(c<=y.length->z=dJ y c):=by
 refine⟨bM y (some (c:Int)) none,rfl,?_,λhc=>?_⟩
 ·simp[bM,Str.length];lia
 ·have:=AR hc h
  have e:dh (.str y) (some (c:Int)) none h=.ok (.str (bM y (some (c:Int)) none)) h:=rfl;rw[e] at this;injection this with a _
  injection a
def sU(h:AH)(hl:x.length+y.length<=5000):aB (.str x) (.str y) h=.ok (.str (x++y)) h:=by
 have:x.length+y.length<=sizeLine:=Oc hl 'd'
 simp only[aB,this,PM]
def Bu(nm:∀ e∈kx,d6 e.1=true/\e.2.2.length<=300)(z:Str):(gt kx z).length<=300:=by
 unfold gt
 cases l:lk kx z with
 |none=>exact OH _
 |some v=>exact(nm _ (cJ l)).2
def none_of(h:o.isNone=false):∃ v,o=some v:=by
 cases o with
 |none=>cases h
 |some v=>exact⟨v,rfl⟩
def Bv {b:Bool} (h:(if b=true then("NoName" : Str) else("" : Str))=""):b=false:=by
 cases b with
 |true=>exact absurd h ∅
 |false=>rfl
def sV {a:Str} {b:Bool} (n:¬ a="") (h:(if b=true then a else("" : Str))=""):b=false:=by
 cases b with
 |true=>exact absurd h n
 |false=>rfl
def sW {u:Str} (h:(if u="" then w else u)=""):u="" /\ w="" := by
 by_cases q:u=""
 ·rw[Of q] at h;exact⟨q,h⟩
 ·rw[Og q] at h;exact absurd h q
abbrev mz(L K:Nat)(kd:Int)(x z y1 y2 g b:Str)(a e:Int)(o11 o12:Option AV):En:=[some (.ref L),some (.ref K),some (.int kd),some (.str x),some (.str z),some (.str y1),some (.str y2),some (.str g),some (.str b),some (.int a),some (.int e),o11,o12]
def My(e:h[K]?=some (.dct false (kx.map (kG gS))))(eL:∃ N:Int,h[L]?=some (.lst [.int N]))(KL:K≠L)(ct:kx.length<=50)(nm:∀ e∈kx,d6 e.1=true/\e.2.2.length<=300):Gv L h kx (nq [.ref L,.ref K] h):=by
 have lK:=bK e;have nm1:∀ e∈kx,d6 e.1=true:=λe he=>(nm e he).1
 have F0:Fr L h h:=⟨λ_ _ _=>rfl,Oa _,eL⟩
 obtain⟨kd,N1,hk,t1,F1⟩:=F0.take 4 'd' 'd';have t1:aQ [.ref L,.int 4] h=.ok (.int kd) (h.set L (.lst [.int N1])):=t1;obtain⟨h1,eh1⟩:∃ h1,h1=h.set L (.lst [.int N1]):=⟨_,rfl⟩
 rw[<- eh1] at t1 F1;obtain⟨v1,h2,t2,F2,n2⟩:=pZ ((F1.fr K lK KL).trans e) F1.ro KL ct nm1 (odd:=hZ) 'd' 'd'
 obtain⟨x,rfl,lx⟩:=sS n2;have F02:=F1.trans F2;obtain⟨v2,h3,t3,F3,n3⟩:=pZ ((F02.fr K lK KL).trans e) F2.ro KL ct nm1 (odd:=hZ) 'd' 'd';obtain⟨z,rfl,lz⟩:=sS n3;have t2:fL [.ref L,.ref K,.fl [.str "",.str "A",.str "none"]] h1=.ok (.str x) h2:=t2;have t3:fL [.ref L,.ref K,.fl [.str "",.str "A",.str "none"]] h2=.ok (.str z) h3:=t3;have F03:=F02.trans F3;have e3:=(F03.fr K lK KL).trans e;have g1:=xl e3 x;have g2:=xl e3 z;have ni1:=sR e3 x;have ni2:=sR e3 z;have l1:=Bu nm x;have l2:=Bu nm z;obtain⟨y1,ey1⟩:∃ y1,y1=gt kx x:=⟨_,rfl⟩
 obtain⟨y2,ey2⟩:∃ y2,y2=gt kx z:=⟨_,rfl⟩
 rw[<- ey1] at g1 l1;rw[<- ey2] at g2 l2;have len3:∀ hx,aI [.str y1] hx=.ok (.int y1.length) hx:=λ_=>rfl
 have ad3:∀ hx,aB (.int y1.length) (.int 3) hx=.ok (.int ((y1.length+3:Nat):Int)) hx:=λhx=>wZ rfl hx
 obtain⟨a,N4,ha,t4,F4⟩:=F03.take (y1.length+3) ⋯ (Oc (m:=303) ⋯ 'd');obtain⟨h4,eh4⟩:∃ h4,h4=h3.set L (.lst [.int N4]):=⟨_,rfl⟩
 rw[<- eh4] at t4 F4;obtain⟨b,N5,hb,t5,F5⟩:=F4.take (y1.length+3) ⋯ (Oc (m:=303) ⋯ 'd')
 obtain⟨h5,eh5⟩:∃ h5,h5=h4.set L (.lst [.int N5]):=⟨_,rfl⟩
 rw[<- eh5] at t5 F5;obtain⟨gn,egn⟩:∃ gn:Str,gn=if (lk kx x).isNone=true then("NoName" : Str) else("" : Str):=⟨_,rfl⟩
 obtain⟨bo,ebo⟩:∃ bo:Str,bo=if ((lk kx x).isNone || (lk kx z).isNone)=true then("NoName" : Str) else("" : Str):=⟨_,rfl⟩
 have bo_ok:bo="" -> ∃ v w,lk kx x=some v/\lk kx z=some w:=λq=>by
  rw[ebo] at q;have:=Bv q
  rw[Bool.or_eq_false_iff] at this;obtain⟨v,ev⟩:=none_of this.1
  obtain⟨w,ew⟩:=none_of this.2;exact⟨v,w,ev,ew⟩
 have gn_ok:gn="" -> ∃ v,lk kx x=some v:=λq=>by
  rw[egn] at q;exact none_of (Bv q)
 obtain⟨PP,ePP⟩:∃ PP:OutS->Prop,PP=λo=>Gv L h kx (fg o):=⟨_,rfl⟩
 have toP:∀ o,PP o->Gv L h kx (fg o):=λo z=>by rw[ePP] at z;exact z
 have ofP:∀ o,Gv L h kx (fg o)->PP o:=λo z=>by rw[ePP];exact z
 clear ePP;refine mf (P:=Gv L h kx) rfl (toP _ ?_)
 refine bf (v:=.int kd) (h2:=h1) ?_ ?_
 ·exact t1
 refine bf (v:=.str x) (h2:=h2) ?_ ?_
 ·exact t2
 refine bf (v:=.str z) (h2:=h3) ?_ ?_
 ·exact t3
 refine bf (v:=.str y1) (h2:=h3) ?_ ?_
 ·simp[fI,e3,g1]
 refine bf (v:=.str y2) (h2:=h3) ?_ ?_
 ·simp[fI,e3,g2]
 refine bf (v:=.str gn) (h2:=h3) ?_ ?_
 ·rw[egn]
  exact kg (by simp[ni1,-dB])
 refine bf (v:=.str bo) (h2:=h3) ?_ ?_
 ·rw[ebo]
  exact kg (Bs (by simp[ni1,-dB]) (by simp[ni2,-dB]))
 refine bf (v:=.int ((a:Int)-1)) (h2:=h4) ?_ ?_
 ·have sb:bN (.int a) (.int 1) h4=.ok (.int ((a:Int)-1)) h4:=rfl
  have q1:=len3 h3;have q2:=ad3 h3;clear len3 ad3 t5;generalize aQ=G,(a:Int)-1=A1,(y1.length:Int)=Y1,((y1.length+3:Nat):Int)=Y3 at *;simp[q1,q2,t4,sb,-bN,-aB,-aI]
 refine bf (v:=.int ((b:Int)-1)) (h2:=h5) ?_ ?_
 ·have sb:bN (.int b) (.int 1) h5=.ok (.int ((b:Int)-1)) h5:=rfl
  have q1:=len3 h4;have q2:=ad3 h4;clear len3 ad3 t4;generalize aQ=G,(b:Int)-1=B1,(a:Int)-1=A1,(y1.length:Int)=Y1,((y1.length+3:Nat):Int)=Y3 at *;simp[q1,q2,t5,sb,-bN,-aB,-aI]
 have ck:∀ c:Nat,(aC (ah az (aa 2) (ae (.int c)))) (mz L K kd x z y1 y2 gn bo ((a:Int)-1) ((b:Int)-1) none none) h5=.ok (decide (kd=c)) h5:=λc=>by
  by_cases q:kd=c
  ·subst q;simp
  ·have:¬ (kd:Int)=c:=by lia
   simp[q,this]
 have nle:∀ {s t:Str},d6 x=true->True:=λ_=>trivial
 have chain:∀ (u:Option AV) (w:Option AV),fu aY aY (ae (.int 0)) (aa 9) (au aI (ai (aa 5) af)) (mz L K kd x z y1 y2 gn bo ((a:Int)-1) ((b:Int)-1) u w) h5=.ok (.bl (decide (0<=(a:Int)-1) && decide ((a:Int)-1<=y1.length))) h5:=λu w=>by
  have q:=len3 h5;generalize (y1.length:Int)=Y1,(a:Int)-1=A1 at *;by_cases z0:0<=A1<;>simp[z0,q,-aI]
 have tka:(bU y1 (a-1)).length<=300:=by rw[w4];(clear chain nle ck ofP toP gn_ok bo_ok ebo egn eh5 t5 F5 hb eh4 t4 F4 ha ad3 len3 ey2 g2 l2 ey1 g1 ni2 ni1 e3 F03 t3 t2 n3 lz F3 F02 n2 lx F2 eh1 t1 F1 hk F0 nm1 lK nm ct KL eL e;lia)
 have at1:((a:Int)-1).toNat=a-1:=by lia
 have bt1:((b:Int)-1).toNat=b-1:=by lia
 have mxa:=xm ((a:Int)-1) h5;rw[at1] at mxa;have mxb:=xm ((b:Int)-1) h5
 rw[bt1] at mxb;have cta:=AQ (x:=y1) (a:=a-1) h5
 obtain⟨da,cda,lda,oda⟩:=Bt y1 (a-1) h5;obtain⟨db,cdb,ldb,odb⟩:=Bt y1 (b-1) h5;by_cases k0:kd=0
 ·have ad:=sU (x:=y1) (y:=y2) h5 ⋯
  refine p6 (h1:=h5) (v:=.tup [.tup [.str "join_to",.str x,.str z],.str bo,.str (y1++y2)]) (h3:=h5) ((ck 0).trans (by rw[OM k0])) ?_ (ofP _ ⟨_,_,_,h5,rfl,F5,λhd=>?_⟩)
  ·simp[ad,-aB]
  ·obtain⟨v,w,lv,lw⟩:=bo_ok hd
   rw[mr lv] at ey1;have lv2:v.2.length<=300:=(nm _ (cJ lv)).2
   rw[mr lw] at ey2;have lw2:w.2.length<=300:=(nm _ (cJ lw)).2
   rw[ey1,ey2];exact⟨x,v.2++w.2,240000,_,_,rfl,rfl,nm1 _ (cJ lv),.join lv lw ⋯,Oa _,by rw[pX];lia⟩
 refine cK (h1:=h5) ((ck 0).trans (by rw[OB k0])) ?_
 by_cases k1:kd=1
 ·have ad:=sU (x:=bU y1 (a-1)) (y:=y2) h5 ⋯
  have ad2:=sU (x:=bU y1 (a-1)++y2) (y:=da) h5 (by rw[pX];lia)
  obtain⟨pb,epb⟩:∃ pb,pb=!(decide (0<=(a:Int)-1) && decide ((a:Int)-1<=y1.length)):=⟨_,rfl⟩
  have du:=sT (a:=aa 8) (b:=ah ao (aM (ai (ae (.str "")) (ai (ae (.str "NoPlace")) af))) (au bC (ai (jt (fu aY aY (ae (.int 0)) (aa 9) (au aI (ai (aa 5) af)))) af))) (en:=mz L K kd x z y1 y2 gn bo ((a:Int)-1) ((b:Int)-1) none none) (h:=h5) (u:=bo) (w:=if pb=true then("NoPlace" : Str) else("" : Str)) rfl (kg (by
   have:=chain none none;rw[epb];generalize fu aY aY (ae (.int 0)) (aa 9) (au aI (ai (aa 5) af))=C at *;simp[this]))
  refine iU (h1:=h5) ((ck 1).trans (by rw[OM k1])) (w:=.rt (.tup [.tup [.str "put_into",.str x,.int ((a:Int)-1),.str z],.str (if bo="" then(if pb=true then("NoPlace" : Str) else("" : Str)) else bo),.str (bU y1 (a-1)++y2++da)]) h5) ?_ ⟨_,_,rfl⟩ (ofP _ ⟨_,_,_,h5,rfl,F5,λhd=>?_⟩)
  ·refine bf (P:=λo=>o=_) du ?_
   generalize ((a-1:Nat):Int)=A2,(a:Int)-1=A1,bU y1 (a-1)=R2,bU y1 (a-1)++y2=R1,bU y1 (a-1)++y2++da=R,(if bo="" then(if pb=true then("NoPlace" : Str) else("" : Str)) else bo)=DU at *;simp[mxa,cta,cda,ad,ad2,-fE,-dh,-aB]
  ·obtain⟨q1,q2⟩:=sW hd
   have q3:=sV ∅ q2;obtain⟨v,w,lv,lw⟩:=bo_ok q1;rw[epb] at q3;simp only[SH,OT,Px] at q3
   have ea:(a:Int)-1=((a-1:Nat):Int):=by lia
   have ed:=oda ⋯;rw[ea,ed];rw[mr lv] at ey1;have lv2:v.2.length<=300:=(nm _ (cJ lv)).2
   rw[mr lw] at ey2;have lw2:w.2.length<=300:=(nm _ (cJ lw)).2
   have la:a-1<=v.2.length:=by rw[<- ey1];lia
   rw[ey1,ey2];exact⟨x,bU v.2 (a-1)++w.2++dJ v.2 (a-1),240000,_,_,rfl,rfl,nm1 _ (cJ lv),.put lv lw la ⋯,Oa _,by rw[pX,pX,w4,nK];lia⟩
 refine cK (h1:=h5) ((ck 1).trans (by rw[OB k1])) ?_
 by_cases k2:kd=2
 ·have ad:=sU (x:=bU y1 (a-1)) (y:=db) h5 ⋯
  obtain⟨pb,epb⟩:∃ pb,pb=!(decide (0<=(a:Int)-1) && (decide ((a:Int)-1<=(b:Int)-1) && decide ((b:Int)-1<=y1.length))):=⟨_,rfl⟩
  have du:=sT (a:=aa 7) (b:=ah ao (aM (ai (ae (.str "")) (ai (ae (.str "NoPlace")) af))) (au bC (ai (jt (k9 aY aY aY (ae (.int 0)) (aa 9) (aa 10) (au aI (ai (aa 5) af)))) af))) (en:=mz L K kd x z y1 y2 gn bo ((a:Int)-1) ((b:Int)-1) none none) (h:=h5) (u:=gn) (w:=if pb=true then("NoPlace" : Str) else("" : Str)) rfl (kg (by
   have q:=len3 h5;rw[epb];generalize (y1.length:Int)=Y1,(b:Int)-1=B1,(a:Int)-1=A1 at *;by_cases z0:0<=A1
   ·by_cases z1:A1<=B1<;>simp[z0,z1,q,-aI]
   ·simp[z0]))
  refine iU (h1:=h5) ((ck 2).trans (by rw[OM k2])) (w:=.rt (.tup [.tup [.str "take_from",.str x,.int ((a:Int)-1),.int ((b:Int)-1)],.str (if gn="" then(if pb=true then("NoPlace" : Str) else("" : Str)) else gn),.str (bU y1 (a-1)++db)]) h5) ?_ ⟨_,_,rfl⟩ (ofP _ ⟨_,_,_,h5,rfl,F5,λhd=>?_⟩)
  ·refine bf (P:=λo=>o=_) du ?_
   generalize ((b-1:Nat):Int)=B2,(b:Int)-1=B1,((a-1:Nat):Int)=A2,(a:Int)-1=A1,bU y1 (a-1)=R2,bU y1 (a-1)++db=R1,(if gn="" then(if pb=true then("NoPlace" : Str) else("" : Str)) else gn)=DU at *;simp[mxa,cta,mxb,cdb,ad,-fE,-dh,-aB]
  ·obtain⟨q1,q2⟩:=sW hd
   have q3:=sV ∅ q2;obtain⟨v,lv⟩:=gn_ok q1;rw[epb] at q3;simp only[SH,OT,Px] at q3
   have ea:(a:Int)-1=((a-1:Nat):Int):=by lia
   have eb:(b:Int)-1=((b-1:Nat):Int):=by lia
   have ed:=odb ⋯;rw[ea,eb,ed];rw[mr lv] at ey1;have lv2:v.2.length<=300:=(nm _ (cJ lv)).2
   have la:b-1<=v.2.length:=by rw[<- ey1];lia
   rw[ey1];exact⟨x,bU v.2 (a-1)++dJ v.2 (b-1),240000,_,_,rfl,rfl,nm1 _ (cJ lv),.take lv ⋯ la ⋯,Oa _,by rw[pX,w4,nK];lia⟩
 refine cK (h1:=h5) ((ck 2).trans (by rw[OB k2])) ?_
 obtain⟨i,N6,hi,t6,F6⟩:=F5.take 6 'd' 'd';have t6:aQ [.ref L,.int 6] h5=.ok (.int i) (h5.set L (.lst [.int N6])):=t6;obtain⟨h6,eh6⟩:∃ h6,h6=h5.set L (.lst [.int N6]):=⟨_,rfl⟩
 rw[<- eh6] at t6 F6;obtain⟨mxn,emx,mx1,mx2⟩:∃ mxn:Nat,fE [.int 1,.int y1.length] h5=.ok (.int mxn) h5/\1<=mxn/\mxn<=300:=by
  refine⟨max 1 y1.length,?_,by lia,by lia⟩
  have:fE [.int 1,.int y1.length] h5=.ok (.int (if (y1.length:Int) > 1 then(y1.length:Int) else 1)) h5:=rfl
  rw[this];congr 2
  split<;>lia
 obtain⟨Bg,eBg⟩:∃ Bg:Nat,Bg=1000000000000000000 / mxn+1:=⟨_,rfl⟩
 have Bg1:Bg<=1000000000000000001:=by rw[eBg];have:=Nat.div_le_self 1000000000000000000 mxn;lia
 have dv:cQ (.int 1000000000000000000) (.int mxn) h5=.ok (.int ((1000000000000000000 / mxn:Nat):Int)) h5:=by
  have c:(0:Int)<mxn/\(mxn:Int).natAbs<2 ^ 200:=⟨by lia,Ol (m:=300) ⋯ 'd'⟩
  show (if (0:Int)<mxn/\(mxn:Int).natAbs<2 ^ 200 then Out.ok (AV.int (1000000000000000000 / (mxn:Int))) h5 else .bad)=_
  rw[Of c];rfl
 have pw:b9 (.int 10) (.int 18) h5=.ok (.int 1000000000000000000) h5:=by simp[b9]
 have ad1:aB (.int ((1000000000000000000 / mxn:Nat):Int)) (.int 1) h5=.ok (.int Bg) h5:=wZ eBg.symm h5;obtain⟨mv,emv,hmv⟩:∃ mv:Int,([.int 0,.int 1,.int 2,.int 3,.int (-1),.int Bg]:List AV)[i]?=some (.int mv)/\mv<=1000000000000000001:=by
  rcases (show i=0\/i=1\/i=2\/i=3\/i=4\/i=5 by lia) with rfl|rfl|rfl|rfl|rfl|rfl
  ·exact⟨_,rfl,by decide⟩
  ·exact⟨_,rfl,by decide⟩
  ·exact⟨_,rfl,by decide⟩
  ·exact⟨_,rfl,by decide⟩
  ·exact⟨_,rfl,by decide⟩
  ·exact⟨_,rfl,by lia⟩
 have ixm:=nR emv h6;refine bf (v:=.int mv) (h2:=h6) ?_ ?_
 ·have q:=len3 h5
  have ng:bh (.int 1) h5=.ok (.int (-1)) h5:=rfl;clear mxa mxb cta cda cdb chain ck;generalize aQ=G,(-1:Int)=M1,(b:Int)-1=B1,(a:Int)-1=A1,(y1.length:Int)=Y1,(1000000000000000000:Int)=Q2,((1000000000000000000 / mxn:Nat):Int)=Q1 at *;simp[ng,pw,q,emx,dv,ad1,t6,ixm,-bh,-b9,-aI,-fE,-cQ,-aB,-ao]
 obtain⟨p3,ep3⟩:∃ p3,p3=(decide (3<mv) && !decide (y1="")):=⟨_,rfl⟩
 have du:=sT (a:=aa 7) (b:=gr (ah ao (aM (ai (ae (.str "")) (ai (ae (.str "NoPlace")) af))) (au bC (ai (ah fq (aa 12) (ae (.int 0))) af))) (ah ao (aM (ai (ae (.str "")) (ai (ae (.str "TooLong")) af))) (au bC (ai (jr (ah dN (aa 12) (ae (.int 3))) (ah bS (aa 5) (ae (.str "")))) af)))) (en:=mz L K kd x z y1 y2 gn bo ((a:Int)-1) ((b:Int)-1) none (some (.int mv))) (h:=h6) (u:=gn) rfl (sT (u:=if decide (mv<0)=true then("NoPlace" : Str) else("" : Str)) (w:=if p3=true then("TooLong" : Str) else("" : Str)) (kg 's') (kg (by
  rw[ep3];by_cases q:3<mv
  ·by_cases w:y1="" <;> simp[q,w]
  ·simp[q])))
 refine bf du ?_
 have mxm:=xm mv h6;have mnm:=Mx mv.toNat h6;have ml:oR (.str y1) (.int (min 3 mv.toNat:Nat)) h6=.ok (.str (aW y1 (min 3 mv.toNat))) h6:=by
  have c:((min 3 mv.toNat:Nat):Int).natAbs<2 ^ 40/\y1.length*((min 3 mv.toNat:Nat):Int).toNat<=1000000:=by
   refine⟨Ol (m:=3) ⋯ 'd',Oc (QD l1 (show ((min 3 mv.toNat:Nat):Int).toNat<=3 by lia)) 'd'⟩
  show (if _ then _ else _)=_
  rw[Of c];rfl
 obtain⟨DU,eDU⟩:∃ DU:Str,DU=(if gn="" then(if (if decide (mv<0)=true then("NoPlace" : Str) else("" : Str))="" then(if p3=true then("TooLong" : Str) else("" : Str)) else(if decide (mv<0)=true then("NoPlace" : Str) else("" : Str))) else gn):=⟨_,rfl⟩
 rw[<- eDU];refine iS (v:=.tup [.tup [.str "repeat",.str x,.int mv],.str DU,.str (aW y1 (min 3 mv.toNat))]) (h':=h6) ?_ (ofP _ ⟨_,_,_,h6,rfl,F6,λhd=>?_⟩)
 ·generalize (b:Int)-1=B1,(a:Int)-1=A1,((mv.toNat:Nat):Int)=Q2,((min 3 mv.toNat:Nat):Int)=Q1,aW y1 (min 3 mv.toNat)=R at *;simp[mxm,mnm,ml,-fE,-mK,-oR]
 ·rw[eDU] at hd
  obtain⟨q1,q2⟩:=sW hd;obtain⟨q2,q3⟩:=sW q2;have q2:=sV ∅ q2;have q3:=sV ∅ q3;rw[RA] at q2;obtain⟨v,lv⟩:=gn_ok q1
  obtain⟨k,rfl⟩:∃ k:Nat,mv=k:=⟨mv.toNat,by lia⟩
  rw[ep3] at q3;rw[SQ];rw[mr lv] at ey1;have nx:=nm1 _ (cJ lv)
  by_cases c3:k<=3
  ·rw[show min 3 k=k by lia,ey1]
   refine⟨x,aW v.2 k,240000,_,_,rfl,rfl,nx,.rep lv (Ol (m:=3) c3 'd') ?_,Oa _,?_⟩
   ·rw[<- ey1];exact Oc (QD l1 c3) 'd'
   ·rw[sJ,<- ey1];exact Oc (QD l1 c3) 'd'
  ·have:y1="" := by
    rw[OM (show (3:Int)<k by lia),Bool.true_and] at q3;simpa using q3
   rw[this,wG];obtain⟨n,y⟩:=v
   have ey:y="" := ey1.symm.trans this;subst ey;exact⟨x, "",240000,_,_,rfl,rfl,nx,.rep0 lv (Ol (m:=1000000000000000001) ⋯ 'd'),Oa _,OH _⟩
def Dz(L:Nat)(h:AH)(kx:ZH)(F:Out AV):Prop :=
 ∃ (deed:AV) (due:Str) (K':Nat) (h':AH),F=.ok (.tup [deed,.str due,.ref K']) h'/\Fr L h h'/\(due="" -> ∃ (x:Str) (oy:Option Str) (c:Nat),d6 x=true/\Gd kx deed x oy c/\c<=240000/\h.length<=K'/\(∀ o:Option (Nat×Str),o.map (·.2)=oy->h'[K']?=some (.dct false ((upd kx x o).map (kG gS))))/\∀ y,oy=some y->y.length<=300)
def xp{kvs:List (AV×AV)}(e:h[K]?=some (.dct false kvs)):ip [.ref K] h=.ok (.ref h.length) (h++[.dct false kvs]):=by
 simp only[ip,e]
def Mz(e:h[K]?=some (.dct false (kx.map (kG gS))))(eL:∃ N:Int,h[L]?=some (.lst [.int N]))(KL:K≠L)(ct:kx.length<=50)(nm:∀ e∈kx,d6 e.1=true/\e.2.2.length<=300):Dz L h kx (oX [.ref L,.ref K] h):=by
 have lK:=bK e;have nm1:∀ e∈kx,d6 e.1=true:=λe he=>(nm e he).1
 have F0:Fr L h h:=⟨λ_ _ _=>rfl,Oa _,eL⟩
 obtain⟨N0,eN0⟩:=eL;have lL:=bK eN0;obtain⟨kd,N1,hk,t1,F1⟩:=F0.take 8 'd' 'd';have t1:aQ [.ref L,.int 8] h=.ok (.int kd) (h.set L (.lst [.int N1])):=t1;obtain⟨h1,eh1⟩:∃ h1,h1=h.set L (.lst [.int N1]):=⟨_,rfl⟩
 rw[<- eh1] at t1 F1;have e1:=(F1.fr K lK KL).trans e
 obtain⟨PP,ePP⟩:∃ PP:OutS->Prop,PP=λo=>Dz L h kx (fg o):=⟨_,rfl⟩
 have toP:∀ o,PP o->Dz L h kx (fg o):=λo z=>by rw[ePP] at z;exact z
 have ofP:∀ o,Dz L h kx (fg o)->PP o:=λo z=>by rw[ePP];exact z
 clear ePP;refine mf (P:=Dz L h kx) rfl (toP _ ?_)
 refine bf (v:=.int kd) (h2:=h1) ?_ ?_
 ·exact t1
 have ck:(aC (ah az (aa 2) (ae (.int 0)))) [some (.ref L),some (.ref K),some (.int kd),none,none,none,none,none,none] h1=.ok (decide (kd=0)) h1:=by
  by_cases q:kd=0
  ·subst q;simp
  ·have:¬ (kd:Int)=0:=by lia
   simp[q,this]
 by_cases k0:kd=0
 ·obtain⟨v1,h2,t2,F2,n2⟩:=pZ e1 F1.ro KL ct nm1 (odd:=hZ) 'd' 'd'
  obtain⟨x,rfl,lx⟩:=sS n2;have t2:fL [.ref L,.ref K,.fl [.str "",.str "A",.str "none"]] h1=.ok (.str x) h2:=t2;have F02:=F1.trans F2;have e2:=(F02.fr K lK KL).trans e;have ni:=sR e2 x;rw[OM k0] at ck
  cases lx':lk kx x with
  |none =>
   rw[lx'] at ni;refine iU (h1:=h1) ck (w:=.rt (.tup [.tup [.str "drop",.str x],.str "NoName",.ref K]) h2) ?_ ⟨_,_,rfl⟩ (ofP _ ⟨_,_,_,h2,rfl,F02,λhd=>absurd hd ∅⟩)
   refine bf (P:=λo=>o=_) (v:=.str x) (h2:=h2) ?_ ?_
   ·exact t2
   refine p6 (P:=λo=>o=_) (h1:=h2) (v:=.tup [.tup [.str "drop",.str x],.str "NoName",.ref K]) (h3:=h2) ?_ ?_ rfl
   ·have ni:dB (.str x) (.ref K) h2=.ok (.bl true) h2:=ni
    simp[ni,-dB]
   ·simp
  |some v =>
   rw[lx'] at ni;have dc:=xp e2
   obtain⟨h3,eh3⟩:∃ h3,h3=h2++[AO.dct false (kx.map (kG gS))]:=⟨_,rfl⟩
   obtain⟨K',eK'⟩:∃ K',K'=h2.length:=⟨_,rfl⟩
   rw[<- eh3,<- eK'] at dc;have e3:h3[K']?=some (.dct false (kx.map (kG gS))):=by rw[eh3,eK'];simp
   have hl:=F02.hl;obtain⟨h4,eh4⟩:∃ h4,h4=h3.set K' (.dct false ((ke kx x).map (kG gS))):=⟨_,rfl⟩
   have F3:Fr L h h3:=by rw[eh3];exact F02.app _
   have F4:Fr L h h4:=by
    obtain⟨N,eN⟩:=F3.ro;have l3:=F3.hl;exact⟨λi hi n=>by rw[eh4,N8 ⋯];exact F3.fr i hi n,by rw[eh4,OO];exact l3,N,by rw[eh4,N8 ⋯];exact eN⟩
   have e4:h4[K']?=some (.dct false ((ke kx x).map (kG gS))):=by rw[eh4];exact Ob (bK e3)
   refine iU (h1:=h1) ck (w:=.rt (.tup [.tup [.str "drop",.str x],.str "",.ref K']) h4) ?_ ⟨_,_,rfl⟩ (ofP _ ⟨_,_,_,h4,rfl,F4,λ_=>⟨x,none,0,nm1 _ (cJ lx'),.drop lx',by lia,by lia,λo eo=>?_,nofun⟩⟩)
   ·refine bf (P:=λo=>o=_) (v:=.str x) (h2:=h2) ?_ ?_
    ·exact t2
    refine cK (P:=λo=>o=_) (h1:=h2) ?_ ?_
    ·have ni:dB (.str x) (.ref K) h2=.ok (.bl false) h2:=ni
     simp[ni,-dB]
    refine bf (P:=λo=>o=_) (v:=.ref K') (h2:=h3) ?_ ?_
    ·exact dc
    refine bV (P:=λo=>o=_) (e2:=[some (.ref L),some (.ref K),some (.int kd),some (.str x),some (.ref K'),none,none,none,none]) (h2:=h4) ?_ ?_
    ·have k1:dW false (.str x)=true:=rfl
     have dp:i8 (aa 4) (aa 3) [some (.ref L),some (.ref K),some (.int kd),some (.str x),some (.ref K'),none,none,none,none] h3=.ok (gS v) h4:=by
      have a1:aa 4 [some (.ref L),some (.ref K),some (.int kd),some (.str x),some (.ref K'),none,none,none,none] h3=.ok (.ref K') h3:=rfl;have a2:aa 3 [some (.ref L),some (.ref K),some (.int kd),some (.str x),some (.ref K'),none,none,none,none] h3=.ok (.str x) h3:=rfl;simp only[i8,a1,a2,Out.bind,e3,k1,PM,ja,lx',Option.map]
      rw[A5,eh4]
     show bp (i8 (aa 4) (aa 3)) [some (.ref L),some (.ref K),some (.int kd),some (.str x),some (.ref K'),none,none,none,none] h3=_
     generalize i8 (aa 4) (aa 3)=SP at *;simp[dp]
    ·simp
   ·obtain rfl:o=none:=by
     cases o with
     |none=>rfl
     |some w=>cases eo
    exact e4
 rw[OB k0] at ck;refine cK (h1:=h1) ck ?_
 obtain⟨G,eG,hG⟩:∃ G:Fn,Gv L h1 kx (G [.ref L,.ref K] h1)/\g9 nj nq (au bC (ai (ah dN (aa 2) (ae (.int 3))) af)) (ai (aa 0) (ai (aa 1) af)) [some (.ref L),some (.ref K),some (.int kd),none,none,none,none,none,none] h1=G [.ref L,.ref K] h1:=by
  have ap:∀ G:Fn,au G (ai (aa 0) (ai (aa 1) af)) [some (.ref L),some (.ref K),some (.int kd),none,none,none,none,none,none] h1=G [.ref L,.ref K] h1:=λG=>by simp
  by_cases z:3<kd
  ·refine⟨nq,My e1 F1.ro KL ct nm,?_⟩
   have i:au bC (ai (ah dN (aa 2) (ae (.int 3))) af) [some (.ref L),some (.ref K),some (.int kd),none,none,none,none,none,none] h1=.ok (.int 1) h1:=by
    have:(3:Int)<kd:=by lia
    simp[this]
   simp only[g9,i,Out.bind]
   exact ap _
  ·refine⟨nj,Mw e1 F1.ro KL ct nm,?_⟩
   have i:au bC (ai (ah dN (aa 2) (ae (.int 3))) af) [some (.ref L),some (.ref K),some (.int kd),none,none,none,none,none,none] h1=.ok (.int 0) h1:=by
    have:¬ (3:Int)<kd:=by lia
    simp[this]
   simp only[g9,i,Out.bind]
   exact ap _
 obtain⟨deed,due,pl,h2,eg,F2,gd⟩:=eG;rw[eg] at hG;have F02:=F1.trans F2
 refine bV (e2:=[some (.ref L),some (.ref K),some (.int kd),none,none,some deed,some (.str due),some pl,none]) (h2:=h2) ?_ ?_
 ·generalize g9 nj nq (au bC (ai (ah dN (aa 2) (ae (.int 3))) af)) (ai (aa 0) (ai (aa 1) af))=SS at *
  simp[hG]
 obtain⟨deed',pl',s4,gd'⟩:∃ deed' pl',aH (dS (aC (ah az (aa 6) (ae (.str "")))) (aC (ah dN (au aI (ai (aa 7) af)) (ae (.int 300))))) (rB 5 6 7 (ai (aG (ai (ae (.str "give")) (ai (ah ao (aa 5) (ae (.int 1))) (ai (ae (.str "long")) af)))) (ai (ae (.str "")) (ai (ae (.str "long")) af)))) aK [some (.ref L),some (.ref K),some (.int kd),none,none,some deed,some (.str due),some pl,none] h2=.nx [some (.ref L),some (.ref K),some (.int kd),none,none,some deed',some (.str due),some pl',none] h2 /\
   (due="" -> ∃ (x y:Str) (c:Nat) (k:AV) (r:List AV),pl'=.str y/\deed'=.tup (k :: .str x::r)/\d6 x=true/\Gd kx deed' x (some y) c/\c<=240000/\y.length<=300):=by
  by_cases hd:due=""
  ·obtain⟨x,y,c,k,r,rfl,rfl,hx,g,hc,hy⟩:=gd hd
   subst hd;by_cases ly:300<y.length
   ·refine⟨.tup [.str "give",.str x,.str "long"],.str "long",?_,λ_=>⟨x, "long",_,_,_,rfl,rfl,hx,.give (mh hx) ∅ 'd',by decide,by decide⟩⟩
    have a1:atI (k :: .str x::r) 1=some (.str x):=mH (j:=1) rfl;have l2:(300:Int)<y.length:=by lia
    simp[l2,a1,rB]
   ·refine⟨_,_,?_,λ_=>⟨x,y,c,k,r,rfl,rfl,hx,g,hc,by lia⟩⟩
    have l2:¬ (300:Int)<y.length:=by lia
    simp[l2]
  ·exact⟨deed,pl,by simp[hd],λz=>absurd z hd⟩
 refine bV s4 ?_
 have e2:=(F02.fr K lK KL).trans e;have dc:=xp e2;obtain⟨h3,eh3⟩:∃ h3,h3=h2++[AO.dct false (kx.map (kG gS))]:=⟨_,rfl⟩
 obtain⟨K',eK'⟩:∃ K',K'=h2.length:=⟨_,rfl⟩
 rw[<- eh3,<- eK'] at dc;have e3:h3[K']?=some (.dct false (kx.map (kG gS))):=by rw[eh3,eK'];simp
 have hl:=F02.hl;have F3:Fr L h h3:=by rw[eh3];exact F02.app _
 refine bf (v:=.ref K') (h2:=h3) ?_ ?_
 ·exact dc
 by_cases hd:due=""
 ·obtain⟨x,y,c,k,r,rfl,rfl,hx,g,hc,hy⟩:=gd' hd
  subst hd;obtain⟨h4,eh4⟩:∃ h4,h4=h3.set K' (.dct false ((put kx x (0,y)).map (kG gS))):=⟨_,rfl⟩
  have F4:Fr L h h4:=by
   obtain⟨N,eN⟩:=F3.ro;have l3:=F3.hl;exact⟨λi hi n=>by rw[eh4,N8 ⋯];exact F3.fr i hi n,by rw[eh4,OO];exact l3,N,by rw[eh4,N8 ⋯];exact eN⟩
  have e4:h4[K']?=some (.dct false ((put kx x (0,y)).map (kG gS))):=by rw[eh4];exact Ob (bK e3)
  refine bV (e2:=[some (.ref L),some (.ref K),some (.int kd),none,none,some (.tup (k :: .str x::r)),some (.str ""),some (.str y),some (.ref K')]) (h2:=h4) ?_ ?_
  ·have k1:dW false (.str x)=true:=rfl
   have sz:(kx.map (kG gS)).length<sizeLine:=by rw[Oh];exact Ol ct 'd'
   have a1:atI (k :: .str x::r) 1=some (.str x):=mH (j:=1) rfl;have ix:ah ao (aa 5) (ae (.int 1)) [some (.ref L),some (.ref K),some (.int kd),none,none,some (.tup (k :: .str x::r)),some (.str ""),some (.str y),some (.ref K')] h3=.ok (.str x) h3:=by simp[a1]
   have b1:aa 8 [some (.ref L),some (.ref K),some (.int kd),none,none,some (.tup (k :: .str x::r)),some (.str ""),some (.str y),some (.ref K')] h3=.ok (.ref K') h3:=rfl;have b2:aa 7 [some (.ref L),some (.ref K),some (.int kd),none,none,some (.tup (k :: .str x::r)),some (.str ""),some (.str y),some (.ref K')] h3=.ok (.str y) h3:=rfl;have st:fw (aa 8) (ah ao (aa 5) (ae (.int 1))) (aa 7) [some (.ref L),some (.ref K),some (.int kd),none,none,some (.tup (k :: .str x::r)),some (.str ""),some (.str y),some (.ref K')] h3=.nx [some (.ref L),some (.ref K),some (.int kd),none,none,some (.tup (k :: .str x::r)),some (.str ""),some (.str y),some (.ref K')] h4:=by
    simp only[fw,b1,b2,ix,Out.go,e3]
    rw[Of ⟨k1,sz⟩,eh4];exact congrArg (λz=>OutS.nx _ (h3.set K' (.dct false z))) (l9 gS kx x (0,y))
   show aH (aC (ah az (aa 6) (ae (.str "")))) (fw (aa 8) (ah ao (aa 5) (ae (.int 1))) (aa 7)) aK [some (.ref L),some (.ref K),some (.int kd),none,none,some (.tup (k :: .str x::r)),some (.str ""),some (.str y),some (.ref K')] h3=_
   exact st
  refine iS (v:=.tup [.tup (k :: .str x::r),.str "",.ref K']) (h':=h4) 's' (ofP _ ⟨_,_,_,h4,rfl,F4,λ_=>⟨x,some y,c,hx,g,hc,by lia,λo eo=>?_,λy' ey=>by cases ey;exact hy⟩⟩)
  cases o with
  |none=>cases eo
  |some w =>
   have:w.2=y:=by simpa using eo
   have q:(put kx x w).map (kG gS)=(put kx x (0,y)).map (kG gS):=by
    rw[<- l9 gS kx x w,<- l9 gS kx x (0,y)];show d9 _ _ (.str w.2)=_
    rw[this]
   rw[e4,<- q];rfl
 ·refine bV (e2:=[some (.ref L),some (.ref K),some (.int kd),none,none,some deed',some (.str due),some pl',some (.ref K')]) (h2:=h3) ?_ ?_
  ·show aH (aC (ah az (aa 6) (ae (.str "")))) (fw (aa 8) (ah ao (aa 5) (ae (.int 1))) (aa 7)) aK [some (.ref L),some (.ref K),some (.int kd),none,none,some deed',some (.str due),some pl',some (.ref K')] h3=_
   generalize fw (aa 8) (ah ao (aa 5) (ae (.int 1))) (aa 7)=SX at *;simp[hd]
  exact iS (v:=.tup [deed',.str due,.ref K']) (h':=h3) 's' (ofP _ ⟨_,_,_,h3,rfl,F3,λz=>absurd z hd⟩)
def Bw(a b:Int)(h:AH):az (.int a) (.int b) h=.ok (.bl (decide (a=b))) h:=by simp
def MA(h:AH):az (.str "leaf") (.str "leaf") h=.ok (.bl true) h:=by simp
def MB(h:AH):az (.str "fork") (.str "leaf") h=.ok (.bl false) h:=by
 have:¬ (Str.ofString "fork"=Str.ofString "leaf"):=by decide +kernel
 simp[this]
theorem xq{h:AH}{p:Nat}{ps:List Pc}(S:ShelfAt h p ps)(g:Good ps):∀ (d:Nat) {t:Nat} {m f l:Ms} {x:Str},Tx ps t m x f l->m.ht.toNat<d->x.length<=100000->gI d [.ref p,.int t] h=.ok (.str x) h
 |0,t,m,f,l,x,T,hd,hx=>absurd hd (Pg _)
 |d+1,t,m,f,l,x,T,hd,hx=>by
  have ob:=S.ob;have z:=Bw t 0 h;rw[OB (by have:=T.n1;lia)] at z;have lt:=MA h;have lf:=MB h;rcases g.kind T with⟨e,_⟩|⟨a,b,ma,mb,y,w,fa,la,fb,lb,e,e2,_,A,B,x1,x2,_⟩
  ·have fp:=sk S T.n1 e
   have c0:ao (Pc.leaf x).av (.int 0) h=.ok (.str "leaf") h:=rfl;have c1:ao (Pc.leaf x).av (.int 1) h=.ok (.str x) h:=rfl;show lS (gI d) [.ref p,.int t] h=_
   generalize gI d=G
   generalize (Pc.leaf x).av=PA at *;simp[lS,z,ob,fp,c0,c1,lt,-az,-ao]
  ·have fp:=sk S T.n1 e
   have a0:=A.ky.ht;have b0:=B.ky.ht;have hh:m.ht=max ma.ht mb.ht+1:=by rw[x2];rfl
   have ll:y.length+w.length=x.length:=by rw[x1,eh]
   have ia:=xq S g d A (by(clear ll a0 fp x2 x1 B A e2 e lf lt z ob hx T g S;omega)) ⋯;have ib:=xq S g d B ⋯ ⋯;have ad:aB (.str y) (.str w) h=.ok (.str x) h:=by
    have:y.length+w.length<=sizeLine:=Oc (m:=100000) ⋯ 'd'
    rw[x1];simp only[aB,this,PM]
   show lS (gI d) [.ref p,.int t] h=_
   have c0:ao (Pc.fork a b).av (.int 0) h=.ok (.str "fork") h:=rfl;have c1:ao (Pc.fork a b).av (.int 1) h=.ok (.int a) h:=rfl;have c2:ao (Pc.fork a b).av (.int 2) h=.ok (.int b) h:=rfl;generalize (Pc.fork a b).av=PA,gI d=G at *;simp[lS,z,ob,fp,c0,c1,c2,lf,ia,ib,ad,-az,-aB,-ao]
def MC(S:ShelfAt h p ps)(g:Good ps){t:Nat}(T:TxZ ps t x)(hx:x.length<=100000):gI 90 [.ref p,.int t] h=.ok (.str x) h:=by
 rcases T with⟨rfl,rfl⟩|⟨m,f,l,T⟩
 ·have z:=Bw 0 0 h
  rw[OM rfl] at z;show lS (gI 89) [.ref p,.int 0] h=_
  generalize gI 89=G at *;simp[lS,z,-az]
 ·exact xq S g 90 T (by have:=e7 g T;lia) hx
def Pc.pd:Pc->PyData
 |.leaf x=>.tuple [.str "leaf",.str x]
 |.fork a b=>.tuple [.str "fork",.int a,.int b]
structure Hy(M:Nat)(X:Nat->Str)(V:Nat->Option (Nat×Str))(Kx:Nat->ZH)(ps:List Pc):Prop where
 nd:∀ j,j<=M->((Kx j).map (·.1)).Nodup
 ct:∀ j,j<=M->(Kx j).length<=50
 tz:∀ j,j<=M->∀ e∈Kx j,TxZ ps e.2.1 e.2.2
 st:∀ j,j<M->cB (X j)=true/\Kx (j+1)=upd (Kx j) (X j) (V j)/\(V j=none->(lk (Kx j) (X j)).isSome=true)
def dj(X:Nat->Str)(V:Nat->Option (Nat×Str))(Kx:Nat->ZH)(j:Nat):De:=(X j,(lk (Kx j) (X j)).map (·.1),(V j).map (·.1))
structure At(M:Nat)(X:Nat->Str)(V:Nat->Option (Nat×Str))(Kx:Nat->ZH)(ps:List Pc)(H0 hh:AH)(r:Nat):Prop where
 ho:∃ kx,Ho hh 0 1 10 ps kx ((List.range r).map (dj X V Kx)) ((List.range (M-r)).map λs=>dj X V Kx (M-1-s))/\∀ x,lk kx x=lk (Kx r) x
 fr:∀ i,12<i->hh[i]?=H0[i]?
 hl:hh.length=H0.length
section
variable{M r:Nat}{X:Nat->Str}{V:Nat->Option (Nat×Str)}{Kx:Nat->ZH}{ps:List Pc}{H0 hh:AH}
def At.fh{r':Nat}(B:At M X V Kx ps H0 hh r)(F:Fh 1 10 hh h2)(H:Ho h2 0 1 10 ps kx ((List.range r').map (dj X V Kx)) ((List.range (M-r')).map λs=>dj X V Kx (M-1-s)))(l:∀ x,lk kx x=lk (Kx r') x):At M X V Kx ps H0 h2 r' :=(
 ⟨⟨kx,H,l⟩,λi hi=>(F.fr i ⋯ ⋯ ⋯ ⋯).trans (B.fr i hi),F.hl.trans B.hl⟩)
def p8(r:Nat):(List.range (r+1)).map (dj X V Kx)=(List.range r).map (dj X V Kx)++[dj X V Kx r]:=by
 rw[O6,OS];rfl
def p9(hr:r<M):(List.range (M-r)).map (λs=>dj X V Kx (M-1-s))=(List.range (M-(r+1))).map (λs=>dj X V Kx (M-1-s))++[dj X V Kx r]:=by
 rw[show M-r=(M-(r+1))+1 by lia,O6,OS,Ot,P5,show M-1-(M-(r+1))=r by lia]
def Bx(S:Hy M X V Kx ps)(hM:M<=1000)(hr:r<M)(B:At M X V Kx ps H0 hh (r+1)):∃ h',j5 [.ref 0] hh=.ok .non h'/\At M X V Kx ps H0 h' r:=by
 obtain⟨nx,eK,sn⟩:=S.st r hr;obtain⟨kx,H,l⟩:=B.ho;rw[p8] at H;have lk2:∀ x,lk (upd kx (X r) (lk (Kx r) (X r))) x=lk (Kx r) x:=λx=>by
  rw[jL,l,eK,jL];by_cases q:X r=x
  ·rw[Of q,q]
  ·rw[Og q,Og q]
 have ll:=pY (nM H.nd (X r) (lk (Kx r) (X r))) (S.nd r ⋯) lk2;obtain⟨h',f,H',F⟩:=LQ H nx (λv e=>S.tz r ⋯ _ (cJ e)) (by rw[ll];exact S.ct r ⋯) (by simp<;>lia) (λe=>by
  rw[l,eK,jL,Of rfl]
  cases q:V r with
  |some v=>rfl
  |none=>have:=sn q;rw[e] at this;cases this)
 exact⟨h',f,B.fh F (by rw[p9 hr];exact H') lk2⟩
def MD(S:Hy M X V Kx ps)(hM:M<=1000)(hr:r<M)(B:At M X V Kx ps H0 hh r):∃ h',j9 [.ref 0] hh=.ok .non h'/\At M X V Kx ps H0 h' (r+1):=by
 obtain⟨nx,eK,sn⟩:=S.st r hr;obtain⟨kx,H,l⟩:=B.ho;rw[p9 hr] at H;have lk2:∀ x,lk (upd kx (X r) (V r)) x=lk (Kx (r+1)) x:=λx=>by
  rw[jL,eK,jL,l]
 have ll:=pY (nM H.nd (X r) (V r)) (S.nd (r+1) ⋯) lk2;obtain⟨h',f,H',F⟩:=LR H nx (λv e=>S.tz (r+1) ⋯ (X r,v) (cJ (by rw[eK,jL,Of rfl,e]))) (by rw[ll];exact S.ct (r+1) ⋯) (by simp<;>lia) (λe=>by rw[l];exact sn e)
 exact⟨h',f,B.fh F (by rw[p8];exact H') lk2⟩
end
def By{ds bs:List De}(H:Ho h 0 1 10 ps kx ds bs):eE [.ref 0,.tup [.str "again"]] h=j9 [.ref 0] h :=(
 jO rfl (bX (x := "again") rfl ∅ (bX (x := "again") rfl ∅ (bX (x := "again") rfl ∅ (bX (x := "again") rfl ∅ (bX (x := "again") rfl ∅ (bX (x := "again") rfl ∅ (bX (x := "again") rfl ∅ (kf rfl (m0 H.ob))))))))))
def xr{kz:ZH}{deed:AV}{y:Option Str}(q:∀ x,lk kz x=lk kx x)(g:Gd kx deed x y c):Gd kz deed x y c:=by
 cases g with
 |give hx py ly=>exact .give hx py ly
 |copy hx l=>exact .copy hx ((q _).trans l)
 |join l l2 hm=>exact .join ((q _).trans l) ((q _).trans l2) hm
 |put l l2 ha hm=>exact .put ((q _).trans l) ((q _).trans l2) ha hm
 |take l ab hb hm=>exact .take ((q _).trans l) ab hb hm
 |rep l hk hm=>exact .rep ((q _).trans l) hk hm
 |rep0 l hk=>exact .rep0 ((q _).trans l) hk
 |drop l=>exact .drop ((q _).trans l)
def Ho.keep{h h':AH}{ps:List Pc}{kx:ZH}{ds bs:List De}(H:Ho h 0 1 10 ps kx ds bs)(k:∀ i,i<=12->h'[i]?=h[i]?):Ho h' 0 1 10 ps kx ds bs :=(
 ⟨(k 0 ⋯).trans H.ob,H.sh.keep λi _ _=>k i ⋯,H.gd,(k 10 ⋯).trans H.tx,(k 11 ⋯).trans H.de,(k 12 ⋯).trans H.ba,H.tz,H.lo,H.ct,H.nd⟩)
def ext{α:Type}(f:Nat->α)(n:Nat)(v:α):Nat->α:=λj=>if j<n then f j else v
def fi(f:Nat->α)(v:α)(h:j<n):ext f n v j=f j:=(Of h)
def iz(f:Nat->α)(n:Nat)(v:α):ext f n v n=v:=(Og (Pt _))
def ME(nm:∀ e∈kx,cB e.1=true){deed:AV}{oy:Option Str}(g:Gd kx deed x oy c):cB x=true:=by
 cases g with
 |give hx=>exact hx
 |copy hx=>exact hx
 |join l=>exact nm _ (cJ l)
 |put l=>exact nm _ (cJ l)
 |take l=>exact nm _ (cJ l)
 |rep l=>exact nm _ (cJ l)
 |rep0 l=>exact nm _ (cJ l)
 |drop l=>exact nm _ (cJ l)
def MF{deed:AV}{oy:Option Str}(g:Gd kx deed x oy c)(e:oy=none):(lk kx x).isSome=true:=by
 cases g with
 |drop l=>rw[l];rfl
 |_=>cases e
variable{X:Nat->Str}{Kx:Nat->ZH}
def MG{m:Nat}{V:Nat->Option (Nat×Str)}:(List.range (m+1)).map (dj (ext X m x) (ext V m o) (ext Kx (m+1) (upd (Kx m) x o)))=(List.range m).map (dj X V Kx)++[(x,(lk (Kx m) x).map (·.1),o.map (·.1))]:=by
 rw[O6,OS,Ot,P5];congr 1
 ·refine Pm λj hj=>?_
  have hj:=Qy.mp hj;unfold dj;rw[fi X x hj,fi V o hj,fi Kx _ (show j<m+1 by lia)]
 ·unfold dj
  rw[iz,iz,fi Kx _ (PX m)]
def pv(Kx:Nat->ZH)(Ks:Nat->Nat)(j:Nat):AV:=.tup [.ref (Ks j),dP (Kx j)]
structure Zq(h:AH)(t M m:Nat)(X:Nat->Str)(V:Nat->Option (Nat×Str))(Kx:Nat->ZH)(Ks:Nat->Nat)(ps:List Pc)(G:Option Nat):Prop where
 hy:Hy M X V Kx ps
 ho:∃ kx,Ho h 0 1 10 ps kx ((List.range m).map (dj X V Kx)) ((List.range (M-m)).map λs=>dj X V Kx (M-1-s))/\∀ x,lk kx x=lk (Kx m) x
 mM:m<=M
 Mt:M<=t
 pa:h[14]?=some (.lst ((List.range (m+1)).map (pv Kx Ks)))
 un:∀ g,G=some g->14<g/\h[g]?=some (.lst ((List.range (M-m)).map λs=>pv Kx Ks (M-s)))
 ks:∀ j,j<=M->(Ks j=13\/14<Ks j)/\(∀ g,G=some g->Ks j≠g)/\h[Ks j]?=some (.dct false ((Kx j).map (kG gS)))
 nl:∀ j,j<=M->(∀ e∈Kx j,e.2.2.length<=300)/\(Kx j).length<=t
 nn:∀ j,j<=M->∀ e∈Kx j,¬ e.1="none"
 z0:Kx 0=[]
def MH{R:Nat}{Z:List AV}{w:AV}(e:h[R]?=some (.lst (Z++[w]))):ao (.ref R) (.int (-1)) h=.ok w h:=by
 have q:atI (Z++[w]) (-1)=some w:=by
  have e:(-1+((Z.length:Int)+1)).toNat=Z.length:=by lia
  have e2:(1:Int)<=(Z.length:Int)+1:=by lia
  simp[atI,ic,e,e2]
 simp only[ao,e,q]
section
variable{h h':AH}{t M m:Nat}{X:Nat->Str}{V:Nat->Option (Nat×Str)}{Kx:Nat->ZH}{Ks:Nat->Nat}{ps ps':List Pc}{G:Option Nat}
def Zq.l14(Z:Zq h t M m X V Kx Ks ps G):14<h.length:=(bK Z.pa)
def Zq.kl(Z:Zq h t M m X V Kx Ks ps G)(j:Nat)(hj:j<=M):Ks j<h.length:=(bK (Z.ks j hj).2.2)
def Zq.kp(Z:Zq h t M m X V Kx Ks ps G)(hL:14<L)(KL:∀ j,j<=M->Ks j≠L)(GL:∀ g,G=some g->g≠L)(k:∀ i,i<h.length->i≠L->h'[i]?=h[i]?):Zq h' t M m X V Kx Ks ps G:=by
 obtain⟨kx,H,l⟩:=Z.ho;have l14:=Z.l14;exact⟨Z.hy,⟨kx,H.keep λi hi=>k i ⋯ ⋯,l⟩,Z.mM,Z.Mt,(k 14 ⋯ ⋯).trans Z.pa,λg e=>⟨(Z.un g e).1,(k g (bK (Z.un g e).2) (GL g e)).trans (Z.un g e).2⟩,
  λj hj=>⟨(Z.ks j hj).1,(Z.ks j hj).2.1,(k _ (Z.kl j hj) (KL j hj)).trans (Z.ks j hj).2.2⟩,Z.nl,Z.nn,Z.z0⟩
def Zq.up(Z:Zq h t M m X V Kx Ks ps G):Zq h (t+1) M m X V Kx Ks ps G :=(
 ⟨Z.hy,Z.ho,Z.mM,QE Z.Mt,Z.pa,Z.un,Z.ks,λj hj=>⟨(Z.nl j hj).1,QE (Z.nl j hj).2⟩,Z.nn,Z.z0⟩)
def Zq.drop(Z:Zq h t M m X V Kx Ks ps G):Zq h t M m X V Kx Ks ps none :=(
 ⟨Z.hy,Z.ho,Z.mM,Z.Mt,Z.pa,nofun,λj hj=>⟨(Z.ks j hj).1,nofun,(Z.ks j hj).2.2⟩,Z.nl,Z.nn,Z.z0⟩)
def Zq.nums(Z:Zq h t M m X V Kx Ks ps G):fW [.ref 0] h=.ok (dP (Kx m)) h:=by
 obtain⟨kx,H,l⟩:=Z.ho;rw[Bp H,Bo H.nd (Z.hy.nd m Z.mM) l]
def Zq.last(Z:Zq h t M m X V Kx Ks ps G):ao (.ref 14) (.int (-1)) h=.ok (pv Kx Ks m) h :=(
 MH (Z:=(List.range m).map (pv Kx Ks)) (by rw[Z.pa,O6,OS];rfl))
def Zq.len(Z:Zq h t M m X V Kx Ks ps G):aI [.ref 14] h=.ok (.int ((m+1:Nat):Int)) h:=by
 simp only[aI,Z.pa,Oh,Pk]
def Zq.names(Z:Zq h t M m X V Kx Ks ps G):∀ e∈Kx m,d6 e.1=true/\e.2.2.length<=300:=(λe he=>by
 obtain⟨kx,H,l⟩:=Z.ho;have:=nO (x:=e.1) (v:=e.2) (Z.hy.nd m Z.mM) he;exact⟨Mq (H.tz _ (cJ ((l e.1).trans this))).2 (Z.nn m Z.mM e he),(Z.nl m Z.mM).1 e he⟩)
def Zq.move(Z:Zq h t M m X V Kx Ks ps G){m':Nat}{H0:AH}(hm:m'<=M)(A:At M X V Kx ps H0 h' m')(k:∀ i,i<=12->h2[i]?=h'[i]?)(kk:∀ j,j<=M->h2[Ks j]?=h[Ks j]?)(e14:h2[14]?=some (.lst ((List.range (m'+1)).map (pv Kx Ks))))(eg:∀ g,G=some g->h2[g]?=some (.lst ((List.range (M-m')).map λs=>pv Kx Ks (M-s)))):Zq h2 t M m' X V Kx Ks ps G:=by
 obtain⟨kx,H,l⟩:=A.ho;exact⟨Z.hy,⟨kx,H.keep k,l⟩,hm,Z.Mt,e14,λg e=>⟨(Z.un g e).1,eg g e⟩,λj hj=>⟨(Z.ks j hj).1,(Z.ks j hj).2.1,(kk j hj).trans (Z.ks j hj).2.2⟩,Z.nl,Z.nn,Z.z0⟩
def Zq.atm(Z:Zq h t M m X V Kx Ks ps G):At M X V Kx ps h h m:=(⟨Z.ho,λ_ _=>rfl,rfl⟩)
def Zq.back{r g:Nat}(Z:Zq h t M (r+1) X V Kx Ks ps (some g))(ht:t<=50):∃ h1 h2 h3 v,cx [.ref 0,.tup [.str "back"]] h=.ok (.str "") h1/\bz (.ref 14) [] h1=.ok v h2/\bP (.ref g) [v] h2=.ok .non h3/\aZ (.ref 14) h1=true/\aZ (.ref g) h1=true/\aZ (.ref g) h2=true/\Zq h3 t M r X V Kx Ks ps (some g)/\h3.length=h.length/\∀ i,14<i->i≠g->h3[i]?=h[i]?:=by
 have Mt:=Z.Mt;have mM:=Z.mM;have g14:=(Z.un g rfl).1;obtain⟨h1,f,A⟩:=Bx Z.hy ⋯ ⋯ Z.atm;obtain⟨kx0,H0,_⟩:=Z.ho;have wd:=sO ((xa H0).trans f);have e14:h1[14]?=some (.lst ((List.range (r+1)).map (pv Kx Ks)++[pv Kx Ks (r+1)])):=by rw[A.fr 14 ⋯,Z.pa,O6,OS];rfl
 have e15:h1[g]?=some (.lst ((List.range (M-(r+1))).map λs=>pv Kx Ks (M-s))):=by rw[A.fr g ⋯,(Z.un g rfl).2]
 have pp:bz (.ref 14) [] h1=.ok (pv Kx Ks (r+1)) (h1.set 14 (.lst ((List.range (r+1)).map (pv Kx Ks)))):=by simp[bz,e14]
 have k2:∀ i,i≠14->(h1.set 14 (.lst ((List.range (r+1)).map (pv Kx Ks))))[i]?=h1[i]?:=λi hi=>N8 (Ne.symm hi)
 have e15':=(k2 g ⋯).trans e15;have ap:=wY e15' (by rw[Oh,Pk];lia) (pv Kx Ks (r+1))
 have k3:∀ i,i≠14->i≠g->((h1.set 14 (.lst ((List.range (r+1)).map (pv Kx Ks)))).set g (.lst ((List.range (M-(r+1))).map (λs=>pv Kx Ks (M-s))++[pv Kx Ks (r+1)])))[i]?=h1[i]?:=λi a b=>(N8 (Ne.symm b)).trans (k2 i a)
 refine⟨h1,_,_,_,wd,pp,ap,by simp only[aZ,d8,e14];rfl,by simp only[aZ,d8,e15];rfl,by simp only[aZ,d8,e15'];rfl,Z.move ⋯ A (λi hi=>k3 i ⋯ ⋯) (λj hj=>?_) ((N8 ⋯).trans (Ob (bK e14))) (λg' e=>?_),by rw[OO,OO];exact A.hl,λi hi n=>(k3 i ⋯ n).trans (A.fr i ⋯)⟩
 ·have:=(Z.ks j hj).1
  rw[k3 _ ⋯ ((Z.ks j hj).2.1 g rfl),A.fr _ ⋯]
 ·cases e
  rw[Ob (bK e15')];rw[show M-r=(M-(r+1))+1 by lia,O6,OS,Ot,P5,show M-(M-(r+1))=r+1 by(clear k3 ap e15' k2 pp e15 e14 wd H0 A f g14 Mt ht Z;lia)]
def Zq.again{g:Nat}(Z:Zq h t M m X V Kx Ks ps (some g))(hm:m<M)(ht:t<=50):∃ h1 h2 h3 v,cx [.ref 0,.tup [.str "again"]] h=.ok (.str "") h1/\bz (.ref g) [] h1=.ok v h2/\bP (.ref 14) [v] h2=.ok .non h3/\aZ (.ref 14) h1=true/\aZ (.ref g) h1=true/\aZ (.ref 14) h2=true/\Zq h3 t M (m+1) X V Kx Ks ps (some g)/\h3.length=h.length/\∀ i,14<i->i≠g->h3[i]?=h[i]?:=by
 have Mt:=Z.Mt;have g14:=(Z.un g rfl).1;obtain⟨h1,f,A⟩:=MD Z.hy ⋯ hm Z.atm;obtain⟨kx0,H0,_⟩:=Z.ho;have wd:=sO ((By H0).trans f);have e14:h1[14]?=some (.lst ((List.range (m+1)).map (pv Kx Ks))):=by rw[A.fr 14 ⋯,Z.pa]
 have e15:h1[g]?=some (.lst (((List.range (M-(m+1))).map λs=>pv Kx Ks (M-s))++[pv Kx Ks (m+1)])):=by
  rw[A.fr g ⋯,(Z.un g rfl).2,show M-m=(M-(m+1))+1 by lia,O6,OS,Ot,P5,show M-(M-(m+1))=m+1 by lia]
 have pp:bz (.ref g) [] h1=.ok (pv Kx Ks (m+1)) (h1.set g (.lst ((List.range (M-(m+1))).map λs=>pv Kx Ks (M-s)))):=by simp[bz,e15]
 have k2:∀ i,i≠g->(h1.set g (.lst ((List.range (M-(m+1))).map λs=>pv Kx Ks (M-s))))[i]?=h1[i]?:=λi hi=>N8 (Ne.symm hi)
 have e14':=(k2 14 ⋯).trans e14;have ap:=wY e14' (by rw[Oh,Pk];lia) (pv Kx Ks (m+1))
 have k3:∀ i,i≠14->i≠g->((h1.set g (.lst ((List.range (M-(m+1))).map λs=>pv Kx Ks (M-s)))).set 14 (.lst ((List.range (m+1)).map (pv Kx Ks)++[pv Kx Ks (m+1)])))[i]?=h1[i]?:=λi a b=>(N8 (Ne.symm a)).trans (k2 i b)
 refine⟨h1,_,_,_,wd,pp,ap,by simp only[aZ,d8,e14];rfl,by simp only[aZ,d8,e15];rfl,by simp only[aZ,d8,e14'];rfl,Z.move ⋯ A (λi hi=>k3 i ⋯ ⋯) (λj hj=>?_) ?_ (λg' e=>?_),by rw[OO,OO];exact A.hl,λi hi n=>(k3 i ⋯ n).trans (A.fr i ⋯)⟩
 ·have:=(Z.ks j hj).1
  rw[k3 _ ⋯ ((Z.ks j hj).2.1 g rfl),A.fr _ ⋯]
 ·rw[Ob (bK e14'),O6 (n:=m+1),OS];rfl
 ·cases e
  exact(N8 ⋯).trans (Ob (bK e15))
def Zq.pop(Z:Zq h t M (r+1) X V Kx Ks ps none)(ht:t<=50):∃ h1 h2 v,aZ (.ref 14) h=true/\bz (.ref 14) [] h=.ok v h1/\cx [.ref 0,.tup [.str "back"]] h1=.ok (.str "") h2/\Zq h2 t M r X V Kx Ks ps none:=by
 have Mt:=Z.Mt;have mM:=Z.mM;have e14:h[14]?=some (.lst ((List.range (r+1)).map (pv Kx Ks)++[pv Kx Ks (r+1)])):=by rw[Z.pa,O6,OS];rfl
 have pp:bz (.ref 14) [] h=.ok (pv Kx Ks (r+1)) (h.set 14 (.lst ((List.range (r+1)).map (pv Kx Ks)))):=by simp[bz,e14]
 obtain⟨h1,eh1⟩:∃ h1,h1=h.set 14 (.lst ((List.range (r+1)).map (pv Kx Ks))):=⟨_,rfl⟩
 have k2:∀ i,i≠14->h1[i]?=h[i]?:=λi hi=>by rw[eh1];exact N8 (Ne.symm hi)
 have e14':h1[14]?=some (.lst ((List.range (r+1)).map (pv Kx Ks))):=by rw[eh1];exact Ob (bK e14)
 rw[<- eh1] at pp;obtain⟨kx,H,l⟩:=Z.ho
 have H1:=H.keep (h':=h1) λi hi=>k2 i ⋯
 obtain⟨h2,f,A⟩:=Bx Z.hy ⋯ ⋯ ⟨⟨kx,H1,l⟩,λ_ _=>rfl,rfl⟩;exact⟨h1,h2,_,by simp only[aZ,d8,e14];rfl,pp,sO ((xa H1).trans f),Z.move ⋯ A (λ_ _=>rfl) (λj hj=>by
  have:=(Z.ks j hj).1;rw[A.fr _ ⋯,k2 _ ⋯]) (by rw[A.fr 14 ⋯,e14']) nofun⟩
def Zq.deed (Z:Zq h t M m X V Kx Ks ps none) {deed:AV} {x:Str} {oy:Option Str} {c K':Nat} (g:Gd (Kx m) deed x oy c) (kd:∀ o:Option (Nat×Str),o.map (·.2)=oy->h[K']?=some (.dct false ((upd (Kx m) x o).map (kG gS)))) (hK:14<K') (xn:¬ x="none") (ny:∀ y,oy=some y->y.length<=300) (hz:ps.length<13000000) (ht:t<50) :
  ∃ h1 h2 ps' X' V' Kx' Ks',cx [.ref 0,deed] h=.ok (.str "") h1/\fW [.ref 0] h1=.ok (dP (Kx' (m+1))) h1/\Ks' (m+1)=K'/\aZ (.ref 14) h1=true/\bP (.ref 14) [pv Kx' Ks' (m+1)] h1=.ok .non h2/\Zq h2 (t+1) (m+1) (m+1) X' V' Kx' Ks' ps' none/\ps'.length<=ps.length+c/\h2.length=h.length:=by
 obtain⟨kx,H,l⟩:=Z.ho;have Mt:=Z.Mt;have mM:=Z.mM;have lx:kx.length<=t:=by rw[pY H.nd (Z.hy.nd m mM) l];exact(Z.nl m mM).2
 obtain⟨o,ps',h1,ed,eo,H1,F,pre,len⟩:=xb H (xr l g) hz ⋯ (by simp;lia)
 have nm:=ME (λe he=>(H.tz e he).2) (xr l g);have k:∀ i,12<i->h1[i]?=h[i]?:=λi hi=>F.fr i ⋯ ⋯ ⋯ ⋯
 have e14:=(k 14 ⋯).trans Z.pa;have l2:∀ z,lk (upd kx x o) z=lk (upd (Kx m) x o) z:=λz=>by rw[jL,jL,l]
 have nd2:=nM (Z.hy.nd m mM) x o;have ln2:=pY H1.nd nd2 l2;have ny2:∀ e∈upd (Kx m) x o,e.2.2.length<=300:=λe he=>by
  rcases nN he with⟨v,rfl,rfl⟩|he
  ·exact ny v.2 eo.symm
  ·exact(Z.nl m mM).1 e he
 have tz2:∀ e∈upd (Kx m) x o,TxZ ps' e.2.1 e.2.2:=λe he=>by
  rcases nN he with⟨v,rfl,rfl⟩|he
  ·exact(H1.tz (x,v) (cJ (by rw[jL,Of rfl]))).1
  ·exact(Z.hy.tz m mM e he).pre pre
 have nu:fW [.ref 0] h1=.ok (dP (upd (Kx m) x o)) h1:=by rw[Bp H1,Bo H1.nd nd2 l2]
 have eK:ext Kx (m+1) (upd (Kx m) x o) (m+1)=upd (Kx m) x o:=iz ..;have eS:ext Ks (m+1) K' (m+1)=K':=iz ..;have lm:(List.range (m+1)).map (pv (ext Kx (m+1) (upd (Kx m) x o)) (ext Ks (m+1) K'))=(List.range (m+1)).map (pv Kx Ks):=Pm λj hj=>by
  have hj:=Qy.mp hj;unfold pv;rw[fi Kx _ hj,fi Ks _ hj]
 have ap:=wY e14 (by rw[Oh,Pk];lia) (pv (ext Kx (m+1) (upd (Kx m) x o)) (ext Ks (m+1) K') (m+1))
 obtain⟨h2,eh2⟩:∃ h2,h2=h1.set 14 (.lst ((List.range (m+1)).map (pv Kx Ks)++[pv (ext Kx (m+1) (upd (Kx m) x o)) (ext Ks (m+1) K') (m+1)])):=⟨_,rfl⟩
 have e14':h2[14]?=some (.lst ((List.range (m+1)).map (pv Kx Ks)++[pv (ext Kx (m+1) (upd (Kx m) x o)) (ext Ks (m+1) K') (m+1)])):=by rw[eh2];exact Ob (bK e14)
 have k2:∀ i,i≠14->h2[i]?=h1[i]?:=λi hi=>by rw[eh2];exact N8 (Ne.symm hi)
 have l2h:h2.length=h1.length:=by rw[eh2,OO]
 rw[<- eh2] at ap;refine⟨h1,h2,ps',ext X m x,ext V m o,ext Kx (m+1) (upd (Kx m) x o),ext Ks (m+1) K',sO ed,by rw[eK];exact nu,eS,by simp only[aZ,d8,e14];rfl,ap,?_,len,by rw[l2h];exact F.hl⟩
 refine⟨⟨λj hj=>?_,λj hj=>?_,λj hj e he=>?_,λj hj=>?_⟩,⟨upd kx x o,?_,?_⟩,Oa _,by lia,?_,nofun,λj hj=>?_,λj hj=>?_,λj hj e he=>?_,by rw[fi Kx _ (QU m)];exact Z.z0⟩
 ·by_cases q:j<m+1
  ·rw[fi Kx _ q];exact Z.hy.nd j ⋯
  ·obtain rfl:j=m+1:=by lia
   rw[iz];exact nd2
 ·by_cases q:j<m+1
  ·rw[fi Kx _ q];exact Z.hy.ct j ⋯
  ·obtain rfl:j=m+1:=by lia
   rw[iz,<- ln2];exact H1.ct
 ·by_cases q:j<m+1
  ·rw[fi Kx _ q] at he;exact(Z.hy.tz j ⋯ e he).pre pre
  ·obtain rfl:j=m+1:=by lia
   rw[iz] at he;exact tz2 e he
 ·by_cases q:j<m
  ·rw[fi X _ q,fi V _ q,fi Kx _ (show j<m+1 by lia),fi Kx _ (show j+1<m+1 by lia)];exact Z.hy.st j ⋯
  ·obtain rfl:j=m:=by lia
   rw[iz,iz,fi Kx _ (PX j),iz];exact⟨nm,rfl,λq=>by rw[<- l];exact MF (xr l g) (by rw[<- eo,q];rfl)⟩
 ·rw[MG,<- l,SZ];exact H1.keep λi hi=>k2 i ⋯
 ·rw[eK];exact l2
 ·rw[e14',O6 (n:=m+1),OS,lm];rfl
 ·by_cases q:j<m+1
  ·rw[fi Kx _ q,fi Ks _ q]
   have:=Z.ks j ⋯;exact⟨this.1,nofun,((k2 _ ⋯).trans (k _ ⋯)).trans this.2.2⟩
  ·obtain rfl:j=m+1:=by lia
   rw[eS,eK];exact⟨.inr hK,nofun,((k2 K' ⋯).trans (k K' ⋯)).trans (kd o eo)⟩
 ·by_cases q:j<m+1
  ·rw[fi Kx _ q];exact⟨(Z.nl j ⋯).1,QE (Z.nl j ⋯).2⟩
  ·obtain rfl:j=m+1:=by lia
   rw[iz];exact⟨ny2,by have:=sM (Kx m) x o;have:=(Z.nl m mM).2;lia⟩
 ·by_cases q:j<m+1
  ·rw[fi Kx _ q] at he;exact Z.nn j ⋯ e he
  ·obtain rfl:j=m+1:=by lia
   rw[iz] at he;rcases nN he with⟨v,rfl,rfl⟩|he
   ·exact xn
   ·exact Z.nn m mM e he
end
theorem Bz:∀ zs:List Str,PyData.eqvAll (zs.map PyData.str) (zs.map PyData.str)=true
 |[]=>by simp[PyData.eqvAll]
 |z::zs=>by simp[PyData.eqvAll,PyData.eqv,Bz zs]
def MI(zs:List Str)(h:AH):bS (.fl (zs.map AV.str)) (.fl (zs.map AV.str)) h=.ok (.bl false) h:=by
 have t:bj 8 h (.fl (zs.map AV.str))=some (.list (zs.map PyData.str)):=by
  show (bu (bj 7 h) (zs.map AV.str)).map PyData.list=_
  rw[xj 6];rfl
 have e:gc (.fl (zs.map AV.str)) (.fl (zs.map AV.str)) h=some true:=by
  show (match bj 8 h (.fl (zs.map AV.str)),bj 8 h (.fl (zs.map AV.str)) with|some d,some e=>some (PyData.eqv d e)|_,_=>none)=_
  rw[t];show some (PyData.eqv (.list _) (.list _))=some true
  rw[PyData.eqv,Bz]
 show (match gc (.fl (zs.map AV.str)) (.fl (zs.map AV.str)) h with|some b=>Out.ok (AV.bl (!b)) h|none=>Out.bad)=_
 rw[e];rfl
theorem BC{α:Type}{js:List Nat}{en:En}{L:AH->Bool}{e:SE}{g f:α->AV}{h:AH}(lv:L h=true):∀ (cs:List α) (ys:List AV),(∀ x∈cs,e (some (g x)::js.map λj=>(en[j]?).join) h=.ok (f x) h)->ys.length+cs.length<=sizeLine ->
  gU js en L bx e (cs.map g) ys h=.ok (ys++cs.map f) h
 |[],ys,_,_=>by rw[P5];unfold gU;rw[Of lv];simp
 |x::xs,ys,he,hl=>by
  have hl':ys.length<sizeLine:=by simp at hl;lia
  rw[Ot];unfold gU
  rw[Of ⟨lv,hl'⟩];simp only[bx]
  rw[he x 's'];dsimp only;rw[BC lv xs (ys++[f x]) (λy hy=>he y (by simp[hy])) (by simp at hl ⊢;lia)]
  simp
theorem BD:∀ n:Nat,kP (List.replicate n (AV.bl true))=some (List.replicate n true)
 |0=>rfl
 |n+1=>by rw[Sx,Sx];simp[kP,BD n]
section
variable{h:AH}{t M m:Nat}{X:Nat->Str}{V:Nat->Option (Nat×Str)}{Kx:Nat->ZH}{Ks:Nat->Nat}{ps:List Pc}{G:Option Nat}
abbrev iV:SE:=ah az (au (gI 90) (ai (aD 1 nB (aa 1) af) (ai (aD 1 cO (aa 1) (ai (aa 0) af)) af))) (ah hJ (aa 2) (aa 0))
def MJ{ds bs:List De}{ob:Obj}(H:Ho h 0 1 10 ps kx ds bs)(l:∀ x,lk kx x=lk ky x)(eK:h[K]?=some (.dcz ob (ky.map (kG gS)))){v:Nat×Str}(lv:lk ky x=some v)(lx:v.2.length<=300):iV [some (.str x),some (.ref 0),some (.ref K)] h=.ok (.bl true) h:=by
 have l1:lk kx x=some v:=(l x).trans lv;have ft:=iR H l1;have rd:=MC H.sh H.gd (H.tz _ (cJ l1)).1 (by show v.2.length<=_;lia)
 have hs:=Mp H;have ob0:=H.ob;have ix:hJ (.ref K) (.str x) h=.ok (.str v.2) h:=by
  have va:aU (ky.map (kG gS)) (.str x)=some (.str v.2):=by rw[ja,lv];rfl
  have k:(keyOf? (.str x)).isSome=true:=rfl;simp only[hJ,eK,k,PM,va]
 have eq:az (.str v.2) (.str v.2) h=.ok (.bl true) h:=by simp
 have rd:gI 90 [.ref 1,.int v.1] h=.ok (.str v.2) h:=rd;unfold iV;generalize cO=G3,nB=G2,gI 90=G at *;simp[ob0,ft,hs,rd,ix,eq,-az]
def ML(Z:Zq h t M m X V Kx Ks ps G):lF [0,1] 1 bx iV [some (.ref 0),some (.ref (Ks m))] h=.ok (.fl (List.replicate (Kx m).length (.bl true))) h:=by
 obtain⟨kx,H,l⟩:=Z.ho;obtain⟨k1,_,k2⟩:=Z.ks m Z.mM;have lK:=bK k2;have nd:=Z.hy.nd m Z.mM;have ct:=Z.hy.ct m Z.mM;refine JY (n:=Ks m) rfl k2 ⟨λp hp x ex=>?_,λob=>?_⟩
 ·obtain⟨e,he,rfl⟩:=PH.mp hp
  have:e.1=x:=by injection ex
  subst this;have nm:=(H.tz _ (cJ ((l e.1).trans (nO nd he)))).2
  exact⟨Oc (sN nm) 'd',Bl nm⟩
 ·have ez:(h.set (Ks m) (.dcz ob ((Kx m).map (kG gS))))[Ks m]?=some (.dcz ob ((Kx m).map (kG gS))):=Ob lK
  have Hz:=H.keep (h':=h.set (Ks m) (.dcz ob ((Kx m).map (kG gS)))) λi hi=>N8 ⋯
  have lv:Lz (Ks m) ob ((Kx m).map (kG gS)) (h.set (Ks m) (.dcz ob ((Kx m).map (kG gS))))=true:=@decide_eq_true _ (Classical.propDecidable _) ez;have c:=BC (js:=[0,1]) (en:=[some (.ref 0),some (.ref (Ks m))]) (e:=iV) (g:=λe:Str×Nat×Str=>AV.str e.1) (f:=λ_=>AV.bl true) lv (Kx m) [] (λe he=>by
   exact MJ Hz l ez (nO nd he) ((Z.nl m Z.mM).1 e he)) (by
    have:(Kx m).length<=sizeLine:=Oc ct 'd'
    simpa using this)
  rw[P3];have e1:List.map ((λx:AV×AV=>x.1) ∘ kG gS) (Kx m)=(Kx m).map λe=>AV.str e.1:=rfl
  have e2:(Kx m).map (λ_=>AV.bl true)=List.replicate (Kx m).length (AV.bl true):=List.map_const' ..;rw[e2,P8] at c;rw[e1];exact c
def MM(Z:Zq h t M m X V Kx Ks ps G):lT [.ref 0,.ref (Ks m)] h=.ok (.bl true) h:=by
 have c:=ML Z;obtain⟨kx,H,l⟩:=Z.ho;have fn:=xh H;have ob0:=H.ob;have nd:=Z.hy.nd m Z.mM;have nm:∀ e∈Kx m,cB e.1=true:=λe he=>(H.tz _ (cJ ((l e.1).trans (nO nd he)))).2
 have so:=sQ (Z.ks m Z.mM).2.2 (Z.hy.ct m Z.mM) nm;have es:dD (kx.map (·.1))=dD ((Kx m).map (·.1)):=oT ((fK _).trans ((xg H.nd nd l).trans (fK _).symm)) (lr _) (lr _);rw[es] at fn;have ne:=MI (dD ((Kx m).map (·.1))) h
 have so:g8 (aa 1) [some (.ref 0),some (.ref (Ks m))] h=.ok (.fl ((dD ((Kx m).map (·.1))).map AV.str)) h:=so;have al:eQ [.fl (List.replicate (Kx m).length (.bl true))] h=.ok (.bl true) h:=by
  simp[BD]
 unfold lT;generalize iw=G,g8 (aa 1)=SK,(dD ((Kx m).map (·.1))).map AV.str=W,lF [0,1] 1 bx iV=C at *;simp[ob0,fn,so,ne,c,al,-bS,-eQ]
end
def MN(x y:Str)(h:AH):az (.str x) (.str y) h=.ok (.bl (decide (x=y))) h:=by simp
def xt{B k:Nat}(h1:a<=B+k*j)(h2:b<=a+k):b<=B+k*(j+1):=by
 rw[Nat.mul_succ];lia
abbrev e8(cv o3 o4 o5 o6 o7:Option AV):En:=[some (.ref 0),cv,some (.ref 14),o3,o4,o5,o6,o7]
section
variable{h:AH}{t M m:Nat}{X:Nat->Str}{V:Nat->Option (Nat×Str)}{Kx:Nat->ZH}{Ks:Nat->Nat}{ps:List Pc}
def MO(Z:Zq h t m m X V Kx Ks ps none)(ht:t<50)(hz:ps.length<12000000)(c kk:Int)(cv o5 o6 o7:Option AV) :
  ∃ h' m' X' V' Kx' Ks' ps' c5 c6 c7,lR (e8 cv (some (.int kk)) (some (.int c)) o5 o6 o7) h=.nx (e8 cv (some (.int kk)) (some (.int c)) c5 c6 c7) h'/\Zq h' (t+1) m' m' X' V' Kx' Ks' ps' none/\ps'.length<=ps.length+240040:=by
 have l14:=Z.l14;obtain⟨N,st⟩:=A0 [c,kk] 's' 0 'd' h;have st:iK [.fl [.int c,.int kk],.int 0] h=.ok (.ref h.length) (h++[.lst [.int N]]):=st;obtain⟨L,eL0⟩:∃ L,L=h.length:=⟨_,rfl⟩
 obtain⟨h1,eh1⟩:∃ h1,h1=h++[AO.lst [.int N]]:=⟨_,rfl⟩
 rw[<- eL0,<- eh1] at st;have KL:∀ j,j<=m->Ks j≠L:=λj hj z=>by have:=Z.kl j hj;lia
 have Z1:Zq h1 t m m X V Kx Ks ps none:=Z.kp (L:=L) ⋯ KL nofun λi hi _=>by rw[eh1,Oj hi]
 have L1:h1[L]?=some (.lst [.int N]):=by rw[eh1,eL0];simp
 obtain⟨deed,due,K',h2,fd,F1,gd⟩:=Mz (Z1.ks m (Oa _)).2.2 ⟨N,L1⟩ (KL m (Oa _)) (Z1.hy.ct m (Oa _)) Z1.names;have Z2:Zq h2 t m m X V Kx Ks ps none:=Z1.kp (L:=L) ⋯ KL nofun λi hi hn=>F1.fr i hi hn
 have la:=Z1.last;have i0:ao (pv Kx Ks m) (.int 0) h1=.ok (.ref (Ks m)) h1:=rfl;have ng:bh (.int 1) h1=.ok (.int (-1)) h1:=rfl;have r1:qG (.tup [5,6,7]) (au oX (ai (au iK (ai (aM (ai (aa 4) (ai (aa 3) af))) (ai (ae (.int 0)) af))) (ai (ah ao (ah ao (aa 2) (bZ bh (ae (.int 1)))) (ae (.int 0))) af))) (e8 cv (some (.int kk)) (some (.int c)) o5 o6 o7) h=.nx (e8 cv (some (.int kk)) (some (.int c)) (some deed) (some (.str due)) (some (.ref K'))) h2:=by
  generalize (-1:Int)=M1,pv Kx Ks m=PV,oX=G2,iK=G at *;simp[st,ng,la,i0,fd,-bh,-ao]
 by_cases hd:due=""
 ·subst hd
  obtain⟨x,oy,cc,nx,g,hc,lK,kd',ny⟩:=gd rfl;obtain⟨h3,h4,ps',X',V',Kx',Ks',wd,nu,eKs,i14,ap,Z5,len,_⟩:=Z2.deed g kd' (by have:=Z1.l14;lia) (Bq nx) ny ⋯ ht
  refine⟨h4,m+1,X',V',Kx',Ks',ps',some deed,some (.str ""),some (.ref K'),?_,Z5,by lia⟩
  unfold lR;refine bV (P:=λz=>z=_) r1 ?_
  unfold pv at ap;rw[eKs] at ap;have ne0:bS (.str "") (.str "") h3=.ok (.bl false) h3:=by simp
  have eq0:az (.str "") (.str "") h2=.ok (.bl true) h2:=by simp
  generalize dP (Kx' (m+1))=NS,fW=G2,cx=G at *;simp[eq0,wd,ne0,i14,nu,ap,-bP,-aZ,-az,-bS]
 ·refine⟨h2,m,X,V,Kx,Ks,ps,some deed,some (.str due),some (.ref K'),?_,Z2.up,by lia⟩
  unfold lR;refine bV (P:=λz=>z=_) r1 ?_
  have eq0:az (.str due) (.str "") h2=.ok (.bl false) h2:=by rw[MN,OB hd]
  simp[eq0,-az]
def BE(Z:Zq h t m m X V Kx Ks ps none)(cells:List Int)(ht:t+cells.length<=50){B:Nat}(hz:ps.length<=B)(hB:B+240040*cells.length<12000000) :
  ∃ h' m' X' V' Kx' Ks' ps',nA [.ref 0,.fl (cells.map AV.int),.ref 14] h=.ok (.bl true) h'/\Zq h' (t+cells.length) m' m' X' V' Kx' Ks' ps' none/\ps'.length<=B+240040*cells.length:=by
 obtain⟨e',h4,r4,q4⟩:=nG (w:=none) (all:=Sm.numbered 0 (cells.map AV.int)) (t:=.tup [3,4]) (b:=lR) (xs:=Sm.numbered 0 (cells.map AV.int)) (en:=e8 (some (.fl (cells.map AV.int))) none none none none none) (h:=h)
  (λj en hh=>j<=cells.length->∃ (m:Nat) (X:Nat->Str) (V:Nat->Option (Nat×Str)) (Kx:Nat->ZH) (Ks:Nat->Nat) (ps:List Pc) (o3 o4 o5 o6 o7:Option AV),en=e8 (some (.fl (cells.map AV.int))) o3 o4 o5 o6 o7/\Zq hh (t+j) m m X V Kx Ks ps none/\ps.length<=B+240040*j)
  (λ_=>⟨m,_,_,_,_,ps,_,_,_,_,_,rfl,Z,hz⟩) (λ_ _ _ _=>rfl) (by
   intro j u en hh hu hp;rw[Sm.numbered_get,OI] at hu;obtain⟨w,ev',rfl⟩:=Ow.mp hu
   obtain⟨c,ec,rfl⟩:=Ow.mp ev';have hj:j<cells.length:=(NZ.mp ec).1;obtain⟨m,X,V,Kx,Ks,ps,o3,o4,o5,o6,o7,rfl,Z,lp⟩:=hp ⋯;have lj:240040*j<=240040*cells.length:=Qn _ (Qz hj);obtain⟨h',m',X',V',Kx',Ks',ps',c5,c6,c7,e,Z',lp'⟩:=MO Z ⋯ ⋯ c ((0+j:Nat):Int) (some (.fl (cells.map AV.int))) o5 o6 o7;obtain⟨BB,hB⟩:∃ BB,BB=lR:=⟨_,rfl⟩
   rw[<- hB] at e ⊢;show thn (BB (e8 (some (.fl (cells.map AV.int))) (some (.int ((0+j:Nat):Int))) (some (.int c)) o5 o6 o7) hh) _
   rw[e];exactλ_=>⟨m',X',V',Kx',Ks',ps',_,_,c5,c6,c7,rfl,Z',xt lp lp'⟩)
 have nl:∀ (xs:List AV) (k:Nat),(Sm.numbered k xs).length=xs.length:=λxs=>by
  induction xs with
  |nil=>intro k;rfl
  |cons x xs ih=>intro k;simp[Sm.numbered,ih (k+1)]
 rw[nl,Oh] at q4;obtain⟨m',X',V',Kx',Ks',ps',o3,o4,o5,o6,o7,rfl,Z',lp⟩:=q4 (Oa _)
 refine⟨h4,m',X',V',Kx',Ks',ps',mf (P:=λo=>o=.ok (.bl true) h4) rfl ?_,Z',lp⟩
 refine bV (P:=λo=>fg o=.ok (.bl true) h4) ((nH (t:=.tup [3,4]) (b:=lR) (h1:=h) (w:=none) (xs:=Sm.numbered 0 (cells.map AV.int)) ?_).trans r4) rfl
 clear r4 q4;generalize cells.map AV.int=CS at *;simp
end
abbrev bJ(sc o3 o4 o5 o6 o7 o8 o9:Option AV):En:=[sc,some (.ref 0),some (.ref 14),o3,o4,o5,o6,o7,o8,o9]
section
variable{h:AH}{t M m:Nat}{X:Nat->Str}{V:Nat->Option (Nat×Str)}{Kx:Nat->ZH}{Ks:Nat->Nat}{ps:List Pc}{G:Option Nat}
def BF(Z:Zq h t M m X V Kx Ks ps G)(sc o3 o4 o5 o6 o7 o8 o9:Option AV):(aC (ah bS (au fW (ai (aa 1) af)) (ah ao (ah ao (aa 2) (bZ bh (ae (.int 1)))) (ae (.int 1))))) (bJ sc o3 o4 o5 o6 o7 o8 o9) h=.ok false h:=by
 have nu:=Z.nums;have la:=Z.last;have i1:ao (pv Kx Ks m) (.int 1) h=.ok (dP (Kx m)) h:=rfl;have eq:=Mo (Kx m) h;have ng:bh (.int 1) h=.ok (.int (-1)) h:=rfl;generalize (-1:Int)=M1,pv Kx Ks m=PV,dP (Kx m)=NS,fW=G at *;simp[nu,ng,la,i1,eq,-ao,-bS,-bh]
def MP{g:Nat}(Z:Zq h t M (r+1) X V Kx Ks ps (some g))(ht:t<=50)(sc o3 o4 o6 o7 o8 o9:Option AV):∃ h',nC (bJ sc o3 o4 (some (.ref g)) o6 o7 o8 o9) h=.nx (bJ sc o3 o4 (some (.ref g)) o6 o7 o8 o9) h'/\Zq h' t M r X V Kx Ks ps (some g)/\h'.length=h.length/\∀ i,14<i->i≠g->h'[i]?=h[i]?:=by
 obtain⟨h1,h2,h3,v,wd,pp,ap,l14,lg,lg',Z3,hl,fr⟩:=Z.back ht;refine⟨h3,?_,Z3,hl,fr⟩
 have ne0:bS (.str "") (.str "") h1=.ok (.bl false) h1:=by simp
 unfold nC;generalize cx=G at *;simp[wd,ne0,lg,l14,pp,ap,-bS,-bz,-bP,-aZ]
def MQ{g:Nat}(Z:Zq h t M m X V Kx Ks ps (some g))(hm:m<M)(ht:t<=50)(sc o3 o4 o6 o7 o8 o9:Option AV):∃ h',nE (bJ sc o3 o4 (some (.ref g)) o6 o7 o8 o9) h=.nx (bJ sc o3 o4 (some (.ref g)) o6 o7 o8 o9) h'/\Zq h' t M (m+1) X V Kx Ks ps (some g)/\h'.length=h.length/\∀ i,14<i->i≠g->h'[i]?=h[i]?:=by
 obtain⟨h1,h2,h3,v,wd,pp,ap,l14,lg,l14',Z3,hl,fr⟩:=Z.again hm ht;refine⟨h3,?_,Z3,hl,fr⟩
 have ne0:bS (.str "") (.str "") h1=.ok (.bl false) h1:=by simp
 have nu:=BF Z3 sc o3 o4 (some (.ref g)) o6 o7 o8 o9;unfold nE;refine cK (P:=λz=>z=_) (h1:=h1) ?_ (bV (P:=λz=>z=_) (e2:=bJ sc o3 o4 (some (.ref g)) o6 o7 o8 o9) (h2:=h3) ?_ ?_)
 ·generalize cx=G at *
  simp[wd,ne0,-bS]
 ·simp[lg,l14,pp,ap,-bz,-bP,-aZ]
 ·generalize (aC (ah bS (au fW (ai (aa 1) af)) (ah ao (ah ao (aa 2) (bZ bh (ae (.int 1)))) (ae (.int 1)))))=C at *
  simp only[aH,nu,Out.go,Og Ou]
  rfl
def MR(Z:Zq h t M (r+1) X V Kx Ks ps none)(ht:t<=50)(sc o3 o4 o5 o6 o7 o8 o9:Option AV):∃ h',nF (bJ sc o3 o4 o5 o6 o7 o8 o9) h=.nx (bJ sc o3 o4 o5 o6 o7 o8 o9) h'/\Zq h' t M r X V Kx Ks ps none:=by
 obtain⟨h1,h2,v,l14,pp,wd,Z2⟩:=Z.pop ht;refine⟨h2,?_,Z2⟩
 have nu:=BF Z sc o3 o4 o5 o6 o7 o8 o9;have sh:=MM Z;have la:=Z.last;have i0:ao (pv Kx Ks (r+1)) (.int 0) h=.ok (.ref (Ks (r+1))) h:=rfl;have ng:bh (.int 1) h=.ok (.int (-1)) h:=rfl;have ne0:bS (.str "") (.str "") h2=.ok (.bl false) h2:=by simp
 have c2:(cG (gA (au lT (ai (aa 1) (ai (ah ao (ah ao (aa 2) (bZ bh (ae (.int 1)))) (ae (.int 0))) af))))) (bJ sc o3 o4 o5 o6 o7 o8 o9) h=.ok false h:=by
  generalize (-1:Int)=M1,pv Kx Ks (r+1)=PV,lT=G at *;simp[ng,la,i0,sh,-ao,-bh]
 unfold nF;refine cK (P:=λz=>z=_) (h1:=h) ?_ (bV (P:=λz=>z=_) (e2:=bJ sc o3 o4 o5 o6 o7 o8 o9) (h2:=h1) ?_ ?_)
 ·generalize (cG (gA (au lT (ai (aa 1) (ai (ah ao (ah ao (aa 2) (bZ bh (ae (.int 1)))) (ae (.int 0))) af)))))=C2,(aC (ah bS (au fW (ai (aa 1) af)) (ah ao (ah ao (aa 2) (bZ bh (ae (.int 1)))) (ae (.int 1)))))=C at *;simp only[jZ,nu,c2,Out.bind]
  rfl
 ·simp[l14,pp,-bz,-aZ]
 ·generalize cx=G at *
  simp[wd,ne0,-bS]
def MS(Z:Zq h t M m X V Kx Ks ps G):cx [.ref 0,.tup [.str "drop",.str "none"]] h=.ok (.str "NoName") h/\cx [.ref 0,.tup [.str "give",.str "a",.str "\t"]] h=.ok (.str "NoText") h:=by
 obtain⟨kx,H,l⟩:=Z.ho;have ln:lk kx "none"=none:=by
  rw[l]
  cases e:lk (Kx m) "none" with
  |none=>rfl
  |some v=>exact absurd rfl (Z.nn m Z.mM _ (cJ e))
 refine⟨Mm ((Bi H _).trans (Mj H (Mi H 'd' ln))),Mn ((Bf H _ _).trans (Ml H ∅ ?_))⟩
 rw[vN _ h 'd'];rfl
end
def MT(nd:(kx.map (·.1)).Nodup){v w:Nat×Str}(l:lk kx x=some v)(e:w.2=v.2):(put kx x w).map (kG gS)=kx.map (kG gS):=by
 unfold put;rw[l,Of (show (some v).isSome=true from rfl),P3];refine Pm λq hq=>?_
 show kG gS (if q.1=x then(x,w) else q)=kG gS q
 by_cases z:q.1=x
 ·rw[Of z]
  have:=nO (x:=q.1) (v:=q.2) nd hq;rw[z,l] at this;have ev:v=q.2:=OG this
  show (AV.str x,AV.str w.2)=(AV.str q.1,AV.str q.2.2)
  rw[z,e,ev]
 ·rw[Og z]
abbrev qa(b:SS):SS:=(aj (aw 7 (au ip (ai (ah ao (ah ao (aa 2) (bZ bh (ae (.int 1)))) (ae (.int 0))) af)))
  (aj (aw 8 (aG (ai (ae (.str "give")) (ai (ae (.str "other")) (ai (au iL (ai (aa 3) (ai (ae (.int 20)) af))) af)))))
  (aj (aH (dS (aC (ah hU (aa 7) (fo false))) (aC (ah az (au aQ (ai (aa 3) (ai (ae (.int 3)) af))) (ae (.int 0))))) (aj (aw 9 (ah ao (g8 (aa 7)) (ae (.int 0))))
  (aw 8 (ah ao (aM (ai (aG (ai (ae (.str "copy_of")) (ai (aa 9) (ai (aa 9) af)))) (ai (aG (ai (ae (.str "repeat")) (ai (aa 9) (ai (ae (.int 1)) af)))) (ai (aG (ai (ae (.str "take_from")) (ai (aa 9) (ai (ae (.int 0)) (ai (ae (.int 0)) af))))) af)))) (au aQ (ai (aa 3) (ai (ae (.int 3)) af)))))) (fw (aa 7) (ae (.str "other")) (ah ao (aa 8) (ae (.int 2))))) b)))
def MU{t M m:Nat}{V:Nat->Option (Nat×Str)}{Ks:Nat->Nat}(Z:Zq h t M m X V Kx Ks ps none)(eL:h[L]?=some (.lst [.int N]))(lL:14<L)(KL:∀ j,j<=M->Ks j≠L)(sc o4 o5 o6:Option AV) :
  ∃ (h':AH) (K':Nat) (deed:AV) (x y:Str) (c:Nat) (o9:Option AV),h.length<=K'/\(∀ i,i<h.length->i≠L->h'[i]?=h[i]?)/\d6 x=true/\y.length<=300/\Gd (Kx m) deed x (some y) c/\c<=240000/\(∀ n,h'[K']?=some (.dct false ((upd (Kx m) x (some (n,y))).map (kG gS)))) /\
  ∀ b:SS,qa b (bJ sc (some (.ref L)) o4 o5 o6 none none none) h=b (bJ sc (some (.ref L)) o4 o5 o6 (some (.ref K')) (some deed) o9) h':=by
 have la:=Z.last;have i0:ao (pv Kx Ks m) (.int 0) h=.ok (.ref (Ks m)) h:=rfl;have ng:bh (.int 1) h=.ok (.int (-1)) h:=rfl;have l14:=Z.l14;have lL2:=bK eL;have dc:=xp (Z.ks m Z.mM).2.2;obtain⟨K',eK'⟩:∃ K',K'=h.length:=⟨_,rfl⟩
 obtain⟨h1,eh1⟩:∃ h1,h1=h++[AO.dct false ((Kx m).map (kG gS))]:=⟨_,rfl⟩
 rw[<- eh1,<- eK'] at dc;have e1:h1[K']?=some (.dct false ((Kx m).map (kG gS))):=by rw[eh1,eK'];simp
 have F1:Fr L h h1:=by rw[eh1];exact Fr.app ⟨λ_ _ _=>rfl,Oa _,N,eL⟩ _
 have KL':K'≠L:=by lia
 have ct:=Z.hy.ct m Z.mM;have nm:=Z.names;have n1:∀ e∈Kx m,cB e.1=true:=λe he=>mh (nm e he).1
 have nd:=Z.hy.nd m Z.mM;obtain⟨N1,eN1⟩:=F1.ro;obtain⟨y,N2,fp,py,ly,_⟩:=A3 20 'd' eN1;have F2:=F1.set N2;obtain⟨h2,eh2⟩:∃ h2,h2=h1.set L (.lst [.int N2]):=⟨_,rfl⟩
 have fp:iL [.ref L,.int 20] h1=.ok (.str y) h2:=by rw[eh2];exact fp
 rw[<- eh2] at F2;have e2:h2[K']?=some (.dct false ((Kx m).map (kG gS))):=by rw[eh2,N8 (Ne.symm KL')];exact e1
 obtain⟨D,eD⟩:∃ D,D=h2.length:=⟨_,rfl⟩
 obtain⟨h3,eh3⟩:∃ h3,h3=h2++[AO.dct false []]:=⟨_,rfl⟩
 have F3:Fr L h h3:=by rw[eh3];exact F2.app _
 have lK2:=bK e2;have e3:h3[K']?=some (.dct false ((Kx m).map (kG gS))):=by rw[eh3,Oj lK2];exact e2
 have eD3:h3[D]?=some (.dct false []):=by rw[eh3,eD];simp
 have nk:hU (.ref K') (.ref D) h3=.ok (.bl (!(Kx m).isEmpty)) h3:=by
  simp only[hU,e3,eD3]
  congr 2
  cases Kx m<;>rfl
 have s1:∀ b:SS,aj (aw 7 (au ip (ai (ah ao (ah ao (aa 2) (bZ bh (ae (.int 1)))) (ae (.int 0))) af))) b (bJ sc (some (.ref L)) o4 o5 o6 none none none) h=b (bJ sc (some (.ref L)) o4 o5 o6 (some (.ref K')) none none) h1:=λb=>by
  generalize ip=G,(-1:Int)=M1,pv Kx Ks m=PV at *;simp[ng,la,i0,dc,-ao,-bh]
 have s2:∀ b:SS,aj (aw 8 (aG (ai (ae (.str "give")) (ai (ae (.str "other")) (ai (au iL (ai (aa 3) (ai (ae (.int 20)) af))) af))))) b (bJ sc (some (.ref L)) o4 o5 o6 (some (.ref K')) none none) h1=b (bJ sc (some (.ref L)) o4 o5 o6 (some (.ref K')) (some (.tup [.str "give",.str "other",.str y])) none) h2:=λb=>by
  generalize iL=G at *;simp[fp]
 have cN:(aC (ah hU (aa 7) (fo false))) (bJ sc (some (.ref L)) o4 o5 o6 (some (.ref K')) (some (.tup [.str "give",.str "other",.str y])) none) h2=.ok (!(Kx m).isEmpty) h3:=by
  have sd:fo false (bJ sc (some (.ref L)) o4 o5 o6 (some (.ref K')) (some (.tup [.str "give",.str "other",.str y])) none) h2=.ok (.ref D) h3:=by rw[eD,eh3];rfl
  generalize (!(Kx m).isEmpty)=bk,fo false=SD at *;simp[sd,nk]
 have other:∀ {h4:AH},Fr L h h4->h4[K']?=some (.dct false ((Kx m).map (kG gS)))->(dS (aC (ah hU (aa 7) (fo false))) (aC (ah az (au aQ (ai (aa 3) (ai (ae (.int 3)) af))) (ae (.int 0))))) (bJ sc (some (.ref L)) o4 o5 o6 (some (.ref K')) (some (.tup [.str "give",.str "other",.str y])) none) h2=.ok false h4 ->
   ∃ (h':AH) (K':Nat) (deed:AV) (x y:Str) (c:Nat) (o9:Option AV),h.length<=K'/\(∀ i,i<h.length->i≠L->h'[i]?=h[i]?)/\d6 x=true/\y.length<=300/\Gd (Kx m) deed x (some y) c/\c<=240000/\(∀ n,h'[K']?=some (.dct false ((upd (Kx m) x (some (n,y))).map (kG gS)))) /\
   ∀ b:SS,qa b (bJ sc (some (.ref L)) o4 o5 o6 none none none) h=b (bJ sc (some (.ref L)) o4 o5 o6 (some (.ref K')) (some deed) o9) h':=λ{h4} F4 e4 c4=>by
  refine⟨h4.set K' (.dct false ((put (Kx m) "other" (0,y)).map (kG gS))),K',.tup [.str "give",.str "other",.str y], "other",y,2*y.length,none,by lia,λi hi n=>?_,by decide +kernel,by lia,.give ∅ py ⋯,by lia,λn=>?_,λb=>?_⟩
  ·rw[N8 ⋯];exact F4.fr i hi n
  ·rw[Ob (bK e4)]
   show some (AO.dct false ((put (Kx m) "other" (0,y)).map (kG gS)))=some (.dct false ((put (Kx m) "other" (n,y)).map (kG gS)))
   rw[<- l9,<- l9]
  ·unfold qa;rw[s1,s2]
   have st:fw (aa 7) (ae (.str "other")) (ah ao (aa 8) (ae (.int 2))) (bJ sc (some (.ref L)) o4 o5 o6 (some (.ref K')) (some (.tup [.str "give",.str "other",.str y])) none) h4=.nx (bJ sc (some (.ref L)) o4 o5 o6 (some (.ref K')) (some (.tup [.str "give",.str "other",.str y])) none) (h4.set K' (.dct false ((put (Kx m) "other" (0,y)).map (kG gS)))):=by
    have i2:ao (.tup [.str "give",.str "other",.str y]) (.int 2) h4=.ok (.str y) h4:=rfl;have sz:((Kx m).map (kG gS)).length<sizeLine:=by rw[Oh];exact Ol ct 'd'
    have k1:dW false (.str "other")=true:=rfl;have pk:=l9 gS (Kx m) "other" (0,y);have pk:d9 ((Kx m).map (kG gS)) (.str "other") (.str y)=(put (Kx m) "other" (0,y)).map (kG gS):=pk;generalize (put (Kx m) "other" (0,y)).map (kG gS)=kv2,(Kx m).map (kG gS)=kv at *;simp[i2,e4,k1,sz,pk,-ao,-dW]
   generalize (dS (aC (ah hU (aa 7) (fo false))) (aC (ah az (au aQ (ai (aa 3) (ai (ae (.int 3)) af))) (ae (.int 0)))))=C at *;simp only[aj,aH,c4,Out.go,Og Ou,st]
 cases eK:(Kx m).isEmpty with
 |true =>
  rw[eK] at cN;refine other F3 e3 ?_
  generalize aC (ah hU (aa 7) (fo false))=C at *;simp only[dS,cN,Out.bind]
  rfl
 |false =>
  rw[eK] at cN;obtain⟨d3,N3,hd3,t3,F4⟩:=F3.take 3 'd' 'd'
  have t3:aQ [.ref L,.int 3] h3=.ok (.int d3) (h3.set L (.lst [.int N3])):=t3;obtain⟨h4,eh4⟩:∃ h4,h4=h3.set L (.lst [.int N3]):=⟨_,rfl⟩
  rw[<- eh4] at t3 F4;have e4:h4[K']?=some (.dct false ((Kx m).map (kG gS))):=by rw[eh4,N8 (Ne.symm KL')];exact e3
  have cA:(dS (aC (ah hU (aa 7) (fo false))) (aC (ah az (au aQ (ai (aa 3) (ai (ae (.int 3)) af))) (ae (.int 0))))) (bJ sc (some (.ref L)) o4 o5 o6 (some (.ref K')) (some (.tup [.str "give",.str "other",.str y])) none) h2=.ok (decide (d3=0)) h4:=by
   have c2:(aC (ah az (au aQ (ai (aa 3) (ai (ae (.int 3)) af))) (ae (.int 0)))) (bJ sc (some (.ref L)) o4 o5 o6 (some (.ref K')) (some (.tup [.str "give",.str "other",.str y])) none) h3=.ok (decide (d3=0)) h4:=by
    have:((d3:Int)=0)=(d3=0):=by simp
    generalize aQ=G at *;simp[t3,this]
   generalize (aC (ah az (au aQ (ai (aa 3) (ai (ae (.int 3)) af))) (ae (.int 0))))=C2,aC (ah hU (aa 7) (fo false))=C at *;simp only[dS,cN,Out.bind]
   show (if (!false)=true then C2 _ h3 else _)=_
   rw[Of (show (!false)=true from rfl),c2]
  by_cases q3:d3=0
  ·rw[OM q3] at cA
   obtain⟨W,eW⟩:∃ W,W=dD ((Kx m).map (·.1)):=⟨_,rfl⟩
   have so:=sQ e4 ct n1;rw[<- eW] at so;have w0:0<W.length:=by
    rw[eW,(fK _).length_eq,Oh]
    cases q:Kx m with
    |nil=>rw[q] at eK;cases eK
    |cons a b=>simp
   obtain⟨x,ex⟩:∃ x,W[0]?=some x:=⟨_,On w0⟩
   obtain⟨v,lv⟩:=sP ((fK _).mem_iff.mp (by rw[<- eW];exact OE ex))
   have nx:=(nm _ (cJ lv)).1;have lyv:v.2.length<=300:=(nm _ (cJ lv)).2;obtain⟨d5,N5,hd5,t5,F5⟩:=F4.take 3 'd' 'd';have t5:aQ [.ref L,.int 3] h4=.ok (.int d5) (h4.set L (.lst [.int N5])):=t5;obtain⟨h5,eh5⟩:∃ h5,h5=h4.set L (.lst [.int N5]):=⟨_,rfl⟩
   rw[<- eh5] at t5 F5;have e5:h5[K']?=some (.dct false ((Kx m).map (kG gS))):=by rw[eh5,N8 (Ne.symm KL')];exact e4
   obtain⟨deed,c,gd,hc,ed⟩:∃ (deed:AV) (c:Nat),Gd (Kx m) deed x (some v.2) c/\c<=240000/\ao (.fl [.tup [.str "copy_of",.str x,.str x],.tup [.str "repeat",.str x,.int 1],.tup [.str "take_from",.str x,.int 0,.int 0]]) (.int (d5:Int)) h5=.ok deed h5:=by
    have:d5=0\/d5=1\/d5=2:=by lia
    rcases this with rfl|rfl|rfl
    ·exact⟨_,_,.copy (mh nx) lv,by decide,rfl⟩
    ·have:=Gd.rep (k:=1) lv 'd' ⋯
     rw[sI] at this;exact⟨_,_,this,by decide,rfl⟩
    ·have:=Gd.take (a:=0) (b:=0) lv (Oa _) (OH _) ⋯
     rw[pT,pU,show ("" : Str)++v.2=v.2 from cz (by rw[dq];rfl)] at this;exact⟨_,_,this,by decide,rfl⟩
   refine⟨h5,K',deed,x,v.2,c,some (.str x),by lia,F5.fr,nx,lyv,gd,hc,λn=>?_,λb=>?_⟩
   ·rw[e5]
    show _=some (AO.dct false ((put (Kx m) x (n,v.2)).map (kG gS)))
    rw[MT (w:=(n,v.2)) nd lv rfl]
   ·unfold qa;rw[s1,s2]
    have ix0:ao (.fl (W.map AV.str)) (.int 0) h4=.ok (.str x) h4:=nR (i:=0) (by rw[OI,ex];rfl) h4
    have so:g8 (aa 7) (bJ sc (some (.ref L)) o4 o5 o6 (some (.ref K')) (some (.tup [.str "give",.str "other",.str y])) none) h4=.ok (.fl (W.map AV.str)) h4:=so;have s9:(aj (aw 9 (ah ao (g8 (aa 7)) (ae (.int 0)))) (aw 8 (ah ao (aM (ai (aG (ai (ae (.str "copy_of")) (ai (aa 9) (ai (aa 9) af)))) (ai (aG (ai (ae (.str "repeat")) (ai (aa 9) (ai (ae (.int 1)) af)))) (ai (aG (ai (ae (.str "take_from")) (ai (aa 9) (ai (ae (.int 0)) (ai (ae (.int 0)) af))))) af)))) (au aQ (ai (aa 3) (ai (ae (.int 3)) af)))))) (bJ sc (some (.ref L)) o4 o5 o6 (some (.ref K')) (some (.tup [.str "give",.str "other",.str y])) none) h4=.nx (bJ sc (some (.ref L)) o4 o5 o6 (some (.ref K')) (some deed) (some (.str x))) h5:=by
     generalize (d5:Int)=D5,aQ=G,g8 (aa 7)=SK,W.map AV.str=WS at *;simp[so,ix0,t5,ed,-ao]
    generalize (aj (aw 9 (ah ao (g8 (aa 7)) (ae (.int 0)))) (aw 8 (ah ao (aM (ai (aG (ai (ae (.str "copy_of")) (ai (aa 9) (ai (aa 9) af)))) (ai (aG (ai (ae (.str "repeat")) (ai (aa 9) (ai (ae (.int 1)) af)))) (ai (aG (ai (ae (.str "take_from")) (ai (aa 9) (ai (ae (.int 0)) (ai (ae (.int 0)) af))))) af)))) (au aQ (ai (aa 3) (ai (ae (.int 3)) af))))))=B9,(dS (aC (ah hU (aa 7) (fo false))) (aC (ah az (au aQ (ai (aa 3) (ai (ae (.int 3)) af))) (ae (.int 0)))))=C at *;show aj (aH C B9 _) b _ _=_
    simp only[aj,aH,cA,Out.go,PM,s9]
  ·rw[OB q3] at cA
   exact other F4 e4 cA
def xu(l:List AV)(a b:Nat)(h:AH):dh (.fl l) (some (a:Int)) (some (b:Int)) h=.ok (.fl ((l.take b).drop a)) h:=by
 simp only[dh]
 congr 2
 unfold dX;rw[HT.sIx_nat,HT.sIx_nat,<- List.drop_take];by_cases q:b<=l.length
 ·rw[Pn q]
  by_cases r:a<=l.length
  ·rw[Pn r]
  ·rw[Qk ⋯,P7 (by rw[OX];lia),P7 (by rw[OX];lia)]
 ·rw[Qk (show l.length<=b by lia),OQ (Oa _),OQ (show l.length<=b by lia)]
  by_cases r:a<=l.length
  ·rw[Pn r]
  ·rw[Qk ⋯,P7 (Oa _),P7 ⋯]
def xw(l:List AV)(k:Nat)(h:AH):dh (.fl l) none (some (k:Int)) h=.ok (.fl (l.take k)) h:=by
 simp only[dh]
 congr 2
 unfold dX;rw[HT.sIx_nat,HT.sIx_none];show (l.drop 0).take (min k l.length-0)=_
 rw[R6,Nat.sub_zero];by_cases q:k<=l.length
 ·rw[Pn q]
 ·rw[Qk ⋯,OQ (Oa _),OQ ⋯]
def MV{t m:Nat}{V:Nat->Option (Nat×Str)}{Ks:Nat->Nat}(Z:Zq h t m m X V Kx Ks ps none)(ht:t<=50)(sc o3 o4 o5 o6 o7 o8 o9:Option AV):∃ h',aj (ig (aC (ah dN (au aI (ai (aa 2) af)) (ae (.int 1)))) nF rm) (aq (jr (ah az (aD 1 iw (aa 1) af) (aM af)) (ah az (au cx (ai (aa 1) (ai (aG (ai (ae (.str "back")) af)) af))) (ae (.str "NothingDone"))))) (bJ sc o3 o4 o5 o6 o7 o8 o9) h=.rt (.bl true) h':=by
 have Mt:=Z.Mt;obtain⟨e',h',rw1,rfl,M,Z0⟩:=J6 (c:=aC (ah dN (au aI (ai (aa 2) af)) (ae (.int 1)))) (b:=nF) (fuel:=rm) (n:=m) (en:=bJ sc o3 o4 o5 o6 o7 o8 o9) (h:=h)
  (λr en hh=>en=bJ sc o3 o4 o5 o6 o7 o8 o9/\∃ M,Zq hh t M r X V Kx Ks ps none) (λen hh=>en=bJ sc o3 o4 o5 o6 o7 o8 o9/\∃ M,Zq hh t M 0 X V Kx Ks ps none) ⟨rfl,m,Z⟩ (Ol (m:=50) ⋯ 'd') (by
   rintro r en hh ⟨rfl,M,Z⟩
   have ln:=Z.len;have g:dN (.int ((r+1:Nat):Int)) (.int 1) hh=.ok (.bl (decide (0<r))) hh:=by
    have:decide ((1:Int)<((r+1:Nat):Int))=decide (0<r):=decide_eq_decide.mpr ⋯
    simp only[dN,this]
   have c:(aC (ah dN (au aI (ai (aa 2) af)) (ae (.int 1)))) (bJ sc o3 o4 o5 o6 o7 o8 o9) hh=.ok (decide (0<r)) hh:=by
    generalize ((r+1:Nat):Int)=R1,decide (0<r)=bk at *;simp[ln,g,-dN,-aI]
   rw[c]
   cases r with
   |zero=>exact⟨rfl,M,Z⟩
   |succ r =>
    obtain⟨h2,e,Z2⟩:=MR Z ht sc o3 o4 o5 o6 o7 o8 o9;rw[OM (QU r)];show thn (nF (bJ sc o3 o4 o5 o6 o7 o8 o9) hh) _
    rw[e];exact⟨r,PX r,rfl,M,Z2⟩)
 refine⟨h',bV (P:=λz=>z=_) rw1 ?_⟩
 obtain⟨kx,H,l⟩:=Z0.ho;have ob:=H.ob;have k0:kx=[]:=by
  have:=pY H.nd (Z0.hy.nd 0 (OH _)) l;rw[Z0.z0] at this;exact Ph.mp this
 have fn:=xh H;rw[k0,show (dD (([]:ZH).map (·.1))).map AV.str=[] from rfl] at fn;have eq:az (.fl []) (.fl []) h'=.ok (.bl true) h':=Br [] h'
 have wd:=Bj ((xa H).trans (LU H));have eq2:az (.str "NothingDone") (.str "NothingDone") h'=.ok (.bl true) h':=by simp
 generalize iw=G2,cx=G at *;simp[ob,fn,eq,wd,eq2,-az]
def law_true(ns:List Int)(hl:ns.length<=63):∃ h',vK [.fl (ns.map AV.int)] []=.ok (.bl true) h':=by
 obtain⟨sc,esc⟩:∃ sc:Option AV,sc=some (.fl (ns.map AV.int)):=⟨_,rfl⟩
 obtain⟨h0,eh0⟩:∃ h0:AH,h0=.ins 1 [some (.ref 1),some (.ref 10),some (.ref 11),some (.ref 12)]::(rY 1++[.dct false [],.lst [],.lst []]):=⟨_,rfl⟩
 have mk:mJ 1 4 m8 af [sc,none,none,none,none,none,none,none,none,none] []=.ok (.ref 0) h0:=by rw[eh0];exact LI _ []
 have H0:Ho h0 0 1 10 [] [] [] []:=by
  rw[eh0];exact⟨rfl,Kp [.ins 1 [some (.ref 1),some (.ref 10),some (.ref 11),some (.ref 12)]] [AO.dct false [],.lst [],.lst []],.nil,rfl,rfl,rfl,nofun,⟨by decide,by decide⟩,by decide,Qe⟩
 have l0:h0.length=13:=by rw[eh0];rfl
 obtain⟨h1,eh1⟩:∃ h1,h1=h0++[AO.dct false [],.lst [.tup [.ref 13,.fl []]]]:=⟨_,rfl⟩
 have H1:Ho h1 0 1 10 [] [] [] []:=by rw[eh1];exact H0.app _
 have at1:∀ i,h1[13+i]?=([AO.dct false [],.lst [.tup [.ref 13,.fl []]]]:AH)[i]?:=λi=>by
  rw[eh1,Oy ⋯,l0,show 13+i-13=i by lia]
 have n0:dP []=.fl []:=rfl;have Z1:Zq h1 0 0 0 (λ_ => "") (λ_=>none) (λ_=>[]) (λ_=>13) [] none:=⟨⟨λ_ _=>Qe,λ_ _=>OH _,λ_ _=>nofun,λj hj=>absurd hj (Pg _)⟩,⟨[],H1,λ_=>rfl⟩,Oa _,Oa _,
  (at1 1).trans (by rw[show (List.range (0+1)).map (pv (λ_=>[]) λ_=>13)=[AV.tup [.ref 13,dP []]] from rfl,n0];rfl),nofun,λ_ _=>⟨.inl rfl,nofun,at1 0⟩,λ_ _=>⟨nofun,Oa _⟩,λ_ _=>nofun,rfl⟩
 obtain⟨c1,ec1⟩:∃ c1:List Int,c1=ns.take 20++[0,1,2]:=⟨_,rfl⟩
 have lc1:c1.length<=23:=by rw[ec1,OP,OX];show min 20 ns.length+3<=23;lia
 obtain⟨c2,ec2⟩:∃ c2:List Int,c2=(ns.take 40).drop 20:=⟨_,rfl⟩
 have lc2:c2.length<=20:=by rw[ec2,Pq,OX];lia
 have B1:240040*c1.length<=240040*23:=Qn _ lc1;have B2:240040*c2.length<=240040*20:=Qn _ lc2;obtain⟨h2,M,X,V,Kx,Ks,ps,run1,Z2,lp⟩:=BE Z1 c1 ⋯ (B:=0) (Oa _) ⋯;rw[RG] at Z2 lp;obtain⟨N,st⟩:=A0 ns hl 1 'd' h2
 obtain⟨L,eL⟩:∃ L,L=h2.length:=⟨_,rfl⟩
 obtain⟨h3,eh3⟩:∃ h3,h3=h2++[AO.lst [.int N]]:=⟨_,rfl⟩
 have st:iK [.fl (ns.map AV.int),.int 1] h2=.ok (.ref L) h3:=by rw[eL,eh3];exact st
 have KL:∀ j,j<=M->Ks j≠L:=λj hj z=>by have:=Z2.kl j hj;lia
 have l14:=Z2.l14;have Z3:Zq h3 c1.length M M X V Kx Ks ps none:=Z2.kp (L:=L) ⋯ KL nofun λi hi _=>by rw[eh3,Oj hi]
 have L3:h3[L]?=some (.lst [.int N]):=by rw[eh3,eL];simp
 obtain⟨mn,N4,hmn,t4⟩:=nL (M+1) L3 (QU _) (Oc (show M+1<=51 by have:=Z2.Mt;lia) 'd')
 obtain⟨h4,eh4⟩:∃ h4,h4=h3.set L (.lst [.int N4]):=⟨_,rfl⟩
 have t4:aQ [.ref L,.int ((M+1:Nat):Int)] h3=.ok (.int mn) h4:=by rw[eh4];exact t4
 have Z4:Zq h4 c1.length M M X V Kx Ks ps none:=Z3.kp (L:=L) ⋯ KL nofun λi _ hi=>by rw[eh4];exact N8 (Ne.symm hi)
 have L4:h4[L]?=some (.lst [.int N4]):=by rw[eh4];exact Ob (bK L3)
 have n4:h4.length=L+1:=by rw[eh4,OO,eh3,OP,eL];rfl
 obtain⟨g,eg⟩:∃ g,g=L+1:=⟨_,rfl⟩
 obtain⟨h5,eh5⟩:∃ h5,h5=h4++[AO.lst []]:=⟨_,rfl⟩
 have n5:h5.length=L+2:=by rw[eh5,OP,n4];rfl
 have k5:∀ i,i<h4.length->h5[i]?=h4[i]?:=λi hi=>by rw[eh5,Oj hi]
 have L5:h5[L]?=some (.lst [.int N4]):=(k5 L ⋯).trans L4;have Z5a:=Z4.kp (h':=h5) (L:=g) ⋯ (λj hj z=>by have:=Z4.kl j hj;lia) nofun λi hi _=>k5 i hi
 have Z5:Zq h5 c1.length M M X V Kx Ks ps (some g):=⟨Z5a.hy,Z5a.ho,Z5a.mM,Z5a.Mt,Z5a.pa,λg' e=>by
  cases e
  refine⟨by lia,?_⟩
  rw[eh5,Oy ⋯,show g-h4.length=0 by lia,SZ];rfl,λj hj=>⟨(Z5a.ks j hj).1,λg' e=>by cases e;have:=Z4.kl j hj;lia,(Z5a.ks j hj).2.2⟩,Z5a.nl,Z5a.nn,Z5a.z0⟩
 have mM:mn<=M:=by lia
 have m50:M<=50:=by have:=Z2.Mt;lia
 have tb:c1.length<=50:=by lia
 obtain⟨e6,h6,r6,o6,rfl,Z6,L6,n6⟩:=nG (w:=none) (all:=dz 0 mn) (t:=.nm 6) (b:=nC) (xs:=dz 0 mn) (en:=bJ sc (some (.ref L)) (some (.int mn)) (some (.ref g)) none none none none) (h:=h5)
  (λj en hh=>∃ o6,en=bJ sc (some (.ref L)) (some (.int mn)) (some (.ref g)) o6 none none none/\Zq hh c1.length M (M-j) X V Kx Ks ps (some g)/\hh[L]?=some (.lst [.int N4])/\hh.length=L+2) ⟨none,rfl,Z5,L5,n5⟩ (λ_ _ _ _=>rfl) (by
   rintro j u en hh hu ⟨o6,rfl,Z,e,n⟩
   have hj:j<mn:=by have:=(NZ.mp hu).1;rwa[lU] at this
   rw[show M-j=(M-(j+1))+1 by lia] at Z;obtain⟨h',eb,Z',hl',fr⟩:=MP Z tb sc (some (.ref L)) (some (.int mn)) (some u) none none none;obtain⟨BB,hB⟩:∃ BB,BB=nC:=⟨_,rfl⟩
   rw[<- hB] at eb ⊢;show thn (BB (bJ sc (some (.ref L)) (some (.int mn)) (some (.ref g)) (some u) none none none) hh) _
   rw[eb];exact⟨_,rfl,Z',(fr L ⋯ ⋯).trans e,hl'.trans n⟩)
 rw[lU] at Z6;obtain⟨w1,w2⟩:=MS Z6
 obtain⟨n2,N7,hn2,t7⟩:=nL (mn+1) L6 (QU _) (Oc (show mn+1<=51 by have:=Z2.Mt;lia) 'd')
 obtain⟨h7,eh7⟩:∃ h7,h7=h6.set L (.lst [.int N7]):=⟨_,rfl⟩
 have t7:aQ [.ref L,.int ((mn+1:Nat):Int)] h6=.ok (.int n2) h7:=by rw[eh7];exact t7
 have Z7:Zq h7 c1.length M (M-mn) X V Kx Ks ps (some g):=Z6.kp (L:=L) ⋯ KL (λg' e=>by cases e;lia) λi _ hi=>by rw[eh7];exact N8 (Ne.symm hi)
 have L7:h7[L]?=some (.lst [.int N7]):=by rw[eh7];exact Ob (bK L6)
 obtain⟨e8,h8,r8,o6',rfl,Z8,L8⟩:=nG (w:=none) (all:=dz 0 n2) (t:=.nm 6) (b:=nE) (xs:=dz 0 n2) (en:=bJ sc (some (.ref L)) (some (.int mn)) (some (.ref g)) o6 none none none) (h:=h7)
  (λj en hh=>∃ o6,en=bJ sc (some (.ref L)) (some (.int mn)) (some (.ref g)) o6 none none none/\Zq hh c1.length M (M-mn+j) X V Kx Ks ps (some g)/\hh[L]?=some (.lst [.int N7])) ⟨o6,rfl,Z7,L7⟩ (λ_ _ _ _=>rfl) (by
   rintro j u en hh hu ⟨o6,rfl,Z,e⟩
   have hj:j<n2:=by have:=(NZ.mp hu).1;rwa[lU] at this
   obtain⟨h',eb,Z',_,fr⟩:=MQ Z ⋯ tb sc (some (.ref L)) (some (.int mn)) (some u) none none none;obtain⟨BB,hB⟩:∃ BB,BB=nE:=⟨_,rfl⟩
   rw[<- hB] at eb ⊢;show thn (BB (bJ sc (some (.ref L)) (some (.int mn)) (some (.ref g)) (some u) none none none) hh) _
   rw[eb];exact⟨_,rfl,Z',(fr L ⋯ ⋯).trans e⟩)
 rw[lU] at Z8;obtain⟨m,em⟩:∃ m,m=M-mn+n2:=⟨_,rfl⟩
 rw[<- em] at Z8;have Z8:=Z8.drop
 obtain⟨h9,K',deed,x,y,c,o9,lK,fr9,nx,ly,gd,hc,ek,row⟩:=MU Z8 L8 ⋯ KL sc (some (.int mn)) (some (.ref g)) o6';have Z9:Zq h9 c1.length M m X V Kx Ks ps none:=Z8.kp (L:=L) ⋯ KL nofun fr9;have l8:=Z8.l14;obtain⟨h10,h11,ps',X',V',Kx',Ks',wd,nu,eKs,i14,ap,Z11,lp',_⟩:=Z9.deed gd (λo eo=>by
  obtain⟨n,y',rfl⟩:∃ n y',o=some (n,y'):=by
   cases o with
   |none=>cases eo
   |some v=>exact⟨v.1,v.2,rfl⟩
  cases eo
  exact ek n) ⋯ (Bq nx) (λy' e=>by cases e;exact ly) ⋯ ⋯
 obtain⟨kx11,H11,_⟩:=Z11.ho;rw[SZ] at H11;have ag:=Bj ((By H11).trans (LV H11))
 obtain⟨h12,m12,X12,V12,Kx12,Ks12,ps12,run2,Z12,lp12⟩:=BE Z11 c2 ⋯ (B:=240040*24) ⋯ ⋯;obtain⟨h13,mz⟩:=MV Z12 ⋯ sc (some (.ref L)) (some (.int mn)) (some (.ref g)) o6' (some (.ref K')) (some deed) o9;have sl:min 20 ns.length+3<=sizeLine:=Oc (m:=43) ⋯ 'd';have ct:dh (.fl (ns.map AV.int)) none (some 20) h1=.ok (.fl ((ns.map AV.int).take 20)) h1:=xw _ 20 h1;have ad:aB (.fl ((ns.map AV.int).take 20)) (.fl [.int 0,.int 1,.int 2]) h1=.ok (.fl (c1.map AV.int)) h1:=by
  have q:((ns.map AV.int).take 20).length+[AV.int 0,.int 1,.int 2].length<=sizeLine:=by rw[OX,Oh];exact sl
  show (if ((ns.map AV.int).take 20).length+[AV.int 0,.int 1,.int 2].length<=sizeLine then Out.ok (AV.fl ((ns.map AV.int).take 20++[AV.int 0,.int 1,.int 2])) h1 else .bad)=_
  rw[Of q,ec1,OS,SA];rfl
 have ct2:dh (.fl (ns.map AV.int)) (some 20) (some 40) h11=.ok (.fl (c2.map AV.int)) h11:=by
  have:=xu (ns.map AV.int) 20 40 h11;rw[<- SA,<- List.map_drop,<- ec2] at this;exact this
 have ln:=Z3.len;have ad7:aB (.int (mn:Int)) (.int 1) h6=.ok (.int ((mn+1:Nat):Int)) h6:=wZ rfl h6;unfold vK;refine mf (P:=λo=>∃ h',o=.ok (.bl true) h') rfl ?_
 obtain⟨PP,ePP⟩:∃ PP:OutS->Prop,PP=λo=>∃ h',fg o=.ok (.bl true) h':=⟨_,rfl⟩
 have toP:∀ o,PP o->∃ h',fg o=.ok (.bl true) h':=λo z=>by rw[ePP] at z;exact z
 have ofP:∀ h',PP (.rt (.bl true) h'):=λh'=>by rw[ePP];exact⟨h',rfl⟩
 clear ePP;refine toP _ ?_
 have e0:([AV.fl (ns.map AV.int)].map some++List.replicate (10-[AV.fl (ns.map AV.int)].length) none:En)=[sc,none,none,none,none,none,none,none,none,none]:=by rw[esc];rfl
 have e0:([AV.fl (ns.map AV.int)].map some++List.replicate (10-1) none:En)=[sc,none,none,none,none,none,none,none,none,none]:=e0;rw[e0];refine bf (v:=.ref 0) (h2:=h0) ?_ ?_
 ·generalize mJ 1 4 m8 af=MK at *
  exact mk
 refine bf (v:=.ref 14) (h2:=h1) ?_ ?_
 ·rw[eh1,<- l0];simp[l0]
 refine cK (h1:=h2) ?_ ?_
 ·rw[esc]
  generalize c1.map AV.int=CS,ns.map AV.int=NS at *;generalize nA=G,NS.take 20=NT at *;simp[ct,ad,run1,-dh,-aB]
 refine bf (v:=.ref L) (h2:=h3) ?_ ?_
 ·rw[esc]
  exact st
 refine bf (v:=.int mn) (h2:=h4) ?_ ?_
 ·generalize ((M+1:Nat):Int)=M1,aQ=G at *;simp[ln,t4,-aI]
 refine bf (v:=.ref g) (h2:=h5) ?_ ?_
 ·rw[eh5,eg,<- n4];simp
 refine bV ((nH (t:=.nm 6) (b:=nC) (h1:=h5) (w:=none) (xs:=dz 0 mn) (rR 's' ⋯)).trans r6) ?_
 refine cK (h1:=h6) ?_ ?_
 ·have n1:bS (.str "NoName") (.str "NoName") h6=.ok (.bl false) h6:=by simp
  have n2:bS (.str "NoText") (.str "NoText") h6=.ok (.bl false) h6:=by simp
  generalize cx=G at *;simp[w1,w2,n1,n2,-bS]
 refine bV ((nH (t:=.nm 6) (b:=nE) (h1:=h7) (w:=none) (xs:=dz 0 n2) (rR (n:=n2) (by generalize ((mn+1:Nat):Int)=M1,aQ=G at *;simp[ad7,t7,-aB]) ⋯)).trans r8) ?_
 have row2:=row;unfold qa at row2;refine Eq.mpr (congrArg PP (row2 _)) ?_
 refine cK (h1:=h10) ?_ ?_
 ·have n1:bS (.str "") (.str "") h10=.ok (.bl false) h10:=by simp
  generalize cx=G at *;simp[wd,n1,-bS]
 refine bV (e2:=bJ sc (some (.ref L)) (some (.int mn)) (some (.ref g)) o6' (some (.ref K')) (some deed) o9) (h2:=h11) ?_ ?_
 ·unfold pv at ap
  rw[eKs] at ap;generalize dP (Kx' (m+1))=NS,fW=G at *;simp[i14,nu,ap,-bP,-aZ]
 refine cK (h1:=h12) ?_ ?_
 ·have n1:bS (.str "NothingDone") (.str "NothingDone") h11=.ok (.bl false) h11:=by simp
  rw[esc];generalize cx=G2,nA=G,c2.map AV.int=CS,ns.map AV.int=NS at *;simp[ag,n1,ct2,run2,-dh,-bS]
 rw[mz];exact ofP _
def sX:bootBuiltins "sorted"=some (.builtin "sorted"):=by decide +kernel
def aR(i:Nat):Stmt:=PySem.Challenge.pw_skeinwood_k82_otherwise.main.body.getD i (.Pass ⟨0,0,0,0⟩)
abbrev BG:Stmt:=cL (aR 22) 0
abbrev xx:Stmt:=cL (aR 46) 0
abbrev BH:Stmt:=aR 49
abbrev BI:Stmt:=aR 50
abbrev BJ:Stmt:=aR 51
abbrev xy:Stmt:=aR 56
abbrev BK:Stmt:=aR 52
abbrev xA:Stmt:=aR 57
abbrev xB:Stmt:=aR 58
abbrev xC:Stmt:=aR 59
abbrev xD:Stmt:=cL (aR 46) 14
abbrev BM:Stmt:=cL (aR 46) 11
abbrev BN:Stmt:=aR 18
abbrev BO:Stmt:=aR 47
abbrev xE:Stmt:=cL (aR 46) 13
abbrev BP:Stmt:=aR 14
abbrev BQ:Stmt:=cL (aR 22) 11
abbrev BR:Stmt:=cL (aR 22) 12
abbrev BS:Stmt:=cL (aR 22) 14
abbrev BU:Stmt:=cL (aR 22) 17
abbrev BV:Stmt:=cL (aR 22) 16
abbrev BW:Stmt:=cL (aR 22) 2
abbrev BX:Stmt:=aR 35
abbrev BY:Stmt:=aR 16
abbrev BZ:Stmt:=aR 15
abbrev B3:Stmt:=aR 17
abbrev B4:Stmt:=aR 19
abbrev B5:Stmt:=cL (aR 22) 15
abbrev B6:Stmt:=cL (aR 22) 1
abbrev B7:Stmt:=aR 25
abbrev B8:Stmt:=cL (aR 46) 4
abbrev Cb:Stmt:=cL (aR 46) 3
abbrev Cc:Stmt:=cL (aR 46) 5
abbrev Cd:Stmt:=aR 27
abbrev Ce:Stmt:=cL (aR 22) 13
abbrev Cf:Stmt:=cL (aR 22) 5
abbrev Cg:Stmt:=cL (aR 22) 10
abbrev Ci:Stmt:=cL (aR 22) 9
abbrev Cj:Stmt:=aR 28
abbrev Ck:Stmt:=cL (aR 22) 4
abbrev Cm:Stmt:=aR 33
abbrev Cn:Stmt:=cL (aR 22) 8
abbrev Co:Stmt:=aR 30
abbrev Cp:Stmt:=aR 34
abbrev Cq:Stmt:=aR 31
abbrev Cr:Stmt:=aR 29
abbrev Cs:Stmt:=aR 32
abbrev Ct:Stmt:=aR 24
abbrev Cu:Stmt:=cL (aR 46) 6
abbrev Cv:Stmt:=aR 38
abbrev Cw:Stmt:=aR 43
abbrev Cy:Stmt:=aR 44
abbrev Cz:Stmt:=aR 41
abbrev CB:Stmt:=cL (aR 46) 7
abbrev xF:Stmt:=aR 39
abbrev CD:Stmt:=aR 42
abbrev CG:Stmt:=cL (aR 46) 8
abbrev CH:Stmt:=aR 36
abbrev CI:Stmt:=aR 26
abbrev CJ:Stmt:=cL (aR 46) 9
abbrev CK:Stmt:=cL (aR 46) 10
abbrev CL:Stmt:=cL (aR 46) 12
abbrev CM:Stmt:=aR 54
abbrev xG:Stmt:=aR 55
abbrev CN:Stmt:=cL (aR 46) 2
abbrev CO:Stmt:=aR 61
abbrev xH:Stmt:=aR 62
abbrev CQ:Stmt:=aR 53
abbrev CT:Stmt:=cL (aR 46) 1
abbrev sY:Stmt:=aR 60
abbrev sZ:Stmt:=aR 63
def fk:Nat->List Str
 |0=>["pieces", "numbers", "sign_counts", "end_counts", "leaf_counts", "heights", "first_leaves", "last_leaves"]
 |1=>["own_shelf", "texts", "deeds", "taken_back"]
 |_=>[]
theorem MW:∀ c,(fk c).Nodup
 |0=>by decide +kernel
 |1=>by decide +kernel
 |_+2=>Qe
theorem MX:∀ c,(fk c).length<=500
 |0=>by decide +kernel
 |1=>by decide +kernel
 |_+2=>OH _
abbrev dy(K:ZA)(cls exc:Nat->Option ZE):Tb:=⟨K,cls,exc,fk,MW,MX⟩
structure Facts(P:ZD)(w:ZF)(K:ZA)(cls exc:Nat->Option ZE)(mg:Str->Option ZC)(base:Heap):Prop where
 LT:mg "abs"=none
 L_:mg "all"=none
 IN:mg "bool"=none
 IO:mg "dict"=none
 v_:mg "enumerate"=none
 KK:mg "int"=none
 u8:mg "isinstance"=none
 No:mg "len"=none
 I_:mg "max"=none
 J_:mg "min"=none
 H_:mg "range"=none
 D_:mg "sorted"=none
 M_:mg "str"=none
 K_:mg "sum"=none
 o_:∃ t,mg "LEAF_SIGNS"=some (.int 8 t)
 r_:∃ t,mg "NAME_SIGNS"=some (.int 8 t)
 sB:∃ t,mg "MOST_PLAIN"=some (.int 10000 t)
 pi:∃ t,mg "MOST_SIGNS"=some (.int 1000000000000000000 t)
 G_:CF (dy K cls exc) 0
 EQ:CF (dy K cls exc) 1
 E_:GX (dy K cls exc) mg base 0 "NoText"
 Go:GX (dy K cls exc) mg base 1 "NoName"
 jp:GX (dy K cls exc) mg base 2 "NothingDone"
 kx_NoText:∃ C,mg "NoText"=some (.ref C)/\∀ c C',exc c=some C'->cE K C'/\PySem.W.kitOne K (.ref C') (.ref C)=some (rD c)
 t_:DI K cls mg 0 "Shelf" "Shelf.__init__" BG ["self"]
 ss:DI K cls mg 1 "House" "House.__init__" xx ["self"]
 wE:DG K mg "_law_mixed" BH ["cell", "k"]
 p_:DG K mg "_law_stream" BI ["script", "k"]
 x0:DG K mg "_law_take" BJ ["stream", "many"]
 xz:DG K mg "_law_name" xy ["stream", "known", "odd"]
 wP:DG K mg "_law_plain" BK ["stream", "most"]
 v4:DG K mg "_law_given" xA ["stream", "known"]
 m_:DG K mg "_law_changed" xB ["stream", "known"]
 xL:DG K mg "_law_deed" xC ["stream", "known"]
 d_:cI K cls 1 "set_text" "House.set_text" xD ["self", "name", "text"]
 q_:cI K cls 1 "back" "House.back" BM ["self"]
 AT:DG K mg "is_name" BN ["thing"]
 sK:DG K mg "check_name" BO ["name"]
 wT:cI K cls 1 "do" "House.do" xE ["self", "name", "text"]
 wS:DG K mg "is_whole" BP ["thing"]
 bv:cI K cls 0 "has_piece" "Shelf.has_piece" BQ ["self", "number"]
 ac:cI K cls 0 "check_piece" "Shelf.check_piece" BR ["self", "number"]
 am:cI K cls 0 "check_fork" "Shelf.check_fork" BS ["self", "one", "other"]
 u_:cI K cls 0 "lay" "Shelf.lay" BU ["self", "made"]
 cr:cI K cls 0 "lay_fork" "Shelf.lay_fork" BV ["self", "made"]
 sw:cI K cls 0 "fork" "Shelf.fork" BW ["self", "one", "other"]
 F_:DG K mg "halved" BX ["shelf", "leaves"]
 h_:DG K mg "is_plain_sign" BY ["sign"]
 w_:DG K mg "is_plain" BZ ["thing"]
 y_:DG K mg "is_short" B3 ["thing"]
 B_:DG K mg "ends_in" B4 ["plain"]
 dL:cI K cls 0 "lay_leaf" "Shelf.lay_leaf" B5 ["self", "made"]
 ul:cI K cls 0 "leaf" "Shelf.leaf" B6 ["self", "plain"]
 Id:DG K mg "built" B7 ["shelf", "plain"]
 ut:cI K cls 1 "give" "House.give" B8 ["self", "name", "plain"]
 on:cI K cls 1 "text" "House.text" Cb ["self", "name"]
 ge:cI K cls 1 "copy_of" "House.copy_of" Cc ["self", "name", "other"]
 io:DG K mg "check_length" Cd ["signs"]
 bi:cI K cls 0 "check_text" "Shelf.check_text" Ce ["self", "text"]
 n_:cI K cls 0 "signs" "Shelf.signs" Cf ["self", "text"]
 b_:cI K cls 0 "last_leaf" "Shelf.last_leaf" Cg ["self", "text"]
 a_:cI K cls 0 "first_leaf" "Shelf.first_leaf" Ci ["self", "text"]
 wf:DG K mg "are_close" Cj ["shelf", "one", "other"]
 mt:cI K cls 0 "piece" "Shelf.piece" Ck ["self", "number"]
 wr:DG K mg "with_last" Cm ["shelf", "text", "leaf"]
 i_:cI K cls 0 "height" "Shelf.height" Cn ["self", "text"]
 nw:DG K mg "turned_left" Co ["shelf", "one", "other"]
 f_:DG K mg "without_first" Cp ["shelf", "text"]
 ii:DG K mg "turned_right" Cq ["shelf", "one", "other"]
 C_:DG K mg "linked" Cr ["shelf", "one", "other"]
 Ev:DG K mg "welded" Cs ["shelf", "one", "other"]
 Fa:DG K mg "joined" Ct ["shelf", "one", "other"]
 g_:cI K cls 1 "join_to" "House.join_to" Cu ["self", "name", "other"]
 v0:DG K mg "check_gap" Cv ["shelf", "text", "at"]
 x_:DG K mg "front_of" Cw ["shelf", "text", "at"]
 BT:DG K mg "back_of" Cy ["shelf", "text", "at"]
 Cl:DG K mg "put_in" Cz ["shelf", "text", "at", "other"]
 c_:cI K cls 1 "put_into" "House.put_into" CB ["self", "name", "at", "other"]
 e_:DG K mg "check_stretch" xF ["shelf", "text", "begin", "end"]
 wv:DG K mg "taken_out" CD ["shelf", "text", "begin", "end"]
 ci:cI K cls 1 "take_from" "House.take_from" CG ["self", "name", "begin", "end"]
 A_:DG K mg "doubled" CH ["shelf", "text", "many"]
 z_:DG K mg "repeated" CI ["shelf", "text", "many"]
 jn:cI K cls 1 "repeat" "House.repeat" CJ ["self", "name", "many"]
 s_:cI K cls 1 "drop" "House.drop" CK ["self", "name"]
 k_:cI K cls 1 "again" "House.again" CL ["self"]
 Db:DG K mg "_law_do" CM ["house", "deed"]
 zn:DG K mg "_law_word" xG ["house", "deed"]
 ol:cI K cls 1 "names" "House.names" CN ["self"]
 j_:DG K mg "_law_numbers" CO ["house"]
 Ch:DG K mg "_law_run" xH ["house", "cells", "states"]
 wn:DG K mg "_law_reads" CQ ["shelf", "text"]
 l_:cI K cls 1 "shelf" "House.shelf" CT ["self"]
 ww:DG K mg "_law_shown" sY ["house", "known"]
 LE:DG K mg "law" sZ ["script"]
 cu_NoName:CU (dy K cls exc) mg "NoName" oW
 cu_NoPlace:CU (dy K cls exc) mg "NoPlace" vE
 cu_NoText:CU (dy K cls exc) mg "NoText" rE
 cu_NothingDone:CU (dy K cls exc) mg "NothingDone" vF
 cu_TooLong:CU (dy K cls exc) mg "TooLong" vG
def MY:aE ["self"] ["self"] (bL xx):=(gs)
def MZ:aE ["stream", "known", "odd", "some", "kind"] ["stream", "known", "odd"] (bL xy):=(gs)
def M0:aE ["stream", "known", "odd", "name", "other", "due", "plain"] ["stream", "known"] (bL xA):=(gs)
def M3:aE ["stream", "known", "kind", "name", "other", "plain", "more", "gone", "both", "at", "end", "due", "many"] ["stream", "known"] (bL xB):=(gs)
def M4:aE ["stream", "known", "kind", "name", "left", "deed", "due", "plain", "behind"] ["stream", "known"] (bL xC):=(gs)
def M5:aE ["self", "name", "text"] ["self", "name", "text"] (bL xD):=(gs)
def M6:aE ["self", "name", "text"] ["self", "name", "text"] (bL xE):=(gs)
def M7:aE ["shelf", "text", "begin", "end", "signs"] ["shelf", "text", "begin", "end"] (bL xF):=(gs)
def M8:aE ["house", "deed", "told", "e"] ["house", "deed"] (bL xG):=(gs)
def M9:aE ["house", "cells", "states", "k", "cell", "deed", "due", "behind"] ["house", "cells", "states"] (bL xH):=(gs)
def Na:aE ["house", "known"] ["house", "known"] (bL sY):=(gs)
def Nb:aE ["script", "house", "states", "stream", "many", "gone", "step", "known", "deed", "same"] ["script"] (bL sZ):=(gs)
abbrev Gf{P:ZD}{w:ZF}{K:ZA}{cls exc:Nat->Option ZE}{mg:Str->Option ZC}{base:Heap}(_:Facts P w K cls exc mg base):=GF P w (dy K cls exc) mg base
abbrev Gm{P:ZD}{w:ZF}{K:ZA}{cls exc:Nat->Option ZE}{mg:Str->Option ZC}{base:Heap}(_:Facts P w K cls exc mg base):=GM P w (dy K cls exc) mg base
abbrev Gk{P:ZD}{w:ZF}{K:ZA}{cls exc:Nat->Option ZE}{mg:Str->Option ZC}{base:Heap}(_:Facts P w K cls exc mg base):=GK P w (dy K cls exc) mg base
section
variable{P:ZD}{w:ZF}{K:ZA}{cls exc:Nat->Option ZE}{mg:Str->Option ZC}{base:Heap}(Z:Facts P w K cls exc mg base)
include Z
set_option maxHeartbeats 0 in
def Z_:(Gk Z 1 0 "Shelf" vH)∧(Gf Z 1 "_law_mixed" rF)∧(Gf Z 1 "_law_mixed" rF→Gf Z 2 "_law_stream" iK)∧(Gf Z 1 "_law_take" aQ)∧(Gf Z 1 "_law_take" aQ→Gf Z 2 "_law_plain" iL)∧(GM P w (dy K cls exc) mg base 1 1 "set_text" iM→Gm Z 2 1 "back" j5)∧(Gf Z 1 "is_name" nt)∧(Gf Z 1 "is_name" nt→Gf Z 2 "check_name" nv)∧(Gf Z 1 "is_whole" rG)∧(Gf Z 1 "is_whole" rG→Gm Z 2 0 "has_piece" rH)∧(Gm Z 2 0 "has_piece" rH→Gm Z 3 0 "check_piece" lH)∧(Gm Z 3 0 "check_piece" lH→Gm Z 4 0 "check_fork" oY)∧(Gm Z 1 0 "lay" oZ)∧(Gm Z 1 0 "lay" oZ→Gm Z 2 0 "lay_fork" pe)∧(Gm Z 4 0 "check_fork" oY→Gm Z 2 0 "lay_fork" pe→Gm Z 5 0 "fork" aV)∧(Gm Z 5 0 "fork" aV→∀ d,Gf Z (5+d+1) "halved" (iq d))∧(Gf Z 1 "is_plain_sign" pf)∧(Gf Z 1 "is_plain_sign" pf→Gf Z 2 "is_plain" lI)∧(Gf Z 2 "is_plain" lI→Gf Z 3 "is_short" rJ)∧(Gf Z 1 "ends_in" rK)∧(Gm Z 1 0 "lay" oZ→Gf Z 1 "ends_in" rK→Gm Z 2 0 "lay_leaf" ph)∧(Gf Z 3 "is_short" rJ→Gm Z 2 0 "lay_leaf" ph→Gm Z 4 0 "leaf" eC)∧(Gf Z 2 "is_plain" lI→Gm Z 4 0 "leaf" eC→Gf Z (5+20+1) "halved" (iq 20)→Gf Z 27 "built" jF)∧(Gf Z 2 "check_name" nv→GM P w (dy K cls exc) mg base 2 1 "do" dO→Gf Z 27 "built" jF→Gm Z 28 1 "give" lJ)∧(Gf Z 1 "is_name" nt→Gm Z 2 1 "text" cO)∧(Gf Z 2 "check_name" nv→GM P w (dy K cls exc) mg base 2 1 "do" dO→Gm Z 2 1 "text" cO→Gm Z 3 1 "copy_of" pj)∧(Gf Z 1 "check_length" nz)∧(Gm Z 3 0 "check_piece" lH→Gm Z 4 0 "check_text" j7)∧(Gm Z 4 0 "check_text" j7→Gm Z 5 0 "signs" eV)∧(Gm Z 4 0 "check_text" j7→Gm Z 5 0 "last_leaf" pq)∧(Gm Z 4 0 "check_text" j7→Gm Z 5 0 "first_leaf" pA)∧(Gm Z 5 0 "signs" eV→Gm Z 5 0 "last_leaf" pq→Gm Z 5 0 "first_leaf" pA→Gf Z 6 "are_close" rL)∧(Gm Z 3 0 "check_piece" lH→Gm Z 4 0 "piece" eX)∧(Gm Z 4 0 "piece" eX→Gm Z 5 0 "fork" aV→∀ d,Gf Z (5+d+1) "with_last" (iu d))∧(Gm Z 4 0 "check_text" j7→Gm Z 5 0 "height" hV)∧(Gm Z 5 0 "height" hV→Gm Z 5 0 "fork" aV→Gm Z 4 0 "piece" eX→Gf Z 6 "turned_left" gH)∧(Gm Z 4 0 "piece" eX→Gf Z 6 "turned_left" gH→∀ d,Gf Z (6+d+1) "without_first" (fV d))∧(Gm Z 5 0 "height" hV→Gm Z 5 0 "fork" aV→Gm Z 4 0 "piece" eX→Gf Z 6 "turned_right" iO)∧(Gm Z 5 0 "height" hV→Gm Z 4 0 "piece" eX→Gf Z 6 "turned_left" gH→Gf Z 6 "turned_right" iO→Gm Z 5 0 "fork" aV→∀ d,Gf Z (6+d+1) "linked" (fM d))∧(Gm Z 4 0 "piece" eX→Gm Z 5 0 "last_leaf" pq→Gm Z 5 0 "first_leaf" pA→Gf Z (5+90+1) "with_last" (iu 90)→Gm Z 4 0 "leaf" eC→Gf Z (6+90+1) "without_first" (fV 90)→Gf Z (6+90+1) "linked" (fM 90)→Gf Z 98 "welded" lM)∧(Gf Z 1 "check_length" nz→Gm Z 5 0 "signs" eV→Gf Z 6 "are_close" rL→Gf Z (6+90+1) "linked" (fM 90)→Gf Z 98 "welded" lM→Gf Z 99 "joined" bW)∧(GM P w (dy K cls exc) mg base 2 1 "do" dO→Gf Z 99 "joined" bW→Gm Z 2 1 "text" cO→Gm Z 100 1 "join_to" pB)∧(Gm Z 5 0 "signs" eV→Gf Z 6 "check_gap" rO)∧(Gm Z 5 0 "signs" eV→Gm Z 4 0 "piece" eX→Gm Z 4 0 "leaf" eC→Gf Z 99 "joined" bW→∀ d,Gf Z (99+d+1) "front_of" (dF d))∧(Gm Z 5 0 "signs" eV→Gm Z 4 0 "piece" eX→Gm Z 4 0 "leaf" eC→Gf Z 99 "joined" bW→∀ d,Gf Z (99+d+1) "back_of" (dG d))∧(Gm Z 5 0 "signs" eV→Gf Z 6 "check_gap" rO→Gf Z 1 "check_length" nz→Gf Z 99 "joined" bW→Gf Z (99+90+1) "front_of" (dF 90)→Gf Z (99+90+1) "back_of" (dG 90)→Gf Z 191 "put_in" pC)∧(GM P w (dy K cls exc) mg base 2 1 "do" dO→Gf Z 191 "put_in" pC→Gm Z 2 1 "text" cO→Gm Z 192 1 "put_into" pD)∧(GF P w (dy K cls exc) mg base 6 "check_stretch" rP→Gf Z 99 "joined" bW→Gf Z (99+90+1) "front_of" (dF 90)→Gf Z (99+90+1) "back_of" (dG 90)→Gf Z 191 "taken_out" pE)∧(GM P w (dy K cls exc) mg base 2 1 "do" dO→Gf Z 191 "taken_out" pE→Gm Z 2 1 "text" cO→Gm Z 192 1 "take_from" pF)∧(Gf Z 99 "joined" bW→∀ d,Gf Z (99+d+1) "doubled" (fN d))∧(Gm Z 5 0 "signs" eV→Gf Z 1 "check_length" nz→Gf Z (99+64+1) "doubled" (fN 64)→Gf Z 165 "repeated" j8)∧(GM P w (dy K cls exc) mg base 2 1 "do" dO→Gf Z 165 "repeated" j8→Gm Z 2 1 "text" cO→Gm Z 166 1 "repeat" lP)∧(Gm Z 2 1 "text" cO→GM P w (dy K cls exc) mg base 2 1 "do" dO→Gm Z 3 1 "drop" lQ)∧(GM P w (dy K cls exc) mg base 1 1 "set_text" iM→Gm Z 2 1 "again" j9)∧(Gm Z 28 1 "give" lJ→Gm Z 3 1 "copy_of" pj→Gm Z 100 1 "join_to" pB→Gm Z 192 1 "put_into" pD→Gm Z 192 1 "take_from" pF→Gm Z 166 1 "repeat" lP→Gm Z 3 1 "drop" lQ→Gm Z 2 1 "again" j9→Gm Z 2 1 "back" j5→Gf Z 193 "_law_do" eE)∧(Gm Z 1 1 "names" iw)∧(Gm Z 1 1 "names" iw→Gm Z 2 1 "text" cO→Gf Z 3 "_law_numbers" fW)∧(Gm Z 4 0 "piece" eX→∀ d,Gf Z (4+d+1) "_law_reads" (gI d))∧(Gm Z 1 1 "shelf" nB):=by
 refine⟨gK Z.t_ ?_,
  gF Z.wE ?_,
  λ_=>gF Z.p_ ?_,
  gF Z.x0 ?_,
  λ_=>gF Z.wP ?_,
  λ_=>gM Z.q_ ?_,
  gF Z.AT ?_,
  λ_=>gF Z.sK ?_,
  gF Z.wS ?_,
  λ_=>gM Z.bv ?_,
  λ_=>gM Z.ac ?_,
  λ_=>gM Z.am ?_,
  gM Z.u_ ?_,
  λ_=>gM Z.cr ?_,
  λ_ _=>gM Z.sw ?_,
  λ_=>λd=>d.rec (gF Z.F_ ?_) (λd _=>gF Z.F_ ?_),
  gF Z.h_ ?_,
  λ_=>gF Z.w_ ?_,
  λ_=>gF Z.y_ ?_,
  gF Z.B_ ?_,
  λ_ _=>gM Z.dL ?_,
  λ_ _=>gM Z.ul ?_,
  λ_ _ _=>gF Z.Id ?_,
  λ_ _ _=>gM Z.ut ?_,
  λ_=>gM Z.on ?_,
  λ_ _ _=>gM Z.ge ?_,
  gF Z.io ?_,
  λ_=>gM Z.bi ?_,
  λ_=>gM Z.n_ ?_,
  λ_=>gM Z.b_ ?_,
  λ_=>gM Z.a_ ?_,
  λ_ _ _=>gF Z.wf ?_,
  λ_=>gM Z.mt ?_,
  λ_ _=>λd=>d.rec (gF Z.wr ?_) (λd _=>gF Z.wr ?_),
  λ_=>gM Z.i_ ?_,
  λ_ _ _=>gF Z.nw ?_,
  λ_ _=>λd=>d.rec (gF Z.f_ ?_) (λd _=>gF Z.f_ ?_),
  λ_ _ _=>gF Z.ii ?_,
  λ_ _ _ _ _=>λd=>d.rec (gF Z.C_ ?_) (λd _=>gF Z.C_ ?_),
  λ_ _ _ _ _ _ _=>gF Z.Ev ?_,
  λ_ _ _ _ _=>gF Z.Fa ?_,
  λ_ _ _=>gM Z.g_ ?_,
  λ_=>gF Z.v0 ?_,
  λ_ _ _ _=>λd=>d.rec (gF Z.x_ ?_) (λd _=>gF Z.x_ ?_),
  λ_ _ _ _=>λd=>d.rec (gF Z.BT ?_) (λd _=>gF Z.BT ?_),
  λ_ _ _ _ _ _=>gF Z.Cl ?_,
  λ_ _ _=>gM Z.c_ ?_,
  λ_ _ _ _=>gF Z.wv ?_,
  λ_ _ _=>gM Z.ci ?_,
  λ_=>λd=>d.rec (gF Z.A_ ?_) (λd _=>gF Z.A_ ?_),
  λ_ _ _=>gF Z.z_ ?_,
  λ_ _ _=>gM Z.jn ?_,
  λ_ _=>gM Z.s_ ?_,
  λ_=>gM Z.k_ ?_,
  λ_ _ _ _ _ _ _ _ _=>gF Z.Db ?_,
  gM Z.ol ?_,
  λ_ _=>gF Z.j_ ?_,
  λ_=>λd=>d.rec (gF Z.wn ?_) (λd _=>gF Z.wn ?_),
  gM Z.l_ ?_⟩
 all_goals(intro _ _ _ _ _ _ _ _ _ _ _;(first|refine bt ?_|refine aP ?_ ?_|exact oQ);repeat' first
  |((exists L2.PE _ (.Name _ _) _);first|exact ar _)
  |((exists L2.PE _ (.Name "LEAF_SIGNS" _) _);first|exact jB rfl (Z.o_))
  |((exists L2.PE _ (.Name "MOST_PLAIN" _) _);first|exact jB rfl (Z.sB))
  |((exists L2.PE _ (.Name "MOST_SIGNS" _) _);first|exact jB rfl (Z.pi))
  |((exists L2.PE _ (.Name "NAME_SIGNS" _) _);first|exact jB rfl (Z.r_))
  |((exists L2.PA _ [] _);first|exact aA)
  |((exists L2.PA _ (_::_) _);first|refine ak ?_ ?_)
  |((exists L2.PSs _ _ (tS _ _ iJ));exact oQ)
  |((exists L2.PSs _ [_] _);first|refine bt ?_)
  |((exists L2.PSs _ (_::_) _);first|refine aP ?_ ?_)
  |((exists L2.PSs _ [] _);first|exact df)
  |((exists L2.PSs _ _ _);first|exact oQ)
  |((exists L2.PE _ (.Constant (.int _) _ _) _);first|exact aO)
  |((exists L2.PE _ (.Constant (.str _) _ _) _);first|exact aL)
  |((exists L2.PE _ (.Constant _ _ _) _);first|exact cH|exact oA)
  |((exists L2.PE _ (.Call (.Name _ _) (_::_) _ _) _);first|refine bB rfl ?_ ‹_› ?_ rfl ?_)
  |((exists L2.PE _ (.Call (.Attribute _ _ _) (_::_) _ _) _);first|refine qW rfl ?_ ‹_› ?_ ?_ ?_)
  |((exists L2.PE _ (.Call (.Attribute _ _ _) [] _ _) _);first|refine qX rfl ?_ ‹_› ?_ ?_)
  |((exists L2.PE _ (.Call (.Name _ _) [] _ _) _);first|refine uX rfl ?_ ‹_› ?_ rfl)
  |((exists L2.PE _ (.Call (.Name "abs" _) _ _ _) _);first|refine br (LT) rfl (Z.LT) PyProof.Rows.boot_abs ?_)
  |((exists L2.PE _ (.Call (.Name "all" _) _ _ _) _);first|refine br (L_ rfl) rfl (Z.L_) RY ?_)
  |((exists L2.PE _ (.Call (.Name "len" _) _ _ _) _);first|refine br (No rfl) rfl (Z.No) Pd ?_)
  |((exists L2.PE _ (.Call (.Name "max" _) _ _ _) _);first|refine br (kZ) rfl (Z.I_) Pb ?_)
  |((exists L2.PE _ (.Call (.Name "min" _) _ _ _) _);first|refine br (zF) rfl (Z.J_) RZ ?_)
  |((exists L2.PE _ (.Call (.Name "sorted" _) _ _ _) _);first|refine br (Ju rfl) rfl (Z.D_) sX ?_)
  |((exists L2.PE _ (.Call (.Name "sum" _) _ _ _) _);first|refine br (K_ rfl) rfl (Z.K_) PyProof.Rows.boot_sum ?_)
  |((exists L2.PE _ (.Call (.Name "int" _) _ _ _) _);first|refine cS (KK) rfl (Z.KK) ie ?_)
  |((exists L2.PE _ (.Call (.Attribute _ "append" _) _ _ _) _);first|refine gp rfl OL Pe Pf (mU) ik ?_ ?_)
  |((exists L2.PE _ (.Call (.Attribute _ "count" _) _ _ _) _);first|refine gp rfl PySem.F.plainAttrs_str PySem.F.slot_str_count PySem.F.type_str_count (Jc) Jb ?_ ?_)
  |((exists L2.PE _ (.Call (.Attribute _ "clear" _) _ _ _) _);first|refine mT rfl OL Rw Rx (zQ) ik ?_)
  |((exists L2.PE _ (.Call (.Attribute _ "pop" _) _ _ _) _);first|refine mT rfl OL Qa Qb (rh) ik ?_)
  |((exists L2.PE _ (.Call (.Name "isinstance" _) [_,.Name "bool" _] _ _) _);first|refine rg rfl rfl (Z.u8) ?_ rfl (Z.IN) G0 'd')
  |((exists L2.PE _ (.Call (.Name "isinstance" _) [_,.Name "int" _] _ _) _);first|refine rg rfl rfl (Z.u8) ?_ rfl (Z.KK) ie 'd')
  |((exists L2.PE _ (.Call (.Name "isinstance" _) [_,.Name "str" _] _ _) _);first|refine rg rfl rfl (Z.u8) ?_ rfl (Z.M_) yC 'd')
  |((exists L2.PE _ (.Attribute _ _ _) _);first|refine kW rfl (Z.EQ) ?_|refine kW rfl (Z.G_) ?_)
  |((exists L2.PE _ (.Subscript _ _ _) _);first|refine aX rfl ‹_› ?_ ?_)
  |((exists L2.PE _ (.BinOp _ _ _ _) _);first|refine gj ?_ ?_ ?_)
  |((exists L2.PE _ (.List _ _) (tE _ _ (aM _)));first|refine dC ?_)
  |((exists L2.PE _ (.List _ _) (tE _ _ (gb _)));first|refine oF ?_)
  |((exists L2.PE _ (.Tuple _ _ _) _);first|refine cf ?_)
  |((exists L2.PE _ (.Subscript _ _ _) (tE _ _ (bT _ _ _)));first|refine k8 rfl ?_ ?_ ?_)
  |((exists L2.PE _ (.UnaryOp _ _ _) _);first|refine kS ?_)
  |((exists L2.PE _ (.Dict _ _ _) _);first|exact Ip)
  |((exists L2.PE _ (.Compare _ [_] _ _) _);first|refine gD ?_ ?_ ?_ ?_)
  |((exists L2.PE _ (.BoolOp .And _ _) _);first|refine uT ?_ ?_)
  |((exists L2.PE _ (.BoolOp .Or _ _) _);first|refine jw ?_ ?_)
  |((exists L2.PE _ (.BoolOp _ [_] _) _);first|refine jv ?_)
  |((exists L2.PE _ (.UnaryOp _ _ _) _);first|refine qM ?_)
  |((exists L2.PE _ (.Compare _ _ _ _) _);first|refine y9 ?_ ?_ ?_ ?_ ?_)
  |((exists L2.PE _ (.ListComp _ _ _ _) _);first|refine zv (jf:=[(0, "house")]) ?_ rfl ?_ ?_ ?_|refine zv (jf:=[]) ?_ rfl ?_ ?_ ?_)
  |((exists L2.PS _ (.Assign [.Name _ _] _ _) _);first|refine bF ‹_› ?_)
  |((exists L2.PS _ (.Return _ _) _);first|refine cW ?_)
  |((exists L2.PS _ (.If _ _ _ _) _);first|refine bc ?_ ?_ ?_)
  |((exists L2.PS _ (.Expr _ _) _);first|refine iG ?_)
  |((exists L2.PS _ (.Assign [.Attribute _ _ _] _ _) _);first|refine mP rfl (Z.EQ) ?_ ?_|refine mP rfl (Z.G_) ?_ ?_)
  |((exists L2.PS _ (.Assign [.Subscript _ _ _] _ _) _);first|refine rf ‹_› ?_ ?_ ?_)
  |((exists L2.PS _ (.While _ _ _ _) _);first|refine zc _ ?_ ?_)
  |((exists L2.PS _ _ (tS _ _ (cR _ _ _)));first|refine qT rfl ?_ ?_ ?_)
  |((exists L2.PS _ (.Raise (some (.Call (.Name "NoName" _) _ _ _)) _ _) _);first|refine u9 (Z.Go) uD rfl ?_)
  |((exists L2.PS _ (.Raise (some (.Call (.Name "NoText" _) _ _ _)) _ _) _);first|refine u9 (Z.E_) uD rfl ?_)
  |((exists L2.PS _ (.Raise (some (.Call (.Name "NothingDone" _) _ _ _)) _ _) _);first|refine u9 (Z.jp) uD rfl ?_)
  |((exists L2.PS _ (.Assign [.Name _ _] (.ListComp _ _ _ _) _) _);first|refine IH (jf:=[(0, "shelf"),(1, "plain")]) ?_ rfl ?_ ?_ ?_ ‹_›)
  |((exists L2.PT _ (.Compare _ [_] _ _) _);first|refine cy ?_ ?_ ?_ ?_)
  |((exists L2.PT _ (.UnaryOp _ _ _) _);first|refine oC ?_)
  |((exists L2.PT _ (_) _);first|refine qK rfl ?_)
  |((exists L2.PT _ (.Compare _ _ _ _) _);first|refine Io ?_ ?_ ?_ ?_ ?_)
  |((exists L2.PT _ (.BoolOp .And _ _) _);first|refine fG (qL ?_ ?_))
  |((exists L2.PT _ (.BoolOp .Or _ _) _);first|refine fG (mO ?_ ?_))
  |((exists L2.CompOk _ _ _ _);first|exact lq ∅|exact ck_w (lq ∅)|exact ck_w (ck_w (lq ∅)))
  |with_reducible assumption
  |((exists Sm.CA _ _ _);first|with_reducible exact CA.never rfl|refine CA.nox ?_)
  |((exists L2.Room _ _);first|exact Room.m ‹_›|exact Room.mono ‹_› ⋯)
  |((exists _=false);first|exact bR _)
  |((exists _=_);first|exact rfl)
  |((exists Sm.Op _ _ _ _);first|with_reducible refine i5 ?_|with_reducible exact yZ|with_reducible refine cw ?_ ?_|with_reducible exact uQ|with_reducible exact iF|with_reducible refine oK ?_ ?_|with_reducible refine vz ?_ ?_|with_reducible exact uR|with_reducible exact eT|with_reducible exact kT|with_reducible exact Ih|with_reducible exact Ig|with_reducible exact zL|with_reducible refine c9 ?_ ?_|with_reducible refine Ab ?_|with_reducible refine mR ?_ ?_|with_reducible exact y4|with_reducible exact uP)
  |refine j3 ?_
  |exact mV
  |refine qL ?_ ?_
  |refine mO ?_ ?_
  |refine uS ?_
  |refine oE ?_
  |exact uU ‹_›
  |refine qQ rfl rfl ?_
  |refine jy ‹_› ?_
  |exact qP
  |refine uV (E:=EN) rfl (Z.H_) ?_
  |refine Jj (E:=EN) rfl (Z.H_) ?_ ?_ ?_
  |refine IB (E:=EN) rfl ?_
  |refine zm (E:=EN) rfl rfl (Z.v_) ?_
  |exact zu
  |intro _
  |assumption)
def NU {f:ZE} {fd:FuncData} (h4:Fun K "law" "law" sZ f fd):FnOk P w K mg base (cU P w) 196 f fd ["script"] (iH (dy K cls exc) vK):=by
 obtain⟨Nc,Nf,CV,fP,CW,Nj,CY,CZ,Nk,Nl,xJ,Nn,C6,Np,qc,C7,Nq,C8,Nr,Nt,Nu,tf,Nv,Nw,kh,Nx,xK,tj,ki,C9,Da,Ny,jQ,Dc,xM,Df,Dg,Nz,xN,NB,nS,NC,ND,xO,xP,NF,NG,NI,NJ,Dh,NK,NL,NM,NO,NP,xQ,tm,Dj,NQ⟩:=Z_ Z
 have Nd:GK P w (dy K cls exc) mg base 3 1 "House" m8:=gk Z.ss MY λhr C hu nd =>
   (aP (mP rfl Z.EQ (ar 0) (uX rfl C Nc hr.m rfl))
    (aP (mP rfl Z.EQ (ar 0) qN)
    (aP (mP rfl Z.EQ (ar 0) (oF aA))
    (bt (mP rfl Z.EQ (ar 0) (oF aA))))))
 have CV:=CV Nf
 have qb:GF P w (dy K cls exc) mg base 2 "_law_name" fL:=gf Z.xz MZ λhr C hu nd =>
   (aP (bF (i:=3) nd (vx rfl rfl Z.D_ sX (ar 1)))
    (aP (bF (i:=4) nd (bB rfl C fP hr.m rfl (ak (ar 0) (ak aO aA))))
    (aP (bc (cy (cw rfl hu) (ar 4) aO (bR _)) (bt (cW (aX rfl hu (ar 2) (bB rfl C fP hr.m rfl (ak (ar 0) (ak (br (No rfl) rfl Z.No Pd (ak (ar 2) aA)) aA)))))) df)
    (aP (bc (fG (mO (cy kT (ar 4) aO (bR _)) (oE (cy (cw rfl hu) (ar 3) (dC aA) (bR _))))) (bt (cW (aX rfl hu (dC (ak aL (ak aL (ak aL (ak aL (ak aL (ak aL aA))))))) (bB rfl C fP hr.m rfl (ak (ar 0) (ak aO aA)))))) df)
    (bt (cW (aX rfl hu (ar 3) (bB rfl C fP hr.m rfl (ak (ar 0) (ak (br (No rfl) rfl Z.No Pd (ak (ar 3) aA)) aA))))))))))
 have CW:=CW fP
 have Ng:GF P w (dy K cls exc) mg base 3 "_law_given" nj:=gf Z.v4 M0 λhr C hu nd =>
   (@aP _ _ _ _ _ _ _ (@bF _ _ _ _ _ _ 2 _ _ nd (@dC _ _ _ _ _ _ (@iI _ _ _ _ _ _ _ aL (@iI _ _ _ _ _ _ _ aL (@iI _ _ _ _ _ _ _ aL (@iI _ _ _ _ _ _ _ aL (@iI _ _ _ _ _ _ _ aL (@iI _ _ _ _ _ _ _ oA (@iI _ _ _ _ _ _ _ aO (@iI _ _ _ _ _ _ _ cH (@iI _ _ _ _ _ _ _ (dC (ak aL aA)) (@iI _ _ _ _ _ _ _ (cf (ak aL aA)) (@iI _ _ _ _ _ _ _ qN aA rfl) rfl) rfl) rfl) rfl) rfl) rfl) rfl) rfl) rfl) rfl)) rfl (Or.inl rfl) rfl (.inl rfl))
    (aP (bF (i:=3) nd (bB rfl C qb hr.m rfl (ak (ar 0) (ak (ar 1) (ak (ar 2) aA)))))
    (aP (bc (cy (cw rfl hu) (bB rfl C fP hr.m rfl (ak (ar 0) (ak aO aA))) aO (bR _)) (aP (bF (i:=4) nd (bB rfl C qb hr.m rfl (ak (ar 0) (ak (ar 1) (ak (dC (ak aL (ak aL (ak aL aA)))) aA)))))
    (aP (bF (i:=5) nd (aX rfl hu (dC (ak aL (ak aL aA))) (cS (KK) rfl Z.KK ie (ak (jw (gD (vz rfl hu) (ar 3) (ar 2) rfl) (jv (gD (mR rfl hu) (ar 4) (ar 1) rfl))) aA))))
    (bt (cW (cf (ak (cf (ak aL (ak (ar 3) (ak (ar 4) aA)))) (ak (ar 5) (ak (vg hu (ar 1) (ar 4) aL) aA)))))))) df)
    (aP (bF (i:=6) nd (bB rfl C CW hr.m rfl (ak (ar 0) (ak aO aA))))
    (aP (bc (cy (cw rfl hu) (bB rfl C fP hr.m rfl (ak (ar 0) (ak aO aA))) aO (bR _)) (bt (bF (i:=6) nd (aX rfl hu (dC (ak oA (ak aO (ak aL (ak (dC (ak aL aA)) (ak cH (ak aL aA))))))) (bB rfl C fP hr.m rfl (ak (ar 0) (ak aO aA)))))) df)
    (aP (bF (i:=5) nd (aX rfl hu (dC (ak aL (ak aL aA))) (cS (KK) rfl Z.KK ie (ak (jw (qM (rg rfl rfl Z.u8 (ar 6) rfl Z.M_ yC 'd')) (jv (gD (oK rfl hu) aL (ar 6) rfl))) aA))))
    (aP (bc (cy (vz rfl hu) (ar 3) (ar 2) rfl) (bt (bF (i:=5) nd aL)) df)
    (bt (cW (cf (ak (cf (ak aL (ak (ar 3) (ak (ar 6) aA)))) (ak (ar 5) (ak (ar 6) aA)))))))))))))
 have Nh:GF P w (dy K cls exc) mg base 3 "_law_changed" nq:=gf Z.m_ M3 λhr C hu nd =>
   (aP (bF (i:=2) nd (bB rfl C fP hr.m rfl (ak (ar 0) (ak aO aA))))
    (aP (bF (i:=3) nd (bB rfl C qb hr.m rfl (ak (ar 0) (ak (ar 1) (ak (dC (ak aL (ak aL (ak aL aA)))) aA)))))
    (aP (bF (i:=4) nd (bB rfl C qb hr.m rfl (ak (ar 0) (ak (ar 1) (ak (dC (ak aL (ak aL (ak aL aA)))) aA)))))
    (aP (bF (i:=5) nd (vg hu (ar 1) (ar 3) aL))
    (aP (bF (i:=6) nd (vg hu (ar 1) (ar 4) aL))
    (aP (bF (i:=7) nd (aX rfl hu (dC (ak aL (ak aL aA))) (cS (KK) rfl Z.KK ie (ak (gD (mR rfl hu) (ar 3) (ar 1) rfl) aA))))
    (aP (bF (i:=8) nd (aX rfl hu (dC (ak aL (ak aL aA))) (cS (KK) rfl Z.KK ie (ak (jw (gD (mR rfl hu) (ar 3) (ar 1) rfl) (jv (gD (mR rfl hu) (ar 4) (ar 1) rfl))) aA))))
    (aP (bF (i:=9) nd (gj uP (bB rfl C fP hr.m rfl (ak (ar 0) (ak (gj (i5 rfl) (br (No rfl) rfl Z.No Pd (ak (ar 5) aA)) aO) aA))) aO))
    (aP (bF (i:=10) nd (gj uP (bB rfl C fP hr.m rfl (ak (ar 0) (ak (gj (i5 rfl) (br (No rfl) rfl Z.No Pd (ak (ar 5) aA)) aO) aA))) aO))
    (aP (bc (cy (cw rfl hu) (ar 2) aO (bR _)) (bt (cW (cf (ak (cf (ak aL (ak (ar 3) (ak (ar 4) aA)))) (ak (ar 8) (ak (gj (i5 rfl) (ar 5) (ar 6)) aA)))))) df)
    (aP (bc (cy (cw rfl hu) (ar 2) aO (bR _)) (aP (bF (i:=11) nd (rn rfl (ar 8) (jv (aX rfl hu (dC (ak aL (ak aL aA))) (cS (KK) rfl Z.KK ie (ak (qM (y9 eT eT aO (ar 9) (br (No rfl) rfl Z.No Pd (ak (ar 5) aA)))) aA))))))
    (bt (cW (cf (ak (cf (ak aL (ak (ar 3) (ak (ar 9) (ak (ar 4) aA))))) (ak (ar 11) (ak (gj (i5 rfl) (gj (i5 rfl) (k8 rfl (ar 5) mV (j3 (br (kZ) rfl Z.I_ Pb (ak aO (ak (ar 9) aA))))) (ar 6)) (k8 rfl (ar 5) (j3 (br (kZ) rfl Z.I_ Pb (ak aO (ak (ar 9) aA)))) mV)) aA))))))) df)
    (aP (bc (cy (cw rfl hu) (ar 2) aO (bR _)) (aP (bF (i:=11) nd (rn rfl (ar 7) (jv (aX rfl hu (dC (ak aL (ak aL aA))) (cS (KK) rfl Z.KK ie (ak (qM (JS eT eT eT aO (ar 9) (ar 10) (br (No rfl) rfl Z.No Pd (ak (ar 5) aA)))) aA))))))
    (bt (cW (cf (ak (cf (ak aL (ak (ar 3) (ak (ar 9) (ak (ar 10) aA))))) (ak (ar 11) (ak (gj (i5 rfl) (k8 rfl (ar 5) mV (j3 (br (kZ) rfl Z.I_ Pb (ak aO (ak (ar 9) aA))))) (k8 rfl (ar 5) (j3 (br (kZ) rfl Z.I_ Pb (ak aO (ak (ar 10) aA)))) mV)) aA))))))) df)
    (aP (bF (i:=12) nd (aX rfl hu (dC (ak aO (ak aO (ak aO (ak aO (ak (kS aO) (ak (gj (i5 rfl) (gj yZ (gj y4 aO aO) (br (kZ) rfl Z.I_ Pb (ak aO (ak (br (No rfl) rfl Z.No Pd (ak (ar 5) aA)) aA)))) aO) aA))))))) (bB rfl C fP hr.m rfl (ak (ar 0) (ak aO aA)))))
    (aP (bF (i:=11) nd (rn rfl (ar 7) (rn rfl (aX rfl hu (dC (ak aL (ak aL aA))) (cS (KK) rfl Z.KK ie (ak (gD kT (ar 12) aO (bR _)) aA))) (jv (aX rfl hu (dC (ak aL (ak aL aA))) (cS (KK) rfl Z.KK ie (ak (uT (gD iF (ar 12) aO (bR _)) (jv (gD (c9 rfl hu) (ar 5) aL (bR _)))) aA)))))))
    (bt (cW (cf (ak (cf (ak aL (ak (ar 3) (ak (ar 12) aA)))) (ak (ar 11) (ak (gj zL (ar 5) (br (zF) rfl Z.J_ RZ (ak aO (ak (br (kZ) rfl Z.I_ Pb (ak aO (ak (ar 12) aA))) aA)))) aA))))))))))))))))))))
 have Ni:GF P w (dy K cls exc) mg base 4 "_law_deed" oX:=gf Z.xL M4 λhr C hu nd =>
   (aP (bF (i:=2) nd (bB rfl C fP hr.m rfl (ak (ar 0) (ak aO aA))))
    (aP (bc (cy (cw rfl hu) (ar 2) aO (bR _)) (aP (bF (i:=3) nd (bB rfl C qb hr.m rfl (ak (ar 0) (ak (ar 1) (ak (dC (ak aL (ak aL (ak aL aA)))) aA)))))
    (aP (bc (cy (mR rfl hu) (ar 3) (ar 1) rfl) (bt (cW (cf (ak (cf (ak aL (ak (ar 3) aA))) (ak aL (ak (ar 1) aA)))))) df)
    (aP (bF (i:=4) nd (cS vv rfl Z.IO vt (ak (ar 1) aA)))
    (aP (iG (zU (ar 4) (ar 3)))
    (bt (cW (cf (ak (cf (ak aL (ak (ar 3) aA))) (ak aL (ak (ar 4) aA)))))))))) df)
    (aP (zf (JE rfl C Ng Nh hr.m hr.m rfl rfl (cS (KK) rfl Z.KK ie (ak (gD iF (ar 2) aO (bR _)) aA)) (ak (ar 0) (ak (ar 1) aA))) (qQ rfl rfl (jy (i:=5) nd (jy (i:=6) nd (jy (i:=7) nd qP)))))
    (aP (bc (fG (qL (cy (cw rfl hu) (ar 6) aL (bR _)) (uS (cy iF (br (No rfl) rfl Z.No Pd (ak (ar 7) aA)) aO (bR _))))) (bt (JT (i:=5) (j:=6) (k:=7) nd (ak (cf (ak aL (ak (aX rfl hu (ar 5) aO) (ak aL aA)))) (ak aL (ak aL aA))))) df)
    (aP (bF (i:=8) nd (cS vv rfl Z.IO vt (ak (ar 1) aA)))
    (aP (bc (cy (cw rfl hu) (ar 6) aL (bR _)) (bt (rf hu (ar 8) (aX rfl hu (ar 5) aO) (ar 7))) df)
    (bt (cW (cf (ak (ar 5) (ak (ar 6) (ak (ar 8) aA))))))))))))
 have xI:GM P w (dy K cls exc) mg base 1 1 "set_text" iM:=gm Z.d_ M5 (show ("set_text" : Str)∉fk 1 by decide +kernel) λhr C hu nd =>
   (bt (bc (cy uR (ar 2) oA (bR _)) (bt (iG (zU (kW rfl Z.EQ (ar 0)) (ar 1)))) (bt (rf hu (kW rfl Z.EQ (ar 0)) (ar 1) (ar 2)))))
 have Nj:=Nj xI
 have CZ:=CZ CY
 have mB:GM P w (dy K cls exc) mg base 2 1 "do" dO:=gm Z.wT M6 (show ("do" : Str)∉fk 1 by decide +kernel) λhr C hu nd =>
   (aP (iG (gp rfl OL Pe Pf (mU) ik (kW rfl Z.EQ (ar 0)) (ak (cf (ak (ar 1) (ak (Jt hu (kW rfl Z.EQ (ar 0)) (ar 1)) (ak (ar 2) aA)))) aA)))
    (aP (iG (mT rfl OL Rw Rx (zQ) ik (kW rfl Z.EQ (ar 0))))
    (bt (iG (qW rfl C xI hr.m (ar 0) (ak (ar 1) (ak (ar 2) aA)))))))
 have Nl:=Nl Nk
 have xJ:=xJ Nl
 have Nn:=Nn xJ
 have Np:=Np C6
 have qc:=qc Nn Np
 have C7:=C7 qc
 have C8:=C8 Nq
 have Nr:=Nr C8
 have Nu:=Nu C6 Nt
 have tf:=tf Nr Nu
 have Nv:=Nv C8 tf (C7 20)
 have Nw:=Nw CZ mB Nv
 have kh:=kh CY
 have Nx:=Nx CZ mB kh
 have tj:=tj xJ
 have ki:=ki tj
 have C9:=C9 tj
 have Da:=Da tj
 have Ny:=Ny ki C9 Da
 have jQ:=jQ xJ
 have Dc:=Dc jQ qc
 have xM:=xM tj
 have Df:=Df xM qc jQ
 have Dg:=Dg jQ Df
 have Nz:=Nz xM qc jQ
 have xN:=xN xM jQ Df Nz qc
 have NB:=NB jQ C9 Da (Dc 90) tf (Dg 90) (xN 90)
 have nS:=nS xK ki Ny (xN 90) NB
 have NC:=NC mB nS kh
 have ND:=ND ki
 have xO:=xO ki jQ tf nS
 have xP:=xP ki jQ tf nS
 have NF:=NF ki ND xK nS (xO 90) (xP 90)
 have NG:=NG mB NF kh
 have NH:GF P w (dy K cls exc) mg base 6 "check_stretch" rP:=gf Z.e_ M7 λhr C hu nd =>
   (aP (bF (i:=4) nd (qW rfl C ki hr.m (ar 0) (ak (ar 1) aA)))
    (bt (bc (oC (Jk eT eT eT aO (ar 2) (ar 3) (ar 4))) oQ df)))
 have NI:=NI NH nS (xO 90) (xP 90)
 have NJ:=NJ mB NI kh
 have Dh:=Dh nS
 have NK:=NK ki xK (Dh 64)
 have NL:=NL mB NK kh
 have NM:=NM kh mB
 have NO:=NO xI
 have NP:=NP Nw Nx NC NG NJ NL NM NO Nj
 have jR:GF P w (dy K cls exc) mg base 194 "_law_word" cx:=gf Z.zn M8 λhr C hu nd =>
   (aP (bF (i:=2) nd aL)
    (aP (JC (i:=3) rfl nd rfl rfl rfl rfl rfl Z.cu_NoName Z.cu_NoText Z.cu_NoPlace Z.cu_TooLong Z.cu_NothingDone (λ_ _ Ex2 C2 R2=>(bt (bc (cy uR (bB rfl C2 NP hr.m rfl (ak (ar 0) (ak (ar 1) aA))) oA (bR _)) (bt (bF (i:=2) nd aL)) df))) (λ_ C3=>(bt (bF (i:=2) nd (aX rfl hu (dC (ak aL (ak aL aA))) (cS (KK) rfl Z.KK ie (ak (Jg rfl rfl Z.u8 (ar 3) rfl Z.kx_NoText) aA)))))) (λ_ C3=>oQ) (λ_ C3=>(bt (bF (i:=2) nd aL))))
    (bt (cW (ar 2)))))
 have tm:=tm xQ kh
 have Di:GF P w (dy K cls exc) mg base 195 "_law_run" nA:=gf Z.Ch M9 λhr C hu nd =>
   (aP (qT rfl (zm (E:=EN) rfl rfl Z.v_ (ar 1)) (qQ rfl rfl (jy (i:=3) nd (jy (i:=4) nd qP))) (aP (zf (bB rfl (C.nox) Ni hr.m rfl (ak (bB rfl (C.nox) CV hr.m rfl (ak (dC (ak (ar 4) (ak (ar 3) aA))) (ak aO aA))) (ak (aX rfl hu (aX rfl hu (ar 2) (kS aO)) aO) aA))) (qQ rfl rfl (jy (i:=5) nd (jy (i:=6) nd (jy (i:=7) nd qP)))))
    (bt (bc (cy (cw rfl hu) (ar 6) aL (bR _)) (aP (bc (cy (c9 rfl hu) (bB rfl (C.nox) jR hr.m rfl (ak (ar 0) (ak (ar 5) aA))) aL (bR _)) (bt (cW cH)) df)
    (bt (iG (gp rfl OL Pe Pf (mU) ik (ar 2) (ak (cf (ak (ar 7) (ak (bB rfl (C.nox) tm hr.m rfl (ak (ar 0) aA)) aA))) aA))))) df))))
    (bt (cW cH)))
 have Dj:=Dj jQ
 have NR:GF P w (dy K cls exc) mg base 96 "_law_shown" lT:=gf Z.ww Na λhr C hu nd =>
   (aP (bc (cy (c9 rfl hu) (qX rfl C xQ hr.m (ar 0)) (vx rfl rfl Z.D_ sX (ar 1)) (bR _)) (bt (cW cH)) df)
    (bt (cW (br (L_ rfl) rfl Z.L_ RY (ak (J1 (jf:=[(0, "house"),(1, "known")]) (zJ (N:=["house", "known"]) (sc:=bL sY) rfl (λ_=>rfl) ∅) rfl (ar 1) (λ_ _ _ _ _=>zu) (λ_ _ _ _ _=>(gD (cw rfl hu) (bB rfl (CA.never rfl) (Dj 90) hr.m rfl (ak (qX rfl (CA.never rfl) NQ hr.m (ar 1)) (ak (qW rfl (CA.never rfl) kh hr.m (ar 1) (ak (ar 0) aA)) aA))) (J2 hu (ar 2) (ar 0)) (bR _)))) aA)))))
 exact gl (T:=dy K cls exc) h4 Nb λhr C hu nd =>
   (aP (bF (i:=1) nd (uX rfl C Nd hr.m rfl))
    (aP (bF (i:=2) nd (oF (ak (cf (ak qN (ak (dC aA) aA))) aA)))
    (aP (bc (oC (qK rfl (bB rfl C Di hr.m rfl (ak (ar 1) (ak (gj (i5 rfl) (k8 rfl (ar 0) mV (j3 aO)) (dC (ak aO (ak aO (ak aO aA))))) (ak (ar 2) aA)))))) (bt (cW cH)) df)
    (aP (bF (i:=3) nd (bB rfl C CV hr.m rfl (ak (ar 0) (ak aO aA))))
    (aP (bF (i:=4) nd (bB rfl C fP hr.m rfl (ak (ar 3) (ak (br (No rfl) rfl Z.No Pd (ak (ar 2) aA)) aA))))
    (aP (bF (i:=5) nd (oF aA))
    (aP (qT rfl (uV (E:=EN) rfl Z.H_ (ar 4)) (uU (i:=6) nd) (aP (bc (cy (c9 rfl hu) (bB rfl (C.nox) jR hr.m rfl (ak (ar 1) (ak (cf (ak aL aA)) aA))) aL (bR _)) (bt (cW cH)) df)
    (bt (iG (gp rfl OL Pe Pf (mU) ik (ar 5) (ak (mT rfl OL Qa Qb (rh) ik (ar 2)) aA))))))
    (aP (bc (fG (mO (cy (c9 rfl hu) (bB rfl C jR hr.m rfl (ak (ar 1) (ak (cf (ak aL (ak aL aA))) aA))) aL (bR _)) (oE (cy (c9 rfl hu) (bB rfl C jR hr.m rfl (ak (ar 1) (ak (cf (ak aL (ak aL (ak aL aA)))) aA))) aL (bR _))))) (bt (cW cH)) df)
    (aP (qT rfl (uV (E:=EN) rfl Z.H_ (bB rfl (C.nox) fP hr.m rfl (ak (ar 3) (ak (gj (i5 rfl) (ar 4) aO) aA)))) (uU (i:=6) nd) (aP (bc (cy (c9 rfl hu) (bB rfl (C.nox) jR hr.m rfl (ak (ar 1) (ak (cf (ak aL aA)) aA))) aL (bR _)) (bt (cW cH)) df)
    (aP (iG (gp rfl OL Pe Pf (mU) ik (ar 2) (ak (mT rfl OL Qa Qb (rh) ik (ar 5)) aA)))
    (bt (bc (cy (c9 rfl hu) (bB rfl (C.nox) tm hr.m rfl (ak (ar 1) aA)) (aX rfl hu (aX rfl hu (ar 2) (kS aO)) aO) (bR _)) (bt (cW cH)) df)))))
    (aP (bF (i:=7) nd (cS vv rfl Z.IO vt (ak (aX rfl hu (aX rfl hu (ar 2) (kS aO)) aO) aA)))
    (aP (bF (i:=8) nd (cf (ak aL (ak aL (ak (bB rfl C CW hr.m rfl (ak (ar 3) (ak aO aA))) aA)))))
    (aP (bc (fG (qL (cy (Ab hu) (ar 7) qN (bR _)) (uS (cy (cw rfl hu) (bB rfl C fP hr.m rfl (ak (ar 3) (ak aO aA))) aO (bR _))))) (aP (bF (i:=9) nd (aX rfl hu (vx rfl rfl Z.D_ sX (ar 7)) aO))
    (bt (bF (i:=8) nd (aX rfl hu (dC (ak (cf (ak aL (ak (ar 9) (ak (ar 9) aA)))) (ak (cf (ak aL (ak (ar 9) (ak aO aA)))) (ak (cf (ak aL (ak (ar 9) (ak aO (ak aO aA))))) aA)))) (bB rfl C fP hr.m rfl (ak (ar 3) (ak aO aA))))))) (bt (rf hu (ar 7) aL (aX rfl hu (ar 8) aO))))
    (aP (bc (cy (c9 rfl hu) (bB rfl C jR hr.m rfl (ak (ar 1) (ak (ar 8) aA))) aL (bR _)) (bt (cW cH)) df)
    (aP (iG (gp rfl OL Pe Pf (mU) ik (ar 2) (ak (cf (ak (ar 7) (ak (bB rfl C tm hr.m rfl (ak (ar 1) aA)) aA))) aA)))
    (aP (bc (fG (mO (cy (c9 rfl hu) (bB rfl C jR hr.m rfl (ak (ar 1) (ak (cf (ak aL aA)) aA))) aL (bR _)) (oE (oC (qK rfl (bB rfl C Di hr.m rfl (ak (ar 1) (ak (k8 rfl (ar 0) (j3 aO) (j3 aO)) (ak (ar 2) aA))))))))) (bt (cW cH)) df)
    (aP (zc rm (cy iF (br (No rfl) rfl Z.No Pd (ak (ar 2) aA)) aO (bR _)) (aP (bc (fG (mO (cy (c9 rfl hu) (bB rfl (C.nox) tm hr.m rfl (ak (ar 1) aA)) (aX rfl hu (aX rfl hu (ar 2) (kS aO)) aO) (bR _)) (oE (oC (qK rfl (bB rfl (C.nox) NR hr.m rfl (ak (ar 1) (ak (aX rfl hu (aX rfl hu (ar 2) (kS aO)) aO) aA)))))))) (bt (cW cH)) df)
    (aP (iG (mT rfl OL Qa Qb (rh) ik (ar 2)))
    (bt (bc (cy (c9 rfl hu) (bB rfl (C.nox) jR hr.m rfl (ak (ar 1) (ak (cf (ak aL aA)) aA))) aL (bR _)) (bt (cW cH)) df)))))
    (bt (cW (uT (gD (cw rfl hu) (qX rfl C xQ hr.m (ar 1)) (dC aA) (bR _)) (jv (gD (cw rfl hu) (bB rfl C jR hr.m rfl (ak (ar 1) (ak (cf (ak aL aA)) aA))) aL (bR _))))))))))))))))))))))
end
abbrev FX(l:PySem.W.OpenLaw)(w:ZF)(K:ZA)(mg:Str->Option ZC)(fa:ZE):Prop:=∃ fd:FuncData,(∀ (s:ZB) (v:ZC),BindsTo s fd ⟨[v],[]⟩ [("script",v)])/\∀ base:Heap,K.In base->base.Ns mainGlobals mg->FnOk l.prog w K mg base (cU l.prog w) 196 fa fd ["script"] (vf K)
def all_mk {l:PySem.W.OpenLaw} {w:ZF} {K:ZA} {h:Heap} {mg:Str->Option ZC} {fa C0 C1 X0 X1 X2 Y_NoPlace Y_TooLong:ZE} {tk_LEAF_SIGNS tk_NAME_SIGNS tk_MOST_PLAIN tk_MOST_SIGNS:Tok} (X:K.In h) (G:h.Ns mainGlobals mg) (hfa:mg "law"=some (.ref fa))
  (aC0:NA K "Shelf" (some (.ref C0))) (aC1:NA K "House" (some (.ref C1))) (a0:DN K C0 "__init__" "Shelf.__init__" BG) (a1:DN K C1 "__init__" "House.__init__" xx) (a10:DN K C1 "set_text" "House.set_text" xD) (a11:DN K C1 "back" "House.back" BM) (a14:DN K C1 "do" "House.do" xE) (a16:DN K C0 "has_piece" "Shelf.has_piece" BQ) (a17:DN K C0 "check_piece" "Shelf.check_piece" BR) (a18:DN K C0 "check_fork" "Shelf.check_fork" BS) (a19:DN K C0 "lay" "Shelf.lay" BU) (a20:DN K C0 "lay_fork" "Shelf.lay_fork" BV) (a21:DN K C0 "fork" "Shelf.fork" BW) (a27:DN K C0 "lay_leaf" "Shelf.lay_leaf" B5) (a28:DN K C0 "leaf" "Shelf.leaf" B6) (a30:DN K C1 "give" "House.give" B8) (a31:DN K C1 "text" "House.text" Cb) (a32:DN K C1 "copy_of" "House.copy_of" Cc) (a34:DN K C0 "check_text" "Shelf.check_text" Ce) (a35:DN K C0 "signs" "Shelf.signs" Cf) (a36:DN K C0 "last_leaf" "Shelf.last_leaf" Cg) (a37:DN K C0 "first_leaf" "Shelf.first_leaf" Ci) (a39:DN K C0 "piece" "Shelf.piece" Ck) (a41:DN K C0 "height" "Shelf.height" Cn) (a48:DN K C1 "join_to" "House.join_to" Cu) (a53:DN K C1 "put_into" "House.put_into" CB) (a56:DN K C1 "take_from" "House.take_from" CG) (a59:DN K C1 "repeat" "House.repeat" CJ) (a60:DN K C1 "drop" "House.drop" CK) (a61:DN K C1 "again" "House.again" CL) (a64:DN K C1 "names" "House.names" CN) (a68:DN K C1 "shelf" "House.shelf" CT) (a2:DK K "_law_mixed" BH) (a3:DK K "_law_stream" BI) (a4:DK K "_law_take" BJ) (a5:DK K "_law_name" xy) (a6:DK K "_law_plain" BK) (a7:DK K "_law_given" xA) (a8:DK K "_law_changed" xB) (a9:DK K "_law_deed" xC) (a12:DK K "is_name" BN) (a13:DK K "check_name" BO) (a15:DK K "is_whole" BP) (a22:DK K "halved" BX) (a23:DK K "is_plain_sign" BY) (a24:DK K "is_plain" BZ) (a25:DK K "is_short" B3) (a26:DK K "ends_in" B4) (a29:DK K "built" B7) (a33:DK K "check_length" Cd) (a38:DK K "are_close" Cj) (a40:DK K "with_last" Cm) (a42:DK K "turned_left" Co) (a43:DK K "without_first" Cp) (a44:DK K "turned_right" Cq) (a45:DK K "linked" Cr) (a46:DK K "welded" Cs) (a47:DK K "joined" Ct) (a49:DK K "check_gap" Cv) (a50:DK K "front_of" Cw) (a51:DK K "back_of" Cy) (a52:DK K "put_in" Cz) (a54:DK K "check_stretch" xF) (a55:DK K "taken_out" CD) (a57:DK K "doubled" CH) (a58:DK K "repeated" CI) (a62:DK K "_law_do" CM) (a63:DK K "_law_word" xG) (a65:DK K "_law_numbers" CO) (a66:DK K "_law_run" xH) (a67:DK K "_law_reads" CQ) (a69:DK K "_law_shown" sY) (a70:DK K "law" sZ) (kk0:Cls K C0) (mk0:PySem.W.makesIn K C0=true) (kc0:PySem.W.keepIn K (.ref C0)=true) (nf0_0:FA K C0 "pieces") (nf0_1:FA K C0 "numbers") (nf0_2:FA K C0 "sign_counts") (nf0_3:FA K C0 "end_counts") (nf0_4:FA K C0 "leaf_counts") (nf0_5:FA K C0 "heights") (nf0_6:FA K C0 "first_leaves") (nf0_7:FA K C0 "last_leaves") (kk1:Cls K C1) (mk1:PySem.W.makesIn K C1=true) (kc1:PySem.W.keepIn K (.ref C1)=true) (nf1_0:FA K C1 "own_shelf") (nf1_1:FA K C1 "texts") (nf1_2:FA K C1 "deeds") (nf1_3:FA K C1 "taken_back") (z_abs:NA K "abs" none) (z_all:NA K "all" none) (z_bool:NA K "bool" none) (z_dict:NA K "dict" none) (z_enumerate:NA K "enumerate" none) (z_int:NA K "int" none) (z_isinstance:NA K "isinstance" none) (z_len:NA K "len" none) (z_max:NA K "max" none) (z_min:NA K "min" none) (z_range:NA K "range" none) (z_sorted:NA K "sorted" none) (z_str:NA K "str" none) (z_sum:NA K "sum" none) (e_NoText:NA K "NoText" (some (.ref X0))) (E_:XI K X0) (e_NoName:NA K "NoName" (some (.ref X1))) (Go:XI K X1) (e_NothingDone:NA K "NothingDone" (some (.ref X2))) (jp:XI K X2) (em_NoName_0:XF K X0 X1) (em_NoName_1:XO K X1 X1) (em_NoName_2:XF K X2 X1) (e_NoPlace:NA K "NoPlace" (some (.ref Y_NoPlace))) (em_NoPlace_0:XF K X0 Y_NoPlace) (em_NoPlace_1:XF K X1 Y_NoPlace) (em_NoPlace_2:XF K X2 Y_NoPlace) (em_NoText_0:XO K X0 X0) (em_NoText_1:XF K X1 X0) (em_NoText_2:XF K X2 X0) (em_NothingDone_0:XF K X0 X2) (em_NothingDone_1:XF K X1 X2) (em_NothingDone_2:XO K X2 X2) (e_TooLong:NA K "TooLong" (some (.ref Y_TooLong))) (em_TooLong_0:XF K X0 Y_TooLong) (em_TooLong_1:XF K X1 Y_TooLong) (em_TooLong_2:XF K X2 Y_TooLong) (m_LEAF_SIGNS:NA K "LEAF_SIGNS" (some (.int 8 tk_LEAF_SIGNS))) (m_NAME_SIGNS:NA K "NAME_SIGNS" (some (.int 8 tk_NAME_SIGNS))) (m_MOST_PLAIN:NA K "MOST_PLAIN" (some (.int 10000 tk_MOST_PLAIN))) (m_MOST_SIGNS:NA K "MOST_SIGNS" (some (.int 1000000000000000000 tk_MOST_SIGNS))) (y0:cE K X0) (y1:cE K X1) (y2:cE K X2) (kt_NoText_0:KO K X0 X0 true) (kt_NoText_1:KO K X1 X0 false) (kt_NoText_2:KO K X2 X0 false)
  : FX l w K mg fa:=by
 have Z:∀ base:Heap,K.In base->Facts l.prog w K (λn=>[C0,C1][n]?) (λn=>[X0,X1,X2][n]?) mg base:=λbase KB=>{
   LT:=OU X G z_abs,
   L_:=OU X G z_all,
   IN:=OU X G z_bool,
   IO:=OU X G z_dict,
   v_:=OU X G z_enumerate,
   KK:=OU X G z_int,
   u8:=OU X G z_isinstance,
   No:=OU X G z_len,
   I_:=OU X G z_max,
   J_:=OU X G z_min,
   H_:=OU X G z_range,
   D_:=OU X G z_sorted,
   M_:=OU X G z_str,
   K_:=OU X G z_sum,
   o_:=⟨_,O4 X G m_LEAF_SIGNS⟩,
   r_:=⟨_,O4 X G m_NAME_SIGNS⟩,
   sB:=⟨_,O4 X G m_MOST_PLAIN⟩,
   pi:=⟨_,O4 X G m_MOST_SIGNS⟩,
   G_:=⟨C0,rfl,kk0,λf hf=>by
   have hf2:f∈fk 0:=hf;simp only[fk,Ov,PZ,Sj] at hf2
   rcases hf2 with rfl|rfl|rfl|rfl|rfl|rfl|rfl|rfl
   ·exact nf0_0
   ·exact nf0_1
   ·exact nf0_2
   ·exact nf0_3
   ·exact nf0_4
   ·exact nf0_5
   ·exact nf0_6
   ·exact nf0_7⟩,
   EQ:=⟨C1,rfl,kk1,λf hf=>by
   have hf2:f∈fk 1:=hf;simp only[fk,Ov,PZ,Sj] at hf2
   rcases hf2 with rfl|rfl|rfl|rfl
   ·exact nf1_0
   ·exact nf1_1
   ·exact nf1_2
   ·exact nf1_3⟩,
   E_:=gx KB X G rfl e_NoText E_,
   Go:=gx KB X G rfl e_NoName Go,
   jp:=gx KB X G rfl e_NothingDone jp,
   t_:=di rfl (O4 X G aC0) mk0 kc0 a0 fJ,
   ss:=di rfl (O4 X G aC1) mk1 kc1 a1 fJ,
   wE:=dg X G a2 cX,
   p_:=dg X G a3 cX,
   x0:=dg X G a4 cX,
   xz:=dg X G a5 d0,
   wP:=dg X G a6 cX,
   v4:=dg X G a7 cX,
   m_:=dg X G a8 cX,
   xL:=dg X G a9 cX,
   d_:=dm rfl kk1 a10 d0,
   q_:=dm rfl kk1 a11 fJ,
   AT:=dg X G a12 fJ,
   sK:=dg X G a13 fJ,
   wT:=dm rfl kk1 a14 d0,
   wS:=dg X G a15 fJ,
   bv:=dm rfl kk0 a16 cX,
   ac:=dm rfl kk0 a17 cX,
   am:=dm rfl kk0 a18 d0,
   u_:=dm rfl kk0 a19 cX,
   cr:=dm rfl kk0 a20 cX,
   sw:=dm rfl kk0 a21 d0,
   F_:=dg X G a22 cX,
   h_:=dg X G a23 fJ,
   w_:=dg X G a24 fJ,
   y_:=dg X G a25 fJ,
   B_:=dg X G a26 fJ,
   dL:=dm rfl kk0 a27 cX,
   ul:=dm rfl kk0 a28 cX,
   Id:=dg X G a29 cX,
   ut:=dm rfl kk1 a30 d0,
   on:=dm rfl kk1 a31 cX,
   ge:=dm rfl kk1 a32 d0,
   io:=dg X G a33 fJ,
   bi:=dm rfl kk0 a34 cX,
   n_:=dm rfl kk0 a35 cX,
   b_:=dm rfl kk0 a36 cX,
   a_:=dm rfl kk0 a37 cX,
   wf:=dg X G a38 d0,
   mt:=dm rfl kk0 a39 cX,
   wr:=dg X G a40 d0,
   i_:=dm rfl kk0 a41 cX,
   nw:=dg X G a42 d0,
   f_:=dg X G a43 cX,
   ii:=dg X G a44 d0,
   C_:=dg X G a45 d0,
   Ev:=dg X G a46 d0,
   Fa:=dg X G a47 d0,
   g_:=dm rfl kk1 a48 d0,
   v0:=dg X G a49 d0,
   x_:=dg X G a50 d0,
   BT:=dg X G a51 d0,
   Cl:=dg X G a52 oS,
   c_:=dm rfl kk1 a53 oS,
   e_:=dg X G a54 oS,
   wv:=dg X G a55 oS,
   ci:=dm rfl kk1 a56 oS,
   A_:=dg X G a57 d0,
   z_:=dg X G a58 d0,
   jn:=dm rfl kk1 a59 d0,
   s_:=dm rfl kk1 a60 cX,
   k_:=dm rfl kk1 a61 fJ,
   Db:=dg X G a62 cX,
   zn:=dg X G a63 cX,
   ol:=dm rfl kk1 a64 fJ,
   j_:=dg X G a65 fJ,
   Ch:=dg X G a66 d0,
   wn:=dg X G a67 cX,
   l_:=dm rfl kk1 a68 fJ,
   ww:=dg X G a69 cX,
   LE:=dg X G a70 fJ,
   kx_NoText:=⟨X0,O4 X G e_NoText,(λc C' h=>match c,C',h with
    |0,_,rfl=>⟨y0,kt_NoText_0⟩
    |1,_,rfl=>⟨y1,kt_NoText_1⟩
    |2,_,rfl=>⟨y2,kt_NoText_2⟩
    |_+3,_,h=>nomatch h)⟩,
   cu_NoName:=⟨X1,O4 X G e_NoName,(λc C' h=>match c,C',h with
    |0,_,rfl=>em_NoName_0
    |1,_,rfl=>em_NoName_1
    |2,_,rfl=>em_NoName_2
    |_+3,_,h=>nomatch h)⟩,
   cu_NoPlace:=⟨Y_NoPlace,O4 X G e_NoPlace,(λc C' h=>match c,C',h with
    |0,_,rfl=>em_NoPlace_0
    |1,_,rfl=>em_NoPlace_1
    |2,_,rfl=>em_NoPlace_2
    |_+3,_,h=>nomatch h)⟩,
   cu_NoText:=⟨X0,O4 X G e_NoText,(λc C' h=>match c,C',h with
    |0,_,rfl=>em_NoText_0
    |1,_,rfl=>em_NoText_1
    |2,_,rfl=>em_NoText_2
    |_+3,_,h=>nomatch h)⟩,
   cu_NothingDone:=⟨X2,O4 X G e_NothingDone,(λc C' h=>match c,C',h with
    |0,_,rfl=>em_NothingDone_0
    |1,_,rfl=>em_NothingDone_1
    |2,_,rfl=>em_NothingDone_2
    |_+3,_,h=>nomatch h)⟩,
   cu_TooLong:=⟨Y_TooLong,O4 X G e_TooLong,(λc C' h=>match c,C',h with
    |0,_,rfl=>em_TooLong_0
    |1,_,rfl=>em_TooLong_1
    |2,_,rfl=>em_TooLong_2
    |_+3,_,h=>nomatch h)⟩ }
 obtain⟨fd,h1,F⟩:=vi (p := "script") X G hfa a70 fJ;exact⟨fd,h1,λbase KB _=>FnOk.imp (NU (Z base KB) F) (Je (T:=dy K (λn=>[C0,C1][n]?) (λn=>[X0,X1,X2][n]?)) law_true)⟩
def walk{l:PySem.W.OpenLaw}{q:ZD}{loose:List Str}{XP:(Str->Option ZC)->Heap->Prop}{YP:ZF->Heap->Prop}{d:DefRec}{K:Params->ZA}(hn:l.most=some 63)(hdf:d.params.defaults=[])
  (hY:∀ (w:ZF) (h:Heap),YP w h->(K w.params).In h)
  (F:∀ (w:ZF) (mg:Str->Option ZC) (fa:ZE) (h:Heap),(K w.params).In h->h.Ns mainGlobals mg->mg d.name=some (.ref fa)->FX l w (K w.params) mg fa) :
  PySem.W.WalkO q loose XP YP l.row.toRowW d [] (λf vs=>PySem.call f vs) :=(
 L2.walk_of (n:=63) (k:=196) (x := "script") (CX:=λw=>cU l.prog w) (sp:=λw=>vf (K w.params)) hn 'd' hdf ⟨rfl,by decide,by decide⟩ hY F (λ_ _ a ns hl _ hS=>⟨a,ns,rfl,hS,hl,λ_=>rfl⟩) λ_ _ _ _ _ z=>Jf z)
end Sk
end
end Lake
open Lake PySem PySem.W PyProof.Rows
section
structure PySem.W.Fast:Prop where(tw7919724556824516584 tw12374213674956336980 tw8990832831258877951 tw512777126485080063 tw9168771306538796031 tw4755490358215444351 tw7619969904757983103 tw9612793917467292479 tw14130518950078650143 tw8279166717725289183 tw14053118060509641375 tw8187216162425400959 tw15744587603106882175 tw14090382074249920127 tw4719468384409946559 tw14773464705235351935 tw3096237642707853599 tw6714836825051290911 tw11550196671720020255 tw10640391331448102175 tw15477440460036703487 tw7593082212773070079 tw1353339263353812191 tw5426574345700392159 tw17213059489476887775 tw4991988024921313471 tw13799427667199881247 tw12742760798566184926 tw3063192300547361726 tw2392305109123833758 tw15094539964102733726 tw11961531431787121534 tw9262778826368954238 tw17604134079066772286 tw583249518135416606 tw17359971438871316190 tw3282055227792227006 tw6788086901229974142 tw2895481962625983102 tw7764879413936046526 tw5137076666879052190 tw15431538084771934622 tw11394583292346479006 tw16653997707141828990 tw12679461820584311134 tw4320012300966602078 tw11146243577409530142 tw13806130329736860958 tw2153821444174343390 tw10426681128323864798 tw7574708601238551646 tw2555948636219373662 tw4516501897633311709 tw15307309743262768093 tw10558929288534344573 tw14104823280798156605 tw4873677008939748157 tw11034962419323882269 tw5151232674662535933 tw6157415906476557053 tw13784067988614515421 tw17144569744764865149 tw10427404919526469213 tw4847998030435470941 tw262062933990156765 tw12233309865995119037 tw13503829990052419997 tw4119568888262913405 tw5731781530042729853 tw87009663666452797 tw10446317089097344317 tw5558605580839618877 tw12050946652805884189 tw17988223149580966141 tw17712535586436168957 tw6378205898825331933 tw4714102805452174525 tw4127777445456645277 tw12679601046808956029 tw8397484872762793053 tw8441704488620230749 tw11597206029488752733 tw17775031255905803325 tw12431317287098465309 tw13064790938444468253 tw16236637411999390684 tw115995758656102332 tw6311869890449291132 tw5315350660411149148 tw5278498157618288348 tw2028670005861821148 tw12339356200019273436 tw2520659884363153052 tw18229761106482838140 tw14155333528242051676 tw18235243817645565500 tw15861902942888870428 tw6290243959284578844 tw10029865053343783356 tw3703876514048011644 tw6615326050069334396 tw3573083400047973724 tw14453342774779991388 tw6870945231668267356 tw2592853523364064604 tw16040407798897775964 tw9958845633144511804 tw200342576869123388 tw6252586693113316636 tw13238199150168957180 tw1537788290237302972 tw18222751001444374684 tw3236814679328930972 tw10948552145886236764 tw11519561514933252156 tw13496488709582887931 tw2647700251859497947 tw4538259303294375803 tw11860458856543367963 tw1361761197112906491 tw12522094648607558299 tw14226300522816850395 tw4042543955022353883 tw2878885751071667643 tw1297288249712231803 tw1678017667447710043 tw9191160839543529755 tw4690313998367659291 tw6220729889577734395 tw400775926922258619 tw3536159809451480219 tw12090912203201798267 tw1596313776796218491 tw18250292922641124379 tw8975817481887639546 tw2222623375381608410 tw16540418818357409754 tw853814288679665594 tw14041342672688726970 tw2753007278249112474 tw5045184213278214010 tw12272912503189523322 tw13232175284272015194 tw15681034159020088154 tw16988174182861428538 tw5963160228804207418 tw4262082781786234618 tw13332391593339959866 tw1541685195689333274 tw1631567819431532986 tw5349210262353456538 tw4717558964940312986 tw14028759234617809242 tw3086244676340102458 tw4550895412667330778 tw12613036331792826586 tw8432323700806079642 tw7289763523772479610 tw14309327030823539802 tw7665082375770835002 tw9458263781285026842 tw8987879612916974521 tw2088079849509499833 tw3195261350936624057 tw514963875429175193 tw2582831536626120537 tw11845349561530755641 tw14436174341493629497 tw981105351712136729 tw13610150948117256697 tw15406470971201008089 tw2729561644390679001 tw4568130269353020857 tw12469386316653861177 tw8485414145030049081 tw728584173041465561 tw5166040805040723001 tw3008840895328032825 tw759903798999407576 tw5491583227266290584 tw1362188548484528920 tw14587315085000425176 tw1789097801172142712 tw18403538209807887928 tw13861830574284080664 tw10207201193754152472 tw792571828159956472 tw16924186505550022136 tw8396386892628464120 tw9985556741187480024 tw17307413407733660120 tw11502046158293981592 tw16521508758199281016 tw2301720978767271288 tw1057223102951250264 tw17568335356792102200 tw8603432767781668056 tw16695872537225981112 tw5556387022717828216 tw15325368234290134136 tw10011202739716200568 tw17223150327538737176 tw13088876857869919191 tw4314598102739543959 tw13893711169512663895 tw3209363509948171095 tw14409934963217391415 tw8009554767643052791 tw6110277131736003319 tw13722076959086716631 tw16623676539437933239 tw14974419683631347383 tw4070618793996430007 tw10774956223244901047 tw10371465523845813879 tw1356639665978656343 tw8795553994923995703 tw9310714739624750615 tw12112290358011396631 tw16542468827971860983 tw15299495776592823607 tw386455157744102679 tw9328127755751090455 tw13125554021780401431 tw3460626020347781367 tw12928995797770017015 tw14065667101784826071 tw14869874086752431319 tw6975557420189547703 tw14883657437801027735 tw7042259191362373719 tw776849641517237206 tw2643521941358476214 tw8676077610417128342 tw3623206476607226774 tw670534870141599574 tw12083122989714244438 tw16437749865921113910 tw11243115991448807222 tw15149784624295617302 tw10953172629312649942 tw13912856244408044246 tw10758794422458500758 tw16117344187504949910 tw7386431763181126294 tw5872054454676779638 tw4546999114741210742 tw2263386971835031126 tw991251901654684214 tw7418701839193047574 tw4259728828499933622 tw3608700080870823286 tw12085275292011398518 tw4990331612275664214 tw9264138023163472150 tw6972193658370631894 tw12613648810829902038 tw7703708078882396342 tw11423344690584720566 tw17456916356177829014 tw17952721293659944022 tw16784474488548249654 tw16868633554022669334 tw5617648975822149621 tw16093917523918926741 tw10808434663583121269 tw7992384473517577077 tw7560779291721993045 tw8868066515516144405 tw15339122449552739093 tw17538243419039220405 tw10254851868127532693 tw13693555343401476725 tw18302431942589125237 tw14232332528418181589 tw16207276914665646485 tw4698506483625805205 tw7823595200914266453 tw3741897583536248085 tw17619129416946677013 tw3558191511953566933 tw2146170305160947733 tw4500985751920725013 tw14401927531438630900 tw3926484899354139636 tw6832798955086616564 tw495704190130438036 tw15455709796006987636 tw3976477980799761236 tw11193734120867739476 tw9896749695398089524 tw18202660888811093748 tw13664651321073578740 tw5253310186989173428 tw1008653366602534420 tw4090734273422949844 tw1141648125617887668 tw10076831210365325684 tw9011411868872446292 tw11067718649931308148 tw6557041389115858036 tw15769642296771214195 tw4859620569685848947 tw11130620952154809203 tw14377351992684874547 tw9935106218572717875 tw13316423239577592563 tw5040963755860911699 tw15592295950571113011 tw9002968049980591635 tw15880598290065236435 tw3156365943669005715 tw16500852108210776467 tw10438756376484437299 tw13744892078627882163 tw10185498011044769843 tw7072887079666307123 tw4131304605253025778 tw2623070705716840370 tw620029956717932370 tw8879805818347808594 tw6524178184948495154 tw10335794975929344786 tw15362676189173825266 tw16724138372710765234 tw3631881695189850770 tw1506766685845109330 tw533797330197681714 tw1778089370433563026 tw6292650188869678482 tw15929635390936541586 tw15288898649855164754 tw1600981947796840754 tw4563301774649700658 tw18039924394279070994 tw217234759749335282 tw3109976426592518354 tw7219973995839197394 tw3874690320415362258 tw6743558873713275058 tw2763586116307231858 tw5143470806866534514 tw1202027443142274066 tw18417274841214404561 tw2167598264310052817 tw1269111809074674577 tw13998114902780456849 tw4637245855490924401 tw8306052028116369265 tw5940826120256839473 tw8820111631705533169 tw2706942798948430545 tw9230205374959426257 tw12701402557075476145 tw6741117480387102257 tw14185612639841292849 tw17155075446783363537 tw14367919455648974225 tw59413169435350353 tw10249073902960336177 tw13520851987548258609 tw18296239533973308721 tw6664824759858683121 tw3350130359025417425 tw10299366697758695633 tw4739402500440661201 tw6877472606826208465 tw16524659020649470161 tw48107589714751665 tw10821818319291532433 tw7666891264761177169 tw14510824948268188689 tw8923543272652832624 tw1003378689880018800 tw17609827201373003600 tw10647790490259937040 tw7237977971226019600 tw13085959761612461808 tw1072765075145922288 tw2343834586305590992 tw15605758410278530736 tw5576653379183881872 tw18343326755256258160 tw6690488597192590960 tw13751723672115127728 tw9305990429925016944 tw12866124999878962512 tw9997820430482416912 tw8643004684930986224 tw15220653785391599824 tw8640801403758009520 tw962315270298940592 tw9166591079121057936 tw16430531542185238672 tw17374667158476535952 tw2135872344405738608 tw5854179503908205616 tw10841639213917279215 tw8191927776192872271 tw6921237278056511215 tw15983551521913305807 tw5242259190259732111 tw10244550444685245071 tw8886642009983322735 tw8481049593565249103 tw7153689287107185231 tw5760826725211716111 tw14817642659408860591 tw2924853122454463887 tw12069944061878703471 tw15479562922473892175 tw955031955660501295 tw16995230248837738767 tw11970022969632403695 tw17431378090165566639 tw7793317187366363311 tw5179601780657546383 tw13428005553472727183 tw871747489361598575 tw15499786332341715023 tw14027058794368063535 tw13384929847433601039 tw13840249850354182094 tw11974992222859058094 tw6538843591553078190 tw17476669299096155022 tw8926860966132189070 tw22058569339528014 tw2851597427299616494 tw13401517981515931374 tw11826978838393335534 tw14082672397030999758 tw6192565647982672558 tw15337385253549387438 tw6139374529763182190 tw17226142672239799918 tw5736238450999939630 tw16872219314552256046 tw4657771132895975886 tw8638330959544446222 tw16677450268365995246 tw17107851024721449198 tw5033289028591483086 tw12410367940148426926 tw10408395966925946990 tw2730315349982451822 tw10959781227409248366 tw4469869182719645742 tw723727991767717869 tw15020156749855124333 tw4061600647963985645 tw13620103182347143917 tw12655515373336360653 tw12967982802402221773 tw9661891344679247533 tw13476131784595945101 tw5739902524237294221 tw8291235358626514573 tw10815553583534009805 tw16422225444965065133 tw802781882426749325 tw705461535501585805 tw2191891625274847597 tw4221746575677989197 tw1943813863860993357 tw3018211166176247117 tw17656504388329012525 tw13926131689497405741 tw5741976992360149261 tw12533174392415375533 tw5266082760209242253 tw9955621087623570477 tw8460905552045350957 tw4941546630427710509 tw15995647196668213261 tw1999375408231862285 tw15460661941878091756 tw13940186652187126732 tw10527479252686264108 tw5905968994005909100 tw3105032428935927404 tw16264259944657398316 tw1615145627479680556 tw4514836624505934316 tw4123984919450635756 tw6552133782440165740 tw16630078143793027340 tw1912034413774293196 tw2747354176534366348 tw740305881667925100 tw15617603625588336748 tw9325576124218055756 tw7148937187020043211 tw7446752530995189675 tw13729714303822070667 tw11855600319972175723 tw9188205306217684843 tw11052784297775591243 tw11976055427393415947 tw3056905053933403883 tw6509564091181756139 tw1561492053184735851 tw1724783305507593835 tw4749203734548589131 tw967003427944110667 tw17595835453839836683 tw15221046229871757803 tw8118820247398727083 tw2930476777614306699 tw15207756358443896139 tw12588243734097892587 tw9160207169864728779 tw10787896039670662315 tw3329432867816337515 tw12162219018734829643 tw8912601443559229483 tw14212491824700517322 tw11872990639225885610 tw9393923723905749898 tw14701140832949604170 tw11438319165602357034 tw14341448471985156810 tw16644163390732131978 tw2802545608662088298 tw15025049370771477098 tw13503338549069216330 tw16366384560052414026 tw4426316512169232970 tw11001102395907919274 tw17573579727516001674 tw13006111754389269898 tw1281031764250177898 tw12389294065691990378 tw10521605440860980586 tw88034447227046122 tw2609199406626051049 tw657263713783947145 tw9554743770741391241 tw4561712584883367785 tw15638977222973935401 tw9949529917453242121 tw10421371919375033065 tw6753907783659449065 tw2919667850627501769 tw12396836578055506569 tw10397139963449530985 tw2112172932879639049 tw17707060501382652393 tw11057330137755097513 tw1908284509315052937 tw13650840276071262601 tw3167232828936663401 tw393321374708178281 tw1976151869314205961 tw15978500254485770441 tw15241115627191381065 tw17259337349101006889 tw14555001369804812232 tw6647090444944236456 tw1553384614386320232 tw6518548622244929384 tw8503201119599039304 tw7370856904778801960 tw14248769465263278888 tw7520852446145878792 tw10882610385169928904 tw15958467174160213704 tw1549053280979820232 tw7364852126749393608 tw540125771220741768 tw8191023279039789704 tw1399108322470664840 tw10187112623260141192 tw13960092703957234280 tw5760605854519648840 tw5976324562872263240 tw13822808743946440264 tw726433814949118440 tw6709676904559423976 tw11695835427720261064 tw697908847319421384 tw9914830255434816936 tw3769141640535380392 tw10699964492881255816 tw6698579865589565800 tw15085401046785378664 tw11186794923166451048 tw16994365915764699496 tw13102405443309101384 tw3492924758031064392 tw11824354035074756840 tw9513871081988696296 tw11614024897286003912 tw8547549336297439336 tw18247891187921721416 tw3793186703001929768 tw456593231630278664 tw8978982261548443495 tw12644904194194793319 tw5873555408305756007 tw7255743696902129479 tw8747677313535851111 tw2560726495633144263 tw13884142959734047143 tw11005518574619960743 tw4157644105068625287 tw7162045165345531271 tw12696158175707526471 tw15579484943556534471 tw7507563620688154823 tw6174768743802396807 tw5778837855046222951 tw7174000441775652871 tw12296335733287999430 tw16444393334999580422 tw6522495768232346374 tw1137168800380502790 tw1804082472930665190 tw9282512743305012934 tw13396982801058119366 tw4266067973431039686 tw5643733598306767558 tw11158556326388984486 tw13468506964955755142 tw7680074848763126406 tw15204208583882163814 tw1888076550302748262 tw3774504758721035750 tw11070094781079135718 tw9103463955560960486 tw7440354936662455718 tw6465617968060461382 tw17203273580574662982 tw16311960620338763046 tw15517467940876512486 tw17541449307336133830 tw3832724115786942662 tw3142761768968810662 tw12476473828656624806 tw14158398471423897734 tw12404372022186294310 tw17511411804129649637 tw14150439745766024133 tw14990019321069903813 tw14156081895627333573 tw4794173462247713701 tw8583927322619465605 tw15368999601953884005 tw5888224649040683717 tw17671464167553578629 tw13548564959482656389 tw9544587065658933893 tw10209925332100291141 tw12981745782641000869 tw5733454044531375493 tw4751464577927889125 tw3280843358416482501 tw7331922182640610469 tw9566500254414913669 tw10920029885023648708 tw14361603150509919172 tw17001262610378443684 tw6859872931263504260 tw7347565790814070628 tw1204742952999636740 tw71324772387086052 tw2307019167453077220 tw5260384204768833188 tw4485212672875490948 tw2092806442367866500 tw3057995259248253540 tw6073395551430384196 tw13028534966052142596 tw8628073971761175012 tw8183586094607271332 tw1552743291270623556 tw14499639353513175364 tw14727330489209983300 tw6582232698236856612 tw699210540404760772 tw3883665876913276996 tw14425378625663492132 tw14307341414816602116 tw9186996868665145315 tw13618793630662663139 tw9181182569970345923 tw15856195829675037571 tw7575917587158142851 tw5385077626599514979 tw2083458736179250979 tw12672964735737462499 tw18064852994108443331 tw1418109086682475171 tw16111377006165368419 tw15571418120707382691 tw10210312035652004259 tw9671992822095552867 tw17993884810382044419 tw4167916033983907043 tw11941693525256585411 tw7032684352161493187 tw6956770215316760771 tw5163540199908329603 tw5643505911701160067 tw3204340611386023043 tw10591271761688271939 tw13848486244520647683 tw10087243038914258914 tw2541646233881371586 tw2366272442119401314 tw5546296093965375330 tw12394235041777753890 tw9717801161702599426 tw6180834561904106242 tw7510106044957045474 tw16639143138406173346 tw4809900768971496034 tw18046639123888492098 tw2985360276792176994 tw10257318737660343554 tw10881297025384086690 tw18210755325359318082 tw10343350203899198498 tw2211493760343901121 tw7862116904419936033 tw11347782839683425025 tw8097464731669728001 tw13726587443765315297 tw15606171751953164929 tw11429737083964781121 tw13549262145898469921 tw867029461028666913 tw3933953200035041761 tw17195439841170789793 tw10395187438581511553 tw1954458885511506305 tw14406442078236329313 tw14399787941206580481 tw10431474346436133089 tw17494365350835204289 tw968637561635915937 tw10565725850606976129 tw208687216776237121 tw900218119827467297 tw5999228307677619233 tw6644637510655357953 tw312932657590877185 tw11217533931693758432 tw8056218189138888672 tw13142058333764738976 tw7629151303751402304 tw3004335190147463968 tw15207543402496693984 tw2941541513739267776 tw2733983183476852320 tw10637892196462443008 tw17461351037060108768 tw12835919809063282112 tw1096475307550816704 tw713313989230794144 tw12901409767542697344 tw12798468590758017408 tw11515053622302228800 tw10116215208617422048 tw2912083674122176672 tw5095529699638492320 tw9071979664642126976 tw4908525235806020704 tw7014221427155213408 tw17539798138361924672 tw17541186800138594304:True)
end
set_option maxRecDepth 100000 in
set_option maxHeartbeats 0 in
theorem PySem.Challenge.cw_skeinwood_k82_otherwise_holds : PySem.Challenge.rw_skeinwood_k82_otherwise.Holds := by
 w_on; o_law; k_head; (case hw => w_witness2)
 k_fill
 refine Sk.walk (l := PySem.Challenge.rw_skeinwood_k82_otherwise) rfl rfl (fun w h Y => PySem.W.kIn_of Y) ?F
 case F =>
  intro w mg fa h KX G hmg;refine' Sk.all_mk KX G hmg ?aC0 ?aC1 ?a0 ?a1 ?a10 ?a11 ?a14 ?a16 ?a17 ?a18 ?a19 ?a20 ?a21 ?a27 ?a28 ?a30 ?a31 ?a32 ?a34 ?a35 ?a36 ?a37 ?a39 ?a41 ?a48 ?a53 ?a56 ?a59 ?a60 ?a61 ?a64 ?a68 ?a2 ?a3 ?a4 ?a5 ?a6 ?a7 ?a8 ?a9 ?a12 ?a13 ?a15 ?a22 ?a23 ?a24 ?a25 ?a26 ?a29 ?a33 ?a38 ?a40 ?a42 ?a43 ?a44 ?a45 ?a46 ?a47 ?a49 ?a50 ?a51 ?a52 ?a54 ?a55 ?a57 ?a58 ?a62 ?a63 ?a65 ?a66 ?a67 ?a69 ?a70 ?kk0 ?mk0 ?kc0 ?nf0_0 ?nf0_1 ?nf0_2 ?nf0_3 ?nf0_4 ?nf0_5 ?nf0_6 ?nf0_7 ?kk1 ?mk1 ?kc1 ?nf1_0 ?nf1_1 ?nf1_2 ?nf1_3 ?z_abs ?z_all ?z_bool ?z_dict ?z_enumerate ?z_int ?z_isinstance ?z_len ?z_max ?z_min ?z_range ?z_sorted ?z_str ?z_sum ?e_NoText ?E_ ?e_NoName ?Go ?e_NothingDone ?jp ?em_NoName_0 ?em_NoName_1 ?em_NoName_2 ?e_NoPlace ?em_NoPlace_0 ?em_NoPlace_1 ?em_NoPlace_2 ?em_NoText_0 ?em_NoText_1 ?em_NoText_2 ?em_NothingDone_0 ?em_NothingDone_1 ?em_NothingDone_2 ?e_TooLong ?em_TooLong_0 ?em_TooLong_1 ?em_TooLong_2 ?m_LEAF_SIGNS ?m_NAME_SIGNS ?m_MOST_PLAIN ?m_MOST_SIGNS ?y0 ?y1 ?y2 ?kt_NoText_0 ?kt_NoText_1 ?kt_NoText_2
  (case aC0 => apply Sm.na;k_is)
  (case aC1 => apply Sm.na;k_is)
  (case a0 => apply Sm.dn<;>k_is)
  (case a1 => apply Sm.dn<;>k_is)
  (case a10 => apply Sm.dn<;>k_is)
  (case a11 => apply Sm.dn<;>k_is)
  (case a14 => apply Sm.dn<;>k_is)
  (case a16 => apply Sm.dn<;>k_is)
  (case a17 => apply Sm.dn<;>k_is)
  (case a18 => apply Sm.dn<;>k_is)
  (case a19 => apply Sm.dn<;>k_is)
  (case a20 => apply Sm.dn<;>k_is)
  (case a21 => apply Sm.dn<;>k_is)
  (case a27 => apply Sm.dn<;>k_is)
  (case a28 => apply Sm.dn<;>k_is)
  (case a30 => apply Sm.dn<;>k_is)
  (case a31 => apply Sm.dn<;>k_is)
  (case a32 => apply Sm.dn<;>k_is)
  (case a34 => apply Sm.dn<;>k_is)
  (case a35 => apply Sm.dn<;>k_is)
  (case a36 => apply Sm.dn<;>k_is)
  (case a37 => apply Sm.dn<;>k_is)
  (case a39 => apply Sm.dn<;>k_is)
  (case a41 => apply Sm.dn<;>k_is)
  (case a48 => apply Sm.dn<;>k_is)
  (case a53 => apply Sm.dn<;>k_is)
  (case a56 => apply Sm.dn<;>k_is)
  (case a59 => apply Sm.dn<;>k_is)
  (case a60 => apply Sm.dn<;>k_is)
  (case a61 => apply Sm.dn<;>k_is)
  (case a64 => apply Sm.dn<;>k_is)
  (case a68 => apply Sm.dn<;>k_is)
  (case a2 => apply Sm.dk<;>k_is)
  (case a3 => apply Sm.dk<;>k_is)
  (case a4 => apply Sm.dk<;>k_is)
  (case a5 => apply Sm.dk<;>k_is)
  (case a6 => apply Sm.dk<;>k_is)
  (case a7 => apply Sm.dk<;>k_is)
  (case a8 => apply Sm.dk<;>k_is)
  (case a9 => apply Sm.dk<;>k_is)
  (case a12 => apply Sm.dk<;>k_is)
  (case a13 => apply Sm.dk<;>k_is)
  (case a15 => apply Sm.dk<;>k_is)
  (case a22 => apply Sm.dk<;>k_is)
  (case a23 => apply Sm.dk<;>k_is)
  (case a24 => apply Sm.dk<;>k_is)
  (case a25 => apply Sm.dk<;>k_is)
  (case a26 => apply Sm.dk<;>k_is)
  (case a29 => apply Sm.dk<;>k_is)
  (case a33 => apply Sm.dk<;>k_is)
  (case a38 => apply Sm.dk<;>k_is)
  (case a40 => apply Sm.dk<;>k_is)
  (case a42 => apply Sm.dk<;>k_is)
  (case a43 => apply Sm.dk<;>k_is)
  (case a44 => apply Sm.dk<;>k_is)
  (case a45 => apply Sm.dk<;>k_is)
  (case a46 => apply Sm.dk<;>k_is)
  (case a47 => apply Sm.dk<;>k_is)
  (case a49 => apply Sm.dk<;>k_is)
  (case a50 => apply Sm.dk<;>k_is)
  (case a51 => apply Sm.dk<;>k_is)
  (case a52 => apply Sm.dk<;>k_is)
  (case a54 => apply Sm.dk<;>k_is)
  (case a55 => apply Sm.dk<;>k_is)
  (case a57 => apply Sm.dk<;>k_is)
  (case a58 => apply Sm.dk<;>k_is)
  (case a62 => apply Sm.dk<;>k_is)
  (case a63 => apply Sm.dk<;>k_is)
  (case a65 => apply Sm.dk<;>k_is)
  (case a66 => apply Sm.dk<;>k_is)
  (case a67 => apply Sm.dk<;>k_is)
  (case a69 => apply Sm.dk<;>k_is)
  (case a70 => apply Sm.dk<;>k_is)
  (case kk0 => constructor<;>k_is)
  (case mk0 => k_is)
  (case kc0 => k_is)
  (case nf0_0 => apply Sm.fatt;k_is)
  (case nf0_1 => apply Sm.fatt;k_is)
  (case nf0_2 => apply Sm.fatt;k_is)
  (case nf0_3 => apply Sm.fatt;k_is)
  (case nf0_4 => apply Sm.fatt;k_is)
  (case nf0_5 => apply Sm.fatt;k_is)
  (case nf0_6 => apply Sm.fatt;k_is)
  (case nf0_7 => apply Sm.fatt;k_is)
  (case kk1 => constructor<;>k_is)
  (case mk1 => k_is)
  (case kc1 => k_is)
  (case nf1_0 => apply Sm.fatt;k_is)
  (case nf1_1 => apply Sm.fatt;k_is)
  (case nf1_2 => apply Sm.fatt;k_is)
  (case nf1_3 => apply Sm.fatt;k_is)
  (case z_abs => apply Sm.na;k_is)
  (case z_all => apply Sm.na;k_is)
  (case z_bool => apply Sm.na;k_is)
  (case z_dict => apply Sm.na;k_is)
  (case z_enumerate => apply Sm.na;k_is)
  (case z_int => apply Sm.na;k_is)
  (case z_isinstance => apply Sm.na;k_is)
  (case z_len => apply Sm.na;k_is)
  (case z_max => apply Sm.na;k_is)
  (case z_min => apply Sm.na;k_is)
  (case z_range => apply Sm.na;k_is)
  (case z_sorted => apply Sm.na;k_is)
  (case z_str => apply Sm.na;k_is)
  (case z_sum => apply Sm.na;k_is)
  (case e_NoText => apply Sm.na;k_is)
  (case E_ => apply Sm.xi;k_exc)
  (case e_NoName => apply Sm.na;k_is)
  (case Go => apply Sm.xi;k_exc)
  (case e_NothingDone => apply Sm.na;k_is)
  (case jp => apply Sm.xi;k_exc)
  (case em_NoName_0 => apply Sm.xf<;>kts_exm)
  (case em_NoName_1 => apply Sm.xo;kts_exm)
  (case em_NoName_2 => apply Sm.xf<;>kts_exm)
  (case e_NoPlace => apply Sm.na;k_is)
  (case em_NoPlace_0 => apply Sm.xf<;>kts_exm)
  (case em_NoPlace_1 => apply Sm.xf<;>kts_exm)
  (case em_NoPlace_2 => apply Sm.xf<;>kts_exm)
  (case em_NoText_0 => apply Sm.xo;kts_exm)
  (case em_NoText_1 => apply Sm.xf<;>kts_exm)
  (case em_NoText_2 => apply Sm.xf<;>kts_exm)
  (case em_NothingDone_0 => apply Sm.xf<;>kts_exm)
  (case em_NothingDone_1 => apply Sm.xf<;>kts_exm)
  (case em_NothingDone_2 => apply Sm.xo;kts_exm)
  (case e_TooLong => apply Sm.na;k_is)
  (case em_TooLong_0 => apply Sm.xf<;>kts_exm)
  (case em_TooLong_1 => apply Sm.xf<;>kts_exm)
  (case em_TooLong_2 => apply Sm.xf<;>kts_exm)
  (case m_LEAF_SIGNS => apply Sm.na;k_is)
  (case m_NAME_SIGNS => apply Sm.na;k_is)
  (case m_MOST_PLAIN => apply Sm.na;k_is)
  (case m_MOST_SIGNS => apply Sm.na;k_is)
  (case y0 => apply Sm.excK_of<;>k_is)
  (case y1 => apply Sm.excK_of<;>k_is)
  (case y2 => apply Sm.excK_of<;>k_is)
  (case kt_NoText_0 => apply Sm.ko;kit_is)
  (case kt_NoText_1 => apply Sm.ko;kit_is)
  (case kt_NoText_2 => apply Sm.ko;kit_is)
