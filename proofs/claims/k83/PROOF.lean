import PyProof.Rows.All
import Wide.All
import OpenK.AllK
import Wide.FinOn
import Lean
import PyProof.EqAt
import PyProof.EqKinds
import PyProof.TupleCall
import PyProof.StrCalls2
import PyProof.SumAny
import PyProof.Rows.Range3
import PyProof.StrBlockI
import PyProof.SliceStr2
import PyProof.IsRules
import PyProof.StrBlock2
import PyProof.Seq
import PyProof.Rows.SortStr
import PyProof.Rows.SortShellK
import KE.KDictOf
import KE.KDictList
import KE.KTryMore
import KE.KEqDict
import PyProof.StrLawsIn
import PySem.Challenge.RW_skeinwood_k83_whole_elder_texts_stay
set_option Elab.async false
set_option genSizeOf false
set_option bootstrap.genMatcherCode false
set_option compiler.extract_closed false
set_option compiler.postponeCompile true
set_option linter.all false
set_option maxRecDepth 100000
local macro_rules|`(⋯)=>`(by lia)
local macro_rules|`(∅)=>`(by decide +kernel)
local macro_rules|`(tactic|exists$t)=>`(tactic|with_reducible show$t)
local macro_rules|`(‹$t›)=>match t with|`(_)=>Lean.Macro.throwUnsupported|_=>`(autoParam $t $(Lean.mkIdent `L2.Ds._auto_1))
local macro_rules|`(def$n:declId$s:optDeclSig$v:declVal)=>`(noncomputable def$n:declId$s:optDeclSig$v:declVal)
local macro_rules|`('d')=>`(by decide)
local macro_rules|`('s')=>`(by simp)
local macro_rules|`(def$n:declId$s:optDeclSig:=($t))=>`(theorem$n:declId$(⟨Lean.mkNode `Lean.Parser.Command.declSig #[s.raw[0],s.raw[1][0]]⟩):declSig:=$t)
local macro_rules|`(def$n:declId$s:optDeclSig:=by$t:tacticSeq)=>`(theorem$n:declId$(⟨Lean.mkNode `Lean.Parser.Command.declSig #[s.raw[0],s.raw[1][0]]⟩):declSig:=by$t:tacticSeq)
local macro_rules|`(abbrev$n:declId$s:optDeclSig$v:declVal)=>`(noncomputable abbrev$n:declId$s:optDeclSig$v:declVal)
local macro_rules|`(@[simp]def$n:declId$s:optDeclSig$v:declVal)=>`(@[simp]noncomputable def$n:declId$s:optDeclSig$v:declVal)
noncomputable section
section
open PySem PySem.Spec PyProof.Rows
abbrev ZA:=PySem.W.Frag
abbrev ZB:=PySem.Shared
abbrev ZC:=PySem.Value
abbrev ZD:=PySem.Program
abbrev ZE:=PySem.Addr
abbrev ZF:=PySem.World
abbrev ZG:=PySem.Around
def Ni:=@List.getElem?_eq_some_iff
def Nj:=@wpAny_bind
def Nk:=@Nat.le_refl
def Nl:=@List.getElem?_set_ne
def Nn:=@if_pos
def Np:=@Nat.le_trans
def Nq:=@Heap.get?_push_of_some
def Nr:=@if_neg
def Nt:=@List.getElem?_append_left
def Nu:=@wpAny_pure
def Nv:=@List.getElem?_set_self
def Nw:=@List.length_map
def Nx:=@List.getElem?_eq_getElem
def Ny:=@Heap.lt_size
def Nz:=@Nat.lt_of_le_of_lt
def NB:=@List.size_toArray
def NC:=@Heap.get?_push_size
def ND:=@List.mem_cons
def NF:=@List.getElem?_append_right
def NG:=@Option.map_eq_some_iff
def NH:=@Nat.lt_of_lt_of_le
def NI:=@wpAny_truthy_bool
def NJ:=@decide_eq_false
def NK:=@List.mem_append_left
def NL:=@List.mem_of_getElem?
def NM:=@Bool.false_ne_true
def NO:=@decide_eq_true
def NP:=@Option.isSome_iff_exists
def NQ:=@Nat.add_le_add_left
def NR:=@List.mem_append_right
def NU:=@Nat.zero_le
def NV:=@List.length_append
def NW:=@List.map_cons
def NX:=@Nat.ne_of_lt
def NY:=@List.getElem?_map
def NZ:=@List.mem_cons_of_mem
def N7:=@Bool.and_eq_true
def N8:=@Option.some.inj
def N9:=@List.take_of_length_le
def Oa:=@List.all_eq_true
def Ob:=@PySem.W.mg_none_of
def Oc:=@wpAny_mono
def Oe:=@List.mem_append
def Of:=@List.length_set
def Og:=@List.map_append
def Oh:=@PySem.F.plainAttrs_list
def Oi:=@wpAny_holding
def Oj:=@List.prefix_refl
def Ol:=@List.mem_cons_self
def Om:=@PySem.W.mg_of
def On:=@List.nodup_cons
def Oq:=@List.find?_cons
def Os:=@List.length_cons
def Ot:=@List.length_take
def Ou:=@PySem.W.kia_one
def Ov:=@PySem.boot_len
def Ow:=@List.length_replicate
def Ox:=@Array.all_eq_true_iff_forall_mem
def Oy:=@List.drop_of_length_le
def Oz:=@decide_eq_true_eq
def OA:=@PyProof.Rows.boot_max
def OB:=@Int.eq_ofNat_of_zero_le
def OC:=@PyProof.Rows.callWith_type1
def OD:=@PySem.mem_of_lookup
def OE:=@Bool.eq_iff_iff
def OF:=@Nat.not_lt_zero
def OG:=@Option.isNone_iff_eq_none
def OH:=@PySem.F.slot_dict_get
def OI:=@List.pairwise_cons
def OJ:=@wpAny_call_entry
def OK:=@Nat.lt_irrefl
def OL:=@List.any_cons
def OM:=@PySem.F.slot_list_append
def OO:=@PySem.F.type_list_append
def OP:=@List.getElem?_replicate
def OQ:=@List.length_eq_zero_iff
def OS:=@wpAny_newObj_type
def OT:=@Int.max_eq_left
def OU:=@wpAny_loadPart'
def OV:=@Array.length_toList
def OW:=@Calls.callWith_builtin
def OX:=@List.length_drop
def OY:=@List.filter_cons
def OZ:=@List.getElem_mem
def O0:=@List.not_mem_nil
def O1:=@tupleKind_room_in1
def O2:=@List.getElem?_eq_none
def O3:=@PySem.typeIs_bool
def O4:=@Calls.evalArgs_plain
def O5:=@if_true
def O6:=@List.map_congr_left
def O7:=@Heap.SameBut.update
def O8:=@PySem.F.plainAttrs_dict
def O9:=@Int.max_eq_right
def Pa:=@PySem.F.slot_bool_hash
def Pb:=@Calls.spliced_cons
def Pd:=@PySem.F.entry_dict_get
def Pe:=@List.mem_singleton
def Pf:=@List.getElem?_take
def Pg:=@Nat.min_eq_left
def Ph:=@Heap.get?_update_self
def Pi:=@wpAny_callSpecialIfBoundUnlessNone?_slot
def Pj:=@Option.isSome_map
def Pk:=@Nat.le_succ_of_le
def Pl:=@List.nodup_nil
def Pm:=@List.mem_of_mem_drop
def Pn:=@wpAny_of_eq
def Po:=@Nat.lt_succ_self
def Pp:=@List.mem_map
def Pq:=@List.lookup_cons
def Pr:=@Nat.add_comm
def Pt:=@List.filterMap_cons
def Pu:=@List.getElem_of_mem
def Pv:=@List.append_nil
def Pw:=@Nat.min_le_left
def Px:=@wpAny_passesOwn
def Py:=@List.getElem?_drop
def Pz:=@assignInOrder_cons
def PB:=@wpAny_load
def PC:=@wpAny_Call_Name_kw
def PD:=@call_meets
def PF:=@decide_eq_false_iff_not
def PH:=@Calls.spliced_nil
def PJ:=@List.nodup_append
def PK:=@Nat.lt_succ_of_lt
def PM:=@Bool.eq_false_iff
def PN:=@List.length_range
def PQ:=@List.append_assoc
def PR:=@Nat.mul_le_mul
def PU:=@call_meetsIn
def PV:=@PyProof.Rows.slot_tuple_getitem
def PX:=@Array.getElem?_toList
def PY:=@List.length_filter_le
def PZ:=@wpAny_notOrdered_dict
def P0:=@List.mem_of_mem_take
def P1:=@List.take_append_of_le_length
def P2:=@decide_true
def P3:=@List.nil_append
def P4:=@PyProof.Rows.boot_isinstance
def P5:=@List.range_succ
def P6:=@Int.emod_nonneg
def P7:=@List.dropLast_concat_getLast
def P8:=@wpAny_execs_nil
def P9:=@wpAny_ite_split
def Qa:=@PySem.W.plainGet_of
def Qb:=@List.getElem?_range
def Qc:=@Nat.le_of_lt
def Qd:=@List.map_map
def Qe:=@Nat.lt_trans
def Qg:=@PySem.W.of_hideAll
def Qh:=@List.mem_range
def Qi:=@Calls.Name_function_global
def Qj:=@List.mem_filterMap
def Qk:=@List.filterMap_map
def Ql:=@PySem.W.callWith_K
def Qm:=@List.take_succ
def Qn:=@Int.emod_lt_of_pos
def Qo:=@typeIs_str
def Qq:=@wpAny_call
def Qs:=@List.drop_eq_getElem_cons
def Qt:=@Calls.call_function_entry
def Qu:=@PySem.W.kitx_list
def Qv:=@Nat.le_succ
def Qw:=@List.getElem?_set
def Qx:=@of_decide_eq_true
def Qy:=@wpAny_pyIter_list
def Qz:=@wpAny_Call_method
def QA:=@PySem.F.args_tuple_add_2
def QB:=@PySem.SeqAt.Reads.unique
def QC:=@PySem.F.slot_NoneType_eq
def QD:=@wpAny_standAt
def QE:=@PySem.F.entry_tuple_add
def QF:=@PySem.F.args_dict_get_2
def QG:=@PySem.F.args_dict_get_3
def QH:=@Nat.le_of_not_lt
def QI:=@Array.any_toList
def QJ:=@Array.toList_inj
def QK:=@Option.bind_eq_some_iff
def QL:=@List.all_toArray
def QM:=@List.pairwise_singleton
def QN:=@List.getElem?_cons_succ
def QO:=@PySem.F.slot_list_clear
def QP:=@PySem.F.type_list_clear
def QQ:=@wpAny_callSpecial?_slot
def QR:=@eq_of_beq
def QS:=@or_false
def QT:=@Nat.le_of_eq
def QU:=@PySem.W.cellsFrom_some
def QV:=@PySem.F.slot_tuple_add
def QW:=@Heap.get?_update_other
def QX:=@List.map_nil
def QY:=@Nat.mul_comm
def QZ:=@Nat.pow_succ
def Q3:=@List.length_eq_one_iff
def Q4:=@wpAny_pyNext_range_end
def Q5:=@wpAny_pyIter_rangeiter
def Q6:=@subscriptTail_builtinR
def Q7:=@codeAny_mono
def Q8:=@List.mem_filter
def Q9:=@List.of_mem_zip
def Ra:=@List.forIn_cons
def Rb:=@List.foldl_cons
def Rc:=@wpAny_specialOf
def Re:=@List.length_singleton
def Rf:=@PySem.F.slot_dict_pop
def Rg:=@PySem.F.type_dict_get
def Rh:=@PySem.W.methodCall_KW
def Ri:=@List.dropLast_eq_take
def Rj:=@PySem.F.args_int_eq_2
def Rk:=@PySem.F.slot_tuple_eq
def Rl:=@PyProof.Rows.boot_min
def Rm:=@PySem.F.slot_list_pop
def Rn:=@PySem.F.type_list_pop
def Ro:=@codeAny_handlers_test
def Rp:=@Heap.get?_none_of_le
def Rq:=@Heap.size_push
def Rr:=@List.getElem?_of_mem
def Rt:=@List.drop_zero
def Ru:=@PySem.F.slot_dict_eq
def Rv:=@PySem.F.slot_bool_eq
def Rx:=@PySem.F.entry_int_eq
def Ry:=@PySem.F.slot_list_eq
def Rz:=@Nat.add_le_add
def RA:=@Nat.mul_add
def RB:=@Nat.pow_le_pow_right
def RC:=@wpAny_field
def RD:=@lookup_relabel_local
def RE:=@codeAny_call_builtin
def RF:=@isSubtype_type
def RG:=@wpAny_bindName
def RH:=@Value.isStrOf_shape
def RI:=@PySem.W.hideAll_get
def RJ:=@PySem.W.callWith_K0
def RK:=@PySem.W.kdu_collect
def RL:=@PySem.F.slot_int_eq
def RM:=@PySem.F.slot_str_eq
def RN:=@Nat.mul_le_mul_left
def RO:=@Int.toNat_of_nonneg
def RP:=@wpAny_handleBy_cons
def RQ:=@List.set_comm
def RR:=@PySem.Reads.unique
def RS:=@List.prefix_append
def RT:=@Nat.add_sub_cancel
def RU:=@Bool.not_eq_false'
def RW:=@wpAny_pyIter_range
def RX:=@wpAny_rule
def RY:=@Value.isInt_shape
def RZ:=@PySem.W.kitx_dict
def R0:=@Int.toNat_natCast
def R3:=@Bool.not_eq_true'
def R4:=@Nat.add_zero
def R5:=@Nat.zero_add
def R6:=@List.find?_append
def R7:=@List.foldl_append
def R8:=@Int.ofNat_lt
def R9:=@wpAny_assign_Name
def Sa:=@assignInOrder_nil
def Sb:=@concat_meets
def Sd:=@wpAny_sequenceKey
def Se:=@seqIndex_neg
def Sf:=@slot_dict_setitem
def Sg:=@wpAny_pyIter_enum
def Sh:=@decide_false
def Sj:=@wpAny_Name
def Sl:=@boot_range
def Sn:=@chain_link
def So:=@if_false
def Sq:=@typeIs_int
def Sr:=@beq_iff_eq
end
namespace L2
open PySem PySem.Spec PyProof.Rows
abbrev aI:=Sum Int Str
def kq:aI->ZC->Bool
 |.inl k,v=>Value.isInt k v
 |.inr x,v=>Value.isStrOf x v
def nz(w:ZF):aI->Int
 |.inl k=>hashInt k
 |.inr x=>hashStr w x
theorem iP:∀ {k:aI} {v:ZC},kq k v=true->(∃ i t,k=Sum.inl i/\v=Value.int i t)\/(∃ x t,k=Sum.inr x/\v=Value.str x t)
 |.inl i,v,h=>by
  obtain⟨t,e⟩:=RY (k:=i) (v:=v) h;exact .inl ⟨i,t,rfl,e⟩
 |.inr x,v,h=>by
  obtain⟨t,e⟩:=RH (x:=x) (v:=v) h;exact .inr ⟨x,t,rfl,e⟩
def Cw(i:Int)(t:Tok):kq (.inl i) (.int i t)=true:=by simp[kq,Value.isInt]
def Cy(x:Str)(t:Tok):kq (.inr x) (.str x t)=true:=by simp[kq,Value.isStrOf]
def pK(a b:Int):decide ((Sum.inl a:aI)=Sum.inl b)=(a == b):=by
 by_cases e:a=b
 ·subst e;simp
 ·have h:¬ (Sum.inl a:aI)=Sum.inl b:=λq=>e (Sum.inl.inj q)
  rw[NJ h];exact(beq_eq_false_iff_ne.mpr e).symm
def w8(a b:Str):decide ((Sum.inr a:aI)=Sum.inr b)=decide (a=b):=by
 by_cases e:a=b
 ·subst e;simp
 ·have h:¬ (Sum.inr a:aI)=Sum.inr b:=λq=>e (Sum.inr.inj q)
  rw[NJ h,NJ e]
def sf(a:Int)(b:Str):decide ((Sum.inl a:aI)=Sum.inr b)=false:=(NJ (λq=>nomatch q))
def si(a:Str)(b:Int):decide ((Sum.inr a:aI)=Sum.inl b)=false:=(NJ (λq=>nomatch q))
def fz(prog:ZD)(w:ZF):PySem.KeyKind prog w aI where
 is:=kq
 hash:=nz w
 inj:=λv a b ha hb=>by
  rcases iP ha with⟨i,t,rfl,rfl⟩|⟨x,t,rfl,rfl⟩
  ·rcases iP hb with⟨j,u,rfl,e⟩|⟨y,u,rfl,e⟩
   ·injection e with e1 _;rw[e1]
   ·exact nomatch e
  ·rcases iP hb with⟨j,u,rfl,e⟩|⟨y,u,rfl,e⟩
   ·exact nomatch e
   ·injection e with e1 _;rw[e1]
 byValue:=λk v h=>by
  rcases iP h with⟨i,t,rfl,rfl⟩|⟨x,t,rfl,rfl⟩<;>rfl
 pyHash:=λhv h=>by
  rcases iP hv with⟨i,t,rfl,rfl⟩|⟨x,t,rfl,rfl⟩
  ·exact wpAny_pyHash_int h
  ·exact wpAny_pyHash_str h
 eqBool:=λhu hv h=>by
  rcases iP hu with⟨i,t,rfl,rfl⟩|⟨x,t,rfl,rfl⟩
  ·rcases iP hv with⟨j,u,rfl,rfl⟩|⟨y,u,rfl,rfl⟩
   ·rw[pK] at h;exact wpAny_eqBool_int h
   ·rw[sf] at h;exact SeqAt.EqAt.int_str i t y u _ _ _ _ h
  ·rcases iP hv with⟨j,u,rfl,rfl⟩|⟨y,u,rfl,rfl⟩
   ·rw[si] at h;exact SeqAt.EqAt.str_int x t j u _ _ _ _ h
   ·rw[w8] at h;exact wpAny_eqBool_str h
 «strs»:=λk x t v h=>by
  rcases iP h with⟨i,u,rfl,e⟩|⟨y,u,rfl,e⟩
  ·exact nomatch e
  ·injection e with e1 _
   subst e1
   cases v<;>rfl
abbrev kr(b:Bool):Int:=if b then 1 else 0
def ku:aI->ZC->Bool
 |.inl k,.bool b=>decide (k=kr b)
 |.inl k,v=>Value.isInt k v
 |.inr x,v=>Value.isStrOf x v
theorem ie:∀ {k:aI} {v:ZC},ku k v=true->(∃ i t,k=Sum.inl i/\v=Value.int i t)\/(∃ b,k=Sum.inl (kr b)/\v=Value.bool b)\/(∃ x t,k=Sum.inr x/\v=Value.str x t)
 |.inl i,v,h=>by
  cases v with
  |bool b=>exact .inr (.inl ⟨b,by rw[Qx (show decide (i=kr b)=true from h)],rfl⟩)
  |int j t =>
   obtain⟨t,e⟩:=RY (k:=i) (v:=.int j t) h;exact .inl ⟨i,t,rfl,e⟩
  |_=>exact absurd h (by simp[ku,Value.isInt])
 |.inr x,v,h=>by
  obtain⟨t,e⟩:=RH (x:=x) (v:=v) h;exact .inr (.inr ⟨x,t,rfl,e⟩)
def Cz{prog:ZD}{w:ZF}{A:ZG}{E:ZC->ZB->Prop}{s:ZB}{b:Bool}{Q:Int->ZB->Prop}(h:Q (hashInt (kr b)) { s with toks:=s.toks+1 }) :
  wpAny (model prog w) A (pyHash (.bool b)) Q E s:=by
 unfold pyHash;unfold pyHashByItsType;have hv:[Value.bool b].any Value.onHeap=false:=rfl;refine Nj ?_
 rw[cRoomFor,Nr (by rw[hv];exact NM)];refine Nu ?_
 refine Nj (Rc (O3 s b) PySem.F.slot_bool_hash.lookup ?_)
 show wpAny _ _ (if (some (Value.builtin "int.__hash__") == some Value.none)=true then _ else _) Q E s
 rw[Nr (by rw[beq_builtin_none];exact NM)];refine Nj (Rc (O3 s b) PySem.F.slot_bool_hash.lookup ?_)
 show wpAny _ _ (callSpecialIfBoundUnlessNone? (.bool b) "__hash__" _ >>= _) Q E s
 cases b with
 |false =>
  refine Nj (Pi (O3 s false) Pa
   (OJ Pa (O3 s false) entry_int_hash
    (show wpAny _ _ (do ret (<- mkInt 0)) _ _ s from wpAny_ret_mkInt ?_) (args_int_hash _)))
  exact Nu h
 |true =>
  refine Nj (Pi (O3 s true) Pa
   (OJ Pa (O3 s true) entry_int_hash
    (show wpAny _ _ (do ret (<- mkInt 1)) _ _ s from wpAny_ret_mkInt ?_) (args_int_hash _)))
  exact Nu h
def CB(a b:Bool):(a == b)=decide ((Sum.inl (kr a):aI)=Sum.inl (kr b)):=by cases a<;>cases b<;>decide
def ig(prog:ZD)(w:ZF):PySem.KeyKind prog w aI where
 is:=ku
 hash:=nz w
 inj:=λv a b ha hb=>by
  rcases ie ha with⟨i,t,rfl,rfl⟩|⟨c,rfl,rfl⟩|⟨x,t,rfl,rfl⟩
  ·rcases ie hb with⟨j,u,rfl,e⟩|⟨d,rfl,e⟩|⟨y,u,rfl,e⟩
   ·injection e with e1 _;rw[e1]
   ·exact nomatch e
   ·exact nomatch e
  ·rcases ie hb with⟨j,u,rfl,e⟩|⟨d,rfl,e⟩|⟨y,u,rfl,e⟩
   ·exact nomatch e
   ·injection e with e1;rw[e1]
   ·exact nomatch e
  ·rcases ie hb with⟨j,u,rfl,e⟩|⟨d,rfl,e⟩|⟨y,u,rfl,e⟩
   ·exact nomatch e
   ·exact nomatch e
   ·injection e with e1 _;rw[e1]
 byValue:=λk v h=>by
  rcases ie h with⟨i,t,rfl,rfl⟩|⟨c,rfl,rfl⟩|⟨x,t,rfl,rfl⟩<;>rfl
 pyHash:=λhv h=>by
  rcases ie hv with⟨i,t,rfl,rfl⟩|⟨c,rfl,rfl⟩|⟨x,t,rfl,rfl⟩
  ·exact wpAny_pyHash_int h
  ·exact Cz h
  ·exact wpAny_pyHash_str h
 eqBool:=λhu hv h=>by
  rcases ie hu with⟨i,t,rfl,rfl⟩|⟨c,rfl,rfl⟩|⟨x,t,rfl,rfl⟩
  ·rcases ie hv with⟨j,u,rfl,rfl⟩|⟨d,rfl,rfl⟩|⟨y,u,rfl,rfl⟩
   ·rw[pK] at h;exact wpAny_eqBool_int h
   ·rw[pK] at h;exact SeqAt.EqAt.int_bool i t d _ _ _ _ h
   ·rw[sf] at h;exact SeqAt.EqAt.int_str i t y u _ _ _ _ h
  ·rcases ie hv with⟨j,u,rfl,rfl⟩|⟨d,rfl,rfl⟩|⟨y,u,rfl,rfl⟩
   ·rw[pK] at h;exact SeqAt.EqAt.bool_int c j u _ _ _ _ h
   ·rw[<- CB] at h;exact SeqAt.EqAt.bool_bool c d _ _ _ _ h
   ·rw[sf] at h;exact SeqAt.EqAt.bool_str c y u _ _ _ _ h
  ·rcases ie hv with⟨j,u,rfl,rfl⟩|⟨d,rfl,rfl⟩|⟨y,u,rfl,rfl⟩
   ·rw[si] at h;exact SeqAt.EqAt.str_int x t j u _ _ _ _ h
   ·rw[si] at h;exact SeqAt.EqAt.str_bool x t d _ _ _ _ h
   ·rw[w8] at h;exact wpAny_eqBool_str h
 «strs»:=λk x t v h=>by
  rcases ie h with⟨i,u,rfl,e⟩|⟨d,rfl,e⟩|⟨y,u,rfl,e⟩
  ·exact nomatch e
  ·exact nomatch e
  ·injection e with e1 _
   subst e1
   cases v<;>rfl
def CD(prog:ZD)(w:ZF)(i:Int)(t:Tok):(ig prog w).is (.inl i) (.int i t)=true:=by show ku (.inl i) (.int i t)=true;simp[ku,Value.isInt]
def CG(prog:ZD)(w:ZF)(x:Str)(t:Tok):(ig prog w).is (.inr x) (.str x t)=true:=by show ku (.inr x) (.str x t)=true;simp[ku,Value.isStrOf]
def CH(prog:ZD)(w:ZF)(k:aI)(v:ZC):(fz prog w).is k v=kq k v:=(rfl)
def CI(prog:ZD)(w:ZF)(i:Int)(t:Tok):(fz prog w).is (.inl i) (.int i t)=true:=(Cw i t)
def CJ(prog:ZD)(w:ZF)(x:Str)(t:Tok):(fz prog w).is (.inr x) (.str x t)=true:=(Cy x t)
inductive V where
 |non|bl (b:Bool)|int (i:Int)|str (x:Str)|byt (b:Array UInt8)|flt (b:UInt64)|ref (a:ZE)|ty (n:String)
 deriving DecidableEq
def RelV:V->ZC->Prop
 |.non,u=>u=Value.none
 |.bl b,u=>u=Value.bool b
 |.int i,u=>∃ t,u=Value.int i t
 |.str x,u=>∃ t,u=Value.str x t
 |.byt b,u=>∃ t,u=Value.bytes b t
 |.flt b,u=>∃ t,u=Value.float b t
 |.ref a,u=>u=Value.ref a
 |.ty n,u=>u=Value.type n
abbrev Vals:List V->List ZC->Prop:=Paired RelV
def Vals.length{xs:List V}{us:List ZC}(r:Vals xs us):xs.length=us.length:=(Paired.length r)
theorem Vals.get:∀ {xs:List V} {us:List ZC} {i:Nat} {x:V},Vals xs us->xs[i]?=some x->∃ u,us[i]?=some u/\RelV x u
 |_,_,_,_,.nil,e=>by simp at e
 |_,_,0,_,.cons r _,e=>by simp at e;subst e;exact⟨_,rfl,r⟩
 |_,_,i+1,x,.cons _ t,e=>by
  obtain⟨u,h1,h2⟩:=Vals.get (i:=i) (x:=x) t (by simpa using e);exact⟨u,by simpa using h1,h2⟩
theorem Vals.set{x:V}{u:ZC}(r:RelV x u):∀ {xs:List V} {us:List ZC} (i:Nat),Vals xs us->Vals (xs.set i x) (us.set i u)
 |_,_,_,.nil=>.nil
 |_,_,0,.cons _ t=>.cons r t
 |_,_,i+1,.cons q t=>.cons q (Vals.set r i t)
theorem Vals.append:∀ {xs ys:List V} {us ws:List ZC},Vals xs us->Vals ys ws->Vals (xs++ys) (us++ws)
 |_,_,_,_,.nil,s=>s
 |_,_,_,_,.cons r t,s=>.cons r (Vals.append t s)
theorem Vals.take:∀ {xs:List V} {us:List ZC} (n:Nat),Vals xs us->Vals (xs.take n) (us.take n)
 |_,_,0,_=>.nil
 |_,_,_+1,.nil=>.nil
 |_,_,n+1,.cons r t=>.cons r (Vals.take n t)
theorem Vals.drop:∀ {xs:List V} {us:List ZC} (n:Nat),Vals xs us->Vals (xs.drop n) (us.drop n)
 |_,_,0,r=>r
 |_,_,_+1,.nil=>.nil
 |_,_,n+1,.cons _ t=>Vals.drop n t
def RelO:Option V->Option ZC->Prop
 |some v,some u=>RelV v u
 |none,none=>True
 |_,_=>False
def KV{κ:Type}:List (κ×V)->List (κ×ZC)->Prop:=Paired λ(p:κ×V) (q:κ×ZC)=>p.1=q.1/\RelV p.2 q.2
def kV:aI->V
 |.inl i=>.int i
 |.inr x=>.str x
def lZ:V->Option aI
 |.int i=>some (.inl i)
 |.bl b=>some (.inl (kr b))
 |.str x=>some (.inr x)
 |_=>none
def CK(k:aI):lZ (kV k)=some k:=by cases k<;>rfl
inductive HO where
 |lst (xs:List V)
 |tup (xs:List V)
 |dK (kvs:List (aI×V))|dT (xc:Option (List ZE)) (kvs:List (List aI×V))
 |set (S:Int->Bool) (n:Nat)
 |ins (C dx:ZE) (fs:List (Str×V))
 |own (x:ZE)
 |xd (fs:List (Str×V))
 |met (f x:ZE)
 |rng (lo hi:Int)
 |frz (o:Obj) (u:HO)
 |tbl (ps:Array ZC)
 |ext (φ:Heap->Prop)
abbrev Hp:=ZE->Option HO
def upd(H:Hp)(a:ZE)(o:HO):Hp:=λb=>if b=a then some o else H b
def dH{H:Hp}{a:ZE}{o:HO}:upd H a o a=some o:=by unfold upd;rw[Nn rfl]
def aZ{H:Hp}{a b:ZE}{o:HO}(h:b≠a):upd H a o b=H b:=by unfold upd;rw[Nr h]
def CL{H:Hp}{a b:ZE}{o u:HO}(h:H a=some o)(h':H b=some u)(d:o≠u):a≠b:=by
 intro e;subst e;rw[h] at h';exact d (N8 h')
def fA{H:Hp}{a b:ZE}{o:HO}(h:H a=some o)(h':H b=none):a≠b:=by
 intro e;subst e;rw[h] at h';cases h'
section
variable(P:ZD)(w:ZF)
def ObjOk(H:Hp)(h:Heap)(a:ZE):HO->Prop
 |.lst xs=>xs.length<=sizeLine/\∃ (its:List ZC) (n:Nat),Vals xs its/\h.get? a=some { cls:=.type "list",data:=.seq its.toArray n }
 |.tup xs=>xs.length<=sizeLine/\∃ its:List ZC,Vals xs its/\IsTup h a its.toArray
 |.dK kvs=>kvs.length<=sizeLine/\(a == sysModules)=false/\∃ vs,KV kvs vs/\h.DictOf (fz P w) a vs
 |.dT xc kvs=>kvs.length<=sizeLine/\(a == sysModules)=false/\∃ xs:List (List aI×ZE×ZC),
   Paired (λ(p:List aI×V) (q:List aI×ZE×ZC)=>p.1=q.1/\(∃ ys,H q.2.1=some (.tup ys)/\ys.map lZ=p.1.map some)/\RelV p.2 q.2.2) kvs xs /\
   ∃ o es ep,h.get? a=some o/\o.ExactDict/\o.data=.dict es ep/\es.toList=xs.map (entryOfKey (tupleKind (ig P w)))/\(xs.map (·.1)).Nodup/\ep=xs.length/\∀ as,xc=some as->xs.map (·.2.1)=as
 |.set S n=>h.SetOf (intKind P w) a S n
 |.ins C dx fs=>H dx=some (.own a)/\fs.length<=1000/\dx≠a/\h.get? a=some (PySem.W.instObj C dx) /\
   ∃ mA,h.Ns1 dx mA/\(∀ f,RelO (fs.lookup f) (mA f))/\PySem.Within mA (fs.map (·.1))
 |.own _=>∃ o,h.get? a=some o
 |.xd fs=>∃ mA,h.Ns1 a mA/\∀ f,RelO (fs.lookup f) (mA f)
 |.rng lo hi=>∃ t u v,h.get? a=some { cls:=.type "range",data:=.fields #[.int lo t,.int hi u,.int 1 v] }
 |.frz o u=>h.get? a=some o/\ObjOk H h a u
 |.tbl ps=>h.get? a=some { cls:=.none,data:=.fields ps }
 |.met f x=>h.get? a=some (PySem.W.methodObj (.ref f) (.ref x))
 |.ext φ=>φ h/\(∃ o,h.get? a=some o)/\∀ h1 h2:Heap,φ h1->(∀ o,h1.get? a=some o->h2.get? a=some o)->φ h2
def HOk(H:Hp)(h:Heap):Prop:=∀ a o,H a=some o->ObjOk P w H h a o
end
section
variable{P:ZD}{w:ZF}{H H':Hp}{h h':Heap}{a:ZE}{o:HO}
def ObjOk.lt(x:ObjOk P w H h a o):a<h.objs.size:=by
 cases o with
 |lst xs=>obtain⟨_,_,_,_,e⟩:=x;exact Ny e
 |tup xs=>obtain⟨_,_,_,p⟩:=x;exact p.lt
 |dK kvs=>obtain⟨_,_,_,_,o,_,_,e,_⟩:=x;exact Ny e
 |dT xc kvs=>obtain⟨_,_,_,_,o,_,_,e,_⟩:=x;exact Ny e
 |set S n=>obtain⟨o,_,_,_,e,_⟩:=x;exact Ny e
 |ins C dx fs=>obtain⟨_,_,_,e,_⟩:=x;exact Ny e
 |own y=>obtain⟨_,e⟩:=x;exact Ny e
 |xd fs=>obtain⟨_,⟨_,_,_,e,_⟩,_⟩:=x;exact Ny e
 |rng lo hi=>obtain⟨_,_,_,e⟩:=x;exact Ny e
 |frz ob u=>obtain⟨e,_⟩:=x;exact Ny e
 |tbl ps=>exact Ny (show h.get? a=some _ from x)
 |met f y=>exact Ny (show h.get? a=some _ from x)
 |ext φ=>obtain⟨_,⟨_,e⟩,_⟩:=x;exact Ny e
theorem Paired.mapP{α β:Type}{F G:α->β->Prop}:∀ {l₁:List α} {l₂:List β},Paired F l₁ l₂->(∀ a b,F a b->G a b)->Paired G l₁ l₂
 |_,_,.nil,_=>.nil
 |_,_,.cons r t,f=>.cons (f _ _ r) (Paired.mapP t f)
def ObjOk.stay(x:ObjOk P w H h a o)(k:∀ b u,(b=a\/H b=some (.own a))->h.get? b=some u->h'.get? b=some u)
  (ho:∀ b,H b=some (.own a)->H' b=some (.own a))(ht:∀ b xs,H b=some (.tup xs)->H' b=some (.tup xs)):ObjOk P w H' h' a o:=by
 induction o with
 |lst xs=>obtain⟨z,its,n,r,e⟩:=x;exact⟨z,its,n,r,k _ _ (.inl rfl) e⟩
 |tup xs=>obtain⟨z,its,r,ob,e,c⟩:=x;exact⟨z,its,r,ob,k _ _ (.inl rfl) e,c⟩
 |dK kvs=>obtain⟨z,y,vs,r,ob,es,ep,e,c⟩:=x;exact⟨z,y,vs,r,ob,es,ep,k _ _ (.inl rfl) e,c⟩
 |dT xc kvs =>
  obtain⟨z,y,xs,r,ob,es,ep,e,c⟩:=x;exact⟨z,y,xs,Paired.mapP r λp q z=>⟨z.1,z.2.1.imp λ_ e=>⟨ht _ _ e.1,e.2⟩,z.2.2⟩,ob,es,ep,k _ _ (.inl rfl) e,c⟩
 |set S n=>obtain⟨ob,es,ep,t,e,c⟩:=x;exact⟨ob,es,ep,t,k _ _ (.inl rfl) e,c⟩
 |ins C dx fs =>
  obtain⟨d,z,ne,e,mA,⟨od,es,ep,e2,c⟩,r⟩:=x;exact⟨ho _ d,z,ne,k _ _ (.inl rfl) e,mA,⟨od,es,ep,k _ _ (.inr d) e2,c⟩,r⟩
 |own y=>obtain⟨ob,e⟩:=x;exact⟨ob,k _ _ (.inl rfl) e⟩
 |xd fs=>obtain⟨mA,⟨od,es,ep,e,c⟩,r⟩:=x;exact⟨mA,⟨od,es,ep,k _ _ (.inl rfl) e,c⟩,r⟩
 |rng lo hi=>obtain⟨t,u,v,e⟩:=x;exact⟨t,u,v,k _ _ (.inl rfl) e⟩
 |frz ob u ih=>obtain⟨e,q⟩:=x;exact⟨k _ _ (.inl rfl) e,ih q⟩
 |tbl ps =>
  have e:h.get? a=some { cls:=.none,data:=.fields ps }:=x;show h'.get? a=some { cls:=.none,data:=.fields ps }
  exact k a _ (.inl rfl) e
 |met f y =>
  have e:h.get? a=some (PySem.W.methodObj (.ref f) (.ref y)):=x;show h'.get? a=some (PySem.W.methodObj (.ref f) (.ref y))
  exact k a _ (.inl rfl) e
 |ext φ=>obtain⟨p,⟨o,e⟩,st⟩:=x;exact⟨st _ _ p λo q=>k _ _ (.inl rfl) q,⟨o,k _ _ (.inl rfl) e⟩,st⟩
def HOk.lt(x:HOk P w H h)(e:H a=some o):a<h.objs.size:=((x a o e).lt)
def HOk.fresh(x:HOk P w H h)(e:h.objs.size<=a):H a=none:=by
 cases q:H a with
 |none=>rfl
 |some u=>exact absurd (NH (x.lt q) e) (OK _)
def HOk.kept(x:HOk P w H h)(k:∀ b u,h.get? b=some u->h'.get? b=some u):HOk P w H h':=(λa o e =>
 (x a o e).stay (λb u _ q=>k b u q) (λ_ q=>q) λ_ _ q=>q)
def HOk.laid(x:HOk P w H h)(k:∀ b u,h.get? b=some u->h'.get? b=some u)(hp:h.objs.size<=a)(new:ObjOk P w (upd H a o) h' a o):HOk P w (upd H a o) h':=(λb u e=>by
 have hn:=x.fresh hp;by_cases hb:b=a
 ·subst hb;rw[dH] at e;cases e;exact new
 ·rw[aZ hb] at e
  exact(x b u e).stay (λc v _ q=>k c v q) (λc q=>by rw[aZ (fA q hn)];exact q) λc xs q=>by rw[aZ (fA q hn)];exact q)
end
def Rd(H:Hp)(a:ZE)(u:HO):Prop:=H a=some u\/∃ o,H a=some (.frz o u)
def Rd.of{H:Hp}{a:ZE}{u:HO}(h:H a=some u):Rd H a u:=(.inl h)
def Rd.ok{P:ZD}{w:ZF}{H:Hp}{h:Heap}{a:ZE}{u:HO}(r:Rd H a u)(x:HOk P w H h):ObjOk P w H h a u:=by
 rcases r with r|⟨o,r⟩
 ·exact x a u r
 ·obtain⟨_,q⟩:=x a _ r
  exact q
def nA:Option HO->Prop
 |some (.lst _)=>True
 |some (.dK _)=>True
 |some (.dT _ _)=>True
 |some (.set _ _)=>True
 |some (.ins _ _ _)=>True
 |some (.ext _)=>True
 |_=>False
section
variable{P:ZD}{w:ZF}{H:Hp}{h h':Heap}{x e:ZE}{o':HO}
def HOk.write(ok:HOk P w H h)(mu:nA (H x))(he:e=x\/H e=some (.own x))(k:∀ b u,b≠e->h.get? b=some u->h'.get? b=some u)(heo:∃ u,h'.get? e=some u)
  (new:ObjOk P w (upd H x o') h' x o'):HOk P w (upd H x o') h':=(λb u q=>by
 have nown:∀ c y,H c=some (.own y)->c≠x:=λc y r z=>by subst z;rw[r] at mu;exact mu
 have ntup:∀ c xs,H c=some (.tup xs)->c≠x:=λc xs r z=>by subst z;rw[r] at mu;exact mu
 by_cases hb:b=x
 ·subst hb;rw[dH] at q;cases q;exact new
 ·rw[aZ hb] at q
  by_cases hbe:b=e
  ·have q':H b=some (.own x):=by
    rcases he with z|z
    ·exact absurd (hbe.trans z) hb
    ·rw[hbe];exact z
   rw[q] at q';cases q'
   obtain⟨v,hv⟩:=heo;exact⟨v,by rw[hbe];exact hv⟩
  ·refine(ok b u q).stay (λc v hc r=>k c v ?_ r) (λc r=>by rw[aZ (nown c b r)];exact r) λc xs r=>by rw[aZ (ntup c xs r)];exact r
   rcases hc with rfl|hc
   ·exact hbe
   ·rintro rfl
    rcases he with z|z
    ·exact nown c b hc z
    ·rw[hc] at z;cases z;exact hb rfl)
end
structure Un(fs ex:List ZE)(H H':Hp)(h h':Heap):Prop where
 keep:∀ b o,h.get? b=some o->H b=none->b∉fs->b∉ex->h'.get? b=some o
 slot:∀ b o,h.get? b=some o->H b=none->b∈fs->b∉ex->∃ sl,h'.get? b=some { o with slots:=sl }
 free:∀ b o,h.get? b=some o->H b=none->b∉ex->H' b=none
 there:∀ b o,h.get? b=some o->b∉ex->∃ o',h'.get? b=some o'
 tups:∀ b xs,H b=some (.tup xs)->H' b=some (.tup xs)
 frzs:∀ b o u,H b=some (.frz o u)->H' b=some (.frz o u)
 tbls:∀ b ps,H b=some (.tbl ps)->∃ more,H' b=some (.tbl (ps++more))
section
variable{fs fs' ex ex':List ZE}{H H1 H2:Hp}{h h1 h2 h':Heap}{a x e:ZE}{o:HO}
def Un.any(u:Un fs ex H H1 h h1){b:ZE}{ob:Obj}(q:h.get? b=some ob)(n:H b=none)(hx:b∉ex):∃ sl,h1.get? b=some { ob with slots:=sl }:=by
 by_cases hb:b∈fs
 ·exact u.slot b ob q n hb hx
 ·exact⟨ob.slots,u.keep b ob q n hb hx⟩
def Un.kept(k:∀ b u,h.get? b=some u->h'.get? b=some u):Un fs ex H H h h' :=(
 ⟨λb ob q _ _ _=>k b ob q,λb ob q _ _ _=>⟨ob.slots,k b ob q⟩,λ_ _ _ n _=>n,λb ob q _=>⟨ob,k b ob q⟩,λ_ _ q=>q,λ_ _ _ q=>q,λ_ ps q=>⟨#[],by rw[q];simp⟩⟩)
def Un.refl:Un fs ex H H h h:=(Un.kept λ_ _ q=>q)
theorem Un.laid(k:∀ b u,h.get? b=some u->h'.get? b=some u)(hp:h.objs.size<=a)(hn:H a=none):Un fs ex H (upd H a o) h h' where
 keep:=λb u q _ _ _=>k b u q
 slot:=λb u q _ _ _=>⟨u.slots,k b u q⟩
 free:=λb u q n _=>by rw[aZ (NX (NH (Ny q) hp))];exact n
 there:=λb u q _=>⟨u,k b u q⟩
 tups:=λb xs q=>by rw[aZ (fA q hn)];exact q
 frzs:=λb u xs q=>by rw[aZ (fA q hn)];exact q
 tbls:=λb ps q=>⟨#[],by rw[aZ (fA q hn),q];simp⟩
def Un.write(mu:nA (H x))(he:e=x\/H e=some (.own x))(k:∀ b u,b≠e->h.get? b=some u->h'.get? b=some u)(heo:∃ u,h'.get? e=some u):Un fs ex H (upd H x o) h h':=by
 have hx:∀ b,H b=none->b≠x:=λb n z=>by subst z;rw[n] at mu;exact mu
 have hb:∀ b,H b=none->b≠e:=λb n z=>by
  subst z;rcases he with r|r
  ·exact hx b n r
  ·rw[n] at r;cases r
 have hm:∀ b u,H b=some u -> ¬ nA (some u)->b≠x:=λb u q nm z=>by subst z;rw[q] at mu;exact nm mu
 refine⟨λb u q n _ _=>k b u (hb b n) q,λb u q n _ _=>⟨u.slots,k b u (hb b n) q⟩,λb u q n _=>by rw[aZ (hx b n)];exact n,λb u q _=>?_,
  λb xs q=>by rw[aZ (hm b _ q λz=>z)];exact q,λb u xs q=>by rw[aZ (hm b _ q λz=>z)];exact q,λb ps q=>⟨#[],by rw[aZ (hm b _ q λz=>z),q];simp⟩⟩
 by_cases hbe:b=e
 ·subst hbe;exact heo
 ·exact⟨u,k b u hbe q⟩
end
def pL(h:Heap)(H:Hp):List ZE:=(List.range h.objs.size).filter λa=>(H a).isSome
def d6(h:Heap)(H:Hp):Heap:=PySem.W.hideAll h (pL h H)
def CM(h:Heap)(H:Hp):(d6 h H).objs.size=h.objs.size:=(PySem.W.hideAll_size _ _)
def CN{h:Heap}{H:Hp}{b:ZE}{o:Obj}(e:h.get? b=some o)(n:H b=none):(d6 h H).get? b=some o :=(
 RI _ e λhm=>by
  have q:(H b).isSome=true:=(Q8.mp hm).2;rw[n] at q;simp at q)
def CO{h:Heap}{H:Hp}{b:ZE}{o:Obj}(e:(d6 h H).get? b=some o):h.get? b=some o/\H b=none:=by
 have e':h.get? b=some o:=Qg (pL h H) e;refine⟨e',?_⟩
 cases q:H b with
 |none=>rfl
 |some x =>
  have hm:b∈pL h H:=Q8.mpr ⟨Qh.mpr (Ny e'),by simp[q]⟩;have z:(d6 h H).get? b=none:=PySem.W.hideAll_none (pL h H) hm;rw[z] at e;cases e
structure Mod(K:ZA)(mg:Str->Option ZC)(base:Heap):Prop where
 kin:K.In base
 glob:base.Ns mainGlobals mg
 blt:∃ mb,base.Ns builtinsNs mb/\∀ x:Str,x ≠ "__name__" -> mb x=bootBuiltins x
 nolimit:base.NoLimit
structure Cx where
 prog:ZD
 w:ZF
 K:ZA
 mg:Str->Option ZC
 base:Heap
 A:ZG
 N:List Str
 s₀:ZB
 H₀:Hp
 env:Env
 outer:List Env
 stack:List Env
 ex:List ZE
 fn:Str->Bool
 calm:Bool
 pn:List (ZE×Obj)
 xe:ZC->ZB->Prop
def dJ(l:List Env):List ZE:=l.filterMap (·.frame)
abbrev Cx.fs(X:Cx):List ZE:=dJ X.outer
def nB(sc:Scope)(x:Str):Prop:=sc.names.lookup x=some .local\/sc.names.lookup x=some .cell\/sc.names.lookup x=some .free
def kB(sc:Scope)(x:Str):Prop:=sc.names.lookup x=some .local\/sc.names.lookup x=some .cell
def sj(env:Env)(h:Heap)(m:Str->Option ZC)(x:Str)(u:ZC):Prop :=
 (env.kindOf x=some .local/\m x=some u)\/((env.kindOf x=some .cell\/env.kindOf x=some .free)/\∃ c,env.cells.lookup x=some c/\h.IsCell c (some u))
structure Cx.Ok(X:Cx):Prop where
 mod:Mod X.K X.mg X.base
 kind:X.env.scope.kind=.function
 glob:X.env.globals=mainGlobals
 blt:X.env.builtins=builtinsNs
 above:X.s₀.heap.objs.size<=X.env.locals
 inj:∀ x y c,X.env.cells.lookup x=some c->X.env.cells.lookup y=some c->x=y
 has:∀ x,(X.env.kindOf x=some .cell\/X.env.kindOf x=some .free)->∃ c,X.env.cells.lookup x=some c
 cab:∀ x c,X.fn x=true->X.env.cells.lookup x=some c->X.s₀.heap.objs.size<=c
 hd:X.calm=true->X.A.handled=none
 frames:X.A.frames=some X.stack
 stk:X.stack=X.outer\/(X.stack=X.env::X.outer/\X.env.frame=some X.env.locals)
 exf:∀ b∈X.ex,b≠X.env.locals/\∀ x c,X.env.cells.lookup x=some c->c≠b
 bs:∀ b o,X.base.get? b=some o->X.s₀.heap.get? b=some o/\X.H₀ b=none
 bsz:X.base.objs.size<=X.s₀.heap.objs.size
 noex:∀ b o,X.base.get? b=some o->b∉X.ex
 exfs:∀ b∈X.ex,b∉X.fs
 funs:X.s₀.heap.FunFrames X.base X.outer
 frf:∀ b∈X.fs,X.H₀ b=none
structure Inv(X:Cx)(pins:List (ZE×Obj))(σ:List (Option V))(H:Hp)(s:ZB):Prop where
 ok:X.Ok
 os:s.os=X.s₀.os
 bare:AllBare s.gens
 base:Un X.fs X.ex X.H₀ H X.s₀.heap s.heap
 loc:∃ m,s.heap.Ns X.env.locals m/\∀ (i:Nat) (x:Str) (v:V),X.N[i]?=some x->σ[i]?=some (some v)->nB X.env.scope x->∃ u,RelV v u/\sj X.env s.heap m x u
 cell:∀ x c,X.env.cells.lookup x=some c->∃ v,s.heap.IsCell c v
 free:H X.env.locals=none
 freeC:∀ x c,X.env.cells.lookup x=some c->H c=none
 pin:∀ p∈X.pn++pins,s.heap.get? p.1=some p.2/\H p.1=none/\p.1≠X.env.locals/\p.1∉X.fs/\∀ v,p.2.data ≠ .cell v
 hok:HOk X.prog X.w H s.heap
 len:σ.length=X.N.length
abbrev qE1(e:Expr)(es:List Expr)(v:Env):=starEach (e::es) v=(false,eval e v)::starEach es v
abbrev qF1(p:Pos)(es:List Expr)(v:Env):=(backTo p (starEach es v)).any (·.1)=false
section
variable{X:Cx}{pins:List (ZE×Obj)}{σ:List (Option V)}{H H':Hp}{s:ZB}{h':Heap}
def Cx.Ok.nofr(ok:X.Ok){b:ZE}{o:Obj}(e:X.base.get? b=some o):b∉X.fs:=(λhb=>by
 have:=(ok.funs.mem hb).1;rw[e] at this;cases this)
def Inv.bs(I:Inv X pins σ H s):∀ b o,X.base.get? b=some o->s.heap.get? b=some o/\H b=none:=(λb o e =>
 ⟨I.base.keep b o (I.ok.bs b o e).1 (I.ok.bs b o e).2 (I.ok.nofr e) (I.ok.noex b o e),I.base.free b o (I.ok.bs b o e).1 (I.ok.bs b o e).2 (I.ok.noex b o e)⟩)
def Inv.bk(I:Inv X pins σ H s):∀ b o,X.base.get? b=some o->s.heap.get? b=some o:=(λb o e=>(I.bs b o e).1)
def Inv.mod(I:Inv X pins σ H s):Mod X.K X.mg X.base:=(I.ok.mod)
def Inv.kIn(I:Inv X pins σ H s):X.K.In s.heap:=(I.ok.mod.kin.keeps I.bk)
def Inv.fr(I:Inv X pins σ H s):∃ m,Fr X.base X.env.locals s.heap m :=(
 let ⟨m,hn,_⟩:=I.loc
 ⟨m,hn,I.bk,Np I.ok.bsz I.ok.above⟩)
def Inv.lt(I:Inv X pins σ H s):X.env.locals<s.heap.objs.size:=(let ⟨_,hn,_⟩:=I.loc;hn.lt)
def Inv.sz(I:Inv X pins σ H s):X.s₀.heap.objs.size<=s.heap.objs.size:=(Np I.ok.above (Qc I.lt))
def Inv.nofs(I:Inv X pins σ H s){a:ZE}(h:s.heap.objs.size<=a):a∉X.fs:=(λhb=>by
 obtain⟨_,o,ho,_⟩:=I.ok.funs.mem hb;exact absurd (NH (Ny ho) (Np I.sz h)) (OK _))
def Inv.cne(I:Inv X pins σ H s):∀ x c,X.env.cells.lookup x=some c->c≠X.env.locals:=(λx c e z=>by
 obtain⟨v,o,ho,hd⟩:=I.cell x c e;obtain⟨m,⟨o',es,ep,ho',hd',_⟩,_⟩:=I.loc;rw[z,ho'] at ho;cases ho;rw[hd'] at hd;cases hd)
def Inv.funs(I:Inv X pins σ H s):s.heap.FunFrames X.base X.outer:=by
 have all:∀ (l:List Env),(∀ b∈dJ l,b∈X.fs)->X.s₀.heap.FunFrames X.base l->s.heap.FunFrames X.base l:=by
  intro l;induction l with
  |nil=>intro _ _;trivial
  |cons env r ih =>
   intro hs hl;obtain⟨hk,⟨L,o,hf,hn,ho,hd⟩,hr⟩:=hl;have hL:L∈X.fs:=hs L (by unfold dJ;rw[Pt,hf];exact Ol)
   obtain⟨sl,e⟩:=I.base.slot L o ho (I.ok.frf L hL) hL λz=>I.ok.exfs L z hL
   exact⟨hk,⟨L,_,hf,hn,e,hd⟩,ih (λb hb=>hs b (by unfold dJ;rw[Pt,hf];exact NZ _ hb)) hr⟩
 exact all X.outer (λ_ hb=>hb) I.ok.funs
def Inv.stack(I:Inv X pins σ H s):s.heap.FunFrames X.base X.stack:=by
 rcases I.ok.stk with e|⟨e,hf⟩
 ·rw[e];exact I.funs
 ·rw[e]
  obtain⟨m,hn,_⟩:=I.loc;refine .cons (by rw[I.ok.kind];decide) hf hn ?_ I.funs
  exact Rp (Np I.ok.bsz I.ok.above)
def Inv.stkSub(I:Inv X pins σ H s):∀ b∈dJ X.stack,b∈X.env.locals::X.fs:=(λb hb=>by
 rcases I.ok.stk with e|⟨e,hf⟩
 ·rw[e] at hb;exact NZ _ hb
 ·rw[e] at hb
  unfold dJ at hb;rw[Pt,hf] at hb;exact hb)
def Inv.stkFree(I:Inv X pins σ H s):∀ b∈dJ X.stack,H b=none:=(λb hb=>by
 rcases ND.mp (I.stkSub b hb) with e|hb
 ·rw[e];exact I.free
 ·obtain⟨_,o,ho,_⟩:=I.ok.funs.mem hb
  exact I.base.free b o ho (I.ok.frf b hb) λz=>I.ok.exfs b z hb)
def Inv.step{g':Array GenState}{t':Nat}{d':Drawn}{ch:List ZE}(I:Inv X pins σ H s)
  (hch:∀ b∈ch,(b∈X.ex\/X.s₀.heap.objs.size<=b)/\b≠X.env.locals/\(∀ x c,X.env.cells.lookup x=some c->c≠b)/\∀ p∈X.pn++pins,p.1≠b)
  (keep:∀ b o,b≠X.env.locals->b∉X.fs->b∉ch->s.heap.get? b=some o->H b=none->h'.get? b=some o)
  (slot:∀ b o,b≠X.env.locals->b∈X.fs->b∉ch->s.heap.get? b=some o->H b=none->∃ sl,h'.get? b=some { o with slots:=sl })(free:∀ b o,b∉ch->s.heap.get? b=some o->H b=none->H' b=none)
  (there:∀ b o,b∉ch->s.heap.get? b=some o->∃ o',h'.get? b=some o')
  (tups:∀ b xs,H b=some (.tup xs)->H' b=some (.tup xs))(frzs:∀ b o u,H b=some (.frz o u)->H' b=some (.frz o u))(tbls:∀ b ps,H b=some (.tbl ps)->∃ more,H' b=some (.tbl (ps++more)))
  (ns:∀ m,s.heap.Ns X.env.locals m->h'.Ns X.env.locals m)(hok:HOk X.prog X.w H' h')(hg:AllBare g') :
  Inv X pins σ H' { s with heap:=h',gens:=g',drawn:=d',toks:=t' }:=by
 have neL:∀ b o,X.s₀.heap.get? b=some o->b≠X.env.locals:=λb o e=>NX (NH (Ny e) I.ok.above)
 have neC:∀ b o,X.s₀.heap.get? b=some o->b∉X.ex->b∉ch:=λb o e hx hb=>by
  rcases (hch b hb).1 with z|z
  ·exact hx z
  ·exact absurd (NH (Ny e) z) (OK _)
 have cellK:∀ x c,X.env.cells.lookup x=some c->∀ v,s.heap.IsCell c v->h'.IsCell c v:=λx c e v ⟨o,ho,hd⟩=>by
  have nch:c∉ch:=λz=>(hch c z).2.2.1 x c e rfl
  by_cases hc:c∈X.fs
  ·obtain⟨sl,q⟩:=slot c o (I.cne x c e) hc nch ho (I.freeC x c e)
   exact⟨_,q,hd⟩
  ·exact⟨o,keep c o (I.cne x c e) hc nch ho (I.freeC x c e),hd⟩
 refine⟨I.ok,I.os,hg,⟨λb o e n hb hx=>?_,λb o e n hb hx=>?_,λb o e n hx=>?_,λb o e hx=>?_,λb xs e=>tups b xs (I.base.tups b xs e),λb o xs e=>frzs b o xs (I.base.frzs b o xs e),λb ps e=>?_⟩,?_,λx c e=>?_,?_,λx c e=>?_,λp hp=>?_,hok,I.len⟩
 ·exact keep b o (neL b o e) hb (neC b o e hx) (I.base.keep b o e n hb hx) (I.base.free b o e n hx)
 ·obtain⟨sl,e1⟩:=I.base.slot b o e n hb hx
  obtain⟨sl',e2⟩:=slot b _ (neL b o e) hb (neC b o e hx) e1 (I.base.free b o e n hx);exact⟨sl',e2⟩
 ·obtain⟨o',e1⟩:=I.base.there b o e hx
  exact free b o' (neC b o e hx) e1 (I.base.free b o e n hx)
 ·obtain⟨o',e1⟩:=I.base.there b o e hx
  exact there b o' (neC b o e hx) e1
 ·obtain⟨m1,e1⟩:=I.base.tbls b ps e
  obtain⟨m2,e2⟩:=tbls b _ e1;exact⟨m1++m2,by rw[e2,Array.append_assoc]⟩
 ·obtain⟨m,hn,hl⟩:=I.loc
  refine⟨m,ns m hn,λi x v e1 e2 e3=>?_⟩
  obtain⟨u,r,l⟩:=hl i x v e1 e2 e3;refine⟨u,r,?_⟩
  rcases l with l|⟨k,c,e,z⟩
  ·exact .inl l
  ·exact .inr ⟨k,c,e,cellK x c e _ z⟩
 ·obtain⟨v,z⟩:=I.cell x c e
  exact⟨v,cellK x c e v z⟩
 ·obtain⟨m,⟨o,_,_,ho,_⟩,_⟩:=I.loc
  exact free _ o (λz=>(hch _ z).2.1 rfl) ho I.free
 ·obtain⟨v,o,ho,hd⟩:=I.cell x c e
  exact free c o (λz=>(hch c z).2.2.1 x c e rfl) ho (I.freeC x c e)
 ·obtain⟨e,n,ne,nf,d⟩:=I.pin p hp
  have nch:p.1∉ch:=λz=>(hch p.1 z).2.2.2 p hp rfl
  exact⟨keep p.1 p.2 ne nf nch e n,free p.1 p.2 nch e n,ne,nf,d⟩
def Inv.un{t':Nat}(I:Inv X pins σ H s)(u:Un X.fs [] H H' s.heap h')(hok:HOk X.prog X.w H' h'):Inv X pins σ H' { s with heap:=h',toks:=t' }:=by
 obtain⟨m,⟨o,es,ep,ho,r⟩,_⟩:=id I.loc;obtain⟨sl,hL⟩:=u.any ho I.free 's';exact I.step (g':=s.gens) (d':=s.drawn) (ch:=[]) (λ_ z=>nomatch z) (λb o _ hb _ e n=>u.keep b o e n hb 's') (λb o _ hb _ e n=>u.slot b o e n hb 's') (λb o _ e n=>u.free b o e n 's') (λb o _ e=>u.there b o e 's') u.tups u.frzs u.tbls (λm' hm=>by
  obtain⟨o',es',ep',ho',r'⟩:=hm;rw[ho] at ho';cases ho'
  exact⟨_,es',ep',hL,r'⟩) hok I.bare
def Inv.call{g':Array GenState}{t':Nat}{d':Drawn}{ch:List ZE}(I:Inv X pins σ H s)(u:Un (dJ X.stack) ch H H' s.heap h')(hok:HOk X.prog X.w H' h')(hg:AllBare g')
  (hch:∀ b∈ch,(b∈X.ex\/X.s₀.heap.objs.size<=b)/\b≠X.env.locals/\(∀ x c,X.env.cells.lookup x=some c->c≠b)/\∀ p∈X.pn++pins,p.1≠b) :
  Inv X pins σ H' { s with heap:=h',gens:=g',drawn:=d',toks:=t' }:=by
 obtain⟨m,⟨o,es,ep,ho,r⟩,_⟩:=id I.loc;obtain⟨sl,hL⟩:=u.any ho I.free λz=>(hch _ z).2.1 rfl
 exact I.step (ch:=ch) hch (λb o hL hb hc e n=>u.keep b o e n (λz=>(ND.mp (I.stkSub b z)).elim hL hb) hc) (λb o _ _ hc e n=>u.any e n hc) (λb o hc e n=>u.free b o e n hc) (λb o hc e=>u.there b o e hc) u.tups u.frzs u.tbls (λm' hm=>by
  obtain⟨o',es',ep',ho',r'⟩:=hm;rw[ho] at ho';cases ho'
  exact⟨_,es',ep',hL,r'⟩) hok hg
def Inv.turned{t':Nat}{it:ZE}(I:Inv X pins σ H s)(k:∀ b o,b≠it->s.heap.get? b=some o->h'.get? b=some o)(hn:H it=none)(hL:it≠X.env.locals)
  (h1:it∈X.ex\/X.s₀.heap.objs.size<=it)(h2:∀ x c,X.env.cells.lookup x=some c->c≠it)(h3:∀ p∈X.pn++pins,p.1≠it):Inv X pins σ H { s with heap:=h',toks:=t' }:=by
 have nit:∀ b u,H b=some u->b≠it:=λb u e z=>by rw[z,hn] at e;cases e
 refine I.step (g':=s.gens) (d':=s.drawn) (ch:=[it]) (λb hb=>?_) (λb o _ _ hc e _=>k b o (λz=>hc (by simp[z])) e) (λb o _ _ hc e _=>⟨o.slots,k b o (λz=>hc (by simp[z])) e⟩) (λ_ _ _ _ n=>n)
  (λb o hc e=>⟨o,k b o (λz=>hc (by simp[z])) e⟩) (λ_ _ e=>e) (λ_ _ _ e=>e) (λb ps e=>⟨#[],by rw[e];simp⟩) (λm hm=>?_) (λb u e=>?_) I.bare
 ·have e:b=it:=by simpa using hb
  subst e;exact⟨h1,hL,h2,h3⟩
 ·obtain⟨o,es,ep,ho,r⟩:=hm
  exact⟨o,es,ep,k _ o (Ne.symm hL) ho,r⟩
 ·refine(I.hok b u e).stay (λc v hc q=>k c v ?_ q) (λ_ q=>q) λ_ _ q=>q
  rcases hc with z|z
  ·rw[z];exact nit b u e
  ·exact nit c _ z
def Inv.tok(I:Inv X pins σ H s)(t:Nat):Inv X pins σ H { s with toks:=t }:=(I.un (h':=s.heap) (t':=t) Un.refl I.hok)
def Inv.kept{t':Nat}(I:Inv X pins σ H s)(k:∀ b u,s.heap.get? b=some u->h'.get? b=some u):Inv X pins σ H { s with heap:=h',toks:=t' }:=(I.un (Un.kept k) (I.hok.kept k))
def Inv.laid{a:ZE}{o:HO}{t':Nat}(I:Inv X pins σ H s)(k:∀ b u,s.heap.get? b=some u->h'.get? b=some u)(hp:s.heap.objs.size<=a)(new:ObjOk X.prog X.w (upd H a o) h' a o) :
  Inv X pins σ (upd H a o) { s with heap:=h',toks:=t' }:=(I.un (Un.laid k hp (I.hok.fresh hp)) (I.hok.laid k hp new))
def Inv.write{x e:ZE}{o:HO}{t':Nat}(I:Inv X pins σ H s)(mu:nA (H x))(he:e=x\/H e=some (.own x))(k:∀ b u,b≠e->s.heap.get? b=some u->h'.get? b=some u)(heo:∃ u,h'.get? e=some u)
  (new:ObjOk X.prog X.w (upd H x o) h' x o):Inv X pins σ (upd H x o) { s with heap:=h',toks:=t' }:=(I.un (Un.write mu he k heo) (I.hok.write mu he k heo new))
def Inv.weak{σ':List (Option V)}(I:Inv X pins σ H s)(hl:σ'.length=σ.length)(w:∀ (i:Nat) v,σ'[i]?=some (some v)->σ[i]?=some (some v)):Inv X pins σ' H s :=(
 ⟨I.ok,I.os,I.bare,I.base,let ⟨m,hn,hl'⟩:=I.loc;⟨m,hn,λi x v e1 e2 e3=>hl' i x v e1 (w i v e2) e3⟩,I.cell,I.free,I.freeC,I.pin,I.hok,hl.trans I.len⟩)
def Inv.pins_of{pins':List (ZE×Obj)}(I:Inv X pins σ H s)(h:∀ p∈pins',s.heap.get? p.1=some p.2/\H p.1=none/\p.1≠X.env.locals/\p.1∉X.fs/\∀ v,p.2.data ≠ .cell v):Inv X pins' σ H s :=(
 ⟨I.ok,I.os,I.bare,I.base,I.loc,I.cell,I.free,I.freeC,λp hp=>(Oe.mp hp).elim (λz=>I.pin p (NK _ z)) (h p),I.hok,I.len⟩)
def pM{N:List Str}(hN:N.Nodup){i j:Nat}{x:Str}(a:N[i]?=some x)(b:N[j]?=some x):i=j:=by
 obtain⟨h1,e1⟩:=Ni.mp a;obtain⟨h2,e2⟩:=Ni.mp b;exact(List.getElem_inj hN).mp (e1.trans e2.symm)
def xa{M:Model}{A:ZG}{E:ZC->ZB->Prop}{i:Nat}{x:Str}{v:V}{u:ZC}{Q:Unit->ZB->Prop}(I:Inv X pins σ H s)(hN:X.N.Nodup)(hi:X.N[i]?=some x)(hx:kB X.env.scope x)(r:RelV v u)
  (h:∀ s',Inv X pins (σ.set i (some v)) H s'->(∃ a,Heap.SameBut a s.heap s'.heap/\(a=X.env.locals\/X.env.cells.lookup x=some a))->Q () s')(hf:X.fn x=true\/X.env.scope.names.lookup x=some .local:=by first|exact .inl rfl|exact .inr rfl|assumption):wpAny M A (storeName X.env x u) Q E s:=by
 obtain⟨m,hn,hl⟩:=id I.loc;have hcls:(X.env.scope.kind == .class || (X.env.scope.kind == .module && X.env.locals != X.env.globals))=false:=by rw[I.ok.kind];rfl
 have hiσ:i<σ.length:=by rw[I.len];exact(Ni.mp hi).1
 have cne:=I.cne;have tracked:∀ {a:ZE} {h':Heap},(∃ o,s.heap.get? a=some o/\H a=none)->Heap.SameBut a s.heap h'->HOk X.prog X.w H h':=λ{a h'} ha hs b ob e=>by
  obtain⟨_,_,hfree⟩:=ha;refine(I.hok b ob e).stay (λc w' hc q=>(hs.2 c ?_).trans q) (λ_ q=>q) λ_ _ q=>q
  rintro rfl
  rcases hc with rfl|hc
  ·rw[hfree] at e;cases e
  ·rw[hfree] at hc;cases hc
 rcases hx with hk|hk
 ·refine wpAny_storeName_local hk hn (λh' hn' hs=>?_) hcls
  obtain⟨oL,_,_,hoL,_⟩:=id hn;refine h _ ⟨I.ok,I.os,I.bare,⟨λb o e n hb hx=>?_,λb o e n hb hx=>?_,I.base.free,λb o e hx=>?_,I.base.tups,I.base.frzs,I.base.tbls⟩,⟨_,hn',λj y v' e1 e2 e3=>?_⟩,λy c e=>?_,I.free,I.freeC,λp hp=>?_,tracked ⟨oL,hoL,I.free⟩ hs,by simpa using I.len⟩ ⟨_,hs,.inl rfl⟩
  ·exact(hs.2 b (NX (NH (Ny e) I.ok.above))).trans (I.base.keep b o e n hb hx)
  ·obtain⟨sl,e1⟩:=I.base.slot b o e n hb hx
   exact⟨sl,(hs.2 b (NX (NH (Ny e) I.ok.above))).trans e1⟩
  ·obtain⟨o',e1⟩:=I.base.there b o e hx
   exact⟨o',(hs.2 b (NX (NH (Ny e) I.ok.above))).trans e1⟩
  ·by_cases hj:j=i
   ·subst hj
    rw[hi] at e1;cases e1
    rw[Nv hiσ] at e2
    cases e2
    exact⟨u,r,.inl ⟨hk,by simp⟩⟩
   ·rw[Nl (Ne.symm hj)] at e2
    obtain⟨u',r',q⟩:=hl j y v' e1 e2 e3;refine⟨u',r',?_⟩
    rcases q with⟨k,e⟩|⟨k,c,e,z⟩
    ·refine .inl ⟨k,?_⟩
     have:y≠x:=λe=>hj (pM hN e1 (e▸hi))
     simp[this,e]
    ·exact .inr ⟨k,c,e,z.sameBut hs (cne y c e)⟩
  ·obtain⟨w',z⟩:=I.cell y c e
   exact⟨w',z.sameBut hs (cne y c e)⟩
  ·obtain⟨e,n,ne,nf,d⟩:=I.pin p hp
   exact⟨(hs.2 p.1 ne).trans e,n,ne,nf,d⟩
 ·have hfn:X.fn x=true:=by
   rcases hf with z|z
   ·exact z
   ·rw[z] at hk;cases hk
  obtain⟨c,hc⟩:=I.ok.has x (.inl hk);obtain⟨w',z⟩:=I.cell x c hc;refine wpAny_storeName_cell I.ok.kind hk hc z (λh' hc' hs=>?_)
  obtain⟨oc,hoc,hocd⟩:=id z;refine h { s with heap:=h' } ⟨I.ok,I.os,I.bare,⟨λb o e n hb hx=>?_,λb o e n hb hx=>?_,I.base.free,λb o e hx=>?_,I.base.tups,I.base.frzs,I.base.tbls⟩,⟨m,hn.sameBut hs (Ne.symm (cne x c hc)),λj y v' e1 e2 e3=>?_⟩,λy c' e=>?_,I.free,I.freeC,λp hp=>?_,tracked ⟨oc,hoc,I.freeC x c hc⟩ hs,by simpa using I.len⟩ ⟨c,hs,.inr hc⟩
  ·exact(hs.2 b (NX (NH (Ny e) (I.ok.cab x c hfn hc)))).trans (I.base.keep b o e n hb hx)
  ·obtain⟨sl,e1⟩:=I.base.slot b o e n hb hx
   exact⟨sl,(hs.2 b (NX (NH (Ny e) (I.ok.cab x c hfn hc)))).trans e1⟩
  ·obtain⟨o',e1⟩:=I.base.there b o e hx
   exact⟨o',(hs.2 b (NX (NH (Ny e) (I.ok.cab x c hfn hc)))).trans e1⟩
  ·by_cases hj:j=i
   ·subst hj
    rw[hi] at e1;cases e1
    rw[Nv hiσ] at e2
    cases e2
    exact⟨u,r,.inr ⟨.inl hk,c,hc,hc'⟩⟩
   ·rw[Nl (Ne.symm hj)] at e2
    obtain⟨u',r',q⟩:=hl j y v' e1 e2 e3;refine⟨u',r',?_⟩
    rcases q with q|⟨k,c',e,z'⟩
    ·exact .inl q
    ·refine .inr ⟨k,c',e,z'.sameBut hs ?_⟩
     rintro rfl
     exact hj (pM hN e1 (I.ok.inj _ _ _ e hc▸hi))
  ·by_cases hcc:c'=c
   ·subst hcc;exact⟨_,hc'⟩
   ·obtain⟨w2,z2⟩:=I.cell y c' e
    exact⟨w2,z2.sameBut hs hcc⟩
  ·obtain⟨e,n,ne,nf,d⟩:=I.pin p hp
   refine⟨(hs.2 p.1 ?_).trans e,n,ne,nf,d⟩
   intro q;rw[q,hoc] at e;have q':oc=p.2:=N8 e
   exact d w' (by rw[<- q'];exact hocd)
def l9{M:Model}{A:ZG}{E:ZC->ZB->Prop}{i:Nat}{x:Str}{v:V}{u:ZC}{Q:Unit->ZB->Prop}(I:Inv X pins σ H s)(hN:X.N.Nodup)(hi:X.N[i]?=some x)(hx:kB X.env.scope x)(r:RelV v u)
  (h:∀ s',Inv X pins (σ.set i (some v)) H s'->Q () s')(hf:X.fn x=true\/X.env.scope.names.lookup x=some .local:=by first|exact .inl rfl|exact .inr rfl|assumption):wpAny M A (storeName X.env x u) Q E s :=(
 xa I hN hi hx r (λs' I' _=>h s' I') hf)
def Inv.call'{s':ZB}{ch:List ZE}(I:Inv X pins σ H s)(ho:s'.os=s.os)(u:Un (dJ X.stack) ch H H' s.heap s'.heap)(hok:HOk X.prog X.w H' s'.heap)(hg:AllBare s'.gens)
  (hch:∀ b∈ch,(b∈X.ex\/X.s₀.heap.objs.size<=b)/\b≠X.env.locals/\(∀ x c,X.env.cells.lookup x=some c->c≠b)/\∀ p∈X.pn++pins,p.1≠b):Inv X pins σ H' s':=by
 obtain⟨h',g',d',t',o'⟩:=s';have e:o'=s.os:=ho;subst e;exact I.call (g':=g') (t':=t') (d':=d') u hok hg hch
end
abbrev XK:=ZC->Option ZE->Hp->Prop
abbrev St:=List (Option V)
abbrev VK:=V->Hp->Prop
abbrev TE:=St->Hp->VK->Prop
abbrev TT:=St->Hp->(Bool->Hp->Prop)->Prop
abbrev TA:=St->Hp->(List V->Hp->Prop)->Prop
structure cN where
 nx:St->Hp->Prop
 rt:VK
 bk:St->Hp->Prop:=λ_ _=>False
 ct:St->Hp->Prop:=λ_ _=>False
abbrev TS:=cN->St->Hp->Prop
def EP(X:Cx)(pins:List (ZE×Obj))(σ:St)(Q:VK)(u:ZC)(s':ZB):Prop:=∃ v H',Inv X pins σ H' s'/\RelV v u/\Q v H'
def TP(X:Cx)(pins:List (ZE×Obj))(σ:St)(Q:Bool->Hp->Prop)(b:Bool)(s':ZB):Prop:=∃ H',Inv X pins σ H' s'/\Q b H'
def AP(X:Cx)(pins:List (ZE×Obj))(σ:St)(Q:List V->Hp->Prop)(us:List ZC)(s':ZB):Prop:=∃ vs H',Inv X pins σ H' s'/\Vals vs us/\Q vs H'
def SP(X:Cx)(pins:List (ZE×Obj))(D:cN)(f:Flow)(s':ZB):Prop :=
 match f with
 |.next=>∃ σ' H',Inv X pins σ' H' s'/\D.nx σ' H'
 |.brk=>∃ σ' H',Inv X pins σ' H' s'/\D.bk σ' H'
 |.cont=>∃ σ' H',Inv X pins σ' H' s'/\D.ct σ' H'
 |.ret u=>∃ v σ' H',Inv X pins σ' H' s'/\RelV v u/\D.rt v H'
def PE(X:Cx)(e:Expr)(t:TE):Prop :=
 ∀ (pins:List (ZE×Obj)) (s:ZB) (σ:St) (H:Hp) (Q:VK),Inv X pins σ H s->t σ H Q->wpAny (model X.prog X.w) X.A (eval e X.env) (EP X pins σ Q) X.xe s
def PT(X:Cx)(e:Expr)(t:TT):Prop :=
 ∀ (pins:List (ZE×Obj)) (s:ZB) (σ:St) (H:Hp) (Q:Bool->Hp->Prop),Inv X pins σ H s->t σ H Q->wpAny (model X.prog X.w) X.A (isTrue e X.env (eval e X.env)) (TP X pins σ Q) X.xe s
def PW(X:Cx)(e:Expr)(t:TT):Prop :=
 ∀ (whole:Sem ZC) (pins:List (ZE×Obj)) (s:ZB) (σ:St) (H:Hp) (Q:Bool->Hp->Prop),Inv X pins σ H s->t σ H Q->wpAny (model X.prog X.w) X.A (isTrue e X.env whole) (TP X pins σ Q) X.xe s
def PW.pt{X:Cx}{e:Expr}{t:TT}(h:PW X e t):PT X e t:=(h _)
def PA(X:Cx)(es:List Expr)(t:TA):Prop :=
 ∀ (pos:Pos) (pins:List (ZE×Obj)) (s:ZB) (σ:St) (H:Hp) (Q:List V->Hp->Prop),Inv X pins σ H s->t σ H Q->wpAny (model X.prog X.w) X.A (spliced (backTo pos (starEach es X.env))) (AP X pins σ Q) X.xe s
def PS(X:Cx)(st:Stmt)(t:TS):Prop :=
 ∀ (pins:List (ZE×Obj)) (s:ZB) (σ:St) (H:Hp) (D:cN),Inv X pins σ H s->t D σ H->wpAny (model X.prog X.w) X.A (exec st X.env) (SP X pins D) X.xe s
def PSs(X:Cx)(st:List Stmt)(t:TS):Prop :=
 ∀ (pins:List (ZE×Obj)) (s:ZB) (σ:St) (H:Hp) (D:cN),Inv X pins σ H s->t D σ H->wpAny (model X.prog X.w) X.A (execs st X.env) (SP X pins D) X.xe s
def thn{α:Type}{t:Sem α}{Q Q':α->ZB->Prop}{M:Model}{A:ZG}{E:ZC->ZB->Prop}{s:ZB}(h:wpAny M A t Q E s)(hQ:∀ a s,Q a s->Q' a s):wpAny M A t Q' E s:=(Oc h hQ λ_ _ x=>x)
section
variable{X:Cx}
def nC(i:Nat):TE:=λσ H Q=>∃ v,σ[i]?=some (some v)/\Q v H
def tC(v:V):TE:=λ_ H Q=>Q v H
def CQ {i:Nat} {x:Str} {pos:Pos} (hN:X.N[i]?=some x) (hv:nB X.env.scope x) (hd:(x==("__debug__":Str))=false:=by decide) (hcd:(x == ("__classdict__" : Str))=false:=by decide):PE X (.Name x pos) (nC i):=by
 intro pins s σ H Q I h;obtain⟨v,e,h⟩:=h;obtain⟨m,hn,hl⟩:=I.loc;obtain⟨u,r,l⟩:=hl i x v hN e hv;have fin:EP X pins σ Q u s:=⟨v,H,I,r,h⟩
 rcases l with⟨hk,hm⟩|⟨hk,c,hc,hcell⟩
 ·exact Sj (wpAny_loadName_local I.ok.kind hk hn hm fin) hd
 ·rcases hk with hk|hk
  ·exact Sj (wpAny_loadName_cell I.ok.kind hk hc hcell fin) hd
  ·exact Sj (wpAny_loadName_free I.ok.kind hk hc hcell fin hcd) hd
def CT{i j pos}:PE X (.Constant (.int i) j pos) (tC (.int i)):=(λ_ _ _ H _ I h=>wpAny_Constant_int ⟨.int i,H,I.tok _,⟨_,rfl⟩,h⟩)
def CV{b j pos}:PE X (.Constant (.bool b) j pos) (tC (.bl b)):=(λ_ _ _ H _ I h=>Constant_bool ⟨.bl b,H,I,rfl,h⟩)
def CW{j pos}:PE X (.Constant .none j pos) (tC .non):=(λ_ _ _ H _ I h=>Constant_none ⟨.non,H,I,rfl,h⟩)
def CY{x j pos}:PE X (.Constant (.str x) j pos) (tC (.str x)):=(λ_ _ _ H _ I h=>Calls.Constant_str ⟨.str x,H,I.tok _,⟨_,rfl⟩,h⟩)
def Gl(X:Cx)(x:Str):Prop:=X.env.kindOf x=some .globalImplicit
def kD {E:ZC->ZB->Prop} {pins:List (ZE×Obj)} {s:ZB} {σ:St} {H:Hp} {x:Str} {u:ZC} {pos:Pos} {Q:ZC->ZB->Prop} (I:Inv X pins σ H s) (hg:Gl X x) (hm:X.mg x=some u) (h:Q u s)
  (hd:(x==("__debug__":Str))=false:=by decide):wpAny (model X.prog X.w) X.A (eval (.Name x pos) X.env) Q E s :=(
 Qi I.ok.kind hg (Calls.loadGlobal_global (by rw[I.ok.glob];exact I.mod.glob.keeps I.bk) hm h) hd)
def kE {E:ZC->ZB->Prop} {pins:List (ZE×Obj)} {s:ZB} {σ:St} {H:Hp} {x:Str} {u:ZC} {pos:Pos} {Q:ZC->ZB->Prop} (I:Inv X pins σ H s) (hg:Gl X x) (hm:X.mg x=none) (hv:bootBuiltins x=some u) (h:Q u s)
  (hn:x ≠ "__name__" := by decide) (hd:(x==("__debug__":Str))=false:=by decide):wpAny (model X.prog X.w) X.A (eval (.Name x pos) X.env) Q E s:=by
 obtain⟨mb,h1,h2⟩:=I.mod.blt;exact Qi I.ok.kind hg (Calls.loadGlobal_builtin (by rw[I.ok.glob];exact I.mod.glob.keeps I.bk) hm (by rw[I.ok.blt];exact h1.keeps I.bk) ((h2 x hn).trans hv) h) hd
def pN {x:Str} {v:V} {u:ZC} {pos:Pos} (hg:Gl X x) (hm:X.mg x=some u) (r:RelV v u) (hd:(x==("__debug__":Str))=false:=by decide):PE X (.Name x pos) (tC v) :=(
 λ_ _ _ H _ I h=>kD I hg hm ⟨v,H,I,r,h⟩ hd)
def CZ {x:Str} {v:V} {u:ZC} {pos:Pos} (hg:Gl X x) (hm:X.mg x=none) (hv:bootBuiltins x=some u) (r:RelV v u) (hn:x ≠ "__name__" := by decide) (hd:(x==("__debug__":Str))=false:=by decide):PE X (.Name x pos) (tC v) :=(
 λ_ _ _ H _ I h=>kE I hg hm hv ⟨v,H,I,r,h⟩ hn hd)
variable{a b:Expr}{ta tb:TE}{pos:Pos}
variable{tA tB':TT}{rest:List Expr}
def sk(t u:TT):TT:=λσ H Q=>t σ H λc H1=>if c=true then u σ H1 Q else Q false H1
def C6(t u:TT):TT:=λσ H Q=>t σ H λc H1=>if c=true then Q true H1 else u σ H1 Q
def sr(t:TT):TT:=λσ H Q=>t σ H λc H1=>Q (!c) H1
def C7(ha:PT X a tA):PW X (.BoolOp .And [a] pos) tA:=by
 intro wh pins s σ H Q I h;refine isTrue_and (thn (ha pins s σ H Q I h) λc s1 e=>?_)
 cases c with
 |true=>exact isTrue_and_nil e
 |false=>exact e
def C8(ha:PT X a tA):PW X (.BoolOp .Or [a] pos) tA:=by
 intro wh pins s σ H Q I h;refine isTrue_or (thn (ha pins s σ H Q I h) λc s1 e=>?_)
 cases c with
 |false=>exact isTrue_or_nil e
 |true=>exact e
def C9(ha:PT X a tA)(hb:PW X (.BoolOp .And (b::rest) pos) tB'):PW X (.BoolOp .And (a::b::rest) pos) (sk tA tB'):=by
 intro wh pins s σ H Q I h;refine isTrue_and (thn (ha pins s σ H _ I h) λc s1 Zz=>?_);obtain⟨H1,I1,q1⟩:=Zz
 cases c with
 |true=>exact hb wh pins s1 σ H1 Q I1 q1
 |false=>exact⟨H1,I1,q1⟩
def Da(ha:PT X a tA)(hb:PW X (.BoolOp .Or (b::rest) pos) tB'):PW X (.BoolOp .Or (a::b::rest) pos) (C6 tA tB'):=by
 intro wh pins s σ H Q I h;refine isTrue_or (thn (ha pins s σ H _ I h) λc s1 Zz=>?_);obtain⟨H1,I1,q1⟩:=Zz
 cases c with
 |true=>exact⟨H1,I1,q1⟩
 |false=>exact hb wh pins s1 σ H1 Q I1 q1
def Dc(ha:PT X a tA):PT X (.UnaryOp .Not a pos) (sr tA):=by
 intro pins s σ H Q I h;exact isTrue_not (ha pins s σ H (λc H1=>Q (!c) H1) I h)
def Df(ta tb:TE):TE:=λσ H Q=>ta σ H λx H1=>∃ c,x=.bl c/\if c=true then tb σ H1 Q else Q (.bl false) H1
def su(ta tb:TE):TE:=λσ H Q=>ta σ H λx H1=>∃ c,x=.bl c/\if c=true then Q (.bl true) H1 else tb σ H1 Q
def Dg(ta:TE):TE:=λσ H Q=>ta σ H λx H1=>∃ c,x=.bl c/\Q (.bl (!c)) H1
def Dh{op}{t:TE}(h:PE X a t):PE X (.BoolOp op [a] pos) t:=(λpins s σ H Q I hw=>BoolOp_one (h pins s σ H Q I hw))
def Di(ha:PE X a ta)(hb:PE X (.BoolOp .And (b::rest) pos) tb):PE X (.BoolOp .And (a::b::rest) pos) (Df ta tb):=by
 intro pins s σ H Q I h;refine BoolOp_and (thn (ha pins s σ H _ I h) λv s1 Zz=>?_);obtain⟨x,H1,I1,r1,q1⟩:=Zz
 obtain⟨c,rfl,q1⟩:=q1
 cases r1
 refine NI ?_
 cases c with
 |true=>exact hb pins s1 σ H1 Q I1 q1
 |false=>exact⟨.bl false,H1,I1,rfl,q1⟩
def Dj(ha:PE X a ta)(hb:PE X (.BoolOp .Or (b::rest) pos) tb):PE X (.BoolOp .Or (a::b::rest) pos) (su ta tb):=by
 intro pins s σ H Q I h;refine BoolOp_or (thn (ha pins s σ H _ I h) λv s1 Zz=>?_);obtain⟨x,H1,I1,r1,q1⟩:=Zz
 obtain⟨c,rfl,q1⟩:=q1
 cases r1
 refine NI ?_
 cases c with
 |false=>exact hb pins s1 σ H1 Q I1 q1
 |true=>exact⟨.bl true,H1,I1,rfl,q1⟩
def Dl(ha:PE X a ta):PE X (.UnaryOp .Not a pos) (Dg ta):=by
 intro pins s σ H Q I h;refine UnaryOp_ (thn (ha pins s σ H _ I h) λv s1 Zz=>?_);obtain⟨x,H1,I1,r1,q1⟩:=Zz
 obtain⟨c,rfl,q1⟩:=q1
 cases r1
 exact not_of (NI ⟨.bl (!c),H1,I1,rfl,q1⟩)
end
def SqL(K:ZA)(H:Hp)(a:ZE)(xs:List V):Prop :=
 Rd H a (.lst xs) \/
  ∃ (o:Obj) (its:Array ZC) (n:Nat),K.lookup a=some o/\o.cls=.type "list" /\ o.dict=none/\o.data=.seq its n/\its.size<=sizeLine/\Vals xs its.toList
def SqT(K:ZA)(H:Hp)(a:ZE)(xs:List V):Prop :=
 Rd H a (.tup xs) \/
  ∃ (o:Obj) (its:Array ZC) (n:Nat),K.lookup a=some o/\o.cls=.type "tuple" /\ o.data=.seq its n/\its.size<=sizeLine/\Vals xs its.toList
def sv:ZC->Option V
 |.none=>some .non
 |.bool b=>some (.bl b)
 |.int i _=>some (.int i)
 |.str x _=>some (.str x)
 |.bytes b _=>some (.byt b)
 |.float b _=>some (.flt b)
 |.ref a=>some (.ref a)
 |.type n=>some (.ty n)
 |_=>none
def RelV.abs{x:V}{u:ZC}(r:RelV x u):sv u=some x:=by
 cases x with
 |non=>cases r;rfl
 |bl _=>cases r;rfl
 |int _=>obtain⟨t,rfl⟩:=r;rfl
 |str _=>obtain⟨t,rfl⟩:=r;rfl
 |byt _=>obtain⟨t,rfl⟩:=r;rfl
 |flt _=>obtain⟨t,rfl⟩:=r;rfl
 |ref _=>cases r;rfl
 |ty _=>cases r;rfl
def RelV.inj{x y:V}{u:ZC}(r:RelV x u)(q:RelV y u):x=y:=(N8 (r.abs.symm.trans q.abs))
theorem Vals.inj:∀ {xs ys:List V} {us:List ZC},Vals xs us->Vals ys us->xs=ys
 |_,_,_,.nil,.nil=>rfl
 |_,_,_,.cons r t,.cons r' t'=>by rw[r.inj r',Vals.inj t t']
section
variable{X:Cx}{pins:List (ZE×Obj)}{σ:St}{H:Hp}{s:ZB}{a:ZE}{xs ys:List V}
def SqL.of{K:ZA}(h:H a=some (.lst xs)):SqL K H a xs:=(.inl (.inl h))
def SqT.of{K:ZA}(h:H a=some (.tup xs)):SqT K H a xs:=(.inl (.inl h))
def Inv.list(I:Inv X pins σ H s)(h:SqL X.K H a xs):∃ its:List ZC,Vals xs its/\PlainL s.heap a its.toArray/\xs.length<=sizeLine:=by
 rcases h with h|⟨o,its,n,hk,hc,hd,hs,hz,r⟩
 ·obtain⟨z,its,n,r,e⟩:=h.ok I.hok
  exact⟨its,r,⟨_,n,e,rfl,rfl,rfl⟩,z⟩
 ·refine⟨its.toList,r,⟨o,n,I.kIn a o hk,hc,hd,by simpa using hs⟩,?_⟩
  have e:=r.length;simp only[OV] at e
  lia
def Inv.tuple(I:Inv X pins σ H s)(h:SqT X.K H a xs):∃ its:List ZC,Vals xs its/\IsTup s.heap a its.toArray/\xs.length<=sizeLine:=by
 rcases h with h|⟨o,its,n,hk,hc,hs,hz,r⟩
 ·obtain⟨z,its,r,p⟩:=h.ok I.hok
  exact⟨its,r,p,z⟩
 ·refine⟨its.toList,r,⟨o,I.kIn a o hk,hc,n,by simpa using hs⟩,?_⟩
  have e:=r.length;simp only[OV] at e
  lia
def Inv.list_inj(I:Inv X pins σ H s)(h:SqL X.K H a xs)(h':SqL X.K H a ys):xs=ys:=by
 obtain⟨its,r,⟨o,n,e,_,_,d⟩,_⟩:=I.list h;obtain⟨its',r',⟨o',n',e',_,_,d'⟩,_⟩:=I.list h';rw[e] at e';cases e'
 rw[d] at d';injection d' with d1 _
 have:its=its':=by simpa using congrArg Array.toList d1
 subst this;exact r.inj r'
def Inv.tuple_inj(I:Inv X pins σ H s)(h:SqT X.K H a xs)(h':SqT X.K H a ys):xs=ys:=by
 obtain⟨its,r,⟨o,e,_,n,d⟩,_⟩:=I.tuple h;obtain⟨its',r',⟨o',e',_,n',d'⟩,_⟩:=I.tuple h';rw[e] at e';cases e'
 rw[d] at d';injection d' with d1 _
 have:its=its':=by simpa using congrArg Array.toList d1
 subst this;exact r.inj r'
end
abbrev Cx.wish(X:Cx)(E:ZC->ZB->Prop):Cx:={ X with xe:=E }
abbrev Cx.nox(X:Cx):Cx:=X.wish λ_ _=>False
def Cx.Ok.wish{X:Cx}(ok:X.Ok)(E:ZC->ZB->Prop):(X.wish E).Ok :=(
 ⟨ok.mod,ok.kind,ok.glob,ok.blt,ok.above,ok.inj,ok.has,ok.cab,ok.hd,ok.frames,ok.stk,ok.exf,ok.bs,ok.bsz,ok.noex,ok.exfs,ok.funs,ok.frf⟩)
def Cx.Ok.unwish{X:Cx}{E:ZC->ZB->Prop}(ok:(X.wish E).Ok):X.Ok :=(
 ⟨ok.mod,ok.kind,ok.glob,ok.blt,ok.above,ok.inj,ok.has,ok.cab,ok.hd,ok.frames,ok.stk,ok.exf,ok.bs,ok.bsz,ok.noex,ok.exfs,ok.funs,ok.frf⟩)
section
variable{X:Cx}{pins:List (ZE×Obj)}{σ:St}{H:Hp}{s:ZB}{E:ZC->ZB->Prop}
def Inv.wish(I:Inv X pins σ H s)(E:ZC->ZB->Prop):Inv (X.wish E) pins σ H s:=(⟨I.ok.wish E,I.os,I.bare,I.base,I.loc,I.cell,I.free,I.freeC,I.pin,I.hok,I.len⟩)
def Inv.unwish(I:Inv (X.wish E) pins σ H s):Inv X pins σ H s:=(⟨I.ok.unwish,I.os,I.bare,I.base,I.loc,I.cell,I.free,I.freeC,I.pin,I.hok,I.len⟩)
def SP.unwish{D:cN}{f:Flow}{s':ZB}(h:SP (X.wish E) pins D f s'):SP X pins D f s':=by
 cases f with
 |next=>obtain⟨σ',H',I,q⟩:=h;exact⟨σ',H',I.unwish,q⟩
 |brk=>obtain⟨σ',H',I,q⟩:=h;exact⟨σ',H',I.unwish,q⟩
 |cont=>obtain⟨σ',H',I,q⟩:=h;exact⟨σ',H',I.unwish,q⟩
 |ret u=>obtain⟨v,σ',H',I,r,q⟩:=h;exact⟨v,σ',H',I.unwish,r,q⟩
end
section
variable{X:Cx}{st:Stmt}{rest:List Stmt}{t u:TS}{e:Expr}{te:TE}{pos:Pos}
def Dm:TS:=λD σ H=>D.nx σ H
def sC(t u:TS):TS:=λD σ H=>t { D with nx:=u D } σ H
def Do:PSs X [] Dm:=(λ_ _ σ H _ I h=>P8 ⟨σ,H,I,h⟩)
def Dp(h1:PS X st t)(h2:PSs X rest u):PSs X (st::rest) (sC t u):=by
 intro pins s σ H D I h;refine wpAny_execs_cons (thn (h1 pins s σ H { D with nx:=u D } I h) λf s1 q=>?_)
 cases f with
 |next =>
  obtain⟨σ',H',I',q⟩:=q;exact h2 pins s1 σ' H' D I' q
 |ret v=>exact q
 |brk=>exact q
 |cont=>exact q
def Dq(h1:PS X st t):PSs X [st] t:=by
 intro pins s σ H D I h;refine wpAny_execs_cons (thn (h1 pins s σ H D I h) λf s1 q=>?_)
 cases f with
 |next=>exact P8 q
 |ret v=>exact q
 |brk=>exact q
 |cont=>exact q
def Inv.quiet{pins:List (ZE×Obj)}{σ:St}{H:Hp}{s:ZB}(I:Inv X pins σ H s):interactive X.env=false:=by simp[interactive,I.ok.kind]
def Dr(te:TE):TS:=λD σ H=>te σ H λ_ H1=>D.nx σ H1
def Ds(he:PE X e te)(hs:swapsWith e none pos.line X.env=pure false:=by rfl):PS X (.Expr e pos) (Dr te):=by
 intro pins s σ H D I h;exact wpAny_Expr_any (thn (he pins s σ H _ I h) λv s1 ⟨x,H1,I1,r1,q1⟩=>⟨σ,H1,I1,q1⟩) I.quiet hs
def sD(te:TE):TS:=λD σ H=>te σ H D.rt
def Dt(he:PE X e te):PS X (.Return (some e) pos) (sD te):=by
 intro pins s σ H D I h;exact wpAny_Return_some (thn (he pins s σ H _ I h) λv s1 ⟨x,H1,I1,r1,q1⟩=>⟨x,σ,H1,I1,r1,q1⟩)
def sE(c:TT)(t u:TS):TS:=λD σ H=>c σ H λb H1=>if b=true then t D σ H1 else u D σ H1
def Du{c:Expr}{a b:List Stmt}{tc:TT}(hc:PT X c tc)(ha:PSs X a t)(hb:PSs X b u):PS X (.If c a b pos) (sE tc t u):=by
 intro pins s σ H D I h;refine wpAny_If (thn (hc pins s σ H _ I h) λd s1 Zz=>?_);obtain⟨H1,I1,q1⟩:=Zz
 cases d with
 |true=>exact ha pins s1 σ H1 D I1 q1
 |false=>exact hb pins s1 σ H1 D I1 q1
end
abbrev TG:=V->St->Hp->(St->Hp->Prop)->Prop
abbrev jT:=List V->St->Hp->(St->Hp->Prop)->Prop
def PG(X:Cx)(target:Expr)(t:TG):Prop :=
 ∀ (pins:List (ZE×Obj)) (s:ZB) (σ:St) (H:Hp) (v:V) (u:ZC) (Q:St->Hp->Prop),Inv X pins σ H s->RelV v u->t v σ H Q ->
  wpAny (model X.prog X.w) X.A (assign target X.env u) (λ_ s'=>∃ σ' H',Inv X pins σ' H' s'/\Q σ' H') X.xe s
def kF(X:Cx)(ts:List Expr)(t:jT):Prop :=
 ∀ (pins:List (ZE×Obj)) (s:ZB) (σ:St) (H:Hp) (vs:List V) (us:List ZC) (Q:St->Hp->Prop),Inv X pins σ H s->Vals vs us->t vs σ H Q ->
  wpAny (model X.prog X.w) X.A (assignInOrder ((assignEach ts X.env).map (·.2)) us) (λ_ s'=>∃ σ' H',Inv X pins σ' H' s'/\Q σ' H') X.xe s
abbrev kH:=V->V->V->Hp->(Hp->Prop)->Prop
def nE(X:Cx)(t:kH):Prop :=
 ∀ (pins:List (ZE×Obj)) (s:ZB) (σ:St) (H:Hp) (o i v:V) (ov iv u:ZC) (Q:Hp->Prop),Inv X pins σ H s->RelV o ov->RelV i iv->RelV v u->t o i v H Q ->
  wpAny (model X.prog X.w) X.A (setItem ov iv u) (λ_ s'=>∃ H',Inv X pins σ H' s'/\Q H') X.xe s
section
variable{X:Cx}{pos:Pos}
def mf(i:Nat):TG:=λv σ H Q=>Q (σ.set i (some v)) H
def sF{i:Nat}{x:Str}(hN:X.N.Nodup)(hi:X.N[i]?=some x)(hx:kB X.env.scope x)(hf:X.fn x=true\/X.env.scope.names.lookup x=some .local:=by first|exact .inl rfl|exact .inr rfl|assumption):PG X (.Name x pos) (mf i):=by
 intro pins s σ H v u Q I r h;exact R9 (l9 I hN hi hx r (λs' I'=>⟨_,H,I',h⟩) hf)
def sG:jT:=λvs σ H Q=>vs=[]/\Q σ H
def Dv(t:TG)(u:jT):jT:=λvs σ H Q=>∃ v r,vs=v::r/\t v σ H λσ' H'=>u r σ' H' Q
def Dw:kF X [] sG:=by
 intro pins s σ H vs us Q I r h;obtain⟨e,h⟩:=h;subst e
 cases r
 exact Sa ⟨σ,H,I,h⟩
def Dx{e:Expr}{es:List Expr}{t:TG}{u:jT}(h1:PG X e t)(h2:kF X es u)
  (hs:‹(assignEach (e::es) X.env).map (·.2)=assign e X.env::(assignEach es X.env).map (·.2)›):kF X (e::es) (Dv t u):=by
 intro pins s σ H vs us Q I r h;obtain⟨v,vr,e1,h⟩:=h;subst e1
 cases r with
 |cons r rr =>
  rw[hs];refine Pz (thn (h1 pins s σ H _ _ _ I r h) λ_ s1 Zz=>?_);obtain⟨σ1,H1,I1,q1⟩:=Zz
  exact h2 pins s1 σ1 H1 _ _ Q I1 rr q1
def sH(K:ZA)(n:Nat)(t:jT):TG:=λv σ H Q=>∃ a xs,v=.ref a/\SqT K H a xs/\xs.length=n/\t xs σ H Q
def Dy{es:List Expr}{k:Nat}{t:jT}{n:Nat}(hc:X.calm=true)(h:kF X es t)
  (hn:‹(assignEach es X.env).length=n›)(hst:‹(assignEach es X.env).findIdx? (·.1)=none›):PG X (.Tuple es k pos) (sH X.K n t):=by
 intro pins s σ H v u Q I r hw;obtain⟨a,xs,e1,hq,hl,hw⟩:=hw;subst e1
 cases r
 obtain⟨its,rv,ht,hz⟩:=I.tuple hq;refine assign_Tuple_tuple (I.ok.hd hc) ht (by simp[hn,<- hl,rv.length]) hst λh' hx=>?_
 have I1:Inv X pins σ H { s with heap:=h' }:=I.kept (t':=s.toks) λb o e=>hx b o (NX (Ny e)) e
 exact h pins _ σ H xs _ Q I1 (by simpa using rv) hw
def sI(to ti:TE)(t:kH):TG:=λv σ H Q=>to σ H λo H1=>ti σ H1 λi H2=>t o i v H2 λH3=>Q σ H3
def DA{o i:Expr}{to ti:TE}{t:kH}(ho:PE X o to)(hi:PE X i ti)(hs:nE X t)
  (ha:∀ v,assign (.Subscript o i pos) X.env v=(do
   let ov <- holding [v] (eval o X.env)
   let iv <- holding [v,ov] (eval i X.env)
   standAt pos
   holding [v,ov,iv] (setItem ov iv v)
   release [v,ov,iv] []):=by intro _;rfl):PG X (.Subscript o i pos) (sI to ti t):=by
 intro pins s σ H v u Q I r h;rw[ha];refine Nj (Oi (thn (ho pins s σ H _ I h) λov s1 Zz=>?_));obtain⟨x,H1,I1,r1,q1⟩:=Zz
 refine Nj (Oi (thn (hi pins s1 σ H1 _ I1 q1) λiv s2 Zz=>?_));obtain⟨y,H2,I2,r2,q2⟩:=Zz
 refine Nj (QD (Nj (Oi (thn (hs pins s2 σ H2 x y v ov iv u _ I2 r1 r2 r q2) λ_ s3 Zz=>?_))));obtain⟨H3,I3,q3⟩:=Zz
 exact wpAny_release ⟨σ,H3,I3,q3⟩
def i9(te:TE)(g:TG):TS:=λD σ H=>te σ H λx H1=>g x σ H1 D.nx
def xb{tg e:Expr}{te:TE}{g:TG}(he:PE X e te)(hg:PG X tg g)(hs:‹swapsWithSole [tg] e pos.line X.env=pure false›)(hw:‹swappedStores [tg] e X.env=pure none›)
  (h1:‹(assignEach [tg] X.env).map (·.2)=[assign tg X.env]›):PS X (.Assign [tg] e pos) (i9 te g):=by
 intro pins s σ H D I h;refine wpAny_Assign_stores (thn (he pins s σ H _ I h) λv s1 Zz=>?_) hs hw;obtain⟨x,H1,I1,r1,q1⟩:=Zz
 rw[h1];exact thn (hg pins s1 σ H1 x v _ I1 r1 q1) λ_ s2 q=>q
def DB{i:Nat}{x:Str}{e:Expr}{te:TE}{pos':Pos}(hN:X.N.Nodup)(hi:X.N[i]?=some x)(hx:kB X.env.scope x)(he:PE X e te)(hs:‹swapsWith e (some (.Name x pos')) pos.line X.env=pure false›)(hf:X.fn x=true\/X.env.scope.names.lookup x=some .local:=by first|exact .inl rfl|exact .inr rfl|assumption) :
  PS X (.Assign [.Name x pos'] e pos) (i9 te (mf i)):=by
 intro pins s σ H D I h;refine wpAny_Assign_Name (thn (he pins s σ H _ I h) λv s1 Zz=>?_) hs;obtain⟨y,H1,I1,r1,q1⟩:=Zz
 exact l9 I1 hN hi hx r1 (λs2 I2=>⟨_,H1,I2,q1⟩) hf
end
section
variable{X:Cx}{pos:Pos}
end
structure It where
 go:Nat->Hp->Prop
 yld:Nat->Hp->V->Hp->Prop
 stop:Nat->Hp->Prop
def dB(X:Cx)(pins:List (ZE×Obj))(H:Hp)(b:ZE):Prop :=
 H b=none/\b≠X.env.locals/\b∉X.fs/\(b∈X.ex\/X.s₀.heap.objs.size<=b)/\(∀ x c,X.env.cells.lookup x=some c->c≠b)/\∀ p∈X.pn++pins,p.1≠b
def Inv.fpOk{X:Cx}{pins:List (ZE×Obj)}{σ:St}{H H':Hp}{s:ZB}{b:ZE}(I:Inv X pins σ H s)(hb:s.heap.objs.size<=b)(hn:H' b=none):dB X pins H' b:=by
 refine⟨hn,Nat.ne_of_gt (NH I.lt hb),I.nofs hb,.inr (Np I.sz hb),λx c e z=>?_,λp hp z=>?_⟩
 ·obtain⟨v,q⟩:=I.cell x c e
  exact absurd (NH q.lt (by rw[z];exact hb)) (OK _)
 ·exact absurd (NH (Ny (I.pin p hp).1) (by rw[z];exact hb)) (OK _)
structure fK(P:ZD)(w:ZF)(K:ZA)(tg:Expr)(J:It)(fp:List ZE)(it:ZE)(tn:Nat->Heap->Prop):Prop where
 mem:it∈fp
 obj:∀ i h,tn i h->∀ b∈fp,∃ o,h.get? b=some o/\∀ v,o.data ≠ .cell v
 keep:∀ i h h',tn i h->(∀ b∈fp,∀ o,h.get? b=some o->h'.get? b=some o)->tn i h'
 item:∀ (X:Cx),X.prog=P->X.w=w->X.K=K->X.calm=true->∀ (i:Nat) (pins:List (ZE×Obj)) (s:ZB) (σ:St) (H:Hp) (E:ZC->ZB->Prop),Inv X pins σ H s->(∀ b∈fp,dB X pins H b)->tn i s.heap->J.go i H ->
  wpAny (model P w) X.A (pyNext (.ref it)) (λr s1=>∃ u,r=some u /\
   wpAny (model P w) X.A (letOwnedTupleGo tg (.ref it) u) (λ_ s2=>∃ x H',Inv X pins σ H' s2/\RelV x u/\J.yld i H x H'/\tn (i+1) s2.heap/\∀ b∈fp,H' b=none) E s1) E s
 done:∀ (X:Cx),X.prog=P->X.w=w->X.K=K->X.calm=true->∀ (i:Nat) (pins:List (ZE×Obj)) (s:ZB) (σ:St) (H:Hp) (E:ZC->ZB->Prop),Inv X pins σ H s->(∀ b∈fp,dB X pins H b)->tn i s.heap->J.stop i H ->
  wpAny (model P w) X.A (pyNext (.ref it)) (λr s1=>r=none/\Inv X pins σ H s1) E s
 self:∀ (A:ZG) (i:Nat) (s:ZB) (Q:ZC->ZB->Prop) (E:ZC->ZB->Prop),tn i s.heap->Q (.ref it) s->wpAny (model P w) A (pyIter (.ref it)) Q E s
abbrev TI:=St->Hp->(It->Hp->Prop)->Prop
def sJ(X:Cx)(pins:List (ZE×Obj))(σ:St)(tg:Expr)(R:It->Hp->Prop)(itv:ZC)(s2:ZB):Prop :=
 ∃ (it:ZE) (fp:List ZE) (tn:Nat->Heap->Prop) (J:It) (H':Hp),itv=.ref it/\Inv X pins σ H' s2/\fK X.prog X.w X.K tg J fp it tn/\tn 0 s2.heap/\(∀ b∈fp,dB X pins H' b)/\R J H'
def PI(X:Cx)(tg iter:Expr)(wi:TI):Prop :=
 ∀ (pins:List (ZE×Obj)) (s:ZB) (σ:St) (H:Hp) (R:It->Hp->Prop),Inv X pins σ H s->wi σ H R ->
  wpAny (model X.prog X.w) X.A (eval iter X.env) (λv s1=>wpAny (model X.prog X.w) X.A (pyIter v) (sJ X pins σ tg R) X.xe s1) X.xe s
def pO {M:Model} {A:ZG} {E:ZC->ZB->Prop} {s:ZB} {tg:Expr} {it:ZE} {u:ZC} {o:Obj} {n:String} {vs:Array ZC} {Q:Unit->ZB->Prop} (ho:s.heap.get? it=some o) (hc:o.cls=.type n) (hd:o.data=.fields vs)
  (hn:["enumerate", "zip", "dict_itemiterator", "dict_reverseitemiterator", "odict_iterator", "itertools.zip_longest", "itertools.pairwise"].contains n=false) (hQ:Q () s):wpAny M A (letOwnedTupleGo tg (.ref it) u) Q E s:=by
 unfold letOwnedTupleGo
 cases tg<;>first
  |exact Nu hQ
  | (cases u<;>first
    |exact Nu hQ
    | (refine Nj (PB ho ?_)
       rw[hc,hd];show wpAny M A (if (["enumerate", "zip", "dict_itemiterator", "dict_reverseitemiterator", "odict_iterator", "itertools.zip_longest", "itertools.pairwise"].contains n && vs[0]? == some (rawInt _))=true then _ else _) Q E s
       rw[Nr (by intro h;rw[hn,Bool.false_and] at h;cases h)];exact Nu hQ))
def pP(K:ZA)(a:ZE):It :=
 ⟨λi H=>∃ xs x,SqL K H a xs/\xs[i]?=some x,λi H x H'=>H'=H/\∀ xs,SqL K H a xs->xs[i]?=some x,λi H=>∃ xs,SqL K H a xs/\xs.length<=i⟩
def sL(K:ZA)(a:ZE):It :=
 ⟨λi H=>∃ xs x,SqT K H a xs/\xs[i]?=some x,λi H x H'=>H'=H/\∀ xs,SqT K H a xs->xs[i]?=some x,λi H=>∃ xs,SqT K H a xs/\xs.length<=i⟩
def nF(lo:Int)(n:Nat):It:=⟨λi _=>i<n,λi H x H'=>H'=H/\x=.int (lo+i),λi _=>n<=i⟩
def DC{P:ZD}{w:ZF}{K:ZA}{tg:Expr}(a it:ZE):fK P w K tg (pP K a) [it] it (λi h=>h.IsListIter it a i) where
 mem:=by simp
 obj:=λi h st b hb=>by
  have e:b=it:=by simpa using hb
  subst e;obtain⟨o,e,c,d⟩:=st
  exact⟨o,e,λv z=>by rw[d] at z;cases z⟩
 keep:=λi h h' st k=>st.at λo e=>k it 's' o e
 item:=by
  intro X hP hw hK hc i pins s σ H E I hf st hg;subst hP hw hK
  obtain⟨xs,x,hq,hx⟩:=hg;obtain⟨its,rv,p,hz⟩:=I.list hq;obtain⟨u,hu,ru⟩:=rv.get hx;obtain⟨f0,f1,f2,f3,f4,f5⟩:=hf it 's';refine wpAny_pyNext_list_item st p.isList (x:=u) (by simpa using hu) λh' st' sb=>?_
  have I1:Inv X pins σ H { s with heap:=h' }:=I.turned (t':=s.toks) (λb o hb e=>(sb.2 b hb).trans e) f0 f1 f3 f4 f5;obtain⟨o,e,c,d⟩:=id st';exact⟨u,rfl,pO (s:={ s with heap:=h' }) e c d 'd' ⟨x,H,I1,ru,⟨rfl,λys hy=>by rw[I.list_inj hy hq];exact hx⟩,st',λb hb=>(hf b hb).1⟩⟩
 done:=by
  intro X hP hw hK hc i pins s σ H E I hf st hg;subst hP hw hK
  obtain⟨xs,hq,hx⟩:=hg;obtain⟨its,rv,p,hz⟩:=I.list hq;obtain⟨f0,f1,f2,f3,f4,f5⟩:=hf it 's';have hl:=rv.length;exact wpAny_pyNext_list_end (I.ok.hd hc) st p.isList (by simp;lia) λh' eb=>⟨rfl,I.turned (t':=s.toks) (λb o hb e=>eb b o hb e) f0 f1 f3 f4 f5⟩
 self:=λ_ _ _ _ _ st h=>wpAny_pyIter_listiter st h
def DD{P:ZD}{w:ZF}{K:ZA}{tg:Expr}(a it:ZE):fK P w K tg (sL K a) [it] it (λi h=>h.IsTupleIter it a i) where
 mem:=by simp
 obj:=λi h st b hb=>by
  have e:b=it:=by simpa using hb
  subst e;obtain⟨o,e,c,d⟩:=st
  exact⟨o,e,λv z=>by rw[d] at z;cases z⟩
 keep:=λi h h' st k=>st.at λo e=>k it 's' o e
 item:=by
  intro X hP hw hK hc i pins s σ H E I hf st hg;subst hP hw hK
  obtain⟨xs,x,hq,hx⟩:=hg;obtain⟨its,rv,p,hz⟩:=I.tuple hq;obtain⟨u,hu,ru⟩:=rv.get hx;obtain⟨f0,f1,f2,f3,f4,f5⟩:=hf it 's';refine wpAny_pyNext_tuple_item st (show s.heap.IsTuple a its.toArray from p) (x:=u) (by simpa using hu) λh' st' sb=>?_
  have I1:Inv X pins σ H { s with heap:=h' }:=I.turned (t':=s.toks) (λb o hb e=>(sb.2 b hb).trans e) f0 f1 f3 f4 f5;obtain⟨o,e,c,d⟩:=id st';exact⟨u,rfl,pO (s:={ s with heap:=h' }) e c d 'd' ⟨x,H,I1,ru,⟨rfl,λys hy=>by rw[I.tuple_inj hy hq];exact hx⟩,st',λb hb=>(hf b hb).1⟩⟩
 done:=by
  intro X hP hw hK hc i pins s σ H E I hf st hg;subst hP hw hK
  obtain⟨xs,hq,hx⟩:=hg;obtain⟨its,rv,p,hz⟩:=I.tuple hq;obtain⟨f0,f1,f2,f3,f4,f5⟩:=hf it 's';have hl:=rv.length;exact wpAny_pyNext_tuple_end (I.ok.hd hc) st (show s.heap.IsTuple a its.toArray from p) (by simp;lia) λh' eb=>⟨rfl,I.turned (t':=s.toks) (λb o hb e=>eb b o hb e) f0 f1 f3 f4 f5⟩
 self:=λ_ _ _ _ _ st h=>wpAny_pyIter_tupleiter st h
def DE{P:ZD}{w:ZF}{K:ZA}{tg:Expr}(it:ZE)(lo:Int)(n:Nat):fK P w K tg (nF lo n) [it] it (λi h=>IsRangeIter h it (lo+(i:Nat)*1) ((n:Int)-(i:Nat)) 1) where
 mem:=by simp
 obj:=λi h st b hb=>by
  have e:b=it:=by simpa using hb
  subst e;exact⟨_,st,λv z=>by
   have z':Data.fields _=Data.cell v:=z
   cases z'⟩
 keep:=λi h h' st k=>k it 's' _ st
 item:=by
  intro X hP hw hK hc i pins s σ H E I hf st hg;subst hP hw hK
  obtain⟨f0,f1,f2,f3,f4,f5⟩:=hf it 's';have W:=Walks.range (prog:=X.prog) (w:=X.w) (I.ok.hd hc) it lo 1 n;refine W.item i s _ _ hg st λv h' tk hv st' kk=>?_
  obtain⟨t,rfl⟩:=hv;have I1:Inv X pins σ H { s with heap:=h',toks:=tk }:=I.turned (λb o hb e=>kk b o (by simpa using hb) e) f0 f1 f3 f4 f5;refine⟨_,rfl,pO (s:={ s with heap:=h',toks:=tk }) (n := "range_iterator") st' rfl rfl 'd' ⟨.int (lo+i),H,I1,⟨t,?_⟩,⟨rfl,rfl⟩,st',λb hb=>(hf b hb).1⟩⟩
  rw[Int.mul_one]
 done:=by
  intro X hP hw hK hc i pins s σ H E I hf st hg;subst hP hw hK
  obtain⟨f0,f1,f2,f3,f4,f5⟩:=hf it 's';exact Q4 (I.ok.hd hc) st (by have:n<=i:=hg;lia) λh' eb=>⟨rfl,I.turned (t':=s.toks) (λb o hb e=>eb b o hb e) f0 f1 f3 f4 f5⟩
 self:=λ_ _ _ _ _ st h=>Q5 st h
section
variable{X:Cx}{tg:Expr}
def xg(K:ZA)(tl:TE):TI:=λσ H R=>tl σ H λx H1=>∃ a,x=.ref a/\(∃ xs,SqL K H1 a xs)/\R (pP K a) H1
def nG(K:ZA)(tl:TE):TI:=λσ H R=>tl σ H λx H1=>∃ a,x=.ref a/\(∃ xs,SqT K H1 a xs)/\R (sL K a) H1
def xh{l:Expr}{tl:TE}(hl:PE X l tl):PI X tg l (xg X.K tl):=by
 intro pins s σ H R I h;refine thn (hl pins s σ H _ I h) λv s1 Zz=>?_;obtain⟨x,H1,I1,r1,q1⟩:=Zz
 obtain⟨a,e,⟨xs,hq⟩,q⟩:=q1;subst e
 cases r1
 obtain⟨its,rv,p,hz⟩:=I1.list hq;refine Qy p.isList ?_
 refine⟨s1.heap.objs.size,[s1.heap.objs.size],_,_,H1,rfl,I1.kept (t':=s1.toks) λb o e=>Nq _ e,DC a _,⟨_,NC _ rfl,rfl,rfl⟩,λb hb=>?_,q⟩
 have e:b=s1.heap.objs.size:=by simpa using hb
 subst e;exact I1.fpOk (Nk _) (I1.hok.fresh (Nk _))
def xj{l:Expr}{tl:TE}(hl:PE X l tl):PI X tg l (nG X.K tl):=by
 intro pins s σ H R I h;refine thn (hl pins s σ H _ I h) λv s1 Zz=>?_;obtain⟨x,H1,I1,r1,q1⟩:=Zz
 obtain⟨a,e,⟨xs,hq⟩,q⟩:=q1;subst e
 cases r1
 obtain⟨its,rv,p,hz⟩:=I1.tuple hq;refine wpAny_pyIter_tuple (show s1.heap.IsTuple a its.toArray from p) ?_
 refine⟨s1.heap.objs.size,[s1.heap.objs.size],_,_,H1,rfl,I1.kept (t':=s1.toks) λb o e=>Nq _ e,DD a _,⟨_,NC _ rfl,rfl,rfl⟩,λb hb=>?_,q⟩
 have e:b=s1.heap.objs.size:=by simpa using hb
 subst e;exact I1.fpOk (Nk _) (I1.hok.fresh (Nk _))
def xk{pins:List (ZE×Obj)}{σ:St}{H:Hp}{s:ZB}{R:It->Hp->Prop}{E:ZC->ZB->Prop}{lo hi:Int}{t u v:Tok}{tk:Nat}(I:Inv X pins σ H s)(h1:-(2 ^ 62)<=lo)(h2:lo<2 ^ 62)(h3:-(2 ^ 62)<=hi)(h4:hi<2 ^ 62)
  (q:R (nF lo (hi-lo).toNat) H):wpAny (model X.prog X.w) X.A (pyIter (.ref s.heap.objs.size)) (sJ X pins σ tg R) E { s with heap:=s.heap.push { cls:=.type "range",data:=.fields #[.int lo t,.int hi u,.int 1 v] },toks:=tk }:=by
 refine RW (IsRange.new ..) (small_one h1 h2 h3 h4) ?_
 have I1:Inv X pins σ H { s with heap:=s.heap.push { cls:=.type "range",data:=.fields #[.int lo t,.int hi u,.int 1 v] },toks:=tk }:=I.kept λb o e=>Nq _ e
 refine⟨(s.heap.push { cls:=.type "range",data:=.fields #[.int lo t,.int hi u,.int 1 v] }).objs.size,[(s.heap.push { cls:=.type "range",data:=.fields #[.int lo t,.int hi u,.int 1 v] }).objs.size],_,_,H,rfl,
  I1.kept (t':=tk) λb o e=>Nq _ e,DE _ lo (hi-lo).toNat,?_,λb hb=>?_,q⟩
 ·have e1:lo+((0:Nat):Int)*1=lo:=by simp
  have e2:(((hi-lo).toNat:Nat):Int)-((0:Nat):Int)=Builtin.Range.rangeSize lo hi 1:=by rw[rangeSize_one];split<;>omega
  show IsRangeIter _ _ (lo+((0:Nat):Int)*1) ((((hi-lo).toNat:Nat):Int)-((0:Nat):Int)) 1
  rw[e1,e2];exact NC _ rfl
 ·have e:b=(s.heap.push { cls:=.type "range",data:=.fields #[.int lo t,.int hi u,.int 1 v] }).objs.size:=by simpa using hb
  subst e;exact I1.fpOk (Nk _) (I1.hok.fresh (Nk _))
def DF(ta:TA):TI:=λσ H R=>ta σ H λvs H1=>∃ j:Int,vs=[.int j] /\ -(2 ^ 62)<=j/\j<2 ^ 62/\R (nF 0 j.toNat) H1
def DH(ta:TA):TI:=λσ H R=>ta σ H λvs H1=>∃ i j:Int,vs=[.int i,.int j]/\(-(2 ^ 62)<=i/\i<2 ^ 62 /\ -(2 ^ 62)<=j/\j<2 ^ 62)/\R (nF i (j-i).toNat) H1
def DJ {a:Expr} {ta:TA} {p pos:Pos} (hg:Gl X "range") (hm:X.mg "range"=none) (ha:PA X [a] ta) (hs:‹starEach [a] X.env=[(false,eval a X.env)]›):PI X tg (.Call (.Name "range" p) [a] [] pos) (DF ta):=by
 intro pins s σ H R I h;refine Call_ (kE I hg hm Sl (OC (thn (ha pos pins s σ H _ I h) λus s1 Zz=>?_) hs rfl));obtain⟨vs,H1,I1,r1,q1⟩:=Zz
 obtain⟨j,e,q1,q2,q⟩:=q1;subst e
 cases r1 with
 |cons r rr =>
  cases rr
  obtain⟨t,rfl⟩:=r;exact call_range_1 (xk I1 ⋯ ⋯ q1 q2 (by simpa using q))
def DL {a b:Expr} {ta:TA} {p pos:Pos} (hg:Gl X "range") (hm:X.mg "range"=none) (ha:PA X [a,b] ta) (hs:‹starEach [a,b] X.env=[(false,eval a X.env),(false,eval b X.env)]›) (hs2:‹starEach [b] X.env=[(false,eval b X.env)]›) :
  PI X tg (.Call (.Name "range" p) [a,b] [] pos) (DH ta):=by
 intro pins s σ H R I h;refine Call_ (kE I hg hm Sl (OC (thn (ha pos pins s σ H _ I h) λus s1 Zz=>?_) (by rw[hs,hs2]) (by rw[hs2];rfl)));obtain⟨vs,H1,I1,r1,q1⟩:=Zz
 obtain⟨i,j,e,⟨q1,q2,q3,q4⟩,q⟩:=q1;subst e
 cases r1 with
 |cons r rr =>
  cases rr with
  |cons r' rr =>
   cases rr
   obtain⟨t,rfl⟩:=r;obtain⟨t',rfl⟩:=r';exact call_range_2 (xk I1 q1 q2 q3 q4 q)
def sM(wi:TI)(g:TG)(tb:TS):TS:=λD σ H=>wi σ H λJ H1=>∃ W:Nat->Nat->St->Hp->Prop,(∃ m,W 0 m σ H1)/\∀ i m σ H,W i m σ H ->
 (J.stop i H/\D.nx σ H)\/(J.go i H/\∃ N:St->Hp->Prop,(∀ σ' H',N σ' H'->∃ m',m'<m/\W (i+1) m' σ' H')/\∀ x H',J.yld i H x H'->g x σ H' λσ2 H2=>tb { D with nx:=N,ct:=N,bk:=D.nx } σ2 H2)
def iQ(fp:List ZE)(h:Heap):List (ZE×Obj):=fp.filterMap λb=>(h.get? b).map λo=>(b,o)
def pQ{fp:List ZE}{h:Heap}{b:ZE}{o:Obj}(hb:b∈fp)(e:h.get? b=some o):(b,o)∈iQ fp h:=(Qj.mpr ⟨b,hb,by rw[e];rfl⟩)
def DM{fp:List ZE}{h:Heap}{p:ZE×Obj}(hp:p∈iQ fp h):p.1∈fp/\h.get? p.1=some p.2:=by
 obtain⟨b,hb,e⟩:=Qj.mp hp
 cases q:h.get? b with
 |none=>rw[q] at e;cases e
 |some o =>
  rw[q] at e;have e':(b,o)=p:=N8 e
  subst e'
  exact⟨hb,q⟩
def Inv.pinned{pins:List (ZE×Obj)}{σ:St}{H:Hp}{s:ZB}{fp:List ZE}(I:Inv X pins σ H s)(hf:∀ b∈fp,dB X pins H b)(ho:∀ b∈fp,∃ o,s.heap.get? b=some o/\∀ v,o.data ≠ .cell v):Inv X (pins++iQ fp s.heap) σ H s :=(
 I.pins_of λp hp=>(Oe.mp hp).elim (λz=>I.pin p (NR _ z)) λz=>by
  obtain⟨hb,e⟩:=DM z;obtain⟨f0,f1,f2,_⟩:=hf p.1 hb;obtain⟨o,e',d⟩:=ho p.1 hb;rw[e] at e';cases e'
  exact⟨e,f0,f1,f2,d⟩)
def Inv.unpinned{pins pl:List (ZE×Obj)}{σ:St}{H:Hp}{s:ZB}(I:Inv X (pins++pl) σ H s):Inv X pins σ H s:=(I.pins_of λp hp=>I.pin p (NR _ (NK _ hp)))
def DO{iter:Expr}{body:List Stmt}{wi:TI}{g:TG}{tb:TS}{pos:Pos}(hp:PassesOwn (model X.prog X.w) X.A X.env X.xe)(hc:X.calm=true)(hi:PI X tg iter wi)(hg:PG X tg g)(hb:PSs X body tb)
  (hs:∀ x,foldedSetIterable iter X.env x=pure x:=by intro _;rfl):PS X (.For tg iter body [] pos) (sM wi g tb):=by
 intro pins s σ H D I h;refine wpAny_For (thn (hi pins s σ H _ I h) λv s1 h1=>thn h1 λitv s2 h2=>?_) hs
 obtain⟨it,fp,tn,J,H2,e,I2,T,st2,f2,W,⟨m0,w0⟩,turn⟩:=h2;subst e;have stat:∀ {H':Hp},(∀ b∈fp,H' b=none)->∀ b∈fp,dB X pins H' b:=λhn b hb=>⟨hn b hb,(f2 b hb).2⟩
 refine codeAny_forLoop_any (λn s'=>∃ i σ' H',Inv X pins σ' H' s'/\tn i s'.heap/\(∀ b∈fp,H' b=none)/\W i n σ' H') ?_ m0 ⟨0,σ,H2,I2,st2,λb hb=>(f2 b hb).1,w0⟩
 rintro n s3 ⟨i,σ3,H3,I3,st3,fr3,w3⟩
 rcases turn i n σ3 H3 w3 with⟨stop,qn⟩|⟨go,N,hN,step⟩
 ·refine Px hp (thn (T.done X rfl rfl rfl hc i pins s3 σ3 H3 X.xe I3 (stat fr3) st3 stop) λr s4 Zz=>?_);obtain⟨hr,I4⟩:=Zz
  subst hr;exact P8 ⟨σ3,H3,I4,qn⟩
 ·refine Px hp (thn (T.item X rfl rfl rfl hc i pins s3 σ3 H3 X.xe I3 (stat fr3) st3 go) λr s4 Zz=>?_);obtain⟨u,hr,h4⟩:=Zz
  subst hr;refine Px hp (thn h4 λ_ s5 Zz=>?_);obtain⟨x,H5,I5,r5,y5,st5,fr5⟩:=Zz
  have I5':=I5.pinned (stat fr5) (T.obj _ _ st5);refine Px hp (thn (hg _ s5 σ3 H5 x u _ I5' r5 (step x H5 y5)) λ_ s6 Zz=>?_);obtain⟨σ6,H6,I6,q6⟩:=Zz
  refine Px hp (thn (hb _ s6 σ6 H6 _ I6 q6) λf s7 q7=>?_)
  have again:∀ {σ7:St} {H7:Hp},Inv X (pins++iQ fp s5.heap) σ7 H7 s7->N σ7 H7->∃ m,m<n/\∃ i σ' H',Inv X pins σ' H' s7/\tn i s7.heap/\(∀ b∈fp,H' b=none)/\W i m σ' H':=λ{σ7 H7} I7 n7=>by
   obtain⟨m',hm,w7⟩:=hN σ7 H7 n7;refine⟨m',hm,i+1,σ7,H7,I7.unpinned,T.keep _ _ _ st5 λb hb o e=>(I7.pin (b,o) (NR _ (NR _ (pQ hb e)))).1,λb hb=>?_,w7⟩
   obtain⟨o,e,d⟩:=T.obj _ _ st5 b hb;exact(I7.pin (b,o) (NR _ (NR _ (pQ hb e)))).2.1
  cases f with
  |next=>obtain⟨σ7,H7,I7,n7⟩:=q7;exact again I7 n7
  |cont=>obtain⟨σ7,H7,I7,n7⟩:=q7;exact again I7 n7
  |brk=>obtain⟨σ7,H7,I7,q7⟩:=q7;exact⟨σ7,H7,I7.unpinned,q7⟩
  |ret v=>obtain⟨x7,σ7,H7,I7,r7,q7⟩:=q7;exact⟨x7,σ7,H7,I7.unpinned,r7,q7⟩
end
abbrev R2:=V->V->Hp->VK->Prop
def OpR(X:Cx)(f:ZC->ZC->Sem ZC)(r:R2):Prop :=
 ∀ (pins:List (ZE×Obj)) (s:ZB) (σ:St) (H:Hp) (x y:V) (v u:ZC) (Q:VK),Inv X pins σ H s->RelV x v->RelV y u->r x y H Q ->
  wpAny (model X.prog X.w) X.A (f v u) (EP X pins σ Q) X.xe s
def sN(X:Cx)(f:ZC->Sem ZC)(r:V->Hp->VK->Prop):Prop :=
 ∀ (pins:List (ZE×Obj)) (s:ZB) (σ:St) (H:Hp) (x:V) (v:ZC) (Q:VK),Inv X pins σ H s->RelV x v->r x H Q ->
  wpAny (model X.prog X.w) X.A (f v) (EP X pins σ Q) X.xe s
def CallR(X:Cx)(f:ZC)(r:List V->Hp->VK->Prop):Prop :=
 ∀ (pins:List (ZE×Obj)) (s:ZB) (σ:St) (H:Hp) (xs:List V) (us:List ZC) (Q:VK),Inv X pins σ H s->Vals xs us->r xs H Q ->
  wpAny (model X.prog X.w) X.A (call f us) (EP X pins σ Q) X.xe s
def sO(X:Cx)(r:V->Hp->(Bool->Hp->Prop)->Prop):Prop :=
 ∀ (pins:List (ZE×Obj)) (s:ZB) (σ:St) (H:Hp) (x:V) (v:ZC) (Q:Bool->Hp->Prop),Inv X pins σ H s->RelV x v->r x H Q ->
  wpAny (model X.prog X.w) X.A (truthy v) (TP X pins σ Q) X.xe s
def mh(r:R2)(ta tb:TE):TE:=λσ H Q=>ta σ H λx H1=>tb σ H1 λy H2=>r x y H2 Q
def DP(r:V->Hp->VK->Prop)(ta:TE):TE:=λσ H Q=>ta σ H λx H1=>r x H1 Q
def rI(C:Int->Int->Prop)(g:Int->Int->V):R2:=λx y H Q=>∃ i j,x=.int i/\y=.int j/\C i j/\Q (g i j) H
def jU(g:Int->Int->V):R2:=λx y H Q=>∃ i j,x=.int i/\y=.int j/\Q (g i j) H
def rU(g:Int->V):V->Hp->VK->Prop:=λx H Q=>∃ i,x=.int i/\Q (g i) H
section
variable{X:Cx}{a b c:Expr}{ta tb tc:TE}{pos:Pos}
def kI(ha:PE X a ta)(hb:PE X b tb){pins:List (ZE×Obj)}{s:ZB}{σ:St}{H:Hp}{R:V->V->Hp->Prop}(I:Inv X pins σ H s)
  (h:ta σ H λx H1=>tb σ H1 λy H2=>R x y H2){Q:ZC->ZB->Prop}{f:ZC->ZC->Sem ZC}
  (hf:∀ v u s2 x y H2,Inv X pins σ H2 s2->RelV x v->RelV y u->R x y H2->wpAny (model X.prog X.w) X.A (f v u) Q X.xe s2) :
  wpAny (model X.prog X.w) X.A (eval a X.env) (λv s₁=>wpAny (model X.prog X.w) X.A (eval b X.env) (λu s₂=>wpAny (model X.prog X.w) X.A (f v u) Q X.xe s₂) X.xe s₁) X.xe s:=by
 refine thn (ha pins s σ H _ I h) λv s1 Zz=>?_;obtain⟨x,H1,I1,r1,q1⟩:=Zz
 refine thn (hb pins s1 σ H1 _ I1 q1) λu s2 Zz=>?_;obtain⟨y,H2,I2,r2,q2⟩:=Zz
 exact hf v u s2 x y H2 I2 r1 r2 q2
def DQ{op:Operator}{r:R2}(ho:OpR X (binaryOp op) r)(ha:PE X a ta)(hb:PE X b tb):PE X (.BinOp a op b pos) (mh r ta tb):=by
 intro pins s σ H Q I h;exact wpAny_BinOp (kI ha hb I h λv u s2 x y H2 I2 rx ry q=>ho pins s2 σ H2 x y v u Q I2 rx ry q)
def DR{op:UnaryOp}{r:V->Hp->VK->Prop}(ho:sN X (unaryOp op) r)(ha:PE X a ta):PE X (.UnaryOp op a pos) (DP r ta):=by
 intro pins s σ H Q I h;exact UnaryOp_ (thn (ha pins s σ H _ I h) λv s1 ⟨x,H1,I1,r1,q1⟩=>ho pins s1 σ H1 x v Q I1 r1 q1)
def pR{f:ZC->ZC->Sem ZC}{C:Int->Int->Prop}{g:Int->Int->Int}
  (rule:∀ (i j:Int) (t u:Tok) (s:ZB) (Q:ZC->ZB->Prop) (E:ZC->ZB->Prop),C i j->Q (.int (g i j) s.toks) { s with toks:=s.toks+1 }->wpAny (model X.prog X.w) X.A (f (.int i t) (.int j u)) Q E s) :
  OpR X f (rI C λi j=>.int (g i j)):=by
 intro pins s σ H x y v u Q I rx ry h;obtain⟨i,j,rfl,rfl,hc,q⟩:=h;obtain⟨t,rfl⟩:=rx;obtain⟨t',rfl⟩:=ry;exact rule i j t t' s _ _ hc ⟨.int (g i j),H,I.tok _,⟨_,rfl⟩,q⟩
def nH{f:ZC->ZC->Sem ZC}{g:Int->Int->Int}
  (rule:∀ (i j:Int) (t u:Tok) (s:ZB) (Q:ZC->ZB->Prop) (E:ZC->ZB->Prop),Q (.int (g i j) s.toks) { s with toks:=s.toks+1 }->wpAny (model X.prog X.w) X.A (f (.int i t) (.int j u)) Q E s) :
  OpR X f (jU λi j=>.int (g i j)):=by
 intro pins s σ H x y v u Q I rx ry h;obtain⟨i,j,rfl,rfl,q⟩:=h;obtain⟨t,rfl⟩:=rx;obtain⟨t',rfl⟩:=ry;exact rule i j t t' s _ _ ⟨.int (g i j),H,I.tok _,⟨_,rfl⟩,q⟩
def ja{f:ZC->ZC->Sem ZC}{g:Int->Int->Bool}
  (rule:∀ (i j:Int) (t u:Tok) (s:ZB) (Q:ZC->ZB->Prop) (E:ZC->ZB->Prop),Q (.bool (g i j)) s->wpAny (model X.prog X.w) X.A (f (.int i t) (.int j u)) Q E s) :
  OpR X f (jU λi j=>.bl (g i j)):=by
 intro pins s σ H x y v u Q I rx ry h;obtain⟨i,j,rfl,rfl,q⟩:=h;obtain⟨t,rfl⟩:=rx;obtain⟨t',rfl⟩:=ry;exact rule i j t t' s _ _ ⟨.bl (g i j),H,I,rfl,q⟩
def sP(i j:Int):Prop:=0<=j/\j<=1000000/\i.natAbs<2 ^ 64
def CMul(i j:Int):Prop:=(-(2 ^ 64)<i/\i<2 ^ 64)\/(-(2 ^ 64)<j/\j<2 ^ 64)
def CMul.ok{i j:Int}(h:CMul i j):IntMulOk i j:=by
 rcases h with⟨h1,h2⟩|⟨h1,h2⟩
 ·exact .of_left (intBits_le_64 h1 h2)
 ·exact .of_right (intBits_le_64 h1 h2)
def op_add:OpR X (binaryOp .Add) (jU λi j=>.int (i+j)):=(nH λ_ _ _ _ _ _ _ q=>add_int q)
def DS:OpR X (binaryOp .Sub) (jU λi j=>.int (i-j)):=(nH λ_ _ _ _ _ _ _ q=>sub_int q)
def DT:OpR X (binaryOp .Mod) (rI (λ_ j=>0<j) λi j=>.int (i % j)):=(pR λi j _ _ _ _ _ hc q=>by
 have h1:(0:Int)<j:=hc;exact mod_int' ⋯ (by rw[Int.fmod_eq_emod_of_nonneg i ⋯];exact q))
def DV:OpR X (binaryOp .Pow) (rI sP λi j=>.int (i ^ j.toNat)):=(pR λ_ _ _ _ _ _ _ hc q=>pow_int_small hc.1 hc.2.1 hc.2.2 q)
def DW{f:ZC->Sem ZC}{g:Int->Int}
  (rule:∀ (i:Int) (t:Tok) (s:ZB) (Q:ZC->ZB->Prop) (E:ZC->ZB->Prop),Q (.int (g i) s.toks) { s with toks:=s.toks+1 }->wpAny (model X.prog X.w) X.A (f (.int i t)) Q E s) :
  sN X f (rU λi=>.int (g i)):=by
 intro pins s σ H x v Q I rx h;obtain⟨i,rfl,q⟩:=h;obtain⟨t,rfl⟩:=rx;exact rule i t s _ _ ⟨.int (g i),H,I.tok _,⟨_,rfl⟩,q⟩
def DX:sN X (unaryOp .USub) (rU λi=>.int (-i)):=(DW λ_ _ _ _ _ q=>neg_int q)
end
def kJ:V->V->Bool
 |.non,.non=>true|.non,.int _=>true|.int _,.non=>true|.non,.bl _=>true|.bl _,.non=>true|.non,.str _=>true|.str _,.non=>true
 |.int _,.int _=>true|.bl _,.bl _=>true|.str _,.str _=>true|.byt _,.byt _=>true
 |.int _,.str _=>true|.str _,.int _=>true|.bl _,.str _=>true|.str _,.bl _=>true
 |_,_=>false
def DY:R2:=λx y H Q=>kJ x y=true/\Q (.bl (decide (x=y))) H
def DZ:R2:=λx y H Q=>kJ x y=true/\Q (.bl (!decide (x=y))) H
def xl{i j:Int}:decide (V.int i=V.int j)=(i == j):=by
 rw[OE];simp
def xm{i j:Bool}:decide (V.bl i=V.bl j)=(i == j):=by
 rw[OE];simp
def xn{i j:Str}:decide (V.str i=V.str j)=(i == j):=by
 rw[OE];simp
def xp{i j:Array UInt8}:decide (V.byt i=V.byt j)=(i.toList == j.toList):=by
 rw[OE]
 cases i
 cases j
 simp
section
variable{X:Cx}{a b c:Expr}{ta tb tc:TE}{pos:Pos}
def bV{pins:List (ZE×Obj)}{σ:St}{H:Hp}{s:ZB}{Q:VK}{k k':Bool}(I:Inv X pins σ H s)(q:Q (.bl k) H)(e:k=k'):EP X pins σ Q (.bool k') s:=by
 subst e;exact⟨.bl k,H,I,rfl,q⟩
def op_eq:OpR X (compareOp .Eq) DY:=by
 intro pins s σ H x y v u Q I rx ry h;obtain⟨hs,q⟩:=h
 cases x with
 |non =>
  cases rx
  cases y with
  |non=>cases ry;exact PySem.EqNone.eq_none_none (bV I q 's')
  |bl j=>cases ry;exact PySem.EqNone.eq_none_bool (bV I q 's')
  |int j=>obtain⟨t',rfl⟩:=ry;exact PySem.EqNone.eq_none_int (bV I q 's')
  |str j=>obtain⟨t',rfl⟩:=ry;exact PySem.EqNone.eq_none_str (bV I q 's')
  |_=>exact absurd (show false=true from hs) NM
 |bl i =>
  cases rx
  cases y with
  |non=>cases ry;exact PySem.EqNone.eq_bool_none (bV I q 's')
  |bl j=>cases ry;exact eq_bool (bV I q xm)
  |str j=>obtain⟨t',rfl⟩:=ry;exact PySem.EqMixed.eq_bool_str (bV I q 's')
  |_=>exact absurd (show false=true from hs) NM
 |int i =>
  obtain⟨t,rfl⟩:=rx
  cases y with
  |non=>cases ry;exact PySem.EqNone.eq_int_none (bV I q 's')
  |int j=>obtain⟨t',rfl⟩:=ry;exact eq_int (bV I q xl)
  |str j=>obtain⟨t',rfl⟩:=ry;exact PySem.EqMixed.eq_int_str (bV I q 's')
  |_=>exact absurd (show false=true from hs) NM
 |str i =>
  obtain⟨t,rfl⟩:=rx
  cases y with
  |non=>cases ry;exact PySem.EqNone.eq_str_none (bV I q 's')
  |bl j=>cases ry;exact PySem.EqMixed.eq_str_bool (bV I q 's')
  |int j=>obtain⟨t',rfl⟩:=ry;exact PySem.EqMixed.eq_str_int (bV I q 's')
  |str j=>obtain⟨t',rfl⟩:=ry;exact eq_str (bV I q xn)
  |_=>exact absurd (show false=true from hs) NM
 |byt i =>
  obtain⟨t,rfl⟩:=rx
  cases y with
  |byt j=>obtain⟨t',rfl⟩:=ry;exact PySem.W.eq_bytes (bV I q xp)
  |_=>exact absurd (show false=true from hs) NM
 |_=>cases y<;>exact absurd (show false=true from hs) NM
def op_ne:OpR X (compareOp .NotEq) DZ:=by
 intro pins s σ H x y v u Q I rx ry h;obtain⟨hs,q⟩:=h
 cases x with
 |non =>
  cases rx
  cases y with
  |non=>cases ry;exact PySem.EqNone.ne_none_none (bV I q 's')
  |bl j=>cases ry;exact PySem.EqNone.ne_none_bool (bV I q 's')
  |int j=>obtain⟨t',rfl⟩:=ry;exact PySem.EqNone.ne_none_int (bV I q 's')
  |str j=>obtain⟨t',rfl⟩:=ry;exact PySem.EqNone.ne_none_str (bV I q 's')
  |_=>exact absurd (show false=true from hs) NM
 |bl i =>
  cases rx
  cases y with
  |non=>cases ry;exact PySem.EqNone.ne_bool_none (bV I q 's')
  |bl j=>cases ry;exact ne_bool (bV I q (congrArg not xm))
  |str j=>obtain⟨t',rfl⟩:=ry;exact PySem.EqMixed.ne_bool_str (bV I q 's')
  |_=>exact absurd (show false=true from hs) NM
 |int i =>
  obtain⟨t,rfl⟩:=rx
  cases y with
  |non=>cases ry;exact PySem.EqNone.ne_int_none (bV I q 's')
  |int j=>obtain⟨t',rfl⟩:=ry;exact ne_int (bV I q (congrArg not xl))
  |str j=>obtain⟨t',rfl⟩:=ry;exact PySem.EqMixed.ne_int_str (bV I q 's')
  |_=>exact absurd (show false=true from hs) NM
 |str i =>
  obtain⟨t,rfl⟩:=rx
  cases y with
  |non=>cases ry;exact PySem.EqNone.ne_str_none (bV I q 's')
  |bl j=>cases ry;exact PySem.EqMixed.ne_str_bool (bV I q 's')
  |int j=>obtain⟨t',rfl⟩:=ry;exact PySem.EqMixed.ne_str_int (bV I q 's')
  |str j=>obtain⟨t',rfl⟩:=ry;exact ne_str (bV I q (congrArg not xn))
  |_=>exact absurd (show false=true from hs) NM
 |byt i =>
  obtain⟨t,rfl⟩:=rx
  cases y with
  |byt j=>obtain⟨t',rfl⟩:=ry;exact PySem.W.ne_bytes (bV I q (congrArg not xp))
  |_=>exact absurd (show false=true from hs) NM
 |_=>cases y<;>exact absurd (show false=true from hs) NM
def op_lt:OpR X (compareOp .Lt) (jU λi j=>.bl (decide (i<j))):=(ja λ_ _ _ _ _ _ _ q=>lt_int q)
def op_le:OpR X (compareOp .LtE) (jU λi j=>.bl (decide (i<=j))):=(ja λ_ _ _ _ _ _ _ q=>le_int q)
def D5:OpR X (compareOp .Gt) (jU λi j=>.bl (decide (j<i))):=(ja λ_ _ _ _ _ _ _ q=>gt_int q)
def D6:OpR X (compareOp .GtE) (jU λi j=>.bl (decide (j<=i))):=(ja λ_ _ _ _ _ _ _ q=>ge_int q)
def D8:OpR X (compareOp .Lt) (λx y H Q=>∃ i j,x=.str i/\y=.str j/\Q (.bl (decide (i.cps.toList<j.cps.toList))) H):=by
 intro pins s σ H x y v u Q I rx ry h;obtain⟨i,j,rfl,rfl,q⟩:=h;obtain⟨t,rfl⟩:=rx;obtain⟨t',rfl⟩:=ry;exact lt_str (bV I q rfl)
def zg0:OpR X (compareOp .In) (λx y H Q=>∃ i j,x=.str i/\y=.str j/\Q (.bl (!(Builtin.Str.occurrences j i 0 j.length 1).isEmpty)) H):=by
 intro pins s σ H x y v u Q I rx ry h;obtain⟨i,j,rfl,rfl,q⟩:=h;obtain⟨t,rfl⟩:=rx;obtain⟨t',rfl⟩:=ry;exact in_str (bV I q rfl)
def D9:OpR X (compareOp .Is) (λx y H Q=>y=.non/\Q (.bl (decide (x=.non))) H):=by
 intro pins s σ H x y v u Q I rx ry h;obtain⟨rfl,q⟩:=h
 cases ry
 refine is_none_gen (bV I q ?_)
 cases x<;>first
  |(cases rx;rfl)
  |(obtain⟨t,rfl⟩:=rx;rfl)
def OpR.or{f:ZC->ZC->Sem ZC}{r r':R2}(h:OpR X f r)(h':OpR X f r'):OpR X f (λx y H Q=>r x y H Q\/r' x y H Q):=by
 intro pins s σ H x y v u Q I rx ry q;rcases q with q|q
 ·exact h pins s σ H x y v u Q I rx ry q
 ·exact h' pins s σ H x y v u Q I rx ry q
def cD(b:Expr){op:CmpOp}(h:op ≠ .In:=by decide)(h2:op ≠ .NotIn:=by decide):behindInMarks op b=false:=by
 have e1:(op == CmpOp.In)=false:=by cases op<;>first|rfl|exact absurd rfl h
 have e2:(op == CmpOp.NotIn)=false:=by cases op<;>first|rfl|exact absurd rfl h2
 cases b<;>simp[behindInMarks,e1,e2]
def Ea{op:CmpOp}{r:R2}(ho:OpR X (compareOp op) r)(ha:PE X a ta)(hb:PE X b tb)(hm:behindInMarks op b=false):PE X (.Compare a [op] [b] pos) (mh r ta tb):=by
 intro pins s σ H Q I h;exact wpAny_Compare1 (kI ha hb I h λv u s2 x y H2 I2 rx ry q=>ho pins s2 σ H2 x y v u Q I2 rx ry q) hm
def sQ(t:TE):TT:=λσ H Q=>t σ H λx H'=>∃ k,x=.bl k/\Q k H'
def Eb{op:CmpOp}{r:R2}(ho:OpR X (compareOp op) r)(ha:PE X a ta)(hb:PE X b tb)(hm:behindInMarks op b=false):PT X (.Compare a [op] [b] pos) (sQ (mh r ta tb)):=by
 intro pins s σ H Q I h;refine wpAny_isTrue_Compare1 (thn (ha pins s σ H _ I h) λv s1 ⟨x,H1,I1,r1,q1⟩=>thn (hb pins s1 σ H1 _ I1 q1) λu s2 ⟨y,H2,I2,r2,q2⟩ =>
  thn (ho pins s2 σ H2 x y v u _ I2 r1 r2 q2) λc s3 ⟨z,H3,I3,r3,k,e,q3⟩=>?_) hm
 subst e
 cases r3
 exact NI ⟨H3,I3,q3⟩
def sR(r r':R2)(ta tb tc:TE):TE:=λσ H Q=>ta σ H λx H1=>tb σ H1 λy H2=>r x y H2 λz H3=>∃ k,z=.bl k /\
 (if k=true then tc σ H3 λw' H4=>r' y w' H4 Q else Q (.bl false) H3)
def Ec{op op':CmpOp}{r r':R2}(ho:OpR X (compareOp op) r)(ho':OpR X (compareOp op') r')(ha:PE X a ta)(hb:PE X b tb)(hc:PE X c tc)
  (hm:lastMarks [op,op'] [b,c]=false:=by with_unfolding_all rfl):PE X (.Compare a [op,op'] [b,c] pos) (sR r r' ta tb tc):=by
 intro pins s σ H Q I h;refine Compare_chain (thn (ha pins s σ H _ I h) λv s1 ⟨x,H1,I1,r1,q1⟩=>Sn (thn (hb pins s1 σ H1 _ I1 q1) λu s2 ⟨y,H2,I2,r2,q2⟩ =>
  thn (ho pins s2 σ H2 x y v u _ I2 r1 r2 q2) λd s3 ⟨z,H3,I3,r3,k,e,q3⟩=>?_)) hm
 subst e
 cases r3
 refine NI ?_
 cases k with
 |false=>exact ite_ff ⟨.bl false,H3,I3,rfl,q3⟩
 |true=>exact ite_tt (chain_last (thn (hc pins s3 σ H3 _ I3 q3) λw' s4 ⟨z',H4,I4,r4,q4⟩=>ho' pins s4 σ H4 y z' u w' Q I4 r2 r4 q4))
def Ed{op op':CmpOp}{r r':R2}(ho:OpR X (compareOp op) r)(ho':OpR X (compareOp op') r')(ha:PE X a ta)(hb:PE X b tb)(hc:PE X c tc)
  (hm:lastMarks [op,op'] [b,c]=false:=by with_unfolding_all rfl):PT X (.Compare a [op,op'] [b,c] pos) (sQ (sR r r' ta tb tc)):=by
 intro pins s σ H Q I h;refine isTrue_chain (thn (ha pins s σ H _ I h) λv s1 ⟨x,H1,I1,r1,q1⟩=>test_link (thn (hb pins s1 σ H1 _ I1 q1) λu s2 ⟨y,H2,I2,r2,q2⟩ =>
  thn (ho pins s2 σ H2 x y v u _ I2 r1 r2 q2) λd s3 ⟨z,H3,I3,r3,k,e,q3⟩=>?_)) hm
 subst e
 cases r3
 refine NI ?_
 cases k with
 |false =>
  obtain⟨k',e',q'⟩:=q3
  cases e'
  exact ite_ff ⟨H3,I3,q'⟩
 |true =>
  refine ite_tt (test_last (thn (hc pins s3 σ H3 _ I3 q3) λw' s4 ⟨z',H4,I4,r4,q4⟩=>thn (ho' pins s4 σ H4 y z' u w' _ I4 r2 r4 q4) λd' s5 Zz=>?_));obtain⟨z2,H5,I5,r5,k2,e2,q5⟩:=Zz
  subst e2
  cases r5
  exact NI ⟨H5,I5,q5⟩
def jc(K:ZA)(x:V)(H:Hp)(k:Bool):Prop :=
 match x with
 |.non=>k=false
 |.bl b=>k=b
 |.int i=>k=(i != 0)
 |.str y=>y.length<=sizeLine/\k=((y.length:Int) != 0)
 |.byt y=>y.size<=sizeLine/\k=((y.size:Int) != 0)
 |.ref p=>(∃ xs,SqL K H p xs/\k=!xs.isEmpty)\/(∃ xs,SqT K H p xs/\k=!xs.isEmpty)\/∃ kvs,H p=some (.dK kvs)/\k=!kvs.isEmpty
 |_=>False
def Ee{κ:Type}{kvs:List (κ×V)}{vs:List (κ×ZC)}(r:KV kvs vs):(!vs.isEmpty)=!kvs.isEmpty:=by
 cases r<;>rfl
def xq{xs:List V}{its:List ZC}(r:Vals xs its):(!its.toArray.isEmpty)=!xs.isEmpty:=by
 cases r<;>simp
def kK:(sizeLine:Nat)<2 ^ 63:=by rw[sizeLine_eq];decide
def xr:sO X (λx H Q=>∃ k,jc X.K x H k/\Q k H):=by
 intro pins s σ H x v Q I rx h;obtain⟨k,e,q⟩:=h;have hl:=kK;have hs:sizeLine=16777216:=sizeLine_eq
 cases x with
 |non =>
  cases rx
  have e':k=false:=e;subst e'
  exact truthy_none ⟨H,I,q⟩
 |bl b =>
  cases rx
  have e':k=b:=e;subst e'
  exact NI ⟨H,I,q⟩
 |int i =>
  obtain⟨t,rfl⟩:=rx;have e':k=(i != 0):=e;subst e'
  exact PySem.P.truthy_int ⟨H,I,q⟩
 |str y =>
  obtain⟨t,rfl⟩:=rx;obtain⟨hy,e'⟩:y.length<=sizeLine/\k=((y.length:Int) != 0):=e;subst e'
  exact PySem.P.truthy_str ⋯ ⟨H,I.tok _,q⟩
 |byt y =>
  obtain⟨t,rfl⟩:=rx;obtain⟨hy,e'⟩:y.size<=sizeLine/\k=((y.size:Int) != 0):=e;subst e'
  exact PySem.W.truthy_bytes ⋯ ⟨H,I.tok _,q⟩
 |ref p =>
  cases rx
  have e':(∃ xs,SqL X.K H p xs/\k=!xs.isEmpty)\/(∃ xs,SqT X.K H p xs/\k=!xs.isEmpty)\/∃ kvs,H p=some (.dK kvs)/\k=!kvs.isEmpty:=e;rcases e' with⟨xs,hx,e'⟩|⟨xs,hx,e'⟩|⟨kvs,hx,e'⟩
  ·subst e'
   obtain⟨its,r,pl,hz⟩:=I.list hx;have hlen:=r.length;exact wpAny_truthy_list pl.isList (by simp only[NB];lia) ⟨H,I.tok _,by rw[xq r];exact q⟩
  ·subst e'
   obtain⟨its,r,pl,hz⟩:=I.tuple hx;have hlen:=r.length;exact truthy_tuple pl (by simp only[NB];lia) ⟨H,I.tok _,by rw[xq r];exact q⟩
  ·subst e'
   obtain⟨hz,hS,vs,r,m⟩:kvs.length<=sizeLine/\(p == sysModules)=false/\∃ vs,KV kvs vs/\s.heap.DictOf (fz X.prog X.w) p vs:=I.hok p _ hx;have hlen:kvs.length=vs.length:=Paired.length r;exact wpAny_truthy_dict hS m ⋯ ⟨H,I.tok _,by rw[Ee r];exact q⟩
 |_=>exact(show False from e).elim
def Ef(ha:PE X a ta)(he:∀ whole,isTrue a X.env whole=(do let v <- whole;standAt a.pos;holding [v] (truthy v))) :
  PT X a (λσ H Q=>ta σ H λx H'=>∃ k,jc X.K x H' k/\Q k H'):=by
 intro pins s σ H Q I h;exact isTrue_plain (thn (ha pins s σ H _ I h) λv s1 ⟨x,H1,I1,r1,q1⟩=>xr pins s1 σ H1 x v Q I1 r1 q1) (he _)
def zgp:OpR X (binaryOp .Add) (λx y H Q=>∃ i j,x=.str i/\y=.str j/\i.length+j.length<=sizeLine/\Q (.str (i++j)) H):=by
 intro pins s σ H x y v u Q I rx ry h;obtain⟨i,j,rfl,rfl,hz,q⟩:=h;obtain⟨t,rfl⟩:=rx;obtain⟨t',rfl⟩:=ry;exact add_str (λt' tk=>⟨.str (i++j),H,I.tok _,⟨_,rfl⟩,q⟩) hz
def jd{x:V}{us:List ZC}(r:Vals [x] us):∃ u,us=[u]/\RelV x u:=by
 cases r with
 |cons r1 r2=>cases r2;exact⟨_,rfl,r1⟩
def nI{x y:V}{us:List ZC}(r:Vals [x,y] us):∃ u w',us=[u,w']/\RelV x u/\RelV y w':=by
 cases r with
 |cons r1 r2 =>
  cases r2 with
  |cons r3 r4=>cases r4;exact⟨_,_,rfl,r1,r3⟩
def Eg:CallR X (.builtin "abs") (λxs H Q=>∃ i,xs=[.int i]/\Q (.int (if i<0 then -i else i)) H):=by
 intro pins s σ H xs us Q I r h;obtain⟨i,rfl,q⟩:=h;obtain⟨u,rfl,t,rfl⟩:=jd r;exact call_abs_int λu tk=>⟨.int (if i<0 then -i else i),H,I.tok _,⟨_,rfl⟩,q⟩
def Eh(hc:X.calm=true):CallR X (.builtin "max") (λxs H Q=>∃ i j,xs=[.int i,.int j]/\Q (.int (if j > i then j else i)) H):=by
 intro pins s σ H xs us Q I r h;obtain⟨i,j,rfl,q⟩:=h;obtain⟨u,w',rfl,⟨t,rfl⟩,⟨t',rfl⟩⟩:=nI r;refine max_two_ints (I.ok.hd hc) λh' tk k=>⟨_,H,I.kept k,?_,q⟩
 by_cases hj:j > i
 ·rw[Nn hj,Nn hj];exact⟨_,rfl⟩
 ·rw[Nr hj,Nr hj];exact⟨_,rfl⟩
def Ei(hc:X.calm=true):CallR X (.builtin "min") (λxs H Q=>∃ i j,xs=[.int i,.int j]/\Q (.int (if j<i then j else i)) H):=by
 intro pins s σ H xs us Q I r h;obtain⟨i,j,rfl,q⟩:=h;obtain⟨u,w',rfl,⟨t,rfl⟩,⟨t',rfl⟩⟩:=nI r;refine min_two_ints (I.ok.hd hc) λh' tk k=>⟨_,H,I.kept k,?_,q⟩
 by_cases hj:j<i
 ·rw[Nn hj,Nn hj];exact⟨_,rfl⟩
 ·rw[Nr hj,Nr hj];exact⟨_,rfl⟩
def Ej:CallR X (.type "int") (λxs H Q=>(∃ i,xs=[.int i]/\Q (.int i) H)\/∃ k,xs=[.bl k]/\Q (.int (if k then 1 else 0)) H):=by
 intro pins s σ H xs us Q I r h;rcases h with⟨i,rfl,q⟩|⟨k,rfl,q⟩
 ·obtain⟨u,rfl,t,rfl⟩:=jd r
  exact call_int_int ⟨.int i,H,I,⟨_,rfl⟩,q⟩
 ·obtain⟨u,rfl,r1⟩:=jd r
  cases r1
  exact call_int_bool ⟨.int (if k then 1 else 0),H,I.tok _,⟨_,rfl⟩,q⟩
end
structure ObjM(h:Heap)(x dx C:ZE)(mA:Str->Option ZC):Prop where
 obj:h.get? x=some (PySem.W.instObj C dx)
 ns:h.Ns1 dx mA
 ne:dx≠x
def Ek{h:Heap}{dx:ZE}{mA:Str->Option ZC}(n:h.Ns1 dx mA):∃ od,h.get? dx=some od/\∀ name,PySem.W.lookIn name od=some (mA name):=by
 obtain⟨o,es,ep,ho,hd,hk,_,hm⟩:=n;refine⟨o,ho,λname=>?_⟩
 have e:=hm name;unfold nsFind findBy at e;rw[<- Array.find?_toList] at e;unfold PySem.W.lookIn
 rw[hd];dsimp only;split
 ·rename_i y q
  rw[q] at e;exact congrArg some e
 ·rename_i q
  rw[q] at e;have a:es.toList.any (·.refKey)=false:=by
   rw[List.any_eq_false];intro y hy
   obtain⟨z,t,hkey⟩:=hk y (Array.mem_toList_iff.mp hy);simp[DictEntry.refKey,hkey]
  have a':¬ es.toList.any (·.refKey)=true:=by rw[a];exact NM
  rw[Nr a'];exact congrArg some e
def ObjM.look{h:Heap}{x dx C:ZE}{mA:Str->Option ZC}(I:ObjM h x dx C mA):∃ od,PySem.W.InstAt h x (PySem.W.instObj C dx) C (some od)/\∀ name,PySem.W.lookIn name od=some (mA name) :=(
 let ⟨od,ho,hl⟩:=Ek I.ns
 ⟨od,⟨I.obj,rfl,rfl,ho⟩,hl⟩)
section
variable{prog:ZD}{w:ZF}{A:ZG}{E:ZC->ZB->Prop}{s:ZB}{K:ZA}{x dx C f:ZE}{mA:Str->Option ZC}{name:Str}{v:ZC}
def El{expr:Bool}{Q:ZC->ZB->Prop}(X:K.In s.heap)(I:ObjM s.heap x dx C mA)(hg:PySem.W.plainGet K C name=true)(hh:PySem.W.hasDictIn K C=true)
  (ha:PySem.W.findIn K (.ref C) name=some none)(hv:mA name=some v)(hv':PySem.W.handedIn v=true)(h:Q v { s with toks:=s.toks+1 }) :
  wpAny (model prog w) A (getAttr (.ref x) name expr) Q E s:=by
 obtain⟨od,J,hl⟩:=I.look;exact PySem.W.get_value X J (Qa hg).1 (PySem.W.findObj_own hh ha rfl (by rw[hl,hv])) hv' h
def Em{pl:Sem Bool}{Q:ZC×List ZC->ZB->Prop}(X:K.In s.heap)(I:ObjM s.heap x dx C mA)(hg:PySem.W.plainGet K C name=true)
  (hf:PySem.W.findIn K (.ref C) name=some (some (.ref f)))(ht:PySem.W.isFn K (.ref f)=true)(hv:mA name=none)(h:Q (.ref f,[.ref x]) s) :
  wpAny (model prog w) A (getMethod (.ref x) name pl) Q E s:=by
 obtain⟨od,J,hl⟩:=I.look;exact PySem.W.method_fn X J (Qa hg).1 (Qa hg).2 hf (beq_iff_eq.mp ht) (by show (PySem.W.lookIn name od).map (·.isSome)=some false;rw[hl,hv];rfl) h
def Eo {ns:List Str} {Q:Unit->ZB->Prop} (X:K.In s.heap) (I:ObjM s.heap x dx C mA)
  (hs:PySem.W.findIn K (.ref C) "__setattr__"=some (some (.builtin "object.__setattr__"))) (hp:PySem.W.plainOver K C=true) (ht:PySem.W.takerIn K C name=some none) (hh:PySem.W.hasDictIn K C=true)
  (hw:PySem.Within mA ns) (hsz:ns.length<=sizeLine)
  (h:∀ h',ObjM h' x dx C (λy=>if y=name then some v else mA y)->Heap.SameBut dx s.heap h'->Q () { s with heap:=h',toks:=s.toks+2 }) :
  wpAny (model prog w) A (setAttr (.ref x) name v) Q E s:=by
 obtain⟨od,J,hl⟩:=I.look;refine PySem.W.set_plain X J hs (PySem.W.osa_open (s:={ s with toks:=s.toks+1 }) (r:=none) X J hp ht λb=>?_)
 obtain⟨cd,hc,hd'⟩:=PySem.W.any_some hh;have hx:s.heap.get? x=some ⟨.ref C,some dx,.plain,#[]⟩:=I.obj;refine Nj (Nu (Nj (Nj (wpAny_loadPart hx (Nj (PySem.W.Looks.here (s:={ s with toks:=s.toks+1 }) (PySem.W.looks_clsIn X hc) ?_))))))
 rw[hd'];refine Nu (a:=some dx) (Nj (Nu (Nj ?_)))
 refine wpAny_nsSet1 (s:={ s with toks:=s.toks+1 }) I.ns λh' hn2 hs2=>?_
 obtain⟨oD,esD,epD,hoD,hdD,hcD⟩:=hn2.count (PySem.Within.cons name v hw);refine Nj (wpAny_lookBehind hoD (by rw[hdD];exact pastItsLine_dict (Np hcD (by rw[Os];lia))) ?_)
 exact Nu (h _ ⟨(hs2.2 _ (Ne.symm I.ne)).trans I.obj,hn2,I.ne⟩ hs2)
def Ep {R:Result->ZB->Prop} {vs:List ZC} {kw:List (Str×ZC)} (X:K.In s.heap) (hm:PySem.W.makesIn K C=true)
  (hi:PySem.W.findIn K (.ref C) "__init__"=some (some (.ref f))) (hf:PySem.W.typeIn K (.ref f)=some (.type "function"))
  (h:codeAny (model prog w) (A.under (.builtin "type.__call__" ⟨.ref C::vs,kw⟩)) (.call (.ref f) ⟨.ref (s.heap.objs.size+1)::vs,kw⟩) (PySem.W.InitBack (s.heap.objs.size+1) R)
   { s with heap:=(s.heap.push PySem.W.emptyDict).push (PySem.W.instObj C s.heap.objs.size) }) :
  codeAny (model prog w) A (.call (.ref C) ⟨vs,kw⟩) R s:=by
 obtain⟨hh,g,d,t,os⟩:=s;exact PySem.W.make_core (PySem.W.makes_of X hm) (PySem.W.looks_findIn X hi) (λself=>PySem.W.bind_fn X self hf) (.inl rfl) h
end
def bq(f:Str)(v:V):List (Str×V)->List (Str×V)
 |[]=>[(f,v)]
 |(g,x)::r=>if g=f then(g,v)::r else(g,x)::bq f v r
theorem pS(f g:Str)(v:V):∀ fs:List (Str×V),(bq f v fs).lookup g=if g=f then some v else fs.lookup g
 |[]=>by
  show List.lookup g [(f,v)]=_
  by_cases h:g=f
  ·have hb:(g == f)=true:=beq_iff_eq.mpr h
   simp only[List.lookup,hb,Nn h]
  ·have hb:(g == f)=false:=beq_eq_false_iff_ne.mpr h
   simp only[List.lookup,hb,Nr h]
 |(k,x)::r=>by
  have ih:=pS f g v r;rw[show bq f v ((k,x)::r)=(if k=f then(k,v)::r else(k,x)::bq f v r) from rfl];by_cases hk:k=f
  ·rw[Nn hk]
   by_cases h:g=k
   ·have hb:(g == k)=true:=beq_iff_eq.mpr h
    simp only[List.lookup,hb,Nn (h.trans hk)]
   ·have hb:(g == k)=false:=beq_eq_false_iff_ne.mpr h
    simp only[List.lookup,hb,Nr (λe:g=f=>h (e.trans hk.symm))]
  ·rw[Nr hk]
   by_cases h:g=k
   ·have hb:(g == k)=true:=beq_iff_eq.mpr h
    simp only[List.lookup,hb,Nr (λe:g=f=>hk (h.symm.trans e))]
   ·have hb:(g == k)=false:=beq_eq_false_iff_ne.mpr h
    simp only[List.lookup,hb]
    exact ih
theorem sS(f:Str)(v:V):∀ fs:List (Str×V),f∈(bq f v fs).map (·.1)/\∀ g,g∈fs.map (·.1)->g∈(bq f v fs).map (·.1)
 |[]=>⟨by simp[bq],λg h=>by simp at h⟩
 |(k,x)::r=>by
  obtain⟨i1,i2⟩:=sS f v r;rw[show bq f v ((k,x)::r)=(if k=f then(k,v)::r else(k,x)::bq f v r) from rfl];by_cases hk:k=f
  ·rw[Nn hk]
   subst hk;exact⟨by simp,λg h=>by simpa using h⟩
  ·rw[Nr hk]
   refine⟨?_,λg h=>?_⟩
   ·rw[NW]
    exact NZ _ i1
   ·rw[NW] at h ⊢
    rcases ND.mp h with e|e
    ·exact ND.mpr (.inl e)
    ·exact NZ _ (i2 g e)
theorem xt(f:Str)(v:V):∀ fs:List (Str×V),(bq f v fs).length<=fs.length+1
 |[]=>by simp[bq]
 |(k,x)::r=>by
  have ih:=xt f v r;rw[show bq f v ((k,x)::r)=(if k=f then(k,v)::r else(k,x)::bq f v r) from rfl];by_cases hk:k=f
  ·rw[Nn hk,Os,Os];lia
  ·rw[Nr hk,Os,Os];lia
def RelO.some_of{v:V}{o:Option ZC}(r:RelO (some v) o):∃ u,o=some u/\RelV v u:=by
 cases o with
 |none=>exact(show False from r).elim
 |some u=>exact⟨u,rfl,r⟩
def RelO.none_of{o:Option ZC}(r:RelO none o):o=none:=by
 cases o with
 |none=>rfl
 |some u=>exact(show False from r).elim
def Er{v:V}{u:ZC}(r:RelV v u):PySem.W.handedIn u=true:=by
 cases v with
 |non=>cases (show u=Value.none from r);rfl
 |bl b=>cases (show u=Value.bool b from r);rfl
 |int i=>obtain⟨t,e⟩:=(show ∃ t,u=Value.int i t from r);cases e;rfl
 |str x=>obtain⟨t,e⟩:=(show ∃ t,u=Value.str x t from r);cases e;rfl
 |byt b=>obtain⟨t,e⟩:=(show ∃ t,u=Value.bytes b t from r);cases e;rfl
 |flt b=>obtain⟨t,e⟩:=(show ∃ t,u=Value.float b t from r);cases e;rfl
 |ref a=>cases (show u=Value.ref a from r);rfl
 |ty n=>cases (show u=Value.type n from r);rfl
section
variable{P:ZD}{w:ZF}{H H':Hp}{h h':Heap}{a C dx:ZE}{fs fs':List (Str×V)}
def pT(hok:HOk P w H h)(e:H a=some (.ins C dx fs)):∃ mA,ObjM h a dx C mA/\(∀ f,RelO (fs.lookup f) (mA f))/\PySem.Within mA (fs.map (·.1))/\fs.length<=1000/\H dx=some (.own a):=by
 obtain⟨d,z,ne,ob,mA,n,r,q⟩:=(show ObjOk P w H h a (.ins C dx fs) from hok a _ e)
 exact⟨mA,⟨ob,n,ne⟩,r,q,z,d⟩
end
structure Cls(K:ZA)(C:ZE):Prop where
 pg:PySem.W.plainGet K C Str.empty=true
 hd:PySem.W.hasDictIn K C=true
 po:PySem.W.plainOver K C=true
 sa:PySem.W.findIn K (.ref C) "__setattr__"=some (some (.builtin "object.__setattr__"))
def Cls.get{K:ZA}{C:ZE}(c:Cls K C)(f:Str):PySem.W.plainGet K C f=true:=(c.pg)
def NoAttr(K:ZA)(C:ZE)(f:Str):Prop:=PySem.W.findIn K (.ref C) f=some none
def NoAttr.taker{K:ZA}{C:ZE}{f:Str}(n:NoAttr K C f):PySem.W.takerIn K C f=some none:=by
 unfold PySem.W.takerIn;rw[show PySem.W.findIn K (.ref C) f=some none from n];rfl
structure ij(K:ZA)(C:ZE)(m:Str)(f:ZE):Prop where
 at_:PySem.W.findIn K (.ref C) m=some (some (.ref f))
 fn:PySem.W.isFn K (.ref f)=true
 kp:PySem.W.keepIn K (.ref f)=true
section
variable{X:Cx}{pins:List (ZE×Obj)}{σ:St}{H:Hp}{s:ZB}{a C dx:ZE}{fs:List (Str×V)}{f:Str}{v:V}{A:ZG}{E:ZC->ZB->Prop}
def Es{b:Bool}{Q:ZC->ZB->Prop}(I:Inv X pins σ H s)(e:H a=some (.ins C dx fs))(c:Cls X.K C)(n:NoAttr X.K C f)(l:fs.lookup f=some v)
  (h:∀ u s',Inv X pins σ H s'->RelV v u->Q u s'):wpAny (model X.prog X.w) A (getAttr (.ref a) f b) Q E s:=by
 obtain⟨mA,O,r,_,_,_⟩:=pT I.hok e;obtain⟨u,hu,ru⟩:=RelO.some_of (v:=v) (o:=mA f) (by rw[<- l];exact r f)
 exact El I.kIn O (c.get f) c.hd n hu (Er ru) (h u _ (I.tok _) ru)
def xu{m:Str}{g:ZE}{pl:Sem Bool}{Q:ZC×List ZC->ZB->Prop}(I:Inv X pins σ H s)(e:H a=some (.ins C dx fs))(c:Cls X.K C)(k:ij X.K C m g)(l:fs.lookup m=none)
  (h:Q (.ref g,[.ref a]) s):wpAny (model X.prog X.w) A (getMethod (.ref a) m pl) Q E s:=by
 obtain⟨mA,O,r,_,_,_⟩:=pT I.hok e;have hn:mA m=none:=RelO.none_of (by rw[<- l];exact r m)
 exact Em I.kIn O (c.get m) k.at_ k.fn hn h
def Et{y:V}{u:ZC}{Q:Unit->ZB->Prop}(I:Inv X pins σ H s)(e:H a=some (.ins C dx fs))(c:Cls X.K C)(n:NoAttr X.K C f)(hl:fs.length<1000)(ry:RelV y u)
  (h:∀ s',Inv X pins σ (upd H a (.ins C dx (bq f y fs))) s'->Q () s'):wpAny (model X.prog X.w) A (setAttr (.ref a) f u) Q E s:=by
 obtain⟨mA,O,r,wi,_,ho⟩:=pT I.hok e;have hz:(fs.map (·.1)).length<=sizeLine:=by rw[Nw,sizeLine_eq];lia
 refine Eo I.kIn O c.sa c.po n.taker c.hd wi hz λh' O' sb=>h _ ?_
 have hd:∃ o,h'.get? dx=some o:=let ⟨o,_,_,e',_⟩:=O'.ns;⟨o,e'⟩
 refine I.write (x:=a) (e:=dx) (by rw[e];exact True.intro) (.inr ho) (λb q hb z=>(sb.2 b hb).trans z) hd ?_
 refine⟨by rw[aZ O.ne];exact ho,?_,O.ne,O'.obj,_,O'.ns,λg=>?_,λg hg=>?_⟩
 ·have:=xt f y fs;lia
 ·show RelO ((bq f y fs).lookup g) (if g=f then some u else mA g)
  rw[pS];by_cases q:g=f
  ·rw[Nn q,Nn q];exact ry
  ·rw[Nr q,Nr q];exact r g
 ·by_cases q:g=f
  ·rw[q];exact(sS f y fs).1
  ·refine(sS f y fs).2 g (wi g λz=>hg ?_)
   show (if g=f then some u else mA g)=none
   rw[Nr q];exact z
def Inv.made(I:Inv X pins σ H s):Inv X pins σ (upd (upd H s.heap.objs.size (.own (s.heap.objs.size+1))) (s.heap.objs.size+1) (.ins C s.heap.objs.size []))
  { s with heap:=(s.heap.push PySem.W.emptyDict).push (PySem.W.instObj C s.heap.objs.size) }:=by
 have e1:(s.heap.push PySem.W.emptyDict).get? s.heap.objs.size=some PySem.W.emptyDict:=NC s.heap rfl;have e2:((s.heap.push PySem.W.emptyDict).push (PySem.W.instObj C s.heap.objs.size)).get? (s.heap.objs.size+1)=some (PySem.W.instObj C s.heap.objs.size):=by
  have:=NC (s.heap.push PySem.W.emptyDict) (o:=PySem.W.instObj C s.heap.objs.size) rfl;rwa[Rq] at this
 have e3:(s.heap.push PySem.W.emptyDict).Ns s.heap.objs.size (λ_=>none):=⟨PySem.W.emptyDict,#[],_,e1,rfl,(λe he=>absurd he 's'),λ_=>rfl⟩
 have I1:=I.laid (a:=s.heap.objs.size) (o:=.own (s.heap.objs.size+1)) (h':=s.heap.push PySem.W.emptyDict) (t':=s.toks) (λb u q=>Nq _ q) (Nk _) ⟨_,e1⟩;refine I1.laid (a:=s.heap.objs.size+1) (o:=.ins C s.heap.objs.size []) (t':=s.toks) (λb u q=>Nq _ q) (QT (Rq _ _)) ?_
 have ne:s.heap.objs.size≠s.heap.objs.size+1:=NX (Po _);refine⟨by rw[aZ ne,dH],NU _,ne,e2,λ_=>none,(Heap.Ns1.of_empty e3).at λo q=>Nq _ q,λ_=>True.intro,λy hy=>absurd rfl hy⟩
def Eu{prog:ZD}{w:ZF}{env:Env}{e:Expr}{f:Str}{pos:Pos}{s:ZB}{Q:ZC->ZB->Prop}(hb:attributeBase e f env (eval e env)=eval e env)
  (h:wpAny (model prog w) A (eval e env) (λo s₁=>wpAny (model prog w) A (getAttr o f true) Q E s₁) E s):wpAny (model prog w) A (eval (.Attribute e f pos) env) Q E s :=(
 Attribute_any_ h (by rw[arm_eval_Attribute,hb]))
end
def sT(K:ZA)(ta:TE)(f:Str):TE:=λσ H Q=>ta σ H λx H1=>∃ a C dx fs v,x=.ref a/\H1 a=some (.ins C dx fs)/\Cls K C/\NoAttr K C f/\fs.lookup f=some v/\Q v H1
def sFld(K:ZA)(ta tv:TE)(f:Str):TS:=λD σ H=>tv σ H λy H1=>ta σ H1 λx H2=>∃ a C dx fs,x=.ref a/\H2 a=some (.ins C dx fs)/\Cls K C/\NoAttr K C f/\fs.length<1000 /\
 D.nx σ (upd H2 a (.ins C dx (bq f y fs)))
section
variable{X:Cx}{o e value:Expr}{f:Str}{pos pos' tpos:Pos}{ta tv:TE}
def Ew(he:PE X e ta)(hb:attributeBase e f X.env (eval e X.env)=eval e X.env):PE X (.Attribute e f pos) (sT X.K ta f):=by
 intro pins s σ H Q I h;refine Eu hb (thn (he pins s σ H _ I h) λu s1 Zz=>?_);obtain⟨x,H1,I1,rx,a,C,dx,fs,v,ex,ea,c,n,l,q⟩:=Zz
 subst ex;obtain rfl:u=Value.ref a:=rx
 exact Es I1 ea c n l λu' s2 I2 ru=>⟨v,H1,I2,ru,q⟩
def Ey(ha:PE X o ta)(hv:PE X value tv)(hs:swapsWith value (some (.Attribute o f pos')) pos.line X.env=pure false):PS X (.Assign [.Attribute o f pos'] value pos) (sFld X.K ta tv f):=by
 intro pins s σ H D I h;refine plainObj_wpAny_Assign_Attribute (thn (hv pins s σ H _ I h) λu s1 ⟨y,H1,I1,ry,q⟩=>thn (ha pins s1 σ H1 _ I1 q) λov s2 Zz=>?_) hs;obtain⟨x,H2,I2,rx,a,C,dx,fs,ex,ea,c,n,l,q2⟩:=Zz
 subst ex;obtain rfl:ov=Value.ref a:=rx
 exact Et I2 ea c n l ry λs3 I3=>⟨σ,_,I3,q2⟩
end
section
variable{X:Cx}{pins:List (ZE×Obj)}{σ:St}{H:Hp}{s:ZB}{A:ZG}{E:ZC->ZB->Prop}{Q:ZC->ZB->Prop}{c:ZC}{b:Bool}
inductive cE (K:ZA) (H:Hp):V->ZC->Prop where
 |non:cE K H .non (.type "NoneType")
 |bl (x:Bool):cE K H (.bl x) (.type "bool")
 |int (i:Int):cE K H (.int i) (.type "int")
 |str (x:Str):cE K H (.str x) (.type "str")
 |flt (x:UInt64):cE K H (.flt x) (.type "float")
 |lst {a:ZE} {xs:List V} (e:H a=some (.lst xs)):cE K H (.ref a) (.type "list")
 |frz {a:ZE} {o:Obj} {xs:List V} (e:H a=some (.frz o (.lst xs))):cE K H (.ref a) (.type "list")
 |tup {a:ZE} {xs:List V} (e:H a=some (.tup xs)):cE K H (.ref a) (.type "tuple")
 |dK {a:ZE} {kvs:List (aI×V)} (e:H a=some (.dK kvs)):cE K H (.ref a) (.type "dict")
 |dT {a:ZE} {xc:Option (List ZE)} {kvs:List (List aI×V)} (e:H a=some (.dT xc kvs)):cE K H (.ref a) (.type "dict")
 |ins {a C dx:ZE} {fs:List (Str×V)} (e:H a=some (.ins C dx fs)) (cl:Cls K C) (ha:PySem.W.findIn K (.ref C) "__class__"=some (some (.builtin "object.__class__")))
   (hn:PySem.W.specialIn K (.builtin "object.__class__") "__get__"=some (some (.builtin "getset_descriptor.__get__"))) (htk:PySem.W.takesIn K (.builtin "object.__class__")=some true)
   (hm:PySem.W.mroIn K C (.type "object")=some true):cE K H (.ref a) (.ref C)
def Ez{x:V}{u t:ZC}(I:Inv X pins σ H s)(rx:RelV x u)(ty:cE X.K H x t)(e:PySem.W.kitOne X.K t c=some b)(h:∀ tk,Q (.bool b) { s with toks:=tk }) :
  wpAny (model X.prog X.w) A (call (.builtin "isinstance") [u,c]) Q E s:=by
 cases ty with
 |non=>cases (show u=Value.none from rx);exact Ou PySem.W.kitx_none I.kIn True.intro e (λz=>nomatch z) h
 |bl y=>cases (show u=Value.bool y from rx);exact Ou PySem.W.kitx_bool I.kIn True.intro e (λz=>nomatch z) h
 |int i=>obtain⟨t,q⟩:=(show ∃ t,u=Value.int i t from rx);cases q;exact Ou PySem.W.kitx_int I.kIn True.intro e (λz=>nomatch z) h
 |str y=>obtain⟨t,q⟩:=(show ∃ t,u=Value.str y t from rx);cases q;exact Ou PySem.W.kitx_str I.kIn True.intro e (λz=>nomatch z) h
 |flt y=>obtain⟨t,q⟩:=(show ∃ t,u=Value.float y t from rx);cases q;exact Ou PySem.W.kitx_float I.kIn True.intro e (λz=>nomatch z) h
 |@lst a xs ea =>
  cases (show u=Value.ref a from rx)
  obtain⟨_,_,n,_,h1⟩:=(show ObjOk X.prog X.w H s.heap a (.lst xs) from I.hok a _ ea)
  exact Ou Qu I.kIn ⟨_,h1,rfl⟩ e (λz=>nomatch z) h
 |@frz a ob xs ea =>
  cases (show u=Value.ref a from rx)
  obtain⟨_,_,_,n,_,h1⟩:=(show ObjOk X.prog X.w H s.heap a (.frz ob (.lst xs)) from I.hok a _ ea)
  exact Ou Qu I.kIn ⟨_,h1,rfl⟩ e (λz=>nomatch z) h
 |@tup a xs ea =>
  cases (show u=Value.ref a from rx)
  obtain⟨_,_,_,p⟩:=(show ObjOk X.prog X.w H s.heap a (.tup xs) from I.hok a _ ea)
  obtain⟨o,h1,h2,_⟩:=p;exact Ou PySem.W.kitx_tuple I.kIn ⟨o,h1,h2⟩ e (λz=>nomatch z) h
 |@dK a kvs ea =>
  cases (show u=Value.ref a from rx)
  obtain⟨_,_,vs,_,p⟩:=(show ObjOk X.prog X.w H s.heap a (.dK kvs) from I.hok a _ ea)
  obtain⟨o,es,ep,h1,h2,_⟩:=p;exact Ou RZ I.kIn ⟨o,h1,h2.1⟩ e (λz=>nomatch z) h
 |@dT a xc kvs ea =>
  cases (show u=Value.ref a from rx)
  obtain⟨_,_,xs,_,o,es,ep,h1,h2,_⟩:=(show ObjOk X.prog X.w H s.heap a (.dT xc kvs) from I.hok a _ ea)
  exact Ou RZ I.kIn ⟨o,h1,h2.1⟩ e (λz=>nomatch z) h
 |@ins a C dx fs ea cl ha hn htk hm =>
  cases (show u=Value.ref a from rx)
  obtain⟨mA,O,_⟩:=pT I.hok ea;obtain⟨od,J,_⟩:=O.look;exact Ou (PySem.W.kitx_own (cl.get _) cl.hd ha hn htk hm) I.kIn J e (λz=>nomatch z) h
end
structure Room(k:Nat)(A:ZG):Prop where
 hd:A.handled=none
 dp:A.depth+3*k+5<recursionLimit
 un:A.units+16*k+200<cLine
def Room.mono{j k:Nat}{A:ZG}(r:Room k A)(h:j<=k):Room j A:=(⟨r.hd,by have:=r.dp;lia,by have:=r.un;lia⟩)
def Room.deeper{k:Nat}{A:ZG}(r:Room (k+1) A)(env:Env):Room k (A.deeper env) :=(
 ⟨r.hd,by have:=r.dp;show A.depth+1+3*k+5<_;lia,by have:=r.un;show A.units+3+16*k+200<_;lia⟩)
def EA{A:ZG}{C:ZE}{us:List ZC}{kw:List (Str×ZC)}:(A.under (.builtin "type.__call__" ⟨.ref C::us,kw⟩)).depth=A.depth+1:=by
 first|rfl|simp[Around.under,Code.weight,Code.isCreation,Code.isGuard,Code.isCaller,Code.frames,Code.isFrame,guardIds]
def EB{A:ZG}{C:ZE}{us:List ZC}{kw:List (Str×ZC)}:(A.under (.builtin "type.__call__" ⟨.ref C::us,kw⟩)).units=A.units+1:=by
 first|rfl|simp[Around.under,Code.cUnits,Code.frames,Code.isFrame]
def Room.make{k:Nat}{A:ZG}(r:Room (k+1) A)(C:ZE)(us:List ZC)(kw:List (Str×ZC)):Room k (A.under (.builtin "type.__call__" ⟨.ref C::us,kw⟩)) :=(
 ⟨r.hd,by have:=r.dp;rw[EA];lia,by have:=r.un;rw[EB];lia⟩)
def Room.depth{k:Nat}{A:ZG}(r:Room k A):A.depth<recursionLimit:=by have:=r.dp;lia
def sU:TA:=λ_ H Q=>Q [] H
def EC(ta:TE)(tr:TA):TA:=λσ H Q=>ta σ H λx H1=>tr σ H1 λxs H2=>Q (x::xs) H2
section
variable{X:Cx}{e:Expr}{es:List Expr}{te:TE}{t:TA}{pos:Pos}
def nJ:PA X [] sU:=(λ_ _ _ _ H Q I h=>PH ⟨[],H,I,.nil,h⟩)
def jV(ha:PE X e te)(hr:PA X es t)(hs:‹qE1 e es X.env›):PA X (e::es) (EC te t):=by
 intro pos pins s σ H Q I h;rw[hs];show wpAny _ _ (spliced ((false,eval e X.env)::backTo pos (starEach es X.env))) _ _ s
 refine Pb (thn (ha pins s σ H _ I h) λu s1 Zz=>?_);obtain⟨x,H1,I1,r1,q1⟩:=Zz
 exact thn (hr pos pins s1 σ H1 _ I1 q1) λus s2 ⟨xs,H2,I2,r2,q2⟩=>⟨x::xs,H2,I2,.cons r1 r2,q2⟩
def sV(t:TA):TE:=λσ H Q=>t σ H λxs H1=>xs.length<=sizeLine/\∀ p,H1 p=none->Q (.ref p) (upd H1 p (.tup xs))
def sW(t:TA):TE:=λσ H Q=>t σ H λxs H1=>xs.length<=sizeLine/\∀ p,H1 p=none->Q (.ref p) (upd H1 p (.lst xs))
def ED{x1}(h:PA X es t):PE X (.Tuple es x1 pos) (sV t):=by
 intro pins s σ H Q I hq;refine wpAny_Tuple_spliced (thn (h pos pins s σ H _ I hq) λus s1 ⟨xs,H1,I1,r,z,q⟩=>⟨by rw[<- r.length];exact z,?_⟩)
 have hf:H1 s1.heap.objs.size=none:=I1.hok.fresh (Nk _);refine⟨.ref s1.heap.objs.size,upd H1 s1.heap.objs.size (.tup xs),I1.laid (t':=s1.toks) (λb u e=>Nq _ e) (Nk _) ?_,rfl,q _ hf⟩
 exact⟨z,us,r,⟨_,NC _ rfl,rfl,_,rfl⟩⟩
def sX(h:PA X es t):PE X (.List es pos) (sW t):=by
 intro pins s σ H Q I hq;refine wpAny_List_spliced (thn (h pos pins s σ H _ I hq) λus s1 ⟨xs,H1,I1,r,z,q⟩=>⟨by rw[<- r.length];exact z,?_⟩)
 have hf:H1 s1.heap.objs.size=none:=I1.hok.fresh (Nk _);refine⟨.ref s1.heap.objs.size,upd H1 s1.heap.objs.size (.lst xs),I1.laid (t':=s1.toks) (λb u e=>Nq _ e) (Nk _) ?_,rfl,q _ hf⟩
 exact⟨z,us,0,r,NC _ rfl⟩
end
abbrev Sp:=List V->Hp->VK->XK->Prop
abbrev fB:=List Env->Hp->ZB->XK->ZC->ZB->Prop
structure Env0(P:ZD)(w:ZF)(K:ZA)(mg:Str->Option ZC)(base:Heap)(A:ZG)(outer:List Env)(s:ZB)(H:Hp):Prop where
 frames:A.frames=some outer
 mod:Mod K mg base
 bs:∀ b o,base.get? b=some o->s.heap.get? b=some o/\H b=none
 bsz:base.objs.size<=s.heap.objs.size
 funs:s.heap.FunFrames base outer
 frf:∀ b∈dJ outer,H b=none
 hok:HOk P w H s.heap
 bare:AllBare s.gens
def CE(outer:List Env)(P:ZD)(w:ZF)(H:Hp)(s:ZB)(Q:VK)(u:ZC)(s':ZB):Prop :=
 ∃ v H',s'.os=s.os/\AllBare s'.gens/\Un (dJ outer) [] H H' s.heap s'.heap/\HOk P w H' s'.heap/\RelV v u/\Q v H'
def CR(CX:fB)(outer:List Env)(P:ZD)(w:ZF)(H:Hp)(s:ZB)(Q:VK)(E:XK)(r:Result)(s':ZB):Prop :=
 match r with
 |.ok (.ret u)=>CE outer P w H s Q u s'
 |.ok _=>False
 |.error e=>CX outer H s E e s'
structure FnOk(P:ZD)(w:ZF)(K:ZA)(mg:Str->Option ZC)(base:Heap)(CX:fB)(k:Nat)(f:ZE)(fd:FuncData)(ps:List Str)(sp:Sp):Prop where
 len:∀ vs H Q E,sp vs H Q E->vs.length=ps.length
 run:∀ (A:ZG) (outer:List Env) (s:ZB) (H:Hp) (args:Args) (us:List ZC) (vs:List V) (Q:VK) (E:XK),Room k A->Env0 P w K mg base A outer s H->BindsTo s fd args (ps.zip us)->Vals vs us->sp vs H Q E ->
  codeAny (model P w) A (.call (.ref f) args) (CR CX outer P w H s Q E) s
def FnOk.imp{P:ZD}{w:ZF}{K:ZA}{mg:Str->Option ZC}{base:Heap}{CX:fB}{k:Nat}{f:ZE}{fd:FuncData}{ps:List Str}{sp sp':Sp}(F:FnOk P w K mg base CX k f fd ps sp)
  (h:∀ vs H Q E,sp' vs H Q E->sp vs H Q E):FnOk P w K mg base CX k f fd ps sp' :=(
 ⟨λvs H Q E q=>F.len vs H Q E (h _ _ _ _ q),λA outer s H args us vs Q E hr he hb hv hs=>F.run A outer s H args us vs Q E hr he hb hv (h _ _ _ _ hs)⟩)
def Env0.make{P:ZD}{w:ZF}{K:ZA}{mg:Str->Option ZC}{base:Heap}{A:ZG}{outer:List Env}{s:ZB}{H:Hp}(e:Env0 P w K mg base A outer s H)(C:ZE)(us:List ZC)(kw:List (Str×ZC)) :
  Env0 P w K mg base (A.under (.builtin "type.__call__" ⟨.ref C::us,kw⟩)) outer s H:=(⟨by first|exact e.frames|(simpa[Around.under,Code.envs,Code.isFrame,pushEnvs] using e.frames),e.mod,e.bs,e.bsz,e.funs,e.frf,e.hok,e.bare⟩)
section
variable{X:Cx}{pins:List (ZE×Obj)}{σ:St}{H:Hp}{s s':ZB}
def Inv.env0(I:Inv X pins σ H s):Env0 X.prog X.w X.K X.mg X.base X.A X.stack s H :=(
 ⟨I.ok.frames,I.ok.mod,I.bs,Np I.ok.bsz I.sz,I.stack,I.stkFree,I.hok,I.bare⟩)
def Inv.after{Q:VK}{u:ZC}(I:Inv X pins σ H s)(h:CE X.stack X.prog X.w H s Q u s'):EP X pins σ Q u s':=by
 obtain⟨v,H',os,bare,un,hok,r,q⟩:=h;obtain⟨hh,g,d,t,os'⟩:=s';obtain rfl:os'=s.os:=os;exact⟨v,H',I.call (h':=hh) (g':=g) (d':=d) (t':=t) (ch:=[]) un hok bare (λb z=>absurd z 's'),r,q⟩
end
def Binds(K:ZA)(fd:FuncData)(ps:List Str)(ds:List ZC):Prop :=
 ∀ (s:ZB) (us:List ZC),K.In s.heap->(us++ds).length=ps.length->BindsTo s fd ⟨us,[]⟩ (ps.zip (us++ds))
def Binds.all{K:ZA}{fd:FuncData}{ps:List Str}(h:∀ us:List ZC,us.length=ps.length->bindArgs fd ⟨us,[]⟩=pure (ps.zip us)):Binds K fd ps []:=(λs us _ hl=>by
 rw[Pv] at hl ⊢;exact .of_eq (h us hl))
def EE(CX:fB)(X:Cx)(E:XK):Prop:=∀ (pins:List (ZE×Obj)) (σ:St) (H:Hp) (s:ZB) (e:ZC) (s':ZB),Inv X pins σ H s->CX X.stack H s E e s'->X.xe e s'
section
variable{X:Cx}{CX:fB}{k:Nat}{f C:ZE}{fd:FuncData}{ps:List Str}{sp:Sp}{dvs:List V}{ds:List ZC}{E:XK}{x m:Str}{p pos apos:Pos}{e o:Expr}{es:List Expr}{ta:TE}{t:TA}
structure Mk(K:ZA)(C f:ZE):Prop where
 makes:PySem.W.makesIn K C=true
 init:PySem.W.findIn K (.ref C) "__init__"=some (some (.ref f))
 fn:PySem.W.isFn K (.ref f)=true
 kp:PySem.W.keepIn K (.ref C)=true
end
section
variable{X:Cx}{CX:fB}{k:Nat}{f C:ZE}{fd:FuncData}{ps ks:List Str}{sp:Sp}{E:XK}{x m:Str}{p pos apos kpos:Pos}{e o:Expr}{es:List Expr}{kws:List Keyword}{te ta:TE}{t tk:TA}{nm:Option Str}
variable{g:List ZC->List ZC->List ZC}{gV:List V->List V->List V}
end
structure aE(N P:List Str)(sc:Scope):Prop where
 kind:sc.kind=.function
 co:sc.isCoroutine=false
 gen:sc.isGenerator=false
 nd:N.Nodup
 pre:N.take P.length=P
 par:∀ x∈P,sc.names.lookup x=some .local\/sc.names.lookup x=some .cell
 nofree:∀ y∈sc.names,y.2 ≠ .free
theorem xw{kindOf:Str->Option NameKind}{x:Str}:∀ {binds:List (Str×ZC)} {m:Str->Option ZC},(∀ v,(x,v)∉binds)->bindL kindOf binds m x=m x
 |[],_,_=>rfl
 |(n,v)::r,m,h=>by
  unfold bindL;rw[xw λw hw=>h w (NZ _ hw)];split
  ·have:x≠n:=by rintro rfl;exact h v Ol
   simp[this]
  ·rfl
theorem xx{kindOf:Str->Option NameKind}{x:Str}:∀ {binds:List (Str×ZC)} {m:Str->Option ZC},(∀ v,(x,v)∉binds)->bindC kindOf binds m x=m x
 |[],_,_=>rfl
 |(n,v)::r,m,h=>by
  unfold bindC;rw[xx λw hw=>h w (NZ _ hw)];split
  ·rfl
  ·have:x≠n:=by rintro rfl;exact h v Ol
   simp[this]
theorem xy{kindOf:Str->Option NameKind}{x:Str}{v:ZC}:∀ {P:List Str} {vs:List ZC} {i:Nat} {m:Str->Option ZC},P.Nodup->P[i]?=some x->vs[i]?=some v->kindOf x=some .local ->
  bindL kindOf (P.zip vs) m x=some v
 |[],_,_,_,_,h,_,_=>by simp at h
 |_::_,[],_,_,_,_,h,_=>by simp at h
 |p::P,w::vs,0,m,nd,h1,h2,hk=>by
  simp at h1 h2;subst h1;subst h2
  show bindL kindOf ((p,w)::P.zip vs) m p=_
  unfold bindL;rw[xw λv hv=>(On.mp nd).1 (Q9 hv).1,Nn hk];simp
 |p::P,w::vs,i+1,m,nd,h1,h2,hk=>by
  show bindL kindOf ((p,w)::P.zip vs) m x=_
  unfold bindL;exact xy (i:=i) (On.mp nd).2 (by simpa using h1) (by simpa using h2) hk
theorem xA{kindOf:Str->Option NameKind}{x:Str}{v:ZC}:∀ {P:List Str} {vs:List ZC} {i:Nat} {m:Str->Option ZC},P.Nodup->P[i]?=some x->vs[i]?=some v->kindOf x≠some .local ->
  bindC kindOf (P.zip vs) m x=some v
 |[],_,_,_,_,h,_,_=>by simp at h
 |_::_,[],_,_,_,_,h,_=>by simp at h
 |p::P,w::vs,0,m,nd,h1,h2,hk=>by
  simp at h1 h2;subst h1;subst h2
  show bindC kindOf ((p,w)::P.zip vs) m p=_
  unfold bindC;rw[xx λv hv=>(On.mp nd).1 (Q9 hv).1,Nr hk];simp
 |p::P,w::vs,i+1,m,nd,h1,h2,hk=>by
  show bindC kindOf ((p,w)::P.zip vs) m x=_
  unfold bindC;exact xA (i:=i) (On.mp nd).2 (by simpa using h1) (by simpa using h2) hk
def start(N:List Str)(vs:List V):St:=vs.map some++List.replicate (N.length-vs.length) none
def bQ(CX:fB)(P:ZD)(w:ZF)(K:ZA)(mg:Str->Option ZC)(base:Heap)(N:List Str)(qual:Str)(scope:Scope)(f:ZE)(cd:ZC)(A:ZG)(outer:List Env)(s:ZB)(H:Hp)(E:XK):Cx where
 prog:=P
 w:=w
 K:=K
 mg:=mg
 base:=base
 A:=A.deeper (envOfC qual scope s.heap.objs.size f cd)
 N:=N
 s₀:=s
 H₀:=H
 env:=envOfC qual scope s.heap.objs.size f cd
 outer:=outer
 stack:=envOfC qual scope s.heap.objs.size f cd::outer
 ex:=[]
 calm:=true
 fn:=λ_=>true
 pn:=[]
 xe:=λe s'=>wpAny (model P w) (A.deeper (envOfC qual scope s.heap.objs.size f cd)) (leaving (envOfC qual scope s.heap.objs.size f cd) e) (λ_ s''=>CX outer H s E e s'') (λe' s''=>CX outer H s E e' s'') s'
def xB{sc:Scope}{n:Nat}{x:Str}(h:sc.names.lookup x=some .cell):∃ c,(cellsFrom n sc.names []).lookup x=some c:=by
 have q:=QU sc.names n [] (.inl h);exact NP.mp q
def EF{CX:fB}{P:ZD}{w:ZF}{K:ZA}{mg:Str->Option ZC}{base:Heap}{N ps:List Str}{qual:Str}{scope:Scope}{f:ZE}{cd:ZC}{A:ZG}{outer:List Env}{s s1:ZB}{H:Hp}{E:XK}{us:List ZC}{vs:List V}
  (S:aE N ps scope)(hd:A.handled=none)(e0:Env0 P w K mg base A outer s H)(hl:vs.length=ps.length)(r:Vals vs us)
  (x:InCallC s s.heap.objs.size (bindL (envOfC qual scope s.heap.objs.size f cd).kindOf (ps.zip us) λ_=>none) (cellsFrom (s.heap.objs.size+1) scope.names []) (bindC (envOfC qual scope s.heap.objs.size f cd).kindOf (ps.zip us) λ_=>none) s1) :
  Inv (bQ CX P w K mg base N qual scope f cd A outer s H E) [] (start N vs) H s1:=by
 have hpl:ps.length<=N.length:=by have:=congrArg List.length S.pre;rw[Ot] at this;omega
 obtain⟨h1,tk,rfl,hk⟩:=x.done;have noA:∀ b:ZE,b∉(bQ CX P w K mg base N qual scope f cd A outer s H E).ex:=λb z=>absurd (show b∈([]:List ZE) from z) 's'
 refine⟨⟨e0.mod,S.kind,rfl,rfl,Nk _,λy z c h1 h2=>?_,λy hy=>?_,λy c _ h=>?_,λ_=>hd,Around.frames_deeper e0.frames,.inr ⟨rfl,rfl⟩,λb z=>absurd z (noA b),e0.bs,e0.bsz,λb _ _=>noA b,λb z=>absurd z (noA b),e0.funs,e0.frf⟩,
  rfl,e0.bare,Un.kept hk,⟨_,x.toInCall.ns,λi y v h1 h2 h3=>?_⟩,λy c h=>⟨_,x.cell y c h⟩,e0.hok.fresh (Nk _),λy c h=>?_,λp hp=>absurd (show p∈([]:List (ZE×Obj)) from hp) 's',e0.hok.kept hk,?_⟩
 ·exact name_of_addr x.apart (OD h1) (OD h2)
 ·have hy:scope.names.lookup y=some .cell\/scope.names.lookup y=some .free:=hy
  rcases hy with hy|hy
  ·exact xB hy
  ·exact absurd rfl (S.nofree _ (OD hy))
 ·exact Qc (x.above y c (OD h))
 ·have hi:i<vs.length:=by
   unfold start at h2;by_cases hi:i<vs.length
   ·exact hi
   ·rw[NF (by simpa using hi)] at h2
    rw[OP] at h2;split at h2<;>cases h2
  have ha:vs[i]?=some v:=by
   unfold start at h2;rw[Nt (by simpa using hi),NY] at h2
   cases e:vs[i]? with
   |none=>rw[e] at h2;cases h2
   |some a=>rw[e] at h2;cases h2;rfl
  obtain⟨u,hu,rv⟩:=r.get ha;have hp:ps[i]?=some y:=by
   rw[<- S.pre,List.getElem?_take_of_lt (by omega)];exact h1
  have ndP:ps.Nodup:=by rw[<- S.pre];exact S.nd.sublist (List.take_sublist _ _)
  refine⟨u,rv,?_⟩
  rcases S.par y (NL hp) with k|k
  ·exact .inl ⟨k,xy ndP hp hu k⟩
  ·obtain⟨c,e⟩:=xB (n:=s.heap.objs.size+1) k
   refine .inr ⟨.inl k,c,e,?_⟩
   have q:=x.cell y c e;rw[xA ndP hp hu (by show scope.names.lookup y≠_;rw[k];decide)] at q;exact q
 ·exact e0.hok.fresh (Qc (x.above y c (OD h)))
 ·unfold start
  show _=N.length
  rw[NV,Nw,Ow];omega
def EG{CX:fB}{P:ZD}{w:ZF}{K:ZA}{mg:Str->Option ZC}{base:Heap}{k:Nat}{f:ZE}{name qual:Str}{params:Arguments}{body:List Stmt}{scope:Scope}{dV kV doc pm cdv ct oc:ZC}{an od:Option ZE}
  {osl:Array (Option ZC)}{N ps:List Str}{sp:Sp}(lk:K.lookup f=some ⟨oc,od,.func (PySem.W.fnOf name qual params body scope dV kV doc pm an cdv ct),osl⟩)(hcd:PySem.W.codeIn K cdv qual=true)(S:aE N ps scope)
  (len:∀ vs H Q E,sp vs H Q E->vs.length=ps.length)
  (hbody:∀ (A:ZG) (outer:List Env) (s:ZB) (H:Hp) (vs:List V) (Q:VK) (E:XK),Room k (A.deeper (envOfC qual scope s.heap.objs.size f cdv))->sp vs H Q E ->
   ∃ t,PSs (bQ CX P w K mg base N qual scope f cdv A outer s H E) body t/\t { nx:=λ_ H'=>Q .non H',rt:=Q } (start N vs) H) :
  FnOk P w K mg base CX (k+1) f (PySem.W.fnOf name qual params body scope dV kV doc pm an cdv ct) ps sp:=by
 refine⟨len,λA outer s H args us vs Q E hr e0 hb r hsp=>?_⟩
 have hl:=len _ _ _ _ hsp;have KX:K.In s.heap:=e0.mod.kin.keeps λb o e=>(e0.bs b o e).1
 have lim:s.heap.NoLimit:=e0.mod.nolimit.keeps λb o e=>(e0.bs b o e).1
 have hkind:∀ y∈ps.zip us,scope.names.lookup y.1=some .local\/(scope.names.lookup y.1=some .cell/\((cellsFrom (s.heap.objs.size+1) scope.names []).lookup y.1).isSome=true):=λ⟨n,v⟩ hy=>by
  rcases S.par n (Q9 hy).1 with q|q
  ·exact .inl q
  ·exact .inr ⟨q,QU _ _ _ (.inl q)⟩
 refine codeAny_call_function hr.depth (KX _ _ lk) rfl S.co S.gen rfl (PySem.W.codeRec_of KX hcd) (hb _ _ _ _ ?_)
 refine wpAny_newFunctionEnv_cells S.kind hkind λenv he s1 x=>?_
 subst he;refine⟨lim.keeps x.toInCall.keep,codeAny_func ?_⟩
 obtain⟨t,ht,hq⟩:=hbody A outer s H vs Q E (hr.deeper _) hsp;have I:Inv (bQ CX P w K mg base N qual scope f cdv A outer s H E) [] (start N vs) H s1:=EF S hr.hd e0 hl r x;refine Oc (ht [] s1 (start N vs) H _ I hq) (λfl s' hs=>?_) λe s' hs=>hs
 have fin:∀ {σ':St} {H':Hp} {v:V} {u:ZC},Inv (bQ CX P w K mg base N qual scope f cdv A outer s H E) [] σ' H' s'->RelV v u->Q v H'->CE outer P w H s Q u s' :=
  λ{σ' H' v u} J rv q=>⟨v,H',J.os,J.bare,J.base,J.hok,rv,q⟩
 cases fl with
 |ret u =>
  obtain⟨v,σ',H',J,rv,q⟩:=hs;exact fin J rv q
 |next =>
  obtain⟨σ',H',J,q⟩:=hs;exact fin (v:=V.non) (u:=Value.none) J rfl q
 |brk =>
  obtain⟨_,_,_,q⟩:=hs;exact False.elim q
 |cont =>
  obtain⟨_,_,_,q⟩:=hs;exact False.elim q
section
variable{X:Cx}{x:Str}{p pos:Pos}{e:Expr}{es:List Expr}{t:TA}{id T:String}{r:List V->Hp->VK->Prop}
def sY(r:List V->Hp->VK->Prop)(t:TA):TE:=λσ H Q=>t σ H λvs H1=>r vs H1 Q
def pU (hc:CallR X (.builtin id) r) (hg:Gl X x) (hm:X.mg x=none) (hv:bootBuiltins x=some (.builtin id)) (ha:PA X (e::es) t) (hn:x ≠ "__name__" := by decide) (hdb:(x==("__debug__":Str))=false:=by decide)
  (he:‹qE1 e es X.env›) (hpl:‹qF1 pos es X.env›):PE X (.Call (.Name x p) (e::es) [] pos) (sY r t):=by
 intro pins s σ H Q I h;refine PC (kE I hg hm hv ?_ hn hdb)
 exact PyProof.Rows.callWith_builtin1 (thn (ha pos pins s σ H _ I h) λus s1 ⟨vs,H1,I1,r1,q1⟩=>hc pins s1 σ H1 vs us Q I1 r1 q1) he hpl
def EH (hc:CallR X (.type T) r) (hg:Gl X x) (hm:X.mg x=none) (hv:bootBuiltins x=some (.type T)) (ha:PA X (e::es) t) (hn:x ≠ "__name__" := by decide) (hdb:(x==("__debug__":Str))=false:=by decide)
  (he:‹qE1 e es X.env›) (hpl:‹qF1 pos es X.env›):PE X (.Call (.Name x p) (e::es) [] pos) (sY r t):=by
 intro pins s σ H Q I h;refine PC (kE I hg hm hv ?_ hn hdb)
 exact OC (thn (ha pos pins s σ H _ I h) λus s1 ⟨vs,H1,I1,r1,q1⟩=>hc pins s1 σ H1 vs us Q I1 r1 q1) he hpl
end
end L2
namespace HT
open PySem PyProof.Rows
section
open PySem.SeqAt
open PySem.AutoSeq1 (wpAny_loadPart')
open PySem.MeetsSeq PySem.MeetsSeq2 PySem.MeetsSeq3
end
section
variable{prog:ZD}{w:ZF}{A:ZG}{E:ZC->ZB->Prop}{s:ZB}
def cat_tup {t b:ZE} {vs ws:List ZC} {Q:ZC->ZB->Prop} (ht:IsTup s.heap t vs.toArray) (hb:IsTup s.heap b ws.toArray) (hv:vs≠[])
  (h1:ws=[]->Q (.ref t) s) (h2:ws≠[]->Q (.ref s.heap.objs.size) { s with heap:=s.heap.push { cls:=.type "tuple",data:=.seq (vs++ws).toArray } })
  (hsz:vs.length+ws.length<=sizeLine):wpAny (model prog w) A (binaryOp .Add (.ref t) (.ref b)) Q E s:=by
 obtain⟨⟨cls,dd,data,sl⟩,ho,hc,n,hd⟩:=id ht;obtain⟨⟨cls2,dd2,data2,sl2⟩,ho2,hc2,n2,hd2⟩:=id hb;simp only at hc hd hc2 hd2
 subst hc hd hc2 hd2
 have e:vs.toArray++ws.toArray=(vs++ws).toArray:=by simp
 by_cases hw:ws=[]
 ·exact Sb ⟨_,ho,rfl⟩ ⟨_,ho2,rfl⟩ noFill_tuple_add seq_tuple_add QV QE (QA _ _)
   (tuple_addW1 t b vs.toArray ws.toArray n n2 dd dd2 sl sl2 (by simpa using hv) (by simp[hw])) ⟨ho,ho2,h1 hw⟩
 ·refine Sb ⟨_,ho,rfl⟩ ⟨_,ho2,rfl⟩ noFill_tuple_add seq_tuple_add QV QE (QA _ _)
   (tuple_addW2 t b vs.toArray ws.toArray n n2 dd dd2 sl sl2 (by simpa using hv) (by simpa using hw) (by rw[NB,NB];exact hsz)) ⟨ho,ho2,?_⟩
  rw[e];exact h2 hw
def sIx(n d:Nat):Option Int->Nat
 |none=>d
 |some v=>if v<0 then(v+(n:Int)).toNat else min v.toNat n
def sIx_none(n d:Nat):sIx n d none=d:=(rfl)
def sIx_nat(n d k:Nat):sIx n d (some (k:Int))=min k n:=by
 show (if (k:Int)<0 then((k:Int)+(n:Int)).toNat else min (k:Int).toNat n)=min k n
 rw[Nr ⋯,R0]
def sIx_le(n d:Nat)(hd:d<=n)(o:Option Int):sIx n d o<=n:=by
 cases o with
 |none=>exact hd
 |some v =>
  show (if v<0 then(v+(n:Int)).toNat else min v.toNat n)<=n
  by_cases hv:v<0
  ·rw[Nn hv];lia
  ·rw[Nr hv];exact Nat.min_le_right _ _
def xC(v:Int)(n d:Nat):(if v<0 then max (v+(n:Int)) 0 else min v (n:Int))=((sIx n d (some v):Nat):Int):=by
 show (if v<0 then max (v+(n:Int)) 0 else min v (n:Int))=(((if v<0 then(v+(n:Int)).toNat else min v.toNat n):Nat):Int)
 by_cases hv:v<0
 ·simp only[Nn hv];lia
 ·simp only[Nr hv];lia
def EI(lo hi:Option Int)(n:Nat):Builtin.Slice.sliceAdjust lo hi 1 (n:Int)=(((sIx n 0 lo:Nat):Int),((sIx n n hi:Nat):Int)):=by
 have h1:¬ ((1:Int)<0):=by lia
 unfold Builtin.Slice.sliceAdjust;simp only[h1,So]
 refine Prod.ext ?_ ?_
 ·cases lo with
  |none=>rfl
  |some v=>exact xC v n 0
 ·cases hi with
  |none=>rfl
  |some v=>exact xC v n n
def EJ(i j:Nat):Builtin.Slice.slicePlaces (i:Int) (j:Int) 1=j-i:=by
 unfold Builtin.Slice.slicePlaces;have h1:(1:Int) > 0:=by lia
 simp only[h1,O5,Int.ediv_one]
 split<;>lia
def xD{v:ZC}{o:Option Int}{Q:Option Int->ZB->Prop}(p:IsPart v o)(h:Q o s):wpAny (model prog w) A (Builtin.Slice.slicePartIndex v) Q E s:=by
 cases p with
 |none=>exact slicePart_none h
 |int i t=>exact slicePart_int h
def EK{sl:ZE}{vl vu:ZC}{lo hi:Option Int}{n:Nat}{Q:Int×Int×Nat->ZB->Prop}(hs:s.heap.IsSliceOf sl vl vu .none)(pl:IsPart vl lo)(pu:IsPart vu hi)
  (h:Q (((sIx n 0 lo:Nat):Int),1,sIx n n hi-sIx n 0 lo) s):wpAny (model prog w) A (Builtin.Slice.sliceApplied (.ref sl) (pure (n:Int))) Q E s:=by
 obtain⟨os,hos,hcs,hds⟩:=id hs;unfold Builtin.Slice.sliceApplied Builtin.Slice.sliceFields;refine Nj (Nj (RC hos hds (x:=vl) rfl (Nj (RC hos hds (x:=vu) rfl (Nj (RC hos hds (x:=.none) rfl (Nu ?_)))))))
 refine Nj (slicePart_none ?_)
 show wpAny _ _ (if ((1:Int) == 0)=true then _ else _) _ _ s
 rw[Nr 'd'];refine Nj (xD pl (Nj (xD pu (Nj (Nu ?_)))))
 show wpAny _ _ (match Builtin.Slice.sliceAdjust lo hi 1 (n:Int) with|(lo,hi)=>pure (lo,(1:Int),Builtin.Slice.slicePlaces lo hi 1)) _ _ s
 rw[EI lo hi n];show wpAny _ _ (pure (((sIx n 0 lo:Nat):Int),(1:Int),Builtin.Slice.slicePlaces ((sIx n 0 lo:Nat):Int) ((sIx n n hi:Nat):Int) 1)) _ _ s
 rw[EJ];exact Nu h
def EL(xs:Array ZC)(i k:Nat):((List.range k).filterMap λ(m:Nat)=>xs[((i:Int)+(m:Int)*1).toNat]?).toArray=((xs.toList.drop i).take k).toArray:=by
 have e:(λ(m:Nat)=>xs[((i:Int)+(m:Int)*1).toNat]?)=λm=>xs[i+m]?:=by
  funext m
  have:((i:Int)+(m:Int)*1).toNat=i+m:=by lia
  rw[this]
 rw[e];have:=pick_run xs i k
 rw[Qk] at this;have e2:((λx=>xs[x]?) ∘ λx=>i+x)=λm=>xs[i+m]?:=rfl
 rw[e2] at this;rw[this]
def getItem_tuple_cut {t sl:ZE} {items:Array ZC} {vl vu:ZC} {lo hi:Option Int} {Q:ZC->ZB->Prop} (ht:IsTup s.heap t items) (hs:s.heap.IsSliceOf sl vl vu .none) (pl:IsPart vl lo) (pu:IsPart vu hi)
  (hw:¬ (sIx items.size 0 lo=0/\sIx items.size items.size hi=items.size))
  (h:Q (.ref s.heap.objs.size) { s with heap:=s.heap.push { cls:=.type "tuple",data:=.seq ((items.toList.drop (sIx items.size 0 lo)).take (sIx items.size items.size hi-sIx items.size 0 lo)).toArray } })
  (hsz:items.size<=sizeLine):wpAny (model prog w) A (getItem (.ref t) (.ref sl)) Q E s:=by
 have htake:sizeOk (.seq ((items.toList.drop (sIx items.size 0 lo)).take (sIx items.size items.size hi-sIx items.size 0 lo)).toArray):=by
  show ((items.toList.drop (sIx items.size 0 lo)).take (sIx items.size items.size hi-sIx items.size 0 lo)).toArray.size<=sizeLine
  rw[NB,Ot,OX,OV];omega
 have hj:sIx items.size items.size hi<=items.size:=sIx_le _ _ (Nk _) hi;obtain⟨os,hos,hcs,hds⟩:=id hs;have hTs:s.TypeIs (.ref sl) "slice" := ⟨os,hos,hcs⟩;unfold getItem;try with_reducible refine Oi ?_
 first|refine Nj (Nu ?_)|skip
 refine Nj (Sd ht.typeIs 'd' ?_)
 refine Nj (QQ (name:=Str.ofString "__getitem__") ht.typeIs PV
  (OJ PV ht.typeIs entry_tuple_getitem ?_ (args_tuple_getitem _ _)))
 show wpAny _ _ (Builtin.Tuple.tupleItemsOf (.ref t) >>= _) _ _ s
 refine Nj (tupleItemsOf_ ht ?_)
 refine Nj (wpAny_typeOf hTs ?_)
 rw[Nn 'd'];refine Nj (EK hs pl pu ?_)
 have hno:¬ ((((sIx items.size 0 lo:Nat):Int) == 0 && (1:Int) == 1 && (sIx items.size items.size hi-sIx items.size 0 lo) == items.size)=true):=by
  intro q;rw[N7,N7] at q;have q1:((sIx items.size 0 lo:Nat):Int)=0:=QR q.1.1
  have q2:sIx items.size items.size hi-sIx items.size 0 lo=items.size:=QR q.2;exact hw ⟨by omega,by omega⟩
 show wpAny _ _ (if (((sIx items.size 0 lo:Nat):Int) == 0 && (1:Int) == 1 && (sIx items.size items.size hi-sIx items.size 0 lo) == items.size)=true then _ else _) _ _ s
 rw[Nr hno,EL];first
  |exact Nj (m:=Builtin.Tuple.tupleExact _) (OS (Nu ⟨_,rfl,Nu h⟩) htake)
  |exact Nj (m:=Builtin.Tuple.tupleExact _) (OS (Nj (Nu (Nu ⟨_,rfl,Nu h⟩))) htake)
  |exact Nj (Nj (m:=Builtin.Tuple.tupleExact _) (OS (Nu (Nu ⟨_,rfl,Nu h⟩)) htake))
  |exact Nj (Nj (m:=Builtin.Tuple.tupleExact _) (OS (Nu ⟨_,rfl,Nu h⟩) htake))
end
end HT
namespace L2
open PySem PySem.Spec PyProof.Rows
abbrev TO:=St->Hp->(Option Int->Hp->Prop)->Prop
def PO(X:Cx)(e:Option Expr)(t:TO):Prop :=
 ∀ (pins:List (ZE×Obj)) (s:ZB) (σ:St) (H:Hp) (Q:Option Int->Hp->Prop),Inv X pins σ H s->t σ H Q ->
  wpAny (model X.prog X.w) X.A (evalPart e X.env) (λu s'=>∃ o H',Inv X pins σ H' s'/\IsPart u o/\Q o H') X.xe s
def xE:TO:=λ_ H Q=>Q none H
def xF(t:TE):TO:=λσ H Q=>t σ H λx H1=>∃ i,x=.int i/\Q (some i) H1
section
variable{X:Cx}{e:Expr}{te:TE}{lo hi:Option Expr}{tl th:TO}{pos p2:Pos}
def EM:PO X none xE:=by
 intro pins s σ H Q I h;rw[evalPart_none];exact Nu ⟨none,H,I,.none,h⟩
def EO(h:PE X e te):PO X (some e) (xF te):=by
 intro pins s σ H Q I hw;rw[evalPart_some];refine thn (h pins s σ H _ I hw) λu s1 Zz=>?_;obtain⟨x,H1,I1,r1,q1⟩:=Zz
 obtain⟨i,rfl,q⟩:=q1;obtain⟨t,rfl⟩:=r1;exact⟨some i,H1,I1,.int i t,q⟩
def SlR(X:Cx)(r:V->Option Int->Option Int->Hp->VK->Prop):Prop :=
 ∀ (pins:List (ZE×Obj)) (s:ZB) (σ:St) (H:Hp) (x:V) (v vl vu:ZC) (lo hi:Option Int) (sl:ZE) (Q:VK),Inv X pins σ H s->RelV x v->s.heap.IsSliceOf sl vl vu .none->IsPart vl lo->IsPart vu hi->r x lo hi H Q ->
  ∃ T id,typeLookup (.type T) "__getitem__"=pure (some (.builtin id))/\s.TypeIs v T/\wpAny (model X.prog X.w) X.A (getItem v (.ref sl)) (EP X pins σ Q) X.xe s
def SlR.or{r r':V->Option Int->Option Int->Hp->VK->Prop}(h:SlR X r)(h':SlR X r'):SlR X (λx lo hi H Q=>r x lo hi H Q\/r' x lo hi H Q):=by
 intro pins s σ H x v vl vu lo hi sl Q I rx hs pl pu q;rcases q with q|q
 ·exact h pins s σ H x v vl vu lo hi sl Q I rx hs pl pu q
 ·exact h' pins s σ H x v vl vu lo hi sl Q I rx hs pl pu q
def ES(r:V->Option Int->Option Int->Hp->VK->Prop)(te:TE)(tl th:TO):TE:=λσ H Q=>te σ H λx H1=>tl σ H1 λl H2=>th σ H2 λu H3=>r x l u H3 Q
def ET{r:V->Option Int->Option Int->Hp->VK->Prop}(hr:SlR X r)(he:PE X e te)(hl:PO X lo tl)(hu:PO X hi th):PE X (.Subscript e (.Slice lo hi none p2) pos) (ES r te tl th):=by
 intro pins s σ H Q I h;refine Subscript_ (thn (he pins s σ H _ I h) λv s1 Zz=>?_);obtain⟨x,H1,I1,r1,q1⟩:=Zz
 refine wpAny_Slice (thn (hl pins s1 σ H1 _ I1 q1) λvl s2 ⟨l,H2,I2,pl,q2⟩=>thn (hu pins s2 σ H2 _ I2 q2) λvu s3 Zz=>?_);obtain⟨u,H3,I3,pu,q3⟩:=Zz
 rw[evalPart_none];refine Nu ?_
 have I4:Inv X pins σ H3 { s3 with heap:=s3.heap.push { cls:=.type "slice",data:=.fields #[vl,vu,.none] } }:=I3.kept (t':=s3.toks) λb ob q=>Nq _ q
 obtain⟨T,id,hT,ht,hg⟩:=hr pins { s3 with heap:=s3.heap.push { cls:=.type "slice",data:=.fields #[vl,vu,.none] } } σ H3 x v vl vu l u s3.heap.objs.size Q I4 r1 (Heap.IsSliceOf.new ..) pl pu q3;show wpAny (model X.prog X.w) X.A (subscriptTail e (.Slice lo hi none p2) v (.ref s3.heap.objs.size)) (EP X pins σ Q) X.xe { s3 with heap:=s3.heap.push { cls:=.type "slice",data:=.fields #[vl,vu,.none] } }
 exact tail_any (ops:=[.ref s3.heap.objs.size,v]) ht hT hg (by with_unfolding_all rfl)
def eU(xs:List V)(lo hi:Option Int):List V:=(xs.drop (HT.sIx xs.length 0 lo)).take (HT.sIx xs.length xs.length hi-HT.sIx xs.length 0 lo)
def xG(xs:List V)(lo hi:Option Int):(eU xs lo hi).length<=xs.length:=by
 unfold eU;rw[Ot,OX];lia
def sZ(K:ZA):V->Option Int->Option Int->Hp->VK->Prop:=λx lo hi H Q=>∃ a xs,x=.ref a/\SqT K H a xs /\
 ¬ (HT.sIx xs.length 0 lo=0/\HT.sIx xs.length xs.length hi=xs.length)/\∀ p,H p=none->Q (.ref p) (upd H p (.tup (eU xs lo hi)))
def sl_tup:SlR X (sZ X.K):=by
 intro pins s σ H x v vl vu lo hi sl Q I rx hs pl pu h;obtain⟨a,xs,rfl,hx,hw,q⟩:=h
 cases rx
 obtain⟨its,r,ht,hz⟩:=I.tuple hx;have hlen:its.toArray.size=xs.length:=by rw[NB];exact r.length.symm
 refine⟨"tuple",_,PyProof.Rows.slot_tuple_getitem.lookup,ht.typeIs,?_⟩
 refine HT.getItem_tuple_cut ht hs pl pu (by rw[hlen];exact hw) ?_ (by rw[hlen];exact hz)
 rw[hlen];refine⟨.ref s.heap.objs.size,_,I.laid (t':=s.toks) (o:=.tup (eU xs lo hi)) (λb ob q=>Nq _ q) (Nk _) ?_,rfl,q _ (I.hok.fresh (Nk _))⟩
 exact⟨Np (xG xs lo hi) hz,_,(r.drop (HT.sIx xs.length 0 lo)).take (HT.sIx xs.length xs.length hi-HT.sIx xs.length 0 lo),IsTup.new _ _⟩
def EU(K:ZA):R2:=λx y H Q=>∃ a b xs ys,x=.ref a/\y=.ref b/\SqT K H a xs/\SqT K H b ys/\xs≠[]/\xs.length+ys.length<=sizeLine /\
 (ys=[]->Q (.ref a) H)/\(ys≠[]->∀ p,H p=none->Q (.ref p) (upd H p (.tup (xs++ys))))
def Vals.nil_iff{xs:List V}{us:List ZC}(r:Vals xs us):us=[] ↔ xs=[]:=by
 cases r with
 |nil=>simp
 |cons _ _=>simp
def zjl:OpR X (binaryOp .Add) (EU X.K):=by
 intro pins s σ H x y v u Q I rx ry h;obtain⟨a,b,xs,ys,rfl,rfl,ha,hb,hx,hz,q1,q2⟩:=h
 cases rx
 cases ry
 obtain⟨its,r1,p1,_⟩:=I.tuple ha;obtain⟨its2,r2,p2,_⟩:=I.tuple hb;refine HT.cat_tup p1 p2 (λz=>hx (r1.nil_iff.mp z)) (λz=>⟨.ref a,H,I,rfl,q1 (r2.nil_iff.mp z)⟩) (λz=>?_) (by rw[<- r1.length,<- r2.length];exact hz)
 refine⟨.ref s.heap.objs.size,_,I.laid (t':=s.toks) (o:=.tup (xs++ys)) (λb ob q=>Nq _ q) (Nk _) ?_,rfl,q2 (λw=>z (r2.nil_iff.mpr w)) _ (I.hok.fresh (Nk _))⟩
 exact⟨by rw[NV];exact hz,_,r1.append r2,IsTup.new _ _⟩
end
def fW(n:Nat)(i:Int):Option Nat:=if 0<=i then(if i<n then some i.toNat else none) else if -(n:Int)<=i then some (i+n).toNat else none
def atI{α:Type}(xs:List α)(i:Int):Option α:=(fW xs.length i).bind λj=>xs[j]?
def xH{n:Nat}{i:Int}{j:Nat}(h:fW n i=some j):seqIndex? i n=some j/\j<n /\ -(n:Int)<=i/\i<n:=by
 unfold fW at h;by_cases h0:0<=i
 ·rw[Nn h0] at h
  by_cases h1:i<n
  ·rw[Nn h1] at h
   have e:i.toNat=j:=N8 h;exact⟨by rw[seqIndex_of h0 h1,e],by lia,by lia,h1⟩
  ·rw[Nr h1] at h;cases h
 ·rw[Nr h0] at h
  by_cases h1:-(n:Int)<=i
  ·rw[Nn h1] at h
   have e:(i+n).toNat=j:=N8 h;exact⟨by rw[Se ⋯ h1,e],by lia,h1,by lia⟩
  ·rw[Nr h1] at h;cases h
def pV{α:Type}{xs:List α}{i:Int}{v:α}(h:atI xs i=some v):∃ j,seqIndex? i xs.length=some j/\xs[j]?=some v/\j<xs.length /\ -(xs.length:Int)<=i/\i<xs.length:=by
 unfold atI at h
 cases e:fW xs.length i with
 |none=>rw[e] at h;cases h
 |some j =>
  rw[e] at h;obtain⟨h1,h2,h3,h4⟩:=xH e
  exact⟨j,h1,h,h2,h3,h4⟩
def mq{α:Type}{xs:List α}{j:Nat}{v:α}(h:xs[j]?=some v):atI xs (j:Int)=some v:=by
 have hj:j<xs.length:=(Ni.mp h).1;have e:fW xs.length (j:Int)=some j:=by
  unfold fW;rw[Nn ⋯,Nn ⋯];simp
 unfold atI;rw[e];exact h
def tf(b:Expr):Prop:=∀ o i,subscripted b false o i=operate [o,i] (getItem o i)
def IxR(X:Cx)(r:R2):Prop :=
 ∀ (value slice:Expr) (pins:List (ZE×Obj)) (s:ZB) (σ:St) (H:Hp) (x y:V) (v u:ZC) (Q:VK),Inv X pins σ H s->RelV x v->RelV y u->r x y H Q ->
  subscripted slice false v u=operate [v,u] (getItem v u)->wpAny (model X.prog X.w) X.A (subscriptTail value slice v u) (EP X pins σ Q) X.xe s
def iR(X:Cx)(id:String)(r:V->List V->Hp->VK->Prop):Prop :=
 ∀ (pins:List (ZE×Obj)) (s:ZB) (σ:St) (H:Hp) (x:V) (xs:List V) (v:ZC) (us:List ZC) (Q:VK),Inv X pins σ H s->RelV x v->Vals xs us->r x xs H Q ->
  wpAny (model X.prog X.w) X.A (call (.builtin id) (v::us)) (EP X pins σ Q) X.xe s
section
variable{X:Cx}{a b:Expr}{ta tb:TE}{pos:Pos}
def IxR.or{r r':R2}(h:IxR X r)(h':IxR X r'):IxR X (λx y H Q=>r x y H Q\/r' x y H Q):=by
 intro value slice pins s σ H x y v u Q I rx ry q hs;rcases q with q|q
 ·exact h value slice pins s σ H x y v u Q I rx ry q hs
 ·exact h' value slice pins s σ H x y v u Q I rx ry q hs
def xI{r:R2}(hr:IxR X r)(ha:PE X a ta)(hb:PE X b tb)(hs:tf b):PE X (.Subscript a b pos) (mh r ta tb):=by
 intro pins s σ H Q I h;exact Subscript_ (kI ha hb I h λv u s2 x y H2 I2 rx ry q=>hr a b pins s2 σ H2 x y v u Q I2 rx ry q (hs _ _))
def nK(K:ZA):R2:=λx y H Q=>∃ p xs i v,x=.ref p/\y=.int i/\SqL K H p xs/\atI xs i=some v/\Q v H
def nL(K:ZA):R2:=λx y H Q=>∃ p xs i v,x=.ref p/\y=.int i/\SqT K H p xs/\atI xs i=some v/\Q v H
def nM:R2:=λx y H Q=>∃ z i c,x=.str z/\y=.int i/\z.length<=sizeLine/\atI z.cps.toList i=some c/\Q (.str ⟨#[c]⟩) H
def zfC:IxR X (nK X.K):=by
 intro value slice pins s σ H x y v u Q I rx ry h hs;obtain⟨p,xs,i,z,rfl,rfl,hq,he,q⟩:=h
 cases rx
 obtain⟨t,rfl⟩:=ry;obtain⟨its,r,pl,hz⟩:=I.list hq;obtain⟨j,h1,h2,h3,h4,h5⟩:=pV he;obtain⟨w,ew,rw'⟩:=r.get h2;have hl:=r.length;have hn:=kK;have fin:EP X pins σ Q w s:=⟨z,H,I,rw',q⟩
 by_cases h0:0<=i
 ·have hj:i.toNat=j:=by
   rw[seqIndex_of h0 h5] at h1;exact N8 h1
  exact item_listR pl.isList h0 ⋯ (by rw[hj];simpa using ew) fin hs
 ·have hj:(i+(its.toArray.size:Int)).toNat=j:=by
   rw[Se ⋯ h4] at h1;rw[NB,<- hl];exact N8 h1
  exact Q6 (x:=w) pl.isList.typeIs slot_list_getitem.lookup
   (wpAny_getItem_list_neg (Q:=λr s'=>r=w/\EP X pins σ Q r s') pl.isList ⋯ (by rw[NB]<;>lia) ⋯ (by rw[hj];simpa using ew) ⟨rfl,fin⟩) hs
def ix_tup:IxR X (nL X.K):=by
 intro value slice pins s σ H x y v u Q I rx ry h hs;obtain⟨p,xs,i,z,rfl,rfl,hq,he,q⟩:=h
 cases rx
 obtain⟨t,rfl⟩:=ry;obtain⟨its,r,pl,hz⟩:=I.tuple hq;obtain⟨j,h1,h2,h3,h4,h5⟩:=pV he;obtain⟨w,ew,rw'⟩:=r.get h2;have hl:=r.length;have hn:=kK;have fin:EP X pins σ Q w s:=⟨z,H,I,rw',q⟩
 exact Q6 (x:=w) pl.typeIs slot_tuple_getitem.lookup
  (getItem_tuple (j:=j) (Q:=λr s'=>r=w/\EP X pins σ Q r s') pl ⋯ ⋯ (by rw[NB,<- hl];exact h1) (by simpa using ew) ⟨rfl,fin⟩) hs
def EV:IxR X nM:=by
 intro value slice pins s σ H x y v u Q I rx ry h hs;obtain⟨z,i,c,rfl,rfl,hz,he,q⟩:=h;obtain⟨t,rfl⟩:=rx;obtain⟨t',rfl⟩:=ry;obtain⟨j,h1,h2,h3,h4,h5⟩:=pV he;have hl:z.cps.toList.length=z.length:=by simp[Str.length]
 rw[hl] at h1 h4 h5;have hn:=kK
 exact tail_any (Qo s z t) slot_str_getitem.lookup (getItem_str (c:=c) (by
  have e1:decide (i < -(2 ^ 63:Int))=false:=NJ ⋯;have e2:decide (i ≥ 2 ^ 63)=false:=NJ ⋯;rw[e1,e2,Bool.or_false]) (by rw[h1];simpa using h2) ⟨.str ⟨#[c]⟩,H,I.tok _,⟨_,rfl⟩,q⟩) hs
def xJ(K:ZA):R2:=λx y H Q=>nK K x y H Q\/nL K x y H Q\/nM x y H Q
def EW:IxR X (xJ X.K):=(zfC.or (ix_tup.or EV))
def EX(its:List ZC)(n j:Nat)(u:ZC):Obj.mapSeq (·.setIfInBounds j u) { cls:=.type "list",data:=.seq its.toArray n }={ cls:=.type "list",data:=.seq (its.set j u).toArray n }:=by
 simp[Obj.mapSeq]
def Inv.lst{pins:List (ZE×Obj)}{σ:St}{H:Hp}{s:ZB}{p:ZE}{xs:List V}(I:Inv X pins σ H s)(h:H p=some (.lst xs)) :
  ∃ (its:List ZC) (n:Nat),Vals xs its/\s.heap.get? p=some { cls:=.type "list",data:=.seq its.toArray n }/\xs.length<=sizeLine:=by
 obtain⟨z,its,n,r,e⟩:=I.hok p _ h;exact⟨its,n,r,e,z⟩
def Inv.lstUpd {pins:List (ZE×Obj)} {σ:St} {H:Hp} {s:ZB} {p:ZE} {xs ys:List V} {its its':List ZC} {n n':Nat} {f:Obj->Obj} (I:Inv X pins σ H s) (h:H p=some (.lst xs))
  (ho:s.heap.get? p=some { cls:=.type "list",data:=.seq its.toArray n }) (hf:f { cls:=.type "list",data:=.seq its.toArray n }={ cls:=.type "list",data:=.seq its'.toArray n' }) (r:Vals ys its') (hz:ys.length<=sizeLine) (t:Nat) :
  Inv X pins σ (upd H p (.lst ys)) { s with heap:=s.heap.update p f,toks:=t }:=by
 have e:(s.heap.update p f).get? p=some { cls:=.type "list",data:=.seq its'.toArray n' }:=by
  rw[Ph f ho (by rw[hf]<;>rfl),hf]
 refine I.write (x:=p) (e:=p) (by rw[h];trivial) (.inl rfl) (λb u hb q=>(QW _ _ (Ne.symm hb)).trans q) ⟨_,e⟩ ?_
 exact⟨hz,its',n',r,e⟩
def EY:V->V->V->Hp->(Hp->Prop)->Prop:=λo i v H Q=>∃ p xs k j,o=.ref p/\i=.int k/\H p=some (.lst xs)/\fW xs.length k=some j/\Q (upd H p (.lst (xs.set j v)))
def EZ:nE X EY:=by
 intro pins s σ H o i v ov iv u Q I ro ri rv h;obtain⟨p,xs,k,j,rfl,rfl,hp,hj,q⟩:=h
 cases ro
 obtain⟨t,rfl⟩:=ri;obtain⟨its,n,r,ho,hz⟩:=I.lst hp;obtain⟨h1,h2,h3,h4⟩:=xH hj;have hl:=r.length;have hn:=kK;have I':Inv X pins σ (upd H p (.lst (xs.set j v))) { s with heap:=s.heap.update p (Obj.mapSeq (·.setIfInBounds j u)) } :=
  I.lstUpd hp ho (EX its n j u) (r.set rv j) (by rw[Of];exact hz) s.toks
 by_cases h0:0<=k
 ·have hk:k.toNat=j:=by
   rw[seqIndex_of h0 h4] at h1;exact N8 h1
  exact PySem.W.ki_setAt ho h0 ⋯ (by rw[NB,<- hl];exact h4) (by rw[hk];exact⟨_,I',q⟩)
 ·have hk:(k+(its.toArray.size:Int)).toNat=j:=by
   rw[Se ⋯ h3] at h1;rw[NB,<- hl];exact N8 h1
  exact PySem.W.ki_setBack ho ⋯ (by rw[NB,<- hl];exact h3) ⋯ (by rw[hk];exact⟨_,I',q⟩)
def E1(lo hi:Option Int)(n:Nat):(sliceBounds lo hi none n).1=((HT.sIx n 0 lo:Nat):Int)/\(sliceBounds lo hi none n).2.1=((HT.sIx n n hi:Nat):Int)/\(sliceBounds lo hi none n).2.2=1:=by
 refine⟨?_,?_,rfl⟩
 ·cases lo with
  |none=>simp[sliceBounds,HT.sIx]
  |some i =>
   simp only[sliceBounds,HT.sIx,Option.getD_none,show (1:Int) > 0 by decide,O5]
   by_cases h:i<0
   ·simp only[h,O5]<;>lia
   ·simp only[h,So]<;>lia
 ·cases hi with
  |none=>simp[sliceBounds,HT.sIx]
  |some i =>
   simp only[sliceBounds,HT.sIx,Option.getD_none,show (1:Int) > 0 by decide,O5]
   by_cases h:i<0
   ·simp only[h,O5]<;>lia
   ·simp only[h,So]<;>lia
def E2(its:List ZC)(lo hi:Option Int):slicePick its.toArray lo hi none=((its.drop (HT.sIx its.length 0 lo)).take (HT.sIx its.length its.length hi-HT.sIx its.length 0 lo)).toArray:=by
 obtain⟨h1,h2,h3⟩:=E1 lo hi its.toArray.size;unfold slicePick;rw[h1,h2,h3];simp only[sliceRange_one,pick_run,NB]<;>rfl
def tj(K:ZA):V->Option Int->Option Int->Hp->VK->Prop:=λx lo hi H Q=>∃ a xs,x=.ref a/\SqL K H a xs/\∀ p,H p=none->Q (.ref p) (upd H p (.lst (eU xs lo hi)))
def zjm:SlR X (tj X.K):=by
 intro pins s σ H x v vl vu lo hi sl Q I rx hs pl pu h;obtain⟨a,xs,rfl,hx,q⟩:=h
 cases rx
 obtain⟨its,r,ht,hz⟩:=I.list hx;have hlen:=r.length;refine⟨"list",_,slot_list_getitem.lookup,ht.isList.typeIs,?_⟩
 refine wpAny_getItem_list_slice ht.isList hs pl pu .none 's' ?_ (by rw[NB]<;>omega)
 rw[E2,<- hlen];refine⟨.ref s.heap.objs.size,_,I.laid (t':=s.toks) (o:=.lst (eU xs lo hi)) (λb ob q=>Nq _ q) (Nk _) ?_,rfl,q _ (I.hok.fresh (Nk _))⟩
 exact⟨Np (xG xs lo hi) hz,_,0,(r.drop (HT.sIx xs.length 0 lo)).take (HT.sIx xs.length xs.length hi-HT.sIx xs.length 0 lo),NC _ rfl⟩
def zeB:OpR X (compareOp .NotIn) (λx y H Q=>∃ i j,x=.str i/\y=.str j/\Q (.bl (!(!(Builtin.Str.occurrences j i 0 j.length 1).isEmpty))) H):=by
 intro pins s σ H x y v u Q I rx ry h;obtain⟨i,j,rfl,rfl,q⟩:=h;obtain⟨t,rfl⟩:=rx;obtain⟨t',rfl⟩:=ry;exact notIn_str ⟨.bl _,H,I,rfl,q⟩
def zeC:CallR X (.builtin "len") (λxs H Q=>∃ p ys,xs=[.ref p]/\(SqL X.K H p ys\/SqT X.K H p ys)/\Q (.int ys.length) H):=by
 intro pins s σ H xs us Q I r h;obtain⟨p,ys,rfl,hq,q⟩:=h;obtain⟨u,rfl,rx⟩:=jd r
 cases rx
 have hn:=kK;rcases hq with hq|hq
 ·obtain⟨its,r',pl,hz⟩:=I.list hq
  have hlen:=r'.length;exact Calls.call_len_list pl.isList (by simp only[NB]<;>lia) ⟨.int ys.length,H,I.tok _,⟨s.toks+1,by rw[NB,hlen]⟩,q⟩
 ·obtain⟨its,r',pl,hz⟩:=I.tuple hq
  have hlen:=r'.length;exact len_tuple pl (by simp only[NB]<;>lia) ⟨.int ys.length,H,I.tok _,⟨s.toks+1,by rw[NB,hlen]⟩,q⟩
def zeD:CallR X (.builtin "len") (λxs H Q=>∃ z,xs=[.str z]/\z.length<=sizeLine/\Q (.int z.length) H):=by
 intro pins s σ H xs us Q I r h;obtain⟨z,rfl,hz,q⟩:=h;obtain⟨u,rfl,t,rfl⟩:=jd r;have hn:=kK;exact len_str ⋯ ⟨.int z.length,H,I.tok _,⟨_,rfl⟩,q⟩
def CallR.or{f:ZC}{r r':List V->Hp->VK->Prop}(h:CallR X f r)(h':CallR X f r'):CallR X f (λxs H Q=>r xs H Q\/r' xs H Q):=by
 intro pins s σ H xs us Q I rs q;rcases q with q|q
 ·exact h pins s σ H xs us Q I rs q
 ·exact h' pins s σ H xs us Q I rs q
def pW(K:ZA)(T:String)(x:V)(H:Hp):Prop:=match x with
 |.str _=>T="str"
 |.int _=>T="int"
 |.ref p=>(T="list" /\ ∃ xs,SqL K H p xs)\/(T="tuple" /\ ∃ o,K.lookup p=some o/\o.cls=.type "tuple" /\ o.dict=none) \/
   (T="dict" /\ ((∃ kvs,H p=some (.dK kvs))\/∃ xc kvs,H p=some (.dT xc kvs)))\/(T="set" /\ ∃ S n,H p=some (.set S n))
 |_=>False
def xK{pins:List (ZE×Obj)}{σ:St}{H:Hp}{s:ZB}{T:String}{x:V}{v:ZC}(I:Inv X pins σ H s)(r:RelV x v)(ty:pW X.K T x H) :
  s.TypeIs v T/\∀ a,v=.ref a->∃ ob,s.heap.get? a=some ob/\ob.dict=none:=by
 cases x with
 |str z =>
  obtain⟨t,rfl⟩:=r
  cases (show T="str" from ty)
  exact⟨Qo s z t,λ_ e=>nomatch e⟩
 |int i =>
  obtain⟨t,rfl⟩:=r
  cases (show T="int" from ty)
  exact⟨Sq s i t,λ_ e=>nomatch e⟩
 |ref p =>
  cases r
  rcases ty with⟨rfl,xs,hq⟩|⟨rfl,o,hk,hc,hd⟩|⟨rfl,hk⟩|⟨rfl,S,n,hk⟩
  ·obtain⟨its,_,pl,_⟩:=I.list hq
   refine⟨pl.isList.typeIs,λa e=>?_⟩
   cases e
   obtain⟨o,n,e,c,hd,_⟩:=pl;exact⟨o,e,hd⟩
  ·refine⟨⟨o,I.kIn p o hk,hc⟩,λa e=>?_⟩
   cases e
   exact⟨o,I.kIn _ o hk,hd⟩
  ·have z:∃ o,s.heap.get? p=some o/\o.ExactDict:=by
    rcases hk with⟨kvs,hk⟩|⟨xc,kvs,hk⟩
    ·obtain⟨_,_,_,_,o,_,_,e,ex,_⟩:=I.hok p _ hk
     exact⟨o,e,ex⟩
    ·obtain⟨_,_,_,_,o,_,_,e,ex,_⟩:=I.hok p _ hk
     exact⟨o,e,ex⟩
   obtain⟨o,e,ex⟩:=z;refine⟨⟨o,e,ex.1⟩,λa e2=>?_⟩
   cases e2
   exact⟨o,e,ex.2.1⟩
  ·obtain⟨o,_,_,_,e,ex,_⟩:=I.hok p _ hk
   refine⟨⟨o,e,ex.1⟩,λa e2=>?_⟩
   cases e2
   exact⟨o,e,ex.2.1⟩
 |_=>exact False.elim ty
def tm(K:ZA)(T:String)(r:V->List V->Hp->VK->Prop)(to:TE):TE:=λσ H Q=>to σ H λx H1=>pW K T x H1/\r x [] H1 Q
def E3(K:ZA)(T:String)(r:V->List V->Hp->VK->Prop)(to:TE)(t:TA):TE:=λσ H Q=>to σ H λx H1=>pW K T x H1/\t σ H1 λxs H2=>r x xs H2 Q
variable{o e:Expr}{es:List Expr}{to:TE}{t:TA}{name:Str}{apos cpos:Pos}{T id:String}{r:V->List V->Hp->VK->Prop}
def xM (pa:PlainAttrs T) (slot:Slot T name id) (hty:typeOf (.builtin id)=pure (.type "method_descriptor")) (hm:iR X id r) (ho:PE X o to)
  (hbase:‹attributeBase o name X.env (eval o X.env)=eval o X.env›) (hline:‹(apos.endLine==cpos.line)=true›):PE X (.Call (.Attribute o name apos) [] [] cpos) (tm X.K T r to):=by
 intro pins s σ H Q I h;refine wpAny_Call_method0_late hbase hline (thn (ho pins s σ H _ I h) λv s1 Zz=>?_);obtain⟨x,H1,I1,r1,ty,q1⟩:=Zz
 obtain⟨h1,h2⟩:=xK I1 r1 ty;exact⟨T,id,pa,slot,hty,h1,h2,OW rfl (PySem.evalArgs_none (hm pins s1 σ H1 x [] v [] Q I1 r1 .nil q1))⟩
def E4 (pa:PlainAttrs T) (slot:Slot T name id) (hty:typeOf (.builtin id)=pure (.type "method_descriptor")) (hm:iR X id r) (ho:PE X o to) (ha:PA X (e::es) t)
  (hbase:‹attributeBase o name X.env (eval o X.env)=eval o X.env›)
  (hfew:‹((backTo cpos (starEach (e::es) X.env)).all (λx=>!x.1) && (backToKw cpos (keywordEach [] X.env)).all (λx=>x.1.isSome)
   && decide ((e::es).length+([]:List Keyword).length+(if ([]:List Keyword).isEmpty then 0 else 1)<30))=true›)
  (hline:‹(apos.endLine==cpos.line)=true›) (hs:‹qE1 e es X.env›) (hplain:‹qF1 cpos es X.env›) :
  PE X (.Call (.Attribute o name apos) (e::es) [] cpos) (E3 X.K T r to t):=by
 intro pins s σ H Q I h;refine wpAny_Call_method_late hbase hfew hline rfl (thn (ho pins s σ H _ I h) λv s1 Zz=>?_);obtain⟨x,H1,I1,r1,ty,q1⟩:=Zz
 obtain⟨h1,h2⟩:=xK I1 r1 ty;refine⟨T,id,pa,slot,hty,h1,h2,?_⟩
 have hA:=ha cpos pins s1 σ H1 _ I1 q1;rw[hs] at hA ⊢;refine OW (by show (false || (backTo cpos (starEach es X.env)).any (·.1))=false;rw[hplain]<;>rfl) (O4 ?_)
 exact thn hA λus s2 ⟨vs,H2,I2,r2,q2⟩=>hm pins s2 σ H2 x vs v us Q I2 r1 r2 q2
end
def tq(X:Cx)(id:String)(r:V->List V->Hp->VK->Prop):Prop :=
 ∀ (pins:List (ZE×Obj)) (s:ZB) (σ:St) (H:Hp) (x:V) (xs:List V) (v:ZC) (us:List ZC) (Q:VK),Inv X pins σ H s->RelV x v->Vals xs us->r x xs H Q ->
  wpAny (model X.prog X.w) X.A (call (.builtin id) (v::us)) (EP X pins σ Q) X.xe s
theorem Vals.one:∀ {x:V} {us:List ZC},Vals [x] us->∃ u,us=[u]/\RelV x u
 |_,_,.cons r .nil=>⟨_,rfl,r⟩
theorem Vals.zero:∀ {us:List ZC},Vals [] us->us=[]
 |_,.nil=>rfl
def Vals.dropLast{xs:List V}{us:List ZC}(h:Vals xs us):Vals xs.dropLast us.dropLast:=by
 induction h with
 |nil=>exact .nil
 |cons r t ih =>
  cases t with
  |nil=>exact .nil
  |cons q t'=>exact .cons r ih
def E5{α:Type}(l:List α):l.eraseIdx (l.length-1)=l.dropLast:=by
 induction l with
 |nil=>rfl
 |cons a r ih =>
  cases r with
  |nil=>rfl
  |cons b r =>
   have e:(a::b::r).length-1=((b::r).length-1)+1:=by
    have h1:(a::b::r).length=r.length+2:=rfl;have h2:(b::r).length=r.length+1:=rfl;omega
   rw[e,List.eraseIdx_cons_succ,ih];all_goals rfl
section
variable{X:Cx}{pins:List (ZE×Obj)}{σ:St}{H:Hp}{s:ZB}{l b:ZE}{xs ys zs:List V}
def Inv.lset {its its':List ZC} {n:Nat} {f:Array ZC->Array ZC} {t':Nat} (I:Inv X pins σ H s) (hH:H l=some (.lst xs))
  (e:s.heap.get? l=some { cls:=.type "list",data:=.seq its.toArray n }) (hf:f its.toArray=its'.toArray) (hv:Vals ys its') (hz:ys.length<=sizeLine) :
  Inv X pins σ (upd H l (.lst ys)) { s with heap:=s.heap.update l (Obj.mapSeq f),toks:=t' }:=by
 have q:=PySem.IsL.update e f;rw[hf] at q;refine I.write (x:=l) (e:=l) (by rw[hH];exact trivial) (.inl rfl) (λb' u hb hu=>(QW s.heap (Obj.mapSeq f) (Ne.symm hb)).trans hu) ⟨_,q⟩ ?_
 exact⟨hz,its',_,hv,q⟩
def Inv.lnew{its:List ZC}{t':Nat}(I:Inv X pins σ H s)(hv:Vals ys its)(hz:ys.length<=sizeLine) :
  Inv X pins σ (upd H s.heap.objs.size (.lst ys)) { s with heap:=s.heap.push { cls:=.type "list",data:=.seq its.toArray },toks:=t' } :=(
 I.laid (λ_ _ q=>Nq _ q) (Nk _) ⟨hz,its,0,hv,NC _ rfl⟩)
def Inv.fresh(I:Inv X pins σ H s):H s.heap.objs.size=none:=(I.hok.fresh (Nk _))
def Inv.lstM(I:Inv X pins σ H s)(hH:H l=some (.lst xs)):xs.length<=sizeLine/\∃ (its:List ZC) (n:Nat),Vals xs its/\xs.length=its.length/\s.heap.get? l=some { cls:=.type "list",data:=.seq its.toArray n }:=by
 obtain⟨z,its,n,r,e⟩:=I.hok l _ hH;exact⟨z,its,n,r,r.length,e⟩
end
section
variable{X:Cx}
def E6:V->List V->Hp->VK->Prop:=λx vs H Q=>∃ l xs y,x=.ref l/\vs=[y]/\H l=some (.lst xs)/\xs.length<sizeLine/\Q .non (upd H l (.lst (xs++[y])))
def xN:tq X "list.append" E6:=by
 intro pins s σ H x vs v us Q I rx rv h;obtain⟨l,xs,y,rfl,rfl,hH,hz,q⟩:=h
 cases rx
 obtain⟨u,rfl,ru⟩:=rv.one;obtain⟨z,its,n,r,hl,e⟩:=I.lstM hH;refine PD F.slot_list_append ⟨_,e,rfl⟩ F.entry_list_append (F.args_list_append_2 _ _) (PySem.list_append l its.toArray n u (by rw[NB];lia)) ⟨e,?_⟩
 refine⟨.non,_,I.lset (its':=its++[u]) hH e 's' (r.append (.cons ru .nil)) ?_,rfl,q⟩
 rw[NV,Re];lia
def tu:V->List V->Hp->VK->Prop:=λx vs H Q=>∃ l xs y,x=.ref l/\vs=[]/\H l=some (.lst xs)/\xs[xs.length-1]?=some y/\Q y (upd H l (.lst xs.dropLast))
def E7:tq X "list.pop" tu:=by
 intro pins s σ H x vs v us Q I rx rv h;obtain⟨l,xs,y,rfl,rfl,hH,hy,q⟩:=h
 cases rx
 have hus:=rv.zero;subst hus;obtain⟨z,its,n,r,hl,e⟩:=I.lstM hH
 obtain⟨u,hu,ru⟩:=r.get hy;have hy':its.toArray[its.toArray.size-1]?=some u:=by
  show its.toArray[its.length-1]?=some u
  rw[<- PX,<- hl];exact hu
 refine PD F.slot_list_pop ⟨_,e,rfl⟩ F.entry_list_pop (F.args_list_pop_1 _) (MeetsSeq.list_pop_last l its.toArray n u hy' (by rw[NB];omega)) ⟨e,?_⟩
 refine⟨y,_,I.lset (its':=its.dropLast) hH e ?_ r.dropLast ?_,ru,q⟩
 ·show its.toArray.eraseIdxIfInBounds (its.toArray.size-1)=its.dropLast.toArray
  rw[NB,List.eraseIdxIfInBounds_toArray,E5]
 ·rw[List.length_dropLast]
  omega
def E8:V->List V->Hp->VK->Prop:=λx vs H Q=>∃ l xs,x=.ref l/\vs=[]/\H l=some (.lst xs)/\Q .non (upd H l (.lst []))
def E9:tq X "list.clear" E8:=by
 intro pins s σ H x vs v us Q I rx rv h;obtain⟨l,xs,rfl,rfl,hH,q⟩:=h
 cases rx
 have hus:=rv.zero;subst hus;obtain⟨z,its,n,r,hl,e⟩:=I.lstM hH
 refine PD F.slot_list_clear ⟨_,e,rfl⟩ F.entry_list_clear (F.args_list_clear_1 _) (AutoSeq1.list_clear_list_0 l its.toArray n (by rw[NB];lia)) ⟨e,?_⟩
 exact⟨.non,_,I.lset (its':=[]) (ys:=[]) hH e rfl .nil (NU _),rfl,q⟩
end
section
variable{prog:ZD}{w:ZF}{A:ZG}{E:ZC->ZB->Prop}{s:ZB}
end
section
variable{X:Cx}
end
section
variable{κ:Type}[DecidableEq κ]
def bF(kvs:List (κ×V))(k:κ):Option V:=(kvs.find? λkv=>decide (kv.1=k)).map (·.2)
def bW(kvs:List (κ×V))(k:κ)(v:V):List (κ×V) :=
 if (kvs.any λkv=>decide (kv.1=k))=true then kvs.map (λkv=>if kv.1=k then(kv.1,v) else kv) else kvs++[(k,v)]
def je(kvs:List (κ×V))(k:κ):List (κ×V):=kvs.filter λkv=>decide (kv.1≠k)
def pX{p:κ×V}{r:List (κ×V)}{k:κ}(e:p.1=k):bF (p::r) k=some p.2:=by simp[bF,Oq,e]
def nN{p:κ×V}{r:List (κ×V)}{k:κ}(e:¬ p.1=k):bF (p::r) k=bF r k:=by simp[bF,Oq,e]
theorem pY(k:κ):∀ kvs:List (κ×V),(kvs.any λkv=>decide (kv.1=k))=(bF kvs k).isSome
 |[]=>rfl
 |p::r=>by
  rw[OL];by_cases e:p.1=k
  ·simp only[pX e,NO e,Bool.true_or,Option.isSome_some]
  ·rw[nN e,NJ e,Bool.false_or];exact pY k r
def xO(kvs:List (κ×V))(k:κ)(v:V):(bW kvs k v).length<=kvs.length+1:=by
 unfold bW;split
 ·rw[Nw];lia
 ·rw[NV,Os,List.length_nil];lia
def RelO.isSome_eq{o:Option V}{u:Option ZC}(r:RelO o u):o.isSome=u.isSome:=by
 cases o with
 |none=>cases u with
  |none=>rfl
  |some _=>exact(show False from r).elim
 |some _=>cases u with
  |none=>exact(show False from r).elim
  |some _=>rfl
def RelO.getD{o:Option V}{u:Option ZC}{d:V}{d':ZC}(r:RelO o u)(rd:RelV d d'):RelV (o.getD d) (u.getD d'):=by
 cases o with
 |none=>cases u with
  |none=>exact rd
  |some _=>exact(show False from r).elim
 |some _=>cases u with
  |none=>exact(show False from r).elim
  |some _=>exact r
def KV.val{kvs:List (κ×V)}{vs:List (κ×ZC)}(r:KV kvs vs)(k:κ):RelO (bF kvs k) (valueAt vs k):=by
 unfold KV at r;induction r with
 |nil=>exact True.intro
 |@cons p q ps qs h t ih =>
  obtain⟨h1,h2⟩:=h;by_cases e:p.1=k
  ·have e':q.1=k:=h1.symm.trans e
   have b:valueAt (q::qs) k=some q.2:=by simp[valueAt,Oq,e']
   rw[pX e,b];exact h2
  ·have e':¬ q.1=k:=λz=>e (h1.trans z)
   have b:valueAt (q::qs) k=valueAt qs k:=by simp[valueAt,Oq,e']
   rw[nN e,b];exact ih
def KV.any{kvs:List (κ×V)}{vs:List (κ×ZC)}(r:KV kvs vs)(k:κ):(kvs.any λkv=>decide (kv.1=k))=vs.any λkv=>decide (kv.1=k):=by
 unfold KV at r;induction r with
 |nil=>rfl
 |cons h t ih=>rw[OL,OL,ih,h.1]
def KV.repl{kvs:List (κ×V)}{vs:List (κ×ZC)}(r:KV kvs vs)(k:κ){y:V}{u:ZC}(ry:RelV y u) :
  KV (kvs.map λkv=>if kv.1=k then(kv.1,y) else kv) (vs.map λkv=>if kv.1=k then(kv.1,u) else kv):=by
 unfold KV at r ⊢
 induction r with
 |nil=>exact .nil
 |@cons p q ps qs h t ih =>
  rw[NW,NW];refine .cons ?_ ih
  obtain⟨h1,h2⟩:=h;by_cases e:p.1=k
  ·rw[Nn e,Nn (h1.symm.trans e)];exact⟨h1,ry⟩
  ·rw[Nr e,Nr (λz=>e (h1.trans z))];exact⟨h1,h2⟩
def KV.put{kvs:List (κ×V)}{vs:List (κ×ZC)}(r:KV kvs vs)(k:κ){y:V}{u:ZC}(ry:RelV y u):KV (bW kvs k y) (stored vs k u):=by
 unfold bW stored;rw[r.any k];by_cases e:(vs.any λkv=>decide (kv.1=k))=true
 ·rw[Nn e,Nn e];exact r.repl k ry
 ·rw[Nr e,Nr e];exact Paired.snoc r ⟨rfl,ry⟩
def KV.drop{kvs:List (κ×V)}{vs:List (κ×ZC)}(r:KV kvs vs)(k:κ):KV (je kvs k) (without vs k):=by
 unfold KV at r ⊢
 unfold je without;induction r with
 |nil=>exact .nil
 |@cons p q ps qs h t ih =>
  obtain⟨h1,h2⟩:=h;rw[OY,OY];by_cases e:p.1=k
  ·have a:¬ decide (p.1≠k)=true:=by simp[e]
   have b:¬ decide (q.1≠k)=true:=by simp[h1.symm.trans e]
   rw[Nr a,Nr b];exact ih
  ·have e':¬ q.1=k:=λz=>e (h1.trans z)
   have a:decide (p.1≠k)=true:=by simp[e]
   have b:decide (q.1≠k)=true:=by simp[e']
   rw[Nn a,Nn b];exact .cons ⟨h1,h2⟩ ih
def KV.length{kvs:List (κ×V)}{vs:List (κ×ZC)}(r:KV kvs vs):kvs.length=vs.length:=(Paired.length r)
def xP(kvs:List (κ×V))(k:κ):(je kvs k).length<=kvs.length:=(PY _ _)
end
def jW{P:ZD}{w:ZF}{k:aI}{u:ZC}(r:RelV (kV k) u):(fz P w).is k u=true:=by
 cases k with
 |inl i=>obtain⟨t,e⟩:=(show ∃ t,u=Value.int i t from r);subst e;exact CI P w i t
 |inr x=>obtain⟨t,e⟩:=(show ∃ t,u=Value.str x t from r);subst e;exact CJ P w x t
def Fb{P:ZD}{w:ZF}{y:V}{k:aI}{u:ZC}(e:lZ y=some k)(r:RelV y u):(ig P w).is k u=true:=by
 cases y with
 |int i=>cases e;obtain⟨t,e⟩:=(show ∃ t,u=Value.int i t from r);subst e;exact CD P w i t
 |str x=>cases e;obtain⟨t,e⟩:=(show ∃ t,u=Value.str x t from r);subst e;exact CG P w x t
 |bl b=>cases e;cases (show u=Value.bool b from r);exact NO rfl
 |_=>cases e
theorem xQ{P:ZD}{w:ZF}:∀ {ys:List V} {ks:List aI} {us:List ZC},ys.map lZ=ks.map some->Vals ys us->ItemsAre (ig P w) ks us
 |[],[],_,_,r=>by cases r;exact .nil
 |[],_::_,_,e,_=>by simp at e
 |_::_,[],_,e,_=>by simp at e
 |y::ys,k::ks,_,e,r=>by
  rw[NW,NW] at e;injection e with e1 e2
  cases r with
  |cons h t=>exact .cons (Fb e1 h) (xQ e2 t)
def KTup(H:Hp)(b:ZE)(k:List aI):Prop:=∃ ys,H b=some (.tup ys)/\ys.map lZ=k.map some
def KTup.of{H:Hp}{b:ZE}{k:List aI}(e:H b=some (.tup (k.map kV))):KTup H b k:=(⟨_,e,by rw[Qd];exact O6 λx _=>CK x⟩)
def DictE{P:ZD}{w:ZF}{K:Type}[DecidableEq K](h:Heap)(kn:PySem.HeapKind P w K)(d:ZE)(xs:List (K×ZE×ZC))(n:Nat):Prop :=
 ∃ o es,h.get? d=some o/\o.ExactDict/\o.data=.dict es n/\es.toList=xs.map (entryOfKey kn)/\(∀ x∈xs,kn.is h x.1 x.2.1)/\(xs.map (·.1)).Nodup
def DictE.of{P:ZD}{w:ZF}{K:Type}[DecidableEq K]{h:Heap}{kn:PySem.HeapKind P w K}{d:ZE}{xs:List (K×ZE×ZC)}{n:Nat}(e:DictE h kn d xs n):h.DictOfH kn d xs:=(e.imp λ_ ⟨es,r⟩=>⟨es,n,r⟩)
def tw{P:ZD}{w:ZF}{K:Type}[DecidableEq K]{kn:PySem.HeapKind P w K}{d b:ZE}{k:K}{xs:List (K×ZE×ZC)}{A:ZG}{E:ZC->ZB->Prop}{s:ZB}{v:ZC}{Q:Unit->ZB->Prop}
  (hu:kn.room A.in1)(hk:kn.is s.heap k b)(hm:DictE s.heap kn d xs xs.length)(hz:xs.length<=sizeLine)
  (q:∀ g,DictE g kn d (storedH xs k b v) (storedH xs k b v).length->Heap.SameBut d s.heap g->Q () { s with heap:=g,toks:=s.toks+kn.draws k }) :
  wpAny (model P w) A (setItem (.ref d) (.ref b) v) Q E s:=by
 have ty:=hm.of.typeIs;obtain⟨o,es,e1,e2,e3,e4,e5,e6⟩:=hm;unfold setItem;try with_reducible refine Oi ?_
 refine Nj (Sd ty 'd' (Nj (QQ (name:=Str.ofString "__setitem__") ty Sf (OJ Sf ty entry_dict_setitem ?_ (args_dict_setitem _ _ _)))))
 show wpAny _ _ (Builtin.Dict.notOrdered "__setitem__" _ >>= _) _ _ s
 refine Nj (PZ ty (show wpAny _ _ (dictSet d (.ref b) v >>= _) _ _ s from Nj ?_))
 have fin:∀ g,DictE g kn d (storedH xs k b v) (storedH xs k b v).length->Heap.SameBut d s.heap g->wpAny (model P w) A.in1 (pure Unit.unit) (λ_ s'=>Q () s') (λ_ _=>False) { s with heap:=g,toks:=s.toks+kn.draws k }:=λg a c=>Nu (q g a c)
 unfold dictSet;try with_reducible refine Oi ?_
 refine Nj (kn.pyHash hu hk ?_)
 unfold dictSetHashed;try with_reducible refine Oi ?_
 refine Nj (wpAny_dictFind_heap (s:={ s with toks:=s.toks+kn.draws k }) hu hk e1 e3 e4 e5 e6 (λno=>?_) λj p hj=>?_)
 ·have st:=storedH_new (a:=b) (v:=v) (atKey_none_of_get no)
  refine Nj (RX (wpAny_updateDictKeys (hz:=by have z:=size_of_entries e4;lia) (s:={ s with toks:=s.toks+kn.draws k }) e1 e3 (Nu ⟨.none,rfl,Nu (q _ ?_ (O7 ..))⟩)))
  have ln:(xs++[(k,b,v)]).length=xs.length+1:=by simp
  rw[st,ln];refine⟨_,_,Ph _ e1 (Obj.isFreed_of_dict (Obj.data_mapDictKeys e3 _)),e2.mapDictKeys _,Obj.data_mapDictKeys e3 _,?_,λx hx=>?_,?_⟩
  ·simp[e4,entryOfKey]
  ·rcases Oe.mp hx with hx|hx
   ·exact kn.keeps (e5 x hx) e1 e3 (O7 ..)
   ·have z:x=(k,b,v):=by simpa using hx
    rw[z];exact kn.keeps hk e1 e3 (O7 ..)
  ·rw[Og,PJ]
   exact⟨e6,by simp,λx hx y hy z=>not_mem_keys_of_get no (by
    have e:y=k:=by simpa using hy
    rw[<- e,<- z];exact hx)⟩
 ·have st:=storedH_old (a:=b) (v:=v) (atKey_of_get e6 hj)
  refine Nj (RX (Nj (wpAny_updateDict (s:={ s with toks:=s.toks+kn.draws k }) e1 e3 (wpAny_point (Nu ⟨.none,rfl,Nu (q _ ?_ (O7 ..))⟩)))))
  rw[st,Nw];refine⟨_,_,Ph _ e1 (Obj.isFreed_of_dict (Obj.data_mapDict e3 _)),e2.mapDict _,Obj.data_mapDict e3 _,?_,λx hx=>?_,?_⟩
  ·have z:=modify_map_putAt (entryOfKey kn) (λe:DictEntry=>{ e with val:=v }) k v (λ_ _=>rfl) e6 hj
   rw[<- e4] at z;obtain⟨l⟩:=es
   simpa using z
  ·obtain⟨y,hy,rfl⟩:=Pp.mp hx
   unfold putAt;split<;>exact kn.keeps (e5 y hy) e1 e3 (O7 ..)
  ·rw[keys_map_putAt];exact e6
def xR(xc:Option (List ZE))(old:Bool)(b:ZE):Option (List ZE):=xc.map λas=>if old then as else as++[b]
def Fc{xs:List (List aI×ZE×ZC)}{k:List aI}{b:ZE}{u:ZC}{xc:Option (List ZE)}(h:∀ as,xc=some as->xs.map (·.2.1)=as):∀ as,xR xc (atKey xs k).isSome b=some as->(storedH xs k b u).map (·.2.1)=as:=by
 intro as e;obtain⟨bs,e1,e2⟩:=NG.mp e;subst e2;unfold storedH
 by_cases q:(atKey xs k).isSome=true
 ·rw[Nn q,Nn q,Qd,<- h bs e1]
  exact O6 λx _=>by show (putAt k u x).2.1=x.2.1;unfold putAt;split<;>rfl
 ·rw[Nr q,Nr q,Og,h bs e1];rfl
abbrev KT(H:Hp):List (List aI×V)->List (List aI×ZE×ZC)->Prop:=Paired λp q=>p.1=q.1/\(∃ ys,H q.2.1=some (.tup ys)/\ys.map lZ=p.1.map some)/\RelV p.2 q.2.2
def KT.val{H:Hp}{kvs:List (List aI×V)}{xs:List (List aI×ZE×ZC)}(r:KT H kvs xs)(k:List aI):RelO (bF kvs k) ((atKey xs k).map (·.2)):=by
 induction r with
 |nil=>exact True.intro
 |@cons p q ps qs h t ih =>
  obtain⟨h1,_,h2⟩:=h;by_cases e:p.1=k
  ·have e':q.1=k:=h1.symm.trans e
   have b:atKey (q::qs) k=some q.2:=by simp[atKey,Oq,e']
   rw[pX e,b];exact h2
  ·have e':¬ q.1=k:=λz=>e (h1.trans z)
   have b:atKey (q::qs) k=atKey qs k:=by simp[atKey,Oq,e']
   rw[nN e,b];exact ih
def KT.repl{H:Hp}{kvs:List (List aI×V)}{xs:List (List aI×ZE×ZC)}(r:KT H kvs xs)(k:List aI){y:V}{u:ZC}(ry:RelV y u) :
  KT H (kvs.map λkv=>if kv.1=k then(kv.1,y) else kv) (xs.map (putAt k u)):=by
 induction r with
 |nil=>exact .nil
 |@cons p q ps qs h t ih =>
  rw[NW,NW];refine .cons ?_ ih
  obtain⟨h1,h2,h3⟩:=h;unfold putAt;by_cases e:p.1=k
  ·rw[Nn e,Nn (h1.symm.trans e)];exact⟨h1,h2,ry⟩
  ·rw[Nr e,Nr (λz=>e (h1.trans z))];exact⟨h1,h2,h3⟩
def KT.put{H:Hp}{kvs:List (List aI×V)}{xs:List (List aI×ZE×ZC)}(r:KT H kvs xs)(k:List aI){b:ZE}{y:V}{u:ZC}(hb:KTup H b k)(ry:RelV y u) :
  KT H (bW kvs k y) (storedH xs k b u):=by
 have e:(kvs.any λkv=>decide (kv.1=k))=(atKey xs k).isSome:=by
  rw[pY,(r.val k).isSome_eq,Pj]
 unfold bW storedH;rw[e];by_cases q:(atKey xs k).isSome=true
 ·rw[Nn q,Nn q];exact r.repl k ry
 ·rw[Nr q,Nr q];exact Paired.snoc r ⟨rfl,hb,ry⟩
def KT.keeps{H H':Hp}{kvs:List (List aI×V)}{xs:List (List aI×ZE×ZC)}(r:KT H kvs xs)(ht:∀ b ys,H b=some (.tup ys)->H' b=some (.tup ys)):KT H' kvs xs :=(
 Paired.mapP r λ_ _ z=>⟨z.1,z.2.1.imp λ_ e=>⟨ht _ _ e.1,e.2⟩,z.2.2⟩)
section
variable{P:ZD}{w:ZF}{H:Hp}{h:Heap}{a:ZE}
def xS{u:HO}(ok:HOk P w H h)(e:Rd H a u):ObjOk P w H h a u:=(e.ok ok)
def jg{kvs:List (aI×V)}(ok:HOk P w H h)(e:Rd H a (.dK kvs)):kvs.length<=sizeLine/\(a == sysModules)=false/\∃ vs,KV kvs vs/\h.DictOf (fz P w) a vs :=(
 show ObjOk P w H h a (.dK kvs) from xS ok e)
def dk_of{kvs:List (aI×V)}(ok:HOk P w H h)(e:H a=some (.dK kvs)):kvs.length<=sizeLine/\(a == sysModules)=false/\∃ vs,KV kvs vs/\h.DictOf (fz P w) a vs:=(jg ok (.inl e))
def kL{ks:List aI}(ok:HOk P w H h)(e:KTup H a ks):(tupleKind (ig P w)).is h ks a:=by
 obtain⟨ys,e,ek⟩:=e;obtain⟨_,its,r,o,h1,h2,n,h3⟩:=(show ObjOk P w H h a (.tup ys) from ok a _ e)
 exact⟨o,its.toArray,n,h1,h2,h3,by simpa using xQ ek r⟩
def jX{xc:Option (List ZE)}{kvs:List (List aI×V)}(ok:HOk P w H h)(e:Rd H a (.dT xc kvs)):kvs.length<=sizeLine/\(a == sysModules)=false /\
  ∃ xs,KT H kvs xs/\(∀ as,xc=some as->xs.map (·.2.1)=as)/\DictE h (tupleKind (ig P w)) a xs xs.length:=by
 obtain⟨z,y,xs,r,o,es,ep,h1,h2,h3,h4,h5⟩:=(show ObjOk P w H h a (.dT xc kvs) from xS ok e)
 obtain⟨h5,h6,h7⟩:=h5;subst h6;refine⟨z,y,xs,r,h7,o,es,h1,h2,h3,h4,λx hx=>?_,h5⟩
 have all:∀ {l:List (List aI×V)} {m:List (List aI×ZE×ZC)},KT H l m->∀ x∈m,(tupleKind (ig P w)).is h x.1 x.2.1:=by
  intro l m q;induction q with
  |nil=>intro x hx;exact nomatch hx
  |@cons p q ps qs hq t ih =>
   intro x hx;rcases ND.mp hx with e|hx
   ·subst e
    exact kL ok (by rw[<- hq.1];exact hq.2.1)
   ·exact ih x hx
 exact all r x hx
def Fd{xc:Option (List ZE)}{kvs:List (List aI×V)}(ok:HOk P w H h)(e:H a=some (.dT xc kvs)):kvs.length<=sizeLine/\(a == sysModules)=false /\
  ∃ xs,KT H kvs xs/\(∀ as,xc=some as->xs.map (·.2.1)=as)/\DictE h (tupleKind (ig P w)) a xs xs.length:=(jX ok (.inl e))
end
def DGet(H:Hp)(a:ZE)(y:V)(r:Option V):Prop :=
 (∃ kvs k,Rd H a (.dK kvs)/\y=kV k/\r=bF kvs k)\/∃ xc kvs k b,Rd H a (.dT xc kvs)/\y=.ref b/\KTup H b k/\r=bF kvs k
def DPut(H:Hp)(a:ZE)(y v:V)(H':Hp):Prop :=
 (∃ kvs k,H a=some (.dK kvs)/\y=kV k/\kvs.length<sizeLine/\H'=upd H a (.dK (bW kvs k v))) \/
 ∃ xc kvs k b,H a=some (.dT xc kvs)/\y=.ref b/\KTup H b k/\kvs.length<sizeLine/\H'=upd H a (.dT (xR xc (kvs.any λkv=>decide (kv.1=k)) b) (bW kvs k v))
def DGet.k{H:Hp}{a:ZE}{kvs:List (aI×V)}{k:aI}(e:H a=some (.dK kvs)):DGet H a (kV k) (bF kvs k):=(.inl ⟨kvs,k,.inl e,rfl,rfl⟩)
def DGet.t{H:Hp}{a b:ZE}{kvs:List (List aI×V)}{k:List aI}{xc:Option (List ZE)}(e:H a=some (.dT xc kvs))(eb:KTup H b k):DGet H a (.ref b) (bF kvs k):=(.inr ⟨xc,kvs,k,b,.inl e,rfl,eb,rfl⟩)
def DPut.k{H:Hp}{a:ZE}{kvs:List (aI×V)}{k:aI}{v:V}(e:H a=some (.dK kvs))(hl:kvs.length<sizeLine):DPut H a (kV k) v (upd H a (.dK (bW kvs k v))):=(.inl ⟨kvs,k,e,rfl,hl,rfl⟩)
def DPut.t{H:Hp}{a b:ZE}{kvs:List (List aI×V)}{k:List aI}{v:V}(e:H a=some (.dT none kvs))(eb:KTup H b k)(hl:kvs.length<sizeLine) :
  DPut H a (.ref b) v (upd H a (.dT none (bW kvs k v))):=(.inr ⟨none,kvs,k,b,e,rfl,eb,hl,rfl⟩)
section
variable{X:Cx}{pins:List (ZE×Obj)}{σ:St}{H:Hp}{s:ZB}{a:ZE}{y v:V}{u r:ZC}{o:Option V}{A:ZG}{E:ZC->ZB->Prop}
def Inv.big(I:Inv X pins σ H s):sysModules<s.heap.objs.size:=by
 have h:mainGlobals<s.heap.objs.size:=(I.mod.glob.keeps I.bk).lt;exact Qe 'd' h
def Fe{Q:ZC->ZB->Prop}(hu:A.units+1<cLine)(I:Inv X pins σ H s)(g:DGet H a y (some v))(ry:RelV y u)(h:∀ w' s',Inv X pins σ H s'->RelV v w'->Q w' s') :
  wpAny (model X.prog X.w) A (getItem (.ref a) u) Q E s:=by
 rcases g with⟨kvs,k,e,ey,l⟩|⟨xc,kvs,k,b,e,ey,eb,l⟩
 ·subst ey
  obtain⟨z,hd,vs,rel,dd⟩:=jg I.hok e;obtain⟨w',hw,rw'⟩:=RelO.some_of (v:=v) (o:=valueAt vs k) (by rw[l];exact rel.val k)
  exact wpAny_getItem_of (jW ry) dd.mapOf hw (h w' _ (I.tok _) rw')
 ·subst ey
  cases (show u=Value.ref b from ry)
  obtain⟨z,hd,xs,rel,_,dd⟩:=jX I.hok e;replace dd:=dd.of
  obtain⟨w',hw,rw'⟩:=RelO.some_of (v:=v) (o:=(atKey xs k).map (·.2)) (by rw[l];exact rel.val k)
  obtain⟨p,hp,hp2⟩:=NG.mp hw;refine wpAny_getItem_heap (O1 hu) (kL I.hok eb) dd hp ?_
  rw[hp2];exact h w' _ (I.tok _) rw'
def tB{Q:ZC->ZB->Prop}(hu:A.units+1<cLine)(I:Inv X pins σ H s)(g:DGet H a y o)(ry:RelV y u)(h:∀ s',Inv X pins σ H s'->Q (.bool o.isSome) s') :
  wpAny (model X.prog X.w) A (compareOp .In u (.ref a)) Q E s:=by
 rcases g with⟨kvs,k,e,ey,l⟩|⟨xc,kvs,k,b,e,ey,eb,l⟩
 ·subst ey
  obtain⟨z,hd,vs,rel,dd⟩:=jg I.hok e;refine wpAny_in_of (jW ry) hd dd.mapOf ?_
  rw[<- (rel.val k).isSome_eq,<- l];exact h _ (I.tok _)
 ·subst ey
  cases (show u=Value.ref b from ry)
  obtain⟨z,hd,xs,rel,_,dd⟩:=jX I.hok e;replace dd:=dd.of
  refine wpAny_in_heap (O1 hu) (kL I.hok eb) hd dd ?_
  have q:=(rel.val k).isSome_eq;rw[Pj] at q;rw[<- q,<- l];exact h _ (I.tok _)
def Ff{Q:ZC->ZB->Prop}(hu:A.units+1<cLine)(I:Inv X pins σ H s)(g:DGet H a y o)(ry:RelV y u)(h:∀ s',Inv X pins σ H s'->Q (.bool (!o.isSome)) s') :
  wpAny (model X.prog X.w) A (compareOp .NotIn u (.ref a)) Q E s:=by
 rcases g with⟨kvs,k,e,ey,l⟩|⟨xc,kvs,k,b,e,ey,eb,l⟩
 ·subst ey
  obtain⟨z,hd,vs,rel,dd⟩:=jg I.hok e;refine wpAny_notIn_of (jW ry) hd dd.mapOf ?_
  rw[<- (rel.val k).isSome_eq,<- l];exact h _ (I.tok _)
 ·subst ey
  cases (show u=Value.ref b from ry)
  obtain⟨z,hd,xs,rel,_,dd⟩:=jX I.hok e;replace dd:=dd.of
  refine wpAny_notIn_heap (O1 hu) (kL I.hok eb) hd dd ?_
  have q:=(rel.val k).isSome_eq;rw[Pj] at q;rw[<- q,<- l];exact h _ (I.tok _)
def pZ{h':Heap}{t':Nat}{ob:HO}(I:Inv X pins σ H s)(mu:nA (H a))(hs:Heap.SameBut a s.heap h')(he:∃ q,h'.get? a=some q)(new:ObjOk X.prog X.w (upd H a ob) h' a ob) :
  Inv X pins σ (upd H a ob) { s with heap:=h',toks:=t' } :=(
 I.write (x:=a) (e:=a) mu (.inl rfl) (λb q hb z=>(hs.2 b hb).trans z) he new)
def tD{P:ZD}{w:ZF}{H':Hp}{h':Heap}{kvs:List (aI×V)}{vs:List (aI×ZC)}(z:kvs.length<=sizeLine)(hd:(a == sysModules)=false)(rel:KV kvs vs)(dd:h'.DictOf (fz P w) a vs) :
  ObjOk P w H' h' a (.dK kvs):=(⟨z,hd,vs,rel,dd⟩)
def Fg{H':Hp}{Q:Unit->ZB->Prop}(hu:A.units+1<cLine)(I:Inv X pins σ H s)(g:DPut H a y v H')(ry:RelV y u)(rv:RelV v r)(h:∀ s',Inv X pins σ H' s'->Q () s') :
  wpAny (model X.prog X.w) A (setItem (.ref a) u r) Q E s:=by
 rcases g with⟨kvs,k,e,ey,l,eH⟩|⟨xc,kvs,k,b,e,ey,eb,l,eH⟩
 ·subst ey eH
  obtain⟨z,hd,vs,rel,dd⟩:=dk_of I.hok e;have hz:vs.length<=sizeLine:=by rw[<- rel.length];exact z
  have hl:(bW kvs k v).length<=sizeLine:=by have:=xO kvs k v;lia
  refine wpAny_setItem_pairs (hsz:=hz) (jW ry) dd λh' dd' hs=>h _ ?_
  have he:∃ q,h'.get? a=some q:=let ⟨q,_,_,hq,_⟩:=dd';⟨q,hq⟩
  exact pZ I (by rw[e];exact True.intro) hs he (tD hl hd (rel.put k rv) dd')
 ·subst ey eH
  cases (show u=Value.ref b from ry)
  obtain⟨z,hd,xs,rel,ha,dd⟩:=Fd I.hok e;have hz:xs.length<=sizeLine:=by rw[<- Paired.length rel];exact z
  have hl:(bW kvs k v).length<=sizeLine:=by have:=xO kvs k v;lia
  have eo:(kvs.any λkv=>decide (kv.1=k))=(atKey xs k).isSome:=by rw[pY,(rel.val k).isSome_eq,Pj]
  refine tw (O1 hu) (kL I.hok eb) dd hz λh' dd' hs=>h _ ?_
  obtain⟨q,es,hq,h2,h3,h4,_,h5⟩:=dd';refine pZ I (by rw[e];exact True.intro) hs ⟨q,hq⟩ ⟨hl,hd,_,(rel.put k eb rv).keeps λc ys ec=>?_,q,es,_,hq,h2,h3,h4,h5,rfl,by rw[eo];exact Fc ha⟩
  rw[aZ (CL ec e (λz=>nomatch z))];exact ec
end
section
variable{X:Cx}{pins:List (ZE×Obj)}{σ:St}{H:Hp}{s:ZB}{a:ZE}{kvs:List (aI×V)}{k:aI}{u:ZC}{A:ZG}{E:ZC->ZB->Prop}
def Fi{v:V}{more:List ZC}{Q:ZC->ZB->Prop}(I:Inv X pins σ H s)(e:H a=some (.dK kvs))(ry:RelV (kV k) u)(l:bF kvs k=some v)(hm:more=[]\/∃ x,more=[x])
  (h:∀ w' s',Inv X pins σ (upd H a (.dK (je kvs k))) s'->RelV v w'->Q w' s'):wpAny (model X.prog X.w) A (call (.builtin "dict.pop") (.ref a::u::more)) Q E s:=by
 obtain⟨z,hd,vs,rel,dd⟩:=dk_of I.hok e;obtain⟨w',hw,rw'⟩:=RelO.some_of (v:=v) (o:=valueAt vs k) (by rw[<- l];exact rel.val k)
 have hp:(keyPart u).isSome=true:=by
  cases k with
  |inl i=>obtain⟨t,q⟩:=(show ∃ t,u=Value.int i t from ry);subst q;rfl
  |inr x=>obtain⟨t,q⟩:=(show ∃ t,u=Value.str x t from ry);subst q;rfl
 have ha:argsOk "dict.pop" ⟨.ref a::u::more,[]⟩:=by
  rcases hm with q|⟨x,q⟩
  ·subst q;exact PySem.F.args_dict_pop_2 _ _
  ·subst q;exact PySem.F.args_dict_pop_3 _ _ _
 refine PU Rf dd.typeIs PySem.F.entry_dict_pop ha (meets_dict_pop_there (fz X.prog X.w) a (jW ry) more hm hp)
  ⟨vs,w',dd,by rw[<- rel.length];exact z,hw,λh' dd' hs=>h w' _ ?_ rw'⟩
 have he:∃ q,h'.get? a=some q:=let ⟨q,_,_,hq,_⟩:=dd';⟨q,hq⟩
 exact pZ I (by rw[e];exact True.intro) hs he (tD (Np (xP kvs k) z) hd (rel.drop k) dd')
def Fj{Q:ZC->ZB->Prop}(I:Inv X pins σ H s)(e:Rd H a (.dK kvs))(h:∀ t s',Inv X pins σ H s'->Q (.int kvs.length t) s'):wpAny (model X.prog X.w) A (call (.builtin "len") [.ref a]) Q E s:=by
 obtain⟨z,hd,vs,rel,dd⟩:=jg I.hok e;refine call_len_dict hd dd (by rw[<- rel.length];rw[sizeLine_eq] at z;lia) ?_
 rw[<- rel.length];exact h _ _ (I.tok _)
end
def nO(i:Expr):Prop:=∀ ov iv,subscripted i false ov iv=operate [ov,iv] (getItem ov iv)
def Fk {prog:ZD} {w:ZF} {A:ZG} {E:ZC->ZB->Prop} {s:ZB} {env:Env} {value slice:Expr} {pos:Pos} {T id:String} {Q:ZC->ZB->Prop}
  (hl:typeLookup (.type T) "__getitem__"=pure (some (.builtin id))) (hs:nO slice)
  (h:wpAny (model prog w) A (eval value env) (λo s₁=>wpAny (model prog w) A (eval slice env) (λi s₂=>s₂.TypeIs o T/\wpAny (model prog w) A (getItem o i) Q E s₂) E s₁) E s) :
  wpAny (model prog w) A (eval (.Subscript value slice pos) env) Q E s:=by
 refine Subscript_ (Oc h (λo s₁ h₁=>Oc h₁ (λi s₂ h₂=>?_) λ_ _ x=>x) λ_ _ x=>x)
 obtain⟨hT,h₂⟩:=h₂;unfold subscriptTail;refine Nj ?_
 rw[getitemInPython_of_ne hT.not_modules];refine Nj (Rc hT hl ?_)
 have fin:wpAny (model prog w) A (subscripted slice false o i) (λr s₃=>wpAny (model prog w) A (letTemporaryGo value o r >>= λ_=>pure r) Q E s₃) E s₂:=by
  rw[hs o i];exact wpAny_operating (Oc h₂ (λr s₃ h₃=>Nj (wpAny_letTemporaryGo (Nu h₃))) λ_ _ x=>x)
 first
  |exact Nu (Nj fin)
  |exact Nj (Nu (Nj fin))
  |exact Nj fin
def Fl{X:Cx}{pins:List (ZE×Obj)}{σ:St}{H:Hp}{s:ZB}{a:ZE}{y:V}{o:Option V}(I:Inv X pins σ H s)(g:DGet H a y o):s.TypeIs (.ref a) "dict" := by
 rcases g with⟨kvs,k,e,_,_⟩|⟨xc,kvs,k,b,e,_,_,_⟩
 ·obtain⟨_,_,vs,_,dd⟩:=jg I.hok e
  exact dd.typeIs
 ·obtain⟨_,_,xs,_,_,dd⟩:=jX I.hok e
  replace dd:=dd.of
  exact dd.typeIs
def Fm(td ty:TE):TE:=λσ H Q=>td σ H λx H1=>ty σ H1 λy H2=>∃ a v,x=.ref a/\DGet H2 a y (some v)/\Q v H2
def Fo(td ty tv:TE):TS:=λD σ H=>tv σ H λv H1=>td σ H1 λx H2=>ty σ H2 λy H3=>∃ a H4,x=.ref a/\DPut H3 a y v H4/\D.nx σ H4
section
variable{X:Cx}{o i e value:Expr}{pos pos' tpos:Pos}{td ty tv:TE}
def Fp(hu:X.A.units+1<cLine)(ho:PE X o td)(hi:PE X i ty)(hs:nO i):PE X (.Subscript o i pos) (Fm td ty):=by
 intro pins s σ H Q I h;refine Fk PySem.F.slot_dict_getitem.lookup hs (thn (ho pins s σ H _ I h) λu s1 ⟨x,H1,I1,rx,q1⟩=>thn (hi pins s1 σ H1 _ I1 q1) λiv s2 Zz=>?_);obtain⟨y,H2,I2,ry,a,v,ex,g,q2⟩:=Zz
 subst ex;obtain rfl:u=Value.ref a:=rx
 exact⟨Fl I2 g,Fe hu I2 g ry λw' s3 I3 rw'=>⟨v,H2,I3,rw',q2⟩⟩
def Fq(hu:X.A.units+1<cLine)(ho:PE X o td)(hi:PE X i ty)(hv:PE X value tv)(hs:swapsWith value (some (.Subscript o i pos')) pos.line X.env=pure false) :
  PS X (.Assign [.Subscript o i pos'] value pos) (Fo td ty tv):=by
 intro pins s σ H D I h;refine wpAny_Assign_Subscript (thn (hv pins s σ H _ I h) λr s1 ⟨v,H1,I1,rv,q1⟩=>thn (ho pins s1 σ H1 _ I1 q1) λu s2 ⟨x,H2,I2,rx,q2⟩=>thn (hi pins s2 σ H2 _ I2 q2) λiv s3 Zz=>?_) hs;obtain⟨y,H3,I3,ry,a,H4,ex,g,q3⟩:=Zz
 subst ex;obtain rfl:u=Value.ref a:=rx
 exact Fg hu I3 g ry rv λs4 I4=>⟨σ,H4,I4,q3⟩
end
def Fs{P:ZD}{w:ZF}{H:Hp}(h:Heap)(hb:sysModules<h.objs.size):ObjOk P w H (h.push { cls:=.type "dict",data:=.dict #[] }) h.objs.size (.dK []) :=(
 ⟨NU _,beq_eq_false_iff_ne.mpr (Ne.symm (NX hb)),[],.nil,Heap.DictOf.new h⟩)
def Ft{P:ZD}{w:ZF}{H:Hp}{xc:Option (List ZE)}(hx:xc=none\/xc=some [])(h:Heap)(hb:sysModules<h.objs.size):ObjOk P w H (h.push { cls:=.type "dict",data:=.dict #[] }) h.objs.size (.dT xc []) :=(
 ⟨NU _,beq_eq_false_iff_ne.mpr (Ne.symm (NX hb)),[],.nil,_,#[],0,NC _ rfl,⟨rfl,rfl,rfl⟩,rfl,rfl,Pl,rfl,λas e=>by
  rcases hx with rfl|rfl
  ·cases e
  ·injection e⟩)
def Fu:TE:=λ_ H Q=>∀ p,H p=none->Q (.ref p) (upd H p (.dK []))
def Fv:TE:=λ_ H Q=>∀ p,H p=none->Q (.ref p) (upd H p (.dT none []))
section
variable{X:Cx}{pos:Pos}
def Fw:PE X (.Dict [] [] pos) Fu:=(λpins s σ H Q I h =>
 wpAny_Dict_empty ⟨.ref s.heap.objs.size,_,I.laid (a:=s.heap.objs.size) (o:=.dK []) (t':=s.toks) (λ_ _ q=>Nq _ q) (Nk _) (Fs s.heap I.big),rfl,h _ (I.hok.fresh (Nk _))⟩)
def Fx:PE X (.Dict [] [] pos) Fv:=(λpins s σ H Q I h =>
 wpAny_Dict_empty ⟨.ref s.heap.objs.size,_,I.laid (a:=s.heap.objs.size) (o:=.dT none []) (t':=s.toks) (λ_ _ q=>Nq _ q) (Nk _) (Ft (.inl rfl) s.heap I.big),rfl,h _ (I.hok.fresh (Nk _))⟩)
end
structure M1(X:Cx)(o:Expr)(m:Str)(apos:Pos)(e:Expr)(cpos:Pos):Prop where
 base:attributeBase o m X.env (eval o X.env)=eval o X.env
 few:((backTo cpos (starEach [e] X.env)).all (λx=>!x.1) && (backToKw cpos (keywordEach [] X.env)).all (λx=>x.1.isSome)
  && decide (([e]:List Expr).length+([]:List Keyword).length+(if ([]:List Keyword).isEmpty then 0 else 1)<30))=true
 line:(apos.endLine==cpos.line)=true
 trees:backTo cpos (starEach [e] X.env)=[(false,eval e X.env)]
structure M2(X:Cx)(o:Expr)(m:Str)(apos:Pos)(e f:Expr)(cpos:Pos):Prop where
 base:attributeBase o m X.env (eval o X.env)=eval o X.env
 few:((backTo cpos (starEach [e,f] X.env)).all (λx=>!x.1) && (backToKw cpos (keywordEach [] X.env)).all (λx=>x.1.isSome)
  && decide (([e,f]:List Expr).length+([]:List Keyword).length+(if ([]:List Keyword).isEmpty then 0 else 1)<30))=true
 line:(apos.endLine==cpos.line)=true
 trees:backTo cpos (starEach [e,f] X.env)=[(false,eval e X.env),(false,eval f X.env)]
def nP(H:Hp)(a:ZE):Prop:=(∃ kvs,Rd H a (.dK kvs))\/∃ xc kvs,Rd H a (.dT xc kvs)
def tF{X:Cx}{pins:List (ZE×Obj)}{σ:St}{H:Hp}{s:ZB}{a:ZE}(I:Inv X pins σ H s)(d:nP H a) :
  s.TypeIs (.ref a) "dict" /\ (∀ b,Value.ref a=.ref b->∃ ob,s.heap.get? b=some ob/\ob.dict=none)/\(a == sysModules)=false:=by
 rcases d with⟨kvs,e⟩|⟨xc,kvs,e⟩
 ·obtain⟨_,hd,vs,_,dd⟩:=jg I.hok e
  refine⟨dd.typeIs,λb q=>?_,hd⟩
  cases q
  obtain⟨ob,_,_,h1,h2,_⟩:=dd;exact⟨ob,h1,h2.2.1⟩
 ·obtain⟨_,hd,xs,_,_,dd⟩:=jX I.hok e
  replace dd:=dd.of
  refine⟨dd.typeIs,λb q=>?_,hd⟩
  cases q
  obtain⟨ob,_,_,h1,h2,_⟩:=dd;exact⟨ob,h1,h2.2.1⟩
section
variable{X:Cx}{pins:List (ZE×Obj)}{σ:St}{H:Hp}{s:ZB}{a:ZE}{y d:V}{u r:ZC}{o:Option V}{A:ZG}{E:ZC->ZB->Prop}
def Fy{Q:ZC->ZB->Prop}(hu:A.units+1<cLine)(I:Inv X pins σ H s)(g:DGet H a y o)(ry:RelV y u)(h:∀ w' s',Inv X pins σ H s'->RelV (o.getD .non) w'->Q w' s') :
  wpAny (model X.prog X.w) A (call (.builtin "dict.get") [.ref a,u]) Q E s:=by
 rcases g with⟨kvs,k,e,ey,l⟩|⟨xc,kvs,k,b,e,ey,eb,l⟩
 ·subst ey
  obtain⟨z,hd,vs,rel,dd⟩:=jg I.hok e;refine PU OH dd.typeIs Pd (QF _ _) (meets_dict_get (fz X.prog X.w) a (jW ry) hd) ⟨_,dd.mapOf,h _ _ (I.tok _) ?_⟩
  rw[l];exact(rel.val k).getD rfl
 ·subst ey
  cases (show u=Value.ref b from ry)
  obtain⟨z,hd,xs,rel,_,dd⟩:=jX I.hok e;replace dd:=dd.of
  refine PU OH dd.typeIs Pd (QF _ _) (meetsH_dict_get (tupleKind (ig X.prog X.w)) a b hd) ⟨O1 hu,k,xs,kL I.hok eb,dd,h _ _ (I.tok _) ?_⟩
  rw[l];exact(rel.val k).getD rfl
def Fz{Q:ZC->ZB->Prop}(hu:A.units+1<cLine)(I:Inv X pins σ H s)(g:DGet H a y o)(ry:RelV y u)(rd:RelV d r)(h:∀ w' s',Inv X pins σ H s'->RelV (o.getD d) w'->Q w' s') :
  wpAny (model X.prog X.w) A (call (.builtin "dict.get") [.ref a,u,r]) Q E s:=by
 rcases g with⟨kvs,k,e,ey,l⟩|⟨xc,kvs,k,b,e,ey,eb,l⟩
 ·subst ey
  obtain⟨z,hd,vs,rel,dd⟩:=jg I.hok e;refine PU OH dd.typeIs Pd (QG _ _ _) (meets_dict_get_default (fz X.prog X.w) a (jW ry) hd r) ⟨_,dd.mapOf,h _ _ (I.tok _) ?_⟩
  rw[l];exact(rel.val k).getD rd
 ·subst ey
  cases (show u=Value.ref b from ry)
  obtain⟨z,hd,xs,rel,_,dd⟩:=jX I.hok e;replace dd:=dd.of
  refine PU OH dd.typeIs Pd (QG _ _ _) (meetsH_dict_get_default (tupleKind (ig X.prog X.w)) a b hd r) ⟨O1 hu,k,xs,kL I.hok eb,dd,h _ _ (I.tok _) ?_⟩
  rw[l];exact(rel.val k).getD rd
end
def FC(td ty:TE):TE:=λσ H Q=>td σ H λx H1=>∃ a,x=.ref a/\nP H1 a/\ty σ H1 λy H2=>∃ o,DGet H2 a y o/\Q (o.getD .non) H2
def FD(td ty tx:TE):TE:=λσ H Q=>td σ H λx H1=>∃ a,x=.ref a/\nP H1 a/\ty σ H1 λy H2=>tx σ H2 λz H3=>∃ o,DGet H3 a y o/\Q (o.getD z) H3
def FE(td ty:TE):TE:=λσ H Q=>td σ H λx H1=>∃ a,x=.ref a/\nP H1 a/\ty σ H1 λy H2=>∃ kvs k v,H2 a=some (.dK kvs)/\y=kV k/\bF kvs k=some v/\Q v (upd H2 a (.dK (je kvs k)))
section
variable{X:Cx}{o e f:Expr}{apos cpos:Pos}{td ty tx:TE}
def FG (hu:X.A.units+1<cLine) (ho:PE X o td) (he:PE X e ty) (m:M1 X o "get" apos e cpos):PE X (.Call (.Attribute o "get" apos) [e] [] cpos) (FC td ty):=by
 intro pins s σ H Q I h;refine Qz m.base m.few m.line O8 OH Rg (thn (ho pins s σ H _ I h) λu s1 Zz=>?_);obtain⟨x,H1,I1,rx,a,ex,d,q1⟩:=Zz
 subst ex;obtain rfl:u=Value.ref a:=rx
 obtain⟨t1,t2,_⟩:=tF I1 d;refine⟨t1,t2,?_⟩
 rw[m.trees];refine OW rfl (O4 (Pb (thn (he pins s1 σ H1 _ I1 q1) λiv s2 ⟨y,H2,I2,ry,ov,g,q2⟩=>PH ?_)))
 exact Fy hu I2 g ry λw' s3 I3 rw'=>⟨_,H2,I3,rw',q2⟩
def FH (hu:X.A.units+1<cLine) (ho:PE X o td) (he:PE X e ty) (hf:PE X f tx) (m:M2 X o "get" apos e f cpos):PE X (.Call (.Attribute o "get" apos) [e,f] [] cpos) (FD td ty tx):=by
 intro pins s σ H Q I h;refine Qz m.base m.few m.line O8 OH Rg (thn (ho pins s σ H _ I h) λu s1 Zz=>?_);obtain⟨x,H1,I1,rx,a,ex,d,q1⟩:=Zz
 subst ex;obtain rfl:u=Value.ref a:=rx
 obtain⟨t1,t2,_⟩:=tF I1 d;refine⟨t1,t2,?_⟩
 rw[m.trees];refine OW rfl (O4 (Pb (thn (he pins s1 σ H1 _ I1 q1) λiv s2 ⟨y,H2,I2,ry,q2⟩ =>
  Pb (thn (hf pins s2 σ H2 _ I2 q2) λfv s3 ⟨z,H3,I3,rz,ov,g,q3⟩=>PH ?_))))
 exact Fz hu I3 g ry rz λw' s4 I4 rw'=>⟨_,H3,I4,rw',q3⟩
def FI (ho:PE X o td) (he:PE X e ty) (m:M1 X o "pop" apos e cpos):PE X (.Call (.Attribute o "pop" apos) [e] [] cpos) (FE td ty):=by
 intro pins s σ H Q I h;refine Qz m.base m.few m.line O8 Rf PySem.F.type_dict_pop (thn (ho pins s σ H _ I h) λu s1 Zz=>?_);obtain⟨x,H1,I1,rx,a,ex,d,q1⟩:=Zz
 subst ex;obtain rfl:u=Value.ref a:=rx
 obtain⟨t1,t2,_⟩:=tF I1 d;refine⟨t1,t2,?_⟩
 rw[m.trees];refine OW rfl (O4 (Pb (thn (he pins s1 σ H1 _ I1 q1) λiv s2 ⟨y,H2,I2,ry,kvs,k,v,ea,ey,l,q2⟩=>PH ?_)))
 subst ey;exact Fi I2 ea ry l (.inl rfl) λw' s3 I3 rw'=>⟨v,_,I3,rw',q2⟩
end
section
variable{X:Cx}{pins:List (ZE×Obj)}{σ:St}{H:Hp}{s:ZB}{a:ZE}{kvs:List (aI×V)}{A:ZG}{E:ZC->ZB->Prop}
end
section
variable{X:Cx}{pins:List (ZE×Obj)}{σ:St}{H:Hp}{s:ZB}{a:ZE}{y:V}{u:ZC}{A:ZG}{E:ZC->ZB->Prop}
end
end L2
namespace Att
open PySem PySem.W PySem.Calls PyProof.Rows
def FJ{P:Params}{h:Heap}:∀ (ns:List Int) (vs:List ZC),WellAll P h vs (ns.map WData.int)->IntsAre vs ns:=by
 intro ns;induction ns with
 |nil =>
  intro vs w;rw[QX] at w
  cases w
  exact .nil
 |cons n ns ih =>
  intro vs w;rw[NW] at w
  cases w with
  |cons a b =>
   cases a
   exact .cons _ _ (ih _ b)
def FK{l:OpenLaw}{n:Nat}(hn:l.most=some n){P:Params}{h:Heap}{args:List WData}{vals:List ZC}
  (hpre:l.row.toRowW.claim.pre args=true)(hwl:WellAll P h vals args) :
  ∃ a vs ns,vals=[Value.ref a]/\args=[WData.list (ns.map WData.int)]/\h.get? a=some { cls:=.type "list",data:=.seq vs.toArray }/\IntsAre vs ns/\ns.length<=n:=by
 have hsh:WShape.hasAll [] args [.list .int]=true:=(pre_splitW hpre).1;have hc:l.pre.holds [] { args:=args }=true:=(pre_splitW hpre).2;obtain⟨d,r,rfl,h1,h2⟩:=hasAllW_cons hsh;obtain rfl:=hasAllW_nil h2;obtain⟨xs,rfl,h3⟩:=hasW_list h1;obtain⟨ns,rfl⟩:=items_int h3;have hlen:ns.length<=n:=by
  unfold OpenLaw.pre at hc;have h4:(WTm.not (.lt (.lit (.int (n:Int))) (.len (.arg 0)))).holds [] { args:=[.list (ns.map .int)] }=true:=by
   have h4:=(holds_andW hc).1;rw[hn] at h4;exact h4
  have h5:=condW_of h4 (w_not (w_lt w_lit (w_len_list (w_arg rfl))));rw[Nw] at h5;refine QH λq=>?_
  have q':(n:Int)<((ns.length:Nat):Int):=by lia
  first
   |(rw[NO q'] at h5;exact absurd h5 'd')
   |(simp at h5;lia)
 cases hwl with
 |cons w1 w2 =>
  cases w2
  cases w1 with
  |list ho hall=>exact⟨_,_,ns,rfl,rfl,ho,FJ ns _ hall,hlen⟩
def FL(l:OpenLaw)(args:List WData):l.row.toRowW.claim.post args (.bool true) args=true :=(
 postW_of (r:=l.row.toRowW) (X:=(true == true))
  (show WShape.has [] (.bool true) .bool=true by first|rfl|decide|simp[WShape.has,WShape.arms,WShape.armsAll])
  (show (WTm.eq .res (.lit (.bool true))).value [] { args:=args,res:=some (.bool true),after:=args }=some (.bool (true == true)) from w_eq_bool (w_res rfl) w_lit) rfl)
def attach_call {l:OpenLaw} {n:Nat} {q:ZD} {loose:List Str} {XP:(Str->Option ZC)->Heap->Prop} {YP:ZF->Heap->Prop} {d:DefRec}
  (hn:l.most=some n) (hdf:d.params.defaults=[])
  (call:∀ (w:ZF) (s₀ s₁:ZB) (mg mb:Str->Option ZC) (fa:ZE) (o:Obj) (pm cd doc:ZC) (a:ZE) (vs:List ZC) (ns:List Int),
   Ground q loose [] XP w s₀ mg mb s₁.heap->YP w s₁.heap ->
   s₁.heap.get? fa=some o->o.data=.func (docDef d.name d.params d.body d.scope pm cd doc)->s₁.heap.CodeRec cd d.name->mg d.name=some (.ref fa) ->
   s₁.heap.get? a=some { cls:=.type "list",data:=.seq vs.toArray }->IntsAre vs ns->ns.length<=n->s₁.gens=#[] ->
   codeAny (model l.prog w) callerA (.call (.ref fa) ⟨[.ref a],[]⟩) (λr s'=>r=.ok (.ret (.bool true))/\OldK s₁.heap s'.heap/\s'.os=s₁.os/\AllBare s'.gens) s₁) :
  WalkO q loose XP YP l.row.toRowW d [] (λf vs=>PySem.call f vs):=by
 intro w s₀ s₁ mg mb G Y fa o pm cd doc dV kV ho hd hcd hD hmg hg args vals as hpre hlay hrd hwl hlo;obtain rfl:dV=.none:=Dflts.none hD hdf;obtain rfl:kV=.none:=Dflts.noKw hD;obtain⟨a,vs,ns,rfl,rfl,hobj,hints,hlen⟩:=FK hn hpre hwl;refine enter_call (Q7 (call w s₀ s₁ mg mb fa o pm cd doc a vs ns G Y ho (fd_plain hd) hcd hmg hobj hints hlen hg) λr s' hq=>?_)
 obtain⟨rfl,h2,h3,h4⟩:=hq;exact⟨.inl ⟨.bool true,.bool true,[],rfl,λ_=>rfl,.bool true,FL l _,λ_=>⟨List.Pairwise.nil,λ_ hm=>(nomatch hm)⟩⟩,h2,h3,h4⟩
section
variable{prog:ZD}{w:ZF}{A:ZG}{E:ZC->ZB->Prop}{s:ZB}{K:Frag}
end
end Att
namespace L2
open PySem PySem.Spec PyProof.Rows
theorem xT:∀ {vs:List ZC} {ns:List Int},IntsAre vs ns->Vals (ns.map V.int) vs
 |_,_,.nil=>.nil
 |_,_,.cons n t h=>.cons ⟨t,rfl⟩ (xT h)
def kM(H:Hp):Prop:=∀ b,H b=none\/∃ o xs,H b=some (.frz o (.lst xs))
def FN {P:ZD} {w:ZF} {K:ZA} {mg mb:Str->Option ZC} {CX:fB} {k:Nat} {fa a:ZE} {fd:FuncData} {x:Str} {sp:Sp} {s₁:ZB} {vs:List ZC} {ns:List Int}
  (KX:K.In s₁.heap) (hns:s₁.heap.Ns mainGlobals mg) (hb:s₁.heap.Ns builtinsNs mb) (hbb:∀ x:Str,x ≠ "__name__" -> mb x=bootBuiltins x) (hlim:s₁.heap.NoLimit) (hg:s₁.gens=#[])
  (ha:s₁.heap.get? a=some { cls:=.type "list",data:=.seq vs.toArray }) (hi:IntsAre vs ns) (hl:ns.length<=sizeLine) (hr:Room k callerA)
  (F:∀ base:Heap,K.In base->base.Ns mainGlobals mg->FnOk P w K mg base CX k fa fd [x] sp) (hbind:∀ (s:ZB) (u:ZC),BindsTo s fd ⟨[u],[]⟩ [(x,u)])
  (hsp:∀ H:Hp,kM H->SqL K H a (ns.map V.int)->sp [.ref a] H (λv _=>v=.bl true) λ_ _ _=>False)
  (hCX:∀ H e s',CX [] H s₁ (λ_ _ _=>False) e s'->False) :
  codeAny (model P w) callerA (.call (.ref fa) ⟨[.ref a],[]⟩) (λr s'=>r=.ok (.ret (.bool true))/\OldK s₁.heap s'.heap/\s'.os=s₁.os/\AllBare s'.gens) s₁:=by
 have rv:=xT hi;have lenV:=hi.length;have core:∀ H:Hp,kM H->SqL K H a (ns.map V.int)->HOk P w H s₁.heap->(∀ b,H b≠none->b=a)->(H a≠none->K.lookup a=none) ->
   codeAny (model P w) callerA (.call (.ref fa) ⟨[.ref a],[]⟩) (λr s'=>r=.ok (.ret (.bool true))/\OldK s₁.heap s'.heap/\s'.os=s₁.os/\AllBare s'.gens) s₁:=by
  intro H hO hS hok hA hK;have base_of:∀ {b:ZE} {o:Obj},s₁.heap.get? b=some o->H b=none->(d6 s₁.heap H).get? b=some o:=λe n=>CN e n
  have noA:∀ {b:ZE} {o:Obj} {es:Array DictEntry} {ep:Nat},s₁.heap.get? b=some o->o.data=.dict es ep->H b=none:=λ{b o es ep} e d=>by
   cases q:H b with
   |none=>rfl
   |some u =>
    have e':b=a:=hA b (by rw[q];simp)
    subst e'
    rw[ha] at e;cases e
    have d':Data.seq vs.toArray _=Data.dict es ep:=d
    cases d'
  have nsK:∀ {b:ZE} {m:Str->Option ZC},s₁.heap.Ns b m->(d6 s₁.heap H).Ns b m:=λ{b m} ⟨o,es,ep,e,d,r⟩=>⟨o,es,ep,base_of e (noA e d),d,r⟩
  have hKb:K.In (d6 s₁.heap H):=λb o e=>base_of (KX b o e) (by
   cases q:H b with
   |none=>rfl
   |some u =>
    have e':b=a:=hA b (by rw[q];simp)
    subst e'
    rw[hK (by rw[q];simp)] at e;cases e)
  have hM:Mod K mg (d6 s₁.heap H):=⟨hKb,nsK hns,⟨mb,nsK hb,hbb⟩,let ⟨mc,h1,h2⟩:=hlim;⟨mc,nsK h1,h2⟩⟩
  have e0:Env0 P w K mg (d6 s₁.heap H) callerA [] s₁ H:=⟨rfl,hM,λb o e=>CO e,QT (CM _ _),trivial,λb hb=>absurd (show b∈([]:List ZE) from hb) 's',hok,.of_eq hg⟩
  refine Q7 ((F _ hKb (nsK hns)).run callerA [] s₁ H ⟨[.ref a],[]⟩ [.ref a] [.ref a] _ _ hr e0 (hbind s₁ (.ref a)) (.cons rfl .nil) (hsp H hO hS)) λr s' h=>?_
  cases r with
  |error e=>exact(hCX H e s' h).elim
  |ok fl =>
   cases fl with
   |next=>exact False.elim h
   |brk=>exact False.elim h
   |cont=>exact False.elim h
   |ret u =>
    obtain⟨v,H',os,bare,un,hok',r',q⟩:=h;have q':v=.bl true:=q;subst q'
    obtain rfl:u=Value.bool true:=r';refine⟨rfl,OldK.of_keep λb o e=>?_,os,bare⟩
    cases q:H b with
    |none=>exact un.keep b o e q (by intro z;exact absurd (show b∈([]:List ZE) from z) 's') 's'
    |some u =>
     rcases hO b with z|⟨ob,xs,z⟩
     ·rw[q] at z;cases z
     ·have z2:=un.frzs b ob _ z
      obtain⟨e1,_⟩:=hok b _ z;obtain⟨e2,_⟩:=hok' b _ z2;rw[e] at e1;cases e1
      exact e2
 cases hk:K.lookup a with
 |some o =>
  have e:=KX a o hk;rw[ha] at e
  cases e
  refine core (λ_=>none) (λ_=>.inl rfl) (.inr ⟨_,vs.toArray,_,hk,rfl,rfl,rfl,by rw[NB,lenV];exact hl,by simpa using rv⟩) (λb u z=>by have z':(none:Option HO)=some u:=z;cases z') (λb z=>absurd rfl z) λz=>absurd rfl z
 |none =>
  refine core (λb=>if b=a then some (.frz { cls:=.type "list",data:=.seq vs.toArray } (.lst (ns.map V.int))) else none) (λb=>?_) (.inl (.inr ⟨{ cls:=.type "list",data:=.seq vs.toArray },Nn rfl⟩)) (λb u z=>?_) (λb z=>?_) λ_=>hk
  ·by_cases hb:b=a
   ·exact .inr ⟨_,_,Nn hb⟩
   ·exact .inl (Nr hb)
  ·by_cases hb:b=a
   ·have z':=(Nn hb).symm.trans z
    cases z'
    subst hb;exact⟨ha,by rw[Nw];exact hl,vs,_,rv,ha⟩
   ·have z':=(Nr hb).symm.trans z
    cases z'
  ·by_cases hb:b=a
   ·exact hb
   ·exact absurd (Nr hb) z
def walk_of{l:PySem.W.OpenLaw}{n k:Nat}{q:ZD}{loose:List Str}{XP:(Str->Option ZC)->Heap->Prop}{YP:ZF->Heap->Prop}{d:DefRec}{K:Params->ZA}{CX:ZF->fB}{sp:ZF->Sp}{x:Str}
  (hn:l.most=some n)(hn2:n<=sizeLine)(hdf:d.params.defaults=[])(hr:Room k callerA)
  (hY:∀ (w:ZF) (h:Heap),YP w h->(K w.params).In h)
  (F:∀ (w:ZF) (mg:Str->Option ZC) (fa:ZE) (h:Heap),(K w.params).In h->h.Ns mainGlobals mg->mg d.name=some (.ref fa) ->
   ∃ fd:FuncData,(∀ (s:ZB) (u:ZC),BindsTo s fd ⟨[u],[]⟩ [(x,u)]) /\
    ∀ base:Heap,(K w.params).In base->base.Ns mainGlobals mg->FnOk l.prog w (K w.params) mg base (CX w) k fa fd [x] (sp w))
  (hsp:∀ (w:ZF) (H:Hp) (a:ZE) (ns:List Int),ns.length<=n->kM H->SqL (K w.params) H a (ns.map V.int)->sp w [.ref a] H (λv _=>v=.bl true) λ_ _ _=>False)
  (hCX:∀ (w:ZF) (H:Hp) (s:ZB) (e:ZC) (s':ZB),CX w [] H s (λ_ _ _=>False) e s'->False) :
  PySem.W.WalkO q loose XP YP l.row.toRowW d [] (λf vs=>PySem.call f vs):=by
 refine Att.attach_call hn hdf λw s₀ s₁ mg mb fa o pm cd doc a vs ns G Y ho hd hcd hmg hobj hints hlen hg=>?_
 have KX:=hY w _ Y;obtain⟨fd,hb,hF⟩:=F w mg fa _ KX G.T.g hmg;exact FN KX G.T.g G.T.b G.T.builtins G.T.nolimit hg hobj hints (Np hlen hn2) hr hF hb (λH hO hS=>hsp w H a ns hlen hO hS) λH e s'=>hCX w H s₁ e s'
def b9(s:Stmt)(j:Nat):Stmt:=match s with
 |.ClassDef _ _ _ body _ _ _ _ _ _ _=>body.getD j (.Pass ⟨0,0,0,0⟩)
 |_=>.Pass ⟨0,0,0,0⟩
def kN(s:Stmt):Arguments:=match s with
 |.FunctionDef _ a _ _ _ _ _ _ _ _=>a
 |_=>{ posonlyargs:=[],args:=[],vararg:=none,kwonlyargs:=[],kw_defaults:=[],kwarg:=none,defaults:=[] }
def iS(s:Stmt):List Stmt:=match s with
 |.FunctionDef _ _ b _ _ _ _ _ _ _=>b
 |_=>[]
def bK(s:Stmt):Scope:=match s with
 |.FunctionDef _ _ _ _ _ _ sc _ _ _=>sc
 |_=>{ kind:=.function,names:=[],isGenerator:=false,isCoroutine:=false }
abbrev E0:XK:=λ_ _ _=>False
structure Fun(K:ZA)(x qual:Str)(st:Stmt)(f:ZE)(fd:FuncData):Prop where
 ex:∃ (oc:ZC) (od:Option ZE) (kV doc pm:ZC) (an:Option ZE) (cdv ct:ZC) (osl:Array (Option ZC)),
  fd=PySem.W.fnOf x qual (kN st) (iS st) (bK st) .none kV doc pm an cdv ct/\K.lookup f=some ⟨oc,od,.func fd,osl⟩/\PySem.W.codeIn K cdv qual=true
 kp:PySem.W.keepIn K (.ref f)=true
section
variable{P:ZD}{w:ZF}{K:ZA}{mg:Str->Option ZC}{base:Heap}
def Fun.binds{x qual:Str}{st:Stmt}{f:ZE}{fd:FuncData}{ps:List Str}(F:Fun K x qual st f fd)
  (h:∀ (kV doc pm:ZC) (an:Option ZE) (cdv ct:ZC) (us:List ZC),us.length=ps.length->bindArgs (PySem.W.fnOf x qual (kN st) (iS st) (bK st) .none kV doc pm an cdv ct) ⟨us,[]⟩=pure (ps.zip us)):Binds K fd ps []:=by
 obtain⟨oc,od,kV,doc,pm,an,cdv,ct,osl,rfl,lk,hcd⟩:=F.ex;exact .all (h kV doc pm an cdv ct)
def xU{x qual:Str}{st:Stmt}{f:ZE}{oc:ZC}{od an:Option ZE}{osl:Array (Option ZC)}{kV doc pm cdv ct:ZC}(l:K.lookup f=some ⟨oc,od,.func (PySem.W.fnOf x qual (kN st) (iS st) (bK st) .none kV doc pm an cdv ct),osl⟩)
  (c:PySem.W.codeIn K cdv qual=true)(k:PySem.W.keepIn K (.ref f)=true):Fun K x qual st f (PySem.W.fnOf x qual (kN st) (iS st) (bK st) .none kV doc pm an cdv ct):=(⟨⟨oc,od,kV,doc,pm,an,cdv,ct,osl,rfl,l,c⟩,k⟩)
end
section
variable{X:Cx}
def pv (i:Nat) {x:Str} {pos:Pos} (hN:‹X.N[i]?=some x›) (hv:nB X.env.scope x:=by first|exact Or.inl rfl|exact Or.inr (Or.inl rfl)|exact Or.inr (Or.inr rfl)) (hd:(x==("__debug__":Str))=false:=by decide)
  (hcd:(x == ("__classdict__" : Str))=false:=by decide):PE X (.Name x pos) (nC i):=(CQ hN hv hd hcd)
def FO:CallR X (.builtin "len") (λxs H Q=>∃ a kvs,xs=[V.ref a]/\H a=some (.dK kvs)/\Q (.int kvs.length) H):=by
 intro pins s σ H xs us Q I r h;obtain⟨a,kvs,rfl,ha,q⟩:=h;obtain⟨u,rfl,ru⟩:=jd r
 cases ru
 exact Fj I (.inl ha) λt s' I'=>⟨.int kvs.length,H,I',⟨t,rfl⟩,q⟩
end
section
variable{κ:Type}[DecidableEq κ]
end
end L2
set_option maxHeartbeats 4000000
namespace L2
open PySem PySem.Spec PyProof.Rows
section
variable{X:Cx}{pins:List (ZE×Obj)}{σ:St}{H:Hp}{s:ZB}{h':Heap}
def Inv.turnedL{t':Nat}{fp:List ZE}(I:Inv X pins σ H s)(k:∀ b o,b∉fp->s.heap.get? b=some o->h'.get? b=some o)(hf:∀ b∈fp,dB X pins H b) :
  Inv X pins σ H { s with heap:=h',toks:=t' }:=by
 have nit:∀ b u,H b=some u->b∉fp:=λb u e z=>by
  have q:=(hf b z).1;rw[q] at e
  cases e
 refine I.step (g':=s.gens) (d':=s.drawn) (ch:=fp) (λb hb=>?_) (λb o _ _ hc e _=>k b o hc e) (λb o _ _ hc e _=>⟨o.slots,k b o hc e⟩) (λ_ _ _ _ n=>n)
  (λb o hc e=>⟨o,k b o hc e⟩) (λ_ _ e=>e) (λ_ _ _ e=>e) (λb ps e=>⟨#[],by rw[e];simp⟩) (λm hm=>?_) (λb u e=>?_) I.bare
 ·obtain⟨_,f1,_,f3,f4,f5⟩:=hf b hb
  exact⟨f3,f1,f4,f5⟩
 ·obtain⟨o,es,ep,ho,r⟩:=hm
  exact⟨o,es,ep,k _ o (λz=>(hf _ z).2.1 rfl) ho,r⟩
 ·refine(I.hok b u e).stay (λc v hc q=>k c v ?_ q) (λ_ q=>q) λ_ _ q=>q
  rcases hc with z|z
  ·rw[z];exact nit b u e
  ·exact nit c _ z
def Inv.adopt{T:ZE}{ob:HO}(I:Inv X pins σ H s)(hn:H T=none)(hT:X.s₀.heap.objs.size<=T)(hL:T≠X.env.locals)(hc:∀ x c,X.env.cells.lookup x=some c->c≠T)
  (hp:∀ p∈X.pn++pins,p.1≠T)(new:ObjOk X.prog X.w (upd H T ob) s.heap T ob):Inv X pins σ (upd H T ob) s:=by
 have hne:∀ b u,H b=some u->b≠T:=λb u e=>fA e hn
 refine I.step (h':=s.heap) (g':=s.gens) (d':=s.drawn) (t':=s.toks) (ch:=[T]) (λb hb=>?_) (λb o _ _ _ e _=>e) (λb o _ _ _ e _=>⟨o.slots,e⟩) (λb o hb e n=>?_) (λb o _ e=>⟨o,e⟩)
  (λb xs e=>by rw[aZ (hne b _ e)];exact e) (λb o u e=>by rw[aZ (hne b _ e)];exact e) (λb ps e=>⟨#[],by rw[aZ (hne b _ e),e];simp⟩) (λm hm=>hm) (λb u e=>?_) I.bare
 ·have e:b=T:=by simpa using hb
  subst e;exact⟨.inr hT,hL,hc,hp⟩
 ·rw[aZ (λz=>hb (by simp[z]))];exact n
 ·by_cases hb:b=T
  ·subst hb;rw[dH] at e;cases e;exact new
  ·rw[aZ hb] at e
   exact(I.hok b u e).stay (λc v _ q=>q) (λc q=>by rw[aZ (hne c _ q)];exact q) λc xs q=>by rw[aZ (hne c _ q)];exact q
end
def tG(K:ZA)(a:ZE):It :=
 ⟨λi H=>∃ xs x,SqL K H a xs/\xs[i]?=some x,λi H x H'=>∃ (T:ZE) (y:V),x=.ref T/\H T=none/\H'=upd H T (.tup [.int i,y])/\∀ xs,SqL K H a xs->xs[i]?=some y,λi H=>∃ xs,SqL K H a xs/\xs.length<=i⟩
def FP{P:ZD}{w:ZF}{K:ZA}{es:List Expr}{k:Nat}{tp:Pos}(a it e:ZE)(hei:e≠it) :
  fK P w K (.Tuple es k tp) (tG K a) [e,it] e (λi h=>(∃ old,IsEnum h e it i old)/\h.IsListIter it a i) where
 mem:=by simp
 obj:=λi h st b hb=>by
  obtain⟨⟨old,he⟩,o,ho,hc,hd⟩:=st;have hb':b=e\/b=it:=by simpa using hb
  rcases hb' with rfl|rfl
  ·exact⟨_,he,λv z=>by
    have z':Data.fields _=Data.cell v:=z
    cases z'⟩
  ·exact⟨o,ho,λv z=>by rw[hd] at z;cases z⟩
 keep:=λi h h' st k=>by
  obtain⟨⟨old,he⟩,hit⟩:=st;exact⟨⟨old,k e 's' _ he⟩,hit.at λo q=>k it 's' o q⟩
 item:=by
  intro X hP hw hK hc i pins s σ H E I hf st hg;subst hP hw hK
  obtain⟨xs,x,hq,hx⟩:=hg;obtain⟨its,rv,p,hz⟩:=I.list hq;obtain⟨u,hu,ru⟩:=rv.get hx;obtain⟨⟨old,he⟩,hit⟩:=st;refine wpAny_pyNext_enum_item he hit p.isList (x:=u) (by simpa using hu) hei λh1 ho hit1 hT hsz hk=>?_
  refine⟨.ref s.heap.objs.size,rfl,wpAny_letOwnedTupleGo_enum ho λh2 he2 hs2=>?_⟩
  replace hs2:Heap.SameBut e h1 h2:=hs2
  have helt:e<s.heap.objs.size:=Ny he;have I1:Inv X pins σ H { s with heap:=h2,toks:=s.toks+1 }:=I.turnedL (fp:=[e,it]) (λb o hb q=>by
   have n1:b≠e:=λz=>hb (by simp[z])
   have n2:b≠it:=λz=>hb (by simp[z])
   exact(hs2.2 b n1).trans (hk b o n1 n2 q)) hf
  have hT2:h2.get? s.heap.objs.size=some { cls:=.type "tuple",data:=.seq #[.int i s.toks,u] }:=(hs2.2 _ (Nat.ne_of_gt helt)).trans hT;have fp:=I.fpOk (H':=H) (Nk s.heap.objs.size) (I.hok.fresh (Nk _));obtain⟨f0,f1,f2,f3,f4,f5⟩:=fp;have I2:Inv X pins σ (upd H s.heap.objs.size (.tup [.int i,x])) { s with heap:=h2,toks:=s.toks+1 } :=
   I1.adopt (T:=s.heap.objs.size) f0 (I.sz) f1 f4 f5 ⟨by show 2<=sizeLine;decide,[.int i s.toks,u],.cons ⟨_,rfl⟩ (.cons ru .nil),⟨_,hT2,rfl,_,rfl⟩⟩
  refine⟨.ref s.heap.objs.size,_,I2,rfl,⟨s.heap.objs.size,x,rfl,f0,rfl,λys hy=>by rw[I.list_inj hy hq];exact hx⟩,⟨⟨u,by simpa using he2⟩,hit1.extBut hs2.extBut (Ne.symm hei)⟩,λb hb=>?_⟩
  obtain⟨g0,_⟩:=hf b hb;obtain⟨o,hob,_⟩:∃ o,s.heap.get? b=some o/\True:=by
   have hb':b=e\/b=it:=by simpa using hb
   rcases hb' with rfl|rfl
   ·exact⟨_,he,trivial⟩
   ·obtain⟨o,q,_⟩:=hit
    exact⟨o,q,trivial⟩
  rw[aZ (NX (Ny hob))];exact g0
 done:=by
  intro X hP hw hK hc i pins s σ H E I hf st hg;subst hP hw hK
  obtain⟨xs,hq,hx⟩:=hg;obtain⟨its,rv,p,hz⟩:=I.list hq;obtain⟨⟨old,he⟩,hit⟩:=st;have hl:=rv.length;exact wpAny_pyNext_enum_end (I.ok.hd hc) he hit p.isList (by simp;omega) λh' eb=>⟨rfl,I.turnedL (fp:=[e,it]) (t':=s.toks) (λb o hb q=>eb b o (λz=>hb (by simp[z])) q) hf⟩
 self:=λ_ _ _ _ _ st h=>by
  obtain⟨⟨old,he⟩,_⟩:=st;exact Sg he h
section
variable{X:Cx}
def iEnum(K:ZA)(ta:TA):TI:=λσ H R=>ta σ H λvs H1=>∃ a,vs=[.ref a]/\(∃ xs,SqL K H1 a xs)/\R (tG K a) H1
def FQ {l:Expr} {ta:TA} {p pos tp:Pos} {es:List Expr} {k:Nat} (hg:Gl X "enumerate") (hm:X.mg "enumerate"=none) (ha:PA X [l] ta) (hs:‹starEach [l] X.env=[(false,eval l X.env)]›) :
  PI X (.Tuple es k tp) (.Call (.Name "enumerate" p) [l] [] pos) (iEnum X.K ta):=by
 intro pins s σ H R I h;refine Call_ (kE I hg hm boot_enumerate (OC (thn (ha pos pins s σ H _ I h) λus s1 Zz=>?_) hs rfl));obtain⟨vs,H1,I1,r1,q1⟩:=Zz
 obtain⟨a,e,⟨xs,hq⟩,q⟩:=q1;subst e
 cases r1 with
 |cons r rr =>
  cases rr
  cases r
  obtain⟨its,rv,pl,hz⟩:=I1.list hq;refine call_enumerate_list pl.isList λh' he hit hsz hk=>Sg he ?_
  refine⟨s1.heap.objs.size+1,[s1.heap.objs.size+1,s1.heap.objs.size],_,_,H1,rfl,I1.kept (t':=s1.toks) λb o e=>hk b o e,FP a _ _ (Nat.succ_ne_self _),⟨⟨_,he⟩,hit⟩,λb hb=>?_,q⟩
  have hb':b=s1.heap.objs.size+1\/b=s1.heap.objs.size:=by simpa using hb
  rcases hb' with rfl|rfl
  ·exact I1.fpOk (Qv _) (I1.hok.fresh (Qv _))
  ·exact I1.fpOk (Nk _) (I1.hok.fresh (Nk _))
end
def tH(x:Str):It:=⟨λi _=>i<x.cps.size,λi H v H'=>H'=H/\∃ c,x.cps[i]?=some c/\v=.str ⟨#[c]⟩,λi _=>x.cps.size<=i⟩
def FR{P:ZD}{w:ZF}{A:ZG}(hh:A.handled=none)(it:ZE)(x:Str)(t:Tok) :
  Walks P w A it [it] [it] x.cps.size (SignAt x) (λi h=>h.IsStrIter it (strIterType x) x t i):=by
 cases ha:x.cps.all (· < 128) with
 |false =>
  have e:strIterType x="str_iterator" := by simp[strIterType,ha]
  rw[e];exact Walks.strWide hh it x t
 |true =>
  have e:strIterType x="str_ascii_iterator" := by simp[strIterType,ha]
  rw[e];exact Walks.strAscii hh it x t
def FS{P:ZD}{w:ZF}{K:ZA}{y:Str}{py:Pos}(it:ZE)(x:Str)(t:Tok):fK P w K (.Name y py) (tH x) [it] it (λi h=>h.IsStrIter it (strIterType x) x t i) where
 mem:=by simp
 obj:=λi h st b hb=>by
  have e:b=it:=by simpa using hb
  subst e;obtain⟨o,e,c,d⟩:=st
  exact⟨o,e,λv z=>by rw[d] at z;cases z⟩
 keep:=λi h h' st k=>by
  obtain⟨o,e,r⟩:=st;exact⟨o,k it 's' o e,r⟩
 item:=by
  intro X hP hw hK hc i pins s σ H E I hf st hg;subst hP hw hK
  refine(FR (I.ok.hd hc) it x t).item i s _ _ hg st λv h1 tk hv st1 kk=>?_
  obtain⟨c,u,hcp,rfl⟩:=hv;have I1:Inv X pins σ H { s with heap:=h1,toks:=tk }:=I.turnedL (fp:=[it]) kk hf;exact⟨_,rfl,Nu ⟨.str ⟨#[c]⟩,H,I1,⟨u,rfl⟩,⟨rfl,c,hcp,rfl⟩,st1,λb hb=>(hf b hb).1⟩⟩
 done:=by
  intro X hP hw hK hc i pins s σ H E I hf st hg;subst hP hw hK
  have hx:x.cps[i]?=none:=Array.getElem?_eq_none hg
  cases ha:x.cps.all (· < 128) with
  |false =>
   have e:strIterType x="str_iterator" := by simp[strIterType,ha]
   rw[e] at st;exact wpAny_pyNext_wide_end (I.ok.hd hc) st hx λh' eb=>⟨rfl,I.turnedL (fp:=[it]) (t':=s.toks) (λb o hb q=>eb b o (λz=>hb (by simp[z])) q) hf⟩
  |true =>
   have e:strIterType x="str_ascii_iterator" := by simp[strIterType,ha]
   rw[e] at st;exact wpAny_pyNext_ascii_end (I.ok.hd hc) st hx λh' eb=>⟨rfl,I.turnedL (fp:=[it]) (t':=s.toks) (λb o hb q=>eb b o (λz=>hb (by simp[z])) q) hf⟩
 self:=λA i s Q E st h=>by
  cases ha:x.cps.all (· < 128) with
  |false =>
   have e:strIterType x="str_iterator" := by simp[strIterType,ha]
   rw[e] at st;exact wpAny_pyIter_striter_wide st h
  |true =>
   have e:strIterType x="str_ascii_iterator" := by simp[strIterType,ha]
   rw[e] at st;exact wpAny_pyIter_striter_ascii st h
section
variable{X:Cx}
def tJ(tl:TE):TI:=λσ H R=>tl σ H λx H1=>∃ t,x=.str t/\R (tH t) H1
def FT{l:Expr}{tl:TE}{y:Str}{py:Pos}(hl:PE X l tl):PI X (.Name y py) l (tJ tl):=by
 intro pins s σ H R I h;refine thn (hl pins s σ H _ I h) λv s1 Zz=>?_;obtain⟨x,H1,I1,r1,q1⟩:=Zz
 obtain⟨t,e,q⟩:=q1;subst e;obtain⟨tk,rfl⟩:=r1
 refine wpAny_pyIter_strU ?_
 refine⟨s1.heap.objs.size,[s1.heap.objs.size],_,_,H1,rfl,I1.kept (t':=s1.toks) λb o e=>Nq _ e,FS _ t tk,⟨_,NC _ rfl,rfl,rfl⟩,λb hb=>?_,q⟩
 have e:b=s1.heap.objs.size:=by simpa using hb
 subst e;exact I1.fpOk (Nk _) (I1.hok.fresh (Nk _))
end
def d7(env:Env):List (Str×NameKind)->List (Str×ZE)->List (Str×ZE)
 |[],acc=>acc
 |(n,k)::r,acc=>d7 env r (if k=.free then(n,(env.cells.lookup n).getD 0)::acc else acc)
def FU{env:Env}{scope:Scope}(h:∀ y∈scope.names,y.2=.free->(env.cells.lookup y.1).isSome=true):closureFor scope env=pure (d7 env scope.names []):=by
 have all:∀ (l:List (Str×NameKind)) (acc:List (Str×ZE)),(∀ y∈l,y.2=.free->(env.cells.lookup y.1).isSome=true) ->
   (forIn l acc λ(x:Str×NameKind) (cs:List (Str×ZE))=>if (x.2 == NameKind.free)=true then(do let a <- cellOf env x.1;pure (ForInStep.yield ((x.1,a)::cs))) else(pure (ForInStep.yield cs):Sem _))=pure (d7 env l acc):=by
  intro l;induction l with
  |nil=>intro acc _;rfl
  |cons y r ih =>
   intro acc hl;obtain⟨n,k⟩:=y;rw[Ra];have hr:=λz hz=>hl z (NZ _ hz)
   by_cases hk:k=.free
   ·subst hk
    obtain⟨c,hc⟩:=NP.mp (hl (n,.free) Ol rfl);have e1:cellOf env n=pure c:=by
     simp only[cellOf]
     have hc':env.cells.lookup n=some c:=hc;rw[hc']
    simp only[beq_self_eq_true,O5,e1,pure_bind,d7]
    have hc':env.cells.lookup n=some c:=hc;rw[hc'];exact ih _ hr
   ·have hb:(k == NameKind.free)=false:=by simpa using hk
    simp only[hb,Bool.false_eq_true,So,pure_bind,d7,hk]
    exact ih _ hr
 unfold closureFor;have q:=all scope.names [] h;first
  |exact q
  |(simp only[bind_pure];exact q)
  |(rw[<- q];simp)
theorem tK{env:Env}:∀ {l:List (Str×NameKind)} {acc:List (Str×ZE)},(∀ y∈l,y.2=.free->(env.cells.lookup y.1).isSome=true)->(∀ y c,acc.lookup y=some c->env.cells.lookup y=some c) ->
  ∀ y c,(d7 env l acc).lookup y=some c->env.cells.lookup y=some c
 |[],_,_,h,y,c,e=>h y c e
 |(n,k)::r,acc,hl,h,y,c,e=>by
  refine tK (l:=r) (λz hz=>hl z (NZ _ hz)) ?_ y c e
  intro y c e;by_cases hk:k=.free
  ·rw[Nn hk] at e
   rw[Pq] at e
   cases hy:y == n with
   |true =>
    rw[hy] at e;have e':y=n:=by simpa using hy
    obtain⟨c',hc'⟩:=NP.mp (hl (n,k) Ol hk);have hc'':env.cells.lookup n=some c':=hc';rw[hc''] at e;rw[e',hc''];exact e
   |false =>
    rw[hy] at e;exact h y c e
  ·rw[Nr hk] at e
   exact h y c e
theorem tL{env:Env}:∀ {l:List (Str×NameKind)} {acc:List (Str×ZE)} {y:Str},(y,NameKind.free)∈l\/(acc.lookup y).isSome=true->((d7 env l acc).lookup y).isSome=true
 |[],_,_,h=>by
  rcases h with h|h
  ·cases h
  ·exact h
 |(n,k)::r,acc,y,h=>by
  refine tL (l:=r) ?_
  rcases h with h|h
  ·rcases ND.mp h with e|e
   ·right
    cases e
    rw[Nn rfl,Pq];simp
   ·exact .inl e
  ·right
   by_cases hk:k=.free
   ·rw[Nn hk,Pq]
    cases hy:y == n with
    |true=>rfl
    |false=>exact h
   ·rw[Nr hk];exact h
def nQ{names:List (Str×NameKind)}{x:Str}{k:NameKind}(h:names.lookup x=some k):(x,k)∈names:=(OD h)
theorem p6{env:Env}{x:Str}{k:NameKind}:∀ {names:List (Str×NameKind)},(names.map λ(n,k)=>if (k == NameKind.free && env.scope.kind == .function && env.kindOf n == some .cell) then(n,NameKind.cell) else(n,k)).lookup x=some k ->
  names.lookup x=some k\/(k=.cell/\names.lookup x=some .free)
 |[],h=>by simp at h
 |(n,kk)::r,h=>by
  have ih:=@p6 env x k r;by_cases hc:(kk == NameKind.free && env.scope.kind == .function && env.kindOf n == some .cell)=true
  ·have hf:kk=.free:=by
    have q:=(N7 _ _).mp ((N7 _ _).mp hc).1;simpa using q.1
   subst hf;have h':List.lookup x ((n,NameKind.cell)::(r.map λ(n,k)=>if (k == NameKind.free && env.scope.kind == .function && env.kindOf n == some .cell) then(n,NameKind.cell) else(n,k)))=some k:=by
    have e:(λ(p:Str×NameKind)=>match p with|(n,k)=>if (k == NameKind.free && env.scope.kind == .function && env.kindOf n == some .cell)=true then(n,NameKind.cell) else(n,k)) (n,NameKind.free)=(n,NameKind.cell):=by
     show (if _ then _ else _)=_
     rw[Nn hc]
    rw[NW] at h;rw[<- e];exact h
   rw[Pq] at h' ⊢
   cases hx:x == n with
   |true =>
    rw[hx] at h';right
    exact⟨(N8 h').symm,rfl⟩
   |false =>
    rw[hx] at h';exact ih h'
  ·have h':List.lookup x ((n,kk)::(r.map λ(n,k)=>if (k == NameKind.free && env.scope.kind == .function && env.kindOf n == some .cell) then(n,NameKind.cell) else(n,k)))=some k:=by
    have e:(λ(p:Str×NameKind)=>match p with|(n,k)=>if (k == NameKind.free && env.scope.kind == .function && env.kindOf n == some .cell)=true then(n,NameKind.cell) else(n,k)) (n,kk)=(n,kk):=by
     show (if _ then _ else _)=_
     rw[Nr hc]
    rw[NW] at h;rw[<- e];exact h
   rw[Pq] at h' ⊢
   cases hx:x == n with
   |true =>
    rw[hx] at h';exact .inl h'
   |false =>
    rw[hx] at h';exact ih h'
structure CompOk(X:Cx)(ns:List Str)(jf:List (Nat×Str))(scope:Scope):Prop where
 hN:(ns++jf.map (·.2)).Nodup
 hx:∀ x∈ns,scope.names.lookup x=some .local
 hjf:∀ p∈jf,X.N[p.1]?=some p.2
 hjl:∀ p∈jf,scope.names.lookup p.2=some .free
 hkind:scope.kind=.function
 hcell:∀ y∈scope.names,y.2 ≠ .cell
 hfr:∀ y∈scope.names,y.2=.free->X.env.kindOf y.1=some .cell\/X.env.kindOf y.1=some .free
 hnames:∀ y∈scope.names,y.2=.local->scope.names.lookup y.1=some .local
def cT(X:Cx)(pins:List (ZE×Obj))(ns:List Str)(jf:List (Nat×Str))(scope:Scope)(cl:List (Str×ZE))(s:ZB)(H:Hp)(fp:List ZE):Cx where
 prog:=X.prog
 w:=X.w
 K:=X.K
 mg:=X.mg
 base:=X.base
 A:=X.A
 N:=ns++jf.map (·.2)
 s₀:=s
 H₀:=H
 env:=compEnvC scope cl s.heap.objs.size X.env
 outer:=X.stack
 stack:=X.stack
 ex:=fp
 fn:=λ_=>false
 calm:=X.calm
 pn:=X.pn++pins
 xe:=λ_ _=>False
def fC(vs:List (Option V))(js:List (Nat×Str))(σ:St):St:=vs++js.map λj=>(σ[j.1]?).join
def kO(X:Cx)(ifs:List Expr)(t:TT):Prop :=
 ∀ (pins:List (ZE×Obj)) (s:ZB) (σ:St) (H:Hp) (Q:Bool->Hp->Prop),Inv X pins σ H s->t σ H Q ->
  wpAny (model X.prog X.w) X.A (forIn ifs true λc r=>if r=true then do let ok <- isTrue c X.env (eval c X.env);pure (ForInStep.yield ok) else pure (ForInStep.yield r)) (TP X pins σ Q) X.xe s
def tM:TT:=λ_ H Q=>Q true H
def FV{X:Cx}:kO X [] tM:=(λpins s σ H Q I h=>wpAny_tests_nil ⟨H,I,h⟩)
def xV(k:Nat)(g:TG)(jf:List (Nat×Str))(tc:TT)(te:TE)(σ:St)(Q:VK)(J:It)(H1:Hp):Prop:=∀ D,H1 D=none->∃ W:Nat->Nat->List V->Hp->Prop,(∃ m,W 0 m [] (upd H1 D (.lst []))) /\
 ∀ i m ys H2,W i m ys H2->H2 D=some (.lst ys)/\((J.stop i H2/\Q (.ref D) H2)\/(J.go i H2/\ys.length<sizeLine/\∀ x H3,J.yld i H2 x H3->∃ us:List V,us.length=k/\g x (fC (List.replicate k none) jf σ) H3 (λσ' H'=>σ'=fC (us.map some) jf σ/\H'=H3)/\tc (fC (us.map some) jf σ) H3 λb H5 =>
  if b=true then te (fC (us.map some) jf σ) H5 λv H6=>H6 D=some (.lst ys)/\∃ m',m'<m/\W (i+1) m' (ys++[v]) (upd H6 D (.lst (ys++[v]))) else ∃ m',m'<m/\W (i+1) m' ys H5))
def p7(k:Nat)(g:TG)(jf:List (Nat×Str))(wi:TI)(tc:TT)(te:TE):TE:=λσ H Q=>wi σ H (xV k g jf tc te σ Q)
section
variable{X:Cx}{pins:List (ZE×Obj)}{σ:St}{H:Hp}{s:ZB}{ns:List Str}{jf:List (Nat×Str)}{scope:Scope}{fp:List ZE}
def CompOk.pg{cl:List (Str×ZE)}{x:Str}{p:Pos}(C:CompOk X ns jf scope)(i:Nat)(h:(ns++jf.map (·.2))[i]?=some x)(m:x∈ns):PG (cT X pins ns jf scope cl s H fp) (.Name x p) (mf i) :=(
 sF C.hN h (.inl (RD (C.hx x m))) (.inr (RD (C.hx x m))))
def Inv.block{h1:Heap}{tk:Nat}(I:Inv X pins σ H s)(hf:∀ b∈fp,dB X pins H b)(hlt:∀ b∈fp,b<s.heap.objs.size)(C:CompOk X ns jf scope)
  (hn:h1.Ns s.heap.objs.size (λ_=>none))(hk:∀ b o,s.heap.get? b=some o->h1.get? b=some o) :
  Inv (cT X pins ns jf scope (d7 X.env scope.names []) s H fp) [] (fC (List.replicate ns.length none) jf σ) H { s with heap:=h1,toks:=tk }:=by
 obtain⟨_,_,hjf,hjl,hkind,hcell,hfr,_⟩:=C;have hsome:∀ y∈scope.names,y.2=.free->(X.env.cells.lookup y.1).isSome=true:=λy hy hyf=>NP.mpr (I.ok.has y.1 (hfr y hy hyf))
 have sub:∀ y c,(d7 X.env scope.names []).lookup y=some c->X.env.cells.lookup y=some c:=tK hsome (λy c e=>by simp at e);have hsz:=I.sz;have inE:∀ b,b∈(cT X pins ns jf scope (d7 X.env scope.names []) s H fp).ex->b∈fp:=λb z=>z
 have stk:∀ b∈dJ X.stack,b<s.heap.objs.size:=λb hb=>by
  obtain⟨_,o,ho,_⟩:=I.stack.mem hb;exact Ny ho
 refine⟨⟨I.ok.mod,hkind,I.ok.glob,I.ok.blt,Nk _,λy z c e1 e2=>I.ok.inj y z c (sub y c e1) (sub z c e2),λy hy=>?_,λy c hfn _=>(by cases hfn),I.ok.hd,I.ok.frames,.inl rfl,λb hb=>?_,λb o e=>I.bs b o e,Np I.ok.bsz hsz,λb o e z=>?_,λb hb z=>?_,I.stack,I.stkFree⟩,
  rfl,I.bare,Un.kept hk,⟨_,hn,λi y v e1 e2 e3=>?_⟩,λy c e=>?_,I.hok.fresh (Nk _),λy c e=>I.freeC y c (sub y c e),λp hp=>?_,I.hok.kept hk,?_⟩
 ·have hy':(relabel scope X.env).names.lookup y=some .cell\/(relabel scope X.env).names.lookup y=some .free:=hy
  have mem:(y,NameKind.free)∈scope.names:=by
   rcases hy' with q|q
   ·rcases p6 (env:=X.env) q with z|z
    ·exact absurd rfl (hcell _ (nQ z))
    ·exact nQ z.2
   ·rcases p6 (env:=X.env) q with z|z
    ·exact nQ z
    ·exact nQ z.2
  exact NP.mp (tL (.inl mem))
 ·exact⟨NX (hlt b hb),λy c e=>(hf b hb).2.2.2.2.1 y c (sub y c e)⟩
 ·rcases (hf b z).2.2.2.1 with q|q
  ·exact I.ok.noex b o e q
  ·exact absurd (NH (Ny e) (Np I.ok.bsz q)) (OK _)
 ·rcases ND.mp (I.stkSub b z) with q|q
  ·exact(hf b hb).2.1 q
  ·exact(hf b hb).2.2.1 q
 ·have e1':(ns++jf.map (·.2))[i]?=some y:=e1
  unfold fC at e2;by_cases hi:i<ns.length
  ·rw[Nt (by rw[Ow];exact hi),OP,Nn hi] at e2;cases e2
  ·have hi:=QH hi
   rw[NF hi,NY] at e1';rw[NF (by rw[Ow];exact hi),Ow,NY] at e2
   cases q:jf[i-ns.length]? with
   |none=>rw[q] at e2;cases e2
   |some p =>
    rw[q] at e1' e2;have ey:p.2=y:=N8 e1'
    have ev:(σ[p.1]?).join=some v:=N8 e2;have hp:p∈jf:=NL q;have eσ:σ[p.1]?=some (some v):=by
     cases z:σ[p.1]? with
     |none=>rw[z] at ev;cases ev
     |some r=>rw[z] at ev;rw[show r=some v from ev]
    have hfree:scope.names.lookup y=some .free:=by rw[<- ey];exact hjl p hp
    have mem:=nQ hfree;have kX:=hfr _ mem rfl;obtain⟨m,hnX,hl⟩:=I.loc;obtain⟨u,ru,lk⟩:=hl p.1 y v (by rw[<- ey];exact hjf p hp) eσ (by
     rcases kX with z|z
     ·exact .inr (.inl z)
     ·exact .inr (.inr z))
    refine⟨u,ru,.inr ⟨?_,?_⟩⟩
    ·have e3':nB (relabel scope X.env) y:=e3
     rcases e3' with z|z|z
     ·exfalso
      rcases p6 (env:=X.env) z with q|q
      ·rw[hfree] at q;cases q
      ·cases q.1
     ·exact .inl z
     ·exact .inr z
    ·rcases lk with⟨z,_⟩|⟨_,c,hc,hcell'⟩
     ·exfalso
      rcases kX with q|q
      ·rw[show X.env.kindOf y=some .cell from q] at z;cases z
      ·rw[show X.env.kindOf y=some .free from q] at z;cases z
     ·obtain⟨c',hc'⟩:=NP.mp (tL (env:=X.env) (acc:=[]) (.inl mem))
      have e:=sub y c' hc';rw[hc] at e
      cases e
      obtain⟨o,ho,hd⟩:=hcell';exact⟨c,hc',o,hk c o ho,hd⟩
 ·obtain⟨v,o,ho,hd⟩:=I.cell y c (sub y c e)
  exact⟨v,o,hk c o ho,hd⟩
 ·have hp':p∈X.pn++pins:=by simpa[cT] using hp
  obtain⟨e,n,ne,nf,d⟩:=I.pin p hp';refine⟨hk _ _ e,n,NX (Ny e),λz=>?_,d⟩
  rcases ND.mp (I.stkSub p.1 z) with q|q
  ·exact ne q
  ·exact nf q
 ·unfold fC
  show _=(ns++jf.map (·.2)).length
  rw[NV,NV,Ow,Nw,Nw]
end
def HOk.sameBut{P:ZD}{w:ZF}{H:Hp}{h h':Heap}{C:ZE}(ok:HOk P w H h)(hn:H C=none)(hs:Heap.SameBut C h h'):HOk P w H h':=(λb u e=>by
 refine(ok b u e).stay (λc v hc q=>(hs.2 c ?_).trans q) (λ_ q=>q) λ_ _ q=>q
 rcases hc with z|z
 ·rw[z];exact fA e hn
 ·exact fA z hn)
def Un.sameBut{fs ex:List ZE}{H H':Hp}{h h1 h2:Heap}{C:ZE}(u:Un fs ex H H' h h1)(hC:h.get? C=none)(hs:Heap.SameBut C h1 h2):Un fs ex H H' h h2:=by
 have ne:∀ b o,h.get? b=some o->b≠C:=λb o e z=>by rw[z,hC] at e;cases e
 refine⟨λb o e n hb hx=>(hs.2 b (ne b o e)).trans (u.keep b o e n hb hx),λb o e n hb hx=>?_,u.free,λb o e hx=>?_,u.tups,u.frzs,u.tbls⟩
 ·obtain⟨sl,q⟩:=u.slot b o e n hb hx
  exact⟨sl,(hs.2 b (ne b o e)).trans q⟩
 ·obtain⟨o',q⟩:=u.there b o e hx
  exact⟨o',(hs.2 b (ne b o e)).trans q⟩
def FW {prog:ZD} {w:ZF} {A:ZG} {R:Result->ZB->Prop} {s:ZB} {elt target iter:Expr} {ifs:List Expr} {scope:Scope} {pos:Pos} {it acc:ZC} {env:Env} (I:Nat->ZB->Prop)
  (turn:∀ n s,I n s->wpAny (model prog w) A (pyNext it) (λr s₁=>match r with
   |none=>R (.ok .next) s₁
   |some v=>wpAny (model prog w) A (letOwnedTupleGo target it v) (λ_ s₂=>wpAny (model prog w) A (assign target env v) (λ_ s₃ =>
     wpAny (model prog w) A (forIn ifs true λc r=>if r=true then do let ok <- isTrue c env (eval c env);pure (ForInStep.yield ok) else pure (ForInStep.yield r)) (λok s₄ =>
      if ok=true then wpAny (model prog w) A (eval elt env) (λx s₅=>wpAny (model prog w) A (call (.builtin "list.append") [acc,x]) (λ_ s₆=>∃ m,m<n/\I m s₆) (λ_ _=>False) s₅) (λ_ _=>False) s₄
      else ∃ m,m<n/\I m s₄) (λ_ _=>False) s₃) (λ_ _=>False) s₂) (λ_ _=>False) s₁) (λ_ _=>False) s)
  (n:Nat) (h:I n s):codeAny (model prog w) A (.compLoop (.ListComp elt [⟨target,iter,ifs,0⟩] scope pos) 0 it acc env) R s:=by
 refine codeAny_loop rfl I (λn s hI=>?_) n h
 show wpAny _ A ((compTurn (.ListComp elt [⟨target,iter,ifs,0⟩] scope pos) 0 it acc env).onRaise (λx=>do noteFrame x env;theTreesLotGoes x)) _ _ s
 refine wpAny_noted ?_
 rw[compTurn_list];refine Nj (QD (Nj (Oc (turn n s hI) (λr s₁ h₁=>?_) λ_ _ z=>z.elim)))
 cases r with
 |none=>exact Nu h₁
 |some v =>
  refine Nj (Oc h₁ (λ_ s₂ h₂=>?_) λ_ _ z=>z.elim)
  refine Nj (Oc h₂ (λ_ s₃ h₃=>Nj (Oc h₃ (λok s₄ h₄=>?_) λ_ _ z=>z.elim)) λ_ _ z=>z.elim)
  cases ok with
  |false=>exact Nu ⟨rfl,h₄⟩
  |true =>
   exact Nj (Nj (Oc h₄ (λx s₅ h₅=>Nj (Oc h₅ (λ_ s₆ h₆=>Nu (Nu ⟨rfl,h₆⟩)) λ_ _ z=>z.elim)) λ_ _ z=>z.elim))
section
variable{X:Cx}{ns:List Str}{tg:Expr}{g:TG}{jf:List (Nat×Str)}{scope:Scope}{iter elt:Expr}{ifs:List Expr}{pos:Pos}{wi:TI}{tc:TT}{te:TE}
def xW(hcalm:X.calm=true)(hg:∀ pins cl s H fp,PG (cT X pins ns jf scope cl s H fp) tg g)(hi:PI X tg iter wi)(hc:∀ pins cl s H fp,kO (cT X pins ns jf scope cl s H fp) ifs tc)(he:∀ pins cl s H fp,PE (cT X pins ns jf scope cl s H fp) elt te)(C:CompOk X ns jf scope){use:Option (ZC->Sem Unit)}{Qf:ZC->ZB->Prop}{cpos:Pos}
  {pins:List (ZE×Obj)}{σ:St}{H:Hp}{s:ZB}{Q:VK}(I:Inv X pins σ H s)(h:p7 ns.length g jf wi tc te σ H Q)
  (fin:∀ D C s6 H6 m6,Inv X pins σ H6 s6->Q (.ref D) H6->dB X pins H6 C->s6.heap.Ns C m6->compPost (model X.prog X.w) X.A X.xe use Qf (.ref D) C (.ok .next) s6)(hs:∀ x,foldedSetIterable iter X.env x=pure x) :
  wpAny (model X.prog X.w) X.A (comprehension (.ListComp elt [⟨tg,iter,ifs,0⟩] scope pos) scope X.env cpos (newList []) false (eval iter X.env) use) Qf X.xe s:=by
 obtain⟨_,_,_,_,hkind,hcell,hfr,hnames⟩:=id C;have hsome:∀ y∈scope.names,y.2=.free->(X.env.cells.lookup y.1).isSome=true:=λy hy hyf=>NP.mpr (I.ok.has y.1 (hfr y hy hyf))
 refine wpAny_comprehension_free (use:=use) rfl hs (FU hsome) hkind hnames (thn (hi pins s σ H _ I h) λxv s1 h1=>thn h1 λitv s2 h2=>?_)
 obtain⟨it,fp,tn,J,H2,e,I2,T,st2,f2,h⟩:=h2;subst e;refine OS (wpAny_newFunctionEnv hcell (by intro y hy;simp at hy) (λh₁ hns₁ hsb₁=>?_) hkind)
 have hD0:H2 s2.heap.objs.size=none:=I2.hok.fresh (Nk _);obtain⟨W,⟨m0,w0⟩,step⟩:=h s2.heap.objs.size hD0;dsimp only at hns₁ hsb₁ ⊢;have I3:Inv X pins σ (upd H2 s2.heap.objs.size (.lst [])) { s2 with heap:=s2.heap.push { cls:=.type "list",dict:=none,data:=.seq ([]:List ZC).toArray } } :=
  I2.laid (t':=s2.toks) (λb u q=>Nq _ q) (Nk _) ⟨NU _,[],0,.nil,NC _ rfl⟩
 generalize hH3:s2.heap.push { cls:=.type "list",dict:=none,data:=.seq ([]:List ZC).toArray }=hp3 at hns₁ hsb₁ I3 ⊢
 have hsz3:hp3.objs.size=s2.heap.objs.size+1:=by rw[<- hH3,Rq]
 have k23:∀ b o,s2.heap.get? b=some o->hp3.get? b=some o:=λb o q=>by rw[<- hH3];exact Nq _ q
 have flt:∀ b∈fp,b<s2.heap.objs.size:=λb hb=>by
  obtain⟨o,q,_⟩:=T.obj 0 _ st2 b hb;exact Ny q
 have f3:∀ b∈fp,dB X pins (upd H2 s2.heap.objs.size (.lst [])) b:=λb hb=>by
  obtain⟨g0,g⟩:=f2 b hb;exact⟨by rw[aZ (NX (flt b hb))];exact g0,g⟩
 have kC:∀ b o,hp3.get? b=some o->h₁.get? b=some o:=λb o q=>(hsb₁.2 b (NX (Ny q))).trans (Nq _ q)
 have B0:=I3.block (ns:=ns) (jf:=jf) (scope:=scope) (fp:=fp) (h1:=h₁) (tk:=s2.toks+([]:List (Str×ZC)).length) f3 (λb hb=>by show b<hp3.objs.size;rw[hsz3];exact PK (flt b hb)) C (by simpa using hns₁) kC
 have st4:tn 0 h₁:=T.keep _ _ _ st2 λb _ o q=>kC b o (k23 b o q)
 have w0':=w0;have stat:∀ {H':Hp},(∀ b∈fp,H' b=none)->∀ b∈fp,dB (cT X pins ns jf scope (d7 X.env scope.names []) { s2 with heap:=hp3 } (upd H2 s2.heap.objs.size (.lst [])) fp) [] H' b:=λhn b hb=>by
  obtain⟨_,g1,g2,g3,g4,g5⟩:=f2 b hb;refine⟨hn b hb,NX (by show b<hp3.objs.size;rw[hsz3];exact PK (flt b hb)),λz=>?_,.inl hb,λy c q=>g4 y c (tK hsome (λy c e=>by simp at e) y c q),λp hp=>g5 p (by simpa[cT] using hp)⟩
  rcases ND.mp (I2.stkSub b z) with q|q
  ·exact g1 q
  ·exact g2 q
 have loop:codeAny (model X.prog X.w) X.A (.compLoop (.ListComp elt [⟨tg,iter,ifs,0⟩] scope pos) 0 (.ref it) (.ref s2.heap.objs.size) (compEnvC scope (d7 X.env scope.names []) hp3.objs.size X.env))
   (compPost (model X.prog X.w) X.A X.xe use Qf (.ref s2.heap.objs.size) hp3.objs.size) { s2 with heap:=h₁,toks:=s2.toks+([]:List (Str×ZC)).length }:=by
  refine FW (λn s'=>∃ i ys H',Inv (cT X pins ns jf scope (d7 X.env scope.names []) { s2 with heap:=hp3 } (upd H2 s2.heap.objs.size (.lst [])) fp) [] (fC (List.replicate ns.length none) jf σ) H' s'/\tn i s'.heap/\(∀ b∈fp,H' b=none)/\W i n ys H') ?_ m0
   ⟨0,[],_,B0,st4,λb hb=>(f3 b hb).1,w0⟩
  rintro n s5 ⟨i,ys,H5,I5,st5,fr5,w5⟩
  obtain⟨hD5,alt⟩:=step i n ys H5 w5;rcases alt with⟨stop,q5⟩|⟨go,hlen,next⟩
  ·refine Oc (T.done (cT X pins ns jf scope (d7 X.env scope.names []) { s2 with heap:=hp3 } (upd H2 s2.heap.objs.size (.lst [])) fp) rfl rfl rfl hcalm i [] s5 _ H5 (λ_ _=>False) I5 (stat fr5) st5 stop) (λr s6 Zz=>?_) λ_ _ z=>z;obtain⟨hr,I6⟩:=Zz
   subst hr;obtain⟨m6,hn6,_⟩:=id I6.loc
   refine fin _ _ s6 H5 m6 ?_ q5 (I3.fpOk (Nk _) I6.free) hn6
   refine I3.call' (ch:=fp) I6.os I6.base I6.hok I6.bare (λb hb=>?_)
   obtain⟨_,g1,g2,g3,g4,g5⟩:=f2 b hb;exact⟨g3,g1,g4,g5⟩
  ·refine Oc (T.item (cT X pins ns jf scope (d7 X.env scope.names []) { s2 with heap:=hp3 } (upd H2 s2.heap.objs.size (.lst [])) fp) rfl rfl rfl hcalm i [] s5 _ H5 (λ_ _=>False) I5 (stat fr5) st5 go) (λr s6 Zz=>?_) λ_ _ z=>z;obtain⟨u,hr,h6⟩:=Zz
   subst hr;refine Oc h6 (λ_ s7 Zz=>?_) λ_ _ z=>z;obtain⟨x,H7,I7,r7,y7,st7,fr7⟩:=Zz
   have I7':=I7.pinned (stat fr7) (T.obj _ _ st7);obtain⟨us,hu,gq,q8⟩:=next x H7 y7;refine Oc (hg pins _ _ _ fp ([]++iQ fp s7.heap) s7 _ H7 x _ _ I7' r7 gq) (λ_ s8 Zz=>?_) λ_ _ z=>z;obtain⟨σ8,H8,I8,e8,e8'⟩:=Zz
   subst e8 e8'
   have I8':Inv (cT X pins ns jf scope (d7 X.env scope.names []) { s2 with heap:=hp3 } (upd H2 s2.heap.objs.size (.lst [])) fp) ([]++iQ fp s7.heap) (fC (us.map some) jf σ) H8 s8:=I8;have again:∀ {s9:ZB} {H9:Hp} {zs:List V} {m':Nat},Inv (cT X pins ns jf scope (d7 X.env scope.names []) { s2 with heap:=hp3 } (upd H2 s2.heap.objs.size (.lst [])) fp) ([]++iQ fp s7.heap) (fC (us.map some) jf σ) H9 s9->m'<n->W (i+1) m' zs H9 ->
     ∃ m,m<n/\∃ i ys H',Inv (cT X pins ns jf scope (d7 X.env scope.names []) { s2 with heap:=hp3 } (upd H2 s2.heap.objs.size (.lst [])) fp) [] (fC (List.replicate ns.length none) jf σ) H' s9/\tn i s9.heap/\(∀ b∈fp,H' b=none)/\W i m ys H':=λ{s9 H9 zs m'} I9 hm w9=>by
    refine⟨m',hm,i+1,zs,H9,I9.unpinned.weak (by simp[fC,hu]) (λj v e=>?_),T.keep _ _ _ st7 λb hb o e=>(I9.pin (b,o) (NR _ (NR _ (pQ hb e)))).1,λb hb=>?_,w9⟩
    ·unfold fC at e ⊢
     by_cases hj:j<ns.length
     ·rw[Nt (by rw[Ow];exact hj),OP,Nn hj] at e;cases e
     ·have hj:=QH hj
      rw[NF (by rw[Ow];exact hj),Ow] at e;rw[NF (by rw[Nw,hu];exact hj),Nw,hu];exact e
    ·obtain⟨o,e,d⟩:=T.obj _ _ st7 b hb
     exact(I9.pin (b,o) (NR _ (NR _ (pQ hb e)))).2.1
   refine Oc (hc pins _ _ _ fp ([]++iQ fp s7.heap) s8 _ H8 _ I8' q8) (λok s9 Zz=>?_) λ_ _ z=>z;obtain⟨H9,I9,q9⟩:=Zz
   cases ok with
   |false =>
    rw[Nr NM] at q9 ⊢;obtain⟨m',hm,w9⟩:=q9
    exact again I9 hm w9
   |true =>
    rw[Nn rfl] at q9 ⊢;refine Oc (he pins _ _ _ fp ([]++iQ fp s7.heap) s9 _ H9 _ I9 q9) (λy s10 Zz=>?_) λ_ _ z=>z;obtain⟨v,H10,I10,r10,hD10,m',hm,w10⟩:=Zz
    refine Oc (xN (X:=(cT X pins ns jf scope (d7 X.env scope.names []) { s2 with heap:=hp3 } (upd H2 s2.heap.objs.size (.lst [])) fp)) ([]++iQ fp s7.heap) s10 (fC (us.map some) jf σ) H10 (.ref s2.heap.objs.size) [v] (.ref s2.heap.objs.size) [y] (λ_ H'=>H'=upd H10 s2.heap.objs.size (.lst (ys++[v]))) I10 rfl (.cons r10 .nil) ⟨_,ys,v,rfl,rfl,hD10,hlen,rfl⟩)
     (λ_ s11 ⟨_,H11,I11,_,e11⟩=>?_) λ_ _ z=>z
    subst e11;exact again I11 hm w10
 exact codeAny_compStart_list loop (T.self _ 0 _ _ _ st4 loop)
def FY(hcalm:X.calm=true)(hg:∀ pins cl s H fp,PG (cT X pins ns jf scope cl s H fp) tg g)(hi:PI X tg iter wi)(hc:∀ pins cl s H fp,kO (cT X pins ns jf scope cl s H fp) ifs tc)(he:∀ pins cl s H fp,PE (cT X pins ns jf scope cl s H fp) elt te)(C:CompOk X ns jf scope)(hs:∀ x,foldedSetIterable iter X.env x=pure x:=by intro _;rfl) :
  PE X (.ListComp elt [⟨tg,iter,ifs,0⟩] scope pos) (p7 ns.length g jf wi tc te):=by
 intro pins s σ H Q I h;rw[eval_ListComp];refine xW hcalm hg hi hc he C (use:=none) (Qf:=EP X pins σ Q) I h (λD C s6 H6 m6 I6 q6 f6 n6=>?_) hs
 refine⟨m6,n6,λh' hs'=>⟨.ref D,H6,?_,rfl,q6⟩⟩
 exact I6.turnedL (fp:=[C]) (t':=s6.toks) (λb o hb q=>(hs'.2 b (λz=>hb (by simp[z]))).trans q) (λb hb=>by
  have e:b=C:=by simpa using hb
  subst e;exact f6)
def FZ{y:Str}{py spos:Pos}{i:Nat}(hcalm:X.calm=true)(hg:∀ pins cl s H fp,PG (cT X pins ns jf scope cl s H fp) tg g)(hi:PI X tg iter wi)(hc:∀ pins cl s H fp,kO (cT X pins ns jf scope cl s H fp) ifs tc)(he:∀ pins cl s H fp,PE (cT X pins ns jf scope cl s H fp) elt te)(C:CompOk X ns jf scope)(hNX:X.N.Nodup)(hi':X.N[i]?=some y)(hy:X.env.scope.names.lookup y=some .local)
  (hsw:swapsWith (.ListComp elt [⟨tg,iter,ifs,0⟩] scope pos) (some (.Name y py)) spos.line X.env=pure true)(hs:∀ x,foldedSetIterable iter X.env x=pure x:=by intro _;rfl) :
  PS X (.Assign [.Name y py] (.ListComp elt [⟨tg,iter,ifs,0⟩] scope pos) spos) (i9 (p7 ns.length g jf wi tc te) (mf i)):=by
 intro pins s σ H D I h;rw[exec_Assign_Name_used _ _ _ _ hsw];refine Nj (QD (Nj ?_))
 show wpAny _ X.A (do let _ <- comprehension (.ListComp elt [⟨tg,iter,ifs,0⟩] scope pos) scope X.env _ (newList []) false (eval iter X.env) (some (assign (.Name y py) X.env))) _ _ s
 refine Nj (Oc (xW (Qf:=λ_ s'=>SP X pins D .next s') hcalm hg hi hc he C (use:=some (assign (.Name y py) X.env)) I h (λD' C s6 H6 m6 I6 q6 f6 n6=>?_) hs) (λ_ s' hq=>Nu (Nu hq)) λ_ _ e=>e)
 refine R9 (xa I6 hNX hi' (.inl hy) (v:=.ref D') rfl (λs7 I7 Zz=>?_) (.inr hy));obtain⟨a,hsa,ha⟩:=Zz
 have ne:C≠a:=by
  rcases ha with z|z
  ·rw[z];exact f6.2.1
  ·exactλq=>f6.2.2.2.2.1 y a z q.symm
 refine⟨m6,n6.sameBut hsa ne,λh' hs'=>⟨_,H6,?_,q6⟩⟩
 exact I7.turnedL (fp:=[C]) (t':=s7.toks) (λb o hb q=>(hs'.2 b (λz=>hb (by simp[z]))).trans q) (λb hb=>by
  have e:b=C:=by simpa using hb
  subst e;exact f6)
end
section
variable{X:Cx}{a b e:Expr}{ta tb:TE}{p p2 pos:Pos}
def F8{c:V}{cv:ZC}(rc:∀ u,RelV c u->u=cv) :
  CallR X (.builtin "isinstance") (λxs H Q=>∃ x t r,xs=[x,c]/\cE X.K H x t/\PySem.W.kitOne X.K t cv=some r/\Q (.bl r) H):=by
 intro pins s σ H xs us Q I r h;obtain⟨x,t,k,rfl,ty,hk,q⟩:=h;obtain⟨u,w',rfl,rx,ry⟩:=nI r;obtain rfl:=rc _ ry;exact Ez I rx ty hk λtk=>⟨.bl k,H,I.tok _,rfl,q⟩
def xX(n:String):∀ u,RelV (.ty n) u->u=Value.type n:=(λ_ r=>r)
def F9(c:ZE):∀ u,RelV (.ref c) u->u=Value.ref c:=(λ_ r=>r)
def Ga:OpR X (compareOp .LtE) (λx y H Q=>∃ i j,x=.str i/\y=.str j/\Q (.bl (!decide (j.cps.toList<i.cps.toList))) H):=by
 intro pins s σ H x y v u Q I rx ry h;obtain⟨i,j,rfl,rfl,q⟩:=h;obtain⟨t,rfl⟩:=rx;obtain⟨t',rfl⟩:=ry;exact PySem.P.le_str (bV I q rfl)
def Gb:iR X "str.count" (λx vs H Q=>∃ z y,x=.str z/\vs=[.str y]/\Q (.int ((Builtin.Str.occurrences z y 0 z.length (z.length+1)).length:Nat)) H):=by
 intro pins s σ H x vs v us Q I rx rv h;obtain⟨z,y,rfl,rfl,q⟩:=h;obtain⟨t,rfl⟩:=rx;obtain⟨u,rfl,t',rfl⟩:=jd rv;exact call_gives F.slot_str_count (Qo s z t) F.entry_str_count (F.args_str_count_2 _ _) (gives_str_count z y t t') ⟨.int _,H,I.tok _,⟨_,rfl⟩,q⟩
def Gc(l:List (Array Nat)):∀ acc:Array Nat,(l.foldl (· ++ ·) acc).toList=acc.toList++(l.map Array.toList).flatten:=by
 induction l with
 |nil=>intro acc;simp
 |cons x r ih=>intro acc;rw[Rb,ih];simp
def Ge(hc:X.calm=true):CallR X (.builtin "all") (λxs H Q=>∃ (a:ZE) (bs:List Bool),xs=[.ref a]/\SqL X.K H a (bs.map V.bl)/\Q (.bl (bs.all id)) H):=by
 intro pins s σ H xs us Q I r h;obtain⟨l,bs,rfl,hq,q⟩:=h;obtain⟨u,rfl,rx⟩:=jd r
 cases rx
 obtain⟨its,rv,pl,hz⟩:=I.list hq;have hlt:l<s.heap.objs.size:=by obtain⟨_,_,e,_⟩:=pl;exact Ny e
 have hlen:its.length=bs.length:=by rw[<- rv.length,Nw]
 refine call_all_walk (Qy pl.isList ?_)
 refine⟨s.heap.objs.size,[s.heap.objs.size,l],[s.heap.objs.size],its.toArray.size,_,_,λi=>(bs[i]?).getD true,rfl,Walks.list (A:=X.A.in1) (I.ok.hd hc) _ l (NX hlt) its.toArray,
  ⟨⟨_,NC _ rfl,rfl,rfl⟩,pl.isList.push _⟩,λi v s' Q' E' hP hQ=>?_,λh' tk hk=>?_⟩
 ·have hP':its[i]?=some v:=by simpa using hP
  have hi:i<its.length:=(Ni.mp hP').1;have hb:(bs.map V.bl)[i]?=some (V.bl (bs[i]'(by omega))):=by rw[NY,Nx (by omega)];rfl
  obtain⟨u,hu,ru⟩:=rv.get hb;rw[hP'] at hu
  cases hu
  cases ru
  have e:(bs[i]?).getD true=bs[i]'(by omega):=by rw[Nx (by omega)];rfl
  have hQ2:Q' ((bs[i]?).getD true) s':=hQ;rw[e] at hQ2;exact NI hQ2
 ·have e:((List.range its.toArray.size).all λi=>(bs[i]?).getD true)=bs.all id:=by
   rw[NB,hlen,OE,Oa,Oa];constructor
   ·intro z c hc'
    obtain⟨i,hi,rfl⟩:=Pu hc';have:=z i (Qh.mpr hi);rw[Nx hi] at this;exact this
   ·intro z i hi
    have hi':=Qh.mp hi;rw[Nx hi'];exact z _ (OZ hi')
  rw[e];refine⟨.bl _,H,I.kept (t':=tk) λb o q=>?_,rfl,q⟩
  exact hk b o (λhm=>by rw[Pe.mp hm] at q;exact OK _ (Ny q)) (Nq _ q)
end
section
variable{X:Cx}
def Gg:OpR X (binaryOp .FloorDiv) (rI (λ_ j=>0<j/\j<2 ^ 200) λi j=>.int (i / j)):=(pR λi j _ _ _ _ _ hc q=>by
 obtain⟨h1,h2⟩:=hc;refine floordiv_int ⋯ (by rw[Int.fdiv_eq_ediv_of_nonneg i ⋯];exact q) (.inl (PyProof.noPylong_of_log2 ?_))
 have h3:j.natAbs<2 ^ 200:=by lia
 have h4:j.natAbs.log2<200:=(Nat.log2_lt ⋯).mpr h3;lia)
def Gh:OpR X (binaryOp .Mult) (rI IntMulOk λi j=>.int (i*j)):=(pR λ_ _ _ _ _ _ _ hc q=>mul_int q hc)
end
def gy:bootBuiltins "int"=some (.type "int"):=by decide +kernel
def Gi:bootBuiltins "bool"=some (.type "bool"):=by decide +kernel
def xY:bootBuiltins "str"=some (.type "str"):=by decide +kernel
open Sem (wp)
def DkH(h h':Heap):Prop:=∀ b o,h.get? b=some o->∃ o',h'.get? b=some o'/\o'.dict=o.dict
def DkH.refl(h:Heap):DkH h h:=(λ_ o e=>⟨o,e,rfl⟩)
def cx{α:Type}(m:Sem α):Prop:=∀ (M:Model) (Γ:PySem.Ctx) (Q:α->Pos->ZB->Prop) (E:ZC->Pos->ZB->Prop) (p:Pos) (s:ZB) (h0:Heap),DkH h0 s.heap->wp M Γ m Q E p s->wp M Γ m (λa p' s'=>Q a p' s'/\DkH h0 s'.heap) E p s
section
variable{α β:Type}
def cO{m:Sem α}{f:α->Sem β}(h:cx m)(g:∀ a,cx (f a)):cx (m >>= f):=(λM Γ Q E p s h0 d q=>by
 rw[Sem.wp_bind'] at q ⊢;exact Sem.wp_mono M Γ m (λa p' s' z=>g a M Γ _ _ p' s' h0 z.2 z.1) (λ_ _ _ x=>x) p s (h M Γ _ _ p s h0 d q))
def dw(a:α):cx (pure a:Sem α):=(λM Γ Q E p s h0 d q=>by
 have q':Q a p s:=q;exact(show wp M Γ (Sem.pure a) _ E p s by rw[wp];exact⟨q',d⟩))
def iT(w:String):cx (Sem.unsupported w:Sem α):=(λM Γ Q E p s h0 d q=>by rw[wp] at q;exact q.elim)
def Gj{a:ZE}{pt:Option ZC}{k:Obj->Sem α}(h:∀ o,cx (k o)):cx (Sem.load a pt k):=(λM Γ Q E p s h0 d q=>by
 rw[wp] at q ⊢;obtain⟨o,h1,h2⟩:=q
 exact⟨o,h1,h o M Γ _ _ p _ h0 d h2⟩)
def Gn{k:List (Code×Pos)->Sem α}(h:∀ o,cx (k o)):cx (Sem.stack k):=(λM Γ Q E p s h0 d q=>by
 rw[wp] at q ⊢;exact h _ M Γ _ _ p _ h0 d q)
def Gp{o:Obj}{k:ZE->Sem α}(h:∀ o,cx (k o)):cx (Sem.alloc o k):=(λM Γ Q E p s h0 d q=>by
 rw[wp] at q ⊢;exact h _ M Γ _ _ p { s with heap:=s.heap.push o } h0 (λb o' e=>by
  obtain⟨o2,e2,e3⟩:=d b o' e;exact⟨o2,Nq _ e2,e3⟩) q)
def Gq{a:ZE}{pt:Option ZC}{f:Obj->Obj}{k:Unit->Sem α}(hf:∀ o,(f o).dict=o.dict/\(o.isFreed=false->(f o).isFreed=false))(h:∀ o,cx (k o)):cx (Sem.update a pt f k):=(λM Γ Q E p s h0 d q=>by
 rw[wp] at q ⊢;refine⟨q.1,h _ M Γ _ _ p { s with heap:=s.heap.update a f } h0 (λb o' e=>?_) q.2⟩
 obtain⟨o2,e2,e3⟩:=d b o' e;by_cases hb:b=a
 ·subst hb
  exact⟨f o2,Ph f e2 ((hf o2).2 (Heap.get?_some_iff.mp e2).2),(hf o2).1.trans e3⟩
 ·exact⟨o2,(Heap.get?_update_ne _ _ _ _ hb).trans e2,e3⟩)
end
def tN(a:ZE):cx (load a):=(Gj λo=>dw o)
def xZ{a:ZE}{f:Obj->Obj}(hf:∀ o,(f o).dict=o.dict/\(o.isFreed=false->(f o).isFreed=false)):cx (update a f):=(Gq hf λo=>dw o)
def Gr(v:ZC):cx (fieldsOf v):=by
 unfold fieldsOf
 cases v<;>first|exact iT _|skip
 refine cO (tN _) λo=>?_
 cases o.data<;>first|exact dw _|exact iT _
def p8(v:ZC)(i:Nat):cx (field v i):=by
 unfold field;refine cO (Gr v) λo=>?_
 cases o[i]? <;> first|exact dw _|exact iT _
def Gs(g:Array ZC->Array ZC)(o:Obj):(Obj.mapFields g o).dict=o.dict/\(o.isFreed=false->(Obj.mapFields g o).isFreed=false):=by
 obtain⟨c,d,dt,sl⟩:=o
 cases dt<;>exact⟨rfl,λh=>h⟩
def p9(v:ZC)(i:Nat)(x:ZC):cx (setField v i x):=by
 unfold setField
 cases v<;>first|exact iT _|skip
 unfold updateField;refine cO (tN _) λo=>?_
 cases o.data<;>first|exact iT _|skip
 dsimp only;split
 ·exact xZ (Gs _)
 ·exact iT _
def x6(e:ZC)(fr:Option ZE):cx (setFlight e fr):=by
 unfold setFlight;refine cO (p8 e 1) λtb=>?_
 split
 ·exact p9 _ _ _
 ·exact dw _
def Gu(env:Env)(outer:List Env):cx (behindIsImport env outer):=by
 unfold behindIsImport;split
 ·exact dw _
 ·split
  ·exact dw _
  ·exact cO (p8 _ _) λ_=>dw _
def tP:cx stack:=(Gn λo=>dw o)
def Gw:cx underTheClaimsCaller:=by
 unfold underTheClaimsCaller;exact cO tP λ_=>dw _
def Gx(env:Env)(b:Bool)(l:List Env):cx (keptBack env b l):=by
 unfold keptBack
 cases l with
 |nil =>
  dsimp only;split
  ·exact dw _
  ·exact cO Gw λ_=>dw _
 |cons=>exact dw _
theorem x8:∀ l:List Env,cx (readyFrames l)
 |[]=>dw _
 |env::outer=>by
  unfold readyFrames
  cases env.frame with
  |none=>exact iT _
  |some f =>
   refine cO (tN f) λo=>?_
   split
   ·exact dw _
   ·refine cO (Gu _ _) λb=>cO (Gx _ _ _) λv=>cO (xZ λo=>⟨rfl,λh=>by obtain⟨c,d,dt,sl⟩:=o;cases dt<;>exact h⟩) λ_=>x8 outer
def x9(env:Env):cx (PySem.frameOf env):=by
 unfold PySem.frameOf frameEnvs;refine cO (cO tP λ_=>dw _) λl=>cO ?_ λr=>?_
 ·generalize l.dropWhile _=m
  unfold frameObject
  cases m with
  |nil=>exact dw _
  |cons e r=>exact cO (x8 _) λ_=>dw _
 ·cases r with
  |none=>exact iT _
  |some v=>exact dw _
def ya(f:ZE)(b:Bool):cx (entryPlaceOf f b):=by
 unfold entryPlaceOf;refine cO tP λl=>?_
 split
 ·exact dw _
 ·exact dw _
def yb(a b c d e:ZC)(l:List ZC):cx (EntryCells.newEntry a b c d e l):=by
 unfold EntryCells.newEntry newFields newObj;dsimp only;have k:∀ d,cx (newObjAsIs (.type "traceback") (.fields d)):=λd=>by
  unfold newObjAsIs;exact cO (Gp λo=>dw o) λ_=>dw _
 generalize ([a,b,c,d,e]++if l.isEmpty=true then List.replicate 6 Value.none else l).toArray=arr
 split
 ·exact cO (iT _) λ_=>k _
 ·exact k _
def Gy(e:ZC)(env:Env):cx (noteFrame e env):=by
 unfold noteFrame
 cases env.frame with
 |none=>exact iT _
 |some f =>
  refine cO (p8 e 1) λh=>?_
  dsimp only;split
  ·refine cO (p8 h 3) λx=>?_
   split
   ·exact dw _
   ·exact cO (p9 _ _ _) λ_=>cO (x9 env) λ_=>cO (ya _ _) λ_=>cO (yb _ _ _ _ _ _) λ_=>p9 _ _ _
  ·exact cO (x9 env) λ_=>cO (ya _ _) λ_=>cO (yb _ _ _ _ _ _) λ_=>p9 _ _ _
def tQ{α:Type}{M:Model}{A:ZG}{t:Sem α}{Q:α->ZB->Prop}{E:ZC->ZB->Prop}{s:ZB}{h0:Heap}(k:cx t)(d:DkH h0 s.heap)(h:wpAny M A t Q E s):wpAny M A t (λa s'=>Q a s'/\DkH h0 s'.heap) E s :=(
 λΓ p hΓ=>k M Γ _ _ p s h0 d (h Γ p hΓ))
def ObjOk.some{P:ZD}{w:ZF}{H:Hp}{h:Heap}{a:ZE}{o:HO}(x:ObjOk P w H h a o):∃ ob,h.get? a=Option.some ob:=by
 cases o with
 |lst xs=>obtain⟨_,_,_,_,e⟩:=x;exact⟨_,e⟩
 |tup xs=>obtain⟨_,_,_,o,e,_⟩:=x;exact⟨o,e⟩
 |dK kvs=>obtain⟨_,_,_,_,o,_,_,e,_⟩:=x;exact⟨_,e⟩
 |dT xc kvs=>obtain⟨_,_,_,_,o,_,_,e,_⟩:=x;exact⟨_,e⟩
 |set S n=>obtain⟨o,_,_,_,e,_⟩:=x;exact⟨_,e⟩
 |ins C dx fs=>obtain⟨_,_,_,e,_⟩:=x;exact⟨_,e⟩
 |own y=>obtain⟨_,e⟩:=x;exact⟨_,e⟩
 |xd fs=>obtain⟨_,⟨_,_,_,e,_⟩,_⟩:=x;exact⟨_,e⟩
 |rng lo hi=>obtain⟨_,_,_,e⟩:=x;exact⟨_,e⟩
 |frz ob u=>obtain⟨e,_⟩:=x;exact⟨_,e⟩
 |tbl ps=>exact⟨_,(show h.get? a=Option.some _ from x)⟩
 |met f y=>exact⟨_,(show h.get? a=Option.some _ from x)⟩
 |ext φ=>obtain⟨_,⟨_,e⟩,_⟩:=x;exact⟨_,e⟩
def gz(X:Cx)(pins:List (ZE×Obj))(H:Hp)(h B:Heap):Prop :=
 ∀ b o,h.get? b=some o->b∉dJ X.stack->((∃ u,H b=some u)\/(∃ o',X.s₀.heap.get? b=some o')\/∃ p∈X.pn++pins,p.1=b)->B.get? b=some o
section
variable{X:Cx}{pins:List (ZE×Obj)}{σ:St}{H:Hp}{s:ZB}
def Inv.nofr(I:Inv X pins σ H s){b:ZE}{o:Obj}(e:X.s₀.heap.get? b=some o)(hb:b∉X.fs):b∉dJ X.stack:=(λz=>by
 rcases ND.mp (I.stkSub b z) with q|q
 ·exact NX (NH (Ny e) I.ok.above) q
 ·exact hb q)
def Inv.nofrT(I:Inv X pins σ H s){b:ZE}{u:HO}(e:H b=some u):b∉dJ X.stack:=(λz=>by
 have q:=I.stkFree b z;rw[q] at e
 cases e)
def Inv.nofrP(I:Inv X pins σ H s){p:ZE×Obj}(hp:p∈X.pn++pins):p.1∉dJ X.stack:=(λz=>by
 obtain⟨_,_,ne,nf,_⟩:=I.pin p hp;rcases ND.mp (I.stkSub p.1 z) with q|q
 ·exact ne q
 ·exact nf q)
def Inv.flown{B h':Heap}{t':Nat}(I:Inv X pins σ H s)(hex:X.ex=[])(F:gz X pins H s.heap B)(st:B.StaysIn h')(sm:s.heap.UpToSlots h'):Inv X pins σ H { s with heap:=h',toks:=t' }:=by
 have nx:∀ b,b∉X.ex:=λb z=>by rw[hex] at z;cases z
 refine⟨I.ok,I.os,I.bare,⟨λb o e n hb hx=>?_,λb o e n hb hx=>?_,I.base.free,λb o e hx=>?_,I.base.tups,I.base.frzs,I.base.tbls⟩,?_,λx c e=>?_,I.free,I.freeC,λp hp=>?_,λb u e=>?_,I.len⟩
 ·exact st b o (F b o (I.base.keep b o e n hb hx) (I.nofr e hb) (.inr (.inl ⟨o,e⟩)))
 ·obtain⟨sl,q⟩:=I.base.slot b o e n hb hx
  obtain⟨_,o',ho',hd⟩:=I.funs.mem hb;rw[q] at ho'
  cases ho'
  obtain⟨sl',q'⟩:=sm b _ q hd;exact⟨sl',q'⟩
 ·obtain⟨o',q⟩:=I.base.there b o e hx
  by_cases hb:b∈X.fs
  ·obtain⟨_,o'',ho'',hd⟩:=I.funs.mem hb
   rw[q] at ho''
   cases ho''
   obtain⟨sl',q'⟩:=sm b _ q hd;exact⟨_,q'⟩
  ·exact⟨o',st b o' (F b o' q (I.nofr e hb) (.inr (.inl ⟨o,e⟩)))⟩
 ·obtain⟨m,hn,hl⟩:=I.loc
  refine⟨m,sm.ns hn,λi x v e1 e2 e3=>?_⟩
  obtain⟨u,r,l⟩:=hl i x v e1 e2 e3;refine⟨u,r,?_⟩
  rcases l with l|⟨k,c,e,o,ho,hd⟩
  ·exact .inl l
  ·obtain⟨sl,q⟩:=sm c o ho λvs z=>by rw[hd] at z;cases z
   exact .inr ⟨k,c,e,_,q,hd⟩
 ·obtain⟨v,o,ho,hd⟩:=I.cell x c e
  obtain⟨sl,q⟩:=sm c o ho λvs z=>by rw[hd] at z;cases z
  exact⟨v,_,q,hd⟩
 ·obtain⟨e,n,ne,nf,d⟩:=I.pin p hp
  exact⟨st _ _ (F _ _ e (I.nofrP hp) (.inr (.inr ⟨p,hp,rfl⟩))),n,ne,nf,d⟩
 ·refine(I.hok b u e).stay (λc v hc q=>?_) (λ_ q=>q) λ_ _ q=>q
  rcases hc with z|z
  ·subst z
   exact st _ _ (F _ _ q (I.nofrT e) (.inl ⟨_,e⟩))
  ·exact st _ _ (F _ _ q (I.nofrT z) (.inl ⟨_,z⟩))
def Inv.adopt0{T:ZE}{ob:HO}(I:Inv X pins σ H s)(hn:H T=none)(hT:X.s₀.heap.get? T=none)(hL:T≠X.env.locals)(hc:∀ x c,X.env.cells.lookup x=some c->c≠T)
  (hp:∀ p∈X.pn++pins,p.1≠T)(new:ObjOk X.prog X.w (upd H T ob) s.heap T ob):Inv X pins σ (upd H T ob) s:=by
 have hne:∀ b u,H b=some u->b≠T:=λb u e=>fA e hn
 have hs:∀ b o,X.s₀.heap.get? b=some o->b≠T:=λb o e z=>by rw[z,hT] at e;cases e
 refine⟨I.ok,I.os,I.bare,⟨I.base.keep,I.base.slot,λb o e n hx=>by rw[aZ (hs b o e)];exact I.base.free b o e n hx,I.base.there,λb xs e=>?_,λb o u e=>?_,λb ps e=>?_⟩,I.loc,I.cell,by rw[aZ (Ne.symm hL)];exact I.free,λx c e=>by rw[aZ (hc x c e)];exact I.freeC x c e,λp hp'=>?_,λb u e=>?_,I.len⟩
 ·have q:=I.base.tups b xs e
  rw[aZ (hne b _ q)];exact q
 ·have q:=I.base.frzs b o u e
  rw[aZ (hne b _ q)];exact q
 ·obtain⟨more,q⟩:=I.base.tbls b ps e
  exact⟨more,by rw[aZ (hne b _ q)];exact q⟩
 ·obtain⟨e,n,ne,nf,d⟩:=I.pin p hp'
  exact⟨e,by rw[aZ (hp p hp')];exact n,ne,nf,d⟩
 ·by_cases hb:b=T
  ·subst hb;rw[dH] at e;cases e;exact new
  ·rw[aZ hb] at e
   exact(I.hok b u e).stay (λc v _ q=>q) (λc q=>by rw[aZ (hne c _ q)];exact q) λc xs q=>by rw[aZ (hne c _ q)];exact q
end
structure Arr(X:Cx)(pins:List (ZE×Obj))(σ:St)(H:Hp)(a:ZE)(cls:ZC)(dx:Option ZE)(s:ZB):Prop where
 inv:Inv X pins σ H s
 un:H a=none
 new:X.s₀.heap.get? a=none
 nl:a≠X.env.locals
 nc:∀ x c,X.env.cells.lookup x=some c->c≠a
 np:∀ p∈X.pn++pins,p.1≠a
 dic:∃ ob,s.heap.get? a=some ob/\ob.dict=dx
 fly:∃ B a0,gz X pins H s.heap B/\B.StaysIn s.heap/\B.get? a=none/\s.heap.FunFrames B X.stack /\
  ((∃ oe vs,s.heap.get? a=some oe/\oe.cls=cls/\oe.data=.fields vs/\vs[0]?=some a0/\vs[1]?=some .none)\/s.heap.TracedW B a cls a0)
def cL(P:ZD)(w:ZF):fB:=λouter H s E e s'=>∃ (a:ZE) (cls a0:ZC) (dx:Option ZE) (H':Hp) (B:Heap),e=.ref a/\s'.os=s.os/\AllBare s'.gens/\Un (dJ outer) [] H H' s.heap s'.heap/\HOk P w H' s'.heap /\
 Heap.FlyingW B outer a cls a0 s'.heap/\(∀ b o,s'.heap.get? b=some o->b∉dJ outer->((∃ u,H' b=some u)\/∃ o',s.heap.get? b=some o')->B.get? b=some o)/\H' a=none/\s.heap.get? a=none/\(∃ ob,s'.heap.get? a=some ob/\ob.dict=dx)/\E cls dx H'
section
variable{X:Cx}{pins:List (ZE×Obj)}{σ:St}{H:Hp}{s:ZB}
def Gz{h':Heap}{e:ZE}{cls:ZC}{args:List ZC}{t':Nat}(I:Inv X pins σ H s)(hex:X.ex=[])(hx:Heap.MadeExcOf s.heap h' e cls args):Arr X pins σ H e cls none { s with heap:=h',toks:=t' }:=by
 have nx:∀ b,b∉X.ex:=λb z=>by rw[hex] at z;cases z
 have none_of:∀ b o,s.heap.get? b=some o->b≠e:=λb o q z=>by rw[z,hx.new] at q;cases q
 have eq_of:∀ b o o1,h'.get? b=some o->s.heap.get? b=some o1->o1=o:=λb o o1 q q1=>by
  have z:=hx.keeps b o1 q1;rw[q] at z;exact(N8 z).symm
 obtain⟨t,he,_,_⟩:=hx.there;refine⟨I.kept hx.keeps,?_,?_,λz=>?_,λx c q z=>?_,λp hp z=>?_,⟨_,he,rfl⟩,PySem.W.hideAll s.heap (dJ X.stack),.ref t,λb o q nb alt=>?_,λb o q=>hx.keeps b o (Qg _ q),?_,?_,.inl ⟨_,_,he,rfl,rfl,rfl,rfl⟩⟩
 ·cases q:H e with
  |none=>rfl
  |some u =>
   obtain⟨ob,z⟩:=(I.hok e u q).some;exact absurd rfl (none_of e ob z)
 ·cases q:X.s₀.heap.get? e with
  |none=>rfl
  |some o =>
   obtain⟨ob,z⟩:=I.base.there e o q (nx e);exact absurd rfl (none_of e ob z)
 ·obtain⟨m,⟨o,_,_,ho,_⟩,_⟩:=I.loc
  exact none_of _ o ho z.symm
 ·obtain⟨v,o,ho,_⟩:=I.cell x c q
  exact none_of _ o ho z
 ·exact none_of _ _ (I.pin p hp).1 z
 ·have there:∃ o1,s.heap.get? b=some o1:=by
   rcases alt with⟨u,q'⟩|⟨o',q'⟩|⟨p,hp,rfl⟩
   ·exact(I.hok b u q').some
   ·exact I.base.there b o' q' (nx b)
   ·exact⟨_,(I.pin p hp).1⟩
  obtain⟨o1,q1⟩:=there;rw[<- eq_of b o o1 q q1];exact RI _ q1 nb
 ·cases q:(PySem.W.hideAll s.heap (dJ X.stack)).get? e with
  |none=>rfl
  |some o=>exact absurd rfl (none_of e o (Qg _ q))
 ·refine(PySem.W.funFrames_hide I.stack λenv henv b hb=>Qj.mpr ⟨env,henv,hb⟩).of_keeps λb o q _=>⟨o,hx.keeps b o q,rfl⟩
def yc{E:XK}{e:ZC}{s':ZB}(I:Inv X pins σ H s)(hex:X.ex=[])(h:cL X.prog X.w X.stack H s E e s'):∃ a cls dx H',e=.ref a/\Arr X pins σ H' a cls dx s'/\E cls dx H':=by
 obtain⟨a,cls,a0,dx,H',B,rfl,os,bare,un,hok,⟨f1,f2,f3,f4⟩,ext,na,ns,dk,q⟩:=h;have nx:∀ b,b∉X.ex:=λb z=>by rw[hex] at z;cases z
 have none_of:∀ b o,s.heap.get? b=some o->b≠a:=λb o q z=>by rw[z,ns] at q;cases q
 refine⟨a,cls,dx,H',rfl,⟨I.call' (ch:=[]) os un hok bare (λb z=>absurd z 's'),na,?_,λz=>?_,λx c q z=>?_,λp hp z=>?_,dk,B,a0,λb o q nb alt=>?_,f1,f2,f3,.inr f4⟩,q⟩
 ·cases q:X.s₀.heap.get? a with
  |none=>rfl
  |some o =>
   obtain⟨ob,z⟩:=I.base.there a o q (nx a);exact absurd rfl (none_of a ob z)
 ·obtain⟨m,⟨o,_,_,ho,_⟩,_⟩:=I.loc
  exact none_of _ o ho z.symm
 ·obtain⟨v,o,ho,_⟩:=I.cell x c q
  exact none_of _ o ho z
 ·exact none_of _ _ (I.pin p hp).1 z
 ·refine ext b o q nb ?_
  rcases alt with⟨u,q'⟩|⟨o',q'⟩|⟨p,hp,rfl⟩
  ·exact .inl ⟨u,q'⟩
  ·exact .inr (I.base.there b o' q' (nx b))
  ·exact .inr ⟨_,(I.pin p hp).1⟩
def Arr.land0{a:ZE}{cls:ZC}{dx:Option ZE}{Q:Unit->ZB->Prop}{E:ZC->ZB->Prop}{M:Model}{A:ZG}(R:Arr X pins σ H a cls dx s)(hex:X.ex=[])(hfr:A.frames=some X.stack){outer:List Env}(hst:X.stack=X.env::outer)(hf:X.env.frame=some X.env.locals)
  (hQ:∀ h' B a0,gz X pins H s.heap B->Heap.FlyingW B X.stack a cls a0 h'->s.heap.UpToSlots h'->Inv X pins σ H { s with heap:=h' }->Q () { s with heap:=h' }) :
  wpAny M A (noteFrame (.ref a) X.env) (λ_ s₂=>wpAny M A (setFlight (.ref a) none) Q E s₂) E s:=by
 obtain⟨B,a0,fm,st,hb,ff,alt⟩:=R.fly;have after:∀ h4,Heap.HeldW B X.stack a cls a0 X.env.locals h4->s.heap.UpToSlots h4->wpAny M A (setFlight (.ref a) none) Q E { s with heap:=h4 }:=λh4 hh sm=>by
  refine wpAny_landsW (s:={ s with heap:=h4 }) hh λh5 fl sm5=>?_
  have sm':s.heap.UpToSlots h5:=sm.trans sm5;exact hQ h5 B a0 fm fl sm' (R.inv.flown (t':=s.toks) hex fm fl.1 sm')
 rw[hst] at hfr;rw[hst] at ff;rcases alt with⟨oe,vs,he,hc,hd,h0,h1⟩|tr
 ·subst hc
  have hsz:1<vs.size:=(Array.getElem?_eq_some_iff.mp h1).1;unfold noteFrame;simp only[hf]
  refine Nj (RC he hd h1 ?_)
  rw[Nr 'd'];refine wpAny_entryW hfr ff hf he st hb hd hsz h0 λh4 hN=>?_
  obtain⟨k1,k2,k3,k4⟩:=hN;exact after h4 (by rw[hst];exact⟨k1,hb,k2,k3⟩) k4
 ·exact wpAny_looks_onW hfr hf ⟨st,hb,ff,tr⟩ λh4 hh sm=>after h4 (by rw[hst];exact hh) sm
def Arr.land{a:ZE}{cls:ZC}{dx:Option ZE}{Q:Unit->ZB->Prop}{E:ZC->ZB->Prop}{M:Model}{A:ZG}(R:Arr X pins σ H a cls dx s)(hex:X.ex=[])(hfr:A.frames=some X.stack){outer:List Env}(hst:X.stack=X.env::outer)(hf:X.env.frame=some X.env.locals)
  (hQ:∀ h' B a0,gz X pins H s.heap B->Heap.FlyingW B X.stack a cls a0 h'->s.heap.UpToSlots h'->Inv X pins σ H { s with heap:=h' }->(∃ ob,h'.get? a=some ob/\ob.dict=dx)->Q () { s with heap:=h' }) :
  wpAny M A (noteFrame (.ref a) X.env) (λ_ s₂=>wpAny M A (setFlight (.ref a) none) Q E s₂) E s:=by
 refine Oc (tQ (Gy _ _) (DkH.refl _) (R.land0 (E:=E) (Q:=λ_ s'=>∃ h' B a0,s'={ s with heap:=h' }/\gz X pins H s.heap B/\Heap.FlyingW B X.stack a cls a0 h'/\s.heap.UpToSlots h'/\Inv X pins σ H { s with heap:=h' }) hex hfr hst hf λh' B a0 z1 z2 z3 z4=>⟨h',B,a0,rfl,z1,z2,z3,z4⟩)) (λ_ s2 h2=>?_) λ_ _ z=>z
 refine Oc (tQ (x6 _ _) h2.2 h2.1) (λ_ s3 h3=>?_) λ_ _ z=>z
 obtain⟨⟨h',B,a0,rfl,z1,z2,z3,z4⟩,dk⟩:=h3;obtain⟨ob,e1,e2⟩:=R.dic;obtain⟨ob',e3,e4⟩:=dk a ob e1;exact hQ h' B a0 z1 z2 z3 z4 ⟨ob',e3,e4.trans e2⟩
def yd{P:ZD}{w:ZF}{K:ZA}{mg:Str->Option ZC}{base:Heap}{N:List Str}{qual:Str}{scope:Scope}{f:ZE}{cd:ZC}{A:ZG}{outer:List Env}{s0:ZB}{H0:Hp}{E:XK}{a:ZE}{cls:ZC}{dx:Option ZE}
  (R:Arr (bQ (cL P w) P w K mg base N qual scope f cd A outer s0 H0 E) pins σ H a cls dx s)(q:E cls dx H):(bQ (cL P w) P w K mg base N qual scope f cd A outer s0 H0 E).xe (.ref a) s:=by
 show wpAny _ _ (leaving _ _) _ _ s
 unfold leaving;refine Nj (R.land (E:=λe' s''=>cL P w outer H0 s0 E e' s'') rfl R.inv.ok.frames rfl rfl λh' B a0 fm fl sm I' dk=>?_)
 have I:=R.inv;obtain⟨k1,k2,⟨_,_,k3⟩,k4⟩:=fl;refine⟨a,cls,a0,dx,H,B,rfl,I'.os,I'.bare,I'.base,I'.hok,⟨k1,k2,k3,k4⟩,λb o e nb alt=>?_,R.un,R.new,dk,q⟩
 have nstk:b∉dJ (bQ (cL P w) P w K mg base N qual scope f cd A outer s0 H0 E).stack:=by
  rcases alt with⟨u,z⟩|⟨o',z⟩
  ·exact I.nofrT z
  ·exact I.nofr z nb
 have there:∃ o1,s.heap.get? b=some o1:=by
  rcases alt with⟨u,z⟩|⟨o',z⟩
  ·exact(I.hok b u z).some
  ·exact I.base.there b o' z (λz=>absurd (show b∈([]:List ZE) from z) 's')
 obtain⟨o1,q1⟩:=there;have z:B.get? b=some o1:=fm b o1 q1 nstk (by
  rcases alt with⟨u,z⟩|⟨o',z⟩
  ·exact .inl ⟨u,z⟩
  ·exact .inr (.inl ⟨o',z⟩))
 have z2:=k1 b o1 z;rw[show (Heap.get? h' b)=some o from e] at z2
 cases z2
 exact z
end
def mr(X:Cx)(Ex:St->XK):Prop:=∀ (pins:List (ZE×Obj)) (σ:St) (H:Hp) (s:ZB) (a:ZE) (cls:ZC) (dx:Option ZE),Arr X pins σ H a cls dx s->Ex σ cls dx H->X.xe (.ref a) s
def kP(CX:fB)(X:Cx)(Ex:St->XK):Prop:=∀ (pins:List (ZE×Obj)) (σ:St) (H:Hp) (s:ZB) (e:ZC) (s':ZB),Inv X pins σ H s->CX X.stack H s (Ex σ) e s'->X.xe e s'
section
variable{P:ZD}{w:ZF}{K:ZA}{mg:Str->Option ZC}{base:Heap}{N:List Str}{qual:Str}{scope:Scope}{f:ZE}{cd:ZC}{A:ZG}{outer:List Env}{s0:ZB}{H0:Hp}{E:XK}
def nR:mr (bQ (cL P w) P w K mg base N qual scope f cd A outer s0 H0 E) (λ_=>E):=(λ_ _ _ _ _ _ _ R q=>yd R q)
def GA:EE (cL P w) (bQ (cL P w) P w K mg base N qual scope f cd A outer s0 H0 E) E:=(λpins σ H s e s' I h=>by
 obtain⟨a,cls,dx,H',rfl,R,q⟩:=yc (X:=bQ (cL P w) P w K mg base N qual scope f cd A outer s0 H0 E) I rfl h;exact yd R q)
end
section
variable{X:Cx}{x:Str}{C:ZE}{bm:List ZC}{B newId initId:String}{np cpos pos:Pos}{e:Expr}{es:List Expr}{t:TA}{Ex:St->XK}
def GB(cls:ZC)(Ex:St->XK)(t:TA):TS:=λ_ σ H=>t σ H λvs H1=>vs.length<=1000/\Ex σ cls none H1
def GC (O:OwnCls x C bm newId X.mg X.base) (FB:ExcBaseFacts B newId initId bm) (hc:X.calm=true) (hex:X.ex=[]) (hr:mr X Ex) (hg:Gl X x) (ha:PA X (e::es) t)
  (hdb:(x==("__debug__":Str))=false:=by decide) (he:‹qE1 e es X.env›) (hpl:‹qF1 cpos es X.env›) :
  PS X (.Raise (some (.Call (.Name x np) (e::es) [] cpos)) none pos) (GB (.ref C) Ex t):=by
 intro pins s σ H D I h;obtain⟨tl,NN,nm,q,bs,hdct,sn,sub,ab,col,dd,k0,k1,k2,k3,k5,mN,hC,hN,hni,T⟩:=O.obj;refine wpAny_Raise_call_subT (C:=C) (nm:=nm) (q:=q) (N:=NN) (bs:=bs) (bm:=tl) (hdct:=hdct) (sn:=sn) (sub:=sub) (ab:=ab) (col:=col) (dd:=dd) (k0:=k0) (k1:=k1) (k2:=k2) (k3:=k3) (k5:=k5) FB (mN:=mN)
  (T.hasType FB.hasBase) (I.ok.hd hc) (by rw[he];show (false || (backTo cpos (starEach es X.env)).any (·.1))=false;rw[hpl];rfl) hni (kD I hg O.bound ⟨rfl,?_⟩ hdb)
 have hA:=ha cpos pins s σ H _ I h;rw[he] at hA ⊢;refine O4 (thn hA λus s2 ⟨vs,H1,I1,r1,hl,q1⟩=>⟨rfl,?_,I1.bk _ _ hC,hN.keeps I1.bk,T.keeps I1.bk,λh' a hm=>hr pins σ H1 _ a _ none (Gz (t':=s2.toks) I1 hex hm) q1⟩)
 show us.length<=sizeLine
 rw[<- r1.length];exact Np hl 'd'
end
section
variable{X:Cx}{CX:fB}{k:Nat}{f C:ZE}{fd:FuncData}{ps:List Str}{sp:Sp}{dvs:List V}{ds:List ZC}{Ex:St->XK}{x m:Str}{p pos apos:Pos}{e o:Expr}{es:List Expr}{ta:TE}{t:TA}
def qa{pins:List (ZE×Obj)}{σ:St}{H:Hp}{s:ZB}{Q:VK}{us:List ZC}{vs:List V}(F:FnOk X.prog X.w X.K X.mg X.base CX k f fd ps sp)(hr:Room k X.A)(hb:Binds X.K fd ps ds)(hd:Vals dvs ds)(hx:kP CX X Ex)
  (I:Inv X pins σ H s)(r:Vals vs us)(h:sp (vs++dvs) H Q (Ex σ)):wpAny (model X.prog X.w) X.A (call (.ref f) us) (EP X pins σ Q) X.xe s:=by
 have r2:Vals (vs++dvs) (us++ds):=r.append hd;have hl:(us++ds).length=ps.length:=by rw[<- r2.length];exact F.len _ _ _ _ h
 refine Qq (Q7 (F.run X.A X.stack s H ⟨us,[]⟩ (us++ds) (vs++dvs) Q (Ex σ) hr I.env0 (hb s us I.kIn hl) r2 h) λr s' hq=>?_)
 cases r with
 |error e=>exact hx pins σ H s e s' I hq
 |ok fl =>
  cases fl with
  |ret u=>exact I.after hq
  |next=>exact False.elim hq
  |brk=>exact False.elim hq
  |cont=>exact False.elim hq
def GD(sp:Sp)(dvs:List V)(Ex:St->XK)(t:TA):TE:=λσ H Q=>t σ H λvs H1=>sp (vs++dvs) H1 Q (Ex σ)
def GE (F:FnOk X.prog X.w X.K X.mg X.base CX k f fd ps sp) (hr:Room k X.A) (hg:Gl X x) (hm:X.mg x=some (.ref f)) (hk:PySem.W.keepIn X.K (.ref f)=true) (hb:Binds X.K fd ps ds) (hd:Vals dvs ds) (hx:kP CX X Ex)
  (ha:PA X (e::es) t) (hdb:(x==("__debug__":Str))=false:=by decide) (he:‹qE1 e es X.env›) (hpl:‹qF1 pos es X.env›) :
  PE X (.Call (.Name x p) (e::es) [] pos) (GD sp dvs Ex t):=by
 intro pins s σ H Q I h;refine PC (kD I hg hm ?_ hdb)
 refine Ql (h₀:=X.base) I.ok.mod.kin hk (thn (ha pos pins s σ H _ I h) λus s1 ⟨vs,H1,I1,r,q⟩=>⟨I1.kIn,?_⟩) he hpl
 exact qa F hr hb hd hx I1 r q
def ye(C:ZE)(m:Str)(sp:Sp)(dvs:List V)(Ex:St->XK)(ta:TE)(t:TA):TE:=λσ H Q=>ta σ H λx H1=>∃ a dx fs,x=.ref a/\H1 a=some (.ins C dx fs)/\fs.lookup m=none /\
 t σ H1 λvs H2=>sp (x::(vs++dvs)) H2 Q (Ex σ)
def GG{pl:Sem Bool}(he:PE X o ta)(c:Cls X.K C)(hm:ij X.K C m f)(F:FnOk X.prog X.w X.K X.mg X.base CX k f fd ps sp)(hr:Room k X.A)(hb:Binds X.K fd ps ds)(hd:Vals dvs ds)(hx:kP CX X Ex)(ha:PA X (e::es) t)
  (hst:‹qE1 e es X.env›)(hpl:‹qF1 pos es X.env›)
  (ht:‹eval (.Call (.Attribute o m apos) (e::es) [] pos) X.env=(do
   let ov <- eval o X.env
   standAt apos.atName
   let (f,first) <- holding [ov] (getMethod ov m pl)
   callWith pos f first (backTo pos (starEach (e::es) X.env)) (backToKw pos (keywordEach [] X.env)))›) :
  PE X (.Call (.Attribute o m apos) (e::es) [] pos) (ye C m sp dvs Ex ta t):=by
 intro pins s σ H Q I h;refine Rh (pl:=pl) (thn (he pins s σ H _ I h) λu s1 Zz=>?_) ht;obtain⟨x,H1,I1,rx,a,dx,fs,ex,ea,l,q⟩:=Zz
 subst ex;obtain rfl:u=Value.ref a:=rx
 refine xu I1 ea c hm l ?_
 refine Ql (first:=[.ref a]) (h₀:=X.base) I.ok.mod.kin hm.kp (thn (ha pos pins s1 σ H1 _ I1 q) λus s2 ⟨vs,H2,I2,r,q2⟩=>⟨I2.kIn,?_⟩) hst hpl
 exact qa (us:=.ref a::us) (vs:=.ref a::vs) F hr hb hd hx I2 (.cons rfl r) q2
end
abbrev tryC(X:Cx)(pins:List (ZE×Obj))(xe:ZC->ZB->Prop):Cx:={ X with pn:=X.pn++pins,xe:=xe }
abbrev cf(X:Cx)(a:ZE):Cx:={ X with A:=X.A.mark (some (.ref a)),calm:=false,xe:=λ_ _=>False }
def fL(a:ZE)(cls:ZC)(dx:Option ZE):HO:=.ext λh=>∃ ob vs,h.get? a=some ob/\ob.cls=cls/\ob.data=.fields vs/\ob.dict=dx
section
variable{X:Cx}{pins pins':List (ZE×Obj)}{σ:St}{H:Hp}{s:ZB}{xe:ZC->ZB->Prop}
def Cx.Ok.tryC(ok:X.Ok):(tryC X pins xe).Ok:=(⟨ok.mod,ok.kind,ok.glob,ok.blt,ok.above,ok.inj,ok.has,ok.cab,ok.hd,ok.frames,ok.stk,ok.exf,ok.bs,ok.bsz,ok.noex,ok.exfs,ok.funs,ok.frf⟩)
def Cx.Ok.untry(ok:(L2.tryC X pins xe).Ok):X.Ok:=(⟨ok.mod,ok.kind,ok.glob,ok.blt,ok.above,ok.inj,ok.has,ok.cab,ok.hd,ok.frames,ok.stk,ok.exf,ok.bs,ok.bsz,ok.noex,ok.exfs,ok.funs,ok.frf⟩)
def Cx.Ok.hdl(ok:X.Ok)(a:ZE):(cf X a).Ok:=(⟨ok.mod,ok.kind,ok.glob,ok.blt,ok.above,ok.inj,ok.has,ok.cab,λz=>(nomatch z),ok.frames,ok.stk,ok.exf,ok.bs,ok.bsz,ok.noex,ok.exfs,ok.funs,ok.frf⟩)
def Inv.toTry(I:Inv X pins σ H s):Inv (tryC X pins xe) [] σ H s:=(⟨I.ok.tryC,I.os,I.bare,I.base,I.loc,I.cell,I.free,I.freeC,λp hp=>I.pin p (by simpa using hp),I.hok,I.len⟩)
def Inv.untry(I:Inv (tryC X pins xe) pins' σ H s):Inv X pins σ H s:=(⟨I.ok.untry,I.os,I.bare,I.base,I.loc,I.cell,I.free,I.freeC,λp hp=>I.pin p (NK _ hp),I.hok,I.len⟩)
def Inv.hdl(I:Inv X pins σ H s)(a:ZE):Inv (cf X a) pins σ H s:=(⟨I.ok.hdl a,I.os,I.bare,I.base,I.loc,I.cell,I.free,I.freeC,I.pin,I.hok,I.len⟩)
def Inv.unhdl{a:ZE}(I:Inv (cf X a) pins σ H s)(ok:X.Ok):Inv X pins σ H s:=(⟨ok,I.os,I.bare,I.base,I.loc,I.cell,I.free,I.freeC,I.pin,I.hok,I.len⟩)
def Arr.untry{a:ZE}{cls:ZC}{dx:Option ZE}(R:Arr (tryC X pins xe) pins' σ H a cls dx s):Arr X pins σ H a cls dx s:=by
 obtain⟨B,a0,fm,r⟩:=R.fly;refine⟨R.inv.untry,R.un,R.new,R.nl,R.nc,λp hp=>R.np p (NK _ hp),R.dic,B,a0,λb o q nb alt=>fm b o q nb ?_,r⟩
 rcases alt with z|z|⟨p,hp,e⟩
 ·exact .inl z
 ·exact .inr (.inl z)
 ·exact .inr (.inr ⟨p,NK _ hp,e⟩)
def qc{M:Model}{A:ZG}{E:ZC->ZB->Prop}{n:Str}{i:Nat}{pos:Pos}{Q:Unit->ZB->Prop}(I:Inv X pins σ H s)(hN:X.N.Nodup)(hi:X.N[i]?=some n)(hk:X.env.scope.names.lookup n=some .local)
  (h:∀ s',Inv X pins (σ.set i none) H s'->Q () s'):wpAny M A (do bindName X.env n .none;unbindBehindTheSuite X.env n pos) Q E s:=by
 obtain⟨m,hn,hl⟩:=id I.loc;refine wpAny_nameGoes_keeps hk hn (by rw[I.ok.kind];rfl) λh' v hn' hs=>h _ ?_
 have cne:=I.cne;refine⟨I.ok,I.os,I.bare,Un.sameBut I.base (Rp I.ok.above) hs,⟨_,hn',λj y v' e1 e2 e3=>?_⟩,λy c e=>?_,I.free,I.freeC,λp hp=>?_,I.hok.sameBut I.free hs,by simpa using I.len⟩
 ·by_cases hj:j=i
  ·subst hj
   by_cases hlt:j<σ.length
   ·rw[Nv hlt] at e2;cases e2
   ·rw[O2 (by simpa using hlt)] at e2;cases e2
  ·rw[Nl (Ne.symm hj)] at e2
   obtain⟨u',r',q⟩:=hl j y v' e1 e2 e3;refine⟨u',r',?_⟩
   rcases q with⟨k,e⟩|⟨k,c,e,z⟩
   ·refine .inl ⟨k,?_⟩
    have ne:y≠n:=λe=>hj (pM hN e1 (e▸hi))
    simp[ne,e]
   ·exact .inr ⟨k,c,e,z.sameBut hs (cne y c e)⟩
 ·obtain⟨w',z⟩:=I.cell y c e
  exact⟨w',z.sameBut hs (cne y c e)⟩
 ·obtain⟨e,nn,ne,nf,d⟩:=I.pin p hp
  exact⟨(hs.2 p.1 ne).trans e,nn,ne,nf,d⟩
end
def GH{M:Model}{A:ZG}{E:ZC->ZB->Prop}{s:ZB}{B:Heap}{l:List Env}{e:ZE}{cls a0:ZC}{dx:Option ZE}{Q:Unit->ZB->Prop}(hh:Heap.FlyingW B l e cls a0 s.heap)(dk:∃ ob,s.heap.get? e=some ob/\ob.dict=dx)
  (hQ:∀ h',Heap.FlyingW B l e cls a0 h'->s.heap.UpToSlots h'->(∃ ob,h'.get? e=some ob/\ob.dict=dx)->Q () { s with heap:=h' }):wpAny M A (setFlight (.ref e) none) Q E s:=by
 refine Oc (tQ (x6 _ _) (DkH.refl _) (lands_againW (E:=E) (Q:=λ_ s'=>∃ h',s'={ s with heap:=h' }/\Heap.FlyingW B l e cls a0 h'/\s.heap.UpToSlots h') hh λh' z1 z2=>⟨h',rfl,z1,z2⟩)) (λ_ s3 h3=>?_) λ_ _ z=>z
 obtain⟨⟨h',rfl,z1,z2⟩,d⟩:=h3;obtain⟨ob,e1,e2⟩:=dk;obtain⟨ob',e3,e4⟩:=d e ob e1;exact hQ h' z1 z2 ⟨ob',e3,e4.trans e2⟩
def yf{M:Model}{h:Heap}{a:ZE}{ob:Obj}(e:h.get? a=some ob):PySem.W.Looks M h (typeOf (.ref a)) ob.cls:=((PySem.W.Looks.ld e).andThen .now)
section
variable{X:Cx}{xc n:Str}{C:ZE}{i:Nat}{body suite:List Stmt}{b0:Stmt}{np hpos pos:Pos}{tb:(St->XK)->TS}{th:TS}{outer:List Env}
end
section
variable{P:ZD}{w:ZF}{K:ZA}{mg:Str->Option ZC}{base:Heap}
def Fun.okE{x qual:Str}{st:Stmt}{f:ZE}{fd:FuncData}{N ps:List Str}{k:Nat}{sp:Sp}(F:Fun K x qual st f fd)(S:aE N ps (bK st))(len:∀ vs H Q E,sp vs H Q E->vs.length=ps.length)
  (hbody:∀ (cdv:ZC) (A:ZG) (outer:List Env) (s:ZB) (H:Hp) (vs:List V) (Q:VK) (E:XK),Room k (A.deeper (envOfC qual (bK st) s.heap.objs.size f cdv))->sp vs H Q E ->
   ∃ t,PSs (bQ (cL P w) P w K mg base N qual (bK st) f cdv A outer s H E) (iS st) t/\t { nx:=λ_ H'=>Q .non H',rt:=Q } (start N vs) H):FnOk P w K mg base (cL P w) (k+1) f fd ps sp:=by
 obtain⟨oc,od,kV,doc,pm,an,cdv,ct,osl,rfl,lk,hcd⟩:=F.ex;exact EG lk hcd S len λA outer s H vs Q E hr hsp=>hbody cdv A outer s H vs Q E hr hsp
end
open PySem.W (Frag Looks looks_findIn looks_specialIn looks_takesIn looks_mroIn findIn specialIn takesIn mroIn clsIn KitX kitOne kitAny kia_one kia_tup)
open PySem.Calls Builtin Builtin.ObjectAttr Builtin.Getset_descriptor
structure bR(K:Frag)(C:ZE):Prop where
 cl:(clsIn K C).isSome=true
 ga:findIn K (.ref C) "__getattribute__"=some (some (.builtin "BaseException.__getattribute__"))
 gh:findIn K (.ref C) "__getattr__"=some none
 ca:findIn K (.ref C) "__class__"=some (some (.builtin "object.__class__"))
 cg:specialIn K (.builtin "object.__class__") "__get__"=some (some (.builtin "getset_descriptor.__get__"))
 ct:takesIn K (.builtin "object.__class__")=some true
 mo:mroIn K C (.type "object")=some true
 mb:mroIn K C (.type "BaseException")=some true
def ExcAt(a C:ZE)(h:Heap):Prop:=∃ ob vs,h.get? a=some ob/\ob.cls=.ref C/\ob.data=.fields vs
section
variable{prog:ZD}{w:ZF}{A:ZG}{K:Frag}{a C:ZE}
def ExcAt.ty{M:Model}{h:Heap}(x:ExcAt a C h):Looks M h (typeOf (.ref a)) (.ref C):=by
 obtain⟨ob,vs,e,c,_⟩:=x;exact c▸yf e
def tR{tp:ZC}{s:ZB}{R:Result->ZB->Prop}(X:K.In s.heap)(Z:bR K C)(I:ExcAt a C s.heap)(q:R (.ok (.ret (.ref C))) s) :
  codeAny (model prog w) A (.call (.builtin "getset_descriptor.__get__") ⟨[.builtin "object.__class__",.ref a,tp],[]⟩) R s:=by
 obtain⟨hp,gg,dd,tt,oo⟩:=s;have La:=I.ty (M:=model prog w);have Lb:=looks_mroIn (M:=model prog w) X Z.mo;refine RE PySem.W.KF.slot_gs.plain PySem.W.KF.entry_gs (PySem.W.KF.slot_gs.check _ _ _ _ _ _ _ _ PySem.W.KF.type_class (PySem.W.KF.args_gs _ _ _) ?_)
 unfold Builtin.«getset_descriptor.__get__» descrGet
 rw[PySem.W.dga_obj];refine Nj (Nu ?_)
 unfold descrGetter descrCheckInstance descrNameAndClass isInstance;simp only[PySem.W.KF.owner_class]
 repeat lk
 refine⟨Code.quiet_builtin _ ∅,codeAny_builtin PySem.W.KF.entry_class ?_⟩
 unfold Builtin.«object.__class__» shownTypeOf
 repeat lk
 exact q
def GI{M:Model}{h:Heap}{x:ZC}(X:K.In h)(Z:bR K C):Looks M h (find x (.ref C) "__class__") (.bind (.builtin "getset_descriptor.__get__") (.builtin "object.__class__")):=by
 have l1:=looks_findIn (M:=M) X Z.ca;have l2:Looks M h (getOf (some (.builtin "object.__class__"))) (some (.builtin "getset_descriptor.__get__")):=looks_specialIn X Z.cg;have l3:=looks_takesIn (M:=M) X Z.ct;exact l1.andThen (l2.andThen ((show Looks M h (dataDescriptor? (some (.builtin "object.__class__")) (some (.builtin "getset_descriptor.__get__"))) (some (.builtin "getset_descriptor.__get__",.builtin "object.__class__")) from l3.andThen .now).andThen (Looks.tag .now)))
def GJ{tk:Tok}{s:ZB}{Q:Fin->ZB->Prop}{E:ZC->ZB->Prop}(X:K.In s.heap)(Z:bR K C)(I:ExcAt a C s.heap)(q:Q (.done (.ret (.ref C))) s) :
  wpAny (model prog w) A (Builtin.«object.__getattribute__» ⟨[.ref a,.str "__class__" tk],[]⟩) Q E s:=by
 obtain⟨hp,gg,dd,tt,oo⟩:=s;have La:=I.ty (M:=model prog w);have Lf:=GI (M:=model prog w) (x:=.ref a) X Z;refine Nj (Nu ?_)
 refine Nj (Nu ?_)
 refine Nj (La.at (Nj (Lf.at ?_)))
 unfold bindTo;first
  |exact Nj (Qq (tR X Z I (Nu q)))
  |exact Nj (Oi (Qq (tR X Z I (Nu q))))
  |exact Nj (Oi (Qq (tR X Z I q)))
def GL{nm:ZC}{s:ZB}{M:Model}{Q:Unit->ZB->Prop}{E:ZC->ZB->Prop}(X:K.In s.heap)(Z:bR K C)(I:ExcAt a C s.heap)(q:Q () s) :
  wpAny M A (checkBuiltinCall "BaseException.__getattribute__" ⟨[.ref a,nm],[]⟩) Q E s:=by
 obtain⟨hp,gg,dd,tt,oo⟩:=s;have k1:builtinKind "BaseException.__getattribute__"=some .slot:=by decide +kernel
 have k2:splitId "BaseException.__getattribute__"=some ("BaseException", "__getattribute__"):=by decide +kernel
 have k3:=F.args_bexc_ga (.ref a) nm;have La:=I.ty (M:=M);have Lb:=looks_mroIn (M:=M) X Z.mb;have Li:Looks M hp (isInstance (.ref a) (.type "BaseException")) true:=La.andThen Lb;simp only[checkBuiltinCall,k1,k2]
 refine Nj (Li.at ?_)
 repeat lk
 exact q
def GN{tk:Tok}{s:ZB}{Q:ZC->ZB->Prop}{E:ZC->ZB->Prop}(X:K.In s.heap)(Z:bR K C)(I:ExcAt a C s.heap)(q:Q (.ref C) s) :
  wpAny (model prog w) A (getAttrBy (.ref a) (.str "__class__" tk) false) Q E s:=by
 obtain⟨hp,gg,dd,tt,oo⟩:=s;have La:=I.ty (M:=model prog w);have Lg:=looks_findIn (M:=model prog w) X Z.ga;have Lh:=looks_findIn (M:=model prog w) X Z.gh;have f3:=F.attrBase_ValueError.ga.bind (.ref a);unfold getAttrBy;refine Oi (Nj (La.at (Nj (Lg.at ?_))))
 show wpAny _ _ (getAttrByItsOwn _ _ _ _ _ _) _ _ _
 unfold getAttrByItsOwn;refine Nj ((show Looks _ hp (hookBefore (.ref C)) none from Lh).at ?_)
 refine Nj (wpAny_attempt (Oi ?_))
 show wpAny _ _ (boundAndCalled _ _ _) _ _ _
 unfold boundAndCalled;rw[f3];refine Nj (Nu ?_)
 refine Qq (RE F.attrBase_ValueError.ga.plain F.entry_bexc_ga (GL X Z I (GJ X Z I ?_)))
 repeat lk
 exact q
def GO{s:ZB}{Q:Option ZC->ZB->Prop}{E:ZC->ZB->Prop}(X:K.In s.heap)(Z:bR K C)(I:ExcAt a C s.heap)(q:Q (some (.ref C)) { s with toks:=s.toks+1 }) :
  wpAny (model prog w) A (getAttr? (.ref a) "__class__") Q E s:=by
 unfold getAttr? getAttrBy?
 exact Nj (wpAny_mkText (Nj (wpAny_attempt (GN (s:={ s with toks:=s.toks+1 }) X Z I (Nu q)))))
theorem GP(Z:bR K C):KitX K (.ref a) (.ref C) (ExcAt a C) where
 ty:=λ_ _ _ I=>I.ty
 it:=λ_ _ X _=>by
  have z:=Z.cl;unfold clsIn at z;split at z
  ·rename_i ho
   intro A' Q' E' s' k q;unfold isType loadHead;exact Nj (wpAny_loadPart (k _ _ (X _ _ ho)) (Nu q))
  ·cases z
 ne:=λhp tp dd its n sl X htp=>by
  refine PM.mpr λq=>?_
  have e:C=tp:=Value.ref.inj (beq_iff_eq.mp q);subst e;have z:=Z.cl
  unfold clsIn at z;split at z
  ·rename_i ho
   have zz:=(X _ _ ho).symm.trans htp
   cases zz
  ·cases z
 ca:=λX I k=>GO X Z I k
end
section
variable{X:Cx}
def GQ{P:ZD}{w:ZF}{H:Hp}{h:Heap}{a C:ZE}{dx:Option ZE}(x:ObjOk P w H h a (fL a (.ref C) dx)):ExcAt a C h:=by
 obtain⟨⟨ob,vs,z1,z2,z3,_⟩,_⟩:=x;exact⟨ob,vs,z1,z2,z3⟩
def GR{c:V}{cv:ZC}(rc:∀ u,RelV c u->u=cv) :
  CallR X (.builtin "isinstance") (λxs H Q=>∃ (a D:ZE) (r:Bool),xs=[.ref a,c]/\(∃ dx,H a=some (fL a (.ref D) dx))/\bR X.K D/\kitOne X.K (.ref D) cv=some r/\Q (.bl r) H):=by
 intro pins s σ H xs us Q I r h;obtain⟨a,D,b,rfl,⟨dx,ha⟩,Z,hk,q⟩:=h;obtain⟨u,w',rfl,rx,ry⟩:=nI r;obtain rfl:=rc _ ry;obtain rfl:u=Value.ref a:=rx;exact kia_one (GP Z) I.kIn (GQ (I.hok a _ ha)) hk (by intro z;cases z) λtk=>⟨.bl b,H,I.tok _,rfl,q⟩
end
def GS{K:ZA}{hp:Heap}{g:Str->Option ZC}{nm:Str}{Ca:ZE}{bb:List ZC}{nid:String}(Z:K.In hp)(hb:g nm=some (.ref Ca))(ok:PySem.W.excIn K Ca bb nid=true):OwnCls nm Ca bb nid g hp:=by
 refine⟨hb,?_⟩
 unfold PySem.W.excIn at ok;split at ok
 ·rename_i dA cA sA hA
  split at ok
  ·rename_i D' tl w0 w1 w2 w3 bn w5 eM eS
   simp only[N7,Sr,R3] at ok
   obtain⟨⟨⟨⟨⟨rfl,rfl⟩,e1⟩,e2⟩,e3⟩,e4⟩:=ok;obtain⟨f1,f2,f3,f4,f5,f6,f7,f8,f9,f10,f11⟩:=cA;dsimp only at eM e1 e3 e4;subst eM e1
   have eA:sA=#[w0,w1,w2,w3,some (.builtin bn),w5]:=by
    obtain⟨ll⟩:=sA;simp only at eS
    rw[eS]
   subst eA;refine⟨tl,f4,f1,f5,f2,f6,f7,f8,f9,f10,dA,w0,w1,w2,w3,w5,_,Z _ _ hA,.of_isNs (PySem.W.isNs_of_in Z e3),?_,PySem.W.tail_of_in Z e2⟩
   exact PySem.W.nsMap_none_of_in Z e3 e4
  ·cases ok
 ·cases ok
mutual
inductive DaV (K:ZA) (H:Hp):V->PyData->Prop
 |non:DaV K H .non .none
 |bl (b):DaV K H (.bl b) (.bool b)
 |int (i):DaV K H (.int i) (.int i)
 |str (x):DaV K H (.str x) (.str x)
 |lst {a xs ds}:SqL K H a xs->DaVs K H xs ds->DaV K H (.ref a) (.list ds)
 |tup {a xs ds}:SqT K H a xs->DaVs K H xs ds->DaV K H (.ref a) (.tuple ds)
inductive DaVs (K:ZA) (H:Hp):List V->List PyData->Prop
 |nil:DaVs K H [] []
 |cons {x xs d ds}:DaV K H x d->DaVs K H xs ds->DaVs K H (x::xs) (d::ds)
end
section
variable{X:Cx}{pins:List (ZE×Obj)}{σ:St}{H:Hp}{s:ZB}
mutual
theorem DaV.reads(I:Inv X pins σ H s):∀ {x:V} {d:PyData} {u:ZC},DaV X.K H x d->RelV x u->∃ as,Reads s.heap u d as
 |_,_,_,.non,r=>by cases r;exact⟨_,.none⟩
 |_,_,_,.bl b,r=>by cases r;exact⟨_,.bool b⟩
 |_,_,_,.int i,r=>by obtain⟨t,rfl⟩:=r;exact⟨_,.int i t⟩
 |_,_,_,.str x,r=>by obtain⟨t,rfl⟩:=r;exact⟨_,.str x t⟩
 |_,_,_,.lst (a:=a) h1 h2,r=>by
  cases r
  obtain⟨its,rv,⟨o,n,e1,e2,e3⟩,_⟩:=I.list h1;obtain⟨as,q⟩:=DaVs.reads I h2 rv;exact⟨_,.list (vs:=its.toArray) (n:=n) e1 (by first|exact e2.1|exact e2) (by first|exact e2.2.2|exact e2.2|exact e3|exact e3.2) (by simpa using q)⟩
 |_,_,_,.tup (a:=a) h1 h2,r=>by
  cases r
  obtain⟨its,rv,⟨o,e1,e2,n,e3⟩,_⟩:=I.tuple h1;obtain⟨as,q⟩:=DaVs.reads I h2 rv;exact⟨_,.tuple (vs:=its.toArray) (n:=n) e1 e2 e3 (by simpa using q)⟩
theorem DaVs.reads(I:Inv X pins σ H s):∀ {xs:List V} {ds:List PyData} {us:List ZC},DaVs X.K H xs ds->Vals xs us->∃ as,ReadsAll s.heap us ds as
 |_,_,_,.nil,r=>by cases r;exact⟨_,.nil⟩
 |_,_,_,.cons h1 h2,r=>by
  cases r with
  |cons r1 r2 =>
   obtain⟨as,q1⟩:=DaV.reads I h1 r1;obtain⟨bs,q2⟩:=DaVs.reads I h2 r2;exact⟨_,.cons q1 q2⟩
end
def tU(K:ZA):R2:=λx y H Q=>∃ d e,DaV K H x d/\DaV K H y e/\d.canLay0=true/\e.canLay0=true/\d.depth<=60/\Q (.bl (PyData.eqv d e)) H
def tV(K:ZA):R2:=λx y H Q=>∃ d e,DaV K H x d/\DaV K H y e/\d.canLay0=true/\e.canLay0=true/\d.depth<=60/\Q (.bl (!PyData.eqv d e)) H
def yg(hu:X.A.units+64<cLine):OpR X (compareOp .Eq) (tU X.K):=by
 intro pins s σ H x y v u Q I rx ry h;obtain⟨d,e,h1,h2,c1,c2,dp,q⟩:=h;obtain⟨as,r1⟩:=h1.reads I rx;obtain⟨bs,r2⟩:=h2.reads I ry;exact SeqAt.compareEq_reads r1 r2 c1 c2 (by have:=Pw d.depth e.depth;lia) ⟨.bl _,H,I,rfl,q⟩
def yh(hu:X.A.units+64<cLine):OpR X (compareOp .NotEq) (tV X.K):=by
 intro pins s σ H x y v u Q I rx ry h;obtain⟨d,e,h1,h2,c1,c2,dp,q⟩:=h;obtain⟨as,r1⟩:=h1.reads I rx;obtain⟨bs,r2⟩:=h2.reads I ry;exact SeqAt.compareNe_reads r1 r2 c1 c2 (by have:=Pw d.depth e.depth;lia) ⟨.bl _,H,I,rfl,q⟩
end
def jh{A:ZG}{k:Nat}(hr:Room k A):A.units+64<cLine:=by
 have:=hr.un;lia
def GT(K:ZA):R2:=λx y H Q=>∃ l b xs zs,x=.ref l/\y=.ref b/\SqL K H l xs/\SqL K H b zs/\xs.length+zs.length<=sizeLine/\∀ p,H p=none->Q (.ref p) (upd H p (.lst (xs++zs)))
def GU{X:Cx}:OpR X (binaryOp .Add) (GT X.K):=by
 intro pins s σ H x y v u Q I rx ry h;obtain⟨l,b,xs,zs,rfl,rfl,hH,hB,hz,q⟩:=h
 cases rx
 cases ry
 obtain⟨its,r,⟨o,n,e1,e2,e3,e4⟩,z⟩:=I.list hH;obtain⟨its2,r2,⟨o2,n2,g1,g2,g3,g4⟩,z2⟩:=I.list hB;obtain⟨oc,od,oda,osl⟩:=o;obtain⟨oc2,od2,oda2,osl2⟩:=o2;dsimp only at e2 e3 e4 g2 g3 g4;subst e2 e3 e4 g2 g3 g4
 have l1:=r.length;have l2:=r2.length;refine Sb ⟨_,e1,rfl⟩ ⟨_,g1,rfl⟩ noFill_list_add seq_list_add PySem.F.slot_list_add PySem.F.entry_list_add (PySem.F.args_list_add_2 _ _) (list_addW l b its.toArray its2.toArray n n2 none none osl osl2 (by rw[NB,NB];omega)) ⟨e1,g1,?_⟩
 have ea:its.toArray++its2.toArray=(its++its2).toArray:=by simp
 rw[ea];exact⟨.ref s.heap.objs.size,_,I.lnew (t':=s.toks) (r.append r2) (by rw[NV];exact hz),rfl,q _ I.fresh⟩
section
variable{X:Cx}{pins:List (ZE×Obj)}{σ:St}{H:Hp}{s:ZB}
open Classical in
def ik(h:Heap)(d:PyData)(v:ZC):Bool:=if q:∃ e as,e.canLay0=true/\Reads h v e as then PyData.eqv q.choose d else false
def isD_of{h:Heap}{d e:PyData}{v:ZC}{as:List ZE}(c:e.canLay0=true)(r:Reads h v e as):ik h d v=PyData.eqv e d:=by
 have q:∃ e as,e.canLay0=true/\Reads h v e as:=⟨e,as,c,r⟩
 unfold ik;rw[dif_pos q];obtain⟨as',c',r'⟩:=q.choose_spec
 have z:q.choose=e:=by first|exact(Reads.unique _ _ r' r).1|exact(Reads.unique r' r).1|exact Reads.unique _ _ _ _ _ c' r' r|exact QB _ _ _ _ _ c' r' r|exact RR _ _ _ _ _ c' r' r
 rw[z]
theorem tW(I:Inv X pins σ H s):∀ {xs:List V} {ds:List PyData} {us:List ZC},DaVs X.K H xs ds->Vals xs us->us.length=ds.length/\∀ (j:Nat) u d,us[j]?=some u->ds[j]?=some d->∃ as,Reads s.heap u d as
 |_,_,_,.nil,r=>by cases r;exact⟨rfl,λj u d e=>by cases e⟩
 |_,_,_,.cons h1 h2,r=>by
  cases r with
  |cons r1 r2 =>
   obtain⟨l,q⟩:=tW I h2 r2;refine⟨by rw[Os,Os,l],λj u d e1 e2=>?_⟩
   cases j with
   |zero=>cases e1;cases e2;exact h1.reads I r1
   |succ j=>exact q j u d e1 e2
def tX(K:ZA):R2:=λx y H Q=>∃ p xs d ds,y=.ref p/\SqL K H p xs/\DaV K H x d/\DaVs K H xs ds/\d.canLay0=true/\(∀ e∈ds,e.canLay0=true/\e.depth<=30)/\Q (.bl (ds.any λe=>PyData.eqv e d)) H
theorem tY{h:Heap}{d:PyData}:∀ {us:List ZC} {ds:List PyData},us.length=ds.length->(∀ (j:Nat) u e,us[j]?=some u->ds[j]?=some e->ik h d u=PyData.eqv e d)->us.any (ik h d)=ds.any λe=>PyData.eqv e d
 |[],[],_,_=>rfl
 |u::us,e::ds,hl,hh=>by
  rw[OL,OL,hh 0 u e rfl rfl,tY (us:=us) (ds:=ds) (Nat.succ.inj hl) λj u' e' a b=>hh (j+1) u' e' a b]
def GV(hu:X.A.units+64<cLine):OpR X (compareOp .In) (tX X.K):=by
 intro pins s σ H x y v u Q I rx ry h;obtain⟨p,xs,d,ds,rfl,hq,hd,hds,cd,cds,q⟩:=h
 cases ry
 obtain⟨its,r,pl,hz⟩:=I.list hq;obtain⟨as,ra⟩:=hd.reads I rx;obtain⟨hl,hat⟩:=tW I hds r;refine SeqAt.in_listAt (ik s.heap d) pl.isList (λy hy=>?_) ⟨.bl _,H,I,rfl,?_⟩
 ·have hy':y∈its:=by simpa using hy
  obtain⟨j,hj⟩:=Rr hy';have hlt:=(Ni.mp hj).1;have hdj:ds[j]?=some (ds[j]'⋯):=Nx ⋯;obtain⟨bs,rb⟩:=hat j _ _ hj hdj;have cj:=cds _ (NL hdj);rw[isD_of cj.1 rb];exact SeqAt.eqAt_reads _ _ _ _ _ _ _ _ rb ra cj.1 cd (by
   have:=Pw (ds[j]'⋯).depth d.depth;show X.A.units+1+_<cLine
   lia)
 ·have e:its.toArray.any (ik s.heap d)=ds.any λe=>PyData.eqv e d:=by
   rw[<- QI];refine tY hl λj u e h1 h2=>?_
   obtain⟨bs,rb⟩:=hat j _ _ h1 h2;exact isD_of (cds _ (NL h2)).1 rb
  rw[e];exact q
end
section
variable{X:Cx}{tg:Expr}
theorem yi(ns:List Int):∀ k,k<=ns.length->preSum (λi=>(ns[i]?).getD 0) k=(ns.take k).sum
 |0,_=>by simp[preSum]
 |k+1,h=>by
  show preSum _ k+(ns[k]?).getD 0=_
  rw[yi ns k ⋯,Qm,List.sum_append];congr 1
  rw[Nx ⋯];simp
def GW(hc:X.calm=true):CallR X (.builtin "sum") (λxs H Q=>∃ (a:ZE) (ns:List Int),xs=[.ref a]/\SqL X.K H a (ns.map V.int)/\Q (.int ns.sum) H):=by
 intro pins s σ H xs us Q I r h;obtain⟨l,bs,rfl,hq,q⟩:=h;obtain⟨u,rfl,rx⟩:=jd r
 cases rx
 obtain⟨its,rv,pl,hz⟩:=I.list hq;have hlt:l<s.heap.objs.size:=by obtain⟨_,_,e,_⟩:=pl;exact Ny e
 have hlen:its.length=bs.length:=by rw[<- rv.length,Nw]
 refine call_sum_walkAnyS (Qy pl.isList ?_)
 refine⟨s.heap.objs.size,[s.heap.objs.size,l],[s.heap.objs.size],_,its.toArray.size,_,_,λi=>(bs[i]?).getD 0,rfl,(Walks.list (prog:=X.prog) (w:=X.w) (A:=X.A.in1) (I.ok.hd hc) s.heap.objs.size l (NX hlt) its.toArray).toS,
  ⟨⟨_,NC _ rfl,rfl,rfl⟩,pl.isList.push _⟩,λb hb=>?_,λi v hP=>?_,λs' t' hm=>?_⟩
 ·rcases ND.mp hb with rfl|hb
  ·exact Ny (NC _ rfl)
  ·obtain rfl:=Pe.mp hb
   obtain⟨_,_,e,_⟩:=pl;exact Ny (Nq _ e)
 ·have hP':its[i]?=some v:=by simpa using hP
  have hi:i<its.length:=(Ni.mp hP').1;have hb:(bs.map V.int)[i]?=some (V.int (bs[i]'(by omega))):=by rw[NY,Nx (by omega)];rfl
  obtain⟨u,hu,ru⟩:=rv.get hb;rw[hP'] at hu
  cases hu
  obtain⟨t,rfl⟩:=ru;refine⟨t,?_⟩
  show Value.int _ t=Value.int ((bs[i]?).getD 0) t
  rw[Nx (by omega)];rfl
 ·obtain⟨h',g',d',tk',os'⟩:=s'
  have e1:g'=s.gens:=hm.gens;have e2:d'=s.drawn:=hm.drawn;have e3:os'=s.os:=hm.os;subst e1 e2 e3
  have e:preSum (λi=>(bs[i]?).getD 0) its.toArray.size=bs.sum:=by
   rw[NB,hlen,yi bs _ (Nk _),N9 (Nk _)]
  rw[e];refine⟨.int _,H,I.kept (t':=tk') λb o q=>?_,⟨_,rfl⟩,q⟩
  exact hm.heap b o (λhb=>by rw[Pe.mp hb] at q;exact OK _ (Ny q)) (Nq _ q)
def ji(lo c:Int)(n:Nat):It:=⟨λi _=>i<n,λi H x H'=>H'=H/\x=.int (lo+i*c),λi _=>n<=i⟩
def GY{P:ZD}{w:ZF}{K:ZA}{tg:Expr}(it:ZE)(lo c:Int)(n:Nat):fK P w K tg (ji lo c n) [it] it (λi h=>IsRangeIter h it (lo+(i:Nat)*c) ((n:Int)-(i:Nat)) c) where
 mem:=by simp
 obj:=λi h st b hb=>by
  have e:b=it:=by simpa using hb
  subst e;exact⟨_,st,λv z=>by
   have z':Data.fields _=Data.cell v:=z
   cases z'⟩
 keep:=λi h h' st k=>k it 's' _ st
 item:=by
  intro X hP hw hK hc i pins s σ H E I hf st hg;subst hP hw hK
  obtain⟨f0,f1,f2,f3,f4,f5⟩:=hf it 's';have W:=Walks.range (prog:=X.prog) (w:=X.w) (I.ok.hd hc) it lo c n;refine W.item i s _ _ hg st λv h' tk hv st' kk=>?_
  obtain⟨t,rfl⟩:=hv;have I1:Inv X pins σ H { s with heap:=h',toks:=tk }:=I.turned (λb o hb e=>kk b o (by simpa using hb) e) f0 f1 f3 f4 f5;exact⟨_,rfl,pO (s:={ s with heap:=h',toks:=tk }) (n := "range_iterator") st' rfl rfl 'd' ⟨.int (lo+i*c),H,I1,⟨t,rfl⟩,⟨rfl,rfl⟩,st',λb hb=>(hf b hb).1⟩⟩
 done:=by
  intro X hP hw hK hc i pins s σ H E I hf st hg;subst hP hw hK
  obtain⟨f0,f1,f2,f3,f4,f5⟩:=hf it 's';exact Q4 (I.ok.hd hc) st (by have:n<=i:=hg;lia) λh' eb=>⟨rfl,I.turned (t':=s.toks) (λb o hb e=>eb b o hb e) f0 f1 f3 f4 f5⟩
 self:=λ_ _ _ _ _ st h=>Q5 st h
def GZ{a b c:Int}(hc:0<c):Builtin.Range.rangeSize a b c=(((if a<b then(b-a-1) / c+1 else 0:Int).toNat:Nat):Int):=by
 unfold Builtin.Range.rangeSize;rw[Nn hc];split
 ·have:0<=(b-a-1) / c:=Int.ediv_nonneg ⋯ ⋯
  lia
 ·rfl
def nS{x:Int}(h:x.natAbs<2 ^ 42):Builtin.Range.rangeFitsLong x=true:=by
 have h2:x.natAbs<4398046511104:=h;simp only[Builtin.Range.rangeFitsLong,N7,Oz]
 lia
def G0{a b c:Int}(ha:a.natAbs<2 ^ 40)(hb:b.natAbs<2 ^ 40)(hc:0<c):(Builtin.Range.rangeSize a b c).natAbs<2 ^ 42:=by
 have ha2:a.natAbs<1099511627776:=ha;have hb2:b.natAbs<1099511627776:=hb;show _<4398046511104
 unfold Builtin.Range.rangeSize;rw[Nn hc];split
 ·have h1:0<=(b-a-1) / c:=Int.ediv_nonneg ⋯ ⋯
  have h2:(b-a-1) / c<=b-a-1:=Int.ediv_le_self _ ⋯;generalize (b-a-1) / c=d at *;lia
 ·decide
def G5{a b c:Int}(ha:a.natAbs<2 ^ 40)(hb:b.natAbs<2 ^ 40)(hc:0<c)(hc':c<2 ^ 20):Builtin.Range.small a b c=true:=by
 have l:(2:Nat) ^ 40<2 ^ 42:=by decide
 unfold Builtin.Range.small;rw[nS (Qe ha l),nS (Qe hb l),nS (x:=c) (by have h2:c<1048576:=hc';show _<4398046511104;lia),nS (G0 ha hb hc),Nn hc,nS (x:=b+(c-1)) (by have h2:c<1048576:=hc';have h3:b.natAbs<1099511627776:=hb;show _<4398046511104;lia)];simp
def G6(ta:TA):TI:=λσ H R=>ta σ H λvs H1=>∃ i j c:Int,vs=[.int i,.int j,.int c]/\(i.natAbs<2 ^ 40/\j.natAbs<2 ^ 40/\0<c/\c<2 ^ 20)/\R (ji i c (if i<j then(j-i-1) / c+1 else 0:Int).toNat) H1
def G7{pins:List (ZE×Obj)}{σ:St}{H:Hp}{s:ZB}{R:It->Hp->Prop}{E:ZC->ZB->Prop}{lo hi c:Int}{t u v:Tok}{tk:Nat}(I:Inv X pins σ H s)(h1:lo.natAbs<2 ^ 40)(h2:hi.natAbs<2 ^ 40)(h3:0<c)(h4:c<2 ^ 20)
  (q:R (ji lo c (if lo<hi then(hi-lo-1) / c+1 else 0:Int).toNat) H):wpAny (model X.prog X.w) X.A (pyIter (.ref s.heap.objs.size)) (sJ X pins σ tg R) E { s with heap:=s.heap.push { cls:=.type "range",data:=.fields #[.int lo t,.int hi u,.int c v] },toks:=tk }:=by
 refine RW (IsRange.new ..) (G5 h1 h2 h3 h4) ?_
 have I1:Inv X pins σ H { s with heap:=s.heap.push { cls:=.type "range",data:=.fields #[.int lo t,.int hi u,.int c v] },toks:=tk }:=I.kept λb o e=>Nq _ e
 refine⟨(s.heap.push { cls:=.type "range",data:=.fields #[.int lo t,.int hi u,.int c v] }).objs.size,[(s.heap.push { cls:=.type "range",data:=.fields #[.int lo t,.int hi u,.int c v] }).objs.size],_,_,H,rfl,
  I1.kept (t':=tk) λb o e=>Nq _ e,GY _ lo c (if lo<hi then(hi-lo-1) / c+1 else 0:Int).toNat,?_,λb hb=>?_,q⟩
 ·have e1:lo+((0:Nat):Int)*c=lo:=by simp
  have e2:(((if lo<hi then(hi-lo-1) / c+1 else 0:Int).toNat:Nat):Int)-((0:Nat):Int)=Builtin.Range.rangeSize lo hi c:=by rw[GZ h3];omega
  show IsRangeIter _ _ (lo+((0:Nat):Int)*c) ((((if lo<hi then(hi-lo-1) / c+1 else 0:Int).toNat:Nat):Int)-((0:Nat):Int)) c
  rw[e1,e2];exact NC _ rfl
 ·have e:b=(s.heap.push { cls:=.type "range",data:=.fields #[.int lo t,.int hi u,.int c v] }).objs.size:=by simpa using hb
  subst e;exact I1.fpOk (Nk _) (I1.hok.fresh (Nk _))
def G8 {a b c:Expr} {ta:TA} {p pos:Pos} (hg:Gl X "range") (hm:X.mg "range"=none) (ha:PA X [a,b,c] ta) (hs:‹starEach [a,b,c] X.env=[(false,eval a X.env),(false,eval b X.env),(false,eval c X.env)]›) (hs2:‹starEach [b,c] X.env=[(false,eval b X.env),(false,eval c X.env)]›) :
  PI X tg (.Call (.Name "range" p) [a,b,c] [] pos) (G6 ta):=by
 intro pins s σ H R I h;refine Call_ (kE I hg hm Sl (OC (thn (ha pos pins s σ H _ I h) λus s1 Zz=>?_) (by rw[hs,hs2]) (by rw[hs2];rfl)));obtain⟨vs,H1,I1,r1,q1⟩:=Zz
 obtain⟨i,j,c,e,⟨q1,q2,q3,q4⟩,q⟩:=q1;subst e
 cases r1 with
 |cons r rr =>
  cases rr with
  |cons r' rr =>
   cases rr with
   |cons r'' rr =>
    cases rr
    obtain⟨t,rfl⟩:=r;obtain⟨t',rfl⟩:=r';obtain⟨t'',rfl⟩:=r'';exact call_range_3 ⋯ (G7 I1 q1 q2 q3 q4 q) (.inl (PyProof.noPylong_small ⋯))
end
open PySem.Builtin PySem.Builtin.Str
section
variable{X:Cx}
def bG(z:Str)(lo hi:Option Int):Str:=⟨((z.cps.toList.drop (HT.sIx z.cps.toList.length 0 lo)).take (HT.sIx z.cps.toList.length z.cps.toList.length hi-HT.sIx z.cps.toList.length 0 lo)).toArray⟩
def qd(n d:Nat)(i:Int):max 0 (min (if i<0 then i+(n:Int) else i) (n:Int))=((HT.sIx n d (some i):Nat):Int):=by
 show max 0 (min (if i<0 then i+(n:Int) else i) (n:Int))=(((if i<0 then(i+(n:Int)).toNat else min i.toNat n):Nat):Int)
 split<;>lia
def qe{a b:Int}{A B:Nat}(ha:a=A)(hb:b=B):sliceRange a b 1=(List.range (B-A)).map λk=>A+k:=by
 subst ha hb
 unfold sliceRange;simp only[show (1:Int) > 0 by decide,O5]
 have:(if (A:Int)<(B:Int) then((B:Int)-A+1-1) / 1 else 0).toNat=B-A:=by
  split<;>(try simp only[Int.ediv_one])<;>lia
 rw[this];apply O6
 intro k _;lia
def G9(xs:List Nat)(i k:Nat):(List.range k).filterMap (λm=>xs[i+m]?)=(xs.drop i).take k:=by
 induction k generalizing i with
 |zero=>simp
 |succ k ih =>
  rw[List.range_succ_eq_map,Pt,Qk];have e:((λm=>xs[i+m]?) ∘ Nat.succ)=λm=>xs[(i+1)+m]?:=by
   funext m;show xs[i+(m+1)]?=_;congr 1;lia
  rw[e,ih (i+1)]
  cases h:xs[i]? with
  |none =>
   have hl:xs.length<=i:=List.getElem?_eq_none_iff.mp h;simp only[R4,h]
   rw[Oy ⋯,Oy hl];simp
  |some v =>
   have hi:=(Ni.mp h).1;simp only[R4,h]
   rw[Qs hi,List.take_succ_cons];congr 1
   exact(N8 ((Nx hi).symm.trans h)).symm
def Ha(n:Nat)(lo hi:Option Int):strSliceIndices lo hi 1 n=(List.range (HT.sIx n n hi-HT.sIx n 0 lo)).map λk=>HT.sIx n 0 lo+k:=by
 cases lo with
 |none =>
  cases hi with
  |none=>exact qe rfl rfl
  |some j=>exact qe rfl (qd n n j)
 |some i =>
  cases hi with
  |none=>exact qe (qd n 0 i) rfl
  |some j=>exact qe (qd n 0 i) (qd n n j)
def Hb(z:Str)(lo hi:Option Int):Txt.slice z lo hi=bG z lo hi:=by
 have hz:z.length=z.cps.toList.length:=by simp[Str.length]
 unfold Txt.slice bG;rw[hz,Ha,Qk];have e:((λx=>z.cps[x]?) ∘ λk=>HT.sIx z.cps.toList.length 0 lo+k)=λm=>z.cps.toList[HT.sIx z.cps.toList.length 0 lo+m]?:=by
  funext m;simp
 rw[e,G9];split
 ·rename_i hc
  simp only[beq_self_eq_true,Bool.true_and,Sr,Nw,PN] at hc
  have h1:HT.sIx z.cps.toList.length z.cps.toList.length hi<=z.cps.toList.length:=HT.sIx_le _ _ (Nk _) _;have h2:HT.sIx z.cps.toList.length 0 lo=0\/z.cps.toList.length=0:=by lia
  rw[hc];rcases h2 with h2|h2
  ·rw[h2,Rt,N9 (Nk _)]
  ·have:z.cps.toList=[]:=List.eq_nil_of_length_eq_zero h2
   have h3:z.cps=#[]:=by simpa using this
   simp[h3]
   cases z;simp_all
 ·rfl
def yj{v:ZC}{o:Option Int}(p:IsPart v o):∃ l:Option (Int×Tok),v=partValue l/\l.map (·.1)=o:=by
 cases p with
 |none=>exact⟨none,rfl,rfl⟩
 |int i t=>exact⟨some (i,t),rfl,rfl⟩
def Hc:SlR X (λx lo hi H Q=>∃ z,x=.str z/\z.length<=sizeLine/\Q (.str (bG z lo hi)) H):=by
 intro pins s σ H x v vl vu lo hi sl Q I rx hs pl pu h;obtain⟨z,rfl,hz,q⟩:=h;obtain⟨t,rfl⟩:=rx;obtain⟨l,rfl,rfl⟩:=yj pl;obtain⟨u,rfl,rfl⟩:=yj pu;refine⟨"str",_,F.slot_str_getitem.lookup,Qo _ _ _,?_⟩
 refine wpAny_getItem_str_slice (l:=l) (u:=u) (st:=none) hs rfl ?_
 refine post_val_or_str ⟨Np (Txt.slice_le z (l.map (·.1)) (u.map (·.1))) hz,λt' k=>?_⟩
 have e:=Hb z (l.map (·.1)) (u.map (·.1));refine⟨.str (bG z (l.map (·.1)) (u.map (·.1))),H,I.tok _,⟨t',?_⟩,q⟩
 rw[<- e];rfl
def yk(r r' r'':R2)(ta tb tc td:TE):TE:=λσ H Q=>ta σ H λx H1=>tb σ H1 λy H2=>r x y H2 λz H3=>∃ k,z=.bl k /\
 (if k=true then tc σ H3 λw' H4=>r' y w' H4 λz2 H5=>∃ k2,z2=.bl k2/\(if k2=true then td σ H5 λv' H6=>r'' w' v' H6 Q else Q (.bl false) H5) else Q (.bl false) H3)
def Hd{a b c d:Expr}{ta tb tc td:TE}{pos:Pos}{op op' op'':CmpOp}{r r' r'':R2}(ho:OpR X (compareOp op) r)(ho':OpR X (compareOp op') r')(ho'':OpR X (compareOp op'') r'')(ha:PE X a ta)(hb:PE X b tb)(hc:PE X c tc)(hd:PE X d td)
  (hm:lastMarks [op,op',op''] [b,c,d]=false:=by with_unfolding_all rfl):PT X (.Compare a [op,op',op''] [b,c,d] pos) (sQ (yk r r' r'' ta tb tc td)):=by
 intro pins s σ H Q I h;refine isTrue_chain (thn (ha pins s σ H _ I h) λv s1 ⟨x,H1,I1,r1,q1⟩=>test_link (thn (hb pins s1 σ H1 _ I1 q1) λu s2 ⟨y,H2,I2,r2,q2⟩ =>
  thn (ho pins s2 σ H2 x y v u _ I2 r1 r2 q2) λd s3 ⟨z,H3,I3,r3,k,e,q3⟩=>?_)) hm
 subst e
 cases r3
 refine NI ?_
 cases k with
 |false =>
  obtain⟨k',e',q'⟩:=q3
  cases e'
  exact ite_ff ⟨H3,I3,q'⟩
 |true =>
  refine ite_tt (test_link (thn (hc pins s3 σ H3 _ I3 q3) λw' s4 ⟨z',H4,I4,r4,q4⟩=>thn (ho' pins s4 σ H4 y z' u w' _ I4 r2 r4 q4) λd' s5 Zz=>?_));obtain⟨z2,H5,I5,r5,k2,e2,q5⟩:=Zz
  subst e2
  cases r5
  refine NI ?_
  cases k2 with
  |false =>
   obtain⟨k',e',q'⟩:=q5
   cases e'
   exact ite_ff ⟨H5,I5,q'⟩
  |true =>
   refine ite_tt (test_last (thn (hd pins s5 σ H5 _ I5 q5) λw2 s6 ⟨z3,H6,I6,r6,q6⟩=>thn (ho'' pins s6 σ H6 z' z3 w' w2 _ I6 r4 r6 q6) λd2 s7 Zz=>?_));obtain⟨z4,H7,I7,r7,k3,e3,q7⟩:=Zz
   subst e3
   cases r7
   exact NI ⟨H7,I7,q7⟩
def aR(z:Str)(n:Nat):Str:=⟨((List.replicate n z.cps.toList).flatten).toArray⟩
def He{z:Str}{n:Int}(h2:2<=n)(hz:1<=z.length):Txt.mul z n=aR z n.toNat:=by
 unfold Txt.mul aR;rw[Nr ⋯,Nr (by simp;lia)];have:=Gc (List.replicate n.toNat z.cps) #[];rw[List.map_replicate] at this;have e:(List.replicate n.toNat z.cps).foldl (· ++ ·) #[]=((List.replicate n.toNat z.cps.toList).flatten).toArray:=by
  apply QJ.mp
  rw[this];simp
 rw[e]
end
open PySem.Builtin PySem.Builtin.Str
section
variable{X:Cx}
def Hf(z:Str)(n:Int):Txt.mul z n=aR z n.toNat:=by
 by_cases h2:2<=n/\1<=z.length
 ·exact He h2.1 h2.2
 ·unfold Txt.mul
  by_cases h1:n<1
  ·rw[Nn h1,show n.toNat=0 by lia];rfl
  ·rw[Nr h1,Nn (by simp;lia)]
   by_cases hz:z.length=0
   ·have e:z.cps.toList=[]:=OQ.mp (by simpa[Str.length] using hz)
    cases z
    simp only[aR,Str.mk.injEq] at *
    rw[e];apply QJ.mp
    simp[e]
   ·rw[show n.toNat=1 by lia]
    cases z
    simp[aR]
def Hg:OpR X (binaryOp .Mult) (λx y H Q=>∃ z n,x=.str z/\y=.int n/\n.natAbs<2 ^ 40/\z.length*n.toNat<=1000000/\Q (.str (aR z n.toNat)) H):=by
 intro pins s σ H x y v u Q I rx ry h;obtain⟨z,n,rfl,rfl,hb,hl,q⟩:=h;obtain⟨t,rfl⟩:=rx;obtain⟨t',rfl⟩:=ry;have hb2:n.natAbs<1099511627776:=hb;refine SB.mul ⟨?_,λh1 _=>?_,λ_ _=>?_⟩ λt2 k=>⟨.str (aR z n.toNat),H,I.tok _,⟨t2,by rw[Hf]⟩,q⟩
 ·simp;lia
 ·intro hc
  have n0:(n:Int)=(n.toNat:Int):=by lia
  have h1:n*(z.length:Int)<=1000000:=by
   rw[n0,<- Int.natCast_mul,QY];exact Int.ofNat_le.mpr hl
  have h3:(2 ^ 63-1:Int) / n<z.length:=hc;have h4:(2 ^ 63-1:Int)<z.length*n:=Int.lt_mul_of_ediv_lt ⋯ h3;rw[Int.mul_comm] at h4;have:(9223372036854775807:Int)<n*z.length:=h4
  lia
 ·exact NJ (Nat.not_lt.mpr (Np hl 'd'))
end
section
variable{prog:ZD}{w:ZF}{A:ZG}{E:ZC->ZB->Prop}{s:ZB}
end
section
variable{X:Cx}{pos:Pos}
end
end L2
namespace Sm
open PySem L2
def E6x{α β γ:Type}{p q r:α->β->γ->Prop}{R:Prop}(h:∀ a b c,p a b c->q a b c->r a b c->R):(∃ a b c,p a b c/\q a b c/\r a b c)->R:=(λ⟨a,b,c,x,y,z⟩=>h a b c x y z)
inductive AV where
 |non|bl (b:Bool)|int (i:Int)|str (x:Str)
 |tup (xs:List AV)
 |fl (xs:List AV)
 |ref (n:Nat)
 |exc (c:Nat)
 deriving Inhabited
inductive AO where
 |lst (xs:List AV)
 |dct (t:Bool) (kvs:List (AV×AV))
 |dcx (kvs:List (AV×AV))
 |ins (c:Nat) (fs:List (Option AV))
abbrev AH:=List AO
abbrev En:=List (Option AV)
inductive Out (α:Type) where
 |ok (a:α) (h:AH)
 |ex (c:Nat) (h:AH)
 |bad
@[simp] def Out.bind{α β:Type}(o:Out α)(f:α->AH->Out β):Out β :=
 match o with
 |.ok a h=>f a h
 |.ex c h=>.ex c h
 |.bad=>.bad
inductive OutS where
 |nx (e:En) (h:AH)
 |rt (v:AV) (h:AH)
 |bk (e:En) (h:AH)
 |ct (e:En) (h:AH)
 |ex (c:Nat) (e:En) (h:AH)
 |bad
abbrev SE:=En->AH->Out AV
abbrev SB:=En->AH->Out Bool
abbrev SL:=En->AH->Out (List AV)
abbrev SS:=En->AH->OutS
abbrev Fn:=List AV->AH->Out AV
@[simp] def Out.go{α:Type}(o:Out α)(e:En)(f:α->AH->OutS):OutS :=
 match o with
 |.ok a h=>f a h
 |.ex c h=>.ex c e h
 |.bad=>.bad
structure Tb where
 K:ZA
 cls:Nat->Option ZE
 exc:Nat->Option ZE
 fields:Nat->List Str
 nd:∀ c,(fields c).Nodup
 few:∀ c,(fields c).length<=500
def KL(K:ZA)(a:ZE)(xs:List V):Prop:=∃ (o:Obj) (its:Array ZC) (n:Nat),K.lookup a=some o/\o.cls=.type "list" /\ o.dict=none/\o.data=.seq its n/\its.size<=sizeLine/\Vals xs its.toList
structure Ix where
 refs:List ZE
 priv:List ZE
def Ix.all(ι:Ix):List ZE:=ι.refs++ι.priv
def Hi(c:Nat):Int:=((c / 64:Nat):Int)-1
def XdOk(ι:Ix)(H:Hp)(c:Nat)(dx:Option ZE):Prop:=64<=c->∃ d,dx=some d/\d∉ι.all/\H d=some (.xd [("row",.int (Hi c))])
def tZ(T:Tb)(ι:Ix)(H:Hp)(c:Nat)(C:ZE×Option ZE):Prop:=T.exc c=some C.1/\XdOk ι H c C.2
def Hj{ι:Ix}{H:Hp}{c:Nat}{dx:Option ZE}(h:c<64):XdOk ι H c dx:=(λz=>absurd h (Nat.not_lt_of_le z))
mutual
inductive RV (T:Tb) (ι:Ix) (H:Hp):AV->V->Prop
 |non:RV T ι H .non .non
 |bl (b:Bool):RV T ι H (.bl b) (.bl b)
 |int (i:Int):RV T ι H (.int i) (.int i)
 |str {x:Str} (n:x.length<=sizeLine) (o:x.cps.all (· < 0x110000)=true):RV T ι H (.str x) (.str x)
 |tup {xs:List AV} {us:List V} {a:ZE} (n:a∉ι.all) (h:H a=some (.tup us)) (r:RVs T ι H xs us):RV T ι H (.tup xs) (.ref a)
 |fl {xs:List AV} {us:List V} {a:ZE} (n:a∉ι.all) (h:Rd H a (.lst us)) (r:RVs T ι H xs us):RV T ι H (.fl xs) (.ref a)
 |kfl {xs:List AV} {us:List V} {a:ZE} (h:KL T.K a us) (r:RVs T ι H xs us):RV T ι H (.fl xs) (.ref a)
 |ref {k:Nat} {a:ZE} (h:ι.refs[k]?=some a):RV T ι H (.ref k) (.ref a)
 |exc {c:Nat} {C:ZE×Option ZE} {a:ZE} (n:a∉ι.all) (h:tZ T ι H c C) (q:H a=some (fL a (.ref C.1) C.2)):RV T ι H (.exc c) (.ref a)
inductive RVs (T:Tb) (ι:Ix) (H:Hp):List AV->List V->Prop
 |nil:RVs T ι H [] []
 |cons {x:AV} {u:V} {xs:List AV} {us:List V} (r:RV T ι H x u) (rs:RVs T ι H xs us):RVs T ι H (x::xs) (u::us)
end
structure Grow(ι:Ix)(H:Hp)(ι':Ix)(H':Hp):Prop where
 pre:∃ n,ι'.refs=ι.refs++n/\∀ a∈n,H a=none
 priv:ι'.priv=ι.priv
 keep:∀ a o,a∉ι.refs->H a=some o->H' a=some o
 live:∀ a∈ι.all,H' a≠none
theorem yl:∀ {l:List ZE} {i j:Nat} {a:ZE},l.Nodup->l[i]?=some a->l[j]?=some a->i=j
 |[],_,_,_,_,e,_=>by simp at e
 |x::l,0,0,_,_,_,_=>rfl
 |x::l,0,j+1,a,n,e,f=>by
  simp at e f;subst e
  exact absurd (NL f) (On.mp n).1
 |x::l,i+1,0,a,n,e,f=>by
  simp at e f;subst f
  exact absurd (NL e) (On.mp n).1
 |x::l,i+1,j+1,a,n,e,f=>by
  simp at e f
  rw[yl (On.mp n).2 e f]
def Ix.nr{ι:Ix}{a:ZE}(h:a∉ι.all):a∉ι.refs:=(λz=>h (NK _ z))
def Ix.np{ι:Ix}{a:ZE}(h:a∉ι.all):a∉ι.priv:=(λz=>h (NR _ z))
def Grow.refl{ι:Ix}{H:Hp}(l:∀ a∈ι.all,H a≠none):Grow ι H ι H:=(⟨⟨[],by simp,by simp⟩,rfl,λ_ _ _ e=>e,l⟩)
def Grow.at{ι ι':Ix}{H H':Hp}(g:Grow ι H ι' H'){k:Nat}{a:ZE}(h:ι.refs[k]?=some a):ι'.refs[k]?=some a:=by
 obtain⟨n,e,_⟩:=g.pre;rw[e,Nt (Ni.mp h).1];exact h
def Grow.outR{ι ι':Ix}{H H':Hp}(g:Grow ι H ι' H'){a:ZE}{o:HO}(n:a∉ι.refs)(e:H a=some o):a∉ι'.refs:=(λz=>by
 obtain⟨m,e',hm⟩:=g.pre;rw[e'] at z;rcases Oe.mp z with z|z
 ·exact n z
 ·rw[hm a z] at e;cases e)
def Grow.out{ι ι':Ix}{H H':Hp}(g:Grow ι H ι' H'){a:ZE}{o:HO}(n:a∉ι.all)(e:H a=some o):a∉ι'.all:=(λz=>by
 rcases Oe.mp z with z|z
 ·exact g.outR (Ix.nr n) e z
 ·rw[g.priv] at z;exact Ix.np n z)
def Grow.trans{ι ι' ι'':Ix}{H H' H'':Hp}(g:Grow ι H ι' H')(k:Grow ι' H' ι'' H''):Grow ι H ι'' H'':=by
 obtain⟨n,e1,hn⟩:=g.pre;obtain⟨m,e2,hm⟩:=k.pre;refine⟨⟨n++m,by rw[e2,e1];simp,λa ha=>?_⟩,k.priv.trans g.priv,λa o na e=>k.keep a o (g.outR na e) (g.keep a o na e),λa ha=>k.live a ?_⟩
 ·rcases Oe.mp ha with z|z
  ·exact hn a z
  ·have q:=hm a z
   by_cases hi:a∈ι.refs
   ·exact absurd q (g.live a (NK _ hi))
   ·cases e:H a with
    |none=>rfl
    |some o=>rw[g.keep a o hi e] at q;cases q
 ·rcases Oe.mp ha with z|z
  ·exact NK _ (by rw[e1];exact NK _ z)
  ·exact NR _ (by rw[g.priv];exact z)
structure Ext(ι:Ix)(H:Hp)(ι':Ix)(H':Hp):Prop where
 at_:∀ {k:Nat} {a:ZE},ι.refs[k]?=some a->ι'.refs[k]?=some a
 keep:∀ a o,a∉ι.all->H a=some o->H' a=some o
 out:∀ a o,a∉ι.all->H a=some o->a∉ι'.all
def Grow.ext{ι ι':Ix}{H H':Hp}(g:Grow ι H ι' H'):Ext ι H ι' H':=(⟨g.at,λa o n e=>g.keep a o (Ix.nr n) e,λa o n e=>g.out n e⟩)
def Ext.trans{ι ι' ι'':Ix}{H H' H'':Hp}(g:Ext ι H ι' H')(k:Ext ι' H' ι'' H''):Ext ι H ι'' H'' :=(
 ⟨λe=>k.at_ (g.at_ e),λa o n e=>k.keep a o (g.out a o n e) (g.keep a o n e),λa o n e=>k.out a o (g.out a o n e) (g.keep a o n e)⟩)
def XdOk.ext{ι ι':Ix}{H H':Hp}{c:Nat}{dx:Option ZE}(x:XdOk ι H c dx)(g:Ext ι H ι' H'):XdOk ι' H' c dx:=(λz=>by
 obtain⟨d,e,n,q⟩:=x z;exact⟨d,e,g.out _ _ n q,g.keep _ _ n q⟩)
def ym{ι ι':Ix}{H H':Hp}(g:Ext ι H ι' H'){a:ZE}{u:HO}(n:a∉ι.all)(r:Rd H a u):Rd H' a u:=by
 rcases r with r|⟨o,r⟩
 ·exact .inl (g.keep a _ n r)
 ·exact .inr ⟨o,g.keep a _ n r⟩
def Hk{ι ι':Ix}{H H':Hp}(g:Ext ι H ι' H'){a:ZE}{u:HO}(n:a∉ι.all)(r:Rd H a u):a∉ι'.all:=by
 rcases r with r|⟨o,r⟩
 ·exact g.out _ _ n r
 ·exact g.out _ _ n r
mutual
theorem RV.ext{T:Tb}{ι ι':Ix}{H H':Hp}(g:Ext ι H ι' H'):∀ {x:AV} {u:V},RV T ι H x u->RV T ι' H' x u
 |_,_,.non=>.non
 |_,_,.bl b=>.bl b
 |_,_,.int i=>.int i
 |_,_,.str n o=>.str n o
 |_,_,.tup n h r=>.tup (g.out _ _ n h) (g.keep _ _ n h) (RVs.ext g r)
 |_,_,.fl n h r=>.fl (Hk g n h) (ym g n h) (RVs.ext g r)
 |_,_,.kfl h r=>.kfl h (RVs.ext g r)
 |_,_,.ref h=>.ref (g.at_ h)
 |_,_,.exc n h q=>.exc (g.out _ _ n q) ⟨h.1,h.2.ext g⟩ (g.keep _ _ n q)
theorem RVs.ext{T:Tb}{ι ι':Ix}{H H':Hp}(g:Ext ι H ι' H'):∀ {xs:List AV} {us:List V},RVs T ι H xs us->RVs T ι' H' xs us
 |_,_,.nil=>.nil
 |_,_,.cons r rs=>.cons (RV.ext g r) (RVs.ext g rs)
end
def RV.mono{T:Tb}{ι ι':Ix}{H H':Hp}(g:Grow ι H ι' H'){x:AV}{u:V}(r:RV T ι H x u):RV T ι' H' x u:=(r.ext g.ext)
def RVs.mono{T:Tb}{ι ι':Ix}{H H':Hp}(g:Grow ι H ι' H'){xs:List AV}{us:List V}(r:RVs T ι H xs us):RVs T ι' H' xs us:=(r.ext g.ext)
section
variable{T:Tb}{ι:Ix}{H:Hp}
theorem RVs.length:∀ {xs:List AV} {us:List V},RVs T ι H xs us->xs.length=us.length
 |_,_,.nil=>rfl
 |_,_,.cons _ rs=>by simp[RVs.length rs]
theorem RVs.get:∀ {xs:List AV} {us:List V} {i:Nat} {x:AV},RVs T ι H xs us->xs[i]?=some x->∃ u,us[i]?=some u/\RV T ι H x u
 |_,_,_,_,.nil,e=>by simp at e
 |_,_,0,_,.cons r _,e=>by simp at e;subst e;exact⟨_,rfl,r⟩
 |_,_,i+1,x,.cons _ t,e=>by
  obtain⟨u,h1,h2⟩:=RVs.get (i:=i) (x:=x) t (by simpa using e);exact⟨u,by simpa using h1,h2⟩
theorem RVs.append:∀ {xs ys:List AV} {us ws:List V},RVs T ι H xs us->RVs T ι H ys ws->RVs T ι H (xs++ys) (us++ws)
 |_,_,_,_,.nil,s=>s
 |_,_,_,_,.cons r t,s=>.cons r (RVs.append t s)
theorem RVs.set{x:AV}{u:V}(r:RV T ι H x u):∀ {xs:List AV} {us:List V} (i:Nat),RVs T ι H xs us->RVs T ι H (xs.set i x) (us.set i u)
 |_,_,_,.nil=>.nil
 |_,_,0,.cons _ t=>.cons r t
 |_,_,i+1,.cons q t=>.cons q (RVs.set r i t)
theorem RVs.take:∀ {xs:List AV} {us:List V} (n:Nat),RVs T ι H xs us->RVs T ι H (xs.take n) (us.take n)
 |_,_,0,_=>by simpa using RVs.nil
 |_,_,_+1,.nil=>.nil
 |_,_,n+1,.cons r t=>.cons r (RVs.take n t)
theorem RVs.drop:∀ {xs:List AV} {us:List V} (n:Nat),RVs T ι H xs us->RVs T ι H (xs.drop n) (us.drop n)
 |_,_,0,r=>r
 |_,_,_+1,.nil=>.nil
 |_,_,n+1,.cons _ t=>RVs.drop n t
end
def kA:aI->AV
 |.inl i=>.int i
 |.inr x=>.str x
def OR(T:Tb)(ι:Ix)(H:Hp):AO->HO->Prop
 |.lst xs,o=>∃ us,o=.lst us/\RVs T ι H xs us
 |.dct false kvs,o=>∃ kus:List (aI×V),o=.dK kus/\Paired (λ(p:AV×AV) (q:aI×V)=>p.1=kA q.1/\RV T ι H p.2 q.2) kvs kus
 |.dct true kvs,o=>∃ kus:List (List aI×V),o=.dT none kus/\Paired (λ(p:AV×AV) (q:List aI×V)=>p.1=.tup (q.1.map kA)/\RV T ι H p.2 q.2) kvs kus
 |.dcx kvs,o=>∃ (ads:List ZE) (kus:List (List aI×V)),o=.dT (some ads) kus/\ads.length=kus.length/\Paired (λ(p:AV×AV) (q:ZE×List aI×V)=>p.1=.tup (q.2.1.map kA)/\RV T ι H p.1 (.ref q.1)/\RV T ι H p.2 q.2.2) kvs (ads.zip kus)
 |.ins c fs,o=>∃ C dx fus,T.cls c=some C/\o=.ins C dx fus/\(fus.map (·.1)).Nodup/\(∀ p∈fus,p.1∈T.fields c)/\fs.length=(T.fields c).length /\
   ∀ (i:Nat) (v:AV),fs[i]?=some (some v)->∃ f u,(T.fields c)[i]?=some f/\fus.lookup f=some u/\RV T ι H v u
def OR.mono{T:Tb}{ι ι':Ix}{H H':Hp}(g:Grow ι H ι' H'){o:AO}{u:HO}(h:OR T ι H o u):OR T ι' H' o u:=by
 cases o with
 |lst xs=>obtain⟨us,e,r⟩:=h;exact⟨us,e,r.mono g⟩
 |dct t kvs =>
  cases t with
  |false=>obtain⟨us,e,r⟩:=h;exact⟨us,e,Paired.mapP r λ_ _ ⟨a,b⟩=>⟨a,b.mono g⟩⟩
  |true=>obtain⟨us,e,r⟩:=h;exact⟨us,e,Paired.mapP r λ_ _ ⟨a,b⟩=>⟨a,b.mono g⟩⟩
 |dcx kvs=>obtain⟨ads,us,e,l,r⟩:=h;exact⟨ads,us,e,l,Paired.mapP r λ_ _ ⟨a,b,c⟩=>⟨a,b.mono g,c.mono g⟩⟩
 |ins c fs =>
  obtain⟨C,dx,fus,a,b,n,w,l,r⟩:=h;refine⟨C,dx,fus,a,b,n,w,l,λi v e=>?_⟩
  obtain⟨f,u,e1,e2,q⟩:=r i v e;exact⟨f,u,e1,e2,q.mono g⟩
structure Sim(T:Tb)(ι:Ix)(h:AH)(H:Hp):Prop where
 len:ι.refs.length=h.length
 nd:ι.refs.Nodup
 plive:∀ a∈ι.priv,H a≠none
 obj:∀ (i:Nat) (o:AO) (a:ZE),h[i]?=some o->ι.refs[i]?=some a->∃ u,H a=some u/\OR T ι H o u
section
variable{T:Tb}{ι:Ix}{h:AH}{H:Hp}
def Sim.live(S:Sim T ι h H):∀ a∈ι.all,H a≠none:=(λa ha z=>by
 rcases Oe.mp ha with ha|ha
 ·obtain⟨i,hi⟩:=List.mem_iff_getElem?.mp ha
  have hl:i<h.length:=by rw[<- S.len];exact(Ni.mp hi).1
  obtain⟨u,e,_⟩:=S.obj i h[i] a (by simp[hl]) hi;rw[z] at e;cases e
 ·exact S.plive a ha z)
def Sim.refl(S:Sim T ι h H):Grow ι H ι H:=(.refl S.live)
def Sim.fresh(S:Sim T ι h H){p:ZE}(n:H p=none):p∉ι.all:=(λz=>S.live p z n)
def Sim.still(S:Sim T ι h H){H':Hp}(g:Grow ι H ι H')(k:∀ a∈ι.refs,H' a=H a):Sim T ι h H' :=(
 ⟨S.len,S.nd,λa ha=>g.live a (NR _ ha),λi o a e1 e2=>by
  obtain⟨u,e,r⟩:=S.obj i o a e1 e2;exact⟨u,by rw[k a (NL e2)];exact e,r.mono g⟩⟩)
def Sim.growNew(S:Sim T ι h H){p:ZE}{o:HO}(n:H p=none):Grow ι H ι (upd H p o) :=(
 ⟨⟨[],by simp,by simp⟩,rfl,λa u _ e=>by rw[aZ (fA e n)];exact e,λa ha=>by
  rw[aZ (show a≠p fromλz=>S.fresh n (z▸ha))];exact S.live a ha⟩)
def Sim.new(S:Sim T ι h H){p:ZE}{o:HO}(n:H p=none):Sim T ι h (upd H p o) :=(
 S.still (S.growNew n) λa ha=>aZ λz=>S.fresh n (z▸NK _ ha))
def Ix.add(ι:Ix)(p:ZE):Ix:=⟨ι.refs++[p],ι.priv⟩
def Sim.growAdd(S:Sim T ι h H){p:ZE}{u:HO}(n:H p=none):Grow ι H (ι.add p) (upd H p u) :=(
 ⟨⟨[p],rfl,λa ha=>by have e:a=p:=(by simpa using ha);rw[e];exact n⟩,rfl,(S.growNew n).keep,(S.growNew n).live⟩)
def Sim.add(S:Sim T ι h H){p:ZE}{u:HO}{o:AO}(n:H p=none)(r:OR T (ι.add p) (upd H p u) o u):Sim T (ι.add p) (h++[o]) (upd H p u):=by
 refine⟨by simp[Ix.add,S.len],?_,λa ha=>(S.growNew n).live a (NR _ ha),λi o' a e1 e2=>?_⟩
 ·show (ι.refs++[p]).Nodup
  rw[PJ];exact⟨S.nd,by simp,λa ha b hb z=>by have e:b=p:=(by simpa using hb);subst e;subst z;exact S.fresh n (NK _ ha)⟩
 ·replace e2:(ι.refs++[p])[i]?=some a:=e2
  by_cases hi:i<h.length
  ·rw[Nt hi] at e1
   rw[Nt (by rw[S.len];exact hi)] at e2;obtain⟨v,e,q⟩:=S.obj i o' a e1 e2;exact⟨v,by rw[aZ (fA e n)];exact e,q.mono (S.growAdd n)⟩
  ·have e3:i=h.length:=by
    have:=(Ni.mp e1).1;simp at this;lia
   subst e3;rw[NF (Nk _)] at e1;rw[NF (by rw[S.len];exact Nk _),S.len] at e2
   simp at e1 e2
   subst e1 e2
   exact⟨u,dH,r⟩
def Sim.addAt(S:Sim T ι h H){p:ZE}:(ι.add p).refs[h.length]?=some p:=by
 show (ι.refs++[p])[h.length]?=some p
 rw[<- S.len];simp
def Sim.growSet(S:Sim T ι h H){i:Nat}{a:ZE}{u:HO}(e:ι.refs[i]?=some a):Grow ι H ι (upd H a u) :=(
 ⟨⟨[],by simp,by simp⟩,rfl,λb o nb q=>by rw[aZ (show b≠a fromλz=>nb (by rw[z];exact NL e))];exact q,λb hb=>by
  by_cases z:b=a
  ·subst z;rw[dH];simp
  ·rw[aZ z];exact S.live b hb⟩)
def Sim.set(S:Sim T ι h H){i:Nat}{a:ZE}{u:HO}{o:AO}(e:ι.refs[i]?=some a)(r:OR T ι (upd H a u) o u):Sim T ι (h.set i o) (upd H a u):=by
 refine⟨by simp[S.len],S.nd,λb hb=>(S.growSet e).live b (NR _ hb),λj o' b e1 e2=>?_⟩
 by_cases hj:j=i
 ·subst hj
  rw[e] at e2;cases e2
  have hl:j<h.length:=by rw[<- S.len];exact(Ni.mp e).1
  rw[Nv hl] at e1;cases e1
  exact⟨u,dH,r⟩
 ·rw[Nl (Ne.symm hj)] at e1
  obtain⟨v,q,r'⟩:=S.obj j o' b e1 e2;have ne:b≠a:=λz=>hj (by
   subst z;exact yl S.nd e2 e)
  exact⟨v,by rw[aZ ne];exact q,r'.mono (S.growSet e)⟩
end
def Ix.hide(ι:Ix)(D:ZE):Ix:=⟨ι.refs,D::ι.priv⟩
def Ix.hide_all{ι:Ix}{D a:ZE}:a∉(ι.hide D).all ↔ a∉ι.all/\a≠D:=by
 unfold Ix.all Ix.hide;simp only[Oe,ND]
 constructor
 ·intro h;exact⟨λz=>h (z.elim .inl λz=>.inr (.inr z)),λz=>h (.inr (.inl z))⟩
 ·rintro⟨h1,h2⟩ (z|z|z)
  ·exact h1 (.inl z)
  ·exact h2 z
  ·exact h1 (.inr z)
section
variable{T:Tb}{ι:Ix}{H:Hp}{D:ZE}
def Ext.hide{o:HO}(hn:H D=none):Ext ι H (ι.hide D) (upd H D o):=(⟨λe=>e,λa u n e=>by rw[aZ (fA e hn)];exact e,λa u n e=>Ix.hide_all.mpr ⟨n,fA e hn⟩⟩)
def Ext.poke{o:HO}:Ext (ι.hide D) H (ι.hide D) (upd H D o):=(⟨λe=>e,λa u n e=>by rw[aZ (Ix.hide_all.mp n).2];exact e,λa u n e=>n⟩)
def Ext.show:Ext (ι.hide D) H ι H:=(⟨λe=>e,λa u n e=>e,λa u n e=>(Ix.hide_all.mp n).1⟩)
def OR.ext{ι ι':Ix}{H H':Hp}(g:Ext ι H ι' H'){o:AO}{u:HO}(h:OR T ι H o u):OR T ι' H' o u:=by
 cases o with
 |lst xs=>obtain⟨us,e,r⟩:=h;exact⟨us,e,r.ext g⟩
 |dct t kvs =>
  cases t with
  |false=>obtain⟨us,e,r⟩:=h;exact⟨us,e,Paired.mapP r λ_ _ ⟨a,b⟩=>⟨a,b.ext g⟩⟩
  |true=>obtain⟨us,e,r⟩:=h;exact⟨us,e,Paired.mapP r λ_ _ ⟨a,b⟩=>⟨a,b.ext g⟩⟩
 |dcx kvs=>obtain⟨ads,us,e,l,r⟩:=h;exact⟨ads,us,e,l,Paired.mapP r λ_ _ ⟨a,b,c⟩=>⟨a,b.ext g,c.ext g⟩⟩
 |ins c fs =>
  obtain⟨C,dx,fus,a,b,n,w,l,r⟩:=h;refine⟨C,dx,fus,a,b,n,w,l,λi v e=>?_⟩
  obtain⟨f,u,e1,e2,q⟩:=r i v e;exact⟨f,u,e1,e2,q.ext g⟩
def Sim.hide{h:AH}{o:HO}(S:Sim T ι h H)(hn:H D=none):Sim T (ι.hide D) h (upd H D o) :=(
 ⟨S.len,S.nd,λa ha=>by
  rcases ND.mp ha with rfl|ha
  ·rw[dH];simp
  ·rw[aZ (show a≠D fromλz=>S.plive a ha (z▸hn))];exact S.plive a ha,λi o' a e1 e2=>by
  obtain⟨u,e,r⟩:=S.obj i o' a e1 e2;exact⟨u,by rw[aZ (fA e hn)];exact e,r.ext (Ext.hide hn)⟩⟩)
def Sim.poke{h:AH}{o:HO}(S:Sim T (ι.hide D) h H)(hr:D∉ι.refs):Sim T (ι.hide D) h (upd H D o) :=(
 ⟨S.len,S.nd,λa ha=>by
  by_cases z:a=D
  ·subst z;rw[dH];simp
  ·rw[aZ z];exact S.plive a ha,λi o' a e1 e2=>by
  obtain⟨u,e,r⟩:=S.obj i o' a e1 e2;have ne:a≠D:=λz=>hr (z▸NL e2)
  exact⟨u,by rw[aZ ne];exact e,r.ext Ext.poke⟩⟩)
def Sim.show{h:AH}(S:Sim T (ι.hide D) h H):Sim T ι h H :=(
 ⟨S.len,S.nd,λa ha=>S.plive a (NZ _ ha),λi o' a e1 e2=>by
  obtain⟨u,e,r⟩:=S.obj i o' a e1 e2;exact⟨u,e,r.ext Ext.show⟩⟩)
end
def ER(T:Tb)(ι:Ix)(H:Hp)(e:En)(σ:St):Prop:=e.length=σ.length/\∀ (i:Nat) (v:AV),e[i]?=some (some v)->∃ u,σ[i]?=some (some u)/\RV T ι H v u
def ER.mono{T:Tb}{ι ι':Ix}{H H':Hp}{e:En}{σ:St}(r:ER T ι H e σ)(g:Grow ι H ι' H'):ER T ι' H' e σ :=(
 ⟨r.1,λi v q=>let ⟨u,a,b⟩:=r.2 i v q;⟨u,a,b.mono g⟩⟩)
def ER.ext{T:Tb}{ι ι':Ix}{H H':Hp}{e:En}{σ:St}(r:ER T ι H e σ)(g:Ext ι H ι' H'):ER T ι' H' e σ :=(
 ⟨r.1,λi v q=>let ⟨u,a,b⟩:=r.2 i v q;⟨u,a,b.ext g⟩⟩)
def ER.set{T:Tb}{ι:Ix}{H:Hp}{e:En}{σ:St}(r:ER T ι H e σ){v:AV}{u:V}(q:RV T ι H v u)(i:Nat):ER T ι H (e.set i (some v)) (σ.set i (some u)):=by
 refine⟨by simp[r.1],λj w z=>?_⟩
 by_cases hj:j=i
 ·subst hj
  by_cases hl:j<e.length
  ·rw[Nv hl] at z;cases z
   exact⟨u,by rw[Nv (by rw[<- r.1];exact hl)],q⟩
  ·rw[O2 (by simpa using hl)] at z;cases z
 ·rw[Nl (Ne.symm hj)] at z ⊢
  exact r.2 j w z
def ER.unset{T:Tb}{ι:Ix}{H:Hp}{e:En}{σ:St}(r:ER T ι H e σ)(i:Nat):ER T ι H (e.set i none) (σ.set i none):=by
 refine⟨by simp[r.1],λj w z=>?_⟩
 by_cases hj:j=i
 ·subst hj
  by_cases hl:j<e.length
  ·rw[Nv hl] at z;cases z
  ·rw[O2 (by simpa using hl)] at z;cases z
 ·rw[Nl (Ne.symm hj)] at z ⊢
  exact r.2 j w z
def Post{α β:Type}(T:Tb)(ι:Ix)(H:Hp)(E:XK)(R:Ix->Hp->α->β->Prop)(o:Out α)(Q:β->Hp->Prop):Prop :=
 match o with
 |.ok v h'=>∀ ι' H' u,Grow ι H ι' H'->Sim T ι' h' H'->R ι' H' v u->Q u H'
 |.ex c h'=>∀ ι' H' C,Grow ι H ι' H'->Sim T ι' h' H'->tZ T ι' H' c C->E (.ref C.1) C.2 H'
 |.bad=>False
def PostS(T:Tb)(ι:Ix)(H:Hp)(E:St->XK)(o:OutS)(D:cN):Prop :=
 match o with
 |.nx e h'=>∀ ι' H' σ',Grow ι H ι' H'->Sim T ι' h' H'->ER T ι' H' e σ'->D.nx σ' H'
 |.bk e h'=>∀ ι' H' σ',Grow ι H ι' H'->Sim T ι' h' H'->ER T ι' H' e σ'->D.bk σ' H'
 |.ct e h'=>∀ ι' H' σ',Grow ι H ι' H'->Sim T ι' h' H'->ER T ι' H' e σ'->D.ct σ' H'
 |.rt v h'=>∀ ι' H' u,Grow ι H ι' H'->Sim T ι' h' H'->RV T ι' H' v u->D.rt u H'
 |.ex c e h'=>∀ ι' H' σ' C,Grow ι H ι' H'->Sim T ι' h' H'->ER T ι' H' e σ'->tZ T ι' H' c C->E σ' (.ref C.1) C.2 H'
 |.bad=>False
abbrev Hl{α:Type}:Ix->Hp->α->α->Prop:=λ_ _ a b=>a=b
section
variable{T:Tb}{ι ι':Ix}{h:AH}{H H':Hp}{α β γ δ:Type}{E:XK}{R:Ix->Hp->α->β->Prop}{R':Ix->Hp->γ->δ->Prop}
def Post.shift{o:Out α}{Q:β->Hp->Prop}(p:Post T ι H E R o Q)(g:Grow ι H ι' H'):Post T ι' H' E R o Q:=by
 cases o with
 |ok v h'=>exactλi2 H2 u g2=>p i2 H2 u (g.trans g2)
 |ex c h'=>exactλi2 H2 C g2=>p i2 H2 C (g.trans g2)
 |bad=>exact p
def Post.bind{o:Out α}{f:α->AH->Out γ}{Q:δ->Hp->Prop}{Q1:β->Hp->Prop}(p:Post T ι H E R' (o.bind f) Q)
  (k:∀ v h' ι' H' u,Grow ι H ι' H'->Sim T ι' h' H'->R ι' H' v u->Post T ι' H' E R' (f v h') Q->Q1 u H'):Post T ι H E R o Q1:=by
 cases o with
 |ok v h'=>exactλi2 H2 u g S r=>k v h' i2 H2 u g S r (Post.shift p g)
 |ex c h'=>exact p
 |bad=>exact p
def Post.now{v:α}{u:β}{Q:β->Hp->Prop}(p:Post T ι H E R (.ok v h) Q)(S:Sim T ι h H)(r:R ι H v u):Q u H:=(p ι H u S.refl S r)
def PostS.shift{E:St->XK}{o:OutS}{D:cN}(p:PostS T ι H E o D)(g:Grow ι H ι' H'):PostS T ι' H' E o D:=by
 cases o with
 |nx e h'=>exactλi2 H2 u g2=>p i2 H2 u (g.trans g2)
 |bk e h'=>exactλi2 H2 u g2=>p i2 H2 u (g.trans g2)
 |ct e h'=>exactλi2 H2 u g2=>p i2 H2 u (g.trans g2)
 |rt v h'=>exactλi2 H2 u g2=>p i2 H2 u (g.trans g2)
 |ex c e h'=>exactλi2 H2 u C g2=>p i2 H2 u C (g.trans g2)
 |bad=>exact p
def PostS.go{E:St->XK}{o:Out α}{en:En}{σ:St}{f:α->AH->OutS}{D:cN}{Q1:β->Hp->Prop}(p:PostS T ι H E (o.go en f) D)(er:ER T ι H en σ)
  (k:∀ v h' ι' H' u,Grow ι H ι' H'->Sim T ι' h' H'->R ι' H' v u->PostS T ι' H' E (f v h') D->Q1 u H'):Post T ι H (E σ) R o Q1:=by
 cases o with
 |ok v h'=>exactλi2 H2 u g S r=>k v h' i2 H2 u g S r (PostS.shift p g)
 |ex c h'=>exactλi2 H2 C g S e=>p i2 H2 σ C g S (er.mono g) e
 |bad=>exact p
end
def tE(T:Tb)(E:St->XK)(a:SE):TE:=λσ H Q=>∃ ι h en,Sim T ι h H/\ER T ι H en σ/\Post T ι H (E σ) (RV T) (a en h) Q
def tT(T:Tb)(E:St->XK)(a:SB):TT:=λσ H Q=>∃ ι h en,Sim T ι h H/\ER T ι H en σ/\Post T ι H (E σ) Hl (a en h) Q
def tA(T:Tb)(E:St->XK)(a:SL):TA:=λσ H Q=>∃ ι h en,Sim T ι h H/\ER T ι H en σ/\Post T ι H (E σ) (RVs T) (a en h) Q
def tS(T:Tb)(E:St->XK)(b:SS):TS:=λD σ H=>∃ ι h en,Sim T ι h H/\ER T ι H en σ/\PostS T ι H E (b en h) D
abbrev aF(T:Tb)(E:St->XK)(X:Cx)(e:Expr)(a:SE):Prop:=PE X e (tE T E a)
abbrev g8(T:Tb)(E:St->XK)(X:Cx)(e:Expr)(a:SB):Prop:=PT X e (tT T E a)
abbrev kQ(T:Tb)(E:St->XK)(X:Cx)(e:Expr)(a:SB):Prop:=PW X e (tT T E a)
abbrev fD(T:Tb)(E:St->XK)(X:Cx)(es:List Expr)(a:SL):Prop:=PA X es (tA T E a)
abbrev fX(T:Tb)(E:St->XK)(X:Cx)(st:Stmt)(b:SS):Prop:=PS X st (tS T E b)
abbrev cF(T:Tb)(E:St->XK)(X:Cx)(sts:List Stmt)(b:SS):Prop:=PSs X sts (tS T E b)
def bO{X:Cx}{e:Expr}{t t':TE}(h:PE X e t)(k:∀ σ H Q,t' σ H Q->t σ H Q):PE X e t':=(λpins s σ H Q I q=>h pins s σ H Q I (k σ H Q q))
def nT{X:Cx}{e:Expr}{t t':TT}(h:PT X e t)(k:∀ σ H Q,t' σ H Q->t σ H Q):PT X e t':=(λpins s σ H Q I q=>h pins s σ H Q I (k σ H Q q))
def yn{X:Cx}{e:Expr}{t t':TT}(h:PW X e t)(k:∀ σ H Q,t' σ H Q->t σ H Q):PW X e t':=(λw pins s σ H Q I q=>h w pins s σ H Q I (k σ H Q q))
def yo{X:Cx}{e:List Expr}{t t':TA}(h:PA X e t)(k:∀ σ H Q,t' σ H Q->t σ H Q):PA X e t':=(λp pins s σ H Q I q=>h p pins s σ H Q I (k σ H Q q))
def g9{X:Cx}{e:Stmt}{t t':TS}(h:PS X e t)(k:∀ D σ H,t' D σ H->t D σ H):PS X e t':=(λpins s σ H D I q=>h pins s σ H D I (k D σ H q))
def yp{X:Cx}{e:List Stmt}{t t':TS}(h:PSs X e t)(k:∀ D σ H,t' D σ H->t D σ H):PSs X e t':=(λpins s σ H D I q=>h pins s σ H D I (k D σ H q))
def Hm{X:Cx}{st:Stmt}{t:TS}(h:PS X.nox st t):PS X st t:=(λpins s σ H D I hw=>by
 refine Oc (h pins s σ H D (I.wish _) hw) (λf s' q=>SP.unwish q) λ_ _ z=>z.elim)
instance:DecidableEq AV:=λ_ _=>Classical.propDecidable _
@[simp] def aa(i:Nat):SE:=λen h=>match en[i]? with
 |some (some v)=>.ok v h
 |_=>.bad
@[simp] def ae(v:AV):SE:=λ_ h=>.ok v h
abbrev F1:=AV->AH->Out AV
abbrev F2:=AV->AV->AH->Out AV
@[simp] def eV(f:F1)(a:SE):SE:=λen h=>(a en h).bind f
@[simp] def ag(f:F2)(a b:SE):SE:=λen h=>(a en h).bind λx h1=>(b en h1).bind λy h2=>f x y h2
@[simp] def af:SL:=λ_ h=>.ok [] h
@[simp] def ah(a:SE)(r:SL):SL:=λen h=>(a en h).bind λx h1=>(r en h1).bind λxs h2=>.ok (x::xs) h2
@[simp] def ar(F:Fn)(as:SL):SE:=λen h=>(as en h).bind F
@[simp] def aS(as:SL):SE:=λen h=>(as en h).bind λxs h1=>if xs.length<=1000 then .ok (.tup xs) h1 else .bad
@[simp] def aK(as:SL):SE:=λen h=>(as en h).bind λxs h1=>if xs.length<=1000 then .ok (.fl xs) h1 else .bad
@[simp] def fE(as:SL):SE:=λen h=>(as en h).bind λxs h1=>if xs.length<=1000 then .ok (.ref h1.length) (h1++[.lst xs]) else .bad
@[simp] def kR(t:Bool):SE:=λ_ h=>.ok (.ref h.length) (h++[.dct t []])
@[simp] def Ng(v:AV)(h:AH):Option (List AV):=match v with
 |.tup xs=>some xs
 |.fl xs=>some xs
 |.ref n=>match h[n]? with
  |some (.lst xs)=>some xs
  |_=>none
 |_=>none
@[simp] def eX(v:AV)(h:AH):Option (List AV):=match v with
 |.fl xs=>some xs
 |.ref n=>match h[n]? with
  |some (.lst xs)=>some xs
  |_=>none
 |_=>none
@[simp] def ay:F2:=λx y h=>match x,y with
 |.int i,.int j=>.ok (.int (i+j)) h
 |.str i,.str j=>if i.length+j.length<=sizeLine then .ok (.str (i++j)) h else .bad
 |.tup xs,.tup ys=>if xs≠[]/\xs.length+ys.length<=sizeLine then .ok (.tup (xs++ys)) h else .bad
 |x,y=>match eX x h,eX y h with
  |some xs,some ys=>if xs.length+ys.length<=sizeLine then .ok (.fl (xs++ys)) h else .bad
  |_,_=>.bad
@[simp] def bH:F2:=λx y h=>match x,y with
 |.int i,.int j=>.ok (.int (i-j)) h
 |_,_=>.bad
@[simp] def aW:F2:=λx y h=>match x,y with
 |.int i,.int j=>if (i.natAbs<2 ^ 64\/j.natAbs<2 ^ 64)\/(i.natAbs<2 ^ 4000/\j.natAbs<2 ^ 4000) then .ok (.int (i*j)) h else .bad
 |_,_=>.bad
@[simp] def cG:F2:=λx y h=>match x,y with
 |.int i,.int j=>if 0<j/\j.natAbs<2 ^ 200 then .ok (.int (i / j)) h else .bad
 |_,_=>.bad
@[simp] def bB:F2:=λx y h=>match x,y with
 |.int i,.int j=>if 0<j then .ok (.int (i % j)) h else .bad
 |_,_=>.bad
@[simp] def bS:F2:=λx y h=>match x,y with
 |.int i,.int j=>if 0<=j/\j<=1000000/\i.natAbs<2 ^ 64 then .ok (.int (i ^ j.toNat)) h else .bad
 |_,_=>.bad
@[simp] def cn:F1:=λx h=>match x with
 |.int i=>.ok (.int (-i)) h
 |_=>.bad
def bg(f:AV->Option PyData):List AV->Option (List PyData)
 |[]=>some []
 |x::xs=>match f x,bg f xs with
  |some d,some ds=>some (d::ds)
  |_,_=>none
def bf:Nat->AH->AV->Option PyData
 |0,_,v=>match v with
  |.non=>some .none
  |.bl b=>some (.bool b)
  |.int i=>some (.int i)
  |.str x=>some (.str x)
  |_=>none
 |n+1,h,v=>match v with
  |.non=>some .none
  |.bl b=>some (.bool b)
  |.int i=>some (.int i)
  |.str x=>some (.str x)
  |.tup xs=>(bg (bf n h) xs).map .tuple
  |.fl xs=>(bg (bf n h) xs).map .list
  |.ref k=>match h[k]? with
   |some (.lst xs)=>(bg (bf n h) xs).map .list
   |_=>none
  |.exc _=>none
@[simp] def ip(x y:AV)(h:AH):Option Bool:=match x,y with
 |.int i,.int j=>some (decide (i=j))
 |.str i,.str j=>some (decide (i=j))
 |.bl i,.bl j=>some (decide (i=j))
 |.non,.non=>some true
 |x,y=>match bf 8 h x,bf 8 h y with
  |some d,some e=>some (PyData.eqv d e)
  |_,_=>none
@[simp] def az:F2:=λx y h=>match ip x y h with
 |some b=>.ok (.bl b) h
 |none=>.bad
@[simp] def fM:F2:=λx y h=>match ip x y h with
 |some b=>.ok (.bl (!b)) h
 |none=>.bad
@[simp] def dy:F2:=λx y h=>match x,y with
 |.int i,.int j=>.ok (.bl (decide (i<j))) h
 |.str i,.str j=>.ok (.bl (decide (i.cps.toList<j.cps.toList))) h
 |_,_=>.bad
@[simp] def aV:F2:=λx y h=>match x,y with
 |.int i,.int j=>.ok (.bl (decide (i<=j))) h
 |.str i,.str j=>.ok (.bl (!decide (j.cps.toList<i.cps.toList))) h
 |_,_=>.bad
@[simp] def cq:F2:=λx y h=>match x,y with
 |.int i,.int j=>.ok (.bl (decide (j<i))) h
 |_,_=>.bad
@[simp] def jY:F2:=λx y h=>match x,y with
 |.int i,.int j=>.ok (.bl (decide (j<=i))) h
 |_,_=>.bad
@[simp] def jm:F2:=λx y h=>match y with
 |.non=>.ok (.bl (decide (x=.non))) h
 |_=>.bad
@[simp] def jn(v:AV)(h:AH):Option Bool:=match v with
 |.non=>some false
 |.bl b=>some b
 |.int i=>some (i != 0)
 |.str y=>some ((y.length:Int) != 0)
 |.tup xs=>some (!xs.isEmpty)
 |.fl xs=>some (!xs.isEmpty)
 |.ref n=>match h[n]? with
  |some (.lst xs)=>some (!xs.isEmpty)
  |some (.dct false kvs)=>some (!kvs.isEmpty)
  |_=>none
 |_=>none
@[simp] def jo(a:SE):SB:=λen h=>(a en h).bind λv h1=>match jn v h1 with
 |some b=>.ok b h1
 |none=>.bad
@[simp] def aD(a:SE):SB:=λen h=>(a en h).bind λv h1=>match v with
 |.bl b=>.ok b h1
 |_=>.bad
@[simp] def d8(a b:SB):SB:=λen h=>(a en h).bind λx h1=>if x=true then b en h1 else .ok false h1
@[simp] def nU(a b:SB):SB:=λen h=>(a en h).bind λx h1=>if x=true then .ok true h1 else b en h1
@[simp] def dM(a:SB):SB:=λen h=>(a en h).bind λx h1=>.ok (!x) h1
@[simp] def kS(a b:SE):SE:=λen h=>(a en h).bind λv h1=>match v with
 |.bl k=>if k=true then b en h1 else .ok (.bl false) h1
 |_=>.bad
@[simp] def eY(a b:SE):SE:=λen h=>(a en h).bind λv h1=>match v with
 |.bl k=>if k=true then .ok (.bl true) h1 else b en h1
 |_=>.bad
@[simp] def jq(a:SE):SE:=λen h=>(a en h).bind λv h1=>match v with
 |.bl b=>.ok (.bl (!b)) h1
 |_=>.bad
@[simp] def eQ(f f':F2)(a b c:SE):SE:=λen h=>(a en h).bind λx h1=>(b en h1).bind λy h2=>(f x y h2).bind λz h3=>match z with
 |.bl k=>if k=true then(c en h3).bind λw h4=>f' y w h4 else .ok (.bl false) h3
 |_=>.bad
@[simp] def aH:SS:=λen h=>.nx en h
@[simp] def ai(a b:SS):SS:=λen h=>match a en h with
 |.nx e h'=>b e h'
 |o=>o
@[simp] def aU(a:SE):SS:=λen h=>(a en h).go en λ_ h'=>.nx en h'
@[simp] def ak(a:SE):SS:=λen h=>(a en h).go en λv h'=>.rt v h'
@[simp] def aG(c:SB)(a b:SS):SS:=λen h=>(c en h).go en λx h'=>if x=true then a en h' else b en h'
@[simp] def au(i:Nat)(a:SE):SS:=λen h=>(a en h).go en λv h'=>.nx (en.set i (some v)) h'
abbrev SI:=En->AH->Out (List AV×Option Nat)
@[simp] def fF(w:Option Nat)(xs:List AV)(h:AH):Bool:=match w with
 |none=>true
 |some n=>match h[n]? with
  |some (.lst ys)=>decide (ys=xs)
  |_=>false
inductive Tg where
 |nm (i:Nat)
 |tup (is:List Nat)
 |nst (i:Nat) (is:List Nat)
@[simp] def qf:List Nat->List AV->En->Option En
 |[],[],en=>some en
 |i::is,x::xs,en=>qf is xs (en.set i (some x))
 |_,_,_=>none
@[simp] def eZ(t:Tg)(v:AV)(en:En):Option En:=match t,v with
 |.nm i,v=>some (en.set i (some v))
 |.tup is,.tup xs=>qf is xs en
 |.nst i is,.tup [y,.tup xs]=>qf is xs (en.set i (some y))
 |_,_=>none
def gA(w:Option Nat)(all:List AV)(t:Tg)(b:SS):List AV->SS
 |[]=>λen h=>if fF w all h=true then .nx en h else .bad
 |x::xs=>λen h=>if fF w all h=true then
   (match eZ t x en with
   |some e1=>(match b e1 h with
    |.nx e2 h2=>gA w all t b xs e2 h2
    |.ct e2 h2=>gA w all t b xs e2 h2
    |.bk e2 h2=>.nx e2 h2
    |.rt v h2=>.rt v h2
    |_=>.bad)
   |none=>.bad) else .bad
@[simp] def bT(it:SI)(t:Tg)(b:SS):SS:=λen h=>match it en h with
 |.ok (xs,w) h1=>gA w xs t b xs en h1
 |_=>.bad
@[simp] def nV(t:Tg)(a:SE):SS:=λen h=>(a en h).go en λv h'=>match eZ t v en with
 |some e=>.nx e h'
 |none=>.bad
@[simp] def d9(a:SE):SI:=λen h=>(a en h).bind λv h1=>match v with
 |.fl xs=>.ok (xs,none) h1
 |.tup xs=>.ok (xs,none) h1
 |.str z=>.ok (z.cps.toList.map (λc=>.str ⟨#[c]⟩),none) h1
 |.ref n=>match h1[n]? with
  |some (.lst xs)=>.ok (xs,some n) h1
  |_=>.bad
 |_=>.bad
@[simp] def t7(a:SE):SI:=λen h=>(a en h).bind λv h1=>match v with
 |.fl xs=>.ok (xs,none) h1
 |.tup xs=>.ok (xs,none) h1
 |.ref n=>match h1[n]? with
  |some (.lst xs)=>.ok (xs,some n) h1
  |_=>.bad
 |_=>.bad
def cP(lo:Int):Nat->List AV
 |0=>[]
 |n+1=>.int lo::cP (lo+1) n
@[simp] def kT(a:SE):SI:=λen h=>(a en h).bind λv h1=>match v with
 |.int j=>if j.natAbs<2 ^ 62 then .ok (cP 0 j.toNat,none) h1 else .bad
 |_=>.bad
@[simp] def iU(a b:SE):SI:=λen h=>(a en h).bind λv h1=>(b en h1).bind λw h2=>match v,w with
 |.int i,.int j=>if i.natAbs<2 ^ 62/\j.natAbs<2 ^ 62 then .ok (cP i (j-i).toNat,none) h2 else .bad
 |_,_=>.bad
def numbered(k:Nat):List AV->List AV
 |[]=>[]
 |x::xs=>.tup [.int k,x]::numbered (k+1) xs
@[simp] def iEnum(a:SE):SI:=λen h=>(a en h).bind λv h1=>match v with
 |.fl xs=>.ok (numbered 0 xs,none) h1
 |_=>.bad
def eh(js:List Nat)(en:En)(w:Option Nat)(all:List AV)(c:SB)(e:SE):List AV->List AV->AH->Out (List AV)
 |[],ys,h=>if fF w all h=true then .ok ys h else .bad
 |x::xs,ys,h=>if fF w all h=true/\ys.length<sizeLine then
   (match c (some x::js.map λj=>(en[j]?).join) h with
   |.ok true h1=>(match e (some x::js.map λj=>(en[j]?).join) h1 with
    |.ok v h2=>eh js en w all c e xs (ys++[v]) h2
    |_=>.bad)
   |.ok false h1=>eh js en w all c e xs ys h1
   |_=>.bad) else .bad
@[simp] def bI:SB:=λ_ h=>.ok true h
@[simp] def e7(js:List Nat)(it:SI)(c:SB)(e:SE):SE:=λen h=>match it en h with
 |.ok (xs,w) h1=>(match eh js en w xs c e xs [] h1 with
  |.ok ys h2=>.ok (.fl ys) h2
  |_=>.bad)
 |_=>.bad
@[simp] def aw(n m:Nat)(b:SS):Fn:=λargs h =>
 if args.length=n then
  match b (args.map some++List.replicate (m-n) none) h with
  |.nx _ h'=>.ok .non h'
  |.rt v h'=>.ok v h'
  |.ex c _ h'=>.ex c h'
  |_=>.bad
 else .bad
@[simp] def aA(c:Nat)(F:Fn)(o:SE)(as:SL):SE:=λen h=>(o en h).bind λx h1=>match x with
 |.ref n=>match h1[n]? with
  |some (.ins c' _)=>if c'=c then(as en h1).bind λxs h2=>F (x::xs) h2 else .bad
  |_=>.bad
 |_=>.bad
@[simp] def mw(c k:Nat)(F:Fn)(as:SL):SE:=λen h=>(as en h).bind λxs h1=>match F (.ref h1.length::xs) (h1++[.ins c (List.replicate k none)]) with
 |.ok .non h2=>.ok (.ref h1.length) h2
 |.ex c h2=>.ex c h2
 |_=>.bad
@[simp] def sFld(c i:Nat)(o:SE):SE:=λen h=>(o en h).bind λx h1=>match x with
 |.ref n=>match h1[n]? with
  |some (.ins c' fs)=>if c'=c then(match fs[i]? with|some (some v)=>.ok v h1|_=>.bad) else .bad
  |_=>.bad
 |_=>.bad
@[simp] def gB(c i:Nat)(o v:SE):SS:=λen h=>(v en h).go en λy h1=>(o en h1).go en λx h2=>match x with
 |.ref n=>match h2[n]? with
  |some (.ins c' fs)=>if c'=c then .nx en (h2.set n (.ins c (fs.set i (some y)))) else .bad
  |_=>.bad
 |_=>.bad
@[simp] def iq(c:Nat)(as:SL):SS:=λen h=>(as en h).go en λxs h1=>if xs.length<=1000 then .ex c en h1 else .bad
@[simp] def keyOf? (v:AV):Option aI:=match v with
 |.int i=>some (.inl i)
 |.str x=>some (.inr x)
 |_=>none
@[simp] def keysOf?:List AV->Option (List aI)
 |[]=>some []
 |v::r=>match keyOf? v,keysOf? r with
  |some k,some ks=>some (k::ks)
  |_,_=>none
@[simp] def dI(t:Bool)(v:AV):Bool:=match t,v with
 |false,v=>(keyOf? v).isSome
 |true,.tup xs=>(keysOf? xs).isSome
 |true,_=>false
def aQ(kvs:List (AV×AV))(k:AV):Option AV:=(kvs.find? λp=>decide (p.1=k)).map (·.2)
def eu(kvs:List (AV×AV))(k v:AV):List (AV×AV) :=
 if kvs.any (λp=>decide (p.1=k)) then kvs.map λp=>if p.1=k then(p.1,v) else p else kvs++[(k,v)]
@[simp] def ao:F2:=λx y h=>match x,y with
 |.str z,.int i=>match atI z.cps.toList i with
  |some c=>.ok (.str ⟨#[c]⟩) h
  |none=>.bad
 |.tup xs,.int i=>match atI xs i with
  |some v=>.ok v h
  |none=>.bad
 |.fl xs,.int i=>match atI xs i with
  |some v=>.ok v h
  |none=>.bad
 |.ref n,y=>match h[n]? with
  |some (.lst xs)=>match y with
   |.int i=>match atI xs i with
    |some v=>.ok v h
    |none=>.bad
   |_=>.bad
  |some (.dct t kvs)=>if dI t y then(match aQ kvs y with|some v=>.ok v h|none=>.bad) else .bad
  |_=>.bad
 |_,_=>.bad
@[simp] def fN(o i v:SE):SS:=λen h=>(v en h).go en λz h1=>(o en h1).go en λx h2=>(i en h2).go en λy h3=>match x with
 |.ref n=>match h3[n]? with
  |some (.lst xs)=>match y with
   |.int k=>match fW xs.length k with
    |some j=>.nx en (h3.set n (.lst (xs.set j z)))
    |none=>.bad
   |_=>.bad
  |some (.dct t kvs)=>if dI t y=true/\kvs.length<sizeLine then .nx en (h3.set n (.dct t (eu kvs y z))) else .bad
  |_=>.bad
 |_=>.bad
@[simp] def jZ(x y:AV)(h:AH):Option Bool:=match x,y with
 |.str i,.str j=>some (!(Builtin.Str.occurrences j i 0 j.length 1).isEmpty)
 |x,.ref n=>match h[n]? with
  |some (.dct t kvs)=>if dI t x then some (aQ kvs x).isSome else none
  |some (.lst xs)=>match bf 8 h x,bg (bf 8 h) xs with
   |some d,some ds=>some (ds.any λe=>PyData.eqv e d)
   |_,_=>none
  |_=>none
 |x,.fl xs=>match bf 8 h x,bg (bf 8 h) xs with
  |some d,some ds=>some (ds.any λe=>PyData.eqv e d)
  |_,_=>none
 |x,.tup xs=>match bf 8 h x,bg (bf 8 h) xs with
  |some d,some ds=>some (ds.any λe=>PyData.eqv e d)
  |_,_=>none
 |_,_=>none
@[simp] def qg:F2:=λx y h=>match jZ x y h with
 |some b=>.ok (.bl b) h
 |none=>.bad
@[simp] def cU:F2:=λx y h=>match jZ x y h with
 |some b=>.ok (.bl (!b)) h
 |none=>.bad
@[simp] def aB:Fn:=λargs h=>match args with
 |[.str x]=>.ok (.int x.length) h
 |[.tup xs]=>.ok (.int xs.length) h
 |[.fl xs]=>.ok (.int xs.length) h
 |[.ref n]=>match h[n]? with
  |some (.lst xs)=>.ok (.int xs.length) h
  |some (.dct false kvs)=>.ok (.int kvs.length) h
  |_=>.bad
 |_=>.bad
@[simp] def kU:Fn:=λargs h=>match args with
 |[.int i]=>.ok (.int (if i<0 then -i else i)) h
 |_=>.bad
@[simp] def fg:Fn:=λargs h=>match args with
 |[.int i,.int j]=>.ok (.int (if j > i then j else i)) h
 |_=>.bad
@[simp] def mz:Fn:=λargs h=>match args with
 |[.int i,.int j]=>.ok (.int (if j<i then j else i)) h
 |_=>.bad
@[simp] def nW:List AV->Option (List Bool)
 |[]=>some []
 |.bl b::r=>(nW r).map (b :: ·)
 |_::_=>none
@[simp] def gC:Fn:=λargs h=>match args with
 |[.fl xs]=>match nW xs with
  |some bs=>.ok (.bl (bs.all id)) h
  |none=>.bad
 |_=>.bad
@[simp] def br:Fn:=λargs h=>match args with
 |[.int i]=>.ok (.int i) h
 |[.bl k]=>.ok (.int (if k then 1 else 0)) h
 |_=>.bad
@[simp] def hE(v:AV)(h:AH):Option String:=match v with
 |.non=>some "NoneType"
 |.bl _=>some "bool"
 |.int _=>some "int"
 |.str _=>some "str"
 |.tup _=>some "tuple"
 |.fl _=>some "list"
 |.ref n=>match h[n]? with
  |some (.lst _)=>some "list"
  |some (.dct _ _)=>some "dict"
  |_=>none
 |.exc _=>none
@[simp] def fh(t:String)(a:SE):SE:=λen h=>(a en h).bind λv h1=>match hE v h1 with
 |some n=>.ok (.bl (n == t || (t == "int" && n == "bool"))) h1
 |none=>.bad
@[simp] def jr(p:Nat->Bool)(a:SE):SE:=λen h=>(a en h).bind λv h1=>match v with
 |.exc c=>.ok (.bl (p c)) h1
 |_=>.bad
abbrev FM:=AV->List AV->AH->Out AV
@[simp] def bh(v:AV)(h:AH):Bool:=(eX v h).isSome
@[simp] def t8(v:AV)(_:AH):Bool:=match v with
 |.str _=>true
 |_=>false
@[simp] def dC(chk:AV->AH->Bool)(f:FM)(o:SE)(as:SL):SE:=λen h=>(o en h).bind λx h1=>if chk x h1=true then(as en h1).bind λxs h2=>f x xs h2 else .bad
@[simp] def gD(chk:AV->AH->Bool)(f:FM)(o:SE):SE:=λen h=>(o en h).bind λx h1=>if chk x h1=true then f x [] h1 else .bad
@[simp] def bL:FM:=λx vs h=>match x,vs with
 |.ref n,[y]=>match h[n]? with
  |some (.lst xs)=>if xs.length<sizeLine then .ok .non (h.set n (.lst (xs++[y]))) else .bad
  |_=>.bad
 |_,_=>.bad
@[simp] def cZ:FM:=λx vs h=>match x,vs with
 |.ref n,[]=>match h[n]? with
  |some (.lst xs)=>match xs[xs.length-1]? with
   |some y=>.ok y (h.set n (.lst xs.dropLast))
   |none=>.bad
  |_=>.bad
 |_,_=>.bad
@[simp] def ua:FM:=λx vs h=>match x,vs with
 |.str z,[.str y]=>.ok (.int ((Builtin.Str.occurrences z y 0 z.length (z.length+1)).length:Nat)) h
 |_,_=>.bad
def dN{α:Type}(xs:List α)(lo hi:Option Int):List α:=(xs.drop (HT.sIx xs.length 0 lo)).take (HT.sIx xs.length xs.length hi-HT.sIx xs.length 0 lo)
structure CA(T:Tb)(E:St->XK)(X:Cx):Prop where
 hK:X.K=T.K
 pass:kP (cL X.prog X.w) X E
abbrev EN:St->XK:=λ_=>E0
def CA.nox{T:Tb}{E:St->XK}{X:Cx}(c:CA T E X):CA T EN X.nox:=(⟨c.hK,λ_ _ _ _ _ _ _ h=>by
 obtain⟨_,_,_,_,_,_,_,_,_,_,_,_,_,_,_,_,q⟩:=h;exact q.elim⟩)
def CA.never{T:Tb}{X:Cx}(hK:X.K=T.K):CA T EN X:=(⟨hK,λ_ _ _ _ _ _ _ h=>by
 obtain⟨_,_,_,_,_,_,_,_,_,_,_,_,_,_,_,_,q⟩:=h;exact q.elim⟩)
section
variable{T:Tb}{ι:Ix}{h:AH}{H:Hp}
def fY{x:AV}{u:V}{xs:List AV}(S:Sim T ι h H)(r:RV T ι H x u)(e:eX x h=some xs):∃ a us,u=.ref a/\SqL T.K H a us/\RVs T ι H xs us:=by
 unfold eX at e
 cases r with
 |fl n q r=>cases e;exact⟨_,_,rfl,.inl q,r⟩
 |kfl q r=>cases e;exact⟨_,_,rfl,.inr q,r⟩
 |@ref k a q =>
  dsimp only at e;split at e
  ·rename_i ys hk
   cases e
   obtain⟨u,e1,us,rfl,r⟩:=S.obj k _ a hk q;exact⟨a,us,rfl,.inl (.inl e1),r⟩
  ·cases e
 |_=>cases e
def kW{u:V}{xs:List AV}(r:RV T ι H (.tup xs) u):∃ a us,u=.ref a/\SqT T.K H a us/\RVs T ι H xs us:=by
 cases r with
 |tup n q r=>exact⟨_,_,rfl,.of q,r⟩
def eB{u:V}{x:Str}(r:RV T ι H (.str x) u):u=.str x/\x.length<=sizeLine/\x.cps.all (· < 0x110000)=true:=by
 cases r with
 |str n o=>exact⟨rfl,n,o⟩
def bu{u:V}{i:Int}(r:RV T ι H (.int i) u):u=.int i:=by cases r;rfl
def fG{u:V}{i:Bool}(r:RV T ι H (.bl i) u):u=.bl i:=by cases r;rfl
def qh{u:V}(r:RV T ι H .non u):u=.non:=by cases r;rfl
def qi{us:List V}{xs:List AV}{p:ZE}{E:XK}{Q:VK}(S:Sim T ι h H)(r:RVs T ι H xs us)(n:H p=none)(q:Post T ι H E (RV T) (.ok (.fl xs) h) Q):Q (.ref p) (upd H p (.lst us)) :=(
 q ι _ _ (S.growNew n) (S.new n) (.fl (S.fresh n) (.inl dH) (r.mono (S.growNew n))))
def ub{us:List V}{xs:List AV}{p:ZE}{E:XK}{Q:VK}(S:Sim T ι h H)(r:RVs T ι H xs us)(n:H p=none)(q:Post T ι H E (RV T) (.ok (.tup xs) h) Q):Q (.ref p) (upd H p (.tup us)) :=(
 q ι _ _ (S.growNew n) (S.new n) (.tup (S.fresh n) dH (r.mono (S.growNew n))))
def Hn{us:List V}{xs:List AV}{p:ZE}{E:XK}{Q:VK}(S:Sim T ι h H)(r:RVs T ι H xs us)(n:H p=none)(q:Post T ι H E (RV T) (.ok (.ref h.length) (h++[.lst xs])) Q):Q (.ref p) (upd H p (.lst us)) :=(
 q _ _ _ (S.growAdd n) (S.add n ⟨us,rfl,r.mono (S.growAdd n)⟩) (.ref S.addAt))
end
section
variable{T:Tb}{E:St->XK}{X:Cx}{pos:Pos}
def aq (i:Nat) {x:Str} {p:Pos} (hN:‹X.N[i]?=some x›) (hv:nB X.env.scope x:=by first|exact Or.inl rfl|exact Or.inr (Or.inl rfl)|exact Or.inr (Or.inr rfl)) (hd:(x==("__debug__":Str))=false:=by decide)
  (hcd:(x == ("__classdict__" : Str))=false:=by decide):aF T E X (.Name x p) (aa i) :=(
 bO (pv i hN hv hd hcd) λσ H Q=>E6x λι h en S er q=>by
  unfold aa at q;split at q
  ·rename_i v hv
   obtain⟨u,e,r⟩:=er.2 i v hv;exact⟨u,e,q.now S r⟩
  ·exact q.elim)
def aN{i j p}:aF T E X (.Constant (.int i) j p) (ae (.int i)):=(bO CT λσ H Q=>E6x λι h en S er q=>q.now S (.int i))
def fO{i j p}:aF T E X (.Constant (.bool i) j p) (ae (.bl i)):=(bO CV λσ H Q=>E6x λι h en S er q=>q.now S (.bl i))
def nX{j p}:aF T E X (.Constant .none j p) (ae .non):=(bO CW λσ H Q=>E6x λι h en S er q=>q.now S .non)
def aL{x j p}(n:x.length<=sizeLine:=by decide +kernel)(o:x.cps.all (· < 0x110000)=true:=by decide +kernel):aF T E X (.Constant (.str x) j p) (ae (.str x)):=(bO CY λσ H Q=>E6x λι h en S er q=>q.now S (.str n o))
def Hq {x:Str} {i:Int} {t:Tok} {p:Pos} (hg:Gl X x) (hm:X.mg x=some (.int i t)) (hd:(x==("__debug__":Str))=false:=by decide):aF T E X (.Name x p) (ae (.int i)) :=(
 bO (pN (v:=.int i) hg hm ⟨t,rfl⟩ hd) λσ H Q=>E6x λι h en S er q=>q.now S (.int i))
def mB(T:Tb)(f:F2)(r:R2):Prop:=∀ (ι:Ix) (h:AH) (H:Hp) (x y:AV) (u w:V) (E:XK) (Q:VK),Sim T ι h H->RV T ι H x u->RV T ι H y w->Post T ι H E (RV T) (f x y h) Q->r u w H Q
def Op(T:Tb)(X:Cx)(g:ZC->ZC->Sem ZC)(f:F2):Prop:=∃ r,OpR X g r/\mB T f r
variable{a b c:Expr}{sa sb sc:SE}
def uc{f:F2}{r:R2}(hs:mB T f r){σ:St}{H:Hp}{Q:VK}(q:tE T E (ag f sa sb) σ H Q):mh r (tE T E sa) (tE T E sb) σ H Q:=by
 obtain⟨ι,h,en,S,er,q⟩:=q;refine⟨ι,h,en,S,er,q.bind λx h1 ι1 H1 u g1 S1 r1 q1=>⟨ι1,h1,en,S1,er.mono g1,q1.bind λy h2 ι2 H2 w g2 S2 r2 q2=>?_⟩⟩
 exact hs ι2 h2 H2 x y u w _ Q S2 (r1.mono g2) r2 q2
def fi{op:Operator}{f:F2}(ho:Op T X (binaryOp op) f)(ha:aF T E X a sa)(hb:aF T E X b sb):aF T E X (.BinOp a op b pos) (ag f sa sb):=by
 obtain⟨r,h1,h2⟩:=ho;exact bO (DQ h1 ha hb) λσ H Q q=>uc h2 q
def Hr{i j:Str}(hi:i.cps.all (· < 0x110000)=true)(hj:j.cps.all (· < 0x110000)=true):(i++j).cps.all (· < 0x110000)=true:=by
 show (i.cps++j.cps).all _=true
 rw[Array.all_append,hi,hj];rfl
def Hs(i j:Str):(i++j).length=i.length+j.length:=by
 show (i.cps++j.cps).size=_
 rw[Array.size_append];rfl
def hJ(hK:X.K=T.K):Op T X (binaryOp .Add) ay:=by
 refine⟨_,op_add.or (zgp.or (zjl.or GU)),λι h H x y u w E Q S rx ry p=>?_⟩
 unfold ay at p;split at p
 ·rw[bu rx,bu ry]
  exact .inl ⟨_,_,rfl,rfl,p.now S (.int _)⟩
 ·split at p
  ·rename_i hz
   obtain⟨rfl,_,o1⟩:=eB rx;obtain⟨rfl,_,o2⟩:=eB ry;exact .inr (.inl ⟨_,_,rfl,rfl,hz,p.now S (.str (by rw[Hs];exact hz) (Hr o1 o2))⟩)
  ·exact p.elim
 ·split at p
  ·rename_i hz
   obtain⟨a,us,rfl,q1,r1⟩:=kW rx;obtain⟨b,ws,rfl,q2,r2⟩:=kW ry;refine .inr (.inr (.inl ⟨a,b,us,ws,rfl,rfl,hK▸q1,hK▸q2,λz=>hz.1 ?_,by rw[<- r1.length,<- r2.length];exact hz.2,λz=>?_,λ_ l n=>ub S (r1.append r2) n p⟩))
   ·subst z;cases r1;rfl
   ·subst z;cases r2
    rw[Pv] at p;exact p.now S rx
  ·exact p.elim
 ·split at p
  ·split at p
   ·rename_i e1 e2 hz
    obtain⟨a,us,rfl,q1,r1⟩:=fY S rx e1;obtain⟨b,ws,rfl,q2,r2⟩:=fY S ry e2;exact .inr (.inr (.inr ⟨a,b,us,ws,rfl,rfl,hK▸q1,hK▸q2,by rw[<- r1.length,<- r2.length];exact hz,λl n=>qi S (r1.append r2) n p⟩))
   ·exact p.elim
  ·exact p.elim
def ud:Op T X (binaryOp .Sub) bH:=by
 refine⟨_,DS,λι h H x y u w E Q S rx ry p=>?_⟩
 unfold bH at p;split at p
 ·rw[bu rx,bu ry]
  exact⟨_,_,rfl,rfl,p.now S (.int _)⟩
 ·exact p.elim
def yr{i:Int}(h:i.natAbs<2 ^ 4000):Builtin.Int.intBits i<=2 ^ 20:=by
 unfold Builtin.Int.intBits;split
 ·exact NU _
 ·rename_i hz
  have h0:i.natAbs≠0:=λz=>hz (by simpa using z)
  have:i.natAbs.log2<4000:=(Nat.log2_lt h0).mpr h
  exact Np (by lia:i.natAbs.log2+1<=4001) 'd'
def Ht:Op T X (binaryOp .Mult) aW:=by
 refine⟨_,Gh,λι h H x y u w E Q S rx ry p=>?_⟩
 unfold aW at p;split at p
 ·split at p
  ·rename_i hz
   rw[bu rx,bu ry];exact⟨_,_,rfl,rfl,hz.elim (λz=>CMul.ok (z.elim (λz=>.inl ⟨by lia,by lia⟩) (λz=>.inr ⟨by lia,by lia⟩))) (λz=>.of_bits (yr z.1) (yr z.2)),p.now S (.int _)⟩
  ·exact p.elim
 ·exact p.elim
def yt:Op T X (binaryOp .FloorDiv) cG:=by
 refine⟨_,Gg,λι h H x y u w E Q S rx ry p=>?_⟩
 unfold cG at p;split at p
 ·split at p
  ·rename_i hz
   rw[bu rx,bu ry];exact⟨_,_,rfl,rfl,⟨hz.1,by lia⟩,p.now S (.int _)⟩
  ·exact p.elim
 ·exact p.elim
def Hu:Op T X (binaryOp .Mod) bB:=by
 refine⟨_,DT,λι h H x y u w E Q S rx ry p=>?_⟩
 unfold bB at p;split at p
 ·split at p
  ·rename_i hz
   rw[bu rx,bu ry];exact⟨_,_,rfl,rfl,hz,p.now S (.int _)⟩
  ·exact p.elim
 ·exact p.elim
def yu:Op T X (binaryOp .Pow) bS:=by
 refine⟨_,DV,λι h H x y u w E Q S rx ry p=>?_⟩
 unfold bS at p;split at p
 ·split at p
  ·rename_i hz
   rw[bu rx,bu ry];exact⟨_,_,rfl,rfl,hz,p.now S (.int _)⟩
  ·exact p.elim
 ·exact p.elim
def qj(ha:aF T E X a sa):aF T E X (.UnaryOp .USub a pos) (eV cn sa) :=(
 bO (DR DX ha) λσ H Q=>E6x λι h en S er q=>⟨ι,h,en,S,er,q.bind λx h1 ι1 H1 u g1 S1 r1 q1=>by
  unfold cn at q1;split at q1
  ·rw[bu r1]
   exact⟨_,rfl,q1.now S1 (.int _)⟩
  ·exact q1.elim⟩)
def Hv{ds:List PyData}(h:∀ d∈ds,d.canLay0=true):PyData.canLayAll0 ds=true:=by
 induction ds with
 |nil=>rfl
 |cons d r ih=>show (d.canLay0 && PyData.canLayAll0 r)=true;rw[h d 's',ih λe he=>h e (by simp[he])];rfl
def Hw{n:Nat}{ds:List PyData}(h:∀ d∈ds,d.depth<=n):PyData.depthAll ds<=n:=by
 induction ds with
 |nil=>exact NU _
 |cons d r ih=>show max d.depth (PyData.depthAll r)<=n;have:=h d 's';have:=ih λe he=>h e (by simp[he]);lia
section
variable{ι:Ix}{h:AH}{H:Hp}
theorem nY{f:AV->Option PyData}{n:Nat}(hf:∀ {x:AV} {u:V} {d:PyData},RV T ι H x u->f x=some d->DaV T.K H u d/\d.canLay0=true/\d.depth<=n) :
  ∀ {xs:List AV} {us:List V} {ds:List PyData},RVs T ι H xs us->bg f xs=some ds->DaVs T.K H us ds/\∀ d∈ds,d.canLay0=true/\d.depth<=n
 |_,_,ds,.nil,e=>by cases e;exact⟨.nil,by simp⟩
 |_,_,ds,.cons (x:=x) (xs:=xs) r rs,e=>by
  unfold bg at e;split at e
  ·rename_i d ds' e1 e2
   cases e
   obtain⟨q1,q2⟩:=hf r e1;obtain⟨q3,q4⟩:=nY hf rs e2;refine⟨.cons q1 q3,λd hd=>?_⟩
   rcases ND.mp hd with rfl|hd
   ·exact q2
   ·exact q4 d hd
  ·cases e
theorem iV(S:Sim T ι h H):∀ (n:Nat) {x:AV} {u:V} {d:PyData},RV T ι H x u->bf n h x=some d->DaV T.K H u d/\d.canLay0=true/\d.depth<=n
 |0,x,u,d,r,e=>by
  unfold bf at e
  cases r with
  |non=>cases e;exact⟨.non,rfl,Nk _⟩
  |bl b=>cases e;exact⟨.bl b,rfl,Nk _⟩
  |int b=>cases e;exact⟨.int b,rfl,Nk _⟩
  |str a b=>cases e;exact⟨.str _,b,Nk _⟩
  |_=>cases e
 |n+1,x,u,d,r,e=>by
  unfold bf at e;have many:∀ {xs:List AV} {us:List V} {ds:List PyData},RVs T ι H xs us->bg (bf n h) xs=some ds->DaVs T.K H us ds/\∀ d∈ds,d.canLay0=true/\d.depth<=n:=λr e=>nY (λr e=>iV S n r e) r e
  have fin:∀ {ds:List PyData},(∀ d∈ds,d.canLay0=true/\d.depth<=n)->PyData.canLayAll0 ds=true/\PyData.depthAll ds+1<=n+1:=λq=>⟨Hv λd hd=>(q d hd).1,Nat.succ_le_succ (Hw λd hd=>(q d hd).2)⟩
  cases r with
  |non=>cases e;exact⟨.non,rfl,NU _⟩
  |bl b=>cases e;exact⟨.bl b,rfl,NU _⟩
  |int b=>cases e;exact⟨.int b,rfl,NU _⟩
  |str a b=>cases e;exact⟨.str _,b,NU _⟩
  |tup k q r =>
   obtain⟨ds,e1,rfl⟩:=NG.mp e;obtain⟨q1,q2⟩:=many r e1;exact⟨.tup (.of q) q1,fin q2⟩
  |fl k q r =>
   obtain⟨ds,e1,rfl⟩:=NG.mp e;obtain⟨q1,q2⟩:=many r e1;exact⟨.lst (.inl q) q1,fin q2⟩
  |kfl q r =>
   obtain⟨ds,e1,rfl⟩:=NG.mp e;obtain⟨q1,q2⟩:=many r e1;exact⟨.lst (.inr q) q1,fin q2⟩
  |@ref k a q =>
   dsimp only at e;split at e
   ·rename_i ys hk
    obtain⟨ds,e1,rfl⟩:=NG.mp e;obtain⟨u,e2,us,rfl,r⟩:=S.obj k _ a hk q;obtain⟨q1,q2⟩:=many r e1;exact⟨.lst (.inl (.inl e2)) q1,fin q2⟩
   ·cases e
  |exc _ _ _=>cases e
end
def Hx{i j:Int}:decide (V.int i=V.int j)=decide (i=j):=by rw[OE];simp
def Hz{i j:Str}:decide (V.str i=V.str j)=decide (i=j):=by rw[OE];simp
def HA{i j:Bool}:decide (V.bl i=V.bl j)=decide (i=j):=by rw[OE];simp
def yv{r:R2}{neg:Bool}(ho:OpR X g r)(h1:∀ x y H Q,(kJ x y=true/\Q (.bl (if neg then !decide (x=y) else decide (x=y))) H)->r x y H Q)
  (h2:∀ x y H Q,(∃ d e,DaV T.K H x d/\DaV T.K H y e/\d.canLay0=true/\e.canLay0=true/\d.depth<=60/\Q (.bl (if neg then !PyData.eqv d e else PyData.eqv d e)) H)->r x y H Q) :
  mB T (λx y h=>match ip x y h with|some b=>.ok (.bl (if neg then !b else b)) h|none=>.bad) r:=by
 intro ι h H x y u w E Q S rx ry p;dsimp only at p
 cases hb:ip x y h with
 |none=>rw[hb] at p;exact p.elim
 |some b =>
  rw[hb] at p;dsimp only at p
  unfold ip at hb;split at hb
  ·cases hb
   rw[bu rx,bu ry];exact h1 _ _ _ _ ⟨rfl,by rw[Hx];exact p.now S (.bl _)⟩
  ·cases hb
   obtain⟨rfl,_⟩:=eB rx;obtain⟨rfl,_⟩:=eB ry;exact h1 _ _ _ _ ⟨rfl,by rw[Hz];exact p.now S (.bl _)⟩
  ·cases hb
   rw[fG rx,fG ry];exact h1 _ _ _ _ ⟨rfl,by rw[HA];exact p.now S (.bl _)⟩
  ·cases hb
   rw[qh rx,qh ry];exact h1 _ _ _ _ ⟨rfl,by rw[show decide (V.non=V.non)=true from rfl];exact p.now S (.bl _)⟩
  ·split at hb
   ·rename_i d e e1 e2
    cases hb
    obtain⟨q1,q2,q3⟩:=iV S 8 rx e1;obtain⟨q4,q5,q6⟩:=iV S 8 ry e2;exact h2 _ _ _ _ ⟨d,e,q1,q4,q2,q5,by lia,p.now S (.bl _)⟩
   ·cases hb
def cu(hK:X.K=T.K)(hu:X.A.units+64<cLine):Op T X (compareOp .Eq) az :=(
 ⟨_,op_eq.or (yg hu),yv (neg:=false) (op_eq.or (yg hu)) (λ_ _ _ _ q=>.inl q) λ_ _ _ _ q=>.inr (hK▸q)⟩)
def gE(hK:X.K=T.K)(hu:X.A.units+64<cLine):Op T X (compareOp .NotEq) fM :=(
 ⟨_,op_ne.or (yh hu),yv (neg:=true) (op_ne.or (yh hu)) (λ_ _ _ _ q=>.inl q) λ_ _ _ _ q=>.inr (hK▸q)⟩)
def kY:Op T X (compareOp .Lt) dy:=by
 refine⟨_,op_lt.or D8,λι h H x y u w E Q S rx ry p=>?_⟩
 unfold dy at p;split at p
 ·rw[bu rx,bu ry]
  exact .inl ⟨_,_,rfl,rfl,p.now S (.bl _)⟩
 ·obtain⟨rfl,_⟩:=eB rx
  obtain⟨rfl,_⟩:=eB ry;exact .inr ⟨_,_,rfl,rfl,p.now S (.bl _)⟩
 ·exact p.elim
def eC:Op T X (compareOp .LtE) aV:=by
 refine⟨_,op_le.or Ga,λι h H x y u w E Q S rx ry p=>?_⟩
 unfold aV at p;split at p
 ·rw[bu rx,bu ry]
  exact .inl ⟨_,_,rfl,rfl,p.now S (.bl _)⟩
 ·obtain⟨rfl,_⟩:=eB rx
  obtain⟨rfl,_⟩:=eB ry;exact .inr ⟨_,_,rfl,rfl,p.now S (.bl _)⟩
 ·exact p.elim
def gG:Op T X (compareOp .Gt) cq:=by
 refine⟨_,D5,λι h H x y u w E Q S rx ry p=>?_⟩
 unfold cq at p;split at p
 ·rw[bu rx,bu ry]
  exact⟨_,_,rfl,rfl,p.now S (.bl _)⟩
 ·exact p.elim
def ue:Op T X (compareOp .GtE) jY:=by
 refine⟨_,D6,λι h H x y u w E Q S rx ry p=>?_⟩
 unfold jY at p;split at p
 ·rw[bu rx,bu ry]
  exact⟨_,_,rfl,rfl,p.now S (.bl _)⟩
 ·exact p.elim
def RV.non_iff{ι:Ix}{H:Hp}{x:AV}{u:V}(r:RV T ι H x u):decide (x=.non)=decide (u=.non):=by
 exact decide_eq_decide.mpr ⟨λz=>by subst z;cases r;rfl,λz=>by subst z;cases r;rfl⟩
def uf:Op T X (compareOp .Is) jm:=by
 refine⟨_,D9,λι h H x y u w E Q S rx ry p=>?_⟩
 unfold jm at p;split at p
 ·refine⟨qh ry,?_⟩
  rw[<- rx.non_iff];exact p.now S (.bl _)
 ·exact p.elim
def hU{op:CmpOp}{f:F2}(ho:Op T X (compareOp op) f)(ha:aF T E X a sa)(hb:aF T E X b sb)(hm:behindInMarks op b=false):aF T E X (.Compare a [op] [b] pos) (ag f sa sb):=by
 obtain⟨r,h1,h2⟩:=ho;exact bO (Ea h1 ha hb hm) λσ H Q q=>uc h2 q
def cW{op:CmpOp}{f:F2}(ho:Op T X (compareOp op) f)(ha:aF T E X a sa)(hb:aF T E X b sb)(hm:behindInMarks op b=false):g8 T E X (.Compare a [op] [b] pos) (aD (ag f sa sb)):=by
 obtain⟨r,h1,h2⟩:=ho;refine nT (Eb h1 ha hb hm) λσ H Q q=>uc (E:=E) (Q:=λx H'=>∃ k,x=V.bl k/\Q k H') h2 ?_
 obtain⟨ι,h,en,S,er,q⟩:=q;refine⟨ι,h,en,S,er,q.bind λx h1 ι1 H1 u g1 S1 r1 q1=>?_⟩
 split at q1
 ·rw[fG r1]
  exact⟨_,rfl,q1.now S1 rfl⟩
 ·exact q1.elim
def yw{f f':F2}{r r':R2}(hs:mB T f r)(hs':mB T f' r'){σ:St}{H:Hp}{Q:VK}(q:tE T E (eQ f f' sa sb sc) σ H Q):sR r r' (tE T E sa) (tE T E sb) (tE T E sc) σ H Q:=by
 obtain⟨ι,h,en,S,er,q⟩:=q;refine⟨ι,h,en,S,er,q.bind λx h1 ι1 H1 u g1 S1 r1 q1=>⟨ι1,h1,en,S1,er.mono g1,q1.bind λy h2 ι2 H2 w g2 S2 r2 q2=>?_⟩⟩
 refine hs ι2 h2 H2 x y u w (E σ) _ S2 (r1.mono g2) r2 (q2.bind λz h3 ι3 H3 k g3 S3 r3 q3=>?_)
 split at q3
 ·rename_i kk
  rw[fG r3];refine⟨kk,rfl,?_⟩
  by_cases hkk:kk=true
  ·rw[Nn hkk] at q3 ⊢
   refine⟨ι3,h3,en,S3,er.mono (g1.trans (g2.trans g3)),q3.bind λv h4 ι4 H4 j g4 S4 r4 q4=>?_⟩
   exact hs' ι4 h4 H4 y v w j _ Q S4 (r2.mono (g3.trans g4)) r4 q4
  ·rw[Nr hkk] at q3 ⊢
   exact q3.now S3 (.bl _)
 ·exact q3.elim
def yx{op op':CmpOp}{f f':F2}(ho:Op T X (compareOp op) f)(ho':Op T X (compareOp op') f')(ha:aF T E X a sa)(hb:aF T E X b sb)(hc:aF T E X c sc)(hm:lastMarks [op,op'] [b,c]=false:=by with_unfolding_all rfl) :
  aF T E X (.Compare a [op,op'] [b,c] pos) (eQ f f' sa sb sc):=by
 obtain⟨r,h1,h2⟩:=ho;obtain⟨r',h1',h2'⟩:=ho';exact bO (Ec h1 h1' ha hb hc hm) λσ H Q q=>yw h2 h2' q
def HB{op op':CmpOp}{f f':F2}(ho:Op T X (compareOp op) f)(ho':Op T X (compareOp op') f')(ha:aF T E X a sa)(hb:aF T E X b sb)(hc:aF T E X c sc)(hm:lastMarks [op,op'] [b,c]=false:=by with_unfolding_all rfl) :
  g8 T E X (.Compare a [op,op'] [b,c] pos) (aD (eQ f f' sa sb sc)):=by
 obtain⟨r,h1,h2⟩:=ho;obtain⟨r',h1',h2'⟩:=ho';refine nT (Ed h1 h1' ha hb hc hm) λσ H Q q=>yw (E:=E) (Q:=λx H'=>∃ k,x=V.bl k/\Q k H') h2 h2' ?_
 obtain⟨ι,h,en,S,er,q⟩:=q;refine⟨ι,h,en,S,er,q.bind λx h1 ι1 H1 u g1 S1 r1 q1=>?_⟩
 split at q1
 ·rw[fG r1]
  exact⟨_,rfl,q1.now S1 rfl⟩
 ·exact q1.elim
def yy{ι:Ix}{h:AH}{H:Hp}{v:AV}{u:V}{k:Bool}(S:Sim T ι h H)(r:RV T ι H v u)(e:jn v h=some k):jc T.K u H k:=by
 unfold jn at e
 cases r with
 |non=>cases e;rfl
 |bl b=>cases e;rfl
 |int b=>cases e;rfl
 |str n o=>cases e;exact⟨n,rfl⟩
 |tup n q r=>cases e;exact .inr (.inl ⟨_,.of q,by cases r<;>rfl⟩)
 |fl n q r=>cases e;exact .inl ⟨_,.inl q,by cases r<;>rfl⟩
 |kfl q r=>cases e;exact .inl ⟨_,.inr q,by cases r<;>rfl⟩
 |@ref n a q =>
  dsimp only at e;split at e
  ·rename_i xs hk
   cases e
   obtain⟨u,e1,us,rfl,r⟩:=S.obj n _ a hk q;exact .inl ⟨us,.inl (.inl e1),by cases r<;>rfl⟩
  ·rename_i xs hk
   cases e
   obtain⟨u,e1,us,rfl,r⟩:=S.obj n _ a hk q;exact .inr (.inr ⟨us,e1,by cases r<;>rfl⟩)
  ·cases e
 |exc _ _ _=>cases e
def HC(hK:X.K=T.K)(ha:aF T E X a sa)(he:∀ whole,isTrue a X.env whole=(do let v <- whole;standAt a.pos;holding [v] (truthy v)):=by intro _;rfl):g8 T E X a (jo sa) :=(
 nT (Ef ha he) λσ H Q=>E6x λι h en S er q=>⟨ι,h,en,S,er,q.bind λx h1 ι1 H1 u g1 S1 r1 q1=>by
  split at q1
  ·rename_i b hb
   exact⟨b,hK▸yy S1 r1 hb,q1.now S1 rfl⟩
  ·exact q1.elim⟩)
variable{ca cb:SB}{rest:List Expr}
def yz(ha:g8 T E X a ca):g8 T E X (.UnaryOp .Not a pos) (dM ca) :=(
 nT (Dc ha) λσ H Q=>E6x λι h en S er q=>⟨ι,h,en,S,er,q.bind λx h1 ι1 H1 u g1 S1 r1 q1=>by subst r1;exact q1.now S1 rfl⟩)
def gH(h:kQ T E X a ca):g8 T E X a ca:=(PW.pt h)
def ug(ha:g8 T E X a ca):kQ T E X (.BoolOp .And [a] pos) ca:=(C7 ha)
def uh(ha:g8 T E X a ca):kQ T E X (.BoolOp .Or [a] pos) ca:=(C8 ha)
def qk(ha:g8 T E X a ca)(hb:kQ T E X (.BoolOp .And (b::rest) pos) cb):kQ T E X (.BoolOp .And (a::b::rest) pos) (d8 ca cb) :=(
 yn (C9 ha hb) λσ H Q=>E6x λι h en S er q=>⟨ι,h,en,S,er,q.bind λx h1 ι1 H1 u g1 S1 r1 q1=>by
  subst r1;by_cases hx:x=true
  ·rw[Nn hx] at q1 ⊢
   exact⟨ι1,h1,en,S1,er.mono g1,q1⟩
  ·rw[Nr hx] at q1 ⊢
   exact q1.now S1 rfl⟩)
def ql(ha:g8 T E X a ca)(hb:kQ T E X (.BoolOp .Or (b::rest) pos) cb):kQ T E X (.BoolOp .Or (a::b::rest) pos) (nU ca cb) :=(
 yn (Da ha hb) λσ H Q=>E6x λι h en S er q=>⟨ι,h,en,S,er,q.bind λx h1 ι1 H1 u g1 S1 r1 q1=>by
  subst r1;by_cases hx:x=true
  ·rw[Nn hx] at q1 ⊢
   exact q1.now S1 rfl
  ·rw[Nr hx] at q1 ⊢
   exact⟨ι1,h1,en,S1,er.mono g1,q1⟩⟩)
def j0{op}(h:aF T E X a sa):aF T E X (.BoolOp op [a] pos) sa:=(Dh h)
def yA(ha:aF T E X a sa)(hb:aF T E X (.BoolOp .And (b::rest) pos) sb):aF T E X (.BoolOp .And (a::b::rest) pos) (kS sa sb) :=(
 bO (Di ha hb) λσ H Q=>E6x λι h en S er q=>⟨ι,h,en,S,er,q.bind λx h1 ι1 H1 u g1 S1 r1 q1=>by
  split at q1
  ·rename_i kk
   rw[fG r1];refine⟨kk,rfl,?_⟩
   by_cases hkk:kk=true
   ·rw[Nn hkk] at q1 ⊢
    exact⟨ι1,h1,en,S1,er.mono g1,q1⟩
   ·rw[Nr hkk] at q1 ⊢
    exact q1.now S1 (.bl _)
  ·exact q1.elim⟩)
def jt(ha:aF T E X a sa)(hb:aF T E X (.BoolOp .Or (b::rest) pos) sb):aF T E X (.BoolOp .Or (a::b::rest) pos) (eY sa sb) :=(
 bO (Dj ha hb) λσ H Q=>E6x λι h en S er q=>⟨ι,h,en,S,er,q.bind λx h1 ι1 H1 u g1 S1 r1 q1=>by
  split at q1
  ·rename_i kk
   rw[fG r1];refine⟨kk,rfl,?_⟩
   by_cases hkk:kk=true
   ·rw[Nn hkk] at q1 ⊢
    exact q1.now S1 (.bl _)
   ·rw[Nr hkk] at q1 ⊢
    exact⟨ι1,h1,en,S1,er.mono g1,q1⟩
  ·exact q1.elim⟩)
def qm(ha:aF T E X a sa):aF T E X (.UnaryOp .Not a pos) (jq sa) :=(
 bO (Dl ha) λσ H Q=>E6x λι h en S er q=>⟨ι,h,en,S,er,q.bind λx h1 ι1 H1 u g1 S1 r1 q1=>by
  split at q1
  ·rw[fG r1]
   exact⟨_,rfl,q1.now S1 (.bl _)⟩
  ·exact q1.elim⟩)
variable{es:List Expr}{as:SL}
def aC:fD T E X [] af:=(yo nJ λσ H Q=>E6x λι h en S er q=>q.now S .nil)
def aj(ha:aF T E X a sa)(hr:fD T E X es as)(hs:‹starEach (a::es) X.env=(false,eval a X.env)::starEach es X.env›):fD T E X (a::es) (ah sa as) :=(
 yo (jV ha hr hs) λσ H Q=>E6x λι h en S er q=>⟨ι,h,en,S,er,q.bind λx h1 ι1 H1 u g1 S1 r1 q1=>⟨ι1,h1,en,S1,er.mono g1,q1.bind λxs h2 ι2 H2 us g2 S2 r2 q2=>q2.now S2 (.cons (r1.mono g2) r2)⟩⟩)
def dD{k}(h:fD T E X es as):aF T E X (.Tuple es k pos) (aS as) :=(
 bO (ED h) λσ H Q=>E6x λι h en S er q=>⟨ι,h,en,S,er,q.bind λxs h1 ι1 H1 us g1 S1 r1 q1=>by
  split at q1
  ·rename_i hl
   exact⟨by rw[<- r1.length];exact Np hl 'd',λp n=>ub S1 r1 n q1⟩
  ·exact q1.elim⟩)
def dz(h:fD T E X es as):aF T E X (.List es pos) (aK as) :=(
 bO (sX h) λσ H Q=>E6x λι h en S er q=>⟨ι,h,en,S,er,q.bind λxs h1 ι1 H1 us g1 S1 r1 q1=>by
  split at q1
  ·rename_i hl
   exact⟨by rw[<- r1.length];exact Np hl 'd',λp n=>qi S1 r1 n q1⟩
  ·exact q1.elim⟩)
def mC(h:fD T E X es as):aF T E X (.List es pos) (fE as) :=(
 bO (sX h) λσ H Q=>E6x λι h en S er q=>⟨ι,h,en,S,er,q.bind λxs h1 ι1 H1 us g1 S1 r1 q1=>by
  split at q1
  ·rename_i hl
   exact⟨by rw[<- r1.length];exact Np hl 'd',λp n=>Hn S1 r1 n q1⟩
  ·exact q1.elim⟩)
def ui:aF T E X (.Dict [] [] pos) (kR false) :=(
 bO Fw λσ H Q ⟨ι,h,en,S,er,q⟩ p n=>q _ _ _ (S.growAdd n) (S.add n ⟨[],rfl,.nil⟩) (.ref S.addAt))
def HD:aF T E X (.Dict [] [] pos) (kR true) :=(
 bO Fx λσ H Q ⟨ι,h,en,S,er,q⟩ p n=>q _ _ _ (S.growAdd n) (S.add n ⟨[],rfl,.nil⟩) (.ref S.addAt))
end
section
variable{T:Tb}{E:St->XK}{X:Cx}{pos:Pos}{a b:Expr}{sa sb:SE}{ca:SB}{st:Stmt}{sts ss1 ss2:List Stmt}{s1 s2:SS}
def dY:cF T E X [] aH:=(yp Do λD σ H=>E6x λι h en S er q=>q ι H σ S.refl S er)
def aO(h1:fX T E X st s1)(h2:cF T E X sts s2):cF T E X (st::sts) (ai s1 s2) :=(
 yp (Dp h1 h2) λD σ H=>E6x λι h en S er q=>by
  refine⟨ι,h,en,S,er,?_⟩
  unfold ai at q
  cases e:s1 en h with
  |nx e1 h1 =>
   rw[e] at q;exactλι' H' σ' g S' er'=>⟨ι',h1,e1,S',er',q.shift g⟩
  |rt v h1=>rw[e] at q;exact q
  |bk e1 h1=>rw[e] at q;exact q
  |ct e1 h1=>rw[e] at q;exact q
  |ex c e1 h1=>rw[e] at q;exact q
  |bad=>rw[e] at q;exact q)
def bt(h1:fX T E X st s1):cF T E X [st] s1:=(Dq h1)
def iu(ha:aF T E X a sa)(hs:‹swapsWith a none pos.line X.env=pure false›):fX T E X (.Expr a pos) (aU sa) :=(
 g9 (Ds ha hs) λD σ H=>E6x λι h en S er q=>⟨ι,h,en,S,er,q.go er λv h1 ι1 H1 u g1 S1 r1 q1=>q1 ι1 H1 σ S1.refl S1 (er.mono g1)⟩)
def dZ(ha:aF T E X a sa):fX T E X (.Return (some a) pos) (ak sa) :=(
 g9 (Dt ha) λD σ H=>E6x λι h en S er q=>⟨ι,h,en,S,er,q.go er λv h1 ι1 H1 u g1 S1 r1 q1=>q1 ι1 H1 u S1.refl S1 r1⟩)
def bj(hc:g8 T E X a ca)(h1:cF T E X ss1 s1)(h2:cF T E X ss2 s2):fX T E X (.If a ss1 ss2 pos) (aG ca s1 s2) :=(
 g9 (Du hc h1 h2) λD σ H=>E6x λι h en S er q=>⟨ι,h,en,S,er,q.go er λx h1 ι1 H1 u g1 S1 r1 q1=>by
  subst r1;by_cases hx:x=true
  ·rw[Nn hx] at q1 ⊢
   exact⟨ι1,h1,en,S1,er.mono g1,q1⟩
  ·rw[Nr hx] at q1 ⊢
   exact⟨ι1,h1,en,S1,er.mono g1,q1⟩⟩)
def yB{σ:St}{H:Hp}{D:cN}{i:Nat}(q:tS T E (au i sa) D σ H):i9 (tE T E sa) (mf i) D σ H:=by
 obtain⟨ι,h,en,S,er,q⟩:=q;exact⟨ι,h,en,S,er,q.go er λv h1 ι1 H1 u g1 S1 r1 q1=>q1 ι1 H1 _ S1.refl S1 ((er.mono g1).set r1 i)⟩
def bE{i:Nat}{x:Str}{p':Pos}(hN:X.N.Nodup)(ha:aF T E X a sa)(hi:‹X.N[i]?=some x›)(hx:kB X.env.scope x:=by first|exact Or.inl rfl|exact Or.inr rfl)(hs:‹swapsWith a (some (.Name x p')) pos.line X.env=pure false›)
  (hf:X.fn x=true\/X.env.scope.names.lookup x=some .local:=by first|exact .inl rfl|exact .inr rfl|assumption):fX T E X (.Assign [.Name x p'] a pos) (au i sa) :=(
 g9 (DB hN hi hx ha hs hf) λD σ H q=>yB q)
theorem yC{ι:Ix}{H:Hp}:∀ {is:List Nat} {xs:List AV} {us:List V} {en e:En} {σ:St},RVs T ι H xs us->ER T ι H en σ->qf is xs en=some e->ER T ι H e ((is.zip us).foldl (λσ p=>σ.set p.1 (some p.2)) σ)/\us.length=is.length
 |[],_,_,en,e,σ,.nil,er,q=>by cases q;exact⟨er,rfl⟩
 |i::is,_,_,en,e,σ,.cons r rs,er,q=>by
  obtain⟨h1,h2⟩:=yC (is:=is) rs (er.set r i) q;exact⟨h1,by simp[h2]⟩
 |[],_,_,en,e,σ,.cons r rs,er,q=>by cases q
 |i::is,_,_,en,e,σ,.nil,er,q=>by cases q
def qo(T:Tb)(X:Cx)(tg:Expr)(t:Tg):Prop:=∃ g,PG X tg g/\∀ {ι:Ix} {h:AH} {H:Hp} {en e:En} {σ:St} {v:AV} {u:V} {Q:St->Hp->Prop},Sim T ι h H->ER T ι H en σ->RV T ι H v u->eZ t v en=some e ->
 (∀ σ',ER T ι H e σ'->Q σ' H)->g u σ H Q
def uj{i:Nat}{x:Str}(hN:X.N.Nodup)(hi:‹X.N[i]?=some x›)(hx:kB X.env.scope x:=by first|exact Or.inl rfl|exact Or.inr rfl)(hf:X.fn x=true\/X.env.scope.names.lookup x=some .local:=by first|exact .inl rfl|exact .inr rfl|assumption) :
  qo T X (.Name x pos) (.nm i):=(⟨_,sF hN hi hx hf,λS er r e k=>by cases e;exact k _ (er.set r i)⟩)
def ju(X:Cx)(es:List Expr)(is:List Nat):Prop:=kF X es (λvs σ H Q=>vs.length=is.length/\Q ((is.zip vs).foldl (λσ p=>σ.set p.1 (some p.2)) σ) H)
def yD{X:Cx}{es:List Expr}{t t':jT}(h:kF X es t)(k:∀ vs σ H Q,t' vs σ H Q->t vs σ H Q):kF X es t':=(λpins s σ H vs us Q I r q=>h pins s σ H vs us Q I r (k vs σ H Q q))
def nZ:ju X [] []:=(yD Dw λvs σ H Q ⟨l,q⟩=>by
 cases vs with
 |nil=>exact⟨rfl,q⟩
 |cons=>cases l)
def iw{i:Nat}{is:List Nat}{x:Str}{p:Pos}{es:List Expr}(hN:X.N.Nodup)(hr:ju X es is)(hi:‹X.N[i]?=some x›)(hx:kB X.env.scope x:=by first|exact Or.inl rfl|exact Or.inr rfl)
  (hf:X.fn x=true\/X.env.scope.names.lookup x=some .local:=by first|exact .inl rfl|exact .inr rfl|assumption)(hs:‹(assignEach (.Name x p::es) X.env).map (·.2)=assign (.Name x p) X.env::(assignEach es X.env).map (·.2)›):ju X (.Name x p::es) (i::is) :=(
 yD (Dx (sF hN hi hx hf) hr hs) λvs σ H Q ⟨l,q⟩=>by
  cases vs with
  |nil=>cases l
  |cons v r=>exact⟨v,r,rfl,Nat.succ.inj l,q⟩)
def n5{es:List Expr}{is:List Nat}{k:Nat}(hK:X.K=T.K)(hc:X.calm=true)(h:ju X es is)(hn:‹(assignEach es X.env).length=is.length›)(hst:‹(assignEach es X.env).findIdx? (·.1)=none›):qo T X (.Tuple es k pos) (.tup is) :=(
 ⟨_,Dy hc h hn hst,λ{ι h H en e σ v u Q} S er r q k=>by
  unfold eZ at q;split at q
  ·rename_i hh;cases hh
  ·rename_i hh
   cases hh
   obtain⟨a,us,rfl,q1,r1⟩:=kW r;obtain⟨h1,h2⟩:=yC r1 er q;exact⟨a,us,rfl,hK▸q1,h2,h2,k _ h1⟩
  ·rename_i hh;cases hh
  ·cases q⟩)
def yE{tg:Expr}{t:Tg}(ha:aF T E X a sa)(hg:qo T X tg t)(hs:‹swapsWithSole [tg] a pos.line X.env=pure false›)(hw:‹swappedStores [tg] a X.env=pure none›)
  (h1:‹(assignEach [tg] X.env).map (·.2)=[assign tg X.env]›):fX T E X (.Assign [tg] a pos) (nV t sa):=by
 obtain⟨g,hg1,hg2⟩:=hg;refine g9 (xb ha hg1 hs hw h1) λD σ H=>E6x λι h en S er q=>⟨ι,h,en,S,er,q.go er λv h1 ι1 H1 u g1 S1 r1 q1=>?_⟩
 split at q1
 ·rename_i e he
  exact hg2 S1 (er.mono g1) r1 he λσ' er'=>q1 ι1 H1 σ' S1.refl S1 er'
 ·exact q1.elim
structure uk(T:Tb)(J:It)(ι:Ix)(H:Hp)(ys:List AV)(L:AH->Bool):Prop where
 go:∀ (i:Nat) (ι':Ix) (h':AH) (H':Hp) (x:AV),Ext ι H ι' H'->Sim T ι' h' H'->L h'=true->ys[i]?=some x->J.go i H'/\∀ u H2,J.yld i H' u H2->Grow ι' H' ι' H2/\Sim T ι' h' H2/\RV T ι' H2 x u
 stop:∀ (i:Nat) (ι':Ix) (h':AH) (H':Hp),Ext ι H ι' H'->Sim T ι' h' H'->L h'=true->ys.length<=i->J.stop i H'
abbrev iW(T:Tb)(J:It)(ι:Ix)(H:Hp)(xs:List AV)(w:Option Nat):Prop:=uk T J ι H xs (fF w xs)
def tI(T:Tb)(it:SI):TI:=λσ H R=>∃ ι h en,Sim T ι h H/\ER T ι H en σ/\match it en h with
 |.ok (xs,w) h'=>∀ ι' H' J,Grow ι H ι' H'->Sim T ι' h' H'->iW T J ι' H' xs w->R J H'
 |_=>False
abbrev jv(T:Tb)(X:Cx)(tg iter:Expr)(it:SI):Prop:=PI X tg iter (tI T it)
def mD{X:Cx}{tg iter:Expr}{t t':TI}(h:PI X tg iter t)(k:∀ σ H R,t' σ H R->t σ H R):PI X tg iter t':=(λpins s σ H R I q=>h pins s σ H R I (k σ H R q))
def PI.or{X:Cx}{tg iter:Expr}{t t':TI}(h:PI X tg iter t)(h':PI X tg iter t'):PI X tg iter (λσ H R=>t σ H R\/t' σ H R):=(λpins s σ H R I q=>q.elim (h pins s σ H R I) (h' pins s σ H R I))
def yF{ι:Ix}{H:Hp}{a:ZE}{us:List V}{xs:List AV}{K:ZA}(keep:∀ (ι':Ix) (H':Hp),Ext ι H ι' H'->SqL K H' a us)(r:RVs T ι H xs us):iW T (pP K a) ι H xs none:=by
 constructor
 ·intro i ι' h' H' x g S _ e
  obtain⟨u,e1,r1⟩:=(r.ext g).get e;refine⟨⟨us,u,keep ι' H' g,e1⟩,?_⟩
  rintro u2 H2 ⟨rfl,y⟩
  have z:=y us (keep ι' _ g);rw[e1] at z;cases z
  exact⟨S.refl,S,r1⟩
 ·intro i ι' h' H' g S _ hl
  exact⟨us,keep ι' H' g,by rw[<- r.length];exact hl⟩
def HE{ι:Ix}{H:Hp}{a:ZE}{us:List V}{xs:List AV}{K:ZA}(keep:∀ (ι':Ix) (H':Hp),Ext ι H ι' H'->SqT K H' a us)(r:RVs T ι H xs us):iW T (sL K a) ι H xs none:=by
 constructor
 ·intro i ι' h' H' x g S _ e
  obtain⟨u,e1,r1⟩:=(r.ext g).get e;refine⟨⟨us,u,keep ι' H' g,e1⟩,?_⟩
  rintro u2 H2 ⟨rfl,y⟩
  have z:=y us (keep ι' _ g);rw[e1] at z;cases z
  exact⟨S.refl,S,r1⟩
 ·intro i ι' h' H' g S _ hl
  exact⟨us,keep ι' H' g,by rw[<- r.length];exact hl⟩
def HF{ι:Ix}{H:Hp}{a:ZE}{n:Nat}{xs:List AV}{K:ZA}(e:ι.refs[n]?=some a):iW T (pP K a) ι H xs (some n):=by
 have at_:∀ {ι':Ix} {h':AH} {H':Hp},Ext ι H ι' H'->Sim T ι' h' H'->fF (some n) xs h'=true->∃ us,H' a=some (.lst us)/\RVs T ι' H' xs us:=λ{ι' h' H'} g S l=>by
  unfold fF at l;dsimp only at l;split at l
  ·rename_i ys hy
   have z:=Qx l;subst z;obtain⟨u,e1,us,rfl,r⟩:=S.obj n _ a hy (g.at_ e)
   exact⟨us,e1,r⟩
  ·cases l
 constructor
 ·intro i ι' h' H' x g S l e
  obtain⟨us,e0,r⟩:=at_ g S l;obtain⟨u,e1,r1⟩:=r.get e;refine⟨⟨us,u,.of e0,e1⟩,?_⟩
  rintro u2 H2 ⟨rfl,y⟩
  have z:=y us (.of e0);rw[e1] at z;cases z
  exact⟨S.refl,S,r1⟩
 ·intro i ι' h' H' g S l hl
  obtain⟨us,e0,r⟩:=at_ g S l;exact⟨us,.of e0,by rw[<- r.length];exact hl⟩
def HH{ι:Ix}{H:Hp}{x:Str}(o:x.cps.all (· < 0x110000)=true):iW T (tH x) ι H (x.cps.toList.map λc=>.str ⟨#[c]⟩) none:=by
 constructor
 ·intro i ι' h' H' y g S _ e
  rw[NY] at e;obtain⟨c,e1,rfl⟩:=NG.mp e
  have hi:i<x.cps.size:=by
   have:=(Ni.mp e1).1;simpa using this
  refine⟨hi,?_⟩
  rintro u H2 ⟨rfl,c',e2,rfl⟩
  have z:x.cps[i]?=some c:=by simpa using e1
  rw[e2] at z;cases z
  refine⟨S.refl,S,.str (show 1<=sizeLine by decide) ?_⟩
  have m:=Array.mem_of_getElem? e2;have:=Ox.mp o _ m;simpa using this
 ·intro i ι' h' H' g S _ hl
  show x.cps.size<=i
  simpa using hl
def HI(n:Nat):∀ (lo:Int) (i:Nat),(cP lo n)[i]?=if i<n then some (.int (lo+i)) else none:=by
 induction n with
 |zero=>intro lo i;simp[cP]
 |succ n ih =>
  intro lo i
  cases i with
  |zero=>simp[cP]
  |succ i =>
   show (cP (lo+1) n)[i]?=_
   rw[ih];by_cases h:i<n
   ·rw[Nn h,Nn ⋯]
    congr 2
    show lo+1+(i:Int)=lo+((i+1:Nat):Int)
    lia
   ·rw[Nr h,Nr ⋯]
def HJ(n:Nat):∀ lo:Int,(cP lo n).length=n:=by
 induction n with
 |zero=>intro lo;rfl
 |succ n ih=>intro lo;show (cP (lo+1) n).length+1=n+1;rw[ih]
def yG{ι:Ix}{H:Hp}{lo:Int}{n:Nat}:iW T (nF lo n) ι H (cP lo n) none:=by
 constructor
 ·intro i ι' h' H' y g S _ e
  rw[HI] at e;split at e
  ·rename_i hi
   cases e
   refine⟨hi,?_⟩
   rintro u H2 ⟨rfl,rfl⟩
   exact⟨S.refl,S,.int _⟩
  ·cases e
 ·intro i ι' h' H' g S _ hl
  rw[HJ] at hl;exact hl
theorem numbered_get:∀ (xs:List AV) (k i:Nat),(numbered k xs)[i]?=(xs[i]?).map λx=>.tup [.int ((k+i:Nat):Int),x]
 |[],k,i=>by simp[numbered]
 |x::xs,k,0=>by simp[numbered]
 |x::xs,k,i+1=>by
  show (numbered (k+1) xs)[i]?=_
  rw[numbered_get xs (k+1) i];show _=(xs[i]?).map _
  congr 1
  funext y
  rw[show k+1+i=k+(i+1) by lia]
theorem yH:∀ (xs:List AV) (k:Nat),(numbered k xs).length=xs.length
 |[],_=>rfl
 |x::xs,k=>by show (numbered (k+1) xs).length+1=_;rw[yH xs];rfl
def yI{ι:Ix}{H:Hp}{a:ZE}{us:List V}{xs:List AV}{K:ZA}(keep:∀ (ι':Ix) (H':Hp),Ext ι H ι' H'->SqL K H' a us)(r:RVs T ι H xs us):iW T (tG K a) ι H (numbered 0 xs) none:=by
 constructor
 ·intro i ι' h' H' x g S _ e
  rw[numbered_get] at e;obtain⟨y,e0,rfl⟩:=NG.mp e
  obtain⟨u,e1,r1⟩:=(r.ext g).get e0;refine⟨⟨us,u,keep ι' H' g,e1⟩,?_⟩
  rintro u2 H2 ⟨t,y2,rfl,hn,rfl,hy⟩
  have z:=hy us (keep ι' _ g);rw[e1] at z;cases z
  have g2:=S.growNew (o:=.tup [.int i,u]) hn;refine⟨g2,S.new hn,.tup (S.fresh hn) dH (.cons ?_ (.cons (r1.mono g2) .nil))⟩
  rw[R5];exact .int _
 ·intro i ι' h' H' g S _ hl
  rw[yH] at hl;exact⟨us,keep ι' H' g,by rw[<- r.length];exact hl⟩
def yJ{ι:Ix}{H:Hp}{a:ZE}{us:List V}(n:a∉ι.all)(h:Rd H a (.lst us)):∀ (ι':Ix) (H':Hp),Ext ι H ι' H'->SqL T.K H' a us:=(λ_ _ g=>.inl (ym g n h))
def HK{ι:Ix}{H:Hp}{a:ZE}{us:List V}(n:a∉ι.all)(h:H a=some (.tup us)):∀ (ι':Ix) (H':Hp),Ext ι H ι' H'->SqT T.K H' a us:=(λ_ _ g=>.of (g.keep _ _ n h))
def qr{K K':ZA}{H:Hp}{a:ZE}{us:List V}(e:K=K')(h:SqL K' H a us):SqL K H a us:=(e▸h)
def qt{σ:St}{H:Hp}{R:It->Hp->Prop}{ι:Ix}{h h1:AH}{en:En}{v:AV}{xs:List AV}{w:Option Nat}(hK:X.K=T.K)(S:Sim T ι h H)(er:ER T ι H en σ)(e:sa en h=.ok v h1)(hv:(v=.fl xs/\w=none)\/∃ n,v=.ref n/\h1[n]?=some (.lst xs)/\w=some n)
  (q:∀ ι' H' J,Grow ι H ι' H'->Sim T ι' h1 H'->iW T J ι' H' xs w->R J H'):xg X.K (tE T E sa) σ H R:=by
 refine⟨ι,h,en,S,er,?_⟩
 rw[e];intro ι1 H1 u g1 S1 r1
 rcases hv with⟨rfl,rfl⟩|⟨n,rfl,hn,rfl⟩
 ·cases r1 with
  |fl n hr rs=>exact⟨_,rfl,⟨_,qr hK (.inl hr)⟩,q ι1 H1 _ g1 S1 (hK▸yF (yJ n hr) rs)⟩
  |kfl hr rs=>exact⟨_,rfl,⟨_,qr hK (.inr hr)⟩,q ι1 H1 _ g1 S1 (hK▸yF (λ_ _ _=>.inr hr) rs)⟩
 ·cases r1 with
  |ref hr =>
   obtain⟨u,e1,us,rfl,rs⟩:=S1.obj n _ _ hn hr;exact⟨_,rfl,⟨_,.of e1⟩,q ι1 H1 _ g1 S1 (HF hr)⟩
def yK{σ:St}{H:Hp}{R:It->Hp->Prop}{ι:Ix}{h h1:AH}{en:En}{xs:List AV}(hK:X.K=T.K)(S:Sim T ι h H)(er:ER T ι H en σ)(e:sa en h=.ok (.tup xs) h1)
  (q:∀ ι' H' J,Grow ι H ι' H'->Sim T ι' h1 H'->iW T J ι' H' xs none->R J H'):nG X.K (tE T E sa) σ H R:=by
 refine⟨ι,h,en,S,er,?_⟩
 rw[e];intro ι1 H1 u g1 S1 r1
 cases r1 with
 |tup n hr rs=>exact⟨_,rfl,⟨_,.of hr⟩,q ι1 H1 _ g1 S1 (hK▸HE (HK n hr) rs)⟩
def HL{tg:Expr}(hK:X.K=T.K)(ha:aF T E X a sa):jv T X tg a (t7 sa) :=(
 mD (PI.or (xh ha) (xj ha)) λσ H R=>E6x λι h en S er q=>by
  unfold t7 at q
  cases e:sa en h with
  |bad=>rw[e] at q;exact q.elim
  |ex c h1=>rw[e] at q;exact q.elim
  |ok v h1 =>
   rw[e] at q
   cases v with
   |fl xs=>exact .inl (qt hK S er e (.inl ⟨rfl,rfl⟩) q)
   |tup xs=>exact .inr (yK hK S er e q)
   |ref n =>
    dsimp only[Out.bind] at q
    cases e2:h1[n]? with
    |none=>rw[e2] at q;exact q.elim
    |some o =>
     rw[e2] at q
     cases o with
     |lst xs=>exact .inl (qt hK S er e (.inr ⟨n,rfl,e2,rfl⟩) q)
     |_=>exact q.elim
   |_=>exact q.elim)
def yL{y:Str}{py:Pos}(hK:X.K=T.K)(ha:aF T E X a sa):jv T X (.Name y py) a (d9 sa) :=(
 mD (PI.or (xh ha) (PI.or (xj ha) (FT ha))) λσ H R=>E6x λι h en S er q=>by
  unfold d9 at q
  cases e:sa en h with
  |bad=>rw[e] at q;exact q.elim
  |ex c h1=>rw[e] at q;exact q.elim
  |ok v h1 =>
   rw[e] at q
   cases v with
   |fl xs=>exact .inl (qt hK S er e (.inl ⟨rfl,rfl⟩) q)
   |tup xs=>exact .inr (.inl (yK hK S er e q))
   |str z =>
    refine .inr (.inr ⟨ι,h,en,S,er,?_⟩)
    rw[e];intro ι1 H1 u g1 S1 r1
    obtain⟨rfl,_,o⟩:=eB r1;exact⟨_,rfl,q ι1 H1 _ g1 S1 (HH o)⟩
   |ref n =>
    dsimp only[Out.bind] at q
    cases e2:h1[n]? with
    |none=>rw[e2] at q;exact q.elim
    |some o =>
     rw[e2] at q
     cases o with
     |lst xs=>exact .inl (qt hK S er e (.inr ⟨n,rfl,e2,rfl⟩) q)
     |_=>exact q.elim
   |_=>exact q.elim)
def HM {tg:Expr} {p:Pos} (hg:Gl X "range") (hm:X.mg "range"=none) (ha:aF T E X a sa) (hs:‹starEach [a] X.env=[(false,eval a X.env)]›):jv T X tg (.Call (.Name "range" p) [a] [] pos) (kT sa) :=(
 mD (DJ hg hm (aj ha aC hs) hs) λσ H R=>E6x λι h en S er q=>by
  unfold kT at q;refine⟨ι,h,en,S,er,?_⟩
  unfold ah
  cases e:sa en h with
  |bad=>rw[e] at q;exact q
  |ex c h1=>rw[e] at q;exact q.elim
  |ok v h1 =>
   rw[e] at q;intro ι1 H1 u g1 S1 r1
   dsimp only[Out.bind] at q
   cases v with
   |int j =>
    dsimp only at q;split at q
    ·rename_i hx
     split at hx
     ·rename_i hb
      cases hx
      cases r1 with
      |cons r r' =>
       cases r'
       rw[bu r];exact⟨j,rfl,by lia,by lia,q ι1 H1 _ g1 S1 yG⟩
     ·cases hx
    ·exact q.elim
   |_=>exact q.elim)
def um {tg:Expr} {p:Pos} (hg:Gl X "range") (hm:X.mg "range"=none) (ha:aF T E X a sa) (hb:aF T E X b sb) (hs:‹starEach [a,b] X.env=[(false,eval a X.env),(false,eval b X.env)]›) (hs2:‹starEach [b] X.env=[(false,eval b X.env)]›) :
  jv T X tg (.Call (.Name "range" p) [a,b] [] pos) (iU sa sb) :=(
 mD (DL hg hm (aj ha (aj hb aC hs2) (by rw[hs,hs2])) hs hs2) λσ H R=>E6x λι h en S er q=>by
  unfold iU at q;refine⟨ι,h,en,S,er,?_⟩
  unfold ah
  cases e:sa en h with
  |bad=>rw[e] at q;exact q
  |ex c h1=>rw[e] at q;exact q.elim
  |ok v h1 =>
   rw[e] at q;dsimp only[Out.bind] at q ⊢
   cases e':sb en h1 with
   |bad=>rw[e'] at q;exact q
   |ex c h1=>rw[e'] at q;exact q.elim
   |ok v' h2 =>
    rw[e'] at q;dsimp only at q
    intro ι1 H1 u g1 S1 r1;split at q
    ·rename_i hx
     split at hx
     ·split at hx
      ·rename_i hb
       cases hx
       cases r1 with
       |cons r r' =>
        cases r' with
        |cons r2 r3 =>
         cases r3
         rw[bu r,bu r2];exact⟨_,_,rfl,by lia,q ι1 H1 _ g1 S1 yG⟩
      ·cases hx
     ·cases hx
    ·exact q.elim)
def yM {p tp:Pos} {es:List Expr} {k:Nat} (hK:X.K=T.K) (hg:Gl X "enumerate") (hm:X.mg "enumerate"=none) (ha:aF T E X a sa) (hs:‹starEach [a] X.env=[(false,eval a X.env)]›):jv T X (.Tuple es k tp) (.Call (.Name "enumerate" p) [a] [] pos) (Sm.iEnum sa) :=(
 mD (FQ hg hm (aj ha aC hs) hs) λσ H R=>E6x λι h en S er q=>by
  unfold Sm.iEnum at q;refine⟨ι,h,en,S,er,?_⟩
  unfold ah
  cases e:sa en h with
  |bad=>rw[e] at q;exact q
  |ex c h1=>rw[e] at q;exact q.elim
  |ok v h1 =>
   rw[e] at q;intro ι1 H1 u g1 S1 r1
   dsimp only[Out.bind] at q
   cases v with
   |fl xs =>
    cases r1 with
    |cons r r' =>
     cases r'
     cases r with
     |fl n hr rs=>exact⟨_,rfl,⟨_,qr hK (.inl hr)⟩,q ι1 H1 _ g1 S1 (hK▸yI (yJ n hr) rs)⟩
     |kfl hr rs=>exact⟨_,rfl,⟨_,qr hK (.inr hr)⟩,q ι1 H1 _ g1 S1 (hK▸yI (λ_ _ _=>.inr hr) rs)⟩
   |_=>exact q.elim)
def yN{α:Type}{xs:List α}{i:Nat}(h:i<xs.length):xs.drop i=xs[i]::xs.drop (i+1):=by simp
def HN(g:TG)(tb:TS)(D:cN)(σ:St)(H1:Hp)(J:It):Prop:=∃ W:Nat->Nat->St->Hp->Prop,(∃ m,W 0 m σ H1)/\∀ i m σ H,W i m σ H->(J.stop i H/\D.nx σ H)\/(J.go i H/\∃ N:St->Hp->Prop,(∀ σ' H',N σ' H'->∃ m',m'<m/\W (i+1) m' σ' H')/\∀ x H',J.yld i H x H'->g x σ H' λσ' H''=>tb { D with nx:=N,ct:=N,bk:=D.nx } σ' H'')
def HP{g:TG}{t:Tg}{J:It}{ι1:Ix}{h1:AH}{H1:Hp}{en:En}{σ:St}{D:cN}{w:Option Nat}{all ys:List AV}
  (hg2:∀ {ι:Ix} {h:AH} {H:Hp} {en e:En} {σ:St} {v:AV} {u:V} {Q:St->Hp->Prop},Sim T ι h H->ER T ι H en σ->RV T ι H v u->eZ t v en=some e->(∀ σ',ER T ι H e σ'->Q σ' H)->g u σ H Q)
  (S1:Sim T ι1 h1 H1)(er:ER T ι1 H1 en σ)(IR:uk T J ι1 H1 ys (fF w all))(q:PostS T ι1 H1 E (gA w all t s1 ys en h1) D):HN g (tS T EN s1) D σ H1 J:=by
 refine⟨λi m σ H=>m=ys.length-i/\i<=ys.length/\∃ ι' h' en',Grow ι1 H1 ι' H/\Sim T ι' h' H/\ER T ι' H en' σ/\PostS T ι' H E (gA w all t s1 (ys.drop i) en' h') D,
  ⟨ys.length,by simp,NU _,ι1,h1,en,S1.refl,S1,er,q⟩,?_⟩
 rintro i m σ H ⟨rfl,hi,ι',h',en',g',S',er',q'⟩
 by_cases hl:i<ys.length
 ·rw[yN hl] at q'
  unfold gA at q'
  split at q'
  ·rename_i hlive
   obtain⟨go,yld⟩:=IR.go i ι' h' H ys[i] g'.ext S' hlive (by simp[hl]);refine .inr ⟨go,λσ H=>∃ ι' h' en',Grow ι1 H1 ι' H/\Sim T ι' h' H/\ER T ι' H en' σ/\PostS T ι' H E (gA w all t s1 (ys.drop (i+1)) en' h') D,
    λσ' H' w'=>⟨ys.length-(i+1),by lia,rfl,hl,w'⟩,λx H' y=>?_⟩
   obtain⟨g2,S2,r2⟩:=yld x H' y;split at q'
   ·rename_i e1 he1
    refine hg2 S2 (er'.mono g2) r2 he1 λσ' er2=>⟨ι',h',e1,S2,er2,?_⟩
    have q2:=PostS.shift q' g2
    cases e2:s1 e1 h' with
    |nx e3 h3=>rw[e2] at q2;exactλι3 H3 σ3 g3 S3 er3=>⟨ι3,h3,e3,g'.trans (g2.trans g3),S3,er3,q2.shift g3⟩
    |ct e3 h3=>rw[e2] at q2;exactλι3 H3 σ3 g3 S3 er3=>⟨ι3,h3,e3,g'.trans (g2.trans g3),S3,er3,q2.shift g3⟩
    |bk e3 h3=>rw[e2] at q2;exact q2
    |rt v h3=>rw[e2] at q2;exact q2
    |ex c e3 h3=>rw[e2] at q2;exact(show False from q2).elim
    |bad=>rw[e2] at q2;exact q2
   ·exact(show False from q').elim
  ·exact(show False from q').elim
 ·have ei:i=ys.length:=by lia
  subst ei;rw[List.drop_length] at q';unfold gA at q'
  split at q'
  ·rename_i hlive
   exact .inl ⟨IR.stop _ ι' h' H g'.ext S' hlive (Nk _),q' ι' H σ S'.refl S' er'⟩
  ·exact(show False from q').elim
def n8{tg iter:Expr}{it:SI}{t:Tg}(hc:X.calm=true)(hi:jv T X.nox tg iter it)(hg:qo T X.nox tg t)(hb:cF T EN X.nox sts s1)(hs:∀ x,foldedSetIterable iter X.nox.env x=pure x:=by intro _;rfl) :
  fX T E X (.For tg iter sts [] pos) (bT it t s1):=by
 obtain⟨g,hg1,hg2⟩:=hg;refine g9 (Hm (DO PassesOwn.never hc hi hg1 hb hs)) λD σ H=>E6x λι h en S er q=>⟨ι,h,en,S,er,?_⟩
 unfold bT at q
 cases e:it en h with
 |bad=>rw[e] at q;exact q
 |ex c h1=>rw[e] at q;exact q
 |ok p h1 =>
  obtain⟨xs,w⟩:=p;rw[e] at q;intro ι1 H1 J g1 S1 IR
  exact HP hg2 S1 (er.mono g1) IR (PostS.shift q g1)
def ER.comp{ι:Ix}{H:Hp}{en:En}{σ:St}{ys:List AV}{us:List V}{jf:List (Nat×Str)}(er:ER T ι H en σ)(r:RVs T ι H ys us):ER T ι H (ys.map some++(jf.map (·.1)).map λj=>(en[j]?).join) (fC (us.map some) jf σ):=by
 unfold fC;induction ys generalizing us with
 |nil =>
  cases r
  refine⟨by simp,λi v e=>?_⟩
  simp only[QX,P3,NY] at e ⊢
  cases e1:jf[i]? with
  |none=>rw[e1] at e;cases e
  |some j =>
   rw[e1] at e;simp only[Option.map_some,Option.some.injEq] at e
   have e2:en[j.1]?=some (some v):=by
    cases e3:en[j.1]? with
    |none=>rw[e3] at e;cases e
    |some o=>rw[e3] at e;exact congrArg some e
   obtain⟨u',e4,r'⟩:=er.2 j.1 v e2;exact⟨u',by simp[e4],r'⟩
 |cons y ys ih =>
  cases r with
  |cons r rs =>
   obtain⟨h1,h2⟩:=ih rs;refine⟨congrArg Nat.succ h1,λi v e=>?_⟩
   cases i with
   |zero=>cases e;exact⟨_,rfl,r⟩
   |succ i=>exact h2 i v e
def kZ(T:Tb)(k:Nat)(g:TG)(cc' cc:SB)(ce' ce:SE):Prop:=∀ x,(∀ r h,cc' (some x::r) h=.bad)\/∃ ys:List AV,ys.length=k/\(∀ r h,cc' (some x::r) h=cc (ys.map some++r) h)/\(∀ r h,ce' (some x::r) h=ce (ys.map some++r) h) /\
 ∀ (ι:Ix) (H:Hp) (u:V),RV T ι H x u->∃ us,RVs T ι H ys us/\∀ (σ:St) (Q:St->Hp->Prop),Q (us.map some++σ) H->g u (List.replicate k none++σ) H Q
def yO{cc:SB}{ce:SE}:kZ T 1 (mf 0) cc cc ce ce:=(λx=>.inr ⟨[x],rfl,λ_ _=>rfl,λ_ _=>rfl,λ_ _ u r=>⟨[u],.cons r .nil,λ_ _ q=>q⟩⟩)
structure CoS(T:Tb)(ι1:Ix)(H1:Hp)(en:En)(σ:St)(D:ZE)(ι':Ix)(h':AH)(vs:List AV)(ys:List V)(H2:Hp):Prop where
 hD:H2 D=some (.lst ys)
 g:Grow ι1 H1 ι' H2
 x:Ext ι1 H1 (ι'.hide D) H2
 S:Sim T (ι'.hide D) h' H2
 er:ER T (ι'.hide D) H2 en σ
 rv:RVs T (ι'.hide D) H2 vs ys
 nD:D∉ι'.refs
def yP{ι' ι5:Ix}{D:ZE}(e:ι5.priv=(ι'.hide D).priv):ι5=Ix.hide ⟨ι5.refs,ι'.priv⟩ D:=by
 cases ι5
 simp only at e
 subst e;rfl
def HQ{ι1 ι' ι5:Ix}{H1 H2 H5:Hp}{D:ZE}(g':Grow ι1 H1 ι' H2)(g:Grow (ι'.hide D) H2 ι5 H5):Grow ι1 H1 ⟨ι5.refs,ι'.priv⟩ H5:=by
 obtain⟨n,en1,hn⟩:=g'.pre;obtain⟨k,ek,hk⟩:=g.pre;refine⟨⟨n++k,?_,λa ha=>?_⟩,g'.priv,λa o na ea=>g.keep a o (g'.outR na ea) (g'.keep a o na ea),λa ha=>g.live a ?_⟩
 ·show ι5.refs=_;rw[ek];show ι'.refs++k=_;rw[en1,PQ]
 ·rcases Oe.mp ha with z|z
  ·exact hn a z
  ·have z2:=hk a z
   by_cases hr:a∈ι1.refs
   ·exact absurd z2 (g'.live a (NK _ hr))
   ·cases e9:H1 a with
    |none=>rfl
    |some o=>rw[g'.keep a o hr e9] at z2;cases z2
 ·rcases Oe.mp ha with z|z
  ·exact NK _ (by show a∈ι'.refs;rw[en1];exact NK _ z)
  ·exact NR _ (NZ _ (by rw[g'.priv];exact z))
section
variable{ι ι1 ι' ι5:Ix}{H H1 H2 H5:Hp}{h1 h' h5:AH}{en:En}{σ:St}{D:ZE}{vs:List AV}{ys:List V}
def CoS.skip(c:CoS T ι1 H1 en σ D ι' h' vs ys H2)(g:Grow (ι'.hide D) H2 ι5 H5)(S:Sim T ι5 h5 H5):CoS T ι1 H1 en σ D ⟨ι5.refs,ι'.priv⟩ h5 vs ys H5:=by
 have e:=yP g.priv;exact⟨g.keep D _ c.nD c.hD,HQ c.g g,e▸c.x.trans g.ext,e▸S,e▸c.er.mono g,e▸c.rv.mono g,g.outR c.nD c.hD⟩
def CoS.poke{v:AV}{u:V}(c:CoS T ι1 H1 en σ D ι' h' vs ys H2)(hD:H1 D=none)(r:RV T (ι'.hide D) H2 v u):CoS T ι1 H1 en σ D ι' h' (vs++[v]) (ys++[u]) (upd H2 D (.lst (ys++[u]))):=by
 refine⟨dH,⟨c.g.pre,c.g.priv,λa o na ea=>by rw[aZ (fA ea hD)];exact c.g.keep a o na ea,λa ha=>?_⟩,c.x.trans Ext.poke,Sim.poke c.S c.nD,ER.ext c.er Ext.poke,RVs.ext Ext.poke (c.rv.append (.cons r .nil)),c.nD⟩
 by_cases z:a=D
 ·subst z;rw[dH];simp
 ·rw[aZ z];exact c.g.live a ha
def CoS.push{v:AV}{u:V}(c:CoS T ι1 H1 en σ D ι' h' vs ys H2)(hD:H1 D=none)(g:Grow (ι'.hide D) H2 ι5 H5)(S:Sim T ι5 h5 H5)(r:RV T ι5 H5 v u):CoS T ι1 H1 en σ D ⟨ι5.refs,ι'.priv⟩ h5 (vs++[v]) (ys++[u]) (upd H5 D (.lst (ys++[u]))) :=(
 (c.skip g S).poke hD ((yP g.priv)▸r))
def CoS.fin(c:CoS T ι1 H1 en σ D ι' h' vs ys H2)(g1:Grow ι H ι1 H1)(S1:Sim T ι1 h1 H1)(hD:H1 D=none):D∉ι'.all/\∀ n,ι'.refs=ι.refs++n->∀ a∈n++[D],H a=none:=by
 refine⟨λz=>(Oe.mp z).elim c.nD λz=>by rw[c.g.priv] at z;exact S1.plive D z hD,λn en1 a ha=>?_⟩
 obtain⟨k,ek,hk⟩:=(g1.trans c.g).pre;have:n=k:=List.append_cancel_left (en1.symm.trans ek)
 subst this;rcases Oe.mp ha with z|z
 ·exact hk a z
 ·have z':a=D:=by simpa using z
  subst z'
  cases e9:H a with
  |none=>rfl
  |some o =>
   by_cases hr:a∈ι.refs
   ·obtain⟨k1,ek1,_⟩:=g1.pre
    exact absurd hD (S1.live a (NK _ (by rw[ek1];exact NK _ hr)))
   ·rw[g1.keep a o hr e9] at hD;cases hD
def CoS.start(er:ER T ι H en σ)(g1:Grow ι H ι1 H1)(S1:Sim T ι1 h1 H1)(hD:H1 D=none):CoS T ι1 H1 en σ D ι1 h1 [] [] (upd H1 D (.lst [])) :=(
 ⟨dH,S1.growNew hD,Ext.hide hD,S1.hide hD,(er.mono g1).ext (Ext.hide hD),.nil,λz=>S1.fresh hD (NK _ z)⟩)
end
def uo(T:Tb)(ι:Ix)(H:Hp)(Q:VK)(o:Out (List AV)):Prop:=match o with
 |.ok ys h2=>∀ ι' H' D vs,Grow ι H ι' H'->Sim T (ι'.hide D) h2 H'->RVs T (ι'.hide D) H' ys vs->H' D=some (.lst vs)->D∉ι'.all->(∀ n,ι'.refs=ι.refs++n->∀ a∈n++[D],H a=none)->Q (.ref D) H'
 |_=>False
def HR{k:Nat}{g:TG}{cc' cc:SB}{ce' ce:SE}{jf:List (Nat×Str)}{σ:St}{H H1:Hp}{Q:VK}{ι ι1:Ix}{h1:AH}{en:En}{xs all:List AV}{w:Option Nat}{J:It}(U:kZ T k g cc' cc ce' ce)(er:ER T ι H en σ)(g1:Grow ι H ι1 H1)(S1:Sim T ι1 h1 H1)
  (IR:uk T J ι1 H1 xs (fF w all))(q:uo T ι H Q (eh (jf.map (·.1)) en w all cc' ce' xs [] h1)):xV k g jf (tT T EN cc) (tE T EN ce) σ Q J H1:=by
 intro D hD;refine⟨λi m ys H2=>m=xs.length-i/\i<=xs.length/\∃ ι' h' vs,CoS T ι1 H1 en σ D ι' h' vs ys H2/\uo T ι H Q (eh (jf.map (·.1)) en w all cc' ce' (xs.drop i) vs h'),⟨xs.length,rfl,NU _,ι1,h1,[],CoS.start er g1 S1 hD,q⟩,?_⟩
 rintro i m ys H2 ⟨rfl,hi,ι',h',vs,c,q'⟩
 refine⟨c.hD,?_⟩
 by_cases hl:i<xs.length
 ·rw[yN hl] at q'
  unfold eh at q'
  by_cases hs:fF w all h'=true/\vs.length<sizeLine
  ·rw[Nn hs] at q'
   obtain⟨go,yld⟩:=IR.go i _ h' H2 xs[i] c.x c.S hs.1 (by simp[hl]);refine .inr ⟨go,by rw[<- c.rv.length];exact hs.2,λx H3 y=>?_⟩
   obtain⟨g3,S3,r3⟩:=yld x H3 y;rcases U xs[i] with z|⟨zs,lz,z1,z2,z3⟩
   ·rw[z] at q';exact False.elim q'
   obtain⟨us,rs,gq⟩:=z3 _ _ _ r3;have er3:=ER.comp (jf:=jf) (c.er.mono g3) rs;rw[z1] at q';refine⟨us,by rw[<- rs.length];exact lz,gq _ _ ⟨rfl,rfl⟩,ι'.hide D,h',_,S3,er3,?_⟩
   cases ec:cc (zs.map some++(jf.map (·.1)).map λj=>(en[j]?).join) h' with
   |bad=>rw[ec] at q';exact q'
   |ex k h5=>rw[ec] at q';exact False.elim q'
   |ok bb h5 =>
    rw[ec] at q';intro ι5 H5 b5 g5 S5 r5
    subst r5
    cases bb with
    |false =>
     rw[Nr NM];exact⟨xs.length-(i+1),by lia,rfl,hl,_,h5,vs,c.skip (g3.trans g5) S5,q'⟩
    |true =>
     rw[Nn rfl];refine⟨ι5,h5,_,S5,er3.mono g5,?_⟩
     dsimp only at q';rw[z2] at q'
     cases ee:ce (zs.map some++(jf.map (·.1)).map λj=>(en[j]?).join) h5 with
     |bad=>rw[ee] at q';exact q'
     |ex k h6=>rw[ee] at q';exact False.elim q'
     |ok v h6 =>
      rw[ee] at q';intro ι6 H6 u6 g6 S6 r6
      have g36:=(g3.trans g5).trans g6;exact⟨g36.keep D _ c.nD c.hD,xs.length-(i+1),by lia,rfl,hl,_,h6,vs++[v],c.push hD g36 S6 r6,q'⟩
  ·rw[Nr hs] at q';exact False.elim q'
 ·have ei:i=xs.length:=by lia
  subst ei;rw[List.drop_length] at q';unfold eh at q'
  by_cases hs:fF w all h'=true
  ·rw[Nn hs] at q'
   have f:=c.fin g1 S1 hD;exact .inl ⟨IR.stop _ _ h' H2 c.x c.S hs (Nk _),q' ι' H2 D ys (g1.trans c.g) c.S c.rv c.hD f.1 f.2⟩
  ·rw[Nr hs] at q';exact False.elim q'
end
end Sm
namespace Sm
open PySem PySem.Spec L2
section
variable{T:Tb}{E:St->XK}{X:Cx}{pos px:Pos}{iter elt:Expr}{ifs:List Expr}{scope:Scope}{x₁:Str}{jf:List (Nat×Str)}{it:SI}{cc:SB}{ce:SE}
def HS{ι:Ix}{H:Hp}{Q:VK}{F:XK}{o:Out (List AV)}(q:Post T ι H F (RV T) (match o with|.ok ys h2=>.ok (.fl ys) h2|_=>.bad) Q):uo T ι H Q o:=by
 cases o with
 |bad=>exact q
 |ex c h1=>exact q.elim
 |ok ys h2=>exactλι' H' D vs g S' r hD nD _=>q ι' H' _ g S'.show (.fl nD (.inl hD) (r.ext Ext.show))
def yQ{k:Nat}{g:TG}{cc':SB}{ce':SE}{σ:St}{H:Hp}{Q:VK}(U:kZ T k g cc' cc ce' ce)(q:tE T E (e7 (jf.map (·.1)) it cc' ce') σ H Q):p7 k g jf (tI T it) (tT T EN cc) (tE T EN ce) σ H Q:=by
 obtain⟨ι,h,en,S,er,q⟩:=q;refine⟨ι,h,en,S,er,?_⟩
 unfold e7 at q
 cases e:it en h with
 |bad=>rw[e] at q;exact q
 |ex c h1=>rw[e] at q;exact q.elim
 |ok p h1=>rw[e] at q;exactλι1 H1 J g1 S1 IR=>HR U er g1 S1 IR (HS q)
def yR:kO X [] (tT T E bI):=(λpins s σ H Q I ⟨ι,h,en,S,er,q⟩=>FV pins s σ H Q I (q.now S rfl))
def uq(C:CompOk X [x₁] jf scope)(hcalm:X.calm=true)(hi:jv T X (.Name x₁ px) iter it)(hc:∀ pins cl s H fp,kO (cT X pins [x₁] jf scope cl s H fp) ifs (tT T EN cc))(he:∀ pins cl s H fp,aF T EN (cT X pins [x₁] jf scope cl s H fp) elt ce)
  (hs:∀ x,foldedSetIterable iter X.env x=pure x:=by intro _;rfl):aF T E X (.ListComp elt [⟨.Name x₁ px,iter,ifs,0⟩] scope pos) (e7 (jf.map (·.1)) it cc ce) :=(
 bO (FY hcalm (λ_ _ _ _ _=>C.pg 0 rfl (.head _)) hi hc he C hs) λ_ _ _ q=>yQ yO q)
def HU{y:Str}{py spos:Pos}{i:Nat}(C:CompOk X [x₁] jf scope)(hcalm:X.calm=true)(hi:jv T X (.Name x₁ px) iter it)(hc:∀ pins cl s H fp,kO (cT X pins [x₁] jf scope cl s H fp) ifs (tT T EN cc))(he:∀ pins cl s H fp,aF T EN (cT X pins [x₁] jf scope cl s H fp) elt ce)
  (hNX:X.N.Nodup)(hi':‹X.N[i]?=some y›)(hy:‹X.env.scope.names.lookup y=some .local›)(hsw:‹swapsWith (.ListComp elt [⟨.Name x₁ px,iter,ifs,0⟩] scope pos) (some (.Name y py)) spos.line X.env=pure true›)(hs:∀ x,foldedSetIterable iter X.env x=pure x:=by intro _;rfl) :
  fX T E X (.Assign [.Name y py] (.ListComp elt [⟨.Name x₁ px,iter,ifs,0⟩] scope pos) spos) (au i (e7 (jf.map (·.1)) it cc ce)) :=(
 g9 (FZ hcalm (λ_ _ _ _ _=>C.pg 0 rfl (.head _)) hi hc he C hNX hi' hy hsw hs) λD σ H q=>yQ yO (yB q))
end
def iy(T:Tb)(F:Fn):Sp:=λvs H Q E=>∃ ι h args,Sim T ι h H/\RVs T ι H args vs/\Post T ι H E (RV T) (F args h) Q
def HW(F:Fn)(n:Nat):Prop:=∀ args h,args.length≠n->F args h=.bad
def yS(n m:Nat)(b:SS):HW (aw n m b) n:=(λargs h hl=>by
 unfold aw;rw[Nr hl])
def qu{P:ZD}{w:ZF}{K:ZA}{mg:Str->Option ZC}{base:Heap}{T:Tb}{x qual:Str}{st:Stmt}{f:ZE}{fd:FuncData}{N ps:List Str}{k:Nat}{b:SS}(F:Fun K x qual st f fd)(hK:K=T.K)(S:aE N ps (bK st))
  (hbody:∀ (cdv:ZC) (A:ZG) (outer:List Env) (s:ZB) (H:Hp) (E:XK),Room k (A.deeper (PyProof.Rows.envOfC qual (bK st) s.heap.objs.size f cdv))->CA T (λ_=>E) (bQ (cL P w) P w K mg base N qual (bK st) f cdv A outer s H E) ->
   cF T (λ_=>E) (bQ (cL P w) P w K mg base N qual (bK st) f cdv A outer s H E) (iS st) b):FnOk P w K mg base (cL P w) (k+1) f fd ps (iy T (aw ps.length N.length b)):=by
 refine F.okE S (λvs H Q E h=>?_) (λcdv A outer s H vs Q E hr h=>?_)
 ·obtain⟨ι,h,args,_,r,q⟩:=h
  by_cases hl:args.length=ps.length
  ·rw[<- hl,r.length]
  ·rw[yS _ _ _ args h hl] at q;exact q.elim
 ·obtain⟨ι,h,args,Si,r,q⟩:=h
  refine⟨_,hbody cdv A outer s H E hr ⟨hK,GA⟩,ι,h,args.map some++List.replicate (N.length-ps.length) none,Si,?_,?_⟩
  ·by_cases hl:args.length=ps.length
   ·refine⟨by simp[L2.start,r.length,<- hl],λi v e=>?_⟩
    unfold L2.start;by_cases hi:i<args.length
    ·rw[Nt (by simpa using hi),NY] at e
     rw[Nt (by simpa[<- r.length] using hi),NY];obtain⟨x,e1,e2⟩:=NG.mp e
     cases e2
     obtain⟨u,e3,r3⟩:=r.get e1;exact⟨u,by rw[e3];rfl,r3⟩
    ·rw[NF (by simpa using hi),OP] at e
     split at e
     ·cases e
     ·cases e
   ·rw[yS _ _ _ args h hl] at q;exact q.elim
  ·unfold aw at q
   split at q
   ·split at q
    ·rename_i e1 h1 he
     rw[he];exactλι' H' σ' g S' er=>q ι' H' _ g S' .non
    ·rename_i v h1 he
     rw[he];exact q
    ·rename_i c e1 h1 he
     rw[he];exactλι' H' σ' C g S' er ec=>q ι' H' C g S' ec
    ·exact q.elim
   ·exact q.elim
structure GF(P:ZD)(w:ZF)(T:Tb)(mg:Str->Option ZC)(base:Heap)(k:Nat)(x:Str)(F:Fn):Prop where
 ex:∃ f fd ps,mg x=some (.ref f)/\PySem.W.keepIn T.K (.ref f)=true/\Binds T.K fd ps []/\FnOk P w T.K mg base (cL P w) k f fd ps (iy T F)
structure GM(P:ZD)(w:ZF)(T:Tb)(mg:Str->Option ZC)(base:Heap)(k:Nat)(c:Nat)(m:Str)(F:Fn):Prop where
 ex:∃ C f fd ps,T.cls c=some C/\Cls T.K C/\ij T.K C m f/\Binds T.K fd ps []/\FnOk P w T.K mg base (cL P w) k f fd ps (iy T F)
 no:m∉T.fields c
section
variable{T:Tb}{E:St->XK}{X:Cx}{pos p apos:Pos}{e o a:Expr}{es:List Expr}{x m:Str}{F:Fn}{k c:Nat}{as:SL}{so sa:SE}
def cH (hK:X.K=T.K) (C:CA T E X) (G:GF X.prog X.w T X.mg X.base k x F) (hr:Room k X.A) (hg:Gl X x) (ha:fD T E X (e::es) as) (hdb:(x==("__debug__":Str))=false:=by decide)
  (he:‹qE1 e es X.env›) (hpl:‹qF1 pos es X.env›):aF T E X (.Call (.Name x p) (e::es) [] pos) (ar F as):=by
 obtain⟨f,fd,ps,h1,h2,h3,h4⟩:=G.ex;refine bO (GE (Ex:=E) (dvs:=[]) (hK▸h4) hr hg h1 (hK▸h2) (hK▸h3) .nil C.pass ha hdb he hpl) λσ H Q=>E6x λι h en S er q=>⟨ι,h,en,S,er,q.bind λxs h1 ι1 H1 us g1 S1 r1 q1=>?_⟩
 rw[Pv];exact⟨ι1,h1,xs,S1,r1,q1⟩
def yT{C:ZE}{σ:St}{H:Hp}{Q:VK}(hc:T.cls c=some C)(no:m∉T.fields c)(q:tE T E (aA c F so as) σ H Q):ye C m (iy T F) [] E (tE T E so) (tA T E as) σ H Q:=by
 obtain⟨ι,h,en,S,er,q⟩:=q;refine⟨ι,h,en,S,er,q.bind λx h1 ι1 H1 u g1 S1 r1 q1=>?_⟩
 split at q1
 ·rename_i n
  split at q1
  ·rename_i c' fs hn
   split at q1
   ·rename_i ec
    subst ec
    cases r1 with
    |@ref _ a hr =>
     obtain⟨o,e1,C',dx,fus,hC,rfl,nd,hw,hl,_⟩:=S1.obj n _ a hn hr;rw[hc] at hC;cases hC
     refine⟨a,dx,fus,rfl,e1,?_,ι1,h1,en,S1,er.mono g1,q1.bind λxs h2 ι2 H2 us g2 S2 r2 q2=>?_⟩
     ·cases e:fus.lookup m with
      |none=>rfl
      |some v =>
       have:=OD e;exact absurd (hw _ this) no
     ·rw[Pv]
      exact⟨ι2,h2,.ref n::xs,S2,.cons (.ref (g2.at hr)) r2,q2⟩
   ·exact q1.elim
  ·exact q1.elim
 ·exact q1.elim
def k8{pl:Sem Bool}(hK:X.K=T.K)(CC:CA T E X)(G:GM X.prog X.w T X.mg X.base k c m F)(hr:Room k X.A)(ho:aF T E X o so)(ha:fD T E X (e::es) as)
  (hst:‹qE1 e es X.env›)(hpl:‹qF1 pos es X.env›)
  (ht:‹eval (.Call (.Attribute o m apos) (e::es) [] pos) X.env=(do
   let ov <- eval o X.env
   standAt apos.atName
   let (f,first) <- holding [ov] (getMethod ov m pl)
   callWith pos f first (backTo pos (starEach (e::es) X.env)) (backToKw pos (keywordEach [] X.env)))›):aF T E X (.Call (.Attribute o m apos) (e::es) [] pos) (aA c F so as):=by
 obtain⟨C,f,fd,ps,h1,h2,h3,h4,h5⟩:=G.ex;exact bO (GG (Ex:=E) (dvs:=[]) (pl:=pl) ho (hK▸h2) (hK▸h3) (hK▸h5) hr (hK▸h4) .nil CC.pass ha hst hpl ht) λσ H Q q=>yT h1 G.no q
def fZ{pl:Sem Bool}(hK:X.K=T.K)(CC:CA T E X)(G:GM X.prog X.w T X.mg X.base k c m F)(hr:Room k X.A)(ho:aF T E X o so)
  (ht:‹eval (.Call (.Attribute o m apos) [] [] pos) X.env=(do
   let ov <- eval o X.env
   standAt apos.atName
   let (f,first) <- holding [ov] (getMethod ov m pl)
   callWith pos f first (backTo pos (starEach [] X.env)) (backToKw pos (keywordEach [] X.env)))›):aF T E X (.Call (.Attribute o m apos) [] [] pos) (aA c F so af):=by
 obtain⟨C,f,fd,ps,h1,h2,h3,h4,h5⟩:=G.ex;intro pins s σ H Q I q;have q':=yT (C:=C) h1 G.no q;refine Rh (pl:=pl) (thn (ho pins s σ H _ I q') λu s1 Zz=>?_) ht;obtain⟨x,H1,I1,rx,a,dx,fs,ex,ea,l,q⟩:=Zz
 subst ex;obtain rfl:u=Value.ref a:=rx
 refine xu I1 ea (hK▸h2) (hK▸h3) l ?_
 obtain⟨ι,h,en,S,er,q⟩:=q;refine RJ (first:=[.ref a]) I1.kIn (hK▸h3.kp) (qa (dvs:=[]) (us:=[.ref a]) (vs:=[.ref a]) (hK▸h5) hr (hK▸h4) .nil CC.pass I1 (.cons rfl .nil) (q.now S .nil))
structure CF(T:Tb)(c:Nat):Prop where
 ex:∃ C,T.cls c=some C/\Cls T.K C/\∀ f∈T.fields c,NoAttr T.K C f
structure GK(P:ZD)(w:ZF)(T:Tb)(mg:Str->Option ZC)(base:Heap)(k:Nat)(c:Nat)(x:Str)(F:Fn):Prop where
 ex:∃ C f fd ps,T.cls c=some C/\mg x=some (.ref C)/\Mk T.K C f/\Binds T.K fd ps []/\FnOk P w T.K mg base (cL P w) k f fd ps (iy T F)
def HX{CX:fB}{C f:ZE}{fd:FuncData}{ps:List Str}{sp:Sp}{dvs:List V}{ds:List ZC}{pins:List (ZE×Obj)}{σ:St}{H:Hp}{s:ZB}{Q:VK}{us:List ZC}{vs:List V}(M:Mk X.K C f)(F:FnOk X.prog X.w X.K X.mg X.base CX k f fd ps sp)(hr:Room (k+1) X.A)(hb:Binds X.K fd ps ds)(hd:Vals dvs ds)
  (hx:kP CX X E)(I:L2.Inv X pins σ H s)(r:Vals vs us)
  (h:∀ x dx,H x=none->H dx=none->dx≠x->sp (.ref x::(vs++dvs)) (upd (upd H dx (.own x)) x (.ins C dx [])) (λv H2=>v=.non/\Q (.ref x) H2) (E σ)) :
  wpAny (model X.prog X.w) X.A (call (.ref C) us) (EP X pins σ Q) X.xe s:=by
 have hq:=h (s.heap.objs.size+1) s.heap.objs.size (I.hok.fresh (Qv _)) (I.hok.fresh (Nk _)) (NX (Po _));have I2:=Inv.made (C:=C) I;have r2:Vals (V.ref (s.heap.objs.size+1)::(vs++dvs)) (Value.ref (s.heap.objs.size+1)::(us++ds)):=.cons rfl (r.append hd);have hl:(Value.ref (s.heap.objs.size+1)::us++ds).length=ps.length:=by
  have e:=r2.length;rw[F.len _ _ _ _ hq] at e;exact e.symm
 refine Qq (Ep (f:=f) I.kIn M.makes M.init (beq_iff_eq.mp M.fn) (Q7 (F.run _ X.stack _ _ ⟨Value.ref (s.heap.objs.size+1)::us,[]⟩ (Value.ref (s.heap.objs.size+1)::(us++ds)) _ _ (E σ) (hr.make C us [])
  (I2.env0.make C us []) (hb _ (Value.ref (s.heap.objs.size+1)::us) I2.kIn hl) r2 hq) λr s' hq'=>?_))
 cases r with
 |error e=>exact hx pins σ _ _ e s' I2 hq'
 |ok fl =>
  cases fl with
  |ret u =>
   obtain⟨v,H',I3,rv,ev,q3⟩:=I2.after hq';subst ev;exact⟨rv,⟨V.ref (s.heap.objs.size+1),H',I3,rfl,q3⟩⟩
  |next=>exact False.elim hq'
  |brk=>exact False.elim hq'
  |cont=>exact False.elim hq'
def HY{C:ZE}{xs:List AV}{us:List V}{H:Hp}{Q:VK}{ι:Ix}{h:AH}{E:XK}{n:Nat}(hc:T.cls c=some C)(hn:(T.fields c).length=n)(S:Sim T ι h H)(r:RVs T ι H xs us)
  (q:Post T ι H E (RV T) (match F (.ref h.length::xs) (h++[.ins c (List.replicate n none)]) with|.ok .non h2=>Out.ok (AV.ref h.length) h2|.ex c h2=>.ex c h2|_=>.bad) Q) :
  ∀ x dx,H x=none->H dx=none->dx≠x->iy T F (.ref x::us) (upd (upd H dx (.own x)) x (.ins C dx [])) (λv H2=>v=.non/\Q (.ref x) H2) E:=by
 intro x dx nx ndx ne;have nx':(upd H dx (.own x)) x=none:=by rw[aZ (Ne.symm ne)];exact nx
 have S1:=S.new (o:=.own x) ndx;have g1:=S.growNew (o:=.own x) ndx;have g2:=S1.growAdd (u:=.ins C dx []) nx';have S2:Sim T (ι.add x) (h++[.ins c (List.replicate n none)]) (upd (upd H dx (.own x)) x (.ins C dx [])):=S1.add nx' ⟨C,dx,[],hc,rfl,by simp,by simp,by simp[hn],λi v e=>by
  rw[OP] at e;split at e
  ·cases e
  ·cases e⟩
 refine⟨ι.add x,_,.ref h.length::xs,S2,.cons (.ref S.addAt) (r.mono (g1.trans g2)),?_⟩
 have q2:=q.shift (g1.trans g2)
 cases e:F (.ref h.length::xs) (h++[.ins c (List.replicate n none)]) with
 |bad=>rw[e] at q2;exact q2
 |ex c' h2=>rw[e] at q2;exact q2
 |ok v h2 =>
  rw[e] at q2
  cases v with
  |non=>exactλι' H' u g S' r'=>⟨qh r',q2 ι' H' _ g S' (.ref (g.at S.addAt))⟩
  |_=>exact(show False from q2).elim
def ur {n:Nat} (hK:X.K=T.K) (CC:CA T E X) (G:GK X.prog X.w T X.mg X.base k c x F) (hr:Room (k+1) X.A) (hg:Gl X x) (hn:‹(T.fields c).length=n›) (hdb:(x==("__debug__":Str))=false:=by decide):aF T E X (.Call (.Name x p) [] [] pos) (mw c n F af):=by
 obtain⟨C,f,fd,ps,h1,h2,h3,h4,h5⟩:=G.ex;intro pins s σ H Q I ⟨ι,h,en,S,er,q⟩;refine PC (kD I hg h2 ?_ hdb)
 have M:Mk X.K C f:=hK▸h3;exact RJ I.kIn M.kp (HX (us:=[]) (vs:=[]) (dvs:=[]) M (hK▸h5) hr (hK▸h4) .nil CC.pass I .nil (HY h1 hn S .nil q))
def j1{i:Nat}{f:Str}(hK:X.K=T.K)(CFc:CF T c)(ho:aF T E X o so)(hf:‹(T.fields c)[i]?=some f›)(hb:‹attributeBase o f X.env (eval o X.env)=eval o X.env›):aF T E X (.Attribute o f pos) (Sm.sFld c i so):=by
 obtain⟨C,hC,hcl,hna⟩:=CFc.ex;refine bO (Ew ho hb) λσ H Q=>E6x λι h en S er q=>⟨ι,h,en,S,er,q.bind λx h1 ι1 H1 u g1 S1 r1 q1=>?_⟩
 split at q1
 ·rename_i n
  split at q1
  ·rename_i c' fs hn
   split at q1
   ·rename_i ec
    subst ec;split at q1
    ·rename_i v hv
     cases r1 with
     |@ref _ a hr =>
      obtain⟨o,e1,C',dx,fus,hC',rfl,nd,hw,hl,hr2⟩:=S1.obj n _ a hn hr;rw[hC] at hC';cases hC'
      obtain⟨f',u,e2,e3,r3⟩:=hr2 i v hv;rw[hf] at e2;cases e2
      exact⟨a,_,dx,fus,u,rfl,e1,hK▸hcl,hK▸hna f (NL hf),e3,q1.now S1 r3⟩
    ·exact q1.elim
   ·exact q1.elim
  ·exact q1.elim
 ·exact q1.elim
theorem yU(f:Str)(v:V):∀ {fs:List (Str×V)},(fs.map (·.1)).Nodup->((bq f v fs).map (·.1)).Nodup/\∀ g,g∈(bq f v fs).map (·.1)->g=f\/g∈fs.map (·.1)
 |[],_=>by simp[bq]
 |(g,x)::r,n=>by
  obtain⟨n1,n2⟩:=On.mp (show (g::r.map (·.1)).Nodup from n);unfold bq;split
  ·rename_i e
   subst e;exact⟨n,λk hk=>.inr hk⟩
  ·rename_i e
   obtain⟨h1,h2⟩:=yU f v (fs:=r) n2;refine⟨On.mpr ⟨λz=>?_,h1⟩,λk hk=>?_⟩
   ·rcases h2 g z with z|z
    ·exact e z
    ·exact n1 z
   ·rcases ND.mp hk with z|z
    ·exact .inr (by rw[z];simp)
    ·rcases h2 k z with z|z
     ·exact .inl z
     ·exact .inr (NZ _ z)
theorem yV:∀ {l m:List Str},l.Nodup->(∀ x∈l,x∈m)->l.length<=m.length
 |[],m,_,_=>NU _
 |x::l,m,n,h=>by
  obtain⟨n1,n2⟩:=On.mp n;have hx:=h x 's';have:=yV (l:=l) (m:=m.erase x) n2 λy hy=>by
   have ne:y≠x:=λz=>n1 (z▸hy)
   exact(List.mem_erase_of_ne ne).mpr (h y (by simp[hy]))
  rw[List.length_erase_of_mem hx] at this;have:0<m.length:=List.length_pos_of_mem hx
  simp only[Os]
  lia
def mE{i:Nat}{f:Str}{p':Pos}(hK:X.K=T.K)(CFc:CF T c)(ho:aF T E X o so)(ha:aF T E X a sa)(hf:‹(T.fields c)[i]?=some f›)(hs:‹swapsWith a (some (.Attribute o f p')) pos.line X.env=pure false›) :
  fX T E X (.Assign [.Attribute o f p'] a pos) (gB c i so sa):=by
 obtain⟨C,hC,hcl,hna⟩:=CFc.ex;refine g9 (Ey ho ha hs) λD σ H=>E6x λι h en S er q=>⟨ι,h,en,S,er,q.go er λy h1 ι1 H1 v g1 S1 r1 q1=>⟨ι1,h1,en,S1,er.mono g1,q1.go (er.mono g1) λx h2 ι2 H2 u g2 S2 r2 q2=>?_⟩⟩
 split at q2
 ·rename_i n
  split at q2
  ·rename_i c' fs hn
   split at q2
   ·rename_i ec
    subst ec
    cases r2 with
    |@ref _ a hr =>
     obtain⟨o,e1,C',dx,fus,hC',rfl,nd,hw,hl,hr2⟩:=S2.obj n _ a hn hr;rw[hC] at hC';cases hC'
     have hmem:f∈T.fields c':=NL hf;have hlen:fus.length<1000:=by
      have:=yV nd (m:=T.fields c') (λx hx=>by
       obtain⟨p,hp,rfl⟩:=Pp.mp hx;exact hw p hp)
      have:=T.few c';rw[Nw] at *
      lia
     obtain⟨k1,k2⟩:=yU f v nd;have g3:=S2.growSet (u:=.ins C dx (bq f v fus)) hr;refine⟨a,C,dx,fus,rfl,e1,hK▸hcl,hK▸hna f hmem,hlen,q2 ι2 _ σ g3 (S2.set hr ⟨C,dx,bq f v fus,hC,rfl,k1,λp hp=>?_,by simp[hl],λj w hj=>?_⟩) (er.mono (g1.trans (g2.trans g3)))⟩
     ·rcases k2 p.1 (Pp.mpr ⟨p,hp,rfl⟩) with z|z
      ·rw[z];exact hmem
      ·obtain⟨p',hp',e⟩:=Pp.mp z
       rw[<- e];exact hw p' hp'
     ·by_cases hji:j=i
      ·subst hji
       have hjl:j<fs.length:=by
        have:=(Ni.mp hj).1;simpa using this
       rw[Nv hjl] at hj
       cases hj
       exact⟨f,v,hf,by rw[pS,Nn rfl],r1.mono (g2.trans g3)⟩
      ·rw[Nl (Ne.symm hji)] at hj
       obtain⟨f',u,e2,e3,r3⟩:=hr2 j w hj;have ne:f'≠f:=λz=>hji (pM (T.nd c') e2 (z▸hf))
       exact⟨f',u,e2,by rw[pS,Nr ne];exact e3,r3.mono g3⟩
   ·exact(show False from q2).elim
  ·exact(show False from q2).elim
 ·exact(show False from q2).elim
end
def qv{T:Tb}{ι:Ix}{H:Hp}{k:aI}{u:V}(r:RV T ι H (kA k) u):u=kV k:=by
 cases k with
 |inl i=>exact bu r
 |inr x=>exact(eB r).1
def n9{k j:aI}(e:kA k=kA j):k=j:=by
 cases k<;>cases j<;>simp[kA] at e<;>simp[e]
theorem uv:∀ {ks js:List aI},ks.map kA=js.map kA->ks=js
 |[],[],_=>rfl
 |[],_::_,e=>by simp at e
 |_::_,[],e=>by simp at e
 |k::ks,j::js,e=>by
  simp only[NW,List.cons.injEq] at e
  rw[n9 e.1,uv e.2]
theorem yW{T:Tb}{ι:Ix}{H:Hp}:∀ {ks:List aI} {us:List V},RVs T ι H (ks.map kA) us->us=ks.map kV
 |[],_,.nil=>rfl
 |k::ks,_,.cons r rs=>by rw[qv r,yW rs];rfl
def qw{v:AV}{k:aI}(e:keyOf? v=some k):v=kA k:=by
 unfold keyOf? at e
 split at e<;>cases e<;>rfl
theorem qx:∀ {vs:List AV} {ks:List aI},keysOf? vs=some ks->vs=ks.map kA
 |[],_,e=>by cases e;rfl
 |v::vs,ks,e=>by
  unfold keysOf? at e
  split at e
  ·rename_i k ks' e1 e2
   cases e
   rw[qw e1,qx e2];rfl
  ·cases e
theorem oa{κ:Type}[DecidableEq κ]{T:Tb}{ι:Ix}{H:Hp}{f:κ->AV}(hf:∀ {a b},f a=f b->a=b){k:κ}:∀ {kvs:List (AV×AV)} {kus:List (κ×V)},Paired (λ(p:AV×AV) (q:κ×V)=>p.1=f q.1/\RV T ι H p.2 q.2) kvs kus ->
  (aQ kvs (f k)=none/\bF kus k=none)\/∃ v u,aQ kvs (f k)=some v/\bF kus k=some u/\RV T ι H v u
 |_,_,.nil=>.inl ⟨rfl,rfl⟩
 |(a,v)::kvs,(j,u)::kus,.cons ⟨e,r⟩ rs=>by
  by_cases h:j=k
  ·subst h
   replace e:a=f j:=e
   subst e;exact .inr ⟨v,u,by simp[aQ],pX rfl,r⟩
  ·have h':¬ a=f k:=λz=>h (hf (e.symm.trans z))
   rcases oa hf rs (k:=k) with⟨h1,h2⟩|⟨v',u',h1,h2,h3⟩
   ·refine .inl ⟨?_,by rw[nN h];exact h2⟩
    unfold aQ at h1 ⊢
    rw[Oq,NJ h'];exact h1
   ·refine .inr ⟨v',u',?_,by rw[nN h];exact h2,h3⟩
    unfold aQ at h1 ⊢
    rw[Oq,NJ h'];exact h1
def uw{kvs:List (AV×AV)}{k:AV}:(kvs.any λp=>decide (p.1=k))=(aQ kvs k).isSome:=by
 induction kvs with
 |nil=>rfl
 |cons p r ih =>
  unfold aQ at ih ⊢
  rw[OL,Oq,ih]
  cases h:decide (p.1=k)<;>simp
def yX{κ:Type}[DecidableEq κ]{T:Tb}{ι:Ix}{H:Hp}{f:κ->AV}(hf:∀ {a b},f a=f b->a=b){k:κ}{v:AV}{u:V}(rv:RV T ι H v u){kvs:List (AV×AV)}{kus:List (κ×V)}(r:Paired (λ(p:AV×AV) (q:κ×V)=>p.1=f q.1/\RV T ι H p.2 q.2) kvs kus) :
  Paired (λ(p:AV×AV) (q:κ×V)=>p.1=f q.1/\RV T ι H p.2 q.2) (eu kvs (f k) v) (bW kus k u):=by
 have e:(kvs.any λp=>decide (p.1=f k))=kus.any λkv=>decide (kv.1=k):=by
  rw[uw,pY];rcases oa hf r (k:=k) with⟨h1,h2⟩|⟨v',u',h1,h2,h3⟩
  ·rw[h1,h2];rfl
  ·rw[h1,h2];rfl
 unfold eu bW;rw[e];by_cases h:(kus.any λkv=>decide (kv.1=k))=true
 ·rw[Nn h,Nn h]
  clear e h;induction r with
  |nil=>exact .nil
  |cons p rs ih =>
   rename_i a b l1 l2;refine .cons ?_ ih
   obtain⟨e1,r1⟩:=p;dsimp only;by_cases hk:b.1=k
   ·rw[Nn hk,Nn (by rw[e1,hk])]
    exact⟨e1,rv⟩
   ·rw[Nr hk,Nr (λz=>hk (hf (e1.symm.trans z)))]
    exact⟨e1,r1⟩
 ·rw[Nr h,Nr h]
  have app:∀ {l1:List (AV×AV)} {l2:List (κ×V)},Paired (λ(p:AV×AV) (q:κ×V)=>p.1=f q.1/\RV T ι H p.2 q.2) l1 l2->Paired (λ(p:AV×AV) (q:κ×V)=>p.1=f q.1/\RV T ι H p.2 q.2) (l1++[(f k,v)]) (l2++[(k,u)]):=λz=>by
   induction z with
   |nil=>exact .cons ⟨rfl,rv⟩ .nil
   |cons p _ ih=>exact .cons p ih
  exact app r
section
variable{T:Tb}{ι:Ix}{h:AH}{H:Hp}
def og{xs:List AV}{u:V}{ks:List aI}(r:RV T ι H (.tup xs) u)(e:keysOf? xs=some ks):∃ b,u=.ref b/\KTup H b ks:=by
 have:=qx e;subst this
 cases r with
 |tup n q r=>exact⟨_,rfl,.of (by rw[<- yW r];exact q)⟩
def qy{n:Nat}{t:Bool}{kvs:List (AV×AV)}{y:AV}{a:ZE}{w:V}(S:Sim T ι h H)(hn:h[n]?=some (.dct t kvs))(hr:ι.refs[n]?=some a)(ry:RV T ι H y w)(hk:dI t y=true) :
  ∃ o,DGet H a w o/\((aQ kvs y=none/\o=none)\/∃ v u,aQ kvs y=some v/\o=some u/\RV T ι H v u):=by
 obtain⟨ob,e1,r⟩:=S.obj n _ a hn hr
 cases t with
 |false =>
  obtain⟨kus,rfl,r⟩:=r;have hk':(keyOf? y).isSome=true:=hk;obtain⟨k,ek⟩:=NP.mp hk';have:=qw ek;subst this;rw[qv ry];refine⟨bF kus k,.k e1,?_⟩
  rcases oa n9 r (k:=k) with⟨h1,h2⟩|⟨v',u',h1,h2,h3⟩
  ·exact .inl ⟨h1,h2⟩
  ·exact .inr ⟨v',u',h1,h2,h3⟩
 |true =>
  obtain⟨kus,rfl,r⟩:=r;unfold dI at hk;split at hk
  ·rename_i hh;cases hh
  ·rename_i xs hh
   obtain⟨ks,ek⟩:=NP.mp hk;obtain⟨b,rfl,hb⟩:=og ry ek;have:=qx ek;subst this;refine⟨bF kus ks,.t e1 hb,?_⟩
   rcases oa (f:=λks:List aI=>AV.tup (ks.map kA)) (λe=>uv (by injection e)) r (k:=ks) with⟨h1,h2⟩|⟨v',u',h1,h2,h3⟩
   ·exact .inl ⟨h1,h2⟩
   ·exact .inr ⟨v',u',h1,h2,h3⟩
  ·cases hk
def HZ{n:Nat}{t:Bool}{kvs:List (AV×AV)}{y z:AV}{a:ZE}{w u:V}(S:Sim T ι h H)(hn:h[n]?=some (.dct t kvs))(hr:ι.refs[n]?=some a)(ry:RV T ι H y w)(rz:RV T ι H z u)(hk:dI t y=true)(hl:kvs.length<sizeLine) :
  ∃ H',DPut H a w u H'/\Grow ι H ι H'/\Sim T ι (h.set n (.dct t (eu kvs y z))) H':=by
 obtain⟨ob,e1,r⟩:=S.obj n _ a hn hr
 cases t with
 |false =>
  obtain⟨kus,rfl,r⟩:=r;have hk':(keyOf? y).isSome=true:=hk;obtain⟨k,ek⟩:=NP.mp hk';have:=qw ek;subst this;rw[qv ry];have g:=S.growSet (u:=.dK (bW kus k u)) hr
  exact⟨_,.k e1 (by rw[<- Paired.length r];exact hl),g,S.set hr ⟨_,rfl,yX n9 (rz.mono g) (Paired.mapP r λ_ _ ⟨p,q⟩=>⟨p,q.mono g⟩)⟩⟩
 |true =>
  obtain⟨kus,rfl,r⟩:=r;unfold dI at hk;split at hk
  ·rename_i hh;cases hh
  ·rename_i xs hh
   obtain⟨ks,ek⟩:=NP.mp hk;obtain⟨b,rfl,hb⟩:=og ry ek;have:=qx ek;subst this;have g:=S.growSet (u:=.dT none (bW kus ks u)) hr
   exact⟨_,.t e1 hb (by rw[<- Paired.length r];exact hl),g,S.set hr ⟨_,rfl,yX (f:=λks:List aI=>AV.tup (ks.map kA)) (λe=>uv (by injection e)) (rz.mono g) (Paired.mapP r λ_ _ ⟨p,q⟩=>⟨p,q.mono g⟩)⟩⟩
  ·cases hk
def RVs.atI{xs:List AV}{us:List V}{i:Int}{v:AV}(r:RVs T ι H xs us)(e:atI xs i=some v):∃ u,L2.atI us i=some u/\RV T ι H v u:=by
 unfold L2.atI at e ⊢
 rw[<- r.length];obtain⟨j,e1,e2⟩:=QK.mp e
 obtain⟨u,e3,r3⟩:=r.get e2;exact⟨u,by rw[e1];exact e3,r3⟩
end
section
variable{T:Tb}{E:St->XK}{X:Cx}{pos:Pos}{a b c:Expr}{sa sb sc:SE}
def Ia{e:Expr}{t t':TE}(h:PE X e t)(h':PE X e t'):PE X e (λσ H Q=>t σ H Q\/t' σ H Q):=(λpins s σ H Q I q=>q.elim (h pins s σ H Q I) (h' pins s σ H Q I))
def Ib{e:Stmt}{t t':TS}(h:PS X e t)(h':PS X e t'):PS X e (λD σ H=>t D σ H\/t' D σ H):=(λpins s σ H Q I q=>q.elim (h pins s σ H Q I) (h' pins s σ H Q I))
def bx(hK:X.K=T.K)(hu:X.A.units+64<cLine)(ha:aF T E X a sa)(hb:aF T E X b sb)(hs:tf b:=by exactλ_ _=>rfl):aF T E X (.Subscript a b pos) (ag ao sa sb):=by
 refine bO (Ia (xI EW ha hb hs) (Fp (Nz (NQ (by decide:1<=64) _) hu) ha hb hs)) λσ H Q q=>?_
 obtain⟨ι,h,en,S,er,q⟩:=q;have left:(∀ x h1 y h2,sa en h=.ok x h1->sb en h1=.ok y h2->∀ n t kvs,x=.ref n->h2[n]?=some (.dct t kvs)->False)->mh (xJ X.K) (tE T E sa) (tE T E sb) σ H Q:=λno=>by
  refine⟨ι,h,en,S,er,?_⟩
  unfold ag at q
  cases e1:sa en h with
  |bad=>rw[e1] at q;exact q
  |ex c h1=>rw[e1] at q;exact q
  |ok x h1 =>
   rw[e1] at q;intro ι1 H1 u g1 S1 r1
   refine⟨ι1,h1,en,S1,er.mono g1,?_⟩
   dsimp only[Out.bind] at q
   cases e2:sb en h1 with
   |bad=>rw[e2] at q;exact q
   |ex c h2=>rw[e2] at q;exact Post.shift (R:=RV T) (o:=.ex c h2) q g1
   |ok y h2 =>
    rw[e2] at q;intro ι2 H2 w g2 S2 r2
    have q2:=Post.shift q (g1.trans g2);have r1':=r1.mono g2;dsimp only at q2;unfold ao at q2;split at q2
    ·rename_i z i
     split at q2
     ·rename_i cc hc
      obtain⟨rfl,zl,zo⟩:=eB r1';rw[bu r2];refine .inr (.inr ⟨z,i,cc,rfl,rfl,zl,hc,q2.now S2 (.str (show 1<=sizeLine by decide) ?_)⟩)
      obtain⟨j,_,e3,_⟩:=pV hc;have m:cc∈z.cps:=by
       have:=NL e3;simpa using this
      have:=Ox.mp zo _ m;simpa using this
     ·exact q2.elim
    ·rename_i xs i
     split at q2
     ·rename_i v hv
      obtain⟨b,us,rfl,sq,rs⟩:=kW r1';obtain⟨u2,e3,r3⟩:=rs.atI hv;rw[bu r2];exact .inr (.inl ⟨b,us,i,u2,rfl,rfl,hK▸sq,e3,q2.now S2 r3⟩)
     ·exact q2.elim
    ·rename_i xs i
     split at q2
     ·rename_i v hv
      obtain⟨b,us,rfl,sq,rs⟩:=fY S2 r1' rfl;obtain⟨u2,e3,r3⟩:=rs.atI hv;rw[bu r2];exact .inl ⟨b,us,i,u2,rfl,rfl,hK▸sq,e3,q2.now S2 r3⟩
     ·exact q2.elim
    ·rename_i n
     split at q2
     ·rename_i xs hn
      split at q2
      ·rename_i i
       split at q2
       ·rename_i v hv
        obtain⟨b,us,rfl,sq,rs⟩:=fY (xs:=xs) S2 r1' (by simp[eX,hn]);obtain⟨u2,e3,r3⟩:=rs.atI hv;rw[bu r2];exact .inl ⟨b,us,i,u2,rfl,rfl,hK▸sq,e3,q2.now S2 r3⟩
       ·exact q2.elim
      ·exact q2.elim
     ·rename_i t kvs hn
      exact(no _ h1 _ h2 e1 e2 n t kvs rfl hn).elim
     ·exact q2.elim
    ·exact q2.elim
 by_cases dd:∃ x h1 y h2,sa en h=.ok x h1/\sb en h1=.ok y h2/\∃ n t kvs,x=.ref n/\h2[n]?=some (.dct t kvs)
 ·obtain⟨x,h1,y,h2,e1,e2,n,t,kvs,rfl,hn⟩:=dd
  refine .inr ⟨ι,h,en,S,er,?_⟩
  unfold ag at q;rw[e1] at q ⊢;intro ι1 H1 u g1 S1 r1
  refine⟨ι1,h1,en,S1,er.mono g1,?_⟩
  dsimp only[Out.bind] at q;rw[e2] at q ⊢;intro ι2 H2 w g2 S2 r2
  have q2:=Post.shift q (g1.trans g2);have r1':=r1.mono g2;dsimp only at q2;unfold ao at q2;simp only[hn] at q2
  split at q2
  ·rename_i hk
   cases r1' with
   |@ref _ ad hr =>
    obtain⟨o,dg,alt⟩:=qy S2 hn hr r2 hk;rcases alt with⟨v1,rfl⟩|⟨v,u,v1,rfl,r3⟩
    ·rw[v1] at q2;exact q2.elim
    ·rw[v1] at q2
     exact⟨ad,u,rfl,dg,q2.now S2 r3⟩
  ·exact q2.elim
 ·exact .inl (left λx h1 y h2 e1 e2 n t kvs e3 e4=>dd ⟨x,h1,y,h2,e1,e2,n,t,kvs,e3,e4⟩)
def ux{p':Pos}(hu:X.A.units+64<cLine)(ho:aF T E X a sa)(hi:aF T E X b sb)(hv:aF T E X c sc)(hs:‹swapsWith c (some (.Subscript a b p')) pos.line X.env=pure false›)(hs':‹swapsWithSole [.Subscript a b p'] c pos.line X.env=pure false›)(hw:‹swappedStores [.Subscript a b p'] c X.env=pure none›)
  (h1:‹(assignEach [.Subscript a b p'] X.env).map (·.2)=[assign (.Subscript a b p') X.env]›)
  (has:∀ v,assign (.Subscript a b p') X.env v=(do
   let ov <- holding [v] (eval a X.env)
   let iv <- holding [v,ov] (eval b X.env)
   standAt p'
   holding [v,ov,iv] (setItem ov iv v)
   release [v,ov,iv] []):=by intro _;rfl):fX T E X (.Assign [.Subscript a b p'] c pos) (fN sa sb sc):=by
 refine g9 (Ib (xb hv (DA ho hi EZ has) hs' hw h1) (Fq (Nz (NQ (by decide:1<=64) _) hu) ho hi hv hs)) λD σ H q=>?_
 obtain⟨ι,h,en,S,er,q⟩:=q;unfold fN at q;by_cases dd:∃ z h1 x h2 y h3,sc en h=.ok z h1/\sa en h1=.ok x h2/\sb en h2=.ok y h3/\∃ n t kvs,x=.ref n/\h3[n]?=some (.dct t kvs)
 ·obtain⟨z,h1,x,h2,y,h3,e1,e2,e3,n,t,kvs,rfl,hn⟩:=dd
  refine .inr ⟨ι,h,en,S,er,?_⟩
  rw[e1] at q ⊢;intro ι1 H1 u g1 S1 r1
  refine⟨ι1,h1,en,S1,er.mono g1,?_⟩
  dsimp only[Out.go] at q;rw[e2] at q ⊢;intro ι2 H2 w g2 S2 r2
  refine⟨ι2,h2,en,S2,er.mono (g1.trans g2),?_⟩
  dsimp only at q;rw[e3] at q ⊢;intro ι3 H3 j g3 S3 r3
  have q2:=PostS.shift q (g1.trans (g2.trans g3));simp only[hn] at q2
  split at q2
  ·rename_i hk
   cases (r2.mono g3) with
   |@ref _ ad hr =>
    obtain⟨H4,dp,g4,S4⟩:=HZ S3 hn hr r3 (r1.mono (g2.trans g3)) hk.1 hk.2;exact⟨ad,H4,rfl,dp,q2 ι3 H4 σ g4 S4 (er.mono (g1.trans (g2.trans (g3.trans g4))))⟩
  ·exact q2.elim
 ·refine .inl ⟨ι,h,en,S,er,?_⟩
  cases e1:sc en h with
  |bad=>rw[e1] at q;exact q
  |ex cc h1=>rw[e1] at q;exactλi2 H2 C g S e=>q i2 H2 σ C g S (er.mono g) e
  |ok z h1 =>
   rw[e1] at q;intro ι1 H1 u g1 S1 r1
   refine⟨ι1,h1,en,S1,er.mono g1,?_⟩
   dsimp only[Out.go] at q
   cases e2:sa en h1 with
   |bad=>rw[e2] at q;exact q
   |ex cc h2=>rw[e2] at q;exactλi2 H2 C g S e=>q i2 H2 σ C (g1.trans g) S (er.mono (g1.trans g)) e
   |ok x h2 =>
    rw[e2] at q;intro ι2 H2 w g2 S2 r2
    refine⟨ι2,h2,en,S2,er.mono (g1.trans g2),?_⟩
    dsimp only at q
    cases e3:sb en h2 with
    |bad=>rw[e3] at q;exact q
    |ex cc h3=>rw[e3] at q;exactλi2 H2 C g S e=>q i2 H2 σ C (g1.trans (g2.trans g)) S (er.mono (g1.trans (g2.trans g))) e
    |ok y h3 =>
     rw[e3] at q;intro ι3 H3 j g3 S3 r3
     have q2:=PostS.shift q (g1.trans (g2.trans g3));dsimp only at q2;split at q2
     ·rename_i n
      split at q2
      ·rename_i xs hn
       split at q2
       ·rename_i k
        split at q2
        ·rename_i jj hj
         cases (r2.mono g3) with
         |@ref _ ad hr =>
          obtain⟨o,e4,us,rfl,rs⟩:=S3.obj n _ ad hn hr;have g4:=S3.growSet (u:=.lst (us.set jj u)) hr;rw[bu r3];exact⟨ad,us,k,jj,rfl,rfl,e4,by rw[<- rs.length];exact hj,q2 ι3 _ σ g4 (S3.set hr ⟨_,rfl,RVs.set (r1.mono (g2.trans (g3.trans g4))) jj (rs.mono g4)⟩) (er.mono (g1.trans (g2.trans (g3.trans g4))))⟩
        ·exact q2.elim
       ·exact q2.elim
      ·rename_i t kvs hn
       exact(dd ⟨_,h1,_,h2,_,h3,e1,e2,e3,n,t,kvs,rfl,hn⟩).elim
      ·exact q2.elim
     ·exact q2.elim
def yY{g:ZC->ZC->Sem ZC}{r:R2}{neg:Bool}(hK:X.K=T.K)
  (h1:∀ (i j:Str) H Q,Q (V.bl (if neg then !(!(Builtin.Str.occurrences j i 0 j.length 1).isEmpty) else !(Builtin.Str.occurrences j i 0 j.length 1).isEmpty)) H->r (.str i) (.str j) H Q)
  (h2:∀ x y H Q p xs d ds,y=V.ref p->SqL T.K H p xs->DaV T.K H x d->DaVs T.K H xs ds->d.canLay0=true->(∀ e∈ds,e.canLay0=true/\e.depth<=30)->Q (V.bl (if neg then !(ds.any λe=>PyData.eqv e d) else ds.any λe=>PyData.eqv e d)) H->r x y H Q)
  (h2t:∀ x y H Q p xs d ds,y=V.ref p->SqT T.K H p xs->DaV T.K H x d->DaVs T.K H xs ds->d.canLay0=true->(∀ e∈ds,e.canLay0=true/\e.depth<=30)->Q (V.bl (if neg then !(ds.any λe=>PyData.eqv e d) else ds.any λe=>PyData.eqv e d)) H->r x y H Q)
  (h3:∀ (y:V) (a:ZE) o H Q,DGet H a y o->Q (V.bl (if neg then !o.isSome else o.isSome)) H->r y (.ref a) H Q) :
  mB T (λx y h=>match jZ x y h with|some b=>.ok (.bl (if neg then !b else b)) h|none=>.bad) r:=by
 intro ι h H x y u w E Q S rx ry p;dsimp only at p
 cases hb:jZ x y h with
 |none=>rw[hb] at p;exact p.elim
 |some b =>
  rw[hb] at p;dsimp only at p
  unfold jZ at hb;split at hb
  ·cases hb
   obtain⟨rfl,_⟩:=eB rx;obtain⟨rfl,_⟩:=eB ry;exact h1 _ _ _ _ (p.now S (.bl _))
  ·rename_i n
   split at hb
   ·rename_i t kvs hn
    split at hb
    ·rename_i hk
     cases hb
     cases ry with
     |@ref _ ad hr =>
      obtain⟨o,dg,alt⟩:=qy S hn hr rx hk;refine h3 u ad o H Q dg ?_
      rcases alt with⟨v1,rfl⟩|⟨v,u',v1,rfl,r3⟩
      ·rw[v1] at p;exact p.now S (.bl _)
      ·rw[v1] at p;exact p.now S (.bl _)
    ·cases hb
   ·rename_i xs hn
    split at hb
    ·rename_i d ds e1 e2
     cases hb
     obtain⟨a,us,rfl,sq,rs⟩:=fY (xs:=xs) S ry (by simp[eX,hn]);obtain⟨q1,q2,q3⟩:=iV S 8 rx e1;obtain⟨q4,q5⟩:=nY (n:=8) (λr e=>iV S 8 r e) rs e2;exact h2 _ _ _ _ a us d ds rfl sq q1 q4 q2 (λe he=>⟨(q5 e he).1,by have:=(q5 e he).2;lia⟩) (p.now S (.bl _))
    ·cases hb
   ·cases hb
  ·rename_i xs
   split at hb
   ·rename_i d ds e1 e2
    cases hb
    obtain⟨a,us,rfl,sq,rs⟩:=fY S ry rfl;obtain⟨q1,q2,q3⟩:=iV S 8 rx e1;obtain⟨q4,q5⟩:=nY (n:=8) (λr e=>iV S 8 r e) rs e2;exact h2 _ _ _ _ a us d ds rfl sq q1 q4 q2 (λe he=>⟨(q5 e he).1,by have:=(q5 e he).2;lia⟩) (p.now S (.bl _))
   ·cases hb
  ·rename_i xs
   split at hb
   ·rename_i d ds e1 e2
    cases hb
    obtain⟨a,us,rfl,sq,rs⟩:=kW ry;obtain⟨q1,q2,q3⟩:=iV S 8 rx e1;obtain⟨q4,q5⟩:=nY (n:=8) (λr e=>iV S 8 r e) rs e2;exact h2t _ _ _ _ a us d ds rfl sq q1 q4 q2 (λe he=>⟨(q5 e he).1,by have:=(q5 e he).2;lia⟩) (p.now S (.bl _))
   ·cases hb
  ·cases hb
end
end Sm
namespace L2
open PySem PySem.Spec PyProof.Rows
section
variable{X:Cx}{pins:List (ZE×Obj)}{σ:St}{H:Hp}{s:ZB}
def uy(I:Inv X pins σ H s)(hu:X.A.units+64<cLine){xs:List V}{ds:List PyData}{its:List ZC}{d:PyData}{v:ZC}{as:List ZE}(ra:Reads s.heap v d as)(hds:DaVs X.K H xs ds)(r:Vals xs its)(cd:d.canLay0=true)(cds:∀ e∈ds,e.canLay0=true/\e.depth<=30) :
  (∀ y,y∈its.toArray->SeqAt.EqAt X.A.in1 s y v (ik s.heap d y))/\its.toArray.any (ik s.heap d)=ds.any λe=>PyData.eqv e d:=by
 obtain⟨hl,hat⟩:=tW I hds r;constructor
 ·intro y hy
  have hy':y∈its:=by simpa using hy
  obtain⟨j,hj⟩:=Rr hy';have hlt:=(Ni.mp hj).1;have hdj:ds[j]?=some (ds[j]'⋯):=Nx ⋯;obtain⟨bs,rb⟩:=hat j _ _ hj hdj;have cj:=cds _ (NL hdj);rw[isD_of cj.1 rb];exact SeqAt.eqAt_reads _ _ _ _ _ _ _ _ rb ra cj.1 cd (by
   have:=Pw (ds[j]'⋯).depth d.depth;show X.A.units+1+_<cLine
   lia)
 ·rw[<- QI]
  refine tY hl λj u e h1 h2=>?_
  obtain⟨bs,rb⟩:=hat j _ _ h1 h2;exact isD_of (cds _ (NL h2)).1 rb
def Ic(K:ZA):R2:=λx y H Q=>∃ p xs d ds,y=.ref p/\SqL K H p xs/\DaV K H x d/\DaVs K H xs ds/\d.canLay0=true/\(∀ e∈ds,e.canLay0=true/\e.depth<=30)/\Q (.bl (!(ds.any λe=>PyData.eqv e d))) H
def Ie(K:ZA):R2:=λx y H Q=>∃ p xs d ds,y=.ref p/\SqT K H p xs/\DaV K H x d/\DaVs K H xs ds/\d.canLay0=true/\(∀ e∈ds,e.canLay0=true/\e.depth<=30)/\Q (.bl (ds.any λe=>PyData.eqv e d)) H
def Ig(K:ZA):R2:=λx y H Q=>∃ p xs d ds,y=.ref p/\SqT K H p xs/\DaV K H x d/\DaVs K H xs ds/\d.canLay0=true/\(∀ e∈ds,e.canLay0=true/\e.depth<=30)/\Q (.bl (!(ds.any λe=>PyData.eqv e d))) H
def Ih(hu:X.A.units+64<cLine):OpR X (compareOp .NotIn) (Ic X.K):=by
 intro pins s σ H x y v u Q I rx ry h;obtain⟨p,xs,d,ds,rfl,hq,hd,hds,cd,cds,q⟩:=h
 cases ry
 obtain⟨its,r,pl,hz⟩:=I.list hq;obtain⟨as,ra⟩:=hd.reads I rx;obtain⟨h1,h2⟩:=uy I hu ra hds r cd cds;exact SeqAt.notIn_listAt (ik s.heap d) pl.isList h1 ⟨.bl _,H,I,rfl,by rw[h2];exact q⟩
def Ii(hu:X.A.units+64<cLine):OpR X (compareOp .In) (Ie X.K):=by
 intro pins s σ H x y v u Q I rx ry h;obtain⟨p,xs,d,ds,rfl,hq,hd,hds,cd,cds,q⟩:=h
 cases ry
 obtain⟨its,r,pl,hz⟩:=I.tuple hq;obtain⟨as,ra⟩:=hd.reads I rx;obtain⟨h1,h2⟩:=uy I hu ra hds r cd cds;exact SeqAt.in_tupleAt (ik s.heap d) pl h1 ⟨.bl _,H,I,rfl,by rw[h2];exact q⟩
def Ij(hu:X.A.units+64<cLine):OpR X (compareOp .NotIn) (Ig X.K):=by
 intro pins s σ H x y v u Q I rx ry h;obtain⟨p,xs,d,ds,rfl,hq,hd,hds,cd,cds,q⟩:=h
 cases ry
 obtain⟨its,r,pl,hz⟩:=I.tuple hq;obtain⟨as,ra⟩:=hd.reads I rx;obtain⟨h1,h2⟩:=uy I hu ra hds r cd cds;exact SeqAt.notIn_tupleAt (ik s.heap d) pl h1 ⟨.bl _,H,I,rfl,by rw[h2];exact q⟩
def Ik(hu:X.A.units+64<cLine):OpR X (compareOp .In) (λx y H Q=>∃ a o,y=.ref a/\DGet H a x o/\Q (.bl o.isSome) H):=by
 intro pins s σ H x y v u Q I rx ry h;obtain⟨a,o,rfl,g,q⟩:=h
 cases ry
 exact tB (Nz (NQ (by decide:1<=64) _) hu) I g rx λs' I'=>⟨.bl _,H,I',rfl,q⟩
def Il(hu:X.A.units+64<cLine):OpR X (compareOp .NotIn) (λx y H Q=>∃ a o,y=.ref a/\DGet H a x o/\Q (.bl (!o.isSome)) H):=by
 intro pins s σ H x y v u Q I rx ry h;obtain⟨a,o,rfl,g,q⟩:=h
 cases ry
 exact Ff (Nz (NQ (by decide:1<=64) _) hu) I g rx λs' I'=>⟨.bl _,H,I',rfl,q⟩
end
end L2
namespace Sm
open PySem PySem.Spec L2
section
variable{T:Tb}{E:St->XK}{X:Cx}
def oh(hK:X.K=T.K)(hu:X.A.units+64<cLine):Op T X (compareOp .In) qg:=by
 refine⟨_,zg0.or ((GV hu).or ((Ii hu).or (Ik hu))),yY (neg:=false) (g:=compareOp .In) hK ?_ ?_ ?_ ?_⟩
 ·exactλi j H Q q=>.inl ⟨i,j,rfl,rfl,q⟩
 ·exactλx y H Q p xs d ds e1 e2 e3 e4 e5 e6 q=>.inr (.inl ⟨p,xs,d,ds,e1,hK▸e2,hK▸e3,hK▸e4,e5,e6,q⟩)
 ·exactλx y H Q p xs d ds e1 e2 e3 e4 e5 e6 q=>.inr (.inr (.inl ⟨p,xs,d,ds,e1,hK▸e2,hK▸e3,hK▸e4,e5,e6,q⟩))
 ·exactλy a o H Q g q=>.inr (.inr (.inr ⟨a,o,rfl,g,q⟩))
def mF(hK:X.K=T.K)(hu:X.A.units+64<cLine):Op T X (compareOp .NotIn) cU:=by
 refine⟨_,zeB.or ((Ih hu).or ((Ij hu).or (Il hu))),yY (neg:=true) (g:=compareOp .NotIn) hK ?_ ?_ ?_ ?_⟩
 ·exactλi j H Q q=>.inl ⟨i,j,rfl,rfl,q⟩
 ·exactλx y H Q p xs d ds e1 e2 e3 e4 e5 e6 q=>.inr (.inl ⟨p,xs,d,ds,e1,hK▸e2,hK▸e3,hK▸e4,e5,e6,q⟩)
 ·exactλx y H Q p xs d ds e1 e2 e3 e4 e5 e6 q=>.inr (.inr (.inl ⟨p,xs,d,ds,e1,hK▸e2,hK▸e3,hK▸e4,e5,e6,q⟩))
 ·exactλy a o H Q g q=>.inr (.inr (.inr ⟨a,o,rfl,g,q⟩))
end
abbrev uz(x:Str)(C:ZE)(mg:Str->Option ZC)(base:Heap):Prop:=PyProof.Rows.OwnCls x C [.type "ValueError",.type "Exception",.type "BaseException",.type "object"] "ValueError.__new__" mg base
structure GX(T:Tb)(mg:Str->Option ZC)(base:Heap)(c:Nat)(x:Str):Prop where
 ex:∃ C,T.exc c=some C/\uz x C mg base
section
variable{T:Tb}{E:St->XK}{X:Cx}{pos np cpos:Pos}{e:Expr}{es:List Expr}{x:Str}{c:Nat}{as:SL}
def oi (G:GX T X.mg X.base c x) (hr:mr X E) (hg:Gl X x) (ha:fD T E X (e::es) as) (h6:c<64:=by decide) (hc:‹X.calm=true›) (hex:‹X.ex=[]›)
  (hdb:(x==("__debug__":Str))=false:=by decide) (he:‹qE1 e es X.env›) (hpl:‹qF1 cpos es X.env›) :
  fX T E X (.Raise (some (.Call (.Name x np) (e::es) [] cpos)) none pos) (iq c as):=by
 obtain⟨C,h1,O⟩:=G.ex;refine g9 (GC O PySem.F.excBase_ValueError hc hex hr hg ha hdb he hpl) λD σ H=>E6x λι h en S er q=>⟨ι,h,en,S,er,q.go er λxs h1' ι1 H1 us g1 S1 r1 q1=>?_⟩
 split at q1
 ·rename_i hl
  exact⟨by rw[<- r1.length];exact hl,q1 ι1 H1 σ (C,none) S1.refl S1 (er.mono g1) ⟨h1,Hj h6⟩⟩
 ·exact q1.elim
end
def hV(T:Tb)(f:Fn)(r:List V->Hp->VK->Prop):Prop:=∀ (ι:Ix) (h:AH) (H:Hp) (xs:List AV) (us:List V) (E:XK) (Q:VK),Sim T ι h H->RVs T ι H xs us->Post T ι H E (RV T) (f xs h) Q->r us H Q
section
variable{T:Tb}{E:St->XK}{X:Cx}{pos p:Pos}{e a:Expr}{es:List Expr}{x:Str}{as:SL}{sa:SE}
def yZ{f:Fn}{r:List V->Hp->VK->Prop}(hs:hV T f r){σ:St}{H:Hp}{Q:VK}(q:tE T E (ar f as) σ H Q):sY r (tA T E as) σ H Q:=by
 obtain⟨ι,h,en,S,er,q⟩:=q;exact⟨ι,h,en,S,er,q.bind λxs h1 ι1 H1 us g1 S1 r1 q1=>hs ι1 h1 H1 xs us _ Q S1 r1 q1⟩
def bc {id:String} {f:Fn} (hc:∃ r,CallR X (.builtin id) r/\hV T f r) (hg:Gl X x) (hm:X.mg x=none) (hv:bootBuiltins x=some (.builtin id)) (ha:fD T E X (e::es) as) (hn:x ≠ "__name__" := by decide) (hdb:(x==("__debug__":Str))=false:=by decide)
  (he:‹qE1 e es X.env›) (hpl:‹qF1 pos es X.env›):aF T E X (.Call (.Name x p) (e::es) [] pos) (ar f as):=by
 obtain⟨r,h1,h2⟩:=hc;exact bO (pU h1 hg hm hv ha hn hdb he hpl) λσ H Q q=>yZ h2 q
def cI {id:String} {f:Fn} (hc:∃ r,CallR X (.type id) r/\hV T f r) (hg:Gl X x) (hm:X.mg x=none) (hv:bootBuiltins x=some (.type id)) (ha:fD T E X (e::es) as) (hn:x ≠ "__name__" := by decide) (hdb:(x==("__debug__":Str))=false:=by decide)
  (he:‹qE1 e es X.env›) (hpl:‹qF1 pos es X.env›):aF T E X (.Call (.Name x p) (e::es) [] pos) (ar f as):=by
 obtain⟨r,h1,h2⟩:=hc;exact bO (EH h1 hg hm hv ha hn hdb he hpl) λσ H Q q=>yZ h2 q
def M_(hK:X.K=T.K):∃ r,CallR X (.builtin "len") r/\hV T aB r:=by
 refine⟨_,zeD.or (zeC.or FO),λι h H xs us E Q S r q=>?_⟩
 unfold aB at q;split at q
 ·cases r with
  |cons r r' =>
   cases r'
   obtain⟨rfl,n,_⟩:=eB r;exact .inl ⟨_,rfl,n,q.now S (.int _)⟩
 ·cases r with
  |cons r r' =>
   cases r'
   obtain⟨a,us,rfl,sq,rs⟩:=kW r;exact .inr (.inl ⟨a,us,rfl,.inr (hK▸sq),by rw[<- rs.length];exact q.now S (.int _)⟩)
 ·cases r with
  |cons r r' =>
   cases r'
   obtain⟨a,us,rfl,sq,rs⟩:=fY S r rfl;exact .inr (.inl ⟨a,us,rfl,.inl (hK▸sq),by rw[<- rs.length];exact q.now S (.int _)⟩)
 ·rename_i n
  cases r with
  |cons r r' =>
   cases r'
   split at q
   ·rename_i xs hn
    obtain⟨a,us,rfl,sq,rs⟩:=fY (xs:=xs) S r (by simp[eX,hn]);exact .inr (.inl ⟨a,us,rfl,.inl (hK▸sq),by rw[<- rs.length];exact q.now S (.int _)⟩)
   ·rename_i kvs hn
    cases r with
    |@ref _ ad hr =>
     obtain⟨o,e1,kus,rfl,rs⟩:=S.obj n _ ad hn hr;exact .inr (.inr ⟨ad,kus,rfl,e1,by rw[<- Paired.length rs];exact q.now S (.int _)⟩)
   ·exact q.elim
 ·exact q.elim
def LE:∃ r,CallR X (.builtin "abs") r/\hV T kU r:=by
 refine⟨_,Eg,λι h H xs us E Q S r q=>?_⟩
 unfold kU at q;split at q
 ·cases r with
  |cons r r'=>cases r';rw[bu r];exact⟨_,rfl,q.now S (.int _)⟩
 ·exact q.elim
def k9(hc:‹X.calm=true›):∃ r,CallR X (.builtin "max") r/\hV T fg r:=by
 refine⟨_,Eh hc,λι h H xs us E Q S r q=>?_⟩
 unfold fg at q;split at q
 ·cases r with
  |cons r r'=>cases r' with
   |cons r1 r2=>cases r2;rw[bu r,bu r1];exact⟨_,_,rfl,q.now S (.int _)⟩
 ·exact q.elim
def y4(hc:‹X.calm=true›):∃ r,CallR X (.builtin "min") r/\hV T mz r:=by
 refine⟨_,Ei hc,λι h H xs us E Q S r q=>?_⟩
 unfold mz at q;split at q
 ·cases r with
  |cons r r'=>cases r' with
   |cons r1 r2=>cases r2;rw[bu r,bu r1];exact⟨_,_,rfl,q.now S (.int _)⟩
 ·exact q.elim
theorem y6{ι:Ix}{H:Hp}:∀ {xs:List AV} {us:List V} {bs:List Bool},RVs T ι H xs us->nW xs=some bs->us=bs.map V.bl
 |_,_,_,.nil,e=>by cases e;rfl
 |_,_,bs,.cons (x:=x) r rs,e=>by
  unfold nW at e;split at e
  ·rename_i hh;cases hh
  ·rename_i b r' hh
   cases hh
   obtain⟨bs',e1,rfl⟩:=NG.mp e;rw[fG r,y6 rs e1];rfl
  ·cases e
def LT(hK:X.K=T.K)(hc:‹X.calm=true›):∃ r,CallR X (.builtin "all") r/\hV T gC r:=by
 refine⟨_,Ge hc,λι h H xs us E Q S r q=>?_⟩
 unfold gC at q;split at q
 ·split at q
  ·rename_i bs hb
   cases r with
   |cons r r' =>
    cases r'
    obtain⟨a,us,rfl,sq,rs⟩:=fY S r rfl;rw[y6 rs hb] at sq;exact⟨a,bs,rfl,hK▸sq,q.now S (.bl _)⟩
  ·exact q.elim
 ·exact q.elim
def IO:∃ r,CallR X (.type "int") r/\hV T br r:=by
 refine⟨_,Ej,λι h H xs us E Q S r q=>?_⟩
 unfold br at q;split at q
 ·cases r with
  |cons r r'=>cases r';rw[bu r];exact .inl ⟨_,rfl,q.now S (.int _)⟩
 ·cases r with
  |cons r r'=>cases r';rw[fG r];exact .inr ⟨_,rfl,q.now S (.int _)⟩
 ·exact q.elim
abbrev oj:List String:=["NoneType", "bool", "int", "str", "list", "tuple", "dict"]
def y8(K:ZA):∀ n∈oj,∀ t∈oj,PySem.W.kitOne K (.type n) (.type t)=some (n == t || (t == "int" && n == "bool")):=by
 intro n hn t ht;simp only[oj,ND,O0,QS] at hn ht
 rcases hn with rfl|rfl|rfl|rfl|rfl|rfl|rfl<;>rcases ht with rfl|rfl|rfl|rfl|rfl|rfl|rfl<;>rfl
def Im{c:V}{cv:ZC}(rc:∀ u,RelV c u->u=cv) :
  CallR X (.builtin "isinstance") (λxs H Q=>∃ a us r,xs=[.ref a,c]/\SqL X.K H a us/\PySem.W.kitOne X.K (.type "list") cv=some r/\Q (.bl r) H):=by
 intro pins s σ H xs us Q I r h;obtain⟨a,ws,k,rfl,sq,hk,q⟩:=h;obtain⟨u,w',rfl,rx,ry⟩:=nI r;obtain rfl:=rc _ ry;obtain rfl:u=Value.ref a:=rx;obtain⟨its,_,⟨o,n,e1,e2,_⟩,_⟩:=I.list sq;exact Ou Qu I.kIn ⟨_,e1,e2⟩ hk (λz=>nomatch z) λtk=>⟨.bl k,H,I.tok _,rfl,q⟩
def Io{ι:Ix}{h:AH}{H:Hp}{v:AV}{u:V}{n:String}(S:Sim T ι h H)(r:RV T ι H v u)(e:hE v h=some n):(cE T.K H u (.type n)\/(n="list" /\ ∃ a us,u=.ref a/\SqL T.K H a us))/\n∈oj:=by
 unfold hE at e
 cases r with
 |non=>cases e;exact⟨.inl .non,by decide⟩
 |bl b=>cases e;exact⟨.inl (.bl b),by decide⟩
 |int b=>cases e;exact⟨.inl (.int b),by decide⟩
 |str n o=>cases e;exact⟨.inl (.str _),by decide⟩
 |tup n q r=>cases e;exact⟨.inl (.tup q),by decide⟩
 |fl n q r=>cases e;exact⟨.inr ⟨rfl,_,_,rfl,.inl q⟩,by decide⟩
 |kfl q r=>cases e;exact⟨.inr ⟨rfl,_,_,rfl,.inr q⟩,by decide⟩
 |@ref k a q =>
  dsimp only at e;split at e
  ·rename_i xs hn
   cases e
   obtain⟨o,e1,us,rfl,rs⟩:=S.obj k _ a hn q;exact⟨.inl (.lst e1),by decide⟩
  ·rename_i t kvs hn
   cases e
   obtain⟨o,e1,r⟩:=S.obj k _ a hn q
   cases t with
   |false=>obtain⟨kus,rfl,rs⟩:=r;exact⟨.inl (.dK e1),by decide⟩
   |true=>obtain⟨kus,rfl,rs⟩:=r;exact⟨.inl (.dT e1),by decide⟩
  ·cases e
 |exc _ _ _=>cases e
def qz {t:Str} {id:String} {p2:Pos} (hK:X.K=T.K) (hg:Gl X "isinstance") (hm:X.mg "isinstance"=none) (ha:aF T E X a sa) (hgt:Gl X t) (hmt:X.mg t=none) (hvt:bootBuiltins t=some (.type id)) (hid:id∈oj) (hnt:t ≠ "__name__" := by decide) (hdt:(t == ("__debug__" : Str))=false:=by decide)
  (he:‹starEach [a,.Name t p2] X.env=(false,eval a X.env)::starEach [.Name t p2] X.env›):aF T E X (.Call (.Name "isinstance" p) [a,.Name t p2] [] pos) (fh id sa):=by
 refine bO (pU ((F8 (X:=X) (xX id)).or (Im (X:=X) (xX id))) hg hm P4 (jV ha (jV (CZ (v:=.ty id) hgt hmt hvt rfl hnt hdt) nJ) he) (he:=he)) λσ H Q=>E6x λι h en S er q=>⟨ι,h,en,S,er,q.bind λv h1 ι1 H1 u g1 S1 r1 q1=>?_⟩
 split at q1
 ·rename_i n hn
  obtain⟨ty,hmem⟩:=Io S1 r1 hn;rcases ty with ty|⟨rfl,ad,us,rfl,sq⟩
  ·exact .inl ⟨u,.type n,_,rfl,hK▸ty,y8 _ n hmem id hid,q1.now S1 (.bl _)⟩
  ·exact .inr ⟨ad,us,_,rfl,hK▸sq,y8 _ _ hmem id hid,q1.now S1 (.bl _)⟩
 ·exact q1.elim
def Ip {t:Str} {p2:Pos} {cv:ZC} {cV:V} {pr:Nat->Bool} (hK:X.K=T.K) (hg:Gl X "isinstance") (hm:X.mg "isinstance"=none) (ha:aF T E X a sa) (hcl:PE X (.Name t p2) (tC cV)) (rc:∀ u,RelV cV u->u=cv)
  (hp:∀ c C,T.exc c=some C->bR T.K C/\PySem.W.kitOne T.K (.ref C) cv=some (pr c)) (he:‹starEach [a,.Name t p2] X.env=(false,eval a X.env)::starEach [.Name t p2] X.env›):aF T E X (.Call (.Name "isinstance" p) [a,.Name t p2] [] pos) (jr pr sa):=by
 refine bO (pU (GR (X:=X) rc) hg hm P4 (jV ha (jV hcl nJ) he) (he:=he)) λσ H Q=>E6x λι h en S er q=>⟨ι,h,en,S,er,q.bind λv h1 ι1 H1 u g1 S1 r1 q1=>?_⟩
 split at q1
 ·rename_i c
  cases r1 with
  |@exc _ C ad n ec hq =>
   obtain⟨Z,k⟩:=hp c C.1 ec.1;exact⟨ad,C.1,_,rfl,⟨_,hq⟩,hK▸Z,hK▸k,q1.now S1 (.bl _)⟩
 ·exact q1.elim
def mG(T:Tb)(f:FM)(r:V->List V->Hp->VK->Prop):Prop:=∀ (ι:Ix) (h:AH) (H:Hp) (x:AV) (xs:List AV) (u:V) (us:List V) (E:XK) (Q:VK),Sim T ι h H->RV T ι H x u->RVs T ι H xs us->Post T ι H E (RV T) (f x xs h) Q->r u us H Q
def jw(T:Tb)(chk:AV->AH->Bool)(n:String):Prop:=∀ (ι:Ix) (h:AH) (H:Hp) (x:AV) (u:V),Sim T ι h H->RV T ι H x u->chk x h=true->pW T.K n u H
def jx:jw T bh "list" :=(λι h H x u S r e=>by
 obtain⟨xs,e1⟩:=NP.mp e;obtain⟨a,us,rfl,sq,rs⟩:=fY S r e1;exact .inl ⟨rfl,us,sq⟩)
def Iq:jw T t8 "str" :=(λι h H x u S r e=>by
 unfold t8 at e;split at e
 ·obtain⟨rfl,_⟩:=eB r;rfl
 ·cases e)
variable{o:Expr}{so:SE}{name:Str}{apos:Pos}{chk:AV->AH->Bool}{f:FM}{tn id:String}
def gI (hK:X.K=T.K) (pa:PlainAttrs tn) (slot:Slot tn name id) (hty:typeOf (.builtin id)=pure (.type "method_descriptor")) (hm:∃ r,iR X id r/\mG T f r) (hc:jw T chk tn) (ho:aF T E X o so) (ha:fD T E X (e::es) as)
  (hbase:‹attributeBase o name X.env (eval o X.env)=eval o X.env›)
  (hfew:‹((backTo pos (starEach (e::es) X.env)).all (λx=>!x.1) && (backToKw pos (keywordEach [] X.env)).all (λx=>x.1.isSome)
   && decide ((e::es).length+([]:List Keyword).length+(if ([]:List Keyword).isEmpty then 0 else 1)<30))=true›)
  (hline:‹(apos.endLine==pos.line)=true›) (hs:‹qE1 e es X.env›) (hplain:‹qF1 pos es X.env›) :
  aF T E X (.Call (.Attribute o name apos) (e::es) [] pos) (dC chk f so as):=by
 obtain⟨r,h1,h2⟩:=hm;refine bO (E4 pa slot hty h1 ho ha hbase hfew hline hs hplain) λσ H Q=>E6x λι h en S er q=>⟨ι,h,en,S,er,q.bind λx h1 ι1 H1 u g1 S1 r1 q1=>?_⟩
 by_cases hx:chk x h1=true
 ·rw[Nn hx] at q1
  exact⟨hK▸hc ι1 h1 H1 x u S1 r1 hx,ι1,h1,en,S1,er.mono g1,q1.bind λxs h2' ι2 H2 us g2 S2 r2 q2=>h2 ι2 h2' H2 x xs u us _ Q S2 (r1.mono g2) r2 q2⟩
 ·rw[Nr hx] at q1;exact q1.elim
def qC (hK:X.K=T.K) (pa:PlainAttrs tn) (slot:Slot tn name id) (hty:typeOf (.builtin id)=pure (.type "method_descriptor")) (hm:∃ r,iR X id r/\mG T f r) (hc:jw T chk tn) (ho:aF T E X o so)
  (hbase:‹attributeBase o name X.env (eval o X.env)=eval o X.env›) (hline:‹(apos.endLine==pos.line)=true›):aF T E X (.Call (.Attribute o name apos) [] [] pos) (gD chk f so):=by
 obtain⟨r,h1,h2⟩:=hm;refine bO (xM pa slot hty h1 ho hbase hline) λσ H Q=>E6x λι h en S er q=>⟨ι,h,en,S,er,q.bind λx h1 ι1 H1 u g1 S1 r1 q1=>?_⟩
 by_cases hx:chk x h1=true
 ·rw[Nn hx] at q1
  exact⟨hK▸hc ι1 h1 H1 x u S1 r1 hx,h2 ι1 h1 H1 x [] u [] _ Q S1 r1 .nil q1⟩
 ·rw[Nr hx] at q1;exact q1.elim
def om:∃ r,iR X "list.append" r/\mG T bL r:=by
 refine⟨_,xN,λι h H x xs u us E Q S rx rs q=>?_⟩
 unfold bL at q;split at q
 ·rename_i n y
  split at q
  ·rename_i ys hn
   split at q
   ·rename_i hl
    cases rx with
    |@ref _ ad hr =>
     cases rs with
     |@cons _ uu _ _ r r' =>
      cases r'
      obtain⟨o,e1,ws,rfl,rw_⟩:=S.obj n _ ad hn hr;have g:=S.growSet (u:=.lst (ws++[uu])) hr;exact⟨ad,ws,_,rfl,rfl,e1,by rw[<- rw_.length];exact hl,q ι _ _ g (S.set hr ⟨_,rfl,(rw_.mono g).append (.cons (r.mono g) .nil)⟩) .non⟩
   ·exact q.elim
  ·exact q.elim
 ·exact q.elim
def y9:∃ r,iR X "list.pop" r/\mG T cZ r:=by
 refine⟨_,E7,λι h H x xs u us E Q S rx rs q=>?_⟩
 unfold cZ at q;split at q
 ·rename_i n
  split at q
  ·rename_i ys hn
   split at q
   ·rename_i y hy
    cases rx with
    |@ref _ ad hr =>
     cases rs
     obtain⟨o,e1,ws,rfl,rw_⟩:=S.obj n _ ad hn hr;have g:=S.growSet (u:=.lst ws.dropLast) hr;obtain⟨v,e2,r2⟩:=rw_.get hy;refine⟨ad,ws,v,rfl,rfl,e1,by rw[<- rw_.length];exact e2,q ι _ _ g (S.set hr ⟨_,rfl,?_⟩) (r2.mono g)⟩
     have z:=(rw_.mono g).take (ys.length-1);have e3:ys.take (ys.length-1)=ys.dropLast:=Ri.symm;have e4:ws.take (ys.length-1)=ws.dropLast:=by rw[rw_.length];exact Ri.symm
     rw[e3,e4] at z;exact z
   ·exact q.elim
  ·exact q.elim
 ·exact q.elim
def Ir:∃ r,iR X "str.count" r/\mG T ua r:=by
 refine⟨_,Gb,λι h H x xs u us E Q S rx rs q=>?_⟩
 unfold ua at q;split at q
 ·cases rs with
  |cons r r' =>
   cases r'
   obtain⟨rfl,_⟩:=eB rx;obtain⟨rfl,_⟩:=eB r;exact⟨_,_,rfl,rfl,q.now S (.int _)⟩
 ·exact q.elim
end
def Out.bind_assoc{α β γ:Type}(o:Out α)(f:α->AH->Out β)(g:β->AH->Out γ):(o.bind f).bind g=o.bind λa h=>(f a h).bind g:=by cases o<;>rfl
section
variable{T:Tb}{E:St->XK}{X:Cx}{pos p2:Pos}{a b:Expr}{sa sb:SE}
def tO(T:Tb)(E:St->XK):Option SE->TO
 |none=>xE
 |some s=>xF (tE T E s)
abbrev qD(T:Tb)(E:St->XK)(X:Cx)(e:Option Expr)(s:Option SE):Prop:=PO X e (tO T E s)
def mH:qD T E X none none:=(EM)
def mI(h:aF T E X a sa):qD T E X (some a) (some sa):=(EO h)
@[simp] def qE(s:Option SE):En->AH->Out (Option Int):=λen h=>match s with
 |none=>.ok none h
 |some l=>(l en h).bind λv h2=>match v with|.int i=>.ok (some i) h2|_=>.bad
def za{s:Option SE}{σ:St}{H:Hp}{ι:Ix}{h:AH}{en:En}{γ δ:Type}{R':Ix->Hp->γ->δ->Prop}{Q0:δ->Hp->Prop}{f:Option Int->AH->Out γ}{Q:Option Int->Hp->Prop}(S:Sim T ι h H)(er:ER T ι H en σ)(q:Post T ι H (E σ) R' ((qE s en h).bind f) Q0)
  (k:∀ l h' ι' H',Grow ι H ι' H'->Sim T ι' h' H'->Post T ι' H' (E σ) R' (f l h') Q0->Q l H'):tO T E s σ H Q:=by
 cases s with
 |none=>exact k none h ι H S.refl S q
 |some l =>
  refine⟨ι,h,en,S,er,?_⟩
  unfold qE at q;dsimp only at q;rw[Out.bind_assoc] at q;refine q.bind λv h1 ι1 H1 u g1 S1 r1 q1=>?_
  split at q1
  ·rw[bu r1]
   exact⟨_,rfl,k _ _ ι1 H1 g1 S1 q1⟩
  ·exact q1.elim
@[simp] def dE(x:AV)(l u:Option Int)(h:AH):Out AV:=match x with
 |.fl xs=>.ok (.fl (dN xs l u)) h
 |.str z=>.ok (.str (bG z l u)) h
 |.tup xs=>if ¬ (HT.sIx xs.length 0 l=0/\HT.sIx xs.length xs.length u=xs.length) then .ok (.tup (dN xs l u)) h else .bad
 |.ref n=>match h[n]? with
  |some (.lst xs)=>.ok (.fl (dN xs l u)) h
  |_=>.bad
 |_=>.bad
@[simp] def bU(a:SE)(lo hi:Option SE):SE:=λen h=>(a en h).bind λx h1=>(qE lo en h1).bind λl h2=>(qE hi en h2).bind λu h3=>dE x l u h3
def RVs.cut{ι:Ix}{H:Hp}{xs:List AV}{us:List V}{lo hi:Option Int}(r:RVs T ι H xs us):RVs T ι H (dN xs lo hi) (eU us lo hi):=by
 unfold dN eU;rw[<- r.length];exact(r.drop _).take _
def Iu{ι:Ix}{H:Hp}{z:Str}{l u:Option Int}(hz:z.length<=sizeLine)(hc:z.cps.all (· < 0x110000)=true):RV T ι H (.str (bG z l u)) (.str (bG z l u)):=by
 refine .str ?_ ?_
 ·refine Np ?_ hz
  simp[bG,Str.length];lia
 ·simp only[bG,QL,Oa]
  intro c h;have hm:c∈z.cps.toList:=Pm (P0 h);exact(Ox.mp hc) c (by simpa using hm)
def mJ{lo hi:Option Expr}{sl sh:Option SE}(hK:X.K=T.K)(ha:aF T E X a sa)(hl:qD T E X lo sl)(hh:qD T E X hi sh):aF T E X (.Subscript a (.Slice lo hi none p2) pos) (bU sa sl sh):=by
 refine bO (ET (zjm.or (sl_tup.or Hc)) ha hl hh) λσ H Q=>E6x λι h en S er q=>⟨ι,h,en,S,er,q.bind λx h1 ι1 H1 u g1 S1 r1 q1=>?_⟩
 refine za (E:=E) S1 (er.mono g1) q1 λl h2 ι2 H2 g2 S2 q2=>za (E:=E) S2 (er.mono (g1.trans g2)) q2 λw h3 ι3 H3 g3 S3 q3=>?_
 have r3:=r1.mono (g2.trans g3);unfold dE at q3;split at q3
 ·obtain⟨ad,us,rfl,sq,rs⟩:=fY S3 r3 rfl
  exact .inl ⟨ad,us,rfl,hK▸sq,λp n=>qi S3 rs.cut n q3⟩
 ·obtain⟨rfl,hz,hc⟩:=eB r3
  exact .inr (.inr ⟨_,rfl,hz,q3.now S3 (Iu hz hc)⟩)
 ·rename_i xs
  split at q3
  ·rename_i hz
   obtain⟨ad,us,rfl,sq,rs⟩:=kW r3;exact .inr (.inl ⟨ad,us,rfl,hK▸sq,by rw[<- rs.length];exact hz,λp n=>ub S3 rs.cut n q3⟩)
  ·exact q3.elim
 ·split at q3
  ·rename_i xs hn
   obtain⟨ad,us,rfl,sq,rs⟩:=fY (xs:=xs) S3 r3 (by simp[eX,hn]);exact .inl ⟨ad,us,rfl,hK▸sq,λp n=>qi S3 rs.cut n q3⟩
  ·exact q3.elim
 ·exact q3.elim
def jy {x:Str} {i:Int} {p:Pos} (hg:Gl X x) (hm:∃ t,X.mg x=some (.int i t)) (hd:(x==("__debug__":Str))=false:=by decide):aF T E X (.Name x p) (ae (.int i)):=by
 obtain⟨t,hm⟩:=hm;exact Hq hg hm hd
end
def DG(K:ZA)(mg:Str->Option ZC)(x:Str)(st:Stmt)(ps:List Str):Prop:=∃ f fd,mg x=some (.ref f)/\PySem.W.keepIn K (.ref f)=true/\Binds K fd ps []/\Fun K x x st f fd
def uA(N:List Str)(sc:Scope)(ns:List Str)(jf:List (Nat×Str))(scope:Scope):Bool :=
 decide (ns++jf.map (·.2)).Nodup && ns.all (λx=>scope.names.lookup x == some .local) && jf.all (λp=>N[p.1]? == some p.2) && jf.all (λp=>scope.names.lookup p.2 == some .free) && (scope.kind == .function) &&
 scope.names.all (λy=>y.2 != .cell) && scope.names.all (λy=>y.2 != .free || sc.names.lookup y.1 == some .cell || sc.names.lookup y.1 == some .free) && scope.names.all (λy=>y.2 != .local || scope.names.lookup y.1 == some .local)
def zb{X:Cx}{N:List Str}{sc scope:Scope}{ns:List Str}{jf:List (Nat×Str)}(hN:X.N=N)(hk:∀ x,X.env.kindOf x=sc.names.lookup x)(h:uA N sc ns jf scope=true):CompOk X ns jf scope:=by
 unfold uA at h;simp only[N7,Oz,Oa,Sr,bne_iff_ne,Bool.or_eq_true] at h
 obtain⟨⟨⟨⟨⟨⟨⟨h1,h2⟩,h3⟩,h4⟩,h5⟩,h6⟩,h7⟩,h8⟩:=h;refine⟨h1,h2,λp hp=>by rw[hN];exact h3 p hp,h4,h5,λy hy=>h6 y hy,λy hy e=>?_,λy hy e=>?_⟩
 ·rw[hk]
  rcases h7 y hy with (z|z)|z
  ·exact absurd e z
  ·exact .inl z
  ·exact .inr z
 ·rcases h8 y hy with z|z
  ·exact absurd e z
  ·exact z
theorem uB{T:Tb}{ι:Ix}{H:Hp}:∀ ns:List Int,RVs T ι H (ns.map AV.int) (ns.map V.int)
 |[]=>.nil
 |n::ns=>.cons (.int n) (uB ns)
def uC{T:Tb}{H:Hp}:Sim T ⟨[],[]⟩ [] H:=(⟨rfl,Pl,(λ_ z=>nomatch z),(λi o a e=>by simp at e)⟩)
def uD(K:ZA):Sp:=λvs H Q _=>∃ (a:ZE) (ns:List Int),vs=[.ref a]/\SqL K H a (ns.map V.int)/\ns.length<=63/\∀ H',Q (.bl true) H'
def Iv{T:Tb}{F:Fn}(ht:∀ ns:List Int,ns.length<=63->∃ h',F [.fl (ns.map AV.int)] []=.ok (.bl true) h'):∀ vs H Q E,uD T.K vs H Q E->iy T F vs H Q E:=by
 rintro vs H Q E ⟨a,ns,rfl,hs,hl,q⟩
 obtain⟨h',e⟩:=ht ns hl;refine⟨⟨[],[]⟩,[],[.fl (ns.map AV.int)],uC,.cons ?_ .nil,?_⟩
 ·rcases hs with hs|hs
  ·exact .fl (by simp[Ix.all]) hs (uB ns)
  ·exact .kfl hs (uB ns)
 ·rw[e]
  intro ι' H' u g S r;rw[fG r];exact q H'
def Iw{P:ZD}{w:ZF}{outer:List Env}{H:Hp}{s s':ZB}{e:ZC}(h:cL P w outer H s (λ_ _ _=>False) e s'):False:=by
 obtain⟨_,_,_,_,_,_,_,_,_,_,_,_,_,_,_,_,q⟩:=h;exact q
end Sm
namespace L2
open PySem PySem.Spec PyProof.Rows
end L2
namespace Sm
open PySem PySem.Spec L2
section
variable{T:Tb}{E:L2.St->XK}{X:Cx}{pos p np:Pos}{a:Expr}{sa:SE}
def excK_of {K:ZA} {C:ZE} (g1:PySem.W.findIn K (.ref C) "__getattribute__"=some (some (.builtin "BaseException.__getattribute__"))) (g2:PySem.W.findIn K (.ref C) "__getattr__"=some none) (g3:PySem.W.findIn K (.ref C) "__class__"=some (some (.builtin "object.__class__")))
  (g4:PySem.W.mroIn K C (.type "object")=some true) (g5:PySem.W.mroIn K C (.type "BaseException")=some true) (g6:PySem.W.specialIn K (.builtin "object.__class__") "__get__"=some (some (.builtin "getset_descriptor.__get__"))) (g7:PySem.W.takesIn K (.builtin "object.__class__")=some true):bR K C:=by
 refine⟨?_,g1,g2,g3,g6,g7,g4,g5⟩
 obtain⟨cd,hc,_⟩:=QK.mp g4;rw[hc];rfl
def zc {t:Str} {p2:Pos} {pr:Nat->Bool} (hK:X.K=T.K) (hg:Gl X "isinstance") (hm:X.mg "isinstance"=none) (ha:aF T E X a sa) (hgt:Gl X t) (hp:∃ C,X.mg t=some (.ref C)/\∀ c C',T.exc c=some C'->bR T.K C'/\PySem.W.kitOne T.K (.ref C') (.ref C)=some (pr c)) (hd:(t == ("__debug__" : Str))=false:=by decide)
  (he:‹starEach [a,.Name t p2] X.env=(false,eval a X.env)::starEach [.Name t p2] X.env›):aF T E X (.Call (.Name "isinstance" p) [a,.Name t p2] [] pos) (jr pr sa):=by
 obtain⟨C,h1,h2⟩:=hp;exact Ip hK hg hm ha (pN (v:=.ref C) hgt h1 rfl hd) (F9 C) h2 he
end
end Sm
namespace L2
open PySem PySem.Spec PyProof.Rows
section
variable{X:Cx}{pins:List (ZE×Obj)}{σ:L2.St}{H:Hp}{s:ZB}
end
end L2
namespace Sm
open PySem PySem.Spec L2
@[simp] def oq:List AV->Option (List Int)
 |[]=>some []
 |.int i::r=>(oq r).map (i :: ·)
 |_=>none
@[simp] def gJ:Fn:=λargs h=>match args with
 |[.fl xs]=>match oq xs with
  |some ns=>.ok (.int ns.sum) h
  |none=>.bad
 |_=>.bad
@[simp] def jz(a b c:SE):SI:=λen h=>(a en h).bind λv h1=>(b en h1).bind λw h2=>(c en h2).bind λz h3=>match v,w,z with
 |.int i,.int j,.int k=>if i.natAbs<2 ^ 40/\j.natAbs<2 ^ 40/\0<k/\k<2 ^ 20 then .ok ((List.range (if i<j then(j-i-1) / k+1 else 0:Int).toNat).map (λm:Nat=>.int (i+m*k)),none) h3 else .bad
 |_,_,_=>.bad
@[simp] def Iy:F2:=λx y h=>match x,y with
 |.bl a,.bl b=>.ok (.bl (a == b)) h
 |_,_=>.bad
@[simp] def iX(f f' f'':F2)(a b c d:SE):SE:=λen h=>(a en h).bind λx h1=>(b en h1).bind λy h2=>(f x y h2).bind λz h3=>match z with
 |.bl k=>if k=true then(c en h3).bind λw h4=>(f' y w h4).bind λz2 h5=>(match z2 with
  |.bl k2=>if k2=true then(d en h5).bind λv h6=>f'' w v h6 else .ok (.bl false) h5
  |_=>.bad) else .ok (.bl false) h3
 |_=>.bad
section
variable{T:Tb}{E:St->XK}{X:Cx}{pos p:Pos}{e a b c:Expr}{sa sb sc:SE}
theorem zd{ι:Ix}{H:Hp}:∀ {xs:List AV} {us:List V} {bs:List Int},RVs T ι H xs us->oq xs=some bs->us=bs.map V.int
 |_,_,_,.nil,e=>by cases e;rfl
 |_,_,bs,.cons (x:=x) r rs,e=>by
  unfold oq at e;split at e
  ·rename_i hh;cases hh
  ·rename_i b r' hh
   cases hh
   obtain⟨bs',e1,rfl⟩:=NG.mp e;rw[bu r,zd rs e1];rfl
  ·cases e
def KK(hK:X.K=T.K)(hc:‹X.calm=true›):∃ r,CallR X (.builtin "sum") r/\hV T gJ r:=by
 refine⟨_,GW hc,λι h H xs us E Q S r q=>?_⟩
 unfold gJ at q;split at q
 ·split at q
  ·rename_i bs hb
   cases r with
   |cons r r' =>
    cases r'
    obtain⟨a,us,rfl,sq,rs⟩:=fY S r rfl;rw[zd rs hb] at sq;exact⟨a,bs,rfl,hK▸sq,q.now S (.int _)⟩
  ·exact q.elim
 ·exact q.elim
def Iz{ι:Ix}{H:Hp}{lo c:Int}{n:Nat}:iW T (ji lo c n) ι H ((List.range n).map (λm:Nat=>AV.int (lo+m*c))) none:=by
 constructor
 ·intro i ι' h' H' y g S _ e
  rw[NY] at e;obtain⟨m,e1,rfl⟩:=NG.mp e
  have hi:i<n:=by
   have:=(Ni.mp e1).1;simpa using this
  rw[Qb hi] at e1
  cases e1
  refine⟨hi,?_⟩
  rintro u H2 ⟨rfl,rfl⟩
  exact⟨S.refl,S,.int _⟩
 ·intro i ι' h' H' g S _ hl
  have hl':n<=i:=by simpa using hl
  exact hl'
def IA {tg:Expr} {p:Pos} (hg:Gl X "range") (hm:X.mg "range"=none) (ha:aF T E X a sa) (hb:aF T E X b sb) (hc:aF T E X c sc) (hs:‹starEach [a,b,c] X.env=[(false,eval a X.env),(false,eval b X.env),(false,eval c X.env)]›) (hs2:‹starEach [b,c] X.env=[(false,eval b X.env),(false,eval c X.env)]›) (hs3:‹starEach [c] X.env=[(false,eval c X.env)]›) :
  jv T X tg (.Call (.Name "range" p) [a,b,c] [] pos) (jz sa sb sc) :=(
 mD (G8 hg hm (aj ha (aj hb (aj hc aC hs3) (by rw[hs2,hs3])) (by rw[hs,hs2])) hs hs2) λσ H R=>E6x λι h en S er q=>by
  unfold jz at q;refine⟨ι,h,en,S,er,?_⟩
  unfold ah
  cases e:sa en h with
  |bad=>rw[e] at q;exact q
  |ex c h1=>rw[e] at q;exact q.elim
  |ok v h1 =>
   rw[e] at q;dsimp only[Out.bind] at q ⊢
   cases e':sb en h1 with
   |bad=>rw[e'] at q;exact q
   |ex c h1=>rw[e'] at q;exact q.elim
   |ok v' h2 =>
    rw[e'] at q;dsimp only at q ⊢
    cases e'':sc en h2 with
    |bad=>rw[e''] at q;exact q
    |ex c h1=>rw[e''] at q;exact q.elim
    |ok v'' h3 =>
     rw[e''] at q;dsimp only at q
     intro ι1 H1 u g1 S1 r1;split at q
     ·rename_i hx
      split at hx
      ·split at hx
       ·rename_i hb
        cases hx
        cases r1 with
        |cons r r' =>
         cases r' with
         |cons r2 r3 =>
          cases r3 with
          |cons r4 r5 =>
           cases r5
           rw[bu r,bu r2,bu r4];exact⟨_,_,_,rfl,hb,q ι1 H1 _ g1 S1 Iz⟩
       ·cases hx
      ·cases hx
     ·exact q.elim)
def qF{sts:List Stmt}{E:St->XK}:cF T E X sts (λ_ _=>.bad):=(λpins s σ H D I ⟨ι,h,en,S,er,q⟩=>q.elim)
def IB{d:Expr}{sd:SE}{op op' op'':CmpOp}{f f' f'':F2}(ho:Op T X (compareOp op) f)(ho':Op T X (compareOp op') f')(ho'':Op T X (compareOp op'') f'')(ha:aF T E X a sa)(hb:aF T E X b sb)(hc:aF T E X c sc)(hd:aF T E X d sd)(hm:lastMarks [op,op',op''] [b,c,d]=false:=by with_unfolding_all rfl) :
  g8 T E X (.Compare a [op,op',op''] [b,c,d] pos) (aD (iX f f' f'' sa sb sc sd)):=by
 obtain⟨r,h1,hs⟩:=ho;obtain⟨r',h1',hs'⟩:=ho';obtain⟨r'',h1'',hs''⟩:=ho'';refine nT (Hd h1 h1' h1'' ha hb hc hd hm) λσ H Q q=>?_
 obtain⟨ι,h,en,S,er,q⟩:=q;unfold aD iX at q;rw[Out.bind_assoc] at q;refine⟨ι,h,en,S,er,q.bind λx h1 ι1 H1 u g1 S1 r1 q1=>?_⟩
 rw[Out.bind_assoc] at q1;refine⟨ι1,h1,en,S1,er.mono g1,q1.bind λy h2 ι2 H2 w g2 S2 r2 q2=>?_⟩
 rw[Out.bind_assoc] at q2;refine hs ι2 h2 H2 x y u w (E σ) _ S2 (r1.mono g2) r2 (q2.bind λz h3 ι3 H3 k g3 S3 r3 q3=>?_)
 split at q3
 ·rename_i kk
  rw[fG r3];refine⟨kk,rfl,?_⟩
  by_cases hkk:kk=true
  ·rw[Nn hkk] at q3 ⊢
   rw[Out.bind_assoc] at q3;refine⟨ι3,h3,en,S3,er.mono (g1.trans (g2.trans g3)),q3.bind λv h4 ι4 H4 j g4 S4 r4 q4=>?_⟩
   rw[Out.bind_assoc] at q4;refine hs' ι4 h4 H4 y v w j (E σ) _ S4 (r2.mono (g3.trans g4)) r4 (q4.bind λz2 h5 ι5 H5 k5 g5 S5 r5 q5=>?_)
   split at q5
   ·rename_i k2
    rw[fG r5];refine⟨k2,rfl,?_⟩
    by_cases hk2:k2=true
    ·rw[Nn hk2] at q5 ⊢
     rw[Out.bind_assoc] at q5;refine⟨ι5,h5,en,S5,er.mono (g1.trans (g2.trans (g3.trans (g4.trans g5)))),q5.bind λv6 h6 ι6 H6 j6 g6 S6 r6 q6=>?_⟩
     refine hs'' ι6 h6 H6 v v6 j j6 (E σ) _ S6 (r4.mono (g5.trans g6)) r6 (q6.bind λz7 h7 ι7 H7 k7 g7 S7 r7 q7=>?_)
     split at q7
     ·rw[fG r7];exact⟨_,rfl,q7.now S7 rfl⟩
     ·exact q7.elim
    ·rw[Nr hk2] at q5 ⊢
     exact⟨false,rfl,q5.now S5 rfl⟩
   ·exact q5.elim
  ·rw[Nr hkk] at q3 ⊢
   exact⟨false,rfl,q3.now S3 rfl⟩
 ·exact q3.elim
end
def IC:∀ {us:List ZC},us.length=1->∃ a:ZC,us=[a]:=by
 intro us h;cases us with
 |nil=>cases h
 |cons a us=>exact⟨a,by rw[List.length_eq_zero_iff.mp (Nat.succ.inj h)]⟩
def ID:∀ {us:List ZC},us.length=2->∃ a b:ZC,us=[a,b]:=by
 intro us h;cases us with
 |nil=>cases h
 |cons a us=>obtain⟨b,rfl⟩:=IC (Nat.succ.inj h);exact⟨a,b,rfl⟩
def IE:∀ {us:List ZC},us.length=3->∃ a b c:ZC,us=[a,b,c]:=by
 intro us h;cases us with
 |nil=>cases h
 |cons a us=>obtain⟨b,c,rfl⟩:=ID (Nat.succ.inj h);exact⟨a,b,c,rfl⟩
def IF:∀ {us:List ZC},us.length=4->∃ a b c d:ZC,us=[a,b,c,d]:=by
 intro us h;cases us with
 |nil=>cases h
 |cons a us=>obtain⟨b,c,d,rfl⟩:=IE (Nat.succ.inj h);exact⟨a,b,c,d,rfl⟩
def IG{T:Tb}{ι:Ix}{H:Hp}{z:Str}{n:Nat}(hl:z.length*n<=1000000)(hc:z.cps.all (· < 0x110000)=true):RV T ι H (.str (aR z n)) (.str (aR z n)):=by
 refine .str ?_ ?_
 ·refine Np ?_ (Np hl 'd')
  simp[aR,Str.length,QY]
 ·simp only[aR,QL,Oa,List.mem_flatten,List.mem_replicate]
  rintro c ⟨l,⟨_,rfl⟩,hm⟩
  exact(Ox.mp hc) c (by simpa using hm)
@[simp] def ot:F2:=λx y h=>match x,y with
 |.str z,.int n=>if n.natAbs<2 ^ 40/\z.length*n.toNat<=1000000 then .ok (.str (aR z n.toNat)) h else .bad
 |_,_=>.bad
def ze{T:Tb}{X:Cx}:Op T X (binaryOp .Mult) ot:=by
 refine⟨_,Hg,λι h H x y u w E Q S rx ry p=>?_⟩
 unfold ot at p;split at p
 ·split at p
  ·rename_i hz
   obtain⟨rfl,_,hc⟩:=eB rx;rw[bu ry];exact⟨_,_,rfl,rfl,hz.1,hz.2,p.now S (IG hz.2 hc)⟩
  ·exact p.elim
 ·exact p.elim
def fk(n:Nat)(y z:AV)(h:AH):Out AV:=match h[n]? with
 |some (.dct t kvs)=>if dI t y then .ok ((aQ kvs y).getD z) h else .bad
 |_=>.bad
def fo(o k d:SE):SE:=λen h=>(o en h).bind λx h1=>match x with
 |.ref n=>(match h1[n]? with
  |some (.dct _ _)=>(k en h1).bind λy h2=>(d en h2).bind λz h3=>fk n y z h3
  |_=>.bad)
 |_=>.bad
section
variable{T:Tb}{E:St->XK}{X:Cx}{pos apos:Pos}{a b c:Expr}{sa sb sc:SE}
def isD_of{ι:Ix}{h:AH}{H:Hp}{n:Nat}{t:Bool}{kvs:List (AV×AV)}{ad:ZE}(S:Sim T ι h H)(hn:h[n]?=some (.dct t kvs))(hr:ι.refs[n]?=some ad):nP H ad:=by
 obtain⟨ob,e1,r⟩:=S.obj n _ ad hn hr
 cases t with
 |false=>obtain⟨kus,rfl,r⟩:=r;exact .inl ⟨_,.inl e1⟩
 |true=>obtain⟨kus,rfl,r⟩:=r;exact .inr ⟨_,_,.inl e1⟩
def uE (hu:X.A.units+64<cLine) (ha:aF T E X a sa) (hb:aF T E X b sb) (hc:aF T E X c sc) (hbase:‹attributeBase a "get" X.env (eval a X.env)=eval a X.env›)
  (hfew:‹((backTo pos (starEach [b,c] X.env)).all (λx=>!x.1) && (backToKw pos (keywordEach [] X.env)).all (λx=>x.1.isSome) && decide (([b,c]:List Expr).length+([]:List Keyword).length+(if ([]:List Keyword).isEmpty then 0 else 1)<30))=true›)
  (hline:‹(apos.endLine==pos.line)=true›) (htrees:‹backTo pos (starEach [b,c] X.env)=[(false,eval b X.env),(false,eval c X.env)]›):aF T E X (.Call (.Attribute a "get" apos) [b,c] [] pos) (fo sa sb sc):=by
 refine bO (FH (Nz (NQ (by decide:1<=64) _) hu) ha hb hc ⟨hbase,hfew,hline,htrees⟩) λσ H Q q=>?_
 obtain⟨ι,h,en,S,er,q⟩:=q;refine⟨ι,h,en,S,er,q.bind λx h1 ι1 H1 u g1 S1 r1 q1=>?_⟩
 split at q1
 ·rename_i n
  split at q1
  ·rename_i t0 kvs0 hn0
   cases r1 with
   |@ref _ ad hr =>
    refine⟨ad,rfl,isD_of S1 hn0 hr,ι1,h1,en,S1,er.mono g1,q1.bind λy h2 ι2 H2 v g2 S2 r2 q2=>⟨ι2,h2,en,S2,(er.mono g1).mono g2,q2.bind λz h3 ι3 H3 w g3 S3 r3 q3=>?_⟩⟩
    unfold fk at q3;split at q3
    ·rename_i t kvs hn
     split at q3
     ·rename_i hk
      obtain⟨o,dg,alt⟩:=qy S3 hn ((g2.trans g3).ext.at_ hr) (r2.mono g3) hk;refine⟨o,dg,?_⟩
      rcases alt with⟨v1,rfl⟩|⟨v',u',v1,rfl,r4⟩
      ·rw[v1] at q3;exact q3.now S3 r3
      ·rw[v1] at q3;exact q3.now S3 r4
     ·exact q3.elim
    ·exact q3.elim
  ·exact q1.elim
 ·exact q1.elim
end
def zf:Expr->Bool
 |.Starred _ _=>false
 |_=>true
def IH(a:Expr)(es:List Expr)(env:Env)(h:zf a=true):starEach (a::es) env=(false,eval a env)::starEach es env:=by
 cases a<;>first|rfl|cases h
section
variable{T:Tb}{E:St->XK}{X:Cx}{a:Expr}{es:List Expr}{sa:SE}
def iz(ha:aF T E X a sa)(hr:fD T E X es as)(hn:‹zf a=true›):fD T E X (a::es) (ah sa as):=(aj ha hr (IH _ _ _ hn))
end
section
variable{T:Tb}{E:St->XK}{X:Cx}{pos:Pos}{a b:Expr}{sa sb:SE}{sts:List Stmt}{s1:SS}
end
end Sm
namespace L2
open PySem PySem.Spec PyProof.Rows
section
variable{X:Cx}{a b:Expr}{rest:List Expr}{pos:Pos}{ta tb:TE}
def uF(K:ZA)(ta tb:TE):TE:=λσ H Q=>ta σ H λx H1=>∃ k,jc K x H1 k/\if k=true then Q x H1 else tb σ H1 Q
def II(ha:PE X a ta)(hb:PE X (.BoolOp .Or (b::rest) pos) tb):PE X (.BoolOp .Or (a::b::rest) pos) (uF X.K ta tb):=by
 intro pins s σ H Q I h;refine BoolOp_or (thn (ha pins s σ H _ I h) λv s1 Zz=>?_);obtain⟨x,H1,I1,r1,k,tv,q1⟩:=Zz
 refine Oc (xr pins s1 σ H1 x v (λc H'=>if c=true then Q x H' else tb σ H' Q) I1 r1 ⟨k,tv,q1⟩) (λc s2 Zz=>?_) λ_ _ z=>z;obtain⟨H2,I2,q2⟩:=Zz
 cases c with
 |false=>exact hb pins s2 σ H2 Q I2 q2
 |true=>exact⟨x,H2,I2,r1,q2⟩
end
end L2
namespace Sm
open PySem PySem.Spec L2
@[simp] def fP(a b:SE):SE:=λen h=>(a en h).bind λv h1=>match jn v h1 with
 |some k=>if k=true then .ok v h1 else b en h1
 |none=>.bad
section
variable{T:Tb}{E:L2.St->XK}{X:Cx}{pos:Pos}{a b:Expr}{rest:List Expr}{sa sb:SE}
def qG(hK:X.K=T.K)(ha:aF T E X a sa)(hb:aF T E X (.BoolOp .Or (b::rest) pos) sb):aF T E X (.BoolOp .Or (a::b::rest) pos) (fP sa sb) :=(
 bO (II ha hb) λσ H Q=>E6x λι h en S er q=>⟨ι,h,en,S,er,q.bind λx h1 ι1 H1 u g1 S1 r1 q1=>by
  split at q1
  ·rename_i k hk
   refine⟨k,hK▸yy S1 r1 hk,?_⟩
   by_cases hkk:k=true
   ·rw[Nn hkk] at q1 ⊢
    exact q1.now S1 r1
   ·rw[Nr hkk] at q1 ⊢
    exact⟨ι1,h1,en,S1,er.mono g1,q1⟩
  ·exact q1.elim⟩)
end
end Sm
namespace L2
open PySem PySem.Spec
def Room.m{j k:Nat}{A:ZG}(hr:Room k A)(h:‹Nat.ble j k=true›):Room j A:=(hr.mono (Nat.le_of_ble_eq_true h))
end L2
namespace Sm
open PySem PySem.Spec L2
def DK(K:ZA)(x:Str)(st:Stmt):Prop:=∃ f fd,PySem.W.nsIn K mainGlobals x=some (some (.ref f))/\Fun K x x st f fd
def DN(K:ZA)(C:ZE)(m q:Str)(st:Stmt):Prop:=∃ f fd,ij K C m f/\Fun K m q st f fd
def bY(K:ZA)(cls:Nat->Option ZE)(c:Nat)(m q:Str)(st:Stmt)(ps:List Str):Prop:=∃ C f fd,cls c=some C/\Cls K C/\ij K C m f/\Binds K fd ps []/\Fun K m q st f fd
def DI(K:ZA)(cls:Nat->Option ZE)(mg:Str->Option ZC)(c:Nat)(x q:Str)(st:Stmt)(ps:List Str):Prop:=∃ C f fd,cls c=some C/\mg x=some (.ref C)/\Mk K C f/\Binds K fd ps []/\Fun K "__init__" q st f fd
section
variable{P:ZD}{w:ZF}{K:ZA}{mg:Str->Option ZC}{base h:Heap}{T:Tb}{x m q:Str}{st:Stmt}{f C:ZE}{N ps:List Str}{k c:Nat}{b:SS}{cls:Nat->Option ZE}
section
variable{oc:ZC}{od an:Option ZE}{osl:Array (Option ZC)}{kV doc pm cdv ct:ZC}
def dk(a:PySem.W.nsIn K mainGlobals x=some (some (.ref f)))(l:K.lookup f=some ⟨oc,od,.func (PySem.W.fnOf x x (kN st) (iS st) (bK st) .none kV doc pm an cdv ct),osl⟩)
  (c:PySem.W.codeIn K cdv x=true)(k:PySem.W.keepIn K (.ref f)=true):DK K x st:=(⟨f,_,a,xU l c k⟩)
def dn(a:PySem.W.findIn K (.ref C) m=some (some (.ref f)))(i:PySem.W.isFn K (.ref f)=true)(l:K.lookup f=some ⟨oc,od,.func (PySem.W.fnOf m q (kN st) (iS st) (bK st) .none kV doc pm an cdv ct),osl⟩)
  (c:PySem.W.codeIn K cdv q=true)(k:PySem.W.keepIn K (.ref f)=true):DN K C m q st:=(⟨f,_,⟨a,i,k⟩,xU l c k⟩)
end
abbrev BA(x q:Str)(st:Stmt)(us:List ZC)(r:List (Str×ZC)):Prop:=∀ (kV doc pm:ZC) (an:Option ZE) (cdv ct:ZC),bindArgs (PySem.W.fnOf x q (kN st) (iS st) (bK st) .none kV doc pm an cdv ct) ⟨us,[]⟩=pure r
def BL(x q:Str)(st:Stmt)(ps:List Str):Prop:=∀ (us:List ZC),us.length=ps.length->BA x q st us (ps.zip us)
def fq{p1:Str}(h:∀ a,BA x q st [a] [(p1,a)]:=by exactλ_ _ _ _ _ _ _=>rfl):BL x q st [p1]:=(λus e=>by obtain⟨_,rfl⟩:=IC e;exact h _)
def cQ{p1 p2:Str}(h:∀ a b,BA x q st [a,b] [(p1,a),(p2,b)]:=by exactλ_ _ _ _ _ _ _ _=>rfl):BL x q st [p1,p2]:=(λus e=>by obtain⟨_,_,rfl⟩:=ID e;exact h _ _)
def dO{p1 p2 p3:Str}(h:∀ a b c,BA x q st [a,b,c] [(p1,a),(p2,b),(p3,c)]:=by exactλ_ _ _ _ _ _ _ _ _=>rfl):BL x q st [p1,p2,p3]:=(λus e=>by obtain⟨_,_,_,rfl⟩:=IE e;exact h _ _ _)
def ou{p1 p2 p3 p4:Str}(h:∀ a b c d,BA x q st [a,b,c,d] [(p1,a),(p2,b),(p3,c),(p4,d)]:=by exactλ_ _ _ _ _ _ _ _ _ _=>rfl):BL x q st [p1,p2,p3,p4]:=(λus e=>by obtain⟨_,_,_,_,rfl⟩:=IF e;exact h _ _ _ _)
def dg(X:K.In h)(G:h.Ns mainGlobals mg)(d:DK K x st)(hb:BL x x st ps):DG K mg x st ps:=by
 obtain⟨f,fd,a,F⟩:=d;exact⟨f,fd,Om X G a,F.kp,F.binds λ_ _ _ _ _ _ us hl=>hb us hl _ _ _ _ _ _,F⟩
def dm(hc:cls c=some C)(k:Cls K C)(d:DN K C m q st)(hb:BL m q st ps):bY K cls c m q st ps:=by
 obtain⟨f,fd,M,F⟩:=d;exact⟨C,f,fd,hc,k,M,F.binds λ_ _ _ _ _ _ us hl=>hb us hl _ _ _ _ _ _,F⟩
def di (hc:cls c=some C) (hx:mg x=some (.ref C)) (mk:PySem.W.makesIn K C=true) (kc:PySem.W.keepIn K (.ref C)=true) (d:DN K C "__init__" q st) (hb:BL "__init__" q st ps):DI K cls mg c x q st ps:=by
 obtain⟨f,fd,M,F⟩:=d;exact⟨C,f,fd,hc,hx,⟨mk,M.at_,M.fn,kc⟩,F.binds λ_ _ _ _ _ _ us hl=>hb us hl _ _ _ _ _ _,F⟩
def uG{fa:ZE}{p:Str}(X:K.In h)(G:h.Ns mainGlobals mg)(hfa:mg x=some (.ref fa))(d:DK K x st)(hb:BL x x st [p]):∃ fd:FuncData,(∀ (s:ZB) (v:ZC),BindsTo s fd ⟨[v],[]⟩ [(p,v)])/\Fun K x x st fa fd:=by
 obtain⟨f,fd,a,F⟩:=d;have e:=hfa.symm.trans (Om X G a)
 cases e
 refine⟨fd,λs v=>?_,F⟩
 obtain⟨oc,od,kV,doc,pm,an,cdv,ct,osl,rfl,lk,hcd⟩:=F.ex;exact .of_eq (hb [v] rfl _ _ _ _ _ _)
def gb{sc:Scope}(h1:‹sc.kind=.function›)(h2:‹sc.isCoroutine=false›)(h3:‹sc.isGenerator=false›)(h4:N.Nodup:=by decide +kernel)(h5:‹N.take ps.length=ps›)
  (h6:∀ x∈ps,sc.names.lookup x=some .local\/sc.names.lookup x=some .cell:=by decide +kernel)(h7:∀ y∈sc.names,y.2 ≠ .free:=by decide +kernel):aE N ps sc:=(⟨h1,h2,h3,h4,h5,h6,h7⟩)
abbrev lg(P:ZD)(w:ZF)(mg:Str->Option ZC)(base:Heap)(T:Tb)(q:Str)(st:Stmt)(f:ZE)(N:List Str)(k:Nat)(b:SS):Prop :=
 ∀ {cdv:ZC} {A:ZG} {outer:List Env} {s:ZB} {H:Hp} {E:XK},Room k (A.deeper (PyProof.Rows.envOfC q (bK st) s.heap.objs.size f cdv))->CA T (λ_=>E) (bQ (cL P w) P w T.K mg base N q (bK st) f cdv A outer s H E) ->
  (A.deeper (PyProof.Rows.envOfC q (bK st) s.heap.objs.size f cdv)).units+64<cLine->N.Nodup->cF T (λ_=>E) (bQ (cL P w) P w T.K mg base N q (bK st) f cdv A outer s H E) (iS st) b
def gf(d:DG T.K mg x st ps)(S:aE N ps (bK st))(hb:∀ {f},lg P w mg base T x st f N k b):GF P w T mg base (k+1) x (aw ps.length N.length b):=by
 obtain⟨f,fd,h1,h2,h3,h4⟩:=d;exact⟨f,fd,_,h1,h2,h3,qu h4 rfl S λcdv A outer s H E hr C=>hb hr C (jh hr) S.nd⟩
def gm(d:bY T.K T.cls c m q st ps)(S:aE N ps (bK st))(no:m∉T.fields c)(hb:∀ {f},lg P w mg base T q st f N k b):GM P w T mg base (k+1) c m (aw ps.length N.length b):=by
 obtain⟨C,f,fd,h0,hc,h1,h3,h4⟩:=d;exact⟨⟨C,f,fd,_,h0,hc,h1,h3,qu h4 rfl S λcdv A outer s H E hr C=>hb hr C (jh hr) S.nd⟩,no⟩
def gk(d:DI T.K T.cls mg c x q st ps)(S:aE N ps (bK st))(hb:∀ {f},lg P w mg base T q st f N k b):GK P w T mg base (k+1) c x (aw ps.length N.length b):=by
 obtain⟨C,f,fd,h0,h1,h2,h3,h4⟩:=d;exact⟨C,f,fd,_,h0,h1,h2,h3,qu h4 rfl S λcdv A outer s H E hr C=>hb hr C (jh hr) S.nd⟩
def gl{f:ZE}{fd:FuncData}(h4:Fun T.K x x st f fd)(S:aE N ps (bK st))(hb:lg P w mg base T x st f N k b):FnOk P w T.K mg base (cL P w) (k+1) f fd ps (iy T (aw ps.length N.length b)) :=(
 qu h4 rfl S λcdv A outer s H E hr C=>hb hr C (jh hr) S.nd)
def XI(K:ZA)(X:ZE):Prop:=PySem.W.excIn K X [.type "ValueError",.type "Exception",.type "BaseException",.type "object"] "ValueError.__new__"=true
def xi {X:ZE} (h:PySem.W.excIn K X [.type "ValueError",.type "Exception",.type "BaseException",.type "object"] "ValueError.__new__"=true):XI K X:=(h)
def gx{X:ZE}{n:Nat}{g:Heap}(KB:K.In g)(KX:K.In h)(G:h.Ns mainGlobals mg)(hc:T.exc n=some X)(e:PySem.W.nsIn K mainGlobals x=some (some (.ref X)))(hx:XI K X):GX T mg g n x:=(⟨X,hc,GS KB (Om KX G e) hx⟩)
def KO(K:ZA)(a b:ZE)(v:Bool):Prop:=PySem.W.kitOne K (.ref a) (.ref b)=some v
def ko{a d:ZE}{v:Bool}(h:PySem.W.kitOne K (.ref a) (.ref d)=some v):KO K a d v:=(h)
def XO(K:ZA)(a b:ZE):Prop:=PySem.W.exmOne K (.ref a) (.ref b)=some true
def xo{a d:ZE}(h:PySem.W.exmOne K (.ref a) (.ref d)=some true):XO K a d:=(h)
def NA(K:ZA)(x:Str)(v:Option ZC):Prop:=PySem.W.nsIn K mainGlobals x=some v
def na{v:Option ZC}(h:PySem.W.nsIn K mainGlobals x=some v):NA K x v:=(h)
def FA(K:ZA)(C:ZE)(x:Str):Prop:=PySem.W.findIn K (.ref C) x=some none
def fatt(h:PySem.W.findIn K (.ref C) x=some none):FA K C x:=(h)
end
def eE(st:Stmt):List Str:=((bK st).names.filter λy=>match y.2 with|.local=>true|.cell=>true|_=>false).map (·.1)
section
variable{P:ZD}{w:ZF}{K:ZA}{cls exc:Nat->Option ZE}{fl:Nat->List Str}{n1:∀ c,(fl c).Nodup}{n2:∀ c,(fl c).length<=500}{mg:Str->Option ZC}{base h:Heap}{x m q:Str}{st:Stmt}{ps:List Str}{k c:Nat}{b:SS}
def gF(d:DG K mg x st ps)(hb:∀ {f},lg P w mg base ⟨K,cls,exc,fl,n1,n2⟩ x st f (eE st) k b)(S:aE (eE st) ps (bK st):=by exact gb):GF P w ⟨K,cls,exc,fl,n1,n2⟩ mg base (k+1) x (aw ps.length (eE st).length b):=(gf d S hb)
def gM(d:bY K cls c m q st ps)(hb:∀ {f},lg P w mg base ⟨K,cls,exc,fl,n1,n2⟩ q st f (eE st) k b)(no:decide (m∈fl c)=false:=by kernel_rfl)(S:aE (eE st) ps (bK st):=by exact gb):GM P w ⟨K,cls,exc,fl,n1,n2⟩ mg base (k+1) c m (aw ps.length (eE st).length b):=(gm d S (of_decide_eq_false no) hb)
def gK(d:DI K cls mg c x q st ps)(hb:∀ {f},lg P w mg base ⟨K,cls,exc,fl,n1,n2⟩ q st f (eE st) k b)(S:aE (eE st) ps (bK st):=by exact gb):GK P w ⟨K,cls,exc,fl,n1,n2⟩ mg base (k+1) c x (aw ps.length (eE st).length b):=(gk d S hb)
end
section
variable{X:Cx}{P:ZD}{w:ZF}{K:ZA}{mg:Str->Option ZC}{base:Heap}{N:List Str}{q:Str}{sc scope:Scope}{f:ZE}{cd:ZC}{A:ZG}{outer:List Env}{s:ZB}{H:Hp}{E:XK}{CX:fB}{ns:List Str}{jf:List (Nat×Str)}{xe:ZC->ZB->Prop}
def lj(h:uA N sc ns jf scope=true):CompOk (bQ CX P w K mg base N q sc f cd A outer s H E) ns jf scope:=(zb rfl (λ_=>rfl) h)
end
end Sm
namespace L2
open PySem PySem.Spec PyProof.Rows
def uH{P:ZD}{w:ZF}{kvs:List (aI×V)}{vs:List (aI×ZC)}(r:KV kvs vs):∀ {ns:List Str} {us:List ZC},kvs.map (·.1)=ns.map Sum.inr->us.length=vs.length->(∀ (i:Nat) (v:ZC),us[i]?=some v->∃ k x,vs[i]?=some (k,x)/\(fz P w).is k v=true)->StrsAre us ns:=by
 unfold KV at r;induction r with
 |nil=>
  intro ns us e l _;cases ns with
  |nil=>cases us with|nil=>exact .nil|cons _ _=>simp at l
  |cons _ _=>simp at e
 |@cons p q kvs vs r rs ih=>
  intro ns us e l f;cases ns with
  |nil=>simp at e
  |cons n ns=>
   cases us with
   |nil=>simp at l
   |cons u us=>
    simp only[NW,List.cons.injEq] at e
    obtain⟨k,x,e1,e2⟩:=f 0 u rfl;have e3:q=(k,x):=by simpa using e1
    have ek:k=Sum.inr n:=by rw[<- e.1,r.1,e3]
    rw[ek] at e2;rw[CH] at e2;rcases iP (k:=Sum.inr n) (v:=u) e2 with⟨i,t,a1,a2⟩|⟨y,t,a1,a2⟩
    ·cases a1
    ·injection a1 with a1
     subst a1 a2
     exact .cons _ _ (ih e.2 (by simpa using l) λi v h=>by simpa using f (i+1) v (by simpa using h))
theorem uI:∀ {vs:List ZC} {ns:List Str},StrsAre vs ns->Vals (ns.map V.str) vs
 |_,_,.nil=>.nil
 |_,_,.cons y t h=>.cons ⟨t,rfl⟩ (uI h)
theorem StrsAre.len:∀ {vs:List ZC} {ns:List Str},StrsAre vs ns->vs.length=ns.length
 |_,_,.nil=>rfl
 |_,_,.cons y t h=>congrArg Nat.succ (StrsAre.len h)
def IJ{X:Cx}(hc:X.calm=true):CallR X (.builtin "sorted") (λxs H Q=>∃ (a:ZE) (kvs:List (aI×V)) (ns:List Str),xs=[.ref a]/\H a=some (.dK kvs)/\kvs.map (·.1)=ns.map Sum.inr/\ns.length<64/\∀ (p:ZE) (ns':List Str),H p=none->ns'.Perm ns->sortedS ns'=true->Q (.ref p) (upd H p (.lst (ns'.map V.str)))):=by
 intro pins s σ H xs us Q I rv h;obtain⟨a,kvs,ns,rfl,ha,hn,h64,q⟩:=h;obtain⟨u,rfl,ru⟩:=Vals.one rv;obtain rfl:u=Value.ref a:=ru;obtain⟨z,hd,vs,rel,dd⟩:=dk_of I.hok ha;obtain⟨ep,da⟩:=dd.dictAt;have lv:vs.length=kvs.length:=(Paired.length rel).symm;refine Qt kind_sorted plain_sorted entry_sorted (args_sorted1 _) ?_
 unfold Builtin.«sorted»
 refine Nj (m:=checkCount "sorted" 1 1 _) (Nu (Nj (RK (PySem.W.kdl_dict (knd:=fz X.prog X.w) (kvs:=vs) (ep:=ep) hd) (I.ok.hd hc) da (by rw[lv];exact z) λh' tk acc hk hacc=>?_)))
 have hl:acc.toList.length=vs.length:=by rw[OV];exact hacc.1
 have hI:StrsAre acc.toList ns:=uH rel hn hl λi v e=>hacc.2 i v (by rw[<- PX];exact e)
 have hz:acc.toList.length<=sizeLine:=by rw[hl,lv];exact z
 refine Nj (wpAny_newList ?_ hz)
 have hoL:(h'.push (seqObj "list" acc.toList.toArray 0)).get? h'.objs.size=some (seqObj "list" acc.toList.toArray 0):=NC _ rfl;refine Nj (Oi (OJ slot_list_sort ⟨_,hoL,rfl⟩ entry_list_sort (list_sort_treeK (s:={ s with heap:=h'.push (seqObj "list" acc.toList.toArray 0),toks:=tk }) strKind_oneLt hoL hI.keysOf (λv₁ v₂ rest e=>keyKind_strs (by rw[<- e];exact hI)) (by rw[StrsAre.len hI];exact h64) λst' hp hs=>⟨_,rfl,Nu ⟨_,rfl,?_⟩⟩) (args_list_sort _)))
 obtain⟨ns',o1,o2,o3⟩:=sorted_out_str hI hp hs;have I1:Inv X pins σ H { s with heap:=h',toks:=tk }:=I.kept (t':=tk) hk;obtain⟨e,he⟩:=sortedHeap_at (out:=(arrOf st').map (·.2)) hoL;have l2:ns'.length=ns.length:=o2.length_eq;have l3:ns.length=kvs.length:=by have:=congrArg List.length hn;simpa using this.symm
 refine⟨.ref h'.objs.size,_,I1.laid (a:=h'.objs.size) (t':=tk) (o:=.lst (ns'.map V.str)) (λb o hb=>?_) (Nk _) ⟨?_,((arrOf st').map (·.2)).toList,e,uI o1,?_⟩,rfl,q _ ns' (I1.hok.fresh (Nk _)) o2 o3⟩
 ·have lt:b<h'.objs.size:=Ny hb
  rw[sortedHeap_old (NX lt) (by rw[size_push'];exact PK lt)];exact Nq _ hb
 ·rw[Nw,l2,l3];exact z
 ·rw[he]
end L2
namespace Sm
open PySem PySem.Spec L2 PyProof.Rows
def gL(a b:Str):Prop:=ltCps b.cps.toList a.cps.toList=false
def gO(x:Str):List Str->List Str
 |[]=>[x]
 |y::r=>if ltCps y.cps.toList x.cps.toList then y::gO x r else x::y::r
def iA:List Str->List Str
 |[]=>[]
 |x::r=>gO x (iA r)
def leS_le{a b:Str}:gL a b ↔ a.cps.toList<=b.cps.toList:=by
 unfold gL;rw[ltCps_eq,PF];exact Iff.rfl
theorem uJ(x:Str):∀ l,(gO x l).Perm (x::l)
 |[]=>.refl _
 |y::r=>by
  unfold gO;split
  ·exact((uJ x r).cons y).trans (.swap ..)
  ·exact .refl _
theorem iB:∀ l,(iA l).Perm l
 |[]=>.refl _
 |x::r=>(uJ x (iA r)).trans ((iB r).cons x)
theorem zg(x:Str):∀ {l:List Str},l.Pairwise gL->(gO x l).Pairwise gL
 |[],_=>QM ..
 |y::r,h=>by
  obtain⟨h1,h2⟩:=OI.mp h;unfold gO;split
  ·rename_i q
   refine OI.mpr ⟨λz hz=>?_,zg x h2⟩
   rcases ND.mp ((uJ x r).mem_iff.mp hz) with rfl|hz
   ·rw[leS_le]
    rw[ltCps_eq,Oz] at q;exact List.le_of_lt q
   ·exact h1 z hz
  ·rename_i q
   have q':gL x y:=by simpa[gL] using q
   refine OI.mpr ⟨λz hz=>?_,h⟩
   rcases ND.mp hz with rfl|hz
   ·exact q'
   ·exact leS_le.mpr (List.le_trans (leS_le.mp q') (leS_le.mp (h1 z hz)))
theorem uK:∀ l,(iA l).Pairwise gL
 |[]=>.nil
 |x::r=>zg x (uK r)
theorem uL:∀ {l m:List Str},l.Perm m->l.Pairwise gL->m.Pairwise gL->l=m
 |[],m,p,_,_=>(List.nil_perm.mp p).symm
 |x::l,[],p,_,_=>by simp at p
 |x::l,y::m,p,h,g=>by
  obtain⟨h1,h2⟩:=OI.mp h;obtain⟨g1,g2⟩:=OI.mp g;have e:x=y:=by
   have a:x∈y::m:=p.mem_iff.mp (Ol ..);have b:y∈x::l:=p.mem_iff.mpr (Ol ..);rcases ND.mp a with a|a
   ·exact a
   ·rcases ND.mp b with b|b
    ·exact b.symm
    ·have:x.cps.toList=y.cps.toList:=List.le_antisymm (leS_le.mp (h1 y b)) (leS_le.mp (g1 x a))
     cases x;cases y
     congr 1
     exact QJ.mp this
  subst e;rw[uL (List.Perm.cons_inv p) h2 g2]
theorem zh:∀ (p:Str) (l:List Str),PyProof.Rows.risingS p l=true->(p::l).Pairwise gL
 |p,[],_=>QM ..
 |p,x::r,h=>by
  have h':(!ltCps x.cps.toList p.cps.toList && PyProof.Rows.risingS x r)=true:=h;rw[N7] at h';have t:=zh x r h'.2
  have a:gL p x:=by simpa[gL] using h'.1
  refine OI.mpr ⟨λz hz=>?_,t⟩
  rcases ND.mp hz with rfl|hz
  ·exact a
  ·exact leS_le.mpr (List.le_trans (leS_le.mp a) (leS_le.mp ((OI.mp t).1 z hz)))
theorem zi:∀ (l:List Str),PyProof.Rows.sortedS l=true->l.Pairwise gL
 |[],_=>.nil
 |x::r,h=>zh x r h
def lq:List AV->Option (List Str)
 |[]=>some []
 |.str x::r=>(lq r).map (x :: ·)
 |_::_=>none
theorem uM:∀ {l:List AV} {is:List Str},lq l=some is->l=is.map AV.str
 |[],is,e=>by cases e;rfl
 |.str i::r,is,e=>by
  unfold lq at e
  cases q:lq r with
  |none=>rw[q] at e;cases e
  |some js=>rw[q] at e;cases e;rw[uM q];rfl
 |.non::_,_,e|.bl _::_,_,e|.int _::_,_,e|.tup _::_,_,e|.fl _::_,_,e|.ref _::_,_,e|.exc _::_,_,e=>nomatch e
def mK(v:AV)(h:AH):Option (List Str):=match v with
 |.ref n=>(match h[n]? with
  |some (.dct false kvs)=>lq (kvs.map (·.1))
  |_=>none)
 |_=>none
def lA:Fn:=λargs h=>match args with
 |[v]=>(match mK v h with
  |some ns=>if ns.length<64/\∀ x∈ns,x.length<=1000/\x.cps.all (· < 0x110000)=true then .ok (.fl ((iA ns).map AV.str)) h else .bad
  |none=>.bad)
 |_=>.bad
def lB:SS:=λ_ _=>.bad
def ow(o k:SE):SE:=λen h=>(o en h).bind λx h1=>match x with
 |.ref n=>(match h1[n]? with
  |some (.dct _ _)=>(k en h1).bind λy h2=>fk n y .non h2
  |_=>.bad)
 |_=>.bad
@[simp] def mL:FM:=λx vs h=>match x,vs with
 |.ref n,[]=>match h[n]? with
  |some (.lst _)=>.ok .non (h.set n (.lst []))
  |_=>.bad
 |_,_=>.bad
section
variable{T:Tb}{E:L2.St->XK}{X:Cx}{pos apos:Pos}{a b c:Expr}{sa sb sc:SE}{st:Stmt}
def IK (hu:X.A.units+64<cLine) (ha:aF T E X a sa) (hb:aF T E X b sb) (hbase:‹attributeBase a "get" X.env (eval a X.env)=eval a X.env›)
  (hfew:‹((backTo pos (starEach [b] X.env)).all (λx=>!x.1) && (backToKw pos (keywordEach [] X.env)).all (λx=>x.1.isSome) && decide (([b]:List Expr).length+([]:List Keyword).length+(if ([]:List Keyword).isEmpty then 0 else 1)<30))=true›)
  (hline:‹(apos.endLine==pos.line)=true›) (htrees:‹backTo pos (starEach [b] X.env)=[(false,eval b X.env)]›):aF T E X (.Call (.Attribute a "get" apos) [b] [] pos) (ow sa sb):=by
 refine bO (FG (Nz (NQ (by decide:1<=64) _) hu) ha hb ⟨hbase,hfew,hline,htrees⟩) λσ H Q q=>?_
 obtain⟨ι,h,en,S,er,q⟩:=q;refine⟨ι,h,en,S,er,q.bind λx h1 ι1 H1 u g1 S1 r1 q1=>?_⟩
 split at q1
 ·rename_i n
  split at q1
  ·rename_i t0 kvs0 hn0
   cases r1 with
   |@ref _ ad hr =>
    refine⟨ad,rfl,isD_of S1 hn0 hr,ι1,h1,en,S1,er.mono g1,q1.bind λy h2 ι2 H2 v g2 S2 r2 q2=>?_⟩
    unfold fk at q2;split at q2
    ·rename_i t kvs hn
     split at q2
     ·rename_i hk
      obtain⟨o,dg,alt⟩:=qy S2 hn (g2.ext.at_ hr) r2 hk;refine⟨o,dg,?_⟩
      rcases alt with⟨v1,rfl⟩|⟨v',u',v1,rfl,r4⟩
      ·rw[v1] at q2;exact q2.now S2 .non
      ·rw[v1] at q2;exact q2.now S2 r4
     ·exact q2.elim
    ·exact q2.elim
  ·exact q1.elim
 ·exact q1.elim
theorem uN{ι:Ix}{H:Hp}:∀ {l:List (AV×AV)} {m:List (aI×V)} {is:List Str},Paired (λ(p:AV×AV) (q:aI×V)=>p.1=kA q.1/\RV T ι H p.2 q.2) l m->l.map (·.1)=is.map AV.str->m.map (·.1)=is.map Sum.inr
 |_,_,[],.nil,_=>rfl
 |_,_,_::_,.nil,e=>by simp at e
 |_,_,[],.cons _ _,e=>by simp at e
 |_,_,i::is,.cons (a:=p) (b:=q) hh t,e=>by
  rw[NW,NW] at e ⊢;injection e with e1 e2
  rw[uN t e2];have e3:kA q.1=.str i:=by rw[<- hh.1];exact e1
  obtain⟨k,v⟩:=q
  cases k with
  |inr j=>injection e3 with e3;subst e3;rfl
  |inl x=>cases e3
theorem uO{ι:Ix}{H:Hp}:∀ (ns:List Str),(∀ x∈ns,x.length<=sizeLine/\x.cps.all (· < 0x110000)=true)->RVs T ι H (ns.map AV.str) (ns.map V.str)
 |[],_=>.nil
 |n::ns,h=>.cons (.str (h n (Ol ..)).1 (h n (Ol ..)).2) (uO ns λx hx=>h x (NZ _ hx))
def IL(hc:‹X.calm=true›):∃ r,CallR X (.builtin "sorted") r/\hV T lA r:=by
 refine⟨_,IJ hc,λι h H xs us E Q S r q=>?_⟩
 unfold lA at q;split at q
 ·split at q
  ·rename_i ns hn
   split at q
   case isFalse=>exact q.elim
   rename_i hz;unfold mK at hn;split at hn
   ·rename_i n
    split at hn
    ·rename_i kvs hk
     cases r with
     |cons r r' =>
      cases r'
      cases r with
      |@ref _ ad hr =>
       obtain⟨ob,e1,kus,rfl,pr⟩:=S.obj n _ ad hk hr;refine⟨ad,kus,ns,rfl,e1,uN pr (uM hn),hz.1,λp ns' hp pm so=>?_⟩
       have:ns'=iA ns:=uL (pm.trans (iB ns).symm) (zi _ so) (uK ns)
       subst this;exact q ι _ _ (S.growNew hp) (S.new hp) (.fl (S.fresh hp) (.of dH) (uO _ λx hx=>⟨Np (hz.2 x ((iB ns).mem_iff.mp hx)).1 'd',(hz.2 x ((iB ns).mem_iff.mp hx)).2⟩))
    ·cases hn
   ·cases hn
  ·exact q.elim
 ·exact q.elim
def zj:∃ r,iR X "list.clear" r/\mG T mL r:=by
 refine⟨_,E9,λι h H x xs u us E Q S rx rs q=>?_⟩
 unfold mL at q;split at q
 ·rename_i n
  split at q
  ·rename_i ys hn
   cases rx with
   |@ref _ ad hr =>
    cases rs
    obtain⟨o,e1,ws,rfl,rw_⟩:=S.obj n _ ad hn hr;exact⟨ad,ws,rfl,rfl,e1,q ι _ _ (S.growSet (u:=.lst []) hr) (S.set hr ⟨_,rfl,.nil⟩) .non⟩
  ·exact q.elim
 ·exact q.elim
end
end Sm
namespace L2
open PySem PySem.Spec PyProof.Rows
def IM{X:Cx}:CallR X (.type "dict") (λxs H Q=>∃ (a:ZE) (kvs:List (aI×V)),xs=[.ref a]/\H a=some (.dK kvs)/\∀ (p:ZE),H p=none->Q (.ref p) (upd H p (.dK kvs))):=by
 intro pins s σ H xs us Q I rv h;obtain⟨a,kvs,rfl,ha,q⟩:=h;obtain⟨u,rfl,ru⟩:=Vals.one rv;obtain rfl:u=Value.ref a:=ru;obtain⟨z,hd,vs,rel,dd⟩:=dk_of I.hok ha;have lv:vs.length=kvs.length:=(Paired.length rel).symm;refine PySem.kt_call_dict hd dd (by rw[lv];exact z) λh' d' sb=>?_
 have ks:∀ b o,s.heap.get? b=some o->h'.get? b=some o:=λb o hb=>(sb.2 b (λe=>absurd (Ny hb) (by rw[e];exact OK _))).trans (Nq _ hb)
 have hs:(s.heap.objs.size == sysModules)=false:=beq_eq_false_iff_ne.mpr (Ne.symm (NX I.big));exact⟨.ref s.heap.objs.size,_,I.laid (a:=s.heap.objs.size) (t':=s.toks) (o:=.dK kvs) ks (Nk _) ⟨z,hs,vs,rel,d'⟩,rfl,q _ (I.hok.fresh (Nk _))⟩
end L2
namespace Sm
open PySem PySem.Spec L2 PyProof.Rows
def zk:bootBuiltins "dict"=some (.type "dict"):=by decide +kernel
def j3:Fn:=λargs h=>match args with
 |[.ref n]=>(match h[n]? with
  |some (.dct false kvs)=>.ok (.ref h.length) (h++[.dct false kvs])
  |_=>.bad)
 |_=>.bad
def zm{T:Tb}{X:Cx}:∃ r,CallR X (.type "dict") r/\hV T j3 r:=by
 refine⟨_,IM,λι h H xs us E Q S r q=>?_⟩
 unfold j3 at q;split at q
 ·rename_i n
  split at q
  ·rename_i kvs hn
   cases r with
   |cons r r' =>
    cases r'
    cases r with
    |@ref _ ad hr =>
     obtain⟨ob,e1,kus,rfl,pr⟩:=S.obj n _ ad hn hr;exact⟨ad,kus,rfl,e1,λp hp=>q _ _ _ (S.growAdd hp) (S.add hp ⟨_,rfl,Paired.mapP pr λ_ _ ⟨a,b⟩=>⟨a,b.mono (S.growAdd hp)⟩⟩) (.ref S.addAt)⟩
  ·exact q.elim
 ·exact q.elim
end Sm
namespace L2
open PySem PySem.Spec PyProof.Rows
section
variable{P:ZD}{w:ZF}{A:ZG}{E:ZC->ZB->Prop}{s:ZB}
def IP (d:ZE) (hd:(d == sysModules)=false) {Q:ZC->ZB->Prop} (ty:s.TypeIs (.ref d) "dict")
  (q:Q (.ref s.heap.objs.size) { s with heap:=s.heap.push { cls:=.type "dict_keys",data:=.fields #[.ref d] } }):wpAny (model P w) A (call (.builtin "dict.keys") [.ref d]) Q E s:=by
 refine OJ F.slot_dict_keys ty F.entry_dict_keys (Nj ?_) (F.args_dict_keys_1 _)
 unfold Builtin.Dict.noArgs;refine Nj (PZ ty (show wpAny _ _ (pure d) _ _ s from Nu (show wpAny _ _ (Builtin.Dict.showsAll d >>= _) _ _ s from ?_)))
 unfold Builtin.Dict.showsAll;rw[Nr (by rw[hd];exact NM)];exact Nj (Nu (Nj (OS (Nu ⟨_,rfl,q⟩))))
end
def qH(p a:ZE):HO:=.ext λh=>PySem.W.KdlKeysView h p a
def IQ{X:Cx}:iR X "dict.keys" (λx xs H Q=>∃ a kvs,x=.ref a/\xs=[]/\H a=some (.dK kvs)/\∀ p,H p=none->Q (.ref p) (upd H p (qH p a))):=by
 intro pins s σ H x xs v us Q I rx r h;obtain⟨a,kvs,rfl,rfl,ha,q⟩:=h
 cases r
 cases rx
 obtain⟨z,hd,vs,rel,dd⟩:=dk_of I.hok ha;refine IP a hd dd.typeIs ⟨.ref s.heap.objs.size,_,I.laid (a:=s.heap.objs.size) (o:=qH s.heap.objs.size a) (t':=s.toks) (λ_ _ z=>Nq _ z) (Nk _) ⟨⟨_,NC _ rfl,rfl,rfl⟩,⟨_,NC _ rfl⟩,λh1 h2 st k=>st.imp λo e=>⟨k o e.1,e.2⟩⟩,rfl,q _ (I.hok.fresh (Nk _))⟩
def IS{X:Cx}(hc:X.calm=true):CallR X (.builtin "sorted") (λxs H Q=>∃ (v a:ZE) (kvs:List (aI×V)) (ns:List Str),xs=[.ref v]/\H v=some (qH v a)/\H a=some (.dK kvs)/\kvs.map (·.1)=ns.map Sum.inr/\ns.length<64/\∀ (p:ZE) (ns':List Str),H p=none->ns'.Perm ns->sortedS ns'=true->Q (.ref p) (upd H p (.lst (ns'.map V.str)))):=by
 intro pins s σ H xs us Q I rv h;obtain⟨v,a,kvs,ns,rfl,hv,ha,hn,h64,q⟩:=h;obtain⟨u,rfl,ru⟩:=Vals.one rv;obtain rfl:u=Value.ref v:=ru;obtain⟨vw,_⟩:=I.hok v _ hv;obtain⟨z,hd,vs,rel,dd⟩:=dk_of I.hok ha;obtain⟨ep,da⟩:=dd.dictAt;have lv:vs.length=kvs.length:=(Paired.length rel).symm;refine Qt kind_sorted plain_sorted entry_sorted (args_sorted1 _) ?_
 unfold Builtin.«sorted»
 refine Nj (m:=checkCount "sorted" 1 1 _) (Nu (Nj (RK (PySem.W.kdl_keys (knd:=fz X.prog X.w) (kvs:=vs) (ep:=ep) (r:=v) (d:=a)) (I.ok.hd hc) ⟨vw,da⟩ (by rw[lv];exact z) λh' tk acc hk hacc=>?_)))
 have hl:acc.toList.length=vs.length:=by rw[OV];exact hacc.1
 have hI:StrsAre acc.toList ns:=uH rel hn hl λi v e=>hacc.2 i v (by rw[<- PX];exact e)
 have hz:acc.toList.length<=sizeLine:=by rw[hl,lv];exact z
 refine Nj (wpAny_newList ?_ hz)
 have hoL:(h'.push (seqObj "list" acc.toList.toArray 0)).get? h'.objs.size=some (seqObj "list" acc.toList.toArray 0):=NC _ rfl;refine Nj (Oi (OJ slot_list_sort ⟨_,hoL,rfl⟩ entry_list_sort (list_sort_treeK (s:={ s with heap:=h'.push (seqObj "list" acc.toList.toArray 0),toks:=tk }) strKind_oneLt hoL hI.keysOf (λv₁ v₂ rest e=>keyKind_strs (by rw[<- e];exact hI)) (by rw[StrsAre.len hI];exact h64) λst' hp hs=>⟨_,rfl,Nu ⟨_,rfl,?_⟩⟩) (args_list_sort _)))
 obtain⟨ns',o1,o2,o3⟩:=sorted_out_str hI hp hs;have I1:Inv X pins σ H { s with heap:=h',toks:=tk }:=I.kept (t':=tk) hk;obtain⟨e,he⟩:=sortedHeap_at (out:=(arrOf st').map (·.2)) hoL;have l2:ns'.length=ns.length:=o2.length_eq;have l3:ns.length=kvs.length:=by have:=congrArg List.length hn;simpa using this.symm
 refine⟨.ref h'.objs.size,_,I1.laid (a:=h'.objs.size) (t':=tk) (o:=.lst (ns'.map V.str)) (λb o hb=>?_) (Nk _) ⟨?_,((arrOf st').map (·.2)).toList,e,uI o1,?_⟩,rfl,q _ ns' (I1.hok.fresh (Nk _)) o2 o3⟩
 ·have lt:b<h'.objs.size:=Ny hb
  rw[sortedHeap_old (NX lt) (by rw[size_push'];exact PK lt)];exact Nq _ hb
 ·rw[Nw,l2,l3];exact z
 ·rw[he]
end L2
namespace Sm
open PySem PySem.Spec L2 PyProof.Rows
def qI(a:SE):SE:=λen h=>(a en h).bind λv h1=>lA [v] h1
section
variable{T:Tb}{E:L2.St->XK}{X:Cx}{p pos apos cpos:Pos}{a:Expr}{sa:SE}
def IT (hc:X.calm=true) (hg:Gl X "sorted") (hm:X.mg "sorted"=none) (hb:bootBuiltins "sorted"=some (.builtin "sorted")) (ha:aF T E X a sa) (hbase:‹attributeBase a "keys" X.env (eval a X.env)=eval a X.env›) (hline:‹(apos.endLine==cpos.line)=true›)
  (he:‹starEach [.Call (.Attribute a "keys" apos) [] [] cpos] X.env=[(false,eval (.Call (.Attribute a "keys" apos) [] [] cpos) X.env)]›):aF T E X (.Call (.Name "sorted" p) [.Call (.Attribute a "keys" apos) [] [] cpos] [] pos) (qI sa):=by
 refine bO (pU (IS hc) hg hm hb (jV (xM O8 PySem.F.slot_dict_keys PySem.F.type_dict_keys IQ ha hbase hline) nJ he) (he:=he)) λσ H Q=>E6x λι h en S er q=>⟨ι,h,en,S,er,q.bind λx h1 ι1 H1 u g1 S1 r1 q1=>?_⟩
 unfold lA at q1;dsimp only at q1
 cases hn:mK x h1 with
 |none=>rw[hn] at q1;exact q1.elim
 |some ns =>
  rw[hn] at q1;dsimp only at q1
  by_cases hz:ns.length<64/\∀ x∈ns,x.length<=1000/\x.cps.all (· < 0x110000)=true
  ·rw[Nn hz] at q1
   unfold mK at hn;split at hn
   ·rename_i n
    split at hn
    ·rename_i kvs hk
     cases r1 with
     |@ref _ ad hr =>
      obtain⟨ob,e1,kus,rfl,pr⟩:=S1.obj n _ ad hk hr;refine⟨.inr (.inr (.inl ⟨rfl,.inl ⟨_,e1⟩⟩)),ad,kus,rfl,rfl,e1,λp hp=>⟨p,ad,kus,ns,rfl,dH,by rw[aZ (fA e1 hp)];exact e1,uN pr (uM hn),hz.1,λp2 ns' hp2 pm so=>?_⟩⟩
      have:ns'=iA ns:=uL (pm.trans (iB ns).symm) (zi _ so) (uK ns)
      subst this;have S2:=S1.new (o:=qH p ad) hp
      exact q1 ι1 _ _ ((S1.growNew hp).trans (S2.growNew hp2)) (S2.new hp2) (.fl (S2.fresh hp2) (.of dH) (uO _ λx hx=>⟨Np (hz.2 x ((iB ns).mem_iff.mp hx)).1 'd',(hz.2 x ((iB ns).mem_iff.mp hx)).2⟩))
    ·cases hn
   ·cases hn
  ·rw[Nr hz] at q1;exact q1.elim
end
end Sm
namespace L2
open PySem PySem.Spec PyProof.Rows
def Ldd(X:Cx)(pins:List (ZE×Obj))(σ:St)(H:Hp)(a:ZE)(cls:ZC)(dx:Option ZE)(s:ZB)(h5:Heap):Prop :=
 Arr X pins σ H a cls dx s/\∃ B a0,gz X pins H s.heap B/\Heap.FlyingW B X.stack a cls a0 h5/\s.heap.UpToSlots h5/\∃ ob,h5.get? a=some ob/\ob.dict=dx
section
variable{X:Cx}{pins:List (ZE×Obj)}{σ:St}{H:Hp}{a:ZE}{cls:ZC}{dx:Option ZE}{s:ZB}{h5 h6:Heap}
def Ldd.keeps(L:Ldd X pins σ H a cls dx s h5)(k:∀ b o,h5.get? b=some o->h6.get? b=some o):Ldd X pins σ H a cls dx s h6:=by
 obtain⟨R,B,a0,fm,fl,sm,ob,e1,e2⟩:=L;exact⟨R,B,a0,fm,PySem.W.flying_keeps fl k,sm.trans (Heap.UpToSlots.of_keeps k),ob,k _ _ e1,e2⟩
def Ldd.inv(L:Ldd X pins σ H a cls dx s h5)(hex:X.ex=[]):Inv X pins σ H { s with heap:=h5 }:=by
 obtain⟨R,B,a0,fm,fl,sm,_⟩:=L;exact R.inv.flown (t':=s.toks) hex fm fl.1 sm
def Ldd.ty{M:Model}(L:Ldd X pins σ H a cls dx s h5):PySem.W.Looks M h5 (typeOf (.ref a)) cls:=by
 obtain⟨R,B,a0,fm,fl,sm,_⟩:=L;obtain⟨oe,vs,hoe,hoec,_⟩:=fl.first;exact hoec▸yf hoe
end
abbrev HG:=cN->St->ZC->Option ZE->Hp->Prop
def qJ(X:Cx)(hs:List ExceptHandler)(g:HG):Prop :=
 ∀ (pins:List (ZE×Obj)) (σ:St) (H:Hp) (a:ZE) (cls:ZC) (dx:Option ZE) (s:ZB) (h5:Heap) (D:cN),Ldd X pins σ H a cls dx s h5->g D σ cls dx H ->
  wpAny (model X.prog X.w) X.A (handleBy (.ref a) X.env hs) (SP X pins D) X.xe { s with heap:=h5 }
section
variable{X:Cx}{C C1 C2:ZE}{x1 x2 xc n:Str}{i kk:Nat}{p1 p2 tp hpos np pos:Pos}{b0:Stmt}{suite body:List Stmt}{rest:List ExceptHandler}{th:TS}{g:HG}{outer:List Env}
def IU (hex:X.ex=[]) (hg:Gl X xc) (hm:X.mg xc=some (.ref C)) (hh:∀ a,PSs (cf X a) (b0::suite) th) (hdb:(xc == ("__debug__" : Str))=false:=by decide) :
  qJ X [.ExceptHandler (some (.Name xc np)) none (b0::suite) hpos] (λD σ cls _ H=>PySem.W.exmOne X.K cls (.ref C)=some true/\th { nx:=D.nx,rt:=D.rt,bk:=D.bk,ct:=D.ct } σ H):=by
 intro pins σ H a cls dx s h5 D L ⟨hxm,q⟩;have I5:=L.inv hex;have okX:=I5.ok;have ty:=L.ty (M:=model X.prog X.w);refine RP (Ro (kD (X:=cf X a) (I5.hdl a) hg hm ?_ hdb)) (by intro z;cases z)
 refine(PySem.W.exm_one I5.kIn ty hxm).here ?_
 refine codeAny_handlers_suite ?_
 obtain⟨R,B,a0,fm,fl,sm,_⟩:=L;refine lands_againW fl λh6 fl6 sm6=>?_
 have I6:Inv X pins σ H { s with heap:=h6 }:=R.inv.flown (t':=s.toks) hex fm fl6.1 (sm.trans sm6);refine Oc (hh a pins _ _ _ _ (I6.hdl a) q) (λf s9 q9=>?_) λ_ _ z=>z.elim
 cases f with
 |next=>obtain⟨σ2,H2,I2,q2⟩:=q9;exact⟨σ2,H2,I2.unhdl okX,q2⟩
 |brk=>obtain⟨σ2,H2,I2,q2⟩:=q9;exact⟨σ2,H2,I2.unhdl okX,q2⟩
 |cont=>obtain⟨σ2,H2,I2,q2⟩:=q9;exact⟨σ2,H2,I2.unhdl okX,q2⟩
 |ret u=>obtain⟨v2,σ2,H2,I2,r2,q2⟩:=q9;exact⟨v2,σ2,H2,I2.unhdl okX,r2,q2⟩
def zp (hex:X.ex=[]) (hN:X.N.Nodup) (hi:X.N[i]?=some n) (hl:X.env.scope.names.lookup n=some .local) (hg1:Gl X x1) (hm1:X.mg x1=some (.ref C1)) (hg2:Gl X x2) (hm2:X.mg x2=some (.ref C2)) (hh:∀ a,PSs (cf X a) (b0::suite) th) (hr:qJ X rest g)
  (d1:(x1 == ("__debug__" : Str))=false:=by decide) (d2:(x2 == ("__debug__" : Str))=false:=by decide) :
  qJ X (.ExceptHandler (some (.Tuple [.Name x1 p1,.Name x2 p2] kk tp)) (some n) (b0::suite) hpos::rest) (λD σ cls dx H =>
   (PySem.W.exmAny X.K cls [.ref C1,.ref C2]=some false/\g D σ cls dx H) \/
   (PySem.W.exmAny X.K cls [.ref C1,.ref C2]=some true/\∀ a,H a=none->th { nx:=λσ2 H2=>D.nx (σ2.set i none) H2,rt:=D.rt,bk:=λσ2 H2=>D.bk (σ2.set i none) H2,ct:=λσ2 H2=>D.ct (σ2.set i none) H2 } (σ.set i (some (.ref a))) (upd H a (fL a cls dx)))):=by
 intro pins σ H a cls dx s h5 D L q;have I5:=L.inv hex;have okX:=I5.ok;have kp:∀ q o,h5.get? q=some o->(h5.push { cls:=.type "tuple",data:=.seq [.ref C1,.ref C2].toArray }).get? q=some o:=λ_ _ z=>Nq _ z
 have L6:=L.keeps kp;have I6:=L6.inv hex;have ty:=L6.ty (M:=model X.prog X.w);refine RP (Ro ?_) (by intro z;cases z)
 refine wpAny_Tuple ?_
 refine wpAny_items_cons (kD (X:=cf X a) (I5.hdl a) hg1 hm1 ?_ d1)
 refine wpAny_items_cons (kD (X:=cf X a) (I5.hdl a) hg2 hm2 ?_ d2)
 refine wpAny_items_nil ⟨by size_fits,?_⟩
 rcases q with⟨hx,q⟩|⟨hx,q⟩
 ·exact(PySem.W.exm_tup2 I6.kIn ty (NC h5 rfl) hx).here (hr pins σ H a cls dx s _ D L6 q)
 ·refine(PySem.W.exm_tup2 I6.kIn ty (NC h5 rfl) hx).here ?_
  refine codeAny_handlers_suite_as ?_
  obtain⟨R,B,a0,fm,fl,sm,dk⟩:=L6;refine GH fl dk λh7 fl7 sm7 dk7=>?_
  have I7:Inv X pins σ H { s with heap:=h7 }:=R.inv.flown (t':=s.toks) hex fm fl7.1 (sm.trans sm7);obtain⟨oe6,vs6,hoe6,hoec6,hoed6,_⟩:=fl7.first;have I8:Inv X pins σ (upd H a (fL a cls dx)) { s with heap:=h7 }:=I7.adopt0 R.un R.new R.nl R.nc R.np
   ⟨⟨oe6,vs6,hoe6,hoec6,hoed6,by obtain⟨ob,e1,e2⟩:=dk7;rw[show h7.get? a=some oe6 from hoe6] at e1;cases e1;exact e2⟩,⟨oe6,hoe6⟩,λg1 g2 ⟨ob,ws,z1,z2,z3⟩ k=>⟨ob,ws,k ob z1,z2,z3⟩⟩
  refine l9 (X:=cf X a) (I8.hdl a) hN hi (.inl hl) (v:=.ref a) rfl (λs8 I8=>?_) (.inr hl)
  refine Oc (hh a pins s8 _ _ _ I8 (q a R.un)) (λf s9 q9=>?_) λ_ _ z=>z.elim
  cases f with
  |next=>obtain⟨σ2,H2,I2,q2⟩:=q9;exact qc (I2.unhdl okX) hN hi hl λs' I'=>⟨_,H2,I',q2⟩
  |brk=>obtain⟨σ2,H2,I2,q2⟩:=q9;exact qc (I2.unhdl okX) hN hi hl λs' I'=>⟨_,H2,I',q2⟩
  |cont=>obtain⟨σ2,H2,I2,q2⟩:=q9;exact qc (I2.unhdl okX) hN hi hl λs' I'=>⟨_,H2,I',q2⟩
  |ret u=>obtain⟨v2,σ2,H2,I2,r2,q2⟩:=q9;exact qc (I2.unhdl okX) hN hi hl λs' I'=>⟨v2,_,H2,I',r2,q2⟩
def IV(g:HG)(tb:(St->XK)->TS):TS:=λD σ H=>tb (λσ' cls dx H'=>g D σ' cls dx H') D σ H
def IW{h0:ExceptHandler}{hs:List ExceptHandler}{tb:(St->XK)->TS}(hex:X.ex=[])(hst:X.stack=X.env::outer)(hf:X.env.frame=some X.env.locals)(hh:qJ X (h0::hs) g)
  (hb:∀ pins xe Ex,kP (cL X.prog X.w) (tryC X pins xe) Ex->mr (tryC X pins xe) Ex->PSs (tryC X pins xe) body (tb Ex)):PS X (.Try body (h0::hs) [] [] pos) (IV g tb):=by
 intro pins s σ H D I h;have okX:=I.ok;let Ex:St->XK:=λσ' cls dx H'=>g D σ' cls dx H'
 let xe:ZC->ZB->Prop:=λe s'=>∃ σ' H' a cls dx,e=.ref a/\Arr X pins σ' H' a cls dx s'/\Ex σ' cls dx H'
 have hR:mr (tryC X pins xe) Ex:=λpins' σ' H' s' a cls dx R q=>⟨σ',H',a,cls,dx,rfl,R.untry,q⟩
 have hP:kP (cL X.prog X.w) (tryC X pins xe) Ex:=λpins' σ' H' s1 e s2 I' hq=>by
  obtain⟨a,cls,dx,H2,rfl,R,q⟩:=yc (X:=tryC X pins xe) I' hex hq;exact⟨σ',H2,a,cls,dx,rfl,R.untry,q⟩
 have hbody:=hb pins xe Ex hP hR [] s σ H D (I.toTry (xe:=xe)) h;refine wpAny_Try_except (Oc hbody (λf s1 q=>?_) λe s1 q=>?_)
 ·cases f with
  |next=>obtain⟨σ1,H1,I1,q1⟩:=q;exact P8 ⟨σ1,H1,I1.untry,q1⟩
  |brk=>obtain⟨σ1,H1,I1,q1⟩:=q;exact⟨σ1,H1,I1.untry,q1⟩
  |cont=>obtain⟨σ1,H1,I1,q1⟩:=q;exact⟨σ1,H1,I1.untry,q1⟩
  |ret u=>obtain⟨v1,σ1,H1,I1,r1,q1⟩:=q;exact⟨v1,σ1,H1,I1.untry,r1,q1⟩
 ·obtain⟨σ1,H1,a,cls,dx,rfl,R,q1⟩:=q
  refine R.land hex okX.frames hst hf λh5 B a0 fm fl sm I5 dk=>?_
  exact hh pins σ1 H1 a cls dx s1 h5 D ⟨R,B,a0,fm,fl,sm,dk⟩ q1
end
end L2
namespace Sm
open PySem PySem.Spec L2 PyProof.Rows
def j4(i:Nat)(o:OutS):OutS:=match o with
 |.nx e2 h2=>.nx (e2.set i none) h2
 |.bk e2 h2=>.bk (e2.set i none) h2
 |.ct e2 h2=>.ct (e2.set i none) h2
 |.rt v h2=>.rt v h2
 |_=>.bad
def zq(o:OutS):OutS:=match o with
 |.ex _ _ _=>.bad
 |o=>o
def j5(i:Nat)(c1 c2 c3:Nat->Bool)(b d1 d2 d3:SS):SS:=λen h=>match b en h with
 |.ex c e h'=>if c1 c=true then j4 i (d1 (e.set i (some (.exc c))) h') else if c2 c=true then j4 i (d2 (e.set i (some (.exc c))) h') else if c3 c=true then zq (d3 e h') else .bad
 |o=>o
def CU(T:Tb)(mg:Str->Option ZC)(x:Str)(f:Nat->Bool):Prop:=∃ C,mg x=some (.ref C)/\∀ c C',T.exc c=some C'->PySem.W.exmOne T.K (.ref C') (.ref C)=some (f c)
def XF(K:ZA)(a b:ZE):Prop:=PySem.W.exmOne K (.ref a) (.ref b)=some false
def xf{K:ZA}{a b:ZE}(h:PySem.W.exmOne K (.ref a) (.ref b)=some false):XF K a b:=(h)
section
variable{T:Tb}{E:L2.St->XK}{X:Cx}{pos p1 p2 p3 p4 tp tp2 np hp1 hp2 hp3:Pos}{k1 k2:Nat}
def zr{mg:Str->Option ZC}{x1 x2:Str}{f1 f2:Nat->Bool}(u1:CU T mg x1 f1)(u2:CU T mg x2 f2):∃ C1 C2,mg x1=some (.ref C1)/\mg x2=some (.ref C2)/\∀ c C',T.exc c=some C'->PySem.W.exmAny T.K (.ref C') [.ref C1,.ref C2]=some (f1 c || f2 c):=by
 obtain⟨C1,m1,e1⟩:=u1;obtain⟨C2,m2,e2⟩:=u2;refine⟨C1,C2,m1,m2,λc C' h=>?_⟩
 simp only[PySem.W.exmAny,e1 c C' h,e2 c C' h,Bool.or_false]
def IX {x1 x2 x3 x4 x5 n:Str} {i:Nat} {body s1 s2 s3:List Stmt} {b1 b2 b3:Stmt} {sb d1 d2 d3:SS} {outer:List Env} {f1 f2 f3 f4 f5:Nat->Bool} (hK:X.K=T.K) (hN:X.N.Nodup)
  (hg1:Gl X x1) (hg2:Gl X x2) (hg3:Gl X x3) (hg4:Gl X x4) (hg5:Gl X x5) (u1:CU T X.mg x1 f1) (u2:CU T X.mg x2 f2) (u3:CU T X.mg x3 f3) (u4:CU T X.mg x4 f4) (u5:CU T X.mg x5 f5)
  (hb:∀ pins xe Ex,CA T Ex (tryC X pins xe)->mr (tryC X pins xe) Ex->cF T Ex (tryC X pins xe) body sb)
  (h1:∀ a,CA T EN (cf X a)->cF T EN (cf X a) (b1::s1) d1) (h2:∀ a,CA T EN (cf X a)->cF T EN (cf X a) (b2::s2) d2) (h3:∀ a,CA T EN (cf X a)->cF T EN (cf X a) (b3::s3) d3)
  (hex:‹X.ex=[]›) (hst:‹X.stack=X.env::outer›) (hf:‹X.env.frame=some X.env.locals›) (hi:‹X.N[i]?=some n›) (hl:‹X.env.scope.names.lookup n=some .local›)
  (q1:(x1 == ("__debug__" : Str))=false:=by decide) (q2:(x2 == ("__debug__" : Str))=false:=by decide) (q3:(x3 == ("__debug__" : Str))=false:=by decide) (q4:(x4 == ("__debug__" : Str))=false:=by decide) (q5:(x5 == ("__debug__" : Str))=false:=by decide) :
  fX T E X (.Try body [.ExceptHandler (some (.Tuple [.Name x1 p1,.Name x2 p2] k1 tp)) (some n) (b1::s1) hp1,.ExceptHandler (some (.Tuple [.Name x3 p3,.Name x4 p4] k2 tp2)) (some n) (b2::s2) hp2,.ExceptHandler (some (.Name x5 np)) none (b3::s3) hp3] [] [] pos)
   (j5 i (λc=>f1 c || f2 c) (λc=>f3 c || f4 c) f5 sb d1 d2 d3):=by
 obtain⟨C1,C2,m1,m2,e12⟩:=zr u1 u2;obtain⟨C3,C4,m3,m4,e34⟩:=zr u3 u4;obtain⟨C5,m5,e5⟩:=u5;refine g9 (IW hex hst hf (zp hex hN hi hl hg1 m1 hg2 m2 (λa=>h1 a (CA.never hK)) (zp hex hN hi hl hg3 m3 hg4 m4 (λa=>h2 a (CA.never hK)) (IU hex hg5 m5 (λa=>h3 a (CA.never hK)) q5) q3 q4) q1 q2) (λpins xe Ex h1 h2=>hb pins xe Ex ⟨hK,h1⟩ h2)) λD σ H=>E6x λι h en S er q=>⟨ι,h,en,S,er,?_⟩
 unfold j5 at q
 cases z1:sb en h with
 |nx e2 h2=>rw[z1] at q;exact q
 |rt v h2=>rw[z1] at q;exact q
 |bk e2 h2=>rw[z1] at q;exact q
 |ct e2 h2=>rw[z1] at q;exact q
 |bad=>rw[z1] at q;exact q
 |ex c e2 h2 =>
  rw[z1] at q;dsimp only at q
  intro ι' H' σ' C' g S' er' ec;have w12:=e12 c C'.1 ec.1;have w34:=e34 c C'.1 ec.1;have w5:=e5 c C'.1 ec.1;rw[<- hK] at w12 w34 w5;by_cases hc1:(f1 c || f2 c)=true
  ·rw[Nn hc1] at q
   rw[hc1] at w12;refine .inr ⟨w12,λa hn=>⟨ι',h2,e2.set i (some (.exc c)),S'.new hn,(er'.mono (S'.growNew hn)).set (.exc (S'.fresh hn) ⟨ec.1,ec.2.ext (S'.growNew hn).ext⟩ dH) i,?_⟩⟩
   have q2:=PostS.shift q (g.trans (S'.growNew (o:=fL a (.ref C'.1) C'.2) hn));unfold j4 at q2
   cases z3:d1 (e2.set i (some (.exc c))) h2 with
   |nx e4 h4=>rw[z3] at q2;exactλι5 H5 σ5 g5 S5 er5=>q2 ι5 H5 _ g5 S5 (er5.unset i)
   |bk e4 h4=>rw[z3] at q2;exactλι5 H5 σ5 g5 S5 er5=>q2 ι5 H5 _ g5 S5 (er5.unset i)
   |ct e4 h4=>rw[z3] at q2;exactλι5 H5 σ5 g5 S5 er5=>q2 ι5 H5 _ g5 S5 (er5.unset i)
   |rt v h4=>rw[z3] at q2;exact q2
   |ex c' e4 h4=>rw[z3] at q2;exact(show False from q2).elim
   |bad=>rw[z3] at q2;exact q2
  ·rw[Nr hc1] at q
   rw[PM.mpr hc1] at w12;refine .inl ⟨w12,?_⟩
   by_cases hc2:(f3 c || f4 c)=true
   ·rw[Nn hc2] at q
    rw[hc2] at w34;refine .inr ⟨w34,λa hn=>⟨ι',h2,e2.set i (some (.exc c)),S'.new hn,(er'.mono (S'.growNew hn)).set (.exc (S'.fresh hn) ⟨ec.1,ec.2.ext (S'.growNew hn).ext⟩ dH) i,?_⟩⟩
    have q2:=PostS.shift q (g.trans (S'.growNew (o:=fL a (.ref C'.1) C'.2) hn));unfold j4 at q2
    cases z3:d2 (e2.set i (some (.exc c))) h2 with
    |nx e4 h4=>rw[z3] at q2;exactλι5 H5 σ5 g5 S5 er5=>q2 ι5 H5 _ g5 S5 (er5.unset i)
    |bk e4 h4=>rw[z3] at q2;exactλι5 H5 σ5 g5 S5 er5=>q2 ι5 H5 _ g5 S5 (er5.unset i)
    |ct e4 h4=>rw[z3] at q2;exactλι5 H5 σ5 g5 S5 er5=>q2 ι5 H5 _ g5 S5 (er5.unset i)
    |rt v h4=>rw[z3] at q2;exact q2
    |ex c' e4 h4=>rw[z3] at q2;exact(show False from q2).elim
    |bad=>rw[z3] at q2;exact q2
   ·rw[Nr hc2] at q
    rw[PM.mpr hc2] at w34;refine .inl ⟨w34,?_⟩
    by_cases hc3:f5 c=true
    ·rw[Nn hc3] at q
     rw[hc3] at w5;refine⟨w5,ι',h2,e2,S',er',?_⟩
     have q2:=PostS.shift q g;unfold zq at q2
     cases z3:d3 e2 h2 with
     |nx e4 h4=>rw[z3] at q2;exact q2
     |bk e4 h4=>rw[z3] at q2;exact q2
     |ct e4 h4=>rw[z3] at q2;exact q2
     |rt v h4=>rw[z3] at q2;exact q2
     |ex c' e4 h4=>rw[z3] at q2;exact(show False from q2).elim
     |bad=>rw[z3] at q2;exact q2
    ·rw[Nr hc3] at q;exact(show False from q).elim
end
end Sm
namespace L2
open PySem PySem.Spec PyProof.Rows
def IY(a b:Expr)(sp:Pos)(args:List Expr)(keywords:List Keyword)(pos:Pos)(env:Env):eval (.Call (.Subscript a b sp) args keywords pos) env=(do
  callWith pos (<- eval (.Subscript a b sp) env) [] (backTo pos (starEach args env)) (backToKw pos (keywordEach keywords env))):=(rfl)
end L2
namespace Sm
open PySem PySem.Spec L2 PyProof.Rows
def gP(F1 F2:Fn)(i:SE)(as:SL):SE:=λen h=>(i en h).bind λv h1=>match v with
 |.int 0=>ar F1 as en h1
 |.int 1=>ar F2 as en h1
 |_=>.bad
section
variable{T:Tb}{E:L2.St->XK}{X:Cx}{pos p1 p2 lp sp:Pos}{e b:Expr}{es:List Expr}{x1 x2:Str}{F1 F2:Fn}{k1 k2:Nat}{as:SL}{sb:SE}
def IZ (hK:X.K=T.K) (C:CA T E X) (G1:GF X.prog X.w T X.mg X.base k1 x1 F1) (G2:GF X.prog X.w T X.mg X.base k2 x2 F2) (hr1:Room k1 X.A) (hr2:Room k2 X.A) (hg1:Gl X x1) (hg2:Gl X x2) (hb:aF T E X b sb) (ha:fD T E X (e::es) as)
  (d1:(x1 == ("__debug__" : Str))=false:=by decide) (d2:(x2 == ("__debug__" : Str))=false:=by decide) (hs:tf b:=by exactλ_ _=>rfl)
  (he:‹qE1 e es X.env›) (hpl:‹qF1 pos es X.env›)
  (s1:‹starEach [.Name x1 p1,.Name x2 p2] X.env=(false,eval (.Name x1 p1) X.env)::starEach [.Name x2 p2] X.env›) (s2:‹starEach [.Name x2 p2] X.env=(false,eval (.Name x2 p2) X.env)::starEach [] X.env›) :
  aF T E X (.Call (.Subscript (.List [.Name x1 p1,.Name x2 p2] lp) b sp) (e::es) [] pos) (gP F1 F2 sb as):=by
 obtain⟨f1,fd1,ps1,a1,a2,a3,a4⟩:=G1.ex;obtain⟨f2,fd2,ps2,b1,b2,b3,b4⟩:=G2.ex;intro pins s σ H Q I ⟨ι,h,en,S,er,q⟩;rw[IY];have one:∀ {F:Fn} {f:ZE} {fd:FuncData} {ps:List Str} {k:Nat},PySem.W.keepIn T.K (.ref f)=true->Binds T.K fd ps []->FnOk X.prog X.w T.K X.mg X.base (cL X.prog X.w) k f fd ps (iy T F)->Room k X.A ->
   ∀ (s1:ZB) (H1:Hp),Inv X pins σ H1 s1->tE T E (ar F as) σ H1 Q->wpAny (model X.prog X.w) X.A (callWith pos (.ref f) [] (backTo pos (starEach (e::es) X.env)) (backToKw pos (keywordEach [] X.env))) (EP X pins σ Q) X.xe s1:=by
  intro F f fd ps k c2 c3 c4 hr s1 H1 I1 q1;obtain⟨ι,h,en,S,er,q1⟩:=q1;refine Ql (h₀:=X.base) I1.ok.mod.kin (hK▸c2) (thn (ha pos pins s1 σ H1 (λvs H2=>iy T F (vs++[]) H2 Q (E σ)) I1 ⟨ι,h,en,S,er,q1.bind λxs h1 ι1 H1 us g1 S1 r1 q1=>?_⟩) λus s2 ⟨vs,H2,I2,r,q⟩=>⟨I2.kIn,?_⟩) he hpl
  ·rw[Pv]
   exact⟨ι1,h1,xs,S1,r1,q1⟩
  ·exact qa (hK▸c4) hr (hK▸c3) .nil C.pass I2 r q
 refine Nj (thn (xI (X:=X) zfC (sX (jV (pN (v:=.ref f1) hg1 a1 rfl d1) (jV (pN (v:=.ref f2) hg2 b1 rfl d2) nJ s2) s1)) hb hs pins s σ H (λv H1=>(v=.ref f1/\tE T E (ar F1 as) σ H1 Q)\/(v=.ref f2/\tE T E (ar F2 as) σ H1 Q)) I ?_) λu s1 ⟨v,H1,I1,rv,q1⟩=>?_)
 ·refine⟨by show 2<=sizeLine;decide,λp hp=>⟨ι,h,en,S.new hp,er.mono (S.growNew hp),(q.shift (S.growNew hp)).bind λy h1 ι1 H1 u g1 S1 r1 q1=>?_⟩⟩
  have lp1:H1 p=some (.lst [.ref f1,.ref f2]):=g1.keep p _ (λz=>S.fresh hp (NK _ z)) dH;split at q1
  ·cases r1
   exact⟨p,_,0,.ref f1,rfl,rfl,.inl (.inl lp1),rfl,.inl ⟨rfl,ι1,h1,en,S1,(er.mono (S.growNew hp)).mono g1,q1⟩⟩
  ·cases r1
   exact⟨p,_,1,.ref f2,rfl,rfl,.inl (.inl lp1),rfl,.inr ⟨rfl,ι1,h1,en,S1,(er.mono (S.growNew hp)).mono g1,q1⟩⟩
  ·exact q1.elim
 ·rcases q1 with⟨rfl,q1⟩|⟨rfl,q1⟩
  ·obtain rfl:u=Value.ref f1:=rv
   exact one a2 a3 a4 hr1 s1 H1 I1 q1
  ·obtain rfl:u=Value.ref f2:=rv
   exact one b2 b3 b4 hr2 s1 H1 I1 q1
end
def ox(kvs:List (AV×AV))(k:AV):List (AV×AV):=kvs.filter λp=>decide (¬ p.1=k)
def iY(a b:SE):SE:=λen h=>(a en h).bind λx h1=>match x with
 |.ref n=>(match h1[n]? with
  |some (.dct false _)=>(b en h1).bind λy h2=>(match h2[n]? with
   |some (.dct false kvs)=>if dI false y=true then(match aQ kvs y with
    |some v=>.ok v (h2.set n (.dct false (ox kvs y)))
    |none=>.bad) else .bad
   |_=>.bad)
  |_=>.bad)
 |_=>.bad
section
variable{T:Tb}{E:L2.St->XK}{X:Cx}{pos apos:Pos}{a b:Expr}{sa sb:SE}
theorem zt{κ:Type}[DecidableEq κ]{ι:Ix}{H:Hp}{f:κ->AV}(hf:∀ {a b},f a=f b->a=b){k:κ}:∀ {kvs:List (AV×AV)} {kus:List (κ×V)},Paired (λ(p:AV×AV) (q:κ×V)=>p.1=f q.1/\RV T ι H p.2 q.2) kvs kus ->
  Paired (λ(p:AV×AV) (q:κ×V)=>p.1=f q.1/\RV T ι H p.2 q.2) (ox kvs (f k)) (je kus k)
 |_,_,.nil=>.nil
 |(a,v)::kvs,(j,u)::kus,.cons ⟨e,r⟩ rs=>by
  have ih:=zt hf (k:=k) rs;unfold ox je at ih ⊢
  rw[OY,OY];by_cases h:j=k
  ·have h':a=f k:=by rw[<- h];exact e
   rw[Nr (by simp[h']),Nr (by simp[h])];exact ih
  ·have h':¬ a=f k:=λz=>h (hf (e.symm.trans z))
   rw[Nn (by simp[h']),Nn (by simp[h])];exact .cons ⟨e,r⟩ ih
def zu (ha:aF T E X a sa) (hb:aF T E X b sb) (hbase:‹attributeBase a "pop" X.env (eval a X.env)=eval a X.env›)
  (hfew:‹((backTo pos (starEach [b] X.env)).all (λx=>!x.1) && (backToKw pos (keywordEach [] X.env)).all (λx=>x.1.isSome) && decide (([b]:List Expr).length+([]:List Keyword).length+(if ([]:List Keyword).isEmpty then 0 else 1)<30))=true›)
  (hline:‹(apos.endLine==pos.line)=true›) (htrees:‹backTo pos (starEach [b] X.env)=[(false,eval b X.env)]›):aF T E X (.Call (.Attribute a "pop" apos) [b] [] pos) (iY sa sb):=by
 refine bO (FI ha hb ⟨hbase,hfew,hline,htrees⟩) λσ H Q q=>?_
 obtain⟨ι,h,en,S,er,q⟩:=q;refine⟨ι,h,en,S,er,q.bind λx h1 ι1 H1 u g1 S1 r1 q1=>?_⟩
 split at q1
 ·rename_i n
  split at q1
  ·rename_i kvs0 hn0
   cases r1 with
   |@ref _ ad hr =>
    refine⟨ad,rfl,isD_of S1 hn0 hr,ι1,h1,en,S1,er.mono g1,q1.bind λy h2 ι2 H2 v g2 S2 r2 q2=>?_⟩
    split at q2
    ·rename_i kvs hn
     by_cases hk:dI false y=true
     ·rw[Nn hk] at q2
      have hr2:=g2.at hr;obtain⟨ob,e1,kus,rfl,r⟩:=S2.obj n _ ad hn hr2;have hk':(keyOf? y).isSome=true:=hk;obtain⟨k,ek⟩:=NP.mp hk';have:=qw ek;subst this;rcases oa n9 r (k:=k) with⟨w1,w2⟩|⟨v',u',w1,w2,w3⟩
      ·rw[w1] at q2;exact q2.elim
      ·rw[w1] at q2
       have g3:=S2.growSet (u:=.dK (je kus k)) hr2;exact⟨kus,k,u',e1,qv r2,w2,q2 ι2 _ _ g3 (S2.set hr2 ⟨_,rfl,Paired.mapP (zt n9 r) λ_ _ ⟨p,q⟩=>⟨p,q.mono g3⟩⟩) (w3.mono g3)⟩
     ·rw[Nr hk] at q2;exact q2.elim
    ·exact q2.elim
  ·exact q1.elim
 ·exact q1.elim
end
end Sm
namespace L2
open PySem PySem.Spec PyProof.Rows PySem.SeqAt PySem.AutoSeq1 PySem.MeetsSeq PySem.MeetsSeq2 PySem.MeetsSeq3 PySem.SeqRoads2
section
variable{A:ZG}{s:ZB}{d l:ZE}{es:Array DictEntry}{n:Nat}{dd:Option ZE}{sl:Array (Option ZC)}
def zv {prog:ZD} {w:ZF} {E Q:ZC->ZB->Prop} {b:ZC} {T:String} (ty:s.TypeIs (.ref d) "dict") (tb:s.TypeIs b T) (sub:isSubtype (.type T) (.type "dict")=pure false) (h:Q .notImplemented s):wpAny (model prog w) A (call (.builtin "dict.__eq__") [.ref d,b]) Q E s:=by
 refine OJ Ru ty PySem.F.entry_dict_eq ?_ (PySem.F.args_dict_eq_2 _ _)
 show wpAny _ _ (Builtin.Dict.dictSlotArgs "__eq__" ⟨[.ref d,b],[]⟩ >>= _) _ _ s
 refine Nj ?_
 unfold Builtin.Dict.dictSlotArgs;refine Nj (PZ ty ?_)
 show wpAny _ _ (pure (Value.ref d,b)) _ _ s
 refine Nu ?_
 refine Nj (wpAny_isInstance (T:=T) tb sub ?_)
 simp only[Bool.not_false,O5]
 refine Nj (RX (Nj (Nu (Nu ?_))))
 exact⟨_,rfl,h⟩
def I0(b:Str)(u:Tok):Meets (Builtin.«str.__eq__» ⟨[.str b u,.ref d],[]⟩) (λ_ R s=>s.heap.get? d=some { cls:=.type "dict",dict:=dd,data:=.dict es n,slots:=sl }/\R (.ok (.ret .notImplemented)) s) :=(
 .of_wp λprog w A R s h=>by obtain⟨hp,g,dr,tk,os⟩:=s;obtain⟨hl,h⟩:=h;wp_walk using OU hl,PB hl;exact⟨_,rfl,h⟩)
def Ja(b:Int)(u:Tok):Meets (Builtin.«int.__eq__» ⟨[.int b u,.ref d],[]⟩) (λ_ R s=>s.heap.get? d=some { cls:=.type "dict",dict:=dd,data:=.dict es n,slots:=sl }/\R (.ok (.ret .notImplemented)) s) :=(
 .of_wp λprog w A R s h=>by obtain⟨hp,g,dr,tk,os⟩:=s;obtain⟨hl,h⟩:=h;wp_walk using OU hl,PB hl;exact⟨_,rfl,h⟩)
def Jb(b:Bool):Meets (Builtin.«int.__eq__» ⟨[.bool b,.ref d],[]⟩) (λ_ R s=>s.heap.get? d=some { cls:=.type "dict",dict:=dd,data:=.dict es n,slots:=sl }/\R (.ok (.ret .notImplemented)) s) :=(
 .of_wp λprog w A R s h=>by obtain⟨hp,g,dr,tk,os⟩:=s;obtain⟨hl,h⟩:=h;wp_walk using OU hl,PB hl;exact⟨_,rfl,h⟩)
def Jc(items:Array ZC)(n2:Nat)(dd2:Option ZE)(sl2:Array (Option ZC)):Meets (Builtin.«list.__eq__» ⟨[.ref l,.ref d],[]⟩) (λ_ R s=>s.heap.get? l=some { cls:=.type "list",dict:=dd2,data:=.seq items n2,slots:=sl2 }/\s.heap.get? d=some { cls:=.type "dict",dict:=dd,data:=.dict es n,slots:=sl }/\R (.ok (.ret .notImplemented)) s) :=(
 .of_wp λprog w A R s h=>by obtain⟨hp,g,dr,tk,os⟩:=s;obtain⟨hl,hd,h⟩:=h;have f1:=PySem.F.sub_dict_list;wp_walk using OU hl,OU hd;exact⟨_,rfl,h⟩)
def Jd(items:Array ZC)(n2:Nat)(dd2:Option ZE)(sl2:Array (Option ZC)):Meets (Builtin.«tuple.__eq__» ⟨[.ref l,.ref d],[]⟩) (λ_ R s=>s.heap.get? l=some { cls:=.type "tuple",dict:=dd2,data:=.seq items n2,slots:=sl2 }/\s.heap.get? d=some { cls:=.type "dict",dict:=dd,data:=.dict es n,slots:=sl }/\R (.ok (.ret .notImplemented)) s) :=(
 .of_wp λprog w A R s h=>by obtain⟨hp,g,dr,tk,os⟩:=s;obtain⟨hl,hd,h⟩:=h;have f1:isSubtype (.type "dict") (.type "tuple")=pure false:=(by rw[RF];kernel_rfl);wp_walk using OU hl,OU hd;exact⟨_,rfl,h⟩)
end
section
variable{A:ZG}{s:ZB}{d l:ZE}{es:Array DictEntry}{n:Nat}{dd:Option ZE}{sl:Array (Option ZC)}{b:ZC}{T idT:String}
def mM (hd:s.heap.get? d=some { cls:=.type "dict",dict:=dd,data:=.dict es n,slots:=sl }) (tb:s.TypeIs b T) (ne1:(Value.type T != Value.type "dict")=true) (ne2:(Value.type "dict" != Value.type T)=true)
  (sub1:isSubtype (.type T) (.type "dict")=pure false) (sub2:isSubtype (.type "dict") (.type T)=pure false) (h1:Slot T (cmpInfo .Eq).2.1 idT) (h2:Slot T (cmpInfo .Eq).2.2 idT)
  (hc:∀ (prog:ZD) (w:ZF) (E:ZC->ZB->Prop) (Q':ZC->ZB->Prop),Q' .notImplemented s->wpAny (model prog w) A (call (.builtin idT) [b,.ref d]) Q' E s)
  (Aa:∀ (prog:ZD) (w:ZF) (E:ZC->ZB->Prop) (Q':Bool->ZB->Prop),Q' false s->wpAny (model prog w) A (isSame b (.ref d)) Q' E s) (hs2:∀ (prog:ZD) (w:ZF) (E:ZC->ZB->Prop) (Q':Bool->ZB->Prop),Q' false s->wpAny (model prog w) A (isSame (.ref d) b) Q' E s)
  (hu:A.units<cLine):RcAt A s b (.ref d) false/\RcAt A s (.ref d) b false:=by
 have ty:s.TypeIs (.ref d) "dict" := ⟨_,hd,rfl⟩;exact⟨λprog w E Q h=>rc_eq_decline_or (k:=false) tb ty ne1 sub2 h1 PySem.F.slot_dict_eq_refl (hc prog w E) (λ_ hq=>zv ty tb sub1 hq) (Aa prog w E) (.inr hu) h,
  λprog w E Q h=>rc_eq_decline_or (k:=false) ty tb ne2 sub1 Ru h2 (λ_ hq=>zv ty tb sub1 hq) (hc prog w E) (hs2 prog w E) (.inr hu) h⟩
def mO (T:String) (h:isSubtype (.type T) (.type "dict")=pure false:=by rw[RF];kernel_rfl):isSubtype (.type T) (.type "dict")=pure false:=(h)
def mP (T:String) (h:isSubtype (.type "dict") (.type T)=pure false:=by rw[RF];kernel_rfl):isSubtype (.type "dict") (.type T)=pure false:=(h)
def qK {prog:ZD} {w:ZF} {E:ZC->ZB->Prop} {a c:ZE} {c2:Option ZE} {vs:Array ZC} {k:Nat} {c4:Array (Option ZC)} (h1:s.heap.get? a=some { cls:=.type T,dict:=c2,data:=.seq vs k,slots:=c4 }) (hd:s.heap.get? c=some { cls:=.type "dict",dict:=dd,data:=.dict es n,slots:=sl }) (h:a≠c) {Q':Bool->ZB->Prop} (q:Q' false s) :
  wpAny (model prog w) A (isSame (.ref a) (.ref c)) Q' E s/\wpAny (model prog w) A (isSame (.ref c) (.ref a)) Q' E s:=by
 have b1:(a == c)=false:=beq_eq_false_iff_ne.mpr h;have b2:(c == a)=false:=beq_eq_false_iff_ne.mpr (Ne.symm h);constructor
 ·unfold isSame
  dsimp only;rw[Nr (by rw[b1];exact NM)]
  refine Nj (PB h1 (Nj (PB hd ?_)))
  dsimp only;split<;>first|exact Nu q|exact absurd (by assumption:Value.type "dict"=Value.type "tuple") 's'
 ·unfold isSame
  dsimp only;rw[Nr (by rw[b2];exact NM)]
  refine Nj (PB hd (Nj (PB h1 ?_)))
  dsimp only;exact Nu q
theorem zw (hd:s.heap.get? d=some { cls:=.type "dict",dict:=dd,data:=.dict es n,slots:=sl }) (hu:A.units<cLine):∀ {v:ZC} {e:PyData} {as:List ZE},Reads s.heap v e as->e.canLay0=true->EqAt A s v (.ref d) false/\EqAt A s (.ref d) v false
 |_,_,_,.none,_=>by
  obtain⟨r1,r2⟩:=mM hd (T := "NoneType") (b:=.none) rfl 'd' 'd' (mO _) (mP _) QC PySem.F.slot_NoneType_eq_refl (λprog w E Q' hq=>call_gives QC rfl PySem.F.entry_NoneType_eq (PySem.F.args_NoneType_eq_2 _ _) (NoneType___eq___none_ref_0 d) hq)
   (λprog w E Q' hq=>Pn (rfl:isSame .none (.ref d)=pure false) hq) (λprog w E Q' hq=>Pn (rfl:isSame (.ref d) .none=pure false) hq) hu
  constructor
  all_goals
   intro prog w E Q h;unfold eqBool;refine Oi ?_
   refine P9 (λhab=>absurd (QR hab) nofun) (λ_=>?_)
   first|exact Nj (r1 prog w E _ (NI h))|exact Nj (r2 prog w E _ (NI h))
 |_,_,_,.bool k,_=>by
  obtain⟨r1,r2⟩:=mM hd (T := "bool") (b:=.bool k) rfl 'd' 'd' (mO _) (mP _) Rv PySem.F.slot_bool_eq_refl (λprog w E Q' hq=>PD Rv rfl Rx (Rj _ _) (Jb k) ⟨hd,hq⟩)
   (λprog w E Q' hq=>Pn (rfl:isSame (.bool k) (.ref d)=pure false) hq) (λprog w E Q' hq=>Pn (rfl:isSame (.ref d) (.bool k)=pure false) hq) hu
  constructor
  all_goals
   intro prog w E Q h;unfold eqBool;refine Oi ?_
   refine P9 (λhab=>absurd (QR hab) nofun) (λ_=>?_)
   first|exact Nj (r1 prog w E _ (NI h))|exact Nj (r2 prog w E _ (NI h))
 |_,_,_,.int i t,_=>by
  obtain⟨r1,r2⟩:=mM hd (T := "int") (b:=.int i t) (Sq s i t) 'd' 'd' (mO _) (mP _) RL PySem.F.slot_int_eq_refl (λprog w E Q' hq=>PD RL (Sq s i t) Rx (Rj _ _) (Ja i t) ⟨hd,hq⟩)
   (λprog w E Q' hq=>Pn (rfl:isSame (.int i t) (.ref d)=pure false) hq) (λprog w E Q' hq=>Pn (rfl:isSame (.ref d) (.int i t)=pure false) hq) hu
  constructor
  all_goals
   intro prog w E Q h;unfold eqBool;refine Oi ?_
   refine P9 (λhab=>absurd (QR hab) nofun) (λ_=>?_)
   first|exact Nj (r1 prog w E _ (NI h))|exact Nj (r2 prog w E _ (NI h))
 |_,_,_,.str x t,_=>by
  obtain⟨r1,r2⟩:=mM hd (T := "str") (b:=.str x t) (Qo s x t) 'd' 'd' (mO _) (mP _) RM PySem.F.slot_str_eq_refl (λprog w E Q' hq=>PD RM (Qo s x t) PySem.F.entry_str_eq (PySem.F.args_str_eq_2 _ _) (I0 x t) ⟨hd,hq⟩)
   (λprog w E Q' hq=>Pn (rfl:isSame (.str x t) (.ref d)=pure false) hq) (λprog w E Q' hq=>Pn (rfl:isSame (.ref d) (.str x t)=pure false) hq) hu
  constructor
  all_goals
   intro prog w E Q h;unfold eqBool;refine Oi ?_
   refine P9 (λhab=>absurd (QR hab) nofun) (λ_=>?_)
   first|exact Nj (r1 prog w E _ (NI h))|exact Nj (r2 prog w E _ (NI h))
 |_,_,_,.list (a:=a) (o:=o) h1 h2 h3 h4,_=>by
  obtain⟨c1,c2,c3,c4⟩:=o;simp only at h2 h3
  subst h2 h3
  have ne:a≠d:=λz=>by rw[z,hd] at h1;exact absurd (congrArg Obj.cls (N8 h1)) 's'
  obtain⟨r1,r2⟩:=mM hd (T := "list") (b:=.ref a) ⟨_,h1,rfl⟩ 'd' 'd' (mO _) (mP _) Ry PySem.F.slot_list_eq_refl (λprog w E Q' hq=>PD Ry ⟨_,h1,rfl⟩ PySem.F.entry_list_eq (PySem.F.args_list_eq_2 _ _) (Jc _ _ _ _) ⟨h1,hd,hq⟩)
   (λprog w E Q' hq=>(qK h1 hd ne hq).1) (λprog w E Q' hq=>(qK h1 hd ne hq).2) hu
  exact⟨.of_refs ne r1,.of_refs (Ne.symm ne) r2⟩
 |_,_,_,.tuple (a:=a) (o:=o) h1 h2 h3 h4,_=>by
  obtain⟨c1,c2,c3,c4⟩:=o;simp only at h2 h3
  subst h2 h3
  have ne:a≠d:=λz=>by rw[z,hd] at h1;exact absurd (congrArg Obj.cls (N8 h1)) 's'
  obtain⟨r1,r2⟩:=mM hd (T := "tuple") (b:=.ref a) ⟨_,h1,rfl⟩ 'd' 'd' (mO _) (mP _) Rk PySem.F.slot_tuple_eq_refl (λprog w E Q' hq=>PD Rk ⟨_,h1,rfl⟩ PySem.F.entry_tuple_eq (PySem.F.args_tuple_eq_2 _ _) (Jd _ _ _ _) ⟨h1,hd,hq⟩)
   (λprog w E Q' hq=>(qK h1 hd ne hq).1) (λprog w E Q' hq=>(qK h1 hd ne hq).2) hu
  exact⟨.of_refs ne r1,.of_refs (Ne.symm ne) r2⟩
 |_,_,_,.dict _ _ _ _ _,c=>by cases c
end
end L2
namespace L2
open PySem PySem.Spec PyProof.Rows
abbrev Od:=PyData ⊕ ZE
def jA:Od->Od->Bool
 |.inl e,.inl d=>PyData.eqv e d
 |.inr a,.inr b=>decide (a=b)
 |_,_=>false
inductive j7 (K:ZA) (H:Hp):V->Od->Prop
 |dat {x:V} {d:PyData} (h:DaV K H x d) (c:d.canLay0=true) (m:d.depth<=30):j7 K H x (.inl d)
 |dic {a:ZE} {kvs:List (aI×V)} (h:H a=some (.dK kvs)):j7 K H (.ref a) (.inr a)
inductive gQ (K:ZA) (H:Hp):List V->List Od->Prop
 |nil:gQ K H [] []
 |cons {x:V} {xs:List V} {d:Od} {ds:List Od} (h:j7 K H x d) (t:gQ K H xs ds):gQ K H (x::xs) (d::ds)
open Classical in
def iZ(h:Heap)(t:Od)(v:ZC):Bool:=if q:∃ e as,e.canLay0=true/\Reads h v e as then jA (.inl q.choose) t else match t with
 |.inl _=>false
 |.inr a=>decide (v=.ref a)
def Je{h:Heap}{t:Od}{e:PyData}{v:ZC}{as:List ZE}(c:e.canLay0=true)(r:Reads h v e as):iZ h t v=jA (.inl e) t:=by
 have q:∃ e as,e.canLay0=true/\Reads h v e as:=⟨e,as,c,r⟩
 unfold iZ;rw[dif_pos q];obtain⟨as',c',r'⟩:=q.choose_spec
 have z:q.choose=e:=by first|exact(Reads.unique _ _ r' r).1|exact(Reads.unique r' r).1|exact Reads.unique _ _ _ _ _ c' r' r|exact QB _ _ _ _ _ c' r' r|exact RR _ _ _ _ _ c' r' r
 rw[z]
def Jf{h:Heap}{t:Od}{a:ZE}{o:Obj}{es:Array DictEntry}{n:Nat}(e:h.get? a=some o)(hd:o.data=.dict es n):iZ h t (.ref a)=jA (.inr a) t:=by
 unfold iZ;rw[dif_neg]
 ·cases t with
  |inl d=>rfl
  |inr b =>
   show decide (Value.ref a=Value.ref b)=decide (a=b)
   exact decide_eq_decide.mpr ⟨λh=>by injection h,λh=>by rw[h]⟩
 ·rintro⟨d,as,c,r⟩
  cases r with
  |list h1 h2 h3=>rw[e] at h1;cases h1;rw[hd] at h3;cases h3
  |tuple h1 h2 h3=>rw[e] at h1;cases h1;rw[hd] at h3;cases h3
  |dict=>cases c
section
variable{X:Cx}{pins:List (ZE×Obj)}{σ:St}{H:Hp}{s:ZB}
def zx(I:Inv X pins σ H s){a:ZE}{kvs:List (aI×V)}(e:H a=some (.dK kvs)):∃ dd sl es n,s.heap.get? a=some { cls:=.type "dict",dict:=dd,data:=.dict es n,slots:=sl }:=by
 obtain⟨_,_,vs,_,o,es,ep,h1,h2,h3,_⟩:=dk_of I.hok e;obtain⟨c1,c2,c3,c4⟩:=o;obtain⟨z1,_⟩:=h2;simp only at z1 h3
 subst z1 h3
 exact⟨c2,c4,es,ep,h1⟩
def Jg(I:Inv X pins σ H s)(hu:X.A.units+64<cLine){x y:V}{u v:ZC}{e t:Od}(hx:j7 X.K H x e)(hy:j7 X.K H y t)(rx:RelV x u)(ry:RelV y v)(one:∀ a b,e=.inr a->t=.inr b->a=b):iZ s.heap t u=jA e t/\SeqAt.EqAt X.A.in1 s u v (iZ s.heap t u):=by
 have hu1:X.A.in1.units<cLine:=by show X.A.units+1<cLine;lia
 cases hx with
 |dat h c m =>
  obtain⟨as,ra⟩:=h.reads I rx;rw[Je c ra];refine⟨rfl,?_⟩
  cases hy with
  |dat h2 c2 m2 =>
   obtain⟨bs,rb⟩:=h2.reads I ry;exact SeqAt.eqAt_reads _ _ _ _ _ _ _ _ ra rb c c2 (by
    rename_i d1 d2;have:=Pw d1.depth d2.depth;show X.A.units+1+_<cLine
    lia)
  |dic h2 =>
   cases ry
   obtain⟨dd,sl,es,n,hd⟩:=zx I h2;exact(zw hd hu1 ra c).1
 |dic h =>
  cases rx
  obtain⟨dd,sl,es,n,hd⟩:=zx I h;rw[Jf hd rfl];refine⟨rfl,?_⟩
  cases hy with
  |dat h2 c2 m2 =>
   obtain⟨bs,rb⟩:=h2.reads I ry;exact(zw hd hu1 rb c2).2
  |dic h2 =>
   cases ry
   have z:=one _ _ rfl rfl;subst z;rw[show jA (.inr _) (.inr _)=true from NO rfl];exact SeqAt.EqAt.same _
theorem zy(I:Inv X pins σ H s)(hu:X.A.units+64<cLine){y:V}{v:ZC}{t:Od}(hy:j7 X.K H y t)(ry:RelV y v):∀ {xs:List V} {ts:List Od} {us:List ZC},gQ X.K H xs ts->Vals xs us->(∀ e∈ts,∀ a b,e=.inr a->t=.inr b->a=b) ->
  us.any (iZ s.heap t)=ts.any (λe=>jA e t)/\∀ u∈us,SeqAt.EqAt X.A.in1 s u v (iZ s.heap t u)
 |_,_,_,.nil,r,_=>by cases r;exact⟨rfl,nofun⟩
 |_,_,_,.cons h hs,r,one=>by
  cases r with
  |cons r1 r2 =>
   obtain⟨e1,e2⟩:=Jg I hu h hy r1 ry (one _ (Ol ..));obtain⟨i1,i2⟩:=zy I hu hy ry hs r2 λe he=>one e (NZ _ he)
   refine⟨by rw[OL,OL,e1,i1],λu hu=>?_⟩
   rcases ND.mp hu with rfl|hu
   ·exact e2
   ·exact i2 u hu
def Jh(hu:X.A.units+64<cLine):OpR X (compareOp .In) (λx y H Q=>∃ p xs ts t,y=.ref p/\SqL X.K H p xs/\j7 X.K H x t/\gQ X.K H xs ts/\(∀ e∈ts,∀ a b,e=.inr a->t=.inr b->a=b)/\Q (.bl (ts.any λe=>jA e t)) H):=by
 intro pins s σ H x y v u Q I rx ry h;obtain⟨p,xs,ts,t,rfl,hq,hd,hds,one,q⟩:=h
 cases ry
 obtain⟨its,r,pl,hz⟩:=I.list hq;obtain⟨i1,i2⟩:=zy I hu hd rx hds r one;refine SeqAt.in_listAt (iZ s.heap t) pl.isList (λy hy=>i2 y (by simpa using hy)) ⟨.bl _,H,I,rfl,?_⟩
 rw[<- QI];show Q (.bl (its.any (iZ s.heap t))) H
 rw[i1];exact q
end
end L2
namespace Sm
open PySem PySem.Spec L2 PyProof.Rows
abbrev gc:=PyData ⊕ Nat
def gi(h:AH)(v:AV):Option gc:=match bf 8 h v with
 |some d=>some (.inl d)
 |none=>match v with
  |.ref n=>(match h[n]? with
   |some (.dct false _)=>some (.inr n)
   |_=>none)
  |_=>none
def fQ(h:AH):List AV->Option (List gc)
 |[]=>some []
 |v::r=>match gi h v,fQ h r with
  |some d,some ds=>some (d::ds)
  |_,_=>none
def bM:gc->gc->Bool
 |.inl e,.inl d=>PyData.eqv e d
 |.inr a,.inr b=>decide (a=b)
 |_,_=>false
def jB(t:gc):gc->Bool
 |.inr a=>(match t with
  |.inr b=>decide (a=b)
  |_=>true)
 |_=>true
def dF:F2:=λx y h=>match y with
 |.fl xs=>(match gi h x,fQ h xs with
  |some t,some ts=>if ts.all (jB t)=true then .ok (.bl (ts.any λe=>bM e t)) h else .bad
  |_,_=>.bad)
 |_=>.bad
section
variable{T:Tb}{ι:Ix}{h:AH}{H:Hp}
inductive Oo (ι:Ix):gc->Od->Prop
 |dat (d:PyData):Oo ι (.inl d) (.inl d)
 |dic {n:Nat} {a:ZE} (e:ι.refs[n]?=some a):Oo ι (.inr n) (.inr a)
def zA(S:Sim T ι h H){x:AV}{u:V}{t:gc}(r:RV T ι H x u)(e:gi h x=some t):∃ t',Oo ι t t'/\j7 T.K H u t':=by
 unfold gi at e;split at e
 ·rename_i d hd
  cases e
  obtain⟨q1,q2,q3⟩:=iV S 8 r hd;exact⟨_,.dat d,.dat q1 q2 ⋯⟩
 ·split at e
  ·rename_i n hz
   split at e
   ·rename_i kvs hn
    cases e
    cases r with
    |@ref _ ad hr =>
     obtain⟨ob,e1,kus,rfl,_⟩:=S.obj n _ ad hn hr;exact⟨_,.dic hr,.dic e1⟩
   ·cases e
  ·cases e
theorem zB(S:Sim T ι h H):∀ {xs:List AV} {us:List V} {ts:List gc},RVs T ι H xs us->fQ h xs=some ts->∃ ts',Paired (Oo ι) ts ts'/\gQ T.K H us ts'
 |_,_,_,.nil,e=>by cases e;exact⟨[],.nil,.nil⟩
 |x::xs,_,ts,.cons r rs,e=>by
  unfold fQ at e;split at e
  ·rename_i d ds e1 e2
   cases e
   obtain⟨t',o1,o2⟩:=zA S r e1;obtain⟨ts',o3,o4⟩:=zB S rs e2;exact⟨t'::ts',.cons o1 o3,.cons o2 o4⟩
  ·cases e
def Ji(S:Sim T ι h H){e t:gc}{e' t':Od}(o1:Oo ι e e')(o2:Oo ι t t')(one:jB t e=true):bM e t=jA e' t'/\∀ a b,e'=.inr a->t'=.inr b->a=b:=by
 cases o1 with
 |dat d=>cases o2<;>exact⟨rfl,λa b h=>nomatch h⟩
 |dic q1 =>
  cases o2 with
  |dat d=>exact⟨rfl,λa b _ h=>nomatch h⟩
  |dic q2 =>
   have z:=Qx one;subst z;rw[q1] at q2
   cases q2
   refine⟨?_,λa b h1 h2=>?_⟩
   ·show decide (_=_)=decide (_=_)
    rw[NO rfl,NO rfl]
   ·cases h1;cases h2;rfl
theorem zC(S:Sim T ι h H){t:gc}{t':Od}(o2:Oo ι t t'):∀ {ts:List gc} {ts':List Od},Paired (Oo ι) ts ts'->ts.all (jB t)=true->(ts.any λe=>bM e t)=(ts'.any λe=>jA e t')/\∀ e∈ts',∀ a b,e=.inr a->t'=.inr b->a=b
 |_,_,.nil,_=>⟨rfl,nofun⟩
 |_,_,.cons o os,c=>by
  rw[List.all_cons,N7] at c;obtain⟨z1,z2⟩:=Ji S o o2 c.1
  obtain⟨i1,i2⟩:=zC S o2 os c.2;refine⟨by rw[OL,OL,z1,i1],λe he=>?_⟩
  rcases ND.mp he with rfl|he
  ·exact z2
  ·exact i2 e he
def uP{X:Cx}(hK:X.K=T.K)(hu:X.A.units+64<cLine):Op T X (compareOp .In) dF:=by
 refine⟨_,Jh hu,λι h H x y u w E Q S rx ry p=>?_⟩
 unfold dF at p;split at p
 ·rename_i xs
  split at p
  ·rename_i t ts e1 e2
   by_cases c:ts.all (jB t)=true
   ·rw[Nn c] at p
    obtain⟨a,us,rfl,sq,rs⟩:=fY S ry rfl;obtain⟨t',o1,o2⟩:=zA S rx e1;obtain⟨ts',o3,o4⟩:=zB S rs e2;obtain⟨z1,z2⟩:=zC S o1 o3 c;rw[z1] at p;exact⟨a,us,ts',t',rfl,hK▸sq,hK▸o2,hK▸o4,z2,p.now S (.bl _)⟩
   ·rw[Nr c] at p;exact p.elim
  ·exact p.elim
 ·exact p.elim
end
end Sm
namespace L2
open PySem PySem.Spec PyProof.Rows
open PySem.Builtin PySem.Builtin.Str
section
variable{X:Cx}
def Jj{a b c d:Expr}{ta tb tc td:TE}{pos:Pos}{op op' op'':CmpOp}{r r' r'':R2}(ho:OpR X (compareOp op) r)(ho':OpR X (compareOp op') r')(ho'':OpR X (compareOp op'') r'')(ha:PE X a ta)(hb:PE X b tb)(hc:PE X c tc)(hd:PE X d td)
  (hm:lastMarks [op,op',op''] [b,c,d]=false:=by with_unfolding_all rfl):PE X (.Compare a [op,op',op''] [b,c,d] pos) (yk r r' r'' ta tb tc td):=by
 intro pins s σ H Q I h;refine Compare_chain (thn (ha pins s σ H _ I h) λv s1 ⟨x,H1,I1,r1,q1⟩=>Sn (thn (hb pins s1 σ H1 _ I1 q1) λu s2 ⟨y,H2,I2,r2,q2⟩ =>
  thn (ho pins s2 σ H2 x y v u _ I2 r1 r2 q2) λd s3 ⟨z,H3,I3,r3,k,e,q3⟩=>?_)) hm
 subst e
 cases r3
 refine NI ?_
 cases k with
 |false=>exact ite_ff ⟨.bl false,H3,I3,rfl,q3⟩
 |true =>
  refine ite_tt (Sn (thn (hc pins s3 σ H3 _ I3 q3) λw' s4 ⟨z',H4,I4,r4,q4⟩=>thn (ho' pins s4 σ H4 y z' u w' _ I4 r2 r4 q4) λd' s5 Zz=>?_));obtain⟨z2,H5,I5,r5,k2,e2,q5⟩:=Zz
  subst e2
  cases r5
  refine NI ?_
  cases k2 with
  |false=>exact ite_ff ⟨.bl false,H5,I5,rfl,q5⟩
  |true=>exact ite_tt (chain_last (thn (hd pins s5 σ H5 _ I5 q5) λw2 s6 ⟨z3,H6,I6,r6,q6⟩=>ho'' pins s6 σ H6 z' z3 w' w2 Q I6 r4 r6 q6))
def Jk(i j k:Nat)(ta:TA):TS:=λD σ H=>ta σ H λvs H1=>∃ v w z,vs=[v,w,z]/\D.nx (((σ.set i (some v)).set j (some w)).set k (some z)) H1
def Jl{i j k:Nat}{x y z:Str}{a b c:Expr}{ta:TA}{pos px py pz pt:Pos}{kt k2:Nat}{pt2:Pos}(hc:X.calm=true)(hN:X.N.Nodup)(hi:X.N[i]?=some x)(hj:X.N[j]?=some y)(hk:X.N[k]?=some z)(hij:i≠j)(hik:i≠k)(hjk:j≠k)
  (hx:X.env.scope.names.lookup x=some .local)(hy:X.env.scope.names.lookup y=some .local)(hz:X.env.scope.names.lookup z=some .local)(ha:PA X [a,b,c] ta)
  (hw:swappedStores [.Tuple [.Name x px,.Name y py,.Name z pz] kt pt] (.Tuple [a,b,c] k2 pt2) X.env=pure (some [x,y,z]))
  (hs:‹swapsWithSole [.Tuple [.Name x px,.Name y py,.Name z pz] kt pt] (.Tuple [a,b,c] k2 pt2) pos.line X.env=pure false›) :
  PS X (.Assign [.Tuple [.Name x px,.Name y py,.Name z pz] kt pt] (.Tuple [a,b,c] k2 pt2) pos) (Jk i j k ta):=by
 intro pins s σ H D I h;rw[exec_Assign_arm];refine Nj (QD ?_)
 rw[hs];refine Nj (Nu ?_)
 rw[Nr 'd'];refine Nj (Tuple_ (thn (ha _ pins s σ H _ I h) λus s1 Zz=>?_));obtain⟨vs,H1,I1,r1,q1⟩:=Zz
 obtain⟨v,w,v3,e1,q1⟩:=q1;subst e1;obtain⟨u1,u2,u3,rfl,rv,rw',r3⟩:∃ u1 u2 u3,us=[u1,u2,u3]/\RelV v u1/\RelV w u2/\RelV v3 u3:=by
  cases r1 with
  |cons p q =>
   cases q with
   |cons p' q' =>
    cases q' with
    |cons p2 q2 =>
     cases q2
     exact⟨_,_,_,rfl,p,p',p2⟩
 refine OS ?_ (by show 3<=sizeLine;decide)
 have I2:Inv X pins σ H1 { s1 with heap:=s1.heap.push { cls:=.type "tuple",data:=.seq [u1,u2,u3].toArray } }:=I1.kept (t':=s1.toks) λb o e=>Nq _ e
 rw[hw];refine Nj (Nu ?_)
 show wpAny (model X.prog X.w) X.A (do rule "assign.swapped-stores";let items <- unpackItems (.ref s1.heap.objs.size) 3 none;assignInOrder [λv=>bindName X.env z v,λv=>bindName X.env y v,λv=>bindName X.env x v] items.reverse;pure Flow.next) _ _ _
 refine Nj (RX (Nj (unpackItems_tuple (items:=#[u1,u2,u3]) (I.ok.hd hc) (IsTup.new s1.heap _) λh' hx'=>?_)))
 have I3:=I2.kept (h':=h') (t':=s1.toks) λb o e=>hx' b o (NX (Ny e)) e
 show wpAny _ _ (assignInOrder [λv=>bindName X.env z v,λv=>bindName X.env y v,λv=>bindName X.env x v] [u3,u2,u1] >>= λ_=>pure Flow.next) _ _ _
 refine Nj (Pz (RG (l9 I3 hN hk (.inl hz) r3 (λs2 I4=>?_) (.inr hz))))
 refine Pz (RG (l9 I4 hN hj (.inl hy) rw' (λs2 I5=>?_) (.inr hy)))
 refine Pz (RG (l9 I5 hN hi (.inl hx) rv (λs3 I6=>Sa (Nu ?_)) (.inr hx)))
 have e:((σ.set k (some v3)).set j (some w)).set i (some v)=((σ.set i (some v)).set j (some w)).set k (some v3):=by
  rw[RQ _ _ (Ne.symm hjk),RQ _ _ (Ne.symm hik),RQ _ _ (Ne.symm hij)]
 rw[e] at I6;exact⟨_,H1,I6,q1⟩
end
end L2
namespace Sm
open PySem PySem.Spec L2
section
variable{T:Tb}{E:L2.St->XK}{X:Cx}{pos:Pos}{a b c d:Expr}{sa sb sc sd:SE}
def Jm{op op' op'':CmpOp}{f f' f'':F2}(ho:Op T X (compareOp op) f)(ho':Op T X (compareOp op') f')(ho'':Op T X (compareOp op'') f'')(ha:aF T E X a sa)(hb:aF T E X b sb)(hc:aF T E X c sc)(hd:aF T E X d sd)(hm:lastMarks [op,op',op''] [b,c,d]=false:=by with_unfolding_all rfl) :
  aF T E X (.Compare a [op,op',op''] [b,c,d] pos) (iX f f' f'' sa sb sc sd):=by
 obtain⟨r,h1,hs⟩:=ho;obtain⟨r',h1',hs'⟩:=ho';obtain⟨r'',h1'',hs''⟩:=ho'';refine bO (Jj h1 h1' h1'' ha hb hc hd hm) λσ H Q q=>?_
 obtain⟨ι,h,en,S,er,q⟩:=q;unfold iX at q;refine⟨ι,h,en,S,er,q.bind λx h1 ι1 H1 u g1 S1 r1 q1=>?_⟩
 refine⟨ι1,h1,en,S1,er.mono g1,q1.bind λy h2 ι2 H2 w g2 S2 r2 q2=>?_⟩
 refine hs ι2 h2 H2 x y u w (E σ) _ S2 (r1.mono g2) r2 (q2.bind λz h3 ι3 H3 k g3 S3 r3 q3=>?_)
 split at q3
 ·rename_i kk
  rw[fG r3];refine⟨kk,rfl,?_⟩
  by_cases hkk:kk=true
  ·rw[Nn hkk] at q3 ⊢
   refine⟨ι3,h3,en,S3,er.mono (g1.trans (g2.trans g3)),q3.bind λv h4 ι4 H4 j g4 S4 r4 q4=>?_⟩
   refine hs' ι4 h4 H4 y v w j (E σ) _ S4 (r2.mono (g3.trans g4)) r4 (q4.bind λz2 h5 ι5 H5 k5 g5 S5 r5 q5=>?_)
   split at q5
   ·rename_i k2
    rw[fG r5];refine⟨k2,rfl,?_⟩
    by_cases hk2:k2=true
    ·rw[Nn hk2] at q5 ⊢
     refine⟨ι5,h5,en,S5,er.mono (g1.trans (g2.trans (g3.trans (g4.trans g5)))),q5.bind λv6 h6 ι6 H6 j6 g6 S6 r6 q6=>?_⟩
     exact hs'' ι6 h6 H6 v v6 j j6 (E σ) _ S6 (r4.mono (g5.trans g6)) r6 q6
    ·rw[Nr hk2] at q5 ⊢
     exact q5.now S5 (.bl _)
   ·exact q5.elim
  ·rw[Nr hkk] at q3 ⊢
   exact q3.now S3 (.bl _)
 ·exact q3.elim
def qL(i j k:Nat)(as:SL):SS:=λen h=>(as en h).go en λvs h1=>match vs with
 |[v,w,z]=>.nx (((en.set i (some v)).set j (some w)).set k (some z)) h1
 |_=>.bad
def Jn{i j k:Nat}{x y z:Str}{as:SL}{px py pz pt pt2:Pos}{kt k2:Nat}(hN:X.N.Nodup)(ha:fD T E X [a,b,c] as)(hc:‹X.calm=true›)(hij:i≠j:=by decide)(hik:i≠k:=by decide)(hjk:j≠k:=by decide)(hi:‹X.N[i]?=some x›)(hj:‹X.N[j]?=some y›)(hk:‹X.N[k]?=some z›)(hx:‹X.env.scope.names.lookup x=some .local›)(hy:‹X.env.scope.names.lookup y=some .local›)(hz:‹X.env.scope.names.lookup z=some .local›)
  (hw:‹swappedStores [.Tuple [.Name x px,.Name y py,.Name z pz] kt pt] (.Tuple [a,b,c] k2 pt2) X.env=pure (some [x,y,z])›)(hs:‹swapsWithSole [.Tuple [.Name x px,.Name y py,.Name z pz] kt pt] (.Tuple [a,b,c] k2 pt2) pos.line X.env=pure false›) :
  fX T E X (.Assign [.Tuple [.Name x px,.Name y py,.Name z pz] kt pt] (.Tuple [a,b,c] k2 pt2) pos) (qL i j k as):=by
 refine g9 (Jl hc hN hi hj hk hij hik hjk hx hy hz ha hw hs) λD σ H=>E6x λι h en S er q=>⟨ι,h,en,S,er,q.go er λvs h1 ι1 H1 us g1 S1 r1 q1=>?_⟩
 split at q1
 ·cases r1 with
  |cons r r' =>
   cases r' with
   |cons r2 r3 =>
    cases r3 with
    |cons r4 r5 =>
     cases r5
     exact⟨_,_,_,rfl,q1 ι1 H1 _ S1.refl S1 ((((er.mono g1).set r i).set r2 j).set r4 k)⟩
 ·exact q1.elim
end
end Sm
namespace Sk
open PySem PySem.Spec L2 Sm
abbrev uQ:Nat:=0
abbrev uR:Nat:=1
abbrev j8:Nat:=2
abbrev dP:Nat:=3
def qM(c:Nat):Bool:=[true,false,false,false].getD c false
def qN(c:Nat):Bool:=[false,true,false,false].getD c false
def mQ(c:Nat):Bool:=[false,false,false,true].getD c false
def qO(c:Nat):Bool:=[false,false,true,false].getD c false
def oz(c:Nat):Bool:=[true,false,false,false].getD c false
def zD(c:Nat):Bool:=[false,false,false,false].getD c false
def uS(c:Nat):Bool:=[false,true,false,false].getD c false
def uT:Fn:=aw 1 1
  (ai (gB 0 0 (aa 0) (fE af))
  (ai (gB 0 1 (aa 0) (kR true))
  (ai (gB 0 2 (aa 0) (fE (ah (ae (.int 0)) af)))
  (ai (gB 0 3 (aa 0) (fE (ah (ae (.int 0)) af)))
  (ai (gB 0 4 (aa 0) (fE (ah (ae (.int 0)) af)))
  (ai (gB 0 5 (aa 0) (fE (ah (eV cn (ae (.int 1))) af)))
  (ai (gB 0 6 (aa 0) (fE (ah (ae (.int 0)) af)))
  (gB 0 7 (aa 0) (fE (ah (ae (.int 0)) af))))))))))
def mR:Fn:=aw 1 1
  (ai (gB 1 0 (aa 0) (mw 0 8 uT af))
  (ai (gB 1 1 (aa 0) (kR false))
  (ai (gB 1 2 (aa 0) (fE af))
  (gB 1 3 (aa 0) (fE af)))))
def qP:Fn:=aw 2 3
  (ai (au 2 (ag bB (ag aW (ag ay (ag ay (ag bB (aa 0) (ae (.int 1000000007))) (ag aW (ae (.int 7919)) (aa 1))) (ae (.int 101))) (ae (.int 48271))) (ae (.int 2147483647))))
  (ak (ag bB (ag aW (ag bB (ag aW (aa 2) (aa 2)) (ae (.int 2147483629))) (ae (.int 69621))) (ae (.int 2147483647)))))
def mS:SS :=au 2 (ag ay (ag aW (aa 2) (ag aW (ag bS (ae (.int 10)) (ae (.int 60))) (ag bS (ae (.int 10)) (ae (.int 60))))) (ag bB (ag ao (aa 0) (aa 3)) (ag aW (ag bS (ae (.int 10)) (ae (.int 60))) (ag bS (ae (.int 10)) (ae (.int 60))))))
def mT:SS :=au 4 (ag ay (ag aW (aa 4) (ae (.int 2147483647))) (ar qP (ah (ag ay (ag ay (aa 2) (ag aW (ae (.int 1009)) (aa 1))) (ar aB (ah (aa 0) af))) (ah (aa 3) af))))
def lC:Fn:=aw 2 5
  (ai (au 2 (ae (.int 0)))
  (ai (bT (jz (aa 1) (ar aB (ah (aa 0) af)) (ae (.int 8))) (.nm 3) mS)
  (ai (aG (aD (ag jY (aa 2) (ag bS (ae (.int 10)) (ae (.int 18))))) (ak (fE (ah (aa 2) af))) aH)
  (ai (au 2 (ag ay (aa 2) (ar gJ (ah (e7 [] (d9 (aa 0)) bI (ag bB (aa 0) (ag bS (ae (.int 10)) (ae (.int 18))))) af))))
  (ai (au 4 (ae (.int 0)))
  (ai (bT (kT (ae (.int 16))) (.nm 3) mT)
  (ak (fE (ah (aa 4) af)))))))))
def aX:Fn:=aw 2 3
  (ai (au 2 (ag bB (ag ao (aa 0) (ae (.int 0))) (aa 1)))
  (ai (fN (aa 0) (ae (.int 0)) (ag cG (ag ao (aa 0) (ae (.int 0))) (aa 1)))
  (ak (aa 2))))
def mU:Fn:=aw 1 1
  (ak (ar lA (ah (Sm.sFld 1 1 (aa 0)) af)))
def gj:Fn:=aw 1 1
  (ak (ar aB (ah (Sm.sFld 0 0 (aa 0)) af)))
def qQ:Fn:=aw 1 1
  (ak (kS (fh "int" (aa 0)) (jq (fh "bool" (aa 0)))))
def qR:Fn:=aw 2 2
  (ak (kS (ar qQ (ah (aa 1) af)) (eQ aV aV (ae (.int 1)) (aa 1) (ar aB (ah (Sm.sFld 0 0 (aa 0)) af)))))
def lD:Fn:=aw 2 2
  (aG (dM (jo (aA 0 qR (aa 0) (ah (aa 1) af)))) lB aH)
def cM:Fn:=aw 2 2
  (ai (aU (aA 0 lD (aa 0) (ah (aa 1) af)))
  (ak (ag ao (Sm.sFld 0 0 (aa 0)) (ag bH (aa 1) (ae (.int 1))))))
def i4:Fn:=aw 3 3
  (aG (aD (ag jm (aa 2) (ae .non))) (aU (iY (Sm.sFld 1 1 (aa 0)) (aa 1))) (fN (Sm.sFld 1 1 (aa 0)) (aa 1) (aa 2)))
def oA:Fn:=aw 1 2
  (ai (aG (aD (ag az (Sm.sFld 1 2 (aa 0)) (aK af))) lB aH)
  (ai (au 1 (gD bh cZ (Sm.sFld 1 2 (aa 0))))
  (ai (aU (dC bh bL (Sm.sFld 1 3 (aa 0)) (ah (aa 1) af)))
  (aU (aA 1 i4 (aa 0) (ah (ag ao (aa 1) (ae (.int 0))) (ah (ag ao (aa 1) (ae (.int 1))) af)))))))
def fR:Fn:=aw 1 1
  (ai (aG (dM (jo (fh "str" (aa 0)))) (ak (ae (.bl false))) aH)
  (ak (kS (eQ aV aV (ae (.int 1)) (ar aB (ah (aa 0) af)) (ae (.int 8))) (ar gC (ah (e7 [] (d9 (aa 0)) bI (eQ aV aV (ae (.str "a")) (aa 0) (ae (.str "z")))) af)))))
def iC:Fn:=aw 1 1
  (aG (dM (jo (ar fR (ah (aa 0) af)))) (iq 3 (ah (ae (.str "a name has one to eight small letters")) af)) aH)
def bP:Fn:=aw 3 3
  (ai (aU (dC bh bL (Sm.sFld 1 2 (aa 0)) (ah (aS (ah (aa 1) (ah (ow (Sm.sFld 1 1 (aa 0)) (aa 1)) (ah (aa 2) af)))) af)))
  (ai (aU (gD bh mL (Sm.sFld 1 3 (aa 0))))
  (aU (aA 1 i4 (aa 0) (ah (aa 1) (ah (aa 2) af))))))
def oB:Fn:=aw 3 4
  (ai (aU (aA 0 lD (aa 0) (ah (aa 1) af)))
  (ai (aU (aA 0 lD (aa 0) (ah (aa 2) af)))
  (ai (au 3 (ag ay (ag ao (Sm.sFld 0 2 (aa 0)) (ag ao (Sm.sFld 0 7 (aa 0)) (aa 1))) (ag ao (Sm.sFld 0 2 (aa 0)) (ag ao (Sm.sFld 0 6 (aa 0)) (aa 2)))))
  (ai (aG (aD (ag aV (aa 3) (ae (.int 8)))) lB aH)
  (ai (aG (aD (ag cq (ar kU (ah (ag bH (ag ao (Sm.sFld 0 5 (aa 0)) (aa 1)) (ag ao (Sm.sFld 0 5 (aa 0)) (aa 2))) af)) (ae (.int 1)))) lB aH)
  (aG (aD (ag cq (ag ay (ag ao (Sm.sFld 0 2 (aa 0)) (aa 1)) (ag ao (Sm.sFld 0 2 (aa 0)) (aa 2))) (ae (.int 1000000000000000000)))) (iq 1 (ah (ae (.str "the fork would have more than 10 ** 18 signs")) af)) aH))))))
def oC:Fn:=aw 2 3
  (ai (aU (dC bh bL (Sm.sFld 0 0 (aa 0)) (ah (aa 1) af)))
  (ai (au 2 (ar aB (ah (Sm.sFld 0 0 (aa 0)) af)))
  (ai (fN (Sm.sFld 0 1 (aa 0)) (aa 1) (aa 2))
  (ak (aa 2)))))
def oE:Fn:=aw 2 4
  (ai (aU (aA 0 oC (aa 0) (ah (aa 1) af)))
  (ai (au 2 (ag ao (aa 1) (ae (.int 1))))
  (ai (au 3 (ag ao (aa 1) (ae (.int 2))))
  (ai (aU (dC bh bL (Sm.sFld 0 2 (aa 0)) (ah (ag ay (ag ao (Sm.sFld 0 2 (aa 0)) (aa 2)) (ag ao (Sm.sFld 0 2 (aa 0)) (aa 3))) af)))
  (ai (aU (dC bh bL (Sm.sFld 0 3 (aa 0)) (ah (ag ay (ag ao (Sm.sFld 0 3 (aa 0)) (aa 2)) (ag ao (Sm.sFld 0 3 (aa 0)) (aa 3))) af)))
  (ai (aU (dC bh bL (Sm.sFld 0 4 (aa 0)) (ah (ag ay (ag ao (Sm.sFld 0 4 (aa 0)) (aa 2)) (ag ao (Sm.sFld 0 4 (aa 0)) (aa 3))) af)))
  (ai (aU (dC bh bL (Sm.sFld 0 5 (aa 0)) (ah (ag ay (ar fg (ah (ag ao (Sm.sFld 0 5 (aa 0)) (aa 2)) (ah (ag ao (Sm.sFld 0 5 (aa 0)) (aa 3)) af))) (ae (.int 1))) af)))
  (ai (aU (dC bh bL (Sm.sFld 0 6 (aa 0)) (ah (ag ao (Sm.sFld 0 6 (aa 0)) (aa 2)) af)))
  (aU (dC bh bL (Sm.sFld 0 7 (aa 0)) (ah (ag ao (Sm.sFld 0 7 (aa 0)) (aa 3)) af)))))))))))
def aP:Fn:=aw 3 4
  (ai (aU (aA 0 oB (aa 0) (ah (aa 1) (ah (aa 2) af))))
  (ai (au 3 (aS (ah (ae (.str "fork")) (ah (aa 1) (ah (aa 2) af)))))
  (ai (aG (aD (ag cU (aa 3) (Sm.sFld 0 1 (aa 0)))) (aU (aA 0 oE (aa 0) (ah (aa 3) af))) aH)
  (ak (ag ao (Sm.sFld 0 1 (aa 0)) (aa 3))))))
def uU(G:Fn):Fn:=aw 2 3
  (ai (aG (aD (ag az (ar aB (ah (aa 1) af)) (ae (.int 1)))) (ak (ag ao (aa 1) (ae (.int 0)))) aH)
  (ai (au 2 (ag cG (ar aB (ah (aa 1) af)) (ae (.int 2))))
  (ak (aA 0 aP (aa 0) (ah (ar G (ah (aa 0) (ah (bU (aa 1) none (some (aa 2))) af))) (ah (ar G (ah (aa 0) (ah (bU (aa 1) (some (aa 2)) none) af))) af))))))
def hW:Nat->Fn
 |0=>aw 2 3 (λ_ _=>.bad)
 |d+1=>uU (hW d)
def oF:Fn:=aw 1 1
  (ak (eY (ag az (aa 0) (ae (.str "\n"))) (eQ aV aV (ae (.str " ")) (aa 0) (ae (.str "~")))))
def iD:Fn:=aw 1 1
  (ai (aG (dM (jo (fh "str" (aa 0)))) (ak (ae (.bl false))) aH)
  (ak (ar gC (ah (e7 [] (d9 (aa 0)) bI (ar oF (ah (aa 0) af))) af))))
def qS:Fn:=aw 1 1
  (ak (kS (ar iD (ah (aa 0) af)) (eQ aV aV (ae (.int 1)) (ar aB (ah (aa 0) af)) (ae (.int 8)))))
def qT:Fn:=aw 1 1
  (ak (dC t8 ua (aa 0) (ah (ae (.str "\n")) af)))
def oG:Fn:=aw 2 4
  (ai (au 2 (aA 0 oC (aa 0) (ah (aa 1) af)))
  (ai (au 3 (ag ao (aa 1) (ae (.int 1))))
  (ai (aU (dC bh bL (Sm.sFld 0 2 (aa 0)) (ah (ar aB (ah (aa 3) af)) af)))
  (ai (aU (dC bh bL (Sm.sFld 0 3 (aa 0)) (ah (ar qT (ah (aa 3) af)) af)))
  (ai (aU (dC bh bL (Sm.sFld 0 4 (aa 0)) (ah (ae (.int 1)) af)))
  (ai (aU (dC bh bL (Sm.sFld 0 5 (aa 0)) (ah (ae (.int 0)) af)))
  (ai (aU (dC bh bL (Sm.sFld 0 6 (aa 0)) (ah (aa 2) af)))
  (aU (dC bh bL (Sm.sFld 0 7 (aa 0)) (ah (aa 2) af))))))))))
def d0:Fn:=aw 2 3
  (ai (aG (dM (jo (ar qS (ah (aa 1) af)))) (iq 0 (ah (ae (.str "a leaf is a plain text of one to eight signs")) af)) aH)
  (ai (au 2 (aS (ah (ae (.str "leaf")) (ah (aa 1) af))))
  (ai (aG (aD (ag cU (aa 2) (Sm.sFld 0 1 (aa 0)))) (aU (aA 0 oG (aa 0) (ah (aa 2) af))) aH)
  (ak (ag ao (Sm.sFld 0 1 (aa 0)) (aa 2))))))
def gR:Fn:=aw 2 3
  (ai (aG (dM (jo (ar iD (ah (aa 1) af)))) (iq 0 (ah (ae (.str "a text is built of a plain text")) af)) aH)
  (ai (aG (aD (ag cq (ar aB (ah (aa 1) af)) (ae (.int 10000)))) (iq 1 (ah (ae (.str "a text is built of ten thousand signs at most")) af)) aH)
  (ai (aG (aD (ag az (aa 1) (ae (.str "")))) (ak (ae (.int 0))) aH)
  (ai (au 2 (e7 [0,1] (jz (ae (.int 0)) (ar aB (ah (aa 1) af)) (ae (.int 8))) bI (aA 0 d0 (aa 1) (ah (bU (aa 2) (some (aa 0)) (some (ag ay (aa 0) (ae (.int 8))))) af))))
  (ak (ar (hW 20) (ah (aa 0) (ah (aa 2) af))))))))
def jC:Fn:=aw 3 3
  (ai (aU (ar iC (ah (aa 1) af)))
  (aU (aA 1 bP (aa 0) (ah (aa 1) (ah (ar gR (ah (Sm.sFld 1 0 (aa 0)) (ah (aa 2) af))) af)))))
def bA:Fn:=aw 2 2
  (ai (aG (nU (dM (jo (ar fR (ah (aa 1) af)))) (aD (ag cU (aa 1) (Sm.sFld 1 1 (aa 0))))) (iq 3 (ah (ae (.str "this name is not there")) af)) aH)
  (ak (ag ao (Sm.sFld 1 1 (aa 0)) (aa 1))))
def jD:Fn:=aw 3 3
  (ai (aU (ar iC (ah (aa 1) af)))
  (aU (aA 1 bP (aa 0) (ah (aa 1) (ah (aA 1 bA (aa 0) (ah (aa 2) af)) af)))))
def jE:Fn:=aw 1 1
  (aG (aD (ag cq (aa 0) (ae (.int 1000000000000000000)))) (iq 1 (ah (ae (.str "the text would have more than 10 ** 18 signs")) af)) aH)
def j9:Fn:=aw 2 2
  (aG (aD (ag fM (aa 1) (ae (.int 0)))) (aU (aA 0 lD (aa 0) (ah (aa 1) af))) aH)
def dQ:Fn:=aw 2 2
  (ai (aU (aA 0 j9 (aa 0) (ah (aa 1) af)))
  (ak (ag ao (Sm.sFld 0 2 (aa 0)) (aa 1))))
def oH:Fn:=aw 2 2
  (ai (aU (aA 0 j9 (aa 0) (ah (aa 1) af)))
  (ak (ag ao (Sm.sFld 0 7 (aa 0)) (aa 1))))
def oI:Fn:=aw 2 2
  (ai (aU (aA 0 j9 (aa 0) (ah (aa 1) af)))
  (ak (ag ao (Sm.sFld 0 6 (aa 0)) (aa 1))))
def qU:Fn:=aw 3 3
  (ak (ag cq (ag ay (aA 0 dQ (aa 0) (ah (aA 0 oH (aa 0) (ah (aa 1) af)) af)) (aA 0 dQ (aa 0) (ah (aA 0 oI (aa 0) (ah (aa 2) af)) af))) (ae (.int 8))))
def uV(G:Fn):Fn:=aw 3 4
  (ai (au 3 (aA 0 cM (aa 0) (ah (aa 1) af)))
  (ai (aG (aD (ag az (ag ao (aa 3) (ae (.int 0))) (ae (.str "leaf")))) (ak (aa 2)) aH)
  (ak (aA 0 aP (aa 0) (ah (ag ao (aa 3) (ae (.int 1))) (ah (ar G (ah (aa 0) (ah (ag ao (aa 3) (ae (.int 2))) (ah (aa 2) af)))) af))))))
def hX:Nat->Fn
 |0=>aw 3 4 (λ_ _=>.bad)
 |d+1=>uV (hX d)
def gT:Fn:=aw 2 2
  (ai (aU (aA 0 j9 (aa 0) (ah (aa 1) af)))
  (ak (ag ao (Sm.sFld 0 5 (aa 0)) (aa 1))))
def gp:Fn:=aw 3 7
  (ai (aG (aD (ag dy (ag bH (aA 0 gT (aa 0) (ah (aa 2) af)) (aA 0 gT (aa 0) (ah (aa 1) af))) (ae (.int 2)))) (ak (aA 0 aP (aa 0) (ah (aa 1) (ah (aa 2) af)))) aH)
  (ai (au 3 (aA 0 cM (aa 0) (ah (aa 2) af)))
  (ai (au 4 (ag ao (aa 3) (ae (.int 1))))
  (ai (au 5 (ag ao (aa 3) (ae (.int 2))))
  (ai (aG (aD (ag aV (aA 0 gT (aa 0) (ah (aa 4) af)) (aA 0 gT (aa 0) (ah (aa 5) af)))) (ak (aA 0 aP (aa 0) (ah (aA 0 aP (aa 0) (ah (aa 1) (ah (aa 4) af))) (ah (aa 5) af)))) aH)
  (ai (au 6 (aA 0 cM (aa 0) (ah (aa 4) af)))
  (ak (aA 0 aP (aa 0) (ah (aA 0 aP (aa 0) (ah (aa 1) (ah (ag ao (aa 6) (ae (.int 1))) af))) (ah (aA 0 aP (aa 0) (ah (ag ao (aa 6) (ae (.int 2))) (ah (aa 5) af))) af))))))))))
def qV(G:Fn):Fn:=aw 2 4
  (ai (au 2 (aA 0 cM (aa 0) (ah (aa 1) af)))
  (ai (aG (aD (ag az (ag ao (aa 2) (ae (.int 0))) (ae (.str "leaf")))) (ak (ae (.int 0))) aH)
  (ai (au 3 (ar G (ah (aa 0) (ah (ag ao (aa 2) (ae (.int 1))) af))))
  (ai (aG (aD (ag az (aa 3) (ae (.int 0)))) (ak (ag ao (aa 2) (ae (.int 2)))) aH)
  (ak (ar gp (ah (aa 0) (ah (aa 3) (ah (ag ao (aa 2) (ae (.int 2))) af)))))))))
def fH:Nat->Fn
 |0=>aw 2 4 (λ_ _=>.bad)
 |d+1=>qV (fH d)
def iE:Fn:=aw 3 7
  (ai (aG (aD (ag dy (ag bH (aA 0 gT (aa 0) (ah (aa 1) af)) (aA 0 gT (aa 0) (ah (aa 2) af))) (ae (.int 2)))) (ak (aA 0 aP (aa 0) (ah (aa 1) (ah (aa 2) af)))) aH)
  (ai (au 3 (aA 0 cM (aa 0) (ah (aa 1) af)))
  (ai (au 4 (ag ao (aa 3) (ae (.int 1))))
  (ai (au 5 (ag ao (aa 3) (ae (.int 2))))
  (ai (aG (aD (ag aV (aA 0 gT (aa 0) (ah (aa 5) af)) (aA 0 gT (aa 0) (ah (aa 4) af)))) (ak (aA 0 aP (aa 0) (ah (aa 4) (ah (aA 0 aP (aa 0) (ah (aa 5) (ah (aa 2) af))) af)))) aH)
  (ai (au 6 (aA 0 cM (aa 0) (ah (aa 5) af)))
  (ak (aA 0 aP (aa 0) (ah (aA 0 aP (aa 0) (ah (aa 4) (ah (ag ao (aa 6) (ae (.int 1))) af))) (ah (aA 0 aP (aa 0) (ah (ag ao (aa 6) (ae (.int 2))) (ah (aa 2) af))) af))))))))))
def qW(G:Fn):Fn:=aw 3 5
  (ai (au 3 (ag bH (aA 0 gT (aa 0) (ah (aa 1) af)) (aA 0 gT (aa 0) (ah (aa 2) af))))
  (ai (aG (aD (ag cq (aa 3) (ae (.int 1)))) (ai (au 4 (aA 0 cM (aa 0) (ah (aa 1) af)))
  (ak (ar gp (ah (aa 0) (ah (ag ao (aa 4) (ae (.int 1))) (ah (ar G (ah (aa 0) (ah (ag ao (aa 4) (ae (.int 2))) (ah (aa 2) af)))) af)))))) aH)
  (ai (aG (aD (ag dy (aa 3) (eV cn (ae (.int 1))))) (ai (au 4 (aA 0 cM (aa 0) (ah (aa 2) af)))
  (ak (ar iE (ah (aa 0) (ah (ar G (ah (aa 0) (ah (aa 1) (ah (ag ao (aa 4) (ae (.int 1))) af)))) (ah (ag ao (aa 4) (ae (.int 2))) af)))))) aH)
  (ak (aA 0 aP (aa 0) (ah (aa 1) (ah (aa 2) af)))))))
def fu:Nat->Fn
 |0=>aw 3 5 (λ_ _=>.bad)
 |d+1=>qW (fu d)
def lE:Fn:=aw 3 6
  (ai (au 3 (ag ay (ag ao (aA 0 cM (aa 0) (ah (aA 0 oH (aa 0) (ah (aa 1) af)) af)) (ae (.int 1))) (ag ao (aA 0 cM (aa 0) (ah (aA 0 oI (aa 0) (ah (aa 2) af)) af)) (ae (.int 1)))))
  (ai (au 4 (ar (hX 90) (ah (aa 0) (ah (aa 1) (ah (aA 0 d0 (aa 0) (ah (aa 3) af)) af)))))
  (ai (au 5 (ar (fH 90) (ah (aa 0) (ah (aa 2) af))))
  (ai (aG (aD (ag az (aa 5) (ae (.int 0)))) (ak (aa 4)) aH)
  (ak (ar (fu 90) (ah (aa 0) (ah (aa 4) (ah (aa 5) af)))))))))
def bC:Fn:=aw 3 3
  (ai (aU (ar jE (ah (ag ay (aA 0 dQ (aa 0) (ah (aa 1) af)) (aA 0 dQ (aa 0) (ah (aa 2) af))) af)))
  (ai (aG (aD (ag az (aa 1) (ae (.int 0)))) (ak (aa 2)) aH)
  (ai (aG (aD (ag az (aa 2) (ae (.int 0)))) (ak (aa 1)) aH)
  (ai (aG (jo (ar qU (ah (aa 0) (ah (aa 1) (ah (aa 2) af))))) (ak (ar (fu 90) (ah (aa 0) (ah (aa 1) (ah (aa 2) af))))) aH)
  (ak (ar lE (ah (aa 0) (ah (aa 1) (ah (aa 2) af)))))))))
def jF:Fn:=aw 3 3
  (aU (aA 1 bP (aa 0) (ah (aa 1) (ah (ar bC (ah (Sm.sFld 1 0 (aa 0)) (ah (aA 1 bA (aa 0) (ah (aa 1) af)) (ah (aA 1 bA (aa 0) (ah (aa 2) af)) af)))) af))))
def ka:Fn:=aw 3 4
  (ai (au 3 (aA 0 dQ (aa 0) (ah (aa 1) af)))
  (aG (dM (aD (eQ aV aV (ae (.int 0)) (aa 2) (aa 3)))) (iq 2 (ah (ae (.str "the text has no such place, and does not end there")) af)) aH))
def lF(G:Fn):Fn:=aw 3 5
  (ai (aG (aD (ag az (aa 2) (ae (.int 0)))) (ak (ae (.int 0))) aH)
  (ai (aG (aD (ag az (aa 2) (aA 0 dQ (aa 0) (ah (aa 1) af)))) (ak (aa 1)) aH)
  (ai (au 3 (aA 0 cM (aa 0) (ah (aa 1) af)))
  (ai (aG (aD (ag az (ag ao (aa 3) (ae (.int 0))) (ae (.str "leaf")))) (ak (aA 0 d0 (aa 0) (ah (bU (ag ao (aa 3) (ae (.int 1))) none (some (aa 2))) af))) aH)
  (ai (au 4 (aA 0 dQ (aa 0) (ah (ag ao (aa 3) (ae (.int 1))) af)))
  (ai (aG (aD (ag aV (aa 2) (aa 4))) (ak (ar G (ah (aa 0) (ah (ag ao (aa 3) (ae (.int 1))) (ah (aa 2) af))))) aH)
  (ak (ar bC (ah (aa 0) (ah (ag ao (aa 3) (ae (.int 1))) (ah (ar G (ah (aa 0) (ah (ag ao (aa 3) (ae (.int 2))) (ah (ag bH (aa 2) (aa 4)) af)))) af)))))))))))
def c6:Nat->Fn
 |0=>aw 3 5 (λ_ _=>.bad)
 |d+1=>lF (c6 d)
def lG(G:Fn):Fn:=aw 3 5
  (ai (aG (aD (ag az (aa 2) (ae (.int 0)))) (ak (aa 1)) aH)
  (ai (aG (aD (ag az (aa 2) (aA 0 dQ (aa 0) (ah (aa 1) af)))) (ak (ae (.int 0))) aH)
  (ai (au 3 (aA 0 cM (aa 0) (ah (aa 1) af)))
  (ai (aG (aD (ag az (ag ao (aa 3) (ae (.int 0))) (ae (.str "leaf")))) (ak (aA 0 d0 (aa 0) (ah (bU (ag ao (aa 3) (ae (.int 1))) (some (aa 2)) none) af))) aH)
  (ai (au 4 (aA 0 dQ (aa 0) (ah (ag ao (aa 3) (ae (.int 1))) af)))
  (ai (aG (aD (ag jY (aa 2) (aa 4))) (ak (ar G (ah (aa 0) (ah (ag ao (aa 3) (ae (.int 2))) (ah (ag bH (aa 2) (aa 4)) af))))) aH)
  (ak (ar bC (ah (aa 0) (ah (ar G (ah (aa 0) (ah (ag ao (aa 3) (ae (.int 1))) (ah (aa 2) af)))) (ah (ag ao (aa 3) (ae (.int 2))) af)))))))))))
def df:Nat->Fn
 |0=>aw 3 5 (λ_ _=>.bad)
 |d+1=>lG (df d)
def i5:Fn:=aw 4 6
  (ai (au 4 (ag ay (aA 0 dQ (aa 0) (ah (aa 1) af)) (aA 0 dQ (aa 0) (ah (aa 3) af))))
  (ai (aU (ar ka (ah (aa 0) (ah (aa 1) (ah (aa 2) af)))))
  (ai (aU (ar jE (ah (aa 4) af)))
  (ai (au 5 (ar bC (ah (aa 0) (ah (ar (c6 90) (ah (aa 0) (ah (aa 1) (ah (aa 2) af)))) (ah (aa 3) af)))))
  (ak (ar bC (ah (aa 0) (ah (aa 5) (ah (ar (df 90) (ah (aa 0) (ah (aa 1) (ah (aa 2) af)))) af)))))))))
def iF:Fn:=aw 4 4
  (aU (aA 1 bP (aa 0) (ah (aa 1) (ah (ar i5 (ah (Sm.sFld 1 0 (aa 0)) (ah (aA 1 bA (aa 0) (ah (aa 1) af)) (ah (aa 2) (ah (aA 1 bA (aa 0) (ah (aa 3) af)) af))))) af))))
def jG:Fn:=aw 4 5
  (ai (au 4 (aA 0 dQ (aa 0) (ah (aa 1) af)))
  (aG (dM (aD (iX aV aV aV (ae (.int 0)) (aa 2) (aa 3) (aa 4)))) (iq 2 (ah (ae (.str "the text has no such stretch")) af)) aH))
def jH:Fn:=aw 4 4
  (ai (aU (ar jG (ah (aa 0) (ah (aa 1) (ah (aa 2) (ah (aa 3) af))))))
  (ak (ar bC (ah (aa 0) (ah (ar (c6 90) (ah (aa 0) (ah (aa 1) (ah (aa 2) af)))) (ah (ar (df 90) (ah (aa 0) (ah (aa 1) (ah (aa 3) af)))) af))))))
def jI:Fn:=aw 4 4
  (aU (aA 1 bP (aa 0) (ah (aa 1) (ah (ar jH (ah (Sm.sFld 1 0 (aa 0)) (ah (aA 1 bA (aa 0) (ah (aa 1) af)) (ah (aa 2) (ah (aa 3) af))))) af))))
def qX(G:Fn):Fn:=aw 3 5
  (ai (aG (aD (ag az (aa 2) (ae (.int 0)))) (ak (ae (.int 0))) aH)
  (ai (au 3 (ar G (ah (aa 0) (ah (aa 1) (ah (ag cG (aa 2) (ae (.int 2))) af)))))
  (ai (au 4 (ar bC (ah (aa 0) (ah (aa 3) (ah (aa 3) af)))))
  (ai (aG (aD (ag az (ag bB (aa 2) (ae (.int 2))) (ae (.int 0)))) (ak (aa 4)) aH)
  (ak (ar bC (ah (aa 0) (ah (aa 4) (ah (aa 1) af)))))))))
def eF:Nat->Fn
 |0=>aw 3 5 (λ_ _=>.bad)
 |d+1=>qX (eF d)
def gU:Fn:=aw 3 4
  (ai (au 3 (aA 0 dQ (aa 0) (ah (aa 1) af)))
  (ai (aG (aD (ag dy (aa 2) (ae (.int 0)))) (iq 2 (ah (ae (.str "a text is repeated 0 times at least")) af)) aH)
  (ai (aU (ar jE (ah (ag aW (aa 3) (aa 2)) af)))
  (ai (aG (aD (ag az (aa 1) (ae (.int 0)))) (ak (ae (.int 0))) aH)
  (ak (ar (eF 64) (ah (aa 0) (ah (aa 1) (ah (aa 2) af)))))))))
def iG:Fn:=aw 3 3
  (aU (aA 1 bP (aa 0) (ah (aa 1) (ah (ar gU (ah (Sm.sFld 1 0 (aa 0)) (ah (aA 1 bA (aa 0) (ah (aa 1) af)) (ah (aa 2) af)))) af))))
def lH:Fn:=aw 2 2
  (ai (aU (aA 1 bA (aa 0) (ah (aa 1) af)))
  (aU (aA 1 bP (aa 0) (ah (aa 1) (ah (ae .non) af)))))
def zE:Fn:=aw 1 2
  (ai (aG (aD (ag az (Sm.sFld 1 3 (aa 0)) (aK af))) lB aH)
  (ai (au 1 (gD bh cZ (Sm.sFld 1 3 (aa 0))))
  (ai (aU (dC bh bL (Sm.sFld 1 2 (aa 0)) (ah (aa 1) af)))
  (aU (aA 1 i4 (aa 0) (ah (ag ao (aa 1) (ae (.int 0))) (ah (ag ao (aa 1) (ae (.int 2))) af)))))))
def dR:Fn:=aw 2 2
  (ai (aG (aD (ag az (ag ao (aa 1) (ae (.int 0))) (ae (.str "give")))) (ak (aA 1 jC (aa 0) (ah (ag ao (aa 1) (ae (.int 1))) (ah (ag ao (aa 1) (ae (.int 2))) af)))) aH)
  (ai (aG (aD (ag az (ag ao (aa 1) (ae (.int 0))) (ae (.str "copy_of")))) (ak (aA 1 jD (aa 0) (ah (ag ao (aa 1) (ae (.int 1))) (ah (ag ao (aa 1) (ae (.int 2))) af)))) aH)
  (ai (aG (aD (ag az (ag ao (aa 1) (ae (.int 0))) (ae (.str "join_to")))) (ak (aA 1 jF (aa 0) (ah (ag ao (aa 1) (ae (.int 1))) (ah (ag ao (aa 1) (ae (.int 2))) af)))) aH)
  (ai (aG (aD (ag az (ag ao (aa 1) (ae (.int 0))) (ae (.str "put_into")))) (ak (aA 1 iF (aa 0) (ah (ag ao (aa 1) (ae (.int 1))) (ah (ag ao (aa 1) (ae (.int 2))) (ah (ag ao (aa 1) (ae (.int 3))) af))))) aH)
  (ai (aG (aD (ag az (ag ao (aa 1) (ae (.int 0))) (ae (.str "take_from")))) (ak (aA 1 jI (aa 0) (ah (ag ao (aa 1) (ae (.int 1))) (ah (ag ao (aa 1) (ae (.int 2))) (ah (ag ao (aa 1) (ae (.int 3))) af))))) aH)
  (ai (aG (aD (ag az (ag ao (aa 1) (ae (.int 0))) (ae (.str "repeat")))) (ak (aA 1 iG (aa 0) (ah (ag ao (aa 1) (ae (.int 1))) (ah (ag ao (aa 1) (ae (.int 2))) af)))) aH)
  (ai (aG (aD (ag az (ag ao (aa 1) (ae (.int 0))) (ae (.str "drop")))) (ak (aA 1 lH (aa 0) (ah (ag ao (aa 1) (ae (.int 1))) af))) aH)
  (ai (aG (aD (ag az (ag ao (aa 1) (ae (.int 0))) (ae (.str "again")))) (ak (aA 1 zE (aa 0) af)) aH)
  (ak (aA 1 oA (aa 0) af))))))))))
def dS:Fn:=aw 2 4
  (ai (au 2 (ae (.str "other")))
  (ai (j5 3 (λc=>mQ c || oz c) (λc=>qO c || uS c) zD (aG (aD (ag jm (ar dR (ah (aa 0) (ah (aa 1) af))) (ae .non))) (au 2 (ae (.str ""))) aH) (au 2 (ag ao (aK (ah (ae (.str "NoName")) (ah (ae (.str "NoText")) af))) (ar br (ah (jr qM (aa 3)) af)))) (au 2 (ag ao (aK (ah (ae (.str "NoPlace")) (ah (ae (.str "TooLong")) af))) (ar br (ah (jr qN (aa 3)) af)))) lB)
  (ak (aa 2))))
def fw:Fn:=aw 3 5
  (ai (au 3 (qI (aa 1)))
  (ai (au 4 (ar aX (ah (aa 0) (ah (ae (.int 8)) af))))
  (ai (aG (aD (ag az (aa 4) (ae (.int 0)))) (ak (ag ao (aa 2) (ar aX (ah (aa 0) (ah (ar aB (ah (aa 2) af)) af))))) aH)
  (ai (aG (nU (aD (ag dy (aa 4) (ae (.int 3)))) (aD (ag az (aa 3) (aK af)))) (ak (ag ao (aK (ah (ae (.str "a")) (ah (ae (.str "ab")) (ah (ae (.str "b")) (ah (ae (.str "abcdefgh")) (ah (ae (.str "zz")) (ah (ae (.str "q")) af))))))) (ar aX (ah (aa 0) (ah (ae (.int 6)) af))))) aH)
  (ak (ag ao (aa 3) (ar aX (ah (aa 0) (ah (ar aB (ah (aa 3) af)) af)))))))))
def lI:SS :=au 3 (ag ay (aa 3) (ag ao (aa 2) (ar aX (ah (aa 0) (ah (ar aB (ah (aa 2) af)) af)))))
def i6:Fn:=aw 2 5
  (ai (au 2 (ag ao (aK (ah (ae (.str "ab")) (ah (ae (.str "aaab")) (ah (ae (.str "a\n")) (ah (ae (.str "ab \n")) (ah (ae (.str "abcdefghijklmnopqrstuvwxyz 0123456789.,~\n")) af)))))) (ar aX (ah (aa 0) (ah (ae (.int 5)) af)))))
  (ai (au 3 (ae (.str "")))
  (ai (bT (kT (ar aX (ah (aa 0) (ah (ag ay (aa 1) (ae (.int 1))) af)))) (.nm 4) lI)
  (ak (aa 3)))))
def mV:Fn:=aw 2 7
  (ai (au 2 (aK (ah (ae (.str "")) (ah (ae (.str "A")) (ah (ae (.str "abcdefghi")) (ah (ae (.str "a1")) (ah (ae (.str "a ")) (ah (ae .non) (ah (ae (.int 7)) (ah (ae (.bl true)) (ah (aK (ah (ae (.str "a")) af)) (ah (aS (ah (ae (.str "a")) af)) (ah (kR false) af)))))))))))))
  (ai (au 3 (ar fw (ah (aa 0) (ah (aa 1) (ah (aa 2) af)))))
  (ai (aG (aD (ag az (ar aX (ah (aa 0) (ah (ae (.int 3)) af))) (ae (.int 0)))) (ai (au 4 (ar fw (ah (aa 0) (ah (aa 1) (ah (aK (ah (ae (.str "")) (ah (ae (.str "A")) (ah (ae (.str "none")) af)))) af)))))
  (ai (au 5 (ag ao (aK (ah (ae (.str "")) (ah (ae (.str "NoName")) af))) (ar br (ah (eY (ag dF (aa 3) (aa 2)) (ag cU (aa 4) (aa 1))) af))))
  (ak (aS (ah (aS (ah (ae (.str "copy_of")) (ah (aa 3) (ah (aa 4) af)))) (ah (aa 5) (ah (fo (aa 1) (aa 4) (ae (.str ""))) af))))))) aH)
  (ai (au 6 (ar i6 (ah (aa 0) (ah (ae (.int 30)) af))))
  (ai (aG (aD (ag az (ar aX (ah (aa 0) (ah (ae (.int 10)) af))) (ae (.int 0)))) (au 6 (ag ao (aK (ah (ae .non) (ah (ae (.int 7)) (ah (ae (.str "a\t")) (ah (aK (ah (ae (.str "a")) af)) (ah (ae (.bl true)) (ah (ae (.str "\t")) af))))))) (ar aX (ah (aa 0) (ah (ae (.int 6)) af))))) aH)
  (ai (au 5 (ag ao (aK (ah (ae (.str "")) (ah (ae (.str "NoText")) af))) (ar br (ah (eY (jq (fh "str" (aa 6))) (ag qg (ae (.str "\t")) (aa 6))) af))))
  (ai (aG (aD (ag dF (aa 3) (aa 2))) (au 5 (ae (.str "NoName"))) aH)
  (ak (aS (ah (aS (ah (ae (.str "give")) (ah (aa 3) (ah (aa 6) af)))) (ah (aa 5) (ah (aa 6) af))))))))))))
def mW:Fn:=aw 2 13
  (ai (au 2 (ar aX (ah (aa 0) (ah (ae (.int 4)) af))))
  (ai (au 3 (ar fw (ah (aa 0) (ah (aa 1) (ah (aK (ah (ae (.str "")) (ah (ae (.str "A")) (ah (ae (.str "none")) af)))) af)))))
  (ai (au 4 (ar fw (ah (aa 0) (ah (aa 1) (ah (aK (ah (ae (.str "")) (ah (ae (.str "A")) (ah (ae (.str "none")) af)))) af)))))
  (ai (au 5 (fo (aa 1) (aa 3) (ae (.str ""))))
  (ai (au 6 (fo (aa 1) (aa 4) (ae (.str ""))))
  (ai (au 7 (ag ao (aK (ah (ae (.str "")) (ah (ae (.str "NoName")) af))) (ar br (ah (ag cU (aa 3) (aa 1)) af))))
  (ai (au 8 (ag ao (aK (ah (ae (.str "")) (ah (ae (.str "NoName")) af))) (ar br (ah (eY (ag cU (aa 3) (aa 1)) (ag cU (aa 4) (aa 1))) af))))
  (ai (au 9 (ag bH (ar aX (ah (aa 0) (ah (ag ay (ar aB (ah (aa 5) af)) (ae (.int 3))) af))) (ae (.int 1))))
  (ai (au 10 (ag bH (ar aX (ah (aa 0) (ah (ag ay (ar aB (ah (aa 5) af)) (ae (.int 3))) af))) (ae (.int 1))))
  (ai (aG (aD (ag az (aa 2) (ae (.int 0)))) (ak (aS (ah (aS (ah (ae (.str "join_to")) (ah (aa 3) (ah (aa 4) af)))) (ah (aa 8) (ah (ag ay (aa 5) (aa 6)) af))))) aH)
  (ai (aG (aD (ag az (aa 2) (ae (.int 1)))) (ai (au 11 (fP (aa 8) (ag ao (aK (ah (ae (.str "")) (ah (ae (.str "NoPlace")) af))) (ar br (ah (jq (eQ aV aV (ae (.int 0)) (aa 9) (ar aB (ah (aa 5) af)))) af)))))
  (ak (aS (ah (aS (ah (ae (.str "put_into")) (ah (aa 3) (ah (aa 9) (ah (aa 4) af))))) (ah (aa 11) (ah (ag ay (ag ay (bU (aa 5) none (some (ar fg (ah (ae (.int 0)) (ah (aa 9) af))))) (aa 6)) (bU (aa 5) (some (ar fg (ah (ae (.int 0)) (ah (aa 9) af)))) none)) af)))))) aH)
  (ai (aG (aD (ag az (aa 2) (ae (.int 2)))) (ai (au 11 (fP (aa 7) (ag ao (aK (ah (ae (.str "")) (ah (ae (.str "NoPlace")) af))) (ar br (ah (jq (iX aV aV aV (ae (.int 0)) (aa 9) (aa 10) (ar aB (ah (aa 5) af)))) af)))))
  (ak (aS (ah (aS (ah (ae (.str "take_from")) (ah (aa 3) (ah (aa 9) (ah (aa 10) af))))) (ah (aa 11) (ah (ag ay (bU (aa 5) none (some (ar fg (ah (ae (.int 0)) (ah (aa 9) af))))) (bU (aa 5) (some (ar fg (ah (ae (.int 0)) (ah (aa 10) af)))) none)) af)))))) aH)
  (ai (au 12 (ag ao (aK (ah (ae (.int 0)) (ah (ae (.int 1)) (ah (ae (.int 2)) (ah (ae (.int 3)) (ah (eV cn (ae (.int 1))) (ah (ag ay (ag cG (ag bS (ae (.int 10)) (ae (.int 18))) (ar fg (ah (ae (.int 1)) (ah (ar aB (ah (aa 5) af)) af)))) (ae (.int 1))) af))))))) (ar aX (ah (aa 0) (ah (ae (.int 6)) af)))))
  (ai (au 11 (fP (aa 7) (fP (ag ao (aK (ah (ae (.str "")) (ah (ae (.str "NoPlace")) af))) (ar br (ah (ag dy (aa 12) (ae (.int 0))) af))) (ag ao (aK (ah (ae (.str "")) (ah (ae (.str "TooLong")) af))) (ar br (ah (kS (ag cq (aa 12) (ae (.int 3))) (ag fM (aa 5) (ae (.str "")))) af))))))
  (ak (aS (ah (aS (ah (ae (.str "repeat")) (ah (aa 3) (ah (aa 12) af)))) (ah (aa 11) (ah (ag ot (aa 5) (ar mz (ah (ae (.int 3)) (ah (ar fg (ah (ae (.int 0)) (ah (aa 12) af))) af)))) af)))))))))))))))))))
def mX:Fn:=aw 2 9
  (ai (au 2 (ar aX (ah (aa 0) (ah (ae (.int 8)) af))))
  (ai (aG (aD (ag az (aa 2) (ae (.int 0)))) (ai (au 3 (ar fw (ah (aa 0) (ah (aa 1) (ah (aK (ah (ae (.str "")) (ah (ae (.str "A")) (ah (ae (.str "none")) af)))) af)))))
  (ai (aG (aD (ag cU (aa 3) (aa 1))) (ak (aS (ah (aS (ah (ae (.str "drop")) (ah (aa 3) af))) (ah (ae (.str "NoName")) (ah (aa 1) af))))) aH)
  (ai (au 4 (ar j3 (ah (aa 1) af)))
  (ai (aU (iY (aa 4) (aa 3)))
  (ak (aS (ah (aS (ah (ae (.str "drop")) (ah (aa 3) af))) (ah (ae (.str "")) (ah (aa 4) af))))))))) aH)
  (ai (nV (.tup [5,6,7]) (gP mV mW (ar br (ah (ag cq (aa 2) (ae (.int 3))) af)) (ah (aa 0) (ah (aa 1) af))))
  (ai (aG (d8 (aD (ag az (aa 6) (ae (.str "")))) (aD (ag cq (ar aB (ah (aa 7) af)) (ae (.int 300))))) (qL 5 6 7 (ah (aS (ah (ae (.str "give")) (ah (ag ao (aa 5) (ae (.int 1))) (ah (ae (.str "long")) af)))) (ah (ae (.str "")) (ah (ae (.str "long")) af)))) aH)
  (ai (au 8 (ar j3 (ah (aa 1) af)))
  (ai (aG (aD (ag az (aa 6) (ae (.str "")))) (fN (aa 8) (ag ao (aa 5) (ae (.int 1))) (aa 7)) aH)
  (ak (aS (ah (aa 5) (ah (aa 6) (ah (aa 8) af)))))))))))
def lJ(G:Fn):Fn:=aw 2 3
  (ai (aG (aD (ag az (aa 1) (ae (.int 0)))) (ak (ae (.str ""))) aH)
  (ai (au 2 (aA 0 cM (aa 0) (ah (aa 1) af)))
  (ai (aG (aD (ag az (ag ao (aa 2) (ae (.int 0))) (ae (.str "leaf")))) (ak (ag ao (aa 2) (ae (.int 1)))) aH)
  (ak (ag ay (ar G (ah (aa 0) (ah (ag ao (aa 2) (ae (.int 1))) af))) (ar G (ah (aa 0) (ah (ag ao (aa 2) (ae (.int 2))) af))))))))
def hZ:Nat->Fn
 |0=>aw 2 3 (λ_ _=>.bad)
 |d+1=>lJ (hZ d)
def cw:Fn:=aw 1 1
  (ak (Sm.sFld 1 0 (aa 0)))
def mY:SS :=aU (dC bh bL (aa 3) (ah (aS (ah (aA 1 bA (aa 1) (ah (aa 13) af)) (ah (ag ao (ag ao (aa 2) (eV cn (ae (.int 1)))) (aa 13)) af))) af))
def mZ:SS :=aU (dC bh bL (aa 4) (ah (aA 0 cM (aA 1 cw (aa 1) af) (ah (aa 14) af)) af))
def m7:SS :=ai (au 7 (ar lC (ah (aK (ah (aa 6) (ah (aa 5) af))) (ah (ae (.int 0)) af))))
  (ai (au 8 (ar aX (ah (aa 7) (ah (ae (.int 8)) af))))
  (ai (aG (d8 (aD (ag az (aa 8) (ae (.int 0)))) (aD (ag cq (ar aB (ah (aa 2) af)) (ae (.int 1))))) (ai (aG (aD (ag fM (ar dS (ah (aa 1) (ah (aS (ah (ae (.str "back")) af)) af))) (ae (.str "")))) (ak (ae (.bl false))) aH)
  (aU (gD bh cZ (aa 2)))) (aG (aD (ag az (aa 8) (ae (.int 1)))) (ai (au 9 (ar gR (ah (aA 1 cw (aa 1) af) (ah (ar i6 (ah (aa 7) (ah (ae (.int 20)) af))) af))))
  (aU (ar bC (ah (aA 1 cw (aa 1) af) (ah (aa 9) (ah (aa 9) af)))))) (ai (nV (.tup [10,11,12]) (ar mX (ah (aa 7) (ah (ag ao (aa 2) (eV cn (ae (.int 1)))) af))))
  (ai (aG (aD (ag fM (ar dS (ah (aa 1) (ah (aa 10) af))) (aa 11))) (ak (ae (.bl false))) aH)
  (aG (aD (ag az (aa 11) (ae (.str "")))) (aU (dC bh bL (aa 2) (ah (aa 12) af))) aH)))))
  (ai (bT (d9 (aA 1 mU (aa 1) af)) (.nm 13) mY)
  (ai (aG (aD (ag cq (ar aB (ah (aa 4) af)) (aA 0 gj (aA 1 cw (aa 1) af) af))) (ak (ae (.bl false))) aH)
  (bT (iU (ag ay (ar aB (ah (aa 4) af)) (ae (.int 1))) (ag ay (aA 0 gj (aA 1 cw (aa 1) af) af) (ae (.int 1)))) (.nm 14) mZ)))))
def m8:SS :=aG (nU (aD (ag fM (ar (hZ 90) (ah (aA 1 cw (aa 1) af) (ah (aa 14) af))) (aa 15))) (aD (ag fM (aA 0 dQ (aA 1 cw (aa 1) af) (ah (aa 14) af)) (ar aB (ah (aa 15) af))))) (ak (ae (.bl false))) aH
def uW:Fn:=aw 1 16
  (ai (au 1 (mw 1 4 mR af))
  (ai (au 2 (fE (ah (kR false) af)))
  (ai (au 3 (fE af))
  (ai (au 4 (fE af))
  (ai (bT (Sm.iEnum (ag ay (bU (aa 0) none (some (ae (.int 40)))) (aK (ah (ae (.int 0)) (ah (ae (.int 1)) (ah (ae (.int 2)) af)))))) (.tup [5,6]) m7)
  (ai (bT (t7 (aa 3)) (.tup [14,15]) m8)
  (ak (ag az (aa 4) (e7 [1] (iU (ae (.int 1)) (ag ay (aA 0 gj (aA 1 cw (aa 1) af) af) (ae (.int 1)))) bI (aA 0 cM (aA 1 cw (aa 1) af) (ah (aa 0) af)))))))))))
end Sk
set_option exponentiation.threshold 2000
namespace Sk
open PySem PySem.Spec L2 Sm
theorem zF{w:Option Nat}{all:List AV}{t:Tg}{b:SS}(P:Nat->En->AH->Prop):∀ (xs:List AV) (i:Nat) (en:En) (h:AH),P i en h ->
  (∀ i en h,P i en h->fF w all h=true) ->
  (∀ (j:Nat) (x:AV) (en:En) (h:AH),xs[j]?=some x->P (i+j) en h->∃ e1 e2 h2,eZ t x en=some e1/\(b e1 h=.nx e2 h2\/b e1 h=.ct e2 h2)/\P (i+j+1) e2 h2) ->
  ∃ e' h',gA w all t b xs en h=.nx e' h'/\P (i+xs.length) e' h'
 |[],i,en,h,p,lv,_=>⟨en,h,by unfold gA;rw[Nn (lv _ _ _ p)],p⟩
 |x::xs,i,en,h,p,lv,s=>by
  obtain⟨e1,e2,h2,q1,q2,q3⟩:=s 0 x en h rfl p;obtain⟨e',h',r1,r2⟩:=zF P xs (i+1) e2 h2 q3 lv λj y en h e q=>by
   have:=s (j+1) y en h (by simpa using e) (by rw[show i+(j+1)=i+1+j by lia];exact q)
   rw[show i+(j+1)+1=i+1+j+1 by lia] at this;exact this
  refine⟨e',h',?_,by rw[Os,show i+(xs.length+1)=i+1+xs.length by lia];exact r2⟩
  unfold gA;rw[Nn (lv _ _ _ p)];simp only[q1]
  rcases q2 with q2|q2
  ·rw[q2];exact r1
  ·rw[q2];exact r1
theorem uX{α:Type}{js:List Nat}{en:En}{w:Option Nat}{all:List AV}{c:SB}{e:SE}{g f:α->AV}{p:α->Bool}{h:AH}(lv:fF w all h=true):∀ (cs:List α) (ys:List AV),(∀ x∈cs,c (some (g x)::js.map λj=>(en[j]?).join) h=.ok (p x) h)->(∀ x∈cs,p x=true->e (some (g x)::js.map λj=>(en[j]?).join) h=.ok (f x) h)->ys.length+cs.length<=sizeLine ->
  eh js en w all c e (cs.map g) ys h=.ok (ys++(cs.filter p).map f) h
 |[],ys,_,_,_=>by rw[QX];unfold eh;rw[Nn lv];simp
 |x::xs,ys,hc,he,hl=>by
  have hl':ys.length<sizeLine:=by simp at hl;lia
  rw[NW];unfold eh
  rw[Nn ⟨lv,hl'⟩,hc x 's']
  cases hp:p x with
  |false =>
   dsimp only;rw[uX lv xs ys (λy hy=>hc y (by simp[hy])) (λy hy=>he y (by simp[hy])) (by simp at hl ⊢;lia)]
   simp[OY,hp]
  |true =>
   dsimp only;rw[he x 's' hp]
   dsimp only;rw[uX lv xs (ys++[f x]) (λy hy=>hc y (by simp[hy])) (λy hy=>he y (by simp[hy])) (by simp at hl ⊢;lia)]
   simp[OY,hp]
variable{α:Type}{en:En}{h h1 h' h2 hh:AH}
def Jo{js:List Nat}{w:Option Nat}{all:List AV}{e:SE}{g f:α->AV}(lv:fF w all h=true)(cs:List α)(ys:List AV)(he:∀ x∈cs,e (some (g x)::js.map λj=>(en[j]?).join) h=.ok (f x) h)(hl:ys.length+cs.length<=sizeLine) :
  eh js en w all bI e (cs.map g) ys h=.ok (ys++cs.map f) h:=by
 rw[uX (p:=λ_=>true) lv cs ys (λ_ _=>rfl) (λx hx _=>he x hx) hl,List.filter_eq_self.mpr (λ_ _=>rfl)]
@[simp] def thn(o:OutS)(Q:En->AH->Prop):Prop:=match o with
 |.nx e h=>Q e h
 |.ct e h=>Q e h
 |_=>False
def Jp{o:OutS}{Q:En->AH->Prop}(t:thn o Q):∃ e h,(o=.nx e h\/o=.ct e h)/\Q e h:=by
 cases o with
 |nx e h=>exact⟨e,h,.inl rfl,t⟩
 |ct e h=>exact⟨e,h,.inr rfl,t⟩
 |_=>exact t.elim
@[simp] def Jq(o:Option En)(Q:En->Prop):Prop:=match o with
 |some e=>Q e
 |none=>False
variable{xs:List AV}
def lM{w:Option Nat}{all:List AV}{t:Tg}{b:SS}(P:Nat->En->AH->Prop)(p0:P 0 en h)(lv:∀ i en h,P i en h->fF w all h=true)(st:∀ (j:Nat) (x:AV) (en:En) (h:AH),xs[j]?=some x->P j en h->Jq (eZ t x en) λe1=>thn (b e1 h) (P (j+1))) :
  ∃ e' h',gA w all t b xs en h=.nx e' h'/\P xs.length e' h':=by
 have:=zF (w:=w) (all:=all) (t:=t) (b:=b) P xs 0 en h p0 lv λj x en h hx hp=>by
  have q:=st j x en h hx (by simpa using hp)
  cases z:eZ t x en with
  |none=>rw[z] at q;exact q.elim
  |some e1 =>
   rw[z] at q;obtain⟨e,h2,a,c⟩:=Jp q
   exact⟨e1,e,h2,rfl,a,by simpa using c⟩
 simpa using this
@[simp] def zG(o:Out AV)(Q:AV->AH->Prop):Prop:=match o with
 |.ok v h=>Q v h
 |_=>False
theorem zH{js:List Nat}{en:En}{all:List AV}{e:SE}(P:Nat->List AV->AH->Prop):∀ (xs ys:List AV) (i:Nat) (h:AH),P i ys h ->
  (∀ j x ys h,xs[j]?=some x->P (i+j) ys h->∃ v h2,e (some x::js.map λj=>(en[j]?).join) h=.ok v h2/\P (i+j+1) (ys++[v]) h2)->ys.length+xs.length<=sizeLine ->
  ∃ zs h',eh js en none all bI e xs ys h=.ok zs h'/\P (i+xs.length) zs h'
 |[],ys,i,h,p,_,_=>⟨ys,h,by simp[eh],p⟩
 |x::xs,ys,i,h,p,s,hl=>by
  obtain⟨v,h2,q1,q2⟩:=s 0 x ys h rfl p;obtain⟨zs,h',r1,r2⟩:=zH P xs (ys++[v]) (i+1) h2 q2 (λj y ys h hy hp=>by
   have:=s (j+1) y ys h (by simpa using hy) (by rw[show i+(j+1)=i+1+j by lia];exact hp)
   rw[show i+(j+1)+1=i+1+j+1 by lia] at this;exact this) (by simp at hl ⊢;lia)
  refine⟨zs,h',?_,by rw[Os,show i+(xs.length+1)=i+1+xs.length by lia];exact r2⟩
  unfold eh;rw[Nn ⟨rfl,by simp at hl;lia⟩];simp only[bI]
  rw[q1];exact r1
def zI{js:List Nat}{all:List AV}{e:SE}(P:Nat->List AV->AH->Prop)(p0:P 0 [] h)(st:∀ j x ys h,xs[j]?=some x->P j ys h->zG (e (some x::js.map λj=>(en[j]?).join) h) λv h2=>P (j+1) (ys++[v]) h2)(hl:xs.length<=sizeLine) :
  ∃ zs h',eh js en none all bI e xs [] h=.ok zs h'/\P xs.length zs h':=by
 have:=zH (js:=js) (en:=en) (all:=all) (e:=e) P xs [] 0 h p0 (λj x ys h hx p=>by
  have q:=st j x ys h hx (by simpa using p)
  cases z:e (some x::js.map λj=>(en[j]?).join) h with
  |ok v h2=>rw[z] at q;exact⟨v,h2,rfl,by simpa using q⟩
  |ex _ _=>rw[z] at q;exact q.elim
  |bad=>rw[z] at q;exact q.elim) (by simpa using hl)
 simpa using this
theorem qY:∀ (n:Nat) (lo:Int) (i:Nat),(cP lo n)[i]?=if i<n then some (.int (lo+i)) else none
 |0,lo,i=>by simp[cP]
 |n+1,lo,0=>by simp[cP]
 |n+1,lo,i+1=>by
  unfold cP;rw[QN,qY n (lo+1) i];by_cases q:i<n
  ·rw[Nn q,Nn ⋯];congr 2;lia
  ·rw[Nr q,Nr ⋯]
theorem ke:∀ (n:Nat) (lo:Int),(cP lo n).length=n
 |0,_=>rfl
 |n+1,lo=>by unfold cP;rw[Os,ke n]
variable{n e b a i j p d k2 k1 n1 c L hb R K D:Nat}
def zJ{a:SE}(e:a en h=.ok (.int n) h1)(hn:n<=10000000):kT a en h=.ok (cP 0 n,none) h1:=by
 have h1':(n:Int).natAbs<2 ^ 62:=by lia
 simp only[kT,e,Out.bind]
 rw[Nn h1'];rfl
def lN{it:SI}{t:Tg}{b:SS}{w:Option Nat}(e:it en h=.ok (xs,w) h1):bT it t b en h=gA w xs t b xs en h1:=by simp only[bT,e]
def zK{i j:Int}(hi:i.natAbs<2 ^ 64):aW (.int i) (.int j) h=.ok (.int (i*j)) h:=(Nn (.inl (.inl hi)))
def zL{i j:Int}(hj:j.natAbs<2 ^ 64):aW (.int i) (.int j) h=.ok (.int (i*j)) h:=(Nn (.inl (.inr hj)))
def Jr{f:α->AV}{l:List α}{q:α}(e:l[j]?=some q):atI (l.map f) (j:Int)=some (f q):=(mq (by simp[e]))
end Sk
set_option exponentiation.threshold 5000
namespace Sk
open PySem PySem.Spec L2 Sm
def m9(c:Nat):Bool:=decide (c=10) || (decide (32<=c) && decide (c<=126))
def zM(a b:Nat):([a]<[b]) ↔ a<b:=by
 simp[List.cons_lt_cons_iff]
def zN:(Str.ofString "\n")=⟨#[10]⟩:=by decide +kernel
def Js:(Str.ofString " ")=⟨#[32]⟩:=by decide +kernel
def Jt:(Str.ofString "~")=⟨#[126]⟩:=by decide +kernel
def Ju(c:Nat)(h:AH):oF [.str ⟨#[c]⟩] h=.ok (.bl (m9 c)) h:=by
 simp[oF,zN,Js,Jt,zM,m9]
 by_cases h1:c=10
 ·simp[h1]
 ·by_cases h2:c<32
  ·have:¬ 32<=c:=by lia
   simp[h1,h2,this]
  ·have h3:32<=c:=by lia
   by_cases h4:c<=126
   ·have:¬ 126<c:=by lia
    simp[h1,h2,h3,h4,this]
   ·have:126<c:=by lia
    simp[h1,h2,h3,h4,this]
theorem uY{α:Type}{js:List Nat}{en:En}{all:List AV}{e:SE}{g f:α->AV}{h:AH}:∀ (cs:List α) (ys:List AV),(∀ c∈cs,e (some (g c)::js.map λj=>(en[j]?).join) h=.ok (f c) h)->ys.length+cs.length<=sizeLine->eh js en none all bI e (cs.map g) ys h=.ok (ys++cs.map f) h
 |[],ys,_,_=>by simp[eh]
 |x::xs,ys,he,hl=>by
  have hl':ys.length<sizeLine:=by simp at hl;lia
  rw[NW];unfold eh
  rw[Nn ⟨rfl,hl'⟩];simp only[bI]
  rw[he x 's'];dsimp only;rw[uY xs (ys++[f x]) (λy hy=>he y (by simp[hy])) (by simp at hl ⊢;lia)]
  simp
theorem uZ(f:Nat->Bool):∀ cs:List Nat,nW (cs.map λc=>.bl (f c))=some (cs.map f)
 |[]=>rfl
 |c::cs=>by simp[uZ f cs]
def bJ(x:Str):Bool:=x.cps.toList.all m9
def qZ(x:Str)(h:AH)(hl:x.length<=sizeLine):iD [.str x] h=.ok (.bl (bJ x)) h:=by
 have e:=uY (js:=[]) (en:=[some (.str x)]) (all:=x.cps.toList.map λc=>AV.str ⟨#[c]⟩) (e:=ar oF (ah (aa 0) af)) (g:=λc=>AV.str ⟨#[c]⟩) (f:=λc=>AV.bl (m9 c)) (h:=h) x.cps.toList [] (by
  intro c hc;simp[Ju]) (by simp;exact hl)
 simp only[P3] at e
 simp[iD]
 rw[e];simp[uZ,bJ]
def fI(x:Str):Bool:=bJ x && (decide (1<=x.length) && decide (x.length<=8))
def zO(x:Str)(h:AH)(hl:x.length<=sizeLine):qS [.str x] h=.ok (.bl (fI x)) h:=by
 simp[qS,qZ x h hl,fI]
 by_cases h1:bJ x=true
 ·by_cases h2:1<=x.length
  ·have:(1:Int)<=x.length:=by lia
   by_cases h3:x.length<=8
   ·have:(x.length:Int)<=8:=by lia
    simp[*]
   ·have:¬ (x.length:Int)<=8:=by lia
    simp[*]
  ·have:¬ (1:Int)<=x.length:=by lia
   simp[*]
 ·simp[h1]
def jJ(x:Str):Nat:=(Builtin.Str.occurrences x ⟨#[10]⟩ 0 x.length (x.length+1)).length
def Jv(x:Str)(h:AH):qT [.str x] h=.ok (.int (jJ x)) h:=by
 simp[qT,zN,jJ]
def Jw(i:Int)(h:AH):qQ [.int i] h=.ok (.bl true) h:=by
 simp[qQ]
inductive Pc where
 |leaf (x:Str)
 |fork (a b:Nat)
 deriving DecidableEq
def Pc.av:Pc->AV
 |.leaf x=>.tup [.str "leaf",.str x]
 |.fork a b=>.tup [.str "fork",.int a,.int b]
theorem Pc.av_inj:∀ {p q:Pc},p.av=q.av->p=q
 |.leaf x,.leaf y,e=>by simp[Pc.av] at e;rw[e]
 |.leaf x,.fork a b,e=>by simp[Pc.av] at e
 |.fork a b,.leaf x,e=>by simp[Pc.av] at e
 |.fork a b,.fork c d,e=>by simp[Pc.av] at e;rw[Int.ofNat.inj e.1,Int.ofNat.inj e.2]
structure Ms where
 sg:Nat
 en:Nat
 lv:Nat
 ht:Int
 fl:Nat
 ll:Nat
def ms0:Ms:=⟨0,0,0,-1,0,0⟩
def iH(ms:List Ms):Pc->Ms
 |.leaf x=>⟨x.length,jJ x,1,0,ms.length,ms.length⟩
 |.fork a b=>⟨(ms.getD a ms0).sg+(ms.getD b ms0).sg,(ms.getD a ms0).en+(ms.getD b ms0).en,(ms.getD a ms0).lv+(ms.getD b ms0).lv,max (ms.getD a ms0).ht (ms.getD b ms0).ht+1,(ms.getD a ms0).fl,(ms.getD b ms0).ll⟩
def meas(ps:List Pc):List Ms:=ps.foldl (λms q=>ms++[iH ms q]) [ms0]
def u0(ps:List Pc)(q:Pc):meas (ps++[q])=meas ps++[iH (meas ps) q]:=by simp[meas]
def eR:∀ ps:List Pc,(meas ps).length=ps.length+1:=by
 have all:∀ (ps:List Pc) (ms:List Ms),(ps.foldl (λms q=>ms++[iH ms q]) ms).length=ms.length+ps.length:=by
  intro ps;induction ps with
  |nil=>intro ms;rfl
  |cons q r ih=>intro ms;rw[Rb,ih];simp;lia
 intro ps;rw[meas,all];simp;lia
def fS(k:Nat):List Pc->List (AV×AV)
 |[]=>[]
 |q::r=>(q.av,.int k)::fS (k+1) r
def eI(ps:List Pc):List (AV×AV):=fS 1 ps
theorem rf(q:Pc):∀ (ps:List Pc) (k:Nat),fS k (ps++[q])=fS k ps++[(q.av,.int ((k+ps.length:Nat):Int))]
 |[],k=>by simp[fS]
 |p::r,k=>by
  simp only[List.cons_append,fS,rf q r (k+1)]
  rw[show k+1+r.length=k+(p::r).length by simp;lia]
theorem zP:∀ (ps:List Pc) (k:Nat),(fS k ps).length=ps.length
 |[],_=>rfl
 |p::r,k=>by simp[fS,zP r]
theorem rg{q:Pc}:∀ {ps:List Pc} {k:Nat},q∉ps->aQ (fS k ps) q.av=none
 |[],k,_=>rfl
 |p::r,k,h=>by
  have h1:¬ p.av=q.av:=λe=>h (by rw[Pc.av_inj e];simp)
  have h2:=rg (q:=q) (ps:=r) (k:=k+1) λz=>h (by simp[z])
  unfold aQ at h2 ⊢
  simp only[fS,Oq,NJ h1]
  exact h2
theorem u7{q:Pc}:∀ {ps:List Pc} {k i:Nat},ps.Nodup->ps[i]?=some q->aQ (fS k ps) q.av=some (.int ((k+i:Nat):Int))
 |[],k,i,_,e=>by simp at e
 |p::r,k,0,n,e=>by simp at e;subst e;simp[aQ,fS]
 |p::r,k,i+1,n,e=>by
  simp at e
  have h1:¬ p.av=q.av:=λz=>(On.mp n).1 (by rw[Pc.av_inj z];exact NL e)
  have h2:=u7 (q:=q) (k:=k+1) (On.mp n).2 e;unfold aQ at h2 ⊢
  simp only[fS,Oq,NJ h1]
  rw[h2];congr 3
  lia
variable{q:Pc}{ps ps' ps1:List Pc}
def Jx(h:q∉ps):eu (eI ps) q.av (.int ((ps.length+1:Nat):Int))=eI (ps++[q]):=by
 unfold eu;rw[uw,eI,rg h,eI,rf];simp[Pr]
structure ShelfAt(h:AH)(p:Nat)(ps:List Pc):Prop where
 ob:h[p]?=some (.ins 0 [some (.ref (p+1)),some (.ref (p+2)),some (.ref (p+3)),some (.ref (p+4)),some (.ref (p+5)),some (.ref (p+6)),some (.ref (p+7)),some (.ref (p+8))])
 h1:h[p+1]?=some (.lst (ps.map Pc.av))
 h2:h[p+2]?=some (.dct true (eI ps))
 h3:h[p+3]?=some (.lst ((meas ps).map λm=>.int m.sg))
 h4:h[p+4]?=some (.lst ((meas ps).map λm=>.int m.en))
 h5:h[p+5]?=some (.lst ((meas ps).map λm=>.int m.lv))
 h6:h[p+6]?=some (.lst ((meas ps).map λm=>.int m.ht))
 h7:h[p+7]?=some (.lst ((meas ps).map λm=>.int m.fl))
 h8:h[p+8]?=some (.lst ((meas ps).map λm=>.int m.ll))
def gr(h:AH)(p:Nat)(ps:List Pc):AH :=
 (((((((h.set (p+1) (.lst (ps.map Pc.av))).set (p+2) (.dct true (eI ps))).set (p+3) (.lst ((meas ps).map λm=>.int m.sg))).set (p+4) (.lst ((meas ps).map λm=>.int m.en))).set (p+5) (.lst ((meas ps).map λm=>.int m.lv))).set
  (p+6) (.lst ((meas ps).map λm=>.int m.ht))).set (p+7) (.lst ((meas ps).map λm=>.int m.fl))).set (p+8) (.lst ((meas ps).map λm=>.int m.ll))
variable{h h1 h' h2 hh:AH}{i e b a n j p d k2 k1 n1 c L hb R K D:Nat}
def bX{o:AO}(e:h[i]?=some o):i<h.length:=((Ni.mp e).1)
def zQ(h:AH)(p:Nat)(ps:List Pc):(gr h p ps).length=h.length:=by simp[gr]
def zR{q:Nat}(hq:q<=p\/p+8<q):(gr h p ps)[q]?=h[q]?:=by
 unfold gr;repeat rw[Nl ⋯]
def rh(S:ShelfAt h p ps):ShelfAt (gr h p ps') p ps':=by
 have b:=bX S.h8;have l1:p+1<h.length:=Nz (NQ 'd' p) b;have l2:p+2<h.length:=Nz (NQ 'd' p) b;have l3:p+3<h.length:=Nz (NQ 'd' p) b;have l4:p+4<h.length:=Nz (NQ 'd' p) b;have l5:p+5<h.length:=Nz (NQ 'd' p) b;have l6:p+6<h.length:=Nz (NQ 'd' p) b;have l7:p+7<h.length:=Nz (NQ 'd' p) b;have ob:=S.ob;constructor<;>simp[gr,Qw,l1,l2,l3,l4,l5,l6,l7,b,ob,-List.getElem?_eq_getElem]
variable{α:Type}
def u9(l:List α)(f:α->AV):(l.map f).length=l.length:=by simp
def zS(S:ShelfAt h p ps):gj [.ref p] h=.ok (.int ps.length) h:=by
 simp[gj,S.ob,S.h1]
def Jy{i:Int}(S:ShelfAt h p ps):qR [.ref p,.int i] h=.ok (.bl (decide (1<=i/\i<=ps.length))) h:=by
 simp[qR,Jw,S.ob,S.h1]
 by_cases h1:1<=i<;>simp[h1]
def rj{i:Int}(S:ShelfAt h p ps)(hi:1<=i/\i<=ps.length):lD [.ref p,.int i] h=.ok .non h:=by
 simp[lD,Jy S,S.ob,hi.1,hi.2]
def gW{f:α->AV}{l:List α}{q:α}(e:l[j]?=some q):atI (l.map f) (j:Int)=some (f q):=(mq (by simp[e]))
def Jz(S:ShelfAt h p ps)(e:ps[j]?=some q):cM [.ref p,.int ((j:Int)+1)] h=.ok q.av h:=by
 have hj:=(Ni.mp e).1;have h1:=rj S (i:=(j:Int)+1) ⟨by lia,by lia⟩;simp[cM,h1,S.ob,S.h1,gW e]
def zT(S:ShelfAt h p ps)(hq:q∉ps)(hl:ps.length<16000000) :
  oC [.ref p,q.av] h=.ok (.int ((ps.length+1:Nat):Int)) ((h.set (p+1) (.lst ((ps++[q]).map Pc.av))).set (p+2) (.dct true (eI (ps++[q])))):=by
 have b:=bX S.h8;have hs:ps.length<sizeLine:=Qe hl 'd';have ht:(eI ps).length<sizeLine:=by rw[eI,zP];exact hs
 have hk:dI true q.av=true:=by cases q<;>simp[Pc.av]
 have e1:(h.set (p+1) (.lst (ps.map Pc.av++[q.av])))[p]?=h[p]?:=Nl ⋯;have e2:(h.set (p+1) (.lst (ps.map Pc.av++[q.av])))[p+1]?=some (.lst (ps.map Pc.av++[q.av])):=Nv ⋯;have e3:(h.set (p+1) (.lst (ps.map Pc.av++[q.av])))[p+2]?=h[p+2]?:=Nl ⋯;have tp:=Jx hq;simp[oC,S.ob,S.h1,hs,e1,e2,e3,S.h2,hk,ht,-dI]
 rw[show ((ps.length:Int)+1)=((ps.length+1:Nat):Int) by simp,tp]
variable{x w y:Str}
def JA(S:ShelfAt h p ps)(hq:Pc.leaf x∉ps)(hl:ps.length<16000000) :
  oG [.ref p,(Pc.leaf x).av] h=.ok .non (gr h p (ps++[.leaf x])):=by
 have b:=bX S.h8;have hs:ps.length+1<sizeLine:=NH (Nat.succ_lt_succ hl) 'd';have hm:(meas ps).length<sizeLine:=by rw[eR];exact hs
 have e:=zT S hq hl;have b2:((meas ps).length:Int)=(ps.length:Int)+1:=by rw[eR];simp
 have e2:ao (Pc.leaf x).av (.int 1)=λh=>Out.ok (.str x) h:=by funext h;rfl
 have l1:p+1<h.length:=by lia
 have l2:p+2<h.length:=by lia
 have l3:p+3<h.length:=by lia
 have l4:p+4<h.length:=by lia
 have l5:p+5<h.length:=by lia
 have l6:p+6<h.length:=by lia
 have l7:p+7<h.length:=by lia
 simp[oG,e,S.ob,S.h3,S.h4,S.h5,S.h6,S.h7,S.h8,hm,Jv,Qw,u0,iH,gr,e2,eR,hs,-ao,-List.getElem?_eq_getElem]
def zU{l:List α}{d x:α}(e:l[i]?=some x):l.getD i d=x:=by simp[List.getD,e]
variable{ma mb f l la fb fa lb mc md:Ms}
def JB(S:ShelfAt h p ps)(hq:Pc.fork a b∉ps)(hl:ps.length<16000000)(ha:(meas ps)[a]?=some ma)(hb:(meas ps)[b]?=some mb) :
  oE [.ref p,(Pc.fork a b).av] h=.ok .non (gr h p (ps++[.fork a b])):=by
 have bb:=bX S.h8;have hs:ps.length+1<sizeLine:=NH (Nat.succ_lt_succ hl) 'd';have hm:(meas ps).length<sizeLine:=by rw[eR];exact hs
 have e:=zT S hq hl;have e2:ao (Pc.fork a b).av (.int 1)=λh=>Out.ok (.int a) h:=by funext h;rfl
 have e3:ao (Pc.fork a b).av (.int 2)=λh=>Out.ok (.int b) h:=by funext h;rfl
 have l1:p+1<h.length:=by lia
 have l2:p+2<h.length:=by lia
 have l3:p+3<h.length:=by lia
 have l4:p+4<h.length:=by lia
 have l5:p+5<h.length:=by lia
 have l6:p+6<h.length:=by lia
 have l7:p+7<h.length:=by lia
 have fx:∀ (n:Nat) (g:Ms->AV) (h':AH),h'[n]?=some (.lst ((meas ps).map g))->ao (.ref n) (.int a) h'=.ok (g ma) h'/\ao (.ref n) (.int b) h'=.ok (g mb) h':=λn g h' e=>by
  simp[ao,e,gW ha,gW hb]
 have f3:=λ(h':AH) (e:h'[p+3]?=some (.lst ((meas ps).map λm=>.int m.sg)))=>fx _ _ h' e
 have f4:=λ(h':AH) (e:h'[p+4]?=some (.lst ((meas ps).map λm=>.int m.en)))=>fx _ _ h' e
 have f5:=λ(h':AH) (e:h'[p+5]?=some (.lst ((meas ps).map λm=>.int m.lv)))=>fx _ _ h' e
 have f6:=λ(h':AH) (e:h'[p+6]?=some (.lst ((meas ps).map λm=>.int m.ht)))=>fx _ _ h' e
 have f7:=λ(h':AH) (e:h'[p+7]?=some (.lst ((meas ps).map λm=>.int m.fl)))=>fx _ _ h' e
 have f8:=λ(h':AH) (e:h'[p+8]?=some (.lst ((meas ps).map λm=>.int m.ll)))=>fx _ _ h' e
 have hmax:∀ i j:Int,(if j > i then j else i)=max i j:=λi j=>by split<;>lia
 simp[oE,e,S.ob,S.h3,S.h4,S.h5,S.h6,S.h7,S.h8,hm,Qw,u0,iH,gr,e2,e3,eR,hs,gW ha,gW hb,zU ha,zU hb,-ao,-List.getElem?_eq_getElem,-List.getD_eq_getElem?_getD,f3,f4,f5,f6,f7,f8,hmax]
def va(S:ShelfAt h p ps)(nd:ps.Nodup)(hx:fI x=true)(hl:x.length<=sizeLine)(e:ps[i]?=some (.leaf x)):d0 [.ref p,.str x] h=.ok (.int ((i+1:Nat):Int)) h:=by
 have t:=u7 (k:=1) nd e;have t':aQ (eI ps) (.tup [.str "leaf",.str x])=some (.int ((i+1:Nat):Int)):=by rw[Pr];exact t
 simp[d0,zO x h hl,hx,S.ob,S.h2,t']
def JC(S:ShelfAt h p ps)(hx:fI x=true)(hl:x.length<=sizeLine)(hq:Pc.leaf x∉ps)(hz:ps.length<16000000):d0 [.ref p,.str x] h=.ok (.int ((ps.length+1:Nat):Int)) (gr h p (ps++[.leaf x])):=by
 have t:aQ (eI ps) (.tup [.str "leaf",.str x])=none:=rg (q:=.leaf x) (k:=1) hq;have S2:=rh (ps':=ps++[.leaf x]) S;have e:=JA S hq hz;have t2:aQ (eI (ps++[.leaf x])) (.tup [.str "leaf",.str x])=some (.int ((ps.length+1:Nat):Int)):=by
  unfold eI;rw[rf];unfold aQ at t ⊢
  rw[R6];have t3:(fS 1 ps).find? (λp=>decide (p.1=.tup [.str "leaf",.str x]))=none:=by simpa[eI] using t
  rw[t3];simp[Pc.av,Pr]
 have e':oG [.ref p,.tup [.str "leaf",.str x]] h=.ok .non (gr h p (ps++[.leaf x])):=e;simp[d0,zO x h hl,hx,S.ob,S.h2,t,e',S2.ob,S2.h2,t2]
def JD(S:ShelfAt h p ps)(ha:(meas ps)[a]?=some ma)(hb:(meas ps)[b]?=some mb)(pa:1<=a)(pb:1<=b)(hla:(meas ps)[ma.ll]?=some la)(hfb:(meas ps)[mb.fl]?=some fb)(d1:¬ la.sg+fb.sg<=8)(d2:¬ 1<(ma.ht-mb.ht).natAbs)(d3:¬ 1000000000000000000<ma.sg+mb.sg) :
  oB [.ref p,.int a,.int b] h=.ok .non h:=by
 have la_:=(Ni.mp ha).1;have lb_:=(Ni.mp hb).1;rw[eR] at la_ lb_;have c1:=rj S (i:=(a:Int)) ⟨by lia,by lia⟩
 have c2:=rj S (i:=(b:Int)) ⟨by lia,by lia⟩;have d1':¬ ((la.sg:Int)+fb.sg)<=8:=by lia
 have d2':¬ (1:Int)<(if ma.ht-mb.ht<0 then -(ma.ht-mb.ht) else ma.ht-mb.ht):=by split<;>lia
 have d3':¬ (1000000000000000000:Int)<(ma.sg:Int)+mb.sg:=by lia
 simp[oB,c1,c2,S.ob,S.h3,S.h5,S.h6,S.h7,S.h8,gW ha,gW hb,gW hla,gW hfb,d1',d2',d3',-Int.neg_sub]
structure ForkOk(ps:List Pc)(a b:Nat):Prop where
 pa:1<=a
 pb:1<=b
 ex:∃ ma mb la fb,(meas ps)[a]?=some ma/\(meas ps)[b]?=some mb/\(meas ps)[ma.ll]?=some la/\(meas ps)[mb.fl]?=some fb/\8<la.sg+fb.sg/\(ma.ht-mb.ht).natAbs<=1/\ma.sg+mb.sg<=1000000000000000000
def zV(S:ShelfAt h p ps)(F:ForkOk ps a b):oB [.ref p,.int a,.int b] h=.ok .non h:=by
 obtain⟨ma,mb,la,fb,h1,h2,h3,h4,h5,h6,h7⟩:=F.ex;exact JD S h1 h2 F.pa F.pb h3 h4 ⋯ ⋯ ⋯
def vb(S:ShelfAt h p ps)(nd:ps.Nodup)(F:ForkOk ps a b)(e:ps[i]?=some (.fork a b)):aP [.ref p,.int a,.int b] h=.ok (.int ((i+1:Nat):Int)) h:=by
 have t:=u7 (k:=1) nd e;have t':aQ (eI ps) (.tup [.str "fork",.int a,.int b])=some (.int ((i+1:Nat):Int)):=by rw[Pr];exact t
 simp[aP,zV S F,S.ob,S.h2,t']
def JE(S:ShelfAt h p ps)(F:ForkOk ps a b)(hq:Pc.fork a b∉ps)(hz:ps.length<16000000):aP [.ref p,.int a,.int b] h=.ok (.int ((ps.length+1:Nat):Int)) (gr h p (ps++[.fork a b])):=by
 have t:aQ (eI ps) (.tup [.str "fork",.int a,.int b])=none:=rg (q:=.fork a b) (k:=1) hq;have S2:=rh (ps':=ps++[.fork a b]) S;obtain⟨ma,mb,la,fb,h1,h2,_⟩:=F.ex;have e:=JB S hq hz h1 h2;have t2:aQ (eI (ps++[.fork a b])) (.tup [.str "fork",.int a,.int b])=some (.int ((ps.length+1:Nat):Int)):=by
  unfold eI;rw[rf];unfold aQ at t ⊢
  rw[R6];have t3:(fS 1 ps).find? (λp=>decide (p.1=.tup [.str "fork",.int a,.int b]))=none:=by simpa[eI] using t
  rw[t3];simp[Pc.av,Pr]
 have e':oE [.ref p,.tup [.str "fork",.int a,.int b]] h=.ok .non (gr h p (ps++[.fork a b])):=e;simp[aP,zV S F,S.ob,S.h2,t,e',S2.ob,S2.h2,t2]
def rk(n:Nat):List AO:=[.ins 0 [some (.ref (n+1)),some (.ref (n+2)),some (.ref (n+3)),some (.ref (n+4)),some (.ref (n+5)),some (.ref (n+6)),some (.ref (n+7)),some (.ref (n+8))],.lst [],.dct true [],.lst [.int 0],.lst [.int 0],.lst [.int 0],.lst [.int (-1)],.lst [.int 0],.lst [.int 0]]
def JF{o o':AO}{r:AH}:(h++o::r).set h.length o'=h++o'::r:=by
 induction h with
 |nil=>rfl
 |cons x t ih=>simp[ih]
def zW{r:AH}{k:Nat}:(h++r)[h.length+k]?=r[k]?:=by
 rw[NF ⋯];simp
def JG(h r:AH):ShelfAt (h++(rk h.length++r)) h.length []:=by
 refine⟨?_,?_,?_,?_,?_,?_,?_,?_,?_⟩
 ·rw[show h.length=h.length+0 from rfl,zW];rfl
 all_goals (rw[zW];rfl)
def vc(x:Str)(c i:Nat)(hi:i<x.length):Builtin.Str.subAt x ⟨#[c]⟩ i=decide (x.cps.toList[i]?=some c):=by
 have hi':i<x.cps.size:=hi;unfold Builtin.Str.subAt;have e:x.cps.extract i (i+1)=#[x.cps[i]]:=by
  apply Array.ext
  ·simp;lia
  ·intro j h1 h2
   have:j=0:=by simp at h2;lia
   subst this;simp
 show (x.cps.extract i (i+1) == #[c])=_
 rw[e];have:x.cps.toList[i]?=some x.cps[i]:=by simp[hi']
 rw[this];by_cases q:x.cps[i]=c
 ·simp[q]
 ·simp[q]
theorem rm(x:Str)(c:Nat):∀ (n i:Nat) (st:Array Nat×Nat),i+n=x.length+1->st.2<=i->st.1.size<=i->(forIn (List.range' i n) st (StrLaws.occBody x ⟨#[c]⟩ x.length (x.length+1))).run.fst.size=st.1.size+(x.cps.toList.drop i).count c
 |0,i,st,hn,_,_=>by
  rw[Oy (by simp;simp only[Str.length] at hn;lia)];simp
 |n+1,i,st,hn,h2,h3=>by
  rw[List.range'_succ,Ra];unfold StrLaws.occBody
  by_cases hi:i<x.length
  ·have hi':i<x.cps.size:=hi
   have hd:x.cps.toList.drop i=x.cps[i]'hi'::x.cps.toList.drop (i+1):=by
    rw[Qs (show i<x.cps.toList.length by simpa using hi')];simp
   have hg:x.cps.toList[i]?=some (x.cps[i]'hi'):=by
    simp[hi']
   by_cases q:x.cps[i]'hi'=c
   ·have hs:Builtin.Str.subAt x ⟨#[c]⟩ i=true:=by rw[vc x c i hi,hg,q];simp
    rw[Nn ⟨⟨⟨by lia,h2⟩,hi⟩,hs⟩];show (forIn (List.range' (i+1) n) (st.1.push i,i+1) (StrLaws.occBody x ⟨#[c]⟩ x.length (x.length+1))).run.fst.size=_
    rw[rm x c n (i+1) _ ⋯ (Nk _) (by simp;omega),hd,q];simp;lia
   ·have hs:Builtin.Str.subAt x ⟨#[c]⟩ i=false:=by rw[vc x c i hi,hg];simp[q]
    rw[Nr (by simp[hs])];show (forIn (List.range' (i+1) n) (st.1,st.2) (StrLaws.occBody x ⟨#[c]⟩ x.length (x.length+1))).run.fst.size=_
    rw[rm x c n (i+1) _ ⋯ (by show st.2<=i+1;lia) (by show st.1.size<=i+1;lia),hd];simp[q]
  ·rw[Nr (by rintro⟨⟨_,z⟩,_⟩;exact hi z)]
   show (forIn (List.range' (i+1) n) (st.1,st.2) (StrLaws.occBody x ⟨#[c]⟩ x.length (x.length+1))).run.fst.size=_
   rw[rm x c n (i+1) _ ⋯ (by show st.2<=i+1;lia) (by show st.1.size<=i+1;lia)];rw[Oy (by simp;simp only[Str.length] at hi;lia),Oy (by simp;simp only[Str.length] at hi;lia)]
def JH(x:Str)(c:Nat):(Builtin.Str.occurrences x ⟨#[c]⟩ 0 x.length (x.length+1)).length=x.cps.toList.count c:=by
 rw[StrLaws.occ_eq,OV];rw[show x.length+1-0=x.length+1 from rfl,rm x c (x.length+1) 0 _ ⋯ (Nk _) 's']
 simp
def vd(x:Str):jJ x=x.cps.toList.count 10:=(JH x 10)
def cX(x y:Str):(x++y).cps.toList=x.cps.toList++y.cps.toList:=by
 show (x.cps++y.cps).toList=_
 simp
def JI(x y:Str):jJ (x++y)=jJ x+jJ y:=by
 rw[vd,vd,vd,cX,List.count_append]
def cy(x:Str):x.length=x.cps.toList.length:=by simp[Str.length]
def dU(x y:Str):(x++y).length=x.length+y.length:=by
 rw[cy,cy,cy,cX,NV]
def lO(rs:List Str):Pc->Str
 |.leaf x=>x
 |.fork a b=>rs.getD a "" ++ rs.getD b ""
def reads(ps:List Pc):List Str:=ps.foldl (λrs q=>rs++[lO rs q]) [""]
def JJ(ps:List Pc)(q:Pc):reads (ps++[q])=reads ps++[lO (reads ps) q]:=by simp[reads]
theorem oJ{α β:Type}(g:List β->α->β):∀ (qs:List α) (ms:List β),∃ r,qs.foldl (λms q=>ms++[g ms q]) ms=ms++r/\r.length=qs.length
 |[],ms=>⟨[],by simp,rfl⟩
 |q::qs,ms=>by
  obtain⟨r,e,l⟩:=oJ g qs (ms++[g ms q]);exact⟨g ms q::r,by rw[Rb,e];simp,by simp[l]⟩
def rn(ps:List Pc):(reads ps).length=ps.length+1:=by
 obtain⟨r,e,l⟩:=oJ lO ps [""];rw[reads,e];simp[l,Pr]
def JK(ps qs:List Pc):∃ r,meas (ps++qs)=meas ps++r:=by
 unfold meas;rw[R7];obtain⟨r,e,_⟩:=oJ iH qs (ps.foldl (λms q=>ms++[iH ms q]) [ms0])
 exact⟨r,e⟩
def JL(ps qs:List Pc):∃ r,reads (ps++qs)=reads ps++r:=by
 unfold reads;rw[R7];obtain⟨r,e,_⟩:=oJ lO qs (ps.foldl (λms q=>ms++[lO ms q]) [""])
 exact⟨r,e⟩
def aJ(h:ps <+: ps'){m:Ms}(e:(meas ps)[n]?=some m):(meas ps')[n]?=some m:=by
 obtain⟨qs,rfl⟩:=h;obtain⟨r,q⟩:=JK ps qs;rw[q,Nt (Ni.mp e).1];exact e
def rp(h:ps <+: ps'){m:Str}(e:(reads ps)[n]?=some m):(reads ps')[n]?=some m:=by
 obtain⟨qs,rfl⟩:=h;obtain⟨r,q⟩:=JL ps qs;rw[q,Nt (Ni.mp e).1];exact e
def rq(ps:List Pc)(i:Nat):ps.take i <+: ps:=(List.take_prefix i ps)
def ve(e:ps[i]?=some q):(ps.take i++[q]) <+: ps/\(ps.take i).length=i:=by
 have hi:=(Ni.mp e).1;have:ps.take (i+1)=ps.take i++[q]:=by
  rw[Qm,e];rfl
 exact⟨this▸List.take_prefix _ _,by simp;lia⟩
def zX(e:ps[i]?=some q):(meas ps)[i+1]?=some (iH (meas (ps.take i)) q):=by
 obtain⟨h,l⟩:=ve e;refine aJ h ?_
 rw[u0,NF (by rw[eR,l];lia),eR,l];simp
def zY(e:ps[i]?=some q):(reads ps)[i+1]?=some (lO (reads (ps.take i)) q):=by
 obtain⟨h,l⟩:=ve e;refine rp h ?_
 rw[JJ,NF (by rw[rn,l];lia),rn,l];simp
def oK(ps:List Pc):Pc->Prop
 |.leaf x=>fI x=true
 |.fork a b=>ForkOk ps a b
inductive Good:List Pc->Prop
 |nil:Good []
 |snoc {ps:List Pc} {q:Pc}:Good ps->q∉ps->oK ps q->Good (ps++[q])
def Good.nodup(g:Good ps):ps.Nodup:=by
 induction g with
 |nil=>exact Pl
 |snoc g n ok ih=>exact PJ.mpr ⟨ih,by simp,λa ha b hb=>by simp at hb;subst hb;exactλe=>n (e▸ha)⟩
def Good.get(g:Good ps):∀ {i:Nat} {q:Pc},ps[i]?=some q->oK (ps.take i) q:=by
 induction g with
 |nil=>intro i q e;simp at e
 |@snoc ps q' g n ok ih =>
  intro i q e;by_cases hi:i<ps.length
  ·rw[Nt hi] at e
   rw[P1 ⋯];exact ih e
  ·have hi2:i=ps.length:=by
    have:=(Ni.mp e).1;simp at this;lia
   subst hi2;simp at e
   subst e;simpa using ok
def ForkOk.pre(F:ForkOk ps a b)(h:ps <+: ps'):ForkOk ps' a b:=by
 obtain⟨ma,mb,la,fb,h1,h2,h3,h4,h5⟩:=F.ex;exact⟨F.pa,F.pb,ma,mb,la,fb,aJ h h1,aJ h h2,aJ h h3,aJ h h4,h5⟩
structure Ky(ps:List Pc)(m:Ms)(x:Str)(f l:Ms):Prop where
 fl:(meas ps)[m.fl]?=some f
 ll:(meas ps)[m.ll]?=some l
 sg:m.sg=x.length
 en:m.en=jJ x
 f1:1<=f.sg
 f8:f.sg<=8
 l1:1<=l.sg
 l8:l.sg<=8
 lv:1<=m.lv
 ht:0<=m.ht
 most:m.sg<=1000000000000000000
 cnt:∃ k,(m.lv=2*k+1/\9*k+f.sg<=m.sg/\9*k+l.sg<=m.sg)\/(m.lv=2*k+2/\9*k+9<=m.sg/\9*k+f.sg+l.sg<=m.sg)
 pl:bJ x=true
structure Tx(ps:List Pc)(n:Nat)(m:Ms)(x:Str)(f l:Ms):Prop where
 n1:1<=n
 ms:(meas ps)[n]?=some m
 rd:(reads ps)[n]?=some x
 ky:Ky ps m x f l
def Ky.pre{m:Ms}(k:Ky ps m x f l)(h:ps <+: ps'):Ky ps' m x f l :=(
 { k with fl:=aJ h k.fl,ll:=aJ h k.ll })
def Tx.pre{ps ps':List Pc}{n:Nat}{m:Ms}{x:Str}{f l:Ms}(k:Tx ps n m x f l)(h:ps <+: ps'):Tx ps' n m x f l :=(
 ⟨k.n1,aJ h k.ms,rp h k.rd,k.ky.pre h⟩)
def Tx.le{m:Ms}(k:Tx ps n m x f l):n<=ps.length:=by
 have:=(Ni.mp k.ms).1;rw[eR] at this;lia
def lP(ma mb:Ms):Ms:=⟨ma.sg+mb.sg,ma.en+mb.en,ma.lv+mb.lv,max ma.ht mb.ht+1,ma.fl,mb.ll⟩
def oM(x y:Str):bJ (x++y)=(bJ x && bJ y):=by unfold bJ;rw[cX,List.all_append]
def JM{n' s s' f l f' l':Nat}(a:∃ k,(n=2*k+1/\9*k+f<=s/\9*k+l<=s)\/(n=2*k+2/\9*k+9<=s/\9*k+f+l<=s))(b:∃ k,(n'=2*k+1/\9*k+f'<=s'/\9*k+l'<=s')\/(n'=2*k+2/\9*k+9<=s'/\9*k+f'+l'<=s'))(hs:8<l+f') :
  ∃ k,(n+n'=2*k+1/\9*k+f<=s+s'/\9*k+l'<=s+s')\/(n+n'=2*k+2/\9*k+9<=s+s'/\9*k+f+l'<=s+s'):=by
 obtain⟨k,⟨rfl,a1,a2⟩|⟨rfl,a1,a2⟩⟩:=a<;>obtain⟨k',⟨rfl,b1,b2⟩|⟨rfl,b1,b2⟩⟩:=b
 ·exact⟨k+k',.inr ⟨by lia,by lia,by lia⟩⟩
 ·exact⟨k+k'+1,.inl ⟨by lia,by lia,by lia⟩⟩
 ·exact⟨k+k'+1,.inl ⟨by lia,by lia,by lia⟩⟩
 ·exact⟨k+k'+1,.inr ⟨by lia,by lia,by lia⟩⟩
def Ky.fork(A:Ky ps ma x fa la)(B:Ky ps mb y fb lb)(hs:8<la.sg+fb.sg)(hm:ma.sg+mb.sg<=1000000000000000000):Ky ps (lP ma mb) (x++y) fa lb:=by
 have k:=JM A.cnt B.cnt hs;refine⟨A.fl,B.ll,?_,?_,A.f1,A.f8,B.l1,B.l8,Np A.lv (Nat.le_add_right _ _),?_,hm,k,?_⟩
 ·show ma.sg+mb.sg=_;rw[dU,A.sg,B.sg]
 ·show ma.en+mb.en=_;rw[JI,A.en,B.en]
 ·have a4:=A.ht
  show 0<=max ma.ht mb.ht+1
  clear k hs hm;lia
 ·rw[oM,A.pl,B.pl];rfl
def vf(h:fI x=true):1<=x.length/\x.length<=8/\bJ x=true:=by
 simp[fI] at h;exact⟨h.2.1,h.2.2,h.1⟩
def oO{l:List α}{d x:α}(e:l[i]?=some x):l.getD i d=x:=by simp[List.getD,e]
def bz(x:Str)(n:Nat):Ms:=⟨x.length,jJ x,1,0,n,n⟩
def oQ(g:Good ps)(e:ps[i]?=some (.leaf x)):Tx ps (i+1) (bz x (i+1)) x (bz x (i+1)) (bz x (i+1)):=by
 have hi:=(Ni.mp e).1;have ok:fI x=true:=g.get e;obtain⟨s1,s2,s3⟩:=vf ok;have li:(ps.take i).length=i:=by simp;lia
 have ml:(meas (ps.take i)).length=i+1:=by rw[eR,li]
 have e1':(meas ps)[i+1]?=some (bz x (i+1)):=by rw[zX e];simp only[iH,bz];rw[ml]
 exact⟨by lia,e1',zY e,⟨e1',e1',rfl,rfl,s1,s2,s1,s2,Nk 1,Int.le_refl 0,by show x.length<=_;lia,⟨0,.inl ⟨rfl,QT (R5 _),QT (R5 _)⟩⟩,s3⟩⟩
def oR(g:Good ps)(e:ps[i]?=some (.fork a b))(A:Tx ps a ma x fa la)(B:Tx ps b mb y fb lb):Tx ps (i+1) (lP ma mb) (x++y) fa lb:=by
 have hi:=(Ni.mp e).1;have ok':ForkOk (ps.take i) a b:=g.get e;have li:(ps.take i).length=i:=by simp;lia
 have tp:=rq ps i;obtain⟨ma',mb',la',fb',q1,q2,q3,q4,q5,q6,q7⟩:=ok'.ex;have ba:=(Ni.mp q1).1;have bb:=(Ni.mp q2).1;rw[eR,li] at ba bb;have z1:=A.ms.symm.trans (aJ tp q1);cases z1
 have z2:=B.ms.symm.trans (aJ tp q2);cases z2
 have z3:=A.ky.ll.symm.trans (aJ tp q3);cases z3
 have z4:=B.ky.fl.symm.trans (aJ tp q4);cases z4
 have r1:(reads (ps.take i))[a]?=some x:=by
  obtain⟨w,ew⟩:∃ w,(reads (ps.take i))[a]?=some w:=⟨(reads (ps.take i))[a]'(by rw[rn,li];lia),by simp⟩
  have:=(rp tp ew).symm.trans A.rd;cases this;exact ew
 have r2:(reads (ps.take i))[b]?=some y:=by
  obtain⟨w,ew⟩:∃ w,(reads (ps.take i))[b]?=some w:=⟨(reads (ps.take i))[b]'(by rw[rn,li];lia),by simp⟩
  have:=(rp tp ew).symm.trans B.rd;cases this;exact ew
 refine⟨by lia,?_,?_,A.ky.fork B.ky q5 q7⟩
 ·rw[zX e];simp only[iH,oO q1,oO q2];rfl
 ·rw[zY e];simp only[lO,oO r1,oO r2]
def Good.tx(g:Good ps):∀ n,1<=n->n<=ps.length->∃ m x f l,Tx ps n m x f l:=by
 intro n;induction n using Nat.strongRecOn with
 |ind n ih =>
  intro h1 h2;obtain⟨i,rfl⟩:∃ i,n=i+1:=⟨n-1,(Nat.sub_add_cancel h1).symm⟩
  obtain⟨q,eq⟩:∃ q,ps[i]?=some q:=⟨ps[i],by simp⟩
  have ok:=g.get eq;have li:(ps.take i).length=i:=(ve eq).2
  cases q with
  |leaf x=>exact⟨_,_,_,_,oQ g eq⟩
  |fork a b =>
   have ok':ForkOk (ps.take i) a b:=ok;obtain⟨ma,mb,la,fb,q1,q2,_⟩:=ok'.ex;have ba:=(Ni.mp q1).1;have bb:=(Ni.mp q2).1;rw[eR,li] at ba bb;obtain⟨_,_,_,_,A⟩:=ih a ba ok'.pa (Np (Qc ba) h2)
   obtain⟨_,_,_,_,B⟩:=ih b bb ok'.pb (Np (Qc bb) h2);exact⟨_,_,_,_,oR g eq A B⟩
structure Dd(p:Nat)(h h':AH)(ps ps':List Pc)(k:Nat):Prop where
 sh:ShelfAt h' p ps'
 gd:Good ps'
 pre:ps <+: ps'
 len:ps'.length<=ps.length+k
 fr:∀ i,i<=p\/p+8<i->h'[i]?=h[i]?
 hl:h'.length=h.length
def ShelfAt.keep(S:ShelfAt h p ps)(e:∀ i,p<=i->i<=p+8->h'[i]?=h[i]?):ShelfAt h' p ps:=by
 have k:∀ j,j<=8->h'[p+j]?=h[p+j]?:=λj hj=>e _ (Nat.le_add_right p j) (NQ hj p)
 exact⟨(k 0 'd').trans S.ob,(k 1 'd').trans S.h1,(k 2 'd').trans S.h2,(k 3 'd').trans S.h3,(k 4 'd').trans S.h4,(k 5 'd').trans S.h5,(k 6 'd').trans S.h6,(k 7 'd').trans S.h7,(k 8 'd').trans S.h8⟩
def ShelfAt.app(S:ShelfAt h p ps)(r:AH):ShelfAt (h++r) p ps:=by
 have:=bX S.h8;exact S.keep λi _ b=>Nt (Nz b this)
def rA(S:ShelfAt h p ps)(hi:i<=ps.length):j9 [.ref p,.int i] h=.ok .non h:=by
 by_cases z:i=0
 ·subst z;simp[j9]
 ·have c:=rj S (i:=(i:Int)) ⟨by lia,by lia⟩
  simp[j9,z,S.ob,c]
def cz{m:Ms}(S:ShelfAt h p ps)(e:(meas ps)[i]?=some m):dQ [.ref p,.int i] h=.ok (.int m.sg) h:=by
 have hi:=(Ni.mp e).1;rw[eR] at hi;simp[dQ,rA S (show i<=ps.length by lia),S.ob,S.h3,gW e]
def cY{m:Ms}(S:ShelfAt h p ps)(e:(meas ps)[i]?=some m):gT [.ref p,.int i] h=.ok (.int m.ht) h:=by
 have hi:=(Ni.mp e).1;rw[eR] at hi;simp[gT,rA S (show i<=ps.length by lia),S.ob,S.h6,gW e]
def zZ{m:Ms}(S:ShelfAt h p ps)(e:(meas ps)[i]?=some m):oI [.ref p,.int i] h=.ok (.int m.fl) h:=by
 have hi:=(Ni.mp e).1;rw[eR] at hi;simp[oI,rA S (show i<=ps.length by lia),S.ob,S.h7,gW e]
def z8{m:Ms}(S:ShelfAt h p ps)(e:(meas ps)[i]?=some m):oH [.ref p,.int i] h=.ok (.int m.ll) h:=by
 have hi:=(Ni.mp e).1;rw[eR] at hi;simp[oH,rA S (show i<=ps.length by lia),S.ob,S.h8,gW e]
def lp:Nat->Nat×Nat
 |0=>(1,2)
 |n+1=>((lp n).2,(lp n).1+(lp n).2)
def ll(n:Nat):Nat:=(lp n).1
def ls(n:Nat):Nat:=9*(ll n / 2)+ll n % 2
def jK(n:Nat):ll (n+2)=ll n+ll (n+1):=(rfl)
theorem z9:∀ n,ll n<=ll (n+1)
 |0=>by decide
 |n+1=>by rw[show n+1+1=n+2 from rfl,jK];lia
def JN(h:a<=b):ll a<=ll b:=by
 induction h with
 |refl=>exact Nk _
 |step h ih=>exact Np ih (z9 _)
def JO(h:a<=b):ls a<=ls b:=by
 have:=JN h;unfold ls;lia
def JP(h1:i<=j+1)(h2:j<=i+1)(u1:ll i<=a)(u2:ll j<=b):ll (max i j+1)<=a+b:=by
 rcases Nat.lt_trichotomy i j with c|c|c
 ·have e':j=i+1:=Nat.le_antisymm h2 c
  subst e'
  rw[Nat.max_eq_right (Qv i),jK];exact Rz u1 u2
 ·subst c
  rw[Nat.max_self];refine Np ?_ (Rz u1 u2)
  cases i with
  |zero=>exact Nk 2
  |succ k=>rw[show k+1+1=k+2 from rfl,jK];exact Nat.add_le_add_right (z9 k) _
 ·have e':i=j+1:=Nat.le_antisymm h1 c
  subst e'
  rw[Nat.max_eq_left (Qv j),jK,Pr];exact Rz u1 u2
def JQ{x y:Int}(hx:0<=x)(hy:0<=y)(q:(x-y).natAbs<=1)(u1:ll x.toNat<=a)(u2:ll y.toNat<=b):ll (max x y+1).toNat<=a+b:=by
 obtain⟨i,rfl⟩:=OB hx;obtain⟨j,rfl⟩:=OB hy;have e:(max (i:Int) j+1).toNat=max i j+1:=by clear u1 u2 q;omega
 rw[e];exact JP (by clear u1 u2 e;omega) (by clear u1 u2 e;lia) u1 u2
def Good.lv{ps:List Pc}(g:Good ps):∀ n m x f l,Tx ps n m x f l->ll m.ht.toNat<=m.lv:=by
 intro n;induction n using Nat.strongRecOn with
 |ind n ih =>
  intro m x f l T;have hn:=T.n1;have hle:=T.le;obtain⟨i,rfl⟩:∃ i,n=i+1:=⟨n-1,by lia⟩
  obtain⟨q,eq⟩:∃ q,ps[i]?=some q:=⟨ps[i],by simp⟩
  cases q with
  |leaf y =>
   have z:=(oQ g eq).ms.symm.trans T.ms;cases z
   exact Nk 1
  |fork a b =>
   have ok':ForkOk (ps.take i) a b:=g.get eq;have li:(ps.take i).length=i:=by simp;lia
   obtain⟨ma,mb,la,fb,q1,q2,q3,q4,q5,q6,q7⟩:=ok'.ex;have ba:=(Ni.mp q1).1;have bb:=(Ni.mp q2).1;rw[eR,li] at ba bb;obtain⟨ma',x1,fa,la',A⟩:=g.tx a ok'.pa ⋯
   obtain⟨mb',y1,fb',lb,B⟩:=g.tx b ok'.pb ⋯;have tp:=rq ps i;have z1:=A.ms.symm.trans (aJ tp q1);cases z1
   have z2:=B.ms.symm.trans (aJ tp q2);cases z2
   have u1:=ih a ⋯ _ _ _ _ A;have u2:=ih b ⋯ _ _ _ _ B;have z:=(oR g eq A B).ms.symm.trans T.ms;cases z
   exact JQ A.ky.ht B.ky.ht q6 u1 u2
def Tx.ls{ps:List Pc}(g:Good ps){n:Nat}{m:Ms}{x:Str}{f l:Ms}(T:Tx ps n m x f l):Sk.ls m.ht.toNat<=m.sg:=by
 have u:=g.lv _ _ _ _ _ T;have f1:=T.ky.f1;unfold Sk.ls;obtain⟨k,⟨e,a,_⟩|⟨e,a,_⟩⟩:=T.ky.cnt
 ·rw[e] at u;generalize ll m.ht.toNat=q at *;clear e;lia
 ·rw[e] at u;generalize ll m.ht.toNat=q at *;clear e;lia
def Good.kind(g:Good ps){m:Ms}(T:Tx ps n m x f l) :
  (ps[n-1]?=some (.leaf x)/\m.ht=0/\m=bz x n/\1<=x.length/\x.length<=8)\/∃ a b ma mb y z fa la fb lb,ps[n-1]?=some (.fork a b)/\a<n/\b<n/\Tx ps a ma y fa la/\Tx ps b mb z fb lb/\x=y++z/\m=lP ma mb/\(ma.ht-mb.ht).natAbs<=1:=by
 have hn:=T.n1;have hle:=T.le;obtain⟨i,rfl⟩:∃ i,n=i+1:=⟨n-1,by lia⟩
 obtain⟨q,eq⟩:∃ q,ps[i]?=some q:=⟨ps[i],by simp⟩
 cases q with
 |leaf y =>
  have L:=oQ g eq;have z:=L.ms.symm.trans T.ms;cases z
  have z2:=L.rd.symm.trans T.rd;cases z2
  have ok:fI x=true:=g.get eq;obtain⟨s1,s2,s3⟩:=vf ok;exact .inl ⟨eq,rfl,rfl,s1,s2⟩
 |fork a b =>
  have ok':ForkOk (ps.take i) a b:=g.get eq;have li:(ps.take i).length=i:=by simp;lia
  obtain⟨ma,mb,la,fb,q1,q2,q3,q4,q5,q6,q7⟩:=ok'.ex;have ba:=(Ni.mp q1).1;have bb:=(Ni.mp q2).1;rw[eR,li] at ba bb;obtain⟨ma',y,fa,la',A⟩:=g.tx a ok'.pa ⋯
  obtain⟨mb',z,fb',lb,B⟩:=g.tx b ok'.pb ⋯;have tp:=rq ps i;have z1:=A.ms.symm.trans (aJ tp q1);cases z1
  have z2:=B.ms.symm.trans (aJ tp q2);cases z2
  have F:=oR g eq A B;have z3:=F.ms.symm.trans T.ms;cases z3
  have z4:=F.rd.symm.trans T.rd;cases z4
  exact .inr ⟨a,b,ma,mb,y,z,fa,la',fb',lb,eq,by lia,by lia,A,B,rfl,rfl,q6⟩
def nh(S:ShelfAt h p ps)(n1:1<=n)(e:ps[n-1]?=some q):cM [.ref p,.int n] h=.ok q.av h:=by
 have:=Jz S e;rw[show ((n-1:Nat):Int)+1=(n:Int) by lia] at this;exact this
def Aa{m a b:Int}(e:m=max a b+1)(ha:0<=a)(hb:0<=b):∃ j:Nat,m.toNat=j+1/\a.toNat<=j/\b.toNat<=j/\0<m:=by
 obtain⟨x,rfl⟩:=OB ha;obtain⟨y,rfl⟩:=OB hb;subst e;exact⟨max x y,by lia,Nat.le_max_left _ _,Nat.le_max_right _ _,by lia⟩
def bZ(e:x.cps.toList=y.cps.toList):x=y:=by
 cases x;cases y
 simpa using e
def eJ(x y z:Str):(x++y)++z=x++(y++z):=(bZ (by simp only[cX,PQ]))
def vg:1000000000000000000<ls 83:=by decide +kernel
def eP(g:Good ps){m:Ms}(T:Tx ps n m x f l):m.ht<=82:=by
 have h1:=T.ls g;have h2:=T.ky.most;have h3:=T.ky.ht;apply Classical.byContradiction
 intro h4;have:=JO (show 83<=m.ht.toNat by lia);have:=vg;lia
def Good.cut(g:Good ps){m:Ms}(T:Tx ps n m x f l)(hh:0<m.ht) :
  ∃ a b ma mb y z la fb,ps[n-1]?=some (.fork a b)/\Tx ps a ma y f la/\Tx ps b mb z fb l/\x=y++z/\m=lP ma mb /\ -1<=ma.ht-mb.ht/\ma.ht-mb.ht<=1/\8<la.sg+fb.sg:=by
 rcases g.kind T with⟨_,e,_⟩|⟨a,b,ma,mb,y,z,fa,la,fb,lb,e1,e2,e3,A,B,e4,e5,e6⟩
 ·lia
 ·have ok:ForkOk (ps.take (n-1)) a b:=g.get e1
  obtain⟨ma',mb',la',fb',q1,q2,q3,q4,q5,_⟩:=(ok.pre (rq ps _)).ex;have z1:=A.ms.symm.trans q1;cases z1
  have z2:=B.ms.symm.trans q2;cases z2
  have z3:=A.ky.ll.symm.trans q3;cases z3
  have z4:=B.ky.fl.symm.trans q4;cases z4
  have f1:=T.ky.fl;have l1:=T.ky.ll;rw[e5] at f1 l1;have z5:=f1.symm.trans A.ky.fl;cases z5
  have z6:=l1.symm.trans B.ky.ll;cases z6
  exact⟨a,b,ma,mb,y,z,la,fb,e1,A,B,e4,e5,by lia,by lia,q5⟩
structure Dn(F:AH->Out AV)(p:Nat)(h h':AH)(ps ps':List Pc)(k n:Nat):Prop where
 ev:F h=.ok (.int n) h'
 dd:Dd p h h' ps ps' k
 re:∀ h2 ps2,ShelfAt h2 p ps2->Good ps2->ps' <+: ps2->F h2=.ok (.int n) h2
def Dd.trans{p:Nat}{h h' h'':AH}{ps ps' ps'':List Pc}{k k' k2:Nat}(a:Dd p h h' ps ps' k)(b:Dd p h' h'' ps' ps'' k')(hk:k+k'<=k2):Dd p h h'' ps ps'' k2 :=(
 ⟨b.sh,b.gd,a.pre.trans b.pre,by have:=a.len;have:=b.len;lia,λi hi=>(b.fr i hi).trans (a.fr i hi),b.hl.trans a.hl⟩)
def Dd.refl(S:ShelfAt h p ps)(g:Good ps):Dd p h h ps ps 0:=(⟨S,g,Oj _,by lia,λ_ _=>rfl,rfl⟩)
variable{F:AH->Out AV}
def Dn.seq{F1:AH->Out AV}{F2:AV->AH->Out AV}{ps2:List Pc}{k n2:Nat}(S:ShelfAt h p ps)(g:Good ps)(d1:Dn F1 p h h1 ps ps1 k1 n1)(d2:Dn (F2 (.int n1)) p h1 h2 ps1 ps2 k2 n2)(eq:∀ hh pp,ShelfAt hh p pp->Good pp->ps <+: pp->F hh=(F1 hh).bind F2)(hk:k1+k2<=k):Dn F p h h2 ps ps2 k n2:=by
 refine⟨?_,d1.dd.trans d2.dd hk,λh3 ps3 S3 g3 p3=>?_⟩
 ·rw[eq h ps S g (Oj _),d1.ev];exact d2.ev
 ·rw[eq h3 ps3 S3 g3 (d1.dd.pre.trans (d2.dd.pre.trans p3)),d1.re h3 ps3 S3 g3 (d2.dd.pre.trans p3)]
  exact d2.re h3 ps3 S3 g3 p3
def Dn.as{F1:AH->Out AV}{k:Nat}(S:ShelfAt h p ps)(g:Good ps)(d1:Dn F1 p h h1 ps ps1 k1 n1)(eq:∀ hh pp,ShelfAt hh p pp->Good pp->ps <+: pp->F hh=F1 hh)(hk:k1<=k):Dn F p h h1 ps ps1 k n1:=by
 refine⟨?_,{ d1.dd with len:=Np d1.dd.len (NQ hk _) },λh3 ps3 S3 g3 p3=>?_⟩
 ·rw[eq h ps S g (Oj _)];exact d1.ev
 ·rw[eq h3 ps3 S3 g3 (d1.dd.pre.trans p3)];exact d1.re h3 ps3 S3 g3 p3
def Dn.val(S:ShelfAt h p ps)(g:Good ps)(eq:∀ hh pp,ShelfAt hh p pp->Good pp->ps <+: pp->F hh=.ok (.int n) hh):Dn F p h h ps ps 0 n :=(
 ⟨eq h ps S g (Oj _),Dd.refl S g,λh3 ps3 S3 g3 p3=>eq h3 ps3 S3 g3 p3⟩)
def cR(h:ps <+: ps')(e:ps[i]?=some q):ps'[i]?=some q:=by
 obtain⟨r,rfl⟩:=h;rw[Nt (Ni.mp e).1];exact e
def rB(S:ShelfAt h p ps)(g:Good ps)(hx:fI x=true)(hz:ps.length<16000000) :
  ∃ (n:Nat) (ps':List Pc) (h':AH),Dn (d0 [.ref p,.str x]) p h h' ps ps' 1 n/\Tx ps' n (bz x n) x (bz x n) (bz x n):=by
 obtain⟨s1,s2,s3⟩:=vf hx;have hs:x.length<=sizeLine:=Np s2 'd';by_cases hq:Pc.leaf x∈ps
 ·obtain⟨i,hi,e⟩:=Pu hq
  have e':ps[i]?=some (.leaf x):=by rw[Nx hi,e]
  exact⟨i+1,ps,h,⟨va S g.nodup hx hs e',⟨S,g,Oj _,by lia,λ_ _=>rfl,rfl⟩,λh2 ps2 S2 g2 p2=>va S2 g2.nodup hx hs (cR p2 e')⟩,oQ g e'⟩
 ·have g':Good (ps++[.leaf x]):=.snoc g hq hx
  have e':(ps++[Pc.leaf x])[ps.length]?=some (.leaf x):=by simp
  exact⟨ps.length+1,_,_,⟨JC S hx hs hq hz,⟨rh S,g',RS _ _,by simp,λi hi=>zR hi,zQ _ _ _⟩,λh2 ps2 S2 g2 p2=>va S2 g2.nodup hx hs (cR p2 e')⟩,oQ g' e'⟩
def fT(S:ShelfAt h p ps)(g:Good ps)(A:Tx ps a ma x fa la)(B:Tx ps b mb y fb lb)(hc:8<la.sg+fb.sg)(v1:-1<=ma.ht-mb.ht)(v2:ma.ht-mb.ht<=1)(hm:ma.sg+mb.sg<=1000000000000000000)(hz:ps.length<16000000) :
  ∃ (n:Nat) (ps':List Pc) (h':AH),Dn (aP [.ref p,.int a,.int b]) p h h' ps ps' 1 n/\Tx ps' n (lP ma mb) (x++y) fa lb:=by
 have F:ForkOk ps a b:=⟨A.n1,B.n1,ma,mb,la,fb,A.ms,B.ms,A.ky.ll,B.ky.fl,hc,by lia,hm⟩
 by_cases hq:Pc.fork a b∈ps
 ·obtain⟨i,hi,e⟩:=Pu hq
  have e':ps[i]?=some (.fork a b):=by rw[Nx hi,e]
  exact⟨i+1,ps,h,⟨vb S g.nodup F e',⟨S,g,Oj _,by lia,λ_ _=>rfl,rfl⟩,λh2 ps2 S2 g2 p2=>vb S2 g2.nodup (F.pre p2) (cR p2 e')⟩,oR g e' A B⟩
 ·have g':Good (ps++[.fork a b]):=.snoc g hq F
  have e':(ps++[Pc.fork a b])[ps.length]?=some (.fork a b):=by simp
  have pr:ps <+: ps++[Pc.fork a b]:=RS _ _;exact⟨ps.length+1,_,_,⟨JE S F hq hz,⟨rh S,g',pr,by simp,λi hi=>zR hi,zQ _ _ _⟩,λh2 ps2 S2 g2 p2=>vb S2 g2.nodup (F.pre (pr.trans p2)) (cR p2 e')⟩,oR g' e' (A.pre pr) (B.pre pr)⟩
def fU(ma mb:Ms):(lP ma mb).sg=ma.sg+mb.sg:=(rfl)
def bD(ma mb:Ms):(lP ma mb).ht=max ma.ht mb.ht+1:=(rfl)
def i1(s:Str)(a b:Int)(h:AH):ao (.tup [.str s,.int a,.int b]) (.int 1) h=.ok (.int a) h:=(rfl)
def i2(s:Str)(a b:Int)(h:AH):ao (.tup [.str s,.int a,.int b]) (.int 2) h=.ok (.int b) h:=(rfl)
def fV(S:ShelfAt h p ps)(n1:1<=n)(e:ps[n-1]?=some (.fork a b)):cM [.ref p,.int n] h=.ok (.tup [.str "fork",.int a,.int b]) h:=(nh S n1 e)
def vh(S:ShelfAt h p ps)(ea:(meas ps)[a]?=some ma)(eb:(meas ps)[b]?=some mb)(hd:mb.ht-ma.ht<2) :
  gp [.ref p,.int a,.int b] h=aP [.ref p,.int a,.int b] h:=by
 have f1:=cY S ea;have f2:=cY S eb;generalize hF:aP [.ref p,.int a,.int b] h=R
 simp[gp,S.ob,f1,f2,hd,hF]
 cases R<;>rfl
def vi(S:ShelfAt h p ps)(b1:1<=b)(ea:(meas ps)[a]?=some ma)(eb:(meas ps)[b]?=some mb)(e:ps[b-1]?=some (.fork c d))(ec:(meas ps)[c]?=some mc)(ed:(meas ps)[d]?=some md)(hd:¬ mb.ht-ma.ht<2)(hh:mc.ht<=md.ht) :
  gp [.ref p,.int a,.int b] h=(aP [.ref p,.int a,.int c] h).bind λv h1=>aP [.ref p,v,.int d] h1:=by
 have f1:=cY S ea;have f2:=cY S eb;have f3:=fV S b1 e;have f4:=cY S ec;have f5:=cY S ed;generalize hF:aP [.ref p,.int a,.int c] h=R
 simp[gp,S.ob,f1,f2,hd,f3,i1,i2,f4,f5,hh,hF,-ao]
 cases R with
 |ok v h1=>dsimp only;cases aP [.ref p,v,.int d] h1<;>rfl
 |ex c h1=>rfl
 |bad=>rfl
def dh(p:Nat)(F:AH->Out AV)(h:AH):Out AV:=match h[p]? with
 |some (.ins c' _)=>if c'=0 then F h else .bad
 |_=>.bad
def Ab(S:ShelfAt h p ps)(F:AH->Out AV):dh p F h=F h:=by simp[dh,S.ob]
def vj(S:ShelfAt h p ps)(b1:1<=b)(c1:1<=c)(ea:(meas ps)[a]?=some ma)(eb:(meas ps)[b]?=some mb)(e:ps[b-1]?=some (.fork c d))(ec:(meas ps)[c]?=some mc)(ed:(meas ps)[d]?=some md)(e2:ps[c-1]?=some (.fork i j))(hd:¬ mb.ht-ma.ht<2)(hh:¬ mc.ht<=md.ht) :
  gp [.ref p,.int a,.int b] h=(aP [.ref p,.int a,.int i] h).bind λv h1=>(dh p (aP [.ref p,.int j,.int d]) h1).bind λw h2=>aP [.ref p,v,w] h2:=by
 have f1:=cY S ea;have f2:=cY S eb;have f3:=fV S b1 e;have f4:=cY S ec;have f5:=cY S ed;have f6:=fV S c1 e2;generalize hF:aP [.ref p,.int a,.int i] h=R
 simp[gp,S.ob,f1,f2,hd,f3,i1,i2,f4,f5,hh,f6,hF,-ao]
 cases R with
 |ok v h1 =>
  unfold dh;dsimp only
  cases hx:h1[p]? with
  |none=>rfl
  |some o =>
   cases o with
   |lst l=>rfl
   |dct q l=>rfl
   |dcx l=>rfl
   |ins c' l =>
    dsimp only;by_cases z:c'=0
    ·rw[Nn z]
     cases aP [.ref p,.int j,.int d] h1 with
     |ok w h2=>dsimp only;cases aP [.ref p,v,w] h2<;>rfl
     |ex c h2=>rfl
     |bad=>rfl
    ·rw[Nr z]
 |ex c h1=>rfl
 |bad=>rfl
def vm{a b m:Int}(h1:-1<=b-a)(h2:b-a<2)(e:m=max a b+1):max a b<=m/\m<=max a b+1/\(b-a<=1->m=max a b+1):=by lia
def JR{a b c d i j:Int}(ht:b=max c d+1)(ht2:c=max i j+1)(w1:-1<=c-d)(w2:c-d<=1)(v2:b-a<=2)(q:¬ b-a<2)(r:¬ c<=d):max a b<=max (max a i+1) (max j d+1)+1/\max (max a i+1) (max j d+1)+1<=max a b+1/\(b-a<=1->max (max a i+1) (max j d+1)+1=max a b+1):=by
 have hi:=Int.le_max_left i j;have hj:=Int.le_max_right i j;generalize max i j=k at *;rw[OT (show d<=c by lia)] at ht
 rw[OT (show i<=a by(clear hj r q w2 w1;lia)),O9 (show j<=d by(clear hi r q v2 w1 ht;lia)),O9 (show a<=b by(clear hj hi ht2 r v2 w2 w1 ht;lia)),OT (show d+1<=a+1 by(clear hj hi ht2 q w2;lia))];(clear hj hi ht2 r w2 w1 ht;omega)
def JS{a b c d i j:Int}(ht:a=max c d+1)(ht2:d=max i j+1)(w1:-1<=c-d)(w2:c-d<=1)(v2:a-b<=2)(q:¬ a-b<2)(r:¬ d<=c):max a b<=max (max c i+1) (max j b+1)+1/\max (max c i+1) (max j b+1)+1<=max a b+1/\(a-b<=1->max (max c i+1) (max j b+1)+1=max a b+1):=by
 have hi:=Int.le_max_left i j;have hj:=Int.le_max_right i j;generalize max i j=k at *;rw[O9 (show c<=d by lia)] at ht
 rw[OT (show i<=c by lia),O9 (show j<=b by(clear hi r q w2 w1;lia)),OT (show b<=a by(clear hj hi ht2 r v2 w2 w1 ht;lia)),OT (show b+1<=c+1 by(clear hj hi ht2 r v2 w2;lia))];(clear hj hi ht2 v2 w2;lia)
def Ac(S:ShelfAt h p ps)(g:Good ps)(A:Tx ps a ma x fa la)(B:Tx ps b mb y fb lb)(hc:8<la.sg+fb.sg)(v1:-1<=mb.ht-ma.ht)(v2:mb.ht-ma.ht<=2)(hm:ma.sg+mb.sg<=1000000000000000000)(hz:ps.length+3<16000000) :
  ∃ (n:Nat) (ps':List Pc) (h':AH) (m:Ms),Dn (gp [.ref p,.int a,.int b]) p h h' ps ps' 3 n/\Tx ps' n m (x++y) fa lb/\max ma.ht mb.ht<=m.ht/\m.ht<=max ma.ht mb.ht+1/\(mb.ht-ma.ht<=1->m.ht=max ma.ht mb.ht+1):=by
 by_cases q:mb.ht-ma.ht<2
 ·obtain⟨n,ps',h',d,T⟩:=fT S g A B hc (by(clear hz hm v2 v1 hc B A g S;lia)) ⋯ hm ⋯
  exact⟨n,ps',h',_,d.as S g (λhh pp S' _ pr=>vh S' (aJ pr A.ms) (aJ pr B.ms) q) ⋯,T,vm v1 q (bD ma mb)⟩
 ·obtain⟨c,d,mc,md,y1,y2,lc,fd,e,C,D,rfl,em,w1,w2,w3⟩:=g.cut B (by have:=A.ky.ht;(clear hz hm v2 v1 hc B A g S;omega))
  have sg:=congrArg Ms.sg em;have ht:=congrArg Ms.ht em;rw[fU] at sg;rw[bD] at ht;by_cases r:mc.ht<=md.ht
  ·obtain⟨n1,ps1,h1,d1,T1⟩:=fT S g A C hc (by(clear sg w3 w2 w1 em B D C e q hz hm v1 hc A g S;lia)) (by(clear sg w3 w2 em B D C e hz hm v2 v1 hc A g S;lia)) ⋯ ⋯
   obtain⟨n2,ps2,h2,d2,T2⟩:=fT d1.dd.sh d1.dd.gd T1 (D.pre d1.dd.pre) w3 (by rw[bD];(clear T1 d1 r ht sg w3 w2 em B D C e q hz hm v2 v1 hc A g S;lia)) (by rw[bD];(clear T1 d1 sg w3 w2 w1 em B D C e hz hm v2 v1 hc A g S;lia)) (by rw[fU];lia) (by have:=d1.dd.len;lia)
   rw[eJ] at T2;refine⟨n2,ps2,h2,_,Dn.seq S g d1 d2 (λhh pp S' _ pr=>vi S' B.n1 (aJ pr A.ms) (aJ pr B.ms) (cR pr e) (aJ pr C.ms) (aJ pr D.ms) q r) ⋯,T2,?_⟩
   rw[bD,bD];lia
  ·obtain⟨i,j,mi,mj,z1,z2,li,fj,e2,I,J,rfl,em2,u1,u2,u3⟩:=g.cut C (by have:=D.ky.ht;(clear ht sg w3 w2 w1 em B D C e q hz hm v2 v1 hc A g S;lia))
   have sg2:=congrArg Ms.sg em2;have ht2:=congrArg Ms.ht em2;rw[fU] at sg2;rw[bD] at ht2;obtain⟨n1,ps1,h1,d1,T1⟩:=fT S g A I hc (by(clear sg2 u3 u2 em2 B C J I e2 sg w3 w1 em D q hz hm v1 hc A g S;lia)) (by(clear sg2 u3 u2 em2 B C J I e2 sg w3 w1 em D hz hm v2 v1 hc A g S;lia)) ⋯ ⋯
   obtain⟨n2,ps2,h2,d2,T2⟩:=fT d1.dd.sh d1.dd.gd (J.pre d1.dd.pre) (D.pre d1.dd.pre) w3 (by(clear T1 d1 sg2 u3 u1 em2 B C J I e2 ht sg w3 w2 w1 em D e q hz hm v2 v1 hc A g S;lia)) (by(clear T1 d1 sg2 u3 u2 u1 em2 B C J I e2 r ht sg w3 w1 em D e q hz hm v2 v1 hc A g S;lia)) ⋯ (by have:=d1.dd.len;lia)
   obtain⟨n3,ps3,h3,d3,T3⟩:=fT d2.dd.sh d2.dd.gd (T1.pre d2.dd.pre) T2 u3 (by rw[bD,bD];(clear T2 d2 T1 d1 sg2 u3 u2 em2 B C J I sg w3 w1 em D q hz hm v1 hc A g S;lia)) (by rw[bD,bD];(clear T2 d2 T1 d1 sg2 u3 u1 em2 B C J I sg w3 w1 em D hz hm v2 v1 hc A g S;lia)) (by rw[fU,fU];lia) (by have:=d1.dd.len;have:=d2.dd.len;lia)
   have d2':Dn (dh p (aP [.ref p,.int j,.int d])) p h1 h2 ps1 ps2 1 n2:=d2.as d1.dd.sh d1.dd.gd (λhh pp S' _ _=>Ab S' _) (Nk _);have d23:=Dn.seq (F:=λh1=>(dh p (aP [.ref p,.int j,.int d]) h1).bind λw h2=>aP [.ref p,.int n1,w] h2) (F2:=λw h2=>aP [.ref p,.int n1,w] h2) d1.dd.sh d1.dd.gd d2' d3 (λ_ _ _ _ _=>rfl) (k:=2) ⋯;have ea:(x++z1)++(z2++y2)=x++(z1++z2++y2):=by rw[eJ,eJ]
   rw[ea] at T3;refine⟨n3,ps3,h3,_,Dn.seq (F2:=λv h1=>(dh p (aP [.ref p,.int j,.int d]) h1).bind λw h2=>aP [.ref p,v,w] h2) S g d1 d23 (λhh pp S' _ pr=>vj S' B.n1 C.n1 (aJ pr A.ms) (aJ pr B.ms) (cR pr e) (aJ pr C.ms) (aJ pr D.ms) (cR pr e2) q r) ⋯,T3,?_⟩
   rw[bD,bD,bD];exact JR ht ht2 w1 w2 v2 q r
def vn(S:ShelfAt h p ps)(ea:(meas ps)[a]?=some ma)(eb:(meas ps)[b]?=some mb)(hd:ma.ht-mb.ht<2) :
  iE [.ref p,.int a,.int b] h=aP [.ref p,.int a,.int b] h:=by
 have f1:=cY S ea;have f2:=cY S eb;generalize hF:aP [.ref p,.int a,.int b] h=R
 simp[iE,S.ob,f1,f2,hd,hF]
 cases R<;>rfl
def vo(S:ShelfAt h p ps)(a1:1<=a)(ea:(meas ps)[a]?=some ma)(eb:(meas ps)[b]?=some mb)(e:ps[a-1]?=some (.fork c d))(ec:(meas ps)[c]?=some mc)(ed:(meas ps)[d]?=some md)(hd:¬ ma.ht-mb.ht<2)(hh:md.ht<=mc.ht) :
  iE [.ref p,.int a,.int b] h=(aP [.ref p,.int d,.int b] h).bind λv h1=>aP [.ref p,.int c,v] h1:=by
 have f1:=cY S ea;have f2:=cY S eb;have f3:=fV S a1 e;have f4:=cY S ec;have f5:=cY S ed;generalize hF:aP [.ref p,.int d,.int b] h=R
 simp[iE,S.ob,f1,f2,hd,f3,i1,i2,f4,f5,hh,hF,-ao]
 cases R with
 |ok v h1=>dsimp only;cases aP [.ref p,.int c,v] h1<;>rfl
 |ex c h1=>rfl
 |bad=>rfl
def vp(S:ShelfAt h p ps)(a1:1<=a)(d1:1<=d)(ea:(meas ps)[a]?=some ma)(eb:(meas ps)[b]?=some mb)(e:ps[a-1]?=some (.fork c d))(ec:(meas ps)[c]?=some mc)(ed:(meas ps)[d]?=some md)(e2:ps[d-1]?=some (.fork i j))(hd:¬ ma.ht-mb.ht<2)(hh:¬ md.ht<=mc.ht) :
  iE [.ref p,.int a,.int b] h=(aP [.ref p,.int c,.int i] h).bind λv h1=>(dh p (aP [.ref p,.int j,.int b]) h1).bind λw h2=>aP [.ref p,v,w] h2:=by
 have f1:=cY S ea;have f2:=cY S eb;have f3:=fV S a1 e;have f4:=cY S ec;have f5:=cY S ed;have f6:=fV S d1 e2;generalize hF:aP [.ref p,.int c,.int i] h=R
 simp[iE,S.ob,f1,f2,hd,f3,i1,i2,f4,f5,hh,f6,hF,-ao]
 cases R with
 |ok v h1 =>
  unfold dh;dsimp only
  cases hx:h1[p]? with
  |none=>rfl
  |some o =>
   cases o with
   |lst l=>rfl
   |dct q l=>rfl
   |dcx l=>rfl
   |ins c' l =>
    dsimp only;by_cases z:c'=0
    ·rw[Nn z]
     cases aP [.ref p,.int j,.int b] h1 with
     |ok w h2=>dsimp only;cases aP [.ref p,v,w] h2<;>rfl
     |ex c h2=>rfl
     |bad=>rfl
    ·rw[Nr z]
 |ex c h1=>rfl
 |bad=>rfl
def JT(S:ShelfAt h p ps)(g:Good ps)(A:Tx ps a ma x fa la)(B:Tx ps b mb y fb lb)(hc:8<la.sg+fb.sg)(v1:-1<=ma.ht-mb.ht)(v2:ma.ht-mb.ht<=2)(hm:ma.sg+mb.sg<=1000000000000000000)(hz:ps.length+3<16000000) :
  ∃ (n:Nat) (ps':List Pc) (h':AH) (m:Ms),Dn (iE [.ref p,.int a,.int b]) p h h' ps ps' 3 n/\Tx ps' n m (x++y) fa lb/\max ma.ht mb.ht<=m.ht/\m.ht<=max ma.ht mb.ht+1/\(ma.ht-mb.ht<=1->m.ht=max ma.ht mb.ht+1):=by
 by_cases q:ma.ht-mb.ht<2
 ·obtain⟨n,ps',h',d,T⟩:=fT S g A B hc (by omega) (by(clear hz hm v2 v1 hc B A g S;lia)) hm ⋯
  refine⟨n,ps',h',_,d.as S g (λhh pp S' _ pr=>vn S' (aJ pr A.ms) (aJ pr B.ms) q) ⋯,T,?_⟩
  rw[bD];lia
 ·obtain⟨c,d,mc,md,y1,y2,lc,fd,e,C,D,rfl,em,w1,w2,w3⟩:=g.cut A (by have:=B.ky.ht;(clear hz hm v2 v1 hc B A g S;omega))
  have sg:=congrArg Ms.sg em;have ht:=congrArg Ms.ht em;rw[fU] at sg;rw[bD] at ht;by_cases r:md.ht<=mc.ht
  ·obtain⟨n1,ps1,h1,d1,T1⟩:=fT S g D B hc (by(clear r sg w3 w1 em A D C e hz hm v2 v1 hc B g S;lia)) (by(clear r sg w3 w1 em A D C e q hz hm v1 hc B g S;(clear w2;lia))) ⋯ ⋯
   obtain⟨n2,ps2,h2,d2,T2⟩:=fT d1.dd.sh d1.dd.gd (C.pre d1.dd.pre) T1 w3 (by rw[bD];(clear T1 d1 sg w3 w2 w1 em A D C hz hm v2 v1 hc B g S;lia)) (by rw[bD];lia) (by rw[fU];lia) (by have:=d1.dd.len;lia)
   rw[<- eJ] at T2;refine⟨n2,ps2,h2,_,Dn.seq (F2:=λv h1=>aP [.ref p,.int c,v] h1) S g d1 d2 (λhh pp S' _ pr=>vo S' A.n1 (aJ pr A.ms) (aJ pr B.ms) (cR pr e) (aJ pr C.ms) (aJ pr D.ms) q r) ⋯,T2,?_⟩
   rw[bD,bD];(clear T2 d2 T1 d1 r sg w3 w1 em A D C e hz hm v1 hc B g S;lia)
  ·obtain⟨i,j,mi,mj,z1,z2,li,fj,e2,I,J,rfl,em2,u1,u2,u3⟩:=g.cut D (by have:=C.ky.ht;(clear ht sg w3 w2 w1 em A D C e q hz hm v2 v1 hc B g S;lia))
   have sg2:=congrArg Ms.sg em2;have ht2:=congrArg Ms.ht em2;rw[fU] at sg2;rw[bD] at ht2;obtain⟨n1,ps1,h1,d1,T1⟩:=fT S g C I w3 (by(clear sg2 u3 u2 em2 A D J I e2 r ht sg w3 w2 em C e q hz hm v2 v1 hc B g S;lia)) (by(clear sg2 u3 u2 em2 A D J I e2 ht sg w3 w2 w1 em C e q hz hm v2 v1 hc B g S;lia)) ⋯ ⋯
   obtain⟨n2,ps2,h2,d2,T2⟩:=fT d1.dd.sh d1.dd.gd (J.pre d1.dd.pre) (B.pre d1.dd.pre) hc (by(clear T1 d1 sg2 u3 u1 em2 A D J I e2 sg w3 w2 em C e hz hm v2 v1 hc B g S;lia)) (by(clear T1 d1 sg2 u3 u2 u1 em2 A D J I e2 sg w3 w2 em C e q hz hm v1 hc B g S;lia)) ⋯ (by have:=d1.dd.len;lia)
   obtain⟨n3,ps3,h3,d3,T3⟩:=fT d2.dd.sh d2.dd.gd (T1.pre d2.dd.pre) T2 u3 (by rw[bD,bD];(clear T2 d2 T1 d1 sg2 u3 u2 em2 A D J I sg w3 w2 em C hz hm v2 v1 hc B g S;lia)) (by rw[bD,bD];(clear T2 d2 T1 d1 ht2 sg2 u3 u1 em2 A D J I e2 sg w3 w2 em C e q hz hm v1 hc B g S;lia)) (by rw[fU,fU];lia) (by have:=d1.dd.len;have:=d2.dd.len;lia)
   have d2':Dn (dh p (aP [.ref p,.int j,.int b])) p h1 h2 ps1 ps2 1 n2:=d2.as d1.dd.sh d1.dd.gd (λhh pp S' _ _=>Ab S' _) (Nk _);have d23:=Dn.seq (F:=λh1=>(dh p (aP [.ref p,.int j,.int b]) h1).bind λw h2=>aP [.ref p,.int n1,w] h2) (F2:=λw h2=>aP [.ref p,.int n1,w] h2) d1.dd.sh d1.dd.gd d2' d3 (λ_ _ _ _ _=>rfl) (k:=2) ⋯;have ea:(y1++z1)++(z2++y)=y1++(z1++z2)++y:=by rw[eJ,eJ,eJ]
   rw[ea] at T3;refine⟨n3,ps3,h3,_,Dn.seq (F2:=λv h1=>(dh p (aP [.ref p,.int j,.int b]) h1).bind λw h2=>aP [.ref p,v,w] h2) S g d1 d23 (λhh pp S' _ pr=>vp S' A.n1 D.n1 (aJ pr A.ms) (aJ pr B.ms) (cR pr e) (aJ pr C.ms) (aJ pr D.ms) (cR pr e2) q r) ⋯,T3,?_⟩
   rw[bD,bD,bD];exact JS ht ht2 w1 w2 v2 q r
def Dn.seq'{F1 F2:AH->Out AV}{ps2:List Pc}{k n2:Nat}(S:ShelfAt h p ps)(g:Good ps)(d1:Dn F1 p h h1 ps ps1 k1 n1)(d2:Dn F2 p h1 h2 ps1 ps2 k2 n2)(eq:∀ hh hh1 pp,ShelfAt hh p pp->Good pp->ps <+: pp->F1 hh=.ok (.int n1) hh1->F hh=F2 hh1)(hk:k1+k2<=k):Dn F p h h2 ps ps2 k n2:=by
 refine⟨?_,d1.dd.trans d2.dd hk,λh3 ps3 S3 g3 p3=>?_⟩
 ·rw[eq h h1 ps S g (Oj _) d1.ev];exact d2.ev
 ·rw[eq h3 h3 ps3 S3 g3 (d1.dd.pre.trans (d2.dd.pre.trans p3)) (d1.re h3 ps3 S3 g3 (d2.dd.pre.trans p3))]
  exact d2.re h3 ps3 S3 g3 p3
def vq(S:ShelfAt h p ps)(ea:(meas ps)[a]?=some ma)(eb:(meas ps)[b]?=some mb)(h1:ma.ht-mb.ht<=1)(h2:-1<=ma.ht-mb.ht) :
  fu (d+1) [.ref p,.int a,.int b] h=aP [.ref p,.int a,.int b] h:=by
 have f1:=cY S ea;have f2:=cY S eb;have c1:¬ 1<ma.ht-mb.ht:=by lia
 have c2:¬ ma.ht-mb.ht < -1:=by lia
 generalize hF:aP [.ref p,.int a,.int b] h=R
 simp[fu,qW,S.ob,f1,f2,c1,c2,hF]
 cases R<;>rfl
def vt{v:Int}(S:ShelfAt h p ps)(a1:1<=a)(ea:(meas ps)[a]?=some ma)(eb:(meas ps)[b]?=some mb)(ep:ps[a-1]?=some (.fork c e))(hd:1<ma.ht-mb.ht)(ev:fu d [.ref p,.int e,.int b] h=.ok (.int v) h1) :
  fu (d+1) [.ref p,.int a,.int b] h=gp [.ref p,.int c,.int v] h1:=by
 have f1:=cY S ea;have f2:=cY S eb;have f3:=fV S a1 ep;generalize hF:gp [.ref p,.int c,.int v] h1=R
 simp[fu,qW,S.ob,f1,f2,hd,f3,i1,i2,ev,hF,-ao]
 cases R<;>rfl
def vv{v:Int}(S:ShelfAt h p ps)(b1:1<=b)(ea:(meas ps)[a]?=some ma)(eb:(meas ps)[b]?=some mb)(ep:ps[b-1]?=some (.fork c e))(hd:ma.ht-mb.ht < -1)(ev:fu d [.ref p,.int a,.int c] h=.ok (.int v) h1) :
  fu (d+1) [.ref p,.int a,.int b] h=iE [.ref p,.int v,.int e] h1:=by
 have f1:=cY S ea;have f2:=cY S eb;have f3:=fV S b1 ep;have c1:¬ 1<ma.ht-mb.ht:=by lia
 generalize hF:iE [.ref p,.int v,.int e] h1=R
 simp[fu,qW,S.ob,f1,f2,c1,hd,f3,i1,i2,ev,hF,-ao]
 cases R<;>rfl
def rC(a b:Int):a<=max a b/\b<=max a b/\(max a b=a\/max a b=b):=by lia
def JU{a b c e m n:Int}(hh:a=max c e+1)(w1:-1<=c-e)(w2:c-e<=1)(q:1<a-b)(u1:max e b<=m)(u2:m<=max e b+1)(u3:max c m<=n)(u4:n<=max c m+1)(u5:m-c<=1->n=max c m+1):max a b<=n/\n<=max a b+1:=by
 obtain⟨x1,x2,x3⟩:=rC c e;obtain⟨y1,y2,y3⟩:=rC c m;generalize max c m=l,max c e=k at *;rw[OT (show b<=e by lia)] at u1 u2
 rw[OT (show b<=a by lia)];(clear x1 q;omega)
def JV{a b c e m n:Int}(hh:b=max c e+1)(w1:-1<=c-e)(w2:c-e<=1)(q:a-b < -1)(u1:max a c<=m)(u2:m<=max a c+1)(u3:max m e<=n)(u4:n<=max m e+1)(u5:m-e<=1->n=max m e+1):max a b<=n/\n<=max a b+1:=by
 obtain⟨x1,x2,x3⟩:=rC c e;obtain⟨y1,y2,y3⟩:=rC m e;generalize max m e=l,max c e=k at *;rw[O9 (show a<=c by lia)] at u1 u2
 rw[O9 (show a<=b by lia)];(clear x2 q;omega)
theorem oS{p:Nat}:∀ (d t:Nat) {h:AH} {ps:List Pc} {a b:Nat} {ma mb fa la fb lb:Ms} {x y:Str} (S:ShelfAt h p ps) (g:Good ps) (A:Tx ps a ma x fa la) (B:Tx ps b mb y fb lb) (hc:8<la.sg+fb.sg) (hm:ma.sg+mb.sg<=1000000000000000000)
  (ht:(ma.ht-mb.ht).natAbs<=t) (hd:t<d) (hz:ps.length+3*t+4<16000000),
  ∃ (n:Nat) (ps':List Pc) (h':AH) (m:Ms),Dn (fu d [.ref p,.int a,.int b]) p h h' ps ps' (3*t+1) n/\Tx ps' n m (x++y) fa lb/\max ma.ht mb.ht<=m.ht/\m.ht<=max ma.ht mb.ht+1
 |0,t,h,ps,a,b,ma,mb,fa,la,fb,lb,x,y,S,g,A,B,hc,hm,ht,hd,hz=>absurd hd (OF t)
 |d+1,t,h,ps,a,b,ma,mb,fa,la,fb,lb,x,y,S,g,A,B,hc,hm,ht,hd,hz=>by
  by_cases q1:1<ma.ht-mb.ht
  ·obtain⟨c,e,mc,me,y1,y2,lc,fe,ep,C,E,rfl,em,w1,w2,w3⟩:=g.cut A (by have:=B.ky.ht;lia)
   have sg:=congrArg Ms.sg em;have hh:=congrArg Ms.ht em;rw[fU] at sg;rw[bD] at hh;obtain⟨n1,ps1,h1,m1,d1,T1,u1,u2⟩:=oS d (t-1) S g E B hc ⋯ ⋯ ⋯ ⋯
   have s1:m1.sg=me.sg+mb.sg:=by rw[T1.ky.sg,dU,<- E.ky.sg,<- B.ky.sg]
   obtain⟨n2,ps2,h2,m2,d2,T2,u3,u4,u5⟩:=Ac d1.dd.sh d1.dd.gd (C.pre d1.dd.pre) T1 w3 ⋯ (by(clear s1 u1 T1 sg w3 w2 em A E C hz hd hm hc B g S;lia)) ⋯ (by have:=d1.dd.len;lia)
   rw[<- eJ] at T2;exact⟨n2,ps2,h2,m2,Dn.seq' S g d1 d2 (λhh hh1 pp S' _ pr ev=>vt S' A.n1 (aJ pr A.ms) (aJ pr B.ms) (cR pr ep) q1 ev) ⋯,T2,JU hh w1 w2 q1 u1 u2 u3 u4 u5⟩
  ·by_cases q2:ma.ht-mb.ht < -1
   ·obtain⟨c,e,mc,me,y1,y2,lc,fe,ep,C,E,rfl,em,w1,w2,w3⟩:=g.cut B (by have:=A.ky.ht;lia)
    have sg:=congrArg Ms.sg em;have hh:=congrArg Ms.ht em;rw[fU] at sg;rw[bD] at hh;obtain⟨n1,ps1,h1,m1,d1,T1,u1,u2⟩:=oS d (t-1) S g A C hc ⋯ ⋯ ⋯ ⋯
    have s1:m1.sg=ma.sg+mc.sg:=by rw[T1.ky.sg,dU,<- A.ky.sg,<- C.ky.sg]
    obtain⟨n2,ps2,h2,m2,d2,T2,u3,u4,u5⟩:=JT d1.dd.sh d1.dd.gd T1 (E.pre d1.dd.pre) w3 ⋯ (by(clear s1 u1 T1 sg w3 w1 em B E C q1 hz hd hm hc A g S;lia)) ⋯ (by have:=d1.dd.len;lia)
    rw[eJ] at T2;exact⟨n2,ps2,h2,m2,Dn.seq' S g d1 d2 (λhh hh1 pp S' _ pr ev=>vv S' B.n1 (aJ pr A.ms) (aJ pr B.ms) (cR pr ep) q2 ev) ⋯,T2,JV hh w1 w2 q2 u1 u2 u3 u4 u5⟩
   ·obtain⟨n,ps',h',dn,T⟩:=fT S g A B hc ⋯ ⋯ hm ⋯
    exact⟨n,ps',h',_,dn.as S g (λhh pp S' _ pr=>vq S' (aJ pr A.ms) (aJ pr B.ms) ⋯ ⋯) ⋯,T,by rw[bD];lia,by rw[bD];lia⟩
def nj(S:ShelfAt h p ps)(n1:1<=n)(e:ps[n-1]?=some (.leaf x)):cM [.ref p,.int n] h=.ok (.tup [.str "leaf",.str x]) h:=(nh S n1 e)
def rD(x:Str)(h:AH):ao (.tup [.str "leaf",.str x]) (.int 0) h=.ok (.str "leaf") h:=(rfl)
def lQ(a b:Int)(h:AH):ao (.tup [.str "fork",.int a,.int b]) (.int 0) h=.ok (.str "fork") h:=(rfl)
def rE(x:Str)(h:AH):ao (.tup [.str "leaf",.str x]) (.int 1) h=.ok (.str x) h:=(rfl)
def rF(h:AH):az (.str "leaf") (.str "leaf") h=.ok (.bl true) h:=by simp
def lR(h:AH):az (.str "fork") (.str "leaf") h=.ok (.bl false) h:=by
 have:¬ (Str.ofString "fork"=Str.ofString "leaf"):=by decide +kernel
 simp[this]
def vx{L:Int}(S:ShelfAt h p ps)(a1:1<=a)(ep:ps[a-1]?=some (.leaf x)):hX (d+1) [.ref p,.int a,.int L] h=.ok (.int L) h:=by
 simp[hX,uV,S.ob,nj S a1 ep,rD,rF,-ao,-az]
def vy{L v:Int}(S:ShelfAt h p ps)(a1:1<=a)(ep:ps[a-1]?=some (.fork c e))(ev:hX d [.ref p,.int e,.int L] h=.ok (.int v) h1) :
  hX (d+1) [.ref p,.int a,.int L] h=aP [.ref p,.int c,.int v] h1:=by
 generalize hF:aP [.ref p,.int c,.int v] h1=R
 simp[hX,uV,S.ob,fV S a1 ep,lQ,i1,i2,lR,ev,hF,-ao,-az]
 cases R<;>rfl
def rG{m:Ms}(T:Tx ps n m x f l)(e:m=bz x n):f=m/\l=m:=by
 have h1:=T.ky.fl;have h2:=T.ky.ll;have h3:=T.ms;rw[e] at h1 h2;exact⟨N8 (h1.symm.trans h3),N8 (h2.symm.trans h3)⟩
theorem Ad{p:Nat}:∀ (d:Nat) {h:AH} {ps:List Pc} {a L:Nat} {m f l:Ms} {x w:Str} (S:ShelfAt h p ps) (g:Good ps) (T:Tx ps a m x f l) (N:Tx ps L (bz w L) w (bz w L) (bz w L)) (hw:l.sg<=w.length) (hm:m.sg+w.length<=1000000000000000000+l.sg) (hd:m.ht.toNat<d) (hz:ps.length+m.ht.toNat<16000000),
  ∃ (n:Nat) (ps':List Pc) (h':AH) (m' f':Ms) (u v:Str),Dn (hX d [.ref p,.int a,.int L]) p h h' ps ps' m.ht.toNat n/\x=u++v/\v.length=l.sg/\Tx ps' n m' (u++w) f' (bz w L)/\m'.ht=m.ht/\f.sg<=f'.sg
 |0,h,ps,a,L,m,f,l,x,w,S,g,T,N,hw,hm,hd,hz=>absurd hd (OF _)
 |d+1,h,ps,a,L,m,f,l,x,w,S,g,T,N,hw,hm,hd,hz=>by
  by_cases q:0<m.ht
  ·obtain⟨c,e,mc,me,y1,y2,lc,fe,ep,C,E,rfl,em,w1,w2,w3⟩:=g.cut T q
   have sg:=congrArg Ms.sg em;have hh:=congrArg Ms.ht em;rw[fU] at sg;rw[bD] at hh;have c0:=C.ky.ht
   have e0:=E.ky.ht;obtain⟨n1,ps1,h1,m1,f1,u,v,d1,rfl,lv,T1,k1,k2⟩:=Ad d S g E N hw ⋯ (by(clear e0 c0 sg w3 w2 w1 em T E C ep hz hm hw N g S;lia)) (by(clear e0 c0 sg w3 w2 w1 em T E C ep hd hm hw N g S;lia));have s1:m1.sg+l.sg=me.sg+w.length:=by rw[T1.ky.sg,E.ky.sg,dU,dU];lia
   obtain⟨n2,ps2,h2,d2,T2⟩:=fT d1.dd.sh d1.dd.gd (C.pre d1.dd.pre) T1 ⋯ ⋯ ⋯ ⋯ (by have:=d1.dd.len;(clear s1 k2 T1 lv T E d1 e0 c0 sg w3 w2 w1 em C ep hd hm hw N g S;lia))
   rw[<- eJ] at T2;exact⟨n2,ps2,h2,_,f,y1++u,v,Dn.seq' S g d1 d2 (λhh hh1 pp S' _ pr ev=>vy S' T.n1 (cR pr ep) ev) ⋯,by rw[eJ],lv,T2,by rw[bD,k1,hh],Nk _⟩
  ·rcases g.kind T with⟨e1,e2,e3,e4,e5⟩|⟨c,e,mc,me,y1,y2,fc,lc,fe,le,e1,e2,e3,C,E,e4,e5,e6⟩
   ·obtain⟨z1,z2⟩:=rG T e3
    subst z1 z2
    have em:("" : Str)++x=x:=bZ (by rw[cX];rfl)
    have em2:("" : Str)++w=w:=bZ (by rw[cX];rfl)
    have dv:Dn (hX (d+1) [.ref p,.int a,.int L]) p h h ps ps 0 L:=Dn.val S g λhh pp S' _ pr=>vx S' T.n1 (cR pr e1)
    refine⟨L,ps,h,_,_, "",x,dv.as S g (λ_ _ _ _ _=>rfl) (NU _),em.symm,T.ky.sg.symm,by rw[em2];exact N,e2.symm,hw⟩
   ·have:=congrArg Ms.ht e5
    rw[bD] at this;have c0:=C.ky.ht
    (clear e6 e5 e4 E C e3 e2 e1 hz hd hm hw N T g S;omega)
def vz(S:ShelfAt h p ps)(a1:1<=a)(ep:ps[a-1]?=some (.leaf x)):fH (d+1) [.ref p,.int a] h=.ok (.int (0:Nat)) h:=by
 simp[fH,qV,S.ob,nj S a1 ep,rD,rF,-ao,-az]
def oT(S:ShelfAt h p ps)(a1:1<=a)(ep:ps[a-1]?=some (.fork c e))(ev:fH d [.ref p,.int c] h=.ok (.int (0:Nat)) h1) :
  fH (d+1) [.ref p,.int a] h=.ok (.int e) h1:=by
 have z:az (.int 0) (.int 0) h1=.ok (.bl true) h1:=by simp
 simp[fH,qV,S.ob,fV S a1 ep,lQ,i1,i2,lR,ev,z,-ao,-az]
def vA{v:Nat}(S:ShelfAt h p ps)(a1:1<=a)(ep:ps[a-1]?=some (.fork c e))(v1:1<=v)(ev:fH d [.ref p,.int c] h=.ok (.int v) h1) :
  fH (d+1) [.ref p,.int a] h=gp [.ref p,.int v,.int e] h1:=by
 have z:az (.int (v:Int)) (.int 0) h1=.ok (.bl false) h1:=by
  have:¬ (v=0):=by lia
  simp[this]
 generalize hF:gp [.ref p,.int v,.int e] h1=R
 simp[fH,qV,S.ob,fV S a1 ep,lQ,i1,i2,lR,ev,z,hF,-ao,-az]
 cases R<;>rfl
theorem Ae{p:Nat}:∀ (d:Nat) {h:AH} {ps:List Pc} {a:Nat} {m f l:Ms} {x:Str} (S:ShelfAt h p ps) (g:Good ps) (T:Tx ps a m x f l) (hd:m.ht.toNat<d) (hz:ps.length+3*m.ht.toNat<16000000),
  (m.ht=0/\f.sg=x.length/\Dn (fH d [.ref p,.int a]) p h h ps ps 0 0) \/
  (0<m.ht/\∃ (n:Nat) (ps':List Pc) (h':AH) (m' f2:Ms) (u v:Str),Dn (fH d [.ref p,.int a]) p h h' ps ps' (3*m.ht.toNat) n/\x=u++v/\u.length=f.sg/\Tx ps' n m' v f2 l/\m.ht-1<=m'.ht/\m'.ht<=m.ht/\8<f.sg+f2.sg)
 |0,h,ps,a,m,f,l,x,S,g,T,hd,hz=>absurd hd (OF _)
 |d+1,h,ps,a,m,f,l,x,S,g,T,hd,hz=>by
  by_cases q:0<m.ht
  ·obtain⟨c,e,mc,me,y1,y2,lc,fe,ep,C,E,rfl,em,w1,w2,w3⟩:=g.cut T q
   have sg:=congrArg Ms.sg em;have hh:=congrArg Ms.ht em;rw[fU] at sg;rw[bD] at hh;have c0:=C.ky.ht
   have e0:=E.ky.ht;have most:=T.ky.most;refine .inr ⟨q,?_⟩
   rcases Ae d S g C (by(clear most e0 c0 sg w3 w2 w1 em T E C ep hz g S;lia)) (by(clear most e0 c0 sg w3 w2 w1 em T E C ep hd g S;lia)) with⟨k1,k2,d1⟩|⟨k1,n1,ps1,h1,m1,f2,u,v,d1,rfl,lu,T1,r1,r2,r3⟩
   ·rcases g.kind C with⟨e1,e2,e3,e4,e5⟩|⟨_,_,mx,my,_,_,_,_,_,_,_,_,_,X,Y,_,e5,_⟩
    ·obtain⟨z1,z2⟩:=rG C e3
     have dv:Dn (fH (d+1) [.ref p,.int a]) p h h ps ps 0 e:=by
      refine⟨oT S T.n1 ep d1.ev,Dd.refl S g,λh3 ps3 S3 g3 p3=>oT S3 T.n1 (cR p3 ep) (d1.re h3 ps3 S3 g3 p3)⟩
     exact⟨e,ps,h,me,fe,y1,y2,dv.as S g (λ_ _ _ _ _=>rfl) (NU _),rfl,k2.symm,E,by(clear dv z2 z1 e5 e4 e3 e2 e1 d1 k2 most c0 sg w3 w1 em T E C ep hz hd g S;lia),by lia,by rw[z1];rw[z2] at w3;exact w3⟩
    ·have:=congrArg Ms.ht e5
     rw[bD] at this;have:=X.ky.ht
     (clear e5 Y X d1 k2 most e0 c0 hh sg w3 w2 w1 em T E C ep q hz hd g S;omega)
   ·have s1:m1.sg+f.sg=mc.sg:=by rw[T1.ky.sg,C.ky.sg,dU];lia
    obtain⟨n2,ps2,h2,m2,d2,T2,u3,u4,u5⟩:=Ac d1.dd.sh d1.dd.gd T1 (E.pre d1.dd.pre) w3 ⋯ ⋯ ⋯ (by have:=d1.dd.len;(clear s1 r3 r2 r1 T1 lu T C d1 most e0 c0 sg w3 w2 em E ep hd g S;lia))
    refine⟨n2,ps2,h2,m2,f2,u,v++y2,Dn.seq' S g d1 d2 (λhh hh1 pp S' _ pr ev=>vA S' T.n1 (cR pr ep) T1.n1 ev) (by(clear u5 u4 u3 T2 d2 s1 r3 r2 r1 T1 lu T C d1 most e0 c0 sg w3 w2 em E ep hz g S;lia)),by rw[eJ],lu,T2,?_,?_,r3⟩
    ·(clear u4 T2 d2 s1 r3 r2 T1 lu T C d1 k1 most e0 c0 sg w3 w1 em E q hz hd g S;lia)
    ·(clear u3 T2 d2 s1 r3 r1 T1 lu T C d1 k1 most e0 c0 sg w3 em E q hz g S;(clear w2 ep hd;lia))
  ·rcases g.kind T with⟨e1,e2,e3,e4,e5⟩|⟨_,_,mx,my,_,_,_,_,_,_,_,_,_,X,Y,_,e5,_⟩
   ·obtain⟨z1,z2⟩:=rG T e3
    exact .inl ⟨e2,by rw[z1];exact T.ky.sg,Dn.val S g λhh pp S' _ pr=>vz S' T.n1 (cR pr e1)⟩
   ·have:=congrArg Ms.ht e5
    rw[bD] at this;have:=X.ky.ht
    lia
theorem Good.ends{ps:List Pc}(g:Good ps):∀ (k n:Nat) {m f l:Ms} {x:Str},n<=k->Tx ps n m x f l ->
  (∃ w u:Str,1<=m.fl/\ps[m.fl-1]?=some (.leaf w)/\x=w++u/\w.length=f.sg)/\(∃ w u:Str,1<=m.ll/\ps[m.ll-1]?=some (.leaf w)/\x=u++w/\w.length=l.sg)
 |0,n,m,f,l,x,hn,T=>absurd T.n1 ⋯
 |k+1,n,m,f,l,x,hn,T=>by
  rcases g.kind T with⟨e1,e2,e3,e4,e5⟩|⟨a,b,ma,mb,y,z,fa,la,fb,lb,e1,e2,e3,A,B,rfl,e5,e6⟩
  ·obtain⟨z1,z2⟩:=rG T e3
   have em:("" : Str)++x=x:=bZ (by rw[cX];rfl)
   have em2:x++("" : Str)=x:=bZ (by rw[cX];simp;rfl)
   have hf:m.fl=n:=by rw[e3];rfl
   have hl:m.ll=n:=by rw[e3];rfl
   have hx:=T.ky.sg;refine⟨⟨x, "",by rw[hf];exact T.n1,by rw[hf];exact e1,em2.symm,by rw[z1];exact hx.symm⟩,⟨x, "",by rw[hl];exact T.n1,by rw[hl];exact e1,em.symm,by rw[z2];exact hx.symm⟩⟩
  ·have q1:=g.ends k a ⋯ A
   have q2:=g.ends k b ⋯ B;obtain⟨⟨w,u,a1,a2,rfl,a4⟩,_⟩:=q1;obtain⟨_,⟨w2,u2,b1,b2,rfl,b4⟩⟩:=q2;have f1:=T.ky.fl;have l1:=T.ky.ll;have hf:m.fl=ma.fl:=by rw[e5];rfl
   have hl:m.ll=mb.ll:=by rw[e5];rfl
   rw[hf] at f1;rw[hl] at l1;have z5:=f1.symm.trans A.ky.fl;cases z5
   have z6:=l1.symm.trans B.ky.ll;cases z6
   rw[hf,hl];exact⟨⟨w,u++(u2++w2),a1,a2,by rw[eJ],a4⟩,⟨w2,w++u++u2,b1,b2,by rw[eJ (w++u)],b4⟩⟩
def Af{a b c d:Str}(e:a++b=c++d)(h:a.length=c.length):a=c/\b=d:=by
 have:=congrArg (λz:Str=>z.cps.toList) e;simp only[cX] at this
 obtain⟨h1,h2⟩:=List.append_inj this (by rw[<- cy,<- cy];exact h)
 exact⟨bZ h1,bZ h2⟩
def JW{a b c d:Str}(e:a++b=c++d)(h:b.length=d.length):a=c/\b=d:=by
 refine Af e ?_
 have:=congrArg Str.length e;rw[dU,dU] at this;lia
def JX(S:ShelfAt h p ps)(ea:(meas ps)[a]?=some ma)(eb:(meas ps)[b]?=some mb)(el:(meas ps)[ma.ll]?=some la)(ef:(meas ps)[mb.fl]?=some fb) :
  qU [.ref p,.int a,.int b] h=.ok (.bl (decide (8<la.sg+fb.sg))) h:=by
 have e1:=z8 S ea;have e2:=zZ S eb;have e3:=cz S el;have e4:=cz S ef;have:decide ((8:Int)<(la.sg:Int)+fb.sg)=decide (8<la.sg+fb.sg):=by apply decide_eq_decide.mpr;lia
 simp[qU,S.ob,e1,e2,e3,e4,this]
def JY{v:Str}(hw:w.length+v.length<=100)(h:AH):ay (.str w) (.str v) h=.ok (.str (w++v)) h:=by
 have:w.length+v.length<=sizeLine:=Np hw 'd'
 simp[ay,this]
def jL{h3:AH}{L n k:Int}{v:Str}(S:ShelfAt h p ps)(ea:(meas ps)[a]?=some ma)(eb:(meas ps)[b]?=some mb)(l1:1<=ma.ll)(f1:1<=mb.fl)(el:ps[ma.ll-1]?=some (.leaf w))(ef:ps[mb.fl-1]?=some (.leaf v))(hw:w.length+v.length<=100)(e1:d0 [.ref p,.str (w++v)] h=.ok (.int L) h1)(e2:hX 90 [.ref p,.int a,.int L] h1=.ok (.int n) h2)(e3:fH 90 [.ref p,.int b] h2=.ok (.int k) h3) :
  lE [.ref p,.int a,.int b] h=if k=0 then .ok (.int n) h3 else fu 90 [.ref p,.int n,.int k] h3:=by
 have q1:=z8 S ea;have q2:=zZ S eb;have q3:=nj S l1 el;have q4:=nj S f1 ef;have ad:=JY hw h;unfold lE;generalize hF:fu 90=LK,fH 90=WF,hX 90=WL at *;by_cases z:k=0
 ·subst z
  have zz:az (.int 0) (.int 0) h3=.ok (.bl true) h3:=by simp
  simp[S.ob,q1,q2,q3,q4,rE,ad,e1,e2,e3,zz,-ao,-az,-ay]
 ·have zz:az (.int k) (.int 0) h3=.ok (.bl false) h3:=by simp[z]
  rw[Nr z];generalize hR:LK [.ref p,.int n,.int k] h3=R
  simp[S.ob,q1,q2,q3,q4,rE,ad,e1,e2,e3,zz,hR,-ao,-az,-ay]
  cases R<;>rfl
def JZ{v:Str}(h1:1<=w.length)(h2:w.length+v.length<=8)(pw:bJ w=true)(pv:bJ v=true):fI (w++v)=true:=by
 unfold fI;rw[oM,dU,pw,pv];simp;lia
def Ag(S:ShelfAt h p ps)(g:Good ps)(A:Tx ps a ma x fa la)(B:Tx ps b mb y fb lb)(hc:¬ 8<la.sg+fb.sg)(hm:ma.sg+mb.sg<=1000000000000000000)(hz:ps.length<15000000) :
  ∃ (n:Nat) (ps':List Pc) (h':AH) (m f l:Ms),Dn (lE [.ref p,.int a,.int b]) p h h' ps ps' (7*(max ma.ht mb.ht).toNat+2) n/\Tx ps' n m (x++y) f l/\m.ht<=max ma.ht mb.ht+1:=by
 obtain⟨_,w,u,l1,el,ex,lw⟩:=g.ends a a (Nk _) A;obtain⟨⟨v,t,f1,ef,ey,lv⟩,_⟩:=g.ends b b (Nk _) B;have a0:=A.ky.ht;have b0:=B.ky.ht;have ha:=eP g A;have hb:=eP g B;have px:bJ x=true:=A.ky.pl;have py:bJ y=true:=B.ky.pl;have pw:bJ w=true:=by rw[ex,oM,N7] at px;exact px.2
 have pv:bJ v=true:=by rw[ey,oM,N7] at py;exact py.1
 have la1:=A.ky.l1;have fb1:=B.ky.f1;have sx:=A.ky.sg;have sy:=B.ky.sg;have lx:x.length=u.length+w.length:=by rw[ex,dU]
 have ly:y.length=v.length+t.length:=by rw[ey,dU]
 have lwv:(w++v).length=w.length+v.length:=dU w v;obtain⟨L,ps1,h1,d1,N⟩:=rB S g (JZ (w:=w) (v:=v) ⋯ ⋯ pw pv) ⋯;have z1:=d1.dd.len;obtain⟨n2,ps2,h2,m2,f2,u2,v2,d2,ex2,lv2,T2,k1,k2⟩:=Ad 90 d1.dd.sh d1.dd.gd (A.pre d1.dd.pre) N ⋯ ⋯ ⋯ ⋯;have z2:=d2.dd.len;obtain⟨rfl,rfl⟩:u=u2/\w=v2:=JW (ex.symm.trans ex2) ⋯;have s2:m2.sg=u.length+(w.length+v.length):=by rw[T2.ky.sg,dU,dU]
 have p12:=d1.dd.pre.trans d2.dd.pre;have lm:(bz (w++v) L).sg=w.length+v.length:=dU w v;have tb:∀ q:Int,0<=q->q<=max ma.ht mb.ht->q.toNat<=(max ma.ht mb.ht).toNat:=λq _ _=>by lia
 rcases Ae 90 d2.dd.sh d2.dd.gd (B.pre p12) ⋯ ⋯ with⟨r1,r2,d3⟩|⟨r1,n3,ps3,h3,m3,f3,u3,v3,d3,ey3,lu3,T3,r2,r3,r4⟩
 ·have t0:t.length=0:=by lia
  have te:t="" := bZ (by rw[cy] at t0;rw[OQ.mp t0];rfl)
  have rd:u++(w++v)=x++y:=by
   rw[ex,ey,te,eJ];congr 2
  rw[rd] at T2;refine⟨n2,ps2,h2,m2,f2,_,⟨?_,d1.dd.trans d2.dd ⋯,λh4 ps4 S4 g4 p4=>?_⟩,T2,by(clear rd te t0 d3 r2 r1 tb lm p12 s2 ex2 lv2 T2 z2 k2 d2 z1 N d1 lwv ly lx sy sx fb1 la1 pv pw py px hb ha b0 a0 lv ey ef f1 lw ex el l1 hz hm hc B A g S;lia)⟩
  ·rw[jL S A.ms B.ms l1 f1 el ef ⋯ d1.ev d2.ev d3.ev];rfl
  ·have q1:=d1.re h4 ps4 S4 g4 (d2.dd.pre.trans p4)
   have q2:=d2.re h4 ps4 S4 g4 p4;have q3:=d3.re h4 ps4 S4 g4 p4;rw[jL S4 (aJ (p12.trans p4) A.ms) (aJ (p12.trans p4) B.ms) l1 f1 (cR (p12.trans p4) el) (cR (p12.trans p4) ef) ⋯ q1 q2 q3];rfl
 ·obtain⟨rfl,rfl⟩:v=u3/\t=v3:=Af (ey.symm.trans ey3) ⋯
  have z3:=d3.dd.len;have s3:m3.sg=t.length:=T3.ky.sg;have m30:=T3.ky.ht;obtain⟨n4,ps4,h4,m4,d4,T4,r5,r6⟩:=oS 90 (max ma.ht mb.ht).toNat d3.dd.sh d3.dd.gd (T2.pre d3.dd.pre) T3 ⋯ ⋯ (by(clear m30 s3 ey3 T3 lu3 d3 lm p12 s2 ex2 lv2 T2 z2 k2 d2 z1 N d1 lwv ly lx sy sx fb1 la1 pv pw py px hb ha lv ey ef f1 lw ex el l1 hz hm hc B A g S;(clear z3 r4;lia))) ⋯ ⋯;have rd:(u++(w++v))++t=x++y:=by rw[ex,ey,eJ,eJ,eJ]
  rw[rd] at T4;have n3z:¬ (n3:Int)=0:=by have:=T3.n1;lia
  have p123:=p12.trans d3.dd.pre;refine⟨n4,ps4,h4,m4,f2,lb,⟨?_,((d1.dd.trans d2.dd (Nk _)).trans d3.dd (Nk _)).trans d4.dd ⋯,λh5 ps5 S5 g5 p5=>?_⟩,T4,by lia⟩
  ·rw[jL S A.ms B.ms l1 f1 el ef ⋯ d1.ev d2.ev d3.ev,Nr n3z];exact d4.ev
  ·have p45:=d4.dd.pre.trans p5
   have q1:=d1.re h5 ps5 S5 g5 (d2.dd.pre.trans (d3.dd.pre.trans p45));have q2:=d2.re h5 ps5 S5 g5 (d3.dd.pre.trans p45);have q3:=d3.re h5 ps5 S5 g5 p45;have q4:=d4.re h5 ps5 S5 g5 p5;have pa:=p123.trans p45;rw[jL S5 (aJ pa A.ms) (aJ pa B.ms) l1 f1 (cR pa el) (cR pa ef) ⋯ q1 q2 q3,Nr n3z];exact q4
def TxZ(ps:List Pc)(n:Nat)(y:Str):Prop:=(n=0/\y="")\/∃ m f l,Tx ps n m y f l
def TxZ.pre{ps ps':List Pc}{n:Nat}{y:Str}(t:TxZ ps n y)(h:ps <+: ps'):TxZ ps' n y:=by
 rcases t with t|⟨m,f,l,t⟩
 ·exact .inl t
 ·exact .inr ⟨m,f,l,t.pre h⟩
def oU(ps:List Pc):(meas ps)[0]?=some ms0:=by
 obtain⟨r,e,_⟩:=oJ iH ps [ms0];rw[meas,e];rfl
def aM(ps:List Pc)(n:Nat):Int:=((meas ps).getD n ms0).ht
def d5{m:Ms}(e:(meas ps)[n]?=some m):aM ps n=m.ht:=by unfold aM;rw[oO e]
def oV(ps:List Pc):aM ps 0=-1:=(d5 (oU ps))
def oW{i:Int}(hi:i<=1000000000000000000)(h:AH):jE [.int i] h=.ok .non h:=by
 have:¬ (1000000000000000000:Int)<i:=by lia
 simp[jE,this]
def oX(S:ShelfAt h p ps)(eb:(meas ps)[b]?=some mb)(hm:mb.sg<=1000000000000000000):bC [.ref p,.int (0:Nat),.int b] h=.ok (.int b) h:=by
 have e1:=cz S (oU ps);have e2:=cz S eb;have z:ms0.sg=0:=rfl;rw[z] at e1;have e1':dQ [.ref p,.int 0] h=.ok (.int 0) h:=e1
 have ck:=oW (i:=(0:Int)+mb.sg) ⋯ h;have zz:az (.int 0) (.int 0) h=.ok (.bl true) h:=by simp
 have ad:ay (.int 0) (.int mb.sg) h=.ok (.int (0+mb.sg)) h:=rfl;simp[bC,S.ob,e1',e2,ad,ck,zz,-az,-ay,-Int.zero_add]
def oY(S:ShelfAt h p ps)(a1:1<=a)(ea:(meas ps)[a]?=some ma)(hm:ma.sg<=1000000000000000000):bC [.ref p,.int a,.int (0:Nat)] h=.ok (.int a) h:=by
 have e1:=cz S (oU ps);have e2:=cz S ea;have z:ms0.sg=0:=rfl;rw[z] at e1;have e1':dQ [.ref p,.int 0] h=.ok (.int 0) h:=e1
 have ck:=oW (i:=(ma.sg:Int)+0) ⋯ h;have zz:az (.int 0) (.int 0) h=.ok (.bl true) h:=by simp
 have z2:az (.int a) (.int 0) h=.ok (.bl false) h:=by
  have:¬ a=0:=by lia
  simp[this]
 have ad:ay (.int ma.sg) (.int 0) h=.ok (.int (ma.sg+0)) h:=rfl;simp[bC,S.ob,e1',e2,ad,ck,zz,z2,-az,-ay,-Int.add_zero]
def jM(S:ShelfAt h p ps)(a1:1<=a)(b1:1<=b)(ea:(meas ps)[a]?=some ma)(eb:(meas ps)[b]?=some mb)(el:(meas ps)[ma.ll]?=some la)(ef:(meas ps)[mb.fl]?=some fb)(hm:ma.sg+mb.sg<=1000000000000000000) :
  bC [.ref p,.int a,.int b] h=if 8<la.sg+fb.sg then fu 90 [.ref p,.int a,.int b] h else lE [.ref p,.int a,.int b] h:=by
 have e1:=cz S ea;have e2:=cz S eb;have cl:=JX S ea eb el ef;have ck:=oW (i:=(ma.sg:Int)+mb.sg) ⋯ h;have z1:az (.int a) (.int 0) h=.ok (.bl false) h:=by
  have:¬ a=0:=by lia
  simp[this]
 have z2:az (.int b) (.int 0) h=.ok (.bl false) h:=by
  have:¬ b=0:=by lia
  simp[this]
 have ad:ay (.int ma.sg) (.int mb.sg) h=.ok (.int (ma.sg+mb.sg)) h:=rfl;unfold bC;generalize fu 90=LK at *;by_cases q:8<la.sg+fb.sg
 ·rw[Nn q]
  generalize hR:LK [.ref p,.int a,.int b] h=R
  simp[S.ob,e1,e2,ad,ck,z1,z2,cl,q,hR,-az,-ay]
  cases R<;>rfl
 ·rw[Nr q]
  generalize hR:lE [.ref p,.int a,.int b] h=R
  simp[S.ob,e1,e2,ad,ck,z1,z2,cl,q,hR,-az,-ay]
  cases R<;>rfl
def TxZ.meas{ps:List Pc}{n:Nat}{y:Str}(t:TxZ ps n y):∃ m,(meas ps)[n]?=some m/\m.sg=y.length:=by
 rcases t with⟨rfl,rfl⟩|⟨m,f,l,T⟩
 ·exact⟨ms0,oU ps,rfl⟩
 ·exact⟨m,T.ms,T.ky.sg⟩
def vB(S:ShelfAt h p ps)(g:Good ps)(A:TxZ ps a x)(B:TxZ ps b y)(hm:x.length+y.length<=1000000000000000000)(hz:ps.length<15000000) :
  ∃ (n:Nat) (ps':List Pc) (h':AH),Dn (bC [.ref p,.int a,.int b]) p h h' ps ps' (16*(max (aM ps a) (aM ps b)+1).toNat) n/\TxZ ps' n (x++y):=by
 rcases A with⟨rfl,rfl⟩|⟨ma,fa,la,A⟩
 ·obtain⟨mb,eb,sb⟩:=B.meas
  have em:("" : Str)++y=y:=bZ (by rw[cX];rfl)
  have dv:Dn (bC [.ref p,.int (0:Nat),.int b]) p h h ps ps 0 b:=Dn.val S g λhh pp S' _ pr=>oX S' (aJ pr eb) (by rw[sb];lia)
  exact⟨b,ps,h,dv.as S g (λ_ _ _ _ _=>rfl) (NU _),by rw[em];exact B⟩
 ·rcases B with⟨rfl,rfl⟩|⟨mb,fb,lb,B⟩
  ·have em:x++("" : Str)=x:=bZ (by rw[cX];simp;rfl)
   have dv:Dn (bC [.ref p,.int a,.int (0:Nat)]) p h h ps ps 0 a:=Dn.val S g λhh pp S' _ pr=>oY S' A.n1 (aJ pr A.ms) A.ky.most
   exact⟨a,ps,h,dv.as S g (λ_ _ _ _ _=>rfl) (NU _),by rw[em];exact .inr ⟨_,_,_,A⟩⟩
  ·have sa:=A.ky.sg
   have sb:=B.ky.sg;have a0:=A.ky.ht;have b0:=B.ky.ht;have ha:=eP g A;have hb:=eP g B;rw[d5 A.ms,d5 B.ms];by_cases q:8<la.sg+fb.sg
   ·obtain⟨n,ps',h',m,d,T,_⟩:=oS 90 (max ma.ht mb.ht).toNat S g A B q ⋯ ⋯ ⋯ ⋯
    exact⟨n,ps',h',d.as S g (λhh pp S' _ pr=>by rw[jM S' A.n1 B.n1 (aJ pr A.ms) (aJ pr B.ms) (aJ pr A.ky.ll) (aJ pr B.ky.fl) ⋯,Nn q]) (by(clear T d q hb ha sb sa B A hz hm g S;lia)),.inr ⟨_,_,_,T⟩⟩
   ·obtain⟨n,ps',h',m,f,l,d,T,_⟩:=Ag S g A B q ⋯ hz
    exact⟨n,ps',h',d.as S g (λhh pp S' _ pr=>by rw[jM S' A.n1 B.n1 (aJ pr A.ms) (aJ pr B.ms) (aJ pr A.ky.ll) (aJ pr B.ky.fl) ⋯,Nr q]) (by(clear T d q hb ha sb sa B A hz hm g S;lia)),.inr ⟨_,_,_,T⟩⟩
def J0(be:b<=e):(bG y (some (b:Int)) (some (e:Int))).cps.toList=(y.cps.toList.drop b).take (e-b):=by
 unfold bG;rw[HT.sIx_nat,HT.sIx_nat];generalize y.cps.toList=l
 show (l.drop (min b l.length)).take (min e l.length-min b l.length)=_
 apply List.ext_getElem?
 intro i;rw[Pf,Pf,Py,Py];by_cases q:b<=l.length
 ·rw[Pg q]
  by_cases c1:i<e-b
  ·rw[Nn c1]
   by_cases c2:i<min e l.length-b
   ·rw[Nn c2]
   ·rw[Nr c2,O2 ⋯]
  ·rw[Nr c1,Nr ⋯]
 ·rw[Nr ⋯,O2 (l:=l) (i:=b+i) ⋯]
  split<;>rfl
def fy:List Str->Str
 |[] => ""
 |w::ws=>w++fy ws
theorem vC:∀ as bs:List Str,fy (as++bs)=fy as++fy bs
 |[],bs=>(bZ (by rw[cX];rfl):fy bs=("" : Str)++fy bs)
 |w::as,bs=>by
  show w++fy (as++bs)=(w++fy as)++fy bs
  rw[vC as bs,eJ]
def Ah(w:Str):fy [w]=w:=(bZ (by show (w++("" : Str)).cps.toList=_;rw[cX];simp;rfl))
def LS(ps:List Pc)(ns:List Nat)(ws:List Str):Prop:=ns.length=ws.length/\∀ (i n:Nat) (w:Str),ns[i]?=some n->ws[i]?=some w->Tx ps n (bz w n) w (bz w n) (bz w n)
def LS.pre{ps ps':List Pc}{ns:List Nat}{ws:List Str}(s:LS ps ns ws)(h:ps <+: ps'):LS ps' ns ws:=(⟨s.1,λi n w a b=>(s.2 i n w a b).pre h⟩)
def LS.take{ps:List Pc}{ns:List Nat}{ws:List Str}(s:LS ps ns ws)(k:Nat):LS ps (ns.take k) (ws.take k):=by
 refine⟨by simp[s.1],λi n w a b=>?_⟩
 rw[Pf] at a b;by_cases q:i<k
 ·rw[Nn q] at a b;exact s.2 i n w a b
 ·rw[Nr q] at a;cases a
def LS.drop{ps:List Pc}{ns:List Nat}{ws:List Str}(s:LS ps ns ws)(k:Nat):LS ps (ns.drop k) (ws.drop k):=by
 refine⟨by simp[s.1],λi n w a b=>?_⟩
 rw[Py] at a b;exact s.2 _ n w a b
abbrev dW(ns:List Nat):List AV:=ns.map λn:Nat=>AV.int (n:Int)
def vD:hW (d+1) [.ref p,.fl (dW [n])] h=.ok (.int n) h:=by
 have ix:ao (.fl [.int (n:Int)]) (.int 0) h=.ok (.int n) h:=rfl;simp[hW,uU,ix,-ao]
def J1(l:List α){k:Nat}(hk:k<=l.length):dN l none (some (k:Int))=l.take k:=by
 unfold dN;rw[HT.sIx_nat,HT.sIx_none,Pg hk];simp
def J2(l:List α){k:Nat}(hk:k<=l.length):dN l (some (k:Int)) none=l.drop k:=by
 unfold dN;rw[HT.sIx_nat,HT.sIx_none,Pg hk,N9 's']
def vE{ns:List Nat}{v1 v2:Int}(S:ShelfAt h p ps)(hl:2<=ns.length)(e1:hW d [.ref p,.fl (dW (ns.take (ns.length / 2)))] h=.ok (.int v1) h1)(e2:hW d [.ref p,.fl (dW (ns.drop (ns.length / 2)))] h1=.ok (.int v2) h2) :
  hW (d+1) [.ref p,.fl (dW ns)] h=aP [.ref p,.int v1,.int v2] h2:=by
 have hh:ns.length / 2<=ns.length:=Nat.div_le_self _ _;have ln:aB [.fl (dW ns)] h=.ok (.int ns.length) h:=by simp[aB]
 have q:az (.int ns.length) (.int 1) h=.ok (.bl false) h:=by
  have:¬ (ns.length:Int)=1:=by lia
  simp[this]
 have dv:cG (.int ns.length) (.int 2) h=.ok (.int (ns.length / 2:Nat)) h:=rfl;have c1:dE (.fl (dW ns)) none (some (ns.length / 2:Nat)) h=.ok (.fl (dW (ns.take (ns.length / 2)))) h:=by
  have:=J1 (dW ns) (k:=ns.length / 2) (by simpa using hh);simp only[dE,this,dW,List.map_take]
 have c2:∀ h,dE (.fl (dW ns)) (some (ns.length / 2:Nat)) none h=.ok (.fl (dW (ns.drop (ns.length / 2)))) h:=λh=>by
  have:=J2 (dW ns) (k:=ns.length / 2) (by simpa using hh);simp only[dE,this,dW,List.map_drop]
 generalize hF:aP [.ref p,.int v1,.int v2] h2=R
 unfold hW uU;generalize (ns.length:Int)=K,((ns.length / 2:Nat):Int)=M,dW (ns.drop (ns.length / 2))=Z2,dW (ns.take (ns.length / 2))=Z1,dW ns=Z at *;simp[S.ob,ln,q,dv,c1,c2,e1,e2,hF,-aB,-az,-cG,-dE]
 cases R<;>rfl
def J3{ha:Nat}(ab:b<=a+1)(h1:a<=2 ^ ha)(h2:hb=0\/2 ^ (hb-1)<b):hb<=ha+1:=by
 rcases h2 with h2|h2
 ·lia
 ·have:2 ^ (hb-1)<=2 ^ ha:=by lia
  have:=(Nat.pow_le_pow_iff_right (a:=2) 'd').mp this;lia
def J4{ha:Nat}(ab:a<=b)(h1:b<=2 ^ hb)(h2:ha=0\/2 ^ (ha-1)<a):ha<=hb:=by
 rcases h2 with h2|h2
 ·lia
 ·have:2 ^ (ha-1)<2 ^ hb:=by lia
  have:=(Nat.pow_lt_pow_iff_right (a:=2) 'd').mp this;lia
def J5{k:Nat}(h1:k<=2*b)(h2:2*b<=k+1)(h3:2<=k)(h4:b<=2 ^ hb)(h5:hb=0\/2 ^ (hb-1)<b):k<=2 ^ (hb+1)/\2 ^ (hb+1-1)<k:=by
 rw[QZ,RT];refine⟨by lia,?_⟩
 rcases h5 with h5|h5
 ·subst h5;simp;lia
 ·cases hb with
  |zero=>simp;lia
  |succ n =>
   rw[RT] at h5;rw[QZ];lia
def J6{k:Nat}(h:k<=2 ^ (e+1)):k / 2<=2 ^ e/\k-k / 2<=2 ^ e:=by rw[QZ] at h;lia
theorem vF{p:Nat}:∀ (d e:Nat) {h:AH} {ps:List Pc} {ns:List Nat} {ws:List Str},ShelfAt h p ps->Good ps->LS ps ns ws->1<=ns.length->ns.length<=2 ^ e->e<d->(∀ (i:Nat) (w:Str),ws[i]?=some w->i+1<ws.length->w.length=8)->ps.length+ns.length<16000000->ns.length<=10000 ->
  ∃ (n:Nat) (ps':List Pc) (h':AH) (m f l:Ms) (H:Nat),hW d [.ref p,.fl (dW ns)] h=.ok (.int n) h'/\Dd p h h' ps ps' (ns.length-1)/\Tx ps' n m (fy ws) f l/\m.ht=H/\ns.length<=2 ^ H/\(H=0\/2 ^ (H-1)<ns.length)/\((∀ w∈ws,w.length=8)->l.sg=8)/\m.sg<=8*ns.length
 |0,e,h,ps,ns,ws,S,g,LL,h1,h2,h3,h4,h5,h6=>absurd h3 (OF _)
 |d+1,e,h,ps,ns,ws,S,g,LL,h1,h2,h3,h4,h5,h6=>by
  by_cases q:ns.length=1
  ·obtain⟨n,rfl⟩:∃ n,ns=[n]:=Q3.mp q
   obtain⟨w,rfl⟩:∃ w,ws=[w]:=Q3.mp (LL.1.symm.trans q);have T:=LL.2 0 n w rfl rfl;refine⟨n,ps,h,_,_,_,0,vD,{ Dd.refl S g with len:=by lia },by rw[Ah];exact T,rfl,by simp,.inl rfl,λhw=>hw w 's',?_⟩
   have:=T.ky.f8;simpa using this
  ·have hh:2<=ns.length:=by lia
   obtain⟨e',rfl⟩:∃ e',e=e'+1:=by
    cases e with
    |zero=>simp at h2;lia
    |succ e'=>exact⟨e',rfl⟩
   obtain⟨w1,w2⟩:=J6 h2;have lt:(ns.take (ns.length / 2)).length=ns.length / 2:=by rw[Ot];lia
   have ld:(ns.drop (ns.length / 2)).length=ns.length-ns.length / 2:=OX ..;have lw:=LL.1;obtain⟨n1,ps1,hh1,m1,f1,l1,H1,a1,a2,a3,a4,a5,a6,a7,a8⟩:=vF d e' S g (LL.take (ns.length / 2)) ⋯ ⋯ ⋯ (λi w ew hi=>by
    rw[Pf] at ew;split at ew
    ·rw[Ot] at hi;exact h4 i w ew ⋯
    ·cases ew) ⋯ ⋯
   have z1:=a2.len;obtain⟨n2,ps2,hh2,m2,f2,l2,H2,b1,b2,b3,b4,b5,b6,b7,b8⟩:=vF d e' a2.sh a2.gd ((LL.drop (ns.length / 2)).pre a2.pre) ⋯ ⋯ ⋯ (λi w ew hi=>by
    rw[Py] at ew;rw[OX] at hi;exact h4 _ w ew (by(clear ew z1 a8 a7 a6 a5 a4 a3 a2 a1 lw ld lt w2 w1 h3 h2 hh q h6 h5 h4 h1 LL g S;omega))) ⋯ (by(clear z1 a8 a7 a6 a5 a4 a3 a2 a1 lw lt w2 w1 h3 h2 hh q h5 h4 h1 LL g S;lia))
   have z2:=b2.len;rw[lt] at a5 a6 a8;rw[ld] at b5 b6 b8;have g1:=J3 (a:=ns.length / 2) (b:=ns.length-ns.length / 2) (by(clear z2 b8 b7 b6 b5 b4 b3 b2 b1 z1 a8 a7 a6 a5 a4 a3 a2 a1 lw ld lt w2 w1 h3 h2 hh q h6 h5 h4 h1 LL g S;lia)) a5 b6
   have g2:=J4 (a:=ns.length / 2) (b:=ns.length-ns.length / 2) (by(clear g1 z2 b8 b7 b6 b5 b4 b3 b2 b1 z1 a8 a7 a6 a5 a4 a3 a2 a1 lw ld lt w2 w1 h3 h2 hh h6 h5 h4 LL g S;lia)) b5 a6;have l8:l1.sg=8:=a7 λw hw=>by
    obtain⟨i,hi,ei⟩:=Pu hw;have hi':=hi;rw[Ot] at hi';have:(ws.take (ns.length / 2))[i]?=some w:=by rw[Nx hi,ei]
    rw[Pf] at this;split at this
    ·exact h4 i w this ⋯
    ·cases this
   have f1':=b3.ky.f1;obtain⟨n3,ps3,hh3,d3,T3⟩:=fT b2.sh b2.gd (a3.pre b2.pre) b3 ⋯ ⋯ ⋯ (by(clear f1' l8 g2 g1 z2 b7 b6 b5 b4 b3 b2 b1 z1 a7 a6 a5 a4 a3 a2 a1 lw ld lt w2 w1 h3 h2 hh q h5 h4 h1 LL g S;lia)) (by(clear f1' l8 g2 g1 b8 b7 b6 b5 b4 b3 b2 b1 a8 a7 a6 a5 a4 a3 a2 a1 lw w2 w1 h3 h2 hh h6 h4 LL g S;lia));have rd:fy (ws.take (ns.length / 2))++fy (ws.drop (ns.length / 2))=fy ws:=by rw[<- vC,List.take_append_drop]
   rw[rd] at T3;have hv:=vE S hh a1 b1
   obtain⟨y1,y2⟩:=J5 (k:=ns.length) (b:=ns.length-ns.length / 2) (by(clear hv rd T3 d3 f1' l8 g2 g1 z2 b8 b7 b6 b5 b4 b3 b2 b1 z1 a8 a7 a6 a5 a4 a3 a2 a1 lw ld lt w2 w1 h3 h2 hh q h6 h5 h4 LL g S;lia)) (by(clear hv rd T3 d3 f1' l8 g2 g1 z2 b8 b7 b6 b5 b4 b3 b2 b1 z1 a8 a7 a6 a5 a4 a3 a2 a1 lw ld lt w2 w1 h3 h2 hh q h6 h5 h4 h1 LL g S;omega)) hh b5 b6;refine⟨n3,ps3,hh3,_,f1,l2,H2+1,hv.trans d3.ev,(a2.trans b2 (Nk _)).trans d3.dd (by(clear y2 y1 hv rd T3 d3 f1' l8 g2 g1 z2 b8 b7 b6 b5 b4 b3 b2 b1 z1 a8 a7 a6 a5 a4 a3 a2 a1 lw w2 w1 h3 h2 hh h6 h5 h4 LL g S;lia)),T3,by rw[bD,a4,b4];lia,y1,.inr y2,λhw=>b7 λw hm=>hw w (Pm hm),by rw[fU];(clear y2 y1 hv rd T3 d3 f1' l8 g2 g1 z2 b7 b6 b5 b4 b3 b2 b1 z1 a7 a6 a5 a4 a3 a2 a1 lw ld lt w2 w1 h3 h2 hh q h6 h5 h4 h1 LL g S;lia)⟩
def iI(x:Str)(k:Nat):Str:=bG x (some ((8*k:Nat):Int)) (some ((8*k+8:Nat):Int))
def vG(x:Str)(k:Nat):(iI x k).cps.toList=(x.cps.toList.drop (8*k)).take 8:=by
 unfold iI;rw[J0 ⋯,show 8*k+8-8*k=8 by lia]
def Ai(x:Str)(k:Nat):(iI x k).length=min 8 (x.length-8*k):=by
 rw[cy,vG,Ot,OX,<- cy]
def J7(px:bJ x=true)(k:Nat):bJ (iI x k)=true:=by
 unfold bJ at *
 rw[vG,Oa];rw[Oa] at px;exactλc hc=>px c (Pm (P0 hc))
theorem Aj(x:Str):∀ j,(fy ((List.range j).map (iI x))).cps.toList=x.cps.toList.take (8*j)
 |0=>rfl
 |j+1=>by
  rw[P5,Og,vC,cX,Aj x j];show _++(fy [iI x j]).cps.toList=_
  rw[Ah,vG,show 8*(j+1)=8*j+8 by lia,List.take_add]
def Ak{f:Nat->α}{N:Nat}{w:α}(e:((List.range N).map f)[i]?=some w):i<N/\w=f i:=by
 rw[NY] at e;obtain⟨j,ej,ew⟩:=NG.mp e
 have h1:=(Ni.mp ej).1;rw[PN] at h1;rw[Qb h1] at ej
 cases ej
 exact⟨h1,ew.symm⟩
def LS.snoc{ns:List Nat}{ws:List Str}(s:LS ps ns ws)(h:ps <+: ps')(T:Tx ps' n (bz w n) w (bz w n) (bz w n)):LS ps' (ns++[n]) (ws++[w]):=by
 have l:=s.1;refine⟨by simp[s.1],λi a b ea eb=>?_⟩
 by_cases q:i<ns.length
 ·rw[Nt q] at ea
  rw[Nt ⋯] at eb;exact(s.2 i a b ea eb).pre h
 ·have h1:=(Ni.mp ea).1
  have hi:i=ns.length:=by simp at h1;lia
  subst hi;rw[NF ⋯] at ea eb
  simp at ea
  rw[show ns.length-ws.length=0 by lia] at eb;simp at eb
  subst ea eb
  exact T
def J8(S:ShelfAt h p ps)(g:Good ps)(px:bJ x=true)(N:Nat)(hN:8*N<x.length+8)(hx:x.length<=10000)(hz:ps.length+N<16000000)(all:List AV)(js:List Nat)(en:En)(hj:js.map (λj=>(en[j]?).join)=[some (.ref p),some (.str x)]) :
  ∃ (ns:List Nat) (ps':List Pc) (h':AH),eh js en none all bI (aA 0 d0 (aa 1) (ah (bU (aa 2) (some (aa 0)) (some (ag ay (aa 0) (ae (.int 8))))) af)) ((List.range N).map λm:Nat=>AV.int (0+(m:Int)*8)) [] h=.ok (dW ns) h'/\Dd p h h' ps ps' N/\LS ps' ns ((List.range N).map (iI x)):=by
 obtain⟨zs,h',c1,ns,ps',e1,D,LL⟩:=zI (js:=js) (en:=en) (all:=all) (e:=aA 0 d0 (aa 1) (ah (bU (aa 2) (some (aa 0)) (some (ag ay (aa 0) (ae (.int 8))))) af)) (xs:=(List.range N).map λm:Nat=>AV.int (0+(m:Int)*8)) (h:=h)
  (λj ys h'=>∃ (ns:List Nat) (ps':List Pc),ys=dW ns/\Dd p h h' ps ps' j/\LS ps' ns ((List.range j).map (iI x))) ⟨[],ps,rfl,Dd.refl S g,rfl,λi n w a _=>by simp at a⟩ (by
   rintro j v ys h' hv ⟨ns,ps',rfl,D,LL⟩
   obtain⟨jN,rfl⟩:=Ak hv;have z:=D.len;have lc:=Ai x j;have sc:fI (iI x j)=true:=by
    unfold fI;rw[J7 px j,lc];simp;lia
   obtain⟨n,ps2,h2,d2,T⟩:=rB D.sh D.gd sc ⋯;have i1:(0:Int)+(j:Int)*8=((8*j:Nat):Int):=by lia
   have i2:((8*j:Nat):Int)+8=((8*j+8:Nat):Int):=by lia
   have ct:dE (.str x) (some ((8*j:Nat):Int)) (some ((8*j+8:Nat):Int)) h'=.ok (.str (iI x j)) h':=rfl;have ev:=d2.ev;rw[hj];have e:aA 0 d0 (aa 1) (ah (bU (aa 2) (some (aa 0)) (some (ag ay (aa 0) (ae (.int 8))))) af) [some (.int (0+(j:Int)*8)),some (.ref p),some (.str x)] h'=.ok (.int n) h2:=by
    rw[i1];have ad:ay (.int ((8*j:Nat):Int)) (.int 8) h'=.ok (.int ((8*j+8:Nat):Int)) h':=by rw[<- i2];rfl
    generalize ((8*j+8:Nat):Int)=B2,((8*j:Nat):Int)=B1 at *;simp[D.sh.ob,ad,ct,ev,-ay,-dE]
   rw[e];refine⟨ns++[n],ps2,by simp[dW],D.trans d2.dd ⋯,?_⟩
   rw[P5,Og];exact LL.snoc d2.dd.pre T) (by simp;exact Np (show N<=10000 by lia) 'd')
 rw[Nw,PN] at D LL;exact⟨ns,ps',h',by rw[c1,e1],D,LL⟩
def Al(S:ShelfAt h p ps)(g:Good ps)(px:bJ x=true)(hx:x.length<=10000)(hz:ps.length+2*x.length<16000000) :
  ∃ (n:Nat) (ps':List Pc) (h':AH),gR [.ref p,.str x] h=.ok (.int n) h'/\Dd p h h' ps ps' (2*x.length)/\TxZ ps' n x:=by
 have sl:x.length<=sizeLine:=Np hx 'd';have fp:=qZ x h sl;rw[px] at fp;have c1:¬ (10000:Int)<x.length:=by lia
 by_cases q:x.length=0
 ·have xe:x="" := bZ (by rw[cy] at q;rw[OQ.mp q];rfl)
  subst xe;refine⟨0,ps,h,?_,{ Dd.refl S g with len:=by lia },.inl ⟨rfl,rfl⟩⟩
  simp[gR,fp,c1]
 ·obtain⟨N,eN⟩:∃ N,N=(x.length-1) / 8+1:=⟨_,rfl⟩
  obtain⟨ns,ps1,h1,e1,D1,LL⟩:=J8 S g px N ⋯ hx ⋯ ((List.range N).map λm:Nat=>AV.int (0+(m:Int)*8)) [0,1] [some (.ref p),some (.str x),none] rfl;have z1:=D1.len;have ln:ns.length=N:=by rw[LL.1];simp
  obtain⟨n,ps2,h2,m,f,l,H,b1,b2,b3,_⟩:=vF (p:=p) 20 11 D1.sh D1.gd LL ⋯ (by rw[ln];have:(2:Nat) ^ 11=2048:=rfl;lia) 'd' (λi w ew hi=>by
   obtain⟨iN,rfl⟩:=Ak ew;rw[Nw,PN] at hi;rw[Ai];(clear ew iN ln z1 LL D1 e1 q c1 fp sl hz hx px g S;lia)) ⋯ ⋯
  have rd:fy ((List.range N).map (iI x))=x:=bZ (by rw[Aj,N9 (by rw[<- cy];lia)])
  rw[rd] at b3;have ir:jz (ae (.int 0)) (ar aB (ah (aa 1) af)) (ae (.int 8)) [some (.ref p),some (.str x),none] h=.ok ((List.range N).map (λm:Nat=>AV.int (0+(m:Int)*8)),none) h:=by
   have r1:((if (0:Int)<x.length then((x.length:Int)-0-1) / 8+1 else 0:Int)).toNat=N:=by
    rw[Nn ⋯];lia
   have r2:(0:Int).natAbs<2 ^ 40/\(x.length:Int).natAbs<2 ^ 40/\(0:Int)<8/\(8:Int)<2 ^ 20:=⟨by decide,by lia,by decide,by decide⟩
   show (if _ then _ else _)=_
   rw[Nn r2,r1]
  have cp:e7 [0,1] (jz (ae (.int 0)) (ar aB (ah (aa 1) af)) (ae (.int 8))) bI (aA 0 d0 (aa 1) (ah (bU (aa 2) (some (aa 0)) (some (ag ay (aa 0) (ae (.int 8))))) af)) [some (.ref p),some (.str x),none] h=.ok (.fl (dW ns)) h1:=by
   simp only[e7,ir,e1]
  have ne:az (.str x) (.str "") h=.ok (.bl false) h:=by
   have:¬ x=Str.ofString "" := λz=>q (by rw[z];rfl)
   simp[this]
  refine⟨n,ps2,h2,?_,D1.trans b2 ⋯,.inr ⟨_,_,_,b3⟩⟩
  unfold gR;generalize hW 20=HV,e7 [0,1] (jz (ae (.int 0)) (ar aB (ah (aa 1) af)) (ae (.int 8))) bI (aA 0 d0 (aa 1) (ah (bU (aa 2) (some (aa 0)) (some (ag ay (aa 0) (ae (.int 8))))) af))=CP at *;simp[fp,c1,ne,cp,b1,-az]
def Am(S:ShelfAt h p ps)(g:Good ps)(A:TxZ ps a x)(B:TxZ ps b y)(hm:x.length+y.length<=1000000000000000000)(hz:ps.length<15000000) :
  ∃ (n:Nat) (ps':List Pc) (h':AH),Dn (bC [.ref p,.int a,.int b]) p h h' ps ps' (16*(max (aM ps a) (aM ps b)+1).toNat) n/\TxZ ps' n (x++y)/\aM ps' n<=max (aM ps a) (aM ps b)+1:=by
 rcases A with⟨rfl,rfl⟩|⟨ma,fa,la,A⟩
 ·obtain⟨mb,eb,sb⟩:=B.meas
  have em:("" : Str)++y=y:=bZ (by rw[cX];rfl)
  have dv:Dn (bC [.ref p,.int (0:Nat),.int b]) p h h ps ps 0 b:=Dn.val S g λhh pp S' _ pr=>oX S' (aJ pr eb) (by rw[sb];lia)
  exact⟨b,ps,h,dv.as S g (λ_ _ _ _ _=>rfl) (NU _),by rw[em];exact B,by lia⟩
 ·rcases B with⟨rfl,rfl⟩|⟨mb,fb,lb,B⟩
  ·have em:x++("" : Str)=x:=bZ (by rw[cX];simp;rfl)
   have dv:Dn (bC [.ref p,.int a,.int (0:Nat)]) p h h ps ps 0 a:=Dn.val S g λhh pp S' _ pr=>oY S' A.n1 (aJ pr A.ms) A.ky.most
   exact⟨a,ps,h,dv.as S g (λ_ _ _ _ _=>rfl) (NU _),by rw[em];exact .inr ⟨_,_,_,A⟩,by lia⟩
  ·have sa:=A.ky.sg
   have sb:=B.ky.sg;have a0:=A.ky.ht;have b0:=B.ky.ht;have ha:=eP g A;have hb:=eP g B;rw[d5 A.ms,d5 B.ms];by_cases q:8<la.sg+fb.sg
   ·obtain⟨n,ps',h',m,d,T,_,hu⟩:=oS 90 (max ma.ht mb.ht).toNat S g A B q ⋯ ⋯ ⋯ ⋯
    exact⟨n,ps',h',d.as S g (λhh pp S' _ pr=>by rw[jM S' A.n1 B.n1 (aJ pr A.ms) (aJ pr B.ms) (aJ pr A.ky.ll) (aJ pr B.ky.fl) ⋯,Nn q]) ⋯,.inr ⟨_,_,_,T⟩,by rw[d5 T.ms];exact hu⟩
   ·obtain⟨n,ps',h',m,f,l,d,T,hu⟩:=Ag S g A B q ⋯ hz
    exact⟨n,ps',h',d.as S g (λhh pp S' _ pr=>by rw[jM S' A.n1 B.n1 (aJ pr A.ms) (aJ pr B.ms) (aJ pr A.ky.ll) (aJ pr B.ky.fl) ⋯,Nr q]) ⋯,.inr ⟨_,_,_,T⟩,by rw[d5 T.ms];exact hu⟩
def bN(x:Str)(a:Nat):Str:=⟨(x.cps.toList.take a).toArray⟩
def dq(x:Str)(a:Nat):Str:=⟨(x.cps.toList.drop a).toArray⟩
def jO(x:Str)(a:Nat):(bN x a).cps.toList=x.cps.toList.take a:=(rfl)
def kf(x:Str)(a:Nat):(dq x a).cps.toList=x.cps.toList.drop a:=(rfl)
def rH(h:a<=x.length):(bN x a).length=a:=by
 rw[cy] at *
 rw[jO,Ot];lia
def nk(x:Str)(a:Nat):(dq x a).length=x.length-a:=by
 rw[cy,cy x,kf,OX]
def vH(x:Str):bN x 0="" :=(bZ rfl)
def vI(x:Str):dq x 0=x:=(bZ rfl)
def J9(h:x.length<=a):bN x a=x:=(bZ (by rw[jO,N9 (by rw[<- cy];exact h)]))
def Ka(h:x.length<=a):dq x a="" :=(bZ (by rw[kf,Oy (by rw[<- cy];exact h)];rfl))
def vJ(h:a<=x.length):bN (x++y) a=bN x a:=(bZ (by rw[jO,cX,jO,P1 (by rw[<- cy];exact h)]))
def vK(h:x.length<=a):bN (x++y) a=x++bN y (a-x.length):=(bZ (by
 rw[jO,cX,cX,jO,List.take_append,N9 (by rw[<- cy];exact h),<- cy]))
def vL(h:a<=x.length):dq (x++y) a=dq x a++y:=(bZ (by rw[kf,cX,cX,kf,List.drop_append_of_le_length (by rw[<- cy];exact h)]))
def vM(h:x.length<=a):dq (x++y) a=dq y (a-x.length):=(bZ (by
 rw[kf,cX,kf,List.drop_append,Oy (by rw[<- cy];exact h),<- cy];rfl))
def Kb(h:bJ x=true)(a:Nat):bJ (bN x a)=true:=by
 unfold bJ at *
 rw[jO,Oa];rw[Oa] at h;exactλc hc=>h c (P0 hc)
def Kc(h:bJ x=true)(a:Nat):bJ (dq x a)=true:=by
 unfold bJ at *
 rw[kf,Oa];rw[Oa] at h;exactλc hc=>h c (Pm hc)
def An(h:AH):dE (.str x) none (some (a:Int)) h=.ok (.str (bN x a)) h:=by
 have:bG x none (some (a:Int))=bN x a:=bZ (by
  unfold bG;rw[HT.sIx_nat,HT.sIx_none,jO];show (x.cps.toList.drop 0).take (min a x.cps.toList.length-0)=_
  rw[Rt,Nat.sub_zero];by_cases q:a<=x.cps.toList.length
  ·rw[Pg q]
  ·rw[Nat.min_eq_right ⋯,List.take_length,N9 ⋯])
 simp only[dE,this]
def Ao(ha:a<=x.length)(h:AH):dE (.str x) (some (a:Int)) none h=.ok (.str (dq x a)) h:=by
 have:bG x (some (a:Int)) none=dq x a:=bZ (by
  unfold bG;rw[HT.sIx_nat,HT.sIx_none,kf];rw[cy] at ha;rw[Pg ha];show (x.cps.toList.drop a).take (x.cps.toList.length-a)=_
  rw[N9 (by rw[OX];exact Nk _)])
 simp only[dE,this]
def h9(z:Int):Nat:=8*((z+1).toNat*(z+2).toNat)
def Ap{a b:Int}(h0:0<=b)(h:b<=a):h9 b+16*(a+1+1).toNat<=h9 (a+1):=by
 unfold h9;obtain⟨m,rfl⟩:=OB h0;obtain⟨n,rfl⟩:=OB (show 0<=a by lia);rw[show ((m:Int)+1).toNat=m+1 by lia,show ((m:Int)+2).toNat=m+2 by lia,show ((n:Int)+1+1).toNat=n+2 by lia,show ((n:Int)+1+2).toNat=n+3 by lia];have hmn:m<=n:=by lia
 have h1:(m+1)*(m+2)<=(n+1)*(n+2):=PR ⋯ ⋯;have h2:(n+2)*(n+3)=(n+1)*(n+2)+2*(n+2):=by
  rw[QY (n+1),<- QY (n+2) 2,<- RA]
 lia
def vN{a b:Int}(h:a<=b)(ha:-1<=a):h9 a<=h9 b:=by
 unfold h9;exact RN 8 (PR ⋯ ⋯)
def Aq{a:Int}(h:a<=83)(h1:-1<=a):h9 a<=57120:=by
 have:=vN h h1;have:h9 83=57120:=by decide +kernel
 lia
def rJ(z:Str)(n:Nat):(aR z n).cps.toList=(List.replicate n z.cps.toList).flatten:=(rfl)
def rK(z:Str)(a b:Nat):aR z a++aR z b=aR z (a+b):=(bZ (by rw[cX,rJ,rJ,rJ,<- List.flatten_append,List.replicate_append_replicate]))
def vO(z:Str):aR z 1=z:=(bZ (by rw[rJ];simp))
def vP(z:Str):aR z 0="" :=(bZ rfl)
theorem rL(z:Str):∀ n,(aR z n).length=z.length*n
 |0=>by rw[vP];rfl
 |n+1=>by rw[<- rK,dU,rL z n,vO,Nat.mul_succ]
theorem vQ:∀ n,aR "" n=""
 |0=>vP _
 |n+1=>by
  rw[<- rK,vQ n,vO];exact bZ (by rw[cX];rfl)
def vR:eF (d+1) [.ref p,.int n,.int (0:Nat)] h=.ok (.int (0:Nat)) h:=by
 have z:az (.int 0) (.int 0) h=.ok (.bl true) h:=by simp
 simp[eF,qX,z,-az]
def vS{k:Nat}{a:Int}(hk:¬ k=0)(hp:k % 2=0)(e1:eF d [.ref p,.int n,.int (k / 2:Nat)] h=.ok (.int a) h1):eF (d+1) [.ref p,.int n,.int k] h=bC [.ref p,.int a,.int a] h1:=by
 have z:az (.int k) (.int 0) h=.ok (.bl false) h:=by simp[hk]
 have dv:cG (.int k) (.int 2) h=.ok (.int (k / 2:Nat)) h:=rfl;have md:∀ h,bB (.int k) (.int 2) h=.ok (.int 0) h:=λh=>by
  have:(k:Int) % 2=0:=by lia
  show Out.ok (AV.int ((k:Int) % 2)) h=_
  rw[this]
 have z2:∀ h,az (.int 0) (.int 0) h=.ok (.bl true) h:=λh=>by simp
 unfold eF qX;generalize hF:bC [.ref p,.int a,.int a] h1=R
 generalize eF d=G,((k / 2:Nat):Int)=K2 at *;simp[z,dv,e1,hF,-az,-cG,-bB]
 cases R with
 |ok v h2=>simp[md,z2,-az,-bB]
 |ex c h2=>rfl
 |bad=>rfl
def vT{k:Nat}{a:Int}(hk:¬ k=0)(hp:¬ k % 2=0)(e1:eF d [.ref p,.int n,.int (k / 2:Nat)] h=.ok (.int a) h1):eF (d+1) [.ref p,.int n,.int k] h=(bC [.ref p,.int a,.int a] h1).bind λv h2=>bC [.ref p,v,.int n] h2:=by
 have z:az (.int k) (.int 0) h=.ok (.bl false) h:=by simp[hk]
 have dv:cG (.int k) (.int 2) h=.ok (.int (k / 2:Nat)) h:=rfl;have md:∀ h,bB (.int k) (.int 2) h=.ok (.int 1) h:=λh=>by
  have:(k:Int) % 2=1:=by lia
  show Out.ok (AV.int ((k:Int) % 2)) h=_
  rw[this]
 have z2:∀ h,az (.int 1) (.int 0) h=.ok (.bl false) h:=λh=>by simp
 unfold eF qX;generalize hF:bC [.ref p,.int a,.int a] h1=R
 generalize eF d=G,((k / 2:Nat):Int)=K2 at *;simp[z,dv,e1,hF,-az,-cG,-bB]
 cases R with
 |ok v h2 =>
  simp[md,z2,-az,-bB]
  cases bC [.ref p,v,.int n] h2<;>rfl
 |ex c h2=>rfl
 |bad=>rfl
def vU(g:Good ps)(A:TxZ ps a x)(B:TxZ ps b y):16*(max (aM ps a) (aM ps b)+1).toNat<=1400:=by
 have key:∀ {n:Nat} {y:Str},TxZ ps n y->aM ps n<=82:=λ{n y} t=>by
  rcases t with⟨rfl,rfl⟩|⟨m,f,l,T⟩
  ·rw[oV];lia
  ·rw[d5 T.ms];exact eP g T
 have:=key A;have:=key B;lia
theorem Ar{p:Nat}:∀ (d e:Nat) {h:AH} {ps:List Pc} {n k:Nat} {x:Str},ShelfAt h p ps->Good ps->TxZ ps n x->k<2 ^ e->e<d->x.length*k<=1000000000000000000->ps.length+2800*e<15000000 ->
  ∃ (m:Nat) (ps':List Pc) (h':AH),Dn (eF d [.ref p,.int n,.int k]) p h h' ps ps' (2800*e) m/\TxZ ps' m (aR x k)
 |0,e,h,ps,n,k,x,S,g,T,hk,hd,hm,hz=>absurd hd (OF _)
 |d+1,e,h,ps,n,k,x,S,g,T,hk,hd,hm,hz=>by
  by_cases k0:k=0
  ·subst k0
   have dv:Dn (eF (d+1) [.ref p,.int n,.int (0:Nat)]) p h h ps ps 0 0:=Dn.val S g λhh pp S' _ pr=>vR
   exact⟨0,ps,h,dv.as S g (λ_ _ _ _ _=>rfl) (NU _),.inl ⟨rfl,vP x⟩⟩
  ·obtain⟨e',rfl⟩:∃ e',e=e'+1:=by
    cases e with
    |zero=>simp at hk;lia
    |succ e'=>exact⟨e',rfl⟩
   rw[QZ] at hk;have kk:x.length*(k / 2)+x.length*(k / 2)+x.length*(k % 2)=x.length*k:=by
    rw[<- RA,<- RA];congr 1
    lia
   obtain⟨a,ps1,h1,d1,T1⟩:=Ar d e' (k:=k / 2) S g T ⋯ ⋯ ⋯ ⋯;have z1:=d1.dd.len;have l1:=rL x (k / 2);obtain⟨b,ps2,h2,d2,T2⟩:=vB d1.dd.sh d1.dd.gd T1 T1 ⋯ ⋯;have w2:=vU d1.dd.gd T1 T1;have z2:=d2.dd.len;rw[rK] at T2;by_cases hp:k % 2=0
   ·have ek:k / 2+k / 2=k:=by lia
    rw[ek] at T2;exact⟨b,ps2,h2,Dn.seq' S g d1 d2 (λhh hh1 pp S' _ pr ev=>vS k0 hp ev) ⋯,T2⟩
   ·have l2:=rL x (k / 2+k / 2)
    rw[RA] at l2;have km:x.length*(k % 2)=x.length:=by rw[show k % 2=1 by(clear l2 z2 w2 T2 d2 l1 z1 T1 d1 kk hz hd hk k0 hm T g S;lia),Nat.mul_one]
    have p12:=d1.dd.pre.trans d2.dd.pre;obtain⟨c,ps3,h3,d3,T3⟩:=vB d2.dd.sh d2.dd.gd T2 (T.pre p12) ⋯ ⋯;have w3:=vU d2.dd.gd T2 (T.pre p12);have ek:aR x (k / 2+k / 2)++x=aR x k:=by
     conv=>lhs;rhs;rw[<- vO x]
     rw[rK];congr 1
     lia
    rw[ek] at T3;have d23:=Dn.seq (F:=λhh=>(bC [.ref p,.int a,.int a] hh).bind λv h2=>bC [.ref p,v,.int n] h2) (F2:=λv h2=>bC [.ref p,v,.int n] h2) d1.dd.sh d1.dd.gd d2 d3 (λ_ _ _ _ _=>rfl) (k:=2800) ⋯
    exact⟨c,ps3,h3,Dn.seq' S g d1 d23 (λhh hh1 pp S' _ pr ev=>vT k0 hp ev) ⋯,T3⟩
def vV{k:Nat}{m:Ms}(S:ShelfAt h p ps)(em:(meas ps)[n]?=some m)(hk:k<2 ^ 63)(hm:m.sg*k<=1000000000000000000):gU [.ref p,.int n,.int k] h=if n=0 then .ok (.int (0:Nat)) h else eF 64 [.ref p,.int n,.int k] h:=by
 have fs:=cz S em;have lt:dy (.int k) (.int 0) h=.ok (.bl false) h:=by
  have:¬ (k:Int)<0:=by lia
  simp only[dy,this,Sh]
 have ml:aW (.int m.sg) (.int k) h=.ok (.int ((m.sg*k:Nat):Int)) h:=by
  have h2:(k:Int).natAbs<2 ^ 64:=by
   have:(2:Nat) ^ 63<2 ^ 64:=by decide
   lia
  rw[zL h2];congr 2
 have ck:=oW (i:=((m.sg*k:Nat):Int)) ⋯ h;unfold gU;generalize ((m.sg*k:Nat):Int)=MK,eF 64=G at *;by_cases z:n=0
 ·subst z
  have z0:az (.int 0) (.int 0) h=.ok (.bl true) h:=by simp
  have fs':dQ [.ref p,.int 0] h=.ok (.int m.sg) h:=fs;simp[S.ob,fs',lt,ml,ck,z0,-dy,-aW,-az]
 ·have z0:az (.int n) (.int 0) h=.ok (.bl false) h:=by simp[z]
  rw[Nr z];generalize hR:G [.ref p,.int n,.int k] h=R
  simp[S.ob,fs,lt,ml,ck,z0,hR,-dy,-aW,-az]
  cases R<;>rfl
def Kd{k:Nat}(S:ShelfAt h p ps)(g:Good ps)(T:TxZ ps n x)(hk:k<2 ^ e)(he:e<62)(hm:x.length*k<=1000000000000000000)(hz:ps.length+2800*e<15000000) :
  ∃ (m:Nat) (ps':List Pc) (h':AH),Dn (gU [.ref p,.int n,.int k]) p h h' ps ps' (2800*e) m/\TxZ ps' m (aR x k):=by
 obtain⟨m,em,sm⟩:=T.meas;have k63:k<2 ^ 63:=NH hk (RB 'd' ⋯);by_cases z:n=0
 ·rcases T with⟨_,rfl⟩|⟨_,_,_,T⟩
  ·have dv:Dn (gU [.ref p,.int n,.int k]) p h h ps ps 0 0:=Dn.val S g λhh pp S' _ pr=>by rw[vV S' (aJ pr em) k63 (by rw[sm];exact hm),Nn z]
   exact⟨0,ps,h,dv.as S g (λ_ _ _ _ _=>rfl) (NU _),.inl ⟨rfl,vQ k⟩⟩
  ·exact absurd T.n1 ⋯
 ·obtain⟨c,ps',h',d,T'⟩:=Ar 64 e S g T hk ⋯ hm hz
  exact⟨c,ps',h',d.as S g (λhh pp S' _ pr=>by rw[vV S' (aJ pr em) k63 (by rw[sm];exact hm),Nr z]) (Nk _),T'⟩
def oZ(t:TxZ ps n y):-1<=aM ps n:=by
 rcases t with⟨rfl,rfl⟩|⟨m,f,l,T⟩
 ·rw[oV];lia
 ·rw[d5 T.ms];have:=T.ky.ht;lia
def TxZ.pos(t:TxZ ps n y)(hy:1<=y.length):∃ m f l,Tx ps n m y f l:=by
 rcases t with⟨rfl,rfl⟩|t
 ·exact absurd hy 'd'
 ·exact t
def vW:c6 (d+1) [.ref p,.int n,.int (0:Nat)] h=.ok (.int (0:Nat)) h:=by
 have z:az (.int 0) (.int 0) h=.ok (.bl true) h:=by simp
 simp[c6,lF,z,-az]
def Ke{m:Ms}(S:ShelfAt h p ps)(em:(meas ps)[n]?=some m)(a0:¬ a=0)(ea:a=m.sg):c6 (d+1) [.ref p,.int n,.int a] h=.ok (.int n) h:=by
 have z:az (.int a) (.int 0) h=.ok (.bl false) h:=by simp[a0]
 have fs:=cz S em;rw[<- ea] at fs;have z2:az (.int a) (.int a) h=.ok (.bl true) h:=by simp
 simp[c6,lF,z,S.ob,fs,z2,-az]
def Kf{m:Ms}(S:ShelfAt h p ps)(n1:1<=n)(em:(meas ps)[n]?=some m)(ep:ps[n-1]?=some (.leaf x))(a0:¬a=0)(ea:¬a=m.sg):c6 (d+1) [.ref p,.int n,.int a] h=d0 [.ref p,.str (bN x a)] h:=by
 have z:az (.int a) (.int 0) h=.ok (.bl false) h:=by simp[a0]
 have fs:=cz S em;have z2:az (.int a) (.int m.sg) h=.ok (.bl false) h:=by
  have:¬ (a:Int)=m.sg:=by lia
  simp[this]
 have ct:=An (x:=x) (a:=a) h;generalize hF:d0 [.ref p,.str (bN x a)] h=R
 simp[c6,lF,z,S.ob,fs,z2,nj S n1 ep,rD,rF,rE,ct,hF,-az,-ao,-dE]
 cases R<;>first|rfl|simp
def vX{m:Ms}(S:ShelfAt h p ps)(n1:1<=n)(em:(meas ps)[n]?=some m)(ec:(meas ps)[c]?=some mc)(ep:ps[n-1]?=some (.fork c e))(a0:¬a=0)(ea:¬a=m.sg)(hl:a<=mc.sg):c6 (d+1) [.ref p,.int n,.int a] h=c6 d [.ref p,.int c,.int a] h:=by
 have z:az (.int a) (.int 0) h=.ok (.bl false) h:=by simp[a0]
 have fs:=cz S em;have fc:=cz S ec;have z2:az (.int a) (.int m.sg) h=.ok (.bl false) h:=by
  have:¬ (a:Int)=m.sg:=by lia
  simp[this]
 have le:aV (.int a) (.int mc.sg) h=.ok (.bl true) h:=by simp[hl]
 show lF (c6 d) [.ref p,.int n,.int a] h=c6 d [.ref p,.int c,.int a] h
 generalize c6 d=G at *;unfold lF
 generalize hF:G [.ref p,.int c,.int a] h=R
 simp[z,S.ob,fs,fc,z2,fV S n1 ep,lQ,lR,i1,le,hF,-az,-ao,-aV]
 cases R<;>first|rfl|simp
def vY{v:Int}{m:Ms}(S:ShelfAt h p ps)(n1:1<=n)(em:(meas ps)[n]?=some m)(ec:(meas ps)[c]?=some mc)(ep:ps[n-1]?=some (.fork c e))(a0:¬a=0)(ea:¬a=m.sg)(hl:¬ a<=mc.sg)(ev:c6 d [.ref p,.int e,.int (a-mc.sg:Nat)] h=.ok (.int v) h1) :
  c6 (d+1) [.ref p,.int n,.int a] h=bC [.ref p,.int c,.int v] h1:=by
 have z:az (.int a) (.int 0) h=.ok (.bl false) h:=by simp[a0]
 have fs:=cz S em;have fc:=cz S ec;have z2:az (.int a) (.int m.sg) h=.ok (.bl false) h:=by
  have:¬ (a:Int)=m.sg:=by lia
  simp[this]
 have le:aV (.int a) (.int mc.sg) h=.ok (.bl false) h:=by
  simp;lia
 have sb:bH (.int a) (.int mc.sg) h=.ok (.int (a-mc.sg:Nat)) h:=by
  have:(a:Int)-mc.sg=((a-mc.sg:Nat):Int):=by lia
  rw[<- this];rfl
 unfold c6 lF;generalize ((a-mc.sg:Nat):Int)=AM,c6 d=G at *;generalize hF:bC [.ref p,.int c,.int v] h1=R
 simp[z,S.ob,fs,fc,z2,fV S n1 ep,lQ,lR,i1,i2,le,sb,ev,hF,-az,-ao,-aV,-bH]
 cases R<;>first|rfl|simp
theorem vZ{p:Nat}:∀ (d:Nat) {h:AH} {ps:List Pc} {n a:Nat} {x:Str},ShelfAt h p ps->Good ps->TxZ ps n x->a<=x.length->(aM ps n).toNat<d->ps.length+h9 (aM ps n)<14900000 ->
  ∃ (r:Nat) (ps':List Pc) (h':AH),Dn (c6 d [.ref p,.int n,.int a]) p h h' ps ps' (h9 (aM ps n)) r/\TxZ ps' r (bN x a)/\aM ps' r<=aM ps n+1
 |0,h,ps,n,a,x,S,g,T,ha,hd,hz=>absurd hd (OF _)
 |d+1,h,ps,n,a,x,S,g,T,ha,hd,hz=>by
  have hge:=oZ T;by_cases a0:a=0
  ·subst a0
   have dv:Dn (c6 (d+1) [.ref p,.int n,.int (0:Nat)]) p h h ps ps 0 0:=Dn.val S g λhh pp S' _ pr=>vW
   exact⟨0,ps,h,dv.as S g (λ_ _ _ _ _=>rfl) (NU _),.inl ⟨rfl,vH x⟩,by rw[oV];lia⟩
  ·obtain⟨m,f,l,T1⟩:=T.pos ⋯
   have sg:=T1.ky.sg;by_cases ea:a=m.sg
   ·have dv:Dn (c6 (d+1) [.ref p,.int n,.int a]) p h h ps ps 0 n:=Dn.val S g λhh pp S' _ pr=>Ke S' (aJ pr T1.ms) a0 ea
    exact⟨n,ps,h,dv.as S g (λ_ _ _ _ _=>rfl) (NU _),by rw[J9 ⋯];exact T,by lia⟩
   ·rw[d5 T1.ms] at hd hz hge ⊢
    rcases g.kind T1 with⟨e1,e2,e3,e4,e5⟩|⟨_,_,mx,my,_,_,_,_,_,_,_,_,_,X,Y,_,e5,_⟩
    ·have lt:=rH ha
     obtain⟨r,ps',h',d1,L⟩:=rB S g (x:=bN x a) (by
      unfold fI;rw[Kb T1.ky.pl,lt];simp;lia) ⋯
     refine⟨r,ps',h',d1.as S g (λhh pp S' _ pr=>Kf S' T1.n1 (aJ pr T1.ms) (cR pr e1) a0 ea) (by rw[e2];decide),.inr ⟨_,_,_,L⟩,by rw[d5 L.ms,e2];show (0:Int)<=0+1;decide⟩
    ·have hpos:0<m.ht:=by
      have:=congrArg Ms.ht e5;rw[bD] at this;have:=X.ky.ht
      (clear e5 Y X ea sg T1 hd hz hge a0 ha T g S;omega)
     obtain⟨c,e,mc,me,y1,y2,lc,fe,ep,C,E,rfl,em,w1,w2,w3⟩:=g.cut T1 hpos;have hh:m.ht=max mc.ht me.ht+1:=by rw[em];rfl
     have c0:=C.ky.ht;have e0:=E.ky.ht;have sc:=C.ky.sg;have se:=E.ky.sg;have la:=dU y1 y2;by_cases hl:a<=mc.sg
     ·have hc1:aM ps c=mc.ht:=d5 C.ms
      have cm:=vN (a:=mc.ht) (b:=m.ht) (by(clear hc1 hl la se sc e0 c0 w3 w2 em sg T1 ha T E C ep hpos e5 Y X ea hd hz hge a0 g S;lia)) ⋯;obtain⟨r,ps',h',d1,T',q1⟩:=vZ d (n:=c) (a:=a) (x:=y1) S g (.inr ⟨_,_,_,C⟩) ⋯ (by rw[hc1];(clear cm hl la se sc e0 c0 w3 w2 em sg T1 ha T E C ep e5 Y X ea hz hge a0 g S;lia)) (by rw[hc1];lia)
      rw[hc1] at d1 q1;exact⟨r,ps',h',d1.as S g (λhh pp S' _ pr=>vX S' T1.n1 (aJ pr T1.ms) (aJ pr C.ms) (cR pr ep) a0 ea hl) cm,by rw[vJ ⋯];exact T',by(clear T' d1 cm hc1 hl la se sc e0 c0 w3 w2 w1 em sg T1 ha T E C ep hpos e5 Y X ea hd hz hge a0 g S;lia)⟩
     ·have he1:aM ps e=me.ht:=d5 E.ms
      have cs:=Ap (a:=m.ht-1) (b:=me.ht) e0 ⋯;rw[show m.ht-1+1=m.ht by lia] at cs;obtain⟨r,ps1,h1,d1,T',q1⟩:=vZ d (n:=e) (a:=a-mc.sg) (x:=y2) S g (.inr ⟨_,_,_,E⟩) (by(clear cs he1 hl se e0 c0 hh w3 w2 w1 em sg T1 T E C ep hpos e5 Y X ea hd hz hge a0 g S;lia)) (by rw[he1];(clear cs hl la se sc e0 c0 w3 w2 em sg T1 ha T E C ep e5 Y X ea hz hge a0 g S;lia)) (by rw[he1];lia)
      rw[he1] at d1 q1;have z1:=d1.dd.len
      have lt:=rH (x:=y2) (a:=a-mc.sg) (by(clear z1 q1 T' d1 cs he1 hl se e0 c0 hh w3 w2 w1 em sg T1 T E C ep hpos e5 Y X ea hd hz hge a0 g S;lia));have most:=T1.ky.most;have C':TxZ ps1 c y1:=.inr ⟨_,_,_,C.pre d1.dd.pre⟩;have hc2:aM ps1 c=mc.ht:=d5 (C.pre d1.dd.pre).ms;obtain⟨s,ps2,h2,d2,T2,q2⟩:=Am d1.dd.sh d1.dd.gd C' T' ⋯ ⋯;have hr:=oZ T';refine⟨s,ps2,h2,Dn.seq' S g d1 d2 (λhh hh1 pp S' _ pr ev=>vY S' T1.n1 (aJ pr T1.ms) (aJ pr C.ms) (cR pr ep) a0 ea hl ev) (by(clear hr q2 T2 d2 C' most lt z1 T' d1 hl la se sc e0 c0 w3 w2 w1 em sg T1 ha T E C ep e5 Y X ea hd hge a0 g S;lia)),?_,by(clear hr T2 d2 C' most lt z1 T' hl la se sc e0 c0 w3 w2 w1 em sg T1 ha T E C ep hpos e5 Y X ea hd hz hge a0 g S;lia)⟩
      rw[vK ⋯,<- sc];exact T2
def v5:df (d+1) [.ref p,.int n,.int (0:Nat)] h=.ok (.int n) h:=by
 have z:az (.int 0) (.int 0) h=.ok (.bl true) h:=by simp
 simp[df,lG,z,-az]
def Kg{m:Ms}(S:ShelfAt h p ps)(em:(meas ps)[n]?=some m)(a0:¬ a=0)(ea:a=m.sg):df (d+1) [.ref p,.int n,.int a] h=.ok (.int (0:Nat)) h:=by
 have z:az (.int a) (.int 0) h=.ok (.bl false) h:=by simp[a0]
 have fs:=cz S em;rw[<- ea] at fs;have z2:az (.int a) (.int a) h=.ok (.bl true) h:=by simp
 simp[df,lG,z,S.ob,fs,z2,-az]
def Kh{m:Ms}(S:ShelfAt h p ps)(n1:1<=n)(em:(meas ps)[n]?=some m)(ep:ps[n-1]?=some (.leaf x))(ax:a<=x.length)(a0:¬a=0)(ea:¬a=m.sg):df (d+1) [.ref p,.int n,.int a] h=d0 [.ref p,.str (dq x a)] h:=by
 have z:az (.int a) (.int 0) h=.ok (.bl false) h:=by simp[a0]
 have fs:=cz S em;have z2:az (.int a) (.int m.sg) h=.ok (.bl false) h:=by
  have:¬ (a:Int)=m.sg:=by lia
  simp[this]
 have ct:=Ao (x:=x) ax h;generalize hF:d0 [.ref p,.str (dq x a)] h=R
 simp[df,lG,z,S.ob,fs,z2,nj S n1 ep,rD,rF,rE,ct,hF,-az,-ao,-dE]
 cases R<;>first|rfl|simp
def v7{m:Ms}(S:ShelfAt h p ps)(n1:1<=n)(em:(meas ps)[n]?=some m)(ec:(meas ps)[c]?=some mc)(ep:ps[n-1]?=some (.fork c e))(a0:¬a=0)(ea:¬a=m.sg)(hl:mc.sg<=a):df (d+1) [.ref p,.int n,.int a] h=df d [.ref p,.int e,.int (a-mc.sg:Nat)] h:=by
 have z:az (.int a) (.int 0) h=.ok (.bl false) h:=by simp[a0]
 have fs:=cz S em;have fc:=cz S ec;have z2:az (.int a) (.int m.sg) h=.ok (.bl false) h:=by
  have:¬ (a:Int)=m.sg:=by lia
  simp[this]
 have le:jY (.int a) (.int mc.sg) h=.ok (.bl true) h:=by simp[hl]
 have sb:bH (.int a) (.int mc.sg) h=.ok (.int (a-mc.sg:Nat)) h:=by
  have:(a:Int)-mc.sg=((a-mc.sg:Nat):Int):=by lia
  rw[<- this];rfl
 show lG (df d) [.ref p,.int n,.int a] h=df d [.ref p,.int e,.int (a-mc.sg:Nat)] h
 generalize df d=G at *;unfold lG
 generalize ((a-mc.sg:Nat):Int)=AM at *;generalize hF:G [.ref p,.int e,.int AM] h=R
 simp[z,S.ob,fs,fc,z2,fV S n1 ep,lQ,lR,i1,i2,le,sb,hF,-az,-ao,-jY,-bH]
 cases R<;>first|rfl|simp
def v8{v:Int}{m:Ms}(S:ShelfAt h p ps)(n1:1<=n)(em:(meas ps)[n]?=some m)(ec:(meas ps)[c]?=some mc)(ep:ps[n-1]?=some (.fork c e))(a0:¬a=0)(ea:¬a=m.sg)(hl:¬ mc.sg<=a)(ev:df d [.ref p,.int c,.int a] h=.ok (.int v) h1) :
  df (d+1) [.ref p,.int n,.int a] h=bC [.ref p,.int v,.int e] h1:=by
 have z:az (.int a) (.int 0) h=.ok (.bl false) h:=by simp[a0]
 have fs:=cz S em;have fc:=cz S ec;have z2:az (.int a) (.int m.sg) h=.ok (.bl false) h:=by
  have:¬ (a:Int)=m.sg:=by lia
  simp[this]
 have le:jY (.int a) (.int mc.sg) h=.ok (.bl false) h:=by
  simp;lia
 unfold df lG;generalize df d=G at *;generalize hF:bC [.ref p,.int v,.int e] h1=R
 simp[z,S.ob,fs,fc,z2,fV S n1 ep,lQ,lR,i1,i2,le,ev,hF,-az,-ao,-jY]
 cases R<;>first|rfl|simp
theorem v9{p:Nat}:∀ (d:Nat) {h:AH} {ps:List Pc} {n a:Nat} {x:Str},ShelfAt h p ps->Good ps->TxZ ps n x->a<=x.length->(aM ps n).toNat<d->ps.length+h9 (aM ps n)<14900000 ->
  ∃ (r:Nat) (ps':List Pc) (h':AH),Dn (df d [.ref p,.int n,.int a]) p h h' ps ps' (h9 (aM ps n)) r/\TxZ ps' r (dq x a)/\aM ps' r<=aM ps n+1
 |0,h,ps,n,a,x,S,g,T,ha,hd,hz=>absurd hd (OF _)
 |d+1,h,ps,n,a,x,S,g,T,ha,hd,hz=>by
  have hge:=oZ T;by_cases a0:a=0
  ·subst a0
   have dv:Dn (df (d+1) [.ref p,.int n,.int (0:Nat)]) p h h ps ps 0 n:=Dn.val S g λhh pp S' _ pr=>v5
   exact⟨n,ps,h,dv.as S g (λ_ _ _ _ _=>rfl) (NU _),by rw[vI];exact T,by lia⟩
  ·obtain⟨m,f,l,T1⟩:=T.pos ⋯
   have sg:=T1.ky.sg;by_cases ea:a=m.sg
   ·have dv:Dn (df (d+1) [.ref p,.int n,.int a]) p h h ps ps 0 0:=Dn.val S g λhh pp S' _ pr=>Kg S' (aJ pr T1.ms) a0 ea
    exact⟨0,ps,h,dv.as S g (λ_ _ _ _ _=>rfl) (NU _),.inl ⟨rfl,Ka ⋯⟩,by rw[oV];lia⟩
   ·rw[d5 T1.ms] at hd hz hge ⊢
    rcases g.kind T1 with⟨e1,e2,e3,e4,e5⟩|⟨_,_,mx,my,_,_,_,_,_,_,_,_,_,X,Y,_,e5,_⟩
    ·have lt:=nk x a
     obtain⟨r,ps',h',d1,L⟩:=rB S g (x:=dq x a) (by
      unfold fI;rw[Kc T1.ky.pl,lt];simp;lia) ⋯
     refine⟨r,ps',h',d1.as S g (λhh pp S' _ pr=>Kh S' T1.n1 (aJ pr T1.ms) (cR pr e1) ha a0 ea) (by rw[e2];decide),.inr ⟨_,_,_,L⟩,by rw[d5 L.ms,e2];show (0:Int)<=0+1;decide⟩
    ·have hpos:0<m.ht:=by
      have:=congrArg Ms.ht e5;rw[bD] at this;have:=X.ky.ht
      (clear e5 Y X ea sg T1 hd hz hge a0 ha T g S;omega)
     obtain⟨c,e,mc,me,y1,y2,lc,fe,ep,C,E,rfl,em,w1,w2,w3⟩:=g.cut T1 hpos;have hh:m.ht=max mc.ht me.ht+1:=by rw[em];rfl
     have c0:=C.ky.ht;have e0:=E.ky.ht;have sc:=C.ky.sg;have se:=E.ky.sg;have la:=dU y1 y2;by_cases hl:mc.sg<=a
     ·have he1:aM ps e=me.ht:=d5 E.ms
      have cm:=vN (a:=me.ht) (b:=m.ht) (by(clear he1 hl la se sc e0 c0 w3 w2 w1 em sg T1 ha T E C ep hpos e5 Y X ea hd hz hge a0 g S;lia)) ⋯;obtain⟨r,ps',h',d1,T',q1⟩:=v9 d (n:=e) (a:=a-mc.sg) (x:=y2) S g (.inr ⟨_,_,_,E⟩) (by(clear cm he1 hl se e0 c0 hh w3 w2 w1 em sg T1 T E C ep hpos e5 Y X ea hd hz hge a0 g S;lia)) (by rw[he1];lia) (by rw[he1];lia)
      rw[he1] at d1 q1;refine⟨r,ps',h',d1.as S g (λhh pp S' _ pr=>v7 S' T1.n1 (aJ pr T1.ms) (aJ pr C.ms) (cR pr ep) a0 ea hl) cm,?_,by(clear T' d1 cm he1 hl la se sc e0 c0 w3 w2 w1 em sg T1 ha T E C ep hpos e5 Y X ea hd hz hge a0 g S;lia)⟩
      rw[vM ⋯,<- sc];exact T'
     ·have hc1:aM ps c=mc.ht:=d5 C.ms
      have cs:=Ap (a:=m.ht-1) (b:=mc.ht) c0 (by(clear hc1 hl la se sc e0 c0 w3 w2 em sg T1 ha T E C ep hpos e5 Y X ea hd hz hge a0 g S;lia));rw[show m.ht-1+1=m.ht by lia] at cs;obtain⟨r,ps1,h1,d1,T',q1⟩:=v9 d (n:=c) (a:=a) (x:=y1) S g (.inr ⟨_,_,_,C⟩) ⋯ (by rw[hc1];(clear cs hl la se sc e0 c0 w3 w2 em sg T1 ha T E C ep e5 Y X ea hz hge a0 g S;lia)) (by rw[hc1];lia)
      rw[hc1] at d1 q1;have z1:=d1.dd.len
      have lt:=nk y1 a;have most:=T1.ky.most;have E':TxZ ps1 e y2:=.inr ⟨_,_,_,E.pre d1.dd.pre⟩;have he2:aM ps1 e=me.ht:=d5 (E.pre d1.dd.pre).ms;obtain⟨s,ps2,h2,d2,T2,q2⟩:=Am d1.dd.sh d1.dd.gd T' E' (by(clear he2 E' z1 q1 T' d1 cs hc1 hl se sc e0 c0 hh w3 w2 w1 em T1 ha T E C ep hpos e5 Y X ea hd hz hge a0 g S;lia)) ⋯;have hr:=oZ T';refine⟨s,ps2,h2,Dn.seq' S g d1 d2 (λhh hh1 pp S' _ pr ev=>v8 S' T1.n1 (aJ pr T1.ms) (aJ pr C.ms) (cR pr ep) a0 ea hl ev) (by(clear hr q2 T2 d2 E' most lt z1 T' d1 hc1 hl la se sc e0 c0 w3 w2 em sg T1 ha T E C ep e5 Y X ea hd hge a0 g S;lia)),?_,by(clear hr T2 d2 E' most z1 T' d1 hc1 hl la se sc e0 c0 w3 w2 em sg T1 ha T E C ep hpos e5 Y X ea hz hge a0 g S;lia)⟩
      rw[vL ⋯];exact T2
def As(g:Good ps)(t:TxZ ps n x):-1<=aM ps n/\aM ps n<=82:=by
 refine⟨oZ t,?_⟩
 rcases t with⟨rfl,rfl⟩|⟨m,f,l,T⟩
 ·rw[oV];lia
 ·rw[d5 T.ms];exact eP g T
def Au(S:ShelfAt h p ps)(g:Good ps)(T:TxZ ps n x)(ha:a<=x.length)(hz:ps.length<14000000) :
  ∃ (r:Nat) (ps':List Pc) (h':AH),c6 90 [.ref p,.int n,.int a] h=.ok (.int r) h'/\Dd p h h' ps ps' 57120/\TxZ ps' r (bN x a):=by
 have b:=As g T;have c:=Aq (a:=aM ps n) ⋯ b.1;obtain⟨r,ps',h',d,T',_⟩:=vZ (p:=p) 90 (a:=a) S g T ha ⋯ ⋯;exact⟨r,ps',h',d.ev,{ d.dd with len:=Np d.dd.len (NQ c _) },T'⟩
def Av(S:ShelfAt h p ps)(g:Good ps)(T:TxZ ps n x)(ha:a<=x.length)(hz:ps.length<14000000) :
  ∃ (r:Nat) (ps':List Pc) (h':AH),df 90 [.ref p,.int n,.int a] h=.ok (.int r) h'/\Dd p h h' ps ps' 57120/\TxZ ps' r (dq x a):=by
 have b:=As g T;have c:=Aq (a:=aM ps n) ⋯ b.1;obtain⟨r,ps',h',d,T',_⟩:=v9 (p:=p) 90 (a:=a) S g T ha ⋯ ⋯;exact⟨r,ps',h',d.ev,{ d.dd with len:=Np d.dd.len (NQ c _) },T'⟩
def pe(S:ShelfAt h p ps)(g:Good ps)(A:TxZ ps a x)(B:TxZ ps b y)(hm:x.length+y.length<=1000000000000000000)(hz:ps.length<15000000) :
  ∃ (n:Nat) (ps':List Pc) (h':AH),bC [.ref p,.int a,.int b] h=.ok (.int n) h'/\Dd p h h' ps ps' 1400/\TxZ ps' n (x++y):=by
 obtain⟨n,ps',h',d,T⟩:=vB S g A B hm hz;exact⟨n,ps',h',d.ev,{ d.dd with len:=Np d.dd.len (NQ (vU g A B) _) },T⟩
def Ki{m:Ms}(S:ShelfAt h p ps)(em:(meas ps)[n]?=some m)(be:b<=e)(hm:e<=m.sg):jG [.ref p,.int n,.int b,.int e] h=.ok .non h:=by
 have fs:=cz S em;have l1:aV (.int 0) (.int b) h=.ok (.bl true) h:=by
  have:(0:Int)<=b:=by lia
  simp only[aV,this,P2]
 have l2:aV (.int b) (.int e) h=.ok (.bl true) h:=by
  have:(b:Int)<=e:=by lia
  simp only[aV,this,P2]
 have l3:aV (.int e) (.int m.sg) h=.ok (.bl true) h:=by
  have:(e:Int)<=m.sg:=by lia
  simp only[aV,this,P2]
 simp[jG,S.ob,fs,l1,l2,l3,-aV]
def Kj{t:Nat}{m:Ms}(S:ShelfAt h p ps)(em:(meas ps)[n]?=some m)(hm:t<=m.sg):ka [.ref p,.int n,.int t] h=.ok .non h:=by
 have fs:=cz S em;have l1:aV (.int 0) (.int t) h=.ok (.bl true) h:=by
  have:(0:Int)<=t:=by lia
  simp only[aV,this,P2]
 have l2:aV (.int t) (.int m.sg) h=.ok (.bl true) h:=by
  have:(t:Int)<=m.sg:=by lia
  simp only[aV,this,P2]
 simp[ka,S.ob,fs,l1,l2,-aV]
def Kk(S:ShelfAt h p ps)(g:Good ps)(T:TxZ ps n x)(be:b<=e)(ex:e<=x.length)(hx:x.length<=1000000000000000000)(hz:ps.length<13000000) :
  ∃ (r:Nat) (ps':List Pc) (h':AH),jH [.ref p,.int n,.int b,.int e] h=.ok (.int r) h'/\Dd p h h' ps ps' 120000/\TxZ ps' r (bN x b++dq x e):=by
 obtain⟨m,em,sm⟩:=T.meas;have ck:=Ki S em be ⋯;obtain⟨r1,ps1,h1,e1,D1,T1⟩:=Au (a:=b) S g T ⋯ ⋯;have z1:=D1.len;obtain⟨r2,ps2,h2,e2,D2,T2⟩:=Av (a:=e) D1.sh D1.gd (T.pre D1.pre) ex ⋯;have z2:=D2.len;have l1:=rH (x:=x) (a:=b) ⋯;have l2:=nk x e;obtain⟨r,ps3,h3,e3,D3,T3⟩:=pe D2.sh D2.gd (T1.pre D2.pre) T2 ⋯ ⋯;refine⟨r,ps3,h3,?_,(D1.trans D2 (Nk _)).trans D3 ⋯,T3⟩
 unfold jH;generalize df 90=FB,c6 90=FF at *;simp[ck,e1,e2,e3]
def Kl{t:Nat}(S:ShelfAt h p ps)(g:Good ps)(A:TxZ ps a x)(B:TxZ ps b y)(tx:t<=x.length)(hx:x.length+y.length<=1000000000000000000)(hz:ps.length<13000000) :
  ∃ (r:Nat) (ps':List Pc) (h':AH),i5 [.ref p,.int a,.int t,.int b] h=.ok (.int r) h'/\Dd p h h' ps ps' 120000/\TxZ ps' r ((bN x t++y)++dq x t):=by
 obtain⟨ma,ema,sma⟩:=A.meas;obtain⟨mb,emb,smb⟩:=B.meas;have ck:=Kj S ema (show t<=ma.sg by lia);have f1:=cz S ema;have f2:=cz S emb;have lk:=oW (i:=(ma.sg:Int)+mb.sg) ⋯ h;obtain⟨r1,ps1,h1,e1,D1,T1⟩:=Au (a:=t) S g A tx ⋯;have z1:=D1.len;have l1:=rH tx;obtain⟨r2,ps2,h2,e2,D2,T2⟩:=pe D1.sh D1.gd T1 (B.pre D1.pre) ⋯ ⋯;have z2:=D2.len;have l2:=dU (bN x t) y;obtain⟨r3,ps3,h3,e3,D3,T3⟩:=Av (a:=t) D2.sh D2.gd (A.pre (D1.pre.trans D2.pre)) tx ⋯;have z3:=D3.len;have l3:=nk x t;obtain⟨r,ps4,h4,e4,D4,T4⟩:=pe D3.sh D3.gd (T2.pre D3.pre) T3 ⋯ ⋯;refine⟨r,ps4,h4,?_,((D1.trans D2 (Nk _)).trans D3 (Nk _)).trans D4 ⋯,T4⟩
 have ob:=S.ob;unfold i5;generalize df 90=FB,c6 90=FF at *;simp[ob,f1,f2,ck,lk,e1,e2,e3,e4]
def Km(c k:Int)(h:AH):∃ m,qP [.int c,.int k] h=.ok (.int m) h:=by
 have b1:0<=(c % 1000000007+7919*k+101)*48271 % 2147483647:=P6 _ 'd';have b2:(c % 1000000007+7919*k+101)*48271 % 2147483647<2147483647:=Qn _ 'd';refine⟨(c % 1000000007+7919*k+101)*48271 % 2147483647*((c % 1000000007+7919*k+101)*48271 % 2147483647) % 2147483629*69621 % 2147483647,?_⟩
 generalize he:(c % 1000000007+7919*k+101)*48271 % 2147483647=v at *;have c1:v.natAbs<18446744073709551616:=by lia
 simp[qP,he,c1]
def Kn{i j:Int}(hi:i.natAbs<2 ^ 4000)(hj:j.natAbs<2 ^ 4000):aW (.int i) (.int j) h=.ok (.int (i*j)) h:=(Nn (.inr ⟨hi,hj⟩))
def Ko(ns:List Int):oq (ns.map AV.int)=some ns:=by
 induction ns with
 |nil=>rfl
 |cons n r ih=>simp[ih]
abbrev T60:Int:=1000000000000000000000000000000000000000000000000000000000000000000000000000000000000000000000000000000000000000000000000
def Kp:(10:Nat) ^ 960<2 ^ 4000:=by decide +kernel
def Kq:T60.natAbs<2 ^ 4000:=by decide +kernel
def Kt(ns:List Int)(k:Nat)(i:Nat)(c:Nat)(o:Option AV)(h:AH)(hi:i<8)(hc:c<10 ^ (120*i))(hj:k+i*8<ns.length) :
  ∃ c':Nat,c'<10 ^ (120*(i+1))/\mS [some (.fl (ns.map AV.int)),some (.int k),some (.int c),some (.int ((k:Int)+i*8)),o] h=.nx [some (.fl (ns.map AV.int)),some (.int k),some (.int c'),some (.int ((k:Int)+i*8)),o] h:=by
 obtain⟨s,es⟩:∃ s,ns[k+i*8]?=some s:=⟨ns[k+i*8],by simp[hj]⟩
 have ix:ao (.fl (ns.map AV.int)) (.int ((k:Int)+i*8)) h=.ok (.int s) h:=by
  rw[show ((k:Int)+i*8)=((k+i*8:Nat):Int) by simp];simp only[ao,Jr es]
 have p1:(10:Nat) ^ (120*i)<=10 ^ 960:=RB 'd' ⋯;have m1:((c:Int)).natAbs<2 ^ 4000:=by
  have:=Kp;exact Qe (show c<10 ^ 960 by lia) this
 have mu:aW (.int c) (.int T60) h=.ok (.int (c*T60)) h:=Kn m1 Kq;have r0:0<=s % T60:=P6 _ 'd';have r1:s % T60<T60:=Qn _ 'd';obtain⟨r,er⟩:∃ r:Nat,s % T60=(r:Int):=⟨(s % T60).toNat,(RO r0).symm⟩
 have rl:r<10 ^ 120:=by
  have:(r:Int)<T60:=er▸r1
  have e:T60=((10 ^ 120:Nat):Int):=by decide +kernel
  rw[e] at this;exact R8.mp this
 obtain⟨c',ec,lc⟩:∃ c':Nat,(c:Int)*T60+r=(c':Int)/\c'<10 ^ (120*(i+1)):=by
  refine⟨c*10 ^ 120+r,?_,?_⟩
  ·have e:T60=((10 ^ 120:Nat):Int):=by decide +kernel
   rw[e,Int.natCast_add,Int.natCast_mul]
  ·rw[show 120*(i+1)=120*i+120 by lia,Nat.pow_add]
   have:(c+1)*10 ^ 120<=10 ^ (120*i)*10 ^ 120:=Nat.mul_le_mul_right _ hc
   have e2:(c+1)*10 ^ 120=c*10 ^ 120+10 ^ 120:=Nat.succ_mul _ _;lia
 refine⟨c',lc,?_⟩
 have pw:(ag aW (ag bS (ae (.int 10)) (ae (.int 60))) (ag bS (ae (.int 10)) (ae (.int 60)))) [some (.fl (ns.map AV.int)),some (.int k),some (.int c),some (.int ((k:Int)+i*8)),o] h=.ok (.int T60) h:=by simp
 have md:bB (.int s) (.int T60) h=.ok (.int r) h:=by simp only[bB];rw[Nn 'd',er]
 clear p1 m1 r0 r1 er rl hc lc hi;unfold mS
 generalize T60=t60,ag aW (ag bS (ae (.int 10)) (ae (.int 60))) (ag bS (ae (.int 10)) (ae (.int 60)))=PW at *;simp[pw,mu,ix,md,ec,-aW,-ao,-bB]
def Ku(en0:Option AV)(ns:List Int)(k c f j:Int)(h:AH):∃ f',mT [some (.fl (ns.map AV.int)),some (.int k),some (.int c),some (.int j),some (.int f)] h=.nx [some (.fl (ns.map AV.int)),some (.int k),some (.int c),some (.int j),some (.int f')] h:=by
 obtain⟨m,hm⟩:=Km (c+1009*k+ns.length) j h;refine⟨f*2147483647+m,?_⟩
 have m1:aW (.int f) (.int 2147483647) h=.ok (.int (f*2147483647)) h:=zL 'd';have m2:aW (.int 1009) (.int k) h=.ok (.int (1009*k)) h:=zK 'd';simp[mT,hm,m1,m2,-aW]
def Kv(ns:List Int)(hl:ns.length<=63)(k:Nat)(hk:k<=10)(h:AH):∃ N:Int,lC [.fl (ns.map AV.int),.int k] h=.ok (.ref h.length) (h++[.lst [.int N]]):=by
 obtain⟨M,eM⟩:∃ M:Nat,M=(if (k:Int)<(ns.length:Int) then((ns.length:Int)-k-1) / 8+1 else 0).toNat:=⟨_,rfl⟩
 have hM:M<=8/\∀ i,i<M->k+i*8<ns.length:=by
  rw[eM];split
  ·refine⟨by(clear eM hk;lia),λi hi=>by(clear eM hk hl;omega)⟩
  ·refine⟨by lia,λi hi=>by simp at hi⟩
 obtain⟨e1,h1,r1,r2⟩:=lM (w:=none) (all:=(List.range M).map (λm:Nat=>AV.int ((k:Int)+m*8))) (t:=.nm 3) (b:=mS) (xs:=(List.range M).map (λm:Nat=>AV.int ((k:Int)+m*8))) (en:=[some (.fl (ns.map AV.int)),some (.int k),some (.int 0),none,none]) (h:=h)
  (λi en h'=>h'=h/\∃ (c:Nat) (o:Option AV),c<10 ^ (120*i)/\en=[some (.fl (ns.map AV.int)),some (.int k),some (.int c),o,none]) ⟨rfl,0,none,by decide,rfl⟩ (λ_ _ _ _=>rfl) (by
   rintro j x en h' hx ⟨rfl,c,o,hc,rfl⟩
   rw[NY] at hx;obtain⟨m,em,rfl⟩:=NG.mp hx
   have hj:j<M:=by
    have:=(Ni.mp em).1;simpa using this
   rw[Qb hj] at em
   cases em
   obtain⟨c',l',e⟩:=Kt ns k j c none h' (by have:=hM.1;(clear this hx hc eM hk hl;lia)) hc (hM.2 j hj)
   show thn (mS [some (.fl (ns.map AV.int)),some (.int k),some (.int c),some (.int ((k:Int)+j*8)),none] h') _
   rw[e];exact⟨rfl,c',_,l',rfl⟩)
 obtain⟨rfl,c,o,hc,rfl⟩:=r2;have z1:(k:Int).natAbs<1099511627776:=by lia
 have z2:((ns.length:Nat):Int).natAbs<1099511627776:=by lia
 have it3:jz (aa 1) (ar aB (ah (aa 0) af)) (ae (.int 8)) [some (.fl (ns.map AV.int)),some (.int k),some (.int 0),none,none] h1=.ok ((List.range M).map (λm:Nat=>AV.int ((k:Int)+m*8)),none) h1:=by
  simp only[jz,aa,ar,ah,af,ae,Out.bind,aB,List.getElem?_cons_zero,QN,u9]
  rw[Nn ⟨z1,z2,by decide,by decide⟩,<- eM]
 have f1:=(lN (t:=.nm 3) (b:=mS) it3).trans r1;clear r1 it3;by_cases hb:(1000000000000000000:Int)<=c
 ·exact⟨c,by simp[lC,f1,hb,-bT]⟩
 ·have cm:=Jo (js:=[]) (en:=[some (.fl (ns.map AV.int)),some (.int k),some (.int c),o,none]) (w:=none) (all:=ns.map AV.int) (e:=ag bB (aa 0) (ag bS (ae (.int 10)) (ae (.int 18)))) (g:=AV.int) (f:=λi=>AV.int (i % 1000000000000000000)) (h:=h1) rfl ns [] (by intro i _;simp) (by
    simp only[List.length_nil];exact Np (show 0+ns.length<=63 by lia) 'd')
  have im:(ns.map λi=>AV.int (i % 1000000000000000000))=(ns.map λi=>i % 1000000000000000000).map AV.int:=by simp
  obtain⟨S,eS⟩:∃ S:Int,S=(ns.map λi=>i % 1000000000000000000).sum:=⟨_,rfl⟩
  have sm:gJ [.fl (ns.map λi=>AV.int (i % 1000000000000000000))] h1=.ok (.int S) h1:=by
   rw[im,eS];simp only[gJ,Ko]
  obtain⟨e2,h2,s1,s2⟩:=lM (w:=none) (all:=cP 0 16) (t:=.nm 3) (b:=mT) (xs:=cP 0 16) (en:=[some (.fl (ns.map AV.int)),some (.int k),some (.int (c+S)),o,some (.int 0)]) (h:=h1)
   (λi en h'=>h'=h1/\∃ (f:Int) (o:Option AV),en=[some (.fl (ns.map AV.int)),some (.int k),some (.int (c+S)),o,some (.int f)]) ⟨rfl,0,o,rfl⟩ (λ_ _ _ _=>rfl) (by
    rintro j x en h' hx ⟨rfl,f,o,rfl⟩
    rw[qY] at hx;by_cases q:j<16
    ·rw[Nn q] at hx
     cases hx
     obtain⟨f',e⟩:=Ku none ns k (c+S) f (0+(j:Int)) h';show thn (mT [some (.fl (ns.map AV.int)),some (.int k),some (.int (c+S)),some (.int (0+(j:Int))),some (.int f)] h') _
     rw[e];exact⟨rfl,f',_,rfl⟩
    ·rw[Nr q] at hx;cases hx)
  obtain⟨rfl,f,o',rfl⟩:=s2;have f2:=(lN (t:=.nm 3) (b:=mT) (zJ (a:=ae (.int 16)) (en:=[some (.fl (ns.map AV.int)),some (.int k),some (.int (c+S)),o,some (.int 0)]) (h:=h2) (n:=16) rfl 'd')).trans s1;refine⟨f,?_⟩
  simp at cm
  simp[lC,f1,hb,cm,sm,f2,-bT,-gJ]
def Kw{st:Nat}{n:Int}(m:Nat)(e:h[st]?=some (.lst [.int n]))(hm:0<m)(hm2:m<=10 ^ 50):∃ v:Nat,v<m/\aX [.ref st,.int m] h=.ok (.int v) (h.set st (.lst [.int (n / m)])):=by
 have a0:atI [AV.int n] 0=some (.int n):=rfl;have i0:fW 1 0=some 0:=rfl;have hm0:(0:Int)<m:=R8.mpr hm;have hm3:m<1606938044258990275541962092341162602522202993782792835301376:=Nz hm2 'd';refine⟨(n % m).toNat,?_,?_⟩
 ·have:=Qn n hm0;have:=P6 n (show (m:Int)≠0 by lia);lia
 ·rw[RO (P6 n (show (m:Int)≠0 by lia))]
  simp[aX,e,a0,hm0,hm,hm3,i0]
variable{N:Int}
def pf(m:Nat)(e:hh[L]?=some (.lst [.int N]))(hm:0<m)(hm2:m<=10 ^ 50):∃ (v:Nat) (N':Int),v<m/\aX [.ref L,.int m] hh=.ok (.int v) (hh.set L (.lst [.int N'])):=by
 obtain⟨v,hv,e1⟩:=Kw m e hm hm2;exact⟨v,N / m,hv,e1⟩
def Kz(hy:bJ y=true)(hc:m9 c=true):bJ (y++⟨#[c]⟩)=true/\(y++(⟨#[c]⟩:Str)).length=y.length+1:=by
 refine⟨?_,by rw[dU];rfl⟩
 rw[oM,hy];simp[bJ,hc]
def gX:List Str:=["ab", "aaab", "a\n", "ab \n", "abcdefghijklmnopqrstuvwxyz 0123456789.,~\n"]
def ph:∀ x∈gX,bJ x=true/\1<=x.length/\x.length<=200/\35∉x.cps.toList:=by decide +kernel
def KA(v:Nat)(hv:v<5):∃ z:Str,(∀ h,ao (.fl [.str "ab",.str "aaab",.str "a\n",.str "ab \n",.str "abcdefghijklmnopqrstuvwxyz 0123456789.,~\n"]) (.int (v:Int)) h=.ok (.str z) h)/\bJ z=true/\1<=z.length/\z.length<=200/\35∉z.cps.toList:=by
 have:v=0\/v=1\/v=2\/v=3\/v=4:=by lia
 rcases this with rfl|rfl|rfl|rfl|rfl
 ·exact⟨_,λ_=>rfl,ph _ (by simp[gX])⟩
 ·exact⟨_,λ_=>rfl,ph _ (by simp[gX])⟩
 ·exact⟨_,λ_=>rfl,ph _ (by simp[gX])⟩
 ·exact⟨_,λ_=>rfl,ph _ (by simp[gX])⟩
 ·exact⟨_,λ_=>rfl,ph _ (by simp[gX])⟩
def KC{v:Nat}(hv:v<x.length)(hx:bJ x=true)(h:AH):∃ c,c∈x.cps.toList/\m9 c=true/\ao (.str x) (.int v) h=.ok (.str ⟨#[c]⟩) h:=by
 have hv':v<x.cps.toList.length:=by rw[<- cy];exact hv
 refine⟨x.cps.toList[v],OZ hv',Oa.mp hx _ (OZ hv'),?_⟩
 have e:x.cps.toList[v]?=some x.cps.toList[v]:=Nx hv';simp only[ao,mq e]
def Aw(most:Nat)(hm:most<=1000)(e:hh[L]?=some (.lst [.int N])):∃ (y:Str) (N':Int),i6 [.ref L,.int most] hh=.ok (.str y) (hh.set L (.lst [.int N']))/\bJ y=true/\y.length<=most/\35∉y.cps.toList:=by
 have Ll:=bX e;obtain⟨v,N1,hv,t1⟩:=pf 5 e 'd' 'd';have t1':aX [.ref L,.int 5] hh=.ok (.int v) (hh.set L (.lst [.int N1])):=t1;obtain⟨z,ez,pz,z1,z2,z3⟩:=KA v hv;have e1:(hh.set L (.lst [.int N1]))[L]?=some (.lst [.int N1]):=Nv Ll;obtain⟨k,N2,hk,t2⟩:=pf (most+1) e1 (Nat.succ_pos _) (Np (Nat.succ_le_succ hm) 'd');rw[List.set_set] at t2;have t2':aX [.ref L,.int ((most:Int)+1)] (hh.set L (.lst [.int N1]))=.ok (.int k) (hh.set L (.lst [.int N2])):=by
  have:=t2;rw[Int.natCast_succ] at this;exact this
 obtain⟨e',h',r1,y,N3,o4,r2,r3,r4,r5,b3⟩:=lM (w:=none) (all:=cP 0 k) (t:=.nm 4) (b:=lI) (xs:=cP 0 k) (en:=[some (.ref L),some (.int most),some (.str z),some (.str ""),none]) (h:=hh.set L (.lst [.int N2]))
  (λj en h'=>∃ (y:Str) (N':Int) (o4:Option AV),en=[some (.ref L),some (.int most),some (.str z),some (.str y),o4]/\h'=hh.set L (.lst [.int N'])/\bJ y=true/\y.length=j/\35∉y.cps.toList) ⟨"",N2,none,rfl,rfl,rfl,rfl,by decide⟩ (λ_ _ _ _=>rfl) (by
   rintro j u en h' hu ⟨y,N',o4,rfl,rfl,py,ly,bb⟩
   have jk:j<k:=by have:=(Ni.mp hu).1;rwa[ke] at this
   have e3:(hh.set L (.lst [.int N']))[L]?=some (.lst [.int N']):=Nv Ll;obtain⟨t,N4,ht,et⟩:=pf z.length e3 ⋯ (Np z2 'd');rw[List.set_set] at et;obtain⟨c,mc,pc,ec⟩:=KC ht pz (hh.set L (.lst [.int N4]))
   have ad:ay (.str y) (.str ⟨#[c]⟩) (hh.set L (.lst [.int N4]))=.ok (.str (y++⟨#[c]⟩)) (hh.set L (.lst [.int N4])):=by
    have:y.length+(⟨#[c]⟩:Str).length<=sizeLine:=Np (m:=1001) (by show y.length+1<=_;lia) 'd'
    simp only[ay,this,O5]
   have es:lI [some (.ref L),some (.int most),some (.str z),some (.str y),some u] (hh.set L (.lst [.int N']))=.nx [some (.ref L),some (.int most),some (.str z),some (.str (y++⟨#[c]⟩)),some u] (hh.set L (.lst [.int N4])):=by
    generalize hh.set L (.lst [.int N'])=h1,hh.set L (.lst [.int N4])=h2 at *;simp[lI,et,ec,ad,-ao,-ay]
   show thn (lI [some (.ref L),some (.int most),some (.str z),some (.str y),some u] (hh.set L (.lst [.int N']))) _
   rw[es];obtain⟨q1,q2⟩:=Kz py pc
   exact⟨_,N4,_,rfl,rfl,q1,by rw[q2,ly],λz=>by
    rw[cX,Oe] at z;rcases z with z|z
    ·exact bb z
    ·have:35=c:=by simpa using z
     exact z3 (this▸mc)⟩)
 rw[ke] at r5;have f1:=(lN (t:=.nm 4) (b:=lI) (zJ (a:=ar aX (ah (aa 0) (ah (ag ay (aa 1) (ae (.int 1))) af))) (en:=[some (.ref L),some (.int most),some (.str z),some (.str ""),none]) (h:=hh.set L (.lst [.int N1])) (n:=k) (by simp[t2']) ⋯)).trans r1
 refine⟨y,N3,?_,r4,by lia,b3⟩
 rw[<- r3];subst r2;unfold i6
 generalize hh.set L (.lst [.int N1])=h1,bT (kT (ar aX (ah (aa 0) (ah (ag ay (aa 1) (ae (.int 1))) af)))) (.nm 4) lI=F1 at *;simp[t1',ez,f1,-ay,-ao]
def lS(c:Nat):Bool:=decide (97<=c) && decide (c<=122)
def KG:(Str.ofString "a")=⟨#[97]⟩:=by decide +kernel
def KH:(Str.ofString "z")=⟨#[122]⟩:=by decide +kernel
def KI(c:Nat)(en:En)(h:AH):eQ aV aV (ae (.str "a")) (aa 0) (ae (.str "z")) (some (.str ⟨#[c]⟩)::en) h=.ok (.bl (lS c)) h:=by
 simp[KG,KH,zM,lS]
 by_cases h2:c<97
 ·have:¬ 97<=c:=by lia
  simp[h2,this]
 ·have h3:97<=c:=by lia
  by_cases h4:c<=122
  ·have:¬ 122<c:=by lia
   simp[h2,h3,h4,this]
  ·have:122<c:=by lia
   simp[h2,h3,h4,this]
def bp(x:Str):Bool:=decide (1<=x.length) && decide (x.length<=8) && x.cps.toList.all lS
def wa(x:Str)(h:AH)(hl:x.length<=sizeLine):fR [.str x] h=.ok (.bl (bp x)) h:=by
 have e:=uY (js:=[]) (en:=[some (.str x)]) (all:=x.cps.toList.map λc=>AV.str ⟨#[c]⟩) (e:=eQ aV aV (ae (.str "a")) (aa 0) (ae (.str "z"))) (g:=λc=>AV.str ⟨#[c]⟩) (f:=λc=>AV.bl (lS c)) (h:=h) x.cps.toList [] (λc _=>KI c _ h) (by simp;exact hl)
 simp only[P3] at e
 have al:ar gC (ah (e7 [] (d9 (aa 0)) bI (eQ aV aV (ae (.str "a")) (aa 0) (ae (.str "z")))) af) [some (.str x)] h=.ok (.bl (x.cps.toList.all lS)) h:=by
  simp[-eQ]
  rw[e];simp[uZ]
 unfold fR;generalize ar gC (ah (e7 [] (d9 (aa 0)) bI (eQ aV aV (ae (.str "a")) (aa 0) (ae (.str "z")))) af)=AL at al ⊢
 generalize hb:x.cps.toList.all lS=b at al
 by_cases h1:1<=x.length
 ·have i1:(1:Int)<=x.length:=by lia
  by_cases h2:x.length<=8
  ·have i2:(x.length:Int)<=8:=by lia
   simp[i1,i2,h1,h2,al,bp,hb]
  ·have i2:¬ (x.length:Int)<=8:=by lia
   simp[i1,i2,h1,h2,bp,hb]
 ·have i1:¬ (1:Int)<=x.length:=by lia
  simp[i1,h1,bp,hb]
def KJ(en:En)(h:AH):mw 1 4 mR af en h=.ok (.ref h.length) (h++(.ins 1 [some (.ref (h.length+1)),some (.ref (h.length+10)),some (.ref (h.length+11)),some (.ref (h.length+12))]::(rk (h.length+1)++[.dct false [],.lst [],.lst []]))):=by
 simp[mR,uT,rk,List.getElem?_append,JF]
abbrev De:=Str×Option Nat×Option Nat
def kG(g:Nat×Str->AV)(e:Str×Nat×Str):AV×AV:=(.str e.1,g e.2)
abbrev gN(v:Nat×Str):AV:=.int v.1
abbrev gS(v:Nat×Str):AV:=.str v.2
def oN:Option Nat->AV
 |none=>.non
 |some n=>.int n
def aY(d:De):AV:=.tup [.str d.1,oN d.2.1,oN d.2.2]
abbrev ZH:=List (Str×Nat×Str)
structure Ho(h:AH)(q p t:Nat)(ps:List Pc)(kx:ZH)(ds bs:List De):Prop where
 ob:h[q]?=some (.ins 1 [some (.ref p),some (.ref t),some (.ref (t+1)),some (.ref (t+2))])
 sh:ShelfAt h p ps
 gd:Good ps
 tx:h[t]?=some (.dct false (kx.map (kG gN)))
 de:h[t+1]?=some (.lst (ds.map aY))
 ba:h[t+2]?=some (.lst (bs.map aY))
 tz:∀ e∈kx,TxZ ps e.2.1 e.2.2/\bp e.1=true
 lo:q<p/\p+8<t
 ct:kx.length<=50
 nd:(kx.map (·.1)).Nodup
def Ho.app{h:AH}{q p t:Nat}{ps:List Pc}{kx:ZH}{ds bs:List De}(H:Ho h q p t ps kx ds bs)(r:AH):Ho (h++r) q p t ps kx ds bs:=by
 have l:=bX H.ba;have lo:=H.lo;have k:∀ i,i<h.length->(h++r)[i]?=h[i]?:=λi hi=>Nt hi
 exact⟨(k _ ⋯).trans H.ob,H.sh.app r,H.gd,(k _ ⋯).trans H.tx,(k _ ⋯).trans H.de,(k _ l).trans H.ba,H.tz,lo,H.ct,H.nd⟩
def lk(kx:ZH)(x:Str):Option (Nat×Str):=(kx.find? λe=>decide (e.1=x)).map (·.2)
def gs(e:Str×Nat×Str)(r:ZH)(x:Str):lk (e::r) x=if e.1=x then some e.2 else lk r x:=by
 unfold lk;rw[Oq];by_cases q:e.1=x
 ·simp[q]
 ·simp[q]
theorem cC{x:Str}{v:Nat×Str}:∀ {kx:ZH},lk kx x=some v->(x,v)∈kx
 |[],e=>nomatch e
 |e::r,h=>by
  rw[gs] at h;by_cases q:e.1=x
  ·rw[Nn q] at h
   cases h
   subst q;exact Ol ..
  ·rw[Nr q] at h
   exact NZ _ (cC h)
theorem i7(g:Nat×Str->AV)(x:Str):∀ kx:ZH,aQ (kx.map (kG g)) (.str x)=(lk kx x).map g
 |[]=>rfl
 |e::r=>by
  have ih:=i7 g x r;unfold aQ at ih ⊢
  rw[NW,gs,Oq];by_cases q:e.1=x
  ·have:decide ((kG g e).1=AV.str x)=true:=NO (by rw[<- q];rfl)
   rw[this,Nn q];rfl
  ·have:decide ((kG g e).1=AV.str x)=false:=NJ (λz=>q (by injection z))
   rw[this,Nr q];exact ih
def put(kx:ZH)(x:Str)(v:Nat×Str):ZH:=if (lk kx x).isSome=true then kx.map λe=>if e.1=x then(x,v) else e else kx++[(x,v)]
def rM(g:Nat×Str->AV)(kx:ZH)(x:Str)(v:Nat×Str):eu (kx.map (kG g)) (.str x) (g v)=(put kx x v).map (kG g):=by
 unfold eu put;rw[uw,i7,Pj];by_cases q:(lk kx x).isSome=true
 ·rw[Nn q,Nn q,Qd,Qd]
  refine O6 λe _=>?_
  show (if (kG g e).1=.str x then((kG g e).1,g v) else kG g e)=kG g (if e.1=x then(x,v) else e)
  by_cases z:e.1=x
  ·rw[Nn z,Nn (by rw[<- z];rfl)]
   show (AV.str e.1,g v)=_
   rw[z];rfl
  ·rw[Nr z,Nr (λw=>z (by injection w))]
 ·rw[Nr q,Nr q,Og]
  rfl
def kg(kx:ZH)(x:Str):ZH:=kx.filter λe=>decide (¬ e.1=x)
def Ax(g:Nat×Str->AV)(kx:ZH)(x:Str):ox (kx.map (kG g)) (.str x)=(kg kx x).map (kG g):=by
 unfold ox kg;rw[List.filter_map];congr 1
 refine List.filter_congr λe _=>?_
 show decide (¬ AV.str e.1=AV.str x)=decide (¬ e.1=x)
 exact decide_eq_decide.mpr ⟨λh z=>h (by rw[z]),λh z=>h (by injection z)⟩
theorem Ay(x y:Str):∀ kx:ZH,lk (kg kx x) y=if x=y then none else lk kx y
 |[]=>by simp[kg,lk]
 |e::r=>by
  have ih:=Ay x y r;unfold kg at ih ⊢
  rw[OY];by_cases q:e.1=x
  ·rw[Nr (by simp[q]),ih,gs]
   by_cases z:x=y
   ·rw[Nn z,Nn z]
   ·rw[Nr z,Nr z,Nr (by rw[q];exact z)]
  ·rw[Nn (by simp[q]),gs,gs,ih]
   by_cases w:e.1=y
   ·rw[Nn w,Nn w,Nr (by rw[<- w];exactλz=>q z.symm)]
   ·rw[Nr w,Nr w]
def upd(kx:ZH)(x:Str):Option (Nat×Str)->ZH
 |some v=>put kx x v
 |none=>kg kx x
def KM(kx:ZH)(x:Str)(v:Nat×Str):(put kx x v).length<=kx.length+1:=by
 unfold put;split
 ·rw[Nw];lia
 ·rw[NV];simp
variable{kx:ZH}
def KN{v:Nat×Str}{e:Str×Nat×Str}(h:e∈put kx x v):e=(x,v)\/e∈kx:=by
 unfold put at h;split at h
 ·obtain⟨e',h',rfl⟩:=Pp.mp h
  by_cases z:e'.1=x
  ·rw[Nn z];exact .inl rfl
  ·rw[Nr z];exact .inr h'
 ·rcases Oe.mp h with h|h
  ·exact .inr h
  ·exact .inl (Pe.mp h)
theorem Az(x y:Str)(v:Nat×Str):∀ kx:ZH,lk (kx.map λe=>if e.1=x then(x,v) else e) y=if x=y then(lk kx x).map λ_=>v else lk kx y
 |[]=>by simp[lk]
 |e::r=>by
  rw[NW,gs,Az x y v r,gs,gs];by_cases z:e.1=x
  ·rw[Nn z,Nn z]
   by_cases w:x=y
   ·rw[Nn w];simp[w]
   ·rw[Nr w]
    simp[w,z]
  ·rw[Nr z,Nr z]
   by_cases w:x=y
   ·have:¬ e.1=y:=w▸z
    simp[w,this]
   ·simp[w]
theorem AA(x y:Str)(v:Nat×Str):∀ kx:ZH,lk (kx++[(x,v)]) y=(lk kx y).or (if x=y then some v else none)
 |[]=>by rw[P3,gs];rfl
 |e::r=>by
  rw[List.cons_append,gs,gs,AA x y v r];by_cases z:e.1=y
  ·rw[Nn z,Nn z];rfl
  ·rw[Nr z,Nr z]
def KP(kx:ZH)(x y:Str)(v:Nat×Str):lk (put kx x v) y=if x=y then some v else lk kx y:=by
 unfold put
 cases q:lk kx x with
 |some w =>
  rw[Nn (by rfl),Az,q];rfl
 |none =>
  rw[Nr 's',AA];by_cases w:x=y
  ·subst w;rw[q,Nn rfl];rfl
  ·rw[Nr w,Nr w,Option.or_none]
def nq(kx:ZH)(x y:Str)(o:Option (Nat×Str)):lk (upd kx x o) y=if x=y then o else lk kx y:=by
 cases o with
 |some v=>exact KP kx x y v
 |none=>exact Ay x y kx
theorem zbR{x:Str}:∀ {kx:ZH},lk kx x=none ↔ x∉kx.map (·.1)
 |[]=>by simp[lk]
 |e::r=>by
  rw[gs,NW,ND];by_cases q:e.1=x
  ·simp[q]
  ·rw[Nr q,zbR]
   simp only[not_or]
   exact⟨λh=>⟨λz=>q z.symm,h⟩,λh=>h.2⟩
def rN(h:(kx.map (·.1)).Nodup)(x:Str)(o:Option (Nat×Str)):((upd kx x o).map (·.1)).Nodup:=by
 cases o with
 |some v =>
  show ((put kx x v).map (·.1)).Nodup
  unfold put
  cases q:lk kx x with
  |some w =>
   rw[Nn (by rfl),Qd];have:((λe:Str×Nat×Str=>e.1) ∘ λe=>if e.1=x then(x,v) else e)=λe=>e.1:=by
    funext e
    show (if e.1=x then(x,v) else e).1=e.1
    split
    ·rename_i z;exact z.symm
    ·rfl
   rw[this];exact h
  |none =>
   rw[Nr 's',Og,PJ];refine⟨h,by simp,λa ha b hb=>?_⟩
   simp at hb
   subst hb;exactλz=>zbR.mp q (z▸ha)
 |none=>exact h.sublist (List.Sublist.map _ List.filter_sublist)
variable{o:Option (Nat×Str)}
def rO{e:Str×Nat×Str}(h:e∈upd kx x o):(∃ v,o=some v/\e=(x,v))\/e∈kx:=by
 cases o with
 |some v=>exact(KN h).imp (λz=>⟨v,rfl,z⟩) id
 |none=>exact .inr (Q8.mp h).1
def rP(kx:ZH)(x:Str)(o:Option (Nat×Str)):(upd kx x o).length<=kx.length+1:=by
 cases o with
 |some v=>exact KM kx x v
 |none=>exact Pk (PY _ _)
structure Fh(p t:Nat)(h h':AH):Prop where
 fr:∀ i,(i<p\/p+8<i)->i≠t->i≠t+1->i≠t+2->h'[i]?=h[i]?
 hl:h'.length=h.length
def Fh.trans{p t:Nat}{h h' h'':AH}(a:Fh p t h h')(b:Fh p t h' h''):Fh p t h h'':=(⟨λi h1 h2 h3 h4=>(b.fr i h1 h2 h3 h4).trans (a.fr i h1 h2 h3 h4),b.hl.trans a.hl⟩)
def Fh.dd{t:Nat}{k:Nat}(d:Dd p h h' ps ps' k):Fh p t h h':=(⟨λi h1 _ _ _=>d.fr i ⋯,d.hl⟩)
section
variable{h:AH}{q p t:Nat}{ps:List Pc}{kx:ZH}{ds bs:List De}
def Ho.dd(H:Ho h q p t ps kx ds bs){k:Nat}(d:Dd p h h' ps ps' k):Ho h' q p t ps' kx ds bs:=by
 have lo:=H.lo;exact⟨(d.fr q ⋯).trans H.ob,d.sh,d.gd,(d.fr t ⋯).trans H.tx,(d.fr (t+1) ⋯).trans H.de,(d.fr (t+2) ⋯).trans H.ba,λe he=>⟨(H.tz e he).1.pre d.pre,(H.tz e he).2⟩,lo,H.ct,H.nd⟩
def wb(h:bp x=true):x.length<=8:=by
 unfold bp at h;simp only[N7,Oz] at h
 exact h.1.2
def AB(hx:bp x=true)(hh:AH):fR [.str x] hh=.ok (.bl true) hh:=by
 rw[wa x hh (Np (wb hx) 'd'),hx]
def fJ(H:Ho h q p t ps kx ds bs){v:Nat×Str}(l:lk kx x=some v):bA [.ref q,.str x] h=.ok (.int v.1) h:=by
 have nm:=AB (H.tz _ (cC l)).2 h;have vk:aQ (kx.map (kG gN)) (.str x)=some (.int v.1):=by rw[i7,l];rfl
 have ni:cU (.str x) (.ref t) h=.ok (.bl false) h:=by
  simp only[cU,jZ,H.tx,vk,dI,keyOf?,Option.isSome];rfl
 have ix:ao (.ref t) (.str x) h=.ok (.int v.1) h:=by
  have k1:dI false (.str x)=true:=rfl;simp only[ao,H.tx,k1,vk];rfl
 simp[bA,H.ob,nm,ni,ix,-cU,-ao]
def AC(ob:hh[q]?=some (.ins 1 [some (.ref p),some (.ref t),some (.ref (t+1)),some (.ref (t+2))]))(tx:hh[t]?=some (.dct false (kx.map (kG gN))))(ct:kx.length<=60)(ho:o=none->(lk kx x).isSome=true) :
  i4 [.ref q,.str x,oN (o.map (·.1))] hh=.ok .non (hh.set t (.dct false ((upd kx x o).map (kG gN)))):=by
 have k1:dI false (.str x)=true:=rfl
 cases o with
 |some v =>
  have sz:(kx.map (kG gN)).length<sizeLine:=by rw[Nw];exact Nz ct 'd'
  have st:fN (Sm.sFld 1 1 (aa 0)) (aa 1) (aa 2) [some (.ref q),some (.str x),some (.int v.1)] hh=.nx [some (.ref q),some (.str x),some (.int v.1)] (hh.set t (.dct false ((upd kx x (some v)).map (kG gN)))):=by
   have e:Sm.sFld 1 1 (aa 0) [some (.ref q),some (.str x),some (.int v.1)] hh=.ok (.ref t) hh:=by simp[ob]
   have e1:aa 1 [some (.ref q),some (.str x),some (.int v.1)] hh=.ok (.str x) hh:=rfl;have e2:aa 2 [some (.ref q),some (.str x),some (.int v.1)] hh=.ok (.int v.1) hh:=rfl;simp only[fN,e,e1,e2,Out.go,tx]
   rw[Nn ⟨k1,sz⟩,rM gN kx x v];rfl
  show i4 [.ref q,.str x,.int v.1] hh=_
  unfold i4;generalize fN (Sm.sFld 1 1 (aa 0)) (aa 1) (aa 2)=SX at *;simp[st]
 |none =>
  obtain⟨w,ew⟩:=NP.mp (ho rfl);have st:iY (Sm.sFld 1 1 (aa 0)) (aa 1) [some (.ref q),some (.str x),some .non] hh=.ok (.int w.1) (hh.set t (.dct false ((upd kx x none).map (kG gN)))):=by
   have e:Sm.sFld 1 1 (aa 0) [some (.ref q),some (.str x),some .non] hh=.ok (.ref t) hh:=by simp[ob]
   have e1:aa 1 [some (.ref q),some (.str x),some .non] hh=.ok (.str x) hh:=rfl;simp only[iY,e,e1,Out.bind,tx,k1,O5,i7,ew,Option.map]
   rw[Ax];rfl
  show i4 [.ref q,.str x,.non] hh=_
  unfold i4;generalize iY (Sm.sFld 1 1 (aa 0)) (aa 1)=SX at *;simp[st]
def jP(H:Ho h q p t ps kx ds bs)(hx:bp x=true)(T:∀ v,o=some v->TxZ ps v.1 v.2)(ct:(upd kx x o).length<=50)(ld:ds.length<=1000)(hs:o=none->(lk kx x).isSome=true) :
  ∃ h',bP [.ref q,.str x,oN (o.map (·.1))] h=.ok .non h'/\Ho h' q p t ps (upd kx x o) (ds++[(x,(lk kx x).map (·.1),o.map (·.1))]) []/\Fh p t h h':=by
 have ctk:=H.ct;have lo:=H.lo;have lt:=bX H.tx;have ld1:=bX H.de;have lb:=bX H.ba;have k1:dI false (.str x)=true:=rfl;have g1:ow (Sm.sFld 1 1 (aa 0)) (aa 1) [some (.ref q),some (.str x),some (oN (o.map (·.1)))] h=.ok (oN ((lk kx x).map (·.1))) h:=by
  have e:Sm.sFld 1 1 (aa 0) [some (.ref q),some (.str x),some (oN (o.map (·.1)))] h=.ok (.ref t) h:=by simp[H.ob]
  unfold ow;rw[e];simp only[Out.bind,H.tx,aa]
  show fk t (.str x) .non h=_
  simp only[fk,H.tx,k1,O5,i7]
  cases lk kx x<;>rfl
 have sz:(ds.map aY).length<sizeLine:=by rw[Nw];exact Nz ld 'd'
 have ap:bL (.ref (t+1)) [aY (x,(lk kx x).map (·.1),o.map (·.1))] h=.ok .non (h.set (t+1) (.lst ((ds++[(x,(lk kx x).map (·.1),o.map (·.1))]).map aY))):=by
  simp only[bL,H.de]
  rw[Nn sz];simp
 have il:bh (.ref (t+1)) h=true:=by simp only[bh,eX,H.de];rfl
 have f2:Sm.sFld 1 2 (aa 0) [some (.ref q),some (.str x),some (oN (o.map (·.1)))] h=.ok (.ref (t+1)) h:=by simp[H.ob]
 have ob1:(h.set (t+1) (.lst ((ds++[(x,(lk kx x).map (·.1),o.map (·.1))]).map aY)))[q]?=some (.ins 1 [some (.ref p),some (.ref t),some (.ref (t+1)),some (.ref (t+2))]):=by rw[Nl ⋯];exact H.ob
 have ba1:(h.set (t+1) (.lst ((ds++[(x,(lk kx x).map (·.1),o.map (·.1))]).map aY)))[t+2]?=some (.lst (bs.map aY)):=by rw[Nl ⋯];exact H.ba
 have tx1:(h.set (t+1) (.lst ((ds++[(x,(lk kx x).map (·.1),o.map (·.1))]).map aY)))[t]?=some (.dct false (kx.map (kG gN))):=by rw[Nl ⋯];exact H.tx
 have de1:(h.set (t+1) (.lst ((ds++[(x,(lk kx x).map (·.1),o.map (·.1))]).map aY)))[t+1]?=some (.lst ((ds++[(x,(lk kx x).map (·.1),o.map (·.1))]).map aY)):=Nv ld1;have n1:(h.set (t+1) (.lst ((ds++[(x,(lk kx x).map (·.1),o.map (·.1))]).map aY))).length=h.length:=Of;have o1:∀ i,i≠t+1->(h.set (t+1) (.lst ((ds++[(x,(lk kx x).map (·.1),o.map (·.1))]).map aY)))[i]?=h[i]?:=λi hi=>Nl (Ne.symm hi)
 generalize hh1:h.set (t+1) (.lst ((ds++[(x,(lk kx x).map (·.1),o.map (·.1))]).map aY))=h1 at *;have cl:mL (.ref (t+2)) [] h1=.ok .non (h1.set (t+2) (.lst [])):=by simp only[mL,ba1]
 have il1:bh (.ref (t+2)) h1=true:=by simp only[bh,eX,ba1];rfl
 have f3:Sm.sFld 1 3 (aa 0) [some (.ref q),some (.str x),some (oN (o.map (·.1)))] h1=.ok (.ref (t+2)) h1:=by simp[ob1]
 have ob2:(h1.set (t+2) (.lst []))[q]?=some (.ins 1 [some (.ref p),some (.ref t),some (.ref (t+1)),some (.ref (t+2))]):=by rw[Nl ⋯];exact ob1
 have tx2:(h1.set (t+2) (.lst []))[t]?=some (.dct false (kx.map (kG gN))):=by rw[Nl ⋯];exact tx1
 have de2:(h1.set (t+2) (.lst []))[t+1]?=some (.lst ((ds++[(x,(lk kx x).map (·.1),o.map (·.1))]).map aY)):=by rw[Nl ⋯];exact de1
 have ba2:(h1.set (t+2) (.lst []))[t+2]?=some (.lst []):=Nv ⋯;have n2:(h1.set (t+2) (.lst [])).length=h.length:=by rw[Of];exact n1
 have o2:∀ i,i≠t+1->i≠t+2->(h1.set (t+2) (.lst []))[i]?=h[i]?:=λi a b=>(Nl (Ne.symm b)).trans (o1 i a)
 generalize hh2:h1.set (t+2) (.lst [])=h2 at *;have st:=AC (x:=x) (o:=o) ob2 tx2 ⋯ hs
 have o3:∀ i,i≠t->i≠t+1->i≠t+2->(h2.set t (.dct false ((upd kx x o).map (kG gN))))[i]?=h[i]?:=λi a b c=>(Nl (Ne.symm a)).trans (o2 i b c)
 refine⟨h2.set t (.dct false ((upd kx x o).map (kG gN))),?_,⟨(o3 q ⋯ ⋯ ⋯).trans H.ob,H.sh.keep λi a b=>o3 i ⋯ ⋯ ⋯,H.gd,Nv ⋯,?_,?_,λe he=>?_,lo,ct,rN H.nd x o⟩,⟨λi _ a b c=>o3 i a b c,by rw[Of];exact n2⟩⟩
 ·have ee:(AV.tup [.str x,oN ((lk kx x).map (·.1)),oN (o.map (·.1))])=aY (x,(lk kx x).map (·.1),o.map (·.1)):=rfl
  generalize oN (o.map (·.1))=ON,(lk kx x).map (·.1)=O,h2.set t (.dct false ((upd kx x o).map (kG gN)))=h3 at *;unfold bP
  generalize Sm.sFld 1 3 (aa 0)=G3,Sm.sFld 1 2 (aa 0)=G2,ow (Sm.sFld 1 1 (aa 0)) (aa 1)=G1 at *;simp[g1,f2,ee,il,ap,f3,il1,cl,ob2,st,-bh,-bL,-mL]
 ·rw[Nl ⋯];exact de2
 ·rw[Nl ⋯];exact ba2
 ·rcases rO he with⟨v,ev,rfl⟩|he
  ·exact⟨T v ev,hx⟩
  ·exact H.tz e he
end
def KQ{fs:List AV}(e:h[R]?=some (.lst fs))(hf:fs.length<=2000)(v:AV):bL (.ref R) [v] h=.ok .non (h.set R (.lst (fs++[v]))):=by
 have:fs.length<sizeLine:=Nz hf 'd'
 simp only[bL,e,this,O5]
def pj(e:a+b=c)(h:AH):ay (.int a) (.int b) h=.ok (.int c) h:=by
 have:(a:Int)+b=c:=by lia
 simp only[ay,this]
def KR(a b:Nat)(h:AH):dy (.int a) (.int b) h=.ok (.bl (decide (a<b))) h:=by
 have:decide ((a:Int)<b)=decide (a<b):=by apply decide_eq_decide.mpr;lia
 simp only[dy,this]
structure Fr(L:Nat)(h h':AH):Prop where
 fr:∀ i,i<h.length->i≠L->h'[i]?=h[i]?
 hl:h.length<=h'.length
 ro:∃ N:Int,h'[L]?=some (.lst [.int N])
def Fr.app(a:Fr L h h')(r:AH):Fr L h (h' ++ r):=by
 obtain⟨N,e⟩:=a.ro;exact⟨λi hi n=>by rw[Nt (NH hi a.hl)];exact a.fr i hi n,by rw[NV];have:=a.hl;lia,N,by rw[Nt (bX e)];exact e⟩
def Fr.trans{L:Nat}{h h' h'':AH}(a:Fr L h h')(b:Fr L h' h''):Fr L h h'' :=(
 ⟨λi hi n=>(b.fr i (NH hi a.hl) n).trans (a.fr i hi n),Np a.hl b.hl,b.ro⟩)
def Fr.set{L:Nat}{h h':AH}(a:Fr L h h')(N':Int):Fr L h (h'.set L (.lst [.int N'])):=by
 obtain⟨N,e⟩:=a.ro;exact⟨λi hi n=>by rw[Nl (Ne.symm n)];exact a.fr i hi n,by rw[Of];exact a.hl,N',Nv (bX e)⟩
def Fr.take(a:Fr L h h')(m:Nat)(hm:0<m)(hm2:m<=10 ^ 50):∃ (v:Nat) (N:Int),v<m/\aX [.ref L,.int m] h'=.ok (.int v) (h'.set L (.lst [.int N]))/\Fr L h (h'.set L (.lst [.int N])):=by
 obtain⟨N,e⟩:=a.ro;obtain⟨v,N',hv,t⟩:=pf m e hm hm2;exact⟨v,N',hv,t,a.set N'⟩
def wc(y:Str)(a:Nat):(bN y a).length=min a y.length:=by rw[cy,jO,Ot,<- cy]
def pq(x y:Str):(x++y).length=x.length+y.length:=by rw[cy,cX,NV,<- cy,<- cy]
def eT:OutS->Out AV
 |.nx _ h=>.ok .non h
 |.rt v h=>.ok v h
 |.ex c _ h=>.ex c h
 |_=>.bad
section
variable{P:OutS->Prop}{a b x y z:SS}{c:SB}{en e2:En}{h h1 h2 h3:AH}{v:AV}
def cJ(s:a en h=.nx e2 h2)(r:P (b e2 h2)):P (ai a b en h):=by
 have:ai a b en h=b e2 h2:=by simp only[ai,s]
 rw[this];exact r
def dG(s:c en h=.ok false h1)(r:P (b en h1)):P (ai (aG c z aH) b en h):=by
 have:ai (aG c z aH) b en h=b en h1:=by simp[s]
 rw[this];exact r
end
def nt{P:Out AV->Prop}{m:Nat}{b:SS}{args:List AV}(hn:args.length=n)(r:P (eT (b (args.map some++List.replicate (m-n) none) h))):P (aw n m b args h):=by
 have:aw n m b args h=eT (b (args.map some++List.replicate (m-n) none) h):=by
  simp only[aw]
  rw[Nn hn];generalize b (args.map some++List.replicate (m-n) none) h=o
  cases o<;>rfl
 rw[this];exact r
variable{en:En}{v:AV}
def gY{P:OutS->Prop}{a:SE}(s:ak a en h=.rt v h')(r:P (.rt v h')):P (ak a en h):=by rw[s];exact r
theorem AD(g:Nat×Str->AV):∀ kx:ZH,lq ((kx.map (kG g)).map (·.1))=some (kx.map (·.1))
 |[]=>rfl
 |e::r=>by
  show (lq ((r.map (kG g)).map (·.1))).map (e.1 :: ·)=_
  rw[AD g r];rfl
def KS(h:bp x=true):x.cps.all (· < 0x110000)=true:=by
 unfold bp at h;simp only[N7] at h
 have a:=h.2;rw[Oa] at a;rw[<- Array.all_toList,Oa];intro c hc
 have:=a c hc;unfold lS at this;simp only[N7,Oz] at this
 exact NO ⋯
theorem we{x:Str}:∀ {kx:ZH},x∈kx.map (·.1)->∃ v,lk kx x=some v
 |[],h=>nomatch h
 |e::r,h=>by
  rw[gs];by_cases z:e.1=x
  ·exact⟨e.2,Nn z⟩
  ·rw[Nr z]
   rcases ND.mp h with h|h
   ·exact absurd h.symm z
   ·exact we h
def KU{ky:ZH}(a:(kx.map (·.1)).Nodup)(b:(ky.map (·.1)).Nodup)(s:∀ x,lk kx x=lk ky x):(kx.map (·.1)).Perm (ky.map (·.1)):=by
 refine(List.perm_ext_iff_of_nodup a b).mpr λx=>?_
 have:=s x;by_cases q:x∈kx.map (·.1)
 ·obtain⟨v,e⟩:=we q
  have:¬ lk ky x=none:=by rw[<- s x,e];nofun
  exact⟨λ_=>Classical.not_not.mp λz=>this (zbR.mpr z),λ_=>q⟩
 ·have e:=zbR.mpr q
  rw[s x] at e;exact⟨λz=>absurd z q,λz=>absurd z (zbR.mp e)⟩
def wg{ky:ZH}(a:(kx.map (·.1)).Nodup)(b:(ky.map (·.1)).Nodup)(s:∀ x,lk kx x=lk ky x):kx.length=ky.length:=by
 have:=(KU a b s).length_eq;rwa[Nw,Nw] at this
section
variable{h:AH}{q p t:Nat}{ps:List Pc}{kx:ZH}{ds bs:List De}
def AE{g:Nat×Str->AV}(e:h[K]?=some (.dct false (kx.map (kG g))))(ct:kx.length<=50)(nm:∀ e∈kx,bp e.1=true):lA [.ref K] h=.ok (.fl ((iA (kx.map (·.1))).map AV.str)) h:=by
 have kt:mK (.ref K) h=some (kx.map (·.1)):=by
  unfold mK;dsimp only;rw[e];exact AD g kx
 have nm:∀ x∈kx.map (·.1),bp x=true:=λx hx=>by
  obtain⟨e,he,rfl⟩:=Pp.mp hx;exact nm e he
 unfold lA;dsimp only;rw[kt];dsimp only;rw[Nn ⟨by rw[Nw];lia,λx hx=>⟨Np (wb (nm x hx)) 'd',KS (nm x hx)⟩⟩]
def KW(H:Ho h q p t ps kx ds bs):mU [.ref q] h=.ok (.fl ((iA (kx.map (·.1))).map AV.str)) h:=by
 have so:=AE H.tx H.ct λe he=>(H.tz e he).2
 simp[mU,H.ob,so]
def nu(H:Ho h q p t ps kx ds bs):cw [.ref q] h=.ok (.ref p) h:=by
 simp[cw,H.ob]
end
def rQ(hx:bp x=true)(hh:AH):iC [.str x] hh=.ok .non hh:=by
 simp[iC,AB hx hh]
section
variable{h:AH}{q p t:Nat}{ps:List Pc}{kx:ZH}{ds bs:List De}
def oP:Option Nat->PyData
 |none=>.none
 |some n=>.int n
def wj(d:De):PyData:=.tuple [.str d.1,oP d.2.1,oP d.2.2]
theorem AF(k:Nat)(hh:AH):∀ l:List De,bg (bf (k+1) hh) (l.map aY)=some (l.map wj)
 |[]=>rfl
 |d::l=>by
  have e:bf (k+1) hh (aY d)=some (wj d):=by
   obtain⟨a,o,n⟩:=d
   cases o<;>cases n<;>cases k<;>rfl
  show (match bf (k+1) hh (aY d),bg (bf (k+1) hh) (l.map aY) with|some d,some ds=>some (d::ds)|_,_=>none)=_
  rw[e,AF k hh l];rfl
def KY{W:Nat}{l:List De}{d:De}(e:hh[W]?=some (.lst ((l++[d]).map aY))):az (.ref W) (.fl []) hh=.ok (.bl false) hh:=by
 have d1:bf 8 hh (.ref W)=some (.list ((l++[d]).map wj)):=by
  show (match hh[W]? with|some (.lst xs)=>(bg (bf 7 hh) xs).map PyData.list|_=>none)=_
  rw[e];show (bg (bf 7 hh) ((l++[d]).map aY)).map PyData.list=_
  rw[AF 6];rfl
 have qq:ip (.ref W) (.fl []) hh=some false:=by
  show (match bf 8 hh (.ref W),bf 8 hh (.fl []) with|some d,some e=>some (PyData.eqv d e)|_,_=>none)=_
  rw[d1];show some (PyData.eqv (.list _) (.list []))=_
  rw[PyData.eqv]
  cases l<;>rfl
 show (match ip (.ref W) (.fl []) hh with|some b=>Out.ok (AV.bl b) hh|none=>Out.bad)=_
 rw[qq]
def KZ(H:Ho h q p t ps kx ds bs){l m:List De}{d:De}(ea:h[a]?=some (.lst ((l++[d]).map aY)))(eb:h[b]?=some (.lst (m.map aY)))(hab:a≠b)(lm:m.length<=1000) :
  az (.ref a) (.fl []) h=.ok (.bl false) h/\cZ (.ref a) [] h=.ok (aY d) (h.set a (.lst (l.map aY)))/\bh (.ref a) h=true/\bh (.ref b) (h.set a (.lst (l.map aY)))=true /\
   bL (.ref b) [aY d] (h.set a (.lst (l.map aY)))=.ok .non ((h.set a (.lst (l.map aY))).set b (.lst ((m++[d]).map aY))):=by
 have eb':(h.set a (.lst (l.map aY)))[b]?=some (.lst (m.map aY)):=by rw[Nl hab];exact eb
 refine⟨KY ea,?_,by simp only[bh,eX,ea];rfl,by simp only[bh,eX,eb'];rfl,?_⟩
 ·have i:((l++[d]).map aY)[((l++[d]).map aY).length-1]?=some (aY d):=by simp
  have dl:((l++[d]).map aY).dropLast=l.map aY:=by rw[Og];exact List.dropLast_concat
  simp only[cZ,ea]
  rw[i,dl]
 ·have sz:(m.map aY).length<sizeLine:=by rw[Nw];exact Nz lm 'd'
  simp only[bL,eb']
  rw[Nn sz];simp
def K0{w1:Option Nat}(H:Ho h q p t ps kx (ds++[(x,o.map (·.1),w1)]) bs)(hx:bp x=true)(T:∀ v,o=some v->TxZ ps v.1 v.2)(ct:(upd kx x o).length<=50)(lb:bs.length<=1000)(hs:o=none->(lk kx x).isSome=true) :
  ∃ h',oA [.ref q] h=.ok .non h'/\Ho h' q p t ps (upd kx x o) ds (bs++[(x,o.map (·.1),w1)])/\Fh p t h h':=by
 have lo:=H.lo;have ctk:=H.ct;have lt:=bX H.tx;have la:=bX H.de;have lb':=bX H.ba;obtain⟨m1,m2,m3,m4,m5⟩:=KZ H H.de H.ba ⋯ lb;have o1:∀ i,i≠t+1->(h.set (t+1) (.lst (ds.map aY)))[i]?=h[i]?:=λi a=>Nl (Ne.symm a)
 have d1:(h.set (t+1) (.lst (ds.map aY)))[t+1]?=some (.lst (ds.map aY)):=Nv la;have n1':(h.set (t+1) (.lst (ds.map aY))).length=h.length:=Of;generalize h.set (t+1) (.lst (ds.map aY))=h1 at *;have o2:∀ i,i≠t+1->i≠t+2->(h1.set (t+2) (.lst ((bs++[(x,o.map (·.1),w1)]).map aY)))[i]?=h[i]?:=λi a b=>(Nl (Ne.symm b)).trans (o1 i a)
 have d2:(h1.set (t+2) (.lst ((bs++[(x,o.map (·.1),w1)]).map aY)))[t+1]?=some (.lst (ds.map aY)):=by rw[Nl ⋯];exact d1
 have b2:(h1.set (t+2) (.lst ((bs++[(x,o.map (·.1),w1)]).map aY)))[t+2]?=some (.lst ((bs++[(x,o.map (·.1),w1)]).map aY)):=Nv ⋯;have n2':(h1.set (t+2) (.lst ((bs++[(x,o.map (·.1),w1)]).map aY))).length=h.length:=by rw[Of];exact n1'
 generalize h1.set (t+2) (.lst ((bs++[(x,o.map (·.1),w1)]).map aY))=h2 at *;have ob1:=(o1 q ⋯).trans H.ob
 have ob2:=(o2 q ⋯ ⋯).trans H.ob;have st:=AC (x:=x) (o:=o) ob2 ((o2 t ⋯ ⋯).trans H.tx) ⋯ hs;have o3:∀ i,i≠t->i≠t+1->i≠t+2->(h2.set t (.dct false ((upd kx x o).map (kG gN))))[i]?=h[i]?:=λi a b c=>(Nl (Ne.symm a)).trans (o2 i b c)
 refine⟨h2.set t (.dct false ((upd kx x o).map (kG gN))),?_,⟨(o3 q ⋯ ⋯ ⋯).trans H.ob,H.sh.keep λi a b=>o3 i ⋯ ⋯ ⋯,H.gd,Nv ⋯,?_,?_,λe he=>?_,lo,ct,rN H.nd x o⟩,⟨λi _ a b c=>o3 i a b c,by rw[Of];exact n2'⟩⟩
 ·have i0:∀ hh,ao (aY (x,o.map (·.1),w1)) (.int 0) hh=.ok (.str x) hh:=λ_=>rfl
  have i1:∀ hh,ao (aY (x,o.map (·.1),w1)) (.int 1) hh=.ok (oN (o.map (·.1))) hh:=λ_=>rfl
  have ob:=H.ob;generalize aY (x,o.map (·.1),w1)=V,h2.set t (.dct false ((upd kx x o).map (kG gN)))=h3,oN (o.map (·.1))=ON at *;unfold oA
  generalize i4=G at *;simp[ob,m1,m2,m3,m4,m5,ob1,ob2,i0,i1,st,-az,-bh,-bL,-cZ,-ao]
 ·rw[Nl ⋯];exact d2
 ·rw[Nl ⋯];exact b2
 ·rcases rO he with⟨v,ev,rfl⟩|he
  ·exact⟨T v ev,hx⟩
  ·exact H.tz e he
end
def Dk(F:Out AV)(h:AH)(ps:List Pc)(kx:ZH)(ds:List De)(x:Str)(y:Option Str)(c:Nat):Prop :=
 ∃ (o:Option (Nat×Str)) (ps':List Pc) (h':AH),F=.ok .non h'/\o.map (·.2)=y/\Ho h' 0 1 10 ps' (upd kx x o) (ds++[(x,(lk kx x).map (·.1),o.map (·.1))]) []/\Fh 1 10 h h'/\ps <+: ps'/\ps'.length<=ps.length+c
theorem AG{x:Str}{v:Nat×Str}:∀ {kx:ZH},(kx.map (·.1)).Nodup->(x,v)∈kx->lk kx x=some v
 |e::r,nd,h=>by
  rw[gs];rw[NW,On] at nd;rcases ND.mp h with h|h
  ·rw[<- h,Nn rfl]
  ·rw[Nr (λz:e.1=x=>nd.1 (z▸List.mem_map_of_mem (f:=λe=>e.1) h)),AG nd.2 h]
section
variable{h:AH}{ps:List Pc}{kx:ZH}{ds bs:List De}{x z:Str}{v w:Nat×Str}
def gu(H:Ho h 0 1 10 ps kx ds bs)(l:lk kx x=some v):TxZ ps v.1 v.2/\bp x=true:=(H.tz _ (cC l))
def dk_of{k:Nat}{F:Out AV}(H:Ho h 0 1 10 ps kx ds bs)(D:Dd 1 h h1 ps ps1 k)(T:TxZ ps1 n y)(hx:bp x=true)(hc:k<=c)(ct:kx.length<50)(ld:ds.length<=1000)(e:∀ h',bP [.ref 0,.str x,.int n] h1=.ok .non h'->F=.ok .non h'):Dk F h ps kx ds x (some y) c:=by
 obtain⟨h',fd,H',Fr'⟩:=jP (H.dd D) (o:=some (n,y)) hx (λv ev=>by cases ev;exact T) (Np (rP ..) ⋯) ld nofun
 exact⟨some (n,y),ps1,h',e h' fd,rfl,H',(Fh.dd D).trans Fr',D.pre,by have:=D.len;lia⟩
def K1(H:Ho h 0 1 10 ps kx ds bs)(hx:bp x=true)(py:bJ y=true)(ly:y.length<=10000)(hz:ps.length<13000000)(ct:kx.length<50)(ld:ds.length<=1000):Dk (jC [.ref 0,.str x,.str y] h) h ps kx ds x (some y) (2*y.length):=by
 obtain⟨n,ps',h1,fb,D,T⟩:=Al H.sh H.gd py ly ⋯;have ck:=rQ hx h;refine dk_of H D T hx (Nk _) ct ld λh' fd=>?_
 unfold jC;generalize bP=G2,gR=G at *;simp[ck,H.ob,fb,fd]
def K3(H:Ho h 0 1 10 ps kx ds bs)(hx:bp x=true)(l:lk kx z=some v)(ct:kx.length<50)(ld:ds.length<=1000):Dk (jD [.ref 0,.str x,.str z] h) h ps kx ds x (some v.2) 0:=by
 obtain⟨h',fd,H',Fr'⟩:=jP H (x:=x) (o:=some v) hx (λv' ev=>by cases ev;exact(gu H l).1) (Np (rP ..) ⋯) ld nofun
 have fd:bP [.ref 0,.str x,.int v.1] h=.ok .non h':=fd;have ck:=rQ hx h;have ft:=fJ H l;refine⟨some v,ps,h',?_,rfl,H',Fr',Oj _,by lia⟩
 unfold jD;generalize bA=G3,bP=G2 at *;simp[ck,H.ob,ft,fd]
def K4(H:Ho h 0 1 10 ps kx ds bs){k:Nat}(l:lk kx x=some v)(hk:k<2 ^ 50)(hm:v.2.length*k<=1000000000000000000)(hz:ps.length<13000000)(ct:kx.length<50)(ld:ds.length<=1000):Dk (iG [.ref 0,.str x,.int k] h) h ps kx ds x (some (aR v.2 k)) 240000:=by
 obtain⟨m,ps',h1,D,T⟩:=Kd H.sh H.gd (gu H l).1 hk 'd' hm ⋯;have ft:=fJ H l;have ev:=D.ev;refine dk_of H D.dd T (gu H l).2 'd' ct ld λh' fd=>?_
 unfold iG;generalize bA=G3,bP=G2,gU=G at *;simp[H.ob,ft,ev,fd]
def K5 (T:TxZ ps n ""):n=0:=by
 rcases T with⟨a,_⟩|⟨m,f,l,T⟩
 ·exact a
 ·obtain⟨k,c⟩:=T.ky.cnt
  have:=T.ky.f1;have e:m.sg=0:=T.ky.sg;lia
def K6 (H:Ho h 0 1 10 ps kx ds bs) {k:Nat} (l:lk kx x=some (n,("" : Str))) (hk:k<2 ^ 63) (ct:kx.length<50) (ld:ds.length<=1000):Dk (iG [.ref 0,.str x,.int k] h) h ps kx ds x (some "") 240000:=by
 have n0:=K5 (gu H l).1;subst n0;have ev:=vV H.sh (oU ps) hk (by show 0*k<=_;rw[Nat.zero_mul];exact NU _)
 rw[Nn rfl] at ev;obtain⟨h',fd,H',Fr'⟩:=jP H (x:=x) (o:=some (0, "")) (gu H l).2 (λv' ev=>by cases ev;exact .inl ⟨rfl,rfl⟩) (Np (rP ..) ⋯) ld nofun
 have fd:bP [.ref 0,.str x,.int (0:Nat)] h=.ok .non h':=fd;have ft:=fJ H l;refine⟨some (0, ""),ps,h',?_,rfl,H',Fr',Oj _,by lia⟩
 unfold iG;generalize ((0:Nat):Int)=Z,bA=G3,bP=G2,gU=G at *;simp[H.ob,ft,ev,fd]
def K7(H:Ho h 0 1 10 ps kx ds bs)(l:lk kx x=some v)(l2:lk kx z=some w)(hm:v.2.length+w.2.length<=1000000000000000000)(hz:ps.length<13000000)(ct:kx.length<50)(ld:ds.length<=1000):Dk (jF [.ref 0,.str x,.str z] h) h ps kx ds x (some (v.2++w.2)) 240000:=by
 obtain⟨m,ps',h1,ev,D,T⟩:=pe H.sh H.gd (gu H l).1 (gu H l2).1 hm ⋯;have ft:=fJ H l;have ft2:=fJ H l2;refine dk_of H D T (gu H l).2 'd' ct ld λh' fd=>?_
 unfold jF;generalize bA=G3,bP=G2,bC=G at *;simp[H.ob,ft,ft2,ev,fd]
def K8(H:Ho h 0 1 10 ps kx ds bs)(l:lk kx x=some v)(l2:lk kx z=some w)(ha:a<=v.2.length)(hm:v.2.length+w.2.length<=1000000000000000000)(hz:ps.length<13000000)(ct:kx.length<50)(ld:ds.length<=1000) :
  Dk (iF [.ref 0,.str x,.int a,.str z] h) h ps kx ds x (some ((bN v.2 a++w.2)++dq v.2 a)) 240000:=by
 obtain⟨m,ps',h1,ev,D,T⟩:=Kl H.sh H.gd (gu H l).1 (gu H l2).1 ha hm hz;have ft:=fJ H l;have ft2:=fJ H l2;refine dk_of H D T (gu H l).2 'd' ct ld λh' fd=>?_
 unfold iF;generalize bA=G3,bP=G2,i5=G at *;simp[H.ob,ft,ft2,ev,fd]
def K9(H:Ho h 0 1 10 ps kx ds bs)(l:lk kx x=some v)(ab:a<=b)(hb:b<=v.2.length)(hm:v.2.length<=1000000000000000000)(hz:ps.length<13000000)(ct:kx.length<50)(ld:ds.length<=1000) :
  Dk (jI [.ref 0,.str x,.int a,.int b] h) h ps kx ds x (some (bN v.2 a++dq v.2 b)) 240000:=by
 obtain⟨m,ps',h1,ev,D,T⟩:=Kk H.sh H.gd (gu H l).1 ab hb hm hz;have ft:=fJ H l;refine dk_of H D T (gu H l).2 'd' ct ld λh' fd=>?_
 unfold jI;generalize bA=G3,bP=G2,jH=G at *;simp[H.ob,ft,ev,fd]
def Lc(H:Ho h 0 1 10 ps kx ds bs)(l:lk kx x=some v)(ld:ds.length<=1000):Dk (lH [.ref 0,.str x] h) h ps kx ds x none 0:=by
 obtain⟨h',fd,H',Fr'⟩:=jP H (x:=x) (o:=none) (gu H l).2 nofun (Np (PY _ _) H.ct) ld (λ_=>by rw[l];rfl)
 have fd:bP [.ref 0,.str x,.non] h=.ok .non h':=fd;have ft:=fJ H l;refine⟨none,ps,h',?_,rfl,H',Fr',Oj _,by lia⟩
 unfold lH;generalize bA=G3,bP=G2 at *;simp[H.ob,ft,fd]
end
inductive Gd (kx:ZH):AV->Str->Option Str->Nat->Prop
 |give {x y:Str} (hx:bp x=true) (py:bJ y=true) (ly:y.length<=10000):Gd kx (.tup [.str "give",.str x,.str y]) x (some y) (2*y.length)
 |copy {x z:Str} {v:Nat×Str} (hx:bp x=true) (l:lk kx z=some v):Gd kx (.tup [.str "copy_of",.str x,.str z]) x (some v.2) 0
 |join {x z:Str} {v w:Nat×Str} (l:lk kx x=some v) (l2:lk kx z=some w) (hm:v.2.length+w.2.length<=1000000000000000000):Gd kx (.tup [.str "join_to",.str x,.str z]) x (some (v.2++w.2)) 240000
 |put {x z:Str} {v w:Nat×Str} {a:Nat} (l:lk kx x=some v) (l2:lk kx z=some w) (ha:a<=v.2.length) (hm:v.2.length+w.2.length<=1000000000000000000):Gd kx (.tup [.str "put_into",.str x,.int a,.str z]) x (some ((bN v.2 a++w.2)++dq v.2 a)) 240000
 |take {x:Str} {v:Nat×Str} {a b:Nat} (l:lk kx x=some v) (ab:a<=b) (hb:b<=v.2.length) (hm:v.2.length<=1000000000000000000):Gd kx (.tup [.str "take_from",.str x,.int a,.int b]) x (some (bN v.2 a++dq v.2 b)) 240000
 |rep {x:Str} {v:Nat×Str} {k:Nat} (l:lk kx x=some v) (hk:k<2 ^ 50) (hm:v.2.length*k<=1000000000000000000):Gd kx (.tup [.str "repeat",.str x,.int k]) x (some (aR v.2 k)) 240000
 |rep0 {x:Str} {n k:Nat} (l:lk kx x=some (n,("" : Str))) (hk:k<2 ^ 63):Gd kx (.tup [.str "repeat",.str x,.int k]) x (some "") 240000
 |drop {x:Str} {v:Nat×Str} (l:lk kx x=some v):Gd kx (.tup [.str "drop",.str x]) x none 0
def AI{V:AV}{o0:Option AV}(i0:ao V (.int 0) h=.ok (.str x) h):(aD (ag az (ag ao (aa 1) (ae (.int 0))) (ae (.str y)))) [o0,some V] h=.ok (decide (x=y)) h:=by
 simp[i0,-ao]
def Ld(a:SE)(en:En)(h:AH):eT (ak a en h)=a en h:=by
 show eT ((a en h).go en λv h'=>.rt v h')=_
 cases a en h<;>rfl
def Qp(Y:Out AV)(o:OutS):Prop:=eT o=Y
section
variable{P:OutS->Prop}{h h':AH}{x y:Str}{V W:AV}{o0:Option AV}{a:SE}{b:SS}{Y:Out AV}
def cK(i0:ao V (.int 0) h=.ok (.str x) h)(n:¬ x=y)(r:P (b [o0,some V] h)):P (ai (aG (aD (ag az (ag ao (aa 1) (ae (.int 0))) (ae (.str y)))) (ak a) aH) b [o0,some V] h) :=(
 dG ((AI i0).trans (by rw[NJ n])) r)
def AJ(s:a [o0,some V] h=Y):Qp Y (ak a [o0,some V] h):=((Ld ..).trans s)
def lT(i0:ao V (.int 0) h=.ok (.str x) h)(s:a [o0,some V] h=Y):Qp Y (ai (aG (aD (ag az (ag ao (aa 1) (ae (.int 0))) (ae (.str x)))) (ak a) aH) b [o0,some V] h):=by
 have c:=AI (y:=x) (o0:=o0) i0;rw[NO rfl] at c;have q:ai (aG (aD (ag az (ag ao (aa 1) (ae (.int 0))) (ae (.str x)))) (ak a) aH) b [o0,some V] h=ak a [o0,some V] h:=by
  generalize aD (ag az (ag ao (aa 1) (ae (.int 0))) (ae (.str x)))=C at *;simp only[ai,aG,c,Out.go,O5]
  show (match (a [o0,some V] h).go [o0,some V] λv h'=>.rt v h' with|.nx e h'=>b e h'|o=>o)=(a [o0,some V] h).go [o0,some V] λv h'=>.rt v h'
  cases a [o0,some V] h<;>rfl
 rw[q];exact AJ s
def kh{m:Nat}{b:SS}{args:List AV}(hn:args.length=n)(r:Qp Y (b (args.map some++List.replicate (m-n) none) h)):aw n m b args h=Y:=(nt (P:=λo=>o=Y) hn r)
variable{p t:Nat}{u1 u2 u3:AV}{G:Fn}
def m0(ob:h[0]?=some (.ins 1 [some (.ref p),some (.ref t),some (.ref (t+1)),some (.ref (t+2))])):aA 1 G (aa 0) af [some (.ref 0),some V] h=G [.ref 0] h:=by simp[ob]
def m1(ob:h[0]?=some (.ins 1 [some (.ref p),some (.ref t),some (.ref (t+1)),some (.ref (t+2))]))(i1:ao V (.int 1) h=.ok u1 h):aA 1 G (aa 0) (ah (ag ao (aa 1) (ae (.int 1))) af) [some (.ref 0),some V] h=G [.ref 0,u1] h:=by simp[ob,i1,-ao]
def m2(ob:h[0]?=some (.ins 1 [some (.ref p),some (.ref t),some (.ref (t+1)),some (.ref (t+2))]))(i1:ao V (.int 1) h=.ok u1 h)(i2:ao V (.int 2) h=.ok u2 h):aA 1 G (aa 0) (ah (ag ao (aa 1) (ae (.int 1))) (ah (ag ao (aa 1) (ae (.int 2))) af)) [some (.ref 0),some V] h=G [.ref 0,u1,u2] h:=by simp[ob,i1,i2,-ao]
def m3(ob:h[0]?=some (.ins 1 [some (.ref p),some (.ref t),some (.ref (t+1)),some (.ref (t+2))]))(i1:ao V (.int 1) h=.ok u1 h)(i2:ao V (.int 2) h=.ok u2 h)(i3:ao V (.int 3) h=.ok u3 h):aA 1 G (aa 0) (ah (ag ao (aa 1) (ae (.int 1))) (ah (ag ao (aa 1) (ae (.int 2))) (ah (ag ao (aa 1) (ae (.int 3))) af))) [some (.ref 0),some V] h=G [.ref 0,u1,u2,u3] h:=by simp[ob,i1,i2,i3,-ao]
end
section
variable{h:AH}{ps:List Pc}{kx:ZH}{ds bs:List De}(H:Ho h 0 1 10 ps kx ds bs)(a b c:AV)
include H
def wk:dR [.ref 0,.tup [.str "give",a,b]] h=jC [.ref 0,a,b] h :=(
 kh rfl (lT rfl (m2 H.ob rfl rfl)))
def wo:dR [.ref 0,.tup [.str "copy_of",a,b]] h=jD [.ref 0,a,b] h :=(
 kh rfl (cK rfl ∅ (lT rfl (m2 H.ob rfl rfl))))
def AK:dR [.ref 0,.tup [.str "join_to",a,b]] h=jF [.ref 0,a,b] h :=(
 kh rfl (cK rfl ∅ (cK rfl ∅ (lT rfl (m2 H.ob rfl rfl)))))
def wq:dR [.ref 0,.tup [.str "put_into",a,b,c]] h=iF [.ref 0,a,b,c] h :=(
 kh rfl (cK rfl ∅ (cK rfl ∅ (cK rfl ∅ (lT rfl (m3 H.ob rfl rfl rfl))))))
def wt:dR [.ref 0,.tup [.str "take_from",a,b,c]] h=jI [.ref 0,a,b,c] h :=(
 kh rfl (cK rfl ∅ (cK rfl ∅ (cK rfl ∅ (cK rfl ∅ (lT rfl (m3 H.ob rfl rfl rfl)))))))
def pA:dR [.ref 0,.tup [.str "repeat",a,b]] h=iG [.ref 0,a,b] h :=(
 kh rfl (cK rfl ∅ (cK rfl ∅ (cK rfl ∅ (cK rfl ∅ (cK rfl ∅ (lT rfl (m2 H.ob rfl rfl))))))))
def AN:dR [.ref 0,.tup [.str "drop",a]] h=lH [.ref 0,a] h :=(
 kh rfl (cK rfl ∅ (cK rfl ∅ (cK rfl ∅ (cK rfl ∅ (cK rfl ∅ (cK rfl ∅ (lT rfl (m1 H.ob rfl)))))))))
def Le:dR [.ref 0,.tup [.str "back"]] h=oA [.ref 0] h :=(
 kh rfl (cK (x := "back") rfl ∅ (cK (x := "back") rfl ∅ (cK (x := "back") rfl ∅ (cK (x := "back") rfl ∅ (cK (x := "back") rfl ∅ (cK (x := "back") rfl ∅ (cK (x := "back") rfl ∅ (cK (x := "back") rfl ∅ (AJ (m0 H.ob)))))))))))
def wu{deed:AV}{y:Option Str}{c:Nat}(g:Gd kx deed x y c)(hz:ps.length<13000000)(ct:kx.length<50)(ld:ds.length<=1000):Dk (dR [.ref 0,deed] h) h ps kx ds x y c:=by
 cases g with
 |give hx py ly=>rw[wk H];exact K1 H hx py ly hz ct ld
 |copy hx l=>rw[wo H];exact K3 H hx l ct ld
 |join l l2 hm=>rw[AK H];exact K7 H l l2 hm hz ct ld
 |put l l2 ha hm=>rw[wq H];exact K8 H l l2 ha hm hz ct ld
 |take l ab hb hm=>rw[wt H];exact K9 H l ab hb hm hz ct ld
 |rep l hk hm=>rw[pA H];exact K4 H l hk hm hz ct ld
 |rep0 l hk=>rw[pA H];exact K6 H l hk ct ld
 |drop l=>rw[AN H];exact Lc H l ld
end
def AQ(nm:fR [v] hh=.ok (.bl false) hh):iC [v] hh=.ex dP hh:=by
 simp[iC,nm]
def nv {n:String} (e:hE v h=some n) (q:(n == "str")=false):fR [v] h=.ok (.bl false) h:=by
 simp[fR,e,q,-hE]
def rR {n:String} (e:hE v h=some n) (q:(n == "str")=false):iD [v] h=.ok (.bl false) h:=by
 simp[iD,e,q,-hE]
def pB(hx:bp x=false)(lx:x.length<=1000)(hh:AH):fR [.str x] hh=.ok (.bl false) hh:=by
 rw[wa x hh (Np lx 'd'),hx]
section
variable{h:AH}{ps:List Pc}{kx:ZH}{ds bs:List De}{u v w:AV}{x z:Str}{e f:Nat×Str}(H:Ho h 0 1 10 ps kx ds bs)
include H
def ki(hx:x.length<=1000)(l:lk kx x=none):bA [.ref 0,.str x] h=.ex dP h:=by
 have nm:=wa x h (Np hx 'd');have vk:aQ (kx.map (kG gN)) (.str x)=none:=by rw[i7,l];rfl
 have ni:cU (.str x) (.ref 10) h=.ok (.bl true) h:=by
  simp only[cU,jZ,H.tx,vk,dI,keyOf?,Option.isSome];rfl
 cases bp x<;>simp[bA,H.ob,nm,ni,-cU,-ao]
def Lj(o:bA [.ref 0,v] h=.ex dP h):lH [.ref 0,v] h=.ex dP h:=by
 unfold lH;generalize bP=G2,bA=G at *;simp[H.ob,o]
def Lk(o:bA [.ref 0,v] h=.ex dP h):jF [.ref 0,v,w] h=.ex dP h:=by
 unfold jF;generalize bC=G3,bP=G2,bA=G at *;simp[H.ob,o]
def Lm(l:lk kx x=some e)(o:bA [.ref 0,v] h=.ex dP h):jF [.ref 0,.str x,v] h=.ex dP h:=by
 have ft:=fJ H l;unfold jF;generalize bC=G3,bP=G2,bA=G at *;simp[H.ob,ft,o]
def Ln(o:bA [.ref 0,v] h=.ex dP h):iF [.ref 0,v,u,w] h=.ex dP h:=by
 unfold iF;generalize i5=G3,bP=G2,bA=G at *;simp[H.ob,o]
def Lo(l:lk kx x=some e)(o:bA [.ref 0,v] h=.ex dP h):iF [.ref 0,.str x,u,v] h=.ex dP h:=by
 have ft:=fJ H l;unfold iF;generalize i5=G3,bP=G2,bA=G at *;simp[H.ob,ft,o]
def Lp(o:bA [.ref 0,v] h=.ex dP h):jI [.ref 0,v,u,w] h=.ex dP h:=by
 unfold jI;generalize jH=G3,bP=G2,bA=G at *;simp[H.ob,o]
def Lq(o:bA [.ref 0,v] h=.ex dP h):iG [.ref 0,v,w] h=.ex dP h:=by
 unfold iG;generalize gU=G3,bP=G2,bA=G at *;simp[H.ob,o]
def Lr(hx:bp x=true)(o:bA [.ref 0,v] h=.ex dP h):jD [.ref 0,.str x,v] h=.ex dP h:=by
 have ck:=rQ hx h;unfold jD;generalize iC=G3,bP=G2,bA=G at *;simp[H.ob,ck,o]
def Ls(hx:bp x=true)(np:iD [v] h=.ok (.bl false) h):jC [.ref 0,.str x,v] h=.ex uQ h:=by
 have ck:=rQ hx h;have fb:gR [.ref 1,v] h=.ex uQ h:=by
  unfold gR;generalize hW 20=G2,iD=G at *;simp[np]
 unfold jC;generalize iC=G3,bP=G2,gR=G at *;simp[H.ob,ck,fb]
def Lu{a:Int}(l:lk kx x=some e)(l2:lk kx z=some f)(no:¬ (0<=a/\a<=e.2.length)):iF [.ref 0,.str x,.int a,.str z] h=.ex j8 h:=by
 have ft:=fJ H l;have ft2:=fJ H l2;obtain⟨m,em,sm⟩:=(H.tz _ (cC l)).1.meas;obtain⟨m2,em2,sm2⟩:=(H.tz _ (cC l2)).1.meas;have fs:=cz H.sh em;have fs2:=cz H.sh em2;have g:ka [.ref 1,.int e.1,.int a] h=.ex j8 h:=by
  rw[<- sm] at no;by_cases q1:0<=a
  ·have q2:¬ a<=(m.sg:Int):=λz=>no ⟨q1,z⟩
   simp[ka,H.sh.ob,fs,q1,q2]
  ·simp[ka,H.sh.ob,fs,q1]
 have fp:i5 [.ref 1,.int e.1,.int a,.int f.1] h=.ex j8 h:=by
  unfold i5;generalize jE=G2,ka=G at *;simp[H.sh.ob,fs,fs2,g]
 unfold iF;generalize i5=G3,bP=G2,bA=G at *;simp[H.ob,ft,ft2,fp]
def Lv{a b:Int}(l:lk kx x=some e)(no:¬ (0<=a/\a<=b/\b<=e.2.length)):jI [.ref 0,.str x,.int a,.int b] h=.ex j8 h:=by
 have ft:=fJ H l;obtain⟨m,em,sm⟩:=(H.tz _ (cC l)).1.meas;have fs:=cz H.sh em;have ck:jG [.ref 1,.int e.1,.int a,.int b] h=.ex j8 h:=by
  rw[<- sm] at no;by_cases q1:0<=a
  ·by_cases q2:a<=b
   ·have q3:¬ b<=(m.sg:Int):=λz=>no ⟨q1,q2,z⟩
    simp[jG,H.sh.ob,fs,q1,q2,q3,iX]
   ·simp[jG,H.sh.ob,fs,q1,q2,iX]
  ·simp[jG,H.sh.ob,fs,q1,iX]
 have fp:jH [.ref 1,.int e.1,.int a,.int b] h=.ex j8 h:=by
  unfold jH;generalize jG=G at *;simp[ck]
 unfold jI;generalize jH=G3,bP=G2,bA=G at *;simp[H.ob,ft,fp]
def AR{k:Int}(l:lk kx x=some e)(le:e.2.length<=1000)(q:k<0/\c=j8\/0<=k/\(1000000000000000000:Int)<e.2.length*k/\c=uR):iG [.ref 0,.str x,.int k] h=.ex c h:=by
 have ft:=fJ H l;obtain⟨m,em,sm⟩:=(H.tz _ (cC l)).1.meas;have fs:=cz H.sh em;have hs:m.sg<=1000:=by rw[sm];exact le
 have fr:gU [.ref 1,.int e.1,.int k] h=.ex c h:=by
  rcases q with⟨q,rfl⟩|⟨q0,q,rfl⟩
  ·have lt:dy (.int k) (.int 0) h=.ok (.bl true) h:=by simp only[dy,q,P2]
   unfold gU;generalize eF 64=G at *;simp[H.sh.ob,fs,lt,-dy]
  ·have lt:dy (.int k) (.int 0) h=.ok (.bl false) h:=by
    have:¬ k<0:=by lia
    simp only[dy,this,Sh]
   obtain⟨MK,eM⟩:∃ MK:Int,MK=m.sg*k:=⟨_,rfl⟩
   rw[<- sm,<- eM] at q;have ml:aW (.int m.sg) (.int k) h=.ok (.int MK) h:=by
    rw[zK (Nz (m:=1000) ⋯ 'd'),eM]
   have ck:jE [.int MK] h=.ex uR h:=by simp[jE,q]
   unfold gU;generalize eF 64=G at *;simp[H.sh.ob,fs,lt,ml,ck,-dy,-aW]
 unfold iG;generalize gU=G3,bP=G2,bA=G at *;simp[H.ob,ft,fr]
end
section
variable{h:AH}{q:Nat}{v w deed:AV}
def Lw(nm:fR [v] h=.ok (.bl false) h):jD [.ref q,v,w] h=.ex dP h:=by
 have ck:=AQ nm;unfold jD;generalize iC=G3,bP=G2,bA=G at *;simp[ck]
def Lx(nm:fR [v] h=.ok (.bl false) h):jC [.ref q,v,w] h=.ex dP h:=by
 have ck:=AQ nm;unfold jC;generalize iC=G3,bP=G2,gR=G at *;simp[ck]
def AS(e:dR [.ref q,deed] h=.ok .non h'):dS [.ref q,deed] h=.ok (.str "") h':=by
 unfold dS;generalize dR=G at *;simp[j5,e]
def kj(e:dR [.ref q,deed] h=.ex dP h):dS [.ref q,deed] h=.ok (.str "NoName") h:=by
 have c1:mQ 3=true:=rfl;have c2:qM 3=false:=rfl;unfold dS;generalize dR=G at *;simp[j5,j4,e,c1,c2,atI,fW]
def Ly(e:dR [.ref q,deed] h=.ex uQ h):dS [.ref q,deed] h=.ok (.str "NoText") h:=by
 have c1:mQ 0=false:=rfl;have c3:oz 0=true:=rfl;have c2:qM 0=true:=rfl;unfold dS;generalize dR=G at *;simp[j5,j4,e,c1,c2,c3,atI,fW]
def wx(e:dR [.ref q,deed] h=.ex j8 h):dS [.ref q,deed] h=.ok (.str "NoPlace") h:=by
 have c1:mQ 2=false:=rfl;have c3:oz 2=false:=rfl;have c4:qO 2=true:=rfl;have c2:qN 2=false:=rfl;unfold dS;generalize dR=G at *;simp[j5,j4,e,c1,c2,c3,c4,atI,fW]
def Lz(e:dR [.ref q,deed] h=.ex uR h):dS [.ref q,deed] h=.ok (.str "TooLong") h:=by
 have c1:mQ 1=false:=rfl;have c3:oz 1=false:=rfl;have c4:qO 1=false:=rfl;have c5:uS 1=true:=rfl;have c2:qN 1=true:=rfl;unfold dS;generalize dR=G at *;simp[j5,j4,e,c1,c2,c3,c4,c5,atI,fW]
end
def Rw(h:AH)(kx:ZH)(deed:AV)(due:Str):Prop:=∀ (kz:ZH) (ps:List Pc) (ds bs:List De),(∀ x,lk kz x=lk kx x)->Ho h 0 1 10 ps kz ds bs->dS [.ref 0,deed] h=.ok (.str due) h
section
variable{h:AH}{kx:ZH}{v w u:AV}{x z:Str}{e f:Nat×Str}
def LA(l:lk kx x=none)(lx:x.length<=1000):Rw h kx (.tup [.str "drop",.str x]) "NoName" :=(λkz ps ds bs q H =>
 kj ((AN H _).trans (Lj H (ki H lx ((q x).trans l)))))
def LB(l:(lk kx x).isNone || (lk kx z).isNone)(lx:x.length<=1000)(lz:z.length<=1000):Rw h kx (.tup [.str "join_to",.str x,.str z]) "NoName" :=(λkz ps ds bs q H=>by
 refine kj ((AK H _ _).trans ?_)
 cases e:lk kx x with
 |none=>exact Lk H (ki H lx ((q x).trans e))
 |some v =>
  rw[e] at l;exact Lm H ((q x).trans e) (ki H lz ((q z).trans (OG.mp l))))
def LC(l:(lk kx x).isNone || (lk kx z).isNone)(lx:x.length<=1000)(lz:z.length<=1000):Rw h kx (.tup [.str "put_into",.str x,u,.str z]) "NoName" :=(λkz ps ds bs q H=>by
 refine kj ((wq H _ _ _).trans ?_)
 cases e:lk kx x with
 |none=>exact Ln H (ki H lx ((q x).trans e))
 |some v =>
  rw[e] at l;exact Lo H ((q x).trans e) (ki H lz ((q z).trans (OG.mp l))))
def LD{a:Int}(l:lk kx x=some e)(l2:lk kx z=some f)(no:¬ (0<=a/\a<=e.2.length)):Rw h kx (.tup [.str "put_into",.str x,.int a,.str z]) "NoPlace" :=(λkz ps ds bs q H =>
 wx ((wq H _ _ _).trans (Lu H ((q x).trans l) ((q z).trans l2) no)))
def LF(l:lk kx x=none)(lx:x.length<=1000):Rw h kx (.tup [.str "take_from",.str x,u,v]) "NoName" :=(λkz ps ds bs q H =>
 kj ((wt H _ _ _).trans (Lp H (ki H lx ((q x).trans l)))))
def LG{a b:Int}(l:lk kx x=some e)(no:¬ (0<=a/\a<=b/\b<=e.2.length)):Rw h kx (.tup [.str "take_from",.str x,.int a,.int b]) "NoPlace" :=(λkz ps ds bs q H =>
 wx ((wt H _ _ _).trans (Lv H ((q x).trans l) no)))
def LH(l:lk kx x=none)(lx:x.length<=1000):Rw h kx (.tup [.str "repeat",.str x,v]) "NoName" :=(λkz ps ds bs q H =>
 kj ((pA H _ _).trans (Lq H (ki H lx ((q x).trans l)))))
def LI{k:Int}(l:lk kx x=some e)(le:e.2.length<=1000)(no:k<0):Rw h kx (.tup [.str "repeat",.str x,.int k]) "NoPlace" :=(λkz ps ds bs q H =>
 wx ((pA H _ _).trans (AR H ((q x).trans l) le (.inl ⟨no,rfl⟩))))
def LJ{k:Int}(l:lk kx x=some e)(le:e.2.length<=1000)(k0:0<=k)(no:(1000000000000000000:Int)<e.2.length*k):Rw h kx (.tup [.str "repeat",.str x,.int k]) "TooLong" :=(λkz ps ds bs q H =>
 Lz ((pA H _ _).trans (AR H ((q x).trans l) le (.inr ⟨k0,no,rfl⟩))))
def LM(nm:fR [v] h=.ok (.bl false) h):Rw h kx (.tup [.str "give",v,w]) "NoName" :=(λkz ps ds bs q H =>
 kj ((wk H _ _).trans (Lx nm)))
def LN(hx:bp x=true)(np:iD [v] h=.ok (.bl false) h):Rw h kx (.tup [.str "give",.str x,v]) "NoText" :=(λkz ps ds bs q H =>
 Ly ((wk H _ _).trans (Ls H hx np)))
def LO(nm:fR [v] h=.ok (.bl false) h):Rw h kx (.tup [.str "copy_of",v,w]) "NoName" :=(λkz ps ds bs q H =>
 kj ((wo H _ _).trans (Lw nm)))
def LP(hx:bp x=true)(l:lk kx z=none)(lz:z.length<=1000):Rw h kx (.tup [.str "copy_of",.str x,.str z]) "NoName" :=(λkz ps ds bs q H =>
 kj ((wo H _ _).trans (Lr H hx (ki H lz ((q z).trans l)))))
end
def wy{kz:ZH}{deed:AV}{y:Option Str}(q:∀ x,lk kz x=lk kx x)(g:Gd kx deed x y c):Gd kz deed x y c:=by
 cases g with
 |give hx py ly=>exact .give hx py ly
 |copy hx l=>exact .copy hx ((q _).trans l)
 |join l l2 hm=>exact .join ((q _).trans l) ((q _).trans l2) hm
 |put l l2 ha hm=>exact .put ((q _).trans l) ((q _).trans l2) ha hm
 |take l ab hb hm=>exact .take ((q _).trans l) ab hb hm
 |rep l hk hm=>exact .rep ((q _).trans l) hk hm
 |rep0 l hk=>exact .rep0 ((q _).trans l) hk
 |drop l=>exact .drop ((q _).trans l)
theorem AU(k:Nat)(hh:AH):∀ l:List Str,bg (bf (k+1) hh) (l.map AV.str)=some (l.map PyData.str)
 |[]=>rfl
 |d::l=>by
  have e:bf (k+1) hh (AV.str d)=some (.str d):=by cases k<;>rfl
  show (match bf (k+1) hh (AV.str d),bg (bf (k+1) hh) (l.map AV.str) with|some d,some ds=>some (d::ds)|_,_=>none)=_
  rw[e,AU k hh l];rfl
def LQ(l:List Str)(hh:AH):az (.fl (l.map AV.str)) (.fl []) hh=.ok (.bl (decide (l=[]))) hh:=by
 have d1:bf 8 hh (.fl (l.map AV.str))=some (.list (l.map PyData.str)):=by
  show (bg (bf 7 hh) (l.map AV.str)).map PyData.list=_
  rw[AU 6];rfl
 have qq:ip (.fl (l.map AV.str)) (.fl []) hh=some (decide (l=[])):=by
  show (match bf 8 hh (.fl (l.map AV.str)),bf 8 hh (.fl []) with|some d,some e=>some (PyData.eqv d e)|_,_=>none)=_
  rw[d1];show some (PyData.eqv (.list _) (.list []))=_
  rw[PyData.eqv]
  cases l<;>rfl
 show (match ip (.fl (l.map AV.str)) (.fl []) hh with|some b=>Out.ok (AV.bl b) hh|none=>Out.bad)=_
 rw[qq]
def six:List Str:=["a", "ab", "b", "abcdefgh", "zz", "q"]
def LR:∀ x∈six,bp x=true:=by decide +kernel
variable{xs:List AV}
def pC(e:xs[i]?=some v)(h:AH):ao (.fl xs) (.int i) h=.ok v h:=by
 simp only[ao,mq e]
abbrev Nm(odd:List AV)(v:AV):Prop:=v∈odd\/∃ x,v=.str x/\bp x=true
section
variable{h:AH}{L K:Nat}{kx:ZH}
def pD(e:h[K]?=some (.dct false (kx.map (kG gS))))(eL:∃ N:Int,h[L]?=some (.lst [.int N]))(KL:K≠L)(ct:kx.length<=50)(nm:∀ e∈kx,bp e.1=true){odd:List AV}(o1:0<odd.length)(o2:odd.length<=20) :
  ∃ v h',fw [.ref L,.ref K,.fl odd] h=.ok v h'/\Fr L h h'/\Nm odd v:=by
 have F0:Fr L h h:=⟨λ_ _ _=>rfl,Nk _,eL⟩
 have so:=AE e ct nm;obtain⟨W,eW⟩:∃ W,W=iA (kx.map (·.1)):=⟨_,rfl⟩
 have wm:∀ x∈W,bp x=true:=λx hx=>by
  rw[eW] at hx;obtain⟨e,he,rfl⟩:=Pp.mp ((iB _).mem_iff.mp hx)
  exact nm e he
 have wl:W.length<=50:=by rw[eW,(iB _).length_eq,Nw];exact ct
 rw[<- eW] at so;obtain⟨kd,N1,hk,t1,F1⟩:=F0.take 8 'd' 'd'
 have t1:aX [.ref L,.int 8] h=.ok (.int kd) (h.set L (.lst [.int N1])):=t1;obtain⟨h1,eh1⟩:∃ h1,h1=h.set L (.lst [.int N1]):=⟨_,rfl⟩
 rw[<- eh1] at t1 F1;obtain⟨PP,ePP⟩:∃ PP:OutS->Prop,PP=λo=>∃ v h',eT o=.ok v h'/\Fr L h h'/\Nm odd v:=⟨_,rfl⟩
 have toP:∀ o,PP o->∃ v h',eT o=.ok v h'/\Fr L h h'/\Nm odd v:=λo z=>by rw[ePP] at z;exact z
 have ofP:∀ v h',Fr L h h'->Nm odd v->PP (.rt v h'):=λv h' a b=>by rw[ePP];exact⟨v,h',rfl,a,b⟩
 clear ePP;refine nt (P:=λo=>∃ v h',o=.ok v h'/\Fr L h h'/\Nm odd v) rfl (toP _ ?_)
 refine cJ (e2:=[some (.ref L),some (.ref K),some (.fl odd),some (.fl (W.map AV.str)),none]) (h2:=h) ?_ ?_
 ·have s:qI (aa 1) [some (.ref L),some (.ref K),some (.fl odd),none,none] h=.ok (.fl (W.map AV.str)) h:=so
  generalize qI (aa 1)=SK,W.map AV.str=Z at *;simp[s]
 refine cJ (e2:=[some (.ref L),some (.ref K),some (.fl odd),some (.fl (W.map AV.str)),some (.int kd)]) (h2:=h1) ?_ ?_
 ·generalize aX=G,W.map AV.str=Z at *;simp[t1]
 have k0:(aD (ag az (aa 4) (ae (.int 0)))) [some (.ref L),some (.ref K),some (.fl odd),some (.fl (W.map AV.str)),some (.int kd)] h1=.ok (decide (kd=0)) h1:=by
  by_cases z:kd=0
  ·subst z;simp
  ·have:¬ (kd:Int)=0:=by lia
   simp[z]
 by_cases z0:kd=0
 ·obtain⟨i,N2,hi,t2,F2⟩:=F1.take odd.length o1 (Np o2 'd')
  have ev:odd[i]?=some odd[i]:=Nx hi;have ix:=pC ev (h1.set L (.lst [.int N2]));have q:ag ao (aa 2) (ar aX (ah (aa 0) (ah (ar aB (ah (aa 2) af)) af))) [some (.ref L),some (.ref K),some (.fl odd),some (.fl (W.map AV.str)),some (.int kd)] h1=.ok odd[i] (h1.set L (.lst [.int N2])):=by
   generalize h1.set L (.lst [.int N2])=h2,aX=G,W.map AV.str=Z at *;simp[t2,ix,-ao]
  rw[NO z0] at k0;have s:∀ {a:SE} {b:SS} {en:En} {v:AV} {hx:AH},a en h1=.ok v hx->(aD (ag az (aa 4) (ae (.int 0)))) en h1=.ok true h1->ai (aG (aD (ag az (aa 4) (ae (.int 0)))) (ak a) aH) b en h1=.rt v hx:=λ{a b en v hx} e1 e2=>by
   generalize aD (ag az (aa 4) (ae (.int 0)))=C at *;simp[e1,e2]
  rw[s q k0];exact ofP _ _ F2 (.inl (OZ hi))
 rw[NJ z0] at k0;refine dG k0 ?_
 have k3:(nU (aD (ag dy (aa 4) (ae (.int 3)))) (aD (ag az (aa 3) (aK af)))) [some (.ref L),some (.ref K),some (.fl odd),some (.fl (W.map AV.str)),some (.int kd)] h1=.ok (decide (kd<3) || decide (W=[])) h1:=by
  have q1:dy (.int kd) (.int 3) h1=.ok (.bl (decide (kd<3))) h1:=KR kd 3 h1;have q2:=LQ W h1;generalize (kd:Int)=KD,W.map AV.str=Z,decide (kd<3)=bk,decide (W=[])=bw at *
  cases bk<;>cases bw<;>simp[q1,q2,-az,-dy]
 by_cases z1:(decide (kd<3) || decide (W=[]))=true
 ·obtain⟨i,N2,hi,t2,F2⟩:=F1.take 6 'd' 'd'
  have t2:aX [.ref L,.int 6] h1=.ok (.int i) (h1.set L (.lst [.int N2])):=t2;have ev:(six.map AV.str)[i]?=some (.str six[i]):=by rw[NY,Nx (by exact hi)];rfl
  have ix:=pC ev (h1.set L (.lst [.int N2]));have sx:six.map AV.str=[.str "a",.str "ab",.str "b",.str "abcdefgh",.str "zz",.str "q"]:=rfl;rw[sx] at ix;rw[z1] at k3;have q:ag ao (aK (ah (ae (.str "a")) (ah (ae (.str "ab")) (ah (ae (.str "b")) (ah (ae (.str "abcdefgh")) (ah (ae (.str "zz")) (ah (ae (.str "q")) af))))))) (ar aX (ah (aa 0) (ah (ae (.int 6)) af))) [some (.ref L),some (.ref K),some (.fl odd),some (.fl (W.map AV.str)),some (.int kd)] h1=.ok (.str six[i]) (h1.set L (.lst [.int N2])):=by
   generalize h1.set L (.lst [.int N2])=h2,aX=G,W.map AV.str=Z,AV.str six[i]=SI at *;simp[t2,ix,-ao]
  have s:∀ {a:SE} {c:SB} {b:SS} {en:En} {v:AV} {hx:AH},a en h1=.ok v hx->c en h1=.ok true h1->ai (aG c (ak a) aH) b en h1=.rt v hx:=λ{a c b en v hx} e1 e2=>by simp[e1,e2]
  rw[s q k3];exact ofP _ _ F2 (.inr ⟨_,rfl,LR _ (OZ _)⟩)
 rw[Bool.not_eq_true] at z1;rw[z1] at k3;refine dG k3 ?_
 have w0:0<W.length:=by
  cases W with
  |nil=>simp at z1
  |cons x r=>simp
 obtain⟨i,N2,hi,t2,F2⟩:=F1.take W.length w0 (Np wl 'd');have ev:(W.map AV.str)[i]?=some (.str W[i]):=by rw[NY,Nx hi];rfl
 have ix:=pC ev (h1.set L (.lst [.int N2]));have ln:aB [.fl (W.map AV.str)] h1=.ok (.int W.length) h1:=by
  show Out.ok (AV.int (W.map AV.str).length) h1=_
  rw[Nw]
 refine gY (v:=.str W[i]) (h':=h1.set L (.lst [.int N2])) ?_ (ofP _ _ F2 (.inr ⟨_,rfl,wm _ (OZ hi)⟩))
 generalize h1.set L (.lst [.int N2])=h2,aX=G,W.map AV.str=Z,(W.length:Int)=WL,AV.str W[i]=SI at *;simp[ln,t2,ix,-ao,-aB]
abbrev iJ(D:Nat):List AV:=[.str "",.str "A",.str "abcdefghi",.str "a1",.str "a ",.non,.int 7,.bl true,.fl [.str "a"],.tup [.str "a"],.ref D]
abbrev iK(D:Nat):List gc:=[.inl (.str ""),.inl (.str "A"),.inl (.str "abcdefghi"),.inl (.str "a1"),.inl (.str "a "),.inl .none,.inl (.int 7),.inl (.bool true),.inl (.list [.str "a"]),.inl (.tuple [.str "a"]),.inr D]
def LU(e:h[D]?=some (.dct false [])):fQ h (iJ D)=some (iK D):=by
 have t:bf 8 h (.ref D)=none:=by
  show (match h[D]? with|some (.lst xs)=>(bg (bf 7 h) xs).map PyData.list|_=>none)=_
  rw[e]
 have d:gi h (.ref D)=some (.inr D):=by
  unfold gi;rw[t];dsimp only;rw[e]
 have c:∀ {v:AV} {dd:PyData},bf 8 h v=some dd->gi h v=some (.inl dd):=λ{v dd} q=>by unfold gi;rw[q]
 simp only[fQ,d,c (v:=.str "") rfl,c (v:=.str "A") rfl,c (v:=.str "abcdefghi") rfl,c (v:=.str "a1") rfl,c (v:=.str "a ") rfl,c (v:=.non) rfl,c (v:=.int 7) rfl,c (v:=.bl true) rfl,c (v:=.fl [.str "a"]) rfl,c (v:=.tup [.str "a"]) rfl]
def lU{t:gc}(e:h[D]?=some (.dct false []))(ev:gi h v=some t)(c:(iK D).all (jB t)=true):dF v (.fl (iJ D)) h=.ok (.bl ((iK D).any λe=>bM e t)) h:=by
 show (match gi h v,fQ h (iJ D) with|some t,some ts=>if ts.all (jB t)=true then Out.ok (AV.bl (ts.any λe=>bM e t)) h else .bad|_,_=>.bad)=_
 rw[ev,LU e];dsimp only;rw[Nn c]
def AW(e:h[D]?=some (.dct false []))(n:v∈iJ D):fR [v] h=.ok (.bl false) h:=by
 simp only[ND,O0,QS] at n
 rcases n with rfl|rfl|rfl|rfl|rfl|rfl|rfl|rfl|rfl|rfl|rfl
 ·exact pB ∅ ∅ h
 ·exact pB ∅ ∅ h
 ·exact pB ∅ ∅ h
 ·exact pB ∅ ∅ h
 ·exact pB ∅ ∅ h
 ·exact nv rfl 'd'
 ·exact nv rfl 'd'
 ·exact nv rfl 'd'
 ·exact nv rfl 'd'
 ·exact nv rfl 'd'
 ·exact nv (n := "dict") (by simp[e]) 'd'
def wz(e:h[D]?=some (.dct false []))(n:Nm (iJ D) v):∃ b,dF v (.fl (iJ D)) h=.ok (.bl b) h/\(b=false->∃ x,v=.str x/\bp x=true)/\(b=true->v∈iJ D):=by
 have c:∀ {v:AV} {dd:PyData},bf 8 h v=some dd->gi h v=some (.inl dd):=λ{v dd} q=>by unfold gi;rw[q]
 have al:∀ d:PyData,(iK D).all (jB (.inl d))=true:=λd=>by simp[jB]
 rcases n with n|⟨x,rfl,hx⟩
 ·refine⟨true,?_,nofun,λ_=>n⟩
  simp only[ND,O0,QS] at n
  have fin:∀ {v:AV} {d:PyData},bf 8 h v=some d->((iK D).any λe=>bM e (.inl d))=true->dF v (.fl (iJ D)) h=.ok (.bl true) h:=λ{v d} q1 q2=>by rw[lU e (c q1) (al d),q2]
  rcases n with rfl|rfl|rfl|rfl|rfl|rfl|rfl|rfl|rfl|rfl|rfl
  ·exact fin rfl (by simp[bM,PyData.eqv])
  ·exact fin rfl (by simp[bM,PyData.eqv])
  ·exact fin rfl (by simp[bM,PyData.eqv])
  ·exact fin rfl (by simp[bM,PyData.eqv])
  ·exact fin rfl (by simp[bM,PyData.eqv])
  ·exact fin rfl (by simp[bM,PyData.eqv])
  ·exact fin rfl (by simp[bM,PyData.eqv])
  ·exact fin rfl (by simp[bM,PyData.eqv])
  ·exact fin rfl (by simp[bM,PyData.eqv,PyData.eqvAll])
  ·exact fin rfl (by simp[bM,PyData.eqv,PyData.eqvAll])
  ·have t:bf 8 h (.ref D)=none:=by
    show (match h[D]? with|some (.lst xs)=>(bg (bf 7 h) xs).map PyData.list|_=>none)=_
    rw[e]
   have d:gi h (.ref D)=some (.inr D):=by
    unfold gi;rw[t];dsimp only;rw[e]
   rw[lU e d (by simp[jB])];simp[bM]
 ·have nx:∀ y:Str,bp y=false -> ¬ y=x:=λy a b=>by rw[b,hx] at a;cases a
  refine⟨_,lU e (c (v:=.str x) rfl) (al _),λ_=>⟨x,rfl,hx⟩,λq=>?_⟩
  simp[bM,PyData.eqv,nx "" ∅,nx "A" ∅,nx "abcdefghi" ∅,nx "a1" ∅,nx "a " ∅] at q
end
def gt(kx:ZH)(z:Str):Str:=((lk kx z).map (·.2)).getD ""
def i8{z:Str}{v:Nat×Str}(l:lk kx z=some v):gt kx z=v.2:=by unfold gt;rw[l];rfl
def wA(e:h[K]?=some (.dct false (kx.map (kG gS))))(z:Str):fk K (.str z) (.str "") h=.ok (.str (gt kx z)) h:=by
 have k1:dI false (.str z)=true:=rfl;simp only[fk,e,k1,O5,i7]
 unfold gt
 cases lk kx z<;>rfl
def rS(e:h[K]?=some (.dct false (kx.map (kG gS))))(z:Str):cU (.str z) (.ref K) h=.ok (.bl (lk kx z).isNone) h:=by
 simp only[cU,jZ,e,dI,keyOf?,i7]
 cases lk kx z<;>rfl
def Gv(L:Nat)(h:AH)(kx:ZH)(F:Out AV):Prop :=
 ∃ (deed:AV) (due:Str) (pl:AV) (h':AH),F=.ok (.tup [deed,.str due,pl]) h'/\Fr L h h'/\(due="" -> ∃ (x y:Str) (c:Nat) (k:AV) (r:List AV),pl=.str y/\deed=.tup (k :: .str x::r)/\bp x=true/\Gd kx deed x (some y) c/\c<=240000/\y.length<=1000)/\(¬ due="" -> ∀ r,Rw (h' ++ r) kx deed due)
def kl{a b:Str}{k:Bool}{s:SE}(e:s en h=.ok (.bl k) h):ag ao (aK (ah (ae (.str a)) (ah (ae (.str b)) af))) (ar br (ah s af)) en h=.ok (.str (if k=true then b else a)) h:=by
 have a0:atI [AV.str a,.str b] 0=some (.str a):=rfl;have a1:atI [AV.str a,.str b] 1=some (.str b):=rfl
 cases k<;>simp[e,a0,a1]
def lV(pl:AV):Prop:=∃ y,pl=.str y/\bJ y=true/\y.length<=30
def LV(px:bJ x=true):Builtin.Str.occurrences x "\t" 0 x.length 1=[]:=by
 have t9:(Str.ofString "\t")=⟨#[9]⟩:=by decide +kernel
 have hj:∀ j:Nat,x.cps.toList[j]? ≠ some 9:=λj e=>by
  have:=Oa.mp px 9 (NL e);exact absurd this 'd'
 have go:∀ (n i:Nat) (st:Array Nat×Nat),(forIn (List.range' i n) st (StrLaws.occBody x ⟨#[9]⟩ x.length 1)).run.fst=st.1:=by
  intro n;induction n with
  |zero=>intro i st;simp
  |succ n ih =>
   intro i st;rw[List.range'_succ,Ra];unfold StrLaws.occBody
   rw[Nr (by
    rintro⟨⟨_,z⟩,w⟩
    have hi:i<x.length:=z;rw[vc x 9 i hi] at w;exact hj i (by simpa using w))]
   exact ih (i+1) (st.1,st.2)
 show Builtin.Str.occurrences x (Str.ofString "\t") 0 x.length 1=[]
 rw[t9,StrLaws.occ_eq,go]
def jQ {a:Str} {b:Bool} (h:¬ (if b=true then a else("" : Str))=""):b=true:=by
 cases b with
 |true=>rfl
 |false=>exact absurd (Nr nofun) h
def LW {pl:AV} (hp:lV pl\/pl∈[AV.non,.int 7,.str "a\t",.fl [.str "a"],.bl true,.str "\t"]) (o0 o1 o2 o3 o4 o5:Option AV) :
  ∃ k,(eY (jq (fh "str" (aa 6))) (ag qg (ae (.str "\t")) (aa 6))) [o0,o1,o2,o3,o4,o5,some pl] h=.ok (.bl k) h/\(k=false->lV pl)/\(k=true->∀ hh,iD [pl] hh=.ok (.bl false) hh):=by
 have st:∀ y:Str,(eY (jq (fh "str" (aa 6))) (ag qg (ae (.str "\t")) (aa 6))) [o0,o1,o2,o3,o4,o5,some (.str y)] h=.ok (.bl (!(Builtin.Str.occurrences y "\t" 0 y.length 1).isEmpty)) h:=λy=>by
  simp[hE]
 rcases hp with⟨y,rfl,a,b⟩|hp
 ·exact⟨_,st y,λ_=>⟨y,rfl,a,b⟩,λk=>by rw[LV a] at k;cases k⟩
 ·simp only[ND,O0,QS] at hp
  rcases hp with rfl|rfl|rfl|rfl|rfl|rfl
  ·exact⟨true,by simp[hE],nofun,λ_ hh=>rR rfl 'd'⟩
  ·exact⟨true,by simp[hE],nofun,λ_ hh=>rR rfl 'd'⟩
  ·have:(!(Builtin.Str.occurrences "a\t" "\t" 0 ("a\t" : Str).length 1).isEmpty)=true:=by decide +kernel
   exact⟨true,by rw[st,this],nofun,λ_ hh=>by rw[qZ _ hh 'd'];rfl⟩
  ·exact⟨true,by simp[hE],nofun,λ_ hh=>rR rfl 'd'⟩
  ·exact⟨true,by simp[hE],nofun,λ_ hh=>rR rfl 'd'⟩
  ·have:(!(Builtin.Str.occurrences "\t" "\t" 0 ("\t" : Str).length 1).isEmpty)=true:=by decide +kernel
   exact⟨true,by rw[st,this],nofun,λ_ hh=>by rw[qZ _ hh 'd'];rfl⟩
def gZ:List AV:=[.str "",.str "A",.str "none"]
def rT(n:Nm gZ v):∃ z,v=.str z/\z.length<=8:=by
 rcases n with n|⟨x,rfl,hx⟩
 ·simp only[gZ,ND,O0,QS] at n
  rcases n with rfl|rfl|rfl
  ·exact⟨_,rfl,by decide⟩
  ·exact⟨_,rfl,by decide⟩
  ·exact⟨_,rfl,by decide⟩
 ·exact⟨x,rfl,wb hx⟩
def AX{a b:SE}{x y:Bool}(ha:a en h=.ok (.bl x) h)(hb:b en h=.ok (.bl y) h):eY a b en h=.ok (.bl (x || y)) h:=by
 cases x<;>simp[ha,hb]
section
variable{P:OutS->Prop}{a b:SS}{c:SB}{x:SE}{en e2:En}{h h1 h2 h3:AH}{v:AV}
def pE(s:c en h=.ok true h1)(s1:x en h1=.ok v h3)(r:P (.rt v h3)):P (ai (aG c (ak x) aH) b en h):=by
 have:ai (aG c (ak x) aH) b en h=.rt v h3:=by simp[s,s1]
 rw[this];exact r
def iL{w:OutS}(s:c en h=.ok true h1)(hw:a en h1=w)(hr:∃ v h3,w=.rt v h3)(r:P w):P (ai (aG c a aH) b en h):=by
 obtain⟨v,h3,rfl⟩:=hr;have:ai (aG c a aH) b en h=.rt v h3:=by simp[s,hw]
 rw[this];exact r
def aT(s:x en h=.ok v h2)(r:P (b (en.set i (some v)) h2)):P (ai (au i x) b en h):=by
 have:ai (au i x) b en h=b (en.set i (some v)) h2:=by simp[s]
 rw[this];exact r
end
def pF{a b c:SE}{x y z:AV}(ha:a en h=.ok x h)(hb:b en h=.ok y h)(hc:c en h=.ok z h):aS (ah a (ah b (ah c af))) en h=.ok (.tup [x,y,z]) h:=by
 simp[ha,hb,hc]
def LX(e:h[K]?=some (.dct false (kx.map (kG gS))))(eL:∃ N:Int,h[L]?=some (.lst [.int N]))(KL:K≠L)(ct:kx.length<=50)(nm:∀ e∈kx,bp e.1=true/\e.2.2.length<=300):Gv L h kx (mV [.ref L,.ref K] h):=by
 have lK:=bX e;obtain⟨N0,eN0⟩:=eL;have lL:=bX eN0;obtain⟨D,eD⟩:∃ D,D=h.length:=⟨_,rfl⟩
 obtain⟨h0,eh0⟩:∃ h0,h0=h++[AO.dct false []]:=⟨_,rfl⟩
 have F0:Fr L h h0:=by rw[eh0];exact(⟨λ_ _ _=>rfl,Nk _,N0,eN0⟩:Fr L h h).app _
 have D0:h0[D]?=some (.dct false []):=by rw[eh0,eD];simp
 have n0:h0.length=D+1:=by rw[eh0,NV,eD];rfl
 have e0:=(F0.fr K lK KL).trans e;have nm1:∀ e∈kx,bp e.1=true:=λe he=>(nm e he).1
 obtain⟨v,h1,t1,F1,n1⟩:=pD e0 F0.ro KL ct nm1 (odd:=iJ D) (show 0<11 by decide) (show 11<=20 by decide);obtain⟨k3,N2,hk3,t2,F2⟩:=(⟨λ_ _ _=>rfl,Nk _,F1.ro⟩:Fr L h1 h1).take 3 'd' 'd';have t2:aX [.ref L,.int 3] h1=.ok (.int k3) (h1.set L (.lst [.int N2])):=t2;obtain⟨h2,eh2⟩:∃ h2,h2=h1.set L (.lst [.int N2]):=⟨_,rfl⟩
 rw[<- eh2] at t2 F2;have F02:=F0.trans (F1.trans F2)
 have F12:=F1.trans F2;have e2:=(F02.fr K lK KL).trans e;have D2:=(F12.fr D ⋯ ⋯).trans D0;obtain⟨PP,ePP⟩:∃ PP:OutS->Prop,PP=λo=>Gv L h kx (eT o):=⟨_,rfl⟩
 have toP:∀ o,PP o->Gv L h kx (eT o):=λo z=>by rw[ePP] at z;exact z
 have ofP:∀ o,Gv L h kx (eT o)->PP o:=λo z=>by rw[ePP];exact z
 clear ePP;refine nt (P:=Gv L h kx) rfl (toP _ ?_)
 have r1:∀ en:En,aK (ah (ae (.str "")) (ah (ae (.str "A")) (ah (ae (.str "abcdefghi")) (ah (ae (.str "a1")) (ah (ae (.str "a ")) (ah (ae .non) (ah (ae (.int 7)) (ah (ae (.bl true)) (ah (aK (ah (ae (.str "a")) af)) (ah (aS (ah (ae (.str "a")) af)) (ah (kR false) af))))))))))) en h=.ok (.fl (iJ D)) h0:=λen=>by
  rw[eh0,eD];simp
 refine aT (r1 _) ?_
 obtain⟨O,eO⟩:∃ O,O=AV.fl (iJ D):=⟨_,rfl⟩
 rw[<- eO] at t1 ⊢;refine aT (v:=v) (h2:=h1) ?_ ?_
 ·exact t1
 have c3:(aD (ag az (ar aX (ah (aa 0) (ah (ae (.int 3)) af))) (ae (.int 0)))) [some (.ref L),some (.ref K),some O,some v,none,none,none] h1=.ok (decide (k3=0)) h2:=by
  generalize aX=G at *;by_cases z:k3=0
  ·subst z;simp[t2]
  ·have:¬ (k3:Int)=0:=by lia
   simp[t2,z,this]
 obtain⟨b2,i2,j2,_⟩:=wz D2 n1;rw[<- eO] at i2;by_cases z3:k3=0
 ·rw[NO z3] at c3
  obtain⟨v2,h3,t3,F3,n3⟩:=pD e2 F2.ro KL ct nm1 (odd:=gZ) 'd' 'd';obtain⟨z,rfl,lz⟩:=rT n3;have F03:=F02.trans F3;have e3:=(F03.fr K lK KL).trans e;have D3:=((F12.trans F3).fr D ⋯ ⋯).trans D0;obtain⟨b,ib,jb,kb⟩:=wz D3 n1;rw[<- eO] at ib;have ni:=rS e3 z
  have gk:=wA e3 z;have du:=kl (a := "") (b := "NoName") (AX (a:=ag dF (aa 3) (aa 2)) (b:=ag cU (aa 4) (aa 1)) (en:=[some (.ref L),some (.ref K),some O,some v,some (.str z),none,none]) (h:=h3) (x:=b) (y:=(lk kx z).isNone) (by simp[ib]) (by simp[ni,-cU]));refine iL c3 (w:=.rt (.tup [.tup [.str "copy_of",v,.str z],.str (if (b || (lk kx z).isNone)=true then "NoName" else ""),.str (gt kx z)]) h3) ?_ ⟨_,_,rfl⟩ (ofP _ ⟨_,_,_,h3,rfl,F03,λhd=>?_,λhd r=>?_⟩)
  ·refine aT (P:=λo=>o=_) (v:=.str z) (h2:=h3) ?_ (aT (P:=λo=>o=_) du ?_)
   ·have t3:fw [.ref L,.ref K,.fl [.str "",.str "A",.str "none"]] h2=.ok (.str z) h3:=t3
    exact t3
   ·have sg:fo (aa 1) (aa 4) (ae (.str "")) [some (.ref L),some (.ref K),some O,some v,some (.str z),some (.str (if (b || (lk kx z).isNone)=true then "NoName" else "")),none] h3=.ok (.str (gt kx z)) h3:=by
     simp[fo,e3,gk]
    have tt:aS (ah (ae (.str "copy_of")) (ah (aa 3) (ah (aa 4) af))) [some (.ref L),some (.ref K),some O,some v,some (.str z),some (.str (if (b || (lk kx z).isNone)=true then "NoName" else "")),none] h3=.ok (.tup [.str "copy_of",v,.str z]) h3:=pF rfl rfl rfl;have:=pF (b:=aa 5) tt rfl sg;show ak _ _ _=_
    unfold ak;exact(congrArg (λo=>Out.go o _ _) this)
  ·cases hb:b with
   |true=>rw[hb,Bool.true_or,Nn rfl] at hd;exact absurd hd ∅
   |false =>
    obtain⟨x,rfl,hx⟩:=jb hb
    cases hl:lk kx z with
    |none=>rw[hb,hl] at hd;exact absurd hd ∅
    |some w =>
     refine⟨x,w.2,0,_,_,by rw[i8 hl],rfl,hx,.copy hx hl,by lia,?_⟩
     have:w.2.length<=300:=(nm _ (cC hl)).2
     lia
  ·have q:=jQ hd
   rw[Nn q]
   cases hb:b with
   |true=>exact LO (AW (by rw[Nt (bX D3)];exact D3) (kb hb))
   |false =>
    rw[hb,Bool.false_or] at q;obtain⟨x,rfl,hx⟩:=jb hb
    exact LP hx (OG.mp q) ⋯
 rw[NJ z3] at c3;refine dG c3 ?_
 obtain⟨N3,e3L⟩:=F2.ro;obtain⟨y,N4,fp,py,ly,_⟩:=Aw 30 'd' e3L;have fp:i6 [.ref L,.int 30] h2=.ok (.str y) (h2.set L (.lst [.int N4])):=fp;have F4:=(⟨λ_ _ _=>rfl,Nk _,N3,e3L⟩:Fr L h2 h2).set N4;obtain⟨h4,eh4⟩:∃ h4,h4=h2.set L (.lst [.int N4]):=⟨_,rfl⟩
 rw[<- eh4] at fp F4;refine aT (v:=.str y) (h2:=h4) ?_ ?_
 ·exact fp
 obtain⟨k10,N5,hk10,t5,F5⟩:=F4.take 10 'd' 'd';have t5:aX [.ref L,.int 10] h4=.ok (.int k10) (h4.set L (.lst [.int N5])):=t5;obtain⟨h5,eh5⟩:∃ h5,h5=h4.set L (.lst [.int N5]):=⟨_,rfl⟩
 rw[<- eh5] at t5 F5;obtain⟨k6,N6,hk6,t6,F6⟩:=F5.take 6 'd' 'd'
 have t6:aX [.ref L,.int 6] h5=.ok (.int k6) (h5.set L (.lst [.int N6])):=t6;obtain⟨h6,eh6⟩:∃ h6,h6=h5.set L (.lst [.int N6]):=⟨_,rfl⟩
 rw[<- eh6] at t6 F6;have c10:(aD (ag az (ar aX (ah (aa 0) (ah (ae (.int 10)) af))) (ae (.int 0)))) [some (.ref L),some (.ref K),some O,some v,none,none,some (.str y)] h4=.ok (decide (k10=0)) h5:=by
  generalize aX=G at *;by_cases z:k10=0
  ·subst z;simp[t5]
  ·have:¬ (k10:Int)=0:=by lia
   simp[t5,z,this]
 obtain⟨pl,h7,s7,F7,hp⟩:∃ pl h7,aG (aD (ag az (ar aX (ah (aa 0) (ah (ae (.int 10)) af))) (ae (.int 0)))) (au 6 (ag ao (aK (ah (ae .non) (ah (ae (.int 7)) (ah (ae (.str "a\t")) (ah (aK (ah (ae (.str "a")) af)) (ah (ae (.bl true)) (ah (ae (.str "\t")) af))))))) (ar aX (ah (aa 0) (ah (ae (.int 6)) af))))) aH [some (.ref L),some (.ref K),some O,some v,none,none,some (.str y)] h4=.nx [some (.ref L),some (.ref K),some O,some v,none,none,some pl] h7/\Fr L h2 h7/\(lV pl\/pl∈[AV.non,.int 7,.str "a\t",.fl [.str "a"],.bl true,.str "\t"]):=by
  by_cases z:k10=0
  ·rw[NO z] at c10
   have ev:([AV.non,.int 7,.str "a\t",.fl [.str "a"],.bl true,.str "\t"]:List AV)[k6]?=some ([AV.non,.int 7,.str "a\t",.fl [.str "a"],.bl true,.str "\t"]:List AV)[k6]:=Nx hk6;have ix:=pC ev h6;have mm:([AV.non,.int 7,.str "a\t",.fl [.str "a"],.bl true,.str "\t"]:List AV)[k6]∈([AV.non,.int 7,.str "a\t",.fl [.str "a"],.bl true,.str "\t"]:List AV):=OZ _;generalize ([AV.non,.int 7,.str "a\t",.fl [.str "a"],.bl true,.str "\t"]:List AV)[k6]=pl at ix mm
   refine⟨pl,h6,?_,F6,.inr mm⟩
   generalize aX=G,aD (ag az (ar aX (ah (aa 0) (ah (ae (.int 10)) af))) (ae (.int 0)))=C at *;simp[c10,t6,ix,-ao]
  ·rw[NJ z] at c10
   refine⟨.str y,h5,?_,F5,.inl ⟨y,rfl,py,ly⟩⟩
   generalize aD (ag az (ar aX (ah (aa 0) (ah (ae (.int 10)) af))) (ae (.int 0)))=C at *;simp[c10]
 refine cJ s7 ?_
 obtain⟨kb,dk,pk,pn⟩:=LW (h:=h7) hp (some (.ref L)) (some (.ref K)) (some O) (some v) none none;have du:=kl (a := "") (b := "NoText") dk;refine aT du ?_
 have D7:=((F12.trans F7).fr D ⋯ ⋯).trans D0;obtain⟨b,ib,jb,kb7⟩:=wz D7 n1;rw[<- eO] at ib;have c7:∀ w,(aD (ag dF (aa 3) (aa 2))) [some (.ref L),some (.ref K),some O,some v,none,w,some pl] h7=.ok b h7:=λw=>by simp[ib]
 obtain⟨due,edue⟩:∃ due:Str,due=if b=true then("NoName" : Str) else if kb=true then("NoText" : Str) else("" : Str):=⟨_,rfl⟩
 refine cJ (e2:=[some (.ref L),some (.ref K),some O,some v,none,some (.str due),some pl]) (h2:=h7) ?_ ?_
 ·have c8:=c7 (some (.str (if kb=true then "NoText" else "")))
  show aG (aD (ag dF (aa 3) (aa 2))) (au 5 (ae (.str "NoName"))) aH [some (.ref L),some (.ref K),some O,some v,none,some (.str (if kb=true then "NoText" else "")),some pl] h7=_
  generalize aD (ag dF (aa 3) (aa 2))=C at *;rw[edue]
  cases b<;>simp[c8]
 refine gY (v:=.tup [.tup [.str "give",v,pl],.str due,pl]) (h':=h7) ?_ (ofP _ ⟨_,_,_,h7,rfl,F02.trans F7,λhd=>?_,λhd r=>?_⟩)
 ·simp
 ·rw[edue] at hd
  cases hb:b with
  |true=>rw[hb,Nn rfl] at hd;exact absurd hd ∅
  |false =>
   cases hkb:kb with
   |true=>rw[hb,hkb] at hd;exact absurd hd ∅
   |false =>
    obtain⟨x,rfl,hx⟩:=jb hb;obtain⟨y',rfl,py',ly'⟩:=pk hkb;exact⟨x,y',2*y'.length,_,_,rfl,rfl,hx,.give hx py' ⋯,by lia,by lia⟩
 ·rw[edue] at hd ⊢
  cases hb:b with
  |true=>rw[Nn rfl];exact LM (AW (by rw[Nt (bX D7)];exact D7) (kb7 hb))
  |false =>
   rw[hb,Nr nofun] at hd;have q:=jQ hd
   rw[Nr nofun,Nn q];obtain⟨x,rfl,hx⟩:=jb hb
   exact LN hx (pn q _)
def wB(i:Int)(h:AH):fg [.int 0,.int i] h=.ok (.int (i.toNat:Nat)) h:=by
 have:fg [.int 0,.int i] h=.ok (.int (if i > 0 then i else 0)) h:=rfl
 rw[this];congr 2
 split<;>lia
def LY(k:Nat)(h:AH):mz [.int 3,.int k] h=.ok (.int (min 3 k:Nat)) h:=by
 have:mz [.int 3,.int k] h=.ok (.int (if (k:Int)<3 then(k:Int) else 3)) h:=rfl
 rw[this];congr 2
 split<;>lia
def rV{a b:SE}{u:Str}(ha:a en h=.ok (.str u) h)(hb:b en h=.ok (.str w) h):fP a b en h=.ok (.str (if u="" then w else u)) h:=by
 by_cases q:u=""
 ·subst q
  have:(("" : Str).length:Int)=0:=rfl
  simp[ha,hb,this]
 ·have:¬ u.length=0:=λz=>q (bZ (by rw[cy] at z;rw[OQ.mp z];rfl))
  simp[ha,q,this]
def AY(y:Str)(c:Nat)(h:AH):∃ z,dE (.str y) (some (c:Int)) none h=.ok (.str z) h/\z.length<=y.length/\(c<=y.length->z=dq y c):=by
 refine⟨bG y (some (c:Int)) none,rfl,?_,λhc=>?_⟩
 ·simp[bG,Str.length];lia
 ·have:=Ao hc h
  have e:dE (.str y) (some (c:Int)) none h=.ok (.str (bG y (some (c:Int)) none)) h:=rfl;rw[e] at this;injection this with a _
  injection a
def rW(h:AH)(hl:x.length+y.length<=5000):ay (.str x) (.str y) h=.ok (.str (x++y)) h:=by
 have:x.length+y.length<=sizeLine:=Np hl 'd'
 simp only[ay,this,O5]
def AZ(nm:∀ e∈kx,bp e.1=true/\e.2.2.length<=300)(z:Str):(gt kx z).length<=300:=by
 unfold gt
 cases l:lk kx z with
 |none=>exact NU _
 |some v=>exact(nm _ (cC l)).2
def none_of(h:o.isNone=false):∃ v,o=some v:=by
 cases o with
 |none=>cases h
 |some v=>exact⟨v,rfl⟩
def A0 {b:Bool} (h:(if b=true then("NoName" : Str) else("" : Str))=""):b=false:=by
 cases b with
 |true=>exact absurd h ∅
 |false=>rfl
def rX {a:Str} {b:Bool} (n:¬ a="") (h:(if b=true then a else("" : Str))=""):b=false:=by
 cases b with
 |true=>exact absurd h n
 |false=>rfl
def rY {u:Str} (h:(if u="" then w else u)=""):u="" /\ w="" := by
 by_cases q:u=""
 ·rw[Nn q] at h;exact⟨q,h⟩
 ·rw[Nr q] at h;exact absurd h q
abbrev pG(L K:Nat)(kd:Int)(x z y1 y2 g b:Str)(a e:Int)(o11 o12:Option AV):En:=[some (.ref L),some (.ref K),some (.int kd),some (.str x),some (.str z),some (.str y1),some (.str y2),some (.str g),some (.str b),some (.int a),some (.int e),o11,o12]
def LZ(e:h[K]?=some (.dct false (kx.map (kG gS))))(eL:∃ N:Int,h[L]?=some (.lst [.int N]))(KL:K≠L)(ct:kx.length<=50)(nm:∀ e∈kx,bp e.1=true/\e.2.2.length<=300):Gv L h kx (mW [.ref L,.ref K] h):=by
 have lK:=bX e;have nm1:∀ e∈kx,bp e.1=true:=λe he=>(nm e he).1
 have F0:Fr L h h:=⟨λ_ _ _=>rfl,Nk _,eL⟩
 obtain⟨kd,N1,hk,t1,F1⟩:=F0.take 4 'd' 'd';have t1:aX [.ref L,.int 4] h=.ok (.int kd) (h.set L (.lst [.int N1])):=t1;obtain⟨h1,eh1⟩:∃ h1,h1=h.set L (.lst [.int N1]):=⟨_,rfl⟩
 rw[<- eh1] at t1 F1;obtain⟨v1,h2,t2,F2,n2⟩:=pD ((F1.fr K lK KL).trans e) F1.ro KL ct nm1 (odd:=gZ) 'd' 'd'
 obtain⟨x,rfl,lx⟩:=rT n2;have F02:=F1.trans F2;obtain⟨v2,h3,t3,F3,n3⟩:=pD ((F02.fr K lK KL).trans e) F2.ro KL ct nm1 (odd:=gZ) 'd' 'd';obtain⟨z,rfl,lz⟩:=rT n3;have t2:fw [.ref L,.ref K,.fl [.str "",.str "A",.str "none"]] h1=.ok (.str x) h2:=t2;have t3:fw [.ref L,.ref K,.fl [.str "",.str "A",.str "none"]] h2=.ok (.str z) h3:=t3;have F03:=F02.trans F3;have e3:=(F03.fr K lK KL).trans e;have g1:=wA e3 x;have g2:=wA e3 z;have ni1:=rS e3 x;have ni2:=rS e3 z;have l1:=AZ nm x;have l2:=AZ nm z;obtain⟨y1,ey1⟩:∃ y1,y1=gt kx x:=⟨_,rfl⟩
 obtain⟨y2,ey2⟩:∃ y2,y2=gt kx z:=⟨_,rfl⟩
 rw[<- ey1] at g1 l1;rw[<- ey2] at g2 l2;have len3:∀ hx,aB [.str y1] hx=.ok (.int y1.length) hx:=λ_=>rfl
 have ad3:∀ hx,ay (.int y1.length) (.int 3) hx=.ok (.int ((y1.length+3:Nat):Int)) hx:=λhx=>pj rfl hx
 obtain⟨a,N4,ha,t4,F4⟩:=F03.take (y1.length+3) ⋯ (Np (m:=303) ⋯ 'd');obtain⟨h4,eh4⟩:∃ h4,h4=h3.set L (.lst [.int N4]):=⟨_,rfl⟩
 rw[<- eh4] at t4 F4;obtain⟨b,N5,hb,t5,F5⟩:=F4.take (y1.length+3) ⋯ (Np (m:=303) ⋯ 'd')
 obtain⟨h5,eh5⟩:∃ h5,h5=h4.set L (.lst [.int N5]):=⟨_,rfl⟩
 rw[<- eh5] at t5 F5;obtain⟨gn,egn⟩:∃ gn:Str,gn=if (lk kx x).isNone=true then("NoName" : Str) else("" : Str):=⟨_,rfl⟩
 obtain⟨bo,ebo⟩:∃ bo:Str,bo=if ((lk kx x).isNone || (lk kx z).isNone)=true then("NoName" : Str) else("" : Str):=⟨_,rfl⟩
 have bo_ok:bo="" -> ∃ v w,lk kx x=some v/\lk kx z=some w:=λq=>by
  rw[ebo] at q;have:=A0 q
  rw[Bool.or_eq_false_iff] at this;obtain⟨v,ev⟩:=none_of this.1
  obtain⟨w,ew⟩:=none_of this.2;exact⟨v,w,ev,ew⟩
 have gn_ok:gn="" -> ∃ v,lk kx x=some v:=λq=>by
  rw[egn] at q;exact none_of (A0 q)
 obtain⟨PP,ePP⟩:∃ PP:OutS->Prop,PP=λo=>Gv L h kx (eT o):=⟨_,rfl⟩
 have toP:∀ o,PP o->Gv L h kx (eT o):=λo z=>by rw[ePP] at z;exact z
 have ofP:∀ o,Gv L h kx (eT o)->PP o:=λo z=>by rw[ePP];exact z
 clear ePP;refine nt (P:=Gv L h kx) rfl (toP _ ?_)
 refine aT (v:=.int kd) (h2:=h1) ?_ ?_
 ·exact t1
 refine aT (v:=.str x) (h2:=h2) ?_ ?_
 ·exact t2
 refine aT (v:=.str z) (h2:=h3) ?_ ?_
 ·exact t3
 refine aT (v:=.str y1) (h2:=h3) ?_ ?_
 ·simp[fo,e3,g1]
 refine aT (v:=.str y2) (h2:=h3) ?_ ?_
 ·simp[fo,e3,g2]
 refine aT (v:=.str gn) (h2:=h3) ?_ ?_
 ·rw[egn]
  exact kl (by simp[ni1,-cU])
 refine aT (v:=.str bo) (h2:=h3) ?_ ?_
 ·rw[ebo]
  exact kl (AX (by simp[ni1,-cU]) (by simp[ni2,-cU]))
 refine aT (v:=.int ((a:Int)-1)) (h2:=h4) ?_ ?_
 ·have sb:bH (.int a) (.int 1) h4=.ok (.int ((a:Int)-1)) h4:=rfl
  have q1:=len3 h3;have q2:=ad3 h3;clear len3 ad3 t5;generalize aX=G,(a:Int)-1=A1,(y1.length:Int)=Y1,((y1.length+3:Nat):Int)=Y3 at *;simp[q1,q2,t4,sb,-bH,-ay,-aB]
 refine aT (v:=.int ((b:Int)-1)) (h2:=h5) ?_ ?_
 ·have sb:bH (.int b) (.int 1) h5=.ok (.int ((b:Int)-1)) h5:=rfl
  have q1:=len3 h4;have q2:=ad3 h4;clear len3 ad3 t4;generalize aX=G,(b:Int)-1=B1,(a:Int)-1=A1,(y1.length:Int)=Y1,((y1.length+3:Nat):Int)=Y3 at *;simp[q1,q2,t5,sb,-bH,-ay,-aB]
 have ck:∀ c:Nat,(aD (ag az (aa 2) (ae (.int c)))) (pG L K kd x z y1 y2 gn bo ((a:Int)-1) ((b:Int)-1) none none) h5=.ok (decide (kd=c)) h5:=λc=>by
  by_cases q:kd=c
  ·subst q;simp
  ·have:¬ (kd:Int)=c:=by lia
   simp[q,this]
 have nle:∀ {s t:Str},bp x=true->True:=λ_=>trivial
 have chain:∀ (u:Option AV) (w:Option AV),eQ aV aV (ae (.int 0)) (aa 9) (ar aB (ah (aa 5) af)) (pG L K kd x z y1 y2 gn bo ((a:Int)-1) ((b:Int)-1) u w) h5=.ok (.bl (decide (0<=(a:Int)-1) && decide ((a:Int)-1<=y1.length))) h5:=λu w=>by
  have q:=len3 h5;generalize (y1.length:Int)=Y1,(a:Int)-1=A1 at *;by_cases z0:0<=A1<;>simp[z0,q,-aB]
 have tka:(bN y1 (a-1)).length<=300:=by rw[wc];(clear chain nle ck ofP toP gn_ok bo_ok ebo egn eh5 t5 F5 hb eh4 t4 F4 ha ad3 len3 ey2 g2 l2 ey1 g1 ni2 ni1 e3 F03 t3 t2 n3 lz F3 F02 n2 lx F2 eh1 t1 F1 hk F0 nm1 lK nm ct KL eL e;lia)
 have at1:((a:Int)-1).toNat=a-1:=by lia
 have bt1:((b:Int)-1).toNat=b-1:=by lia
 have mxa:=wB ((a:Int)-1) h5;rw[at1] at mxa;have mxb:=wB ((b:Int)-1) h5
 rw[bt1] at mxb;have cta:=An (x:=y1) (a:=a-1) h5
 obtain⟨da,cda,lda,oda⟩:=AY y1 (a-1) h5;obtain⟨db,cdb,ldb,odb⟩:=AY y1 (b-1) h5;by_cases k0:kd=0
 ·have ad:=rW (x:=y1) (y:=y2) h5 ⋯
  refine pE (h1:=h5) (v:=.tup [.tup [.str "join_to",.str x,.str z],.str bo,.str (y1++y2)]) (h3:=h5) ((ck 0).trans (by rw[NO k0])) ?_ (ofP _ ⟨_,_,_,h5,rfl,F5,λhd=>?_,λhd r=>?_⟩)
  ·simp[ad,-ay]
  ·obtain⟨v,w,lv,lw⟩:=bo_ok hd
   rw[i8 lv] at ey1;have lv2:v.2.length<=300:=(nm _ (cC lv)).2
   rw[i8 lw] at ey2;have lw2:w.2.length<=300:=(nm _ (cC lw)).2
   rw[ey1,ey2];exact⟨x,v.2++w.2,240000,_,_,rfl,rfl,nm1 _ (cC lv),.join lv lw ⋯,Nk _,by rw[pq];lia⟩
  ·rw[ebo] at hd ⊢
   have q:=jQ hd;rw[Nn q];exact LB q ⋯ ⋯
 refine dG (h1:=h5) ((ck 0).trans (by rw[NJ k0])) ?_
 by_cases k1:kd=1
 ·have ad:=rW (x:=bN y1 (a-1)) (y:=y2) h5 ⋯
  have ad2:=rW (x:=bN y1 (a-1)++y2) (y:=da) h5 (by rw[pq];lia)
  obtain⟨pb,epb⟩:∃ pb,pb=!(decide (0<=(a:Int)-1) && decide ((a:Int)-1<=y1.length)):=⟨_,rfl⟩
  have du:=rV (a:=aa 8) (b:=ag ao (aK (ah (ae (.str "")) (ah (ae (.str "NoPlace")) af))) (ar br (ah (jq (eQ aV aV (ae (.int 0)) (aa 9) (ar aB (ah (aa 5) af)))) af))) (en:=pG L K kd x z y1 y2 gn bo ((a:Int)-1) ((b:Int)-1) none none) (h:=h5) (u:=bo) (w:=if pb=true then("NoPlace" : Str) else("" : Str)) rfl (kl (by
   have:=chain none none;rw[epb];generalize eQ aV aV (ae (.int 0)) (aa 9) (ar aB (ah (aa 5) af))=C at *;simp[this]))
  refine iL (h1:=h5) ((ck 1).trans (by rw[NO k1])) (w:=.rt (.tup [.tup [.str "put_into",.str x,.int ((a:Int)-1),.str z],.str (if bo="" then(if pb=true then("NoPlace" : Str) else("" : Str)) else bo),.str (bN y1 (a-1)++y2++da)]) h5) ?_ ⟨_,_,rfl⟩ (ofP _ ⟨_,_,_,h5,rfl,F5,λhd=>?_,λhd r=>?_⟩)
  ·refine aT (P:=λo=>o=_) du ?_
   generalize ((a-1:Nat):Int)=A2,(a:Int)-1=A1,bN y1 (a-1)=R2,bN y1 (a-1)++y2=R1,bN y1 (a-1)++y2++da=R,(if bo="" then(if pb=true then("NoPlace" : Str) else("" : Str)) else bo)=DU at *;simp[mxa,cta,cda,ad,ad2,-fg,-dE,-ay]
  ·obtain⟨q1,q2⟩:=rY hd
   have q3:=rX ∅ q2;obtain⟨v,w,lv,lw⟩:=bo_ok q1;rw[epb] at q3;simp only[RU,N7,Oz] at q3
   have ea:(a:Int)-1=((a-1:Nat):Int):=by lia
   have ed:=oda ⋯;rw[ea,ed];rw[i8 lv] at ey1;have lv2:v.2.length<=300:=(nm _ (cC lv)).2
   rw[i8 lw] at ey2;have lw2:w.2.length<=300:=(nm _ (cC lw)).2
   have la:a-1<=v.2.length:=by rw[<- ey1];lia
   rw[ey1,ey2];exact⟨x,bN v.2 (a-1)++w.2++dq v.2 (a-1),240000,_,_,rfl,rfl,nm1 _ (cC lv),.put lv lw la ⋯,Nk _,by rw[pq,pq,wc,nk];lia⟩
  ·by_cases qb:bo=""
   ·obtain⟨v,w,lv,lw⟩:=bo_ok qb
    rw[Nn qb] at hd ⊢;have qp:=jQ hd
    rw[Nn qp];refine LD lv lw λu=>?_
    have u2:=u.2;rw[<- i8 lv,<- ey1] at u2;rw[epb,NO u.1,NO u2] at qp
    cases qp
   ·rw[Nr qb]
    rw[ebo] at qb ⊢;have q:=jQ qb
    rw[Nn q];exact LC q ⋯ ⋯
 refine dG (h1:=h5) ((ck 1).trans (by rw[NJ k1])) ?_
 by_cases k2:kd=2
 ·have ad:=rW (x:=bN y1 (a-1)) (y:=db) h5 ⋯
  obtain⟨pb,epb⟩:∃ pb,pb=!(decide (0<=(a:Int)-1) && (decide ((a:Int)-1<=(b:Int)-1) && decide ((b:Int)-1<=y1.length))):=⟨_,rfl⟩
  have du:=rV (a:=aa 7) (b:=ag ao (aK (ah (ae (.str "")) (ah (ae (.str "NoPlace")) af))) (ar br (ah (jq (iX aV aV aV (ae (.int 0)) (aa 9) (aa 10) (ar aB (ah (aa 5) af)))) af))) (en:=pG L K kd x z y1 y2 gn bo ((a:Int)-1) ((b:Int)-1) none none) (h:=h5) (u:=gn) (w:=if pb=true then("NoPlace" : Str) else("" : Str)) rfl (kl (by
   have q:=len3 h5;rw[epb];generalize (y1.length:Int)=Y1,(b:Int)-1=B1,(a:Int)-1=A1 at *;by_cases z0:0<=A1
   ·by_cases z1:A1<=B1<;>simp[z0,z1,q,-aB]
   ·simp[z0]))
  refine iL (h1:=h5) ((ck 2).trans (by rw[NO k2])) (w:=.rt (.tup [.tup [.str "take_from",.str x,.int ((a:Int)-1),.int ((b:Int)-1)],.str (if gn="" then(if pb=true then("NoPlace" : Str) else("" : Str)) else gn),.str (bN y1 (a-1)++db)]) h5) ?_ ⟨_,_,rfl⟩ (ofP _ ⟨_,_,_,h5,rfl,F5,λhd=>?_,λhd r=>?_⟩)
  ·refine aT (P:=λo=>o=_) du ?_
   generalize ((b-1:Nat):Int)=B2,(b:Int)-1=B1,((a-1:Nat):Int)=A2,(a:Int)-1=A1,bN y1 (a-1)=R2,bN y1 (a-1)++db=R1,(if gn="" then(if pb=true then("NoPlace" : Str) else("" : Str)) else gn)=DU at *;simp[mxa,cta,mxb,cdb,ad,-fg,-dE,-ay]
  ·obtain⟨q1,q2⟩:=rY hd
   have q3:=rX ∅ q2;obtain⟨v,lv⟩:=gn_ok q1;rw[epb] at q3;simp only[RU,N7,Oz] at q3
   have ea:(a:Int)-1=((a-1:Nat):Int):=by lia
   have eb:(b:Int)-1=((b-1:Nat):Int):=by(clear ea lv q2 hd du epb ad k2 k1 k0 odb ldb cdb lda cda cta mxb mxa bt1 at1 tka chain nle ck ofP toP gn_ok bo_ok ebo egn eh5 t5 F5 hb eh4 t4 F4 ad3 len3 ey2 g2 l2 ey1 g1 l1 ni2 ni1 e3 F03 t3 t2 n3 lz F3 F02 n2 lx F2 eh1 t1 F1 hk F0 nm1 lK nm ct KL eL e;lia)
   have ed:=odb ⋯;rw[ea,eb,ed];rw[i8 lv] at ey1;have lv2:v.2.length<=300:=(nm _ (cC lv)).2
   have la:b-1<=v.2.length:=by rw[<- ey1];lia
   rw[ey1];exact⟨x,bN v.2 (a-1)++dq v.2 (b-1),240000,_,_,rfl,rfl,nm1 _ (cC lv),.take lv ⋯ la ⋯,Nk _,by rw[pq,wc,nk];(clear la lv2 ed ea lv q2 hd du epb ad k2 k1 k0 ldb cdb lda cda cta mxb mxa bt1 at1 tka chain nle ck ofP toP gn_ok bo_ok ebo egn eh5 t5 F5 eh4 t4 F4 ha ad3 len3 ey2 g2 l2 g1 ni2 ni1 e3 F03 t3 t2 n3 lz F3 F02 n2 lx F2 eh1 t1 F1 hk F0 nm1 lK nm ct KL e;lia)⟩
  ·by_cases qb:gn=""
   ·obtain⟨v,lv⟩:=gn_ok qb
    rw[Nn qb] at hd ⊢;have qp:=jQ hd
    rw[Nn qp];refine LG lv λu=>?_
    have u2:=u.2.2;rw[<- i8 lv,<- ey1] at u2;rw[epb,NO u.1,NO u.2.1,NO u2] at qp
    cases qp
   ·rw[Nr qb]
    rw[egn] at qb ⊢;have q:=jQ qb
    rw[Nn q];exact LF (OG.mp q) ⋯
 refine dG (h1:=h5) ((ck 2).trans (by rw[NJ k2])) ?_
 obtain⟨i,N6,hi,t6,F6⟩:=F5.take 6 'd' 'd';have t6:aX [.ref L,.int 6] h5=.ok (.int i) (h5.set L (.lst [.int N6])):=t6;obtain⟨h6,eh6⟩:∃ h6,h6=h5.set L (.lst [.int N6]):=⟨_,rfl⟩
 rw[<- eh6] at t6 F6;obtain⟨mxn,emx,mx1,mx2,mx3⟩:∃ mxn:Nat,fg [.int 1,.int y1.length] h5=.ok (.int mxn) h5/\1<=mxn/\mxn<=300/\(1<=y1.length->mxn=y1.length):=by
  refine⟨max 1 y1.length,?_,by lia,by lia,by lia⟩
  have:fg [.int 1,.int y1.length] h5=.ok (.int (if (y1.length:Int) > 1 then(y1.length:Int) else 1)) h5:=rfl
  rw[this];congr 2
  split<;>lia
 obtain⟨Bg,eBg⟩:∃ Bg:Nat,Bg=1000000000000000000 / mxn+1:=⟨_,rfl⟩
 have Bg1:Bg<=1000000000000000001:=by rw[eBg];have:=Nat.div_le_self 1000000000000000000 mxn;lia
 have dv:cG (.int 1000000000000000000) (.int mxn) h5=.ok (.int ((1000000000000000000 / mxn:Nat):Int)) h5:=by
  have c:(0:Int)<mxn/\(mxn:Int).natAbs<2 ^ 200:=⟨by lia,Nz (m:=300) ⋯ 'd'⟩
  show (if (0:Int)<mxn/\(mxn:Int).natAbs<2 ^ 200 then Out.ok (AV.int (1000000000000000000 / (mxn:Int))) h5 else .bad)=_
  rw[Nn c];rfl
 have pw:bS (.int 10) (.int 18) h5=.ok (.int 1000000000000000000) h5:=by simp[bS]
 have ad1:ay (.int ((1000000000000000000 / mxn:Nat):Int)) (.int 1) h5=.ok (.int Bg) h5:=pj eBg.symm h5;obtain⟨mv,emv,hmv,hmB⟩:∃ mv:Int,([.int 0,.int 1,.int 2,.int 3,.int (-1),.int Bg]:List AV)[i]?=some (.int mv)/\mv<=1000000000000000001/\(3<mv->mv=Bg):=by
  rcases (show i=0\/i=1\/i=2\/i=3\/i=4\/i=5 by lia) with rfl|rfl|rfl|rfl|rfl|rfl
  ·exact⟨_,rfl,by decide,λz=>absurd z 'd'⟩
  ·exact⟨_,rfl,by decide,λz=>absurd z 'd'⟩
  ·exact⟨_,rfl,by decide,λz=>absurd z 'd'⟩
  ·exact⟨_,rfl,by decide,λz=>absurd z 'd'⟩
  ·exact⟨_,rfl,by decide,λz=>absurd z 'd'⟩
  ·exact⟨_,rfl,by lia,λ_=>rfl⟩
 have ixm:=pC emv h6;refine aT (v:=.int mv) (h2:=h6) ?_ ?_
 ·have q:=len3 h5
  have ng:cn (.int 1) h5=.ok (.int (-1)) h5:=rfl;clear mxa mxb cta cda cdb chain ck;generalize aX=G,(-1:Int)=M1,(b:Int)-1=B1,(a:Int)-1=A1,(y1.length:Int)=Y1,(1000000000000000000:Int)=Q2,((1000000000000000000 / mxn:Nat):Int)=Q1 at *;simp[ng,pw,q,emx,dv,ad1,t6,ixm,-cn,-bS,-aB,-fg,-cG,-ay,-ao]
 obtain⟨p3,ep3⟩:∃ p3,p3=(decide (3<mv) && !decide (y1="")):=⟨_,rfl⟩
 have du:=rV (a:=aa 7) (b:=fP (ag ao (aK (ah (ae (.str "")) (ah (ae (.str "NoPlace")) af))) (ar br (ah (ag dy (aa 12) (ae (.int 0))) af))) (ag ao (aK (ah (ae (.str "")) (ah (ae (.str "TooLong")) af))) (ar br (ah (kS (ag cq (aa 12) (ae (.int 3))) (ag fM (aa 5) (ae (.str "")))) af)))) (en:=pG L K kd x z y1 y2 gn bo ((a:Int)-1) ((b:Int)-1) none (some (.int mv))) (h:=h6) (u:=gn) rfl (rV (u:=if decide (mv<0)=true then("NoPlace" : Str) else("" : Str)) (w:=if p3=true then("TooLong" : Str) else("" : Str)) (kl 's') (kl (by
  rw[ep3];by_cases q:3<mv
  ·by_cases w:y1="" <;> simp[q,w]
  ·simp[q])))
 refine aT du ?_
 have mxm:=wB mv h6;have mnm:=LY mv.toNat h6;have ml:ot (.str y1) (.int (min 3 mv.toNat:Nat)) h6=.ok (.str (aR y1 (min 3 mv.toNat))) h6:=by
  have c:((min 3 mv.toNat:Nat):Int).natAbs<2 ^ 40/\y1.length*((min 3 mv.toNat:Nat):Int).toNat<=1000000:=by
   refine⟨Nz (m:=3) ⋯ 'd',Np (PR l1 (show ((min 3 mv.toNat:Nat):Int).toNat<=3 by lia)) 'd'⟩
  show (if _ then _ else _)=_
  rw[Nn c];rfl
 obtain⟨DU,eDU⟩:∃ DU:Str,DU=(if gn="" then(if (if decide (mv<0)=true then("NoPlace" : Str) else("" : Str))="" then(if p3=true then("TooLong" : Str) else("" : Str)) else(if decide (mv<0)=true then("NoPlace" : Str) else("" : Str))) else gn):=⟨_,rfl⟩
 rw[<- eDU];refine gY (v:=.tup [.tup [.str "repeat",.str x,.int mv],.str DU,.str (aR y1 (min 3 mv.toNat))]) (h':=h6) ?_ (ofP _ ⟨_,_,_,h6,rfl,F6,λhd=>?_,λhd r=>?_⟩)
 ·generalize (b:Int)-1=B1,(a:Int)-1=A1,((mv.toNat:Nat):Int)=Q2,((min 3 mv.toNat:Nat):Int)=Q1,aR y1 (min 3 mv.toNat)=R at *;simp[mxm,mnm,ml,-fg,-mz,-ot]
 ·rw[eDU] at hd
  obtain⟨q1,q2⟩:=rY hd;obtain⟨q2,q3⟩:=rY q2;have q2:=rX ∅ q2;have q3:=rX ∅ q3;rw[PF] at q2;obtain⟨v,lv⟩:=gn_ok q1
  obtain⟨k,rfl⟩:∃ k:Nat,mv=k:=⟨mv.toNat,by lia⟩
  rw[ep3] at q3;rw[R0];rw[i8 lv] at ey1;have nx:=nm1 _ (cC lv)
  by_cases c3:k<=3
  ·rw[show min 3 k=k by lia,ey1]
   refine⟨x,aR v.2 k,240000,_,_,rfl,rfl,nx,.rep lv (Nz (m:=3) c3 'd') ?_,Nk _,?_⟩
   ·rw[<- ey1];exact Np (PR l1 c3) 'd'
   ·rw[rL,<- ey1];exact Np (PR l1 c3) 'd'
  ·have:y1="" := by
    rw[NO (show (3:Int)<k by lia),Bool.true_and] at q3;simpa using q3
   rw[this,vQ];obtain⟨n,y⟩:=v
   have ey:y="" := ey1.symm.trans this;subst ey;exact⟨x, "",240000,_,_,rfl,rfl,nx,.rep0 lv (Nz (m:=1000000000000000001) ⋯ 'd'),Nk _,NU _⟩
 ·rw[eDU] at hd ⊢
  by_cases qb:gn=""
  ·obtain⟨v,lv⟩:=gn_ok qb
   have le:v.2.length<=300:=(nm _ (cC lv)).2;rw[Nn qb] at hd ⊢;by_cases q0:mv<0
   ·rw[NO q0,Nn rfl,Nr ∅]
    exact LI lv ⋯ q0
   ·have n0:(if decide (mv<0)=true then("NoPlace" : Str) else("" : Str))="" := by rw[NJ q0];rfl
    rw[n0,Nn rfl] at hd ⊢;have qp:=jQ hd
    rw[Nn qp];refine LJ lv ⋯ ⋯ ?_
    rw[ep3,N7,Oz,R3,PF] at qp;have y0:¬ y1.length=0:=λz=>qp.2 (bZ (by rw[cy] at z;rw[OQ.mp z];rfl))
    rw[hmB qp.1,<- i8 lv,<- ey1,<- mx3 ⋯,eBg];exact R8.mpr (Nat.lt_mul_div_succ 1000000000000000000 ⋯)
  ·rw[Nr qb]
   rw[egn] at qb ⊢;have q:=jQ qb
   rw[Nn q];exact LH (OG.mp q) ⋯
def Dz(L:Nat)(h:AH)(kx:ZH)(F:Out AV):Prop :=
 ∃ (deed:AV) (due:Str) (K':Nat) (h':AH),F=.ok (.tup [deed,.str due,.ref K']) h'/\Fr L h h'/\(due="" -> ∃ (x:Str) (oy:Option Str) (c:Nat),Gd kx deed x oy c/\c<=240000/\h.length<=K'/\(∀ o:Option (Nat×Str),o.map (·.2)=oy->h'[K']?=some (.dct false ((upd kx x o).map (kG gS))))/\∀ y,oy=some y->y.length<=300)/\(¬ due="" -> Rw h' kx deed due)
def A3{kvs:List (AV×AV)}(e:h[K]?=some (.dct false kvs)):j3 [.ref K] h=.ok (.ref h.length) (h++[.dct false kvs]):=by
 simp only[j3,e]
def L0(e:h[K]?=some (.dct false (kx.map (kG gS))))(eL:∃ N:Int,h[L]?=some (.lst [.int N]))(KL:K≠L)(ct:kx.length<=50)(nm:∀ e∈kx,bp e.1=true/\e.2.2.length<=300):Dz L h kx (mX [.ref L,.ref K] h):=by
 have lK:=bX e;have nm1:∀ e∈kx,bp e.1=true:=λe he=>(nm e he).1
 have F0:Fr L h h:=⟨λ_ _ _=>rfl,Nk _,eL⟩
 obtain⟨N0,eN0⟩:=eL;have lL:=bX eN0;obtain⟨kd,N1,hk,t1,F1⟩:=F0.take 8 'd' 'd';have t1:aX [.ref L,.int 8] h=.ok (.int kd) (h.set L (.lst [.int N1])):=t1;obtain⟨h1,eh1⟩:∃ h1,h1=h.set L (.lst [.int N1]):=⟨_,rfl⟩
 rw[<- eh1] at t1 F1;have e1:=(F1.fr K lK KL).trans e
 obtain⟨PP,ePP⟩:∃ PP:OutS->Prop,PP=λo=>Dz L h kx (eT o):=⟨_,rfl⟩
 have toP:∀ o,PP o->Dz L h kx (eT o):=λo z=>by rw[ePP] at z;exact z
 have ofP:∀ o,Dz L h kx (eT o)->PP o:=λo z=>by rw[ePP];exact z
 clear ePP;refine nt (P:=Dz L h kx) rfl (toP _ ?_)
 refine aT (v:=.int kd) (h2:=h1) ?_ ?_
 ·exact t1
 have ck:(aD (ag az (aa 2) (ae (.int 0)))) [some (.ref L),some (.ref K),some (.int kd),none,none,none,none,none,none] h1=.ok (decide (kd=0)) h1:=by
  by_cases q:kd=0
  ·subst q;simp
  ·have:¬ (kd:Int)=0:=by lia
   simp[q,this]
 by_cases k0:kd=0
 ·obtain⟨v1,h2,t2,F2,n2⟩:=pD e1 F1.ro KL ct nm1 (odd:=gZ) 'd' 'd'
  obtain⟨x,rfl,lx⟩:=rT n2;have t2:fw [.ref L,.ref K,.fl [.str "",.str "A",.str "none"]] h1=.ok (.str x) h2:=t2;have F02:=F1.trans F2;have e2:=(F02.fr K lK KL).trans e;have ni:=rS e2 x;rw[NO k0] at ck
  cases lx':lk kx x with
  |none =>
   rw[lx'] at ni;refine iL (h1:=h1) ck (w:=.rt (.tup [.tup [.str "drop",.str x],.str "NoName",.ref K]) h2) ?_ ⟨_,_,rfl⟩ (ofP _ ⟨_,_,_,h2,rfl,F02,λhd=>absurd hd ∅,λ_=>LA lx' ⋯⟩)
   refine aT (P:=λo=>o=_) (v:=.str x) (h2:=h2) ?_ ?_
   ·exact t2
   refine pE (P:=λo=>o=_) (h1:=h2) (v:=.tup [.tup [.str "drop",.str x],.str "NoName",.ref K]) (h3:=h2) ?_ ?_ rfl
   ·have ni:cU (.str x) (.ref K) h2=.ok (.bl true) h2:=ni
    simp[ni,-cU]
   ·simp
  |some v =>
   rw[lx'] at ni;have dc:=A3 e2
   obtain⟨h3,eh3⟩:∃ h3,h3=h2++[AO.dct false (kx.map (kG gS))]:=⟨_,rfl⟩
   obtain⟨K',eK'⟩:∃ K',K'=h2.length:=⟨_,rfl⟩
   rw[<- eh3,<- eK'] at dc;have e3:h3[K']?=some (.dct false (kx.map (kG gS))):=by rw[eh3,eK'];simp
   have hl:=F02.hl;obtain⟨h4,eh4⟩:∃ h4,h4=h3.set K' (.dct false ((kg kx x).map (kG gS))):=⟨_,rfl⟩
   have F3:Fr L h h3:=by rw[eh3];exact F02.app _
   have F4:Fr L h h4:=by
    obtain⟨N,eN⟩:=F3.ro;have l3:=F3.hl;exact⟨λi hi n=>by rw[eh4,Nl ⋯];exact F3.fr i hi n,by rw[eh4,Of];exact l3,N,by rw[eh4,Nl ⋯];exact eN⟩
   have e4:h4[K']?=some (.dct false ((kg kx x).map (kG gS))):=by rw[eh4];exact Nv (bX e3)
   refine iL (h1:=h1) ck (w:=.rt (.tup [.tup [.str "drop",.str x],.str "",.ref K']) h4) ?_ ⟨_,_,rfl⟩ (ofP _ ⟨_,_,_,h4,rfl,F4,λ_=>⟨x,none,0,.drop lx',by lia,by lia,λo eo=>?_,nofun⟩,λq=>absurd rfl q⟩)
   ·refine aT (P:=λo=>o=_) (v:=.str x) (h2:=h2) ?_ ?_
    ·exact t2
    refine dG (P:=λo=>o=_) (h1:=h2) ?_ ?_
    ·have ni:cU (.str x) (.ref K) h2=.ok (.bl false) h2:=ni
     simp[ni,-cU]
    refine aT (P:=λo=>o=_) (v:=.ref K') (h2:=h3) ?_ ?_
    ·exact dc
    refine cJ (P:=λo=>o=_) (e2:=[some (.ref L),some (.ref K),some (.int kd),some (.str x),some (.ref K'),none,none,none,none]) (h2:=h4) ?_ ?_
    ·have k1:dI false (.str x)=true:=rfl
     have dp:iY (aa 4) (aa 3) [some (.ref L),some (.ref K),some (.int kd),some (.str x),some (.ref K'),none,none,none,none] h3=.ok (gS v) h4:=by
      have a1:aa 4 [some (.ref L),some (.ref K),some (.int kd),some (.str x),some (.ref K'),none,none,none,none] h3=.ok (.ref K') h3:=rfl;have a2:aa 3 [some (.ref L),some (.ref K),some (.int kd),some (.str x),some (.ref K'),none,none,none,none] h3=.ok (.str x) h3:=rfl;simp only[iY,a1,a2,Out.bind,e3,k1,O5,i7,lx',Option.map]
      rw[Ax,eh4]
     show aU (iY (aa 4) (aa 3)) [some (.ref L),some (.ref K),some (.int kd),some (.str x),some (.ref K'),none,none,none,none] h3=_
     generalize iY (aa 4) (aa 3)=SP at *;simp[dp]
    ·simp
   ·obtain rfl:o=none:=by
     cases o with
     |none=>rfl
     |some w=>cases eo
    exact e4
 rw[NJ k0] at ck;refine dG (h1:=h1) ck ?_
 obtain⟨G,eG,hG⟩:∃ G:Fn,Gv L h1 kx (G [.ref L,.ref K] h1)/\gP mV mW (ar br (ah (ag cq (aa 2) (ae (.int 3))) af)) (ah (aa 0) (ah (aa 1) af)) [some (.ref L),some (.ref K),some (.int kd),none,none,none,none,none,none] h1=G [.ref L,.ref K] h1:=by
  have ap:∀ G:Fn,ar G (ah (aa 0) (ah (aa 1) af)) [some (.ref L),some (.ref K),some (.int kd),none,none,none,none,none,none] h1=G [.ref L,.ref K] h1:=λG=>by simp
  by_cases z:3<kd
  ·refine⟨mW,LZ e1 F1.ro KL ct nm,?_⟩
   have i:ar br (ah (ag cq (aa 2) (ae (.int 3))) af) [some (.ref L),some (.ref K),some (.int kd),none,none,none,none,none,none] h1=.ok (.int 1) h1:=by
    have:(3:Int)<kd:=by lia
    simp[this]
   simp only[gP,i,Out.bind]
   exact ap _
  ·refine⟨mV,LX e1 F1.ro KL ct nm,?_⟩
   have i:ar br (ah (ag cq (aa 2) (ae (.int 3))) af) [some (.ref L),some (.ref K),some (.int kd),none,none,none,none,none,none] h1=.ok (.int 0) h1:=by
    have:¬ (3:Int)<kd:=by lia
    simp[this]
   simp only[gP,i,Out.bind]
   exact ap _
 obtain⟨deed,due,pl,h2,eg,F2,gd,gn⟩:=eG;rw[eg] at hG;have F02:=F1.trans F2
 refine cJ (e2:=[some (.ref L),some (.ref K),some (.int kd),none,none,some deed,some (.str due),some pl,none]) (h2:=h2) ?_ ?_
 ·generalize gP mV mW (ar br (ah (ag cq (aa 2) (ae (.int 3))) af)) (ah (aa 0) (ah (aa 1) af))=SS at *
  simp[hG]
 obtain⟨deed',pl',s4,gd',gn'⟩:∃ deed' pl',aG (d8 (aD (ag az (aa 6) (ae (.str "")))) (aD (ag cq (ar aB (ah (aa 7) af)) (ae (.int 300))))) (qL 5 6 7 (ah (aS (ah (ae (.str "give")) (ah (ag ao (aa 5) (ae (.int 1))) (ah (ae (.str "long")) af)))) (ah (ae (.str "")) (ah (ae (.str "long")) af)))) aH [some (.ref L),some (.ref K),some (.int kd),none,none,some deed,some (.str due),some pl,none] h2=.nx [some (.ref L),some (.ref K),some (.int kd),none,none,some deed',some (.str due),some pl',none] h2 /\
   (due="" -> ∃ (x y:Str) (c:Nat) (k:AV) (r:List AV),pl'=.str y/\deed'=.tup (k :: .str x::r)/\Gd kx deed' x (some y) c/\c<=240000/\y.length<=300)/\(¬ due="" -> deed'=deed):=by
  by_cases hd:due=""
  ·obtain⟨x,y,c,k,r,rfl,rfl,hx,g,hc,hy⟩:=gd hd
   subst hd;by_cases ly:300<y.length
   ·refine⟨.tup [.str "give",.str x,.str "long"],.str "long",?_,λ_=>⟨x, "long",_,_,_,rfl,rfl,.give hx ∅ 'd',by decide,by decide⟩,λq=>absurd rfl q⟩
    have a1:atI (k :: .str x::r) 1=some (.str x):=mq (j:=1) rfl;have l2:(300:Int)<y.length:=by lia
    simp[l2,a1,qL]
   ·refine⟨_,_,?_,λ_=>⟨x,y,c,k,r,rfl,rfl,g,hc,by lia⟩,λq=>absurd rfl q⟩
    have l2:¬ (300:Int)<y.length:=by lia
    simp[l2]
  ·exact⟨deed,pl,by simp[hd],λz=>absurd z hd,λ_=>rfl⟩
 refine cJ s4 ?_
 have e2:=(F02.fr K lK KL).trans e;have dc:=A3 e2;obtain⟨h3,eh3⟩:∃ h3,h3=h2++[AO.dct false (kx.map (kG gS))]:=⟨_,rfl⟩
 obtain⟨K',eK'⟩:∃ K',K'=h2.length:=⟨_,rfl⟩
 rw[<- eh3,<- eK'] at dc;have e3:h3[K']?=some (.dct false (kx.map (kG gS))):=by rw[eh3,eK'];simp
 have hl:=F02.hl;have F3:Fr L h h3:=by rw[eh3];exact F02.app _
 refine aT (v:=.ref K') (h2:=h3) ?_ ?_
 ·exact dc
 by_cases hd:due=""
 ·obtain⟨x,y,c,k,r,rfl,rfl,g,hc,hy⟩:=gd' hd
  subst hd;obtain⟨h4,eh4⟩:∃ h4,h4=h3.set K' (.dct false ((put kx x (0,y)).map (kG gS))):=⟨_,rfl⟩
  have F4:Fr L h h4:=by
   obtain⟨N,eN⟩:=F3.ro;have l3:=F3.hl;exact⟨λi hi n=>by rw[eh4,Nl ⋯];exact F3.fr i hi n,by rw[eh4,Of];exact l3,N,by rw[eh4,Nl ⋯];exact eN⟩
  have e4:h4[K']?=some (.dct false ((put kx x (0,y)).map (kG gS))):=by rw[eh4];exact Nv (bX e3)
  refine cJ (e2:=[some (.ref L),some (.ref K),some (.int kd),none,none,some (.tup (k :: .str x::r)),some (.str ""),some (.str y),some (.ref K')]) (h2:=h4) ?_ ?_
  ·have k1:dI false (.str x)=true:=rfl
   have sz:(kx.map (kG gS)).length<sizeLine:=by rw[Nw];exact Nz ct 'd'
   have a1:atI (k :: .str x::r) 1=some (.str x):=mq (j:=1) rfl;have ix:ag ao (aa 5) (ae (.int 1)) [some (.ref L),some (.ref K),some (.int kd),none,none,some (.tup (k :: .str x::r)),some (.str ""),some (.str y),some (.ref K')] h3=.ok (.str x) h3:=by simp[a1]
   have b1:aa 8 [some (.ref L),some (.ref K),some (.int kd),none,none,some (.tup (k :: .str x::r)),some (.str ""),some (.str y),some (.ref K')] h3=.ok (.ref K') h3:=rfl;have b2:aa 7 [some (.ref L),some (.ref K),some (.int kd),none,none,some (.tup (k :: .str x::r)),some (.str ""),some (.str y),some (.ref K')] h3=.ok (.str y) h3:=rfl;have st:fN (aa 8) (ag ao (aa 5) (ae (.int 1))) (aa 7) [some (.ref L),some (.ref K),some (.int kd),none,none,some (.tup (k :: .str x::r)),some (.str ""),some (.str y),some (.ref K')] h3=.nx [some (.ref L),some (.ref K),some (.int kd),none,none,some (.tup (k :: .str x::r)),some (.str ""),some (.str y),some (.ref K')] h4:=by
    simp only[fN,b1,b2,ix,Out.go,e3]
    rw[Nn ⟨k1,sz⟩,eh4];exact congrArg (λz=>OutS.nx _ (h3.set K' (.dct false z))) (rM gS kx x (0,y))
   show aG (aD (ag az (aa 6) (ae (.str "")))) (fN (aa 8) (ag ao (aa 5) (ae (.int 1))) (aa 7)) aH [some (.ref L),some (.ref K),some (.int kd),none,none,some (.tup (k :: .str x::r)),some (.str ""),some (.str y),some (.ref K')] h3=_
   exact st
  refine gY (v:=.tup [.tup (k :: .str x::r),.str "",.ref K']) (h':=h4) 's' (ofP _ ⟨_,_,_,h4,rfl,F4,λ_=>⟨x,some y,c,g,hc,by lia,λo eo=>?_,λy' ey=>by cases ey;exact hy⟩,λq=>absurd rfl q⟩)
  cases o with
  |none=>cases eo
  |some w =>
   have:w.2=y:=by simpa using eo
   have q:(put kx x w).map (kG gS)=(put kx x (0,y)).map (kG gS):=by
    rw[<- rM gS kx x w,<- rM gS kx x (0,y)];show eu _ _ (.str w.2)=_
    rw[this]
   rw[e4,<- q];rfl
 ·refine cJ (e2:=[some (.ref L),some (.ref K),some (.int kd),none,none,some deed',some (.str due),some pl',some (.ref K')]) (h2:=h3) ?_ ?_
  ·show aG (aD (ag az (aa 6) (ae (.str "")))) (fN (aa 8) (ag ao (aa 5) (ae (.int 1))) (aa 7)) aH [some (.ref L),some (.ref K),some (.int kd),none,none,some deed',some (.str due),some pl',some (.ref K')] h3=_
   generalize fN (aa 8) (ag ao (aa 5) (ae (.int 1))) (aa 7)=SX at *;simp[hd]
  exact gY (v:=.tup [deed',.str due,.ref K']) (h':=h3) 's' (ofP _ ⟨_,_,_,h3,rfl,F3,λz=>absurd z hd,λ_=>by rw[eh3,gn' hd];exact gn hd _⟩)
def rZ(a b:Int)(h:AH):az (.int a) (.int b) h=.ok (.bl (decide (a=b))) h:=by simp
def L3(h:AH):az (.str "leaf") (.str "leaf") h=.ok (.bl true) h:=by simp
def L4(h:AH):az (.str "fork") (.str "leaf") h=.ok (.bl false) h:=by
 have:¬ (Str.ofString "fork"=Str.ofString "leaf"):=by decide +kernel
 simp[this]
theorem wC{h:AH}{p:Nat}{ps:List Pc}(S:ShelfAt h p ps)(g:Good ps):∀ (d:Nat) {t:Nat} {m f l:Ms} {x:Str},Tx ps t m x f l->m.ht.toNat<d->x.length<=100000->hZ d [.ref p,.int t] h=.ok (.str x) h
 |0,t,m,f,l,x,T,hd,hx=>absurd hd (OF _)
 |d+1,t,m,f,l,x,T,hd,hx=>by
  have ob:=S.ob;have z:=rZ t 0 h;rw[NJ (by have:=T.n1;lia)] at z;have lt:=L3 h;have lf:=L4 h;rcases g.kind T with⟨e,_⟩|⟨a,b,ma,mb,y,w,fa,la,fb,lb,e,e2,_,A,B,x1,x2,_⟩
  ·have fp:=nh S T.n1 e
   have c0:ao (Pc.leaf x).av (.int 0) h=.ok (.str "leaf") h:=rfl;have c1:ao (Pc.leaf x).av (.int 1) h=.ok (.str x) h:=rfl;show lJ (hZ d) [.ref p,.int t] h=_
   generalize hZ d=G
   generalize (Pc.leaf x).av=PA at *;simp[lJ,z,ob,fp,c0,c1,lt,-az,-ao]
  ·have fp:=nh S T.n1 e
   have a0:=A.ky.ht;have b0:=B.ky.ht;have hh:m.ht=max ma.ht mb.ht+1:=by rw[x2];rfl
   have ll:y.length+w.length=x.length:=by rw[x1,dU]
   have ia:=wC S g d A (by(clear ll a0 fp x2 x1 B A e2 e lf lt z ob hx T g S;omega)) ⋯;have ib:=wC S g d B (by(clear ia ll b0 fp x2 x1 B A e2 lf lt ob hx T g S;lia)) ⋯;have ad:ay (.str y) (.str w) h=.ok (.str x) h:=by
    have:y.length+w.length<=sizeLine:=Np (m:=100000) ⋯ 'd'
    rw[x1];simp only[ay,this,O5]
   show lJ (hZ d) [.ref p,.int t] h=_
   have c0:ao (Pc.fork a b).av (.int 0) h=.ok (.str "fork") h:=rfl;have c1:ao (Pc.fork a b).av (.int 1) h=.ok (.int a) h:=rfl;have c2:ao (Pc.fork a b).av (.int 2) h=.ok (.int b) h:=rfl;generalize (Pc.fork a b).av=PA,hZ d=G at *;simp[lJ,z,ob,fp,c0,c1,c2,lf,ia,ib,ad,-az,-ay,-ao]
def L5(S:ShelfAt h p ps)(g:Good ps){t:Nat}(T:TxZ ps t x)(hx:x.length<=100000):hZ 90 [.ref p,.int t] h=.ok (.str x) h:=by
 rcases T with⟨rfl,rfl⟩|⟨m,f,l,T⟩
 ·have z:=rZ 0 0 h
  rw[NO rfl] at z;show lJ (hZ 89) [.ref p,.int 0] h=_
  generalize hZ 89=G at *;simp[lJ,z,-az]
 ·exact wC S g 90 T (by have:=eP g T;lia) hx
def Pc.pd:Pc->PyData
 |.leaf x=>.tuple [.str "leaf",.str x]
 |.fork a b=>.tuple [.str "fork",.int a,.int b]
def L7(h:AH)(n:Nat)(q:Pc):bf (n+2) h q.av=some q.pd:=by cases q<;>simp[Pc.av,Pc.pd,bf,bg]
theorem wD(h:AH)(n:Nat):∀ ps:List Pc,bg (bf (n+2) h) (ps.map Pc.av)=some (ps.map Pc.pd)
 |[]=>rfl
 |q::r=>by simp only[NW,bg,L7,wD h n r]
def L8{ds:List PyData}{k:Nat}(e:h[k]?=some (.lst xs))(d:bg (bf n h) xs=some ds):bf (n+1) h (.ref k)=some (.list ds):=by
 simp[bf,e,d]
def L9{ds:List PyData}(d:bg (bf n h) xs=some ds):bf (n+1) h (.fl xs)=some (.list ds):=by
 simp[bf,d]
theorem Ma:∀ p q:Pc,PyData.eqv p.pd q.pd=decide (p=q)
 |.leaf x,.leaf y=>by simp[Pc.pd,PyData.eqv,PyData.eqvAll];rw[OE];simp
 |.leaf x,.fork a b=>by simp[Pc.pd,PyData.eqv,PyData.eqvAll]
 |.fork a b,.leaf x=>by simp[Pc.pd,PyData.eqv,PyData.eqvAll]
 |.fork a b,.fork c d=>by
  simp[Pc.pd,PyData.eqv,PyData.eqvAll]
  by_cases h1:a=c<;>by_cases h2:b=d<;>simp[h1,h2]<;>lia
theorem A4:∀ ps qs:List Pc,PyData.eqvAll (ps.map Pc.pd) (qs.map Pc.pd)=decide (ps=qs)
 |[],[]=>by simp[PyData.eqvAll]
 |[],q::r=>by simp[PyData.eqvAll]
 |p::r,[]=>by simp[PyData.eqvAll]
 |p::r,q::t=>by
  simp only[NW,PyData.eqvAll,Ma,A4 r t]
  by_cases h1:p=q<;>by_cases h2:r=t<;>simp[h1,h2]
def Mb(e:h[a]?=some (.lst (ps.map Pc.av))):az (.ref a) (.fl (ps.map Pc.av)) h=.ok (.bl true) h:=by
 have d1:=L8 e (wD h 5 ps);have d2:=L9 (wD h 5 ps);have qq:ip (.ref a) (.fl (ps.map Pc.av)) h=some true:=by
  show (match bf 8 h (.ref a),bf 8 h (.fl (ps.map Pc.av)) with|some d,some e=>some (PyData.eqv d e)|_,_=>none)=_
  rw[d1,d2];show some (PyData.eqv (.list _) (.list _))=_
  rw[PyData.eqv,A4,NO rfl]
 show (match ip (.ref a) (.fl (ps.map Pc.av)) h with|some b=>Out.ok (AV.bl b) h|none=>Out.bad)=_
 rw[qq]
def Ho.keep{h h':AH}{ps:List Pc}{kx:ZH}{ds bs:List De}(H:Ho h 0 1 10 ps kx ds bs)(k:∀ i,i<=12->h'[i]?=h[i]?):Ho h' 0 1 10 ps kx ds bs :=(
 ⟨(k 0 ⋯).trans H.ob,H.sh.keep λi _ _=>k i ⋯,H.gd,(k 10 ⋯).trans H.tx,(k 11 ⋯).trans H.de,(k 12 ⋯).trans H.ba,H.tz,H.lo,H.ct,H.nd⟩)
def ext{α:Type}(f:Nat->α)(n:Nat)(v:α):Nat->α:=λj=>if j<n then f j else v
def gv(f:Nat->α)(v:α)(h:j<n):ext f n v j=f j:=(Nn h)
def iM(f:Nat->α)(n:Nat)(v:α):ext f n v n=v:=(Nr (OK _))
def Mc(nm:∀ e∈kx,bp e.1=true){deed:AV}{oy:Option Str}(g:Gd kx deed x oy c):bp x=true:=by
 cases g with
 |give hx=>exact hx
 |copy hx=>exact hx
 |join l=>exact nm _ (cC l)
 |put l=>exact nm _ (cC l)
 |take l=>exact nm _ (cC l)
 |rep l=>exact nm _ (cC l)
 |rep0 l=>exact nm _ (cC l)
 |drop l=>exact nm _ (cC l)
def Md{deed:AV}{oy:Option Str}(g:Gd kx deed x oy c)(e:oy=none):(lk kx x).isSome=true:=by
 cases g with
 |drop l=>rw[l];rfl
 |_=>cases e
structure Hy(M:Nat)(X:Nat->Str)(V:Nat->Option (Nat×Str))(Kx:Nat->ZH)(ps:List Pc):Prop where
 nd:∀ j,j<=M->((Kx j).map (·.1)).Nodup
 ct:∀ j,j<=M->(Kx j).length<=50
 tz:∀ j,j<=M->∀ e∈Kx j,TxZ ps e.2.1 e.2.2
 st:∀ j,j<M->bp (X j)=true/\Kx (j+1)=upd (Kx j) (X j) (V j)/\(V j=none->(lk (Kx j) (X j)).isSome=true)
def dj(X:Nat->Str)(V:Nat->Option (Nat×Str))(Kx:Nat->ZH)(j:Nat):De:=(X j,(lk (Kx j) (X j)).map (·.1),(V j).map (·.1))
def wF{X:Nat->Str}{V:Nat->Option (Nat×Str)}{Kx:Nat->ZH}(r:Nat):(List.range (r+1)).map (dj X V Kx)=(List.range r).map (dj X V Kx)++[dj X V Kx r]:=by
 rw[P5,Og];rfl
def Me{m:Nat}{X:Nat->Str}{V:Nat->Option (Nat×Str)}{Kx:Nat->ZH}:(List.range (m+1)).map (dj (ext X m x) (ext V m o) (ext Kx (m+1) (upd (Kx m) x o)))=(List.range m).map (dj X V Kx)++[(x,(lk (Kx m) x).map (·.1),o.map (·.1))]:=by
 rw[P5,Og,NW,QX];congr 1
 ·refine O6 λj hj=>?_
  have hj:=Qh.mp hj;unfold dj;rw[gv X x hj,gv V o hj,gv Kx _ (show j<m+1 by lia)]
 ·unfold dj
  rw[iM,iM,gv Kx _ (Po m)]
def ic(e:Nat×Str):AV:=.tup [.int e.1,.str e.2]
structure Zs(h:AH)(t b m:Nat)(X:Nat->Str)(V:Nat->Option (Nat×Str))(Kx:Nat->ZH)(ps sn:List Pc):Prop where
 hy:Hy m X V Kx ps
 ho:∃ kx bs,Ho h 0 1 10 ps kx ((List.range m).map (dj X V Kx)) bs/\(∀ x,lk kx x=lk (Kx m) x)/\bs.length<=t
 ss:∃ Ks:List Nat,h[14]?=some (.lst (Ks.map AV.ref))/\Ks.length=m+1/\∀ j K,Ks[j]?=some K->(K=13\/16<K)/\h[K]?=some (.dct false ((Kx j).map (kG gS)))
 nl:∀ j,j<=m->(∀ e∈Kx j,e.2.2.length<=300)/\(Kx j).length<=t
 ev:∃ E:List (Nat×Str),h[15]?=some (.lst (E.map ic))/\(∀ e∈E,TxZ ps e.1 e.2/\e.2.length<=300)/\E.length<=b
 se:h[16]?=some (.lst (sn.map Pc.av))
 pre:sn <+: ps
 mt:m<=t
section
variable{h h':AH}{t b m:Nat}{X:Nat->Str}{V:Nat->Option (Nat×Str)}{Kx:Nat->ZH}{ps ps' sn:List Pc}
def Zs.kp(Z:Zs h t b m X V Kx ps sn)(k:∀ i,i<h.length->h'[i]?=h[i]?):Zs h' t b m X V Kx ps sn:=by
 obtain⟨kx,bs,H,l,lb⟩:=Z.ho;obtain⟨Ks,s1,s2,s3⟩:=Z.ss;obtain⟨E,e1,e2,e3⟩:=Z.ev;have l6:=bX Z.se;exact⟨Z.hy,⟨kx,bs,H.keep λi hi=>k i ⋯,l,lb⟩,⟨Ks,(k 14 ⋯).trans s1,s2,λj K e=>⟨(s3 j K e).1,(k K (bX (s3 j K e).2)).trans (s3 j K e).2⟩⟩,Z.nl,⟨E,(k 15 ⋯).trans e1,e2,e3⟩,(k 16 ⋯).trans Z.se,Z.pre,Z.mt⟩
def Zs.dd{k:Nat}(Z:Zs h t b m X V Kx ps sn)(D:Dd 1 h h' ps ps' k):Zs h' t b m X V Kx ps' sn:=by
 obtain⟨kx,bs,H,l,lb⟩:=Z.ho;obtain⟨Ks,s1,s2,s3⟩:=Z.ss;obtain⟨E,e1,e2,e3⟩:=Z.ev;have k:∀ i,9<i->h'[i]?=h[i]?:=λi hi=>D.fr i ⋯
 exact⟨⟨Z.hy.nd,Z.hy.ct,λj hj e he=>(Z.hy.tz j hj e he).pre D.pre,Z.hy.st⟩,⟨kx,bs,H.dd D,l,lb⟩,⟨Ks,(k 14 ⋯).trans s1,s2,λj K e=>⟨(s3 j K e).1,(k K (by have:=(s3 j K e).1;lia)).trans (s3 j K e).2⟩⟩,Z.nl,⟨E,(k 15 ⋯).trans e1,λe he=>⟨(e2 e he).1.pre D.pre,(e2 e he).2⟩,e3⟩,(k 16 ⋯).trans Z.se,Z.pre.trans D.pre,Z.mt⟩
def Zs.back(Z:Zs h t b (m+1) X V Kx ps sn)(ht:t<=50):∃ h1 h2 v,dS [.ref 0,.tup [.str "back"]] h=.ok (.str "") h1/\bh (.ref 14) h1=true/\cZ (.ref 14) [] h1=.ok v h2/\Zs h2 (t+1) b m X V Kx ps sn/\(∀ i,16<i->h2[i]?=h[i]?)/\h2.length=h.length:=by
 obtain⟨kx,bs,H,l,lb⟩:=Z.ho;obtain⟨Ks,s1,s2,s3⟩:=Z.ss;obtain⟨E,e1,e2,e3⟩:=Z.ev;obtain⟨nx,eK,sn'⟩:=Z.hy.st m (Po m);have mt:=Z.mt;have dk:=Le H;rw[wF] at H;have lk2:∀ x,lk (upd kx (X m) (lk (Kx m) (X m))) x=lk (Kx m) x:=λx=>by
  rw[nq,l,eK,nq];by_cases q:X m=x
  ·rw[Nn q,q]
  ·rw[Nr q,Nr q]
 have ll:=wg (rN H.nd (X m) (lk (Kx m) (X m))) (Z.hy.nd m ⋯) lk2;obtain⟨h1,f,H1,F⟩:=K0 H nx (λv e=>Z.hy.tz m ⋯ _ (cC e)) (by rw[ll];exact Z.hy.ct m ⋯) ⋯ (λe=>by
  rw[l,eK,nq,Nn rfl]
  cases q:V m with
  |some v=>rfl
  |none=>have:=sn' q;rw[e] at this;cases this)
 have k:∀ i,12<i->h1[i]?=h[i]?:=λi hi=>F.fr i ⋯ ⋯ ⋯ ⋯
 have hl:=F.hl;obtain⟨Kr,K,rfl⟩:∃ Kr K,Ks=Kr++[K]:=⟨Ks.dropLast,Ks.getLast (λz=>by rw[z] at s2;cases s2),(P7 _).symm⟩
 have lr:Kr.length=m+1:=by simp at s2;omega
 have s14:h1[14]?=some (.lst (Kr.map AV.ref++[.ref K])):=by rw[k 14 ⋯,s1];simp
 have l14:=bX s14;have k2:∀ i,i≠14->(h1.set 14 (.lst (Kr.map AV.ref)))[i]?=h1[i]?:=λi hi=>Nl (Ne.symm hi)
 refine⟨h1,h1.set 14 (.lst (Kr.map AV.ref)),.ref K,AS (dk.trans f),by simp only[bh,eX,s14];rfl,by simp[cZ,s14],?_,λi hi=>(k2 i ⋯).trans (k i ⋯),by rw[Of];exact hl⟩
 exact⟨⟨λj hj=>Z.hy.nd j ⋯,λj hj=>Z.hy.ct j ⋯,λj hj=>Z.hy.tz j ⋯,λj hj=>Z.hy.st j ⋯⟩,⟨_,_,H1.keep λi hi=>k2 i ⋯,lk2,by simp;omega⟩,
  ⟨Kr,Nv l14,lr,λj K' e=>by
   have e':(Kr++[K])[j]?=some K':=by rw[Nt (Ni.mp e).1];exact e
   have:=s3 j K' e';exact⟨this.1,((k2 K' ⋯).trans (k K' ⋯)).trans this.2⟩⟩,
  λj hj=>⟨(Z.nl j ⋯).1,Pk (Z.nl j ⋯).2⟩,⟨E,((k2 15 ⋯).trans (k 15 ⋯)).trans e1,e2,e3⟩,((k2 16 ⋯).trans (k 16 ⋯)).trans Z.se,Z.pre,by lia⟩
def Zs.deed(Z:Zs h t b m X V Kx ps sn){deed:AV}{x:Str}{oy:Option Str}{c K':Nat}(g:Gd (Kx m) deed x oy c)(kd:∀ o:Option (Nat×Str),o.map (·.2)=oy->h[K']?=some (.dct false ((upd (Kx m) x o).map (kG gS))))(hK:16<K')(ny:∀ y,oy=some y->y.length<=300)(hz:ps.length<13000000)(ht:t<50) :
  ∃ h1 h2 ps' X' V' Kx',dS [.ref 0,deed] h=.ok (.str "") h1/\bh (.ref 14) h1=true/\bL (.ref 14) [.ref K'] h1=.ok .non h2/\Zs h2 (t+1) b (m+1) X' V' Kx' ps' sn/\ps'.length<=ps.length+c/\(∀ i,16<i->h2[i]?=h[i]?)/\h2.length=h.length:=by
 obtain⟨kx,bs,H,l,lb⟩:=Z.ho;obtain⟨Ks,s1,s2,s3⟩:=Z.ss;obtain⟨E,e1,e2,e3⟩:=Z.ev;have mt:=Z.mt;have lx:kx.length<=t:=by rw[wg H.nd (Z.hy.nd m (Nk _)) l];exact(Z.nl m (Nk _)).2
 obtain⟨o,ps',h1,ed,eo,H1,F,pre,len⟩:=wu H (wy l g) hz ⋯ (by simp;lia)
 have nm:=Mc (λe he=>(H.tz e he).2) (wy l g);have k:∀ i,12<i->h1[i]?=h[i]?:=λi hi=>F.fr i ⋯ ⋯ ⋯ ⋯
 have s14:=(k 14 ⋯).trans s1;have ap:=KQ s14 (by rw[Nw];lia) (.ref K')
 have k2:∀ i,i≠14->(h1.set 14 (.lst (Ks.map AV.ref++[.ref K'])))[i]?=h1[i]?:=λi hi=>Nl (Ne.symm hi)
 have l2:∀ z,lk (upd kx x o) z=lk (upd (Kx m) x o) z:=λz=>by rw[nq,nq,l]
 have nd2:=rN (Z.hy.nd m (Nk _)) x o;have ln2:=wg H1.nd nd2 l2;have ny2:∀ e∈upd (Kx m) x o,e.2.2.length<=300:=λe he=>by
  rcases rO he with⟨v,rfl,rfl⟩|he
  ·exact ny v.2 eo.symm
  ·exact(Z.nl m (Nk _)).1 e he
 have tz2:∀ e∈upd (Kx m) x o,TxZ ps' e.2.1 e.2.2:=λe he=>by
  rcases rO he with⟨v,rfl,rfl⟩|he
  ·exact(H1.tz (x,v) (cC (by rw[nq,Nn rfl]))).1
  ·exact(Z.hy.tz m (Nk _) e he).pre pre
 refine⟨h1,_,ps',ext X m x,ext V m o,ext Kx (m+1) (upd (Kx m) x o),AS ed,by simp only[bh,eX,s14];rfl,ap,?_,len,λi hi=>(k2 i ⋯).trans (k i ⋯),by rw[Of];exact F.hl⟩
 refine⟨⟨λj hj=>?_,λj hj=>?_,λj hj e he=>?_,λj hj=>?_⟩,⟨upd kx x o,[],by rw[Me,<- l];exact H1.keep λi hi=>k2 i ⋯,?_,NU _⟩,⟨Ks++[K'],?_,by simp[s2],λj K e=>?_⟩,λj hj=>?_,⟨E,((k2 15 ⋯).trans (k 15 ⋯)).trans e1,λe he=>⟨(e2 e he).1.pre pre,(e2 e he).2⟩,e3⟩,((k2 16 ⋯).trans (k 16 ⋯)).trans Z.se,Z.pre.trans pre,by lia⟩
 ·by_cases q:j<m+1
  ·rw[gv Kx _ q];exact Z.hy.nd j ⋯
  ·obtain rfl:j=m+1:=by lia
   rw[iM];exact nd2
 ·by_cases q:j<m+1
  ·rw[gv Kx _ q];exact Z.hy.ct j ⋯
  ·obtain rfl:j=m+1:=by lia
   rw[iM,<- ln2];exact H1.ct
 ·by_cases q:j<m+1
  ·rw[gv Kx _ q] at he;exact(Z.hy.tz j ⋯ e he).pre pre
  ·obtain rfl:j=m+1:=by lia
   rw[iM] at he;exact tz2 e he
 ·by_cases q:j<m
  ·rw[gv X _ q,gv V _ q,gv Kx _ (show j<m+1 by lia),gv Kx _ (show j+1<m+1 by lia)];exact Z.hy.st j q
  ·obtain rfl:j=m:=by lia
   rw[iM,iM,gv Kx _ (Po j),iM];exact⟨nm,rfl,λq=>by rw[<- l];exact Md (wy l g) (by rw[<- eo,q];rfl)⟩
 ·rw[iM];exact l2
 ·rw[Og];exact Nv (bX s14)
 ·by_cases q:j<m+1
  ·rw[Nt ⋯] at e
   rw[gv Kx _ q];have:=s3 j K e
   exact⟨this.1,((k2 K ⋯).trans (k K ⋯)).trans this.2⟩
  ·obtain rfl:j=m+1:=by have:=(Ni.mp e).1;simp[s2] at this;lia
   rw[iM];rw[NF ⋯,s2,Nat.sub_self] at e
   cases e
   exact⟨.inr hK,((k2 K' ⋯).trans (k K' ⋯)).trans (kd o eo)⟩
 ·by_cases q:j<m+1
  ·rw[gv Kx _ q];exact⟨(Z.nl j ⋯).1,Pk (Z.nl j ⋯).2⟩
  ·obtain rfl:j=m+1:=by lia
   rw[iM];exact⟨ny2,by have:=rP (Kx m) x o;have:=(Z.nl m (Nk _)).2;lia⟩
def Zs.up(Z:Zs h t b m X V Kx ps sn):Zs h (t+1) b m X V Kx ps sn:=by
 obtain⟨kx,bs,H,l,lb⟩:=Z.ho;exact⟨Z.hy,⟨kx,bs,H,l,by lia⟩,Z.ss,λj hj=>⟨(Z.nl j hj).1,Pk (Z.nl j hj).2⟩,Z.ev,Z.se,Z.pre,Pk Z.mt⟩
end
abbrev eL(o0 o5 o6 o7 o8 o9 o10 o11 o12 o13 o14 o15:Option AV):En:=[o0,some (.ref 0),some (.ref 14),some (.ref 15),some (.ref 16),o5,o6,o7,o8,o9,o10,o11,o12,o13,o14,o15]
def A5{fs:List AV}(e:h[R]?=some (.lst fs))(hf:fs.length<=13000000)(v:AV):bL (.ref R) [v] h=.ok .non (h.set R (.lst (fs++[v]))):=by
 have:fs.length<sizeLine:=Nz hf 'd'
 simp only[bL,e,this,O5]
def A6{Z:List AV}{w:AV}(e:h[R]?=some (.lst (Z++[w]))):ao (.ref R) (.int (-1)) h=.ok w h:=by
 have q:atI (Z++[w]) (-1)=some w:=by
  have e:(-1+((Z.length:Int)+1)).toNat=Z.length:=by lia
  have e2:(1:Int)<=(Z.length:Int)+1:=by lia
  simp[atI,fW,e,e2]
 simp only[ao,e,q]
section
variable{h h':AH}{t b m:Nat}{X:Nat->Str}{V:Nat->Option (Nat×Str)}{Kx:Nat->ZH}{ps ps' sn:List Pc}
def Zs.top(Z:Zs h t b m X V Kx ps sn):∃ (Z0:List AV) (K:Nat),h[14]?=some (.lst (Z0++[.ref K]))/\Z0.length=m/\(K=13\/16<K)/\h[K]?=some (.dct false ((Kx m).map (kG gS))):=by
 obtain⟨Ks,s1,s2,s3⟩:=Z.ss;obtain⟨Kr,K,rfl⟩:∃ Kr K,Ks=Kr++[K]:=⟨Ks.dropLast,Ks.getLast (λz=>by rw[z] at s2;cases s2),(P7 _).symm⟩
 have lr:Kr.length=m:=by simp at s2;lia
 have:=s3 m K (by rw[NF ⋯,lr,Nat.sub_self];rfl)
 exact⟨Kr.map AV.ref,K,by rw[s1,Og];rfl,by rw[Nw,lr],this⟩
def Mf(Z:Zs h t b m X V Kx ps sn)(hb:b<=3000)(o0 o5 o6 o7 o8 o9 o10 o11 o12 o13 o14 o15:Option AV) :
  ∃ h' c13,bT (d9 (aA 1 mU (aa 1) af)) (.nm 13) mY (eL o0 o5 o6 o7 o8 o9 o10 o11 o12 o13 o14 o15) h=.nx (eL o0 o5 o6 o7 o8 o9 o10 o11 o12 c13 o14 o15) h'/\Zs h' t (b+50) m X V Kx ps sn:=by
 obtain⟨kx,bs,H,l,lb⟩:=Z.ho;obtain⟨E,e1,e2,e3⟩:=Z.ev;obtain⟨Z0,K,s14,_,kc,sK⟩:=Z.top;have fn:=KW H;obtain⟨W,eW⟩:∃ W,W=iA (kx.map (·.1)):=⟨_,rfl⟩
 have wm:∀ x∈W,∃ v,lk kx x=some v:=λx hx=>by
  rw[eW] at hx;exact we ((iB _).mem_iff.mp hx)
 have wl:W.length<=50:=by rw[eW,(iB _).length_eq,Nw];exact H.ct
 rw[<- eW] at fn;obtain⟨e',h',r1,c13,E',rfl,q1,q2,q3,q4,q5⟩:=lM (w:=none) (all:=W.map AV.str) (t:=.nm 13) (b:=mY) (xs:=W.map AV.str) (en:=eL o0 o5 o6 o7 o8 o9 o10 o11 o12 o13 o14 o15) (h:=h)
  (λj en hh=>∃ (c13:Option AV) (E':List (Nat×Str)),en=eL o0 o5 o6 o7 o8 o9 o10 o11 o12 c13 o14 o15/\hh[15]?=some (.lst (E'.map ic))/\(∀ i,i≠15->hh[i]?=h[i]?)/\hh.length=h.length/\(∀ e∈E',TxZ ps e.1 e.2/\e.2.length<=300)/\E'.length<=b+j)
  ⟨o13,E,rfl,e1,λ_ _=>rfl,rfl,e2,e3⟩ (λ_ _ _ _=>rfl) (by
   rintro j u en hh hu ⟨c13,E',rfl,q1,q2,q3,q4,q5⟩
   have hj:=(Ni.mp hu).1;rw[Nw] at hj;rw[NY] at hu;obtain⟨w,ew,rfl⟩:=NG.mp hu
   obtain⟨v,lv⟩:=wm w (NL ew);have Hh:=H.keep λi hi=>q2 i ⋯
   have ob:=Hh.ob;have ft:=fJ Hh lv;have ix1:=A6 ((q2 14 ⋯).trans s14);have ix2:ao (.ref K) (.str w) hh=.ok (.str v.2) hh:=by
    have k1:dI false (.str w)=true:=rfl;have vk:aQ ((Kx m).map (kG gS)) (.str w)=some (.str v.2):=by rw[i7,<- l,lv];rfl
    have:=(q2 K ⋯).trans sK;simp only[ao,this,k1,vk];rfl
   have ng:cn (.int 1) hh=.ok (.int (-1)) hh:=rfl;have ap:=A5 q1 (by rw[Nw];lia) (ic v)
   have il:bh (.ref 15) hh=true:=by simp only[bh,eX,q1];rfl
   have e:mY (eL o0 o5 o6 o7 o8 o9 o10 o11 o12 (some (.str w)) o14 o15) hh=.nx (eL o0 o5 o6 o7 o8 o9 o10 o11 o12 (some (.str w)) o14 o15) (hh.set 15 (.lst (E'.map ic++[ic v]))):=by
    have ap:bL (.ref 15) [.tup [.int v.1,.str v.2]] hh=.ok .non (hh.set 15 (.lst (E'.map ic++[ic v]))):=ap;generalize hh.set 15 (.lst (E'.map ic++[ic v]))=h3 at *;unfold mY
    generalize (-1:Int)=M1,bA=G at *;simp[ob,ft,ng,ix1,ix2,il,ap,-ao,-cn,-bL,-bh]
   show thn (mY (eL o0 o5 o6 o7 o8 o9 o10 o11 o12 (some (.str w)) o14 o15) hh) _
   rw[e];refine⟨_,E' ++ [v],rfl,by rw[Og];exact Nv (bX q1),λi hi=>(Nl (Ne.symm hi)).trans (q2 i hi),by rw[Of];exact q3,λe he=>?_,by simp;lia⟩
   rcases Oe.mp he with he|he
   ·exact q4 e he
   ·obtain rfl:=Pe.mp he
    exact⟨(H.tz _ (cC lv)).1,(Z.nl m (Nk _)).1 _ (cC ((l w).symm.trans lv))⟩)
 rw[Nw] at q5;refine⟨h',c13,?_,Z.hy,⟨kx,bs,H.keep λi hi=>q2 i ⋯,l,lb⟩,?_,Z.nl,⟨E',q1,q4,by lia⟩,(q2 16 ⋯).trans Z.se,Z.pre,Z.mt⟩
 ·refine(lN ?_).trans r1
  have ob:=H.ob;generalize mU=G,W.map AV.str=WS at *;simp[ob,fn]
 ·obtain⟨Ks,s1,s2,s3⟩:=Z.ss
  exact⟨Ks,(q2 14 ⋯).trans s1,s2,λj K e=>⟨(s3 j K e).1,(q2 K (by have:=(s3 j K e).1;lia)).trans (s3 j K e).2⟩⟩
def A7{a b:SE}{h:AH}{i j:Int}{m:Nat}(e:a en h=.ok (.int i) h1)(e':b en h1=.ok (.int j) h2)(hm:(j-i).toNat=m)(b1:i.natAbs<=20000000)(b3:j.natAbs<=20000000):iU a b en h=.ok (cP i m,none) h2:=by
 have h1':i.natAbs<2 ^ 62/\j.natAbs<2 ^ 62:=by lia
 simp only[iU,e,e',Out.bind]
 rw[Nn h1',hm]
def Mg(Z:Zs h t b m X V Kx ps sn)(hz:ps.length<=13000000)(o0 o5 o6 o7 o8 o9 o10 o11 o12 o13 o14 o15:Option AV) :
  ∃ h' c14,(ai (aG (aD (ag cq (ar aB (ah (aa 4) af)) (aA 0 gj (aA 1 cw (aa 1) af) af))) (ak (ae (.bl false))) aH)
  (bT (iU (ag ay (ar aB (ah (aa 4) af)) (ae (.int 1))) (ag ay (aA 0 gj (aA 1 cw (aa 1) af) af) (ae (.int 1)))) (.nm 14) mZ)) (eL o0 o5 o6 o7 o8 o9 o10 o11 o12 o13 o14 o15) h=.nx (eL o0 o5 o6 o7 o8 o9 o10 o11 o12 o13 c14 o15) h'/\Zs h' t b m X V Kx ps ps:=by
 obtain⟨kx,bs,H,l,lb⟩:=Z.ho;obtain⟨E,e1,e2,e3⟩:=Z.ev;have pl:=Z.pre.length_le;have pt:=List.prefix_iff_eq_take.mp Z.pre;have ob:=H.ob;have hs:=nu H;have mn:=zS H.sh;have obp:=H.sh.ob;have ln:aB [.ref 16] h=.ok (.int sn.length) h:=by simp only[aB,Z.se,Nw]
 obtain⟨e',h',r1,c14,rfl,q1,q2,q3⟩:=lM (w:=none) (all:=cP ((sn.length+1:Nat):Int) (ps.length-sn.length)) (t:=.nm 14) (b:=mZ) (xs:=cP ((sn.length+1:Nat):Int) (ps.length-sn.length)) (en:=eL o0 o5 o6 o7 o8 o9 o10 o11 o12 o13 o14 o15) (h:=h)
  (λj en hh=>∃ (c14:Option AV),en=eL o0 o5 o6 o7 o8 o9 o10 o11 o12 o13 c14 o15/\hh[16]?=some (.lst ((ps.take (sn.length+j)).map Pc.av))/\(∀ i,i≠16->hh[i]?=h[i]?)/\hh.length=h.length)
  ⟨o14,rfl,by rw[R4,<- pt];exact Z.se,λ_ _=>rfl,rfl⟩ (λ_ _ _ _=>rfl) (by
   rintro j u en hh hu ⟨c14,rfl,q1,q2,q3⟩
   have hj:j<ps.length-sn.length:=by have:=(Ni.mp hu).1;rwa[ke] at this
   obtain rfl:u=.int ((sn.length+1+j:Nat):Int):=by
    rw[qY,Nn hj] at hu;cases hu;congr 1
   obtain⟨pc,epc⟩:∃ pc,ps[sn.length+j]?=some pc:=⟨_,Nx ⋯⟩
   have Hh:=H.keep λi hi=>q2 i ⋯
   have ob:=Hh.ob;have hs:=nu Hh;have obp:=Hh.sh.ob;have fp:=nh Hh.sh (n:=sn.length+1+j) ⋯ (by rw[show sn.length+1+j-1=sn.length+j by lia];exact epc)
   have ap:=A5 q1 (by rw[Nw,Ot];(clear fp obp hs ob Hh epc hu hj q3 q2 q1 ln mn pt pl e3 e2 e1 lb l H Z;lia)) pc.av
   have il:bh (.ref 16) hh=true:=by simp only[bh,eX,q1];rfl
   have e:mZ (eL o0 o5 o6 o7 o8 o9 o10 o11 o12 o13 (some (.int ((sn.length+1+j:Nat):Int))) o15) hh=.nx (eL o0 o5 o6 o7 o8 o9 o10 o11 o12 o13 (some (.int ((sn.length+1+j:Nat):Int))) o15) (hh.set 16 (.lst ((ps.take (sn.length+j)).map Pc.av++[pc.av]))):=by
    generalize pc.av=PA,((sn.length+1+j:Nat):Int)=N,hh.set 16 (.lst ((ps.take (sn.length+j)).map Pc.av++[pc.av]))=h3 at *;unfold mZ
    generalize cM=G2,cw=G at *;simp[ob,hs,obp,fp,il,ap,-bL,-bh]
   show thn (mZ (eL o0 o5 o6 o7 o8 o9 o10 o11 o12 o13 (some (.int ((sn.length+1+j:Nat):Int))) o15) hh) _
   rw[e];refine⟨_,rfl,?_,λi hi=>(Nl (Ne.symm hi)).trans (q2 i hi),by rw[Of];exact q3⟩
   rw[<- Nat.add_assoc,Qm,epc,Og];exact Nv (bX q1))
 rw[ke,N9 ⋯] at q1;refine⟨h',c14,?_,Z.hy,⟨kx,bs,H.keep λi hi=>q2 i ⋯,l,lb⟩,?_,Z.nl,⟨E,(q2 15 ⋯).trans e1,e2,e3⟩,q1,Oj _,Z.mt⟩
 ·refine dG (P:=λz=>z=_) (h1:=h) ?_ ((lN (A7 (i:=((sn.length+1:Nat):Int)) (j:=((ps.length+1:Nat):Int)) (h1:=h) ?_ ?_ (by(clear q3 q2 q1 r1 ln obp mn hs ob pt e3 e2 e1 lb l H hz Z;lia)) ⋯ (by(clear q3 q2 q1 r1 ln obp mn hs ob pt pl e3 e2 e1 lb l H Z;omega)))).trans r1)
  ·have g:cq (.int sn.length) (.int ps.length) h=.ok (.bl false) h:=by
    have:¬ (ps.length:Int)<sn.length:=by lia
    simp only[cq,this,Sh]
   generalize (sn.length:Int)=SL,(ps.length:Int)=PL,gj=G2,cw=G at *;simp[ob,hs,obp,mn,ln,g,-cq,-aB]
  ·have ad:=pj (a:=sn.length) (b:=1) rfl h
   generalize (sn.length:Int)=SL,((sn.length+1:Nat):Int)=A at *;have ad:ay (.int SL) (.int 1) h=.ok (.int A) h:=ad
   simp[ln,ad,-ay,-aB]
  ·have ad:=pj (a:=ps.length) (b:=1) rfl h
   generalize (ps.length:Int)=PL,((ps.length+1:Nat):Int)=A,gj=G2,cw=G at *;have ad:ay (.int PL) (.int 1) h=.ok (.int A) h:=ad
   simp[ob,hs,obp,mn,ad,-ay]
 ·obtain⟨Ks,s1,s2,s3⟩:=Z.ss
  exact⟨Ks,(q2 14 ⋯).trans s1,s2,λj K e=>⟨(s3 j K e).1,(q2 K (by have:=(s3 j K e).1;lia)).trans (s3 j K e).2⟩⟩
end
def wG{k:Nat}(h1:a<=k*j)(h2:b<=a+k):b<=k*(j+1):=by
 rw[Nat.mul_succ];lia
def A8(h:a<=240040*j)(hj:j<=43):a<=10321720:=(Np h (RN 240040 hj))
section
variable{h h':AH}{t b m:Nat}{X:Nat->Str}{V:Nat->Option (Nat×Str)}{Kx:Nat->ZH}{ps ps' sn:List Pc}
def Mh(Z:Zs h t b m X V Kx ps sn)(eL':h[L]?=some (.lst [.int N]))(Zk:∀ h',(∀ i,i<h.length->i≠L->h'[i]?=h[i]?)->Zs h' t b m X V Kx ps sn)(lL:16<L)(KL:∀ K,h[K]?=some (.dct false ((Kx m).map (kG gS)))->K≠L)(ht:t<50)(hz:ps.length<12000000)(kd:Nat)(o0 o5 o6 o9 o10 o11 o12 o13 o14 o15:Option AV) :
  ∃ h' m' X' V' Kx' ps' c9 c10 c11 c12,(aG (d8 (aD (ag az (aa 8) (ae (.int 0)))) (aD (ag cq (ar aB (ah (aa 2) af)) (ae (.int 1))))) (ai (aG (aD (ag fM (ar dS (ah (aa 1) (ah (aS (ah (ae (.str "back")) af)) af))) (ae (.str "")))) (ak (ae (.bl false))) aH)
  (aU (gD bh cZ (aa 2)))) (aG (aD (ag az (aa 8) (ae (.int 1)))) (ai (au 9 (ar gR (ah (aA 1 cw (aa 1) af) (ah (ar i6 (ah (aa 7) (ah (ae (.int 20)) af))) af))))
  (aU (ar bC (ah (aA 1 cw (aa 1) af) (ah (aa 9) (ah (aa 9) af)))))) (ai (nV (.tup [10,11,12]) (ar mX (ah (aa 7) (ah (ag ao (aa 2) (eV cn (ae (.int 1)))) af))))
  (ai (aG (aD (ag fM (ar dS (ah (aa 1) (ah (aa 10) af))) (aa 11))) (ak (ae (.bl false))) aH)
  (aG (aD (ag az (aa 11) (ae (.str "")))) (aU (dC bh bL (aa 2) (ah (aa 12) af))) aH))))) (eL o0 o5 o6 (some (.ref L)) (some (.int kd)) o9 o10 o11 o12 o13 o14 o15) h=.nx (eL o0 o5 o6 (some (.ref L)) (some (.int kd)) c9 c10 c11 c12 o13 o14 o15) h'/\Zs h' (t+1) b m' X' V' Kx' ps' sn/\ps'.length<=ps.length+240040:=by
 obtain⟨Z0,K,s14,l0,kc,sK⟩:=Z.top;have ln:aB [.ref 14] h=.ok (.int ((m+1:Nat):Int)) h:=by
  simp only[aB,s14,NV,Re,l0]
 have cA:(d8 (aD (ag az (aa 8) (ae (.int 0)))) (aD (ag cq (ar aB (ah (aa 2) af)) (ae (.int 1))))) (eL o0 o5 o6 (some (.ref L)) (some (.int kd)) o9 o10 o11 o12 o13 o14 o15) h=.ok (decide (kd=0) && decide (0<m)) h:=by
  have g:cq (.int ((m+1:Nat):Int)) (.int 1) h=.ok (.bl (decide (0<m))) h:=by
   have:decide ((1:Int)<((m+1:Nat):Int))=decide (0<m):=decide_eq_decide.mpr ⋯
   simp only[cq,this]
  have q:=rZ kd 0 h;rw[show decide ((kd:Int)=0)=decide (kd=0) from decide_eq_decide.mpr ⋯] at q;generalize decide (0<m)=bm,decide (kd=0)=bk,(kd:Int)=KD,((m+1:Nat):Int)=M1 at *
  cases bk<;>simp[q,ln,g,-az,-cq,-aB]
 by_cases qA:(decide (kd=0) && decide (0<m))=true
 ·rw[qA] at cA
  simp only[N7,Oz] at qA
  obtain⟨r,rfl⟩:∃ r,m=r+1:=⟨m-1,by lia⟩
  obtain⟨h1,h2,v,wd,il,pp,Z2,_,_⟩:=Z.back ⋯;refine⟨h2,r,X,V,Kx,ps,o9,o10,o11,o12,?_,Z2,by lia⟩
  generalize dS=G,(d8 (aD (ag az (aa 8) (ae (.int 0)))) (aD (ag cq (ar aB (ah (aa 2) af)) (ae (.int 1)))))=C at *;simp[cA,wd,il,pp,-cZ,-bh]
 ·rw[PM.mpr qA] at cA
  have cB:(aD (ag az (aa 8) (ae (.int 1)))) (eL o0 o5 o6 (some (.ref L)) (some (.int kd)) o9 o10 o11 o12 o13 o14 o15) h=.ok (decide (kd=1)) h:=by
   have q:=rZ kd 1 h;rw[show decide ((kd:Int)=1)=decide (kd=1) from decide_eq_decide.mpr ⋯] at q;generalize (kd:Int)=KD at *;simp[q,-az]
  obtain⟨kx,bs,H,l,lb⟩:=Z.ho;have ob:=H.ob;have hs:=nu H;by_cases qB:kd=1
  ·rw[NO qB] at cB
   obtain⟨y,N',fp,py,ly,_⟩:=Aw 20 'd' eL';obtain⟨h1,eh1⟩:∃ h1,h1=h.set L (.lst [.int N']):=⟨_,rfl⟩
   have fp:i6 [.ref L,.int 20] h=.ok (.str y) h1:=by rw[eh1];exact fp
   have Z1:=Zk h1 λi _ hi=>by rw[eh1];exact Nl (Ne.symm hi)
   obtain⟨kx1,bs1,H1,_⟩:=Z1.ho;obtain⟨n,ps2,h2,fb,D,T⟩:=Al H1.sh H1.gd py ⋯ ⋯;have Z2:=Z1.dd D;obtain⟨kx2,bs2,H2,_⟩:=Z2.ho;have d1:=D.len;obtain⟨n3,ps3,h3,fj,D3,_⟩:=pe H2.sh H2.gd T T ⋯ ⋯;have d3:=D3.len;have ob2:=H2.ob;have hs2:=nu H2;refine⟨h3,m,X,V,Kx,ps3,some (.int n),o10,o11,o12,?_,(Z2.dd D3).up,by lia⟩
   generalize i6=G4,bC=G3,gR=G2,cw=G,(aD (ag az (aa 8) (ae (.int 1))))=C2,(d8 (aD (ag az (aa 8) (ae (.int 0)))) (aD (ag cq (ar aB (ah (aa 2) af)) (ae (.int 1)))))=C at *;simp[cA,cB,ob,hs,fp,fb,ob2,hs2,fj]
  ·rw[NJ qB] at cB
   have kxm:∀ e∈Kx m,bp e.1=true/\e.2.2.length<=300:=λe he=>by
    have:=AG (x:=e.1) (v:=e.2) (Z.hy.nd m (Nk _)) he;exact⟨(H.tz _ (cC ((l e.1).trans this))).2,(Z.nl m (Nk _)).1 e he⟩
   obtain⟨deed,due,K',h1,fd,F1,gd,gn⟩:=L0 sK ⟨N,eL'⟩ (KL K sK) (by have:=(Z.nl m (Nk _)).2;lia) kxm
   have Z1:=Zk h1 λi hi hn=>F1.fr i hi hn
   obtain⟨kx1,bs1,H1,l1,_⟩:=Z1.ho;have ixl:=A6 s14;have ng:cn (.int 1) h=.ok (.int (-1)) h:=rfl;have r1:nV (.tup [10,11,12]) (ar mX (ah (aa 7) (ah (ag ao (aa 2) (eV cn (ae (.int 1)))) af))) (eL o0 o5 o6 (some (.ref L)) (some (.int kd)) o9 o10 o11 o12 o13 o14 o15) h=.nx (eL o0 o5 o6 (some (.ref L)) (some (.int kd)) o9 (some deed) (some (.str due)) (some (.ref K')) o13 o14 o15) h1:=by
    generalize (-1:Int)=M1,mX=G at *;simp[ng,ixl,fd,-cn,-ao]
   obtain⟨w,h2,h3,m',X',V',Kx',ps',wd,ap,Z3,len⟩:∃ (w:OutS) (h2 h3:AH) (m':Nat) (X':Nat->Str) (V':Nat->Option (Nat×Str)) (Kx':Nat->ZH) (ps':List Pc),dS [.ref 0,deed] h1=.ok (.str due) h2/\(aG (aD (ag az (aa 11) (ae (.str "")))) (aU (dC bh bL (aa 2) (ah (aa 12) af))) aH) (eL o0 o5 o6 (some (.ref L)) (some (.int kd)) o9 (some deed) (some (.str due)) (some (.ref K')) o13 o14 o15) h2=.nx (eL o0 o5 o6 (some (.ref L)) (some (.int kd)) o9 (some deed) (some (.str due)) (some (.ref K')) o13 o14 o15) h3/\Zs h3 (t+1) b m' X' V' Kx' ps' sn/\ps'.length<=ps.length+240040:=by
    by_cases hd:due=""
    ·obtain⟨x,oy,cc,g,hc,lK,kd',ny⟩:=gd hd
     have lh:=bX eL';obtain⟨h2,h3,ps',X',V',Kx',wd,il,ap,Z3,len,_,_⟩:=Z1.deed g kd' ⋯ ny ⋯ ht;subst hd;refine⟨.bad,h2,h3,m+1,X',V',Kx',ps',wd,?_,Z3,by lia⟩
     simp[il,ap,-bL,-bh]
    ·refine⟨.bad,h1,h1,m,X,V,Kx,ps,gn hd kx1 ps _ bs1 l1 H1,?_,Z1.up,by lia⟩
     simp[hd]
   refine⟨h3,m',X',V',Kx',ps',o9,some deed,some (.str due),some (.ref K'),?_,Z3,len⟩
   have ne0:fM (.str due) (.str due) h2=.ok (.bl false) h2:=by simp
   show aG _ _ (aG _ _ _) _ _=_
   generalize (aD (ag az (aa 8) (ae (.int 1))))=C2,(d8 (aD (ag az (aa 8) (ae (.int 0)))) (aD (ag cq (ar aB (ah (aa 2) af)) (ae (.int 1)))))=C at *;unfold aG
   rw[cA];show (C2 _ h).go _ _=_
   rw[cB];show ai _ _ _ _=_
   refine cJ (P:=λz=>z=_) r1 (dG (P:=λz=>z=_) (h1:=h2) ?_ ap)
   generalize dS=G at *;simp[wd,ne0,-fM]
def Mi(Z:Zs h t b m X V Kx ps ps)(ht:t<50)(hb:b<=3000)(hz:ps.length<12000000)(c kk:Int)(o0 o7 o8 o9 o10 o11 o12 o13 o14 o15:Option AV) :
  ∃ h' m' X' V' Kx' ps' c7 c8 c9 c10 c11 c12 c13 c14,m7 (eL o0 (some (.int kk)) (some (.int c)) o7 o8 o9 o10 o11 o12 o13 o14 o15) h=.nx (eL o0 (some (.int kk)) (some (.int c)) c7 c8 c9 c10 c11 c12 c13 c14 o15) h'/\Zs h' (t+1) (b+50) m' X' V' Kx' ps' ps'/\ps'.length<=ps.length+240040:=by
 have l16:=bX Z.se;obtain⟨N,st⟩:=Kv [c,kk] 's' 0 'd' h;have st:lC [.fl [.int c,.int kk],.int 0] h=.ok (.ref h.length) (h++[.lst [.int N]]):=st;obtain⟨L,eL0⟩:∃ L,L=h.length:=⟨_,rfl⟩
 obtain⟨h1,eh1⟩:∃ h1,h1=h++[AO.lst [.int N]]:=⟨_,rfl⟩
 rw[<- eL0,<- eh1] at st;have k1:∀ i,i<L->h1[i]?=h[i]?:=λi hi=>by rw[eh1,Nt ⋯]
 have L1:h1[L]?=some (.lst [.int N]):=by rw[eh1,eL0];simp
 have n1:h1.length=L+1:=by rw[eh1,NV,eL0];rfl
 obtain⟨kd,N2,hk,tk⟩:=pf 8 L1 'd' 'd';obtain⟨h2,eh2⟩:∃ h2,h2=h1.set L (.lst [.int N2]):=⟨_,rfl⟩
 have tk:aX [.ref L,.int 8] h1=.ok (.int kd) h2:=by rw[eh2];exact tk
 have k2:∀ i,i<L->h2[i]?=h[i]?:=λi hi=>by rw[eh2,Nl ⋯];exact k1 i hi
 have L2:h2[L]?=some (.lst [.int N2]):=by rw[eh2];exact Nv (bX L1)
 have n2:h2.length=L+1:=by rw[eh2,Of];exact n1
 have Z2:Zs h2 t b m X V Kx ps ps:=Z.kp λi hi=>k2 i ⋯
 obtain⟨h3,m',X',V',Kx',ps',c9,c10,c11,c12,md,Z3,len⟩:=Mh Z2 L2 (λh' k=>Z.kp λi hi=>(k i ⋯ ⋯).trans (k2 i ⋯)) ⋯ (λK e z=>by rw[z,L2] at e;cases e) ht hz kd o0 (some (.int kk)) (some (.int c)) o9 o10 o11 o12 o13 o14 o15
 obtain⟨h4,c13,nm,Z4⟩:=Mf Z3 hb o0 (some (.int kk)) (some (.int c)) (some (.ref L)) (some (.int kd)) c9 c10 c11 c12 o13 o14 o15;obtain⟨h5,c14,se,Z5⟩:=Mg Z4 ⋯ o0 (some (.int kk)) (some (.int c)) (some (.ref L)) (some (.int kd)) c9 c10 c11 c12 c13 o14 o15;refine⟨h5,m',X',V',Kx',ps',some (.ref L),some (.int kd),c9,c10,c11,c12,c13,c14,?_,Z5,len⟩
 unfold m7;refine aT (P:=λz=>z=_) (v:=.ref L) (h2:=h1) ?_ (aT (P:=λz=>z=_) (v:=.int kd) (h2:=h2) ?_ ?_)
 ·generalize lC=G at *
  simp[st]
 ·generalize aX=G at *
  simp[tk]
 ·exact cJ (P:=λz=>z=_) md (cJ (P:=λz=>z=_) nm se)
end
def Mj(l:List AV)(k:Nat)(h:AH):dE (.fl l) none (some (k:Int)) h=.ok (.fl (l.take k)) h:=by
 simp only[dE]
 congr 2
 unfold dN;rw[HT.sIx_nat,HT.sIx_none];show (l.drop 0).take (min k l.length-0)=_
 rw[Rt,Nat.sub_zero];by_cases q:k<=l.length
 ·rw[Pg q]
 ·rw[Nat.min_eq_right ⋯,N9 (Nk _),N9 ⋯]
def Ml{ds bs:List De}(H:Ho h 0 1 10 ps kx ds bs){e:Nat×Str}(T:TxZ ps e.1 e.2)(le:e.2.length<=300)(o0 o5 o6 o7 o8 o9 o10 o11 o12 o13:Option AV) :
  m8 (eL o0 o5 o6 o7 o8 o9 o10 o11 o12 o13 (some (.int e.1)) (some (.str e.2))) h=.nx (eL o0 o5 o6 o7 o8 o9 o10 o11 o12 o13 (some (.int e.1)) (some (.str e.2))) h:=by
 have ob:=H.ob;have hs:=nu H;have obp:=H.sh.ob;have rd:=L5 H.sh H.gd T ⋯;obtain⟨m,em,sm⟩:=T.meas;have fs:=cz H.sh em;have ln:aB [.str e.2] h=.ok (.int m.sg) h:=by rw[sm];rfl
 have n1:fM (.str e.2) (.str e.2) h=.ok (.bl false) h:=by simp
 have n2:fM (.int m.sg) (.int m.sg) h=.ok (.bl false) h:=by simp
 unfold m8;generalize dQ=G3,cw=G2,hZ 90=G at *;simp[ob,hs,rd,n1,obp,fs,ln,n2,-fM,-aB]
def Mm{ds bs:List De}(H:Ho h 0 1 10 ps kx ds bs)(hz:ps.length<=13000000)(o0 o5 o6 o7 o8 o9 o10 o11 o12 o13 o14 o15:Option AV) :
  e7 [1] (iU (ae (.int 1)) (ag ay (aA 0 gj (aA 1 cw (aa 1) af) af) (ae (.int 1)))) bI (aA 0 cM (aA 1 cw (aa 1) af) (ah (aa 0) af)) (eL o0 o5 o6 o7 o8 o9 o10 o11 o12 o13 o14 o15) h=.ok (.fl (ps.map Pc.av)) h:=by
 have ob:=H.ob;have hs:=nu H;have obp:=H.sh.ob;have mn:=zS H.sh;have it:iU (ae (.int 1)) (ag ay (aA 0 gj (aA 1 cw (aa 1) af) af) (ae (.int 1))) (eL o0 o5 o6 o7 o8 o9 o10 o11 o12 o13 o14 o15) h=.ok (cP 1 ps.length,none) h:=by
  refine A7 (i:=1) (j:=((ps.length+1:Nat):Int)) (h1:=h) rfl ?_ ⋯ 'd' ⋯
  have ad:=pj (a:=ps.length) (b:=1) rfl h;generalize (ps.length:Int)=PL,((ps.length+1:Nat):Int)=A,gj=G2,cw=G at *;have ad:ay (.int PL) (.int 1) h=.ok (.int A) h:=ad
  simp[ob,hs,obp,mn,ad,-ay]
 obtain⟨zs,h',r1,rfl,rfl⟩:=zI (js:=[1]) (en:=eL o0 o5 o6 o7 o8 o9 o10 o11 o12 o13 o14 o15) (all:=cP 1 ps.length) (e:=aA 0 cM (aA 1 cw (aa 1) af) (ah (aa 0) af)) (xs:=cP 1 ps.length) (h:=h)
  (λj ys hh=>ys=(ps.take j).map Pc.av/\hh=h) ⟨rfl,rfl⟩ (by
   rintro j u ys hh hu ⟨rfl,rfl⟩
   have hj:j<ps.length:=by have:=(Ni.mp hu).1;rwa[ke] at this
   obtain rfl:u=.int ((1+j:Nat):Int):=by
    rw[qY,Nn hj] at hu;cases hu;congr 1
   obtain⟨pc,epc⟩:∃ pc,ps[j]?=some pc:=⟨_,Nx hj⟩
   have fp:=nh H.sh (n:=1+j) ⋯ (by rw[show 1+j-1=j by lia];exact epc)
   have e:(aA 0 cM (aA 1 cw (aa 1) af) (ah (aa 0) af)) [some (.int ((1+j:Nat):Int)),some (.ref 0)] hh=.ok pc.av hh:=by
    generalize cM=G2,cw=G,pc.av=PA,((1+j:Nat):Int)=N at *;simp[ob,hs,obp,fp]
   show zG (aA 0 cM (aA 1 cw (aa 1) af) (ah (aa 0) af) [some (.int ((1+j:Nat):Int)),some (.ref 0)] hh) _
   rw[e];exact⟨by rw[Qm,epc,Og];rfl,rfl⟩) (by rw[ke];exact Np hz 'd')
 rw[ke,N9 (Nk _)] at r1;simp only[e7,it,r1]
def law_true(ns:List Int)(hl:ns.length<=63):∃ h',uW [.fl (ns.map AV.int)] []=.ok (.bl true) h':=by
 obtain⟨sc,esc⟩:∃ sc:Option AV,sc=some (.fl (ns.map AV.int)):=⟨_,rfl⟩
 obtain⟨h0,eh0⟩:∃ h0:AH,h0=.ins 1 [some (.ref 1),some (.ref 10),some (.ref 11),some (.ref 12)]::(rk 1++[.dct false [],.lst [],.lst []]):=⟨_,rfl⟩
 have mk:mw 1 4 mR af [sc,none,none,none,none,none,none,none,none,none,none,none,none,none,none,none] []=.ok (.ref 0) h0:=by rw[eh0];exact KJ _ []
 have H0:Ho h0 0 1 10 [] [] [] []:=by
  rw[eh0];exact⟨rfl,JG [.ins 1 [some (.ref 1),some (.ref 10),some (.ref 11),some (.ref 12)]] [AO.dct false [],.lst [],.lst []],.nil,rfl,rfl,rfl,nofun,⟨by decide,by decide⟩,by decide,Pl⟩
 have l0:h0.length=13:=by rw[eh0];rfl
 obtain⟨h1,eh1⟩:∃ h1,h1=h0++[AO.dct false [],.lst [.ref 13]]:=⟨_,rfl⟩
 obtain⟨h2,eh2⟩:∃ h2,h2=h1++[AO.lst []]:=⟨_,rfl⟩
 obtain⟨h3,eh3⟩:∃ h3,h3=h2++[AO.lst []]:=⟨_,rfl⟩
 have l1:h1.length=15:=by rw[eh1,NV,l0];rfl
 have l2:h2.length=16:=by rw[eh2,NV,l1];rfl
 have H3:Ho h3 0 1 10 [] [] [] []:=by rw[eh3,eh2,eh1];exact((H0.app _).app _).app _
 have at3:∀ i,h3[13+i]?=([AO.dct false [],.lst [.ref 13],.lst [],.lst []]:AH)[i]?:=λi=>by
  rw[eh3,eh2,eh1,PQ,PQ,NF ⋯,l0,show 13+i-13=i by lia];rfl
 have Z3:Zs h3 0 0 0 (λ_ => "") (λ_=>none) (λ_=>[]) [] []:=⟨⟨λ_ _=>Pl,λ_ _=>NU _,λ_ _=>nofun,λj hj=>absurd hj (OF _)⟩,⟨[],[],H3,λ_=>rfl,Nk _⟩,⟨[13],at3 1,rfl,λj K e=>by
  cases j with
  |zero=>cases e;exact⟨.inl rfl,at3 0⟩
  |succ j=>cases e⟩,λ_ _=>⟨nofun,Nk _⟩,⟨[],at3 2,nofun,Nk _⟩,at3 3,Oj _,Nk _⟩
 obtain⟨cells,ecl⟩:∃ cells:List Int,cells=ns.take 40++[0,1,2]:=⟨_,rfl⟩
 have lc:cells.length<=43:=by rw[ecl,NV,Ot];show min 40 ns.length+3<=43;lia
 obtain⟨e',h4,r4,q4⟩:=lM (w:=none) (all:=Sm.numbered 0 (cells.map AV.int)) (t:=.tup [5,6]) (b:=m7) (xs:=Sm.numbered 0 (cells.map AV.int)) (en:=eL sc none none none none none none none none none none none) (h:=h3)
  (λj en hh=>j<=43->∃ (m:Nat) (X:Nat->Str) (V:Nat->Option (Nat×Str)) (Kx:Nat->ZH) (ps:List Pc) (o5 o6 o7 o8 o9 o10 o11 o12 o13 o14 o15:Option AV),en=eL sc o5 o6 o7 o8 o9 o10 o11 o12 o13 o14 o15/\Zs hh j (50*j) m X V Kx ps ps/\ps.length<=240040*j)
  (λ_=>⟨0,_,_,_,[],_,_,_,_,_,_,_,_,_,_,_,rfl,Z3,NU _⟩) (λ_ _ _ _=>rfl) (by
   intro j u en hh hu hp;rw[Sm.numbered_get,NY] at hu;obtain⟨w,ev',rfl⟩:=NG.mp hu
   obtain⟨c,ec,rfl⟩:=NG.mp ev';have hj:j<cells.length:=(Ni.mp ec).1;obtain⟨m,X,V,Kx,ps,o5,o6,o7,o8,o9,o10,o11,o12,o13,o14,o15,rfl,Z,lp⟩:=hp ⋯;have lp7:=A8 lp ⋯;obtain⟨h',m',X',V',Kx',ps',c7,c8,c9,c10,c11,c12,c13,c14,e,Z',lp'⟩:=Mi Z ⋯ ⋯ ⋯ c ((0+j:Nat):Int) sc o7 o8 o9 o10 o11 o12 o13 o14 o15;obtain⟨BB,hB⟩:∃ BB,BB=m7:=⟨_,rfl⟩
   rw[<- hB] at e ⊢;show thn (BB (eL sc (some (.int ((0+j:Nat):Int))) (some (.int c)) o7 o8 o9 o10 o11 o12 o13 o14 o15) hh) _
   rw[e];exactλ_=>⟨m',X',V',Kx',ps',_,_,c7,c8,c9,c10,c11,c12,c13,c14,_,rfl,Z',wG lp lp'⟩)
 have nl:∀ (xs:List AV) (k:Nat),(Sm.numbered k xs).length=xs.length:=λxs=>by
  induction xs with
  |nil=>intro k;rfl
  |cons x xs ih=>intro k;simp[Sm.numbered,ih (k+1)]
 rw[nl,Nw] at q4;obtain⟨m,X,V,Kx,ps,o5,o6,o7,o8,o9,o10,o11,o12,o13,o14,o15,rfl,Z,lp⟩:=q4 lc
 have lp7:=A8 lp lc;obtain⟨kx,bs,H,_,_⟩:=Z.ho;obtain⟨E,e1,e2,e3⟩:=Z.ev;obtain⟨e5,h5,r5,rfl,c14,c15,rfl⟩:=lM (w:=some 15) (all:=E.map ic) (t:=.tup [14,15]) (b:=m8) (xs:=E.map ic) (en:=eL sc o5 o6 o7 o8 o9 o10 o11 o12 o13 o14 o15) (h:=h4)
  (λj en hh=>hh=h4/\∃ c14 c15,en=eL sc o5 o6 o7 o8 o9 o10 o11 o12 o13 c14 c15) ⟨rfl,o14,o15,rfl⟩ (λi en hh p=>by rw[p.1];simp[fF,e1]) (by
   rintro j u en hh hu ⟨rfl,c14,c15,rfl⟩
   rw[NY] at hu;obtain⟨w,ew,rfl⟩:=NG.mp hu
   have:=e2 w (NL ew);show thn (m8 (eL sc o5 o6 o7 o8 o9 o10 o11 o12 o13 (some (.int w.1)) (some (.str w.2))) hh) _
   rw[Ml H this.1 this.2];exact⟨rfl,_,_,rfl⟩)
 unfold uW;refine nt (P:=λo=>∃ h',o=.ok (.bl true) h') rfl ?_
 obtain⟨PP,ePP⟩:∃ PP:OutS->Prop,PP=λo=>∃ h',eT o=.ok (.bl true) h':=⟨_,rfl⟩
 have toP:∀ o,PP o->∃ h',eT o=.ok (.bl true) h':=λo z=>by rw[ePP] at z;exact z
 have ofP:∀ h',PP (.rt (.bl true) h'):=λh'=>by rw[ePP];exact⟨h',rfl⟩
 clear ePP;refine toP _ ?_
 refine aT (v:=.ref 0) (h2:=h0) ?_ ?_
 ·have mk':=mk
  rw[esc] at mk';generalize mw 1 4 mR af=MK at *;exact mk'
 refine aT (v:=.ref 14) (h2:=h1) ?_ ?_
 ·rw[eh1,<- l0];simp[l0]
 refine aT (v:=.ref 15) (h2:=h2) ?_ ?_
 ·rw[eh2,<- l1];simp
 refine aT (v:=.ref 16) (h2:=h3) ?_ ?_
 ·rw[eh3,<- l2];simp
 refine cJ ((lN (t:=.tup [5,6]) (b:=m7) (h1:=h3) (w:=none) (xs:=Sm.numbered 0 (cells.map AV.int)) ?_).trans (esc▸r4)) ?_
 ·have sl:min 40 ns.length+3<=sizeLine:=Np (m:=43) (by(clear ofP toP r5 e1 H Z q4 r4 e3 e2 lp7 lp nl lc ecl Z3 at3 H3 l2 l1 eh3 eh2 eh1 l0 H0 mk eh0 esc hl;lia)) 'd'
  have ct:dE (.fl (ns.map AV.int)) none (some 40) h3=.ok (.fl ((ns.map AV.int).take 40)) h3:=Mj _ 40 h3;have ad:ay (.fl ((ns.map AV.int).take 40)) (.fl [.int 0,.int 1,.int 2]) h3=.ok (.fl (cells.map AV.int)) h3:=by
   have q:((ns.map AV.int).take 40).length+[AV.int 0,.int 1,.int 2].length<=sizeLine:=by rw[Ot,Nw];exact sl
   show (if ((ns.map AV.int).take 40).length+[AV.int 0,.int 1,.int 2].length<=sizeLine then Out.ok (AV.fl ((ns.map AV.int).take 40++[AV.int 0,.int 1,.int 2])) h3 else .bad)=_
   rw[Nn q,ecl,Og,List.map_take];rfl
  clear esc ecl r4;generalize cells.map AV.int=CS,ns.map AV.int=NS at *;generalize NS.take 40=NT at *;simp[ct,ad,-dE,-ay]
 refine cJ ((lN (t:=.tup [14,15]) (b:=m8) (h1:=h5) (w:=some 15) (xs:=E.map ic) ?_).trans (esc▸r5)) ?_
 ·simp[e1]
 have td:=Mm H ⋯ sc o5 o6 o7 o8 o9 o10 o11 o12 o13 c14 c15;have eq:=Mb Z.se;rw[esc] at td;refine gY (v:=.bl true) (h':=h5) ?_ (ofP h5)
 clear r4 r5;generalize ns.map AV.int=NS,ps.map Pc.av=PA,e7 [1] (iU (ae (.int 1)) (ag ay (aA 0 gj (aA 1 cw (aa 1) af) af) (ae (.int 1)))) bI (aA 0 cM (aA 1 cw (aa 1) af) (ah (aa 0) af))=C at *;simp[td,eq,-az]
def A9:bootBuiltins "sorted"=some (.builtin "sorted"):=by decide +kernel
def top(i:Nat):Stmt:=PySem.Challenge.pw_skeinwood_k83_whole_elder_texts_stay.main.body.getD i (.Pass ⟨0,0,0,0⟩)
abbrev Ba:Stmt:=b9 (top 22) 0
abbrev wH:Stmt:=b9 (top 46) 0
abbrev Bb:Stmt:=top 49
abbrev Bc:Stmt:=top 50
abbrev Bd:Stmt:=top 51
abbrev Be:Stmt:=b9 (top 46) 2
abbrev Bf:Stmt:=b9 (top 22) 3
abbrev Bh:Stmt:=top 14
abbrev Bi:Stmt:=b9 (top 22) 11
abbrev Bj:Stmt:=b9 (top 22) 12
abbrev Bk:Stmt:=b9 (top 22) 4
abbrev wI:Stmt:=b9 (top 46) 14
abbrev Bl:Stmt:=b9 (top 46) 11
abbrev Bm:Stmt:=top 18
abbrev Bn:Stmt:=top 47
abbrev wJ:Stmt:=b9 (top 46) 13
abbrev Bo:Stmt:=b9 (top 22) 14
abbrev Bp:Stmt:=b9 (top 22) 17
abbrev Bq:Stmt:=b9 (top 22) 16
abbrev Br:Stmt:=b9 (top 22) 2
abbrev Bs:Stmt:=top 35
abbrev Bt:Stmt:=top 16
abbrev Bu:Stmt:=top 15
abbrev Bv:Stmt:=top 17
abbrev Bw:Stmt:=top 19
abbrev Bx:Stmt:=b9 (top 22) 15
abbrev By:Stmt:=b9 (top 22) 1
abbrev Bz:Stmt:=top 25
abbrev BC:Stmt:=b9 (top 46) 4
abbrev BD:Stmt:=b9 (top 46) 3
abbrev BE:Stmt:=b9 (top 46) 5
abbrev BF:Stmt:=top 27
abbrev BG:Stmt:=b9 (top 22) 13
abbrev BH:Stmt:=b9 (top 22) 5
abbrev BI:Stmt:=b9 (top 22) 10
abbrev BJ:Stmt:=b9 (top 22) 9
abbrev BK:Stmt:=top 28
abbrev BM:Stmt:=top 33
abbrev BN:Stmt:=b9 (top 22) 8
abbrev BO:Stmt:=top 30
abbrev BP:Stmt:=top 34
abbrev BQ:Stmt:=top 31
abbrev BR:Stmt:=top 29
abbrev BS:Stmt:=top 32
abbrev BU:Stmt:=top 24
abbrev BV:Stmt:=b9 (top 46) 6
abbrev BW:Stmt:=top 38
abbrev BX:Stmt:=top 43
abbrev BY:Stmt:=top 44
abbrev BZ:Stmt:=top 41
abbrev B3:Stmt:=b9 (top 46) 7
abbrev wK:Stmt:=top 39
abbrev B4:Stmt:=top 42
abbrev B5:Stmt:=b9 (top 46) 8
abbrev B6:Stmt:=top 36
abbrev B7:Stmt:=top 26
abbrev B8:Stmt:=b9 (top 46) 9
abbrev B9:Stmt:=b9 (top 46) 10
abbrev Cb:Stmt:=b9 (top 46) 12
abbrev Cc:Stmt:=top 54
abbrev wL:Stmt:=top 55
abbrev wM:Stmt:=top 56
abbrev Cd:Stmt:=top 52
abbrev wN:Stmt:=top 57
abbrev wO:Stmt:=top 58
abbrev wQ:Stmt:=top 59
abbrev Ce:Stmt:=top 53
abbrev wR:Stmt:=b9 (top 46) 1
abbrev pH:Stmt:=top 60
def dX:Nat->List Str
 |0=>["pieces", "numbers", "sign_counts", "end_counts", "leaf_counts", "heights", "first_leaves", "last_leaves"]
 |1=>["own_shelf", "texts", "deeds", "taken_back"]
 |_=>[]
theorem Mn:∀ c,(dX c).Nodup
 |0=>by decide +kernel
 |1=>by decide +kernel
 |_+2=>Pl
theorem Mo:∀ c,(dX c).length<=500
 |0=>by decide +kernel
 |1=>by decide +kernel
 |_+2=>NU _
abbrev cS(K:ZA)(cls exc:Nat->Option ZE):Tb:=⟨K,cls,exc,dX,Mn,Mo⟩
structure Facts(P:ZD)(w:ZF)(K:ZA)(cls exc:Nat->Option ZE)(mg:Str->Option ZC)(base:Heap):Prop where
 LE:mg "abs"=none
 LT:mg "all"=none
 Id:mg "bool"=none
 IN:mg "dict"=none
 wr:mg "enumerate"=none
 IO:mg "int"=none
 s_:mg "isinstance"=none
 M_:mg "len"=none
 L_:mg "max"=none
 I_:mg "min"=none
 G_:mg "range"=none
 F_:mg "sorted"=none
 K_:mg "str"=none
 KK:mg "sum"=none
 r_:∃ t,mg "LEAF_SIGNS"=some (.int 8 t)
 q_:∃ t,mg "NAME_SIGNS"=some (.int 8 t)
 ut:∃ t,mg "MOST_PLAIN"=some (.int 10000 t)
 u8:∃ t,mg "MOST_SIGNS"=some (.int 1000000000000000000 t)
 Fa:CF (cS K cls exc) 0
 Go:CF (cS K cls exc) 1
 C_:GX (cS K cls exc) mg base 0 "NoText"
 B_:GX (cS K cls exc) mg base 1 "TooLong"
 AT:GX (cS K cls exc) mg base 2 "NoPlace"
 Ch:GX (cS K cls exc) mg base 3 "NoName"
 kx_NoText:∃ C,mg "NoText"=some (.ref C)/\∀ c C',exc c=some C'->bR K C'/\PySem.W.kitOne K (.ref C') (.ref C)=some (qM c)
 kx_TooLong:∃ C,mg "TooLong"=some (.ref C)/\∀ c C',exc c=some C'->bR K C'/\PySem.W.kitOne K (.ref C') (.ref C)=some (qN c)
 on:DI K cls mg 0 "Shelf" "Shelf.__init__" Ba ["self"]
 sB:DI K cls mg 1 "House" "House.__init__" wH ["self"]
 wE:DG K mg "_law_mixed" Bb ["cell", "k"]
 u_:DG K mg "_law_stream" Bc ["script", "k"]
 wT:DG K mg "_law_take" Bd ["stream", "many"]
 jp:bY K cls 1 "names" "House.names" Be ["self"]
 ul:bY K cls 0 "many" "Shelf.many" Bf ["self"]
 w_:DG K mg "is_whole" Bh ["thing"]
 bv:bY K cls 0 "has_piece" "Shelf.has_piece" Bi ["self", "number"]
 ac:bY K cls 0 "check_piece" "Shelf.check_piece" Bj ["self", "number"]
 jl:bY K cls 0 "piece" "Shelf.piece" Bk ["self", "number"]
 c_:bY K cls 1 "set_text" "House.set_text" wI ["self", "name", "text"]
 o_:bY K cls 1 "back" "House.back" Bl ["self"]
 At:DG K mg "is_name" Bm ["thing"]
 t_:DG K mg "check_name" Bn ["name"]
 zn:bY K cls 1 "do" "House.do" wJ ["self", "name", "text"]
 bd:bY K cls 0 "check_fork" "Shelf.check_fork" Bo ["self", "one", "other"]
 wn:bY K cls 0 "lay" "Shelf.lay" Bp ["self", "made"]
 cr:bY K cls 0 "lay_fork" "Shelf.lay_fork" Bq ["self", "made"]
 p_:bY K cls 0 "fork" "Shelf.fork" Br ["self", "one", "other"]
 E_:DG K mg "halved" Bs ["shelf", "leaves"]
 f_:DG K mg "is_plain_sign" Bt ["sign"]
 x_:DG K mg "is_plain" Bu ["thing"]
 xz:DG K mg "is_short" Bv ["thing"]
 z_:DG K mg "ends_in" Bw ["plain"]
 ci:bY K cls 0 "lay_leaf" "Shelf.lay_leaf" Bx ["self", "made"]
 pi:bY K cls 0 "leaf" "Shelf.leaf" By ["self", "plain"]
 H_:DG K mg "built" Bz ["shelf", "plain"]
 sw:bY K cls 1 "give" "House.give" BC ["self", "name", "plain"]
 n_:bY K cls 1 "text" "House.text" BD ["self", "name"]
 ge:bY K cls 1 "copy_of" "House.copy_of" BE ["self", "name", "other"]
 io:DG K mg "check_length" BF ["signs"]
 am:bY K cls 0 "check_text" "Shelf.check_text" BG ["self", "text"]
 nw:bY K cls 0 "signs" "Shelf.signs" BH ["self", "text"]
 b_:bY K cls 0 "last_leaf" "Shelf.last_leaf" BI ["self", "text"]
 a_:bY K cls 0 "first_leaf" "Shelf.first_leaf" BJ ["self", "text"]
 v0:DG K mg "are_close" BK ["shelf", "one", "other"]
 ww:DG K mg "with_last" BM ["shelf", "text", "leaf"]
 h_:bY K cls 0 "height" "Shelf.height" BN ["self", "text"]
 l_:DG K mg "turned_left" BO ["shelf", "one", "other"]
 g_:DG K mg "without_first" BP ["shelf", "text"]
 i_:DG K mg "turned_right" BQ ["shelf", "one", "other"]
 EQ:DG K mg "linked" BR ["shelf", "one", "other"]
 D_:DG K mg "welded" BS ["shelf", "one", "other"]
 Cl:DG K mg "joined" BU ["shelf", "one", "other"]
 d_:bY K cls 1 "join_to" "House.join_to" BV ["self", "name", "other"]
 v_:DG K mg "check_gap" BW ["shelf", "text", "at"]
 wS:DG K mg "front_of" BX ["shelf", "text", "at"]
 BT:DG K mg "back_of" BY ["shelf", "text", "at"]
 Ev:DG K mg "put_in" BZ ["shelf", "text", "at", "other"]
 dL:bY K cls 1 "put_into" "House.put_into" B3 ["self", "name", "at", "other"]
 e_:DG K mg "check_stretch" wK ["shelf", "text", "begin", "end"]
 wv:DG K mg "taken_out" B4 ["shelf", "text", "begin", "end"]
 bi:bY K cls 1 "take_from" "House.take_from" B5 ["self", "name", "begin", "end"]
 A_:DG K mg "doubled" B6 ["shelf", "text", "many"]
 yq:DG K mg "repeated" B7 ["shelf", "text", "many"]
 ii:bY K cls 1 "repeat" "House.repeat" B8 ["self", "name", "many"]
 ol:bY K cls 1 "drop" "House.drop" B9 ["self", "name"]
 m_:bY K cls 1 "again" "House.again" Cb ["self"]
 Db:DG K mg "_law_do" Cc ["house", "deed"]
 xL:DG K mg "_law_word" wL ["house", "deed"]
 x0:DG K mg "_law_name" wM ["stream", "known", "odd"]
 v4:DG K mg "_law_plain" Cd ["stream", "most"]
 wf:DG K mg "_law_given" wN ["stream", "known"]
 j_:DG K mg "_law_changed" wO ["stream", "known"]
 y_:DG K mg "_law_deed" wQ ["stream", "known"]
 wP:DG K mg "_law_reads" Ce ["shelf", "text"]
 k_:bY K cls 1 "shelf" "House.shelf" wR ["self"]
 J_:DG K mg "law" pH ["script"]
 cu_NoName:CU (cS K cls exc) mg "NoName" mQ
 cu_NoPlace:CU (cS K cls exc) mg "NoPlace" qO
 cu_NoText:CU (cS K cls exc) mg "NoText" oz
 cu_NothingDone:CU (cS K cls exc) mg "NothingDone" zD
 cu_TooLong:CU (cS K cls exc) mg "TooLong" uS
def Mp:aE ["self"] ["self"] (bK wH):=(gb)
def Mq:aE ["self", "name", "text"] ["self", "name", "text"] (bK wI):=(gb)
def Mr:aE ["self", "name", "text"] ["self", "name", "text"] (bK wJ):=(gb)
def Mt:aE ["shelf", "text", "begin", "end", "signs"] ["shelf", "text", "begin", "end"] (bK wK):=(gb)
def Mu:aE ["house", "deed", "told", "e"] ["house", "deed"] (bK wL):=(gb)
def Mv:aE ["stream", "known", "odd", "some", "kind"] ["stream", "known", "odd"] (bK wM):=(gb)
def Mw:aE ["stream", "known", "odd", "name", "other", "due", "plain"] ["stream", "known"] (bK wN):=(gb)
def Mx:aE ["stream", "known", "kind", "name", "other", "plain", "more", "gone", "both", "at", "end", "due", "many"] ["stream", "known"] (bK wO):=(gb)
def My:aE ["stream", "known", "kind", "name", "left", "deed", "due", "plain", "behind"] ["stream", "known"] (bK wQ):=(gb)
def Mz:aE ["self"] ["self"] (bK wR):=(gb)
def MA:aE ["script", "house", "states", "ever", "seen", "k", "cell", "stream", "kind", "more", "deed", "due", "behind", "name", "number", "plain"] ["script"] (bK pH):=(gb)
abbrev Gf{P:ZD}{w:ZF}{K:ZA}{cls exc:Nat->Option ZE}{mg:Str->Option ZC}{base:Heap}(_:Facts P w K cls exc mg base):=GF P w (cS K cls exc) mg base
abbrev Gm{P:ZD}{w:ZF}{K:ZA}{cls exc:Nat->Option ZE}{mg:Str->Option ZC}{base:Heap}(_:Facts P w K cls exc mg base):=GM P w (cS K cls exc) mg base
abbrev Gk{P:ZD}{w:ZF}{K:ZA}{cls exc:Nat->Option ZE}{mg:Str->Option ZC}{base:Heap}(_:Facts P w K cls exc mg base):=GK P w (cS K cls exc) mg base
section
variable{P:ZD}{w:ZF}{K:ZA}{cls exc:Nat->Option ZE}{mg:Str->Option ZC}{base:Heap}(Z:Facts P w K cls exc mg base)
include Z
set_option maxHeartbeats 0 in
def Z_:(Gk Z 1 0 "Shelf" uT)∧(Gf Z 1 "_law_mixed" qP)∧(Gf Z 1 "_law_mixed" qP→Gf Z 2 "_law_stream" lC)∧(Gf Z 1 "_law_take" aX)∧(Gm Z 1 1 "names" mU)∧(Gm Z 1 0 "many" gj)∧(Gf Z 1 "is_whole" qQ)∧(Gf Z 1 "is_whole" qQ→Gm Z 2 0 "has_piece" qR)∧(Gm Z 2 0 "has_piece" qR→Gm Z 3 0 "check_piece" lD)∧(Gm Z 3 0 "check_piece" lD→Gm Z 4 0 "piece" cM)∧(GM P w (cS K cls exc) mg base 1 1 "set_text" i4→Gm Z 2 1 "back" oA)∧(Gf Z 1 "is_name" fR)∧(Gf Z 1 "is_name" fR→Gf Z 2 "check_name" iC)∧(Gm Z 3 0 "check_piece" lD→Gm Z 4 0 "check_fork" oB)∧(Gm Z 1 0 "lay" oC)∧(Gm Z 1 0 "lay" oC→Gm Z 2 0 "lay_fork" oE)∧(Gm Z 4 0 "check_fork" oB→Gm Z 2 0 "lay_fork" oE→Gm Z 5 0 "fork" aP)∧(Gm Z 5 0 "fork" aP→∀ d,Gf Z (5+d+1) "halved" (hW d))∧(Gf Z 1 "is_plain_sign" oF)∧(Gf Z 1 "is_plain_sign" oF→Gf Z 2 "is_plain" iD)∧(Gf Z 2 "is_plain" iD→Gf Z 3 "is_short" qS)∧(Gf Z 1 "ends_in" qT)∧(Gm Z 1 0 "lay" oC→Gf Z 1 "ends_in" qT→Gm Z 2 0 "lay_leaf" oG)∧(Gf Z 3 "is_short" qS→Gm Z 2 0 "lay_leaf" oG→Gm Z 4 0 "leaf" d0)∧(Gf Z 2 "is_plain" iD→Gm Z 4 0 "leaf" d0→Gf Z (5+20+1) "halved" (hW 20)→Gf Z 27 "built" gR)∧(Gf Z 2 "check_name" iC→GM P w (cS K cls exc) mg base 2 1 "do" bP→Gf Z 27 "built" gR→Gm Z 28 1 "give" jC)∧(Gf Z 1 "is_name" fR→Gm Z 2 1 "text" bA)∧(Gf Z 2 "check_name" iC→GM P w (cS K cls exc) mg base 2 1 "do" bP→Gm Z 2 1 "text" bA→Gm Z 3 1 "copy_of" jD)∧(Gf Z 1 "check_length" jE)∧(Gm Z 3 0 "check_piece" lD→Gm Z 4 0 "check_text" j9)∧(Gm Z 4 0 "check_text" j9→Gm Z 5 0 "signs" dQ)∧(Gm Z 4 0 "check_text" j9→Gm Z 5 0 "last_leaf" oH)∧(Gm Z 4 0 "check_text" j9→Gm Z 5 0 "first_leaf" oI)∧(Gm Z 5 0 "signs" dQ→Gm Z 5 0 "last_leaf" oH→Gm Z 5 0 "first_leaf" oI→Gf Z 6 "are_close" qU)∧(Gm Z 4 0 "piece" cM→Gm Z 5 0 "fork" aP→∀ d,Gf Z (5+d+1) "with_last" (hX d))∧(Gm Z 4 0 "check_text" j9→Gm Z 5 0 "height" gT)∧(Gm Z 5 0 "height" gT→Gm Z 5 0 "fork" aP→Gm Z 4 0 "piece" cM→Gf Z 6 "turned_left" gp)∧(Gm Z 4 0 "piece" cM→Gf Z 6 "turned_left" gp→∀ d,Gf Z (6+d+1) "without_first" (fH d))∧(Gm Z 5 0 "height" gT→Gm Z 5 0 "fork" aP→Gm Z 4 0 "piece" cM→Gf Z 6 "turned_right" iE)∧(Gm Z 5 0 "height" gT→Gm Z 4 0 "piece" cM→Gf Z 6 "turned_left" gp→Gf Z 6 "turned_right" iE→Gm Z 5 0 "fork" aP→∀ d,Gf Z (6+d+1) "linked" (fu d))∧(Gm Z 4 0 "piece" cM→Gm Z 5 0 "last_leaf" oH→Gm Z 5 0 "first_leaf" oI→Gf Z (5+90+1) "with_last" (hX 90)→Gm Z 4 0 "leaf" d0→Gf Z (6+90+1) "without_first" (fH 90)→Gf Z (6+90+1) "linked" (fu 90)→Gf Z 98 "welded" lE)∧(Gf Z 1 "check_length" jE→Gm Z 5 0 "signs" dQ→Gf Z 6 "are_close" qU→Gf Z (6+90+1) "linked" (fu 90)→Gf Z 98 "welded" lE→Gf Z 99 "joined" bC)∧(GM P w (cS K cls exc) mg base 2 1 "do" bP→Gf Z 99 "joined" bC→Gm Z 2 1 "text" bA→Gm Z 100 1 "join_to" jF)∧(Gm Z 5 0 "signs" dQ→Gf Z 6 "check_gap" ka)∧(Gm Z 5 0 "signs" dQ→Gm Z 4 0 "piece" cM→Gm Z 4 0 "leaf" d0→Gf Z 99 "joined" bC→∀ d,Gf Z (99+d+1) "front_of" (c6 d))∧(Gm Z 5 0 "signs" dQ→Gm Z 4 0 "piece" cM→Gm Z 4 0 "leaf" d0→Gf Z 99 "joined" bC→∀ d,Gf Z (99+d+1) "back_of" (df d))∧(Gm Z 5 0 "signs" dQ→Gf Z 6 "check_gap" ka→Gf Z 1 "check_length" jE→Gf Z 99 "joined" bC→Gf Z (99+90+1) "front_of" (c6 90)→Gf Z (99+90+1) "back_of" (df 90)→Gf Z 191 "put_in" i5)∧(GM P w (cS K cls exc) mg base 2 1 "do" bP→Gf Z 191 "put_in" i5→Gm Z 2 1 "text" bA→Gm Z 192 1 "put_into" iF)∧(GF P w (cS K cls exc) mg base 6 "check_stretch" jG→Gf Z 99 "joined" bC→Gf Z (99+90+1) "front_of" (c6 90)→Gf Z (99+90+1) "back_of" (df 90)→Gf Z 191 "taken_out" jH)∧(GM P w (cS K cls exc) mg base 2 1 "do" bP→Gf Z 191 "taken_out" jH→Gm Z 2 1 "text" bA→Gm Z 192 1 "take_from" jI)∧(Gf Z 99 "joined" bC→∀ d,Gf Z (99+d+1) "doubled" (eF d))∧(Gm Z 5 0 "signs" dQ→Gf Z 1 "check_length" jE→Gf Z (99+64+1) "doubled" (eF 64)→Gf Z 165 "repeated" gU)∧(GM P w (cS K cls exc) mg base 2 1 "do" bP→Gf Z 165 "repeated" gU→Gm Z 2 1 "text" bA→Gm Z 166 1 "repeat" iG)∧(Gm Z 2 1 "text" bA→GM P w (cS K cls exc) mg base 2 1 "do" bP→Gm Z 3 1 "drop" lH)∧(GM P w (cS K cls exc) mg base 1 1 "set_text" i4→Gm Z 2 1 "again" zE)∧(Gm Z 28 1 "give" jC→Gm Z 3 1 "copy_of" jD→Gm Z 100 1 "join_to" jF→Gm Z 192 1 "put_into" iF→Gm Z 192 1 "take_from" jI→Gm Z 166 1 "repeat" iG→Gm Z 3 1 "drop" lH→Gm Z 2 1 "again" zE→Gm Z 2 1 "back" oA→Gf Z 193 "_law_do" dR)∧(Gf Z 1 "_law_take" aX→Gf Z 2 "_law_plain" i6)∧(Gm Z 4 0 "piece" cM→∀ d,Gf Z (4+d+1) "_law_reads" (hZ d)):=by
 refine⟨gK Z.on ?_,
  gF Z.wE ?_,
  λ_=>gF Z.u_ ?_,
  gF Z.wT ?_,
  gM Z.jp ?_,
  gM Z.ul ?_,
  gF Z.w_ ?_,
  λ_=>gM Z.bv ?_,
  λ_=>gM Z.ac ?_,
  λ_=>gM Z.jl ?_,
  λ_=>gM Z.o_ ?_,
  gF Z.At ?_,
  λ_=>gF Z.t_ ?_,
  λ_=>gM Z.bd ?_,
  gM Z.wn ?_,
  λ_=>gM Z.cr ?_,
  λ_ _=>gM Z.p_ ?_,
  λ_=>λd=>d.rec (gF Z.E_ ?_) (λd _=>gF Z.E_ ?_),
  gF Z.f_ ?_,
  λ_=>gF Z.x_ ?_,
  λ_=>gF Z.xz ?_,
  gF Z.z_ ?_,
  λ_ _=>gM Z.ci ?_,
  λ_ _=>gM Z.pi ?_,
  λ_ _ _=>gF Z.H_ ?_,
  λ_ _ _=>gM Z.sw ?_,
  λ_=>gM Z.n_ ?_,
  λ_ _ _=>gM Z.ge ?_,
  gF Z.io ?_,
  λ_=>gM Z.am ?_,
  λ_=>gM Z.nw ?_,
  λ_=>gM Z.b_ ?_,
  λ_=>gM Z.a_ ?_,
  λ_ _ _=>gF Z.v0 ?_,
  λ_ _=>λd=>d.rec (gF Z.ww ?_) (λd _=>gF Z.ww ?_),
  λ_=>gM Z.h_ ?_,
  λ_ _ _=>gF Z.l_ ?_,
  λ_ _=>λd=>d.rec (gF Z.g_ ?_) (λd _=>gF Z.g_ ?_),
  λ_ _ _=>gF Z.i_ ?_,
  λ_ _ _ _ _=>λd=>d.rec (gF Z.EQ ?_) (λd _=>gF Z.EQ ?_),
  λ_ _ _ _ _ _ _=>gF Z.D_ ?_,
  λ_ _ _ _ _=>gF Z.Cl ?_,
  λ_ _ _=>gM Z.d_ ?_,
  λ_=>gF Z.v_ ?_,
  λ_ _ _ _=>λd=>d.rec (gF Z.wS ?_) (λd _=>gF Z.wS ?_),
  λ_ _ _ _=>λd=>d.rec (gF Z.BT ?_) (λd _=>gF Z.BT ?_),
  λ_ _ _ _ _ _=>gF Z.Ev ?_,
  λ_ _ _=>gM Z.dL ?_,
  λ_ _ _ _=>gF Z.wv ?_,
  λ_ _ _=>gM Z.bi ?_,
  λ_=>λd=>d.rec (gF Z.A_ ?_) (λd _=>gF Z.A_ ?_),
  λ_ _ _=>gF Z.yq ?_,
  λ_ _ _=>gM Z.ii ?_,
  λ_ _=>gM Z.ol ?_,
  λ_=>gM Z.m_ ?_,
  λ_ _ _ _ _ _ _ _ _=>gF Z.Db ?_,
  λ_=>gF Z.v4 ?_,
  λ_=>λd=>d.rec (gF Z.wP ?_) (λd _=>gF Z.wP ?_)⟩
 all_goals(intro _ _ _ _ _ _ _ _ _ _ _;(first|refine bt ?_|refine aO ?_ ?_|exact qF);repeat' first
  |((exists L2.PE _ (.Name _ _) _);first|exact aq _)
  |((exists L2.PE _ (.Name "LEAF_SIGNS" _) _);first|exact jy rfl (Z.r_))
  |((exists L2.PE _ (.Name "MOST_PLAIN" _) _);first|exact jy rfl (Z.ut))
  |((exists L2.PE _ (.Name "MOST_SIGNS" _) _);first|exact jy rfl (Z.u8))
  |((exists L2.PE _ (.Name "NAME_SIGNS" _) _);first|exact jy rfl (Z.q_))
  |((exists L2.PA _ [] _);first|exact aC)
  |((exists L2.PA _ (_::_) _);first|refine aj ?_ ?_)
  |((exists L2.PSs _ _ (tS _ _ lB));exact qF)
  |((exists L2.PSs _ [_] _);first|refine bt ?_)
  |((exists L2.PSs _ (_::_) _);first|refine aO ?_ ?_)
  |((exists L2.PSs _ [] _);first|exact dY)
  |((exists L2.PSs _ _ _);first|exact qF)
  |((exists L2.PE _ (.Constant (.int _) _ _) _);first|exact aN)
  |((exists L2.PE _ (.Constant (.str _) _ _) _);first|exact aL)
  |((exists L2.PE _ (.Constant _ _ _) _);first|exact fO|exact nX)
  |((exists L2.PE _ (.Call (.Name _ _) (_::_) _ _) _);first|refine cH rfl ?_ ‹_› ?_ rfl ?_)
  |((exists L2.PE _ (.Call (.Attribute _ _ _) (_::_) _ _) _);first|refine k8 rfl ?_ ‹_› ?_ ?_ ?_)
  |((exists L2.PE _ (.Call (.Attribute _ _ _) [] _ _) _);first|refine fZ rfl ?_ ‹_› ?_ ?_)
  |((exists L2.PE _ (.Call (.Name _ _) [] _ _) _);first|refine ur rfl ?_ ‹_› ?_ rfl)
  |((exists L2.PE _ (.Call (.Name "abs" _) _ _ _) _);first|refine bc (LE) rfl (Z.LE) PyProof.Rows.boot_abs ?_)
  |((exists L2.PE _ (.Call (.Name "all" _) _ _ _) _);first|refine bc (LT rfl) rfl (Z.LT) PyProof.Rows.boot_all ?_)
  |((exists L2.PE _ (.Call (.Name "len" _) _ _ _) _);first|refine bc (M_ rfl) rfl (Z.M_) Ov ?_)
  |((exists L2.PE _ (.Call (.Name "max" _) _ _ _) _);first|refine bc (k9) rfl (Z.L_) OA ?_)
  |((exists L2.PE _ (.Call (.Name "min" _) _ _ _) _);first|refine bc (y4) rfl (Z.I_) Rl ?_)
  |((exists L2.PE _ (.Call (.Name "sorted" _) _ _ _) _);first|refine bc (IL rfl) rfl (Z.F_) A9 ?_)
  |((exists L2.PE _ (.Call (.Name "sum" _) _ _ _) _);first|refine bc (KK rfl) rfl (Z.KK) PyProof.Rows.boot_sum ?_)
  |((exists L2.PE _ (.Call (.Name "int" _) _ _ _) _);first|refine cI (IO) rfl (Z.IO) gy ?_)
  |((exists L2.PE _ (.Call (.Attribute _ "append" _) _ _ _) _);first|refine gI rfl Oh OM OO (om) jx ?_ ?_)
  |((exists L2.PE _ (.Call (.Attribute _ "count" _) _ _ _) _);first|refine gI rfl PySem.F.plainAttrs_str PySem.F.slot_str_count PySem.F.type_str_count (Ir) Iq ?_ ?_)
  |((exists L2.PE _ (.Call (.Attribute _ "clear" _) _ _ _) _);first|refine qC rfl Oh QO QP (zj) jx ?_)
  |((exists L2.PE _ (.Call (.Attribute _ "pop" _) _ _ _) _);first|refine qC rfl Oh Rm Rn (y9) jx ?_)
  |((exists L2.PE _ (.Call (.Name "isinstance" _) [_,.Name "bool" _] _ _) _);first|refine qz rfl rfl (Z.s_) ?_ rfl (Z.Id) Gi 'd')
  |((exists L2.PE _ (.Call (.Name "isinstance" _) [_,.Name "int" _] _ _) _);first|refine qz rfl rfl (Z.s_) ?_ rfl (Z.IO) gy 'd')
  |((exists L2.PE _ (.Call (.Name "isinstance" _) [_,.Name "str" _] _ _) _);first|refine qz rfl rfl (Z.s_) ?_ rfl (Z.K_) xY 'd')
  |((exists L2.PE _ (.Attribute _ _ _) _);first|refine j1 rfl (Z.Go) ?_|refine j1 rfl (Z.Fa) ?_)
  |((exists L2.PE _ (.Subscript _ _ _) _);first|refine bx rfl ‹_› ?_ ?_)
  |((exists L2.PE _ (.BinOp _ _ _ _) _);first|refine fi ?_ ?_ ?_)
  |((exists L2.PE _ (.List _ _) (tE _ _ (aK _)));first|refine dz ?_)
  |((exists L2.PE _ (.List _ _) (tE _ _ (fE _)));first|refine mC ?_)
  |((exists L2.PE _ (.Tuple _ _ _) _);first|refine dD ?_)
  |((exists L2.PE _ (.Subscript _ _ _) (tE _ _ (bU _ _ _)));first|refine mJ rfl ?_ ?_ ?_)
  |((exists L2.PE _ (.UnaryOp _ _ _) _);first|refine qj ?_)
  |((exists L2.PE _ (.Dict _ _ _) _);first|exact HD)
  |((exists L2.PE _ (.Compare _ [_] _ _) _);first|refine hU ?_ ?_ ?_ ?_)
  |((exists L2.PE _ (.BoolOp .And _ _) _);first|refine yA ?_ ?_)
  |((exists L2.PE _ (.BoolOp .Or _ _) _);first|refine jt ?_ ?_)
  |((exists L2.PE _ (.BoolOp _ [_] _) _);first|refine j0 ?_)
  |((exists L2.PE _ (.UnaryOp _ _ _) _);first|refine qm ?_)
  |((exists L2.PE _ (.Compare _ _ _ _) _);first|refine yx ?_ ?_ ?_ ?_ ?_)
  |((exists L2.PE _ (.ListComp _ _ _ _) _);first|refine uq (jf:=[(1, "house")]) ?_ rfl ?_ ?_ ?_|refine uq (jf:=[]) ?_ rfl ?_ ?_ ?_)
  |((exists L2.PS _ (.Assign [.Name _ _] _ _) _);first|refine bE ‹_› ?_)
  |((exists L2.PS _ (.Return _ _) _);first|refine dZ ?_)
  |((exists L2.PS _ (.If _ _ _ _) _);first|refine bj ?_ ?_ ?_)
  |((exists L2.PS _ (.Expr _ _) _);first|refine iu ?_)
  |((exists L2.PS _ (.Assign [.Attribute _ _ _] _ _) _);first|refine mE rfl (Z.Go) ?_ ?_|refine mE rfl (Z.Fa) ?_ ?_)
  |((exists L2.PS _ (.Assign [.Subscript _ _ _] _ _) _);first|refine ux ‹_› ?_ ?_ ?_)
  |((exists L2.PS _ _ (tS _ _ (bT _ _ _)));first|refine n8 rfl ?_ ?_ ?_)
  |((exists L2.PS _ (.Raise (some (.Call (.Name "NoName" _) _ _ _)) _ _) _);first|refine oi (Z.Ch) nR rfl ?_)
  |((exists L2.PS _ (.Raise (some (.Call (.Name "NoPlace" _) _ _ _)) _ _) _);first|refine oi (Z.AT) nR rfl ?_)
  |((exists L2.PS _ (.Raise (some (.Call (.Name "NoText" _) _ _ _)) _ _) _);first|refine oi (Z.C_) nR rfl ?_)
  |((exists L2.PS _ (.Raise (some (.Call (.Name "TooLong" _) _ _ _)) _ _) _);first|refine oi (Z.B_) nR rfl ?_)
  |((exists L2.PS _ (.Assign [.Name _ _] (.ListComp _ _ _ _) _) _);first|refine HU (jf:=[(0, "shelf"),(1, "plain")]) ?_ rfl ?_ ?_ ?_ ‹_›)
  |((exists L2.PT _ (.Compare _ [_] _ _) _);first|refine cW ?_ ?_ ?_ ?_)
  |((exists L2.PT _ (.UnaryOp _ _ _) _);first|refine yz ?_)
  |((exists L2.PT _ (_) _);first|refine HC rfl ?_)
  |((exists L2.PT _ (.Compare _ _ _ _) _);first|refine HB ?_ ?_ ?_ ?_ ?_)
  |((exists L2.PT _ (.BoolOp .And _ _) _);first|refine gH (qk ?_ ?_))
  |((exists L2.PT _ (.BoolOp .Or _ _) _);first|refine gH (ql ?_ ?_))
  |((exists L2.CompOk _ _ _ _);first|exact lj ∅|exact ck_w (lj ∅)|exact ck_w (ck_w (lj ∅)))
  |with_reducible assumption
  |((exists Sm.CA _ _ _);first|with_reducible exact CA.never rfl|refine CA.nox ?_)
  |((exists L2.Room _ _);first|exact Room.m ‹_›|exact Room.mono ‹_› ⋯)
  |((exists _=false);first|exact cD _)
  |((exists _=_);first|exact rfl)
  |((exists Sm.Op _ _ _ _);first|with_reducible refine hJ ?_|with_reducible exact yt|with_reducible refine cu ?_ ?_|with_reducible exact ue|with_reducible exact gG|with_reducible refine oh ?_ ?_|with_reducible refine uP ?_ ?_|with_reducible exact uf|with_reducible exact eC|with_reducible exact kY|with_reducible exact Hu|with_reducible exact Ht|with_reducible exact ze|with_reducible refine gE ?_ ?_|with_reducible refine mF ?_ ?_|with_reducible exact yu|with_reducible exact ud)
  |refine mI ?_
  |exact mH
  |refine qk ?_ ?_
  |refine ql ?_ ?_
  |refine ug ?_
  |refine uh ?_
  |exact uj ‹_›
  |refine n5 rfl rfl ?_
  |refine iw ‹_› ?_
  |exact nZ
  |refine HM (E:=EN) rfl (Z.G_) ?_
  |refine um (E:=EN) rfl (Z.G_) ?_ ?_
  |refine IA (E:=EN) rfl (Z.G_) ?_ ?_ ?_
  |refine yL (E:=EN) rfl ?_
  |refine yM (E:=EN) rfl rfl (Z.wr) ?_
  |exact yR
  |intro _
  |assumption)
def Nc {f:ZE} {fd:FuncData} (h4:Fun K "law" "law" pH f fd):FnOk P w K mg base (cL P w) 195 f fd ["script"] (iy (cS K cls exc) uW):=by
 obtain⟨MB,MD,ME,gw,MF,wU,MG,MH,wV,iO,MI,Cf,Cg,MJ,Ci,ML,pI,Cj,MM,Ck,MN,MO,MP,r8,Cm,MQ,lX,MR,wX,r9,jR,Cn,Co,MS,Cp,wY,Cq,Cr,MT,wZ,MU,lY,MV,MW,w4,w6,MX,MY,M0,M3,Cs,M4,M5,M6,M7,M8,Cu,Cv⟩:=Z_ Z
 have MC:GK P w (cS K cls exc) mg base 3 1 "House" mR:=gk Z.sB Mp λhr C hu nd =>
   (aO (mE rfl Z.Go (aq 0) (ur rfl C MB hr.m rfl))
    (aO (mE rfl Z.Go (aq 0) ui)
    (aO (mE rfl Z.Go (aq 0) (mC aC))
    (bt (mE rfl Z.Go (aq 0) (mC aC))))))
 have ME:=ME MD
 have MH:=MH MG
 have wV:=wV MH
 have iO:=iO wV
 have wW:GM P w (cS K cls exc) mg base 1 1 "set_text" i4:=gm Z.c_ Mq (show ("set_text" : Str)∉dX 1 by decide +kernel) λhr C hu nd =>
   (bt (bj (cW uf (aq 2) nX (cD _)) (bt (iu (zu (j1 rfl Z.Go (aq 0)) (aq 1)))) (bt (ux hu (j1 rfl Z.Go (aq 0)) (aq 1) (aq 2)))))
 have MI:=MI wW
 have Cg:=Cg Cf
 have lW:GM P w (cS K cls exc) mg base 2 1 "do" bP:=gm Z.zn Mr (show ("do" : Str)∉dX 1 by decide +kernel) λhr C hu nd =>
   (aO (iu (gI rfl Oh OM OO (om) jx (j1 rfl Z.Go (aq 0)) (aj (dD (aj (aq 1) (aj (IK hu (j1 rfl Z.Go (aq 0)) (aq 1)) (aj (aq 2) aC)))) aC)))
    (aO (iu (qC rfl Oh QO QP (zj) jx (j1 rfl Z.Go (aq 0))))
    (bt (iu (k8 rfl C wW hr.m (aq 0) (aj (aq 1) (aj (aq 2) aC)))))))
 have MJ:=MJ wV
 have ML:=ML Ci
 have pI:=pI MJ ML
 have Cj:=Cj pI
 have Ck:=Ck MM
 have MN:=MN Ck
 have MP:=MP Ci MO
 have r8:=r8 MN MP
 have Cm:=Cm Ck r8 (Cj 20)
 have MQ:=MQ Cg lW Cm
 have lX:=lX Cf
 have MR:=MR Cg lW lX
 have r9:=r9 wV
 have jR:=jR r9
 have Cn:=Cn r9
 have Co:=Co r9
 have MS:=MS jR Cn Co
 have Cp:=Cp iO pI
 have wY:=wY r9
 have Cq:=Cq wY pI iO
 have Cr:=Cr iO Cq
 have MT:=MT wY pI iO
 have wZ:=wZ wY iO Cq MT pI
 have MU:=MU iO Cn Co (Cp 90) r8 (Cr 90) (wZ 90)
 have lY:=lY wX jR MS (wZ 90) MU
 have MV:=MV lW lY lX
 have MW:=MW jR
 have w4:=w4 jR iO r8 lY
 have w6:=w6 jR iO r8 lY
 have MX:=MX jR MW wX lY (w4 90) (w6 90)
 have MY:=MY lW MX lX
 have MZ:GF P w (cS K cls exc) mg base 6 "check_stretch" jG:=gf Z.e_ Mt λhr C hu nd =>
   (aO (bE (i:=4) nd (k8 rfl C jR hr.m (aq 0) (aj (aq 1) aC)))
    (bt (bj (yz (IB eC eC eC aN (aq 2) (aq 3) (aq 4))) (bt (oi Z.AT nR rfl (aj aL aC))) dY)))
 have M0:=M0 MZ lY (w4 90) (w6 90)
 have M3:=M3 lW M0 lX
 have Cs:=Cs lY
 have M4:=M4 jR wX (Cs 64)
 have M5:=M5 lW M4 lX
 have M6:=M6 lX lW
 have M7:=M7 wW
 have M8:=M8 MQ MR MV MY M3 M5 M6 M7 MI
 have Ct:GF P w (cS K cls exc) mg base 194 "_law_word" dS:=gf Z.xL Mu λhr C hu nd =>
   (aO (bE (i:=2) nd aL)
    (aO (IX (i:=3) rfl nd rfl rfl rfl rfl rfl Z.cu_NoName Z.cu_NoText Z.cu_NoPlace Z.cu_TooLong Z.cu_NothingDone (λ_ _ Ex2 C2 R2=>(bt (bj (cW uf (cH rfl C2 M8 hr.m rfl (aj (aq 0) (aj (aq 1) aC))) nX (cD _)) (bt (bE (i:=2) nd aL)) dY))) (λ_ C3=>(bt (bE (i:=2) nd (bx rfl hu (dz (aj aL (aj aL aC))) (cI (IO) rfl Z.IO gy (aj (zc rfl rfl Z.s_ (aq 3) rfl Z.kx_NoText) aC)))))) (λ_ C3=>(bt (bE (i:=2) nd (bx rfl hu (dz (aj aL (aj aL aC))) (cI (IO) rfl Z.IO gy (aj (zc rfl rfl Z.s_ (aq 3) rfl Z.kx_TooLong) aC)))))) (λ_ C3=>qF))
    (bt (dZ (aq 2)))))
 have pJ:GF P w (cS K cls exc) mg base 2 "_law_name" fw:=gf Z.x0 Mv λhr C hu nd =>
   (aO (bE (i:=3) nd (IT rfl rfl Z.F_ A9 (aq 1)))
    (aO (bE (i:=4) nd (cH rfl C gw hr.m rfl (aj (aq 0) (aj aN aC))))
    (aO (bj (cW (cu rfl hu) (aq 4) aN (cD _)) (bt (dZ (bx rfl hu (aq 2) (cH rfl C gw hr.m rfl (aj (aq 0) (aj (bc (M_ rfl) rfl Z.M_ Ov (aj (aq 2) aC)) aC)))))) dY)
    (aO (bj (gH (ql (cW kY (aq 4) aN (cD _)) (uh (cW (cu rfl hu) (aq 3) (dz aC) (cD _))))) (bt (dZ (bx rfl hu (dz (aj aL (aj aL (aj aL (aj aL (aj aL (aj aL aC))))))) (cH rfl C gw hr.m rfl (aj (aq 0) (aj aN aC)))))) dY)
    (bt (dZ (bx rfl hu (aq 3) (cH rfl C gw hr.m rfl (aj (aq 0) (aj (bc (M_ rfl) rfl Z.M_ Ov (aj (aq 3) aC)) aC))))))))))
 have Cu:=Cu gw
 have M9:GF P w (cS K cls exc) mg base 3 "_law_given" mV:=gf Z.wf Mw λhr C hu nd =>
   (@aO _ _ _ _ _ _ _ (@bE _ _ _ _ _ _ 2 _ _ nd (@dz _ _ _ _ _ _ (@iz _ _ _ _ _ _ _ aL (@iz _ _ _ _ _ _ _ aL (@iz _ _ _ _ _ _ _ aL (@iz _ _ _ _ _ _ _ aL (@iz _ _ _ _ _ _ _ aL (@iz _ _ _ _ _ _ _ nX (@iz _ _ _ _ _ _ _ aN (@iz _ _ _ _ _ _ _ fO (@iz _ _ _ _ _ _ _ (dz (aj aL aC)) (@iz _ _ _ _ _ _ _ (dD (aj aL aC)) (@iz _ _ _ _ _ _ _ ui aC rfl) rfl) rfl) rfl) rfl) rfl) rfl) rfl) rfl) rfl) rfl)) rfl (Or.inl rfl) rfl (.inl rfl))
    (aO (bE (i:=3) nd (cH rfl C pJ hr.m rfl (aj (aq 0) (aj (aq 1) (aj (aq 2) aC)))))
    (aO (bj (cW (cu rfl hu) (cH rfl C gw hr.m rfl (aj (aq 0) (aj aN aC))) aN (cD _)) (aO (bE (i:=4) nd (cH rfl C pJ hr.m rfl (aj (aq 0) (aj (aq 1) (aj (dz (aj aL (aj aL (aj aL aC)))) aC)))))
    (aO (bE (i:=5) nd (bx rfl hu (dz (aj aL (aj aL aC))) (cI (IO) rfl Z.IO gy (aj (jt (hU (uP rfl hu) (aq 3) (aq 2) rfl) (j0 (hU (mF rfl hu) (aq 4) (aq 1) rfl))) aC))))
    (bt (dZ (dD (aj (dD (aj aL (aj (aq 3) (aj (aq 4) aC)))) (aj (aq 5) (aj (uE hu (aq 1) (aq 4) aL) aC)))))))) dY)
    (aO (bE (i:=6) nd (cH rfl C Cu hr.m rfl (aj (aq 0) (aj aN aC))))
    (aO (bj (cW (cu rfl hu) (cH rfl C gw hr.m rfl (aj (aq 0) (aj aN aC))) aN (cD _)) (bt (bE (i:=6) nd (bx rfl hu (dz (aj nX (aj aN (aj aL (aj (dz (aj aL aC)) (aj fO (aj aL aC))))))) (cH rfl C gw hr.m rfl (aj (aq 0) (aj aN aC)))))) dY)
    (aO (bE (i:=5) nd (bx rfl hu (dz (aj aL (aj aL aC))) (cI (IO) rfl Z.IO gy (aj (jt (qm (qz rfl rfl Z.s_ (aq 6) rfl Z.K_ xY 'd')) (j0 (hU (oh rfl hu) aL (aq 6) rfl))) aC))))
    (aO (bj (cW (uP rfl hu) (aq 3) (aq 2) rfl) (bt (bE (i:=5) nd aL)) dY)
    (bt (dZ (dD (aj (dD (aj aL (aj (aq 3) (aj (aq 6) aC)))) (aj (aq 5) (aj (aq 6) aC)))))))))))))
 have Na:GF P w (cS K cls exc) mg base 3 "_law_changed" mW:=gf Z.j_ Mx λhr C hu nd =>
   (aO (bE (i:=2) nd (cH rfl C gw hr.m rfl (aj (aq 0) (aj aN aC))))
    (aO (bE (i:=3) nd (cH rfl C pJ hr.m rfl (aj (aq 0) (aj (aq 1) (aj (dz (aj aL (aj aL (aj aL aC)))) aC)))))
    (aO (bE (i:=4) nd (cH rfl C pJ hr.m rfl (aj (aq 0) (aj (aq 1) (aj (dz (aj aL (aj aL (aj aL aC)))) aC)))))
    (aO (bE (i:=5) nd (uE hu (aq 1) (aq 3) aL))
    (aO (bE (i:=6) nd (uE hu (aq 1) (aq 4) aL))
    (aO (bE (i:=7) nd (bx rfl hu (dz (aj aL (aj aL aC))) (cI (IO) rfl Z.IO gy (aj (hU (mF rfl hu) (aq 3) (aq 1) rfl) aC))))
    (aO (bE (i:=8) nd (bx rfl hu (dz (aj aL (aj aL aC))) (cI (IO) rfl Z.IO gy (aj (jt (hU (mF rfl hu) (aq 3) (aq 1) rfl) (j0 (hU (mF rfl hu) (aq 4) (aq 1) rfl))) aC))))
    (aO (bE (i:=9) nd (fi ud (cH rfl C gw hr.m rfl (aj (aq 0) (aj (fi (hJ rfl) (bc (M_ rfl) rfl Z.M_ Ov (aj (aq 5) aC)) aN) aC))) aN))
    (aO (bE (i:=10) nd (fi ud (cH rfl C gw hr.m rfl (aj (aq 0) (aj (fi (hJ rfl) (bc (M_ rfl) rfl Z.M_ Ov (aj (aq 5) aC)) aN) aC))) aN))
    (aO (bj (cW (cu rfl hu) (aq 2) aN (cD _)) (bt (dZ (dD (aj (dD (aj aL (aj (aq 3) (aj (aq 4) aC)))) (aj (aq 8) (aj (fi (hJ rfl) (aq 5) (aq 6)) aC)))))) dY)
    (aO (bj (cW (cu rfl hu) (aq 2) aN (cD _)) (aO (bE (i:=11) nd (qG rfl (aq 8) (j0 (bx rfl hu (dz (aj aL (aj aL aC))) (cI (IO) rfl Z.IO gy (aj (qm (yx eC eC aN (aq 9) (bc (M_ rfl) rfl Z.M_ Ov (aj (aq 5) aC)))) aC))))))
    (bt (dZ (dD (aj (dD (aj aL (aj (aq 3) (aj (aq 9) (aj (aq 4) aC))))) (aj (aq 11) (aj (fi (hJ rfl) (fi (hJ rfl) (mJ rfl (aq 5) mH (mI (bc (k9) rfl Z.L_ OA (aj aN (aj (aq 9) aC))))) (aq 6)) (mJ rfl (aq 5) (mI (bc (k9) rfl Z.L_ OA (aj aN (aj (aq 9) aC)))) mH)) aC))))))) dY)
    (aO (bj (cW (cu rfl hu) (aq 2) aN (cD _)) (aO (bE (i:=11) nd (qG rfl (aq 7) (j0 (bx rfl hu (dz (aj aL (aj aL aC))) (cI (IO) rfl Z.IO gy (aj (qm (Jm eC eC eC aN (aq 9) (aq 10) (bc (M_ rfl) rfl Z.M_ Ov (aj (aq 5) aC)))) aC))))))
    (bt (dZ (dD (aj (dD (aj aL (aj (aq 3) (aj (aq 9) (aj (aq 10) aC))))) (aj (aq 11) (aj (fi (hJ rfl) (mJ rfl (aq 5) mH (mI (bc (k9) rfl Z.L_ OA (aj aN (aj (aq 9) aC))))) (mJ rfl (aq 5) (mI (bc (k9) rfl Z.L_ OA (aj aN (aj (aq 10) aC)))) mH)) aC))))))) dY)
    (aO (bE (i:=12) nd (bx rfl hu (dz (aj aN (aj aN (aj aN (aj aN (aj (qj aN) (aj (fi (hJ rfl) (fi yt (fi yu aN aN) (bc (k9) rfl Z.L_ OA (aj aN (aj (bc (M_ rfl) rfl Z.M_ Ov (aj (aq 5) aC)) aC)))) aN) aC))))))) (cH rfl C gw hr.m rfl (aj (aq 0) (aj aN aC)))))
    (aO (bE (i:=11) nd (qG rfl (aq 7) (qG rfl (bx rfl hu (dz (aj aL (aj aL aC))) (cI (IO) rfl Z.IO gy (aj (hU kY (aq 12) aN (cD _)) aC))) (j0 (bx rfl hu (dz (aj aL (aj aL aC))) (cI (IO) rfl Z.IO gy (aj (yA (hU gG (aq 12) aN (cD _)) (j0 (hU (gE rfl hu) (aq 5) aL (cD _)))) aC)))))))
    (bt (dZ (dD (aj (dD (aj aL (aj (aq 3) (aj (aq 12) aC)))) (aj (aq 11) (aj (fi ze (aq 5) (bc (y4) rfl Z.I_ Rl (aj aN (aj (bc (k9) rfl Z.L_ OA (aj aN (aj (aq 12) aC))) aC)))) aC))))))))))))))))))))
 have Nb:GF P w (cS K cls exc) mg base 4 "_law_deed" mX:=gf Z.y_ My λhr C hu nd =>
   (aO (bE (i:=2) nd (cH rfl C gw hr.m rfl (aj (aq 0) (aj aN aC))))
    (aO (bj (cW (cu rfl hu) (aq 2) aN (cD _)) (aO (bE (i:=3) nd (cH rfl C pJ hr.m rfl (aj (aq 0) (aj (aq 1) (aj (dz (aj aL (aj aL (aj aL aC)))) aC)))))
    (aO (bj (cW (mF rfl hu) (aq 3) (aq 1) rfl) (bt (dZ (dD (aj (dD (aj aL (aj (aq 3) aC))) (aj aL (aj (aq 1) aC)))))) dY)
    (aO (bE (i:=4) nd (cI zm rfl Z.IN zk (aj (aq 1) aC)))
    (aO (iu (zu (aq 4) (aq 3)))
    (bt (dZ (dD (aj (dD (aj aL (aj (aq 3) aC))) (aj aL (aj (aq 4) aC)))))))))) dY)
    (aO (yE (IZ rfl C M9 Na hr.m hr.m rfl rfl (cI (IO) rfl Z.IO gy (aj (hU gG (aq 2) aN (cD _)) aC)) (aj (aq 0) (aj (aq 1) aC))) (n5 rfl rfl (iw (i:=5) nd (iw (i:=6) nd (iw (i:=7) nd nZ)))))
    (aO (bj (gH (qk (cW (cu rfl hu) (aq 6) aL (cD _)) (ug (cW gG (bc (M_ rfl) rfl Z.M_ Ov (aj (aq 7) aC)) aN (cD _))))) (bt (Jn (i:=5) (j:=6) (k:=7) nd (aj (dD (aj aL (aj (bx rfl hu (aq 5) aN) (aj aL aC)))) (aj aL (aj aL aC))))) dY)
    (aO (bE (i:=8) nd (cI zm rfl Z.IN zk (aj (aq 1) aC)))
    (aO (bj (cW (cu rfl hu) (aq 6) aL (cD _)) (bt (ux hu (aq 8) (bx rfl hu (aq 5) aN) (aq 7))) dY)
    (bt (dZ (dD (aj (aq 5) (aj (aq 6) (aj (aq 8) aC))))))))))))
 have Cv:=Cv iO
 have jS:GM P w (cS K cls exc) mg base 1 1 "shelf" cw:=gm Z.k_ Mz (show ("shelf" : Str)∉dX 1 by decide +kernel) λhr C hu nd =>
   (bt (dZ (j1 rfl Z.Go (aq 0))))
 exact gl (T:=cS K cls exc) h4 MA λ{cdv A outer s H E} hr C hu nd =>
   (aO (bE (i:=1) nd (ur rfl C MC hr.m rfl))
    (aO (bE (i:=2) nd (mC (aj ui aC)))
    (aO (bE (i:=3) nd (mC aC))
    (aO (bE (i:=4) nd (mC aC))
    (aO (n8 rfl (yM (E:=EN) rfl rfl Z.wr (fi (hJ rfl) (mJ rfl (aq 0) mH (mI aN)) (dz (aj aN (aj aN (aj aN aC)))))) (n5 rfl rfl (iw (i:=5) nd (iw (i:=6) nd nZ))) (aO (bE (i:=7) nd (cH rfl (C.nox) ME hr.m rfl (aj (dz (aj (aq 6) (aj (aq 5) aC))) (aj aN aC))))
    (aO (bE (i:=8) nd (cH rfl (C.nox) gw hr.m rfl (aj (aq 7) (aj aN aC))))
    (aO (bj (gH (qk (cW (cu rfl hu) (aq 8) aN (cD _)) (ug (cW gG (bc (M_ rfl) rfl Z.M_ Ov (aj (aq 2) aC)) aN (cD _))))) (aO (bj (cW (gE rfl hu) (cH rfl (C.nox) Ct hr.m rfl (aj (aq 1) (aj (dD (aj aL aC)) aC))) aL (cD _)) (bt (dZ fO)) dY)
    (bt (iu (qC rfl Oh Rm Rn (y9) jx (aq 2))))) (bt (bj (cW (cu rfl hu) (aq 8) aN (cD _)) (aO (bE (i:=9) nd (cH rfl (C.nox) Cm hr.m rfl (aj (fZ rfl (C.nox) jS hr.m (aq 1)) (aj (cH rfl (C.nox) Cu hr.m rfl (aj (aq 7) (aj aN aC))) aC))))
    (bt (iu (cH rfl (C.nox) lY hr.m rfl (aj (fZ rfl (C.nox) jS hr.m (aq 1)) (aj (aq 9) (aj (aq 9) aC))))))) (aO (yE (cH rfl (C.nox) Nb hr.m rfl (aj (aq 7) (aj (bx rfl hu (aq 2) (qj aN)) aC))) (n5 rfl rfl (iw (i:=10) nd (iw (i:=11) nd (iw (i:=12) nd nZ)))))
    (aO (bj (cW (gE rfl hu) (cH rfl (C.nox) Ct hr.m rfl (aj (aq 1) (aj (aq 10) aC))) (aq 11) (cD _)) (bt (dZ fO)) dY)
    (bt (bj (cW (cu rfl hu) (aq 11) aL (cD _)) (bt (iu (gI rfl Oh OM OO (om) jx (aq 2) (aj (aq 12) aC)))) dY)))))))
    (aO (n8 rfl (yL (E:=EN) rfl (fZ rfl ((C.nox).nox) MF hr.m (aq 1))) (uj (i:=13) nd) (bt (iu (gI rfl Oh OM OO (om) jx (aq 3) (aj (dD (aj (k8 rfl ((C.nox).nox) lX hr.m (aq 1) (aj (aq 13) aC)) (aj (bx rfl hu (bx rfl hu (aq 2) (qj aN)) (aq 13)) aC))) aC)))))
    (aO (bj (cW gG (bc (M_ rfl) rfl Z.M_ Ov (aj (aq 4) aC)) (fZ rfl (C.nox) wU hr.m (fZ rfl (C.nox) jS hr.m (aq 1))) (cD _)) (bt (dZ fO)) dY)
    (bt (n8 rfl (um (E:=EN) rfl Z.G_ (fi (hJ rfl) (bc (M_ rfl) rfl Z.M_ Ov (aj (aq 4) aC)) aN) (fi (hJ rfl) (fZ rfl ((C.nox).nox) wU hr.m (fZ rfl ((C.nox).nox) jS hr.m (aq 1))) aN)) (uj (i:=14) nd) (bt (iu (gI rfl Oh OM OO (om) jx (aq 4) (aj (k8 rfl ((C.nox).nox) iO hr.m (fZ rfl ((C.nox).nox) jS hr.m (aq 1)) (aj (aq 14) aC)) aC))))))))))))
    (aO (n8 rfl (HL (E:=EN) rfl (aq 3)) (n5 rfl rfl (iw (i:=14) nd (iw (i:=15) nd nZ))) (bt (bj (gH (ql (cW (gE rfl hu) (cH rfl (C.nox) (Cv 90) hr.m rfl (aj (fZ rfl (C.nox) jS hr.m (aq 1)) (aj (aq 14) aC))) (aq 15) (cD _)) (uh (cW (gE rfl hu) (k8 rfl (C.nox) jR hr.m (fZ rfl (C.nox) jS hr.m (aq 1)) (aj (aq 14) aC)) (bc (M_ rfl) rfl Z.M_ Ov (aj (aq 15) aC)) (cD _))))) (bt (dZ fO)) dY)))
    (bt (dZ (hU (cu rfl hu) (aq 4) (uq (jf:=[(1, "house")]) (zb (N:=["script", "house", "states", "ever", "seen", "k", "cell", "stream", "kind", "more", "deed", "due", "behind", "name", "number", "plain"]) (sc:=bK pH) rfl (λ_=>rfl) ∅) rfl (um (E:=(λ_=>E)) rfl Z.G_ aN (fi (hJ rfl) (fZ rfl C wU hr.m (fZ rfl C jS hr.m (aq 1))) aN)) (λ_ _ _ _ _=>yR) (λ_ _ _ _ _=>(k8 rfl (CA.never rfl) iO hr.m (fZ rfl (CA.never rfl) jS hr.m (aq 1)) (aj (aq 0) aC)))) (cD _))))))))))
end
abbrev FX(l:PySem.W.OpenLaw)(w:ZF)(K:ZA)(mg:Str->Option ZC)(fa:ZE):Prop:=∃ fd:FuncData,(∀ (s:ZB) (v:ZC),BindsTo s fd ⟨[v],[]⟩ [("script",v)])/\∀ base:Heap,K.In base->base.Ns mainGlobals mg->FnOk l.prog w K mg base (cL l.prog w) 195 fa fd ["script"] (uD K)
def all_mk {l:PySem.W.OpenLaw} {w:ZF} {K:ZA} {h:Heap} {mg:Str->Option ZC} {fa C0 C1 X0 X1 X2 X3 Y_NothingDone:ZE} {tk_LEAF_SIGNS tk_NAME_SIGNS tk_MOST_PLAIN tk_MOST_SIGNS:Tok} (X:K.In h) (G:h.Ns mainGlobals mg) (hfa:mg "law"=some (.ref fa))
  (aC0:NA K "Shelf" (some (.ref C0))) (aC1:NA K "House" (some (.ref C1))) (a0:DN K C0 "__init__" "Shelf.__init__" Ba) (a1:DN K C1 "__init__" "House.__init__" wH) (a5:DN K C1 "names" "House.names" Be) (a6:DN K C0 "many" "Shelf.many" Bf) (a8:DN K C0 "has_piece" "Shelf.has_piece" Bi) (a9:DN K C0 "check_piece" "Shelf.check_piece" Bj) (a10:DN K C0 "piece" "Shelf.piece" Bk) (a11:DN K C1 "set_text" "House.set_text" wI) (a12:DN K C1 "back" "House.back" Bl) (a15:DN K C1 "do" "House.do" wJ) (a16:DN K C0 "check_fork" "Shelf.check_fork" Bo) (a17:DN K C0 "lay" "Shelf.lay" Bp) (a18:DN K C0 "lay_fork" "Shelf.lay_fork" Bq) (a19:DN K C0 "fork" "Shelf.fork" Br) (a25:DN K C0 "lay_leaf" "Shelf.lay_leaf" Bx) (a26:DN K C0 "leaf" "Shelf.leaf" By) (a28:DN K C1 "give" "House.give" BC) (a29:DN K C1 "text" "House.text" BD) (a30:DN K C1 "copy_of" "House.copy_of" BE) (a32:DN K C0 "check_text" "Shelf.check_text" BG) (a33:DN K C0 "signs" "Shelf.signs" BH) (a34:DN K C0 "last_leaf" "Shelf.last_leaf" BI) (a35:DN K C0 "first_leaf" "Shelf.first_leaf" BJ) (a38:DN K C0 "height" "Shelf.height" BN) (a45:DN K C1 "join_to" "House.join_to" BV) (a50:DN K C1 "put_into" "House.put_into" B3) (a53:DN K C1 "take_from" "House.take_from" B5) (a56:DN K C1 "repeat" "House.repeat" B8) (a57:DN K C1 "drop" "House.drop" B9) (a58:DN K C1 "again" "House.again" Cb) (a67:DN K C1 "shelf" "House.shelf" wR) (a2:DK K "_law_mixed" Bb) (a3:DK K "_law_stream" Bc) (a4:DK K "_law_take" Bd) (a7:DK K "is_whole" Bh) (a13:DK K "is_name" Bm) (a14:DK K "check_name" Bn) (a20:DK K "halved" Bs) (a21:DK K "is_plain_sign" Bt) (a22:DK K "is_plain" Bu) (a23:DK K "is_short" Bv) (a24:DK K "ends_in" Bw) (a27:DK K "built" Bz) (a31:DK K "check_length" BF) (a36:DK K "are_close" BK) (a37:DK K "with_last" BM) (a39:DK K "turned_left" BO) (a40:DK K "without_first" BP) (a41:DK K "turned_right" BQ) (a42:DK K "linked" BR) (a43:DK K "welded" BS) (a44:DK K "joined" BU) (a46:DK K "check_gap" BW) (a47:DK K "front_of" BX) (a48:DK K "back_of" BY) (a49:DK K "put_in" BZ) (a51:DK K "check_stretch" wK) (a52:DK K "taken_out" B4) (a54:DK K "doubled" B6) (a55:DK K "repeated" B7) (a59:DK K "_law_do" Cc) (a60:DK K "_law_word" wL) (a61:DK K "_law_name" wM) (a62:DK K "_law_plain" Cd) (a63:DK K "_law_given" wN) (a64:DK K "_law_changed" wO) (a65:DK K "_law_deed" wQ) (a66:DK K "_law_reads" Ce) (a68:DK K "law" pH) (kk0:Cls K C0) (mk0:PySem.W.makesIn K C0=true) (kc0:PySem.W.keepIn K (.ref C0)=true) (nf0_0:FA K C0 "pieces") (nf0_1:FA K C0 "numbers") (nf0_2:FA K C0 "sign_counts") (nf0_3:FA K C0 "end_counts") (nf0_4:FA K C0 "leaf_counts") (nf0_5:FA K C0 "heights") (nf0_6:FA K C0 "first_leaves") (nf0_7:FA K C0 "last_leaves") (kk1:Cls K C1) (mk1:PySem.W.makesIn K C1=true) (kc1:PySem.W.keepIn K (.ref C1)=true) (nf1_0:FA K C1 "own_shelf") (nf1_1:FA K C1 "texts") (nf1_2:FA K C1 "deeds") (nf1_3:FA K C1 "taken_back") (z_abs:NA K "abs" none) (z_all:NA K "all" none) (z_bool:NA K "bool" none) (z_dict:NA K "dict" none) (z_enumerate:NA K "enumerate" none) (z_int:NA K "int" none) (z_isinstance:NA K "isinstance" none) (z_len:NA K "len" none) (z_max:NA K "max" none) (z_min:NA K "min" none) (z_range:NA K "range" none) (z_sorted:NA K "sorted" none) (z_str:NA K "str" none) (z_sum:NA K "sum" none) (e_NoText:NA K "NoText" (some (.ref X0))) (C_:XI K X0) (e_TooLong:NA K "TooLong" (some (.ref X1))) (B_:XI K X1) (e_NoPlace:NA K "NoPlace" (some (.ref X2))) (AT:XI K X2) (e_NoName:NA K "NoName" (some (.ref X3))) (Ch:XI K X3) (em_NoName_0:XF K X0 X3) (em_NoName_1:XF K X1 X3) (em_NoName_2:XF K X2 X3) (em_NoName_3:XO K X3 X3) (em_NoPlace_0:XF K X0 X2) (em_NoPlace_1:XF K X1 X2) (em_NoPlace_2:XO K X2 X2) (em_NoPlace_3:XF K X3 X2) (em_NoText_0:XO K X0 X0) (em_NoText_1:XF K X1 X0) (em_NoText_2:XF K X2 X0) (em_NoText_3:XF K X3 X0) (e_NothingDone:NA K "NothingDone" (some (.ref Y_NothingDone))) (em_NothingDone_0:XF K X0 Y_NothingDone) (em_NothingDone_1:XF K X1 Y_NothingDone) (em_NothingDone_2:XF K X2 Y_NothingDone) (em_NothingDone_3:XF K X3 Y_NothingDone) (em_TooLong_0:XF K X0 X1) (em_TooLong_1:XO K X1 X1) (em_TooLong_2:XF K X2 X1) (em_TooLong_3:XF K X3 X1) (m_LEAF_SIGNS:NA K "LEAF_SIGNS" (some (.int 8 tk_LEAF_SIGNS))) (m_NAME_SIGNS:NA K "NAME_SIGNS" (some (.int 8 tk_NAME_SIGNS))) (m_MOST_PLAIN:NA K "MOST_PLAIN" (some (.int 10000 tk_MOST_PLAIN))) (m_MOST_SIGNS:NA K "MOST_SIGNS" (some (.int 1000000000000000000 tk_MOST_SIGNS))) (y0:bR K X0) (y1:bR K X1) (y2:bR K X2) (y3:bR K X3) (kt_NoText_0:KO K X0 X0 true) (kt_NoText_1:KO K X1 X0 false) (kt_NoText_2:KO K X2 X0 false) (kt_NoText_3:KO K X3 X0 false) (kt_TooLong_0:KO K X0 X1 false) (kt_TooLong_1:KO K X1 X1 true) (kt_TooLong_2:KO K X2 X1 false) (kt_TooLong_3:KO K X3 X1 false)
  : FX l w K mg fa:=by
 have Z:∀ base:Heap,K.In base->Facts l.prog w K (λn=>[C0,C1][n]?) (λn=>[X0,X1,X2,X3][n]?) mg base:=λbase KB=>{
   LE:=Ob X G z_abs,
   LT:=Ob X G z_all,
   Id:=Ob X G z_bool,
   IN:=Ob X G z_dict,
   wr:=Ob X G z_enumerate,
   IO:=Ob X G z_int,
   s_:=Ob X G z_isinstance,
   M_:=Ob X G z_len,
   L_:=Ob X G z_max,
   I_:=Ob X G z_min,
   G_:=Ob X G z_range,
   F_:=Ob X G z_sorted,
   K_:=Ob X G z_str,
   KK:=Ob X G z_sum,
   r_:=⟨_,Om X G m_LEAF_SIGNS⟩,
   q_:=⟨_,Om X G m_NAME_SIGNS⟩,
   ut:=⟨_,Om X G m_MOST_PLAIN⟩,
   u8:=⟨_,Om X G m_MOST_SIGNS⟩,
   Fa:=⟨C0,rfl,kk0,λf hf=>by
   have hf2:f∈dX 0:=hf;simp only[dX,ND,O0,QS] at hf2
   rcases hf2 with rfl|rfl|rfl|rfl|rfl|rfl|rfl|rfl
   ·exact nf0_0
   ·exact nf0_1
   ·exact nf0_2
   ·exact nf0_3
   ·exact nf0_4
   ·exact nf0_5
   ·exact nf0_6
   ·exact nf0_7⟩,
   Go:=⟨C1,rfl,kk1,λf hf=>by
   have hf2:f∈dX 1:=hf;simp only[dX,ND,O0,QS] at hf2
   rcases hf2 with rfl|rfl|rfl|rfl
   ·exact nf1_0
   ·exact nf1_1
   ·exact nf1_2
   ·exact nf1_3⟩,
   C_:=gx KB X G rfl e_NoText C_,
   B_:=gx KB X G rfl e_TooLong B_,
   AT:=gx KB X G rfl e_NoPlace AT,
   Ch:=gx KB X G rfl e_NoName Ch,
   on:=di rfl (Om X G aC0) mk0 kc0 a0 fq,
   sB:=di rfl (Om X G aC1) mk1 kc1 a1 fq,
   wE:=dg X G a2 cQ,
   u_:=dg X G a3 cQ,
   wT:=dg X G a4 cQ,
   jp:=dm rfl kk1 a5 fq,
   ul:=dm rfl kk0 a6 fq,
   w_:=dg X G a7 fq,
   bv:=dm rfl kk0 a8 cQ,
   ac:=dm rfl kk0 a9 cQ,
   jl:=dm rfl kk0 a10 cQ,
   c_:=dm rfl kk1 a11 dO,
   o_:=dm rfl kk1 a12 fq,
   At:=dg X G a13 fq,
   t_:=dg X G a14 fq,
   zn:=dm rfl kk1 a15 dO,
   bd:=dm rfl kk0 a16 dO,
   wn:=dm rfl kk0 a17 cQ,
   cr:=dm rfl kk0 a18 cQ,
   p_:=dm rfl kk0 a19 dO,
   E_:=dg X G a20 cQ,
   f_:=dg X G a21 fq,
   x_:=dg X G a22 fq,
   xz:=dg X G a23 fq,
   z_:=dg X G a24 fq,
   ci:=dm rfl kk0 a25 cQ,
   pi:=dm rfl kk0 a26 cQ,
   H_:=dg X G a27 cQ,
   sw:=dm rfl kk1 a28 dO,
   n_:=dm rfl kk1 a29 cQ,
   ge:=dm rfl kk1 a30 dO,
   io:=dg X G a31 fq,
   am:=dm rfl kk0 a32 cQ,
   nw:=dm rfl kk0 a33 cQ,
   b_:=dm rfl kk0 a34 cQ,
   a_:=dm rfl kk0 a35 cQ,
   v0:=dg X G a36 dO,
   ww:=dg X G a37 dO,
   h_:=dm rfl kk0 a38 cQ,
   l_:=dg X G a39 dO,
   g_:=dg X G a40 cQ,
   i_:=dg X G a41 dO,
   EQ:=dg X G a42 dO,
   D_:=dg X G a43 dO,
   Cl:=dg X G a44 dO,
   d_:=dm rfl kk1 a45 dO,
   v_:=dg X G a46 dO,
   wS:=dg X G a47 dO,
   BT:=dg X G a48 dO,
   Ev:=dg X G a49 ou,
   dL:=dm rfl kk1 a50 ou,
   e_:=dg X G a51 ou,
   wv:=dg X G a52 ou,
   bi:=dm rfl kk1 a53 ou,
   A_:=dg X G a54 dO,
   yq:=dg X G a55 dO,
   ii:=dm rfl kk1 a56 dO,
   ol:=dm rfl kk1 a57 cQ,
   m_:=dm rfl kk1 a58 fq,
   Db:=dg X G a59 cQ,
   xL:=dg X G a60 cQ,
   x0:=dg X G a61 dO,
   v4:=dg X G a62 cQ,
   wf:=dg X G a63 cQ,
   j_:=dg X G a64 cQ,
   y_:=dg X G a65 cQ,
   wP:=dg X G a66 cQ,
   k_:=dm rfl kk1 a67 fq,
   J_:=dg X G a68 fq,
   kx_NoText:=⟨X0,Om X G e_NoText,(λc C' h=>match c,C',h with
    |0,_,rfl=>⟨y0,kt_NoText_0⟩
    |1,_,rfl=>⟨y1,kt_NoText_1⟩
    |2,_,rfl=>⟨y2,kt_NoText_2⟩
    |3,_,rfl=>⟨y3,kt_NoText_3⟩
    |_+4,_,h=>nomatch h)⟩,
   kx_TooLong:=⟨X1,Om X G e_TooLong,(λc C' h=>match c,C',h with
    |0,_,rfl=>⟨y0,kt_TooLong_0⟩
    |1,_,rfl=>⟨y1,kt_TooLong_1⟩
    |2,_,rfl=>⟨y2,kt_TooLong_2⟩
    |3,_,rfl=>⟨y3,kt_TooLong_3⟩
    |_+4,_,h=>nomatch h)⟩,
   cu_NoName:=⟨X3,Om X G e_NoName,(λc C' h=>match c,C',h with
    |0,_,rfl=>em_NoName_0
    |1,_,rfl=>em_NoName_1
    |2,_,rfl=>em_NoName_2
    |3,_,rfl=>em_NoName_3
    |_+4,_,h=>nomatch h)⟩,
   cu_NoPlace:=⟨X2,Om X G e_NoPlace,(λc C' h=>match c,C',h with
    |0,_,rfl=>em_NoPlace_0
    |1,_,rfl=>em_NoPlace_1
    |2,_,rfl=>em_NoPlace_2
    |3,_,rfl=>em_NoPlace_3
    |_+4,_,h=>nomatch h)⟩,
   cu_NoText:=⟨X0,Om X G e_NoText,(λc C' h=>match c,C',h with
    |0,_,rfl=>em_NoText_0
    |1,_,rfl=>em_NoText_1
    |2,_,rfl=>em_NoText_2
    |3,_,rfl=>em_NoText_3
    |_+4,_,h=>nomatch h)⟩,
   cu_NothingDone:=⟨Y_NothingDone,Om X G e_NothingDone,(λc C' h=>match c,C',h with
    |0,_,rfl=>em_NothingDone_0
    |1,_,rfl=>em_NothingDone_1
    |2,_,rfl=>em_NothingDone_2
    |3,_,rfl=>em_NothingDone_3
    |_+4,_,h=>nomatch h)⟩,
   cu_TooLong:=⟨X1,Om X G e_TooLong,(λc C' h=>match c,C',h with
    |0,_,rfl=>em_TooLong_0
    |1,_,rfl=>em_TooLong_1
    |2,_,rfl=>em_TooLong_2
    |3,_,rfl=>em_TooLong_3
    |_+4,_,h=>nomatch h)⟩ }
 obtain⟨fd,h1,F⟩:=uG (p := "script") X G hfa a68 fq;exact⟨fd,h1,λbase KB _=>FnOk.imp (Nc (Z base KB) F) (Iv (T:=cS K (λn=>[C0,C1][n]?) (λn=>[X0,X1,X2,X3][n]?)) law_true)⟩
def walk{l:PySem.W.OpenLaw}{q:ZD}{loose:List Str}{XP:(Str->Option ZC)->Heap->Prop}{YP:ZF->Heap->Prop}{d:DefRec}{K:Params->ZA}(hn:l.most=some 63)(hdf:d.params.defaults=[])
  (hY:∀ (w:ZF) (h:Heap),YP w h->(K w.params).In h)
  (F:∀ (w:ZF) (mg:Str->Option ZC) (fa:ZE) (h:Heap),(K w.params).In h->h.Ns mainGlobals mg->mg d.name=some (.ref fa)->FX l w (K w.params) mg fa) :
  PySem.W.WalkO q loose XP YP l.row.toRowW d [] (λf vs=>PySem.call f vs) :=(
 L2.walk_of (n:=63) (k:=195) (x := "script") (CX:=λw=>cL l.prog w) (sp:=λw=>uD (K w.params)) hn 'd' hdf ⟨rfl,by decide,by decide⟩ hY F (λ_ _ a ns hl _ hS=>⟨a,ns,rfl,hS,hl,λ_=>rfl⟩) λ_ _ _ _ _ z=>Iw z)
end Sk
open PySem PySem.W PyProof.Rows
section
structure PySem.W.Fast:Prop where(tw7915269574750033212 tw17768102117939990668 tw13578082017080424383 tw4139271990357691295 tw3370038726583897983 tw16498913468095338335 tw17515931757207113503 tw6331925049521623807 tw483537881286903551 tw15919680751471039231 tw6144117784023840479 tw13390420468628992735 tw12108217214385963711 tw12438887310446955199 tw4717415606069669535 tw6437840789641698911 tw6545135302591273503 tw3641146816898753023 tw16797274963470211455 tw7898322317616656703 tw15545510673781105983 tw53903452563513663 tw1714824569985806623 tw1038717490141573311 tw10469040599705071775 tw1503641545649782943 tw11254743963771605119 tw5461085121829083231 tw5076559486814282718 tw18184876874158359486 tw923224131732159326 tw2785859093913944734 tw7777604646690906718 tw8731985707445270078 tw13100872886874446366 tw6464807877630660126 tw16724004824600286718 tw5974462585674897886 tw4618968490953568702 tw4568911025320761694 tw8054178582378630494 tw16332356926901759294 tw6626128511354308862 tw771351737373124798 tw8685636371578311870 tw7855511757357578302 tw14101709422998466590 tw16515575838217577405 tw17040382844619076509 tw3232670730534232989 tw1910006679140968317 tw10558245692160023389 tw5668230710457800509 tw4467598335020242717 tw3780466699461582621 tw1597554639980352253 tw454127122521214621 tw14237377677200511549 tw9673705719266582077 tw2169355117347588605 tw17009167731738293725 tw5347950724827615677 tw7706276520842570141 tw297537145729782109 tw8008095700206974237 tw2025732510364177661 tw1682579269120976029 tw110592788777054333 tw2168505688585673853 tw11885703917663925341 tw4209740194417944669 tw2889344205903141852 tw14982786022505698236 tw6611288132811561884 tw11153510644132255580 tw1384001157897483036 tw5666712778561796860 tw7378175341934847740 tw4883801209935213244 tw7165066729567989404 tw14339868782958982780 tw6576707390234304028 tw45553540796956188 tw8088641632319159804 tw17045599908612533628 tw1144817779490600316 tw392864368839260508 tw12299975657947400508 tw13036006183072704764 tw8256137788183475356 tw7473955115662656636 tw13086649722814859292 tw12565962667167241244 tw807538471875192731 tw18127192909216532347 tw12658494720998339387 tw2839193212255702843 tw7053933818816941787 tw4695549859569841819 tw13487345211962805883 tw13954705039866393179 tw1580915392029094491 tw17285636386554321499 tw3105718841574553115 tw2900318157511832091 tw17059999696771872251 tw12814921613212418459 tw1475720506544919963 tw2874857896311422331 tw7165243833569783099 tw15671627378066671899 tw15106038415176217883 tw6181649982889741531 tw18251796653759235163 tw1933077684922692699 tw13588905176097053755 tw8207168684817075259 tw5272365555679553530 tw15895854656528710618 tw6171767256744428442 tw233673884864506714 tw3304781124313245530 tw18025548272700499802 tw9175365685638636314 tw3501005086161929882 tw1034559700375330458 tw13487239369253941882 tw2749775279615649370 tw5746654366201762394 tw11559952587135374906 tw10555564656684240442 tw33781406430750234 tw11811709972757736954 tw3481306135026942458 tw6119920678676609530 tw3498330311528483322 tw16233157688651154810 tw17979674948673107258 tw9252898248064493850 tw5563346843425889562 tw12323141618543078618 tw16750156272895023290 tw494840306205205562 tw934636127047482426 tw5349658701862337497 tw6224083293440853977 tw14039493707637449625 tw4344108541781663545 tw11965067589402226393 tw16103631968985591481 tw12985039885598351961 tw8862786709577866841 tw11361006297350324793 tw3430021132782301657 tw8385512108169320921 tw10561637313624018169 tw18232578537902149785 tw7301802354255664281 tw8429661324819889273 tw14869250645026701401 tw10882839304029066200 tw8437094453787003736 tw11077816410595641144 tw10401522636257600280 tw14915820002555737848 tw12149308441498884728 tw15861779953747807832 tw15915967145090058840 tw14877194644758128152 tw2166418517571583352 tw16355263272645836120 tw10029036641125440824 tw1610831729036455192 tw2671667171924110616 tw10080093323958673688 tw3173737673167739960 tw13439818258297377816 tw12144147376813247479 tw14178537268574066679 tw9492235887607423895 tw6133012333176918935 tw14521836319951499127 tw6171322622510459767 tw560543877824756503 tw4883088973532833527 tw1888160506391418455 tw514779323294644727 tw16505524061745393111 tw10640125913750521271 tw17035904726756349303 tw16080927778499523927 tw12715361011143712055 tw92515575924922679 tw12001210102917134615 tw3394668827109960983 tw3048263866077410551 tw103995177194388663 tw18077531435068169367 tw8420898426260987031 tw9596411762254084183 tw6279465783081675831 tw16287560113564549143 tw15304530019528331254 tw6582083463672858390 tw12820684616478229270 tw11410778292552061686 tw599768143765846678 tw8027805576337355382 tw6286900452856960598 tw22876435637116470 tw10335337698310689334 tw6638730294593574422 tw11112535720242231830 tw13549973826556251638 tw633669471930935702 tw11550241757042824566 tw15169550639714777462 tw13731740408629770582 tw1087991375998193974 tw12488775097465849046 tw1436432258245326006 tw3350248679477865590 tw2540004386324770902 tw17308539902303068246 tw4877008353169455190 tw17404423923503719381 tw9711908684174512053 tw10058312942062638005 tw11260624374009086869 tw11433578363678923637 tw13603963260856189749 tw986505792165502773 tw17822898802555303637 tw5240297248405066453 tw3373213217248436917 tw13147932258720042677 tw8259061791819091637 tw10026671033666914869 tw6174825015039798837 tw2467128918912245301 tw8198844361370604085 tw17775752547229137429 tw2620305182470630933 tw8427315877682879989 tw6581778060824499669 tw5410525054157888949 tw14650980283755818325 tw3459104647195272533 tw13641884627215319349 tw14046860839937209589 tw11483838375467081973 tw6390657894789074165 tw6880273475881730293 tw10480147175782730965 tw6010523734507375829 tw10703000617924994261 tw16350752387839758549 tw9490864611284048053 tw3246544034763925653 tw18396550216715452565 tw726391582095122549 tw1203130085902672981 tw16410503723848094805 tw5087294999892618261 tw5070367562181333972 tw1352635247023044468 tw10622724651941276532 tw4564877743329159988 tw11779410827579644692 tw12161051420346264340 tw14236721402180136692 tw8330034343396348628 tw2633534380692635284 tw2644728029604748916 tw2175480433400456724 tw14927155215930558996 tw8406949391761933844 tw5755499049585608212 tw4544856433985847828 tw14191029195721444756 tw794716329241615668 tw14624895100838009108 tw16217721332880116980 tw1718015717501987028 tw11164034907253382356 tw7122870725129742516 tw10690925808765913268 tw619976693651078260 tw753711018574968948 tw1621833513245089908 tw16426511573404980308 tw14145565422105505812 tw9590412673762035732 tw4386524229731208179 tw3737710996319583219 tw2707654274798219123 tw2207231350122457971 tw3390026541020982131 tw2988423878800062291 tw3109059583317386067 tw1414408141653805907 tw7410827512050309939 tw8867578427355846451 tw930478398318772947 tw1180596261854984915 tw16974622081428390579 tw16448449927091712691 tw11404451353858769555 tw7911249616290080339 tw1867188940217224723 tw18426252556804917779 tw16644575359412960755 tw8666755642267724179 tw17271187204291624243 tw14877388929324503347 tw10690529652680117555 tw1087675096551138611 tw7036456723270322451 tw10054291710033173587 tw1390399490496105523 tw12926672455982224403 tw7454588393639851922 tw1564507243339376434 tw4094685257069839122 tw202474368244661970 tw209988397038930610 tw17141949341112132210 tw3886601708895132274 tw10812252629166592626 tw5133726722961018386 tw8603916188829080082 tw10850148486471581202 tw12132715580910285234 tw13465665359302828370 tw4615956617584669970 tw11024880468758181138 tw8209163676278671538 tw14174500284605514930 tw4345455267835708594 tw2665162757856854194 tw6995637610846968978 tw1822396433626219666 tw3872892210701023378 tw17799331442079460466 tw14489694605145696338 tw6500583141380154193 tw11765954989088229137 tw13566534520117018289 tw14134413125845060273 tw9546508817144421009 tw7908127520834219633 tw7269451085980628529 tw4382469101273769393 tw16816001221602992561 tw14164558296240625073 tw16749396863602478449 tw15678257706326188337 tw8288339075033243953 tw18377201877055004945 tw8745717955359120657 tw7362032563595097329 tw8484968510377645265 tw14273297184574254129 tw12564132826636711888 tw2366723842407647184 tw7282644193182356432 tw11608321067847240592 tw16485997018288769936 tw14773008791832078224 tw13725300329520463728 tw15089011799191408496 tw536919233045562224 tw17981540147738470192 tw17062399945689359152 tw14277829464757263120 tw6242893088244093680 tw5810450805225718448 tw14092010413039925872 tw4200468823650109008 tw17648962240339062352 tw13066181106917037616 tw12649862301324847632 tw7769486279397184016 tw16344236012400624112 tw7103203449904932304 tw15794824207568899408 tw3459580527173453040 tw12173443236791251152 tw12598213935091584208 tw11808344389714721968 tw2206546391329062863 tw670576267485779919 tw15616401420061899695 tw14836640999515086703 tw9088937261989971791 tw15313876542550025775 tw8585837344983472655 tw12921290672921574863 tw16492686049529292207 tw18326174839242753423 tw5741412073484822895 tw5280457175768807791 tw7339969739367961807 tw17439909569653745807 tw10647978362571652175 tw8018717079161022479 tw16981103599141372878 tw8847408033608776590 tw17018862820048431950 tw17618786605702387502 tw17546079355801172750 tw7070407879607058158 tw13402773136713397934 tw17584711129604719278 tw15973162911041154702 tw10976142024760381038 tw6683566446230079054 tw18155717721113256494 tw13060398585738809838 tw16534903044746718670 tw8266209791558906286 tw12382849916990751150 tw3359781618909614478 tw14096558741547147662 tw9423057147487344878 tw7559476424690921646 tw1178469174920088718 tw787548578956659758 tw4882761268799195150 tw17421859671799423949 tw16634478245118216077 tw18151645056644808557 tw8115393883525488429 tw8240400110634721037 tw14086491619464983213 tw2897475814976543309 tw13804825493308907053 tw4655104731903637997 tw17583613879873434061 tw1611345325409321421 tw3291247038490062221 tw3134859936801618285 tw18434006805317341549 tw11117568299284389165 tw3926077116734739757 tw3506247317720011021 tw14419263632353004717 tw18007876084997999789 tw3154913836814272621 tw17709982745901164621 tw406822913705988173 tw4479864955550699597 tw7811373610797294637 tw15552477731472315437 tw14859881338833255308 tw10779243388749756268 tw8985512467130797900 tw17318507354794104652 tw525437152897533772 tw12564173160352017196 tw17747310438682556108 tw8155195168983839436 tw9196030883904241260 tw10661505243776724588 tw9506315111154908620 tw4170026312640000460 tw3061053596268920140 tw14338251054185707756 tw3838311432690215116 tw3892699552530751692 tw18421426077523116 tw11128252491427608491 tw4209741233821083563 tw2317474549786595243 tw14405629169240364939 tw65360179891350251 tw16626352301467668203 tw5599029138124312267 tw17810222457342519947 tw7947005343363491435 tw11466725849285800555 tw1069440264174126635 tw15988696003631267371 tw11298436207477233195 tw13339301271133801995 tw7280430853441771947 tw13574458813182150059 tw13465617625550440843 tw16055091937157238123 tw1369669771202135403 tw1916199819620305131 tw11661439349568239755 tw11317938082301192299 tw541762866303469643 tw4018033028947113035 tw14104638095461584939 tw18087213259472578603 tw586482181740459946 tw11482471855682656074 tw915681954880551658 tw10011943381277906666 tw326665457264506570 tw1936872616214645418 tw12200489226009385610 tw4848749828558887370 tw3765227678652019146 tw17844797737544396202 tw7492848563620368650 tw6738393570021212426 tw14623171519520091274 tw14147768100494616586 tw13357210097413945289 tw12802144013731511177 tw13227477171252134793 tw11558447989433661289 tw17466342409319072553 tw10931599758090551049 tw16824353843220703977 tw8631148414687891177 tw6379274539411305161 tw3642098962734904009 tw8977419906790152905 tw2434495743951060681 tw11559041615351329481 tw11596657994460148393 tw10344738611542776361 tw15831880289690770921 tw15225793895132835273 tw14516934095658403241 tw4581771086503361961 tw6169275624252371273 tw8732815904902078793 tw9331379149799251273 tw2146998348760140073 tw9872986999288168713 tw17548594350656480521 tw625376700982386921 tw15346985534735809737 tw5818156332564675753 tw15832108295718107273 tw14269422608474680393 tw16681513964092845065 tw10077331096392491944 tw1594413444296916904 tw16738161222424437640 tw8306208929580436200 tw4805025120488109736 tw5764133695402743464 tw17168973032635051592 tw6202469394448795176 tw10130472276041589288 tw5501821515511392616 tw12416881308542104872 tw16574608653393946888 tw14092857973882099976 tw10441963756556025064 tw14745212656539193512 tw15407523825618354344 tw14343900626842256488 tw9025211488484317224 tw13595351645706135560 tw5949455832454200328 tw3789293139159561127 tw16177503031462128519 tw8921848418764342087 tw13324003610875279143 tw1254230696911905575 tw11118259893414693671 tw16160092850986291943 tw16665182803837754983 tw14605771806009131559 tw18007631421492111911 tw9951207292322345223 tw4942707857519664391 tw7095637420996742407 tw9165020948879942791 tw16853822537547277415 tw7787900256848378951 tw2605155561682957383 tw16586734870178449415 tw6629209037209056198 tw12354845453607277510 tw10570378732547509126 tw15539326668149352294 tw13874692208633077574 tw10262918452303622918 tw2994991174135888646 tw15870315174547557126 tw5386129463633994470 tw15802534457736054470 tw907311711690398150 tw16733013140968825126 tw11865971216364999974 tw17553332243943512262 tw256800581027890374 tw10581452377981661350 tw4454627766023877605 tw14045903512690912165 tw9829288557824836485 tw4740247856651677509 tw7426152832455695013 tw7557813343823925829 tw7954657033625160197 tw12850670777556100581 tw16640509531932148197 tw15732357620478099941 tw13287056366334467461 tw7572897504959649157 tw2276562479091837253 tw10366460063341943013 tw7261670428411701477 tw13647316753343665349 tw3513540445092063365 tw4454078505126767717 tw15054009775875258469 tw11325916721117918277 tw10057306350593819717 tw9375218835560075269 tw3924116297782706148 tw14941857765992133572 tw5017890923415616356 tw14586901633740805988 tw4311319561292763972 tw1270413253099714308 tw10623368720243866308 tw4498587700307363524 tw8340122853038271108 tw2113073483406052964 tw14361950178969078308 tw5217614122284239364 tw4819615503200060868 tw2682659747534554532 tw3622347807250540900 tw9718630170027798884 tw8251634891170336068 tw15220990555749246276 tw15907771547310881060 tw16316834424676175076 tw1329085724086782084 tw221084479287114820 tw7132483340397524036 tw2875699549666034724 tw11754678162737785827 tw10803959937198808035 tw9250478592431782851 tw16975659752006855587 tw5078648275525284739 tw2215019743289222947 tw2577208610384323363 tw17904812835318813443 tw12224979858758357763 tw17414659233557348067 tw6244676394083259107 tw16113006990040089283 tw18187625994944117379 tw17479597823849457219 tw15480881502872933955 tw18269845978918634019 tw10268624109117563331 tw4340559507919805891 tw6165063961202862499 tw17209015085917695363 tw6678687610983816515 tw8103224843513752771 tw14278508741637706915 tw17414877387039837347 tw7575212274945889411 tw15804755642888321091 tw9879536185124646979 tw14217249502710808611 tw14329719601531359235 tw4051862571446639619 tw11819422023606572035 tw11040802857497456610 tw6445803552315765666 tw16973900814983914370 tw3693907067303280418 tw8946652338265751298 tw1618527158530731746 tw8778413404985911970 tw4893536535874972194 tw16797724334610486818 tw14180992038306925058 tw8447850124348327394 tw12813117531393432962 tw17262564723031615810 tw15510274550475771202 tw6614686336009015586 tw16741399313783383266 tw15001691599011655906 tw4786658541990959298 tw14924700983691855010 tw16176337126599147650 tw107194162281100386 tw3622426726546650178 tw10778898686235048994 tw17300481921346895906 tw14475878946905816066 tw17042060337924664257 tw12010244374944807841 tw847703483992887169 tw13286942050565717857 tw16819579489057332033 tw13156478934618487585 tw976021433980018433 tw6447355683146385153 tw3853753489184014081 tw5627221380553386721 tw8077618003422388929 tw16624119070192547489 tw3985013019810870945 tw14197564457916313121 tw2584918101720339969 tw2575611625739854305 tw985272358097192289 tw5072462239423626433 tw18108598401915184257 tw7331892228400002177 tw12069609380004437089 tw4600999048909540417 tw2162607764271998017 tw10066903526837790721 tw12026494647625272256 tw9149602459625762688 tw4532781480934834016 tw9046054873932933984 tw8463296754233410368 tw9746845248388715328 tw17861025196427429664 tw17472485723296683776 tw4643901657786363616 tw484526308968747712 tw14632495755097350816 tw7390187135694078624 tw16272925261446300288 tw230298535095674496 tw15555672068386427520 tw17946256877029610080 tw16268967632781878816 tw7555700597638046208 tw17410823217383268832 tw11302139879137069504 tw10955365948126297408 tw13827332411328010560 tw15820019223561884960 tw3980460452796417312 tw3549484766881589440 tw1112901456461107392 tw10769797791594752160 tw5884168072164807840 tw15288856247477217440 tw10322804159560302720 tw2151163496204436608 tw4676107232596275296 tw5097464742410533920:True)
end
set_option maxRecDepth 100000 in
set_option maxHeartbeats 0 in
theorem PySem.Challenge.cw_skeinwood_k83_whole_elder_texts_stay_holds : PySem.Challenge.rw_skeinwood_k83_whole_elder_texts_stay.Holds := by
 w_on; o_law; k_head; (case hw => w_witness2)
 k_fill
 refine Sk.walk (l := PySem.Challenge.rw_skeinwood_k83_whole_elder_texts_stay) rfl rfl (fun w h Y => PySem.W.kIn_of Y) ?F
 case F =>
  intro w mg fa h KX G hmg;refine' Sk.all_mk KX G hmg ?aC0 ?aC1 ?a0 ?a1 ?a5 ?a6 ?a8 ?a9 ?a10 ?a11 ?a12 ?a15 ?a16 ?a17 ?a18 ?a19 ?a25 ?a26 ?a28 ?a29 ?a30 ?a32 ?a33 ?a34 ?a35 ?a38 ?a45 ?a50 ?a53 ?a56 ?a57 ?a58 ?a67 ?a2 ?a3 ?a4 ?a7 ?a13 ?a14 ?a20 ?a21 ?a22 ?a23 ?a24 ?a27 ?a31 ?a36 ?a37 ?a39 ?a40 ?a41 ?a42 ?a43 ?a44 ?a46 ?a47 ?a48 ?a49 ?a51 ?a52 ?a54 ?a55 ?a59 ?a60 ?a61 ?a62 ?a63 ?a64 ?a65 ?a66 ?a68 ?kk0 ?mk0 ?kc0 ?nf0_0 ?nf0_1 ?nf0_2 ?nf0_3 ?nf0_4 ?nf0_5 ?nf0_6 ?nf0_7 ?kk1 ?mk1 ?kc1 ?nf1_0 ?nf1_1 ?nf1_2 ?nf1_3 ?z_abs ?z_all ?z_bool ?z_dict ?z_enumerate ?z_int ?z_isinstance ?z_len ?z_max ?z_min ?z_range ?z_sorted ?z_str ?z_sum ?e_NoText ?C_ ?e_TooLong ?B_ ?e_NoPlace ?AT ?e_NoName ?Ch ?em_NoName_0 ?em_NoName_1 ?em_NoName_2 ?em_NoName_3 ?em_NoPlace_0 ?em_NoPlace_1 ?em_NoPlace_2 ?em_NoPlace_3 ?em_NoText_0 ?em_NoText_1 ?em_NoText_2 ?em_NoText_3 ?e_NothingDone ?em_NothingDone_0 ?em_NothingDone_1 ?em_NothingDone_2 ?em_NothingDone_3 ?em_TooLong_0 ?em_TooLong_1 ?em_TooLong_2 ?em_TooLong_3 ?m_LEAF_SIGNS ?m_NAME_SIGNS ?m_MOST_PLAIN ?m_MOST_SIGNS ?y0 ?y1 ?y2 ?y3 ?kt_NoText_0 ?kt_NoText_1 ?kt_NoText_2 ?kt_NoText_3 ?kt_TooLong_0 ?kt_TooLong_1 ?kt_TooLong_2 ?kt_TooLong_3
  (case aC0 => apply Sm.na;k_is)
  (case aC1 => apply Sm.na;k_is)
  (case a0 => apply Sm.dn<;>k_is)
  (case a1 => apply Sm.dn<;>k_is)
  (case a5 => apply Sm.dn<;>k_is)
  (case a6 => apply Sm.dn<;>k_is)
  (case a8 => apply Sm.dn<;>k_is)
  (case a9 => apply Sm.dn<;>k_is)
  (case a10 => apply Sm.dn<;>k_is)
  (case a11 => apply Sm.dn<;>k_is)
  (case a12 => apply Sm.dn<;>k_is)
  (case a15 => apply Sm.dn<;>k_is)
  (case a16 => apply Sm.dn<;>k_is)
  (case a17 => apply Sm.dn<;>k_is)
  (case a18 => apply Sm.dn<;>k_is)
  (case a19 => apply Sm.dn<;>k_is)
  (case a25 => apply Sm.dn<;>k_is)
  (case a26 => apply Sm.dn<;>k_is)
  (case a28 => apply Sm.dn<;>k_is)
  (case a29 => apply Sm.dn<;>k_is)
  (case a30 => apply Sm.dn<;>k_is)
  (case a32 => apply Sm.dn<;>k_is)
  (case a33 => apply Sm.dn<;>k_is)
  (case a34 => apply Sm.dn<;>k_is)
  (case a35 => apply Sm.dn<;>k_is)
  (case a38 => apply Sm.dn<;>k_is)
  (case a45 => apply Sm.dn<;>k_is)
  (case a50 => apply Sm.dn<;>k_is)
  (case a53 => apply Sm.dn<;>k_is)
  (case a56 => apply Sm.dn<;>k_is)
  (case a57 => apply Sm.dn<;>k_is)
  (case a58 => apply Sm.dn<;>k_is)
  (case a67 => apply Sm.dn<;>k_is)
  (case a2 => apply Sm.dk<;>k_is)
  (case a3 => apply Sm.dk<;>k_is)
  (case a4 => apply Sm.dk<;>k_is)
  (case a7 => apply Sm.dk<;>k_is)
  (case a13 => apply Sm.dk<;>k_is)
  (case a14 => apply Sm.dk<;>k_is)
  (case a20 => apply Sm.dk<;>k_is)
  (case a21 => apply Sm.dk<;>k_is)
  (case a22 => apply Sm.dk<;>k_is)
  (case a23 => apply Sm.dk<;>k_is)
  (case a24 => apply Sm.dk<;>k_is)
  (case a27 => apply Sm.dk<;>k_is)
  (case a31 => apply Sm.dk<;>k_is)
  (case a36 => apply Sm.dk<;>k_is)
  (case a37 => apply Sm.dk<;>k_is)
  (case a39 => apply Sm.dk<;>k_is)
  (case a40 => apply Sm.dk<;>k_is)
  (case a41 => apply Sm.dk<;>k_is)
  (case a42 => apply Sm.dk<;>k_is)
  (case a43 => apply Sm.dk<;>k_is)
  (case a44 => apply Sm.dk<;>k_is)
  (case a46 => apply Sm.dk<;>k_is)
  (case a47 => apply Sm.dk<;>k_is)
  (case a48 => apply Sm.dk<;>k_is)
  (case a49 => apply Sm.dk<;>k_is)
  (case a51 => apply Sm.dk<;>k_is)
  (case a52 => apply Sm.dk<;>k_is)
  (case a54 => apply Sm.dk<;>k_is)
  (case a55 => apply Sm.dk<;>k_is)
  (case a59 => apply Sm.dk<;>k_is)
  (case a60 => apply Sm.dk<;>k_is)
  (case a61 => apply Sm.dk<;>k_is)
  (case a62 => apply Sm.dk<;>k_is)
  (case a63 => apply Sm.dk<;>k_is)
  (case a64 => apply Sm.dk<;>k_is)
  (case a65 => apply Sm.dk<;>k_is)
  (case a66 => apply Sm.dk<;>k_is)
  (case a68 => apply Sm.dk<;>k_is)
  (case kk0 => constructor<;>k_is)
  (case mk0 => k_is)
  (case kc0 => k_is)
  (case nf0_0 => apply Sm.fatt;k_is)
  (case nf0_1 => apply Sm.fatt;k_is)
  (case nf0_2 => apply Sm.fatt;k_is)
  (case nf0_3 => apply Sm.fatt;k_is)
  (case nf0_4 => apply Sm.fatt;k_is)
  (case nf0_5 => apply Sm.fatt;k_is)
  (case nf0_6 => apply Sm.fatt;k_is)
  (case nf0_7 => apply Sm.fatt;k_is)
  (case kk1 => constructor<;>k_is)
  (case mk1 => k_is)
  (case kc1 => k_is)
  (case nf1_0 => apply Sm.fatt;k_is)
  (case nf1_1 => apply Sm.fatt;k_is)
  (case nf1_2 => apply Sm.fatt;k_is)
  (case nf1_3 => apply Sm.fatt;k_is)
  (case z_abs => apply Sm.na;k_is)
  (case z_all => apply Sm.na;k_is)
  (case z_bool => apply Sm.na;k_is)
  (case z_dict => apply Sm.na;k_is)
  (case z_enumerate => apply Sm.na;k_is)
  (case z_int => apply Sm.na;k_is)
  (case z_isinstance => apply Sm.na;k_is)
  (case z_len => apply Sm.na;k_is)
  (case z_max => apply Sm.na;k_is)
  (case z_min => apply Sm.na;k_is)
  (case z_range => apply Sm.na;k_is)
  (case z_sorted => apply Sm.na;k_is)
  (case z_str => apply Sm.na;k_is)
  (case z_sum => apply Sm.na;k_is)
  (case e_NoText => apply Sm.na;k_is)
  (case C_ => apply Sm.xi;k_exc)
  (case e_TooLong => apply Sm.na;k_is)
  (case B_ => apply Sm.xi;k_exc)
  (case e_NoPlace => apply Sm.na;k_is)
  (case AT => apply Sm.xi;k_exc)
  (case e_NoName => apply Sm.na;k_is)
  (case Ch => apply Sm.xi;k_exc)
  (case em_NoName_0 => apply Sm.xf<;>kts_exm)
  (case em_NoName_1 => apply Sm.xf<;>kts_exm)
  (case em_NoName_2 => apply Sm.xf<;>kts_exm)
  (case em_NoName_3 => apply Sm.xo;kts_exm)
  (case em_NoPlace_0 => apply Sm.xf<;>kts_exm)
  (case em_NoPlace_1 => apply Sm.xf<;>kts_exm)
  (case em_NoPlace_2 => apply Sm.xo;kts_exm)
  (case em_NoPlace_3 => apply Sm.xf<;>kts_exm)
  (case em_NoText_0 => apply Sm.xo;kts_exm)
  (case em_NoText_1 => apply Sm.xf<;>kts_exm)
  (case em_NoText_2 => apply Sm.xf<;>kts_exm)
  (case em_NoText_3 => apply Sm.xf<;>kts_exm)
  (case e_NothingDone => apply Sm.na;k_is)
  (case em_NothingDone_0 => apply Sm.xf<;>kts_exm)
  (case em_NothingDone_1 => apply Sm.xf<;>kts_exm)
  (case em_NothingDone_2 => apply Sm.xf<;>kts_exm)
  (case em_NothingDone_3 => apply Sm.xf<;>kts_exm)
  (case em_TooLong_0 => apply Sm.xf<;>kts_exm)
  (case em_TooLong_1 => apply Sm.xo;kts_exm)
  (case em_TooLong_2 => apply Sm.xf<;>kts_exm)
  (case em_TooLong_3 => apply Sm.xf<;>kts_exm)
  (case m_LEAF_SIGNS => apply Sm.na;k_is)
  (case m_NAME_SIGNS => apply Sm.na;k_is)
  (case m_MOST_PLAIN => apply Sm.na;k_is)
  (case m_MOST_SIGNS => apply Sm.na;k_is)
  (case y0 => apply Sm.excK_of<;>k_is)
  (case y1 => apply Sm.excK_of<;>k_is)
  (case y2 => apply Sm.excK_of<;>k_is)
  (case y3 => apply Sm.excK_of<;>k_is)
  (case kt_NoText_0 => apply Sm.ko;kit_is)
  (case kt_NoText_1 => apply Sm.ko;kit_is)
  (case kt_NoText_2 => apply Sm.ko;kit_is)
  (case kt_NoText_3 => apply Sm.ko;kit_is)
  (case kt_TooLong_0 => apply Sm.ko;kit_is)
  (case kt_TooLong_1 => apply Sm.ko;kit_is)
  (case kt_TooLong_2 => apply Sm.ko;kit_is)
  (case kt_TooLong_3 => apply Sm.ko;kit_is)
