import PyProof.Rows.All
import Wide.All
import OpenK.AllK
import Wide.FinOn
import Lean
import PyProof.EqAt
import PyProof.EqKinds
import PyProof.TupleCall
import PyProof.StrCalls2
import PyProof.SumAny
import PyProof.Rows.Range3
import PyProof.StrBlockI
import PyProof.SliceStr2
import PyProof.IsRules
import PyProof.StrBlock2
import PyProof.Seq
import PyProof.Rows.SortStr
import PyProof.Rows.SortShellK
import KE.KDictOf
import KE.KDictList
import KE.KTryMore
import KE.KEqDict
import PyProof.StrLawsIn
import PySem.Challenge.RW_skeinwood_k84_house_by_functions
set_option Elab.async false
set_option genSizeOf false
set_option bootstrap.genMatcherCode false
set_option compiler.extract_closed false
set_option compiler.postponeCompile true
set_option linter.all false
set_option maxRecDepth 100000
local macro_rules|`(def$n:declId$s:optDeclSig$v:declVal)=>`(noncomputable def$n:declId$s:optDeclSig$v:declVal)
local macro_rules|`(abbrev$n:declId$s:optDeclSig$v:declVal)=>`(noncomputable abbrev$n:declId$s:optDeclSig$v:declVal)
local macro_rules|`(@[simp]def$n:declId$s:optDeclSig$v:declVal)=>`(@[simp]noncomputable def$n:declId$s:optDeclSig$v:declVal)
noncomputable section
section
open PySem PySem.Spec PyProof.Rows
def MP:=@List.getElem?_eq_some_iff
def MQ:=@Nat.le_refl
def MR:=@wpAny_bind
def MS:=@List.getElem?_set_ne
def MT:=@List.getElem?_append_left
def MU:=@Heap.get?_push_of_some
def MV:=@Nat.le_trans
def MW:=@if_pos
def MX:=@if_neg
def MY:=@List.getElem?_set_self
def MZ:=@wpAny_pure
def M0:=@List.length_map
def M3:=@List.getElem?_eq_getElem
def M4:=@Heap.lt_size
def M5:=@PySem.F.plainAttrs_list
def M6:=@List.length_append
def M7:=@List.size_toArray
def M8:=@Nat.lt_of_le_of_lt
def M9:=@Heap.get?_push_size
def Na:=@PySem.F.slot_list_append
def Nb:=@PySem.F.type_list_append
def Nc:=@Option.map_eq_some_iff
def Nd:=@List.mem_cons
def Nf:=@Nat.lt_of_lt_of_le
def Ng:=@wpAny_truthy_bool
def Nh:=@List.mem_append_left
def Ni:=@Bool.false_ne_true
def Nj:=@Nat.zero_le
def Nk:=@List.getElem?_append_right
def Nl:=@decide_eq_false
def Nn:=@Option.isSome_iff_exists
def Np:=@List.mem_append_right
def Nq:=@List.mem_of_getElem?
def Nr:=@Nat.add_le_add_left
def Nt:=@Nat.ne_of_lt
def Nu:=@List.getElem?_map
def Nv:=@List.mem_cons_of_mem
def Nw:=@PySem.boot_len
def Nx:=@Option.some.inj
def Ny:=@List.map_cons
def Nz:=@Bool.and_eq_true
def NB:=@PySem.W.mg_none_of
def NC:=@wpAny_mono
def ND:=@decide_eq_true
def NF:=@List.all_eq_true
def NG:=@List.take_of_length_le
def NH:=@List.mem_append
def NI:=@List.length_set
def NJ:=@List.mem_cons_self
def NK:=@List.find?_cons
def NL:=@List.length_cons
def NM:=@PySem.W.kia_one
def NO:=@List.nodup_cons
def NP:=@List.length_take
def NQ:=@List.length_replicate
def NR:=@Array.all_eq_true_iff_forall_mem
def NU:=@PySem.W.mg_of
def NV:=@wpAny_holding
def NW:=@List.drop_of_length_le
def NX:=@PyProof.Rows.boot_max
def NY:=@PySem.mem_of_lookup
def NZ:=@List.map_append
def N7:=@PySem.F.slot_dict_get
def N8:=@List.pairwise_cons
def N9:=@List.prefix_refl
def Oa:=@wpAny_call_entry
def Ob:=@List.any_cons
def Oc:=@List.getElem?_replicate
def Oe:=@List.length_eq_zero_iff
def Of:=@wpAny_newObj_type
def Og:=@decide_eq_true_eq
def Oh:=@Bool.eq_iff_iff
def Oi:=@Int.max_eq_left
def Oj:=@Nat.not_lt_zero
def Ol:=@wpAny_loadPart'
def Om:=@Array.length_toList
def On:=@List.map_congr_left
def Oq:=@PyProof.Rows.callWith_type1
def Os:=@Calls.callWith_builtin
def Ot:=@Nat.lt_irrefl
def Ou:=@List.length_drop
def Ov:=@List.getElem_mem
def Ow:=@tupleKind_room_in1
def Ox:=@List.getElem?_eq_none
def Oy:=@PySem.typeIs_bool
def Oz:=@Heap.SameBut.update
def OA:=@List.getElem_of_mem
def OB:=@List.filter_cons
def OC:=@PySem.F.plainAttrs_dict
def OD:=@List.not_mem_nil
def OE:=@Int.eq_ofNat_of_zero_le
def OF:=@Int.max_eq_right
def OG:=@PySem.F.slot_bool_hash
def OH:=@Calls.spliced_cons
def OI:=@List.mem_map
def OJ:=@PySem.F.entry_dict_get
def OK:=@List.getElem?_take
def OL:=@Nat.min_le_left
def OM:=@Nat.min_eq_left
def OO:=@Heap.get?_update_self
def OP:=@wpAny_callSpecialIfBoundUnlessNone?_slot
def OQ:=@Option.isSome_map
def OS:=@List.length_range
def OT:=@if_true
def OU:=@Calls.evalArgs_plain
def OW:=@List.nodup_nil
def OX:=@List.mem_of_mem_drop
def OY:=@wpAny_of_eq
def OZ:=@List.map_map
def O0:=@List.lookup_cons
def O1:=@Nat.add_comm
def O2:=@List.filterMap_cons
def O3:=@List.getElem?_range
def O4:=@List.append_nil
def O5:=@List.nil_append
def O6:=@wpAny_passesOwn
def O7:=@List.mem_singleton
def O8:=@List.getElem?_drop
def O9:=@assignInOrder_cons
def Pa:=@wpAny_load
def Pb:=@wpAny_Call_Name_kw
def Pd:=@call_meets
def Pe:=@Calls.spliced_nil
def Pf:=@List.nodup_append
def Pg:=@Nat.lt_succ_of_lt
def Ph:=@call_meetsIn
def Pi:=@PyProof.Rows.slot_tuple_getitem
def Pj:=@Array.getElem?_toList
def Pk:=@wpAny_notOrdered_dict
def Pl:=@List.mem_of_mem_take
def Pm:=@List.take_append_of_le_length
def Pn:=@List.mem_filter
def Po:=@Int.emod_nonneg
def Pp:=@wpAny_execs_nil
def Pq:=@wpAny_ite_split
def Pr:=@PySem.W.plainGet_of
def Pt:=@Nat.le_of_lt
def Pu:=@Nat.lt_trans
def Pv:=@Calls.Name_function_global
def Pw:=@List.filterMap_map
def Px:=@PySem.W.callWith_K
def Py:=@Int.emod_lt_of_pos
def Pz:=@typeIs_str
def PC:=@List.drop_eq_getElem_cons
def PD:=@Calls.call_function_entry
def PF:=@PySem.W.kitx_list
def PH:=@Nat.le_succ
def PJ:=@List.append_assoc
def PK:=@List.getElem?_set
def PL:=@of_decide_eq_true
def PM:=@wpAny_pyIter_list
def PN:=@wpAny_Call_method
def PQ:=@decide_true
def PR:=@PySem.F.args_tuple_add_2
def PU:=@PySem.SeqAt.Reads.unique
def PV:=@PySem.F.slot_NoneType_eq
def PX:=@wpAny_standAt
def PY:=@PySem.F.entry_tuple_add
def PZ:=@PySem.F.args_dict_get_2
def P0:=@PySem.F.args_dict_get_3
def P1:=@Nat.le_of_not_lt
def P2:=@Array.any_toList
def P3:=@Array.toList_inj
def P4:=@List.all_toArray
def P5:=@List.pairwise_singleton
def P6:=@List.getElem?_cons_succ
def P7:=@wpAny_callSpecial?_slot
def P8:=@eq_of_beq
def P9:=@decide_eq_false_iff_not
def Qa:=@Nat.le_of_eq
def Qb:=@PySem.W.cellsFrom_some
def Qc:=@PySem.F.slot_tuple_add
def Qd:=@Heap.get?_update_other
def Qe:=@Nat.pow_succ
def Qg:=@List.length_eq_one_iff
def Qh:=@wpAny_pyNext_range_end
def Qi:=@wpAny_pyIter_rangeiter
def Qj:=@subscriptTail_builtinR
def Qk:=@codeAny_mono
def Ql:=@List.of_mem_zip
def Qm:=@List.foldl_cons
def Qn:=@wpAny_specialOf
def Qo:=@List.length_filter_le
def Qp:=@PySem.F.slot_dict_pop
def Qq:=@PySem.F.type_dict_get
def Qr:=@PySem.W.methodCall_KW
def Qs:=@List.dropLast_eq_take
def Qt:=@PySem.F.args_int_eq_2
def Qu:=@PySem.F.slot_tuple_eq
def Qv:=@PyProof.Rows.boot_all
def Qw:=@PySem.F.slot_list_pop
def Qx:=@PySem.F.type_list_pop
def Qy:=@codeAny_handlers_test
def Qz:=@List.mem_range
def QA:=@Heap.get?_none_of_le
def QB:=@Heap.size_push
def QC:=@List.getElem?_of_mem
def QD:=@List.drop_zero
def QE:=@PySem.F.slot_dict_eq
def QF:=@PySem.F.slot_bool_eq
def QG:=@PySem.F.entry_int_eq
def QH:=@PySem.F.slot_list_eq
def QI:=@Int.le_refl
def QJ:=@Nat.add_le_add
def QK:=@Nat.pow_le_pow_right
def QL:=@Nat.mul_le_mul
def QM:=@wpAny_field
def QN:=@lookup_relabel_local
def QO:=@or_false
def QP:=@isSubtype_type
def QQ:=@wpAny_bindName
def QR:=@Value.isStrOf_shape
def QS:=@PySem.W.callWith_K0
def QT:=@PySem.W.kdu_collect
def QU:=@PySem.F.slot_int_eq
def QV:=@PySem.F.slot_str_eq
def QW:=@Int.toNat_of_nonneg
def QX:=@wpAny_handleBy_cons
def QY:=@List.set_comm
def QZ:=@List.mem_filterMap
def Q3:=@PySem.Reads.unique
def Q4:=@List.prefix_append
def Q5:=@Nat.add_sub_cancel
def Q6:=@Bool.not_eq_false'
def Q7:=@wpAny_pyIter_range
def Q8:=@wpAny_rule
def Q9:=@Value.isInt_shape
def Ra:=@PySem.W.kitx_dict
def Rb:=@Int.toNat_natCast
def Rc:=@List.map_nil
def Re:=@Nat.zero_add
def Rf:=@Bool.eq_false_iff
def Rg:=@List.find?_append
def Rh:=@List.foldl_append
def Ri:=@wpAny_assign_Name
def Rj:=@assignInOrder_nil
def Rk:=@concat_meets
def Rl:=@wpAny_sequenceKey
def Rm:=@seqIndex_neg
def Rn:=@slot_dict_setitem
def Ro:=@wpAny_pyIter_enum
def Rp:=@Nat.mul_add
def Rq:=@wpAny_Name
def Rr:=@chain_link
def Rt:=@if_false
def Ru:=@typeIs_int
end
namespace L2
open PySem PySem.Spec PyProof.Rows
abbrev aU:=Sum Int Str
def kq:aU->Value->Bool
 | .inl k,v=>Value.isInt k v
 | .inr x,v=>Value.isStrOf x v
def mZ (w:World):aU->Int
 | .inl k=>hashInt k
 | .inr x=>hashStr w x
theorem iP:∀ {k:aU} {v:Value},kq k v=true->(∃ i t,k=Sum.inl i/\v=Value.int i t)\/(∃ x t,k=Sum.inr x/\v=Value.str x t)
 | .inl i,v,h=>by
  obtain ⟨t,e⟩:=Q9 (k:=i) (v:=v) h;exact .inl ⟨i,t,rfl,e⟩
 | .inr x,v,h=>by
  obtain ⟨t,e⟩:=QR (x:=x) (v:=v) h;exact .inr ⟨x,t,rfl,e⟩
theorem Cg (i:Int) (t:Tok):kq (.inl i) (.int i t)=true:=by simp [kq,Value.isInt]
theorem Ci (x:Str) (t:Tok):kq (.inr x) (.str x t)=true:=by simp [kq,Value.isStrOf]
theorem pO (a b:Int):decide ((Sum.inl a:aU)=Sum.inl b)=(a == b):=by
 by_cases e:a=b
 ·subst e;simp
 ·have h : ¬ (Sum.inl a:aU)=Sum.inl b:=λq=>e (Sum.inl.inj q)
  rw [Nl h];exact (beq_eq_false_iff_ne.mpr e).symm
theorem yc (a b:Str):decide ((Sum.inr a:aU)=Sum.inr b)=decide (a=b):=by
 by_cases e:a=b
 ·subst e;simp
 ·have h : ¬ (Sum.inr a:aU)=Sum.inr b:=λq=>e (Sum.inr.inj q)
  rw [Nl h,Nl e]
theorem sG (a:Int) (b:Str):decide ((Sum.inl a:aU)=Sum.inr b)=false:=Nl (λq=>nomatch q)
theorem sH (a:Str) (b:Int):decide ((Sum.inr a:aU)=Sum.inl b)=false:=Nl (λq=>nomatch q)
def fW (prog:Program) (w:World):PySem.KeyKind prog w aU where
 is:=kq
 hash:=mZ w
 inj:=λv a b ha hb=>by
  rcases iP ha with ⟨i,t,rfl,rfl⟩ | ⟨x,t,rfl,rfl⟩
  ·rcases iP hb with ⟨j,u,rfl,e⟩ | ⟨y,u,rfl,e⟩
   ·injection e with e1 _;rw [e1]
   ·exact nomatch e
  ·rcases iP hb with ⟨j,u,rfl,e⟩ | ⟨y,u,rfl,e⟩
   ·exact nomatch e
   ·injection e with e1 _;rw [e1]
 byValue:=λk v h=>by
  rcases iP h with ⟨i,t,rfl,rfl⟩ | ⟨x,t,rfl,rfl⟩<;>rfl
 pyHash:=λhv h=>by
  rcases iP hv with ⟨i,t,rfl,rfl⟩ | ⟨x,t,rfl,rfl⟩
  ·exact wpAny_pyHash_int h
  ·exact wpAny_pyHash_str h
 eqBool:=λhu hv h=>by
  rcases iP hu with ⟨i,t,rfl,rfl⟩ | ⟨x,t,rfl,rfl⟩
  ·rcases iP hv with ⟨j,u,rfl,rfl⟩ | ⟨y,u,rfl,rfl⟩
   ·rw [pO] at h;exact wpAny_eqBool_int h
   ·rw [sG] at h;exact SeqAt.EqAt.int_str i t y u _ _ _ _ h
  ·rcases iP hv with ⟨j,u,rfl,rfl⟩ | ⟨y,u,rfl,rfl⟩
   ·rw [sH] at h;exact SeqAt.EqAt.str_int x t j u _ _ _ _ h
   ·rw [yc] at h;exact wpAny_eqBool_str h
 «strs» := λk x t v h=>by
  rcases iP h with ⟨i,u,rfl,e⟩ | ⟨y,u,rfl,e⟩
  ·exact nomatch e
  ·injection e with e1 _
   subst e1
   cases v<;>rfl
abbrev kr (b:Bool):Int:=if b then 1 else 0
def ku:aU->Value->Bool
 | .inl k,.bool b=>decide (k=kr b)
 | .inl k,v=>Value.isInt k v
 | .inr x,v=>Value.isStrOf x v
theorem iu:∀ {k:aU} {v:Value},ku k v=true->(∃ i t,k=Sum.inl i/\v=Value.int i t)\/(∃ b,k=Sum.inl (kr b)/\v=Value.bool b)\/(∃ x t,k=Sum.inr x/\v=Value.str x t)
 | .inl i,v,h=>by
  cases v with
  | bool b=>exact .inr (.inl ⟨b,by rw [PL (show decide (i=kr b)=true from h)],rfl⟩)
  | int j t =>
   obtain ⟨t,e⟩:=Q9 (k:=i) (v:=.int j t) h;exact .inl ⟨i,t,rfl,e⟩
  | _=>exact absurd h (by simp [ku,Value.isInt])
 | .inr x,v,h=>by
  obtain ⟨t,e⟩:=QR (x:=x) (v:=v) h;exact .inr (.inr ⟨x,t,rfl,e⟩)
theorem Cj {prog:Program} {w:World} {A:Around} {E:Value->Shared->Prop} {s:Shared} {b:Bool} {Q:Int->Shared->Prop} (h:Q (hashInt (kr b)) { s with toks:=s.toks+1 }) :
  wpAny (model prog w) A (pyHash (.bool b)) Q E s:=by
 unfold pyHash;unfold pyHashByItsType;have hv:[Value.bool b].any Value.onHeap=false:=rfl;refine MR ?_
 rw [cRoomFor,MX (by rw [hv];exact Ni)];refine MZ ?_
 refine MR (Qn (Oy s b) PySem.F.slot_bool_hash.lookup ?_)
 show wpAny _ _ (if (some (Value.builtin "int.__hash__") == some Value.none)=true then _ else _) Q E s
 rw [MX (by rw [beq_builtin_none];exact Ni)];refine MR (Qn (Oy s b) PySem.F.slot_bool_hash.lookup ?_)
 show wpAny _ _ (callSpecialIfBoundUnlessNone? (.bool b) "__hash__" _ >>= _) Q E s
 cases b with
 | false =>
  refine MR (OP (Oy s false) OG
   (Oa OG (Oy s false) entry_int_hash
    (show wpAny _ _ (do ret (<- mkInt 0)) _ _ s from wpAny_ret_mkInt ?_) (args_int_hash _)))
  exact MZ h
 | true =>
  refine MR (OP (Oy s true) OG
   (Oa OG (Oy s true) entry_int_hash
    (show wpAny _ _ (do ret (<- mkInt 1)) _ _ s from wpAny_ret_mkInt ?_) (args_int_hash _)))
  exact MZ h
theorem Ck (a b:Bool):(a == b)=decide ((Sum.inl (kr a):aU)=Sum.inl (kr b)):=by cases a<;>cases b<;>decide
def iw (prog:Program) (w:World):PySem.KeyKind prog w aU where
 is:=ku
 hash:=mZ w
 inj:=λv a b ha hb=>by
  rcases iu ha with ⟨i,t,rfl,rfl⟩ | ⟨c,rfl,rfl⟩ | ⟨x,t,rfl,rfl⟩
  ·rcases iu hb with ⟨j,u,rfl,e⟩ | ⟨d,rfl,e⟩ | ⟨y,u,rfl,e⟩
   ·injection e with e1 _;rw [e1]
   ·exact nomatch e
   ·exact nomatch e
  ·rcases iu hb with ⟨j,u,rfl,e⟩ | ⟨d,rfl,e⟩ | ⟨y,u,rfl,e⟩
   ·exact nomatch e
   ·injection e with e1;rw [e1]
   ·exact nomatch e
  ·rcases iu hb with ⟨j,u,rfl,e⟩ | ⟨d,rfl,e⟩ | ⟨y,u,rfl,e⟩
   ·exact nomatch e
   ·exact nomatch e
   ·injection e with e1 _;rw [e1]
 byValue:=λk v h=>by
  rcases iu h with ⟨i,t,rfl,rfl⟩ | ⟨c,rfl,rfl⟩ | ⟨x,t,rfl,rfl⟩<;>rfl
 pyHash:=λhv h=>by
  rcases iu hv with ⟨i,t,rfl,rfl⟩ | ⟨c,rfl,rfl⟩ | ⟨x,t,rfl,rfl⟩
  ·exact wpAny_pyHash_int h
  ·exact Cj h
  ·exact wpAny_pyHash_str h
 eqBool:=λhu hv h=>by
  rcases iu hu with ⟨i,t,rfl,rfl⟩ | ⟨c,rfl,rfl⟩ | ⟨x,t,rfl,rfl⟩
  ·rcases iu hv with ⟨j,u,rfl,rfl⟩ | ⟨d,rfl,rfl⟩ | ⟨y,u,rfl,rfl⟩
   ·rw [pO] at h;exact wpAny_eqBool_int h
   ·rw [pO] at h;exact SeqAt.EqAt.int_bool i t d _ _ _ _ h
   ·rw [sG] at h;exact SeqAt.EqAt.int_str i t y u _ _ _ _ h
  ·rcases iu hv with ⟨j,u,rfl,rfl⟩ | ⟨d,rfl,rfl⟩ | ⟨y,u,rfl,rfl⟩
   ·rw [pO] at h;exact SeqAt.EqAt.bool_int c j u _ _ _ _ h
   ·rw [<- Ck] at h;exact SeqAt.EqAt.bool_bool c d _ _ _ _ h
   ·rw [sG] at h;exact SeqAt.EqAt.bool_str c y u _ _ _ _ h
  ·rcases iu hv with ⟨j,u,rfl,rfl⟩ | ⟨d,rfl,rfl⟩ | ⟨y,u,rfl,rfl⟩
   ·rw [sH] at h;exact SeqAt.EqAt.str_int x t j u _ _ _ _ h
   ·rw [sH] at h;exact SeqAt.EqAt.str_bool x t d _ _ _ _ h
   ·rw [yc] at h;exact wpAny_eqBool_str h
 «strs» := λk x t v h=>by
  rcases iu h with ⟨i,u,rfl,e⟩ | ⟨d,rfl,e⟩ | ⟨y,u,rfl,e⟩
  ·exact nomatch e
  ·exact nomatch e
  ·injection e with e1 _
   subst e1
   cases v<;>rfl
theorem Cm (prog:Program) (w:World) (i:Int) (t:Tok):(iw prog w).is (.inl i) (.int i t)=true:=by show ku (.inl i) (.int i t)=true;simp [ku,Value.isInt]
theorem Cn (prog:Program) (w:World) (x:Str) (t:Tok):(iw prog w).is (.inr x) (.str x t)=true:=by show ku (.inr x) (.str x t)=true;simp [ku,Value.isStrOf]
theorem Co (prog:Program) (w:World) (k:aU) (v:Value):(fW prog w).is k v=kq k v:=rfl
theorem Cp (prog:Program) (w:World) (i:Int) (t:Tok):(fW prog w).is (.inl i) (.int i t)=true:=Cg i t
theorem Cq (prog:Program) (w:World) (x:Str) (t:Tok):(fW prog w).is (.inr x) (.str x t)=true:=Ci x t
inductive V where
 | non | bl (b:Bool) | int (i:Int) | str (x:Str) | byt (b:Array UInt8) | flt (b:UInt64) | ref (a:Addr) | ty (n:String)
 deriving DecidableEq
def RelV:V->Value->Prop
 | .non,u=>u=Value.none
 | .bl b,u=>u=Value.bool b
 | .int i,u=>∃ t,u=Value.int i t
 | .str x,u=>∃ t,u=Value.str x t
 | .byt b,u=>∃ t,u=Value.bytes b t
 | .flt b,u=>∃ t,u=Value.float b t
 | .ref a,u=>u=Value.ref a
 | .ty n,u=>u=Value.type n
abbrev Vals:List V->List Value->Prop:=Paired RelV
theorem Vals.length {xs:List V} {us:List Value} (r:Vals xs us):xs.length=us.length:=Paired.length r
theorem Vals.get:∀ {xs:List V} {us:List Value} {i:Nat} {x:V},Vals xs us->xs[i]? = some x->∃ u,us[i]? = some u/\RelV x u
 | _,_,_,_,.nil,e=>by simp at e
 | _,_,0,_,.cons r _,e=>by simp at e;subst e;exact ⟨_,rfl,r⟩
 | _,_,i+1,x,.cons _ t,e=>by
  obtain ⟨u,h1,h2⟩:=Vals.get (i:=i) (x:=x) t (by simpa using e);exact ⟨u,by simpa using h1,h2⟩
theorem Vals.set {x:V} {u:Value} (r:RelV x u):∀ {xs:List V} {us:List Value} (i:Nat),Vals xs us->Vals (xs.set i x) (us.set i u)
 | _,_,_,.nil=>.nil
 | _,_,0,.cons _ t=>.cons r t
 | _,_,i+1,.cons q t=>.cons q (Vals.set r i t)
theorem Vals.append:∀ {xs ys:List V} {us ws:List Value},Vals xs us->Vals ys ws->Vals (xs++ys) (us++ws)
 | _,_,_,_,.nil,s=>s
 | _,_,_,_,.cons r t,s=>.cons r (Vals.append t s)
theorem Vals.take:∀ {xs:List V} {us:List Value} (n:Nat),Vals xs us->Vals (xs.take n) (us.take n)
 | _,_,0,_=>.nil
 | _,_,_+1,.nil=>.nil
 | _,_,n+1,.cons r t=>.cons r (Vals.take n t)
theorem Vals.drop:∀ {xs:List V} {us:List Value} (n:Nat),Vals xs us->Vals (xs.drop n) (us.drop n)
 | _,_,0,r=>r
 | _,_,_+1,.nil=>.nil
 | _,_,n+1,.cons _ t=>Vals.drop n t
def RelO:Option V->Option Value->Prop
 | some v,some u=>RelV v u
 | none,none=>True
 | _,_=>False
def KV {κ:Type}:List (κ×V)->List (κ×Value)->Prop:=Paired λ(p:κ×V) (q:κ×Value)=>p.1=q.1/\RelV p.2 q.2
def kV:aU->V
 | .inl i=>.int i
 | .inr x=>.str x
def lQ:V->Option aU
 | .int i=>some (.inl i)
 | .bl b=>some (.inl (kr b))
 | .str x=>some (.inr x)
 | _=>none
theorem Cr (k:aU):lQ (kV k)=some k:=by cases k<;>rfl
inductive HO where
 | lst (xs:List V)
 | tup (xs:List V)
 | dK (kvs:List (aU×V)) | dT (xc:Option (List Addr)) (kvs:List (List aU×V))
 | set (S:Int->Bool) (n:Nat)
 | ins (C dx:Addr) (fs:List (Str×V))
 | own (x:Addr)
 | xd (fs:List (Str×V))
 | met (f x:Addr)
 | rng (lo hi:Int)
 | frz (o:Obj) (u:HO)
 | tbl (ps:Array Value)
 | ext (φ:Heap->Prop)
abbrev Hp:=Addr->Option HO
def upd (H:Hp) (a:Addr) (o:HO):Hp:=λb=>if b=a then some o else H b
theorem d7 {H:Hp} {a:Addr} {o:HO}:upd H a o a=some o:=by unfold upd;rw [MW rfl]
theorem bK {H:Hp} {a b:Addr} {o:HO} (h:b≠a):upd H a o b=H b:=by unfold upd;rw [MX h]
theorem Cs {H:Hp} {a b:Addr} {o u:HO} (h:H a=some o) (h':H b=some u) (d:o≠u):a≠b:=by
 intro e;subst e;rw [h] at h';exact d (Nx h')
theorem fX {H:Hp} {a b:Addr} {o:HO} (h:H a=some o) (h':H b=none):a≠b:=by
 intro e;subst e;rw [h] at h';cases h'
section
variable (P:Program) (w:World)
def ObjOk (H:Hp) (h:Heap) (a:Addr):HO->Prop
 | .lst xs=>xs.length<=sizeLine/\∃ (its:List Value) (n:Nat),Vals xs its/\h.get? a=some { cls:=.type "list",data:=.seq its.toArray n }
 | .tup xs=>xs.length<=sizeLine/\∃ its:List Value,Vals xs its/\IsTup h a its.toArray
 | .dK kvs=>kvs.length<=sizeLine/\(a == sysModules)=false/\∃ vs,KV kvs vs/\h.DictOf (fW P w) a vs
 | .dT xc kvs=>kvs.length<=sizeLine/\(a == sysModules)=false/\∃ xs:List (List aU×Addr×Value),
   Paired (λ(p:List aU×V) (q:List aU×Addr×Value)=>p.1=q.1/\(∃ ys,H q.2.1=some (.tup ys)/\ys.map lQ=p.1.map some)/\RelV p.2 q.2.2) kvs xs /\
   ∃ o es ep,h.get? a=some o/\o.ExactDict/\o.data = .dict es ep/\es.toList=xs.map (entryOfKey (tupleKind (iw P w)))/\(xs.map (·.1)).Nodup/\ep=xs.length/\∀ as,xc=some as->xs.map (·.2.1)=as
 | .set S n=>h.SetOf (intKind P w) a S n
 | .ins C dx fs=>H dx=some (.own a)/\fs.length<=1000/\dx≠a/\h.get? a=some (PySem.W.instObj C dx) /\
   ∃ mA,h.Ns1 dx mA/\(∀ f,RelO (fs.lookup f) (mA f))/\PySem.Within mA (fs.map (·.1))
 | .own _=>∃ o,h.get? a=some o
 | .xd fs=>∃ mA,h.Ns1 a mA/\∀ f,RelO (fs.lookup f) (mA f)
 | .rng lo hi=>∃ t u v,h.get? a=some { cls:=.type "range",data:=.fields #[.int lo t,.int hi u,.int 1 v] }
 | .frz o u=>h.get? a=some o/\ObjOk H h a u
 | .tbl ps=>h.get? a=some { cls:=.none,data:=.fields ps }
 | .met f x=>h.get? a=some (PySem.W.methodObj (.ref f) (.ref x))
 | .ext φ=>φ h/\(∃ o,h.get? a=some o)/\∀ h1 h2:Heap,φ h1->(∀ o,h1.get? a=some o->h2.get? a=some o)->φ h2
def HOk (H:Hp) (h:Heap):Prop:=∀ a o,H a=some o->ObjOk P w H h a o
end
section
variable {P:Program} {w:World} {H H':Hp} {h h':Heap} {a:Addr} {o:HO}
theorem ObjOk.lt (x:ObjOk P w H h a o):a<h.objs.size:=by
 cases o with
 | lst xs=>obtain ⟨_,_,_,_,e⟩:=x;exact M4 e
 | tup xs=>obtain ⟨_,_,_,p⟩:=x;exact p.lt
 | dK kvs=>obtain ⟨_,_,_,_,o,_,_,e,_⟩:=x;exact M4 e
 | dT xc kvs=>obtain ⟨_,_,_,_,o,_,_,e,_⟩:=x;exact M4 e
 | set S n=>obtain ⟨o,_,_,_,e,_⟩:=x;exact M4 e
 | ins C dx fs=>obtain ⟨_,_,_,e,_⟩:=x;exact M4 e
 | own y=>obtain ⟨_,e⟩:=x;exact M4 e
 | xd fs=>obtain ⟨_,⟨_,_,_,e,_⟩,_⟩:=x;exact M4 e
 | rng lo hi=>obtain ⟨_,_,_,e⟩:=x;exact M4 e
 | frz ob u=>obtain ⟨e,_⟩:=x;exact M4 e
 | tbl ps=>exact M4 (show h.get? a=some _ from x)
 | met f y=>exact M4 (show h.get? a=some _ from x)
 | ext φ=>obtain ⟨_,⟨_,e⟩,_⟩:=x;exact M4 e
theorem Paired.mapP {α β:Type} {F G:α->β->Prop}:∀ {l₁:List α} {l₂:List β},Paired F l₁ l₂->(∀ a b,F a b->G a b)->Paired G l₁ l₂
 | _,_,.nil,_=>.nil
 | _,_,.cons r t,f=>.cons (f _ _ r) (Paired.mapP t f)
theorem ObjOk.stay (x:ObjOk P w H h a o) (k:∀ b u,(b=a\/H b=some (.own a))->h.get? b=some u->h'.get? b=some u)
  (ho:∀ b,H b=some (.own a)->H' b=some (.own a)) (ht:∀ b xs,H b=some (.tup xs)->H' b=some (.tup xs)):ObjOk P w H' h' a o:=by
 induction o with
 | lst xs=>obtain ⟨z,its,n,r,e⟩:=x;exact ⟨z,its,n,r,k _ _ (.inl rfl) e⟩
 | tup xs=>obtain ⟨z,its,r,ob,e,c⟩:=x;exact ⟨z,its,r,ob,k _ _ (.inl rfl) e,c⟩
 | dK kvs=>obtain ⟨z,y,vs,r,ob,es,ep,e,c⟩:=x;exact ⟨z,y,vs,r,ob,es,ep,k _ _ (.inl rfl) e,c⟩
 | dT xc kvs =>
  obtain ⟨z,y,xs,r,ob,es,ep,e,c⟩:=x;exact ⟨z,y,xs,Paired.mapP r λp q z=>⟨z.1,z.2.1.imp λ_ e=>⟨ht _ _ e.1,e.2⟩,z.2.2⟩,ob,es,ep,k _ _ (.inl rfl) e,c⟩
 | set S n=>obtain ⟨ob,es,ep,t,e,c⟩:=x;exact ⟨ob,es,ep,t,k _ _ (.inl rfl) e,c⟩
 | ins C dx fs =>
  obtain ⟨d,z,ne,e,mA,⟨od,es,ep,e2,c⟩,r⟩:=x;exact ⟨ho _ d,z,ne,k _ _ (.inl rfl) e,mA,⟨od,es,ep,k _ _ (.inr d) e2,c⟩,r⟩
 | own y=>obtain ⟨ob,e⟩:=x;exact ⟨ob,k _ _ (.inl rfl) e⟩
 | xd fs=>obtain ⟨mA,⟨od,es,ep,e,c⟩,r⟩:=x;exact ⟨mA,⟨od,es,ep,k _ _ (.inl rfl) e,c⟩,r⟩
 | rng lo hi=>obtain ⟨t,u,v,e⟩:=x;exact ⟨t,u,v,k _ _ (.inl rfl) e⟩
 | frz ob u ih=>obtain ⟨e,q⟩:=x;exact ⟨k _ _ (.inl rfl) e,ih q⟩
 | tbl ps =>
  have e:h.get? a=some { cls:=.none,data:=.fields ps }:=x;show h'.get? a=some { cls:=.none,data:=.fields ps }
  exact k a _ (.inl rfl) e
 | met f y =>
  have e:h.get? a=some (PySem.W.methodObj (.ref f) (.ref y)):=x;show h'.get? a=some (PySem.W.methodObj (.ref f) (.ref y))
  exact k a _ (.inl rfl) e
 | ext φ=>obtain ⟨p,⟨o,e⟩,st⟩:=x;exact ⟨st _ _ p λo q=>k _ _ (.inl rfl) q,⟨o,k _ _ (.inl rfl) e⟩,st⟩
theorem HOk.lt (x:HOk P w H h) (e:H a=some o):a<h.objs.size:=(x a o e).lt
theorem HOk.fresh (x:HOk P w H h) (e:h.objs.size<=a):H a=none:=by
 cases q:H a with
 | none=>rfl
 | some u=>exact absurd (Nf (x.lt q) e) (Ot _)
theorem HOk.kept (x:HOk P w H h) (k:∀ b u,h.get? b=some u->h'.get? b=some u):HOk P w H h' := λa o e =>
 (x a o e).stay (λb u _ q=>k b u q) (λ_ q=>q) λ_ _ q=>q
theorem HOk.laid (x:HOk P w H h) (k:∀ b u,h.get? b=some u->h'.get? b=some u) (hp:h.objs.size<=a) (new:ObjOk P w (upd H a o) h' a o):HOk P w (upd H a o) h' := λb u e=>by
 have hn:=x.fresh hp;by_cases hb:b=a
 ·subst hb;rw [d7] at e;cases e;exact new
 ·rw [bK hb] at e
  exact (x b u e).stay (λc v _ q=>k c v q) (λc q=>by rw [bK (fX q hn)];exact q) λc xs q=>by rw [bK (fX q hn)];exact q
end
def Rd (H:Hp) (a:Addr) (u:HO):Prop:=H a=some u\/∃ o,H a=some (.frz o u)
theorem Rd.of {H:Hp} {a:Addr} {u:HO} (h:H a=some u):Rd H a u:=.inl h
theorem Rd.ok {P:Program} {w:World} {H:Hp} {h:Heap} {a:Addr} {u:HO} (r:Rd H a u) (x:HOk P w H h):ObjOk P w H h a u:=by
 rcases r with r | ⟨o,r⟩
 ·exact x a u r
 ·obtain ⟨_,q⟩:=x a _ r
  exact q
def m7:Option HO->Prop
 | some (.lst _)=>True
 | some (.dK _)=>True
 | some (.dT _ _)=>True
 | some (.set _ _)=>True
 | some (.ins _ _ _)=>True
 | some (.ext _)=>True
 | _=>False
section
variable {P:Program} {w:World} {H:Hp} {h h':Heap} {x e:Addr} {o':HO}
theorem HOk.write (ok:HOk P w H h) (mu:m7 (H x)) (he:e=x\/H e=some (.own x)) (k:∀ b u,b≠e->h.get? b=some u->h'.get? b=some u) (heo:∃ u,h'.get? e=some u)
  (new:ObjOk P w (upd H x o') h' x o'):HOk P w (upd H x o') h' := λb u q=>by
 have nown:∀ c y,H c=some (.own y)->c≠x:=λc y r z=>by subst z;rw [r] at mu;exact mu
 have ntup:∀ c xs,H c=some (.tup xs)->c≠x:=λc xs r z=>by subst z;rw [r] at mu;exact mu
 by_cases hb:b=x
 ·subst hb;rw [d7] at q;cases q;exact new
 ·rw [bK hb] at q
  by_cases hbe:b=e
  ·have q':H b=some (.own x):=by
    rcases he with z | z
    ·exact absurd (hbe.trans z) hb
    ·rw [hbe];exact z
   rw [q] at q';cases q'
   obtain ⟨v,hv⟩:=heo;exact ⟨v,by rw [hbe];exact hv⟩
  ·refine (ok b u q).stay (λc v hc r=>k c v ?_ r) (λc r=>by rw [bK (nown c b r)];exact r) λc xs r=>by rw [bK (ntup c xs r)];exact r
   rcases hc with rfl | hc
   ·exact hbe
   ·rintro rfl
    rcases he with z | z
    ·exact nown c b hc z
    ·rw [hc] at z;cases z;exact hb rfl
end
structure Un (fs ex:List Addr) (H H':Hp) (h h':Heap):Prop where
 keep:∀ b o,h.get? b=some o->H b=none->b∉fs->b∉ex->h'.get? b=some o
 slot:∀ b o,h.get? b=some o->H b=none->b∈fs->b∉ex->∃ sl,h'.get? b=some { o with slots:=sl }
 free:∀ b o,h.get? b=some o->H b=none->b∉ex->H' b=none
 there:∀ b o,h.get? b=some o->b∉ex->∃ o',h'.get? b=some o'
 tups:∀ b xs,H b=some (.tup xs)->H' b=some (.tup xs)
 frzs:∀ b o u,H b=some (.frz o u)->H' b=some (.frz o u)
 tbls:∀ b ps,H b=some (.tbl ps)->∃ more,H' b=some (.tbl (ps++more))
section
variable {fs fs' ex ex':List Addr} {H H1 H2:Hp} {h h1 h2 h':Heap} {a x e:Addr} {o:HO}
theorem Un.any (u:Un fs ex H H1 h h1) {b:Addr} {ob:Obj} (q:h.get? b=some ob) (n:H b=none) (hx:b∉ex):∃ sl,h1.get? b=some { ob with slots:=sl }:=by
 by_cases hb:b∈fs
 ·exact u.slot b ob q n hb hx
 ·exact ⟨ob.slots,u.keep b ob q n hb hx⟩
theorem Un.kept (k:∀ b u,h.get? b=some u->h'.get? b=some u):Un fs ex H H h h' :=
 ⟨λb ob q _ _ _=>k b ob q,λb ob q _ _ _=>⟨ob.slots,k b ob q⟩,λ_ _ _ n _=>n,λb ob q _=>⟨ob,k b ob q⟩,λ_ _ q=>q,λ_ _ _ q=>q,λ_ ps q=>⟨#[],by rw [q];simp⟩⟩
theorem Un.refl:Un fs ex H H h h:=Un.kept λ_ _ q=>q
theorem Un.laid (k:∀ b u,h.get? b=some u->h'.get? b=some u) (hp:h.objs.size<=a) (hn:H a=none):Un fs ex H (upd H a o) h h' where
 keep:=λb u q _ _ _=>k b u q
 slot:=λb u q _ _ _=>⟨u.slots,k b u q⟩
 free:=λb u q n _=>by rw [bK (Nt (Nf (M4 q) hp))];exact n
 there:=λb u q _=>⟨u,k b u q⟩
 tups:=λb xs q=>by rw [bK (fX q hn)];exact q
 frzs:=λb u xs q=>by rw [bK (fX q hn)];exact q
 tbls:=λb ps q=>⟨#[],by rw [bK (fX q hn),q];simp⟩
theorem Un.write (mu:m7 (H x)) (he:e=x\/H e=some (.own x)) (k:∀ b u,b≠e->h.get? b=some u->h'.get? b=some u) (heo:∃ u,h'.get? e=some u):Un fs ex H (upd H x o) h h' := by
 have hx:∀ b,H b=none->b≠x:=λb n z=>by subst z;rw [n] at mu;exact mu
 have hb:∀ b,H b=none->b≠e:=λb n z=>by
  subst z;rcases he with r | r
  ·exact hx b n r
  ·rw [n] at r;cases r
 have hm:∀ b u,H b=some u -> ¬ m7 (some u)->b≠x:=λb u q nm z=>by subst z;rw [q] at mu;exact nm mu
 refine ⟨λb u q n _ _=>k b u (hb b n) q,λb u q n _ _=>⟨u.slots,k b u (hb b n) q⟩,λb u q n _=>by rw [bK (hx b n)];exact n,λb u q _=>?_,
  λb xs q=>by rw [bK (hm b _ q λz=>z)];exact q,λb u xs q=>by rw [bK (hm b _ q λz=>z)];exact q,λb ps q=>⟨#[],by rw [bK (hm b _ q λz=>z),q];simp⟩⟩
 by_cases hbe:b=e
 ·subst hbe;exact heo
 ·exact ⟨u,k b u hbe q⟩
end
def pP (h:Heap) (H:Hp):List Addr:=(List.range h.objs.size).filter λa=>(H a).isSome
def eQ (h:Heap) (H:Hp):Heap:=PySem.W.hideAll h (pP h H)
theorem Ct (h:Heap) (H:Hp):(eQ h H).objs.size=h.objs.size:=PySem.W.hideAll_size _ _
theorem Cu {h:Heap} {H:Hp} {b:Addr} {o:Obj} (e:h.get? b=some o) (n:H b=none):(eQ h H).get? b=some o :=
 PySem.W.hideAll_get _ e λhm=>by
  have q:(H b).isSome=true:=(Pn.mp hm).2;rw [n] at q;simp at q
theorem Cv {h:Heap} {H:Hp} {b:Addr} {o:Obj} (e:(eQ h H).get? b=some o):h.get? b=some o/\H b=none:=by
 have e':h.get? b=some o:=PySem.W.of_hideAll (pP h H) e;refine ⟨e',?_⟩
 cases q:H b with
 | none=>rfl
 | some x =>
  have hm:b∈pP h H:=Pn.mpr ⟨Qz.mpr (M4 e'),by simp [q]⟩;have z:(eQ h H).get? b=none:=PySem.W.hideAll_none (pP h H) hm;rw [z] at e;cases e
structure Mod (K:PySem.W.Frag) (mg:Str->Option Value) (base:Heap):Prop where
 kin:K.In base
 glob:base.Ns mainGlobals mg
 blt:∃ mb,base.Ns builtinsNs mb/\∀ x:Str,x ≠ "__name__" -> mb x=bootBuiltins x
 nolimit:base.NoLimit
structure Cx where
 prog:Program
 w:World
 K:PySem.W.Frag
 mg:Str->Option Value
 base:Heap
 A:Around
 N:List Str
 s₀:Shared
 H₀:Hp
 env:Env
 outer:List Env
 stack:List Env
 ex:List Addr
 fn:Str->Bool
 calm:Bool
 pn:List (Addr×Obj)
 xe:Value->Shared->Prop
def eU (l:List Env):List Addr:=l.filterMap (·.frame)
abbrev Cx.fs (X:Cx):List Addr:=eU X.outer
def m8 (sc:Scope) (x:Str):Prop:=sc.names.lookup x=some .local\/sc.names.lookup x=some .cell\/sc.names.lookup x=some .free
def kz (sc:Scope) (x:Str):Prop:=sc.names.lookup x=some .local\/sc.names.lookup x=some .cell
def sI (env:Env) (h:Heap) (m:Str->Option Value) (x:Str) (u:Value):Prop :=
 (env.kindOf x=some .local/\m x=some u)\/((env.kindOf x=some .cell\/env.kindOf x=some .free)/\∃ c,env.cells.lookup x=some c/\h.IsCell c (some u))
structure Cx.Ok (X:Cx):Prop where
 mod:Mod X.K X.mg X.base
 kind:X.env.scope.kind = .function
 glob:X.env.globals=mainGlobals
 blt:X.env.builtins=builtinsNs
 above:X.s₀.heap.objs.size<=X.env.locals
 inj:∀ x y c,X.env.cells.lookup x=some c->X.env.cells.lookup y=some c->x=y
 has:∀ x,(X.env.kindOf x=some .cell\/X.env.kindOf x=some .free)->∃ c,X.env.cells.lookup x=some c
 cab:∀ x c,X.fn x=true->X.env.cells.lookup x=some c->X.s₀.heap.objs.size<=c
 hd:X.calm=true->X.A.handled=none
 frames:X.A.frames=some X.stack
 stk:X.stack=X.outer\/(X.stack=X.env::X.outer/\X.env.frame=some X.env.locals)
 exf:∀ b∈X.ex,b≠X.env.locals/\∀ x c,X.env.cells.lookup x=some c->c≠b
 bs:∀ b o,X.base.get? b=some o->X.s₀.heap.get? b=some o/\X.H₀ b=none
 bsz:X.base.objs.size<=X.s₀.heap.objs.size
 noex:∀ b o,X.base.get? b=some o->b∉X.ex
 exfs:∀ b∈X.ex,b∉X.fs
 funs:X.s₀.heap.FunFrames X.base X.outer
 frf:∀ b∈X.fs,X.H₀ b=none
structure Inv (X:Cx) (pins:List (Addr×Obj)) (σ:List (Option V)) (H:Hp) (s:Shared):Prop where
 ok:X.Ok
 os:s.os=X.s₀.os
 bare:AllBare s.gens
 base:Un X.fs X.ex X.H₀ H X.s₀.heap s.heap
 loc:∃ m,s.heap.Ns X.env.locals m/\∀ (i:Nat) (x:Str) (v:V),X.N[i]? = some x->σ[i]? = some (some v)->m8 X.env.scope x->∃ u,RelV v u/\sI X.env s.heap m x u
 cell:∀ x c,X.env.cells.lookup x=some c->∃ v,s.heap.IsCell c v
 free:H X.env.locals=none
 freeC:∀ x c,X.env.cells.lookup x=some c->H c=none
 pin:∀ p∈X.pn++pins,s.heap.get? p.1=some p.2/\H p.1=none/\p.1≠X.env.locals/\p.1∉X.fs/\∀ v,p.2.data ≠ .cell v
 hok:HOk X.prog X.w H s.heap
 len:σ.length=X.N.length
section
variable {X:Cx} {pins:List (Addr×Obj)} {σ:List (Option V)} {H H':Hp} {s:Shared} {h':Heap}
theorem Cx.Ok.nofr (ok:X.Ok) {b:Addr} {o:Obj} (e:X.base.get? b=some o):b∉X.fs:=λhb=>by
 have:=(ok.funs.mem hb).1;rw [e] at this;cases this
theorem Inv.bs (I:Inv X pins σ H s):∀ b o,X.base.get? b=some o->s.heap.get? b=some o/\H b=none:=λb o e =>
 ⟨I.base.keep b o (I.ok.bs b o e).1 (I.ok.bs b o e).2 (I.ok.nofr e) (I.ok.noex b o e),I.base.free b o (I.ok.bs b o e).1 (I.ok.bs b o e).2 (I.ok.noex b o e)⟩
theorem Inv.bk (I:Inv X pins σ H s):∀ b o,X.base.get? b=some o->s.heap.get? b=some o:=λb o e=>(I.bs b o e).1
theorem Inv.mod (I:Inv X pins σ H s):Mod X.K X.mg X.base:=I.ok.mod
theorem Inv.kIn (I:Inv X pins σ H s):X.K.In s.heap:=I.ok.mod.kin.keeps I.bk
theorem Inv.fr (I:Inv X pins σ H s):∃ m,Fr X.base X.env.locals s.heap m :=
 let ⟨m,hn,_⟩:=I.loc
 ⟨m,hn,I.bk,MV I.ok.bsz I.ok.above⟩
theorem Inv.lt (I:Inv X pins σ H s):X.env.locals<s.heap.objs.size:=let ⟨_,hn,_⟩:=I.loc;hn.lt
theorem Inv.sz (I:Inv X pins σ H s):X.s₀.heap.objs.size<=s.heap.objs.size:=MV I.ok.above (Pt I.lt)
theorem Inv.nofs (I:Inv X pins σ H s) {a:Addr} (h:s.heap.objs.size<=a):a∉X.fs:=λhb=>by
 obtain ⟨_,o,ho,_⟩:=I.ok.funs.mem hb;exact absurd (Nf (M4 ho) (MV I.sz h)) (Ot _)
theorem Inv.cne (I:Inv X pins σ H s):∀ x c,X.env.cells.lookup x=some c->c≠X.env.locals:=λx c e z=>by
 obtain ⟨v,o,ho,hd⟩:=I.cell x c e;obtain ⟨m,⟨o',es,ep,ho',hd',_⟩,_⟩:=I.loc;rw [z,ho'] at ho;cases ho;rw [hd'] at hd;cases hd
theorem Inv.funs (I:Inv X pins σ H s):s.heap.FunFrames X.base X.outer:=by
 have all:∀ (l:List Env),(∀ b∈eU l,b∈X.fs)->X.s₀.heap.FunFrames X.base l->s.heap.FunFrames X.base l:=by
  intro l;induction l with
  | nil=>intro _ _;trivial
  | cons env r ih =>
   intro hs hl;obtain ⟨hk,⟨L,o,hf,hn,ho,hd⟩,hr⟩:=hl;have hL:L∈X.fs:=hs L (by unfold eU;rw [O2,hf];exact NJ)
   obtain ⟨sl,e⟩:=I.base.slot L o ho (I.ok.frf L hL) hL λz=>I.ok.exfs L z hL
   exact ⟨hk,⟨L,_,hf,hn,e,hd⟩,ih (λb hb=>hs b (by unfold eU;rw [O2,hf];exact Nv _ hb)) hr⟩
 exact all X.outer (λ_ hb=>hb) I.ok.funs
theorem Inv.stack (I:Inv X pins σ H s):s.heap.FunFrames X.base X.stack:=by
 rcases I.ok.stk with e | ⟨e,hf⟩
 ·rw [e];exact I.funs
 ·rw [e]
  obtain ⟨m,hn,_⟩:=I.loc;refine .cons (by rw [I.ok.kind];decide) hf hn ?_ I.funs
  exact QA (MV I.ok.bsz I.ok.above)
theorem Inv.stkSub (I:Inv X pins σ H s):∀ b∈eU X.stack,b∈X.env.locals::X.fs:=λb hb=>by
 rcases I.ok.stk with e | ⟨e,hf⟩
 ·rw [e] at hb;exact Nv _ hb
 ·rw [e] at hb
  unfold eU at hb;rw [O2,hf] at hb;exact hb
theorem Inv.stkFree (I:Inv X pins σ H s):∀ b∈eU X.stack,H b=none:=λb hb=>by
 rcases Nd.mp (I.stkSub b hb) with e | hb
 ·rw [e];exact I.free
 ·obtain ⟨_,o,ho,_⟩:=I.ok.funs.mem hb
  exact I.base.free b o ho (I.ok.frf b hb) λz=>I.ok.exfs b z hb
theorem Inv.step {g':Array GenState} {t':Nat} {d':Drawn} {ch:List Addr} (I:Inv X pins σ H s)
  (hch:∀ b∈ch,(b∈X.ex\/X.s₀.heap.objs.size<=b)/\b≠X.env.locals/\(∀ x c,X.env.cells.lookup x=some c->c≠b)/\∀ p∈X.pn++pins,p.1≠b)
  (keep:∀ b o,b≠X.env.locals->b∉X.fs->b∉ch->s.heap.get? b=some o->H b=none->h'.get? b=some o)
  (slot:∀ b o,b≠X.env.locals->b∈X.fs->b∉ch->s.heap.get? b=some o->H b=none->∃ sl,h'.get? b=some { o with slots:=sl }) (free:∀ b o,b∉ch->s.heap.get? b=some o->H b=none->H' b=none)
  (there:∀ b o,b∉ch->s.heap.get? b=some o->∃ o',h'.get? b=some o')
  (tups:∀ b xs,H b=some (.tup xs)->H' b=some (.tup xs)) (frzs:∀ b o u,H b=some (.frz o u)->H' b=some (.frz o u)) (tbls:∀ b ps,H b=some (.tbl ps)->∃ more,H' b=some (.tbl (ps++more)))
  (ns:∀ m,s.heap.Ns X.env.locals m->h'.Ns X.env.locals m) (hok:HOk X.prog X.w H' h') (hg:AllBare g') :
  Inv X pins σ H' { s with heap:=h',gens:=g',drawn:=d',toks:=t' }:=by
 have neL:∀ b o,X.s₀.heap.get? b=some o->b≠X.env.locals:=λb o e=>Nt (Nf (M4 e) I.ok.above)
 have neC:∀ b o,X.s₀.heap.get? b=some o->b∉X.ex->b∉ch:=λb o e hx hb=>by
  rcases (hch b hb).1 with z | z
  ·exact hx z
  ·exact absurd (Nf (M4 e) z) (Ot _)
 have cellK:∀ x c,X.env.cells.lookup x=some c->∀ v,s.heap.IsCell c v->h'.IsCell c v:=λx c e v ⟨o,ho,hd⟩=>by
  have nch:c∉ch:=λz=>(hch c z).2.2.1 x c e rfl
  by_cases hc:c∈X.fs
  ·obtain ⟨sl,q⟩:=slot c o (I.cne x c e) hc nch ho (I.freeC x c e)
   exact ⟨_,q,hd⟩
  ·exact ⟨o,keep c o (I.cne x c e) hc nch ho (I.freeC x c e),hd⟩
 refine ⟨I.ok,I.os,hg,⟨λb o e n hb hx=>?_,λb o e n hb hx=>?_,λb o e n hx=>?_,λb o e hx=>?_,λb xs e=>tups b xs (I.base.tups b xs e),λb o xs e=>frzs b o xs (I.base.frzs b o xs e),λb ps e=>?_⟩,?_,λx c e=>?_,?_,λx c e=>?_,λp hp=>?_,hok,I.len⟩
 ·exact keep b o (neL b o e) hb (neC b o e hx) (I.base.keep b o e n hb hx) (I.base.free b o e n hx)
 ·obtain ⟨sl,e1⟩:=I.base.slot b o e n hb hx
  obtain ⟨sl',e2⟩:=slot b _ (neL b o e) hb (neC b o e hx) e1 (I.base.free b o e n hx);exact ⟨sl',e2⟩
 ·obtain ⟨o',e1⟩:=I.base.there b o e hx
  exact free b o' (neC b o e hx) e1 (I.base.free b o e n hx)
 ·obtain ⟨o',e1⟩:=I.base.there b o e hx
  exact there b o' (neC b o e hx) e1
 ·obtain ⟨m1,e1⟩:=I.base.tbls b ps e
  obtain ⟨m2,e2⟩:=tbls b _ e1;exact ⟨m1++m2,by rw [e2,Array.append_assoc]⟩
 ·obtain ⟨m,hn,hl⟩:=I.loc
  refine ⟨m,ns m hn,λi x v e1 e2 e3=>?_⟩
  obtain ⟨u,r,l⟩:=hl i x v e1 e2 e3;refine ⟨u,r,?_⟩
  rcases l with l | ⟨k,c,e,z⟩
  ·exact .inl l
  ·exact .inr ⟨k,c,e,cellK x c e _ z⟩
 ·obtain ⟨v,z⟩:=I.cell x c e
  exact ⟨v,cellK x c e v z⟩
 ·obtain ⟨m,⟨o,_,_,ho,_⟩,_⟩:=I.loc
  exact free _ o (λz=>(hch _ z).2.1 rfl) ho I.free
 ·obtain ⟨v,o,ho,hd⟩:=I.cell x c e
  exact free c o (λz=>(hch c z).2.2.1 x c e rfl) ho (I.freeC x c e)
 ·obtain ⟨e,n,ne,nf,d⟩:=I.pin p hp
  have nch:p.1∉ch:=λz=>(hch p.1 z).2.2.2 p hp rfl
  exact ⟨keep p.1 p.2 ne nf nch e n,free p.1 p.2 nch e n,ne,nf,d⟩
theorem Inv.un {t':Nat} (I:Inv X pins σ H s) (u:Un X.fs [] H H' s.heap h') (hok:HOk X.prog X.w H' h'):Inv X pins σ H' { s with heap:=h',toks:=t' }:=by
 obtain ⟨m,⟨o,es,ep,ho,r⟩,_⟩:=id I.loc;obtain ⟨sl,hL⟩:=u.any ho I.free (by simp);exact I.step (g' := s.gens) (d' := s.drawn) (ch:=[]) (λ_ z=>nomatch z) (λb o _ hb _ e n=>u.keep b o e n hb (by simp)) (λb o _ hb _ e n=>u.slot b o e n hb (by simp)) (λb o _ e n=>u.free b o e n (by simp)) (λb o _ e=>u.there b o e (by simp)) u.tups u.frzs u.tbls (λm' hm=>by
  obtain ⟨o',es',ep',ho',r'⟩:=hm;rw [ho] at ho';cases ho'
  exact ⟨_,es',ep',hL,r'⟩) hok I.bare
theorem Inv.call {g':Array GenState} {t':Nat} {d':Drawn} {ch:List Addr} (I:Inv X pins σ H s) (u:Un (eU X.stack) ch H H' s.heap h') (hok:HOk X.prog X.w H' h') (hg:AllBare g')
  (hch:∀ b∈ch,(b∈X.ex\/X.s₀.heap.objs.size<=b)/\b≠X.env.locals/\(∀ x c,X.env.cells.lookup x=some c->c≠b)/\∀ p∈X.pn++pins,p.1≠b) :
  Inv X pins σ H' { s with heap:=h',gens:=g',drawn:=d',toks:=t' }:=by
 obtain ⟨m,⟨o,es,ep,ho,r⟩,_⟩:=id I.loc;obtain ⟨sl,hL⟩:=u.any ho I.free λz=>(hch _ z).2.1 rfl
 exact I.step (ch:=ch) hch (λb o hL hb hc e n=>u.keep b o e n (λz=>(Nd.mp (I.stkSub b z)).elim hL hb) hc) (λb o _ _ hc e n=>u.any e n hc) (λb o hc e n=>u.free b o e n hc) (λb o hc e=>u.there b o e hc) u.tups u.frzs u.tbls (λm' hm=>by
  obtain ⟨o',es',ep',ho',r'⟩:=hm;rw [ho] at ho';cases ho'
  exact ⟨_,es',ep',hL,r'⟩) hok hg
theorem Inv.turned {t':Nat} {it:Addr} (I:Inv X pins σ H s) (k:∀ b o,b≠it->s.heap.get? b=some o->h'.get? b=some o) (hn:H it=none) (hL:it≠X.env.locals)
  (h1:it∈X.ex\/X.s₀.heap.objs.size<=it) (h2:∀ x c,X.env.cells.lookup x=some c->c≠it) (h3:∀ p∈X.pn++pins,p.1≠it):Inv X pins σ H { s with heap:=h',toks:=t' }:=by
 have nit:∀ b u,H b=some u->b≠it:=λb u e z=>by rw [z,hn] at e;cases e
 refine I.step (g' := s.gens) (d' := s.drawn) (ch:=[it]) (λb hb=>?_) (λb o _ _ hc e _=>k b o (λz=>hc (by simp [z])) e) (λb o _ _ hc e _=>⟨o.slots,k b o (λz=>hc (by simp [z])) e⟩) (λ_ _ _ _ n=>n)
  (λb o hc e=>⟨o,k b o (λz=>hc (by simp [z])) e⟩) (λ_ _ e=>e) (λ_ _ _ e=>e) (λb ps e=>⟨#[],by rw [e];simp⟩) (λm hm=>?_) (λb u e=>?_) I.bare
 ·have e:b=it:=by simpa using hb
  subst e;exact ⟨h1,hL,h2,h3⟩
 ·obtain ⟨o,es,ep,ho,r⟩:=hm
  exact ⟨o,es,ep,k _ o (Ne.symm hL) ho,r⟩
 ·refine (I.hok b u e).stay (λc v hc q=>k c v ?_ q) (λ_ q=>q) λ_ _ q=>q
  rcases hc with z | z
  ·rw [z];exact nit b u e
  ·exact nit c _ z
theorem Inv.tok (I:Inv X pins σ H s) (t:Nat):Inv X pins σ H { s with toks:=t }:=I.un (h' := s.heap) (t' := t) Un.refl I.hok
theorem Inv.kept {t':Nat} (I:Inv X pins σ H s) (k:∀ b u,s.heap.get? b=some u->h'.get? b=some u):Inv X pins σ H { s with heap:=h',toks:=t' }:=I.un (Un.kept k) (I.hok.kept k)
theorem Inv.laid {a:Addr} {o:HO} {t':Nat} (I:Inv X pins σ H s) (k:∀ b u,s.heap.get? b=some u->h'.get? b=some u) (hp:s.heap.objs.size<=a) (new:ObjOk X.prog X.w (upd H a o) h' a o) :
  Inv X pins σ (upd H a o) { s with heap:=h',toks:=t' }:=I.un (Un.laid k hp (I.hok.fresh hp)) (I.hok.laid k hp new)
theorem Inv.write {x e:Addr} {o:HO} {t':Nat} (I:Inv X pins σ H s) (mu:m7 (H x)) (he:e=x\/H e=some (.own x)) (k:∀ b u,b≠e->s.heap.get? b=some u->h'.get? b=some u) (heo:∃ u,h'.get? e=some u)
  (new:ObjOk X.prog X.w (upd H x o) h' x o):Inv X pins σ (upd H x o) { s with heap:=h',toks:=t' }:=I.un (Un.write mu he k heo) (I.hok.write mu he k heo new)
theorem Inv.weak {σ':List (Option V)} (I:Inv X pins σ H s) (hl:σ'.length=σ.length) (w:∀ (i:Nat) v,σ'[i]? = some (some v)->σ[i]? = some (some v)):Inv X pins σ' H s :=
 ⟨I.ok,I.os,I.bare,I.base,let ⟨m,hn,hl'⟩:=I.loc;⟨m,hn,λi x v e1 e2 e3=>hl' i x v e1 (w i v e2) e3⟩,I.cell,I.free,I.freeC,I.pin,I.hok,hl.trans I.len⟩
theorem Inv.pins_of {pins':List (Addr×Obj)} (I:Inv X pins σ H s) (h:∀ p∈pins',s.heap.get? p.1=some p.2/\H p.1=none/\p.1≠X.env.locals/\p.1∉X.fs/\∀ v,p.2.data ≠ .cell v):Inv X pins' σ H s :=
 ⟨I.ok,I.os,I.bare,I.base,I.loc,I.cell,I.free,I.freeC,λp hp=>(NH.mp hp).elim (λz=>I.pin p (Nh _ z)) (h p),I.hok,I.len⟩
theorem pQ {N:List Str} (hN:N.Nodup) {i j:Nat} {x:Str} (a:N[i]? = some x) (b:N[j]? = some x):i=j:=by
 obtain ⟨h1,e1⟩:=MP.mp a;obtain ⟨h2,e2⟩:=MP.mp b;exact (List.getElem_inj hN).mp (e1.trans e2.symm)
theorem yd {M:Model} {A:Around} {E:Value->Shared->Prop} {i:Nat} {x:Str} {v:V} {u:Value} {Q:Unit->Shared->Prop} (I:Inv X pins σ H s) (hN:X.N.Nodup) (hi:X.N[i]? = some x) (hx:kz X.env.scope x) (r:RelV v u)
  (h:∀ s',Inv X pins (σ.set i (some v)) H s'->(∃ a,Heap.SameBut a s.heap s'.heap/\(a=X.env.locals\/X.env.cells.lookup x=some a))->Q () s') (hf:X.fn x=true\/X.env.scope.names.lookup x=some .local:=by first | exact .inl rfl | exact .inr rfl | assumption):wpAny M A (storeName X.env x u) Q E s:=by
 obtain ⟨m,hn,hl⟩:=id I.loc;have hcls:(X.env.scope.kind == .class || (X.env.scope.kind == .module && X.env.locals != X.env.globals))=false:=by rw [I.ok.kind];rfl
 have hiσ:i<σ.length:=by rw [I.len];exact (MP.mp hi).1
 have cne:=I.cne;have tracked:∀ {a:Addr} {h':Heap},(∃ o,s.heap.get? a=some o/\H a=none)->Heap.SameBut a s.heap h'->HOk X.prog X.w H h' := λ{a h'} ha hs b ob e=>by
  obtain ⟨_,_,hfree⟩:=ha;refine (I.hok b ob e).stay (λc w' hc q=>(hs.2 c ?_).trans q) (λ_ q=>q) λ_ _ q=>q
  rintro rfl
  rcases hc with rfl | hc
  ·rw [hfree] at e;cases e
  ·rw [hfree] at hc;cases hc
 rcases hx with hk | hk
 ·refine wpAny_storeName_local hk hn (λh' hn' hs=>?_) hcls
  obtain ⟨oL,_,_,hoL,_⟩:=id hn;refine h _ ⟨I.ok,I.os,I.bare,⟨λb o e n hb hx=>?_,λb o e n hb hx=>?_,I.base.free,λb o e hx=>?_,I.base.tups,I.base.frzs,I.base.tbls⟩,⟨_,hn',λj y v' e1 e2 e3=>?_⟩,λy c e=>?_,I.free,I.freeC,λp hp=>?_,tracked ⟨oL,hoL,I.free⟩ hs,by simpa using I.len⟩ ⟨_,hs,.inl rfl⟩
  ·exact (hs.2 b (Nt (Nf (M4 e) I.ok.above))).trans (I.base.keep b o e n hb hx)
  ·obtain ⟨sl,e1⟩:=I.base.slot b o e n hb hx
   exact ⟨sl,(hs.2 b (Nt (Nf (M4 e) I.ok.above))).trans e1⟩
  ·obtain ⟨o',e1⟩:=I.base.there b o e hx
   exact ⟨o',(hs.2 b (Nt (Nf (M4 e) I.ok.above))).trans e1⟩
  ·by_cases hj:j=i
   ·subst hj
    rw [hi] at e1;cases e1
    rw [MY hiσ] at e2
    cases e2
    exact ⟨u,r,.inl ⟨hk,by simp⟩⟩
   ·rw [MS (Ne.symm hj)] at e2
    obtain ⟨u',r',q⟩:=hl j y v' e1 e2 e3;refine ⟨u',r',?_⟩
    rcases q with ⟨k,e⟩ | ⟨k,c,e,z⟩
    ·refine .inl ⟨k,?_⟩
     have:y≠x:=λe=>hj (pQ hN e1 (e▸hi))
     simp [this,e]
    ·exact .inr ⟨k,c,e,z.sameBut hs (cne y c e)⟩
  ·obtain ⟨w',z⟩:=I.cell y c e
   exact ⟨w',z.sameBut hs (cne y c e)⟩
  ·obtain ⟨e,n,ne,nf,d⟩:=I.pin p hp
   exact ⟨(hs.2 p.1 ne).trans e,n,ne,nf,d⟩
 ·have hfn:X.fn x=true:=by
   rcases hf with z | z
   ·exact z
   ·rw [z] at hk;cases hk
  obtain ⟨c,hc⟩:=I.ok.has x (.inl hk);obtain ⟨w',z⟩:=I.cell x c hc;refine wpAny_storeName_cell I.ok.kind hk hc z (λh' hc' hs=>?_)
  obtain ⟨oc,hoc,hocd⟩:=id z;refine h { s with heap:=h' } ⟨I.ok,I.os,I.bare,⟨λb o e n hb hx=>?_,λb o e n hb hx=>?_,I.base.free,λb o e hx=>?_,I.base.tups,I.base.frzs,I.base.tbls⟩,⟨m,hn.sameBut hs (Ne.symm (cne x c hc)),λj y v' e1 e2 e3=>?_⟩,λy c' e=>?_,I.free,I.freeC,λp hp=>?_,tracked ⟨oc,hoc,I.freeC x c hc⟩ hs,by simpa using I.len⟩ ⟨c,hs,.inr hc⟩
  ·exact (hs.2 b (Nt (Nf (M4 e) (I.ok.cab x c hfn hc)))).trans (I.base.keep b o e n hb hx)
  ·obtain ⟨sl,e1⟩:=I.base.slot b o e n hb hx
   exact ⟨sl,(hs.2 b (Nt (Nf (M4 e) (I.ok.cab x c hfn hc)))).trans e1⟩
  ·obtain ⟨o',e1⟩:=I.base.there b o e hx
   exact ⟨o',(hs.2 b (Nt (Nf (M4 e) (I.ok.cab x c hfn hc)))).trans e1⟩
  ·by_cases hj:j=i
   ·subst hj
    rw [hi] at e1;cases e1
    rw [MY hiσ] at e2
    cases e2
    exact ⟨u,r,.inr ⟨.inl hk,c,hc,hc'⟩⟩
   ·rw [MS (Ne.symm hj)] at e2
    obtain ⟨u',r',q⟩:=hl j y v' e1 e2 e3;refine ⟨u',r',?_⟩
    rcases q with q | ⟨k,c',e,z'⟩
    ·exact .inl q
    ·refine .inr ⟨k,c',e,z'.sameBut hs ?_⟩
     rintro rfl
     exact hj (pQ hN e1 (I.ok.inj _ _ _ e hc▸hi))
  ·by_cases hcc:c'=c
   ·subst hcc;exact ⟨_,hc'⟩
   ·obtain ⟨w2,z2⟩:=I.cell y c' e
    exact ⟨w2,z2.sameBut hs hcc⟩
  ·obtain ⟨e,n,ne,nf,d⟩:=I.pin p hp
   refine ⟨(hs.2 p.1 ?_).trans e,n,ne,nf,d⟩
   intro q;rw [q,hoc] at e;have q':oc=p.2:=Nx e
   exact d w' (by rw [<- q'];exact hocd)
theorem lS {M:Model} {A:Around} {E:Value->Shared->Prop} {i:Nat} {x:Str} {v:V} {u:Value} {Q:Unit->Shared->Prop} (I:Inv X pins σ H s) (hN:X.N.Nodup) (hi:X.N[i]? = some x) (hx:kz X.env.scope x) (r:RelV v u)
  (h:∀ s',Inv X pins (σ.set i (some v)) H s'->Q () s') (hf:X.fn x=true\/X.env.scope.names.lookup x=some .local:=by first | exact .inl rfl | exact .inr rfl | assumption):wpAny M A (storeName X.env x u) Q E s :=
 yd I hN hi hx r (λs' I' _=>h s' I') hf
theorem Inv.call' {s':Shared} {ch:List Addr} (I:Inv X pins σ H s) (ho:s'.os=s.os) (u:Un (eU X.stack) ch H H' s.heap s'.heap) (hok:HOk X.prog X.w H' s'.heap) (hg:AllBare s'.gens)
  (hch:∀ b∈ch,(b∈X.ex\/X.s₀.heap.objs.size<=b)/\b≠X.env.locals/\(∀ x c,X.env.cells.lookup x=some c->c≠b)/\∀ p∈X.pn++pins,p.1≠b):Inv X pins σ H' s' := by
 obtain ⟨h',g',d',t',o'⟩:=s';have e:o'=s.os:=ho;subst e;exact I.call (g' := g') (t' := t') (d' := d') u hok hg hch
end
abbrev XK:=Value->Option Addr->Hp->Prop
abbrev St:=List (Option V)
abbrev VK:=V->Hp->Prop
abbrev TE:=St->Hp->VK->Prop
abbrev TT:=St->Hp->(Bool->Hp->Prop)->Prop
abbrev TA:=St->Hp->(List V->Hp->Prop)->Prop
structure dy where
 nx:St->Hp->Prop
 rt:VK
 bk:St->Hp->Prop:=λ_ _=>False
 ct:St->Hp->Prop:=λ_ _=>False
abbrev TS:=dy->St->Hp->Prop
def EP (X:Cx) (pins:List (Addr×Obj)) (σ:St) (Q:VK) (u:Value) (s':Shared):Prop:=∃ v H',Inv X pins σ H' s'/\RelV v u/\Q v H'
def TP (X:Cx) (pins:List (Addr×Obj)) (σ:St) (Q:Bool->Hp->Prop) (b:Bool) (s':Shared):Prop:=∃ H',Inv X pins σ H' s'/\Q b H'
def AP (X:Cx) (pins:List (Addr×Obj)) (σ:St) (Q:List V->Hp->Prop) (us:List Value) (s':Shared):Prop:=∃ vs H',Inv X pins σ H' s'/\Vals vs us/\Q vs H'
def SP (X:Cx) (pins:List (Addr×Obj)) (D:dy) (f:Flow) (s':Shared):Prop :=
 match f with
 | .next=>∃ σ' H',Inv X pins σ' H' s'/\D.nx σ' H'
 | .brk=>∃ σ' H',Inv X pins σ' H' s'/\D.bk σ' H'
 | .cont=>∃ σ' H',Inv X pins σ' H' s'/\D.ct σ' H'
 | .ret u=>∃ v σ' H',Inv X pins σ' H' s'/\RelV v u/\D.rt v H'
def PE (X:Cx) (e:Expr) (t:TE):Prop :=
 ∀ (pins:List (Addr×Obj)) (s:Shared) (σ:St) (H:Hp) (Q:VK),Inv X pins σ H s->t σ H Q->wpAny (model X.prog X.w) X.A (eval e X.env) (EP X pins σ Q) X.xe s
def PT (X:Cx) (e:Expr) (t:TT):Prop :=
 ∀ (pins:List (Addr×Obj)) (s:Shared) (σ:St) (H:Hp) (Q:Bool->Hp->Prop),Inv X pins σ H s->t σ H Q->wpAny (model X.prog X.w) X.A (isTrue e X.env (eval e X.env)) (TP X pins σ Q) X.xe s
def PW (X:Cx) (e:Expr) (t:TT):Prop :=
 ∀ (whole:Sem Value) (pins:List (Addr×Obj)) (s:Shared) (σ:St) (H:Hp) (Q:Bool->Hp->Prop),Inv X pins σ H s->t σ H Q->wpAny (model X.prog X.w) X.A (isTrue e X.env whole) (TP X pins σ Q) X.xe s
theorem PW.pt {X:Cx} {e:Expr} {t:TT} (h:PW X e t):PT X e t:=h _
def PA (X:Cx) (es:List Expr) (t:TA):Prop :=
 ∀ (pos:Pos) (pins:List (Addr×Obj)) (s:Shared) (σ:St) (H:Hp) (Q:List V->Hp->Prop),Inv X pins σ H s->t σ H Q->wpAny (model X.prog X.w) X.A (spliced (backTo pos (starEach es X.env))) (AP X pins σ Q) X.xe s
def PS (X:Cx) (st:Stmt) (t:TS):Prop :=
 ∀ (pins:List (Addr×Obj)) (s:Shared) (σ:St) (H:Hp) (D:dy),Inv X pins σ H s->t D σ H->wpAny (model X.prog X.w) X.A (exec st X.env) (SP X pins D) X.xe s
def gb (X:Cx) (st:List Stmt) (t:TS):Prop :=
 ∀ (pins:List (Addr×Obj)) (s:Shared) (σ:St) (H:Hp) (D:dy),Inv X pins σ H s->t D σ H->wpAny (model X.prog X.w) X.A (execs st X.env) (SP X pins D) X.xe s
theorem thn {α:Type} {t:Sem α} {Q Q':α->Shared->Prop} {M:Model} {A:Around} {E:Value->Shared->Prop} {s:Shared} (h:wpAny M A t Q E s) (hQ:∀ a s,Q a s->Q' a s):wpAny M A t Q' E s:=NC h hQ λ_ _ x=>x
section
variable {X:Cx}
def m9 (i:Nat):TE:=λσ H Q=>∃ v,σ[i]? = some (some v)/\Q v H
def tC (v:V):TE:=λ_ H Q=>Q v H
theorem Cw {i:Nat} {x:Str} {pos:Pos} (hN:X.N[i]? = some x) (hv:m8 X.env.scope x) (hd:(x == ("__debug__" : Str))=false:=by decide) (hcd:(x == ("__classdict__" : Str))=false:=by decide):PE X (.Name x pos) (m9 i):=by
 intro pins s σ H Q I h;obtain ⟨v,e,h⟩:=h;obtain ⟨m,hn,hl⟩:=I.loc;obtain ⟨u,r,l⟩:=hl i x v hN e hv;have fin:EP X pins σ Q u s:=⟨v,H,I,r,h⟩
 rcases l with ⟨hk,hm⟩ | ⟨hk,c,hc,hcell⟩
 ·exact Rq (wpAny_loadName_local I.ok.kind hk hn hm fin) hd
 ·rcases hk with hk | hk
  ·exact Rq (wpAny_loadName_cell I.ok.kind hk hc hcell fin) hd
  ·exact Rq (wpAny_loadName_free I.ok.kind hk hc hcell fin hcd) hd
theorem Cy {i j pos}:PE X (.Constant (.int i) j pos) (tC (.int i)):=λ_ _ _ H _ I h=>wpAny_Constant_int ⟨.int i,H,I.tok _,⟨_,rfl⟩,h⟩
theorem Cz {b j pos}:PE X (.Constant (.bool b) j pos) (tC (.bl b)):=λ_ _ _ H _ I h=>Constant_bool ⟨.bl b,H,I,rfl,h⟩
theorem CB {j pos}:PE X (.Constant .none j pos) (tC .non):=λ_ _ _ H _ I h=>Constant_none ⟨.non,H,I,rfl,h⟩
theorem CD {x j pos}:PE X (.Constant (.str x) j pos) (tC (.str x)):=λ_ _ _ H _ I h=>Calls.Constant_str ⟨.str x,H,I.tok _,⟨_,rfl⟩,h⟩
def Gl (X:Cx) (x:Str):Prop:=X.env.kindOf x=some .globalImplicit
theorem lT {E:Value->Shared->Prop} {pins:List (Addr×Obj)} {s:Shared} {σ:St} {H:Hp} {x:Str} {u:Value} {pos:Pos} {Q:Value->Shared->Prop} (I:Inv X pins σ H s) (hg:Gl X x) (hm:X.mg x=some u) (h:Q u s)
  (hd:(x == ("__debug__" : Str))=false:=by decide):wpAny (model X.prog X.w) X.A (eval (.Name x pos) X.env) Q E s :=
 Pv I.ok.kind hg (Calls.loadGlobal_global (by rw [I.ok.glob];exact I.mod.glob.keeps I.bk) hm h) hd
theorem lU {E:Value->Shared->Prop} {pins:List (Addr×Obj)} {s:Shared} {σ:St} {H:Hp} {x:Str} {u:Value} {pos:Pos} {Q:Value->Shared->Prop} (I:Inv X pins σ H s) (hg:Gl X x) (hm:X.mg x=none) (hv:bootBuiltins x=some u) (h:Q u s)
  (hn:x ≠ "__name__" := by decide) (hd:(x == ("__debug__" : Str))=false:=by decide):wpAny (model X.prog X.w) X.A (eval (.Name x pos) X.env) Q E s:=by
 obtain ⟨mb,h1,h2⟩:=I.mod.blt;exact Pv I.ok.kind hg (Calls.loadGlobal_builtin (by rw [I.ok.glob];exact I.mod.glob.keeps I.bk) hm (by rw [I.ok.blt];exact h1.keeps I.bk) ((h2 x hn).trans hv) h) hd
theorem sJ {x:Str} {v:V} {u:Value} {pos:Pos} (hg:Gl X x) (hm:X.mg x=some u) (r:RelV v u) (hd:(x == ("__debug__" : Str))=false:=by decide):PE X (.Name x pos) (tC v) :=
 λ_ _ _ H _ I h=>lT I hg hm ⟨v,H,I,r,h⟩ hd
theorem CG {x:Str} {v:V} {u:Value} {pos:Pos} (hg:Gl X x) (hm:X.mg x=none) (hv:bootBuiltins x=some u) (r:RelV v u) (hn:x ≠ "__name__" := by decide) (hd:(x == ("__debug__" : Str))=false:=by decide):PE X (.Name x pos) (tC v) :=
 λ_ _ _ H _ I h=>lU I hg hm hv ⟨v,H,I,r,h⟩ hn hd
variable {a b:Expr} {ta tb:TE} {pos:Pos}
variable {tA tB':TT} {rest:List Expr}
def sL (t u:TT):TT:=λσ H Q=>t σ H λc H1=>if c=true then u σ H1 Q else Q false H1
def CH (t u:TT):TT:=λσ H Q=>t σ H λc H1=>if c=true then Q true H1 else u σ H1 Q
def sM (t:TT):TT:=λσ H Q=>t σ H λc H1=>Q (!c) H1
theorem CI (ha:PT X a tA):PW X (.BoolOp .And [a] pos) tA:=by
 intro wh pins s σ H Q I h;refine isTrue_and (thn (ha pins s σ H Q I h) λc s1 e=>?_)
 cases c with
 | true=>exact isTrue_and_nil e
 | false=>exact e
theorem CJ (ha:PT X a tA):PW X (.BoolOp .Or [a] pos) tA:=by
 intro wh pins s σ H Q I h;refine isTrue_or (thn (ha pins s σ H Q I h) λc s1 e=>?_)
 cases c with
 | false=>exact isTrue_or_nil e
 | true=>exact e
theorem CK (ha:PT X a tA) (hb:PW X (.BoolOp .And (b::rest) pos) tB'):PW X (.BoolOp .And (a::b::rest) pos) (sL tA tB'):=by
 intro wh pins s σ H Q I h;refine isTrue_and (thn (ha pins s σ H _ I h) λc s1 Zz=>?_);obtain ⟨H1,I1,q1⟩:=Zz
 cases c with
 | true=>exact hb wh pins s1 σ H1 Q I1 q1
 | false=>exact ⟨H1,I1,q1⟩
theorem CL (ha:PT X a tA) (hb:PW X (.BoolOp .Or (b::rest) pos) tB'):PW X (.BoolOp .Or (a::b::rest) pos) (CH tA tB'):=by
 intro wh pins s σ H Q I h;refine isTrue_or (thn (ha pins s σ H _ I h) λc s1 Zz=>?_);obtain ⟨H1,I1,q1⟩:=Zz
 cases c with
 | true=>exact ⟨H1,I1,q1⟩
 | false=>exact hb wh pins s1 σ H1 Q I1 q1
theorem CM (ha:PT X a tA):PT X (.UnaryOp .Not a pos) (sM tA):=by
 intro pins s σ H Q I h;exact isTrue_not (ha pins s σ H (λc H1=>Q (!c) H1) I h)
def CN (ta tb:TE):TE:=λσ H Q=>ta σ H λx H1=>∃ c,x = .bl c/\if c=true then tb σ H1 Q else Q (.bl false) H1
def sN (ta tb:TE):TE:=λσ H Q=>ta σ H λx H1=>∃ c,x = .bl c/\if c=true then Q (.bl true) H1 else tb σ H1 Q
def CO (ta:TE):TE:=λσ H Q=>ta σ H λx H1=>∃ c,x = .bl c/\Q (.bl (!c)) H1
theorem CQ {op} {t:TE} (h:PE X a t):PE X (.BoolOp op [a] pos) t:=λpins s σ H Q I hw=>BoolOp_one (h pins s σ H Q I hw)
theorem CT (ha:PE X a ta) (hb:PE X (.BoolOp .And (b::rest) pos) tb):PE X (.BoolOp .And (a::b::rest) pos) (CN ta tb):=by
 intro pins s σ H Q I h;refine BoolOp_and (thn (ha pins s σ H _ I h) λv s1 Zz=>?_);obtain ⟨x,H1,I1,r1,q1⟩:=Zz
 obtain ⟨c,rfl,q1⟩:=q1
 cases r1
 refine Ng ?_
 cases c with
 | true=>exact hb pins s1 σ H1 Q I1 q1
 | false=>exact ⟨.bl false,H1,I1,rfl,q1⟩
theorem CV (ha:PE X a ta) (hb:PE X (.BoolOp .Or (b::rest) pos) tb):PE X (.BoolOp .Or (a::b::rest) pos) (sN ta tb):=by
 intro pins s σ H Q I h;refine BoolOp_or (thn (ha pins s σ H _ I h) λv s1 Zz=>?_);obtain ⟨x,H1,I1,r1,q1⟩:=Zz
 obtain ⟨c,rfl,q1⟩:=q1
 cases r1
 refine Ng ?_
 cases c with
 | false=>exact hb pins s1 σ H1 Q I1 q1
 | true=>exact ⟨.bl true,H1,I1,rfl,q1⟩
theorem CW (ha:PE X a ta):PE X (.UnaryOp .Not a pos) (CO ta):=by
 intro pins s σ H Q I h;refine UnaryOp_ (thn (ha pins s σ H _ I h) λv s1 Zz=>?_);obtain ⟨x,H1,I1,r1,q1⟩:=Zz
 obtain ⟨c,rfl,q1⟩:=q1
 cases r1
 exact not_of (Ng ⟨.bl (!c),H1,I1,rfl,q1⟩)
end
def SqL (K:PySem.W.Frag) (H:Hp) (a:Addr) (xs:List V):Prop :=
 Rd H a (.lst xs) \/
  ∃ (o:Obj) (its:Array Value) (n:Nat),K.lookup a=some o/\o.cls = .type "list" /\ o.dict=none/\o.data = .seq its n/\its.size<=sizeLine/\Vals xs its.toList
def SqT (K:PySem.W.Frag) (H:Hp) (a:Addr) (xs:List V):Prop :=
 Rd H a (.tup xs) \/
  ∃ (o:Obj) (its:Array Value) (n:Nat),K.lookup a=some o/\o.cls = .type "tuple" /\ o.data = .seq its n/\its.size<=sizeLine/\Vals xs its.toList
def sO:Value->Option V
 | .none=>some .non
 | .bool b=>some (.bl b)
 | .int i _=>some (.int i)
 | .str x _=>some (.str x)
 | .bytes b _=>some (.byt b)
 | .float b _=>some (.flt b)
 | .ref a=>some (.ref a)
 | .type n=>some (.ty n)
 | _=>none
theorem RelV.abs {x:V} {u:Value} (r:RelV x u):sO u=some x:=by
 cases x with
 | non=>cases r;rfl
 | bl _=>cases r;rfl
 | int _=>obtain ⟨t,rfl⟩:=r;rfl
 | str _=>obtain ⟨t,rfl⟩:=r;rfl
 | byt _=>obtain ⟨t,rfl⟩:=r;rfl
 | flt _=>obtain ⟨t,rfl⟩:=r;rfl
 | ref _=>cases r;rfl
 | ty _=>cases r;rfl
theorem RelV.inj {x y:V} {u:Value} (r:RelV x u) (q:RelV y u):x=y:=Nx (r.abs.symm.trans q.abs)
theorem Vals.inj:∀ {xs ys:List V} {us:List Value},Vals xs us->Vals ys us->xs=ys
 | _,_,_,.nil,.nil=>rfl
 | _,_,_,.cons r t,.cons r' t' => by rw [r.inj r',Vals.inj t t']
section
variable {X:Cx} {pins:List (Addr×Obj)} {σ:St} {H:Hp} {s:Shared} {a:Addr} {xs ys:List V}
theorem SqL.of {K:PySem.W.Frag} (h:H a=some (.lst xs)):SqL K H a xs:=.inl (.inl h)
theorem SqT.of {K:PySem.W.Frag} (h:H a=some (.tup xs)):SqT K H a xs:=.inl (.inl h)
theorem Inv.list (I:Inv X pins σ H s) (h:SqL X.K H a xs):∃ its:List Value,Vals xs its/\PlainL s.heap a its.toArray/\xs.length<=sizeLine:=by
 rcases h with h | ⟨o,its,n,hk,hc,hd,hs,hz,r⟩
 ·obtain ⟨z,its,n,r,e⟩:=h.ok I.hok
  exact ⟨its,r,⟨_,n,e,rfl,rfl,rfl⟩,z⟩
 ·refine ⟨its.toList,r,⟨o,n,I.kIn a o hk,hc,hd,by simpa using hs⟩,?_⟩
  have e:=r.length;simp only [Om] at e
  lia
theorem Inv.tuple (I:Inv X pins σ H s) (h:SqT X.K H a xs):∃ its:List Value,Vals xs its/\IsTup s.heap a its.toArray/\xs.length<=sizeLine:=by
 rcases h with h | ⟨o,its,n,hk,hc,hs,hz,r⟩
 ·obtain ⟨z,its,r,p⟩:=h.ok I.hok
  exact ⟨its,r,p,z⟩
 ·refine ⟨its.toList,r,⟨o,I.kIn a o hk,hc,n,by simpa using hs⟩,?_⟩
  have e:=r.length;simp only [Om] at e
  lia
theorem Inv.list_inj (I:Inv X pins σ H s) (h:SqL X.K H a xs) (h':SqL X.K H a ys):xs=ys:=by
 obtain ⟨its,r,⟨o,n,e,_,_,d⟩,_⟩:=I.list h;obtain ⟨its',r',⟨o',n',e',_,_,d'⟩,_⟩:=I.list h';rw [e] at e';cases e'
 rw [d] at d';injection d' with d1 _
 have:its=its' := by simpa using congrArg Array.toList d1
 subst this;exact r.inj r'
theorem Inv.tuple_inj (I:Inv X pins σ H s) (h:SqT X.K H a xs) (h':SqT X.K H a ys):xs=ys:=by
 obtain ⟨its,r,⟨o,e,_,n,d⟩,_⟩:=I.tuple h;obtain ⟨its',r',⟨o',e',_,n',d'⟩,_⟩:=I.tuple h';rw [e] at e';cases e'
 rw [d] at d';injection d' with d1 _
 have:its=its' := by simpa using congrArg Array.toList d1
 subst this;exact r.inj r'
end
abbrev Cx.wish (X:Cx) (E:Value->Shared->Prop):Cx:={ X with xe:=E }
abbrev Cx.nox (X:Cx):Cx:=X.wish λ_ _=>False
theorem Cx.Ok.wish {X:Cx} (ok:X.Ok) (E:Value->Shared->Prop):(X.wish E).Ok :=
 ⟨ok.mod,ok.kind,ok.glob,ok.blt,ok.above,ok.inj,ok.has,ok.cab,ok.hd,ok.frames,ok.stk,ok.exf,ok.bs,ok.bsz,ok.noex,ok.exfs,ok.funs,ok.frf⟩
theorem Cx.Ok.unwish {X:Cx} {E:Value->Shared->Prop} (ok:(X.wish E).Ok):X.Ok :=
 ⟨ok.mod,ok.kind,ok.glob,ok.blt,ok.above,ok.inj,ok.has,ok.cab,ok.hd,ok.frames,ok.stk,ok.exf,ok.bs,ok.bsz,ok.noex,ok.exfs,ok.funs,ok.frf⟩
section
variable {X:Cx} {pins:List (Addr×Obj)} {σ:St} {H:Hp} {s:Shared} {E:Value->Shared->Prop}
theorem Inv.wish (I:Inv X pins σ H s) (E:Value->Shared->Prop):Inv (X.wish E) pins σ H s:=⟨I.ok.wish E,I.os,I.bare,I.base,I.loc,I.cell,I.free,I.freeC,I.pin,I.hok,I.len⟩
theorem Inv.unwish (I:Inv (X.wish E) pins σ H s):Inv X pins σ H s:=⟨I.ok.unwish,I.os,I.bare,I.base,I.loc,I.cell,I.free,I.freeC,I.pin,I.hok,I.len⟩
theorem SP.unwish {D:dy} {f:Flow} {s':Shared} (h:SP (X.wish E) pins D f s'):SP X pins D f s' := by
 cases f with
 | next=>obtain ⟨σ',H',I,q⟩:=h;exact ⟨σ',H',I.unwish,q⟩
 | brk=>obtain ⟨σ',H',I,q⟩:=h;exact ⟨σ',H',I.unwish,q⟩
 | cont=>obtain ⟨σ',H',I,q⟩:=h;exact ⟨σ',H',I.unwish,q⟩
 | ret u=>obtain ⟨v,σ',H',I,r,q⟩:=h;exact ⟨v,σ',H',I.unwish,r,q⟩
end
section
variable {X:Cx} {st:Stmt} {rest:List Stmt} {t u:TS} {e:Expr} {te:TE} {pos:Pos}
def CY:TS:=λD σ H=>D.nx σ H
def sP (t u:TS):TS:=λD σ H=>t { D with nx:=u D } σ H
theorem CZ:gb X [] CY:=λ_ _ σ H _ I h=>Pp ⟨σ,H,I,h⟩
theorem C6 (h1:PS X st t) (h2:gb X rest u):gb X (st::rest) (sP t u):=by
 intro pins s σ H D I h;refine wpAny_execs_cons (thn (h1 pins s σ H { D with nx:=u D } I h) λf s1 q=>?_)
 cases f with
 | next =>
  obtain ⟨σ',H',I',q⟩:=q;exact h2 pins s1 σ' H' D I' q
 | ret v=>exact q
 | brk=>exact q
 | cont=>exact q
theorem C7 (h1:PS X st t):gb X [st] t:=by
 intro pins s σ H D I h;refine wpAny_execs_cons (thn (h1 pins s σ H D I h) λf s1 q=>?_)
 cases f with
 | next=>exact Pp q
 | ret v=>exact q
 | brk=>exact q
 | cont=>exact q
theorem Inv.quiet {pins:List (Addr×Obj)} {σ:St} {H:Hp} {s:Shared} (I:Inv X pins σ H s):interactive X.env=false:=by simp [interactive,I.ok.kind]
def C8 (te:TE):TS:=λD σ H=>te σ H λ_ H1=>D.nx σ H1
theorem C9 (he:PE X e te) (hs:swapsWith e none pos.line X.env=pure false:=by rfl):PS X (.Expr e pos) (C8 te):=by
 intro pins s σ H D I h;exact wpAny_Expr_any (thn (he pins s σ H _ I h) λv s1 ⟨x,H1,I1,r1,q1⟩=>⟨σ,H1,I1,q1⟩) I.quiet hs
def sQ (te:TE):TS:=λD σ H=>te σ H D.rt
theorem Da (he:PE X e te):PS X (.Return (some e) pos) (sQ te):=by
 intro pins s σ H D I h;exact wpAny_Return_some (thn (he pins s σ H _ I h) λv s1 ⟨x,H1,I1,r1,q1⟩=>⟨x,σ,H1,I1,r1,q1⟩)
def sR (c:TT) (t u:TS):TS:=λD σ H=>c σ H λb H1=>if b=true then t D σ H1 else u D σ H1
theorem Dc {c:Expr} {a b:List Stmt} {tc:TT} (hc:PT X c tc) (ha:gb X a t) (hb:gb X b u):PS X (.If c a b pos) (sR tc t u):=by
 intro pins s σ H D I h;refine wpAny_If (thn (hc pins s σ H _ I h) λd s1 Zz=>?_);obtain ⟨H1,I1,q1⟩:=Zz
 cases d with
 | true=>exact ha pins s1 σ H1 D I1 q1
 | false=>exact hb pins s1 σ H1 D I1 q1
end
abbrev TG:=V->St->Hp->(St->Hp->Prop)->Prop
abbrev jV:=List V->St->Hp->(St->Hp->Prop)->Prop
def PG (X:Cx) (target:Expr) (t:TG):Prop :=
 ∀ (pins:List (Addr×Obj)) (s:Shared) (σ:St) (H:Hp) (v:V) (u:Value) (Q:St->Hp->Prop),Inv X pins σ H s->RelV v u->t v σ H Q ->
  wpAny (model X.prog X.w) X.A (assign target X.env u) (λ_ s' => ∃ σ' H',Inv X pins σ' H' s'/\Q σ' H') X.xe s
def kB (X:Cx) (ts:List Expr) (t:jV):Prop :=
 ∀ (pins:List (Addr×Obj)) (s:Shared) (σ:St) (H:Hp) (vs:List V) (us:List Value) (Q:St->Hp->Prop),Inv X pins σ H s->Vals vs us->t vs σ H Q ->
  wpAny (model X.prog X.w) X.A (assignInOrder ((assignEach ts X.env).map (·.2)) us) (λ_ s' => ∃ σ' H',Inv X pins σ' H' s'/\Q σ' H') X.xe s
abbrev kD:=V->V->V->Hp->(Hp->Prop)->Prop
def nh (X:Cx) (t:kD):Prop :=
 ∀ (pins:List (Addr×Obj)) (s:Shared) (σ:St) (H:Hp) (o i v:V) (ov iv u:Value) (Q:Hp->Prop),Inv X pins σ H s->RelV o ov->RelV i iv->RelV v u->t o i v H Q ->
  wpAny (model X.prog X.w) X.A (setItem ov iv u) (λ_ s' => ∃ H',Inv X pins σ H' s'/\Q H') X.xe s
section
variable {X:Cx} {pos:Pos}
def lV (i:Nat):TG:=λv σ H Q=>Q (σ.set i (some v)) H
theorem sS {i:Nat} {x:Str} (hN:X.N.Nodup) (hi:X.N[i]? = some x) (hx:kz X.env.scope x) (hf:X.fn x=true\/X.env.scope.names.lookup x=some .local:=by first | exact .inl rfl | exact .inr rfl | assumption):PG X (.Name x pos) (lV i):=by
 intro pins s σ H v u Q I r h;exact Ri (lS I hN hi hx r (λs' I' => ⟨_,H,I',h⟩) hf)
def sT:jV:=λvs σ H Q=>vs=[]/\Q σ H
def Df (t:TG) (u:jV):jV:=λvs σ H Q=>∃ v r,vs=v::r/\t v σ H λσ' H' => u r σ' H' Q
theorem Dg:kB X [] sT:=by
 intro pins s σ H vs us Q I r h;obtain ⟨e,h⟩:=h;subst e
 cases r
 exact Rj ⟨σ,H,I,h⟩
theorem Dh {e:Expr} {es:List Expr} {t:TG} {u:jV} (h1:PG X e t) (h2:kB X es u)
  (hs:(assignEach (e::es) X.env).map (·.2)=assign e X.env::(assignEach es X.env).map (·.2):=by rfl):kB X (e::es) (Df t u):=by
 intro pins s σ H vs us Q I r h;obtain ⟨v,vr,e1,h⟩:=h;subst e1
 cases r with
 | cons r rr =>
  rw [hs];refine O9 (thn (h1 pins s σ H _ _ _ I r h) λ_ s1 Zz=>?_);obtain ⟨σ1,H1,I1,q1⟩:=Zz
  exact h2 pins s1 σ1 H1 _ _ Q I1 rr q1
def sU (K:PySem.W.Frag) (n:Nat) (t:jV):TG:=λv σ H Q=>∃ a xs,v = .ref a/\SqT K H a xs/\xs.length=n/\t xs σ H Q
theorem Di {es:List Expr} {k:Nat} {t:jV} {n:Nat} (hc:X.calm=true) (h:kB X es t)
  (hn:(assignEach es X.env).length=n:=by rfl) (hst:(assignEach es X.env).findIdx? (·.1)=none:=by rfl):PG X (.Tuple es k pos) (sU X.K n t):=by
 intro pins s σ H v u Q I r hw;obtain ⟨a,xs,e1,hq,hl,hw⟩:=hw;subst e1
 cases r
 obtain ⟨its,rv,ht,hz⟩:=I.tuple hq;refine assign_Tuple_tuple (I.ok.hd hc) ht (by simp [hn,<- hl,rv.length]) hst λh' hx=>?_
 have I1:Inv X pins σ H { s with heap:=h' }:=I.kept (t' := s.toks) λb o e=>hx b o (Nt (M4 e)) e
 exact h pins _ σ H xs _ Q I1 (by simpa using rv) hw
def sV (to ti:TE) (t:kD):TG:=λv σ H Q=>to σ H λo H1=>ti σ H1 λi H2=>t o i v H2 λH3=>Q σ H3
theorem Dj {o i:Expr} {to ti:TE} {t:kD} (ho:PE X o to) (hi:PE X i ti) (hs:nh X t)
  (ha:∀ v,assign (.Subscript o i pos) X.env v=(do
   let ov <- holding [v] (eval o X.env)
   let iv <- holding [v,ov] (eval i X.env)
   standAt pos
   holding [v,ov,iv] (setItem ov iv v)
   release [v,ov,iv] []):=by intro _;rfl):PG X (.Subscript o i pos) (sV to ti t):=by
 intro pins s σ H v u Q I r h;rw [ha];refine MR (NV (thn (ho pins s σ H _ I h) λov s1 Zz=>?_));obtain ⟨x,H1,I1,r1,q1⟩:=Zz
 refine MR (NV (thn (hi pins s1 σ H1 _ I1 q1) λiv s2 Zz=>?_));obtain ⟨y,H2,I2,r2,q2⟩:=Zz
 refine MR (PX (MR (NV (thn (hs pins s2 σ H2 x y v ov iv u _ I2 r1 r2 r q2) λ_ s3 Zz=>?_))));obtain ⟨H3,I3,q3⟩:=Zz
 exact wpAny_release ⟨σ,H3,I3,q3⟩
def ja (te:TE) (g:TG):TS:=λD σ H=>te σ H λx H1=>g x σ H1 D.nx
theorem ye {tg e:Expr} {te:TE} {g:TG} (he:PE X e te) (hg:PG X tg g) (hs:swapsWithSole [tg] e pos.line X.env=pure false:=by rfl) (hw:swappedStores [tg] e X.env=pure none:=by rfl)
  (h1:(assignEach [tg] X.env).map (·.2)=[assign tg X.env]:=by rfl):PS X (.Assign [tg] e pos) (ja te g):=by
 intro pins s σ H D I h;refine wpAny_Assign_stores (thn (he pins s σ H _ I h) λv s1 Zz=>?_) hs hw;obtain ⟨x,H1,I1,r1,q1⟩:=Zz
 rw [h1];exact thn (hg pins s1 σ H1 x v _ I1 r1 q1) λ_ s2 q=>q
theorem Dk {i:Nat} {x:Str} {e:Expr} {te:TE} {pos':Pos} (hN:X.N.Nodup) (hi:X.N[i]? = some x) (hx:kz X.env.scope x) (he:PE X e te) (hs:swapsWith e (some (.Name x pos')) pos.line X.env=pure false:=by rfl) (hf:X.fn x=true\/X.env.scope.names.lookup x=some .local:=by first | exact .inl rfl | exact .inr rfl | assumption) :
  PS X (.Assign [.Name x pos'] e pos) (ja te (lV i)):=by
 intro pins s σ H D I h;refine wpAny_Assign_Name (thn (he pins s σ H _ I h) λv s1 Zz=>?_) hs;obtain ⟨y,H1,I1,r1,q1⟩:=Zz
 exact lS I1 hN hi hx r1 (λs2 I2=>⟨_,H1,I2,q1⟩) hf
end
section
variable {X:Cx} {pos:Pos}
end
structure It where
 go:Nat->Hp->Prop
 yld:Nat->Hp->V->Hp->Prop
 stop:Nat->Hp->Prop
def dQ (X:Cx) (pins:List (Addr×Obj)) (H:Hp) (b:Addr):Prop :=
 H b=none/\b≠X.env.locals/\b∉X.fs/\(b∈X.ex\/X.s₀.heap.objs.size<=b)/\(∀ x c,X.env.cells.lookup x=some c->c≠b)/\∀ p∈X.pn++pins,p.1≠b
theorem Inv.fpOk {X:Cx} {pins:List (Addr×Obj)} {σ:St} {H H':Hp} {s:Shared} {b:Addr} (I:Inv X pins σ H s) (hb:s.heap.objs.size<=b) (hn:H' b=none):dQ X pins H' b:=by
 refine ⟨hn,Nat.ne_of_gt (Nf I.lt hb),I.nofs hb,.inr (MV I.sz hb),λx c e z=>?_,λp hp z=>?_⟩
 ·obtain ⟨v,q⟩:=I.cell x c e
  exact absurd (Nf q.lt (by rw [z];exact hb)) (Ot _)
 ·exact absurd (Nf (M4 (I.pin p hp).1) (by rw [z];exact hb)) (Ot _)
structure gc (P:Program) (w:World) (K:PySem.W.Frag) (tg:Expr) (J:It) (fp:List Addr) (it:Addr) (tn:Nat->Heap->Prop):Prop where
 mem:it∈fp
 obj:∀ i h,tn i h->∀ b∈fp,∃ o,h.get? b=some o/\∀ v,o.data ≠ .cell v
 keep:∀ i h h',tn i h->(∀ b∈fp,∀ o,h.get? b=some o->h'.get? b=some o)->tn i h'
 item:∀ (X:Cx),X.prog=P->X.w=w->X.K=K->X.calm=true->∀ (i:Nat) (pins:List (Addr×Obj)) (s:Shared) (σ:St) (H:Hp) (E:Value->Shared->Prop),Inv X pins σ H s->(∀ b∈fp,dQ X pins H b)->tn i s.heap->J.go i H ->
  wpAny (model P w) X.A (pyNext (.ref it)) (λr s1=>∃ u,r=some u /\
   wpAny (model P w) X.A (letOwnedTupleGo tg (.ref it) u) (λ_ s2=>∃ x H',Inv X pins σ H' s2/\RelV x u/\J.yld i H x H'/\tn (i+1) s2.heap/\∀ b∈fp,H' b=none) E s1) E s
 done:∀ (X:Cx),X.prog=P->X.w=w->X.K=K->X.calm=true->∀ (i:Nat) (pins:List (Addr×Obj)) (s:Shared) (σ:St) (H:Hp) (E:Value->Shared->Prop),Inv X pins σ H s->(∀ b∈fp,dQ X pins H b)->tn i s.heap->J.stop i H ->
  wpAny (model P w) X.A (pyNext (.ref it)) (λr s1=>r=none/\Inv X pins σ H s1) E s
 self:∀ (A:Around) (i:Nat) (s:Shared) (Q:Value->Shared->Prop) (E:Value->Shared->Prop),tn i s.heap->Q (.ref it) s->wpAny (model P w) A (pyIter (.ref it)) Q E s
abbrev TI:=St->Hp->(It->Hp->Prop)->Prop
def sW (X:Cx) (pins:List (Addr×Obj)) (σ:St) (tg:Expr) (R:It->Hp->Prop) (itv:Value) (s2:Shared):Prop :=
 ∃ (it:Addr) (fp:List Addr) (tn:Nat->Heap->Prop) (J:It) (H':Hp),itv = .ref it/\Inv X pins σ H' s2/\gc X.prog X.w X.K tg J fp it tn/\tn 0 s2.heap/\(∀ b∈fp,dQ X pins H' b)/\R J H'
def PI (X:Cx) (tg iter:Expr) (wi:TI):Prop :=
 ∀ (pins:List (Addr×Obj)) (s:Shared) (σ:St) (H:Hp) (R:It->Hp->Prop),Inv X pins σ H s->wi σ H R ->
  wpAny (model X.prog X.w) X.A (eval iter X.env) (λv s1=>wpAny (model X.prog X.w) X.A (pyIter v) (sW X pins σ tg R) X.xe s1) X.xe s
theorem pR {M:Model} {A:Around} {E:Value->Shared->Prop} {s:Shared} {tg:Expr} {it:Addr} {u:Value} {o:Obj} {n:String} {vs:Array Value} {Q:Unit->Shared->Prop} (ho:s.heap.get? it=some o) (hc:o.cls = .type n) (hd:o.data = .fields vs)
  (hn:["enumerate", "zip", "dict_itemiterator", "dict_reverseitemiterator", "odict_iterator", "itertools.zip_longest", "itertools.pairwise"].contains n=false) (hQ:Q () s):wpAny M A (letOwnedTupleGo tg (.ref it) u) Q E s:=by
 unfold letOwnedTupleGo
 cases tg<;>first
  | exact MZ hQ
  | (cases u<;>first
    | exact MZ hQ
    | (refine MR (Pa ho ?_)
       rw [hc,hd];show wpAny M A (if (["enumerate", "zip", "dict_itemiterator", "dict_reverseitemiterator", "odict_iterator", "itertools.zip_longest", "itertools.pairwise"].contains n && vs[0]? == some (rawInt _))=true then _ else _) Q E s
       rw [MX (by intro h;rw [hn,Bool.false_and] at h;cases h)];exact MZ hQ))
def pS (K:PySem.W.Frag) (a:Addr):It :=
 ⟨λi H=>∃ xs x,SqL K H a xs/\xs[i]? = some x,λi H x H' => H'=H/\∀ xs,SqL K H a xs->xs[i]? = some x,λi H=>∃ xs,SqL K H a xs/\xs.length<=i⟩
def sX (K:PySem.W.Frag) (a:Addr):It :=
 ⟨λi H=>∃ xs x,SqT K H a xs/\xs[i]? = some x,λi H x H' => H'=H/\∀ xs,SqT K H a xs->xs[i]? = some x,λi H=>∃ xs,SqT K H a xs/\xs.length<=i⟩
def pT (lo:Int) (n:Nat):It:=⟨λi _=>i<n,λi H x H' => H'=H/\x = .int (lo+i),λi _=>n<=i⟩
theorem Dl {P:Program} {w:World} {K:PySem.W.Frag} {tg:Expr} (a it:Addr):gc P w K tg (pS K a) [it] it (λi h=>h.IsListIter it a i) where
 mem:=by simp
 obj:=λi h st b hb=>by
  have e:b=it:=by simpa using hb
  subst e;obtain ⟨o,e,c,d⟩:=st
  exact ⟨o,e,λv z=>by rw [d] at z;cases z⟩
 keep:=λi h h' st k=>st.at λo e=>k it (by simp) o e
 item:=by
  intro X hP hw hK hc i pins s σ H E I hf st hg;subst hP hw hK
  obtain ⟨xs,x,hq,hx⟩:=hg;obtain ⟨its,rv,p,hz⟩:=I.list hq;obtain ⟨u,hu,ru⟩:=rv.get hx;obtain ⟨f0,f1,f2,f3,f4,f5⟩:=hf it (by simp);refine wpAny_pyNext_list_item st p.isList (x:=u) (by simpa using hu) λh' st' sb=>?_
  have I1:Inv X pins σ H { s with heap:=h' }:=I.turned (t' := s.toks) (λb o hb e=>(sb.2 b hb).trans e) f0 f1 f3 f4 f5;obtain ⟨o,e,c,d⟩:=id st';exact ⟨u,rfl,pR (s:={ s with heap:=h' }) e c d (by decide) ⟨x,H,I1,ru,⟨rfl,λys hy=>by rw [I.list_inj hy hq];exact hx⟩,st',λb hb=>(hf b hb).1⟩⟩
 done:=by
  intro X hP hw hK hc i pins s σ H E I hf st hg;subst hP hw hK
  obtain ⟨xs,hq,hx⟩:=hg;obtain ⟨its,rv,p,hz⟩:=I.list hq;obtain ⟨f0,f1,f2,f3,f4,f5⟩:=hf it (by simp);have hl:=rv.length;exact wpAny_pyNext_list_end (I.ok.hd hc) st p.isList (by simp;lia) λh' eb=>⟨rfl,I.turned (t' := s.toks) (λb o hb e=>eb b o hb e) f0 f1 f3 f4 f5⟩
 self:=λ_ _ _ _ _ st h=>wpAny_pyIter_listiter st h
theorem Dm {P:Program} {w:World} {K:PySem.W.Frag} {tg:Expr} (a it:Addr):gc P w K tg (sX K a) [it] it (λi h=>h.IsTupleIter it a i) where
 mem:=by simp
 obj:=λi h st b hb=>by
  have e:b=it:=by simpa using hb
  subst e;obtain ⟨o,e,c,d⟩:=st
  exact ⟨o,e,λv z=>by rw [d] at z;cases z⟩
 keep:=λi h h' st k=>st.at λo e=>k it (by simp) o e
 item:=by
  intro X hP hw hK hc i pins s σ H E I hf st hg;subst hP hw hK
  obtain ⟨xs,x,hq,hx⟩:=hg;obtain ⟨its,rv,p,hz⟩:=I.tuple hq;obtain ⟨u,hu,ru⟩:=rv.get hx;obtain ⟨f0,f1,f2,f3,f4,f5⟩:=hf it (by simp);refine wpAny_pyNext_tuple_item st (show s.heap.IsTuple a its.toArray from p) (x:=u) (by simpa using hu) λh' st' sb=>?_
  have I1:Inv X pins σ H { s with heap:=h' }:=I.turned (t' := s.toks) (λb o hb e=>(sb.2 b hb).trans e) f0 f1 f3 f4 f5;obtain ⟨o,e,c,d⟩:=id st';exact ⟨u,rfl,pR (s:={ s with heap:=h' }) e c d (by decide) ⟨x,H,I1,ru,⟨rfl,λys hy=>by rw [I.tuple_inj hy hq];exact hx⟩,st',λb hb=>(hf b hb).1⟩⟩
 done:=by
  intro X hP hw hK hc i pins s σ H E I hf st hg;subst hP hw hK
  obtain ⟨xs,hq,hx⟩:=hg;obtain ⟨its,rv,p,hz⟩:=I.tuple hq;obtain ⟨f0,f1,f2,f3,f4,f5⟩:=hf it (by simp);have hl:=rv.length;exact wpAny_pyNext_tuple_end (I.ok.hd hc) st (show s.heap.IsTuple a its.toArray from p) (by simp;lia) λh' eb=>⟨rfl,I.turned (t' := s.toks) (λb o hb e=>eb b o hb e) f0 f1 f3 f4 f5⟩
 self:=λ_ _ _ _ _ st h=>wpAny_pyIter_tupleiter st h
theorem Do {P:Program} {w:World} {K:PySem.W.Frag} {tg:Expr} (it:Addr) (lo:Int) (n:Nat):gc P w K tg (pT lo n) [it] it (λi h=>IsRangeIter h it (lo+(i:Nat)*1) ((n:Int)-(i:Nat)) 1) where
 mem:=by simp
 obj:=λi h st b hb=>by
  have e:b=it:=by simpa using hb
  subst e;exact ⟨_,st,λv z=>by
   have z':Data.fields _=Data.cell v:=z
   cases z'⟩
 keep:=λi h h' st k=>k it (by simp) _ st
 item:=by
  intro X hP hw hK hc i pins s σ H E I hf st hg;subst hP hw hK
  obtain ⟨f0,f1,f2,f3,f4,f5⟩:=hf it (by simp);have W:=Walks.range (prog:=X.prog) (w:=X.w) (I.ok.hd hc) it lo 1 n;refine W.item i s _ _ hg st λv h' tk hv st' kk=>?_
  obtain ⟨t,rfl⟩:=hv;have I1:Inv X pins σ H { s with heap:=h',toks:=tk }:=I.turned (λb o hb e=>kk b o (by simpa using hb) e) f0 f1 f3 f4 f5;refine ⟨_,rfl,pR (s:={ s with heap:=h',toks:=tk }) (n := "range_iterator") st' rfl rfl (by decide) ⟨.int (lo+i),H,I1,⟨t,?_⟩,⟨rfl,rfl⟩,st',λb hb=>(hf b hb).1⟩⟩
  rw [Int.mul_one]
 done:=by
  intro X hP hw hK hc i pins s σ H E I hf st hg;subst hP hw hK
  obtain ⟨f0,f1,f2,f3,f4,f5⟩:=hf it (by simp);exact Qh (I.ok.hd hc) st (by have:n<=i:=hg;lia) λh' eb=>⟨rfl,I.turned (t' := s.toks) (λb o hb e=>eb b o hb e) f0 f1 f3 f4 f5⟩
 self:=λ_ _ _ _ _ st h=>Qi st h
section
variable {X:Cx} {tg:Expr}
def yf (K:PySem.W.Frag) (tl:TE):TI:=λσ H R=>tl σ H λx H1=>∃ a,x = .ref a/\(∃ xs,SqL K H1 a xs)/\R (pS K a) H1
def nj (K:PySem.W.Frag) (tl:TE):TI:=λσ H R=>tl σ H λx H1=>∃ a,x = .ref a/\(∃ xs,SqT K H1 a xs)/\R (sX K a) H1
theorem Dp {l:Expr} {tl:TE} (hl:PE X l tl):PI X tg l (yf X.K tl):=by
 intro pins s σ H R I h;refine thn (hl pins s σ H _ I h) λv s1 Zz=>?_;obtain ⟨x,H1,I1,r1,q1⟩:=Zz
 obtain ⟨a,e,⟨xs,hq⟩,q⟩:=q1;subst e
 cases r1
 obtain ⟨its,rv,p,hz⟩:=I1.list hq;refine PM p.isList ?_
 refine ⟨s1.heap.objs.size,[s1.heap.objs.size],_,_,H1,rfl,I1.kept (t' := s1.toks) λb o e=>MU _ e,Dl a _,⟨_,M9 _ rfl,rfl,rfl⟩,λb hb=>?_,q⟩
 have e:b=s1.heap.objs.size:=by simpa using hb
 subst e;exact I1.fpOk (MQ _) (I1.hok.fresh (MQ _))
theorem Dq {l:Expr} {tl:TE} (hl:PE X l tl):PI X tg l (nj X.K tl):=by
 intro pins s σ H R I h;refine thn (hl pins s σ H _ I h) λv s1 Zz=>?_;obtain ⟨x,H1,I1,r1,q1⟩:=Zz
 obtain ⟨a,e,⟨xs,hq⟩,q⟩:=q1;subst e
 cases r1
 obtain ⟨its,rv,p,hz⟩:=I1.tuple hq;refine wpAny_pyIter_tuple (show s1.heap.IsTuple a its.toArray from p) ?_
 refine ⟨s1.heap.objs.size,[s1.heap.objs.size],_,_,H1,rfl,I1.kept (t' := s1.toks) λb o e=>MU _ e,Dm a _,⟨_,M9 _ rfl,rfl,rfl⟩,λb hb=>?_,q⟩
 have e:b=s1.heap.objs.size:=by simpa using hb
 subst e;exact I1.fpOk (MQ _) (I1.hok.fresh (MQ _))
theorem Dr {pins:List (Addr×Obj)} {σ:St} {H:Hp} {s:Shared} {R:It->Hp->Prop} {E:Value->Shared->Prop} {lo hi:Int} {t u v:Tok} {tk:Nat} (I:Inv X pins σ H s) (h1 : -(2 ^ 62)<=lo) (h2:lo<2 ^ 62) (h3 : -(2 ^ 62)<=hi) (h4:hi<2 ^ 62)
  (q:R (pT lo (hi-lo).toNat) H):wpAny (model X.prog X.w) X.A (pyIter (.ref s.heap.objs.size)) (sW X pins σ tg R) E { s with heap:=s.heap.push { cls:=.type "range",data:=.fields #[.int lo t,.int hi u,.int 1 v] },toks:=tk }:=by
 refine Q7 (IsRange.new ..) (small_one h1 h2 h3 h4) ?_
 have I1:Inv X pins σ H { s with heap:=s.heap.push { cls:=.type "range",data:=.fields #[.int lo t,.int hi u,.int 1 v] },toks:=tk }:=I.kept λb o e=>MU _ e
 refine ⟨(s.heap.push { cls:=.type "range",data:=.fields #[.int lo t,.int hi u,.int 1 v] }).objs.size,[(s.heap.push { cls:=.type "range",data:=.fields #[.int lo t,.int hi u,.int 1 v] }).objs.size],_,_,H,rfl,
  I1.kept (t' := tk) λb o e=>MU _ e,Do _ lo (hi-lo).toNat,?_,λb hb=>?_,q⟩
 ·have e1:lo+((0:Nat):Int)*1=lo:=by simp
  have e2:(((hi-lo).toNat:Nat):Int)-((0:Nat):Int)=Builtin.Range.rangeSize lo hi 1:=by rw [rangeSize_one];split<;>omega
  show IsRangeIter _ _ (lo+((0:Nat):Int)*1) ((((hi-lo).toNat:Nat):Int)-((0:Nat):Int)) 1
  rw [e1,e2];exact M9 _ rfl
 ·have e:b=(s.heap.push { cls:=.type "range",data:=.fields #[.int lo t,.int hi u,.int 1 v] }).objs.size:=by simpa using hb
  subst e;exact I1.fpOk (MQ _) (I1.hok.fresh (MQ _))
def Ds (ta:TA):TI:=λσ H R=>ta σ H λvs H1=>∃ j:Int,vs=[.int j] /\ -(2 ^ 62)<=j/\j<2 ^ 62/\R (pT 0 j.toNat) H1
theorem Dt {a:Expr} {ta:TA} {p pos:Pos} (hg:Gl X "range") (hm:X.mg "range" = none) (ha:PA X [a] ta) (hs:starEach [a] X.env=[(false,eval a X.env)]:=by rfl):PI X tg (.Call (.Name "range" p) [a] [] pos) (Ds ta):=by
 intro pins s σ H R I h;refine Call_ (lU I hg hm boot_range (Oq (thn (ha pos pins s σ H _ I h) λus s1 Zz=>?_) hs rfl));obtain ⟨vs,H1,I1,r1,q1⟩:=Zz
 obtain ⟨j,e,q1,q2,q⟩:=q1;subst e
 cases r1 with
 | cons r rr =>
  cases rr
  obtain ⟨t,rfl⟩:=r;exact call_range_1 (Dr I1 (by lia) (by lia) q1 q2 (by simpa using q))
def sY (wi:TI) (g:TG) (tb:TS):TS:=λD σ H=>wi σ H λJ H1=>∃ W:Nat->Nat->St->Hp->Prop,(∃ m,W 0 m σ H1)/\∀ i m σ H,W i m σ H ->
 (J.stop i H/\D.nx σ H)\/(J.go i H/\∃ N:St->Hp->Prop,(∀ σ' H',N σ' H'->∃ m',m'<m/\W (i+1) m' σ' H')/\∀ x H',J.yld i H x H'->g x σ H' λσ2 H2=>tb { D with nx:=N,ct:=N,bk:=D.nx } σ2 H2)
def iQ (fp:List Addr) (h:Heap):List (Addr×Obj):=fp.filterMap λb=>(h.get? b).map λo=>(b,o)
theorem pU {fp:List Addr} {h:Heap} {b:Addr} {o:Obj} (hb:b∈fp) (e:h.get? b=some o):(b,o)∈iQ fp h:=QZ.mpr ⟨b,hb,by rw [e];rfl⟩
theorem Du {fp:List Addr} {h:Heap} {p:Addr×Obj} (hp:p∈iQ fp h):p.1∈fp/\h.get? p.1=some p.2:=by
 obtain ⟨b,hb,e⟩:=QZ.mp hp
 cases q:h.get? b with
 | none=>rw [q] at e;cases e
 | some o =>
  rw [q] at e;have e':(b,o)=p:=Nx e
  subst e'
  exact ⟨hb,q⟩
theorem Inv.pinned {pins:List (Addr×Obj)} {σ:St} {H:Hp} {s:Shared} {fp:List Addr} (I:Inv X pins σ H s) (hf:∀ b∈fp,dQ X pins H b) (ho:∀ b∈fp,∃ o,s.heap.get? b=some o/\∀ v,o.data ≠ .cell v):Inv X (pins++iQ fp s.heap) σ H s :=
 I.pins_of λp hp=>(NH.mp hp).elim (λz=>I.pin p (Np _ z)) λz=>by
  obtain ⟨hb,e⟩:=Du z;obtain ⟨f0,f1,f2,_⟩:=hf p.1 hb;obtain ⟨o,e',d⟩:=ho p.1 hb;rw [e] at e';cases e'
  exact ⟨e,f0,f1,f2,d⟩
theorem Inv.unpinned {pins pl:List (Addr×Obj)} {σ:St} {H:Hp} {s:Shared} (I:Inv X (pins++pl) σ H s):Inv X pins σ H s:=I.pins_of λp hp=>I.pin p (Np _ (Nh _ hp))
theorem Dv {iter:Expr} {body:List Stmt} {wi:TI} {g:TG} {tb:TS} {pos:Pos} (hp:PassesOwn (model X.prog X.w) X.A X.env X.xe) (hc:X.calm=true) (hi:PI X tg iter wi) (hg:PG X tg g) (hb:gb X body tb)
  (hs:∀ x,foldedSetIterable iter X.env x=pure x:=by intro _;rfl):PS X (.For tg iter body [] pos) (sY wi g tb):=by
 intro pins s σ H D I h;refine wpAny_For (thn (hi pins s σ H _ I h) λv s1 h1=>thn h1 λitv s2 h2=>?_) hs
 obtain ⟨it,fp,tn,J,H2,e,I2,T,st2,f2,W,⟨m0,w0⟩,turn⟩:=h2;subst e;have stat:∀ {H':Hp},(∀ b∈fp,H' b=none)->∀ b∈fp,dQ X pins H' b:=λhn b hb=>⟨hn b hb,(f2 b hb).2⟩
 refine codeAny_forLoop_any (λn s' => ∃ i σ' H',Inv X pins σ' H' s'/\tn i s'.heap/\(∀ b∈fp,H' b=none)/\W i n σ' H') ?_ m0 ⟨0,σ,H2,I2,st2,λb hb=>(f2 b hb).1,w0⟩
 rintro n s3 ⟨i,σ3,H3,I3,st3,fr3,w3⟩
 rcases turn i n σ3 H3 w3 with ⟨stop,qn⟩ | ⟨go,N,hN,step⟩
 ·refine O6 hp (thn (T.done X rfl rfl rfl hc i pins s3 σ3 H3 X.xe I3 (stat fr3) st3 stop) λr s4 Zz=>?_);obtain ⟨hr,I4⟩:=Zz
  subst hr;exact Pp ⟨σ3,H3,I4,qn⟩
 ·refine O6 hp (thn (T.item X rfl rfl rfl hc i pins s3 σ3 H3 X.xe I3 (stat fr3) st3 go) λr s4 Zz=>?_);obtain ⟨u,hr,h4⟩:=Zz
  subst hr;refine O6 hp (thn h4 λ_ s5 Zz=>?_);obtain ⟨x,H5,I5,r5,y5,st5,fr5⟩:=Zz
  have I5' := I5.pinned (stat fr5) (T.obj _ _ st5);refine O6 hp (thn (hg _ s5 σ3 H5 x u _ I5' r5 (step x H5 y5)) λ_ s6 Zz=>?_);obtain ⟨σ6,H6,I6,q6⟩:=Zz
  refine O6 hp (thn (hb _ s6 σ6 H6 _ I6 q6) λf s7 q7=>?_)
  have again:∀ {σ7:St} {H7:Hp},Inv X (pins++iQ fp s5.heap) σ7 H7 s7->N σ7 H7->∃ m,m<n/\∃ i σ' H',Inv X pins σ' H' s7/\tn i s7.heap/\(∀ b∈fp,H' b=none)/\W i m σ' H' := λ{σ7 H7} I7 n7=>by
   obtain ⟨m',hm,w7⟩:=hN σ7 H7 n7;refine ⟨m',hm,i+1,σ7,H7,I7.unpinned,T.keep _ _ _ st5 λb hb o e=>(I7.pin (b,o) (Np _ (Np _ (pU hb e)))).1,λb hb=>?_,w7⟩
   obtain ⟨o,e,d⟩:=T.obj _ _ st5 b hb;exact (I7.pin (b,o) (Np _ (Np _ (pU hb e)))).2.1
  cases f with
  | next=>obtain ⟨σ7,H7,I7,n7⟩:=q7;exact again I7 n7
  | cont=>obtain ⟨σ7,H7,I7,n7⟩:=q7;exact again I7 n7
  | brk=>obtain ⟨σ7,H7,I7,q7⟩:=q7;exact ⟨σ7,H7,I7.unpinned,q7⟩
  | ret v=>obtain ⟨x7,σ7,H7,I7,r7,q7⟩:=q7;exact ⟨x7,σ7,H7,I7.unpinned,r7,q7⟩
end
abbrev R2:=V->V->Hp->VK->Prop
def OpR (X:Cx) (f:Value->Value->Sem Value) (r:R2):Prop :=
 ∀ (pins:List (Addr×Obj)) (s:Shared) (σ:St) (H:Hp) (x y:V) (v u:Value) (Q:VK),Inv X pins σ H s->RelV x v->RelV y u->r x y H Q ->
  wpAny (model X.prog X.w) X.A (f v u) (EP X pins σ Q) X.xe s
def sZ (X:Cx) (f:Value->Sem Value) (r:V->Hp->VK->Prop):Prop :=
 ∀ (pins:List (Addr×Obj)) (s:Shared) (σ:St) (H:Hp) (x:V) (v:Value) (Q:VK),Inv X pins σ H s->RelV x v->r x H Q ->
  wpAny (model X.prog X.w) X.A (f v) (EP X pins σ Q) X.xe s
def CallR (X:Cx) (f:Value) (r:List V->Hp->VK->Prop):Prop :=
 ∀ (pins:List (Addr×Obj)) (s:Shared) (σ:St) (H:Hp) (xs:List V) (us:List Value) (Q:VK),Inv X pins σ H s->Vals xs us->r xs H Q ->
  wpAny (model X.prog X.w) X.A (call f us) (EP X pins σ Q) X.xe s
def tf (X:Cx) (r:V->Hp->(Bool->Hp->Prop)->Prop):Prop :=
 ∀ (pins:List (Addr×Obj)) (s:Shared) (σ:St) (H:Hp) (x:V) (v:Value) (Q:Bool->Hp->Prop),Inv X pins σ H s->RelV x v->r x H Q ->
  wpAny (model X.prog X.w) X.A (truthy v) (TP X pins σ Q) X.xe s
def lW (r:R2) (ta tb:TE):TE:=λσ H Q=>ta σ H λx H1=>tb σ H1 λy H2=>r x y H2 Q
def Dw (r:V->Hp->VK->Prop) (ta:TE):TE:=λσ H Q=>ta σ H λx H1=>r x H1 Q
def rI (C:Int->Int->Prop) (g:Int->Int->V):R2:=λx y H Q=>∃ i j,x = .int i/\y = .int j/\C i j/\Q (g i j) H
def jW (g:Int->Int->V):R2:=λx y H Q=>∃ i j,x = .int i/\y = .int j/\Q (g i j) H
def rU (g:Int->V):V->Hp->VK->Prop:=λx H Q=>∃ i,x = .int i/\Q (g i) H
section
variable {X:Cx} {a b c:Expr} {ta tb tc:TE} {pos:Pos}
theorem kE (ha:PE X a ta) (hb:PE X b tb) {pins:List (Addr×Obj)} {s:Shared} {σ:St} {H:Hp} {R:V->V->Hp->Prop} (I:Inv X pins σ H s)
  (h:ta σ H λx H1=>tb σ H1 λy H2=>R x y H2) {Q:Value->Shared->Prop} {f:Value->Value->Sem Value}
  (hf:∀ v u s2 x y H2,Inv X pins σ H2 s2->RelV x v->RelV y u->R x y H2->wpAny (model X.prog X.w) X.A (f v u) Q X.xe s2) :
  wpAny (model X.prog X.w) X.A (eval a X.env) (λv s₁=>wpAny (model X.prog X.w) X.A (eval b X.env) (λu s₂=>wpAny (model X.prog X.w) X.A (f v u) Q X.xe s₂) X.xe s₁) X.xe s:=by
 refine thn (ha pins s σ H _ I h) λv s1 Zz=>?_;obtain ⟨x,H1,I1,r1,q1⟩:=Zz
 refine thn (hb pins s1 σ H1 _ I1 q1) λu s2 Zz=>?_;obtain ⟨y,H2,I2,r2,q2⟩:=Zz
 exact hf v u s2 x y H2 I2 r1 r2 q2
theorem Dx {op:Operator} {r:R2} (ho:OpR X (binaryOp op) r) (ha:PE X a ta) (hb:PE X b tb):PE X (.BinOp a op b pos) (lW r ta tb):=by
 intro pins s σ H Q I h;exact wpAny_BinOp (kE ha hb I h λv u s2 x y H2 I2 rx ry q=>ho pins s2 σ H2 x y v u Q I2 rx ry q)
theorem Dy {op:UnaryOp} {r:V->Hp->VK->Prop} (ho:sZ X (unaryOp op) r) (ha:PE X a ta):PE X (.UnaryOp op a pos) (Dw r ta):=by
 intro pins s σ H Q I h;exact UnaryOp_ (thn (ha pins s σ H _ I h) λv s1 ⟨x,H1,I1,r1,q1⟩=>ho pins s1 σ H1 x v Q I1 r1 q1)
theorem pV {f:Value->Value->Sem Value} {C:Int->Int->Prop} {g:Int->Int->Int}
  (rule:∀ (i j:Int) (t u:Tok) (s:Shared) (Q:Value->Shared->Prop) (E:Value->Shared->Prop),C i j->Q (.int (g i j) s.toks) { s with toks:=s.toks+1 }->wpAny (model X.prog X.w) X.A (f (.int i t) (.int j u)) Q E s) :
  OpR X f (rI C λi j=>.int (g i j)):=by
 intro pins s σ H x y v u Q I rx ry h;obtain ⟨i,j,rfl,rfl,hc,q⟩:=h;obtain ⟨t,rfl⟩:=rx;obtain ⟨t',rfl⟩:=ry;exact rule i j t t' s _ _ hc ⟨.int (g i j),H,I.tok _,⟨_,rfl⟩,q⟩
theorem nk {f:Value->Value->Sem Value} {g:Int->Int->Int}
  (rule:∀ (i j:Int) (t u:Tok) (s:Shared) (Q:Value->Shared->Prop) (E:Value->Shared->Prop),Q (.int (g i j) s.toks) { s with toks:=s.toks+1 }->wpAny (model X.prog X.w) X.A (f (.int i t) (.int j u)) Q E s) :
  OpR X f (jW λi j=>.int (g i j)):=by
 intro pins s σ H x y v u Q I rx ry h;obtain ⟨i,j,rfl,rfl,q⟩:=h;obtain ⟨t,rfl⟩:=rx;obtain ⟨t',rfl⟩:=ry;exact rule i j t t' s _ _ ⟨.int (g i j),H,I.tok _,⟨_,rfl⟩,q⟩
theorem jc {f:Value->Value->Sem Value} {g:Int->Int->Bool}
  (rule:∀ (i j:Int) (t u:Tok) (s:Shared) (Q:Value->Shared->Prop) (E:Value->Shared->Prop),Q (.bool (g i j)) s->wpAny (model X.prog X.w) X.A (f (.int i t) (.int j u)) Q E s) :
  OpR X f (jW λi j=>.bl (g i j)):=by
 intro pins s σ H x y v u Q I rx ry h;obtain ⟨i,j,rfl,rfl,q⟩:=h;obtain ⟨t,rfl⟩:=rx;obtain ⟨t',rfl⟩:=ry;exact rule i j t t' s _ _ ⟨.bl (g i j),H,I,rfl,q⟩
def tj (i j:Int):Prop:=0<=j/\j<=1000000/\i.natAbs<2 ^ 64
def CMul (i j:Int):Prop:=(-(2 ^ 64)<i/\i<2 ^ 64)\/(-(2 ^ 64)<j/\j<2 ^ 64)
theorem CMul.ok {i j:Int} (h:CMul i j):IntMulOk i j:=by
 rcases h with ⟨h1,h2⟩ | ⟨h1,h2⟩
 ·exact .of_left (intBits_le_64 h1 h2)
 ·exact .of_right (intBits_le_64 h1 h2)
theorem op_add:OpR X (binaryOp .Add) (jW λi j=>.int (i+j)):=nk λ_ _ _ _ _ _ _ q=>add_int q
theorem DA:OpR X (binaryOp .Sub) (jW λi j=>.int (i-j)):=nk λ_ _ _ _ _ _ _ q=>sub_int q
theorem DB:OpR X (binaryOp .Mod) (rI (λ_ j=>0<j) λi j=>.int (i % j)):=pV λi j _ _ _ _ _ hc q=>by
 have h1:(0:Int)<j:=hc;exact mod_int' (by lia) (by rw [Int.fmod_eq_emod_of_nonneg i (by lia)];exact q)
theorem DC:OpR X (binaryOp .Pow) (rI tj λi j=>.int (i ^ j.toNat)):=pV λ_ _ _ _ _ _ _ hc q=>pow_int_small hc.1 hc.2.1 hc.2.2 q
theorem DD {f:Value->Sem Value} {g:Int->Int}
  (rule:∀ (i:Int) (t:Tok) (s:Shared) (Q:Value->Shared->Prop) (E:Value->Shared->Prop),Q (.int (g i) s.toks) { s with toks:=s.toks+1 }->wpAny (model X.prog X.w) X.A (f (.int i t)) Q E s) :
  sZ X f (rU λi=>.int (g i)):=by
 intro pins s σ H x v Q I rx h;obtain ⟨i,rfl,q⟩:=h;obtain ⟨t,rfl⟩:=rx;exact rule i t s _ _ ⟨.int (g i),H,I.tok _,⟨_,rfl⟩,q⟩
theorem DE:sZ X (unaryOp .USub) (rU λi=>.int (-i)):=DD λ_ _ _ _ _ q=>neg_int q
end
def kF:V->V->Bool
 | .non,.non=>true | .non,.int _=>true | .int _,.non=>true | .non,.bl _=>true | .bl _,.non=>true | .non,.str _=>true | .str _,.non=>true
 | .int _,.int _=>true | .bl _,.bl _=>true | .str _,.str _=>true | .byt _,.byt _=>true
 | .int _,.str _=>true | .str _,.int _=>true | .bl _,.str _=>true | .str _,.bl _=>true
 | _,_=>false
def DF:R2:=λx y H Q=>kF x y=true/\Q (.bl (decide (x=y))) H
def DH:R2:=λx y H Q=>kF x y=true/\Q (.bl (!decide (x=y))) H
theorem yg {i j:Int}:decide (V.int i=V.int j)=(i == j):=by
 rw [Oh];simp
theorem yh {i j:Bool}:decide (V.bl i=V.bl j)=(i == j):=by
 rw [Oh];simp
theorem yi {i j:Str}:decide (V.str i=V.str j)=(i == j):=by
 rw [Oh];simp
theorem yj {i j:Array UInt8}:decide (V.byt i=V.byt j)=(i.toList == j.toList):=by
 rw [Oh]
 cases i
 cases j
 simp
section
variable {X:Cx} {a b c:Expr} {ta tb tc:TE} {pos:Pos}
theorem cE {pins:List (Addr×Obj)} {σ:St} {H:Hp} {s:Shared} {Q:VK} {k k':Bool} (I:Inv X pins σ H s) (q:Q (.bl k) H) (e:k=k'):EP X pins σ Q (.bool k') s:=by
 subst e;exact ⟨.bl k,H,I,rfl,q⟩
theorem op_eq:OpR X (compareOp .Eq) DF:=by
 intro pins s σ H x y v u Q I rx ry h;obtain ⟨hs,q⟩:=h
 cases x with
 | non =>
  cases rx
  cases y with
  | non=>cases ry;exact PySem.EqNone.eq_none_none (cE I q (by simp))
  | bl j=>cases ry;exact PySem.EqNone.eq_none_bool (cE I q (by simp))
  | int j=>obtain ⟨t',rfl⟩:=ry;exact PySem.EqNone.eq_none_int (cE I q (by simp))
  | str j=>obtain ⟨t',rfl⟩:=ry;exact PySem.EqNone.eq_none_str (cE I q (by simp))
  | _=>exact absurd (show false=true from hs) Ni
 | bl i =>
  cases rx
  cases y with
  | non=>cases ry;exact PySem.EqNone.eq_bool_none (cE I q (by simp))
  | bl j=>cases ry;exact eq_bool (cE I q yh)
  | str j=>obtain ⟨t',rfl⟩:=ry;exact PySem.EqMixed.eq_bool_str (cE I q (by simp))
  | _=>exact absurd (show false=true from hs) Ni
 | int i =>
  obtain ⟨t,rfl⟩:=rx
  cases y with
  | non=>cases ry;exact PySem.EqNone.eq_int_none (cE I q (by simp))
  | int j=>obtain ⟨t',rfl⟩:=ry;exact eq_int (cE I q yg)
  | str j=>obtain ⟨t',rfl⟩:=ry;exact PySem.EqMixed.eq_int_str (cE I q (by simp))
  | _=>exact absurd (show false=true from hs) Ni
 | str i =>
  obtain ⟨t,rfl⟩:=rx
  cases y with
  | non=>cases ry;exact PySem.EqNone.eq_str_none (cE I q (by simp))
  | bl j=>cases ry;exact PySem.EqMixed.eq_str_bool (cE I q (by simp))
  | int j=>obtain ⟨t',rfl⟩:=ry;exact PySem.EqMixed.eq_str_int (cE I q (by simp))
  | str j=>obtain ⟨t',rfl⟩:=ry;exact eq_str (cE I q yi)
  | _=>exact absurd (show false=true from hs) Ni
 | byt i =>
  obtain ⟨t,rfl⟩:=rx
  cases y with
  | byt j=>obtain ⟨t',rfl⟩:=ry;exact PySem.W.eq_bytes (cE I q yj)
  | _=>exact absurd (show false=true from hs) Ni
 | _=>cases y<;>exact absurd (show false=true from hs) Ni
theorem op_ne:OpR X (compareOp .NotEq) DH:=by
 intro pins s σ H x y v u Q I rx ry h;obtain ⟨hs,q⟩:=h
 cases x with
 | non =>
  cases rx
  cases y with
  | non=>cases ry;exact PySem.EqNone.ne_none_none (cE I q (by simp))
  | bl j=>cases ry;exact PySem.EqNone.ne_none_bool (cE I q (by simp))
  | int j=>obtain ⟨t',rfl⟩:=ry;exact PySem.EqNone.ne_none_int (cE I q (by simp))
  | str j=>obtain ⟨t',rfl⟩:=ry;exact PySem.EqNone.ne_none_str (cE I q (by simp))
  | _=>exact absurd (show false=true from hs) Ni
 | bl i =>
  cases rx
  cases y with
  | non=>cases ry;exact PySem.EqNone.ne_bool_none (cE I q (by simp))
  | bl j=>cases ry;exact ne_bool (cE I q (congrArg not yh))
  | str j=>obtain ⟨t',rfl⟩:=ry;exact PySem.EqMixed.ne_bool_str (cE I q (by simp))
  | _=>exact absurd (show false=true from hs) Ni
 | int i =>
  obtain ⟨t,rfl⟩:=rx
  cases y with
  | non=>cases ry;exact PySem.EqNone.ne_int_none (cE I q (by simp))
  | int j=>obtain ⟨t',rfl⟩:=ry;exact ne_int (cE I q (congrArg not yg))
  | str j=>obtain ⟨t',rfl⟩:=ry;exact PySem.EqMixed.ne_int_str (cE I q (by simp))
  | _=>exact absurd (show false=true from hs) Ni
 | str i =>
  obtain ⟨t,rfl⟩:=rx
  cases y with
  | non=>cases ry;exact PySem.EqNone.ne_str_none (cE I q (by simp))
  | bl j=>cases ry;exact PySem.EqMixed.ne_str_bool (cE I q (by simp))
  | int j=>obtain ⟨t',rfl⟩:=ry;exact PySem.EqMixed.ne_str_int (cE I q (by simp))
  | str j=>obtain ⟨t',rfl⟩:=ry;exact ne_str (cE I q (congrArg not yi))
  | _=>exact absurd (show false=true from hs) Ni
 | byt i =>
  obtain ⟨t,rfl⟩:=rx
  cases y with
  | byt j=>obtain ⟨t',rfl⟩:=ry;exact PySem.W.ne_bytes (cE I q (congrArg not yj))
  | _=>exact absurd (show false=true from hs) Ni
 | _=>cases y<;>exact absurd (show false=true from hs) Ni
theorem op_lt:OpR X (compareOp .Lt) (jW λi j=>.bl (decide (i<j))):=jc λ_ _ _ _ _ _ _ q=>lt_int q
theorem op_le:OpR X (compareOp .LtE) (jW λi j=>.bl (decide (i<=j))):=jc λ_ _ _ _ _ _ _ q=>le_int q
theorem DJ:OpR X (compareOp .Gt) (jW λi j=>.bl (decide (j<i))):=jc λ_ _ _ _ _ _ _ q=>gt_int q
theorem DL:OpR X (compareOp .GtE) (jW λi j=>.bl (decide (j<=i))):=jc λ_ _ _ _ _ _ _ q=>ge_int q
theorem DM:OpR X (compareOp .Lt) (λx y H Q=>∃ i j,x = .str i/\y = .str j/\Q (.bl (decide (i.cps.toList<j.cps.toList))) H):=by
 intro pins s σ H x y v u Q I rx ry h;obtain ⟨i,j,rfl,rfl,q⟩:=h;obtain ⟨t,rfl⟩:=rx;obtain ⟨t',rfl⟩:=ry;exact lt_str (cE I q rfl)
theorem zhL:OpR X (compareOp .In) (λx y H Q=>∃ i j,x = .str i/\y = .str j/\Q (.bl (!(Builtin.Str.occurrences j i 0 j.length 1).isEmpty)) H):=by
 intro pins s σ H x y v u Q I rx ry h;obtain ⟨i,j,rfl,rfl,q⟩:=h;obtain ⟨t,rfl⟩:=rx;obtain ⟨t',rfl⟩:=ry;exact in_str (cE I q rfl)
theorem DO:OpR X (compareOp .Is) (λx y H Q=>y = .non/\Q (.bl (decide (x = .non))) H):=by
 intro pins s σ H x y v u Q I rx ry h;obtain ⟨rfl,q⟩:=h
 cases ry
 refine is_none_gen (cE I q ?_)
 cases x<;>first
  | (cases rx;rfl)
  | (obtain ⟨t,rfl⟩:=rx;rfl)
theorem OpR.or {f:Value->Value->Sem Value} {r r':R2} (h:OpR X f r) (h':OpR X f r'):OpR X f (λx y H Q=>r x y H Q\/r' x y H Q):=by
 intro pins s σ H x y v u Q I rx ry q;rcases q with q | q
 ·exact h pins s σ H x y v u Q I rx ry q
 ·exact h' pins s σ H x y v u Q I rx ry q
theorem aZ (b:Expr) {op:CmpOp} (h:op ≠ .In:=by decide) (h2:op ≠ .NotIn:=by decide):behindInMarks op b=false:=by
 have e1:(op == CmpOp.In)=false:=by cases op<;>first | rfl | exact absurd rfl h
 have e2:(op == CmpOp.NotIn)=false:=by cases op<;>first | rfl | exact absurd rfl h2
 cases b<;>simp [behindInMarks,e1,e2]
theorem DP {op:CmpOp} {r:R2} (ho:OpR X (compareOp op) r) (ha:PE X a ta) (hb:PE X b tb) (hm:behindInMarks op b=false):PE X (.Compare a [op] [b] pos) (lW r ta tb):=by
 intro pins s σ H Q I h;exact wpAny_Compare1 (kE ha hb I h λv u s2 x y H2 I2 rx ry q=>ho pins s2 σ H2 x y v u Q I2 rx ry q) hm
def tm (t:TE):TT:=λσ H Q=>t σ H λx H' => ∃ k,x = .bl k/\Q k H'
theorem DQ {op:CmpOp} {r:R2} (ho:OpR X (compareOp op) r) (ha:PE X a ta) (hb:PE X b tb) (hm:behindInMarks op b=false):PT X (.Compare a [op] [b] pos) (tm (lW r ta tb)):=by
 intro pins s σ H Q I h;refine wpAny_isTrue_Compare1 (thn (ha pins s σ H _ I h) λv s1 ⟨x,H1,I1,r1,q1⟩=>thn (hb pins s1 σ H1 _ I1 q1) λu s2 ⟨y,H2,I2,r2,q2⟩ =>
  thn (ho pins s2 σ H2 x y v u _ I2 r1 r2 q2) λc s3 ⟨z,H3,I3,r3,k,e,q3⟩=>?_) hm
 subst e
 cases r3
 exact Ng ⟨H3,I3,q3⟩
def tq (r r':R2) (ta tb tc:TE):TE:=λσ H Q=>ta σ H λx H1=>tb σ H1 λy H2=>r x y H2 λz H3=>∃ k,z = .bl k /\
 (if k=true then tc σ H3 λw' H4=>r' y w' H4 Q else Q (.bl false) H3)
theorem DR {op op':CmpOp} {r r':R2} (ho:OpR X (compareOp op) r) (ho':OpR X (compareOp op') r') (ha:PE X a ta) (hb:PE X b tb) (hc:PE X c tc)
  (hm:lastMarks [op,op'] [b,c]=false:=by with_unfolding_all rfl):PE X (.Compare a [op,op'] [b,c] pos) (tq r r' ta tb tc):=by
 intro pins s σ H Q I h;refine Compare_chain (thn (ha pins s σ H _ I h) λv s1 ⟨x,H1,I1,r1,q1⟩=>Rr (thn (hb pins s1 σ H1 _ I1 q1) λu s2 ⟨y,H2,I2,r2,q2⟩ =>
  thn (ho pins s2 σ H2 x y v u _ I2 r1 r2 q2) λd s3 ⟨z,H3,I3,r3,k,e,q3⟩=>?_)) hm
 subst e
 cases r3
 refine Ng ?_
 cases k with
 | false=>exact ite_ff ⟨.bl false,H3,I3,rfl,q3⟩
 | true=>exact ite_tt (chain_last (thn (hc pins s3 σ H3 _ I3 q3) λw' s4 ⟨z',H4,I4,r4,q4⟩=>ho' pins s4 σ H4 y z' u w' Q I4 r2 r4 q4))
theorem DS {op op':CmpOp} {r r':R2} (ho:OpR X (compareOp op) r) (ho':OpR X (compareOp op') r') (ha:PE X a ta) (hb:PE X b tb) (hc:PE X c tc)
  (hm:lastMarks [op,op'] [b,c]=false:=by with_unfolding_all rfl):PT X (.Compare a [op,op'] [b,c] pos) (tm (tq r r' ta tb tc)):=by
 intro pins s σ H Q I h;refine isTrue_chain (thn (ha pins s σ H _ I h) λv s1 ⟨x,H1,I1,r1,q1⟩=>test_link (thn (hb pins s1 σ H1 _ I1 q1) λu s2 ⟨y,H2,I2,r2,q2⟩ =>
  thn (ho pins s2 σ H2 x y v u _ I2 r1 r2 q2) λd s3 ⟨z,H3,I3,r3,k,e,q3⟩=>?_)) hm
 subst e
 cases r3
 refine Ng ?_
 cases k with
 | false =>
  obtain ⟨k',e',q'⟩:=q3
  cases e'
  exact ite_ff ⟨H3,I3,q'⟩
 | true =>
  refine ite_tt (test_last (thn (hc pins s3 σ H3 _ I3 q3) λw' s4 ⟨z',H4,I4,r4,q4⟩=>thn (ho' pins s4 σ H4 y z' u w' _ I4 r2 r4 q4) λd' s5 Zz=>?_));obtain ⟨z2,H5,I5,r5,k2,e2,q5⟩:=Zz
  subst e2
  cases r5
  exact Ng ⟨H5,I5,q5⟩
def jd (K:PySem.W.Frag) (x:V) (H:Hp) (k:Bool):Prop :=
 match x with
 | .non=>k=false
 | .bl b=>k=b
 | .int i=>k=(i != 0)
 | .str y=>y.length<=sizeLine/\k=((y.length:Int) != 0)
 | .byt y=>y.size<=sizeLine/\k=((y.size:Int) != 0)
 | .ref p=>(∃ xs,SqL K H p xs/\k = !xs.isEmpty)\/(∃ xs,SqT K H p xs/\k = !xs.isEmpty)\/∃ kvs,H p=some (.dK kvs)/\k = !kvs.isEmpty
 | _=>False
theorem DT {κ:Type} {kvs:List (κ×V)} {vs:List (κ×Value)} (r:KV kvs vs):(!vs.isEmpty) = !kvs.isEmpty:=by
 cases r<;>rfl
theorem yk {xs:List V} {its:List Value} (r:Vals xs its):(!its.toArray.isEmpty) = !xs.isEmpty:=by
 cases r<;>simp
theorem kH:(sizeLine:Nat)<2 ^ 63:=by rw [sizeLine_eq];decide
theorem yl:tf X (λx H Q=>∃ k,jd X.K x H k/\Q k H):=by
 intro pins s σ H x v Q I rx h;obtain ⟨k,e,q⟩:=h;have hl:=kH;have hs:sizeLine=16777216:=sizeLine_eq
 cases x with
 | non =>
  cases rx
  have e':k=false:=e;subst e'
  exact truthy_none ⟨H,I,q⟩
 | bl b =>
  cases rx
  have e':k=b:=e;subst e'
  exact Ng ⟨H,I,q⟩
 | int i =>
  obtain ⟨t,rfl⟩:=rx;have e':k=(i != 0):=e;subst e'
  exact PySem.P.truthy_int ⟨H,I,q⟩
 | str y =>
  obtain ⟨t,rfl⟩:=rx;obtain ⟨hy,e'⟩:y.length<=sizeLine/\k=((y.length:Int) != 0):=e;subst e'
  exact PySem.P.truthy_str (by lia) ⟨H,I.tok _,q⟩
 | byt y =>
  obtain ⟨t,rfl⟩:=rx;obtain ⟨hy,e'⟩:y.size<=sizeLine/\k=((y.size:Int) != 0):=e;subst e'
  exact PySem.W.truthy_bytes (by lia) ⟨H,I.tok _,q⟩
 | ref p =>
  cases rx
  have e':(∃ xs,SqL X.K H p xs/\k = !xs.isEmpty)\/(∃ xs,SqT X.K H p xs/\k = !xs.isEmpty)\/∃ kvs,H p=some (.dK kvs)/\k = !kvs.isEmpty:=e;rcases e' with ⟨xs,hx,e'⟩ | ⟨xs,hx,e'⟩ | ⟨kvs,hx,e'⟩
  ·subst e'
   obtain ⟨its,r,pl,hz⟩:=I.list hx;have hlen:=r.length;exact wpAny_truthy_list pl.isList (by simp only [M7];lia) ⟨H,I.tok _,by rw [yk r];exact q⟩
  ·subst e'
   obtain ⟨its,r,pl,hz⟩:=I.tuple hx;have hlen:=r.length;exact truthy_tuple pl (by simp only [M7];lia) ⟨H,I.tok _,by rw [yk r];exact q⟩
  ·subst e'
   obtain ⟨hz,hS,vs,r,m⟩:kvs.length<=sizeLine/\(p == sysModules)=false/\∃ vs,KV kvs vs/\s.heap.DictOf (fW X.prog X.w) p vs:=I.hok p _ hx;have hlen:kvs.length=vs.length:=Paired.length r;exact wpAny_truthy_dict hS m (by lia) ⟨H,I.tok _,by rw [DT r];exact q⟩
 | _=>exact (show False from e).elim
theorem DV (ha:PE X a ta) (he:∀ whole,isTrue a X.env whole=(do let v <- whole;standAt a.pos;holding [v] (truthy v))) :
  PT X a (λσ H Q=>ta σ H λx H' => ∃ k,jd X.K x H' k/\Q k H'):=by
 intro pins s σ H Q I h;exact isTrue_plain (thn (ha pins s σ H _ I h) λv s1 ⟨x,H1,I1,r1,q1⟩=>yl pins s1 σ H1 x v Q I1 r1 q1) (he _)
theorem zha:OpR X (binaryOp .Add) (λx y H Q=>∃ i j,x = .str i/\y = .str j/\i.length+j.length<=sizeLine/\Q (.str (i++j)) H):=by
 intro pins s σ H x y v u Q I rx ry h;obtain ⟨i,j,rfl,rfl,hz,q⟩:=h;obtain ⟨t,rfl⟩:=rx;obtain ⟨t',rfl⟩:=ry;exact add_str (λt' tk=>⟨.str (i++j),H,I.tok _,⟨_,rfl⟩,q⟩) hz
theorem je {x:V} {us:List Value} (r:Vals [x] us):∃ u,us=[u]/\RelV x u:=by
 cases r with
 | cons r1 r2=>cases r2;exact ⟨_,rfl,r1⟩
theorem pW {x y:V} {us:List Value} (r:Vals [x,y] us):∃ u w',us=[u,w']/\RelV x u/\RelV y w' := by
 cases r with
 | cons r1 r2 =>
  cases r2 with
  | cons r3 r4=>cases r4;exact ⟨_,_,rfl,r1,r3⟩
theorem DW:CallR X (.builtin "abs") (λxs H Q=>∃ i,xs=[.int i]/\Q (.int (if i<0 then -i else i)) H):=by
 intro pins s σ H xs us Q I r h;obtain ⟨i,rfl,q⟩:=h;obtain ⟨u,rfl,t,rfl⟩:=je r;exact call_abs_int λu tk=>⟨.int (if i<0 then -i else i),H,I.tok _,⟨_,rfl⟩,q⟩
theorem DX (hc:X.calm=true):CallR X (.builtin "max") (λxs H Q=>∃ i j,xs=[.int i,.int j]/\Q (.int (if j > i then j else i)) H):=by
 intro pins s σ H xs us Q I r h;obtain ⟨i,j,rfl,q⟩:=h;obtain ⟨u,w',rfl,⟨t,rfl⟩,⟨t',rfl⟩⟩:=pW r;refine max_two_ints (I.ok.hd hc) λh' tk k=>⟨_,H,I.kept k,?_,q⟩
 by_cases hj:j > i
 ·rw [MW hj,MW hj];exact ⟨_,rfl⟩
 ·rw [MX hj,MX hj];exact ⟨_,rfl⟩
theorem DY (hc:X.calm=true):CallR X (.builtin "min") (λxs H Q=>∃ i j,xs=[.int i,.int j]/\Q (.int (if j<i then j else i)) H):=by
 intro pins s σ H xs us Q I r h;obtain ⟨i,j,rfl,q⟩:=h;obtain ⟨u,w',rfl,⟨t,rfl⟩,⟨t',rfl⟩⟩:=pW r;refine min_two_ints (I.ok.hd hc) λh' tk k=>⟨_,H,I.kept k,?_,q⟩
 by_cases hj:j<i
 ·rw [MW hj,MW hj];exact ⟨_,rfl⟩
 ·rw [MX hj,MX hj];exact ⟨_,rfl⟩
theorem DZ:CallR X (.type "int") (λxs H Q=>(∃ i,xs=[.int i]/\Q (.int i) H)\/∃ k,xs=[.bl k]/\Q (.int (if k then 1 else 0)) H):=by
 intro pins s σ H xs us Q I r h;rcases h with ⟨i,rfl,q⟩ | ⟨k,rfl,q⟩
 ·obtain ⟨u,rfl,t,rfl⟩:=je r
  exact call_int_int ⟨.int i,H,I,⟨_,rfl⟩,q⟩
 ·obtain ⟨u,rfl,r1⟩:=je r
  cases r1
  exact call_int_bool ⟨.int (if k then 1 else 0),H,I.tok _,⟨_,rfl⟩,q⟩
end
structure ObjM (h:Heap) (x dx C:Addr) (mA:Str->Option Value):Prop where
 obj:h.get? x=some (PySem.W.instObj C dx)
 ns:h.Ns1 dx mA
 ne:dx≠x
theorem D4 {h:Heap} {dx:Addr} {mA:Str->Option Value} (n:h.Ns1 dx mA):∃ od,h.get? dx=some od/\∀ name,PySem.W.lookIn name od=some (mA name):=by
 obtain ⟨o,es,ep,ho,hd,hk,_,hm⟩:=n;refine ⟨o,ho,λname=>?_⟩
 have e:=hm name;unfold nsFind findBy at e;rw [<- Array.find?_toList] at e;unfold PySem.W.lookIn
 rw [hd];dsimp only;split
 ·rename_i y q
  rw [q] at e;exact congrArg some e
 ·rename_i q
  rw [q] at e;have a:es.toList.any (·.refKey)=false:=by
   rw [List.any_eq_false];intro y hy
   obtain ⟨z,t,hkey⟩:=hk y (Array.mem_toList_iff.mp hy);simp [DictEntry.refKey,hkey]
  have a' : ¬ es.toList.any (·.refKey)=true:=by rw [a];exact Ni
  rw [MX a'];exact congrArg some e
theorem ObjM.look {h:Heap} {x dx C:Addr} {mA:Str->Option Value} (I:ObjM h x dx C mA):∃ od,PySem.W.InstAt h x (PySem.W.instObj C dx) C (some od)/\∀ name,PySem.W.lookIn name od=some (mA name) :=
 let ⟨od,ho,hl⟩:=D4 I.ns
 ⟨od,⟨I.obj,rfl,rfl,ho⟩,hl⟩
section
variable {prog:Program} {w:World} {A:Around} {E:Value->Shared->Prop} {s:Shared} {K:PySem.W.Frag} {x dx C f:Addr} {mA:Str->Option Value} {name:Str} {v:Value}
theorem D5 {expr:Bool} {Q:Value->Shared->Prop} (X:K.In s.heap) (I:ObjM s.heap x dx C mA) (hg:PySem.W.plainGet K C name=true) (hh:PySem.W.hasDictIn K C=true)
  (ha:PySem.W.findIn K (.ref C) name=some none) (hv:mA name=some v) (hv':PySem.W.handedIn v=true) (h:Q v { s with toks:=s.toks+1 }) :
  wpAny (model prog w) A (getAttr (.ref x) name expr) Q E s:=by
 obtain ⟨od,J,hl⟩:=I.look;exact PySem.W.get_value X J (Pr hg).1 (PySem.W.findObj_own hh ha rfl (by rw [hl,hv])) hv' h
theorem D6 {pl:Sem Bool} {Q:Value×List Value->Shared->Prop} (X:K.In s.heap) (I:ObjM s.heap x dx C mA) (hg:PySem.W.plainGet K C name=true)
  (hf:PySem.W.findIn K (.ref C) name=some (some (.ref f))) (ht:PySem.W.isFn K (.ref f)=true) (hv:mA name=none) (h:Q (.ref f,[.ref x]) s) :
  wpAny (model prog w) A (getMethod (.ref x) name pl) Q E s:=by
 obtain ⟨od,J,hl⟩:=I.look;exact PySem.W.method_fn X J (Pr hg).1 (Pr hg).2 hf (beq_iff_eq.mp ht) (by show (PySem.W.lookIn name od).map (·.isSome)=some false;rw [hl,hv];rfl) h
theorem D8 {ns:List Str} {Q:Unit->Shared->Prop} (X:K.In s.heap) (I:ObjM s.heap x dx C mA)
  (hs:PySem.W.findIn K (.ref C) "__setattr__" = some (some (.builtin "object.__setattr__"))) (hp:PySem.W.plainOver K C=true) (ht:PySem.W.takerIn K C name=some none) (hh:PySem.W.hasDictIn K C=true)
  (hw:PySem.Within mA ns) (hsz:ns.length<=sizeLine)
  (h:∀ h',ObjM h' x dx C (λy=>if y=name then some v else mA y)->Heap.SameBut dx s.heap h'->Q () { s with heap:=h',toks:=s.toks+2 }) :
  wpAny (model prog w) A (setAttr (.ref x) name v) Q E s:=by
 obtain ⟨od,J,hl⟩:=I.look;refine PySem.W.set_plain X J hs (PySem.W.osa_open (s:={ s with toks:=s.toks+1 }) (r:=none) X J hp ht λb=>?_)
 obtain ⟨cd,hc,hd'⟩:=PySem.W.any_some hh;have hx:s.heap.get? x=some ⟨.ref C,some dx,.plain,#[]⟩:=I.obj;refine MR (MZ (MR (MR (wpAny_loadPart hx (MR (PySem.W.Looks.here (s:={ s with toks:=s.toks+1 }) (PySem.W.looks_clsIn X hc) ?_))))))
 rw [hd'];refine MZ (a:=some dx) (MR (MZ (MR ?_)))
 refine wpAny_nsSet1 (s:={ s with toks:=s.toks+1 }) I.ns λh' hn2 hs2=>?_
 obtain ⟨oD,esD,epD,hoD,hdD,hcD⟩:=hn2.count (PySem.Within.cons name v hw);refine MR (wpAny_lookBehind hoD (by rw [hdD];exact pastItsLine_dict (MV hcD (by rw [NL];lia))) ?_)
 exact MZ (h _ ⟨(hs2.2 _ (Ne.symm I.ne)).trans I.obj,hn2,I.ne⟩ hs2)
theorem Ea {R:Result->Shared->Prop} {vs:List Value} {kw:List (Str×Value)} (X:K.In s.heap) (hm:PySem.W.makesIn K C=true)
  (hi:PySem.W.findIn K (.ref C) "__init__" = some (some (.ref f))) (hf:PySem.W.typeIn K (.ref f)=some (.type "function"))
  (h:codeAny (model prog w) (A.under (.builtin "type.__call__" ⟨.ref C::vs,kw⟩)) (.call (.ref f) ⟨.ref (s.heap.objs.size+1)::vs,kw⟩) (PySem.W.InitBack (s.heap.objs.size+1) R)
   { s with heap:=(s.heap.push PySem.W.emptyDict).push (PySem.W.instObj C s.heap.objs.size) }) :
  codeAny (model prog w) A (.call (.ref C) ⟨vs,kw⟩) R s:=by
 obtain ⟨hh,g,d,t,os⟩:=s;exact PySem.W.make_core (PySem.W.makes_of X hm) (PySem.W.looks_findIn X hi) (λself=>PySem.W.bind_fn X self hf) (.inl rfl) h
end
def bQ (f:Str) (v:V):List (Str×V)->List (Str×V)
 | []=>[(f,v)]
 | (g,x)::r=>if g=f then (g,v)::r else (g,x)::bQ f v r
theorem pX (f g:Str) (v:V):∀ fs:List (Str×V),(bQ f v fs).lookup g=if g=f then some v else fs.lookup g
 | []=>by
  show List.lookup g [(f,v)]=_
  by_cases h:g=f
  ·have hb:(g == f)=true:=beq_iff_eq.mpr h
   simp only [List.lookup,hb,MW h]
  ·have hb:(g == f)=false:=beq_eq_false_iff_ne.mpr h
   simp only [List.lookup,hb,MX h]
 | (k,x)::r=>by
  have ih:=pX f g v r;rw [show bQ f v ((k,x)::r)=(if k=f then (k,v)::r else (k,x)::bQ f v r) from rfl];by_cases hk:k=f
  ·rw [MW hk]
   by_cases h:g=k
   ·have hb:(g == k)=true:=beq_iff_eq.mpr h
    simp only [List.lookup,hb,MW (h.trans hk)]
   ·have hb:(g == k)=false:=beq_eq_false_iff_ne.mpr h
    simp only [List.lookup,hb,MX (λe:g=f=>h (e.trans hk.symm))]
  ·rw [MX hk]
   by_cases h:g=k
   ·have hb:(g == k)=true:=beq_iff_eq.mpr h
    simp only [List.lookup,hb,MX (λe:g=f=>hk (h.symm.trans e))]
   ·have hb:(g == k)=false:=beq_eq_false_iff_ne.mpr h
    simp only [List.lookup,hb]
    exact ih
theorem tu (f:Str) (v:V):∀ fs:List (Str×V),f∈(bQ f v fs).map (·.1)/\∀ g,g∈fs.map (·.1)->g∈(bQ f v fs).map (·.1)
 | []=>⟨by simp [bQ],λg h=>by simp at h⟩
 | (k,x)::r=>by
  obtain ⟨i1,i2⟩:=tu f v r;rw [show bQ f v ((k,x)::r)=(if k=f then (k,v)::r else (k,x)::bQ f v r) from rfl];by_cases hk:k=f
  ·rw [MW hk]
   subst hk;exact ⟨by simp,λg h=>by simpa using h⟩
  ·rw [MX hk]
   refine ⟨?_,λg h=>?_⟩
   ·rw [Ny]
    exact Nv _ i1
   ·rw [Ny] at h ⊢
    rcases Nd.mp h with e | e
    ·exact Nd.mpr (.inl e)
    ·exact Nv _ (i2 g e)
theorem ym (f:Str) (v:V):∀ fs:List (Str×V),(bQ f v fs).length<=fs.length+1
 | []=>by simp [bQ]
 | (k,x)::r=>by
  have ih:=ym f v r;rw [show bQ f v ((k,x)::r)=(if k=f then (k,v)::r else (k,x)::bQ f v r) from rfl];by_cases hk:k=f
  ·rw [MW hk,NL,NL];lia
  ·rw [MX hk,NL,NL];lia
theorem RelO.some_of {v:V} {o:Option Value} (r:RelO (some v) o):∃ u,o=some u/\RelV v u:=by
 cases o with
 | none=>exact (show False from r).elim
 | some u=>exact ⟨u,rfl,r⟩
theorem RelO.none_of {o:Option Value} (r:RelO none o):o=none:=by
 cases o with
 | none=>rfl
 | some u=>exact (show False from r).elim
theorem Eb {v:V} {u:Value} (r:RelV v u):PySem.W.handedIn u=true:=by
 cases v with
 | non=>cases (show u=Value.none from r);rfl
 | bl b=>cases (show u=Value.bool b from r);rfl
 | int i=>obtain ⟨t,e⟩:=(show ∃ t,u=Value.int i t from r);cases e;rfl
 | str x=>obtain ⟨t,e⟩:=(show ∃ t,u=Value.str x t from r);cases e;rfl
 | byt b=>obtain ⟨t,e⟩:=(show ∃ t,u=Value.bytes b t from r);cases e;rfl
 | flt b=>obtain ⟨t,e⟩:=(show ∃ t,u=Value.float b t from r);cases e;rfl
 | ref a=>cases (show u=Value.ref a from r);rfl
 | ty n=>cases (show u=Value.type n from r);rfl
section
variable {P:Program} {w:World} {H H':Hp} {h h':Heap} {a C dx:Addr} {fs fs':List (Str×V)}
theorem pY (hok:HOk P w H h) (e:H a=some (.ins C dx fs)):∃ mA,ObjM h a dx C mA/\(∀ f,RelO (fs.lookup f) (mA f))/\PySem.Within mA (fs.map (·.1))/\fs.length<=1000/\H dx=some (.own a):=by
 obtain ⟨d,z,ne,ob,mA,n,r,q⟩:=(show ObjOk P w H h a (.ins C dx fs) from hok a _ e)
 exact ⟨mA,⟨ob,n,ne⟩,r,q,z,d⟩
end
structure Cls (K:PySem.W.Frag) (C:Addr):Prop where
 pg:PySem.W.plainGet K C Str.empty=true
 hd:PySem.W.hasDictIn K C=true
 po:PySem.W.plainOver K C=true
 sa:PySem.W.findIn K (.ref C) "__setattr__" = some (some (.builtin "object.__setattr__"))
theorem Cls.get {K:PySem.W.Frag} {C:Addr} (c:Cls K C) (f:Str):PySem.W.plainGet K C f=true:=c.pg
def NoAttr (K:PySem.W.Frag) (C:Addr) (f:Str):Prop:=PySem.W.findIn K (.ref C) f=some none
theorem NoAttr.taker {K:PySem.W.Frag} {C:Addr} {f:Str} (n:NoAttr K C f):PySem.W.takerIn K C f=some none:=by
 unfold PySem.W.takerIn;rw [show PySem.W.findIn K (.ref C) f=some none from n];rfl
structure iy (K:PySem.W.Frag) (C:Addr) (m:Str) (f:Addr):Prop where
 at_:PySem.W.findIn K (.ref C) m=some (some (.ref f))
 fn:PySem.W.isFn K (.ref f)=true
 kp:PySem.W.keepIn K (.ref f)=true
section
variable {X:Cx} {pins:List (Addr×Obj)} {σ:St} {H:Hp} {s:Shared} {a C dx:Addr} {fs:List (Str×V)} {f:Str} {v:V} {A:Around} {E:Value->Shared->Prop}
theorem Ec {b:Bool} {Q:Value->Shared->Prop} (I:Inv X pins σ H s) (e:H a=some (.ins C dx fs)) (c:Cls X.K C) (n:NoAttr X.K C f) (l:fs.lookup f=some v)
  (h:∀ u s',Inv X pins σ H s'->RelV v u->Q u s'):wpAny (model X.prog X.w) A (getAttr (.ref a) f b) Q E s:=by
 obtain ⟨mA,O,r,_,_,_⟩:=pY I.hok e;obtain ⟨u,hu,ru⟩:=RelO.some_of (v:=v) (o:=mA f) (by rw [<- l];exact r f)
 exact D5 I.kIn O (c.get f) c.hd n hu (Eb ru) (h u _ (I.tok _) ru)
theorem yn {m:Str} {g:Addr} {pl:Sem Bool} {Q:Value×List Value->Shared->Prop} (I:Inv X pins σ H s) (e:H a=some (.ins C dx fs)) (c:Cls X.K C) (k:iy X.K C m g) (l:fs.lookup m=none)
  (h:Q (.ref g,[.ref a]) s):wpAny (model X.prog X.w) A (getMethod (.ref a) m pl) Q E s:=by
 obtain ⟨mA,O,r,_,_,_⟩:=pY I.hok e;have hn:mA m=none:=RelO.none_of (by rw [<- l];exact r m)
 exact D6 I.kIn O (c.get m) k.at_ k.fn hn h
theorem Ed {y:V} {u:Value} {Q:Unit->Shared->Prop} (I:Inv X pins σ H s) (e:H a=some (.ins C dx fs)) (c:Cls X.K C) (n:NoAttr X.K C f) (hl:fs.length<1000) (ry:RelV y u)
  (h:∀ s',Inv X pins σ (upd H a (.ins C dx (bQ f y fs))) s'->Q () s'):wpAny (model X.prog X.w) A (setAttr (.ref a) f u) Q E s:=by
 obtain ⟨mA,O,r,wi,_,ho⟩:=pY I.hok e;have hz:(fs.map (·.1)).length<=sizeLine:=by rw [M0,sizeLine_eq];lia
 refine D8 I.kIn O c.sa c.po n.taker c.hd wi hz λh' O' sb=>h _ ?_
 have hd:∃ o,h'.get? dx=some o:=let ⟨o,_,_,e',_⟩:=O'.ns;⟨o,e'⟩
 refine I.write (x:=a) (e:=dx) (by rw [e];exact True.intro) (.inr ho) (λb q hb z=>(sb.2 b hb).trans z) hd ?_
 refine ⟨by rw [bK O.ne];exact ho,?_,O.ne,O'.obj,_,O'.ns,λg=>?_,λg hg=>?_⟩
 ·have:=ym f y fs;lia
 ·show RelO ((bQ f y fs).lookup g) (if g=f then some u else mA g)
  rw [pX];by_cases q:g=f
  ·rw [MW q,MW q];exact ry
  ·rw [MX q,MX q];exact r g
 ·by_cases q:g=f
  ·rw [q];exact (tu f y fs).1
  ·refine (tu f y fs).2 g (wi g λz=>hg ?_)
   show (if g=f then some u else mA g)=none
   rw [MX q];exact z
theorem Inv.made (I:Inv X pins σ H s):Inv X pins σ (upd (upd H s.heap.objs.size (.own (s.heap.objs.size+1))) (s.heap.objs.size+1) (.ins C s.heap.objs.size []))
  { s with heap:=(s.heap.push PySem.W.emptyDict).push (PySem.W.instObj C s.heap.objs.size) }:=by
 have e1:(s.heap.push PySem.W.emptyDict).get? s.heap.objs.size=some PySem.W.emptyDict:=M9 s.heap rfl;have e2:((s.heap.push PySem.W.emptyDict).push (PySem.W.instObj C s.heap.objs.size)).get? (s.heap.objs.size+1)=some (PySem.W.instObj C s.heap.objs.size):=by
  have:=M9 (s.heap.push PySem.W.emptyDict) (o:=PySem.W.instObj C s.heap.objs.size) rfl;rwa [QB] at this
 have e3:(s.heap.push PySem.W.emptyDict).Ns s.heap.objs.size (λ_=>none):=⟨PySem.W.emptyDict,#[],_,e1,rfl,(λe he=>absurd he (by simp)),λ_=>rfl⟩
 have I1:=I.laid (a:=s.heap.objs.size) (o:=.own (s.heap.objs.size+1)) (h' := s.heap.push PySem.W.emptyDict) (t' := s.toks) (λb u q=>MU _ q) (MQ _) ⟨_,e1⟩;refine I1.laid (a:=s.heap.objs.size+1) (o:=.ins C s.heap.objs.size []) (t' := s.toks) (λb u q=>MU _ q) (Qa (QB _ _)) ?_
 have ne:s.heap.objs.size≠s.heap.objs.size+1:=Nt (Nat.lt_succ_self _);refine ⟨by rw [bK ne,d7],Nj _,ne,e2,λ_=>none,(Heap.Ns1.of_empty e3).at λo q=>MU _ q,λ_=>True.intro,λy hy=>absurd rfl hy⟩
theorem Ee {prog:Program} {w:World} {env:Env} {e:Expr} {f:Str} {pos:Pos} {s:Shared} {Q:Value->Shared->Prop} (hb:attributeBase e f env (eval e env)=eval e env)
  (h:wpAny (model prog w) A (eval e env) (λo s₁=>wpAny (model prog w) A (getAttr o f true) Q E s₁) E s):wpAny (model prog w) A (eval (.Attribute e f pos) env) Q E s :=
 Attribute_any_ h (by rw [arm_eval_Attribute,hb])
end
def tw (K:PySem.W.Frag) (ta:TE) (f:Str):TE:=λσ H Q=>ta σ H λx H1=>∃ a C dx fs v,x = .ref a/\H1 a=some (.ins C dx fs)/\Cls K C/\NoAttr K C f/\fs.lookup f=some v/\Q v H1
def sFld (K:PySem.W.Frag) (ta tv:TE) (f:Str):TS:=λD σ H=>tv σ H λy H1=>ta σ H1 λx H2=>∃ a C dx fs,x = .ref a/\H2 a=some (.ins C dx fs)/\Cls K C/\NoAttr K C f/\fs.length<1000 /\
 D.nx σ (upd H2 a (.ins C dx (bQ f y fs)))
section
variable {X:Cx} {o e value:Expr} {f:Str} {pos pos' tpos:Pos} {ta tv:TE}
theorem Ef (he:PE X e ta) (hb:attributeBase e f X.env (eval e X.env)=eval e X.env):PE X (.Attribute e f pos) (tw X.K ta f):=by
 intro pins s σ H Q I h;refine Ee hb (thn (he pins s σ H _ I h) λu s1 Zz=>?_);obtain ⟨x,H1,I1,rx,a,C,dx,fs,v,ex,ea,c,n,l,q⟩:=Zz
 subst ex;obtain rfl:u=Value.ref a:=rx
 exact Ec I1 ea c n l λu' s2 I2 ru=>⟨v,H1,I2,ru,q⟩
theorem Eg (ha:PE X o ta) (hv:PE X value tv) (hs:swapsWith value (some (.Attribute o f pos')) pos.line X.env=pure false):PS X (.Assign [.Attribute o f pos'] value pos) (sFld X.K ta tv f):=by
 intro pins s σ H D I h;refine plainObj_wpAny_Assign_Attribute (thn (hv pins s σ H _ I h) λu s1 ⟨y,H1,I1,ry,q⟩=>thn (ha pins s1 σ H1 _ I1 q) λov s2 Zz=>?_) hs;obtain ⟨x,H2,I2,rx,a,C,dx,fs,ex,ea,c,n,l,q2⟩:=Zz
 subst ex;obtain rfl:ov=Value.ref a:=rx
 exact Ed I2 ea c n l ry λs3 I3=>⟨σ,_,I3,q2⟩
end
section
variable {X:Cx} {pins:List (Addr×Obj)} {σ:St} {H:Hp} {s:Shared} {A:Around} {E:Value->Shared->Prop} {Q:Value->Shared->Prop} {c:Value} {b:Bool}
inductive cU (K:PySem.W.Frag) (H:Hp):V->Value->Prop where
 | non:cU K H .non (.type "NoneType")
 | bl (x:Bool):cU K H (.bl x) (.type "bool")
 | int (i:Int):cU K H (.int i) (.type "int")
 | str (x:Str):cU K H (.str x) (.type "str")
 | flt (x:UInt64):cU K H (.flt x) (.type "float")
 | lst {a:Addr} {xs:List V} (e:H a=some (.lst xs)):cU K H (.ref a) (.type "list")
 | frz {a:Addr} {o:Obj} {xs:List V} (e:H a=some (.frz o (.lst xs))):cU K H (.ref a) (.type "list")
 | tup {a:Addr} {xs:List V} (e:H a=some (.tup xs)):cU K H (.ref a) (.type "tuple")
 | dK {a:Addr} {kvs:List (aU×V)} (e:H a=some (.dK kvs)):cU K H (.ref a) (.type "dict")
 | dT {a:Addr} {xc:Option (List Addr)} {kvs:List (List aU×V)} (e:H a=some (.dT xc kvs)):cU K H (.ref a) (.type "dict")
 | ins {a C dx:Addr} {fs:List (Str×V)} (e:H a=some (.ins C dx fs)) (cl:Cls K C) (ha:PySem.W.findIn K (.ref C) "__class__" = some (some (.builtin "object.__class__")))
   (hn:PySem.W.specialIn K (.builtin "object.__class__") "__get__" = some (some (.builtin "getset_descriptor.__get__"))) (htk:PySem.W.takesIn K (.builtin "object.__class__")=some true)
   (hm:PySem.W.mroIn K C (.type "object")=some true):cU K H (.ref a) (.ref C)
theorem Eh {x:V} {u t:Value} (I:Inv X pins σ H s) (rx:RelV x u) (ty:cU X.K H x t) (e:PySem.W.kitOne X.K t c=some b) (h:∀ tk,Q (.bool b) { s with toks:=tk }) :
  wpAny (model X.prog X.w) A (call (.builtin "isinstance") [u,c]) Q E s:=by
 cases ty with
 | non=>cases (show u=Value.none from rx);exact NM PySem.W.kitx_none I.kIn True.intro e (λz=>nomatch z) h
 | bl y=>cases (show u=Value.bool y from rx);exact NM PySem.W.kitx_bool I.kIn True.intro e (λz=>nomatch z) h
 | int i=>obtain ⟨t,q⟩:=(show ∃ t,u=Value.int i t from rx);cases q;exact NM PySem.W.kitx_int I.kIn True.intro e (λz=>nomatch z) h
 | str y=>obtain ⟨t,q⟩:=(show ∃ t,u=Value.str y t from rx);cases q;exact NM PySem.W.kitx_str I.kIn True.intro e (λz=>nomatch z) h
 | flt y=>obtain ⟨t,q⟩:=(show ∃ t,u=Value.float y t from rx);cases q;exact NM PySem.W.kitx_float I.kIn True.intro e (λz=>nomatch z) h
 | @lst a xs ea =>
  cases (show u=Value.ref a from rx)
  obtain ⟨_,_,n,_,h1⟩:=(show ObjOk X.prog X.w H s.heap a (.lst xs) from I.hok a _ ea)
  exact NM PF I.kIn ⟨_,h1,rfl⟩ e (λz=>nomatch z) h
 | @frz a ob xs ea =>
  cases (show u=Value.ref a from rx)
  obtain ⟨_,_,_,n,_,h1⟩:=(show ObjOk X.prog X.w H s.heap a (.frz ob (.lst xs)) from I.hok a _ ea)
  exact NM PF I.kIn ⟨_,h1,rfl⟩ e (λz=>nomatch z) h
 | @tup a xs ea =>
  cases (show u=Value.ref a from rx)
  obtain ⟨_,_,_,p⟩:=(show ObjOk X.prog X.w H s.heap a (.tup xs) from I.hok a _ ea)
  obtain ⟨o,h1,h2,_⟩:=p;exact NM PySem.W.kitx_tuple I.kIn ⟨o,h1,h2⟩ e (λz=>nomatch z) h
 | @dK a kvs ea =>
  cases (show u=Value.ref a from rx)
  obtain ⟨_,_,vs,_,p⟩:=(show ObjOk X.prog X.w H s.heap a (.dK kvs) from I.hok a _ ea)
  obtain ⟨o,es,ep,h1,h2,_⟩:=p;exact NM Ra I.kIn ⟨o,h1,h2.1⟩ e (λz=>nomatch z) h
 | @dT a xc kvs ea =>
  cases (show u=Value.ref a from rx)
  obtain ⟨_,_,xs,_,o,es,ep,h1,h2,_⟩:=(show ObjOk X.prog X.w H s.heap a (.dT xc kvs) from I.hok a _ ea)
  exact NM Ra I.kIn ⟨o,h1,h2.1⟩ e (λz=>nomatch z) h
 | @ins a C dx fs ea cl ha hn htk hm =>
  cases (show u=Value.ref a from rx)
  obtain ⟨mA,O,_⟩:=pY I.hok ea;obtain ⟨od,J,_⟩:=O.look;exact NM (PySem.W.kitx_own (cl.get _) cl.hd ha hn htk hm) I.kIn J e (λz=>nomatch z) h
end
structure Room (k:Nat) (A:Around):Prop where
 hd:A.handled=none
 dp:A.depth+3*k+5<recursionLimit
 un:A.units+16*k+200<cLine
theorem Room.mono {j k:Nat} {A:Around} (r:Room k A) (h:j<=k):Room j A:=⟨r.hd,by have:=r.dp;lia,by have:=r.un;lia⟩
theorem Room.deeper {k:Nat} {A:Around} (r:Room (k+1) A) (env:Env):Room k (A.deeper env) :=
 ⟨r.hd,by have:=r.dp;show A.depth+1+3*k+5<_;lia,by have:=r.un;show A.units+3+16*k+200<_;lia⟩
theorem Ei {A:Around} {C:Addr} {us:List Value} {kw:List (Str×Value)}:(A.under (.builtin "type.__call__" ⟨.ref C::us,kw⟩)).depth=A.depth+1:=by
 first | rfl | simp [Around.under,Code.weight,Code.isCreation,Code.isGuard,Code.isCaller,Code.frames,Code.isFrame,guardIds]
theorem Ej {A:Around} {C:Addr} {us:List Value} {kw:List (Str×Value)}:(A.under (.builtin "type.__call__" ⟨.ref C::us,kw⟩)).units=A.units+1:=by
 first | rfl | simp [Around.under,Code.cUnits,Code.frames,Code.isFrame]
theorem Room.make {k:Nat} {A:Around} (r:Room (k+1) A) (C:Addr) (us:List Value) (kw:List (Str×Value)):Room k (A.under (.builtin "type.__call__" ⟨.ref C::us,kw⟩)) :=
 ⟨r.hd,by have:=r.dp;rw [Ei];lia,by have:=r.un;rw [Ej];lia⟩
theorem Room.depth {k:Nat} {A:Around} (r:Room k A):A.depth<recursionLimit:=by have:=r.dp;lia
def tB:TA:=λ_ H Q=>Q [] H
def Ek (ta:TE) (tr:TA):TA:=λσ H Q=>ta σ H λx H1=>tr σ H1 λxs H2=>Q (x::xs) H2
section
variable {X:Cx} {e:Expr} {es:List Expr} {te:TE} {t:TA} {pos:Pos}
theorem pZ:PA X [] tB:=λ_ _ _ _ H Q I h=>Pe ⟨[],H,I,.nil,h⟩
theorem lX (ha:PE X e te) (hr:PA X es t) (hs:starEach (e::es) X.env=(false,eval e X.env)::starEach es X.env:=by rfl):PA X (e::es) (Ek te t):=by
 intro pos pins s σ H Q I h;rw [hs];show wpAny _ _ (spliced ((false,eval e X.env)::backTo pos (starEach es X.env))) _ _ s
 refine OH (thn (ha pins s σ H _ I h) λu s1 Zz=>?_);obtain ⟨x,H1,I1,r1,q1⟩:=Zz
 exact thn (hr pos pins s1 σ H1 _ I1 q1) λus s2 ⟨xs,H2,I2,r2,q2⟩=>⟨x::xs,H2,I2,.cons r1 r2,q2⟩
def tD (t:TA):TE:=λσ H Q=>t σ H λxs H1=>xs.length<=sizeLine/\∀ p,H1 p=none->Q (.ref p) (upd H1 p (.tup xs))
def tF (t:TA):TE:=λσ H Q=>t σ H λxs H1=>xs.length<=sizeLine/\∀ p,H1 p=none->Q (.ref p) (upd H1 p (.lst xs))
theorem El {x1} (h:PA X es t):PE X (.Tuple es x1 pos) (tD t):=by
 intro pins s σ H Q I hq;refine wpAny_Tuple_spliced (thn (h pos pins s σ H _ I hq) λus s1 ⟨xs,H1,I1,r,z,q⟩=>⟨by rw [<- r.length];exact z,?_⟩)
 have hf:H1 s1.heap.objs.size=none:=I1.hok.fresh (MQ _);refine ⟨.ref s1.heap.objs.size,upd H1 s1.heap.objs.size (.tup xs),I1.laid (t' := s1.toks) (λb u e=>MU _ e) (MQ _) ?_,rfl,q _ hf⟩
 exact ⟨z,us,r,⟨_,M9 _ rfl,rfl,_,rfl⟩⟩
theorem tG (h:PA X es t):PE X (.List es pos) (tF t):=by
 intro pins s σ H Q I hq;refine wpAny_List_spliced (thn (h pos pins s σ H _ I hq) λus s1 ⟨xs,H1,I1,r,z,q⟩=>⟨by rw [<- r.length];exact z,?_⟩)
 have hf:H1 s1.heap.objs.size=none:=I1.hok.fresh (MQ _);refine ⟨.ref s1.heap.objs.size,upd H1 s1.heap.objs.size (.lst xs),I1.laid (t' := s1.toks) (λb u e=>MU _ e) (MQ _) ?_,rfl,q _ hf⟩
 exact ⟨z,us,0,r,M9 _ rfl⟩
end
abbrev Sp:=List V->Hp->VK->XK->Prop
abbrev gg:=List Env->Hp->Shared->XK->Value->Shared->Prop
structure Env0 (P:Program) (w:World) (K:PySem.W.Frag) (mg:Str->Option Value) (base:Heap) (A:Around) (outer:List Env) (s:Shared) (H:Hp):Prop where
 frames:A.frames=some outer
 mod:Mod K mg base
 bs:∀ b o,base.get? b=some o->s.heap.get? b=some o/\H b=none
 bsz:base.objs.size<=s.heap.objs.size
 funs:s.heap.FunFrames base outer
 frf:∀ b∈eU outer,H b=none
 hok:HOk P w H s.heap
 bare:AllBare s.gens
def CE (outer:List Env) (P:Program) (w:World) (H:Hp) (s:Shared) (Q:VK) (u:Value) (s':Shared):Prop :=
 ∃ v H',s'.os=s.os/\AllBare s'.gens/\Un (eU outer) [] H H' s.heap s'.heap/\HOk P w H' s'.heap/\RelV v u/\Q v H'
def CR (CX:gg) (outer:List Env) (P:Program) (w:World) (H:Hp) (s:Shared) (Q:VK) (E:XK) (r:Result) (s':Shared):Prop :=
 match r with
 | .ok (.ret u)=>CE outer P w H s Q u s'
 | .ok _=>False
 | .error e=>CX outer H s E e s'
structure FnOk (P:Program) (w:World) (K:PySem.W.Frag) (mg:Str->Option Value) (base:Heap) (CX:gg) (k:Nat) (f:Addr) (fd:FuncData) (ps:List Str) (sp:Sp):Prop where
 len:∀ vs H Q E,sp vs H Q E->vs.length=ps.length
 run:∀ (A:Around) (outer:List Env) (s:Shared) (H:Hp) (args:Args) (us:List Value) (vs:List V) (Q:VK) (E:XK),Room k A->Env0 P w K mg base A outer s H->BindsTo s fd args (ps.zip us)->Vals vs us->sp vs H Q E ->
  codeAny (model P w) A (.call (.ref f) args) (CR CX outer P w H s Q E) s
theorem FnOk.imp {P:Program} {w:World} {K:PySem.W.Frag} {mg:Str->Option Value} {base:Heap} {CX:gg} {k:Nat} {f:Addr} {fd:FuncData} {ps:List Str} {sp sp':Sp} (F:FnOk P w K mg base CX k f fd ps sp)
  (h:∀ vs H Q E,sp' vs H Q E->sp vs H Q E):FnOk P w K mg base CX k f fd ps sp' :=
 ⟨λvs H Q E q=>F.len vs H Q E (h _ _ _ _ q),λA outer s H args us vs Q E hr he hb hv hs=>F.run A outer s H args us vs Q E hr he hb hv (h _ _ _ _ hs)⟩
theorem Env0.make {P:Program} {w:World} {K:PySem.W.Frag} {mg:Str->Option Value} {base:Heap} {A:Around} {outer:List Env} {s:Shared} {H:Hp} (e:Env0 P w K mg base A outer s H) (C:Addr) (us:List Value) (kw:List (Str×Value)) :
  Env0 P w K mg base (A.under (.builtin "type.__call__" ⟨.ref C::us,kw⟩)) outer s H:=⟨by first | exact e.frames | (simpa [Around.under,Code.envs,Code.isFrame,pushEnvs] using e.frames),e.mod,e.bs,e.bsz,e.funs,e.frf,e.hok,e.bare⟩
section
variable {X:Cx} {pins:List (Addr×Obj)} {σ:St} {H:Hp} {s s':Shared}
theorem Inv.env0 (I:Inv X pins σ H s):Env0 X.prog X.w X.K X.mg X.base X.A X.stack s H :=
 ⟨I.ok.frames,I.ok.mod,I.bs,MV I.ok.bsz I.sz,I.stack,I.stkFree,I.hok,I.bare⟩
theorem Inv.after {Q:VK} {u:Value} (I:Inv X pins σ H s) (h:CE X.stack X.prog X.w H s Q u s'):EP X pins σ Q u s' := by
 obtain ⟨v,H',os,bare,un,hok,r,q⟩:=h;obtain ⟨hh,g,d,t,os'⟩:=s';obtain rfl:os'=s.os:=os;exact ⟨v,H',I.call (h' := hh) (g' := g) (d' := d) (t' := t) (ch:=[]) un hok bare (λb z=>absurd z (by simp)),r,q⟩
end
def Binds (K:PySem.W.Frag) (fd:FuncData) (ps:List Str) (ds:List Value):Prop :=
 ∀ (s:Shared) (us:List Value),K.In s.heap->(us++ds).length=ps.length->BindsTo s fd ⟨us,[]⟩ (ps.zip (us++ds))
theorem Binds.all {K:PySem.W.Frag} {fd:FuncData} {ps:List Str} (h:∀ us:List Value,us.length=ps.length->bindArgs fd ⟨us,[]⟩=pure (ps.zip us)):Binds K fd ps []:=λs us _ hl=>by
 rw [O4] at hl ⊢;exact .of_eq (h us hl)
def Em (CX:gg) (X:Cx) (E:XK):Prop:=∀ (pins:List (Addr×Obj)) (σ:St) (H:Hp) (s:Shared) (e:Value) (s':Shared),Inv X pins σ H s->CX X.stack H s E e s'->X.xe e s'
section
variable {X:Cx} {CX:gg} {k:Nat} {f C:Addr} {fd:FuncData} {ps:List Str} {sp:Sp} {dvs:List V} {ds:List Value} {E:XK} {x m:Str} {p pos apos:Pos} {e o:Expr} {es:List Expr} {ta:TE} {t:TA}
structure Mk (K:PySem.W.Frag) (C f:Addr):Prop where
 makes:PySem.W.makesIn K C=true
 init:PySem.W.findIn K (.ref C) "__init__" = some (some (.ref f))
 fn:PySem.W.isFn K (.ref f)=true
 kp:PySem.W.keepIn K (.ref C)=true
end
section
variable {X:Cx} {CX:gg} {k:Nat} {f C:Addr} {fd:FuncData} {ps ks:List Str} {sp:Sp} {E:XK} {x m:Str} {p pos apos kpos:Pos} {e o:Expr} {es:List Expr} {kws:List Keyword} {te ta:TE} {t tk:TA} {nm:Option Str}
variable {g:List Value->List Value->List Value} {gV:List V->List V->List V}
end
structure aq (N P:List Str) (sc:Scope):Prop where
 kind:sc.kind = .function
 co:sc.isCoroutine=false
 gen:sc.isGenerator=false
 nd:N.Nodup
 pre:N.take P.length=P
 par:∀ x∈P,sc.names.lookup x=some .local\/sc.names.lookup x=some .cell
 nofree:∀ y∈sc.names,y.2 ≠ .free
theorem yo {kindOf:Str->Option NameKind} {x:Str}:∀ {binds:List (Str×Value)} {m:Str->Option Value},(∀ v,(x,v)∉binds)->bindL kindOf binds m x=m x
 | [],_,_=>rfl
 | (n,v)::r,m,h=>by
  unfold bindL;rw [yo λw hw=>h w (Nv _ hw)];split
  ·have:x≠n:=by rintro rfl;exact h v NJ
   simp [this]
  ·rfl
theorem yp {kindOf:Str->Option NameKind} {x:Str}:∀ {binds:List (Str×Value)} {m:Str->Option Value},(∀ v,(x,v)∉binds)->bindC kindOf binds m x=m x
 | [],_,_=>rfl
 | (n,v)::r,m,h=>by
  unfold bindC;rw [yp λw hw=>h w (Nv _ hw)];split
  ·rfl
  ·have:x≠n:=by rintro rfl;exact h v NJ
   simp [this]
theorem yq {kindOf:Str->Option NameKind} {x:Str} {v:Value}:∀ {P:List Str} {vs:List Value} {i:Nat} {m:Str->Option Value},P.Nodup->P[i]? = some x->vs[i]? = some v->kindOf x=some .local ->
  bindL kindOf (P.zip vs) m x=some v
 | [],_,_,_,_,h,_,_=>by simp at h
 | _::_,[],_,_,_,_,h,_=>by simp at h
 | p::P,w::vs,0,m,nd,h1,h2,hk=>by
  simp at h1 h2;subst h1;subst h2
  show bindL kindOf ((p,w)::P.zip vs) m p=_
  unfold bindL;rw [yo λv hv=>(NO.mp nd).1 (Ql hv).1,MW hk];simp
 | p::P,w::vs,i+1,m,nd,h1,h2,hk=>by
  show bindL kindOf ((p,w)::P.zip vs) m x=_
  unfold bindL;exact yq (i:=i) (NO.mp nd).2 (by simpa using h1) (by simpa using h2) hk
theorem yr {kindOf:Str->Option NameKind} {x:Str} {v:Value}:∀ {P:List Str} {vs:List Value} {i:Nat} {m:Str->Option Value},P.Nodup->P[i]? = some x->vs[i]? = some v->kindOf x≠some .local ->
  bindC kindOf (P.zip vs) m x=some v
 | [],_,_,_,_,h,_,_=>by simp at h
 | _::_,[],_,_,_,_,h,_=>by simp at h
 | p::P,w::vs,0,m,nd,h1,h2,hk=>by
  simp at h1 h2;subst h1;subst h2
  show bindC kindOf ((p,w)::P.zip vs) m p=_
  unfold bindC;rw [yp λv hv=>(NO.mp nd).1 (Ql hv).1,MX hk];simp
 | p::P,w::vs,i+1,m,nd,h1,h2,hk=>by
  show bindC kindOf ((p,w)::P.zip vs) m x=_
  unfold bindC;exact yr (i:=i) (NO.mp nd).2 (by simpa using h1) (by simpa using h2) hk
def start (N:List Str) (vs:List V):St:=vs.map some++List.replicate (N.length-vs.length) none
def cL (CX:gg) (P:Program) (w:World) (K:PySem.W.Frag) (mg:Str->Option Value) (base:Heap) (N:List Str) (qual:Str) (scope:Scope) (f:Addr) (cd:Value) (A:Around) (outer:List Env) (s:Shared) (H:Hp) (E:XK):Cx where
 prog:=P
 w:=w
 K:=K
 mg:=mg
 base:=base
 A:=A.deeper (envOfC qual scope s.heap.objs.size f cd)
 N:=N
 s₀:=s
 H₀:=H
 env:=envOfC qual scope s.heap.objs.size f cd
 outer:=outer
 stack:=envOfC qual scope s.heap.objs.size f cd::outer
 ex:=[]
 calm:=true
 fn:=λ_=>true
 pn:=[]
 xe:=λe s' => wpAny (model P w) (A.deeper (envOfC qual scope s.heap.objs.size f cd)) (leaving (envOfC qual scope s.heap.objs.size f cd) e) (λ_ s'' => CX outer H s E e s'') (λe' s'' => CX outer H s E e' s'') s'
theorem yt {sc:Scope} {n:Nat} {x:Str} (h:sc.names.lookup x=some .cell):∃ c,(cellsFrom n sc.names []).lookup x=some c:=by
 have q:=Qb sc.names n [] (.inl h);exact Nn.mp q
theorem Eo {CX:gg} {P:Program} {w:World} {K:PySem.W.Frag} {mg:Str->Option Value} {base:Heap} {N ps:List Str} {qual:Str} {scope:Scope} {f:Addr} {cd:Value} {A:Around} {outer:List Env} {s s1:Shared} {H:Hp} {E:XK} {us:List Value} {vs:List V}
  (S:aq N ps scope) (hd:A.handled=none) (e0:Env0 P w K mg base A outer s H) (hl:vs.length=ps.length) (r:Vals vs us)
  (x:InCallC s s.heap.objs.size (bindL (envOfC qual scope s.heap.objs.size f cd).kindOf (ps.zip us) λ_=>none) (cellsFrom (s.heap.objs.size+1) scope.names []) (bindC (envOfC qual scope s.heap.objs.size f cd).kindOf (ps.zip us) λ_=>none) s1) :
  Inv (cL CX P w K mg base N qual scope f cd A outer s H E) [] (start N vs) H s1:=by
 have hpl:ps.length<=N.length:=by have:=congrArg List.length S.pre;rw [NP] at this;omega
 obtain ⟨h1,tk,rfl,hk⟩:=x.done;have noA:∀ b:Addr,b∉(cL CX P w K mg base N qual scope f cd A outer s H E).ex:=λb z=>absurd (show b∈([]:List Addr) from z) (by simp)
 refine ⟨⟨e0.mod,S.kind,rfl,rfl,MQ _,λy z c h1 h2=>?_,λy hy=>?_,λy c _ h=>?_,λ_=>hd,Around.frames_deeper e0.frames,.inr ⟨rfl,rfl⟩,λb z=>absurd z (noA b),e0.bs,e0.bsz,λb _ _=>noA b,λb z=>absurd z (noA b),e0.funs,e0.frf⟩,
  rfl,e0.bare,Un.kept hk,⟨_,x.toInCall.ns,λi y v h1 h2 h3=>?_⟩,λy c h=>⟨_,x.cell y c h⟩,e0.hok.fresh (MQ _),λy c h=>?_,λp hp=>absurd (show p∈([]:List (Addr×Obj)) from hp) (by simp),e0.hok.kept hk,?_⟩
 ·exact name_of_addr x.apart (NY h1) (NY h2)
 ·have hy:scope.names.lookup y=some .cell\/scope.names.lookup y=some .free:=hy
  rcases hy with hy | hy
  ·exact yt hy
  ·exact absurd rfl (S.nofree _ (NY hy))
 ·exact Pt (x.above y c (NY h))
 ·have hi:i<vs.length:=by
   unfold start at h2;by_cases hi:i<vs.length
   ·exact hi
   ·rw [Nk (by simpa using hi)] at h2
    rw [Oc] at h2;split at h2<;>cases h2
  have ha:vs[i]? = some v:=by
   unfold start at h2;rw [MT (by simpa using hi),Nu] at h2
   cases e:vs[i]? with
   | none=>rw [e] at h2;cases h2
   | some a=>rw [e] at h2;cases h2;rfl
  obtain ⟨u,hu,rv⟩:=r.get ha;have hp:ps[i]? = some y:=by
   rw [<- S.pre,List.getElem?_take_of_lt (by omega)];exact h1
  have ndP:ps.Nodup:=by rw [<- S.pre];exact S.nd.sublist (List.take_sublist _ _)
  refine ⟨u,rv,?_⟩
  rcases S.par y (Nq hp) with k | k
  ·exact .inl ⟨k,yq ndP hp hu k⟩
  ·obtain ⟨c,e⟩:=yt (n:=s.heap.objs.size+1) k
   refine .inr ⟨.inl k,c,e,?_⟩
   have q:=x.cell y c e;rw [yr ndP hp hu (by show scope.names.lookup y≠_;rw [k];decide)] at q;exact q
 ·exact e0.hok.fresh (Pt (x.above y c (NY h)))
 ·unfold start
  show _=N.length
  rw [M6,M0,NQ];omega
theorem Ep {CX:gg} {P:Program} {w:World} {K:PySem.W.Frag} {mg:Str->Option Value} {base:Heap} {k:Nat} {f:Addr} {name qual:Str} {params:Arguments} {body:List Stmt} {scope:Scope} {dV kV doc pm cdv ct oc:Value} {an od:Option Addr}
  {osl:Array (Option Value)} {N ps:List Str} {sp:Sp} (lk:K.lookup f=some ⟨oc,od,.func (PySem.W.fnOf name qual params body scope dV kV doc pm an cdv ct),osl⟩) (hcd:PySem.W.codeIn K cdv qual=true) (S:aq N ps scope)
  (len:∀ vs H Q E,sp vs H Q E->vs.length=ps.length)
  (hbody:∀ (A:Around) (outer:List Env) (s:Shared) (H:Hp) (vs:List V) (Q:VK) (E:XK),Room k (A.deeper (envOfC qual scope s.heap.objs.size f cdv))->sp vs H Q E ->
   ∃ t,gb (cL CX P w K mg base N qual scope f cdv A outer s H E) body t/\t { nx:=λ_ H' => Q .non H',rt:=Q } (start N vs) H) :
  FnOk P w K mg base CX (k+1) f (PySem.W.fnOf name qual params body scope dV kV doc pm an cdv ct) ps sp:=by
 refine ⟨len,λA outer s H args us vs Q E hr e0 hb r hsp=>?_⟩
 have hl:=len _ _ _ _ hsp;have KX:K.In s.heap:=e0.mod.kin.keeps λb o e=>(e0.bs b o e).1
 have lim:s.heap.NoLimit:=e0.mod.nolimit.keeps λb o e=>(e0.bs b o e).1
 have hkind:∀ y∈ps.zip us,scope.names.lookup y.1=some .local\/(scope.names.lookup y.1=some .cell/\((cellsFrom (s.heap.objs.size+1) scope.names []).lookup y.1).isSome=true):=λ⟨n,v⟩ hy=>by
  rcases S.par n (Ql hy).1 with q | q
  ·exact .inl q
  ·exact .inr ⟨q,Qb _ _ _ (.inl q)⟩
 refine codeAny_call_function hr.depth (KX _ _ lk) rfl S.co S.gen rfl (PySem.W.codeRec_of KX hcd) (hb _ _ _ _ ?_)
 refine wpAny_newFunctionEnv_cells S.kind hkind λenv he s1 x=>?_
 subst he;refine ⟨lim.keeps x.toInCall.keep,codeAny_func ?_⟩
 obtain ⟨t,ht,hq⟩:=hbody A outer s H vs Q E (hr.deeper _) hsp;have I:Inv (cL CX P w K mg base N qual scope f cdv A outer s H E) [] (start N vs) H s1:=Eo S hr.hd e0 hl r x;refine NC (ht [] s1 (start N vs) H _ I hq) (λfl s' hs=>?_) λe s' hs=>hs
 have fin:∀ {σ':St} {H':Hp} {v:V} {u:Value},Inv (cL CX P w K mg base N qual scope f cdv A outer s H E) [] σ' H' s'->RelV v u->Q v H'->CE outer P w H s Q u s' :=
  λ{σ' H' v u} J rv q=>⟨v,H',J.os,J.bare,J.base,J.hok,rv,q⟩
 cases fl with
 | ret u =>
  obtain ⟨v,σ',H',J,rv,q⟩:=hs;exact fin J rv q
 | next =>
  obtain ⟨σ',H',J,q⟩:=hs;exact fin (v:=V.non) (u:=Value.none) J rfl q
 | brk =>
  obtain ⟨_,_,_,q⟩:=hs;exact False.elim q
 | cont =>
  obtain ⟨_,_,_,q⟩:=hs;exact False.elim q
section
variable {X:Cx} {x:Str} {p pos:Pos} {e:Expr} {es:List Expr} {t:TA} {id T:String} {r:List V->Hp->VK->Prop}
def tH (r:List V->Hp->VK->Prop) (t:TA):TE:=λσ H Q=>t σ H λvs H1=>r vs H1 Q
theorem tJ (hc:CallR X (.builtin id) r) (hg:Gl X x) (hm:X.mg x=none) (hv:bootBuiltins x=some (.builtin id)) (ha:PA X (e::es) t) (hn:x ≠ "__name__" := by decide) (hdb:(x == ("__debug__" : Str))=false:=by decide)
  (he:starEach (e::es) X.env=(false,eval e X.env)::starEach es X.env:=by rfl) (hpl:(backTo pos (starEach es X.env)).any (·.1)=false:=by rfl):PE X (.Call (.Name x p) (e::es) [] pos) (tH r t):=by
 intro pins s σ H Q I h;refine Pb (lU I hg hm hv ?_ hn hdb)
 exact PyProof.Rows.callWith_builtin1 (thn (ha pos pins s σ H _ I h) λus s1 ⟨vs,H1,I1,r1,q1⟩=>hc pins s1 σ H1 vs us Q I1 r1 q1) he hpl
theorem Er (hc:CallR X (.type T) r) (hg:Gl X x) (hm:X.mg x=none) (hv:bootBuiltins x=some (.type T)) (ha:PA X (e::es) t) (hn:x ≠ "__name__" := by decide) (hdb:(x == ("__debug__" : Str))=false:=by decide)
  (he:starEach (e::es) X.env=(false,eval e X.env)::starEach es X.env:=by rfl) (hpl:(backTo pos (starEach es X.env)).any (·.1)=false:=by rfl):PE X (.Call (.Name x p) (e::es) [] pos) (tH r t):=by
 intro pins s σ H Q I h;refine Pb (lU I hg hm hv ?_ hn hdb)
 exact Oq (thn (ha pos pins s σ H _ I h) λus s1 ⟨vs,H1,I1,r1,q1⟩=>hc pins s1 σ H1 vs us Q I1 r1 q1) he hpl
end
end L2
namespace HT
open PySem PyProof.Rows
section
open PySem.SeqAt
open PySem.AutoSeq1 (wpAny_loadPart')
open PySem.MeetsSeq PySem.MeetsSeq2 PySem.MeetsSeq3
end
section
variable {prog:Program} {w:World} {A:Around} {E:Value->Shared->Prop} {s:Shared}
theorem cat_tup {t b:Addr} {vs ws:List Value} {Q:Value->Shared->Prop} (ht:IsTup s.heap t vs.toArray) (hb:IsTup s.heap b ws.toArray) (hv:vs≠[])
  (h1:ws=[]->Q (.ref t) s) (h2:ws≠[]->Q (.ref s.heap.objs.size) { s with heap:=s.heap.push { cls:=.type "tuple",data:=.seq (vs++ws).toArray } })
  (hsz:vs.length+ws.length<=sizeLine):wpAny (model prog w) A (binaryOp .Add (.ref t) (.ref b)) Q E s:=by
 obtain ⟨⟨cls,dd,data,sl⟩,ho,hc,n,hd⟩:=id ht;obtain ⟨⟨cls2,dd2,data2,sl2⟩,ho2,hc2,n2,hd2⟩:=id hb;simp only at hc hd hc2 hd2
 subst hc hd hc2 hd2
 have e:vs.toArray++ws.toArray=(vs++ws).toArray:=by simp
 by_cases hw:ws=[]
 ·exact Rk ⟨_,ho,rfl⟩ ⟨_,ho2,rfl⟩ noFill_tuple_add seq_tuple_add Qc PY (PR _ _)
   (tuple_addW1 t b vs.toArray ws.toArray n n2 dd dd2 sl sl2 (by simpa using hv) (by simp [hw])) ⟨ho,ho2,h1 hw⟩
 ·refine Rk ⟨_,ho,rfl⟩ ⟨_,ho2,rfl⟩ noFill_tuple_add seq_tuple_add Qc PY (PR _ _)
   (tuple_addW2 t b vs.toArray ws.toArray n n2 dd dd2 sl sl2 (by simpa using hv) (by simpa using hw) (by rw [M7,M7];exact hsz)) ⟨ho,ho2,?_⟩
  rw [e];exact h2 hw
def sIx (n d:Nat):Option Int->Nat
 | none=>d
 | some v=>if v<0 then (v+(n:Int)).toNat else min v.toNat n
theorem sIx_none (n d:Nat):sIx n d none=d:=rfl
theorem sIx_nat (n d k:Nat):sIx n d (some (k:Int))=min k n:=by
 show (if (k:Int)<0 then ((k:Int)+(n:Int)).toNat else min (k:Int).toNat n)=min k n
 rw [MX (by lia),Rb]
theorem sIx_le (n d:Nat) (hd:d<=n) (o:Option Int):sIx n d o<=n:=by
 cases o with
 | none=>exact hd
 | some v =>
  show (if v<0 then (v+(n:Int)).toNat else min v.toNat n)<=n
  by_cases hv:v<0
  ·rw [MW hv];lia
  ·rw [MX hv];exact Nat.min_le_right _ _
theorem yu (v:Int) (n d:Nat):(if v<0 then max (v+(n:Int)) 0 else min v (n:Int))=((sIx n d (some v):Nat):Int):=by
 show (if v<0 then max (v+(n:Int)) 0 else min v (n:Int))=(((if v<0 then (v+(n:Int)).toNat else min v.toNat n):Nat):Int)
 by_cases hv:v<0
 ·simp only [MW hv];lia
 ·simp only [MX hv];lia
theorem Es (lo hi:Option Int) (n:Nat):Builtin.Slice.sliceAdjust lo hi 1 (n:Int)=(((sIx n 0 lo:Nat):Int),((sIx n n hi:Nat):Int)):=by
 have h1 : ¬ ((1:Int)<0):=by lia
 unfold Builtin.Slice.sliceAdjust;simp only [h1,Rt]
 refine Prod.ext ?_ ?_
 ·cases lo with
  | none=>rfl
  | some v=>exact yu v n 0
 ·cases hi with
  | none=>rfl
  | some v=>exact yu v n n
theorem Et (i j:Nat):Builtin.Slice.slicePlaces (i:Int) (j:Int) 1=j-i:=by
 unfold Builtin.Slice.slicePlaces;have h1:(1:Int) > 0:=by lia
 simp only [h1,OT,Int.ediv_one]
 split<;>lia
theorem yv {v:Value} {o:Option Int} {Q:Option Int->Shared->Prop} (p:IsPart v o) (h:Q o s):wpAny (model prog w) A (Builtin.Slice.slicePartIndex v) Q E s:=by
 cases p with
 | none=>exact slicePart_none h
 | int i t=>exact slicePart_int h
theorem Eu {sl:Addr} {vl vu:Value} {lo hi:Option Int} {n:Nat} {Q:Int×Int×Nat->Shared->Prop} (hs:s.heap.IsSliceOf sl vl vu .none) (pl:IsPart vl lo) (pu:IsPart vu hi)
  (h:Q (((sIx n 0 lo:Nat):Int),1,sIx n n hi-sIx n 0 lo) s):wpAny (model prog w) A (Builtin.Slice.sliceApplied (.ref sl) (pure (n:Int))) Q E s:=by
 obtain ⟨os,hos,hcs,hds⟩:=id hs;unfold Builtin.Slice.sliceApplied Builtin.Slice.sliceFields;refine MR (MR (QM hos hds (x:=vl) rfl (MR (QM hos hds (x:=vu) rfl (MR (QM hos hds (x:=.none) rfl (MZ ?_)))))))
 refine MR (slicePart_none ?_)
 show wpAny _ _ (if ((1:Int) == 0)=true then _ else _) _ _ s
 rw [MX (by decide)];refine MR (yv pl (MR (yv pu (MR (MZ ?_)))))
 show wpAny _ _ (match Builtin.Slice.sliceAdjust lo hi 1 (n:Int) with | (lo,hi)=>pure (lo,(1:Int),Builtin.Slice.slicePlaces lo hi 1)) _ _ s
 rw [Es lo hi n];show wpAny _ _ (pure (((sIx n 0 lo:Nat):Int),(1:Int),Builtin.Slice.slicePlaces ((sIx n 0 lo:Nat):Int) ((sIx n n hi:Nat):Int) 1)) _ _ s
 rw [Et];exact MZ h
theorem Ew (xs:Array Value) (i k:Nat):((List.range k).filterMap λ(m:Nat)=>xs[((i:Int)+(m:Int)*1).toNat]?).toArray=((xs.toList.drop i).take k).toArray:=by
 have e:(λ(m:Nat)=>xs[((i:Int)+(m:Int)*1).toNat]?)=λm=>xs[i+m]? := by
  funext m
  have:((i:Int)+(m:Int)*1).toNat=i+m:=by lia
  rw [this]
 rw [e];have:=pick_run xs i k
 rw [Pw] at this;have e2:((λx=>xs[x]?) ∘ λx=>i+x)=λm=>xs[i+m]? := rfl
 rw [e2] at this;rw [this]
theorem getItem_tuple_cut {t sl:Addr} {items:Array Value} {vl vu:Value} {lo hi:Option Int} {Q:Value->Shared->Prop} (ht:IsTup s.heap t items) (hs:s.heap.IsSliceOf sl vl vu .none) (pl:IsPart vl lo) (pu:IsPart vu hi)
  (hw : ¬ (sIx items.size 0 lo=0/\sIx items.size items.size hi=items.size))
  (h:Q (.ref s.heap.objs.size) { s with heap:=s.heap.push { cls:=.type "tuple",data:=.seq ((items.toList.drop (sIx items.size 0 lo)).take (sIx items.size items.size hi-sIx items.size 0 lo)).toArray } })
  (hsz:items.size<=sizeLine):wpAny (model prog w) A (getItem (.ref t) (.ref sl)) Q E s:=by
 have htake:sizeOk (.seq ((items.toList.drop (sIx items.size 0 lo)).take (sIx items.size items.size hi-sIx items.size 0 lo)).toArray):=by
  show ((items.toList.drop (sIx items.size 0 lo)).take (sIx items.size items.size hi-sIx items.size 0 lo)).toArray.size<=sizeLine
  rw [M7,NP,Ou,Om];omega
 have hj:sIx items.size items.size hi<=items.size:=sIx_le _ _ (MQ _) hi;obtain ⟨os,hos,hcs,hds⟩:=id hs;have hTs:s.TypeIs (.ref sl) "slice" := ⟨os,hos,hcs⟩;unfold getItem;try with_reducible refine NV ?_
 first | refine MR (MZ ?_) | skip
 refine MR (Rl ht.typeIs (by decide) ?_)
 refine MR (P7 (name:=Str.ofString "__getitem__") ht.typeIs Pi
  (Oa Pi ht.typeIs entry_tuple_getitem ?_ (args_tuple_getitem _ _)))
 show wpAny _ _ (Builtin.Tuple.tupleItemsOf (.ref t) >>= _) _ _ s
 refine MR (tupleItemsOf_ ht ?_)
 refine MR (wpAny_typeOf hTs ?_)
 rw [MW (by decide)];refine MR (Eu hs pl pu ?_)
 have hno : ¬ ((((sIx items.size 0 lo:Nat):Int) == 0 && (1:Int) == 1 && (sIx items.size items.size hi-sIx items.size 0 lo) == items.size)=true):=by
  intro q;rw [Nz,Nz] at q;have q1:((sIx items.size 0 lo:Nat):Int)=0:=P8 q.1.1
  have q2:sIx items.size items.size hi-sIx items.size 0 lo=items.size:=P8 q.2;exact hw ⟨by omega,by omega⟩
 show wpAny _ _ (if (((sIx items.size 0 lo:Nat):Int) == 0 && (1:Int) == 1 && (sIx items.size items.size hi-sIx items.size 0 lo) == items.size)=true then _ else _) _ _ s
 rw [MX hno,Ew];first
  | exact MR (m:=Builtin.Tuple.tupleExact _) (Of (MZ ⟨_,rfl,MZ h⟩) htake)
  | exact MR (m:=Builtin.Tuple.tupleExact _) (Of (MR (MZ (MZ ⟨_,rfl,MZ h⟩))) htake)
  | exact MR (MR (m:=Builtin.Tuple.tupleExact _) (Of (MZ (MZ ⟨_,rfl,MZ h⟩)) htake))
  | exact MR (MR (m:=Builtin.Tuple.tupleExact _) (Of (MZ ⟨_,rfl,MZ h⟩) htake))
end
end HT
namespace L2
open PySem PySem.Spec PyProof.Rows
abbrev TO:=St->Hp->(Option Int->Hp->Prop)->Prop
def PO (X:Cx) (e:Option Expr) (t:TO):Prop :=
 ∀ (pins:List (Addr×Obj)) (s:Shared) (σ:St) (H:Hp) (Q:Option Int->Hp->Prop),Inv X pins σ H s->t σ H Q ->
  wpAny (model X.prog X.w) X.A (evalPart e X.env) (λu s' => ∃ o H',Inv X pins σ H' s'/\IsPart u o/\Q o H') X.xe s
def yw:TO:=λ_ H Q=>Q none H
def yx (t:TE):TO:=λσ H Q=>t σ H λx H1=>∃ i,x = .int i/\Q (some i) H1
section
variable {X:Cx} {e:Expr} {te:TE} {lo hi:Option Expr} {tl th:TO} {pos p2:Pos}
theorem Ey:PO X none yw:=by
 intro pins s σ H Q I h;rw [evalPart_none];exact MZ ⟨none,H,I,.none,h⟩
theorem Ez (h:PE X e te):PO X (some e) (yx te):=by
 intro pins s σ H Q I hw;rw [evalPart_some];refine thn (h pins s σ H _ I hw) λu s1 Zz=>?_;obtain ⟨x,H1,I1,r1,q1⟩:=Zz
 obtain ⟨i,rfl,q⟩:=q1;obtain ⟨t,rfl⟩:=r1;exact ⟨some i,H1,I1,.int i t,q⟩
def SlR (X:Cx) (r:V->Option Int->Option Int->Hp->VK->Prop):Prop :=
 ∀ (pins:List (Addr×Obj)) (s:Shared) (σ:St) (H:Hp) (x:V) (v vl vu:Value) (lo hi:Option Int) (sl:Addr) (Q:VK),Inv X pins σ H s->RelV x v->s.heap.IsSliceOf sl vl vu .none->IsPart vl lo->IsPart vu hi->r x lo hi H Q ->
  ∃ T id,typeLookup (.type T) "__getitem__" = pure (some (.builtin id))/\s.TypeIs v T/\wpAny (model X.prog X.w) X.A (getItem v (.ref sl)) (EP X pins σ Q) X.xe s
theorem SlR.or {r r':V->Option Int->Option Int->Hp->VK->Prop} (h:SlR X r) (h':SlR X r'):SlR X (λx lo hi H Q=>r x lo hi H Q\/r' x lo hi H Q):=by
 intro pins s σ H x v vl vu lo hi sl Q I rx hs pl pu q;rcases q with q | q
 ·exact h pins s σ H x v vl vu lo hi sl Q I rx hs pl pu q
 ·exact h' pins s σ H x v vl vu lo hi sl Q I rx hs pl pu q
def EA (r:V->Option Int->Option Int->Hp->VK->Prop) (te:TE) (tl th:TO):TE:=λσ H Q=>te σ H λx H1=>tl σ H1 λl H2=>th σ H2 λu H3=>r x l u H3 Q
theorem EB {r:V->Option Int->Option Int->Hp->VK->Prop} (hr:SlR X r) (he:PE X e te) (hl:PO X lo tl) (hu:PO X hi th):PE X (.Subscript e (.Slice lo hi none p2) pos) (EA r te tl th):=by
 intro pins s σ H Q I h;refine Subscript_ (thn (he pins s σ H _ I h) λv s1 Zz=>?_);obtain ⟨x,H1,I1,r1,q1⟩:=Zz
 refine wpAny_Slice (thn (hl pins s1 σ H1 _ I1 q1) λvl s2 ⟨l,H2,I2,pl,q2⟩=>thn (hu pins s2 σ H2 _ I2 q2) λvu s3 Zz=>?_);obtain ⟨u,H3,I3,pu,q3⟩:=Zz
 rw [evalPart_none];refine MZ ?_
 have I4:Inv X pins σ H3 { s3 with heap:=s3.heap.push { cls:=.type "slice",data:=.fields #[vl,vu,.none] } }:=I3.kept (t' := s3.toks) λb ob q=>MU _ q
 obtain ⟨T,id,hT,ht,hg⟩:=hr pins { s3 with heap:=s3.heap.push { cls:=.type "slice",data:=.fields #[vl,vu,.none] } } σ H3 x v vl vu l u s3.heap.objs.size Q I4 r1 (Heap.IsSliceOf.new ..) pl pu q3;show wpAny (model X.prog X.w) X.A (subscriptTail e (.Slice lo hi none p2) v (.ref s3.heap.objs.size)) (EP X pins σ Q) X.xe { s3 with heap:=s3.heap.push { cls:=.type "slice",data:=.fields #[vl,vu,.none] } }
 exact tail_any (ops:=[.ref s3.heap.objs.size,v]) ht hT hg (by with_unfolding_all rfl)
def fA (xs:List V) (lo hi:Option Int):List V:=(xs.drop (HT.sIx xs.length 0 lo)).take (HT.sIx xs.length xs.length hi-HT.sIx xs.length 0 lo)
theorem yy (xs:List V) (lo hi:Option Int):(fA xs lo hi).length<=xs.length:=by
 unfold fA;rw [NP,Ou];lia
def tK (K:PySem.W.Frag):V->Option Int->Option Int->Hp->VK->Prop:=λx lo hi H Q=>∃ a xs,x = .ref a/\SqT K H a xs /\
 ¬ (HT.sIx xs.length 0 lo=0/\HT.sIx xs.length xs.length hi=xs.length)/\∀ p,H p=none->Q (.ref p) (upd H p (.tup (fA xs lo hi)))
theorem sl_tup:SlR X (tK X.K):=by
 intro pins s σ H x v vl vu lo hi sl Q I rx hs pl pu h;obtain ⟨a,xs,rfl,hx,hw,q⟩:=h
 cases rx
 obtain ⟨its,r,ht,hz⟩:=I.tuple hx;have hlen:its.toArray.size=xs.length:=by rw [M7];exact r.length.symm
 refine ⟨"tuple",_,PyProof.Rows.slot_tuple_getitem.lookup,ht.typeIs,?_⟩
 refine HT.getItem_tuple_cut ht hs pl pu (by rw [hlen];exact hw) ?_ (by rw [hlen];exact hz)
 rw [hlen];refine ⟨.ref s.heap.objs.size,_,I.laid (t' := s.toks) (o:=.tup (fA xs lo hi)) (λb ob q=>MU _ q) (MQ _) ?_,rfl,q _ (I.hok.fresh (MQ _))⟩
 exact ⟨MV (yy xs lo hi) hz,_,(r.drop (HT.sIx xs.length 0 lo)).take (HT.sIx xs.length xs.length hi-HT.sIx xs.length 0 lo),IsTup.new _ _⟩
def EC (K:PySem.W.Frag):R2:=λx y H Q=>∃ a b xs ys,x = .ref a/\y = .ref b/\SqT K H a xs/\SqT K H b ys/\xs≠[]/\xs.length+ys.length<=sizeLine /\
 (ys=[]->Q (.ref a) H)/\(ys≠[]->∀ p,H p=none->Q (.ref p) (upd H p (.tup (xs++ys))))
theorem Vals.nil_iff {xs:List V} {us:List Value} (r:Vals xs us):us=[] ↔ xs=[]:=by
 cases r with
 | nil=>simp
 | cons _ _=>simp
theorem zjU:OpR X (binaryOp .Add) (EC X.K):=by
 intro pins s σ H x y v u Q I rx ry h;obtain ⟨a,b,xs,ys,rfl,rfl,ha,hb,hx,hz,q1,q2⟩:=h
 cases rx
 cases ry
 obtain ⟨its,r1,p1,_⟩:=I.tuple ha;obtain ⟨its2,r2,p2,_⟩:=I.tuple hb;refine HT.cat_tup p1 p2 (λz=>hx (r1.nil_iff.mp z)) (λz=>⟨.ref a,H,I,rfl,q1 (r2.nil_iff.mp z)⟩) (λz=>?_) (by rw [<- r1.length,<- r2.length];exact hz)
 refine ⟨.ref s.heap.objs.size,_,I.laid (t' := s.toks) (o:=.tup (xs++ys)) (λb ob q=>MU _ q) (MQ _) ?_,rfl,q2 (λw=>z (r2.nil_iff.mpr w)) _ (I.hok.fresh (MQ _))⟩
 exact ⟨by rw [M6];exact hz,_,r1.append r2,IsTup.new _ _⟩
end
def jg (n:Nat) (i:Int):Option Nat:=if 0<=i then (if i<n then some i.toNat else none) else if -(n:Int)<=i then some (i+n).toNat else none
def atI {α:Type} (xs:List α) (i:Int):Option α:=(jg xs.length i).bind λj=>xs[j]?
theorem yz {n:Nat} {i:Int} {j:Nat} (h:jg n i=some j):seqIndex? i n=some j/\j<n /\ -(n:Int)<=i/\i<n:=by
 unfold jg at h;by_cases h0:0<=i
 ·rw [MW h0] at h
  by_cases h1:i<n
  ·rw [MW h1] at h
   have e:i.toNat=j:=Nx h;exact ⟨by rw [seqIndex_of h0 h1,e],by lia,by lia,h1⟩
  ·rw [MX h1] at h;cases h
 ·rw [MX h0] at h
  by_cases h1 : -(n:Int)<=i
  ·rw [MW h1] at h
   have e:(i+n).toNat=j:=Nx h;exact ⟨by rw [Rm (by lia) h1,e],by lia,h1,by lia⟩
  ·rw [MX h1] at h;cases h
theorem p6 {α:Type} {xs:List α} {i:Int} {v:α} (h:atI xs i=some v):∃ j,seqIndex? i xs.length=some j/\xs[j]? = some v/\j<xs.length /\ -(xs.length:Int)<=i/\i<xs.length:=by
 unfold atI at h
 cases e:jg xs.length i with
 | none=>rw [e] at h;cases h
 | some j =>
  rw [e] at h;obtain ⟨h1,h2,h3,h4⟩:=yz e
  exact ⟨j,h1,h,h2,h3,h4⟩
theorem jh {α:Type} {xs:List α} {j:Nat} {v:α} (h:xs[j]? = some v):atI xs (j:Int)=some v:=by
 have hj:j<xs.length:=(MP.mp h).1;have e:jg xs.length (j:Int)=some j:=by
  unfold jg;rw [MW (by lia),MW (by lia)];simp
 unfold atI;rw [e];exact h
def tL (b:Expr):Prop:=∀ o i,subscripted b false o i=operate [o,i] (getItem o i)
def IxR (X:Cx) (r:R2):Prop :=
 ∀ (value slice:Expr) (pins:List (Addr×Obj)) (s:Shared) (σ:St) (H:Hp) (x y:V) (v u:Value) (Q:VK),Inv X pins σ H s->RelV x v->RelV y u->r x y H Q ->
  subscripted slice false v u=operate [v,u] (getItem v u)->wpAny (model X.prog X.w) X.A (subscriptTail value slice v u) (EP X pins σ Q) X.xe s
def iR (X:Cx) (id:String) (r:V->List V->Hp->VK->Prop):Prop :=
 ∀ (pins:List (Addr×Obj)) (s:Shared) (σ:St) (H:Hp) (x:V) (xs:List V) (v:Value) (us:List Value) (Q:VK),Inv X pins σ H s->RelV x v->Vals xs us->r x xs H Q ->
  wpAny (model X.prog X.w) X.A (call (.builtin id) (v::us)) (EP X pins σ Q) X.xe s
section
variable {X:Cx} {a b:Expr} {ta tb:TE} {pos:Pos}
theorem IxR.or {r r':R2} (h:IxR X r) (h':IxR X r'):IxR X (λx y H Q=>r x y H Q\/r' x y H Q):=by
 intro value slice pins s σ H x y v u Q I rx ry q hs;rcases q with q | q
 ·exact h value slice pins s σ H x y v u Q I rx ry q hs
 ·exact h' value slice pins s σ H x y v u Q I rx ry q hs
theorem yA {r:R2} (hr:IxR X r) (ha:PE X a ta) (hb:PE X b tb) (hs:tL b):PE X (.Subscript a b pos) (lW r ta tb):=by
 intro pins s σ H Q I h;exact Subscript_ (kE ha hb I h λv u s2 x y H2 I2 rx ry q=>hr a b pins s2 σ H2 x y v u Q I2 rx ry q (hs _ _))
def nq (K:PySem.W.Frag):R2:=λx y H Q=>∃ p xs i v,x = .ref p/\y = .int i/\SqL K H p xs/\atI xs i=some v/\Q v H
def nt (K:PySem.W.Frag):R2:=λx y H Q=>∃ p xs i v,x = .ref p/\y = .int i/\SqT K H p xs/\atI xs i=some v/\Q v H
def nu:R2:=λx y H Q=>∃ z i c,x = .str z/\y = .int i/\z.length<=sizeLine/\atI z.cps.toList i=some c/\Q (.str ⟨#[c]⟩) H
theorem zgq:IxR X (nq X.K):=by
 intro value slice pins s σ H x y v u Q I rx ry h hs;obtain ⟨p,xs,i,z,rfl,rfl,hq,he,q⟩:=h
 cases rx
 obtain ⟨t,rfl⟩:=ry;obtain ⟨its,r,pl,hz⟩:=I.list hq;obtain ⟨j,h1,h2,h3,h4,h5⟩:=p6 he;obtain ⟨w,ew,rw'⟩:=r.get h2;have hl:=r.length;have hn:=kH;have fin:EP X pins σ Q w s:=⟨z,H,I,rw',q⟩
 by_cases h0:0<=i
 ·have hj:i.toNat=j:=by
   rw [seqIndex_of h0 h5] at h1;exact Nx h1
  exact item_listR pl.isList h0 (by lia) (by rw [hj];simpa using ew) fin hs
 ·have hj:(i+(its.toArray.size:Int)).toNat=j:=by
   rw [Rm (by lia) h4] at h1;rw [M7,<- hl];exact Nx h1
  exact Qj (x:=w) pl.isList.typeIs slot_list_getitem.lookup
   (wpAny_getItem_list_neg (Q:=λr s' => r=w/\EP X pins σ Q r s') pl.isList (by lia) (by rw [M7]<;>lia) (by lia) (by rw [hj];simpa using ew) ⟨rfl,fin⟩) hs
theorem ix_tup:IxR X (nt X.K):=by
 intro value slice pins s σ H x y v u Q I rx ry h hs;obtain ⟨p,xs,i,z,rfl,rfl,hq,he,q⟩:=h
 cases rx
 obtain ⟨t,rfl⟩:=ry;obtain ⟨its,r,pl,hz⟩:=I.tuple hq;obtain ⟨j,h1,h2,h3,h4,h5⟩:=p6 he;obtain ⟨w,ew,rw'⟩:=r.get h2;have hl:=r.length;have hn:=kH;have fin:EP X pins σ Q w s:=⟨z,H,I,rw',q⟩
 exact Qj (x:=w) pl.typeIs slot_tuple_getitem.lookup
  (getItem_tuple (j:=j) (Q:=λr s' => r=w/\EP X pins σ Q r s') pl (by lia) (by lia) (by rw [M7,<- hl];exact h1) (by simpa using ew) ⟨rfl,fin⟩) hs
theorem ED:IxR X nu:=by
 intro value slice pins s σ H x y v u Q I rx ry h hs;obtain ⟨z,i,c,rfl,rfl,hz,he,q⟩:=h;obtain ⟨t,rfl⟩:=rx;obtain ⟨t',rfl⟩:=ry;obtain ⟨j,h1,h2,h3,h4,h5⟩:=p6 he;have hl:z.cps.toList.length=z.length:=by simp [Str.length]
 rw [hl] at h1 h4 h5;have hn:=kH
 exact tail_any (Pz s z t) slot_str_getitem.lookup (getItem_str (c:=c) (by
  have e1:decide (i < -(2 ^ 63:Int))=false:=Nl (by lia);have e2:decide (i ≥ 2 ^ 63)=false:=Nl (by lia);rw [e1,e2,Bool.or_false]) (by rw [h1];simpa using h2) ⟨.str ⟨#[c]⟩,H,I.tok _,⟨_,rfl⟩,q⟩) hs
def yB (K:PySem.W.Frag):R2:=λx y H Q=>nq K x y H Q\/nt K x y H Q\/nu x y H Q
theorem EE:IxR X (yB X.K):=zgq.or (ix_tup.or ED)
theorem EF (its:List Value) (n j:Nat) (u:Value):Obj.mapSeq (·.setIfInBounds j u) { cls:=.type "list",data:=.seq its.toArray n }={ cls:=.type "list",data:=.seq (its.set j u).toArray n }:=by
 simp [Obj.mapSeq]
theorem Inv.lst {pins:List (Addr×Obj)} {σ:St} {H:Hp} {s:Shared} {p:Addr} {xs:List V} (I:Inv X pins σ H s) (h:H p=some (.lst xs)) :
  ∃ (its:List Value) (n:Nat),Vals xs its/\s.heap.get? p=some { cls:=.type "list",data:=.seq its.toArray n }/\xs.length<=sizeLine:=by
 obtain ⟨z,its,n,r,e⟩:=I.hok p _ h;exact ⟨its,n,r,e,z⟩
theorem Inv.lstUpd {pins:List (Addr×Obj)} {σ:St} {H:Hp} {s:Shared} {p:Addr} {xs ys:List V} {its its':List Value} {n n':Nat} {f:Obj->Obj} (I:Inv X pins σ H s) (h:H p=some (.lst xs))
  (ho:s.heap.get? p=some { cls:=.type "list",data:=.seq its.toArray n }) (hf:f { cls:=.type "list",data:=.seq its.toArray n }={ cls:=.type "list",data:=.seq its'.toArray n' }) (r:Vals ys its') (hz:ys.length<=sizeLine) (t:Nat) :
  Inv X pins σ (upd H p (.lst ys)) { s with heap:=s.heap.update p f,toks:=t }:=by
 have e:(s.heap.update p f).get? p=some { cls:=.type "list",data:=.seq its'.toArray n' }:=by
  rw [OO f ho (by rw [hf]<;>rfl),hf]
 refine I.write (x:=p) (e:=p) (by rw [h];trivial) (.inl rfl) (λb u hb q=>(Qd _ _ (Ne.symm hb)).trans q) ⟨_,e⟩ ?_
 exact ⟨hz,its',n',r,e⟩
def EG:V->V->V->Hp->(Hp->Prop)->Prop:=λo i v H Q=>∃ p xs k j,o = .ref p/\i = .int k/\H p=some (.lst xs)/\jg xs.length k=some j/\Q (upd H p (.lst (xs.set j v)))
theorem EH:nh X EG:=by
 intro pins s σ H o i v ov iv u Q I ro ri rv h;obtain ⟨p,xs,k,j,rfl,rfl,hp,hj,q⟩:=h
 cases ro
 obtain ⟨t,rfl⟩:=ri;obtain ⟨its,n,r,ho,hz⟩:=I.lst hp;obtain ⟨h1,h2,h3,h4⟩:=yz hj;have hl:=r.length;have hn:=kH;have I':Inv X pins σ (upd H p (.lst (xs.set j v))) { s with heap:=s.heap.update p (Obj.mapSeq (·.setIfInBounds j u)) } :=
  I.lstUpd hp ho (EF its n j u) (r.set rv j) (by rw [NI];exact hz) s.toks
 by_cases h0:0<=k
 ·have hk:k.toNat=j:=by
   rw [seqIndex_of h0 h4] at h1;exact Nx h1
  exact PySem.W.ki_setAt ho h0 (by lia) (by rw [M7,<- hl];exact h4) (by rw [hk];exact ⟨_,I',q⟩)
 ·have hk:(k+(its.toArray.size:Int)).toNat=j:=by
   rw [Rm (by lia) h3] at h1;rw [M7,<- hl];exact Nx h1
  exact PySem.W.ki_setBack ho (by lia) (by rw [M7,<- hl];exact h3) (by lia) (by rw [hk];exact ⟨_,I',q⟩)
theorem EI (lo hi:Option Int) (n:Nat):(sliceBounds lo hi none n).1=((HT.sIx n 0 lo:Nat):Int)/\(sliceBounds lo hi none n).2.1=((HT.sIx n n hi:Nat):Int)/\(sliceBounds lo hi none n).2.2=1:=by
 refine ⟨?_,?_,rfl⟩
 ·cases lo with
  | none=>simp [sliceBounds,HT.sIx]
  | some i =>
   simp only [sliceBounds,HT.sIx,Option.getD_none,show (1:Int) > 0 by decide,OT]
   by_cases h:i<0
   ·simp only [h,OT]<;>lia
   ·simp only [h,Rt]<;>lia
 ·cases hi with
  | none=>simp [sliceBounds,HT.sIx]
  | some i =>
   simp only [sliceBounds,HT.sIx,Option.getD_none,show (1:Int) > 0 by decide,OT]
   by_cases h:i<0
   ·simp only [h,OT]<;>lia
   ·simp only [h,Rt]<;>lia
theorem EJ (its:List Value) (lo hi:Option Int):slicePick its.toArray lo hi none=((its.drop (HT.sIx its.length 0 lo)).take (HT.sIx its.length its.length hi-HT.sIx its.length 0 lo)).toArray:=by
 obtain ⟨h1,h2,h3⟩:=EI lo hi its.toArray.size;unfold slicePick;rw [h1,h2,h3];simp only [sliceRange_one,pick_run,M7]<;>rfl
def tM (K:PySem.W.Frag):V->Option Int->Option Int->Hp->VK->Prop:=λx lo hi H Q=>∃ a xs,x = .ref a/\SqL K H a xs/\∀ p,H p=none->Q (.ref p) (upd H p (.lst (fA xs lo hi)))
theorem zjV:SlR X (tM X.K):=by
 intro pins s σ H x v vl vu lo hi sl Q I rx hs pl pu h;obtain ⟨a,xs,rfl,hx,q⟩:=h
 cases rx
 obtain ⟨its,r,ht,hz⟩:=I.list hx;have hlen:=r.length;refine ⟨"list",_,slot_list_getitem.lookup,ht.isList.typeIs,?_⟩
 refine wpAny_getItem_list_slice ht.isList hs pl pu .none (by simp) ?_ (by rw [M7]<;>omega)
 rw [EJ,<- hlen];refine ⟨.ref s.heap.objs.size,_,I.laid (t' := s.toks) (o:=.lst (fA xs lo hi)) (λb ob q=>MU _ q) (MQ _) ?_,rfl,q _ (I.hok.fresh (MQ _))⟩
 exact ⟨MV (yy xs lo hi) hz,_,0,(r.drop (HT.sIx xs.length 0 lo)).take (HT.sIx xs.length xs.length hi-HT.sIx xs.length 0 lo),M9 _ rfl⟩
theorem zfd:OpR X (compareOp .NotIn) (λx y H Q=>∃ i j,x = .str i/\y = .str j/\Q (.bl (!(!(Builtin.Str.occurrences j i 0 j.length 1).isEmpty))) H):=by
 intro pins s σ H x y v u Q I rx ry h;obtain ⟨i,j,rfl,rfl,q⟩:=h;obtain ⟨t,rfl⟩:=rx;obtain ⟨t',rfl⟩:=ry;exact notIn_str ⟨.bl _,H,I,rfl,q⟩
theorem zfe:CallR X (.builtin "len") (λxs H Q=>∃ p ys,xs=[.ref p]/\(SqL X.K H p ys\/SqT X.K H p ys)/\Q (.int ys.length) H):=by
 intro pins s σ H xs us Q I r h;obtain ⟨p,ys,rfl,hq,q⟩:=h;obtain ⟨u,rfl,rx⟩:=je r
 cases rx
 have hn:=kH;rcases hq with hq | hq
 ·obtain ⟨its,r',pl,hz⟩:=I.list hq
  have hlen:=r'.length;exact Calls.call_len_list pl.isList (by simp only [M7]<;>lia) ⟨.int ys.length,H,I.tok _,⟨s.toks+1,by rw [M7,hlen]⟩,q⟩
 ·obtain ⟨its,r',pl,hz⟩:=I.tuple hq
  have hlen:=r'.length;exact len_tuple pl (by simp only [M7]<;>lia) ⟨.int ys.length,H,I.tok _,⟨s.toks+1,by rw [M7,hlen]⟩,q⟩
theorem zff:CallR X (.builtin "len") (λxs H Q=>∃ z,xs=[.str z]/\z.length<=sizeLine/\Q (.int z.length) H):=by
 intro pins s σ H xs us Q I r h;obtain ⟨z,rfl,hz,q⟩:=h;obtain ⟨u,rfl,t,rfl⟩:=je r;have hn:=kH;exact len_str (by lia) ⟨.int z.length,H,I.tok _,⟨_,rfl⟩,q⟩
theorem CallR.or {f:Value} {r r':List V->Hp->VK->Prop} (h:CallR X f r) (h':CallR X f r'):CallR X f (λxs H Q=>r xs H Q\/r' xs H Q):=by
 intro pins s σ H xs us Q I rs q;rcases q with q | q
 ·exact h pins s σ H xs us Q I rs q
 ·exact h' pins s σ H xs us Q I rs q
def p7 (K:PySem.W.Frag) (T:String) (x:V) (H:Hp):Prop:=match x with
 | .str _=>T = "str"
 | .int _=>T = "int"
 | .ref p=>(T = "list" /\ ∃ xs,SqL K H p xs)\/(T = "tuple" /\ ∃ o,K.lookup p=some o/\o.cls = .type "tuple" /\ o.dict=none) \/
   (T = "dict" /\ ((∃ kvs,H p=some (.dK kvs))\/∃ xc kvs,H p=some (.dT xc kvs)))\/(T = "set" /\ ∃ S n,H p=some (.set S n))
 | _=>False
theorem yC {pins:List (Addr×Obj)} {σ:St} {H:Hp} {s:Shared} {T:String} {x:V} {v:Value} (I:Inv X pins σ H s) (r:RelV x v) (ty:p7 X.K T x H) :
  s.TypeIs v T/\∀ a,v = .ref a->∃ ob,s.heap.get? a=some ob/\ob.dict=none:=by
 cases x with
 | str z =>
  obtain ⟨t,rfl⟩:=r
  cases (show T = "str" from ty)
  exact ⟨Pz s z t,λ_ e=>nomatch e⟩
 | int i =>
  obtain ⟨t,rfl⟩:=r
  cases (show T = "int" from ty)
  exact ⟨Ru s i t,λ_ e=>nomatch e⟩
 | ref p =>
  cases r
  rcases ty with ⟨rfl,xs,hq⟩ | ⟨rfl,o,hk,hc,hd⟩ | ⟨rfl,hk⟩ | ⟨rfl,S,n,hk⟩
  ·obtain ⟨its,_,pl,_⟩:=I.list hq
   refine ⟨pl.isList.typeIs,λa e=>?_⟩
   cases e
   obtain ⟨o,n,e,c,hd,_⟩:=pl;exact ⟨o,e,hd⟩
  ·refine ⟨⟨o,I.kIn p o hk,hc⟩,λa e=>?_⟩
   cases e
   exact ⟨o,I.kIn _ o hk,hd⟩
  ·have z:∃ o,s.heap.get? p=some o/\o.ExactDict:=by
    rcases hk with ⟨kvs,hk⟩ | ⟨xc,kvs,hk⟩
    ·obtain ⟨_,_,_,_,o,_,_,e,ex,_⟩:=I.hok p _ hk
     exact ⟨o,e,ex⟩
    ·obtain ⟨_,_,_,_,o,_,_,e,ex,_⟩:=I.hok p _ hk
     exact ⟨o,e,ex⟩
   obtain ⟨o,e,ex⟩:=z;refine ⟨⟨o,e,ex.1⟩,λa e2=>?_⟩
   cases e2
   exact ⟨o,e,ex.2.1⟩
  ·obtain ⟨o,_,_,_,e,ex,_⟩:=I.hok p _ hk
   refine ⟨⟨o,e,ex.1⟩,λa e2=>?_⟩
   cases e2
   exact ⟨o,e,ex.2.1⟩
 | _=>exact False.elim ty
def tN (K:PySem.W.Frag) (T:String) (r:V->List V->Hp->VK->Prop) (to:TE):TE:=λσ H Q=>to σ H λx H1=>p7 K T x H1/\r x [] H1 Q
def EK (K:PySem.W.Frag) (T:String) (r:V->List V->Hp->VK->Prop) (to:TE) (t:TA):TE:=λσ H Q=>to σ H λx H1=>p7 K T x H1/\t σ H1 λxs H2=>r x xs H2 Q
variable {o e:Expr} {es:List Expr} {to:TE} {t:TA} {name:Str} {apos cpos:Pos} {T id:String} {r:V->List V->Hp->VK->Prop}
theorem yD (pa:PlainAttrs T) (slot:Slot T name id) (hty:typeOf (.builtin id)=pure (.type "method_descriptor")) (hm:iR X id r) (ho:PE X o to)
  (hbase:attributeBase o name X.env (eval o X.env)=eval o X.env:=by rfl) (hline:(apos.endLine == cpos.line)=true:=by rfl):PE X (.Call (.Attribute o name apos) [] [] cpos) (tN X.K T r to):=by
 intro pins s σ H Q I h;refine wpAny_Call_method0_late hbase hline (thn (ho pins s σ H _ I h) λv s1 Zz=>?_);obtain ⟨x,H1,I1,r1,ty,q1⟩:=Zz
 obtain ⟨h1,h2⟩:=yC I1 r1 ty;exact ⟨T,id,pa,slot,hty,h1,h2,Os rfl (PySem.evalArgs_none (hm pins s1 σ H1 x [] v [] Q I1 r1 .nil q1))⟩
theorem EL (pa:PlainAttrs T) (slot:Slot T name id) (hty:typeOf (.builtin id)=pure (.type "method_descriptor")) (hm:iR X id r) (ho:PE X o to) (ha:PA X (e::es) t)
  (hbase:attributeBase o name X.env (eval o X.env)=eval o X.env:=by rfl)
  (hfew:((backTo cpos (starEach (e::es) X.env)).all (λx=>!x.1) && (backToKw cpos (keywordEach [] X.env)).all (λx=>x.1.isSome)
   && decide ((e::es).length+([]:List Keyword).length+(if ([]:List Keyword).isEmpty then 0 else 1)<30))=true:=by rfl)
  (hline:(apos.endLine == cpos.line)=true:=by rfl) (hs:starEach (e::es) X.env=(false,eval e X.env)::starEach es X.env:=by rfl) (hplain:(backTo cpos (starEach es X.env)).any (·.1)=false:=by rfl) :
  PE X (.Call (.Attribute o name apos) (e::es) [] cpos) (EK X.K T r to t):=by
 intro pins s σ H Q I h;refine wpAny_Call_method_late hbase hfew hline rfl (thn (ho pins s σ H _ I h) λv s1 Zz=>?_);obtain ⟨x,H1,I1,r1,ty,q1⟩:=Zz
 obtain ⟨h1,h2⟩:=yC I1 r1 ty;refine ⟨T,id,pa,slot,hty,h1,h2,?_⟩
 have hA:=ha cpos pins s1 σ H1 _ I1 q1;rw [hs] at hA ⊢;refine Os (by show (false || (backTo cpos (starEach es X.env)).any (·.1))=false;rw [hplain]<;>rfl) (OU ?_)
 exact thn hA λus s2 ⟨vs,H2,I2,r2,q2⟩=>hm pins s2 σ H2 x vs v us Q I2 r1 r2 q2
end
def tP (X:Cx) (id:String) (r:V->List V->Hp->VK->Prop):Prop :=
 ∀ (pins:List (Addr×Obj)) (s:Shared) (σ:St) (H:Hp) (x:V) (xs:List V) (v:Value) (us:List Value) (Q:VK),Inv X pins σ H s->RelV x v->Vals xs us->r x xs H Q ->
  wpAny (model X.prog X.w) X.A (call (.builtin id) (v::us)) (EP X pins σ Q) X.xe s
theorem Vals.one:∀ {x:V} {us:List Value},Vals [x] us->∃ u,us=[u]/\RelV x u
 | _,_,.cons r .nil=>⟨_,rfl,r⟩
theorem Vals.zero:∀ {us:List Value},Vals [] us->us=[]
 | _,.nil=>rfl
theorem Vals.dropLast {xs:List V} {us:List Value} (h:Vals xs us):Vals xs.dropLast us.dropLast:=by
 induction h with
 | nil=>exact .nil
 | cons r t ih =>
  cases t with
  | nil=>exact .nil
  | cons q t' => exact .cons r ih
theorem EM {α:Type} (l:List α):l.eraseIdx (l.length-1)=l.dropLast:=by
 induction l with
 | nil=>rfl
 | cons a r ih =>
  cases r with
  | nil=>rfl
  | cons b r =>
   have e:(a::b::r).length-1=((b::r).length-1)+1:=by
    have h1:(a::b::r).length=r.length+2:=rfl;have h2:(b::r).length=r.length+1:=rfl;omega
   rw [e,List.eraseIdx_cons_succ,ih];all_goals rfl
section
variable {X:Cx} {pins:List (Addr×Obj)} {σ:St} {H:Hp} {s:Shared} {l b:Addr} {xs ys zs:List V}
theorem Inv.lset {its its':List Value} {n:Nat} {f:Array Value->Array Value} {t':Nat} (I:Inv X pins σ H s) (hH:H l=some (.lst xs))
  (e:s.heap.get? l=some { cls:=.type "list",data:=.seq its.toArray n }) (hf:f its.toArray=its'.toArray) (hv:Vals ys its') (hz:ys.length<=sizeLine) :
  Inv X pins σ (upd H l (.lst ys)) { s with heap:=s.heap.update l (Obj.mapSeq f),toks:=t' }:=by
 have q:=PySem.IsL.update e f;rw [hf] at q;refine I.write (x:=l) (e:=l) (by rw [hH];exact trivial) (.inl rfl) (λb' u hb hu=>(Qd s.heap (Obj.mapSeq f) (Ne.symm hb)).trans hu) ⟨_,q⟩ ?_
 exact ⟨hz,its',_,hv,q⟩
theorem Inv.lnew {its:List Value} {t':Nat} (I:Inv X pins σ H s) (hv:Vals ys its) (hz:ys.length<=sizeLine) :
  Inv X pins σ (upd H s.heap.objs.size (.lst ys)) { s with heap:=s.heap.push { cls:=.type "list",data:=.seq its.toArray },toks:=t' } :=
 I.laid (λ_ _ q=>MU _ q) (MQ _) ⟨hz,its,0,hv,M9 _ rfl⟩
theorem Inv.fresh (I:Inv X pins σ H s):H s.heap.objs.size=none:=I.hok.fresh (MQ _)
theorem Inv.lstM (I:Inv X pins σ H s) (hH:H l=some (.lst xs)):xs.length<=sizeLine/\∃ (its:List Value) (n:Nat),Vals xs its/\xs.length=its.length/\s.heap.get? l=some { cls:=.type "list",data:=.seq its.toArray n }:=by
 obtain ⟨z,its,n,r,e⟩:=I.hok l _ hH;exact ⟨z,its,n,r,r.length,e⟩
end
section
variable {X:Cx}
def EO:V->List V->Hp->VK->Prop:=λx vs H Q=>∃ l xs y,x = .ref l/\vs=[y]/\H l=some (.lst xs)/\xs.length<sizeLine/\Q .non (upd H l (.lst (xs++[y])))
theorem yE:tP X "list.append" EO:=by
 intro pins s σ H x vs v us Q I rx rv h;obtain ⟨l,xs,y,rfl,rfl,hH,hz,q⟩:=h
 cases rx
 obtain ⟨u,rfl,ru⟩:=rv.one;obtain ⟨z,its,n,r,hl,e⟩:=I.lstM hH;refine Pd F.slot_list_append ⟨_,e,rfl⟩ F.entry_list_append (F.args_list_append_2 _ _) (PySem.list_append l its.toArray n u (by rw [M7];lia)) ⟨e,?_⟩
 refine ⟨.non,_,I.lset (its' := its++[u]) hH e (by simp) (r.append (.cons ru .nil)) ?_,rfl,q⟩
 rw [M6,List.length_singleton];lia
def tQ:V->List V->Hp->VK->Prop:=λx vs H Q=>∃ l xs y,x = .ref l/\vs=[]/\H l=some (.lst xs)/\xs[xs.length-1]? = some y/\Q y (upd H l (.lst xs.dropLast))
theorem ES:tP X "list.pop" tQ:=by
 intro pins s σ H x vs v us Q I rx rv h;obtain ⟨l,xs,y,rfl,rfl,hH,hy,q⟩:=h
 cases rx
 have hus:=rv.zero;subst hus;obtain ⟨z,its,n,r,hl,e⟩:=I.lstM hH
 obtain ⟨u,hu,ru⟩:=r.get hy;have hy':its.toArray[its.toArray.size-1]? = some u:=by
  show its.toArray[its.length-1]? = some u
  rw [<- Pj,<- hl];exact hu
 refine Pd F.slot_list_pop ⟨_,e,rfl⟩ F.entry_list_pop (F.args_list_pop_1 _) (MeetsSeq.list_pop_last l its.toArray n u hy' (by rw [M7];omega)) ⟨e,?_⟩
 refine ⟨y,_,I.lset (its' := its.dropLast) hH e ?_ r.dropLast ?_,ru,q⟩
 ·show its.toArray.eraseIdxIfInBounds (its.toArray.size-1)=its.dropLast.toArray
  rw [M7,List.eraseIdxIfInBounds_toArray,EM]
 ·rw [List.length_dropLast]
  omega
def ET:V->List V->Hp->VK->Prop:=λx vs H Q=>∃ l xs,x = .ref l/\vs=[]/\H l=some (.lst xs)/\Q .non (upd H l (.lst []))
theorem EU:tP X "list.clear" ET:=by
 intro pins s σ H x vs v us Q I rx rv h;obtain ⟨l,xs,rfl,rfl,hH,q⟩:=h
 cases rx
 have hus:=rv.zero;subst hus;obtain ⟨z,its,n,r,hl,e⟩:=I.lstM hH
 refine Pd F.slot_list_clear ⟨_,e,rfl⟩ F.entry_list_clear (F.args_list_clear_1 _) (AutoSeq1.list_clear_list_0 l its.toArray n (by rw [M7];lia)) ⟨e,?_⟩
 exact ⟨.non,_,I.lset (its' := []) (ys:=[]) hH e rfl .nil (Nj _),rfl,q⟩
end
section
variable {prog:Program} {w:World} {A:Around} {E:Value->Shared->Prop} {s:Shared}
end
section
variable {X:Cx}
end
section
variable {κ:Type} [DecidableEq κ]
def bZ (kvs:List (κ×V)) (k:κ):Option V:=(kvs.find? λkv=>decide (kv.1=k)).map (·.2)
def cG (kvs:List (κ×V)) (k:κ) (v:V):List (κ×V) :=
 if (kvs.any λkv=>decide (kv.1=k))=true then kvs.map (λkv=>if kv.1=k then (kv.1,v) else kv) else kvs++[(k,v)]
def ji (kvs:List (κ×V)) (k:κ):List (κ×V):=kvs.filter λkv=>decide (kv.1≠k)
theorem p8 {p:κ×V} {r:List (κ×V)} {k:κ} (e:p.1=k):bZ (p::r) k=some p.2:=by simp [bZ,NK,e]
theorem nA {p:κ×V} {r:List (κ×V)} {k:κ} (e : ¬ p.1=k):bZ (p::r) k=bZ r k:=by simp [bZ,NK,e]
theorem qd (k:κ):∀ kvs:List (κ×V),(kvs.any λkv=>decide (kv.1=k))=(bZ kvs k).isSome
 | []=>rfl
 | p::r=>by
  rw [Ob];by_cases e:p.1=k
  ·simp only [p8 e,ND e,Bool.true_or,Option.isSome_some]
  ·rw [nA e,Nl e,Bool.false_or];exact qd k r
theorem yF (kvs:List (κ×V)) (k:κ) (v:V):(cG kvs k v).length<=kvs.length+1:=by
 unfold cG;split
 ·rw [M0];lia
 ·rw [M6,NL,List.length_nil];lia
theorem RelO.isSome_eq {o:Option V} {u:Option Value} (r:RelO o u):o.isSome=u.isSome:=by
 cases o with
 | none=>cases u with
  | none=>rfl
  | some _=>exact (show False from r).elim
 | some _=>cases u with
  | none=>exact (show False from r).elim
  | some _=>rfl
theorem RelO.getD {o:Option V} {u:Option Value} {d:V} {d':Value} (r:RelO o u) (rd:RelV d d'):RelV (o.getD d) (u.getD d'):=by
 cases o with
 | none=>cases u with
  | none=>exact rd
  | some _=>exact (show False from r).elim
 | some _=>cases u with
  | none=>exact (show False from r).elim
  | some _=>exact r
theorem KV.val {kvs:List (κ×V)} {vs:List (κ×Value)} (r:KV kvs vs) (k:κ):RelO (bZ kvs k) (valueAt vs k):=by
 unfold KV at r;induction r with
 | nil=>exact True.intro
 | @cons p q ps qs h t ih =>
  obtain ⟨h1,h2⟩:=h;by_cases e:p.1=k
  ·have e':q.1=k:=h1.symm.trans e
   have b:valueAt (q::qs) k=some q.2:=by simp [valueAt,NK,e']
   rw [p8 e,b];exact h2
  ·have e' : ¬ q.1=k:=λz=>e (h1.trans z)
   have b:valueAt (q::qs) k=valueAt qs k:=by simp [valueAt,NK,e']
   rw [nA e,b];exact ih
theorem KV.any {kvs:List (κ×V)} {vs:List (κ×Value)} (r:KV kvs vs) (k:κ):(kvs.any λkv=>decide (kv.1=k))=vs.any λkv=>decide (kv.1=k):=by
 unfold KV at r;induction r with
 | nil=>rfl
 | cons h t ih=>rw [Ob,Ob,ih,h.1]
theorem KV.repl {kvs:List (κ×V)} {vs:List (κ×Value)} (r:KV kvs vs) (k:κ) {y:V} {u:Value} (ry:RelV y u) :
  KV (kvs.map λkv=>if kv.1=k then (kv.1,y) else kv) (vs.map λkv=>if kv.1=k then (kv.1,u) else kv):=by
 unfold KV at r ⊢
 induction r with
 | nil=>exact .nil
 | @cons p q ps qs h t ih =>
  rw [Ny,Ny];refine .cons ?_ ih
  obtain ⟨h1,h2⟩:=h;by_cases e:p.1=k
  ·rw [MW e,MW (h1.symm.trans e)];exact ⟨h1,ry⟩
  ·rw [MX e,MX (λz=>e (h1.trans z))];exact ⟨h1,h2⟩
theorem KV.put {kvs:List (κ×V)} {vs:List (κ×Value)} (r:KV kvs vs) (k:κ) {y:V} {u:Value} (ry:RelV y u):KV (cG kvs k y) (stored vs k u):=by
 unfold cG stored;rw [r.any k];by_cases e:(vs.any λkv=>decide (kv.1=k))=true
 ·rw [MW e,MW e];exact r.repl k ry
 ·rw [MX e,MX e];exact Paired.snoc r ⟨rfl,ry⟩
theorem KV.drop {kvs:List (κ×V)} {vs:List (κ×Value)} (r:KV kvs vs) (k:κ):KV (ji kvs k) (without vs k):=by
 unfold KV at r ⊢
 unfold ji without;induction r with
 | nil=>exact .nil
 | @cons p q ps qs h t ih =>
  obtain ⟨h1,h2⟩:=h;rw [OB,OB];by_cases e:p.1=k
  ·have a : ¬ decide (p.1≠k)=true:=by simp [e]
   have b : ¬ decide (q.1≠k)=true:=by simp [h1.symm.trans e]
   rw [MX a,MX b];exact ih
  ·have e' : ¬ q.1=k:=λz=>e (h1.trans z)
   have a:decide (p.1≠k)=true:=by simp [e]
   have b:decide (q.1≠k)=true:=by simp [e']
   rw [MW a,MW b];exact .cons ⟨h1,h2⟩ ih
theorem KV.length {kvs:List (κ×V)} {vs:List (κ×Value)} (r:KV kvs vs):kvs.length=vs.length:=Paired.length r
theorem yG (kvs:List (κ×V)) (k:κ):(ji kvs k).length<=kvs.length:=Qo _ _
end
theorem jX {P:Program} {w:World} {k:aU} {u:Value} (r:RelV (kV k) u):(fW P w).is k u=true:=by
 cases k with
 | inl i=>obtain ⟨t,e⟩:=(show ∃ t,u=Value.int i t from r);subst e;exact Cp P w i t
 | inr x=>obtain ⟨t,e⟩:=(show ∃ t,u=Value.str x t from r);subst e;exact Cq P w x t
theorem EV {P:Program} {w:World} {y:V} {k:aU} {u:Value} (e:lQ y=some k) (r:RelV y u):(iw P w).is k u=true:=by
 cases y with
 | int i=>cases e;obtain ⟨t,e⟩:=(show ∃ t,u=Value.int i t from r);subst e;exact Cm P w i t
 | str x=>cases e;obtain ⟨t,e⟩:=(show ∃ t,u=Value.str x t from r);subst e;exact Cn P w x t
 | bl b=>cases e;cases (show u=Value.bool b from r);exact ND rfl
 | _=>cases e
theorem yH {P:Program} {w:World}:∀ {ys:List V} {ks:List aU} {us:List Value},ys.map lQ=ks.map some->Vals ys us->ItemsAre (iw P w) ks us
 | [],[],_,_,r=>by cases r;exact .nil
 | [],_::_,_,e,_=>by simp at e
 | _::_,[],_,e,_=>by simp at e
 | y::ys,k::ks,_,e,r=>by
  rw [Ny,Ny] at e;injection e with e1 e2
  cases r with
  | cons h t=>exact .cons (EV e1 h) (yH e2 t)
def KTup (H:Hp) (b:Addr) (k:List aU):Prop:=∃ ys,H b=some (.tup ys)/\ys.map lQ=k.map some
theorem KTup.of {H:Hp} {b:Addr} {k:List aU} (e:H b=some (.tup (k.map kV))):KTup H b k:=⟨_,e,by rw [OZ];exact On λx _=>Cr x⟩
def DictE {P:Program} {w:World} {K:Type} [DecidableEq K] (h:Heap) (kn:PySem.HeapKind P w K) (d:Addr) (xs:List (K×Addr×Value)) (n:Nat):Prop :=
 ∃ o es,h.get? d=some o/\o.ExactDict/\o.data = .dict es n/\es.toList=xs.map (entryOfKey kn)/\(∀ x∈xs,kn.is h x.1 x.2.1)/\(xs.map (·.1)).Nodup
theorem DictE.of {P:Program} {w:World} {K:Type} [DecidableEq K] {h:Heap} {kn:PySem.HeapKind P w K} {d:Addr} {xs:List (K×Addr×Value)} {n:Nat} (e:DictE h kn d xs n):h.DictOfH kn d xs:=e.imp λ_ ⟨es,r⟩=>⟨es,n,r⟩
theorem tR {P:Program} {w:World} {K:Type} [DecidableEq K] {kn:PySem.HeapKind P w K} {d b:Addr} {k:K} {xs:List (K×Addr×Value)} {A:Around} {E:Value->Shared->Prop} {s:Shared} {v:Value} {Q:Unit->Shared->Prop}
  (hu:kn.room A.in1) (hk:kn.is s.heap k b) (hm:DictE s.heap kn d xs xs.length) (hz:xs.length<=sizeLine)
  (q:∀ g,DictE g kn d (storedH xs k b v) (storedH xs k b v).length->Heap.SameBut d s.heap g->Q () { s with heap:=g,toks:=s.toks+kn.draws k }) :
  wpAny (model P w) A (setItem (.ref d) (.ref b) v) Q E s:=by
 have ty:=hm.of.typeIs;obtain ⟨o,es,e1,e2,e3,e4,e5,e6⟩:=hm;unfold setItem;try with_reducible refine NV ?_
 refine MR (Rl ty (by decide) (MR (P7 (name:=Str.ofString "__setitem__") ty Rn (Oa Rn ty entry_dict_setitem ?_ (args_dict_setitem _ _ _)))))
 show wpAny _ _ (Builtin.Dict.notOrdered "__setitem__" _ >>= _) _ _ s
 refine MR (Pk ty (show wpAny _ _ (dictSet d (.ref b) v >>= _) _ _ s from MR ?_))
 have fin:∀ g,DictE g kn d (storedH xs k b v) (storedH xs k b v).length->Heap.SameBut d s.heap g->wpAny (model P w) A.in1 (pure Unit.unit) (λ_ s' => Q () s') (λ_ _=>False) { s with heap:=g,toks:=s.toks+kn.draws k }:=λg a c=>MZ (q g a c)
 unfold dictSet;try with_reducible refine NV ?_
 refine MR (kn.pyHash hu hk ?_)
 unfold dictSetHashed;try with_reducible refine NV ?_
 refine MR (wpAny_dictFind_heap (s:={ s with toks:=s.toks+kn.draws k }) hu hk e1 e3 e4 e5 e6 (λno=>?_) λj p hj=>?_)
 ·have st:=storedH_new (a:=b) (v:=v) (atKey_none_of_get no)
  refine MR (Q8 (wpAny_updateDictKeys (hz:=by have z:=size_of_entries e4;lia) (s:={ s with toks:=s.toks+kn.draws k }) e1 e3 (MZ ⟨.none,rfl,MZ (q _ ?_ (Oz ..))⟩)))
  have ln:(xs++[(k,b,v)]).length=xs.length+1:=by simp
  rw [st,ln];refine ⟨_,_,OO _ e1 (Obj.isFreed_of_dict (Obj.data_mapDictKeys e3 _)),e2.mapDictKeys _,Obj.data_mapDictKeys e3 _,?_,λx hx=>?_,?_⟩
  ·simp [e4,entryOfKey]
  ·rcases NH.mp hx with hx | hx
   ·exact kn.keeps (e5 x hx) e1 e3 (Oz ..)
   ·have z:x=(k,b,v):=by simpa using hx
    rw [z];exact kn.keeps hk e1 e3 (Oz ..)
  ·rw [NZ,Pf]
   exact ⟨e6,by simp,λx hx y hy z=>not_mem_keys_of_get no (by
    have e:y=k:=by simpa using hy
    rw [<- e,<- z];exact hx)⟩
 ·have st:=storedH_old (a:=b) (v:=v) (atKey_of_get e6 hj)
  refine MR (Q8 (MR (wpAny_updateDict (s:={ s with toks:=s.toks+kn.draws k }) e1 e3 (wpAny_point (MZ ⟨.none,rfl,MZ (q _ ?_ (Oz ..))⟩)))))
  rw [st,M0];refine ⟨_,_,OO _ e1 (Obj.isFreed_of_dict (Obj.data_mapDict e3 _)),e2.mapDict _,Obj.data_mapDict e3 _,?_,λx hx=>?_,?_⟩
  ·have z:=modify_map_putAt (entryOfKey kn) (λe:DictEntry=>{ e with val:=v }) k v (λ_ _=>rfl) e6 hj
   rw [<- e4] at z;obtain ⟨l⟩:=es
   simpa using z
  ·obtain ⟨y,hy,rfl⟩:=OI.mp hx
   unfold putAt;split<;>exact kn.keeps (e5 y hy) e1 e3 (Oz ..)
  ·rw [keys_map_putAt];exact e6
def yI (xc:Option (List Addr)) (old:Bool) (b:Addr):Option (List Addr):=xc.map λas=>if old then as else as++[b]
theorem EW {xs:List (List aU×Addr×Value)} {k:List aU} {b:Addr} {u:Value} {xc:Option (List Addr)} (h:∀ as,xc=some as->xs.map (·.2.1)=as):∀ as,yI xc (atKey xs k).isSome b=some as->(storedH xs k b u).map (·.2.1)=as:=by
 intro as e;obtain ⟨bs,e1,e2⟩:=Nc.mp e;subst e2;unfold storedH
 by_cases q:(atKey xs k).isSome=true
 ·rw [MW q,MW q,OZ,<- h bs e1]
  exact On λx _=>by show (putAt k u x).2.1=x.2.1;unfold putAt;split<;>rfl
 ·rw [MX q,MX q,NZ,h bs e1];rfl
abbrev KT (H:Hp):List (List aU×V)->List (List aU×Addr×Value)->Prop:=Paired λp q=>p.1=q.1/\(∃ ys,H q.2.1=some (.tup ys)/\ys.map lQ=p.1.map some)/\RelV p.2 q.2.2
theorem KT.val {H:Hp} {kvs:List (List aU×V)} {xs:List (List aU×Addr×Value)} (r:KT H kvs xs) (k:List aU):RelO (bZ kvs k) ((atKey xs k).map (·.2)):=by
 induction r with
 | nil=>exact True.intro
 | @cons p q ps qs h t ih =>
  obtain ⟨h1,_,h2⟩:=h;by_cases e:p.1=k
  ·have e':q.1=k:=h1.symm.trans e
   have b:atKey (q::qs) k=some q.2:=by simp [atKey,NK,e']
   rw [p8 e,b];exact h2
  ·have e' : ¬ q.1=k:=λz=>e (h1.trans z)
   have b:atKey (q::qs) k=atKey qs k:=by simp [atKey,NK,e']
   rw [nA e,b];exact ih
theorem KT.repl {H:Hp} {kvs:List (List aU×V)} {xs:List (List aU×Addr×Value)} (r:KT H kvs xs) (k:List aU) {y:V} {u:Value} (ry:RelV y u) :
  KT H (kvs.map λkv=>if kv.1=k then (kv.1,y) else kv) (xs.map (putAt k u)):=by
 induction r with
 | nil=>exact .nil
 | @cons p q ps qs h t ih =>
  rw [Ny,Ny];refine .cons ?_ ih
  obtain ⟨h1,h2,h3⟩:=h;unfold putAt;by_cases e:p.1=k
  ·rw [MW e,MW (h1.symm.trans e)];exact ⟨h1,h2,ry⟩
  ·rw [MX e,MX (λz=>e (h1.trans z))];exact ⟨h1,h2,h3⟩
theorem KT.put {H:Hp} {kvs:List (List aU×V)} {xs:List (List aU×Addr×Value)} (r:KT H kvs xs) (k:List aU) {b:Addr} {y:V} {u:Value} (hb:KTup H b k) (ry:RelV y u) :
  KT H (cG kvs k y) (storedH xs k b u):=by
 have e:(kvs.any λkv=>decide (kv.1=k))=(atKey xs k).isSome:=by
  rw [qd,(r.val k).isSome_eq,OQ]
 unfold cG storedH;rw [e];by_cases q:(atKey xs k).isSome=true
 ·rw [MW q,MW q];exact r.repl k ry
 ·rw [MX q,MX q];exact Paired.snoc r ⟨rfl,hb,ry⟩
theorem KT.keeps {H H':Hp} {kvs:List (List aU×V)} {xs:List (List aU×Addr×Value)} (r:KT H kvs xs) (ht:∀ b ys,H b=some (.tup ys)->H' b=some (.tup ys)):KT H' kvs xs :=
 Paired.mapP r λ_ _ z=>⟨z.1,z.2.1.imp λ_ e=>⟨ht _ _ e.1,e.2⟩,z.2.2⟩
section
variable {P:Program} {w:World} {H:Hp} {h:Heap} {a:Addr}
theorem yJ {u:HO} (ok:HOk P w H h) (e:Rd H a u):ObjOk P w H h a u:=e.ok ok
theorem jm {kvs:List (aU×V)} (ok:HOk P w H h) (e:Rd H a (.dK kvs)):kvs.length<=sizeLine/\(a == sysModules)=false/\∃ vs,KV kvs vs/\h.DictOf (fW P w) a vs :=
 show ObjOk P w H h a (.dK kvs) from yJ ok e
theorem jY {kvs:List (aU×V)} (ok:HOk P w H h) (e:H a=some (.dK kvs)):kvs.length<=sizeLine/\(a == sysModules)=false/\∃ vs,KV kvs vs/\h.DictOf (fW P w) a vs:=jm ok (.inl e)
theorem kI {ks:List aU} (ok:HOk P w H h) (e:KTup H a ks):(tupleKind (iw P w)).is h ks a:=by
 obtain ⟨ys,e,ek⟩:=e;obtain ⟨_,its,r,o,h1,h2,n,h3⟩:=(show ObjOk P w H h a (.tup ys) from ok a _ e)
 exact ⟨o,its.toArray,n,h1,h2,h3,by simpa using yH ek r⟩
theorem jZ {xc:Option (List Addr)} {kvs:List (List aU×V)} (ok:HOk P w H h) (e:Rd H a (.dT xc kvs)):kvs.length<=sizeLine/\(a == sysModules)=false /\
  ∃ xs,KT H kvs xs/\(∀ as,xc=some as->xs.map (·.2.1)=as)/\DictE h (tupleKind (iw P w)) a xs xs.length:=by
 obtain ⟨z,y,xs,r,o,es,ep,h1,h2,h3,h4,h5⟩:=(show ObjOk P w H h a (.dT xc kvs) from yJ ok e)
 obtain ⟨h5,h6,h7⟩:=h5;subst h6;refine ⟨z,y,xs,r,h7,o,es,h1,h2,h3,h4,λx hx=>?_,h5⟩
 have all:∀ {l:List (List aU×V)} {m:List (List aU×Addr×Value)},KT H l m->∀ x∈m,(tupleKind (iw P w)).is h x.1 x.2.1:=by
  intro l m q;induction q with
  | nil=>intro x hx;exact nomatch hx
  | @cons p q ps qs hq t ih =>
   intro x hx;rcases Nd.mp hx with e | hx
   ·subst e
    exact kI ok (by rw [<- hq.1];exact hq.2.1)
   ·exact ih x hx
 exact all r x hx
theorem EX {xc:Option (List Addr)} {kvs:List (List aU×V)} (ok:HOk P w H h) (e:H a=some (.dT xc kvs)):kvs.length<=sizeLine/\(a == sysModules)=false /\
  ∃ xs,KT H kvs xs/\(∀ as,xc=some as->xs.map (·.2.1)=as)/\DictE h (tupleKind (iw P w)) a xs xs.length:=jZ ok (.inl e)
end
def DGet (H:Hp) (a:Addr) (y:V) (r:Option V):Prop :=
 (∃ kvs k,Rd H a (.dK kvs)/\y=kV k/\r=bZ kvs k)\/∃ xc kvs k b,Rd H a (.dT xc kvs)/\y = .ref b/\KTup H b k/\r=bZ kvs k
def DPut (H:Hp) (a:Addr) (y v:V) (H':Hp):Prop :=
 (∃ kvs k,H a=some (.dK kvs)/\y=kV k/\kvs.length<sizeLine/\H'=upd H a (.dK (cG kvs k v))) \/
 ∃ xc kvs k b,H a=some (.dT xc kvs)/\y = .ref b/\KTup H b k/\kvs.length<sizeLine/\H'=upd H a (.dT (yI xc (kvs.any λkv=>decide (kv.1=k)) b) (cG kvs k v))
theorem DGet.k {H:Hp} {a:Addr} {kvs:List (aU×V)} {k:aU} (e:H a=some (.dK kvs)):DGet H a (kV k) (bZ kvs k):=.inl ⟨kvs,k,.inl e,rfl,rfl⟩
theorem DGet.t {H:Hp} {a b:Addr} {kvs:List (List aU×V)} {k:List aU} {xc:Option (List Addr)} (e:H a=some (.dT xc kvs)) (eb:KTup H b k):DGet H a (.ref b) (bZ kvs k):=.inr ⟨xc,kvs,k,b,.inl e,rfl,eb,rfl⟩
theorem DPut.k {H:Hp} {a:Addr} {kvs:List (aU×V)} {k:aU} {v:V} (e:H a=some (.dK kvs)) (hl:kvs.length<sizeLine):DPut H a (kV k) v (upd H a (.dK (cG kvs k v))):=.inl ⟨kvs,k,e,rfl,hl,rfl⟩
theorem DPut.t {H:Hp} {a b:Addr} {kvs:List (List aU×V)} {k:List aU} {v:V} (e:H a=some (.dT none kvs)) (eb:KTup H b k) (hl:kvs.length<sizeLine) :
  DPut H a (.ref b) v (upd H a (.dT none (cG kvs k v))):=.inr ⟨none,kvs,k,b,e,rfl,eb,hl,rfl⟩
section
variable {X:Cx} {pins:List (Addr×Obj)} {σ:St} {H:Hp} {s:Shared} {a:Addr} {y v:V} {u r:Value} {o:Option V} {A:Around} {E:Value->Shared->Prop}
theorem Inv.big (I:Inv X pins σ H s):sysModules<s.heap.objs.size:=by
 have h:mainGlobals<s.heap.objs.size:=(I.mod.glob.keeps I.bk).lt;exact Pu (by decide) h
theorem EY {Q:Value->Shared->Prop} (hu:A.units+1<cLine) (I:Inv X pins σ H s) (g:DGet H a y (some v)) (ry:RelV y u) (h:∀ w' s',Inv X pins σ H s'->RelV v w'->Q w' s') :
  wpAny (model X.prog X.w) A (getItem (.ref a) u) Q E s:=by
 rcases g with ⟨kvs,k,e,ey,l⟩ | ⟨xc,kvs,k,b,e,ey,eb,l⟩
 ·subst ey
  obtain ⟨z,hd,vs,rel,dd⟩:=jm I.hok e;obtain ⟨w',hw,rw'⟩:=RelO.some_of (v:=v) (o:=valueAt vs k) (by rw [l];exact rel.val k)
  exact wpAny_getItem_of (jX ry) dd.mapOf hw (h w' _ (I.tok _) rw')
 ·subst ey
  cases (show u=Value.ref b from ry)
  obtain ⟨z,hd,xs,rel,_,dd⟩:=jZ I.hok e;replace dd:=dd.of
  obtain ⟨w',hw,rw'⟩:=RelO.some_of (v:=v) (o:=(atKey xs k).map (·.2)) (by rw [l];exact rel.val k)
  obtain ⟨p,hp,hp2⟩:=Nc.mp hw;refine wpAny_getItem_heap (Ow hu) (kI I.hok eb) dd hp ?_
  rw [hp2];exact h w' _ (I.tok _) rw'
theorem tU {Q:Value->Shared->Prop} (hu:A.units+1<cLine) (I:Inv X pins σ H s) (g:DGet H a y o) (ry:RelV y u) (h:∀ s',Inv X pins σ H s'->Q (.bool o.isSome) s') :
  wpAny (model X.prog X.w) A (compareOp .In u (.ref a)) Q E s:=by
 rcases g with ⟨kvs,k,e,ey,l⟩ | ⟨xc,kvs,k,b,e,ey,eb,l⟩
 ·subst ey
  obtain ⟨z,hd,vs,rel,dd⟩:=jm I.hok e;refine wpAny_in_of (jX ry) hd dd.mapOf ?_
  rw [<- (rel.val k).isSome_eq,<- l];exact h _ (I.tok _)
 ·subst ey
  cases (show u=Value.ref b from ry)
  obtain ⟨z,hd,xs,rel,_,dd⟩:=jZ I.hok e;replace dd:=dd.of
  refine wpAny_in_heap (Ow hu) (kI I.hok eb) hd dd ?_
  have q:=(rel.val k).isSome_eq;rw [OQ] at q;rw [<- q,<- l];exact h _ (I.tok _)
theorem EZ {Q:Value->Shared->Prop} (hu:A.units+1<cLine) (I:Inv X pins σ H s) (g:DGet H a y o) (ry:RelV y u) (h:∀ s',Inv X pins σ H s'->Q (.bool (!o.isSome)) s') :
  wpAny (model X.prog X.w) A (compareOp .NotIn u (.ref a)) Q E s:=by
 rcases g with ⟨kvs,k,e,ey,l⟩ | ⟨xc,kvs,k,b,e,ey,eb,l⟩
 ·subst ey
  obtain ⟨z,hd,vs,rel,dd⟩:=jm I.hok e;refine wpAny_notIn_of (jX ry) hd dd.mapOf ?_
  rw [<- (rel.val k).isSome_eq,<- l];exact h _ (I.tok _)
 ·subst ey
  cases (show u=Value.ref b from ry)
  obtain ⟨z,hd,xs,rel,_,dd⟩:=jZ I.hok e;replace dd:=dd.of
  refine wpAny_notIn_heap (Ow hu) (kI I.hok eb) hd dd ?_
  have q:=(rel.val k).isSome_eq;rw [OQ] at q;rw [<- q,<- l];exact h _ (I.tok _)
theorem qe {h':Heap} {t':Nat} {ob:HO} (I:Inv X pins σ H s) (mu:m7 (H a)) (hs:Heap.SameBut a s.heap h') (he:∃ q,h'.get? a=some q) (new:ObjOk X.prog X.w (upd H a ob) h' a ob) :
  Inv X pins σ (upd H a ob) { s with heap:=h',toks:=t' } :=
 I.write (x:=a) (e:=a) mu (.inl rfl) (λb q hb z=>(hs.2 b hb).trans z) he new
theorem tV {P:Program} {w:World} {H':Hp} {h':Heap} {kvs:List (aU×V)} {vs:List (aU×Value)} (z:kvs.length<=sizeLine) (hd:(a == sysModules)=false) (rel:KV kvs vs) (dd:h'.DictOf (fW P w) a vs) :
  ObjOk P w H' h' a (.dK kvs):=⟨z,hd,vs,rel,dd⟩
theorem E1 {H':Hp} {Q:Unit->Shared->Prop} (hu:A.units+1<cLine) (I:Inv X pins σ H s) (g:DPut H a y v H') (ry:RelV y u) (rv:RelV v r) (h:∀ s',Inv X pins σ H' s'->Q () s') :
  wpAny (model X.prog X.w) A (setItem (.ref a) u r) Q E s:=by
 rcases g with ⟨kvs,k,e,ey,l,eH⟩ | ⟨xc,kvs,k,b,e,ey,eb,l,eH⟩
 ·subst ey eH
  obtain ⟨z,hd,vs,rel,dd⟩:=jY I.hok e;have hz:vs.length<=sizeLine:=by rw [<- rel.length];exact z
  have hl:(cG kvs k v).length<=sizeLine:=by have:=yF kvs k v;lia
  refine wpAny_setItem_pairs (hsz:=hz) (jX ry) dd λh' dd' hs=>h _ ?_
  have he:∃ q,h'.get? a=some q:=let ⟨q,_,_,hq,_⟩:=dd';⟨q,hq⟩
  exact qe I (by rw [e];exact True.intro) hs he (tV hl hd (rel.put k rv) dd')
 ·subst ey eH
  cases (show u=Value.ref b from ry)
  obtain ⟨z,hd,xs,rel,ha,dd⟩:=EX I.hok e;have hz:xs.length<=sizeLine:=by rw [<- Paired.length rel];exact z
  have hl:(cG kvs k v).length<=sizeLine:=by have:=yF kvs k v;lia
  have eo:(kvs.any λkv=>decide (kv.1=k))=(atKey xs k).isSome:=by rw [qd,(rel.val k).isSome_eq,OQ]
  refine tR (Ow hu) (kI I.hok eb) dd hz λh' dd' hs=>h _ ?_
  obtain ⟨q,es,hq,h2,h3,h4,_,h5⟩:=dd';refine qe I (by rw [e];exact True.intro) hs ⟨q,hq⟩ ⟨hl,hd,_,(rel.put k eb rv).keeps λc ys ec=>?_,q,es,_,hq,h2,h3,h4,h5,rfl,by rw [eo];exact EW ha⟩
  rw [bK (Cs ec e (λz=>nomatch z))];exact ec
end
section
variable {X:Cx} {pins:List (Addr×Obj)} {σ:St} {H:Hp} {s:Shared} {a:Addr} {kvs:List (aU×V)} {k:aU} {u:Value} {A:Around} {E:Value->Shared->Prop}
theorem E2 {v:V} {more:List Value} {Q:Value->Shared->Prop} (I:Inv X pins σ H s) (e:H a=some (.dK kvs)) (ry:RelV (kV k) u) (l:bZ kvs k=some v) (hm:more=[]\/∃ x,more=[x])
  (h:∀ w' s',Inv X pins σ (upd H a (.dK (ji kvs k))) s'->RelV v w'->Q w' s'):wpAny (model X.prog X.w) A (call (.builtin "dict.pop") (.ref a::u::more)) Q E s:=by
 obtain ⟨z,hd,vs,rel,dd⟩:=jY I.hok e;obtain ⟨w',hw,rw'⟩:=RelO.some_of (v:=v) (o:=valueAt vs k) (by rw [<- l];exact rel.val k)
 have hp:(keyPart u).isSome=true:=by
  cases k with
  | inl i=>obtain ⟨t,q⟩:=(show ∃ t,u=Value.int i t from ry);subst q;rfl
  | inr x=>obtain ⟨t,q⟩:=(show ∃ t,u=Value.str x t from ry);subst q;rfl
 have ha:argsOk "dict.pop" ⟨.ref a::u::more,[]⟩:=by
  rcases hm with q | ⟨x,q⟩
  ·subst q;exact PySem.F.args_dict_pop_2 _ _
  ·subst q;exact PySem.F.args_dict_pop_3 _ _ _
 refine Ph Qp dd.typeIs PySem.F.entry_dict_pop ha (meets_dict_pop_there (fW X.prog X.w) a (jX ry) more hm hp)
  ⟨vs,w',dd,by rw [<- rel.length];exact z,hw,λh' dd' hs=>h w' _ ?_ rw'⟩
 have he:∃ q,h'.get? a=some q:=let ⟨q,_,_,hq,_⟩:=dd';⟨q,hq⟩
 exact qe I (by rw [e];exact True.intro) hs he (tV (MV (yG kvs k) z) hd (rel.drop k) dd')
theorem E3 {Q:Value->Shared->Prop} (I:Inv X pins σ H s) (e:Rd H a (.dK kvs)) (h:∀ t s',Inv X pins σ H s'->Q (.int kvs.length t) s'):wpAny (model X.prog X.w) A (call (.builtin "len") [.ref a]) Q E s:=by
 obtain ⟨z,hd,vs,rel,dd⟩:=jm I.hok e;refine call_len_dict hd dd (by rw [<- rel.length];rw [sizeLine_eq] at z;lia) ?_
 rw [<- rel.length];exact h _ _ (I.tok _)
end
def nB (i:Expr):Prop:=∀ ov iv,subscripted i false ov iv=operate [ov,iv] (getItem ov iv)
theorem E4 {prog:Program} {w:World} {A:Around} {E:Value->Shared->Prop} {s:Shared} {env:Env} {value slice:Expr} {pos:Pos} {T id:String} {Q:Value->Shared->Prop}
  (hl:typeLookup (.type T) "__getitem__" = pure (some (.builtin id))) (hs:nB slice)
  (h:wpAny (model prog w) A (eval value env) (λo s₁=>wpAny (model prog w) A (eval slice env) (λi s₂=>s₂.TypeIs o T/\wpAny (model prog w) A (getItem o i) Q E s₂) E s₁) E s) :
  wpAny (model prog w) A (eval (.Subscript value slice pos) env) Q E s:=by
 refine Subscript_ (NC h (λo s₁ h₁=>NC h₁ (λi s₂ h₂=>?_) λ_ _ x=>x) λ_ _ x=>x)
 obtain ⟨hT,h₂⟩:=h₂;unfold subscriptTail;refine MR ?_
 rw [getitemInPython_of_ne hT.not_modules];refine MR (Qn hT hl ?_)
 have fin:wpAny (model prog w) A (subscripted slice false o i) (λr s₃=>wpAny (model prog w) A (letTemporaryGo value o r >>= λ_=>pure r) Q E s₃) E s₂:=by
  rw [hs o i];exact wpAny_operating (NC h₂ (λr s₃ h₃=>MR (wpAny_letTemporaryGo (MZ h₃))) λ_ _ x=>x)
 first
  | exact MZ (MR fin)
  | exact MR (MZ (MR fin))
  | exact MR fin
theorem E5 {X:Cx} {pins:List (Addr×Obj)} {σ:St} {H:Hp} {s:Shared} {a:Addr} {y:V} {o:Option V} (I:Inv X pins σ H s) (g:DGet H a y o):s.TypeIs (.ref a) "dict" := by
 rcases g with ⟨kvs,k,e,_,_⟩ | ⟨xc,kvs,k,b,e,_,_,_⟩
 ·obtain ⟨_,_,vs,_,dd⟩:=jm I.hok e
  exact dd.typeIs
 ·obtain ⟨_,_,xs,_,_,dd⟩:=jZ I.hok e
  replace dd:=dd.of
  exact dd.typeIs
def E6 (td ty:TE):TE:=λσ H Q=>td σ H λx H1=>ty σ H1 λy H2=>∃ a v,x = .ref a/\DGet H2 a y (some v)/\Q v H2
def E7 (td ty tv:TE):TS:=λD σ H=>tv σ H λv H1=>td σ H1 λx H2=>ty σ H2 λy H3=>∃ a H4,x = .ref a/\DPut H3 a y v H4/\D.nx σ H4
section
variable {X:Cx} {o i e value:Expr} {pos pos' tpos:Pos} {td ty tv:TE}
theorem E8 (hu:X.A.units+1<cLine) (ho:PE X o td) (hi:PE X i ty) (hs:nB i):PE X (.Subscript o i pos) (E6 td ty):=by
 intro pins s σ H Q I h;refine E4 PySem.F.slot_dict_getitem.lookup hs (thn (ho pins s σ H _ I h) λu s1 ⟨x,H1,I1,rx,q1⟩=>thn (hi pins s1 σ H1 _ I1 q1) λiv s2 Zz=>?_);obtain ⟨y,H2,I2,ry,a,v,ex,g,q2⟩:=Zz
 subst ex;obtain rfl:u=Value.ref a:=rx
 exact ⟨E5 I2 g,EY hu I2 g ry λw' s3 I3 rw' => ⟨v,H2,I3,rw',q2⟩⟩
theorem E9 (hu:X.A.units+1<cLine) (ho:PE X o td) (hi:PE X i ty) (hv:PE X value tv) (hs:swapsWith value (some (.Subscript o i pos')) pos.line X.env=pure false) :
  PS X (.Assign [.Subscript o i pos'] value pos) (E7 td ty tv):=by
 intro pins s σ H D I h;refine wpAny_Assign_Subscript (thn (hv pins s σ H _ I h) λr s1 ⟨v,H1,I1,rv,q1⟩=>thn (ho pins s1 σ H1 _ I1 q1) λu s2 ⟨x,H2,I2,rx,q2⟩=>thn (hi pins s2 σ H2 _ I2 q2) λiv s3 Zz=>?_) hs;obtain ⟨y,H3,I3,ry,a,H4,ex,g,q3⟩:=Zz
 subst ex;obtain rfl:u=Value.ref a:=rx
 exact E1 hu I3 g ry rv λs4 I4=>⟨σ,H4,I4,q3⟩
end
theorem Fb {P:Program} {w:World} {H:Hp} (h:Heap) (hb:sysModules<h.objs.size):ObjOk P w H (h.push { cls:=.type "dict",data:=.dict #[] }) h.objs.size (.dK []) :=
 ⟨Nj _,beq_eq_false_iff_ne.mpr (Ne.symm (Nt hb)),[],.nil,Heap.DictOf.new h⟩
theorem Fc {P:Program} {w:World} {H:Hp} {xc:Option (List Addr)} (hx:xc=none\/xc=some []) (h:Heap) (hb:sysModules<h.objs.size):ObjOk P w H (h.push { cls:=.type "dict",data:=.dict #[] }) h.objs.size (.dT xc []) :=
 ⟨Nj _,beq_eq_false_iff_ne.mpr (Ne.symm (Nt hb)),[],.nil,_,#[],0,M9 _ rfl,⟨rfl,rfl,rfl⟩,rfl,rfl,OW,rfl,λas e=>by
  rcases hx with rfl | rfl
  ·cases e
  ·injection e⟩
def Fd:TE:=λ_ H Q=>∀ p,H p=none->Q (.ref p) (upd H p (.dK []))
def Fe:TE:=λ_ H Q=>∀ p,H p=none->Q (.ref p) (upd H p (.dT none []))
section
variable {X:Cx} {pos:Pos}
theorem Ff:PE X (.Dict [] [] pos) Fd:=λpins s σ H Q I h =>
 wpAny_Dict_empty ⟨.ref s.heap.objs.size,_,I.laid (a:=s.heap.objs.size) (o:=.dK []) (t' := s.toks) (λ_ _ q=>MU _ q) (MQ _) (Fb s.heap I.big),rfl,h _ (I.hok.fresh (MQ _))⟩
theorem Fg:PE X (.Dict [] [] pos) Fe:=λpins s σ H Q I h =>
 wpAny_Dict_empty ⟨.ref s.heap.objs.size,_,I.laid (a:=s.heap.objs.size) (o:=.dT none []) (t' := s.toks) (λ_ _ q=>MU _ q) (MQ _) (Fc (.inl rfl) s.heap I.big),rfl,h _ (I.hok.fresh (MQ _))⟩
end
structure M1 (X:Cx) (o:Expr) (m:Str) (apos:Pos) (e:Expr) (cpos:Pos):Prop where
 base:attributeBase o m X.env (eval o X.env)=eval o X.env
 few:((backTo cpos (starEach [e] X.env)).all (λx=>!x.1) && (backToKw cpos (keywordEach [] X.env)).all (λx=>x.1.isSome)
  && decide (([e]:List Expr).length+([]:List Keyword).length+(if ([]:List Keyword).isEmpty then 0 else 1)<30))=true
 line:(apos.endLine == cpos.line)=true
 trees:backTo cpos (starEach [e] X.env)=[(false,eval e X.env)]
structure M2 (X:Cx) (o:Expr) (m:Str) (apos:Pos) (e f:Expr) (cpos:Pos):Prop where
 base:attributeBase o m X.env (eval o X.env)=eval o X.env
 few:((backTo cpos (starEach [e,f] X.env)).all (λx=>!x.1) && (backToKw cpos (keywordEach [] X.env)).all (λx=>x.1.isSome)
  && decide (([e,f]:List Expr).length+([]:List Keyword).length+(if ([]:List Keyword).isEmpty then 0 else 1)<30))=true
 line:(apos.endLine == cpos.line)=true
 trees:backTo cpos (starEach [e,f] X.env)=[(false,eval e X.env),(false,eval f X.env)]
def nC (H:Hp) (a:Addr):Prop:=(∃ kvs,Rd H a (.dK kvs))\/∃ xc kvs,Rd H a (.dT xc kvs)
theorem tW {X:Cx} {pins:List (Addr×Obj)} {σ:St} {H:Hp} {s:Shared} {a:Addr} (I:Inv X pins σ H s) (d:nC H a) :
  s.TypeIs (.ref a) "dict" /\ (∀ b,Value.ref a = .ref b->∃ ob,s.heap.get? b=some ob/\ob.dict=none)/\(a == sysModules)=false:=by
 rcases d with ⟨kvs,e⟩ | ⟨xc,kvs,e⟩
 ·obtain ⟨_,hd,vs,_,dd⟩:=jm I.hok e
  refine ⟨dd.typeIs,λb q=>?_,hd⟩
  cases q
  obtain ⟨ob,_,_,h1,h2,_⟩:=dd;exact ⟨ob,h1,h2.2.1⟩
 ·obtain ⟨_,hd,xs,_,_,dd⟩:=jZ I.hok e
  replace dd:=dd.of
  refine ⟨dd.typeIs,λb q=>?_,hd⟩
  cases q
  obtain ⟨ob,_,_,h1,h2,_⟩:=dd;exact ⟨ob,h1,h2.2.1⟩
section
variable {X:Cx} {pins:List (Addr×Obj)} {σ:St} {H:Hp} {s:Shared} {a:Addr} {y d:V} {u r:Value} {o:Option V} {A:Around} {E:Value->Shared->Prop}
theorem Fi {Q:Value->Shared->Prop} (hu:A.units+1<cLine) (I:Inv X pins σ H s) (g:DGet H a y o) (ry:RelV y u) (h:∀ w' s',Inv X pins σ H s'->RelV (o.getD .non) w'->Q w' s') :
  wpAny (model X.prog X.w) A (call (.builtin "dict.get") [.ref a,u]) Q E s:=by
 rcases g with ⟨kvs,k,e,ey,l⟩ | ⟨xc,kvs,k,b,e,ey,eb,l⟩
 ·subst ey
  obtain ⟨z,hd,vs,rel,dd⟩:=jm I.hok e;refine Ph N7 dd.typeIs OJ (PZ _ _) (meets_dict_get (fW X.prog X.w) a (jX ry) hd) ⟨_,dd.mapOf,h _ _ (I.tok _) ?_⟩
  rw [l];exact (rel.val k).getD rfl
 ·subst ey
  cases (show u=Value.ref b from ry)
  obtain ⟨z,hd,xs,rel,_,dd⟩:=jZ I.hok e;replace dd:=dd.of
  refine Ph N7 dd.typeIs OJ (PZ _ _) (meetsH_dict_get (tupleKind (iw X.prog X.w)) a b hd) ⟨Ow hu,k,xs,kI I.hok eb,dd,h _ _ (I.tok _) ?_⟩
  rw [l];exact (rel.val k).getD rfl
theorem Fj {Q:Value->Shared->Prop} (hu:A.units+1<cLine) (I:Inv X pins σ H s) (g:DGet H a y o) (ry:RelV y u) (rd:RelV d r) (h:∀ w' s',Inv X pins σ H s'->RelV (o.getD d) w'->Q w' s') :
  wpAny (model X.prog X.w) A (call (.builtin "dict.get") [.ref a,u,r]) Q E s:=by
 rcases g with ⟨kvs,k,e,ey,l⟩ | ⟨xc,kvs,k,b,e,ey,eb,l⟩
 ·subst ey
  obtain ⟨z,hd,vs,rel,dd⟩:=jm I.hok e;refine Ph N7 dd.typeIs OJ (P0 _ _ _) (meets_dict_get_default (fW X.prog X.w) a (jX ry) hd r) ⟨_,dd.mapOf,h _ _ (I.tok _) ?_⟩
  rw [l];exact (rel.val k).getD rd
 ·subst ey
  cases (show u=Value.ref b from ry)
  obtain ⟨z,hd,xs,rel,_,dd⟩:=jZ I.hok e;replace dd:=dd.of
  refine Ph N7 dd.typeIs OJ (P0 _ _ _) (meetsH_dict_get_default (tupleKind (iw X.prog X.w)) a b hd r) ⟨Ow hu,k,xs,kI I.hok eb,dd,h _ _ (I.tok _) ?_⟩
  rw [l];exact (rel.val k).getD rd
end
def Fk (td ty:TE):TE:=λσ H Q=>td σ H λx H1=>∃ a,x = .ref a/\nC H1 a/\ty σ H1 λy H2=>∃ o,DGet H2 a y o/\Q (o.getD .non) H2
def Fl (td ty tx:TE):TE:=λσ H Q=>td σ H λx H1=>∃ a,x = .ref a/\nC H1 a/\ty σ H1 λy H2=>tx σ H2 λz H3=>∃ o,DGet H3 a y o/\Q (o.getD z) H3
def Fm (td ty:TE):TE:=λσ H Q=>td σ H λx H1=>∃ a,x = .ref a/\nC H1 a/\ty σ H1 λy H2=>∃ kvs k v,H2 a=some (.dK kvs)/\y=kV k/\bZ kvs k=some v/\Q v (upd H2 a (.dK (ji kvs k)))
section
variable {X:Cx} {o e f:Expr} {apos cpos:Pos} {td ty tx:TE}
theorem Fo (hu:X.A.units+1<cLine) (ho:PE X o td) (he:PE X e ty) (m:M1 X o "get" apos e cpos):PE X (.Call (.Attribute o "get" apos) [e] [] cpos) (Fk td ty):=by
 intro pins s σ H Q I h;refine PN m.base m.few m.line OC N7 Qq (thn (ho pins s σ H _ I h) λu s1 Zz=>?_);obtain ⟨x,H1,I1,rx,a,ex,d,q1⟩:=Zz
 subst ex;obtain rfl:u=Value.ref a:=rx
 obtain ⟨t1,t2,_⟩:=tW I1 d;refine ⟨t1,t2,?_⟩
 rw [m.trees];refine Os rfl (OU (OH (thn (he pins s1 σ H1 _ I1 q1) λiv s2 ⟨y,H2,I2,ry,ov,g,q2⟩=>Pe ?_)))
 exact Fi hu I2 g ry λw' s3 I3 rw' => ⟨_,H2,I3,rw',q2⟩
theorem Fp (hu:X.A.units+1<cLine) (ho:PE X o td) (he:PE X e ty) (hf:PE X f tx) (m:M2 X o "get" apos e f cpos):PE X (.Call (.Attribute o "get" apos) [e,f] [] cpos) (Fl td ty tx):=by
 intro pins s σ H Q I h;refine PN m.base m.few m.line OC N7 Qq (thn (ho pins s σ H _ I h) λu s1 Zz=>?_);obtain ⟨x,H1,I1,rx,a,ex,d,q1⟩:=Zz
 subst ex;obtain rfl:u=Value.ref a:=rx
 obtain ⟨t1,t2,_⟩:=tW I1 d;refine ⟨t1,t2,?_⟩
 rw [m.trees];refine Os rfl (OU (OH (thn (he pins s1 σ H1 _ I1 q1) λiv s2 ⟨y,H2,I2,ry,q2⟩ =>
  OH (thn (hf pins s2 σ H2 _ I2 q2) λfv s3 ⟨z,H3,I3,rz,ov,g,q3⟩=>Pe ?_))))
 exact Fj hu I3 g ry rz λw' s4 I4 rw' => ⟨_,H3,I4,rw',q3⟩
theorem Fq (ho:PE X o td) (he:PE X e ty) (m:M1 X o "pop" apos e cpos):PE X (.Call (.Attribute o "pop" apos) [e] [] cpos) (Fm td ty):=by
 intro pins s σ H Q I h;refine PN m.base m.few m.line OC Qp PySem.F.type_dict_pop (thn (ho pins s σ H _ I h) λu s1 Zz=>?_);obtain ⟨x,H1,I1,rx,a,ex,d,q1⟩:=Zz
 subst ex;obtain rfl:u=Value.ref a:=rx
 obtain ⟨t1,t2,_⟩:=tW I1 d;refine ⟨t1,t2,?_⟩
 rw [m.trees];refine Os rfl (OU (OH (thn (he pins s1 σ H1 _ I1 q1) λiv s2 ⟨y,H2,I2,ry,kvs,k,v,ea,ey,l,q2⟩=>Pe ?_)))
 subst ey;exact E2 I2 ea ry l (.inl rfl) λw' s3 I3 rw' => ⟨v,_,I3,rw',q2⟩
end
section
variable {X:Cx} {pins:List (Addr×Obj)} {σ:St} {H:Hp} {s:Shared} {a:Addr} {kvs:List (aU×V)} {A:Around} {E:Value->Shared->Prop}
end
section
variable {X:Cx} {pins:List (Addr×Obj)} {σ:St} {H:Hp} {s:Shared} {a:Addr} {y:V} {u:Value} {A:Around} {E:Value->Shared->Prop}
end
end L2
namespace Att
open PySem PySem.W PySem.Calls PyProof.Rows
theorem Fs {P:Params} {h:Heap}:∀ (ns:List Int) (vs:List Value),WellAll P h vs (ns.map WData.int)->IntsAre vs ns:=by
 intro ns;induction ns with
 | nil =>
  intro vs w;rw [Rc] at w
  cases w
  exact .nil
 | cons n ns ih =>
  intro vs w;rw [Ny] at w
  cases w with
  | cons a b =>
   cases a
   exact .cons _ _ (ih _ b)
theorem Ft {l:OpenLaw} {n:Nat} (hn:l.most=some n) {P:Params} {h:Heap} {args:List WData} {vals:List Value}
  (hpre:l.row.toRowW.claim.pre args=true) (hwl:WellAll P h vals args) :
  ∃ a vs ns,vals=[Value.ref a]/\args=[WData.list (ns.map WData.int)]/\h.get? a=some { cls:=.type "list",data:=.seq vs.toArray }/\IntsAre vs ns/\ns.length<=n:=by
 have hsh:WShape.hasAll [] args [.list .int]=true:=(pre_splitW hpre).1;have hc:l.pre.holds [] { args:=args }=true:=(pre_splitW hpre).2;obtain ⟨d,r,rfl,h1,h2⟩:=hasAllW_cons hsh;obtain rfl:=hasAllW_nil h2;obtain ⟨xs,rfl,h3⟩:=hasW_list h1;obtain ⟨ns,rfl⟩:=items_int h3;have hlen:ns.length<=n:=by
  unfold OpenLaw.pre at hc;have h4:(WTm.not (.lt (.lit (.int (n:Int))) (.len (.arg 0)))).holds [] { args:=[.list (ns.map .int)] }=true:=by
   have h4:=(holds_andW hc).1;rw [hn] at h4;exact h4
  have h5:=condW_of h4 (w_not (w_lt w_lit (w_len_list (w_arg rfl))));rw [M0] at h5;refine P1 λq=>?_
  have q':(n:Int)<((ns.length:Nat):Int):=by lia
  first
   | (rw [ND q'] at h5;exact absurd h5 (by decide))
   | (simp at h5;lia)
 cases hwl with
 | cons w1 w2 =>
  cases w2
  cases w1 with
  | list ho hall=>exact ⟨_,_,ns,rfl,rfl,ho,Fs ns _ hall,hlen⟩
theorem Fu (l:OpenLaw) (args:List WData):l.row.toRowW.claim.post args (.bool true) args=true :=
 postW_of (r:=l.row.toRowW) (X:=(true == true))
  (show WShape.has [] (.bool true) .bool=true by first | rfl | decide | simp [WShape.has,WShape.arms,WShape.armsAll])
  (show (WTm.eq .res (.lit (.bool true))).value [] { args:=args,res:=some (.bool true),after:=args }=some (.bool (true == true)) from w_eq_bool (w_res rfl) w_lit) rfl
theorem attach_call {l:OpenLaw} {n:Nat} {q:Program} {loose:List Str} {XP:(Str->Option Value)->Heap->Prop} {YP:World->Heap->Prop} {d:DefRec}
  (hn:l.most=some n) (hdf:d.params.defaults=[])
  (call:∀ (w:World) (s₀ s₁:Shared) (mg mb:Str->Option Value) (fa:Addr) (o:Obj) (pm cd doc:Value) (a:Addr) (vs:List Value) (ns:List Int),
   Ground q loose [] XP w s₀ mg mb s₁.heap->YP w s₁.heap ->
   s₁.heap.get? fa=some o->o.data = .func (docDef d.name d.params d.body d.scope pm cd doc)->s₁.heap.CodeRec cd d.name->mg d.name=some (.ref fa) ->
   s₁.heap.get? a=some { cls:=.type "list",data:=.seq vs.toArray }->IntsAre vs ns->ns.length<=n->s₁.gens = #[] ->
   codeAny (model l.prog w) callerA (.call (.ref fa) ⟨[.ref a],[]⟩) (λr s' => r = .ok (.ret (.bool true))/\OldK s₁.heap s'.heap/\s'.os=s₁.os/\AllBare s'.gens) s₁) :
  WalkO q loose XP YP l.row.toRowW d [] (λf vs=>PySem.call f vs):=by
 intro w s₀ s₁ mg mb G Y fa o pm cd doc dV kV ho hd hcd hD hmg hg args vals as hpre hlay hrd hwl hlo;obtain rfl:dV = .none:=Dflts.none hD hdf;obtain rfl:kV = .none:=Dflts.noKw hD;obtain ⟨a,vs,ns,rfl,rfl,hobj,hints,hlen⟩:=Ft hn hpre hwl;refine enter_call (Qk (call w s₀ s₁ mg mb fa o pm cd doc a vs ns G Y ho (fd_plain hd) hcd hmg hobj hints hlen hg) λr s' hq=>?_)
 obtain ⟨rfl,h2,h3,h4⟩:=hq;exact ⟨.inl ⟨.bool true,.bool true,[],rfl,λ_=>rfl,.bool true,Fu l _,λ_=>⟨List.Pairwise.nil,λ_ hm=>(nomatch hm)⟩⟩,h2,h3,h4⟩
section
variable {prog:Program} {w:World} {A:Around} {E:Value->Shared->Prop} {s:Shared} {K:Frag}
end
end Att
namespace L2
open PySem PySem.Spec PyProof.Rows
theorem yK:∀ {vs:List Value} {ns:List Int},IntsAre vs ns->Vals (ns.map V.int) vs
 | _,_,.nil=>.nil
 | _,_,.cons n t h=>.cons ⟨t,rfl⟩ (yK h)
def kJ (H:Hp):Prop:=∀ b,H b=none\/∃ o xs,H b=some (.frz o (.lst xs))
theorem Fv {P:Program} {w:World} {K:PySem.W.Frag} {mg mb:Str->Option Value} {CX:gg} {k:Nat} {fa a:Addr} {fd:FuncData} {x:Str} {sp:Sp} {s₁:Shared} {vs:List Value} {ns:List Int}
  (KX:K.In s₁.heap) (hns:s₁.heap.Ns mainGlobals mg) (hb:s₁.heap.Ns builtinsNs mb) (hbb:∀ x:Str,x ≠ "__name__" -> mb x=bootBuiltins x) (hlim:s₁.heap.NoLimit) (hg:s₁.gens = #[])
  (ha:s₁.heap.get? a=some { cls:=.type "list",data:=.seq vs.toArray }) (hi:IntsAre vs ns) (hl:ns.length<=sizeLine) (hr:Room k callerA)
  (F:∀ base:Heap,K.In base->base.Ns mainGlobals mg->FnOk P w K mg base CX k fa fd [x] sp) (hbind:∀ (s:Shared) (u:Value),BindsTo s fd ⟨[u],[]⟩ [(x,u)])
  (hsp:∀ H:Hp,kJ H->SqL K H a (ns.map V.int)->sp [.ref a] H (λv _=>v = .bl true) λ_ _ _=>False)
  (hCX:∀ H e s',CX [] H s₁ (λ_ _ _=>False) e s'->False) :
  codeAny (model P w) callerA (.call (.ref fa) ⟨[.ref a],[]⟩) (λr s' => r = .ok (.ret (.bool true))/\OldK s₁.heap s'.heap/\s'.os=s₁.os/\AllBare s'.gens) s₁:=by
 have rv:=yK hi;have lenV:=hi.length;have core:∀ H:Hp,kJ H->SqL K H a (ns.map V.int)->HOk P w H s₁.heap->(∀ b,H b≠none->b=a)->(H a≠none->K.lookup a=none) ->
   codeAny (model P w) callerA (.call (.ref fa) ⟨[.ref a],[]⟩) (λr s' => r = .ok (.ret (.bool true))/\OldK s₁.heap s'.heap/\s'.os=s₁.os/\AllBare s'.gens) s₁:=by
  intro H hO hS hok hA hK;have base_of:∀ {b:Addr} {o:Obj},s₁.heap.get? b=some o->H b=none->(eQ s₁.heap H).get? b=some o:=λe n=>Cu e n
  have noA:∀ {b:Addr} {o:Obj} {es:Array DictEntry} {ep:Nat},s₁.heap.get? b=some o->o.data = .dict es ep->H b=none:=λ{b o es ep} e d=>by
   cases q:H b with
   | none=>rfl
   | some u =>
    have e':b=a:=hA b (by rw [q];simp)
    subst e'
    rw [ha] at e;cases e
    have d':Data.seq vs.toArray _=Data.dict es ep:=d
    cases d'
  have nsK:∀ {b:Addr} {m:Str->Option Value},s₁.heap.Ns b m->(eQ s₁.heap H).Ns b m:=λ{b m} ⟨o,es,ep,e,d,r⟩=>⟨o,es,ep,base_of e (noA e d),d,r⟩
  have hKb:K.In (eQ s₁.heap H):=λb o e=>base_of (KX b o e) (by
   cases q:H b with
   | none=>rfl
   | some u =>
    have e':b=a:=hA b (by rw [q];simp)
    subst e'
    rw [hK (by rw [q];simp)] at e;cases e)
  have hM:Mod K mg (eQ s₁.heap H):=⟨hKb,nsK hns,⟨mb,nsK hb,hbb⟩,let ⟨mc,h1,h2⟩:=hlim;⟨mc,nsK h1,h2⟩⟩
  have e0:Env0 P w K mg (eQ s₁.heap H) callerA [] s₁ H:=⟨rfl,hM,λb o e=>Cv e,Qa (Ct _ _),trivial,λb hb=>absurd (show b∈([]:List Addr) from hb) (by simp),hok,.of_eq hg⟩
  refine Qk ((F _ hKb (nsK hns)).run callerA [] s₁ H ⟨[.ref a],[]⟩ [.ref a] [.ref a] _ _ hr e0 (hbind s₁ (.ref a)) (.cons rfl .nil) (hsp H hO hS)) λr s' h=>?_
  cases r with
  | error e=>exact (hCX H e s' h).elim
  | ok fl =>
   cases fl with
   | next=>exact False.elim h
   | brk=>exact False.elim h
   | cont=>exact False.elim h
   | ret u =>
    obtain ⟨v,H',os,bare,un,hok',r',q⟩:=h;have q':v = .bl true:=q;subst q'
    obtain rfl:u=Value.bool true:=r';refine ⟨rfl,OldK.of_keep λb o e=>?_,os,bare⟩
    cases q:H b with
    | none=>exact un.keep b o e q (by intro z;exact absurd (show b∈([]:List Addr) from z) (by simp)) (by simp)
    | some u =>
     rcases hO b with z | ⟨ob,xs,z⟩
     ·rw [q] at z;cases z
     ·have z2:=un.frzs b ob _ z
      obtain ⟨e1,_⟩:=hok b _ z;obtain ⟨e2,_⟩:=hok' b _ z2;rw [e] at e1;cases e1
      exact e2
 cases hk:K.lookup a with
 | some o =>
  have e:=KX a o hk;rw [ha] at e
  cases e
  refine core (λ_=>none) (λ_=>.inl rfl) (.inr ⟨_,vs.toArray,_,hk,rfl,rfl,rfl,by rw [M7,lenV];exact hl,by simpa using rv⟩) (λb u z=>by have z':(none:Option HO)=some u:=z;cases z') (λb z=>absurd rfl z) λz=>absurd rfl z
 | none =>
  refine core (λb=>if b=a then some (.frz { cls:=.type "list",data:=.seq vs.toArray } (.lst (ns.map V.int))) else none) (λb=>?_) (.inl (.inr ⟨{ cls:=.type "list",data:=.seq vs.toArray },MW rfl⟩)) (λb u z=>?_) (λb z=>?_) λ_=>hk
  ·by_cases hb:b=a
   ·exact .inr ⟨_,_,MW hb⟩
   ·exact .inl (MX hb)
  ·by_cases hb:b=a
   ·have z' := (MW hb).symm.trans z
    cases z'
    subst hb;exact ⟨ha,by rw [M0];exact hl,vs,_,rv,ha⟩
   ·have z' := (MX hb).symm.trans z
    cases z'
  ·by_cases hb:b=a
   ·exact hb
   ·exact absurd (MX hb) z
theorem walk_of {l:PySem.W.OpenLaw} {n k:Nat} {q:Program} {loose:List Str} {XP:(Str->Option Value)->Heap->Prop} {YP:World->Heap->Prop} {d:DefRec} {K:Params->PySem.W.Frag} {CX:World->gg} {sp:World->Sp} {x:Str}
  (hn:l.most=some n) (hn2:n<=sizeLine) (hdf:d.params.defaults=[]) (hr:Room k callerA)
  (hY:∀ (w:World) (h:Heap),YP w h->(K w.params).In h)
  (F:∀ (w:World) (mg:Str->Option Value) (fa:Addr) (h:Heap),(K w.params).In h->h.Ns mainGlobals mg->mg d.name=some (.ref fa) ->
   ∃ fd:FuncData,(∀ (s:Shared) (u:Value),BindsTo s fd ⟨[u],[]⟩ [(x,u)]) /\
    ∀ base:Heap,(K w.params).In base->base.Ns mainGlobals mg->FnOk l.prog w (K w.params) mg base (CX w) k fa fd [x] (sp w))
  (hsp:∀ (w:World) (H:Hp) (a:Addr) (ns:List Int),ns.length<=n->kJ H->SqL (K w.params) H a (ns.map V.int)->sp w [.ref a] H (λv _=>v = .bl true) λ_ _ _=>False)
  (hCX:∀ (w:World) (H:Hp) (s:Shared) (e:Value) (s':Shared),CX w [] H s (λ_ _ _=>False) e s'->False) :
  PySem.W.WalkO q loose XP YP l.row.toRowW d [] (λf vs=>PySem.call f vs):=by
 refine Att.attach_call hn hdf λw s₀ s₁ mg mb fa o pm cd doc a vs ns G Y ho hd hcd hmg hobj hints hlen hg=>?_
 have KX:=hY w _ Y;obtain ⟨fd,hb,hF⟩:=F w mg fa _ KX G.T.g hmg;exact Fv KX G.T.g G.T.b G.T.builtins G.T.nolimit hg hobj hints (MV hlen hn2) hr hF hb (λH hO hS=>hsp w H a ns hlen hO hS) λH e s' => hCX w H s₁ e s'
def cM (s:Stmt) (j:Nat):Stmt:=match s with
 | .ClassDef _ _ _ body _ _ _ _ _ _ _=>body.getD j (.Pass ⟨0,0,0,0⟩)
 | _=>.Pass ⟨0,0,0,0⟩
def kK (s:Stmt):Arguments:=match s with
 | .FunctionDef _ a _ _ _ _ _ _ _ _=>a
 | _=>{ posonlyargs:=[],args:=[],vararg:=none,kwonlyargs:=[],kw_defaults:=[],kwarg:=none,defaults:=[] }
def iS (s:Stmt):List Stmt:=match s with
 | .FunctionDef _ _ b _ _ _ _ _ _ _=>b
 | _=>[]
def aR (s:Stmt):Scope:=match s with
 | .FunctionDef _ _ _ _ _ _ sc _ _ _=>sc
 | _=>{ kind:=.function,names:=[],isGenerator:=false,isCoroutine:=false }
abbrev E0:XK:=λ_ _ _=>False
structure Fun (K:PySem.W.Frag) (x qual:Str) (st:Stmt) (f:Addr) (fd:FuncData):Prop where
 ex:∃ (oc:Value) (od:Option Addr) (kV doc pm:Value) (an:Option Addr) (cdv ct:Value) (osl:Array (Option Value)),
  fd=PySem.W.fnOf x qual (kK st) (iS st) (aR st) .none kV doc pm an cdv ct/\K.lookup f=some ⟨oc,od,.func fd,osl⟩/\PySem.W.codeIn K cdv qual=true
 kp:PySem.W.keepIn K (.ref f)=true
section
variable {P:Program} {w:World} {K:PySem.W.Frag} {mg:Str->Option Value} {base:Heap}
theorem Fun.binds {x qual:Str} {st:Stmt} {f:Addr} {fd:FuncData} {ps:List Str} (F:Fun K x qual st f fd)
  (h:∀ (kV doc pm:Value) (an:Option Addr) (cdv ct:Value) (us:List Value),us.length=ps.length->bindArgs (PySem.W.fnOf x qual (kK st) (iS st) (aR st) .none kV doc pm an cdv ct) ⟨us,[]⟩=pure (ps.zip us)):Binds K fd ps []:=by
 obtain ⟨oc,od,kV,doc,pm,an,cdv,ct,osl,rfl,lk,hcd⟩:=F.ex;exact .all (h kV doc pm an cdv ct)
theorem yL {x qual:Str} {st:Stmt} {f:Addr} {oc:Value} {od an:Option Addr} {osl:Array (Option Value)} {kV doc pm cdv ct:Value} (l:K.lookup f=some ⟨oc,od,.func (PySem.W.fnOf x qual (kK st) (iS st) (aR st) .none kV doc pm an cdv ct),osl⟩)
  (c:PySem.W.codeIn K cdv qual=true) (k:PySem.W.keepIn K (.ref f)=true):Fun K x qual st f (PySem.W.fnOf x qual (kK st) (iS st) (aR st) .none kV doc pm an cdv ct):=⟨⟨oc,od,kV,doc,pm,an,cdv,ct,osl,rfl,l,c⟩,k⟩
end
section
variable {X:Cx}
theorem pv (i:Nat) {x:Str} {pos:Pos} (hN:X.N[i]? = some x:=by rfl) (hv:m8 X.env.scope x:=by first | exact Or.inl rfl | exact Or.inr (Or.inl rfl) | exact Or.inr (Or.inr rfl)) (hd:(x == ("__debug__" : Str))=false:=by decide)
  (hcd:(x == ("__classdict__" : Str))=false:=by decide):PE X (.Name x pos) (m9 i):=Cw hN hv hd hcd
theorem Fw:CallR X (.builtin "len") (λxs H Q=>∃ a kvs,xs=[V.ref a]/\H a=some (.dK kvs)/\Q (.int kvs.length) H):=by
 intro pins s σ H xs us Q I r h;obtain ⟨a,kvs,rfl,ha,q⟩:=h;obtain ⟨u,rfl,ru⟩:=je r
 cases ru
 exact E3 I (.inl ha) λt s' I' => ⟨.int kvs.length,H,I',⟨t,rfl⟩,q⟩
end
section
variable {κ:Type} [DecidableEq κ]
end
end L2
set_option maxHeartbeats 4000000
namespace L2
open PySem PySem.Spec PyProof.Rows
section
variable {X:Cx} {pins:List (Addr×Obj)} {σ:St} {H:Hp} {s:Shared} {h':Heap}
theorem Inv.turnedL {t':Nat} {fp:List Addr} (I:Inv X pins σ H s) (k:∀ b o,b∉fp->s.heap.get? b=some o->h'.get? b=some o) (hf:∀ b∈fp,dQ X pins H b) :
  Inv X pins σ H { s with heap:=h',toks:=t' }:=by
 have nit:∀ b u,H b=some u->b∉fp:=λb u e z=>by
  have q:=(hf b z).1;rw [q] at e
  cases e
 refine I.step (g' := s.gens) (d' := s.drawn) (ch:=fp) (λb hb=>?_) (λb o _ _ hc e _=>k b o hc e) (λb o _ _ hc e _=>⟨o.slots,k b o hc e⟩) (λ_ _ _ _ n=>n)
  (λb o hc e=>⟨o,k b o hc e⟩) (λ_ _ e=>e) (λ_ _ _ e=>e) (λb ps e=>⟨#[],by rw [e];simp⟩) (λm hm=>?_) (λb u e=>?_) I.bare
 ·obtain ⟨_,f1,_,f3,f4,f5⟩:=hf b hb
  exact ⟨f3,f1,f4,f5⟩
 ·obtain ⟨o,es,ep,ho,r⟩:=hm
  exact ⟨o,es,ep,k _ o (λz=>(hf _ z).2.1 rfl) ho,r⟩
 ·refine (I.hok b u e).stay (λc v hc q=>k c v ?_ q) (λ_ q=>q) λ_ _ q=>q
  rcases hc with z | z
  ·rw [z];exact nit b u e
  ·exact nit c _ z
theorem Inv.adopt {T:Addr} {ob:HO} (I:Inv X pins σ H s) (hn:H T=none) (hT:X.s₀.heap.objs.size<=T) (hL:T≠X.env.locals) (hc:∀ x c,X.env.cells.lookup x=some c->c≠T)
  (hp:∀ p∈X.pn++pins,p.1≠T) (new:ObjOk X.prog X.w (upd H T ob) s.heap T ob):Inv X pins σ (upd H T ob) s:=by
 have hne:∀ b u,H b=some u->b≠T:=λb u e=>fX e hn
 refine I.step (h' := s.heap) (g' := s.gens) (d' := s.drawn) (t' := s.toks) (ch:=[T]) (λb hb=>?_) (λb o _ _ _ e _=>e) (λb o _ _ _ e _=>⟨o.slots,e⟩) (λb o hb e n=>?_) (λb o _ e=>⟨o,e⟩)
  (λb xs e=>by rw [bK (hne b _ e)];exact e) (λb o u e=>by rw [bK (hne b _ e)];exact e) (λb ps e=>⟨#[],by rw [bK (hne b _ e),e];simp⟩) (λm hm=>hm) (λb u e=>?_) I.bare
 ·have e:b=T:=by simpa using hb
  subst e;exact ⟨.inr hT,hL,hc,hp⟩
 ·rw [bK (λz=>hb (by simp [z]))];exact n
 ·by_cases hb:b=T
  ·subst hb;rw [d7] at e;cases e;exact new
  ·rw [bK hb] at e
   exact (I.hok b u e).stay (λc v _ q=>q) (λc q=>by rw [bK (hne c _ q)];exact q) λc xs q=>by rw [bK (hne c _ q)];exact q
end
def tX (K:PySem.W.Frag) (a:Addr):It :=
 ⟨λi H=>∃ xs x,SqL K H a xs/\xs[i]? = some x,λi H x H' => ∃ (T:Addr) (y:V),x = .ref T/\H T=none/\H'=upd H T (.tup [.int i,y])/\∀ xs,SqL K H a xs->xs[i]? = some y,λi H=>∃ xs,SqL K H a xs/\xs.length<=i⟩
theorem Fx {P:Program} {w:World} {K:PySem.W.Frag} {es:List Expr} {k:Nat} {tp:Pos} (a it e:Addr) (hei:e≠it) :
  gc P w K (.Tuple es k tp) (tX K a) [e,it] e (λi h=>(∃ old,IsEnum h e it i old)/\h.IsListIter it a i) where
 mem:=by simp
 obj:=λi h st b hb=>by
  obtain ⟨⟨old,he⟩,o,ho,hc,hd⟩:=st;have hb':b=e\/b=it:=by simpa using hb
  rcases hb' with rfl | rfl
  ·exact ⟨_,he,λv z=>by
    have z':Data.fields _=Data.cell v:=z
    cases z'⟩
  ·exact ⟨o,ho,λv z=>by rw [hd] at z;cases z⟩
 keep:=λi h h' st k=>by
  obtain ⟨⟨old,he⟩,hit⟩:=st;exact ⟨⟨old,k e (by simp) _ he⟩,hit.at λo q=>k it (by simp) o q⟩
 item:=by
  intro X hP hw hK hc i pins s σ H E I hf st hg;subst hP hw hK
  obtain ⟨xs,x,hq,hx⟩:=hg;obtain ⟨its,rv,p,hz⟩:=I.list hq;obtain ⟨u,hu,ru⟩:=rv.get hx;obtain ⟨⟨old,he⟩,hit⟩:=st;refine wpAny_pyNext_enum_item he hit p.isList (x:=u) (by simpa using hu) hei λh1 ho hit1 hT hsz hk=>?_
  refine ⟨.ref s.heap.objs.size,rfl,wpAny_letOwnedTupleGo_enum ho λh2 he2 hs2=>?_⟩
  replace hs2:Heap.SameBut e h1 h2:=hs2
  have helt:e<s.heap.objs.size:=M4 he;have I1:Inv X pins σ H { s with heap:=h2,toks:=s.toks+1 }:=I.turnedL (fp:=[e,it]) (λb o hb q=>by
   have n1:b≠e:=λz=>hb (by simp [z])
   have n2:b≠it:=λz=>hb (by simp [z])
   exact (hs2.2 b n1).trans (hk b o n1 n2 q)) hf
  have hT2:h2.get? s.heap.objs.size=some { cls:=.type "tuple",data:=.seq #[.int i s.toks,u] }:=(hs2.2 _ (Nat.ne_of_gt helt)).trans hT;have fp:=I.fpOk (H' := H) (MQ s.heap.objs.size) (I.hok.fresh (MQ _));obtain ⟨f0,f1,f2,f3,f4,f5⟩:=fp;have I2:Inv X pins σ (upd H s.heap.objs.size (.tup [.int i,x])) { s with heap:=h2,toks:=s.toks+1 } :=
   I1.adopt (T:=s.heap.objs.size) f0 (I.sz) f1 f4 f5 ⟨by show 2<=sizeLine;decide,[.int i s.toks,u],.cons ⟨_,rfl⟩ (.cons ru .nil),⟨_,hT2,rfl,_,rfl⟩⟩
  refine ⟨.ref s.heap.objs.size,_,I2,rfl,⟨s.heap.objs.size,x,rfl,f0,rfl,λys hy=>by rw [I.list_inj hy hq];exact hx⟩,⟨⟨u,by simpa using he2⟩,hit1.extBut hs2.extBut (Ne.symm hei)⟩,λb hb=>?_⟩
  obtain ⟨g0,_⟩:=hf b hb;obtain ⟨o,hob,_⟩:∃ o,s.heap.get? b=some o/\True:=by
   have hb':b=e\/b=it:=by simpa using hb
   rcases hb' with rfl | rfl
   ·exact ⟨_,he,trivial⟩
   ·obtain ⟨o,q,_⟩:=hit
    exact ⟨o,q,trivial⟩
  rw [bK (Nt (M4 hob))];exact g0
 done:=by
  intro X hP hw hK hc i pins s σ H E I hf st hg;subst hP hw hK
  obtain ⟨xs,hq,hx⟩:=hg;obtain ⟨its,rv,p,hz⟩:=I.list hq;obtain ⟨⟨old,he⟩,hit⟩:=st;have hl:=rv.length;exact wpAny_pyNext_enum_end (I.ok.hd hc) he hit p.isList (by simp;omega) λh' eb=>⟨rfl,I.turnedL (fp:=[e,it]) (t' := s.toks) (λb o hb q=>eb b o (λz=>hb (by simp [z])) q) hf⟩
 self:=λ_ _ _ _ _ st h=>by
  obtain ⟨⟨old,he⟩,_⟩:=st;exact Ro he h
section
variable {X:Cx}
def iEnum (K:PySem.W.Frag) (ta:TA):TI:=λσ H R=>ta σ H λvs H1=>∃ a,vs=[.ref a]/\(∃ xs,SqL K H1 a xs)/\R (tX K a) H1
theorem Fy {l:Expr} {ta:TA} {p pos tp:Pos} {es:List Expr} {k:Nat} (hg:Gl X "enumerate") (hm:X.mg "enumerate" = none) (ha:PA X [l] ta) (hs:starEach [l] X.env=[(false,eval l X.env)]:=by rfl) :
  PI X (.Tuple es k tp) (.Call (.Name "enumerate" p) [l] [] pos) (iEnum X.K ta):=by
 intro pins s σ H R I h;refine Call_ (lU I hg hm boot_enumerate (Oq (thn (ha pos pins s σ H _ I h) λus s1 Zz=>?_) hs rfl));obtain ⟨vs,H1,I1,r1,q1⟩:=Zz
 obtain ⟨a,e,⟨xs,hq⟩,q⟩:=q1;subst e
 cases r1 with
 | cons r rr =>
  cases rr
  cases r
  obtain ⟨its,rv,pl,hz⟩:=I1.list hq;refine call_enumerate_list pl.isList λh' he hit hsz hk=>Ro he ?_
  refine ⟨s1.heap.objs.size+1,[s1.heap.objs.size+1,s1.heap.objs.size],_,_,H1,rfl,I1.kept (t' := s1.toks) λb o e=>hk b o e,Fx a _ _ (Nat.succ_ne_self _),⟨⟨_,he⟩,hit⟩,λb hb=>?_,q⟩
  have hb':b=s1.heap.objs.size+1\/b=s1.heap.objs.size:=by simpa using hb
  rcases hb' with rfl | rfl
  ·exact I1.fpOk (PH _) (I1.hok.fresh (PH _))
  ·exact I1.fpOk (MQ _) (I1.hok.fresh (MQ _))
end
def tY (x:Str):It:=⟨λi _=>i<x.cps.size,λi H v H' => H'=H/\∃ c,x.cps[i]? = some c/\v = .str ⟨#[c]⟩,λi _=>x.cps.size<=i⟩
theorem Fz {P:Program} {w:World} {A:Around} (hh:A.handled=none) (it:Addr) (x:Str) (t:Tok) :
  Walks P w A it [it] [it] x.cps.size (SignAt x) (λi h=>h.IsStrIter it (strIterType x) x t i):=by
 cases ha:x.cps.all (· < 128) with
 | false =>
  have e:strIterType x = "str_iterator" := by simp [strIterType,ha]
  rw [e];exact Walks.strWide hh it x t
 | true =>
  have e:strIterType x = "str_ascii_iterator" := by simp [strIterType,ha]
  rw [e];exact Walks.strAscii hh it x t
theorem FC {P:Program} {w:World} {K:PySem.W.Frag} {y:Str} {py:Pos} (it:Addr) (x:Str) (t:Tok):gc P w K (.Name y py) (tY x) [it] it (λi h=>h.IsStrIter it (strIterType x) x t i) where
 mem:=by simp
 obj:=λi h st b hb=>by
  have e:b=it:=by simpa using hb
  subst e;obtain ⟨o,e,c,d⟩:=st
  exact ⟨o,e,λv z=>by rw [d] at z;cases z⟩
 keep:=λi h h' st k=>by
  obtain ⟨o,e,r⟩:=st;exact ⟨o,k it (by simp) o e,r⟩
 item:=by
  intro X hP hw hK hc i pins s σ H E I hf st hg;subst hP hw hK
  refine (Fz (I.ok.hd hc) it x t).item i s _ _ hg st λv h1 tk hv st1 kk=>?_
  obtain ⟨c,u,hcp,rfl⟩:=hv;have I1:Inv X pins σ H { s with heap:=h1,toks:=tk }:=I.turnedL (fp:=[it]) kk hf;exact ⟨_,rfl,MZ ⟨.str ⟨#[c]⟩,H,I1,⟨u,rfl⟩,⟨rfl,c,hcp,rfl⟩,st1,λb hb=>(hf b hb).1⟩⟩
 done:=by
  intro X hP hw hK hc i pins s σ H E I hf st hg;subst hP hw hK
  have hx:x.cps[i]? = none:=Array.getElem?_eq_none hg
  cases ha:x.cps.all (· < 128) with
  | false =>
   have e:strIterType x = "str_iterator" := by simp [strIterType,ha]
   rw [e] at st;exact wpAny_pyNext_wide_end (I.ok.hd hc) st hx λh' eb=>⟨rfl,I.turnedL (fp:=[it]) (t' := s.toks) (λb o hb q=>eb b o (λz=>hb (by simp [z])) q) hf⟩
  | true =>
   have e:strIterType x = "str_ascii_iterator" := by simp [strIterType,ha]
   rw [e] at st;exact wpAny_pyNext_ascii_end (I.ok.hd hc) st hx λh' eb=>⟨rfl,I.turnedL (fp:=[it]) (t' := s.toks) (λb o hb q=>eb b o (λz=>hb (by simp [z])) q) hf⟩
 self:=λA i s Q E st h=>by
  cases ha:x.cps.all (· < 128) with
  | false =>
   have e:strIterType x = "str_iterator" := by simp [strIterType,ha]
   rw [e] at st;exact wpAny_pyIter_striter_wide st h
  | true =>
   have e:strIterType x = "str_ascii_iterator" := by simp [strIterType,ha]
   rw [e] at st;exact wpAny_pyIter_striter_ascii st h
section
variable {X:Cx}
def tZ (tl:TE):TI:=λσ H R=>tl σ H λx H1=>∃ t,x = .str t/\R (tY t) H1
theorem FD {l:Expr} {tl:TE} {y:Str} {py:Pos} (hl:PE X l tl):PI X (.Name y py) l (tZ tl):=by
 intro pins s σ H R I h;refine thn (hl pins s σ H _ I h) λv s1 Zz=>?_;obtain ⟨x,H1,I1,r1,q1⟩:=Zz
 obtain ⟨t,e,q⟩:=q1;subst e;obtain ⟨tk,rfl⟩:=r1
 refine wpAny_pyIter_strU ?_
 refine ⟨s1.heap.objs.size,[s1.heap.objs.size],_,_,H1,rfl,I1.kept (t' := s1.toks) λb o e=>MU _ e,FC _ t tk,⟨_,M9 _ rfl,rfl,rfl⟩,λb hb=>?_,q⟩
 have e:b=s1.heap.objs.size:=by simpa using hb
 subst e;exact I1.fpOk (MQ _) (I1.hok.fresh (MQ _))
end
def eV (env:Env):List (Str×NameKind)->List (Str×Addr)->List (Str×Addr)
 | [],acc=>acc
 | (n,k)::r,acc=>eV env r (if k = .free then (n,(env.cells.lookup n).getD 0)::acc else acc)
theorem FE {env:Env} {scope:Scope} (h:∀ y∈scope.names,y.2 = .free->(env.cells.lookup y.1).isSome=true):closureFor scope env=pure (eV env scope.names []):=by
 have all:∀ (l:List (Str×NameKind)) (acc:List (Str×Addr)),(∀ y∈l,y.2 = .free->(env.cells.lookup y.1).isSome=true) ->
   (forIn l acc λ(x:Str×NameKind) (cs:List (Str×Addr))=>if (x.2 == NameKind.free)=true then (do let a <- cellOf env x.1;pure (ForInStep.yield ((x.1,a)::cs))) else (pure (ForInStep.yield cs):Sem _))=pure (eV env l acc):=by
  intro l;induction l with
  | nil=>intro acc _;rfl
  | cons y r ih =>
   intro acc hl;obtain ⟨n,k⟩:=y;rw [List.forIn_cons];have hr:=λz hz=>hl z (Nv _ hz)
   by_cases hk:k = .free
   ·subst hk
    obtain ⟨c,hc⟩:=Nn.mp (hl (n,.free) NJ rfl);have e1:cellOf env n=pure c:=by
     simp only [cellOf]
     have hc':env.cells.lookup n=some c:=hc;rw [hc']
    simp only [beq_self_eq_true,OT,e1,pure_bind,eV]
    have hc':env.cells.lookup n=some c:=hc;rw [hc'];exact ih _ hr
   ·have hb:(k == NameKind.free)=false:=by simpa using hk
    simp only [hb,Bool.false_eq_true,Rt,pure_bind,eV,hk]
    exact ih _ hr
 unfold closureFor;have q:=all scope.names [] h;first
  | exact q
  | (simp only [bind_pure];exact q)
  | (rw [<- q];simp)
theorem t7 {env:Env}:∀ {l:List (Str×NameKind)} {acc:List (Str×Addr)},(∀ y∈l,y.2 = .free->(env.cells.lookup y.1).isSome=true)->(∀ y c,acc.lookup y=some c->env.cells.lookup y=some c) ->
  ∀ y c,(eV env l acc).lookup y=some c->env.cells.lookup y=some c
 | [],_,_,h,y,c,e=>h y c e
 | (n,k)::r,acc,hl,h,y,c,e=>by
  refine t7 (l:=r) (λz hz=>hl z (Nv _ hz)) ?_ y c e
  intro y c e;by_cases hk:k = .free
  ·rw [MW hk] at e
   rw [O0] at e
   cases hy:y == n with
   | true =>
    rw [hy] at e;have e':y=n:=by simpa using hy
    obtain ⟨c',hc'⟩:=Nn.mp (hl (n,k) NJ hk);have hc'':env.cells.lookup n=some c' := hc';rw [hc''] at e;rw [e',hc''];exact e
   | false =>
    rw [hy] at e;exact h y c e
  ·rw [MX hk] at e
   exact h y c e
theorem t8 {env:Env}:∀ {l:List (Str×NameKind)} {acc:List (Str×Addr)} {y:Str},(y,NameKind.free)∈l\/(acc.lookup y).isSome=true->((eV env l acc).lookup y).isSome=true
 | [],_,_,h=>by
  rcases h with h | h
  ·cases h
  ·exact h
 | (n,k)::r,acc,y,h=>by
  refine t8 (l:=r) ?_
  rcases h with h | h
  ·rcases Nd.mp h with e | e
   ·right
    cases e
    rw [MW rfl,O0];simp
   ·exact .inl e
  ·right
   by_cases hk:k = .free
   ·rw [MW hk,O0]
    cases hy:y == n with
    | true=>rfl
    | false=>exact h
   ·rw [MX hk];exact h
theorem nE {names:List (Str×NameKind)} {x:Str} {k:NameKind} (h:names.lookup x=some k):(x,k)∈names:=NY h
theorem qf {env:Env} {x:Str} {k:NameKind}:∀ {names:List (Str×NameKind)},(names.map λ(n,k)=>if (k == NameKind.free && env.scope.kind == .function && env.kindOf n == some .cell) then (n,NameKind.cell) else (n,k)).lookup x=some k ->
  names.lookup x=some k\/(k = .cell/\names.lookup x=some .free)
 | [],h=>by simp at h
 | (n,kk)::r,h=>by
  have ih:=@qf env x k r;by_cases hc:(kk == NameKind.free && env.scope.kind == .function && env.kindOf n == some .cell)=true
  ·have hf:kk = .free:=by
    have q:=(Nz _ _).mp ((Nz _ _).mp hc).1;simpa using q.1
   subst hf;have h':List.lookup x ((n,NameKind.cell)::(r.map λ(n,k)=>if (k == NameKind.free && env.scope.kind == .function && env.kindOf n == some .cell) then (n,NameKind.cell) else (n,k)))=some k:=by
    have e:(λ(p:Str×NameKind)=>match p with | (n,k)=>if (k == NameKind.free && env.scope.kind == .function && env.kindOf n == some .cell)=true then (n,NameKind.cell) else (n,k)) (n,NameKind.free)=(n,NameKind.cell):=by
     show (if _ then _ else _)=_
     rw [MW hc]
    rw [Ny] at h;rw [<- e];exact h
   rw [O0] at h' ⊢
   cases hx:x == n with
   | true =>
    rw [hx] at h';right
    exact ⟨(Nx h').symm,rfl⟩
   | false =>
    rw [hx] at h';exact ih h'
  ·have h':List.lookup x ((n,kk)::(r.map λ(n,k)=>if (k == NameKind.free && env.scope.kind == .function && env.kindOf n == some .cell) then (n,NameKind.cell) else (n,k)))=some k:=by
    have e:(λ(p:Str×NameKind)=>match p with | (n,k)=>if (k == NameKind.free && env.scope.kind == .function && env.kindOf n == some .cell)=true then (n,NameKind.cell) else (n,k)) (n,kk)=(n,kk):=by
     show (if _ then _ else _)=_
     rw [MX hc]
    rw [Ny] at h;rw [<- e];exact h
   rw [O0] at h' ⊢
   cases hx:x == n with
   | true =>
    rw [hx] at h';exact .inl h'
   | false =>
    rw [hx] at h';exact ih h'
structure CompOk (X:Cx) (ns:List Str) (jf:List (Nat×Str)) (scope:Scope):Prop where
 hN:(ns++jf.map (·.2)).Nodup
 hx:∀ x∈ns,scope.names.lookup x=some .local
 hjf:∀ p∈jf,X.N[p.1]? = some p.2
 hjl:∀ p∈jf,scope.names.lookup p.2=some .free
 hkind:scope.kind = .function
 hcell:∀ y∈scope.names,y.2 ≠ .cell
 hfr:∀ y∈scope.names,y.2 = .free->X.env.kindOf y.1=some .cell\/X.env.kindOf y.1=some .free
 hnames:∀ y∈scope.names,y.2 = .local->scope.names.lookup y.1=some .local
def dD (X:Cx) (pins:List (Addr×Obj)) (ns:List Str) (jf:List (Nat×Str)) (scope:Scope) (cl:List (Str×Addr)) (s:Shared) (H:Hp) (fp:List Addr):Cx where
 prog:=X.prog
 w:=X.w
 K:=X.K
 mg:=X.mg
 base:=X.base
 A:=X.A
 N:=ns++jf.map (·.2)
 s₀:=s
 H₀:=H
 env:=compEnvC scope cl s.heap.objs.size X.env
 outer:=X.stack
 stack:=X.stack
 ex:=fp
 fn:=λ_=>false
 calm:=X.calm
 pn:=X.pn++pins
 xe:=λ_ _=>False
def fY (vs:List (Option V)) (js:List (Nat×Str)) (σ:St):St:=vs++js.map λj=>(σ[j.1]?).join
def jn (X:Cx) (ifs:List Expr) (t:TT):Prop :=
 ∀ (pins:List (Addr×Obj)) (s:Shared) (σ:St) (H:Hp) (Q:Bool->Hp->Prop),Inv X pins σ H s->t σ H Q ->
  wpAny (model X.prog X.w) X.A (forIn ifs true λc r=>if r=true then do let ok <- isTrue c X.env (eval c X.env);pure (ForInStep.yield ok) else pure (ForInStep.yield r)) (TP X pins σ Q) X.xe s
def t9:TT:=λ_ H Q=>Q true H
theorem FG {X:Cx}:jn X [] t9:=λpins s σ H Q I h=>wpAny_tests_nil ⟨H,I,h⟩
theorem FH {X:Cx} {c:Expr} {t:TT} (hc:PT X c t):jn X [c] t:=λpins s σ H Q I h=>wpAny_tests_one (hc pins s σ H Q I h)
def yM (k:Nat) (g:TG) (jf:List (Nat×Str)) (tc:TT) (te:TE) (σ:St) (Q:VK) (J:It) (H1:Hp):Prop:=∀ D,H1 D=none->∃ W:Nat->Nat->List V->Hp->Prop,(∃ m,W 0 m [] (upd H1 D (.lst []))) /\
 ∀ i m ys H2,W i m ys H2->H2 D=some (.lst ys)/\((J.stop i H2/\Q (.ref D) H2)\/(J.go i H2/\ys.length<sizeLine/\∀ x H3,J.yld i H2 x H3->∃ us:List V,us.length=k/\g x (fY (List.replicate k none) jf σ) H3 (λσ' H' => σ'=fY (us.map some) jf σ/\H'=H3)/\tc (fY (us.map some) jf σ) H3 λb H5 =>
  if b=true then te (fY (us.map some) jf σ) H5 λv H6=>H6 D=some (.lst ys)/\∃ m',m'<m/\W (i+1) m' (ys++[v]) (upd H6 D (.lst (ys++[v]))) else ∃ m',m'<m/\W (i+1) m' ys H5))
def qg (k:Nat) (g:TG) (jf:List (Nat×Str)) (wi:TI) (tc:TT) (te:TE):TE:=λσ H Q=>wi σ H (yM k g jf tc te σ Q)
section
variable {X:Cx} {pins:List (Addr×Obj)} {σ:St} {H:Hp} {s:Shared} {ns:List Str} {jf:List (Nat×Str)} {scope:Scope} {fp:List Addr}
theorem CompOk.pg {cl:List (Str×Addr)} {x:Str} {p:Pos} (C:CompOk X ns jf scope) (i:Nat) (h:(ns++jf.map (·.2))[i]? = some x) (m:x∈ns):PG (dD X pins ns jf scope cl s H fp) (.Name x p) (lV i) :=
 sS C.hN h (.inl (QN (C.hx x m))) (.inr (QN (C.hx x m)))
theorem Inv.block {h1:Heap} {tk:Nat} (I:Inv X pins σ H s) (hf:∀ b∈fp,dQ X pins H b) (hlt:∀ b∈fp,b<s.heap.objs.size) (C:CompOk X ns jf scope)
  (hn:h1.Ns s.heap.objs.size (λ_=>none)) (hk:∀ b o,s.heap.get? b=some o->h1.get? b=some o) :
  Inv (dD X pins ns jf scope (eV X.env scope.names []) s H fp) [] (fY (List.replicate ns.length none) jf σ) H { s with heap:=h1,toks:=tk }:=by
 obtain ⟨_,_,hjf,hjl,hkind,hcell,hfr,_⟩:=C;have hsome:∀ y∈scope.names,y.2 = .free->(X.env.cells.lookup y.1).isSome=true:=λy hy hyf=>Nn.mpr (I.ok.has y.1 (hfr y hy hyf))
 have sub:∀ y c,(eV X.env scope.names []).lookup y=some c->X.env.cells.lookup y=some c:=t7 hsome (λy c e=>by simp at e);have hsz:=I.sz;have inE:∀ b,b∈(dD X pins ns jf scope (eV X.env scope.names []) s H fp).ex->b∈fp:=λb z=>z
 have stk:∀ b∈eU X.stack,b<s.heap.objs.size:=λb hb=>by
  obtain ⟨_,o,ho,_⟩:=I.stack.mem hb;exact M4 ho
 refine ⟨⟨I.ok.mod,hkind,I.ok.glob,I.ok.blt,MQ _,λy z c e1 e2=>I.ok.inj y z c (sub y c e1) (sub z c e2),λy hy=>?_,λy c hfn _=>(by cases hfn),I.ok.hd,I.ok.frames,.inl rfl,λb hb=>?_,λb o e=>I.bs b o e,MV I.ok.bsz hsz,λb o e z=>?_,λb hb z=>?_,I.stack,I.stkFree⟩,
  rfl,I.bare,Un.kept hk,⟨_,hn,λi y v e1 e2 e3=>?_⟩,λy c e=>?_,I.hok.fresh (MQ _),λy c e=>I.freeC y c (sub y c e),λp hp=>?_,I.hok.kept hk,?_⟩
 ·have hy':(relabel scope X.env).names.lookup y=some .cell\/(relabel scope X.env).names.lookup y=some .free:=hy
  have mem:(y,NameKind.free)∈scope.names:=by
   rcases hy' with q | q
   ·rcases qf (env:=X.env) q with z | z
    ·exact absurd rfl (hcell _ (nE z))
    ·exact nE z.2
   ·rcases qf (env:=X.env) q with z | z
    ·exact nE z
    ·exact nE z.2
  exact Nn.mp (t8 (.inl mem))
 ·exact ⟨Nt (hlt b hb),λy c e=>(hf b hb).2.2.2.2.1 y c (sub y c e)⟩
 ·rcases (hf b z).2.2.2.1 with q | q
  ·exact I.ok.noex b o e q
  ·exact absurd (Nf (M4 e) (MV I.ok.bsz q)) (Ot _)
 ·rcases Nd.mp (I.stkSub b z) with q | q
  ·exact (hf b hb).2.1 q
  ·exact (hf b hb).2.2.1 q
 ·have e1':(ns++jf.map (·.2))[i]? = some y:=e1
  unfold fY at e2;by_cases hi:i<ns.length
  ·rw [MT (by rw [NQ];exact hi),Oc,MW hi] at e2;cases e2
  ·have hi:=P1 hi
   rw [Nk hi,Nu] at e1';rw [Nk (by rw [NQ];exact hi),NQ,Nu] at e2
   cases q:jf[i-ns.length]? with
   | none=>rw [q] at e2;cases e2
   | some p =>
    rw [q] at e1' e2;have ey:p.2=y:=Nx e1'
    have ev:(σ[p.1]?).join=some v:=Nx e2;have hp:p∈jf:=Nq q;have eσ:σ[p.1]? = some (some v):=by
     cases z:σ[p.1]? with
     | none=>rw [z] at ev;cases ev
     | some r=>rw [z] at ev;rw [show r=some v from ev]
    have hfree:scope.names.lookup y=some .free:=by rw [<- ey];exact hjl p hp
    have mem:=nE hfree;have kX:=hfr _ mem rfl;obtain ⟨m,hnX,hl⟩:=I.loc;obtain ⟨u,ru,lk⟩:=hl p.1 y v (by rw [<- ey];exact hjf p hp) eσ (by
     rcases kX with z | z
     ·exact .inr (.inl z)
     ·exact .inr (.inr z))
    refine ⟨u,ru,.inr ⟨?_,?_⟩⟩
    ·have e3':m8 (relabel scope X.env) y:=e3
     rcases e3' with z | z | z
     ·exfalso
      rcases qf (env:=X.env) z with q | q
      ·rw [hfree] at q;cases q
      ·cases q.1
     ·exact .inl z
     ·exact .inr z
    ·rcases lk with ⟨z,_⟩ | ⟨_,c,hc,hcell'⟩
     ·exfalso
      rcases kX with q | q
      ·rw [show X.env.kindOf y=some .cell from q] at z;cases z
      ·rw [show X.env.kindOf y=some .free from q] at z;cases z
     ·obtain ⟨c',hc'⟩:=Nn.mp (t8 (env:=X.env) (acc:=[]) (.inl mem))
      have e:=sub y c' hc';rw [hc] at e
      cases e
      obtain ⟨o,ho,hd⟩:=hcell';exact ⟨c,hc',o,hk c o ho,hd⟩
 ·obtain ⟨v,o,ho,hd⟩:=I.cell y c (sub y c e)
  exact ⟨v,o,hk c o ho,hd⟩
 ·have hp':p∈X.pn++pins:=by simpa [dD] using hp
  obtain ⟨e,n,ne,nf,d⟩:=I.pin p hp';refine ⟨hk _ _ e,n,Nt (M4 e),λz=>?_,d⟩
  rcases Nd.mp (I.stkSub p.1 z) with q | q
  ·exact ne q
  ·exact nf q
 ·unfold fY
  show _=(ns++jf.map (·.2)).length
  rw [M6,M6,NQ,M0,M0]
end
theorem HOk.sameBut {P:Program} {w:World} {H:Hp} {h h':Heap} {C:Addr} (ok:HOk P w H h) (hn:H C=none) (hs:Heap.SameBut C h h'):HOk P w H h' := λb u e=>by
 refine (ok b u e).stay (λc v hc q=>(hs.2 c ?_).trans q) (λ_ q=>q) λ_ _ q=>q
 rcases hc with z | z
 ·rw [z];exact fX e hn
 ·exact fX z hn
theorem Un.sameBut {fs ex:List Addr} {H H':Hp} {h h1 h2:Heap} {C:Addr} (u:Un fs ex H H' h h1) (hC:h.get? C=none) (hs:Heap.SameBut C h1 h2):Un fs ex H H' h h2:=by
 have ne:∀ b o,h.get? b=some o->b≠C:=λb o e z=>by rw [z,hC] at e;cases e
 refine ⟨λb o e n hb hx=>(hs.2 b (ne b o e)).trans (u.keep b o e n hb hx),λb o e n hb hx=>?_,u.free,λb o e hx=>?_,u.tups,u.frzs,u.tbls⟩
 ·obtain ⟨sl,q⟩:=u.slot b o e n hb hx
  exact ⟨sl,(hs.2 b (ne b o e)).trans q⟩
 ·obtain ⟨o',q⟩:=u.there b o e hx
  exact ⟨o',(hs.2 b (ne b o e)).trans q⟩
theorem FI {prog:Program} {w:World} {A:Around} {R:Result->Shared->Prop} {s:Shared} {elt target iter:Expr} {ifs:List Expr} {scope:Scope} {pos:Pos} {it acc:Value} {env:Env} (I:Nat->Shared->Prop)
  (turn:∀ n s,I n s->wpAny (model prog w) A (pyNext it) (λr s₁=>match r with
   | none=>R (.ok .next) s₁
   | some v=>wpAny (model prog w) A (letOwnedTupleGo target it v) (λ_ s₂=>wpAny (model prog w) A (assign target env v) (λ_ s₃ =>
     wpAny (model prog w) A (forIn ifs true λc r=>if r=true then do let ok <- isTrue c env (eval c env);pure (ForInStep.yield ok) else pure (ForInStep.yield r)) (λok s₄ =>
      if ok=true then wpAny (model prog w) A (eval elt env) (λx s₅=>wpAny (model prog w) A (call (.builtin "list.append") [acc,x]) (λ_ s₆=>∃ m,m<n/\I m s₆) (λ_ _=>False) s₅) (λ_ _=>False) s₄
      else ∃ m,m<n/\I m s₄) (λ_ _=>False) s₃) (λ_ _=>False) s₂) (λ_ _=>False) s₁) (λ_ _=>False) s)
  (n:Nat) (h:I n s):codeAny (model prog w) A (.compLoop (.ListComp elt [⟨target,iter,ifs,0⟩] scope pos) 0 it acc env) R s:=by
 refine codeAny_loop rfl I (λn s hI=>?_) n h
 show wpAny _ A ((compTurn (.ListComp elt [⟨target,iter,ifs,0⟩] scope pos) 0 it acc env).onRaise (λx=>do noteFrame x env;theTreesLotGoes x)) _ _ s
 refine wpAny_noted ?_
 rw [compTurn_list];refine MR (PX (MR (NC (turn n s hI) (λr s₁ h₁=>?_) λ_ _ z=>z.elim)))
 cases r with
 | none=>exact MZ h₁
 | some v =>
  refine MR (NC h₁ (λ_ s₂ h₂=>?_) λ_ _ z=>z.elim)
  refine MR (NC h₂ (λ_ s₃ h₃=>MR (NC h₃ (λok s₄ h₄=>?_) λ_ _ z=>z.elim)) λ_ _ z=>z.elim)
  cases ok with
  | false=>exact MZ ⟨rfl,h₄⟩
  | true =>
   exact MR (MR (NC h₄ (λx s₅ h₅=>MR (NC h₅ (λ_ s₆ h₆=>MZ (MZ ⟨rfl,h₆⟩)) λ_ _ z=>z.elim)) λ_ _ z=>z.elim))
section
variable {X:Cx} {ns:List Str} {tg:Expr} {g:TG} {jf:List (Nat×Str)} {scope:Scope} {iter elt:Expr} {ifs:List Expr} {pos:Pos} {wi:TI} {tc:TT} {te:TE}
theorem yN (hcalm:X.calm=true) (hg:∀ pins cl s H fp,PG (dD X pins ns jf scope cl s H fp) tg g) (hi:PI X tg iter wi) (hc:∀ pins cl s H fp,jn (dD X pins ns jf scope cl s H fp) ifs tc) (he:∀ pins cl s H fp,PE (dD X pins ns jf scope cl s H fp) elt te) (C:CompOk X ns jf scope) {use:Option (Value->Sem Unit)} {Qf:Value->Shared->Prop} {cpos:Pos}
  {pins:List (Addr×Obj)} {σ:St} {H:Hp} {s:Shared} {Q:VK} (I:Inv X pins σ H s) (h:qg ns.length g jf wi tc te σ H Q)
  (fin:∀ D C s6 H6 m6,Inv X pins σ H6 s6->Q (.ref D) H6->dQ X pins H6 C->s6.heap.Ns C m6->compPost (model X.prog X.w) X.A X.xe use Qf (.ref D) C (.ok .next) s6) (hs:∀ x,foldedSetIterable iter X.env x=pure x) :
  wpAny (model X.prog X.w) X.A (comprehension (.ListComp elt [⟨tg,iter,ifs,0⟩] scope pos) scope X.env cpos (newList []) false (eval iter X.env) use) Qf X.xe s:=by
 obtain ⟨_,_,_,_,hkind,hcell,hfr,hnames⟩:=id C;have hsome:∀ y∈scope.names,y.2 = .free->(X.env.cells.lookup y.1).isSome=true:=λy hy hyf=>Nn.mpr (I.ok.has y.1 (hfr y hy hyf))
 refine wpAny_comprehension_free (use:=use) rfl hs (FE hsome) hkind hnames (thn (hi pins s σ H _ I h) λxv s1 h1=>thn h1 λitv s2 h2=>?_)
 obtain ⟨it,fp,tn,J,H2,e,I2,T,st2,f2,h⟩:=h2;subst e;refine Of (wpAny_newFunctionEnv hcell (by intro y hy;simp at hy) (λh₁ hns₁ hsb₁=>?_) hkind)
 have hD0:H2 s2.heap.objs.size=none:=I2.hok.fresh (MQ _);obtain ⟨W,⟨m0,w0⟩,step⟩:=h s2.heap.objs.size hD0;dsimp only at hns₁ hsb₁ ⊢;have I3:Inv X pins σ (upd H2 s2.heap.objs.size (.lst [])) { s2 with heap:=s2.heap.push { cls:=.type "list",dict:=none,data:=.seq ([]:List Value).toArray } } :=
  I2.laid (t' := s2.toks) (λb u q=>MU _ q) (MQ _) ⟨Nj _,[],0,.nil,M9 _ rfl⟩
 generalize hH3:s2.heap.push { cls:=.type "list",dict:=none,data:=.seq ([]:List Value).toArray }=hp3 at hns₁ hsb₁ I3 ⊢
 have hsz3:hp3.objs.size=s2.heap.objs.size+1:=by rw [<- hH3,QB]
 have k23:∀ b o,s2.heap.get? b=some o->hp3.get? b=some o:=λb o q=>by rw [<- hH3];exact MU _ q
 have flt:∀ b∈fp,b<s2.heap.objs.size:=λb hb=>by
  obtain ⟨o,q,_⟩:=T.obj 0 _ st2 b hb;exact M4 q
 have f3:∀ b∈fp,dQ X pins (upd H2 s2.heap.objs.size (.lst [])) b:=λb hb=>by
  obtain ⟨g0,g⟩:=f2 b hb;exact ⟨by rw [bK (Nt (flt b hb))];exact g0,g⟩
 have kC:∀ b o,hp3.get? b=some o->h₁.get? b=some o:=λb o q=>(hsb₁.2 b (Nt (M4 q))).trans (MU _ q)
 have B0:=I3.block (ns:=ns) (jf:=jf) (scope:=scope) (fp:=fp) (h1:=h₁) (tk:=s2.toks+([]:List (Str×Value)).length) f3 (λb hb=>by show b<hp3.objs.size;rw [hsz3];exact Pg (flt b hb)) C (by simpa using hns₁) kC
 have st4:tn 0 h₁:=T.keep _ _ _ st2 λb _ o q=>kC b o (k23 b o q)
 have w0' := w0;have stat:∀ {H':Hp},(∀ b∈fp,H' b=none)->∀ b∈fp,dQ (dD X pins ns jf scope (eV X.env scope.names []) { s2 with heap:=hp3 } (upd H2 s2.heap.objs.size (.lst [])) fp) [] H' b:=λhn b hb=>by
  obtain ⟨_,g1,g2,g3,g4,g5⟩:=f2 b hb;refine ⟨hn b hb,Nt (by show b<hp3.objs.size;rw [hsz3];exact Pg (flt b hb)),λz=>?_,.inl hb,λy c q=>g4 y c (t7 hsome (λy c e=>by simp at e) y c q),λp hp=>g5 p (by simpa [dD] using hp)⟩
  rcases Nd.mp (I2.stkSub b z) with q | q
  ·exact g1 q
  ·exact g2 q
 have loop:codeAny (model X.prog X.w) X.A (.compLoop (.ListComp elt [⟨tg,iter,ifs,0⟩] scope pos) 0 (.ref it) (.ref s2.heap.objs.size) (compEnvC scope (eV X.env scope.names []) hp3.objs.size X.env))
   (compPost (model X.prog X.w) X.A X.xe use Qf (.ref s2.heap.objs.size) hp3.objs.size) { s2 with heap:=h₁,toks:=s2.toks+([]:List (Str×Value)).length }:=by
  refine FI (λn s' => ∃ i ys H',Inv (dD X pins ns jf scope (eV X.env scope.names []) { s2 with heap:=hp3 } (upd H2 s2.heap.objs.size (.lst [])) fp) [] (fY (List.replicate ns.length none) jf σ) H' s'/\tn i s'.heap/\(∀ b∈fp,H' b=none)/\W i n ys H') ?_ m0
   ⟨0,[],_,B0,st4,λb hb=>(f3 b hb).1,w0⟩
  rintro n s5 ⟨i,ys,H5,I5,st5,fr5,w5⟩
  obtain ⟨hD5,alt⟩:=step i n ys H5 w5;rcases alt with ⟨stop,q5⟩ | ⟨go,hlen,next⟩
  ·refine NC (T.done (dD X pins ns jf scope (eV X.env scope.names []) { s2 with heap:=hp3 } (upd H2 s2.heap.objs.size (.lst [])) fp) rfl rfl rfl hcalm i [] s5 _ H5 (λ_ _=>False) I5 (stat fr5) st5 stop) (λr s6 Zz=>?_) λ_ _ z=>z;obtain ⟨hr,I6⟩:=Zz
   subst hr;obtain ⟨m6,hn6,_⟩:=id I6.loc
   refine fin _ _ s6 H5 m6 ?_ q5 (I3.fpOk (MQ _) I6.free) hn6
   refine I3.call' (ch:=fp) I6.os I6.base I6.hok I6.bare (λb hb=>?_)
   obtain ⟨_,g1,g2,g3,g4,g5⟩:=f2 b hb;exact ⟨g3,g1,g4,g5⟩
  ·refine NC (T.item (dD X pins ns jf scope (eV X.env scope.names []) { s2 with heap:=hp3 } (upd H2 s2.heap.objs.size (.lst [])) fp) rfl rfl rfl hcalm i [] s5 _ H5 (λ_ _=>False) I5 (stat fr5) st5 go) (λr s6 Zz=>?_) λ_ _ z=>z;obtain ⟨u,hr,h6⟩:=Zz
   subst hr;refine NC h6 (λ_ s7 Zz=>?_) λ_ _ z=>z;obtain ⟨x,H7,I7,r7,y7,st7,fr7⟩:=Zz
   have I7' := I7.pinned (stat fr7) (T.obj _ _ st7);obtain ⟨us,hu,gq,q8⟩:=next x H7 y7;refine NC (hg pins _ _ _ fp ([]++iQ fp s7.heap) s7 _ H7 x _ _ I7' r7 gq) (λ_ s8 Zz=>?_) λ_ _ z=>z;obtain ⟨σ8,H8,I8,e8,e8'⟩:=Zz
   subst e8 e8'
   have I8':Inv (dD X pins ns jf scope (eV X.env scope.names []) { s2 with heap:=hp3 } (upd H2 s2.heap.objs.size (.lst [])) fp) ([]++iQ fp s7.heap) (fY (us.map some) jf σ) H8 s8:=I8;have again:∀ {s9:Shared} {H9:Hp} {zs:List V} {m':Nat},Inv (dD X pins ns jf scope (eV X.env scope.names []) { s2 with heap:=hp3 } (upd H2 s2.heap.objs.size (.lst [])) fp) ([]++iQ fp s7.heap) (fY (us.map some) jf σ) H9 s9->m'<n->W (i+1) m' zs H9 ->
     ∃ m,m<n/\∃ i ys H',Inv (dD X pins ns jf scope (eV X.env scope.names []) { s2 with heap:=hp3 } (upd H2 s2.heap.objs.size (.lst [])) fp) [] (fY (List.replicate ns.length none) jf σ) H' s9/\tn i s9.heap/\(∀ b∈fp,H' b=none)/\W i m ys H' := λ{s9 H9 zs m'} I9 hm w9=>by
    refine ⟨m',hm,i+1,zs,H9,I9.unpinned.weak (by simp [fY,hu]) (λj v e=>?_),T.keep _ _ _ st7 λb hb o e=>(I9.pin (b,o) (Np _ (Np _ (pU hb e)))).1,λb hb=>?_,w9⟩
    ·unfold fY at e ⊢
     by_cases hj:j<ns.length
     ·rw [MT (by rw [NQ];exact hj),Oc,MW hj] at e;cases e
     ·have hj:=P1 hj
      rw [Nk (by rw [NQ];exact hj),NQ] at e;rw [Nk (by rw [M0,hu];exact hj),M0,hu];exact e
    ·obtain ⟨o,e,d⟩:=T.obj _ _ st7 b hb
     exact (I9.pin (b,o) (Np _ (Np _ (pU hb e)))).2.1
   refine NC (hc pins _ _ _ fp ([]++iQ fp s7.heap) s8 _ H8 _ I8' q8) (λok s9 Zz=>?_) λ_ _ z=>z;obtain ⟨H9,I9,q9⟩:=Zz
   cases ok with
   | false =>
    rw [MX Ni] at q9 ⊢;obtain ⟨m',hm,w9⟩:=q9
    exact again I9 hm w9
   | true =>
    rw [MW rfl] at q9 ⊢;refine NC (he pins _ _ _ fp ([]++iQ fp s7.heap) s9 _ H9 _ I9 q9) (λy s10 Zz=>?_) λ_ _ z=>z;obtain ⟨v,H10,I10,r10,hD10,m',hm,w10⟩:=Zz
    refine NC (yE (X:=(dD X pins ns jf scope (eV X.env scope.names []) { s2 with heap:=hp3 } (upd H2 s2.heap.objs.size (.lst [])) fp)) ([]++iQ fp s7.heap) s10 (fY (us.map some) jf σ) H10 (.ref s2.heap.objs.size) [v] (.ref s2.heap.objs.size) [y] (λ_ H' => H'=upd H10 s2.heap.objs.size (.lst (ys++[v]))) I10 rfl (.cons r10 .nil) ⟨_,ys,v,rfl,rfl,hD10,hlen,rfl⟩)
     (λ_ s11 ⟨_,H11,I11,_,e11⟩=>?_) λ_ _ z=>z
    subst e11;exact again I11 hm w10
 exact codeAny_compStart_list loop (T.self _ 0 _ _ _ st4 loop)
theorem FJ (hcalm:X.calm=true) (hg:∀ pins cl s H fp,PG (dD X pins ns jf scope cl s H fp) tg g) (hi:PI X tg iter wi) (hc:∀ pins cl s H fp,jn (dD X pins ns jf scope cl s H fp) ifs tc) (he:∀ pins cl s H fp,PE (dD X pins ns jf scope cl s H fp) elt te) (C:CompOk X ns jf scope) (hs:∀ x,foldedSetIterable iter X.env x=pure x:=by intro _;rfl) :
  PE X (.ListComp elt [⟨tg,iter,ifs,0⟩] scope pos) (qg ns.length g jf wi tc te):=by
 intro pins s σ H Q I h;rw [eval_ListComp];refine yN hcalm hg hi hc he C (use:=none) (Qf:=EP X pins σ Q) I h (λD C s6 H6 m6 I6 q6 f6 n6=>?_) hs
 refine ⟨m6,n6,λh' hs' => ⟨.ref D,H6,?_,rfl,q6⟩⟩
 exact I6.turnedL (fp:=[C]) (t' := s6.toks) (λb o hb q=>(hs'.2 b (λz=>hb (by simp [z]))).trans q) (λb hb=>by
  have e:b=C:=by simpa using hb
  subst e;exact f6)
theorem FK {y:Str} {py spos:Pos} {i:Nat} (hcalm:X.calm=true) (hg:∀ pins cl s H fp,PG (dD X pins ns jf scope cl s H fp) tg g) (hi:PI X tg iter wi) (hc:∀ pins cl s H fp,jn (dD X pins ns jf scope cl s H fp) ifs tc) (he:∀ pins cl s H fp,PE (dD X pins ns jf scope cl s H fp) elt te) (C:CompOk X ns jf scope) (hNX:X.N.Nodup) (hi':X.N[i]? = some y) (hy:X.env.scope.names.lookup y=some .local)
  (hsw:swapsWith (.ListComp elt [⟨tg,iter,ifs,0⟩] scope pos) (some (.Name y py)) spos.line X.env=pure true) (hs:∀ x,foldedSetIterable iter X.env x=pure x:=by intro _;rfl) :
  PS X (.Assign [.Name y py] (.ListComp elt [⟨tg,iter,ifs,0⟩] scope pos) spos) (ja (qg ns.length g jf wi tc te) (lV i)):=by
 intro pins s σ H D I h;rw [exec_Assign_Name_used _ _ _ _ hsw];refine MR (PX (MR ?_))
 show wpAny _ X.A (do let _ <- comprehension (.ListComp elt [⟨tg,iter,ifs,0⟩] scope pos) scope X.env _ (newList []) false (eval iter X.env) (some (assign (.Name y py) X.env))) _ _ s
 refine MR (NC (yN (Qf:=λ_ s' => SP X pins D .next s') hcalm hg hi hc he C (use:=some (assign (.Name y py) X.env)) I h (λD' C s6 H6 m6 I6 q6 f6 n6=>?_) hs) (λ_ s' hq=>MZ (MZ hq)) λ_ _ e=>e)
 refine Ri (yd I6 hNX hi' (.inl hy) (v:=.ref D') rfl (λs7 I7 Zz=>?_) (.inr hy));obtain ⟨a,hsa,ha⟩:=Zz
 have ne:C≠a:=by
  rcases ha with z | z
  ·rw [z];exact f6.2.1
  ·exact λq=>f6.2.2.2.2.1 y a z q.symm
 refine ⟨m6,n6.sameBut hsa ne,λh' hs' => ⟨_,H6,?_,q6⟩⟩
 exact I7.turnedL (fp:=[C]) (t' := s7.toks) (λb o hb q=>(hs'.2 b (λz=>hb (by simp [z]))).trans q) (λb hb=>by
  have e:b=C:=by simpa using hb
  subst e;exact f6)
end
section
variable {X:Cx} {a b e:Expr} {ta tb:TE} {p p2 pos:Pos}
theorem FL {c:V} {cv:Value} (rc:∀ u,RelV c u->u=cv) :
  CallR X (.builtin "isinstance") (λxs H Q=>∃ x t r,xs=[x,c]/\cU X.K H x t/\PySem.W.kitOne X.K t cv=some r/\Q (.bl r) H):=by
 intro pins s σ H xs us Q I r h;obtain ⟨x,t,k,rfl,ty,hk,q⟩:=h;obtain ⟨u,w',rfl,rx,ry⟩:=pW r;obtain rfl:=rc _ ry;exact Eh I rx ty hk λtk=>⟨.bl k,H,I.tok _,rfl,q⟩
theorem yO (n:String):∀ u,RelV (.ty n) u->u=Value.type n:=λ_ r=>r
theorem FN:OpR X (compareOp .LtE) (λx y H Q=>∃ i j,x = .str i/\y = .str j/\Q (.bl (!decide (j.cps.toList<i.cps.toList))) H):=by
 intro pins s σ H x y v u Q I rx ry h;obtain ⟨i,j,rfl,rfl,q⟩:=h;obtain ⟨t,rfl⟩:=rx;obtain ⟨t',rfl⟩:=ry;exact PySem.P.le_str (cE I q rfl)
theorem FO:iR X "str.count" (λx vs H Q=>∃ z y,x = .str z/\vs=[.str y]/\Q (.int ((Builtin.Str.occurrences z y 0 z.length (z.length+1)).length:Nat)) H):=by
 intro pins s σ H x vs v us Q I rx rv h;obtain ⟨z,y,rfl,rfl,q⟩:=h;obtain ⟨t,rfl⟩:=rx;obtain ⟨u,rfl,t',rfl⟩:=je rv;exact call_gives F.slot_str_count (Pz s z t) F.entry_str_count (F.args_str_count_2 _ _) (gives_str_count z y t t') ⟨.int _,H,I.tok _,⟨_,rfl⟩,q⟩
theorem FP (l:List (Array Nat)):∀ acc:Array Nat,(l.foldl (· ++ ·) acc).toList=acc.toList++(l.map Array.toList).flatten:=by
 induction l with
 | nil=>intro acc;simp
 | cons x r ih=>intro acc;rw [Qm,ih];simp
theorem FQ (hc:X.calm=true):CallR X (.builtin "all") (λxs H Q=>∃ (a:Addr) (bs:List Bool),xs=[.ref a]/\SqL X.K H a (bs.map V.bl)/\Q (.bl (bs.all id)) H):=by
 intro pins s σ H xs us Q I r h;obtain ⟨l,bs,rfl,hq,q⟩:=h;obtain ⟨u,rfl,rx⟩:=je r
 cases rx
 obtain ⟨its,rv,pl,hz⟩:=I.list hq;have hlt:l<s.heap.objs.size:=by obtain ⟨_,_,e,_⟩:=pl;exact M4 e
 have hlen:its.length=bs.length:=by rw [<- rv.length,M0]
 refine call_all_walk (PM pl.isList ?_)
 refine ⟨s.heap.objs.size,[s.heap.objs.size,l],[s.heap.objs.size],its.toArray.size,_,_,λi=>(bs[i]?).getD true,rfl,Walks.list (A:=X.A.in1) (I.ok.hd hc) _ l (Nt hlt) its.toArray,
  ⟨⟨_,M9 _ rfl,rfl,rfl⟩,pl.isList.push _⟩,λi v s' Q' E' hP hQ=>?_,λh' tk hk=>?_⟩
 ·have hP':its[i]? = some v:=by simpa using hP
  have hi:i<its.length:=(MP.mp hP').1;have hb:(bs.map V.bl)[i]? = some (V.bl (bs[i]'(by omega))):=by rw [Nu,M3 (by omega)];rfl
  obtain ⟨u,hu,ru⟩:=rv.get hb;rw [hP'] at hu
  cases hu
  cases ru
  have e:(bs[i]?).getD true=bs[i]'(by omega):=by rw [M3 (by omega)];rfl
  have hQ2:Q' ((bs[i]?).getD true) s' := hQ;rw [e] at hQ2;exact Ng hQ2
 ·have e:((List.range its.toArray.size).all λi=>(bs[i]?).getD true)=bs.all id:=by
   rw [M7,hlen,Oh,NF,NF];constructor
   ·intro z c hc'
    obtain ⟨i,hi,rfl⟩:=OA hc';have:=z i (Qz.mpr hi);rw [M3 hi] at this;exact this
   ·intro z i hi
    have hi' := Qz.mp hi;rw [M3 hi'];exact z _ (Ov hi')
  rw [e];refine ⟨.bl _,H,I.kept (t' := tk) λb o q=>?_,rfl,q⟩
  exact hk b o (λhm=>by rw [O7.mp hm] at q;exact Ot _ (M4 q)) (MU _ q)
end
section
variable {X:Cx}
theorem FR:OpR X (binaryOp .FloorDiv) (rI (λ_ j=>0<j/\j<2 ^ 200) λi j=>.int (i / j)):=pV λi j _ _ _ _ _ hc q=>by
 obtain ⟨h1,h2⟩:=hc;refine floordiv_int (by lia) (by rw [Int.fdiv_eq_ediv_of_nonneg i (by lia)];exact q) (.inl (PyProof.noPylong_of_log2 ?_))
 have h3:j.natAbs<2 ^ 200:=by lia
 have h4:j.natAbs.log2<200:=(Nat.log2_lt (by lia)).mpr h3;lia
theorem FS:OpR X (binaryOp .Mult) (rI IntMulOk λi j=>.int (i*j)):=pV λ_ _ _ _ _ _ _ hc q=>mul_int q hc
end
theorem iT:bootBuiltins "int" = some (.type "int"):=by decide +kernel
theorem FT:bootBuiltins "bool" = some (.type "bool"):=by decide +kernel
theorem ua:bootBuiltins "str" = some (.type "str"):=by decide +kernel
open Sem (wp)
def DkH (h h':Heap):Prop:=∀ b o,h.get? b=some o->∃ o',h'.get? b=some o'/\o'.dict=o.dict
theorem DkH.refl (h:Heap):DkH h h:=λ_ o e=>⟨o,e,rfl⟩
def cR {α:Type} (m:Sem α):Prop:=∀ (M:Model) (Γ:PySem.Ctx) (Q:α->Pos->Shared->Prop) (E:Value->Pos->Shared->Prop) (p:Pos) (s:Shared) (h0:Heap),DkH h0 s.heap->wp M Γ m Q E p s->wp M Γ m (λa p' s' => Q a p' s'/\DkH h0 s'.heap) E p s
section
variable {α β:Type}
theorem dz {m:Sem α} {f:α->Sem β} (h:cR m) (g:∀ a,cR (f a)):cR (m >>= f):=λM Γ Q E p s h0 d q=>by
 rw [Sem.wp_bind'] at q ⊢;exact Sem.wp_mono M Γ m (λa p' s' z=>g a M Γ _ _ p' s' h0 z.2 z.1) (λ_ _ _ x=>x) p s (h M Γ _ _ p s h0 d q)
theorem dP (a:α):cR (pure a:Sem α):=λM Γ Q E p s h0 d q=>by
 have q':Q a p s:=q;exact (show wp M Γ (Sem.pure a) _ E p s by rw [wp];exact ⟨q',d⟩)
theorem iU (w:String):cR (Sem.unsupported w:Sem α):=λM Γ Q E p s h0 d q=>by rw [wp] at q;exact q.elim
theorem FU {a:Addr} {pt:Option Value} {k:Obj->Sem α} (h:∀ o,cR (k o)):cR (Sem.load a pt k):=λM Γ Q E p s h0 d q=>by
 rw [wp] at q ⊢;obtain ⟨o,h1,h2⟩:=q
 exact ⟨o,h1,h o M Γ _ _ p _ h0 d h2⟩
theorem FV {k:List (Code×Pos)->Sem α} (h:∀ o,cR (k o)):cR (Sem.stack k):=λM Γ Q E p s h0 d q=>by
 rw [wp] at q ⊢;exact h _ M Γ _ _ p _ h0 d q
theorem FW {o:Obj} {k:Addr->Sem α} (h:∀ o,cR (k o)):cR (Sem.alloc o k):=λM Γ Q E p s h0 d q=>by
 rw [wp] at q ⊢;exact h _ M Γ _ _ p { s with heap:=s.heap.push o } h0 (λb o' e=>by
  obtain ⟨o2,e2,e3⟩:=d b o' e;exact ⟨o2,MU _ e2,e3⟩) q
theorem FY {a:Addr} {pt:Option Value} {f:Obj->Obj} {k:Unit->Sem α} (hf:∀ o,(f o).dict=o.dict/\(o.isFreed=false->(f o).isFreed=false)) (h:∀ o,cR (k o)):cR (Sem.update a pt f k):=λM Γ Q E p s h0 d q=>by
 rw [wp] at q ⊢;refine ⟨q.1,h _ M Γ _ _ p { s with heap:=s.heap.update a f } h0 (λb o' e=>?_) q.2⟩
 obtain ⟨o2,e2,e3⟩:=d b o' e;by_cases hb:b=a
 ·subst hb
  exact ⟨f o2,OO f e2 ((hf o2).2 (Heap.get?_some_iff.mp e2).2),(hf o2).1.trans e3⟩
 ·exact ⟨o2,(Heap.get?_update_ne _ _ _ _ hb).trans e2,e3⟩
end
theorem ub (a:Addr):cR (load a):=FU λo=>dP o
theorem yP {a:Addr} {f:Obj->Obj} (hf:∀ o,(f o).dict=o.dict/\(o.isFreed=false->(f o).isFreed=false)):cR (update a f):=FY hf λo=>dP o
theorem FZ (v:Value):cR (fieldsOf v):=by
 unfold fieldsOf
 cases v<;>first | exact iU _ | skip
 refine dz (ub _) λo=>?_
 cases o.data<;>first | exact dP _ | exact iU _
theorem qh (v:Value) (i:Nat):cR (field v i):=by
 unfold field;refine dz (FZ v) λo=>?_
 cases o[i]? <;> first | exact dP _ | exact iU _
theorem F8 (g:Array Value->Array Value) (o:Obj):(Obj.mapFields g o).dict=o.dict/\(o.isFreed=false->(Obj.mapFields g o).isFreed=false):=by
 obtain ⟨c,d,dt,sl⟩:=o
 cases dt<;>exact ⟨rfl,λh=>h⟩
theorem qi (v:Value) (i:Nat) (x:Value):cR (setField v i x):=by
 unfold setField
 cases v<;>first | exact iU _ | skip
 unfold updateField;refine dz (ub _) λo=>?_
 cases o.data<;>first | exact iU _ | skip
 dsimp only;split
 ·exact yP (F8 _)
 ·exact iU _
theorem yQ (e:Value) (fr:Option Addr):cR (setFlight e fr):=by
 unfold setFlight;refine dz (qh e 1) λtb=>?_
 split
 ·exact qi _ _ _
 ·exact dP _
theorem F9 (env:Env) (outer:List Env):cR (behindIsImport env outer):=by
 unfold behindIsImport;split
 ·exact dP _
 ·split
  ·exact dP _
  ·exact dz (qh _ _) λ_=>dP _
theorem uc:cR stack:=FV λo=>dP o
theorem Ga:cR underTheClaimsCaller:=by
 unfold underTheClaimsCaller;exact dz uc λ_=>dP _
theorem Gb (env:Env) (b:Bool) (l:List Env):cR (keptBack env b l):=by
 unfold keptBack
 cases l with
 | nil =>
  dsimp only;split
  ·exact dP _
  ·exact dz Ga λ_=>dP _
 | cons=>exact dP _
theorem yR:∀ l:List Env,cR (readyFrames l)
 | []=>dP _
 | env::outer=>by
  unfold readyFrames
  cases env.frame with
  | none=>exact iU _
  | some f =>
   refine dz (ub f) λo=>?_
   split
   ·exact dP _
   ·refine dz (F9 _ _) λb=>dz (Gb _ _ _) λv=>dz (yP λo=>⟨rfl,λh=>by obtain ⟨c,d,dt,sl⟩:=o;cases dt<;>exact h⟩) λ_=>yR outer
theorem yS (env:Env):cR (PySem.frameOf env):=by
 unfold PySem.frameOf frameEnvs;refine dz (dz uc λ_=>dP _) λl=>dz ?_ λr=>?_
 ·generalize l.dropWhile _=m
  unfold frameObject
  cases m with
  | nil=>exact dP _
  | cons e r=>exact dz (yR _) λ_=>dP _
 ·cases r with
  | none=>exact iU _
  | some v=>exact dP _
theorem yT (f:Addr) (b:Bool):cR (entryPlaceOf f b):=by
 unfold entryPlaceOf;refine dz uc λl=>?_
 split
 ·exact dP _
 ·exact dP _
theorem yU (a b c d e:Value) (l:List Value):cR (EntryCells.newEntry a b c d e l):=by
 unfold EntryCells.newEntry newFields newObj;dsimp only;have k:∀ d,cR (newObjAsIs (.type "traceback") (.fields d)):=λd=>by
  unfold newObjAsIs;exact dz (FW λo=>dP o) λ_=>dP _
 generalize ([a,b,c,d,e]++if l.isEmpty=true then List.replicate 6 Value.none else l).toArray=arr
 split
 ·exact dz (iU _) λ_=>k _
 ·exact k _
theorem Gc (e:Value) (env:Env):cR (noteFrame e env):=by
 unfold noteFrame
 cases env.frame with
 | none=>exact iU _
 | some f =>
  refine dz (qh e 1) λh=>?_
  dsimp only;split
  ·refine dz (qh h 3) λx=>?_
   split
   ·exact dP _
   ·exact dz (qi _ _ _) λ_=>dz (yS env) λ_=>dz (yT _ _) λ_=>dz (yU _ _ _ _ _ _) λ_=>qi _ _ _
  ·exact dz (yS env) λ_=>dz (yT _ _) λ_=>dz (yU _ _ _ _ _ _) λ_=>qi _ _ _
theorem ud {α:Type} {M:Model} {A:Around} {t:Sem α} {Q:α->Shared->Prop} {E:Value->Shared->Prop} {s:Shared} {h0:Heap} (k:cR t) (d:DkH h0 s.heap) (h:wpAny M A t Q E s):wpAny M A t (λa s' => Q a s'/\DkH h0 s'.heap) E s :=
 λΓ p hΓ=>k M Γ _ _ p s h0 d (h Γ p hΓ)
theorem ObjOk.some {P:Program} {w:World} {H:Hp} {h:Heap} {a:Addr} {o:HO} (x:ObjOk P w H h a o):∃ ob,h.get? a=Option.some ob:=by
 cases o with
 | lst xs=>obtain ⟨_,_,_,_,e⟩:=x;exact ⟨_,e⟩
 | tup xs=>obtain ⟨_,_,_,o,e,_⟩:=x;exact ⟨o,e⟩
 | dK kvs=>obtain ⟨_,_,_,_,o,_,_,e,_⟩:=x;exact ⟨_,e⟩
 | dT xc kvs=>obtain ⟨_,_,_,_,o,_,_,e,_⟩:=x;exact ⟨_,e⟩
 | set S n=>obtain ⟨o,_,_,_,e,_⟩:=x;exact ⟨_,e⟩
 | ins C dx fs=>obtain ⟨_,_,_,e,_⟩:=x;exact ⟨_,e⟩
 | own y=>obtain ⟨_,e⟩:=x;exact ⟨_,e⟩
 | xd fs=>obtain ⟨_,⟨_,_,_,e,_⟩,_⟩:=x;exact ⟨_,e⟩
 | rng lo hi=>obtain ⟨_,_,_,e⟩:=x;exact ⟨_,e⟩
 | frz ob u=>obtain ⟨e,_⟩:=x;exact ⟨_,e⟩
 | tbl ps=>exact ⟨_,(show h.get? a=Option.some _ from x)⟩
 | met f y=>exact ⟨_,(show h.get? a=Option.some _ from x)⟩
 | ext φ=>obtain ⟨_,⟨_,e⟩,_⟩:=x;exact ⟨_,e⟩
def gJ (X:Cx) (pins:List (Addr×Obj)) (H:Hp) (h B:Heap):Prop :=
 ∀ b o,h.get? b=some o->b∉eU X.stack->((∃ u,H b=some u)\/(∃ o',X.s₀.heap.get? b=some o')\/∃ p∈X.pn++pins,p.1=b)->B.get? b=some o
section
variable {X:Cx} {pins:List (Addr×Obj)} {σ:St} {H:Hp} {s:Shared}
theorem Inv.nofr (I:Inv X pins σ H s) {b:Addr} {o:Obj} (e:X.s₀.heap.get? b=some o) (hb:b∉X.fs):b∉eU X.stack:=λz=>by
 rcases Nd.mp (I.stkSub b z) with q | q
 ·exact Nt (Nf (M4 e) I.ok.above) q
 ·exact hb q
theorem Inv.nofrT (I:Inv X pins σ H s) {b:Addr} {u:HO} (e:H b=some u):b∉eU X.stack:=λz=>by
 have q:=I.stkFree b z;rw [q] at e
 cases e
theorem Inv.nofrP (I:Inv X pins σ H s) {p:Addr×Obj} (hp:p∈X.pn++pins):p.1∉eU X.stack:=λz=>by
 obtain ⟨_,_,ne,nf,_⟩:=I.pin p hp;rcases Nd.mp (I.stkSub p.1 z) with q | q
 ·exact ne q
 ·exact nf q
theorem Inv.flown {B h':Heap} {t':Nat} (I:Inv X pins σ H s) (hex:X.ex=[]) (F:gJ X pins H s.heap B) (st:B.StaysIn h') (sm:s.heap.UpToSlots h'):Inv X pins σ H { s with heap:=h',toks:=t' }:=by
 have nx:∀ b,b∉X.ex:=λb z=>by rw [hex] at z;cases z
 refine ⟨I.ok,I.os,I.bare,⟨λb o e n hb hx=>?_,λb o e n hb hx=>?_,I.base.free,λb o e hx=>?_,I.base.tups,I.base.frzs,I.base.tbls⟩,?_,λx c e=>?_,I.free,I.freeC,λp hp=>?_,λb u e=>?_,I.len⟩
 ·exact st b o (F b o (I.base.keep b o e n hb hx) (I.nofr e hb) (.inr (.inl ⟨o,e⟩)))
 ·obtain ⟨sl,q⟩:=I.base.slot b o e n hb hx
  obtain ⟨_,o',ho',hd⟩:=I.funs.mem hb;rw [q] at ho'
  cases ho'
  obtain ⟨sl',q'⟩:=sm b _ q hd;exact ⟨sl',q'⟩
 ·obtain ⟨o',q⟩:=I.base.there b o e hx
  by_cases hb:b∈X.fs
  ·obtain ⟨_,o'',ho'',hd⟩:=I.funs.mem hb
   rw [q] at ho''
   cases ho''
   obtain ⟨sl',q'⟩:=sm b _ q hd;exact ⟨_,q'⟩
  ·exact ⟨o',st b o' (F b o' q (I.nofr e hb) (.inr (.inl ⟨o,e⟩)))⟩
 ·obtain ⟨m,hn,hl⟩:=I.loc
  refine ⟨m,sm.ns hn,λi x v e1 e2 e3=>?_⟩
  obtain ⟨u,r,l⟩:=hl i x v e1 e2 e3;refine ⟨u,r,?_⟩
  rcases l with l | ⟨k,c,e,o,ho,hd⟩
  ·exact .inl l
  ·obtain ⟨sl,q⟩:=sm c o ho λvs z=>by rw [hd] at z;cases z
   exact .inr ⟨k,c,e,_,q,hd⟩
 ·obtain ⟨v,o,ho,hd⟩:=I.cell x c e
  obtain ⟨sl,q⟩:=sm c o ho λvs z=>by rw [hd] at z;cases z
  exact ⟨v,_,q,hd⟩
 ·obtain ⟨e,n,ne,nf,d⟩:=I.pin p hp
  exact ⟨st _ _ (F _ _ e (I.nofrP hp) (.inr (.inr ⟨p,hp,rfl⟩))),n,ne,nf,d⟩
 ·refine (I.hok b u e).stay (λc v hc q=>?_) (λ_ q=>q) λ_ _ q=>q
  rcases hc with z | z
  ·subst z
   exact st _ _ (F _ _ q (I.nofrT e) (.inl ⟨_,e⟩))
  ·exact st _ _ (F _ _ q (I.nofrT z) (.inl ⟨_,z⟩))
theorem Inv.adopt0 {T:Addr} {ob:HO} (I:Inv X pins σ H s) (hn:H T=none) (hT:X.s₀.heap.get? T=none) (hL:T≠X.env.locals) (hc:∀ x c,X.env.cells.lookup x=some c->c≠T)
  (hp:∀ p∈X.pn++pins,p.1≠T) (new:ObjOk X.prog X.w (upd H T ob) s.heap T ob):Inv X pins σ (upd H T ob) s:=by
 have hne:∀ b u,H b=some u->b≠T:=λb u e=>fX e hn
 have hs:∀ b o,X.s₀.heap.get? b=some o->b≠T:=λb o e z=>by rw [z,hT] at e;cases e
 refine ⟨I.ok,I.os,I.bare,⟨I.base.keep,I.base.slot,λb o e n hx=>by rw [bK (hs b o e)];exact I.base.free b o e n hx,I.base.there,λb xs e=>?_,λb o u e=>?_,λb ps e=>?_⟩,I.loc,I.cell,by rw [bK (Ne.symm hL)];exact I.free,λx c e=>by rw [bK (hc x c e)];exact I.freeC x c e,λp hp' => ?_,λb u e=>?_,I.len⟩
 ·have q:=I.base.tups b xs e
  rw [bK (hne b _ q)];exact q
 ·have q:=I.base.frzs b o u e
  rw [bK (hne b _ q)];exact q
 ·obtain ⟨more,q⟩:=I.base.tbls b ps e
  exact ⟨more,by rw [bK (hne b _ q)];exact q⟩
 ·obtain ⟨e,n,ne,nf,d⟩:=I.pin p hp'
  exact ⟨e,by rw [bK (hp p hp')];exact n,ne,nf,d⟩
 ·by_cases hb:b=T
  ·subst hb;rw [d7] at e;cases e;exact new
  ·rw [bK hb] at e
   exact (I.hok b u e).stay (λc v _ q=>q) (λc q=>by rw [bK (hne c _ q)];exact q) λc xs q=>by rw [bK (hne c _ q)];exact q
end
structure Arr (X:Cx) (pins:List (Addr×Obj)) (σ:St) (H:Hp) (a:Addr) (cls:Value) (dx:Option Addr) (s:Shared):Prop where
 inv:Inv X pins σ H s
 un:H a=none
 new:X.s₀.heap.get? a=none
 nl:a≠X.env.locals
 nc:∀ x c,X.env.cells.lookup x=some c->c≠a
 np:∀ p∈X.pn++pins,p.1≠a
 dic:∃ ob,s.heap.get? a=some ob/\ob.dict=dx
 fly:∃ B a0,gJ X pins H s.heap B/\B.StaysIn s.heap/\B.get? a=none/\s.heap.FunFrames B X.stack /\
  ((∃ oe vs,s.heap.get? a=some oe/\oe.cls=cls/\oe.data = .fields vs/\vs[0]? = some a0/\vs[1]? = some .none)\/s.heap.TracedW B a cls a0)
def dA (P:Program) (w:World):gg:=λouter H s E e s' => ∃ (a:Addr) (cls a0:Value) (dx:Option Addr) (H':Hp) (B:Heap),e = .ref a/\s'.os=s.os/\AllBare s'.gens/\Un (eU outer) [] H H' s.heap s'.heap/\HOk P w H' s'.heap /\
 Heap.FlyingW B outer a cls a0 s'.heap/\(∀ b o,s'.heap.get? b=some o->b∉eU outer->((∃ u,H' b=some u)\/∃ o',s.heap.get? b=some o')->B.get? b=some o)/\H' a=none/\s.heap.get? a=none/\(∃ ob,s'.heap.get? a=some ob/\ob.dict=dx)/\E cls dx H'
section
variable {X:Cx} {pins:List (Addr×Obj)} {σ:St} {H:Hp} {s:Shared}
theorem yV {E:XK} {e:Value} {s':Shared} (I:Inv X pins σ H s) (hex:X.ex=[]) (h:dA X.prog X.w X.stack H s E e s'):∃ a cls dx H',e = .ref a/\Arr X pins σ H' a cls dx s'/\E cls dx H' := by
 obtain ⟨a,cls,a0,dx,H',B,rfl,os,bare,un,hok,⟨f1,f2,f3,f4⟩,ext,na,ns,dk,q⟩:=h;have nx:∀ b,b∉X.ex:=λb z=>by rw [hex] at z;cases z
 have none_of:∀ b o,s.heap.get? b=some o->b≠a:=λb o q z=>by rw [z,ns] at q;cases q
 refine ⟨a,cls,dx,H',rfl,⟨I.call' (ch:=[]) os un hok bare (λb z=>absurd z (by simp)),na,?_,λz=>?_,λx c q z=>?_,λp hp z=>?_,dk,B,a0,λb o q nb alt=>?_,f1,f2,f3,.inr f4⟩,q⟩
 ·cases q:X.s₀.heap.get? a with
  | none=>rfl
  | some o =>
   obtain ⟨ob,z⟩:=I.base.there a o q (nx a);exact absurd rfl (none_of a ob z)
 ·obtain ⟨m,⟨o,_,_,ho,_⟩,_⟩:=I.loc
  exact none_of _ o ho z.symm
 ·obtain ⟨v,o,ho,_⟩:=I.cell x c q
  exact none_of _ o ho z
 ·exact none_of _ _ (I.pin p hp).1 z
 ·refine ext b o q nb ?_
  rcases alt with ⟨u,q'⟩ | ⟨o',q'⟩ | ⟨p,hp,rfl⟩
  ·exact .inl ⟨u,q'⟩
  ·exact .inr (I.base.there b o' q' (nx b))
  ·exact .inr ⟨_,(I.pin p hp).1⟩
theorem Arr.land0 {a:Addr} {cls:Value} {dx:Option Addr} {Q:Unit->Shared->Prop} {E:Value->Shared->Prop} {M:Model} {A:Around} (R:Arr X pins σ H a cls dx s) (hex:X.ex=[]) (hfr:A.frames=some X.stack) {outer:List Env} (hst:X.stack=X.env::outer) (hf:X.env.frame=some X.env.locals)
  (hQ:∀ h' B a0,gJ X pins H s.heap B->Heap.FlyingW B X.stack a cls a0 h'->s.heap.UpToSlots h'->Inv X pins σ H { s with heap:=h' }->Q () { s with heap:=h' }) :
  wpAny M A (noteFrame (.ref a) X.env) (λ_ s₂=>wpAny M A (setFlight (.ref a) none) Q E s₂) E s:=by
 obtain ⟨B,a0,fm,st,hb,ff,alt⟩:=R.fly;have after:∀ h4,Heap.HeldW B X.stack a cls a0 X.env.locals h4->s.heap.UpToSlots h4->wpAny M A (setFlight (.ref a) none) Q E { s with heap:=h4 }:=λh4 hh sm=>by
  refine wpAny_landsW (s:={ s with heap:=h4 }) hh λh5 fl sm5=>?_
  have sm':s.heap.UpToSlots h5:=sm.trans sm5;exact hQ h5 B a0 fm fl sm' (R.inv.flown (t' := s.toks) hex fm fl.1 sm')
 rw [hst] at hfr;rw [hst] at ff;rcases alt with ⟨oe,vs,he,hc,hd,h0,h1⟩ | tr
 ·subst hc
  have hsz:1<vs.size:=(Array.getElem?_eq_some_iff.mp h1).1;unfold noteFrame;simp only [hf]
  refine MR (QM he hd h1 ?_)
  rw [MX (by decide)];refine wpAny_entryW hfr ff hf he st hb hd hsz h0 λh4 hN=>?_
  obtain ⟨k1,k2,k3,k4⟩:=hN;exact after h4 (by rw [hst];exact ⟨k1,hb,k2,k3⟩) k4
 ·exact wpAny_looks_onW hfr hf ⟨st,hb,ff,tr⟩ λh4 hh sm=>after h4 (by rw [hst];exact hh) sm
theorem Arr.land {a:Addr} {cls:Value} {dx:Option Addr} {Q:Unit->Shared->Prop} {E:Value->Shared->Prop} {M:Model} {A:Around} (R:Arr X pins σ H a cls dx s) (hex:X.ex=[]) (hfr:A.frames=some X.stack) {outer:List Env} (hst:X.stack=X.env::outer) (hf:X.env.frame=some X.env.locals)
  (hQ:∀ h' B a0,gJ X pins H s.heap B->Heap.FlyingW B X.stack a cls a0 h'->s.heap.UpToSlots h'->Inv X pins σ H { s with heap:=h' }->(∃ ob,h'.get? a=some ob/\ob.dict=dx)->Q () { s with heap:=h' }) :
  wpAny M A (noteFrame (.ref a) X.env) (λ_ s₂=>wpAny M A (setFlight (.ref a) none) Q E s₂) E s:=by
 refine NC (ud (Gc _ _) (DkH.refl _) (R.land0 (E:=E) (Q:=λ_ s' => ∃ h' B a0,s'={ s with heap:=h' }/\gJ X pins H s.heap B/\Heap.FlyingW B X.stack a cls a0 h'/\s.heap.UpToSlots h'/\Inv X pins σ H { s with heap:=h' }) hex hfr hst hf λh' B a0 z1 z2 z3 z4=>⟨h',B,a0,rfl,z1,z2,z3,z4⟩)) (λ_ s2 h2=>?_) λ_ _ z=>z
 refine NC (ud (yQ _ _) h2.2 h2.1) (λ_ s3 h3=>?_) λ_ _ z=>z
 obtain ⟨⟨h',B,a0,rfl,z1,z2,z3,z4⟩,dk⟩:=h3;obtain ⟨ob,e1,e2⟩:=R.dic;obtain ⟨ob',e3,e4⟩:=dk a ob e1;exact hQ h' B a0 z1 z2 z3 z4 ⟨ob',e3,e4.trans e2⟩
theorem Ge {P:Program} {w:World} {K:PySem.W.Frag} {mg:Str->Option Value} {base:Heap} {N:List Str} {qual:Str} {scope:Scope} {f:Addr} {cd:Value} {A:Around} {outer:List Env} {s0:Shared} {H0:Hp} {E:XK} {a:Addr} {cls:Value} {dx:Option Addr}
  (R:Arr (cL (dA P w) P w K mg base N qual scope f cd A outer s0 H0 E) pins σ H a cls dx s) (q:E cls dx H):(cL (dA P w) P w K mg base N qual scope f cd A outer s0 H0 E).xe (.ref a) s:=by
 show wpAny _ _ (leaving _ _) _ _ s
 unfold leaving;refine MR (R.land (E:=λe' s'' => dA P w outer H0 s0 E e' s'') rfl R.inv.ok.frames rfl rfl λh' B a0 fm fl sm I' dk=>?_)
 have I:=R.inv;obtain ⟨k1,k2,⟨_,_,k3⟩,k4⟩:=fl;refine ⟨a,cls,a0,dx,H,B,rfl,I'.os,I'.bare,I'.base,I'.hok,⟨k1,k2,k3,k4⟩,λb o e nb alt=>?_,R.un,R.new,dk,q⟩
 have nstk:b∉eU (cL (dA P w) P w K mg base N qual scope f cd A outer s0 H0 E).stack:=by
  rcases alt with ⟨u,z⟩ | ⟨o',z⟩
  ·exact I.nofrT z
  ·exact I.nofr z nb
 have there:∃ o1,s.heap.get? b=some o1:=by
  rcases alt with ⟨u,z⟩ | ⟨o',z⟩
  ·exact (I.hok b u z).some
  ·exact I.base.there b o' z (λz=>absurd (show b∈([]:List Addr) from z) (by simp))
 obtain ⟨o1,q1⟩:=there;have z:B.get? b=some o1:=fm b o1 q1 nstk (by
  rcases alt with ⟨u,z⟩ | ⟨o',z⟩
  ·exact .inl ⟨u,z⟩
  ·exact .inr (.inl ⟨o',z⟩))
 have z2:=k1 b o1 z;rw [show (Heap.get? h' b)=some o from e] at z2
 cases z2
 exact z
end
def ue (X:Cx) (Ex:St->XK):Prop:=∀ (pins:List (Addr×Obj)) (σ:St) (H:Hp) (s:Shared) (a:Addr) (cls:Value) (dx:Option Addr),Arr X pins σ H a cls dx s->Ex σ cls dx H->X.xe (.ref a) s
def kM (CX:gg) (X:Cx) (Ex:St->XK):Prop:=∀ (pins:List (Addr×Obj)) (σ:St) (H:Hp) (s:Shared) (e:Value) (s':Shared),Inv X pins σ H s->CX X.stack H s (Ex σ) e s'->X.xe e s'
section
variable {P:Program} {w:World} {K:PySem.W.Frag} {mg:Str->Option Value} {base:Heap} {N:List Str} {qual:Str} {scope:Scope} {f:Addr} {cd:Value} {A:Around} {outer:List Env} {s0:Shared} {H0:Hp} {E:XK}
theorem Gf:Em (dA P w) (cL (dA P w) P w K mg base N qual scope f cd A outer s0 H0 E) E:=λpins σ H s e s' I h=>by
 obtain ⟨a,cls,dx,H',rfl,R,q⟩:=yV (X:=cL (dA P w) P w K mg base N qual scope f cd A outer s0 H0 E) I rfl h;exact Ge R q
end
section
variable {X:Cx} {x:Str} {C:Addr} {bm:List Value} {B newId initId:String} {np cpos pos:Pos} {e:Expr} {es:List Expr} {t:TA} {Ex:St->XK}
end
section
variable {X:Cx} {CX:gg} {k:Nat} {f C:Addr} {fd:FuncData} {ps:List Str} {sp:Sp} {dvs:List V} {ds:List Value} {Ex:St->XK} {x m:Str} {p pos apos:Pos} {e o:Expr} {es:List Expr} {ta:TE} {t:TA}
theorem qj {pins:List (Addr×Obj)} {σ:St} {H:Hp} {s:Shared} {Q:VK} {us:List Value} {vs:List V} (F:FnOk X.prog X.w X.K X.mg X.base CX k f fd ps sp) (hr:Room k X.A) (hb:Binds X.K fd ps ds) (hd:Vals dvs ds) (hx:kM CX X Ex)
  (I:Inv X pins σ H s) (r:Vals vs us) (h:sp (vs++dvs) H Q (Ex σ)):wpAny (model X.prog X.w) X.A (call (.ref f) us) (EP X pins σ Q) X.xe s:=by
 have r2:Vals (vs++dvs) (us++ds):=r.append hd;have hl:(us++ds).length=ps.length:=by rw [<- r2.length];exact F.len _ _ _ _ h
 refine wpAny_call (Qk (F.run X.A X.stack s H ⟨us,[]⟩ (us++ds) (vs++dvs) Q (Ex σ) hr I.env0 (hb s us I.kIn hl) r2 h) λr s' hq=>?_)
 cases r with
 | error e=>exact hx pins σ H s e s' I hq
 | ok fl =>
  cases fl with
  | ret u=>exact I.after hq
  | next=>exact False.elim hq
  | brk=>exact False.elim hq
  | cont=>exact False.elim hq
def Gg (sp:Sp) (dvs:List V) (Ex:St->XK) (t:TA):TE:=λσ H Q=>t σ H λvs H1=>sp (vs++dvs) H1 Q (Ex σ)
theorem Gh (F:FnOk X.prog X.w X.K X.mg X.base CX k f fd ps sp) (hr:Room k X.A) (hg:Gl X x) (hm:X.mg x=some (.ref f)) (hk:PySem.W.keepIn X.K (.ref f)=true) (hb:Binds X.K fd ps ds) (hd:Vals dvs ds) (hx:kM CX X Ex)
  (ha:PA X (e::es) t) (hdb:(x == ("__debug__" : Str))=false:=by decide) (he:starEach (e::es) X.env=(false,eval e X.env)::starEach es X.env:=by rfl) (hpl:(backTo pos (starEach es X.env)).any (·.1)=false:=by rfl) :
  PE X (.Call (.Name x p) (e::es) [] pos) (Gg sp dvs Ex t):=by
 intro pins s σ H Q I h;refine Pb (lT I hg hm ?_ hdb)
 refine Px (h₀:=X.base) I.ok.mod.kin hk (thn (ha pos pins s σ H _ I h) λus s1 ⟨vs,H1,I1,r,q⟩=>⟨I1.kIn,?_⟩) he hpl
 exact qj F hr hb hd hx I1 r q
def yW (C:Addr) (m:Str) (sp:Sp) (dvs:List V) (Ex:St->XK) (ta:TE) (t:TA):TE:=λσ H Q=>ta σ H λx H1=>∃ a dx fs,x = .ref a/\H1 a=some (.ins C dx fs)/\fs.lookup m=none /\
 t σ H1 λvs H2=>sp (x::(vs++dvs)) H2 Q (Ex σ)
theorem Gi {pl:Sem Bool} (he:PE X o ta) (c:Cls X.K C) (hm:iy X.K C m f) (F:FnOk X.prog X.w X.K X.mg X.base CX k f fd ps sp) (hr:Room k X.A) (hb:Binds X.K fd ps ds) (hd:Vals dvs ds) (hx:kM CX X Ex) (ha:PA X (e::es) t)
  (hst:starEach (e::es) X.env=(false,eval e X.env)::starEach es X.env:=by rfl) (hpl:(backTo pos (starEach es X.env)).any (·.1)=false:=by rfl)
  (ht:eval (.Call (.Attribute o m apos) (e::es) [] pos) X.env=(do
   let ov <- eval o X.env
   standAt apos.atName
   let (f,first) <- holding [ov] (getMethod ov m pl)
   callWith pos f first (backTo pos (starEach (e::es) X.env)) (backToKw pos (keywordEach [] X.env))):=by rfl) :
  PE X (.Call (.Attribute o m apos) (e::es) [] pos) (yW C m sp dvs Ex ta t):=by
 intro pins s σ H Q I h;refine Qr (pl:=pl) (thn (he pins s σ H _ I h) λu s1 Zz=>?_) ht;obtain ⟨x,H1,I1,rx,a,dx,fs,ex,ea,l,q⟩:=Zz
 subst ex;obtain rfl:u=Value.ref a:=rx
 refine yn I1 ea c hm l ?_
 refine Px (first:=[.ref a]) (h₀:=X.base) I.ok.mod.kin hm.kp (thn (ha pos pins s1 σ H1 _ I1 q) λus s2 ⟨vs,H2,I2,r,q2⟩=>⟨I2.kIn,?_⟩) hst hpl
 exact qj (us:=.ref a::us) (vs:=.ref a::vs) F hr hb hd hx I2 (.cons rfl r) q2
end
abbrev tryC (X:Cx) (pins:List (Addr×Obj)) (xe:Value->Shared->Prop):Cx:={ X with pn:=X.pn++pins,xe:=xe }
abbrev cN (X:Cx) (a:Addr):Cx:={ X with A:=X.A.mark (some (.ref a)),calm:=false,xe:=λ_ _=>False }
def iz (a:Addr) (cls:Value) (dx:Option Addr):HO:=.ext λh=>∃ ob vs,h.get? a=some ob/\ob.cls=cls/\ob.data = .fields vs/\ob.dict=dx
section
variable {X:Cx} {pins pins':List (Addr×Obj)} {σ:St} {H:Hp} {s:Shared} {xe:Value->Shared->Prop}
theorem Cx.Ok.tryC (ok:X.Ok):(tryC X pins xe).Ok:=⟨ok.mod,ok.kind,ok.glob,ok.blt,ok.above,ok.inj,ok.has,ok.cab,ok.hd,ok.frames,ok.stk,ok.exf,ok.bs,ok.bsz,ok.noex,ok.exfs,ok.funs,ok.frf⟩
theorem Cx.Ok.untry (ok:(L2.tryC X pins xe).Ok):X.Ok:=⟨ok.mod,ok.kind,ok.glob,ok.blt,ok.above,ok.inj,ok.has,ok.cab,ok.hd,ok.frames,ok.stk,ok.exf,ok.bs,ok.bsz,ok.noex,ok.exfs,ok.funs,ok.frf⟩
theorem Cx.Ok.hdl (ok:X.Ok) (a:Addr):(cN X a).Ok:=⟨ok.mod,ok.kind,ok.glob,ok.blt,ok.above,ok.inj,ok.has,ok.cab,λz=>(nomatch z),ok.frames,ok.stk,ok.exf,ok.bs,ok.bsz,ok.noex,ok.exfs,ok.funs,ok.frf⟩
theorem Inv.toTry (I:Inv X pins σ H s):Inv (tryC X pins xe) [] σ H s:=⟨I.ok.tryC,I.os,I.bare,I.base,I.loc,I.cell,I.free,I.freeC,λp hp=>I.pin p (by simpa using hp),I.hok,I.len⟩
theorem Inv.untry (I:Inv (tryC X pins xe) pins' σ H s):Inv X pins σ H s:=⟨I.ok.untry,I.os,I.bare,I.base,I.loc,I.cell,I.free,I.freeC,λp hp=>I.pin p (Nh _ hp),I.hok,I.len⟩
theorem Inv.hdl (I:Inv X pins σ H s) (a:Addr):Inv (cN X a) pins σ H s:=⟨I.ok.hdl a,I.os,I.bare,I.base,I.loc,I.cell,I.free,I.freeC,I.pin,I.hok,I.len⟩
theorem Inv.unhdl {a:Addr} (I:Inv (cN X a) pins σ H s) (ok:X.Ok):Inv X pins σ H s:=⟨ok,I.os,I.bare,I.base,I.loc,I.cell,I.free,I.freeC,I.pin,I.hok,I.len⟩
theorem Arr.untry {a:Addr} {cls:Value} {dx:Option Addr} (R:Arr (tryC X pins xe) pins' σ H a cls dx s):Arr X pins σ H a cls dx s:=by
 obtain ⟨B,a0,fm,r⟩:=R.fly;refine ⟨R.inv.untry,R.un,R.new,R.nl,R.nc,λp hp=>R.np p (Nh _ hp),R.dic,B,a0,λb o q nb alt=>fm b o q nb ?_,r⟩
 rcases alt with z | z | ⟨p,hp,e⟩
 ·exact .inl z
 ·exact .inr (.inl z)
 ·exact .inr (.inr ⟨p,Nh _ hp,e⟩)
theorem qk {M:Model} {A:Around} {E:Value->Shared->Prop} {n:Str} {i:Nat} {pos:Pos} {Q:Unit->Shared->Prop} (I:Inv X pins σ H s) (hN:X.N.Nodup) (hi:X.N[i]? = some n) (hk:X.env.scope.names.lookup n=some .local)
  (h:∀ s',Inv X pins (σ.set i none) H s'->Q () s'):wpAny M A (do bindName X.env n .none;unbindBehindTheSuite X.env n pos) Q E s:=by
 obtain ⟨m,hn,hl⟩:=id I.loc;refine wpAny_nameGoes_keeps hk hn (by rw [I.ok.kind];rfl) λh' v hn' hs=>h _ ?_
 have cne:=I.cne;refine ⟨I.ok,I.os,I.bare,Un.sameBut I.base (QA I.ok.above) hs,⟨_,hn',λj y v' e1 e2 e3=>?_⟩,λy c e=>?_,I.free,I.freeC,λp hp=>?_,I.hok.sameBut I.free hs,by simpa using I.len⟩
 ·by_cases hj:j=i
  ·subst hj
   by_cases hlt:j<σ.length
   ·rw [MY hlt] at e2;cases e2
   ·rw [Ox (by simpa using hlt)] at e2;cases e2
  ·rw [MS (Ne.symm hj)] at e2
   obtain ⟨u',r',q⟩:=hl j y v' e1 e2 e3;refine ⟨u',r',?_⟩
   rcases q with ⟨k,e⟩ | ⟨k,c,e,z⟩
   ·refine .inl ⟨k,?_⟩
    have ne:y≠n:=λe=>hj (pQ hN e1 (e▸hi))
    simp [ne,e]
   ·exact .inr ⟨k,c,e,z.sameBut hs (cne y c e)⟩
 ·obtain ⟨w',z⟩:=I.cell y c e
  exact ⟨w',z.sameBut hs (cne y c e)⟩
 ·obtain ⟨e,nn,ne,nf,d⟩:=I.pin p hp
  exact ⟨(hs.2 p.1 ne).trans e,nn,ne,nf,d⟩
end
theorem Gj {M:Model} {A:Around} {E:Value->Shared->Prop} {s:Shared} {B:Heap} {l:List Env} {e:Addr} {cls a0:Value} {dx:Option Addr} {Q:Unit->Shared->Prop} (hh:Heap.FlyingW B l e cls a0 s.heap) (dk:∃ ob,s.heap.get? e=some ob/\ob.dict=dx)
  (hQ:∀ h',Heap.FlyingW B l e cls a0 h'->s.heap.UpToSlots h'->(∃ ob,h'.get? e=some ob/\ob.dict=dx)->Q () { s with heap:=h' }):wpAny M A (setFlight (.ref e) none) Q E s:=by
 refine NC (ud (yQ _ _) (DkH.refl _) (lands_againW (E:=E) (Q:=λ_ s' => ∃ h',s'={ s with heap:=h' }/\Heap.FlyingW B l e cls a0 h'/\s.heap.UpToSlots h') hh λh' z1 z2=>⟨h',rfl,z1,z2⟩)) (λ_ s3 h3=>?_) λ_ _ z=>z
 obtain ⟨⟨h',rfl,z1,z2⟩,d⟩:=h3;obtain ⟨ob,e1,e2⟩:=dk;obtain ⟨ob',e3,e4⟩:=d e ob e1;exact hQ h' z1 z2 ⟨ob',e3,e4.trans e2⟩
theorem Gk {M:Model} {h:Heap} {a:Addr} {ob:Obj} (e:h.get? a=some ob):PySem.W.Looks M h (typeOf (.ref a)) ob.cls:=(PySem.W.Looks.ld e).andThen .now
section
variable {X:Cx} {xc n:Str} {C:Addr} {i:Nat} {body suite:List Stmt} {b0:Stmt} {np hpos pos:Pos} {tb:(St->XK)->TS} {th:TS} {outer:List Env}
end
section
variable {P:Program} {w:World} {K:PySem.W.Frag} {mg:Str->Option Value} {base:Heap}
theorem Fun.okE {x qual:Str} {st:Stmt} {f:Addr} {fd:FuncData} {N ps:List Str} {k:Nat} {sp:Sp} (F:Fun K x qual st f fd) (S:aq N ps (aR st)) (len:∀ vs H Q E,sp vs H Q E->vs.length=ps.length)
  (hbody:∀ (cdv:Value) (A:Around) (outer:List Env) (s:Shared) (H:Hp) (vs:List V) (Q:VK) (E:XK),Room k (A.deeper (envOfC qual (aR st) s.heap.objs.size f cdv))->sp vs H Q E ->
   ∃ t,gb (cL (dA P w) P w K mg base N qual (aR st) f cdv A outer s H E) (iS st) t/\t { nx:=λ_ H' => Q .non H',rt:=Q } (start N vs) H):FnOk P w K mg base (dA P w) (k+1) f fd ps sp:=by
 obtain ⟨oc,od,kV,doc,pm,an,cdv,ct,osl,rfl,lk,hcd⟩:=F.ex;exact Ep lk hcd S len λA outer s H vs Q E hr hsp=>hbody cdv A outer s H vs Q E hr hsp
end
mutual
inductive DaV (K:PySem.W.Frag) (H:Hp):V->PyData->Prop
 | non:DaV K H .non .none
 | bl (b):DaV K H (.bl b) (.bool b)
 | int (i):DaV K H (.int i) (.int i)
 | str (x):DaV K H (.str x) (.str x)
 | lst {a xs ds}:SqL K H a xs->DaVs K H xs ds->DaV K H (.ref a) (.list ds)
 | tup {a xs ds}:SqT K H a xs->DaVs K H xs ds->DaV K H (.ref a) (.tuple ds)
inductive DaVs (K:PySem.W.Frag) (H:Hp):List V->List PyData->Prop
 | nil:DaVs K H [] []
 | cons {x xs d ds}:DaV K H x d->DaVs K H xs ds->DaVs K H (x::xs) (d::ds)
end
section
variable {X:Cx} {pins:List (Addr×Obj)} {σ:St} {H:Hp} {s:Shared}
mutual
theorem DaV.reads (I:Inv X pins σ H s):∀ {x:V} {d:PyData} {u:Value},DaV X.K H x d->RelV x u->∃ as,Reads s.heap u d as
 | _,_,_,.non,r=>by cases r;exact ⟨_,.none⟩
 | _,_,_,.bl b,r=>by cases r;exact ⟨_,.bool b⟩
 | _,_,_,.int i,r=>by obtain ⟨t,rfl⟩:=r;exact ⟨_,.int i t⟩
 | _,_,_,.str x,r=>by obtain ⟨t,rfl⟩:=r;exact ⟨_,.str x t⟩
 | _,_,_,.lst (a:=a) h1 h2,r=>by
  cases r
  obtain ⟨its,rv,⟨o,n,e1,e2,e3⟩,_⟩:=I.list h1;obtain ⟨as,q⟩:=DaVs.reads I h2 rv;exact ⟨_,.list (vs:=its.toArray) (n:=n) e1 (by first | exact e2.1 | exact e2) (by first | exact e2.2.2 | exact e2.2 | exact e3 | exact e3.2) (by simpa using q)⟩
 | _,_,_,.tup (a:=a) h1 h2,r=>by
  cases r
  obtain ⟨its,rv,⟨o,e1,e2,n,e3⟩,_⟩:=I.tuple h1;obtain ⟨as,q⟩:=DaVs.reads I h2 rv;exact ⟨_,.tuple (vs:=its.toArray) (n:=n) e1 e2 e3 (by simpa using q)⟩
theorem DaVs.reads (I:Inv X pins σ H s):∀ {xs:List V} {ds:List PyData} {us:List Value},DaVs X.K H xs ds->Vals xs us->∃ as,ReadsAll s.heap us ds as
 | _,_,_,.nil,r=>by cases r;exact ⟨_,.nil⟩
 | _,_,_,.cons h1 h2,r=>by
  cases r with
  | cons r1 r2 =>
   obtain ⟨as,q1⟩:=DaV.reads I h1 r1;obtain ⟨bs,q2⟩:=DaVs.reads I h2 r2;exact ⟨_,.cons q1 q2⟩
end
def uf (K:PySem.W.Frag):R2:=λx y H Q=>∃ d e,DaV K H x d/\DaV K H y e/\d.canLay0=true/\e.canLay0=true/\d.depth<=60/\Q (.bl (PyData.eqv d e)) H
def ug (K:PySem.W.Frag):R2:=λx y H Q=>∃ d e,DaV K H x d/\DaV K H y e/\d.canLay0=true/\e.canLay0=true/\d.depth<=60/\Q (.bl (!PyData.eqv d e)) H
theorem yX (hu:X.A.units+64<cLine):OpR X (compareOp .Eq) (uf X.K):=by
 intro pins s σ H x y v u Q I rx ry h;obtain ⟨d,e,h1,h2,c1,c2,dp,q⟩:=h;obtain ⟨as,r1⟩:=h1.reads I rx;obtain ⟨bs,r2⟩:=h2.reads I ry;exact SeqAt.compareEq_reads r1 r2 c1 c2 (by have:=OL d.depth e.depth;lia) ⟨.bl _,H,I,rfl,q⟩
theorem yY (hu:X.A.units+64<cLine):OpR X (compareOp .NotEq) (ug X.K):=by
 intro pins s σ H x y v u Q I rx ry h;obtain ⟨d,e,h1,h2,c1,c2,dp,q⟩:=h;obtain ⟨as,r1⟩:=h1.reads I rx;obtain ⟨bs,r2⟩:=h2.reads I ry;exact SeqAt.compareNe_reads r1 r2 c1 c2 (by have:=OL d.depth e.depth;lia) ⟨.bl _,H,I,rfl,q⟩
end
theorem jo {A:Around} {k:Nat} (hr:Room k A):A.units+64<cLine:=by
 have:=hr.un;lia
def Gm (K:PySem.W.Frag):R2:=λx y H Q=>∃ l b xs zs,x = .ref l/\y = .ref b/\SqL K H l xs/\SqL K H b zs/\xs.length+zs.length<=sizeLine/\∀ p,H p=none->Q (.ref p) (upd H p (.lst (xs++zs)))
theorem Gn {X:Cx}:OpR X (binaryOp .Add) (Gm X.K):=by
 intro pins s σ H x y v u Q I rx ry h;obtain ⟨l,b,xs,zs,rfl,rfl,hH,hB,hz,q⟩:=h
 cases rx
 cases ry
 obtain ⟨its,r,⟨o,n,e1,e2,e3,e4⟩,z⟩:=I.list hH;obtain ⟨its2,r2,⟨o2,n2,g1,g2,g3,g4⟩,z2⟩:=I.list hB;obtain ⟨oc,od,oda,osl⟩:=o;obtain ⟨oc2,od2,oda2,osl2⟩:=o2;dsimp only at e2 e3 e4 g2 g3 g4;subst e2 e3 e4 g2 g3 g4
 have l1:=r.length;have l2:=r2.length;refine Rk ⟨_,e1,rfl⟩ ⟨_,g1,rfl⟩ noFill_list_add seq_list_add PySem.F.slot_list_add PySem.F.entry_list_add (PySem.F.args_list_add_2 _ _) (list_addW l b its.toArray its2.toArray n n2 none none osl osl2 (by rw [M7,M7];omega)) ⟨e1,g1,?_⟩
 have ea:its.toArray++its2.toArray=(its++its2).toArray:=by simp
 rw [ea];exact ⟨.ref s.heap.objs.size,_,I.lnew (t' := s.toks) (r.append r2) (by rw [M6];exact hz),rfl,q _ I.fresh⟩
section
variable {X:Cx} {pins:List (Addr×Obj)} {σ:St} {H:Hp} {s:Shared}
open Classical in
def iA (h:Heap) (d:PyData) (v:Value):Bool:=if q:∃ e as,e.canLay0=true/\Reads h v e as then PyData.eqv q.choose d else false
theorem isD_of {h:Heap} {d e:PyData} {v:Value} {as:List Addr} (c:e.canLay0=true) (r:Reads h v e as):iA h d v=PyData.eqv e d:=by
 have q:∃ e as,e.canLay0=true/\Reads h v e as:=⟨e,as,c,r⟩
 unfold iA;rw [dif_pos q];obtain ⟨as',c',r'⟩:=q.choose_spec
 have z:q.choose=e:=by first | exact (Reads.unique _ _ r' r).1 | exact (Reads.unique r' r).1 | exact Reads.unique _ _ _ _ _ c' r' r | exact PU _ _ _ _ _ c' r' r | exact Q3 _ _ _ _ _ c' r' r
 rw [z]
theorem uh (I:Inv X pins σ H s):∀ {xs:List V} {ds:List PyData} {us:List Value},DaVs X.K H xs ds->Vals xs us->us.length=ds.length/\∀ (j:Nat) u d,us[j]? = some u->ds[j]? = some d->∃ as,Reads s.heap u d as
 | _,_,_,.nil,r=>by cases r;exact ⟨rfl,λj u d e=>by cases e⟩
 | _,_,_,.cons h1 h2,r=>by
  cases r with
  | cons r1 r2 =>
   obtain ⟨l,q⟩:=uh I h2 r2;refine ⟨by rw [NL,NL,l],λj u d e1 e2=>?_⟩
   cases j with
   | zero=>cases e1;cases e2;exact h1.reads I r1
   | succ j=>exact q j u d e1 e2
def ui (K:PySem.W.Frag):R2:=λx y H Q=>∃ p xs d ds,y = .ref p/\SqL K H p xs/\DaV K H x d/\DaVs K H xs ds/\d.canLay0=true/\(∀ e∈ds,e.canLay0=true/\e.depth<=30)/\Q (.bl (ds.any λe=>PyData.eqv e d)) H
theorem uj {h:Heap} {d:PyData}:∀ {us:List Value} {ds:List PyData},us.length=ds.length->(∀ (j:Nat) u e,us[j]? = some u->ds[j]? = some e->iA h d u=PyData.eqv e d)->us.any (iA h d)=ds.any λe=>PyData.eqv e d
 | [],[],_,_=>rfl
 | u::us,e::ds,hl,hh=>by
  rw [Ob,Ob,hh 0 u e rfl rfl,uj (us:=us) (ds:=ds) (Nat.succ.inj hl) λj u' e' a b=>hh (j+1) u' e' a b]
theorem Gp (hu:X.A.units+64<cLine):OpR X (compareOp .In) (ui X.K):=by
 intro pins s σ H x y v u Q I rx ry h;obtain ⟨p,xs,d,ds,rfl,hq,hd,hds,cd,cds,q⟩:=h
 cases ry
 obtain ⟨its,r,pl,hz⟩:=I.list hq;obtain ⟨as,ra⟩:=hd.reads I rx;obtain ⟨hl,hat⟩:=uh I hds r;refine SeqAt.in_listAt (iA s.heap d) pl.isList (λy hy=>?_) ⟨.bl _,H,I,rfl,?_⟩
 ·have hy':y∈its:=by simpa using hy
  obtain ⟨j,hj⟩:=QC hy';have hlt:=(MP.mp hj).1;have hdj:ds[j]? = some (ds[j]'(by lia)):=M3 (by lia);obtain ⟨bs,rb⟩:=hat j _ _ hj hdj;have cj:=cds _ (Nq hdj);rw [isD_of cj.1 rb];exact SeqAt.eqAt_reads _ _ _ _ _ _ _ _ rb ra cj.1 cd (by
   have:=OL (ds[j]'(by lia)).depth d.depth;show X.A.units+1+_<cLine
   lia)
 ·have e:its.toArray.any (iA s.heap d)=ds.any λe=>PyData.eqv e d:=by
   rw [<- P2];refine uj hl λj u e h1 h2=>?_
   obtain ⟨bs,rb⟩:=hat j _ _ h1 h2;exact isD_of (cds _ (Nq h2)).1 rb
  rw [e];exact q
end
section
variable {X:Cx} {tg:Expr}
theorem yZ (ns:List Int):∀ k,k<=ns.length->preSum (λi=>(ns[i]?).getD 0) k=(ns.take k).sum
 | 0,_=>by simp [preSum]
 | k+1,h=>by
  show preSum _ k+(ns[k]?).getD 0=_
  rw [yZ ns k (by lia),List.take_succ,List.sum_append];congr 1
  rw [M3 (by lia)];simp
theorem Gq (hc:X.calm=true):CallR X (.builtin "sum") (λxs H Q=>∃ (a:Addr) (ns:List Int),xs=[.ref a]/\SqL X.K H a (ns.map V.int)/\Q (.int ns.sum) H):=by
 intro pins s σ H xs us Q I r h;obtain ⟨l,bs,rfl,hq,q⟩:=h;obtain ⟨u,rfl,rx⟩:=je r
 cases rx
 obtain ⟨its,rv,pl,hz⟩:=I.list hq;have hlt:l<s.heap.objs.size:=by obtain ⟨_,_,e,_⟩:=pl;exact M4 e
 have hlen:its.length=bs.length:=by rw [<- rv.length,M0]
 refine call_sum_walkAnyS (PM pl.isList ?_)
 refine ⟨s.heap.objs.size,[s.heap.objs.size,l],[s.heap.objs.size],_,its.toArray.size,_,_,λi=>(bs[i]?).getD 0,rfl,(Walks.list (prog:=X.prog) (w:=X.w) (A:=X.A.in1) (I.ok.hd hc) s.heap.objs.size l (Nt hlt) its.toArray).toS,
  ⟨⟨_,M9 _ rfl,rfl,rfl⟩,pl.isList.push _⟩,λb hb=>?_,λi v hP=>?_,λs' t' hm=>?_⟩
 ·rcases Nd.mp hb with rfl | hb
  ·exact M4 (M9 _ rfl)
  ·obtain rfl:=O7.mp hb
   obtain ⟨_,_,e,_⟩:=pl;exact M4 (MU _ e)
 ·have hP':its[i]? = some v:=by simpa using hP
  have hi:i<its.length:=(MP.mp hP').1;have hb:(bs.map V.int)[i]? = some (V.int (bs[i]'(by omega))):=by rw [Nu,M3 (by omega)];rfl
  obtain ⟨u,hu,ru⟩:=rv.get hb;rw [hP'] at hu
  cases hu
  obtain ⟨t,rfl⟩:=ru;refine ⟨t,?_⟩
  show Value.int _ t=Value.int ((bs[i]?).getD 0) t
  rw [M3 (by omega)];rfl
 ·obtain ⟨h',g',d',tk',os'⟩:=s'
  have e1:g'=s.gens:=hm.gens;have e2:d'=s.drawn:=hm.drawn;have e3:os'=s.os:=hm.os;subst e1 e2 e3
  have e:preSum (λi=>(bs[i]?).getD 0) its.toArray.size=bs.sum:=by
   rw [M7,hlen,yZ bs _ (MQ _),NG (MQ _)]
  rw [e];refine ⟨.int _,H,I.kept (t' := tk') λb o q=>?_,⟨_,rfl⟩,q⟩
  exact hm.heap b o (λhb=>by rw [O7.mp hb] at q;exact Ot _ (M4 q)) (MU _ q)
def jq (lo c:Int) (n:Nat):It:=⟨λi _=>i<n,λi H x H' => H'=H/\x = .int (lo+i*c),λi _=>n<=i⟩
theorem Gr {P:Program} {w:World} {K:PySem.W.Frag} {tg:Expr} (it:Addr) (lo c:Int) (n:Nat):gc P w K tg (jq lo c n) [it] it (λi h=>IsRangeIter h it (lo+(i:Nat)*c) ((n:Int)-(i:Nat)) c) where
 mem:=by simp
 obj:=λi h st b hb=>by
  have e:b=it:=by simpa using hb
  subst e;exact ⟨_,st,λv z=>by
   have z':Data.fields _=Data.cell v:=z
   cases z'⟩
 keep:=λi h h' st k=>k it (by simp) _ st
 item:=by
  intro X hP hw hK hc i pins s σ H E I hf st hg;subst hP hw hK
  obtain ⟨f0,f1,f2,f3,f4,f5⟩:=hf it (by simp);have W:=Walks.range (prog:=X.prog) (w:=X.w) (I.ok.hd hc) it lo c n;refine W.item i s _ _ hg st λv h' tk hv st' kk=>?_
  obtain ⟨t,rfl⟩:=hv;have I1:Inv X pins σ H { s with heap:=h',toks:=tk }:=I.turned (λb o hb e=>kk b o (by simpa using hb) e) f0 f1 f3 f4 f5;exact ⟨_,rfl,pR (s:={ s with heap:=h',toks:=tk }) (n := "range_iterator") st' rfl rfl (by decide) ⟨.int (lo+i*c),H,I1,⟨t,rfl⟩,⟨rfl,rfl⟩,st',λb hb=>(hf b hb).1⟩⟩
 done:=by
  intro X hP hw hK hc i pins s σ H E I hf st hg;subst hP hw hK
  obtain ⟨f0,f1,f2,f3,f4,f5⟩:=hf it (by simp);exact Qh (I.ok.hd hc) st (by have:n<=i:=hg;lia) λh' eb=>⟨rfl,I.turned (t' := s.toks) (λb o hb e=>eb b o hb e) f0 f1 f3 f4 f5⟩
 self:=λ_ _ _ _ _ st h=>Qi st h
theorem Gs {a b c:Int} (hc:0<c):Builtin.Range.rangeSize a b c=(((if a<b then (b-a-1) / c+1 else 0:Int).toNat:Nat):Int):=by
 unfold Builtin.Range.rangeSize;rw [MW hc];split
 ·have:0<=(b-a-1) / c:=Int.ediv_nonneg (by lia) (by lia)
  lia
 ·rfl
theorem nF {x:Int} (h:x.natAbs<2 ^ 42):Builtin.Range.rangeFitsLong x=true:=by
 have h2:x.natAbs<4398046511104:=h;simp only [Builtin.Range.rangeFitsLong,Nz,Og]
 lia
theorem Gu {a b c:Int} (ha:a.natAbs<2 ^ 40) (hb:b.natAbs<2 ^ 40) (hc:0<c):(Builtin.Range.rangeSize a b c).natAbs<2 ^ 42:=by
 have ha2:a.natAbs<1099511627776:=ha;have hb2:b.natAbs<1099511627776:=hb;show _<4398046511104
 unfold Builtin.Range.rangeSize;rw [MW hc];split
 ·have h1:0<=(b-a-1) / c:=Int.ediv_nonneg (by lia) (by lia)
  have h2:(b-a-1) / c<=b-a-1:=Int.ediv_le_self _ (by lia);generalize (b-a-1) / c=d at *;lia
 ·decide
theorem Gw {a b c:Int} (ha:a.natAbs<2 ^ 40) (hb:b.natAbs<2 ^ 40) (hc:0<c) (hc':c<2 ^ 20):Builtin.Range.small a b c=true:=by
 have l:(2:Nat) ^ 40<2 ^ 42:=by decide
 unfold Builtin.Range.small;rw [nF (Pu ha l),nF (Pu hb l),nF (x:=c) (by have h2:c<1048576:=hc';show _<4398046511104;lia),nF (Gu ha hb hc),MW hc,nF (x:=b+(c-1)) (by have h2:c<1048576:=hc';have h3:b.natAbs<1099511627776:=hb;show _<4398046511104;lia)];simp
def Gx (ta:TA):TI:=λσ H R=>ta σ H λvs H1=>∃ i j c:Int,vs=[.int i,.int j,.int c]/\(i.natAbs<2 ^ 40/\j.natAbs<2 ^ 40/\0<c/\c<2 ^ 20)/\R (jq i c (if i<j then (j-i-1) / c+1 else 0:Int).toNat) H1
theorem Gy {pins:List (Addr×Obj)} {σ:St} {H:Hp} {s:Shared} {R:It->Hp->Prop} {E:Value->Shared->Prop} {lo hi c:Int} {t u v:Tok} {tk:Nat} (I:Inv X pins σ H s) (h1:lo.natAbs<2 ^ 40) (h2:hi.natAbs<2 ^ 40) (h3:0<c) (h4:c<2 ^ 20)
  (q:R (jq lo c (if lo<hi then (hi-lo-1) / c+1 else 0:Int).toNat) H):wpAny (model X.prog X.w) X.A (pyIter (.ref s.heap.objs.size)) (sW X pins σ tg R) E { s with heap:=s.heap.push { cls:=.type "range",data:=.fields #[.int lo t,.int hi u,.int c v] },toks:=tk }:=by
 refine Q7 (IsRange.new ..) (Gw h1 h2 h3 h4) ?_
 have I1:Inv X pins σ H { s with heap:=s.heap.push { cls:=.type "range",data:=.fields #[.int lo t,.int hi u,.int c v] },toks:=tk }:=I.kept λb o e=>MU _ e
 refine ⟨(s.heap.push { cls:=.type "range",data:=.fields #[.int lo t,.int hi u,.int c v] }).objs.size,[(s.heap.push { cls:=.type "range",data:=.fields #[.int lo t,.int hi u,.int c v] }).objs.size],_,_,H,rfl,
  I1.kept (t' := tk) λb o e=>MU _ e,Gr _ lo c (if lo<hi then (hi-lo-1) / c+1 else 0:Int).toNat,?_,λb hb=>?_,q⟩
 ·have e1:lo+((0:Nat):Int)*c=lo:=by simp
  have e2:(((if lo<hi then (hi-lo-1) / c+1 else 0:Int).toNat:Nat):Int)-((0:Nat):Int)=Builtin.Range.rangeSize lo hi c:=by rw [Gs h3];omega
  show IsRangeIter _ _ (lo+((0:Nat):Int)*c) ((((if lo<hi then (hi-lo-1) / c+1 else 0:Int).toNat:Nat):Int)-((0:Nat):Int)) c
  rw [e1,e2];exact M9 _ rfl
 ·have e:b=(s.heap.push { cls:=.type "range",data:=.fields #[.int lo t,.int hi u,.int c v] }).objs.size:=by simpa using hb
  subst e;exact I1.fpOk (MQ _) (I1.hok.fresh (MQ _))
theorem Gz {a b c:Expr} {ta:TA} {p pos:Pos} (hg:Gl X "range") (hm:X.mg "range" = none) (ha:PA X [a,b,c] ta) (hs:starEach [a,b,c] X.env=[(false,eval a X.env),(false,eval b X.env),(false,eval c X.env)]:=by rfl) (hs2:starEach [b,c] X.env=[(false,eval b X.env),(false,eval c X.env)]:=by rfl) :
  PI X tg (.Call (.Name "range" p) [a,b,c] [] pos) (Gx ta):=by
 intro pins s σ H R I h;refine Call_ (lU I hg hm boot_range (Oq (thn (ha pos pins s σ H _ I h) λus s1 Zz=>?_) (by rw [hs,hs2]) (by rw [hs2];rfl)));obtain ⟨vs,H1,I1,r1,q1⟩:=Zz
 obtain ⟨i,j,c,e,⟨q1,q2,q3,q4⟩,q⟩:=q1;subst e
 cases r1 with
 | cons r rr =>
  cases rr with
  | cons r' rr =>
   cases rr with
   | cons r'' rr =>
    cases rr
    obtain ⟨t,rfl⟩:=r;obtain ⟨t',rfl⟩:=r';obtain ⟨t'',rfl⟩:=r'';exact call_range_3 (by lia) (Gy I1 q1 q2 q3 q4 q) (.inl (PyProof.noPylong_small (by lia)))
end
open PySem.Builtin PySem.Builtin.Str
section
variable {X:Cx}
def b9 (z:Str) (lo hi:Option Int):Str:=⟨((z.cps.toList.drop (HT.sIx z.cps.toList.length 0 lo)).take (HT.sIx z.cps.toList.length z.cps.toList.length hi-HT.sIx z.cps.toList.length 0 lo)).toArray⟩
theorem ql (n d:Nat) (i:Int):max 0 (min (if i<0 then i+(n:Int) else i) (n:Int))=((HT.sIx n d (some i):Nat):Int):=by
 show max 0 (min (if i<0 then i+(n:Int) else i) (n:Int))=(((if i<0 then (i+(n:Int)).toNat else min i.toNat n):Nat):Int)
 split<;>lia
theorem qm {a b:Int} {A B:Nat} (ha:a=A) (hb:b=B):sliceRange a b 1=(List.range (B-A)).map λk=>A+k:=by
 subst ha hb
 unfold sliceRange;simp only [show (1:Int) > 0 by decide,OT]
 have:(if (A:Int)<(B:Int) then ((B:Int)-A+1-1) / 1 else 0).toNat=B-A:=by
  split<;>(try simp only [Int.ediv_one])<;>lia
 rw [this];apply On
 intro k _;lia
theorem GA (xs:List Nat) (i k:Nat):(List.range k).filterMap (λm=>xs[i+m]?)=(xs.drop i).take k:=by
 induction k generalizing i with
 | zero=>simp
 | succ k ih =>
  rw [List.range_succ_eq_map,O2,Pw];have e:((λm=>xs[i+m]?) ∘ Nat.succ)=λm=>xs[(i+1)+m]? := by
   funext m;show xs[i+(m+1)]? = _;congr 1;lia
  rw [e,ih (i+1)]
  cases h:xs[i]? with
  | none =>
   have hl:xs.length<=i:=List.getElem?_eq_none_iff.mp h;simp only [Nat.add_zero,h]
   rw [NW (by lia),NW hl];simp
  | some v =>
   have hi:=(MP.mp h).1;simp only [Nat.add_zero,h]
   rw [PC hi,List.take_succ_cons];congr 1
   exact (Nx ((M3 hi).symm.trans h)).symm
theorem GB (n:Nat) (lo hi:Option Int):strSliceIndices lo hi 1 n=(List.range (HT.sIx n n hi-HT.sIx n 0 lo)).map λk=>HT.sIx n 0 lo+k:=by
 cases lo with
 | none =>
  cases hi with
  | none=>exact qm rfl rfl
  | some j=>exact qm rfl (ql n n j)
 | some i =>
  cases hi with
  | none=>exact qm (ql n 0 i) rfl
  | some j=>exact qm (ql n 0 i) (ql n n j)
theorem GC (z:Str) (lo hi:Option Int):Txt.slice z lo hi=b9 z lo hi:=by
 have hz:z.length=z.cps.toList.length:=by simp [Str.length]
 unfold Txt.slice b9;rw [hz,GB,Pw];have e:((λx=>z.cps[x]?) ∘ λk=>HT.sIx z.cps.toList.length 0 lo+k)=λm=>z.cps.toList[HT.sIx z.cps.toList.length 0 lo+m]? := by
  funext m;simp
 rw [e,GA];split
 ·rename_i hc
  simp only [beq_self_eq_true,Bool.true_and,beq_iff_eq,M0,OS] at hc
  have h1:HT.sIx z.cps.toList.length z.cps.toList.length hi<=z.cps.toList.length:=HT.sIx_le _ _ (MQ _) _;have h2:HT.sIx z.cps.toList.length 0 lo=0\/z.cps.toList.length=0:=by lia
  rw [hc];rcases h2 with h2 | h2
  ·rw [h2,QD,NG (MQ _)]
  ·have:z.cps.toList=[]:=List.eq_nil_of_length_eq_zero h2
   have h3:z.cps = #[]:=by simpa using this
   simp [h3]
   cases z;simp_all
 ·rfl
theorem y0 {v:Value} {o:Option Int} (p:IsPart v o):∃ l:Option (Int×Tok),v=partValue l/\l.map (·.1)=o:=by
 cases p with
 | none=>exact ⟨none,rfl,rfl⟩
 | int i t=>exact ⟨some (i,t),rfl,rfl⟩
theorem GD:SlR X (λx lo hi H Q=>∃ z,x = .str z/\z.length<=sizeLine/\Q (.str (b9 z lo hi)) H):=by
 intro pins s σ H x v vl vu lo hi sl Q I rx hs pl pu h;obtain ⟨z,rfl,hz,q⟩:=h;obtain ⟨t,rfl⟩:=rx;obtain ⟨l,rfl,rfl⟩:=y0 pl;obtain ⟨u,rfl,rfl⟩:=y0 pu;refine ⟨"str",_,F.slot_str_getitem.lookup,Pz _ _ _,?_⟩
 refine wpAny_getItem_str_slice (l:=l) (u:=u) (st:=none) hs rfl ?_
 refine post_val_or_str ⟨MV (Txt.slice_le z (l.map (·.1)) (u.map (·.1))) hz,λt' k=>?_⟩
 have e:=GC z (l.map (·.1)) (u.map (·.1));refine ⟨.str (b9 z (l.map (·.1)) (u.map (·.1))),H,I.tok _,⟨t',?_⟩,q⟩
 rw [<- e];rfl
def y4 (r r' r'':R2) (ta tb tc td:TE):TE:=λσ H Q=>ta σ H λx H1=>tb σ H1 λy H2=>r x y H2 λz H3=>∃ k,z = .bl k /\
 (if k=true then tc σ H3 λw' H4=>r' y w' H4 λz2 H5=>∃ k2,z2 = .bl k2/\(if k2=true then td σ H5 λv' H6=>r'' w' v' H6 Q else Q (.bl false) H5) else Q (.bl false) H3)
theorem GE {a b c d:Expr} {ta tb tc td:TE} {pos:Pos} {op op' op'':CmpOp} {r r' r'':R2} (ho:OpR X (compareOp op) r) (ho':OpR X (compareOp op') r') (ho'':OpR X (compareOp op'') r'') (ha:PE X a ta) (hb:PE X b tb) (hc:PE X c tc) (hd:PE X d td)
  (hm:lastMarks [op,op',op''] [b,c,d]=false:=by with_unfolding_all rfl):PT X (.Compare a [op,op',op''] [b,c,d] pos) (tm (y4 r r' r'' ta tb tc td)):=by
 intro pins s σ H Q I h;refine isTrue_chain (thn (ha pins s σ H _ I h) λv s1 ⟨x,H1,I1,r1,q1⟩=>test_link (thn (hb pins s1 σ H1 _ I1 q1) λu s2 ⟨y,H2,I2,r2,q2⟩ =>
  thn (ho pins s2 σ H2 x y v u _ I2 r1 r2 q2) λd s3 ⟨z,H3,I3,r3,k,e,q3⟩=>?_)) hm
 subst e
 cases r3
 refine Ng ?_
 cases k with
 | false =>
  obtain ⟨k',e',q'⟩:=q3
  cases e'
  exact ite_ff ⟨H3,I3,q'⟩
 | true =>
  refine ite_tt (test_link (thn (hc pins s3 σ H3 _ I3 q3) λw' s4 ⟨z',H4,I4,r4,q4⟩=>thn (ho' pins s4 σ H4 y z' u w' _ I4 r2 r4 q4) λd' s5 Zz=>?_));obtain ⟨z2,H5,I5,r5,k2,e2,q5⟩:=Zz
  subst e2
  cases r5
  refine Ng ?_
  cases k2 with
  | false =>
   obtain ⟨k',e',q'⟩:=q5
   cases e'
   exact ite_ff ⟨H5,I5,q'⟩
  | true =>
   refine ite_tt (test_last (thn (hd pins s5 σ H5 _ I5 q5) λw2 s6 ⟨z3,H6,I6,r6,q6⟩=>thn (ho'' pins s6 σ H6 z' z3 w' w2 _ I6 r4 r6 q6) λd2 s7 Zz=>?_));obtain ⟨z4,H7,I7,r7,k3,e3,q7⟩:=Zz
   subst e3
   cases r7
   exact Ng ⟨H7,I7,q7⟩
def bE (z:Str) (n:Nat):Str:=⟨((List.replicate n z.cps.toList).flatten).toArray⟩
theorem GG {z:Str} {n:Int} (h2:2<=n) (hz:1<=z.length):Txt.mul z n=bE z n.toNat:=by
 unfold Txt.mul bE;rw [MX (by lia),MX (by simp;lia)];have:=FP (List.replicate n.toNat z.cps) #[];rw [List.map_replicate] at this;have e:(List.replicate n.toNat z.cps).foldl (· ++ ·) #[]=((List.replicate n.toNat z.cps.toList).flatten).toArray:=by
  apply P3.mp
  rw [this];simp
 rw [e]
end
open PySem.Builtin PySem.Builtin.Str
section
variable {X:Cx}
theorem GH (z:Str) (n:Int):Txt.mul z n=bE z n.toNat:=by
 by_cases h2:2<=n/\1<=z.length
 ·exact GG h2.1 h2.2
 ·unfold Txt.mul
  by_cases h1:n<1
  ·rw [MW h1,show n.toNat=0 by lia];rfl
  ·rw [MX h1,MW (by simp;lia)]
   by_cases hz:z.length=0
   ·have e:z.cps.toList=[]:=Oe.mp (by simpa [Str.length] using hz)
    cases z
    simp only [bE,Str.mk.injEq] at *
    rw [e];apply P3.mp
    simp [e]
   ·rw [show n.toNat=1 by lia]
    cases z
    simp [bE]
theorem GI:OpR X (binaryOp .Mult) (λx y H Q=>∃ z n,x = .str z/\y = .int n/\n.natAbs<2 ^ 40/\z.length*n.toNat<=1000000/\Q (.str (bE z n.toNat)) H):=by
 intro pins s σ H x y v u Q I rx ry h;obtain ⟨z,n,rfl,rfl,hb,hl,q⟩:=h;obtain ⟨t,rfl⟩:=rx;obtain ⟨t',rfl⟩:=ry;have hb2:n.natAbs<1099511627776:=hb;refine SB.mul ⟨?_,λh1 _=>?_,λ_ _=>?_⟩ λt2 k=>⟨.str (bE z n.toNat),H,I.tok _,⟨t2,by rw [GH]⟩,q⟩
 ·simp;lia
 ·intro hc
  have n0:(n:Int)=(n.toNat:Int):=by lia
  have h1:n*(z.length:Int)<=1000000:=by
   rw [n0,<- Int.natCast_mul,Nat.mul_comm];exact Int.ofNat_le.mpr hl
  have h3:(2 ^ 63-1:Int) / n<z.length:=hc;have h4:(2 ^ 63-1:Int)<z.length*n:=Int.lt_mul_of_ediv_lt (by lia) h3;rw [Int.mul_comm] at h4;have:(9223372036854775807:Int)<n*z.length:=h4
  lia
 ·exact Nl (Nat.not_lt.mpr (MV hl (by decide)))
end
section
variable {prog:Program} {w:World} {A:Around} {E:Value->Shared->Prop} {s:Shared}
end
section
variable {X:Cx} {pos:Pos}
end
end L2
namespace Sm
open PySem L2
theorem E6x {α β γ:Type} {p q r:α->β->γ->Prop} {R:Prop} (h:∀ a b c,p a b c->q a b c->r a b c->R):(∃ a b c,p a b c/\q a b c/\r a b c)->R:=λ⟨a,b,c,x,y,z⟩=>h a b c x y z
inductive AV where
 | non | bl (b:Bool) | int (i:Int) | str (x:Str)
 | tup (xs:List AV)
 | fl (xs:List AV)
 | ref (n:Nat)
 | exc (c:Nat)
 deriving Inhabited
inductive AO where
 | lst (xs:List AV)
 | dct (t:Bool) (kvs:List (AV×AV))
 | dcx (kvs:List (AV×AV))
 | ins (c:Nat) (fs:List (Option AV))
abbrev AH:=List AO
abbrev En:=List (Option AV)
inductive Out (α:Type) where
 | ok (a:α) (h:AH)
 | ex (c:Nat) (h:AH)
 | bad
@[simp] def Out.bind {α β:Type} (o:Out α) (f:α->AH->Out β):Out β :=
 match o with
 | .ok a h=>f a h
 | .ex c h=>.ex c h
 | .bad=>.bad
inductive OutS where
 | nx (e:En) (h:AH)
 | rt (v:AV) (h:AH)
 | bk (e:En) (h:AH)
 | ct (e:En) (h:AH)
 | ex (c:Nat) (e:En) (h:AH)
 | bad
abbrev SE:=En->AH->Out AV
abbrev SB:=En->AH->Out Bool
abbrev SL:=En->AH->Out (List AV)
abbrev SS:=En->AH->OutS
abbrev Fn:=List AV->AH->Out AV
@[simp] def Out.go {α:Type} (o:Out α) (e:En) (f:α->AH->OutS):OutS :=
 match o with
 | .ok a h=>f a h
 | .ex c h=>.ex c e h
 | .bad=>.bad
structure Tb where
 K:PySem.W.Frag
 cls:Nat->Option Addr
 exc:Nat->Option Addr
 fields:Nat->List Str
 nd:∀ c,(fields c).Nodup
 few:∀ c,(fields c).length<=500
def KL (K:PySem.W.Frag) (a:Addr) (xs:List V):Prop:=∃ (o:Obj) (its:Array Value) (n:Nat),K.lookup a=some o/\o.cls = .type "list" /\ o.dict=none/\o.data = .seq its n/\its.size<=sizeLine/\Vals xs its.toList
structure Ix where
 refs:List Addr
 priv:List Addr
def Ix.all (ι:Ix):List Addr:=ι.refs++ι.priv
def GJ (c:Nat):Int:=((c / 64:Nat):Int)-1
def XdOk (ι:Ix) (H:Hp) (c:Nat) (dx:Option Addr):Prop:=64<=c->∃ d,dx=some d/\d∉ι.all/\H d=some (.xd [("row",.int (GJ c))])
def uk (T:Tb) (ι:Ix) (H:Hp) (c:Nat) (C:Addr×Option Addr):Prop:=T.exc c=some C.1/\XdOk ι H c C.2
mutual
inductive RV (T:Tb) (ι:Ix) (H:Hp):AV->V->Prop
 | non:RV T ι H .non .non
 | bl (b:Bool):RV T ι H (.bl b) (.bl b)
 | int (i:Int):RV T ι H (.int i) (.int i)
 | str {x:Str} (n:x.length<=sizeLine) (o:x.cps.all (· < 0x110000)=true):RV T ι H (.str x) (.str x)
 | tup {xs:List AV} {us:List V} {a:Addr} (n:a∉ι.all) (h:H a=some (.tup us)) (r:RVs T ι H xs us):RV T ι H (.tup xs) (.ref a)
 | fl {xs:List AV} {us:List V} {a:Addr} (n:a∉ι.all) (h:Rd H a (.lst us)) (r:RVs T ι H xs us):RV T ι H (.fl xs) (.ref a)
 | kfl {xs:List AV} {us:List V} {a:Addr} (h:KL T.K a us) (r:RVs T ι H xs us):RV T ι H (.fl xs) (.ref a)
 | ref {k:Nat} {a:Addr} (h:ι.refs[k]? = some a):RV T ι H (.ref k) (.ref a)
 | exc {c:Nat} {C:Addr×Option Addr} {a:Addr} (n:a∉ι.all) (h:uk T ι H c C) (q:H a=some (iz a (.ref C.1) C.2)):RV T ι H (.exc c) (.ref a)
inductive RVs (T:Tb) (ι:Ix) (H:Hp):List AV->List V->Prop
 | nil:RVs T ι H [] []
 | cons {x:AV} {u:V} {xs:List AV} {us:List V} (r:RV T ι H x u) (rs:RVs T ι H xs us):RVs T ι H (x::xs) (u::us)
end
structure Grow (ι:Ix) (H:Hp) (ι':Ix) (H':Hp):Prop where
 pre:∃ n,ι'.refs=ι.refs++n/\∀ a∈n,H a=none
 priv:ι'.priv=ι.priv
 keep:∀ a o,a∉ι.refs->H a=some o->H' a=some o
 live:∀ a∈ι.all,H' a≠none
theorem y6:∀ {l:List Addr} {i j:Nat} {a:Addr},l.Nodup->l[i]? = some a->l[j]? = some a->i=j
 | [],_,_,_,_,e,_=>by simp at e
 | x::l,0,0,_,_,_,_=>rfl
 | x::l,0,j+1,a,n,e,f=>by
  simp at e f;subst e
  exact absurd (Nq f) (NO.mp n).1
 | x::l,i+1,0,a,n,e,f=>by
  simp at e f;subst f
  exact absurd (Nq e) (NO.mp n).1
 | x::l,i+1,j+1,a,n,e,f=>by
  simp at e f
  rw [y6 (NO.mp n).2 e f]
theorem Ix.nr {ι:Ix} {a:Addr} (h:a∉ι.all):a∉ι.refs:=λz=>h (Nh _ z)
theorem Ix.np {ι:Ix} {a:Addr} (h:a∉ι.all):a∉ι.priv:=λz=>h (Np _ z)
theorem Grow.refl {ι:Ix} {H:Hp} (l:∀ a∈ι.all,H a≠none):Grow ι H ι H:=⟨⟨[],by simp,by simp⟩,rfl,λ_ _ _ e=>e,l⟩
theorem Grow.at {ι ι':Ix} {H H':Hp} (g:Grow ι H ι' H') {k:Nat} {a:Addr} (h:ι.refs[k]? = some a):ι'.refs[k]? = some a:=by
 obtain ⟨n,e,_⟩:=g.pre;rw [e,MT (MP.mp h).1];exact h
theorem Grow.outR {ι ι':Ix} {H H':Hp} (g:Grow ι H ι' H') {a:Addr} {o:HO} (n:a∉ι.refs) (e:H a=some o):a∉ι'.refs:=λz=>by
 obtain ⟨m,e',hm⟩:=g.pre;rw [e'] at z;rcases NH.mp z with z | z
 ·exact n z
 ·rw [hm a z] at e;cases e
theorem Grow.out {ι ι':Ix} {H H':Hp} (g:Grow ι H ι' H') {a:Addr} {o:HO} (n:a∉ι.all) (e:H a=some o):a∉ι'.all:=λz=>by
 rcases NH.mp z with z | z
 ·exact g.outR (Ix.nr n) e z
 ·rw [g.priv] at z;exact Ix.np n z
theorem Grow.trans {ι ι' ι'':Ix} {H H' H'':Hp} (g:Grow ι H ι' H') (k:Grow ι' H' ι'' H''):Grow ι H ι'' H'' := by
 obtain ⟨n,e1,hn⟩:=g.pre;obtain ⟨m,e2,hm⟩:=k.pre;refine ⟨⟨n++m,by rw [e2,e1];simp,λa ha=>?_⟩,k.priv.trans g.priv,λa o na e=>k.keep a o (g.outR na e) (g.keep a o na e),λa ha=>k.live a ?_⟩
 ·rcases NH.mp ha with z | z
  ·exact hn a z
  ·have q:=hm a z
   by_cases hi:a∈ι.refs
   ·exact absurd q (g.live a (Nh _ hi))
   ·cases e:H a with
    | none=>rfl
    | some o=>rw [g.keep a o hi e] at q;cases q
 ·rcases NH.mp ha with z | z
  ·exact Nh _ (by rw [e1];exact Nh _ z)
  ·exact Np _ (by rw [g.priv];exact z)
structure Ext (ι:Ix) (H:Hp) (ι':Ix) (H':Hp):Prop where
 at_:∀ {k:Nat} {a:Addr},ι.refs[k]? = some a->ι'.refs[k]? = some a
 keep:∀ a o,a∉ι.all->H a=some o->H' a=some o
 out:∀ a o,a∉ι.all->H a=some o->a∉ι'.all
theorem Grow.ext {ι ι':Ix} {H H':Hp} (g:Grow ι H ι' H'):Ext ι H ι' H' := ⟨g.at,λa o n e=>g.keep a o (Ix.nr n) e,λa o n e=>g.out n e⟩
theorem Ext.trans {ι ι' ι'':Ix} {H H' H'':Hp} (g:Ext ι H ι' H') (k:Ext ι' H' ι'' H''):Ext ι H ι'' H'' :=
 ⟨λe=>k.at_ (g.at_ e),λa o n e=>k.keep a o (g.out a o n e) (g.keep a o n e),λa o n e=>k.out a o (g.out a o n e) (g.keep a o n e)⟩
theorem XdOk.ext {ι ι':Ix} {H H':Hp} {c:Nat} {dx:Option Addr} (x:XdOk ι H c dx) (g:Ext ι H ι' H'):XdOk ι' H' c dx:=λz=>by
 obtain ⟨d,e,n,q⟩:=x z;exact ⟨d,e,g.out _ _ n q,g.keep _ _ n q⟩
theorem y8 {ι ι':Ix} {H H':Hp} (g:Ext ι H ι' H') {a:Addr} {u:HO} (n:a∉ι.all) (r:Rd H a u):Rd H' a u:=by
 rcases r with r | ⟨o,r⟩
 ·exact .inl (g.keep a _ n r)
 ·exact .inr ⟨o,g.keep a _ n r⟩
theorem GL {ι ι':Ix} {H H':Hp} (g:Ext ι H ι' H') {a:Addr} {u:HO} (n:a∉ι.all) (r:Rd H a u):a∉ι'.all:=by
 rcases r with r | ⟨o,r⟩
 ·exact g.out _ _ n r
 ·exact g.out _ _ n r
mutual
theorem RV.ext {T:Tb} {ι ι':Ix} {H H':Hp} (g:Ext ι H ι' H'):∀ {x:AV} {u:V},RV T ι H x u->RV T ι' H' x u
 | _,_,.non=>.non
 | _,_,.bl b=>.bl b
 | _,_,.int i=>.int i
 | _,_,.str n o=>.str n o
 | _,_,.tup n h r=>.tup (g.out _ _ n h) (g.keep _ _ n h) (RVs.ext g r)
 | _,_,.fl n h r=>.fl (GL g n h) (y8 g n h) (RVs.ext g r)
 | _,_,.kfl h r=>.kfl h (RVs.ext g r)
 | _,_,.ref h=>.ref (g.at_ h)
 | _,_,.exc n h q=>.exc (g.out _ _ n q) ⟨h.1,h.2.ext g⟩ (g.keep _ _ n q)
theorem RVs.ext {T:Tb} {ι ι':Ix} {H H':Hp} (g:Ext ι H ι' H'):∀ {xs:List AV} {us:List V},RVs T ι H xs us->RVs T ι' H' xs us
 | _,_,.nil=>.nil
 | _,_,.cons r rs=>.cons (RV.ext g r) (RVs.ext g rs)
end
theorem RV.mono {T:Tb} {ι ι':Ix} {H H':Hp} (g:Grow ι H ι' H') {x:AV} {u:V} (r:RV T ι H x u):RV T ι' H' x u:=r.ext g.ext
theorem RVs.mono {T:Tb} {ι ι':Ix} {H H':Hp} (g:Grow ι H ι' H') {xs:List AV} {us:List V} (r:RVs T ι H xs us):RVs T ι' H' xs us:=r.ext g.ext
section
variable {T:Tb} {ι:Ix} {H:Hp}
theorem RVs.length:∀ {xs:List AV} {us:List V},RVs T ι H xs us->xs.length=us.length
 | _,_,.nil=>rfl
 | _,_,.cons _ rs=>by simp [RVs.length rs]
theorem RVs.get:∀ {xs:List AV} {us:List V} {i:Nat} {x:AV},RVs T ι H xs us->xs[i]? = some x->∃ u,us[i]? = some u/\RV T ι H x u
 | _,_,_,_,.nil,e=>by simp at e
 | _,_,0,_,.cons r _,e=>by simp at e;subst e;exact ⟨_,rfl,r⟩
 | _,_,i+1,x,.cons _ t,e=>by
  obtain ⟨u,h1,h2⟩:=RVs.get (i:=i) (x:=x) t (by simpa using e);exact ⟨u,by simpa using h1,h2⟩
theorem RVs.append:∀ {xs ys:List AV} {us ws:List V},RVs T ι H xs us->RVs T ι H ys ws->RVs T ι H (xs++ys) (us++ws)
 | _,_,_,_,.nil,s=>s
 | _,_,_,_,.cons r t,s=>.cons r (RVs.append t s)
theorem RVs.set {x:AV} {u:V} (r:RV T ι H x u):∀ {xs:List AV} {us:List V} (i:Nat),RVs T ι H xs us->RVs T ι H (xs.set i x) (us.set i u)
 | _,_,_,.nil=>.nil
 | _,_,0,.cons _ t=>.cons r t
 | _,_,i+1,.cons q t=>.cons q (RVs.set r i t)
theorem RVs.take:∀ {xs:List AV} {us:List V} (n:Nat),RVs T ι H xs us->RVs T ι H (xs.take n) (us.take n)
 | _,_,0,_=>by simpa using RVs.nil
 | _,_,_+1,.nil=>.nil
 | _,_,n+1,.cons r t=>.cons r (RVs.take n t)
theorem RVs.drop:∀ {xs:List AV} {us:List V} (n:Nat),RVs T ι H xs us->RVs T ι H (xs.drop n) (us.drop n)
 | _,_,0,r=>r
 | _,_,_+1,.nil=>.nil
 | _,_,n+1,.cons _ t=>RVs.drop n t
end
def kA:aU->AV
 | .inl i=>.int i
 | .inr x=>.str x
def OR (T:Tb) (ι:Ix) (H:Hp):AO->HO->Prop
 | .lst xs,o=>∃ us,o = .lst us/\RVs T ι H xs us
 | .dct false kvs,o=>∃ kus:List (aU×V),o = .dK kus/\Paired (λ(p:AV×AV) (q:aU×V)=>p.1=kA q.1/\RV T ι H p.2 q.2) kvs kus
 | .dct true kvs,o=>∃ kus:List (List aU×V),o = .dT none kus/\Paired (λ(p:AV×AV) (q:List aU×V)=>p.1 = .tup (q.1.map kA)/\RV T ι H p.2 q.2) kvs kus
 | .dcx kvs,o=>∃ (ads:List Addr) (kus:List (List aU×V)),o = .dT (some ads) kus/\ads.length=kus.length/\Paired (λ(p:AV×AV) (q:Addr×List aU×V)=>p.1 = .tup (q.2.1.map kA)/\RV T ι H p.1 (.ref q.1)/\RV T ι H p.2 q.2.2) kvs (ads.zip kus)
 | .ins c fs,o=>∃ C dx fus,T.cls c=some C/\o = .ins C dx fus/\(fus.map (·.1)).Nodup/\(∀ p∈fus,p.1∈T.fields c)/\fs.length=(T.fields c).length /\
   ∀ (i:Nat) (v:AV),fs[i]? = some (some v)->∃ f u,(T.fields c)[i]? = some f/\fus.lookup f=some u/\RV T ι H v u
theorem OR.mono {T:Tb} {ι ι':Ix} {H H':Hp} (g:Grow ι H ι' H') {o:AO} {u:HO} (h:OR T ι H o u):OR T ι' H' o u:=by
 cases o with
 | lst xs=>obtain ⟨us,e,r⟩:=h;exact ⟨us,e,r.mono g⟩
 | dct t kvs =>
  cases t with
  | false=>obtain ⟨us,e,r⟩:=h;exact ⟨us,e,Paired.mapP r λ_ _ ⟨a,b⟩=>⟨a,b.mono g⟩⟩
  | true=>obtain ⟨us,e,r⟩:=h;exact ⟨us,e,Paired.mapP r λ_ _ ⟨a,b⟩=>⟨a,b.mono g⟩⟩
 | dcx kvs=>obtain ⟨ads,us,e,l,r⟩:=h;exact ⟨ads,us,e,l,Paired.mapP r λ_ _ ⟨a,b,c⟩=>⟨a,b.mono g,c.mono g⟩⟩
 | ins c fs =>
  obtain ⟨C,dx,fus,a,b,n,w,l,r⟩:=h;refine ⟨C,dx,fus,a,b,n,w,l,λi v e=>?_⟩
  obtain ⟨f,u,e1,e2,q⟩:=r i v e;exact ⟨f,u,e1,e2,q.mono g⟩
structure Sim (T:Tb) (ι:Ix) (h:AH) (H:Hp):Prop where
 len:ι.refs.length=h.length
 nd:ι.refs.Nodup
 plive:∀ a∈ι.priv,H a≠none
 obj:∀ (i:Nat) (o:AO) (a:Addr),h[i]? = some o->ι.refs[i]? = some a->∃ u,H a=some u/\OR T ι H o u
section
variable {T:Tb} {ι:Ix} {h:AH} {H:Hp}
theorem Sim.live (S:Sim T ι h H):∀ a∈ι.all,H a≠none:=λa ha z=>by
 rcases NH.mp ha with ha | ha
 ·obtain ⟨i,hi⟩:=List.mem_iff_getElem?.mp ha
  have hl:i<h.length:=by rw [<- S.len];exact (MP.mp hi).1
  obtain ⟨u,e,_⟩:=S.obj i h[i] a (by simp [hl]) hi;rw [z] at e;cases e
 ·exact S.plive a ha z
theorem Sim.refl (S:Sim T ι h H):Grow ι H ι H:=.refl S.live
theorem Sim.fresh (S:Sim T ι h H) {p:Addr} (n:H p=none):p∉ι.all:=λz=>S.live p z n
theorem Sim.still (S:Sim T ι h H) {H':Hp} (g:Grow ι H ι H') (k:∀ a∈ι.refs,H' a=H a):Sim T ι h H' :=
 ⟨S.len,S.nd,λa ha=>g.live a (Np _ ha),λi o a e1 e2=>by
  obtain ⟨u,e,r⟩:=S.obj i o a e1 e2;exact ⟨u,by rw [k a (Nq e2)];exact e,r.mono g⟩⟩
theorem Sim.growNew (S:Sim T ι h H) {p:Addr} {o:HO} (n:H p=none):Grow ι H ι (upd H p o) :=
 ⟨⟨[],by simp,by simp⟩,rfl,λa u _ e=>by rw [bK (fX e n)];exact e,λa ha=>by
  rw [bK (show a≠p from λz=>S.fresh n (z▸ha))];exact S.live a ha⟩
theorem Sim.new (S:Sim T ι h H) {p:Addr} {o:HO} (n:H p=none):Sim T ι h (upd H p o) :=
 S.still (S.growNew n) λa ha=>bK λz=>S.fresh n (z▸Nh _ ha)
def Ix.add (ι:Ix) (p:Addr):Ix:=⟨ι.refs++[p],ι.priv⟩
theorem Sim.growAdd (S:Sim T ι h H) {p:Addr} {u:HO} (n:H p=none):Grow ι H (ι.add p) (upd H p u) :=
 ⟨⟨[p],rfl,λa ha=>by have e:a=p:=(by simpa using ha);rw [e];exact n⟩,rfl,(S.growNew n).keep,(S.growNew n).live⟩
theorem Sim.add (S:Sim T ι h H) {p:Addr} {u:HO} {o:AO} (n:H p=none) (r:OR T (ι.add p) (upd H p u) o u):Sim T (ι.add p) (h++[o]) (upd H p u):=by
 refine ⟨by simp [Ix.add,S.len],?_,λa ha=>(S.growNew n).live a (Np _ ha),λi o' a e1 e2=>?_⟩
 ·show (ι.refs++[p]).Nodup
  rw [Pf];exact ⟨S.nd,by simp,λa ha b hb z=>by have e:b=p:=(by simpa using hb);subst e;subst z;exact S.fresh n (Nh _ ha)⟩
 ·replace e2:(ι.refs++[p])[i]? = some a:=e2
  by_cases hi:i<h.length
  ·rw [MT hi] at e1
   rw [MT (by rw [S.len];exact hi)] at e2;obtain ⟨v,e,q⟩:=S.obj i o' a e1 e2;exact ⟨v,by rw [bK (fX e n)];exact e,q.mono (S.growAdd n)⟩
  ·have e3:i=h.length:=by
    have:=(MP.mp e1).1;simp at this;lia
   subst e3;rw [Nk (MQ _)] at e1;rw [Nk (by rw [S.len];exact MQ _),S.len] at e2
   simp at e1 e2
   subst e1 e2
   exact ⟨u,d7,r⟩
theorem Sim.addAt (S:Sim T ι h H) {p:Addr}:(ι.add p).refs[h.length]? = some p:=by
 show (ι.refs++[p])[h.length]? = some p
 rw [<- S.len];simp
theorem Sim.growSet (S:Sim T ι h H) {i:Nat} {a:Addr} {u:HO} (e:ι.refs[i]? = some a):Grow ι H ι (upd H a u) :=
 ⟨⟨[],by simp,by simp⟩,rfl,λb o nb q=>by rw [bK (show b≠a from λz=>nb (by rw [z];exact Nq e))];exact q,λb hb=>by
  by_cases z:b=a
  ·subst z;rw [d7];simp
  ·rw [bK z];exact S.live b hb⟩
theorem Sim.set (S:Sim T ι h H) {i:Nat} {a:Addr} {u:HO} {o:AO} (e:ι.refs[i]? = some a) (r:OR T ι (upd H a u) o u):Sim T ι (h.set i o) (upd H a u):=by
 refine ⟨by simp [S.len],S.nd,λb hb=>(S.growSet e).live b (Np _ hb),λj o' b e1 e2=>?_⟩
 by_cases hj:j=i
 ·subst hj
  rw [e] at e2;cases e2
  have hl:j<h.length:=by rw [<- S.len];exact (MP.mp e).1
  rw [MY hl] at e1;cases e1
  exact ⟨u,d7,r⟩
 ·rw [MS (Ne.symm hj)] at e1
  obtain ⟨v,q,r'⟩:=S.obj j o' b e1 e2;have ne:b≠a:=λz=>hj (by
   subst z;exact y6 S.nd e2 e)
  exact ⟨v,by rw [bK ne];exact q,r'.mono (S.growSet e)⟩
end
def Ix.hide (ι:Ix) (D:Addr):Ix:=⟨ι.refs,D::ι.priv⟩
theorem Ix.hide_all {ι:Ix} {D a:Addr}:a∉(ι.hide D).all ↔ a∉ι.all/\a≠D:=by
 unfold Ix.all Ix.hide;simp only [NH,Nd]
 constructor
 ·intro h;exact ⟨λz=>h (z.elim .inl λz=>.inr (.inr z)),λz=>h (.inr (.inl z))⟩
 ·rintro ⟨h1,h2⟩ (z | z | z)
  ·exact h1 (.inl z)
  ·exact h2 z
  ·exact h1 (.inr z)
section
variable {T:Tb} {ι:Ix} {H:Hp} {D:Addr}
theorem Ext.hide {o:HO} (hn:H D=none):Ext ι H (ι.hide D) (upd H D o):=⟨λe=>e,λa u n e=>by rw [bK (fX e hn)];exact e,λa u n e=>Ix.hide_all.mpr ⟨n,fX e hn⟩⟩
theorem Ext.poke {o:HO}:Ext (ι.hide D) H (ι.hide D) (upd H D o):=⟨λe=>e,λa u n e=>by rw [bK (Ix.hide_all.mp n).2];exact e,λa u n e=>n⟩
theorem Ext.show:Ext (ι.hide D) H ι H:=⟨λe=>e,λa u n e=>e,λa u n e=>(Ix.hide_all.mp n).1⟩
theorem OR.ext {ι ι':Ix} {H H':Hp} (g:Ext ι H ι' H') {o:AO} {u:HO} (h:OR T ι H o u):OR T ι' H' o u:=by
 cases o with
 | lst xs=>obtain ⟨us,e,r⟩:=h;exact ⟨us,e,r.ext g⟩
 | dct t kvs =>
  cases t with
  | false=>obtain ⟨us,e,r⟩:=h;exact ⟨us,e,Paired.mapP r λ_ _ ⟨a,b⟩=>⟨a,b.ext g⟩⟩
  | true=>obtain ⟨us,e,r⟩:=h;exact ⟨us,e,Paired.mapP r λ_ _ ⟨a,b⟩=>⟨a,b.ext g⟩⟩
 | dcx kvs=>obtain ⟨ads,us,e,l,r⟩:=h;exact ⟨ads,us,e,l,Paired.mapP r λ_ _ ⟨a,b,c⟩=>⟨a,b.ext g,c.ext g⟩⟩
 | ins c fs =>
  obtain ⟨C,dx,fus,a,b,n,w,l,r⟩:=h;refine ⟨C,dx,fus,a,b,n,w,l,λi v e=>?_⟩
  obtain ⟨f,u,e1,e2,q⟩:=r i v e;exact ⟨f,u,e1,e2,q.ext g⟩
theorem Sim.hide {h:AH} {o:HO} (S:Sim T ι h H) (hn:H D=none):Sim T (ι.hide D) h (upd H D o) :=
 ⟨S.len,S.nd,λa ha=>by
  rcases Nd.mp ha with rfl | ha
  ·rw [d7];simp
  ·rw [bK (show a≠D from λz=>S.plive a ha (z▸hn))];exact S.plive a ha,λi o' a e1 e2=>by
  obtain ⟨u,e,r⟩:=S.obj i o' a e1 e2;exact ⟨u,by rw [bK (fX e hn)];exact e,r.ext (Ext.hide hn)⟩⟩
theorem Sim.poke {h:AH} {o:HO} (S:Sim T (ι.hide D) h H) (hr:D∉ι.refs):Sim T (ι.hide D) h (upd H D o) :=
 ⟨S.len,S.nd,λa ha=>by
  by_cases z:a=D
  ·subst z;rw [d7];simp
  ·rw [bK z];exact S.plive a ha,λi o' a e1 e2=>by
  obtain ⟨u,e,r⟩:=S.obj i o' a e1 e2;have ne:a≠D:=λz=>hr (z▸Nq e2)
  exact ⟨u,by rw [bK ne];exact e,r.ext Ext.poke⟩⟩
theorem Sim.show {h:AH} (S:Sim T (ι.hide D) h H):Sim T ι h H :=
 ⟨S.len,S.nd,λa ha=>S.plive a (Nv _ ha),λi o' a e1 e2=>by
  obtain ⟨u,e,r⟩:=S.obj i o' a e1 e2;exact ⟨u,e,r.ext Ext.show⟩⟩
end
def ER (T:Tb) (ι:Ix) (H:Hp) (e:En) (σ:St):Prop:=e.length=σ.length/\∀ (i:Nat) (v:AV),e[i]? = some (some v)->∃ u,σ[i]? = some (some u)/\RV T ι H v u
theorem ER.mono {T:Tb} {ι ι':Ix} {H H':Hp} {e:En} {σ:St} (r:ER T ι H e σ) (g:Grow ι H ι' H'):ER T ι' H' e σ :=
 ⟨r.1,λi v q=>let ⟨u,a,b⟩:=r.2 i v q;⟨u,a,b.mono g⟩⟩
theorem ER.ext {T:Tb} {ι ι':Ix} {H H':Hp} {e:En} {σ:St} (r:ER T ι H e σ) (g:Ext ι H ι' H'):ER T ι' H' e σ :=
 ⟨r.1,λi v q=>let ⟨u,a,b⟩:=r.2 i v q;⟨u,a,b.ext g⟩⟩
theorem ER.set {T:Tb} {ι:Ix} {H:Hp} {e:En} {σ:St} (r:ER T ι H e σ) {v:AV} {u:V} (q:RV T ι H v u) (i:Nat):ER T ι H (e.set i (some v)) (σ.set i (some u)):=by
 refine ⟨by simp [r.1],λj w z=>?_⟩
 by_cases hj:j=i
 ·subst hj
  by_cases hl:j<e.length
  ·rw [MY hl] at z;cases z
   exact ⟨u,by rw [MY (by rw [<- r.1];exact hl)],q⟩
  ·rw [Ox (by simpa using hl)] at z;cases z
 ·rw [MS (Ne.symm hj)] at z ⊢
  exact r.2 j w z
theorem ER.unset {T:Tb} {ι:Ix} {H:Hp} {e:En} {σ:St} (r:ER T ι H e σ) (i:Nat):ER T ι H (e.set i none) (σ.set i none):=by
 refine ⟨by simp [r.1],λj w z=>?_⟩
 by_cases hj:j=i
 ·subst hj
  by_cases hl:j<e.length
  ·rw [MY hl] at z;cases z
  ·rw [Ox (by simpa using hl)] at z;cases z
 ·rw [MS (Ne.symm hj)] at z ⊢
  exact r.2 j w z
def Post {α β:Type} (T:Tb) (ι:Ix) (H:Hp) (E:XK) (R:Ix->Hp->α->β->Prop) (o:Out α) (Q:β->Hp->Prop):Prop :=
 match o with
 | .ok v h' => ∀ ι' H' u,Grow ι H ι' H'->Sim T ι' h' H'->R ι' H' v u->Q u H'
 | .ex c h' => ∀ ι' H' C,Grow ι H ι' H'->Sim T ι' h' H'->uk T ι' H' c C->E (.ref C.1) C.2 H'
 | .bad=>False
def PostS (T:Tb) (ι:Ix) (H:Hp) (E:St->XK) (o:OutS) (D:dy):Prop :=
 match o with
 | .nx e h' => ∀ ι' H' σ',Grow ι H ι' H'->Sim T ι' h' H'->ER T ι' H' e σ'->D.nx σ' H'
 | .bk e h' => ∀ ι' H' σ',Grow ι H ι' H'->Sim T ι' h' H'->ER T ι' H' e σ'->D.bk σ' H'
 | .ct e h' => ∀ ι' H' σ',Grow ι H ι' H'->Sim T ι' h' H'->ER T ι' H' e σ'->D.ct σ' H'
 | .rt v h' => ∀ ι' H' u,Grow ι H ι' H'->Sim T ι' h' H'->RV T ι' H' v u->D.rt u H'
 | .ex c e h' => ∀ ι' H' σ' C,Grow ι H ι' H'->Sim T ι' h' H'->ER T ι' H' e σ'->uk T ι' H' c C->E σ' (.ref C.1) C.2 H'
 | .bad=>False
abbrev GN {α:Type}:Ix->Hp->α->α->Prop:=λ_ _ a b=>a=b
section
variable {T:Tb} {ι ι':Ix} {h:AH} {H H':Hp} {α β γ δ:Type} {E:XK} {R:Ix->Hp->α->β->Prop} {R':Ix->Hp->γ->δ->Prop}
theorem Post.shift {o:Out α} {Q:β->Hp->Prop} (p:Post T ι H E R o Q) (g:Grow ι H ι' H'):Post T ι' H' E R o Q:=by
 cases o with
 | ok v h' => exact λi2 H2 u g2=>p i2 H2 u (g.trans g2)
 | ex c h' => exact λi2 H2 C g2=>p i2 H2 C (g.trans g2)
 | bad=>exact p
theorem Post.bind {o:Out α} {f:α->AH->Out γ} {Q:δ->Hp->Prop} {Q1:β->Hp->Prop} (p:Post T ι H E R' (o.bind f) Q)
  (k:∀ v h' ι' H' u,Grow ι H ι' H'->Sim T ι' h' H'->R ι' H' v u->Post T ι' H' E R' (f v h') Q->Q1 u H'):Post T ι H E R o Q1:=by
 cases o with
 | ok v h' => exact λi2 H2 u g S r=>k v h' i2 H2 u g S r (Post.shift p g)
 | ex c h' => exact p
 | bad=>exact p
theorem Post.now {v:α} {u:β} {Q:β->Hp->Prop} (p:Post T ι H E R (.ok v h) Q) (S:Sim T ι h H) (r:R ι H v u):Q u H:=p ι H u S.refl S r
theorem PostS.shift {E:St->XK} {o:OutS} {D:dy} (p:PostS T ι H E o D) (g:Grow ι H ι' H'):PostS T ι' H' E o D:=by
 cases o with
 | nx e h' => exact λi2 H2 u g2=>p i2 H2 u (g.trans g2)
 | bk e h' => exact λi2 H2 u g2=>p i2 H2 u (g.trans g2)
 | ct e h' => exact λi2 H2 u g2=>p i2 H2 u (g.trans g2)
 | rt v h' => exact λi2 H2 u g2=>p i2 H2 u (g.trans g2)
 | ex c e h' => exact λi2 H2 u C g2=>p i2 H2 u C (g.trans g2)
 | bad=>exact p
theorem PostS.go {E:St->XK} {o:Out α} {en:En} {σ:St} {f:α->AH->OutS} {D:dy} {Q1:β->Hp->Prop} (p:PostS T ι H E (o.go en f) D) (er:ER T ι H en σ)
  (k:∀ v h' ι' H' u,Grow ι H ι' H'->Sim T ι' h' H'->R ι' H' v u->PostS T ι' H' E (f v h') D->Q1 u H'):Post T ι H (E σ) R o Q1:=by
 cases o with
 | ok v h' => exact λi2 H2 u g S r=>k v h' i2 H2 u g S r (PostS.shift p g)
 | ex c h' => exact λi2 H2 C g S e=>p i2 H2 σ C g S (er.mono g) e
 | bad=>exact p
end
def tE (T:Tb) (E:St->XK) (a:SE):TE:=λσ H Q=>∃ ι h en,Sim T ι h H/\ER T ι H en σ/\Post T ι H (E σ) (RV T) (a en h) Q
def tT (T:Tb) (E:St->XK) (a:SB):TT:=λσ H Q=>∃ ι h en,Sim T ι h H/\ER T ι H en σ/\Post T ι H (E σ) GN (a en h) Q
def tA (T:Tb) (E:St->XK) (a:SL):TA:=λσ H Q=>∃ ι h en,Sim T ι h H/\ER T ι H en σ/\Post T ι H (E σ) (RVs T) (a en h) Q
def tS (T:Tb) (E:St->XK) (b:SS):TS:=λD σ H=>∃ ι h en,Sim T ι h H/\ER T ι H en σ/\PostS T ι H E (b en h) D
abbrev aN (T:Tb) (E:St->XK) (X:Cx) (e:Expr) (a:SE):Prop:=PE X e (tE T E a)
abbrev gK (T:Tb) (E:St->XK) (X:Cx) (e:Expr) (a:SB):Prop:=PT X e (tT T E a)
abbrev kN (T:Tb) (E:St->XK) (X:Cx) (e:Expr) (a:SB):Prop:=PW X e (tT T E a)
abbrev gh (T:Tb) (E:St->XK) (X:Cx) (es:List Expr) (a:SL):Prop:=PA X es (tA T E a)
abbrev gL (T:Tb) (E:St->XK) (X:Cx) (st:Stmt) (b:SS):Prop:=PS X st (tS T E b)
abbrev cV (T:Tb) (E:St->XK) (X:Cx) (sts:List Stmt) (b:SS):Prop:=gb X sts (tS T E b)
theorem cy {X:Cx} {e:Expr} {t t':TE} (h:PE X e t) (k:∀ σ H Q,t' σ H Q->t σ H Q):PE X e t' := λpins s σ H Q I q=>h pins s σ H Q I (k σ H Q q)
theorem nG {X:Cx} {e:Expr} {t t':TT} (h:PT X e t) (k:∀ σ H Q,t' σ H Q->t σ H Q):PT X e t' := λpins s σ H Q I q=>h pins s σ H Q I (k σ H Q q)
theorem y9 {X:Cx} {e:Expr} {t t':TT} (h:PW X e t) (k:∀ σ H Q,t' σ H Q->t σ H Q):PW X e t' := λw pins s σ H Q I q=>h w pins s σ H Q I (k σ H Q q)
theorem za {X:Cx} {e:List Expr} {t t':TA} (h:PA X e t) (k:∀ σ H Q,t' σ H Q->t σ H Q):PA X e t' := λp pins s σ H Q I q=>h p pins s σ H Q I (k σ H Q q)
theorem iB {X:Cx} {e:Stmt} {t t':TS} (h:PS X e t) (k:∀ D σ H,t' D σ H->t D σ H):PS X e t' := λpins s σ H D I q=>h pins s σ H D I (k D σ H q)
theorem zb {X:Cx} {e:List Stmt} {t t':TS} (h:gb X e t) (k:∀ D σ H,t' D σ H->t D σ H):gb X e t' := λpins s σ H D I q=>h pins s σ H D I (k D σ H q)
theorem GO {X:Cx} {st:Stmt} {t:TS} (h:PS X.nox st t):PS X st t:=λpins s σ H D I hw=>by
 refine NC (h pins s σ H D (I.wish _) hw) (λf s' q=>SP.unwish q) λ_ _ z=>z.elim
instance:DecidableEq AV:=λ_ _=>Classical.propDecidable _
@[simp] def ae (i:Nat):SE:=λen h=>match en[i]? with
 | some (some v)=>.ok v h
 | _=>.bad
@[simp] def af (v:AV):SE:=λ_ h=>.ok v h
abbrev F1:=AV->AH->Out AV
abbrev F2:=AV->AV->AH->Out AV
@[simp] def gM (f:F1) (a:SE):SE:=λen h=>(a en h).bind f
@[simp] def ah (f:F2) (a b:SE):SE:=λen h=>(a en h).bind λx h1=>(b en h1).bind λy h2=>f x y h2
@[simp] def ag:SL:=λ_ h=>.ok [] h
@[simp] def aj (a:SE) (r:SL):SL:=λen h=>(a en h).bind λx h1=>(r en h1).bind λxs h2=>.ok (x::xs) h2
@[simp] def aC (F:Fn) (as:SL):SE:=λen h=>(as en h).bind F
@[simp] def bB (as:SL):SE:=λen h=>(as en h).bind λxs h1=>if xs.length<=1000 then .ok (.tup xs) h1 else .bad
@[simp] def aX (as:SL):SE:=λen h=>(as en h).bind λxs h1=>if xs.length<=1000 then .ok (.fl xs) h1 else .bad
@[simp] def ic (as:SL):SE:=λen h=>(as en h).bind λxs h1=>if xs.length<=1000 then .ok (.ref h1.length) (h1++[.lst xs]) else .bad
@[simp] def jt (t:Bool):SE:=λ_ h=>.ok (.ref h.length) (h++[.dct t []])
@[simp] def MM (v:AV) (h:AH):Option (List AV):=match v with
 | .tup xs=>some xs
 | .fl xs=>some xs
 | .ref n=>match h[n]? with
  | some (.lst xs)=>some xs
  | _=>none
 | _=>none
@[simp] def gB (v:AV) (h:AH):Option (List AV):=match v with
 | .fl xs=>some xs
 | .ref n=>match h[n]? with
  | some (.lst xs)=>some xs
  | _=>none
 | _=>none
@[simp] def aG:F2:=λx y h=>match x,y with
 | .int i,.int j=>.ok (.int (i+j)) h
 | .str i,.str j=>if i.length+j.length<=sizeLine then .ok (.str (i++j)) h else .bad
 | .tup xs,.tup ys=>if xs≠[]/\xs.length+ys.length<=sizeLine then .ok (.tup (xs++ys)) h else .bad
 | x,y=>match gB x h,gB y h with
  | some xs,some ys=>if xs.length+ys.length<=sizeLine then .ok (.fl (xs++ys)) h else .bad
  | _,_=>.bad
@[simp] def cg:F2:=λx y h=>match x,y with
 | .int i,.int j=>.ok (.int (i-j)) h
 | _,_=>.bad
@[simp] def bN:F2:=λx y h=>match x,y with
 | .int i,.int j=>if (i.natAbs<2 ^ 64\/j.natAbs<2 ^ 64)\/(i.natAbs<2 ^ 4000/\j.natAbs<2 ^ 4000) then .ok (.int (i*j)) h else .bad
 | _,_=>.bad
@[simp] def cW:F2:=λx y h=>match x,y with
 | .int i,.int j=>if 0<j/\j.natAbs<2 ^ 200 then .ok (.int (i / j)) h else .bad
 | _,_=>.bad
@[simp] def bW:F2:=λx y h=>match x,y with
 | .int i,.int j=>if 0<j then .ok (.int (i % j)) h else .bad
 | _,_=>.bad
@[simp] def cz:F2:=λx y h=>match x,y with
 | .int i,.int j=>if 0<=j/\j<=1000000/\i.natAbs<2 ^ 64 then .ok (.int (i ^ j.toNat)) h else .bad
 | _,_=>.bad
@[simp] def dR:F1:=λx h=>match x with
 | .int i=>.ok (.int (-i)) h
 | _=>.bad
def bG (f:AV->Option PyData):List AV->Option (List PyData)
 | []=>some []
 | x::xs=>match f x,bG f xs with
  | some d,some ds=>some (d::ds)
  | _,_=>none
def bx:Nat->AH->AV->Option PyData
 | 0,_,v=>match v with
  | .non=>some .none
  | .bl b=>some (.bool b)
  | .int i=>some (.int i)
  | .str x=>some (.str x)
  | _=>none
 | n+1,h,v=>match v with
  | .non=>some .none
  | .bl b=>some (.bool b)
  | .int i=>some (.int i)
  | .str x=>some (.str x)
  | .tup xs=>(bG (bx n h) xs).map .tuple
  | .fl xs=>(bG (bx n h) xs).map .list
  | .ref k=>match h[k]? with
   | some (.lst xs)=>(bG (bx n h) xs).map .list
   | _=>none
  | .exc _=>none
@[simp] def fB (x y:AV) (h:AH):Option Bool:=match x,y with
 | .int i,.int j=>some (decide (i=j))
 | .str i,.str j=>some (decide (i=j))
 | .bl i,.bl j=>some (decide (i=j))
 | .non,.non=>some true
 | x,y=>match bx 8 h x,bx 8 h y with
  | some d,some e=>some (PyData.eqv d e)
  | _,_=>none
@[simp] def aH:F2:=λx y h=>match fB x y h with
 | some b=>.ok (.bl b) h
 | none=>.bad
@[simp] def bL:F2:=λx y h=>match fB x y h with
 | some b=>.ok (.bl (!b)) h
 | none=>.bad
@[simp] def fo:F2:=λx y h=>match x,y with
 | .int i,.int j=>.ok (.bl (decide (i<j))) h
 | .str i,.str j=>.ok (.bl (decide (i.cps.toList<j.cps.toList))) h
 | _,_=>.bad
@[simp] def bF:F2:=λx y h=>match x,y with
 | .int i,.int j=>.ok (.bl (decide (i<=j))) h
 | .str i,.str j=>.ok (.bl (!decide (j.cps.toList<i.cps.toList))) h
 | _,_=>.bad
@[simp] def dZ:F2:=λx y h=>match x,y with
 | .int i,.int j=>.ok (.bl (decide (j<i))) h
 | _,_=>.bad
@[simp] def j0:F2:=λx y h=>match x,y with
 | .int i,.int j=>.ok (.bl (decide (j<=i))) h
 | _,_=>.bad
@[simp] def iC:F2:=λx y h=>match y with
 | .non=>.ok (.bl (decide (x = .non))) h
 | _=>.bad
@[simp] def ju (v:AV) (h:AH):Option Bool:=match v with
 | .non=>some false
 | .bl b=>some b
 | .int i=>some (i != 0)
 | .str y=>some ((y.length:Int) != 0)
 | .tup xs=>some (!xs.isEmpty)
 | .fl xs=>some (!xs.isEmpty)
 | .ref n=>match h[n]? with
  | some (.lst xs)=>some (!xs.isEmpty)
  | some (.dct false kvs)=>some (!kvs.isEmpty)
  | _=>none
 | _=>none
@[simp] def gC (a:SE):SB:=λen h=>(a en h).bind λv h1=>match ju v h1 with
 | some b=>.ok b h1
 | none=>.bad
@[simp] def aJ (a:SE):SB:=λen h=>(a en h).bind λv h1=>match v with
 | .bl b=>.ok b h1
 | _=>.bad
@[simp] def d8 (a b:SB):SB:=λen h=>(a en h).bind λx h1=>if x=true then b en h1 else .ok false h1
@[simp] def iV (a b:SB):SB:=λen h=>(a en h).bind λx h1=>if x=true then .ok true h1 else b en h1
@[simp] def d9 (a:SB):SB:=λen h=>(a en h).bind λx h1=>.ok (!x) h1
@[simp] def j1 (a b:SE):SE:=λen h=>(a en h).bind λv h1=>match v with
 | .bl k=>if k=true then b en h1 else .ok (.bl false) h1
 | _=>.bad
@[simp] def fC (a b:SE):SE:=λen h=>(a en h).bind λv h1=>match v with
 | .bl k=>if k=true then .ok (.bl true) h1 else b en h1
 | _=>.bad
@[simp] def jv (a:SE):SE:=λen h=>(a en h).bind λv h1=>match v with
 | .bl b=>.ok (.bl (!b)) h1
 | _=>.bad
@[simp] def fq (f f':F2) (a b c:SE):SE:=λen h=>(a en h).bind λx h1=>(b en h1).bind λy h2=>(f x y h2).bind λz h3=>match z with
 | .bl k=>if k=true then (c en h3).bind λw h4=>f' y w h4 else .ok (.bl false) h3
 | _=>.bad
@[simp] def aO:SS:=λen h=>.nx en h
@[simp] def ao (a b:SS):SS:=λen h=>match a en h with
 | .nx e h' => b e h'
 | o=>o
@[simp] def bH (a:SE):SS:=λen h=>(a en h).go en λ_ h' => .nx en h'
@[simp] def ay (a:SE):SS:=λen h=>(a en h).go en λv h' => .rt v h'
@[simp] def aK (c:SB) (a b:SS):SS:=λen h=>(c en h).go en λx h' => if x=true then a en h' else b en h'
@[simp] def az (i:Nat) (a:SE):SS:=λen h=>(a en h).go en λv h' => .nx (en.set i (some v)) h'
abbrev SI:=En->AH->Out (List AV×Option Nat)
@[simp] def fu (w:Option Nat) (xs:List AV) (h:AH):Bool:=match w with
 | none=>true
 | some n=>match h[n]? with
  | some (.lst ys)=>decide (ys=xs)
  | _=>false
inductive Tg where
 | nm (i:Nat)
 | tup (is:List Nat)
 | nst (i:Nat) (is:List Nat)
@[simp] def qo:List Nat->List AV->En->Option En
 | [],[],en=>some en
 | i::is,x::xs,en=>qo is xs (en.set i (some x))
 | _,_,_=>none
@[simp] def fD (t:Tg) (v:AV) (en:En):Option En:=match t,v with
 | .nm i,v=>some (en.set i (some v))
 | .tup is,.tup xs=>qo is xs en
 | .nst i is,.tup [y,.tup xs]=>qo is xs (en.set i (some y))
 | _,_=>none
def gO (w:Option Nat) (all:List AV) (t:Tg) (b:SS):List AV->SS
 | []=>λen h=>if fu w all h=true then .nx en h else .bad
 | x::xs=>λen h=>if fu w all h=true then
   (match fD t x en with
   | some e1=>(match b e1 h with
    | .nx e2 h2=>gO w all t b xs e2 h2
    | .ct e2 h2=>gO w all t b xs e2 h2
    | .bk e2 h2=>.nx e2 h2
    | .rt v h2=>.rt v h2
    | _=>.bad)
   | none=>.bad) else .bad
@[simp] def cX (it:SI) (t:Tg) (b:SS):SS:=λen h=>match it en h with
 | .ok (xs,w) h1=>gO w xs t b xs en h1
 | _=>.bad
@[simp] def qp (t:Tg) (a:SE):SS:=λen h=>(a en h).go en λv h' => match fD t v en with
 | some e=>.nx e h'
 | none=>.bad
@[simp] def cO (a:SE):SI:=λen h=>(a en h).bind λv h1=>match v with
 | .fl xs=>.ok (xs,none) h1
 | .tup xs=>.ok (xs,none) h1
 | .str z=>.ok (z.cps.toList.map (λc=>.str ⟨#[c]⟩),none) h1
 | .ref n=>match h1[n]? with
  | some (.lst xs)=>.ok (xs,some n) h1
  | _=>.bad
 | _=>.bad
def eF (lo:Int):Nat->List AV
 | 0=>[]
 | n+1=>.int lo::eF (lo+1) n
@[simp] def kO (a:SE):SI:=λen h=>(a en h).bind λv h1=>match v with
 | .int j=>if j.natAbs<2 ^ 62 then .ok (eF 0 j.toNat,none) h1 else .bad
 | _=>.bad
def numbered (k:Nat):List AV->List AV
 | []=>[]
 | x::xs=>.tup [.int k,x]::numbered (k+1) xs
@[simp] def iEnum (a:SE):SI:=λen h=>(a en h).bind λv h1=>match v with
 | .fl xs=>.ok (numbered 0 xs,none) h1
 | _=>.bad
def eh (js:List Nat) (en:En) (w:Option Nat) (all:List AV) (c:SB) (e:SE):List AV->List AV->AH->Out (List AV)
 | [],ys,h=>if fu w all h=true then .ok ys h else .bad
 | x::xs,ys,h=>if fu w all h=true/\ys.length<sizeLine then
   (match c (some x::js.map λj=>(en[j]?).join) h with
   | .ok true h1=>(match e (some x::js.map λj=>(en[j]?).join) h1 with
    | .ok v h2=>eh js en w all c e xs (ys++[v]) h2
    | _=>.bad)
   | .ok false h1=>eh js en w all c e xs ys h1
   | _=>.bad) else .bad
@[simp] def cw:SB:=λ_ h=>.ok true h
@[simp] def fE (js:List Nat) (it:SI) (c:SB) (e:SE):SE:=λen h=>match it en h with
 | .ok (xs,w) h1=>(match eh js en w xs c e xs [] h1 with
  | .ok ys h2=>.ok (.fl ys) h2
  | _=>.bad)
 | _=>.bad
@[simp] def aE (n m:Nat) (b:SS):Fn:=λargs h =>
 if args.length=n then
  match b (args.map some++List.replicate (m-n) none) h with
  | .nx _ h' => .ok .non h'
  | .rt v h' => .ok v h'
  | .ex c _ h' => .ex c h'
  | _=>.bad
 else .bad
@[simp] def aD (c:Nat) (F:Fn) (o:SE) (as:SL):SE:=λen h=>(o en h).bind λx h1=>match x with
 | .ref n=>match h1[n]? with
  | some (.ins c' _)=>if c'=c then (as en h1).bind λxs h2=>F (x::xs) h2 else .bad
  | _=>.bad
 | _=>.bad
@[simp] def jw (c k:Nat) (F:Fn) (as:SL):SE:=λen h=>(as en h).bind λxs h1=>match F (.ref h1.length::xs) (h1++[.ins c (List.replicate k none)]) with
 | .ok .non h2=>.ok (.ref h1.length) h2
 | .ex c h2=>.ex c h2
 | _=>.bad
@[simp] def sFld (c i:Nat) (o:SE):SE:=λen h=>(o en h).bind λx h1=>match x with
 | .ref n=>match h1[n]? with
  | some (.ins c' fs)=>if c'=c then (match fs[i]? with | some (some v)=>.ok v h1 | _=>.bad) else .bad
  | _=>.bad
 | _=>.bad
@[simp] def gP (c i:Nat) (o v:SE):SS:=λen h=>(v en h).go en λy h1=>(o en h1).go en λx h2=>match x with
 | .ref n=>match h2[n]? with
  | some (.ins c' fs)=>if c'=c then .nx en (h2.set n (.ins c (fs.set i (some y)))) else .bad
  | _=>.bad
 | _=>.bad
@[simp] def keyOf? (v:AV):Option aU:=match v with
 | .int i=>some (.inl i)
 | .str x=>some (.inr x)
 | _=>none
@[simp] def keysOf? : List AV->Option (List aU)
 | []=>some []
 | v::r=>match keyOf? v,keysOf? r with
  | some k,some ks=>some (k::ks)
  | _,_=>none
@[simp] def d0 (t:Bool) (v:AV):Bool:=match t,v with
 | false,v=>(keyOf? v).isSome
 | true,.tup xs=>(keysOf? xs).isSome
 | true,_=>false
def bD (kvs:List (AV×AV)) (k:AV):Option AV:=(kvs.find? λp=>decide (p.1=k)).map (·.2)
def eX (kvs:List (AV×AV)) (k v:AV):List (AV×AV) :=
 if kvs.any (λp=>decide (p.1=k)) then kvs.map λp=>if p.1=k then (p.1,v) else p else kvs++[(k,v)]
@[simp] def au:F2:=λx y h=>match x,y with
 | .str z,.int i=>match atI z.cps.toList i with
  | some c=>.ok (.str ⟨#[c]⟩) h
  | none=>.bad
 | .tup xs,.int i=>match atI xs i with
  | some v=>.ok v h
  | none=>.bad
 | .fl xs,.int i=>match atI xs i with
  | some v=>.ok v h
  | none=>.bad
 | .ref n,y=>match h[n]? with
  | some (.lst xs)=>match y with
   | .int i=>match atI xs i with
    | some v=>.ok v h
    | none=>.bad
   | _=>.bad
  | some (.dct t kvs)=>if d0 t y then (match bD kvs y with | some v=>.ok v h | none=>.bad) else .bad
  | _=>.bad
 | _,_=>.bad
@[simp] def fF (o i v:SE):SS:=λen h=>(v en h).go en λz h1=>(o en h1).go en λx h2=>(i en h2).go en λy h3=>match x with
 | .ref n=>match h3[n]? with
  | some (.lst xs)=>match y with
   | .int k=>match jg xs.length k with
    | some j=>.nx en (h3.set n (.lst (xs.set j z)))
    | none=>.bad
   | _=>.bad
  | some (.dct t kvs)=>if d0 t y=true/\kvs.length<sizeLine then .nx en (h3.set n (.dct t (eX kvs y z))) else .bad
  | _=>.bad
 | _=>.bad
@[simp] def kP (x y:AV) (h:AH):Option Bool:=match x,y with
 | .str i,.str j=>some (!(Builtin.Str.occurrences j i 0 j.length 1).isEmpty)
 | x,.ref n=>match h[n]? with
  | some (.dct t kvs)=>if d0 t x then some (bD kvs x).isSome else none
  | some (.lst xs)=>match bx 8 h x,bG (bx 8 h) xs with
   | some d,some ds=>some (ds.any λe=>PyData.eqv e d)
   | _,_=>none
  | _=>none
 | x,.fl xs=>match bx 8 h x,bG (bx 8 h) xs with
  | some d,some ds=>some (ds.any λe=>PyData.eqv e d)
  | _,_=>none
 | x,.tup xs=>match bx 8 h x,bG (bx 8 h) xs with
  | some d,some ds=>some (ds.any λe=>PyData.eqv e d)
  | _,_=>none
 | _,_=>none
@[simp] def qr:F2:=λx y h=>match kP x y h with
 | some b=>.ok (.bl b) h
 | none=>.bad
@[simp] def dS:F2:=λx y h=>match kP x y h with
 | some b=>.ok (.bl (!b)) h
 | none=>.bad
@[simp] def aW:Fn:=λargs h=>match args with
 | [.str x]=>.ok (.int x.length) h
 | [.tup xs]=>.ok (.int xs.length) h
 | [.fl xs]=>.ok (.int xs.length) h
 | [.ref n]=>match h[n]? with
  | some (.lst xs)=>.ok (.int xs.length) h
  | some (.dct false kvs)=>.ok (.int kvs.length) h
  | _=>.bad
 | _=>.bad
@[simp] def kQ:Fn:=λargs h=>match args with
 | [.int i]=>.ok (.int (if i<0 then -i else i)) h
 | _=>.bad
@[simp] def fG:Fn:=λargs h=>match args with
 | [.int i,.int j]=>.ok (.int (if j > i then j else i)) h
 | _=>.bad
@[simp] def lY:Fn:=λargs h=>match args with
 | [.int i,.int j]=>.ok (.int (if j<i then j else i)) h
 | _=>.bad
@[simp] def nH:List AV->Option (List Bool)
 | []=>some []
 | .bl b::r=>(nH r).map (b :: ·)
 | _::_=>none
@[simp] def gQ:Fn:=λargs h=>match args with
 | [.fl xs]=>match nH xs with
  | some bs=>.ok (.bl (bs.all id)) h
  | none=>.bad
 | _=>.bad
@[simp] def bX:Fn:=λargs h=>match args with
 | [.int i]=>.ok (.int i) h
 | [.bl k]=>.ok (.int (if k then 1 else 0)) h
 | _=>.bad
@[simp] def j3 (v:AV) (h:AH):Option String:=match v with
 | .non=>some "NoneType"
 | .bl _=>some "bool"
 | .int _=>some "int"
 | .str _=>some "str"
 | .tup _=>some "tuple"
 | .fl _=>some "list"
 | .ref n=>match h[n]? with
  | some (.lst _)=>some "list"
  | some (.dct _ _)=>some "dict"
  | _=>none
 | .exc _=>none
@[simp] def fH (t:String) (a:SE):SE:=λen h=>(a en h).bind λv h1=>match j3 v h1 with
 | some n=>.ok (.bl (n == t || (t == "int" && n == "bool"))) h1
 | none=>.bad
abbrev FM:=AV->List AV->AH->Out AV
@[simp] def cA (v:AV) (h:AH):Bool:=(gB v h).isSome
@[simp] def um (v:AV) (_:AH):Bool:=match v with
 | .str _=>true
 | _=>false
@[simp] def eI (chk:AV->AH->Bool) (f:FM) (o:SE) (as:SL):SE:=λen h=>(o en h).bind λx h1=>if chk x h1=true then (as en h1).bind λxs h2=>f x xs h2 else .bad
@[simp] def jx (chk:AV->AH->Bool) (f:FM) (o:SE):SE:=λen h=>(o en h).bind λx h1=>if chk x h1=true then f x [] h1 else .bad
@[simp] def cY:FM:=λx vs h=>match x,vs with
 | .ref n,[y]=>match h[n]? with
  | some (.lst xs)=>if xs.length<sizeLine then .ok .non (h.set n (.lst (xs++[y]))) else .bad
  | _=>.bad
 | _,_=>.bad
@[simp] def gi:FM:=λx vs h=>match x,vs with
 | .ref n,[]=>match h[n]? with
  | some (.lst xs)=>match xs[xs.length-1]? with
   | some y=>.ok y (h.set n (.lst xs.dropLast))
   | none=>.bad
  | _=>.bad
 | _,_=>.bad
@[simp] def uo:FM:=λx vs h=>match x,vs with
 | .str z,[.str y]=>.ok (.int ((Builtin.Str.occurrences z y 0 z.length (z.length+1)).length:Nat)) h
 | _,_=>.bad
def dG {α:Type} (xs:List α) (lo hi:Option Int):List α:=(xs.drop (HT.sIx xs.length 0 lo)).take (HT.sIx xs.length xs.length hi-HT.sIx xs.length 0 lo)
structure CA (T:Tb) (E:St->XK) (X:Cx):Prop where
 hK:X.K=T.K
 pass:kM (dA X.prog X.w) X E
abbrev EN:St->XK:=λ_=>E0
theorem CA.nox {T:Tb} {E:St->XK} {X:Cx} (c:CA T E X):CA T EN X.nox:=⟨c.hK,λ_ _ _ _ _ _ _ h=>by
 obtain ⟨_,_,_,_,_,_,_,_,_,_,_,_,_,_,_,_,q⟩:=h;exact q.elim⟩
theorem CA.never {T:Tb} {X:Cx} (hK:X.K=T.K):CA T EN X:=⟨hK,λ_ _ _ _ _ _ _ h=>by
 obtain ⟨_,_,_,_,_,_,_,_,_,_,_,_,_,_,_,_,q⟩:=h;exact q.elim⟩
section
variable {T:Tb} {ι:Ix} {h:AH} {H:Hp}
theorem gD {x:AV} {u:V} {xs:List AV} (S:Sim T ι h H) (r:RV T ι H x u) (e:gB x h=some xs):∃ a us,u = .ref a/\SqL T.K H a us/\RVs T ι H xs us:=by
 unfold gB at e
 cases r with
 | fl n q r=>cases e;exact ⟨_,_,rfl,.inl q,r⟩
 | kfl q r=>cases e;exact ⟨_,_,rfl,.inr q,r⟩
 | @ref k a q =>
  dsimp only at e;split at e
  ·rename_i ys hk
   cases e
   obtain ⟨u,e1,us,rfl,r⟩:=S.obj k _ a hk q;exact ⟨a,us,rfl,.inl (.inl e1),r⟩
  ·cases e
 | _=>cases e
theorem kS {u:V} {xs:List AV} (r:RV T ι H (.tup xs) u):∃ a us,u = .ref a/\SqT T.K H a us/\RVs T ι H xs us:=by
 cases r with
 | tup n q r=>exact ⟨_,_,rfl,.of q,r⟩
theorem eY {u:V} {x:Str} (r:RV T ι H (.str x) u):u = .str x/\x.length<=sizeLine/\x.cps.all (· < 0x110000)=true:=by
 cases r with
 | str n o=>exact ⟨rfl,n,o⟩
theorem bU {u:V} {i:Int} (r:RV T ι H (.int i) u):u = .int i:=by cases r;rfl
theorem fZ {u:V} {i:Bool} (r:RV T ι H (.bl i) u):u = .bl i:=by cases r;rfl
theorem qt {u:V} (r:RV T ι H .non u):u = .non:=by cases r;rfl
theorem qu {us:List V} {xs:List AV} {p:Addr} {E:XK} {Q:VK} (S:Sim T ι h H) (r:RVs T ι H xs us) (n:H p=none) (q:Post T ι H E (RV T) (.ok (.fl xs) h) Q):Q (.ref p) (upd H p (.lst us)) :=
 q ι _ _ (S.growNew n) (S.new n) (.fl (S.fresh n) (.inl d7) (r.mono (S.growNew n)))
theorem uq {us:List V} {xs:List AV} {p:Addr} {E:XK} {Q:VK} (S:Sim T ι h H) (r:RVs T ι H xs us) (n:H p=none) (q:Post T ι H E (RV T) (.ok (.tup xs) h) Q):Q (.ref p) (upd H p (.tup us)) :=
 q ι _ _ (S.growNew n) (S.new n) (.tup (S.fresh n) d7 (r.mono (S.growNew n)))
theorem GP {us:List V} {xs:List AV} {p:Addr} {E:XK} {Q:VK} (S:Sim T ι h H) (r:RVs T ι H xs us) (n:H p=none) (q:Post T ι H E (RV T) (.ok (.ref h.length) (h++[.lst xs])) Q):Q (.ref p) (upd H p (.lst us)) :=
 q _ _ _ (S.growAdd n) (S.add n ⟨us,rfl,r.mono (S.growAdd n)⟩) (.ref S.addAt)
end
section
variable {T:Tb} {E:St->XK} {X:Cx} {pos:Pos}
theorem ai (i:Nat) {x:Str} {p:Pos} (hN:X.N[i]? = some x:=by rfl) (hv:m8 X.env.scope x:=by first | exact Or.inl rfl | exact Or.inr (Or.inl rfl) | exact Or.inr (Or.inr rfl)) (hd:(x == ("__debug__" : Str))=false:=by decide)
  (hcd:(x == ("__classdict__" : Str))=false:=by decide):aN T E X (.Name x p) (ae i) :=
 cy (pv i hN hv hd hcd) λσ H Q=>E6x λι h en S er q=>by
  unfold ae at q;split at q
  ·rename_i v hv
   obtain ⟨u,e,r⟩:=er.2 i v hv;exact ⟨u,e,q.now S r⟩
  ·exact q.elim
theorem aA {i j p}:aN T E X (.Constant (.int i) j p) (af (.int i)):=cy Cy λσ H Q=>E6x λι h en S er q=>q.now S (.int i)
theorem dH {i j p}:aN T E X (.Constant (.bool i) j p) (af (.bl i)):=cy Cz λσ H Q=>E6x λι h en S er q=>q.now S (.bl i)
theorem kT {j p}:aN T E X (.Constant .none j p) (af .non):=cy CB λσ H Q=>E6x λι h en S er q=>q.now S .non
theorem aM {x j p} (n:x.length<=sizeLine:=by decide +kernel) (o:x.cps.all (· < 0x110000)=true:=by decide +kernel):aN T E X (.Constant (.str x) j p) (af (.str x)):=cy CD λσ H Q=>E6x λι h en S er q=>q.now S (.str n o)
theorem GQ {x:Str} {i:Int} {t:Tok} {p:Pos} (hg:Gl X x) (hm:X.mg x=some (.int i t)) (hd:(x == ("__debug__" : Str))=false:=by decide):aN T E X (.Name x p) (af (.int i)) :=
 cy (sJ (v:=.int i) hg hm ⟨t,rfl⟩ hd) λσ H Q=>E6x λι h en S er q=>q.now S (.int i)
def lZ (T:Tb) (f:F2) (r:R2):Prop:=∀ (ι:Ix) (h:AH) (H:Hp) (x y:AV) (u w:V) (E:XK) (Q:VK),Sim T ι h H->RV T ι H x u->RV T ι H y w->Post T ι H E (RV T) (f x y h) Q->r u w H Q
def Op (T:Tb) (X:Cx) (g:Value->Value->Sem Value) (f:F2):Prop:=∃ r,OpR X g r/\lZ T f r
variable {a b c:Expr} {sa sb sc:SE}
theorem ur {f:F2} {r:R2} (hs:lZ T f r) {σ:St} {H:Hp} {Q:VK} (q:tE T E (ah f sa sb) σ H Q):lW r (tE T E sa) (tE T E sb) σ H Q:=by
 obtain ⟨ι,h,en,S,er,q⟩:=q;refine ⟨ι,h,en,S,er,q.bind λx h1 ι1 H1 u g1 S1 r1 q1=>⟨ι1,h1,en,S1,er.mono g1,q1.bind λy h2 ι2 H2 w g2 S2 r2 q2=>?_⟩⟩
 exact hs ι2 h2 H2 x y u w _ Q S2 (r1.mono g2) r2 q2
theorem bt {op:Operator} {f:F2} (ho:Op T X (binaryOp op) f) (ha:aN T E X a sa) (hb:aN T E X b sb):aN T E X (.BinOp a op b pos) (ah f sa sb):=by
 obtain ⟨r,h1,h2⟩:=ho;exact cy (Dx h1 ha hb) λσ H Q q=>ur h2 q
theorem GR {i j:Str} (hi:i.cps.all (· < 0x110000)=true) (hj:j.cps.all (· < 0x110000)=true):(i++j).cps.all (· < 0x110000)=true:=by
 show (i.cps++j.cps).all _=true
 rw [Array.all_append,hi,hj];rfl
theorem GS (i j:Str):(i++j).length=i.length+j.length:=by
 show (i.cps++j.cps).size=_
 rw [Array.size_append];rfl
theorem cZ (hK:X.K=T.K):Op T X (binaryOp .Add) aG:=by
 refine ⟨_,op_add.or (zha.or (zjU.or Gn)),λι h H x y u w E Q S rx ry p=>?_⟩
 unfold aG at p;split at p
 ·rw [bU rx,bU ry]
  exact .inl ⟨_,_,rfl,rfl,p.now S (.int _)⟩
 ·split at p
  ·rename_i hz
   obtain ⟨rfl,_,o1⟩:=eY rx;obtain ⟨rfl,_,o2⟩:=eY ry;exact .inr (.inl ⟨_,_,rfl,rfl,hz,p.now S (.str (by rw [GS];exact hz) (GR o1 o2))⟩)
  ·exact p.elim
 ·split at p
  ·rename_i hz
   obtain ⟨a,us,rfl,q1,r1⟩:=kS rx;obtain ⟨b,ws,rfl,q2,r2⟩:=kS ry;refine .inr (.inr (.inl ⟨a,b,us,ws,rfl,rfl,hK▸q1,hK▸q2,λz=>hz.1 ?_,by rw [<- r1.length,<- r2.length];exact hz.2,λz=>?_,λ_ l n=>uq S (r1.append r2) n p⟩))
   ·subst z;cases r1;rfl
   ·subst z;cases r2
    rw [O4] at p;exact p.now S rx
  ·exact p.elim
 ·split at p
  ·split at p
   ·rename_i e1 e2 hz
    obtain ⟨a,us,rfl,q1,r1⟩:=gD S rx e1;obtain ⟨b,ws,rfl,q2,r2⟩:=gD S ry e2;exact .inr (.inr (.inr ⟨a,b,us,ws,rfl,rfl,hK▸q1,hK▸q2,by rw [<- r1.length,<- r2.length];exact hz,λl n=>qu S (r1.append r2) n p⟩))
   ·exact p.elim
  ·exact p.elim
theorem jy:Op T X (binaryOp .Sub) cg:=by
 refine ⟨_,DA,λι h H x y u w E Q S rx ry p=>?_⟩
 unfold cg at p;split at p
 ·rw [bU rx,bU ry]
  exact ⟨_,_,rfl,rfl,p.now S (.int _)⟩
 ·exact p.elim
theorem zd {i:Int} (h:i.natAbs<2 ^ 4000):Builtin.Int.intBits i<=2 ^ 20:=by
 unfold Builtin.Int.intBits;split
 ·exact Nj _
 ·rename_i hz
  have h0:i.natAbs≠0:=λz=>hz (by simpa using z)
  have:i.natAbs.log2<4000:=(Nat.log2_lt h0).mpr h
  exact MV (by lia:i.natAbs.log2+1<=4001) (by decide)
theorem iW:Op T X (binaryOp .Mult) bN:=by
 refine ⟨_,FS,λι h H x y u w E Q S rx ry p=>?_⟩
 unfold bN at p;split at p
 ·split at p
  ·rename_i hz
   rw [bU rx,bU ry];exact ⟨_,_,rfl,rfl,hz.elim (λz=>CMul.ok (z.elim (λz=>.inl ⟨by lia,by lia⟩) (λz=>.inr ⟨by lia,by lia⟩))) (λz=>.of_bits (zd z.1) (zd z.2)),p.now S (.int _)⟩
  ·exact p.elim
 ·exact p.elim
theorem qv:Op T X (binaryOp .FloorDiv) cW:=by
 refine ⟨_,FR,λι h H x y u w E Q S rx ry p=>?_⟩
 unfold cW at p;split at p
 ·split at p
  ·rename_i hz
   rw [bU rx,bU ry];exact ⟨_,_,rfl,rfl,⟨hz.1,by lia⟩,p.now S (.int _)⟩
  ·exact p.elim
 ·exact p.elim
theorem j4:Op T X (binaryOp .Mod) bW:=by
 refine ⟨_,DB,λι h H x y u w E Q S rx ry p=>?_⟩
 unfold bW at p;split at p
 ·split at p
  ·rename_i hz
   rw [bU rx,bU ry];exact ⟨_,_,rfl,rfl,hz,p.now S (.int _)⟩
  ·exact p.elim
 ·exact p.elim
theorem kU:Op T X (binaryOp .Pow) cz:=by
 refine ⟨_,DC,λι h H x y u w E Q S rx ry p=>?_⟩
 unfold cz at p;split at p
 ·split at p
  ·rename_i hz
   rw [bU rx,bU ry];exact ⟨_,_,rfl,rfl,hz,p.now S (.int _)⟩
  ·exact p.elim
 ·exact p.elim
theorem qw (ha:aN T E X a sa):aN T E X (.UnaryOp .USub a pos) (gM dR sa) :=
 cy (Dy DE ha) λσ H Q=>E6x λι h en S er q=>⟨ι,h,en,S,er,q.bind λx h1 ι1 H1 u g1 S1 r1 q1=>by
  unfold dR at q1;split at q1
  ·rw [bU r1]
   exact ⟨_,rfl,q1.now S1 (.int _)⟩
  ·exact q1.elim⟩
theorem GT {ds:List PyData} (h:∀ d∈ds,d.canLay0=true):PyData.canLayAll0 ds=true:=by
 induction ds with
 | nil=>rfl
 | cons d r ih=>show (d.canLay0 && PyData.canLayAll0 r)=true;rw [h d (by simp),ih λe he=>h e (by simp [he])];rfl
theorem GU {n:Nat} {ds:List PyData} (h:∀ d∈ds,d.depth<=n):PyData.depthAll ds<=n:=by
 induction ds with
 | nil=>exact Nj _
 | cons d r ih=>show max d.depth (PyData.depthAll r)<=n;have:=h d (by simp);have:=ih λe he=>h e (by simp [he]);lia
section
variable {ι:Ix} {h:AH} {H:Hp}
theorem nI {f:AV->Option PyData} {n:Nat} (hf:∀ {x:AV} {u:V} {d:PyData},RV T ι H x u->f x=some d->DaV T.K H u d/\d.canLay0=true/\d.depth<=n) :
  ∀ {xs:List AV} {us:List V} {ds:List PyData},RVs T ι H xs us->bG f xs=some ds->DaVs T.K H us ds/\∀ d∈ds,d.canLay0=true/\d.depth<=n
 | _,_,ds,.nil,e=>by cases e;exact ⟨.nil,by simp⟩
 | _,_,ds,.cons (x:=x) (xs:=xs) r rs,e=>by
  unfold bG at e;split at e
  ·rename_i d ds' e1 e2
   cases e
   obtain ⟨q1,q2⟩:=hf r e1;obtain ⟨q3,q4⟩:=nI hf rs e2;refine ⟨.cons q1 q3,λd hd=>?_⟩
   rcases Nd.mp hd with rfl | hd
   ·exact q2
   ·exact q4 d hd
  ·cases e
theorem iX (S:Sim T ι h H):∀ (n:Nat) {x:AV} {u:V} {d:PyData},RV T ι H x u->bx n h x=some d->DaV T.K H u d/\d.canLay0=true/\d.depth<=n
 | 0,x,u,d,r,e=>by
  unfold bx at e
  cases r with
  | non=>cases e;exact ⟨.non,rfl,MQ _⟩
  | bl b=>cases e;exact ⟨.bl b,rfl,MQ _⟩
  | int b=>cases e;exact ⟨.int b,rfl,MQ _⟩
  | str a b=>cases e;exact ⟨.str _,b,MQ _⟩
  | _=>cases e
 | n+1,x,u,d,r,e=>by
  unfold bx at e;have many:∀ {xs:List AV} {us:List V} {ds:List PyData},RVs T ι H xs us->bG (bx n h) xs=some ds->DaVs T.K H us ds/\∀ d∈ds,d.canLay0=true/\d.depth<=n:=λr e=>nI (λr e=>iX S n r e) r e
  have fin:∀ {ds:List PyData},(∀ d∈ds,d.canLay0=true/\d.depth<=n)->PyData.canLayAll0 ds=true/\PyData.depthAll ds+1<=n+1:=λq=>⟨GT λd hd=>(q d hd).1,Nat.succ_le_succ (GU λd hd=>(q d hd).2)⟩
  cases r with
  | non=>cases e;exact ⟨.non,rfl,Nj _⟩
  | bl b=>cases e;exact ⟨.bl b,rfl,Nj _⟩
  | int b=>cases e;exact ⟨.int b,rfl,Nj _⟩
  | str a b=>cases e;exact ⟨.str _,b,Nj _⟩
  | tup k q r =>
   obtain ⟨ds,e1,rfl⟩:=Nc.mp e;obtain ⟨q1,q2⟩:=many r e1;exact ⟨.tup (.of q) q1,fin q2⟩
  | fl k q r =>
   obtain ⟨ds,e1,rfl⟩:=Nc.mp e;obtain ⟨q1,q2⟩:=many r e1;exact ⟨.lst (.inl q) q1,fin q2⟩
  | kfl q r =>
   obtain ⟨ds,e1,rfl⟩:=Nc.mp e;obtain ⟨q1,q2⟩:=many r e1;exact ⟨.lst (.inr q) q1,fin q2⟩
  | @ref k a q =>
   dsimp only at e;split at e
   ·rename_i ys hk
    obtain ⟨ds,e1,rfl⟩:=Nc.mp e;obtain ⟨u,e2,us,rfl,r⟩:=S.obj k _ a hk q;obtain ⟨q1,q2⟩:=many r e1;exact ⟨.lst (.inl (.inl e2)) q1,fin q2⟩
   ·cases e
  | exc _ _ _=>cases e
end
theorem GV {i j:Int}:decide (V.int i=V.int j)=decide (i=j):=by rw [Oh];simp
theorem GW {i j:Str}:decide (V.str i=V.str j)=decide (i=j):=by rw [Oh];simp
theorem GX {i j:Bool}:decide (V.bl i=V.bl j)=decide (i=j):=by rw [Oh];simp
theorem ze {r:R2} {neg:Bool} (ho:OpR X g r) (h1:∀ x y H Q,(kF x y=true/\Q (.bl (if neg then !decide (x=y) else decide (x=y))) H)->r x y H Q)
  (h2:∀ x y H Q,(∃ d e,DaV T.K H x d/\DaV T.K H y e/\d.canLay0=true/\e.canLay0=true/\d.depth<=60/\Q (.bl (if neg then !PyData.eqv d e else PyData.eqv d e)) H)->r x y H Q) :
  lZ T (λx y h=>match fB x y h with | some b=>.ok (.bl (if neg then !b else b)) h | none=>.bad) r:=by
 intro ι h H x y u w E Q S rx ry p;dsimp only at p
 cases hb:fB x y h with
 | none=>rw [hb] at p;exact p.elim
 | some b =>
  rw [hb] at p;dsimp only at p
  unfold fB at hb;split at hb
  ·cases hb
   rw [bU rx,bU ry];exact h1 _ _ _ _ ⟨rfl,by rw [GV];exact p.now S (.bl _)⟩
  ·cases hb
   obtain ⟨rfl,_⟩:=eY rx;obtain ⟨rfl,_⟩:=eY ry;exact h1 _ _ _ _ ⟨rfl,by rw [GW];exact p.now S (.bl _)⟩
  ·cases hb
   rw [fZ rx,fZ ry];exact h1 _ _ _ _ ⟨rfl,by rw [GX];exact p.now S (.bl _)⟩
  ·cases hb
   rw [qt rx,qt ry];exact h1 _ _ _ _ ⟨rfl,by rw [show decide (V.non=V.non)=true from rfl];exact p.now S (.bl _)⟩
  ·split at hb
   ·rename_i d e e1 e2
    cases hb
    obtain ⟨q1,q2,q3⟩:=iX S 8 rx e1;obtain ⟨q4,q5,q6⟩:=iX S 8 ry e2;exact h2 _ _ _ _ ⟨d,e,q1,q4,q2,q5,by lia,p.now S (.bl _)⟩
   ·cases hb
theorem aT (hK:X.K=T.K) (hu:X.A.units+64<cLine):Op T X (compareOp .Eq) aH :=
 ⟨_,op_eq.or (yX hu),ze (neg:=false) (op_eq.or (yX hu)) (λ_ _ _ _ q=>.inl q) λ_ _ _ _ q=>.inr (hK▸q)⟩
theorem cH (hK:X.K=T.K) (hu:X.A.units+64<cLine):Op T X (compareOp .NotEq) bL :=
 ⟨_,op_ne.or (yY hu),ze (neg:=true) (op_ne.or (yY hu)) (λ_ _ _ _ q=>.inl q) λ_ _ _ _ q=>.inr (hK▸q)⟩
theorem gR:Op T X (compareOp .Lt) fo:=by
 refine ⟨_,op_lt.or DM,λι h H x y u w E Q S rx ry p=>?_⟩
 unfold fo at p;split at p
 ·rw [bU rx,bU ry]
  exact .inl ⟨_,_,rfl,rfl,p.now S (.bl _)⟩
 ·obtain ⟨rfl,_⟩:=eY rx
  obtain ⟨rfl,_⟩:=eY ry;exact .inr ⟨_,_,rfl,rfl,p.now S (.bl _)⟩
 ·exact p.elim
theorem bO:Op T X (compareOp .LtE) bF:=by
 refine ⟨_,op_le.or FN,λι h H x y u w E Q S rx ry p=>?_⟩
 unfold bF at p;split at p
 ·rw [bU rx,bU ry]
  exact .inl ⟨_,_,rfl,rfl,p.now S (.bl _)⟩
 ·obtain ⟨rfl,_⟩:=eY rx
  obtain ⟨rfl,_⟩:=eY ry;exact .inr ⟨_,_,rfl,rfl,p.now S (.bl _)⟩
 ·exact p.elim
theorem eu:Op T X (compareOp .Gt) dZ:=by
 refine ⟨_,DJ,λι h H x y u w E Q S rx ry p=>?_⟩
 unfold dZ at p;split at p
 ·rw [bU rx,bU ry]
  exact ⟨_,_,rfl,rfl,p.now S (.bl _)⟩
 ·exact p.elim
theorem nJ:Op T X (compareOp .GtE) j0:=by
 refine ⟨_,DL,λι h H x y u w E Q S rx ry p=>?_⟩
 unfold j0 at p;split at p
 ·rw [bU rx,bU ry]
  exact ⟨_,_,rfl,rfl,p.now S (.bl _)⟩
 ·exact p.elim
theorem RV.non_iff {ι:Ix} {H:Hp} {x:AV} {u:V} (r:RV T ι H x u):decide (x = .non)=decide (u = .non):=by
 exact decide_eq_decide.mpr ⟨λz=>by subst z;cases r;rfl,λz=>by subst z;cases r;rfl⟩
theorem uv:Op T X (compareOp .Is) iC:=by
 refine ⟨_,DO,λι h H x y u w E Q S rx ry p=>?_⟩
 unfold iC at p;split at p
 ·refine ⟨qt ry,?_⟩
  rw [<- rx.non_iff];exact p.now S (.bl _)
 ·exact p.elim
theorem gj {op:CmpOp} {f:F2} (ho:Op T X (compareOp op) f) (ha:aN T E X a sa) (hb:aN T E X b sb) (hm:behindInMarks op b=false):aN T E X (.Compare a [op] [b] pos) (ah f sa sb):=by
 obtain ⟨r,h1,h2⟩:=ho;exact cy (DP h1 ha hb hm) λσ H Q q=>ur h2 q
theorem bc {op:CmpOp} {f:F2} (ho:Op T X (compareOp op) f) (ha:aN T E X a sa) (hb:aN T E X b sb) (hm:behindInMarks op b=false):gK T E X (.Compare a [op] [b] pos) (aJ (ah f sa sb)):=by
 obtain ⟨r,h1,h2⟩:=ho;refine nG (DQ h1 ha hb hm) λσ H Q q=>ur (E:=E) (Q:=λx H' => ∃ k,x=V.bl k/\Q k H') h2 ?_
 obtain ⟨ι,h,en,S,er,q⟩:=q;refine ⟨ι,h,en,S,er,q.bind λx h1 ι1 H1 u g1 S1 r1 q1=>?_⟩
 split at q1
 ·rw [fZ r1]
  exact ⟨_,rfl,q1.now S1 rfl⟩
 ·exact q1.elim
theorem zf {f f':F2} {r r':R2} (hs:lZ T f r) (hs':lZ T f' r') {σ:St} {H:Hp} {Q:VK} (q:tE T E (fq f f' sa sb sc) σ H Q):tq r r' (tE T E sa) (tE T E sb) (tE T E sc) σ H Q:=by
 obtain ⟨ι,h,en,S,er,q⟩:=q;refine ⟨ι,h,en,S,er,q.bind λx h1 ι1 H1 u g1 S1 r1 q1=>⟨ι1,h1,en,S1,er.mono g1,q1.bind λy h2 ι2 H2 w g2 S2 r2 q2=>?_⟩⟩
 refine hs ι2 h2 H2 x y u w (E σ) _ S2 (r1.mono g2) r2 (q2.bind λz h3 ι3 H3 k g3 S3 r3 q3=>?_)
 split at q3
 ·rename_i kk
  rw [fZ r3];refine ⟨kk,rfl,?_⟩
  by_cases hkk:kk=true
  ·rw [MW hkk] at q3 ⊢
   refine ⟨ι3,h3,en,S3,er.mono (g1.trans (g2.trans g3)),q3.bind λv h4 ι4 H4 j g4 S4 r4 q4=>?_⟩
   exact hs' ι4 h4 H4 y v w j _ Q S4 (r2.mono (g3.trans g4)) r4 q4
  ·rw [MX hkk] at q3 ⊢
   exact q3.now S3 (.bl _)
 ·exact q3.elim
theorem l9 {op op':CmpOp} {f f':F2} (ho:Op T X (compareOp op) f) (ho':Op T X (compareOp op') f') (ha:aN T E X a sa) (hb:aN T E X b sb) (hc:aN T E X c sc) (hm:lastMarks [op,op'] [b,c]=false:=by with_unfolding_all rfl) :
  aN T E X (.Compare a [op,op'] [b,c] pos) (fq f f' sa sb sc):=by
 obtain ⟨r,h1,h2⟩:=ho;obtain ⟨r',h1',h2'⟩:=ho';exact cy (DR h1 h1' ha hb hc hm) λσ H Q q=>zf h2 h2' q
theorem GY {op op':CmpOp} {f f':F2} (ho:Op T X (compareOp op) f) (ho':Op T X (compareOp op') f') (ha:aN T E X a sa) (hb:aN T E X b sb) (hc:aN T E X c sc) (hm:lastMarks [op,op'] [b,c]=false:=by with_unfolding_all rfl) :
  gK T E X (.Compare a [op,op'] [b,c] pos) (aJ (fq f f' sa sb sc)):=by
 obtain ⟨r,h1,h2⟩:=ho;obtain ⟨r',h1',h2'⟩:=ho';refine nG (DS h1 h1' ha hb hc hm) λσ H Q q=>zf (E:=E) (Q:=λx H' => ∃ k,x=V.bl k/\Q k H') h2 h2' ?_
 obtain ⟨ι,h,en,S,er,q⟩:=q;refine ⟨ι,h,en,S,er,q.bind λx h1 ι1 H1 u g1 S1 r1 q1=>?_⟩
 split at q1
 ·rw [fZ r1]
  exact ⟨_,rfl,q1.now S1 rfl⟩
 ·exact q1.elim
theorem zg {ι:Ix} {h:AH} {H:Hp} {v:AV} {u:V} {k:Bool} (S:Sim T ι h H) (r:RV T ι H v u) (e:ju v h=some k):jd T.K u H k:=by
 unfold ju at e
 cases r with
 | non=>cases e;rfl
 | bl b=>cases e;rfl
 | int b=>cases e;rfl
 | str n o=>cases e;exact ⟨n,rfl⟩
 | tup n q r=>cases e;exact .inr (.inl ⟨_,.of q,by cases r<;>rfl⟩)
 | fl n q r=>cases e;exact .inl ⟨_,.inl q,by cases r<;>rfl⟩
 | kfl q r=>cases e;exact .inl ⟨_,.inr q,by cases r<;>rfl⟩
 | @ref n a q =>
  dsimp only at e;split at e
  ·rename_i xs hk
   cases e
   obtain ⟨u,e1,us,rfl,r⟩:=S.obj n _ a hk q;exact .inl ⟨us,.inl (.inl e1),by cases r<;>rfl⟩
  ·rename_i xs hk
   cases e
   obtain ⟨u,e1,us,rfl,r⟩:=S.obj n _ a hk q;exact .inr (.inr ⟨us,e1,by cases r<;>rfl⟩)
  ·cases e
 | exc _ _ _=>cases e
theorem iY (hK:X.K=T.K) (ha:aN T E X a sa) (he:∀ whole,isTrue a X.env whole=(do let v <- whole;standAt a.pos;holding [v] (truthy v)):=by intro _;rfl):gK T E X a (gC sa) :=
 nG (DV ha he) λσ H Q=>E6x λι h en S er q=>⟨ι,h,en,S,er,q.bind λx h1 ι1 H1 u g1 S1 r1 q1=>by
  split at q1
  ·rename_i b hb
   exact ⟨b,hK▸zg S1 r1 hb,q1.now S1 rfl⟩
  ·exact q1.elim⟩
variable {ca cb:SB} {rest:List Expr}
theorem jz (ha:gK T E X a ca):gK T E X (.UnaryOp .Not a pos) (d9 ca) :=
 nG (CM ha) λσ H Q=>E6x λι h en S er q=>⟨ι,h,en,S,er,q.bind λx h1 ι1 H1 u g1 S1 r1 q1=>by subst r1;exact q1.now S1 rfl⟩
theorem eB (h:kN T E X a ca):gK T E X a ca:=PW.pt h
theorem qx (ha:gK T E X a ca):kN T E X (.BoolOp .And [a] pos) ca:=CI ha
theorem mf (ha:gK T E X a ca):kN T E X (.BoolOp .Or [a] pos) ca:=CJ ha
theorem qy (ha:gK T E X a ca) (hb:kN T E X (.BoolOp .And (b::rest) pos) cb):kN T E X (.BoolOp .And (a::b::rest) pos) (d8 ca cb) :=
 y9 (CK ha hb) λσ H Q=>E6x λι h en S er q=>⟨ι,h,en,S,er,q.bind λx h1 ι1 H1 u g1 S1 r1 q1=>by
  subst r1;by_cases hx:x=true
  ·rw [MW hx] at q1 ⊢
   exact ⟨ι1,h1,en,S1,er.mono g1,q1⟩
  ·rw [MX hx] at q1 ⊢
   exact q1.now S1 rfl⟩
theorem mh (ha:gK T E X a ca) (hb:kN T E X (.BoolOp .Or (b::rest) pos) cb):kN T E X (.BoolOp .Or (a::b::rest) pos) (iV ca cb) :=
 y9 (CL ha hb) λσ H Q=>E6x λι h en S er q=>⟨ι,h,en,S,er,q.bind λx h1 ι1 H1 u g1 S1 r1 q1=>by
  subst r1;by_cases hx:x=true
  ·rw [MW hx] at q1 ⊢
   exact q1.now S1 rfl
  ·rw [MX hx] at q1 ⊢
   exact ⟨ι1,h1,en,S1,er.mono g1,q1⟩⟩
theorem gT {op} (h:aN T E X a sa):aN T E X (.BoolOp op [a] pos) sa:=CQ h
theorem mn (ha:aN T E X a sa) (hb:aN T E X (.BoolOp .And (b::rest) pos) sb):aN T E X (.BoolOp .And (a::b::rest) pos) (j1 sa sb) :=
 cy (CT ha hb) λσ H Q=>E6x λι h en S er q=>⟨ι,h,en,S,er,q.bind λx h1 ι1 H1 u g1 S1 r1 q1=>by
  split at q1
  ·rename_i kk
   rw [fZ r1];refine ⟨kk,rfl,?_⟩
   by_cases hkk:kk=true
   ·rw [MW hkk] at q1 ⊢
    exact ⟨ι1,h1,en,S1,er.mono g1,q1⟩
   ·rw [MX hkk] at q1 ⊢
    exact q1.now S1 (.bl _)
  ·exact q1.elim⟩
theorem jA (ha:aN T E X a sa) (hb:aN T E X (.BoolOp .Or (b::rest) pos) sb):aN T E X (.BoolOp .Or (a::b::rest) pos) (fC sa sb) :=
 cy (CV ha hb) λσ H Q=>E6x λι h en S er q=>⟨ι,h,en,S,er,q.bind λx h1 ι1 H1 u g1 S1 r1 q1=>by
  split at q1
  ·rename_i kk
   rw [fZ r1];refine ⟨kk,rfl,?_⟩
   by_cases hkk:kk=true
   ·rw [MW hkk] at q1 ⊢
    exact q1.now S1 (.bl _)
   ·rw [MX hkk] at q1 ⊢
    exact ⟨ι1,h1,en,S1,er.mono g1,q1⟩
  ·exact q1.elim⟩
theorem qz (ha:aN T E X a sa):aN T E X (.UnaryOp .Not a pos) (jv sa) :=
 cy (CW ha) λσ H Q=>E6x λι h en S er q=>⟨ι,h,en,S,er,q.bind λx h1 ι1 H1 u g1 S1 r1 q1=>by
  split at q1
  ·rw [fZ r1]
   exact ⟨_,rfl,q1.now S1 (.bl _)⟩
  ·exact q1.elim⟩
variable {es:List Expr} {as:SL}
theorem ar:gh T E X [] ag:=za pZ λσ H Q=>E6x λι h en S er q=>q.now S .nil
theorem ak (ha:aN T E X a sa) (hr:gh T E X es as) (hs:starEach (a::es) X.env=(false,eval a X.env)::starEach es X.env:=by rfl):gh T E X (a::es) (aj sa as) :=
 za (lX ha hr hs) λσ H Q=>E6x λι h en S er q=>⟨ι,h,en,S,er,q.bind λx h1 ι1 H1 u g1 S1 r1 q1=>⟨ι1,h1,en,S1,er.mono g1,q1.bind λxs h2 ι2 H2 us g2 S2 r2 q2=>q2.now S2 (.cons (r1.mono g2) r2)⟩⟩
theorem dU {k} (h:gh T E X es as):aN T E X (.Tuple es k pos) (bB as) :=
 cy (El h) λσ H Q=>E6x λι h en S er q=>⟨ι,h,en,S,er,q.bind λxs h1 ι1 H1 us g1 S1 r1 q1=>by
  split at q1
  ·rename_i hl
   exact ⟨by rw [<- r1.length];exact MV hl (by decide),λp n=>uq S1 r1 n q1⟩
  ·exact q1.elim⟩
theorem df (h:gh T E X es as):aN T E X (.List es pos) (aX as) :=
 cy (tG h) λσ H Q=>E6x λι h en S er q=>⟨ι,h,en,S,er,q.bind λxs h1 ι1 H1 us g1 S1 r1 q1=>by
  split at q1
  ·rename_i hl
   exact ⟨by rw [<- r1.length];exact MV hl (by decide),λp n=>qu S1 r1 n q1⟩
  ·exact q1.elim⟩
theorem iD (h:gh T E X es as):aN T E X (.List es pos) (ic as) :=
 cy (tG h) λσ H Q=>E6x λι h en S er q=>⟨ι,h,en,S,er,q.bind λxs h1 ι1 H1 us g1 S1 r1 q1=>by
  split at q1
  ·rename_i hl
   exact ⟨by rw [<- r1.length];exact MV hl (by decide),λp n=>GP S1 r1 n q1⟩
  ·exact q1.elim⟩
theorem qA:aN T E X (.Dict [] [] pos) (jt false) :=
 cy Ff λσ H Q ⟨ι,h,en,S,er,q⟩ p n=>q _ _ _ (S.growAdd n) (S.add n ⟨[],rfl,.nil⟩) (.ref S.addAt)
theorem GZ:aN T E X (.Dict [] [] pos) (jt true) :=
 cy Fg λσ H Q ⟨ι,h,en,S,er,q⟩ p n=>q _ _ _ (S.growAdd n) (S.add n ⟨[],rfl,.nil⟩) (.ref S.addAt)
end
section
variable {T:Tb} {E:St->XK} {X:Cx} {pos:Pos} {a b:Expr} {sa sb:SE} {ca:SB} {st:Stmt} {sts ss1 ss2:List Stmt} {s1 s2:SS}
theorem bf:cV T E X [] aO:=zb CZ λD σ H=>E6x λι h en S er q=>q ι H σ S.refl S er
theorem aB (h1:gL T E X st s1) (h2:cV T E X sts s2):cV T E X (st::sts) (ao s1 s2) :=
 zb (C6 h1 h2) λD σ H=>E6x λι h en S er q=>by
  refine ⟨ι,h,en,S,er,?_⟩
  unfold ao at q
  cases e:s1 en h with
  | nx e1 h1 =>
   rw [e] at q;exact λι' H' σ' g S' er' => ⟨ι',h1,e1,S',er',q.shift g⟩
  | rt v h1=>rw [e] at q;exact q
  | bk e1 h1=>rw [e] at q;exact q
  | ct e1 h1=>rw [e] at q;exact q
  | ex c e1 h1=>rw [e] at q;exact q
  | bad=>rw [e] at q;exact q
theorem aI (h1:gL T E X st s1):cV T E X [st] s1:=C7 h1
theorem bM (ha:aN T E X a sa) (hs:swapsWith a none pos.line X.env=pure false:=by rfl):gL T E X (.Expr a pos) (bH sa) :=
 iB (C9 ha hs) λD σ H=>E6x λι h en S er q=>⟨ι,h,en,S,er,q.go er λv h1 ι1 H1 u g1 S1 r1 q1=>q1 ι1 H1 σ S1.refl S1 (er.mono g1)⟩
theorem aP (ha:aN T E X a sa):gL T E X (.Return (some a) pos) (ay sa) :=
 iB (Da ha) λD σ H=>E6x λι h en S er q=>⟨ι,h,en,S,er,q.go er λv h1 ι1 H1 u g1 S1 r1 q1=>q1 ι1 H1 u S1.refl S1 r1⟩
theorem aF (hc:gK T E X a ca) (h1:cV T E X ss1 s1) (h2:cV T E X ss2 s2):gL T E X (.If a ss1 ss2 pos) (aK ca s1 s2) :=
 iB (Dc hc h1 h2) λD σ H=>E6x λι h en S er q=>⟨ι,h,en,S,er,q.go er λx h1 ι1 H1 u g1 S1 r1 q1=>by
  subst r1;by_cases hx:x=true
  ·rw [MW hx] at q1 ⊢
   exact ⟨ι1,h1,en,S1,er.mono g1,q1⟩
  ·rw [MX hx] at q1 ⊢
   exact ⟨ι1,h1,en,S1,er.mono g1,q1⟩⟩
theorem zh {σ:St} {H:Hp} {D:dy} {i:Nat} (q:tS T E (az i sa) D σ H):ja (tE T E sa) (lV i) D σ H:=by
 obtain ⟨ι,h,en,S,er,q⟩:=q;exact ⟨ι,h,en,S,er,q.go er λv h1 ι1 H1 u g1 S1 r1 q1=>q1 ι1 H1 _ S1.refl S1 ((er.mono g1).set r1 i)⟩
theorem aV {i:Nat} {x:Str} {p':Pos} (hN:X.N.Nodup) (ha:aN T E X a sa) (hi:X.N[i]? = some x:=by rfl) (hx:kz X.env.scope x:=by first | exact Or.inl rfl | exact Or.inr rfl) (hs:swapsWith a (some (.Name x p')) pos.line X.env=pure false:=by rfl)
  (hf:X.fn x=true\/X.env.scope.names.lookup x=some .local:=by first | exact .inl rfl | exact .inr rfl | assumption):gL T E X (.Assign [.Name x p'] a pos) (az i sa) :=
 iB (Dk hN hi hx ha hs hf) λD σ H q=>zh q
theorem zi {ι:Ix} {H:Hp}:∀ {is:List Nat} {xs:List AV} {us:List V} {en e:En} {σ:St},RVs T ι H xs us->ER T ι H en σ->qo is xs en=some e->ER T ι H e ((is.zip us).foldl (λσ p=>σ.set p.1 (some p.2)) σ)/\us.length=is.length
 | [],_,_,en,e,σ,.nil,er,q=>by cases q;exact ⟨er,rfl⟩
 | i::is,_,_,en,e,σ,.cons r rs,er,q=>by
  obtain ⟨h1,h2⟩:=zi (is:=is) rs (er.set r i) q;exact ⟨h1,by simp [h2]⟩
 | [],_,_,en,e,σ,.cons r rs,er,q=>by cases q
 | i::is,_,_,en,e,σ,.nil,er,q=>by cases q
def qB (T:Tb) (X:Cx) (tg:Expr) (t:Tg):Prop:=∃ g,PG X tg g/\∀ {ι:Ix} {h:AH} {H:Hp} {en e:En} {σ:St} {v:AV} {u:V} {Q:St->Hp->Prop},Sim T ι h H->ER T ι H en σ->RV T ι H v u->fD t v en=some e ->
 (∀ σ',ER T ι H e σ'->Q σ' H)->g u σ H Q
theorem qC {i:Nat} {x:Str} (hN:X.N.Nodup) (hi:X.N[i]? = some x:=by rfl) (hx:kz X.env.scope x:=by first | exact Or.inl rfl | exact Or.inr rfl) (hf:X.fn x=true\/X.env.scope.names.lookup x=some .local:=by first | exact .inl rfl | exact .inr rfl | assumption) :
  qB T X (.Name x pos) (.nm i):=⟨_,sS hN hi hx hf,λS er r e k=>by cases e;exact k _ (er.set r i)⟩
def jB (X:Cx) (es:List Expr) (is:List Nat):Prop:=kB X es (λvs σ H Q=>vs.length=is.length/\Q ((is.zip vs).foldl (λσ p=>σ.set p.1 (some p.2)) σ) H)
theorem zj {X:Cx} {es:List Expr} {t t':jV} (h:kB X es t) (k:∀ vs σ H Q,t' vs σ H Q->t vs σ H Q):kB X es t' := λpins s σ H vs us Q I r q=>h pins s σ H vs us Q I r (k vs σ H Q q)
theorem uw:jB X [] []:=zj Dg λvs σ H Q ⟨l,q⟩=>by
 cases vs with
 | nil=>exact ⟨rfl,q⟩
 | cons=>cases l
theorem j5 {i:Nat} {is:List Nat} {x:Str} {p:Pos} {es:List Expr} (hN:X.N.Nodup) (hr:jB X es is) (hi:X.N[i]? = some x:=by rfl) (hx:kz X.env.scope x:=by first | exact Or.inl rfl | exact Or.inr rfl)
  (hf:X.fn x=true\/X.env.scope.names.lookup x=some .local:=by first | exact .inl rfl | exact .inr rfl | assumption) (hs:(assignEach (.Name x p::es) X.env).map (·.2)=assign (.Name x p) X.env::(assignEach es X.env).map (·.2):=by rfl):jB X (.Name x p::es) (i::is) :=
 zj (Dh (sS hN hi hx hf) hr hs) λvs σ H Q ⟨l,q⟩=>by
  cases vs with
  | nil=>cases l
  | cons v r=>exact ⟨v,r,rfl,Nat.succ.inj l,q⟩
theorem ux {es:List Expr} {is:List Nat} {k:Nat} (hK:X.K=T.K) (hc:X.calm=true) (h:jB X es is) (hn:(assignEach es X.env).length=is.length:=by rfl) (hst:(assignEach es X.env).findIdx? (·.1)=none:=by rfl):qB T X (.Tuple es k pos) (.tup is) :=
 ⟨_,Di hc h hn hst,λ{ι h H en e σ v u Q} S er r q k=>by
  unfold fD at q;split at q
  ·rename_i hh;cases hh
  ·rename_i hh
   cases hh
   obtain ⟨a,us,rfl,q1,r1⟩:=kS r;obtain ⟨h1,h2⟩:=zi r1 er q;exact ⟨a,us,rfl,hK▸q1,h2,h2,k _ h1⟩
  ·rename_i hh;cases hh
  ·cases q⟩
theorem zk {tg:Expr} {t:Tg} (ha:aN T E X a sa) (hg:qB T X tg t) (hs:swapsWithSole [tg] a pos.line X.env=pure false:=by rfl) (hw:swappedStores [tg] a X.env=pure none:=by rfl)
  (h1:(assignEach [tg] X.env).map (·.2)=[assign tg X.env]:=by rfl):gL T E X (.Assign [tg] a pos) (qp t sa):=by
 obtain ⟨g,hg1,hg2⟩:=hg;refine iB (ye ha hg1 hs hw h1) λD σ H=>E6x λι h en S er q=>⟨ι,h,en,S,er,q.go er λv h1 ι1 H1 u g1 S1 r1 q1=>?_⟩
 split at q1
 ·rename_i e he
  exact hg2 S1 (er.mono g1) r1 he λσ' er' => q1 ι1 H1 σ' S1.refl S1 er'
 ·exact q1.elim
structure uy (T:Tb) (J:It) (ι:Ix) (H:Hp) (ys:List AV) (L:AH->Bool):Prop where
 go:∀ (i:Nat) (ι':Ix) (h':AH) (H':Hp) (x:AV),Ext ι H ι' H'->Sim T ι' h' H'->L h'=true->ys[i]? = some x->J.go i H'/\∀ u H2,J.yld i H' u H2->Grow ι' H' ι' H2/\Sim T ι' h' H2/\RV T ι' H2 x u
 stop:∀ (i:Nat) (ι':Ix) (h':AH) (H':Hp),Ext ι H ι' H'->Sim T ι' h' H'->L h'=true->ys.length<=i->J.stop i H'
abbrev iZ (T:Tb) (J:It) (ι:Ix) (H:Hp) (xs:List AV) (w:Option Nat):Prop:=uy T J ι H xs (fu w xs)
def tI (T:Tb) (it:SI):TI:=λσ H R=>∃ ι h en,Sim T ι h H/\ER T ι H en σ/\match it en h with
 | .ok (xs,w) h' => ∀ ι' H' J,Grow ι H ι' H'->Sim T ι' h' H'->iZ T J ι' H' xs w->R J H'
 | _=>False
abbrev kW (T:Tb) (X:Cx) (tg iter:Expr) (it:SI):Prop:=PI X tg iter (tI T it)
theorem qD {X:Cx} {tg iter:Expr} {t t':TI} (h:PI X tg iter t) (k:∀ σ H R,t' σ H R->t σ H R):PI X tg iter t' := λpins s σ H R I q=>h pins s σ H R I (k σ H R q)
theorem PI.or {X:Cx} {tg iter:Expr} {t t':TI} (h:PI X tg iter t) (h':PI X tg iter t'):PI X tg iter (λσ H R=>t σ H R\/t' σ H R):=λpins s σ H R I q=>q.elim (h pins s σ H R I) (h' pins s σ H R I)
theorem zm {ι:Ix} {H:Hp} {a:Addr} {us:List V} {xs:List AV} {K:PySem.W.Frag} (keep:∀ (ι':Ix) (H':Hp),Ext ι H ι' H'->SqL K H' a us) (r:RVs T ι H xs us):iZ T (pS K a) ι H xs none:=by
 constructor
 ·intro i ι' h' H' x g S _ e
  obtain ⟨u,e1,r1⟩:=(r.ext g).get e;refine ⟨⟨us,u,keep ι' H' g,e1⟩,?_⟩
  rintro u2 H2 ⟨rfl,y⟩
  have z:=y us (keep ι' _ g);rw [e1] at z;cases z
  exact ⟨S.refl,S,r1⟩
 ·intro i ι' h' H' g S _ hl
  exact ⟨us,keep ι' H' g,by rw [<- r.length];exact hl⟩
theorem G5 {ι:Ix} {H:Hp} {a:Addr} {us:List V} {xs:List AV} {K:PySem.W.Frag} (keep:∀ (ι':Ix) (H':Hp),Ext ι H ι' H'->SqT K H' a us) (r:RVs T ι H xs us):iZ T (sX K a) ι H xs none:=by
 constructor
 ·intro i ι' h' H' x g S _ e
  obtain ⟨u,e1,r1⟩:=(r.ext g).get e;refine ⟨⟨us,u,keep ι' H' g,e1⟩,?_⟩
  rintro u2 H2 ⟨rfl,y⟩
  have z:=y us (keep ι' _ g);rw [e1] at z;cases z
  exact ⟨S.refl,S,r1⟩
 ·intro i ι' h' H' g S _ hl
  exact ⟨us,keep ι' H' g,by rw [<- r.length];exact hl⟩
theorem G6 {ι:Ix} {H:Hp} {a:Addr} {n:Nat} {xs:List AV} {K:PySem.W.Frag} (e:ι.refs[n]? = some a):iZ T (pS K a) ι H xs (some n):=by
 have at_:∀ {ι':Ix} {h':AH} {H':Hp},Ext ι H ι' H'->Sim T ι' h' H'->fu (some n) xs h'=true->∃ us,H' a=some (.lst us)/\RVs T ι' H' xs us:=λ{ι' h' H'} g S l=>by
  unfold fu at l;dsimp only at l;split at l
  ·rename_i ys hy
   have z:=PL l;subst z;obtain ⟨u,e1,us,rfl,r⟩:=S.obj n _ a hy (g.at_ e)
   exact ⟨us,e1,r⟩
  ·cases l
 constructor
 ·intro i ι' h' H' x g S l e
  obtain ⟨us,e0,r⟩:=at_ g S l;obtain ⟨u,e1,r1⟩:=r.get e;refine ⟨⟨us,u,.of e0,e1⟩,?_⟩
  rintro u2 H2 ⟨rfl,y⟩
  have z:=y us (.of e0);rw [e1] at z;cases z
  exact ⟨S.refl,S,r1⟩
 ·intro i ι' h' H' g S l hl
  obtain ⟨us,e0,r⟩:=at_ g S l;exact ⟨us,.of e0,by rw [<- r.length];exact hl⟩
theorem G7 {ι:Ix} {H:Hp} {x:Str} (o:x.cps.all (· < 0x110000)=true):iZ T (tY x) ι H (x.cps.toList.map λc=>.str ⟨#[c]⟩) none:=by
 constructor
 ·intro i ι' h' H' y g S _ e
  rw [Nu] at e;obtain ⟨c,e1,rfl⟩:=Nc.mp e
  have hi:i<x.cps.size:=by
   have:=(MP.mp e1).1;simpa using this
  refine ⟨hi,?_⟩
  rintro u H2 ⟨rfl,c',e2,rfl⟩
  have z:x.cps[i]? = some c:=by simpa using e1
  rw [e2] at z;cases z
  refine ⟨S.refl,S,.str (show 1<=sizeLine by decide) ?_⟩
  have m:=Array.mem_of_getElem? e2;have:=NR.mp o _ m;simpa using this
 ·intro i ι' h' H' g S _ hl
  show x.cps.size<=i
  simpa using hl
theorem G8 (n:Nat):∀ (lo:Int) (i:Nat),(eF lo n)[i]? = if i<n then some (.int (lo+i)) else none:=by
 induction n with
 | zero=>intro lo i;simp [eF]
 | succ n ih =>
  intro lo i
  cases i with
  | zero=>simp [eF]
  | succ i =>
   show (eF (lo+1) n)[i]? = _
   rw [ih];by_cases h:i<n
   ·rw [MW h,MW (by lia)]
    congr 2
    show lo+1+(i:Int)=lo+((i+1:Nat):Int)
    lia
   ·rw [MX h,MX (by lia)]
theorem G9 (n:Nat):∀ lo:Int,(eF lo n).length=n:=by
 induction n with
 | zero=>intro lo;rfl
 | succ n ih=>intro lo;show (eF (lo+1) n).length+1=n+1;rw [ih]
theorem Ha {ι:Ix} {H:Hp} {lo:Int} {n:Nat}:iZ T (pT lo n) ι H (eF lo n) none:=by
 constructor
 ·intro i ι' h' H' y g S _ e
  rw [G8] at e;split at e
  ·rename_i hi
   cases e
   refine ⟨hi,?_⟩
   rintro u H2 ⟨rfl,rfl⟩
   exact ⟨S.refl,S,.int _⟩
  ·cases e
 ·intro i ι' h' H' g S _ hl
  rw [G9] at hl;exact hl
theorem numbered_get:∀ (xs:List AV) (k i:Nat),(numbered k xs)[i]? = (xs[i]?).map λx=>.tup [.int ((k+i:Nat):Int),x]
 | [],k,i=>by simp [numbered]
 | x::xs,k,0=>by simp [numbered]
 | x::xs,k,i+1=>by
  show (numbered (k+1) xs)[i]? = _
  rw [numbered_get xs (k+1) i];show _=(xs[i]?).map _
  congr 1
  funext y
  rw [show k+1+i=k+(i+1) by lia]
theorem zp:∀ (xs:List AV) (k:Nat),(numbered k xs).length=xs.length
 | [],_=>rfl
 | x::xs,k=>by show (numbered (k+1) xs).length+1=_;rw [zp xs];rfl
theorem zq {ι:Ix} {H:Hp} {a:Addr} {us:List V} {xs:List AV} {K:PySem.W.Frag} (keep:∀ (ι':Ix) (H':Hp),Ext ι H ι' H'->SqL K H' a us) (r:RVs T ι H xs us):iZ T (tX K a) ι H (numbered 0 xs) none:=by
 constructor
 ·intro i ι' h' H' x g S _ e
  rw [numbered_get] at e;obtain ⟨y,e0,rfl⟩:=Nc.mp e
  obtain ⟨u,e1,r1⟩:=(r.ext g).get e0;refine ⟨⟨us,u,keep ι' H' g,e1⟩,?_⟩
  rintro u2 H2 ⟨t,y2,rfl,hn,rfl,hy⟩
  have z:=hy us (keep ι' _ g);rw [e1] at z;cases z
  have g2:=S.growNew (o:=.tup [.int i,u]) hn;refine ⟨g2,S.new hn,.tup (S.fresh hn) d7 (.cons ?_ (.cons (r1.mono g2) .nil))⟩
  rw [Re];exact .int _
 ·intro i ι' h' H' g S _ hl
  rw [zp] at hl;exact ⟨us,keep ι' H' g,by rw [<- r.length];exact hl⟩
theorem zr {ι:Ix} {H:Hp} {a:Addr} {us:List V} (n:a∉ι.all) (h:Rd H a (.lst us)):∀ (ι':Ix) (H':Hp),Ext ι H ι' H'->SqL T.K H' a us:=λ_ _ g=>.inl (y8 g n h)
theorem Hb {ι:Ix} {H:Hp} {a:Addr} {us:List V} (n:a∉ι.all) (h:H a=some (.tup us)):∀ (ι':Ix) (H':Hp),Ext ι H ι' H'->SqT T.K H' a us:=λ_ _ g=>.of (g.keep _ _ n h)
theorem qE {K K':PySem.W.Frag} {H:Hp} {a:Addr} {us:List V} (e:K=K') (h:SqL K' H a us):SqL K H a us:=e▸h
theorem zt {σ:St} {H:Hp} {R:It->Hp->Prop} {ι:Ix} {h h1:AH} {en:En} {v:AV} {xs:List AV} {w:Option Nat} (hK:X.K=T.K) (S:Sim T ι h H) (er:ER T ι H en σ) (e:sa en h = .ok v h1) (hv:(v = .fl xs/\w=none)\/∃ n,v = .ref n/\h1[n]? = some (.lst xs)/\w=some n)
  (q:∀ ι' H' J,Grow ι H ι' H'->Sim T ι' h1 H'->iZ T J ι' H' xs w->R J H'):yf X.K (tE T E sa) σ H R:=by
 refine ⟨ι,h,en,S,er,?_⟩
 rw [e];intro ι1 H1 u g1 S1 r1
 rcases hv with ⟨rfl,rfl⟩ | ⟨n,rfl,hn,rfl⟩
 ·cases r1 with
  | fl n hr rs=>exact ⟨_,rfl,⟨_,qE hK (.inl hr)⟩,q ι1 H1 _ g1 S1 (hK▸zm (zr n hr) rs)⟩
  | kfl hr rs=>exact ⟨_,rfl,⟨_,qE hK (.inr hr)⟩,q ι1 H1 _ g1 S1 (hK▸zm (λ_ _ _=>.inr hr) rs)⟩
 ·cases r1 with
  | ref hr =>
   obtain ⟨u,e1,us,rfl,rs⟩:=S1.obj n _ _ hn hr;exact ⟨_,rfl,⟨_,.of e1⟩,q ι1 H1 _ g1 S1 (G6 hr)⟩
theorem Hc {σ:St} {H:Hp} {R:It->Hp->Prop} {ι:Ix} {h h1:AH} {en:En} {xs:List AV} (hK:X.K=T.K) (S:Sim T ι h H) (er:ER T ι H en σ) (e:sa en h = .ok (.tup xs) h1)
  (q:∀ ι' H' J,Grow ι H ι' H'->Sim T ι' h1 H'->iZ T J ι' H' xs none->R J H'):nj X.K (tE T E sa) σ H R:=by
 refine ⟨ι,h,en,S,er,?_⟩
 rw [e];intro ι1 H1 u g1 S1 r1
 cases r1 with
 | tup n hr rs=>exact ⟨_,rfl,⟨_,.of hr⟩,q ι1 H1 _ g1 S1 (hK▸G5 (Hb n hr) rs)⟩
theorem nK {y:Str} {py:Pos} (hK:X.K=T.K) (ha:aN T E X a sa):kW T X (.Name y py) a (cO sa) :=
 qD (PI.or (Dp ha) (PI.or (Dq ha) (FD ha))) λσ H R=>E6x λι h en S er q=>by
  unfold cO at q
  cases e:sa en h with
  | bad=>rw [e] at q;exact q.elim
  | ex c h1=>rw [e] at q;exact q.elim
  | ok v h1 =>
   rw [e] at q
   cases v with
   | fl xs=>exact .inl (zt hK S er e (.inl ⟨rfl,rfl⟩) q)
   | tup xs=>exact .inr (.inl (Hc hK S er e q))
   | str z =>
    refine .inr (.inr ⟨ι,h,en,S,er,?_⟩)
    rw [e];intro ι1 H1 u g1 S1 r1
    obtain ⟨rfl,_,o⟩:=eY r1;exact ⟨_,rfl,q ι1 H1 _ g1 S1 (G7 o)⟩
   | ref n =>
    dsimp only [Out.bind] at q
    cases e2:h1[n]? with
    | none=>rw [e2] at q;exact q.elim
    | some o =>
     rw [e2] at q
     cases o with
     | lst xs=>exact .inl (zt hK S er e (.inr ⟨n,rfl,e2,rfl⟩) q)
     | _=>exact q.elim
   | _=>exact q.elim
theorem zu {tg:Expr} {p:Pos} (hg:Gl X "range") (hm:X.mg "range" = none) (ha:aN T E X a sa) (hs:starEach [a] X.env=[(false,eval a X.env)]:=by rfl):kW T X tg (.Call (.Name "range" p) [a] [] pos) (kO sa) :=
 qD (Dt hg hm (ak ha ar hs) hs) λσ H R=>E6x λι h en S er q=>by
  unfold kO at q;refine ⟨ι,h,en,S,er,?_⟩
  unfold aj
  cases e:sa en h with
  | bad=>rw [e] at q;exact q
  | ex c h1=>rw [e] at q;exact q.elim
  | ok v h1 =>
   rw [e] at q;intro ι1 H1 u g1 S1 r1
   dsimp only [Out.bind] at q
   cases v with
   | int j =>
    dsimp only at q;split at q
    ·rename_i hx
     split at hx
     ·rename_i hb
      cases hx
      cases r1 with
      | cons r r' =>
       cases r'
       rw [bU r];exact ⟨j,rfl,by lia,by lia,q ι1 H1 _ g1 S1 Ha⟩
     ·cases hx
    ·exact q.elim
   | _=>exact q.elim
theorem Hd {p tp:Pos} {es:List Expr} {k:Nat} (hK:X.K=T.K) (hg:Gl X "enumerate") (hm:X.mg "enumerate" = none) (ha:aN T E X a sa) (hs:starEach [a] X.env=[(false,eval a X.env)]:=by rfl):kW T X (.Tuple es k tp) (.Call (.Name "enumerate" p) [a] [] pos) (Sm.iEnum sa) :=
 qD (Fy hg hm (ak ha ar hs) hs) λσ H R=>E6x λι h en S er q=>by
  unfold Sm.iEnum at q;refine ⟨ι,h,en,S,er,?_⟩
  unfold aj
  cases e:sa en h with
  | bad=>rw [e] at q;exact q
  | ex c h1=>rw [e] at q;exact q.elim
  | ok v h1 =>
   rw [e] at q;intro ι1 H1 u g1 S1 r1
   dsimp only [Out.bind] at q
   cases v with
   | fl xs =>
    cases r1 with
    | cons r r' =>
     cases r'
     cases r with
     | fl n hr rs=>exact ⟨_,rfl,⟨_,qE hK (.inl hr)⟩,q ι1 H1 _ g1 S1 (hK▸zq (zr n hr) rs)⟩
     | kfl hr rs=>exact ⟨_,rfl,⟨_,qE hK (.inr hr)⟩,q ι1 H1 _ g1 S1 (hK▸zq (λ_ _ _=>.inr hr) rs)⟩
   | _=>exact q.elim
theorem zv {α:Type} {xs:List α} {i:Nat} (h:i<xs.length):xs.drop i=xs[i]::xs.drop (i+1):=by simp
def He (g:TG) (tb:TS) (D:dy) (σ:St) (H1:Hp) (J:It):Prop:=∃ W:Nat->Nat->St->Hp->Prop,(∃ m,W 0 m σ H1)/\∀ i m σ H,W i m σ H->(J.stop i H/\D.nx σ H)\/(J.go i H/\∃ N:St->Hp->Prop,(∀ σ' H',N σ' H'->∃ m',m'<m/\W (i+1) m' σ' H')/\∀ x H',J.yld i H x H'->g x σ H' λσ' H'' => tb { D with nx:=N,ct:=N,bk:=D.nx } σ' H'')
theorem Hf {g:TG} {t:Tg} {J:It} {ι1:Ix} {h1:AH} {H1:Hp} {en:En} {σ:St} {D:dy} {w:Option Nat} {all ys:List AV}
  (hg2:∀ {ι:Ix} {h:AH} {H:Hp} {en e:En} {σ:St} {v:AV} {u:V} {Q:St->Hp->Prop},Sim T ι h H->ER T ι H en σ->RV T ι H v u->fD t v en=some e->(∀ σ',ER T ι H e σ'->Q σ' H)->g u σ H Q)
  (S1:Sim T ι1 h1 H1) (er:ER T ι1 H1 en σ) (IR:uy T J ι1 H1 ys (fu w all)) (q:PostS T ι1 H1 E (gO w all t s1 ys en h1) D):He g (tS T EN s1) D σ H1 J:=by
 refine ⟨λi m σ H=>m=ys.length-i/\i<=ys.length/\∃ ι' h' en',Grow ι1 H1 ι' H/\Sim T ι' h' H/\ER T ι' H en' σ/\PostS T ι' H E (gO w all t s1 (ys.drop i) en' h') D,
  ⟨ys.length,by simp,Nj _,ι1,h1,en,S1.refl,S1,er,q⟩,?_⟩
 rintro i m σ H ⟨rfl,hi,ι',h',en',g',S',er',q'⟩
 by_cases hl:i<ys.length
 ·rw [zv hl] at q'
  unfold gO at q'
  split at q'
  ·rename_i hlive
   obtain ⟨go,yld⟩:=IR.go i ι' h' H ys[i] g'.ext S' hlive (by simp [hl]);refine .inr ⟨go,λσ H=>∃ ι' h' en',Grow ι1 H1 ι' H/\Sim T ι' h' H/\ER T ι' H en' σ/\PostS T ι' H E (gO w all t s1 (ys.drop (i+1)) en' h') D,
    λσ' H' w' => ⟨ys.length-(i+1),by lia,rfl,hl,w'⟩,λx H' y=>?_⟩
   obtain ⟨g2,S2,r2⟩:=yld x H' y;split at q'
   ·rename_i e1 he1
    refine hg2 S2 (er'.mono g2) r2 he1 λσ' er2=>⟨ι',h',e1,S2,er2,?_⟩
    have q2:=PostS.shift q' g2
    cases e2:s1 e1 h' with
    | nx e3 h3=>rw [e2] at q2;exact λι3 H3 σ3 g3 S3 er3=>⟨ι3,h3,e3,g'.trans (g2.trans g3),S3,er3,q2.shift g3⟩
    | ct e3 h3=>rw [e2] at q2;exact λι3 H3 σ3 g3 S3 er3=>⟨ι3,h3,e3,g'.trans (g2.trans g3),S3,er3,q2.shift g3⟩
    | bk e3 h3=>rw [e2] at q2;exact q2
    | rt v h3=>rw [e2] at q2;exact q2
    | ex c e3 h3=>rw [e2] at q2;exact (show False from q2).elim
    | bad=>rw [e2] at q2;exact q2
   ·exact (show False from q').elim
  ·exact (show False from q').elim
 ·have ei:i=ys.length:=by lia
  subst ei;rw [List.drop_length] at q';unfold gO at q'
  split at q'
  ·rename_i hlive
   exact .inl ⟨IR.stop _ ι' h' H g'.ext S' hlive (MQ _),q' ι' H σ S'.refl S' er'⟩
  ·exact (show False from q').elim
theorem nM {tg iter:Expr} {it:SI} {t:Tg} (hc:X.calm=true) (hi:kW T X.nox tg iter it) (hg:qB T X.nox tg t) (hb:cV T EN X.nox sts s1) (hs:∀ x,foldedSetIterable iter X.nox.env x=pure x:=by intro _;rfl) :
  gL T E X (.For tg iter sts [] pos) (cX it t s1):=by
 obtain ⟨g,hg1,hg2⟩:=hg;refine iB (GO (Dv PassesOwn.never hc hi hg1 hb hs)) λD σ H=>E6x λι h en S er q=>⟨ι,h,en,S,er,?_⟩
 unfold cX at q
 cases e:it en h with
 | bad=>rw [e] at q;exact q
 | ex c h1=>rw [e] at q;exact q
 | ok p h1 =>
  obtain ⟨xs,w⟩:=p;rw [e] at q;intro ι1 H1 J g1 S1 IR
  exact Hf hg2 S1 (er.mono g1) IR (PostS.shift q g1)
theorem ER.comp {ι:Ix} {H:Hp} {en:En} {σ:St} {ys:List AV} {us:List V} {jf:List (Nat×Str)} (er:ER T ι H en σ) (r:RVs T ι H ys us):ER T ι H (ys.map some++(jf.map (·.1)).map λj=>(en[j]?).join) (fY (us.map some) jf σ):=by
 unfold fY;induction ys generalizing us with
 | nil =>
  cases r
  refine ⟨by simp,λi v e=>?_⟩
  simp only [Rc,O5,Nu] at e ⊢
  cases e1:jf[i]? with
  | none=>rw [e1] at e;cases e
  | some j =>
   rw [e1] at e;simp only [Option.map_some,Option.some.injEq] at e
   have e2:en[j.1]? = some (some v):=by
    cases e3:en[j.1]? with
    | none=>rw [e3] at e;cases e
    | some o=>rw [e3] at e;exact congrArg some e
   obtain ⟨u',e4,r'⟩:=er.2 j.1 v e2;exact ⟨u',by simp [e4],r'⟩
 | cons y ys ih =>
  cases r with
  | cons r rs =>
   obtain ⟨h1,h2⟩:=ih rs;refine ⟨congrArg Nat.succ h1,λi v e=>?_⟩
   cases i with
   | zero=>cases e;exact ⟨_,rfl,r⟩
   | succ i=>exact h2 i v e
def kY (T:Tb) (k:Nat) (g:TG) (cc' cc:SB) (ce' ce:SE):Prop:=∀ x,(∀ r h,cc' (some x::r) h = .bad)\/∃ ys:List AV,ys.length=k/\(∀ r h,cc' (some x::r) h=cc (ys.map some++r) h)/\(∀ r h,ce' (some x::r) h=ce (ys.map some++r) h) /\
 ∀ (ι:Ix) (H:Hp) (u:V),RV T ι H x u->∃ us,RVs T ι H ys us/\∀ (σ:St) (Q:St->Hp->Prop),Q (us.map some++σ) H->g u (List.replicate k none++σ) H Q
theorem zw {cc:SB} {ce:SE}:kY T 1 (lV 0) cc cc ce ce:=λx=>.inr ⟨[x],rfl,λ_ _=>rfl,λ_ _=>rfl,λ_ _ u r=>⟨[u],.cons r .nil,λ_ _ q=>q⟩⟩
structure CoS (T:Tb) (ι1:Ix) (H1:Hp) (en:En) (σ:St) (D:Addr) (ι':Ix) (h':AH) (vs:List AV) (ys:List V) (H2:Hp):Prop where
 hD:H2 D=some (.lst ys)
 g:Grow ι1 H1 ι' H2
 x:Ext ι1 H1 (ι'.hide D) H2
 S:Sim T (ι'.hide D) h' H2
 er:ER T (ι'.hide D) H2 en σ
 rv:RVs T (ι'.hide D) H2 vs ys
 nD:D∉ι'.refs
theorem zx {ι' ι5:Ix} {D:Addr} (e:ι5.priv=(ι'.hide D).priv):ι5=Ix.hide ⟨ι5.refs,ι'.priv⟩ D:=by
 cases ι5
 simp only at e
 subst e;rfl
theorem Hg {ι1 ι' ι5:Ix} {H1 H2 H5:Hp} {D:Addr} (g':Grow ι1 H1 ι' H2) (g:Grow (ι'.hide D) H2 ι5 H5):Grow ι1 H1 ⟨ι5.refs,ι'.priv⟩ H5:=by
 obtain ⟨n,en1,hn⟩:=g'.pre;obtain ⟨k,ek,hk⟩:=g.pre;refine ⟨⟨n++k,?_,λa ha=>?_⟩,g'.priv,λa o na ea=>g.keep a o (g'.outR na ea) (g'.keep a o na ea),λa ha=>g.live a ?_⟩
 ·show ι5.refs=_;rw [ek];show ι'.refs++k=_;rw [en1,PJ]
 ·rcases NH.mp ha with z | z
  ·exact hn a z
  ·have z2:=hk a z
   by_cases hr:a∈ι1.refs
   ·exact absurd z2 (g'.live a (Nh _ hr))
   ·cases e9:H1 a with
    | none=>rfl
    | some o=>rw [g'.keep a o hr e9] at z2;cases z2
 ·rcases NH.mp ha with z | z
  ·exact Nh _ (by show a∈ι'.refs;rw [en1];exact Nh _ z)
  ·exact Np _ (Nv _ (by rw [g'.priv];exact z))
section
variable {ι ι1 ι' ι5:Ix} {H H1 H2 H5:Hp} {h1 h' h5:AH} {en:En} {σ:St} {D:Addr} {vs:List AV} {ys:List V}
theorem CoS.skip (c:CoS T ι1 H1 en σ D ι' h' vs ys H2) (g:Grow (ι'.hide D) H2 ι5 H5) (S:Sim T ι5 h5 H5):CoS T ι1 H1 en σ D ⟨ι5.refs,ι'.priv⟩ h5 vs ys H5:=by
 have e:=zx g.priv;exact ⟨g.keep D _ c.nD c.hD,Hg c.g g,e▸c.x.trans g.ext,e▸S,e▸c.er.mono g,e▸c.rv.mono g,g.outR c.nD c.hD⟩
theorem CoS.poke {v:AV} {u:V} (c:CoS T ι1 H1 en σ D ι' h' vs ys H2) (hD:H1 D=none) (r:RV T (ι'.hide D) H2 v u):CoS T ι1 H1 en σ D ι' h' (vs++[v]) (ys++[u]) (upd H2 D (.lst (ys++[u]))):=by
 refine ⟨d7,⟨c.g.pre,c.g.priv,λa o na ea=>by rw [bK (fX ea hD)];exact c.g.keep a o na ea,λa ha=>?_⟩,c.x.trans Ext.poke,Sim.poke c.S c.nD,ER.ext c.er Ext.poke,RVs.ext Ext.poke (c.rv.append (.cons r .nil)),c.nD⟩
 by_cases z:a=D
 ·subst z;rw [d7];simp
 ·rw [bK z];exact c.g.live a ha
theorem CoS.push {v:AV} {u:V} (c:CoS T ι1 H1 en σ D ι' h' vs ys H2) (hD:H1 D=none) (g:Grow (ι'.hide D) H2 ι5 H5) (S:Sim T ι5 h5 H5) (r:RV T ι5 H5 v u):CoS T ι1 H1 en σ D ⟨ι5.refs,ι'.priv⟩ h5 (vs++[v]) (ys++[u]) (upd H5 D (.lst (ys++[u]))) :=
 (c.skip g S).poke hD ((zx g.priv)▸r)
theorem CoS.fin (c:CoS T ι1 H1 en σ D ι' h' vs ys H2) (g1:Grow ι H ι1 H1) (S1:Sim T ι1 h1 H1) (hD:H1 D=none):D∉ι'.all/\∀ n,ι'.refs=ι.refs++n->∀ a∈n++[D],H a=none:=by
 refine ⟨λz=>(NH.mp z).elim c.nD λz=>by rw [c.g.priv] at z;exact S1.plive D z hD,λn en1 a ha=>?_⟩
 obtain ⟨k,ek,hk⟩:=(g1.trans c.g).pre;have:n=k:=List.append_cancel_left (en1.symm.trans ek)
 subst this;rcases NH.mp ha with z | z
 ·exact hk a z
 ·have z':a=D:=by simpa using z
  subst z'
  cases e9:H a with
  | none=>rfl
  | some o =>
   by_cases hr:a∈ι.refs
   ·obtain ⟨k1,ek1,_⟩:=g1.pre
    exact absurd hD (S1.live a (Nh _ (by rw [ek1];exact Nh _ hr)))
   ·rw [g1.keep a o hr e9] at hD;cases hD
theorem CoS.start (er:ER T ι H en σ) (g1:Grow ι H ι1 H1) (S1:Sim T ι1 h1 H1) (hD:H1 D=none):CoS T ι1 H1 en σ D ι1 h1 [] [] (upd H1 D (.lst [])) :=
 ⟨d7,S1.growNew hD,Ext.hide hD,S1.hide hD,(er.mono g1).ext (Ext.hide hD),.nil,λz=>S1.fresh hD (Nh _ z)⟩
end
def uz (T:Tb) (ι:Ix) (H:Hp) (Q:VK) (o:Out (List AV)):Prop:=match o with
 | .ok ys h2=>∀ ι' H' D vs,Grow ι H ι' H'->Sim T (ι'.hide D) h2 H'->RVs T (ι'.hide D) H' ys vs->H' D=some (.lst vs)->D∉ι'.all->(∀ n,ι'.refs=ι.refs++n->∀ a∈n++[D],H a=none)->Q (.ref D) H'
 | _=>False
theorem Hi {k:Nat} {g:TG} {cc' cc:SB} {ce' ce:SE} {jf:List (Nat×Str)} {σ:St} {H H1:Hp} {Q:VK} {ι ι1:Ix} {h1:AH} {en:En} {xs all:List AV} {w:Option Nat} {J:It} (U:kY T k g cc' cc ce' ce) (er:ER T ι H en σ) (g1:Grow ι H ι1 H1) (S1:Sim T ι1 h1 H1)
  (IR:uy T J ι1 H1 xs (fu w all)) (q:uz T ι H Q (eh (jf.map (·.1)) en w all cc' ce' xs [] h1)):yM k g jf (tT T EN cc) (tE T EN ce) σ Q J H1:=by
 intro D hD;refine ⟨λi m ys H2=>m=xs.length-i/\i<=xs.length/\∃ ι' h' vs,CoS T ι1 H1 en σ D ι' h' vs ys H2/\uz T ι H Q (eh (jf.map (·.1)) en w all cc' ce' (xs.drop i) vs h'),⟨xs.length,rfl,Nj _,ι1,h1,[],CoS.start er g1 S1 hD,q⟩,?_⟩
 rintro i m ys H2 ⟨rfl,hi,ι',h',vs,c,q'⟩
 refine ⟨c.hD,?_⟩
 by_cases hl:i<xs.length
 ·rw [zv hl] at q'
  unfold eh at q'
  by_cases hs:fu w all h'=true/\vs.length<sizeLine
  ·rw [MW hs] at q'
   obtain ⟨go,yld⟩:=IR.go i _ h' H2 xs[i] c.x c.S hs.1 (by simp [hl]);refine .inr ⟨go,by rw [<- c.rv.length];exact hs.2,λx H3 y=>?_⟩
   obtain ⟨g3,S3,r3⟩:=yld x H3 y;rcases U xs[i] with z | ⟨zs,lz,z1,z2,z3⟩
   ·rw [z] at q';exact False.elim q'
   obtain ⟨us,rs,gq⟩:=z3 _ _ _ r3;have er3:=ER.comp (jf:=jf) (c.er.mono g3) rs;rw [z1] at q';refine ⟨us,by rw [<- rs.length];exact lz,gq _ _ ⟨rfl,rfl⟩,ι'.hide D,h',_,S3,er3,?_⟩
   cases ec:cc (zs.map some++(jf.map (·.1)).map λj=>(en[j]?).join) h' with
   | bad=>rw [ec] at q';exact q'
   | ex k h5=>rw [ec] at q';exact False.elim q'
   | ok bb h5 =>
    rw [ec] at q';intro ι5 H5 b5 g5 S5 r5
    subst r5
    cases bb with
    | false =>
     rw [MX Ni];exact ⟨xs.length-(i+1),by lia,rfl,hl,_,h5,vs,c.skip (g3.trans g5) S5,q'⟩
    | true =>
     rw [MW rfl];refine ⟨ι5,h5,_,S5,er3.mono g5,?_⟩
     dsimp only at q';rw [z2] at q'
     cases ee:ce (zs.map some++(jf.map (·.1)).map λj=>(en[j]?).join) h5 with
     | bad=>rw [ee] at q';exact q'
     | ex k h6=>rw [ee] at q';exact False.elim q'
     | ok v h6 =>
      rw [ee] at q';intro ι6 H6 u6 g6 S6 r6
      have g36:=(g3.trans g5).trans g6;exact ⟨g36.keep D _ c.nD c.hD,xs.length-(i+1),by lia,rfl,hl,_,h6,vs++[v],c.push hD g36 S6 r6,q'⟩
  ·rw [MX hs] at q';exact False.elim q'
 ·have ei:i=xs.length:=by lia
  subst ei;rw [List.drop_length] at q';unfold eh at q'
  by_cases hs:fu w all h'=true
  ·rw [MW hs] at q'
   have f:=c.fin g1 S1 hD;exact .inl ⟨IR.stop _ _ h' H2 c.x c.S hs (MQ _),q' ι' H2 D ys (g1.trans c.g) c.S c.rv c.hD f.1 f.2⟩
  ·rw [MX hs] at q';exact False.elim q'
end
end Sm
namespace Sm
open PySem PySem.Spec L2
section
variable {T:Tb} {E:St->XK} {X:Cx} {pos px:Pos} {iter elt:Expr} {ifs:List Expr} {scope:Scope} {x₁:Str} {jf:List (Nat×Str)} {it:SI} {cc:SB} {ce:SE}
theorem Hj {ι:Ix} {H:Hp} {Q:VK} {F:XK} {o:Out (List AV)} (q:Post T ι H F (RV T) (match o with | .ok ys h2=>.ok (.fl ys) h2 | _=>.bad) Q):uz T ι H Q o:=by
 cases o with
 | bad=>exact q
 | ex c h1=>exact q.elim
 | ok ys h2=>exact λι' H' D vs g S' r hD nD _=>q ι' H' _ g S'.show (.fl nD (.inl hD) (r.ext Ext.show))
theorem zy {k:Nat} {g:TG} {cc':SB} {ce':SE} {σ:St} {H:Hp} {Q:VK} (U:kY T k g cc' cc ce' ce) (q:tE T E (fE (jf.map (·.1)) it cc' ce') σ H Q):qg k g jf (tI T it) (tT T EN cc) (tE T EN ce) σ H Q:=by
 obtain ⟨ι,h,en,S,er,q⟩:=q;refine ⟨ι,h,en,S,er,?_⟩
 unfold fE at q
 cases e:it en h with
 | bad=>rw [e] at q;exact q
 | ex c h1=>rw [e] at q;exact q.elim
 | ok p h1=>rw [e] at q;exact λι1 H1 J g1 S1 IR=>Hi U er g1 S1 IR (Hj q)
theorem qF:jn X [] (tT T E cw):=λpins s σ H Q I ⟨ι,h,en,S,er,q⟩=>FG pins s σ H Q I (q.now S rfl)
theorem Hk {c:Expr} (hc:gK T E X c cc):jn X [c] (tT T E cc):=FH hc
theorem qG (C:CompOk X [x₁] jf scope) (hcalm:X.calm=true) (hi:kW T X (.Name x₁ px) iter it) (hc:∀ pins cl s H fp,jn (dD X pins [x₁] jf scope cl s H fp) ifs (tT T EN cc)) (he:∀ pins cl s H fp,aN T EN (dD X pins [x₁] jf scope cl s H fp) elt ce)
  (hs:∀ x,foldedSetIterable iter X.env x=pure x:=by intro _;rfl):aN T E X (.ListComp elt [⟨.Name x₁ px,iter,ifs,0⟩] scope pos) (fE (jf.map (·.1)) it cc ce) :=
 cy (FJ hcalm (λ_ _ _ _ _=>C.pg 0 rfl (.head _)) hi hc he C hs) λ_ _ _ q=>zy zw q
theorem Hl {y:Str} {py spos:Pos} {i:Nat} (C:CompOk X [x₁] jf scope) (hcalm:X.calm=true) (hi:kW T X (.Name x₁ px) iter it) (hc:∀ pins cl s H fp,jn (dD X pins [x₁] jf scope cl s H fp) ifs (tT T EN cc)) (he:∀ pins cl s H fp,aN T EN (dD X pins [x₁] jf scope cl s H fp) elt ce)
  (hNX:X.N.Nodup) (hi':X.N[i]? = some y:=by rfl) (hy:X.env.scope.names.lookup y=some .local:=by rfl) (hsw:swapsWith (.ListComp elt [⟨.Name x₁ px,iter,ifs,0⟩] scope pos) (some (.Name y py)) spos.line X.env=pure true:=by rfl) (hs:∀ x,foldedSetIterable iter X.env x=pure x:=by intro _;rfl) :
  gL T E X (.Assign [.Name y py] (.ListComp elt [⟨.Name x₁ px,iter,ifs,0⟩] scope pos) spos) (az i (fE (jf.map (·.1)) it cc ce)) :=
 iB (FK hcalm (λ_ _ _ _ _=>C.pg 0 rfl (.head _)) hi hc he C hNX hi' hy hsw hs) λD σ H q=>zy zw (zh q)
end
def iE (T:Tb) (F:Fn):Sp:=λvs H Q E=>∃ ι h args,Sim T ι h H/\RVs T ι H args vs/\Post T ι H E (RV T) (F args h) Q
def Hm (F:Fn) (n:Nat):Prop:=∀ args h,args.length≠n->F args h = .bad
theorem zA (n m:Nat) (b:SS):Hm (aE n m b) n:=λargs h hl=>by
 unfold aE;rw [MX hl]
theorem qH {P:Program} {w:World} {K:PySem.W.Frag} {mg:Str->Option Value} {base:Heap} {T:Tb} {x qual:Str} {st:Stmt} {f:Addr} {fd:FuncData} {N ps:List Str} {k:Nat} {b:SS} (F:Fun K x qual st f fd) (hK:K=T.K) (S:aq N ps (aR st))
  (hbody:∀ (cdv:Value) (A:Around) (outer:List Env) (s:Shared) (H:Hp) (E:XK),Room k (A.deeper (PyProof.Rows.envOfC qual (aR st) s.heap.objs.size f cdv))->CA T (λ_=>E) (cL (dA P w) P w K mg base N qual (aR st) f cdv A outer s H E) ->
   cV T (λ_=>E) (cL (dA P w) P w K mg base N qual (aR st) f cdv A outer s H E) (iS st) b):FnOk P w K mg base (dA P w) (k+1) f fd ps (iE T (aE ps.length N.length b)):=by
 refine F.okE S (λvs H Q E h=>?_) (λcdv A outer s H vs Q E hr h=>?_)
 ·obtain ⟨ι,h,args,_,r,q⟩:=h
  by_cases hl:args.length=ps.length
  ·rw [<- hl,r.length]
  ·rw [zA _ _ _ args h hl] at q;exact q.elim
 ·obtain ⟨ι,h,args,Si,r,q⟩:=h
  refine ⟨_,hbody cdv A outer s H E hr ⟨hK,Gf⟩,ι,h,args.map some++List.replicate (N.length-ps.length) none,Si,?_,?_⟩
  ·by_cases hl:args.length=ps.length
   ·refine ⟨by simp [L2.start,r.length,<- hl],λi v e=>?_⟩
    unfold L2.start;by_cases hi:i<args.length
    ·rw [MT (by simpa using hi),Nu] at e
     rw [MT (by simpa [<- r.length] using hi),Nu];obtain ⟨x,e1,e2⟩:=Nc.mp e
     cases e2
     obtain ⟨u,e3,r3⟩:=r.get e1;exact ⟨u,by rw [e3];rfl,r3⟩
    ·rw [Nk (by simpa using hi),Oc] at e
     split at e
     ·cases e
     ·cases e
   ·rw [zA _ _ _ args h hl] at q;exact q.elim
  ·unfold aE at q
   split at q
   ·split at q
    ·rename_i e1 h1 he
     rw [he];exact λι' H' σ' g S' er=>q ι' H' _ g S' .non
    ·rename_i v h1 he
     rw [he];exact q
    ·rename_i c e1 h1 he
     rw [he];exact λι' H' σ' C g S' er ec=>q ι' H' C g S' ec
    ·exact q.elim
   ·exact q.elim
structure GF (P:Program) (w:World) (T:Tb) (mg:Str->Option Value) (base:Heap) (k:Nat) (x:Str) (F:Fn):Prop where
 ex:∃ f fd ps,mg x=some (.ref f)/\PySem.W.keepIn T.K (.ref f)=true/\Binds T.K fd ps []/\FnOk P w T.K mg base (dA P w) k f fd ps (iE T F)
structure GM (P:Program) (w:World) (T:Tb) (mg:Str->Option Value) (base:Heap) (k:Nat) (c:Nat) (m:Str) (F:Fn):Prop where
 ex:∃ C f fd ps,T.cls c=some C/\Cls T.K C/\iy T.K C m f/\Binds T.K fd ps []/\FnOk P w T.K mg base (dA P w) k f fd ps (iE T F)
 no:m∉T.fields c
section
variable {T:Tb} {E:St->XK} {X:Cx} {pos p apos:Pos} {e o a:Expr} {es:List Expr} {x m:Str} {F:Fn} {k c:Nat} {as:SL} {so sa:SE}
theorem aY (hK:X.K=T.K) (C:CA T E X) (G:GF X.prog X.w T X.mg X.base k x F) (hr:Room k X.A) (hg:Gl X x) (ha:gh T E X (e::es) as) (hdb:(x == ("__debug__" : Str))=false:=by decide)
  (he:starEach (e::es) X.env=(false,eval e X.env)::starEach es X.env:=by rfl) (hpl:(backTo pos (starEach es X.env)).any (·.1)=false:=by rfl):aN T E X (.Call (.Name x p) (e::es) [] pos) (aC F as):=by
 obtain ⟨f,fd,ps,h1,h2,h3,h4⟩:=G.ex;refine cy (Gh (Ex:=E) (dvs:=[]) (hK▸h4) hr hg h1 (hK▸h2) (hK▸h3) .nil C.pass ha hdb he hpl) λσ H Q=>E6x λι h en S er q=>⟨ι,h,en,S,er,q.bind λxs h1 ι1 H1 us g1 S1 r1 q1=>?_⟩
 rw [O4];exact ⟨ι1,h1,xs,S1,r1,q1⟩
theorem zB {C:Addr} {σ:St} {H:Hp} {Q:VK} (hc:T.cls c=some C) (no:m∉T.fields c) (q:tE T E (aD c F so as) σ H Q):yW C m (iE T F) [] E (tE T E so) (tA T E as) σ H Q:=by
 obtain ⟨ι,h,en,S,er,q⟩:=q;refine ⟨ι,h,en,S,er,q.bind λx h1 ι1 H1 u g1 S1 r1 q1=>?_⟩
 split at q1
 ·rename_i n
  split at q1
  ·rename_i c' fs hn
   split at q1
   ·rename_i ec
    subst ec
    cases r1 with
    | @ref _ a hr =>
     obtain ⟨o,e1,C',dx,fus,hC,rfl,nd,hw,hl,_⟩:=S1.obj n _ a hn hr;rw [hc] at hC;cases hC
     refine ⟨a,dx,fus,rfl,e1,?_,ι1,h1,en,S1,er.mono g1,q1.bind λxs h2 ι2 H2 us g2 S2 r2 q2=>?_⟩
     ·cases e:fus.lookup m with
      | none=>rfl
      | some v =>
       have:=NY e;exact absurd (hw _ this) no
     ·rw [O4]
      exact ⟨ι2,h2,.ref n::xs,S2,.cons (.ref (g2.at hr)) r2,q2⟩
   ·exact q1.elim
  ·exact q1.elim
 ·exact q1.elim
theorem aL {pl:Sem Bool} (hK:X.K=T.K) (CC:CA T E X) (G:GM X.prog X.w T X.mg X.base k c m F) (hr:Room k X.A) (ho:aN T E X o so) (ha:gh T E X (e::es) as)
  (hst:starEach (e::es) X.env=(false,eval e X.env)::starEach es X.env:=by rfl) (hpl:(backTo pos (starEach es X.env)).any (·.1)=false:=by rfl)
  (ht:eval (.Call (.Attribute o m apos) (e::es) [] pos) X.env=(do
   let ov <- eval o X.env
   standAt apos.atName
   let (f,first) <- holding [ov] (getMethod ov m pl)
   callWith pos f first (backTo pos (starEach (e::es) X.env)) (backToKw pos (keywordEach [] X.env))):=by rfl):aN T E X (.Call (.Attribute o m apos) (e::es) [] pos) (aD c F so as):=by
 obtain ⟨C,f,fd,ps,h1,h2,h3,h4,h5⟩:=G.ex;exact cy (Gi (Ex:=E) (dvs:=[]) (pl:=pl) ho (hK▸h2) (hK▸h3) (hK▸h5) hr (hK▸h4) .nil CC.pass ha hst hpl ht) λσ H Q q=>zB h1 G.no q
theorem dI {pl:Sem Bool} (hK:X.K=T.K) (CC:CA T E X) (G:GM X.prog X.w T X.mg X.base k c m F) (hr:Room k X.A) (ho:aN T E X o so)
  (ht:eval (.Call (.Attribute o m apos) [] [] pos) X.env=(do
   let ov <- eval o X.env
   standAt apos.atName
   let (f,first) <- holding [ov] (getMethod ov m pl)
   callWith pos f first (backTo pos (starEach [] X.env)) (backToKw pos (keywordEach [] X.env))):=by rfl):aN T E X (.Call (.Attribute o m apos) [] [] pos) (aD c F so ag):=by
 obtain ⟨C,f,fd,ps,h1,h2,h3,h4,h5⟩:=G.ex;intro pins s σ H Q I q;have q' := zB (C:=C) h1 G.no q;refine Qr (pl:=pl) (thn (ho pins s σ H _ I q') λu s1 Zz=>?_) ht;obtain ⟨x,H1,I1,rx,a,dx,fs,ex,ea,l,q⟩:=Zz
 subst ex;obtain rfl:u=Value.ref a:=rx
 refine yn I1 ea (hK▸h2) (hK▸h3) l ?_
 obtain ⟨ι,h,en,S,er,q⟩:=q;refine QS (first:=[.ref a]) I1.kIn (hK▸h3.kp) (qj (dvs:=[]) (us:=[.ref a]) (vs:=[.ref a]) (hK▸h5) hr (hK▸h4) .nil CC.pass I1 (.cons rfl .nil) (q.now S .nil))
structure CF (T:Tb) (c:Nat):Prop where
 ex:∃ C,T.cls c=some C/\Cls T.K C/\∀ f∈T.fields c,NoAttr T.K C f
structure GK (P:Program) (w:World) (T:Tb) (mg:Str->Option Value) (base:Heap) (k:Nat) (c:Nat) (x:Str) (F:Fn):Prop where
 ex:∃ C f fd ps,T.cls c=some C/\mg x=some (.ref C)/\Mk T.K C f/\Binds T.K fd ps []/\FnOk P w T.K mg base (dA P w) k f fd ps (iE T F)
theorem Hn {CX:gg} {C f:Addr} {fd:FuncData} {ps:List Str} {sp:Sp} {dvs:List V} {ds:List Value} {pins:List (Addr×Obj)} {σ:St} {H:Hp} {s:Shared} {Q:VK} {us:List Value} {vs:List V} (M:Mk X.K C f) (F:FnOk X.prog X.w X.K X.mg X.base CX k f fd ps sp) (hr:Room (k+1) X.A) (hb:Binds X.K fd ps ds) (hd:Vals dvs ds)
  (hx:kM CX X E) (I:L2.Inv X pins σ H s) (r:Vals vs us)
  (h:∀ x dx,H x=none->H dx=none->dx≠x->sp (.ref x::(vs++dvs)) (upd (upd H dx (.own x)) x (.ins C dx [])) (λv H2=>v = .non/\Q (.ref x) H2) (E σ)) :
  wpAny (model X.prog X.w) X.A (call (.ref C) us) (EP X pins σ Q) X.xe s:=by
 have hq:=h (s.heap.objs.size+1) s.heap.objs.size (I.hok.fresh (PH _)) (I.hok.fresh (MQ _)) (Nt (Nat.lt_succ_self _));have I2:=Inv.made (C:=C) I;have r2:Vals (V.ref (s.heap.objs.size+1)::(vs++dvs)) (Value.ref (s.heap.objs.size+1)::(us++ds)):=.cons rfl (r.append hd);have hl:(Value.ref (s.heap.objs.size+1)::us++ds).length=ps.length:=by
  have e:=r2.length;rw [F.len _ _ _ _ hq] at e;exact e.symm
 refine wpAny_call (Ea (f:=f) I.kIn M.makes M.init (beq_iff_eq.mp M.fn) (Qk (F.run _ X.stack _ _ ⟨Value.ref (s.heap.objs.size+1)::us,[]⟩ (Value.ref (s.heap.objs.size+1)::(us++ds)) _ _ (E σ) (hr.make C us [])
  (I2.env0.make C us []) (hb _ (Value.ref (s.heap.objs.size+1)::us) I2.kIn hl) r2 hq) λr s' hq' => ?_))
 cases r with
 | error e=>exact hx pins σ _ _ e s' I2 hq'
 | ok fl =>
  cases fl with
  | ret u =>
   obtain ⟨v,H',I3,rv,ev,q3⟩:=I2.after hq';subst ev;exact ⟨rv,⟨V.ref (s.heap.objs.size+1),H',I3,rfl,q3⟩⟩
  | next=>exact False.elim hq'
  | brk=>exact False.elim hq'
  | cont=>exact False.elim hq'
theorem Hq {C:Addr} {xs:List AV} {us:List V} {H:Hp} {Q:VK} {ι:Ix} {h:AH} {E:XK} {n:Nat} (hc:T.cls c=some C) (hn:(T.fields c).length=n) (S:Sim T ι h H) (r:RVs T ι H xs us)
  (q:Post T ι H E (RV T) (match F (.ref h.length::xs) (h++[.ins c (List.replicate n none)]) with | .ok .non h2=>Out.ok (AV.ref h.length) h2 | .ex c h2=>.ex c h2 | _=>.bad) Q) :
  ∀ x dx,H x=none->H dx=none->dx≠x->iE T F (.ref x::us) (upd (upd H dx (.own x)) x (.ins C dx [])) (λv H2=>v = .non/\Q (.ref x) H2) E:=by
 intro x dx nx ndx ne;have nx':(upd H dx (.own x)) x=none:=by rw [bK (Ne.symm ne)];exact nx
 have S1:=S.new (o:=.own x) ndx;have g1:=S.growNew (o:=.own x) ndx;have g2:=S1.growAdd (u:=.ins C dx []) nx';have S2:Sim T (ι.add x) (h++[.ins c (List.replicate n none)]) (upd (upd H dx (.own x)) x (.ins C dx [])):=S1.add nx' ⟨C,dx,[],hc,rfl,by simp,by simp,by simp [hn],λi v e=>by
  rw [Oc] at e;split at e
  ·cases e
  ·cases e⟩
 refine ⟨ι.add x,_,.ref h.length::xs,S2,.cons (.ref S.addAt) (r.mono (g1.trans g2)),?_⟩
 have q2:=q.shift (g1.trans g2)
 cases e:F (.ref h.length::xs) (h++[.ins c (List.replicate n none)]) with
 | bad=>rw [e] at q2;exact q2
 | ex c' h2=>rw [e] at q2;exact q2
 | ok v h2 =>
  rw [e] at q2
  cases v with
  | non=>exact λι' H' u g S' r' => ⟨qt r',q2 ι' H' _ g S' (.ref (g.at S.addAt))⟩
  | _=>exact (show False from q2).elim
theorem uA {n:Nat} (hK:X.K=T.K) (CC:CA T E X) (G:GK X.prog X.w T X.mg X.base k c x F) (hr:Room (k+1) X.A) (hg:Gl X x) (hn:(T.fields c).length=n:=by rfl) (hdb:(x == ("__debug__" : Str))=false:=by decide):aN T E X (.Call (.Name x p) [] [] pos) (jw c n F ag):=by
 obtain ⟨C,f,fd,ps,h1,h2,h3,h4,h5⟩:=G.ex;intro pins s σ H Q I ⟨ι,h,en,S,er,q⟩;refine Pb (lT I hg h2 ?_ hdb)
 have M:Mk X.K C f:=hK▸h3;exact QS I.kIn M.kp (Hn (us:=[]) (vs:=[]) (dvs:=[]) M (hK▸h5) hr (hK▸h4) .nil CC.pass I .nil (Hq h1 hn S .nil q))
theorem bz {i:Nat} {f:Str} (hK:X.K=T.K) (CFc:CF T c) (ho:aN T E X o so) (hf:(T.fields c)[i]? = some f:=by rfl) (hb:attributeBase o f X.env (eval o X.env)=eval o X.env:=by rfl):aN T E X (.Attribute o f pos) (Sm.sFld c i so):=by
 obtain ⟨C,hC,hcl,hna⟩:=CFc.ex;refine cy (Ef ho hb) λσ H Q=>E6x λι h en S er q=>⟨ι,h,en,S,er,q.bind λx h1 ι1 H1 u g1 S1 r1 q1=>?_⟩
 split at q1
 ·rename_i n
  split at q1
  ·rename_i c' fs hn
   split at q1
   ·rename_i ec
    subst ec;split at q1
    ·rename_i v hv
     cases r1 with
     | @ref _ a hr =>
      obtain ⟨o,e1,C',dx,fus,hC',rfl,nd,hw,hl,hr2⟩:=S1.obj n _ a hn hr;rw [hC] at hC';cases hC'
      obtain ⟨f',u,e2,e3,r3⟩:=hr2 i v hv;rw [hf] at e2;cases e2
      exact ⟨a,_,dx,fus,u,rfl,e1,hK▸hcl,hK▸hna f (Nq hf),e3,q1.now S1 r3⟩
    ·exact q1.elim
   ·exact q1.elim
  ·exact q1.elim
 ·exact q1.elim
theorem zC (f:Str) (v:V):∀ {fs:List (Str×V)},(fs.map (·.1)).Nodup->((bQ f v fs).map (·.1)).Nodup/\∀ g,g∈(bQ f v fs).map (·.1)->g=f\/g∈fs.map (·.1)
 | [],_=>by simp [bQ]
 | (g,x)::r,n=>by
  obtain ⟨n1,n2⟩:=NO.mp (show (g::r.map (·.1)).Nodup from n);unfold bQ;split
  ·rename_i e
   subst e;exact ⟨n,λk hk=>.inr hk⟩
  ·rename_i e
   obtain ⟨h1,h2⟩:=zC f v (fs:=r) n2;refine ⟨NO.mpr ⟨λz=>?_,h1⟩,λk hk=>?_⟩
   ·rcases h2 g z with z | z
    ·exact e z
    ·exact n1 z
   ·rcases Nd.mp hk with z | z
    ·exact .inr (by rw [z];simp)
    ·rcases h2 k z with z | z
     ·exact .inl z
     ·exact .inr (Nv _ z)
theorem zD:∀ {l m:List Str},l.Nodup->(∀ x∈l,x∈m)->l.length<=m.length
 | [],m,_,_=>Nj _
 | x::l,m,n,h=>by
  obtain ⟨n1,n2⟩:=NO.mp n;have hx:=h x (by simp);have:=zD (l:=l) (m:=m.erase x) n2 λy hy=>by
   have ne:y≠x:=λz=>n1 (z▸hy)
   exact (List.mem_erase_of_ne ne).mpr (h y (by simp [hy]))
  rw [List.length_erase_of_mem hx] at this;have:0<m.length:=List.length_pos_of_mem hx
  simp only [NL]
  lia
theorem ie {i:Nat} {f:Str} {p':Pos} (hK:X.K=T.K) (CFc:CF T c) (ho:aN T E X o so) (ha:aN T E X a sa) (hf:(T.fields c)[i]? = some f:=by rfl) (hs:swapsWith a (some (.Attribute o f p')) pos.line X.env=pure false:=by rfl) :
  gL T E X (.Assign [.Attribute o f p'] a pos) (gP c i so sa):=by
 obtain ⟨C,hC,hcl,hna⟩:=CFc.ex;refine iB (Eg ho ha hs) λD σ H=>E6x λι h en S er q=>⟨ι,h,en,S,er,q.go er λy h1 ι1 H1 v g1 S1 r1 q1=>⟨ι1,h1,en,S1,er.mono g1,q1.go (er.mono g1) λx h2 ι2 H2 u g2 S2 r2 q2=>?_⟩⟩
 split at q2
 ·rename_i n
  split at q2
  ·rename_i c' fs hn
   split at q2
   ·rename_i ec
    subst ec
    cases r2 with
    | @ref _ a hr =>
     obtain ⟨o,e1,C',dx,fus,hC',rfl,nd,hw,hl,hr2⟩:=S2.obj n _ a hn hr;rw [hC] at hC';cases hC'
     have hmem:f∈T.fields c' := Nq hf;have hlen:fus.length<1000:=by
      have:=zD nd (m:=T.fields c') (λx hx=>by
       obtain ⟨p,hp,rfl⟩:=OI.mp hx;exact hw p hp)
      have:=T.few c';rw [M0] at *
      lia
     obtain ⟨k1,k2⟩:=zC f v nd;have g3:=S2.growSet (u:=.ins C dx (bQ f v fus)) hr;refine ⟨a,C,dx,fus,rfl,e1,hK▸hcl,hK▸hna f hmem,hlen,q2 ι2 _ σ g3 (S2.set hr ⟨C,dx,bQ f v fus,hC,rfl,k1,λp hp=>?_,by simp [hl],λj w hj=>?_⟩) (er.mono (g1.trans (g2.trans g3)))⟩
     ·rcases k2 p.1 (OI.mpr ⟨p,hp,rfl⟩) with z | z
      ·rw [z];exact hmem
      ·obtain ⟨p',hp',e⟩:=OI.mp z
       rw [<- e];exact hw p' hp'
     ·by_cases hji:j=i
      ·subst hji
       have hjl:j<fs.length:=by
        have:=(MP.mp hj).1;simpa using this
       rw [MY hjl] at hj
       cases hj
       exact ⟨f,v,hf,by rw [pX,MW rfl],r1.mono (g2.trans g3)⟩
      ·rw [MS (Ne.symm hji)] at hj
       obtain ⟨f',u,e2,e3,r3⟩:=hr2 j w hj;have ne:f'≠f:=λz=>hji (pQ (T.nd c') e2 (z▸hf))
       exact ⟨f',u,e2,by rw [pX,MX ne];exact e3,r3.mono g3⟩
   ·exact (show False from q2).elim
  ·exact (show False from q2).elim
 ·exact (show False from q2).elim
end
theorem qI {T:Tb} {ι:Ix} {H:Hp} {k:aU} {u:V} (r:RV T ι H (kA k) u):u=kV k:=by
 cases k with
 | inl i=>exact bU r
 | inr x=>exact (eY r).1
theorem nN {k j:aU} (e:kA k=kA j):k=j:=by
 cases k<;>cases j<;>simp [kA] at e<;>simp [e]
theorem uB:∀ {ks js:List aU},ks.map kA=js.map kA->ks=js
 | [],[],_=>rfl
 | [],_::_,e=>by simp at e
 | _::_,[],e=>by simp at e
 | k::ks,j::js,e=>by
  simp only [Ny,List.cons.injEq] at e
  rw [nN e.1,uB e.2]
theorem zE {T:Tb} {ι:Ix} {H:Hp}:∀ {ks:List aU} {us:List V},RVs T ι H (ks.map kA) us->us=ks.map kV
 | [],_,.nil=>rfl
 | k::ks,_,.cons r rs=>by rw [qI r,zE rs];rfl
theorem qJ {v:AV} {k:aU} (e:keyOf? v=some k):v=kA k:=by
 unfold keyOf? at e
 split at e<;>cases e<;>rfl
theorem qK:∀ {vs:List AV} {ks:List aU},keysOf? vs=some ks->vs=ks.map kA
 | [],_,e=>by cases e;rfl
 | v::vs,ks,e=>by
  unfold keysOf? at e
  split at e
  ·rename_i k ks' e1 e2
   cases e
   rw [qJ e1,qK e2];rfl
  ·cases e
theorem nO {κ:Type} [DecidableEq κ] {T:Tb} {ι:Ix} {H:Hp} {f:κ->AV} (hf:∀ {a b},f a=f b->a=b) {k:κ}:∀ {kvs:List (AV×AV)} {kus:List (κ×V)},Paired (λ(p:AV×AV) (q:κ×V)=>p.1=f q.1/\RV T ι H p.2 q.2) kvs kus ->
  (bD kvs (f k)=none/\bZ kus k=none)\/∃ v u,bD kvs (f k)=some v/\bZ kus k=some u/\RV T ι H v u
 | _,_,.nil=>.inl ⟨rfl,rfl⟩
 | (a,v)::kvs,(j,u)::kus,.cons ⟨e,r⟩ rs=>by
  by_cases h:j=k
  ·subst h
   replace e:a=f j:=e
   subst e;exact .inr ⟨v,u,by simp [bD],p8 rfl,r⟩
  ·have h' : ¬ a=f k:=λz=>h (hf (e.symm.trans z))
   rcases nO hf rs (k:=k) with ⟨h1,h2⟩ | ⟨v',u',h1,h2,h3⟩
   ·refine .inl ⟨?_,by rw [nA h];exact h2⟩
    unfold bD at h1 ⊢
    rw [NK,Nl h'];exact h1
   ·refine .inr ⟨v',u',?_,by rw [nA h];exact h2,h3⟩
    unfold bD at h1 ⊢
    rw [NK,Nl h'];exact h1
theorem uC {kvs:List (AV×AV)} {k:AV}:(kvs.any λp=>decide (p.1=k))=(bD kvs k).isSome:=by
 induction kvs with
 | nil=>rfl
 | cons p r ih =>
  unfold bD at ih ⊢
  rw [Ob,NK,ih]
  cases h:decide (p.1=k)<;>simp
theorem zF {κ:Type} [DecidableEq κ] {T:Tb} {ι:Ix} {H:Hp} {f:κ->AV} (hf:∀ {a b},f a=f b->a=b) {k:κ} {v:AV} {u:V} (rv:RV T ι H v u) {kvs:List (AV×AV)} {kus:List (κ×V)} (r:Paired (λ(p:AV×AV) (q:κ×V)=>p.1=f q.1/\RV T ι H p.2 q.2) kvs kus) :
  Paired (λ(p:AV×AV) (q:κ×V)=>p.1=f q.1/\RV T ι H p.2 q.2) (eX kvs (f k) v) (cG kus k u):=by
 have e:(kvs.any λp=>decide (p.1=f k))=kus.any λkv=>decide (kv.1=k):=by
  rw [uC,qd];rcases nO hf r (k:=k) with ⟨h1,h2⟩ | ⟨v',u',h1,h2,h3⟩
  ·rw [h1,h2];rfl
  ·rw [h1,h2];rfl
 unfold eX cG;rw [e];by_cases h:(kus.any λkv=>decide (kv.1=k))=true
 ·rw [MW h,MW h]
  clear e h;induction r with
  | nil=>exact .nil
  | cons p rs ih =>
   rename_i a b l1 l2;refine .cons ?_ ih
   obtain ⟨e1,r1⟩:=p;dsimp only;by_cases hk:b.1=k
   ·rw [MW hk,MW (by rw [e1,hk])]
    exact ⟨e1,rv⟩
   ·rw [MX hk,MX (λz=>hk (hf (e1.symm.trans z)))]
    exact ⟨e1,r1⟩
 ·rw [MX h,MX h]
  have app:∀ {l1:List (AV×AV)} {l2:List (κ×V)},Paired (λ(p:AV×AV) (q:κ×V)=>p.1=f q.1/\RV T ι H p.2 q.2) l1 l2->Paired (λ(p:AV×AV) (q:κ×V)=>p.1=f q.1/\RV T ι H p.2 q.2) (l1++[(f k,v)]) (l2++[(k,u)]):=λz=>by
   induction z with
   | nil=>exact .cons ⟨rfl,rv⟩ .nil
   | cons p _ ih=>exact .cons p ih
  exact app r
section
variable {T:Tb} {ι:Ix} {h:AH} {H:Hp}
theorem nP {xs:List AV} {u:V} {ks:List aU} (r:RV T ι H (.tup xs) u) (e:keysOf? xs=some ks):∃ b,u = .ref b/\KTup H b ks:=by
 have:=qK e;subst this
 cases r with
 | tup n q r=>exact ⟨_,rfl,.of (by rw [<- zE r];exact q)⟩
theorem qL {n:Nat} {t:Bool} {kvs:List (AV×AV)} {y:AV} {a:Addr} {w:V} (S:Sim T ι h H) (hn:h[n]? = some (.dct t kvs)) (hr:ι.refs[n]? = some a) (ry:RV T ι H y w) (hk:d0 t y=true) :
  ∃ o,DGet H a w o/\((bD kvs y=none/\o=none)\/∃ v u,bD kvs y=some v/\o=some u/\RV T ι H v u):=by
 obtain ⟨ob,e1,r⟩:=S.obj n _ a hn hr
 cases t with
 | false =>
  obtain ⟨kus,rfl,r⟩:=r;have hk':(keyOf? y).isSome=true:=hk;obtain ⟨k,ek⟩:=Nn.mp hk';have:=qJ ek;subst this;rw [qI ry];refine ⟨bZ kus k,.k e1,?_⟩
  rcases nO nN r (k:=k) with ⟨h1,h2⟩ | ⟨v',u',h1,h2,h3⟩
  ·exact .inl ⟨h1,h2⟩
  ·exact .inr ⟨v',u',h1,h2,h3⟩
 | true =>
  obtain ⟨kus,rfl,r⟩:=r;unfold d0 at hk;split at hk
  ·rename_i hh;cases hh
  ·rename_i xs hh
   obtain ⟨ks,ek⟩:=Nn.mp hk;obtain ⟨b,rfl,hb⟩:=nP ry ek;have:=qK ek;subst this;refine ⟨bZ kus ks,.t e1 hb,?_⟩
   rcases nO (f:=λks:List aU=>AV.tup (ks.map kA)) (λe=>uB (by injection e)) r (k:=ks) with ⟨h1,h2⟩ | ⟨v',u',h1,h2,h3⟩
   ·exact .inl ⟨h1,h2⟩
   ·exact .inr ⟨v',u',h1,h2,h3⟩
  ·cases hk
theorem Hr {n:Nat} {t:Bool} {kvs:List (AV×AV)} {y z:AV} {a:Addr} {w u:V} (S:Sim T ι h H) (hn:h[n]? = some (.dct t kvs)) (hr:ι.refs[n]? = some a) (ry:RV T ι H y w) (rz:RV T ι H z u) (hk:d0 t y=true) (hl:kvs.length<sizeLine) :
  ∃ H',DPut H a w u H'/\Grow ι H ι H'/\Sim T ι (h.set n (.dct t (eX kvs y z))) H' := by
 obtain ⟨ob,e1,r⟩:=S.obj n _ a hn hr
 cases t with
 | false =>
  obtain ⟨kus,rfl,r⟩:=r;have hk':(keyOf? y).isSome=true:=hk;obtain ⟨k,ek⟩:=Nn.mp hk';have:=qJ ek;subst this;rw [qI ry];have g:=S.growSet (u:=.dK (cG kus k u)) hr
  exact ⟨_,.k e1 (by rw [<- Paired.length r];exact hl),g,S.set hr ⟨_,rfl,zF nN (rz.mono g) (Paired.mapP r λ_ _ ⟨p,q⟩=>⟨p,q.mono g⟩)⟩⟩
 | true =>
  obtain ⟨kus,rfl,r⟩:=r;unfold d0 at hk;split at hk
  ·rename_i hh;cases hh
  ·rename_i xs hh
   obtain ⟨ks,ek⟩:=Nn.mp hk;obtain ⟨b,rfl,hb⟩:=nP ry ek;have:=qK ek;subst this;have g:=S.growSet (u:=.dT none (cG kus ks u)) hr
   exact ⟨_,.t e1 hb (by rw [<- Paired.length r];exact hl),g,S.set hr ⟨_,rfl,zF (f:=λks:List aU=>AV.tup (ks.map kA)) (λe=>uB (by injection e)) (rz.mono g) (Paired.mapP r λ_ _ ⟨p,q⟩=>⟨p,q.mono g⟩)⟩⟩
  ·cases hk
theorem RVs.atI {xs:List AV} {us:List V} {i:Int} {v:AV} (r:RVs T ι H xs us) (e:atI xs i=some v):∃ u,L2.atI us i=some u/\RV T ι H v u:=by
 unfold L2.atI at e ⊢
 rw [<- r.length];obtain ⟨j,e1,e2⟩:=Option.bind_eq_some_iff.mp e
 obtain ⟨u,e3,r3⟩:=r.get e2;exact ⟨u,by rw [e1];exact e3,r3⟩
end
section
variable {T:Tb} {E:St->XK} {X:Cx} {pos:Pos} {a b c:Expr} {sa sb sc:SE}
theorem Hs {e:Expr} {t t':TE} (h:PE X e t) (h':PE X e t'):PE X e (λσ H Q=>t σ H Q\/t' σ H Q):=λpins s σ H Q I q=>q.elim (h pins s σ H Q I) (h' pins s σ H Q I)
theorem Ht {e:Stmt} {t t':TS} (h:PS X e t) (h':PS X e t'):PS X e (λD σ H=>t D σ H\/t' D σ H):=λpins s σ H Q I q=>q.elim (h pins s σ H Q I) (h' pins s σ H Q I)
theorem aw (hK:X.K=T.K) (hu:X.A.units+64<cLine) (ha:aN T E X a sa) (hb:aN T E X b sb) (hs:tL b:=by exact λ_ _=>rfl):aN T E X (.Subscript a b pos) (ah au sa sb):=by
 refine cy (Hs (yA EE ha hb hs) (E8 (M8 (Nr (by decide:1<=64) _) hu) ha hb hs)) λσ H Q q=>?_
 obtain ⟨ι,h,en,S,er,q⟩:=q;have left:(∀ x h1 y h2,sa en h = .ok x h1->sb en h1 = .ok y h2->∀ n t kvs,x = .ref n->h2[n]? = some (.dct t kvs)->False)->lW (yB X.K) (tE T E sa) (tE T E sb) σ H Q:=λno=>by
  refine ⟨ι,h,en,S,er,?_⟩
  unfold ah at q
  cases e1:sa en h with
  | bad=>rw [e1] at q;exact q
  | ex c h1=>rw [e1] at q;exact q
  | ok x h1 =>
   rw [e1] at q;intro ι1 H1 u g1 S1 r1
   refine ⟨ι1,h1,en,S1,er.mono g1,?_⟩
   dsimp only [Out.bind] at q
   cases e2:sb en h1 with
   | bad=>rw [e2] at q;exact q
   | ex c h2=>rw [e2] at q;exact Post.shift (R:=RV T) (o:=.ex c h2) q g1
   | ok y h2 =>
    rw [e2] at q;intro ι2 H2 w g2 S2 r2
    have q2:=Post.shift q (g1.trans g2);have r1' := r1.mono g2;dsimp only at q2;unfold au at q2;split at q2
    ·rename_i z i
     split at q2
     ·rename_i cc hc
      obtain ⟨rfl,zl,zo⟩:=eY r1';rw [bU r2];refine .inr (.inr ⟨z,i,cc,rfl,rfl,zl,hc,q2.now S2 (.str (show 1<=sizeLine by decide) ?_)⟩)
      obtain ⟨j,_,e3,_⟩:=p6 hc;have m:cc∈z.cps:=by
       have:=Nq e3;simpa using this
      have:=NR.mp zo _ m;simpa using this
     ·exact q2.elim
    ·rename_i xs i
     split at q2
     ·rename_i v hv
      obtain ⟨b,us,rfl,sq,rs⟩:=kS r1';obtain ⟨u2,e3,r3⟩:=rs.atI hv;rw [bU r2];exact .inr (.inl ⟨b,us,i,u2,rfl,rfl,hK▸sq,e3,q2.now S2 r3⟩)
     ·exact q2.elim
    ·rename_i xs i
     split at q2
     ·rename_i v hv
      obtain ⟨b,us,rfl,sq,rs⟩:=gD S2 r1' rfl;obtain ⟨u2,e3,r3⟩:=rs.atI hv;rw [bU r2];exact .inl ⟨b,us,i,u2,rfl,rfl,hK▸sq,e3,q2.now S2 r3⟩
     ·exact q2.elim
    ·rename_i n
     split at q2
     ·rename_i xs hn
      split at q2
      ·rename_i i
       split at q2
       ·rename_i v hv
        obtain ⟨b,us,rfl,sq,rs⟩:=gD (xs:=xs) S2 r1' (by simp [gB,hn]);obtain ⟨u2,e3,r3⟩:=rs.atI hv;rw [bU r2];exact .inl ⟨b,us,i,u2,rfl,rfl,hK▸sq,e3,q2.now S2 r3⟩
       ·exact q2.elim
      ·exact q2.elim
     ·rename_i t kvs hn
      exact (no _ h1 _ h2 e1 e2 n t kvs rfl hn).elim
     ·exact q2.elim
    ·exact q2.elim
 by_cases dd:∃ x h1 y h2,sa en h = .ok x h1/\sb en h1 = .ok y h2/\∃ n t kvs,x = .ref n/\h2[n]? = some (.dct t kvs)
 ·obtain ⟨x,h1,y,h2,e1,e2,n,t,kvs,rfl,hn⟩:=dd
  refine .inr ⟨ι,h,en,S,er,?_⟩
  unfold ah at q;rw [e1] at q ⊢;intro ι1 H1 u g1 S1 r1
  refine ⟨ι1,h1,en,S1,er.mono g1,?_⟩
  dsimp only [Out.bind] at q;rw [e2] at q ⊢;intro ι2 H2 w g2 S2 r2
  have q2:=Post.shift q (g1.trans g2);have r1' := r1.mono g2;dsimp only at q2;unfold au at q2;simp only [hn] at q2
  split at q2
  ·rename_i hk
   cases r1' with
   | @ref _ ad hr =>
    obtain ⟨o,dg,alt⟩:=qL S2 hn hr r2 hk;rcases alt with ⟨v1,rfl⟩ | ⟨v,u,v1,rfl,r3⟩
    ·rw [v1] at q2;exact q2.elim
    ·rw [v1] at q2
     exact ⟨ad,u,rfl,dg,q2.now S2 r3⟩
  ·exact q2.elim
 ·exact .inl (left λx h1 y h2 e1 e2 n t kvs e3 e4=>dd ⟨x,h1,y,h2,e1,e2,n,t,kvs,e3,e4⟩)
theorem nQ {p':Pos} (hu:X.A.units+64<cLine) (ho:aN T E X a sa) (hi:aN T E X b sb) (hv:aN T E X c sc) (hs:swapsWith c (some (.Subscript a b p')) pos.line X.env=pure false:=by rfl) (hs':swapsWithSole [.Subscript a b p'] c pos.line X.env=pure false:=by rfl) (hw:swappedStores [.Subscript a b p'] c X.env=pure none:=by rfl)
  (h1:(assignEach [.Subscript a b p'] X.env).map (·.2)=[assign (.Subscript a b p') X.env]:=by rfl)
  (has:∀ v,assign (.Subscript a b p') X.env v=(do
   let ov <- holding [v] (eval a X.env)
   let iv <- holding [v,ov] (eval b X.env)
   standAt p'
   holding [v,ov,iv] (setItem ov iv v)
   release [v,ov,iv] []):=by intro _;rfl):gL T E X (.Assign [.Subscript a b p'] c pos) (fF sa sb sc):=by
 refine iB (Ht (ye hv (Dj ho hi EH has) hs' hw h1) (E9 (M8 (Nr (by decide:1<=64) _) hu) ho hi hv hs)) λD σ H q=>?_
 obtain ⟨ι,h,en,S,er,q⟩:=q;unfold fF at q;by_cases dd:∃ z h1 x h2 y h3,sc en h = .ok z h1/\sa en h1 = .ok x h2/\sb en h2 = .ok y h3/\∃ n t kvs,x = .ref n/\h3[n]? = some (.dct t kvs)
 ·obtain ⟨z,h1,x,h2,y,h3,e1,e2,e3,n,t,kvs,rfl,hn⟩:=dd
  refine .inr ⟨ι,h,en,S,er,?_⟩
  rw [e1] at q ⊢;intro ι1 H1 u g1 S1 r1
  refine ⟨ι1,h1,en,S1,er.mono g1,?_⟩
  dsimp only [Out.go] at q;rw [e2] at q ⊢;intro ι2 H2 w g2 S2 r2
  refine ⟨ι2,h2,en,S2,er.mono (g1.trans g2),?_⟩
  dsimp only at q;rw [e3] at q ⊢;intro ι3 H3 j g3 S3 r3
  have q2:=PostS.shift q (g1.trans (g2.trans g3));simp only [hn] at q2
  split at q2
  ·rename_i hk
   cases (r2.mono g3) with
   | @ref _ ad hr =>
    obtain ⟨H4,dp,g4,S4⟩:=Hr S3 hn hr r3 (r1.mono (g2.trans g3)) hk.1 hk.2;exact ⟨ad,H4,rfl,dp,q2 ι3 H4 σ g4 S4 (er.mono (g1.trans (g2.trans (g3.trans g4))))⟩
  ·exact q2.elim
 ·refine .inl ⟨ι,h,en,S,er,?_⟩
  cases e1:sc en h with
  | bad=>rw [e1] at q;exact q
  | ex cc h1=>rw [e1] at q;exact λi2 H2 C g S e=>q i2 H2 σ C g S (er.mono g) e
  | ok z h1 =>
   rw [e1] at q;intro ι1 H1 u g1 S1 r1
   refine ⟨ι1,h1,en,S1,er.mono g1,?_⟩
   dsimp only [Out.go] at q
   cases e2:sa en h1 with
   | bad=>rw [e2] at q;exact q
   | ex cc h2=>rw [e2] at q;exact λi2 H2 C g S e=>q i2 H2 σ C (g1.trans g) S (er.mono (g1.trans g)) e
   | ok x h2 =>
    rw [e2] at q;intro ι2 H2 w g2 S2 r2
    refine ⟨ι2,h2,en,S2,er.mono (g1.trans g2),?_⟩
    dsimp only at q
    cases e3:sb en h2 with
    | bad=>rw [e3] at q;exact q
    | ex cc h3=>rw [e3] at q;exact λi2 H2 C g S e=>q i2 H2 σ C (g1.trans (g2.trans g)) S (er.mono (g1.trans (g2.trans g))) e
    | ok y h3 =>
     rw [e3] at q;intro ι3 H3 j g3 S3 r3
     have q2:=PostS.shift q (g1.trans (g2.trans g3));dsimp only at q2;split at q2
     ·rename_i n
      split at q2
      ·rename_i xs hn
       split at q2
       ·rename_i k
        split at q2
        ·rename_i jj hj
         cases (r2.mono g3) with
         | @ref _ ad hr =>
          obtain ⟨o,e4,us,rfl,rs⟩:=S3.obj n _ ad hn hr;have g4:=S3.growSet (u:=.lst (us.set jj u)) hr;rw [bU r3];exact ⟨ad,us,k,jj,rfl,rfl,e4,by rw [<- rs.length];exact hj,q2 ι3 _ σ g4 (S3.set hr ⟨_,rfl,RVs.set (r1.mono (g2.trans (g3.trans g4))) jj (rs.mono g4)⟩) (er.mono (g1.trans (g2.trans (g3.trans g4))))⟩
        ·exact q2.elim
       ·exact q2.elim
      ·rename_i t kvs hn
       exact (dd ⟨_,h1,_,h2,_,h3,e1,e2,e3,n,t,kvs,rfl,hn⟩).elim
      ·exact q2.elim
     ·exact q2.elim
theorem zG {g:Value->Value->Sem Value} {r:R2} {neg:Bool} (hK:X.K=T.K)
  (h1:∀ (i j:Str) H Q,Q (V.bl (if neg then !(!(Builtin.Str.occurrences j i 0 j.length 1).isEmpty) else !(Builtin.Str.occurrences j i 0 j.length 1).isEmpty)) H->r (.str i) (.str j) H Q)
  (h2:∀ x y H Q p xs d ds,y=V.ref p->SqL T.K H p xs->DaV T.K H x d->DaVs T.K H xs ds->d.canLay0=true->(∀ e∈ds,e.canLay0=true/\e.depth<=30)->Q (V.bl (if neg then !(ds.any λe=>PyData.eqv e d) else ds.any λe=>PyData.eqv e d)) H->r x y H Q)
  (h2t:∀ x y H Q p xs d ds,y=V.ref p->SqT T.K H p xs->DaV T.K H x d->DaVs T.K H xs ds->d.canLay0=true->(∀ e∈ds,e.canLay0=true/\e.depth<=30)->Q (V.bl (if neg then !(ds.any λe=>PyData.eqv e d) else ds.any λe=>PyData.eqv e d)) H->r x y H Q)
  (h3:∀ (y:V) (a:Addr) o H Q,DGet H a y o->Q (V.bl (if neg then !o.isSome else o.isSome)) H->r y (.ref a) H Q) :
  lZ T (λx y h=>match kP x y h with | some b=>.ok (.bl (if neg then !b else b)) h | none=>.bad) r:=by
 intro ι h H x y u w E Q S rx ry p;dsimp only at p
 cases hb:kP x y h with
 | none=>rw [hb] at p;exact p.elim
 | some b =>
  rw [hb] at p;dsimp only at p
  unfold kP at hb;split at hb
  ·cases hb
   obtain ⟨rfl,_⟩:=eY rx;obtain ⟨rfl,_⟩:=eY ry;exact h1 _ _ _ _ (p.now S (.bl _))
  ·rename_i n
   split at hb
   ·rename_i t kvs hn
    split at hb
    ·rename_i hk
     cases hb
     cases ry with
     | @ref _ ad hr =>
      obtain ⟨o,dg,alt⟩:=qL S hn hr rx hk;refine h3 u ad o H Q dg ?_
      rcases alt with ⟨v1,rfl⟩ | ⟨v,u',v1,rfl,r3⟩
      ·rw [v1] at p;exact p.now S (.bl _)
      ·rw [v1] at p;exact p.now S (.bl _)
    ·cases hb
   ·rename_i xs hn
    split at hb
    ·rename_i d ds e1 e2
     cases hb
     obtain ⟨a,us,rfl,sq,rs⟩:=gD (xs:=xs) S ry (by simp [gB,hn]);obtain ⟨q1,q2,q3⟩:=iX S 8 rx e1;obtain ⟨q4,q5⟩:=nI (n:=8) (λr e=>iX S 8 r e) rs e2;exact h2 _ _ _ _ a us d ds rfl sq q1 q4 q2 (λe he=>⟨(q5 e he).1,by have:=(q5 e he).2;lia⟩) (p.now S (.bl _))
    ·cases hb
   ·cases hb
  ·rename_i xs
   split at hb
   ·rename_i d ds e1 e2
    cases hb
    obtain ⟨a,us,rfl,sq,rs⟩:=gD S ry rfl;obtain ⟨q1,q2,q3⟩:=iX S 8 rx e1;obtain ⟨q4,q5⟩:=nI (n:=8) (λr e=>iX S 8 r e) rs e2;exact h2 _ _ _ _ a us d ds rfl sq q1 q4 q2 (λe he=>⟨(q5 e he).1,by have:=(q5 e he).2;lia⟩) (p.now S (.bl _))
   ·cases hb
  ·rename_i xs
   split at hb
   ·rename_i d ds e1 e2
    cases hb
    obtain ⟨a,us,rfl,sq,rs⟩:=kS ry;obtain ⟨q1,q2,q3⟩:=iX S 8 rx e1;obtain ⟨q4,q5⟩:=nI (n:=8) (λr e=>iX S 8 r e) rs e2;exact h2t _ _ _ _ a us d ds rfl sq q1 q4 q2 (λe he=>⟨(q5 e he).1,by have:=(q5 e he).2;lia⟩) (p.now S (.bl _))
   ·cases hb
  ·cases hb
end
end Sm
namespace L2
open PySem PySem.Spec PyProof.Rows
section
variable {X:Cx} {pins:List (Addr×Obj)} {σ:St} {H:Hp} {s:Shared}
theorem uD (I:Inv X pins σ H s) (hu:X.A.units+64<cLine) {xs:List V} {ds:List PyData} {its:List Value} {d:PyData} {v:Value} {as:List Addr} (ra:Reads s.heap v d as) (hds:DaVs X.K H xs ds) (r:Vals xs its) (cd:d.canLay0=true) (cds:∀ e∈ds,e.canLay0=true/\e.depth<=30) :
  (∀ y,y∈its.toArray->SeqAt.EqAt X.A.in1 s y v (iA s.heap d y))/\its.toArray.any (iA s.heap d)=ds.any λe=>PyData.eqv e d:=by
 obtain ⟨hl,hat⟩:=uh I hds r;constructor
 ·intro y hy
  have hy':y∈its:=by simpa using hy
  obtain ⟨j,hj⟩:=QC hy';have hlt:=(MP.mp hj).1;have hdj:ds[j]? = some (ds[j]'(by lia)):=M3 (by lia);obtain ⟨bs,rb⟩:=hat j _ _ hj hdj;have cj:=cds _ (Nq hdj);rw [isD_of cj.1 rb];exact SeqAt.eqAt_reads _ _ _ _ _ _ _ _ rb ra cj.1 cd (by
   have:=OL (ds[j]'(by lia)).depth d.depth;show X.A.units+1+_<cLine
   lia)
 ·rw [<- P2]
  refine uj hl λj u e h1 h2=>?_
  obtain ⟨bs,rb⟩:=hat j _ _ h1 h2;exact isD_of (cds _ (Nq h2)).1 rb
def Hu (K:PySem.W.Frag):R2:=λx y H Q=>∃ p xs d ds,y = .ref p/\SqL K H p xs/\DaV K H x d/\DaVs K H xs ds/\d.canLay0=true/\(∀ e∈ds,e.canLay0=true/\e.depth<=30)/\Q (.bl (!(ds.any λe=>PyData.eqv e d))) H
def Hv (K:PySem.W.Frag):R2:=λx y H Q=>∃ p xs d ds,y = .ref p/\SqT K H p xs/\DaV K H x d/\DaVs K H xs ds/\d.canLay0=true/\(∀ e∈ds,e.canLay0=true/\e.depth<=30)/\Q (.bl (ds.any λe=>PyData.eqv e d)) H
def Hw (K:PySem.W.Frag):R2:=λx y H Q=>∃ p xs d ds,y = .ref p/\SqT K H p xs/\DaV K H x d/\DaVs K H xs ds/\d.canLay0=true/\(∀ e∈ds,e.canLay0=true/\e.depth<=30)/\Q (.bl (!(ds.any λe=>PyData.eqv e d))) H
theorem Hx (hu:X.A.units+64<cLine):OpR X (compareOp .NotIn) (Hu X.K):=by
 intro pins s σ H x y v u Q I rx ry h;obtain ⟨p,xs,d,ds,rfl,hq,hd,hds,cd,cds,q⟩:=h
 cases ry
 obtain ⟨its,r,pl,hz⟩:=I.list hq;obtain ⟨as,ra⟩:=hd.reads I rx;obtain ⟨h1,h2⟩:=uD I hu ra hds r cd cds;exact SeqAt.notIn_listAt (iA s.heap d) pl.isList h1 ⟨.bl _,H,I,rfl,by rw [h2];exact q⟩
theorem Hy (hu:X.A.units+64<cLine):OpR X (compareOp .In) (Hv X.K):=by
 intro pins s σ H x y v u Q I rx ry h;obtain ⟨p,xs,d,ds,rfl,hq,hd,hds,cd,cds,q⟩:=h
 cases ry
 obtain ⟨its,r,pl,hz⟩:=I.tuple hq;obtain ⟨as,ra⟩:=hd.reads I rx;obtain ⟨h1,h2⟩:=uD I hu ra hds r cd cds;exact SeqAt.in_tupleAt (iA s.heap d) pl h1 ⟨.bl _,H,I,rfl,by rw [h2];exact q⟩
theorem Hz (hu:X.A.units+64<cLine):OpR X (compareOp .NotIn) (Hw X.K):=by
 intro pins s σ H x y v u Q I rx ry h;obtain ⟨p,xs,d,ds,rfl,hq,hd,hds,cd,cds,q⟩:=h
 cases ry
 obtain ⟨its,r,pl,hz⟩:=I.tuple hq;obtain ⟨as,ra⟩:=hd.reads I rx;obtain ⟨h1,h2⟩:=uD I hu ra hds r cd cds;exact SeqAt.notIn_tupleAt (iA s.heap d) pl h1 ⟨.bl _,H,I,rfl,by rw [h2];exact q⟩
theorem HA (hu:X.A.units+64<cLine):OpR X (compareOp .In) (λx y H Q=>∃ a o,y = .ref a/\DGet H a x o/\Q (.bl o.isSome) H):=by
 intro pins s σ H x y v u Q I rx ry h;obtain ⟨a,o,rfl,g,q⟩:=h
 cases ry
 exact tU (M8 (Nr (by decide:1<=64) _) hu) I g rx λs' I' => ⟨.bl _,H,I',rfl,q⟩
theorem HB (hu:X.A.units+64<cLine):OpR X (compareOp .NotIn) (λx y H Q=>∃ a o,y = .ref a/\DGet H a x o/\Q (.bl (!o.isSome)) H):=by
 intro pins s σ H x y v u Q I rx ry h;obtain ⟨a,o,rfl,g,q⟩:=h
 cases ry
 exact EZ (M8 (Nr (by decide:1<=64) _) hu) I g rx λs' I' => ⟨.bl _,H,I',rfl,q⟩
end
end L2
namespace Sm
open PySem PySem.Spec L2
section
variable {T:Tb} {E:St->XK} {X:Cx}
theorem uE (hK:X.K=T.K) (hu:X.A.units+64<cLine):Op T X (compareOp .In) qr:=by
 refine ⟨_,zhL.or ((Gp hu).or ((Hy hu).or (HA hu))),zG (neg:=false) (g:=compareOp .In) hK ?_ ?_ ?_ ?_⟩
 ·exact λi j H Q q=>.inl ⟨i,j,rfl,rfl,q⟩
 ·exact λx y H Q p xs d ds e1 e2 e3 e4 e5 e6 q=>.inr (.inl ⟨p,xs,d,ds,e1,hK▸e2,hK▸e3,hK▸e4,e5,e6,q⟩)
 ·exact λx y H Q p xs d ds e1 e2 e3 e4 e5 e6 q=>.inr (.inr (.inl ⟨p,xs,d,ds,e1,hK▸e2,hK▸e3,hK▸e4,e5,e6,q⟩))
 ·exact λy a o H Q g q=>.inr (.inr (.inr ⟨a,o,rfl,g,q⟩))
theorem j7 (hK:X.K=T.K) (hu:X.A.units+64<cLine):Op T X (compareOp .NotIn) dS:=by
 refine ⟨_,zfd.or ((Hx hu).or ((Hz hu).or (HB hu))),zG (neg:=true) (g:=compareOp .NotIn) hK ?_ ?_ ?_ ?_⟩
 ·exact λi j H Q q=>.inl ⟨i,j,rfl,rfl,q⟩
 ·exact λx y H Q p xs d ds e1 e2 e3 e4 e5 e6 q=>.inr (.inl ⟨p,xs,d,ds,e1,hK▸e2,hK▸e3,hK▸e4,e5,e6,q⟩)
 ·exact λx y H Q p xs d ds e1 e2 e3 e4 e5 e6 q=>.inr (.inr (.inl ⟨p,xs,d,ds,e1,hK▸e2,hK▸e3,hK▸e4,e5,e6,q⟩))
 ·exact λy a o H Q g q=>.inr (.inr (.inr ⟨a,o,rfl,g,q⟩))
end
section
variable {T:Tb} {E:St->XK} {X:Cx} {pos np cpos:Pos} {e:Expr} {es:List Expr} {x:Str} {c:Nat} {as:SL}
end
def ig (T:Tb) (f:Fn) (r:List V->Hp->VK->Prop):Prop:=∀ (ι:Ix) (h:AH) (H:Hp) (xs:List AV) (us:List V) (E:XK) (Q:VK),Sim T ι h H->RVs T ι H xs us->Post T ι H E (RV T) (f xs h) Q->r us H Q
section
variable {T:Tb} {E:St->XK} {X:Cx} {pos p:Pos} {e a:Expr} {es:List Expr} {x:Str} {as:SL} {sa:SE}
theorem zH {f:Fn} {r:List V->Hp->VK->Prop} (hs:ig T f r) {σ:St} {H:Hp} {Q:VK} (q:tE T E (aC f as) σ H Q):tH r (tA T E as) σ H Q:=by
 obtain ⟨ι,h,en,S,er,q⟩:=q;exact ⟨ι,h,en,S,er,q.bind λxs h1 ι1 H1 us g1 S1 r1 q1=>hs ι1 h1 H1 xs us _ Q S1 r1 q1⟩
theorem br {id:String} {f:Fn} (hc:∃ r,CallR X (.builtin id) r/\ig T f r) (hg:Gl X x) (hm:X.mg x=none) (hv:bootBuiltins x=some (.builtin id)) (ha:gh T E X (e::es) as) (hn:x ≠ "__name__" := by decide) (hdb:(x == ("__debug__" : Str))=false:=by decide)
  (he:starEach (e::es) X.env=(false,eval e X.env)::starEach es X.env:=by rfl) (hpl:(backTo pos (starEach es X.env)).any (·.1)=false:=by rfl):aN T E X (.Call (.Name x p) (e::es) [] pos) (aC f as):=by
 obtain ⟨r,h1,h2⟩:=hc;exact cy (tJ h1 hg hm hv ha hn hdb he hpl) λσ H Q q=>zH h2 q
theorem dW {id:String} {f:Fn} (hc:∃ r,CallR X (.type id) r/\ig T f r) (hg:Gl X x) (hm:X.mg x=none) (hv:bootBuiltins x=some (.type id)) (ha:gh T E X (e::es) as) (hn:x ≠ "__name__" := by decide) (hdb:(x == ("__debug__" : Str))=false:=by decide)
  (he:starEach (e::es) X.env=(false,eval e X.env)::starEach es X.env:=by rfl) (hpl:(backTo pos (starEach es X.env)).any (·.1)=false:=by rfl):aN T E X (.Call (.Name x p) (e::es) [] pos) (aC f as):=by
 obtain ⟨r,h1,h2⟩:=hc;exact cy (Er h1 hg hm hv ha hn hdb he hpl) λσ H Q q=>zH h2 q
theorem Fa (hK:X.K=T.K):∃ r,CallR X (.builtin "len") r/\ig T aW r:=by
 refine ⟨_,zff.or (zfe.or Fw),λι h H xs us E Q S r q=>?_⟩
 unfold aW at q;split at q
 ·cases r with
  | cons r r' =>
   cases r'
   obtain ⟨rfl,n,_⟩:=eY r;exact .inl ⟨_,rfl,n,q.now S (.int _)⟩
 ·cases r with
  | cons r r' =>
   cases r'
   obtain ⟨a,us,rfl,sq,rs⟩:=kS r;exact .inr (.inl ⟨a,us,rfl,.inr (hK▸sq),by rw [<- rs.length];exact q.now S (.int _)⟩)
 ·cases r with
  | cons r r' =>
   cases r'
   obtain ⟨a,us,rfl,sq,rs⟩:=gD S r rfl;exact .inr (.inl ⟨a,us,rfl,.inl (hK▸sq),by rw [<- rs.length];exact q.now S (.int _)⟩)
 ·rename_i n
  cases r with
  | cons r r' =>
   cases r'
   split at q
   ·rename_i xs hn
    obtain ⟨a,us,rfl,sq,rs⟩:=gD (xs:=xs) S r (by simp [gB,hn]);exact .inr (.inl ⟨a,us,rfl,.inl (hK▸sq),by rw [<- rs.length];exact q.now S (.int _)⟩)
   ·rename_i kvs hn
    cases r with
    | @ref _ ad hr =>
     obtain ⟨o,e1,kus,rfl,rs⟩:=S.obj n _ ad hn hr;exact .inr (.inr ⟨ad,kus,rfl,e1,by rw [<- Paired.length rs];exact q.now S (.int _)⟩)
   ·exact q.elim
 ·exact q.elim
theorem E_:∃ r,CallR X (.builtin "abs") r/\ig T kQ r:=by
 refine ⟨_,DW,λι h H xs us E Q S r q=>?_⟩
 unfold kQ at q;split at q
 ·cases r with
  | cons r r' => cases r';rw [bU r];exact ⟨_,rfl,q.now S (.int _)⟩
 ·exact q.elim
theorem kZ (hc:X.calm=true:=by rfl):∃ r,CallR X (.builtin "max") r/\ig T fG r:=by
 refine ⟨_,DX hc,λι h H xs us E Q S r q=>?_⟩
 unfold fG at q;split at q
 ·cases r with
  | cons r r' => cases r' with
   | cons r1 r2=>cases r2;rw [bU r,bU r1];exact ⟨_,_,rfl,q.now S (.int _)⟩
 ·exact q.elim
theorem HC (hc:X.calm=true:=by rfl):∃ r,CallR X (.builtin "min") r/\ig T lY r:=by
 refine ⟨_,DY hc,λι h H xs us E Q S r q=>?_⟩
 unfold lY at q;split at q
 ·cases r with
  | cons r r' => cases r' with
   | cons r1 r2=>cases r2;rw [bU r,bU r1];exact ⟨_,_,rfl,q.now S (.int _)⟩
 ·exact q.elim
theorem zI {ι:Ix} {H:Hp}:∀ {xs:List AV} {us:List V} {bs:List Bool},RVs T ι H xs us->nH xs=some bs->us=bs.map V.bl
 | _,_,_,.nil,e=>by cases e;rfl
 | _,_,bs,.cons (x:=x) r rs,e=>by
  unfold nH at e;split at e
  ·rename_i hh;cases hh
  ·rename_i b r' hh
   cases hh
   obtain ⟨bs',e1,rfl⟩:=Nc.mp e;rw [fZ r,zI rs e1];rfl
  ·cases e
theorem Go (hK:X.K=T.K) (hc:X.calm=true:=by rfl):∃ r,CallR X (.builtin "all") r/\ig T gQ r:=by
 refine ⟨_,FQ hc,λι h H xs us E Q S r q=>?_⟩
 unfold gQ at q;split at q
 ·split at q
  ·rename_i bs hb
   cases r with
   | cons r r' =>
    cases r'
    obtain ⟨a,us,rfl,sq,rs⟩:=gD S r rfl;rw [zI rs hb] at sq;exact ⟨a,bs,rfl,hK▸sq,q.now S (.bl _)⟩
  ·exact q.elim
 ·exact q.elim
theorem Id:∃ r,CallR X (.type "int") r/\ig T bX r:=by
 refine ⟨_,DZ,λι h H xs us E Q S r q=>?_⟩
 unfold bX at q;split at q
 ·cases r with
  | cons r r' => cases r';rw [bU r];exact .inl ⟨_,rfl,q.now S (.int _)⟩
 ·cases r with
  | cons r r' => cases r';rw [fZ r];exact .inr ⟨_,rfl,q.now S (.int _)⟩
 ·exact q.elim
abbrev nS:List String:=["NoneType", "bool", "int", "str", "list", "tuple", "dict"]
theorem zJ (K:PySem.W.Frag):∀ n∈nS,∀ t∈nS,PySem.W.kitOne K (.type n) (.type t)=some (n == t || (t == "int" && n == "bool")):=by
 intro n hn t ht;simp only [nS,Nd,OD,QO] at hn ht
 rcases hn with rfl | rfl | rfl | rfl | rfl | rfl | rfl<;>rcases ht with rfl | rfl | rfl | rfl | rfl | rfl | rfl<;>rfl
theorem HD {c:V} {cv:Value} (rc:∀ u,RelV c u->u=cv) :
  CallR X (.builtin "isinstance") (λxs H Q=>∃ a us r,xs=[.ref a,c]/\SqL X.K H a us/\PySem.W.kitOne X.K (.type "list") cv=some r/\Q (.bl r) H):=by
 intro pins s σ H xs us Q I r h;obtain ⟨a,ws,k,rfl,sq,hk,q⟩:=h;obtain ⟨u,w',rfl,rx,ry⟩:=pW r;obtain rfl:=rc _ ry;obtain rfl:u=Value.ref a:=rx;obtain ⟨its,_,⟨o,n,e1,e2,_⟩,_⟩:=I.list sq;exact NM PF I.kIn ⟨_,e1,e2⟩ hk (λz=>nomatch z) λtk=>⟨.bl k,H,I.tok _,rfl,q⟩
theorem HE {ι:Ix} {h:AH} {H:Hp} {v:AV} {u:V} {n:String} (S:Sim T ι h H) (r:RV T ι H v u) (e:j3 v h=some n):(cU T.K H u (.type n)\/(n = "list" /\ ∃ a us,u = .ref a/\SqL T.K H a us))/\n∈nS:=by
 unfold j3 at e
 cases r with
 | non=>cases e;exact ⟨.inl .non,by decide⟩
 | bl b=>cases e;exact ⟨.inl (.bl b),by decide⟩
 | int b=>cases e;exact ⟨.inl (.int b),by decide⟩
 | str n o=>cases e;exact ⟨.inl (.str _),by decide⟩
 | tup n q r=>cases e;exact ⟨.inl (.tup q),by decide⟩
 | fl n q r=>cases e;exact ⟨.inr ⟨rfl,_,_,rfl,.inl q⟩,by decide⟩
 | kfl q r=>cases e;exact ⟨.inr ⟨rfl,_,_,rfl,.inr q⟩,by decide⟩
 | @ref k a q =>
  dsimp only at e;split at e
  ·rename_i xs hn
   cases e
   obtain ⟨o,e1,us,rfl,rs⟩:=S.obj k _ a hn q;exact ⟨.inl (.lst e1),by decide⟩
  ·rename_i t kvs hn
   cases e
   obtain ⟨o,e1,r⟩:=S.obj k _ a hn q
   cases t with
   | false=>obtain ⟨kus,rfl,rs⟩:=r;exact ⟨.inl (.dK e1),by decide⟩
   | true=>obtain ⟨kus,rfl,rs⟩:=r;exact ⟨.inl (.dT e1),by decide⟩
  ·cases e
 | exc _ _ _=>cases e
theorem nT {t:Str} {id:String} {p2:Pos} (hK:X.K=T.K) (hg:Gl X "isinstance") (hm:X.mg "isinstance" = none) (ha:aN T E X a sa) (hgt:Gl X t) (hmt:X.mg t=none) (hvt:bootBuiltins t=some (.type id)) (hid:id∈nS) (hnt:t ≠ "__name__" := by decide) (hdt:(t == ("__debug__" : Str))=false:=by decide)
  (he:starEach [a,.Name t p2] X.env=(false,eval a X.env)::starEach [.Name t p2] X.env:=by rfl):aN T E X (.Call (.Name "isinstance" p) [a,.Name t p2] [] pos) (fH id sa):=by
 refine cy (tJ ((FL (X:=X) (yO id)).or (HD (X:=X) (yO id))) hg hm PyProof.Rows.boot_isinstance (lX ha (lX (CG (v:=.ty id) hgt hmt hvt rfl hnt hdt) pZ) he) (he:=he)) λσ H Q=>E6x λι h en S er q=>⟨ι,h,en,S,er,q.bind λv h1 ι1 H1 u g1 S1 r1 q1=>?_⟩
 split at q1
 ·rename_i n hn
  obtain ⟨ty,hmem⟩:=HE S1 r1 hn;rcases ty with ty | ⟨rfl,ad,us,rfl,sq⟩
  ·exact .inl ⟨u,.type n,_,rfl,hK▸ty,zJ _ n hmem id hid,q1.now S1 (.bl _)⟩
  ·exact .inr ⟨ad,us,_,rfl,hK▸sq,zJ _ _ hmem id hid,q1.now S1 (.bl _)⟩
 ·exact q1.elim
def mq (T:Tb) (f:FM) (r:V->List V->Hp->VK->Prop):Prop:=∀ (ι:Ix) (h:AH) (H:Hp) (x:AV) (xs:List AV) (u:V) (us:List V) (E:XK) (Q:VK),Sim T ι h H->RV T ι H x u->RVs T ι H xs us->Post T ι H E (RV T) (f x xs h) Q->r u us H Q
def jC (T:Tb) (chk:AV->AH->Bool) (n:String):Prop:=∀ (ι:Ix) (h:AH) (H:Hp) (x:AV) (u:V),Sim T ι h H->RV T ι H x u->chk x h=true->p7 T.K n u H
theorem eJ:jC T cA "list" := λι h H x u S r e=>by
 obtain ⟨xs,e1⟩:=Nn.mp e;obtain ⟨a,us,rfl,sq,rs⟩:=gD S r e1;exact .inl ⟨rfl,us,sq⟩
theorem HF:jC T um "str" := λι h H x u S r e=>by
 unfold um at e;split at e
 ·obtain ⟨rfl,_⟩:=eY r;rfl
 ·cases e
variable {o:Expr} {so:SE} {name:Str} {apos:Pos} {chk:AV->AH->Bool} {f:FM} {tn id:String}
theorem cx (hK:X.K=T.K) (pa:PlainAttrs tn) (slot:Slot tn name id) (hty:typeOf (.builtin id)=pure (.type "method_descriptor")) (hm:∃ r,iR X id r/\mq T f r) (hc:jC T chk tn) (ho:aN T E X o so) (ha:gh T E X (e::es) as)
  (hbase:attributeBase o name X.env (eval o X.env)=eval o X.env:=by rfl)
  (hfew:((backTo pos (starEach (e::es) X.env)).all (λx=>!x.1) && (backToKw pos (keywordEach [] X.env)).all (λx=>x.1.isSome)
   && decide ((e::es).length+([]:List Keyword).length+(if ([]:List Keyword).isEmpty then 0 else 1)<30))=true:=by rfl)
  (hline:(apos.endLine == pos.line)=true:=by rfl) (hs:starEach (e::es) X.env=(false,eval e X.env)::starEach es X.env:=by rfl) (hplain:(backTo pos (starEach es X.env)).any (·.1)=false:=by rfl) :
  aN T E X (.Call (.Attribute o name apos) (e::es) [] pos) (eI chk f so as):=by
 obtain ⟨r,h1,h2⟩:=hm;refine cy (EL pa slot hty h1 ho ha hbase hfew hline hs hplain) λσ H Q=>E6x λι h en S er q=>⟨ι,h,en,S,er,q.bind λx h1 ι1 H1 u g1 S1 r1 q1=>?_⟩
 by_cases hx:chk x h1=true
 ·rw [MW hx] at q1
  exact ⟨hK▸hc ι1 h1 H1 x u S1 r1 hx,ι1,h1,en,S1,er.mono g1,q1.bind λxs h2' ι2 H2 us g2 S2 r2 q2=>h2 ι2 h2' H2 x xs u us _ Q S2 (r1.mono g2) r2 q2⟩
 ·rw [MX hx] at q1;exact q1.elim
theorem uF (hK:X.K=T.K) (pa:PlainAttrs tn) (slot:Slot tn name id) (hty:typeOf (.builtin id)=pure (.type "method_descriptor")) (hm:∃ r,iR X id r/\mq T f r) (hc:jC T chk tn) (ho:aN T E X o so)
  (hbase:attributeBase o name X.env (eval o X.env)=eval o X.env:=by rfl) (hline:(apos.endLine == pos.line)=true:=by rfl):aN T E X (.Call (.Attribute o name apos) [] [] pos) (jx chk f so):=by
 obtain ⟨r,h1,h2⟩:=hm;refine cy (yD pa slot hty h1 ho hbase hline) λσ H Q=>E6x λι h en S er q=>⟨ι,h,en,S,er,q.bind λx h1 ι1 H1 u g1 S1 r1 q1=>?_⟩
 by_cases hx:chk x h1=true
 ·rw [MW hx] at q1
  exact ⟨hK▸hc ι1 h1 H1 x u S1 r1 hx,h2 ι1 h1 H1 x [] u [] _ Q S1 r1 .nil q1⟩
 ·rw [MX hx] at q1;exact q1.elim
theorem fI:∃ r,iR X "list.append" r/\mq T cY r:=by
 refine ⟨_,yE,λι h H x xs u us E Q S rx rs q=>?_⟩
 unfold cY at q;split at q
 ·rename_i n y
  split at q
  ·rename_i ys hn
   split at q
   ·rename_i hl
    cases rx with
    | @ref _ ad hr =>
     cases rs with
     | @cons _ uu _ _ r r' =>
      cases r'
      obtain ⟨o,e1,ws,rfl,rw_⟩:=S.obj n _ ad hn hr;have g:=S.growSet (u:=.lst (ws++[uu])) hr;exact ⟨ad,ws,_,rfl,rfl,e1,by rw [<- rw_.length];exact hl,q ι _ _ g (S.set hr ⟨_,rfl,(rw_.mono g).append (.cons (r.mono g) .nil)⟩) .non⟩
   ·exact q.elim
  ·exact q.elim
 ·exact q.elim
theorem zK:∃ r,iR X "list.pop" r/\mq T gi r:=by
 refine ⟨_,ES,λι h H x xs u us E Q S rx rs q=>?_⟩
 unfold gi at q;split at q
 ·rename_i n
  split at q
  ·rename_i ys hn
   split at q
   ·rename_i y hy
    cases rx with
    | @ref _ ad hr =>
     cases rs
     obtain ⟨o,e1,ws,rfl,rw_⟩:=S.obj n _ ad hn hr;have g:=S.growSet (u:=.lst ws.dropLast) hr;obtain ⟨v,e2,r2⟩:=rw_.get hy;refine ⟨ad,ws,v,rfl,rfl,e1,by rw [<- rw_.length];exact e2,q ι _ _ g (S.set hr ⟨_,rfl,?_⟩) (r2.mono g)⟩
     have z:=(rw_.mono g).take (ys.length-1);have e3:ys.take (ys.length-1)=ys.dropLast:=Qs.symm;have e4:ws.take (ys.length-1)=ws.dropLast:=by rw [rw_.length];exact Qs.symm
     rw [e3,e4] at z;exact z
   ·exact q.elim
  ·exact q.elim
 ·exact q.elim
theorem HH:∃ r,iR X "str.count" r/\mq T uo r:=by
 refine ⟨_,FO,λι h H x xs u us E Q S rx rs q=>?_⟩
 unfold uo at q;split at q
 ·cases rs with
  | cons r r' =>
   cases r'
   obtain ⟨rfl,_⟩:=eY rx;obtain ⟨rfl,_⟩:=eY r;exact ⟨_,_,rfl,rfl,q.now S (.int _)⟩
 ·exact q.elim
end
theorem Out.bind_assoc {α β γ:Type} (o:Out α) (f:α->AH->Out β) (g:β->AH->Out γ):(o.bind f).bind g=o.bind λa h=>(f a h).bind g:=by cases o<;>rfl
section
variable {T:Tb} {E:St->XK} {X:Cx} {pos p2:Pos} {a b:Expr} {sa sb:SE}
def tO (T:Tb) (E:St->XK):Option SE->TO
 | none=>yw
 | some s=>yx (tE T E s)
abbrev qM (T:Tb) (E:St->XK) (X:Cx) (e:Option Expr) (s:Option SE):Prop:=PO X e (tO T E s)
theorem i4:qM T E X none none:=Ey
theorem ij (h:aN T E X a sa):qM T E X (some a) (some sa):=Ez h
@[simp] def qN (s:Option SE):En->AH->Out (Option Int):=λen h=>match s with
 | none=>.ok none h
 | some l=>(l en h).bind λv h2=>match v with | .int i=>.ok (some i) h2 | _=>.bad
theorem zL {s:Option SE} {σ:St} {H:Hp} {ι:Ix} {h:AH} {en:En} {γ δ:Type} {R':Ix->Hp->γ->δ->Prop} {Q0:δ->Hp->Prop} {f:Option Int->AH->Out γ} {Q:Option Int->Hp->Prop} (S:Sim T ι h H) (er:ER T ι H en σ) (q:Post T ι H (E σ) R' ((qN s en h).bind f) Q0)
  (k:∀ l h' ι' H',Grow ι H ι' H'->Sim T ι' h' H'->Post T ι' H' (E σ) R' (f l h') Q0->Q l H'):tO T E s σ H Q:=by
 cases s with
 | none=>exact k none h ι H S.refl S q
 | some l =>
  refine ⟨ι,h,en,S,er,?_⟩
  unfold qN at q;dsimp only at q;rw [Out.bind_assoc] at q;refine q.bind λv h1 ι1 H1 u g1 S1 r1 q1=>?_
  split at q1
  ·rw [bU r1]
   exact ⟨_,rfl,k _ _ ι1 H1 g1 S1 q1⟩
  ·exact q1.elim
@[simp] def dh (x:AV) (l u:Option Int) (h:AH):Out AV:=match x with
 | .fl xs=>.ok (.fl (dG xs l u)) h
 | .str z=>.ok (.str (b9 z l u)) h
 | .tup xs=>if ¬ (HT.sIx xs.length 0 l=0/\HT.sIx xs.length xs.length u=xs.length) then .ok (.tup (dG xs l u)) h else .bad
 | .ref n=>match h[n]? with
  | some (.lst xs)=>.ok (.fl (dG xs l u)) h
  | _=>.bad
 | _=>.bad
@[simp] def bR (a:SE) (lo hi:Option SE):SE:=λen h=>(a en h).bind λx h1=>(qN lo en h1).bind λl h2=>(qN hi en h2).bind λu h3=>dh x l u h3
theorem RVs.cut {ι:Ix} {H:Hp} {xs:List AV} {us:List V} {lo hi:Option Int} (r:RVs T ι H xs us):RVs T ι H (dG xs lo hi) (fA us lo hi):=by
 unfold dG fA;rw [<- r.length];exact (r.drop _).take _
theorem HI {ι:Ix} {H:Hp} {z:Str} {l u:Option Int} (hz:z.length<=sizeLine) (hc:z.cps.all (· < 0x110000)=true):RV T ι H (.str (b9 z l u)) (.str (b9 z l u)):=by
 refine .str ?_ ?_
 ·refine MV ?_ hz
  simp [b9,Str.length];lia
 ·simp only [b9,P4,NF]
  intro c h;have hm:c∈z.cps.toList:=OX (Pl h);exact (NR.mp hc) c (by simpa using hm)
theorem iF {lo hi:Option Expr} {sl sh:Option SE} (hK:X.K=T.K) (ha:aN T E X a sa) (hl:qM T E X lo sl) (hh:qM T E X hi sh):aN T E X (.Subscript a (.Slice lo hi none p2) pos) (bR sa sl sh):=by
 refine cy (EB (zjV.or (sl_tup.or GD)) ha hl hh) λσ H Q=>E6x λι h en S er q=>⟨ι,h,en,S,er,q.bind λx h1 ι1 H1 u g1 S1 r1 q1=>?_⟩
 refine zL (E:=E) S1 (er.mono g1) q1 λl h2 ι2 H2 g2 S2 q2=>zL (E:=E) S2 (er.mono (g1.trans g2)) q2 λw h3 ι3 H3 g3 S3 q3=>?_
 have r3:=r1.mono (g2.trans g3);unfold dh at q3;split at q3
 ·obtain ⟨ad,us,rfl,sq,rs⟩:=gD S3 r3 rfl
  exact .inl ⟨ad,us,rfl,hK▸sq,λp n=>qu S3 rs.cut n q3⟩
 ·obtain ⟨rfl,hz,hc⟩:=eY r3
  exact .inr (.inr ⟨_,rfl,hz,q3.now S3 (HI hz hc)⟩)
 ·rename_i xs
  split at q3
  ·rename_i hz
   obtain ⟨ad,us,rfl,sq,rs⟩:=kS r3;exact .inr (.inl ⟨ad,us,rfl,hK▸sq,by rw [<- rs.length];exact hz,λp n=>uq S3 rs.cut n q3⟩)
  ·exact q3.elim
 ·split at q3
  ·rename_i xs hn
   obtain ⟨ad,us,rfl,sq,rs⟩:=gD (xs:=xs) S3 r3 (by simp [gB,hn]);exact .inl ⟨ad,us,rfl,hK▸sq,λp n=>qu S3 rs.cut n q3⟩
  ·exact q3.elim
 ·exact q3.elim
theorem eZ {x:Str} {i:Int} {p:Pos} (hg:Gl X x) (hm:∃ t,X.mg x=some (.int i t)) (hd:(x == ("__debug__" : Str))=false:=by decide):aN T E X (.Name x p) (af (.int i)):=by
 obtain ⟨t,hm⟩:=hm;exact GQ hg hm hd
end
def DG (K:PySem.W.Frag) (mg:Str->Option Value) (x:Str) (st:Stmt) (ps:List Str):Prop:=∃ f fd,mg x=some (.ref f)/\PySem.W.keepIn K (.ref f)=true/\Binds K fd ps []/\Fun K x x st f fd
def zM (N:List Str) (sc:Scope) (ns:List Str) (jf:List (Nat×Str)) (scope:Scope):Bool :=
 decide (ns++jf.map (·.2)).Nodup && ns.all (λx=>scope.names.lookup x == some .local) && jf.all (λp=>N[p.1]? == some p.2) && jf.all (λp=>scope.names.lookup p.2 == some .free) && (scope.kind == .function) &&
 scope.names.all (λy=>y.2 != .cell) && scope.names.all (λy=>y.2 != .free || sc.names.lookup y.1 == some .cell || sc.names.lookup y.1 == some .free) && scope.names.all (λy=>y.2 != .local || scope.names.lookup y.1 == some .local)
theorem nU {X:Cx} {N:List Str} {sc scope:Scope} {ns:List Str} {jf:List (Nat×Str)} (hN:X.N=N) (hk:∀ x,X.env.kindOf x=sc.names.lookup x) (h:zM N sc ns jf scope=true):CompOk X ns jf scope:=by
 unfold zM at h;simp only [Nz,Og,NF,beq_iff_eq,bne_iff_ne,Bool.or_eq_true] at h
 obtain ⟨⟨⟨⟨⟨⟨⟨h1,h2⟩,h3⟩,h4⟩,h5⟩,h6⟩,h7⟩,h8⟩:=h;refine ⟨h1,h2,λp hp=>by rw [hN];exact h3 p hp,h4,h5,λy hy=>h6 y hy,λy hy e=>?_,λy hy e=>?_⟩
 ·rw [hk]
  rcases h7 y hy with (z | z) | z
  ·exact absurd e z
  ·exact .inl z
  ·exact .inr z
 ·rcases h8 y hy with z | z
  ·exact absurd e z
  ·exact z
theorem uG {T:Tb} {ι:Ix} {H:Hp}:∀ ns:List Int,RVs T ι H (ns.map AV.int) (ns.map V.int)
 | []=>.nil
 | n::ns=>.cons (.int n) (uG ns)
theorem uH {T:Tb} {H:Hp}:Sim T ⟨[],[]⟩ [] H:=⟨rfl,OW,(λ_ z=>nomatch z),(λi o a e=>by simp at e)⟩
def uI (K:PySem.W.Frag):Sp:=λvs H Q _=>∃ (a:Addr) (ns:List Int),vs=[.ref a]/\SqL K H a (ns.map V.int)/\ns.length<=63/\∀ H',Q (.bl true) H'
theorem HJ {T:Tb} {F:Fn} (ht:∀ ns:List Int,ns.length<=63->∃ h',F [.fl (ns.map AV.int)] [] = .ok (.bl true) h'):∀ vs H Q E,uI T.K vs H Q E->iE T F vs H Q E:=by
 rintro vs H Q E ⟨a,ns,rfl,hs,hl,q⟩
 obtain ⟨h',e⟩:=ht ns hl;refine ⟨⟨[],[]⟩,[],[.fl (ns.map AV.int)],uH,.cons ?_ .nil,?_⟩
 ·rcases hs with hs | hs
  ·exact .fl (by simp [Ix.all]) hs (uG ns)
  ·exact .kfl hs (uG ns)
 ·rw [e]
  intro ι' H' u g S r;rw [fZ r];exact q H'
theorem HK {P:Program} {w:World} {outer:List Env} {H:Hp} {s s':Shared} {e:Value} (h:dA P w outer H s (λ_ _ _=>False) e s'):False:=by
 obtain ⟨_,_,_,_,_,_,_,_,_,_,_,_,_,_,_,_,q⟩:=h;exact q
@[simp] def nV:List AV->Option (List Int)
 | []=>some []
 | .int i::r=>(nV r).map (i :: ·)
 | _=>none
@[simp] def gU:Fn:=λargs h=>match args with
 | [.fl xs]=>match nV xs with
  | some ns=>.ok (.int ns.sum) h
  | none=>.bad
 | _=>.bad
@[simp] def jD (a b c:SE):SI:=λen h=>(a en h).bind λv h1=>(b en h1).bind λw h2=>(c en h2).bind λz h3=>match v,w,z with
 | .int i,.int j,.int k=>if i.natAbs<2 ^ 40/\j.natAbs<2 ^ 40/\0<k/\k<2 ^ 20 then .ok ((List.range (if i<j then (j-i-1) / k+1 else 0:Int).toNat).map (λm:Nat=>.int (i+m*k)),none) h3 else .bad
 | _,_,_=>.bad
@[simp] def HL:F2:=λx y h=>match x,y with
 | .bl a,.bl b=>.ok (.bl (a == b)) h
 | _,_=>.bad
@[simp] def k9 (f f' f'':F2) (a b c d:SE):SE:=λen h=>(a en h).bind λx h1=>(b en h1).bind λy h2=>(f x y h2).bind λz h3=>match z with
 | .bl k=>if k=true then (c en h3).bind λw h4=>(f' y w h4).bind λz2 h5=>(match z2 with
  | .bl k2=>if k2=true then (d en h5).bind λv h6=>f'' w v h6 else .ok (.bl false) h5
  | _=>.bad) else .ok (.bl false) h3
 | _=>.bad
section
variable {T:Tb} {E:St->XK} {X:Cx} {pos p:Pos} {e a b c:Expr} {sa sb sc:SE}
theorem zN {ι:Ix} {H:Hp}:∀ {xs:List AV} {us:List V} {bs:List Int},RVs T ι H xs us->nV xs=some bs->us=bs.map V.int
 | _,_,_,.nil,e=>by cases e;rfl
 | _,_,bs,.cons (x:=x) r rs,e=>by
  unfold nV at e;split at e
  ·rename_i hh;cases hh
  ·rename_i b r' hh
   cases hh
   obtain ⟨bs',e1,rfl⟩:=Nc.mp e;rw [bU r,zN rs e1];rfl
  ·cases e
theorem G_ (hK:X.K=T.K) (hc:X.calm=true:=by rfl):∃ r,CallR X (.builtin "sum") r/\ig T gU r:=by
 refine ⟨_,Gq hc,λι h H xs us E Q S r q=>?_⟩
 unfold gU at q;split at q
 ·split at q
  ·rename_i bs hb
   cases r with
   | cons r r' =>
    cases r'
    obtain ⟨a,us,rfl,sq,rs⟩:=gD S r rfl;rw [zN rs hb] at sq;exact ⟨a,bs,rfl,hK▸sq,q.now S (.int _)⟩
  ·exact q.elim
 ·exact q.elim
theorem HM {ι:Ix} {H:Hp} {lo c:Int} {n:Nat}:iZ T (jq lo c n) ι H ((List.range n).map (λm:Nat=>AV.int (lo+m*c))) none:=by
 constructor
 ·intro i ι' h' H' y g S _ e
  rw [Nu] at e;obtain ⟨m,e1,rfl⟩:=Nc.mp e
  have hi:i<n:=by
   have:=(MP.mp e1).1;simpa using this
  rw [O3 hi] at e1
  cases e1
  refine ⟨hi,?_⟩
  rintro u H2 ⟨rfl,rfl⟩
  exact ⟨S.refl,S,.int _⟩
 ·intro i ι' h' H' g S _ hl
  have hl':n<=i:=by simpa using hl
  exact hl'
theorem zO {tg:Expr} {p:Pos} (hg:Gl X "range") (hm:X.mg "range" = none) (ha:aN T E X a sa) (hb:aN T E X b sb) (hc:aN T E X c sc) (hs:starEach [a,b,c] X.env=[(false,eval a X.env),(false,eval b X.env),(false,eval c X.env)]:=by rfl) (hs2:starEach [b,c] X.env=[(false,eval b X.env),(false,eval c X.env)]:=by rfl) (hs3:starEach [c] X.env=[(false,eval c X.env)]:=by rfl) :
  kW T X tg (.Call (.Name "range" p) [a,b,c] [] pos) (jD sa sb sc) :=
 qD (Gz hg hm (ak ha (ak hb (ak hc ar hs3) (by rw [hs2,hs3])) (by rw [hs,hs2])) hs hs2) λσ H R=>E6x λι h en S er q=>by
  unfold jD at q;refine ⟨ι,h,en,S,er,?_⟩
  unfold aj
  cases e:sa en h with
  | bad=>rw [e] at q;exact q
  | ex c h1=>rw [e] at q;exact q.elim
  | ok v h1 =>
   rw [e] at q;dsimp only [Out.bind] at q ⊢
   cases e':sb en h1 with
   | bad=>rw [e'] at q;exact q
   | ex c h1=>rw [e'] at q;exact q.elim
   | ok v' h2 =>
    rw [e'] at q;dsimp only at q ⊢
    cases e'':sc en h2 with
    | bad=>rw [e''] at q;exact q
    | ex c h1=>rw [e''] at q;exact q.elim
    | ok v'' h3 =>
     rw [e''] at q;dsimp only at q
     intro ι1 H1 u g1 S1 r1;split at q
     ·rename_i hx
      split at hx
      ·split at hx
       ·rename_i hb
        cases hx
        cases r1 with
        | cons r r' =>
         cases r' with
         | cons r2 r3 =>
          cases r3 with
          | cons r4 r5 =>
           cases r5
           rw [bU r,bU r2,bU r4];exact ⟨_,_,_,rfl,hb,q ι1 H1 _ g1 S1 HM⟩
       ·cases hx
      ·cases hx
     ·exact q.elim
theorem dJ {sts:List Stmt} {E:St->XK}:cV T E X sts (λ_ _=>.bad):=λpins s σ H D I ⟨ι,h,en,S,er,q⟩=>q.elim
theorem HN {d:Expr} {sd:SE} {op op' op'':CmpOp} {f f' f'':F2} (ho:Op T X (compareOp op) f) (ho':Op T X (compareOp op') f') (ho'':Op T X (compareOp op'') f'') (ha:aN T E X a sa) (hb:aN T E X b sb) (hc:aN T E X c sc) (hd:aN T E X d sd) (hm:lastMarks [op,op',op''] [b,c,d]=false:=by with_unfolding_all rfl) :
  gK T E X (.Compare a [op,op',op''] [b,c,d] pos) (aJ (k9 f f' f'' sa sb sc sd)):=by
 obtain ⟨r,h1,hs⟩:=ho;obtain ⟨r',h1',hs'⟩:=ho';obtain ⟨r'',h1'',hs''⟩:=ho'';refine nG (GE h1 h1' h1'' ha hb hc hd hm) λσ H Q q=>?_
 obtain ⟨ι,h,en,S,er,q⟩:=q;unfold aJ k9 at q;rw [Out.bind_assoc] at q;refine ⟨ι,h,en,S,er,q.bind λx h1 ι1 H1 u g1 S1 r1 q1=>?_⟩
 rw [Out.bind_assoc] at q1;refine ⟨ι1,h1,en,S1,er.mono g1,q1.bind λy h2 ι2 H2 w g2 S2 r2 q2=>?_⟩
 rw [Out.bind_assoc] at q2;refine hs ι2 h2 H2 x y u w (E σ) _ S2 (r1.mono g2) r2 (q2.bind λz h3 ι3 H3 k g3 S3 r3 q3=>?_)
 split at q3
 ·rename_i kk
  rw [fZ r3];refine ⟨kk,rfl,?_⟩
  by_cases hkk:kk=true
  ·rw [MW hkk] at q3 ⊢
   rw [Out.bind_assoc] at q3;refine ⟨ι3,h3,en,S3,er.mono (g1.trans (g2.trans g3)),q3.bind λv h4 ι4 H4 j g4 S4 r4 q4=>?_⟩
   rw [Out.bind_assoc] at q4;refine hs' ι4 h4 H4 y v w j (E σ) _ S4 (r2.mono (g3.trans g4)) r4 (q4.bind λz2 h5 ι5 H5 k5 g5 S5 r5 q5=>?_)
   split at q5
   ·rename_i k2
    rw [fZ r5];refine ⟨k2,rfl,?_⟩
    by_cases hk2:k2=true
    ·rw [MW hk2] at q5 ⊢
     rw [Out.bind_assoc] at q5;refine ⟨ι5,h5,en,S5,er.mono (g1.trans (g2.trans (g3.trans (g4.trans g5)))),q5.bind λv6 h6 ι6 H6 j6 g6 S6 r6 q6=>?_⟩
     refine hs'' ι6 h6 H6 v v6 j j6 (E σ) _ S6 (r4.mono (g5.trans g6)) r6 (q6.bind λz7 h7 ι7 H7 k7 g7 S7 r7 q7=>?_)
     split at q7
     ·rw [fZ r7];exact ⟨_,rfl,q7.now S7 rfl⟩
     ·exact q7.elim
    ·rw [MX hk2] at q5 ⊢
     exact ⟨false,rfl,q5.now S5 rfl⟩
   ·exact q5.elim
  ·rw [MX hkk] at q3 ⊢
   exact ⟨false,rfl,q3.now S3 rfl⟩
 ·exact q3.elim
end
theorem HP:∀ {us:List Value},us.length=1->∃ a:Value,us=[a]
 | [a],_=>⟨a,rfl⟩
theorem HQ:∀ {us:List Value},us.length=2->∃ a b:Value,us=[a,b]
 | [a,b],_=>⟨a,b,rfl⟩
theorem HR:∀ {us:List Value},us.length=3->∃ a b c:Value,us=[a,b,c]
 | [a,b,c],_=>⟨a,b,c,rfl⟩
theorem HS:∀ {us:List Value},us.length=4->∃ a b c d:Value,us=[a,b,c,d]
 | [a,b,c,d],_=>⟨a,b,c,d,rfl⟩
theorem HU {T:Tb} {ι:Ix} {H:Hp} {z:Str} {n:Nat} (hl:z.length*n<=1000000) (hc:z.cps.all (· < 0x110000)=true):RV T ι H (.str (bE z n)) (.str (bE z n)):=by
 refine .str ?_ ?_
 ·refine MV ?_ (MV hl (by decide))
  simp [bE,Str.length,Nat.mul_comm]
 ·simp only [bE,P4,NF,List.mem_flatten,List.mem_replicate]
  rintro c ⟨l,⟨_,rfl⟩,hm⟩
  exact (NR.mp hc) c (by simpa using hm)
@[simp] def nW:F2:=λx y h=>match x,y with
 | .str z,.int n=>if n.natAbs<2 ^ 40/\z.length*n.toNat<=1000000 then .ok (.str (bE z n.toNat)) h else .bad
 | _,_=>.bad
theorem HW {T:Tb} {X:Cx}:Op T X (binaryOp .Mult) nW:=by
 refine ⟨_,GI,λι h H x y u w E Q S rx ry p=>?_⟩
 unfold nW at p;split at p
 ·split at p
  ·rename_i hz
   obtain ⟨rfl,_,hc⟩:=eY rx;rw [bU ry];exact ⟨_,_,rfl,rfl,hz.1,hz.2,p.now S (HU hz.2 hc)⟩
  ·exact p.elim
 ·exact p.elim
def fJ (n:Nat) (y z:AV) (h:AH):Out AV:=match h[n]? with
 | some (.dct t kvs)=>if d0 t y then .ok ((bD kvs y).getD z) h else .bad
 | _=>.bad
def fK (o k d:SE):SE:=λen h=>(o en h).bind λx h1=>match x with
 | .ref n=>(match h1[n]? with
  | some (.dct _ _)=>(k en h1).bind λy h2=>(d en h2).bind λz h3=>fJ n y z h3
  | _=>.bad)
 | _=>.bad
section
variable {T:Tb} {E:St->XK} {X:Cx} {pos apos:Pos} {a b c:Expr} {sa sb sc:SE}
theorem isD_of {ι:Ix} {h:AH} {H:Hp} {n:Nat} {t:Bool} {kvs:List (AV×AV)} {ad:Addr} (S:Sim T ι h H) (hn:h[n]? = some (.dct t kvs)) (hr:ι.refs[n]? = some ad):nC H ad:=by
 obtain ⟨ob,e1,r⟩:=S.obj n _ ad hn hr
 cases t with
 | false=>obtain ⟨kus,rfl,r⟩:=r;exact .inl ⟨_,.inl e1⟩
 | true=>obtain ⟨kus,rfl,r⟩:=r;exact .inr ⟨_,_,.inl e1⟩
theorem uJ (hu:X.A.units+64<cLine) (ha:aN T E X a sa) (hb:aN T E X b sb) (hc:aN T E X c sc) (hbase:attributeBase a "get" X.env (eval a X.env)=eval a X.env:=by rfl)
  (hfew:((backTo pos (starEach [b,c] X.env)).all (λx=>!x.1) && (backToKw pos (keywordEach [] X.env)).all (λx=>x.1.isSome) && decide (([b,c]:List Expr).length+([]:List Keyword).length+(if ([]:List Keyword).isEmpty then 0 else 1)<30))=true:=by rfl)
  (hline:(apos.endLine == pos.line)=true:=by rfl) (htrees:backTo pos (starEach [b,c] X.env)=[(false,eval b X.env),(false,eval c X.env)]:=by rfl):aN T E X (.Call (.Attribute a "get" apos) [b,c] [] pos) (fK sa sb sc):=by
 refine cy (Fp (M8 (Nr (by decide:1<=64) _) hu) ha hb hc ⟨hbase,hfew,hline,htrees⟩) λσ H Q q=>?_
 obtain ⟨ι,h,en,S,er,q⟩:=q;refine ⟨ι,h,en,S,er,q.bind λx h1 ι1 H1 u g1 S1 r1 q1=>?_⟩
 split at q1
 ·rename_i n
  split at q1
  ·rename_i t0 kvs0 hn0
   cases r1 with
   | @ref _ ad hr =>
    refine ⟨ad,rfl,isD_of S1 hn0 hr,ι1,h1,en,S1,er.mono g1,q1.bind λy h2 ι2 H2 v g2 S2 r2 q2=>⟨ι2,h2,en,S2,(er.mono g1).mono g2,q2.bind λz h3 ι3 H3 w g3 S3 r3 q3=>?_⟩⟩
    unfold fJ at q3;split at q3
    ·rename_i t kvs hn
     split at q3
     ·rename_i hk
      obtain ⟨o,dg,alt⟩:=qL S3 hn ((g2.trans g3).ext.at_ hr) (r2.mono g3) hk;refine ⟨o,dg,?_⟩
      rcases alt with ⟨v1,rfl⟩ | ⟨v',u',v1,rfl,r4⟩
      ·rw [v1] at q3;exact q3.now S3 r3
      ·rw [v1] at q3;exact q3.now S3 r4
     ·exact q3.elim
    ·exact q3.elim
  ·exact q1.elim
 ·exact q1.elim
end
def zP:Expr->Bool
 | .Starred _ _=>false
 | _=>true
theorem HX (a:Expr) (es:List Expr) (env:Env) (h:zP a=true):starEach (a::es) env=(false,eval a env)::starEach es env:=by
 cases a<;>first | rfl | cases h
section
variable {T:Tb} {E:St->XK} {X:Cx} {a:Expr} {es:List Expr} {sa:SE}
theorem iG (ha:aN T E X a sa) (hr:gh T E X es as) (hn:zP a=true:=by rfl):gh T E X (a::es) (aj sa as):=ak ha hr (HX _ _ _ hn)
end
section
variable {T:Tb} {E:St->XK} {X:Cx} {pos:Pos} {a b:Expr} {sa sb:SE} {sts:List Stmt} {s1:SS}
end
end Sm
namespace L2
open PySem PySem.Spec PyProof.Rows
section
variable {X:Cx} {a b:Expr} {rest:List Expr} {pos:Pos} {ta tb:TE}
def uK (K:PySem.W.Frag) (ta tb:TE):TE:=λσ H Q=>ta σ H λx H1=>∃ k,jd K x H1 k/\if k=true then Q x H1 else tb σ H1 Q
theorem HY (ha:PE X a ta) (hb:PE X (.BoolOp .Or (b::rest) pos) tb):PE X (.BoolOp .Or (a::b::rest) pos) (uK X.K ta tb):=by
 intro pins s σ H Q I h;refine BoolOp_or (thn (ha pins s σ H _ I h) λv s1 Zz=>?_);obtain ⟨x,H1,I1,r1,k,tv,q1⟩:=Zz
 refine NC (yl pins s1 σ H1 x v (λc H' => if c=true then Q x H' else tb σ H' Q) I1 r1 ⟨k,tv,q1⟩) (λc s2 Zz=>?_) λ_ _ z=>z;obtain ⟨H2,I2,q2⟩:=Zz
 cases c with
 | false=>exact hb pins s2 σ H2 Q I2 q2
 | true=>exact ⟨x,H2,I2,r1,q2⟩
end
end L2
namespace Sm
open PySem PySem.Spec L2
@[simp] def gp (a b:SE):SE:=λen h=>(a en h).bind λv h1=>match ju v h1 with
 | some k=>if k=true then .ok v h1 else b en h1
 | none=>.bad
section
variable {T:Tb} {E:L2.St->XK} {X:Cx} {pos:Pos} {a b:Expr} {rest:List Expr} {sa sb:SE}
theorem qO (hK:X.K=T.K) (ha:aN T E X a sa) (hb:aN T E X (.BoolOp .Or (b::rest) pos) sb):aN T E X (.BoolOp .Or (a::b::rest) pos) (gp sa sb) :=
 cy (HY ha hb) λσ H Q=>E6x λι h en S er q=>⟨ι,h,en,S,er,q.bind λx h1 ι1 H1 u g1 S1 r1 q1=>by
  split at q1
  ·rename_i k hk
   refine ⟨k,hK▸zg S1 r1 hk,?_⟩
   by_cases hkk:k=true
   ·rw [MW hkk] at q1 ⊢
    exact q1.now S1 r1
   ·rw [MX hkk] at q1 ⊢
    exact ⟨ι1,h1,en,S1,er.mono g1,q1⟩
  ·exact q1.elim⟩
end
end Sm
namespace L2
open PySem PySem.Spec
theorem Room.m {j k:Nat} {A:Around} (hr:Room k A) (h:Nat.ble j k=true:=by rfl):Room j A:=hr.mono (Nat.le_of_ble_eq_true h)
end L2
namespace Sm
open PySem PySem.Spec L2
def DK (K:PySem.W.Frag) (x:Str) (st:Stmt):Prop:=∃ f fd,PySem.W.nsIn K mainGlobals x=some (some (.ref f))/\Fun K x x st f fd
def DN (K:PySem.W.Frag) (C:Addr) (m q:Str) (st:Stmt):Prop:=∃ f fd,iy K C m f/\Fun K m q st f fd
def cP (K:PySem.W.Frag) (cls:Nat->Option Addr) (c:Nat) (m q:Str) (st:Stmt) (ps:List Str):Prop:=∃ C f fd,cls c=some C/\Cls K C/\iy K C m f/\Binds K fd ps []/\Fun K m q st f fd
def DI (K:PySem.W.Frag) (cls:Nat->Option Addr) (mg:Str->Option Value) (c:Nat) (x q:Str) (st:Stmt) (ps:List Str):Prop:=∃ C f fd,cls c=some C/\mg x=some (.ref C)/\Mk K C f/\Binds K fd ps []/\Fun K "__init__" q st f fd
section
variable {P:Program} {w:World} {K:PySem.W.Frag} {mg:Str->Option Value} {base h:Heap} {T:Tb} {x m q:Str} {st:Stmt} {f C:Addr} {N ps:List Str} {k c:Nat} {b:SS} {cls:Nat->Option Addr}
section
variable {oc:Value} {od an:Option Addr} {osl:Array (Option Value)} {kV doc pm cdv ct:Value}
theorem dk (a:PySem.W.nsIn K mainGlobals x=some (some (.ref f))) (l:K.lookup f=some ⟨oc,od,.func (PySem.W.fnOf x x (kK st) (iS st) (aR st) .none kV doc pm an cdv ct),osl⟩)
  (c:PySem.W.codeIn K cdv x=true) (k:PySem.W.keepIn K (.ref f)=true):DK K x st:=⟨f,_,a,yL l c k⟩
theorem dn (a:PySem.W.findIn K (.ref C) m=some (some (.ref f))) (i:PySem.W.isFn K (.ref f)=true) (l:K.lookup f=some ⟨oc,od,.func (PySem.W.fnOf m q (kK st) (iS st) (aR st) .none kV doc pm an cdv ct),osl⟩)
  (c:PySem.W.codeIn K cdv q=true) (k:PySem.W.keepIn K (.ref f)=true):DN K C m q st:=⟨f,_,⟨a,i,k⟩,yL l c k⟩
end
abbrev BA (x q:Str) (st:Stmt) (us:List Value) (r:List (Str×Value)):Prop:=∀ (kV doc pm:Value) (an:Option Addr) (cdv ct:Value),bindArgs (PySem.W.fnOf x q (kK st) (iS st) (aR st) .none kV doc pm an cdv ct) ⟨us,[]⟩=pure r
def BL (x q:Str) (st:Stmt) (ps:List Str):Prop:=∀ (us:List Value),us.length=ps.length->BA x q st us (ps.zip us)
theorem fL {p1:Str} (h:∀ a,BA x q st [a] [(p1,a)]:=by exact λ_ _ _ _ _ _ _=>rfl):BL x q st [p1]:=λus e=>by obtain ⟨_,rfl⟩:=HP e;exact h _
theorem dj {p1 p2:Str} (h:∀ a b,BA x q st [a,b] [(p1,a),(p2,b)]:=by exact λ_ _ _ _ _ _ _ _=>rfl):BL x q st [p1,p2]:=λus e=>by obtain ⟨_,_,rfl⟩:=HQ e;exact h _ _
theorem eC {p1 p2 p3:Str} (h:∀ a b c,BA x q st [a,b,c] [(p1,a),(p2,b),(p3,c)]:=by exact λ_ _ _ _ _ _ _ _ _=>rfl):BL x q st [p1,p2,p3]:=λus e=>by obtain ⟨_,_,_,rfl⟩:=HR e;exact h _ _ _
theorem nX {p1 p2 p3 p4:Str} (h:∀ a b c d,BA x q st [a,b,c,d] [(p1,a),(p2,b),(p3,c),(p4,d)]:=by exact λ_ _ _ _ _ _ _ _ _ _=>rfl):BL x q st [p1,p2,p3,p4]:=λus e=>by obtain ⟨_,_,_,_,rfl⟩:=HS e;exact h _ _ _ _
theorem dg (X:K.In h) (G:h.Ns mainGlobals mg) (d:DK K x st) (hb:BL x x st ps):DG K mg x st ps:=by
 obtain ⟨f,fd,a,F⟩:=d;exact ⟨f,fd,NU X G a,F.kp,F.binds λ_ _ _ _ _ _ us hl=>hb us hl _ _ _ _ _ _,F⟩
theorem dm (hc:cls c=some C) (k:Cls K C) (d:DN K C m q st) (hb:BL m q st ps):cP K cls c m q st ps:=by
 obtain ⟨f,fd,M,F⟩:=d;exact ⟨C,f,fd,hc,k,M,F.binds λ_ _ _ _ _ _ us hl=>hb us hl _ _ _ _ _ _,F⟩
theorem di (hc:cls c=some C) (hx:mg x=some (.ref C)) (mk:PySem.W.makesIn K C=true) (kc:PySem.W.keepIn K (.ref C)=true) (d:DN K C "__init__" q st) (hb:BL "__init__" q st ps):DI K cls mg c x q st ps:=by
 obtain ⟨f,fd,M,F⟩:=d;exact ⟨C,f,fd,hc,hx,⟨mk,M.at_,M.fn,kc⟩,F.binds λ_ _ _ _ _ _ us hl=>hb us hl _ _ _ _ _ _,F⟩
theorem uL {fa:Addr} {p:Str} (X:K.In h) (G:h.Ns mainGlobals mg) (hfa:mg x=some (.ref fa)) (d:DK K x st) (hb:BL x x st [p]):∃ fd:FuncData,(∀ (s:Shared) (v:Value),BindsTo s fd ⟨[v],[]⟩ [(p,v)])/\Fun K x x st fa fd:=by
 obtain ⟨f,fd,a,F⟩:=d;have e:=hfa.symm.trans (NU X G a)
 cases e
 refine ⟨fd,λs v=>?_,F⟩
 obtain ⟨oc,od,kV,doc,pm,an,cdv,ct,osl,rfl,lk,hcd⟩:=F.ex;exact .of_eq (hb [v] rfl _ _ _ _ _ _)
theorem bp {sc:Scope} (h1:sc.kind = .function:=by rfl) (h2:sc.isCoroutine=false:=by rfl) (h3:sc.isGenerator=false:=by rfl) (h4:N.Nodup:=by decide +kernel) (h5:N.take ps.length=ps:=by rfl)
  (h6:∀ x∈ps,sc.names.lookup x=some .local\/sc.names.lookup x=some .cell:=by decide +kernel) (h7:∀ y∈sc.names,y.2 ≠ .free:=by decide +kernel):aq N ps sc:=⟨h1,h2,h3,h4,h5,h6,h7⟩
abbrev qP (P:Program) (w:World) (mg:Str->Option Value) (base:Heap) (T:Tb) (q:Str) (st:Stmt) (f:Addr) (N:List Str) (k:Nat) (b:SS):Prop :=
 ∀ {cdv:Value} {A:Around} {outer:List Env} {s:Shared} {H:Hp} {E:XK},Room k (A.deeper (PyProof.Rows.envOfC q (aR st) s.heap.objs.size f cdv))->CA T (λ_=>E) (cL (dA P w) P w T.K mg base N q (aR st) f cdv A outer s H E) ->
  (A.deeper (PyProof.Rows.envOfC q (aR st) s.heap.objs.size f cdv)).units+64<cLine->N.Nodup->cV T (λ_=>E) (cL (dA P w) P w T.K mg base N q (aR st) f cdv A outer s H E) (iS st) b
theorem gf (d:DG T.K mg x st ps) (S:aq N ps (aR st)) (hb:∀ {f},qP P w mg base T x st f N k b):GF P w T mg base (k+1) x (aE ps.length N.length b):=by
 obtain ⟨f,fd,h1,h2,h3,h4⟩:=d;exact ⟨f,fd,_,h1,h2,h3,qH h4 rfl S λcdv A outer s H E hr C=>hb hr C (jo hr) S.nd⟩
theorem gm (d:cP T.K T.cls c m q st ps) (S:aq N ps (aR st)) (no:m∉T.fields c) (hb:∀ {f},qP P w mg base T q st f N k b):GM P w T mg base (k+1) c m (aE ps.length N.length b):=by
 obtain ⟨C,f,fd,h0,hc,h1,h3,h4⟩:=d;exact ⟨⟨C,f,fd,_,h0,hc,h1,h3,qH h4 rfl S λcdv A outer s H E hr C=>hb hr C (jo hr) S.nd⟩,no⟩
theorem gk (d:DI T.K T.cls mg c x q st ps) (S:aq N ps (aR st)) (hb:∀ {f},qP P w mg base T q st f N k b):GK P w T mg base (k+1) c x (aE ps.length N.length b):=by
 obtain ⟨C,f,fd,h0,h1,h2,h3,h4⟩:=d;exact ⟨C,f,fd,_,h0,h1,h2,h3,qH h4 rfl S λcdv A outer s H E hr C=>hb hr C (jo hr) S.nd⟩
theorem gl {f:Addr} {fd:FuncData} (h4:Fun T.K x x st f fd) (S:aq N ps (aR st)) (hb:qP P w mg base T x st f N k b):FnOk P w T.K mg base (dA P w) (k+1) f fd ps (iE T (aE ps.length N.length b)) :=
 qH h4 rfl S λcdv A outer s H E hr C=>hb hr C (jo hr) S.nd
def NA (K:PySem.W.Frag) (x:Str) (v:Option Value):Prop:=PySem.W.nsIn K mainGlobals x=some v
theorem na {v:Option Value} (h:PySem.W.nsIn K mainGlobals x=some v):NA K x v:=h
def FA (K:PySem.W.Frag) (C:Addr) (x:Str):Prop:=PySem.W.findIn K (.ref C) x=some none
theorem fatt (h:PySem.W.findIn K (.ref C) x=some none):FA K C x:=h
end
end Sm
namespace L2
open PySem PySem.Spec PyProof.Rows
theorem uM {P:Program} {w:World}:∀ {kvs:List (aU×V)} {vs:List (aU×Value)} {ns:List Str} {us:List Value},KV kvs vs->kvs.map (·.1)=ns.map Sum.inr->us.length=vs.length->(∀ (i:Nat) (v:Value),us[i]? = some v->∃ k x,vs[i]? = some (k,x)/\(fW P w).is k v=true)->StrsAre us ns
 | [],[],[],[],_,_,_,_=>.nil
 | [],[],_::_,_,_,e,_,_=>by simp at e
 | [],[],[],_::_,_,_,l,_=>by simp at l
 | _::_,_::_,_::_,[],_,_,l,_=>by simp at l
 | _::_,_::_,[],_,_,e,_,_=>by simp at e
 | p::kvs,q::vs,n::ns,u::us,.cons r rs,e,l,f=>by
  simp only [Ny,List.cons.injEq] at e
  obtain ⟨k,x,e1,e2⟩:=f 0 u rfl;have e3:q=(k,x):=by simpa using e1
  have ek:k=Sum.inr n:=by rw [<- e.1,r.1,e3]
  rw [ek] at e2;rw [Co] at e2;rcases iP (k:=Sum.inr n) (v:=u) e2 with ⟨i,t,a1,a2⟩ | ⟨y,t,a1,a2⟩
  ·cases a1
  ·injection a1 with a1
   subst a1 a2
   exact .cons _ _ (uM rs e.2 (by simpa using l) λi v h=>by simpa using f (i+1) v (by simpa using h))
theorem uN:∀ {vs:List Value} {ns:List Str},StrsAre vs ns->Vals (ns.map V.str) vs
 | _,_,.nil=>.nil
 | _,_,.cons y t h=>.cons ⟨t,rfl⟩ (uN h)
theorem StrsAre.len:∀ {vs:List Value} {ns:List Str},StrsAre vs ns->vs.length=ns.length
 | _,_,.nil=>rfl
 | _,_,.cons y t h=>congrArg Nat.succ (StrsAre.len h)
theorem HZ {X:Cx} (hc:X.calm=true):CallR X (.builtin "sorted") (λxs H Q=>∃ (a:Addr) (kvs:List (aU×V)) (ns:List Str),xs=[.ref a]/\H a=some (.dK kvs)/\kvs.map (·.1)=ns.map Sum.inr/\ns.length<64/\∀ (p:Addr) (ns':List Str),H p=none->ns'.Perm ns->sortedS ns'=true->Q (.ref p) (upd H p (.lst (ns'.map V.str)))):=by
 intro pins s σ H xs us Q I rv h;obtain ⟨a,kvs,ns,rfl,ha,hn,h64,q⟩:=h;obtain ⟨u,rfl,ru⟩:=Vals.one rv;obtain rfl:u=Value.ref a:=ru;obtain ⟨z,hd,vs,rel,dd⟩:=jY I.hok ha;obtain ⟨ep,da⟩:=dd.dictAt;have lv:vs.length=kvs.length:=(Paired.length rel).symm;refine PD kind_sorted plain_sorted entry_sorted (args_sorted1 _) ?_
 unfold Builtin.«sorted»
 refine MR (m:=checkCount "sorted" 1 1 _) (MZ (MR (QT (PySem.W.kdl_dict (knd:=fW X.prog X.w) (kvs:=vs) (ep:=ep) hd) (I.ok.hd hc) da (by rw [lv];exact z) λh' tk acc hk hacc=>?_)))
 have hl:acc.toList.length=vs.length:=by rw [Om];exact hacc.1
 have hI:StrsAre acc.toList ns:=uM rel hn hl λi v e=>hacc.2 i v (by rw [<- Pj];exact e)
 have hz:acc.toList.length<=sizeLine:=by rw [hl,lv];exact z
 refine MR (wpAny_newList ?_ hz)
 have hoL:(h'.push (seqObj "list" acc.toList.toArray 0)).get? h'.objs.size=some (seqObj "list" acc.toList.toArray 0):=M9 _ rfl;refine MR (NV (Oa slot_list_sort ⟨_,hoL,rfl⟩ entry_list_sort (list_sort_treeK (s:={ s with heap:=h'.push (seqObj "list" acc.toList.toArray 0),toks:=tk }) strKind_oneLt hoL hI.keysOf (λv₁ v₂ rest e=>keyKind_strs (by rw [<- e];exact hI)) (by rw [StrsAre.len hI];exact h64) λst' hp hs=>⟨_,rfl,MZ ⟨_,rfl,?_⟩⟩) (args_list_sort _)))
 obtain ⟨ns',o1,o2,o3⟩:=sorted_out_str hI hp hs;have I1:Inv X pins σ H { s with heap:=h',toks:=tk }:=I.kept (t' := tk) hk;obtain ⟨e,he⟩:=sortedHeap_at (out:=(arrOf st').map (·.2)) hoL;have l2:ns'.length=ns.length:=o2.length_eq;have l3:ns.length=kvs.length:=by have:=congrArg List.length hn;simpa using this.symm
 refine ⟨.ref h'.objs.size,_,I1.laid (a:=h'.objs.size) (t' := tk) (o:=.lst (ns'.map V.str)) (λb o hb=>?_) (MQ _) ⟨?_,((arrOf st').map (·.2)).toList,e,uN o1,?_⟩,rfl,q _ ns' (I1.hok.fresh (MQ _)) o2 o3⟩
 ·have lt:b<h'.objs.size:=M4 hb
  rw [sortedHeap_old (Nt lt) (by rw [size_push'];exact Pg lt)];exact MU _ hb
 ·rw [M0,l2,l3];exact z
 ·rw [he]
end L2
namespace Sm
open PySem PySem.Spec L2 PyProof.Rows
def gW (a b:Str):Prop:=ltCps b.cps.toList a.cps.toList=false
def gX (x:Str):List Str->List Str
 | []=>[x]
 | y::r=>if ltCps y.cps.toList x.cps.toList then y::gX x r else x::y::r
def iH:List Str->List Str
 | []=>[]
 | x::r=>gX x (iH r)
theorem leS_le {a b:Str}:gW a b ↔ a.cps.toList<=b.cps.toList:=by
 unfold gW;rw [ltCps_eq,P9];exact Iff.rfl
theorem uO (x:Str):∀ l,(gX x l).Perm (x::l)
 | []=>.refl _
 | y::r=>by
  unfold gX;split
  ·exact ((uO x r).cons y).trans (.swap ..)
  ·exact .refl _
theorem gE:∀ l,(iH l).Perm l
 | []=>.refl _
 | x::r=>(uO x (iH r)).trans ((gE r).cons x)
theorem zQ (x:Str):∀ {l:List Str},l.Pairwise gW->(gX x l).Pairwise gW
 | [],_=>P5 ..
 | y::r,h=>by
  obtain ⟨h1,h2⟩:=N8.mp h;unfold gX;split
  ·rename_i q
   refine N8.mpr ⟨λz hz=>?_,zQ x h2⟩
   rcases Nd.mp ((uO x r).mem_iff.mp hz) with rfl | hz
   ·rw [leS_le]
    rw [ltCps_eq,Og] at q;exact List.le_of_lt q
   ·exact h1 z hz
  ·rename_i q
   have q':gW x y:=by simpa [gW] using q
   refine N8.mpr ⟨λz hz=>?_,h⟩
   rcases Nd.mp hz with rfl | hz
   ·exact q'
   ·exact leS_le.mpr (List.le_trans (leS_le.mp q') (leS_le.mp (h1 z hz)))
theorem nY:∀ l,(iH l).Pairwise gW
 | []=>.nil
 | x::r=>zQ x (nY r)
theorem qQ:∀ {l m:List Str},l.Perm m->l.Pairwise gW->m.Pairwise gW->l=m
 | [],m,p,_,_=>(List.nil_perm.mp p).symm
 | x::l,[],p,_,_=>by simp at p
 | x::l,y::m,p,h,g=>by
  obtain ⟨h1,h2⟩:=N8.mp h;obtain ⟨g1,g2⟩:=N8.mp g;have e:x=y:=by
   have a:x∈y::m:=p.mem_iff.mp (NJ ..);have b:y∈x::l:=p.mem_iff.mpr (NJ ..);rcases Nd.mp a with a | a
   ·exact a
   ·rcases Nd.mp b with b | b
    ·exact b.symm
    ·have:x.cps.toList=y.cps.toList:=List.le_antisymm (leS_le.mp (h1 y b)) (leS_le.mp (g1 x a))
     cases x;cases y
     congr 1
     exact P3.mp this
  subst e;rw [qQ (List.Perm.cons_inv p) h2 g2]
theorem zR:∀ (p:Str) (l:List Str),PyProof.Rows.risingS p l=true->(p::l).Pairwise gW
 | p,[],_=>P5 ..
 | p,x::r,h=>by
  have h':(!ltCps x.cps.toList p.cps.toList && PyProof.Rows.risingS x r)=true:=h;rw [Nz] at h';have t:=zR x r h'.2
  have a:gW p x:=by simpa [gW] using h'.1
  refine N8.mpr ⟨λz hz=>?_,t⟩
  rcases Nd.mp hz with rfl | hz
  ·exact a
  ·exact leS_le.mpr (List.le_trans (leS_le.mp a) (leS_le.mp ((N8.mp t).1 z hz)))
theorem zS:∀ (l:List Str),PyProof.Rows.sortedS l=true->l.Pairwise gW
 | [],_=>.nil
 | x::r,h=>zR x r h
def lg:List AV->Option (List Str)
 | []=>some []
 | .str x::r=>(lg r).map (x :: ·)
 | _::_=>none
theorem uP:∀ {l:List AV} {is:List Str},lg l=some is->l=is.map AV.str
 | [],is,e=>by cases e;rfl
 | .str i::r,is,e=>by
  unfold lg at e
  cases q:lg r with
  | none=>rw [q] at e;cases e
  | some js=>rw [q] at e;cases e;rw [uP q];rfl
 | .non::_,_,e | .bl _::_,_,e | .int _::_,_,e | .tup _::_,_,e | .fl _::_,_,e | .ref _::_,_,e | .exc _::_,_,e=>nomatch e
def jE (v:AV) (h:AH):Option (List Str):=match v with
 | .ref n=>(match h[n]? with
  | some (.dct false kvs)=>lg (kvs.map (·.1))
  | _=>none)
 | _=>none
def mr:Fn:=λargs h=>match args with
 | [v]=>(match jE v h with
  | some ns=>if ns.length<64/\∀ x∈ns,x.length<=1000/\x.cps.all (· < 0x110000)=true then .ok (.fl ((iH ns).map AV.str)) h else .bad
  | none=>.bad)
 | _=>.bad
def fw:SS:=λ_ _=>.bad
def nZ (o k:SE):SE:=λen h=>(o en h).bind λx h1=>match x with
 | .ref n=>(match h1[n]? with
  | some (.dct _ _)=>(k en h1).bind λy h2=>fJ n y .non h2
  | _=>.bad)
 | _=>.bad
@[simp] def mw:FM:=λx vs h=>match x,vs with
 | .ref n,[]=>match h[n]? with
  | some (.lst _)=>.ok .non (h.set n (.lst []))
  | _=>.bad
 | _,_=>.bad
section
variable {T:Tb} {E:L2.St->XK} {X:Cx} {pos apos:Pos} {a b c:Expr} {sa sb sc:SE} {st:Stmt}
theorem Ia (hu:X.A.units+64<cLine) (ha:aN T E X a sa) (hb:aN T E X b sb) (hbase:attributeBase a "get" X.env (eval a X.env)=eval a X.env:=by rfl)
  (hfew:((backTo pos (starEach [b] X.env)).all (λx=>!x.1) && (backToKw pos (keywordEach [] X.env)).all (λx=>x.1.isSome) && decide (([b]:List Expr).length+([]:List Keyword).length+(if ([]:List Keyword).isEmpty then 0 else 1)<30))=true:=by rfl)
  (hline:(apos.endLine == pos.line)=true:=by rfl) (htrees:backTo pos (starEach [b] X.env)=[(false,eval b X.env)]:=by rfl):aN T E X (.Call (.Attribute a "get" apos) [b] [] pos) (nZ sa sb):=by
 refine cy (Fo (M8 (Nr (by decide:1<=64) _) hu) ha hb ⟨hbase,hfew,hline,htrees⟩) λσ H Q q=>?_
 obtain ⟨ι,h,en,S,er,q⟩:=q;refine ⟨ι,h,en,S,er,q.bind λx h1 ι1 H1 u g1 S1 r1 q1=>?_⟩
 split at q1
 ·rename_i n
  split at q1
  ·rename_i t0 kvs0 hn0
   cases r1 with
   | @ref _ ad hr =>
    refine ⟨ad,rfl,isD_of S1 hn0 hr,ι1,h1,en,S1,er.mono g1,q1.bind λy h2 ι2 H2 v g2 S2 r2 q2=>?_⟩
    unfold fJ at q2;split at q2
    ·rename_i t kvs hn
     split at q2
     ·rename_i hk
      obtain ⟨o,dg,alt⟩:=qL S2 hn (g2.ext.at_ hr) r2 hk;refine ⟨o,dg,?_⟩
      rcases alt with ⟨v1,rfl⟩ | ⟨v',u',v1,rfl,r4⟩
      ·rw [v1] at q2;exact q2.now S2 .non
      ·rw [v1] at q2;exact q2.now S2 r4
     ·exact q2.elim
    ·exact q2.elim
  ·exact q1.elim
 ·exact q1.elim
theorem uQ {ι:Ix} {H:Hp}:∀ {l:List (AV×AV)} {m:List (aU×V)} {is:List Str},Paired (λ(p:AV×AV) (q:aU×V)=>p.1=kA q.1/\RV T ι H p.2 q.2) l m->l.map (·.1)=is.map AV.str->m.map (·.1)=is.map Sum.inr
 | _,_,[],.nil,_=>rfl
 | _,_,_::_,.nil,e=>by simp at e
 | _,_,[],.cons _ _,e=>by simp at e
 | _,_,i::is,.cons (a:=p) (b:=q) hh t,e=>by
  rw [Ny,Ny] at e ⊢;injection e with e1 e2
  rw [uQ t e2];have e3:kA q.1 = .str i:=by rw [<- hh.1];exact e1
  obtain ⟨k,v⟩:=q
  cases k with
  | inr j=>injection e3 with e3;subst e3;rfl
  | inl x=>cases e3
theorem uR {ι:Ix} {H:Hp}:∀ (ns:List Str),(∀ x∈ns,x.length<=sizeLine/\x.cps.all (· < 0x110000)=true)->RVs T ι H (ns.map AV.str) (ns.map V.str)
 | [],_=>.nil
 | n::ns,h=>.cons (.str (h n (NJ ..)).1 (h n (NJ ..)).2) (uR ns λx hx=>h x (Nv _ hx))
theorem Ib:∃ r,iR X "list.clear" r/\mq T mw r:=by
 refine ⟨_,EU,λι h H x xs u us E Q S rx rs q=>?_⟩
 unfold mw at q;split at q
 ·rename_i n
  split at q
  ·rename_i ys hn
   cases rx with
   | @ref _ ad hr =>
    cases rs
    obtain ⟨o,e1,ws,rfl,rw_⟩:=S.obj n _ ad hn hr;exact ⟨ad,ws,rfl,rfl,e1,q ι _ _ (S.growSet (u:=.lst []) hr) (S.set hr ⟨_,rfl,.nil⟩) .non⟩
  ·exact q.elim
 ·exact q.elim
end
end Sm
namespace L2
open PySem PySem.Spec PyProof.Rows
theorem Ic {X:Cx}:CallR X (.type "dict") (λxs H Q=>∃ (a:Addr) (kvs:List (aU×V)),xs=[.ref a]/\H a=some (.dK kvs)/\∀ (p:Addr),H p=none->Q (.ref p) (upd H p (.dK kvs))):=by
 intro pins s σ H xs us Q I rv h;obtain ⟨a,kvs,rfl,ha,q⟩:=h;obtain ⟨u,rfl,ru⟩:=Vals.one rv;obtain rfl:u=Value.ref a:=ru;obtain ⟨z,hd,vs,rel,dd⟩:=jY I.hok ha;have lv:vs.length=kvs.length:=(Paired.length rel).symm;refine PySem.kt_call_dict hd dd (by rw [lv];exact z) λh' d' sb=>?_
 have ks:∀ b o,s.heap.get? b=some o->h'.get? b=some o:=λb o hb=>(sb.2 b (λe=>absurd (M4 hb) (by rw [e];exact Ot _))).trans (MU _ hb)
 have hs:(s.heap.objs.size == sysModules)=false:=beq_eq_false_iff_ne.mpr (Ne.symm (Nt I.big));exact ⟨.ref s.heap.objs.size,_,I.laid (a:=s.heap.objs.size) (t' := s.toks) (o:=.dK kvs) ks (MQ _) ⟨z,hs,vs,rel,d'⟩,rfl,q _ (I.hok.fresh (MQ _))⟩
end L2
namespace Sm
open PySem PySem.Spec L2 PyProof.Rows
theorem zT:bootBuiltins "dict" = some (.type "dict"):=by decide +kernel
def j8:Fn:=λargs h=>match args with
 | [.ref n]=>(match h[n]? with
  | some (.dct false kvs)=>.ok (.ref h.length) (h++[.dct false kvs])
  | _=>.bad)
 | _=>.bad
theorem zU {T:Tb} {X:Cx}:∃ r,CallR X (.type "dict") r/\ig T j8 r:=by
 refine ⟨_,Ic,λι h H xs us E Q S r q=>?_⟩
 unfold j8 at q;split at q
 ·rename_i n
  split at q
  ·rename_i kvs hn
   cases r with
   | cons r r' =>
    cases r'
    cases r with
    | @ref _ ad hr =>
     obtain ⟨ob,e1,kus,rfl,pr⟩:=S.obj n _ ad hn hr;exact ⟨ad,kus,rfl,e1,λp hp=>q _ _ _ (S.growAdd hp) (S.add hp ⟨_,rfl,Paired.mapP pr λ_ _ ⟨a,b⟩=>⟨a,b.mono (S.growAdd hp)⟩⟩) (.ref S.addAt)⟩
  ·exact q.elim
 ·exact q.elim
end Sm
namespace L2
open PySem PySem.Spec PyProof.Rows
section
variable {P:Program} {w:World} {A:Around} {E:Value->Shared->Prop} {s:Shared}
theorem Ie (d:Addr) (hd:(d == sysModules)=false) {Q:Value->Shared->Prop} (ty:s.TypeIs (.ref d) "dict")
  (q:Q (.ref s.heap.objs.size) { s with heap:=s.heap.push { cls:=.type "dict_keys",data:=.fields #[.ref d] } }):wpAny (model P w) A (call (.builtin "dict.keys") [.ref d]) Q E s:=by
 refine Oa F.slot_dict_keys ty F.entry_dict_keys (MR ?_) (F.args_dict_keys_1 _)
 unfold Builtin.Dict.noArgs;refine MR (Pk ty (show wpAny _ _ (pure d) _ _ s from MZ (show wpAny _ _ (Builtin.Dict.showsAll d >>= _) _ _ s from ?_)))
 unfold Builtin.Dict.showsAll;rw [MX (by rw [hd];exact Ni)];exact MR (MZ (MR (Of (MZ ⟨_,rfl,q⟩))))
end
def qR (p a:Addr):HO:=.ext λh=>PySem.W.KdlKeysView h p a
theorem Ig {X:Cx}:iR X "dict.keys" (λx xs H Q=>∃ a kvs,x = .ref a/\xs=[]/\H a=some (.dK kvs)/\∀ p,H p=none->Q (.ref p) (upd H p (qR p a))):=by
 intro pins s σ H x xs v us Q I rx r h;obtain ⟨a,kvs,rfl,rfl,ha,q⟩:=h
 cases r
 cases rx
 obtain ⟨z,hd,vs,rel,dd⟩:=jY I.hok ha;refine Ie a hd dd.typeIs ⟨.ref s.heap.objs.size,_,I.laid (a:=s.heap.objs.size) (o:=qR s.heap.objs.size a) (t' := s.toks) (λ_ _ z=>MU _ z) (MQ _) ⟨⟨_,M9 _ rfl,rfl,rfl⟩,⟨_,M9 _ rfl⟩,λh1 h2 st k=>st.imp λo e=>⟨k o e.1,e.2⟩⟩,rfl,q _ (I.hok.fresh (MQ _))⟩
theorem Ih {X:Cx} (hc:X.calm=true):CallR X (.builtin "sorted") (λxs H Q=>∃ (v a:Addr) (kvs:List (aU×V)) (ns:List Str),xs=[.ref v]/\H v=some (qR v a)/\H a=some (.dK kvs)/\kvs.map (·.1)=ns.map Sum.inr/\ns.length<64/\∀ (p:Addr) (ns':List Str),H p=none->ns'.Perm ns->sortedS ns'=true->Q (.ref p) (upd H p (.lst (ns'.map V.str)))):=by
 intro pins s σ H xs us Q I rv h;obtain ⟨v,a,kvs,ns,rfl,hv,ha,hn,h64,q⟩:=h;obtain ⟨u,rfl,ru⟩:=Vals.one rv;obtain rfl:u=Value.ref v:=ru;obtain ⟨vw,_⟩:=I.hok v _ hv;obtain ⟨z,hd,vs,rel,dd⟩:=jY I.hok ha;obtain ⟨ep,da⟩:=dd.dictAt;have lv:vs.length=kvs.length:=(Paired.length rel).symm;refine PD kind_sorted plain_sorted entry_sorted (args_sorted1 _) ?_
 unfold Builtin.«sorted»
 refine MR (m:=checkCount "sorted" 1 1 _) (MZ (MR (QT (PySem.W.kdl_keys (knd:=fW X.prog X.w) (kvs:=vs) (ep:=ep) (r:=v) (d:=a)) (I.ok.hd hc) ⟨vw,da⟩ (by rw [lv];exact z) λh' tk acc hk hacc=>?_)))
 have hl:acc.toList.length=vs.length:=by rw [Om];exact hacc.1
 have hI:StrsAre acc.toList ns:=uM rel hn hl λi v e=>hacc.2 i v (by rw [<- Pj];exact e)
 have hz:acc.toList.length<=sizeLine:=by rw [hl,lv];exact z
 refine MR (wpAny_newList ?_ hz)
 have hoL:(h'.push (seqObj "list" acc.toList.toArray 0)).get? h'.objs.size=some (seqObj "list" acc.toList.toArray 0):=M9 _ rfl;refine MR (NV (Oa slot_list_sort ⟨_,hoL,rfl⟩ entry_list_sort (list_sort_treeK (s:={ s with heap:=h'.push (seqObj "list" acc.toList.toArray 0),toks:=tk }) strKind_oneLt hoL hI.keysOf (λv₁ v₂ rest e=>keyKind_strs (by rw [<- e];exact hI)) (by rw [StrsAre.len hI];exact h64) λst' hp hs=>⟨_,rfl,MZ ⟨_,rfl,?_⟩⟩) (args_list_sort _)))
 obtain ⟨ns',o1,o2,o3⟩:=sorted_out_str hI hp hs;have I1:Inv X pins σ H { s with heap:=h',toks:=tk }:=I.kept (t' := tk) hk;obtain ⟨e,he⟩:=sortedHeap_at (out:=(arrOf st').map (·.2)) hoL;have l2:ns'.length=ns.length:=o2.length_eq;have l3:ns.length=kvs.length:=by have:=congrArg List.length hn;simpa using this.symm
 refine ⟨.ref h'.objs.size,_,I1.laid (a:=h'.objs.size) (t' := tk) (o:=.lst (ns'.map V.str)) (λb o hb=>?_) (MQ _) ⟨?_,((arrOf st').map (·.2)).toList,e,uN o1,?_⟩,rfl,q _ ns' (I1.hok.fresh (MQ _)) o2 o3⟩
 ·have lt:b<h'.objs.size:=M4 hb
  rw [sortedHeap_old (Nt lt) (by rw [size_push'];exact Pg lt)];exact MU _ hb
 ·rw [M0,l2,l3];exact z
 ·rw [he]
end L2
namespace Sm
open PySem PySem.Spec L2 PyProof.Rows
def jF (a:SE):SE:=λen h=>(a en h).bind λv h1=>mr [v] h1
section
variable {T:Tb} {E:L2.St->XK} {X:Cx} {p pos apos cpos:Pos} {a:Expr} {sa:SE}
theorem zV (hc:X.calm=true) (hg:Gl X "sorted") (hm:X.mg "sorted" = none) (hb:bootBuiltins "sorted" = some (.builtin "sorted")) (ha:aN T E X a sa) (hbase:attributeBase a "keys" X.env (eval a X.env)=eval a X.env:=by rfl) (hline:(apos.endLine == cpos.line)=true:=by rfl)
  (he:starEach [.Call (.Attribute a "keys" apos) [] [] cpos] X.env=[(false,eval (.Call (.Attribute a "keys" apos) [] [] cpos) X.env)]:=by rfl):aN T E X (.Call (.Name "sorted" p) [.Call (.Attribute a "keys" apos) [] [] cpos] [] pos) (jF sa):=by
 refine cy (tJ (Ih hc) hg hm hb (lX (yD OC PySem.F.slot_dict_keys PySem.F.type_dict_keys Ig ha hbase hline) pZ he) (he:=he)) λσ H Q=>E6x λι h en S er q=>⟨ι,h,en,S,er,q.bind λx h1 ι1 H1 u g1 S1 r1 q1=>?_⟩
 unfold mr at q1;dsimp only at q1
 cases hn:jE x h1 with
 | none=>rw [hn] at q1;exact q1.elim
 | some ns =>
  rw [hn] at q1;dsimp only at q1
  by_cases hz:ns.length<64/\∀ x∈ns,x.length<=1000/\x.cps.all (· < 0x110000)=true
  ·rw [MW hz] at q1
   unfold jE at hn;split at hn
   ·rename_i n
    split at hn
    ·rename_i kvs hk
     cases r1 with
     | @ref _ ad hr =>
      obtain ⟨ob,e1,kus,rfl,pr⟩:=S1.obj n _ ad hk hr;refine ⟨.inr (.inr (.inl ⟨rfl,.inl ⟨_,e1⟩⟩)),ad,kus,rfl,rfl,e1,λp hp=>⟨p,ad,kus,ns,rfl,d7,by rw [bK (fX e1 hp)];exact e1,uQ pr (uP hn),hz.1,λp2 ns' hp2 pm so=>?_⟩⟩
      have:ns'=iH ns:=qQ (pm.trans (gE ns).symm) (zS _ so) (nY ns)
      subst this;have S2:=S1.new (o:=qR p ad) hp
      exact q1 ι1 _ _ ((S1.growNew hp).trans (S2.growNew hp2)) (S2.new hp2) (.fl (S2.fresh hp2) (.of d7) (uR _ λx hx=>⟨MV (hz.2 x ((gE ns).mem_iff.mp hx)).1 (by decide),(hz.2 x ((gE ns).mem_iff.mp hx)).2⟩))
    ·cases hn
   ·cases hn
  ·rw [MX hz] at q1;exact q1.elim
end
end Sm
namespace L2
open PySem PySem.Spec PyProof.Rows
def Ldd (X:Cx) (pins:List (Addr×Obj)) (σ:St) (H:Hp) (a:Addr) (cls:Value) (dx:Option Addr) (s:Shared) (h5:Heap):Prop :=
 Arr X pins σ H a cls dx s/\∃ B a0,gJ X pins H s.heap B/\Heap.FlyingW B X.stack a cls a0 h5/\s.heap.UpToSlots h5/\∃ ob,h5.get? a=some ob/\ob.dict=dx
section
variable {X:Cx} {pins:List (Addr×Obj)} {σ:St} {H:Hp} {a:Addr} {cls:Value} {dx:Option Addr} {s:Shared} {h5 h6:Heap}
theorem Ldd.keeps (L:Ldd X pins σ H a cls dx s h5) (k:∀ b o,h5.get? b=some o->h6.get? b=some o):Ldd X pins σ H a cls dx s h6:=by
 obtain ⟨R,B,a0,fm,fl,sm,ob,e1,e2⟩:=L;exact ⟨R,B,a0,fm,PySem.W.flying_keeps fl k,sm.trans (Heap.UpToSlots.of_keeps k),ob,k _ _ e1,e2⟩
theorem Ldd.inv (L:Ldd X pins σ H a cls dx s h5) (hex:X.ex=[]):Inv X pins σ H { s with heap:=h5 }:=by
 obtain ⟨R,B,a0,fm,fl,sm,_⟩:=L;exact R.inv.flown (t' := s.toks) hex fm fl.1 sm
theorem Ldd.ty {M:Model} (L:Ldd X pins σ H a cls dx s h5):PySem.W.Looks M h5 (typeOf (.ref a)) cls:=by
 obtain ⟨R,B,a0,fm,fl,sm,_⟩:=L;obtain ⟨oe,vs,hoe,hoec,_⟩:=fl.first;exact hoec▸Gk hoe
end
abbrev HG:=dy->St->Value->Option Addr->Hp->Prop
def qS (X:Cx) (hs:List ExceptHandler) (g:HG):Prop :=
 ∀ (pins:List (Addr×Obj)) (σ:St) (H:Hp) (a:Addr) (cls:Value) (dx:Option Addr) (s:Shared) (h5:Heap) (D:dy),Ldd X pins σ H a cls dx s h5->g D σ cls dx H ->
  wpAny (model X.prog X.w) X.A (handleBy (.ref a) X.env hs) (SP X pins D) X.xe { s with heap:=h5 }
section
variable {X:Cx} {C C1 C2:Addr} {x1 x2 xc n:Str} {i kk:Nat} {p1 p2 tp hpos np pos:Pos} {b0:Stmt} {suite body:List Stmt} {rest:List ExceptHandler} {th:TS} {g:HG} {outer:List Env}
theorem Ii (hex:X.ex=[]) (hg:Gl X xc) (hm:X.mg xc=some (.ref C)) (hh:∀ a,gb (cN X a) (b0::suite) th) (hdb:(xc == ("__debug__" : Str))=false:=by decide) :
  qS X [.ExceptHandler (some (.Name xc np)) none (b0::suite) hpos] (λD σ cls _ H=>PySem.W.exmOne X.K cls (.ref C)=some true/\th { nx:=D.nx,rt:=D.rt,bk:=D.bk,ct:=D.ct } σ H):=by
 intro pins σ H a cls dx s h5 D L ⟨hxm,q⟩;have I5:=L.inv hex;have okX:=I5.ok;have ty:=L.ty (M:=model X.prog X.w);refine QX (Qy (lT (X:=cN X a) (I5.hdl a) hg hm ?_ hdb)) (by intro z;cases z)
 refine (PySem.W.exm_one I5.kIn ty hxm).here ?_
 refine codeAny_handlers_suite ?_
 obtain ⟨R,B,a0,fm,fl,sm,_⟩:=L;refine lands_againW fl λh6 fl6 sm6=>?_
 have I6:Inv X pins σ H { s with heap:=h6 }:=R.inv.flown (t' := s.toks) hex fm fl6.1 (sm.trans sm6);refine NC (hh a pins _ _ _ _ (I6.hdl a) q) (λf s9 q9=>?_) λ_ _ z=>z.elim
 cases f with
 | next=>obtain ⟨σ2,H2,I2,q2⟩:=q9;exact ⟨σ2,H2,I2.unhdl okX,q2⟩
 | brk=>obtain ⟨σ2,H2,I2,q2⟩:=q9;exact ⟨σ2,H2,I2.unhdl okX,q2⟩
 | cont=>obtain ⟨σ2,H2,I2,q2⟩:=q9;exact ⟨σ2,H2,I2.unhdl okX,q2⟩
 | ret u=>obtain ⟨v2,σ2,H2,I2,r2,q2⟩:=q9;exact ⟨v2,σ2,H2,I2.unhdl okX,r2,q2⟩
theorem zW (hex:X.ex=[]) (hN:X.N.Nodup) (hi:X.N[i]? = some n) (hl:X.env.scope.names.lookup n=some .local) (hg1:Gl X x1) (hm1:X.mg x1=some (.ref C1)) (hg2:Gl X x2) (hm2:X.mg x2=some (.ref C2)) (hh:∀ a,gb (cN X a) (b0::suite) th) (hr:qS X rest g)
  (d1:(x1 == ("__debug__" : Str))=false:=by decide) (d2:(x2 == ("__debug__" : Str))=false:=by decide) :
  qS X (.ExceptHandler (some (.Tuple [.Name x1 p1,.Name x2 p2] kk tp)) (some n) (b0::suite) hpos::rest) (λD σ cls dx H =>
   (PySem.W.exmAny X.K cls [.ref C1,.ref C2]=some false/\g D σ cls dx H) \/
   (PySem.W.exmAny X.K cls [.ref C1,.ref C2]=some true/\∀ a,H a=none->th { nx:=λσ2 H2=>D.nx (σ2.set i none) H2,rt:=D.rt,bk:=λσ2 H2=>D.bk (σ2.set i none) H2,ct:=λσ2 H2=>D.ct (σ2.set i none) H2 } (σ.set i (some (.ref a))) (upd H a (iz a cls dx)))):=by
 intro pins σ H a cls dx s h5 D L q;have I5:=L.inv hex;have okX:=I5.ok;have kp:∀ q o,h5.get? q=some o->(h5.push { cls:=.type "tuple",data:=.seq [.ref C1,.ref C2].toArray }).get? q=some o:=λ_ _ z=>MU _ z
 have L6:=L.keeps kp;have I6:=L6.inv hex;have ty:=L6.ty (M:=model X.prog X.w);refine QX (Qy ?_) (by intro z;cases z)
 refine wpAny_Tuple ?_
 refine wpAny_items_cons (lT (X:=cN X a) (I5.hdl a) hg1 hm1 ?_ d1)
 refine wpAny_items_cons (lT (X:=cN X a) (I5.hdl a) hg2 hm2 ?_ d2)
 refine wpAny_items_nil ⟨by size_fits,?_⟩
 rcases q with ⟨hx,q⟩ | ⟨hx,q⟩
 ·exact (PySem.W.exm_tup2 I6.kIn ty (M9 h5 rfl) hx).here (hr pins σ H a cls dx s _ D L6 q)
 ·refine (PySem.W.exm_tup2 I6.kIn ty (M9 h5 rfl) hx).here ?_
  refine codeAny_handlers_suite_as ?_
  obtain ⟨R,B,a0,fm,fl,sm,dk⟩:=L6;refine Gj fl dk λh7 fl7 sm7 dk7=>?_
  have I7:Inv X pins σ H { s with heap:=h7 }:=R.inv.flown (t' := s.toks) hex fm fl7.1 (sm.trans sm7);obtain ⟨oe6,vs6,hoe6,hoec6,hoed6,_⟩:=fl7.first;have I8:Inv X pins σ (upd H a (iz a cls dx)) { s with heap:=h7 }:=I7.adopt0 R.un R.new R.nl R.nc R.np
   ⟨⟨oe6,vs6,hoe6,hoec6,hoed6,by obtain ⟨ob,e1,e2⟩:=dk7;rw [show h7.get? a=some oe6 from hoe6] at e1;cases e1;exact e2⟩,⟨oe6,hoe6⟩,λg1 g2 ⟨ob,ws,z1,z2,z3⟩ k=>⟨ob,ws,k ob z1,z2,z3⟩⟩
  refine lS (X:=cN X a) (I8.hdl a) hN hi (.inl hl) (v:=.ref a) rfl (λs8 I8=>?_) (.inr hl)
  refine NC (hh a pins s8 _ _ _ I8 (q a R.un)) (λf s9 q9=>?_) λ_ _ z=>z.elim
  cases f with
  | next=>obtain ⟨σ2,H2,I2,q2⟩:=q9;exact qk (I2.unhdl okX) hN hi hl λs' I' => ⟨_,H2,I',q2⟩
  | brk=>obtain ⟨σ2,H2,I2,q2⟩:=q9;exact qk (I2.unhdl okX) hN hi hl λs' I' => ⟨_,H2,I',q2⟩
  | cont=>obtain ⟨σ2,H2,I2,q2⟩:=q9;exact qk (I2.unhdl okX) hN hi hl λs' I' => ⟨_,H2,I',q2⟩
  | ret u=>obtain ⟨v2,σ2,H2,I2,r2,q2⟩:=q9;exact qk (I2.unhdl okX) hN hi hl λs' I' => ⟨v2,_,H2,I',r2,q2⟩
def Ij (g:HG) (tb:(St->XK)->TS):TS:=λD σ H=>tb (λσ' cls dx H' => g D σ' cls dx H') D σ H
theorem Ik {h0:ExceptHandler} {hs:List ExceptHandler} {tb:(St->XK)->TS} (hex:X.ex=[]) (hst:X.stack=X.env::outer) (hf:X.env.frame=some X.env.locals) (hh:qS X (h0::hs) g)
  (hb:∀ pins xe Ex,kM (dA X.prog X.w) (tryC X pins xe) Ex->ue (tryC X pins xe) Ex->gb (tryC X pins xe) body (tb Ex)):PS X (.Try body (h0::hs) [] [] pos) (Ij g tb):=by
 intro pins s σ H D I h;have okX:=I.ok;let Ex:St->XK:=λσ' cls dx H' => g D σ' cls dx H'
 let xe:Value->Shared->Prop:=λe s' => ∃ σ' H' a cls dx,e = .ref a/\Arr X pins σ' H' a cls dx s'/\Ex σ' cls dx H'
 have hR:ue (tryC X pins xe) Ex:=λpins' σ' H' s' a cls dx R q=>⟨σ',H',a,cls,dx,rfl,R.untry,q⟩
 have hP:kM (dA X.prog X.w) (tryC X pins xe) Ex:=λpins' σ' H' s1 e s2 I' hq=>by
  obtain ⟨a,cls,dx,H2,rfl,R,q⟩:=yV (X:=tryC X pins xe) I' hex hq;exact ⟨σ',H2,a,cls,dx,rfl,R.untry,q⟩
 have hbody:=hb pins xe Ex hP hR [] s σ H D (I.toTry (xe:=xe)) h;refine wpAny_Try_except (NC hbody (λf s1 q=>?_) λe s1 q=>?_)
 ·cases f with
  | next=>obtain ⟨σ1,H1,I1,q1⟩:=q;exact Pp ⟨σ1,H1,I1.untry,q1⟩
  | brk=>obtain ⟨σ1,H1,I1,q1⟩:=q;exact ⟨σ1,H1,I1.untry,q1⟩
  | cont=>obtain ⟨σ1,H1,I1,q1⟩:=q;exact ⟨σ1,H1,I1.untry,q1⟩
  | ret u=>obtain ⟨v1,σ1,H1,I1,r1,q1⟩:=q;exact ⟨v1,σ1,H1,I1.untry,r1,q1⟩
 ·obtain ⟨σ1,H1,a,cls,dx,rfl,R,q1⟩:=q
  refine R.land hex okX.frames hst hf λh5 B a0 fm fl sm I5 dk=>?_
  exact hh pins σ1 H1 a cls dx s1 h5 D ⟨R,B,a0,fm,fl,sm,dk⟩ q1
end
end L2
namespace Sm
open PySem PySem.Spec L2 PyProof.Rows
def qT (i:Nat) (o:OutS):OutS:=match o with
 | .nx e2 h2=>.nx (e2.set i none) h2
 | .bk e2 h2=>.bk (e2.set i none) h2
 | .ct e2 h2=>.ct (e2.set i none) h2
 | .rt v h2=>.rt v h2
 | _=>.bad
def zX (o:OutS):OutS:=match o with
 | .ex _ _ _=>.bad
 | o=>o
def qU (i:Nat) (c1 c2 c3:Nat->Bool) (b d1 d2 d3:SS):SS:=λen h=>match b en h with
 | .ex c e h' => if c1 c=true then qT i (d1 (e.set i (some (.exc c))) h') else if c2 c=true then qT i (d2 (e.set i (some (.exc c))) h') else if c3 c=true then zX (d3 e h') else .bad
 | o=>o
def CU (T:Tb) (mg:Str->Option Value) (x:Str) (f:Nat->Bool):Prop:=∃ C,mg x=some (.ref C)/\∀ c C',T.exc c=some C'->PySem.W.exmOne T.K (.ref C') (.ref C)=some (f c)
section
variable {T:Tb} {E:L2.St->XK} {X:Cx} {pos p1 p2 p3 p4 tp tp2 np hp1 hp2 hp3:Pos} {k1 k2:Nat}
theorem zY {mg:Str->Option Value} {x1 x2:Str} {f1 f2:Nat->Bool} (u1:CU T mg x1 f1) (u2:CU T mg x2 f2):∃ C1 C2,mg x1=some (.ref C1)/\mg x2=some (.ref C2)/\∀ c C',T.exc c=some C'->PySem.W.exmAny T.K (.ref C') [.ref C1,.ref C2]=some (f1 c || f2 c):=by
 obtain ⟨C1,m1,e1⟩:=u1;obtain ⟨C2,m2,e2⟩:=u2;refine ⟨C1,C2,m1,m2,λc C' h=>?_⟩
 simp only [PySem.W.exmAny,e1 c C' h,e2 c C' h,Bool.or_false]
theorem Il {x1 x2 x3 x4 x5 n:Str} {i:Nat} {body s1 s2 s3:List Stmt} {b1 b2 b3:Stmt} {sb d1 d2 d3:SS} {outer:List Env} {f1 f2 f3 f4 f5:Nat->Bool} (hK:X.K=T.K) (hN:X.N.Nodup)
  (hg1:Gl X x1) (hg2:Gl X x2) (hg3:Gl X x3) (hg4:Gl X x4) (hg5:Gl X x5) (u1:CU T X.mg x1 f1) (u2:CU T X.mg x2 f2) (u3:CU T X.mg x3 f3) (u4:CU T X.mg x4 f4) (u5:CU T X.mg x5 f5)
  (hb:∀ pins xe Ex,CA T Ex (tryC X pins xe)->ue (tryC X pins xe) Ex->cV T Ex (tryC X pins xe) body sb)
  (h1:∀ a,CA T EN (cN X a)->cV T EN (cN X a) (b1::s1) d1) (h2:∀ a,CA T EN (cN X a)->cV T EN (cN X a) (b2::s2) d2) (h3:∀ a,CA T EN (cN X a)->cV T EN (cN X a) (b3::s3) d3)
  (hex:X.ex=[]:=by rfl) (hst:X.stack=X.env::outer:=by rfl) (hf:X.env.frame=some X.env.locals:=by rfl) (hi:X.N[i]? = some n:=by rfl) (hl:X.env.scope.names.lookup n=some .local:=by rfl)
  (q1:(x1 == ("__debug__" : Str))=false:=by decide) (q2:(x2 == ("__debug__" : Str))=false:=by decide) (q3:(x3 == ("__debug__" : Str))=false:=by decide) (q4:(x4 == ("__debug__" : Str))=false:=by decide) (q5:(x5 == ("__debug__" : Str))=false:=by decide) :
  gL T E X (.Try body [.ExceptHandler (some (.Tuple [.Name x1 p1,.Name x2 p2] k1 tp)) (some n) (b1::s1) hp1,.ExceptHandler (some (.Tuple [.Name x3 p3,.Name x4 p4] k2 tp2)) (some n) (b2::s2) hp2,.ExceptHandler (some (.Name x5 np)) none (b3::s3) hp3] [] [] pos)
   (qU i (λc=>f1 c || f2 c) (λc=>f3 c || f4 c) f5 sb d1 d2 d3):=by
 obtain ⟨C1,C2,m1,m2,e12⟩:=zY u1 u2;obtain ⟨C3,C4,m3,m4,e34⟩:=zY u3 u4;obtain ⟨C5,m5,e5⟩:=u5;refine iB (Ik hex hst hf (zW hex hN hi hl hg1 m1 hg2 m2 (λa=>h1 a (CA.never hK)) (zW hex hN hi hl hg3 m3 hg4 m4 (λa=>h2 a (CA.never hK)) (Ii hex hg5 m5 (λa=>h3 a (CA.never hK)) q5) q3 q4) q1 q2) (λpins xe Ex h1 h2=>hb pins xe Ex ⟨hK,h1⟩ h2)) λD σ H=>E6x λι h en S er q=>⟨ι,h,en,S,er,?_⟩
 unfold qU at q
 cases z1:sb en h with
 | nx e2 h2=>rw [z1] at q;exact q
 | rt v h2=>rw [z1] at q;exact q
 | bk e2 h2=>rw [z1] at q;exact q
 | ct e2 h2=>rw [z1] at q;exact q
 | bad=>rw [z1] at q;exact q
 | ex c e2 h2 =>
  rw [z1] at q;dsimp only at q
  intro ι' H' σ' C' g S' er' ec;have w12:=e12 c C'.1 ec.1;have w34:=e34 c C'.1 ec.1;have w5:=e5 c C'.1 ec.1;rw [<- hK] at w12 w34 w5;by_cases hc1:(f1 c || f2 c)=true
  ·rw [MW hc1] at q
   rw [hc1] at w12;refine .inr ⟨w12,λa hn=>⟨ι',h2,e2.set i (some (.exc c)),S'.new hn,(er'.mono (S'.growNew hn)).set (.exc (S'.fresh hn) ⟨ec.1,ec.2.ext (S'.growNew hn).ext⟩ d7) i,?_⟩⟩
   have q2:=PostS.shift q (g.trans (S'.growNew (o:=iz a (.ref C'.1) C'.2) hn));unfold qT at q2
   cases z3:d1 (e2.set i (some (.exc c))) h2 with
   | nx e4 h4=>rw [z3] at q2;exact λι5 H5 σ5 g5 S5 er5=>q2 ι5 H5 _ g5 S5 (er5.unset i)
   | bk e4 h4=>rw [z3] at q2;exact λι5 H5 σ5 g5 S5 er5=>q2 ι5 H5 _ g5 S5 (er5.unset i)
   | ct e4 h4=>rw [z3] at q2;exact λι5 H5 σ5 g5 S5 er5=>q2 ι5 H5 _ g5 S5 (er5.unset i)
   | rt v h4=>rw [z3] at q2;exact q2
   | ex c' e4 h4=>rw [z3] at q2;exact (show False from q2).elim
   | bad=>rw [z3] at q2;exact q2
  ·rw [MX hc1] at q
   rw [Rf.mpr hc1] at w12;refine .inl ⟨w12,?_⟩
   by_cases hc2:(f3 c || f4 c)=true
   ·rw [MW hc2] at q
    rw [hc2] at w34;refine .inr ⟨w34,λa hn=>⟨ι',h2,e2.set i (some (.exc c)),S'.new hn,(er'.mono (S'.growNew hn)).set (.exc (S'.fresh hn) ⟨ec.1,ec.2.ext (S'.growNew hn).ext⟩ d7) i,?_⟩⟩
    have q2:=PostS.shift q (g.trans (S'.growNew (o:=iz a (.ref C'.1) C'.2) hn));unfold qT at q2
    cases z3:d2 (e2.set i (some (.exc c))) h2 with
    | nx e4 h4=>rw [z3] at q2;exact λι5 H5 σ5 g5 S5 er5=>q2 ι5 H5 _ g5 S5 (er5.unset i)
    | bk e4 h4=>rw [z3] at q2;exact λι5 H5 σ5 g5 S5 er5=>q2 ι5 H5 _ g5 S5 (er5.unset i)
    | ct e4 h4=>rw [z3] at q2;exact λι5 H5 σ5 g5 S5 er5=>q2 ι5 H5 _ g5 S5 (er5.unset i)
    | rt v h4=>rw [z3] at q2;exact q2
    | ex c' e4 h4=>rw [z3] at q2;exact (show False from q2).elim
    | bad=>rw [z3] at q2;exact q2
   ·rw [MX hc2] at q
    rw [Rf.mpr hc2] at w34;refine .inl ⟨w34,?_⟩
    by_cases hc3:f5 c=true
    ·rw [MW hc3] at q
     rw [hc3] at w5;refine ⟨w5,ι',h2,e2,S',er',?_⟩
     have q2:=PostS.shift q g;unfold zX at q2
     cases z3:d3 e2 h2 with
     | nx e4 h4=>rw [z3] at q2;exact q2
     | bk e4 h4=>rw [z3] at q2;exact q2
     | ct e4 h4=>rw [z3] at q2;exact q2
     | rt v h4=>rw [z3] at q2;exact q2
     | ex c' e4 h4=>rw [z3] at q2;exact (show False from q2).elim
     | bad=>rw [z3] at q2;exact q2
    ·rw [MX hc3] at q;exact (show False from q).elim
end
end Sm
namespace L2
open PySem PySem.Spec PyProof.Rows
theorem Im (a b:Expr) (sp:Pos) (args:List Expr) (keywords:List Keyword) (pos:Pos) (env:Env):eval (.Call (.Subscript a b sp) args keywords pos) env=(do
  callWith pos (<- eval (.Subscript a b sp) env) [] (backTo pos (starEach args env)) (backToKw pos (keywordEach keywords env))):=rfl
end L2
namespace Sm
open PySem PySem.Spec L2 PyProof.Rows
def gY (F1 F2:Fn) (i:SE) (as:SL):SE:=λen h=>(i en h).bind λv h1=>match v with
 | .int 0=>aC F1 as en h1
 | .int 1=>aC F2 as en h1
 | _=>.bad
section
variable {T:Tb} {E:L2.St->XK} {X:Cx} {pos p1 p2 lp sp:Pos} {e b:Expr} {es:List Expr} {x1 x2:Str} {F1 F2:Fn} {k1 k2:Nat} {as:SL} {sb:SE}
theorem Io (hK:X.K=T.K) (C:CA T E X) (G1:GF X.prog X.w T X.mg X.base k1 x1 F1) (G2:GF X.prog X.w T X.mg X.base k2 x2 F2) (hr1:Room k1 X.A) (hr2:Room k2 X.A) (hg1:Gl X x1) (hg2:Gl X x2) (hb:aN T E X b sb) (ha:gh T E X (e::es) as)
  (d1:(x1 == ("__debug__" : Str))=false:=by decide) (d2:(x2 == ("__debug__" : Str))=false:=by decide) (hs:tL b:=by exact λ_ _=>rfl)
  (he:starEach (e::es) X.env=(false,eval e X.env)::starEach es X.env:=by rfl) (hpl:(backTo pos (starEach es X.env)).any (·.1)=false:=by rfl)
  (s1:starEach [.Name x1 p1,.Name x2 p2] X.env=(false,eval (.Name x1 p1) X.env)::starEach [.Name x2 p2] X.env:=by rfl) (s2:starEach [.Name x2 p2] X.env=(false,eval (.Name x2 p2) X.env)::starEach [] X.env:=by rfl) :
  aN T E X (.Call (.Subscript (.List [.Name x1 p1,.Name x2 p2] lp) b sp) (e::es) [] pos) (gY F1 F2 sb as):=by
 obtain ⟨f1,fd1,ps1,a1,a2,a3,a4⟩:=G1.ex;obtain ⟨f2,fd2,ps2,b1,b2,b3,b4⟩:=G2.ex;intro pins s σ H Q I ⟨ι,h,en,S,er,q⟩;rw [Im];have one:∀ {F:Fn} {f:Addr} {fd:FuncData} {ps:List Str} {k:Nat},PySem.W.keepIn T.K (.ref f)=true->Binds T.K fd ps []->FnOk X.prog X.w T.K X.mg X.base (dA X.prog X.w) k f fd ps (iE T F)->Room k X.A ->
   ∀ (s1:Shared) (H1:Hp),Inv X pins σ H1 s1->tE T E (aC F as) σ H1 Q->wpAny (model X.prog X.w) X.A (callWith pos (.ref f) [] (backTo pos (starEach (e::es) X.env)) (backToKw pos (keywordEach [] X.env))) (EP X pins σ Q) X.xe s1:=by
  intro F f fd ps k c2 c3 c4 hr s1 H1 I1 q1;obtain ⟨ι,h,en,S,er,q1⟩:=q1;refine Px (h₀:=X.base) I1.ok.mod.kin (hK▸c2) (thn (ha pos pins s1 σ H1 (λvs H2=>iE T F (vs++[]) H2 Q (E σ)) I1 ⟨ι,h,en,S,er,q1.bind λxs h1 ι1 H1 us g1 S1 r1 q1=>?_⟩) λus s2 ⟨vs,H2,I2,r,q⟩=>⟨I2.kIn,?_⟩) he hpl
  ·rw [O4]
   exact ⟨ι1,h1,xs,S1,r1,q1⟩
  ·exact qj (hK▸c4) hr (hK▸c3) .nil C.pass I2 r q
 refine MR (thn (yA (X:=X) zgq (tG (lX (sJ (v:=.ref f1) hg1 a1 rfl d1) (lX (sJ (v:=.ref f2) hg2 b1 rfl d2) pZ s2) s1)) hb hs pins s σ H (λv H1=>(v = .ref f1/\tE T E (aC F1 as) σ H1 Q)\/(v = .ref f2/\tE T E (aC F2 as) σ H1 Q)) I ?_) λu s1 ⟨v,H1,I1,rv,q1⟩=>?_)
 ·refine ⟨by show 2<=sizeLine;decide,λp hp=>⟨ι,h,en,S.new hp,er.mono (S.growNew hp),(q.shift (S.growNew hp)).bind λy h1 ι1 H1 u g1 S1 r1 q1=>?_⟩⟩
  have lp1:H1 p=some (.lst [.ref f1,.ref f2]):=g1.keep p _ (λz=>S.fresh hp (Nh _ z)) d7;split at q1
  ·cases r1
   exact ⟨p,_,0,.ref f1,rfl,rfl,.inl (.inl lp1),rfl,.inl ⟨rfl,ι1,h1,en,S1,(er.mono (S.growNew hp)).mono g1,q1⟩⟩
  ·cases r1
   exact ⟨p,_,1,.ref f2,rfl,rfl,.inl (.inl lp1),rfl,.inr ⟨rfl,ι1,h1,en,S1,(er.mono (S.growNew hp)).mono g1,q1⟩⟩
  ·exact q1.elim
 ·rcases q1 with ⟨rfl,q1⟩ | ⟨rfl,q1⟩
  ·obtain rfl:u=Value.ref f1:=rv
   exact one a2 a3 a4 hr1 s1 H1 I1 q1
  ·obtain rfl:u=Value.ref f2:=rv
   exact one b2 b3 b4 hr2 s1 H1 I1 q1
end
def n9 (kvs:List (AV×AV)) (k:AV):List (AV×AV):=kvs.filter λp=>decide (¬ p.1=k)
def i5 (a b:SE):SE:=λen h=>(a en h).bind λx h1=>match x with
 | .ref n=>(match h1[n]? with
  | some (.dct false _)=>(b en h1).bind λy h2=>(match h2[n]? with
   | some (.dct false kvs)=>if d0 false y=true then (match bD kvs y with
    | some v=>.ok v (h2.set n (.dct false (n9 kvs y)))
    | none=>.bad) else .bad
   | _=>.bad)
  | _=>.bad)
 | _=>.bad
section
variable {T:Tb} {E:L2.St->XK} {X:Cx} {pos apos:Pos} {a b:Expr} {sa sb:SE}
theorem zZ {κ:Type} [DecidableEq κ] {ι:Ix} {H:Hp} {f:κ->AV} (hf:∀ {a b},f a=f b->a=b) {k:κ}:∀ {kvs:List (AV×AV)} {kus:List (κ×V)},Paired (λ(p:AV×AV) (q:κ×V)=>p.1=f q.1/\RV T ι H p.2 q.2) kvs kus ->
  Paired (λ(p:AV×AV) (q:κ×V)=>p.1=f q.1/\RV T ι H p.2 q.2) (n9 kvs (f k)) (ji kus k)
 | _,_,.nil=>.nil
 | (a,v)::kvs,(j,u)::kus,.cons ⟨e,r⟩ rs=>by
  have ih:=zZ hf (k:=k) rs;unfold n9 ji at ih ⊢
  rw [OB,OB];by_cases h:j=k
  ·have h':a=f k:=by rw [<- h];exact e
   rw [MX (by simp [h']),MX (by simp [h])];exact ih
  ·have h' : ¬ a=f k:=λz=>h (hf (e.symm.trans z))
   rw [MW (by simp [h']),MW (by simp [h])];exact .cons ⟨e,r⟩ ih
theorem z8 (ha:aN T E X a sa) (hb:aN T E X b sb) (hbase:attributeBase a "pop" X.env (eval a X.env)=eval a X.env:=by rfl)
  (hfew:((backTo pos (starEach [b] X.env)).all (λx=>!x.1) && (backToKw pos (keywordEach [] X.env)).all (λx=>x.1.isSome) && decide (([b]:List Expr).length+([]:List Keyword).length+(if ([]:List Keyword).isEmpty then 0 else 1)<30))=true:=by rfl)
  (hline:(apos.endLine == pos.line)=true:=by rfl) (htrees:backTo pos (starEach [b] X.env)=[(false,eval b X.env)]:=by rfl):aN T E X (.Call (.Attribute a "pop" apos) [b] [] pos) (i5 sa sb):=by
 refine cy (Fq ha hb ⟨hbase,hfew,hline,htrees⟩) λσ H Q q=>?_
 obtain ⟨ι,h,en,S,er,q⟩:=q;refine ⟨ι,h,en,S,er,q.bind λx h1 ι1 H1 u g1 S1 r1 q1=>?_⟩
 split at q1
 ·rename_i n
  split at q1
  ·rename_i kvs0 hn0
   cases r1 with
   | @ref _ ad hr =>
    refine ⟨ad,rfl,isD_of S1 hn0 hr,ι1,h1,en,S1,er.mono g1,q1.bind λy h2 ι2 H2 v g2 S2 r2 q2=>?_⟩
    split at q2
    ·rename_i kvs hn
     by_cases hk:d0 false y=true
     ·rw [MW hk] at q2
      have hr2:=g2.at hr;obtain ⟨ob,e1,kus,rfl,r⟩:=S2.obj n _ ad hn hr2;have hk':(keyOf? y).isSome=true:=hk;obtain ⟨k,ek⟩:=Nn.mp hk';have:=qJ ek;subst this;rcases nO nN r (k:=k) with ⟨w1,w2⟩ | ⟨v',u',w1,w2,w3⟩
      ·rw [w1] at q2;exact q2.elim
      ·rw [w1] at q2
       have g3:=S2.growSet (u:=.dK (ji kus k)) hr2;exact ⟨kus,k,u',e1,qI r2,w2,q2 ι2 _ _ g3 (S2.set hr2 ⟨_,rfl,Paired.mapP (zZ nN r) λ_ _ ⟨p,q⟩=>⟨p,q.mono g3⟩⟩) (w3.mono g3)⟩
     ·rw [MX hk] at q2;exact q2.elim
    ·exact q2.elim
  ·exact q1.elim
 ·exact q1.elim
end
end Sm
namespace L2
open PySem PySem.Spec PyProof.Rows PySem.SeqAt PySem.AutoSeq1 PySem.MeetsSeq PySem.MeetsSeq2 PySem.MeetsSeq3 PySem.SeqRoads2
section
variable {A:Around} {s:Shared} {d l:Addr} {es:Array DictEntry} {n:Nat} {dd:Option Addr} {sl:Array (Option Value)}
theorem z9 {prog:Program} {w:World} {E Q:Value->Shared->Prop} {b:Value} {T:String} (ty:s.TypeIs (.ref d) "dict") (tb:s.TypeIs b T) (sub:isSubtype (.type T) (.type "dict")=pure false) (h:Q .notImplemented s):wpAny (model prog w) A (call (.builtin "dict.__eq__") [.ref d,b]) Q E s:=by
 refine Oa QE ty PySem.F.entry_dict_eq ?_ (PySem.F.args_dict_eq_2 _ _)
 show wpAny _ _ (Builtin.Dict.dictSlotArgs "__eq__" ⟨[.ref d,b],[]⟩ >>= _) _ _ s
 refine MR ?_
 unfold Builtin.Dict.dictSlotArgs;refine MR (Pk ty ?_)
 show wpAny _ _ (pure (Value.ref d,b)) _ _ s
 refine MZ ?_
 refine MR (wpAny_isInstance (T:=T) tb sub ?_)
 simp only [Bool.not_false,OT]
 refine MR (Q8 (MR (MZ (MZ ?_))))
 exact ⟨_,rfl,h⟩
theorem Ip (b:Str) (u:Tok):Meets (Builtin.«str.__eq__» ⟨[.str b u,.ref d],[]⟩) (λ_ R s=>s.heap.get? d=some { cls:=.type "dict",dict:=dd,data:=.dict es n,slots:=sl }/\R (.ok (.ret .notImplemented)) s) :=
 .of_wp λprog w A R s h=>by obtain ⟨hp,g,dr,tk,os⟩:=s;obtain ⟨hl,h⟩:=h;wp_walk using Ol hl,Pa hl;exact ⟨_,rfl,h⟩
theorem Iq (b:Int) (u:Tok):Meets (Builtin.«int.__eq__» ⟨[.int b u,.ref d],[]⟩) (λ_ R s=>s.heap.get? d=some { cls:=.type "dict",dict:=dd,data:=.dict es n,slots:=sl }/\R (.ok (.ret .notImplemented)) s) :=
 .of_wp λprog w A R s h=>by obtain ⟨hp,g,dr,tk,os⟩:=s;obtain ⟨hl,h⟩:=h;wp_walk using Ol hl,Pa hl;exact ⟨_,rfl,h⟩
theorem Ir (b:Bool):Meets (Builtin.«int.__eq__» ⟨[.bool b,.ref d],[]⟩) (λ_ R s=>s.heap.get? d=some { cls:=.type "dict",dict:=dd,data:=.dict es n,slots:=sl }/\R (.ok (.ret .notImplemented)) s) :=
 .of_wp λprog w A R s h=>by obtain ⟨hp,g,dr,tk,os⟩:=s;obtain ⟨hl,h⟩:=h;wp_walk using Ol hl,Pa hl;exact ⟨_,rfl,h⟩
theorem Iu (items:Array Value) (n2:Nat) (dd2:Option Addr) (sl2:Array (Option Value)):Meets (Builtin.«list.__eq__» ⟨[.ref l,.ref d],[]⟩) (λ_ R s=>s.heap.get? l=some { cls:=.type "list",dict:=dd2,data:=.seq items n2,slots:=sl2 }/\s.heap.get? d=some { cls:=.type "dict",dict:=dd,data:=.dict es n,slots:=sl }/\R (.ok (.ret .notImplemented)) s) :=
 .of_wp λprog w A R s h=>by obtain ⟨hp,g,dr,tk,os⟩:=s;obtain ⟨hl,hd,h⟩:=h;have f1:=PySem.F.sub_dict_list;wp_walk using Ol hl,Ol hd;exact ⟨_,rfl,h⟩
theorem Iv (items:Array Value) (n2:Nat) (dd2:Option Addr) (sl2:Array (Option Value)):Meets (Builtin.«tuple.__eq__» ⟨[.ref l,.ref d],[]⟩) (λ_ R s=>s.heap.get? l=some { cls:=.type "tuple",dict:=dd2,data:=.seq items n2,slots:=sl2 }/\s.heap.get? d=some { cls:=.type "dict",dict:=dd,data:=.dict es n,slots:=sl }/\R (.ok (.ret .notImplemented)) s) :=
 .of_wp λprog w A R s h=>by obtain ⟨hp,g,dr,tk,os⟩:=s;obtain ⟨hl,hd,h⟩:=h;have f1:isSubtype (.type "dict") (.type "tuple")=pure false:=(by rw [QP];kernel_rfl);wp_walk using Ol hl,Ol hd;exact ⟨_,rfl,h⟩
end
section
variable {A:Around} {s:Shared} {d l:Addr} {es:Array DictEntry} {n:Nat} {dd:Option Addr} {sl:Array (Option Value)} {b:Value} {T idT:String}
theorem mz (hd:s.heap.get? d=some { cls:=.type "dict",dict:=dd,data:=.dict es n,slots:=sl }) (tb:s.TypeIs b T) (ne1:(Value.type T != Value.type "dict")=true) (ne2:(Value.type "dict" != Value.type T)=true)
  (sub1:isSubtype (.type T) (.type "dict")=pure false) (sub2:isSubtype (.type "dict") (.type T)=pure false) (h1:Slot T (cmpInfo .Eq).2.1 idT) (h2:Slot T (cmpInfo .Eq).2.2 idT)
  (hc:∀ (prog:Program) (w:World) (E:Value->Shared->Prop) (Q':Value->Shared->Prop),Q' .notImplemented s->wpAny (model prog w) A (call (.builtin idT) [b,.ref d]) Q' E s)
  (AS:∀ (prog:Program) (w:World) (E:Value->Shared->Prop) (Q':Bool->Shared->Prop),Q' false s->wpAny (model prog w) A (isSame b (.ref d)) Q' E s) (hs2:∀ (prog:Program) (w:World) (E:Value->Shared->Prop) (Q':Bool->Shared->Prop),Q' false s->wpAny (model prog w) A (isSame (.ref d) b) Q' E s)
  (hu:A.units<cLine):RcAt A s b (.ref d) false/\RcAt A s (.ref d) b false:=by
 have ty:s.TypeIs (.ref d) "dict" := ⟨_,hd,rfl⟩;exact ⟨λprog w E Q h=>rc_eq_decline_or (k:=false) tb ty ne1 sub2 h1 PySem.F.slot_dict_eq_refl (hc prog w E) (λ_ hq=>z9 ty tb sub1 hq) (AS prog w E) (.inr hu) h,
  λprog w E Q h=>rc_eq_decline_or (k:=false) ty tb ne2 sub1 QE h2 (λ_ hq=>z9 ty tb sub1 hq) (hc prog w E) (hs2 prog w E) (.inr hu) h⟩
theorem mB (T:String) (h:isSubtype (.type T) (.type "dict")=pure false:=by rw [QP];kernel_rfl):isSubtype (.type T) (.type "dict")=pure false:=h
theorem mC (T:String) (h:isSubtype (.type "dict") (.type T)=pure false:=by rw [QP];kernel_rfl):isSubtype (.type "dict") (.type T)=pure false:=h
theorem qV {prog:Program} {w:World} {E:Value->Shared->Prop} {a c:Addr} {c2:Option Addr} {vs:Array Value} {k:Nat} {c4:Array (Option Value)} (h1:s.heap.get? a=some { cls:=.type T,dict:=c2,data:=.seq vs k,slots:=c4 }) (hd:s.heap.get? c=some { cls:=.type "dict",dict:=dd,data:=.dict es n,slots:=sl }) (h:a≠c) {Q':Bool->Shared->Prop} (q:Q' false s) :
  wpAny (model prog w) A (isSame (.ref a) (.ref c)) Q' E s/\wpAny (model prog w) A (isSame (.ref c) (.ref a)) Q' E s:=by
 have b1:(a == c)=false:=beq_eq_false_iff_ne.mpr h;have b2:(c == a)=false:=beq_eq_false_iff_ne.mpr (Ne.symm h);constructor
 ·unfold isSame
  dsimp only;rw [MX (by rw [b1];exact Ni)]
  refine MR (Pa h1 (MR (Pa hd ?_)))
  dsimp only;split<;>first | exact MZ q | exact absurd ‹Value.type "dict" = Value.type "tuple"› (by simp)
 ·unfold isSame
  dsimp only;rw [MX (by rw [b2];exact Ni)]
  refine MR (Pa hd (MR (Pa h1 ?_)))
  dsimp only;exact MZ q
theorem Aa (hd:s.heap.get? d=some { cls:=.type "dict",dict:=dd,data:=.dict es n,slots:=sl }) (hu:A.units<cLine):∀ {v:Value} {e:PyData} {as:List Addr},Reads s.heap v e as->e.canLay0=true->EqAt A s v (.ref d) false/\EqAt A s (.ref d) v false
 | _,_,_,.none,_=>by
  obtain ⟨r1,r2⟩:=mz hd (T := "NoneType") (b:=.none) rfl (by decide) (by decide) (mB _) (mC _) PV PySem.F.slot_NoneType_eq_refl (λprog w E Q' hq=>call_gives PV rfl PySem.F.entry_NoneType_eq (PySem.F.args_NoneType_eq_2 _ _) (NoneType___eq___none_ref_0 d) hq)
   (λprog w E Q' hq=>OY (rfl:isSame .none (.ref d)=pure false) hq) (λprog w E Q' hq=>OY (rfl:isSame (.ref d) .none=pure false) hq) hu
  constructor
  all_goals
   intro prog w E Q h;unfold eqBool;refine NV ?_
   refine Pq (λhab=>absurd (P8 hab) nofun) (λ_=>?_)
   first | exact MR (r1 prog w E _ (Ng h)) | exact MR (r2 prog w E _ (Ng h))
 | _,_,_,.bool k,_=>by
  obtain ⟨r1,r2⟩:=mz hd (T := "bool") (b:=.bool k) rfl (by decide) (by decide) (mB _) (mC _) QF PySem.F.slot_bool_eq_refl (λprog w E Q' hq=>Pd QF rfl QG (Qt _ _) (Ir k) ⟨hd,hq⟩)
   (λprog w E Q' hq=>OY (rfl:isSame (.bool k) (.ref d)=pure false) hq) (λprog w E Q' hq=>OY (rfl:isSame (.ref d) (.bool k)=pure false) hq) hu
  constructor
  all_goals
   intro prog w E Q h;unfold eqBool;refine NV ?_
   refine Pq (λhab=>absurd (P8 hab) nofun) (λ_=>?_)
   first | exact MR (r1 prog w E _ (Ng h)) | exact MR (r2 prog w E _ (Ng h))
 | _,_,_,.int i t,_=>by
  obtain ⟨r1,r2⟩:=mz hd (T := "int") (b:=.int i t) (Ru s i t) (by decide) (by decide) (mB _) (mC _) QU PySem.F.slot_int_eq_refl (λprog w E Q' hq=>Pd QU (Ru s i t) QG (Qt _ _) (Iq i t) ⟨hd,hq⟩)
   (λprog w E Q' hq=>OY (rfl:isSame (.int i t) (.ref d)=pure false) hq) (λprog w E Q' hq=>OY (rfl:isSame (.ref d) (.int i t)=pure false) hq) hu
  constructor
  all_goals
   intro prog w E Q h;unfold eqBool;refine NV ?_
   refine Pq (λhab=>absurd (P8 hab) nofun) (λ_=>?_)
   first | exact MR (r1 prog w E _ (Ng h)) | exact MR (r2 prog w E _ (Ng h))
 | _,_,_,.str x t,_=>by
  obtain ⟨r1,r2⟩:=mz hd (T := "str") (b:=.str x t) (Pz s x t) (by decide) (by decide) (mB _) (mC _) QV PySem.F.slot_str_eq_refl (λprog w E Q' hq=>Pd QV (Pz s x t) PySem.F.entry_str_eq (PySem.F.args_str_eq_2 _ _) (Ip x t) ⟨hd,hq⟩)
   (λprog w E Q' hq=>OY (rfl:isSame (.str x t) (.ref d)=pure false) hq) (λprog w E Q' hq=>OY (rfl:isSame (.ref d) (.str x t)=pure false) hq) hu
  constructor
  all_goals
   intro prog w E Q h;unfold eqBool;refine NV ?_
   refine Pq (λhab=>absurd (P8 hab) nofun) (λ_=>?_)
   first | exact MR (r1 prog w E _ (Ng h)) | exact MR (r2 prog w E _ (Ng h))
 | _,_,_,.list (a:=a) (o:=o) h1 h2 h3 h4,_=>by
  obtain ⟨c1,c2,c3,c4⟩:=o;simp only at h2 h3
  subst h2 h3
  have ne:a≠d:=λz=>by rw [z,hd] at h1;exact absurd (congrArg Obj.cls (Nx h1)) (by simp)
  obtain ⟨r1,r2⟩:=mz hd (T := "list") (b:=.ref a) ⟨_,h1,rfl⟩ (by decide) (by decide) (mB _) (mC _) QH PySem.F.slot_list_eq_refl (λprog w E Q' hq=>Pd QH ⟨_,h1,rfl⟩ PySem.F.entry_list_eq (PySem.F.args_list_eq_2 _ _) (Iu _ _ _ _) ⟨h1,hd,hq⟩)
   (λprog w E Q' hq=>(qV h1 hd ne hq).1) (λprog w E Q' hq=>(qV h1 hd ne hq).2) hu
  exact ⟨.of_refs ne r1,.of_refs (Ne.symm ne) r2⟩
 | _,_,_,.tuple (a:=a) (o:=o) h1 h2 h3 h4,_=>by
  obtain ⟨c1,c2,c3,c4⟩:=o;simp only at h2 h3
  subst h2 h3
  have ne:a≠d:=λz=>by rw [z,hd] at h1;exact absurd (congrArg Obj.cls (Nx h1)) (by simp)
  obtain ⟨r1,r2⟩:=mz hd (T := "tuple") (b:=.ref a) ⟨_,h1,rfl⟩ (by decide) (by decide) (mB _) (mC _) Qu PySem.F.slot_tuple_eq_refl (λprog w E Q' hq=>Pd Qu ⟨_,h1,rfl⟩ PySem.F.entry_tuple_eq (PySem.F.args_tuple_eq_2 _ _) (Iv _ _ _ _) ⟨h1,hd,hq⟩)
   (λprog w E Q' hq=>(qV h1 hd ne hq).1) (λprog w E Q' hq=>(qV h1 hd ne hq).2) hu
  exact ⟨.of_refs ne r1,.of_refs (Ne.symm ne) r2⟩
 | _,_,_,.dict _ _ _ _ _,c=>by cases c
end
end L2
namespace L2
open PySem PySem.Spec PyProof.Rows
abbrev Od:=PyData ⊕ Addr
def jG:Od->Od->Bool
 | .inl e,.inl d=>PyData.eqv e d
 | .inr a,.inr b=>decide (a=b)
 | _,_=>false
inductive j9 (K:PySem.W.Frag) (H:Hp):V->Od->Prop
 | dat {x:V} {d:PyData} (h:DaV K H x d) (c:d.canLay0=true) (m:d.depth<=30):j9 K H x (.inl d)
 | dic {a:Addr} {kvs:List (aU×V)} (h:H a=some (.dK kvs)):j9 K H (.ref a) (.inr a)
inductive gZ (K:PySem.W.Frag) (H:Hp):List V->List Od->Prop
 | nil:gZ K H [] []
 | cons {x:V} {xs:List V} {d:Od} {ds:List Od} (h:j9 K H x d) (t:gZ K H xs ds):gZ K H (x::xs) (d::ds)
open Classical in
def i6 (h:Heap) (t:Od) (v:Value):Bool:=if q:∃ e as,e.canLay0=true/\Reads h v e as then jG (.inl q.choose) t else match t with
 | .inl _=>false
 | .inr a=>decide (v = .ref a)
theorem Iw {h:Heap} {t:Od} {e:PyData} {v:Value} {as:List Addr} (c:e.canLay0=true) (r:Reads h v e as):i6 h t v=jG (.inl e) t:=by
 have q:∃ e as,e.canLay0=true/\Reads h v e as:=⟨e,as,c,r⟩
 unfold i6;rw [dif_pos q];obtain ⟨as',c',r'⟩:=q.choose_spec
 have z:q.choose=e:=by first | exact (Reads.unique _ _ r' r).1 | exact (Reads.unique r' r).1 | exact Reads.unique _ _ _ _ _ c' r' r | exact PU _ _ _ _ _ c' r' r | exact Q3 _ _ _ _ _ c' r' r
 rw [z]
theorem Iy {h:Heap} {t:Od} {a:Addr} {o:Obj} {es:Array DictEntry} {n:Nat} (e:h.get? a=some o) (hd:o.data = .dict es n):i6 h t (.ref a)=jG (.inr a) t:=by
 unfold i6;rw [dif_neg]
 ·cases t with
  | inl d=>rfl
  | inr b =>
   show decide (Value.ref a=Value.ref b)=decide (a=b)
   exact decide_eq_decide.mpr ⟨λh=>by injection h,λh=>by rw [h]⟩
 ·rintro ⟨d,as,c,r⟩
  cases r with
  | list h1 h2 h3=>rw [e] at h1;cases h1;rw [hd] at h3;cases h3
  | tuple h1 h2 h3=>rw [e] at h1;cases h1;rw [hd] at h3;cases h3
  | dict=>cases c
section
variable {X:Cx} {pins:List (Addr×Obj)} {σ:St} {H:Hp} {s:Shared}
theorem Ab (I:Inv X pins σ H s) {a:Addr} {kvs:List (aU×V)} (e:H a=some (.dK kvs)):∃ dd sl es n,s.heap.get? a=some { cls:=.type "dict",dict:=dd,data:=.dict es n,slots:=sl }:=by
 obtain ⟨_,_,vs,_,o,es,ep,h1,h2,h3,_⟩:=jY I.hok e;obtain ⟨c1,c2,c3,c4⟩:=o;obtain ⟨z1,_⟩:=h2;simp only at z1 h3
 subst z1 h3
 exact ⟨c2,c4,es,ep,h1⟩
theorem Iz (I:Inv X pins σ H s) (hu:X.A.units+64<cLine) {x y:V} {u v:Value} {e t:Od} (hx:j9 X.K H x e) (hy:j9 X.K H y t) (rx:RelV x u) (ry:RelV y v) (one:∀ a b,e = .inr a->t = .inr b->a=b):i6 s.heap t u=jG e t/\SeqAt.EqAt X.A.in1 s u v (i6 s.heap t u):=by
 have hu1:X.A.in1.units<cLine:=by show X.A.units+1<cLine;lia
 cases hx with
 | dat h c m =>
  obtain ⟨as,ra⟩:=h.reads I rx;rw [Iw c ra];refine ⟨rfl,?_⟩
  cases hy with
  | dat h2 c2 m2 =>
   obtain ⟨bs,rb⟩:=h2.reads I ry;exact SeqAt.eqAt_reads _ _ _ _ _ _ _ _ ra rb c c2 (by
    rename_i d1 d2;have:=OL d1.depth d2.depth;show X.A.units+1+_<cLine
    lia)
  | dic h2 =>
   cases ry
   obtain ⟨dd,sl,es,n,hd⟩:=Ab I h2;exact (Aa hd hu1 ra c).1
 | dic h =>
  cases rx
  obtain ⟨dd,sl,es,n,hd⟩:=Ab I h;rw [Iy hd rfl];refine ⟨rfl,?_⟩
  cases hy with
  | dat h2 c2 m2 =>
   obtain ⟨bs,rb⟩:=h2.reads I ry;exact (Aa hd hu1 rb c2).2
  | dic h2 =>
   cases ry
   have z:=one _ _ rfl rfl;subst z;rw [show jG (.inr _) (.inr _)=true from ND rfl];exact SeqAt.EqAt.same _
theorem Ac (I:Inv X pins σ H s) (hu:X.A.units+64<cLine) {y:V} {v:Value} {t:Od} (hy:j9 X.K H y t) (ry:RelV y v):∀ {xs:List V} {ts:List Od} {us:List Value},gZ X.K H xs ts->Vals xs us->(∀ e∈ts,∀ a b,e = .inr a->t = .inr b->a=b) ->
  us.any (i6 s.heap t)=ts.any (λe=>jG e t)/\∀ u∈us,SeqAt.EqAt X.A.in1 s u v (i6 s.heap t u)
 | _,_,_,.nil,r,_=>by cases r;exact ⟨rfl,nofun⟩
 | _,_,_,.cons h hs,r,one=>by
  cases r with
  | cons r1 r2 =>
   obtain ⟨e1,e2⟩:=Iz I hu h hy r1 ry (one _ (NJ ..));obtain ⟨i1,i2⟩:=Ac I hu hy ry hs r2 λe he=>one e (Nv _ he)
   refine ⟨by rw [Ob,Ob,e1,i1],λu hu=>?_⟩
   rcases Nd.mp hu with rfl | hu
   ·exact e2
   ·exact i2 u hu
theorem IA (hu:X.A.units+64<cLine):OpR X (compareOp .In) (λx y H Q=>∃ p xs ts t,y = .ref p/\SqL X.K H p xs/\j9 X.K H x t/\gZ X.K H xs ts/\(∀ e∈ts,∀ a b,e = .inr a->t = .inr b->a=b)/\Q (.bl (ts.any λe=>jG e t)) H):=by
 intro pins s σ H x y v u Q I rx ry h;obtain ⟨p,xs,ts,t,rfl,hq,hd,hds,one,q⟩:=h
 cases ry
 obtain ⟨its,r,pl,hz⟩:=I.list hq;obtain ⟨i1,i2⟩:=Ac I hu hd rx hds r one;refine SeqAt.in_listAt (i6 s.heap t) pl.isList (λy hy=>i2 y (by simpa using hy)) ⟨.bl _,H,I,rfl,?_⟩
 rw [<- P2];show Q (.bl (its.any (i6 s.heap t))) H
 rw [i1];exact q
end
end L2
namespace Sm
open PySem PySem.Spec L2 PyProof.Rows
abbrev gF:=PyData ⊕ Nat
def gG (h:AH) (v:AV):Option gF:=match bx 8 h v with
 | some d=>some (.inl d)
 | none=>match v with
  | .ref n=>(match h[n]? with
   | some (.dct false _)=>some (.inr n)
   | _=>none)
  | _=>none
def gr (h:AH):List AV->Option (List gF)
 | []=>some []
 | v::r=>match gG h v,gr h r with
  | some d,some ds=>some (d::ds)
  | _,_=>none
def cB:gF->gF->Bool
 | .inl e,.inl d=>PyData.eqv e d
 | .inr a,.inr b=>decide (a=b)
 | _,_=>false
def jH (t:gF):gF->Bool
 | .inr a=>(match t with
  | .inr b=>decide (a=b)
  | _=>true)
 | _=>true
def dX:F2:=λx y h=>match y with
 | .fl xs=>(match gG h x,gr h xs with
  | some t,some ts=>if ts.all (jH t)=true then .ok (.bl (ts.any λe=>cB e t)) h else .bad
  | _,_=>.bad)
 | _=>.bad
section
variable {T:Tb} {ι:Ix} {h:AH} {H:Hp}
inductive Oo (ι:Ix):gF->Od->Prop
 | dat (d:PyData):Oo ι (.inl d) (.inl d)
 | dic {n:Nat} {a:Addr} (e:ι.refs[n]? = some a):Oo ι (.inr n) (.inr a)
theorem Ad (S:Sim T ι h H) {x:AV} {u:V} {t:gF} (r:RV T ι H x u) (e:gG h x=some t):∃ t',Oo ι t t'/\j9 T.K H u t' := by
 unfold gG at e;split at e
 ·rename_i d hd
  cases e
  obtain ⟨q1,q2,q3⟩:=iX S 8 r hd;exact ⟨_,.dat d,.dat q1 q2 (by lia)⟩
 ·split at e
  ·rename_i n hz
   split at e
   ·rename_i kvs hn
    cases e
    cases r with
    | @ref _ ad hr =>
     obtain ⟨ob,e1,kus,rfl,_⟩:=S.obj n _ ad hn hr;exact ⟨_,.dic hr,.dic e1⟩
   ·cases e
  ·cases e
theorem Ae (S:Sim T ι h H):∀ {xs:List AV} {us:List V} {ts:List gF},RVs T ι H xs us->gr h xs=some ts->∃ ts',Paired (Oo ι) ts ts'/\gZ T.K H us ts'
 | _,_,_,.nil,e=>by cases e;exact ⟨[],.nil,.nil⟩
 | x::xs,_,ts,.cons r rs,e=>by
  unfold gr at e;split at e
  ·rename_i d ds e1 e2
   cases e
   obtain ⟨t',o1,o2⟩:=Ad S r e1;obtain ⟨ts',o3,o4⟩:=Ae S rs e2;exact ⟨t'::ts',.cons o1 o3,.cons o2 o4⟩
  ·cases e
theorem IB (S:Sim T ι h H) {e t:gF} {e' t':Od} (o1:Oo ι e e') (o2:Oo ι t t') (one:jH t e=true):cB e t=jG e' t'/\∀ a b,e' = .inr a->t' = .inr b->a=b:=by
 cases o1 with
 | dat d=>cases o2<;>exact ⟨rfl,λa b h=>nomatch h⟩
 | dic q1 =>
  cases o2 with
  | dat d=>exact ⟨rfl,λa b _ h=>nomatch h⟩
  | dic q2 =>
   have z:=PL one;subst z;rw [q1] at q2
   cases q2
   refine ⟨?_,λa b h1 h2=>?_⟩
   ·show decide (_=_)=decide (_=_)
    rw [ND rfl,ND rfl]
   ·cases h1;cases h2;rfl
theorem Af (S:Sim T ι h H) {t:gF} {t':Od} (o2:Oo ι t t'):∀ {ts:List gF} {ts':List Od},Paired (Oo ι) ts ts'->ts.all (jH t)=true->(ts.any λe=>cB e t)=(ts'.any λe=>jG e t')/\∀ e∈ts',∀ a b,e = .inr a->t' = .inr b->a=b
 | _,_,.nil,_=>⟨rfl,nofun⟩
 | _,_,.cons o os,c=>by
  rw [List.all_cons,Nz] at c;obtain ⟨z1,z2⟩:=IB S o o2 c.1
  obtain ⟨i1,i2⟩:=Af S o2 os c.2;refine ⟨by rw [Ob,Ob,z1,i1],λe he=>?_⟩
  rcases Nd.mp he with rfl | he
  ·exact z2
  ·exact i2 e he
theorem Ag {X:Cx} (hK:X.K=T.K) (hu:X.A.units+64<cLine):Op T X (compareOp .In) dX:=by
 refine ⟨_,IA hu,λι h H x y u w E Q S rx ry p=>?_⟩
 unfold dX at p;split at p
 ·rename_i xs
  split at p
  ·rename_i t ts e1 e2
   by_cases c:ts.all (jH t)=true
   ·rw [MW c] at p
    obtain ⟨a,us,rfl,sq,rs⟩:=gD S ry rfl;obtain ⟨t',o1,o2⟩:=Ad S rx e1;obtain ⟨ts',o3,o4⟩:=Ae S rs e2;obtain ⟨z1,z2⟩:=Af S o1 o3 c;rw [z1] at p;exact ⟨a,us,ts',t',rfl,hK▸sq,hK▸o2,hK▸o4,z2,p.now S (.bl _)⟩
   ·rw [MX c] at p;exact p.elim
  ·exact p.elim
 ·exact p.elim
end
end Sm
namespace L2
open PySem PySem.Spec PyProof.Rows
open PySem.Builtin PySem.Builtin.Str
section
variable {X:Cx}
theorem IC {a b c d:Expr} {ta tb tc td:TE} {pos:Pos} {op op' op'':CmpOp} {r r' r'':R2} (ho:OpR X (compareOp op) r) (ho':OpR X (compareOp op') r') (ho'':OpR X (compareOp op'') r'') (ha:PE X a ta) (hb:PE X b tb) (hc:PE X c tc) (hd:PE X d td)
  (hm:lastMarks [op,op',op''] [b,c,d]=false:=by with_unfolding_all rfl):PE X (.Compare a [op,op',op''] [b,c,d] pos) (y4 r r' r'' ta tb tc td):=by
 intro pins s σ H Q I h;refine Compare_chain (thn (ha pins s σ H _ I h) λv s1 ⟨x,H1,I1,r1,q1⟩=>Rr (thn (hb pins s1 σ H1 _ I1 q1) λu s2 ⟨y,H2,I2,r2,q2⟩ =>
  thn (ho pins s2 σ H2 x y v u _ I2 r1 r2 q2) λd s3 ⟨z,H3,I3,r3,k,e,q3⟩=>?_)) hm
 subst e
 cases r3
 refine Ng ?_
 cases k with
 | false=>exact ite_ff ⟨.bl false,H3,I3,rfl,q3⟩
 | true =>
  refine ite_tt (Rr (thn (hc pins s3 σ H3 _ I3 q3) λw' s4 ⟨z',H4,I4,r4,q4⟩=>thn (ho' pins s4 σ H4 y z' u w' _ I4 r2 r4 q4) λd' s5 Zz=>?_));obtain ⟨z2,H5,I5,r5,k2,e2,q5⟩:=Zz
  subst e2
  cases r5
  refine Ng ?_
  cases k2 with
  | false=>exact ite_ff ⟨.bl false,H5,I5,rfl,q5⟩
  | true=>exact ite_tt (chain_last (thn (hd pins s5 σ H5 _ I5 q5) λw2 s6 ⟨z3,H6,I6,r6,q6⟩=>ho'' pins s6 σ H6 z' z3 w' w2 Q I6 r4 r6 q6))
def ID (i j k:Nat) (ta:TA):TS:=λD σ H=>ta σ H λvs H1=>∃ v w z,vs=[v,w,z]/\D.nx (((σ.set i (some v)).set j (some w)).set k (some z)) H1
theorem IE {i j k:Nat} {x y z:Str} {a b c:Expr} {ta:TA} {pos px py pz pt:Pos} {kt k2:Nat} {pt2:Pos} (hc:X.calm=true) (hN:X.N.Nodup) (hi:X.N[i]? = some x) (hj:X.N[j]? = some y) (hk:X.N[k]? = some z) (hij:i≠j) (hik:i≠k) (hjk:j≠k)
  (hx:X.env.scope.names.lookup x=some .local) (hy:X.env.scope.names.lookup y=some .local) (hz:X.env.scope.names.lookup z=some .local) (ha:PA X [a,b,c] ta)
  (hw:swappedStores [.Tuple [.Name x px,.Name y py,.Name z pz] kt pt] (.Tuple [a,b,c] k2 pt2) X.env=pure (some [x,y,z]))
  (hs:swapsWithSole [.Tuple [.Name x px,.Name y py,.Name z pz] kt pt] (.Tuple [a,b,c] k2 pt2) pos.line X.env=pure false:=by rfl) :
  PS X (.Assign [.Tuple [.Name x px,.Name y py,.Name z pz] kt pt] (.Tuple [a,b,c] k2 pt2) pos) (ID i j k ta):=by
 intro pins s σ H D I h;rw [exec_Assign_arm];refine MR (PX ?_)
 rw [hs];refine MR (MZ ?_)
 rw [MX (by decide)];refine MR (Tuple_ (thn (ha _ pins s σ H _ I h) λus s1 Zz=>?_));obtain ⟨vs,H1,I1,r1,q1⟩:=Zz
 obtain ⟨v,w,v3,e1,q1⟩:=q1;subst e1;obtain ⟨u1,u2,u3,rfl,rv,rw',r3⟩:∃ u1 u2 u3,us=[u1,u2,u3]/\RelV v u1/\RelV w u2/\RelV v3 u3:=by
  cases r1 with
  | cons p q =>
   cases q with
   | cons p' q' =>
    cases q' with
    | cons p2 q2 =>
     cases q2
     exact ⟨_,_,_,rfl,p,p',p2⟩
 refine Of ?_ (by show 3<=sizeLine;decide)
 have I2:Inv X pins σ H1 { s1 with heap:=s1.heap.push { cls:=.type "tuple",data:=.seq [u1,u2,u3].toArray } }:=I1.kept (t' := s1.toks) λb o e=>MU _ e
 rw [hw];refine MR (MZ ?_)
 show wpAny (model X.prog X.w) X.A (do rule "assign.swapped-stores";let items <- unpackItems (.ref s1.heap.objs.size) 3 none;assignInOrder [λv=>bindName X.env z v,λv=>bindName X.env y v,λv=>bindName X.env x v] items.reverse;pure Flow.next) _ _ _
 refine MR (Q8 (MR (unpackItems_tuple (items:=#[u1,u2,u3]) (I.ok.hd hc) (IsTup.new s1.heap _) λh' hx' => ?_)))
 have I3:=I2.kept (h' := h') (t' := s1.toks) λb o e=>hx' b o (Nt (M4 e)) e
 show wpAny _ _ (assignInOrder [λv=>bindName X.env z v,λv=>bindName X.env y v,λv=>bindName X.env x v] [u3,u2,u1] >>= λ_=>pure Flow.next) _ _ _
 refine MR (O9 (QQ (lS I3 hN hk (.inl hz) r3 (λs2 I4=>?_) (.inr hz))))
 refine O9 (QQ (lS I4 hN hj (.inl hy) rw' (λs2 I5=>?_) (.inr hy)))
 refine O9 (QQ (lS I5 hN hi (.inl hx) rv (λs3 I6=>Rj (MZ ?_)) (.inr hx)))
 have e:((σ.set k (some v3)).set j (some w)).set i (some v)=((σ.set i (some v)).set j (some w)).set k (some v3):=by
  rw [QY _ _ (Ne.symm hjk),QY _ _ (Ne.symm hik),QY _ _ (Ne.symm hij)]
 rw [e] at I6;exact ⟨_,H1,I6,q1⟩
end
end L2
namespace Sm
open PySem PySem.Spec L2
section
variable {T:Tb} {E:L2.St->XK} {X:Cx} {pos:Pos} {a b c d:Expr} {sa sb sc sd:SE}
theorem IF {op op' op'':CmpOp} {f f' f'':F2} (ho:Op T X (compareOp op) f) (ho':Op T X (compareOp op') f') (ho'':Op T X (compareOp op'') f'') (ha:aN T E X a sa) (hb:aN T E X b sb) (hc:aN T E X c sc) (hd:aN T E X d sd) (hm:lastMarks [op,op',op''] [b,c,d]=false:=by with_unfolding_all rfl) :
  aN T E X (.Compare a [op,op',op''] [b,c,d] pos) (k9 f f' f'' sa sb sc sd):=by
 obtain ⟨r,h1,hs⟩:=ho;obtain ⟨r',h1',hs'⟩:=ho';obtain ⟨r'',h1'',hs''⟩:=ho'';refine cy (IC h1 h1' h1'' ha hb hc hd hm) λσ H Q q=>?_
 obtain ⟨ι,h,en,S,er,q⟩:=q;unfold k9 at q;refine ⟨ι,h,en,S,er,q.bind λx h1 ι1 H1 u g1 S1 r1 q1=>?_⟩
 refine ⟨ι1,h1,en,S1,er.mono g1,q1.bind λy h2 ι2 H2 w g2 S2 r2 q2=>?_⟩
 refine hs ι2 h2 H2 x y u w (E σ) _ S2 (r1.mono g2) r2 (q2.bind λz h3 ι3 H3 k g3 S3 r3 q3=>?_)
 split at q3
 ·rename_i kk
  rw [fZ r3];refine ⟨kk,rfl,?_⟩
  by_cases hkk:kk=true
  ·rw [MW hkk] at q3 ⊢
   refine ⟨ι3,h3,en,S3,er.mono (g1.trans (g2.trans g3)),q3.bind λv h4 ι4 H4 j g4 S4 r4 q4=>?_⟩
   refine hs' ι4 h4 H4 y v w j (E σ) _ S4 (r2.mono (g3.trans g4)) r4 (q4.bind λz2 h5 ι5 H5 k5 g5 S5 r5 q5=>?_)
   split at q5
   ·rename_i k2
    rw [fZ r5];refine ⟨k2,rfl,?_⟩
    by_cases hk2:k2=true
    ·rw [MW hk2] at q5 ⊢
     refine ⟨ι5,h5,en,S5,er.mono (g1.trans (g2.trans (g3.trans (g4.trans g5)))),q5.bind λv6 h6 ι6 H6 j6 g6 S6 r6 q6=>?_⟩
     exact hs'' ι6 h6 H6 v v6 j j6 (E σ) _ S6 (r4.mono (g5.trans g6)) r6 q6
    ·rw [MX hk2] at q5 ⊢
     exact q5.now S5 (.bl _)
   ·exact q5.elim
  ·rw [MX hkk] at q3 ⊢
   exact q3.now S3 (.bl _)
 ·exact q3.elim
def qW (i j k:Nat) (as:SL):SS:=λen h=>(as en h).go en λvs h1=>match vs with
 | [v,w,z]=>.nx (((en.set i (some v)).set j (some w)).set k (some z)) h1
 | _=>.bad
theorem IG {i j k:Nat} {x y z:Str} {as:SL} {px py pz pt pt2:Pos} {kt k2:Nat} (hN:X.N.Nodup) (ha:gh T E X [a,b,c] as) (hc:X.calm=true:=by rfl) (hij:i≠j:=by decide) (hik:i≠k:=by decide) (hjk:j≠k:=by decide) (hi:X.N[i]? = some x:=by rfl) (hj:X.N[j]? = some y:=by rfl) (hk:X.N[k]? = some z:=by rfl) (hx:X.env.scope.names.lookup x=some .local:=by rfl) (hy:X.env.scope.names.lookup y=some .local:=by rfl) (hz:X.env.scope.names.lookup z=some .local:=by rfl)
  (hw:swappedStores [.Tuple [.Name x px,.Name y py,.Name z pz] kt pt] (.Tuple [a,b,c] k2 pt2) X.env=pure (some [x,y,z]):=by rfl) (hs:swapsWithSole [.Tuple [.Name x px,.Name y py,.Name z pz] kt pt] (.Tuple [a,b,c] k2 pt2) pos.line X.env=pure false:=by rfl) :
  gL T E X (.Assign [.Tuple [.Name x px,.Name y py,.Name z pz] kt pt] (.Tuple [a,b,c] k2 pt2) pos) (qW i j k as):=by
 refine iB (IE hc hN hi hj hk hij hik hjk hx hy hz ha hw hs) λD σ H=>E6x λι h en S er q=>⟨ι,h,en,S,er,q.go er λvs h1 ι1 H1 us g1 S1 r1 q1=>?_⟩
 split at q1
 ·cases r1 with
  | cons r r' =>
   cases r' with
   | cons r2 r3 =>
    cases r3 with
    | cons r4 r5 =>
     cases r5
     exact ⟨_,_,_,rfl,q1 ι1 H1 _ S1.refl S1 ((((er.mono g1).set r i).set r2 j).set r4 k)⟩
 ·exact q1.elim
end
end Sm
namespace Sm
open PySem PySem.Spec L2 PyProof.Rows
def oa:Fn:=λargs h=>match args with
 | [v]=>(match jE v h with
  | some ns=>if ns.length<64/\∀ x∈ns,x.length<=1000/\x.cps.all (· < 0x110000)=true then .ok (.ref h.length) (h++[.lst ((iH ns).map AV.str)]) else .bad
  | none=>.bad)
 | _=>.bad
section
variable {T:Tb} {X:Cx}
theorem IH (hc:X.calm=true:=by rfl):∃ r,CallR X (.builtin "sorted") r/\ig T oa r:=by
 refine ⟨_,HZ hc,λι h H xs us E Q S r q=>?_⟩
 unfold oa at q;split at q
 ·split at q
  ·rename_i ns hn
   split at q
   case isFalse=>exact q.elim
   rename_i hz;unfold jE at hn;split at hn
   ·rename_i n
    split at hn
    ·rename_i kvs hk
     cases r with
     | cons r r' =>
      cases r'
      cases r with
      | @ref _ ad hr =>
       obtain ⟨ob,e1,kus,rfl,pr⟩:=S.obj n _ ad hk hr;refine ⟨ad,kus,ns,rfl,e1,uQ pr (uP hn),hz.1,λp ns' hp pm so=>?_⟩
       have:ns'=iH ns:=qQ (pm.trans (gE ns).symm) (zS _ so) (nY ns)
       subst this;exact q _ _ _ (S.growAdd hp) (S.add hp ⟨_,rfl,uR _ λx hx=>⟨MV (hz.2 x ((gE ns).mem_iff.mp hx)).1 (by decide),(hz.2 x ((gE ns).mem_iff.mp hx)).2⟩⟩) (.ref S.addAt)
    ·cases hn
   ·cases hn
  ·exact q.elim
 ·exact q.elim
end
end Sm
namespace Sk
open PySem PySem.Spec L2 Sm
def Ah (c:Nat):Bool:=[].getD c false
def Ai (c:Nat):Bool:=[].getD c false
def Aj (c:Nat):Bool:=[].getD c false
def Ak (c:Nat):Bool:=[].getD c false
def Al (c:Nat):Bool:=[].getD c false
def uS:Fn:=aE 1 1
  (ao (gP 0 0 (ae 0) (ic ag))
  (ao (gP 0 1 (ae 0) (jt true))
  (ao (gP 0 2 (ae 0) (ic (aj (af (.int 0)) ag)))
  (ao (gP 0 3 (ae 0) (ic (aj (af (.int 0)) ag)))
  (ao (gP 0 4 (ae 0) (ic (aj (af (.int 0)) ag)))
  (ao (gP 0 5 (ae 0) (ic (aj (gM dR (af (.int 1))) ag)))
  (ao (gP 0 6 (ae 0) (ic (aj (af (.int 0)) ag)))
  (gP 0 7 (ae 0) (ic (aj (af (.int 0)) ag))))))))))
def jI:Fn:=aE 1 1
  (ao (gP 1 0 (ae 0) (jw 0 8 uS ag))
  (ao (gP 1 1 (ae 0) (jt false))
  (ao (gP 1 2 (ae 0) (ic ag))
  (gP 1 3 (ae 0) (ic ag)))))
def d5:Fn:=aE 1 1
  (ay (Sm.sFld 1 0 (ae 0)))
def mD:Fn:=aE 1 1
  (ao (aK (d9 (gC (fH "str" (ae 0)))) (ay (af (.bl false))) aO)
  (ay (j1 (fq bF bF (af (.int 1)) (aC aW (aj (ae 0) ag)) (af (.int 8))) (aC gQ (aj (fE [] (cO (ae 0)) cw (fq bF bF (af (.str "a")) (ae 0) (af (.str "z")))) ag)))))
def og:Fn:=aE 1 1
  (aK (d9 (gC (aC mD (aj (ae 0) ag)))) fw aO)
def i7:Fn:=aE 3 3
  (aK (aJ (ah iC (ae 2) (af .non))) (bH (i5 (Sm.sFld 1 1 (ae 0)) (ae 1))) (fF (Sm.sFld 1 1 (ae 0)) (ae 1) (ae 2)))
def eK:Fn:=aE 3 3
  (ao (bH (eI cA cY (Sm.sFld 1 2 (ae 0)) (aj (bB (aj (ae 1) (aj (nZ (Sm.sFld 1 1 (ae 0)) (ae 1)) (aj (ae 2) ag)))) ag)))
  (ao (bH (jx cA mw (Sm.sFld 1 3 (ae 0))))
  (bH (aD 1 i7 (ae 0) (aj (ae 1) (aj (ae 2) ag))))))
def qX:Fn:=aE 1 1
  (ay (j1 (fH "int" (ae 0)) (jv (fH "bool" (ae 0)))))
def qY:Fn:=aE 2 2
  (ay (j1 (aC qX (aj (ae 1) ag)) (fq bF bF (af (.int 1)) (ae 1) (aC aW (aj (Sm.sFld 0 0 (ae 0)) ag)))))
def lh:Fn:=aE 2 2
  (aK (d9 (gC (aD 0 qY (ae 0) (aj (ae 1) ag)))) fw aO)
def oi:Fn:=aE 3 4
  (ao (bH (aD 0 lh (ae 0) (aj (ae 1) ag)))
  (ao (bH (aD 0 lh (ae 0) (aj (ae 2) ag)))
  (ao (az 3 (ah aG (ah au (Sm.sFld 0 2 (ae 0)) (ah au (Sm.sFld 0 7 (ae 0)) (ae 1))) (ah au (Sm.sFld 0 2 (ae 0)) (ah au (Sm.sFld 0 6 (ae 0)) (ae 2)))))
  (ao (aK (aJ (ah bF (ae 3) (af (.int 8)))) fw aO)
  (ao (aK (aJ (ah dZ (aC kQ (aj (ah cg (ah au (Sm.sFld 0 5 (ae 0)) (ae 1)) (ah au (Sm.sFld 0 5 (ae 0)) (ae 2))) ag)) (af (.int 1)))) fw aO)
  (aK (aJ (ah dZ (ah aG (ah au (Sm.sFld 0 2 (ae 0)) (ae 1)) (ah au (Sm.sFld 0 2 (ae 0)) (ae 2))) (af (.int 1000000000000000000)))) fw aO))))))
def oj:Fn:=aE 2 3
  (ao (bH (eI cA cY (Sm.sFld 0 0 (ae 0)) (aj (ae 1) ag)))
  (ao (az 2 (aC aW (aj (Sm.sFld 0 0 (ae 0)) ag)))
  (ao (fF (Sm.sFld 0 1 (ae 0)) (ae 1) (ae 2))
  (ay (ae 2)))))
def om:Fn:=aE 2 4
  (ao (bH (aD 0 oj (ae 0) (aj (ae 1) ag)))
  (ao (az 2 (ah au (ae 1) (af (.int 1))))
  (ao (az 3 (ah au (ae 1) (af (.int 2))))
  (ao (bH (eI cA cY (Sm.sFld 0 2 (ae 0)) (aj (ah aG (ah au (Sm.sFld 0 2 (ae 0)) (ae 2)) (ah au (Sm.sFld 0 2 (ae 0)) (ae 3))) ag)))
  (ao (bH (eI cA cY (Sm.sFld 0 3 (ae 0)) (aj (ah aG (ah au (Sm.sFld 0 3 (ae 0)) (ae 2)) (ah au (Sm.sFld 0 3 (ae 0)) (ae 3))) ag)))
  (ao (bH (eI cA cY (Sm.sFld 0 4 (ae 0)) (aj (ah aG (ah au (Sm.sFld 0 4 (ae 0)) (ae 2)) (ah au (Sm.sFld 0 4 (ae 0)) (ae 3))) ag)))
  (ao (bH (eI cA cY (Sm.sFld 0 5 (ae 0)) (aj (ah aG (aC fG (aj (ah au (Sm.sFld 0 5 (ae 0)) (ae 2)) (aj (ah au (Sm.sFld 0 5 (ae 0)) (ae 3)) ag))) (af (.int 1))) ag)))
  (ao (bH (eI cA cY (Sm.sFld 0 6 (ae 0)) (aj (ah au (Sm.sFld 0 6 (ae 0)) (ae 2)) ag)))
  (bH (eI cA cY (Sm.sFld 0 7 (ae 0)) (aj (ah au (Sm.sFld 0 7 (ae 0)) (ae 3)) ag)))))))))))
def bA:Fn:=aE 3 4
  (ao (bH (aD 0 oi (ae 0) (aj (ae 1) (aj (ae 2) ag))))
  (ao (az 3 (bB (aj (af (.str "fork")) (aj (ae 1) (aj (ae 2) ag)))))
  (ao (aK (aJ (ah dS (ae 3) (Sm.sFld 0 1 (ae 0)))) (bH (aD 0 om (ae 0) (aj (ae 3) ag))) aO)
  (ay (ah au (Sm.sFld 0 1 (ae 0)) (ae 3))))))
def uT (G:Fn):Fn:=aE 2 3
  (ao (aK (aJ (ah aH (aC aW (aj (ae 1) ag)) (af (.int 1)))) (ay (ah au (ae 1) (af (.int 0)))) aO)
  (ao (az 2 (ah cW (aC aW (aj (ae 1) ag)) (af (.int 2))))
  (ay (aD 0 bA (ae 0) (aj (aC G (aj (ae 0) (aj (bR (ae 1) none (some (ae 2))) ag))) (aj (aC G (aj (ae 0) (aj (bR (ae 1) (some (ae 2)) none) ag))) ag))))))
def ik:Nat->Fn
 | 0=>aE 2 3 (λ_ _=>.bad)
 | d+1=>uT (ik d)
def oq:Fn:=aE 1 1
  (ay (fC (ah aH (ae 0) (af (.str "\n"))) (fq bF bF (af (.str " ")) (ae 0) (af (.str "~")))))
def ot:Fn:=aE 1 1
  (ao (aK (d9 (gC (fH "str" (ae 0)))) (ay (af (.bl false))) aO)
  (ay (aC gQ (aj (fE [] (cO (ae 0)) cw (aC oq (aj (ae 0) ag))) ag))))
def qZ:Fn:=aE 1 1
  (ay (j1 (aC ot (aj (ae 0) ag)) (fq bF bF (af (.int 1)) (aC aW (aj (ae 0) ag)) (af (.int 8)))))
def q0:Fn:=aE 1 1
  (ay (eI um uo (ae 0) (aj (af (.str "\n")) ag)))
def ou:Fn:=aE 2 4
  (ao (az 2 (aD 0 oj (ae 0) (aj (ae 1) ag)))
  (ao (az 3 (ah au (ae 1) (af (.int 1))))
  (ao (bH (eI cA cY (Sm.sFld 0 2 (ae 0)) (aj (aC aW (aj (ae 3) ag)) ag)))
  (ao (bH (eI cA cY (Sm.sFld 0 3 (ae 0)) (aj (aC q0 (aj (ae 3) ag)) ag)))
  (ao (bH (eI cA cY (Sm.sFld 0 4 (ae 0)) (aj (af (.int 1)) ag)))
  (ao (bH (eI cA cY (Sm.sFld 0 5 (ae 0)) (aj (af (.int 0)) ag)))
  (ao (bH (eI cA cY (Sm.sFld 0 6 (ae 0)) (aj (ae 2) ag)))
  (bH (eI cA cY (Sm.sFld 0 7 (ae 0)) (aj (ae 2) ag))))))))))
def c5:Fn:=aE 2 3
  (ao (aK (d9 (gC (aC qZ (aj (ae 1) ag)))) fw aO)
  (ao (az 2 (bB (aj (af (.str "leaf")) (aj (ae 1) ag))))
  (ao (aK (aJ (ah dS (ae 2) (Sm.sFld 0 1 (ae 0)))) (bH (aD 0 ou (ae 0) (aj (ae 2) ag))) aO)
  (ay (ah au (Sm.sFld 0 1 (ae 0)) (ae 2))))))
def iI:Fn:=aE 2 3
  (ao (aK (d9 (gC (aC ot (aj (ae 1) ag)))) fw aO)
  (ao (aK (aJ (ah dZ (aC aW (aj (ae 1) ag)) (af (.int 10000)))) fw aO)
  (ao (aK (aJ (ah aH (ae 1) (af (.str "")))) (ay (af (.int 0))) aO)
  (ao (az 2 (fE [0,1] (jD (af (.int 0)) (aC aW (aj (ae 1) ag)) (af (.int 8))) cw (aD 0 c5 (ae 1) (aj (bR (ae 2) (some (ae 0)) (some (ah aG (ae 0) (af (.int 8))))) ag))))
  (ay (aC (ik 20) (aj (ae 0) (aj (ae 2) ag))))))))
def jJ:Fn:=aE 3 3
  (ao (bH (aC og (aj (ae 1) ag)))
  (bH (aD 1 eK (ae 0) (aj (ae 1) (aj (aC iI (aj (Sm.sFld 1 0 (ae 0)) (aj (ae 2) ag))) ag)))))
def cF:Fn:=aE 1 1
  (ay (aC oa (aj (Sm.sFld 1 1 (ae 0)) ag)))
def bI:Fn:=aE 2 2
  (ao (aK (iV (d9 (gC (aC mD (aj (ae 1) ag)))) (aJ (ah dS (ae 1) (Sm.sFld 1 1 (ae 0))))) fw aO)
  (ay (ah au (Sm.sFld 1 1 (ae 0)) (ae 1))))
def eP:Fn:=aE 1 1
  (ay (aC aW (aj (Sm.sFld 0 0 (ae 0)) ag)))
def rf:Fn:=aE 2 3
  (ao (az 2 (ah bW (ah bN (ah aG (ah aG (ah bW (ae 0) (af (.int 1000000007))) (ah bN (af (.int 7919)) (ae 1))) (af (.int 101))) (af (.int 48271))) (af (.int 2147483647))))
  (ay (ah bW (ah bN (ah bW (ah bN (ae 2) (ae 2)) (af (.int 2147483629))) (af (.int 69621))) (af (.int 2147483647)))))
def mE:SS :=
  (az 2 (ah aG (ah bN (ae 2) (ah bN (ah cz (af (.int 10)) (af (.int 60))) (ah cz (af (.int 10)) (af (.int 60))))) (ah bW (ah au (ae 0) (ae 3)) (ah bN (ah cz (af (.int 10)) (af (.int 60))) (ah cz (af (.int 10)) (af (.int 60)))))))
def mF:SS :=
  (az 4 (ah aG (ah bN (ae 4) (af (.int 2147483647))) (aC rf (aj (ah aG (ah aG (ae 2) (ah bN (af (.int 1009)) (ae 1))) (aC aW (aj (ae 0) ag))) (aj (ae 3) ag)))))
def ke:Fn:=aE 2 5
  (ao (az 2 (af (.int 0)))
  (ao (cX (jD (ae 1) (aC aW (aj (ae 0) ag)) (af (.int 8))) (.nm 3) mE)
  (ao (aK (aJ (ah j0 (ae 2) (ah cz (af (.int 10)) (af (.int 18))))) (ay (ic (aj (ae 2) ag))) aO)
  (ao (az 2 (ah aG (ae 2) (aC gU (aj (fE [] (cO (ae 0)) cw (ah bW (ae 0) (ah cz (af (.int 10)) (af (.int 18))))) ag))))
  (ao (az 4 (af (.int 0)))
  (ao (cX (kO (af (.int 16))) (.nm 3) mF)
  (ay (ic (aj (ae 4) ag)))))))))
def bC:Fn:=aE 2 3
  (ao (az 2 (ah bW (ah au (ae 0) (af (.int 0))) (ae 1)))
  (ao (fF (ae 0) (af (.int 0)) (ah cW (ah au (ae 0) (af (.int 0))) (ae 1)))
  (ay (ae 2))))
def fM:Fn:=aE 3 5
  (ao (az 3 (jF (ae 1)))
  (ao (az 4 (aC bC (aj (ae 0) (aj (af (.int 8)) ag))))
  (ao (aK (aJ (ah aH (ae 4) (af (.int 0)))) (ay (ah au (ae 2) (aC bC (aj (ae 0) (aj (aC aW (aj (ae 2) ag)) ag))))) aO)
  (ao (aK (iV (aJ (ah fo (ae 4) (af (.int 3)))) (aJ (ah aH (ae 3) (aX ag)))) (ay (ah au (aX (aj (af (.str "a")) (aj (af (.str "ab")) (aj (af (.str "b")) (aj (af (.str "abcdefgh")) (aj (af (.str "zz")) (aj (af (.str "q")) ag))))))) (aC bC (aj (ae 0) (aj (af (.int 6)) ag))))) aO)
  (ay (ah au (ae 3) (aC bC (aj (ae 0) (aj (aC aW (aj (ae 3) ag)) ag)))))))))
def lj:SS :=
  (az 3 (ah aG (ae 3) (ah au (ae 2) (aC bC (aj (ae 0) (aj (aC aW (aj (ae 2) ag)) ag))))))
def mG:Fn:=aE 2 5
  (ao (az 2 (ah au (aX (aj (af (.str "ab")) (aj (af (.str "aaab")) (aj (af (.str "a\n")) (aj (af (.str "ab \n")) (aj (af (.str "abcdefghijklmnopqrstuvwxyz 0123456789.,~\n")) ag)))))) (aC bC (aj (ae 0) (aj (af (.int 5)) ag)))))
  (ao (az 3 (af (.str "")))
  (ao (cX (kO (aC bC (aj (ae 0) (aj (ah aG (ae 1) (af (.int 1))) ag)))) (.nm 4) lj)
  (ay (ae 3)))))
def mH:Fn:=aE 2 7
  (ao (az 2 (aX (aj (af (.str "")) (aj (af (.str "A")) (aj (af (.str "abcdefghi")) (aj (af (.str "a1")) (aj (af (.str "a ")) (aj (af .non) (aj (af (.int 7)) (aj (af (.bl true)) (aj (aX (aj (af (.str "a")) ag)) (aj (bB (aj (af (.str "a")) ag)) (aj (jt false) ag)))))))))))))
  (ao (az 3 (aC fM (aj (ae 0) (aj (ae 1) (aj (ae 2) ag)))))
  (ao (aK (aJ (ah aH (aC bC (aj (ae 0) (aj (af (.int 3)) ag))) (af (.int 0)))) (ao (az 4 (aC fM (aj (ae 0) (aj (ae 1) (aj (aX (aj (af (.str "")) (aj (af (.str "A")) (aj (af (.str "none")) ag)))) ag)))))
  (ao (az 5 (ah au (aX (aj (af (.str "")) (aj (af (.str "NoName")) ag))) (aC bX (aj (fC (ah dX (ae 3) (ae 2)) (ah dS (ae 4) (ae 1))) ag))))
  (ay (bB (aj (bB (aj (af (.str "copy_of")) (aj (ae 3) (aj (ae 4) ag)))) (aj (ae 5) (aj (fK (ae 1) (ae 4) (af (.str ""))) ag))))))) aO)
  (ao (az 6 (aC mG (aj (ae 0) (aj (af (.int 30)) ag))))
  (ao (aK (aJ (ah aH (aC bC (aj (ae 0) (aj (af (.int 10)) ag))) (af (.int 0)))) (az 6 (ah au (aX (aj (af .non) (aj (af (.int 7)) (aj (af (.str "a\t")) (aj (aX (aj (af (.str "a")) ag)) (aj (af (.bl true)) (aj (af (.str "\t")) ag))))))) (aC bC (aj (ae 0) (aj (af (.int 6)) ag))))) aO)
  (ao (az 5 (ah au (aX (aj (af (.str "")) (aj (af (.str "NoText")) ag))) (aC bX (aj (fC (jv (fH "str" (ae 6))) (ah qr (af (.str "\t")) (ae 6))) ag))))
  (ao (aK (aJ (ah dX (ae 3) (ae 2))) (az 5 (af (.str "NoName"))) aO)
  (ay (bB (aj (bB (aj (af (.str "give")) (aj (ae 3) (aj (ae 6) ag)))) (aj (ae 5) (aj (ae 6) ag))))))))))))
def mI:Fn:=aE 2 13
  (ao (az 2 (aC bC (aj (ae 0) (aj (af (.int 4)) ag))))
  (ao (az 3 (aC fM (aj (ae 0) (aj (ae 1) (aj (aX (aj (af (.str "")) (aj (af (.str "A")) (aj (af (.str "none")) ag)))) ag)))))
  (ao (az 4 (aC fM (aj (ae 0) (aj (ae 1) (aj (aX (aj (af (.str "")) (aj (af (.str "A")) (aj (af (.str "none")) ag)))) ag)))))
  (ao (az 5 (fK (ae 1) (ae 3) (af (.str ""))))
  (ao (az 6 (fK (ae 1) (ae 4) (af (.str ""))))
  (ao (az 7 (ah au (aX (aj (af (.str "")) (aj (af (.str "NoName")) ag))) (aC bX (aj (ah dS (ae 3) (ae 1)) ag))))
  (ao (az 8 (ah au (aX (aj (af (.str "")) (aj (af (.str "NoName")) ag))) (aC bX (aj (fC (ah dS (ae 3) (ae 1)) (ah dS (ae 4) (ae 1))) ag))))
  (ao (az 9 (ah cg (aC bC (aj (ae 0) (aj (ah aG (aC aW (aj (ae 5) ag)) (af (.int 3))) ag))) (af (.int 1))))
  (ao (az 10 (ah cg (aC bC (aj (ae 0) (aj (ah aG (aC aW (aj (ae 5) ag)) (af (.int 3))) ag))) (af (.int 1))))
  (ao (aK (aJ (ah aH (ae 2) (af (.int 0)))) (ay (bB (aj (bB (aj (af (.str "join_to")) (aj (ae 3) (aj (ae 4) ag)))) (aj (ae 8) (aj (ah aG (ae 5) (ae 6)) ag))))) aO)
  (ao (aK (aJ (ah aH (ae 2) (af (.int 1)))) (ao (az 11 (gp (ae 8) (ah au (aX (aj (af (.str "")) (aj (af (.str "NoPlace")) ag))) (aC bX (aj (jv (fq bF bF (af (.int 0)) (ae 9) (aC aW (aj (ae 5) ag)))) ag)))))
  (ay (bB (aj (bB (aj (af (.str "put_into")) (aj (ae 3) (aj (ae 9) (aj (ae 4) ag))))) (aj (ae 11) (aj (ah aG (ah aG (bR (ae 5) none (some (aC fG (aj (af (.int 0)) (aj (ae 9) ag))))) (ae 6)) (bR (ae 5) (some (aC fG (aj (af (.int 0)) (aj (ae 9) ag)))) none)) ag)))))) aO)
  (ao (aK (aJ (ah aH (ae 2) (af (.int 2)))) (ao (az 11 (gp (ae 7) (ah au (aX (aj (af (.str "")) (aj (af (.str "NoPlace")) ag))) (aC bX (aj (jv (k9 bF bF bF (af (.int 0)) (ae 9) (ae 10) (aC aW (aj (ae 5) ag)))) ag)))))
  (ay (bB (aj (bB (aj (af (.str "take_from")) (aj (ae 3) (aj (ae 9) (aj (ae 10) ag))))) (aj (ae 11) (aj (ah aG (bR (ae 5) none (some (aC fG (aj (af (.int 0)) (aj (ae 9) ag))))) (bR (ae 5) (some (aC fG (aj (af (.int 0)) (aj (ae 10) ag)))) none)) ag)))))) aO)
  (ao (az 12 (ah au (aX (aj (af (.int 0)) (aj (af (.int 1)) (aj (af (.int 2)) (aj (af (.int 3)) (aj (gM dR (af (.int 1))) (aj (ah aG (ah cW (ah cz (af (.int 10)) (af (.int 18))) (aC fG (aj (af (.int 1)) (aj (aC aW (aj (ae 5) ag)) ag)))) (af (.int 1))) ag))))))) (aC bC (aj (ae 0) (aj (af (.int 6)) ag)))))
  (ao (az 11 (gp (ae 7) (gp (ah au (aX (aj (af (.str "")) (aj (af (.str "NoPlace")) ag))) (aC bX (aj (ah fo (ae 12) (af (.int 0))) ag))) (ah au (aX (aj (af (.str "")) (aj (af (.str "TooLong")) ag))) (aC bX (aj (j1 (ah dZ (ae 12) (af (.int 3))) (ah bL (ae 5) (af (.str "")))) ag))))))
  (ay (bB (aj (bB (aj (af (.str "repeat")) (aj (ae 3) (aj (ae 12) ag)))) (aj (ae 11) (aj (ah nW (ae 5) (aC lY (aj (af (.int 3)) (aj (aC fG (aj (af (.int 0)) (aj (ae 12) ag))) ag)))) ag)))))))))))))))))))
def ow:Fn:=aE 2 9
  (ao (az 2 (aC bC (aj (ae 0) (aj (af (.int 8)) ag))))
  (ao (aK (aJ (ah aH (ae 2) (af (.int 0)))) (ao (az 3 (aC fM (aj (ae 0) (aj (ae 1) (aj (aX (aj (af (.str "")) (aj (af (.str "A")) (aj (af (.str "none")) ag)))) ag)))))
  (ao (aK (aJ (ah dS (ae 3) (ae 1))) (ay (bB (aj (bB (aj (af (.str "drop")) (aj (ae 3) ag))) (aj (af (.str "NoName")) (aj (ae 1) ag))))) aO)
  (ao (az 4 (aC j8 (aj (ae 1) ag)))
  (ao (bH (i5 (ae 4) (ae 3)))
  (ay (bB (aj (bB (aj (af (.str "drop")) (aj (ae 3) ag))) (aj (af (.str "")) (aj (ae 4) ag))))))))) aO)
  (ao (qp (.tup [5,6,7]) (gY mH mI (aC bX (aj (ah dZ (ae 2) (af (.int 3))) ag)) (aj (ae 0) (aj (ae 1) ag))))
  (ao (aK (d8 (aJ (ah aH (ae 6) (af (.str "")))) (aJ (ah dZ (aC aW (aj (ae 7) ag)) (af (.int 300))))) (qW 5 6 7 (aj (bB (aj (af (.str "give")) (aj (ah au (ae 5) (af (.int 1))) (aj (af (.str "long")) ag)))) (aj (af (.str "")) (aj (af (.str "long")) ag)))) aO)
  (ao (az 8 (aC j8 (aj (ae 1) ag)))
  (ao (aK (aJ (ah aH (ae 6) (af (.str "")))) (fF (ae 8) (ah au (ae 5) (af (.int 1))) (ae 7)) aO)
  (ay (bB (aj (ae 5) (aj (ae 6) (aj (ae 8) ag)))))))))))
def jK:Fn:=aE 2 2
  (ay (fE [0,1] (cO (aD 1 cF (ae 0) ag)) (aJ (ah bL (ae 0) (ae 2))) (bB (aj (ae 0) (aj (aD 1 bI (ae 1) (aj (ae 0) ag)) ag)))))
def lq:Fn:=aE 1 2
  (ao (aK (aJ (ah aH (Sm.sFld 1 2 (ae 0)) (aX ag))) fw aO)
  (ao (az 1 (jx cA gi (Sm.sFld 1 2 (ae 0))))
  (ao (bH (eI cA cY (Sm.sFld 1 3 (ae 0)) (aj (ae 1) ag)))
  (bH (aD 1 i7 (ae 0) (aj (ah au (ae 1) (af (.int 0))) (aj (ah au (ae 1) (af (.int 1))) ag)))))))
def kf:Fn:=aE 2 2
  (aK (aJ (ah bL (ae 1) (af (.int 0)))) (bH (aD 0 lh (ae 0) (aj (ae 1) ag))) aO)
def e7:Fn:=aE 2 2
  (ao (bH (aD 0 kf (ae 0) (aj (ae 1) ag)))
  (ay (ah au (Sm.sFld 0 2 (ae 0)) (ae 1))))
def mJ:Fn:=aE 1 1
  (aK (aJ (ah dZ (ae 0) (af (.int 1000000000000000000)))) fw aO)
def ox:Fn:=aE 2 2
  (ao (bH (aD 0 kf (ae 0) (aj (ae 1) ag)))
  (ay (ah au (Sm.sFld 0 7 (ae 0)) (ae 1))))
def oz:Fn:=aE 2 2
  (ao (bH (aD 0 kf (ae 0) (aj (ae 1) ag)))
  (ay (ah au (Sm.sFld 0 6 (ae 0)) (ae 1))))
def rg:Fn:=aE 3 3
  (ay (ah dZ (ah aG (aD 0 e7 (ae 0) (aj (aD 0 ox (ae 0) (aj (ae 1) ag)) ag)) (aD 0 e7 (ae 0) (aj (aD 0 oz (ae 0) (aj (ae 2) ag)) ag))) (af (.int 8))))
def fy:Fn:=aE 2 2
  (ao (bH (aD 0 lh (ae 0) (aj (ae 1) ag)))
  (ay (ah au (Sm.sFld 0 0 (ae 0)) (ah cg (ae 1) (af (.int 1))))))
def uU (G:Fn):Fn:=aE 3 4
  (ao (az 3 (aD 0 fy (ae 0) (aj (ae 1) ag)))
  (ao (aK (aJ (ah aH (ah au (ae 3) (af (.int 0))) (af (.str "leaf")))) (ay (ae 2)) aO)
  (ay (aD 0 bA (ae 0) (aj (ah au (ae 3) (af (.int 1))) (aj (aC G (aj (ae 0) (aj (ah au (ae 3) (af (.int 2))) (aj (ae 2) ag)))) ag))))))
def ip:Nat->Fn
 | 0=>aE 3 4 (λ_ _=>.bad)
 | d+1=>uU (ip d)
def g8:Fn:=aE 2 2
  (ao (bH (aD 0 kf (ae 0) (aj (ae 1) ag)))
  (ay (ah au (Sm.sFld 0 5 (ae 0)) (ae 1))))
def gH:Fn:=aE 3 7
  (ao (aK (aJ (ah fo (ah cg (aD 0 g8 (ae 0) (aj (ae 2) ag)) (aD 0 g8 (ae 0) (aj (ae 1) ag))) (af (.int 2)))) (ay (aD 0 bA (ae 0) (aj (ae 1) (aj (ae 2) ag)))) aO)
  (ao (az 3 (aD 0 fy (ae 0) (aj (ae 2) ag)))
  (ao (az 4 (ah au (ae 3) (af (.int 1))))
  (ao (az 5 (ah au (ae 3) (af (.int 2))))
  (ao (aK (aJ (ah bF (aD 0 g8 (ae 0) (aj (ae 4) ag)) (aD 0 g8 (ae 0) (aj (ae 5) ag)))) (ay (aD 0 bA (ae 0) (aj (aD 0 bA (ae 0) (aj (ae 1) (aj (ae 4) ag))) (aj (ae 5) ag)))) aO)
  (ao (az 6 (aD 0 fy (ae 0) (aj (ae 4) ag)))
  (ay (aD 0 bA (ae 0) (aj (aD 0 bA (ae 0) (aj (ae 1) (aj (ah au (ae 6) (af (.int 1))) ag))) (aj (aD 0 bA (ae 0) (aj (ah au (ae 6) (af (.int 2))) (aj (ae 5) ag))) ag))))))))))
def rh (G:Fn):Fn:=aE 2 4
  (ao (az 2 (aD 0 fy (ae 0) (aj (ae 1) ag)))
  (ao (aK (aJ (ah aH (ah au (ae 2) (af (.int 0))) (af (.str "leaf")))) (ay (af (.int 0))) aO)
  (ao (az 3 (aC G (aj (ae 0) (aj (ah au (ae 2) (af (.int 1))) ag))))
  (ao (aK (aJ (ah aH (ae 3) (af (.int 0)))) (ay (ah au (ae 2) (af (.int 2)))) aO)
  (ay (aC gH (aj (ae 0) (aj (ae 3) (aj (ah au (ae 2) (af (.int 2))) ag)))))))))
def f9:Nat->Fn
 | 0=>aE 2 4 (λ_ _=>.bad)
 | d+1=>rh (f9 d)
def iJ:Fn:=aE 3 7
  (ao (aK (aJ (ah fo (ah cg (aD 0 g8 (ae 0) (aj (ae 1) ag)) (aD 0 g8 (ae 0) (aj (ae 2) ag))) (af (.int 2)))) (ay (aD 0 bA (ae 0) (aj (ae 1) (aj (ae 2) ag)))) aO)
  (ao (az 3 (aD 0 fy (ae 0) (aj (ae 1) ag)))
  (ao (az 4 (ah au (ae 3) (af (.int 1))))
  (ao (az 5 (ah au (ae 3) (af (.int 2))))
  (ao (aK (aJ (ah bF (aD 0 g8 (ae 0) (aj (ae 5) ag)) (aD 0 g8 (ae 0) (aj (ae 4) ag)))) (ay (aD 0 bA (ae 0) (aj (ae 4) (aj (aD 0 bA (ae 0) (aj (ae 5) (aj (ae 2) ag))) ag)))) aO)
  (ao (az 6 (aD 0 fy (ae 0) (aj (ae 5) ag)))
  (ay (aD 0 bA (ae 0) (aj (aD 0 bA (ae 0) (aj (ae 4) (aj (ah au (ae 6) (af (.int 1))) ag))) (aj (aD 0 bA (ae 0) (aj (ah au (ae 6) (af (.int 2))) (aj (ae 2) ag))) ag))))))))))
def rj (G:Fn):Fn:=aE 3 5
  (ao (az 3 (ah cg (aD 0 g8 (ae 0) (aj (ae 1) ag)) (aD 0 g8 (ae 0) (aj (ae 2) ag))))
  (ao (aK (aJ (ah dZ (ae 3) (af (.int 1)))) (ao (az 4 (aD 0 fy (ae 0) (aj (ae 1) ag)))
  (ay (aC gH (aj (ae 0) (aj (ah au (ae 4) (af (.int 1))) (aj (aC G (aj (ae 0) (aj (ah au (ae 4) (af (.int 2))) (aj (ae 2) ag)))) ag)))))) aO)
  (ao (aK (aJ (ah fo (ae 3) (gM dR (af (.int 1))))) (ao (az 4 (aD 0 fy (ae 0) (aj (ae 2) ag)))
  (ay (aC iJ (aj (ae 0) (aj (aC G (aj (ae 0) (aj (ae 1) (aj (ah au (ae 4) (af (.int 1))) ag)))) (aj (ah au (ae 4) (af (.int 2))) ag)))))) aO)
  (ay (aD 0 bA (ae 0) (aj (ae 1) (aj (ae 2) ag)))))))
def fN:Nat->Fn
 | 0=>aE 3 5 (λ_ _=>.bad)
 | d+1=>rj (fN d)
def kg:Fn:=aE 3 6
  (ao (az 3 (ah aG (ah au (aD 0 fy (ae 0) (aj (aD 0 ox (ae 0) (aj (ae 1) ag)) ag)) (af (.int 1))) (ah au (aD 0 fy (ae 0) (aj (aD 0 oz (ae 0) (aj (ae 2) ag)) ag)) (af (.int 1)))))
  (ao (az 4 (aC (ip 90) (aj (ae 0) (aj (ae 1) (aj (aD 0 c5 (ae 0) (aj (ae 3) ag)) ag)))))
  (ao (az 5 (aC (f9 90) (aj (ae 0) (aj (ae 2) ag))))
  (ao (aK (aJ (ah aH (ae 5) (af (.int 0)))) (ay (ae 4)) aO)
  (ay (aC (fN 90) (aj (ae 0) (aj (ae 4) (aj (ae 5) ag)))))))))
def bT:Fn:=aE 3 3
  (ao (bH (aC mJ (aj (ah aG (aD 0 e7 (ae 0) (aj (ae 1) ag)) (aD 0 e7 (ae 0) (aj (ae 2) ag))) ag)))
  (ao (aK (aJ (ah aH (ae 1) (af (.int 0)))) (ay (ae 2)) aO)
  (ao (aK (aJ (ah aH (ae 2) (af (.int 0)))) (ay (ae 1)) aO)
  (ao (aK (gC (aC rg (aj (ae 0) (aj (ae 1) (aj (ae 2) ag))))) (ay (aC (fN 90) (aj (ae 0) (aj (ae 1) (aj (ae 2) ag))))) aO)
  (ay (aC kg (aj (ae 0) (aj (ae 1) (aj (ae 2) ag)))))))))
def rk (G:Fn):Fn:=aE 3 5
  (ao (aK (aJ (ah aH (ae 2) (af (.int 0)))) (ay (af (.int 0))) aO)
  (ao (az 3 (aC G (aj (ae 0) (aj (ae 1) (aj (ah cW (ae 2) (af (.int 2))) ag)))))
  (ao (az 4 (aC bT (aj (ae 0) (aj (ae 3) (aj (ae 3) ag)))))
  (ao (aK (aJ (ah aH (ah bW (ae 2) (af (.int 2))) (af (.int 0)))) (ay (ae 4)) aO)
  (ay (aC bT (aj (ae 0) (aj (ae 4) (aj (ae 1) ag)))))))))
def fO:Nat->Fn
 | 0=>aE 3 5 (λ_ _=>.bad)
 | d+1=>rk (fO d)
def hE:Fn:=aE 3 4
  (ao (az 3 (aD 0 e7 (ae 0) (aj (ae 1) ag)))
  (ao (aK (aJ (ah fo (ae 2) (af (.int 0)))) fw aO)
  (ao (bH (aC mJ (aj (ah bN (ae 3) (ae 2)) ag)))
  (ao (aK (aJ (ah aH (ae 1) (af (.int 0)))) (ay (af (.int 0))) aO)
  (ay (aC (fO 64) (aj (ae 0) (aj (ae 1) (aj (ae 2) ag)))))))))
def rm:Fn:=aE 3 4
  (ao (az 3 (aD 0 e7 (ae 0) (aj (ae 1) ag)))
  (aK (d9 (aJ (fq bF bF (af (.int 0)) (ae 2) (ae 3)))) fw aO))
def lr (G:Fn):Fn:=aE 3 5
  (ao (aK (aJ (ah aH (ae 2) (af (.int 0)))) (ay (af (.int 0))) aO)
  (ao (aK (aJ (ah aH (ae 2) (aD 0 e7 (ae 0) (aj (ae 1) ag)))) (ay (ae 1)) aO)
  (ao (az 3 (aD 0 fy (ae 0) (aj (ae 1) ag)))
  (ao (aK (aJ (ah aH (ah au (ae 3) (af (.int 0))) (af (.str "leaf")))) (ay (aD 0 c5 (ae 0) (aj (bR (ah au (ae 3) (af (.int 1))) none (some (ae 2))) ag))) aO)
  (ao (az 4 (aD 0 e7 (ae 0) (aj (ah au (ae 3) (af (.int 1))) ag)))
  (ao (aK (aJ (ah bF (ae 2) (ae 4))) (ay (aC G (aj (ae 0) (aj (ah au (ae 3) (af (.int 1))) (aj (ae 2) ag))))) aO)
  (ay (aC bT (aj (ae 0) (aj (ah au (ae 3) (af (.int 1))) (aj (aC G (aj (ae 0) (aj (ah au (ae 3) (af (.int 2))) (aj (ah cg (ae 2) (ae 4)) ag)))) ag)))))))))))
def dB:Nat->Fn
 | 0=>aE 3 5 (λ_ _=>.bad)
 | d+1=>lr (dB d)
def lA (G:Fn):Fn:=aE 3 5
  (ao (aK (aJ (ah aH (ae 2) (af (.int 0)))) (ay (ae 1)) aO)
  (ao (aK (aJ (ah aH (ae 2) (aD 0 e7 (ae 0) (aj (ae 1) ag)))) (ay (af (.int 0))) aO)
  (ao (az 3 (aD 0 fy (ae 0) (aj (ae 1) ag)))
  (ao (aK (aJ (ah aH (ah au (ae 3) (af (.int 0))) (af (.str "leaf")))) (ay (aD 0 c5 (ae 0) (aj (bR (ah au (ae 3) (af (.int 1))) (some (ae 2)) none) ag))) aO)
  (ao (az 4 (aD 0 e7 (ae 0) (aj (ah au (ae 3) (af (.int 1))) ag)))
  (ao (aK (aJ (ah j0 (ae 2) (ae 4))) (ay (aC G (aj (ae 0) (aj (ah au (ae 3) (af (.int 2))) (aj (ah cg (ae 2) (ae 4)) ag))))) aO)
  (ay (aC bT (aj (ae 0) (aj (aC G (aj (ae 0) (aj (ah au (ae 3) (af (.int 1))) (aj (ae 2) ag)))) (aj (ah au (ae 3) (af (.int 2))) ag)))))))))))
def dq:Nat->Fn
 | 0=>aE 3 5 (λ_ _=>.bad)
 | d+1=>lA (dq d)
def i8:Fn:=aE 4 6
  (ao (az 4 (ah aG (aD 0 e7 (ae 0) (aj (ae 1) ag)) (aD 0 e7 (ae 0) (aj (ae 3) ag))))
  (ao (bH (aC rm (aj (ae 0) (aj (ae 1) (aj (ae 2) ag)))))
  (ao (bH (aC mJ (aj (ae 4) ag)))
  (ao (az 5 (aC bT (aj (ae 0) (aj (aC (dB 90) (aj (ae 0) (aj (ae 1) (aj (ae 2) ag)))) (aj (ae 3) ag)))))
  (ay (aC bT (aj (ae 0) (aj (ae 5) (aj (aC (dq 90) (aj (ae 0) (aj (ae 1) (aj (ae 2) ag)))) ag)))))))))
def rn:Fn:=aE 4 5
  (ao (az 4 (aD 0 e7 (ae 0) (aj (ae 1) ag)))
  (aK (d9 (aJ (k9 bF bF bF (af (.int 0)) (ae 2) (ae 3) (ae 4)))) fw aO))
def jL:Fn:=aE 4 4
  (ao (bH (aC rn (aj (ae 0) (aj (ae 1) (aj (ae 2) (aj (ae 3) ag))))))
  (ay (aC bT (aj (ae 0) (aj (aC (dB 90) (aj (ae 0) (aj (ae 1) (aj (ae 2) ag)))) (aj (aC (dq 90) (aj (ae 0) (aj (ae 1) (aj (ae 3) ag)))) ag))))))
def mK:Fn:=aE 2 3
  (ao (az 2 (aD 1 d5 (ae 0) ag))
  (ao (aK (aJ (ah aH (ah au (ae 1) (af (.int 0))) (af (.str "give")))) (ay (aC iI (aj (ae 2) (aj (ah au (ae 1) (af (.int 2))) ag)))) aO)
  (ao (aK (aJ (ah aH (ah au (ae 1) (af (.int 0))) (af (.str "copy_of")))) (ay (aD 1 bI (ae 0) (aj (ah au (ae 1) (af (.int 2))) ag))) aO)
  (ao (aK (aJ (ah aH (ah au (ae 1) (af (.int 0))) (af (.str "join_to")))) (ay (aC bT (aj (ae 2) (aj (aD 1 bI (ae 0) (aj (ah au (ae 1) (af (.int 1))) ag)) (aj (aD 1 bI (ae 0) (aj (ah au (ae 1) (af (.int 2))) ag)) ag))))) aO)
  (ao (aK (aJ (ah aH (ah au (ae 1) (af (.int 0))) (af (.str "put_into")))) (ay (aC i8 (aj (ae 2) (aj (aD 1 bI (ae 0) (aj (ah au (ae 1) (af (.int 1))) ag)) (aj (ah au (ae 1) (af (.int 2))) (aj (aD 1 bI (ae 0) (aj (ah au (ae 1) (af (.int 3))) ag)) ag)))))) aO)
  (ao (aK (aJ (ah aH (ah au (ae 1) (af (.int 0))) (af (.str "take_from")))) (ay (aC jL (aj (ae 2) (aj (aD 1 bI (ae 0) (aj (ah au (ae 1) (af (.int 1))) ag)) (aj (ah au (ae 1) (af (.int 2))) (aj (ah au (ae 1) (af (.int 3))) ag)))))) aO)
  (ay (aC hE (aj (ae 2) (aj (aD 1 bI (ae 0) (aj (ah au (ae 1) (af (.int 1))) ag)) (aj (ah au (ae 1) (af (.int 2))) ag)))))))))))
def oA:Fn:=aE 3 3
  (ao (bH (aC og (aj (ae 1) ag)))
  (bH (aD 1 eK (ae 0) (aj (ae 1) (aj (aD 1 bI (ae 0) (aj (ae 2) ag)) ag)))))
def oB:Fn:=aE 3 3
  (bH (aD 1 eK (ae 0) (aj (ae 1) (aj (aC bT (aj (Sm.sFld 1 0 (ae 0)) (aj (aD 1 bI (ae 0) (aj (ae 1) ag)) (aj (aD 1 bI (ae 0) (aj (ae 2) ag)) ag)))) ag))))
def oC:Fn:=aE 4 4
  (bH (aD 1 eK (ae 0) (aj (ae 1) (aj (aC i8 (aj (Sm.sFld 1 0 (ae 0)) (aj (aD 1 bI (ae 0) (aj (ae 1) ag)) (aj (ae 2) (aj (aD 1 bI (ae 0) (aj (ae 3) ag)) ag))))) ag))))
def oE:Fn:=aE 4 4
  (bH (aD 1 eK (ae 0) (aj (ae 1) (aj (aC jL (aj (Sm.sFld 1 0 (ae 0)) (aj (aD 1 bI (ae 0) (aj (ae 1) ag)) (aj (ae 2) (aj (ae 3) ag))))) ag))))
def oF:Fn:=aE 3 3
  (bH (aD 1 eK (ae 0) (aj (ae 1) (aj (aC hE (aj (Sm.sFld 1 0 (ae 0)) (aj (aD 1 bI (ae 0) (aj (ae 1) ag)) (aj (ae 2) ag)))) ag))))
def Am:Fn:=aE 2 2
  (ao (bH (aD 1 bI (ae 0) (aj (ae 1) ag)))
  (bH (aD 1 eK (ae 0) (aj (ae 1) (aj (af .non) ag)))))
def An:Fn:=aE 1 2
  (ao (aK (aJ (ah aH (Sm.sFld 1 3 (ae 0)) (aX ag))) fw aO)
  (ao (az 1 (jx cA gi (Sm.sFld 1 3 (ae 0))))
  (ao (bH (eI cA cY (Sm.sFld 1 2 (ae 0)) (aj (ae 1) ag)))
  (bH (aD 1 i7 (ae 0) (aj (ah au (ae 1) (af (.int 0))) (aj (ah au (ae 1) (af (.int 2))) ag)))))))
def oG:Fn:=aE 2 2
  (ao (aK (aJ (ah aH (ah au (ae 1) (af (.int 0))) (af (.str "give")))) (ay (aD 1 jJ (ae 0) (aj (ah au (ae 1) (af (.int 1))) (aj (ah au (ae 1) (af (.int 2))) ag)))) aO)
  (ao (aK (aJ (ah aH (ah au (ae 1) (af (.int 0))) (af (.str "copy_of")))) (ay (aD 1 oA (ae 0) (aj (ah au (ae 1) (af (.int 1))) (aj (ah au (ae 1) (af (.int 2))) ag)))) aO)
  (ao (aK (aJ (ah aH (ah au (ae 1) (af (.int 0))) (af (.str "join_to")))) (ay (aD 1 oB (ae 0) (aj (ah au (ae 1) (af (.int 1))) (aj (ah au (ae 1) (af (.int 2))) ag)))) aO)
  (ao (aK (aJ (ah aH (ah au (ae 1) (af (.int 0))) (af (.str "put_into")))) (ay (aD 1 oC (ae 0) (aj (ah au (ae 1) (af (.int 1))) (aj (ah au (ae 1) (af (.int 2))) (aj (ah au (ae 1) (af (.int 3))) ag))))) aO)
  (ao (aK (aJ (ah aH (ah au (ae 1) (af (.int 0))) (af (.str "take_from")))) (ay (aD 1 oE (ae 0) (aj (ah au (ae 1) (af (.int 1))) (aj (ah au (ae 1) (af (.int 2))) (aj (ah au (ae 1) (af (.int 3))) ag))))) aO)
  (ao (aK (aJ (ah aH (ah au (ae 1) (af (.int 0))) (af (.str "repeat")))) (ay (aD 1 oF (ae 0) (aj (ah au (ae 1) (af (.int 1))) (aj (ah au (ae 1) (af (.int 2))) ag)))) aO)
  (ao (aK (aJ (ah aH (ah au (ae 1) (af (.int 0))) (af (.str "drop")))) (ay (aD 1 Am (ae 0) (aj (ah au (ae 1) (af (.int 1))) ag))) aO)
  (ao (aK (aJ (ah aH (ah au (ae 1) (af (.int 0))) (af (.str "again")))) (ay (aD 1 An (ae 0) ag)) aO)
  (ay (aD 1 lq (ae 0) ag))))))))))
def mL:Fn:=aE 2 4
  (ao (az 2 (af (.str "other")))
  (ao (qU 3 (λc=>Ah c || Aj c) (λc=>Ai c || Al c) Ak (aK (aJ (ah iC (aC oG (aj (ae 0) (aj (ae 1) ag))) (af .non))) (az 2 (af (.str ""))) aO) fw fw fw)
  (ay (ae 2))))
def kh:SS :=
  (fF (ae 15) (ae 16) (aD 1 bI (ae 1) (aj (ae 16) ag)))
def mM:SS :=
  (ao (az 8 (aC ke (aj (aX (aj (ae 7) (aj (ae 6) ag))) (aj (af (.int 0)) ag))))
  (ao (qp (.tup [9,10,11]) (aC ow (aj (ae 8) (aj (ae 4) ag))))
  (ao (aK (d8 (aJ (ah aH (ae 10) (af (.str "")))) (aJ (ah bL (ah au (ae 9) (af (.int 0))) (af (.str "drop"))))) (ao (az 12 (ah dZ (aC bC (aj (ae 8) (aj (af (.int 3)) ag))) (af (.int 0))))
  (ao (az 13 (af .non))
  (ao (aK (gC (ae 12)) (ao (az 13 (aC mK (aj (ae 1) (aj (ae 9) ag))))
  (bH (aD 0 c5 (ae 3) (aj (ah aG (af (.str "q")) (ah au (af (.str "abc")) (aC bC (aj (ae 8) (aj (af (.int 3)) ag))))) ag)))) aO)
  (ao (az 14 (aC jK (aj (ae 1) (aj (ah au (ae 9) (af (.int 1))) ag))))
  (ao (az 15 (jt false))
  (ao (cX (cO (aD 1 cF (ae 1) ag)) (.nm 16) kh)
  (ao (aK (iV (aJ (ah bL (aC mL (aj (ae 1) (aj (ae 9) ag))) (af (.str "")))) (aJ (ah bL (aC jK (aj (ae 1) (aj (ah au (ae 9) (af (.int 1))) ag))) (ae 14)))) (ay (af (.bl false))) aO)
  (ao (aK (d8 (gC (ae 12)) (aJ (ah bL (aD 1 bI (ae 1) (aj (ah au (ae 9) (af (.int 1))) ag)) (ae 13)))) (ay (af (.bl false))) aO)
  (ao (aK (d8 (aJ (ah aH (ah au (ae 9) (af (.int 0))) (af (.str "copy_of")))) (aJ (ah bL (aD 1 bI (ae 1) (aj (ah au (ae 9) (af (.int 1))) ag)) (ah au (ae 15) (ah au (ae 9) (af (.int 2))))))) (ay (af (.bl false))) aO)
  (az 4 (ae 11))))))))))) aO)
  (ao (az 17 (aD 1 cF (ae 1) ag))
  (ao (bH (eI cA cY (ae 17) (aj (af (.str "none")) ag)))
  (ao (aK (iV (aJ (ah bL (aD 1 cF (ae 1) ag) (bR (ae 17) none (some (gM dR (af (.int 1))))))) (aJ (ah bL (aD 1 cF (ae 1) ag) (jF (ae 4))))) (ay (af (.bl false))) aO)
  (ao (aK (aJ (ah bL (aD 0 eP (ae 3) ag) (aD 0 eP (aD 1 d5 (ae 1) ag) ag))) (ay (af (.bl false))) aO)
  (aK (aJ (ah bL (aX (aj (aD 1 cF (ae 2) ag) (aj (aD 1 bI (ae 2) (aj (af (.str "other")) ag)) (aj (aD 0 eP (aD 1 d5 (ae 2) ag) ag) ag)))) (ae 5))) (ay (af (.bl false))) aO))))))))
def uV:Fn:=aE 1 18
  (ao (az 1 (jw 1 4 jI ag))
  (ao (az 2 (jw 1 4 jI ag))
  (ao (az 3 (aD 1 d5 (ae 1) ag))
  (ao (az 4 (jt false))
  (ao (aK (iV (aJ (ah bL (aD 0 eP (aD 1 d5 (ae 2) ag) ag) (af (.int 0)))) (aJ (ah bL (aD 0 eP (ae 3) ag) (af (.int 0))))) (ay (af (.bl false))) aO)
  (ao (bH (aD 1 jJ (ae 2) (aj (af (.str "other")) (aj (af (.str "a second house")) ag))))
  (ao (az 5 (aX (aj (aD 1 cF (ae 2) ag) (aj (aD 1 bI (ae 2) (aj (af (.str "other")) ag)) (aj (aD 0 eP (aD 1 d5 (ae 2) ag) ag) ag)))))
  (ao (aK (iV (aJ (ah bL (aD 0 eP (ae 3) ag) (af (.int 0)))) (aJ (ah bL (aD 1 cF (ae 1) ag) (aX ag)))) (ay (af (.bl false))) aO)
  (ao (cX (Sm.iEnum (ah aG (bR (ae 0) none (some (af (.int 30)))) (aX (aj (af (.int 0)) (aj (af (.int 1)) (aj (af (.int 2)) ag)))))) (.tup [6,7]) mM)
  (ay (j1 (ah iC (aD 1 lq (ae 2) ag) (af .non)) (ah aH (aD 1 cF (ae 2) ag) (aX ag)))))))))))))
end Sk
set_option exponentiation.threshold 2000
namespace Sk
open PySem PySem.Spec L2 Sm
theorem Ao {w:Option Nat} {all:List AV} {t:Tg} {b:SS} (P:Nat->En->AH->Prop):∀ (xs:List AV) (i:Nat) (en:En) (h:AH),P i en h ->
  (∀ i en h,P i en h->fu w all h=true) ->
  (∀ (j:Nat) (x:AV) (en:En) (h:AH),xs[j]? = some x->P (i+j) en h->∃ e1 e2 h2,fD t x en=some e1/\(b e1 h = .nx e2 h2\/b e1 h = .ct e2 h2)/\P (i+j+1) e2 h2) ->
  ∃ e' h',gO w all t b xs en h = .nx e' h'/\P (i+xs.length) e' h'
 | [],i,en,h,p,lv,_=>⟨en,h,by unfold gO;rw [MW (lv _ _ _ p)],p⟩
 | x::xs,i,en,h,p,lv,s=>by
  obtain ⟨e1,e2,h2,q1,q2,q3⟩:=s 0 x en h rfl p;obtain ⟨e',h',r1,r2⟩:=Ao P xs (i+1) e2 h2 q3 lv λj y en h e q=>by
   have:=s (j+1) y en h (by simpa using e) (by rw [show i+(j+1)=i+1+j by lia];exact q)
   rw [show i+(j+1)+1=i+1+j+1 by lia] at this;exact this
  refine ⟨e',h',?_,by rw [NL,show i+(xs.length+1)=i+1+xs.length by lia];exact r2⟩
  unfold gO;rw [MW (lv _ _ _ p)];simp only [q1]
  rcases q2 with q2 | q2
  ·rw [q2];exact r1
  ·rw [q2];exact r1
theorem rp {α:Type} {js:List Nat} {en:En} {w:Option Nat} {all:List AV} {c:SB} {e:SE} {g f:α->AV} {p:α->Bool} {h:AH} (lv:fu w all h=true):∀ (cs:List α) (ys:List AV),(∀ x∈cs,c (some (g x)::js.map λj=>(en[j]?).join) h = .ok (p x) h)->(∀ x∈cs,p x=true->e (some (g x)::js.map λj=>(en[j]?).join) h = .ok (f x) h)->ys.length+cs.length<=sizeLine ->
  eh js en w all c e (cs.map g) ys h = .ok (ys++(cs.filter p).map f) h
 | [],ys,_,_,_=>by rw [Rc];unfold eh;rw [MW lv];simp
 | x::xs,ys,hc,he,hl=>by
  have hl':ys.length<sizeLine:=by simp at hl;lia
  rw [Ny];unfold eh
  rw [MW ⟨lv,hl'⟩,hc x (by simp)]
  cases hp:p x with
  | false =>
   dsimp only;rw [rp lv xs ys (λy hy=>hc y (by simp [hy])) (λy hy=>he y (by simp [hy])) (by simp at hl ⊢;lia)]
   simp [OB,hp]
  | true =>
   dsimp only;rw [he x (by simp) hp]
   dsimp only;rw [rp lv xs (ys++[f x]) (λy hy=>hc y (by simp [hy])) (λy hy=>he y (by simp [hy])) (by simp at hl ⊢;lia)]
   simp [OB,hp]
variable {α:Type} {en:En} {h h1 h' h2 h3 hh:AH}
theorem II {js:List Nat} {w:Option Nat} {all:List AV} {e:SE} {g f:α->AV} (lv:fu w all h=true) (cs:List α) (ys:List AV) (he:∀ x∈cs,e (some (g x)::js.map λj=>(en[j]?).join) h = .ok (f x) h) (hl:ys.length+cs.length<=sizeLine) :
  eh js en w all cw e (cs.map g) ys h = .ok (ys++cs.map f) h:=by
 rw [rp (p:=λ_=>true) lv cs ys (λ_ _=>rfl) (λx hx _=>he x hx) hl,List.filter_eq_self.mpr (λ_ _=>rfl)]
@[simp] def thn (o:OutS) (Q:En->AH->Prop):Prop:=match o with
 | .nx e h=>Q e h
 | .ct e h=>Q e h
 | _=>False
theorem IJ {o:OutS} {Q:En->AH->Prop} (t:thn o Q):∃ e h,(o = .nx e h\/o = .ct e h)/\Q e h:=by
 cases o with
 | nx e h=>exact ⟨e,h,.inl rfl,t⟩
 | ct e h=>exact ⟨e,h,.inr rfl,t⟩
 | _=>exact t.elim
@[simp] def IK (o:Option En) (Q:En->Prop):Prop:=match o with
 | some e=>Q e
 | none=>False
variable {xs:List AV}
theorem oH {w:Option Nat} {all:List AV} {t:Tg} {b:SS} (P:Nat->En->AH->Prop) (p0:P 0 en h) (lv:∀ i en h,P i en h->fu w all h=true) (st:∀ (j:Nat) (x:AV) (en:En) (h:AH),xs[j]? = some x->P j en h->IK (fD t x en) λe1=>thn (b e1 h) (P (j+1))) :
  ∃ e' h',gO w all t b xs en h = .nx e' h'/\P xs.length e' h' := by
 have:=Ao (w:=w) (all:=all) (t:=t) (b:=b) P xs 0 en h p0 lv λj x en h hx hp=>by
  have q:=st j x en h hx (by simpa using hp)
  cases z:fD t x en with
  | none=>rw [z] at q;exact q.elim
  | some e1 =>
   rw [z] at q;obtain ⟨e,h2,a,c⟩:=IJ q
   exact ⟨e1,e,h2,rfl,a,by simpa using c⟩
 simpa using this
@[simp] def IL (o:Out AV) (Q:AV->AH->Prop):Prop:=match o with
 | .ok v h=>Q v h
 | _=>False
theorem Ap {js:List Nat} {en:En} {all:List AV} {e:SE} (P:Nat->List AV->AH->Prop):∀ (xs ys:List AV) (i:Nat) (h:AH),P i ys h ->
  (∀ j x ys h,xs[j]? = some x->P (i+j) ys h->∃ v h2,e (some x::js.map λj=>(en[j]?).join) h = .ok v h2/\P (i+j+1) (ys++[v]) h2)->ys.length+xs.length<=sizeLine ->
  ∃ zs h',eh js en none all cw e xs ys h = .ok zs h'/\P (i+xs.length) zs h'
 | [],ys,i,h,p,_,_=>⟨ys,h,by simp [eh],p⟩
 | x::xs,ys,i,h,p,s,hl=>by
  obtain ⟨v,h2,q1,q2⟩:=s 0 x ys h rfl p;obtain ⟨zs,h',r1,r2⟩:=Ap P xs (ys++[v]) (i+1) h2 q2 (λj y ys h hy hp=>by
   have:=s (j+1) y ys h (by simpa using hy) (by rw [show i+(j+1)=i+1+j by lia];exact hp)
   rw [show i+(j+1)+1=i+1+j+1 by lia] at this;exact this) (by simp at hl ⊢;lia)
  refine ⟨zs,h',?_,by rw [NL,show i+(xs.length+1)=i+1+xs.length by lia];exact r2⟩
  unfold eh;rw [MW ⟨rfl,by simp at hl;lia⟩];simp only [cw]
  rw [q1];exact r1
theorem Aq {js:List Nat} {all:List AV} {e:SE} (P:Nat->List AV->AH->Prop) (p0:P 0 [] h) (st:∀ j x ys h,xs[j]? = some x->P j ys h->IL (e (some x::js.map λj=>(en[j]?).join) h) λv h2=>P (j+1) (ys++[v]) h2) (hl:xs.length<=sizeLine) :
  ∃ zs h',eh js en none all cw e xs [] h = .ok zs h'/\P xs.length zs h' := by
 have:=Ap (js:=js) (en:=en) (all:=all) (e:=e) P xs [] 0 h p0 (λj x ys h hx p=>by
  have q:=st j x ys h hx (by simpa using p)
  cases z:e (some x::js.map λj=>(en[j]?).join) h with
  | ok v h2=>rw [z] at q;exact ⟨v,h2,rfl,by simpa using q⟩
  | ex _ _=>rw [z] at q;exact q.elim
  | bad=>rw [z] at q;exact q.elim) (by simpa using hl)
 simpa using this
theorem Ar:∀ (n:Nat) (lo:Int) (i:Nat),(eF lo n)[i]? = if i<n then some (.int (lo+i)) else none
 | 0,lo,i=>by simp [eF]
 | n+1,lo,0=>by simp [eF]
 | n+1,lo,i+1=>by
  unfold eF;rw [P6,Ar n (lo+1) i];by_cases q:i<n
  ·rw [MW q,MW (by lia)];congr 2;lia
  ·rw [MX q,MX (by lia)]
theorem uW:∀ (n:Nat) (lo:Int),(eF lo n).length=n
 | 0,_=>rfl
 | n+1,lo=>by unfold eF;rw [NL,uW n]
variable {n e b a i j p d r k2 k1 n1 c L hb N K D nb A:Nat}
theorem As {a:SE} (e:a en h = .ok (.int n) h1) (hn:n<=10000000):kO a en h = .ok (eF 0 n,none) h1:=by
 have h1':(n:Int).natAbs<2 ^ 62:=by lia
 simp only [kO,e,Out.bind]
 rw [MW h1'];rfl
theorem oI {it:SI} {t:Tg} {b:SS} {w:Option Nat} (e:it en h = .ok (xs,w) h1):cX it t b en h=gO w xs t b xs en h1:=by simp only [cX,e]
theorem IM {i j:Int} (hi:i.natAbs<2 ^ 64):bN (.int i) (.int j) h = .ok (.int (i*j)) h:=MW (.inl (.inl hi))
theorem Au {i j:Int} (hj:j.natAbs<2 ^ 64):bN (.int i) (.int j) h = .ok (.int (i*j)) h:=MW (.inl (.inr hj))
theorem IP {f:α->AV} {l:List α} {q:α} (e:l[j]? = some q):atI (l.map f) (j:Int)=some (f q):=jh (by simp [e])
end Sk
set_option exponentiation.threshold 5000
namespace Sk
open PySem PySem.Spec L2 Sm
def mN (c:Nat):Bool:=decide (c=10) || (decide (32<=c) && decide (c<=126))
theorem Av (a b:Nat):([a]<[b]) ↔ a<b:=by
 simp [List.cons_lt_cons_iff]
theorem Aw:(Str.ofString "\n")=⟨#[10]⟩:=by decide +kernel
theorem IQ:(Str.ofString " ")=⟨#[32]⟩:=by decide +kernel
theorem IS:(Str.ofString "~")=⟨#[126]⟩:=by decide +kernel
theorem IT (c:Nat) (h:AH):oq [.str ⟨#[c]⟩] h = .ok (.bl (mN c)) h:=by
 simp [oq,Aw,IQ,IS,Av,mN]
 by_cases h1:c=10
 ·simp [h1]
 ·by_cases h2:c<32
  ·have : ¬ 32<=c:=by lia
   simp [h1,h2,this]
  ·have h3:32<=c:=by lia
   by_cases h4:c<=126
   ·have : ¬ 126<c:=by lia
    simp [h1,h2,h3,h4,this]
   ·have:126<c:=by lia
    simp [h1,h2,h3,h4,this]
theorem uX {α:Type} {js:List Nat} {en:En} {all:List AV} {e:SE} {g f:α->AV} {h:AH}:∀ (cs:List α) (ys:List AV),(∀ c∈cs,e (some (g c)::js.map λj=>(en[j]?).join) h = .ok (f c) h)->ys.length+cs.length<=sizeLine->eh js en none all cw e (cs.map g) ys h = .ok (ys++cs.map f) h
 | [],ys,_,_=>by simp [eh]
 | x::xs,ys,he,hl=>by
  have hl':ys.length<sizeLine:=by simp at hl;lia
  rw [Ny];unfold eh
  rw [MW ⟨rfl,hl'⟩];simp only [cw]
  rw [he x (by simp)];dsimp only;rw [uX xs (ys++[f x]) (λy hy=>he y (by simp [hy])) (by simp at hl ⊢;lia)]
  simp
theorem uY (f:Nat->Bool):∀ cs:List Nat,nH (cs.map λc=>.bl (f c))=some (cs.map f)
 | []=>rfl
 | c::cs=>by simp [uY f cs]
def bS (x:Str):Bool:=x.cps.toList.all mN
theorem uZ (x:Str) (h:AH) (hl:x.length<=sizeLine):ot [.str x] h = .ok (.bl (bS x)) h:=by
 have e:=uX (js:=[]) (en:=[some (.str x)]) (all:=x.cps.toList.map λc=>AV.str ⟨#[c]⟩) (e:=aC oq (aj (ae 0) ag)) (g:=λc=>AV.str ⟨#[c]⟩) (f:=λc=>AV.bl (mN c)) (h:=h) x.cps.toList [] (by
  intro c hc;simp [IT]) (by simp;exact hl)
 simp only [O5] at e
 simp [ot]
 rw [e];simp [uY,bS]
def fg (x:Str):Bool:=bS x && (decide (1<=x.length) && decide (x.length<=8))
theorem Ax (x:Str) (h:AH) (hl:x.length<=sizeLine):qZ [.str x] h = .ok (.bl (fg x)) h:=by
 simp [qZ,uZ x h hl,fg]
 by_cases h1:bS x=true
 ·by_cases h2:1<=x.length
  ·have:(1:Int)<=x.length:=by lia
   by_cases h3:x.length<=8
   ·have:(x.length:Int)<=8:=by lia
    simp [*]
   ·have : ¬ (x.length:Int)<=8:=by lia
    simp [*]
  ·have : ¬ (1:Int)<=x.length:=by lia
   simp [*]
 ·simp [h1]
def jM (x:Str):Nat:=(Builtin.Str.occurrences x ⟨#[10]⟩ 0 x.length (x.length+1)).length
theorem IU (x:Str) (h:AH):q0 [.str x] h = .ok (.int (jM x)) h:=by
 simp [q0,Aw,jM]
theorem IV (i:Int) (h:AH):qX [.int i] h = .ok (.bl true) h:=by
 simp [qX]
inductive Pc where
 | leaf (x:Str)
 | fork (a b:Nat)
 deriving DecidableEq
def Pc.av:Pc->AV
 | .leaf x=>.tup [.str "leaf",.str x]
 | .fork a b=>.tup [.str "fork",.int a,.int b]
theorem Pc.av_inj:∀ {p q:Pc},p.av=q.av->p=q
 | .leaf x,.leaf y,e=>by simp [Pc.av] at e;rw [e]
 | .leaf x,.fork a b,e=>by simp [Pc.av] at e
 | .fork a b,.leaf x,e=>by simp [Pc.av] at e
 | .fork a b,.fork c d,e=>by simp [Pc.av] at e;rw [Int.ofNat.inj e.1,Int.ofNat.inj e.2]
structure Ms where
 sg:Nat
 en:Nat
 lv:Nat
 ht:Int
 fl:Nat
 ll:Nat
def ms0:Ms:=⟨0,0,0,-1,0,0⟩
def iK (ms:List Ms):Pc->Ms
 | .leaf x=>⟨x.length,jM x,1,0,ms.length,ms.length⟩
 | .fork a b=>⟨(ms.getD a ms0).sg+(ms.getD b ms0).sg,(ms.getD a ms0).en+(ms.getD b ms0).en,(ms.getD a ms0).lv+(ms.getD b ms0).lv,max (ms.getD a ms0).ht (ms.getD b ms0).ht+1,(ms.getD a ms0).fl,(ms.getD b ms0).ll⟩
def meas (ps:List Pc):List Ms:=ps.foldl (λms q=>ms++[iK ms q]) [ms0]
theorem u0 (ps:List Pc) (q:Pc):meas (ps++[q])=meas ps++[iK (meas ps) q]:=by simp [meas]
theorem fz:∀ ps:List Pc,(meas ps).length=ps.length+1:=by
 have all:∀ (ps:List Pc) (ms:List Ms),(ps.foldl (λms q=>ms++[iK ms q]) ms).length=ms.length+ps.length:=by
  intro ps;induction ps with
  | nil=>intro ms;rfl
  | cons q r ih=>intro ms;rw [Qm,ih];simp;lia
 intro ps;rw [meas,all];simp;lia
def gs (k:Nat):List Pc->List (AV×AV)
 | []=>[]
 | q::r=>(q.av,.int k)::gs (k+1) r
def fh (ps:List Pc):List (AV×AV):=gs 1 ps
theorem rq (q:Pc):∀ (ps:List Pc) (k:Nat),gs k (ps++[q])=gs k ps++[(q.av,.int ((k+ps.length:Nat):Int))]
 | [],k=>by simp [gs]
 | p::r,k=>by
  simp only [List.cons_append,gs,rq q r (k+1)]
  rw [show k+1+r.length=k+(p::r).length by simp;lia]
theorem Ay:∀ (ps:List Pc) (k:Nat),(gs k ps).length=ps.length
 | [],_=>rfl
 | p::r,k=>by simp [gs,Ay r]
theorem rA {q:Pc}:∀ {ps:List Pc} {k:Nat},q∉ps->bD (gs k ps) q.av=none
 | [],k,_=>rfl
 | p::r,k,h=>by
  have h1 : ¬ p.av=q.av:=λe=>h (by rw [Pc.av_inj e];simp)
  have h2:=rA (q:=q) (ps:=r) (k:=k+1) λz=>h (by simp [z])
  unfold bD at h2 ⊢
  simp only [gs,NK,Nl h1]
  exact h2
theorem u7 {q:Pc}:∀ {ps:List Pc} {k i:Nat},ps.Nodup->ps[i]? = some q->bD (gs k ps) q.av=some (.int ((k+i:Nat):Int))
 | [],k,i,_,e=>by simp at e
 | p::r,k,0,n,e=>by simp at e;subst e;simp [bD,gs]
 | p::r,k,i+1,n,e=>by
  simp at e
  have h1 : ¬ p.av=q.av:=λz=>(NO.mp n).1 (by rw [Pc.av_inj z];exact Nq e)
  have h2:=u7 (q:=q) (k:=k+1) (NO.mp n).2 e;unfold bD at h2 ⊢
  simp only [gs,NK,Nl h1]
  rw [h2];congr 3
  lia
variable {q:Pc} {ps ps' ps1 psb:List Pc}
theorem IW (h:q∉ps):eX (fh ps) q.av (.int ((ps.length+1:Nat):Int))=fh (ps++[q]):=by
 unfold eX;rw [uC,fh,rA h,fh,rq];simp [O1]
structure ShelfAt (h:AH) (p:Nat) (ps:List Pc):Prop where
 ob:h[p]? = some (.ins 0 [some (.ref (p+1)),some (.ref (p+2)),some (.ref (p+3)),some (.ref (p+4)),some (.ref (p+5)),some (.ref (p+6)),some (.ref (p+7)),some (.ref (p+8))])
 h1:h[p+1]? = some (.lst (ps.map Pc.av))
 h2:h[p+2]? = some (.dct true (fh ps))
 h3:h[p+3]? = some (.lst ((meas ps).map λm=>.int m.sg))
 h4:h[p+4]? = some (.lst ((meas ps).map λm=>.int m.en))
 h5:h[p+5]? = some (.lst ((meas ps).map λm=>.int m.lv))
 h6:h[p+6]? = some (.lst ((meas ps).map λm=>.int m.ht))
 h7:h[p+7]? = some (.lst ((meas ps).map λm=>.int m.fl))
 h8:h[p+8]? = some (.lst ((meas ps).map λm=>.int m.ll))
def gI (h:AH) (p:Nat) (ps:List Pc):AH :=
 (((((((h.set (p+1) (.lst (ps.map Pc.av))).set (p+2) (.dct true (fh ps))).set (p+3) (.lst ((meas ps).map λm=>.int m.sg))).set (p+4) (.lst ((meas ps).map λm=>.int m.en))).set (p+5) (.lst ((meas ps).map λm=>.int m.lv))).set
  (p+6) (.lst ((meas ps).map λm=>.int m.ht))).set (p+7) (.lst ((meas ps).map λm=>.int m.fl))).set (p+8) (.lst ((meas ps).map λm=>.int m.ll))
variable {h h1 h' h2 h3 hh:AH} {i e b a n j p d r k2 k1 n1 c L hb N K D nb A:Nat}
theorem bY {o:AO} (e:h[i]? = some o):i<h.length:=(MP.mp e).1
theorem Az (h:AH) (p:Nat) (ps:List Pc):(gI h p ps).length=h.length:=by simp [gI]
theorem AA {q:Nat} (hq:q<=p\/p+8<q):(gI h p ps)[q]? = h[q]? := by
 unfold gI;repeat rw [MS (by lia)]
theorem rB (S:ShelfAt h p ps):ShelfAt (gI h p ps') p ps' := by
 have b:=bY S.h8;have l1:p+1<h.length:=M8 (Nr (by decide) p) b;have l2:p+2<h.length:=M8 (Nr (by decide) p) b;have l3:p+3<h.length:=M8 (Nr (by decide) p) b;have l4:p+4<h.length:=M8 (Nr (by decide) p) b;have l5:p+5<h.length:=M8 (Nr (by decide) p) b;have l6:p+6<h.length:=M8 (Nr (by decide) p) b;have l7:p+7<h.length:=M8 (Nr (by decide) p) b;have ob:=S.ob;constructor<;>simp [gI,PK,l1,l2,l3,l4,l5,l6,l7,b,ob,-List.getElem?_eq_getElem]
variable {α:Type}
theorem u9 (l:List α) (f:α->AV):(l.map f).length=l.length:=by simp
theorem mO (S:ShelfAt h p ps):eP [.ref p] h = .ok (.int ps.length) h:=by
 simp [eP,S.ob,S.h1]
theorem IX {i:Int} (S:ShelfAt h p ps):qY [.ref p,.int i] h = .ok (.bl (decide (1<=i/\i<=ps.length))) h:=by
 simp [qY,IV,S.ob,S.h1]
 by_cases h1:1<=i<;>simp [h1]
theorem rC {i:Int} (S:ShelfAt h p ps) (hi:1<=i/\i<=ps.length):lh [.ref p,.int i] h = .ok .non h:=by
 simp [lh,IX S,S.ob,hi.1,hi.2]
theorem hJ {f:α->AV} {l:List α} {q:α} (e:l[j]? = some q):atI (l.map f) (j:Int)=some (f q):=jh (by simp [e])
theorem IY (S:ShelfAt h p ps) (e:ps[j]? = some q):fy [.ref p,.int ((j:Int)+1)] h = .ok q.av h:=by
 have hj:=(MP.mp e).1;have h1:=rC S (i:=(j:Int)+1) ⟨by lia,by lia⟩;simp [fy,h1,S.ob,S.h1,hJ e]
theorem AB (S:ShelfAt h p ps) (hq:q∉ps) (hl:ps.length<16000000) :
  oj [.ref p,q.av] h = .ok (.int ((ps.length+1:Nat):Int)) ((h.set (p+1) (.lst ((ps++[q]).map Pc.av))).set (p+2) (.dct true (fh (ps++[q])))):=by
 have b:=bY S.h8;have hs:ps.length<sizeLine:=Pu hl (by decide);have ht:(fh ps).length<sizeLine:=by rw [fh,Ay];exact hs
 have hk:d0 true q.av=true:=by cases q<;>simp [Pc.av]
 have e1:(h.set (p+1) (.lst (ps.map Pc.av++[q.av])))[p]? = h[p]? := MS (by lia);have e2:(h.set (p+1) (.lst (ps.map Pc.av++[q.av])))[p+1]? = some (.lst (ps.map Pc.av++[q.av])):=MY (by lia);have e3:(h.set (p+1) (.lst (ps.map Pc.av++[q.av])))[p+2]? = h[p+2]? := MS (by lia);have tp:=IW hq;simp [oj,S.ob,S.h1,hs,e1,e2,e3,S.h2,hk,ht,-d0]
 rw [show ((ps.length:Int)+1)=((ps.length+1:Nat):Int) by simp,tp]
variable {x w y yb:Str}
theorem IZ (S:ShelfAt h p ps) (hq:Pc.leaf x∉ps) (hl:ps.length<16000000) :
  ou [.ref p,(Pc.leaf x).av] h = .ok .non (gI h p (ps++[.leaf x])):=by
 have b:=bY S.h8;have hs:ps.length+1<sizeLine:=Nf (Nat.succ_lt_succ hl) (by decide);have hm:(meas ps).length<sizeLine:=by rw [fz];exact hs
 have e:=AB S hq hl;have b2:((meas ps).length:Int)=(ps.length:Int)+1:=by rw [fz];simp
 have e2:au (Pc.leaf x).av (.int 1)=λh=>Out.ok (.str x) h:=by funext h;rfl
 have l1:p+1<h.length:=by lia
 have l2:p+2<h.length:=by lia
 have l3:p+3<h.length:=by lia
 have l4:p+4<h.length:=by lia
 have l5:p+5<h.length:=by lia
 have l6:p+6<h.length:=by lia
 have l7:p+7<h.length:=by lia
 simp [ou,e,S.ob,S.h3,S.h4,S.h5,S.h6,S.h7,S.h8,hm,IU,PK,u0,iK,gI,e2,fz,hs,-au,-List.getElem?_eq_getElem]
theorem AC {l:List α} {d x:α} (e:l[i]? = some x):l.getD i d=x:=by simp [List.getD,e]
variable {ma mb f l la fb fa lb mc md:Ms}
theorem I0 (S:ShelfAt h p ps) (hq:Pc.fork a b∉ps) (hl:ps.length<16000000) (ha:(meas ps)[a]? = some ma) (hb:(meas ps)[b]? = some mb) :
  om [.ref p,(Pc.fork a b).av] h = .ok .non (gI h p (ps++[.fork a b])):=by
 have bb:=bY S.h8;have hs:ps.length+1<sizeLine:=Nf (Nat.succ_lt_succ hl) (by decide);have hm:(meas ps).length<sizeLine:=by rw [fz];exact hs
 have e:=AB S hq hl;have e2:au (Pc.fork a b).av (.int 1)=λh=>Out.ok (.int a) h:=by funext h;rfl
 have e3:au (Pc.fork a b).av (.int 2)=λh=>Out.ok (.int b) h:=by funext h;rfl
 have l1:p+1<h.length:=by lia
 have l2:p+2<h.length:=by lia
 have l3:p+3<h.length:=by lia
 have l4:p+4<h.length:=by lia
 have l5:p+5<h.length:=by lia
 have l6:p+6<h.length:=by lia
 have l7:p+7<h.length:=by lia
 have fx:∀ (n:Nat) (g:Ms->AV) (h':AH),h'[n]? = some (.lst ((meas ps).map g))->au (.ref n) (.int a) h' = .ok (g ma) h'/\au (.ref n) (.int b) h' = .ok (g mb) h' := λn g h' e=>by
  simp [au,e,hJ ha,hJ hb]
 have f3:=λ(h':AH) (e:h'[p+3]? = some (.lst ((meas ps).map λm=>.int m.sg)))=>fx _ _ h' e
 have f4:=λ(h':AH) (e:h'[p+4]? = some (.lst ((meas ps).map λm=>.int m.en)))=>fx _ _ h' e
 have f5:=λ(h':AH) (e:h'[p+5]? = some (.lst ((meas ps).map λm=>.int m.lv)))=>fx _ _ h' e
 have f6:=λ(h':AH) (e:h'[p+6]? = some (.lst ((meas ps).map λm=>.int m.ht)))=>fx _ _ h' e
 have f7:=λ(h':AH) (e:h'[p+7]? = some (.lst ((meas ps).map λm=>.int m.fl)))=>fx _ _ h' e
 have f8:=λ(h':AH) (e:h'[p+8]? = some (.lst ((meas ps).map λm=>.int m.ll)))=>fx _ _ h' e
 have hmax:∀ i j:Int,(if j > i then j else i)=max i j:=λi j=>by split<;>lia
 simp [om,e,S.ob,S.h3,S.h4,S.h5,S.h6,S.h7,S.h8,hm,PK,u0,iK,gI,e2,e3,fz,hs,hJ ha,hJ hb,AC ha,AC hb,-au,-List.getElem?_eq_getElem,-List.getD_eq_getElem?_getD,f3,f4,f5,f6,f7,f8,hmax]
theorem rD (S:ShelfAt h p ps) (nd:ps.Nodup) (hx:fg x=true) (hl:x.length<=sizeLine) (e:ps[i]? = some (.leaf x)):c5 [.ref p,.str x] h = .ok (.int ((i+1:Nat):Int)) h:=by
 have t:=u7 (k:=1) nd e;have t':bD (fh ps) (.tup [.str "leaf",.str x])=some (.int ((i+1:Nat):Int)):=by rw [O1];exact t
 simp [c5,Ax x h hl,hx,S.ob,S.h2,t']
theorem Ja (S:ShelfAt h p ps) (hx:fg x=true) (hl:x.length<=sizeLine) (hq:Pc.leaf x∉ps) (hz:ps.length<16000000):c5 [.ref p,.str x] h = .ok (.int ((ps.length+1:Nat):Int)) (gI h p (ps++[.leaf x])):=by
 have t:bD (fh ps) (.tup [.str "leaf",.str x])=none:=rA (q:=.leaf x) (k:=1) hq;have S2:=rB (ps' := ps++[.leaf x]) S;have e:=IZ S hq hz;have t2:bD (fh (ps++[.leaf x])) (.tup [.str "leaf",.str x])=some (.int ((ps.length+1:Nat):Int)):=by
  unfold fh;rw [rq];unfold bD at t ⊢
  rw [Rg];have t3:(gs 1 ps).find? (λp=>decide (p.1 = .tup [.str "leaf",.str x]))=none:=by simpa [fh] using t
  rw [t3];simp [Pc.av,O1]
 have e':ou [.ref p,.tup [.str "leaf",.str x]] h = .ok .non (gI h p (ps++[.leaf x])):=e;simp [c5,Ax x h hl,hx,S.ob,S.h2,t,e',S2.ob,S2.h2,t2]
theorem Jb (S:ShelfAt h p ps) (ha:(meas ps)[a]? = some ma) (hb:(meas ps)[b]? = some mb) (pa:1<=a) (pb:1<=b) (hla:(meas ps)[ma.ll]? = some la) (hfb:(meas ps)[mb.fl]? = some fb) (d1 : ¬ la.sg+fb.sg<=8) (d2 : ¬ 1<(ma.ht-mb.ht).natAbs) (d3 : ¬ 1000000000000000000<ma.sg+mb.sg) :
  oi [.ref p,.int a,.int b] h = .ok .non h:=by
 have la_:=(MP.mp ha).1;have lb_:=(MP.mp hb).1;rw [fz] at la_ lb_;have c1:=rC S (i:=(a:Int)) ⟨by lia,by lia⟩
 have c2:=rC S (i:=(b:Int)) ⟨by lia,by lia⟩;have d1' : ¬ ((la.sg:Int)+fb.sg)<=8:=by lia
 have d2' : ¬ (1:Int)<(if ma.ht-mb.ht<0 then -(ma.ht-mb.ht) else ma.ht-mb.ht):=by split<;>lia
 have d3' : ¬ (1000000000000000000:Int)<(ma.sg:Int)+mb.sg:=by lia
 simp [oi,c1,c2,S.ob,S.h3,S.h5,S.h6,S.h7,S.h8,hJ ha,hJ hb,hJ hla,hJ hfb,d1',d2',d3',-Int.neg_sub]
structure ForkOk (ps:List Pc) (a b:Nat):Prop where
 pa:1<=a
 pb:1<=b
 ex:∃ ma mb la fb,(meas ps)[a]? = some ma/\(meas ps)[b]? = some mb/\(meas ps)[ma.ll]? = some la/\(meas ps)[mb.fl]? = some fb/\8<la.sg+fb.sg/\(ma.ht-mb.ht).natAbs<=1/\ma.sg+mb.sg<=1000000000000000000
theorem AD (S:ShelfAt h p ps) (F:ForkOk ps a b):oi [.ref p,.int a,.int b] h = .ok .non h:=by
 obtain ⟨ma,mb,la,fb,h1,h2,h3,h4,h5,h6,h7⟩:=F.ex;exact Jb S h1 h2 F.pa F.pb h3 h4 (by lia) (by lia) (by lia)
theorem va (S:ShelfAt h p ps) (nd:ps.Nodup) (F:ForkOk ps a b) (e:ps[i]? = some (.fork a b)):bA [.ref p,.int a,.int b] h = .ok (.int ((i+1:Nat):Int)) h:=by
 have t:=u7 (k:=1) nd e;have t':bD (fh ps) (.tup [.str "fork",.int a,.int b])=some (.int ((i+1:Nat):Int)):=by rw [O1];exact t
 simp [bA,AD S F,S.ob,S.h2,t']
theorem Jc (S:ShelfAt h p ps) (F:ForkOk ps a b) (hq:Pc.fork a b∉ps) (hz:ps.length<16000000):bA [.ref p,.int a,.int b] h = .ok (.int ((ps.length+1:Nat):Int)) (gI h p (ps++[.fork a b])):=by
 have t:bD (fh ps) (.tup [.str "fork",.int a,.int b])=none:=rA (q:=.fork a b) (k:=1) hq;have S2:=rB (ps' := ps++[.fork a b]) S;obtain ⟨ma,mb,la,fb,h1,h2,_⟩:=F.ex;have e:=I0 S hq hz h1 h2;have t2:bD (fh (ps++[.fork a b])) (.tup [.str "fork",.int a,.int b])=some (.int ((ps.length+1:Nat):Int)):=by
  unfold fh;rw [rq];unfold bD at t ⊢
  rw [Rg];have t3:(gs 1 ps).find? (λp=>decide (p.1 = .tup [.str "fork",.int a,.int b]))=none:=by simpa [fh] using t
  rw [t3];simp [Pc.av,O1]
 have e':om [.ref p,.tup [.str "fork",.int a,.int b]] h = .ok .non (gI h p (ps++[.fork a b])):=e;simp [bA,AD S F,S.ob,S.h2,t,e',S2.ob,S2.h2,t2]
def mP (n:Nat):List AO:=[.ins 0 [some (.ref (n+1)),some (.ref (n+2)),some (.ref (n+3)),some (.ref (n+4)),some (.ref (n+5)),some (.ref (n+6)),some (.ref (n+7)),some (.ref (n+8))],.lst [],.dct true [],.lst [.int 0],.lst [.int 0],.lst [.int 0],.lst [.int (-1)],.lst [.int 0],.lst [.int 0]]
theorem Jd {o o':AO} {r:AH}:(h++o::r).set h.length o'=h++o'::r:=by
 induction h with
 | nil=>rfl
 | cons x t ih=>simp [ih]
theorem AE {r:AH} {k:Nat}:(h++r)[h.length+k]? = r[k]? := by
 rw [Nk (by lia)];simp
theorem AF (h r:AH):ShelfAt (h++(mP h.length++r)) h.length []:=by
 refine ⟨?_,?_,?_,?_,?_,?_,?_,?_,?_⟩
 ·rw [show h.length=h.length+0 from rfl,AE];rfl
 all_goals (rw [AE];rfl)
theorem AG (x:Str) (c i:Nat) (hi:i<x.length):Builtin.Str.subAt x ⟨#[c]⟩ i=decide (x.cps.toList[i]? = some c):=by
 have hi':i<x.cps.size:=hi;unfold Builtin.Str.subAt;have e:x.cps.extract i (i+1) = #[x.cps[i]]:=by
  apply Array.ext
  ·simp;lia
  ·intro j h1 h2
   have:j=0:=by simp at h2;lia
   subst this;simp
 show (x.cps.extract i (i+1) == #[c])=_
 rw [e];have:x.cps.toList[i]? = some x.cps[i]:=by simp [hi']
 rw [this];by_cases q:x.cps[i]=c
 ·simp [q]
 ·simp [q]
theorem rE (x:Str) (c:Nat):∀ (n i:Nat) (st:Array Nat×Nat),i+n=x.length+1->st.2<=i->st.1.size<=i->(forIn (List.range' i n) st (StrLaws.occBody x ⟨#[c]⟩ x.length (x.length+1))).run.fst.size=st.1.size+(x.cps.toList.drop i).count c
 | 0,i,st,hn,_,_=>by
  rw [NW (by simp;simp only [Str.length] at hn;lia)];simp
 | n+1,i,st,hn,h2,h3=>by
  rw [List.range'_succ,List.forIn_cons];unfold StrLaws.occBody
  by_cases hi:i<x.length
  ·have hi':i<x.cps.size:=hi
   have hd:x.cps.toList.drop i=x.cps[i]'hi'::x.cps.toList.drop (i+1):=by
    rw [PC (show i<x.cps.toList.length by simpa using hi')];simp
   have hg:x.cps.toList[i]? = some (x.cps[i]'hi'):=by
    simp [hi']
   by_cases q:x.cps[i]'hi'=c
   ·have hs:Builtin.Str.subAt x ⟨#[c]⟩ i=true:=by rw [AG x c i hi,hg,q];simp
    rw [MW ⟨⟨⟨by lia,h2⟩,hi⟩,hs⟩];show (forIn (List.range' (i+1) n) (st.1.push i,i+1) (StrLaws.occBody x ⟨#[c]⟩ x.length (x.length+1))).run.fst.size=_
    rw [rE x c n (i+1) _ (by lia) (MQ _) (by simp;lia),hd,q];simp;lia
   ·have hs:Builtin.Str.subAt x ⟨#[c]⟩ i=false:=by rw [AG x c i hi,hg];simp [q]
    rw [MX (by simp [hs])];show (forIn (List.range' (i+1) n) (st.1,st.2) (StrLaws.occBody x ⟨#[c]⟩ x.length (x.length+1))).run.fst.size=_
    rw [rE x c n (i+1) _ (by lia) (by show st.2<=i+1;lia) (by show st.1.size<=i+1;lia),hd];simp [q]
  ·rw [MX (by rintro ⟨⟨_,z⟩,_⟩;exact hi z)]
   show (forIn (List.range' (i+1) n) (st.1,st.2) (StrLaws.occBody x ⟨#[c]⟩ x.length (x.length+1))).run.fst.size=_
   rw [rE x c n (i+1) _ (by lia) (by show st.2<=i+1;lia) (by show st.1.size<=i+1;lia)];rw [NW (by simp;simp only [Str.length] at hi;lia),NW (by simp;simp only [Str.length] at hi;lia)]
theorem Je (x:Str) (c:Nat):(Builtin.Str.occurrences x ⟨#[c]⟩ 0 x.length (x.length+1)).length=x.cps.toList.count c:=by
 rw [StrLaws.occ_eq,Om];rw [show x.length+1-0=x.length+1 from rfl,rE x c (x.length+1) 0 _ (by lia) (MQ _) (by simp)]
 simp
theorem vb (x:Str):jM x=x.cps.toList.count 10:=Je x 10
theorem dC (x y:Str):(x++y).cps.toList=x.cps.toList++y.cps.toList:=by
 show (x.cps++y.cps).toList=_
 simp
theorem Jf (x y:Str):jM (x++y)=jM x+jM y:=by
 rw [vb,vb,vb,dC,List.count_append]
theorem cS (x:Str):x.length=x.cps.toList.length:=by simp [Str.length]
theorem dE (x y:Str):(x++y).length=x.length+y.length:=by
 rw [cS,cS,cS,dC,M6]
def lB (rs:List Str):Pc->Str
 | .leaf x=>x
 | .fork a b=>rs.getD a "" ++ rs.getD b ""
def reads (ps:List Pc):List Str:=ps.foldl (λrs q=>rs++[lB rs q]) [""]
theorem Jg (ps:List Pc) (q:Pc):reads (ps++[q])=reads ps++[lB (reads ps) q]:=by simp [reads]
theorem oJ {α β:Type} (g:List β->α->β):∀ (qs:List α) (ms:List β),∃ r,qs.foldl (λms q=>ms++[g ms q]) ms=ms++r/\r.length=qs.length
 | [],ms=>⟨[],by simp,rfl⟩
 | q::qs,ms=>by
  obtain ⟨r,e,l⟩:=oJ g qs (ms++[g ms q]);exact ⟨g ms q::r,by rw [Qm,e];simp,by simp [l]⟩
theorem rF (ps:List Pc):(reads ps).length=ps.length+1:=by
 obtain ⟨r,e,l⟩:=oJ lB ps [""];rw [reads,e];simp [l,O1]
theorem Jh (ps qs:List Pc):∃ r,meas (ps++qs)=meas ps++r:=by
 unfold meas;rw [Rh];obtain ⟨r,e,_⟩:=oJ iK qs (ps.foldl (λms q=>ms++[iK ms q]) [ms0])
 exact ⟨r,e⟩
theorem Ji (ps qs:List Pc):∃ r,reads (ps++qs)=reads ps++r:=by
 unfold reads;rw [Rh];obtain ⟨r,e,_⟩:=oJ lB qs (ps.foldl (λms q=>ms++[lB ms q]) [""])
 exact ⟨r,e⟩
theorem aQ (h:ps <+: ps') {m:Ms} (e:(meas ps)[n]? = some m):(meas ps')[n]? = some m:=by
 obtain ⟨qs,rfl⟩:=h;obtain ⟨r,q⟩:=Jh ps qs;rw [q,MT (MP.mp e).1];exact e
theorem rG (h:ps <+: ps') {m:Str} (e:(reads ps)[n]? = some m):(reads ps')[n]? = some m:=by
 obtain ⟨qs,rfl⟩:=h;obtain ⟨r,q⟩:=Ji ps qs;rw [q,MT (MP.mp e).1];exact e
theorem rH (ps:List Pc) (i:Nat):ps.take i <+: ps:=List.take_prefix i ps
theorem vc (e:ps[i]? = some q):(ps.take i++[q]) <+: ps/\(ps.take i).length=i:=by
 have hi:=(MP.mp e).1;have:ps.take (i+1)=ps.take i++[q]:=by
  rw [List.take_succ,e];rfl
 exact ⟨this▸List.take_prefix _ _,by simp;lia⟩
theorem AI (e:ps[i]? = some q):(meas ps)[i+1]? = some (iK (meas (ps.take i)) q):=by
 obtain ⟨h,l⟩:=vc e;refine aQ h ?_
 rw [u0,Nk (by rw [fz,l];lia),fz,l];simp
theorem AJ (e:ps[i]? = some q):(reads ps)[i+1]? = some (lB (reads (ps.take i)) q):=by
 obtain ⟨h,l⟩:=vc e;refine rG h ?_
 rw [Jg,Nk (by rw [rF,l];lia),rF,l];simp
def oK (ps:List Pc):Pc->Prop
 | .leaf x=>fg x=true
 | .fork a b=>ForkOk ps a b
inductive Good:List Pc->Prop
 | nil:Good []
 | snoc {ps:List Pc} {q:Pc}:Good ps->q∉ps->oK ps q->Good (ps++[q])
theorem Good.nodup (g:Good ps):ps.Nodup:=by
 induction g with
 | nil=>exact OW
 | snoc g n ok ih=>exact Pf.mpr ⟨ih,by simp,λa ha b hb=>by simp at hb;subst hb;exact λe=>n (e▸ha)⟩
theorem Good.get (g:Good ps):∀ {i:Nat} {q:Pc},ps[i]? = some q->oK (ps.take i) q:=by
 induction g with
 | nil=>intro i q e;simp at e
 | @snoc ps q' g n ok ih =>
  intro i q e;by_cases hi:i<ps.length
  ·rw [MT hi] at e
   rw [Pm (by lia)];exact ih e
  ·have hi2:i=ps.length:=by
    have:=(MP.mp e).1;simp at this;lia
   subst hi2;simp at e
   subst e;simpa using ok
theorem ForkOk.pre (F:ForkOk ps a b) (h:ps <+: ps'):ForkOk ps' a b:=by
 obtain ⟨ma,mb,la,fb,h1,h2,h3,h4,h5⟩:=F.ex;exact ⟨F.pa,F.pb,ma,mb,la,fb,aQ h h1,aQ h h2,aQ h h3,aQ h h4,h5⟩
structure Ky (ps:List Pc) (m:Ms) (x:Str) (f l:Ms):Prop where
 fl:(meas ps)[m.fl]? = some f
 ll:(meas ps)[m.ll]? = some l
 sg:m.sg=x.length
 en:m.en=jM x
 f1:1<=f.sg
 f8:f.sg<=8
 l1:1<=l.sg
 l8:l.sg<=8
 lv:1<=m.lv
 ht:0<=m.ht
 most:m.sg<=1000000000000000000
 cnt:∃ k,(m.lv=2*k+1/\9*k+f.sg<=m.sg/\9*k+l.sg<=m.sg)\/(m.lv=2*k+2/\9*k+9<=m.sg/\9*k+f.sg+l.sg<=m.sg)
 pl:bS x=true
structure Tx (ps:List Pc) (n:Nat) (m:Ms) (x:Str) (f l:Ms):Prop where
 n1:1<=n
 ms:(meas ps)[n]? = some m
 rd:(reads ps)[n]? = some x
 ky:Ky ps m x f l
theorem Ky.pre {m:Ms} (k:Ky ps m x f l) (h:ps <+: ps'):Ky ps' m x f l :=
 { k with fl:=aQ h k.fl,ll:=aQ h k.ll }
theorem Tx.pre {ps ps':List Pc} {n:Nat} {m:Ms} {x:Str} {f l:Ms} (k:Tx ps n m x f l) (h:ps <+: ps'):Tx ps' n m x f l :=
 ⟨k.n1,aQ h k.ms,rG h k.rd,k.ky.pre h⟩
theorem Tx.le {m:Ms} (k:Tx ps n m x f l):n<=ps.length:=by
 have:=(MP.mp k.ms).1;rw [fz] at this;lia
def lC (ma mb:Ms):Ms:=⟨ma.sg+mb.sg,ma.en+mb.en,ma.lv+mb.lv,max ma.ht mb.ht+1,ma.fl,mb.ll⟩
theorem lD (x y:Str):bS (x++y)=(bS x && bS y):=by unfold bS;rw [dC,List.all_append]
theorem Jj {n' s s' f l f' l':Nat} (a:∃ k,(n=2*k+1/\9*k+f<=s/\9*k+l<=s)\/(n=2*k+2/\9*k+9<=s/\9*k+f+l<=s)) (b:∃ k,(n'=2*k+1/\9*k+f'<=s'/\9*k+l'<=s')\/(n'=2*k+2/\9*k+9<=s'/\9*k+f'+l'<=s')) (hs:8<l+f') :
  ∃ k,(n+n'=2*k+1/\9*k+f<=s+s'/\9*k+l'<=s+s')\/(n+n'=2*k+2/\9*k+9<=s+s'/\9*k+f+l'<=s+s'):=by
 obtain ⟨k,⟨rfl,a1,a2⟩ | ⟨rfl,a1,a2⟩⟩:=a<;>obtain ⟨k',⟨rfl,b1,b2⟩ | ⟨rfl,b1,b2⟩⟩:=b
 ·exact ⟨k+k',.inr ⟨by lia,by lia,by lia⟩⟩
 ·exact ⟨k+k'+1,.inl ⟨by lia,by lia,by lia⟩⟩
 ·exact ⟨k+k'+1,.inl ⟨by lia,by lia,by lia⟩⟩
 ·exact ⟨k+k'+1,.inr ⟨by lia,by lia,by lia⟩⟩
theorem Ky.fork (A:Ky ps ma x fa la) (B:Ky ps mb y fb lb) (hs:8<la.sg+fb.sg) (hm:ma.sg+mb.sg<=1000000000000000000):Ky ps (lC ma mb) (x++y) fa lb:=by
 have k:=Jj A.cnt B.cnt hs;refine ⟨A.fl,B.ll,?_,?_,A.f1,A.f8,B.l1,B.l8,MV A.lv (Nat.le_add_right _ _),?_,hm,k,?_⟩
 ·show ma.sg+mb.sg=_;rw [dE,A.sg,B.sg]
 ·show ma.en+mb.en=_;rw [Jf,A.en,B.en]
 ·have a4:=A.ht
  show 0<=max ma.ht mb.ht+1
  clear k hs hm;lia
 ·rw [lD,A.pl,B.pl];rfl
theorem vd (h:fg x=true):1<=x.length/\x.length<=8/\bS x=true:=by
 simp [fg] at h;exact ⟨h.2.1,h.2.2,h.1⟩
theorem oM {l:List α} {d x:α} (e:l[i]? = some x):l.getD i d=x:=by simp [List.getD,e]
def bP (x:Str) (n:Nat):Ms:=⟨x.length,jM x,1,0,n,n⟩
theorem oO (g:Good ps) (e:ps[i]? = some (.leaf x)):Tx ps (i+1) (bP x (i+1)) x (bP x (i+1)) (bP x (i+1)):=by
 have hi:=(MP.mp e).1;have ok:fg x=true:=g.get e;obtain ⟨s1,s2,s3⟩:=vd ok;have li:(ps.take i).length=i:=by simp;lia
 have ml:(meas (ps.take i)).length=i+1:=by rw [fz,li]
 have e1':(meas ps)[i+1]? = some (bP x (i+1)):=by rw [AI e];simp only [iK,bP];rw [ml]
 exact ⟨by lia,e1',AJ e,⟨e1',e1',rfl,rfl,s1,s2,s1,s2,MQ 1,QI 0,by show x.length<=_;lia,⟨0,.inl ⟨rfl,Qa (Re _),Qa (Re _)⟩⟩,s3⟩⟩
theorem oQ (g:Good ps) (e:ps[i]? = some (.fork a b)) (A:Tx ps a ma x fa la) (B:Tx ps b mb y fb lb):Tx ps (i+1) (lC ma mb) (x++y) fa lb:=by
 have hi:=(MP.mp e).1;have ok':ForkOk (ps.take i) a b:=g.get e;have li:(ps.take i).length=i:=by simp;lia
 have tp:=rH ps i;obtain ⟨ma',mb',la',fb',q1,q2,q3,q4,q5,q6,q7⟩:=ok'.ex;have ba:=(MP.mp q1).1;have bb:=(MP.mp q2).1;rw [fz,li] at ba bb;have z1:=A.ms.symm.trans (aQ tp q1);cases z1
 have z2:=B.ms.symm.trans (aQ tp q2);cases z2
 have z3:=A.ky.ll.symm.trans (aQ tp q3);cases z3
 have z4:=B.ky.fl.symm.trans (aQ tp q4);cases z4
 have r1:(reads (ps.take i))[a]? = some x:=by
  obtain ⟨w,ew⟩:∃ w,(reads (ps.take i))[a]? = some w:=⟨(reads (ps.take i))[a]'(by rw [rF,li];lia),by simp⟩
  have:=(rG tp ew).symm.trans A.rd;cases this;exact ew
 have r2:(reads (ps.take i))[b]? = some y:=by
  obtain ⟨w,ew⟩:∃ w,(reads (ps.take i))[b]? = some w:=⟨(reads (ps.take i))[b]'(by rw [rF,li];lia),by simp⟩
  have:=(rG tp ew).symm.trans B.rd;cases this;exact ew
 refine ⟨by lia,?_,?_,A.ky.fork B.ky q5 q7⟩
 ·rw [AI e];simp only [iK,oM q1,oM q2];rfl
 ·rw [AJ e];simp only [lB,oM r1,oM r2]
theorem Good.tx (g:Good ps):∀ n,1<=n->n<=ps.length->∃ m x f l,Tx ps n m x f l:=by
 intro n;induction n using Nat.strongRecOn with
 | ind n ih =>
  intro h1 h2;obtain ⟨i,rfl⟩:∃ i,n=i+1:=⟨n-1,(Nat.sub_add_cancel h1).symm⟩
  obtain ⟨q,eq⟩:∃ q,ps[i]? = some q:=⟨ps[i],by simp⟩
  have ok:=g.get eq;have li:(ps.take i).length=i:=(vc eq).2
  cases q with
  | leaf x=>exact ⟨_,_,_,_,oO g eq⟩
  | fork a b =>
   have ok':ForkOk (ps.take i) a b:=ok;obtain ⟨ma,mb,la,fb,q1,q2,_⟩:=ok'.ex;have ba:=(MP.mp q1).1;have bb:=(MP.mp q2).1;rw [fz,li] at ba bb;obtain ⟨_,_,_,_,A⟩:=ih a ba ok'.pa (MV (Pt ba) h2)
   obtain ⟨_,_,_,_,B⟩:=ih b bb ok'.pb (MV (Pt bb) h2);exact ⟨_,_,_,_,oQ g eq A B⟩
structure Dd (p:Nat) (h h':AH) (ps ps':List Pc) (k:Nat):Prop where
 sh:ShelfAt h' p ps'
 gd:Good ps'
 pre:ps <+: ps'
 len:ps'.length<=ps.length+k
 fr:∀ i,i<=p\/p+8<i->h'[i]? = h[i]?
 hl:h'.length=h.length
theorem ShelfAt.keep (S:ShelfAt h p ps) (e:∀ i,p<=i->i<=p+8->h'[i]? = h[i]?):ShelfAt h' p ps:=by
 have k:∀ j,j<=8->h'[p+j]? = h[p+j]? := λj hj=>e _ (Nat.le_add_right p j) (Nr hj p)
 exact ⟨(k 0 (by decide)).trans S.ob,(k 1 (by decide)).trans S.h1,(k 2 (by decide)).trans S.h2,(k 3 (by decide)).trans S.h3,(k 4 (by decide)).trans S.h4,(k 5 (by decide)).trans S.h5,(k 6 (by decide)).trans S.h6,(k 7 (by decide)).trans S.h7,(k 8 (by decide)).trans S.h8⟩
theorem ShelfAt.app (S:ShelfAt h p ps) (r:AH):ShelfAt (h++r) p ps:=by
 have:=bY S.h8;exact S.keep λi _ b=>MT (M8 b this)
theorem rJ (S:ShelfAt h p ps) (hi:i<=ps.length):kf [.ref p,.int i] h = .ok .non h:=by
 by_cases z:i=0
 ·subst z;simp [kf]
 ·have c:=rC S (i:=(i:Int)) ⟨by lia,by lia⟩
  simp [kf,z,S.ob,c]
theorem dM {m:Ms} (S:ShelfAt h p ps) (e:(meas ps)[i]? = some m):e7 [.ref p,.int i] h = .ok (.int m.sg) h:=by
 have hi:=(MP.mp e).1;rw [fz] at hi;simp [e7,rJ S (show i<=ps.length by lia),S.ob,S.h3,hJ e]
theorem dF {m:Ms} (S:ShelfAt h p ps) (e:(meas ps)[i]? = some m):g8 [.ref p,.int i] h = .ok (.int m.ht) h:=by
 have hi:=(MP.mp e).1;rw [fz] at hi;simp [g8,rJ S (show i<=ps.length by lia),S.ob,S.h6,hJ e]
theorem AK {m:Ms} (S:ShelfAt h p ps) (e:(meas ps)[i]? = some m):oz [.ref p,.int i] h = .ok (.int m.fl) h:=by
 have hi:=(MP.mp e).1;rw [fz] at hi;simp [oz,rJ S (show i<=ps.length by lia),S.ob,S.h7,hJ e]
theorem AN {m:Ms} (S:ShelfAt h p ps) (e:(meas ps)[i]? = some m):ox [.ref p,.int i] h = .ok (.int m.ll) h:=by
 have hi:=(MP.mp e).1;rw [fz] at hi;simp [ox,rJ S (show i<=ps.length by lia),S.ob,S.h8,hJ e]
def lp:Nat->Nat×Nat
 | 0=>(1,2)
 | n+1=>((lp n).2,(lp n).1+(lp n).2)
def ll (n:Nat):Nat:=(lp n).1
def ls (n:Nat):Nat:=9*(ll n / 2)+ll n % 2
theorem jO (n:Nat):ll (n+2)=ll n+ll (n+1):=rfl
theorem AQ:∀ n,ll n<=ll (n+1)
 | 0=>by decide
 | n+1=>by rw [show n+1+1=n+2 from rfl,jO];lia
theorem Jk (h:a<=b):ll a<=ll b:=by
 induction h with
 | refl=>exact MQ _
 | step h ih=>exact MV ih (AQ _)
theorem Jl (h:a<=b):ls a<=ls b:=by
 have:=Jk h;unfold ls;lia
theorem Jm (h1:i<=j+1) (h2:j<=i+1) (u1:ll i<=a) (u2:ll j<=b):ll (max i j+1)<=a+b:=by
 rcases Nat.lt_trichotomy i j with c | c | c
 ·have e':j=i+1:=Nat.le_antisymm h2 c
  subst e'
  rw [Nat.max_eq_right (PH i),jO];exact QJ u1 u2
 ·subst c
  rw [Nat.max_self];refine MV ?_ (QJ u1 u2)
  cases i with
  | zero=>exact MQ 2
  | succ k=>rw [show k+1+1=k+2 from rfl,jO];exact Nat.add_le_add_right (AQ k) _
 ·have e':i=j+1:=Nat.le_antisymm h1 c
  subst e'
  rw [Nat.max_eq_left (PH j),jO,O1];exact QJ u1 u2
theorem Jn {x y:Int} (hx:0<=x) (hy:0<=y) (q:(x-y).natAbs<=1) (u1:ll x.toNat<=a) (u2:ll y.toNat<=b):ll (max x y+1).toNat<=a+b:=by
 obtain ⟨i,rfl⟩:=OE hx;obtain ⟨j,rfl⟩:=OE hy;have e:(max (i:Int) j+1).toNat=max i j+1:=by clear u1 u2 q;lia
 rw [e];exact Jm (by clear u1 u2 e;lia) (by clear u1 u2 e;lia) u1 u2
theorem Good.lv {ps:List Pc} (g:Good ps):∀ n m x f l,Tx ps n m x f l->ll m.ht.toNat<=m.lv:=by
 intro n;induction n using Nat.strongRecOn with
 | ind n ih =>
  intro m x f l T;have hn:=T.n1;have hle:=T.le;obtain ⟨i,rfl⟩:∃ i,n=i+1:=⟨n-1,by lia⟩
  obtain ⟨q,eq⟩:∃ q,ps[i]? = some q:=⟨ps[i],by simp⟩
  cases q with
  | leaf y =>
   have z:=(oO g eq).ms.symm.trans T.ms;cases z
   exact MQ 1
  | fork a b =>
   have ok':ForkOk (ps.take i) a b:=g.get eq;have li:(ps.take i).length=i:=by simp;lia
   obtain ⟨ma,mb,la,fb,q1,q2,q3,q4,q5,q6,q7⟩:=ok'.ex;have ba:=(MP.mp q1).1;have bb:=(MP.mp q2).1;rw [fz,li] at ba bb;obtain ⟨ma',x1,fa,la',A⟩:=g.tx a ok'.pa (by lia)
   obtain ⟨mb',y1,fb',lb,B⟩:=g.tx b ok'.pb (by lia);have tp:=rH ps i;have z1:=A.ms.symm.trans (aQ tp q1);cases z1
   have z2:=B.ms.symm.trans (aQ tp q2);cases z2
   have u1:=ih a (by lia) _ _ _ _ A;have u2:=ih b (by lia) _ _ _ _ B;have z:=(oQ g eq A B).ms.symm.trans T.ms;cases z
   exact Jn A.ky.ht B.ky.ht q6 u1 u2
theorem Tx.ls {ps:List Pc} (g:Good ps) {n:Nat} {m:Ms} {x:Str} {f l:Ms} (T:Tx ps n m x f l):Sk.ls m.ht.toNat<=m.sg:=by
 have u:=g.lv _ _ _ _ _ T;have f1:=T.ky.f1;unfold Sk.ls;obtain ⟨k,⟨e,a,_⟩ | ⟨e,a,_⟩⟩:=T.ky.cnt
 ·rw [e] at u;generalize ll m.ht.toNat=q at *;clear e;lia
 ·rw [e] at u;generalize ll m.ht.toNat=q at *;clear e;lia
theorem Good.kind (g:Good ps) {m:Ms} (T:Tx ps n m x f l) :
  (ps[n-1]? = some (.leaf x)/\m.ht=0/\m=bP x n/\1<=x.length/\x.length<=8)\/∃ a b ma mb y z fa la fb lb,ps[n-1]? = some (.fork a b)/\a<n/\b<n/\Tx ps a ma y fa la/\Tx ps b mb z fb lb/\x=y++z/\m=lC ma mb/\(ma.ht-mb.ht).natAbs<=1:=by
 have hn:=T.n1;have hle:=T.le;obtain ⟨i,rfl⟩:∃ i,n=i+1:=⟨n-1,by lia⟩
 obtain ⟨q,eq⟩:∃ q,ps[i]? = some q:=⟨ps[i],by simp⟩
 cases q with
 | leaf y =>
  have L:=oO g eq;have z:=L.ms.symm.trans T.ms;cases z
  have z2:=L.rd.symm.trans T.rd;cases z2
  have ok:fg x=true:=g.get eq;obtain ⟨s1,s2,s3⟩:=vd ok;exact .inl ⟨eq,rfl,rfl,s1,s2⟩
 | fork a b =>
  have ok':ForkOk (ps.take i) a b:=g.get eq;have li:(ps.take i).length=i:=by simp;lia
  obtain ⟨ma,mb,la,fb,q1,q2,q3,q4,q5,q6,q7⟩:=ok'.ex;have ba:=(MP.mp q1).1;have bb:=(MP.mp q2).1;rw [fz,li] at ba bb;obtain ⟨ma',y,fa,la',A⟩:=g.tx a ok'.pa (by lia)
  obtain ⟨mb',z,fb',lb,B⟩:=g.tx b ok'.pb (by lia);have tp:=rH ps i;have z1:=A.ms.symm.trans (aQ tp q1);cases z1
  have z2:=B.ms.symm.trans (aQ tp q2);cases z2
  have F:=oQ g eq A B;have z3:=F.ms.symm.trans T.ms;cases z3
  have z4:=F.rd.symm.trans T.rd;cases z4
  exact .inr ⟨a,b,ma,mb,y,z,fa,la',fb',lb,eq,by lia,by lia,A,B,rfl,rfl,q6⟩
theorem AR (S:ShelfAt h p ps) (n1:1<=n) (e:ps[n-1]? = some q):fy [.ref p,.int n] h = .ok q.av h:=by
 have:=IY S e;rw [show ((n-1:Nat):Int)+1=(n:Int) by lia] at this;exact this
theorem AS {m a b:Int} (e:m=max a b+1) (ha:0<=a) (hb:0<=b):∃ j:Nat,m.toNat=j+1/\a.toNat<=j/\b.toNat<=j/\0<m:=by
 obtain ⟨x,rfl⟩:=OE ha;obtain ⟨y,rfl⟩:=OE hb;subst e;exact ⟨max x y,by lia,Nat.le_max_left _ _,Nat.le_max_right _ _,by lia⟩
theorem cI (e:x.cps.toList=y.cps.toList):x=y:=by
 cases x;cases y
 simpa using e
theorem dY (x y z:Str):(x++y)++z=x++(y++z):=cI (by simp only [dC,PJ])
theorem ve:1000000000000000000<ls 83:=by decide +kernel
theorem c6 (g:Good ps) {m:Ms} (T:Tx ps n m x f l):m.ht<=82:=by
 have h1:=T.ls g;have h2:=T.ky.most;have h3:=T.ky.ht;apply Classical.byContradiction
 intro h4;have:=Jl (show 83<=m.ht.toNat by lia);have:=ve;lia
theorem Good.cut (g:Good ps) {m:Ms} (T:Tx ps n m x f l) (hh:0<m.ht) :
  ∃ a b ma mb y z la fb,ps[n-1]? = some (.fork a b)/\Tx ps a ma y f la/\Tx ps b mb z fb l/\x=y++z/\m=lC ma mb /\ -1<=ma.ht-mb.ht/\ma.ht-mb.ht<=1/\8<la.sg+fb.sg:=by
 rcases g.kind T with ⟨_,e,_⟩ | ⟨a,b,ma,mb,y,z,fa,la,fb,lb,e1,e2,e3,A,B,e4,e5,e6⟩
 ·lia
 ·have ok:ForkOk (ps.take (n-1)) a b:=g.get e1
  obtain ⟨ma',mb',la',fb',q1,q2,q3,q4,q5,_⟩:=(ok.pre (rH ps _)).ex;have z1:=A.ms.symm.trans q1;cases z1
  have z2:=B.ms.symm.trans q2;cases z2
  have z3:=A.ky.ll.symm.trans q3;cases z3
  have z4:=B.ky.fl.symm.trans q4;cases z4
  have f1:=T.ky.fl;have l1:=T.ky.ll;rw [e5] at f1 l1;have z5:=f1.symm.trans A.ky.fl;cases z5
  have z6:=l1.symm.trans B.ky.ll;cases z6
  exact ⟨a,b,ma,mb,y,z,la,fb,e1,A,B,e4,e5,by lia,by lia,q5⟩
structure Dn (F:AH->Out AV) (p:Nat) (h h':AH) (ps ps':List Pc) (k n:Nat):Prop where
 ev:F h = .ok (.int n) h'
 dd:Dd p h h' ps ps' k
 re:∀ h2 ps2,ShelfAt h2 p ps2->Good ps2->ps' <+: ps2->F h2 = .ok (.int n) h2
theorem Dd.trans {p:Nat} {h h' h'':AH} {ps ps' ps'':List Pc} {k k' k2:Nat} (a:Dd p h h' ps ps' k) (b:Dd p h' h'' ps' ps'' k') (hk:k+k'<=k2):Dd p h h'' ps ps'' k2 :=
 ⟨b.sh,b.gd,a.pre.trans b.pre,by have:=a.len;have:=b.len;lia,λi hi=>(b.fr i hi).trans (a.fr i hi),b.hl.trans a.hl⟩
theorem Dd.refl (S:ShelfAt h p ps) (g:Good ps):Dd p h h ps ps 0:=⟨S,g,N9 _,by lia,λ_ _=>rfl,rfl⟩
variable {F:AH->Out AV}
theorem Dn.seq {F1:AH->Out AV} {F2:AV->AH->Out AV} {ps2:List Pc} {k n2:Nat} (S:ShelfAt h p ps) (g:Good ps) (d1:Dn F1 p h h1 ps ps1 k1 n1) (d2:Dn (F2 (.int n1)) p h1 h2 ps1 ps2 k2 n2) (eq:∀ hh pp,ShelfAt hh p pp->Good pp->ps <+: pp->F hh=(F1 hh).bind F2) (hk:k1+k2<=k):Dn F p h h2 ps ps2 k n2:=by
 refine ⟨?_,d1.dd.trans d2.dd hk,λh3 ps3 S3 g3 p3=>?_⟩
 ·rw [eq h ps S g (N9 _),d1.ev];exact d2.ev
 ·rw [eq h3 ps3 S3 g3 (d1.dd.pre.trans (d2.dd.pre.trans p3)),d1.re h3 ps3 S3 g3 (d2.dd.pre.trans p3)]
  exact d2.re h3 ps3 S3 g3 p3
theorem Dn.as {F1:AH->Out AV} {k:Nat} (S:ShelfAt h p ps) (g:Good ps) (d1:Dn F1 p h h1 ps ps1 k1 n1) (eq:∀ hh pp,ShelfAt hh p pp->Good pp->ps <+: pp->F hh=F1 hh) (hk:k1<=k):Dn F p h h1 ps ps1 k n1:=by
 refine ⟨?_,{ d1.dd with len:=MV d1.dd.len (Nr hk _) },λh3 ps3 S3 g3 p3=>?_⟩
 ·rw [eq h ps S g (N9 _)];exact d1.ev
 ·rw [eq h3 ps3 S3 g3 (d1.dd.pre.trans p3)];exact d1.re h3 ps3 S3 g3 p3
theorem Dn.val (S:ShelfAt h p ps) (g:Good ps) (eq:∀ hh pp,ShelfAt hh p pp->Good pp->ps <+: pp->F hh = .ok (.int n) hh):Dn F p h h ps ps 0 n :=
 ⟨eq h ps S g (N9 _),Dd.refl S g,λh3 ps3 S3 g3 p3=>eq h3 ps3 S3 g3 p3⟩
theorem cJ (h:ps <+: ps') (e:ps[i]? = some q):ps'[i]? = some q:=by
 obtain ⟨r,rfl⟩:=h;rw [MT (MP.mp e).1];exact e
theorem mQ (S:ShelfAt h p ps) (g:Good ps) (hx:fg x=true) (hz:ps.length<16000000) :
  ∃ (n:Nat) (ps':List Pc) (h':AH),Dn (c5 [.ref p,.str x]) p h h' ps ps' 1 n/\Tx ps' n (bP x n) x (bP x n) (bP x n):=by
 obtain ⟨s1,s2,s3⟩:=vd hx;have hs:x.length<=sizeLine:=MV s2 (by decide);by_cases hq:Pc.leaf x∈ps
 ·obtain ⟨i,hi,e⟩:=OA hq
  have e':ps[i]? = some (.leaf x):=by rw [M3 hi,e]
  exact ⟨i+1,ps,h,⟨rD S g.nodup hx hs e',⟨S,g,N9 _,by lia,λ_ _=>rfl,rfl⟩,λh2 ps2 S2 g2 p2=>rD S2 g2.nodup hx hs (cJ p2 e')⟩,oO g e'⟩
 ·have g':Good (ps++[.leaf x]):=.snoc g hq hx
  have e':(ps++[Pc.leaf x])[ps.length]? = some (.leaf x):=by simp
  exact ⟨ps.length+1,_,_,⟨Ja S hx hs hq hz,⟨rB S,g',Q4 _ _,by simp,λi hi=>AA hi,Az _ _ _⟩,λh2 ps2 S2 g2 p2=>rD S2 g2.nodup hx hs (cJ p2 e')⟩,oO g' e'⟩
theorem gu (S:ShelfAt h p ps) (g:Good ps) (A:Tx ps a ma x fa la) (B:Tx ps b mb y fb lb) (hc:8<la.sg+fb.sg) (v1 : -1<=ma.ht-mb.ht) (v2:ma.ht-mb.ht<=1) (hm:ma.sg+mb.sg<=1000000000000000000) (hz:ps.length<16000000) :
  ∃ (n:Nat) (ps':List Pc) (h':AH),Dn (bA [.ref p,.int a,.int b]) p h h' ps ps' 1 n/\Tx ps' n (lC ma mb) (x++y) fa lb:=by
 have F:ForkOk ps a b:=⟨A.n1,B.n1,ma,mb,la,fb,A.ms,B.ms,A.ky.ll,B.ky.fl,hc,by lia,hm⟩
 by_cases hq:Pc.fork a b∈ps
 ·obtain ⟨i,hi,e⟩:=OA hq
  have e':ps[i]? = some (.fork a b):=by rw [M3 hi,e]
  exact ⟨i+1,ps,h,⟨va S g.nodup F e',⟨S,g,N9 _,by lia,λ_ _=>rfl,rfl⟩,λh2 ps2 S2 g2 p2=>va S2 g2.nodup (F.pre p2) (cJ p2 e')⟩,oQ g e' A B⟩
 ·have g':Good (ps++[.fork a b]):=.snoc g hq F
  have e':(ps++[Pc.fork a b])[ps.length]? = some (.fork a b):=by simp
  have pr:ps <+: ps++[Pc.fork a b]:=Q4 _ _;exact ⟨ps.length+1,_,_,⟨Jc S F hq hz,⟨rB S,g',pr,by simp,λi hi=>AA hi,Az _ _ _⟩,λh2 ps2 S2 g2 p2=>va S2 g2.nodup (F.pre (pr.trans p2)) (cJ p2 e')⟩,oQ g' e' (A.pre pr) (B.pre pr)⟩
theorem gw (ma mb:Ms):(lC ma mb).sg=ma.sg+mb.sg:=rfl
theorem bV (ma mb:Ms):(lC ma mb).ht=max ma.ht mb.ht+1:=rfl
theorem i1 (s:Str) (a b:Int) (h:AH):au (.tup [.str s,.int a,.int b]) (.int 1) h = .ok (.int a) h:=rfl
theorem i2 (s:Str) (a b:Int) (h:AH):au (.tup [.str s,.int a,.int b]) (.int 2) h = .ok (.int b) h:=rfl
theorem gx (S:ShelfAt h p ps) (n1:1<=n) (e:ps[n-1]? = some (.fork a b)):fy [.ref p,.int n] h = .ok (.tup [.str "fork",.int a,.int b]) h:=AR S n1 e
theorem vf (S:ShelfAt h p ps) (ea:(meas ps)[a]? = some ma) (eb:(meas ps)[b]? = some mb) (hd:mb.ht-ma.ht<2) :
  gH [.ref p,.int a,.int b] h=bA [.ref p,.int a,.int b] h:=by
 have f1:=dF S ea;have f2:=dF S eb;generalize hF:bA [.ref p,.int a,.int b] h=R
 simp [gH,S.ob,f1,f2,hd,hF]
 cases R<;>rfl
theorem vg (S:ShelfAt h p ps) (b1:1<=b) (ea:(meas ps)[a]? = some ma) (eb:(meas ps)[b]? = some mb) (e:ps[b-1]? = some (.fork c d)) (ec:(meas ps)[c]? = some mc) (ed:(meas ps)[d]? = some md) (hd : ¬ mb.ht-ma.ht<2) (hh:mc.ht<=md.ht) :
  gH [.ref p,.int a,.int b] h=(bA [.ref p,.int a,.int c] h).bind λv h1=>bA [.ref p,v,.int d] h1:=by
 have f1:=dF S ea;have f2:=dF S eb;have f3:=gx S b1 e;have f4:=dF S ec;have f5:=dF S ed;generalize hF:bA [.ref p,.int a,.int c] h=R
 simp [gH,S.ob,f1,f2,hd,f3,i1,i2,f4,f5,hh,hF,-au]
 cases R with
 | ok v h1=>dsimp only;cases bA [.ref p,v,.int d] h1<;>rfl
 | ex c h1=>rfl
 | bad=>rfl
def dN (p:Nat) (F:AH->Out AV) (h:AH):Out AV:=match h[p]? with
 | some (.ins c' _)=>if c'=0 then F h else .bad
 | _=>.bad
theorem AU (S:ShelfAt h p ps) (F:AH->Out AV):dN p F h=F h:=by simp [dN,S.ob]
theorem vh (S:ShelfAt h p ps) (b1:1<=b) (c1:1<=c) (ea:(meas ps)[a]? = some ma) (eb:(meas ps)[b]? = some mb) (e:ps[b-1]? = some (.fork c d)) (ec:(meas ps)[c]? = some mc) (ed:(meas ps)[d]? = some md) (e2:ps[c-1]? = some (.fork i j)) (hd : ¬ mb.ht-ma.ht<2) (hh : ¬ mc.ht<=md.ht) :
  gH [.ref p,.int a,.int b] h=(bA [.ref p,.int a,.int i] h).bind λv h1=>(dN p (bA [.ref p,.int j,.int d]) h1).bind λw h2=>bA [.ref p,v,w] h2:=by
 have f1:=dF S ea;have f2:=dF S eb;have f3:=gx S b1 e;have f4:=dF S ec;have f5:=dF S ed;have f6:=gx S c1 e2;generalize hF:bA [.ref p,.int a,.int i] h=R
 simp [gH,S.ob,f1,f2,hd,f3,i1,i2,f4,f5,hh,f6,hF,-au]
 cases R with
 | ok v h1 =>
  unfold dN;dsimp only
  cases hx:h1[p]? with
  | none=>rfl
  | some o =>
   cases o with
   | lst l=>rfl
   | dct q l=>rfl
   | dcx l=>rfl
   | ins c' l =>
    dsimp only;by_cases z:c'=0
    ·rw [MW z]
     cases bA [.ref p,.int j,.int d] h1 with
     | ok w h2=>dsimp only;cases bA [.ref p,v,w] h2<;>rfl
     | ex c h2=>rfl
     | bad=>rfl
    ·rw [MX z]
 | ex c h1=>rfl
 | bad=>rfl
theorem vi {a b m:Int} (h1 : -1<=b-a) (h2:b-a<2) (e:m=max a b+1):max a b<=m/\m<=max a b+1/\(b-a<=1->m=max a b+1):=by lia
theorem Jo {a b c d i j:Int} (ht:b=max c d+1) (ht2:c=max i j+1) (w1 : -1<=c-d) (w2:c-d<=1) (v2:b-a<=2) (q : ¬ b-a<2) (r : ¬ c<=d):max a b<=max (max a i+1) (max j d+1)+1/\max (max a i+1) (max j d+1)+1<=max a b+1/\(b-a<=1->max (max a i+1) (max j d+1)+1=max a b+1):=by
 have hi:=Int.le_max_left i j;have hj:=Int.le_max_right i j;generalize max i j=k at *;rw [Oi (show d<=c by lia)] at ht
 rw [Oi (show i<=a by lia),OF (show j<=d by lia),OF (show a<=b by lia),Oi (show d+1<=a+1 by lia)];lia
theorem Jp {a b c d i j:Int} (ht:a=max c d+1) (ht2:d=max i j+1) (w1 : -1<=c-d) (w2:c-d<=1) (v2:a-b<=2) (q : ¬ a-b<2) (r : ¬ d<=c):max a b<=max (max c i+1) (max j b+1)+1/\max (max c i+1) (max j b+1)+1<=max a b+1/\(a-b<=1->max (max c i+1) (max j b+1)+1=max a b+1):=by
 have hi:=Int.le_max_left i j;have hj:=Int.le_max_right i j;generalize max i j=k at *;rw [OF (show c<=d by lia)] at ht
 rw [Oi (show i<=c by lia),OF (show j<=b by lia),Oi (show b<=a by lia),Oi (show b+1<=c+1 by lia)];lia
theorem AW (S:ShelfAt h p ps) (g:Good ps) (A:Tx ps a ma x fa la) (B:Tx ps b mb y fb lb) (hc:8<la.sg+fb.sg) (v1 : -1<=mb.ht-ma.ht) (v2:mb.ht-ma.ht<=2) (hm:ma.sg+mb.sg<=1000000000000000000) (hz:ps.length+3<16000000) :
  ∃ (n:Nat) (ps':List Pc) (h':AH) (m:Ms),Dn (gH [.ref p,.int a,.int b]) p h h' ps ps' 3 n/\Tx ps' n m (x++y) fa lb/\max ma.ht mb.ht<=m.ht/\m.ht<=max ma.ht mb.ht+1/\(mb.ht-ma.ht<=1->m.ht=max ma.ht mb.ht+1):=by
 by_cases q:mb.ht-ma.ht<2
 ·obtain ⟨n,ps',h',d,T⟩:=gu S g A B hc (by lia) (by lia) hm (by lia)
  exact ⟨n,ps',h',_,d.as S g (λhh pp S' _ pr=>vf S' (aQ pr A.ms) (aQ pr B.ms) q) (by lia),T,vi v1 q (bV ma mb)⟩
 ·obtain ⟨c,d,mc,md,y1,y2,lc,fd,e,C,D,rfl,em,w1,w2,w3⟩:=g.cut B (by have:=A.ky.ht;lia)
  have sg:=congrArg Ms.sg em;have ht:=congrArg Ms.ht em;rw [gw] at sg;rw [bV] at ht;by_cases r:mc.ht<=md.ht
  ·obtain ⟨n1,ps1,h1,d1,T1⟩:=gu S g A C hc (by lia) (by lia) (by lia) (by lia)
   obtain ⟨n2,ps2,h2,d2,T2⟩:=gu d1.dd.sh d1.dd.gd T1 (D.pre d1.dd.pre) w3 (by rw [bV];lia) (by rw [bV];lia) (by rw [gw];lia) (by have:=d1.dd.len;lia)
   rw [dY] at T2;refine ⟨n2,ps2,h2,_,Dn.seq S g d1 d2 (λhh pp S' _ pr=>vg S' B.n1 (aQ pr A.ms) (aQ pr B.ms) (cJ pr e) (aQ pr C.ms) (aQ pr D.ms) q r) (by lia),T2,?_⟩
   rw [bV,bV];lia
  ·obtain ⟨i,j,mi,mj,z1,z2,li,fj,e2,I,J,rfl,em2,u1,u2,u3⟩:=g.cut C (by have:=D.ky.ht;lia)
   have sg2:=congrArg Ms.sg em2;have ht2:=congrArg Ms.ht em2;rw [gw] at sg2;rw [bV] at ht2;obtain ⟨n1,ps1,h1,d1,T1⟩:=gu S g A I hc (by lia) (by lia) (by lia) (by lia)
   obtain ⟨n2,ps2,h2,d2,T2⟩:=gu d1.dd.sh d1.dd.gd (J.pre d1.dd.pre) (D.pre d1.dd.pre) w3 (by lia) (by lia) (by lia) (by have:=d1.dd.len;lia)
   obtain ⟨n3,ps3,h3,d3,T3⟩:=gu d2.dd.sh d2.dd.gd (T1.pre d2.dd.pre) T2 u3 (by rw [bV,bV];lia) (by rw [bV,bV];lia) (by rw [gw,gw];lia) (by have:=d1.dd.len;have:=d2.dd.len;lia)
   have d2':Dn (dN p (bA [.ref p,.int j,.int d])) p h1 h2 ps1 ps2 1 n2:=d2.as d1.dd.sh d1.dd.gd (λhh pp S' _ _=>AU S' _) (MQ _);have d23:=Dn.seq (F:=λh1=>(dN p (bA [.ref p,.int j,.int d]) h1).bind λw h2=>bA [.ref p,.int n1,w] h2) (F2:=λw h2=>bA [.ref p,.int n1,w] h2) d1.dd.sh d1.dd.gd d2' d3 (λ_ _ _ _ _=>rfl) (k:=2) (by lia);have ea:(x++z1)++(z2++y2)=x++(z1++z2++y2):=by rw [dY,dY]
   rw [ea] at T3;refine ⟨n3,ps3,h3,_,Dn.seq (F2:=λv h1=>(dN p (bA [.ref p,.int j,.int d]) h1).bind λw h2=>bA [.ref p,v,w] h2) S g d1 d23 (λhh pp S' _ pr=>vh S' B.n1 C.n1 (aQ pr A.ms) (aQ pr B.ms) (cJ pr e) (aQ pr C.ms) (aQ pr D.ms) (cJ pr e2) q r) (by lia),T3,?_⟩
   rw [bV,bV,bV];exact Jo ht ht2 w1 w2 v2 q r
theorem vj (S:ShelfAt h p ps) (ea:(meas ps)[a]? = some ma) (eb:(meas ps)[b]? = some mb) (hd:ma.ht-mb.ht<2) :
  iJ [.ref p,.int a,.int b] h=bA [.ref p,.int a,.int b] h:=by
 have f1:=dF S ea;have f2:=dF S eb;generalize hF:bA [.ref p,.int a,.int b] h=R
 simp [iJ,S.ob,f1,f2,hd,hF]
 cases R<;>rfl
theorem vm (S:ShelfAt h p ps) (a1:1<=a) (ea:(meas ps)[a]? = some ma) (eb:(meas ps)[b]? = some mb) (e:ps[a-1]? = some (.fork c d)) (ec:(meas ps)[c]? = some mc) (ed:(meas ps)[d]? = some md) (hd : ¬ ma.ht-mb.ht<2) (hh:md.ht<=mc.ht) :
  iJ [.ref p,.int a,.int b] h=(bA [.ref p,.int d,.int b] h).bind λv h1=>bA [.ref p,.int c,v] h1:=by
 have f1:=dF S ea;have f2:=dF S eb;have f3:=gx S a1 e;have f4:=dF S ec;have f5:=dF S ed;generalize hF:bA [.ref p,.int d,.int b] h=R
 simp [iJ,S.ob,f1,f2,hd,f3,i1,i2,f4,f5,hh,hF,-au]
 cases R with
 | ok v h1=>dsimp only;cases bA [.ref p,.int c,v] h1<;>rfl
 | ex c h1=>rfl
 | bad=>rfl
theorem vn (S:ShelfAt h p ps) (a1:1<=a) (d1:1<=d) (ea:(meas ps)[a]? = some ma) (eb:(meas ps)[b]? = some mb) (e:ps[a-1]? = some (.fork c d)) (ec:(meas ps)[c]? = some mc) (ed:(meas ps)[d]? = some md) (e2:ps[d-1]? = some (.fork i j)) (hd : ¬ ma.ht-mb.ht<2) (hh : ¬ md.ht<=mc.ht) :
  iJ [.ref p,.int a,.int b] h=(bA [.ref p,.int c,.int i] h).bind λv h1=>(dN p (bA [.ref p,.int j,.int b]) h1).bind λw h2=>bA [.ref p,v,w] h2:=by
 have f1:=dF S ea;have f2:=dF S eb;have f3:=gx S a1 e;have f4:=dF S ec;have f5:=dF S ed;have f6:=gx S d1 e2;generalize hF:bA [.ref p,.int c,.int i] h=R
 simp [iJ,S.ob,f1,f2,hd,f3,i1,i2,f4,f5,hh,f6,hF,-au]
 cases R with
 | ok v h1 =>
  unfold dN;dsimp only
  cases hx:h1[p]? with
  | none=>rfl
  | some o =>
   cases o with
   | lst l=>rfl
   | dct q l=>rfl
   | dcx l=>rfl
   | ins c' l =>
    dsimp only;by_cases z:c'=0
    ·rw [MW z]
     cases bA [.ref p,.int j,.int b] h1 with
     | ok w h2=>dsimp only;cases bA [.ref p,v,w] h2<;>rfl
     | ex c h2=>rfl
     | bad=>rfl
    ·rw [MX z]
 | ex c h1=>rfl
 | bad=>rfl
theorem Jq (S:ShelfAt h p ps) (g:Good ps) (A:Tx ps a ma x fa la) (B:Tx ps b mb y fb lb) (hc:8<la.sg+fb.sg) (v1 : -1<=ma.ht-mb.ht) (v2:ma.ht-mb.ht<=2) (hm:ma.sg+mb.sg<=1000000000000000000) (hz:ps.length+3<16000000) :
  ∃ (n:Nat) (ps':List Pc) (h':AH) (m:Ms),Dn (iJ [.ref p,.int a,.int b]) p h h' ps ps' 3 n/\Tx ps' n m (x++y) fa lb/\max ma.ht mb.ht<=m.ht/\m.ht<=max ma.ht mb.ht+1/\(ma.ht-mb.ht<=1->m.ht=max ma.ht mb.ht+1):=by
 by_cases q:ma.ht-mb.ht<2
 ·obtain ⟨n,ps',h',d,T⟩:=gu S g A B hc (by lia) (by lia) hm (by lia)
  refine ⟨n,ps',h',_,d.as S g (λhh pp S' _ pr=>vj S' (aQ pr A.ms) (aQ pr B.ms) q) (by lia),T,?_⟩
  rw [bV];lia
 ·obtain ⟨c,d,mc,md,y1,y2,lc,fd,e,C,D,rfl,em,w1,w2,w3⟩:=g.cut A (by have:=B.ky.ht;lia)
  have sg:=congrArg Ms.sg em;have ht:=congrArg Ms.ht em;rw [gw] at sg;rw [bV] at ht;by_cases r:md.ht<=mc.ht
  ·obtain ⟨n1,ps1,h1,d1,T1⟩:=gu S g D B hc (by lia) (by lia) (by lia) (by lia)
   obtain ⟨n2,ps2,h2,d2,T2⟩:=gu d1.dd.sh d1.dd.gd (C.pre d1.dd.pre) T1 w3 (by rw [bV];lia) (by rw [bV];lia) (by rw [gw];lia) (by have:=d1.dd.len;lia)
   rw [<- dY] at T2;refine ⟨n2,ps2,h2,_,Dn.seq (F2:=λv h1=>bA [.ref p,.int c,v] h1) S g d1 d2 (λhh pp S' _ pr=>vm S' A.n1 (aQ pr A.ms) (aQ pr B.ms) (cJ pr e) (aQ pr C.ms) (aQ pr D.ms) q r) (by lia),T2,?_⟩
   rw [bV,bV];lia
  ·obtain ⟨i,j,mi,mj,z1,z2,li,fj,e2,I,J,rfl,em2,u1,u2,u3⟩:=g.cut D (by have:=C.ky.ht;lia)
   have sg2:=congrArg Ms.sg em2;have ht2:=congrArg Ms.ht em2;rw [gw] at sg2;rw [bV] at ht2;obtain ⟨n1,ps1,h1,d1,T1⟩:=gu S g C I w3 (by lia) (by lia) (by lia) (by lia)
   obtain ⟨n2,ps2,h2,d2,T2⟩:=gu d1.dd.sh d1.dd.gd (J.pre d1.dd.pre) (B.pre d1.dd.pre) hc (by lia) (by lia) (by lia) (by have:=d1.dd.len;lia)
   obtain ⟨n3,ps3,h3,d3,T3⟩:=gu d2.dd.sh d2.dd.gd (T1.pre d2.dd.pre) T2 u3 (by rw [bV,bV];lia) (by rw [bV,bV];lia) (by rw [gw,gw];lia) (by have:=d1.dd.len;have:=d2.dd.len;lia)
   have d2':Dn (dN p (bA [.ref p,.int j,.int b])) p h1 h2 ps1 ps2 1 n2:=d2.as d1.dd.sh d1.dd.gd (λhh pp S' _ _=>AU S' _) (MQ _);have d23:=Dn.seq (F:=λh1=>(dN p (bA [.ref p,.int j,.int b]) h1).bind λw h2=>bA [.ref p,.int n1,w] h2) (F2:=λw h2=>bA [.ref p,.int n1,w] h2) d1.dd.sh d1.dd.gd d2' d3 (λ_ _ _ _ _=>rfl) (k:=2) (by lia);have ea:(y1++z1)++(z2++y)=y1++(z1++z2)++y:=by rw [dY,dY,dY]
   rw [ea] at T3;refine ⟨n3,ps3,h3,_,Dn.seq (F2:=λv h1=>(dN p (bA [.ref p,.int j,.int b]) h1).bind λw h2=>bA [.ref p,v,w] h2) S g d1 d23 (λhh pp S' _ pr=>vn S' A.n1 D.n1 (aQ pr A.ms) (aQ pr B.ms) (cJ pr e) (aQ pr C.ms) (aQ pr D.ms) (cJ pr e2) q r) (by lia),T3,?_⟩
   rw [bV,bV,bV];exact Jp ht ht2 w1 w2 v2 q r
theorem Dn.seq' {F1 F2:AH->Out AV} {ps2:List Pc} {k n2:Nat} (S:ShelfAt h p ps) (g:Good ps) (d1:Dn F1 p h h1 ps ps1 k1 n1) (d2:Dn F2 p h1 h2 ps1 ps2 k2 n2) (eq:∀ hh hh1 pp,ShelfAt hh p pp->Good pp->ps <+: pp->F1 hh = .ok (.int n1) hh1->F hh=F2 hh1) (hk:k1+k2<=k):Dn F p h h2 ps ps2 k n2:=by
 refine ⟨?_,d1.dd.trans d2.dd hk,λh3 ps3 S3 g3 p3=>?_⟩
 ·rw [eq h h1 ps S g (N9 _) d1.ev];exact d2.ev
 ·rw [eq h3 h3 ps3 S3 g3 (d1.dd.pre.trans (d2.dd.pre.trans p3)) (d1.re h3 ps3 S3 g3 (d2.dd.pre.trans p3))]
  exact d2.re h3 ps3 S3 g3 p3
theorem vo (S:ShelfAt h p ps) (ea:(meas ps)[a]? = some ma) (eb:(meas ps)[b]? = some mb) (h1:ma.ht-mb.ht<=1) (h2 : -1<=ma.ht-mb.ht) :
  fN (d+1) [.ref p,.int a,.int b] h=bA [.ref p,.int a,.int b] h:=by
 have f1:=dF S ea;have f2:=dF S eb;have c1 : ¬ 1<ma.ht-mb.ht:=by lia
 have c2 : ¬ ma.ht-mb.ht < -1:=by lia
 generalize hF:bA [.ref p,.int a,.int b] h=R
 simp [fN,rj,S.ob,f1,f2,c1,c2,hF]
 cases R<;>rfl
variable {v hc he H:Int}
theorem vp (S:ShelfAt h p ps) (a1:1<=a) (ea:(meas ps)[a]? = some ma) (eb:(meas ps)[b]? = some mb) (ep:ps[a-1]? = some (.fork c e)) (hd:1<ma.ht-mb.ht) (ev:fN d [.ref p,.int e,.int b] h = .ok (.int v) h1) :
  fN (d+1) [.ref p,.int a,.int b] h=gH [.ref p,.int c,.int v] h1:=by
 have f1:=dF S ea;have f2:=dF S eb;have f3:=gx S a1 ep;generalize hF:gH [.ref p,.int c,.int v] h1=R
 simp [fN,rj,S.ob,f1,f2,hd,f3,i1,i2,ev,hF,-au]
 cases R<;>rfl
theorem vq (S:ShelfAt h p ps) (b1:1<=b) (ea:(meas ps)[a]? = some ma) (eb:(meas ps)[b]? = some mb) (ep:ps[b-1]? = some (.fork c e)) (hd:ma.ht-mb.ht < -1) (ev:fN d [.ref p,.int a,.int c] h = .ok (.int v) h1) :
  fN (d+1) [.ref p,.int a,.int b] h=iJ [.ref p,.int v,.int e] h1:=by
 have f1:=dF S ea;have f2:=dF S eb;have f3:=gx S b1 ep;have c1 : ¬ 1<ma.ht-mb.ht:=by lia
 generalize hF:iJ [.ref p,.int v,.int e] h1=R
 simp [fN,rj,S.ob,f1,f2,c1,hd,f3,i1,i2,ev,hF,-au]
 cases R<;>rfl
theorem rK (a b:Int):a<=max a b/\b<=max a b/\(max a b=a\/max a b=b):=by lia
theorem Jr {a b c e m n:Int} (hh:a=max c e+1) (w1 : -1<=c-e) (w2:c-e<=1) (q:1<a-b) (u1:max e b<=m) (u2:m<=max e b+1) (u3:max c m<=n) (u4:n<=max c m+1) (u5:m-c<=1->n=max c m+1):max a b<=n/\n<=max a b+1:=by
 obtain ⟨x1,x2,x3⟩:=rK c e;obtain ⟨y1,y2,y3⟩:=rK c m;generalize max c e=k at *;generalize max c m=l at *;rw [Oi (show b<=e by lia)] at u1 u2
 rw [Oi (show b<=a by lia)];lia
theorem Js {a b c e m n:Int} (hh:b=max c e+1) (w1 : -1<=c-e) (w2:c-e<=1) (q:a-b < -1) (u1:max a c<=m) (u2:m<=max a c+1) (u3:max m e<=n) (u4:n<=max m e+1) (u5:m-e<=1->n=max m e+1):max a b<=n/\n<=max a b+1:=by
 obtain ⟨x1,x2,x3⟩:=rK c e;obtain ⟨y1,y2,y3⟩:=rK m e;generalize max c e=k at *;generalize max m e=l at *;rw [OF (show a<=c by lia)] at u1 u2
 rw [OF (show a<=b by lia)];lia
theorem lE {p:Nat}:∀ (d t:Nat) {h:AH} {ps:List Pc} {a b:Nat} {ma mb fa la fb lb:Ms} {x y:Str} (S:ShelfAt h p ps) (g:Good ps) (A:Tx ps a ma x fa la) (B:Tx ps b mb y fb lb) (hc:8<la.sg+fb.sg) (hm:ma.sg+mb.sg<=1000000000000000000)
  (ht:(ma.ht-mb.ht).natAbs<=t) (hd:t<d) (hz:ps.length+3*t+4<16000000),
  ∃ (n:Nat) (ps':List Pc) (h':AH) (m:Ms),Dn (fN d [.ref p,.int a,.int b]) p h h' ps ps' (3*t+1) n/\Tx ps' n m (x++y) fa lb/\max ma.ht mb.ht<=m.ht/\m.ht<=max ma.ht mb.ht+1
 | 0,t,h,ps,a,b,ma,mb,fa,la,fb,lb,x,y,S,g,A,B,hc,hm,ht,hd,hz=>absurd hd (Oj t)
 | d+1,t,h,ps,a,b,ma,mb,fa,la,fb,lb,x,y,S,g,A,B,hc,hm,ht,hd,hz=>by
  by_cases q1:1<ma.ht-mb.ht
  ·obtain ⟨c,e,mc,me,y1,y2,lc,fe,ep,C,E,rfl,em,w1,w2,w3⟩:=g.cut A (by have:=B.ky.ht;lia)
   have sg:=congrArg Ms.sg em;have hh:=congrArg Ms.ht em;rw [gw] at sg;rw [bV] at hh;obtain ⟨n1,ps1,h1,m1,d1,T1,u1,u2⟩:=lE d (t-1) S g E B hc (by lia) (by lia) (by lia) (by lia)
   have s1:m1.sg=me.sg+mb.sg:=by rw [T1.ky.sg,dE,<- E.ky.sg,<- B.ky.sg]
   obtain ⟨n2,ps2,h2,m2,d2,T2,u3,u4,u5⟩:=AW d1.dd.sh d1.dd.gd (C.pre d1.dd.pre) T1 w3 (by lia) (by lia) (by lia) (by have:=d1.dd.len;lia)
   rw [<- dY] at T2;exact ⟨n2,ps2,h2,m2,Dn.seq' S g d1 d2 (λhh hh1 pp S' _ pr ev=>vp S' A.n1 (aQ pr A.ms) (aQ pr B.ms) (cJ pr ep) q1 ev) (by lia),T2,Jr hh w1 w2 q1 u1 u2 u3 u4 u5⟩
  ·by_cases q2:ma.ht-mb.ht < -1
   ·obtain ⟨c,e,mc,me,y1,y2,lc,fe,ep,C,E,rfl,em,w1,w2,w3⟩:=g.cut B (by have:=A.ky.ht;lia)
    have sg:=congrArg Ms.sg em;have hh:=congrArg Ms.ht em;rw [gw] at sg;rw [bV] at hh;obtain ⟨n1,ps1,h1,m1,d1,T1,u1,u2⟩:=lE d (t-1) S g A C hc (by lia) (by lia) (by lia) (by lia)
    have s1:m1.sg=ma.sg+mc.sg:=by rw [T1.ky.sg,dE,<- A.ky.sg,<- C.ky.sg]
    obtain ⟨n2,ps2,h2,m2,d2,T2,u3,u4,u5⟩:=Jq d1.dd.sh d1.dd.gd T1 (E.pre d1.dd.pre) w3 (by lia) (by lia) (by lia) (by have:=d1.dd.len;lia)
    rw [dY] at T2;exact ⟨n2,ps2,h2,m2,Dn.seq' S g d1 d2 (λhh hh1 pp S' _ pr ev=>vq S' B.n1 (aQ pr A.ms) (aQ pr B.ms) (cJ pr ep) q2 ev) (by lia),T2,Js hh w1 w2 q2 u1 u2 u3 u4 u5⟩
   ·obtain ⟨n,ps',h',dn,T⟩:=gu S g A B hc (by lia) (by lia) hm (by lia)
    exact ⟨n,ps',h',_,dn.as S g (λhh pp S' _ pr=>vo S' (aQ pr A.ms) (aQ pr B.ms) (by lia) (by lia)) (by lia),T,by rw [bV];lia,by rw [bV];lia⟩
theorem mR (S:ShelfAt h p ps) (n1:1<=n) (e:ps[n-1]? = some (.leaf x)):fy [.ref p,.int n] h = .ok (.tup [.str "leaf",.str x]) h:=AR S n1 e
theorem rL (x:Str) (h:AH):au (.tup [.str "leaf",.str x]) (.int 0) h = .ok (.str "leaf") h:=rfl
theorem lF (a b:Int) (h:AH):au (.tup [.str "fork",.int a,.int b]) (.int 0) h = .ok (.str "fork") h:=rfl
theorem rM (x:Str) (h:AH):au (.tup [.str "leaf",.str x]) (.int 1) h = .ok (.str x) h:=rfl
theorem rN (h:AH):aH (.str "leaf") (.str "leaf") h = .ok (.bl true) h:=by simp
theorem lG (h:AH):aH (.str "fork") (.str "leaf") h = .ok (.bl false) h:=by
 have : ¬ (Str.ofString "fork" = Str.ofString "leaf"):=by decide +kernel
 simp [this]
theorem vt {L:Int} (S:ShelfAt h p ps) (a1:1<=a) (ep:ps[a-1]? = some (.leaf x)):ip (d+1) [.ref p,.int a,.int L] h = .ok (.int L) h:=by
 simp [ip,uU,S.ob,mR S a1 ep,rL,rN,-au,-aH]
theorem vv {L:Int} (S:ShelfAt h p ps) (a1:1<=a) (ep:ps[a-1]? = some (.fork c e)) (ev:ip d [.ref p,.int e,.int L] h = .ok (.int v) h1) :
  ip (d+1) [.ref p,.int a,.int L] h=bA [.ref p,.int c,.int v] h1:=by
 generalize hF:bA [.ref p,.int c,.int v] h1=R
 simp [ip,uU,S.ob,gx S a1 ep,lF,i1,i2,lG,ev,hF,-au,-aH]
 cases R<;>rfl
theorem rO {m:Ms} (T:Tx ps n m x f l) (e:m=bP x n):f=m/\l=m:=by
 have h1:=T.ky.fl;have h2:=T.ky.ll;have h3:=T.ms;rw [e] at h1 h2;exact ⟨Nx (h1.symm.trans h3),Nx (h2.symm.trans h3)⟩
theorem vx {p:Nat}:∀ (d:Nat) {h:AH} {ps:List Pc} {a L:Nat} {m f l:Ms} {x w:Str} (S:ShelfAt h p ps) (g:Good ps) (T:Tx ps a m x f l) (N:Tx ps L (bP w L) w (bP w L) (bP w L)) (hw:l.sg<=w.length) (hm:m.sg+w.length<=1000000000000000000+l.sg) (hd:m.ht.toNat<d) (hz:ps.length+m.ht.toNat<16000000),
  ∃ (n:Nat) (ps':List Pc) (h':AH) (m' f':Ms) (u v:Str),Dn (ip d [.ref p,.int a,.int L]) p h h' ps ps' m.ht.toNat n/\x=u++v/\v.length=l.sg/\Tx ps' n m' (u++w) f' (bP w L)/\m'.ht=m.ht/\f.sg<=f'.sg
 | 0,h,ps,a,L,m,f,l,x,w,S,g,T,N,hw,hm,hd,hz=>absurd hd (Oj _)
 | d+1,h,ps,a,L,m,f,l,x,w,S,g,T,N,hw,hm,hd,hz=>by
  by_cases q:0<m.ht
  ·obtain ⟨c,e,mc,me,y1,y2,lc,fe,ep,C,E,rfl,em,w1,w2,w3⟩:=g.cut T q
   have sg:=congrArg Ms.sg em;have hh:=congrArg Ms.ht em;rw [gw] at sg;rw [bV] at hh;have c0:=C.ky.ht
   have e0:=E.ky.ht;obtain ⟨n1,ps1,h1,m1,f1,u,v,d1,rfl,lv,T1,k1,k2⟩:=vx d S g E N hw (by lia) (by lia) (by lia);have s1:m1.sg+l.sg=me.sg+w.length:=by rw [T1.ky.sg,E.ky.sg,dE,dE];lia
   obtain ⟨n2,ps2,h2,d2,T2⟩:=gu d1.dd.sh d1.dd.gd (C.pre d1.dd.pre) T1 (by lia) (by lia) (by lia) (by lia) (by have:=d1.dd.len;lia)
   rw [<- dY] at T2;exact ⟨n2,ps2,h2,_,f,y1++u,v,Dn.seq' S g d1 d2 (λhh hh1 pp S' _ pr ev=>vv S' T.n1 (cJ pr ep) ev) (by lia),by rw [dY],lv,T2,by rw [bV,k1,hh],MQ _⟩
  ·rcases g.kind T with ⟨e1,e2,e3,e4,e5⟩ | ⟨c,e,mc,me,y1,y2,fc,lc,fe,le,e1,e2,e3,C,E,e4,e5,e6⟩
   ·obtain ⟨z1,z2⟩:=rO T e3
    subst z1 z2
    have em:("" : Str)++x=x:=cI (by rw [dC];rfl)
    have em2:("" : Str)++w=w:=cI (by rw [dC];rfl)
    have dv:Dn (ip (d+1) [.ref p,.int a,.int L]) p h h ps ps 0 L:=Dn.val S g λhh pp S' _ pr=>vt S' T.n1 (cJ pr e1)
    refine ⟨L,ps,h,_,_, "",x,dv.as S g (λ_ _ _ _ _=>rfl) (Nj _),em.symm,T.ky.sg.symm,by rw [em2];exact N,e2.symm,hw⟩
   ·have:=congrArg Ms.ht e5
    rw [bV] at this;have c0:=C.ky.ht
    lia
theorem vy (S:ShelfAt h p ps) (a1:1<=a) (ep:ps[a-1]? = some (.leaf x)):f9 (d+1) [.ref p,.int a] h = .ok (.int (0:Nat)) h:=by
 simp [f9,rh,S.ob,mR S a1 ep,rL,rN,-au,-aH]
theorem oR (S:ShelfAt h p ps) (a1:1<=a) (ep:ps[a-1]? = some (.fork c e)) (ev:f9 d [.ref p,.int c] h = .ok (.int (0:Nat)) h1) :
  f9 (d+1) [.ref p,.int a] h = .ok (.int e) h1:=by
 have z:aH (.int 0) (.int 0) h1 = .ok (.bl true) h1:=by simp
 simp [f9,rh,S.ob,gx S a1 ep,lF,i1,i2,lG,ev,z,-au,-aH]
theorem vz {v:Nat} (S:ShelfAt h p ps) (a1:1<=a) (ep:ps[a-1]? = some (.fork c e)) (v1:1<=v) (ev:f9 d [.ref p,.int c] h = .ok (.int v) h1) :
  f9 (d+1) [.ref p,.int a] h=gH [.ref p,.int v,.int e] h1:=by
 have z:aH (.int (v:Int)) (.int 0) h1 = .ok (.bl false) h1:=by
  have : ¬ (v=0):=by lia
  simp [this]
 generalize hF:gH [.ref p,.int v,.int e] h1=R
 simp [f9,rh,S.ob,gx S a1 ep,lF,i1,i2,lG,ev,z,hF,-au,-aH]
 cases R<;>rfl
theorem vA {p:Nat}:∀ (d:Nat) {h:AH} {ps:List Pc} {a:Nat} {m f l:Ms} {x:Str} (S:ShelfAt h p ps) (g:Good ps) (T:Tx ps a m x f l) (hd:m.ht.toNat<d) (hz:ps.length+3*m.ht.toNat<16000000),
  (m.ht=0/\f.sg=x.length/\Dn (f9 d [.ref p,.int a]) p h h ps ps 0 0) \/
  (0<m.ht/\∃ (n:Nat) (ps':List Pc) (h':AH) (m' f2:Ms) (u v:Str),Dn (f9 d [.ref p,.int a]) p h h' ps ps' (3*m.ht.toNat) n/\x=u++v/\u.length=f.sg/\Tx ps' n m' v f2 l/\m.ht-1<=m'.ht/\m'.ht<=m.ht/\8<f.sg+f2.sg)
 | 0,h,ps,a,m,f,l,x,S,g,T,hd,hz=>absurd hd (Oj _)
 | d+1,h,ps,a,m,f,l,x,S,g,T,hd,hz=>by
  by_cases q:0<m.ht
  ·obtain ⟨c,e,mc,me,y1,y2,lc,fe,ep,C,E,rfl,em,w1,w2,w3⟩:=g.cut T q
   have sg:=congrArg Ms.sg em;have hh:=congrArg Ms.ht em;rw [gw] at sg;rw [bV] at hh;have c0:=C.ky.ht
   have e0:=E.ky.ht;have most:=T.ky.most;refine .inr ⟨q,?_⟩
   rcases vA d S g C (by lia) (by lia) with ⟨k1,k2,d1⟩ | ⟨k1,n1,ps1,h1,m1,f2,u,v,d1,rfl,lu,T1,r1,r2,r3⟩
   ·rcases g.kind C with ⟨e1,e2,e3,e4,e5⟩ | ⟨_,_,mx,my,_,_,_,_,_,_,_,_,_,X,Y,_,e5,_⟩
    ·obtain ⟨z1,z2⟩:=rO C e3
     have dv:Dn (f9 (d+1) [.ref p,.int a]) p h h ps ps 0 e:=by
      refine ⟨oR S T.n1 ep d1.ev,Dd.refl S g,λh3 ps3 S3 g3 p3=>oR S3 T.n1 (cJ p3 ep) (d1.re h3 ps3 S3 g3 p3)⟩
     exact ⟨e,ps,h,me,fe,y1,y2,dv.as S g (λ_ _ _ _ _=>rfl) (Nj _),rfl,k2.symm,E,by lia,by lia,by rw [z1];rw [z2] at w3;exact w3⟩
    ·have:=congrArg Ms.ht e5
     rw [bV] at this;have:=X.ky.ht
     lia
   ·have s1:m1.sg+f.sg=mc.sg:=by rw [T1.ky.sg,C.ky.sg,dE];lia
    obtain ⟨n2,ps2,h2,m2,d2,T2,u3,u4,u5⟩:=AW d1.dd.sh d1.dd.gd T1 (E.pre d1.dd.pre) w3 (by lia) (by lia) (by lia) (by have:=d1.dd.len;lia)
    refine ⟨n2,ps2,h2,m2,f2,u,v++y2,Dn.seq' S g d1 d2 (λhh hh1 pp S' _ pr ev=>vz S' T.n1 (cJ pr ep) T1.n1 ev) (by lia),by rw [dY],lu,T2,?_,?_,r3⟩
    ·lia
    ·lia
  ·rcases g.kind T with ⟨e1,e2,e3,e4,e5⟩ | ⟨_,_,mx,my,_,_,_,_,_,_,_,_,_,X,Y,_,e5,_⟩
   ·obtain ⟨z1,z2⟩:=rO T e3
    exact .inl ⟨e2,by rw [z1];exact T.ky.sg,Dn.val S g λhh pp S' _ pr=>vy S' T.n1 (cJ pr e1)⟩
   ·have:=congrArg Ms.ht e5
    rw [bV] at this;have:=X.ky.ht
    lia
theorem Good.ends {ps:List Pc} (g:Good ps):∀ (k n:Nat) {m f l:Ms} {x:Str},n<=k->Tx ps n m x f l ->
  (∃ w u:Str,1<=m.fl/\ps[m.fl-1]? = some (.leaf w)/\x=w++u/\w.length=f.sg)/\(∃ w u:Str,1<=m.ll/\ps[m.ll-1]? = some (.leaf w)/\x=u++w/\w.length=l.sg)
 | 0,n,m,f,l,x,hn,T=>absurd T.n1 (by lia)
 | k+1,n,m,f,l,x,hn,T=>by
  rcases g.kind T with ⟨e1,e2,e3,e4,e5⟩ | ⟨a,b,ma,mb,y,z,fa,la,fb,lb,e1,e2,e3,A,B,rfl,e5,e6⟩
  ·obtain ⟨z1,z2⟩:=rO T e3
   have em:("" : Str)++x=x:=cI (by rw [dC];rfl)
   have em2:x++("" : Str)=x:=cI (by rw [dC];simp;rfl)
   have hf:m.fl=n:=by rw [e3];rfl
   have hl:m.ll=n:=by rw [e3];rfl
   have hx:=T.ky.sg;refine ⟨⟨x, "",by rw [hf];exact T.n1,by rw [hf];exact e1,em2.symm,by rw [z1];exact hx.symm⟩,⟨x, "",by rw [hl];exact T.n1,by rw [hl];exact e1,em.symm,by rw [z2];exact hx.symm⟩⟩
  ·have q1:=g.ends k a (by lia) A
   have q2:=g.ends k b (by lia) B;obtain ⟨⟨w,u,a1,a2,rfl,a4⟩,_⟩:=q1;obtain ⟨_,⟨w2,u2,b1,b2,rfl,b4⟩⟩:=q2;have f1:=T.ky.fl;have l1:=T.ky.ll;have hf:m.fl=ma.fl:=by rw [e5];rfl
   have hl:m.ll=mb.ll:=by rw [e5];rfl
   rw [hf] at f1;rw [hl] at l1;have z5:=f1.symm.trans A.ky.fl;cases z5
   have z6:=l1.symm.trans B.ky.ll;cases z6
   rw [hf,hl];exact ⟨⟨w,u++(u2++w2),a1,a2,by rw [dY],a4⟩,⟨w2,w++u++u2,b1,b2,by rw [dY (w++u)],b4⟩⟩
theorem vB {a b c d:Str} (e:a++b=c++d) (h:a.length=c.length):a=c/\b=d:=by
 have:=congrArg (λz:Str=>z.cps.toList) e;simp only [dC] at this
 obtain ⟨h1,h2⟩:=List.append_inj this (by rw [<- cS,<- cS];exact h)
 exact ⟨cI h1,cI h2⟩
theorem AX {a b c d:Str} (e:a++b=c++d) (h:b.length=d.length):a=c/\b=d:=by
 refine vB e ?_
 have:=congrArg Str.length e;rw [dE,dE] at this;lia
theorem Jt (S:ShelfAt h p ps) (ea:(meas ps)[a]? = some ma) (eb:(meas ps)[b]? = some mb) (el:(meas ps)[ma.ll]? = some la) (ef:(meas ps)[mb.fl]? = some fb) :
  rg [.ref p,.int a,.int b] h = .ok (.bl (decide (8<la.sg+fb.sg))) h:=by
 have e1:=AN S ea;have e2:=AK S eb;have e3:=dM S el;have e4:=dM S ef;have:decide ((8:Int)<(la.sg:Int)+fb.sg)=decide (8<la.sg+fb.sg):=by apply decide_eq_decide.mpr;lia
 simp [rg,S.ob,e1,e2,e3,e4,this]
theorem Ju {v:Str} (hw:w.length+v.length<=100) (h:AH):aG (.str w) (.str v) h = .ok (.str (w++v)) h:=by
 have:w.length+v.length<=sizeLine:=MV hw (by decide)
 simp [aG,this]
theorem fP {L n k:Int} {v:Str} (S:ShelfAt h p ps) (ea:(meas ps)[a]? = some ma) (eb:(meas ps)[b]? = some mb) (l1:1<=ma.ll) (f1:1<=mb.fl) (el:ps[ma.ll-1]? = some (.leaf w)) (ef:ps[mb.fl-1]? = some (.leaf v)) (hw:w.length+v.length<=100) (e1:c5 [.ref p,.str (w++v)] h = .ok (.int L) h1) (e2:ip 90 [.ref p,.int a,.int L] h1 = .ok (.int n) h2) (e3:f9 90 [.ref p,.int b] h2 = .ok (.int k) h3) :
  kg [.ref p,.int a,.int b] h=if k=0 then .ok (.int n) h3 else fN 90 [.ref p,.int n,.int k] h3:=by
 have q1:=AN S ea;have q2:=AK S eb;have q3:=mR S l1 el;have q4:=mR S f1 ef;have ad:=Ju hw h;unfold kg;generalize ip 90=WL at *;generalize f9 90=WF at *;generalize hF:fN 90=LK at *;by_cases z:k=0
 ·subst z
  have zz:aH (.int 0) (.int 0) h3 = .ok (.bl true) h3:=by simp
  simp [S.ob,q1,q2,q3,q4,rM,ad,e1,e2,e3,zz,-au,-aH,-aG]
 ·have zz:aH (.int k) (.int 0) h3 = .ok (.bl false) h3:=by simp [z]
  rw [MX z];generalize hR:LK [.ref p,.int n,.int k] h3=R
  simp [S.ob,q1,q2,q3,q4,rM,ad,e1,e2,e3,zz,hR,-au,-aH,-aG]
  cases R<;>rfl
theorem AY {v:Str} (h1:1<=w.length) (h2:w.length+v.length<=8) (pw:bS w=true) (pv:bS v=true):fg (w++v)=true:=by
 unfold fg;rw [lD,dE,pw,pv];simp;lia
theorem AZ (S:ShelfAt h p ps) (g:Good ps) (A:Tx ps a ma x fa la) (B:Tx ps b mb y fb lb) (hc : ¬ 8<la.sg+fb.sg) (hm:ma.sg+mb.sg<=1000000000000000000) (hz:ps.length<15000000) :
  ∃ (n:Nat) (ps':List Pc) (h':AH) (m f l:Ms),Dn (kg [.ref p,.int a,.int b]) p h h' ps ps' (7*(max ma.ht mb.ht).toNat+2) n/\Tx ps' n m (x++y) f l/\m.ht<=max ma.ht mb.ht+1:=by
 obtain ⟨_,w,u,l1,el,ex,lw⟩:=g.ends a a (MQ _) A;obtain ⟨⟨v,t,f1,ef,ey,lv⟩,_⟩:=g.ends b b (MQ _) B;have a0:=A.ky.ht;have b0:=B.ky.ht;have ha:=c6 g A;have hb:=c6 g B;have px:bS x=true:=A.ky.pl;have py:bS y=true:=B.ky.pl;have pw:bS w=true:=by rw [ex,lD,Nz] at px;exact px.2
 have pv:bS v=true:=by rw [ey,lD,Nz] at py;exact py.1
 have la1:=A.ky.l1;have fb1:=B.ky.f1;have sx:=A.ky.sg;have sy:=B.ky.sg;have lx:x.length=u.length+w.length:=by rw [ex,dE]
 have ly:y.length=v.length+t.length:=by rw [ey,dE]
 have lwv:(w++v).length=w.length+v.length:=dE w v;obtain ⟨L,ps1,h1,d1,N⟩:=mQ S g (AY (w:=w) (v:=v) (by lia) (by lia) pw pv) (by lia);have z1:=d1.dd.len;obtain ⟨n2,ps2,h2,m2,f2,u2,v2,d2,ex2,lv2,T2,k1,k2⟩:=vx 90 d1.dd.sh d1.dd.gd (A.pre d1.dd.pre) N (by lia) (by lia) (by lia) (by lia);have z2:=d2.dd.len;obtain ⟨rfl,rfl⟩:u=u2/\w=v2:=AX (ex.symm.trans ex2) (by lia);have s2:m2.sg=u.length+(w.length+v.length):=by rw [T2.ky.sg,dE,dE]
 have p12:=d1.dd.pre.trans d2.dd.pre;have lm:(bP (w++v) L).sg=w.length+v.length:=dE w v;have tb:∀ q:Int,0<=q->q<=max ma.ht mb.ht->q.toNat<=(max ma.ht mb.ht).toNat:=λq _ _=>by lia
 rcases vA 90 d2.dd.sh d2.dd.gd (B.pre p12) (by lia) (by lia) with ⟨r1,r2,d3⟩ | ⟨r1,n3,ps3,h3,m3,f3,u3,v3,d3,ey3,lu3,T3,r2,r3,r4⟩
 ·have t0:t.length=0:=by lia
  have te:t = "" := cI (by rw [cS] at t0;rw [Oe.mp t0];rfl)
  have rd:u++(w++v)=x++y:=by
   rw [ex,ey,te,dY];congr 2
  rw [rd] at T2;refine ⟨n2,ps2,h2,m2,f2,_,⟨?_,d1.dd.trans d2.dd (by lia),λh4 ps4 S4 g4 p4=>?_⟩,T2,by lia⟩
  ·rw [fP S A.ms B.ms l1 f1 el ef (by lia) d1.ev d2.ev d3.ev];rfl
  ·have q1:=d1.re h4 ps4 S4 g4 (d2.dd.pre.trans p4)
   have q2:=d2.re h4 ps4 S4 g4 p4;have q3:=d3.re h4 ps4 S4 g4 p4;rw [fP S4 (aQ (p12.trans p4) A.ms) (aQ (p12.trans p4) B.ms) l1 f1 (cJ (p12.trans p4) el) (cJ (p12.trans p4) ef) (by lia) q1 q2 q3];rfl
 ·obtain ⟨rfl,rfl⟩:v=u3/\t=v3:=vB (ey.symm.trans ey3) (by lia)
  have z3:=d3.dd.len;have s3:m3.sg=t.length:=T3.ky.sg;have m30:=T3.ky.ht;obtain ⟨n4,ps4,h4,m4,d4,T4,r5,r6⟩:=lE 90 (max ma.ht mb.ht).toNat d3.dd.sh d3.dd.gd (T2.pre d3.dd.pre) T3 (by lia) (by lia) (by lia) (by lia) (by lia);have rd:(u++(w++v))++t=x++y:=by rw [ex,ey,dY,dY,dY]
  rw [rd] at T4;have n3z : ¬ (n3:Int)=0:=by have:=T3.n1;lia
  have p123:=p12.trans d3.dd.pre;refine ⟨n4,ps4,h4,m4,f2,lb,⟨?_,((d1.dd.trans d2.dd (MQ _)).trans d3.dd (MQ _)).trans d4.dd (by lia),λh5 ps5 S5 g5 p5=>?_⟩,T4,by lia⟩
  ·rw [fP S A.ms B.ms l1 f1 el ef (by lia) d1.ev d2.ev d3.ev,MX n3z];exact d4.ev
  ·have p45:=d4.dd.pre.trans p5
   have q1:=d1.re h5 ps5 S5 g5 (d2.dd.pre.trans (d3.dd.pre.trans p45));have q2:=d2.re h5 ps5 S5 g5 (d3.dd.pre.trans p45);have q3:=d3.re h5 ps5 S5 g5 p45;have q4:=d4.re h5 ps5 S5 g5 p5;have pa:=p123.trans p45;rw [fP S5 (aQ pa A.ms) (aQ pa B.ms) l1 f1 (cJ pa el) (cJ pa ef) (by lia) q1 q2 q3,MX n3z];exact q4
def TxZ (ps:List Pc) (n:Nat) (y:Str):Prop:=(n=0/\y = "")\/∃ m f l,Tx ps n m y f l
theorem TxZ.pre {ps ps':List Pc} {n:Nat} {y:Str} (t:TxZ ps n y) (h:ps <+: ps'):TxZ ps' n y:=by
 rcases t with t | ⟨m,f,l,t⟩
 ·exact .inl t
 ·exact .inr ⟨m,f,l,t.pre h⟩
theorem oS (ps:List Pc):(meas ps)[0]? = some ms0:=by
 obtain ⟨r,e,_⟩:=oJ iK ps [ms0];rw [meas,e];rfl
def bu (ps:List Pc) (n:Nat):Int:=((meas ps).getD n ms0).ht
theorem fQ {m:Ms} (e:(meas ps)[n]? = some m):bu ps n=m.ht:=by unfold bu;rw [oM e]
theorem mS (ps:List Pc):bu ps 0 = -1:=fQ (oS ps)
theorem oT {i:Int} (hi:i<=1000000000000000000) (h:AH):mJ [.int i] h = .ok .non h:=by
 have : ¬ (1000000000000000000:Int)<i:=by lia
 simp [mJ,this]
theorem oU (S:ShelfAt h p ps) (eb:(meas ps)[b]? = some mb) (hm:mb.sg<=1000000000000000000):bT [.ref p,.int (0:Nat),.int b] h = .ok (.int b) h:=by
 have e1:=dM S (oS ps);have e2:=dM S eb;have z:ms0.sg=0:=rfl;rw [z] at e1;have e1':e7 [.ref p,.int 0] h = .ok (.int 0) h:=e1
 have ck:=oT (i:=(0:Int)+mb.sg) (by lia) h;have zz:aH (.int 0) (.int 0) h = .ok (.bl true) h:=by simp
 have ad:aG (.int 0) (.int mb.sg) h = .ok (.int (0+mb.sg)) h:=rfl;simp [bT,S.ob,e1',e2,ad,ck,zz,-aH,-aG,-Int.zero_add]
theorem oV (S:ShelfAt h p ps) (a1:1<=a) (ea:(meas ps)[a]? = some ma) (hm:ma.sg<=1000000000000000000):bT [.ref p,.int a,.int (0:Nat)] h = .ok (.int a) h:=by
 have e1:=dM S (oS ps);have e2:=dM S ea;have z:ms0.sg=0:=rfl;rw [z] at e1;have e1':e7 [.ref p,.int 0] h = .ok (.int 0) h:=e1
 have ck:=oT (i:=(ma.sg:Int)+0) (by lia) h;have zz:aH (.int 0) (.int 0) h = .ok (.bl true) h:=by simp
 have z2:aH (.int a) (.int 0) h = .ok (.bl false) h:=by
  have : ¬ a=0:=by lia
  simp [this]
 have ad:aG (.int ma.sg) (.int 0) h = .ok (.int (ma.sg+0)) h:=rfl;simp [bT,S.ob,e1',e2,ad,ck,zz,z2,-aH,-aG,-Int.add_zero]
theorem hU (S:ShelfAt h p ps) (a1:1<=a) (b1:1<=b) (ea:(meas ps)[a]? = some ma) (eb:(meas ps)[b]? = some mb) (el:(meas ps)[ma.ll]? = some la) (ef:(meas ps)[mb.fl]? = some fb) (hm:ma.sg+mb.sg<=1000000000000000000) :
  bT [.ref p,.int a,.int b] h=if 8<la.sg+fb.sg then fN 90 [.ref p,.int a,.int b] h else kg [.ref p,.int a,.int b] h:=by
 have e1:=dM S ea;have e2:=dM S eb;have cl:=Jt S ea eb el ef;have ck:=oT (i:=(ma.sg:Int)+mb.sg) (by lia) h;have z1:aH (.int a) (.int 0) h = .ok (.bl false) h:=by
  have : ¬ a=0:=by lia
  simp [this]
 have z2:aH (.int b) (.int 0) h = .ok (.bl false) h:=by
  have : ¬ b=0:=by lia
  simp [this]
 have ad:aG (.int ma.sg) (.int mb.sg) h = .ok (.int (ma.sg+mb.sg)) h:=rfl;unfold bT;generalize fN 90=LK at *;by_cases q:8<la.sg+fb.sg
 ·rw [MW q]
  generalize hR:LK [.ref p,.int a,.int b] h=R
  simp [S.ob,e1,e2,ad,ck,z1,z2,cl,q,hR,-aH,-aG]
  cases R<;>rfl
 ·rw [MX q]
  generalize hR:kg [.ref p,.int a,.int b] h=R
  simp [S.ob,e1,e2,ad,ck,z1,z2,cl,q,hR,-aH,-aG]
  cases R<;>rfl
theorem TxZ.meas {ps:List Pc} {n:Nat} {y:Str} (t:TxZ ps n y):∃ m,(meas ps)[n]? = some m/\m.sg=y.length:=by
 rcases t with ⟨rfl,rfl⟩ | ⟨m,f,l,T⟩
 ·exact ⟨ms0,oS ps,rfl⟩
 ·exact ⟨m,T.ms,T.ky.sg⟩
theorem vC (S:ShelfAt h p ps) (g:Good ps) (A:TxZ ps a x) (B:TxZ ps b y) (hm:x.length+y.length<=1000000000000000000) (hz:ps.length<15000000) :
  ∃ (n:Nat) (ps':List Pc) (h':AH),Dn (bT [.ref p,.int a,.int b]) p h h' ps ps' (16*(max (bu ps a) (bu ps b)+1).toNat) n/\TxZ ps' n (x++y):=by
 rcases A with ⟨rfl,rfl⟩ | ⟨ma,fa,la,A⟩
 ·obtain ⟨mb,eb,sb⟩:=B.meas
  have em:("" : Str)++y=y:=cI (by rw [dC];rfl)
  have dv:Dn (bT [.ref p,.int (0:Nat),.int b]) p h h ps ps 0 b:=Dn.val S g λhh pp S' _ pr=>oU S' (aQ pr eb) (by rw [sb];lia)
  exact ⟨b,ps,h,dv.as S g (λ_ _ _ _ _=>rfl) (Nj _),by rw [em];exact B⟩
 ·rcases B with ⟨rfl,rfl⟩ | ⟨mb,fb,lb,B⟩
  ·have em:x++("" : Str)=x:=cI (by rw [dC];simp;rfl)
   have dv:Dn (bT [.ref p,.int a,.int (0:Nat)]) p h h ps ps 0 a:=Dn.val S g λhh pp S' _ pr=>oV S' A.n1 (aQ pr A.ms) A.ky.most
   exact ⟨a,ps,h,dv.as S g (λ_ _ _ _ _=>rfl) (Nj _),by rw [em];exact .inr ⟨_,_,_,A⟩⟩
  ·have sa:=A.ky.sg
   have sb:=B.ky.sg;have a0:=A.ky.ht;have b0:=B.ky.ht;have ha:=c6 g A;have hb:=c6 g B;rw [fQ A.ms,fQ B.ms];by_cases q:8<la.sg+fb.sg
   ·obtain ⟨n,ps',h',m,d,T,_⟩:=lE 90 (max ma.ht mb.ht).toNat S g A B q (by lia) (by lia) (by lia) (by lia)
    exact ⟨n,ps',h',d.as S g (λhh pp S' _ pr=>by rw [hU S' A.n1 B.n1 (aQ pr A.ms) (aQ pr B.ms) (aQ pr A.ky.ll) (aQ pr B.ky.fl) (by lia),MW q]) (by lia),.inr ⟨_,_,_,T⟩⟩
   ·obtain ⟨n,ps',h',m,f,l,d,T,_⟩:=AZ S g A B q (by lia) hz
    exact ⟨n,ps',h',d.as S g (λhh pp S' _ pr=>by rw [hU S' A.n1 B.n1 (aQ pr A.ms) (aQ pr B.ms) (aQ pr A.ky.ll) (aQ pr B.ky.fl) (by lia),MX q]) (by lia),.inr ⟨_,_,_,T⟩⟩
theorem Jv (be:b<=e):(b9 y (some (b:Int)) (some (e:Int))).cps.toList=(y.cps.toList.drop b).take (e-b):=by
 unfold b9;rw [HT.sIx_nat,HT.sIx_nat];generalize y.cps.toList=l
 show (l.drop (min b l.length)).take (min e l.length-min b l.length)=_
 apply List.ext_getElem?
 intro i;rw [OK,OK,O8,O8];by_cases q:b<=l.length
 ·rw [OM q]
  by_cases c1:i<e-b
  ·rw [MW c1]
   by_cases c2:i<min e l.length-b
   ·rw [MW c2]
   ·rw [MX c2,Ox (by lia)]
  ·rw [MX c1,MX (by lia)]
 ·rw [MX (by lia),Ox (l:=l) (i:=b+i) (by lia)]
  split<;>rfl
def fR:List Str->Str
 | [] => ""
 | w::ws=>w++fR ws
theorem vD:∀ as bs:List Str,fR (as++bs)=fR as++fR bs
 | [],bs=>(cI (by rw [dC];rfl):fR bs=("" : Str)++fR bs)
 | w::as,bs=>by
  show w++fR (as++bs)=(w++fR as)++fR bs
  rw [vD as bs,dY]
theorem A0 (w:Str):fR [w]=w:=cI (by show (w++("" : Str)).cps.toList=_;rw [dC];simp;rfl)
def LS (ps:List Pc) (ns:List Nat) (ws:List Str):Prop:=ns.length=ws.length/\∀ (i n:Nat) (w:Str),ns[i]? = some n->ws[i]? = some w->Tx ps n (bP w n) w (bP w n) (bP w n)
theorem LS.pre {ps ps':List Pc} {ns:List Nat} {ws:List Str} (s:LS ps ns ws) (h:ps <+: ps'):LS ps' ns ws:=⟨s.1,λi n w a b=>(s.2 i n w a b).pre h⟩
theorem LS.take {ps:List Pc} {ns:List Nat} {ws:List Str} (s:LS ps ns ws) (k:Nat):LS ps (ns.take k) (ws.take k):=by
 refine ⟨by simp [s.1],λi n w a b=>?_⟩
 rw [OK] at a b;by_cases q:i<k
 ·rw [MW q] at a b;exact s.2 i n w a b
 ·rw [MX q] at a;cases a
theorem LS.drop {ps:List Pc} {ns:List Nat} {ws:List Str} (s:LS ps ns ws) (k:Nat):LS ps (ns.drop k) (ws.drop k):=by
 refine ⟨by simp [s.1],λi n w a b=>?_⟩
 rw [O8] at a b;exact s.2 _ n w a b
abbrev dw (ns:List Nat):List AV:=ns.map λn:Nat=>AV.int (n:Int)
theorem vE:ik (d+1) [.ref p,.fl (dw [n])] h = .ok (.int n) h:=by
 have ix:au (.fl [.int (n:Int)]) (.int 0) h = .ok (.int n) h:=rfl;simp [ik,uT,ix,-au]
theorem Jw (l:List α) {k:Nat} (hk:k<=l.length):dG l none (some (k:Int))=l.take k:=by
 unfold dG;rw [HT.sIx_nat,HT.sIx_none,OM hk];simp
theorem Jx (l:List α) {k:Nat} (hk:k<=l.length):dG l (some (k:Int)) none=l.drop k:=by
 unfold dG;rw [HT.sIx_nat,HT.sIx_none,OM hk,NG (by simp)]
variable {ns:List Nat}
theorem oW {v1 v2:Int} (S:ShelfAt h p ps) (hl:2<=ns.length) (e1:ik d [.ref p,.fl (dw (ns.take (ns.length / 2)))] h = .ok (.int v1) h1) (e2:ik d [.ref p,.fl (dw (ns.drop (ns.length / 2)))] h1 = .ok (.int v2) h2) :
  ik (d+1) [.ref p,.fl (dw ns)] h=bA [.ref p,.int v1,.int v2] h2:=by
 have hh:ns.length / 2<=ns.length:=Nat.div_le_self _ _;have ln:aW [.fl (dw ns)] h = .ok (.int ns.length) h:=by simp [aW]
 have q:aH (.int ns.length) (.int 1) h = .ok (.bl false) h:=by
  have : ¬ (ns.length:Int)=1:=by lia
  simp [this]
 have dv:cW (.int ns.length) (.int 2) h = .ok (.int (ns.length / 2:Nat)) h:=rfl;have c1:dh (.fl (dw ns)) none (some (ns.length / 2:Nat)) h = .ok (.fl (dw (ns.take (ns.length / 2)))) h:=by
  have:=Jw (dw ns) (k:=ns.length / 2) (by simpa using hh);simp only [dh,this,dw,List.map_take]
 have c2:∀ h,dh (.fl (dw ns)) (some (ns.length / 2:Nat)) none h = .ok (.fl (dw (ns.drop (ns.length / 2)))) h:=λh=>by
  have:=Jx (dw ns) (k:=ns.length / 2) (by simpa using hh);simp only [dh,this,dw,List.map_drop]
 generalize hF:bA [.ref p,.int v1,.int v2] h2=R
 unfold ik uT;generalize dw ns=Z at *;generalize dw (ns.take (ns.length / 2))=Z1 at *;generalize dw (ns.drop (ns.length / 2))=Z2 at *;generalize ((ns.length / 2:Nat):Int)=M at *;generalize (ns.length:Int)=K at *;simp [S.ob,ln,q,dv,c1,c2,e1,e2,hF,-aW,-aH,-cW,-dh]
 cases R<;>rfl
theorem Jy {ha:Nat} (ab:b<=a+1) (h1:a<=2 ^ ha) (h2:hb=0\/2 ^ (hb-1)<b):hb<=ha+1:=by
 rcases h2 with h2 | h2
 ·lia
 ·have:2 ^ (hb-1)<=2 ^ ha:=by lia
  have:=(Nat.pow_le_pow_iff_right (a:=2) (by decide)).mp this;lia
theorem Jz {ha:Nat} (ab:a<=b) (h1:b<=2 ^ hb) (h2:ha=0\/2 ^ (ha-1)<a):ha<=hb:=by
 rcases h2 with h2 | h2
 ·lia
 ·have:2 ^ (ha-1)<2 ^ hb:=by lia
  have:=(Nat.pow_lt_pow_iff_right (a:=2) (by decide)).mp this;lia
theorem JA {k:Nat} (h1:k<=2*b) (h2:2*b<=k+1) (h3:2<=k) (h4:b<=2 ^ hb) (h5:hb=0\/2 ^ (hb-1)<b):k<=2 ^ (hb+1)/\2 ^ (hb+1-1)<k:=by
 rw [Qe,Q5];refine ⟨by lia,?_⟩
 rcases h5 with h5 | h5
 ·subst h5;simp;lia
 ·cases hb with
  | zero=>simp;lia
  | succ n =>
   rw [Q5] at h5;rw [Qe];lia
theorem JB {k:Nat} (h:k<=2 ^ (e+1)):k / 2<=2 ^ e/\k-k / 2<=2 ^ e:=by rw [Qe] at h;lia
theorem vF {p:Nat}:∀ (d e:Nat) {h:AH} {ps:List Pc} {ns:List Nat} {ws:List Str},ShelfAt h p ps->Good ps->LS ps ns ws->1<=ns.length->ns.length<=2 ^ e->e<d->(∀ (i:Nat) (w:Str),ws[i]? = some w->i+1<ws.length->w.length=8)->ps.length+ns.length<16000000->ns.length<=10000 ->
  ∃ (n:Nat) (ps':List Pc) (h':AH) (m f l:Ms) (H:Nat),Dn (ik d [.ref p,.fl (dw ns)]) p h h' ps ps' (ns.length-1) n/\Tx ps' n m (fR ws) f l/\m.ht=H/\ns.length<=2 ^ H/\(H=0\/2 ^ (H-1)<ns.length)/\((∀ w∈ws,w.length=8)->l.sg=8)/\m.sg<=8*ns.length
 | 0,e,h,ps,ns,ws,S,g,LL,h1,h2,h3,h4,h5,h6=>absurd h3 (Oj _)
 | d+1,e,h,ps,ns,ws,S,g,LL,h1,h2,h3,h4,h5,h6=>by
  by_cases q:ns.length=1
  ·obtain ⟨n,rfl⟩:∃ n,ns=[n]:=Qg.mp q
   obtain ⟨w,rfl⟩:∃ w,ws=[w]:=Qg.mp (LL.1.symm.trans q);have T:=LL.2 0 n w rfl rfl;refine ⟨n,ps,h,_,_,_,0,Dn.val S g (λ_ _ _ _ _=>vE),by rw [A0];exact T,rfl,by simp,.inl rfl,λhw=>hw w (by simp),?_⟩
   have:=T.ky.f8;simpa using this
  ·have hh:2<=ns.length:=by lia
   obtain ⟨e',rfl⟩:∃ e',e=e'+1:=by
    cases e with
    | zero=>simp at h2;lia
    | succ e' => exact ⟨e',rfl⟩
   obtain ⟨w1,w2⟩:=JB h2;have lt:(ns.take (ns.length / 2)).length=ns.length / 2:=by rw [NP];lia
   have ld:(ns.drop (ns.length / 2)).length=ns.length-ns.length / 2:=Ou ..;have lw:=LL.1;obtain ⟨n1,ps1,hh1,m1,f1,l1,H1,a1,a3,a4,a5,a6,a7,a8⟩:=vF d e' S g (LL.take (ns.length / 2)) (by lia) (by lia) (by lia) (λi w ew hi=>by
    rw [OK] at ew;split at ew
    ·rw [NP] at hi;exact h4 i w ew (by lia)
    ·cases ew) (by lia) (by lia)
   have a2:=a1.dd;have z1:=a2.len;obtain ⟨n2,ps2,hh2,m2,f2,l2,H2,b1,b3,b4,b5,b6,b7,b8⟩:=vF d e' a2.sh a2.gd ((LL.drop (ns.length / 2)).pre a2.pre) (by lia) (by lia) (by lia) (λi w ew hi=>by
    rw [O8] at ew;rw [Ou] at hi;exact h4 _ w ew (by lia)) (by lia) (by lia)
   have b2:=b1.dd;have z2:=b2.len;rw [lt] at a5 a6 a8;rw [ld] at b5 b6 b8;have g1:=Jy (a:=ns.length / 2) (b:=ns.length-ns.length / 2) (by lia) a5 b6
   have g2:=Jz (a:=ns.length / 2) (b:=ns.length-ns.length / 2) (by lia) b5 a6;have l8:l1.sg=8:=a7 λw hw=>by
    obtain ⟨i,hi,ei⟩:=OA hw;have hi' := hi;rw [NP] at hi';have:(ws.take (ns.length / 2))[i]? = some w:=by rw [M3 hi,ei]
    rw [OK] at this;split at this
    ·exact h4 i w this (by lia)
    ·cases this
   have f1' := b3.ky.f1;obtain ⟨n3,ps3,hh3,d3,T3⟩:=gu b2.sh b2.gd (a3.pre b2.pre) b3 (by lia) (by lia) (by lia) (by lia) (by lia);have rd:fR (ws.take (ns.length / 2))++fR (ws.drop (ns.length / 2))=fR ws:=by rw [<- vD,List.take_append_drop]
   rw [rd] at T3;obtain ⟨y1,y2⟩:=JA (k:=ns.length) (b:=ns.length-ns.length / 2) (by lia) (by lia) hh b5 b6
   refine ⟨n3,ps3,hh3,_,f1,l2,H2+1,⟨(oW S hh a1.ev b1.ev).trans d3.ev,(a2.trans b2 (MQ _)).trans d3.dd (by lia),λh9 ps9 S9 g9 p9=>(oW S9 hh (a1.re h9 ps9 S9 g9 (b2.pre.trans (d3.dd.pre.trans p9))) (b1.re h9 ps9 S9 g9 (d3.dd.pre.trans p9))).trans (d3.re h9 ps9 S9 g9 p9)⟩,T3,by rw [bV,a4,b4];lia,y1,.inr y2,λhw=>b7 λw hm=>hw w (OX hm),by rw [gw];lia⟩
def fS (x:Str) (k:Nat):Str:=b9 x (some ((8*k:Nat):Int)) (some ((8*k+8:Nat):Int))
theorem vG (x:Str) (k:Nat):(fS x k).cps.toList=(x.cps.toList.drop (8*k)).take 8:=by
 unfold fS;rw [Jv (by lia),show 8*k+8-8*k=8 by lia]
theorem vH (x:Str) (k:Nat):(fS x k).length=min 8 (x.length-8*k):=by
 rw [cS,vG,NP,Ou,<- cS]
theorem A3 (px:bS x=true) (k:Nat):bS (fS x k)=true:=by
 unfold bS at *
 rw [vG,NF];rw [NF] at px;exact λc hc=>px c (OX (Pl hc))
theorem A4 (x:Str):∀ j,(fR ((List.range j).map (fS x))).cps.toList=x.cps.toList.take (8*j)
 | 0=>rfl
 | j+1=>by
  rw [List.range_succ,NZ,vD,dC,A4 x j];show _++(fR [fS x j]).cps.toList=_
  rw [A0,vG,show 8*(j+1)=8*j+8 by lia,List.take_add]
theorem vI {f:Nat->α} {w:α} (e:((List.range N).map f)[i]? = some w):i<N/\w=f i:=by
 rw [Nu] at e;obtain ⟨j,ej,ew⟩:=Nc.mp e
 have h1:=(MP.mp ej).1;rw [OS] at h1;rw [O3 h1] at ej
 cases ej
 exact ⟨h1,ew.symm⟩
theorem LS.snoc {ws:List Str} (s:LS ps ns ws) (h:ps <+: ps') (T:Tx ps' n (bP w n) w (bP w n) (bP w n)):LS ps' (ns++[n]) (ws++[w]):=by
 have l:=s.1;refine ⟨by simp [s.1],λi a b ea eb=>?_⟩
 by_cases q:i<ns.length
 ·rw [MT q] at ea
  rw [MT (by lia)] at eb;exact (s.2 i a b ea eb).pre h
 ·have h1:=(MP.mp ea).1
  have hi:i=ns.length:=by simp at h1;lia
  subst hi;rw [Nk (by lia)] at ea eb
  simp at ea
  rw [show ns.length-ws.length=0 by lia] at eb;simp at eb
  subst ea eb
  exact T
theorem JC (S:ShelfAt h p ps) (g:Good ps) (px:bS x=true) (N:Nat) (hN:8*N<x.length+8) (hx:x.length<=10000) (hz:ps.length+N<16000000) (all:List AV) (js:List Nat) (en:En) (hj:js.map (λj=>(en[j]?).join)=[some (.ref p),some (.str x)]) :
  ∃ (ns:List Nat) (ps':List Pc) (h':AH),eh js en none all cw (aD 0 c5 (ae 1) (aj (bR (ae 2) (some (ae 0)) (some (ah aG (ae 0) (af (.int 8))))) ag)) ((List.range N).map λm:Nat=>AV.int (0+(m:Int)*8)) [] h = .ok (dw ns) h'/\Dd p h h' ps ps' N/\LS ps' ns ((List.range N).map (fS x)):=by
 obtain ⟨zs,h',c1,ns,ps',e1,D,LL⟩:=Aq (js:=js) (en:=en) (all:=all) (e:=aD 0 c5 (ae 1) (aj (bR (ae 2) (some (ae 0)) (some (ah aG (ae 0) (af (.int 8))))) ag)) (xs:=(List.range N).map λm:Nat=>AV.int (0+(m:Int)*8)) (h:=h)
  (λj ys h' => ∃ (ns:List Nat) (ps':List Pc),ys=dw ns/\Dd p h h' ps ps' j/\LS ps' ns ((List.range j).map (fS x))) ⟨[],ps,rfl,Dd.refl S g,rfl,λi n w a _=>by simp at a⟩ (by
   rintro j v ys h' hv ⟨ns,ps',rfl,D,LL⟩
   obtain ⟨jN,rfl⟩:=vI hv;have z:=D.len;have lc:=vH x j;have sc:fg (fS x j)=true:=by
    unfold fg;rw [A3 px j,lc];simp;lia
   obtain ⟨n,ps2,h2,d2,T⟩:=mQ D.sh D.gd sc (by lia);have i1:(0:Int)+(j:Int)*8=((8*j:Nat):Int):=by lia
   have i2:((8*j:Nat):Int)+8=((8*j+8:Nat):Int):=by lia
   have ct:dh (.str x) (some ((8*j:Nat):Int)) (some ((8*j+8:Nat):Int)) h' = .ok (.str (fS x j)) h' := rfl;have ev:=d2.ev;rw [hj];have e:aD 0 c5 (ae 1) (aj (bR (ae 2) (some (ae 0)) (some (ah aG (ae 0) (af (.int 8))))) ag) [some (.int (0+(j:Int)*8)),some (.ref p),some (.str x)] h' = .ok (.int n) h2:=by
    rw [i1];have ad:aG (.int ((8*j:Nat):Int)) (.int 8) h' = .ok (.int ((8*j+8:Nat):Int)) h' := by rw [<- i2];rfl
    generalize ((8*j:Nat):Int)=B1 at *;generalize ((8*j+8:Nat):Int)=B2 at *;simp [D.sh.ob,ad,ct,ev,-aG,-dh]
   rw [e];refine ⟨ns++[n],ps2,by simp [dw],D.trans d2.dd (by lia),?_⟩
   rw [List.range_succ,NZ];exact LL.snoc d2.dd.pre T) (by simp;exact MV (show N<=10000 by lia) (by decide))
 rw [M0,OS] at D LL;exact ⟨ns,ps',h',by rw [c1,e1],D,LL⟩
theorem JD {ws:List Str} (LL:LS ps ns ws) (g:Good ps) (a:ns[i]? = some n) (b:ws[i]? = some w):1<=n/\ps[n-1]? = some (.leaf w):=by
 have T:=LL.2 i n w a b;refine ⟨T.n1,?_⟩
 rcases g.kind T with k | ⟨a,b,ma,mb,y,z,fa,la,fb,lb,k1,k2,k3,A,B,k6,k7,k8⟩
 ·exact k.1
 ·have h1:=congrArg Ms.ht k7
  rw [bV] at h1;have h2:(bP w n).ht=0:=rfl
  have:=A.ky.ht;lia
theorem JE (S:ShelfAt h p ps) (g:Good ps) (px:bS x=true) (hN:8*N<x.length+8) (hx:x.length<=10000) (LL:LS ps ns ((List.range N).map (fS x))) (all:List AV) (js:List Nat) (en:En) (hj:js.map (λj=>(en[j]?).join)=[some (.ref p),some (.str x)]) :
  eh js en none all cw (aD 0 c5 (ae 1) (aj (bR (ae 2) (some (ae 0)) (some (ah aG (ae 0) (af (.int 8))))) ag)) ((List.range N).map λm:Nat=>AV.int (0+(m:Int)*8)) [] h = .ok (dw ns) h:=by
 have ln:ns.length=N:=by rw [LL.1];simp
 obtain ⟨zs,h',c1,rfl,e1⟩:=Aq (js:=js) (en:=en) (all:=all) (e:=aD 0 c5 (ae 1) (aj (bR (ae 2) (some (ae 0)) (some (ah aG (ae 0) (af (.int 8))))) ag)) (xs:=(List.range N).map λm:Nat=>AV.int (0+(m:Int)*8)) (h:=h)
  (λj ys h' => h'=h/\ys=dw (ns.take j)) ⟨rfl,rfl⟩ (by
   rintro j v ys h' hv ⟨rfl,rfl⟩
   obtain ⟨jN,rfl⟩:=vI hv;have lc:=vH x j;have sc:fg (fS x j)=true:=by
    unfold fg;rw [A3 px j,lc];simp;lia
   have en':ns[j]? = some (ns[j]'(by lia)):=M3 (by lia);have ew:((List.range N).map (fS x))[j]? = some (fS x j):=by
    rw [Nu,O3 jN];rfl
   obtain ⟨n1,ep⟩:=JD LL g en' ew;generalize ns[j]'(by lia)=n at *;have ev:c5 [.ref p,.str (fS x j)] h' = .ok (.int n) h' := by
    have:=rD S g.nodup sc (by rw [lc];exact MV (OL _ _) (by decide)) ep
    rwa [show n-1+1=n by lia] at this
   have i1:(0:Int)+(j:Int)*8=((8*j:Nat):Int):=by lia
   have i2:((8*j:Nat):Int)+8=((8*j+8:Nat):Int):=by lia
   have ct:dh (.str x) (some ((8*j:Nat):Int)) (some ((8*j+8:Nat):Int)) h' = .ok (.str (fS x j)) h' := rfl;rw [hj];have e:aD 0 c5 (ae 1) (aj (bR (ae 2) (some (ae 0)) (some (ah aG (ae 0) (af (.int 8))))) ag) [some (.int (0+(j:Int)*8)),some (.ref p),some (.str x)] h' = .ok (.int n) h' := by
    rw [i1];have ad:aG (.int ((8*j:Nat):Int)) (.int 8) h' = .ok (.int ((8*j+8:Nat):Int)) h' := by rw [<- i2];rfl
    have ob:=S.ob;generalize ((8*j:Nat):Int)=B1 at *;generalize ((8*j+8:Nat):Int)=B2 at *;simp [ob,ad,ct,ev,-aG,-dh]
   rw [e];refine ⟨rfl,?_⟩
   show dw (ns.take j)++[AV.int n]=dw (ns.take (j+1))
   rw [List.take_add_one,en'];simp [dw]) (by simp;exact MV (show N<=10000 by lia) (by decide))
 rw [M0,OS,<- ln,List.take_length] at e1;rw [c1,e1]
theorem A5 (px:bS x=true) (hx:x.length<=10000) (q : ¬ x.length=0) (eN:N=(x.length-1) / 8+1) (e1:eh [0,1] [some (.ref p),some (.str x),none] none ((List.range N).map λm:Nat=>AV.int (0+(m:Int)*8)) cw (aD 0 c5 (ae 1) (aj (bR (ae 2) (some (ae 0)) (some (ah aG (ae 0) (af (.int 8))))) ag)) ((List.range N).map λm:Nat=>AV.int (0+(m:Int)*8)) [] hh = .ok (dw ns) h1) (b1:ik 20 [.ref p,.fl (dw ns)] h1 = .ok (.int n) h2):iI [.ref p,.str x] hh = .ok (.int n) h2:=by
 have sl:x.length<=sizeLine:=MV hx (by decide);have fp:=uZ x hh sl;rw [px] at fp;have c1 : ¬ (10000:Int)<x.length:=by lia
 have ir:jD (af (.int 0)) (aC aW (aj (ae 1) ag)) (af (.int 8)) [some (.ref p),some (.str x),none] hh = .ok ((List.range N).map (λm:Nat=>AV.int (0+(m:Int)*8)),none) hh:=by
  have r1:((if (0:Int)<x.length then ((x.length:Int)-0-1) / 8+1 else 0:Int)).toNat=N:=by
   rw [MW (by lia)];lia
  have r2:(0:Int).natAbs<2 ^ 40/\(x.length:Int).natAbs<2 ^ 40/\(0:Int)<8/\(8:Int)<2 ^ 20:=⟨by decide,by lia,by decide,by decide⟩
  show (if _ then _ else _)=_
  rw [MW r2,r1]
 have cp:fE [0,1] (jD (af (.int 0)) (aC aW (aj (ae 1) ag)) (af (.int 8))) cw (aD 0 c5 (ae 1) (aj (bR (ae 2) (some (ae 0)) (some (ah aG (ae 0) (af (.int 8))))) ag)) [some (.ref p),some (.str x),none] hh = .ok (.fl (dw ns)) h1:=by
  simp only [fE,ir,e1]
 have ne:aH (.str x) (.str "") hh = .ok (.bl false) hh:=by
  have : ¬ x=Str.ofString "" := λz=>q (by rw [z];rfl)
  simp [this]
 unfold iI;generalize fE [0,1] (jD (af (.int 0)) (aC aW (aj (ae 1) ag)) (af (.int 8))) cw (aD 0 c5 (ae 1) (aj (bR (ae 2) (some (ae 0)) (some (ah aG (ae 0) (af (.int 8))))) ag))=CP at *;generalize ik 20=HV at *;simp [fp,c1,ne,cp,b1,-aH]
theorem A6 (S:ShelfAt h p ps) (g:Good ps) (px:bS x=true) (hx:x.length<=10000) (hz:ps.length+2*x.length<16000000) :
  ∃ (n:Nat) (ps':List Pc) (h':AH),Dn (iI [.ref p,.str x]) p h h' ps ps' (2*x.length) n/\TxZ ps' n x:=by
 by_cases q:x.length=0
 ·have xe:x = "" := cI (by rw [cS] at q;rw [Oe.mp q];rfl)
  subst xe;refine ⟨0,ps,h,Dn.val S g (λhh _ _ _ _=>?_),.inl ⟨rfl,rfl⟩⟩
  have fp:=uZ "" hh (by decide);rw [px] at fp;have c1 : ¬ (10000:Int)<(Str.ofString "").length:=by lia
  simp [iI,fp,c1]
 ·obtain ⟨N,eN⟩:∃ N,N=(x.length-1) / 8+1:=⟨_,rfl⟩
  obtain ⟨ns,ps1,h1,e1,D1,LL⟩:=JC S g px N (by lia) hx (by lia) ((List.range N).map λm:Nat=>AV.int (0+(m:Int)*8)) [0,1] [some (.ref p),some (.str x),none] rfl;have z1:=D1.len;have ln:ns.length=N:=by rw [LL.1];simp
  obtain ⟨n,ps2,h2,m,f,l,H,b1,b3,_⟩:=vF (p:=p) 20 11 D1.sh D1.gd LL (by lia) (by rw [ln];have:(2:Nat) ^ 11=2048:=rfl;lia) (by decide) (λi w ew hi=>by
   obtain ⟨iN,rfl⟩:=vI ew;rw [M0,OS] at hi;rw [vH];lia) (by lia) (by lia)
  have rd:fR ((List.range N).map (fS x))=x:=cI (by rw [A4,NG (by rw [<- cS];lia)])
  rw [rd] at b3;refine ⟨n,ps2,h2,⟨A5 px hx q eN e1 b1.ev,D1.trans b1.dd (by lia),λh9 ps9 S9 g9 p9=>?_⟩,.inr ⟨_,_,_,b3⟩⟩
  exact A5 px hx q eN (JE S9 g9 px (by lia) hx (LL.pre (b1.dd.pre.trans p9)) _ _ _ rfl) (b1.re h9 ps9 S9 g9 p9)
theorem vJ (S:ShelfAt h p ps) (g:Good ps) (A:TxZ ps a x) (B:TxZ ps b y) (hm:x.length+y.length<=1000000000000000000) (hz:ps.length<15000000) :
  ∃ (n:Nat) (ps':List Pc) (h':AH),Dn (bT [.ref p,.int a,.int b]) p h h' ps ps' (16*(max (bu ps a) (bu ps b)+1).toNat) n/\TxZ ps' n (x++y)/\bu ps' n<=max (bu ps a) (bu ps b)+1:=by
 rcases A with ⟨rfl,rfl⟩ | ⟨ma,fa,la,A⟩
 ·obtain ⟨mb,eb,sb⟩:=B.meas
  have em:("" : Str)++y=y:=cI (by rw [dC];rfl)
  have dv:Dn (bT [.ref p,.int (0:Nat),.int b]) p h h ps ps 0 b:=Dn.val S g λhh pp S' _ pr=>oU S' (aQ pr eb) (by rw [sb];lia)
  exact ⟨b,ps,h,dv.as S g (λ_ _ _ _ _=>rfl) (Nj _),by rw [em];exact B,by lia⟩
 ·rcases B with ⟨rfl,rfl⟩ | ⟨mb,fb,lb,B⟩
  ·have em:x++("" : Str)=x:=cI (by rw [dC];simp;rfl)
   have dv:Dn (bT [.ref p,.int a,.int (0:Nat)]) p h h ps ps 0 a:=Dn.val S g λhh pp S' _ pr=>oV S' A.n1 (aQ pr A.ms) A.ky.most
   exact ⟨a,ps,h,dv.as S g (λ_ _ _ _ _=>rfl) (Nj _),by rw [em];exact .inr ⟨_,_,_,A⟩,by lia⟩
  ·have sa:=A.ky.sg
   have sb:=B.ky.sg;have a0:=A.ky.ht;have b0:=B.ky.ht;have ha:=c6 g A;have hb:=c6 g B;rw [fQ A.ms,fQ B.ms];by_cases q:8<la.sg+fb.sg
   ·obtain ⟨n,ps',h',m,d,T,_,hu⟩:=lE 90 (max ma.ht mb.ht).toNat S g A B q (by lia) (by lia) (by lia) (by lia)
    exact ⟨n,ps',h',d.as S g (λhh pp S' _ pr=>by rw [hU S' A.n1 B.n1 (aQ pr A.ms) (aQ pr B.ms) (aQ pr A.ky.ll) (aQ pr B.ky.fl) (by lia),MW q]) (by lia),.inr ⟨_,_,_,T⟩,by rw [fQ T.ms];exact hu⟩
   ·obtain ⟨n,ps',h',m,f,l,d,T,hu⟩:=AZ S g A B q (by lia) hz
    exact ⟨n,ps',h',d.as S g (λhh pp S' _ pr=>by rw [hU S' A.n1 B.n1 (aQ pr A.ms) (aQ pr B.ms) (aQ pr A.ky.ll) (aQ pr B.ky.fl) (by lia),MX q]) (by lia),.inr ⟨_,_,_,T⟩,by rw [fQ T.ms];exact hu⟩
def cq (x:Str) (a:Nat):Str:=⟨(x.cps.toList.take a).toArray⟩
def dO (x:Str) (a:Nat):Str:=⟨(x.cps.toList.drop a).toArray⟩
theorem jP (x:Str) (a:Nat):(cq x a).cps.toList=x.cps.toList.take a:=rfl
theorem ki (x:Str) (a:Nat):(dO x a).cps.toList=x.cps.toList.drop a:=rfl
theorem rP (h:a<=x.length):(cq x a).length=a:=by
 rw [cS] at *
 rw [jP,NP];lia
theorem mT (x:Str) (a:Nat):(dO x a).length=x.length-a:=by
 rw [cS,cS x,ki,Ou]
theorem oX (x:Str):cq x 0 = "" := cI rfl
theorem oY (x:Str):dO x 0=x:=cI rfl
theorem JF (h:x.length<=a):cq x a=x:=cI (by rw [jP,NG (by rw [<- cS];exact h)])
theorem JG (h:x.length<=a):dO x a = "" := cI (by rw [ki,NW (by rw [<- cS];exact h)];rfl)
theorem vK (h:a<=x.length):cq (x++y) a=cq x a:=cI (by rw [jP,dC,jP,Pm (by rw [<- cS];exact h)])
theorem vL (h:x.length<=a):cq (x++y) a=x++cq y (a-x.length):=cI (by
 rw [jP,dC,dC,jP,List.take_append,NG (by rw [<- cS];exact h),<- cS])
theorem vM (h:a<=x.length):dO (x++y) a=dO x a++y:=cI (by rw [ki,dC,dC,ki,List.drop_append_of_le_length (by rw [<- cS];exact h)])
theorem vN (h:x.length<=a):dO (x++y) a=dO y (a-x.length):=cI (by
 rw [ki,dC,ki,List.drop_append,NW (by rw [<- cS];exact h),<- cS];rfl)
theorem JH (h:bS x=true) (a:Nat):bS (cq x a)=true:=by
 unfold bS at *
 rw [jP,NF];rw [NF] at h;exact λc hc=>h c (Pl hc)
theorem JI (h:bS x=true) (a:Nat):bS (dO x a)=true:=by
 unfold bS at *
 rw [ki,NF];rw [NF] at h;exact λc hc=>h c (OX hc)
theorem A7 (h:AH):dh (.str x) none (some (a:Int)) h = .ok (.str (cq x a)) h:=by
 have:b9 x none (some (a:Int))=cq x a:=cI (by
  unfold b9;rw [HT.sIx_nat,HT.sIx_none,jP];show (x.cps.toList.drop 0).take (min a x.cps.toList.length-0)=_
  rw [QD,Nat.sub_zero];by_cases q:a<=x.cps.toList.length
  ·rw [OM q]
  ·rw [Nat.min_eq_right (by lia),List.take_length,NG (by lia)])
 simp only [dh,this]
theorem A8 (ha:a<=x.length) (h:AH):dh (.str x) (some (a:Int)) none h = .ok (.str (dO x a)) h:=by
 have:b9 x (some (a:Int)) none=dO x a:=cI (by
  unfold b9;rw [HT.sIx_nat,HT.sIx_none,ki];rw [cS] at ha;rw [OM ha];show (x.cps.toList.drop a).take (x.cps.toList.length-a)=_
  rw [NG (by rw [Ou];exact MQ _)])
 simp only [dh,this]
theorem rQ (z:Str) (n:Nat):(bE z n).cps.toList=(List.replicate n z.cps.toList).flatten:=rfl
theorem rR (z:Str) (a b:Nat):bE z a++bE z b=bE z (a+b):=cI (by rw [dC,rQ,rQ,rQ,<- List.flatten_append,List.replicate_append_replicate])
theorem vO (z:Str):bE z 1=z:=cI (by rw [rQ];simp)
theorem vP (z:Str):bE z 0 = "" := cI rfl
theorem rS (z:Str):∀ n,(bE z n).length=z.length*n
 | 0=>by rw [vP];rfl
 | n+1=>by rw [<- rR,dE,rS z n,vO,Nat.mul_succ]
theorem vQ:∀ n,bE "" n = ""
 | 0=>vP _
 | n+1=>by
  rw [<- rR,vQ n,vO];exact cI (by rw [dC];rfl)
theorem vR:fO (d+1) [.ref p,.int n,.int (0:Nat)] h = .ok (.int (0:Nat)) h:=by
 have z:aH (.int 0) (.int 0) h = .ok (.bl true) h:=by simp
 simp [fO,rk,z,-aH]
theorem vS {k:Nat} {a:Int} (hk : ¬ k=0) (hp:k % 2=0) (e1:fO d [.ref p,.int n,.int (k / 2:Nat)] h = .ok (.int a) h1):fO (d+1) [.ref p,.int n,.int k] h=bT [.ref p,.int a,.int a] h1:=by
 have z:aH (.int k) (.int 0) h = .ok (.bl false) h:=by simp [hk]
 have dv:cW (.int k) (.int 2) h = .ok (.int (k / 2:Nat)) h:=rfl;have md:∀ h,bW (.int k) (.int 2) h = .ok (.int 0) h:=λh=>by
  have:(k:Int) % 2=0:=by lia
  show Out.ok (AV.int ((k:Int) % 2)) h=_
  rw [this]
 have z2:∀ h,aH (.int 0) (.int 0) h = .ok (.bl true) h:=λh=>by simp
 unfold fO rk;generalize hF:bT [.ref p,.int a,.int a] h1=R
 generalize ((k / 2:Nat):Int)=K2 at *;generalize fO d=G at *;simp [z,dv,e1,hF,-aH,-cW,-bW]
 cases R with
 | ok v h2=>simp [md,z2,-aH,-bW]
 | ex c h2=>rfl
 | bad=>rfl
theorem vT {k:Nat} {a:Int} (hk : ¬ k=0) (hp : ¬ k % 2=0) (e1:fO d [.ref p,.int n,.int (k / 2:Nat)] h = .ok (.int a) h1):fO (d+1) [.ref p,.int n,.int k] h=(bT [.ref p,.int a,.int a] h1).bind λv h2=>bT [.ref p,v,.int n] h2:=by
 have z:aH (.int k) (.int 0) h = .ok (.bl false) h:=by simp [hk]
 have dv:cW (.int k) (.int 2) h = .ok (.int (k / 2:Nat)) h:=rfl;have md:∀ h,bW (.int k) (.int 2) h = .ok (.int 1) h:=λh=>by
  have:(k:Int) % 2=1:=by lia
  show Out.ok (AV.int ((k:Int) % 2)) h=_
  rw [this]
 have z2:∀ h,aH (.int 1) (.int 0) h = .ok (.bl false) h:=λh=>by simp
 unfold fO rk;generalize hF:bT [.ref p,.int a,.int a] h1=R
 generalize ((k / 2:Nat):Int)=K2 at *;generalize fO d=G at *;simp [z,dv,e1,hF,-aH,-cW,-bW]
 cases R with
 | ok v h2 =>
  simp [md,z2,-aH,-bW]
  cases bT [.ref p,v,.int n] h2<;>rfl
 | ex c h2=>rfl
 | bad=>rfl
theorem vU (g:Good ps) (A:TxZ ps a x) (B:TxZ ps b y):16*(max (bu ps a) (bu ps b)+1).toNat<=1400:=by
 have key:∀ {n:Nat} {y:Str},TxZ ps n y->bu ps n<=82:=λ{n y} t=>by
  rcases t with ⟨rfl,rfl⟩ | ⟨m,f,l,T⟩
  ·rw [mS];lia
  ·rw [fQ T.ms];exact c6 g T
 have:=key A;have:=key B;lia
theorem A9 {p:Nat}:∀ (d e:Nat) {h:AH} {ps:List Pc} {n k:Nat} {x:Str},ShelfAt h p ps->Good ps->TxZ ps n x->k<2 ^ e->e<d->x.length*k<=1000000000000000000->ps.length+2800*e<15000000 ->
  ∃ (m:Nat) (ps':List Pc) (h':AH),Dn (fO d [.ref p,.int n,.int k]) p h h' ps ps' (2800*e) m/\TxZ ps' m (bE x k)
 | 0,e,h,ps,n,k,x,S,g,T,hk,hd,hm,hz=>absurd hd (Oj _)
 | d+1,e,h,ps,n,k,x,S,g,T,hk,hd,hm,hz=>by
  by_cases k0:k=0
  ·subst k0
   have dv:Dn (fO (d+1) [.ref p,.int n,.int (0:Nat)]) p h h ps ps 0 0:=Dn.val S g λhh pp S' _ pr=>vR
   exact ⟨0,ps,h,dv.as S g (λ_ _ _ _ _=>rfl) (Nj _),.inl ⟨rfl,vP x⟩⟩
  ·obtain ⟨e',rfl⟩:∃ e',e=e'+1:=by
    cases e with
    | zero=>simp at hk;lia
    | succ e' => exact ⟨e',rfl⟩
   rw [Qe] at hk;have kk:x.length*(k / 2)+x.length*(k / 2)+x.length*(k % 2)=x.length*k:=by
    rw [<- Rp,<- Rp];congr 1
    lia
   obtain ⟨a,ps1,h1,d1,T1⟩:=A9 d e' (k:=k / 2) S g T (by lia) (by lia) (by lia) (by lia);have z1:=d1.dd.len;have l1:=rS x (k / 2);obtain ⟨b,ps2,h2,d2,T2⟩:=vC d1.dd.sh d1.dd.gd T1 T1 (by lia) (by lia);have w2:=vU d1.dd.gd T1 T1;have z2:=d2.dd.len;rw [rR] at T2;by_cases hp:k % 2=0
   ·have ek:k / 2+k / 2=k:=by lia
    rw [ek] at T2;exact ⟨b,ps2,h2,Dn.seq' S g d1 d2 (λhh hh1 pp S' _ pr ev=>vS k0 hp ev) (by lia),T2⟩
   ·have l2:=rS x (k / 2+k / 2)
    rw [Rp] at l2;have km:x.length*(k % 2)=x.length:=by rw [show k % 2=1 by lia,Nat.mul_one]
    have p12:=d1.dd.pre.trans d2.dd.pre;obtain ⟨c,ps3,h3,d3,T3⟩:=vC d2.dd.sh d2.dd.gd T2 (T.pre p12) (by lia) (by lia);have w3:=vU d2.dd.gd T2 (T.pre p12);have ek:bE x (k / 2+k / 2)++x=bE x k:=by
     conv=>lhs;rhs;rw [<- vO x]
     rw [rR];congr 1
     lia
    rw [ek] at T3;have d23:=Dn.seq (F:=λhh=>(bT [.ref p,.int a,.int a] hh).bind λv h2=>bT [.ref p,v,.int n] h2) (F2:=λv h2=>bT [.ref p,v,.int n] h2) d1.dd.sh d1.dd.gd d2 d3 (λ_ _ _ _ _=>rfl) (k:=2800) (by lia)
    exact ⟨c,ps3,h3,Dn.seq' S g d1 d23 (λhh hh1 pp S' _ pr ev=>vT k0 hp ev) (by lia),T3⟩
theorem vV {k:Nat} {m:Ms} (S:ShelfAt h p ps) (em:(meas ps)[n]? = some m) (hk:k<2 ^ 63) (hm:m.sg*k<=1000000000000000000):hE [.ref p,.int n,.int k] h=if n=0 then .ok (.int (0:Nat)) h else fO 64 [.ref p,.int n,.int k] h:=by
 have fs:=dM S em;have lt:fo (.int k) (.int 0) h = .ok (.bl false) h:=by
  have : ¬ (k:Int)<0:=by lia
  simp only [fo,this,decide_false]
 have ml:bN (.int m.sg) (.int k) h = .ok (.int ((m.sg*k:Nat):Int)) h:=by
  have h2:(k:Int).natAbs<2 ^ 64:=by
   have:(2:Nat) ^ 63<2 ^ 64:=by decide
   lia
  rw [Au h2];congr 2
 have ck:=oT (i:=((m.sg*k:Nat):Int)) (by lia) h;unfold hE;generalize fO 64=G at *;generalize ((m.sg*k:Nat):Int)=MK at *;by_cases z:n=0
 ·subst z
  have z0:aH (.int 0) (.int 0) h = .ok (.bl true) h:=by simp
  have fs':e7 [.ref p,.int 0] h = .ok (.int m.sg) h:=fs;simp [S.ob,fs',lt,ml,ck,z0,-fo,-bN,-aH]
 ·have z0:aH (.int n) (.int 0) h = .ok (.bl false) h:=by simp [z]
  rw [MX z];generalize hR:G [.ref p,.int n,.int k] h=R
  simp [S.ob,fs,lt,ml,ck,z0,hR,-fo,-bN,-aH]
  cases R<;>rfl
theorem JJ {k:Nat} (S:ShelfAt h p ps) (g:Good ps) (T:TxZ ps n x) (hk:k<2 ^ e) (he:e<62) (hm:x.length*k<=1000000000000000000) (hz:ps.length+2800*e<15000000) :
  ∃ (m:Nat) (ps':List Pc) (h':AH),Dn (hE [.ref p,.int n,.int k]) p h h' ps ps' (2800*e) m/\TxZ ps' m (bE x k):=by
 obtain ⟨m,em,sm⟩:=T.meas;have k63:k<2 ^ 63:=Nf hk (QK (by decide) (by lia));by_cases z:n=0
 ·rcases T with ⟨_,rfl⟩ | ⟨_,_,_,T⟩
  ·have dv:Dn (hE [.ref p,.int n,.int k]) p h h ps ps 0 0:=Dn.val S g λhh pp S' _ pr=>by rw [vV S' (aQ pr em) k63 (by rw [sm];exact hm),MW z]
   exact ⟨0,ps,h,dv.as S g (λ_ _ _ _ _=>rfl) (Nj _),.inl ⟨rfl,vQ k⟩⟩
  ·exact absurd T.n1 (by lia)
 ·obtain ⟨c,ps',h',d,T'⟩:=A9 64 e S g T hk (by lia) hm hz
  exact ⟨c,ps',h',d.as S g (λhh pp S' _ pr=>by rw [vV S' (aQ pr em) k63 (by rw [sm];exact hm),MX z]) (MQ _),T'⟩
theorem kj (t:TxZ ps n y) : -1<=bu ps n:=by
 rcases t with ⟨rfl,rfl⟩ | ⟨m,f,l,T⟩
 ·rw [mS];lia
 ·rw [fQ T.ms];have:=T.ky.ht;lia
theorem TxZ.pos (t:TxZ ps n y) (hy:1<=y.length):∃ m f l,Tx ps n m y f l:=by
 rcases t with ⟨rfl,rfl⟩ | t
 ·exact absurd hy (by decide)
 ·exact t
theorem vW:dB (d+1) [.ref p,.int n,.int (0:Nat)] h = .ok (.int (0:Nat)) h:=by
 have z:aH (.int 0) (.int 0) h = .ok (.bl true) h:=by simp
 simp [dB,lr,z,-aH]
theorem JK {m:Ms} (S:ShelfAt h p ps) (em:(meas ps)[n]? = some m) (a0 : ¬ a=0) (ea:a=m.sg):dB (d+1) [.ref p,.int n,.int a] h = .ok (.int n) h:=by
 have z:aH (.int a) (.int 0) h = .ok (.bl false) h:=by simp [a0]
 have fs:=dM S em;rw [<- ea] at fs;have z2:aH (.int a) (.int a) h = .ok (.bl true) h:=by simp
 simp [dB,lr,z,S.ob,fs,z2,-aH]
theorem JL {m:Ms} (S:ShelfAt h p ps) (n1:1<=n) (em:(meas ps)[n]? = some m) (ep:ps[n-1]? = some (.leaf x)) (a0 : ¬ a=0) (ea : ¬ a=m.sg):dB (d+1) [.ref p,.int n,.int a] h=c5 [.ref p,.str (cq x a)] h:=by
 have z:aH (.int a) (.int 0) h = .ok (.bl false) h:=by simp [a0]
 have fs:=dM S em;have z2:aH (.int a) (.int m.sg) h = .ok (.bl false) h:=by
  have : ¬ (a:Int)=m.sg:=by lia
  simp [this]
 have ct:=A7 (x:=x) (a:=a) h;generalize hF:c5 [.ref p,.str (cq x a)] h=R
 simp [dB,lr,z,S.ob,fs,z2,mR S n1 ep,rL,rN,rM,ct,hF,-aH,-au,-dh]
 cases R<;>first | rfl | simp
theorem vX {m:Ms} (S:ShelfAt h p ps) (n1:1<=n) (em:(meas ps)[n]? = some m) (ec:(meas ps)[c]? = some mc) (ep:ps[n-1]? = some (.fork c e)) (a0 : ¬ a=0) (ea : ¬ a=m.sg) (hl:a<=mc.sg):dB (d+1) [.ref p,.int n,.int a] h=dB d [.ref p,.int c,.int a] h:=by
 have z:aH (.int a) (.int 0) h = .ok (.bl false) h:=by simp [a0]
 have fs:=dM S em;have fc:=dM S ec;have z2:aH (.int a) (.int m.sg) h = .ok (.bl false) h:=by
  have : ¬ (a:Int)=m.sg:=by lia
  simp [this]
 have le:bF (.int a) (.int mc.sg) h = .ok (.bl true) h:=by simp [hl]
 show lr (dB d) [.ref p,.int n,.int a] h=dB d [.ref p,.int c,.int a] h
 generalize dB d=G at *;unfold lr
 generalize hF:G [.ref p,.int c,.int a] h=R
 simp [z,S.ob,fs,fc,z2,gx S n1 ep,lF,lG,i1,le,hF,-aH,-au,-bF]
 cases R<;>first | rfl | simp
theorem oZ {m:Ms} (S:ShelfAt h p ps) (n1:1<=n) (em:(meas ps)[n]? = some m) (ec:(meas ps)[c]? = some mc) (ep:ps[n-1]? = some (.fork c e)) (a0 : ¬ a=0) (ea : ¬ a=m.sg) (hl : ¬ a<=mc.sg) (ev:dB d [.ref p,.int e,.int (a-mc.sg:Nat)] h = .ok (.int v) h1) :
  dB (d+1) [.ref p,.int n,.int a] h=bT [.ref p,.int c,.int v] h1:=by
 have z:aH (.int a) (.int 0) h = .ok (.bl false) h:=by simp [a0]
 have fs:=dM S em;have fc:=dM S ec;have z2:aH (.int a) (.int m.sg) h = .ok (.bl false) h:=by
  have : ¬ (a:Int)=m.sg:=by lia
  simp [this]
 have le:bF (.int a) (.int mc.sg) h = .ok (.bl false) h:=by
  simp;lia
 have sb:cg (.int a) (.int mc.sg) h = .ok (.int (a-mc.sg:Nat)) h:=by
  have:(a:Int)-mc.sg=((a-mc.sg:Nat):Int):=by lia
  rw [<- this];rfl
 unfold dB lr;generalize dB d=G at *;generalize ((a-mc.sg:Nat):Int)=AM at *;generalize hF:bT [.ref p,.int c,.int v] h1=R
 simp [z,S.ob,fs,fc,z2,gx S n1 ep,lF,lG,i1,i2,le,sb,ev,hF,-aH,-au,-bF,-cg]
 cases R<;>first | rfl | simp
theorem pd:dq (d+1) [.ref p,.int n,.int (0:Nat)] h = .ok (.int n) h:=by
 have z:aH (.int 0) (.int 0) h = .ok (.bl true) h:=by simp
 simp [dq,lA,z,-aH]
theorem JM {m:Ms} (S:ShelfAt h p ps) (em:(meas ps)[n]? = some m) (a0 : ¬ a=0) (ea:a=m.sg):dq (d+1) [.ref p,.int n,.int a] h = .ok (.int (0:Nat)) h:=by
 have z:aH (.int a) (.int 0) h = .ok (.bl false) h:=by simp [a0]
 have fs:=dM S em;rw [<- ea] at fs;have z2:aH (.int a) (.int a) h = .ok (.bl true) h:=by simp
 simp [dq,lA,z,S.ob,fs,z2,-aH]
theorem JN {m:Ms} (S:ShelfAt h p ps) (n1:1<=n) (em:(meas ps)[n]? = some m) (ep:ps[n-1]? = some (.leaf x)) (ax:a<=x.length) (a0 : ¬ a=0) (ea : ¬ a=m.sg):dq (d+1) [.ref p,.int n,.int a] h=c5 [.ref p,.str (dO x a)] h:=by
 have z:aH (.int a) (.int 0) h = .ok (.bl false) h:=by simp [a0]
 have fs:=dM S em;have z2:aH (.int a) (.int m.sg) h = .ok (.bl false) h:=by
  have : ¬ (a:Int)=m.sg:=by lia
  simp [this]
 have ct:=A8 (x:=x) ax h;generalize hF:c5 [.ref p,.str (dO x a)] h=R
 simp [dq,lA,z,S.ob,fs,z2,mR S n1 ep,rL,rN,rM,ct,hF,-aH,-au,-dh]
 cases R<;>first | rfl | simp
theorem vY {m:Ms} (S:ShelfAt h p ps) (n1:1<=n) (em:(meas ps)[n]? = some m) (ec:(meas ps)[c]? = some mc) (ep:ps[n-1]? = some (.fork c e)) (a0 : ¬ a=0) (ea : ¬ a=m.sg) (hl:mc.sg<=a):dq (d+1) [.ref p,.int n,.int a] h=dq d [.ref p,.int e,.int (a-mc.sg:Nat)] h:=by
 have z:aH (.int a) (.int 0) h = .ok (.bl false) h:=by simp [a0]
 have fs:=dM S em;have fc:=dM S ec;have z2:aH (.int a) (.int m.sg) h = .ok (.bl false) h:=by
  have : ¬ (a:Int)=m.sg:=by lia
  simp [this]
 have le:j0 (.int a) (.int mc.sg) h = .ok (.bl true) h:=by simp [hl]
 have sb:cg (.int a) (.int mc.sg) h = .ok (.int (a-mc.sg:Nat)) h:=by
  have:(a:Int)-mc.sg=((a-mc.sg:Nat):Int):=by lia
  rw [<- this];rfl
 show lA (dq d) [.ref p,.int n,.int a] h=dq d [.ref p,.int e,.int (a-mc.sg:Nat)] h
 generalize dq d=G at *;unfold lA
 generalize ((a-mc.sg:Nat):Int)=AM at *;generalize hF:G [.ref p,.int e,.int AM] h=R
 simp [z,S.ob,fs,fc,z2,gx S n1 ep,lF,lG,i1,i2,le,sb,hF,-aH,-au,-j0,-cg]
 cases R<;>first | rfl | simp
theorem pe {m:Ms} (S:ShelfAt h p ps) (n1:1<=n) (em:(meas ps)[n]? = some m) (ec:(meas ps)[c]? = some mc) (ep:ps[n-1]? = some (.fork c e)) (a0 : ¬ a=0) (ea : ¬ a=m.sg) (hl : ¬ mc.sg<=a) (ev:dq d [.ref p,.int c,.int a] h = .ok (.int v) h1) :
  dq (d+1) [.ref p,.int n,.int a] h=bT [.ref p,.int v,.int e] h1:=by
 have z:aH (.int a) (.int 0) h = .ok (.bl false) h:=by simp [a0]
 have fs:=dM S em;have fc:=dM S ec;have z2:aH (.int a) (.int m.sg) h = .ok (.bl false) h:=by
  have : ¬ (a:Int)=m.sg:=by lia
  simp [this]
 have le:j0 (.int a) (.int mc.sg) h = .ok (.bl false) h:=by
  simp;lia
 unfold dq lA;generalize dq d=G at *;generalize hF:bT [.ref p,.int v,.int e] h1=R
 simp [z,S.ob,fs,fc,z2,gx S n1 ep,lF,lG,i1,i2,le,ev,hF,-aH,-au,-j0]
 cases R<;>first | rfl | simp
theorem mU (g:Good ps) (t:TxZ ps n x) : -1<=bu ps n/\bu ps n<=82:=by
 refine ⟨kj t,?_⟩
 rcases t with ⟨rfl,rfl⟩ | ⟨m,f,l,T⟩
 ·rw [mS];lia
 ·rw [fQ T.ms];exact c6 g T
theorem JO {m:Ms} (S:ShelfAt h p ps) (em:(meas ps)[n]? = some m) (be:b<=e) (hm:e<=m.sg):rn [.ref p,.int n,.int b,.int e] h = .ok .non h:=by
 have fs:=dM S em;have l1:bF (.int 0) (.int b) h = .ok (.bl true) h:=by
  have:(0:Int)<=b:=by lia
  simp only [bF,this,PQ]
 have l2:bF (.int b) (.int e) h = .ok (.bl true) h:=by
  have:(b:Int)<=e:=by lia
  simp only [bF,this,PQ]
 have l3:bF (.int e) (.int m.sg) h = .ok (.bl true) h:=by
  have:(e:Int)<=m.sg:=by lia
  simp only [bF,this,PQ]
 simp [rn,S.ob,fs,l1,l2,l3,-bF]
theorem JP {t:Nat} {m:Ms} (S:ShelfAt h p ps) (em:(meas ps)[n]? = some m) (hm:t<=m.sg):rm [.ref p,.int n,.int t] h = .ok .non h:=by
 have fs:=dM S em;have l1:bF (.int 0) (.int t) h = .ok (.bl true) h:=by
  have:(0:Int)<=t:=by lia
  simp only [bF,this,PQ]
 have l2:bF (.int t) (.int m.sg) h = .ok (.bl true) h:=by
  have:(t:Int)<=m.sg:=by lia
  simp only [bF,this,PQ]
 simp [rm,S.ob,fs,l1,l2,-bF]
theorem JQ (c k:Int) (h:AH):∃ m,rf [.int c,.int k] h = .ok (.int m) h:=by
 have b1:0<=(c % 1000000007+7919*k+101)*48271 % 2147483647:=Po _ (by decide);have b2:(c % 1000000007+7919*k+101)*48271 % 2147483647<2147483647:=Py _ (by decide);refine ⟨(c % 1000000007+7919*k+101)*48271 % 2147483647*((c % 1000000007+7919*k+101)*48271 % 2147483647) % 2147483629*69621 % 2147483647,?_⟩
 generalize he:(c % 1000000007+7919*k+101)*48271 % 2147483647=v at *;have c1:v.natAbs<18446744073709551616:=by lia
 simp [rf,he,c1]
theorem JR {i j:Int} (hi:i.natAbs<2 ^ 4000) (hj:j.natAbs<2 ^ 4000):bN (.int i) (.int j) h = .ok (.int (i*j)) h:=MW (.inr ⟨hi,hj⟩)
theorem JS (ns:List Int):nV (ns.map AV.int)=some ns:=by
 induction ns with
 | nil=>rfl
 | cons n r ih=>simp [ih]
abbrev T60:Int:=1000000000000000000000000000000000000000000000000000000000000000000000000000000000000000000000000000000000000000000000000
theorem JT:(10:Nat) ^ 960<2 ^ 4000:=by decide +kernel
theorem JU:T60.natAbs<2 ^ 4000:=by decide +kernel
theorem JV (ns:List Int) (k:Nat) (i:Nat) (c:Nat) (o:Option AV) (h:AH) (hi:i<8) (hc:c<10 ^ (120*i)) (hj:k+i*8<ns.length) :
  ∃ c':Nat,c'<10 ^ (120*(i+1))/\mE [some (.fl (ns.map AV.int)),some (.int k),some (.int c),some (.int ((k:Int)+i*8)),o] h = .nx [some (.fl (ns.map AV.int)),some (.int k),some (.int c'),some (.int ((k:Int)+i*8)),o] h:=by
 obtain ⟨s,es⟩:∃ s,ns[k+i*8]? = some s:=⟨ns[k+i*8],by simp [hj]⟩
 have ix:au (.fl (ns.map AV.int)) (.int ((k:Int)+i*8)) h = .ok (.int s) h:=by
  rw [show ((k:Int)+i*8)=((k+i*8:Nat):Int) by simp];simp only [au,IP es]
 have p1:(10:Nat) ^ (120*i)<=10 ^ 960:=QK (by decide) (by lia);have m1:((c:Int)).natAbs<2 ^ 4000:=by
  have:=JT;exact Pu (show c<10 ^ 960 by lia) this
 have mu:bN (.int c) (.int T60) h = .ok (.int (c*T60)) h:=JR m1 JU;have r0:0<=s % T60:=Po _ (by decide);have r1:s % T60<T60:=Py _ (by decide);obtain ⟨r,er⟩:∃ r:Nat,s % T60=(r:Int):=⟨(s % T60).toNat,(QW r0).symm⟩
 have rl:r<10 ^ 120:=by
  have:(r:Int)<T60:=er▸r1
  have e:T60=((10 ^ 120:Nat):Int):=by decide +kernel
  rw [e] at this;exact Int.ofNat_lt.mp this
 obtain ⟨c',ec,lc⟩:∃ c':Nat,(c:Int)*T60+r=(c':Int)/\c'<10 ^ (120*(i+1)):=by
  refine ⟨c*10 ^ 120+r,?_,?_⟩
  ·have e:T60=((10 ^ 120:Nat):Int):=by decide +kernel
   rw [e,Int.natCast_add,Int.natCast_mul]
  ·rw [show 120*(i+1)=120*i+120 by lia,Nat.pow_add]
   have:(c+1)*10 ^ 120<=10 ^ (120*i)*10 ^ 120:=Nat.mul_le_mul_right _ hc
   have e2:(c+1)*10 ^ 120=c*10 ^ 120+10 ^ 120:=Nat.succ_mul _ _;lia
 refine ⟨c',lc,?_⟩
 have pw:(ah bN (ah cz (af (.int 10)) (af (.int 60))) (ah cz (af (.int 10)) (af (.int 60)))) [some (.fl (ns.map AV.int)),some (.int k),some (.int c),some (.int ((k:Int)+i*8)),o] h = .ok (.int T60) h:=by simp
 have md:bW (.int s) (.int T60) h = .ok (.int r) h:=by simp only [bW];rw [MW (by decide),er]
 clear p1 m1 r0 r1 er rl hc lc hi;unfold mE
 generalize ah bN (ah cz (af (.int 10)) (af (.int 60))) (ah cz (af (.int 10)) (af (.int 60)))=PW at *;generalize T60=t60 at *;simp [pw,mu,ix,md,ec,-bN,-au,-bW]
theorem JW (en0:Option AV) (ns:List Int) (k c f j:Int) (h:AH):∃ f',mF [some (.fl (ns.map AV.int)),some (.int k),some (.int c),some (.int j),some (.int f)] h = .nx [some (.fl (ns.map AV.int)),some (.int k),some (.int c),some (.int j),some (.int f')] h:=by
 obtain ⟨m,hm⟩:=JQ (c+1009*k+ns.length) j h;refine ⟨f*2147483647+m,?_⟩
 have m1:bN (.int f) (.int 2147483647) h = .ok (.int (f*2147483647)) h:=Au (by decide);have m2:bN (.int 1009) (.int k) h = .ok (.int (1009*k)) h:=IM (by decide);simp [mF,hm,m1,m2,-bN]
theorem JX (ns:List Int) (hl:ns.length<=63) (k:Nat) (hk:k<=10) (h:AH):∃ N:Int,ke [.fl (ns.map AV.int),.int k] h = .ok (.ref h.length) (h++[.lst [.int N]]):=by
 obtain ⟨M,eM⟩:∃ M:Nat,M=(if (k:Int)<(ns.length:Int) then ((ns.length:Int)-k-1) / 8+1 else 0).toNat:=⟨_,rfl⟩
 have hM:M<=8/\∀ i,i<M->k+i*8<ns.length:=by
  rw [eM];split
  ·refine ⟨by lia,λi hi=>by lia⟩
  ·refine ⟨by lia,λi hi=>by simp at hi⟩
 obtain ⟨e1,h1,r1,r2⟩:=oH (w:=none) (all:=(List.range M).map (λm:Nat=>AV.int ((k:Int)+m*8))) (t:=.nm 3) (b:=mE) (xs:=(List.range M).map (λm:Nat=>AV.int ((k:Int)+m*8))) (en:=[some (.fl (ns.map AV.int)),some (.int k),some (.int 0),none,none]) (h:=h)
  (λi en h' => h'=h/\∃ (c:Nat) (o:Option AV),c<10 ^ (120*i)/\en=[some (.fl (ns.map AV.int)),some (.int k),some (.int c),o,none]) ⟨rfl,0,none,by decide,rfl⟩ (λ_ _ _ _=>rfl) (by
   rintro j x en h' hx ⟨rfl,c,o,hc,rfl⟩
   rw [Nu] at hx;obtain ⟨m,em,rfl⟩:=Nc.mp hx
   have hj:j<M:=by
    have:=(MP.mp em).1;simpa using this
   rw [O3 hj] at em
   cases em
   obtain ⟨c',l',e⟩:=JV ns k j c none h' (by have:=hM.1;lia) hc (hM.2 j hj)
   show thn (mE [some (.fl (ns.map AV.int)),some (.int k),some (.int c),some (.int ((k:Int)+j*8)),none] h') _
   rw [e];exact ⟨rfl,c',_,l',rfl⟩)
 obtain ⟨rfl,c,o,hc,rfl⟩:=r2;have z1:(k:Int).natAbs<1099511627776:=by lia
 have z2:((ns.length:Nat):Int).natAbs<1099511627776:=by lia
 have it3:jD (ae 1) (aC aW (aj (ae 0) ag)) (af (.int 8)) [some (.fl (ns.map AV.int)),some (.int k),some (.int 0),none,none] h1 = .ok ((List.range M).map (λm:Nat=>AV.int ((k:Int)+m*8)),none) h1:=by
  simp only [jD,ae,aC,aj,ag,af,Out.bind,aW,List.getElem?_cons_zero,P6,u9]
  rw [MW ⟨z1,z2,by decide,by decide⟩,<- eM]
 have f1:=(oI (t:=.nm 3) (b:=mE) it3).trans r1;clear r1 it3;by_cases hb:(1000000000000000000:Int)<=c
 ·exact ⟨c,by simp [ke,f1,hb,-cX]⟩
 ·have cm:=II (js:=[]) (en:=[some (.fl (ns.map AV.int)),some (.int k),some (.int c),o,none]) (w:=none) (all:=ns.map AV.int) (e:=ah bW (ae 0) (ah cz (af (.int 10)) (af (.int 18)))) (g:=AV.int) (f:=λi=>AV.int (i % 1000000000000000000)) (h:=h1) rfl ns [] (by intro i _;simp) (by
    simp only [List.length_nil];exact MV (show 0+ns.length<=63 by lia) (by decide))
  have im:(ns.map λi=>AV.int (i % 1000000000000000000))=(ns.map λi=>i % 1000000000000000000).map AV.int:=by simp
  obtain ⟨S,eS⟩:∃ S:Int,S=(ns.map λi=>i % 1000000000000000000).sum:=⟨_,rfl⟩
  have sm:gU [.fl (ns.map λi=>AV.int (i % 1000000000000000000))] h1 = .ok (.int S) h1:=by
   rw [im,eS];simp only [gU,JS]
  obtain ⟨e2,h2,s1,s2⟩:=oH (w:=none) (all:=eF 0 16) (t:=.nm 3) (b:=mF) (xs:=eF 0 16) (en:=[some (.fl (ns.map AV.int)),some (.int k),some (.int (c+S)),o,some (.int 0)]) (h:=h1)
   (λi en h' => h'=h1/\∃ (f:Int) (o:Option AV),en=[some (.fl (ns.map AV.int)),some (.int k),some (.int (c+S)),o,some (.int f)]) ⟨rfl,0,o,rfl⟩ (λ_ _ _ _=>rfl) (by
    rintro j x en h' hx ⟨rfl,f,o,rfl⟩
    rw [Ar] at hx;by_cases q:j<16
    ·rw [MW q] at hx
     cases hx
     obtain ⟨f',e⟩:=JW none ns k (c+S) f (0+(j:Int)) h';show thn (mF [some (.fl (ns.map AV.int)),some (.int k),some (.int (c+S)),some (.int (0+(j:Int))),some (.int f)] h') _
     rw [e];exact ⟨rfl,f',_,rfl⟩
    ·rw [MX q] at hx;cases hx)
  obtain ⟨rfl,f,o',rfl⟩:=s2;have f2:=(oI (t:=.nm 3) (b:=mF) (As (a:=af (.int 16)) (en:=[some (.fl (ns.map AV.int)),some (.int k),some (.int (c+S)),o,some (.int 0)]) (h:=h2) (n:=16) rfl (by decide))).trans s1;refine ⟨f,?_⟩
  simp at cm
  simp [ke,f1,hb,cm,sm,f2,-cX,-gU]
theorem JY {st:Nat} {n:Int} (m:Nat) (e:h[st]? = some (.lst [.int n])) (hm:0<m) (hm2:m<=10 ^ 50):∃ v:Nat,v<m/\bC [.ref st,.int m] h = .ok (.int v) (h.set st (.lst [.int (n / m)])):=by
 have a0:atI [AV.int n] 0=some (.int n):=rfl;have i0:jg 1 0=some 0:=rfl;have hm0:(0:Int)<m:=Int.ofNat_lt.mpr hm;have hm3:m<1606938044258990275541962092341162602522202993782792835301376:=M8 hm2 (by decide);refine ⟨(n % m).toNat,?_,?_⟩
 ·have:=Py n hm0;have:=Po n (show (m:Int)≠0 by lia);lia
 ·rw [QW (Po n (show (m:Int)≠0 by lia))]
  simp [bC,e,a0,hm0,hm,hm3,i0]
theorem mV {N:Int} (m:Nat) (e:hh[L]? = some (.lst [.int N])) (hm:0<m) (hm2:m<=10 ^ 50):∃ (v:Nat) (N':Int),v<m/\bC [.ref L,.int m] hh = .ok (.int v) (hh.set L (.lst [.int N'])):=by
 obtain ⟨v,hv,e1⟩:=JY m e hm hm2;exact ⟨v,N / m,hv,e1⟩
theorem JZ (hy:bS y=true) (hc:mN c=true):bS (y++⟨#[c]⟩)=true/\(y++(⟨#[c]⟩:Str)).length=y.length+1:=by
 refine ⟨?_,by rw [dE];rfl⟩
 rw [lD,hy];simp [bS,hc]
def hV:List Str:=["ab", "aaab", "a\n", "ab \n", "abcdefghijklmnopqrstuvwxyz 0123456789.,~\n"]
theorem pf:∀ x∈hV,bS x=true/\1<=x.length/\x.length<=200/\35∉x.cps.toList:=by decide +kernel
theorem J0 (v:Nat) (hv:v<5):∃ z:Str,(∀ h,au (.fl [.str "ab",.str "aaab",.str "a\n",.str "ab \n",.str "abcdefghijklmnopqrstuvwxyz 0123456789.,~\n"]) (.int (v:Int)) h = .ok (.str z) h)/\bS z=true/\1<=z.length/\z.length<=200/\35∉z.cps.toList:=by
 have:v=0\/v=1\/v=2\/v=3\/v=4:=by lia
 rcases this with rfl | rfl | rfl | rfl | rfl
 ·exact ⟨_,λ_=>rfl,pf _ (by simp [hV])⟩
 ·exact ⟨_,λ_=>rfl,pf _ (by simp [hV])⟩
 ·exact ⟨_,λ_=>rfl,pf _ (by simp [hV])⟩
 ·exact ⟨_,λ_=>rfl,pf _ (by simp [hV])⟩
 ·exact ⟨_,λ_=>rfl,pf _ (by simp [hV])⟩
theorem J1 {v:Nat} (hv:v<x.length) (hx:bS x=true) (h:AH):∃ c,c∈x.cps.toList/\mN c=true/\au (.str x) (.int v) h = .ok (.str ⟨#[c]⟩) h:=by
 have hv':v<x.cps.toList.length:=by rw [<- cS];exact hv
 refine ⟨x.cps.toList[v],Ov hv',NF.mp hx _ (Ov hv'),?_⟩
 have e:x.cps.toList[v]? = some x.cps.toList[v]:=M3 hv';simp only [au,jh e]
theorem J2 {N:Int} (most:Nat) (hm:most<=1000) (e:hh[L]? = some (.lst [.int N])):∃ (y:Str) (N':Int),mG [.ref L,.int most] hh = .ok (.str y) (hh.set L (.lst [.int N']))/\bS y=true/\y.length<=most/\35∉y.cps.toList:=by
 have Ll:=bY e;obtain ⟨v,N1,hv,t1⟩:=mV 5 e (by decide) (by decide);have t1':bC [.ref L,.int 5] hh = .ok (.int v) (hh.set L (.lst [.int N1])):=t1;obtain ⟨z,ez,pz,z1,z2,z3⟩:=J0 v hv;have e1:(hh.set L (.lst [.int N1]))[L]? = some (.lst [.int N1]):=MY Ll;obtain ⟨k,N2,hk,t2⟩:=mV (most+1) e1 (Nat.succ_pos _) (MV (Nat.succ_le_succ hm) (by decide));rw [List.set_set] at t2;have t2':bC [.ref L,.int ((most:Int)+1)] (hh.set L (.lst [.int N1])) = .ok (.int k) (hh.set L (.lst [.int N2])):=by
  have:=t2;rw [Int.natCast_succ] at this;exact this
 obtain ⟨e',h',r1,y,N3,o4,r2,r3,r4,r5,b3⟩:=oH (w:=none) (all:=eF 0 k) (t:=.nm 4) (b:=lj) (xs:=eF 0 k) (en:=[some (.ref L),some (.int most),some (.str z),some (.str ""),none]) (h:=hh.set L (.lst [.int N2]))
  (λj en h' => ∃ (y:Str) (N':Int) (o4:Option AV),en=[some (.ref L),some (.int most),some (.str z),some (.str y),o4]/\h'=hh.set L (.lst [.int N'])/\bS y=true/\y.length=j/\35∉y.cps.toList) ⟨"",N2,none,rfl,rfl,rfl,rfl,by decide⟩ (λ_ _ _ _=>rfl) (by
   rintro j u en h' hu ⟨y,N',o4,rfl,rfl,py,ly,bb⟩
   have jk:j<k:=by have:=(MP.mp hu).1;rwa [uW] at this
   have e3:(hh.set L (.lst [.int N']))[L]? = some (.lst [.int N']):=MY Ll;obtain ⟨t,N4,ht,et⟩:=mV z.length e3 (by lia) (MV z2 (by decide));rw [List.set_set] at et;obtain ⟨c,mc,pc,ec⟩:=J1 ht pz (hh.set L (.lst [.int N4]))
   have ad:aG (.str y) (.str ⟨#[c]⟩) (hh.set L (.lst [.int N4])) = .ok (.str (y++⟨#[c]⟩)) (hh.set L (.lst [.int N4])):=by
    have:y.length+(⟨#[c]⟩:Str).length<=sizeLine:=MV (m:=1001) (by show y.length+1<=_;lia) (by decide)
    simp only [aG,this,OT]
   have es:lj [some (.ref L),some (.int most),some (.str z),some (.str y),some u] (hh.set L (.lst [.int N'])) = .nx [some (.ref L),some (.int most),some (.str z),some (.str (y++⟨#[c]⟩)),some u] (hh.set L (.lst [.int N4])):=by
    generalize hh.set L (.lst [.int N4])=h2 at *;generalize hh.set L (.lst [.int N'])=h1 at *;simp [lj,et,ec,ad,-au,-aG]
   show thn (lj [some (.ref L),some (.int most),some (.str z),some (.str y),some u] (hh.set L (.lst [.int N']))) _
   rw [es];obtain ⟨q1,q2⟩:=JZ py pc
   exact ⟨_,N4,_,rfl,rfl,q1,by rw [q2,ly],λz=>by
    rw [dC,NH] at z;rcases z with z | z
    ·exact bb z
    ·have:35=c:=by simpa using z
     exact z3 (this▸mc)⟩)
 rw [uW] at r5;have f1:=(oI (t:=.nm 4) (b:=lj) (As (a:=aC bC (aj (ae 0) (aj (ah aG (ae 1) (af (.int 1))) ag))) (en:=[some (.ref L),some (.int most),some (.str z),some (.str ""),none]) (h:=hh.set L (.lst [.int N1])) (n:=k) (by simp [t2']) (by lia))).trans r1
 refine ⟨y,N3,?_,r4,by lia,b3⟩
 rw [<- r3];subst r2;unfold mG
 generalize cX (kO (aC bC (aj (ae 0) (aj (ah aG (ae 1) (af (.int 1))) ag)))) (.nm 4) lj=F1 at *;generalize hh.set L (.lst [.int N1])=h1 at *;simp [t1',ez,f1,-aG,-au]
theorem J3 (S:ShelfAt h p ps) (g:Good ps) (A:Tx ps a ma x fa la) (B:Tx ps b mb y fb lb) (hc : ¬ 8<la.sg+fb.sg) (hm:ma.sg+mb.sg<=1000000000000000000) (hz:ps.length<15000000) :
  ∃ (n:Nat) (ps':List Pc) (h':AH) (m f l:Ms),Dn (kg [.ref p,.int a,.int b]) p h h' ps ps' (7*(max ma.ht mb.ht).toNat+2) n/\Tx ps' n m (x++y) f l/\m.ht<=max ma.ht mb.ht+1/\max ma.ht mb.ht-1<=m.ht/\fa.sg<=f.sg/\lb.sg<=l.sg:=by
 obtain ⟨_,w,u,l1,el,ex,lw⟩:=g.ends a a (MQ _) A;obtain ⟨⟨v,t,f1,ef,ey,lv⟩,_⟩:=g.ends b b (MQ _) B;have a0:=A.ky.ht;have b0:=B.ky.ht;have ha:=c6 g A;have hb:=c6 g B;have px:bS x=true:=A.ky.pl;have py:bS y=true:=B.ky.pl;have pw:bS w=true:=by rw [ex,lD,Nz] at px;exact px.2
 have pv:bS v=true:=by rw [ey,lD,Nz] at py;exact py.1
 have la1:=A.ky.l1;have fb1:=B.ky.f1;have sx:=A.ky.sg;have sy:=B.ky.sg;have lx:x.length=u.length+w.length:=by rw [ex,dE]
 have ly:y.length=v.length+t.length:=by rw [ey,dE]
 have lwv:(w++v).length=w.length+v.length:=dE w v;obtain ⟨L,ps1,h1,d1,N⟩:=mQ S g (AY (w:=w) (v:=v) (by lia) (by lia) pw pv) (by lia);have z1:=d1.dd.len;obtain ⟨n2,ps2,h2,m2,f2,u2,v2,d2,ex2,lv2,T2,k1,k2⟩:=vx 90 d1.dd.sh d1.dd.gd (A.pre d1.dd.pre) N (by lia) (by lia) (by lia) (by lia);have z2:=d2.dd.len;obtain ⟨rfl,rfl⟩:u=u2/\w=v2:=AX (ex.symm.trans ex2) (by lia);have s2:m2.sg=u.length+(w.length+v.length):=by rw [T2.ky.sg,dE,dE]
 have p12:=d1.dd.pre.trans d2.dd.pre;have lm:(bP (w++v) L).sg=w.length+v.length:=dE w v;have tb:∀ q:Int,0<=q->q<=max ma.ht mb.ht->q.toNat<=(max ma.ht mb.ht).toNat:=λq _ _=>by lia
 rcases vA 90 d2.dd.sh d2.dd.gd (B.pre p12) (by lia) (by lia) with ⟨r1,r2,d3⟩ | ⟨r1,n3,ps3,h3,m3,f3,u3,v3,d3,ey3,lu3,T3,r2,r3,r4⟩
 ·have t0:t.length=0:=by lia
  have te:t = "" := cI (by rw [cS] at t0;rw [Oe.mp t0];rfl)
  have rd:u++(w++v)=x++y:=by
   rw [ex,ey,te,dY];congr 2
  rw [rd] at T2;refine ⟨n2,ps2,h2,m2,f2,_,⟨?_,d1.dd.trans d2.dd (by lia),λh4 ps4 S4 g4 p4=>?_⟩,T2,by lia,by lia,k2,?_⟩
  rotate_left 2
  ·obtain ⟨kk,cc⟩:=B.ky.cnt
   have:lb.sg<=mb.sg:=by rcases cc with cc | cc<;>lia
   lia
  ·rw [fP S A.ms B.ms l1 f1 el ef (by lia) d1.ev d2.ev d3.ev];rfl
  ·have q1:=d1.re h4 ps4 S4 g4 (d2.dd.pre.trans p4)
   have q2:=d2.re h4 ps4 S4 g4 p4;have q3:=d3.re h4 ps4 S4 g4 p4;rw [fP S4 (aQ (p12.trans p4) A.ms) (aQ (p12.trans p4) B.ms) l1 f1 (cJ (p12.trans p4) el) (cJ (p12.trans p4) ef) (by lia) q1 q2 q3];rfl
 ·obtain ⟨rfl,rfl⟩:v=u3/\t=v3:=vB (ey.symm.trans ey3) (by lia)
  have z3:=d3.dd.len;have s3:m3.sg=t.length:=T3.ky.sg;have m30:=T3.ky.ht;obtain ⟨n4,ps4,h4,m4,d4,T4,r5,r6⟩:=lE 90 (max ma.ht mb.ht).toNat d3.dd.sh d3.dd.gd (T2.pre d3.dd.pre) T3 (by lia) (by lia) (by lia) (by lia) (by lia);have rd:(u++(w++v))++t=x++y:=by rw [ex,ey,dY,dY,dY]
  rw [rd] at T4;have n3z : ¬ (n3:Int)=0:=by have:=T3.n1;lia
  have p123:=p12.trans d3.dd.pre;refine ⟨n4,ps4,h4,m4,f2,lb,⟨?_,((d1.dd.trans d2.dd (MQ _)).trans d3.dd (MQ _)).trans d4.dd (by lia),λh5 ps5 S5 g5 p5=>?_⟩,T4,by lia,by lia,k2,MQ _⟩
  ·rw [fP S A.ms B.ms l1 f1 el ef (by lia) d1.ev d2.ev d3.ev,MX n3z];exact d4.ev
  ·have p45:=d4.dd.pre.trans p5
   have q1:=d1.re h5 ps5 S5 g5 (d2.dd.pre.trans (d3.dd.pre.trans p45));have q2:=d2.re h5 ps5 S5 g5 (d3.dd.pre.trans p45);have q3:=d3.re h5 ps5 S5 g5 p45;have q4:=d4.re h5 ps5 S5 g5 p5;have pa:=p123.trans p45;rw [fP S5 (aQ pa A.ms) (aQ pa B.ms) l1 f1 (cJ pa el) (cJ pa ef) (by lia) q1 q2 q3,MX n3z];exact q4
theorem Ba (S:ShelfAt h p ps) (g:Good ps) (A:Tx ps a ma x fa la) (B:Tx ps b mb y fb lb) (q:8<la.sg+fb.sg) (hm:ma.sg+mb.sg<=1000000000000000000) (hz:ps.length<15000000) :
  ∃ (n:Nat) (ps':List Pc) (h':AH) (m:Ms),Dn (bT [.ref p,.int a,.int b]) p h h' ps ps' (3*(ma.ht-mb.ht).natAbs+1) n/\Tx ps' n m (x++y) fa lb/\max ma.ht mb.ht<=m.ht/\m.ht<=max ma.ht mb.ht+1:=by
 have a0:=A.ky.ht;have b0:=B.ky.ht;have ha:=c6 g A;have hb:=c6 g B;obtain ⟨n,ps',h',m,d,T,h1,h2⟩:=lE 90 (ma.ht-mb.ht).natAbs S g A B q hm (MQ _) (by lia) (by lia);exact ⟨n,ps',h',m,d.as S g (λhh pp S' _ pr=>by rw [hU S' A.n1 B.n1 (aQ pr A.ms) (aQ pr B.ms) (aQ pr A.ky.ll) (aQ pr B.ky.fl) hm,MW q]) (MQ _),T,h1,h2⟩
theorem Bb (S:ShelfAt h p ps) (g:Good ps) (A:Tx ps a ma x fa la) (B:Tx ps b mb y fb lb) (q : ¬ 8<la.sg+fb.sg) (hm:ma.sg+mb.sg<=1000000000000000000) (hz:ps.length<15000000) :
  ∃ (n:Nat) (ps':List Pc) (h':AH) (m f l:Ms),Dn (bT [.ref p,.int a,.int b]) p h h' ps ps' (7*(max ma.ht mb.ht).toNat+2) n/\Tx ps' n m (x++y) f l/\m.ht<=max ma.ht mb.ht+1/\max ma.ht mb.ht-1<=m.ht/\fa.sg<=f.sg/\lb.sg<=l.sg:=by
 obtain ⟨n,ps',h',m,f,l,d,T,h1,h2,h3,h4⟩:=J3 S g A B q hm hz;exact ⟨n,ps',h',m,f,l,d.as S g (λhh pp S' _ pr=>by rw [hU S' A.n1 B.n1 (aQ pr A.ms) (aQ pr B.ms) (aQ pr A.ky.ll) (aQ pr B.ky.fl) hm,MX q]) (MQ _),T,h1,h2,h3,h4⟩
theorem vZ {h1 h2:Int} (c0:0<=hc) (e0:0<=he) (r0:0<=h1) (w1 : -1<=hc-he) (w2:hc-he<=1) (hH:H=max hc he+1) (r1:h1<=he) (g1:max hc h1<=h2):(7*h1.toNat+9*he.toNat+1)+(3*(hc-h1).natAbs+1)<=7*h2.toNat+9*H.toNat+1:=by lia
theorem v5 {h2:Int} (c0:0<=hc) (e0:0<=he) (hH:H=max hc he+1) (g1:max hc 0-1<=h2):(7*(0:Int).toNat+9*he.toNat+1)+(7*(max hc 0).toNat+2)<=7*h2.toNat+9*H.toNat+1:=by lia
theorem v7 {p:Nat}:∀ (d:Nat) {h:AH} {ps:List Pc} {n a:Nat} {m f l:Ms} {x:Str},ShelfAt h p ps->Good ps->Tx ps n m x f l->1<=a->a<=x.length->m.ht.toNat<d->ps.length+16*m.ht.toNat+1<14900000 ->
  ∃ (r:Nat) (ps':List Pc) (h':AH) (m' f' l':Ms),Dn (dB d [.ref p,.int n,.int a]) p h h' ps ps' (7*m'.ht.toNat+9*m.ht.toNat+1) r/\Tx ps' r m' (cq x a) f' l'/\m'.ht<=m.ht/\(m'.ht=0\/f.sg<=f'.sg)
 | 0,h,ps,n,a,m,f,l,x,S,g,T1,a1,ha,hd,hz=>absurd hd (Oj _)
 | d+1,h,ps,n,a,m,f,l,x,S,g,T1,a1,ha,hd,hz=>by
  have a0 : ¬ a=0:=by lia
  have sg:=T1.ky.sg;have m0:=T1.ky.ht;by_cases ea:a=m.sg
  ·have dv:Dn (dB (d+1) [.ref p,.int n,.int a]) p h h ps ps 0 n:=Dn.val S g λhh pp S' _ pr=>JK S' (aQ pr T1.ms) a0 ea
   exact ⟨n,ps,h,m,f,l,dv.as S g (λ_ _ _ _ _=>rfl) (Nj _),by rw [JF (by lia)];exact T1,QI _,.inr (MQ _)⟩
  ·rcases g.kind T1 with ⟨e1,e2,e3,e4,e5⟩ | ⟨_,_,mx,my,_,_,_,_,_,_,_,_,_,X,Y,_,e5,_⟩
   ·have lt:=rP ha
    obtain ⟨r,ps',h',d1,L⟩:=mQ S g (x:=cq x a) (by
     unfold fg;rw [JH T1.ky.pl,lt];simp;lia) (by lia)
    exact ⟨r,ps',h',_,_,_,d1.as S g (λhh pp S' _ pr=>JL S' T1.n1 (aQ pr T1.ms) (cJ pr e1) a0 ea) (by lia),L,by show (0:Int)<=_;lia,.inl rfl⟩
   ·have hpos:0<m.ht:=by
     have:=congrArg Ms.ht e5;rw [bV] at this;have:=X.ky.ht
     lia
    obtain ⟨c,e,mc,me,y1,y2,lc,fe,ep,C,E,rfl,em,w1,w2,w3⟩:=g.cut T1 hpos;have hh:m.ht=max mc.ht me.ht+1:=by rw [em];rfl
    have c0:=C.ky.ht;have e0:=E.ky.ht;have sc:=C.ky.sg;have se:=E.ky.sg;have la:=dE y1 y2;by_cases hl:a<=mc.sg
    ·obtain ⟨r,ps',h',m',f',l',d1,T',q1,q2⟩:=v7 d (n:=c) (a:=a) (x:=y1) S g C a1 (by lia) (by lia) (by lia)
     exact ⟨r,ps',h',m',f',l',d1.as S g (λhh pp S' _ pr=>vX S' T1.n1 (aQ pr T1.ms) (aQ pr C.ms) (cJ pr ep) a0 ea hl) (by lia),by rw [vK (by lia)];exact T',by lia,q2⟩
    ·obtain ⟨r,ps1,h1,m1,f1,l1,d1,T',q1,q2⟩:=v7 d (n:=e) (a:=a-mc.sg) (x:=y2) S g E (by lia) (by lia) (by lia) (by lia)
     have z1:=d1.dd.len;have r0:=T'.ky.ht;have lt:=rP (x:=y2) (a:=a-mc.sg) (by lia);have s1:=T'.ky.sg;have most:=T1.ky.most;have C' := C.pre d1.dd.pre;have tr:cq (y1++y2) a=y1++cq y2 (a-mc.sg):=by rw [vL (by lia),<- sc]
     rw [tr];by_cases q:8<lc.sg+f1.sg
     ·obtain ⟨s,ps2,h2,m2,d2,T2,g1,g2⟩:=Ba d1.dd.sh d1.dd.gd C' T' q (by lia) (by lia)
      exact ⟨s,ps2,h2,m2,f,l1,Dn.seq' S g d1 d2 (λhh hh1 pp S' _ pr ev=>oZ S' T1.n1 (aQ pr T1.ms) (aQ pr C.ms) (cJ pr ep) a0 ea hl ev) (vZ c0 e0 r0 w1 w2 hh q1 g1),T2,by lia,.inr (MQ _)⟩
     ·have z:m1.ht=0:=by
       rcases q2 with q2 | q2
       ·exact q2
       ·lia
      obtain ⟨s,ps2,h2,m2,f2,l2,d2,T2,g2,g1,g3,g4⟩:=Bb d1.dd.sh d1.dd.gd C' T' q (by lia) (by lia);rw [z] at d1 d2 g1 g2;exact ⟨s,ps2,h2,m2,f2,l2,Dn.seq' S g d1 d2 (λhh hh1 pp S' _ pr ev=>oZ S' T1.n1 (aQ pr T1.ms) (aQ pr C.ms) (cJ pr ep) a0 ea hl ev) (v5 c0 e0 hh g1),T2,by lia,.inr g3⟩
theorem v8 {h1 h2:Int} (c0:0<=hc) (e0:0<=he) (r0:0<=h1) (w1 : -1<=hc-he) (w2:hc-he<=1) (hH:H=max hc he+1) (r1:h1<=hc) (g1:max h1 he<=h2):(7*h1.toNat+9*hc.toNat+1)+(3*(h1-he).natAbs+1)<=7*h2.toNat+9*H.toNat+1:=by lia
theorem v9 {h2:Int} (c0:0<=hc) (e0:0<=he) (hH:H=max hc he+1) (g1:max 0 he-1<=h2):(7*(0:Int).toNat+9*hc.toNat+1)+(7*(max 0 he).toNat+2)<=7*h2.toNat+9*H.toNat+1:=by lia
theorem wa {p:Nat}:∀ (d:Nat) {h:AH} {ps:List Pc} {n a:Nat} {m f l:Ms} {x:Str},ShelfAt h p ps->Good ps->Tx ps n m x f l->a<x.length->m.ht.toNat<d->ps.length+16*m.ht.toNat+1<14900000 ->
  ∃ (r:Nat) (ps':List Pc) (h':AH) (m' f' l':Ms),Dn (dq d [.ref p,.int n,.int a]) p h h' ps ps' (7*m'.ht.toNat+9*m.ht.toNat+1) r/\Tx ps' r m' (dO x a) f' l'/\m'.ht<=m.ht/\(m'.ht=0\/l.sg<=l'.sg)
 | 0,h,ps,n,a,m,f,l,x,S,g,T1,ha,hd,hz=>absurd hd (Oj _)
 | d+1,h,ps,n,a,m,f,l,x,S,g,T1,ha,hd,hz=>by
  have sg:=T1.ky.sg;have m0:=T1.ky.ht;by_cases a0:a=0
  ·subst a0
   have dv:Dn (dq (d+1) [.ref p,.int n,.int (0:Nat)]) p h h ps ps 0 n:=Dn.val S g λhh pp S' _ pr=>pd
   exact ⟨n,ps,h,m,f,l,dv.as S g (λ_ _ _ _ _=>rfl) (Nj _),by rw [oY];exact T1,QI _,.inr (MQ _)⟩
  ·have ea : ¬ a=m.sg:=by lia
   rcases g.kind T1 with ⟨e1,e2,e3,e4,e5⟩ | ⟨_,_,mx,my,_,_,_,_,_,_,_,_,_,X,Y,_,e5,_⟩
   ·have lt:=mT x a
    obtain ⟨r,ps',h',d1,L⟩:=mQ S g (x:=dO x a) (by
     unfold fg;rw [JI T1.ky.pl,lt];simp;lia) (by lia)
    exact ⟨r,ps',h',_,_,_,d1.as S g (λhh pp S' _ pr=>JN S' T1.n1 (aQ pr T1.ms) (cJ pr e1) (by lia) a0 ea) (by lia),L,by show (0:Int)<=_;lia,.inl rfl⟩
   ·have hpos:0<m.ht:=by
     have:=congrArg Ms.ht e5;rw [bV] at this;have:=X.ky.ht
     lia
    obtain ⟨c,e,mc,me,y1,y2,lc,fe,ep,C,E,rfl,em,w1,w2,w3⟩:=g.cut T1 hpos;have hh:m.ht=max mc.ht me.ht+1:=by rw [em];rfl
    have c0:=C.ky.ht;have e0:=E.ky.ht;have sc:=C.ky.sg;have se:=E.ky.sg;have la:=dE y1 y2;by_cases hl:mc.sg<=a
    ·obtain ⟨r,ps',h',m',f',l',d1,T',q1,q2⟩:=wa d (n:=e) (a:=a-mc.sg) (x:=y2) S g E (by lia) (by lia) (by lia)
     refine ⟨r,ps',h',m',f',l',d1.as S g (λhh pp S' _ pr=>vY S' T1.n1 (aQ pr T1.ms) (aQ pr C.ms) (cJ pr ep) a0 ea hl) (by lia),?_,by lia,q2⟩
     rw [vN (by lia),<- sc];exact T'
    ·obtain ⟨r,ps1,h1,m1,f1,l1,d1,T',q1,q2⟩:=wa d (n:=c) (a:=a) (x:=y1) S g C (by lia) (by lia) (by lia)
     have z1:=d1.dd.len;have r0:=T'.ky.ht;have lt:=mT y1 a;have s1:=T'.ky.sg;have most:=T1.ky.most;have E' := E.pre d1.dd.pre;have tr:dO (y1++y2) a=dO y1 a++y2:=vM (by lia);rw [tr];by_cases q:8<l1.sg+fe.sg
     ·obtain ⟨s,ps2,h2,m2,d2,T2,g1,g2⟩:=Ba d1.dd.sh d1.dd.gd T' E' q (by lia) (by lia)
      exact ⟨s,ps2,h2,m2,f1,l,Dn.seq' S g d1 d2 (λhh hh1 pp S' _ pr ev=>pe S' T1.n1 (aQ pr T1.ms) (aQ pr C.ms) (cJ pr ep) a0 ea hl ev) (v8 c0 e0 r0 w1 w2 hh q1 g1),T2,by lia,.inr (MQ _)⟩
     ·have z:m1.ht=0:=by
       rcases q2 with q2 | q2
       ·exact q2
       ·lia
      obtain ⟨s,ps2,h2,m2,f2,l2,d2,T2,g2,g1,g3,g4⟩:=Bb d1.dd.sh d1.dd.gd T' E' q (by lia) (by lia);rw [z] at d1 d2 g1 g2;exact ⟨s,ps2,h2,m2,f2,l2,Dn.seq' S g d1 d2 (λhh hh1 pp S' _ pr ev=>pe S' T1.n1 (aQ pr T1.ms) (aQ pr C.ms) (cJ pr ep) a0 ea hl ev) (v9 c0 e0 hh g1),T2,by lia,.inr g4⟩
theorem Bc (S:ShelfAt h p ps) (g:Good ps) (T:TxZ ps n x) (ha:a<=x.length) (hz:ps.length<14000000) :
  ∃ (r:Nat) (ps':List Pc) (h':AH),Dn (dB 90 [.ref p,.int n,.int a]) p h h' ps ps' (32*(bu ps n+1).toNat) r/\TxZ ps' r (cq x a)/\bu ps' r<=bu ps n:=by
 by_cases a0:a=0
 ·subst a0
  have dv:Dn (dB 90 [.ref p,.int n,.int (0:Nat)]) p h h ps ps 0 0:=Dn.val S g λhh pp S' _ pr=>vW
  exact ⟨0,ps,h,dv.as S g (λ_ _ _ _ _=>rfl) (Nj _),.inl ⟨rfl,oX x⟩,by rw [mS];exact kj T⟩
 ·obtain ⟨m,f,l,T1⟩:=T.pos (by lia)
  have h82:=c6 g T1;have m0:=T1.ky.ht;obtain ⟨r,ps',h',m',f',l',d,T',q1,_⟩:=v7 90 (p:=p) (a:=a) S g T1 (by lia) ha (by lia) (by lia);have r0:=T'.ky.ht;rw [fQ T1.ms];exact ⟨r,ps',h',d.as S g (λ_ _ _ _ _=>rfl) (by lia),.inr ⟨_,_,_,T'⟩,by rw [fQ T'.ms];exact q1⟩
theorem Bd (S:ShelfAt h p ps) (g:Good ps) (T:TxZ ps n x) (ha:a<=x.length) (hz:ps.length<14000000) :
  ∃ (r:Nat) (ps':List Pc) (h':AH),Dn (dq 90 [.ref p,.int n,.int a]) p h h' ps ps' (32*(bu ps n+1).toNat) r/\TxZ ps' r (dO x a)/\bu ps' r<=bu ps n:=by
 by_cases a0:a=0
 ·subst a0
  have dv:Dn (dq 90 [.ref p,.int n,.int (0:Nat)]) p h h ps ps 0 n:=Dn.val S g λhh pp S' _ pr=>pd
  exact ⟨n,ps,h,dv.as S g (λ_ _ _ _ _=>rfl) (Nj _),by rw [oY];exact T,QI _⟩
 ·obtain ⟨m,f,l,T1⟩:=T.pos (by lia)
  have sg:=T1.ky.sg;by_cases ea:a=m.sg
  ·have dv:Dn (dq 90 [.ref p,.int n,.int a]) p h h ps ps 0 0:=Dn.val S g λhh pp S' _ pr=>JM S' (aQ pr T1.ms) a0 ea
   exact ⟨0,ps,h,dv.as S g (λ_ _ _ _ _=>rfl) (Nj _),.inl ⟨rfl,JG (by lia)⟩,by rw [mS];exact kj T⟩
  ·have h82:=c6 g T1
   have m0:=T1.ky.ht;obtain ⟨r,ps',h',m',f',l',d,T',q1,_⟩:=wa 90 (p:=p) (a:=a) S g T1 (by lia) (by lia) (by lia);have r0:=T'.ky.ht;rw [fQ T1.ms];exact ⟨r,ps',h',d.as S g (λ_ _ _ _ _=>rfl) (by lia),.inr ⟨_,_,_,T'⟩,by rw [fQ T'.ms];exact q1⟩
theorem ph (T:TxZ ps n x) (pr:ps <+: ps'):bu ps' n=bu ps n:=by
 obtain ⟨m,em,_⟩:=T.meas;rw [fQ em,fQ (aQ pr em)]
theorem J4 (T:TxZ ps n ""):bu ps n = -1:=by
 rcases T with ⟨rfl,_⟩ | ⟨m,f,l,T⟩
 ·exact mS ps
 ·have a:=T.ky.sg
  obtain ⟨k,c⟩:=T.ky.cnt;have f1:=T.ky.f1;have:("" : Str).length=0:=rfl
  rcases c with c | c<;>lia
theorem Be (T:TxZ ps n x) (h:bu ps n = -1):x = "" := by
 rcases T with ⟨_,rfl⟩ | ⟨m,f,l,T⟩
 ·rfl
 ·have:=T.ky.ht
  rw [fQ T.ms] at h;lia
theorem Bf {h4:AH} {t r1 r2 r3:Nat} (S:ShelfAt h p ps) (ema:(meas ps)[a]? = some ma) (emb:(meas ps)[b]? = some mb) (tx:t<=ma.sg) (hx:ma.sg+mb.sg<=1000000000000000000) (e1:dB 90 [.ref p,.int a,.int t] h = .ok (.int r1) h1) (e2:bT [.ref p,.int r1,.int b] h1 = .ok (.int r2) h2) (e3:dq 90 [.ref p,.int a,.int t] h2 = .ok (.int r3) h3) (e4:bT [.ref p,.int r2,.int r3] h3 = .ok (.int r) h4):i8 [.ref p,.int a,.int t,.int b] h = .ok (.int r) h4:=by
 have ck:=JP S ema tx;have f1:=dM S ema;have f2:=dM S emb;have lk:=oT (i:=(ma.sg:Int)+mb.sg) (by lia) h;have ob:=S.ob;unfold i8;generalize dB 90=FF at *;generalize dq 90=FB at *;simp [ob,f1,f2,ck,lk,e1,e2,e3,e4]
theorem J5 {t:Nat} (S:ShelfAt h p ps) (g:Good ps) (A:TxZ ps a x) (B:TxZ ps b y) (tx:t<=x.length) (hx:x.length+y.length<=1000000000000000000) (hz:ps.length<13000000) :
  ∃ (r:Nat) (ps':List Pc) (h':AH),Dn (i8 [.ref p,.int a,.int t,.int b]) p h h' ps ps' (200*(1+max (bu ps a) (bu ps b)).toNat) r/\TxZ ps' r ((cq x t++y)++dO x t):=by
 obtain ⟨ma,ema,sma⟩:=A.meas;obtain ⟨mb,emb,smb⟩:=B.meas;have ha:=mU g A;have hb:=mU g B;obtain ⟨r1,ps1,h1,d1,T1,q1⟩:=Bc (a:=t) S g A tx (by lia);have z1:=d1.dd.len;have l1:=rP tx;have g1:=kj T1;obtain ⟨r2,ps2,h2,d2,T2,q2⟩:=vJ d1.dd.sh d1.dd.gd T1 (B.pre d1.dd.pre) (by lia) (by lia);rw [ph B d1.dd.pre] at d2 q2;have z2:=d2.dd.len
 have g2:=kj T2;have l2:=dE (cq x t) y;have p12:=d1.dd.pre.trans d2.dd.pre;obtain ⟨r3,ps3,h3,d3,T3,q3⟩:=Bd (a:=t) d2.dd.sh d2.dd.gd (A.pre p12) tx (by lia);rw [ph A p12] at d3 q3;have z3:=d3.dd.len
 have l3:=mT x t;have g3:=kj T3;obtain ⟨r,ps4,h4,d4,T4,_⟩:=vJ d3.dd.sh d3.dd.gd (T2.pre d3.dd.pre) T3 (by lia) (by lia);rw [ph T2 d3.dd.pre] at d4;have re:∀ h5 ps5,ShelfAt h5 p ps5->Good ps5->ps4 <+: ps5->i8 [.ref p,.int a,.int t,.int b] h5 = .ok (.int r) h5:=λh5 ps5 S5 g5 p5=>by
  have q4:=d4.dd.pre.trans p5;have q3:=d3.dd.pre.trans q4;have q2' := d2.dd.pre.trans q3;have q1' := d1.dd.pre.trans q2';exact Bf S5 (aQ q1' ema) (aQ q1' emb) (by lia) (by lia) (d1.re h5 ps5 S5 g5 q2') (d2.re h5 ps5 S5 g5 q3) (d3.re h5 ps5 S5 g5 q4) (d4.re h5 ps5 S5 g5 p5)
 refine ⟨r,ps4,h4,⟨Bf S ema emb (by lia) (by lia) d1.ev d2.ev d3.ev d4.ev,((d1.dd.trans d2.dd (MQ _)).trans d3.dd (MQ _)).trans d4.dd ?_,re⟩,T4⟩
 by_cases m:max (bu ps a) (bu ps b) = -1
 ·have xa:x = "" := Be A (by lia)
  have yb:y = "" := Be B (by lia);have e2:bu ps2 r2 = -1:=by
   have t0:t=0:=by
    rw [xa] at tx;have:("" : Str).length=0:=rfl
    lia
   have:cq x t++y = "" := by
    rw [yb,t0,oX];exact cI (by rw [dC];rfl)
   rw [this] at T2;exact J4 T2
  lia
 ·lia
theorem Bh {r1 r2:Nat} {m:Ms} (S:ShelfAt h p ps) (em:(meas ps)[n]? = some m) (be:b<=e) (hm:e<=m.sg) (e1:dB 90 [.ref p,.int n,.int b] h = .ok (.int r1) h1) (e2:dq 90 [.ref p,.int n,.int e] h1 = .ok (.int r2) h2) (e3:bT [.ref p,.int r1,.int r2] h2 = .ok (.int r) h3):jL [.ref p,.int n,.int b,.int e] h = .ok (.int r) h3:=by
 have ck:=JO S em be hm;unfold jL;generalize dB 90=FF at *;generalize dq 90=FB at *;simp [ck,e1,e2,e3]
theorem J6 (S:ShelfAt h p ps) (g:Good ps) (T:TxZ ps n x) (be:b<=e) (ex:e<=x.length) (hx:x.length<=1000000000000000000) (hz:ps.length<13000000) :
  ∃ (r:Nat) (ps':List Pc) (h':AH),Dn (jL [.ref p,.int n,.int b,.int e]) p h h' ps ps' (200*(1+bu ps n).toNat) r/\TxZ ps' r (cq x b++dO x e):=by
 obtain ⟨m,em,sm⟩:=T.meas;have ht:=mU g T;obtain ⟨r1,ps1,h1,d1,T1,q1⟩:=Bc (a:=b) S g T (by lia) (by lia);have z1:=d1.dd.len;obtain ⟨r2,ps2,h2,d2,T2,q2⟩:=Bd (a:=e) d1.dd.sh d1.dd.gd (T.pre d1.dd.pre) ex (by lia);rw [ph T d1.dd.pre] at d2 q2;have z2:=d2.dd.len
 have l1:=rP (x:=x) (a:=b) (by lia);have l2:=mT x e;obtain ⟨r,ps3,h3,d3,T3,_⟩:=vJ d2.dd.sh d2.dd.gd (T1.pre d2.dd.pre) T2 (by lia) (by lia);rw [ph T1 d2.dd.pre] at d3;have g1:=kj T1
 have g2:=kj T2;exact ⟨r,ps3,h3,⟨Bh S em be (by lia) d1.ev d2.ev d3.ev,(d1.dd.trans d2.dd (MQ _)).trans d3.dd (by lia),λh5 ps5 S5 g5 p5 =>
  Bh S5 (aQ (d1.dd.pre.trans (d2.dd.pre.trans (d3.dd.pre.trans p5))) em) be (by lia) (d1.re h5 ps5 S5 g5 (d2.dd.pre.trans (d3.dd.pre.trans p5))) (d2.re h5 ps5 S5 g5 (d3.dd.pre.trans p5)) (d3.re h5 ps5 S5 g5 p5)⟩,T3⟩
def lH (c:Nat):Bool:=decide (97<=c) && decide (c<=122)
theorem J7:(Str.ofString "a")=⟨#[97]⟩:=by decide +kernel
theorem J8:(Str.ofString "z")=⟨#[122]⟩:=by decide +kernel
theorem J9 (c:Nat) (en:En) (h:AH):fq bF bF (af (.str "a")) (ae 0) (af (.str "z")) (some (.str ⟨#[c]⟩)::en) h = .ok (.bl (lH c)) h:=by
 simp [J7,J8,Av,lH]
 by_cases h2:c<97
 ·have : ¬ 97<=c:=by lia
  simp [h2,this]
 ·have h3:97<=c:=by lia
  by_cases h4:c<=122
  ·have : ¬ 122<c:=by lia
   simp [h2,h3,h4,this]
  ·have:122<c:=by lia
   simp [h2,h3,h4,this]
def cn (x:Str):Bool:=decide (1<=x.length) && decide (x.length<=8) && x.cps.toList.all lH
theorem Ka (x:Str) (h:AH) (hl:x.length<=sizeLine):mD [.str x] h = .ok (.bl (cn x)) h:=by
 have e:=uX (js:=[]) (en:=[some (.str x)]) (all:=x.cps.toList.map λc=>AV.str ⟨#[c]⟩) (e:=fq bF bF (af (.str "a")) (ae 0) (af (.str "z"))) (g:=λc=>AV.str ⟨#[c]⟩) (f:=λc=>AV.bl (lH c)) (h:=h) x.cps.toList [] (λc _=>J9 c _ h) (by simp;exact hl)
 simp only [O5] at e
 have al:aC gQ (aj (fE [] (cO (ae 0)) cw (fq bF bF (af (.str "a")) (ae 0) (af (.str "z")))) ag) [some (.str x)] h = .ok (.bl (x.cps.toList.all lH)) h:=by
  simp [-fq]
  rw [e];simp [uY]
 unfold mD;generalize aC gQ (aj (fE [] (cO (ae 0)) cw (fq bF bF (af (.str "a")) (ae 0) (af (.str "z")))) ag)=AL at al ⊢
 generalize hb:x.cps.toList.all lH=b at al
 by_cases h1:1<=x.length
 ·have i1:(1:Int)<=x.length:=by lia
  by_cases h2:x.length<=8
  ·have i2:(x.length:Int)<=8:=by lia
   simp [i1,i2,h1,h2,al,cn,hb]
  ·have i2 : ¬ (x.length:Int)<=8:=by lia
   simp [i1,i2,h1,h2,cn,hb]
 ·have i1 : ¬ (1:Int)<=x.length:=by lia
  simp [i1,h1,cn,hb]
theorem Bi (en:En) (h:AH):jw 1 4 jI ag en h = .ok (.ref h.length) (h++(.ins 1 [some (.ref (h.length+1)),some (.ref (h.length+10)),some (.ref (h.length+11)),some (.ref (h.length+12))]::(mP (h.length+1)++[.dct false [],.lst [],.lst []]))):=by
 simp [jI,uS,mP,List.getElem?_append,Jd]
abbrev De:=Str×Option Nat×Option Nat
def kG (g:Nat×Str->AV) (e:Str×Nat×Str):AV×AV:=(.str e.1,g e.2)
abbrev gN (v:Nat×Str):AV:=.int v.1
abbrev gS (v:Nat×Str):AV:=.str v.2
def oN:Option Nat->AV
 | none=>.non
 | some n=>.int n
def bJ (d:De):AV:=.tup [.str d.1,oN d.2.1,oN d.2.2]
structure Ho (h:AH) (q p t:Nat) (ps:List Pc) (kx:List (Str×Nat×Str)) (ds bs:List De):Prop where
 ob:h[q]? = some (.ins 1 [some (.ref p),some (.ref t),some (.ref (t+1)),some (.ref (t+2))])
 sh:ShelfAt h p ps
 gd:Good ps
 tx:h[t]? = some (.dct false (kx.map (kG gN)))
 de:h[t+1]? = some (.lst (ds.map bJ))
 ba:h[t+2]? = some (.lst (bs.map bJ))
 tz:∀ e∈kx,TxZ ps e.2.1 e.2.2/\cn e.1=true
 lo:q<p/\p+8<t
 ct:kx.length<=50
 nd:(kx.map (·.1)).Nodup
theorem Ho.app {h:AH} {q p t:Nat} {ps:List Pc} {kx:List (Str×Nat×Str)} {ds bs:List De} (H:Ho h q p t ps kx ds bs) (r:AH):Ho (h++r) q p t ps kx ds bs:=by
 have l:=bY H.ba;have lo:=H.lo;have k:∀ i,i<h.length->(h++r)[i]? = h[i]? := λi hi=>MT hi
 exact ⟨(k _ (by lia)).trans H.ob,H.sh.app r,H.gd,(k _ (by lia)).trans H.tx,(k _ (by lia)).trans H.de,(k _ l).trans H.ba,H.tz,lo,H.ct,H.nd⟩
def lk (kx:List (Str×Nat×Str)) (x:Str):Option (Nat×Str):=(kx.find? λe=>decide (e.1=x)).map (·.2)
theorem hW (e:Str×Nat×Str) (r:List (Str×Nat×Str)) (x:Str):lk (e::r) x=if e.1=x then some e.2 else lk r x:=by
 unfold lk;rw [NK];by_cases q:e.1=x
 ·simp [q]
 ·simp [q]
theorem gy {x:Str} {v:Nat×Str}:∀ {kx:List (Str×Nat×Str)},lk kx x=some v->(x,v)∈kx
 | [],e=>nomatch e
 | e::r,h=>by
  rw [hW] at h;by_cases q:e.1=x
  ·rw [MW q] at h
   cases h
   subst q;exact NJ ..
  ·rw [MX q] at h
   exact Nv _ (gy h)
theorem jQ (g:Nat×Str->AV) (x:Str):∀ kx:List (Str×Nat×Str),bD (kx.map (kG g)) (.str x)=(lk kx x).map g
 | []=>rfl
 | e::r=>by
  have ih:=jQ g x r;unfold bD at ih ⊢
  rw [Ny,hW,NK];by_cases q:e.1=x
  ·have:decide ((kG g e).1=AV.str x)=true:=ND (by rw [<- q];rfl)
   rw [this,MW q];rfl
  ·have:decide ((kG g e).1=AV.str x)=false:=Nl (λz=>q (by injection z))
   rw [this,MX q];exact ih
def put (kx:List (Str×Nat×Str)) (x:Str) (v:Nat×Str):List (Str×Nat×Str):=if (lk kx x).isSome=true then kx.map λe=>if e.1=x then (x,v) else e else kx++[(x,v)]
theorem pj (g:Nat×Str->AV) (kx:List (Str×Nat×Str)) (x:Str) (v:Nat×Str):eX (kx.map (kG g)) (.str x) (g v)=(put kx x v).map (kG g):=by
 unfold eX put;rw [uC,jQ,OQ];by_cases q:(lk kx x).isSome=true
 ·rw [MW q,MW q,OZ,OZ]
  refine On λe _=>?_
  show (if (kG g e).1 = .str x then ((kG g e).1,g v) else kG g e)=kG g (if e.1=x then (x,v) else e)
  by_cases z:e.1=x
  ·rw [MW z,MW (by rw [<- z];rfl)]
   show (AV.str e.1,g v)=_
   rw [z];rfl
  ·rw [MX z,MX (λw=>z (by injection w))]
 ·rw [MX q,MX q,NZ]
  rfl
def pq (kx:List (Str×Nat×Str)) (x:Str):List (Str×Nat×Str):=kx.filter λe=>decide (¬ e.1=x)
theorem Bj (g:Nat×Str->AV) (kx:List (Str×Nat×Str)) (x:Str):n9 (kx.map (kG g)) (.str x)=(pq kx x).map (kG g):=by
 unfold n9 pq;rw [List.filter_map];congr 1
 refine List.filter_congr λe _=>?_
 show decide (¬ AV.str e.1=AV.str x)=decide (¬ e.1=x)
 exact decide_eq_decide.mpr ⟨λh z=>h (by rw [z]),λh z=>h (by injection z)⟩
def upd (kx:List (Str×Nat×Str)) (x:Str):Option (Nat×Str)->List (Str×Nat×Str)
 | some v=>put kx x v
 | none=>pq kx x
theorem wc (kx:List (Str×Nat×Str)) (x:Str) (v:Nat×Str):(put kx x v).length<=kx.length+1:=by
 unfold put;split
 ·rw [M0];lia
 ·rw [M6];simp
variable {kx:List (Str×Nat×Str)}
theorem Bk {v:Nat×Str} {e:Str×Nat×Str} (h:e∈put kx x v):e=(x,v)\/e∈kx:=by
 unfold put at h;split at h
 ·obtain ⟨e',h',rfl⟩:=OI.mp h
  by_cases z:e'.1=x
  ·rw [MW z];exact .inl rfl
  ·rw [MX z];exact .inr h'
 ·rcases NH.mp h with h | h
  ·exact .inr h
  ·exact .inl (O7.mp h)
theorem Bl (x y:Str) (v:Nat×Str):∀ kx:List (Str×Nat×Str),lk (kx.map λe=>if e.1=x then (x,v) else e) y=if x=y then (lk kx x).map λ_=>v else lk kx y
 | []=>by simp [lk]
 | e::r=>by
  rw [Ny,hW,Bl x y v r,hW,hW];by_cases z:e.1=x
  ·rw [MW z,MW z]
   by_cases w:x=y
   ·rw [MW w];simp [w]
   ·rw [MX w]
    simp [w,z]
  ·rw [MX z,MX z]
   by_cases w:x=y
   ·have : ¬ e.1=y:=w▸z
    simp [w,this]
   ·simp [w]
theorem Bm (x y:Str) (v:Nat×Str):∀ kx:List (Str×Nat×Str),lk (kx++[(x,v)]) y=(lk kx y).or (if x=y then some v else none)
 | []=>by rw [O5,hW];rfl
 | e::r=>by
  rw [List.cons_append,hW,hW,Bm x y v r];by_cases z:e.1=y
  ·rw [MW z,MW z];rfl
  ·rw [MX z,MX z]
theorem we (kx:List (Str×Nat×Str)) (x y:Str) (v:Nat×Str):lk (put kx x v) y=if x=y then some v else lk kx y:=by
 unfold put
 cases q:lk kx x with
 | some w =>
  rw [MW (by rfl),Bl,q];rfl
 | none =>
  rw [MX (by simp),Bm];by_cases w:x=y
  ·subst w;rw [q,MW rfl];rfl
  ·rw [MX w,MX w,Option.or_none]
theorem zgZ {x:Str}:∀ {kx:List (Str×Nat×Str)},lk kx x=none ↔ x∉kx.map (·.1)
 | []=>by simp [lk]
 | e::r=>by
  rw [hW,Ny,Nd];by_cases q:e.1=x
  ·simp [q]
  ·rw [MX q,zgZ]
   simp only [not_or]
   exact ⟨λh=>⟨λz=>q z.symm,h⟩,λh=>h.2⟩
theorem Bn (h:(kx.map (·.1)).Nodup) (x:Str) (o:Option (Nat×Str)):((upd kx x o).map (·.1)).Nodup:=by
 cases o with
 | some v =>
  show ((put kx x v).map (·.1)).Nodup
  unfold put
  cases q:lk kx x with
  | some w =>
   rw [MW (by rfl),OZ];have:((λe:Str×Nat×Str=>e.1) ∘ λe=>if e.1=x then (x,v) else e)=λe=>e.1:=by
    funext e
    show (if e.1=x then (x,v) else e).1=e.1
    split
    ·rename_i z;exact z.symm
    ·rfl
   rw [this];exact h
  | none =>
   rw [MX (by simp),NZ,Pf];refine ⟨h,by simp,λa ha b hb=>?_⟩
   simp at hb
   subst hb;exact λz=>zgZ.mp q (z▸ha)
 | none=>exact h.sublist (List.Sublist.map _ List.filter_sublist)
variable {o:Option (Nat×Str)}
theorem Bo {e:Str×Nat×Str} (h:e∈upd kx x o):(∃ v,o=some v/\e=(x,v))\/e∈kx:=by
 cases o with
 | some v=>exact (Bk h).imp (λz=>⟨v,rfl,z⟩) id
 | none=>exact .inr (Pn.mp h).1
theorem wg (kx:List (Str×Nat×Str)) (x:Str) (o:Option (Nat×Str)):(upd kx x o).length<=kx.length+1:=by
 cases o with
 | some v=>exact wc kx x v
 | none=>exact Nat.le_succ_of_le (Qo _ _)
structure Fh (p t:Nat) (h h':AH):Prop where
 fr:∀ i,(i<p\/p+8<i)->i≠t->i≠t+1->i≠t+2->h'[i]? = h[i]?
 hl:h'.length=h.length
theorem Fh.trans {p t:Nat} {h h' h'':AH} (a:Fh p t h h') (b:Fh p t h' h''):Fh p t h h'' := ⟨λi h1 h2 h3 h4=>(b.fr i h1 h2 h3 h4).trans (a.fr i h1 h2 h3 h4),b.hl.trans a.hl⟩
theorem Fh.dd {t:Nat} {k:Nat} (d:Dd p h h' ps ps' k):Fh p t h h' := ⟨λi h1 _ _ _=>d.fr i (by lia),d.hl⟩
section
variable {h:AH} {q p t:Nat} {ps:List Pc} {kx:List (Str×Nat×Str)} {ds bs:List De}
theorem Ho.dd (H:Ho h q p t ps kx ds bs) {k:Nat} (d:Dd p h h' ps ps' k):Ho h' q p t ps' kx ds bs:=by
 have lo:=H.lo;exact ⟨(d.fr q (by lia)).trans H.ob,d.sh,d.gd,(d.fr t (by lia)).trans H.tx,(d.fr (t+1) (by lia)).trans H.de,(d.fr (t+2) (by lia)).trans H.ba,λe he=>⟨(H.tz e he).1.pre d.pre,(H.tz e he).2⟩,lo,H.ct,H.nd⟩
theorem rT (h:cn x=true):x.length<=8:=by
 unfold cn at h;simp only [Nz,Og] at h
 exact h.1.2
theorem Bp (hx:cn x=true) (hh:AH):mD [.str x] hh = .ok (.bl true) hh:=by
 rw [Ka x hh (MV (rT hx) (by decide)),hx]
theorem fi (H:Ho h q p t ps kx ds bs) {v:Nat×Str} (l:lk kx x=some v):bI [.ref q,.str x] h = .ok (.int v.1) h:=by
 have nm:=Bp (H.tz _ (gy l)).2 h;have vk:bD (kx.map (kG gN)) (.str x)=some (.int v.1):=by rw [jQ,l];rfl
 have ni:dS (.str x) (.ref t) h = .ok (.bl false) h:=by
  simp only [dS,kP,H.tx,vk,d0,keyOf?,Option.isSome];rfl
 have ix:au (.ref t) (.str x) h = .ok (.int v.1) h:=by
  have k1:d0 false (.str x)=true:=rfl;simp only [au,H.tx,k1,vk];rfl
 simp [bI,H.ob,nm,ni,ix,-dS,-au]
theorem Bq (ob:hh[q]? = some (.ins 1 [some (.ref p),some (.ref t),some (.ref (t+1)),some (.ref (t+2))])) (tx:hh[t]? = some (.dct false (kx.map (kG gN)))) (ct:kx.length<=60) (ho:o=none->(lk kx x).isSome=true) :
  i7 [.ref q,.str x,oN (o.map (·.1))] hh = .ok .non (hh.set t (.dct false ((upd kx x o).map (kG gN)))):=by
 have k1:d0 false (.str x)=true:=rfl
 cases o with
 | some v =>
  have sz:(kx.map (kG gN)).length<sizeLine:=by rw [M0];exact M8 ct (by decide)
  have st:fF (Sm.sFld 1 1 (ae 0)) (ae 1) (ae 2) [some (.ref q),some (.str x),some (.int v.1)] hh = .nx [some (.ref q),some (.str x),some (.int v.1)] (hh.set t (.dct false ((upd kx x (some v)).map (kG gN)))):=by
   have e:Sm.sFld 1 1 (ae 0) [some (.ref q),some (.str x),some (.int v.1)] hh = .ok (.ref t) hh:=by simp [ob]
   have e1:ae 1 [some (.ref q),some (.str x),some (.int v.1)] hh = .ok (.str x) hh:=rfl;have e2:ae 2 [some (.ref q),some (.str x),some (.int v.1)] hh = .ok (.int v.1) hh:=rfl;simp only [fF,e,e1,e2,Out.go,tx]
   rw [MW ⟨k1,sz⟩,pj gN kx x v];rfl
  show i7 [.ref q,.str x,.int v.1] hh=_
  unfold i7;generalize fF (Sm.sFld 1 1 (ae 0)) (ae 1) (ae 2)=SX at *;simp [st]
 | none =>
  obtain ⟨w,ew⟩:=Nn.mp (ho rfl);have st:i5 (Sm.sFld 1 1 (ae 0)) (ae 1) [some (.ref q),some (.str x),some .non] hh = .ok (.int w.1) (hh.set t (.dct false ((upd kx x none).map (kG gN)))):=by
   have e:Sm.sFld 1 1 (ae 0) [some (.ref q),some (.str x),some .non] hh = .ok (.ref t) hh:=by simp [ob]
   have e1:ae 1 [some (.ref q),some (.str x),some .non] hh = .ok (.str x) hh:=rfl;simp only [i5,e,e1,Out.bind,tx,k1,OT,jQ,ew,Option.map]
   rw [Bj];rfl
  show i7 [.ref q,.str x,.non] hh=_
  unfold i7;generalize i5 (Sm.sFld 1 1 (ae 0)) (ae 1)=SX at *;simp [st]
theorem pA (H:Ho h q p t ps kx ds bs) (hx:cn x=true) (T:∀ v,o=some v->TxZ ps v.1 v.2) (ct:(upd kx x o).length<=50) (ld:ds.length<=1000) (hs:o=none->(lk kx x).isSome=true) :
  ∃ h',eK [.ref q,.str x,oN (o.map (·.1))] h = .ok .non h'/\Ho h' q p t ps (upd kx x o) (ds++[(x,(lk kx x).map (·.1),o.map (·.1))]) []/\Fh p t h h' := by
 have ctk:=H.ct;have lo:=H.lo;have lt:=bY H.tx;have ld1:=bY H.de;have lb:=bY H.ba;have k1:d0 false (.str x)=true:=rfl;have g1:nZ (Sm.sFld 1 1 (ae 0)) (ae 1) [some (.ref q),some (.str x),some (oN (o.map (·.1)))] h = .ok (oN ((lk kx x).map (·.1))) h:=by
  have e:Sm.sFld 1 1 (ae 0) [some (.ref q),some (.str x),some (oN (o.map (·.1)))] h = .ok (.ref t) h:=by simp [H.ob]
  unfold nZ;rw [e];simp only [Out.bind,H.tx,ae]
  show fJ t (.str x) .non h=_
  simp only [fJ,H.tx,k1,OT,jQ]
  cases lk kx x<;>rfl
 have sz:(ds.map bJ).length<sizeLine:=by rw [M0];exact M8 ld (by decide)
 have ap:cY (.ref (t+1)) [bJ (x,(lk kx x).map (·.1),o.map (·.1))] h = .ok .non (h.set (t+1) (.lst ((ds++[(x,(lk kx x).map (·.1),o.map (·.1))]).map bJ))):=by
  simp only [cY,H.de]
  rw [MW sz];simp
 have il:cA (.ref (t+1)) h=true:=by simp only [cA,gB,H.de];rfl
 have f2:Sm.sFld 1 2 (ae 0) [some (.ref q),some (.str x),some (oN (o.map (·.1)))] h = .ok (.ref (t+1)) h:=by simp [H.ob]
 have ob1:(h.set (t+1) (.lst ((ds++[(x,(lk kx x).map (·.1),o.map (·.1))]).map bJ)))[q]? = some (.ins 1 [some (.ref p),some (.ref t),some (.ref (t+1)),some (.ref (t+2))]):=by rw [MS (by lia)];exact H.ob
 have ba1:(h.set (t+1) (.lst ((ds++[(x,(lk kx x).map (·.1),o.map (·.1))]).map bJ)))[t+2]? = some (.lst (bs.map bJ)):=by rw [MS (by lia)];exact H.ba
 have tx1:(h.set (t+1) (.lst ((ds++[(x,(lk kx x).map (·.1),o.map (·.1))]).map bJ)))[t]? = some (.dct false (kx.map (kG gN))):=by rw [MS (by lia)];exact H.tx
 have de1:(h.set (t+1) (.lst ((ds++[(x,(lk kx x).map (·.1),o.map (·.1))]).map bJ)))[t+1]? = some (.lst ((ds++[(x,(lk kx x).map (·.1),o.map (·.1))]).map bJ)):=MY ld1;have n1:(h.set (t+1) (.lst ((ds++[(x,(lk kx x).map (·.1),o.map (·.1))]).map bJ))).length=h.length:=NI;have o1:∀ i,i≠t+1->(h.set (t+1) (.lst ((ds++[(x,(lk kx x).map (·.1),o.map (·.1))]).map bJ)))[i]? = h[i]? := λi hi=>MS (Ne.symm hi)
 generalize hh1:h.set (t+1) (.lst ((ds++[(x,(lk kx x).map (·.1),o.map (·.1))]).map bJ))=h1 at *;have cl:mw (.ref (t+2)) [] h1 = .ok .non (h1.set (t+2) (.lst [])):=by simp only [mw,ba1]
 have il1:cA (.ref (t+2)) h1=true:=by simp only [cA,gB,ba1];rfl
 have f3:Sm.sFld 1 3 (ae 0) [some (.ref q),some (.str x),some (oN (o.map (·.1)))] h1 = .ok (.ref (t+2)) h1:=by simp [ob1]
 have ob2:(h1.set (t+2) (.lst []))[q]? = some (.ins 1 [some (.ref p),some (.ref t),some (.ref (t+1)),some (.ref (t+2))]):=by rw [MS (by lia)];exact ob1
 have tx2:(h1.set (t+2) (.lst []))[t]? = some (.dct false (kx.map (kG gN))):=by rw [MS (by lia)];exact tx1
 have de2:(h1.set (t+2) (.lst []))[t+1]? = some (.lst ((ds++[(x,(lk kx x).map (·.1),o.map (·.1))]).map bJ)):=by rw [MS (by lia)];exact de1
 have ba2:(h1.set (t+2) (.lst []))[t+2]? = some (.lst []):=MY (by lia);have n2:(h1.set (t+2) (.lst [])).length=h.length:=by rw [NI];exact n1
 have o2:∀ i,i≠t+1->i≠t+2->(h1.set (t+2) (.lst []))[i]? = h[i]? := λi a b=>(MS (Ne.symm b)).trans (o1 i a)
 generalize hh2:h1.set (t+2) (.lst [])=h2 at *;have st:=Bq (x:=x) (o:=o) ob2 tx2 (by lia) hs
 have o3:∀ i,i≠t->i≠t+1->i≠t+2->(h2.set t (.dct false ((upd kx x o).map (kG gN))))[i]? = h[i]? := λi a b c=>(MS (Ne.symm a)).trans (o2 i b c)
 refine ⟨h2.set t (.dct false ((upd kx x o).map (kG gN))),?_,⟨(o3 q (by lia) (by lia) (by lia)).trans H.ob,H.sh.keep λi a b=>o3 i (by lia) (by lia) (by lia),H.gd,MY (by lia),?_,?_,λe he=>?_,lo,ct,Bn H.nd x o⟩,⟨λi _ a b c=>o3 i a b c,by rw [NI];exact n2⟩⟩
 ·have ee:(AV.tup [.str x,oN ((lk kx x).map (·.1)),oN (o.map (·.1))])=bJ (x,(lk kx x).map (·.1),o.map (·.1)):=rfl
  generalize h2.set t (.dct false ((upd kx x o).map (kG gN)))=h3 at *;generalize (lk kx x).map (·.1)=O at *;generalize oN (o.map (·.1))=ON at *;unfold eK
  generalize nZ (Sm.sFld 1 1 (ae 0)) (ae 1)=G1 at *;generalize Sm.sFld 1 2 (ae 0)=G2 at *;generalize Sm.sFld 1 3 (ae 0)=G3 at *;simp [g1,f2,ee,il,ap,f3,il1,cl,ob2,st,-cA,-cY,-mw]
 ·rw [MS (by lia)];exact de2
 ·rw [MS (by lia)];exact ba2
 ·rcases Bo he with ⟨v,ev,rfl⟩ | he
  ·exact ⟨T v ev,hx⟩
  ·exact H.tz e he
end
theorem Kb {R:Nat} {fs:List AV} (e:h[R]? = some (.lst fs)) (hf:fs.length<=2000) (v:AV):cY (.ref R) [v] h = .ok .non (h.set R (.lst (fs++[v]))):=by
 have:fs.length<sizeLine:=M8 hf (by decide)
 simp only [cY,e,this,OT]
theorem Br (e:a+b=c) (h:AH):aG (.int a) (.int b) h = .ok (.int c) h:=by
 have:(a:Int)+b=c:=by lia
 simp only [aG,this]
theorem Kc (a b:Nat) (h:AH):fo (.int a) (.int b) h = .ok (.bl (decide (a<b))) h:=by
 have:decide ((a:Int)<b)=decide (a<b):=by apply decide_eq_decide.mpr;lia
 simp only [fo,this]
structure Fr (L:Nat) (h h':AH):Prop where
 fr:∀ i,i<h.length->i≠L->h'[i]? = h[i]?
 hl:h.length<=h'.length
 ro:∃ N:Int,h'[L]? = some (.lst [.int N])
theorem Fr.app (a:Fr L h h') (r:AH):Fr L h (h' ++ r):=by
 obtain ⟨N,e⟩:=a.ro;exact ⟨λi hi n=>by rw [MT (Nf hi a.hl)];exact a.fr i hi n,by rw [M6];have:=a.hl;lia,N,by rw [MT (bY e)];exact e⟩
theorem Fr.trans {L:Nat} {h h' h'':AH} (a:Fr L h h') (b:Fr L h' h''):Fr L h h'' :=
 ⟨λi hi n=>(b.fr i (Nf hi a.hl) n).trans (a.fr i hi n),MV a.hl b.hl,b.ro⟩
theorem Fr.set {L:Nat} {h h':AH} (a:Fr L h h') (N':Int):Fr L h (h'.set L (.lst [.int N'])):=by
 obtain ⟨N,e⟩:=a.ro;exact ⟨λi hi n=>by rw [MS (Ne.symm n)];exact a.fr i hi n,by rw [NI];exact a.hl,N',MY (bY e)⟩
theorem Fr.take (a:Fr L h h') (m:Nat) (hm:0<m) (hm2:m<=10 ^ 50):∃ (v:Nat) (N:Int),v<m/\bC [.ref L,.int m] h' = .ok (.int v) (h'.set L (.lst [.int N]))/\Fr L h (h'.set L (.lst [.int N])):=by
 obtain ⟨N,e⟩:=a.ro;obtain ⟨v,N',hv,t⟩:=mV m e hm hm2;exact ⟨v,N',hv,t,a.set N'⟩
theorem wj (y:Str) (a:Nat):(cq y a).length=min a y.length:=by rw [cS,jP,NP,<- cS]
theorem pB (x y:Str):(x++y).length=x.length+y.length:=by rw [cS,dC,M6,<- cS,<- cS]
def aS:OutS->Out AV
 | .nx _ h=>.ok .non h
 | .rt v h=>.ok v h
 | .ex c _ h=>.ex c h
 | _=>.bad
section
variable {P:OutS->Prop} {a b x y z:SS} {c:SB} {en e2:En} {h h1 h2 h3:AH} {v:AV}
theorem cC (s:a en h = .nx e2 h2) (r:P (b e2 h2)):P (ao a b en h):=by
 have:ao a b en h=b e2 h2:=by simp only [ao,s]
 rw [this];exact r
theorem cD (s:c en h = .ok false h1) (r:P (b en h1)):P (ao (aK c z aO) b en h):=by
 have:ao (aK c z aO) b en h=b en h1:=by simp [s]
 rw [this];exact r
end
theorem fT {P:Out AV->Prop} {m:Nat} {b:SS} {args:List AV} (hn:args.length=n) (r:P (aS (b (args.map some++List.replicate (m-n) none) h))):P (aE n m b args h):=by
 have:aE n m b args h=aS (b (args.map some++List.replicate (m-n) none) h):=by
  simp only [aE]
  rw [MW hn];generalize b (args.map some++List.replicate (m-n) none) h=o
  cases o<;>rfl
 rw [this];exact r
variable {en:En}
theorem hX {P:OutS->Prop} {a:SE} {v:AV} (s:ay a en h = .rt v h') (r:P (.rt v h')):P (ay a en h):=by rw [s];exact r
theorem wo (hx:cn x=true) (hh:AH):og [.str x] hh = .ok .non hh:=by
 simp [og,Bp hx hh]
section
variable {h:AH} {q p t:Nat} {ps:List Pc} {kx:List (Str×Nat×Str)} {ds bs:List De}
def oP:Option Nat->PyData
 | none=>.none
 | some n=>.int n
def wq (d:De):PyData:=.tuple [.str d.1,oP d.2.1,oP d.2.2]
theorem Bs (k:Nat) (hh:AH):∀ l:List De,bG (bx (k+1) hh) (l.map bJ)=some (l.map wq)
 | []=>rfl
 | d::l=>by
  have e:bx (k+1) hh (bJ d)=some (wq d):=by
   obtain ⟨a,o,n⟩:=d
   cases o<;>cases n<;>cases k<;>rfl
  show (match bx (k+1) hh (bJ d),bG (bx (k+1) hh) (l.map bJ) with | some d,some ds=>some (d::ds) | _,_=>none)=_
  rw [e,Bs k hh l];rfl
theorem Kd {W:Nat} {l:List De} {d:De} (e:hh[W]? = some (.lst ((l++[d]).map bJ))):aH (.ref W) (.fl []) hh = .ok (.bl false) hh:=by
 have d1:bx 8 hh (.ref W)=some (.list ((l++[d]).map wq)):=by
  show (match hh[W]? with | some (.lst xs)=>(bG (bx 7 hh) xs).map PyData.list | _=>none)=_
  rw [e];show (bG (bx 7 hh) ((l++[d]).map bJ)).map PyData.list=_
  rw [Bs 6];rfl
 have qq:fB (.ref W) (.fl []) hh=some false:=by
  show (match bx 8 hh (.ref W),bx 8 hh (.fl []) with | some d,some e=>some (PyData.eqv d e) | _,_=>none)=_
  rw [d1];show some (PyData.eqv (.list _) (.list []))=_
  rw [PyData.eqv]
  cases l<;>rfl
 show (match fB (.ref W) (.fl []) hh with | some b=>Out.ok (AV.bl b) hh | none=>Out.bad)=_
 rw [qq]
theorem Ke (H:Ho h q p t ps kx ds bs) {l m:List De} {d:De} (ea:h[a]? = some (.lst ((l++[d]).map bJ))) (eb:h[b]? = some (.lst (m.map bJ))) (hab:a≠b) (lm:m.length<=1000) :
  aH (.ref a) (.fl []) h = .ok (.bl false) h/\gi (.ref a) [] h = .ok (bJ d) (h.set a (.lst (l.map bJ)))/\cA (.ref a) h=true/\cA (.ref b) (h.set a (.lst (l.map bJ)))=true /\
   cY (.ref b) [bJ d] (h.set a (.lst (l.map bJ))) = .ok .non ((h.set a (.lst (l.map bJ))).set b (.lst ((m++[d]).map bJ))):=by
 have eb':(h.set a (.lst (l.map bJ)))[b]? = some (.lst (m.map bJ)):=by rw [MS hab];exact eb
 refine ⟨Kd ea,?_,by simp only [cA,gB,ea];rfl,by simp only [cA,gB,eb'];rfl,?_⟩
 ·have i:((l++[d]).map bJ)[((l++[d]).map bJ).length-1]? = some (bJ d):=by simp
  have dl:((l++[d]).map bJ).dropLast=l.map bJ:=by rw [NZ];exact List.dropLast_concat
  simp only [gi,ea]
  rw [i,dl]
 ·have sz:(m.map bJ).length<sizeLine:=by rw [M0];exact M8 lm (by decide)
  simp only [cY,eb']
  rw [MW sz];simp
theorem Kf {w1:Option Nat} (H:Ho h q p t ps kx (ds++[(x,o.map (·.1),w1)]) bs) (hx:cn x=true) (T:∀ v,o=some v->TxZ ps v.1 v.2) (ct:(upd kx x o).length<=50) (lb:bs.length<=1000) (hs:o=none->(lk kx x).isSome=true) :
  ∃ h',lq [.ref q] h = .ok .non h'/\Ho h' q p t ps (upd kx x o) ds (bs++[(x,o.map (·.1),w1)])/\Fh p t h h' := by
 have lo:=H.lo;have ctk:=H.ct;have lt:=bY H.tx;have la:=bY H.de;have lb' := bY H.ba;obtain ⟨m1,m2,m3,m4,m5⟩:=Ke H H.de H.ba (by lia) lb;have o1:∀ i,i≠t+1->(h.set (t+1) (.lst (ds.map bJ)))[i]? = h[i]? := λi a=>MS (Ne.symm a)
 have d1:(h.set (t+1) (.lst (ds.map bJ)))[t+1]? = some (.lst (ds.map bJ)):=MY la;have n1':(h.set (t+1) (.lst (ds.map bJ))).length=h.length:=NI;generalize h.set (t+1) (.lst (ds.map bJ))=h1 at *;have o2:∀ i,i≠t+1->i≠t+2->(h1.set (t+2) (.lst ((bs++[(x,o.map (·.1),w1)]).map bJ)))[i]? = h[i]? := λi a b=>(MS (Ne.symm b)).trans (o1 i a)
 have d2:(h1.set (t+2) (.lst ((bs++[(x,o.map (·.1),w1)]).map bJ)))[t+1]? = some (.lst (ds.map bJ)):=by rw [MS (by lia)];exact d1
 have b2:(h1.set (t+2) (.lst ((bs++[(x,o.map (·.1),w1)]).map bJ)))[t+2]? = some (.lst ((bs++[(x,o.map (·.1),w1)]).map bJ)):=MY (by lia);have n2':(h1.set (t+2) (.lst ((bs++[(x,o.map (·.1),w1)]).map bJ))).length=h.length:=by rw [NI];exact n1'
 generalize h1.set (t+2) (.lst ((bs++[(x,o.map (·.1),w1)]).map bJ))=h2 at *;have ob1:=(o1 q (by lia)).trans H.ob
 have ob2:=(o2 q (by lia) (by lia)).trans H.ob;have st:=Bq (x:=x) (o:=o) ob2 ((o2 t (by lia) (by lia)).trans H.tx) (by lia) hs;have o3:∀ i,i≠t->i≠t+1->i≠t+2->(h2.set t (.dct false ((upd kx x o).map (kG gN))))[i]? = h[i]? := λi a b c=>(MS (Ne.symm a)).trans (o2 i b c)
 refine ⟨h2.set t (.dct false ((upd kx x o).map (kG gN))),?_,⟨(o3 q (by lia) (by lia) (by lia)).trans H.ob,H.sh.keep λi a b=>o3 i (by lia) (by lia) (by lia),H.gd,MY (by lia),?_,?_,λe he=>?_,lo,ct,Bn H.nd x o⟩,⟨λi _ a b c=>o3 i a b c,by rw [NI];exact n2'⟩⟩
 ·have i0:∀ hh,au (bJ (x,o.map (·.1),w1)) (.int 0) hh = .ok (.str x) hh:=λ_=>rfl
  have i1:∀ hh,au (bJ (x,o.map (·.1),w1)) (.int 1) hh = .ok (oN (o.map (·.1))) hh:=λ_=>rfl
  have ob:=H.ob;generalize oN (o.map (·.1))=ON at *;generalize h2.set t (.dct false ((upd kx x o).map (kG gN)))=h3 at *;generalize bJ (x,o.map (·.1),w1)=V at *;unfold lq
  generalize i7=G at *;simp [ob,m1,m2,m3,m4,m5,ob1,ob2,i0,i1,st,-aH,-cA,-cY,-gi,-au]
 ·rw [MS (by lia)];exact d2
 ·rw [MS (by lia)];exact b2
 ·rcases Bo he with ⟨v,ev,rfl⟩ | he
  ·exact ⟨T v ev,hx⟩
  ·exact H.tz e he
end
theorem Dn.wk {k:Nat} (d:Dn F p h h' ps ps' k n) (hk:k<=k2):Dn F p h h' ps ps' k2 n:=⟨d.ev,{ d.dd with len:=MV d.dd.len (Nr hk _) },d.re⟩
theorem Kg (T:TxZ ps n ""):n=0:=by
 rcases T with ⟨a,_⟩ | ⟨m,f,l,T⟩
 ·exact a
 ·obtain ⟨k,c⟩:=T.ky.cnt
  have:=T.ky.f1;have e:m.sg=0:=T.ky.sg;lia
section
variable {h:AH} {ps:List Pc} {kx:List (Str×Nat×Str)} {ds bs:List De} {x z:Str} {v w:Nat×Str}
theorem fk (H:Ho h 0 1 10 ps kx ds bs) (l:lk kx x=some v):TxZ ps v.1 v.2/\cn x=true:=H.tz _ (gy l)
end
inductive Gd (kx:List (Str×Nat×Str)):AV->Str->Option Str->Nat->Prop
 | give {x y:Str} (hx:cn x=true) (py:bS y=true) (ly:y.length<=10000):Gd kx (.tup [.str "give",.str x,.str y]) x (some y) (2*y.length)
 | copy {x z:Str} {v:Nat×Str} (hx:cn x=true) (l:lk kx z=some v):Gd kx (.tup [.str "copy_of",.str x,.str z]) x (some v.2) 0
 | join {x z:Str} {v w:Nat×Str} (l:lk kx x=some v) (l2:lk kx z=some w) (hm:v.2.length+w.2.length<=1000000000000000000):Gd kx (.tup [.str "join_to",.str x,.str z]) x (some (v.2++w.2)) 240000
 | put {x z:Str} {v w:Nat×Str} {a:Nat} (l:lk kx x=some v) (l2:lk kx z=some w) (ha:a<=v.2.length) (hm:v.2.length+w.2.length<=1000000000000000000):Gd kx (.tup [.str "put_into",.str x,.int a,.str z]) x (some ((cq v.2 a++w.2)++dO v.2 a)) 240000
 | take {x:Str} {v:Nat×Str} {a b:Nat} (l:lk kx x=some v) (ab:a<=b) (hb:b<=v.2.length) (hm:v.2.length<=1000000000000000000):Gd kx (.tup [.str "take_from",.str x,.int a,.int b]) x (some (cq v.2 a++dO v.2 b)) 240000
 | rep {x:Str} {v:Nat×Str} {k:Nat} (l:lk kx x=some v) (hk:k<2 ^ 50) (hm:v.2.length*k<=1000000000000000000):Gd kx (.tup [.str "repeat",.str x,.int k]) x (some (bE v.2 k)) 240000
 | rep0 {x:Str} {n k:Nat} (l:lk kx x=some (n,("" : Str))) (hk:k<2 ^ 63):Gd kx (.tup [.str "repeat",.str x,.int k]) x (some "") 240000
 | drop {x:Str} {v:Nat×Str} (l:lk kx x=some v):Gd kx (.tup [.str "drop",.str x]) x none 0
theorem pC {V:AV} (e1:ae 1 en h = .ok V h) (i0:au V (.int 0) h = .ok (.str x) h):(aJ (ah aH (ah au (ae 1) (af (.int 0))) (af (.str y)))) en h = .ok (decide (x=y)) h:=by
 generalize ae 1=S1 at *;simp [e1,i0,-au]
section
variable {P:OutS->Prop} {h h':AH} {x y:Str} {V W:AV} {en:En} {a:SE} {b:SS}
theorem cT (e1:ae 1 en h = .ok V h) (i0:au V (.int 0) h = .ok (.str x) h) (n : ¬ x=y) (r:P (b en h)):P (ao (aK (aJ (ah aH (ah au (ae 1) (af (.int 0))) (af (.str y)))) (ay a) aO) b en h) :=
 cD ((pC e1 i0).trans (by rw [Nl n])) r
theorem iL (e1:ae 1 en h = .ok V h) (i0:au V (.int 0) h = .ok (.str x) h) (s:a en h = .ok W h') (r:P (.rt W h')):P (ao (aK (aJ (ah aH (ah au (ae 1) (af (.int 0))) (af (.str x)))) (ay a) aO) b en h):=by
 have c:=pC (y:=x) e1 i0;rw [ND rfl] at c;have:ao (aK (aJ (ah aH (ah au (ae 1) (af (.int 0))) (af (.str x)))) (ay a) aO) b en h = .rt W h' := by
  generalize aJ (ah aH (ah au (ae 1) (af (.int 0))) (af (.str x)))=C at *;simp [c,s]
 rw [this];exact r
end
abbrev Qd1 (h:AH) (o:OutS):Prop:=aS o = .ok .non h
abbrev Qi1 (n:Nat) (h:AH) (o:OutS):Prop:=aS o = .ok (.int n) h
structure fU (kx:List (Str×Nat×Str)) (deed:AV) (x:Str) (G:AH->Out AV) (n:Nat):Prop where
 told:∀ {hh h':AH} {ps:List Pc} {ds bs:List De},Ho hh 0 1 10 ps kx ds bs->G hh = .ok (.int n) h'->mK [.ref 0,deed] hh = .ok (.int n) h'
 done:∀ {hh h' h2:AH} {ps:List Pc} {ds bs:List De},Ho hh 0 1 10 ps kx ds bs->(∀ i,i=0\/i=10->h'[i]? = hh[i]?)->G hh = .ok (.int n) h'->eK [.ref 0,.str x,.int n] h' = .ok .non h2->oG [.ref 0,deed] hh = .ok .non h2
 copy:∀ z,au deed (.int 0) [] = .ok (.str "copy_of") []->au deed (.int 2) [] = .ok z []->∃ o v,z = .str o/\lk kx o=some v/\v.1=n
def Mt (h:AH) (ps:List Pc) (kx:List (Str×Nat×Str)) (deed:AV) (x y:Str):Prop :=
 ∃ (G:AH->Out AV) (n:Nat) (ps':List Pc) (h1:AH),Dn G 1 h h1 ps ps' 240000 n/\TxZ ps' n y/\cn x=true/\fU kx deed x G n
section
variable {h h' h2:AH} {ps:List Pc} {kx:List (Str×Nat×Str)} {ds bs:List De} {x z:Str} {v w:Nat×Str} {n:Nat}
theorem mW {P:OutS->Prop} {deed:AV} {b:SS} (H:Ho h 0 1 10 ps kx ds bs) (r:P (b [some (.ref 0),some deed,some (.ref 1)] h)):P (ao (az 2 (aD 1 d5 (ae 0) ag)) b [some (.ref 0),some deed,none] h):=by
 have ob:=H.ob;have sh:d5 [.ref 0] h = .ok (.ref 1) h:=by simp [d5,ob]
 refine cC (e2:=[some (.ref 0),some deed,some (.ref 1)]) (h2:=h) ?_ r
 generalize d5=G at *;simp [ob,sh]
theorem Kh (hx:cn x=true):fU kx (.tup [.str "give",.str x,.str y]) x (iI [.ref 1,.str y]) n:=by
 refine ⟨λ{hh h' ps ds bs} H e=>?_,λ{hh h' h2 ps ds bs} H kp e d=>?_,λo e1 e2=>?_⟩
 ·have ob:=H.ob
  have i1:∀ hx,au (.tup [.str "give",.str x,.str y]) (.int 1) hx = .ok (.str x) hx:=λ_=>rfl
  have i2:∀ hx,au (.tup [.str "give",.str x,.str y]) (.int 2) hx = .ok (.str y) hx:=λ_=>rfl
  refine fT (P:=λo=>o = .ok (.int n) h') rfl (mW (P:=Qi1 n h') H ?_)
  refine iL (P:=Qi1 n h') rfl rfl ?_ rfl
  generalize iI=G1 at *;generalize bI=G2 at *;simp [ob,e,i1,i2,-au]
 ·have ob:=H.ob
  have i1:∀ hx,au (.tup [.str "give",.str x,.str y]) (.int 1) hx = .ok (.str x) hx:=λ_=>rfl
  have i2:∀ hx,au (.tup [.str "give",.str x,.str y]) (.int 2) hx = .ok (.str y) hx:=λ_=>rfl
  have ob1:=(kp 0 (.inl rfl)).trans H.ob;have ck:=wo hx hh;have z:jJ [.ref 0,.str x,.str y] hh = .ok .non h2:=by
   unfold jJ;generalize iI=G1 at *;generalize bI=G2 at *;generalize eK=G3 at *;simp [ob,ck,e,d]
  refine fT (P:=λo=>o = .ok .non h2) rfl ?_
  refine iL (P:=Qd1 h2) rfl rfl ?_ rfl
  generalize jJ=G1 at *;simp [ob,z,i1,i2,-au]
 ·injection e1 with e1 _;injection e1 with e1;exact absurd e1 (by decide +kernel)
theorem Ki  (hx:cn x=true) (l:lk kx z=some v):fU kx (.tup [.str "copy_of",.str x,.str z]) x (λhh=>.ok (.int v.1) hh) v.1:=by
 refine ⟨λ{hh h' ps ds bs} H e=>?_,λ{hh h' h2 ps ds bs} H kp e d=>?_,λo e1 e2=>?_⟩
 ·have ob:=H.ob
  have i1:∀ hx,au (.tup [.str "copy_of",.str x,.str z]) (.int 1) hx = .ok (.str x) hx:=λ_=>rfl
  have i2:∀ hx,au (.tup [.str "copy_of",.str x,.str z]) (.int 2) hx = .ok (.str z) hx:=λ_=>rfl
  have ft:=fi H l
  cases e
  refine fT (P:=λo=>o = .ok (.int v.1) hh) rfl (mW (P:=λo=>aS o = .ok (.int v.1) hh) H ?_)
  refine cT (P:=λo=>aS o = .ok (.int v.1) hh) rfl rfl (by decide +kernel) (iL (P:=λo=>aS o = .ok (.int v.1) hh) rfl rfl ?_ rfl)
  generalize bI=G2 at *;simp [ob,ft,i1,i2,-au]
 ·have ob:=H.ob
  have i1:∀ hx,au (.tup [.str "copy_of",.str x,.str z]) (.int 1) hx = .ok (.str x) hx:=λ_=>rfl
  have i2:∀ hx,au (.tup [.str "copy_of",.str x,.str z]) (.int 2) hx = .ok (.str z) hx:=λ_=>rfl
  have ob1:=(kp 0 (.inl rfl)).trans H.ob;have ft:=fi H l;have ck:=wo hx hh
  cases e
  have z:oA [.ref 0,.str x,.str z] hh = .ok .non h2:=by
   unfold oA;generalize bI=G2 at *;generalize eK=G3 at *;simp [ob,ft,ck,d]
  refine fT (P:=λo=>o = .ok .non h2) rfl ?_
  refine cT (P:=Qd1 h2) rfl rfl (by decide +kernel) (iL (P:=Qd1 h2) rfl rfl ?_ rfl)
  generalize oA=G1 at *;simp [ob,z,i1,i2,-au]
 ·cases e2;exact ⟨z,v,rfl,l,rfl⟩
theorem Kj  (l:lk kx x=some v) (l2:lk kx z=some w):fU kx (.tup [.str "join_to",.str x,.str z]) x (bT [.ref 1,.int v.1,.int w.1]) n:=by
 refine ⟨λ{hh h' ps ds bs} H e=>?_,λ{hh h' h2 ps ds bs} H kp e d=>?_,λo e1 e2=>?_⟩
 ·have ob:=H.ob
  have i1:∀ hx,au (.tup [.str "join_to",.str x,.str z]) (.int 1) hx = .ok (.str x) hx:=λ_=>rfl
  have i2:∀ hx,au (.tup [.str "join_to",.str x,.str z]) (.int 2) hx = .ok (.str z) hx:=λ_=>rfl
  have ft:=fi H l;have ft2:=fi H l2;refine fT (P:=λo=>o = .ok (.int n) h') rfl (mW (P:=Qi1 n h') H ?_)
  refine cT (P:=Qi1 n h') rfl rfl (by decide +kernel) (cT (P:=Qi1 n h') rfl rfl (by decide +kernel) (iL (P:=Qi1 n h') rfl rfl ?_ rfl))
  generalize bT=G1 at *;generalize bI=G2 at *;simp [ob,ft,ft2,e,i1,i2,-au]
 ·have ob:=H.ob
  have i1:∀ hx,au (.tup [.str "join_to",.str x,.str z]) (.int 1) hx = .ok (.str x) hx:=λ_=>rfl
  have i2:∀ hx,au (.tup [.str "join_to",.str x,.str z]) (.int 2) hx = .ok (.str z) hx:=λ_=>rfl
  have ob1:=(kp 0 (.inl rfl)).trans H.ob;have ft:=fi H l;have ft2:=fi H l2;have z:oB [.ref 0,.str x,.str z] hh = .ok .non h2:=by
   unfold oB;generalize bT=G1 at *;generalize bI=G2 at *;generalize eK=G3 at *;simp [ob,ft,ft2,e,d]
  refine fT (P:=λo=>o = .ok .non h2) rfl ?_
  refine cT (P:=Qd1 h2) rfl rfl (by decide +kernel) (cT (P:=Qd1 h2) rfl rfl (by decide +kernel) (iL (P:=Qd1 h2) rfl rfl ?_ rfl))
  generalize oB=G1 at *;simp [ob,z,i1,i2,-au]
 ·injection e1 with e1 _;injection e1 with e1;exact absurd e1 (by decide +kernel)
theorem Kk (l:lk kx x=some v) (l2:lk kx z=some w):fU kx (.tup [.str "put_into",.str x,.int a,.str z]) x (i8 [.ref 1,.int v.1,.int a,.int w.1]) n:=by
 refine ⟨λ{hh h' ps ds bs} H e=>?_,λ{hh h' h2 ps ds bs} H kp e d=>?_,λo e1 e2=>?_⟩
 ·have ob:=H.ob
  have i1:∀ hx,au (.tup [.str "put_into",.str x,.int a,.str z]) (.int 1) hx = .ok (.str x) hx:=λ_=>rfl
  have i2:∀ hx,au (.tup [.str "put_into",.str x,.int a,.str z]) (.int 2) hx = .ok (.int a) hx:=λ_=>rfl
  have i3:∀ hx,au (.tup [.str "put_into",.str x,.int a,.str z]) (.int 3) hx = .ok (.str z) hx:=λ_=>rfl
  have ft:=fi H l;have ft2:=fi H l2;refine fT (P:=λo=>o = .ok (.int n) h') rfl (mW (P:=Qi1 n h') H ?_)
  refine cT (P:=Qi1 n h') rfl rfl (by decide +kernel) (cT (P:=Qi1 n h') rfl rfl (by decide +kernel) (cT (P:=Qi1 n h') rfl rfl (by decide +kernel) (iL (P:=Qi1 n h') rfl rfl ?_ rfl)))
  generalize i8=G1 at *;generalize bI=G2 at *;simp [ob,ft,ft2,e,i1,i2,i3,-au]
 ·have ob:=H.ob
  have i1:∀ hx,au (.tup [.str "put_into",.str x,.int a,.str z]) (.int 1) hx = .ok (.str x) hx:=λ_=>rfl
  have i2:∀ hx,au (.tup [.str "put_into",.str x,.int a,.str z]) (.int 2) hx = .ok (.int a) hx:=λ_=>rfl
  have i3:∀ hx,au (.tup [.str "put_into",.str x,.int a,.str z]) (.int 3) hx = .ok (.str z) hx:=λ_=>rfl
  have ob1:=(kp 0 (.inl rfl)).trans H.ob;have ft:=fi H l;have ft2:=fi H l2;have z:oC [.ref 0,.str x,.int a,.str z] hh = .ok .non h2:=by
   unfold oC;generalize i8=G1 at *;generalize bI=G2 at *;generalize eK=G3 at *;simp [ob,ft,ft2,e,d]
  refine fT (P:=λo=>o = .ok .non h2) rfl ?_
  refine cT (P:=Qd1 h2) rfl rfl (by decide +kernel) (cT (P:=Qd1 h2) rfl rfl (by decide +kernel) (cT (P:=Qd1 h2) rfl rfl (by decide +kernel) (iL (P:=Qd1 h2) rfl rfl ?_ rfl)))
  generalize oC=G1 at *;simp [ob,z,i1,i2,i3,-au]
 ·injection e1 with e1 _;injection e1 with e1;exact absurd e1 (by decide +kernel)
theorem Kl (l:lk kx x=some v):fU kx (.tup [.str "take_from",.str x,.int a,.int b]) x (jL [.ref 1,.int v.1,.int a,.int b]) n:=by
 refine ⟨λ{hh h' ps ds bs} H e=>?_,λ{hh h' h2 ps ds bs} H kp e d=>?_,λo e1 e2=>?_⟩
 ·have ob:=H.ob
  have i1:∀ hx,au (.tup [.str "take_from",.str x,.int a,.int b]) (.int 1) hx = .ok (.str x) hx:=λ_=>rfl
  have i2:∀ hx,au (.tup [.str "take_from",.str x,.int a,.int b]) (.int 2) hx = .ok (.int a) hx:=λ_=>rfl
  have i3:∀ hx,au (.tup [.str "take_from",.str x,.int a,.int b]) (.int 3) hx = .ok (.int b) hx:=λ_=>rfl
  have ft:=fi H l;refine fT (P:=λo=>o = .ok (.int n) h') rfl (mW (P:=Qi1 n h') H ?_)
  refine cT (P:=Qi1 n h') rfl rfl (by decide +kernel) (cT (P:=Qi1 n h') rfl rfl (by decide +kernel) (cT (P:=Qi1 n h') rfl rfl (by decide +kernel) (cT (P:=Qi1 n h') rfl rfl (by decide +kernel) (iL (P:=Qi1 n h') rfl rfl ?_ rfl))))
  generalize jL=G1 at *;generalize bI=G2 at *;simp [ob,ft,e,i1,i2,i3,-au]
 ·have ob:=H.ob
  have i1:∀ hx,au (.tup [.str "take_from",.str x,.int a,.int b]) (.int 1) hx = .ok (.str x) hx:=λ_=>rfl
  have i2:∀ hx,au (.tup [.str "take_from",.str x,.int a,.int b]) (.int 2) hx = .ok (.int a) hx:=λ_=>rfl
  have i3:∀ hx,au (.tup [.str "take_from",.str x,.int a,.int b]) (.int 3) hx = .ok (.int b) hx:=λ_=>rfl
  have ob1:=(kp 0 (.inl rfl)).trans H.ob;have ft:=fi H l;have z:oE [.ref 0,.str x,.int a,.int b] hh = .ok .non h2:=by
   unfold oE;generalize jL=G1 at *;generalize bI=G2 at *;generalize eK=G3 at *;simp [ob,ft,e,d]
  refine fT (P:=λo=>o = .ok .non h2) rfl ?_
  refine cT (P:=Qd1 h2) rfl rfl (by decide +kernel) (cT (P:=Qd1 h2) rfl rfl (by decide +kernel) (cT (P:=Qd1 h2) rfl rfl (by decide +kernel) (cT (P:=Qd1 h2) rfl rfl (by decide +kernel) (iL (P:=Qd1 h2) rfl rfl ?_ rfl))))
  generalize oE=G1 at *;simp [ob,z,i1,i2,i3,-au]
 ·injection e1 with e1 _;injection e1 with e1;exact absurd e1 (by decide +kernel)
theorem Bt {k:Nat} (l:lk kx x=some v):fU kx (.tup [.str "repeat",.str x,.int k]) x (hE [.ref 1,.int v.1,.int k]) n:=by
 refine ⟨λ{hh h' ps ds bs} H e=>?_,λ{hh h' h2 ps ds bs} H kp e d=>?_,λo e1 e2=>?_⟩
 ·have ob:=H.ob
  have i1:∀ hx,au (.tup [.str "repeat",.str x,.int k]) (.int 1) hx = .ok (.str x) hx:=λ_=>rfl
  have i2:∀ hx,au (.tup [.str "repeat",.str x,.int k]) (.int 2) hx = .ok (.int k) hx:=λ_=>rfl
  have ft:=fi H l;refine fT (P:=λo=>o = .ok (.int n) h') rfl (mW (P:=Qi1 n h') H ?_)
  refine cT (P:=Qi1 n h') rfl rfl (by decide +kernel) (cT (P:=Qi1 n h') rfl rfl (by decide +kernel) (cT (P:=Qi1 n h') rfl rfl (by decide +kernel) (cT (P:=Qi1 n h') rfl rfl (by decide +kernel) (cT (P:=Qi1 n h') rfl rfl (by decide +kernel) (?_)))))
  generalize hE=G1 at *;generalize bI=G2 at *;simp [ob,ft,e,Qi1,aS,i1,i2,-au]
 ·have ob:=H.ob
  have i1:∀ hx,au (.tup [.str "repeat",.str x,.int k]) (.int 1) hx = .ok (.str x) hx:=λ_=>rfl
  have i2:∀ hx,au (.tup [.str "repeat",.str x,.int k]) (.int 2) hx = .ok (.int k) hx:=λ_=>rfl
  have ob1:=(kp 0 (.inl rfl)).trans H.ob;have ft:=fi H l;have z:oF [.ref 0,.str x,.int k] hh = .ok .non h2:=by
   unfold oF;generalize hE=G1 at *;generalize bI=G2 at *;generalize eK=G3 at *;simp [ob,ft,e,d]
  refine fT (P:=λo=>o = .ok .non h2) rfl ?_
  refine cT (P:=Qd1 h2) rfl rfl (by decide +kernel) (cT (P:=Qd1 h2) rfl rfl (by decide +kernel) (cT (P:=Qd1 h2) rfl rfl (by decide +kernel) (cT (P:=Qd1 h2) rfl rfl (by decide +kernel) (cT (P:=Qd1 h2) rfl rfl (by decide +kernel) (iL (P:=Qd1 h2) rfl rfl ?_ rfl)))))
  generalize oF=G1 at *;simp [ob,z,i1,i2,-au]
 ·injection e1 with e1 _;injection e1 with e1;exact absurd e1 (by decide +kernel)
theorem Km {pp:List Pc} {k:Nat} (S:ShelfAt hh 1 pp) (hk:k<2 ^ 63):hE [.ref 1,.int (0:Nat),.int k] hh = .ok (.int (0:Nat)) hh:=by
 have ev:=vV S (oS pp) hk (by show 0*k<=_;rw [Nat.zero_mul];exact Nj _)
 rw [MW rfl] at ev;exact ev
theorem pD {deed:AV} (H:Ho h 0 1 10 ps kx ds bs) (g:Gd kx deed x (some y) c) (hc:c<=240000) (hz:ps.length<13000000):Mt h ps kx deed x y:=by
 have nm:∀ {x:Str} {v:Nat×Str},lk kx x=some v->cn x=true:=λl=>(fk H l).2
 cases g with
 | give hx py ly =>
  obtain ⟨n,ps',h1,d,T⟩:=A6 H.sh H.gd py ly (by lia);exact ⟨_,n,ps',h1,d.wk (by lia),T,hx,Kh hx⟩
 | @copy x z v hx l =>
  exact ⟨λhh=>.ok (.int v.1) hh,v.1,ps,h,(Dn.val (n:=v.1) H.sh H.gd λ_ _ _ _ _=>rfl).wk (by lia),(fk H l).1,hx,Ki hx l⟩
 | join l l2 hm =>
  obtain ⟨n,ps',h1,d,T⟩:=vC H.sh H.gd (fk H l).1 (fk H l2).1 hm (by lia);exact ⟨_,n,ps',h1,d.wk (MV (vU H.gd (fk H l).1 (fk H l2).1) (by decide)),T,nm l,Kj l l2⟩
 | put l l2 ha hm =>
  obtain ⟨n,ps',h1,d,T⟩:=J5 H.sh H.gd (fk H l).1 (fk H l2).1 ha hm hz;have a:=mU H.gd (fk H l).1;have b:=mU H.gd (fk H l2).1;exact ⟨_,n,ps',h1,d.wk (by lia),T,nm l,Kk l l2⟩
 | take l ab hb hm =>
  obtain ⟨n,ps',h1,d,T⟩:=J6 H.sh H.gd (fk H l).1 ab hb hm hz;have a:=mU H.gd (fk H l).1;exact ⟨_,n,ps',h1,d.wk (by lia),T,nm l,Kl l⟩
 | rep l hk hm =>
  obtain ⟨n,ps',h1,d,T⟩:=JJ H.sh H.gd (fk H l).1 hk (by decide) hm (by lia);exact ⟨_,n,ps',h1,d.wk (by decide),T,nm l,Bt l⟩
 | @rep0 x n k l hk =>
  obtain rfl:n=0:=Kg (fk H l).1;have dv:Dn (hE [.ref 1,.int (0:Nat),.int k]) 1 h h ps ps 0 0:=Dn.val H.sh H.gd λhh pp S' _ pr=>Km S' hk
  obtain ⟨v,ev,l'⟩:∃ v:Nat×Str,v.1=0/\lk kx x=some v:=⟨_,rfl,l⟩
  have m:=Bt (n:=0) (k:=k) l';rw [ev] at m;exact ⟨hE [.ref 1,.int (0:Nat),.int k],0,ps,h,dv.wk (Nj _),.inl ⟨rfl,rfl⟩,nm l,m⟩
end
theorem wt (g:Nat×Str->AV):∀ kx:List (Str×Nat×Str),lg ((kx.map (kG g)).map (·.1))=some (kx.map (·.1))
 | []=>rfl
 | e::r=>by
  show (lg ((r.map (kG g)).map (·.1))).map (e.1 :: ·)=_
  rw [wt g r];rfl
theorem Bu (h:cn x=true):x.cps.all (· < 0x110000)=true:=by
 unfold cn at h;simp only [Nz] at h
 have a:=h.2;rw [NF] at a;rw [<- Array.all_toList,NF];intro c hc
 have:=a c hc;unfold lH at this;simp only [Nz,Og] at this
 exact ND (by lia)
def mX (p:Str×Nat):PyData:=.tuple [.str p.1,.int p.2]
theorem Bv (k:Nat) (hh:AH):∀ l:List (Str×Nat),bG (bx (k+1) hh) (l.map λp=>AV.tup [.str p.1,.int p.2])=some (l.map mX)
 | []=>rfl
 | d::l=>by
  have e:bx (k+1) hh (AV.tup [.str d.1,.int d.2])=some (mX d):=by cases k<;>rfl
  show (match bx (k+1) hh (AV.tup [.str d.1,.int d.2]),bG (bx (k+1) hh) (l.map λp=>AV.tup [.str p.1,.int p.2]) with | some d,some ds=>some (d::ds) | _,_=>none)=_
  rw [e,Bv k hh l];rfl
theorem Bw:∀ l:List (Str×Nat),PyData.eqvAll (l.map mX) (l.map mX)=true
 | []=>by simp [PyData.eqvAll]
 | d::l=>by rw [Ny];simp [PyData.eqvAll,PyData.eqv,mX,Bw l]
theorem Bx {x:Str}:∀ {kx:List (Str×Nat×Str)},x∈kx.map (·.1)->∃ v,lk kx x=some v
 | [],h=>nomatch h
 | e::r,h=>by
  rw [hW];by_cases z:e.1=x
  ·exact ⟨e.2,MW z⟩
  ·rw [MX z]
   rcases Nd.mp h with h | h
   ·exact absurd h.symm z
   ·exact Bx h
def cK (kx:List (Str×Nat×Str)):List Str:=iH (kx.map (·.1))
theorem By (h:x∈cK kx):∃ v,lk kx x=some v:=Bx ((gE _).mem_iff.mp h)
theorem Kn {v:Nat×Str} (h:lk kx x=some v):x∈cK kx:=(gE _).mem_iff.mpr (List.mem_map_of_mem (f:=λe=>e.1) (gy h))
theorem wu (kx:List (Str×Nat×Str)):(cK kx).length=kx.length:=by unfold cK;rw [(gE _).length_eq,M0]
def lI (kx:List (Str×Nat×Str)) (x:Str):Nat:=((lk kx x).map (·.1)).getD 0
theorem wx {v:Nat×Str} (h:lk kx x=some v):lI kx x=v.1:=by unfold lI;rw [h];rfl
def gz (kx:List (Str×Nat×Str)) (x:Str):List (Str×Nat):=((cK kx).filter λz=>decide (¬ z=x)).map λz=>(z,lI kx z)
def cQ (kx:List (Str×Nat×Str)) (x:Str):AV:=.fl ((gz kx x).map λp=>AV.tup [.str p.1,.int p.2])
theorem Ko (l:List (Str×Nat)) (hh:AH):bL (.fl (l.map λp=>AV.tup [.str p.1,.int p.2])) (.fl (l.map λp=>AV.tup [.str p.1,.int p.2])) hh = .ok (.bl false) hh:=by
 have d1:bx 8 hh (.fl (l.map λp=>AV.tup [.str p.1,.int p.2]))=some (.list (l.map mX)):=by
  show (bG (bx 7 hh) (l.map λp=>AV.tup [.str p.1,.int p.2])).map PyData.list=_
  rw [Bv 6];rfl
 have qq:fB (.fl (l.map λp=>AV.tup [.str p.1,.int p.2])) (.fl (l.map λp=>AV.tup [.str p.1,.int p.2])) hh=some true:=by
  show (match bx 8 hh (.fl (l.map λp=>AV.tup [.str p.1,.int p.2])),bx 8 hh (.fl (l.map λp=>AV.tup [.str p.1,.int p.2])) with | some d,some e=>some (PyData.eqv d e) | _,_=>none)=_
  rw [d1];show some (PyData.eqv (.list _) (.list _))=_
  simp [PyData.eqv,Bw]
 show (match fB (.fl (l.map λp=>AV.tup [.str p.1,.int p.2])) (.fl (l.map λp=>AV.tup [.str p.1,.int p.2])) hh with | some b=>Out.ok (AV.bl (!b)) hh | none=>Out.bad)=_
 rw [qq];rfl
theorem Kp (kx:List (Str×Nat×Str)) (x:Str) (v:Nat×Str):((put kx x v).map (·.1)).filter (λz=>decide (¬ z=x))=(kx.map (·.1)).filter λz=>decide (¬ z=x):=by
 unfold put;split
 ·rw [OZ]
  congr 1
  refine On λe _=>?_
  show (if e.1=x then (x,v) else e).1=e.1
  split
  ·rename_i z;exact z.symm
  ·rfl
 ·rw [NZ,List.filter_append]
  simp
theorem Kq (kx:List (Str×Nat×Str)) (x:Str) (v:Nat×Str):gz (put kx x v) x=gz kx x:=by
 have e:(cK (put kx x v)).filter (λz=>decide (¬ z=x))=(cK kx).filter λz=>decide (¬ z=x):=by
  refine qQ ?_ ((nY _).filter _) ((nY _).filter _)
  have a:=(gE ((put kx x v).map (·.1))).filter λz=>decide (¬ z=x)
  have b:=(gE (kx.map (·.1))).filter λz=>decide (¬ z=x)
  rw [Kp] at a;exact a.trans b.symm
 unfold gz;rw [e];refine On λz hz=>?_
 have:=(Pn.mp hz).2;have nz : ¬ z=x:=by simpa using this
 unfold lI;rw [we,MX (λq=>nz q.symm)]
section
variable {h:AH} {q p t:Nat} {ps:List Pc} {kx:List (Str×Nat×Str)} {ds bs:List De}
theorem Bz {g:Nat×Str->AV} (e:h[K]? = some (.dct false (kx.map (kG g)))) (ct:kx.length<=50) (nm:∀ e∈kx,cn e.1=true):mr [.ref K] h = .ok (.fl ((iH (kx.map (·.1))).map AV.str)) h:=by
 have kt:jE (.ref K) h=some (kx.map (·.1)):=by
  unfold jE;dsimp only;rw [e];exact wt g kx
 have nm:∀ x∈kx.map (·.1),cn x=true:=λx hx=>by
  obtain ⟨e,he,rfl⟩:=OI.mp hx;exact nm e he
 unfold mr;dsimp only;rw [kt];dsimp only;rw [MW ⟨by rw [M0];lia,λx hx=>⟨MV (rT (nm x hx)) (by decide),Bu (nm x hx)⟩⟩]
theorem jR (H:Ho h q p t ps kx ds bs):cF [.ref q] h = .ok (.ref h.length) (h++[.lst ((cK kx).map AV.str)]):=by
 have so:oa [.ref t] h = .ok (.ref h.length) (h++[.lst ((cK kx).map AV.str)]):=by
  have kt:jE (.ref t) h=some (kx.map (·.1)):=by
   unfold jE;dsimp only;rw [H.tx];exact wt gN kx
  have nm:∀ x∈kx.map (·.1),cn x=true:=λx hx=>by
   obtain ⟨e,he,rfl⟩:=OI.mp hx;exact (H.tz e he).2
  unfold oa;dsimp only;rw [kt];dsimp only;rw [MW ⟨by rw [M0];have:=H.ct;lia,λx hx=>⟨MV (rT (nm x hx)) (by decide),Bu (nm x hx)⟩⟩]
  rfl
 simp [cF,H.ob,so]
theorem pE (H:Ho h q p t ps kx ds bs):d5 [.ref q] h = .ok (.ref p) h:=by
 simp [d5,H.ob]
theorem BC (H:Ho h q p t ps kx ds bs) (x:Str):jK [.ref q,.str x] h = .ok (cQ kx x) (h++[.lst ((cK kx).map AV.str)]):=by
 have fn:=jR H;have H1:=H.app [.lst ((cK kx).map AV.str)];obtain ⟨h1,eh1⟩:∃ h1,h1=h++[AO.lst ((cK kx).map AV.str)]:=⟨_,rfl⟩
 have e1:h1[h.length]? = some (.lst ((cK kx).map AV.str)):=by rw [eh1];simp
 rw [<- eh1] at fn H1 ⊢;have ob:=H1.ob
 have ob0:=H.ob;have lv:fu (some h.length) ((cK kx).map AV.str) h1=true:=by simp [fu,e1]
 have cp:=rp (js:=[0,1]) (en:=[some (.ref q),some (.str x)]) (w:=some h.length) (all:=(cK kx).map AV.str) (c:=aJ (ah bL (ae 0) (ae 2))) (e:=bB (aj (ae 0) (aj (aD 1 bI (ae 1) (aj (ae 0) ag)) ag))) (g:=AV.str) (f:=λz=>AV.tup [.str z,.int (lI kx z)]) (p:=λz=>decide (¬ z=x)) (h:=h1) lv (cK kx) [] (by
  intro z _;by_cases q:z=x
  ·subst q;simp
  ·simp [q]) (by
  intro z hz _;obtain ⟨v,e⟩:=By hz;have ft:=fi H1 e;rw [wx e];generalize bI=G at *;simp [ob,ft]) (by
  have:=wu kx;have:=H.ct;exact MV (m:=50) (by simp;lia) (by decide))
 rw [O5] at cp;have ev:((cK kx).filter λz=>decide (¬ z=x)).map (λz=>AV.tup [.str z,.int (lI kx z)])=(gz kx x).map λp=>AV.tup [.str p.1,.int p.2]:=by
  unfold gz;rw [OZ];rfl
 rw [ev] at cp;have it:cO (aD 1 cF (ae 0) ag) [some (.ref q),some (.str x)] h = .ok ((cK kx).map AV.str,some h.length) h1:=by
  clear cp ev lv;generalize (cK kx).map AV.str=W at *;generalize cF=G at *;simp [ob0,fn,e1]
 have cc:fE [0,1] (cO (aD 1 cF (ae 0) ag)) (aJ (ah bL (ae 0) (ae 2))) (bB (aj (ae 0) (aj (aD 1 bI (ae 1) (aj (ae 0) ag)) ag))) [some (.ref q),some (.str x)] h = .ok (cQ kx x) h1:=by
  simp only [fE,it,cp];rfl
 unfold jK;generalize fE [0,1] (cO (aD 1 cF (ae 0) ag)) (aJ (ah bL (ae 0) (ae 2))) (bB (aj (ae 0) (aj (aD 1 bI (ae 1) (aj (ae 0) ag)) ag)))=C at *;simp [cc]
theorem Kr {deed:AV} (e:oG [.ref q,deed] h = .ok .non h'):mL [.ref q,deed] h = .ok (.str "") h' := by
 unfold mL;generalize oG=G at *;simp [qU,e]
end
theorem pF (k:Nat) (hh:AH):∀ l:List Str,bG (bx (k+1) hh) (l.map AV.str)=some (l.map PyData.str)
 | []=>rfl
 | d::l=>by
  have e:bx (k+1) hh (AV.str d)=some (.str d):=by cases k<;>rfl
  show (match bx (k+1) hh (AV.str d),bG (bx (k+1) hh) (l.map AV.str) with | some d,some ds=>some (d::ds) | _,_=>none)=_
  rw [e,pF k hh l];rfl
theorem Ks (l:List Str) (hh:AH):aH (.fl (l.map AV.str)) (.fl []) hh = .ok (.bl (decide (l=[]))) hh:=by
 have d1:bx 8 hh (.fl (l.map AV.str))=some (.list (l.map PyData.str)):=by
  show (bG (bx 7 hh) (l.map AV.str)).map PyData.list=_
  rw [pF 6];rfl
 have qq:fB (.fl (l.map AV.str)) (.fl []) hh=some (decide (l=[])):=by
  show (match bx 8 hh (.fl (l.map AV.str)),bx 8 hh (.fl []) with | some d,some e=>some (PyData.eqv d e) | _,_=>none)=_
  rw [d1];show some (PyData.eqv (.list _) (.list []))=_
  rw [PyData.eqv]
  cases l<;>rfl
 show (match fB (.fl (l.map AV.str)) (.fl []) hh with | some b=>Out.ok (AV.bl b) hh | none=>Out.bad)=_
 rw [qq]
def six:List Str:=["a", "ab", "b", "abcdefgh", "zz", "q"]
theorem Kt:∀ x∈six,cn x=true:=by decide +kernel
variable {xs:List AV}
theorem pG {v:AV} (e:xs[i]? = some v) (h:AH):au (.fl xs) (.int i) h = .ok v h:=by
 simp only [au,jh e]
abbrev Nm (odd:List AV) (v:AV):Prop:=v∈odd\/∃ x,v = .str x/\cn x=true
section
variable {h:AH} {L K:Nat} {kx:List (Str×Nat×Str)}
theorem pH (e:h[K]? = some (.dct false (kx.map (kG gS)))) (eL:∃ N:Int,h[L]? = some (.lst [.int N])) (KL:K≠L) (ct:kx.length<=50) (nm:∀ e∈kx,cn e.1=true) {odd:List AV} (o1:0<odd.length) (o2:odd.length<=20) :
  ∃ v h',fM [.ref L,.ref K,.fl odd] h = .ok v h'/\Fr L h h'/\Nm odd v:=by
 have F0:Fr L h h:=⟨λ_ _ _=>rfl,MQ _,eL⟩
 have so:=Bz e ct nm;obtain ⟨W,eW⟩:∃ W,W=iH (kx.map (·.1)):=⟨_,rfl⟩
 have wm:∀ x∈W,cn x=true:=λx hx=>by
  rw [eW] at hx;obtain ⟨e,he,rfl⟩:=OI.mp ((gE _).mem_iff.mp hx)
  exact nm e he
 have wl:W.length<=50:=by rw [eW,(gE _).length_eq,M0];exact ct
 rw [<- eW] at so;obtain ⟨kd,N1,hk,t1,F1⟩:=F0.take 8 (by decide) (by decide)
 have t1:bC [.ref L,.int 8] h = .ok (.int kd) (h.set L (.lst [.int N1])):=t1;obtain ⟨h1,eh1⟩:∃ h1,h1=h.set L (.lst [.int N1]):=⟨_,rfl⟩
 rw [<- eh1] at t1 F1;obtain ⟨PP,ePP⟩:∃ PP:OutS->Prop,PP=λo=>∃ v h',aS o = .ok v h'/\Fr L h h'/\Nm odd v:=⟨_,rfl⟩
 have toP:∀ o,PP o->∃ v h',aS o = .ok v h'/\Fr L h h'/\Nm odd v:=λo z=>by rw [ePP] at z;exact z
 have ofP:∀ v h',Fr L h h'->Nm odd v->PP (.rt v h'):=λv h' a b=>by rw [ePP];exact ⟨v,h',rfl,a,b⟩
 clear ePP;refine fT (P:=λo=>∃ v h',o = .ok v h'/\Fr L h h'/\Nm odd v) rfl (toP _ ?_)
 refine cC (e2:=[some (.ref L),some (.ref K),some (.fl odd),some (.fl (W.map AV.str)),none]) (h2:=h) ?_ ?_
 ·have s:jF (ae 1) [some (.ref L),some (.ref K),some (.fl odd),none,none] h = .ok (.fl (W.map AV.str)) h:=so
  generalize W.map AV.str=Z at *;generalize jF (ae 1)=SK at *;simp [s]
 refine cC (e2:=[some (.ref L),some (.ref K),some (.fl odd),some (.fl (W.map AV.str)),some (.int kd)]) (h2:=h1) ?_ ?_
 ·generalize W.map AV.str=Z at *
  generalize bC=G at *;simp [t1]
 have k0:(aJ (ah aH (ae 4) (af (.int 0)))) [some (.ref L),some (.ref K),some (.fl odd),some (.fl (W.map AV.str)),some (.int kd)] h1 = .ok (decide (kd=0)) h1:=by
  by_cases z:kd=0
  ·subst z;simp
  ·have : ¬ (kd:Int)=0:=by lia
   simp [z]
 by_cases z0:kd=0
 ·obtain ⟨i,N2,hi,t2,F2⟩:=F1.take odd.length o1 (MV o2 (by decide))
  have ev:odd[i]? = some odd[i]:=M3 hi;have ix:=pG ev (h1.set L (.lst [.int N2]));have q:ah au (ae 2) (aC bC (aj (ae 0) (aj (aC aW (aj (ae 2) ag)) ag))) [some (.ref L),some (.ref K),some (.fl odd),some (.fl (W.map AV.str)),some (.int kd)] h1 = .ok odd[i] (h1.set L (.lst [.int N2])):=by
   generalize W.map AV.str=Z at *;generalize bC=G at *;generalize h1.set L (.lst [.int N2])=h2 at *;simp [t2,ix,-au]
  rw [ND z0] at k0;have s:∀ {a:SE} {b:SS} {en:En} {v:AV} {hx:AH},a en h1 = .ok v hx->(aJ (ah aH (ae 4) (af (.int 0)))) en h1 = .ok true h1->ao (aK (aJ (ah aH (ae 4) (af (.int 0)))) (ay a) aO) b en h1 = .rt v hx:=λ{a b en v hx} e1 e2=>by
   generalize aJ (ah aH (ae 4) (af (.int 0)))=C at *;simp [e1,e2]
  rw [s q k0];exact ofP _ _ F2 (.inl (Ov hi))
 rw [Nl z0] at k0;refine cD k0 ?_
 have k3:(iV (aJ (ah fo (ae 4) (af (.int 3)))) (aJ (ah aH (ae 3) (aX ag)))) [some (.ref L),some (.ref K),some (.fl odd),some (.fl (W.map AV.str)),some (.int kd)] h1 = .ok (decide (kd<3) || decide (W=[])) h1:=by
  have q1:fo (.int kd) (.int 3) h1 = .ok (.bl (decide (kd<3))) h1:=Kc kd 3 h1;have q2:=Ks W h1;generalize decide (W=[])=bw at *;generalize decide (kd<3)=bk at *;generalize W.map AV.str=Z at *;generalize (kd:Int)=KD at *
  cases bk<;>cases bw<;>simp [q1,q2,-aH,-fo]
 by_cases z1:(decide (kd<3) || decide (W=[]))=true
 ·obtain ⟨i,N2,hi,t2,F2⟩:=F1.take 6 (by decide) (by decide)
  have t2:bC [.ref L,.int 6] h1 = .ok (.int i) (h1.set L (.lst [.int N2])):=t2;have ev:(six.map AV.str)[i]? = some (.str six[i]):=by rw [Nu,M3 (by exact hi)];rfl
  have ix:=pG ev (h1.set L (.lst [.int N2]));have sx:six.map AV.str=[.str "a",.str "ab",.str "b",.str "abcdefgh",.str "zz",.str "q"]:=rfl;rw [sx] at ix;rw [z1] at k3;have q:ah au (aX (aj (af (.str "a")) (aj (af (.str "ab")) (aj (af (.str "b")) (aj (af (.str "abcdefgh")) (aj (af (.str "zz")) (aj (af (.str "q")) ag))))))) (aC bC (aj (ae 0) (aj (af (.int 6)) ag))) [some (.ref L),some (.ref K),some (.fl odd),some (.fl (W.map AV.str)),some (.int kd)] h1 = .ok (.str six[i]) (h1.set L (.lst [.int N2])):=by
   generalize AV.str six[i]=SI at *;generalize W.map AV.str=Z at *;generalize bC=G at *;generalize h1.set L (.lst [.int N2])=h2 at *;simp [t2,ix,-au]
  have s:∀ {a:SE} {c:SB} {b:SS} {en:En} {v:AV} {hx:AH},a en h1 = .ok v hx->c en h1 = .ok true h1->ao (aK c (ay a) aO) b en h1 = .rt v hx:=λ{a c b en v hx} e1 e2=>by simp [e1,e2]
  rw [s q k3];exact ofP _ _ F2 (.inr ⟨_,rfl,Kt _ (Ov _)⟩)
 rw [Bool.not_eq_true] at z1;rw [z1] at k3;refine cD k3 ?_
 have w0:0<W.length:=by
  cases W with
  | nil=>simp at z1
  | cons x r=>simp
 obtain ⟨i,N2,hi,t2,F2⟩:=F1.take W.length w0 (MV wl (by decide));have ev:(W.map AV.str)[i]? = some (.str W[i]):=by rw [Nu,M3 hi];rfl
 have ix:=pG ev (h1.set L (.lst [.int N2]));have ln:aW [.fl (W.map AV.str)] h1 = .ok (.int W.length) h1:=by
  show Out.ok (AV.int (W.map AV.str).length) h1=_
  rw [M0]
 refine hX (v:=.str W[i]) (h' := h1.set L (.lst [.int N2])) ?_ (ofP _ _ F2 (.inr ⟨_,rfl,wm _ (Ov hi)⟩))
 generalize AV.str W[i]=SI at *;generalize (W.length:Int)=WL at *;generalize W.map AV.str=Z at *;generalize bC=G at *;generalize h1.set L (.lst [.int N2])=h2 at *;simp [ln,t2,ix,-au,-aW]
abbrev jS (D:Nat):List AV:=[.str "",.str "A",.str "abcdefghi",.str "a1",.str "a ",.non,.int 7,.bl true,.fl [.str "a"],.tup [.str "a"],.ref D]
abbrev iM (D:Nat):List gF:=[.inl (.str ""),.inl (.str "A"),.inl (.str "abcdefghi"),.inl (.str "a1"),.inl (.str "a "),.inl .none,.inl (.int 7),.inl (.bool true),.inl (.list [.str "a"]),.inl (.tuple [.str "a"]),.inr D]
theorem Ku (e:h[D]? = some (.dct false [])):gr h (jS D)=some (iM D):=by
 have t:bx 8 h (.ref D)=none:=by
  show (match h[D]? with | some (.lst xs)=>(bG (bx 7 h) xs).map PyData.list | _=>none)=_
  rw [e]
 have d:gG h (.ref D)=some (.inr D):=by
  unfold gG;rw [t];dsimp only;rw [e]
 have c:∀ {v:AV} {dd:PyData},bx 8 h v=some dd->gG h v=some (.inl dd):=λ{v dd} q=>by unfold gG;rw [q]
 simp only [gr,d,c (v:=.str "") rfl,c (v:=.str "A") rfl,c (v:=.str "abcdefghi") rfl,c (v:=.str "a1") rfl,c (v:=.str "a ") rfl,c (v:=.non) rfl,c (v:=.int 7) rfl,c (v:=.bl true) rfl,c (v:=.fl [.str "a"]) rfl,c (v:=.tup [.str "a"]) rfl]
theorem lJ {v:AV} {t:gF} (e:h[D]? = some (.dct false [])) (ev:gG h v=some t) (c:(iM D).all (jH t)=true):dX v (.fl (jS D)) h = .ok (.bl ((iM D).any λe=>cB e t)) h:=by
 show (match gG h v,gr h (jS D) with | some t,some ts=>if ts.all (jH t)=true then Out.ok (AV.bl (ts.any λe=>cB e t)) h else .bad | _,_=>.bad)=_
 rw [ev,Ku e];dsimp only;rw [MW c]
theorem wy {v:AV} (e:h[D]? = some (.dct false [])) (n:Nm (jS D) v):∃ b,dX v (.fl (jS D)) h = .ok (.bl b) h/\(b=false->∃ x,v = .str x/\cn x=true):=by
 have c:∀ {v:AV} {dd:PyData},bx 8 h v=some dd->gG h v=some (.inl dd):=λ{v dd} q=>by unfold gG;rw [q]
 have al:∀ d:PyData,(iM D).all (jH (.inl d))=true:=λd=>by simp [jH]
 rcases n with n | ⟨x,rfl,hx⟩
 ·refine ⟨true,?_,nofun⟩
  simp only [Nd,OD,QO] at n
  have fin:∀ {v:AV} {d:PyData},bx 8 h v=some d->((iM D).any λe=>cB e (.inl d))=true->dX v (.fl (jS D)) h = .ok (.bl true) h:=λ{v d} q1 q2=>by rw [lJ e (c q1) (al d),q2]
  rcases n with rfl | rfl | rfl | rfl | rfl | rfl | rfl | rfl | rfl | rfl | rfl
  ·exact fin rfl (by simp [cB,PyData.eqv])
  ·exact fin rfl (by simp [cB,PyData.eqv])
  ·exact fin rfl (by simp [cB,PyData.eqv])
  ·exact fin rfl (by simp [cB,PyData.eqv])
  ·exact fin rfl (by simp [cB,PyData.eqv])
  ·exact fin rfl (by simp [cB,PyData.eqv])
  ·exact fin rfl (by simp [cB,PyData.eqv])
  ·exact fin rfl (by simp [cB,PyData.eqv])
  ·exact fin rfl (by simp [cB,PyData.eqv,PyData.eqvAll])
  ·exact fin rfl (by simp [cB,PyData.eqv,PyData.eqvAll])
  ·have t:bx 8 h (.ref D)=none:=by
    show (match h[D]? with | some (.lst xs)=>(bG (bx 7 h) xs).map PyData.list | _=>none)=_
    rw [e]
   have d:gG h (.ref D)=some (.inr D):=by
    unfold gG;rw [t];dsimp only;rw [e]
   rw [lJ e d (by simp [jH])];simp [cB]
 ·exact ⟨_,lJ e (c (v:=.str x) rfl) (al _),λ_=>⟨x,rfl,hx⟩⟩
end
def gt (kx:List (Str×Nat×Str)) (z:Str):Str:=((lk kx z).map (·.2)).getD ""
theorem lM {z:Str} {v:Nat×Str} (l:lk kx z=some v):gt kx z=v.2:=by unfold gt;rw [l];rfl
theorem wz (e:h[K]? = some (.dct false (kx.map (kG gS)))) (z:Str):fJ K (.str z) (.str "") h = .ok (.str (gt kx z)) h:=by
 have k1:d0 false (.str z)=true:=rfl;simp only [fJ,e,k1,OT,jQ]
 unfold gt
 cases lk kx z<;>rfl
theorem rV (e:h[K]? = some (.dct false (kx.map (kG gS)))) (z:Str):dS (.str z) (.ref K) h = .ok (.bl (lk kx z).isNone) h:=by
 simp only [dS,kP,e,d0,keyOf?,jQ]
 cases lk kx z<;>rfl
def Gv (L:Nat) (h:AH) (kx:List (Str×Nat×Str)) (F:Out AV):Prop :=
 ∃ (deed:AV) (due:Str) (pl:AV) (h':AH),F = .ok (.tup [deed,.str due,pl]) h'/\Fr L h h'/\(due = "" -> ∃ (x y:Str) (c:Nat) (k:AV) (r:List AV),pl = .str y/\deed = .tup (k :: .str x::r)/\cn x=true/\Gd kx deed x (some y) c/\c<=240000/\y.length<=1000)
theorem kl {a b:Str} {k:Bool} {s:SE} (e:s en h = .ok (.bl k) h):ah au (aX (aj (af (.str a)) (aj (af (.str b)) ag))) (aC bX (aj s ag)) en h = .ok (.str (if k=true then b else a)) h:=by
 have a0:atI [AV.str a,.str b] 0=some (.str a):=rfl;have a1:atI [AV.str a,.str b] 1=some (.str b):=rfl
 cases k<;>simp [e,a0,a1]
def lN (pl:AV):Prop:=∃ y,pl = .str y/\bS y=true/\y.length<=30
theorem Kv {pl:AV} (hp:lN pl\/pl∈[AV.non,.int 7,.str "a\t",.fl [.str "a"],.bl true,.str "\t"]) (o0 o1 o2 o3 o4 o5:Option AV) :
  ∃ k,(fC (jv (fH "str" (ae 6))) (ah qr (af (.str "\t")) (ae 6))) [o0,o1,o2,o3,o4,o5,some pl] h = .ok (.bl k) h/\(k=false->lN pl):=by
 have st:∀ y:Str,(fC (jv (fH "str" (ae 6))) (ah qr (af (.str "\t")) (ae 6))) [o0,o1,o2,o3,o4,o5,some (.str y)] h = .ok (.bl (!(Builtin.Str.occurrences y "\t" 0 y.length 1).isEmpty)) h:=λy=>by
  simp [j3]
 rcases hp with ⟨y,rfl,a,b⟩ | hp
 ·exact ⟨_,st y,λ_=>⟨y,rfl,a,b⟩⟩
 ·simp only [Nd,OD,QO] at hp
  rcases hp with rfl | rfl | rfl | rfl | rfl | rfl
  ·exact ⟨true,by simp [j3],nofun⟩
  ·exact ⟨true,by simp [j3],nofun⟩
  ·have:(!(Builtin.Str.occurrences "a\t" "\t" 0 ("a\t" : Str).length 1).isEmpty)=true:=by decide +kernel
   exact ⟨true,by rw [st,this],nofun⟩
  ·exact ⟨true,by simp [j3],nofun⟩
  ·exact ⟨true,by simp [j3],nofun⟩
  ·have:(!(Builtin.Str.occurrences "\t" "\t" 0 ("\t" : Str).length 1).isEmpty)=true:=by decide +kernel
   exact ⟨true,by rw [st,this],nofun⟩
def hZ:List AV:=[.str "",.str "A",.str "none"]
theorem rW {v:AV} (n:Nm hZ v):∃ z,v = .str z/\z.length<=8:=by
 rcases n with n | ⟨x,rfl,hx⟩
 ·simp only [hZ,Nd,OD,QO] at n
  rcases n with rfl | rfl | rfl
  ·exact ⟨_,rfl,by decide⟩
  ·exact ⟨_,rfl,by decide⟩
  ·exact ⟨_,rfl,by decide⟩
 ·exact ⟨x,rfl,rT hx⟩
theorem BD {a b:SE} {x y:Bool} (ha:a en h = .ok (.bl x) h) (hb:b en h = .ok (.bl y) h):fC a b en h = .ok (.bl (x || y)) h:=by
 cases x<;>simp [ha,hb]
section
variable {P:OutS->Prop} {a b:SS} {c:SB} {x:SE} {en e2:En} {h h1 h2 h3:AH} {v:AV}
theorem pI (s:c en h = .ok true h1) (s1:x en h1 = .ok v h3) (r:P (.rt v h3)):P (ao (aK c (ay x) aO) b en h):=by
 have:ao (aK c (ay x) aO) b en h = .rt v h3:=by simp [s,s1]
 rw [this];exact r
theorem iO {w:OutS} (s:c en h = .ok true h1) (hw:a en h1=w) (hr:∃ v h3,w = .rt v h3) (r:P w):P (ao (aK c a aO) b en h):=by
 obtain ⟨v,h3,rfl⟩:=hr;have:ao (aK c a aO) b en h = .rt v h3:=by simp [s,hw]
 rw [this];exact r
theorem bj (s:x en h = .ok v h2) (r:P (b (en.set i (some v)) h2)):P (ao (az i x) b en h):=by
 have:ao (az i x) b en h=b (en.set i (some v)) h2:=by simp [s]
 rw [this];exact r
end
theorem pJ {a b c:SE} {x y z:AV} (ha:a en h = .ok x h) (hb:b en h = .ok y h) (hc:c en h = .ok z h):bB (aj a (aj b (aj c ag))) en h = .ok (.tup [x,y,z]) h:=by
 simp [ha,hb,hc]
theorem Kw (e:h[K]? = some (.dct false (kx.map (kG gS)))) (eL:∃ N:Int,h[L]? = some (.lst [.int N])) (KL:K≠L) (ct:kx.length<=50) (nm:∀ e∈kx,cn e.1=true/\e.2.2.length<=300):Gv L h kx (mH [.ref L,.ref K] h):=by
 have lK:=bY e;obtain ⟨N0,eN0⟩:=eL;have lL:=bY eN0;obtain ⟨D,eD⟩:∃ D,D=h.length:=⟨_,rfl⟩
 obtain ⟨h0,eh0⟩:∃ h0,h0=h++[AO.dct false []]:=⟨_,rfl⟩
 have F0:Fr L h h0:=by rw [eh0];exact (⟨λ_ _ _=>rfl,MQ _,N0,eN0⟩:Fr L h h).app _
 have D0:h0[D]? = some (.dct false []):=by rw [eh0,eD];simp
 have n0:h0.length=D+1:=by rw [eh0,M6,eD];rfl
 have e0:=(F0.fr K lK KL).trans e;have nm1:∀ e∈kx,cn e.1=true:=λe he=>(nm e he).1
 obtain ⟨v,h1,t1,F1,n1⟩:=pH e0 F0.ro KL ct nm1 (odd:=jS D) (show 0<11 by decide) (show 11<=20 by decide);obtain ⟨k3,N2,hk3,t2,F2⟩:=(⟨λ_ _ _=>rfl,MQ _,F1.ro⟩:Fr L h1 h1).take 3 (by decide) (by decide);have t2:bC [.ref L,.int 3] h1 = .ok (.int k3) (h1.set L (.lst [.int N2])):=t2;obtain ⟨h2,eh2⟩:∃ h2,h2=h1.set L (.lst [.int N2]):=⟨_,rfl⟩
 rw [<- eh2] at t2 F2;have F02:=F0.trans (F1.trans F2)
 have F12:=F1.trans F2;have e2:=(F02.fr K lK KL).trans e;have D2:=(F12.fr D (by lia) (by lia)).trans D0;obtain ⟨PP,ePP⟩:∃ PP:OutS->Prop,PP=λo=>Gv L h kx (aS o):=⟨_,rfl⟩
 have toP:∀ o,PP o->Gv L h kx (aS o):=λo z=>by rw [ePP] at z;exact z
 have ofP:∀ o,Gv L h kx (aS o)->PP o:=λo z=>by rw [ePP];exact z
 clear ePP;refine fT (P:=Gv L h kx) rfl (toP _ ?_)
 have r1:∀ en:En,aX (aj (af (.str "")) (aj (af (.str "A")) (aj (af (.str "abcdefghi")) (aj (af (.str "a1")) (aj (af (.str "a ")) (aj (af .non) (aj (af (.int 7)) (aj (af (.bl true)) (aj (aX (aj (af (.str "a")) ag)) (aj (bB (aj (af (.str "a")) ag)) (aj (jt false) ag))))))))))) en h = .ok (.fl (jS D)) h0:=λen=>by
  rw [eh0,eD];simp
 refine bj (r1 _) ?_
 obtain ⟨O,eO⟩:∃ O,O=AV.fl (jS D):=⟨_,rfl⟩
 rw [<- eO] at t1 ⊢;refine bj (v:=v) (h2:=h1) ?_ ?_
 ·generalize fM=G at *
  simp [t1]
 have c3:(aJ (ah aH (aC bC (aj (ae 0) (aj (af (.int 3)) ag))) (af (.int 0)))) [some (.ref L),some (.ref K),some O,some v,none,none,none] h1 = .ok (decide (k3=0)) h2:=by
  generalize bC=G at *;by_cases z:k3=0
  ·subst z;simp [t2]
  ·have : ¬ (k3:Int)=0:=by lia
   simp [t2,z,this]
 obtain ⟨b2,i2,j2⟩:=wy D2 n1;rw [<- eO] at i2;by_cases z3:k3=0
 ·rw [ND z3] at c3
  obtain ⟨v2,h3,t3,F3,n3⟩:=pH e2 F2.ro KL ct nm1 (odd:=hZ) (by decide) (by decide);obtain ⟨z,rfl,_⟩:=rW n3;have F03:=F02.trans F3;have e3:=(F03.fr K lK KL).trans e;have D3:=((F12.trans F3).fr D (by lia) (by lia)).trans D0;obtain ⟨b,ib,jb⟩:=wy D3 n1;rw [<- eO] at ib;have ni:=rV e3 z
  have gk:=wz e3 z;have du:=kl (a := "") (b := "NoName") (BD (a:=ah dX (ae 3) (ae 2)) (b:=ah dS (ae 4) (ae 1)) (en:=[some (.ref L),some (.ref K),some O,some v,some (.str z),none,none]) (h:=h3) (x:=b) (y:=(lk kx z).isNone) (by simp [ib]) (by simp [ni,-dS]));refine iO c3 (w:=.rt (.tup [.tup [.str "copy_of",v,.str z],.str (if (b || (lk kx z).isNone)=true then "NoName" else ""),.str (gt kx z)]) h3) ?_ ⟨_,_,rfl⟩ (ofP _ ⟨_,_,_,h3,rfl,F03,λhd=>?_⟩)
  ·refine bj (P:=λo=>o=_) (v:=.str z) (h2:=h3) ?_ (bj (P:=λo=>o=_) du ?_)
   ·have t3:fM [.ref L,.ref K,.fl [.str "",.str "A",.str "none"]] h2 = .ok (.str z) h3:=t3
    generalize fM=G at *;simp [t3]
   ·have sg:fK (ae 1) (ae 4) (af (.str "")) [some (.ref L),some (.ref K),some O,some v,some (.str z),some (.str (if (b || (lk kx z).isNone)=true then "NoName" else "")),none] h3 = .ok (.str (gt kx z)) h3:=by
     simp [fK,e3,gk]
    have tt:bB (aj (af (.str "copy_of")) (aj (ae 3) (aj (ae 4) ag))) [some (.ref L),some (.ref K),some O,some v,some (.str z),some (.str (if (b || (lk kx z).isNone)=true then "NoName" else "")),none] h3 = .ok (.tup [.str "copy_of",v,.str z]) h3:=pJ rfl rfl rfl;have:=pJ (b:=ae 5) tt rfl sg;show ay _ _ _=_
    unfold ay;exact (congrArg (λo=>Out.go o _ _) this)
  ·cases hb:b with
   | true=>rw [hb,Bool.true_or,MW rfl] at hd;exact absurd hd (by decide +kernel)
   | false =>
    obtain ⟨x,rfl,hx⟩:=jb hb
    cases hl:lk kx z with
    | none=>rw [hb,hl] at hd;exact absurd hd (by decide +kernel)
    | some w =>
     refine ⟨x,w.2,0,_,_,by rw [lM hl],rfl,hx,.copy hx hl,by lia,?_⟩
     have:w.2.length<=300:=(nm _ (gy hl)).2
     lia
 rw [Nl z3] at c3;refine cD c3 ?_
 obtain ⟨N3,e3L⟩:=F2.ro;obtain ⟨y,N4,fp,py,ly,_⟩:=J2 30 (by decide) e3L;have fp:mG [.ref L,.int 30] h2 = .ok (.str y) (h2.set L (.lst [.int N4])):=fp;have F4:=(⟨λ_ _ _=>rfl,MQ _,N3,e3L⟩:Fr L h2 h2).set N4;obtain ⟨h4,eh4⟩:∃ h4,h4=h2.set L (.lst [.int N4]):=⟨_,rfl⟩
 rw [<- eh4] at fp F4;refine bj (v:=.str y) (h2:=h4) ?_ ?_
 ·generalize mG=G at *
  simp [fp]
 obtain ⟨k10,N5,hk10,t5,F5⟩:=F4.take 10 (by decide) (by decide);have t5:bC [.ref L,.int 10] h4 = .ok (.int k10) (h4.set L (.lst [.int N5])):=t5;obtain ⟨h5,eh5⟩:∃ h5,h5=h4.set L (.lst [.int N5]):=⟨_,rfl⟩
 rw [<- eh5] at t5 F5;obtain ⟨k6,N6,hk6,t6,F6⟩:=F5.take 6 (by decide) (by decide)
 have t6:bC [.ref L,.int 6] h5 = .ok (.int k6) (h5.set L (.lst [.int N6])):=t6;obtain ⟨h6,eh6⟩:∃ h6,h6=h5.set L (.lst [.int N6]):=⟨_,rfl⟩
 rw [<- eh6] at t6 F6;have c10:(aJ (ah aH (aC bC (aj (ae 0) (aj (af (.int 10)) ag))) (af (.int 0)))) [some (.ref L),some (.ref K),some O,some v,none,none,some (.str y)] h4 = .ok (decide (k10=0)) h5:=by
  generalize bC=G at *;by_cases z:k10=0
  ·subst z;simp [t5]
  ·have : ¬ (k10:Int)=0:=by lia
   simp [t5,z,this]
 obtain ⟨pl,h7,s7,F7,hp⟩:∃ pl h7,aK (aJ (ah aH (aC bC (aj (ae 0) (aj (af (.int 10)) ag))) (af (.int 0)))) (az 6 (ah au (aX (aj (af .non) (aj (af (.int 7)) (aj (af (.str "a\t")) (aj (aX (aj (af (.str "a")) ag)) (aj (af (.bl true)) (aj (af (.str "\t")) ag))))))) (aC bC (aj (ae 0) (aj (af (.int 6)) ag))))) aO [some (.ref L),some (.ref K),some O,some v,none,none,some (.str y)] h4 = .nx [some (.ref L),some (.ref K),some O,some v,none,none,some pl] h7/\Fr L h2 h7/\(lN pl\/pl∈[AV.non,.int 7,.str "a\t",.fl [.str "a"],.bl true,.str "\t"]):=by
  by_cases z:k10=0
  ·rw [ND z] at c10
   have ev:([AV.non,.int 7,.str "a\t",.fl [.str "a"],.bl true,.str "\t"]:List AV)[k6]? = some ([AV.non,.int 7,.str "a\t",.fl [.str "a"],.bl true,.str "\t"]:List AV)[k6]:=M3 hk6;have ix:=pG ev h6;have mm:([AV.non,.int 7,.str "a\t",.fl [.str "a"],.bl true,.str "\t"]:List AV)[k6]∈([AV.non,.int 7,.str "a\t",.fl [.str "a"],.bl true,.str "\t"]:List AV):=Ov _;generalize ([AV.non,.int 7,.str "a\t",.fl [.str "a"],.bl true,.str "\t"]:List AV)[k6]=pl at ix mm
   refine ⟨pl,h6,?_,F6,.inr mm⟩
   generalize aJ (ah aH (aC bC (aj (ae 0) (aj (af (.int 10)) ag))) (af (.int 0)))=C at *;generalize bC=G at *;simp [c10,t6,ix,-au]
  ·rw [Nl z] at c10
   refine ⟨.str y,h5,?_,F5,.inl ⟨y,rfl,py,ly⟩⟩
   generalize aJ (ah aH (aC bC (aj (ae 0) (aj (af (.int 10)) ag))) (af (.int 0)))=C at *;simp [c10]
 refine cC s7 ?_
 obtain ⟨kb,dk,pk⟩:=Kv (h:=h7) hp (some (.ref L)) (some (.ref K)) (some O) (some v) none none;have du:=kl (a := "") (b := "NoText") dk;refine bj du ?_
 have D7:=((F12.trans F7).fr D (by lia) (by lia)).trans D0;obtain ⟨b,ib,jb⟩:=wy D7 n1;rw [<- eO] at ib;have c7:∀ w,(aJ (ah dX (ae 3) (ae 2))) [some (.ref L),some (.ref K),some O,some v,none,w,some pl] h7 = .ok b h7:=λw=>by simp [ib]
 obtain ⟨due,edue⟩:∃ due:Str,due=if b=true then ("NoName" : Str) else if kb=true then ("NoText" : Str) else ("" : Str):=⟨_,rfl⟩
 refine cC (e2:=[some (.ref L),some (.ref K),some O,some v,none,some (.str due),some pl]) (h2:=h7) ?_ ?_
 ·have c8:=c7 (some (.str (if kb=true then "NoText" else "")))
  show aK (aJ (ah dX (ae 3) (ae 2))) (az 5 (af (.str "NoName"))) aO [some (.ref L),some (.ref K),some O,some v,none,some (.str (if kb=true then "NoText" else "")),some pl] h7=_
  generalize aJ (ah dX (ae 3) (ae 2))=C at *;rw [edue]
  cases b<;>simp [c8]
 refine hX (v:=.tup [.tup [.str "give",v,pl],.str due,pl]) (h' := h7) ?_ (ofP _ ⟨_,_,_,h7,rfl,F02.trans F7,λhd=>?_⟩)
 ·simp
 ·rw [edue] at hd
  cases hb:b with
  | true=>rw [hb,MW rfl] at hd;exact absurd hd (by decide +kernel)
  | false =>
   cases hkb:kb with
   | true=>rw [hb,hkb] at hd;exact absurd hd (by decide +kernel)
   | false =>
    obtain ⟨x,rfl,hx⟩:=jb hb;obtain ⟨y',rfl,py',ly'⟩:=pk hkb;exact ⟨x,y',2*y'.length,_,_,rfl,rfl,hx,.give hx py' (by lia),by lia,by lia⟩
theorem wA (i:Int) (h:AH):fG [.int 0,.int i] h = .ok (.int (i.toNat:Nat)) h:=by
 have:fG [.int 0,.int i] h = .ok (.int (if i > 0 then i else 0)) h:=rfl
 rw [this];congr 2
 split<;>lia
theorem Kx (k:Nat) (h:AH):lY [.int 3,.int k] h = .ok (.int (min 3 k:Nat)) h:=by
 have:lY [.int 3,.int k] h = .ok (.int (if (k:Int)<3 then (k:Int) else 3)) h:=rfl
 rw [this];congr 2
 split<;>lia
theorem rX {a b:SE} {u:Str} (ha:a en h = .ok (.str u) h) (hb:b en h = .ok (.str w) h):gp a b en h = .ok (.str (if u = "" then w else u)) h:=by
 by_cases q:u = ""
 ·subst q
  have:(("" : Str).length:Int)=0:=rfl
  simp [ha,hb,this]
 ·have : ¬ u.length=0:=λz=>q (cI (by rw [cS] at z;rw [Oe.mp z];rfl))
  simp [ha,q,this]
theorem BE (y:Str) (c:Nat) (h:AH):∃ z,dh (.str y) (some (c:Int)) none h = .ok (.str z) h/\z.length<=y.length/\(c<=y.length->z=dO y c):=by
 refine ⟨b9 y (some (c:Int)) none,rfl,?_,λhc=>?_⟩
 ·simp [b9,Str.length];lia
 ·have:=A8 hc h
  have e:dh (.str y) (some (c:Int)) none h = .ok (.str (b9 y (some (c:Int)) none)) h:=rfl;rw [e] at this;injection this with a _
  injection a
theorem rY (h:AH) (hl:x.length+y.length<=5000):aG (.str x) (.str y) h = .ok (.str (x++y)) h:=by
 have:x.length+y.length<=sizeLine:=MV hl (by decide)
 simp only [aG,this,OT]
theorem BF (nm:∀ e∈kx,cn e.1=true/\e.2.2.length<=300) (z:Str):(gt kx z).length<=300:=by
 unfold gt
 cases l:lk kx z with
 | none=>exact Nj _
 | some v=>exact (nm _ (gy l)).2
theorem none_of (h:o.isNone=false):∃ v,o=some v:=by
 cases o with
 | none=>cases h
 | some v=>exact ⟨v,rfl⟩
theorem BG {b:Bool} (h:(if b=true then ("NoName" : Str) else ("" : Str)) = ""):b=false:=by
 cases b with
 | true=>exact absurd h (by decide +kernel)
 | false=>rfl
theorem rZ {a:Str} {b:Bool} (n : ¬ a = "") (h:(if b=true then a else ("" : Str)) = ""):b=false:=by
 cases b with
 | true=>exact absurd h n
 | false=>rfl
theorem r8 {u:Str} (h:(if u = "" then w else u) = ""):u = "" /\ w = "" := by
 by_cases q:u = ""
 ·rw [MW q] at h;exact ⟨q,h⟩
 ·rw [MX q] at h;exact absurd h q
abbrev pK (L K:Nat) (kd:Int) (x z y1 y2 g b:Str) (a e:Int) (o11 o12:Option AV):En:=[some (.ref L),some (.ref K),some (.int kd),some (.str x),some (.str z),some (.str y1),some (.str y2),some (.str g),some (.str b),some (.int a),some (.int e),o11,o12]
theorem Kz (e:h[K]? = some (.dct false (kx.map (kG gS)))) (eL:∃ N:Int,h[L]? = some (.lst [.int N])) (KL:K≠L) (ct:kx.length<=50) (nm:∀ e∈kx,cn e.1=true/\e.2.2.length<=300):Gv L h kx (mI [.ref L,.ref K] h):=by
 have lK:=bY e;have nm1:∀ e∈kx,cn e.1=true:=λe he=>(nm e he).1
 have F0:Fr L h h:=⟨λ_ _ _=>rfl,MQ _,eL⟩
 obtain ⟨kd,N1,hk,t1,F1⟩:=F0.take 4 (by decide) (by decide);have t1:bC [.ref L,.int 4] h = .ok (.int kd) (h.set L (.lst [.int N1])):=t1;obtain ⟨h1,eh1⟩:∃ h1,h1=h.set L (.lst [.int N1]):=⟨_,rfl⟩
 rw [<- eh1] at t1 F1;obtain ⟨v1,h2,t2,F2,n2⟩:=pH ((F1.fr K lK KL).trans e) F1.ro KL ct nm1 (odd:=hZ) (by decide) (by decide)
 obtain ⟨x,rfl,lx⟩:=rW n2;have F02:=F1.trans F2;obtain ⟨v2,h3,t3,F3,n3⟩:=pH ((F02.fr K lK KL).trans e) F2.ro KL ct nm1 (odd:=hZ) (by decide) (by decide);obtain ⟨z,rfl,lz⟩:=rW n3;have t2:fM [.ref L,.ref K,.fl [.str "",.str "A",.str "none"]] h1 = .ok (.str x) h2:=t2;have t3:fM [.ref L,.ref K,.fl [.str "",.str "A",.str "none"]] h2 = .ok (.str z) h3:=t3;have F03:=F02.trans F3;have e3:=(F03.fr K lK KL).trans e;have g1:=wz e3 x;have g2:=wz e3 z;have ni1:=rV e3 x;have ni2:=rV e3 z;have l1:=BF nm x;have l2:=BF nm z;obtain ⟨y1,ey1⟩:∃ y1,y1=gt kx x:=⟨_,rfl⟩
 obtain ⟨y2,ey2⟩:∃ y2,y2=gt kx z:=⟨_,rfl⟩
 rw [<- ey1] at g1 l1;rw [<- ey2] at g2 l2;have len3:∀ hx,aW [.str y1] hx = .ok (.int y1.length) hx:=λ_=>rfl
 have ad3:∀ hx,aG (.int y1.length) (.int 3) hx = .ok (.int ((y1.length+3:Nat):Int)) hx:=λhx=>Br rfl hx
 obtain ⟨a,N4,ha,t4,F4⟩:=F03.take (y1.length+3) (by lia) (MV (m:=303) (by lia) (by decide));obtain ⟨h4,eh4⟩:∃ h4,h4=h3.set L (.lst [.int N4]):=⟨_,rfl⟩
 rw [<- eh4] at t4 F4;obtain ⟨b,N5,hb,t5,F5⟩:=F4.take (y1.length+3) (by lia) (MV (m:=303) (by lia) (by decide))
 obtain ⟨h5,eh5⟩:∃ h5,h5=h4.set L (.lst [.int N5]):=⟨_,rfl⟩
 rw [<- eh5] at t5 F5;obtain ⟨gn,egn⟩:∃ gn:Str,gn=if (lk kx x).isNone=true then ("NoName" : Str) else ("" : Str):=⟨_,rfl⟩
 obtain ⟨bo,ebo⟩:∃ bo:Str,bo=if ((lk kx x).isNone || (lk kx z).isNone)=true then ("NoName" : Str) else ("" : Str):=⟨_,rfl⟩
 have bo_ok:bo = "" -> ∃ v w,lk kx x=some v/\lk kx z=some w:=λq=>by
  rw [ebo] at q;have:=BG q
  rw [Bool.or_eq_false_iff] at this;obtain ⟨v,ev⟩:=none_of this.1
  obtain ⟨w,ew⟩:=none_of this.2;exact ⟨v,w,ev,ew⟩
 have gn_ok:gn = "" -> ∃ v,lk kx x=some v:=λq=>by
  rw [egn] at q;exact none_of (BG q)
 obtain ⟨PP,ePP⟩:∃ PP:OutS->Prop,PP=λo=>Gv L h kx (aS o):=⟨_,rfl⟩
 have toP:∀ o,PP o->Gv L h kx (aS o):=λo z=>by rw [ePP] at z;exact z
 have ofP:∀ o,Gv L h kx (aS o)->PP o:=λo z=>by rw [ePP];exact z
 clear ePP;refine fT (P:=Gv L h kx) rfl (toP _ ?_)
 refine bj (v:=.int kd) (h2:=h1) ?_ ?_
 ·generalize bC=G at *
  simp [t1]
 refine bj (v:=.str x) (h2:=h2) ?_ ?_
 ·generalize fM=G at *
  simp [t2]
 refine bj (v:=.str z) (h2:=h3) ?_ ?_
 ·generalize fM=G at *
  simp [t3]
 refine bj (v:=.str y1) (h2:=h3) ?_ ?_
 ·simp [fK,e3,g1]
 refine bj (v:=.str y2) (h2:=h3) ?_ ?_
 ·simp [fK,e3,g2]
 refine bj (v:=.str gn) (h2:=h3) ?_ ?_
 ·rw [egn]
  exact kl (by simp [ni1,-dS])
 refine bj (v:=.str bo) (h2:=h3) ?_ ?_
 ·rw [ebo]
  exact kl (BD (by simp [ni1,-dS]) (by simp [ni2,-dS]))
 refine bj (v:=.int ((a:Int)-1)) (h2:=h4) ?_ ?_
 ·have sb:cg (.int a) (.int 1) h4 = .ok (.int ((a:Int)-1)) h4:=rfl
  have q1:=len3 h3;have q2:=ad3 h3;clear len3 ad3 t5;generalize ((y1.length+3:Nat):Int)=Y3 at *;generalize (y1.length:Int)=Y1 at *;generalize (a:Int)-1=A1 at *;generalize bC=G at *;simp [q1,q2,t4,sb,-cg,-aG,-aW]
 refine bj (v:=.int ((b:Int)-1)) (h2:=h5) ?_ ?_
 ·have sb:cg (.int b) (.int 1) h5 = .ok (.int ((b:Int)-1)) h5:=rfl
  have q1:=len3 h4;have q2:=ad3 h4;clear len3 ad3 t4;generalize ((y1.length+3:Nat):Int)=Y3 at *;generalize (y1.length:Int)=Y1 at *;generalize (a:Int)-1=A1 at *;generalize (b:Int)-1=B1 at *;generalize bC=G at *;simp [q1,q2,t5,sb,-cg,-aG,-aW]
 have ck:∀ c:Nat,(aJ (ah aH (ae 2) (af (.int c)))) (pK L K kd x z y1 y2 gn bo ((a:Int)-1) ((b:Int)-1) none none) h5 = .ok (decide (kd=c)) h5:=λc=>by
  by_cases q:kd=c
  ·subst q;simp
  ·have : ¬ (kd:Int)=c:=by lia
   simp [q,this]
 have nle:∀ {s t:Str},cn x=true->True:=λ_=>trivial
 have chain:∀ (u:Option AV) (w:Option AV),fq bF bF (af (.int 0)) (ae 9) (aC aW (aj (ae 5) ag)) (pK L K kd x z y1 y2 gn bo ((a:Int)-1) ((b:Int)-1) u w) h5 = .ok (.bl (decide (0<=(a:Int)-1) && decide ((a:Int)-1<=y1.length))) h5:=λu w=>by
  have q:=len3 h5;generalize (a:Int)-1=A1 at *;generalize (y1.length:Int)=Y1 at *;by_cases z0:0<=A1<;>simp [z0,q,-aW]
 have tka:(cq y1 (a-1)).length<=300:=by rw [wj];lia
 have at1:((a:Int)-1).toNat=a-1:=by lia
 have bt1:((b:Int)-1).toNat=b-1:=by lia
 have mxa:=wA ((a:Int)-1) h5;rw [at1] at mxa;have mxb:=wA ((b:Int)-1) h5
 rw [bt1] at mxb;have cta:=A7 (x:=y1) (a:=a-1) h5
 obtain ⟨da,cda,lda,oda⟩:=BE y1 (a-1) h5;obtain ⟨db,cdb,ldb,odb⟩:=BE y1 (b-1) h5;by_cases k0:kd=0
 ·have ad:=rY (x:=y1) (y:=y2) h5 (by lia)
  refine pI (h1:=h5) (v:=.tup [.tup [.str "join_to",.str x,.str z],.str bo,.str (y1++y2)]) (h3:=h5) ((ck 0).trans (by rw [ND k0])) ?_ (ofP _ ⟨_,_,_,h5,rfl,F5,λhd=>?_⟩)
  ·simp [ad,-aG]
  ·obtain ⟨v,w,lv,lw⟩:=bo_ok hd
   rw [lM lv] at ey1;have lv2:v.2.length<=300:=(nm _ (gy lv)).2
   rw [lM lw] at ey2;have lw2:w.2.length<=300:=(nm _ (gy lw)).2
   rw [ey1,ey2];exact ⟨x,v.2++w.2,240000,_,_,rfl,rfl,nm1 _ (gy lv),.join lv lw (by lia),MQ _,by rw [pB];lia⟩
 refine cD (h1:=h5) ((ck 0).trans (by rw [Nl k0])) ?_
 by_cases k1:kd=1
 ·have ad:=rY (x:=cq y1 (a-1)) (y:=y2) h5 (by lia)
  have ad2:=rY (x:=cq y1 (a-1)++y2) (y:=da) h5 (by rw [pB];lia)
  obtain ⟨pb,epb⟩:∃ pb,pb = !(decide (0<=(a:Int)-1) && decide ((a:Int)-1<=y1.length)):=⟨_,rfl⟩
  have du:=rX (a:=ae 8) (b:=ah au (aX (aj (af (.str "")) (aj (af (.str "NoPlace")) ag))) (aC bX (aj (jv (fq bF bF (af (.int 0)) (ae 9) (aC aW (aj (ae 5) ag)))) ag))) (en:=pK L K kd x z y1 y2 gn bo ((a:Int)-1) ((b:Int)-1) none none) (h:=h5) (u:=bo) (w:=if pb=true then ("NoPlace" : Str) else ("" : Str)) rfl (kl (by
   have:=chain none none;rw [epb];generalize fq bF bF (af (.int 0)) (ae 9) (aC aW (aj (ae 5) ag))=C at *;simp [this]))
  refine iO (h1:=h5) ((ck 1).trans (by rw [ND k1])) (w:=.rt (.tup [.tup [.str "put_into",.str x,.int ((a:Int)-1),.str z],.str (if bo = "" then (if pb=true then ("NoPlace" : Str) else ("" : Str)) else bo),.str (cq y1 (a-1)++y2++da)]) h5) ?_ ⟨_,_,rfl⟩ (ofP _ ⟨_,_,_,h5,rfl,F5,λhd=>?_⟩)
  ·refine bj (P:=λo=>o=_) du ?_
   generalize (if bo = "" then (if pb=true then ("NoPlace" : Str) else ("" : Str)) else bo)=DU at *;generalize cq y1 (a-1)++y2++da=R at *;generalize cq y1 (a-1)++y2=R1 at *;generalize cq y1 (a-1)=R2 at *;generalize (a:Int)-1=A1 at *;generalize ((a-1:Nat):Int)=A2 at *;simp [mxa,cta,cda,ad,ad2,-fG,-dh,-aG]
  ·obtain ⟨q1,q2⟩:=r8 hd
   have q3:=rZ (by decide +kernel) q2;obtain ⟨v,w,lv,lw⟩:=bo_ok q1;rw [epb] at q3;simp only [Q6,Nz,Og] at q3
   have ea:(a:Int)-1=((a-1:Nat):Int):=by lia
   have ed:=oda (by lia);rw [ea,ed];rw [lM lv] at ey1;have lv2:v.2.length<=300:=(nm _ (gy lv)).2
   rw [lM lw] at ey2;have lw2:w.2.length<=300:=(nm _ (gy lw)).2
   have la:a-1<=v.2.length:=by rw [<- ey1];lia
   rw [ey1,ey2];exact ⟨x,cq v.2 (a-1)++w.2++dO v.2 (a-1),240000,_,_,rfl,rfl,nm1 _ (gy lv),.put lv lw la (by lia),MQ _,by rw [pB,pB,wj,mT];lia⟩
 refine cD (h1:=h5) ((ck 1).trans (by rw [Nl k1])) ?_
 by_cases k2:kd=2
 ·have ad:=rY (x:=cq y1 (a-1)) (y:=db) h5 (by lia)
  obtain ⟨pb,epb⟩:∃ pb,pb = !(decide (0<=(a:Int)-1) && (decide ((a:Int)-1<=(b:Int)-1) && decide ((b:Int)-1<=y1.length))):=⟨_,rfl⟩
  have du:=rX (a:=ae 7) (b:=ah au (aX (aj (af (.str "")) (aj (af (.str "NoPlace")) ag))) (aC bX (aj (jv (k9 bF bF bF (af (.int 0)) (ae 9) (ae 10) (aC aW (aj (ae 5) ag)))) ag))) (en:=pK L K kd x z y1 y2 gn bo ((a:Int)-1) ((b:Int)-1) none none) (h:=h5) (u:=gn) (w:=if pb=true then ("NoPlace" : Str) else ("" : Str)) rfl (kl (by
   have q:=len3 h5;rw [epb];generalize (a:Int)-1=A1 at *;generalize (b:Int)-1=B1 at *;generalize (y1.length:Int)=Y1 at *;by_cases z0:0<=A1
   ·by_cases z1:A1<=B1<;>simp [z0,z1,q,-aW]
   ·simp [z0]))
  refine iO (h1:=h5) ((ck 2).trans (by rw [ND k2])) (w:=.rt (.tup [.tup [.str "take_from",.str x,.int ((a:Int)-1),.int ((b:Int)-1)],.str (if gn = "" then (if pb=true then ("NoPlace" : Str) else ("" : Str)) else gn),.str (cq y1 (a-1)++db)]) h5) ?_ ⟨_,_,rfl⟩ (ofP _ ⟨_,_,_,h5,rfl,F5,λhd=>?_⟩)
  ·refine bj (P:=λo=>o=_) du ?_
   generalize (if gn = "" then (if pb=true then ("NoPlace" : Str) else ("" : Str)) else gn)=DU at *;generalize cq y1 (a-1)++db=R1 at *;generalize cq y1 (a-1)=R2 at *;generalize (a:Int)-1=A1 at *;generalize ((a-1:Nat):Int)=A2 at *;generalize (b:Int)-1=B1 at *;generalize ((b-1:Nat):Int)=B2 at *;simp [mxa,cta,mxb,cdb,ad,-fG,-dh,-aG]
  ·obtain ⟨q1,q2⟩:=r8 hd
   have q3:=rZ (by decide +kernel) q2;obtain ⟨v,lv⟩:=gn_ok q1;rw [epb] at q3;simp only [Q6,Nz,Og] at q3
   have ea:(a:Int)-1=((a-1:Nat):Int):=by lia
   have eb:(b:Int)-1=((b-1:Nat):Int):=by lia
   have ed:=odb (by lia);rw [ea,eb,ed];rw [lM lv] at ey1;have lv2:v.2.length<=300:=(nm _ (gy lv)).2
   have la:b-1<=v.2.length:=by rw [<- ey1];lia
   rw [ey1];exact ⟨x,cq v.2 (a-1)++dO v.2 (b-1),240000,_,_,rfl,rfl,nm1 _ (gy lv),.take lv (by lia) la (by lia),MQ _,by rw [pB,wj,mT];lia⟩
 refine cD (h1:=h5) ((ck 2).trans (by rw [Nl k2])) ?_
 obtain ⟨i,N6,hi,t6,F6⟩:=F5.take 6 (by decide) (by decide);have t6:bC [.ref L,.int 6] h5 = .ok (.int i) (h5.set L (.lst [.int N6])):=t6;obtain ⟨h6,eh6⟩:∃ h6,h6=h5.set L (.lst [.int N6]):=⟨_,rfl⟩
 rw [<- eh6] at t6 F6;obtain ⟨mxn,emx,mx1,mx2⟩:∃ mxn:Nat,fG [.int 1,.int y1.length] h5 = .ok (.int mxn) h5/\1<=mxn/\mxn<=300:=by
  refine ⟨max 1 y1.length,?_,by lia,by lia⟩
  have:fG [.int 1,.int y1.length] h5 = .ok (.int (if (y1.length:Int) > 1 then (y1.length:Int) else 1)) h5:=rfl
  rw [this];congr 2
  split<;>lia
 obtain ⟨Bg,eBg⟩:∃ Bg:Nat,Bg=1000000000000000000 / mxn+1:=⟨_,rfl⟩
 have Bg1:Bg<=1000000000000000001:=by rw [eBg];have:=Nat.div_le_self 1000000000000000000 mxn;lia
 have dv:cW (.int 1000000000000000000) (.int mxn) h5 = .ok (.int ((1000000000000000000 / mxn:Nat):Int)) h5:=by
  have c:(0:Int)<mxn/\(mxn:Int).natAbs<2 ^ 200:=⟨by lia,M8 (m:=300) (by lia) (by decide)⟩
  show (if (0:Int)<mxn/\(mxn:Int).natAbs<2 ^ 200 then Out.ok (AV.int (1000000000000000000 / (mxn:Int))) h5 else .bad)=_
  rw [MW c];rfl
 have pw:cz (.int 10) (.int 18) h5 = .ok (.int 1000000000000000000) h5:=by simp [cz]
 have ad1:aG (.int ((1000000000000000000 / mxn:Nat):Int)) (.int 1) h5 = .ok (.int Bg) h5:=Br eBg.symm h5;obtain ⟨mv,emv,hmv⟩:∃ mv:Int,([.int 0,.int 1,.int 2,.int 3,.int (-1),.int Bg]:List AV)[i]? = some (.int mv)/\mv<=1000000000000000001:=by
  rcases (show i=0\/i=1\/i=2\/i=3\/i=4\/i=5 by lia) with rfl | rfl | rfl | rfl | rfl | rfl
  ·exact ⟨_,rfl,by decide⟩
  ·exact ⟨_,rfl,by decide⟩
  ·exact ⟨_,rfl,by decide⟩
  ·exact ⟨_,rfl,by decide⟩
  ·exact ⟨_,rfl,by decide⟩
  ·exact ⟨_,rfl,by lia⟩
 have ixm:=pG emv h6;refine bj (v:=.int mv) (h2:=h6) ?_ ?_
 ·have q:=len3 h5
  have ng:dR (.int 1) h5 = .ok (.int (-1)) h5:=rfl;clear mxa mxb cta cda cdb chain ck;generalize ((1000000000000000000 / mxn:Nat):Int)=Q1 at *;generalize (1000000000000000000:Int)=Q2 at *;generalize (y1.length:Int)=Y1 at *;generalize (a:Int)-1=A1 at *;generalize (b:Int)-1=B1 at *;generalize (-1:Int)=M1 at *;generalize bC=G at *;simp [ng,pw,q,emx,dv,ad1,t6,ixm,-dR,-cz,-aW,-fG,-cW,-aG,-au]
 obtain ⟨p3,ep3⟩:∃ p3,p3=(decide (3<mv) && !decide (y1 = "")):=⟨_,rfl⟩
 have du:=rX (a:=ae 7) (b:=gp (ah au (aX (aj (af (.str "")) (aj (af (.str "NoPlace")) ag))) (aC bX (aj (ah fo (ae 12) (af (.int 0))) ag))) (ah au (aX (aj (af (.str "")) (aj (af (.str "TooLong")) ag))) (aC bX (aj (j1 (ah dZ (ae 12) (af (.int 3))) (ah bL (ae 5) (af (.str "")))) ag)))) (en:=pK L K kd x z y1 y2 gn bo ((a:Int)-1) ((b:Int)-1) none (some (.int mv))) (h:=h6) (u:=gn) rfl (rX (u:=if decide (mv<0)=true then ("NoPlace" : Str) else ("" : Str)) (w:=if p3=true then ("TooLong" : Str) else ("" : Str)) (kl (by simp)) (kl (by
  rw [ep3];by_cases q:3<mv
  ·by_cases w:y1 = "" <;> simp [q,w]
  ·simp [q])))
 refine bj du ?_
 have mxm:=wA mv h6;have mnm:=Kx mv.toNat h6;have ml:nW (.str y1) (.int (min 3 mv.toNat:Nat)) h6 = .ok (.str (bE y1 (min 3 mv.toNat))) h6:=by
  have c:((min 3 mv.toNat:Nat):Int).natAbs<2 ^ 40/\y1.length*((min 3 mv.toNat:Nat):Int).toNat<=1000000:=by
   refine ⟨M8 (m:=3) (by lia) (by decide),MV (QL l1 (show ((min 3 mv.toNat:Nat):Int).toNat<=3 by lia)) (by decide)⟩
  show (if _ then _ else _)=_
  rw [MW c];rfl
 obtain ⟨DU,eDU⟩:∃ DU:Str,DU=(if gn = "" then (if (if decide (mv<0)=true then ("NoPlace" : Str) else ("" : Str)) = "" then (if p3=true then ("TooLong" : Str) else ("" : Str)) else (if decide (mv<0)=true then ("NoPlace" : Str) else ("" : Str))) else gn):=⟨_,rfl⟩
 rw [<- eDU];refine hX (v:=.tup [.tup [.str "repeat",.str x,.int mv],.str DU,.str (bE y1 (min 3 mv.toNat))]) (h' := h6) ?_ (ofP _ ⟨_,_,_,h6,rfl,F6,λhd=>?_⟩)
 ·generalize bE y1 (min 3 mv.toNat)=R at *
  generalize ((min 3 mv.toNat:Nat):Int)=Q1 at *;generalize ((mv.toNat:Nat):Int)=Q2 at *;generalize (a:Int)-1=A1 at *;generalize (b:Int)-1=B1 at *;simp [mxm,mnm,ml,-fG,-lY,-nW]
 ·rw [eDU] at hd
  obtain ⟨q1,q2⟩:=r8 hd;obtain ⟨q2,q3⟩:=r8 q2;have q2:=rZ (by decide +kernel) q2;have q3:=rZ (by decide +kernel) q3;rw [P9] at q2;obtain ⟨v,lv⟩:=gn_ok q1
  obtain ⟨k,rfl⟩:∃ k:Nat,mv=k:=⟨mv.toNat,by lia⟩
  rw [ep3] at q3;rw [Rb];rw [lM lv] at ey1;have nx:=nm1 _ (gy lv)
  by_cases c3:k<=3
  ·rw [show min 3 k=k by lia,ey1]
   refine ⟨x,bE v.2 k,240000,_,_,rfl,rfl,nx,.rep lv (M8 (m:=3) c3 (by decide)) ?_,MQ _,?_⟩
   ·rw [<- ey1];exact MV (QL l1 c3) (by decide)
   ·rw [rS,<- ey1];exact MV (QL l1 c3) (by decide)
  ·have:y1 = "" := by
    rw [ND (show (3:Int)<k by lia),Bool.true_and] at q3;simpa using q3
   rw [this,vQ];obtain ⟨n,y⟩:=v
   have ey:y = "" := ey1.symm.trans this;subst ey;exact ⟨x, "",240000,_,_,rfl,rfl,nx,.rep0 lv (M8 (m:=1000000000000000001) (by lia) (by decide)),MQ _,Nj _⟩
def Dz (L:Nat) (h:AH) (kx:List (Str×Nat×Str)) (F:Out AV):Prop :=
 ∃ (deed:AV) (due:Str) (K':Nat) (h':AH),F = .ok (.tup [deed,.str due,.ref K']) h'/\Fr L h h'/\(due = "" -> ∃ (x:Str) (oy:Option Str) (c:Nat),Gd kx deed x oy c/\c<=240000/\h.length<=K'/\(∀ o:Option (Nat×Str),o.map (·.2)=oy->h'[K']? = some (.dct false ((upd kx x o).map (kG gS))))/\∀ y,oy=some y->y.length<=300)
theorem BH {kvs:List (AV×AV)} (e:h[K]? = some (.dct false kvs)):j8 [.ref K] h = .ok (.ref h.length) (h++[.dct false kvs]):=by
 simp only [j8,e]
theorem KA (e:h[K]? = some (.dct false (kx.map (kG gS)))) (eL:∃ N:Int,h[L]? = some (.lst [.int N])) (KL:K≠L) (ct:kx.length<=50) (nm:∀ e∈kx,cn e.1=true/\e.2.2.length<=300):Dz L h kx (ow [.ref L,.ref K] h):=by
 have lK:=bY e;have nm1:∀ e∈kx,cn e.1=true:=λe he=>(nm e he).1
 have F0:Fr L h h:=⟨λ_ _ _=>rfl,MQ _,eL⟩
 obtain ⟨N0,eN0⟩:=eL;have lL:=bY eN0;obtain ⟨kd,N1,hk,t1,F1⟩:=F0.take 8 (by decide) (by decide);have t1:bC [.ref L,.int 8] h = .ok (.int kd) (h.set L (.lst [.int N1])):=t1;obtain ⟨h1,eh1⟩:∃ h1,h1=h.set L (.lst [.int N1]):=⟨_,rfl⟩
 rw [<- eh1] at t1 F1;have e1:=(F1.fr K lK KL).trans e
 obtain ⟨PP,ePP⟩:∃ PP:OutS->Prop,PP=λo=>Dz L h kx (aS o):=⟨_,rfl⟩
 have toP:∀ o,PP o->Dz L h kx (aS o):=λo z=>by rw [ePP] at z;exact z
 have ofP:∀ o,Dz L h kx (aS o)->PP o:=λo z=>by rw [ePP];exact z
 clear ePP;refine fT (P:=Dz L h kx) rfl (toP _ ?_)
 refine bj (v:=.int kd) (h2:=h1) ?_ ?_
 ·generalize bC=G at *
  simp [t1]
 have ck:(aJ (ah aH (ae 2) (af (.int 0)))) [some (.ref L),some (.ref K),some (.int kd),none,none,none,none,none,none] h1 = .ok (decide (kd=0)) h1:=by
  by_cases q:kd=0
  ·subst q;simp
  ·have : ¬ (kd:Int)=0:=by lia
   simp [q,this]
 by_cases k0:kd=0
 ·obtain ⟨v1,h2,t2,F2,n2⟩:=pH e1 F1.ro KL ct nm1 (odd:=hZ) (by decide) (by decide)
  obtain ⟨x,rfl,lx⟩:=rW n2;have t2:fM [.ref L,.ref K,.fl [.str "",.str "A",.str "none"]] h1 = .ok (.str x) h2:=t2;have F02:=F1.trans F2;have e2:=(F02.fr K lK KL).trans e;have ni:=rV e2 x;rw [ND k0] at ck
  cases lx':lk kx x with
  | none =>
   rw [lx'] at ni;refine iO (h1:=h1) ck (w:=.rt (.tup [.tup [.str "drop",.str x],.str "NoName",.ref K]) h2) ?_ ⟨_,_,rfl⟩ (ofP _ ⟨_,_,_,h2,rfl,F02,λhd=>absurd hd (by decide +kernel)⟩)
   refine bj (P:=λo=>o=_) (v:=.str x) (h2:=h2) ?_ ?_
   ·generalize fM=G at *
    simp [t2]
   refine pI (P:=λo=>o=_) (h1:=h2) (v:=.tup [.tup [.str "drop",.str x],.str "NoName",.ref K]) (h3:=h2) ?_ ?_ rfl
   ·have ni:dS (.str x) (.ref K) h2 = .ok (.bl true) h2:=ni
    simp [ni,-dS]
   ·simp
  | some v =>
   rw [lx'] at ni;have dc:=BH e2
   obtain ⟨h3,eh3⟩:∃ h3,h3=h2++[AO.dct false (kx.map (kG gS))]:=⟨_,rfl⟩
   obtain ⟨K',eK'⟩:∃ K',K'=h2.length:=⟨_,rfl⟩
   rw [<- eh3,<- eK'] at dc;have e3:h3[K']? = some (.dct false (kx.map (kG gS))):=by rw [eh3,eK'];simp
   have hl:=F02.hl;obtain ⟨h4,eh4⟩:∃ h4,h4=h3.set K' (.dct false ((pq kx x).map (kG gS))):=⟨_,rfl⟩
   have F3:Fr L h h3:=by rw [eh3];exact F02.app _
   have F4:Fr L h h4:=by
    obtain ⟨N,eN⟩:=F3.ro;have l3:=F3.hl;exact ⟨λi hi n=>by rw [eh4,MS (by lia)];exact F3.fr i hi n,by rw [eh4,NI];exact l3,N,by rw [eh4,MS (by lia)];exact eN⟩
   have e4:h4[K']? = some (.dct false ((pq kx x).map (kG gS))):=by rw [eh4];exact MY (bY e3)
   refine iO (h1:=h1) ck (w:=.rt (.tup [.tup [.str "drop",.str x],.str "",.ref K']) h4) ?_ ⟨_,_,rfl⟩ (ofP _ ⟨_,_,_,h4,rfl,F4,λ_=>⟨x,none,0,.drop lx',by lia,by lia,λo eo=>?_,nofun⟩⟩)
   ·refine bj (P:=λo=>o=_) (v:=.str x) (h2:=h2) ?_ ?_
    ·generalize fM=G at *
     simp [t2]
    refine cD (P:=λo=>o=_) (h1:=h2) ?_ ?_
    ·have ni:dS (.str x) (.ref K) h2 = .ok (.bl false) h2:=ni
     simp [ni,-dS]
    refine bj (P:=λo=>o=_) (v:=.ref K') (h2:=h3) ?_ ?_
    ·generalize j8=G at *
     simp [dc]
    refine cC (P:=λo=>o=_) (e2:=[some (.ref L),some (.ref K),some (.int kd),some (.str x),some (.ref K'),none,none,none,none]) (h2:=h4) ?_ ?_
    ·have k1:d0 false (.str x)=true:=rfl
     have dp:i5 (ae 4) (ae 3) [some (.ref L),some (.ref K),some (.int kd),some (.str x),some (.ref K'),none,none,none,none] h3 = .ok (gS v) h4:=by
      have a1:ae 4 [some (.ref L),some (.ref K),some (.int kd),some (.str x),some (.ref K'),none,none,none,none] h3 = .ok (.ref K') h3:=rfl;have a2:ae 3 [some (.ref L),some (.ref K),some (.int kd),some (.str x),some (.ref K'),none,none,none,none] h3 = .ok (.str x) h3:=rfl;simp only [i5,a1,a2,Out.bind,e3,k1,OT,jQ,lx',Option.map]
      rw [Bj,eh4]
     show bH (i5 (ae 4) (ae 3)) [some (.ref L),some (.ref K),some (.int kd),some (.str x),some (.ref K'),none,none,none,none] h3=_
     generalize i5 (ae 4) (ae 3)=SP at *;simp [dp]
    ·simp
   ·obtain rfl:o=none:=by
     cases o with
     | none=>rfl
     | some w=>cases eo
    exact e4
 rw [Nl k0] at ck;refine cD (h1:=h1) ck ?_
 obtain ⟨G,eG,hG⟩:∃ G:Fn,Gv L h1 kx (G [.ref L,.ref K] h1)/\gY mH mI (aC bX (aj (ah dZ (ae 2) (af (.int 3))) ag)) (aj (ae 0) (aj (ae 1) ag)) [some (.ref L),some (.ref K),some (.int kd),none,none,none,none,none,none] h1=G [.ref L,.ref K] h1:=by
  have ap:∀ G:Fn,aC G (aj (ae 0) (aj (ae 1) ag)) [some (.ref L),some (.ref K),some (.int kd),none,none,none,none,none,none] h1=G [.ref L,.ref K] h1:=λG=>by simp
  by_cases z:3<kd
  ·refine ⟨mI,Kz e1 F1.ro KL ct nm,?_⟩
   have i:aC bX (aj (ah dZ (ae 2) (af (.int 3))) ag) [some (.ref L),some (.ref K),some (.int kd),none,none,none,none,none,none] h1 = .ok (.int 1) h1:=by
    have:(3:Int)<kd:=by lia
    simp [this]
   simp only [gY,i,Out.bind]
   exact ap _
  ·refine ⟨mH,Kw e1 F1.ro KL ct nm,?_⟩
   have i:aC bX (aj (ah dZ (ae 2) (af (.int 3))) ag) [some (.ref L),some (.ref K),some (.int kd),none,none,none,none,none,none] h1 = .ok (.int 0) h1:=by
    have : ¬ (3:Int)<kd:=by lia
    simp [this]
   simp only [gY,i,Out.bind]
   exact ap _
 obtain ⟨deed,due,pl,h2,eg,F2,gd⟩:=eG;rw [eg] at hG;have F02:=F1.trans F2
 refine cC (e2:=[some (.ref L),some (.ref K),some (.int kd),none,none,some deed,some (.str due),some pl,none]) (h2:=h2) ?_ ?_
 ·generalize gY mH mI (aC bX (aj (ah dZ (ae 2) (af (.int 3))) ag)) (aj (ae 0) (aj (ae 1) ag))=SS at *
  simp [hG]
 obtain ⟨deed',pl',s4,gd'⟩:∃ deed' pl',aK (d8 (aJ (ah aH (ae 6) (af (.str "")))) (aJ (ah dZ (aC aW (aj (ae 7) ag)) (af (.int 300))))) (qW 5 6 7 (aj (bB (aj (af (.str "give")) (aj (ah au (ae 5) (af (.int 1))) (aj (af (.str "long")) ag)))) (aj (af (.str "")) (aj (af (.str "long")) ag)))) aO [some (.ref L),some (.ref K),some (.int kd),none,none,some deed,some (.str due),some pl,none] h2 = .nx [some (.ref L),some (.ref K),some (.int kd),none,none,some deed',some (.str due),some pl',none] h2 /\
   (due = "" -> ∃ (x y:Str) (c:Nat) (k:AV) (r:List AV),pl' = .str y/\deed' = .tup (k :: .str x::r)/\Gd kx deed' x (some y) c/\c<=240000/\y.length<=300):=by
  by_cases hd:due = ""
  ·obtain ⟨x,y,c,k,r,rfl,rfl,hx,g,hc,hy⟩:=gd hd
   subst hd;by_cases ly:300<y.length
   ·refine ⟨.tup [.str "give",.str x,.str "long"],.str "long",?_,λ_=>⟨x, "long",_,_,_,rfl,rfl,.give hx (by decide +kernel) (by decide),by decide,by decide⟩⟩
    have a1:atI (k :: .str x::r) 1=some (.str x):=jh (j:=1) rfl;have l2:(300:Int)<y.length:=by lia
    simp [l2,a1,qW]
   ·refine ⟨_,_,?_,λ_=>⟨x,y,c,k,r,rfl,rfl,g,hc,by lia⟩⟩
    have l2 : ¬ (300:Int)<y.length:=by lia
    simp [l2]
  ·exact ⟨deed,pl,by simp [hd],λz=>absurd z hd⟩
 refine cC s4 ?_
 have e2:=(F02.fr K lK KL).trans e;have dc:=BH e2;obtain ⟨h3,eh3⟩:∃ h3,h3=h2++[AO.dct false (kx.map (kG gS))]:=⟨_,rfl⟩
 obtain ⟨K',eK'⟩:∃ K',K'=h2.length:=⟨_,rfl⟩
 rw [<- eh3,<- eK'] at dc;have e3:h3[K']? = some (.dct false (kx.map (kG gS))):=by rw [eh3,eK'];simp
 have hl:=F02.hl;have F3:Fr L h h3:=by rw [eh3];exact F02.app _
 refine bj (v:=.ref K') (h2:=h3) ?_ ?_
 ·generalize j8=G at *
  simp [dc]
 by_cases hd:due = ""
 ·obtain ⟨x,y,c,k,r,rfl,rfl,g,hc,hy⟩:=gd' hd
  subst hd;obtain ⟨h4,eh4⟩:∃ h4,h4=h3.set K' (.dct false ((put kx x (0,y)).map (kG gS))):=⟨_,rfl⟩
  have F4:Fr L h h4:=by
   obtain ⟨N,eN⟩:=F3.ro;have l3:=F3.hl;exact ⟨λi hi n=>by rw [eh4,MS (by lia)];exact F3.fr i hi n,by rw [eh4,NI];exact l3,N,by rw [eh4,MS (by lia)];exact eN⟩
  have e4:h4[K']? = some (.dct false ((put kx x (0,y)).map (kG gS))):=by rw [eh4];exact MY (bY e3)
  refine cC (e2:=[some (.ref L),some (.ref K),some (.int kd),none,none,some (.tup (k :: .str x::r)),some (.str ""),some (.str y),some (.ref K')]) (h2:=h4) ?_ ?_
  ·have k1:d0 false (.str x)=true:=rfl
   have sz:(kx.map (kG gS)).length<sizeLine:=by rw [M0];exact M8 ct (by decide)
   have a1:atI (k :: .str x::r) 1=some (.str x):=jh (j:=1) rfl;have ix:ah au (ae 5) (af (.int 1)) [some (.ref L),some (.ref K),some (.int kd),none,none,some (.tup (k :: .str x::r)),some (.str ""),some (.str y),some (.ref K')] h3 = .ok (.str x) h3:=by simp [a1]
   have b1:ae 8 [some (.ref L),some (.ref K),some (.int kd),none,none,some (.tup (k :: .str x::r)),some (.str ""),some (.str y),some (.ref K')] h3 = .ok (.ref K') h3:=rfl;have b2:ae 7 [some (.ref L),some (.ref K),some (.int kd),none,none,some (.tup (k :: .str x::r)),some (.str ""),some (.str y),some (.ref K')] h3 = .ok (.str y) h3:=rfl;have st:fF (ae 8) (ah au (ae 5) (af (.int 1))) (ae 7) [some (.ref L),some (.ref K),some (.int kd),none,none,some (.tup (k :: .str x::r)),some (.str ""),some (.str y),some (.ref K')] h3 = .nx [some (.ref L),some (.ref K),some (.int kd),none,none,some (.tup (k :: .str x::r)),some (.str ""),some (.str y),some (.ref K')] h4:=by
    simp only [fF,b1,b2,ix,Out.go,e3]
    rw [MW ⟨k1,sz⟩,eh4];exact congrArg (λz=>OutS.nx _ (h3.set K' (.dct false z))) (pj gS kx x (0,y))
   show aK (aJ (ah aH (ae 6) (af (.str "")))) (fF (ae 8) (ah au (ae 5) (af (.int 1))) (ae 7)) aO [some (.ref L),some (.ref K),some (.int kd),none,none,some (.tup (k :: .str x::r)),some (.str ""),some (.str y),some (.ref K')] h3=_
   generalize fF (ae 8) (ah au (ae 5) (af (.int 1))) (ae 7)=SX at *;simp [st]
  refine hX (v:=.tup [.tup (k :: .str x::r),.str "",.ref K']) (h' := h4) (by simp) (ofP _ ⟨_,_,_,h4,rfl,F4,λ_=>⟨x,some y,c,g,hc,by lia,λo eo=>?_,λy' ey=>by cases ey;exact hy⟩⟩)
  cases o with
  | none=>cases eo
  | some w =>
   have:w.2=y:=by simpa using eo
   have q:(put kx x w).map (kG gS)=(put kx x (0,y)).map (kG gS):=by
    rw [<- pj gS kx x w,<- pj gS kx x (0,y)];show eX _ _ (.str w.2)=_
    rw [this]
   rw [e4,<- q];rfl
 ·refine cC (e2:=[some (.ref L),some (.ref K),some (.int kd),none,none,some deed',some (.str due),some pl',some (.ref K')]) (h2:=h3) ?_ ?_
  ·show aK (aJ (ah aH (ae 6) (af (.str "")))) (fF (ae 8) (ah au (ae 5) (af (.int 1))) (ae 7)) aO [some (.ref L),some (.ref K),some (.int kd),none,none,some deed',some (.str due),some pl',some (.ref K')] h3=_
   generalize fF (ae 8) (ah au (ae 5) (af (.int 1))) (ae 7)=SX at *;simp [hd]
  exact hX (v:=.tup [deed',.str due,.ref K']) (h' := h3) (by simp) (ofP _ ⟨_,_,_,h3,rfl,F3,λz=>absurd z hd⟩)
variable {ds:List De}
theorem Ho.kp {q t:Nat} {bs:List De} (H:Ho h q p t ps kx ds bs) (k:∀ i,q<=i->i<=t+2->h'[i]? = h[i]?):Ho h' q p t ps kx ds bs:=by
 have lo:=H.lo;exact ⟨(k q (by lia) (by lia)).trans H.ob,H.sh.keep λi a b=>k i (by lia) (by lia),H.gd,(k t (by lia) (by lia)).trans H.tx,(k (t+1) (by lia) (by lia)).trans H.de,(k (t+2) (by lia) (by lia)).trans H.ba,H.tz,lo,H.ct,H.nd⟩
theorem wB:∀ l:List Str,PyData.eqvAll (l.map PyData.str) (l.map PyData.str)=true
 | []=>by simp [PyData.eqvAll]
 | d::l=>by rw [Ny];simp [PyData.eqvAll,PyData.eqv,wB l]
variable {W:List Str}
theorem r9 (k:Nat) (e:h[a]? = some (.lst (W.map AV.str))):bx (k+2) h (.ref a)=some (.list (W.map PyData.str)):=by
 show (match h[a]? with | some (.lst xs)=>(bG (bx (k+1) h) xs).map PyData.list | _=>none)=_
 rw [e];show (bG (bx (k+1) h) (W.map AV.str)).map PyData.list=_
 rw [pF k];rfl
theorem wC (e:h[a]? = some (.lst (W.map AV.str))):bL (.ref a) (.fl (W.map AV.str)) h = .ok (.bl false) h:=by
 have d1:=r9 6 e;have d2:bx 8 h (.fl (W.map AV.str))=some (.list (W.map PyData.str)):=by
  show (bG (bx 7 h) (W.map AV.str)).map PyData.list=_
  rw [pF 6];rfl
 have qq:fB (.ref a) (.fl (W.map AV.str)) h=some true:=by
  show (match bx 8 h (.ref a),bx 8 h (.fl (W.map AV.str)) with | some d,some e=>some (PyData.eqv d e) | _,_=>none)=_
  rw [d1,d2];show some (PyData.eqv (.list _) (.list _))=_
  simp [PyData.eqv,wB]
 show (match fB (.ref a) (.fl (W.map AV.str)) h with | some b=>Out.ok (AV.bl (!b)) h | none=>Out.bad)=_
 rw [qq];rfl
theorem KC {m:Nat} (ea:h[a]? = some (.lst [.str "other"])) (eb:h[b]? = some (.lst [.str "other"])):bL (.fl [.ref a,.int n,.int m]) (.fl [.ref b,.int n,.int m]) h = .ok (.bl false) h:=by
 have da:=r9 (W:=["other"]) 5 ea;have db:=r9 (W:=["other"]) 5 eb;have d:∀ c:Nat,bx 7 h (.ref c)=some (.list [.str "other"])->bx 8 h (.fl [.ref c,.int n,.int m])=some (.list [.list [.str "other"],.int n,.int m]):=λc e=>by
  show (bG (bx 7 h) [.ref c,.int n,.int m]).map PyData.list=_
  simp only [bG,e]
  rfl
 have qq:fB (.fl [.ref a,.int n,.int m]) (.fl [.ref b,.int n,.int m]) h=some true:=by
  show (match bx 8 h (.fl [.ref a,.int n,.int m]),bx 8 h (.fl [.ref b,.int n,.int m]) with | some d,some e=>some (PyData.eqv d e) | _,_=>none)=_
  rw [d a da,d b db];show some (PyData.eqv (.list _) (.list _))=_
  simp [PyData.eqv,PyData.eqvAll]
 show (match fB (.fl [.ref a,.int n,.int m]) (.fl [.ref b,.int n,.int m]) h with | some b=>Out.ok (AV.bl (!b)) h | none=>Out.bad)=_
 rw [qq];rfl
theorem KF (xs:List AV) (v:AV):dG (xs++[v]) none (some (-1))=xs:=by
 unfold dG;have:HT.sIx (xs++[v]).length (xs++[v]).length (some (-1))=xs.length:=by
  unfold HT.sIx;simp
  lia
 rw [this,HT.sIx_none];simp
structure St84 (h:AH) (kx:List (Str×Nat×Str)) (ps:List Pc) (ds:List De) (psb:List Pc) (nb A K:Nat) (yb:Str):Prop where
 ho:Ho h 0 1 10 ps kx ds []
 be:Ho h 13 14 23 psb [("other",nb,yb)] [("other",none,some nb)] []
 ka:h[K]? = some (.dct false (kx.map (kG gS)))
 aa:h[A]? = some (.lst [.str "other"])
 lo:25<K/\25<A
 nl:∀ e∈kx,e.2.2.length<=300
theorem St84.kp {h h':AH} {kx:List (Str×Nat×Str)} {ps:List Pc} {ds:List De} {psb:List Pc} {nb A K:Nat} {yb:Str} (S:St84 h kx ps ds psb nb A K yb) (k:∀ i,i<h.length->h'[i]? = h[i]?):St84 h' kx ps ds psb nb A K yb:=by
 have l:=bY S.be.ba;exact ⟨S.ho.kp λi _ _=>k i (by lia),S.be.kp λi _ _=>k i (by lia),(k K (bY S.ka)).trans S.ka,(k A (bY S.aa)).trans S.aa,S.lo,S.nl⟩
theorem St84.app (S:St84 h kx ps ds psb nb A K yb) (r:AH):St84 (h++r) kx ps ds psb nb A K yb:=S.kp λi hi=>MT hi
section
variable {h:AH} {kx:List (Str×Nat×Str)} {ps:List Pc} {ds:List De} {psb:List Pc} {nb A K:Nat} {yb:Str}
abbrev eA (o0:Option AV) (K A nb mb:Nat) (o6 o7 o8 o9 o10 o11 o12 o13 o14 o15 o16 o17:Option AV):En:=[o0,some (.ref 0),some (.ref 13),some (.ref 1),some (.ref K),some (.fl [.ref A,.int nb,.int mb]),o6,o7,o8,o9,o10,o11,o12,o13,o14,o15,o16,o17]
theorem BI (S:St84 h kx ps ds psb nb A K yb) (o0 o6 o7 o8 o9 o10 o11 o12 o13 o14 o15 o16 o17:Option AV) :
  ∃ h' c17,(ao (az 17 (aD 1 cF (ae 1) ag))
  (ao (bH (eI cA cY (ae 17) (aj (af (.str "none")) ag)))
  (ao (aK (iV (aJ (ah bL (aD 1 cF (ae 1) ag) (bR (ae 17) none (some (gM dR (af (.int 1))))))) (aJ (ah bL (aD 1 cF (ae 1) ag) (jF (ae 4))))) (ay (af (.bl false))) aO)
  (ao (aK (aJ (ah bL (aD 0 eP (ae 3) ag) (aD 0 eP (aD 1 d5 (ae 1) ag) ag))) (ay (af (.bl false))) aO)
  (aK (aJ (ah bL (aX (aj (aD 1 cF (ae 2) ag) (aj (aD 1 bI (ae 2) (aj (af (.str "other")) ag)) (aj (aD 0 eP (aD 1 d5 (ae 2) ag) ag) ag)))) (ae 5))) (ay (af (.bl false))) aO))))) (eA o0 K A nb psb.length o6 o7 o8 o9 o10 o11 o12 o13 o14 o15 o16 o17) h = .nx (eA o0 K A nb psb.length o6 o7 o8 o9 o10 o11 o12 o13 o14 o15 o16 c17) h'/\St84 h' kx ps ds psb nb A K yb/\h.length<=h'.length:=by
 obtain ⟨W,eW⟩:∃ W,W=(cK kx).map AV.str:=⟨_,rfl⟩
 obtain ⟨T1,eT1⟩:∃ T1,T1=h.length:=⟨_,rfl⟩
 have n1:=jR S.ho;obtain ⟨h1,eh1⟩:∃ h1,h1=h++[AO.lst W]:=⟨_,rfl⟩
 rw [<- eW,<- eh1,<- eT1] at n1;have e1:h1[T1]? = some (.lst W):=by rw [eh1,eT1];simp
 have wl:W.length<=50:=by rw [eW,M0,wu];exact S.ho.ct
 have ap:=Kb e1 (by lia) (.str "none");have il:cA (.ref T1) h1=true:=by simp only [cA,gB,e1];rfl
 obtain ⟨h2,eh2⟩:∃ h2,h2=h1.set T1 (.lst (W++[.str "none"])):=⟨_,rfl⟩
 rw [<- eh2] at ap;have e2:h2[T1]? = some (.lst (W++[.str "none"])):=by rw [eh2];exact MY (bY e1)
 have l2:h2.length=T1+1:=by rw [eh2,NI,eh1,M6,eT1];rfl
 have S2:St84 h2 kx ps ds psb nb A K yb:=S.kp λi hi=>by rw [eh2,MS (by lia),eh1,MT hi]
 have n3:=jR S2.ho;obtain ⟨h3,eh3⟩:∃ h3,h3=h2++[AO.lst W]:=⟨_,rfl⟩
 obtain ⟨T2,eT2⟩:∃ T2,T2=h2.length:=⟨_,rfl⟩
 rw [<- eW,<- eh3,<- eT2] at n3;have S3:St84 h3 kx ps ds psb nb A K yb:=by rw [eh3];exact S2.app _
 have e3:h3[T2]? = some (.lst W):=by rw [eh3,eT2];simp
 have e31:h3[T1]? = some (.lst (W++[.str "none"])):=by rw [eh3,MT (by lia)];exact e2
 have cu:dh (.ref T1) none (some (-1)) h3 = .ok (.fl W) h3:=by
  simp only [dh,e31,KF]
 have ne3:bL (.ref T2) (.fl W) h3 = .ok (.bl false) h3:=by rw [eW] at e3 ⊢;exact wC e3
 have n4:=jR S3.ho;obtain ⟨h4,eh4⟩:∃ h4,h4=h3++[AO.lst W]:=⟨_,rfl⟩
 obtain ⟨T3,eT3⟩:∃ T3,T3=h3.length:=⟨_,rfl⟩
 rw [<- eW,<- eh4,<- eT3] at n4;have S4:St84 h4 kx ps ds psb nb A K yb:=by rw [eh4];exact S3.app _
 have e4:h4[T3]? = some (.lst W):=by rw [eh4,eT3];simp
 have ne4:bL (.ref T3) (.fl W) h4 = .ok (.bl false) h4:=by rw [eW] at e4 ⊢;exact wC e4
 have so:mr [.ref K] h4 = .ok (.fl W) h4:=by rw [eW];exact Bz S4.ka S4.ho.ct λe he=>(S4.ho.tz e he).2
 have n5:=jR S4.be;have wb:(cK [("other",nb,yb)]).map AV.str=[.str "other"]:=rfl;obtain ⟨h5,eh5⟩:∃ h5,h5=h4++[AO.lst [.str "other"]]:=⟨_,rfl⟩
 obtain ⟨T4,eT4⟩:∃ T4,T4=h4.length:=⟨_,rfl⟩
 rw [wb,<- eh5,<- eT4] at n5;have S5:St84 h5 kx ps ds psb nb A K yb:=by rw [eh5];exact S4.app _
 have e5:h5[T4]? = some (.lst [.str "other"]):=by rw [eh5,eT4];simp
 have ft:=fi S5.be (x := "other") (v:=(nb,yb)) (by rw [hW,MW rfl]);have hs4:=pE S4.ho;have mn4:=mO S4.ho.sh;have hs5:=pE S5.be;have mn5:=mO S5.be.sh;have ne5:bL (.fl [.ref T4,.int nb,.int psb.length]) (.fl [.ref A,.int nb,.int psb.length]) h5 = .ok (.bl false) h5:=KC e5 S5.aa;have nm:bL (.int ps.length) (.int ps.length) h4 = .ok (.bl false) h4:=by simp
 have ob:=S.ho.ob;have ob2:=S2.ho.ob;have ob3:=S3.ho.ob;have ob4:=S4.ho.ob;have op4:=S4.ho.sh.ob;have bb4:=S4.be.ob;have bb5:=S5.be.ob;have bp5:=S5.be.sh.ob;have ft:bI [.ref 13,.str "other"] h5 = .ok (.int nb) h5:=ft;refine ⟨h5,some (.ref T1),?_,S5,by rw [eh5,eh4,eh3,M6,M6,M6,l2];lia⟩
 refine bj (P:=λz=>z=_) (v:=.ref T1) (h2:=h1) ?_ ?_
 ·generalize cF=G at *
  simp [ob,n1]
 refine cC (P:=λz=>z=_) (e2:=eA o0 K A nb psb.length o6 o7 o8 o9 o10 o11 o12 o13 o14 o15 o16 (some (.ref T1))) (h2:=h2) ?_ ?_
 ·simp [ap,il,-cY,-cA]
 refine cD (P:=λz=>z=_) (h1:=h4) ?_ ?_
 ·have ng:∀ hx,dR (.int 1) hx = .ok (.int (-1)) hx:=λ_=>rfl
  have sk:∀ en:En,en[4]? = some (some (.ref K))->jF (ae 4) en h4 = .ok (.fl W) h4:=λen e=>by simp [jF,e,so,-mr]
  generalize cF=G at *;have sk' := sk (eA o0 K A nb psb.length o6 o7 o8 o9 o10 o11 o12 o13 o14 o15 o16 (some (.ref T1))) rfl
  generalize jF (ae 4)=SK at *;generalize (-1:Int)=M1 at *;simp [ob2,n3,ng,cu,ne3,ob3,n4,sk',ne4,-dR,-dh,-bL]
 refine cD (P:=λz=>z=_) (h1:=h4) ?_ ?_
 ·generalize d5=G at *
  generalize eP=G2 at *;simp [ob4,hs4,op4,mn4,nm,-bL]
 have fin:(aJ (ah bL (aX (aj (aD 1 cF (ae 2) ag) (aj (aD 1 bI (ae 2) (aj (af (.str "other")) ag)) (aj (aD 0 eP (aD 1 d5 (ae 2) ag) ag) ag)))) (ae 5))) (eA o0 K A nb psb.length o6 o7 o8 o9 o10 o11 o12 o13 o14 o15 o16 (some (.ref T1))) h4 = .ok false h5:=by
  generalize cF=G0 at *;generalize bI=G1 at *;generalize d5=G at *;generalize eP=G2 at *;simp [bb4,n5,bb5,ft,hs5,bp5,mn5,ne5,-bL]
 show aK _ _ _ _ _=_
 generalize aJ (ah bL (aX (aj (aD 1 cF (ae 2) ag) (aj (aD 1 bI (ae 2) (aj (af (.str "other")) ag)) (aj (aD 0 eP (aD 1 d5 (ae 2) ag) ag) ag)))) (ae 5))=C at *;show aK C _ _ (eA o0 K A nb psb.length o6 o7 o8 o9 o10 o11 o12 o13 o14 o15 o16 (some (.ref T1))) h4=_
 unfold aK;rw [fin];rfl
end
theorem St84.kL (S:St84 h kx ps ds psb nb A K yb) (hL:25<L) (LK:L≠K) (LA:L≠A) (k:∀ i,i<h.length->i≠L->h'[i]? = h[i]?):St84 h' kx ps ds psb nb A K yb:=by
 have l:=bY S.be.ba;exact ⟨S.ho.kp λi _ _=>k i (by lia) (by lia),S.be.kp λi _ _=>k i (by lia) (by lia),(k K (bY S.ka) (Ne.symm LK)).trans S.ka,(k A (bY S.aa) (Ne.symm LA)).trans S.aa,S.lo,S.nl⟩
theorem St84.dd {h h':AH} {kx:List (Str×Nat×Str)} {ps ps':List Pc} {ds:List De} {psb:List Pc} {nb A K c:Nat} {yb:Str} (S:St84 h kx ps ds psb nb A K yb) (D:Dd 1 h h' ps ps' c):St84 h' kx ps' ds psb nb A K yb:=by
 have lo:=S.lo;exact ⟨S.ho.dd D,S.be.kp λi a _=>D.fr i (by lia),(D.fr K (by lia)).trans S.ka,(D.fr A (by lia)).trans S.aa,S.lo,S.nl⟩
theorem pL {deed:AV} (g:Gd kx deed x (some y) c):∃ (k:Str) (r:List AV),deed = .tup (.str k :: .str x::r) /\ ¬ k = "drop" /\ (k = "copy_of" -> ∃ o,deed = .tup [.str "copy_of",.str x,.str o]):=by
 cases g with
 | give=>exact ⟨_,_,rfl,by decide +kernel,λe=>absurd e (by decide +kernel)⟩
 | @copy x z v=>exact ⟨_,_,rfl,by decide +kernel,λ_=>⟨z,rfl⟩⟩
 | join=>exact ⟨_,_,rfl,by decide +kernel,λe=>absurd e (by decide +kernel)⟩
 | put=>exact ⟨_,_,rfl,by decide +kernel,λe=>absurd e (by decide +kernel)⟩
 | take=>exact ⟨_,_,rfl,by decide +kernel,λe=>absurd e (by decide +kernel)⟩
 | rep=>exact ⟨_,_,rfl,by decide +kernel,λe=>absurd e (by decide +kernel)⟩
 | rep0=>exact ⟨_,_,rfl,by decide +kernel,λe=>absurd e (by decide +kernel)⟩
theorem KG {deed:AV} (g:Gd kx deed x none c):deed = .tup [.str "drop",.str x]:=by
 cases g with
 | drop=>rfl
section
variable {h:AH} {kx:List (Str×Nat×Str)} {ps:List Pc} {ds:List De} {psb:List Pc} {nb A K:Nat} {yb:Str}
theorem KH (S:St84 h kx ps ds psb nb A K yb) {R:Nat} (eR:h[R]? = some (.dct false [])) (lR:25<R) (RK:R≠K) (RA:R≠A) (o0 o6 o7 o8 o9 o10 o11 o12 o13 o14 o16 o17:Option AV) :
  ∃ h' c16 kt,cX (cO (aD 1 cF (ae 1) ag)) (.nm 16) kh (eA o0 K A nb psb.length o6 o7 o8 o9 o10 o11 o12 o13 o14 (some (.ref R)) o16 o17) h = .nx (eA o0 K A nb psb.length o6 o7 o8 o9 o10 o11 o12 o13 o14 (some (.ref R)) c16 o17) h'/\h'[R]? = some (.dct false ((kt:List (Str×Nat×Str)).map (kG gN))) /\
   (∀ x v,lk kx x=some v->(lk kt x).map (·.1)=some v.1)/\(∀ i,i<h.length->i≠R->h'[i]? = h[i]?)/\h.length<=h'.length:=by
 have lRh:=bY eR;have n1:=jR S.ho;obtain ⟨h1,eh1⟩:∃ h1,h1=h++[AO.lst ((cK kx).map AV.str)]:=⟨_,rfl⟩
 obtain ⟨T,eT⟩:∃ T,T=h.length:=⟨_,rfl⟩
 rw [<- eh1,<- eT] at n1;have e1:h1[T]? = some (.lst ((cK kx).map AV.str)):=by rw [eh1,eT];simp
 have k1:∀ i,i<T->h1[i]? = h[i]? := λi hi=>by rw [eh1,MT (by lia)]
 have l1:h1.length=T+1:=by rw [eh1,M6,eT];rfl
 have slen:(cK kx).length<=50:=by rw [wu];exact S.ho.ct
 have S1:St84 h1 kx ps ds psb nb A K yb:=by rw [eh1];exact S.app _
 obtain ⟨e',h',r1,c16,kt,rfl,eR',fr',hl',kk,ktl⟩:=oH (w:=some T) (all:=(cK kx).map AV.str) (t:=.nm 16) (b:=kh) (xs:=(cK kx).map AV.str) (en:=eA o0 K A nb psb.length o6 o7 o8 o9 o10 o11 o12 o13 o14 (some (.ref R)) o16 o17) (h:=h1)
  (λj en hh=>∃ (c16:Option AV) (kt:List (Str×Nat×Str)),en=eA o0 K A nb psb.length o6 o7 o8 o9 o10 o11 o12 o13 o14 (some (.ref R)) c16 o17/\hh[R]? = some (.dct false (kt.map (kG gN)))/\(∀ i,i≠R->hh[i]? = h1[i]?)/\hh.length=h1.length/\(∀ i z,i<j->(cK kx)[i]? = some z->(lk kt z).map (·.1)=some (lI kx z))/\kt.length<=j)
  ⟨o16,[],rfl,(k1 R (by lia)).trans eR,λ_ _=>rfl,rfl,λi z hi=>absurd hi (Oj _),MQ _⟩ (by
   rintro j en hh ⟨c16,kt,_,_,fr,_⟩
   have:hh[T]? = some (.lst ((cK kx).map AV.str)):=(fr T (by lia)).trans e1
   simp [fu,this]) (by
   rintro j u en hh hu ⟨c16,kt,rfl,eR,fr,hl,kk,ktl⟩
   rw [Nu] at hu;obtain ⟨z,ez,rfl⟩:=Nc.mp hu
   have jl:=(MP.mp ez).1;obtain ⟨v,ev⟩:=By (Nq ez);have lb:=bY S1.be.ba;have Hh:Ho hh 0 1 10 ps kx ds []:=S1.ho.kp λi _ _=>fr i (by lia)
   have ft:=fi Hh ev;have ob:=Hh.ob;have k2:d0 false (.str z)=true:=rfl;have sz:(kt.map (kG gN)).length<sizeLine:=by rw [M0];exact M8 (m:=50) (by lia) (by decide)
   have st:kh (eA o0 K A nb psb.length o6 o7 o8 o9 o10 o11 o12 o13 o14 (some (.ref R)) (some (.str z)) o17) hh = .nx (eA o0 K A nb psb.length o6 o7 o8 o9 o10 o11 o12 o13 o14 (some (.ref R)) (some (.str z)) o17) (hh.set R (.dct false ((put kt z (v.1, "")).map (kG gN)))):=by
    have a1:ae 15 (eA o0 K A nb psb.length o6 o7 o8 o9 o10 o11 o12 o13 o14 (some (.ref R)) (some (.str z)) o17) hh = .ok (.ref R) hh:=rfl;have a2:ae 16 (eA o0 K A nb psb.length o6 o7 o8 o9 o10 o11 o12 o13 o14 (some (.ref R)) (some (.str z)) o17) hh = .ok (.str z) hh:=rfl;have a3:aD 1 bI (ae 1) (aj (ae 16) ag) (eA o0 K A nb psb.length o6 o7 o8 o9 o10 o11 o12 o13 o14 (some (.ref R)) (some (.str z)) o17) hh = .ok (.int v.1) hh:=by
     generalize bI=G at *;simp [ob,ft]
    unfold kh;simp only [fF,a1,a2,a3,Out.go,eR]
    rw [MW ⟨k2,sz⟩];exact congrArg (λq=>OutS.nx _ (hh.set R (.dct false q))) (pj gN kt z (v.1, ""))
   show thn (kh (eA o0 K A nb psb.length o6 o7 o8 o9 o10 o11 o12 o13 o14 (some (.ref R)) (some (.str z)) o17) hh) _
   rw [st];refine ⟨_,put kt z (v.1, ""),rfl,MY (bY eR),λi hi=>by rw [MS (Ne.symm hi)];exact fr i hi,by rw [NI];exact hl,λi z' hi ei=>?_,by have:=wc kt z (v.1, "");lia⟩
   rw [we];by_cases q:z=z'
   ·rw [MW q,<- q,wx ev];rfl
   ·rw [MX q]
    by_cases w:i<j
    ·exact kk i z' w ei
    ·obtain rfl:i=j:=by lia
     rw [ez] at ei;exact absurd (Nx ei) q)
 rw [M0] at kk ktl;have it:cO (aD 1 cF (ae 1) ag) (eA o0 K A nb psb.length o6 o7 o8 o9 o10 o11 o12 o13 o14 (some (.ref R)) o16 o17) h = .ok ((cK kx).map AV.str,some T) h1:=by
  have ob:=S.ho.ob;clear r1;generalize (cK kx).map AV.str=W at *;generalize cF=G at *;simp [ob,n1,e1]
 refine ⟨h',c16,kt,(oI (t:=.nm 16) (b:=kh) it).trans r1,eR',λx v e=>?_,λi hi n=>(fr' i n).trans (k1 i (by lia)),by rw [hl',l1];lia⟩
 obtain ⟨i,hi,ei⟩:=OA (Kn e);have:=kk i x (by lia) (by rw [M3 hi,ei]);rw [wx e] at this;exact this
theorem wD (u:Nat) (hu:u<3):∃ z:Str,fg z=true/\∀ h,(au (.str "abc") (.int u) h).bind (λv h1=>aG (.str "q") v h1) = .ok (.str z) h:=by
 rcases (show u=0\/u=1\/u=2 by lia) with rfl | rfl | rfl
 ·exact ⟨"qa",by decide +kernel,λ_=>rfl⟩
 ·exact ⟨"qb",by decide +kernel,λ_=>rfl⟩
 ·exact ⟨"qc",by decide +kernel,λ_=>rfl⟩
end
theorem KI {deed:AV} {K':Nat} (S:St84 h kx ps ds psb nb A K yb) (g:Gd kx deed x (some y) c) (hc:c<=240000) (eL:∃ N:Int,h[L]? = some (.lst [.int N])) (hL:25<L) (LK:L≠K) (LA:L≠A) (kd:∀ o:Option (Nat×Str),o.map (·.2)=some y->h[K']? = some (.dct false ((upd kx x o).map (kG gS)))) (hK':25<K') (LK':L≠K') (ly:y.length<=300) (hp:ps.length<12000000) (ct:kx.length<50) (ld:ds.length<=900) (o0 o6 o7 o12 o13 o14 o15 o16 o17:Option AV) :
  ∃ h' c12 c13 c14 c15 c16 kx' ps' ds',(ao (az 12 (ah dZ (aC bC (aj (ae 8) (aj (af (.int 3)) ag))) (af (.int 0))))
  (ao (az 13 (af .non))
  (ao (aK (gC (ae 12)) (ao (az 13 (aC mK (aj (ae 1) (aj (ae 9) ag))))
  (bH (aD 0 c5 (ae 3) (aj (ah aG (af (.str "q")) (ah au (af (.str "abc")) (aC bC (aj (ae 8) (aj (af (.int 3)) ag))))) ag)))) aO)
  (ao (az 14 (aC jK (aj (ae 1) (aj (ah au (ae 9) (af (.int 1))) ag))))
  (ao (az 15 (jt false))
  (ao (cX (cO (aD 1 cF (ae 1) ag)) (.nm 16) kh)
  (ao (aK (iV (aJ (ah bL (aC mL (aj (ae 1) (aj (ae 9) ag))) (af (.str "")))) (aJ (ah bL (aC jK (aj (ae 1) (aj (ah au (ae 9) (af (.int 1))) ag))) (ae 14)))) (ay (af (.bl false))) aO)
  (ao (aK (d8 (gC (ae 12)) (aJ (ah bL (aD 1 bI (ae 1) (aj (ah au (ae 9) (af (.int 1))) ag)) (ae 13)))) (ay (af (.bl false))) aO)
  (ao (aK (d8 (aJ (ah aH (ah au (ae 9) (af (.int 0))) (af (.str "copy_of")))) (aJ (ah bL (aD 1 bI (ae 1) (aj (ah au (ae 9) (af (.int 1))) ag)) (ah au (ae 15) (ah au (ae 9) (af (.int 2))))))) (ay (af (.bl false))) aO)
  (az 4 (ae 11)))))))))))
   (eA o0 K A nb psb.length o6 o7 (some (.ref L)) (some deed) (some (.str "")) (some (.ref K')) o12 o13 o14 o15 o16 o17) h = .nx (eA o0 K' A nb psb.length o6 o7 (some (.ref L)) (some deed) (some (.str "")) (some (.ref K')) c12 c13 c14 c15 c16 o17) h' /\
   St84 h' kx' ps' ds' psb nb A K' yb/\ps'.length<=ps.length+240001/\ds'.length=ds.length+1/\kx'.length<=kx.length+1/\h.length<=h'.length:=by
 obtain ⟨kk,r,eD,nd,cpy⟩:=pL g;have nx:cn x=true:=by
  cases g with
  | give hx=>exact hx
  | copy hx=>exact hx
  | join l=>exact (fk S.ho l).2
  | put l=>exact (fk S.ho l).2
  | take l=>exact (fk S.ho l).2
  | rep l=>exact (fk S.ho l).2
  | rep0 l=>exact (fk S.ho l).2
 have a0:atI (AV.str kk :: .str x::r) 0=some (.str kk):=jh (j:=0) rfl;have a1:atI (AV.str kk :: .str x::r) 1=some (.str x):=jh (j:=1) rfl;have i0:∀ hx,au deed (.int 0) hx = .ok (.str kk) hx:=λhx=>by rw [eD];simp only [au,a0]
 have i1:∀ hx,au deed (.int 1) hx = .ok (.str x) hx:=λhx=>by rw [eD];simp only [au,a1]
 have lL:=eL;obtain ⟨N0,eN0⟩:=eL;have lLh:=bY eN0;have lK'h:=bY (kd (some (0,y)) rfl);have lb:=bY S.be.ba;obtain ⟨v,N3,hv,t3⟩:=mV 3 eN0 (by decide) (by decide);have t3:bC [.ref L,.int 3] h = .ok (.int v) (h.set L (.lst [.int N3])):=t3;obtain ⟨h3,eh3⟩:∃ h3,h3=h.set L (.lst [.int N3]):=⟨_,rfl⟩
 rw [<- eh3] at t3;have k3:∀ i,i≠L->h3[i]? = h[i]? := λi hi=>by rw [eh3,MS (Ne.symm hi)]
 have l3:h3.length=h.length:=by rw [eh3,NI]
 have S3:=S.kL (h' := h3) hL LK LA λi _ n=>k3 i n
 have L3:h3[L]? = some (.lst [.int N3]):=by rw [eh3];exact MY lLh
 obtain ⟨b,eb⟩:∃ b,b=decide (0<v):=⟨_,rfl⟩
 obtain ⟨h6,ps6,t13,row,S6,k6,l6,fn⟩:∃ (h6:AH) (ps6:List Pc) (t13:AV),aK (gC (ae 12)) (ao (az 13 (aC mK (aj (ae 1) (aj (ae 9) ag)))) (bH (aD 0 c5 (ae 3) (aj (ah aG (af (.str "q")) (ah au (af (.str "abc")) (aC bC (aj (ae 8) (aj (af (.int 3)) ag))))) ag)))) aO
    (eA o0 K A nb psb.length o6 o7 (some (.ref L)) (some deed) (some (.str "")) (some (.ref K')) (some (.bl b)) (some .non) o14 o15 o16 o17) h3 = .nx (eA o0 K A nb psb.length o6 o7 (some (.ref L)) (some deed) (some (.str "")) (some (.ref K')) (some (.bl b)) (some t13) o14 o15 o16 o17) h6 /\
   St84 h6 kx ps6 ds psb nb A K yb/\(∀ i,12<i->i≠L->h6[i]? = h3[i]?)/\h6.length=h3.length /\
   (∀ h8,St84 h8 kx ps6 ds psb nb A K yb->∃ (G:AH->Out AV) (n:Nat) (ps9:List Pc) (h9:AH) (c9:Nat),G h8 = .ok (.int n) h9/\Dd 1 h8 h9 ps6 ps9 c9/\TxZ ps9 n y/\fU kx deed x G n/\ps9.length<=ps.length+240001/\(b=true->t13 = .int n)):=by
  by_cases hb:0<v
  ·obtain ⟨G,n,ps4,h4,d,T,_,m⟩:=pD S3.ho g hc (by lia)
   have td:=m.told S3.ho d.ev;have S4:=S3.dd d.dd;have L4:=(d.dd.fr L (by lia)).trans L3;obtain ⟨u,N5,hu,t5⟩:=mV 3 L4 (by decide) (by decide);have t5:bC [.ref L,.int 3] h4 = .ok (.int u) (h4.set L (.lst [.int N5])):=t5;obtain ⟨h5,eh5⟩:∃ h5,h5=h4.set L (.lst [.int N5]):=⟨_,rfl⟩
   rw [<- eh5] at t5;have k5:∀ i,i≠L->h5[i]? = h4[i]? := λi hi=>by rw [eh5,MS (Ne.symm hi)]
   have S5:=S4.kL (h' := h5) hL LK LA λi _ n=>k5 i n
   obtain ⟨z,sz,ez⟩:=wD u hu;have dl:=d.dd.len;obtain ⟨m',ps6,h6,d6,_⟩:=mQ S5.ho.sh S5.ho.gd sz (by lia);have ez5:=ez h5;refine ⟨h6,ps6,.int n,?_,S5.dd d6.dd,λi hi nL=>(d6.dd.fr i (by lia)).trans ((k5 i nL).trans (d.dd.fr i (by lia))),by rw [d6.dd.hl,eh5,NI,d.dd.hl],λh8 S8=>⟨G,n,ps6,h8,0,d.re h8 ps6 S8.ho.sh S8.ho.gd d6.dd.pre,Dd.refl S8.ho.sh S8.ho.gd,T.pre d6.dd.pre,m,?_,λ_=>rfl⟩⟩
   ·have ob3:=S3.ho.ob
    have op5:=S5.ho.sh.ob;have op4:=S4.ho.sh.ob;have d6e:=d6.ev;rw [eb,ND hb];have ab:(ah aG (af (.str "q")) (ah au (af (.str "abc")) (aC bC (aj (ae 8) (aj (af (.int 3)) ag))))) (eA o0 K A nb psb.length o6 o7 (some (.ref L)) (some deed) (some (.str "")) (some (.ref K')) (some (.bl true)) (some (.int n)) o14 o15 o16 o17) h4 = .ok (.str z) h5:=by
     cases e:au (.str "abc") (.int u) h5 with
     | ok w hw =>
      rw [e] at ez5;generalize bC=G2 at *;have ez5:aG (.str "q") w hw = .ok (.str z) h5:=ez5
      simp [t5,e,ez5,-au,-aG]
     | ex _ _=>rw [e] at ez5;cases ez5
     | bad=>rw [e] at ez5;cases ez5
    generalize ah aG (af (.str "q")) (ah au (af (.str "abc")) (aC bC (aj (ae 8) (aj (af (.int 3)) ag))))=Q at *;generalize mK=G3 at *;generalize c5=G4 at *;simp [td,ab,op4,op5,d6e]
   ·have:=d6.dd.len;lia
  ·refine ⟨h3,ps,.non,?_,S3,λ_ _ _=>rfl,rfl,λh8 S8=>?_⟩
   ·rw [eb,Nl hb]
    simp
   ·obtain ⟨G,n,ps9,h9,d,T,_,m⟩:=pD S8.ho g hc (by lia)
    refine ⟨G,n,ps9,h9,_,d.ev,d.dd,T,m,by have:=d.dd.len;lia,λz=>?_⟩
    rw [eb,Nl hb] at z;cases z
 have oh:=BC S6.ho x;obtain ⟨h7,eh7⟩:∃ h7,h7=h6++[AO.lst ((cK kx).map AV.str)]:=⟨_,rfl⟩
 rw [<- eh7] at oh;obtain ⟨hR,ehR⟩:∃ hR,hR=h7++[AO.dct false []]:=⟨_,rfl⟩
 obtain ⟨R,eR⟩:∃ R,R=h7.length:=⟨_,rfl⟩
 have n7:h7.length=h.length+1:=by rw [eh7,M6,l6,l3];rfl
 have nR:hR.length=h.length+2:=by rw [ehR,M6,n7];rfl
 have kR:∀ i,i<h.length->hR[i]? = h6[i]? := λi hi=>by rw [ehR,MT (by lia),eh7,MT (by lia)]
 have SR:St84 hR kx ps6 ds psb nb A K yb:=by rw [ehR,eh7];exact (S6.app _).app _
 have lKh:=bY S.ka;have lAh:=bY S.aa;obtain ⟨h8,c16,kt,lp,eR8,kts,k8,l8⟩:=KH SR (R:=R) (by rw [ehR,eR];simp) (by lia) (by lia) (by lia) o0 o6 o7 (some (.ref L)) (some deed) (some (.str "")) (some (.ref K')) (some (.bl b)) (some t13) (some (cQ kx x)) o16 o17
 have S8:St84 h8 kx ps6 ds psb nb A K yb:=SR.kL (L:=R) (by lia) (by lia) (by lia) k8;obtain ⟨G,n,ps9,h9,c9,ge,D9,T9,m,lp9,tn⟩:=fn h8 S8;obtain ⟨h10,fd,H10,F10⟩:=pA (S8.ho.dd D9) (x:=x) (o:=some (n,y)) nx (λv ev=>by cases ev;exact T9) (MV (wg ..) (by lia)) (by lia) nofun
 have fd:eK [.ref 0,.str x,.int n] h9 = .ok .non h10:=fd;have wd:=Kr (m.done S8.ho (λi hi=>D9.fr i (by lia)) ge fd);have k10:∀ i,12<i->i<h.length->i≠L->h10[i]? = h[i]? := λi a b' c' =>
  (F10.fr i (by lia) (by lia) (by lia) (by lia)).trans ((D9.fr i (by lia)).trans ((k8 i (by lia) (by lia)).trans ((kR i b').trans ((k6 i a c').trans (k3 i c')))))
 have R10:h10[R]? = some (.dct false (kt.map (kG gN))):=(F10.fr R (by lia) (by lia) (by lia) (by lia)).trans ((D9.fr R (by lia)).trans eR8);have l10:h.length<=h10.length:=by rw [F10.hl,D9.hl];lia
 have S10:St84 h10 (put kx x (n,y)) ps9 (ds++[(x,(lk kx x).map (·.1),some n)]) psb nb A K' yb :=
  ⟨H10,S.be.kp λi a b' => k10 i (by lia) (by lia) (by lia),(k10 K' (by lia) lK'h (Ne.symm LK')).trans (kd (some (n,y)) rfl),(k10 A (by have:=S.lo;lia) lAh (Ne.symm LA)).trans S.aa,⟨hK',S.lo.2⟩,λe he=>(Bk he).elim (λz=>by rw [z];exact ly) (S.nl e)⟩
 have oh2:=BC S10.ho x;have oe:cQ (put kx x (n,y)) x=cQ kx x:=by unfold cQ;rw [Kq]
 rw [oe] at oh2;obtain ⟨h11,eh11⟩:∃ h11,h11=h10++[AO.lst ((cK (put kx x (n,y))).map AV.str)]:=⟨_,rfl⟩
 rw [<- eh11] at oh2;have S11:St84 h11 (put kx x (n,y)) ps9 (ds++[(x,(lk kx x).map (·.1),some n)]) psb nb A K' yb:=by rw [eh11];exact S10.app _
 have ft:=fi S11.ho (x:=x) (v:=(n,y)) (by rw [we,MW rfl]);have ft:bI [.ref 0,.str x] h11 = .ok (.int n) h11:=ft;have R11:h11[R]? = some (.dct false (kt.map (kG gN))):=by rw [eh11,MT (bY R10)];exact R10
 have oo:=Ko (gz kx x) h11;have oo:bL (cQ kx x) (cQ kx x) h11 = .ok (.bl false) h11:=oo;refine ⟨h11,some (.bl b),some t13,some (cQ kx x),some (.ref R),c16,put kx x (n,y),ps9,_,?_,S11,lp9,by simp,wc _ _ _,by rw [eh11,M6];lia⟩
 refine bj (P:=λz=>z=_) (v:=.bl b) (h2:=h3) ?_ ?_
 ·have gt:dZ (.int v) (.int 0) h3 = .ok (.bl b) h3:=by
   have:decide ((v:Int) > 0)=decide (0<v):=by apply decide_eq_decide.mpr;lia
   rw [eb];simp only [dZ,this]
  generalize bC=G2 at *;generalize (v:Int)=VV at *;simp [t3,gt,-dZ]
 refine bj (P:=λz=>z=_) (v:=.non) (h2:=h3) (by simp) ?_
 refine cC (P:=λz=>z=_) row ?_
 refine bj (P:=λz=>z=_) (v:=cQ kx x) (h2:=h7) ?_ ?_
 ·generalize jK=G2 at *
  generalize cQ kx x=OV at *;simp [i1,oh,-au]
 refine bj (P:=λz=>z=_) (v:=.ref R) (h2:=hR) ?_ ?_
 ·rw [ehR,eR];simp
 refine cC (P:=λz=>z=_) lp ?_
 refine cD (P:=λz=>z=_) (h1:=h11) ?_ ?_
 ·generalize jK=G2 at *
  generalize mL=G3 at *;generalize cQ kx x=OV at *;have ne0:bL (.str "") (.str "") h10 = .ok (.bl false) h10:=by simp
  simp [wd,i1,oh2,oo,ne0,-au,-bL]
 have ob:=S11.ho.ob;refine cD (P:=λz=>z=_) (h1:=h11) ?_ ?_
 ·have nn:bL (.int n) (.int n) h11 = .ok (.bl false) h11:=by simp
  generalize bI=G2 at *;generalize cQ kx x=OV at *
  cases hb:b with
  | true =>
   rw [tn hb];generalize (n:Int)=NN at *;simp [i1,ob,ft,nn,-au,-bL]
  | false=>simp
 refine cD (P:=λz=>z=_) (h1:=h11) ?_ ?_
 ·by_cases q:kk = "copy_of"
  ·obtain ⟨o,ed⟩:=cpy q
   obtain ⟨o',v',eo,lo,nv⟩:=m.copy (.str o) (by rw [ed];rfl) (by rw [ed];rfl)
   cases eo
   have i2:∀ hx,au deed (.int 2) hx = .ok (.str o) hx:=λhx=>by rw [ed];rfl
   have kv:=kts o v' lo;have ixk:au (.ref R) (.str o) h11 = .ok (.int n) h11:=by
    have k1:d0 false (.str o)=true:=rfl;obtain ⟨w,ew,e2⟩:=Nc.mp kv;have vk:bD (kt.map (kG gN)) (.str o)=some (.int n):=by rw [jQ,ew,<- nv,<- e2];rfl
    simp only [au,R11,k1,vk];rfl
   have nn:bL (.int n) (.int n) h11 = .ok (.bl false) h11:=by simp
   rw [q] at i0;generalize bI=G2 at *;generalize cQ kx x=OV at *;generalize (n:Int)=NN at *;simp [i0,i1,i2,ob,ft,ixk,nn,-au,-bL]
  ·generalize bI=G2 at *
   generalize cQ kx x=OV at *;simp [i0,q,-au]
 simp
theorem KJ (S:St84 h kx ps ds psb nb A K yb) (hp:ps.length<12000000) (ct:kx.length<50) (ld:ds.length<=900) (c kk:Int) (o0 o8 o9 o10 o11 o12 o13 o14 o15 o16 o17:Option AV) :
  ∃ h' K' c8 c9 c10 c11 c12 c13 c14 c15 c16 c17 kx' ps' ds',mM (eA o0 K A nb psb.length (some (.int kk)) (some (.int c)) o8 o9 o10 o11 o12 o13 o14 o15 o16 o17) h = .nx (eA o0 K' A nb psb.length (some (.int kk)) (some (.int c)) c8 c9 c10 c11 c12 c13 c14 c15 c16 c17) h' /\
   St84 h' kx' ps' ds' psb nb A K' yb/\ps'.length<=ps.length+240001/\ds'.length<=ds.length+1/\kx'.length<=kx.length+1:=by
 have lb:=bY S.be.ba;have lKh:=bY S.ka;have lAh:=bY S.aa;obtain ⟨N,st⟩:=JX [c,kk] (by simp) 0 (by decide) h;have st:ke [.fl [.int c,.int kk],.int 0] h = .ok (.ref h.length) (h++[.lst [.int N]]):=st;obtain ⟨L,eL⟩:∃ L,L=h.length:=⟨_,rfl⟩
 obtain ⟨h1,eh1⟩:∃ h1,h1=h++[AO.lst [.int N]]:=⟨_,rfl⟩
 rw [<- eL,<- eh1] at st;have k1:∀ i,i<L->h1[i]? = h[i]? := λi hi=>by rw [eh1,MT (by lia)]
 have L1:h1[L]? = some (.lst [.int N]):=by rw [eh1,eL];simp
 have n1:h1.length=L+1:=by rw [eh1,M6,eL];rfl
 obtain ⟨deed,due,K',h2,fd,F2,gd⟩:=KA ((k1 K (by lia)).trans S.ka) ⟨N,L1⟩ (by lia) (by lia) (λe he=>⟨(S.ho.tz e he).2,S.nl e he⟩);have S2:St84 h2 kx ps ds psb nb A K yb:=S.kp λi hi=>(F2.fr i (by lia) (by lia)).trans (k1 i (by lia))
 have r1:∀ {b:SS} {o:OutS},b (eA o0 K A nb psb.length (some (.int kk)) (some (.int c)) (some (.ref L)) (some deed) (some (.str due)) (some (.ref K')) o12 o13 o14 o15 o16 o17) h2=o->(ao (az 8 (aC ke (aj (aX (aj (ae 7) (aj (ae 6) ag))) (aj (af (.int 0)) ag)))) (ao (qp (.tup [9,10,11]) (aC ow (aj (ae 8) (aj (ae 4) ag)))) b)) (eA o0 K A nb psb.length (some (.int kk)) (some (.int c)) o8 o9 o10 o11 o12 o13 o14 o15 o16 o17) h=o:=λ{b o} e=>by
  refine bj (P:=λz=>z=_) (v:=.ref L) (h2:=h1) ?_ (cC (P:=λz=>z=_) (e2:=eA o0 K A nb psb.length (some (.int kk)) (some (.int c)) (some (.ref L)) (some deed) (some (.str due)) (some (.ref K')) o12 o13 o14 o15 o16 o17) (h2:=h2) ?_ e)
  ·generalize ke=G at *
   simp [st]
  ·generalize ow=G at *
   simp [fd]
 have skip:(d8 (aJ (ah aH (ae 10) (af (.str "")))) (aJ (ah bL (ah au (ae 9) (af (.int 0))) (af (.str "drop"))))) (eA o0 K A nb psb.length (some (.int kk)) (some (.int c)) (some (.ref L)) (some deed) (some (.str due)) (some (.ref K')) o12 o13 o14 o15 o16 o17) h2 = .ok false h2 ->
   ∃ h' K' c8 c9 c10 c11 c12 c13 c14 c15 c16 c17 kx' ps' ds',mM (eA o0 K A nb psb.length (some (.int kk)) (some (.int c)) o8 o9 o10 o11 o12 o13 o14 o15 o16 o17) h = .nx (eA o0 K' A nb psb.length (some (.int kk)) (some (.int c)) c8 c9 c10 c11 c12 c13 c14 c15 c16 c17) h' /\
    St84 h' kx' ps' ds' psb nb A K' yb/\ps'.length<=ps.length+240001/\ds'.length<=ds.length+1/\kx'.length<=kx.length+1:=λcf=>by
  obtain ⟨h',c17,tl,S',_⟩:=BI S2 o0 (some (.int kk)) (some (.int c)) (some (.ref L)) (some deed) (some (.str due)) (some (.ref K')) o12 o13 o14 o15 o16 o17;exact ⟨h',K,_,_,_,_,_,_,_,_,_,c17,kx,ps,ds,r1 (cD (P:=λz=>z=_) cf tl),S',by lia,by lia,by lia⟩
 by_cases hd:due = ""
 ·obtain ⟨x,oy,cc,g,hc,lK',kd,ny⟩:=gd hd
  subst hd
  cases oy with
  | none =>
   have ed:=KG g;refine skip ?_
   have i0:∀ hx,au deed (.int 0) hx = .ok (.str "drop") hx:=λhx=>by rw [ed];rfl
   simp [i0,-au]
  | some y =>
   obtain ⟨k,r,eD,nd,_⟩:=pL g;have a0:atI (AV.str k :: .str x::r) 0=some (.str k):=jh (j:=0) rfl;have i0:∀ hx,au deed (.int 0) hx = .ok (.str k) hx:=λhx=>by rw [eD];simp only [au,a0]
   have cf:(d8 (aJ (ah aH (ae 10) (af (.str "")))) (aJ (ah bL (ah au (ae 9) (af (.int 0))) (af (.str "drop"))))) (eA o0 K A nb psb.length (some (.int kk)) (some (.int c)) (some (.ref L)) (some deed) (some (.str "")) (some (.ref K')) o12 o13 o14 o15 o16 o17) h2 = .ok true h2:=by
    simp [i0,nd,-au]
   obtain ⟨h3,c12,c13,c14,c15,c16,kx',ps',ds',md,S3,lp,lds,lkx,_⟩:=KI S2 g hc F2.ro (by lia) (by lia) (by lia) kd (by lia) (by lia) (ny y rfl) hp ct ld o0 (some (.int kk)) (some (.int c)) o12 o13 o14 o15 o16 o17;obtain ⟨h',c17,tl,S',_⟩:=BI S3 o0 (some (.int kk)) (some (.int c)) (some (.ref L)) (some deed) (some (.str "")) (some (.ref K')) c12 c13 c14 c15 c16 o17;refine ⟨h',K',some (.ref L),some deed,some (.str ""),some (.ref K'),c12,c13,c14,c15,c16,c17,kx',ps',ds',r1 ?_,S',by lia,by lia,by lia⟩
   refine cC (P:=λz=>z=_) (e2:=eA o0 K' A nb psb.length (some (.int kk)) (some (.int c)) (some (.ref L)) (some deed) (some (.str "")) (some (.ref K')) c12 c13 c14 c15 c16 o17) (h2:=h3) ?_ tl
   show aK _ _ _ _ _=_
   unfold aK;rw [cf];exact md
 ·exact skip (by simp [hd])
theorem KM (e:h[a]? = some (.lst (W.map AV.str))):aH (.ref a) (.fl (W.map AV.str)) h = .ok (.bl true) h:=by
 have d1:=r9 6 e;have d2:bx 8 h (.fl (W.map AV.str))=some (.list (W.map PyData.str)):=by
  show (bG (bx 7 h) (W.map AV.str)).map PyData.list=_
  rw [pF 6];rfl
 have qq:fB (.ref a) (.fl (W.map AV.str)) h=some true:=by
  show (match bx 8 h (.ref a),bx 8 h (.fl (W.map AV.str)) with | some d,some e=>some (PyData.eqv d e) | _,_=>none)=_
  rw [d1,d2];show some (PyData.eqv (.list _) (.list _))=_
  simp [PyData.eqv,wB]
 show (match fB (.ref a) (.fl (W.map AV.str)) h with | some b=>Out.ok (AV.bl b) h | none=>Out.bad)=_
 rw [qq]
theorem KN {q t:Nat} {bs:List De} (H:Ho h q p t ps kx ds bs) (hx:cn x=true) (py:bS y=true) (ly:y.length<=100) (hz:ps.length<13000000) (ct:kx.length<50) (ld:ds.length<=1000) :
  ∃ n ps' h',jJ [.ref q,.str x,.str y] h = .ok .non h'/\Ho h' q p t ps' (put kx x (n,y)) (ds++[(x,(lk kx x).map (·.1),some n)]) []/\Fh p t h h' := by
 obtain ⟨n,ps',h1,d,T⟩:=A6 H.sh H.gd py (by lia) (by lia);have fb:=d.ev;obtain ⟨h',fd,H',Fr'⟩:=pA (H.dd d.dd) (x:=x) (o:=some (n,y)) hx (λv ev=>by cases ev;exact T) (MV (wg ..) (by lia)) ld nofun
 have fd:eK [.ref q,.str x,.int n] h1 = .ok .non h' := fd;have ck:=wo hx h;refine ⟨n,ps',h',?_,H',(Fh.dd d.dd).trans Fr'⟩
 unfold jJ;generalize iI=G at *;generalize eK=G2 at *;simp [ck,H.ob,fb,fd]
theorem wF {k:Nat} (h1:a<=k*j) (h2:b<=a+k):b<=k*(j+1):=by
 rw [Nat.mul_succ];lia
theorem KO (h:a<=240001*j) (hj:j<=33):a<=7920033:=MV h (Nat.mul_le_mul_left 240001 hj)
theorem KP (l:List AV) (k:Nat) (h:AH):dh (.fl l) none (some (k:Int)) h = .ok (.fl (l.take k)) h:=by
 simp only [dh]
 congr 2
 unfold dG;rw [HT.sIx_nat,HT.sIx_none];show (l.drop 0).take (min k l.length-0)=_
 rw [QD,Nat.sub_zero];by_cases q:k<=l.length
 ·rw [OM q]
 ·rw [Nat.min_eq_right (by lia),NG (MQ _),NG (by lia)]
theorem law_true (ns:List Int) (hl:ns.length<=63):∃ h',uV [.fl (ns.map AV.int)] [] = .ok (.bl true) h' := by
 obtain ⟨sc,esc⟩:∃ sc:Option AV,sc=some (.fl (ns.map AV.int)):=⟨_,rfl⟩
 obtain ⟨h0,eh0⟩:∃ h0:AH,h0 = .ins 1 [some (.ref 1),some (.ref 10),some (.ref 11),some (.ref 12)]::(mP 1++[.dct false [],.lst [],.lst []]):=⟨_,rfl⟩
 have mk:jw 1 4 jI ag [sc,none,none,none,none,none,none,none,none,none,none,none,none,none,none,none,none,none] [] = .ok (.ref 0) h0:=by rw [eh0];exact Bi _ []
 have H0:Ho h0 0 1 10 [] [] [] []:=by
  rw [eh0];exact ⟨rfl,AF [.ins 1 [some (.ref 1),some (.ref 10),some (.ref 11),some (.ref 12)]] [AO.dct false [],.lst [],.lst []],.nil,rfl,rfl,rfl,nofun,⟨by decide,by decide⟩,by decide,OW⟩
 have l0:h0.length=13:=by rw [eh0];rfl
 obtain ⟨h1,eh1⟩:∃ h1:AH,h1=h0++(.ins 1 [some (.ref 14),some (.ref 23),some (.ref 24),some (.ref 25)]::(mP 14++[.dct false [],.lst [],.lst []])):=⟨_,rfl⟩
 have mk2:jw 1 4 jI ag [sc,some (.ref 0),none,none,none,none,none,none,none,none,none,none,none,none,none,none,none,none] h0 = .ok (.ref 13) h1:=by
  have:=Bi [sc,some (.ref 0),none,none,none,none,none,none,none,none,none,none,none,none,none,none,none,none] h0;rw [l0] at this;rw [eh1];exact this
 have H1:Ho h1 0 1 10 [] [] [] []:=by rw [eh1];exact H0.app _
 have B1:Ho h1 13 14 23 [] [] [] []:=by
  have nw:=AF (h0++[.ins 1 [some (.ref 14),some (.ref 23),some (.ref 24),some (.ref 25)]]) [AO.dct false [],.lst [],.lst []];have e:(h0++[AO.ins 1 [some (.ref 14),some (.ref 23),some (.ref 24),some (.ref 25)]]).length=14:=by rw [M6,l0];rfl
  rw [e,PJ] at nw;have at_:∀ i,h1[13+i]? = (AO.ins 1 [some (.ref 14),some (.ref 23),some (.ref 24),some (.ref 25)]::(mP 14++[.dct false [],.lst [],.lst []]))[i]? := λi=>by
   rw [eh1,Nk (by lia),l0];congr 1;lia
  exact ⟨at_ 0,by rw [eh1];exact nw,.nil,at_ 10,at_ 11,at_ 12,nofun,⟨by decide,by decide⟩,by decide,OW⟩
 have l1:h1.length=26:=by rw [eh1,M6,l0];rfl
 have sh1:=pE H1;obtain ⟨h2,eh2⟩:∃ h2,h2=h1++[AO.dct false []]:=⟨_,rfl⟩
 have H2:Ho h2 0 1 10 [] [] [] []:=by rw [eh2];exact H1.app _
 have B2:Ho h2 13 14 23 [] [] [] []:=by rw [eh2];exact B1.app _
 have e2:h2[26]? = some (.dct false []):=by rw [eh2,<- l1];simp
 have l2:h2.length=27:=by rw [eh2,M6,l1];rfl
 obtain ⟨nb,psb,h3,gv,B3,F3⟩:=KN B2 (x := "other") (y := "a second house") (by decide +kernel) (by decide +kernel) (by decide +kernel) (by decide) (by decide) (by decide);have l3:h3.length=27:=F3.hl.trans l2;have k3:∀ i,i<13\/i=26->h3[i]? = h2[i]? := λi hi=>F3.fr i (by lia) (by lia) (by lia) (by lia)
 have H3:Ho h3 0 1 10 [] [] [] []:=H2.kp λi _ hi=>k3 i (by lia)
 have B3:Ho h3 13 14 23 psb [("other",nb, "a second house")] [("other",none,some nb)] []:=B3;have n4:=jR B3;have wb:(cK [("other",nb,("a second house" : Str))]).map AV.str=[.str "other"]:=rfl;obtain ⟨h4,eh4⟩:∃ h4,h4=h3++[AO.lst [.str "other"]]:=⟨_,rfl⟩
 rw [wb,<- eh4,l3] at n4;have H4:Ho h4 0 1 10 [] [] [] []:=by rw [eh4];exact H3.app _
 have B4:Ho h4 13 14 23 psb [("other",nb, "a second house")] [("other",none,some nb)] []:=by rw [eh4];exact B3.app _
 have e4:h4[27]? = some (.lst [.str "other"]):=by rw [eh4,<- l3];simp
 have l4:h4.length=28:=by rw [eh4,M6,l3];rfl
 have K4:h4[26]? = some (.dct false []):=by rw [eh4,MT (by lia)];exact (k3 26 (by lia)).trans e2
 have ft4:bI [.ref 13,.str "other"] h4 = .ok (.int nb) h4:=fi B4 (x := "other") (v:=(nb, "a second house")) (by rw [hW,MW rfl]);have sb4:=pE B4;have mb4:=mO B4.sh;have n5:=jR H4;obtain ⟨h5,eh5⟩:∃ h5,h5=h4++[AO.lst []]:=⟨_,rfl⟩
 have n5:cF [.ref 0] h4 = .ok (.ref 28) h5:=by rw [eh5,<- l4];exact n5
 have e5:h5[28]? = some (.lst (([]:List Str).map AV.str)):=by rw [eh5,<- l4];simp
 have ne5:bL (.ref 28) (.fl []) h5 = .ok (.bl false) h5:=wC e5;have S5:St84 h5 [] [] [] psb nb 27 26 "a second house" := by
  have a:∀ i,i<h4.length->h5[i]? = h4[i]? := λi hi=>by rw [eh5,MT hi]
  exact ⟨by rw [eh5];exact H4.app _,by rw [eh5];exact B4.app _,(a 26 (by lia)).trans K4,(a 27 (by lia)).trans e4,⟨by decide,by decide⟩,nofun⟩
 obtain ⟨cells,ecl⟩:∃ cells:List Int,cells=ns.take 30++[0,1,2]:=⟨_,rfl⟩
 have lc:cells.length<=33:=by rw [ecl,M6,NP];show min 30 ns.length+3<=33;lia
 obtain ⟨e',h6,r6,q6⟩:=oH (w:=none) (all:=Sm.numbered 0 (cells.map AV.int)) (t:=.tup [6,7]) (b:=mM) (xs:=Sm.numbered 0 (cells.map AV.int)) (en:=eA sc 26 27 nb psb.length none none none none none none none none none none none none) (h:=h5)
  (λj en hh=>j<=33->∃ (K:Nat) (kx:List (Str×Nat×Str)) (ps:List Pc) (ds:List De) (o6 o7 o8 o9 o10 o11 o12 o13 o14 o15 o16 o17:Option AV),en=eA sc K 27 nb psb.length o6 o7 o8 o9 o10 o11 o12 o13 o14 o15 o16 o17/\St84 hh kx ps ds psb nb 27 K "a second house" /\ ps.length<=240001*j/\ds.length<=j/\kx.length<=j)
  (λ_=>⟨26,[],[],[],_,_,_,_,_,_,_,_,_,_,_,_,rfl,S5,Nj _,Nj _,Nj _⟩) (λ_ _ _ _=>rfl) (by
   intro j u en hh hu hp;rw [Sm.numbered_get,Nu] at hu;obtain ⟨w,ev',rfl⟩:=Nc.mp hu
   obtain ⟨c,ec,rfl⟩:=Nc.mp ev';have hj:j<cells.length:=(MP.mp ec).1;obtain ⟨K,kx,ps,ds,o6,o7,o8,o9,o10,o11,o12,o13,o14,o15,o16,o17,rfl,S,lp,lds,lkx⟩:=hp (by lia);have lp7:=KO lp (by lia);obtain ⟨h',K',c8,c9,c10,c11,c12,c13,c14,c15,c16,c17,kx',ps',ds',e,S',lp',lds',lkx'⟩:=KJ S (by lia) (by lia) (by lia) c ((0+j:Nat):Int) sc o8 o9 o10 o11 o12 o13 o14 o15 o16 o17;obtain ⟨BB,hB⟩:∃ BB,BB=mM:=⟨_,rfl⟩
   rw [<- hB] at e ⊢;show thn (BB (eA sc K 27 nb psb.length (some (.int ((0+j:Nat):Int))) (some (.int c)) o8 o9 o10 o11 o12 o13 o14 o15 o16 o17) hh) _
   rw [e];exact λ_=>⟨K',kx',ps',ds',_,_,c8,c9,c10,c11,c12,c13,c14,c15,c16,c17,rfl,S',wF lp lp',by lia,by lia⟩)
 have nl:∀ (xs:List AV) (k:Nat),(Sm.numbered k xs).length=xs.length:=λxs=>by
  induction xs with
  | nil=>intro k;rfl
  | cons x xs ih=>intro k;simp [Sm.numbered,ih (k+1)]
 rw [nl,M0] at q6;obtain ⟨K,kx,ps,ds,o6,o7,o8,o9,o10,o11,o12,o13,o14,o15,o16,o17,rfl,S,_,_,_⟩:=q6 lc
 have be:=S.be;obtain ⟨h7,bk,B7,_⟩:=Kf (ds:=[]) (x := "other") (o:=none) be (by decide +kernel) nofun (MV (wg _ _ _) (show 2<=50 by decide)) (by decide) (λ_=>by rw [hW,MW rfl];rfl)
 have B7:Ho h7 13 14 23 psb [] [] [("other",none,some nb)]:=B7;have n8:=jR B7;obtain ⟨h8,eh8⟩:∃ h8,h8=h7++[AO.lst []]:=⟨_,rfl⟩
 obtain ⟨T,eT⟩:∃ T,T=h7.length:=⟨_,rfl⟩
 have n8:cF [.ref 13] h7 = .ok (.ref T) h8:=by rw [eh8,eT];exact n8
 have e8:h8[T]? = some (.lst (([]:List Str).map AV.str)):=by rw [eh8,eT];simp
 have eq8:aH (.ref T) (.fl []) h8 = .ok (.bl true) h8:=KM e8;unfold uV;refine fT (P:=λo=>∃ h',o = .ok (.bl true) h') rfl ?_
 obtain ⟨PP,ePP⟩:∃ PP:OutS->Prop,PP=λo=>∃ h',aS o = .ok (.bl true) h' := ⟨_,rfl⟩
 have toP:∀ o,PP o->∃ h',aS o = .ok (.bl true) h' := λo z=>by rw [ePP] at z;exact z
 have ofP:∀ h',PP (.rt (.bl true) h'):=λh' => by rw [ePP];exact ⟨h',rfl⟩
 clear ePP;refine toP _ ?_
 refine bj (v:=.ref 0) (h2:=h0) ?_ ?_
 ·have mk' := mk
  rw [esc] at mk';generalize jw 1 4 jI ag=MK at *;exact mk'
 refine bj (v:=.ref 13) (h2:=h1) ?_ ?_
 ·have mk' := mk2
  rw [esc] at mk';generalize jw 1 4 jI ag=MK at *;exact mk'
 refine bj (v:=.ref 1) (h2:=h1) ?_ ?_
 ·have ob:=H1.ob
  generalize d5=G at *;simp [ob,sh1]
 refine bj (v:=.ref 26) (h2:=h2) ?_ ?_
 ·rw [eh2,<- l1];simp
 refine cD (h1:=h2) ?_ ?_
 ·have s1:=pE B2
  have m1:=mO B2.sh;have m2:=mO H2.sh;have a1:=B2.ob;have a2:=B2.sh.ob;have a3:=H2.sh.ob;generalize d5=G at *;generalize eP=G2 at *;simp [a1,s1,a2,m1,a3,m2]
 refine cC (e2:=[some (.fl (ns.map AV.int)),some (.ref 0),some (.ref 13),some (.ref 1),some (.ref 26),none,none,none,none,none,none,none,none,none,none,none,none,none]) (h2:=h3) ?_ ?_
 ·have a1:=B2.ob
  generalize jJ=G at *;simp [a1,gv]
 refine bj (v:=.fl [.ref 27,.int nb,.int psb.length]) (h2:=h4) ?_ ?_
 ·have a1:=B3.ob
  have a2:=B4.ob;have a3:=B4.sh.ob;generalize cF=G0 at *;generalize bI=G1 at *;generalize d5=G at *;generalize eP=G2 at *;simp [a1,n4,a2,ft4,sb4,a3,mb4]
 refine cD (h1:=h5) ?_ ?_
 ·have m2:=mO H4.sh
  have a3:=H4.sh.ob;have a4:=H4.ob;generalize cF=G0 at *;generalize eP=G2 at *;have m2:G2 [.ref 1] h4 = .ok (.int 0) h4:=m2
  have z0:bL (.int 0) (.int 0) h4 = .ok (.bl false) h4:=by simp
  simp [a3,m2,z0,a4,n5,ne5,-bL]
 refine cC ((oI (t:=.tup [6,7]) (b:=mM) (h1:=h5) (w:=none) (xs:=Sm.numbered 0 (cells.map AV.int)) ?_).trans (esc▸r6)) ?_
 ·have sl:min 30 ns.length+3<=sizeLine:=MV (m:=33) (by lia) (by decide)
  have ct:dh (.fl (ns.map AV.int)) none (some 30) h5 = .ok (.fl ((ns.map AV.int).take 30)) h5:=KP _ 30 h5;have ad:aG (.fl ((ns.map AV.int).take 30)) (.fl [.int 0,.int 1,.int 2]) h5 = .ok (.fl (cells.map AV.int)) h5:=by
   have q:((ns.map AV.int).take 30).length+[AV.int 0,.int 1,.int 2].length<=sizeLine:=by rw [NP,M0];exact sl
   show (if ((ns.map AV.int).take 30).length+[AV.int 0,.int 1,.int 2].length<=sizeLine then Out.ok (AV.fl ((ns.map AV.int).take 30++[AV.int 0,.int 1,.int 2])) h5 else .bad)=_
   rw [MW q,ecl,NZ,List.map_take];rfl
  clear esc ecl r6;generalize ns.map AV.int=NS at *;generalize cells.map AV.int=CS at *;generalize NS.take 30=NT at *;simp [ct,ad,-dh,-aG]
 refine hX (v:=.bl true) (h' := h8) ?_ (ofP h8)
 have b7:=be.ob;have b8:=B7.ob;have bk:lq [.ref 13] h6 = .ok .non h7:=bk;generalize cF=G at *;generalize lq=G2 at *;simp [b7,bk,b8,n8,eq8,-aH]
theorem wG:bootBuiltins "sorted" = some (.builtin "sorted"):=by decide +kernel
def bq (i:Nat):Stmt:=PySem.Challenge.pw_skeinwood_k84_house_by_functions.main.body.getD i (.Pass ⟨0,0,0,0⟩)
abbrev wH:Stmt:=cM (bq 22) 0
abbrev wI:Stmt:=cM (bq 46) 0
abbrev wJ:Stmt:=cM (bq 46) 1
abbrev sf:Stmt:=bq 18
abbrev wK:Stmt:=bq 47
abbrev wL:Stmt:=cM (bq 46) 14
abbrev wM:Stmt:=cM (bq 46) 13
abbrev wN:Stmt:=bq 14
abbrev wO:Stmt:=cM (bq 22) 11
abbrev wQ:Stmt:=cM (bq 22) 12
abbrev wR:Stmt:=cM (bq 22) 14
abbrev wU:Stmt:=cM (bq 22) 17
abbrev wV:Stmt:=cM (bq 22) 16
abbrev wW:Stmt:=cM (bq 22) 2
abbrev wX:Stmt:=bq 35
abbrev wY:Stmt:=bq 16
abbrev si:Stmt:=bq 15
abbrev wZ:Stmt:=bq 17
abbrev w4:Stmt:=bq 19
abbrev w6:Stmt:=cM (bq 22) 15
abbrev w8:Stmt:=cM (bq 22) 1
abbrev sj:Stmt:=bq 25
abbrev xb:Stmt:=cM (bq 46) 4
abbrev xf:Stmt:=cM (bq 46) 2
abbrev xg:Stmt:=cM (bq 46) 3
abbrev xh:Stmt:=cM (bq 22) 3
abbrev xi:Stmt:=bq 49
abbrev sr:Stmt:=bq 50
abbrev xj:Stmt:=bq 51
abbrev xk:Stmt:=bq 55
abbrev xl:Stmt:=bq 52
abbrev xm:Stmt:=bq 56
abbrev xn:Stmt:=bq 57
abbrev xo:Stmt:=bq 58
abbrev su:Stmt:=bq 60
abbrev xp:Stmt:=cM (bq 46) 11
abbrev xq:Stmt:=cM (bq 22) 13
abbrev xr:Stmt:=cM (bq 22) 5
abbrev xt:Stmt:=bq 27
abbrev xu:Stmt:=cM (bq 22) 10
abbrev xw:Stmt:=cM (bq 22) 9
abbrev xx:Stmt:=bq 28
abbrev xy:Stmt:=cM (bq 22) 4
abbrev xA:Stmt:=bq 33
abbrev xB:Stmt:=cM (bq 22) 8
abbrev xC:Stmt:=bq 30
abbrev xD:Stmt:=bq 34
abbrev xE:Stmt:=bq 31
abbrev xF:Stmt:=bq 29
abbrev xG:Stmt:=bq 32
abbrev xH:Stmt:=bq 24
abbrev xI:Stmt:=bq 36
abbrev xJ:Stmt:=bq 26
abbrev xK:Stmt:=bq 38
abbrev xM:Stmt:=bq 43
abbrev xN:Stmt:=bq 44
abbrev xO:Stmt:=bq 41
abbrev xP:Stmt:=bq 39
abbrev xQ:Stmt:=bq 42
abbrev xR:Stmt:=bq 59
abbrev xS:Stmt:=cM (bq 46) 5
abbrev xT:Stmt:=cM (bq 46) 6
abbrev xU:Stmt:=cM (bq 46) 7
abbrev xV:Stmt:=cM (bq 46) 8
abbrev xW:Stmt:=cM (bq 46) 9
abbrev xX:Stmt:=cM (bq 46) 10
abbrev xY:Stmt:=cM (bq 46) 12
abbrev xZ:Stmt:=bq 53
abbrev x6:Stmt:=bq 54
abbrev sv:Stmt:=bq 61
def bh:Nat->List Str
 | 0=>["pieces", "numbers", "sign_counts", "end_counts", "leaf_counts", "heights", "first_leaves", "last_leaves"]
 | 1=>["own_shelf", "texts", "deeds", "taken_back"]
 | _=>[]
theorem KQ:∀ c,(bh c).Nodup
 | 0=>by decide +kernel
 | 1=>by decide +kernel
 | _+2=>OW
theorem KR:∀ c,(bh c).length<=500
 | 0=>by decide +kernel
 | 1=>by decide +kernel
 | _+2=>Nj _
abbrev bg (K:PySem.W.Frag) (cls exc:Nat->Option Addr):Tb:=⟨K,cls,exc,bh,KQ,KR⟩
structure ko (P:Program) (w:World) (K:PySem.W.Frag) (cls exc:Nat->Option Addr) (mg:Str->Option Value) (base:Heap):Prop where
 E_:mg "abs" = none
 Go:mg "all" = none
 D_:mg "bool" = none
 Db:mg "dict" = none
 up:mg "enumerate" = none
 Id:mg "int" = none
 sw:mg "isinstance" = none
 Fa:mg "len" = none
 F_:mg "max" = none
 H_:mg "min" = none
 Cl:mg "range" = none
 zc:mg "sorted" = none
 Ev:mg "str" = none
 G_:mg "sum" = none
 sK:∃ t,mg "LEAF_SIGNS" = some (.int 8 t)
 pi:∃ t,mg "NAME_SIGNS" = some (.int 8 t)
 mo:∃ t,mg "MOST_PLAIN" = some (.int 10000 t)
 p_:∃ t,mg "MOST_SIGNS" = some (.int 1000000000000000000 t)
 z_:CF (bg K cls exc) 0
 A_:CF (bg K cls exc) 1
 m_:DI K cls mg 0 "Shelf" "Shelf.__init__" wH ["self"]
 r_:DI K cls mg 1 "House" "House.__init__" wI ["self"]
 jr:cP K cls 1 "shelf" "House.shelf" wJ ["self"]
 y_:DG K mg "is_name" sf ["thing"]
 ss:DG K mg "check_name" wK ["name"]
 c_:cP K cls 1 "set_text" "House.set_text" wL ["self", "name", "text"]
 w_:cP K cls 1 "do" "House.do" wM ["self", "name", "text"]
 wv:DG K mg "is_whole" wN ["thing"]
 bn:cP K cls 0 "has_piece" "Shelf.has_piece" wO ["self", "number"]
 ac:cP K cls 0 "check_piece" "Shelf.check_piece" wQ ["self", "number"]
 am:cP K cls 0 "check_fork" "Shelf.check_fork" wR ["self", "one", "other"]
 ut:cP K cls 0 "lay" "Shelf.lay" wU ["self", "made"]
 b_:cP K cls 0 "lay_fork" "Shelf.lay_fork" wV ["self", "made"]
 s_:cP K cls 0 "fork" "Shelf.fork" wW ["self", "one", "other"]
 At:DG K mg "halved" wX ["shelf", "leaves"]
 f_:DG K mg "is_plain_sign" wY ["sign"]
 wr:DG K mg "is_plain" si ["thing"]
 wn:DG K mg "is_short" wZ ["thing"]
 xL:DG K mg "ends_in" w4 ["plain"]
 ci:cP K cls 0 "lay_leaf" "Shelf.lay_leaf" w6 ["self", "made"]
 q_:cP K cls 0 "leaf" "Shelf.leaf" w8 ["self", "plain"]
 C_:DG K mg "built" sj ["shelf", "plain"]
 sn:cP K cls 1 "give" "House.give" xb ["self", "name", "plain"]
 lf:cP K cls 1 "names" "House.names" xf ["self"]
 ol:cP K cls 1 "text" "House.text" xg ["self", "name"]
 sB:cP K cls 0 "many" "Shelf.many" xh ["self"]
 u8:DG K mg "_law_mixed" xi ["cell", "k"]
 on:DG K mg "_law_stream" sr ["script", "k"]
 wP:DG K mg "_law_take" xj ["stream", "many"]
 wS:DG K mg "_law_name" xk ["stream", "known", "odd"]
 v4:DG K mg "_law_plain" xl ["stream", "most"]
 v_:DG K mg "_law_given" xm ["stream", "known"]
 k_:DG K mg "_law_changed" xn ["stream", "known"]
 xz:DG K mg "_law_deed" xo ["stream", "known"]
 mt:DG K mg "_law_others" su ["house", "name"]
 n_:cP K cls 1 "back" "House.back" xp ["self"]
 a_:cP K cls 0 "check_text" "Shelf.check_text" xq ["self", "text"]
 l_:cP K cls 0 "signs" "Shelf.signs" xr ["self", "text"]
 ii:DG K mg "check_length" xt ["signs"]
 bi:cP K cls 0 "last_leaf" "Shelf.last_leaf" xu ["self", "text"]
 bd:cP K cls 0 "first_leaf" "Shelf.first_leaf" xw ["self", "text"]
 v0:DG K mg "are_close" xx ["shelf", "one", "other"]
 j_:cP K cls 0 "piece" "Shelf.piece" xy ["self", "number"]
 ul:DG K mg "with_last" xA ["shelf", "text", "leaf"]
 h_:cP K cls 0 "height" "Shelf.height" xB ["self", "text"]
 jp:DG K mg "turned_left" xC ["shelf", "one", "other"]
 d_:DG K mg "without_first" xD ["shelf", "text"]
 g_:DG K mg "turned_right" xE ["shelf", "one", "other"]
 BT:DG K mg "linked" xF ["shelf", "one", "other"]
 Ch:DG K mg "welded" xG ["shelf", "one", "other"]
 zn:DG K mg "joined" xH ["shelf", "one", "other"]
 x0:DG K mg "doubled" xI ["shelf", "text", "many"]
 wf:DG K mg "repeated" xJ ["shelf", "text", "many"]
 t_:DG K mg "check_gap" xK ["shelf", "text", "at"]
 wT:DG K mg "front_of" xM ["shelf", "text", "at"]
 x_:DG K mg "back_of" xN ["shelf", "text", "at"]
 AT:DG K mg "put_in" xO ["shelf", "text", "at", "other"]
 e_:DG K mg "check_stretch" xP ["shelf", "text", "begin", "end"]
 u_:DG K mg "taken_out" xQ ["shelf", "text", "begin", "end"]
 wE:DG K mg "_law_told" xR ["house", "deed"]
 dL:cP K cls 1 "copy_of" "House.copy_of" xS ["self", "name", "other"]
 ga:cP K cls 1 "join_to" "House.join_to" xT ["self", "name", "other"]
 cr:cP K cls 1 "put_into" "House.put_into" xU ["self", "name", "at", "other"]
 bv:cP K cls 1 "take_from" "House.take_from" xV ["self", "name", "begin", "end"]
 io:cP K cls 1 "repeat" "House.repeat" xW ["self", "name", "many"]
 o_:cP K cls 1 "drop" "House.drop" xX ["self", "name"]
 i_:cP K cls 1 "again" "House.again" xY ["self"]
 B_:DG K mg "_law_do" xZ ["house", "deed"]
 ww:DG K mg "_law_word" x6 ["house", "deed"]
 EQ:DG K mg "law" sv ["script"]
 cu_NoName:CU (bg K cls exc) mg "NoName" Ah
 cu_NoPlace:CU (bg K cls exc) mg "NoPlace" Ai
 cu_NoText:CU (bg K cls exc) mg "NoText" Aj
 cu_NothingDone:CU (bg K cls exc) mg "NothingDone" Ak
 cu_TooLong:CU (bg K cls exc) mg "TooLong" Al
theorem KS:aq ["self"] ["self"] (aR wH):=bp
theorem KU:aq ["self"] ["self"] (aR wI):=bp
theorem KW:aq ["self"] ["self"] (aR wJ):=bp
theorem KY:aq ["thing"] ["thing"] (aR sf):=bp
theorem KZ:aq ["name"] ["name"] (aR wK):=bp
theorem K0:aq ["self", "name", "text"] ["self", "name", "text"] (aR wL):=bp
theorem K1:aq ["self", "name", "text"] ["self", "name", "text"] (aR wM):=bp
theorem K3:aq ["thing"] ["thing"] (aR wN):=bp
theorem K5:aq ["self", "number"] ["self", "number"] (aR wO):=bp
theorem K6:aq ["self", "number"] ["self", "number"] (aR wQ):=bp
theorem K7:aq ["self", "one", "other", "seam"] ["self", "one", "other"] (aR wR):=bp
theorem K8:aq ["self", "made", "number"] ["self", "made"] (aR wU):=bp
theorem K9:aq ["self", "made", "one", "other"] ["self", "made"] (aR wV):=bp
theorem La:aq ["self", "one", "other", "made"] ["self", "one", "other"] (aR wW):=bp
theorem BJ:aq ["shelf", "leaves", "middle"] ["shelf", "leaves"] (aR wX):=bp
theorem Lb:aq ["sign"] ["sign"] (aR wY):=bp
theorem Lc:aq ["thing"] ["thing"] (aR si):=bp
theorem Ld:aq ["thing"] ["thing"] (aR wZ):=bp
theorem Le:aq ["plain"] ["plain"] (aR w4):=bp
theorem Lf:aq ["self", "made", "number", "plain"] ["self", "made"] (aR w6):=bp
theorem Lg:aq ["self", "plain", "made"] ["self", "plain"] (aR w8):=bp
theorem Lh:aq ["shelf", "plain", "leaves"] ["shelf", "plain"] (aR sj):=bp
theorem Li:aq ["self", "name", "plain"] ["self", "name", "plain"] (aR xb):=bp
theorem Lj:aq ["self"] ["self"] (aR xf):=bp
theorem Lk:aq ["self", "name"] ["self", "name"] (aR xg):=bp
theorem Lm:aq ["self"] ["self"] (aR xh):=bp
theorem Ln:aq ["cell", "k", "one"] ["cell", "k"] (aR xi):=bp
theorem Lo:aq ["script", "k", "cell", "j", "found"] ["script", "k"] (aR sr):=bp
theorem Lp:aq ["stream", "many", "digit"] ["stream", "many"] (aR xj):=bp
theorem Lq:aq ["stream", "known", "odd", "some", "kind"] ["stream", "known", "odd"] (aR xk):=bp
theorem Lr:aq ["stream", "most", "kinds", "found", "k"] ["stream", "most"] (aR xl):=bp
theorem Ls:aq ["stream", "known", "odd", "name", "other", "due", "plain"] ["stream", "known"] (aR xm):=bp
theorem Lu:aq ["stream", "known", "kind", "name", "other", "plain", "more", "gone", "both", "at", "end", "due", "many"] ["stream", "known"] (aR xn):=bp
theorem Lv:aq ["stream", "known", "kind", "name", "left", "deed", "due", "plain", "behind"] ["stream", "known"] (aR xo):=bp
theorem Lw:aq ["house", "name"] ["house", "name"] (aR su):=bp
theorem Lx:aq ["self", "deed"] ["self"] (aR xp):=bp
theorem Ly:aq ["self", "text"] ["self", "text"] (aR xq):=bp
theorem Lz:aq ["self", "text"] ["self", "text"] (aR xr):=bp
theorem LB:aq ["signs"] ["signs"] (aR xt):=bp
theorem LC:aq ["self", "text"] ["self", "text"] (aR xu):=bp
theorem LD:aq ["self", "text"] ["self", "text"] (aR xw):=bp
theorem LF:aq ["shelf", "one", "other"] ["shelf", "one", "other"] (aR xx):=bp
theorem LG:aq ["self", "number"] ["self", "number"] (aR xy):=bp
theorem BK:aq ["shelf", "text", "leaf", "piece"] ["shelf", "text", "leaf"] (aR xA):=bp
theorem LH:aq ["self", "text"] ["self", "text"] (aR xB):=bp
theorem LI:aq ["shelf", "one", "other", "piece", "near", "far", "inner"] ["shelf", "one", "other"] (aR xC):=bp
theorem BM:aq ["shelf", "text", "piece", "rest"] ["shelf", "text"] (aR xD):=bp
theorem LJ:aq ["shelf", "one", "other", "piece", "far", "near", "inner"] ["shelf", "one", "other"] (aR xE):=bp
theorem BN:aq ["shelf", "one", "other", "tilt", "piece"] ["shelf", "one", "other"] (aR xF):=bp
theorem LM:aq ["shelf", "one", "other", "seam", "front", "back"] ["shelf", "one", "other"] (aR xG):=bp
theorem LN:aq ["shelf", "one", "other"] ["shelf", "one", "other"] (aR xH):=bp
theorem BO:aq ["shelf", "text", "many", "half", "twice"] ["shelf", "text", "many"] (aR xI):=bp
theorem LO:aq ["shelf", "text", "many", "signs"] ["shelf", "text", "many"] (aR xJ):=bp
theorem LP:aq ["shelf", "text", "at", "signs"] ["shelf", "text", "at"] (aR xK):=bp
theorem BP:aq ["shelf", "text", "at", "piece", "ahead"] ["shelf", "text", "at"] (aR xM):=bp
theorem BQ:aq ["shelf", "text", "at", "piece", "ahead"] ["shelf", "text", "at"] (aR xN):=bp
theorem LQ:aq ["shelf", "text", "at", "other", "together", "front"] ["shelf", "text", "at", "other"] (aR xO):=bp
theorem LR:aq ["shelf", "text", "begin", "end", "signs"] ["shelf", "text", "begin", "end"] (aR xP):=bp
theorem LU:aq ["shelf", "text", "begin", "end"] ["shelf", "text", "begin", "end"] (aR xQ):=bp
theorem LV:aq ["house", "deed", "shelf"] ["house", "deed"] (aR xR):=bp
theorem LW:aq ["self", "name", "other"] ["self", "name", "other"] (aR xS):=bp
theorem LX:aq ["self", "name", "other"] ["self", "name", "other"] (aR xT):=bp
theorem LY:aq ["self", "name", "at", "other"] ["self", "name", "at", "other"] (aR xU):=bp
theorem LZ:aq ["self", "name", "begin", "end"] ["self", "name", "begin", "end"] (aR xV):=bp
theorem L0:aq ["self", "name", "many"] ["self", "name", "many"] (aR xW):=bp
theorem L5:aq ["self", "name"] ["self", "name"] (aR xX):=bp
theorem L7:aq ["self", "deed"] ["self"] (aR xY):=bp
theorem L8:aq ["house", "deed"] ["house", "deed"] (aR xZ):=bp
theorem L9:aq ["house", "deed", "told", "e"] ["house", "deed"] (aR x6):=bp
theorem Ma:aq ["script", "house", "beside", "shelf", "known", "aside", "k", "cell", "stream", "deed", "due", "behind", "first", "told", "ahead", "kept", "name", "told_names"] ["script"] (aR sv):=bp
section
variable {P:Program} {w:World} {K:PySem.W.Frag} {cls exc:Nat->Option Addr} {mg:Str->Option Value} {base:Heap} (Z:ko P w K cls exc mg base)
include Z
theorem Mb:GK P w (bg K cls exc) mg base 1 0 "Shelf" uS:=gk Z.m_ KS λhr C hu nd =>
 (aB (ie rfl Z.z_ (ai 0) (iD ar))
  (aB (ie rfl Z.z_ (ai 0) GZ)
  (aB (ie rfl Z.z_ (ai 0) (iD (ak aA ar)))
  (aB (ie rfl Z.z_ (ai 0) (iD (ak aA ar)))
  (aB (ie rfl Z.z_ (ai 0) (iD (ak aA ar)))
  (aB (ie rfl Z.z_ (ai 0) (iD (ak (qw aA) ar)))
  (aB (ie rfl Z.z_ (ai 0) (iD (ak aA ar)))
  (aI (ie rfl Z.z_ (ai 0) (iD (ak aA ar)))))))))))
theorem BR:GK P w (bg K cls exc) mg base 3 1 "House" jI:=gk Z.r_ KU λhr C hu nd =>
 (aB (ie rfl Z.A_ (ai 0) (uA rfl C (Mb Z) hr.m rfl))
  (aB (ie rfl Z.A_ (ai 0) qA)
  (aB (ie rfl Z.A_ (ai 0) (iD ar))
  (aI (ie rfl Z.A_ (ai 0) (iD ar))))))
theorem mY:GM P w (bg K cls exc) mg base 1 1 "shelf" d5:=gm Z.jr KW (show ("shelf" : Str)∉bh 1 by decide +kernel) λhr C hu nd =>
 (aI (aP (bz rfl Z.A_ (ai 0))))
theorem BS:GF P w (bg K cls exc) mg base 1 "is_name" mD:=gf Z.y_ KY λ{f cdv A outer s H E} hr C hu nd =>
 (aB (aF (jz (iY rfl (nT rfl rfl Z.sw (ai 0) rfl Z.Ev ua (by decide)))) (aI (aP dH)) bf)
  (aI (aP (mn (l9 bO bO aA (br (Fa rfl) rfl Z.Fa Nw (ak (ai 0) ar)) (eZ rfl Z.pi)) (gT (br (Go rfl) rfl Z.Go Qv (ak (qG (jf:=[]) (nU (N:=["thing"]) (sc:=aR sf) rfl (λ_=>rfl) (by decide +kernel)) rfl (nK (E:=(λ_=>E)) rfl (ai 0)) (λ_ _ _ _ _=>qF) (λ_ _ _ _ _=>(l9 bO bO aM (ai 0) aM))) ar)))))))
theorem BU:GF P w (bg K cls exc) mg base 2 "check_name" og:=gf Z.ss KZ λhr C hu nd =>
 (aI (aF (jz (iY rfl (aY rfl C (BS Z) hr.m rfl (ak (ai 0) ar)))) dJ bf))
theorem x8:GM P w (bg K cls exc) mg base 1 1 "set_text" i7:=gm Z.c_ K0 (show ("set_text" : Str)∉bh 1 by decide +kernel) λhr C hu nd =>
 (aI (aF (bc uv (ai 2) kT (aZ _)) (aI (bM (z8 (bz rfl Z.A_ (ai 0)) (ai 1)))) (aI (nQ hu (bz rfl Z.A_ (ai 0)) (ai 1) (ai 2)))))
theorem lO:GM P w (bg K cls exc) mg base 2 1 "do" eK:=gm Z.w_ K1 (show ("do" : Str)∉bh 1 by decide +kernel) λhr C hu nd =>
 (aB (bM (cx rfl M5 Na Nb (fI) eJ (bz rfl Z.A_ (ai 0)) (ak (dU (ak (ai 1) (ak (Ia hu (bz rfl Z.A_ (ai 0)) (ai 1)) (ak (ai 2) ar)))) ar)))
  (aB (bM (uF rfl M5 PySem.F.slot_list_clear PySem.F.type_list_clear (Ib) eJ (bz rfl Z.A_ (ai 0))))
  (aI (bM (aL rfl C (x8 Z) hr.m (ai 0) (ak (ai 1) (ak (ai 2) ar)))))))
theorem Mc:GF P w (bg K cls exc) mg base 1 "is_whole" qX:=gf Z.wv K3 λhr C hu nd =>
 (aI (aP (mn (nT rfl rfl Z.sw (ai 0) rfl Z.Id iT (by decide)) (gT (qz (nT rfl rfl Z.sw (ai 0) rfl Z.D_ FT (by decide)))))))
theorem Md:GM P w (bg K cls exc) mg base 2 0 "has_piece" qY:=gm Z.bn K5 (show ("has_piece" : Str)∉bh 0 by decide +kernel) λhr C hu nd =>
 (aI (aP (mn (aY rfl C (Mc Z) hr.m rfl (ak (ai 1) ar)) (gT (l9 bO bO aA (ai 1) (br (Fa rfl) rfl Z.Fa Nw (ak (bz rfl Z.z_ (ai 0)) ar)))))))
theorem sA:GM P w (bg K cls exc) mg base 3 0 "check_piece" lh:=gm Z.ac K6 (show ("check_piece" : Str)∉bh 0 by decide +kernel) λhr C hu nd =>
 (aI (aF (jz (iY rfl (aL rfl C (Md Z) hr.m (ai 0) (ak (ai 1) ar)))) dJ bf))
theorem Me:GM P w (bg K cls exc) mg base 4 0 "check_fork" oi:=gm Z.am K7 (show ("check_fork" : Str)∉bh 0 by decide +kernel) λhr C hu nd =>
 (aB (bM (aL rfl C (sA Z) hr.m (ai 0) (ak (ai 1) ar)))
  (aB (bM (aL rfl C (sA Z) hr.m (ai 0) (ak (ai 2) ar)))
  (aB (aV (i:=3) nd (bt (cZ rfl) (aw rfl hu (bz rfl Z.z_ (ai 0)) (aw rfl hu (bz rfl Z.z_ (ai 0)) (ai 1))) (aw rfl hu (bz rfl Z.z_ (ai 0)) (aw rfl hu (bz rfl Z.z_ (ai 0)) (ai 2)))))
  (aB (aF (bc bO (ai 3) (eZ rfl Z.sK) (aZ _)) dJ bf)
  (aB (aF (bc eu (br (E_) rfl Z.E_ PyProof.Rows.boot_abs (ak (bt jy (aw rfl hu (bz rfl Z.z_ (ai 0)) (ai 1)) (aw rfl hu (bz rfl Z.z_ (ai 0)) (ai 2))) ar)) aA (aZ _)) dJ bf)
  (aI (aF (bc eu (bt (cZ rfl) (aw rfl hu (bz rfl Z.z_ (ai 0)) (ai 1)) (aw rfl hu (bz rfl Z.z_ (ai 0)) (ai 2))) (eZ rfl Z.p_) (aZ _)) dJ bf)))))))
theorem BV:GM P w (bg K cls exc) mg base 1 0 "lay" oj:=gm Z.ut K8 (show ("lay" : Str)∉bh 0 by decide +kernel) λhr C hu nd =>
 (aB (bM (cx rfl M5 Na Nb (fI) eJ (bz rfl Z.z_ (ai 0)) (ak (ai 1) ar)))
  (aB (aV (i:=2) nd (br (Fa rfl) rfl Z.Fa Nw (ak (bz rfl Z.z_ (ai 0)) ar)))
  (aB (nQ hu (bz rfl Z.z_ (ai 0)) (ai 1) (ai 2))
  (aI (aP (ai 2))))))
theorem Mf:GM P w (bg K cls exc) mg base 2 0 "lay_fork" om:=gm Z.b_ K9 (show ("lay_fork" : Str)∉bh 0 by decide +kernel) λhr C hu nd =>
 (aB (bM (aL rfl C (BV Z) hr.m (ai 0) (ak (ai 1) ar)))
  (aB (aV (i:=2) nd (aw rfl hu (ai 1) aA))
  (aB (aV (i:=3) nd (aw rfl hu (ai 1) aA))
  (aB (bM (cx rfl M5 Na Nb (fI) eJ (bz rfl Z.z_ (ai 0)) (ak (bt (cZ rfl) (aw rfl hu (bz rfl Z.z_ (ai 0)) (ai 2)) (aw rfl hu (bz rfl Z.z_ (ai 0)) (ai 3))) ar)))
  (aB (bM (cx rfl M5 Na Nb (fI) eJ (bz rfl Z.z_ (ai 0)) (ak (bt (cZ rfl) (aw rfl hu (bz rfl Z.z_ (ai 0)) (ai 2)) (aw rfl hu (bz rfl Z.z_ (ai 0)) (ai 3))) ar)))
  (aB (bM (cx rfl M5 Na Nb (fI) eJ (bz rfl Z.z_ (ai 0)) (ak (bt (cZ rfl) (aw rfl hu (bz rfl Z.z_ (ai 0)) (ai 2)) (aw rfl hu (bz rfl Z.z_ (ai 0)) (ai 3))) ar)))
  (aB (bM (cx rfl M5 Na Nb (fI) eJ (bz rfl Z.z_ (ai 0)) (ak (bt (cZ rfl) (br (kZ) rfl Z.F_ NX (ak (aw rfl hu (bz rfl Z.z_ (ai 0)) (ai 2)) (ak (aw rfl hu (bz rfl Z.z_ (ai 0)) (ai 3)) ar))) aA) ar)))
  (aB (bM (cx rfl M5 Na Nb (fI) eJ (bz rfl Z.z_ (ai 0)) (ak (aw rfl hu (bz rfl Z.z_ (ai 0)) (ai 2)) ar)))
  (aI (bM (cx rfl M5 Na Nb (fI) eJ (bz rfl Z.z_ (ai 0)) (ak (aw rfl hu (bz rfl Z.z_ (ai 0)) (ai 3)) ar))))))))))))
theorem gA:GM P w (bg K cls exc) mg base 5 0 "fork" bA:=gm Z.s_ La (show ("fork" : Str)∉bh 0 by decide +kernel) λhr C hu nd =>
 (aB (bM (aL rfl C (Me Z) hr.m (ai 0) (ak (ai 1) (ak (ai 2) ar))))
  (aB (aV (i:=3) nd (dU (ak aM (ak (ai 1) (ak (ai 2) ar)))))
  (aB (aF (bc (j7 rfl hu) (ai 3) (bz rfl Z.z_ (ai 0)) rfl) (aI (bM (aL rfl C (Mf Z) hr.m (ai 0) (ak (ai 3) ar)))) bf)
  (aI (aP (aw rfl hu (bz rfl Z.z_ (ai 0)) (ai 3)))))))
theorem x9:∀ d,GF P w (bg K cls exc) mg base (5+d+1) "halved" (ik d)
 | 0=>gf Z.At BJ λ_ _ _ _=>dJ
 | d+1=>gf Z.At BJ λhr C hu nd =>
  (aB (aF (bc (aT rfl hu) (br (Fa rfl) rfl Z.Fa Nw (ak (ai 1) ar)) aA (aZ _)) (aI (aP (aw rfl hu (ai 1) aA))) bf)
  (aB (aV (i:=2) nd (bt qv (br (Fa rfl) rfl Z.Fa Nw (ak (ai 1) ar)) aA))
  (aI (aP (aL rfl C (gA Z) (hr.mono (show 5<=5+(d+1) by lia)) (ai 0) (ak (aY rfl C (x9 d) (hr.mono (by lia)) rfl (ak (ai 0) (ak (iF rfl (ai 1) i4 (ij (ai 2))) ar))) (ak (aY rfl C (x9 d) (hr.mono (by lia)) rfl (ak (ai 0) (ak (iF rfl (ai 1) (ij (ai 2)) i4) ar))) ar)))))))
theorem Mg:GF P w (bg K cls exc) mg base 1 "is_plain_sign" oq:=gf Z.f_ Lb λhr C hu nd =>
 (aI (aP (jA (gj (aT rfl hu) (ai 0) aM (aZ _)) (gT (l9 bO bO aM (ai 0) aM)))))
theorem BW:GF P w (bg K cls exc) mg base 2 "is_plain" ot:=gf Z.wr Lc λ{f cdv A outer s H E} hr C hu nd =>
 (aB (aF (jz (iY rfl (nT rfl rfl Z.sw (ai 0) rfl Z.Ev ua (by decide)))) (aI (aP dH)) bf)
  (aI (aP (br (Go rfl) rfl Z.Go Qv (ak (qG (jf:=[]) (nU (N:=["thing"]) (sc:=aR si) rfl (λ_=>rfl) (by decide +kernel)) rfl (nK (E:=(λ_=>E)) rfl (ai 0)) (λ_ _ _ _ _=>qF) (λ_ _ _ _ _=>(aY rfl (CA.never rfl) (Mg Z) hr.m rfl (ak (ai 0) ar)))) ar)))))
theorem Mh:GF P w (bg K cls exc) mg base 3 "is_short" qZ:=gf Z.wn Ld λhr C hu nd =>
 (aI (aP (mn (aY rfl C (BW Z) hr.m rfl (ak (ai 0) ar)) (gT (l9 bO bO aA (br (Fa rfl) rfl Z.Fa Nw (ak (ai 0) ar)) (eZ rfl Z.sK))))))
theorem Mi:GF P w (bg K cls exc) mg base 1 "ends_in" q0:=gf Z.xL Le λhr C hu nd =>
 (aI (aP (cx rfl PySem.F.plainAttrs_str PySem.F.slot_str_count PySem.F.type_str_count (HH) HF (ai 0) (ak aM ar))))
theorem Mj:GM P w (bg K cls exc) mg base 2 0 "lay_leaf" ou:=gm Z.ci Lf (show ("lay_leaf" : Str)∉bh 0 by decide +kernel) λhr C hu nd =>
 (aB (aV (i:=2) nd (aL rfl C (BV Z) hr.m (ai 0) (ak (ai 1) ar)))
  (aB (aV (i:=3) nd (aw rfl hu (ai 1) aA))
  (aB (bM (cx rfl M5 Na Nb (fI) eJ (bz rfl Z.z_ (ai 0)) (ak (br (Fa rfl) rfl Z.Fa Nw (ak (ai 3) ar)) ar)))
  (aB (bM (cx rfl M5 Na Nb (fI) eJ (bz rfl Z.z_ (ai 0)) (ak (aY rfl C (Mi Z) hr.m rfl (ak (ai 3) ar)) ar)))
  (aB (bM (cx rfl M5 Na Nb (fI) eJ (bz rfl Z.z_ (ai 0)) (ak aA ar)))
  (aB (bM (cx rfl M5 Na Nb (fI) eJ (bz rfl Z.z_ (ai 0)) (ak aA ar)))
  (aB (bM (cx rfl M5 Na Nb (fI) eJ (bz rfl Z.z_ (ai 0)) (ak (ai 2) ar)))
  (aI (bM (cx rfl M5 Na Nb (fI) eJ (bz rfl Z.z_ (ai 0)) (ak (ai 2) ar)))))))))))
theorem pM:GM P w (bg K cls exc) mg base 4 0 "leaf" c5:=gm Z.q_ Lg (show ("leaf" : Str)∉bh 0 by decide +kernel) λhr C hu nd =>
 (aB (aF (jz (iY rfl (aY rfl C (Mh Z) hr.m rfl (ak (ai 1) ar)))) dJ bf)
  (aB (aV (i:=2) nd (dU (ak aM (ak (ai 1) ar))))
  (aB (aF (bc (j7 rfl hu) (ai 2) (bz rfl Z.z_ (ai 0)) rfl) (aI (bM (aL rfl C (Mj Z) hr.m (ai 0) (ak (ai 2) ar)))) bf)
  (aI (aP (aw rfl hu (bz rfl Z.z_ (ai 0)) (ai 2)))))))
theorem BX:GF P w (bg K cls exc) mg base 27 "built" iI:=gf Z.C_ Lh λ{f cdv A outer s H E} hr C hu nd =>
 (aB (aF (jz (iY rfl (aY rfl C (BW Z) hr.m rfl (ak (ai 1) ar)))) dJ bf)
  (aB (aF (bc eu (br (Fa rfl) rfl Z.Fa Nw (ak (ai 1) ar)) (eZ rfl Z.mo) (aZ _)) dJ bf)
  (aB (aF (bc (aT rfl hu) (ai 1) aM (aZ _)) (aI (aP aA)) bf)
  (aB (Hl (jf:=[(0, "shelf"),(1, "plain")]) (nU (N:=["shelf", "plain", "leaves"]) (sc:=aR sj) rfl (λ_=>rfl) (by decide +kernel)) rfl (zO (E:=(λ_=>E)) rfl Z.Cl aA (br (Fa rfl) rfl Z.Fa Nw (ak (ai 1) ar)) (eZ rfl Z.sK)) (λ_ _ _ _ _=>qF) (λ_ _ _ _ _=>(aL rfl (CA.never rfl) (pM Z) hr.m (ai 1) (ak (iF rfl (ai 2) (ij (ai 0)) (ij (bt (cZ rfl) (ai 0) (eZ rfl Z.sK)))) ar))) nd (i:=2))
  (aI (aP (aY rfl C (x9 Z 20) hr.m rfl (ak (ai 0) (ak (ai 2) ar)))))))))
theorem BY:GM P w (bg K cls exc) mg base 28 1 "give" jJ:=gm Z.sn Li (show ("give" : Str)∉bh 1 by decide +kernel) λhr C hu nd =>
 (aB (bM (aY rfl C (BU Z) hr.m rfl (ak (ai 1) ar)))
  (aI (bM (aL rfl C (lO Z) hr.m (ai 0) (ak (ai 1) (ak (aY rfl C (BX Z) hr.m rfl (ak (bz rfl Z.A_ (ai 0)) (ak (ai 2) ar))) ar))))))
theorem jT:GM P w (bg K cls exc) mg base 1 1 "names" cF:=gm Z.lf Lj (show ("names" : Str)∉bh 1 by decide +kernel) λhr C hu nd =>
 (aI (aP (br (IH rfl) rfl Z.zc wG (ak (bz rfl Z.A_ (ai 0)) ar))))
theorem eE:GM P w (bg K cls exc) mg base 2 1 "text" bI:=gm Z.ol Lk (show ("text" : Str)∉bh 1 by decide +kernel) λhr C hu nd =>
 (aB (aF (eB (mh (jz (iY rfl (aY rfl C (BS Z) hr.m rfl (ak (ai 1) ar)))) (mf (bc (j7 rfl hu) (ai 1) (bz rfl Z.A_ (ai 0)) rfl)))) dJ bf)
  (aI (aP (aw rfl hu (bz rfl Z.A_ (ai 0)) (ai 1)))))
theorem lP:GM P w (bg K cls exc) mg base 1 0 "many" eP:=gm Z.sB Lm (show ("many" : Str)∉bh 0 by decide +kernel) λhr C hu nd =>
 (aI (aP (br (Fa rfl) rfl Z.Fa Nw (ak (bz rfl Z.z_ (ai 0)) ar))))
theorem Ml:GF P w (bg K cls exc) mg base 1 "_law_mixed" rf:=gf Z.u8 Ln λhr C hu nd =>
 (aB (aV (i:=2) nd (bt j4 (bt iW (bt (cZ rfl) (bt (cZ rfl) (bt j4 (ai 0) aA) (bt iW aA (ai 1))) aA) aA) aA))
  (aI (aP (bt j4 (bt iW (bt j4 (bt iW (ai 2) (ai 2)) aA) aA) aA))))
theorem Mm:GF P w (bg K cls exc) mg base 2 "_law_stream" ke:=gf Z.on Lo λ{f cdv A outer s H E} hr C hu nd =>
 (aB (aV (i:=2) nd aA)
  (aB (nM rfl (zO (E:=EN) rfl Z.Cl (ai 1) (br (Fa rfl) rfl Z.Fa Nw (ak (ai 0) ar)) aA) (qC (i:=3) nd) (aI (aV (i:=2) nd (bt (cZ rfl) (bt iW (ai 2) (bt iW (bt kU aA aA) (bt kU aA aA))) (bt j4 (aw rfl hu (ai 0) (ai 3)) (bt iW (bt kU aA aA) (bt kU aA aA)))))))
  (aB (aF (bc nJ (ai 2) (bt kU aA aA) (aZ _)) (aI (aP (iD (ak (ai 2) ar)))) bf)
  (aB (aV (i:=2) nd (bt (cZ rfl) (ai 2) (br (G_ rfl) rfl Z.G_ PyProof.Rows.boot_sum (ak (qG (jf:=[]) (nU (N:=["script", "k", "cell", "j", "found"]) (sc:=aR sr) rfl (λ_=>rfl) (by decide +kernel)) rfl (nK (E:=(λ_=>E)) rfl (ai 0)) (λ_ _ _ _ _=>qF) (λ_ _ _ _ _=>(bt j4 (ai 0) (bt kU aA aA)))) ar))))
  (aB (aV (i:=4) nd aA)
  (aB (nM rfl (zu (E:=EN) rfl Z.Cl aA) (qC (i:=3) nd) (aI (aV (i:=4) nd (bt (cZ rfl) (bt iW (ai 4) aA) (aY rfl (C.nox) (Ml Z) hr.m rfl (ak (bt (cZ rfl) (bt (cZ rfl) (ai 2) (bt iW aA (ai 1))) (br (Fa rfl) rfl Z.Fa Nw (ak (ai 0) ar))) (ak (ai 3) ar)))))))
  (aI (aP (iD (ak (ai 4) ar))))))))))
theorem fV:GF P w (bg K cls exc) mg base 1 "_law_take" bC:=gf Z.wP Lp λhr C hu nd =>
 (aB (aV (i:=2) nd (bt j4 (aw rfl hu (ai 0) aA) (ai 1)))
  (aB (nQ hu (ai 0) aA (bt qv (aw rfl hu (ai 0) aA) (ai 1)))
  (aI (aP (ai 2)))))
theorem pN:GF P w (bg K cls exc) mg base 2 "_law_name" fM:=gf Z.wS Lq λhr C hu nd =>
 (aB (aV (i:=3) nd (zV rfl rfl Z.zc wG (ai 1)))
  (aB (aV (i:=4) nd (aY rfl C (fV Z) hr.m rfl (ak (ai 0) (ak aA ar))))
  (aB (aF (bc (aT rfl hu) (ai 4) aA (aZ _)) (aI (aP (aw rfl hu (ai 2) (aY rfl C (fV Z) hr.m rfl (ak (ai 0) (ak (br (Fa rfl) rfl Z.Fa Nw (ak (ai 2) ar)) ar)))))) bf)
  (aB (aF (eB (mh (bc gR (ai 4) aA (aZ _)) (mf (bc (aT rfl hu) (ai 3) (df ar) (aZ _))))) (aI (aP (aw rfl hu (df (ak aM (ak aM (ak aM (ak aM (ak aM (ak aM ar))))))) (aY rfl C (fV Z) hr.m rfl (ak (ai 0) (ak aA ar)))))) bf)
  (aI (aP (aw rfl hu (ai 3) (aY rfl C (fV Z) hr.m rfl (ak (ai 0) (ak (br (Fa rfl) rfl Z.Fa Nw (ak (ai 3) ar)) ar))))))))))
theorem Mn:GF P w (bg K cls exc) mg base 2 "_law_plain" mG:=gf Z.v4 Lr λhr C hu nd =>
 (aB (aV (i:=2) nd (aw rfl hu (df (ak aM (ak aM (ak aM (ak aM (ak aM ar)))))) (aY rfl C (fV Z) hr.m rfl (ak (ai 0) (ak aA ar)))))
  (aB (aV (i:=3) nd aM)
  (aB (nM rfl (zu (E:=EN) rfl Z.Cl (aY rfl (C.nox) (fV Z) hr.m rfl (ak (ai 0) (ak (bt (cZ rfl) (ai 1) aA) ar)))) (qC (i:=4) nd) (aI (aV (i:=3) nd (bt (cZ rfl) (ai 3) (aw rfl hu (ai 2) (aY rfl (C.nox) (fV Z) hr.m rfl (ak (ai 0) (ak (br (Fa rfl) rfl Z.Fa Nw (ak (ai 2) ar)) ar))))))))
  (aI (aP (ai 3))))))
theorem Mo:GF P w (bg K cls exc) mg base 3 "_law_given" mH:=gf Z.v_ Ls λhr C hu nd =>
 (@aB _ _ _ _ _ _ _ (@aV _ _ _ _ _ _ 2 _ _ nd (@df _ _ _ _ _ _ (@iG _ _ _ _ _ _ _ aM (@iG _ _ _ _ _ _ _ aM (@iG _ _ _ _ _ _ _ aM (@iG _ _ _ _ _ _ _ aM (@iG _ _ _ _ _ _ _ aM (@iG _ _ _ _ _ _ _ kT (@iG _ _ _ _ _ _ _ aA (@iG _ _ _ _ _ _ _ dH (@iG _ _ _ _ _ _ _ (df (ak aM ar)) (@iG _ _ _ _ _ _ _ (dU (ak aM ar)) (@iG _ _ _ _ _ _ _ qA ar rfl) rfl) rfl) rfl) rfl) rfl) rfl) rfl) rfl) rfl) rfl)) rfl (Or.inl rfl) rfl (.inl rfl))
  (aB (aV (i:=3) nd (aY rfl C (pN Z) hr.m rfl (ak (ai 0) (ak (ai 1) (ak (ai 2) ar)))))
  (aB (aF (bc (aT rfl hu) (aY rfl C (fV Z) hr.m rfl (ak (ai 0) (ak aA ar))) aA (aZ _)) (aB (aV (i:=4) nd (aY rfl C (pN Z) hr.m rfl (ak (ai 0) (ak (ai 1) (ak (df (ak aM (ak aM (ak aM ar)))) ar)))))
  (aB (aV (i:=5) nd (aw rfl hu (df (ak aM (ak aM ar))) (dW (Id) rfl Z.Id iT (ak (jA (gj (Ag rfl hu) (ai 3) (ai 2) rfl) (gT (gj (j7 rfl hu) (ai 4) (ai 1) rfl))) ar))))
  (aI (aP (dU (ak (dU (ak aM (ak (ai 3) (ak (ai 4) ar)))) (ak (ai 5) (ak (uJ hu (ai 1) (ai 4) aM) ar)))))))) bf)
  (aB (aV (i:=6) nd (aY rfl C (Mn Z) hr.m rfl (ak (ai 0) (ak aA ar))))
  (aB (aF (bc (aT rfl hu) (aY rfl C (fV Z) hr.m rfl (ak (ai 0) (ak aA ar))) aA (aZ _)) (aI (aV (i:=6) nd (aw rfl hu (df (ak kT (ak aA (ak aM (ak (df (ak aM ar)) (ak dH (ak aM ar))))))) (aY rfl C (fV Z) hr.m rfl (ak (ai 0) (ak aA ar)))))) bf)
  (aB (aV (i:=5) nd (aw rfl hu (df (ak aM (ak aM ar))) (dW (Id) rfl Z.Id iT (ak (jA (qz (nT rfl rfl Z.sw (ai 6) rfl Z.Ev ua (by decide))) (gT (gj (uE rfl hu) aM (ai 6) rfl))) ar))))
  (aB (aF (bc (Ag rfl hu) (ai 3) (ai 2) rfl) (aI (aV (i:=5) nd aM)) bf)
  (aI (aP (dU (ak (dU (ak aM (ak (ai 3) (ak (ai 6) ar)))) (ak (ai 5) (ak (ai 6) ar)))))))))))))
theorem Mp:GF P w (bg K cls exc) mg base 3 "_law_changed" mI:=gf Z.k_ Lu λhr C hu nd =>
 (aB (aV (i:=2) nd (aY rfl C (fV Z) hr.m rfl (ak (ai 0) (ak aA ar))))
  (aB (aV (i:=3) nd (aY rfl C (pN Z) hr.m rfl (ak (ai 0) (ak (ai 1) (ak (df (ak aM (ak aM (ak aM ar)))) ar)))))
  (aB (aV (i:=4) nd (aY rfl C (pN Z) hr.m rfl (ak (ai 0) (ak (ai 1) (ak (df (ak aM (ak aM (ak aM ar)))) ar)))))
  (aB (aV (i:=5) nd (uJ hu (ai 1) (ai 3) aM))
  (aB (aV (i:=6) nd (uJ hu (ai 1) (ai 4) aM))
  (aB (aV (i:=7) nd (aw rfl hu (df (ak aM (ak aM ar))) (dW (Id) rfl Z.Id iT (ak (gj (j7 rfl hu) (ai 3) (ai 1) rfl) ar))))
  (aB (aV (i:=8) nd (aw rfl hu (df (ak aM (ak aM ar))) (dW (Id) rfl Z.Id iT (ak (jA (gj (j7 rfl hu) (ai 3) (ai 1) rfl) (gT (gj (j7 rfl hu) (ai 4) (ai 1) rfl))) ar))))
  (aB (aV (i:=9) nd (bt jy (aY rfl C (fV Z) hr.m rfl (ak (ai 0) (ak (bt (cZ rfl) (br (Fa rfl) rfl Z.Fa Nw (ak (ai 5) ar)) aA) ar))) aA))
  (aB (aV (i:=10) nd (bt jy (aY rfl C (fV Z) hr.m rfl (ak (ai 0) (ak (bt (cZ rfl) (br (Fa rfl) rfl Z.Fa Nw (ak (ai 5) ar)) aA) ar))) aA))
  (aB (aF (bc (aT rfl hu) (ai 2) aA (aZ _)) (aI (aP (dU (ak (dU (ak aM (ak (ai 3) (ak (ai 4) ar)))) (ak (ai 8) (ak (bt (cZ rfl) (ai 5) (ai 6)) ar)))))) bf)
  (aB (aF (bc (aT rfl hu) (ai 2) aA (aZ _)) (aB (aV (i:=11) nd (qO rfl (ai 8) (gT (aw rfl hu (df (ak aM (ak aM ar))) (dW (Id) rfl Z.Id iT (ak (qz (l9 bO bO aA (ai 9) (br (Fa rfl) rfl Z.Fa Nw (ak (ai 5) ar)))) ar))))))
  (aI (aP (dU (ak (dU (ak aM (ak (ai 3) (ak (ai 9) (ak (ai 4) ar))))) (ak (ai 11) (ak (bt (cZ rfl) (bt (cZ rfl) (iF rfl (ai 5) i4 (ij (br (kZ) rfl Z.F_ NX (ak aA (ak (ai 9) ar))))) (ai 6)) (iF rfl (ai 5) (ij (br (kZ) rfl Z.F_ NX (ak aA (ak (ai 9) ar)))) i4)) ar))))))) bf)
  (aB (aF (bc (aT rfl hu) (ai 2) aA (aZ _)) (aB (aV (i:=11) nd (qO rfl (ai 7) (gT (aw rfl hu (df (ak aM (ak aM ar))) (dW (Id) rfl Z.Id iT (ak (qz (IF bO bO bO aA (ai 9) (ai 10) (br (Fa rfl) rfl Z.Fa Nw (ak (ai 5) ar)))) ar))))))
  (aI (aP (dU (ak (dU (ak aM (ak (ai 3) (ak (ai 9) (ak (ai 10) ar))))) (ak (ai 11) (ak (bt (cZ rfl) (iF rfl (ai 5) i4 (ij (br (kZ) rfl Z.F_ NX (ak aA (ak (ai 9) ar))))) (iF rfl (ai 5) (ij (br (kZ) rfl Z.F_ NX (ak aA (ak (ai 10) ar)))) i4)) ar))))))) bf)
  (aB (aV (i:=12) nd (aw rfl hu (df (ak aA (ak aA (ak aA (ak aA (ak (qw aA) (ak (bt (cZ rfl) (bt qv (bt kU aA aA) (br (kZ) rfl Z.F_ NX (ak aA (ak (br (Fa rfl) rfl Z.Fa Nw (ak (ai 5) ar)) ar)))) aA) ar))))))) (aY rfl C (fV Z) hr.m rfl (ak (ai 0) (ak aA ar)))))
  (aB (aV (i:=11) nd (qO rfl (ai 7) (qO rfl (aw rfl hu (df (ak aM (ak aM ar))) (dW (Id) rfl Z.Id iT (ak (gj gR (ai 12) aA (aZ _)) ar))) (gT (aw rfl hu (df (ak aM (ak aM ar))) (dW (Id) rfl Z.Id iT (ak (mn (gj eu (ai 12) aA (aZ _)) (gT (gj (cH rfl hu) (ai 5) aM (aZ _)))) ar)))))))
  (aI (aP (dU (ak (dU (ak aM (ak (ai 3) (ak (ai 12) ar)))) (ak (ai 11) (ak (bt HW (ai 5) (br (HC) rfl Z.H_ PyProof.Rows.boot_min (ak aA (ak (br (kZ) rfl Z.F_ NX (ak aA (ak (ai 12) ar))) ar)))) ar))))))))))))))))))))
theorem Mq:GF P w (bg K cls exc) mg base 4 "_law_deed" ow:=gf Z.xz Lv λhr C hu nd =>
 (aB (aV (i:=2) nd (aY rfl C (fV Z) hr.m rfl (ak (ai 0) (ak aA ar))))
  (aB (aF (bc (aT rfl hu) (ai 2) aA (aZ _)) (aB (aV (i:=3) nd (aY rfl C (pN Z) hr.m rfl (ak (ai 0) (ak (ai 1) (ak (df (ak aM (ak aM (ak aM ar)))) ar)))))
  (aB (aF (bc (j7 rfl hu) (ai 3) (ai 1) rfl) (aI (aP (dU (ak (dU (ak aM (ak (ai 3) ar))) (ak aM (ak (ai 1) ar)))))) bf)
  (aB (aV (i:=4) nd (dW zU rfl Z.Db zT (ak (ai 1) ar)))
  (aB (bM (z8 (ai 4) (ai 3)))
  (aI (aP (dU (ak (dU (ak aM (ak (ai 3) ar))) (ak aM (ak (ai 4) ar)))))))))) bf)
  (aB (zk (Io rfl C (Mo Z) (Mp Z) hr.m hr.m rfl rfl (dW (Id) rfl Z.Id iT (ak (gj eu (ai 2) aA (aZ _)) ar)) (ak (ai 0) (ak (ai 1) ar))) (ux rfl rfl (j5 (i:=5) nd (j5 (i:=6) nd (j5 (i:=7) nd uw)))))
  (aB (aF (eB (qy (bc (aT rfl hu) (ai 6) aM (aZ _)) (qx (bc eu (br (Fa rfl) rfl Z.Fa Nw (ak (ai 7) ar)) aA (aZ _))))) (aI (IG (i:=5) (j:=6) (k:=7) nd (ak (dU (ak aM (ak (aw rfl hu (ai 5) aA) (ak aM ar)))) (ak aM (ak aM ar))))) bf)
  (aB (aV (i:=8) nd (dW zU rfl Z.Db zT (ak (ai 1) ar)))
  (aB (aF (bc (aT rfl hu) (ai 6) aM (aZ _)) (aI (nQ hu (ai 8) (aw rfl hu (ai 5) aA) (ai 7))) bf)
  (aI (aP (dU (ak (ai 5) (ak (ai 6) (ak (ai 8) ar))))))))))))
theorem BZ:GF P w (bg K cls exc) mg base 3 "_law_others" jK:=gf Z.mt Lw λ{f cdv A outer s H E} hr C hu nd =>
 (aI (aP (qG (jf:=[(0, "house"),(1, "name")]) (nU (N:=["house", "name"]) (sc:=aR su) rfl (λ_=>rfl) (by decide +kernel)) rfl (nK (E:=(λ_=>E)) rfl (dI rfl C (jT Z) hr.m (ai 0))) (λ_ _ _ _ _=>Hk (bc (cH rfl hu) (ai 0) (ai 2) (aZ _))) (λ_ _ _ _ _=>(dU (ak (ai 0) (ak (aL rfl (CA.never rfl) (eE Z) hr.m (ai 1) (ak (ai 0) ar)) ar)))))))
theorem B5:GM P w (bg K cls exc) mg base 2 1 "back" lq:=gm Z.n_ Lx (show ("back" : Str)∉bh 1 by decide +kernel) λhr C hu nd =>
 (aB (aF (bc (aT rfl hu) (bz rfl Z.A_ (ai 0)) (df ar) (aZ _)) dJ bf)
  (aB (aV (i:=1) nd (uF rfl M5 Qw Qx (zK) eJ (bz rfl Z.A_ (ai 0))))
  (aB (bM (cx rfl M5 Na Nb (fI) eJ (bz rfl Z.A_ (ai 0)) (ak (ai 1) ar)))
  (aI (bM (aL rfl C (x8 Z) hr.m (ai 0) (ak (aw rfl hu (ai 1) aA) (ak (aw rfl hu (ai 1) aA) ar))))))))
theorem sC:GM P w (bg K cls exc) mg base 4 0 "check_text" kf:=gm Z.a_ Ly (show ("check_text" : Str)∉bh 0 by decide +kernel) λhr C hu nd =>
 (aI (aF (bc (cH rfl hu) (ai 1) aA (aZ _)) (aI (bM (aL rfl C (sA Z) hr.m (ai 0) (ak (ai 1) ar)))) bf))
theorem ia:GM P w (bg K cls exc) mg base 5 0 "signs" e7:=gm Z.l_ Lz (show ("signs" : Str)∉bh 0 by decide +kernel) λhr C hu nd =>
 (aB (bM (aL rfl C (sC Z) hr.m (ai 0) (ak (ai 1) ar)))
  (aI (aP (aw rfl hu (bz rfl Z.z_ (ai 0)) (ai 1)))))
theorem ya:GF P w (bg K cls exc) mg base 1 "check_length" mJ:=gf Z.ii LB λhr C hu nd =>
 (aI (aF (bc eu (ai 0) (eZ rfl Z.p_) (aZ _)) dJ bf))
theorem B6:GM P w (bg K cls exc) mg base 5 0 "last_leaf" ox:=gm Z.bi LC (show ("last_leaf" : Str)∉bh 0 by decide +kernel) λhr C hu nd =>
 (aB (bM (aL rfl C (sC Z) hr.m (ai 0) (ak (ai 1) ar)))
  (aI (aP (aw rfl hu (bz rfl Z.z_ (ai 0)) (ai 1)))))
theorem B8:GM P w (bg K cls exc) mg base 5 0 "first_leaf" oz:=gm Z.bd LD (show ("first_leaf" : Str)∉bh 0 by decide +kernel) λhr C hu nd =>
 (aB (bM (aL rfl C (sC Z) hr.m (ai 0) (ak (ai 1) ar)))
  (aI (aP (aw rfl hu (bz rfl Z.z_ (ai 0)) (ai 1)))))
theorem Mr:GF P w (bg K cls exc) mg base 6 "are_close" rg:=gf Z.v0 LF λhr C hu nd =>
 (aI (aP (gj eu (bt (cZ rfl) (aL rfl C (ia Z) hr.m (ai 0) (ak (aL rfl C (B6 Z) hr.m (ai 0) (ak (ai 1) ar)) ar)) (aL rfl C (ia Z) hr.m (ai 0) (ak (aL rfl C (B8 Z) hr.m (ai 0) (ak (ai 2) ar)) ar))) (eZ rfl Z.sK) (aZ _))))
theorem iq:GM P w (bg K cls exc) mg base 4 0 "piece" fy:=gm Z.j_ LG (show ("piece" : Str)∉bh 0 by decide +kernel) λhr C hu nd =>
 (aB (bM (aL rfl C (sA Z) hr.m (ai 0) (ak (ai 1) ar)))
  (aI (aP (aw rfl hu (bz rfl Z.z_ (ai 0)) (bt jy (ai 1) aA)))))
theorem B9:∀ d,GF P w (bg K cls exc) mg base (5+d+1) "with_last" (ip d)
 | 0=>gf Z.ul BK λ_ _ _ _=>dJ
 | d+1=>gf Z.ul BK λhr C hu nd =>
  (aB (aV (i:=3) nd (aL rfl C (iq Z) (hr.mono (show 4<=5+(d+1) by lia)) (ai 0) (ak (ai 1) ar)))
  (aB (aF (bc (aT rfl hu) (aw rfl hu (ai 3) aA) aM (aZ _)) (aI (aP (ai 2))) bf)
  (aI (aP (aL rfl C (gA Z) (hr.mono (show 5<=5+(d+1) by lia)) (ai 0) (ak (aw rfl hu (ai 3) aA) (ak (aY rfl C (B9 d) (hr.mono (by lia)) rfl (ak (ai 0) (ak (aw rfl hu (ai 3) aA) (ak (ai 2) ar)))) ar)))))))
theorem i9:GM P w (bg K cls exc) mg base 5 0 "height" g8:=gm Z.h_ LH (show ("height" : Str)∉bh 0 by decide +kernel) λhr C hu nd =>
 (aB (bM (aL rfl C (sC Z) hr.m (ai 0) (ak (ai 1) ar)))
  (aI (aP (aw rfl hu (bz rfl Z.z_ (ai 0)) (ai 1)))))
theorem Ca:GF P w (bg K cls exc) mg base 6 "turned_left" gH:=gf Z.jp LI λhr C hu nd =>
 (aB (aF (bc gR (bt jy (aL rfl C (i9 Z) hr.m (ai 0) (ak (ai 2) ar)) (aL rfl C (i9 Z) hr.m (ai 0) (ak (ai 1) ar))) aA (aZ _)) (aI (aP (aL rfl C (gA Z) hr.m (ai 0) (ak (ai 1) (ak (ai 2) ar))))) bf)
  (aB (aV (i:=3) nd (aL rfl C (iq Z) hr.m (ai 0) (ak (ai 2) ar)))
  (aB (aV (i:=4) nd (aw rfl hu (ai 3) aA))
  (aB (aV (i:=5) nd (aw rfl hu (ai 3) aA))
  (aB (aF (bc bO (aL rfl C (i9 Z) hr.m (ai 0) (ak (ai 4) ar)) (aL rfl C (i9 Z) hr.m (ai 0) (ak (ai 5) ar)) (aZ _)) (aI (aP (aL rfl C (gA Z) hr.m (ai 0) (ak (aL rfl C (gA Z) hr.m (ai 0) (ak (ai 1) (ak (ai 4) ar))) (ak (ai 5) ar))))) bf)
  (aB (aV (i:=6) nd (aL rfl C (iq Z) hr.m (ai 0) (ak (ai 4) ar)))
  (aI (aP (aL rfl C (gA Z) hr.m (ai 0) (ak (aL rfl C (gA Z) hr.m (ai 0) (ak (ai 1) (ak (aw rfl hu (ai 6) aA) ar))) (ak (aL rfl C (gA Z) hr.m (ai 0) (ak (aw rfl hu (ai 6) aA) (ak (ai 5) ar))) ar)))))))))))
theorem Cb:∀ d,GF P w (bg K cls exc) mg base (6+d+1) "without_first" (f9 d)
 | 0=>gf Z.d_ BM λ_ _ _ _=>dJ
 | d+1=>gf Z.d_ BM λhr C hu nd =>
  (aB (aV (i:=2) nd (aL rfl C (iq Z) (hr.mono (show 4<=6+(d+1) by lia)) (ai 0) (ak (ai 1) ar)))
  (aB (aF (bc (aT rfl hu) (aw rfl hu (ai 2) aA) aM (aZ _)) (aI (aP aA)) bf)
  (aB (aV (i:=3) nd (aY rfl C (Cb d) (hr.mono (by lia)) rfl (ak (ai 0) (ak (aw rfl hu (ai 2) aA) ar))))
  (aB (aF (bc (aT rfl hu) (ai 3) aA (aZ _)) (aI (aP (aw rfl hu (ai 2) aA))) bf)
  (aI (aP (aY rfl C (Ca Z) (hr.mono (show 6<=6+(d+1) by lia)) rfl (ak (ai 0) (ak (ai 3) (ak (aw rfl hu (ai 2) aA) ar))))))))))
theorem Mu:GF P w (bg K cls exc) mg base 6 "turned_right" iJ:=gf Z.g_ LJ λhr C hu nd =>
 (aB (aF (bc gR (bt jy (aL rfl C (i9 Z) hr.m (ai 0) (ak (ai 1) ar)) (aL rfl C (i9 Z) hr.m (ai 0) (ak (ai 2) ar))) aA (aZ _)) (aI (aP (aL rfl C (gA Z) hr.m (ai 0) (ak (ai 1) (ak (ai 2) ar))))) bf)
  (aB (aV (i:=3) nd (aL rfl C (iq Z) hr.m (ai 0) (ak (ai 1) ar)))
  (aB (aV (i:=4) nd (aw rfl hu (ai 3) aA))
  (aB (aV (i:=5) nd (aw rfl hu (ai 3) aA))
  (aB (aF (bc bO (aL rfl C (i9 Z) hr.m (ai 0) (ak (ai 5) ar)) (aL rfl C (i9 Z) hr.m (ai 0) (ak (ai 4) ar)) (aZ _)) (aI (aP (aL rfl C (gA Z) hr.m (ai 0) (ak (ai 4) (ak (aL rfl C (gA Z) hr.m (ai 0) (ak (ai 5) (ak (ai 2) ar))) ar))))) bf)
  (aB (aV (i:=6) nd (aL rfl C (iq Z) hr.m (ai 0) (ak (ai 5) ar)))
  (aI (aP (aL rfl C (gA Z) hr.m (ai 0) (ak (aL rfl C (gA Z) hr.m (ai 0) (ak (ai 4) (ak (aw rfl hu (ai 6) aA) ar))) (ak (aL rfl C (gA Z) hr.m (ai 0) (ak (aw rfl hu (ai 6) aA) (ak (ai 2) ar))) ar)))))))))))
theorem sD:∀ d,GF P w (bg K cls exc) mg base (6+d+1) "linked" (fN d)
 | 0=>gf Z.BT BN λ_ _ _ _=>dJ
 | d+1=>gf Z.BT BN λhr C hu nd =>
  (aB (aV (i:=3) nd (bt jy (aL rfl C (i9 Z) (hr.mono (show 5<=6+(d+1) by lia)) (ai 0) (ak (ai 1) ar)) (aL rfl C (i9 Z) (hr.mono (show 5<=6+(d+1) by lia)) (ai 0) (ak (ai 2) ar))))
  (aB (aF (bc eu (ai 3) aA (aZ _)) (aB (aV (i:=4) nd (aL rfl C (iq Z) (hr.mono (show 4<=6+(d+1) by lia)) (ai 0) (ak (ai 1) ar)))
  (aI (aP (aY rfl C (Ca Z) (hr.mono (show 6<=6+(d+1) by lia)) rfl (ak (ai 0) (ak (aw rfl hu (ai 4) aA) (ak (aY rfl C (sD d) (hr.mono (by lia)) rfl (ak (ai 0) (ak (aw rfl hu (ai 4) aA) (ak (ai 2) ar)))) ar))))))) bf)
  (aB (aF (bc gR (ai 3) (qw aA) (aZ _)) (aB (aV (i:=4) nd (aL rfl C (iq Z) (hr.mono (show 4<=6+(d+1) by lia)) (ai 0) (ak (ai 2) ar)))
  (aI (aP (aY rfl C (Mu Z) (hr.mono (show 6<=6+(d+1) by lia)) rfl (ak (ai 0) (ak (aY rfl C (sD d) (hr.mono (by lia)) rfl (ak (ai 0) (ak (ai 1) (ak (aw rfl hu (ai 4) aA) ar)))) (ak (aw rfl hu (ai 4) aA) ar))))))) bf)
  (aI (aP (aL rfl C (gA Z) (hr.mono (show 5<=6+(d+1) by lia)) (ai 0) (ak (ai 1) (ak (ai 2) ar))))))))
theorem Mv:GF P w (bg K cls exc) mg base 98 "welded" kg:=gf Z.Ch LM λhr C hu nd =>
 (aB (aV (i:=3) nd (bt (cZ rfl) (aw rfl hu (aL rfl C (iq Z) hr.m (ai 0) (ak (aL rfl C (B6 Z) hr.m (ai 0) (ak (ai 1) ar)) ar)) aA) (aw rfl hu (aL rfl C (iq Z) hr.m (ai 0) (ak (aL rfl C (B8 Z) hr.m (ai 0) (ak (ai 2) ar)) ar)) aA)))
  (aB (aV (i:=4) nd (aY rfl C (B9 Z 90) hr.m rfl (ak (ai 0) (ak (ai 1) (ak (aL rfl C (pM Z) hr.m (ai 0) (ak (ai 3) ar)) ar)))))
  (aB (aV (i:=5) nd (aY rfl C (Cb Z 90) hr.m rfl (ak (ai 0) (ak (ai 2) ar))))
  (aB (aF (bc (aT rfl hu) (ai 5) aA (aZ _)) (aI (aP (ai 4))) bf)
  (aI (aP (aY rfl C (sD Z 90) hr.m rfl (ak (ai 0) (ak (ai 4) (ak (ai 5) ar))))))))))
theorem jU:GF P w (bg K cls exc) mg base 99 "joined" bT:=gf Z.zn LN λhr C hu nd =>
 (aB (bM (aY rfl C (ya Z) hr.m rfl (ak (bt (cZ rfl) (aL rfl C (ia Z) hr.m (ai 0) (ak (ai 1) ar)) (aL rfl C (ia Z) hr.m (ai 0) (ak (ai 2) ar))) ar)))
  (aB (aF (bc (aT rfl hu) (ai 1) aA (aZ _)) (aI (aP (ai 2))) bf)
  (aB (aF (bc (aT rfl hu) (ai 2) aA (aZ _)) (aI (aP (ai 1))) bf)
  (aB (aF (iY rfl (aY rfl C (Mr Z) hr.m rfl (ak (ai 0) (ak (ai 1) (ak (ai 2) ar))))) (aI (aP (aY rfl C (sD Z 90) hr.m rfl (ak (ai 0) (ak (ai 1) (ak (ai 2) ar)))))) bf)
  (aI (aP (aY rfl C (Mv Z) hr.m rfl (ak (ai 0) (ak (ai 1) (ak (ai 2) ar))))))))))
theorem Cc:∀ d,GF P w (bg K cls exc) mg base (99+d+1) "doubled" (fO d)
 | 0=>gf Z.x0 BO λ_ _ _ _=>dJ
 | d+1=>gf Z.x0 BO λhr C hu nd =>
  (aB (aF (bc (aT rfl hu) (ai 2) aA (aZ _)) (aI (aP aA)) bf)
  (aB (aV (i:=3) nd (aY rfl C (Cc d) (hr.mono (by lia)) rfl (ak (ai 0) (ak (ai 1) (ak (bt qv (ai 2) aA) ar)))))
  (aB (aV (i:=4) nd (aY rfl C (jU Z) (hr.mono (show 99<=99+(d+1) by lia)) rfl (ak (ai 0) (ak (ai 3) (ak (ai 3) ar)))))
  (aB (aF (bc (aT rfl hu) (bt j4 (ai 2) aA) aA (aZ _)) (aI (aP (ai 4))) bf)
  (aI (aP (aY rfl C (jU Z) (hr.mono (show 99<=99+(d+1) by lia)) rfl (ak (ai 0) (ak (ai 4) (ak (ai 1) ar))))))))))
theorem Cd:GF P w (bg K cls exc) mg base 165 "repeated" hE:=gf Z.wf LO λhr C hu nd =>
 (aB (aV (i:=3) nd (aL rfl C (ia Z) hr.m (ai 0) (ak (ai 1) ar)))
  (aB (aF (bc gR (ai 2) aA (aZ _)) dJ bf)
  (aB (bM (aY rfl C (ya Z) hr.m rfl (ak (bt iW (ai 3) (ai 2)) ar)))
  (aB (aF (bc (aT rfl hu) (ai 1) aA (aZ _)) (aI (aP aA)) bf)
  (aI (aP (aY rfl C (Cc Z 64) hr.m rfl (ak (ai 0) (ak (ai 1) (ak (ai 2) ar))))))))))
theorem Mw:GF P w (bg K cls exc) mg base 6 "check_gap" rm:=gf Z.t_ LP λhr C hu nd =>
 (aB (aV (i:=3) nd (aL rfl C (ia Z) hr.m (ai 0) (ak (ai 1) ar)))
  (aI (aF (jz (GY bO bO aA (ai 2) (ai 3))) dJ bf)))
theorem sE:∀ d,GF P w (bg K cls exc) mg base (99+d+1) "front_of" (dB d)
 | 0=>gf Z.wT BP λ_ _ _ _=>dJ
 | d+1=>gf Z.wT BP λhr C hu nd =>
  (aB (aF (bc (aT rfl hu) (ai 2) aA (aZ _)) (aI (aP aA)) bf)
  (aB (aF (bc (aT rfl hu) (ai 2) (aL rfl C (ia Z) (hr.mono (show 5<=99+(d+1) by lia)) (ai 0) (ak (ai 1) ar)) (aZ _)) (aI (aP (ai 1))) bf)
  (aB (aV (i:=3) nd (aL rfl C (iq Z) (hr.mono (show 4<=99+(d+1) by lia)) (ai 0) (ak (ai 1) ar)))
  (aB (aF (bc (aT rfl hu) (aw rfl hu (ai 3) aA) aM (aZ _)) (aI (aP (aL rfl C (pM Z) (hr.mono (show 4<=99+(d+1) by lia)) (ai 0) (ak (iF rfl (aw rfl hu (ai 3) aA) i4 (ij (ai 2))) ar)))) bf)
  (aB (aV (i:=4) nd (aL rfl C (ia Z) (hr.mono (show 5<=99+(d+1) by lia)) (ai 0) (ak (aw rfl hu (ai 3) aA) ar)))
  (aB (aF (bc bO (ai 2) (ai 4) (aZ _)) (aI (aP (aY rfl C (sE d) (hr.mono (by lia)) rfl (ak (ai 0) (ak (aw rfl hu (ai 3) aA) (ak (ai 2) ar)))))) bf)
  (aI (aP (aY rfl C (jU Z) (hr.mono (show 99<=99+(d+1) by lia)) rfl (ak (ai 0) (ak (aw rfl hu (ai 3) aA) (ak (aY rfl C (sE d) (hr.mono (by lia)) rfl (ak (ai 0) (ak (aw rfl hu (ai 3) aA) (ak (bt jy (ai 2) (ai 4)) ar)))) ar))))))))))))
theorem sF:∀ d,GF P w (bg K cls exc) mg base (99+d+1) "back_of" (dq d)
 | 0=>gf Z.x_ BQ λ_ _ _ _=>dJ
 | d+1=>gf Z.x_ BQ λhr C hu nd =>
  (aB (aF (bc (aT rfl hu) (ai 2) aA (aZ _)) (aI (aP (ai 1))) bf)
  (aB (aF (bc (aT rfl hu) (ai 2) (aL rfl C (ia Z) (hr.mono (show 5<=99+(d+1) by lia)) (ai 0) (ak (ai 1) ar)) (aZ _)) (aI (aP aA)) bf)
  (aB (aV (i:=3) nd (aL rfl C (iq Z) (hr.mono (show 4<=99+(d+1) by lia)) (ai 0) (ak (ai 1) ar)))
  (aB (aF (bc (aT rfl hu) (aw rfl hu (ai 3) aA) aM (aZ _)) (aI (aP (aL rfl C (pM Z) (hr.mono (show 4<=99+(d+1) by lia)) (ai 0) (ak (iF rfl (aw rfl hu (ai 3) aA) (ij (ai 2)) i4) ar)))) bf)
  (aB (aV (i:=4) nd (aL rfl C (ia Z) (hr.mono (show 5<=99+(d+1) by lia)) (ai 0) (ak (aw rfl hu (ai 3) aA) ar)))
  (aB (aF (bc nJ (ai 2) (ai 4) (aZ _)) (aI (aP (aY rfl C (sF d) (hr.mono (by lia)) rfl (ak (ai 0) (ak (aw rfl hu (ai 3) aA) (ak (bt jy (ai 2) (ai 4)) ar)))))) bf)
  (aI (aP (aY rfl C (jU Z) (hr.mono (show 99<=99+(d+1) by lia)) rfl (ak (ai 0) (ak (aY rfl C (sF d) (hr.mono (by lia)) rfl (ak (ai 0) (ak (aw rfl hu (ai 3) aA) (ak (ai 2) ar)))) (ak (aw rfl hu (ai 3) aA) ar))))))))))))
theorem Ce:GF P w (bg K cls exc) mg base 191 "put_in" i8:=gf Z.AT LQ λhr C hu nd =>
 (aB (aV (i:=4) nd (bt (cZ rfl) (aL rfl C (ia Z) hr.m (ai 0) (ak (ai 1) ar)) (aL rfl C (ia Z) hr.m (ai 0) (ak (ai 3) ar))))
  (aB (bM (aY rfl C (Mw Z) hr.m rfl (ak (ai 0) (ak (ai 1) (ak (ai 2) ar)))))
  (aB (bM (aY rfl C (ya Z) hr.m rfl (ak (ai 4) ar)))
  (aB (aV (i:=5) nd (aY rfl C (jU Z) hr.m rfl (ak (ai 0) (ak (aY rfl C (sE Z 90) hr.m rfl (ak (ai 0) (ak (ai 1) (ak (ai 2) ar)))) (ak (ai 3) ar)))))
  (aI (aP (aY rfl C (jU Z) hr.m rfl (ak (ai 0) (ak (ai 5) (ak (aY rfl C (sF Z 90) hr.m rfl (ak (ai 0) (ak (ai 1) (ak (ai 2) ar)))) ar))))))))))
theorem Mx:GF P w (bg K cls exc) mg base 6 "check_stretch" rn:=gf Z.e_ LR λhr C hu nd =>
 (aB (aV (i:=4) nd (aL rfl C (ia Z) hr.m (ai 0) (ak (ai 1) ar)))
  (aI (aF (jz (HN bO bO bO aA (ai 2) (ai 3) (ai 4))) dJ bf)))
theorem Cf:GF P w (bg K cls exc) mg base 191 "taken_out" jL:=gf Z.u_ LU λhr C hu nd =>
 (aB (bM (aY rfl C (Mx Z) hr.m rfl (ak (ai 0) (ak (ai 1) (ak (ai 2) (ak (ai 3) ar))))))
  (aI (aP (aY rfl C (jU Z) hr.m rfl (ak (ai 0) (ak (aY rfl C (sE Z 90) hr.m rfl (ak (ai 0) (ak (ai 1) (ak (ai 2) ar)))) (ak (aY rfl C (sF Z 90) hr.m rfl (ak (ai 0) (ak (ai 1) (ak (ai 3) ar)))) ar)))))))
theorem My:GF P w (bg K cls exc) mg base 192 "_law_told" mK:=gf Z.wE LV λhr C hu nd =>
 (aB (aV (i:=2) nd (dI rfl C (mY Z) hr.m (ai 0)))
  (aB (aF (bc (aT rfl hu) (aw rfl hu (ai 1) aA) aM (aZ _)) (aI (aP (aY rfl C (BX Z) hr.m rfl (ak (ai 2) (ak (aw rfl hu (ai 1) aA) ar))))) bf)
  (aB (aF (bc (aT rfl hu) (aw rfl hu (ai 1) aA) aM (aZ _)) (aI (aP (aL rfl C (eE Z) hr.m (ai 0) (ak (aw rfl hu (ai 1) aA) ar)))) bf)
  (aB (aF (bc (aT rfl hu) (aw rfl hu (ai 1) aA) aM (aZ _)) (aI (aP (aY rfl C (jU Z) hr.m rfl (ak (ai 2) (ak (aL rfl C (eE Z) hr.m (ai 0) (ak (aw rfl hu (ai 1) aA) ar)) (ak (aL rfl C (eE Z) hr.m (ai 0) (ak (aw rfl hu (ai 1) aA) ar)) ar)))))) bf)
  (aB (aF (bc (aT rfl hu) (aw rfl hu (ai 1) aA) aM (aZ _)) (aI (aP (aY rfl C (Ce Z) hr.m rfl (ak (ai 2) (ak (aL rfl C (eE Z) hr.m (ai 0) (ak (aw rfl hu (ai 1) aA) ar)) (ak (aw rfl hu (ai 1) aA) (ak (aL rfl C (eE Z) hr.m (ai 0) (ak (aw rfl hu (ai 1) aA) ar)) ar))))))) bf)
  (aB (aF (bc (aT rfl hu) (aw rfl hu (ai 1) aA) aM (aZ _)) (aI (aP (aY rfl C (Cf Z) hr.m rfl (ak (ai 2) (ak (aL rfl C (eE Z) hr.m (ai 0) (ak (aw rfl hu (ai 1) aA) ar)) (ak (aw rfl hu (ai 1) aA) (ak (aw rfl hu (ai 1) aA) ar))))))) bf)
  (aI (aP (aY rfl C (Cd Z) hr.m rfl (ak (ai 2) (ak (aL rfl C (eE Z) hr.m (ai 0) (ak (aw rfl hu (ai 1) aA) ar)) (ak (aw rfl hu (ai 1) aA) ar))))))))))))
theorem Mz:GM P w (bg K cls exc) mg base 3 1 "copy_of" oA:=gm Z.dL LW (show ("copy_of" : Str)∉bh 1 by decide +kernel) λhr C hu nd =>
 (aB (bM (aY rfl C (BU Z) hr.m rfl (ak (ai 1) ar)))
  (aI (bM (aL rfl C (lO Z) hr.m (ai 0) (ak (ai 1) (ak (aL rfl C (eE Z) hr.m (ai 0) (ak (ai 2) ar)) ar))))))
theorem MA:GM P w (bg K cls exc) mg base 100 1 "join_to" oB:=gm Z.ga LX (show ("join_to" : Str)∉bh 1 by decide +kernel) λhr C hu nd =>
 (aI (bM (aL rfl C (lO Z) hr.m (ai 0) (ak (ai 1) (ak (aY rfl C (jU Z) hr.m rfl (ak (bz rfl Z.A_ (ai 0)) (ak (aL rfl C (eE Z) hr.m (ai 0) (ak (ai 1) ar)) (ak (aL rfl C (eE Z) hr.m (ai 0) (ak (ai 2) ar)) ar)))) ar)))))
theorem MB:GM P w (bg K cls exc) mg base 192 1 "put_into" oC:=gm Z.cr LY (show ("put_into" : Str)∉bh 1 by decide +kernel) λhr C hu nd =>
 (aI (bM (aL rfl C (lO Z) hr.m (ai 0) (ak (ai 1) (ak (aY rfl C (Ce Z) hr.m rfl (ak (bz rfl Z.A_ (ai 0)) (ak (aL rfl C (eE Z) hr.m (ai 0) (ak (ai 1) ar)) (ak (ai 2) (ak (aL rfl C (eE Z) hr.m (ai 0) (ak (ai 3) ar)) ar))))) ar)))))
theorem MC:GM P w (bg K cls exc) mg base 192 1 "take_from" oE:=gm Z.bv LZ (show ("take_from" : Str)∉bh 1 by decide +kernel) λhr C hu nd =>
 (aI (bM (aL rfl C (lO Z) hr.m (ai 0) (ak (ai 1) (ak (aY rfl C (Cf Z) hr.m rfl (ak (bz rfl Z.A_ (ai 0)) (ak (aL rfl C (eE Z) hr.m (ai 0) (ak (ai 1) ar)) (ak (ai 2) (ak (ai 3) ar))))) ar)))))
theorem MD:GM P w (bg K cls exc) mg base 166 1 "repeat" oF:=gm Z.io L0 (show ("repeat" : Str)∉bh 1 by decide +kernel) λhr C hu nd =>
 (aI (bM (aL rfl C (lO Z) hr.m (ai 0) (ak (ai 1) (ak (aY rfl C (Cd Z) hr.m rfl (ak (bz rfl Z.A_ (ai 0)) (ak (aL rfl C (eE Z) hr.m (ai 0) (ak (ai 1) ar)) (ak (ai 2) ar)))) ar)))))
theorem ME:GM P w (bg K cls exc) mg base 3 1 "drop" Am:=gm Z.o_ L5 (show ("drop" : Str)∉bh 1 by decide +kernel) λhr C hu nd =>
 (aB (bM (aL rfl C (eE Z) hr.m (ai 0) (ak (ai 1) ar)))
  (aI (bM (aL rfl C (lO Z) hr.m (ai 0) (ak (ai 1) (ak kT ar))))))
theorem MF:GM P w (bg K cls exc) mg base 2 1 "again" An:=gm Z.i_ L7 (show ("again" : Str)∉bh 1 by decide +kernel) λhr C hu nd =>
 (aB (aF (bc (aT rfl hu) (bz rfl Z.A_ (ai 0)) (df ar) (aZ _)) dJ bf)
  (aB (aV (i:=1) nd (uF rfl M5 Qw Qx (zK) eJ (bz rfl Z.A_ (ai 0))))
  (aB (bM (cx rfl M5 Na Nb (fI) eJ (bz rfl Z.A_ (ai 0)) (ak (ai 1) ar)))
  (aI (bM (aL rfl C (x8 Z) hr.m (ai 0) (ak (aw rfl hu (ai 1) aA) (ak (aw rfl hu (ai 1) aA) ar))))))))
theorem MG:GF P w (bg K cls exc) mg base 193 "_law_do" oG:=gf Z.B_ L8 λhr C hu nd =>
 (aB (aF (bc (aT rfl hu) (aw rfl hu (ai 1) aA) aM (aZ _)) (aI (aP (aL rfl C (BY Z) hr.m (ai 0) (ak (aw rfl hu (ai 1) aA) (ak (aw rfl hu (ai 1) aA) ar))))) bf)
  (aB (aF (bc (aT rfl hu) (aw rfl hu (ai 1) aA) aM (aZ _)) (aI (aP (aL rfl C (Mz Z) hr.m (ai 0) (ak (aw rfl hu (ai 1) aA) (ak (aw rfl hu (ai 1) aA) ar))))) bf)
  (aB (aF (bc (aT rfl hu) (aw rfl hu (ai 1) aA) aM (aZ _)) (aI (aP (aL rfl C (MA Z) hr.m (ai 0) (ak (aw rfl hu (ai 1) aA) (ak (aw rfl hu (ai 1) aA) ar))))) bf)
  (aB (aF (bc (aT rfl hu) (aw rfl hu (ai 1) aA) aM (aZ _)) (aI (aP (aL rfl C (MB Z) hr.m (ai 0) (ak (aw rfl hu (ai 1) aA) (ak (aw rfl hu (ai 1) aA) (ak (aw rfl hu (ai 1) aA) ar)))))) bf)
  (aB (aF (bc (aT rfl hu) (aw rfl hu (ai 1) aA) aM (aZ _)) (aI (aP (aL rfl C (MC Z) hr.m (ai 0) (ak (aw rfl hu (ai 1) aA) (ak (aw rfl hu (ai 1) aA) (ak (aw rfl hu (ai 1) aA) ar)))))) bf)
  (aB (aF (bc (aT rfl hu) (aw rfl hu (ai 1) aA) aM (aZ _)) (aI (aP (aL rfl C (MD Z) hr.m (ai 0) (ak (aw rfl hu (ai 1) aA) (ak (aw rfl hu (ai 1) aA) ar))))) bf)
  (aB (aF (bc (aT rfl hu) (aw rfl hu (ai 1) aA) aM (aZ _)) (aI (aP (aL rfl C (ME Z) hr.m (ai 0) (ak (aw rfl hu (ai 1) aA) ar)))) bf)
  (aB (aF (bc (aT rfl hu) (aw rfl hu (ai 1) aA) aM (aZ _)) (aI (aP (dI rfl C (MF Z) hr.m (ai 0)))) bf)
  (aI (aP (dI rfl C (B5 Z) hr.m (ai 0))))))))))))
theorem MH:GF P w (bg K cls exc) mg base 194 "_law_word" mL:=gf Z.ww L9 λhr C hu nd =>
 (aB (aV (i:=2) nd aM)
  (aB (Il (i:=3) rfl nd rfl rfl rfl rfl rfl Z.cu_NoName Z.cu_NoText Z.cu_NoPlace Z.cu_TooLong Z.cu_NothingDone (λ_ _ Ex2 C2 R2=>(aI (aF (bc uv (aY rfl C2 (MG Z) hr.m rfl (ak (ai 0) (ak (ai 1) ar))) kT (aZ _)) (aI (aV (i:=2) nd aM)) bf))) (λ_ C3=>dJ) (λ_ C3=>dJ) (λ_ C3=>dJ))
  (aI (aP (ai 2)))))
theorem MI {f:Addr} {fd:FuncData} (h4:Fun K "law" "law" sv f fd):FnOk P w K mg base (dA P w) 195 f fd ["script"] (iE (bg K cls exc) uV):=gl (T:=bg K cls exc) h4 Ma λhr C hu nd =>
 (aB (aV (i:=1) nd (uA rfl C (BR Z) hr.m rfl))
  (aB (aV (i:=2) nd (uA rfl C (BR Z) hr.m rfl))
  (aB (aV (i:=3) nd (dI rfl C (mY Z) hr.m (ai 1)))
  (aB (aV (i:=4) nd qA)
  (aB (aF (eB (mh (bc (cH rfl hu) (dI rfl C (lP Z) hr.m (dI rfl C (mY Z) hr.m (ai 2))) aA (aZ _)) (mf (bc (cH rfl hu) (dI rfl C (lP Z) hr.m (ai 3)) aA (aZ _))))) (aI (aP dH)) bf)
  (aB (bM (aL rfl C (BY Z) hr.m (ai 2) (ak aM (ak aM ar))))
  (aB (aV (i:=5) nd (df (ak (dI rfl C (jT Z) hr.m (ai 2)) (ak (aL rfl C (eE Z) hr.m (ai 2) (ak aM ar)) (ak (dI rfl C (lP Z) hr.m (dI rfl C (mY Z) hr.m (ai 2))) ar)))))
  (aB (aF (eB (mh (bc (cH rfl hu) (dI rfl C (lP Z) hr.m (ai 3)) aA (aZ _)) (mf (bc (cH rfl hu) (dI rfl C (jT Z) hr.m (ai 1)) (df ar) (aZ _))))) (aI (aP dH)) bf)
  (aB (nM rfl (Hd (E:=EN) rfl rfl Z.up (bt (cZ rfl) (iF rfl (ai 0) i4 (ij aA)) (df (ak aA (ak aA (ak aA ar)))))) (ux rfl rfl (j5 (i:=6) nd (j5 (i:=7) nd uw))) (aB (aV (i:=8) nd (aY rfl (C.nox) (Mm Z) hr.m rfl (ak (df (ak (ai 7) (ak (ai 6) ar))) (ak aA ar))))
  (aB (zk (aY rfl (C.nox) (Mq Z) hr.m rfl (ak (ai 8) (ak (ai 4) ar))) (ux rfl rfl (j5 (i:=9) nd (j5 (i:=10) nd (j5 (i:=11) nd uw)))))
  (aB (aF (eB (qy (bc (aT rfl hu) (ai 10) aM (aZ _)) (qx (bc (cH rfl hu) (aw rfl hu (ai 9) aA) aM (aZ _))))) (aB (aV (i:=12) nd (gj eu (aY rfl (C.nox) (fV Z) hr.m rfl (ak (ai 8) (ak aA ar))) aA (aZ _)))
  (aB (aV (i:=13) nd kT)
  (aB (aF (iY rfl (ai 12)) (aB (aV (i:=13) nd (aY rfl (C.nox) (My Z) hr.m rfl (ak (ai 1) (ak (ai 9) ar))))
  (aI (bM (aL rfl (C.nox) (pM Z) hr.m (ai 3) (ak (bt (cZ rfl) aM (aw rfl hu aM (aY rfl (C.nox) (fV Z) hr.m rfl (ak (ai 8) (ak aA ar))))) ar))))) bf)
  (aB (aV (i:=14) nd (aY rfl (C.nox) (BZ Z) hr.m rfl (ak (ai 1) (ak (aw rfl hu (ai 9) aA) ar))))
  (aB (aV (i:=15) nd qA)
  (aB (nM rfl (nK (E:=EN) rfl (dI rfl ((C.nox).nox) (jT Z) hr.m (ai 1))) (qC (i:=16) nd) (aI (nQ hu (ai 15) (ai 16) (aL rfl ((C.nox).nox) (eE Z) hr.m (ai 1) (ak (ai 16) ar)))))
  (aB (aF (eB (mh (bc (cH rfl hu) (aY rfl (C.nox) (MH Z) hr.m rfl (ak (ai 1) (ak (ai 9) ar))) aM (aZ _)) (mf (bc (cH rfl hu) (aY rfl (C.nox) (BZ Z) hr.m rfl (ak (ai 1) (ak (aw rfl hu (ai 9) aA) ar))) (ai 14) (aZ _))))) (aI (aP dH)) bf)
  (aB (aF (eB (qy (iY rfl (ai 12)) (qx (bc (cH rfl hu) (aL rfl (C.nox) (eE Z) hr.m (ai 1) (ak (aw rfl hu (ai 9) aA) ar)) (ai 13) (aZ _))))) (aI (aP dH)) bf)
  (aB (aF (eB (qy (bc (aT rfl hu) (aw rfl hu (ai 9) aA) aM (aZ _)) (qx (bc (cH rfl hu) (aL rfl (C.nox) (eE Z) hr.m (ai 1) (ak (aw rfl hu (ai 9) aA) ar)) (aw rfl hu (ai 15) (aw rfl hu (ai 9) aA)) (aZ _))))) (aI (aP dH)) bf)
  (aI (aV (i:=4) nd (ai 11)))))))))))) bf)
  (aB (aV (i:=17) nd (dI rfl (C.nox) (jT Z) hr.m (ai 1)))
  (aB (bM (cx rfl M5 Na Nb (fI) eJ (ai 17) (ak aM ar)))
  (aB (aF (eB (mh (bc (cH rfl hu) (dI rfl (C.nox) (jT Z) hr.m (ai 1)) (iF rfl (ai 17) i4 (ij (qw aA))) (aZ _)) (mf (bc (cH rfl hu) (dI rfl (C.nox) (jT Z) hr.m (ai 1)) (zV rfl rfl Z.zc wG (ai 4)) (aZ _))))) (aI (aP dH)) bf)
  (aB (aF (bc (cH rfl hu) (dI rfl (C.nox) (lP Z) hr.m (ai 3)) (dI rfl (C.nox) (lP Z) hr.m (dI rfl (C.nox) (mY Z) hr.m (ai 1))) (aZ _)) (aI (aP dH)) bf)
  (aI (aF (bc (cH rfl hu) (df (ak (dI rfl (C.nox) (jT Z) hr.m (ai 2)) (ak (aL rfl (C.nox) (eE Z) hr.m (ai 2) (ak aM ar)) (ak (dI rfl (C.nox) (lP Z) hr.m (dI rfl (C.nox) (mY Z) hr.m (ai 2))) ar)))) (ai 5) (aZ _)) (aI (aP dH)) bf))))))))))
  (aI (aP (mn (gj uv (dI rfl C (B5 Z) hr.m (ai 2)) kT (aZ _)) (gT (gj (aT rfl hu) (dI rfl C (jT Z) hr.m (ai 2)) (df ar) (aZ _)))))))))))))))
end
abbrev FX (l:PySem.W.OpenLaw) (w:World) (K:PySem.W.Frag) (mg:Str->Option Value) (fa:Addr):Prop:=∃ fd:FuncData,(∀ (s:Shared) (v:Value),BindsTo s fd ⟨[v],[]⟩ [("script",v)])/\∀ base:Heap,K.In base->base.Ns mainGlobals mg->FnOk l.prog w K mg base (dA l.prog w) 195 fa fd ["script"] (uI K)
theorem all_mk {l:PySem.W.OpenLaw} {w:World} {K:PySem.W.Frag} {h:Heap} {mg:Str->Option Value} {fa C0 C1 Y_NoName Y_NoPlace Y_NoText Y_NothingDone Y_TooLong:Addr} {tk_LEAF_SIGNS tk_NAME_SIGNS tk_MOST_PLAIN tk_MOST_SIGNS:Tok} (X:K.In h) (G:h.Ns mainGlobals mg) (hfa:mg "law" = some (.ref fa))
  (aC0:NA K "Shelf" (some (.ref C0))) (aC1:NA K "House" (some (.ref C1))) (a0:DN K C0 "__init__" "Shelf.__init__" wH) (a1:DN K C1 "__init__" "House.__init__" wI) (a2:DN K C1 "shelf" "House.shelf" wJ) (a5:DN K C1 "set_text" "House.set_text" wL) (a6:DN K C1 "do" "House.do" wM) (a8:DN K C0 "has_piece" "Shelf.has_piece" wO) (a9:DN K C0 "check_piece" "Shelf.check_piece" wQ) (a10:DN K C0 "check_fork" "Shelf.check_fork" wR) (a11:DN K C0 "lay" "Shelf.lay" wU) (a12:DN K C0 "lay_fork" "Shelf.lay_fork" wV) (a13:DN K C0 "fork" "Shelf.fork" wW) (a19:DN K C0 "lay_leaf" "Shelf.lay_leaf" w6) (a20:DN K C0 "leaf" "Shelf.leaf" w8) (a22:DN K C1 "give" "House.give" xb) (a23:DN K C1 "names" "House.names" xf) (a24:DN K C1 "text" "House.text" xg) (a25:DN K C0 "many" "Shelf.many" xh) (a35:DN K C1 "back" "House.back" xp) (a36:DN K C0 "check_text" "Shelf.check_text" xq) (a37:DN K C0 "signs" "Shelf.signs" xr) (a39:DN K C0 "last_leaf" "Shelf.last_leaf" xu) (a40:DN K C0 "first_leaf" "Shelf.first_leaf" xw) (a42:DN K C0 "piece" "Shelf.piece" xy) (a44:DN K C0 "height" "Shelf.height" xB) (a60:DN K C1 "copy_of" "House.copy_of" xS) (a61:DN K C1 "join_to" "House.join_to" xT) (a62:DN K C1 "put_into" "House.put_into" xU) (a63:DN K C1 "take_from" "House.take_from" xV) (a64:DN K C1 "repeat" "House.repeat" xW) (a65:DN K C1 "drop" "House.drop" xX) (a66:DN K C1 "again" "House.again" xY) (a3:DK K "is_name" sf) (a4:DK K "check_name" wK) (a7:DK K "is_whole" wN) (a14:DK K "halved" wX) (a15:DK K "is_plain_sign" wY) (a16:DK K "is_plain" si) (a17:DK K "is_short" wZ) (a18:DK K "ends_in" w4) (a21:DK K "built" sj) (a26:DK K "_law_mixed" xi) (a27:DK K "_law_stream" sr) (a28:DK K "_law_take" xj) (a29:DK K "_law_name" xk) (a30:DK K "_law_plain" xl) (a31:DK K "_law_given" xm) (a32:DK K "_law_changed" xn) (a33:DK K "_law_deed" xo) (a34:DK K "_law_others" su) (a38:DK K "check_length" xt) (a41:DK K "are_close" xx) (a43:DK K "with_last" xA) (a45:DK K "turned_left" xC) (a46:DK K "without_first" xD) (a47:DK K "turned_right" xE) (a48:DK K "linked" xF) (a49:DK K "welded" xG) (a50:DK K "joined" xH) (a51:DK K "doubled" xI) (a52:DK K "repeated" xJ) (a53:DK K "check_gap" xK) (a54:DK K "front_of" xM) (a55:DK K "back_of" xN) (a56:DK K "put_in" xO) (a57:DK K "check_stretch" xP) (a58:DK K "taken_out" xQ) (a59:DK K "_law_told" xR) (a67:DK K "_law_do" xZ) (a68:DK K "_law_word" x6) (a69:DK K "law" sv) (kk0:Cls K C0) (mk0:PySem.W.makesIn K C0=true) (kc0:PySem.W.keepIn K (.ref C0)=true) (nf0_0:FA K C0 "pieces") (nf0_1:FA K C0 "numbers") (nf0_2:FA K C0 "sign_counts") (nf0_3:FA K C0 "end_counts") (nf0_4:FA K C0 "leaf_counts") (nf0_5:FA K C0 "heights") (nf0_6:FA K C0 "first_leaves") (nf0_7:FA K C0 "last_leaves") (kk1:Cls K C1) (mk1:PySem.W.makesIn K C1=true) (kc1:PySem.W.keepIn K (.ref C1)=true) (nf1_0:FA K C1 "own_shelf") (nf1_1:FA K C1 "texts") (nf1_2:FA K C1 "deeds") (nf1_3:FA K C1 "taken_back") (z_abs:NA K "abs" none) (z_all:NA K "all" none) (z_bool:NA K "bool" none) (z_dict:NA K "dict" none) (z_enumerate:NA K "enumerate" none) (z_int:NA K "int" none) (z_isinstance:NA K "isinstance" none) (z_len:NA K "len" none) (z_max:NA K "max" none) (z_min:NA K "min" none) (z_range:NA K "range" none) (z_sorted:NA K "sorted" none) (z_str:NA K "str" none) (z_sum:NA K "sum" none) (e_NoName:NA K "NoName" (some (.ref Y_NoName))) (e_NoPlace:NA K "NoPlace" (some (.ref Y_NoPlace))) (e_NoText:NA K "NoText" (some (.ref Y_NoText))) (e_NothingDone:NA K "NothingDone" (some (.ref Y_NothingDone))) (e_TooLong:NA K "TooLong" (some (.ref Y_TooLong))) (m_LEAF_SIGNS:NA K "LEAF_SIGNS" (some (.int 8 tk_LEAF_SIGNS))) (m_NAME_SIGNS:NA K "NAME_SIGNS" (some (.int 8 tk_NAME_SIGNS))) (m_MOST_PLAIN:NA K "MOST_PLAIN" (some (.int 10000 tk_MOST_PLAIN))) (m_MOST_SIGNS:NA K "MOST_SIGNS" (some (.int 1000000000000000000 tk_MOST_SIGNS)))
  : FX l w K mg fa:=by
 have Z:∀ base:Heap,K.In base->ko l.prog w K (λn=>[C0,C1][n]?) (λn=>[][n]?) mg base:=λbase KB=>{
   E_:=NB X G z_abs,
   Go:=NB X G z_all,
   D_:=NB X G z_bool,
   Db:=NB X G z_dict,
   up:=NB X G z_enumerate,
   Id:=NB X G z_int,
   sw:=NB X G z_isinstance,
   Fa:=NB X G z_len,
   F_:=NB X G z_max,
   H_:=NB X G z_min,
   Cl:=NB X G z_range,
   zc:=NB X G z_sorted,
   Ev:=NB X G z_str,
   G_:=NB X G z_sum,
   sK:=⟨_,NU X G m_LEAF_SIGNS⟩,
   pi:=⟨_,NU X G m_NAME_SIGNS⟩,
   mo:=⟨_,NU X G m_MOST_PLAIN⟩,
   p_:=⟨_,NU X G m_MOST_SIGNS⟩,
   z_:=⟨C0,rfl,kk0,λf hf=>by
   have hf2:f∈bh 0:=hf;simp only [bh,Nd,OD,QO] at hf2
   rcases hf2 with rfl | rfl | rfl | rfl | rfl | rfl | rfl | rfl
   ·exact nf0_0
   ·exact nf0_1
   ·exact nf0_2
   ·exact nf0_3
   ·exact nf0_4
   ·exact nf0_5
   ·exact nf0_6
   ·exact nf0_7⟩,
   A_:=⟨C1,rfl,kk1,λf hf=>by
   have hf2:f∈bh 1:=hf;simp only [bh,Nd,OD,QO] at hf2
   rcases hf2 with rfl | rfl | rfl | rfl
   ·exact nf1_0
   ·exact nf1_1
   ·exact nf1_2
   ·exact nf1_3⟩,
   m_:=di rfl (NU X G aC0) mk0 kc0 a0 fL,
   r_:=di rfl (NU X G aC1) mk1 kc1 a1 fL,
   jr:=dm rfl kk1 a2 fL,
   y_:=dg X G a3 fL,
   ss:=dg X G a4 fL,
   c_:=dm rfl kk1 a5 eC,
   w_:=dm rfl kk1 a6 eC,
   wv:=dg X G a7 fL,
   bn:=dm rfl kk0 a8 dj,
   ac:=dm rfl kk0 a9 dj,
   am:=dm rfl kk0 a10 eC,
   ut:=dm rfl kk0 a11 dj,
   b_:=dm rfl kk0 a12 dj,
   s_:=dm rfl kk0 a13 eC,
   At:=dg X G a14 dj,
   f_:=dg X G a15 fL,
   wr:=dg X G a16 fL,
   wn:=dg X G a17 fL,
   xL:=dg X G a18 fL,
   ci:=dm rfl kk0 a19 dj,
   q_:=dm rfl kk0 a20 dj,
   C_:=dg X G a21 dj,
   sn:=dm rfl kk1 a22 eC,
   lf:=dm rfl kk1 a23 fL,
   ol:=dm rfl kk1 a24 dj,
   sB:=dm rfl kk0 a25 fL,
   u8:=dg X G a26 dj,
   on:=dg X G a27 dj,
   wP:=dg X G a28 dj,
   wS:=dg X G a29 eC,
   v4:=dg X G a30 dj,
   v_:=dg X G a31 dj,
   k_:=dg X G a32 dj,
   xz:=dg X G a33 dj,
   mt:=dg X G a34 dj,
   n_:=dm rfl kk1 a35 fL,
   a_:=dm rfl kk0 a36 dj,
   l_:=dm rfl kk0 a37 dj,
   ii:=dg X G a38 fL,
   bi:=dm rfl kk0 a39 dj,
   bd:=dm rfl kk0 a40 dj,
   v0:=dg X G a41 eC,
   j_:=dm rfl kk0 a42 dj,
   ul:=dg X G a43 eC,
   h_:=dm rfl kk0 a44 dj,
   jp:=dg X G a45 eC,
   d_:=dg X G a46 dj,
   g_:=dg X G a47 eC,
   BT:=dg X G a48 eC,
   Ch:=dg X G a49 eC,
   zn:=dg X G a50 eC,
   x0:=dg X G a51 eC,
   wf:=dg X G a52 eC,
   t_:=dg X G a53 eC,
   wT:=dg X G a54 eC,
   x_:=dg X G a55 eC,
   AT:=dg X G a56 nX,
   e_:=dg X G a57 nX,
   u_:=dg X G a58 nX,
   wE:=dg X G a59 dj,
   dL:=dm rfl kk1 a60 eC,
   ga:=dm rfl kk1 a61 eC,
   cr:=dm rfl kk1 a62 nX,
   bv:=dm rfl kk1 a63 nX,
   io:=dm rfl kk1 a64 eC,
   o_:=dm rfl kk1 a65 dj,
   i_:=dm rfl kk1 a66 fL,
   B_:=dg X G a67 dj,
   ww:=dg X G a68 dj,
   EQ:=dg X G a69 fL,
   cu_NoName:=⟨Y_NoName,NU X G e_NoName,(λc C' h=>match c,C',h with
    | _,_,h=>nomatch h)⟩,
   cu_NoPlace:=⟨Y_NoPlace,NU X G e_NoPlace,(λc C' h=>match c,C',h with
    | _,_,h=>nomatch h)⟩,
   cu_NoText:=⟨Y_NoText,NU X G e_NoText,(λc C' h=>match c,C',h with
    | _,_,h=>nomatch h)⟩,
   cu_NothingDone:=⟨Y_NothingDone,NU X G e_NothingDone,(λc C' h=>match c,C',h with
    | _,_,h=>nomatch h)⟩,
   cu_TooLong:=⟨Y_TooLong,NU X G e_TooLong,(λc C' h=>match c,C',h with
    | _,_,h=>nomatch h)⟩ }
 obtain ⟨fd,h1,F⟩:=uL (p := "script") X G hfa a69 fL;exact ⟨fd,h1,λbase KB _=>FnOk.imp (MI (Z base KB) F) (HJ (T:=bg K (λn=>[C0,C1][n]?) (λn=>[][n]?)) law_true)⟩
theorem walk {l:PySem.W.OpenLaw} {q:Program} {loose:List Str} {XP:(Str->Option Value)->Heap->Prop} {YP:World->Heap->Prop} {d:DefRec} {K:Params->PySem.W.Frag} (hn:l.most=some 63) (hdf:d.params.defaults=[])
  (hY:∀ (w:World) (h:Heap),YP w h->(K w.params).In h)
  (F:∀ (w:World) (mg:Str->Option Value) (fa:Addr) (h:Heap),(K w.params).In h->h.Ns mainGlobals mg->mg d.name=some (.ref fa)->FX l w (K w.params) mg fa) :
  PySem.W.WalkO q loose XP YP l.row.toRowW d [] (λf vs=>PySem.call f vs) :=
 L2.walk_of (n:=63) (k:=195) (x := "script") (CX:=λw=>dA l.prog w) (sp:=λw=>uI (K w.params)) hn (by decide) hdf ⟨rfl,by decide,by decide⟩ hY F (λ_ _ a ns hl _ hS=>⟨a,ns,rfl,hS,hl,λ_=>rfl⟩) λ_ _ _ _ _ z=>HK z
end Sk
open PySem PySem.W PyProof.Rows
section
structure PySem.W.Fast:Prop where(tw14373128056449470039 tw5418947080973414195 tw3463663544218316767 tw17208776947852149535 tw12826394152278029983 tw11597004506179130015 tw12885379864849512959 tw1359891361457605023 tw9239323378873223551 tw17901087179291619647 tw3333096279728895263 tw8003128094212051231 tw593893111860392191 tw3951131761456192735 tw8993208493595031775 tw11324636010595847359 tw2053664787355071647 tw15979619554900036767 tw716182772691967998 tw3195303846931859358 tw17024318206501762878 tw16006847528726344510 tw9177547938120794942 tw7285337375657750302 tw6340259799410262782 tw4426544863107488510 tw2795226845187193566 tw2229164034170562270 tw2552662924558764766 tw15225940451844366942 tw2076551119878572510 tw7903508077737997790 tw3759246373803600318 tw10010372799697916350 tw17344909593041005982 tw11830282840191871326 tw5820414304028718398 tw13381740411173308606 tw857549271136068734 tw11339736415088501886 tw3289681025576343678 tw10391179944090566750 tw11047765674868200510 tw4213016129929005118 tw3645299086152230942 tw11856623406842414110 tw12560493317126545405 tw4981566480017758045 tw10532810200501428061 tw1766193974006073085 tw3304183462776925917 tw16318856168027272861 tw5336315827741798045 tw10593554560147097245 tw10402856376963399293 tw6104389062330666589 tw14685805941503269437 tw1737125257493208637 tw18327846928945679901 tw9691869547355365917 tw6714013289163406845 tw663696981279041789 tw7289194183227570397 tw4219008446875811037 tw8060350635788597437 tw3436716032970222749 tw1567639699568182429 tw3198074435490746461 tw9621798629983306845 tw389663977224302621 tw14823691228635217949 tw357526663823562781 tw9428870089016759228 tw12424147220163899260 tw7613245635570197372 tw14753103780640227132 tw8381562182200628028 tw1885997159646442268 tw11606892054848465660 tw17493692682889884380 tw18013569176240632476 tw15633463277490261628 tw13137608809591286364 tw2085166812454221404 tw3695133576048383516 tw10442089694542747100 tw8221625453758749116 tw3801102939781510556 tw8080804144597706108 tw5926517376770438492 tw4169797902619814204 tw17485033051126758716 tw2177397286078214332 tw17963967057059386524 tw10678703781413238908 tw1108698215992246332 tw10204172967633746972 tw10623208893275992987 tw16661673781937054619 tw3508990393892091707 tw13850171806365051643 tw15684553970022290139 tw16415530238993980091 tw17446729193545730747 tw12227557535268061851 tw1186902308777591419 tw17387088167278132827 tw17197158133726746203 tw6148846733583456795 tw6257953904954907035 tw14028968169877469531 tw10937755184195885371 tw2927356142320075067 tw92208964937089339 tw16681744988195214587 tw13798315455577942203 tw4425737065694788763 tw5941513860230415515 tw11264897209615491195 tw1606996854608943195 tw6928211143075098651 tw6157513980317773851 tw1883327647488318458 tw1956746932173597658 tw17142027998041794458 tw13272390239689525146 tw16128323901203935994 tw13767570386184116986 tw1160822556175691354 tw13686988089226296890 tw9199569517378744890 tw5090593484268595738 tw13036435377966881274 tw4357680211696527866 tw468296125798695386 tw4327299713998186970 tw14326125880348368346 tw8317175006875951546 tw11148744627824836986 tw1380172022714474810 tw11561209929367733498 tw3916801425332290810 tw10154637472140797178 tw4199115068570542330 tw3537213751330609402 tw15417716843779938522 tw4690820966939702490 tw9274595603345438842 tw3627720262075841626 tw13631871579102906426 tw12843395637131577370 tw10232895229852696537 tw13102622089425726329 tw14764660897087357785 tw8669792974973896505 tw1458529208928025 tw8510616296029863609 tw3273622675416414873 tw3725313232547620505 tw15906725712485449337 tw4197728505144079993 tw12944374915373859417 tw16102634752770243097 tw16481375077767704025 tw14755494811582283225 tw18155028361816837561 tw5988360161840135417 tw2719838754676496633 tw11327500764368915705 tw4929628520305843417 tw9686984541188880569 tw6010765996664305785 tw18363523484655858777 tw2653256300654284857 tw16992242751854652473 tw3835062411601776697 tw17874576835191037977 tw1004035095307130872 tw4018006245127338968 tw13785296756205912024 tw5024798383527236536 tw8697848352337613720 tw15464804614439717784 tw1182230070449021848 tw7184557633459354488 tw1500550683387878104 tw15666722496666893016 tw2402811920867105368 tw18205147749989576152 tw16187218011790447832 tw2899354700709480504 tw9144964760882963512 tw11661882370769676312 tw6046266653664471031 tw12931104358094911447 tw7194210366107047863 tw2351096272701189015 tw16667548224965307159 tw14758914895741597463 tw15717265460768573207 tw5398025946525587095 tw16749962924727211671 tw5432804285647410807 tw2237918849175939703 tw11379673072148401719 tw12010100510773097879 tw8675071775628269911 tw10670113533682602103 tw12936754272378381399 tw8789907439960058903 tw12829542482462246935 tw4561523247126974454 tw3797115742613457814 tw6307493693644687254 tw10672234692510469942 tw2351922580143250198 tw6296062294507585206 tw744843451561389750 tw4461141087413677686 tw17451064194968323638 tw13311296537867019702 tw10137367529168804278 tw1468817666543809782 tw319308526684960950 tw11273395391493281974 tw4469511409993932950 tw16876895753322827926 tw11019221273279057014 tw15726351104417312854 tw7422556078607367222 tw18202724722347591734 tw434327197101805557 tw15860547993141899189 tw9612533953311722421 tw12214117207374958485 tw14448517623846574965 tw14865563202097781621 tw12465074813167628117 tw17812526112800234325 tw10262023398849993525 tw7460095496791065333 tw8064036280028567221 tw5360451083045762709 tw5310569555975667349 tw8921090000744216117 tw9561603419770793525 tw16025844187827191317 tw16760359630464447989 tw1527308942093476277 tw7494804827434663317 tw11351217808173823253 tw9807498812166852885 tw6985471016260782325 tw6778823166912315573 tw7607741343620323445 tw12498114068297075829 tw13608886918142788725 tw5946489040376355925 tw5664730346952543317 tw13061836643588028469 tw12857005333721425973 tw2262202358456527893 tw17038538642651414484 tw6749048012645499828 tw5193611049537854388 tw10878000466373145492 tw7729361654222036884 tw2208307446650692468 tw1870987900068050772 tw8646533488827961140 tw12792056374694434580 tw17760530329436441364 tw2360999799113202452 tw15712039251811599124 tw17398501852940162772 tw8712044393570938580 tw16673947676069878420 tw2599330793021582964 tw5133420604742180404 tw11920446716626768436 tw3506218055673110004 tw12684044695633305076 tw13813750640134359540 tw15708504850900532500 tw7420808304304441588 tw7918227168244155636 tw14872698669266302164 tw12329988163003346132 tw6242778023091973300 tw14680075000166676532 tw15419598510253264883 tw928721993936665555 tw17944532342603456467 tw15188497474048434131 tw5381763673486685075 tw9145971399324922739 tw1789144908767489875 tw4449576939550534451 tw3246041542312782579 tw17674624552594610739 tw17117621468623149491 tw14116248981318244723 tw11642890384381432147 tw5549553421024579923 tw17476765850951503187 tw8088015832766630195 tw8989784160626391347 tw8406824523690572019 tw13544683054244446451 tw17473657633646632083 tw11113355007452954707 tw10332439446656454739 tw15657651803897476147 tw16002221139104756690 tw1812186267125431218 tw4505219941004176274 tw2515833374971782034 tw10449960735952905074 tw8223920174260261426 tw7319906715589128722 tw12356751553461103122 tw7081820361451479570 tw12892816770656292242 tw18179617098680377746 tw9950059486264399154 tw12933442040846370098 tw5856126072112934130 tw3347391837284781202 tw1652599576886919314 tw4965761635943132178 tw7154423535612239793 tw14665271816213889969 tw8952956988546885521 tw2370080866497342321 tw14274380701803297585 tw5206971912891448113 tw15387668047891820273 tw9495839459569010385 tw8097043496637003441 tw2876295596508026513 tw17708211354700417681 tw17082575392964080241 tw11164953044501425745 tw13435463764752112209 tw6429471757497658929 tw3880624299736374833 tw4643056726825067025 tw15280658865932662289 tw9065876562692351441 tw1985818058112709041 tw13582975041160807825 tw8949293805558577521 tw14602333374564373841 tw7586771561323059345 tw15716939462155176977 tw7047059824980246512 tw7652924729258502960 tw9800995806915400432 tw7311036635120176848 tw12436777433251378800 tw15297776107939745360 tw2233241512736816624 tw9607542943573750256 tw3762164391294541264 tw14359626206792367536 tw14042551111068757328 tw4577871447104729424 tw15343010583496524080 tw1707230091584888112 tw285200142199088400 tw15773439044873223376 tw16356356551276199024 tw10031272216727985232 tw18228765681976962064 tw15529153201748278191 tw15931960119527537551 tw10075144005040974671 tw8767648642612156207 tw18127231234685433519 tw8254447457282876015 tw17652277029202030191 tw2354702906944815695 tw9481161515443471887 tw17300840985210242543 tw14495096527723296175 tw4225739904958985647 tw4001296499631207855 tw13090617447093414319 tw2271015135185083823 tw9808616937978164623 tw12506501031681808655 tw17705495938053070063 tw18178782081826514159 tw10577059060741767375 tw15889493174228218031 tw3137152505774049423 tw14150007358564679823 tw4186918521033978991 tw17252529624851576911 tw10778700056537154639 tw8405343318739930159 tw6740492011541110831 tw3867655156205067311 tw8613073764218642447 tw5906139253700657134 tw8135509912983416654 tw9127931705440381742 tw7352615212104653614 tw14776444479450320622 tw10607718816724552430 tw7225724897866867406 tw13055814710420542158 tw7107231153576723118 tw7606720220069680814 tw15959643910316376750 tw3881845962360052366 tw10609575006762256014 tw2352984373850269294 tw7900448798437548622 tw18220144956296265262 tw8135363698165538286 tw772274245367416206 tw16485841047116683630 tw14505566990316241230 tw13640163163667188014 tw8716770357691046158 tw4387543587409201358 tw3003143102531828942 tw637327749325789358 tw8414954321359665326 tw9186434089562892430 tw12364366533708535950 tw10955509791113991310 tw1815772999694922830 tw3066478472903969870 tw2417684283187467310 tw17665806397214549006 tw17520159957228793837 tw12311866619027084141 tw10802609050534085485 tw7140042472497748813 tw9521097742457187149 tw11871164701755277101 tw11779760075049368365 tw1178924322663994125 tw13009957777472932525 tw7172163261618562733 tw149783930437478029 tw8000697847262539341 tw11836900948766601805 tw400628356377276973 tw12454281815435871789 tw3161104223460235789 tw4626533092331068909 tw10967495311004683693 tw7050632640554275245 tw7136588731426553197 tw9267589806280086893 tw1426795520453940589 tw16886171495432393805 tw11001045515095392301 tw5434801508255211533 tw8467316388831245292 tw15463262213713198924 tw7415878894035237708 tw14036105130815277900 tw8546931857177871084 tw8828955426698566284 tw617713013307071052 tw14439253367114078796 tw8640485398438695468 tw17313223575467067948 tw2665648622629388844 tw6291975009502652908 tw14198359701645182444 tw9260389451541659116 tw17829068356020087276 tw1485930291105969612 tw11795488040898472396 tw15152623850326983116 tw6884205124138581260 tw3511400982757039308 tw18136897501257763948 tw5487959062517902412 tw6971634950634817580 tw15100568157278297100 tw7212560849965304811 tw5518874831149858763 tw3099874600783702891 tw1794185449857217323 tw959112893572793131 tw118238132282247947 tw15257983900493576875 tw6797390172547941035 tw15933759498117668491 tw12071048711194345067 tw10321747983545262699 tw17058541920195550763 tw14745987366107266507 tw15367382959754014091 tw16203385219035640171 tw13672966894578402635 tw16084122690088455467 tw13914785082343713963 tw12209840511306058891 tw7118474103232509003 tw9896871998953029707 tw7961761916949235755 tw14740713086377982987 tw10928678196481720331 tw6973354225786289130 tw9262344106642727850 tw10546334663610556330 tw14818451155417613130 tw10178889484315901706 tw7580349310720620298 tw8729573586506254058 tw9347540687943203530 tw10552408522378725034 tw9302838058469013130 tw2705314007896888906 tw11202186308308517386 tw12603917332836704682 tw4199812959927200170 tw13229853816441165194 tw1891518344879737226 tw15195688323989707050 tw4618386250972848362 tw16824478925378366666 tw7157704596869166218 tw3846143853609001066 tw5956760393269006378 tw12397675774092093450 tw676251494387662858 tw1930835783010546537 tw15151818448300926793 tw8924090679315869481 tw15875489048816551657 tw424787280830587593 tw17135034908619522729 tw7199541405753532009 tw16674906014652118633 tw2827073111492591113 tw15814589943440282089 tw10255325391781340585 tw11370615409008251177 tw17616182842453523657 tw16357366985040228457 tw860638461422679049 tw6899844062709433353 tw7441961825849052040 tw12666185313130461064 tw15159694989875223400 tw7330619504856648520 tw13657879548156125992 tw12259255460271943432 tw9637462371036358376 tw4086935093946494664 tw4069836585526876840 tw4308878238624505480 tw3933218817613605512 tw7560026906805474920 tw14253439772663148104 tw13845485625339770440 tw5204985921837817416 tw6301686928725367304 tw16090081088879905256 tw17911214325231523304 tw8164293014507871464 tw9239427478377972840 tw13863331392002107464 tw11693025920126483496 tw10813423957439508520 tw2927734951502580711 tw13890827663720246151 tw6050408960707315559 tw14956670982947644231 tw17170822352694694727 tw10983855900184595239 tw2508177069720563463 tw9295321556969118439 tw4563614439736761063 tw14865740185014533831 tw12968932653725908583 tw6104245444176122439 tw8128993977666093607 tw6791473939871774151 tw13525346530948427207 tw14312168173086870983 tw2896313613004800423 tw8985294232977388807 tw10505638644871999687 tw7906379275937894567 tw15173853928726415495 tw8068372984420413575 tw16320493386461305895 tw12954708991125847047 tw2232094765910970246 tw6764330175533263686 tw13120211648735678278 tw15828505207352821382 tw15314809008172397158 tw1857645628240172614 tw7269818710845252134 tw550501640551311846 tw7631388763373014406 tw4682094817447087398 tw14734159954823651558 tw11595853015194251462 tw9146921719183886470 tw13540610575175236742 tw4531251769553534086 tw17088405250857658438 tw4001294595893245990 tw3956457237172452325 tw7484518676573732837 tw15744825860835649509 tw5027431815676238693 tw2177169072245543781 tw5712486191904769861 tw2126169368674094885 tw9211357481394078437 tw15499301557137349253 tw3425938381055427141 tw13262530778626991685 tw9962851355387848133 tw8725761345485067717 tw9250950439199679909 tw5347676999137326373 tw8698547467864594725 tw17442686498417757413 tw9328336314769237157 tw17728242221717695621 tw75002682371439749 tw7996307348556079173 tw16778952180071018565 tw9495672329605188677 tw18051865709451675717 tw13853528587240206373 tw14801097282244146181 tw13724348834434516997 tw6007408894258710533 tw14958920606777130948 tw3385077413998908260 tw7702666113561162500 tw17775554911297781380 tw1579027639144896100 tw16319686997394389604 tw4372131244040415812 tw1942324119618910788 tw11526152540417883588 tw8659902226699116932 tw235554075320990084 tw9912860725778292068 tw7559713286070553924 tw2976508349554466852 tw11570043108683650084 tw4494155247743054819 tw9063723768038892515 tw7691013831983128515 tw1958758932855598947 tw15409781722928650051 tw5427811456783241987 tw7751555810125404867 tw833175639773751971 tw15793796166279578275 tw8400523324545726051 tw1782083977710699107 tw16361568139451007523 tw1857658582664178115 tw6679175762445745603 tw10501513860961944995 tw13159783498957002115 tw15018968444981546339 tw9531723558429309251 tw16619041301597324611 tw17511514667892674787 tw5623096285363554531 tw14629782355976611011 tw12576834575715984579 tw14027621950292119747 tw13045052693137862787 tw1692225936260869251 tw18117353612836083843 tw3386390521713396867 tw14468206987345971299 tw7685654898820363363 tw3152537170575629411 tw15539559426014190691 tw17493548295368831043 tw2271182087871048771 tw7271440369029293123 tw1653522702796922947 tw16274311568727233571 tw3070705725630820387 tw3430057865931577347 tw12579330349455169506 tw14711732434304347010 tw13987116634863209346 tw1897859620750920546 tw17378640253795794658 tw12695202731105285858 tw2245407909910475458 tw4046296558344923810 tw2420144681417504354 tw6495303525380915778 tw6541495924375841282 tw2890307645034428898 tw12415603849452171682 tw13330641593523147138 tw13526197302397302146 tw6793086504532699394 tw7985380311456219266 tw12965550538188145762 tw8441001051204782178 tw3513286203303710786 tw1081073548080128034 tw10949213133046910978 tw15396976356752953281 tw7735834135594188641 tw15968873270143346529 tw17779031584257170241 tw10020542283971112609 tw1009413431173516833 tw3248653864160355713 tw16530354160072105345 tw9529555202227345633 tw13119010376836752577 tw2126716912504774849 tw9170724616922371265 tw8109575075621803137 tw5976452565708797025 tw11016354852688944225 tw15283308570027352161 tw12855830967772895297 tw2306860322744473633 tw10915332469590843328 tw2484527058118251424 tw14509660233929851808 tw15748097104490226560 tw2457564954939552640 tw14593560444643466080 tw10595196091067094752 tw8007128678692802240 tw1514020785028815520 tw4870616966073523840 tw17315829695967276640 tw10331266462304816704 tw3072738447130878528 tw6555235018379091488 tw17607518574521806336 tw11452570885210618240 tw4678020066913378656 tw17427917690052208928 tw10551471557275936000 tw12312120063578453152 tw4753297002929481888 tw9040438910894910592 tw1719488672426019904 tw3477270424376072224 tw16148402126725662752:True)
end
set_option maxRecDepth 100000 in
set_option maxHeartbeats 0 in
theorem PySem.Challenge.cw_skeinwood_k84_house_by_functions_holds : PySem.Challenge.rw_skeinwood_k84_house_by_functions.Holds := by
 w_on; o_law; k_head; (case hw => w_witness2)
 k_fill
 refine Sk.walk (l := PySem.Challenge.rw_skeinwood_k84_house_by_functions) rfl rfl (fun w h Y => PySem.W.kIn_of Y) ?F
 case F =>
  intro w mg fa h KX G hmg;refine' Sk.all_mk KX G hmg ?aC0 ?aC1 ?a0 ?a1 ?a2 ?a5 ?a6 ?a8 ?a9 ?a10 ?a11 ?a12 ?a13 ?a19 ?a20 ?a22 ?a23 ?a24 ?a25 ?a35 ?a36 ?a37 ?a39 ?a40 ?a42 ?a44 ?a60 ?a61 ?a62 ?a63 ?a64 ?a65 ?a66 ?a3 ?a4 ?a7 ?a14 ?a15 ?a16 ?a17 ?a18 ?a21 ?a26 ?a27 ?a28 ?a29 ?a30 ?a31 ?a32 ?a33 ?a34 ?a38 ?a41 ?a43 ?a45 ?a46 ?a47 ?a48 ?a49 ?a50 ?a51 ?a52 ?a53 ?a54 ?a55 ?a56 ?a57 ?a58 ?a59 ?a67 ?a68 ?a69 ?kk0 ?mk0 ?kc0 ?nf0_0 ?nf0_1 ?nf0_2 ?nf0_3 ?nf0_4 ?nf0_5 ?nf0_6 ?nf0_7 ?kk1 ?mk1 ?kc1 ?nf1_0 ?nf1_1 ?nf1_2 ?nf1_3 ?z_abs ?z_all ?z_bool ?z_dict ?z_enumerate ?z_int ?z_isinstance ?z_len ?z_max ?z_min ?z_range ?z_sorted ?z_str ?z_sum ?e_NoName ?e_NoPlace ?e_NoText ?e_NothingDone ?e_TooLong ?m_LEAF_SIGNS ?m_NAME_SIGNS ?m_MOST_PLAIN ?m_MOST_SIGNS
  (case aC0 => apply Sm.na;k_is)
  (case aC1 => apply Sm.na;k_is)
  (case a0 => apply Sm.dn<;>k_is)
  (case a1 => apply Sm.dn<;>k_is)
  (case a2 => apply Sm.dn<;>k_is)
  (case a5 => apply Sm.dn<;>k_is)
  (case a6 => apply Sm.dn<;>k_is)
  (case a8 => apply Sm.dn<;>k_is)
  (case a9 => apply Sm.dn<;>k_is)
  (case a10 => apply Sm.dn<;>k_is)
  (case a11 => apply Sm.dn<;>k_is)
  (case a12 => apply Sm.dn<;>k_is)
  (case a13 => apply Sm.dn<;>k_is)
  (case a19 => apply Sm.dn<;>k_is)
  (case a20 => apply Sm.dn<;>k_is)
  (case a22 => apply Sm.dn<;>k_is)
  (case a23 => apply Sm.dn<;>k_is)
  (case a24 => apply Sm.dn<;>k_is)
  (case a25 => apply Sm.dn<;>k_is)
  (case a35 => apply Sm.dn<;>k_is)
  (case a36 => apply Sm.dn<;>k_is)
  (case a37 => apply Sm.dn<;>k_is)
  (case a39 => apply Sm.dn<;>k_is)
  (case a40 => apply Sm.dn<;>k_is)
  (case a42 => apply Sm.dn<;>k_is)
  (case a44 => apply Sm.dn<;>k_is)
  (case a60 => apply Sm.dn<;>k_is)
  (case a61 => apply Sm.dn<;>k_is)
  (case a62 => apply Sm.dn<;>k_is)
  (case a63 => apply Sm.dn<;>k_is)
  (case a64 => apply Sm.dn<;>k_is)
  (case a65 => apply Sm.dn<;>k_is)
  (case a66 => apply Sm.dn<;>k_is)
  (case a3 => apply Sm.dk<;>k_is)
  (case a4 => apply Sm.dk<;>k_is)
  (case a7 => apply Sm.dk<;>k_is)
  (case a14 => apply Sm.dk<;>k_is)
  (case a15 => apply Sm.dk<;>k_is)
  (case a16 => apply Sm.dk<;>k_is)
  (case a17 => apply Sm.dk<;>k_is)
  (case a18 => apply Sm.dk<;>k_is)
  (case a21 => apply Sm.dk<;>k_is)
  (case a26 => apply Sm.dk<;>k_is)
  (case a27 => apply Sm.dk<;>k_is)
  (case a28 => apply Sm.dk<;>k_is)
  (case a29 => apply Sm.dk<;>k_is)
  (case a30 => apply Sm.dk<;>k_is)
  (case a31 => apply Sm.dk<;>k_is)
  (case a32 => apply Sm.dk<;>k_is)
  (case a33 => apply Sm.dk<;>k_is)
  (case a34 => apply Sm.dk<;>k_is)
  (case a38 => apply Sm.dk<;>k_is)
  (case a41 => apply Sm.dk<;>k_is)
  (case a43 => apply Sm.dk<;>k_is)
  (case a45 => apply Sm.dk<;>k_is)
  (case a46 => apply Sm.dk<;>k_is)
  (case a47 => apply Sm.dk<;>k_is)
  (case a48 => apply Sm.dk<;>k_is)
  (case a49 => apply Sm.dk<;>k_is)
  (case a50 => apply Sm.dk<;>k_is)
  (case a51 => apply Sm.dk<;>k_is)
  (case a52 => apply Sm.dk<;>k_is)
  (case a53 => apply Sm.dk<;>k_is)
  (case a54 => apply Sm.dk<;>k_is)
  (case a55 => apply Sm.dk<;>k_is)
  (case a56 => apply Sm.dk<;>k_is)
  (case a57 => apply Sm.dk<;>k_is)
  (case a58 => apply Sm.dk<;>k_is)
  (case a59 => apply Sm.dk<;>k_is)
  (case a67 => apply Sm.dk<;>k_is)
  (case a68 => apply Sm.dk<;>k_is)
  (case a69 => apply Sm.dk<;>k_is)
  (case kk0 => constructor<;>k_is)
  (case mk0 => k_is)
  (case kc0 => k_is)
  (case nf0_0 => apply Sm.fatt;k_is)
  (case nf0_1 => apply Sm.fatt;k_is)
  (case nf0_2 => apply Sm.fatt;k_is)
  (case nf0_3 => apply Sm.fatt;k_is)
  (case nf0_4 => apply Sm.fatt;k_is)
  (case nf0_5 => apply Sm.fatt;k_is)
  (case nf0_6 => apply Sm.fatt;k_is)
  (case nf0_7 => apply Sm.fatt;k_is)
  (case kk1 => constructor<;>k_is)
  (case mk1 => k_is)
  (case kc1 => k_is)
  (case nf1_0 => apply Sm.fatt;k_is)
  (case nf1_1 => apply Sm.fatt;k_is)
  (case nf1_2 => apply Sm.fatt;k_is)
  (case nf1_3 => apply Sm.fatt;k_is)
  (case z_abs => apply Sm.na;k_is)
  (case z_all => apply Sm.na;k_is)
  (case z_bool => apply Sm.na;k_is)
  (case z_dict => apply Sm.na;k_is)
  (case z_enumerate => apply Sm.na;k_is)
  (case z_int => apply Sm.na;k_is)
  (case z_isinstance => apply Sm.na;k_is)
  (case z_len => apply Sm.na;k_is)
  (case z_max => apply Sm.na;k_is)
  (case z_min => apply Sm.na;k_is)
  (case z_range => apply Sm.na;k_is)
  (case z_sorted => apply Sm.na;k_is)
  (case z_str => apply Sm.na;k_is)
  (case z_sum => apply Sm.na;k_is)
  (case e_NoName => apply Sm.na;k_is)
  (case e_NoPlace => apply Sm.na;k_is)
  (case e_NoText => apply Sm.na;k_is)
  (case e_NothingDone => apply Sm.na;k_is)
  (case e_TooLong => apply Sm.na;k_is)
  (case m_LEAF_SIGNS => apply Sm.na;k_is)
  (case m_NAME_SIGNS => apply Sm.na;k_is)
  (case m_MOST_PLAIN => apply Sm.na;k_is)
  (case m_MOST_SIGNS => apply Sm.na;k_is)
