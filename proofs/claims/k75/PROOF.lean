import PyProof.Rows.All
import Wide.All
import OpenK.AllK
import Wide.FinOn
import Lean
import PyProof.EqAt
import PyProof.EqKinds
import PyProof.TupleCall
import PyProof.StrCalls2
import PyProof.SumAny
import PyProof.Rows.Range3
import PyProof.StrBlockI
import PyProof.SliceStr2
import PyProof.IsRules
import PyProof.StrBlock2
import KE.KRevIter
import PyProof.StrBlock
import PyProof.ZipIter
import PyProof.Rows.SortRuns
import PyProof.Rows.SortShell
import KE.KDictSum
import PyProof.StrLawsIn
import PySem.Challenge.RW_skeinwood_k75_swept_shelves
set_option Elab.async false
set_option linter.all false
set_option maxRecDepth 100000
set_option genSizeOf false
noncomputable section
section
open PySem PySem.Spec PyProof.Rows
def JD:=@List.getElem?_eq_some_iff
def JE:=@Nat.le_refl
def JF:=@List.getElem?_append_left
def JG:=@wpAny_bind
def JH:=@Heap.get?_push_of_some
def JI:=@List.getElem?_set_ne
def JJ:=@if_pos
def JK:=@Nat.le_trans
def JL:=@wpS_bind
def JM:=@if_neg
def JN:=@List.mem_append_left
def JO:=@List.size_toArray
def JP:=@List.append_assoc
def JQ:=@List.mem_append
def JR:=@List.getElem?_set_self
def JS:=@List.map_cons
def JT:=@List.length_append
def JU:=@PySem.F.plainAttrs_list
def JV:=@wpS_pure
def JW:=@List.mem_append_right
def JX:=@Heap.lt_size
def JY:=@List.getElem?_eq_getElem
def JZ:=@Bool.false_ne_true
def J0:=@List.length_map
def J1:=@List.mem_iff_getElem?
def J2:=@wpAny_pure
def J3:=@Option.map_eq_some_iff
def J4:=@PySem.F.slot_list_append
def J5:=@PySem.F.type_list_append
def J6:=@List.length_cons
def J7:=@List.mem_cons_of_mem
def J8:=@List.mem_cons
def J9:=@List.getElem?_append_right
def Ka:=@Nat.lt_of_le_of_lt
def Kb:=@List.mem_of_getElem?
def Kc:=@Heap.get?_push_size
def Kd:=@Nat.lt_of_lt_of_le
def Ke:=@Array.toList_append
def Kf:=@List.mem_singleton
def Kg:=@List.getElem?_drop
def Kh:=@List.getElem?_map
def Ki:=@decide_eq_false
def Kj:=@List.take_append_drop
def Kk:=@Nat.zero_le
def Kl:=@Option.isSome_iff_exists
def Km:=@List.getElem?_take_of_lt
def Kn:=@List.take_of_length_le
def Ko:=@Nat.ne_of_lt
def Kp:=@PySem.W.mg_none_of
def Kq:=@Nat.add_le_add_left
def Kr:=@PyProof.Rows.callWith_type1
def Ks:=@Option.some.inj
def Kt:=@PySem.boot_len
def Ku:=@List.drop_of_length_le
def Kv:=@decide_eq_false_iff_not
def Kw:=@List.length_take
def Kx:=@Array.getElem?_toList
def Kz:=@List.all_eq_true
def KA:=@decide_eq_true_eq
def KC:=@List.mem_cons_self
def KD:=@wpAny_mono
def KF:=@wpS_forRange
def KG:=@PySem.W.kia_one
def KH:=@List.nodup_cons
def KI:=@Array.size_push
def KJ:=@List.length_drop
def KM:=@List.mem_reverse
def KN:=@List.prefix_refl
def KO:=@Array.length_toList
def KP:=@List.perm_append_comm
def KQ:=@Int.le_trans
def KR:=@decide_eq_true
def KS:=@List.find?_cons
def KU:=@List.drop_eq_getElem_cons
def KW:=@List.length_nil
def KY:=@Nat.min_eq_left
def KZ:=@Bool.and_eq_true
def K0:=@List.getElem?_cons_succ
def K1:=@List.mem_of_mem_drop
def K2:=@List.mem_of_mem_take
def K3:=@List.drop_zero
def K4:=@PySem.mem_of_lookup
def K5:=@Bool.eq_iff_iff
def K6:=@List.map_append
def K7:=@List.Perm.append_left
def K8:=@Nat.zero_add
def K9:=@Bool.not_eq_true'
def La:=@List.length_range
def Lb:=@Nat.add_sub_cancel_left
def Lc:=@wpAny_truthy_bool
def Ld:=@Int.le_of_lt
def Le:=@wpAny_holding
def Lf:=@Nat.le_add_right
def Lg:=@List.pairwise_cons
def Lh:=@List.getElem?_eq_none
def Li:=@wpAny_passesOwn
def Lj:=@PySem.typeIs_bool
def Lk:=@List.map_map
def Lm:=@Array.size_append
def Ln:=@Array.all_eq_true_iff_forall_mem
def Lo:=@Array.toList_push
def Lp:=@Array.toList_reverse
def Lq:=@wpS_mono
def Lr:=@Nat.lt_irrefl
def Ls:=@PySem.W.mg_of
def Lu:=@List.map_congr_left
def Lv:=@Heap.SameBut.update
def Lx:=@List.getElem_of_mem
def Ly:=@if_true
def Lz:=@List.drop_drop
def LA:=@List.pairwise_singleton
def LB:=@Int.eq_ofNat_of_zero_le
def LC:=@Int.le_refl
def LD:=@List.take_append_of_le_length
def LF:=@PySem.F.slot_bool_hash
def LG:=@Nat.lt_trans
def LH:=@Nat.add_comm
def LI:=@List.prefix_append
def LJ:=@List.getElem?_take
def LN:=@Nat.add_sub_cancel
def LP:=@List.nil_append
def LQ:=@List.any_cons
def LR:=@Nat.add_assoc
def LV:=@wpAny_callSpecialIfBoundUnlessNone?_slot
def LW:=@List.nodup_append
def LX:=@List.ext_getElem?
def LY:=@wpAny_newObj_type
def LZ:=@List.drop_take
def L4:=@wpS_modify
def L5:=@List.lookup_cons
def L6:=@List.drop_length
def L7:=@List.take_length
def L8:=@wpAny_call_entry
def L9:=@List.pairwise_iff_getElem
def Ma:=@List.filterMap_cons
def Mb:=@List.sum_cons
def Mc:=@PySem.F.slot_list_extend
def Md:=@PySem.F.type_list_extend
def Me:=@List.append_nil
def Mf:=@Nat.not_lt_zero
def Mh:=@Nat.le_add_left
def Mi:=@wpAny_Call_Name_kw
def Mj:=@tupleKind_room_in1
def Ml:=@List.getElem?_replicate
def Mm:=@List.length_eq_zero_iff
def Mn:=@Nat.le_of_lt
def Mo:=@List.mem_map
def Mp:=@Option.isSome_map
def Mq:=@List.nodup_nil
def Mr:=@PyProof.noPylong_small
def Mt:=@List.Perm.append_right
def Mu:=@List.take_take
def Mv:=@List.reverse_perm
def Mw:=@of_decide_eq_true
def Mx:=@PyProof.Rows.slot_tuple_getitem
def My:=@Heap.get?_update_self
def Mz:=@List.length_singleton
def MA:=@List.set_append_right
def MB:=@List.not_mem_nil
def MC:=@PySem.AutoSeq1.wpAny_loadPart'
def MD:=@wpS_get
def ME:=@Array.toList_extract
def MF:=@List.reverse_reverse
def MG:=@List.mem_filter
def MH:=@List.length_set
def MJ:=@Nat.min_le_left
def ML:=@PyProof.Rows.boot_isinstance
def MM:=@Int.emod_nonneg
def MN:=@wpAny_execs_nil
def MO:=@PySem.W.plainGet_of
def MP:=@List.getElem?_range
def MQ:=@List.length_reverse
def MR:=@List.reverse_append
def MS:=@Nat.le_of_eq
def MT:=@List.map_nil
def MU:=@PySem.W.of_hideAll
def MV:=@List.mem_range
def MW:=@Calls.Name_function_global
def MX:=@List.mem_filterMap
def MY:=@List.filterMap_map
def MZ:=@Bool.false_eq_true
def M0:=@Array.getElem?_eq_some_iff
def M1:=@List.take_succ
def M3:=@Bool.not_eq_false'
def M4:=@Array.toList_setIfInBounds
def M5:=@Array.perm_iff_toList_perm
def M6:=@Int.emod_lt_of_pos
def M7:=@wpAny_pyIter_range
def M8:=@PySem.W.kitx_list
def M9:=@Nat.lt_succ_of_lt
def Na:=@Nat.le_succ
def Nb:=@List.getElem?_set
def Nc:=@wpAny_assign_Name
def Nd:=@wpAny_pyIter_list
def Nf:=@PySem.F.args_tuple_add_2
def Ng:=@List.length_erase_of_mem
def Nh:=@Nat.lt_succ_self
def Ni:=@PySem.F.entry_tuple_add
def Nj:=@List.getElem_mem
def Nk:=@wpAny_callSpecial?_slot
def Nl:=@PySem.W.cellsFrom_some
def Nm:=@PySem.F.slot_tuple_add
def Nn:=@Heap.get?_update_other
def Np:=@Calls.callWith_builtin
def Nq:=@List.length_eq_one_iff
def Nr:=@List.set_set
def Nt:=@List.find?_cons_of_neg
def Nu:=@PySem.F.plainAttrs_str
def Nv:=@wpAny_pyNext_range_end
def Nw:=@wpAny_pyIter_rangeiter
def Nx:=@boot_range
def Ny:=@subscriptTail_builtinR
def Nz:=@typeIs_str
def NB:=@codeAny_mono
def NC:=@List.of_mem_zip
def ND:=@List.cons.injEq
def NF:=@List.foldl_cons
def NG:=@Int.natCast_add
def NH:=@wpAny_specialOf
def NI:=@PySem.W.methodCall_KW
def NJ:=@List.dropLast_eq_take
def NK:=@List.Pairwise.sublist
def NL:=@PySem.F.slot_list_pop
def NM:=@PySem.F.type_list_pop
def NO:=@Heap.size_push
def NP:=@Calls.evalArgs_plain
def NQ:=@List.getElem?_of_mem
def NR:=@List.pairwise_append
def NS:=@List.Perm.refl
def NT:=@Bool.and_eq_true_iff
def NU:=@List.getElem?_append
def NV:=@Nat.add_le_add
def NW:=@Nat.add_le_add_right
def NX:=@List.set_append_left
def NY:=@if_false
def NZ:=@wpAny_field
def N5:=@lookup_relabel_local
def N7:=@wpAny_pyIter_revIter
def N8:=@Value.isStrOf_shape
def N9:=@PySem.W.hideAll_get
def Oa:=@PySem.W.callWith_K0
def Ob:=@Int.toNat_of_nonneg
def Oc:=@List.take_add
def Od:=@Int.ofNat.inj
def Oe:=@wpAny_standAt
def Of:=@Calls.spliced_cons
def Og:=@PySem.W.callWith_K
def Oh:=@Int.not_lt
def Oi:=@call_meets
def Oj:=@Value.isInt_shape
def Ol:=@PySem.W.kitx_dict
def Om:=@Calls.spliced_nil
def On:=@List.take_sublist
def Oo:=@Int.ediv_one
def Oq:=@Nat.add_zero
def Os:=@Nat.le_succ_of_le
def Ot:=@List.find?_append
def Ou:=@List.foldl_append
def Ov:=@Nat.lt_trichotomy
def Ow:=@Nat.pow_succ
def Ox:=@Nat.sub_self
def Oy:=@List.take_add_one
def Oz:=@concat_meets
def OA:=@wpAny_sequenceKey
def OB:=@seqIndex_neg
def OC:=@slot_dict_setitem
def OD:=@call_range_3
def OE:=@bne_self_eq_false
def OF:=@Int.neg_sub
def OG:=@wpAny_Name
def OH:=@wpAny_rule
def OI:=@beq_iff_eq
def OJ:=@or_false
end
namespace L2
open PySem PySem.Spec PyProof.Rows
abbrev aH:=Sum Int Str
def jb:aH->Value->Bool
 | .inl k,v=>Value.isInt k v
 | .inr x,v=>Value.isStrOf x v
def kZ (w:World):aH->Int
 | .inl k=>hashInt k
 | .inr x=>hashStr w x
theorem gA:∀ {k:aH} {v:Value},jb k v=true->(∃ i t,k=Sum.inl i/\v=Value.int i t)\/(∃ x t,k=Sum.inr x/\v=Value.str x t)
 | .inl i,v,h=>by
  obtain ⟨t,e⟩:=Oj (k:=i) (v:=v) h
  exact .inl ⟨i,t,rfl,e⟩
 | .inr x,v,h=>by
  obtain ⟨t,e⟩:=N8 (x:=x) (v:=v) h
  exact .inr ⟨x,t,rfl,e⟩
theorem z8 (i:Int) (t:Tok):jb (.inl i) (.int i t)=true:=by simp [jb,Value.isInt]
theorem z9 (x:Str) (t:Tok):jb (.inr x) (.str x t)=true:=by simp [jb,Value.isStrOf]
theorem nR (a b:Int):decide ((Sum.inl a:aH)=Sum.inl b)=(a == b):=by
 by_cases e:a=b
 ·subst e;simp
 ·have h : ¬ (Sum.inl a:aH)=Sum.inl b:=fun q=>e (Sum.inl.inj q)
  rw [Ki h]
  exact (beq_eq_false_iff_ne.mpr e).symm
theorem vE (a b:Str):decide ((Sum.inr a:aH)=Sum.inr b)=decide (a=b):=by
 by_cases e:a=b
 ·subst e;simp
 ·have h : ¬ (Sum.inr a:aH)=Sum.inr b:=fun q=>e (Sum.inr.inj q)
  rw [Ki h,Ki e]
theorem qe (a:Int) (b:Str):decide ((Sum.inl a:aH)=Sum.inr b)=false:=Ki (fun q=>nomatch q)
theorem qf (a:Str) (b:Int):decide ((Sum.inr a:aH)=Sum.inl b)=false:=Ki (fun q=>nomatch q)
def fq (prog:Program) (w:World):PySem.KeyKind prog w aH where
 is:=jb
 hash:=kZ w
 inj:=fun v a b ha hb=>by
  rcases gA ha with ⟨i,t,rfl,rfl⟩ | ⟨x,t,rfl,rfl⟩
  ·rcases gA hb with ⟨j,u,rfl,e⟩ | ⟨y,u,rfl,e⟩
   ·injection e with e1 _;rw [e1]
   ·exact nomatch e
  ·rcases gA hb with ⟨j,u,rfl,e⟩ | ⟨y,u,rfl,e⟩
   ·exact nomatch e
   ·injection e with e1 _;rw [e1]
 byValue:=fun k v h=>by
  rcases gA h with ⟨i,t,rfl,rfl⟩ | ⟨x,t,rfl,rfl⟩<;>rfl
 pyHash:=fun hv h=>by
  rcases gA hv with ⟨i,t,rfl,rfl⟩ | ⟨x,t,rfl,rfl⟩
  ·exact wpAny_pyHash_int h
  ·exact wpAny_pyHash_str h
 eqBool:=fun hu hv h=>by
  rcases gA hu with ⟨i,t,rfl,rfl⟩ | ⟨x,t,rfl,rfl⟩
  ·rcases gA hv with ⟨j,u,rfl,rfl⟩ | ⟨y,u,rfl,rfl⟩
   ·rw [nR] at h;exact wpAny_eqBool_int h
   ·rw [qe] at h;exact SeqAt.EqAt.int_str i t y u _ _ _ _ h
  ·rcases gA hv with ⟨j,u,rfl,rfl⟩ | ⟨y,u,rfl,rfl⟩
   ·rw [qf] at h;exact SeqAt.EqAt.str_int x t j u _ _ _ _ h
   ·rw [vE] at h;exact wpAny_eqBool_str h
 «strs» := fun k x t v h=>by
  rcases gA h with ⟨i,u,rfl,e⟩ | ⟨y,u,rfl,e⟩
  ·exact nomatch e
  ·injection e with e1 _
   subst e1
   cases v<;>rfl
abbrev jc (b:Bool):Int:=if b then 1 else 0
def jd:aH->Value->Bool
 | .inl k,.bool b=>decide (k=jc b)
 | .inl k,v=>Value.isInt k v
 | .inr x,v=>Value.isStrOf x v
theorem fV:∀ {k:aH} {v:Value},jd k v=true->(∃ i t,k=Sum.inl i/\v=Value.int i t)\/(∃ b,k=Sum.inl (jc b)/\v=Value.bool b)\/(∃ x t,k=Sum.inr x/\v=Value.str x t)
 | .inl i,v,h=>by
  cases v with
  | bool b=>exact .inr (.inl ⟨b,by rw [Mw (show decide (i=jc b)=true from h)],rfl⟩)
  | int j t =>
   obtain ⟨t,e⟩:=Oj (k:=i) (v:=.int j t) h
   exact .inl ⟨i,t,rfl,e⟩
  | _=>exact absurd h (by simp [jd,Value.isInt])
 | .inr x,v,h=>by
  obtain ⟨t,e⟩:=N8 (x:=x) (v:=v) h
  exact .inr (.inr ⟨x,t,rfl,e⟩)
theorem Aa {prog:Program} {w:World} {A:Around} {E:Value->Shared->Prop} {s:Shared} {b:Bool} {Q:Int->Shared->Prop} (h:Q (hashInt (jc b)) { s with toks:=s.toks+1 }) :
  wpAny (model prog w) A (pyHash (.bool b)) Q E s:=by
 unfold pyHash
 unfold pyHashByItsType
 have hv:[Value.bool b].any Value.onHeap=false:=rfl
 refine JG ?_
 rw [cRoomFor,JM (by rw [hv];exact JZ)];refine J2 ?_
 refine JG (NH (Lj s b) PySem.F.slot_bool_hash.lookup ?_)
 show wpAny _ _ (if (some (Value.builtin "int.__hash__") == some Value.none)=true then _ else _) Q E s
 rw [JM (by rw [beq_builtin_none];exact JZ)]
 refine JG (NH (Lj s b) PySem.F.slot_bool_hash.lookup ?_)
 show wpAny _ _ (callSpecialIfBoundUnlessNone? (.bool b) "__hash__" _ >>= _) Q E s
 cases b with
 | false =>
  refine JG (LV (Lj s false) LF
   (L8 LF (Lj s false) entry_int_hash
    (show wpAny _ _ (do ret (<- mkInt 0)) _ _ s from wpAny_ret_mkInt ?_) (args_int_hash _)))
  exact J2 h
 | true =>
  refine JG (LV (Lj s true) LF
   (L8 LF (Lj s true) entry_int_hash
    (show wpAny _ _ (do ret (<- mkInt 1)) _ _ s from wpAny_ret_mkInt ?_) (args_int_hash _)))
  exact J2 h
theorem Ab (a b:Bool):(a == b)=decide ((Sum.inl (jc a):aH)=Sum.inl (jc b)):=by cases a<;>cases b<;>decide
def gR (prog:Program) (w:World):PySem.KeyKind prog w aH where
 is:=jd
 hash:=kZ w
 inj:=fun v a b ha hb=>by
  rcases fV ha with ⟨i,t,rfl,rfl⟩ | ⟨c,rfl,rfl⟩ | ⟨x,t,rfl,rfl⟩
  ·rcases fV hb with ⟨j,u,rfl,e⟩ | ⟨d,rfl,e⟩ | ⟨y,u,rfl,e⟩
   ·injection e with e1 _;rw [e1]
   ·exact nomatch e
   ·exact nomatch e
  ·rcases fV hb with ⟨j,u,rfl,e⟩ | ⟨d,rfl,e⟩ | ⟨y,u,rfl,e⟩
   ·exact nomatch e
   ·injection e with e1;rw [e1]
   ·exact nomatch e
  ·rcases fV hb with ⟨j,u,rfl,e⟩ | ⟨d,rfl,e⟩ | ⟨y,u,rfl,e⟩
   ·exact nomatch e
   ·exact nomatch e
   ·injection e with e1 _;rw [e1]
 byValue:=fun k v h=>by
  rcases fV h with ⟨i,t,rfl,rfl⟩ | ⟨c,rfl,rfl⟩ | ⟨x,t,rfl,rfl⟩<;>rfl
 pyHash:=fun hv h=>by
  rcases fV hv with ⟨i,t,rfl,rfl⟩ | ⟨c,rfl,rfl⟩ | ⟨x,t,rfl,rfl⟩
  ·exact wpAny_pyHash_int h
  ·exact Aa h
  ·exact wpAny_pyHash_str h
 eqBool:=fun hu hv h=>by
  rcases fV hu with ⟨i,t,rfl,rfl⟩ | ⟨c,rfl,rfl⟩ | ⟨x,t,rfl,rfl⟩
  ·rcases fV hv with ⟨j,u,rfl,rfl⟩ | ⟨d,rfl,rfl⟩ | ⟨y,u,rfl,rfl⟩
   ·rw [nR] at h;exact wpAny_eqBool_int h
   ·rw [nR] at h;exact SeqAt.EqAt.int_bool i t d _ _ _ _ h
   ·rw [qe] at h;exact SeqAt.EqAt.int_str i t y u _ _ _ _ h
  ·rcases fV hv with ⟨j,u,rfl,rfl⟩ | ⟨d,rfl,rfl⟩ | ⟨y,u,rfl,rfl⟩
   ·rw [nR] at h;exact SeqAt.EqAt.bool_int c j u _ _ _ _ h
   ·rw [<- Ab] at h;exact SeqAt.EqAt.bool_bool c d _ _ _ _ h
   ·rw [qe] at h;exact SeqAt.EqAt.bool_str c y u _ _ _ _ h
  ·rcases fV hv with ⟨j,u,rfl,rfl⟩ | ⟨d,rfl,rfl⟩ | ⟨y,u,rfl,rfl⟩
   ·rw [qf] at h;exact SeqAt.EqAt.str_int x t j u _ _ _ _ h
   ·rw [qf] at h;exact SeqAt.EqAt.str_bool x t d _ _ _ _ h
   ·rw [vE] at h;exact wpAny_eqBool_str h
 «strs» := fun k x t v h=>by
  rcases fV h with ⟨i,u,rfl,e⟩ | ⟨d,rfl,e⟩ | ⟨y,u,rfl,e⟩
  ·exact nomatch e
  ·exact nomatch e
  ·injection e with e1 _
   subst e1
   cases v<;>rfl
theorem Ac (prog:Program) (w:World) (i:Int) (t:Tok):(gR prog w).is (.inl i) (.int i t)=true:=by show jd (.inl i) (.int i t)=true;simp [jd,Value.isInt]
theorem Ad (prog:Program) (w:World) (x:Str) (t:Tok):(gR prog w).is (.inr x) (.str x t)=true:=by show jd (.inr x) (.str x t)=true;simp [jd,Value.isStrOf]
theorem Ae (prog:Program) (w:World) (k:aH) (v:Value):(fq prog w).is k v=jb k v:=rfl
theorem Af (prog:Program) (w:World) (i:Int) (t:Tok):(fq prog w).is (.inl i) (.int i t)=true:=z8 i t
theorem Ag (prog:Program) (w:World) (x:Str) (t:Tok):(fq prog w).is (.inr x) (.str x t)=true:=z9 x t
end L2
namespace L2
open PySem PySem.Spec PyProof.Rows
inductive V where
 | non | bl (b:Bool) | int (i:Int) | str (x:Str) | byt (b:Array UInt8) | flt (b:UInt64) | ref (a:Addr) | ty (n:String)
 deriving DecidableEq
def RelV:V->Value->Prop
 | .non,u=>u=Value.none
 | .bl b,u=>u=Value.bool b
 | .int i,u=>∃ t,u=Value.int i t
 | .str x,u=>∃ t,u=Value.str x t
 | .byt b,u=>∃ t,u=Value.bytes b t
 | .flt b,u=>∃ t,u=Value.float b t
 | .ref a,u=>u=Value.ref a
 | .ty n,u=>u=Value.type n
abbrev Vals:List V->List Value->Prop:=Paired RelV
theorem Vals.length {xs:List V} {us:List Value} (r:Vals xs us):xs.length=us.length:=Paired.length r
theorem Vals.get:∀ {xs:List V} {us:List Value} {i:Nat} {x:V},Vals xs us->xs[i]? = some x->∃ u,us[i]? = some u/\RelV x u
 | _,_,_,_,.nil,e=>by simp at e
 | _,_,0,_,.cons r _,e=>by simp at e;subst e;exact ⟨_,rfl,r⟩
 | _,_,i+1,x,.cons _ t,e=>by
  obtain ⟨u,h1,h2⟩:=Vals.get (i:=i) (x:=x) t (by simpa using e)
  exact ⟨u,by simpa using h1,h2⟩
theorem Vals.set {x:V} {u:Value} (r:RelV x u):∀ {xs:List V} {us:List Value} (i:Nat),Vals xs us->Vals (xs.set i x) (us.set i u)
 | _,_,_,.nil=>.nil
 | _,_,0,.cons _ t=>.cons r t
 | _,_,i+1,.cons q t=>.cons q (Vals.set r i t)
theorem Vals.append:∀ {xs ys:List V} {us ws:List Value},Vals xs us->Vals ys ws->Vals (xs++ys) (us++ws)
 | _,_,_,_,.nil,s=>s
 | _,_,_,_,.cons r t,s=>.cons r (Vals.append t s)
theorem Vals.take:∀ {xs:List V} {us:List Value} (n:Nat),Vals xs us->Vals (xs.take n) (us.take n)
 | _,_,0,_=>.nil
 | _,_,_+1,.nil=>.nil
 | _,_,n+1,.cons r t=>.cons r (Vals.take n t)
theorem Vals.drop:∀ {xs:List V} {us:List Value} (n:Nat),Vals xs us->Vals (xs.drop n) (us.drop n)
 | _,_,0,r=>r
 | _,_,_+1,.nil=>.nil
 | _,_,n+1,.cons _ t=>Vals.drop n t
def RelO:Option V->Option Value->Prop
 | some v,some u=>RelV v u
 | none,none=>True
 | _,_=>False
def KV {κ:Type}:List (κ×V)->List (κ×Value)->Prop:=Paired fun (p:κ×V) (q:κ×Value)=>p.1=q.1/\RelV p.2 q.2
def kV:aH->V
 | .inl i=>.int i
 | .inr x=>.str x
def j4:V->Option aH
 | .int i=>some (.inl i)
 | .bl b=>some (.inl (jc b))
 | .str x=>some (.inr x)
 | _=>none
theorem Ah (k:aH):j4 (kV k)=some k:=by cases k<;>rfl
set_option genInjectivity false in
inductive HO where
 | lst (xs:List V)
 | tup (xs:List V)
 | dK (kvs:List (aH×V)) | dT (xc:Option (List Addr)) (kvs:List (List aH×V))
 | set (S:Int->Bool) (n:Nat)
 | ins (C dx:Addr) (fs:List (Str×V))
 | own (x:Addr)
 | xd (fs:List (Str×V))
 | met (f x:Addr)
 | rng (lo hi:Int)
 | frz (o:Obj) (u:HO)
 | tbl (ps:Array Value)
 | ext (φ:Heap->Prop)
abbrev Hp:=Addr->Option HO
def aK (H:Hp) (a:Addr) (o:HO):Hp:=fun b=>if b=a then some o else H b
theorem dQ {H:Hp} {a:Addr} {o:HO}:aK H a o a=some o:=by unfold aK;rw [JJ rfl]
theorem bL {H:Hp} {a b:Addr} {o:HO} (h:b≠a):aK H a o b=H b:=by unfold aK;rw [JM h]
theorem Ai {H:Hp} {a b:Addr} {o u:HO} (h:H a=some o) (h':H b=some u) (d:o≠u):a≠b:=by
 intro e;subst e;rw [h] at h';exact d (Ks h')
theorem fI {H:Hp} {a b:Addr} {o:HO} (h:H a=some o) (h':H b=none):a≠b:=by
 intro e;subst e;rw [h] at h';cases h'
section
variable (P:Program) (w:World)
def ObjOk (H:Hp) (h:Heap) (a:Addr):HO->Prop
 | .lst xs=>xs.length<=sizeLine/\∃ (its:List Value) (n:Nat),Vals xs its/\h.get? a=some { cls:=.type "list",data:=.seq its.toArray n }
 | .tup xs=>xs.length<=sizeLine/\∃ its:List Value,Vals xs its/\IsTup h a its.toArray
 | .dK kvs=>kvs.length<=sizeLine/\(a == sysModules)=false/\∃ vs,KV kvs vs/\h.DictOf (fq P w) a vs
 | .dT xc kvs=>kvs.length<=sizeLine/\(a == sysModules)=false/\∃ xs:List (List aH×Addr×Value),
   Paired (fun (p:List aH×V) (q:List aH×Addr×Value)=>p.1=q.1/\(∃ ys,H q.2.1=some (.tup ys)/\ys.map j4=p.1.map some)/\RelV p.2 q.2.2) kvs xs /\
   ∃ o es ep,h.get? a=some o/\o.ExactDict/\o.data = .dict es ep/\es.toList=xs.map (entryOfKey (tupleKind (gR P w)))/\(xs.map (·.1)).Nodup/\ep=xs.length/\∀ as,xc=some as->xs.map (·.2.1)=as
 | .set S n=>h.SetOf (intKind P w) a S n
 | .ins C dx fs=>H dx=some (.own a)/\fs.length<=1000/\dx≠a/\h.get? a=some (PySem.W.instObj C dx) /\
   ∃ mA,h.Ns1 dx mA/\(∀ f,RelO (fs.lookup f) (mA f))/\PySem.Within mA (fs.map (·.1))
 | .own _=>∃ o,h.get? a=some o
 | .xd fs=>∃ mA,h.Ns1 a mA/\∀ f,RelO (fs.lookup f) (mA f)
 | .rng lo hi=>∃ t u v,h.get? a=some { cls:=.type "range",data:=.fields #[.int lo t,.int hi u,.int 1 v] }
 | .frz o u=>h.get? a=some o/\ObjOk H h a u
 | .tbl ps=>h.get? a=some { cls:=.none,data:=.fields ps }
 | .met f x=>h.get? a=some (PySem.W.methodObj (.ref f) (.ref x))
 | .ext φ=>φ h/\(∃ o,h.get? a=some o)/\∀ h1 h2:Heap,φ h1->(∀ o,h1.get? a=some o->h2.get? a=some o)->φ h2
def HOk (H:Hp) (h:Heap):Prop:=∀ a o,H a=some o->ObjOk P w H h a o
end
section
variable {P:Program} {w:World} {H H':Hp} {h h':Heap} {a:Addr} {o:HO}
theorem ObjOk.lt (x:ObjOk P w H h a o):a<h.objs.size:=by
 cases o with
 | lst xs=>obtain ⟨_,_,_,_,e⟩:=x;exact JX e
 | tup xs=>obtain ⟨_,_,_,p⟩:=x;exact p.lt
 | dK kvs=>obtain ⟨_,_,_,_,o,_,_,e,_⟩:=x;exact JX e
 | dT xc kvs=>obtain ⟨_,_,_,_,o,_,_,e,_⟩:=x;exact JX e
 | set S n=>obtain ⟨o,_,_,_,e,_⟩:=x;exact JX e
 | ins C dx fs=>obtain ⟨_,_,_,e,_⟩:=x;exact JX e
 | own y=>obtain ⟨_,e⟩:=x;exact JX e
 | xd fs=>obtain ⟨_,⟨_,_,_,e,_⟩,_⟩:=x;exact JX e
 | rng lo hi=>obtain ⟨_,_,_,e⟩:=x;exact JX e
 | frz ob u=>obtain ⟨e,_⟩:=x;exact JX e
 | tbl ps=>exact JX (show h.get? a=some _ from x)
 | met f y=>exact JX (show h.get? a=some _ from x)
 | ext φ=>obtain ⟨_,⟨_,e⟩,_⟩:=x;exact JX e
theorem Paired.mapP {α β:Type} {F G:α->β->Prop}:∀ {l₁:List α} {l₂:List β},Paired F l₁ l₂->(∀ a b,F a b->G a b)->Paired G l₁ l₂
 | _,_,.nil,_=>.nil
 | _,_,.cons r t,f=>.cons (f _ _ r) (Paired.mapP t f)
theorem ObjOk.stay (x:ObjOk P w H h a o) (k:∀ b u,(b=a\/H b=some (.own a))->h.get? b=some u->h'.get? b=some u)
  (ho:∀ b,H b=some (.own a)->H' b=some (.own a)) (ht:∀ b xs,H b=some (.tup xs)->H' b=some (.tup xs)):ObjOk P w H' h' a o:=by
 induction o with
 | lst xs=>obtain ⟨z,its,n,r,e⟩:=x;exact ⟨z,its,n,r,k _ _ (.inl rfl) e⟩
 | tup xs=>obtain ⟨z,its,r,ob,e,c⟩:=x;exact ⟨z,its,r,ob,k _ _ (.inl rfl) e,c⟩
 | dK kvs=>obtain ⟨z,y,vs,r,ob,es,ep,e,c⟩:=x;exact ⟨z,y,vs,r,ob,es,ep,k _ _ (.inl rfl) e,c⟩
 | dT xc kvs =>
  obtain ⟨z,y,xs,r,ob,es,ep,e,c⟩:=x
  exact ⟨z,y,xs,Paired.mapP r fun p q z=>⟨z.1,z.2.1.imp fun _ e=>⟨ht _ _ e.1,e.2⟩,z.2.2⟩,ob,es,ep,k _ _ (.inl rfl) e,c⟩
 | set S n=>obtain ⟨ob,es,ep,t,e,c⟩:=x;exact ⟨ob,es,ep,t,k _ _ (.inl rfl) e,c⟩
 | ins C dx fs =>
  obtain ⟨d,z,ne,e,mA,⟨od,es,ep,e2,c⟩,r⟩:=x
  exact ⟨ho _ d,z,ne,k _ _ (.inl rfl) e,mA,⟨od,es,ep,k _ _ (.inr d) e2,c⟩,r⟩
 | own y=>obtain ⟨ob,e⟩:=x;exact ⟨ob,k _ _ (.inl rfl) e⟩
 | xd fs=>obtain ⟨mA,⟨od,es,ep,e,c⟩,r⟩:=x;exact ⟨mA,⟨od,es,ep,k _ _ (.inl rfl) e,c⟩,r⟩
 | rng lo hi=>obtain ⟨t,u,v,e⟩:=x;exact ⟨t,u,v,k _ _ (.inl rfl) e⟩
 | frz ob u ih=>obtain ⟨e,q⟩:=x;exact ⟨k _ _ (.inl rfl) e,ih q⟩
 | tbl ps =>
  have e:h.get? a=some { cls:=.none,data:=.fields ps }:=x
  show h'.get? a=some { cls:=.none,data:=.fields ps }
  exact k a _ (.inl rfl) e
 | met f y =>
  have e:h.get? a=some (PySem.W.methodObj (.ref f) (.ref y)):=x
  show h'.get? a=some (PySem.W.methodObj (.ref f) (.ref y))
  exact k a _ (.inl rfl) e
 | ext φ=>obtain ⟨p,⟨o,e⟩,st⟩:=x;exact ⟨st _ _ p fun o q=>k _ _ (.inl rfl) q,⟨o,k _ _ (.inl rfl) e⟩,st⟩
theorem HOk.lt (x:HOk P w H h) (e:H a=some o):a<h.objs.size:=(x a o e).lt
theorem HOk.fresh (x:HOk P w H h) (e:h.objs.size<=a):H a=none:=by
 cases q:H a with
 | none=>rfl
 | some u=>exact absurd (Kd (x.lt q) e) (Lr _)
theorem HOk.kept (x:HOk P w H h) (k:∀ b u,h.get? b=some u->h'.get? b=some u):HOk P w H h' := fun a o e =>
 (x a o e).stay (fun b u _ q=>k b u q) (fun _ q=>q) fun _ _ q=>q
theorem HOk.laid (x:HOk P w H h) (k:∀ b u,h.get? b=some u->h'.get? b=some u) (hp:h.objs.size<=a) (new:ObjOk P w (aK H a o) h' a o):HOk P w (aK H a o) h' := fun b u e=>by
 have hn:=x.fresh hp
 by_cases hb:b=a
 ·subst hb;rw [dQ] at e;cases e;exact new
 ·rw [bL hb] at e
  exact (x b u e).stay (fun c v _ q=>k c v q) (fun c q=>by rw [bL (fI q hn)];exact q) fun c xs q=>by rw [bL (fI q hn)];exact q
end
def Rd (H:Hp) (a:Addr) (u:HO):Prop:=H a=some u\/∃ o,H a=some (.frz o u)
theorem Rd.of {H:Hp} {a:Addr} {u:HO} (h:H a=some u):Rd H a u:=.inl h
theorem Rd.ok {P:Program} {w:World} {H:Hp} {h:Heap} {a:Addr} {u:HO} (r:Rd H a u) (x:HOk P w H h):ObjOk P w H h a u:=by
 rcases r with r | ⟨o,r⟩
 ·exact x a u r
 ·obtain ⟨_,q⟩:=x a _ r
  exact q
def k6:Option HO->Prop
 | some (.lst _)=>True
 | some (.dK _)=>True
 | some (.dT _ _)=>True
 | some (.set _ _)=>True
 | some (.ins _ _ _)=>True
 | some (.ext _)=>True
 | _=>False
section
variable {P:Program} {w:World} {H:Hp} {h h':Heap} {x e:Addr} {o':HO}
theorem HOk.write (ok:HOk P w H h) (mu:k6 (H x)) (he:e=x\/H e=some (.own x)) (k:∀ b u,b≠e->h.get? b=some u->h'.get? b=some u) (heo:∃ u,h'.get? e=some u)
  (new:ObjOk P w (aK H x o') h' x o'):HOk P w (aK H x o') h' := fun b u q=>by
 have nown:∀ c y,H c=some (.own y)->c≠x:=fun c y r z=>by subst z;rw [r] at mu;exact mu
 have ntup:∀ c xs,H c=some (.tup xs)->c≠x:=fun c xs r z=>by subst z;rw [r] at mu;exact mu
 by_cases hb:b=x
 ·subst hb;rw [dQ] at q;cases q;exact new
 ·rw [bL hb] at q
  by_cases hbe:b=e
  ·have q':H b=some (.own x):=by
    rcases he with z | z
    ·exact absurd (hbe.trans z) hb
    ·rw [hbe];exact z
   rw [q] at q';cases q'
   obtain ⟨v,hv⟩:=heo
   exact ⟨v,by rw [hbe];exact hv⟩
  ·refine (ok b u q).stay (fun c v hc r=>k c v ?_ r) (fun c r=>by rw [bL (nown c b r)];exact r) fun c xs r=>by rw [bL (ntup c xs r)];exact r
   rcases hc with rfl | hc
   ·exact hbe
   ·rintro rfl
    rcases he with z | z
    ·exact nown c b hc z
    ·rw [hc] at z;cases z;exact hb rfl
end
structure Un (fs ex:List Addr) (H H':Hp) (h h':Heap):Prop where
 keep:∀ b o,h.get? b=some o->H b=none->b∉fs->b∉ex->h'.get? b=some o
 slot:∀ b o,h.get? b=some o->H b=none->b∈fs->b∉ex->∃ sl,h'.get? b=some { o with slots:=sl }
 free:∀ b o,h.get? b=some o->H b=none->b∉ex->H' b=none
 there:∀ b o,h.get? b=some o->b∉ex->∃ o',h'.get? b=some o'
 tups:∀ b xs,H b=some (.tup xs)->H' b=some (.tup xs)
 frzs:∀ b o u,H b=some (.frz o u)->H' b=some (.frz o u)
 tbls:∀ b ps,H b=some (.tbl ps)->∃ more,H' b=some (.tbl (ps++more))
section
variable {fs fs' ex ex':List Addr} {H H1 H2:Hp} {h h1 h2 h':Heap} {a x e:Addr} {o:HO}
theorem Un.any (u:Un fs ex H H1 h h1) {b:Addr} {ob:Obj} (q:h.get? b=some ob) (n:H b=none) (hx:b∉ex):∃ sl,h1.get? b=some { ob with slots:=sl }:=by
 by_cases hb:b∈fs
 ·exact u.slot b ob q n hb hx
 ·exact ⟨ob.slots,u.keep b ob q n hb hx⟩
theorem Un.kept (k:∀ b u,h.get? b=some u->h'.get? b=some u):Un fs ex H H h h' :=
 ⟨fun b ob q _ _ _=>k b ob q,fun b ob q _ _ _=>⟨ob.slots,k b ob q⟩,fun _ _ _ n _=>n,fun b ob q _=>⟨ob,k b ob q⟩,fun _ _ q=>q,fun _ _ _ q=>q,fun _ ps q=>⟨#[],by rw [q];simp⟩⟩
theorem Un.refl:Un fs ex H H h h:=Un.kept fun _ _ q=>q
theorem Un.laid (k:∀ b u,h.get? b=some u->h'.get? b=some u) (hp:h.objs.size<=a) (hn:H a=none):Un fs ex H (aK H a o) h h' where
 keep:=fun b u q _ _ _=>k b u q
 slot:=fun b u q _ _ _=>⟨u.slots,k b u q⟩
 free:=fun b u q n _=>by rw [bL (Ko (Kd (JX q) hp))];exact n
 there:=fun b u q _=>⟨u,k b u q⟩
 tups:=fun b xs q=>by rw [bL (fI q hn)];exact q
 frzs:=fun b u xs q=>by rw [bL (fI q hn)];exact q
 tbls:=fun b ps q=>⟨#[],by rw [bL (fI q hn),q];simp⟩
theorem Un.write (mu:k6 (H x)) (he:e=x\/H e=some (.own x)) (k:∀ b u,b≠e->h.get? b=some u->h'.get? b=some u) (heo:∃ u,h'.get? e=some u):Un fs ex H (aK H x o) h h' := by
 have hx:∀ b,H b=none->b≠x:=fun b n z=>by subst z;rw [n] at mu;exact mu
 have hb:∀ b,H b=none->b≠e:=fun b n z=>by
  subst z
  rcases he with r | r
  ·exact hx b n r
  ·rw [n] at r;cases r
 have hm:∀ b u,H b=some u -> ¬ k6 (some u)->b≠x:=fun b u q nm z=>by subst z;rw [q] at mu;exact nm mu
 refine ⟨fun b u q n _ _=>k b u (hb b n) q,fun b u q n _ _=>⟨u.slots,k b u (hb b n) q⟩,fun b u q n _=>by rw [bL (hx b n)];exact n,fun b u q _=>?_,
  fun b xs q=>by rw [bL (hm b _ q fun z=>z)];exact q,fun b u xs q=>by rw [bL (hm b _ q fun z=>z)];exact q,fun b ps q=>⟨#[],by rw [bL (hm b _ q fun z=>z),q];simp⟩⟩
 by_cases hbe:b=e
 ·subst hbe;exact heo
 ·exact ⟨u,k b u hbe q⟩
end
def nS (h:Heap) (H:Hp):List Addr:=(List.range h.objs.size).filter fun a=>(H a).isSome
def dy (h:Heap) (H:Hp):Heap:=PySem.W.hideAll h (nS h H)
theorem Aj (h:Heap) (H:Hp):(dy h H).objs.size=h.objs.size:=PySem.W.hideAll_size _ _
theorem Ak {h:Heap} {H:Hp} {b:Addr} {o:Obj} (e:h.get? b=some o) (n:H b=none):(dy h H).get? b=some o :=
 N9 _ e fun hm=>by
  have q:(H b).isSome=true:=(MG.mp hm).2
  rw [n] at q;simp at q
theorem Am {h:Heap} {H:Hp} {b:Addr} {o:Obj} (e:(dy h H).get? b=some o):h.get? b=some o/\H b=none:=by
 have e':h.get? b=some o:=MU (nS h H) e
 refine ⟨e',?_⟩
 cases q:H b with
 | none=>rfl
 | some x =>
  have hm:b∈nS h H:=MG.mpr ⟨MV.mpr (JX e'),by simp [q]⟩
  have z:(dy h H).get? b=none:=PySem.W.hideAll_none (nS h H) hm
  rw [z] at e;cases e
end L2
namespace L2
open PySem PySem.Spec PyProof.Rows
structure Mod (K:PySem.W.Frag) (mg:Str->Option Value) (base:Heap):Prop where
 kin:K.In base
 glob:base.Ns mainGlobals mg
 blt:∃ mb,base.Ns builtinsNs mb/\∀ x:Str,x ≠ "__name__" -> mb x=bootBuiltins x
 nolimit:base.NoLimit
set_option genInjectivity false in
structure Cx where
 prog:Program
 w:World
 K:PySem.W.Frag
 mg:Str->Option Value
 base:Heap
 A:Around
 N:List Str
 s₀:Shared
 H₀:Hp
 env:Env
 outer:List Env
 stack:List Env
 ex:List Addr
 fn:Str->Bool
 calm:Bool
 pn:List (Addr×Obj)
 xe:Value->Shared->Prop
def c9 (l:List Env):List Addr:=l.filterMap (·.frame)
abbrev Cx.fs (X:Cx):List Addr:=c9 X.outer
def k8 (sc:Scope) (x:Str):Prop:=sc.names.lookup x=some .local\/sc.names.lookup x=some .cell\/sc.names.lookup x=some .free
def iI (sc:Scope) (x:Str):Prop:=sc.names.lookup x=some .local\/sc.names.lookup x=some .cell
def qg (env:Env) (h:Heap) (m:Str->Option Value) (x:Str) (u:Value):Prop :=
 (env.kindOf x=some .local/\m x=some u)\/((env.kindOf x=some .cell\/env.kindOf x=some .free)/\∃ c,env.cells.lookup x=some c/\h.IsCell c (some u))
structure Cx.Ok (X:Cx):Prop where
 mod:Mod X.K X.mg X.base
 kind:X.env.scope.kind = .function
 glob:X.env.globals=mainGlobals
 blt:X.env.builtins=builtinsNs
 above:X.s₀.heap.objs.size<=X.env.locals
 inj:∀ x y c,X.env.cells.lookup x=some c->X.env.cells.lookup y=some c->x=y
 has:∀ x,(X.env.kindOf x=some .cell\/X.env.kindOf x=some .free)->∃ c,X.env.cells.lookup x=some c
 cab:∀ x c,X.fn x=true->X.env.cells.lookup x=some c->X.s₀.heap.objs.size<=c
 hd:X.calm=true->X.A.handled=none
 frames:X.A.frames=some X.stack
 stk:X.stack=X.outer\/(X.stack=X.env::X.outer/\X.env.frame=some X.env.locals)
 exf:∀ b∈X.ex,b≠X.env.locals/\∀ x c,X.env.cells.lookup x=some c->c≠b
 bs:∀ b o,X.base.get? b=some o->X.s₀.heap.get? b=some o/\X.H₀ b=none
 bsz:X.base.objs.size<=X.s₀.heap.objs.size
 noex:∀ b o,X.base.get? b=some o->b∉X.ex
 exfs:∀ b∈X.ex,b∉X.fs
 funs:X.s₀.heap.FunFrames X.base X.outer
 frf:∀ b∈X.fs,X.H₀ b=none
structure Inv (X:Cx) (pins:List (Addr×Obj)) (σ:List (Option V)) (H:Hp) (s:Shared):Prop where
 ok:X.Ok
 os:s.os=X.s₀.os
 bare:AllBare s.gens
 base:Un X.fs X.ex X.H₀ H X.s₀.heap s.heap
 loc:∃ m,s.heap.Ns X.env.locals m/\∀ (i:Nat) (x:Str) (v:V),X.N[i]? = some x->σ[i]? = some (some v)->k8 X.env.scope x->∃ u,RelV v u/\qg X.env s.heap m x u
 cell:∀ x c,X.env.cells.lookup x=some c->∃ v,s.heap.IsCell c v
 free:H X.env.locals=none
 freeC:∀ x c,X.env.cells.lookup x=some c->H c=none
 pin:∀ p∈X.pn++pins,s.heap.get? p.1=some p.2/\H p.1=none/\p.1≠X.env.locals/\p.1∉X.fs/\∀ v,p.2.data ≠ .cell v
 hok:HOk X.prog X.w H s.heap
 len:σ.length=X.N.length
section
variable {X:Cx} {pins:List (Addr×Obj)} {σ:List (Option V)} {H H':Hp} {s:Shared} {h':Heap}
theorem Cx.Ok.nofr (ok:X.Ok) {b:Addr} {o:Obj} (e:X.base.get? b=some o):b∉X.fs:=fun hb=>by
 have:=(ok.funs.mem hb).1
 rw [e] at this;cases this
theorem Inv.bs (I:Inv X pins σ H s):∀ b o,X.base.get? b=some o->s.heap.get? b=some o/\H b=none:=fun b o e =>
 ⟨I.base.keep b o (I.ok.bs b o e).1 (I.ok.bs b o e).2 (I.ok.nofr e) (I.ok.noex b o e),I.base.free b o (I.ok.bs b o e).1 (I.ok.bs b o e).2 (I.ok.noex b o e)⟩
theorem Inv.bk (I:Inv X pins σ H s):∀ b o,X.base.get? b=some o->s.heap.get? b=some o:=fun b o e=>(I.bs b o e).1
theorem Inv.mod (I:Inv X pins σ H s):Mod X.K X.mg X.base:=I.ok.mod
theorem Inv.kIn (I:Inv X pins σ H s):X.K.In s.heap:=I.ok.mod.kin.keeps I.bk
theorem Inv.fr (I:Inv X pins σ H s):∃ m,Fr X.base X.env.locals s.heap m :=
 let ⟨m,hn,_⟩:=I.loc
 ⟨m,hn,I.bk,JK I.ok.bsz I.ok.above⟩
theorem Inv.lt (I:Inv X pins σ H s):X.env.locals<s.heap.objs.size:=let ⟨_,hn,_⟩:=I.loc;hn.lt
theorem Inv.sz (I:Inv X pins σ H s):X.s₀.heap.objs.size<=s.heap.objs.size:=JK I.ok.above (Mn I.lt)
theorem Inv.nofs (I:Inv X pins σ H s) {a:Addr} (h:s.heap.objs.size<=a):a∉X.fs:=fun hb=>by
 obtain ⟨_,o,ho,_⟩:=I.ok.funs.mem hb
 exact absurd (Kd (JX ho) (JK I.sz h)) (Lr _)
theorem Inv.cne (I:Inv X pins σ H s):∀ x c,X.env.cells.lookup x=some c->c≠X.env.locals:=fun x c e z=>by
 obtain ⟨v,o,ho,hd⟩:=I.cell x c e
 obtain ⟨m,⟨o',es,ep,ho',hd',_⟩,_⟩:=I.loc
 rw [z,ho'] at ho;cases ho;rw [hd'] at hd;cases hd
theorem Inv.funs (I:Inv X pins σ H s):s.heap.FunFrames X.base X.outer:=by
 have all:∀ (l:List Env),(∀ b∈c9 l,b∈X.fs)->X.s₀.heap.FunFrames X.base l->s.heap.FunFrames X.base l:=by
  intro l
  induction l with
  | nil=>intro _ _;trivial
  | cons env r ih =>
   intro hs hl
   obtain ⟨hk,⟨L,o,hf,hn,ho,hd⟩,hr⟩:=hl
   have hL:L∈X.fs:=hs L (by unfold c9;rw [Ma,hf];exact KC)
   obtain ⟨sl,e⟩:=I.base.slot L o ho (I.ok.frf L hL) hL fun z=>I.ok.exfs L z hL
   exact ⟨hk,⟨L,_,hf,hn,e,hd⟩,ih (fun b hb=>hs b (by unfold c9;rw [Ma,hf];exact J7 _ hb)) hr⟩
 exact all X.outer (fun _ hb=>hb) I.ok.funs
theorem Inv.stack (I:Inv X pins σ H s):s.heap.FunFrames X.base X.stack:=by
 rcases I.ok.stk with e | ⟨e,hf⟩
 ·rw [e];exact I.funs
 ·rw [e]
  obtain ⟨m,hn,_⟩:=I.loc
  refine .cons (by rw [I.ok.kind];decide) hf hn ?_ I.funs
  exact Heap.get?_none_of_le (JK I.ok.bsz I.ok.above)
theorem Inv.stkSub (I:Inv X pins σ H s):∀ b∈c9 X.stack,b∈X.env.locals::X.fs:=fun b hb=>by
 rcases I.ok.stk with e | ⟨e,hf⟩
 ·rw [e] at hb;exact J7 _ hb
 ·rw [e] at hb
  unfold c9 at hb
  rw [Ma,hf] at hb
  exact hb
theorem Inv.stkFree (I:Inv X pins σ H s):∀ b∈c9 X.stack,H b=none:=fun b hb=>by
 rcases J8.mp (I.stkSub b hb) with e | hb
 ·rw [e];exact I.free
 ·obtain ⟨_,o,ho,_⟩:=I.ok.funs.mem hb
  exact I.base.free b o ho (I.ok.frf b hb) fun z=>I.ok.exfs b z hb
theorem Inv.step {g':Array GenState} {t':Nat} {d':Drawn} {ch:List Addr} (I:Inv X pins σ H s)
  (hch:∀ b∈ch,(b∈X.ex\/X.s₀.heap.objs.size<=b)/\b≠X.env.locals/\(∀ x c,X.env.cells.lookup x=some c->c≠b)/\∀ p∈X.pn++pins,p.1≠b)
  (keep:∀ b o,b≠X.env.locals->b∉X.fs->b∉ch->s.heap.get? b=some o->H b=none->h'.get? b=some o)
  (slot:∀ b o,b≠X.env.locals->b∈X.fs->b∉ch->s.heap.get? b=some o->H b=none->∃ sl,h'.get? b=some { o with slots:=sl }) (free:∀ b o,b∉ch->s.heap.get? b=some o->H b=none->H' b=none)
  (there:∀ b o,b∉ch->s.heap.get? b=some o->∃ o',h'.get? b=some o')
  (tups:∀ b xs,H b=some (.tup xs)->H' b=some (.tup xs)) (frzs:∀ b o u,H b=some (.frz o u)->H' b=some (.frz o u)) (tbls:∀ b ps,H b=some (.tbl ps)->∃ more,H' b=some (.tbl (ps++more)))
  (ns:∀ m,s.heap.Ns X.env.locals m->h'.Ns X.env.locals m) (hok:HOk X.prog X.w H' h') (hg:AllBare g') :
  Inv X pins σ H' { s with heap:=h',gens:=g',drawn:=d',toks:=t' }:=by
 have neL:∀ b o,X.s₀.heap.get? b=some o->b≠X.env.locals:=fun b o e=>Ko (Kd (JX e) I.ok.above)
 have neC:∀ b o,X.s₀.heap.get? b=some o->b∉X.ex->b∉ch:=fun b o e hx hb=>by
  rcases (hch b hb).1 with z | z
  ·exact hx z
  ·exact absurd (Kd (JX e) z) (Lr _)
 have cellK:∀ x c,X.env.cells.lookup x=some c->∀ v,s.heap.IsCell c v->h'.IsCell c v:=fun x c e v ⟨o,ho,hd⟩=>by
  have nch:c∉ch:=fun z=>(hch c z).2.2.1 x c e rfl
  by_cases hc:c∈X.fs
  ·obtain ⟨sl,q⟩:=slot c o (I.cne x c e) hc nch ho (I.freeC x c e)
   exact ⟨_,q,hd⟩
  ·exact ⟨o,keep c o (I.cne x c e) hc nch ho (I.freeC x c e),hd⟩
 refine ⟨I.ok,I.os,hg,⟨fun b o e n hb hx=>?_,fun b o e n hb hx=>?_,fun b o e n hx=>?_,fun b o e hx=>?_,fun b xs e=>tups b xs (I.base.tups b xs e),fun b o xs e=>frzs b o xs (I.base.frzs b o xs e),fun b ps e=>?_⟩,?_,fun x c e=>?_,?_,fun x c e=>?_,fun p hp=>?_,hok,I.len⟩
 ·exact keep b o (neL b o e) hb (neC b o e hx) (I.base.keep b o e n hb hx) (I.base.free b o e n hx)
 ·obtain ⟨sl,e1⟩:=I.base.slot b o e n hb hx
  obtain ⟨sl',e2⟩:=slot b _ (neL b o e) hb (neC b o e hx) e1 (I.base.free b o e n hx)
  exact ⟨sl',e2⟩
 ·obtain ⟨o',e1⟩:=I.base.there b o e hx
  exact free b o' (neC b o e hx) e1 (I.base.free b o e n hx)
 ·obtain ⟨o',e1⟩:=I.base.there b o e hx
  exact there b o' (neC b o e hx) e1
 ·obtain ⟨m1,e1⟩:=I.base.tbls b ps e
  obtain ⟨m2,e2⟩:=tbls b _ e1
  exact ⟨m1++m2,by rw [e2,Array.append_assoc]⟩
 ·obtain ⟨m,hn,hl⟩:=I.loc
  refine ⟨m,ns m hn,fun i x v e1 e2 e3=>?_⟩
  obtain ⟨u,r,l⟩:=hl i x v e1 e2 e3
  refine ⟨u,r,?_⟩
  rcases l with l | ⟨k,c,e,z⟩
  ·exact .inl l
  ·exact .inr ⟨k,c,e,cellK x c e _ z⟩
 ·obtain ⟨v,z⟩:=I.cell x c e
  exact ⟨v,cellK x c e v z⟩
 ·obtain ⟨m,⟨o,_,_,ho,_⟩,_⟩:=I.loc
  exact free _ o (fun z=>(hch _ z).2.1 rfl) ho I.free
 ·obtain ⟨v,o,ho,hd⟩:=I.cell x c e
  exact free c o (fun z=>(hch c z).2.2.1 x c e rfl) ho (I.freeC x c e)
 ·obtain ⟨e,n,ne,nf,d⟩:=I.pin p hp
  have nch:p.1∉ch:=fun z=>(hch p.1 z).2.2.2 p hp rfl
  exact ⟨keep p.1 p.2 ne nf nch e n,free p.1 p.2 nch e n,ne,nf,d⟩
theorem Inv.un {t':Nat} (I:Inv X pins σ H s) (u:Un X.fs [] H H' s.heap h') (hok:HOk X.prog X.w H' h'):Inv X pins σ H' { s with heap:=h',toks:=t' }:=by
 obtain ⟨m,⟨o,es,ep,ho,r⟩,_⟩:=id I.loc
 obtain ⟨sl,hL⟩:=u.any ho I.free (by simp)
 exact I.step (g' := s.gens) (d' := s.drawn) (ch:=[]) (fun _ z=>nomatch z) (fun b o _ hb _ e n=>u.keep b o e n hb (by simp)) (fun b o _ hb _ e n=>u.slot b o e n hb (by simp)) (fun b o _ e n=>u.free b o e n (by simp)) (fun b o _ e=>u.there b o e (by simp)) u.tups u.frzs u.tbls (fun m' hm=>by
  obtain ⟨o',es',ep',ho',r'⟩:=hm
  rw [ho] at ho';cases ho'
  exact ⟨_,es',ep',hL,r'⟩) hok I.bare
theorem Inv.call {g':Array GenState} {t':Nat} {d':Drawn} {ch:List Addr} (I:Inv X pins σ H s) (u:Un (c9 X.stack) ch H H' s.heap h') (hok:HOk X.prog X.w H' h') (hg:AllBare g')
  (hch:∀ b∈ch,(b∈X.ex\/X.s₀.heap.objs.size<=b)/\b≠X.env.locals/\(∀ x c,X.env.cells.lookup x=some c->c≠b)/\∀ p∈X.pn++pins,p.1≠b) :
  Inv X pins σ H' { s with heap:=h',gens:=g',drawn:=d',toks:=t' }:=by
 obtain ⟨m,⟨o,es,ep,ho,r⟩,_⟩:=id I.loc
 obtain ⟨sl,hL⟩:=u.any ho I.free fun z=>(hch _ z).2.1 rfl
 exact I.step (ch:=ch) hch (fun b o hL hb hc e n=>u.keep b o e n (fun z=>(J8.mp (I.stkSub b z)).elim hL hb) hc) (fun b o _ _ hc e n=>u.any e n hc) (fun b o hc e n=>u.free b o e n hc) (fun b o hc e=>u.there b o e hc) u.tups u.frzs u.tbls (fun m' hm=>by
  obtain ⟨o',es',ep',ho',r'⟩:=hm
  rw [ho] at ho';cases ho'
  exact ⟨_,es',ep',hL,r'⟩) hok hg
theorem Inv.turned {t':Nat} {it:Addr} (I:Inv X pins σ H s) (k:∀ b o,b≠it->s.heap.get? b=some o->h'.get? b=some o) (hn:H it=none) (hL:it≠X.env.locals)
  (h1:it∈X.ex\/X.s₀.heap.objs.size<=it) (h2:∀ x c,X.env.cells.lookup x=some c->c≠it) (h3:∀ p∈X.pn++pins,p.1≠it):Inv X pins σ H { s with heap:=h',toks:=t' }:=by
 have nit:∀ b u,H b=some u->b≠it:=fun b u e z=>by rw [z,hn] at e;cases e
 refine I.step (g' := s.gens) (d' := s.drawn) (ch:=[it]) (fun b hb=>?_) (fun b o _ _ hc e _=>k b o (fun z=>hc (by simp [z])) e) (fun b o _ _ hc e _=>⟨o.slots,k b o (fun z=>hc (by simp [z])) e⟩) (fun _ _ _ _ n=>n)
  (fun b o hc e=>⟨o,k b o (fun z=>hc (by simp [z])) e⟩) (fun _ _ e=>e) (fun _ _ _ e=>e) (fun b ps e=>⟨#[],by rw [e];simp⟩) (fun m hm=>?_) (fun b u e=>?_) I.bare
 ·have e:b=it:=by simpa using hb
  subst e
  exact ⟨h1,hL,h2,h3⟩
 ·obtain ⟨o,es,ep,ho,r⟩:=hm
  exact ⟨o,es,ep,k _ o (Ne.symm hL) ho,r⟩
 ·refine (I.hok b u e).stay (fun c v hc q=>k c v ?_ q) (fun _ q=>q) fun _ _ q=>q
  rcases hc with z | z
  ·rw [z];exact nit b u e
  ·exact nit c _ z
theorem Inv.tok (I:Inv X pins σ H s) (t:Nat):Inv X pins σ H { s with toks:=t }:=I.un (h' := s.heap) (t' := t) Un.refl I.hok
theorem Inv.kept {t':Nat} (I:Inv X pins σ H s) (k:∀ b u,s.heap.get? b=some u->h'.get? b=some u):Inv X pins σ H { s with heap:=h',toks:=t' }:=I.un (Un.kept k) (I.hok.kept k)
theorem Inv.laid {a:Addr} {o:HO} {t':Nat} (I:Inv X pins σ H s) (k:∀ b u,s.heap.get? b=some u->h'.get? b=some u) (hp:s.heap.objs.size<=a) (new:ObjOk X.prog X.w (aK H a o) h' a o) :
  Inv X pins σ (aK H a o) { s with heap:=h',toks:=t' }:=I.un (Un.laid k hp (I.hok.fresh hp)) (I.hok.laid k hp new)
theorem Inv.write {x e:Addr} {o:HO} {t':Nat} (I:Inv X pins σ H s) (mu:k6 (H x)) (he:e=x\/H e=some (.own x)) (k:∀ b u,b≠e->s.heap.get? b=some u->h'.get? b=some u) (heo:∃ u,h'.get? e=some u)
  (new:ObjOk X.prog X.w (aK H x o) h' x o):Inv X pins σ (aK H x o) { s with heap:=h',toks:=t' }:=I.un (Un.write mu he k heo) (I.hok.write mu he k heo new)
theorem Inv.weak {σ':List (Option V)} (I:Inv X pins σ H s) (hl:σ'.length=σ.length) (w:∀ (i:Nat) v,σ'[i]? = some (some v)->σ[i]? = some (some v)):Inv X pins σ' H s :=
 ⟨I.ok,I.os,I.bare,I.base,let ⟨m,hn,hl'⟩:=I.loc;⟨m,hn,fun i x v e1 e2 e3=>hl' i x v e1 (w i v e2) e3⟩,I.cell,I.free,I.freeC,I.pin,I.hok,hl.trans I.len⟩
theorem Inv.pins_of {pins':List (Addr×Obj)} (I:Inv X pins σ H s) (h:∀ p∈pins',s.heap.get? p.1=some p.2/\H p.1=none/\p.1≠X.env.locals/\p.1∉X.fs/\∀ v,p.2.data ≠ .cell v):Inv X pins' σ H s :=
 ⟨I.ok,I.os,I.bare,I.base,I.loc,I.cell,I.free,I.freeC,fun p hp=>(JQ.mp hp).elim (fun z=>I.pin p (JN _ z)) (h p),I.hok,I.len⟩
theorem qh {N:List Str} (hN:N.Nodup) {i j:Nat} {x:Str} (a:N[i]? = some x) (b:N[j]? = some x):i=j:=by
 obtain ⟨h1,e1⟩:=JD.mp a
 obtain ⟨h2,e2⟩:=JD.mp b
 exact (List.getElem_inj hN).mp (e1.trans e2.symm)
theorem vF {M:Model} {A:Around} {E:Value->Shared->Prop} {i:Nat} {x:Str} {v:V} {u:Value} {Q:Unit->Shared->Prop} (I:Inv X pins σ H s) (hN:X.N.Nodup) (hi:X.N[i]? = some x) (hx:iI X.env.scope x) (r:RelV v u)
  (h:∀ s',Inv X pins (σ.set i (some v)) H s'->(∃ a,Heap.SameBut a s.heap s'.heap/\(a=X.env.locals\/X.env.cells.lookup x=some a))->Q () s') (hf:X.fn x=true\/X.env.scope.names.lookup x=some .local:=by first | exact .inl rfl | exact .inr rfl | assumption):wpAny M A (storeName X.env x u) Q E s:=by
 obtain ⟨m,hn,hl⟩:=id I.loc
 have hcls:(X.env.scope.kind == .class || (X.env.scope.kind == .module && X.env.locals != X.env.globals))=false:=by rw [I.ok.kind];rfl
 have hiσ:i<σ.length:=by rw [I.len];exact (JD.mp hi).1
 have cne:=I.cne
 have tracked:∀ {a:Addr} {h':Heap},(∃ o,s.heap.get? a=some o/\H a=none)->Heap.SameBut a s.heap h'->HOk X.prog X.w H h' := fun {a h'} ha hs b ob e=>by
  obtain ⟨_,_,hfree⟩:=ha
  refine (I.hok b ob e).stay (fun c w' hc q=>(hs.2 c ?_).trans q) (fun _ q=>q) fun _ _ q=>q
  rintro rfl
  rcases hc with rfl | hc
  ·rw [hfree] at e;cases e
  ·rw [hfree] at hc;cases hc
 rcases hx with hk | hk
 ·refine wpAny_storeName_local hk hn (fun h' hn' hs=>?_) hcls
  obtain ⟨oL,_,_,hoL,_⟩:=id hn
  refine h _ ⟨I.ok,I.os,I.bare,⟨fun b o e n hb hx=>?_,fun b o e n hb hx=>?_,I.base.free,fun b o e hx=>?_,I.base.tups,I.base.frzs,I.base.tbls⟩,⟨_,hn',fun j y v' e1 e2 e3=>?_⟩,fun y c e=>?_,I.free,I.freeC,fun p hp=>?_,tracked ⟨oL,hoL,I.free⟩ hs,by simpa using I.len⟩ ⟨_,hs,.inl rfl⟩
  ·exact (hs.2 b (Ko (Kd (JX e) I.ok.above))).trans (I.base.keep b o e n hb hx)
  ·obtain ⟨sl,e1⟩:=I.base.slot b o e n hb hx
   exact ⟨sl,(hs.2 b (Ko (Kd (JX e) I.ok.above))).trans e1⟩
  ·obtain ⟨o',e1⟩:=I.base.there b o e hx
   exact ⟨o',(hs.2 b (Ko (Kd (JX e) I.ok.above))).trans e1⟩
  ·by_cases hj:j=i
   ·subst hj
    rw [hi] at e1;cases e1
    rw [JR hiσ] at e2
    cases e2
    exact ⟨u,r,.inl ⟨hk,by simp⟩⟩
   ·rw [JI (Ne.symm hj)] at e2
    obtain ⟨u',r',q⟩:=hl j y v' e1 e2 e3
    refine ⟨u',r',?_⟩
    rcases q with ⟨k,e⟩ | ⟨k,c,e,z⟩
    ·refine .inl ⟨k,?_⟩
     have:y≠x:=fun e=>hj (qh hN e1 (e▸hi))
     simp [this,e]
    ·exact .inr ⟨k,c,e,z.sameBut hs (cne y c e)⟩
  ·obtain ⟨w',z⟩:=I.cell y c e
   exact ⟨w',z.sameBut hs (cne y c e)⟩
  ·obtain ⟨e,n,ne,nf,d⟩:=I.pin p hp
   exact ⟨(hs.2 p.1 ne).trans e,n,ne,nf,d⟩
 ·have hfn:X.fn x=true:=by
   rcases hf with z | z
   ·exact z
   ·rw [z] at hk;cases hk
  obtain ⟨c,hc⟩:=I.ok.has x (.inl hk)
  obtain ⟨w',z⟩:=I.cell x c hc
  refine wpAny_storeName_cell I.ok.kind hk hc z (fun h' hc' hs=>?_)
  obtain ⟨oc,hoc,hocd⟩:=id z
  refine h { s with heap:=h' } ⟨I.ok,I.os,I.bare,⟨fun b o e n hb hx=>?_,fun b o e n hb hx=>?_,I.base.free,fun b o e hx=>?_,I.base.tups,I.base.frzs,I.base.tbls⟩,⟨m,hn.sameBut hs (Ne.symm (cne x c hc)),fun j y v' e1 e2 e3=>?_⟩,fun y c' e=>?_,I.free,I.freeC,fun p hp=>?_,tracked ⟨oc,hoc,I.freeC x c hc⟩ hs,by simpa using I.len⟩ ⟨c,hs,.inr hc⟩
  ·exact (hs.2 b (Ko (Kd (JX e) (I.ok.cab x c hfn hc)))).trans (I.base.keep b o e n hb hx)
  ·obtain ⟨sl,e1⟩:=I.base.slot b o e n hb hx
   exact ⟨sl,(hs.2 b (Ko (Kd (JX e) (I.ok.cab x c hfn hc)))).trans e1⟩
  ·obtain ⟨o',e1⟩:=I.base.there b o e hx
   exact ⟨o',(hs.2 b (Ko (Kd (JX e) (I.ok.cab x c hfn hc)))).trans e1⟩
  ·by_cases hj:j=i
   ·subst hj
    rw [hi] at e1;cases e1
    rw [JR hiσ] at e2
    cases e2
    exact ⟨u,r,.inr ⟨.inl hk,c,hc,hc'⟩⟩
   ·rw [JI (Ne.symm hj)] at e2
    obtain ⟨u',r',q⟩:=hl j y v' e1 e2 e3
    refine ⟨u',r',?_⟩
    rcases q with q | ⟨k,c',e,z'⟩
    ·exact .inl q
    ·refine .inr ⟨k,c',e,z'.sameBut hs ?_⟩
     rintro rfl
     exact hj (qh hN e1 (I.ok.inj _ _ _ e hc▸hi))
  ·by_cases hcc:c'=c
   ·subst hcc;exact ⟨_,hc'⟩
   ·obtain ⟨w2,z2⟩:=I.cell y c' e
    exact ⟨w2,z2.sameBut hs hcc⟩
  ·obtain ⟨e,n,ne,nf,d⟩:=I.pin p hp
   refine ⟨(hs.2 p.1 ?_).trans e,n,ne,nf,d⟩
   intro q
   rw [q,hoc] at e
   have q':oc=p.2:=Ks e
   exact d w' (by rw [<- q'];exact hocd)
theorem qi {M:Model} {A:Around} {E:Value->Shared->Prop} {i:Nat} {x:Str} {v:V} {u:Value} {Q:Unit->Shared->Prop} (I:Inv X pins σ H s) (hN:X.N.Nodup) (hi:X.N[i]? = some x) (hx:iI X.env.scope x) (r:RelV v u)
  (h:∀ s',Inv X pins (σ.set i (some v)) H s'->Q () s') (hf:X.fn x=true\/X.env.scope.names.lookup x=some .local:=by first | exact .inl rfl | exact .inr rfl | assumption):wpAny M A (storeName X.env x u) Q E s :=
 vF I hN hi hx r (fun s' I' _=>h s' I') hf
theorem Inv.call' {s':Shared} {ch:List Addr} (I:Inv X pins σ H s) (ho:s'.os=s.os) (u:Un (c9 X.stack) ch H H' s.heap s'.heap) (hok:HOk X.prog X.w H' s'.heap) (hg:AllBare s'.gens)
  (hch:∀ b∈ch,(b∈X.ex\/X.s₀.heap.objs.size<=b)/\b≠X.env.locals/\(∀ x c,X.env.cells.lookup x=some c->c≠b)/\∀ p∈X.pn++pins,p.1≠b):Inv X pins σ H' s' := by
 obtain ⟨h',g',d',t',o'⟩:=s'
 have e:o'=s.os:=ho
 subst e
 exact I.call (g' := g') (t' := t') (d' := d') u hok hg hch
end
abbrev XK:=Value->Option Addr->Hp->Prop
abbrev St:=List (Option V)
abbrev VK:=V->Hp->Prop
abbrev TE:=St->Hp->VK->Prop
abbrev TT:=St->Hp->(Bool->Hp->Prop)->Prop
abbrev TA:=St->Hp->(List V->Hp->Prop)->Prop
set_option genInjectivity false in
structure cM where
 nx:St->Hp->Prop
 rt:VK
 bk:St->Hp->Prop:=fun _ _=>False
 ct:St->Hp->Prop:=fun _ _=>False
abbrev TS:=cM->St->Hp->Prop
def EP (X:Cx) (pins:List (Addr×Obj)) (σ:St) (Q:VK) (u:Value) (s':Shared):Prop:=∃ v H',Inv X pins σ H' s'/\RelV v u/\Q v H'
def TP (X:Cx) (pins:List (Addr×Obj)) (σ:St) (Q:Bool->Hp->Prop) (b:Bool) (s':Shared):Prop:=∃ H',Inv X pins σ H' s'/\Q b H'
def AP (X:Cx) (pins:List (Addr×Obj)) (σ:St) (Q:List V->Hp->Prop) (us:List Value) (s':Shared):Prop:=∃ vs H',Inv X pins σ H' s'/\Vals vs us/\Q vs H'
def SP (X:Cx) (pins:List (Addr×Obj)) (D:cM) (f:Flow) (s':Shared):Prop :=
 match f with
 | .next=>∃ σ' H',Inv X pins σ' H' s'/\D.nx σ' H'
 | .brk=>∃ σ' H',Inv X pins σ' H' s'/\D.bk σ' H'
 | .cont=>∃ σ' H',Inv X pins σ' H' s'/\D.ct σ' H'
 | .ret u=>∃ v σ' H',Inv X pins σ' H' s'/\RelV v u/\D.rt v H'
def PE (X:Cx) (e:Expr) (t:TE):Prop :=
 ∀ (pins:List (Addr×Obj)) (s:Shared) (σ:St) (H:Hp) (Q:VK),Inv X pins σ H s->t σ H Q->wpAny (model X.prog X.w) X.A (eval e X.env) (EP X pins σ Q) X.xe s
def PT (X:Cx) (e:Expr) (t:TT):Prop :=
 ∀ (pins:List (Addr×Obj)) (s:Shared) (σ:St) (H:Hp) (Q:Bool->Hp->Prop),Inv X pins σ H s->t σ H Q->wpAny (model X.prog X.w) X.A (isTrue e X.env (eval e X.env)) (TP X pins σ Q) X.xe s
def PW (X:Cx) (e:Expr) (t:TT):Prop :=
 ∀ (whole:Sem Value) (pins:List (Addr×Obj)) (s:Shared) (σ:St) (H:Hp) (Q:Bool->Hp->Prop),Inv X pins σ H s->t σ H Q->wpAny (model X.prog X.w) X.A (isTrue e X.env whole) (TP X pins σ Q) X.xe s
theorem PW.pt {X:Cx} {e:Expr} {t:TT} (h:PW X e t):PT X e t:=h _
def PA (X:Cx) (es:List Expr) (t:TA):Prop :=
 ∀ (pos:Pos) (pins:List (Addr×Obj)) (s:Shared) (σ:St) (H:Hp) (Q:List V->Hp->Prop),Inv X pins σ H s->t σ H Q->wpAny (model X.prog X.w) X.A (spliced (backTo pos (starEach es X.env))) (AP X pins σ Q) X.xe s
def PS (X:Cx) (st:Stmt) (t:TS):Prop :=
 ∀ (pins:List (Addr×Obj)) (s:Shared) (σ:St) (H:Hp) (D:cM),Inv X pins σ H s->t D σ H->wpAny (model X.prog X.w) X.A (exec st X.env) (SP X pins D) X.xe s
def ft (X:Cx) (st:List Stmt) (t:TS):Prop :=
 ∀ (pins:List (Addr×Obj)) (s:Shared) (σ:St) (H:Hp) (D:cM),Inv X pins σ H s->t D σ H->wpAny (model X.prog X.w) X.A (execs st X.env) (SP X pins D) X.xe s
theorem thn {α:Type} {t:Sem α} {Q Q':α->Shared->Prop} {M:Model} {A:Around} {E:Value->Shared->Prop} {s:Shared} (h:wpAny M A t Q E s) (hQ:∀ a s,Q a s->Q' a s):wpAny M A t Q' E s:=KD h hQ fun _ _ x=>x
end L2
namespace L2
open PySem PySem.Spec PyProof.Rows
section
variable {X:Cx}
def k9 (i:Nat):TE:=fun σ H Q=>∃ v,σ[i]? = some (some v)/\Q v H
def tC (v:V):TE:=fun _ H Q=>Q v H
theorem An {i:Nat} {x:Str} {pos:Pos} (hN:X.N[i]? = some x) (hv:k8 X.env.scope x) (hd:(x == ("__debug__" : Str))=false:=by decide) (hcd:(x == ("__classdict__" : Str))=false:=by decide):PE X (.Name x pos) (k9 i):=by
 intro pins s σ H Q I h
 obtain ⟨v,e,h⟩:=h
 obtain ⟨m,hn,hl⟩:=I.loc
 obtain ⟨u,r,l⟩:=hl i x v hN e hv
 have fin:EP X pins σ Q u s:=⟨v,H,I,r,h⟩
 rcases l with ⟨hk,hm⟩ | ⟨hk,c,hc,hcell⟩
 ·exact OG (wpAny_loadName_local I.ok.kind hk hn hm fin) hd
 ·rcases hk with hk | hk
  ·exact OG (wpAny_loadName_cell I.ok.kind hk hc hcell fin) hd
  ·exact OG (wpAny_loadName_free I.ok.kind hk hc hcell fin hcd) hd
theorem Ao {i j pos}:PE X (.Constant (.int i) j pos) (tC (.int i)):=fun _ _ _ H _ I h=>wpAny_Constant_int ⟨.int i,H,I.tok _,⟨_,rfl⟩,h⟩
theorem Ap {b j pos}:PE X (.Constant (.bool b) j pos) (tC (.bl b)):=fun _ _ _ H _ I h=>Constant_bool ⟨.bl b,H,I,rfl,h⟩
theorem Aq {x j pos}:PE X (.Constant (.str x) j pos) (tC (.str x)):=fun _ _ _ H _ I h=>Calls.Constant_str ⟨.str x,H,I.tok _,⟨_,rfl⟩,h⟩
def Gl (X:Cx) (x:Str):Prop:=X.env.kindOf x=some .globalImplicit
theorem nT {E:Value->Shared->Prop} {pins:List (Addr×Obj)} {s:Shared} {σ:St} {H:Hp} {x:Str} {u:Value} {pos:Pos} {Q:Value->Shared->Prop} (I:Inv X pins σ H s) (hg:Gl X x) (hm:X.mg x=some u) (h:Q u s)
  (hd:(x == ("__debug__" : Str))=false:=by decide):wpAny (model X.prog X.w) X.A (eval (.Name x pos) X.env) Q E s :=
 MW I.ok.kind hg (Calls.loadGlobal_global (by rw [I.ok.glob];exact I.mod.glob.keeps I.bk) hm h) hd
theorem fW {E:Value->Shared->Prop} {pins:List (Addr×Obj)} {s:Shared} {σ:St} {H:Hp} {x:Str} {u:Value} {pos:Pos} {Q:Value->Shared->Prop} (I:Inv X pins σ H s) (hg:Gl X x) (hm:X.mg x=none) (hv:bootBuiltins x=some u) (h:Q u s)
  (hn:x ≠ "__name__" := by decide) (hd:(x == ("__debug__" : Str))=false:=by decide):wpAny (model X.prog X.w) X.A (eval (.Name x pos) X.env) Q E s:=by
 obtain ⟨mb,h1,h2⟩:=I.mod.blt
 exact MW I.ok.kind hg (Calls.loadGlobal_builtin (by rw [I.ok.glob];exact I.mod.glob.keeps I.bk) hm (by rw [I.ok.blt];exact h1.keeps I.bk) ((h2 x hn).trans hv) h) hd
theorem vG {x:Str} {v:V} {u:Value} {pos:Pos} (hg:Gl X x) (hm:X.mg x=some u) (r:RelV v u) (hd:(x == ("__debug__" : Str))=false:=by decide):PE X (.Name x pos) (tC v) :=
 fun _ _ _ H _ I h=>nT I hg hm ⟨v,H,I,r,h⟩ hd
theorem Ar {x:Str} {v:V} {u:Value} {pos:Pos} (hg:Gl X x) (hm:X.mg x=none) (hv:bootBuiltins x=some u) (r:RelV v u) (hn:x ≠ "__name__" := by decide) (hd:(x == ("__debug__" : Str))=false:=by decide):PE X (.Name x pos) (tC v) :=
 fun _ _ _ H _ I h=>fW I hg hm hv ⟨v,H,I,r,h⟩ hn hd
variable {a b:Expr} {ta tb:TE} {pos:Pos}
variable {tA tB':TT} {rest:List Expr}
def qj (t u:TT):TT:=fun σ H Q=>t σ H fun c H1=>if c=true then u σ H1 Q else Q false H1
def As (t u:TT):TT:=fun σ H Q=>t σ H fun c H1=>if c=true then Q true H1 else u σ H1 Q
def qk (t:TT):TT:=fun σ H Q=>t σ H fun c H1=>Q (!c) H1
theorem Au (ha:PT X a tA):PW X (.BoolOp .And [a] pos) tA:=by
 intro wh pins s σ H Q I h
 refine isTrue_and (thn (ha pins s σ H Q I h) fun c s1 e=>?_)
 cases c with
 | true=>exact isTrue_and_nil e
 | false=>exact e
theorem Av (ha:PT X a tA):PW X (.BoolOp .Or [a] pos) tA:=by
 intro wh pins s σ H Q I h
 refine isTrue_or (thn (ha pins s σ H Q I h) fun c s1 e=>?_)
 cases c with
 | false=>exact isTrue_or_nil e
 | true=>exact e
theorem Aw (ha:PT X a tA) (hb:PW X (.BoolOp .And (b::rest) pos) tB'):PW X (.BoolOp .And (a::b::rest) pos) (qj tA tB'):=by
 intro wh pins s σ H Q I h
 refine isTrue_and (thn (ha pins s σ H _ I h) fun c s1 ⟨H1,I1,q1⟩=>?_)
 cases c with
 | true=>exact hb wh pins s1 σ H1 Q I1 q1
 | false=>exact ⟨H1,I1,q1⟩
theorem Ax (ha:PT X a tA) (hb:PW X (.BoolOp .Or (b::rest) pos) tB'):PW X (.BoolOp .Or (a::b::rest) pos) (As tA tB'):=by
 intro wh pins s σ H Q I h
 refine isTrue_or (thn (ha pins s σ H _ I h) fun c s1 ⟨H1,I1,q1⟩=>?_)
 cases c with
 | true=>exact ⟨H1,I1,q1⟩
 | false=>exact hb wh pins s1 σ H1 Q I1 q1
theorem Ay (ha:PT X a tA):PT X (.UnaryOp .Not a pos) (qk tA):=by
 intro pins s σ H Q I h
 exact isTrue_not (ha pins s σ H (fun c H1=>Q (!c) H1) I h)
def Az (ta tb:TE):TE:=fun σ H Q=>ta σ H fun x H1=>∃ c,x = .bl c/\if c=true then tb σ H1 Q else Q (.bl false) H1
def ql (ta tb:TE):TE:=fun σ H Q=>ta σ H fun x H1=>∃ c,x = .bl c/\if c=true then Q (.bl true) H1 else tb σ H1 Q
def AA (ta:TE):TE:=fun σ H Q=>ta σ H fun x H1=>∃ c,x = .bl c/\Q (.bl (!c)) H1
theorem AB {op} {t:TE} (h:PE X a t):PE X (.BoolOp op [a] pos) t:=fun pins s σ H Q I hw=>BoolOp_one (h pins s σ H Q I hw)
theorem AC (ha:PE X a ta) (hb:PE X (.BoolOp .And (b::rest) pos) tb):PE X (.BoolOp .And (a::b::rest) pos) (Az ta tb):=by
 intro pins s σ H Q I h
 refine BoolOp_and (thn (ha pins s σ H _ I h) fun v s1 ⟨x,H1,I1,r1,q1⟩=>?_)
 obtain ⟨c,rfl,q1⟩:=q1
 cases r1
 refine Lc ?_
 cases c with
 | true=>exact hb pins s1 σ H1 Q I1 q1
 | false=>exact ⟨.bl false,H1,I1,rfl,q1⟩
theorem AD (ha:PE X a ta) (hb:PE X (.BoolOp .Or (b::rest) pos) tb):PE X (.BoolOp .Or (a::b::rest) pos) (ql ta tb):=by
 intro pins s σ H Q I h
 refine BoolOp_or (thn (ha pins s σ H _ I h) fun v s1 ⟨x,H1,I1,r1,q1⟩=>?_)
 obtain ⟨c,rfl,q1⟩:=q1
 cases r1
 refine Lc ?_
 cases c with
 | false=>exact hb pins s1 σ H1 Q I1 q1
 | true=>exact ⟨.bl true,H1,I1,rfl,q1⟩
theorem AE (ha:PE X a ta):PE X (.UnaryOp .Not a pos) (AA ta):=by
 intro pins s σ H Q I h
 refine UnaryOp_ (thn (ha pins s σ H _ I h) fun v s1 ⟨x,H1,I1,r1,q1⟩=>?_)
 obtain ⟨c,rfl,q1⟩:=q1
 cases r1
 exact not_of (Lc ⟨.bl (!c),H1,I1,rfl,q1⟩)
end
end L2
namespace L2
open PySem PySem.Spec PyProof.Rows
def SqL (K:PySem.W.Frag) (H:Hp) (a:Addr) (xs:List V):Prop :=
 Rd H a (.lst xs) \/
  ∃ (o:Obj) (its:Array Value) (n:Nat),K.lookup a=some o/\o.cls = .type "list" /\ o.dict=none/\o.data = .seq its n/\its.size<=sizeLine/\Vals xs its.toList
def SqT (K:PySem.W.Frag) (H:Hp) (a:Addr) (xs:List V):Prop :=
 Rd H a (.tup xs) \/
  ∃ (o:Obj) (its:Array Value) (n:Nat),K.lookup a=some o/\o.cls = .type "tuple" /\ o.data = .seq its n/\its.size<=sizeLine/\Vals xs its.toList
def qm:Value->Option V
 | .none=>some .non
 | .bool b=>some (.bl b)
 | .int i _=>some (.int i)
 | .str x _=>some (.str x)
 | .bytes b _=>some (.byt b)
 | .float b _=>some (.flt b)
 | .ref a=>some (.ref a)
 | .type n=>some (.ty n)
 | _=>none
theorem RelV.abs {x:V} {u:Value} (r:RelV x u):qm u=some x:=by
 cases x with
 | non=>cases r;rfl
 | bl _=>cases r;rfl
 | int _=>obtain ⟨t,rfl⟩:=r;rfl
 | str _=>obtain ⟨t,rfl⟩:=r;rfl
 | byt _=>obtain ⟨t,rfl⟩:=r;rfl
 | flt _=>obtain ⟨t,rfl⟩:=r;rfl
 | ref _=>cases r;rfl
 | ty _=>cases r;rfl
theorem RelV.inj {x y:V} {u:Value} (r:RelV x u) (q:RelV y u):x=y:=Ks (r.abs.symm.trans q.abs)
theorem Vals.inj:∀ {xs ys:List V} {us:List Value},Vals xs us->Vals ys us->xs=ys
 | _,_,_,.nil,.nil=>rfl
 | _,_,_,.cons r t,.cons r' t' => by rw [r.inj r',Vals.inj t t']
section
variable {X:Cx} {pins:List (Addr×Obj)} {σ:St} {H:Hp} {s:Shared} {a:Addr} {xs ys:List V}
theorem SqL.of {K:PySem.W.Frag} (h:H a=some (.lst xs)):SqL K H a xs:=.inl (.inl h)
theorem SqT.of {K:PySem.W.Frag} (h:H a=some (.tup xs)):SqT K H a xs:=.inl (.inl h)
theorem Inv.list (I:Inv X pins σ H s) (h:SqL X.K H a xs):∃ its:List Value,Vals xs its/\PlainL s.heap a its.toArray/\xs.length<=sizeLine:=by
 rcases h with h | ⟨o,its,n,hk,hc,hd,hs,hz,r⟩
 ·obtain ⟨z,its,n,r,e⟩:=h.ok I.hok
  exact ⟨its,r,⟨_,n,e,rfl,rfl,rfl⟩,z⟩
 ·refine ⟨its.toList,r,⟨o,n,I.kIn a o hk,hc,hd,by simpa using hs⟩,?_⟩
  have e:=r.length
  simp only [KO] at e
  lia
theorem Inv.tuple (I:Inv X pins σ H s) (h:SqT X.K H a xs):∃ its:List Value,Vals xs its/\IsTup s.heap a its.toArray/\xs.length<=sizeLine:=by
 rcases h with h | ⟨o,its,n,hk,hc,hs,hz,r⟩
 ·obtain ⟨z,its,r,p⟩:=h.ok I.hok
  exact ⟨its,r,p,z⟩
 ·refine ⟨its.toList,r,⟨o,I.kIn a o hk,hc,n,by simpa using hs⟩,?_⟩
  have e:=r.length
  simp only [KO] at e
  lia
theorem Inv.list_inj (I:Inv X pins σ H s) (h:SqL X.K H a xs) (h':SqL X.K H a ys):xs=ys:=by
 obtain ⟨its,r,⟨o,n,e,_,_,d⟩,_⟩:=I.list h
 obtain ⟨its',r',⟨o',n',e',_,_,d'⟩,_⟩:=I.list h'
 rw [e] at e';cases e'
 rw [d] at d'
 injection d' with d1 _
 have:its=its' := by simpa using congrArg Array.toList d1
 subst this
 exact r.inj r'
theorem Inv.tuple_inj (I:Inv X pins σ H s) (h:SqT X.K H a xs) (h':SqT X.K H a ys):xs=ys:=by
 obtain ⟨its,r,⟨o,e,_,n,d⟩,_⟩:=I.tuple h
 obtain ⟨its',r',⟨o',e',_,n',d'⟩,_⟩:=I.tuple h'
 rw [e] at e';cases e'
 rw [d] at d'
 injection d' with d1 _
 have:its=its' := by simpa using congrArg Array.toList d1
 subst this
 exact r.inj r'
end
abbrev Cx.wish (X:Cx) (E:Value->Shared->Prop):Cx:={ X with xe:=E }
abbrev Cx.nox (X:Cx):Cx:=X.wish fun _ _=>False
theorem Cx.Ok.wish {X:Cx} (ok:X.Ok) (E:Value->Shared->Prop):(X.wish E).Ok :=
 ⟨ok.mod,ok.kind,ok.glob,ok.blt,ok.above,ok.inj,ok.has,ok.cab,ok.hd,ok.frames,ok.stk,ok.exf,ok.bs,ok.bsz,ok.noex,ok.exfs,ok.funs,ok.frf⟩
theorem Cx.Ok.unwish {X:Cx} {E:Value->Shared->Prop} (ok:(X.wish E).Ok):X.Ok :=
 ⟨ok.mod,ok.kind,ok.glob,ok.blt,ok.above,ok.inj,ok.has,ok.cab,ok.hd,ok.frames,ok.stk,ok.exf,ok.bs,ok.bsz,ok.noex,ok.exfs,ok.funs,ok.frf⟩
section
variable {X:Cx} {pins:List (Addr×Obj)} {σ:St} {H:Hp} {s:Shared} {E:Value->Shared->Prop}
theorem Inv.wish (I:Inv X pins σ H s) (E:Value->Shared->Prop):Inv (X.wish E) pins σ H s:=⟨I.ok.wish E,I.os,I.bare,I.base,I.loc,I.cell,I.free,I.freeC,I.pin,I.hok,I.len⟩
theorem Inv.unwish (I:Inv (X.wish E) pins σ H s):Inv X pins σ H s:=⟨I.ok.unwish,I.os,I.bare,I.base,I.loc,I.cell,I.free,I.freeC,I.pin,I.hok,I.len⟩
theorem SP.unwish {D:cM} {f:Flow} {s':Shared} (h:SP (X.wish E) pins D f s'):SP X pins D f s' := by
 cases f with
 | next=>obtain ⟨σ',H',I,q⟩:=h;exact ⟨σ',H',I.unwish,q⟩
 | brk=>obtain ⟨σ',H',I,q⟩:=h;exact ⟨σ',H',I.unwish,q⟩
 | cont=>obtain ⟨σ',H',I,q⟩:=h;exact ⟨σ',H',I.unwish,q⟩
 | ret u=>obtain ⟨v,σ',H',I,r,q⟩:=h;exact ⟨v,σ',H',I.unwish,r,q⟩
end
section
variable {X:Cx} {st:Stmt} {rest:List Stmt} {t u:TS} {e:Expr} {te:TE} {pos:Pos}
def AF:TS:=fun D σ H=>D.nx σ H
def qo (t u:TS):TS:=fun D σ H=>t { D with nx:=u D } σ H
theorem AG:ft X [] AF:=fun _ _ σ H _ I h=>MN ⟨σ,H,I,h⟩
theorem AI (h1:PS X st t) (h2:ft X rest u):ft X (st::rest) (qo t u):=by
 intro pins s σ H D I h
 refine wpAny_execs_cons (thn (h1 pins s σ H { D with nx:=u D } I h) fun f s1 q=>?_)
 cases f with
 | next =>
  obtain ⟨σ',H',I',q⟩:=q
  exact h2 pins s1 σ' H' D I' q
 | ret v=>exact q
 | brk=>exact q
 | cont=>exact q
theorem AJ (h1:PS X st t):ft X [st] t:=by
 intro pins s σ H D I h
 refine wpAny_execs_cons (thn (h1 pins s σ H D I h) fun f s1 q=>?_)
 cases f with
 | next=>exact MN q
 | ret v=>exact q
 | brk=>exact q
 | cont=>exact q
theorem Inv.quiet {pins:List (Addr×Obj)} {σ:St} {H:Hp} {s:Shared} (I:Inv X pins σ H s):interactive X.env=false:=by simp [interactive,I.ok.kind]
def AK (te:TE):TS:=fun D σ H=>te σ H fun _ H1=>D.nx σ H1
theorem AL (he:PE X e te) (hs:swapsWith e none pos.line X.env=pure false:=by rfl):PS X (.Expr e pos) (AK te):=by
 intro pins s σ H D I h
 exact wpAny_Expr_any (thn (he pins s σ H _ I h) fun v s1 ⟨x,H1,I1,r1,q1⟩=>⟨σ,H1,I1,q1⟩) I.quiet hs
def qp (te:TE):TS:=fun D σ H=>te σ H D.rt
theorem AM (he:PE X e te):PS X (.Return (some e) pos) (qp te):=by
 intro pins s σ H D I h
 exact wpAny_Return_some (thn (he pins s σ H _ I h) fun v s1 ⟨x,H1,I1,r1,q1⟩=>⟨x,σ,H1,I1,r1,q1⟩)
def qq (c:TT) (t u:TS):TS:=fun D σ H=>c σ H fun b H1=>if b=true then t D σ H1 else u D σ H1
theorem AN {c:Expr} {a b:List Stmt} {tc:TT} (hc:PT X c tc) (ha:ft X a t) (hb:ft X b u):PS X (.If c a b pos) (qq tc t u):=by
 intro pins s σ H D I h
 refine wpAny_If (thn (hc pins s σ H _ I h) fun d s1 ⟨H1,I1,q1⟩=>?_)
 cases d with
 | true=>exact ha pins s1 σ H1 D I1 q1
 | false=>exact hb pins s1 σ H1 D I1 q1
end
abbrev TG:=V->St->Hp->(St->Hp->Prop)->Prop
abbrev iJ:=List V->St->Hp->(St->Hp->Prop)->Prop
def PG (X:Cx) (target:Expr) (t:TG):Prop :=
 ∀ (pins:List (Addr×Obj)) (s:Shared) (σ:St) (H:Hp) (v:V) (u:Value) (Q:St->Hp->Prop),Inv X pins σ H s->RelV v u->t v σ H Q ->
  wpAny (model X.prog X.w) X.A (assign target X.env u) (fun _ s' => ∃ σ' H',Inv X pins σ' H' s'/\Q σ' H') X.xe s
def je (X:Cx) (ts:List Expr) (t:iJ):Prop :=
 ∀ (pins:List (Addr×Obj)) (s:Shared) (σ:St) (H:Hp) (vs:List V) (us:List Value) (Q:St->Hp->Prop),Inv X pins σ H s->Vals vs us->t vs σ H Q ->
  wpAny (model X.prog X.w) X.A (assignInOrder ((assignEach ts X.env).map (·.2)) us) (fun _ s' => ∃ σ' H',Inv X pins σ' H' s'/\Q σ' H') X.xe s
abbrev jg:=V->V->V->Hp->(Hp->Prop)->Prop
def lg (X:Cx) (t:jg):Prop :=
 ∀ (pins:List (Addr×Obj)) (s:Shared) (σ:St) (H:Hp) (o i v:V) (ov iv u:Value) (Q:Hp->Prop),Inv X pins σ H s->RelV o ov->RelV i iv->RelV v u->t o i v H Q ->
  wpAny (model X.prog X.w) X.A (setItem ov iv u) (fun _ s' => ∃ H',Inv X pins σ H' s'/\Q H') X.xe s
section
variable {X:Cx} {pos:Pos}
def nU (i:Nat):TG:=fun v σ H Q=>Q (σ.set i (some v)) H
theorem vH {i:Nat} {x:Str} (hN:X.N.Nodup) (hi:X.N[i]? = some x) (hx:iI X.env.scope x) (hf:X.fn x=true\/X.env.scope.names.lookup x=some .local:=by first | exact .inl rfl | exact .inr rfl | assumption):PG X (.Name x pos) (nU i):=by
 intro pins s σ H v u Q I r h
 exact Nc (qi I hN hi hx r (fun s' I' => ⟨_,H,I',h⟩) hf)
def qr:iJ:=fun vs σ H Q=>vs=[]/\Q σ H
def AQ (t:TG) (u:iJ):iJ:=fun vs σ H Q=>∃ v r,vs=v::r/\t v σ H fun σ' H' => u r σ' H' Q
theorem AR:je X [] qr:=by
 intro pins s σ H vs us Q I r h
 obtain ⟨e,h⟩:=h
 subst e
 cases r
 exact assignInOrder_nil ⟨σ,H,I,h⟩
theorem AS {e:Expr} {es:List Expr} {t:TG} {u:iJ} (h1:PG X e t) (h2:je X es u)
  (hs:(assignEach (e::es) X.env).map (·.2)=assign e X.env::(assignEach es X.env).map (·.2):=by rfl):je X (e::es) (AQ t u):=by
 intro pins s σ H vs us Q I r h
 obtain ⟨v,vr,e1,h⟩:=h
 subst e1
 cases r with
 | cons r rr =>
  rw [hs]
  refine assignInOrder_cons (thn (h1 pins s σ H _ _ _ I r h) fun _ s1 ⟨σ1,H1,I1,q1⟩=>?_)
  exact h2 pins s1 σ1 H1 _ _ Q I1 rr q1
def qt (K:PySem.W.Frag) (n:Nat) (t:iJ):TG:=fun v σ H Q=>∃ a xs,v = .ref a/\SqT K H a xs/\xs.length=n/\t xs σ H Q
theorem AU {es:List Expr} {k:Nat} {t:iJ} {n:Nat} (hc:X.calm=true) (h:je X es t)
  (hn:(assignEach es X.env).length=n:=by rfl) (hst:(assignEach es X.env).findIdx? (·.1)=none:=by rfl):PG X (.Tuple es k pos) (qt X.K n t):=by
 intro pins s σ H v u Q I r hw
 obtain ⟨a,xs,e1,hq,hl,hw⟩:=hw
 subst e1
 cases r
 obtain ⟨its,rv,ht,hz⟩:=I.tuple hq
 refine assign_Tuple_tuple (I.ok.hd hc) ht (by simp [hn,<- hl,rv.length]) hst fun h' hx=>?_
 have I1:Inv X pins σ H { s with heap:=h' }:=I.kept (t' := s.toks) fun b o e=>hx b o (Ko (JX e)) e
 exact h pins _ σ H xs _ Q I1 (by simpa using rv) hw
def qu (to ti:TE) (t:jg):TG:=fun v σ H Q=>to σ H fun o H1=>ti σ H1 fun i H2=>t o i v H2 fun H3=>Q σ H3
theorem AW {o i:Expr} {to ti:TE} {t:jg} (ho:PE X o to) (hi:PE X i ti) (hs:lg X t)
  (ha:∀ v,assign (.Subscript o i pos) X.env v=(do
   let ov <- holding [v] (eval o X.env)
   let iv <- holding [v,ov] (eval i X.env)
   standAt pos
   holding [v,ov,iv] (setItem ov iv v)
   release [v,ov,iv] []):=by intro _;rfl):PG X (.Subscript o i pos) (qu to ti t):=by
 intro pins s σ H v u Q I r h
 rw [ha]
 refine JG (Le (thn (ho pins s σ H _ I h) fun ov s1 ⟨x,H1,I1,r1,q1⟩=>?_))
 refine JG (Le (thn (hi pins s1 σ H1 _ I1 q1) fun iv s2 ⟨y,H2,I2,r2,q2⟩=>?_))
 refine JG (Oe (JG (Le (thn (hs pins s2 σ H2 x y v ov iv u _ I2 r1 r2 r q2) fun _ s3 ⟨H3,I3,q3⟩=>?_))))
 exact wpAny_release ⟨σ,H3,I3,q3⟩
def gS (te:TE) (g:TG):TS:=fun D σ H=>te σ H fun x H1=>g x σ H1 D.nx
theorem AX {tg e:Expr} {te:TE} {g:TG} (he:PE X e te) (hg:PG X tg g) (hs:swapsWithSole [tg] e pos.line X.env=pure false:=by rfl) (hw:swappedStores [tg] e X.env=pure none:=by rfl)
  (h1:(assignEach [tg] X.env).map (·.2)=[assign tg X.env]:=by rfl):PS X (.Assign [tg] e pos) (gS te g):=by
 intro pins s σ H D I h
 refine wpAny_Assign_stores (thn (he pins s σ H _ I h) fun v s1 ⟨x,H1,I1,r1,q1⟩=>?_) hs hw
 rw [h1]
 exact thn (hg pins s1 σ H1 x v _ I1 r1 q1) fun _ s2 q=>q
theorem AY {i:Nat} {x:Str} {e:Expr} {te:TE} {pos':Pos} (hN:X.N.Nodup) (hi:X.N[i]? = some x) (hx:iI X.env.scope x) (he:PE X e te) (hs:swapsWith e (some (.Name x pos')) pos.line X.env=pure false:=by rfl) (hf:X.fn x=true\/X.env.scope.names.lookup x=some .local:=by first | exact .inl rfl | exact .inr rfl | assumption) :
  PS X (.Assign [.Name x pos'] e pos) (gS te (nU i)):=by
 intro pins s σ H D I h
 refine wpAny_Assign_Name (thn (he pins s σ H _ I h) fun v s1 ⟨y,H1,I1,r1,q1⟩=>?_) hs
 exact qi I1 hN hi hx r1 (fun s2 I2=>⟨_,H1,I2,q1⟩) hf
end
section
variable {X:Cx} {pos:Pos}
def AZ (c:TT) (tb:TS):TS:=fun D σ H=>∃ W:Nat->St->Hp->Prop,(∃ m,W m σ H)/\∀ m σ H,W m σ H ->
 c σ H fun b H1=>if b=true then ∃ N:St->Hp->Prop,(∀ σ' H',N σ' H'->∃ m',m'<m/\W m' σ' H')/\tb { D with nx:=N,ct:=N,bk:=D.nx } σ H1 else D.nx σ H1
theorem A0 {c:Expr} {body:List Stmt} {tc:TT} {tb:TS} (hp:PassesOwn (model X.prog X.w) X.A X.env X.xe) (hc:PT X c tc) (hb:ft X body tb):PS X (.While c body [] pos) (AZ tc tb):=by
 intro pins s σ H D I h
 obtain ⟨W,⟨m0,w0⟩,turn⟩:=h
 refine wpAny_While (codeAny_whileLoop (fun n s' => ∃ σ' H',Inv X pins σ' H' s'/\W n σ' H') ?_ m0 ⟨σ,H,I,w0⟩)
 rintro n s1 ⟨σ1,H1,I1,w1⟩
 refine Li hp (thn (hc pins s1 σ1 H1 _ I1 (turn n σ1 H1 w1)) fun b s2 ⟨H2,I2,q2⟩=>?_)
 cases b with
 | true =>
  obtain ⟨N,hN,q2⟩:=q2
  rw [JJ rfl]
  refine Li hp (thn (hb pins s2 σ1 H2 _ I2 q2) fun f s3 q3=>?_)
  cases f with
  | next =>
   obtain ⟨σ3,H3,I3,n3⟩:=q3
   obtain ⟨m',hm,w3⟩:=hN σ3 H3 n3
   exact ⟨m',hm,σ3,H3,I3,w3⟩
  | cont =>
   obtain ⟨σ3,H3,I3,n3⟩:=q3
   obtain ⟨m',hm,w3⟩:=hN σ3 H3 n3
   exact ⟨m',hm,σ3,H3,I3,w3⟩
  | brk=>exact q3
  | ret v=>exact q3
 | false =>
  rw [JM JZ]
  exact MN ⟨σ1,H2,I2,q2⟩
end
set_option genInjectivity false in
structure It where
 go:Nat->Hp->Prop
 yld:Nat->Hp->V->Hp->Prop
 stop:Nat->Hp->Prop
def cS (X:Cx) (pins:List (Addr×Obj)) (H:Hp) (b:Addr):Prop :=
 H b=none/\b≠X.env.locals/\b∉X.fs/\(b∈X.ex\/X.s₀.heap.objs.size<=b)/\(∀ x c,X.env.cells.lookup x=some c->c≠b)/\∀ p∈X.pn++pins,p.1≠b
theorem Inv.fpOk {X:Cx} {pins:List (Addr×Obj)} {σ:St} {H H':Hp} {s:Shared} {b:Addr} (I:Inv X pins σ H s) (hb:s.heap.objs.size<=b) (hn:H' b=none):cS X pins H' b:=by
 refine ⟨hn,Nat.ne_of_gt (Kd I.lt hb),I.nofs hb,.inr (JK I.sz hb),fun x c e z=>?_,fun p hp z=>?_⟩
 ·obtain ⟨v,q⟩:=I.cell x c e
  exact absurd (Kd q.lt (by rw [z];exact hb)) (Lr _)
 ·exact absurd (Kd (JX (I.pin p hp).1) (by rw [z];exact hb)) (Lr _)
structure dR (P:Program) (w:World) (K:PySem.W.Frag) (tg:Expr) (J:It) (fp:List Addr) (it:Addr) (tn:Nat->Heap->Prop):Prop where
 mem:it∈fp
 obj:∀ i h,tn i h->∀ b∈fp,∃ o,h.get? b=some o/\∀ v,o.data ≠ .cell v
 keep:∀ i h h',tn i h->(∀ b∈fp,∀ o,h.get? b=some o->h'.get? b=some o)->tn i h'
 item:∀ (X:Cx),X.prog=P->X.w=w->X.K=K->X.calm=true->∀ (i:Nat) (pins:List (Addr×Obj)) (s:Shared) (σ:St) (H:Hp) (E:Value->Shared->Prop),Inv X pins σ H s->(∀ b∈fp,cS X pins H b)->tn i s.heap->J.go i H ->
  wpAny (model P w) X.A (pyNext (.ref it)) (fun r s1=>∃ u,r=some u /\
   wpAny (model P w) X.A (letOwnedTupleGo tg (.ref it) u) (fun _ s2=>∃ x H',Inv X pins σ H' s2/\RelV x u/\J.yld i H x H'/\tn (i+1) s2.heap/\∀ b∈fp,H' b=none) E s1) E s
 done:∀ (X:Cx),X.prog=P->X.w=w->X.K=K->X.calm=true->∀ (i:Nat) (pins:List (Addr×Obj)) (s:Shared) (σ:St) (H:Hp) (E:Value->Shared->Prop),Inv X pins σ H s->(∀ b∈fp,cS X pins H b)->tn i s.heap->J.stop i H ->
  wpAny (model P w) X.A (pyNext (.ref it)) (fun r s1=>r=none/\Inv X pins σ H s1) E s
 self:∀ (A:Around) (i:Nat) (s:Shared) (Q:Value->Shared->Prop) (E:Value->Shared->Prop),tn i s.heap->Q (.ref it) s->wpAny (model P w) A (pyIter (.ref it)) Q E s
abbrev TI:=St->Hp->(It->Hp->Prop)->Prop
def nV (X:Cx) (pins:List (Addr×Obj)) (σ:St) (tg:Expr) (R:It->Hp->Prop) (itv:Value) (s2:Shared):Prop :=
 ∃ (it:Addr) (fp:List Addr) (tn:Nat->Heap->Prop) (J:It) (H':Hp),itv = .ref it/\Inv X pins σ H' s2/\dR X.prog X.w X.K tg J fp it tn/\tn 0 s2.heap/\(∀ b∈fp,cS X pins H' b)/\R J H'
def PI (X:Cx) (tg iter:Expr) (wi:TI):Prop :=
 ∀ (pins:List (Addr×Obj)) (s:Shared) (σ:St) (H:Hp) (R:It->Hp->Prop),Inv X pins σ H s->wi σ H R ->
  wpAny (model X.prog X.w) X.A (eval iter X.env) (fun v s1=>wpAny (model X.prog X.w) X.A (pyIter v) (nV X pins σ tg R) X.xe s1) X.xe s
theorem lh {M:Model} {A:Around} {E:Value->Shared->Prop} {s:Shared} {tg:Expr} {it:Addr} {u:Value} {o:Obj} {n:String} {vs:Array Value} {Q:Unit->Shared->Prop} (ho:s.heap.get? it=some o) (hc:o.cls = .type n) (hd:o.data = .fields vs)
  (hn:["enumerate", "zip", "dict_itemiterator", "dict_reverseitemiterator", "odict_iterator", "itertools.zip_longest", "itertools.pairwise"].contains n=false) (hQ:Q () s):wpAny M A (letOwnedTupleGo tg (.ref it) u) Q E s:=by
 unfold letOwnedTupleGo
 cases tg<;>first
  | exact J2 hQ
  | (cases u<;>first
    | exact J2 hQ
    | (refine JG (wpAny_load ho ?_)
       rw [hc,hd]
       show wpAny M A (if (["enumerate", "zip", "dict_itemiterator", "dict_reverseitemiterator", "odict_iterator", "itertools.zip_longest", "itertools.pairwise"].contains n && vs[0]? == some (rawInt _))=true then _ else _) Q E s
       rw [JM (by intro h;rw [hn,Bool.false_and] at h;cases h)]
       exact J2 hQ))
def nW (K:PySem.W.Frag) (a:Addr):It :=
 ⟨fun i H=>∃ xs x,SqL K H a xs/\xs[i]? = some x,fun i H x H' => H'=H/\∀ xs,SqL K H a xs->xs[i]? = some x,fun i H=>∃ xs,SqL K H a xs/\xs.length<=i⟩
def qv (K:PySem.W.Frag) (a:Addr):It :=
 ⟨fun i H=>∃ xs x,SqT K H a xs/\xs[i]? = some x,fun i H x H' => H'=H/\∀ xs,SqT K H a xs->xs[i]? = some x,fun i H=>∃ xs,SqT K H a xs/\xs.length<=i⟩
def lj (lo:Int) (n:Nat):It:=⟨fun i _=>i<n,fun i H x H' => H'=H/\x = .int (lo+i),fun i _=>n<=i⟩
theorem A1 {P:Program} {w:World} {K:PySem.W.Frag} {tg:Expr} (a it:Addr):dR P w K tg (nW K a) [it] it (fun i h=>h.IsListIter it a i) where
 mem:=by simp
 obj:=fun i h st b hb=>by
  have e:b=it:=by simpa using hb
  subst e
  obtain ⟨o,e,c,d⟩:=st
  exact ⟨o,e,fun v z=>by rw [d] at z;cases z⟩
 keep:=fun i h h' st k=>st.at fun o e=>k it (by simp) o e
 item:=by
  intro X hP hw hK hc i pins s σ H E I hf st hg
  subst hP hw hK
  obtain ⟨xs,x,hq,hx⟩:=hg
  obtain ⟨its,rv,p,hz⟩:=I.list hq
  obtain ⟨u,hu,ru⟩:=rv.get hx
  obtain ⟨f0,f1,f2,f3,f4,f5⟩:=hf it (by simp)
  refine wpAny_pyNext_list_item st p.isList (x:=u) (by simpa using hu) fun h' st' sb=>?_
  have I1:Inv X pins σ H { s with heap:=h' }:=I.turned (t' := s.toks) (fun b o hb e=>(sb.2 b hb).trans e) f0 f1 f3 f4 f5
  obtain ⟨o,e,c,d⟩:=id st'
  exact ⟨u,rfl,lh (s:={ s with heap:=h' }) e c d (by decide) ⟨x,H,I1,ru,⟨rfl,fun ys hy=>by rw [I.list_inj hy hq];exact hx⟩,st',fun b hb=>(hf b hb).1⟩⟩
 done:=by
  intro X hP hw hK hc i pins s σ H E I hf st hg
  subst hP hw hK
  obtain ⟨xs,hq,hx⟩:=hg
  obtain ⟨its,rv,p,hz⟩:=I.list hq
  obtain ⟨f0,f1,f2,f3,f4,f5⟩:=hf it (by simp)
  have hl:=rv.length
  exact wpAny_pyNext_list_end (I.ok.hd hc) st p.isList (by simp;lia) fun h' eb=>⟨rfl,I.turned (t' := s.toks) (fun b o hb e=>eb b o hb e) f0 f1 f3 f4 f5⟩
 self:=fun _ _ _ _ _ st h=>wpAny_pyIter_listiter st h
theorem A2 {P:Program} {w:World} {K:PySem.W.Frag} {tg:Expr} (a it:Addr):dR P w K tg (qv K a) [it] it (fun i h=>h.IsTupleIter it a i) where
 mem:=by simp
 obj:=fun i h st b hb=>by
  have e:b=it:=by simpa using hb
  subst e
  obtain ⟨o,e,c,d⟩:=st
  exact ⟨o,e,fun v z=>by rw [d] at z;cases z⟩
 keep:=fun i h h' st k=>st.at fun o e=>k it (by simp) o e
 item:=by
  intro X hP hw hK hc i pins s σ H E I hf st hg
  subst hP hw hK
  obtain ⟨xs,x,hq,hx⟩:=hg
  obtain ⟨its,rv,p,hz⟩:=I.tuple hq
  obtain ⟨u,hu,ru⟩:=rv.get hx
  obtain ⟨f0,f1,f2,f3,f4,f5⟩:=hf it (by simp)
  refine wpAny_pyNext_tuple_item st (show s.heap.IsTuple a its.toArray from p) (x:=u) (by simpa using hu) fun h' st' sb=>?_
  have I1:Inv X pins σ H { s with heap:=h' }:=I.turned (t' := s.toks) (fun b o hb e=>(sb.2 b hb).trans e) f0 f1 f3 f4 f5
  obtain ⟨o,e,c,d⟩:=id st'
  exact ⟨u,rfl,lh (s:={ s with heap:=h' }) e c d (by decide) ⟨x,H,I1,ru,⟨rfl,fun ys hy=>by rw [I.tuple_inj hy hq];exact hx⟩,st',fun b hb=>(hf b hb).1⟩⟩
 done:=by
  intro X hP hw hK hc i pins s σ H E I hf st hg
  subst hP hw hK
  obtain ⟨xs,hq,hx⟩:=hg
  obtain ⟨its,rv,p,hz⟩:=I.tuple hq
  obtain ⟨f0,f1,f2,f3,f4,f5⟩:=hf it (by simp)
  have hl:=rv.length
  exact wpAny_pyNext_tuple_end (I.ok.hd hc) st (show s.heap.IsTuple a its.toArray from p) (by simp;lia) fun h' eb=>⟨rfl,I.turned (t' := s.toks) (fun b o hb e=>eb b o hb e) f0 f1 f3 f4 f5⟩
 self:=fun _ _ _ _ _ st h=>wpAny_pyIter_tupleiter st h
theorem A3 {P:Program} {w:World} {K:PySem.W.Frag} {tg:Expr} (it:Addr) (lo:Int) (n:Nat):dR P w K tg (lj lo n) [it] it (fun i h=>IsRangeIter h it (lo+(i:Nat)*1) ((n:Int)-(i:Nat)) 1) where
 mem:=by simp
 obj:=fun i h st b hb=>by
  have e:b=it:=by simpa using hb
  subst e
  exact ⟨_,st,fun v z=>by
   have z':Data.fields _=Data.cell v:=z
   cases z'⟩
 keep:=fun i h h' st k=>k it (by simp) _ st
 item:=by
  intro X hP hw hK hc i pins s σ H E I hf st hg
  subst hP hw hK
  obtain ⟨f0,f1,f2,f3,f4,f5⟩:=hf it (by simp)
  have W:=Walks.range (prog:=X.prog) (w:=X.w) (I.ok.hd hc) it lo 1 n
  refine W.item i s _ _ hg st fun v h' tk hv st' kk=>?_
  obtain ⟨t,rfl⟩:=hv
  have I1:Inv X pins σ H { s with heap:=h',toks:=tk }:=I.turned (fun b o hb e=>kk b o (by simpa using hb) e) f0 f1 f3 f4 f5
  refine ⟨_,rfl,lh (s:={ s with heap:=h',toks:=tk }) (n := "range_iterator") st' rfl rfl (by decide) ⟨.int (lo+i),H,I1,⟨t,?_⟩,⟨rfl,rfl⟩,st',fun b hb=>(hf b hb).1⟩⟩
  rw [Int.mul_one]
 done:=by
  intro X hP hw hK hc i pins s σ H E I hf st hg
  subst hP hw hK
  obtain ⟨f0,f1,f2,f3,f4,f5⟩:=hf it (by simp)
  exact Nv (I.ok.hd hc) st (by have:n<=i:=hg;lia) fun h' eb=>⟨rfl,I.turned (t' := s.toks) (fun b o hb e=>eb b o hb e) f0 f1 f3 f4 f5⟩
 self:=fun _ _ _ _ _ st h=>Nw st h
end L2
namespace L2
open PySem PySem.Spec PyProof.Rows
section
variable {X:Cx} {tg:Expr}
def vI (K:PySem.W.Frag) (tl:TE):TI:=fun σ H R=>tl σ H fun x H1=>∃ a,x = .ref a/\(∃ xs,SqL K H1 a xs)/\R (nW K a) H1
def lq (K:PySem.W.Frag) (tl:TE):TI:=fun σ H R=>tl σ H fun x H1=>∃ a,x = .ref a/\(∃ xs,SqT K H1 a xs)/\R (qv K a) H1
theorem A4 {l:Expr} {tl:TE} (hl:PE X l tl):PI X tg l (vI X.K tl):=by
 intro pins s σ H R I h
 refine thn (hl pins s σ H _ I h) fun v s1 ⟨x,H1,I1,r1,q1⟩=>?_
 obtain ⟨a,e,⟨xs,hq⟩,q⟩:=q1
 subst e
 cases r1
 obtain ⟨its,rv,p,hz⟩:=I1.list hq
 refine Nd p.isList ?_
 refine ⟨s1.heap.objs.size,[s1.heap.objs.size],_,_,H1,rfl,I1.kept (t' := s1.toks) fun b o e=>JH _ e,A1 a _,⟨_,Kc _ rfl,rfl,rfl⟩,fun b hb=>?_,q⟩
 have e:b=s1.heap.objs.size:=by simpa using hb
 subst e
 exact I1.fpOk (JE _) (I1.hok.fresh (JE _))
theorem A5 {l:Expr} {tl:TE} (hl:PE X l tl):PI X tg l (lq X.K tl):=by
 intro pins s σ H R I h
 refine thn (hl pins s σ H _ I h) fun v s1 ⟨x,H1,I1,r1,q1⟩=>?_
 obtain ⟨a,e,⟨xs,hq⟩,q⟩:=q1
 subst e
 cases r1
 obtain ⟨its,rv,p,hz⟩:=I1.tuple hq
 refine wpAny_pyIter_tuple (show s1.heap.IsTuple a its.toArray from p) ?_
 refine ⟨s1.heap.objs.size,[s1.heap.objs.size],_,_,H1,rfl,I1.kept (t' := s1.toks) fun b o e=>JH _ e,A2 a _,⟨_,Kc _ rfl,rfl,rfl⟩,fun b hb=>?_,q⟩
 have e:b=s1.heap.objs.size:=by simpa using hb
 subst e
 exact I1.fpOk (JE _) (I1.hok.fresh (JE _))
theorem vJ {pins:List (Addr×Obj)} {σ:St} {H:Hp} {s:Shared} {R:It->Hp->Prop} {E:Value->Shared->Prop} {lo hi:Int} {t u v:Tok} {tk:Nat} (I:Inv X pins σ H s) (h1 : -(2 ^ 62)<=lo) (h2:lo<2 ^ 62) (h3 : -(2 ^ 62)<=hi) (h4:hi<2 ^ 62)
  (q:R (lj lo (hi-lo).toNat) H):wpAny (model X.prog X.w) X.A (pyIter (.ref s.heap.objs.size)) (nV X pins σ tg R) E { s with heap:=s.heap.push { cls:=.type "range",data:=.fields #[.int lo t,.int hi u,.int 1 v] },toks:=tk }:=by
 refine M7 (IsRange.new ..) (small_one h1 h2 h3 h4) ?_
 have I1:Inv X pins σ H { s with heap:=s.heap.push { cls:=.type "range",data:=.fields #[.int lo t,.int hi u,.int 1 v] },toks:=tk }:=I.kept fun b o e=>JH _ e
 refine ⟨(s.heap.push { cls:=.type "range",data:=.fields #[.int lo t,.int hi u,.int 1 v] }).objs.size,[(s.heap.push { cls:=.type "range",data:=.fields #[.int lo t,.int hi u,.int 1 v] }).objs.size],_,_,H,rfl,
  I1.kept (t' := tk) fun b o e=>JH _ e,A3 _ lo (hi-lo).toNat,?_,fun b hb=>?_,q⟩
 ·have e1:lo+((0:Nat):Int)*1=lo:=by simp
  have e2:(((hi-lo).toNat:Nat):Int)-((0:Nat):Int)=Builtin.Range.rangeSize lo hi 1:=by rw [rangeSize_one];split<;>lia
  show IsRangeIter _ _ (lo+((0:Nat):Int)*1) ((((hi-lo).toNat:Nat):Int)-((0:Nat):Int)) 1
  rw [e1,e2]
  exact Kc _ rfl
 ·have e:b=(s.heap.push { cls:=.type "range",data:=.fields #[.int lo t,.int hi u,.int 1 v] }).objs.size:=by simpa using hb
  subst e
  exact I1.fpOk (JE _) (I1.hok.fresh (JE _))
def A6 (ta:TA):TI:=fun σ H R=>ta σ H fun vs H1=>∃ j:Int,vs=[.int j] /\ -(2 ^ 62)<=j/\j<2 ^ 62/\R (lj 0 j.toNat) H1
def A7 (ta:TA):TI:=fun σ H R=>ta σ H fun vs H1=>∃ i j:Int,vs=[.int i,.int j]/\(-(2 ^ 62)<=i/\i<2 ^ 62 /\ -(2 ^ 62)<=j/\j<2 ^ 62)/\R (lj i (j-i).toNat) H1
theorem A8 {a:Expr} {ta:TA} {p pos:Pos} (hg:Gl X "range") (hm:X.mg "range" = none) (ha:PA X [a] ta) (hs:starEach [a] X.env=[(false,eval a X.env)]:=by rfl):PI X tg (.Call (.Name "range" p) [a] [] pos) (A6 ta):=by
 intro pins s σ H R I h
 refine Call_ (fW I hg hm Nx (Kr (thn (ha pos pins s σ H _ I h) fun us s1 ⟨vs,H1,I1,r1,q1⟩=>?_) hs rfl))
 obtain ⟨j,e,q1,q2,q⟩:=q1
 subst e
 cases r1 with
 | cons r rr =>
  cases rr
  obtain ⟨t,rfl⟩:=r
  exact call_range_1 (vJ I1 (by lia) (by lia) q1 q2 (by simpa using q))
theorem A9 {a b:Expr} {ta:TA} {p pos:Pos} (hg:Gl X "range") (hm:X.mg "range" = none) (ha:PA X [a,b] ta) (hs:starEach [a,b] X.env=[(false,eval a X.env),(false,eval b X.env)]:=by rfl) (hs2:starEach [b] X.env=[(false,eval b X.env)]:=by rfl) :
  PI X tg (.Call (.Name "range" p) [a,b] [] pos) (A7 ta):=by
 intro pins s σ H R I h
 refine Call_ (fW I hg hm Nx (Kr (thn (ha pos pins s σ H _ I h) fun us s1 ⟨vs,H1,I1,r1,q1⟩=>?_) (by rw [hs,hs2]) (by rw [hs2];rfl)))
 obtain ⟨i,j,e,⟨q1,q2,q3,q4⟩,q⟩:=q1
 subst e
 cases r1 with
 | cons r rr =>
  cases rr with
  | cons r' rr =>
   cases rr
   obtain ⟨t,rfl⟩:=r
   obtain ⟨t',rfl⟩:=r'
   exact call_range_2 (vJ I1 q1 q2 q3 q4 q)
def qw (wi:TI) (g:TG) (tb:TS):TS:=fun D σ H=>wi σ H fun J H1=>∃ W:Nat->Nat->St->Hp->Prop,(∃ m,W 0 m σ H1)/\∀ i m σ H,W i m σ H ->
 (J.stop i H/\D.nx σ H)\/(J.go i H/\∃ N:St->Hp->Prop,(∀ σ' H',N σ' H'->∃ m',m'<m/\W (i+1) m' σ' H')/\∀ x H',J.yld i H x H'->g x σ H' fun σ2 H2=>tb { D with nx:=N,ct:=N,bk:=D.nx } σ2 H2)
def gT (fp:List Addr) (h:Heap):List (Addr×Obj):=fp.filterMap fun b=>(h.get? b).map fun o=>(b,o)
theorem nX {fp:List Addr} {h:Heap} {b:Addr} {o:Obj} (hb:b∈fp) (e:h.get? b=some o):(b,o)∈gT fp h:=MX.mpr ⟨b,hb,by rw [e];rfl⟩
theorem Ba {fp:List Addr} {h:Heap} {p:Addr×Obj} (hp:p∈gT fp h):p.1∈fp/\h.get? p.1=some p.2:=by
 obtain ⟨b,hb,e⟩:=MX.mp hp
 cases q:h.get? b with
 | none=>rw [q] at e;cases e
 | some o =>
  rw [q] at e
  have e':(b,o)=p:=Ks e
  subst e'
  exact ⟨hb,q⟩
theorem Inv.pinned {pins:List (Addr×Obj)} {σ:St} {H:Hp} {s:Shared} {fp:List Addr} (I:Inv X pins σ H s) (hf:∀ b∈fp,cS X pins H b) (ho:∀ b∈fp,∃ o,s.heap.get? b=some o/\∀ v,o.data ≠ .cell v):Inv X (pins++gT fp s.heap) σ H s :=
 I.pins_of fun p hp=>(JQ.mp hp).elim (fun z=>I.pin p (JW _ z)) fun z=>by
  obtain ⟨hb,e⟩:=Ba z
  obtain ⟨f0,f1,f2,_⟩:=hf p.1 hb
  obtain ⟨o,e',d⟩:=ho p.1 hb
  rw [e] at e';cases e'
  exact ⟨e,f0,f1,f2,d⟩
theorem Inv.unpinned {pins pl:List (Addr×Obj)} {σ:St} {H:Hp} {s:Shared} (I:Inv X (pins++pl) σ H s):Inv X pins σ H s:=I.pins_of fun p hp=>I.pin p (JW _ (JN _ hp))
theorem qx {iter:Expr} {body:List Stmt} {wi:TI} {g:TG} {tb:TS} {pos:Pos} (hp:PassesOwn (model X.prog X.w) X.A X.env X.xe) (hc:X.calm=true) (hi:PI X tg iter wi) (hg:PG X tg g) (hb:ft X body tb)
  (hs:∀ x,foldedSetIterable iter X.env x=pure x:=by intro _;rfl):PS X (.For tg iter body [] pos) (qw wi g tb):=by
 intro pins s σ H D I h
 refine wpAny_For (thn (hi pins s σ H _ I h) fun v s1 h1=>thn h1 fun itv s2 h2=>?_) hs
 obtain ⟨it,fp,tn,J,H2,e,I2,T,st2,f2,W,⟨m0,w0⟩,turn⟩:=h2
 subst e
 have stat:∀ {H':Hp},(∀ b∈fp,H' b=none)->∀ b∈fp,cS X pins H' b:=fun hn b hb=>⟨hn b hb,(f2 b hb).2⟩
 refine codeAny_forLoop_any (fun n s' => ∃ i σ' H',Inv X pins σ' H' s'/\tn i s'.heap/\(∀ b∈fp,H' b=none)/\W i n σ' H') ?_ m0 ⟨0,σ,H2,I2,st2,fun b hb=>(f2 b hb).1,w0⟩
 rintro n s3 ⟨i,σ3,H3,I3,st3,fr3,w3⟩
 rcases turn i n σ3 H3 w3 with ⟨stop,qn⟩ | ⟨go,N,hN,step⟩
 ·refine Li hp (thn (T.done X rfl rfl rfl hc i pins s3 σ3 H3 X.xe I3 (stat fr3) st3 stop) fun r s4 ⟨hr,I4⟩=>?_)
  subst hr
  exact MN ⟨σ3,H3,I4,qn⟩
 ·refine Li hp (thn (T.item X rfl rfl rfl hc i pins s3 σ3 H3 X.xe I3 (stat fr3) st3 go) fun r s4 ⟨u,hr,h4⟩=>?_)
  subst hr
  refine Li hp (thn h4 fun _ s5 ⟨x,H5,I5,r5,y5,st5,fr5⟩=>?_)
  have I5' := I5.pinned (stat fr5) (T.obj _ _ st5)
  refine Li hp (thn (hg _ s5 σ3 H5 x u _ I5' r5 (step x H5 y5)) fun _ s6 ⟨σ6,H6,I6,q6⟩=>?_)
  refine Li hp (thn (hb _ s6 σ6 H6 _ I6 q6) fun f s7 q7=>?_)
  have again:∀ {σ7:St} {H7:Hp},Inv X (pins++gT fp s5.heap) σ7 H7 s7->N σ7 H7->∃ m,m<n/\∃ i σ' H',Inv X pins σ' H' s7/\tn i s7.heap/\(∀ b∈fp,H' b=none)/\W i m σ' H' := fun {σ7 H7} I7 n7=>by
   obtain ⟨m',hm,w7⟩:=hN σ7 H7 n7
   refine ⟨m',hm,i+1,σ7,H7,I7.unpinned,T.keep _ _ _ st5 fun b hb o e=>(I7.pin (b,o) (JW _ (JW _ (nX hb e)))).1,fun b hb=>?_,w7⟩
   obtain ⟨o,e,d⟩:=T.obj _ _ st5 b hb
   exact (I7.pin (b,o) (JW _ (JW _ (nX hb e)))).2.1
  cases f with
  | next=>obtain ⟨σ7,H7,I7,n7⟩:=q7;exact again I7 n7
  | cont=>obtain ⟨σ7,H7,I7,n7⟩:=q7;exact again I7 n7
  | brk=>obtain ⟨σ7,H7,I7,q7⟩:=q7;exact ⟨σ7,H7,I7.unpinned,q7⟩
  | ret v=>obtain ⟨x7,σ7,H7,I7,r7,q7⟩:=q7;exact ⟨x7,σ7,H7,I7.unpinned,r7,q7⟩
end
end L2
namespace L2
open PySem PySem.Spec PyProof.Rows
abbrev R2:=V->V->Hp->VK->Prop
def OpR (X:Cx) (f:Value->Value->Sem Value) (r:R2):Prop :=
 ∀ (pins:List (Addr×Obj)) (s:Shared) (σ:St) (H:Hp) (x y:V) (v u:Value) (Q:VK),Inv X pins σ H s->RelV x v->RelV y u->r x y H Q ->
  wpAny (model X.prog X.w) X.A (f v u) (EP X pins σ Q) X.xe s
def qy (X:Cx) (f:Value->Sem Value) (r:V->Hp->VK->Prop):Prop :=
 ∀ (pins:List (Addr×Obj)) (s:Shared) (σ:St) (H:Hp) (x:V) (v:Value) (Q:VK),Inv X pins σ H s->RelV x v->r x H Q ->
  wpAny (model X.prog X.w) X.A (f v) (EP X pins σ Q) X.xe s
def CallR (X:Cx) (f:Value) (r:List V->Hp->VK->Prop):Prop :=
 ∀ (pins:List (Addr×Obj)) (s:Shared) (σ:St) (H:Hp) (xs:List V) (us:List Value) (Q:VK),Inv X pins σ H s->Vals xs us->r xs H Q ->
  wpAny (model X.prog X.w) X.A (call f us) (EP X pins σ Q) X.xe s
def qz (X:Cx) (r:V->Hp->(Bool->Hp->Prop)->Prop):Prop :=
 ∀ (pins:List (Addr×Obj)) (s:Shared) (σ:St) (H:Hp) (x:V) (v:Value) (Q:Bool->Hp->Prop),Inv X pins σ H s->RelV x v->r x H Q ->
  wpAny (model X.prog X.w) X.A (truthy v) (TP X pins σ Q) X.xe s
def j5 (r:R2) (ta tb:TE):TE:=fun σ H Q=>ta σ H fun x H1=>tb σ H1 fun y H2=>r x y H2 Q
def Bb (r:V->Hp->VK->Prop) (ta:TE):TE:=fun σ H Q=>ta σ H fun x H1=>r x H1 Q
def rI (C:Int->Int->Prop) (g:Int->Int->V):R2:=fun x y H Q=>∃ i j,x = .int i/\y = .int j/\C i j/\Q (g i j) H
def iK (g:Int->Int->V):R2:=fun x y H Q=>∃ i j,x = .int i/\y = .int j/\Q (g i j) H
def rU (g:Int->V):V->Hp->VK->Prop:=fun x H Q=>∃ i,x = .int i/\Q (g i) H
section
variable {X:Cx} {a b c:Expr} {ta tb tc:TE} {pos:Pos}
theorem jh (ha:PE X a ta) (hb:PE X b tb) {pins:List (Addr×Obj)} {s:Shared} {σ:St} {H:Hp} {R:V->V->Hp->Prop} (I:Inv X pins σ H s)
  (h:ta σ H fun x H1=>tb σ H1 fun y H2=>R x y H2) {Q:Value->Shared->Prop} {f:Value->Value->Sem Value}
  (hf:∀ v u s2 x y H2,Inv X pins σ H2 s2->RelV x v->RelV y u->R x y H2->wpAny (model X.prog X.w) X.A (f v u) Q X.xe s2) :
  wpAny (model X.prog X.w) X.A (eval a X.env) (fun v s₁=>wpAny (model X.prog X.w) X.A (eval b X.env) (fun u s₂=>wpAny (model X.prog X.w) X.A (f v u) Q X.xe s₂) X.xe s₁) X.xe s:=by
 refine thn (ha pins s σ H _ I h) fun v s1 ⟨x,H1,I1,r1,q1⟩=>?_
 refine thn (hb pins s1 σ H1 _ I1 q1) fun u s2 ⟨y,H2,I2,r2,q2⟩=>?_
 exact hf v u s2 x y H2 I2 r1 r2 q2
theorem Bc {op:Operator} {r:R2} (ho:OpR X (binaryOp op) r) (ha:PE X a ta) (hb:PE X b tb):PE X (.BinOp a op b pos) (j5 r ta tb):=by
 intro pins s σ H Q I h
 exact wpAny_BinOp (jh ha hb I h fun v u s2 x y H2 I2 rx ry q=>ho pins s2 σ H2 x y v u Q I2 rx ry q)
theorem Bd {op:UnaryOp} {r:V->Hp->VK->Prop} (ho:qy X (unaryOp op) r) (ha:PE X a ta):PE X (.UnaryOp op a pos) (Bb r ta):=by
 intro pins s σ H Q I h
 exact UnaryOp_ (thn (ha pins s σ H _ I h) fun v s1 ⟨x,H1,I1,r1,q1⟩=>ho pins s1 σ H1 x v Q I1 r1 q1)
theorem nY {f:Value->Value->Sem Value} {C:Int->Int->Prop} {g:Int->Int->Int}
  (rule:∀ (i j:Int) (t u:Tok) (s:Shared) (Q:Value->Shared->Prop) (E:Value->Shared->Prop),C i j->Q (.int (g i j) s.toks) { s with toks:=s.toks+1 }->wpAny (model X.prog X.w) X.A (f (.int i t) (.int j u)) Q E s) :
  OpR X f (rI C fun i j=>.int (g i j)):=by
 intro pins s σ H x y v u Q I rx ry h
 obtain ⟨i,j,rfl,rfl,hc,q⟩:=h
 obtain ⟨t,rfl⟩:=rx
 obtain ⟨t',rfl⟩:=ry
 exact rule i j t t' s _ _ hc ⟨.int (g i j),H,I.tok _,⟨_,rfl⟩,q⟩
theorem lr {f:Value->Value->Sem Value} {g:Int->Int->Int}
  (rule:∀ (i j:Int) (t u:Tok) (s:Shared) (Q:Value->Shared->Prop) (E:Value->Shared->Prop),Q (.int (g i j) s.toks) { s with toks:=s.toks+1 }->wpAny (model X.prog X.w) X.A (f (.int i t) (.int j u)) Q E s) :
  OpR X f (iK fun i j=>.int (g i j)):=by
 intro pins s σ H x y v u Q I rx ry h
 obtain ⟨i,j,rfl,rfl,q⟩:=h
 obtain ⟨t,rfl⟩:=rx
 obtain ⟨t',rfl⟩:=ry
 exact rule i j t t' s _ _ ⟨.int (g i j),H,I.tok _,⟨_,rfl⟩,q⟩
theorem gU {f:Value->Value->Sem Value} {g:Int->Int->Bool}
  (rule:∀ (i j:Int) (t u:Tok) (s:Shared) (Q:Value->Shared->Prop) (E:Value->Shared->Prop),Q (.bool (g i j)) s->wpAny (model X.prog X.w) X.A (f (.int i t) (.int j u)) Q E s) :
  OpR X f (iK fun i j=>.bl (g i j)):=by
 intro pins s σ H x y v u Q I rx ry h
 obtain ⟨i,j,rfl,rfl,q⟩:=h
 obtain ⟨t,rfl⟩:=rx
 obtain ⟨t',rfl⟩:=ry
 exact rule i j t t' s _ _ ⟨.bl (g i j),H,I,rfl,q⟩
def qA (i j:Int):Prop:=0<=j/\j<=1000000/\i.natAbs<2 ^ 64
def CMul (i j:Int):Prop:=(-(2 ^ 64)<i/\i<2 ^ 64)\/(-(2 ^ 64)<j/\j<2 ^ 64)
theorem CMul.ok {i j:Int} (h:CMul i j):IntMulOk i j:=by
 rcases h with ⟨h1,h2⟩ | ⟨h1,h2⟩
 ·exact .of_left (intBits_le_64 h1 h2)
 ·exact .of_right (intBits_le_64 h1 h2)
theorem op_add:OpR X (binaryOp .Add) (iK fun i j=>.int (i+j)):=lr fun _ _ _ _ _ _ _ q=>add_int q
theorem Be:OpR X (binaryOp .Sub) (iK fun i j=>.int (i-j)):=lr fun _ _ _ _ _ _ _ q=>sub_int q
theorem Bf:OpR X (binaryOp .Mod) (rI (fun _ j=>0<j) fun i j=>.int (i % j)):=nY fun i j _ _ _ _ _ hc q=>by
 have h1:(0:Int)<j:=hc
 exact mod_int' (by lia) (by rw [Int.fmod_eq_emod_of_nonneg i (by lia)];exact q)
theorem Bg:OpR X (binaryOp .Pow) (rI qA fun i j=>.int (i ^ j.toNat)):=nY fun _ _ _ _ _ _ _ hc q=>pow_int_small hc.1 hc.2.1 hc.2.2 q
theorem Bh {f:Value->Sem Value} {g:Int->Int}
  (rule:∀ (i:Int) (t:Tok) (s:Shared) (Q:Value->Shared->Prop) (E:Value->Shared->Prop),Q (.int (g i) s.toks) { s with toks:=s.toks+1 }->wpAny (model X.prog X.w) X.A (f (.int i t)) Q E s) :
  qy X f (rU fun i=>.int (g i)):=by
 intro pins s σ H x v Q I rx h
 obtain ⟨i,rfl,q⟩:=h
 obtain ⟨t,rfl⟩:=rx
 exact rule i t s _ _ ⟨.int (g i),H,I.tok _,⟨_,rfl⟩,q⟩
theorem Bi:qy X (unaryOp .USub) (rU fun i=>.int (-i)):=Bh fun _ _ _ _ _ q=>neg_int q
end
def ji:V->V->Bool
 | .non,.non=>true | .non,.int _=>true | .int _,.non=>true | .non,.bl _=>true | .bl _,.non=>true | .non,.str _=>true | .str _,.non=>true
 | .int _,.int _=>true | .bl _,.bl _=>true | .str _,.str _=>true | .byt _,.byt _=>true
 | .int _,.str _=>true | .str _,.int _=>true | .bl _,.str _=>true | .str _,.bl _=>true
 | _,_=>false
def Bj:R2:=fun x y H Q=>ji x y=true/\Q (.bl (decide (x=y))) H
def Bk:R2:=fun x y H Q=>ji x y=true/\Q (.bl (!decide (x=y))) H
theorem vK {i j:Int}:decide (V.int i=V.int j)=(i == j):=by
 rw [K5]
 simp
theorem vL {i j:Bool}:decide (V.bl i=V.bl j)=(i == j):=by
 rw [K5]
 simp
theorem vM {i j:Str}:decide (V.str i=V.str j)=(i == j):=by
 rw [K5]
 simp
theorem vN {i j:Array UInt8}:decide (V.byt i=V.byt j)=(i.toList == j.toList):=by
 rw [K5]
 cases i
 cases j
 simp
section
variable {X:Cx} {a b c:Expr} {ta tb tc:TE} {pos:Pos}
theorem bZ {pins:List (Addr×Obj)} {σ:St} {H:Hp} {s:Shared} {Q:VK} {k k':Bool} (I:Inv X pins σ H s) (q:Q (.bl k) H) (e:k=k'):EP X pins σ Q (.bool k') s:=by
 subst e
 exact ⟨.bl k,H,I,rfl,q⟩
theorem op_eq:OpR X (compareOp .Eq) Bj:=by
 intro pins s σ H x y v u Q I rx ry h
 obtain ⟨hs,q⟩:=h
 cases x with
 | non =>
  cases rx
  cases y with
  | non=>cases ry;exact PySem.EqNone.eq_none_none (bZ I q (by simp))
  | bl j=>cases ry;exact PySem.EqNone.eq_none_bool (bZ I q (by simp))
  | int j=>obtain ⟨t',rfl⟩:=ry;exact PySem.EqNone.eq_none_int (bZ I q (by simp))
  | str j=>obtain ⟨t',rfl⟩:=ry;exact PySem.EqNone.eq_none_str (bZ I q (by simp))
  | _=>exact absurd (show false=true from hs) JZ
 | bl i =>
  cases rx
  cases y with
  | non=>cases ry;exact PySem.EqNone.eq_bool_none (bZ I q (by simp))
  | bl j=>cases ry;exact eq_bool (bZ I q vL)
  | str j=>obtain ⟨t',rfl⟩:=ry;exact PySem.EqMixed.eq_bool_str (bZ I q (by simp))
  | _=>exact absurd (show false=true from hs) JZ
 | int i =>
  obtain ⟨t,rfl⟩:=rx
  cases y with
  | non=>cases ry;exact PySem.EqNone.eq_int_none (bZ I q (by simp))
  | int j=>obtain ⟨t',rfl⟩:=ry;exact eq_int (bZ I q vK)
  | str j=>obtain ⟨t',rfl⟩:=ry;exact PySem.EqMixed.eq_int_str (bZ I q (by simp))
  | _=>exact absurd (show false=true from hs) JZ
 | str i =>
  obtain ⟨t,rfl⟩:=rx
  cases y with
  | non=>cases ry;exact PySem.EqNone.eq_str_none (bZ I q (by simp))
  | bl j=>cases ry;exact PySem.EqMixed.eq_str_bool (bZ I q (by simp))
  | int j=>obtain ⟨t',rfl⟩:=ry;exact PySem.EqMixed.eq_str_int (bZ I q (by simp))
  | str j=>obtain ⟨t',rfl⟩:=ry;exact eq_str (bZ I q vM)
  | _=>exact absurd (show false=true from hs) JZ
 | byt i =>
  obtain ⟨t,rfl⟩:=rx
  cases y with
  | byt j=>obtain ⟨t',rfl⟩:=ry;exact PySem.W.eq_bytes (bZ I q vN)
  | _=>exact absurd (show false=true from hs) JZ
 | _=>cases y<;>exact absurd (show false=true from hs) JZ
theorem op_ne:OpR X (compareOp .NotEq) Bk:=by
 intro pins s σ H x y v u Q I rx ry h
 obtain ⟨hs,q⟩:=h
 cases x with
 | non =>
  cases rx
  cases y with
  | non=>cases ry;exact PySem.EqNone.ne_none_none (bZ I q (by simp))
  | bl j=>cases ry;exact PySem.EqNone.ne_none_bool (bZ I q (by simp))
  | int j=>obtain ⟨t',rfl⟩:=ry;exact PySem.EqNone.ne_none_int (bZ I q (by simp))
  | str j=>obtain ⟨t',rfl⟩:=ry;exact PySem.EqNone.ne_none_str (bZ I q (by simp))
  | _=>exact absurd (show false=true from hs) JZ
 | bl i =>
  cases rx
  cases y with
  | non=>cases ry;exact PySem.EqNone.ne_bool_none (bZ I q (by simp))
  | bl j=>cases ry;exact ne_bool (bZ I q (congrArg not vL))
  | str j=>obtain ⟨t',rfl⟩:=ry;exact PySem.EqMixed.ne_bool_str (bZ I q (by simp))
  | _=>exact absurd (show false=true from hs) JZ
 | int i =>
  obtain ⟨t,rfl⟩:=rx
  cases y with
  | non=>cases ry;exact PySem.EqNone.ne_int_none (bZ I q (by simp))
  | int j=>obtain ⟨t',rfl⟩:=ry;exact ne_int (bZ I q (congrArg not vK))
  | str j=>obtain ⟨t',rfl⟩:=ry;exact PySem.EqMixed.ne_int_str (bZ I q (by simp))
  | _=>exact absurd (show false=true from hs) JZ
 | str i =>
  obtain ⟨t,rfl⟩:=rx
  cases y with
  | non=>cases ry;exact PySem.EqNone.ne_str_none (bZ I q (by simp))
  | bl j=>cases ry;exact PySem.EqMixed.ne_str_bool (bZ I q (by simp))
  | int j=>obtain ⟨t',rfl⟩:=ry;exact PySem.EqMixed.ne_str_int (bZ I q (by simp))
  | str j=>obtain ⟨t',rfl⟩:=ry;exact ne_str (bZ I q (congrArg not vM))
  | _=>exact absurd (show false=true from hs) JZ
 | byt i =>
  obtain ⟨t,rfl⟩:=rx
  cases y with
  | byt j=>obtain ⟨t',rfl⟩:=ry;exact PySem.W.ne_bytes (bZ I q (congrArg not vN))
  | _=>exact absurd (show false=true from hs) JZ
 | _=>cases y<;>exact absurd (show false=true from hs) JZ
theorem op_lt:OpR X (compareOp .Lt) (iK fun i j=>.bl (decide (i<j))):=gU fun _ _ _ _ _ _ _ q=>lt_int q
theorem op_le:OpR X (compareOp .LtE) (iK fun i j=>.bl (decide (i<=j))):=gU fun _ _ _ _ _ _ _ q=>le_int q
theorem Bm:OpR X (compareOp .Gt) (iK fun i j=>.bl (decide (j<i))):=gU fun _ _ _ _ _ _ _ q=>gt_int q
theorem Bn:OpR X (compareOp .GtE) (iK fun i j=>.bl (decide (j<=i))):=gU fun _ _ _ _ _ _ _ q=>ge_int q
theorem Bo:OpR X (compareOp .Lt) (fun x y H Q=>∃ i j,x = .str i/\y = .str j/\Q (.bl (decide (i.cps.toList<j.cps.toList))) H):=by
 intro pins s σ H x y v u Q I rx ry h
 obtain ⟨i,j,rfl,rfl,q⟩:=h
 obtain ⟨t,rfl⟩:=rx
 obtain ⟨t',rfl⟩:=ry
 exact lt_str (bZ I q rfl)
theorem zgZ:OpR X (compareOp .In) (fun x y H Q=>∃ i j,x = .str i/\y = .str j/\Q (.bl (!(Builtin.Str.occurrences j i 0 j.length 1).isEmpty)) H):=by
 intro pins s σ H x y v u Q I rx ry h
 obtain ⟨i,j,rfl,rfl,q⟩:=h
 obtain ⟨t,rfl⟩:=rx
 obtain ⟨t',rfl⟩:=ry
 exact in_str (bZ I q rfl)
theorem OpR.or {f:Value->Value->Sem Value} {r r':R2} (h:OpR X f r) (h':OpR X f r'):OpR X f (fun x y H Q=>r x y H Q\/r' x y H Q):=by
 intro pins s σ H x y v u Q I rx ry q
 rcases q with q | q
 ·exact h pins s σ H x y v u Q I rx ry q
 ·exact h' pins s σ H x y v u Q I rx ry q
theorem bz (b:Expr) {op:CmpOp} (h:op ≠ .In:=by decide) (h2:op ≠ .NotIn:=by decide):behindInMarks op b=false:=by
 have e1:(op == CmpOp.In)=false:=by cases op<;>first | rfl | exact absurd rfl h
 have e2:(op == CmpOp.NotIn)=false:=by cases op<;>first | rfl | exact absurd rfl h2
 cases b<;>simp [behindInMarks,e1,e2]
theorem Bp {op:CmpOp} {r:R2} (ho:OpR X (compareOp op) r) (ha:PE X a ta) (hb:PE X b tb) (hm:behindInMarks op b=false):PE X (.Compare a [op] [b] pos) (j5 r ta tb):=by
 intro pins s σ H Q I h
 exact wpAny_Compare1 (jh ha hb I h fun v u s2 x y H2 I2 rx ry q=>ho pins s2 σ H2 x y v u Q I2 rx ry q) hm
def Bq (t:TE):TT:=fun σ H Q=>t σ H fun x H' => ∃ k,x = .bl k/\Q k H'
theorem Br {op:CmpOp} {r:R2} (ho:OpR X (compareOp op) r) (ha:PE X a ta) (hb:PE X b tb) (hm:behindInMarks op b=false):PT X (.Compare a [op] [b] pos) (Bq (j5 r ta tb)):=by
 intro pins s σ H Q I h
 refine wpAny_isTrue_Compare1 (thn (ha pins s σ H _ I h) fun v s1 ⟨x,H1,I1,r1,q1⟩=>thn (hb pins s1 σ H1 _ I1 q1) fun u s2 ⟨y,H2,I2,r2,q2⟩ =>
  thn (ho pins s2 σ H2 x y v u _ I2 r1 r2 q2) fun c s3 ⟨z,H3,I3,r3,k,e,q3⟩=>?_) hm
 subst e
 cases r3
 exact Lc ⟨H3,I3,q3⟩
def vO (r r':R2) (ta tb tc:TE):TE:=fun σ H Q=>ta σ H fun x H1=>tb σ H1 fun y H2=>r x y H2 fun z H3=>∃ k,z = .bl k /\
 (if k=true then tc σ H3 fun w' H4=>r' y w' H4 Q else Q (.bl false) H3)
theorem Bs {op op':CmpOp} {r r':R2} (ho:OpR X (compareOp op) r) (ho':OpR X (compareOp op') r') (ha:PE X a ta) (hb:PE X b tb) (hc:PE X c tc)
  (hm:lastMarks [op,op'] [b,c]=false:=by with_unfolding_all rfl):PE X (.Compare a [op,op'] [b,c] pos) (vO r r' ta tb tc):=by
 intro pins s σ H Q I h
 refine Compare_chain (thn (ha pins s σ H _ I h) fun v s1 ⟨x,H1,I1,r1,q1⟩=>chain_link (thn (hb pins s1 σ H1 _ I1 q1) fun u s2 ⟨y,H2,I2,r2,q2⟩ =>
  thn (ho pins s2 σ H2 x y v u _ I2 r1 r2 q2) fun d s3 ⟨z,H3,I3,r3,k,e,q3⟩=>?_)) hm
 subst e
 cases r3
 refine Lc ?_
 cases k with
 | false=>exact ite_ff ⟨.bl false,H3,I3,rfl,q3⟩
 | true=>exact ite_tt (chain_last (thn (hc pins s3 σ H3 _ I3 q3) fun w' s4 ⟨z',H4,I4,r4,q4⟩=>ho' pins s4 σ H4 y z' u w' Q I4 r2 r4 q4))
def jl (K:PySem.W.Frag) (x:V) (H:Hp) (k:Bool):Prop :=
 match x with
 | .non=>k=false
 | .bl b=>k=b
 | .int i=>k=(i != 0)
 | .str y=>y.length<=sizeLine/\k=((y.length:Int) != 0)
 | .byt y=>y.size<=sizeLine/\k=((y.size:Int) != 0)
 | .ref p=>(∃ xs,SqL K H p xs/\k = !xs.isEmpty)\/(∃ xs,SqT K H p xs/\k = !xs.isEmpty)\/∃ kvs,H p=some (.dK kvs)/\k = !kvs.isEmpty
 | _=>False
theorem Bt {κ:Type} {kvs:List (κ×V)} {vs:List (κ×Value)} (r:KV kvs vs):(!vs.isEmpty) = !kvs.isEmpty:=by
 cases r<;>rfl
theorem vP {xs:List V} {its:List Value} (r:Vals xs its):(!its.toArray.isEmpty) = !xs.isEmpty:=by
 cases r<;>simp
theorem jm:(sizeLine:Nat)<2 ^ 63:=by rw [sizeLine_eq];decide
theorem Bu:qz X (fun x H Q=>∃ k,jl X.K x H k/\Q k H):=by
 intro pins s σ H x v Q I rx h
 obtain ⟨k,e,q⟩:=h
 have hl:=jm
 have hs:sizeLine=16777216:=sizeLine_eq
 cases x with
 | non =>
  cases rx
  have e':k=false:=e
  subst e'
  exact truthy_none ⟨H,I,q⟩
 | bl b =>
  cases rx
  have e':k=b:=e
  subst e'
  exact Lc ⟨H,I,q⟩
 | int i =>
  obtain ⟨t,rfl⟩:=rx
  have e':k=(i != 0):=e
  subst e'
  exact PySem.P.truthy_int ⟨H,I,q⟩
 | str y =>
  obtain ⟨t,rfl⟩:=rx
  obtain ⟨hy,e'⟩:y.length<=sizeLine/\k=((y.length:Int) != 0):=e
  subst e'
  exact PySem.P.truthy_str (by lia) ⟨H,I.tok _,q⟩
 | byt y =>
  obtain ⟨t,rfl⟩:=rx
  obtain ⟨hy,e'⟩:y.size<=sizeLine/\k=((y.size:Int) != 0):=e
  subst e'
  exact PySem.W.truthy_bytes (by lia) ⟨H,I.tok _,q⟩
 | ref p =>
  cases rx
  have e':(∃ xs,SqL X.K H p xs/\k = !xs.isEmpty)\/(∃ xs,SqT X.K H p xs/\k = !xs.isEmpty)\/∃ kvs,H p=some (.dK kvs)/\k = !kvs.isEmpty:=e
  rcases e' with ⟨xs,hx,e'⟩ | ⟨xs,hx,e'⟩ | ⟨kvs,hx,e'⟩
  ·subst e'
   obtain ⟨its,r,pl,hz⟩:=I.list hx
   have hlen:=r.length
   exact wpAny_truthy_list pl.isList (by simp only [JO];lia) ⟨H,I.tok _,by rw [vP r];exact q⟩
  ·subst e'
   obtain ⟨its,r,pl,hz⟩:=I.tuple hx
   have hlen:=r.length
   exact truthy_tuple pl (by simp only [JO];lia) ⟨H,I.tok _,by rw [vP r];exact q⟩
  ·subst e'
   obtain ⟨hz,hS,vs,r,m⟩:kvs.length<=sizeLine/\(p == sysModules)=false/\∃ vs,KV kvs vs/\s.heap.DictOf (fq X.prog X.w) p vs:=I.hok p _ hx
   have hlen:kvs.length=vs.length:=Paired.length r
   exact wpAny_truthy_dict hS m (by lia) ⟨H,I.tok _,by rw [Bt r];exact q⟩
 | _=>exact (show False from e).elim
theorem Bv (ha:PE X a ta) (he:∀ whole,isTrue a X.env whole=(do let v <- whole;standAt a.pos;holding [v] (truthy v))) :
  PT X a (fun σ H Q=>ta σ H fun x H' => ∃ k,jl X.K x H' k/\Q k H'):=by
 intro pins s σ H Q I h
 exact isTrue_plain (thn (ha pins s σ H _ I h) fun v s1 ⟨x,H1,I1,r1,q1⟩=>Bu pins s1 σ H1 x v Q I1 r1 q1) (he _)
theorem zgn:OpR X (binaryOp .Add) (fun x y H Q=>∃ i j,x = .str i/\y = .str j/\i.length+j.length<=sizeLine/\Q (.str (i++j)) H):=by
 intro pins s σ H x y v u Q I rx ry h
 obtain ⟨i,j,rfl,rfl,hz,q⟩:=h
 obtain ⟨t,rfl⟩:=rx
 obtain ⟨t',rfl⟩:=ry
 exact add_str (fun t' tk=>⟨.str (i++j),H,I.tok _,⟨_,rfl⟩,q⟩) hz
theorem gW {x:V} {us:List Value} (r:Vals [x] us):∃ u,us=[u]/\RelV x u:=by
 cases r with
 | cons r1 r2=>cases r2;exact ⟨_,rfl,r1⟩
theorem qB {x y:V} {us:List Value} (r:Vals [x,y] us):∃ u w',us=[u,w']/\RelV x u/\RelV y w' := by
 cases r with
 | cons r1 r2 =>
  cases r2 with
  | cons r3 r4=>cases r4;exact ⟨_,_,rfl,r1,r3⟩
theorem Bw:CallR X (.builtin "abs") (fun xs H Q=>∃ i,xs=[.int i]/\Q (.int (if i<0 then -i else i)) H):=by
 intro pins s σ H xs us Q I r h
 obtain ⟨i,rfl,q⟩:=h
 obtain ⟨u,rfl,t,rfl⟩:=gW r
 exact call_abs_int fun u tk=>⟨.int (if i<0 then -i else i),H,I.tok _,⟨_,rfl⟩,q⟩
theorem Bx (hc:X.calm=true):CallR X (.builtin "max") (fun xs H Q=>∃ i j,xs=[.int i,.int j]/\Q (.int (if j > i then j else i)) H):=by
 intro pins s σ H xs us Q I r h
 obtain ⟨i,j,rfl,q⟩:=h
 obtain ⟨u,w',rfl,⟨t,rfl⟩,⟨t',rfl⟩⟩:=qB r
 refine max_two_ints (I.ok.hd hc) fun h' tk k=>⟨_,H,I.kept k,?_,q⟩
 by_cases hj:j > i
 ·rw [JJ hj,JJ hj];exact ⟨_,rfl⟩
 ·rw [JM hj,JM hj];exact ⟨_,rfl⟩
end
end L2
namespace L2
open PySem PySem.Spec PyProof.Rows
structure ObjM (h:Heap) (x dx C:Addr) (mA:Str->Option Value):Prop where
 obj:h.get? x=some (PySem.W.instObj C dx)
 ns:h.Ns1 dx mA
 ne:dx≠x
theorem By {h:Heap} {dx:Addr} {mA:Str->Option Value} (n:h.Ns1 dx mA):∃ od,h.get? dx=some od/\∀ name,PySem.W.lookIn name od=some (mA name):=by
 obtain ⟨o,es,ep,ho,hd,hk,_,hm⟩:=n
 refine ⟨o,ho,fun name=>?_⟩
 have e:=hm name
 unfold nsFind findBy at e
 rw [<- Array.find?_toList] at e
 unfold PySem.W.lookIn
 rw [hd]
 dsimp only
 split
 ·rename_i y q
  rw [q] at e
  exact congrArg some e
 ·rename_i q
  rw [q] at e
  have a:es.toList.any (·.refKey)=false:=by
   rw [List.any_eq_false]
   intro y hy
   obtain ⟨z,t,hkey⟩:=hk y (Array.mem_toList_iff.mp hy)
   simp [DictEntry.refKey,hkey]
  have a' : ¬ es.toList.any (·.refKey)=true:=by rw [a];exact JZ
  rw [JM a']
  exact congrArg some e
theorem ObjM.look {h:Heap} {x dx C:Addr} {mA:Str->Option Value} (I:ObjM h x dx C mA):∃ od,PySem.W.InstAt h x (PySem.W.instObj C dx) C (some od)/\∀ name,PySem.W.lookIn name od=some (mA name) :=
 let ⟨od,ho,hl⟩:=By I.ns
 ⟨od,⟨I.obj,rfl,rfl,ho⟩,hl⟩
section
variable {prog:Program} {w:World} {A:Around} {E:Value->Shared->Prop} {s:Shared} {K:PySem.W.Frag} {x dx C f:Addr} {mA:Str->Option Value} {name:Str} {v:Value}
theorem Bz {expr:Bool} {Q:Value->Shared->Prop} (X:K.In s.heap) (I:ObjM s.heap x dx C mA) (hg:PySem.W.plainGet K C name=true) (hh:PySem.W.hasDictIn K C=true)
  (ha:PySem.W.findIn K (.ref C) name=some none) (hv:mA name=some v) (hv':PySem.W.handedIn v=true) (h:Q v { s with toks:=s.toks+1 }) :
  wpAny (model prog w) A (getAttr (.ref x) name expr) Q E s:=by
 obtain ⟨od,J,hl⟩:=I.look
 exact PySem.W.get_value X J (MO hg).1 (PySem.W.findObj_own hh ha rfl (by rw [hl,hv])) hv' h
theorem BB {pl:Sem Bool} {Q:Value×List Value->Shared->Prop} (X:K.In s.heap) (I:ObjM s.heap x dx C mA) (hg:PySem.W.plainGet K C name=true)
  (hf:PySem.W.findIn K (.ref C) name=some (some (.ref f))) (ht:PySem.W.isFn K (.ref f)=true) (hv:mA name=none) (h:Q (.ref f,[.ref x]) s) :
  wpAny (model prog w) A (getMethod (.ref x) name pl) Q E s:=by
 obtain ⟨od,J,hl⟩:=I.look
 exact PySem.W.method_fn X J (MO hg).1 (MO hg).2 hf (beq_iff_eq.mp ht) (by show (PySem.W.lookIn name od).map (·.isSome)=some false;rw [hl,hv];rfl) h
theorem BC {ns:List Str} {Q:Unit->Shared->Prop} (X:K.In s.heap) (I:ObjM s.heap x dx C mA)
  (hs:PySem.W.findIn K (.ref C) "__setattr__" = some (some (.builtin "object.__setattr__"))) (hp:PySem.W.plainOver K C=true) (ht:PySem.W.takerIn K C name=some none) (hh:PySem.W.hasDictIn K C=true)
  (hw:PySem.Within mA ns) (hsz:ns.length<=sizeLine)
  (h:∀ h',ObjM h' x dx C (fun y=>if y=name then some v else mA y)->Heap.SameBut dx s.heap h'->Q () { s with heap:=h',toks:=s.toks+2 }) :
  wpAny (model prog w) A (setAttr (.ref x) name v) Q E s:=by
 obtain ⟨od,J,hl⟩:=I.look
 refine PySem.W.set_plain X J hs (PySem.W.osa_open (s:={ s with toks:=s.toks+1 }) (r:=none) X J hp ht fun b=>?_)
 obtain ⟨cd,hc,hd'⟩:=PySem.W.any_some hh
 have hx:s.heap.get? x=some ⟨.ref C,some dx,.plain,#[]⟩:=I.obj
 refine JG (J2 (JG (JG (wpAny_loadPart hx (JG (PySem.W.Looks.here (s:={ s with toks:=s.toks+1 }) (PySem.W.looks_clsIn X hc) ?_))))))
 rw [hd']
 refine J2 (a:=some dx) (JG (J2 (JG ?_)))
 refine wpAny_nsSet1 (s:={ s with toks:=s.toks+1 }) I.ns fun h' hn2 hs2=>?_
 obtain ⟨oD,esD,epD,hoD,hdD,hcD⟩:=hn2.count (PySem.Within.cons name v hw)
 refine JG (wpAny_lookBehind hoD (by rw [hdD];exact pastItsLine_dict (JK hcD (by rw [J6];lia))) ?_)
 exact J2 (h _ ⟨(hs2.2 _ (Ne.symm I.ne)).trans I.obj,hn2,I.ne⟩ hs2)
theorem BD {R:Result->Shared->Prop} {vs:List Value} {kw:List (Str×Value)} (X:K.In s.heap) (hm:PySem.W.makesIn K C=true)
  (hi:PySem.W.findIn K (.ref C) "__init__" = some (some (.ref f))) (hf:PySem.W.typeIn K (.ref f)=some (.type "function"))
  (h:codeAny (model prog w) (A.under (.builtin "type.__call__" ⟨.ref C::vs,kw⟩)) (.call (.ref f) ⟨.ref (s.heap.objs.size+1)::vs,kw⟩) (PySem.W.InitBack (s.heap.objs.size+1) R)
   { s with heap:=(s.heap.push PySem.W.emptyDict).push (PySem.W.instObj C s.heap.objs.size) }) :
  codeAny (model prog w) A (.call (.ref C) ⟨vs,kw⟩) R s:=by
 obtain ⟨hh,g,d,t,os⟩:=s
 exact PySem.W.make_core (PySem.W.makes_of X hm) (PySem.W.looks_findIn X hi) (fun self=>PySem.W.bind_fn X self hf) (.inl rfl) h
end
def bC (f:Str) (v:V):List (Str×V)->List (Str×V)
 | []=>[(f,v)]
 | (g,x)::r=>if g=f then (g,v)::r else (g,x)::bC f v r
theorem nZ (f g:Str) (v:V):∀ fs:List (Str×V),(bC f v fs).lookup g=if g=f then some v else fs.lookup g
 | []=>by
  show List.lookup g [(f,v)]=_
  by_cases h:g=f
  ·have hb:(g == f)=true:=beq_iff_eq.mpr h
   simp only [List.lookup,hb,JJ h]
  ·have hb:(g == f)=false:=beq_eq_false_iff_ne.mpr h
   simp only [List.lookup,hb,JM h]
 | (k,x)::r=>by
  have ih:=nZ f g v r
  rw [show bC f v ((k,x)::r)=(if k=f then (k,v)::r else (k,x)::bC f v r) from rfl]
  by_cases hk:k=f
  ·rw [JJ hk]
   by_cases h:g=k
   ·have hb:(g == k)=true:=beq_iff_eq.mpr h
    simp only [List.lookup,hb,JJ (h.trans hk)]
   ·have hb:(g == k)=false:=beq_eq_false_iff_ne.mpr h
    simp only [List.lookup,hb,JM (fun e:g=f=>h (e.trans hk.symm))]
  ·rw [JM hk]
   by_cases h:g=k
   ·have hb:(g == k)=true:=beq_iff_eq.mpr h
    simp only [List.lookup,hb,JM (fun e:g=f=>hk (h.symm.trans e))]
   ·have hb:(g == k)=false:=beq_eq_false_iff_ne.mpr h
    simp only [List.lookup,hb]
    exact ih
theorem qC (f:Str) (v:V):∀ fs:List (Str×V),f∈(bC f v fs).map (·.1)/\∀ g,g∈fs.map (·.1)->g∈(bC f v fs).map (·.1)
 | []=>⟨by simp [bC],fun g h=>by simp at h⟩
 | (k,x)::r=>by
  obtain ⟨i1,i2⟩:=qC f v r
  rw [show bC f v ((k,x)::r)=(if k=f then (k,v)::r else (k,x)::bC f v r) from rfl]
  by_cases hk:k=f
  ·rw [JJ hk]
   subst hk
   exact ⟨by simp,fun g h=>by simpa using h⟩
  ·rw [JM hk]
   refine ⟨?_,fun g h=>?_⟩
   ·rw [JS]
    exact J7 _ i1
   ·rw [JS] at h ⊢
    rcases J8.mp h with e | e
    ·exact J8.mpr (.inl e)
    ·exact J7 _ (i2 g e)
theorem vQ (f:Str) (v:V):∀ fs:List (Str×V),(bC f v fs).length<=fs.length+1
 | []=>by simp [bC]
 | (k,x)::r=>by
  have ih:=vQ f v r
  rw [show bC f v ((k,x)::r)=(if k=f then (k,v)::r else (k,x)::bC f v r) from rfl]
  by_cases hk:k=f
  ·rw [JJ hk,J6,J6];lia
  ·rw [JM hk,J6,J6];lia
theorem RelO.some_of {v:V} {o:Option Value} (r:RelO (some v) o):∃ u,o=some u/\RelV v u:=by
 cases o with
 | none=>exact (show False from r).elim
 | some u=>exact ⟨u,rfl,r⟩
theorem RelO.none_of {o:Option Value} (r:RelO none o):o=none:=by
 cases o with
 | none=>rfl
 | some u=>exact (show False from r).elim
theorem BE {v:V} {u:Value} (r:RelV v u):PySem.W.handedIn u=true:=by
 cases v with
 | non=>cases (show u=Value.none from r);rfl
 | bl b=>cases (show u=Value.bool b from r);rfl
 | int i=>obtain ⟨t,e⟩:=(show ∃ t,u=Value.int i t from r);cases e;rfl
 | str x=>obtain ⟨t,e⟩:=(show ∃ t,u=Value.str x t from r);cases e;rfl
 | byt b=>obtain ⟨t,e⟩:=(show ∃ t,u=Value.bytes b t from r);cases e;rfl
 | flt b=>obtain ⟨t,e⟩:=(show ∃ t,u=Value.float b t from r);cases e;rfl
 | ref a=>cases (show u=Value.ref a from r);rfl
 | ty n=>cases (show u=Value.type n from r);rfl
section
variable {P:Program} {w:World} {H H':Hp} {h h':Heap} {a C dx:Addr} {fs fs':List (Str×V)}
theorem n5 (hok:HOk P w H h) (e:H a=some (.ins C dx fs)):∃ mA,ObjM h a dx C mA/\(∀ f,RelO (fs.lookup f) (mA f))/\PySem.Within mA (fs.map (·.1))/\fs.length<=1000/\H dx=some (.own a):=by
 obtain ⟨d,z,ne,ob,mA,n,r,q⟩:=(show ObjOk P w H h a (.ins C dx fs) from hok a _ e)
 exact ⟨mA,⟨ob,n,ne⟩,r,q,z,d⟩
end
structure Cls (K:PySem.W.Frag) (C:Addr):Prop where
 pg:PySem.W.plainGet K C Str.empty=true
 hd:PySem.W.hasDictIn K C=true
 po:PySem.W.plainOver K C=true
 sa:PySem.W.findIn K (.ref C) "__setattr__" = some (some (.builtin "object.__setattr__"))
theorem Cls.get {K:PySem.W.Frag} {C:Addr} (c:Cls K C) (f:Str):PySem.W.plainGet K C f=true:=c.pg
def NoAttr (K:PySem.W.Frag) (C:Addr) (f:Str):Prop:=PySem.W.findIn K (.ref C) f=some none
theorem NoAttr.taker {K:PySem.W.Frag} {C:Addr} {f:Str} (n:NoAttr K C f):PySem.W.takerIn K C f=some none:=by
 unfold PySem.W.takerIn
 rw [show PySem.W.findIn K (.ref C) f=some none from n]
 rfl
structure fX (K:PySem.W.Frag) (C:Addr) (m:Str) (f:Addr):Prop where
 at_:PySem.W.findIn K (.ref C) m=some (some (.ref f))
 fn:PySem.W.isFn K (.ref f)=true
 kp:PySem.W.keepIn K (.ref f)=true
section
variable {X:Cx} {pins:List (Addr×Obj)} {σ:St} {H:Hp} {s:Shared} {a C dx:Addr} {fs:List (Str×V)} {f:Str} {v:V} {A:Around} {E:Value->Shared->Prop}
theorem BF {b:Bool} {Q:Value->Shared->Prop} (I:Inv X pins σ H s) (e:H a=some (.ins C dx fs)) (c:Cls X.K C) (n:NoAttr X.K C f) (l:fs.lookup f=some v)
  (h:∀ u s',Inv X pins σ H s'->RelV v u->Q u s'):wpAny (model X.prog X.w) A (getAttr (.ref a) f b) Q E s:=by
 obtain ⟨mA,O,r,_,_,_⟩:=n5 I.hok e
 obtain ⟨u,hu,ru⟩:=RelO.some_of (v:=v) (o:=mA f) (by rw [<- l];exact r f)
 exact Bz I.kIn O (c.get f) c.hd n hu (BE ru) (h u _ (I.tok _) ru)
theorem vR {m:Str} {g:Addr} {pl:Sem Bool} {Q:Value×List Value->Shared->Prop} (I:Inv X pins σ H s) (e:H a=some (.ins C dx fs)) (c:Cls X.K C) (k:fX X.K C m g) (l:fs.lookup m=none)
  (h:Q (.ref g,[.ref a]) s):wpAny (model X.prog X.w) A (getMethod (.ref a) m pl) Q E s:=by
 obtain ⟨mA,O,r,_,_,_⟩:=n5 I.hok e
 have hn:mA m=none:=RelO.none_of (by rw [<- l];exact r m)
 exact BB I.kIn O (c.get m) k.at_ k.fn hn h
theorem BG {y:V} {u:Value} {Q:Unit->Shared->Prop} (I:Inv X pins σ H s) (e:H a=some (.ins C dx fs)) (c:Cls X.K C) (n:NoAttr X.K C f) (hl:fs.length<1000) (ry:RelV y u)
  (h:∀ s',Inv X pins σ (aK H a (.ins C dx (bC f y fs))) s'->Q () s'):wpAny (model X.prog X.w) A (setAttr (.ref a) f u) Q E s:=by
 obtain ⟨mA,O,r,wi,_,ho⟩:=n5 I.hok e
 have hz:(fs.map (·.1)).length<=sizeLine:=by rw [J0,sizeLine_eq];lia
 refine BC I.kIn O c.sa c.po n.taker c.hd wi hz fun h' O' sb=>h _ ?_
 have hd:∃ o,h'.get? dx=some o:=let ⟨o,_,_,e',_⟩:=O'.ns;⟨o,e'⟩
 refine I.write (x:=a) (e:=dx) (by rw [e];exact True.intro) (.inr ho) (fun b q hb z=>(sb.2 b hb).trans z) hd ?_
 refine ⟨by rw [bL O.ne];exact ho,?_,O.ne,O'.obj,_,O'.ns,fun g=>?_,fun g hg=>?_⟩
 ·have:=vQ f y fs;lia
 ·show RelO ((bC f y fs).lookup g) (if g=f then some u else mA g)
  rw [nZ]
  by_cases q:g=f
  ·rw [JJ q,JJ q];exact ry
  ·rw [JM q,JM q];exact r g
 ·by_cases q:g=f
  ·rw [q];exact (qC f y fs).1
  ·refine (qC f y fs).2 g (wi g fun z=>hg ?_)
   show (if g=f then some u else mA g)=none
   rw [JM q];exact z
theorem Inv.made (I:Inv X pins σ H s):Inv X pins σ (aK (aK H s.heap.objs.size (.own (s.heap.objs.size+1))) (s.heap.objs.size+1) (.ins C s.heap.objs.size []))
  { s with heap:=(s.heap.push PySem.W.emptyDict).push (PySem.W.instObj C s.heap.objs.size) }:=by
 have e1:(s.heap.push PySem.W.emptyDict).get? s.heap.objs.size=some PySem.W.emptyDict:=Kc s.heap rfl
 have e2:((s.heap.push PySem.W.emptyDict).push (PySem.W.instObj C s.heap.objs.size)).get? (s.heap.objs.size+1)=some (PySem.W.instObj C s.heap.objs.size):=by
  have:=Kc (s.heap.push PySem.W.emptyDict) (o:=PySem.W.instObj C s.heap.objs.size) rfl
  rwa [NO] at this
 have e3:(s.heap.push PySem.W.emptyDict).Ns s.heap.objs.size (fun _=>none):=⟨PySem.W.emptyDict,#[],_,e1,rfl,(fun e he=>absurd he (by simp)),fun _=>rfl⟩
 have I1:=I.laid (a:=s.heap.objs.size) (o:=.own (s.heap.objs.size+1)) (h' := s.heap.push PySem.W.emptyDict) (t' := s.toks) (fun b u q=>JH _ q) (JE _) ⟨_,e1⟩
 refine I1.laid (a:=s.heap.objs.size+1) (o:=.ins C s.heap.objs.size []) (t' := s.toks) (fun b u q=>JH _ q) (MS (NO _ _)) ?_
 have ne:s.heap.objs.size≠s.heap.objs.size+1:=Ko (Nh _)
 refine ⟨by rw [bL ne,dQ],Kk _,ne,e2,fun _=>none,(Heap.Ns1.of_empty e3).at fun o q=>JH _ q,fun _=>True.intro,fun y hy=>absurd rfl hy⟩
theorem BH {prog:Program} {w:World} {env:Env} {e:Expr} {f:Str} {pos:Pos} {s:Shared} {Q:Value->Shared->Prop} (hb:attributeBase e f env (eval e env)=eval e env)
  (h:wpAny (model prog w) A (eval e env) (fun o s₁=>wpAny (model prog w) A (getAttr o f true) Q E s₁) E s):wpAny (model prog w) A (eval (.Attribute e f pos) env) Q E s :=
 Attribute_any_ h (by rw [arm_eval_Attribute,hb])
end
def qD (K:PySem.W.Frag) (ta:TE) (f:Str):TE:=fun σ H Q=>ta σ H fun x H1=>∃ a C dx fs v,x = .ref a/\H1 a=some (.ins C dx fs)/\Cls K C/\NoAttr K C f/\fs.lookup f=some v/\Q v H1
def sFld (K:PySem.W.Frag) (ta tv:TE) (f:Str):TS:=fun D σ H=>tv σ H fun y H1=>ta σ H1 fun x H2=>∃ a C dx fs,x = .ref a/\H2 a=some (.ins C dx fs)/\Cls K C/\NoAttr K C f/\fs.length<1000 /\
 D.nx σ (aK H2 a (.ins C dx (bC f y fs)))
section
variable {X:Cx} {o e value:Expr} {f:Str} {pos pos' tpos:Pos} {ta tv:TE}
theorem BI (he:PE X e ta) (hb:attributeBase e f X.env (eval e X.env)=eval e X.env):PE X (.Attribute e f pos) (qD X.K ta f):=by
 intro pins s σ H Q I h
 refine BH hb (thn (he pins s σ H _ I h) fun u s1 ⟨x,H1,I1,rx,a,C,dx,fs,v,ex,ea,c,n,l,q⟩=>?_)
 subst ex
 obtain rfl:u=Value.ref a:=rx
 exact BF I1 ea c n l fun u' s2 I2 ru=>⟨v,H1,I2,ru,q⟩
theorem BJ (ha:PE X o ta) (hv:PE X value tv) (hs:swapsWith value (some (.Attribute o f pos')) pos.line X.env=pure false):PS X (.Assign [.Attribute o f pos'] value pos) (sFld X.K ta tv f):=by
 intro pins s σ H D I h
 refine plainObj_wpAny_Assign_Attribute (thn (hv pins s σ H _ I h) fun u s1 ⟨y,H1,I1,ry,q⟩=>thn (ha pins s1 σ H1 _ I1 q) fun ov s2 ⟨x,H2,I2,rx,a,C,dx,fs,ex,ea,c,n,l,q2⟩=>?_) hs
 subst ex
 obtain rfl:ov=Value.ref a:=rx
 exact BG I2 ea c n l ry fun s3 I3=>⟨σ,_,I3,q2⟩
end
section
variable {X:Cx} {pins:List (Addr×Obj)} {σ:St} {H:Hp} {s:Shared} {A:Around} {E:Value->Shared->Prop} {Q:Value->Shared->Prop} {c:Value} {b:Bool}
inductive cy (K:PySem.W.Frag) (H:Hp):V->Value->Prop where
 | non:cy K H .non (.type "NoneType")
 | bl (x:Bool):cy K H (.bl x) (.type "bool")
 | int (i:Int):cy K H (.int i) (.type "int")
 | str (x:Str):cy K H (.str x) (.type "str")
 | flt (x:UInt64):cy K H (.flt x) (.type "float")
 | lst {a:Addr} {xs:List V} (e:H a=some (.lst xs)):cy K H (.ref a) (.type "list")
 | frz {a:Addr} {o:Obj} {xs:List V} (e:H a=some (.frz o (.lst xs))):cy K H (.ref a) (.type "list")
 | tup {a:Addr} {xs:List V} (e:H a=some (.tup xs)):cy K H (.ref a) (.type "tuple")
 | dK {a:Addr} {kvs:List (aH×V)} (e:H a=some (.dK kvs)):cy K H (.ref a) (.type "dict")
 | dT {a:Addr} {xc:Option (List Addr)} {kvs:List (List aH×V)} (e:H a=some (.dT xc kvs)):cy K H (.ref a) (.type "dict")
 | ins {a C dx:Addr} {fs:List (Str×V)} (e:H a=some (.ins C dx fs)) (cl:Cls K C) (ha:PySem.W.findIn K (.ref C) "__class__" = some (some (.builtin "object.__class__")))
   (hn:PySem.W.specialIn K (.builtin "object.__class__") "__get__" = some (some (.builtin "getset_descriptor.__get__"))) (htk:PySem.W.takesIn K (.builtin "object.__class__")=some true)
   (hm:PySem.W.mroIn K C (.type "object")=some true):cy K H (.ref a) (.ref C)
theorem BK {x:V} {u t:Value} (I:Inv X pins σ H s) (rx:RelV x u) (ty:cy X.K H x t) (e:PySem.W.kitOne X.K t c=some b) (h:∀ tk,Q (.bool b) { s with toks:=tk }) :
  wpAny (model X.prog X.w) A (call (.builtin "isinstance") [u,c]) Q E s:=by
 cases ty with
 | non=>cases (show u=Value.none from rx);exact KG PySem.W.kitx_none I.kIn True.intro e (fun z=>nomatch z) h
 | bl y=>cases (show u=Value.bool y from rx);exact KG PySem.W.kitx_bool I.kIn True.intro e (fun z=>nomatch z) h
 | int i=>obtain ⟨t,q⟩:=(show ∃ t,u=Value.int i t from rx);cases q;exact KG PySem.W.kitx_int I.kIn True.intro e (fun z=>nomatch z) h
 | str y=>obtain ⟨t,q⟩:=(show ∃ t,u=Value.str y t from rx);cases q;exact KG PySem.W.kitx_str I.kIn True.intro e (fun z=>nomatch z) h
 | flt y=>obtain ⟨t,q⟩:=(show ∃ t,u=Value.float y t from rx);cases q;exact KG PySem.W.kitx_float I.kIn True.intro e (fun z=>nomatch z) h
 | @lst a xs ea =>
  cases (show u=Value.ref a from rx)
  obtain ⟨_,_,n,_,h1⟩:=(show ObjOk X.prog X.w H s.heap a (.lst xs) from I.hok a _ ea)
  exact KG M8 I.kIn ⟨_,h1,rfl⟩ e (fun z=>nomatch z) h
 | @frz a ob xs ea =>
  cases (show u=Value.ref a from rx)
  obtain ⟨_,_,_,n,_,h1⟩:=(show ObjOk X.prog X.w H s.heap a (.frz ob (.lst xs)) from I.hok a _ ea)
  exact KG M8 I.kIn ⟨_,h1,rfl⟩ e (fun z=>nomatch z) h
 | @tup a xs ea =>
  cases (show u=Value.ref a from rx)
  obtain ⟨_,_,_,p⟩:=(show ObjOk X.prog X.w H s.heap a (.tup xs) from I.hok a _ ea)
  obtain ⟨o,h1,h2,_⟩:=p
  exact KG PySem.W.kitx_tuple I.kIn ⟨o,h1,h2⟩ e (fun z=>nomatch z) h
 | @dK a kvs ea =>
  cases (show u=Value.ref a from rx)
  obtain ⟨_,_,vs,_,p⟩:=(show ObjOk X.prog X.w H s.heap a (.dK kvs) from I.hok a _ ea)
  obtain ⟨o,es,ep,h1,h2,_⟩:=p
  exact KG Ol I.kIn ⟨o,h1,h2.1⟩ e (fun z=>nomatch z) h
 | @dT a xc kvs ea =>
  cases (show u=Value.ref a from rx)
  obtain ⟨_,_,xs,_,o,es,ep,h1,h2,_⟩:=(show ObjOk X.prog X.w H s.heap a (.dT xc kvs) from I.hok a _ ea)
  exact KG Ol I.kIn ⟨o,h1,h2.1⟩ e (fun z=>nomatch z) h
 | @ins a C dx fs ea cl ha hn htk hm =>
  cases (show u=Value.ref a from rx)
  obtain ⟨mA,O,_⟩:=n5 I.hok ea
  obtain ⟨od,J,_⟩:=O.look
  exact KG (PySem.W.kitx_own (cl.get _) cl.hd ha hn htk hm) I.kIn J e (fun z=>nomatch z) h
end
end L2
namespace L2
open PySem PySem.Spec PyProof.Rows
structure Room (k:Nat) (A:Around):Prop where
 hd:A.handled=none
 dp:A.depth+3*k+5<recursionLimit
 un:A.units+16*k+200<cLine
theorem Room.mono {j k:Nat} {A:Around} (r:Room k A) (h:j<=k):Room j A:=⟨r.hd,by have:=r.dp;lia,by have:=r.un;lia⟩
theorem Room.deeper {k:Nat} {A:Around} (r:Room (k+1) A) (env:Env):Room k (A.deeper env) :=
 ⟨r.hd,by have:=r.dp;show A.depth+1+3*k+5<_;lia,by have:=r.un;show A.units+3+16*k+200<_;lia⟩
theorem BM {A:Around} {C:Addr} {us:List Value} {kw:List (Str×Value)}:(A.under (.builtin "type.__call__" ⟨.ref C::us,kw⟩)).depth=A.depth+1:=by
 first | rfl | simp [Around.under,Code.weight,Code.isCreation,Code.isGuard,Code.isCaller,Code.frames,Code.isFrame,guardIds]
theorem BN {A:Around} {C:Addr} {us:List Value} {kw:List (Str×Value)}:(A.under (.builtin "type.__call__" ⟨.ref C::us,kw⟩)).units=A.units+1:=by
 first | rfl | simp [Around.under,Code.cUnits,Code.frames,Code.isFrame]
theorem Room.make {k:Nat} {A:Around} (r:Room (k+1) A) (C:Addr) (us:List Value) (kw:List (Str×Value)):Room k (A.under (.builtin "type.__call__" ⟨.ref C::us,kw⟩)) :=
 ⟨r.hd,by have:=r.dp;rw [BM];lia,by have:=r.un;rw [BN];lia⟩
theorem Room.depth {k:Nat} {A:Around} (r:Room k A):A.depth<recursionLimit:=by have:=r.dp;lia
def qE:TA:=fun _ H Q=>Q [] H
def BO (ta:TE) (tr:TA):TA:=fun σ H Q=>ta σ H fun x H1=>tr σ H1 fun xs H2=>Q (x::xs) H2
section
variable {X:Cx} {e:Expr} {es:List Expr} {te:TE} {t:TA} {pos:Pos}
theorem qF:PA X [] qE:=fun _ _ _ _ H Q I h=>Om ⟨[],H,I,.nil,h⟩
theorem lC (ha:PE X e te) (hr:PA X es t) (hs:starEach (e::es) X.env=(false,eval e X.env)::starEach es X.env:=by rfl):PA X (e::es) (BO te t):=by
 intro pos pins s σ H Q I h
 rw [hs]
 show wpAny _ _ (spliced ((false,eval e X.env)::backTo pos (starEach es X.env))) _ _ s
 refine Of (thn (ha pins s σ H _ I h) fun u s1 ⟨x,H1,I1,r1,q1⟩=>?_)
 exact thn (hr pos pins s1 σ H1 _ I1 q1) fun us s2 ⟨xs,H2,I2,r2,q2⟩=>⟨x::xs,H2,I2,.cons r1 r2,q2⟩
def qG (t:TA):TE:=fun σ H Q=>t σ H fun xs H1=>xs.length<=sizeLine/\∀ p,H1 p=none->Q (.ref p) (aK H1 p (.tup xs))
def qH (t:TA):TE:=fun σ H Q=>t σ H fun xs H1=>xs.length<=sizeLine/\∀ p,H1 p=none->Q (.ref p) (aK H1 p (.lst xs))
theorem BP {x1} (h:PA X es t):PE X (.Tuple es x1 pos) (qG t):=by
 intro pins s σ H Q I hq
 refine wpAny_Tuple_spliced (thn (h pos pins s σ H _ I hq) fun us s1 ⟨xs,H1,I1,r,z,q⟩=>⟨by rw [<- r.length];exact z,?_⟩)
 have hf:H1 s1.heap.objs.size=none:=I1.hok.fresh (JE _)
 refine ⟨.ref s1.heap.objs.size,aK H1 s1.heap.objs.size (.tup xs),I1.laid (t' := s1.toks) (fun b u e=>JH _ e) (JE _) ?_,rfl,q _ hf⟩
 exact ⟨z,us,r,⟨_,Kc _ rfl,rfl,_,rfl⟩⟩
theorem vS (h:PA X es t):PE X (.List es pos) (qH t):=by
 intro pins s σ H Q I hq
 refine wpAny_List_spliced (thn (h pos pins s σ H _ I hq) fun us s1 ⟨xs,H1,I1,r,z,q⟩=>⟨by rw [<- r.length];exact z,?_⟩)
 have hf:H1 s1.heap.objs.size=none:=I1.hok.fresh (JE _)
 refine ⟨.ref s1.heap.objs.size,aK H1 s1.heap.objs.size (.lst xs),I1.laid (t' := s1.toks) (fun b u e=>JH _ e) (JE _) ?_,rfl,q _ hf⟩
 exact ⟨z,us,0,r,Kc _ rfl⟩
end
abbrev Sp:=List V->Hp->VK->XK->Prop
abbrev eK:=List Env->Hp->Shared->XK->Value->Shared->Prop
structure Env0 (P:Program) (w:World) (K:PySem.W.Frag) (mg:Str->Option Value) (base:Heap) (A:Around) (outer:List Env) (s:Shared) (H:Hp):Prop where
 frames:A.frames=some outer
 mod:Mod K mg base
 bs:∀ b o,base.get? b=some o->s.heap.get? b=some o/\H b=none
 bsz:base.objs.size<=s.heap.objs.size
 funs:s.heap.FunFrames base outer
 frf:∀ b∈c9 outer,H b=none
 hok:HOk P w H s.heap
 bare:AllBare s.gens
def CE (outer:List Env) (P:Program) (w:World) (H:Hp) (s:Shared) (Q:VK) (u:Value) (s':Shared):Prop :=
 ∃ v H',s'.os=s.os/\AllBare s'.gens/\Un (c9 outer) [] H H' s.heap s'.heap/\HOk P w H' s'.heap/\RelV v u/\Q v H'
def CR (CX:eK) (outer:List Env) (P:Program) (w:World) (H:Hp) (s:Shared) (Q:VK) (E:XK) (r:Result) (s':Shared):Prop :=
 match r with
 | .ok (.ret u)=>CE outer P w H s Q u s'
 | .ok _=>False
 | .error e=>CX outer H s E e s'
structure FnOk (P:Program) (w:World) (K:PySem.W.Frag) (mg:Str->Option Value) (base:Heap) (CX:eK) (k:Nat) (f:Addr) (fd:FuncData) (ps:List Str) (sp:Sp):Prop where
 len:∀ vs H Q E,sp vs H Q E->vs.length=ps.length
 run:∀ (A:Around) (outer:List Env) (s:Shared) (H:Hp) (args:Args) (us:List Value) (vs:List V) (Q:VK) (E:XK),Room k A->Env0 P w K mg base A outer s H->BindsTo s fd args (ps.zip us)->Vals vs us->sp vs H Q E ->
  codeAny (model P w) A (.call (.ref f) args) (CR CX outer P w H s Q E) s
theorem FnOk.imp {P:Program} {w:World} {K:PySem.W.Frag} {mg:Str->Option Value} {base:Heap} {CX:eK} {k:Nat} {f:Addr} {fd:FuncData} {ps:List Str} {sp sp':Sp} (F:FnOk P w K mg base CX k f fd ps sp)
  (h:∀ vs H Q E,sp' vs H Q E->sp vs H Q E):FnOk P w K mg base CX k f fd ps sp' :=
 ⟨fun vs H Q E q=>F.len vs H Q E (h _ _ _ _ q),fun A outer s H args us vs Q E hr he hb hv hs=>F.run A outer s H args us vs Q E hr he hb hv (h _ _ _ _ hs)⟩
theorem Env0.make {P:Program} {w:World} {K:PySem.W.Frag} {mg:Str->Option Value} {base:Heap} {A:Around} {outer:List Env} {s:Shared} {H:Hp} (e:Env0 P w K mg base A outer s H) (C:Addr) (us:List Value) (kw:List (Str×Value)) :
  Env0 P w K mg base (A.under (.builtin "type.__call__" ⟨.ref C::us,kw⟩)) outer s H:=⟨by first | exact e.frames | (simpa [Around.under,Code.envs,Code.isFrame,pushEnvs] using e.frames),e.mod,e.bs,e.bsz,e.funs,e.frf,e.hok,e.bare⟩
section
variable {X:Cx} {pins:List (Addr×Obj)} {σ:St} {H:Hp} {s s':Shared}
theorem Inv.env0 (I:Inv X pins σ H s):Env0 X.prog X.w X.K X.mg X.base X.A X.stack s H :=
 ⟨I.ok.frames,I.ok.mod,I.bs,JK I.ok.bsz I.sz,I.stack,I.stkFree,I.hok,I.bare⟩
theorem Inv.after {Q:VK} {u:Value} (I:Inv X pins σ H s) (h:CE X.stack X.prog X.w H s Q u s'):EP X pins σ Q u s' := by
 obtain ⟨v,H',os,bare,un,hok,r,q⟩:=h
 obtain ⟨hh,g,d,t,os'⟩:=s'
 obtain rfl:os'=s.os:=os
 exact ⟨v,H',I.call (h' := hh) (g' := g) (d' := d) (t' := t) (ch:=[]) un hok bare (fun b z=>absurd z (by simp)),r,q⟩
end
def Binds (K:PySem.W.Frag) (fd:FuncData) (ps:List Str) (ds:List Value):Prop :=
 ∀ (s:Shared) (us:List Value),K.In s.heap->(us++ds).length=ps.length->BindsTo s fd ⟨us,[]⟩ (ps.zip (us++ds))
theorem Binds.all {K:PySem.W.Frag} {fd:FuncData} {ps:List Str} (h:∀ us:List Value,us.length=ps.length->bindArgs fd ⟨us,[]⟩=pure (ps.zip us)):Binds K fd ps []:=fun s us _ hl=>by
 rw [Me] at hl ⊢
 exact .of_eq (h us hl)
def BQ (CX:eK) (X:Cx) (E:XK):Prop:=∀ (pins:List (Addr×Obj)) (σ:St) (H:Hp) (s:Shared) (e:Value) (s':Shared),Inv X pins σ H s->CX X.stack H s E e s'->X.xe e s'
section
variable {X:Cx} {CX:eK} {k:Nat} {f C:Addr} {fd:FuncData} {ps:List Str} {sp:Sp} {dvs:List V} {ds:List Value} {E:XK} {x m:Str} {p pos apos:Pos} {e o:Expr} {es:List Expr} {ta:TE} {t:TA}
structure Mk (K:PySem.W.Frag) (C f:Addr):Prop where
 makes:PySem.W.makesIn K C=true
 init:PySem.W.findIn K (.ref C) "__init__" = some (some (.ref f))
 fn:PySem.W.isFn K (.ref f)=true
 kp:PySem.W.keepIn K (.ref C)=true
end
section
variable {X:Cx} {CX:eK} {k:Nat} {f C:Addr} {fd:FuncData} {ps ks:List Str} {sp:Sp} {E:XK} {x m:Str} {p pos apos kpos:Pos} {e o:Expr} {es:List Expr} {kws:List Keyword} {te ta:TE} {t tk:TA} {nm:Option Str}
variable {g:List Value->List Value->List Value} {gV:List V->List V->List V}
end
structure ao (N P:List Str) (sc:Scope):Prop where
 kind:sc.kind = .function
 co:sc.isCoroutine=false
 gen:sc.isGenerator=false
 nd:N.Nodup
 pre:N.take P.length=P
 par:∀ x∈P,sc.names.lookup x=some .local\/sc.names.lookup x=some .cell
 nofree:∀ y∈sc.names,y.2 ≠ .free
theorem vT {kindOf:Str->Option NameKind} {x:Str}:∀ {binds:List (Str×Value)} {m:Str->Option Value},(∀ v,(x,v)∉binds)->bindL kindOf binds m x=m x
 | [],_,_=>rfl
 | (n,v)::r,m,h=>by
  unfold bindL
  rw [vT fun w hw=>h w (J7 _ hw)]
  split
  ·have:x≠n:=by rintro rfl;exact h v KC
   simp [this]
  ·rfl
theorem vU {kindOf:Str->Option NameKind} {x:Str}:∀ {binds:List (Str×Value)} {m:Str->Option Value},(∀ v,(x,v)∉binds)->bindC kindOf binds m x=m x
 | [],_,_=>rfl
 | (n,v)::r,m,h=>by
  unfold bindC
  rw [vU fun w hw=>h w (J7 _ hw)]
  split
  ·rfl
  ·have:x≠n:=by rintro rfl;exact h v KC
   simp [this]
theorem vV {kindOf:Str->Option NameKind} {x:Str} {v:Value}:∀ {P:List Str} {vs:List Value} {i:Nat} {m:Str->Option Value},P.Nodup->P[i]? = some x->vs[i]? = some v->kindOf x=some .local ->
  bindL kindOf (P.zip vs) m x=some v
 | [],_,_,_,_,h,_,_=>by simp at h
 | _::_,[],_,_,_,_,h,_=>by simp at h
 | p::P,w::vs,0,m,nd,h1,h2,hk=>by
  simp at h1 h2;subst h1;subst h2
  show bindL kindOf ((p,w)::P.zip vs) m p=_
  unfold bindL
  rw [vT fun v hv=>(KH.mp nd).1 (NC hv).1,JJ hk]
  simp
 | p::P,w::vs,i+1,m,nd,h1,h2,hk=>by
  show bindL kindOf ((p,w)::P.zip vs) m x=_
  unfold bindL
  exact vV (i:=i) (KH.mp nd).2 (by simpa using h1) (by simpa using h2) hk
theorem vW {kindOf:Str->Option NameKind} {x:Str} {v:Value}:∀ {P:List Str} {vs:List Value} {i:Nat} {m:Str->Option Value},P.Nodup->P[i]? = some x->vs[i]? = some v->kindOf x≠some .local ->
  bindC kindOf (P.zip vs) m x=some v
 | [],_,_,_,_,h,_,_=>by simp at h
 | _::_,[],_,_,_,_,h,_=>by simp at h
 | p::P,w::vs,0,m,nd,h1,h2,hk=>by
  simp at h1 h2;subst h1;subst h2
  show bindC kindOf ((p,w)::P.zip vs) m p=_
  unfold bindC
  rw [vU fun v hv=>(KH.mp nd).1 (NC hv).1,JM hk]
  simp
 | p::P,w::vs,i+1,m,nd,h1,h2,hk=>by
  show bindC kindOf ((p,w)::P.zip vs) m x=_
  unfold bindC
  exact vW (i:=i) (KH.mp nd).2 (by simpa using h1) (by simpa using h2) hk
def start (N:List Str) (vs:List V):St:=vs.map some++List.replicate (N.length-vs.length) none
def cf (CX:eK) (P:Program) (w:World) (K:PySem.W.Frag) (mg:Str->Option Value) (base:Heap) (N:List Str) (qual:Str) (scope:Scope) (f:Addr) (cd:Value) (A:Around) (outer:List Env) (s:Shared) (H:Hp) (E:XK):Cx where
 prog:=P
 w:=w
 K:=K
 mg:=mg
 base:=base
 A:=A.deeper (envOfC qual scope s.heap.objs.size f cd)
 N:=N
 s₀:=s
 H₀:=H
 env:=envOfC qual scope s.heap.objs.size f cd
 outer:=outer
 stack:=envOfC qual scope s.heap.objs.size f cd::outer
 ex:=[]
 calm:=true
 fn:=fun _=>true
 pn:=[]
 xe:=fun e s' => wpAny (model P w) (A.deeper (envOfC qual scope s.heap.objs.size f cd)) (leaving (envOfC qual scope s.heap.objs.size f cd) e) (fun _ s'' => CX outer H s E e s'') (fun e' s'' => CX outer H s E e' s'') s'
theorem vX {sc:Scope} {n:Nat} {x:Str} (h:sc.names.lookup x=some .cell):∃ c,(cellsFrom n sc.names []).lookup x=some c:=by
 have q:=Nl sc.names n [] (.inl h)
 exact Kl.mp q
theorem BR {CX:eK} {P:Program} {w:World} {K:PySem.W.Frag} {mg:Str->Option Value} {base:Heap} {N ps:List Str} {qual:Str} {scope:Scope} {f:Addr} {cd:Value} {A:Around} {outer:List Env} {s s1:Shared} {H:Hp} {E:XK} {us:List Value} {vs:List V}
  (S:ao N ps scope) (hd:A.handled=none) (e0:Env0 P w K mg base A outer s H) (hl:vs.length=ps.length) (r:Vals vs us)
  (x:InCallC s s.heap.objs.size (bindL (envOfC qual scope s.heap.objs.size f cd).kindOf (ps.zip us) fun _=>none) (cellsFrom (s.heap.objs.size+1) scope.names []) (bindC (envOfC qual scope s.heap.objs.size f cd).kindOf (ps.zip us) fun _=>none) s1) :
  Inv (cf CX P w K mg base N qual scope f cd A outer s H E) [] (start N vs) H s1:=by
 have hpl:ps.length<=N.length:=by have:=congrArg List.length S.pre;rw [Kw] at this;lia
 obtain ⟨h1,tk,rfl,hk⟩:=x.done
 have noA:∀ b:Addr,b∉(cf CX P w K mg base N qual scope f cd A outer s H E).ex:=fun b z=>absurd (show b∈([]:List Addr) from z) (by simp)
 refine ⟨⟨e0.mod,S.kind,rfl,rfl,JE _,fun y z c h1 h2=>?_,fun y hy=>?_,fun y c _ h=>?_,fun _=>hd,Around.frames_deeper e0.frames,.inr ⟨rfl,rfl⟩,fun b z=>absurd z (noA b),e0.bs,e0.bsz,fun b _ _=>noA b,fun b z=>absurd z (noA b),e0.funs,e0.frf⟩,
  rfl,e0.bare,Un.kept hk,⟨_,x.toInCall.ns,fun i y v h1 h2 h3=>?_⟩,fun y c h=>⟨_,x.cell y c h⟩,e0.hok.fresh (JE _),fun y c h=>?_,fun p hp=>absurd (show p∈([]:List (Addr×Obj)) from hp) (by simp),e0.hok.kept hk,?_⟩
 ·exact name_of_addr x.apart (K4 h1) (K4 h2)
 ·have hy:scope.names.lookup y=some .cell\/scope.names.lookup y=some .free:=hy
  rcases hy with hy | hy
  ·exact vX hy
  ·exact absurd rfl (S.nofree _ (K4 hy))
 ·exact Mn (x.above y c (K4 h))
 ·have hi:i<vs.length:=by
   unfold start at h2
   by_cases hi:i<vs.length
   ·exact hi
   ·rw [J9 (by simpa using hi)] at h2
    rw [Ml] at h2
    split at h2<;>cases h2
  have ha:vs[i]? = some v:=by
   unfold start at h2
   rw [JF (by simpa using hi),Kh] at h2
   cases e:vs[i]? with
   | none=>rw [e] at h2;cases h2
   | some a=>rw [e] at h2;cases h2;rfl
  obtain ⟨u,hu,rv⟩:=r.get ha
  have hp:ps[i]? = some y:=by
   rw [<- S.pre,Km (by lia)];exact h1
  have ndP:ps.Nodup:=by rw [<- S.pre];exact S.nd.sublist (On _ _)
  refine ⟨u,rv,?_⟩
  rcases S.par y (Kb hp) with k | k
  ·exact .inl ⟨k,vV ndP hp hu k⟩
  ·obtain ⟨c,e⟩:=vX (n:=s.heap.objs.size+1) k
   refine .inr ⟨.inl k,c,e,?_⟩
   have q:=x.cell y c e
   rw [vW ndP hp hu (by show scope.names.lookup y≠_;rw [k];decide)] at q
   exact q
 ·exact e0.hok.fresh (Mn (x.above y c (K4 h)))
 ·unfold start
  show _=N.length
  rw [JT,J0,List.length_replicate]
  lia
theorem BS {CX:eK} {P:Program} {w:World} {K:PySem.W.Frag} {mg:Str->Option Value} {base:Heap} {k:Nat} {f:Addr} {name qual:Str} {params:Arguments} {body:List Stmt} {scope:Scope} {dV kV doc pm cdv ct oc:Value} {an od:Option Addr}
  {osl:Array (Option Value)} {N ps:List Str} {sp:Sp} (lk:K.lookup f=some ⟨oc,od,.func (PySem.W.fnOf name qual params body scope dV kV doc pm an cdv ct),osl⟩) (hcd:PySem.W.codeIn K cdv qual=true) (S:ao N ps scope)
  (len:∀ vs H Q E,sp vs H Q E->vs.length=ps.length)
  (hbody:∀ (A:Around) (outer:List Env) (s:Shared) (H:Hp) (vs:List V) (Q:VK) (E:XK),Room k (A.deeper (envOfC qual scope s.heap.objs.size f cdv))->sp vs H Q E ->
   ∃ t,ft (cf CX P w K mg base N qual scope f cdv A outer s H E) body t/\t { nx:=fun _ H' => Q .non H',rt:=Q } (start N vs) H) :
  FnOk P w K mg base CX (k+1) f (PySem.W.fnOf name qual params body scope dV kV doc pm an cdv ct) ps sp:=by
 refine ⟨len,fun A outer s H args us vs Q E hr e0 hb r hsp=>?_⟩
 have hl:=len _ _ _ _ hsp
 have KX:K.In s.heap:=e0.mod.kin.keeps fun b o e=>(e0.bs b o e).1
 have lim:s.heap.NoLimit:=e0.mod.nolimit.keeps fun b o e=>(e0.bs b o e).1
 have hkind:∀ y∈ps.zip us,scope.names.lookup y.1=some .local\/(scope.names.lookup y.1=some .cell/\((cellsFrom (s.heap.objs.size+1) scope.names []).lookup y.1).isSome=true):=fun ⟨n,v⟩ hy=>by
  rcases S.par n (NC hy).1 with q | q
  ·exact .inl q
  ·exact .inr ⟨q,Nl _ _ _ (.inl q)⟩
 refine codeAny_call_function hr.depth (KX _ _ lk) rfl S.co S.gen rfl (PySem.W.codeRec_of KX hcd) (hb _ _ _ _ ?_)
 refine wpAny_newFunctionEnv_cells S.kind hkind fun env he s1 x=>?_
 subst he
 refine ⟨lim.keeps x.toInCall.keep,codeAny_func ?_⟩
 obtain ⟨t,ht,hq⟩:=hbody A outer s H vs Q E (hr.deeper _) hsp
 have I:Inv (cf CX P w K mg base N qual scope f cdv A outer s H E) [] (start N vs) H s1:=BR S hr.hd e0 hl r x
 refine KD (ht [] s1 (start N vs) H _ I hq) (fun fl s' hs=>?_) fun e s' hs=>hs
 have fin:∀ {σ':St} {H':Hp} {v:V} {u:Value},Inv (cf CX P w K mg base N qual scope f cdv A outer s H E) [] σ' H' s'->RelV v u->Q v H'->CE outer P w H s Q u s' :=
  fun {σ' H' v u} J rv q=>⟨v,H',J.os,J.bare,J.base,J.hok,rv,q⟩
 cases fl with
 | ret u =>
  obtain ⟨v,σ',H',J,rv,q⟩:=hs
  exact fin J rv q
 | next =>
  obtain ⟨σ',H',J,q⟩:=hs
  exact fin (v:=V.non) (u:=Value.none) J rfl q
 | brk =>
  obtain ⟨_,_,_,q⟩:=hs
  exact False.elim q
 | cont =>
  obtain ⟨_,_,_,q⟩:=hs
  exact False.elim q
end L2
namespace L2
open PySem PySem.Spec PyProof.Rows
section
variable {X:Cx} {x:Str} {p pos:Pos} {e:Expr} {es:List Expr} {t:TA} {id T:String} {r:List V->Hp->VK->Prop}
def qI (r:List V->Hp->VK->Prop) (t:TA):TE:=fun σ H Q=>t σ H fun vs H1=>r vs H1 Q
theorem qJ (hc:CallR X (.builtin id) r) (hg:Gl X x) (hm:X.mg x=none) (hv:bootBuiltins x=some (.builtin id)) (ha:PA X (e::es) t) (hn:x ≠ "__name__" := by decide) (hdb:(x == ("__debug__" : Str))=false:=by decide)
  (he:starEach (e::es) X.env=(false,eval e X.env)::starEach es X.env:=by rfl) (hpl:(backTo pos (starEach es X.env)).any (·.1)=false:=by rfl):PE X (.Call (.Name x p) (e::es) [] pos) (qI r t):=by
 intro pins s σ H Q I h
 refine Mi (fW I hg hm hv ?_ hn hdb)
 exact PyProof.Rows.callWith_builtin1 (thn (ha pos pins s σ H _ I h) fun us s1 ⟨vs,H1,I1,r1,q1⟩=>hc pins s1 σ H1 vs us Q I1 r1 q1) he hpl
theorem BU (hc:CallR X (.type T) r) (hg:Gl X x) (hm:X.mg x=none) (hv:bootBuiltins x=some (.type T)) (ha:PA X (e::es) t) (hn:x ≠ "__name__" := by decide) (hdb:(x == ("__debug__" : Str))=false:=by decide)
  (he:starEach (e::es) X.env=(false,eval e X.env)::starEach es X.env:=by rfl) (hpl:(backTo pos (starEach es X.env)).any (·.1)=false:=by rfl):PE X (.Call (.Name x p) (e::es) [] pos) (qI r t):=by
 intro pins s σ H Q I h
 refine Mi (fW I hg hm hv ?_ hn hdb)
 exact Kr (thn (ha pos pins s σ H _ I h) fun us s1 ⟨vs,H1,I1,r1,q1⟩=>hc pins s1 σ H1 vs us Q I1 r1 q1) he hpl
end
end L2
namespace HT
open PySem PyProof.Rows
section
open PySem.SeqAt
open PySem.AutoSeq1 (wpAny_loadPart')
open PySem.MeetsSeq PySem.MeetsSeq2 PySem.MeetsSeq3
end
section
variable {prog:Program} {w:World} {A:Around} {E:Value->Shared->Prop} {s:Shared}
theorem cat_tup {t b:Addr} {vs ws:List Value} {Q:Value->Shared->Prop} (ht:IsTup s.heap t vs.toArray) (hb:IsTup s.heap b ws.toArray) (hv:vs≠[])
  (h1:ws=[]->Q (.ref t) s) (h2:ws≠[]->Q (.ref s.heap.objs.size) { s with heap:=s.heap.push { cls:=.type "tuple",data:=.seq (vs++ws).toArray } })
  (hsz:vs.length+ws.length<=sizeLine):wpAny (model prog w) A (binaryOp .Add (.ref t) (.ref b)) Q E s:=by
 obtain ⟨⟨cls,dd,data,sl⟩,ho,hc,n,hd⟩:=id ht
 obtain ⟨⟨cls2,dd2,data2,sl2⟩,ho2,hc2,n2,iW⟩:=id hb
 simp only at hc hd hc2 iW
 subst hc hd hc2 iW
 have e:vs.toArray++ws.toArray=(vs++ws).toArray:=by simp
 by_cases hw:ws=[]
 ·exact Oz ⟨_,ho,rfl⟩ ⟨_,ho2,rfl⟩ noFill_tuple_add seq_tuple_add Nm Ni (Nf _ _)
   (tuple_addW1 t b vs.toArray ws.toArray n n2 dd dd2 sl sl2 (by simpa using hv) (by simp [hw])) ⟨ho,ho2,h1 hw⟩
 ·refine Oz ⟨_,ho,rfl⟩ ⟨_,ho2,rfl⟩ noFill_tuple_add seq_tuple_add Nm Ni (Nf _ _)
   (tuple_addW2 t b vs.toArray ws.toArray n n2 dd dd2 sl sl2 (by simpa using hv) (by simpa using hw) (by rw [JO,JO];exact hsz)) ⟨ho,ho2,?_⟩
  rw [e]
  exact h2 hw
def sIx (n d:Nat):Option Int->Nat
 | none=>d
 | some v=>if v<0 then (v+(n:Int)).toNat else min v.toNat n
theorem sIx_none (n d:Nat):sIx n d none=d:=rfl
theorem sIx_nat (n d k:Nat):sIx n d (some (k:Int))=min k n:=by
 show (if (k:Int)<0 then ((k:Int)+(n:Int)).toNat else min (k:Int).toNat n)=min k n
 rw [JM (by lia),Int.toNat_natCast]
theorem sIx_le (n d:Nat) (hd:d<=n) (o:Option Int):sIx n d o<=n:=by
 cases o with
 | none=>exact hd
 | some v =>
  show (if v<0 then (v+(n:Int)).toNat else min v.toNat n)<=n
  by_cases hv:v<0
  ·rw [JJ hv];lia
  ·rw [JM hv];exact Nat.min_le_right _ _
theorem vY (v:Int) (n d:Nat):(if v<0 then max (v+(n:Int)) 0 else min v (n:Int))=((sIx n d (some v):Nat):Int):=by
 show (if v<0 then max (v+(n:Int)) 0 else min v (n:Int))=(((if v<0 then (v+(n:Int)).toNat else min v.toNat n):Nat):Int)
 by_cases hv:v<0
 ·simp only [JJ hv];lia
 ·simp only [JM hv];lia
theorem BV (lo hi:Option Int) (n:Nat):Builtin.Slice.sliceAdjust lo hi 1 (n:Int)=(((sIx n 0 lo:Nat):Int),((sIx n n hi:Nat):Int)):=by
 have h1 : ¬ ((1:Int)<0):=by lia
 unfold Builtin.Slice.sliceAdjust
 simp only [h1,NY]
 refine Prod.ext ?_ ?_
 ·cases lo with
  | none=>rfl
  | some v=>exact vY v n 0
 ·cases hi with
  | none=>rfl
  | some v=>exact vY v n n
theorem BW (i j:Nat):Builtin.Slice.slicePlaces (i:Int) (j:Int) 1=j-i:=by
 unfold Builtin.Slice.slicePlaces
 have h1:(1:Int) > 0:=by lia
 simp only [h1,Ly,Oo]
 split<;>lia
theorem vZ {v:Value} {o:Option Int} {Q:Option Int->Shared->Prop} (p:IsPart v o) (h:Q o s):wpAny (model prog w) A (Builtin.Slice.slicePartIndex v) Q E s:=by
 cases p with
 | none=>exact slicePart_none h
 | int i t=>exact slicePart_int h
theorem BX {sl:Addr} {vl vu:Value} {lo hi:Option Int} {n:Nat} {Q:Int×Int×Nat->Shared->Prop} (hs:s.heap.IsSliceOf sl vl vu .none) (pl:IsPart vl lo) (pu:IsPart vu hi)
  (h:Q (((sIx n 0 lo:Nat):Int),1,sIx n n hi-sIx n 0 lo) s):wpAny (model prog w) A (Builtin.Slice.sliceApplied (.ref sl) (pure (n:Int))) Q E s:=by
 obtain ⟨os,hos,hcs,hds⟩:=id hs
 unfold Builtin.Slice.sliceApplied Builtin.Slice.sliceFields
 refine JG (JG (NZ hos hds (x:=vl) rfl (JG (NZ hos hds (x:=vu) rfl (JG (NZ hos hds (x:=.none) rfl (J2 ?_)))))))
 refine JG (slicePart_none ?_)
 show wpAny _ _ (if ((1:Int) == 0)=true then _ else _) _ _ s
 rw [JM (by decide)]
 refine JG (vZ pl (JG (vZ pu (JG (J2 ?_)))))
 show wpAny _ _ (match Builtin.Slice.sliceAdjust lo hi 1 (n:Int) with | (lo,hi)=>pure (lo,(1:Int),Builtin.Slice.slicePlaces lo hi 1)) _ _ s
 rw [BV lo hi n]
 show wpAny _ _ (pure (((sIx n 0 lo:Nat):Int),(1:Int),Builtin.Slice.slicePlaces ((sIx n 0 lo:Nat):Int) ((sIx n n hi:Nat):Int) 1)) _ _ s
 rw [BW]
 exact J2 h
theorem BY (xs:Array Value) (i k:Nat):((List.range k).filterMap fun (m:Nat)=>xs[((i:Int)+(m:Int)*1).toNat]?).toArray=((xs.toList.drop i).take k).toArray:=by
 have e:(fun (m:Nat)=>xs[((i:Int)+(m:Int)*1).toNat]?)=fun m=>xs[i+m]? := by
  funext m
  have:((i:Int)+(m:Int)*1).toNat=i+m:=by lia
  rw [this]
 rw [e]
 have:=pick_run xs i k
 rw [MY] at this
 have e2:((fun x=>xs[x]?) ∘ fun x=>i+x)=fun m=>xs[i+m]? := rfl
 rw [e2] at this
 rw [this]
theorem getItem_tuple_cut {t sl:Addr} {items:Array Value} {vl vu:Value} {lo hi:Option Int} {Q:Value->Shared->Prop} (ht:IsTup s.heap t items) (hs:s.heap.IsSliceOf sl vl vu .none) (pl:IsPart vl lo) (pu:IsPart vu hi)
  (hw : ¬ (sIx items.size 0 lo=0/\sIx items.size items.size hi=items.size))
  (h:Q (.ref s.heap.objs.size) { s with heap:=s.heap.push { cls:=.type "tuple",data:=.seq ((items.toList.drop (sIx items.size 0 lo)).take (sIx items.size items.size hi-sIx items.size 0 lo)).toArray } })
  (hsz:items.size<=sizeLine):wpAny (model prog w) A (getItem (.ref t) (.ref sl)) Q E s:=by
 have htake:sizeOk (.seq ((items.toList.drop (sIx items.size 0 lo)).take (sIx items.size items.size hi-sIx items.size 0 lo)).toArray):=by
  show ((items.toList.drop (sIx items.size 0 lo)).take (sIx items.size items.size hi-sIx items.size 0 lo)).toArray.size<=sizeLine
  rw [JO,Kw,KJ,KO]
  (clear h hw pu pl hs ht;lia)
 have hj:sIx items.size items.size hi<=items.size:=sIx_le _ _ (JE _) hi
 obtain ⟨os,hos,hcs,hds⟩:=id hs
 have hTs:s.TypeIs (.ref sl) "slice" := ⟨os,hos,hcs⟩
 unfold getItem
 try with_reducible refine Le ?_
 first | refine JG (J2 ?_) | skip
 refine JG (OA ht.typeIs (by decide) ?_)
 refine JG (Nk (name:=Str.ofString "__getitem__") ht.typeIs Mx
  (L8 Mx ht.typeIs entry_tuple_getitem ?_ (args_tuple_getitem _ _)))
 show wpAny _ _ (Builtin.Tuple.tupleItemsOf (.ref t) >>= _) _ _ s
 refine JG (tupleItemsOf_ ht ?_)
 refine JG (wpAny_typeOf hTs ?_)
 rw [JJ (by decide)]
 refine JG (BX hs pl pu ?_)
 have hno : ¬ ((((sIx items.size 0 lo:Nat):Int) == 0 && (1:Int) == 1 && (sIx items.size items.size hi-sIx items.size 0 lo) == items.size)=true):=by
  intro q
  rw [KZ,KZ] at q
  have q1:((sIx items.size 0 lo:Nat):Int)=0:=eq_of_beq q.1.1
  have q2:sIx items.size items.size hi-sIx items.size 0 lo=items.size:=eq_of_beq q.2
  exact hw ⟨by lia,by (clear q2 q1 hTs hds hcs hos hj htake hsz h hw pu pl hs ht;lia)⟩
 show wpAny _ _ (if (((sIx items.size 0 lo:Nat):Int) == 0 && (1:Int) == 1 && (sIx items.size items.size hi-sIx items.size 0 lo) == items.size)=true then _ else _) _ _ s
 rw [JM hno,BY]
 first
  | exact JG (m:=Builtin.Tuple.tupleExact _) (LY (J2 ⟨_,rfl,J2 h⟩) htake)
  | exact JG (m:=Builtin.Tuple.tupleExact _) (LY (JG (J2 (J2 ⟨_,rfl,J2 h⟩))) htake)
  | exact JG (JG (m:=Builtin.Tuple.tupleExact _) (LY (J2 (J2 ⟨_,rfl,J2 h⟩)) htake))
  | exact JG (JG (m:=Builtin.Tuple.tupleExact _) (LY (J2 ⟨_,rfl,J2 h⟩) htake))
end
end HT
namespace L2
open PySem PySem.Spec PyProof.Rows
abbrev TO:=St->Hp->(Option Int->Hp->Prop)->Prop
def PO (X:Cx) (e:Option Expr) (t:TO):Prop :=
 ∀ (pins:List (Addr×Obj)) (s:Shared) (σ:St) (H:Hp) (Q:Option Int->Hp->Prop),Inv X pins σ H s->t σ H Q ->
  wpAny (model X.prog X.w) X.A (evalPart e X.env) (fun u s' => ∃ o H',Inv X pins σ H' s'/\IsPart u o/\Q o H') X.xe s
def v5:TO:=fun _ H Q=>Q none H
def v7 (t:TE):TO:=fun σ H Q=>t σ H fun x H1=>∃ i,x = .int i/\Q (some i) H1
section
variable {X:Cx} {e:Expr} {te:TE} {lo hi:Option Expr} {tl th:TO} {pos p2:Pos}
theorem BZ:PO X none v5:=by
 intro pins s σ H Q I h
 rw [evalPart_none]
 exact J2 ⟨none,H,I,.none,h⟩
theorem B3 (h:PE X e te):PO X (some e) (v7 te):=by
 intro pins s σ H Q I hw
 rw [evalPart_some]
 refine thn (h pins s σ H _ I hw) fun u s1 ⟨x,H1,I1,r1,q1⟩=>?_
 obtain ⟨i,rfl,q⟩:=q1
 obtain ⟨t,rfl⟩:=r1
 exact ⟨some i,H1,I1,.int i t,q⟩
def SlR (X:Cx) (r:V->Option Int->Option Int->Hp->VK->Prop):Prop :=
 ∀ (pins:List (Addr×Obj)) (s:Shared) (σ:St) (H:Hp) (x:V) (v vl vu:Value) (lo hi:Option Int) (sl:Addr) (Q:VK),Inv X pins σ H s->RelV x v->s.heap.IsSliceOf sl vl vu .none->IsPart vl lo->IsPart vu hi->r x lo hi H Q ->
  ∃ T id,typeLookup (.type T) "__getitem__" = pure (some (.builtin id))/\s.TypeIs v T/\wpAny (model X.prog X.w) X.A (getItem v (.ref sl)) (EP X pins σ Q) X.xe s
theorem SlR.or {r r':V->Option Int->Option Int->Hp->VK->Prop} (h:SlR X r) (h':SlR X r'):SlR X (fun x lo hi H Q=>r x lo hi H Q\/r' x lo hi H Q):=by
 intro pins s σ H x v vl vu lo hi sl Q I rx hs pl pu q
 rcases q with q | q
 ·exact h pins s σ H x v vl vu lo hi sl Q I rx hs pl pu q
 ·exact h' pins s σ H x v vl vu lo hi sl Q I rx hs pl pu q
def B4 (r:V->Option Int->Option Int->Hp->VK->Prop) (te:TE) (tl th:TO):TE:=fun σ H Q=>te σ H fun x H1=>tl σ H1 fun l H2=>th σ H2 fun u H3=>r x l u H3 Q
theorem B5 {r:V->Option Int->Option Int->Hp->VK->Prop} (hr:SlR X r) (he:PE X e te) (hl:PO X lo tl) (hu:PO X hi th):PE X (.Subscript e (.Slice lo hi none p2) pos) (B4 r te tl th):=by
 intro pins s σ H Q I h
 refine Subscript_ (thn (he pins s σ H _ I h) fun v s1 ⟨x,H1,I1,r1,q1⟩=>?_)
 refine wpAny_Slice (thn (hl pins s1 σ H1 _ I1 q1) fun vl s2 ⟨l,H2,I2,pl,q2⟩=>thn (hu pins s2 σ H2 _ I2 q2) fun vu s3 ⟨u,H3,I3,pu,q3⟩=>?_)
 rw [evalPart_none]
 refine J2 ?_
 have I4:Inv X pins σ H3 { s3 with heap:=s3.heap.push { cls:=.type "slice",data:=.fields #[vl,vu,.none] } }:=I3.kept (t' := s3.toks) fun b ob q=>JH _ q
 obtain ⟨T,id,hT,ht,hg⟩:=hr pins { s3 with heap:=s3.heap.push { cls:=.type "slice",data:=.fields #[vl,vu,.none] } } σ H3 x v vl vu l u s3.heap.objs.size Q I4 r1 (Heap.IsSliceOf.new ..) pl pu q3
 show wpAny (model X.prog X.w) X.A (subscriptTail e (.Slice lo hi none p2) v (.ref s3.heap.objs.size)) (EP X pins σ Q) X.xe { s3 with heap:=s3.heap.push { cls:=.type "slice",data:=.fields #[vl,vu,.none] } }
 exact tail_any (ops:=[.ref s3.heap.objs.size,v]) ht hT hg (by with_unfolding_all rfl)
def dS (xs:List V) (lo hi:Option Int):List V:=(xs.drop (HT.sIx xs.length 0 lo)).take (HT.sIx xs.length xs.length hi-HT.sIx xs.length 0 lo)
theorem v8 (xs:List V) (lo hi:Option Int):(dS xs lo hi).length<=xs.length:=by
 unfold dS
 rw [Kw,KJ]
 lia
def qK (K:PySem.W.Frag):V->Option Int->Option Int->Hp->VK->Prop:=fun x lo hi H Q=>∃ a xs,x = .ref a/\SqT K H a xs /\
 ¬ (HT.sIx xs.length 0 lo=0/\HT.sIx xs.length xs.length hi=xs.length)/\∀ p,H p=none->Q (.ref p) (aK H p (.tup (dS xs lo hi)))
theorem sl_tup:SlR X (qK X.K):=by
 intro pins s σ H x v vl vu lo hi sl Q I rx hs pl pu h
 obtain ⟨a,xs,rfl,hx,hw,q⟩:=h
 cases rx
 obtain ⟨its,r,ht,hz⟩:=I.tuple hx
 have hlen:its.toArray.size=xs.length:=by rw [JO];exact r.length.symm
 refine ⟨"tuple",_,PyProof.Rows.slot_tuple_getitem.lookup,ht.typeIs,?_⟩
 refine HT.getItem_tuple_cut ht hs pl pu (by rw [hlen];exact hw) ?_ (by rw [hlen];exact hz)
 rw [hlen]
 refine ⟨.ref s.heap.objs.size,_,I.laid (t' := s.toks) (o:=.tup (dS xs lo hi)) (fun b ob q=>JH _ q) (JE _) ?_,rfl,q _ (I.hok.fresh (JE _))⟩
 exact ⟨JK (v8 xs lo hi) hz,_,(r.drop (HT.sIx xs.length 0 lo)).take (HT.sIx xs.length xs.length hi-HT.sIx xs.length 0 lo),IsTup.new _ _⟩
def B6 (K:PySem.W.Frag):R2:=fun x y H Q=>∃ a b xs ys,x = .ref a/\y = .ref b/\SqT K H a xs/\SqT K H b ys/\xs≠[]/\xs.length+ys.length<=sizeLine /\
 (ys=[]->Q (.ref a) H)/\(ys≠[]->∀ p,H p=none->Q (.ref p) (aK H p (.tup (xs++ys))))
theorem Vals.nil_iff {xs:List V} {us:List Value} (r:Vals xs us):us=[] ↔ xs=[]:=by
 cases r with
 | nil=>simp
 | cons _ _=>simp
theorem zi1:OpR X (binaryOp .Add) (B6 X.K):=by
 intro pins s σ H x y v u Q I rx ry h
 obtain ⟨a,b,xs,ys,rfl,rfl,ha,hb,hx,hz,q1,q2⟩:=h
 cases rx
 cases ry
 obtain ⟨its,r1,p1,_⟩:=I.tuple ha
 obtain ⟨its2,r2,p2,_⟩:=I.tuple hb
 refine HT.cat_tup p1 p2 (fun z=>hx (r1.nil_iff.mp z)) (fun z=>⟨.ref a,H,I,rfl,q1 (r2.nil_iff.mp z)⟩) (fun z=>?_) (by rw [<- r1.length,<- r2.length];exact hz)
 refine ⟨.ref s.heap.objs.size,_,I.laid (t' := s.toks) (o:=.tup (xs++ys)) (fun b ob q=>JH _ q) (JE _) ?_,rfl,q2 (fun w=>z (r2.nil_iff.mpr w)) _ (I.hok.fresh (JE _))⟩
 exact ⟨by rw [JT];exact hz,_,r1.append r2,IsTup.new _ _⟩
end
end L2
namespace L2
open PySem PySem.Spec PyProof.Rows
def gX (n:Nat) (i:Int):Option Nat:=if 0<=i then (if i<n then some i.toNat else none) else if -(n:Int)<=i then some (i+n).toNat else none
def atI {α:Type} (xs:List α) (i:Int):Option α:=(gX xs.length i).bind fun j=>xs[j]?
theorem v9 {n:Nat} {i:Int} {j:Nat} (h:gX n i=some j):seqIndex? i n=some j/\j<n /\ -(n:Int)<=i/\i<n:=by
 unfold gX at h
 by_cases h0:0<=i
 ·rw [JJ h0] at h
  by_cases h1:i<n
  ·rw [JJ h1] at h
   have e:i.toNat=j:=Ks h
   exact ⟨by rw [seqIndex_of h0 h1,e],by lia,by lia,h1⟩
  ·rw [JM h1] at h;cases h
 ·rw [JM h0] at h
  by_cases h1 : -(n:Int)<=i
  ·rw [JJ h1] at h
   have e:(i+n).toNat=j:=Ks h
   exact ⟨by rw [OB (by lia) h1,e],by lia,h1,by lia⟩
  ·rw [JM h1] at h;cases h
theorem n8 {α:Type} {xs:List α} {i:Int} {v:α} (h:atI xs i=some v):∃ j,seqIndex? i xs.length=some j/\xs[j]? = some v/\j<xs.length /\ -(xs.length:Int)<=i/\i<xs.length:=by
 unfold atI at h
 cases e:gX xs.length i with
 | none=>rw [e] at h;cases h
 | some j =>
  rw [e] at h
  obtain ⟨h1,h2,h3,h4⟩:=v9 e
  exact ⟨j,h1,h,h2,h3,h4⟩
theorem qL {α:Type} {xs:List α} {j:Nat} {v:α} (h:xs[j]? = some v):atI xs (j:Int)=some v:=by
 have hj:j<xs.length:=(JD.mp h).1
 have e:gX xs.length (j:Int)=some j:=by
  unfold gX
  rw [JJ (by lia),JJ (by lia)];simp
 unfold atI;rw [e];exact h
def wc (b:Expr):Prop:=∀ o i,subscripted b false o i=operate [o,i] (getItem o i)
def IxR (X:Cx) (r:R2):Prop :=
 ∀ (value slice:Expr) (pins:List (Addr×Obj)) (s:Shared) (σ:St) (H:Hp) (x y:V) (v u:Value) (Q:VK),Inv X pins σ H s->RelV x v->RelV y u->r x y H Q ->
  subscripted slice false v u=operate [v,u] (getItem v u)->wpAny (model X.prog X.w) X.A (subscriptTail value slice v u) (EP X pins σ Q) X.xe s
def fu (X:Cx) (id:String) (r:V->List V->Hp->VK->Prop):Prop :=
 ∀ (pins:List (Addr×Obj)) (s:Shared) (σ:St) (H:Hp) (x:V) (xs:List V) (v:Value) (us:List Value) (Q:VK),Inv X pins σ H s->RelV x v->Vals xs us->r x xs H Q ->
  wpAny (model X.prog X.w) X.A (call (.builtin id) (v::us)) (EP X pins σ Q) X.xe s
section
variable {X:Cx} {a b:Expr} {ta tb:TE} {pos:Pos}
theorem IxR.or {r r':R2} (h:IxR X r) (h':IxR X r'):IxR X (fun x y H Q=>r x y H Q\/r' x y H Q):=by
 intro value slice pins s σ H x y v u Q I rx ry q hs
 rcases q with q | q
 ·exact h value slice pins s σ H x y v u Q I rx ry q hs
 ·exact h' value slice pins s σ H x y v u Q I rx ry q hs
theorem B7 {r:R2} (hr:IxR X r) (ha:PE X a ta) (hb:PE X b tb) (hs:wc b):PE X (.Subscript a b pos) (j5 r ta tb):=by
 intro pins s σ H Q I h
 exact Subscript_ (jh ha hb I h fun v u s2 x y H2 I2 rx ry q=>hr a b pins s2 σ H2 x y v u Q I2 rx ry q (hs _ _))
def lE (K:PySem.W.Frag):R2:=fun x y H Q=>∃ p xs i v,x = .ref p/\y = .int i/\SqL K H p xs/\atI xs i=some v/\Q v H
def lF (K:PySem.W.Frag):R2:=fun x y H Q=>∃ p xs i v,x = .ref p/\y = .int i/\SqT K H p xs/\atI xs i=some v/\Q v H
def lG:R2:=fun x y H Q=>∃ z i c,x = .str z/\y = .int i/\z.length<=sizeLine/\atI z.cps.toList i=some c/\Q (.str ⟨#[c]⟩) H
theorem zi2:IxR X (lE X.K):=by
 intro value slice pins s σ H x y v u Q I rx ry h hs
 obtain ⟨p,xs,i,z,rfl,rfl,hq,he,q⟩:=h
 cases rx
 obtain ⟨t,rfl⟩:=ry
 obtain ⟨its,r,pl,hz⟩:=I.list hq
 obtain ⟨j,h1,h2,h3,h4,h5⟩:=n8 he
 obtain ⟨w,ew,rw'⟩:=r.get h2
 have hl:=r.length
 have hn:=jm
 have fin:EP X pins σ Q w s:=⟨z,H,I,rw',q⟩
 by_cases h0:0<=i
 ·have hj:i.toNat=j:=by
   rw [seqIndex_of h0 h5] at h1
   exact Ks h1
  exact item_listR pl.isList h0 (by lia) (by rw [hj];simpa using ew) fin hs
 ·have hj:(i+(its.toArray.size:Int)).toNat=j:=by
   rw [OB (by lia) h4] at h1
   rw [JO,<- hl]
   exact Ks h1
  exact Ny (x:=w) pl.isList.typeIs slot_list_getitem.lookup
   (wpAny_getItem_list_neg (Q:=fun r s' => r=w/\EP X pins σ Q r s') pl.isList (by lia) (by rw [JO]<;>lia) (by lia) (by rw [hj];simpa using ew) ⟨rfl,fin⟩) hs
theorem ix_tup:IxR X (lF X.K):=by
 intro value slice pins s σ H x y v u Q I rx ry h hs
 obtain ⟨p,xs,i,z,rfl,rfl,hq,he,q⟩:=h
 cases rx
 obtain ⟨t,rfl⟩:=ry
 obtain ⟨its,r,pl,hz⟩:=I.tuple hq
 obtain ⟨j,h1,h2,h3,h4,h5⟩:=n8 he
 obtain ⟨w,ew,rw'⟩:=r.get h2
 have hl:=r.length
 have hn:=jm
 have fin:EP X pins σ Q w s:=⟨z,H,I,rw',q⟩
 exact Ny (x:=w) pl.typeIs slot_tuple_getitem.lookup
  (getItem_tuple (j:=j) (Q:=fun r s' => r=w/\EP X pins σ Q r s') pl (by lia) (by lia) (by rw [JO,<- hl];exact h1) (by simpa using ew) ⟨rfl,fin⟩) hs
theorem B8:IxR X lG:=by
 intro value slice pins s σ H x y v u Q I rx ry h hs
 obtain ⟨z,i,c,rfl,rfl,hz,he,q⟩:=h
 obtain ⟨t,rfl⟩:=rx
 obtain ⟨t',rfl⟩:=ry
 obtain ⟨j,h1,h2,h3,h4,h5⟩:=n8 he
 have hl:z.cps.toList.length=z.length:=by simp [Str.length]
 rw [hl] at h1 h4 h5
 have hn:=jm
 exact tail_any (Nz s z t) slot_str_getitem.lookup (getItem_str (c:=c) (by
  have e1:decide (i < -(2 ^ 63:Int))=false:=Ki (by lia)
  have e2:decide (i ≥ 2 ^ 63)=false:=Ki (by lia)
  rw [e1,e2,Bool.or_false]) (by rw [h1];simpa using h2) ⟨.str ⟨#[c]⟩,H,I.tok _,⟨_,rfl⟩,q⟩) hs
def wd (K:PySem.W.Frag):R2:=fun x y H Q=>lE K x y H Q\/lF K x y H Q\/lG x y H Q
theorem B9:IxR X (wd X.K):=zi2.or (ix_tup.or B8)
theorem Cb (its:List Value) (n j:Nat) (u:Value):Obj.mapSeq (·.setIfInBounds j u) { cls:=.type "list",data:=.seq its.toArray n }={ cls:=.type "list",data:=.seq (its.set j u).toArray n }:=by
 simp [Obj.mapSeq]
theorem Inv.lst {pins:List (Addr×Obj)} {σ:St} {H:Hp} {s:Shared} {p:Addr} {xs:List V} (I:Inv X pins σ H s) (h:H p=some (.lst xs)) :
  ∃ (its:List Value) (n:Nat),Vals xs its/\s.heap.get? p=some { cls:=.type "list",data:=.seq its.toArray n }/\xs.length<=sizeLine:=by
 obtain ⟨z,its,n,r,e⟩:=I.hok p _ h
 exact ⟨its,n,r,e,z⟩
theorem Inv.lstUpd {pins:List (Addr×Obj)} {σ:St} {H:Hp} {s:Shared} {p:Addr} {xs ys:List V} {its its':List Value} {n n':Nat} {f:Obj->Obj} (I:Inv X pins σ H s) (h:H p=some (.lst xs))
  (ho:s.heap.get? p=some { cls:=.type "list",data:=.seq its.toArray n }) (hf:f { cls:=.type "list",data:=.seq its.toArray n }={ cls:=.type "list",data:=.seq its'.toArray n' }) (r:Vals ys its') (hz:ys.length<=sizeLine) (t:Nat) :
  Inv X pins σ (aK H p (.lst ys)) { s with heap:=s.heap.update p f,toks:=t }:=by
 have e:(s.heap.update p f).get? p=some { cls:=.type "list",data:=.seq its'.toArray n' }:=by
  rw [My f ho (by rw [hf]<;>rfl),hf]
 refine I.write (x:=p) (e:=p) (by rw [h];trivial) (.inl rfl) (fun b u hb q=>(Nn _ _ (Ne.symm hb)).trans q) ⟨_,e⟩ ?_
 exact ⟨hz,its',n',r,e⟩
def Cc:V->V->V->Hp->(Hp->Prop)->Prop:=fun o i v H Q=>∃ p xs k j,o = .ref p/\i = .int k/\H p=some (.lst xs)/\gX xs.length k=some j/\Q (aK H p (.lst (xs.set j v)))
theorem Cd:lg X Cc:=by
 intro pins s σ H o i v ov iv u Q I ro ri rv h
 obtain ⟨p,xs,k,j,rfl,rfl,hp,hj,q⟩:=h
 cases ro
 obtain ⟨t,rfl⟩:=ri
 obtain ⟨its,n,r,ho,hz⟩:=I.lst hp
 obtain ⟨h1,h2,h3,h4⟩:=v9 hj
 have hl:=r.length
 have hn:=jm
 have I':Inv X pins σ (aK H p (.lst (xs.set j v))) { s with heap:=s.heap.update p (Obj.mapSeq (·.setIfInBounds j u)) } :=
  I.lstUpd hp ho (Cb its n j u) (r.set rv j) (by rw [MH];exact hz) s.toks
 by_cases h0:0<=k
 ·have hk:k.toNat=j:=by
   rw [seqIndex_of h0 h4] at h1
   exact Ks h1
  exact PySem.W.ki_setAt ho h0 (by lia) (by rw [JO,<- hl];exact h4) (by rw [hk];exact ⟨_,I',q⟩)
 ·have hk:(k+(its.toArray.size:Int)).toNat=j:=by
   rw [OB (by lia) h3] at h1
   rw [JO,<- hl]
   exact Ks h1
  exact PySem.W.ki_setBack ho (by lia) (by rw [JO,<- hl];exact h3) (by lia) (by rw [hk];exact ⟨_,I',q⟩)
theorem Ce (lo hi:Option Int) (n:Nat):(sliceBounds lo hi none n).1=((HT.sIx n 0 lo:Nat):Int)/\(sliceBounds lo hi none n).2.1=((HT.sIx n n hi:Nat):Int)/\(sliceBounds lo hi none n).2.2=1:=by
 refine ⟨?_,?_,rfl⟩
 ·cases lo with
  | none=>simp [sliceBounds,HT.sIx]
  | some i =>
   simp only [sliceBounds,HT.sIx,Option.getD_none,show (1:Int) > 0 by decide,Ly]
   by_cases h:i<0
   ·simp only [h,Ly]<;>lia
   ·simp only [h,NY]<;>lia
 ·cases hi with
  | none=>simp [sliceBounds,HT.sIx]
  | some i =>
   simp only [sliceBounds,HT.sIx,Option.getD_none,show (1:Int) > 0 by decide,Ly]
   by_cases h:i<0
   ·simp only [h,Ly]<;>lia
   ·simp only [h,NY]<;>lia
theorem Cf (its:List Value) (lo hi:Option Int):slicePick its.toArray lo hi none=((its.drop (HT.sIx its.length 0 lo)).take (HT.sIx its.length its.length hi-HT.sIx its.length 0 lo)).toArray:=by
 obtain ⟨h1,h2,h3⟩:=Ce lo hi its.toArray.size
 unfold slicePick
 rw [h1,h2,h3]
 simp only [sliceRange_one,pick_run,JO]<;>rfl
def qM (K:PySem.W.Frag):V->Option Int->Option Int->Hp->VK->Prop:=fun x lo hi H Q=>∃ a xs,x = .ref a/\SqL K H a xs/\∀ p,H p=none->Q (.ref p) (aK H p (.lst (dS xs lo hi)))
theorem zi3:SlR X (qM X.K):=by
 intro pins s σ H x v vl vu lo hi sl Q I rx hs pl pu h
 obtain ⟨a,xs,rfl,hx,q⟩:=h
 cases rx
 obtain ⟨its,r,ht,hz⟩:=I.list hx
 have hlen:=r.length
 refine ⟨"list",_,slot_list_getitem.lookup,ht.isList.typeIs,?_⟩
 refine wpAny_getItem_list_slice ht.isList hs pl pu .none (by simp) ?_ (by rw [JO]<;>lia)
 rw [Cf,<- hlen]
 refine ⟨.ref s.heap.objs.size,_,I.laid (t' := s.toks) (o:=.lst (dS xs lo hi)) (fun b ob q=>JH _ q) (JE _) ?_,rfl,q _ (I.hok.fresh (JE _))⟩
 exact ⟨JK (v8 xs lo hi) hz,_,0,(r.drop (HT.sIx xs.length 0 lo)).take (HT.sIx xs.length xs.length hi-HT.sIx xs.length 0 lo),Kc _ rfl⟩
theorem zen:OpR X (compareOp .NotIn) (fun x y H Q=>∃ i j,x = .str i/\y = .str j/\Q (.bl (!(!(Builtin.Str.occurrences j i 0 j.length 1).isEmpty))) H):=by
 intro pins s σ H x y v u Q I rx ry h
 obtain ⟨i,j,rfl,rfl,q⟩:=h
 obtain ⟨t,rfl⟩:=rx
 obtain ⟨t',rfl⟩:=ry
 exact notIn_str ⟨.bl _,H,I,rfl,q⟩
theorem zeo:CallR X (.builtin "len") (fun xs H Q=>∃ p ys,xs=[.ref p]/\(SqL X.K H p ys\/SqT X.K H p ys)/\Q (.int ys.length) H):=by
 intro pins s σ H xs us Q I r h
 obtain ⟨p,ys,rfl,hq,q⟩:=h
 obtain ⟨u,rfl,rx⟩:=gW r
 cases rx
 have hn:=jm
 rcases hq with hq | hq
 ·obtain ⟨its,r',pl,hz⟩:=I.list hq
  have hlen:=r'.length
  exact Calls.call_len_list pl.isList (by simp only [JO]<;>lia) ⟨.int ys.length,H,I.tok _,⟨s.toks+1,by rw [JO,hlen]⟩,q⟩
 ·obtain ⟨its,r',pl,hz⟩:=I.tuple hq
  have hlen:=r'.length
  exact len_tuple pl (by simp only [JO]<;>lia) ⟨.int ys.length,H,I.tok _,⟨s.toks+1,by rw [JO,hlen]⟩,q⟩
theorem zep:CallR X (.builtin "len") (fun xs H Q=>∃ z,xs=[.str z]/\z.length<=sizeLine/\Q (.int z.length) H):=by
 intro pins s σ H xs us Q I r h
 obtain ⟨z,rfl,hz,q⟩:=h
 obtain ⟨u,rfl,t,rfl⟩:=gW r
 have hn:=jm
 exact len_str (by lia) ⟨.int z.length,H,I.tok _,⟨_,rfl⟩,q⟩
theorem CallR.or {f:Value} {r r':List V->Hp->VK->Prop} (h:CallR X f r) (h':CallR X f r'):CallR X f (fun xs H Q=>r xs H Q\/r' xs H Q):=by
 intro pins s σ H xs us Q I rs q
 rcases q with q | q
 ·exact h pins s σ H xs us Q I rs q
 ·exact h' pins s σ H xs us Q I rs q
theorem we:CallR X (.type "list") (fun xs H Q=>∃ p ys,xs=[.ref p]/\(SqL X.K H p ys\/SqT X.K H p ys)/\∀ l,H l=none->Q (.ref l) (aK H l (.lst ys))):=by
 intro pins s σ H xs us Q I r h
 obtain ⟨p,ys,rfl,hq,q⟩:=h
 obtain ⟨u,rfl,rx⟩:=gW r
 cases rx
 have fin:∀ (its:List Value),Vals ys its->ys.length<=sizeLine->∀ (h':Heap) (c':Nat),(∀ b o',s.heap.get? b=some o'->h'.get? b=some o') ->
   h'.get? s.heap.objs.size=some { cls:=.type "list",dict:=none,data:=.seq its.toArray c',slots:=#[] }->EP X pins σ Q (.ref s.heap.objs.size) { s with heap:=h' }:=fun its r' hz h' c' kp e =>
  ⟨.ref s.heap.objs.size,_,I.laid (t' := s.toks) kp (JE _) (show ObjOk X.prog X.w _ h' _ (.lst ys) from ⟨hz,its,c',r',e⟩),rfl,q _ (I.hok.fresh (JE _))⟩
 rcases hq with hq | hq
 ·obtain ⟨its,r',pl,hz⟩:=I.list hq
  have hlen:=r'.length
  obtain ⟨o,ho,hc,n,hd⟩:=pl.isList
  exact call_list_seq p (.inl rfl) ho hc hd (fun h' c' kp e=>fin its r' hz h' c' kp e) (by simp only [JO]<;>lia)
 ·obtain ⟨its,r',pl,hz⟩:=I.tuple hq
  have hlen:=r'.length
  obtain ⟨o,ho,hc,n,hd⟩:=pl
  exact call_list_seq p (.inr rfl) ho hc hd (fun h' c' kp e=>fin its r' hz h' c' kp e) (by simp only [JO]<;>lia)
def n9 (K:PySem.W.Frag) (T:String) (x:V) (H:Hp):Prop:=match x with
 | .str _=>T = "str"
 | .int _=>T = "int"
 | .ref p=>(T = "list" /\ ∃ xs,SqL K H p xs)\/(T = "tuple" /\ ∃ o,K.lookup p=some o/\o.cls = .type "tuple" /\ o.dict=none) \/
   (T = "dict" /\ ((∃ kvs,H p=some (.dK kvs))\/∃ xc kvs,H p=some (.dT xc kvs)))\/(T = "set" /\ ∃ S n,H p=some (.set S n))
 | _=>False
theorem wg {pins:List (Addr×Obj)} {σ:St} {H:Hp} {s:Shared} {T:String} {x:V} {v:Value} (I:Inv X pins σ H s) (r:RelV x v) (ty:n9 X.K T x H) :
  s.TypeIs v T/\∀ a,v = .ref a->∃ ob,s.heap.get? a=some ob/\ob.dict=none:=by
 cases x with
 | str z =>
  obtain ⟨t,rfl⟩:=r
  cases (show T = "str" from ty)
  exact ⟨Nz s z t,fun _ e=>nomatch e⟩
 | int i =>
  obtain ⟨t,rfl⟩:=r
  cases (show T = "int" from ty)
  exact ⟨typeIs_int s i t,fun _ e=>nomatch e⟩
 | ref p =>
  cases r
  rcases ty with ⟨rfl,xs,hq⟩ | ⟨rfl,o,hk,hc,hd⟩ | ⟨rfl,hk⟩ | ⟨rfl,S,n,hk⟩
  ·obtain ⟨its,_,pl,_⟩:=I.list hq
   refine ⟨pl.isList.typeIs,fun a e=>?_⟩
   cases e
   obtain ⟨o,n,e,c,hd,_⟩:=pl
   exact ⟨o,e,hd⟩
  ·refine ⟨⟨o,I.kIn p o hk,hc⟩,fun a e=>?_⟩
   cases e
   exact ⟨o,I.kIn _ o hk,hd⟩
  ·have z:∃ o,s.heap.get? p=some o/\o.ExactDict:=by
    rcases hk with ⟨kvs,hk⟩ | ⟨xc,kvs,hk⟩
    ·obtain ⟨_,_,_,_,o,_,_,e,ex,_⟩:=I.hok p _ hk
     exact ⟨o,e,ex⟩
    ·obtain ⟨_,_,_,_,o,_,_,e,ex,_⟩:=I.hok p _ hk
     exact ⟨o,e,ex⟩
   obtain ⟨o,e,ex⟩:=z
   refine ⟨⟨o,e,ex.1⟩,fun a e2=>?_⟩
   cases e2
   exact ⟨o,e,ex.2.1⟩
  ·obtain ⟨o,_,_,_,e,ex,_⟩:=I.hok p _ hk
   refine ⟨⟨o,e,ex.1⟩,fun a e2=>?_⟩
   cases e2
   exact ⟨o,e,ex.2.1⟩
 | _=>exact False.elim ty
def qN (K:PySem.W.Frag) (T:String) (r:V->List V->Hp->VK->Prop) (to:TE):TE:=fun σ H Q=>to σ H fun x H1=>n9 K T x H1/\r x [] H1 Q
def Cg (K:PySem.W.Frag) (T:String) (r:V->List V->Hp->VK->Prop) (to:TE) (t:TA):TE:=fun σ H Q=>to σ H fun x H1=>n9 K T x H1/\t σ H1 fun xs H2=>r x xs H2 Q
variable {o e:Expr} {es:List Expr} {to:TE} {t:TA} {name:Str} {apos cpos:Pos} {T id:String} {r:V->List V->Hp->VK->Prop}
theorem Ci (pa:PlainAttrs T) (slot:Slot T name id) (hty:typeOf (.builtin id)=pure (.type "method_descriptor")) (hm:fu X id r) (ho:PE X o to)
  (hbase:attributeBase o name X.env (eval o X.env)=eval o X.env:=by rfl) (hline:(apos.endLine == cpos.line)=true:=by rfl):PE X (.Call (.Attribute o name apos) [] [] cpos) (qN X.K T r to):=by
 intro pins s σ H Q I h
 refine wpAny_Call_method0_late hbase hline (thn (ho pins s σ H _ I h) fun v s1 ⟨x,H1,I1,r1,ty,q1⟩=>?_)
 obtain ⟨h1,h2⟩:=wg I1 r1 ty
 exact ⟨T,id,pa,slot,hty,h1,h2,Np rfl (PySem.evalArgs_none (hm pins s1 σ H1 x [] v [] Q I1 r1 .nil q1))⟩
theorem Cj (pa:PlainAttrs T) (slot:Slot T name id) (hty:typeOf (.builtin id)=pure (.type "method_descriptor")) (hm:fu X id r) (ho:PE X o to) (ha:PA X (e::es) t)
  (hbase:attributeBase o name X.env (eval o X.env)=eval o X.env:=by rfl)
  (hfew:((backTo cpos (starEach (e::es) X.env)).all (fun x=>!x.1) && (backToKw cpos (keywordEach [] X.env)).all (fun x=>x.1.isSome)
   && decide ((e::es).length+([]:List Keyword).length+(if ([]:List Keyword).isEmpty then 0 else 1)<30))=true:=by rfl)
  (hline:(apos.endLine == cpos.line)=true:=by rfl) (hs:starEach (e::es) X.env=(false,eval e X.env)::starEach es X.env:=by rfl) (hplain:(backTo cpos (starEach es X.env)).any (·.1)=false:=by rfl) :
  PE X (.Call (.Attribute o name apos) (e::es) [] cpos) (Cg X.K T r to t):=by
 intro pins s σ H Q I h
 refine wpAny_Call_method_late hbase hfew hline rfl (thn (ho pins s σ H _ I h) fun v s1 ⟨x,H1,I1,r1,ty,q1⟩=>?_)
 obtain ⟨h1,h2⟩:=wg I1 r1 ty
 refine ⟨T,id,pa,slot,hty,h1,h2,?_⟩
 have hA:=ha cpos pins s1 σ H1 _ I1 q1
 rw [hs] at hA ⊢
 refine Np (by show (false || (backTo cpos (starEach es X.env)).any (·.1))=false;rw [hplain]<;>rfl) (NP ?_)
 exact thn hA fun us s2 ⟨vs,H2,I2,r2,q2⟩=>hm pins s2 σ H2 x vs v us Q I2 r1 r2 q2
end
end L2
namespace L2
open PySem PySem.Spec PyProof.Rows
def qO (X:Cx) (id:String) (r:V->List V->Hp->VK->Prop):Prop :=
 ∀ (pins:List (Addr×Obj)) (s:Shared) (σ:St) (H:Hp) (x:V) (xs:List V) (v:Value) (us:List Value) (Q:VK),Inv X pins σ H s->RelV x v->Vals xs us->r x xs H Q ->
  wpAny (model X.prog X.w) X.A (call (.builtin id) (v::us)) (EP X pins σ Q) X.xe s
theorem Vals.one:∀ {x:V} {us:List Value},Vals [x] us->∃ u,us=[u]/\RelV x u
 | _,_,.cons r .nil=>⟨_,rfl,r⟩
theorem Vals.zero:∀ {us:List Value},Vals [] us->us=[]
 | _,.nil=>rfl
theorem Vals.dropLast {xs:List V} {us:List Value} (h:Vals xs us):Vals xs.dropLast us.dropLast:=by
 induction h with
 | nil=>exact .nil
 | cons r t ih =>
  cases t with
  | nil=>exact .nil
  | cons q t' => exact .cons r ih
theorem Ck {α:Type} (l:List α):l.eraseIdx (l.length-1)=l.dropLast:=by
 induction l with
 | nil=>rfl
 | cons a r ih =>
  cases r with
  | nil=>rfl
  | cons b r =>
   have e:(a::b::r).length-1=((b::r).length-1)+1:=by
    have h1:(a::b::r).length=r.length+2:=rfl
    have h2:(b::r).length=r.length+1:=rfl
    (clear ih;lia)
   rw [e,List.eraseIdx_cons_succ,ih]
   all_goals rfl
section
variable {X:Cx} {pins:List (Addr×Obj)} {σ:St} {H:Hp} {s:Shared} {l b:Addr} {xs ys zs:List V}
theorem Inv.lset {its its':List Value} {n:Nat} {f:Array Value->Array Value} {t':Nat} (I:Inv X pins σ H s) (hH:H l=some (.lst xs))
  (e:s.heap.get? l=some { cls:=.type "list",data:=.seq its.toArray n }) (hf:f its.toArray=its'.toArray) (hv:Vals ys its') (hz:ys.length<=sizeLine) :
  Inv X pins σ (aK H l (.lst ys)) { s with heap:=s.heap.update l (Obj.mapSeq f),toks:=t' }:=by
 have q:=PySem.IsL.update e f
 rw [hf] at q
 refine I.write (x:=l) (e:=l) (by rw [hH];exact trivial) (.inl rfl) (fun b' u hb hu=>(Nn s.heap (Obj.mapSeq f) (Ne.symm hb)).trans hu) ⟨_,q⟩ ?_
 exact ⟨hz,its',_,hv,q⟩
theorem Inv.lnew {its:List Value} {t':Nat} (I:Inv X pins σ H s) (hv:Vals ys its) (hz:ys.length<=sizeLine) :
  Inv X pins σ (aK H s.heap.objs.size (.lst ys)) { s with heap:=s.heap.push { cls:=.type "list",data:=.seq its.toArray },toks:=t' } :=
 I.laid (fun _ _ q=>JH _ q) (JE _) ⟨hz,its,0,hv,Kc _ rfl⟩
theorem Inv.fresh (I:Inv X pins σ H s):H s.heap.objs.size=none:=I.hok.fresh (JE _)
theorem Inv.lstM (I:Inv X pins σ H s) (hH:H l=some (.lst xs)):xs.length<=sizeLine/\∃ (its:List Value) (n:Nat),Vals xs its/\xs.length=its.length/\s.heap.get? l=some { cls:=.type "list",data:=.seq its.toArray n }:=by
 obtain ⟨z,its,n,r,e⟩:=I.hok l _ hH
 exact ⟨z,its,n,r,r.length,e⟩
theorem wj {n:Nat} (h:n<=sizeLine):Builtin.List.listTooLong n=false:=by
 unfold Builtin.List.listTooLong
 exact Ki (by lia)
end
section
variable {X:Cx}
def Cm:V->List V->Hp->VK->Prop:=fun x vs H Q=>∃ l xs y,x = .ref l/\vs=[y]/\H l=some (.lst xs)/\xs.length<sizeLine/\Q .non (aK H l (.lst (xs++[y])))
theorem wm:qO X "list.append" Cm:=by
 intro pins s σ H x vs v us Q I rx rv h
 obtain ⟨l,xs,y,rfl,rfl,hH,hz,q⟩:=h
 cases rx
 obtain ⟨u,rfl,ru⟩:=rv.one
 obtain ⟨z,its,n,r,hl,e⟩:=I.lstM hH
 refine Oi F.slot_list_append ⟨_,e,rfl⟩ F.entry_list_append (F.args_list_append_2 _ _) (PySem.list_append l its.toArray n u (by rw [JO];lia)) ⟨e,?_⟩
 refine ⟨.non,_,I.lset (its' := its++[u]) hH e (by simp) (r.append (.cons ru .nil)) ?_,rfl,q⟩
 rw [JT,Mz]
 lia
def Co:V->List V->Hp->VK->Prop:=fun x vs H Q=>∃ l b xs zs,x = .ref l/\vs=[.ref b]/\H l=some (.lst xs)/\H b=some (.lst zs)/\xs.length+zs.length<=sizeLine/\Q .non (aK H l (.lst (xs++zs)))
theorem Cp:qO X "list.extend" Co:=by
 intro pins s σ H x vs v us Q I rx rv h
 obtain ⟨l,b,xs,zs,rfl,rfl,hH,hB,hz,q⟩:=h
 cases rx
 obtain ⟨u,rfl,ru⟩:=rv.one
 cases ru
 obtain ⟨z,its,n,r,hl,e⟩:=I.lstM hH
 obtain ⟨z2,its2,n2,r2,hl2,e2⟩:=I.lstM hB
 have hsz:its.toArray.size+its2.toArray.size<=sizeLine:=by rw [JO,JO];lia
 have hlong : ¬ (!its.toArray.isEmpty && Builtin.List.listTooLong (its.toArray.size+its2.toArray.size))=true:=by
  rw [wj hsz,Bool.and_false]
  exact JZ
 refine Oi F.slot_list_extend ⟨_,e,rfl⟩ F.entry_list_extend (F.args_list_extend_2 _ _)
  (AutoSeq1.list_extend_list_list_0 l its.toArray n b its2.toArray n2 hlong (by rw [JO];lia) (by lia)) ⟨e,e2,?_⟩
 refine ⟨.non,_,I.lset (its' := its++its2) hH e (by simp) (r.append r2) ?_,rfl,q⟩
 rw [JT]
 omega
def qP:V->List V->Hp->VK->Prop:=fun x vs H Q=>∃ l xs y,x = .ref l/\vs=[]/\H l=some (.lst xs)/\xs[xs.length-1]? = some y/\Q y (aK H l (.lst xs.dropLast))
theorem Cq:qO X "list.pop" qP:=by
 intro pins s σ H x vs v us Q I rx rv h
 obtain ⟨l,xs,y,rfl,rfl,hH,hy,q⟩:=h
 cases rx
 have hus:=rv.zero
 subst hus
 obtain ⟨z,its,n,r,hl,e⟩:=I.lstM hH
 obtain ⟨u,hu,ru⟩:=r.get hy
 have hy':its.toArray[its.toArray.size-1]? = some u:=by
  show its.toArray[its.length-1]? = some u
  rw [<- Kx,<- hl]
  exact hu
 refine Oi F.slot_list_pop ⟨_,e,rfl⟩ F.entry_list_pop (F.args_list_pop_1 _) (MeetsSeq.list_pop_last l its.toArray n u hy' (by rw [JO];lia)) ⟨e,?_⟩
 refine ⟨y,_,I.lset (its' := its.dropLast) hH e ?_ r.dropLast ?_,ru,q⟩
 ·show its.toArray.eraseIdxIfInBounds (its.toArray.size-1)=its.dropLast.toArray
  rw [JO,List.eraseIdxIfInBounds_toArray,Ck]
 ·rw [List.length_dropLast]
  lia
end
section
variable {prog:Program} {w:World} {A:Around} {E:Value->Shared->Prop} {s:Shared}
end
section
variable {X:Cx}
end
end L2
namespace L2
open PySem PySem.Spec PyProof.Rows
section
variable {κ:Type} [DecidableEq κ]
def cg (kvs:List (κ×V)) (k:κ):Option V:=(kvs.find? fun kv=>decide (kv.1=k)).map (·.2)
def bN (kvs:List (κ×V)) (k:κ) (v:V):List (κ×V) :=
 if (kvs.any fun kv=>decide (kv.1=k))=true then kvs.map (fun kv=>if kv.1=k then (kv.1,v) else kv) else kvs++[(k,v)]
theorem oa {p:κ×V} {r:List (κ×V)} {k:κ} (e:p.1=k):cg (p::r) k=some p.2:=by simp [cg,KS,e]
theorem lH {p:κ×V} {r:List (κ×V)} {k:κ} (e : ¬ p.1=k):cg (p::r) k=cg r k:=by simp [cg,KS,e]
theorem og (k:κ):∀ kvs:List (κ×V),(kvs.any fun kv=>decide (kv.1=k))=(cg kvs k).isSome
 | []=>rfl
 | p::r=>by
  rw [LQ]
  by_cases e:p.1=k
  ·simp only [oa e,KR e,Bool.true_or,Option.isSome_some]
  ·rw [lH e,Ki e,Bool.false_or];exact og k r
theorem qQ (kvs:List (κ×V)) (k:κ) (v:V):(bN kvs k v).length<=kvs.length+1:=by
 unfold bN
 split
 ·rw [J0];lia
 ·rw [JT,J6,KW];lia
theorem RelO.isSome_eq {o:Option V} {u:Option Value} (r:RelO o u):o.isSome=u.isSome:=by
 cases o with
 | none=>cases u with
  | none=>rfl
  | some _=>exact (show False from r).elim
 | some _=>cases u with
  | none=>exact (show False from r).elim
  | some _=>rfl
theorem KV.val {kvs:List (κ×V)} {vs:List (κ×Value)} (r:KV kvs vs) (k:κ):RelO (cg kvs k) (valueAt vs k):=by
 unfold KV at r
 induction r with
 | nil=>exact True.intro
 | @cons p q ps qs h t ih =>
  obtain ⟨h1,h2⟩:=h
  by_cases e:p.1=k
  ·have e':q.1=k:=h1.symm.trans e
   have b:valueAt (q::qs) k=some q.2:=by simp [valueAt,KS,e']
   rw [oa e,b];exact h2
  ·have e' : ¬ q.1=k:=fun z=>e (h1.trans z)
   have b:valueAt (q::qs) k=valueAt qs k:=by simp [valueAt,KS,e']
   rw [lH e,b];exact ih
theorem KV.any {kvs:List (κ×V)} {vs:List (κ×Value)} (r:KV kvs vs) (k:κ):(kvs.any fun kv=>decide (kv.1=k))=vs.any fun kv=>decide (kv.1=k):=by
 unfold KV at r
 induction r with
 | nil=>rfl
 | cons h t ih=>rw [LQ,LQ,ih,h.1]
theorem KV.repl {kvs:List (κ×V)} {vs:List (κ×Value)} (r:KV kvs vs) (k:κ) {y:V} {u:Value} (ry:RelV y u) :
  KV (kvs.map fun kv=>if kv.1=k then (kv.1,y) else kv) (vs.map fun kv=>if kv.1=k then (kv.1,u) else kv):=by
 unfold KV at r ⊢
 induction r with
 | nil=>exact .nil
 | @cons p q ps qs h t ih =>
  rw [JS,JS]
  refine .cons ?_ ih
  obtain ⟨h1,h2⟩:=h
  by_cases e:p.1=k
  ·rw [JJ e,JJ (h1.symm.trans e)];exact ⟨h1,ry⟩
  ·rw [JM e,JM (fun z=>e (h1.trans z))];exact ⟨h1,h2⟩
theorem KV.put {kvs:List (κ×V)} {vs:List (κ×Value)} (r:KV kvs vs) (k:κ) {y:V} {u:Value} (ry:RelV y u):KV (bN kvs k y) (stored vs k u):=by
 unfold bN stored
 rw [r.any k]
 by_cases e:(vs.any fun kv=>decide (kv.1=k))=true
 ·rw [JJ e,JJ e];exact r.repl k ry
 ·rw [JM e,JM e];exact Paired.snoc r ⟨rfl,ry⟩
theorem KV.length {kvs:List (κ×V)} {vs:List (κ×Value)} (r:KV kvs vs):kvs.length=vs.length:=Paired.length r
end
theorem lI {P:Program} {w:World} {k:aH} {u:Value} (r:RelV (kV k) u):(fq P w).is k u=true:=by
 cases k with
 | inl i=>obtain ⟨t,e⟩:=(show ∃ t,u=Value.int i t from r);subst e;exact Af P w i t
 | inr x=>obtain ⟨t,e⟩:=(show ∃ t,u=Value.str x t from r);subst e;exact Ag P w x t
theorem Cr {P:Program} {w:World} {y:V} {k:aH} {u:Value} (e:j4 y=some k) (r:RelV y u):(gR P w).is k u=true:=by
 cases y with
 | int i=>cases e;obtain ⟨t,e⟩:=(show ∃ t,u=Value.int i t from r);subst e;exact Ac P w i t
 | str x=>cases e;obtain ⟨t,e⟩:=(show ∃ t,u=Value.str x t from r);subst e;exact Ad P w x t
 | bl b=>cases e;cases (show u=Value.bool b from r);exact KR rfl
 | _=>cases e
theorem wo {P:Program} {w:World}:∀ {ys:List V} {ks:List aH} {us:List Value},ys.map j4=ks.map some->Vals ys us->ItemsAre (gR P w) ks us
 | [],[],_,_,r=>by cases r;exact .nil
 | [],_::_,_,e,_=>by simp at e
 | _::_,[],_,e,_=>by simp at e
 | y::ys,k::ks,_,e,r=>by
  rw [JS,JS] at e
  injection e with e1 e2
  cases r with
  | cons h t=>exact .cons (Cr e1 h) (wo e2 t)
def KTup (H:Hp) (b:Addr) (k:List aH):Prop:=∃ ys,H b=some (.tup ys)/\ys.map j4=k.map some
theorem KTup.of {H:Hp} {b:Addr} {k:List aH} (e:H b=some (.tup (k.map kV))):KTup H b k:=⟨_,e,by rw [Lk];exact Lu fun x _=>Ah x⟩
def DictE {P:Program} {w:World} {K:Type} [DecidableEq K] (h:Heap) (kn:PySem.HeapKind P w K) (d:Addr) (xs:List (K×Addr×Value)) (n:Nat):Prop :=
 ∃ o es,h.get? d=some o/\o.ExactDict/\o.data = .dict es n/\es.toList=xs.map (entryOfKey kn)/\(∀ x∈xs,kn.is h x.1 x.2.1)/\(xs.map (·.1)).Nodup
theorem DictE.of {P:Program} {w:World} {K:Type} [DecidableEq K] {h:Heap} {kn:PySem.HeapKind P w K} {d:Addr} {xs:List (K×Addr×Value)} {n:Nat} (e:DictE h kn d xs n):h.DictOfH kn d xs:=e.imp fun _ ⟨es,r⟩=>⟨es,n,r⟩
theorem qR {P:Program} {w:World} {K:Type} [DecidableEq K] {kn:PySem.HeapKind P w K} {d b:Addr} {k:K} {xs:List (K×Addr×Value)} {A:Around} {E:Value->Shared->Prop} {s:Shared} {v:Value} {Q:Unit->Shared->Prop}
  (hu:kn.room A.in1) (hk:kn.is s.heap k b) (hm:DictE s.heap kn d xs xs.length) (hz:xs.length<=sizeLine)
  (q:∀ g,DictE g kn d (storedH xs k b v) (storedH xs k b v).length->Heap.SameBut d s.heap g->Q () { s with heap:=g,toks:=s.toks+kn.draws k }) :
  wpAny (model P w) A (setItem (.ref d) (.ref b) v) Q E s:=by
 have ty:=hm.of.typeIs
 obtain ⟨o,es,e1,e2,e3,e4,e5,e6⟩:=hm
 unfold setItem
 try with_reducible refine Le ?_
 refine JG (OA ty (by decide) (JG (Nk (name:=Str.ofString "__setitem__") ty OC (L8 OC ty entry_dict_setitem ?_ (args_dict_setitem _ _ _)))))
 show wpAny _ _ (Builtin.Dict.notOrdered "__setitem__" _ >>= _) _ _ s
 refine JG (wpAny_notOrdered_dict ty (show wpAny _ _ (dictSet d (.ref b) v >>= _) _ _ s from JG ?_))
 have fin:∀ g,DictE g kn d (storedH xs k b v) (storedH xs k b v).length->Heap.SameBut d s.heap g->wpAny (model P w) A.in1 (pure Unit.unit) (fun _ s' => Q () s') (fun _ _=>False) { s with heap:=g,toks:=s.toks+kn.draws k }:=fun g a c=>J2 (q g a c)
 unfold dictSet
 try with_reducible refine Le ?_
 refine JG (kn.pyHash hu hk ?_)
 unfold dictSetHashed
 try with_reducible refine Le ?_
 refine JG (wpAny_dictFind_heap (s:={ s with toks:=s.toks+kn.draws k }) hu hk e1 e3 e4 e5 e6 (fun no=>?_) fun j p hj=>?_)
 ·have st:=storedH_new (a:=b) (v:=v) (atKey_none_of_get no)
  refine JG (OH (wpAny_updateDictKeys (hz:=by have z:=size_of_entries e4;lia) (s:={ s with toks:=s.toks+kn.draws k }) e1 e3 (J2 ⟨.none,rfl,J2 (q _ ?_ (Lv ..))⟩)))
  have ln:(xs++[(k,b,v)]).length=xs.length+1:=by simp
  rw [st,ln]
  refine ⟨_,_,My _ e1 (Obj.isFreed_of_dict (Obj.data_mapDictKeys e3 _)),e2.mapDictKeys _,Obj.data_mapDictKeys e3 _,?_,fun x hx=>?_,?_⟩
  ·simp [e4,entryOfKey]
  ·rcases JQ.mp hx with hx | hx
   ·exact kn.keeps (e5 x hx) e1 e3 (Lv ..)
   ·have z:x=(k,b,v):=by simpa using hx
    rw [z];exact kn.keeps hk e1 e3 (Lv ..)
  ·rw [K6,LW]
   exact ⟨e6,by simp,fun x hx y hy z=>not_mem_keys_of_get no (by
    have e:y=k:=by simpa using hy
    rw [<- e,<- z];exact hx)⟩
 ·have st:=storedH_old (a:=b) (v:=v) (atKey_of_get e6 hj)
  refine JG (OH (JG (wpAny_updateDict (s:={ s with toks:=s.toks+kn.draws k }) e1 e3 (wpAny_point (J2 ⟨.none,rfl,J2 (q _ ?_ (Lv ..))⟩)))))
  rw [st,J0]
  refine ⟨_,_,My _ e1 (Obj.isFreed_of_dict (Obj.data_mapDict e3 _)),e2.mapDict _,Obj.data_mapDict e3 _,?_,fun x hx=>?_,?_⟩
  ·have z:=modify_map_putAt (entryOfKey kn) (fun e:DictEntry=>{ e with val:=v }) k v (fun _ _=>rfl) e6 hj
   rw [<- e4] at z
   obtain ⟨l⟩:=es
   simpa using z
  ·obtain ⟨y,hy,rfl⟩:=Mo.mp hx
   unfold putAt
   split<;>exact kn.keeps (e5 y hy) e1 e3 (Lv ..)
  ·rw [keys_map_putAt];exact e6
def wq (xc:Option (List Addr)) (old:Bool) (b:Addr):Option (List Addr):=xc.map fun as=>if old then as else as++[b]
theorem Ct {xs:List (List aH×Addr×Value)} {k:List aH} {b:Addr} {u:Value} {xc:Option (List Addr)} (h:∀ as,xc=some as->xs.map (·.2.1)=as):∀ as,wq xc (atKey xs k).isSome b=some as->(storedH xs k b u).map (·.2.1)=as:=by
 intro as e
 obtain ⟨bs,e1,e2⟩:=J3.mp e
 subst e2
 unfold storedH
 by_cases q:(atKey xs k).isSome=true
 ·rw [JJ q,JJ q,Lk,<- h bs e1]
  exact Lu fun x _=>by show (putAt k u x).2.1=x.2.1;unfold putAt;split<;>rfl
 ·rw [JM q,JM q,K6,h bs e1];rfl
abbrev KT (H:Hp):List (List aH×V)->List (List aH×Addr×Value)->Prop:=Paired fun p q=>p.1=q.1/\(∃ ys,H q.2.1=some (.tup ys)/\ys.map j4=p.1.map some)/\RelV p.2 q.2.2
theorem KT.val {H:Hp} {kvs:List (List aH×V)} {xs:List (List aH×Addr×Value)} (r:KT H kvs xs) (k:List aH):RelO (cg kvs k) ((atKey xs k).map (·.2)):=by
 induction r with
 | nil=>exact True.intro
 | @cons p q ps qs h t ih =>
  obtain ⟨h1,_,h2⟩:=h
  by_cases e:p.1=k
  ·have e':q.1=k:=h1.symm.trans e
   have b:atKey (q::qs) k=some q.2:=by simp [atKey,KS,e']
   rw [oa e,b];exact h2
  ·have e' : ¬ q.1=k:=fun z=>e (h1.trans z)
   have b:atKey (q::qs) k=atKey qs k:=by simp [atKey,KS,e']
   rw [lH e,b];exact ih
theorem KT.repl {H:Hp} {kvs:List (List aH×V)} {xs:List (List aH×Addr×Value)} (r:KT H kvs xs) (k:List aH) {y:V} {u:Value} (ry:RelV y u) :
  KT H (kvs.map fun kv=>if kv.1=k then (kv.1,y) else kv) (xs.map (putAt k u)):=by
 induction r with
 | nil=>exact .nil
 | @cons p q ps qs h t ih =>
  rw [JS,JS]
  refine .cons ?_ ih
  obtain ⟨h1,h2,h3⟩:=h
  unfold putAt
  by_cases e:p.1=k
  ·rw [JJ e,JJ (h1.symm.trans e)];exact ⟨h1,h2,ry⟩
  ·rw [JM e,JM (fun z=>e (h1.trans z))];exact ⟨h1,h2,h3⟩
theorem KT.put {H:Hp} {kvs:List (List aH×V)} {xs:List (List aH×Addr×Value)} (r:KT H kvs xs) (k:List aH) {b:Addr} {y:V} {u:Value} (hb:KTup H b k) (ry:RelV y u) :
  KT H (bN kvs k y) (storedH xs k b u):=by
 have e:(kvs.any fun kv=>decide (kv.1=k))=(atKey xs k).isSome:=by
  rw [og,(r.val k).isSome_eq,Mp]
 unfold bN storedH
 rw [e]
 by_cases q:(atKey xs k).isSome=true
 ·rw [JJ q,JJ q];exact r.repl k ry
 ·rw [JM q,JM q];exact Paired.snoc r ⟨rfl,hb,ry⟩
theorem KT.keeps {H H':Hp} {kvs:List (List aH×V)} {xs:List (List aH×Addr×Value)} (r:KT H kvs xs) (ht:∀ b ys,H b=some (.tup ys)->H' b=some (.tup ys)):KT H' kvs xs :=
 Paired.mapP r fun _ _ z=>⟨z.1,z.2.1.imp fun _ e=>⟨ht _ _ e.1,e.2⟩,z.2.2⟩
section
variable {P:Program} {w:World} {H:Hp} {h:Heap} {a:Addr}
theorem rd_of {u:HO} (ok:HOk P w H h) (e:Rd H a u):ObjOk P w H h a u:=e.ok ok
theorem j6 {kvs:List (aH×V)} (ok:HOk P w H h) (e:Rd H a (.dK kvs)):kvs.length<=sizeLine/\(a == sysModules)=false/\∃ vs,KV kvs vs/\h.DictOf (fq P w) a vs :=
 show ObjOk P w H h a (.dK kvs) from rd_of ok e
theorem qS {kvs:List (aH×V)} (ok:HOk P w H h) (e:H a=some (.dK kvs)):kvs.length<=sizeLine/\(a == sysModules)=false/\∃ vs,KV kvs vs/\h.DictOf (fq P w) a vs:=j6 ok (.inl e)
theorem lJ {ks:List aH} (ok:HOk P w H h) (e:KTup H a ks):(tupleKind (gR P w)).is h ks a:=by
 obtain ⟨ys,e,ek⟩:=e
 obtain ⟨_,its,r,o,h1,h2,n,h3⟩:=(show ObjOk P w H h a (.tup ys) from ok a _ e)
 exact ⟨o,its.toArray,n,h1,h2,h3,by simpa using wo ek r⟩
theorem lK {xc:Option (List Addr)} {kvs:List (List aH×V)} (ok:HOk P w H h) (e:Rd H a (.dT xc kvs)):kvs.length<=sizeLine/\(a == sysModules)=false /\
  ∃ xs,KT H kvs xs/\(∀ as,xc=some as->xs.map (·.2.1)=as)/\DictE h (tupleKind (gR P w)) a xs xs.length:=by
 obtain ⟨z,y,xs,r,o,es,ep,h1,h2,h3,h4,h5⟩:=(show ObjOk P w H h a (.dT xc kvs) from rd_of ok e)
 obtain ⟨h5,h6,h7⟩:=h5
 subst h6
 refine ⟨z,y,xs,r,h7,o,es,h1,h2,h3,h4,fun x hx=>?_,h5⟩
 have all:∀ {l:List (List aH×V)} {m:List (List aH×Addr×Value)},KT H l m->∀ x∈m,(tupleKind (gR P w)).is h x.1 x.2.1:=by
  intro l m q
  induction q with
  | nil=>intro x hx;exact nomatch hx
  | @cons p q ps qs hq t ih =>
   intro x hx
   rcases J8.mp hx with e | hx
   ·subst e
    exact lJ ok (by rw [<- hq.1];exact hq.2.1)
   ·exact ih x hx
 exact all r x hx
theorem Cu {xc:Option (List Addr)} {kvs:List (List aH×V)} (ok:HOk P w H h) (e:H a=some (.dT xc kvs)):kvs.length<=sizeLine/\(a == sysModules)=false /\
  ∃ xs,KT H kvs xs/\(∀ as,xc=some as->xs.map (·.2.1)=as)/\DictE h (tupleKind (gR P w)) a xs xs.length:=lK ok (.inl e)
end
def DGet (H:Hp) (a:Addr) (y:V) (r:Option V):Prop :=
 (∃ kvs k,Rd H a (.dK kvs)/\y=kV k/\r=cg kvs k)\/∃ xc kvs k b,Rd H a (.dT xc kvs)/\y = .ref b/\KTup H b k/\r=cg kvs k
def DPut (H:Hp) (a:Addr) (y v:V) (H':Hp):Prop :=
 (∃ kvs k,H a=some (.dK kvs)/\y=kV k/\kvs.length<sizeLine/\H'=aK H a (.dK (bN kvs k v))) \/
 ∃ xc kvs k b,H a=some (.dT xc kvs)/\y = .ref b/\KTup H b k/\kvs.length<sizeLine/\H'=aK H a (.dT (wq xc (kvs.any fun kv=>decide (kv.1=k)) b) (bN kvs k v))
theorem DGet.k {H:Hp} {a:Addr} {kvs:List (aH×V)} {k:aH} (e:H a=some (.dK kvs)):DGet H a (kV k) (cg kvs k):=.inl ⟨kvs,k,.inl e,rfl,rfl⟩
theorem DGet.t {H:Hp} {a b:Addr} {kvs:List (List aH×V)} {k:List aH} {xc:Option (List Addr)} (e:H a=some (.dT xc kvs)) (eb:KTup H b k):DGet H a (.ref b) (cg kvs k):=.inr ⟨xc,kvs,k,b,.inl e,rfl,eb,rfl⟩
theorem DPut.k {H:Hp} {a:Addr} {kvs:List (aH×V)} {k:aH} {v:V} (e:H a=some (.dK kvs)) (hl:kvs.length<sizeLine):DPut H a (kV k) v (aK H a (.dK (bN kvs k v))):=.inl ⟨kvs,k,e,rfl,hl,rfl⟩
theorem DPut.t {H:Hp} {a b:Addr} {kvs:List (List aH×V)} {k:List aH} {v:V} (e:H a=some (.dT none kvs)) (eb:KTup H b k) (hl:kvs.length<sizeLine) :
  DPut H a (.ref b) v (aK H a (.dT none (bN kvs k v))):=.inr ⟨none,kvs,k,b,e,rfl,eb,hl,rfl⟩
section
variable {X:Cx} {pins:List (Addr×Obj)} {σ:St} {H:Hp} {s:Shared} {a:Addr} {y v:V} {u r:Value} {o:Option V} {A:Around} {E:Value->Shared->Prop}
theorem Inv.big (I:Inv X pins σ H s):sysModules<s.heap.objs.size:=by
 have h:mainGlobals<s.heap.objs.size:=(I.mod.glob.keeps I.bk).lt
 exact LG (by decide) h
theorem Cv {Q:Value->Shared->Prop} (hu:A.units+1<cLine) (I:Inv X pins σ H s) (g:DGet H a y (some v)) (ry:RelV y u) (h:∀ w' s',Inv X pins σ H s'->RelV v w'->Q w' s') :
  wpAny (model X.prog X.w) A (getItem (.ref a) u) Q E s:=by
 rcases g with ⟨kvs,k,e,ey,l⟩ | ⟨xc,kvs,k,b,e,ey,eb,l⟩
 ·subst ey
  obtain ⟨z,hd,vs,rel,dd⟩:=j6 I.hok e
  obtain ⟨w',hw,rw'⟩:=RelO.some_of (v:=v) (o:=valueAt vs k) (by rw [l];exact rel.val k)
  exact wpAny_getItem_of (lI ry) dd.mapOf hw (h w' _ (I.tok _) rw')
 ·subst ey
  cases (show u=Value.ref b from ry)
  obtain ⟨z,hd,xs,rel,_,dd⟩:=lK I.hok e
  replace dd:=dd.of
  obtain ⟨w',hw,rw'⟩:=RelO.some_of (v:=v) (o:=(atKey xs k).map (·.2)) (by rw [l];exact rel.val k)
  obtain ⟨p,hp,hp2⟩:=J3.mp hw
  refine wpAny_getItem_heap (Mj hu) (lJ I.hok eb) dd hp ?_
  rw [hp2]
  exact h w' _ (I.tok _) rw'
theorem qT {Q:Value->Shared->Prop} (hu:A.units+1<cLine) (I:Inv X pins σ H s) (g:DGet H a y o) (ry:RelV y u) (h:∀ s',Inv X pins σ H s'->Q (.bool o.isSome) s') :
  wpAny (model X.prog X.w) A (compareOp .In u (.ref a)) Q E s:=by
 rcases g with ⟨kvs,k,e,ey,l⟩ | ⟨xc,kvs,k,b,e,ey,eb,l⟩
 ·subst ey
  obtain ⟨z,hd,vs,rel,dd⟩:=j6 I.hok e
  refine wpAny_in_of (lI ry) hd dd.mapOf ?_
  rw [<- (rel.val k).isSome_eq,<- l]
  exact h _ (I.tok _)
 ·subst ey
  cases (show u=Value.ref b from ry)
  obtain ⟨z,hd,xs,rel,_,dd⟩:=lK I.hok e
  replace dd:=dd.of
  refine wpAny_in_heap (Mj hu) (lJ I.hok eb) hd dd ?_
  have q:=(rel.val k).isSome_eq
  rw [Mp] at q
  rw [<- q,<- l]
  exact h _ (I.tok _)
theorem Cw {Q:Value->Shared->Prop} (hu:A.units+1<cLine) (I:Inv X pins σ H s) (g:DGet H a y o) (ry:RelV y u) (h:∀ s',Inv X pins σ H s'->Q (.bool (!o.isSome)) s') :
  wpAny (model X.prog X.w) A (compareOp .NotIn u (.ref a)) Q E s:=by
 rcases g with ⟨kvs,k,e,ey,l⟩ | ⟨xc,kvs,k,b,e,ey,eb,l⟩
 ·subst ey
  obtain ⟨z,hd,vs,rel,dd⟩:=j6 I.hok e
  refine wpAny_notIn_of (lI ry) hd dd.mapOf ?_
  rw [<- (rel.val k).isSome_eq,<- l]
  exact h _ (I.tok _)
 ·subst ey
  cases (show u=Value.ref b from ry)
  obtain ⟨z,hd,xs,rel,_,dd⟩:=lK I.hok e
  replace dd:=dd.of
  refine wpAny_notIn_heap (Mj hu) (lJ I.hok eb) hd dd ?_
  have q:=(rel.val k).isSome_eq
  rw [Mp] at q
  rw [<- q,<- l]
  exact h _ (I.tok _)
theorem qU {h':Heap} {t':Nat} {ob:HO} (I:Inv X pins σ H s) (mu:k6 (H a)) (hs:Heap.SameBut a s.heap h') (he:∃ q,h'.get? a=some q) (new:ObjOk X.prog X.w (aK H a ob) h' a ob) :
  Inv X pins σ (aK H a ob) { s with heap:=h',toks:=t' } :=
 I.write (x:=a) (e:=a) mu (.inl rfl) (fun b q hb z=>(hs.2 b hb).trans z) he new
theorem wu {P:Program} {w:World} {H':Hp} {h':Heap} {kvs:List (aH×V)} {vs:List (aH×Value)} (z:kvs.length<=sizeLine) (hd:(a == sysModules)=false) (rel:KV kvs vs) (dd:h'.DictOf (fq P w) a vs) :
  ObjOk P w H' h' a (.dK kvs):=⟨z,hd,vs,rel,dd⟩
theorem Cy {H':Hp} {Q:Unit->Shared->Prop} (hu:A.units+1<cLine) (I:Inv X pins σ H s) (g:DPut H a y v H') (ry:RelV y u) (rv:RelV v r) (h:∀ s',Inv X pins σ H' s'->Q () s') :
  wpAny (model X.prog X.w) A (setItem (.ref a) u r) Q E s:=by
 rcases g with ⟨kvs,k,e,ey,l,eH⟩ | ⟨xc,kvs,k,b,e,ey,eb,l,eH⟩
 ·subst ey eH
  obtain ⟨z,hd,vs,rel,dd⟩:=qS I.hok e
  have hz:vs.length<=sizeLine:=by rw [<- rel.length];exact z
  have hl:(bN kvs k v).length<=sizeLine:=by have:=qQ kvs k v;lia
  refine wpAny_setItem_pairs (hsz:=hz) (lI ry) dd fun h' dd' hs=>h _ ?_
  have he:∃ q,h'.get? a=some q:=let ⟨q,_,_,hq,_⟩:=dd';⟨q,hq⟩
  exact qU I (by rw [e];exact True.intro) hs he (wu hl hd (rel.put k rv) dd')
 ·subst ey eH
  cases (show u=Value.ref b from ry)
  obtain ⟨z,hd,xs,rel,ha,dd⟩:=Cu I.hok e
  have hz:xs.length<=sizeLine:=by rw [<- Paired.length rel];exact z
  have hl:(bN kvs k v).length<=sizeLine:=by have:=qQ kvs k v;lia
  have eo:(kvs.any fun kv=>decide (kv.1=k))=(atKey xs k).isSome:=by rw [og,(rel.val k).isSome_eq,Mp]
  refine qR (Mj hu) (lJ I.hok eb) dd hz fun h' dd' hs=>h _ ?_
  obtain ⟨q,es,hq,h2,h3,h4,_,h5⟩:=dd'
  refine qU I (by rw [e];exact True.intro) hs ⟨q,hq⟩ ⟨hl,hd,_,(rel.put k eb rv).keeps fun c ys ec=>?_,q,es,_,hq,h2,h3,h4,h5,rfl,by rw [eo];exact Ct ha⟩
  rw [bL (Ai ec e (fun z=>nomatch z))]
  exact ec
end
section
variable {X:Cx} {pins:List (Addr×Obj)} {σ:St} {H:Hp} {s:Shared} {a:Addr} {kvs:List (aH×V)} {k:aH} {u:Value} {A:Around} {E:Value->Shared->Prop}
theorem Cz {Q:Value->Shared->Prop} (I:Inv X pins σ H s) (e:Rd H a (.dK kvs)) (h:∀ t s',Inv X pins σ H s'->Q (.int kvs.length t) s'):wpAny (model X.prog X.w) A (call (.builtin "len") [.ref a]) Q E s:=by
 obtain ⟨z,hd,vs,rel,dd⟩:=j6 I.hok e
 refine call_len_dict hd dd (by rw [<- rel.length];rw [sizeLine_eq] at z;lia) ?_
 rw [<- rel.length]
 exact h _ _ (I.tok _)
end
def lL (i:Expr):Prop:=∀ ov iv,subscripted i false ov iv=operate [ov,iv] (getItem ov iv)
theorem CB {prog:Program} {w:World} {A:Around} {E:Value->Shared->Prop} {s:Shared} {env:Env} {value slice:Expr} {pos:Pos} {T id:String} {Q:Value->Shared->Prop}
  (hl:typeLookup (.type T) "__getitem__" = pure (some (.builtin id))) (hs:lL slice)
  (h:wpAny (model prog w) A (eval value env) (fun o s₁=>wpAny (model prog w) A (eval slice env) (fun i s₂=>s₂.TypeIs o T/\wpAny (model prog w) A (getItem o i) Q E s₂) E s₁) E s) :
  wpAny (model prog w) A (eval (.Subscript value slice pos) env) Q E s:=by
 refine Subscript_ (KD h (fun o s₁ h₁=>KD h₁ (fun i s₂ h₂=>?_) fun _ _ x=>x) fun _ _ x=>x)
 obtain ⟨hT,h₂⟩:=h₂
 unfold subscriptTail
 refine JG ?_
 rw [getitemInPython_of_ne hT.not_modules]
 refine JG (NH hT hl ?_)
 have fin:wpAny (model prog w) A (subscripted slice false o i) (fun r s₃=>wpAny (model prog w) A (letTemporaryGo value o r >>= fun _=>pure r) Q E s₃) E s₂:=by
  rw [hs o i]
  exact wpAny_operating (KD h₂ (fun r s₃ h₃=>JG (wpAny_letTemporaryGo (J2 h₃))) fun _ _ x=>x)
 first
  | exact J2 (JG fin)
  | exact JG (J2 (JG fin))
  | exact JG fin
theorem CD {X:Cx} {pins:List (Addr×Obj)} {σ:St} {H:Hp} {s:Shared} {a:Addr} {y:V} {o:Option V} (I:Inv X pins σ H s) (g:DGet H a y o):s.TypeIs (.ref a) "dict" := by
 rcases g with ⟨kvs,k,e,_,_⟩ | ⟨xc,kvs,k,b,e,_,_,_⟩
 ·obtain ⟨_,_,vs,_,dd⟩:=j6 I.hok e
  exact dd.typeIs
 ·obtain ⟨_,_,xs,_,_,dd⟩:=lK I.hok e
  replace dd:=dd.of
  exact dd.typeIs
def CG (td ty:TE):TE:=fun σ H Q=>td σ H fun x H1=>ty σ H1 fun y H2=>∃ a v,x = .ref a/\DGet H2 a y (some v)/\Q v H2
def CH (td ty tv:TE):TS:=fun D σ H=>tv σ H fun v H1=>td σ H1 fun x H2=>ty σ H2 fun y H3=>∃ a H4,x = .ref a/\DPut H3 a y v H4/\D.nx σ H4
section
variable {X:Cx} {o i e value:Expr} {pos pos' tpos:Pos} {td ty tv:TE}
theorem CI (hu:X.A.units+1<cLine) (ho:PE X o td) (hi:PE X i ty) (hs:lL i):PE X (.Subscript o i pos) (CG td ty):=by
 intro pins s σ H Q I h
 refine CB PySem.F.slot_dict_getitem.lookup hs (thn (ho pins s σ H _ I h) fun u s1 ⟨x,H1,I1,rx,q1⟩=>thn (hi pins s1 σ H1 _ I1 q1) fun iv s2 ⟨y,H2,I2,ry,a,v,ex,g,q2⟩=>?_)
 subst ex
 obtain rfl:u=Value.ref a:=rx
 exact ⟨CD I2 g,Cv hu I2 g ry fun w' s3 I3 rw' => ⟨v,H2,I3,rw',q2⟩⟩
theorem CJ (hu:X.A.units+1<cLine) (ho:PE X o td) (hi:PE X i ty) (hv:PE X value tv) (hs:swapsWith value (some (.Subscript o i pos')) pos.line X.env=pure false) :
  PS X (.Assign [.Subscript o i pos'] value pos) (CH td ty tv):=by
 intro pins s σ H D I h
 refine wpAny_Assign_Subscript (thn (hv pins s σ H _ I h) fun r s1 ⟨v,H1,I1,rv,q1⟩=>thn (ho pins s1 σ H1 _ I1 q1) fun u s2 ⟨x,H2,I2,rx,q2⟩=>thn (hi pins s2 σ H2 _ I2 q2) fun iv s3 ⟨y,H3,I3,ry,a,H4,ex,g,q3⟩=>?_) hs
 subst ex
 obtain rfl:u=Value.ref a:=rx
 exact Cy hu I3 g ry rv fun s4 I4=>⟨σ,H4,I4,q3⟩
end
theorem wx {P:Program} {w:World} {H:Hp} (h:Heap) (hb:sysModules<h.objs.size):ObjOk P w H (h.push { cls:=.type "dict",data:=.dict #[] }) h.objs.size (.dK []) :=
 ⟨Kk _,beq_eq_false_iff_ne.mpr (Ne.symm (Ko hb)),[],.nil,Heap.DictOf.new h⟩
theorem CK {P:Program} {w:World} {H:Hp} {xc:Option (List Addr)} (hx:xc=none\/xc=some []) (h:Heap) (hb:sysModules<h.objs.size):ObjOk P w H (h.push { cls:=.type "dict",data:=.dict #[] }) h.objs.size (.dT xc []) :=
 ⟨Kk _,beq_eq_false_iff_ne.mpr (Ne.symm (Ko hb)),[],.nil,_,#[],0,Kc _ rfl,⟨rfl,rfl,rfl⟩,rfl,rfl,Mq,rfl,fun as e=>by
  rcases hx with rfl | rfl
  ·cases e
  ·injection e⟩
def CL:TE:=fun _ H Q=>∀ p,H p=none->Q (.ref p) (aK H p (.dK []))
def CN:TE:=fun _ H Q=>∀ p,H p=none->Q (.ref p) (aK H p (.dT none []))
section
variable {X:Cx} {pos:Pos}
theorem CO:PE X (.Dict [] [] pos) CL:=fun pins s σ H Q I h =>
 wpAny_Dict_empty ⟨.ref s.heap.objs.size,_,I.laid (a:=s.heap.objs.size) (o:=.dK []) (t' := s.toks) (fun _ _ q=>JH _ q) (JE _) (wx s.heap I.big),rfl,h _ (I.hok.fresh (JE _))⟩
theorem CQ:PE X (.Dict [] [] pos) CN:=fun pins s σ H Q I h =>
 wpAny_Dict_empty ⟨.ref s.heap.objs.size,_,I.laid (a:=s.heap.objs.size) (o:=.dT none []) (t' := s.toks) (fun _ _ q=>JH _ q) (JE _) (CK (.inl rfl) s.heap I.big),rfl,h _ (I.hok.fresh (JE _))⟩
end
def qV:List (TE×TE)->St->Hp->(List (V×V)->Hp->Prop)->Prop
 | [],_,H,Q=>Q [] H
 | (tk,tv)::r,σ,H,Q=>tk σ H fun x H1=>tv σ H1 fun y H2=>qV r σ H2 fun ps H3=>Q ((x,y)::ps) H3
abbrev VV:List (V×V)->List (Value×Value)->Prop:=Paired fun p q=>RelV p.1 q.1/\RelV p.2 q.2
def oh (X:Cx) (pos:Pos) (keys:List (Option Expr)) (values:List Expr) (trs:List (TE×TE)):Prop :=
 ∀ (pins:List (Addr×Obj)) (s:Shared) (σ:St) (H:Hp) (Q:List (V×V)->Hp->Prop),Inv X pins σ H s->qV trs σ H Q ->
  wpAny (model X.prog X.w) X.A (evalPairs (pairTrees keys values X.env pos)) (fun vs s' => ∃ ps H',Inv X pins σ H' s'/\VV ps vs/\Q ps H') X.xe s
theorem CS {X:Cx} {pos:Pos}:oh X pos [] [] []:=fun pins s σ H Q I h=>pairTrees_nil_walk ⟨[],H,I,.nil,h⟩
theorem CU {X:Cx} {pos:Pos} {k v:Expr} {ks:List (Option Expr)} {vs:List Expr} {tk tv:TE} {trs:List (TE×TE)} (hk:PE X k tk) (hv:PE X v tv) (hr:oh X pos ks vs trs) :
  oh X pos (some k::ks) (v::vs) ((tk,tv)::trs):=fun pins s σ H Q I h =>
 pairTrees_cons_walk (thn (hk pins s σ H _ I h) fun u s1 ⟨x,H1,I1,rx,q1⟩=>thn (hv pins s1 σ H1 _ I1 q1) fun w2 s2 ⟨y,H2,I2,ry,q2⟩ =>
  thn (hr pins s2 σ H2 _ I2 q2) fun ws s3 ⟨ps,H3,I3,rel,q3⟩=>⟨(x,y)::ps,H3,I3,.cons ⟨rx,ry⟩ rel,q3⟩)
def lN (kvs more:List (aH×V)):List (aH×V):=more.foldl (fun acc kv=>bN acc kv.1 kv.2) kvs
theorem KV.merge:∀ {more:List (aH×V)} {rs:List (aH×Value)} {kvs:List (aH×V)} {vs:List (aH×Value)},KV more rs->KV kvs vs->KV (lN kvs more) (merged vs rs):=by
 intro more rs kvs vs r
 unfold KV at r
 induction r generalizing kvs vs with
 | nil=>intro q;exact q
 | @cons p q ps qs h t ih =>
  intro r0
  have e:KV (bN kvs p.1 p.2) (stored vs q.1 q.2):=by
   have:=r0.put p.1 h.2
   rw [<- h.1];exact this
  exact ih e
theorem wy:∀ (more kvs:List (aH×V)),(lN kvs more).length<=kvs.length+more.length
 | [],kvs=>by show kvs.length<=kvs.length+0;lia
 | p::r,kvs=>by
  have h1:=wy r (bN kvs p.1 p.2)
  have h2:=qQ kvs p.1 p.2
  show (lN (bN kvs p.1 p.2) r).length<=_
  rw [J6];lia
theorem wz {P:Program} {w:World}:∀ {kvs:List (aH×V)} {ws:List (Value×Value)},VV (kvs.map fun kv=>(kV kv.1,kv.2)) ws->∃ rs,Carries (fq P w) ws rs/\KV kvs rs
 | [],_,r=>by rw [MT] at r;cases r;exact ⟨[],True.intro,.nil⟩
 | p::kvs,_,r=>by
  rw [JS] at r
  cases r with
  | @cons a b as bs h t =>
   obtain ⟨rs,c,q⟩:=wz (P:=P) (w:=w) t
   obtain ⟨b1,b2⟩:=b
   exact ⟨(p.1,b2)::rs,⟨lI h.1,rfl,c⟩,.cons ⟨rfl,h.2⟩ q⟩
def CV (trs:List (TE×TE)):TE:=fun σ H Q=>∀ p,H p=none->qV trs σ (aK H p (.dK [])) fun ps H2=>H2 p=some (.dK [])/\∃ kvs:List (aH×V),ps=kvs.map (fun kv=>(kV kv.1,kv.2))/\kvs.length<=15/\Q (.ref p) (aK H2 p (.dK (lN [] kvs)))
theorem CW {X:Cx} {pos:Pos} {keys:List (Option Expr)} {values:List Expr} {trs:List (TE×TE)} (h:oh X pos keys values trs) (hall:keys.all (·.isSome)=true) (hl:keys.length=values.length) (h0:keys≠[])
  (h15:keys.length<=15):PE X (.Dict keys values pos) (CV trs):=by
 intro pins s σ H Q I q
 have hn:=I.hok.fresh (JE s.heap.objs.size)
 have I1:=I.laid (a:=s.heap.objs.size) (o:=.dK []) (h' := s.heap.push { cls:=.type "dict",data:=.dict #[] }) (t' := s.toks) (fun _ _ q=>JH _ q) (JE _) (wx s.heap I.big)
 refine wpAny_Dict_walk (knd:=fq X.prog X.w) hall hl h0 h15 (thn (h pins _ σ _ _ I1 (q _ hn)) fun ws s2 ⟨ps,H2,I2,rel,e,kvs,ep,lk,q2⟩=>?_)
 subst ep
 obtain ⟨rs,c,rk⟩:=wz (P:=X.prog) (w:=X.w) rel
 obtain ⟨z,hd,vs0,r0,dd⟩:=qS I2.hok e
 cases r0
 refine ⟨rs,c,dd,fun h' dd' hs=>⟨.ref s.heap.objs.size,_,?_,rfl,q2⟩⟩
 have hz:(lN [] kvs).length<=sizeLine:=by
  have h1:=wy kvs []
  rw [KW] at h1
  rw [sizeLine_eq];lia
 have he:∃ q,h'.get? s.heap.objs.size=some q:=let ⟨q,_,_,hq,_⟩:=dd';⟨q,hq⟩
 exact qU I2 (by rw [e];exact True.intro) hs he (wu hz hd (rk.merge .nil) dd')
section
variable {X:Cx} {pins:List (Addr×Obj)} {σ:St} {H:Hp} {s:Shared} {a:Addr} {y d:V} {u r:Value} {o:Option V} {A:Around} {E:Value->Shared->Prop}
end
section
variable {X:Cx} {o e f:Expr} {apos cpos:Pos} {td ty tx:TE}
end
section
variable {X:Cx} {pins:List (Addr×Obj)} {σ:St} {H:Hp} {s:Shared} {a:Addr} {kvs:List (aH×V)} {A:Around} {E:Value->Shared->Prop}
end
section
variable {X:Cx} {pins:List (Addr×Obj)} {σ:St} {H:Hp} {s:Shared} {a:Addr} {y:V} {u:Value} {A:Around} {E:Value->Shared->Prop}
end
end L2
namespace Att
open PySem PySem.W PySem.Calls PyProof.Rows
theorem CY {P:Params} {h:Heap}:∀ (ns:List Int) (vs:List Value),WellAll P h vs (ns.map WData.int)->IntsAre vs ns:=by
 intro ns
 induction ns with
 | nil =>
  intro vs w
  rw [MT] at w
  cases w
  exact .nil
 | cons n ns ih =>
  intro vs w
  rw [JS] at w
  cases w with
  | cons a b =>
   cases a
   exact .cons _ _ (ih _ b)
theorem CZ {l:OpenLaw} {n:Nat} (hn:l.most=some n) {P:Params} {h:Heap} {args:List WData} {vals:List Value}
  (hpre:l.row.toRowW.claim.pre args=true) (hwl:WellAll P h vals args) :
  ∃ a vs ns,vals=[Value.ref a]/\args=[WData.list (ns.map WData.int)]/\h.get? a=some { cls:=.type "list",data:=.seq vs.toArray }/\IntsAre vs ns/\ns.length<=n:=by
 have hsh:WShape.hasAll [] args [.list .int]=true:=(pre_splitW hpre).1
 have hc:l.pre.holds [] { args:=args }=true:=(pre_splitW hpre).2
 obtain ⟨d,r,rfl,h1,h2⟩:=hasAllW_cons hsh
 obtain rfl:=hasAllW_nil h2
 obtain ⟨xs,rfl,h3⟩:=hasW_list h1
 obtain ⟨ns,rfl⟩:=items_int h3
 have hlen:ns.length<=n:=by
  unfold OpenLaw.pre at hc
  have h4:(WTm.not (.lt (.lit (.int (n:Int))) (.len (.arg 0)))).holds [] { args:=[.list (ns.map .int)] }=true:=by
   have h4:=(holds_andW hc).1
   rw [hn] at h4
   exact h4
  have h5:=condW_of h4 (w_not (w_lt w_lit (w_len_list (w_arg rfl))))
  rw [J0] at h5
  refine Nat.le_of_not_lt fun q=>?_
  have q':(n:Int)<((ns.length:Nat):Int):=by omega
  first
   | (rw [KR q'] at h5;exact absurd h5 (by decide))
   | (simp at h5;omega)
 cases hwl with
 | cons w1 w2 =>
  cases w2
  cases w1 with
  | list ho hall=>exact ⟨_,_,ns,rfl,rfl,ho,CY ns _ hall,hlen⟩
theorem C1 (l:OpenLaw) (args:List WData):l.row.toRowW.claim.post args (.bool true) args=true :=
 postW_of (r:=l.row.toRowW) (X:=(true == true))
  (show WShape.has [] (.bool true) .bool=true by first | rfl | decide | simp [WShape.has,WShape.arms,WShape.armsAll])
  (show (WTm.eq .res (.lit (.bool true))).value [] { args:=args,res:=some (.bool true),after:=args }=some (.bool (true == true)) from w_eq_bool (w_res rfl) w_lit) rfl
theorem attach_call {l:OpenLaw} {n:Nat} {q:Program} {loose:List Str} {XP:(Str->Option Value)->Heap->Prop} {YP:World->Heap->Prop} {d:DefRec}
  (hn:l.most=some n) (hdf:d.params.defaults=[])
  (call:∀ (w:World) (s₀ s₁:Shared) (mg mb:Str->Option Value) (fa:Addr) (o:Obj) (pm cd doc:Value) (a:Addr) (vs:List Value) (ns:List Int),
   Ground q loose [] XP w s₀ mg mb s₁.heap->YP w s₁.heap ->
   s₁.heap.get? fa=some o->o.data = .func (docDef d.name d.params d.body d.scope pm cd doc)->s₁.heap.CodeRec cd d.name->mg d.name=some (.ref fa) ->
   s₁.heap.get? a=some { cls:=.type "list",data:=.seq vs.toArray }->IntsAre vs ns->ns.length<=n->s₁.gens = #[] ->
   codeAny (model l.prog w) callerA (.call (.ref fa) ⟨[.ref a],[]⟩) (fun r s' => r = .ok (.ret (.bool true))/\OldK s₁.heap s'.heap/\s'.os=s₁.os/\AllBare s'.gens) s₁) :
  WalkO q loose XP YP l.row.toRowW d [] (fun f vs=>PySem.call f vs):=by
 intro w s₀ s₁ mg mb G Y fa o pm cd doc dV kV ho hd hcd hD hmg hg args vals as hpre hlay hrd hwl hlo
 obtain rfl:dV = .none:=Dflts.none hD hdf
 obtain rfl:kV = .none:=Dflts.noKw hD
 obtain ⟨a,vs,ns,rfl,rfl,hobj,hints,hlen⟩:=CZ hn hpre hwl
 refine enter_call (NB (call w s₀ s₁ mg mb fa o pm cd doc a vs ns G Y ho (fd_plain hd) hcd hmg hobj hints hlen hg) fun r s' hq=>?_)
 obtain ⟨rfl,h2,h3,h4⟩:=hq
 exact ⟨.inl ⟨.bool true,.bool true,[],rfl,fun _=>rfl,.bool true,C1 l _,fun _=>⟨List.Pairwise.nil,fun _ hm=>(nomatch hm)⟩⟩,h2,h3,h4⟩
section
variable {prog:Program} {w:World} {A:Around} {E:Value->Shared->Prop} {s:Shared} {K:Frag}
end
end Att
namespace L2
open PySem PySem.Spec PyProof.Rows
theorem qW:∀ {vs:List Value} {ns:List Int},IntsAre vs ns->Vals (ns.map V.int) vs
 | _,_,.nil=>.nil
 | _,_,.cons n t h=>.cons ⟨t,rfl⟩ (qW h)
def jn (H:Hp):Prop:=∀ b,H b=none\/∃ o xs,H b=some (.frz o (.lst xs))
theorem C2 {P:Program} {w:World} {K:PySem.W.Frag} {mg mb:Str->Option Value} {CX:eK} {k:Nat} {fa a:Addr} {fd:FuncData} {x:Str} {sp:Sp} {s₁:Shared} {vs:List Value} {ns:List Int}
  (KX:K.In s₁.heap) (hns:s₁.heap.Ns mainGlobals mg) (hb:s₁.heap.Ns builtinsNs mb) (hbb:∀ x:Str,x ≠ "__name__" -> mb x=bootBuiltins x) (hlim:s₁.heap.NoLimit) (hg:s₁.gens = #[])
  (ha:s₁.heap.get? a=some { cls:=.type "list",data:=.seq vs.toArray }) (hi:IntsAre vs ns) (hl:ns.length<=sizeLine) (hr:Room k callerA)
  (F:∀ base:Heap,K.In base->base.Ns mainGlobals mg->FnOk P w K mg base CX k fa fd [x] sp) (hbind:∀ (s:Shared) (u:Value),BindsTo s fd ⟨[u],[]⟩ [(x,u)])
  (hsp:∀ H:Hp,jn H->SqL K H a (ns.map V.int)->sp [.ref a] H (fun v _=>v = .bl true) fun _ _ _=>False)
  (hCX:∀ H e s',CX [] H s₁ (fun _ _ _=>False) e s'->False) :
  codeAny (model P w) callerA (.call (.ref fa) ⟨[.ref a],[]⟩) (fun r s' => r = .ok (.ret (.bool true))/\OldK s₁.heap s'.heap/\s'.os=s₁.os/\AllBare s'.gens) s₁:=by
 have rv:=qW hi
 have lenV:=hi.length
 have core:∀ H:Hp,jn H->SqL K H a (ns.map V.int)->HOk P w H s₁.heap->(∀ b,H b≠none->b=a)->(H a≠none->K.lookup a=none) ->
   codeAny (model P w) callerA (.call (.ref fa) ⟨[.ref a],[]⟩) (fun r s' => r = .ok (.ret (.bool true))/\OldK s₁.heap s'.heap/\s'.os=s₁.os/\AllBare s'.gens) s₁:=by
  intro H hO hS hok hA hK
  have base_of:∀ {b:Addr} {o:Obj},s₁.heap.get? b=some o->H b=none->(dy s₁.heap H).get? b=some o:=fun e n=>Ak e n
  have noA:∀ {b:Addr} {o:Obj} {es:Array DictEntry} {ep:Nat},s₁.heap.get? b=some o->o.data = .dict es ep->H b=none:=fun {b o es ep} e d=>by
   cases q:H b with
   | none=>rfl
   | some u =>
    have e':b=a:=hA b (by rw [q];simp)
    subst e'
    rw [ha] at e;cases e
    have d':Data.seq vs.toArray _=Data.dict es ep:=d
    cases d'
  have nsK:∀ {b:Addr} {m:Str->Option Value},s₁.heap.Ns b m->(dy s₁.heap H).Ns b m:=fun {b m} ⟨o,es,ep,e,d,r⟩=>⟨o,es,ep,base_of e (noA e d),d,r⟩
  have hKb:K.In (dy s₁.heap H):=fun b o e=>base_of (KX b o e) (by
   cases q:H b with
   | none=>rfl
   | some u =>
    have e':b=a:=hA b (by rw [q];simp)
    subst e'
    rw [hK (by rw [q];simp)] at e;cases e)
  have hM:Mod K mg (dy s₁.heap H):=⟨hKb,nsK hns,⟨mb,nsK hb,hbb⟩,let ⟨mc,h1,h2⟩:=hlim;⟨mc,nsK h1,h2⟩⟩
  have e0:Env0 P w K mg (dy s₁.heap H) callerA [] s₁ H:=⟨rfl,hM,fun b o e=>Am e,MS (Aj _ _),trivial,fun b hb=>absurd (show b∈([]:List Addr) from hb) (by simp),hok,.of_eq hg⟩
  refine NB ((F _ hKb (nsK hns)).run callerA [] s₁ H ⟨[.ref a],[]⟩ [.ref a] [.ref a] _ _ hr e0 (hbind s₁ (.ref a)) (.cons rfl .nil) (hsp H hO hS)) fun r s' h=>?_
  cases r with
  | error e=>exact (hCX H e s' h).elim
  | ok fl =>
   cases fl with
   | next=>exact False.elim h
   | brk=>exact False.elim h
   | cont=>exact False.elim h
   | ret u =>
    obtain ⟨v,H',os,bare,un,hok',r',q⟩:=h
    have q':v = .bl true:=q
    subst q'
    obtain rfl:u=Value.bool true:=r'
    refine ⟨rfl,OldK.of_keep fun b o e=>?_,os,bare⟩
    cases q:H b with
    | none=>exact un.keep b o e q (by intro z;exact absurd (show b∈([]:List Addr) from z) (by simp)) (by simp)
    | some u =>
     rcases hO b with z | ⟨ob,xs,z⟩
     ·rw [q] at z;cases z
     ·have z2:=un.frzs b ob _ z
      obtain ⟨e1,_⟩:=hok b _ z
      obtain ⟨e2,_⟩:=hok' b _ z2
      rw [e] at e1;cases e1
      exact e2
 cases hk:K.lookup a with
 | some o =>
  have e:=KX a o hk
  rw [ha] at e
  cases e
  refine core (fun _=>none) (fun _=>.inl rfl) (.inr ⟨_,vs.toArray,_,hk,rfl,rfl,rfl,by rw [JO,lenV];exact hl,by simpa using rv⟩) (fun b u z=>by have z':(none:Option HO)=some u:=z;cases z') (fun b z=>absurd rfl z) fun z=>absurd rfl z
 | none =>
  refine core (fun b=>if b=a then some (.frz { cls:=.type "list",data:=.seq vs.toArray } (.lst (ns.map V.int))) else none) (fun b=>?_) (.inl (.inr ⟨{ cls:=.type "list",data:=.seq vs.toArray },JJ rfl⟩)) (fun b u z=>?_) (fun b z=>?_) fun _=>hk
  ·by_cases hb:b=a
   ·exact .inr ⟨_,_,JJ hb⟩
   ·exact .inl (JM hb)
  ·by_cases hb:b=a
   ·have z' := (JJ hb).symm.trans z
    cases z'
    subst hb
    exact ⟨ha,by rw [J0];exact hl,vs,_,rv,ha⟩
   ·have z' := (JM hb).symm.trans z
    cases z'
  ·by_cases hb:b=a
   ·exact hb
   ·exact absurd (JM hb) z
end L2
namespace L2
open PySem PySem.Spec PyProof.Rows
theorem walk_of {l:PySem.W.OpenLaw} {n k:Nat} {q:Program} {loose:List Str} {XP:(Str->Option Value)->Heap->Prop} {YP:World->Heap->Prop} {d:DefRec} {K:Params->PySem.W.Frag} {CX:World->eK} {sp:World->Sp} {x:Str}
  (hn:l.most=some n) (hn2:n<=sizeLine) (hdf:d.params.defaults=[]) (hr:Room k callerA)
  (hY:∀ (w:World) (h:Heap),YP w h->(K w.params).In h)
  (F:∀ (w:World) (mg:Str->Option Value) (fa:Addr) (h:Heap),(K w.params).In h->h.Ns mainGlobals mg->mg d.name=some (.ref fa) ->
   ∃ fd:FuncData,(∀ (s:Shared) (u:Value),BindsTo s fd ⟨[u],[]⟩ [(x,u)]) /\
    ∀ base:Heap,(K w.params).In base->base.Ns mainGlobals mg->FnOk l.prog w (K w.params) mg base (CX w) k fa fd [x] (sp w))
  (hsp:∀ (w:World) (H:Hp) (a:Addr) (ns:List Int),ns.length<=n->jn H->SqL (K w.params) H a (ns.map V.int)->sp w [.ref a] H (fun v _=>v = .bl true) fun _ _ _=>False)
  (hCX:∀ (w:World) (H:Hp) (s:Shared) (e:Value) (s':Shared),CX w [] H s (fun _ _ _=>False) e s'->False) :
  PySem.W.WalkO q loose XP YP l.row.toRowW d [] (fun f vs=>PySem.call f vs):=by
 refine Att.attach_call hn hdf fun w s₀ s₁ mg mb fa o pm cd doc a vs ns G Y ho hd hcd hmg hobj hints hlen hg=>?_
 have KX:=hY w _ Y
 obtain ⟨fd,hb,hF⟩:=F w mg fa _ KX G.T.g hmg
 exact C2 KX G.T.g G.T.b G.T.builtins G.T.nolimit hg hobj hints (JK hlen hn2) hr hF hb (fun H hO hS=>hsp w H a ns hlen hO hS) fun H e s' => hCX w H s₁ e s'
end L2
namespace L2
open PySem PySem.Spec PyProof.Rows
def dM (s:Stmt) (j:Nat):Stmt:=match s with
 | .ClassDef _ _ _ body _ _ _ _ _ _ _=>body.getD j (.Pass ⟨0,0,0,0⟩)
 | _=>.Pass ⟨0,0,0,0⟩
def jo (s:Stmt):Arguments:=match s with
 | .FunctionDef _ a _ _ _ _ _ _ _ _=>a
 | _=>{ posonlyargs:=[],args:=[],vararg:=none,kwonlyargs:=[],kw_defaults:=[],kwarg:=none,defaults:=[] }
def gB (s:Stmt):List Stmt:=match s with
 | .FunctionDef _ _ b _ _ _ _ _ _ _=>b
 | _=>[]
def aM (s:Stmt):Scope:=match s with
 | .FunctionDef _ _ _ _ _ _ sc _ _ _=>sc
 | _=>{ kind:=.function,names:=[],isGenerator:=false,isCoroutine:=false }
abbrev E0:XK:=fun _ _ _=>False
structure Fun (K:PySem.W.Frag) (x qual:Str) (st:Stmt) (f:Addr) (fd:FuncData):Prop where
 ex:∃ (oc:Value) (od:Option Addr) (kV doc pm:Value) (an:Option Addr) (cdv ct:Value) (osl:Array (Option Value)),
  fd=PySem.W.fnOf x qual (jo st) (gB st) (aM st) .none kV doc pm an cdv ct/\K.lookup f=some ⟨oc,od,.func fd,osl⟩/\PySem.W.codeIn K cdv qual=true
 kp:PySem.W.keepIn K (.ref f)=true
section
variable {P:Program} {w:World} {K:PySem.W.Frag} {mg:Str->Option Value} {base:Heap}
theorem Fun.binds {x qual:Str} {st:Stmt} {f:Addr} {fd:FuncData} {ps:List Str} (F:Fun K x qual st f fd)
  (h:∀ (kV doc pm:Value) (an:Option Addr) (cdv ct:Value) (us:List Value),us.length=ps.length->bindArgs (PySem.W.fnOf x qual (jo st) (gB st) (aM st) .none kV doc pm an cdv ct) ⟨us,[]⟩=pure (ps.zip us)):Binds K fd ps []:=by
 obtain ⟨oc,od,kV,doc,pm,an,cdv,ct,osl,rfl,lk,hcd⟩:=F.ex
 exact .all (h kV doc pm an cdv ct)
theorem wA {x qual:Str} {st:Stmt} {f:Addr} {oc:Value} {od an:Option Addr} {osl:Array (Option Value)} {kV doc pm cdv ct:Value} (l:K.lookup f=some ⟨oc,od,.func (PySem.W.fnOf x qual (jo st) (gB st) (aM st) .none kV doc pm an cdv ct),osl⟩)
  (c:PySem.W.codeIn K cdv qual=true) (k:PySem.W.keepIn K (.ref f)=true):Fun K x qual st f (PySem.W.fnOf x qual (jo st) (gB st) (aM st) .none kV doc pm an cdv ct):=⟨⟨oc,od,kV,doc,pm,an,cdv,ct,osl,rfl,l,c⟩,k⟩
end
section
variable {X:Cx}
theorem pv (i:Nat) {x:Str} {pos:Pos} (hN:X.N[i]? = some x:=by rfl) (hv:k8 X.env.scope x:=by first | exact Or.inl rfl | exact Or.inr (Or.inl rfl) | exact Or.inr (Or.inr rfl)) (hd:(x == ("__debug__" : Str))=false:=by decide)
  (hcd:(x == ("__classdict__" : Str))=false:=by decide):PE X (.Name x pos) (k9 i):=An hN hv hd hcd
theorem C3:CallR X (.builtin "len") (fun xs H Q=>∃ a kvs,xs=[V.ref a]/\H a=some (.dK kvs)/\Q (.int kvs.length) H):=by
 intro pins s σ H xs us Q I r h
 obtain ⟨a,kvs,rfl,ha,q⟩:=h
 obtain ⟨u,rfl,ru⟩:=gW r
 cases ru
 exact Cz I (.inl ha) fun t s' I' => ⟨.int kvs.length,H,I',⟨t,rfl⟩,q⟩
end
section
variable {κ:Type} [DecidableEq κ]
end
end L2
set_option maxHeartbeats 4000000
namespace L2
open PySem PySem.Spec PyProof.Rows
section
variable {X:Cx} {pins:List (Addr×Obj)} {σ:St} {H:Hp} {s:Shared} {h':Heap}
theorem Inv.turnedL {t':Nat} {fp:List Addr} (I:Inv X pins σ H s) (k:∀ b o,b∉fp->s.heap.get? b=some o->h'.get? b=some o) (hf:∀ b∈fp,cS X pins H b) :
  Inv X pins σ H { s with heap:=h',toks:=t' }:=by
 have nit:∀ b u,H b=some u->b∉fp:=fun b u e z=>by
  have q:=(hf b z).1
  rw [q] at e
  cases e
 refine I.step (g' := s.gens) (d' := s.drawn) (ch:=fp) (fun b hb=>?_) (fun b o _ _ hc e _=>k b o hc e) (fun b o _ _ hc e _=>⟨o.slots,k b o hc e⟩) (fun _ _ _ _ n=>n)
  (fun b o hc e=>⟨o,k b o hc e⟩) (fun _ _ e=>e) (fun _ _ _ e=>e) (fun b ps e=>⟨#[],by rw [e];simp⟩) (fun m hm=>?_) (fun b u e=>?_) I.bare
 ·obtain ⟨_,f1,_,f3,f4,f5⟩:=hf b hb
  exact ⟨f3,f1,f4,f5⟩
 ·obtain ⟨o,es,ep,ho,r⟩:=hm
  exact ⟨o,es,ep,k _ o (fun z=>(hf _ z).2.1 rfl) ho,r⟩
 ·refine (I.hok b u e).stay (fun c v hc q=>k c v ?_ q) (fun _ q=>q) fun _ _ q=>q
  rcases hc with z | z
  ·rw [z];exact nit b u e
  ·exact nit c _ z
theorem Inv.adopt {T:Addr} {ob:HO} (I:Inv X pins σ H s) (hn:H T=none) (hT:X.s₀.heap.objs.size<=T) (hL:T≠X.env.locals) (hc:∀ x c,X.env.cells.lookup x=some c->c≠T)
  (hp:∀ p∈X.pn++pins,p.1≠T) (new:ObjOk X.prog X.w (aK H T ob) s.heap T ob):Inv X pins σ (aK H T ob) s:=by
 have hne:∀ b u,H b=some u->b≠T:=fun b u e=>fI e hn
 refine I.step (h' := s.heap) (g' := s.gens) (d' := s.drawn) (t' := s.toks) (ch:=[T]) (fun b hb=>?_) (fun b o _ _ _ e _=>e) (fun b o _ _ _ e _=>⟨o.slots,e⟩) (fun b o hb e n=>?_) (fun b o _ e=>⟨o,e⟩)
  (fun b xs e=>by rw [bL (hne b _ e)];exact e) (fun b o u e=>by rw [bL (hne b _ e)];exact e) (fun b ps e=>⟨#[],by rw [bL (hne b _ e),e];simp⟩) (fun m hm=>hm) (fun b u e=>?_) I.bare
 ·have e:b=T:=by simpa using hb
  subst e
  exact ⟨.inr hT,hL,hc,hp⟩
 ·rw [bL (fun z=>hb (by simp [z]))];exact n
 ·by_cases hb:b=T
  ·subst hb;rw [dQ] at e;cases e;exact new
  ·rw [bL hb] at e
   exact (I.hok b u e).stay (fun c v _ q=>q) (fun c q=>by rw [bL (hne c _ q)];exact q) fun c xs q=>by rw [bL (hne c _ q)];exact q
end
section
variable {X:Cx}
end
def qX (x:Str):It:=⟨fun i _=>i<x.cps.size,fun i H v H' => H'=H/\∃ c,x.cps[i]? = some c/\v = .str ⟨#[c]⟩,fun i _=>x.cps.size<=i⟩
theorem C4 {P:Program} {w:World} {A:Around} (hh:A.handled=none) (it:Addr) (x:Str) (t:Tok) :
  Walks P w A it [it] [it] x.cps.size (SignAt x) (fun i h=>h.IsStrIter it (strIterType x) x t i):=by
 cases ha:x.cps.all (· < 128) with
 | false =>
  have e:strIterType x = "str_iterator" := by simp [strIterType,ha]
  rw [e]
  exact Walks.strWide hh it x t
 | true =>
  have e:strIterType x = "str_ascii_iterator" := by simp [strIterType,ha]
  rw [e]
  exact Walks.strAscii hh it x t
theorem C5 {P:Program} {w:World} {K:PySem.W.Frag} {y:Str} {py:Pos} (it:Addr) (x:Str) (t:Tok):dR P w K (.Name y py) (qX x) [it] it (fun i h=>h.IsStrIter it (strIterType x) x t i) where
 mem:=by simp
 obj:=fun i h st b hb=>by
  have e:b=it:=by simpa using hb
  subst e
  obtain ⟨o,e,c,d⟩:=st
  exact ⟨o,e,fun v z=>by rw [d] at z;cases z⟩
 keep:=fun i h h' st k=>by
  obtain ⟨o,e,r⟩:=st
  exact ⟨o,k it (by simp) o e,r⟩
 item:=by
  intro X hP hw hK hc i pins s σ H E I hf st hg
  subst hP hw hK
  refine (C4 (I.ok.hd hc) it x t).item i s _ _ hg st fun v h1 tk hv st1 kk=>?_
  obtain ⟨c,u,hcp,rfl⟩:=hv
  have I1:Inv X pins σ H { s with heap:=h1,toks:=tk }:=I.turnedL (fp:=[it]) kk hf
  exact ⟨_,rfl,J2 ⟨.str ⟨#[c]⟩,H,I1,⟨u,rfl⟩,⟨rfl,c,hcp,rfl⟩,st1,fun b hb=>(hf b hb).1⟩⟩
 done:=by
  intro X hP hw hK hc i pins s σ H E I hf st hg
  subst hP hw hK
  have hx:x.cps[i]? = none:=Array.getElem?_eq_none hg
  cases ha:x.cps.all (· < 128) with
  | false =>
   have e:strIterType x = "str_iterator" := by simp [strIterType,ha]
   rw [e] at st
   exact wpAny_pyNext_wide_end (I.ok.hd hc) st hx fun h' eb=>⟨rfl,I.turnedL (fp:=[it]) (t' := s.toks) (fun b o hb q=>eb b o (fun z=>hb (by simp [z])) q) hf⟩
  | true =>
   have e:strIterType x = "str_ascii_iterator" := by simp [strIterType,ha]
   rw [e] at st
   exact wpAny_pyNext_ascii_end (I.ok.hd hc) st hx fun h' eb=>⟨rfl,I.turnedL (fp:=[it]) (t' := s.toks) (fun b o hb q=>eb b o (fun z=>hb (by simp [z])) q) hf⟩
 self:=fun A i s Q E st h=>by
  cases ha:x.cps.all (· < 128) with
  | false =>
   have e:strIterType x = "str_iterator" := by simp [strIterType,ha]
   rw [e] at st
   exact wpAny_pyIter_striter_wide st h
  | true =>
   have e:strIterType x = "str_ascii_iterator" := by simp [strIterType,ha]
   rw [e] at st
   exact wpAny_pyIter_striter_ascii st h
section
variable {X:Cx}
def qY (tl:TE):TI:=fun σ H R=>tl σ H fun x H1=>∃ t,x = .str t/\R (qX t) H1
theorem C6 {l:Expr} {tl:TE} {y:Str} {py:Pos} (hl:PE X l tl):PI X (.Name y py) l (qY tl):=by
 intro pins s σ H R I h
 refine thn (hl pins s σ H _ I h) fun v s1 ⟨x,H1,I1,r1,q1⟩=>?_
 obtain ⟨t,e,q⟩:=q1
 subst e
 obtain ⟨tk,rfl⟩:=r1
 refine wpAny_pyIter_strU ?_
 refine ⟨s1.heap.objs.size,[s1.heap.objs.size],_,_,H1,rfl,I1.kept (t' := s1.toks) fun b o e=>JH _ e,C5 _ t tk,⟨_,Kc _ rfl,rfl,rfl⟩,fun b hb=>?_,q⟩
 have e:b=s1.heap.objs.size:=by simpa using hb
 subst e
 exact I1.fpOk (JE _) (I1.hok.fresh (JE _))
end
def dt (env:Env):List (Str×NameKind)->List (Str×Addr)->List (Str×Addr)
 | [],acc=>acc
 | (n,k)::r,acc=>dt env r (if k = .free then (n,(env.cells.lookup n).getD 0)::acc else acc)
theorem C7 {env:Env} {scope:Scope} (h:∀ y∈scope.names,y.2 = .free->(env.cells.lookup y.1).isSome=true):closureFor scope env=pure (dt env scope.names []):=by
 have all:∀ (l:List (Str×NameKind)) (acc:List (Str×Addr)),(∀ y∈l,y.2 = .free->(env.cells.lookup y.1).isSome=true) ->
   (forIn l acc fun (x:Str×NameKind) (cs:List (Str×Addr))=>if (x.2 == NameKind.free)=true then (do let a <- cellOf env x.1;pure (ForInStep.yield ((x.1,a)::cs))) else (pure (ForInStep.yield cs):Sem _))=pure (dt env l acc):=by
  intro l
  induction l with
  | nil=>intro acc _;rfl
  | cons y r ih =>
   intro acc hl
   obtain ⟨n,k⟩:=y
   rw [List.forIn_cons]
   have hr:=fun z hz=>hl z (J7 _ hz)
   by_cases hk:k = .free
   ·subst hk
    obtain ⟨c,hc⟩:=Kl.mp (hl (n,.free) KC rfl)
    have e1:cellOf env n=pure c:=by
     simp only [cellOf]
     have hc':env.cells.lookup n=some c:=hc
     rw [hc']
    simp only [beq_self_eq_true,Ly,e1,pure_bind,dt]
    have hc':env.cells.lookup n=some c:=hc
    rw [hc']
    exact ih _ hr
   ·have hb:(k == NameKind.free)=false:=by simpa using hk
    simp only [hb,MZ,NY,pure_bind,dt,hk]
    exact ih _ hr
 unfold closureFor
 have q:=all scope.names [] h
 first
  | exact q
  | (simp only [bind_pure];exact q)
  | (rw [<- q];simp)
theorem qZ {env:Env}:∀ {l:List (Str×NameKind)} {acc:List (Str×Addr)},(∀ y∈l,y.2 = .free->(env.cells.lookup y.1).isSome=true)->(∀ y c,acc.lookup y=some c->env.cells.lookup y=some c) ->
  ∀ y c,(dt env l acc).lookup y=some c->env.cells.lookup y=some c
 | [],_,_,h,y,c,e=>h y c e
 | (n,k)::r,acc,hl,h,y,c,e=>by
  refine qZ (l:=r) (fun z hz=>hl z (J7 _ hz)) ?_ y c e
  intro y c e
  by_cases hk:k = .free
  ·rw [JJ hk] at e
   rw [L5] at e
   cases hy:y == n with
   | true =>
    rw [hy] at e
    have e':y=n:=by simpa using hy
    obtain ⟨c',hc'⟩:=Kl.mp (hl (n,k) KC hk)
    have hc'':env.cells.lookup n=some c' := hc'
    rw [hc''] at e
    rw [e',hc'']
    exact e
   | false =>
    rw [hy] at e
    exact h y c e
  ·rw [JM hk] at e
   exact h y c e
theorem rf {env:Env}:∀ {l:List (Str×NameKind)} {acc:List (Str×Addr)} {y:Str},(y,NameKind.free)∈l\/(acc.lookup y).isSome=true->((dt env l acc).lookup y).isSome=true
 | [],_,_,h=>by
  rcases h with h | h
  ·cases h
  ·exact h
 | (n,k)::r,acc,y,h=>by
  refine rf (l:=r) ?_
  rcases h with h | h
  ·rcases J8.mp h with e | e
   ·right
    cases e
    rw [JJ rfl,L5]
    simp
   ·exact .inl e
  ·right
   by_cases hk:k = .free
   ·rw [JJ hk,L5]
    cases hy:y == n with
    | true=>rfl
    | false=>exact h
   ·rw [JM hk];exact h
theorem lO {names:List (Str×NameKind)} {x:Str} {k:NameKind} (h:names.lookup x=some k):(x,k)∈names:=K4 h
theorem oi {env:Env} {x:Str} {k:NameKind}:∀ {names:List (Str×NameKind)},(names.map fun (n,k)=>if (k == NameKind.free && env.scope.kind == .function && env.kindOf n == some .cell) then (n,NameKind.cell) else (n,k)).lookup x=some k ->
  names.lookup x=some k\/(k = .cell/\names.lookup x=some .free)
 | [],h=>by simp at h
 | (n,kk)::r,h=>by
  have ih:=@oi env x k r
  by_cases hc:(kk == NameKind.free && env.scope.kind == .function && env.kindOf n == some .cell)=true
  ·have hf:kk = .free:=by
    have q:=(KZ _ _).mp ((KZ _ _).mp hc).1
    simpa using q.1
   subst hf
   have h':List.lookup x ((n,NameKind.cell)::(r.map fun (n,k)=>if (k == NameKind.free && env.scope.kind == .function && env.kindOf n == some .cell) then (n,NameKind.cell) else (n,k)))=some k:=by
    have e:(fun (p:Str×NameKind)=>match p with | (n,k)=>if (k == NameKind.free && env.scope.kind == .function && env.kindOf n == some .cell)=true then (n,NameKind.cell) else (n,k)) (n,NameKind.free)=(n,NameKind.cell):=by
     show (if _ then _ else _)=_
     rw [JJ hc]
    rw [JS] at h
    rw [<- e]
    exact h
   rw [L5] at h' ⊢
   cases hx:x == n with
   | true =>
    rw [hx] at h'
    right
    exact ⟨(Ks h').symm,rfl⟩
   | false =>
    rw [hx] at h'
    exact ih h'
  ·have h':List.lookup x ((n,kk)::(r.map fun (n,k)=>if (k == NameKind.free && env.scope.kind == .function && env.kindOf n == some .cell) then (n,NameKind.cell) else (n,k)))=some k:=by
    have e:(fun (p:Str×NameKind)=>match p with | (n,k)=>if (k == NameKind.free && env.scope.kind == .function && env.kindOf n == some .cell)=true then (n,NameKind.cell) else (n,k)) (n,kk)=(n,kk):=by
     show (if _ then _ else _)=_
     rw [JM hc]
    rw [JS] at h
    rw [<- e]
    exact h
   rw [L5] at h' ⊢
   cases hx:x == n with
   | true =>
    rw [hx] at h'
    exact .inl h'
   | false =>
    rw [hx] at h'
    exact ih h'
def cG (X:Cx) (pins:List (Addr×Obj)) (x₁:Str) (jf:List (Nat×Str)) (scope:Scope) (cl:List (Str×Addr)) (s:Shared) (H:Hp) (fp:List Addr):Cx where
 prog:=X.prog
 w:=X.w
 K:=X.K
 mg:=X.mg
 base:=X.base
 A:=X.A
 N:=x₁::jf.map (·.2)
 s₀:=s
 H₀:=H
 env:=compEnvC scope cl s.heap.objs.size X.env
 outer:=X.stack
 stack:=X.stack
 ex:=fp
 fn:=fun _=>false
 calm:=X.calm
 pn:=X.pn++pins
 xe:=fun _ _=>False
def eF (v:Option V) (js:List (Nat×Str)) (σ:St):St:=v::js.map fun j=>(σ[j.1]?).join
def fY (X:Cx) (ifs:List Expr) (t:TT):Prop :=
 ∀ (pins:List (Addr×Obj)) (s:Shared) (σ:St) (H:Hp) (Q:Bool->Hp->Prop),Inv X pins σ H s->t σ H Q ->
  wpAny (model X.prog X.w) X.A (forIn ifs true fun c r=>if r=true then do let ok <- isTrue c X.env (eval c X.env);pure (ForInStep.yield ok) else pure (ForInStep.yield r)) (TP X pins σ Q) X.xe s
def rg:TT:=fun _ H Q=>Q true H
theorem C8 {X:Cx}:fY X [] rg:=fun pins s σ H Q I h=>wpAny_tests_nil ⟨H,I,h⟩
theorem C9 {X:Cx} {c:Expr} {t:TT} (hc:PT X c t):fY X [c] t:=fun pins s σ H Q I h=>wpAny_tests_one (hc pins s σ H Q I h)
def j7 (jf:List (Nat×Str)) (wi:TI) (tc:TT) (te:TE):TE:=fun σ H Q=>wi σ H fun J H1=>∀ D,H1 D=none->∃ W:Nat->Nat->List V->Hp->Prop,(∃ m,W 0 m [] (aK H1 D (.lst []))) /\
 ∀ i m ys H2,W i m ys H2->H2 D=some (.lst ys)/\((J.stop i H2/\Q (.ref D) H2)\/(J.go i H2/\ys.length<sizeLine/\∀ x H3,J.yld i H2 x H3->tc (eF (some x) jf σ) H3 fun b H5 =>
  if b=true then te (eF (some x) jf σ) H5 fun v H6=>H6 D=some (.lst ys)/\∃ m',m'<m/\W (i+1) m' (ys++[v]) (aK H6 D (.lst (ys++[v]))) else ∃ m',m'<m/\W (i+1) m' ys H5))
section
variable {X:Cx} {pins:List (Addr×Obj)} {σ:St} {H:Hp} {s:Shared} {x₁:Str} {jf:List (Nat×Str)} {scope:Scope} {fp:List Addr}
theorem Inv.block {h1:Heap} {tk:Nat} (I:Inv X pins σ H s) (hf:∀ b∈fp,cS X pins H b) (hlt:∀ b∈fp,b<s.heap.objs.size) (hjf:∀ p∈jf,X.N[p.1]? = some p.2) (hjl:∀ p∈jf,scope.names.lookup p.2=some .free) (hkind:scope.kind = .function)
  (hcell:∀ y∈scope.names,y.2 ≠ .cell) (hfr:∀ y∈scope.names,y.2 = .free->X.env.kindOf y.1=some .cell\/X.env.kindOf y.1=some .free)
  (hn:h1.Ns s.heap.objs.size (fun _=>none)) (hk:∀ b o,s.heap.get? b=some o->h1.get? b=some o) :
  Inv (cG X pins x₁ jf scope (dt X.env scope.names []) s H fp) [] (eF none jf σ) H { s with heap:=h1,toks:=tk }:=by
 have hsome:∀ y∈scope.names,y.2 = .free->(X.env.cells.lookup y.1).isSome=true:=fun y hy hyf=>Kl.mpr (I.ok.has y.1 (hfr y hy hyf))
 have sub:∀ y c,(dt X.env scope.names []).lookup y=some c->X.env.cells.lookup y=some c:=qZ hsome (fun y c e=>by simp at e)
 have hsz:=I.sz
 have inE:∀ b,b∈(cG X pins x₁ jf scope (dt X.env scope.names []) s H fp).ex->b∈fp:=fun b z=>z
 have stk:∀ b∈c9 X.stack,b<s.heap.objs.size:=fun b hb=>by
  obtain ⟨_,o,ho,_⟩:=I.stack.mem hb
  exact JX ho
 refine ⟨⟨I.ok.mod,hkind,I.ok.glob,I.ok.blt,JE _,fun y z c e1 e2=>I.ok.inj y z c (sub y c e1) (sub z c e2),fun y hy=>?_,fun y c hfn _=>(by cases hfn),I.ok.hd,I.ok.frames,.inl rfl,fun b hb=>?_,fun b o e=>I.bs b o e,JK I.ok.bsz hsz,fun b o e z=>?_,fun b hb z=>?_,I.stack,I.stkFree⟩,
  rfl,I.bare,Un.kept hk,⟨_,hn,fun i y v e1 e2 e3=>?_⟩,fun y c e=>?_,I.hok.fresh (JE _),fun y c e=>I.freeC y c (sub y c e),fun p hp=>?_,I.hok.kept hk,?_⟩
 ·have hy':(relabel scope X.env).names.lookup y=some .cell\/(relabel scope X.env).names.lookup y=some .free:=hy
  have mem:(y,NameKind.free)∈scope.names:=by
   rcases hy' with q | q
   ·rcases oi (env:=X.env) q with z | z
    ·exact absurd rfl (hcell _ (lO z))
    ·exact lO z.2
   ·rcases oi (env:=X.env) q with z | z
    ·exact lO z
    ·exact lO z.2
  exact Kl.mp (rf (.inl mem))
 ·exact ⟨Ko (hlt b hb),fun y c e=>(hf b hb).2.2.2.2.1 y c (sub y c e)⟩
 ·rcases (hf b z).2.2.2.1 with q | q
  ·exact I.ok.noex b o e q
  ·exact absurd (Kd (JX e) (JK I.ok.bsz q)) (Lr _)
 ·rcases J8.mp (I.stkSub b z) with q | q
  ·exact (hf b hb).2.1 q
  ·exact (hf b hb).2.2.1 q
 ·have e1':(x₁::jf.map (·.2))[i]? = some y:=e1
  unfold eF at e2
  cases i with
  | zero=>cases e2
  | succ i =>
   rw [K0,Kh] at e1' e2
   cases q:jf[i]? with
   | none=>rw [q] at e2;cases e2
   | some p =>
    rw [q] at e1' e2
    have ey:p.2=y:=Ks e1'
    have ev:(σ[p.1]?).join=some v:=Ks e2
    have hp:p∈jf:=Kb q
    have eσ:σ[p.1]? = some (some v):=by
     cases z:σ[p.1]? with
     | none=>rw [z] at ev;cases ev
     | some r=>rw [z] at ev;rw [show r=some v from ev]
    have hfree:scope.names.lookup y=some .free:=by rw [<- ey];exact hjl p hp
    have mem:=lO hfree
    have kX:=hfr _ mem rfl
    obtain ⟨m,hnX,hl⟩:=I.loc
    obtain ⟨u,ru,lk⟩:=hl p.1 y v (by rw [<- ey];exact hjf p hp) eσ (by
     rcases kX with z | z
     ·exact .inr (.inl z)
     ·exact .inr (.inr z))
    refine ⟨u,ru,.inr ⟨?_,?_⟩⟩
    ·have e3':k8 (relabel scope X.env) y:=e3
     rcases e3' with z | z | z
     ·exfalso
      rcases oi (env:=X.env) z with q | q
      ·rw [hfree] at q;cases q
      ·cases q.1
     ·exact .inl z
     ·exact .inr z
    ·rcases lk with ⟨z,_⟩ | ⟨_,c,hc,hcell'⟩
     ·exfalso
      rcases kX with q | q
      ·rw [show X.env.kindOf y=some .cell from q] at z;cases z
      ·rw [show X.env.kindOf y=some .free from q] at z;cases z
     ·obtain ⟨c',hc'⟩:=Kl.mp (rf (env:=X.env) (acc:=[]) (.inl mem))
      have e:=sub y c' hc'
      rw [hc] at e
      cases e
      obtain ⟨o,ho,hd⟩:=hcell'
      exact ⟨c,hc',o,hk c o ho,hd⟩
 ·obtain ⟨v,o,ho,hd⟩:=I.cell y c (sub y c e)
  exact ⟨v,o,hk c o ho,hd⟩
 ·have hp':p∈X.pn++pins:=by simpa [cG] using hp
  obtain ⟨e,n,ne,nf,d⟩:=I.pin p hp'
  refine ⟨hk _ _ e,n,Ko (JX e),fun z=>?_,d⟩
  rcases J8.mp (I.stkSub p.1 z) with q | q
  ·exact ne q
  ·exact nf q
 ·unfold eF
  show _=(x₁::jf.map (·.2)).length
  rw [J6,J6,J0,J0]
end
theorem Da {prog:Program} {w:World} {A:Around} {R:Result->Shared->Prop} {s:Shared} {elt target iter:Expr} {ifs:List Expr} {scope:Scope} {pos:Pos} {it acc:Value} {env:Env} (I:Nat->Shared->Prop)
  (turn:∀ n s,I n s->wpAny (model prog w) A (pyNext it) (fun r s₁=>match r with
   | none=>R (.ok .next) s₁
   | some v=>wpAny (model prog w) A (letOwnedTupleGo target it v) (fun _ s₂=>wpAny (model prog w) A (assign target env v) (fun _ s₃ =>
     wpAny (model prog w) A (forIn ifs true fun c r=>if r=true then do let ok <- isTrue c env (eval c env);pure (ForInStep.yield ok) else pure (ForInStep.yield r)) (fun ok s₄ =>
      if ok=true then wpAny (model prog w) A (eval elt env) (fun x s₅=>wpAny (model prog w) A (call (.builtin "list.append") [acc,x]) (fun _ s₆=>∃ m,m<n/\I m s₆) (fun _ _=>False) s₅) (fun _ _=>False) s₄
      else ∃ m,m<n/\I m s₄) (fun _ _=>False) s₃) (fun _ _=>False) s₂) (fun _ _=>False) s₁) (fun _ _=>False) s)
  (n:Nat) (h:I n s):codeAny (model prog w) A (.compLoop (.ListComp elt [⟨target,iter,ifs,0⟩] scope pos) 0 it acc env) R s:=by
 refine codeAny_loop rfl I (fun n s hI=>?_) n h
 show wpAny _ A ((compTurn (.ListComp elt [⟨target,iter,ifs,0⟩] scope pos) 0 it acc env).onRaise (fun x=>do noteFrame x env;theTreesLotGoes x)) _ _ s
 refine wpAny_noted ?_
 rw [compTurn_list]
 refine JG (Oe (JG (KD (turn n s hI) (fun r s₁ h₁=>?_) fun _ _ z=>z.elim)))
 cases r with
 | none=>exact J2 h₁
 | some v =>
  refine JG (KD h₁ (fun _ s₂ h₂=>?_) fun _ _ z=>z.elim)
  refine JG (KD h₂ (fun _ s₃ h₃=>JG (KD h₃ (fun ok s₄ h₄=>?_) fun _ _ z=>z.elim)) fun _ _ z=>z.elim)
  cases ok with
  | false=>exact J2 ⟨rfl,h₄⟩
  | true =>
   exact JG (JG (KD h₄ (fun x s₅ h₅=>JG (KD h₅ (fun _ s₆ h₆=>J2 (J2 ⟨rfl,h₆⟩)) fun _ _ z=>z.elim)) fun _ _ z=>z.elim))
section
variable {X:Cx} {x₁:Str} {px:Pos} {jf:List (Nat×Str)} {scope:Scope} {iter elt:Expr} {ifs:List Expr} {pos:Pos} {wi:TI} {tc:TT} {te:TE}
theorem wB (hcalm:X.calm=true) (hi:PI X (.Name x₁ px) iter wi) (hc:∀ pins cl s H fp,fY (cG X pins x₁ jf scope cl s H fp) ifs tc) (he:∀ pins cl s H fp,PE (cG X pins x₁ jf scope cl s H fp) elt te)
  (hN:(x₁::jf.map (·.2)).Nodup) (hx:scope.names.lookup x₁=some .local) (hjf:∀ p∈jf,X.N[p.1]? = some p.2) (hjl:∀ p∈jf,scope.names.lookup p.2=some .free) (hkind:scope.kind = .function)
  (hcell:∀ y∈scope.names,y.2 ≠ .cell) (hfr:∀ y∈scope.names,y.2 = .free->X.env.kindOf y.1=some .cell\/X.env.kindOf y.1=some .free)
  (hnames:∀ y∈scope.names,y.2 = .local->scope.names.lookup y.1=some .local) {use:Option (Value->Sem Unit)} {Qf:Value->Shared->Prop} {cpos:Pos}
  {pins:List (Addr×Obj)} {σ:St} {H:Hp} {s:Shared} {Q:VK} (I:Inv X pins σ H s) (h:j7 jf wi tc te σ H Q)
  (fin:∀ D C s6 H6 m6,Inv X pins σ H6 s6->Q (.ref D) H6->cS X pins H6 C->s6.heap.Ns C m6->compPost (model X.prog X.w) X.A X.xe use Qf (.ref D) C (.ok .next) s6) (hs:∀ x,foldedSetIterable iter X.env x=pure x) :
  wpAny (model X.prog X.w) X.A (comprehension (.ListComp elt [⟨.Name x₁ px,iter,ifs,0⟩] scope pos) scope X.env cpos (newList []) false (eval iter X.env) use) Qf X.xe s:=by
 have hsome:∀ y∈scope.names,y.2 = .free->(X.env.cells.lookup y.1).isSome=true:=fun y hy hyf=>Kl.mpr (I.ok.has y.1 (hfr y hy hyf))
 refine wpAny_comprehension_free (use:=use) rfl hs (C7 hsome) hkind hnames (thn (hi pins s σ H _ I h) fun xv s1 h1=>thn h1 fun itv s2 h2=>?_)
 obtain ⟨it,fp,tn,J,H2,e,I2,T,st2,f2,h⟩:=h2
 subst e
 refine LY (wpAny_newFunctionEnv hcell (by intro y hy;simp at hy) (fun h₁ hns₁ hsb₁=>?_) hkind)
 have hD0:H2 s2.heap.objs.size=none:=I2.hok.fresh (JE _)
 obtain ⟨W,⟨m0,w0⟩,step⟩:=h s2.heap.objs.size hD0
 dsimp only at hns₁ hsb₁ ⊢
 have I3:Inv X pins σ (aK H2 s2.heap.objs.size (.lst [])) { s2 with heap:=s2.heap.push { cls:=.type "list",dict:=none,data:=.seq ([]:List Value).toArray } } :=
  I2.laid (t' := s2.toks) (fun b u q=>JH _ q) (JE _) ⟨Kk _,[],0,.nil,Kc _ rfl⟩
 generalize hH3:s2.heap.push { cls:=.type "list",dict:=none,data:=.seq ([]:List Value).toArray }=hp3 at hns₁ hsb₁ I3 ⊢
 have hsz3:hp3.objs.size=s2.heap.objs.size+1:=by rw [<- hH3,NO]
 have k23:∀ b o,s2.heap.get? b=some o->hp3.get? b=some o:=fun b o q=>by rw [<- hH3];exact JH _ q
 have flt:∀ b∈fp,b<s2.heap.objs.size:=fun b hb=>by
  obtain ⟨o,q,_⟩:=T.obj 0 _ st2 b hb
  exact JX q
 have f3:∀ b∈fp,cS X pins (aK H2 s2.heap.objs.size (.lst [])) b:=fun b hb=>by
  obtain ⟨g0,g⟩:=f2 b hb
  exact ⟨by rw [bL (Ko (flt b hb))];exact g0,g⟩
 have kC:∀ b o,hp3.get? b=some o->h₁.get? b=some o:=fun b o q=>(hsb₁.2 b (Ko (JX q))).trans (JH _ q)
 have B0:=I3.block (x₁:=x₁) (jf:=jf) (scope:=scope) (fp:=fp) (h1:=h₁) (tk:=s2.toks+([]:List (Str×Value)).length) f3 (fun b hb=>by show b<hp3.objs.size;rw [hsz3];exact M9 (flt b hb)) hjf hjl hkind hcell hfr (by simpa using hns₁) kC
 have st4:tn 0 h₁:=T.keep _ _ _ st2 fun b _ o q=>kC b o (k23 b o q)
 have w0' := w0
 have stat:∀ {H':Hp},(∀ b∈fp,H' b=none)->∀ b∈fp,cS (cG X pins x₁ jf scope (dt X.env scope.names []) { s2 with heap:=hp3 } (aK H2 s2.heap.objs.size (.lst [])) fp) [] H' b:=fun hn b hb=>by
  obtain ⟨_,g1,g2,g3,g4,g5⟩:=f2 b hb
  refine ⟨hn b hb,Ko (by show b<hp3.objs.size;rw [hsz3];exact M9 (flt b hb)),fun z=>?_,.inl hb,fun y c q=>g4 y c (qZ hsome (fun y c e=>by simp at e) y c q),fun p hp=>g5 p (by simpa [cG] using hp)⟩
  rcases J8.mp (I2.stkSub b z) with q | q
  ·exact g1 q
  ·exact g2 q
 have loop:codeAny (model X.prog X.w) X.A (.compLoop (.ListComp elt [⟨.Name x₁ px,iter,ifs,0⟩] scope pos) 0 (.ref it) (.ref s2.heap.objs.size) (compEnvC scope (dt X.env scope.names []) hp3.objs.size X.env))
   (compPost (model X.prog X.w) X.A X.xe use Qf (.ref s2.heap.objs.size) hp3.objs.size) { s2 with heap:=h₁,toks:=s2.toks+([]:List (Str×Value)).length }:=by
  refine Da (fun n s' => ∃ i ys H',Inv (cG X pins x₁ jf scope (dt X.env scope.names []) { s2 with heap:=hp3 } (aK H2 s2.heap.objs.size (.lst [])) fp) [] (eF none jf σ) H' s'/\tn i s'.heap/\(∀ b∈fp,H' b=none)/\W i n ys H') ?_ m0
   ⟨0,[],_,B0,st4,fun b hb=>(f3 b hb).1,w0⟩
  rintro n s5 ⟨i,ys,H5,I5,st5,fr5,w5⟩
  obtain ⟨hD5,alt⟩:=step i n ys H5 w5
  rcases alt with ⟨stop,q5⟩ | ⟨go,hlen,next⟩
  ·refine KD (T.done (cG X pins x₁ jf scope (dt X.env scope.names []) { s2 with heap:=hp3 } (aK H2 s2.heap.objs.size (.lst [])) fp) rfl rfl rfl hcalm i [] s5 _ H5 (fun _ _=>False) I5 (stat fr5) st5 stop) (fun r s6 ⟨hr,I6⟩=>?_) fun _ _ z=>z
   subst hr
   obtain ⟨m6,hn6,_⟩:=id I6.loc
   refine fin _ _ s6 H5 m6 ?_ q5 (I3.fpOk (JE _) I6.free) hn6
   refine I3.call' (ch:=fp) I6.os I6.base I6.hok I6.bare (fun b hb=>?_)
   obtain ⟨_,g1,g2,g3,g4,g5⟩:=f2 b hb
   exact ⟨g3,g1,g4,g5⟩
  ·refine KD (T.item (cG X pins x₁ jf scope (dt X.env scope.names []) { s2 with heap:=hp3 } (aK H2 s2.heap.objs.size (.lst [])) fp) rfl rfl rfl hcalm i [] s5 _ H5 (fun _ _=>False) I5 (stat fr5) st5 go) (fun r s6 ⟨u,hr,h6⟩=>?_) fun _ _ z=>z
   subst hr
   refine KD h6 (fun _ s7 ⟨x,H7,I7,r7,y7,st7,fr7⟩=>?_) fun _ _ z=>z
   have I7' := I7.pinned (stat fr7) (T.obj _ _ st7)
   have hloc:iI (cG X pins x₁ jf scope (dt X.env scope.names []) { s2 with heap:=hp3 } (aK H2 s2.heap.objs.size (.lst [])) fp).env.scope x₁:=.inl (N5 hx)
   refine Nc (qi (i:=0) I7' hN rfl hloc r7 (fun s8 I8=>?_) (.inr (N5 hx)))
   have q8:=next x H7 y7
   have I8':Inv (cG X pins x₁ jf scope (dt X.env scope.names []) { s2 with heap:=hp3 } (aK H2 s2.heap.objs.size (.lst [])) fp) ([]++gT fp s7.heap) (eF (some x) jf σ) H7 s8:=I8
   have again:∀ {s9:Shared} {H9:Hp} {zs:List V} {m':Nat},Inv (cG X pins x₁ jf scope (dt X.env scope.names []) { s2 with heap:=hp3 } (aK H2 s2.heap.objs.size (.lst [])) fp) ([]++gT fp s7.heap) (eF (some x) jf σ) H9 s9->m'<n->W (i+1) m' zs H9 ->
     ∃ m,m<n/\∃ i ys H',Inv (cG X pins x₁ jf scope (dt X.env scope.names []) { s2 with heap:=hp3 } (aK H2 s2.heap.objs.size (.lst [])) fp) [] (eF none jf σ) H' s9/\tn i s9.heap/\(∀ b∈fp,H' b=none)/\W i m ys H' := fun {s9 H9 zs m'} I9 hm w9=>by
    refine ⟨m',hm,i+1,zs,H9,I9.unpinned.weak (by simp [eF]) (fun j v e=>?_),T.keep _ _ _ st7 fun b hb o e=>(I9.pin (b,o) (JW _ (JW _ (nX hb e)))).1,fun b hb=>?_,w9⟩
    ·cases j with
     | zero=>simp [eF] at e
     | succ j=>simpa [eF] using e
    ·obtain ⟨o,e,d⟩:=T.obj _ _ st7 b hb
     exact (I9.pin (b,o) (JW _ (JW _ (nX hb e)))).2.1
   refine KD (hc pins _ _ _ fp ([]++gT fp s7.heap) s8 _ H7 _ I8' q8) (fun ok s9 ⟨H9,I9,q9⟩=>?_) fun _ _ z=>z
   cases ok with
   | false =>
    rw [JM JZ] at q9 ⊢
    obtain ⟨m',hm,w9⟩:=q9
    exact again I9 hm w9
   | true =>
    rw [JJ rfl] at q9 ⊢
    refine KD (he pins _ _ _ fp ([]++gT fp s7.heap) s9 _ H9 _ I9 q9) (fun y s10 ⟨v,H10,I10,r10,hD10,m',hm,w10⟩=>?_) fun _ _ z=>z
    refine KD (wm (X:=(cG X pins x₁ jf scope (dt X.env scope.names []) { s2 with heap:=hp3 } (aK H2 s2.heap.objs.size (.lst [])) fp)) ([]++gT fp s7.heap) s10 (eF (some x) jf σ) H10 (.ref s2.heap.objs.size) [v] (.ref s2.heap.objs.size) [y] (fun _ H' => H'=aK H10 s2.heap.objs.size (.lst (ys++[v]))) I10 rfl (.cons r10 .nil) ⟨_,ys,v,rfl,rfl,hD10,hlen,rfl⟩)
     (fun _ s11 ⟨_,H11,I11,_,e11⟩=>?_) fun _ _ z=>z
    subst e11
    exact again I11 hm w10
 exact codeAny_compStart_list loop (T.self _ 0 _ _ _ st4 loop)
theorem wC (hcalm:X.calm=true) (hi:PI X (.Name x₁ px) iter wi) (hc:∀ pins cl s H fp,fY (cG X pins x₁ jf scope cl s H fp) ifs tc) (he:∀ pins cl s H fp,PE (cG X pins x₁ jf scope cl s H fp) elt te)
  (hN:(x₁::jf.map (·.2)).Nodup) (hx:scope.names.lookup x₁=some .local) (hjf:∀ p∈jf,X.N[p.1]? = some p.2) (hjl:∀ p∈jf,scope.names.lookup p.2=some .free) (hkind:scope.kind = .function)
  (hcell:∀ y∈scope.names,y.2 ≠ .cell) (hfr:∀ y∈scope.names,y.2 = .free->X.env.kindOf y.1=some .cell\/X.env.kindOf y.1=some .free)
  (hnames:∀ y∈scope.names,y.2 = .local->scope.names.lookup y.1=some .local) (hs:∀ x,foldedSetIterable iter X.env x=pure x:=by intro _;rfl) :
  PE X (.ListComp elt [⟨.Name x₁ px,iter,ifs,0⟩] scope pos) (j7 jf wi tc te):=by
 intro pins s σ H Q I h
 rw [eval_ListComp]
 refine wB hcalm hi hc he hN hx hjf hjl hkind hcell hfr hnames (use:=none) (Qf:=EP X pins σ Q) I h (fun D C s6 H6 m6 I6 q6 f6 n6=>?_) hs
 refine ⟨m6,n6,fun h' hs' => ⟨.ref D,H6,?_,rfl,q6⟩⟩
 exact I6.turnedL (fp:=[C]) (t' := s6.toks) (fun b o hb q=>(hs'.2 b (fun z=>hb (by simp [z]))).trans q) (fun b hb=>by
  have e:b=C:=by simpa using hb
  subst e
  exact f6)
theorem wD {y:Str} {py spos:Pos} {i:Nat} (hcalm:X.calm=true) (hi:PI X (.Name x₁ px) iter wi) (hc:∀ pins cl s H fp,fY (cG X pins x₁ jf scope cl s H fp) ifs tc) (he:∀ pins cl s H fp,PE (cG X pins x₁ jf scope cl s H fp) elt te)
  (hN:(x₁::jf.map (·.2)).Nodup) (hx:scope.names.lookup x₁=some .local) (hjf:∀ p∈jf,X.N[p.1]? = some p.2) (hjl:∀ p∈jf,scope.names.lookup p.2=some .free) (hkind:scope.kind = .function)
  (hcell:∀ y∈scope.names,y.2 ≠ .cell) (hfr:∀ y∈scope.names,y.2 = .free->X.env.kindOf y.1=some .cell\/X.env.kindOf y.1=some .free)
  (hnames:∀ y∈scope.names,y.2 = .local->scope.names.lookup y.1=some .local) (hNX:X.N.Nodup) (hi':X.N[i]? = some y) (hy:X.env.scope.names.lookup y=some .local)
  (hsw:swapsWith (.ListComp elt [⟨.Name x₁ px,iter,ifs,0⟩] scope pos) (some (.Name y py)) spos.line X.env=pure true) (hs:∀ x,foldedSetIterable iter X.env x=pure x:=by intro _;rfl) :
  PS X (.Assign [.Name y py] (.ListComp elt [⟨.Name x₁ px,iter,ifs,0⟩] scope pos) spos) (gS (j7 jf wi tc te) (nU i)):=by
 intro pins s σ H D I h
 rw [exec_Assign_Name_used _ _ _ _ hsw]
 refine JG (Oe (JG ?_))
 show wpAny _ X.A (do let _ <- comprehension (.ListComp elt [⟨.Name x₁ px,iter,ifs,0⟩] scope pos) scope X.env _ (newList []) false (eval iter X.env) (some (assign (.Name y py) X.env))) _ _ s
 refine JG (KD (wB (Qf:=fun _ s' => SP X pins D .next s') hcalm hi hc he hN hx hjf hjl hkind hcell hfr hnames (use:=some (assign (.Name y py) X.env)) I h (fun D' C s6 H6 m6 I6 q6 f6 n6=>?_) hs) (fun _ s' hq=>J2 (J2 hq)) fun _ _ e=>e)
 refine Nc (vF I6 hNX hi' (.inl hy) (v:=.ref D') rfl (fun s7 I7 ⟨a,hsa,ha⟩=>?_) (.inr hy))
 have ne:C≠a:=by
  rcases ha with z | z
  ·rw [z];exact f6.2.1
  ·exact fun q=>f6.2.2.2.2.1 y a z q.symm
 refine ⟨m6,n6.sameBut hsa ne,fun h' hs' => ⟨_,H6,?_,q6⟩⟩
 exact I7.turnedL (fp:=[C]) (t' := s7.toks) (fun b o hb q=>(hs'.2 b (fun z=>hb (by simp [z]))).trans q) (fun b hb=>by
  have e:b=C:=by simpa using hb
  subst e
  exact f6)
end
end L2
namespace L2
open PySem PySem.Spec PyProof.Rows
section
variable {X:Cx} {a b e:Expr} {ta tb:TE} {p p2 pos:Pos}
theorem wF {c:V} {cv:Value} (rc:∀ u,RelV c u->u=cv) :
  CallR X (.builtin "isinstance") (fun xs H Q=>∃ x t r,xs=[x,c]/\cy X.K H x t/\PySem.W.kitOne X.K t cv=some r/\Q (.bl r) H):=by
 intro pins s σ H xs us Q I r h
 obtain ⟨x,t,k,rfl,ty,hk,q⟩:=h
 obtain ⟨u,w',rfl,rx,ry⟩:=qB r
 obtain rfl:=rc _ ry
 exact BK I rx ty hk fun tk=>⟨.bl k,H,I.tok _,rfl,q⟩
theorem wG (n:String):∀ u,RelV (.ty n) u->u=Value.type n:=fun _ r=>r
theorem Dc (c:Addr):∀ u,RelV (.ref c) u->u=Value.ref c:=fun _ r=>r
theorem De:OpR X (compareOp .LtE) (fun x y H Q=>∃ i j,x = .str i/\y = .str j/\Q (.bl (!decide (j.cps.toList<i.cps.toList))) H):=by
 intro pins s σ H x y v u Q I rx ry h
 obtain ⟨i,j,rfl,rfl,q⟩:=h
 obtain ⟨t,rfl⟩:=rx
 obtain ⟨t',rfl⟩:=ry
 exact PySem.P.le_str (bZ I q rfl)
theorem Df:fu X "str.count" (fun x vs H Q=>∃ z y,x = .str z/\vs=[.str y]/\Q (.int ((Builtin.Str.occurrences z y 0 z.length (z.length+1)).length:Nat)) H):=by
 intro pins s σ H x vs v us Q I rx rv h
 obtain ⟨z,y,rfl,rfl,q⟩:=h
 obtain ⟨t,rfl⟩:=rx
 obtain ⟨u,rfl,t',rfl⟩:=gW rv
 exact call_gives F.slot_str_count (Nz s z t) F.entry_str_count (F.args_str_count_2 _ _) (gives_str_count z y t t') ⟨.int _,H,I.tok _,⟨_,rfl⟩,q⟩
theorem Dg (hc:X.calm=true):CallR X (.builtin "all") (fun xs H Q=>∃ (a:Addr) (bs:List Bool),xs=[.ref a]/\SqL X.K H a (bs.map V.bl)/\Q (.bl (bs.all id)) H):=by
 intro pins s σ H xs us Q I r h
 obtain ⟨l,bs,rfl,hq,q⟩:=h
 obtain ⟨u,rfl,rx⟩:=gW r
 cases rx
 obtain ⟨its,rv,pl,hz⟩:=I.list hq
 have hlt:l<s.heap.objs.size:=by obtain ⟨_,_,e,_⟩:=pl;exact JX e
 have hlen:its.length=bs.length:=by rw [<- rv.length,J0]
 refine call_all_walk (Nd pl.isList ?_)
 refine ⟨s.heap.objs.size,[s.heap.objs.size,l],[s.heap.objs.size],its.toArray.size,_,_,fun i=>(bs[i]?).getD true,rfl,Walks.list (A:=X.A.in1) (I.ok.hd hc) _ l (Ko hlt) its.toArray,
  ⟨⟨_,Kc _ rfl,rfl,rfl⟩,pl.isList.push _⟩,fun i v s' Q' E' hP hQ=>?_,fun h' tk hk=>?_⟩
 ·have hP':its[i]? = some v:=by simpa using hP
  have hi:i<its.length:=(JD.mp hP').1
  have hb:(bs.map V.bl)[i]? = some (V.bl (bs[i]'(by lia))):=by rw [Kh,JY (by lia)];rfl
  obtain ⟨u,hu,ru⟩:=rv.get hb
  rw [hP'] at hu
  cases hu
  cases ru
  have e:(bs[i]?).getD true=bs[i]'(by lia):=by rw [JY (by lia)];rfl
  have hQ2:Q' ((bs[i]?).getD true) s' := hQ
  rw [e] at hQ2
  exact Lc hQ2
 ·have e:((List.range its.toArray.size).all fun i=>(bs[i]?).getD true)=bs.all id:=by
   rw [JO,hlen,K5,Kz,Kz]
   constructor
   ·intro z c hc'
    obtain ⟨i,hi,rfl⟩:=Lx hc'
    have:=z i (MV.mpr hi)
    rw [JY hi] at this
    exact this
   ·intro z i hi
    have hi' := MV.mp hi
    rw [JY hi']
    exact z _ (Nj hi')
  rw [e]
  refine ⟨.bl _,H,I.kept (t' := tk) fun b o q=>?_,rfl,q⟩
  exact hk b o (fun hm=>by rw [Kf.mp hm] at q;exact Lr _ (JX q)) (JH _ q)
end
end L2
namespace L2
open PySem PySem.Spec PyProof.Rows
section
variable {X:Cx}
theorem Dh:OpR X (binaryOp .FloorDiv) (rI (fun _ j=>0<j/\j<2 ^ 200) fun i j=>.int (i / j)):=nY fun i j _ _ _ _ _ hc q=>by
 obtain ⟨h1,h2⟩:=hc
 refine floordiv_int (by lia) (by rw [Int.fdiv_eq_ediv_of_nonneg i (by lia)];exact q) (.inl (PyProof.noPylong_of_log2 ?_))
 have h3:j.natAbs<2 ^ 200:=by (clear q;omega)
 have h4:j.natAbs.log2<200:=(Nat.log2_lt (by (clear h3 h2 q;lia))).mpr h3
 lia
theorem Di:OpR X (binaryOp .Mult) (rI IntMulOk fun i j=>.int (i*j)):=nY fun _ _ _ _ _ _ _ hc q=>mul_int q hc
end
end L2
namespace L2
open PySem PySem.Spec PyProof.Rows
theorem Dj:bootBuiltins "int" = some (.type "int"):=by decide +kernel
theorem Dk:bootBuiltins "bool" = some (.type "bool"):=by decide +kernel
theorem Dl:bootBuiltins "str" = some (.type "str"):=by decide +kernel
end L2
namespace L2
open PySem PySem.Spec PyProof.Rows
theorem ObjOk.some {P:Program} {w:World} {H:Hp} {h:Heap} {a:Addr} {o:HO} (x:ObjOk P w H h a o):∃ ob,h.get? a=Option.some ob:=by
 cases o with
 | lst xs=>obtain ⟨_,_,_,_,e⟩:=x;exact ⟨_,e⟩
 | tup xs=>obtain ⟨_,_,_,o,e,_⟩:=x;exact ⟨o,e⟩
 | dK kvs=>obtain ⟨_,_,_,_,o,_,_,e,_⟩:=x;exact ⟨_,e⟩
 | dT xc kvs=>obtain ⟨_,_,_,_,o,_,_,e,_⟩:=x;exact ⟨_,e⟩
 | set S n=>obtain ⟨o,_,_,_,e,_⟩:=x;exact ⟨_,e⟩
 | ins C dx fs=>obtain ⟨_,_,_,e,_⟩:=x;exact ⟨_,e⟩
 | own y=>obtain ⟨_,e⟩:=x;exact ⟨_,e⟩
 | xd fs=>obtain ⟨_,⟨_,_,_,e,_⟩,_⟩:=x;exact ⟨_,e⟩
 | rng lo hi=>obtain ⟨_,_,_,e⟩:=x;exact ⟨_,e⟩
 | frz ob u=>obtain ⟨e,_⟩:=x;exact ⟨_,e⟩
 | tbl ps=>exact ⟨_,(show h.get? a=Option.some _ from x)⟩
 | met f y=>exact ⟨_,(show h.get? a=Option.some _ from x)⟩
 | ext φ=>obtain ⟨_,⟨_,e⟩,_⟩:=x;exact ⟨_,e⟩
def jq (X:Cx) (pins:List (Addr×Obj)) (H:Hp) (h B:Heap):Prop :=
 ∀ b o,h.get? b=some o->b∉c9 X.stack->((∃ u,H b=some u)\/(∃ o',X.s₀.heap.get? b=some o')\/∃ p∈X.pn++pins,p.1=b)->B.get? b=some o
section
variable {X:Cx} {pins:List (Addr×Obj)} {σ:St} {H:Hp} {s:Shared}
theorem Inv.nofr (I:Inv X pins σ H s) {b:Addr} {o:Obj} (e:X.s₀.heap.get? b=some o) (hb:b∉X.fs):b∉c9 X.stack:=fun z=>by
 rcases J8.mp (I.stkSub b z) with q | q
 ·exact Ko (Kd (JX e) I.ok.above) q
 ·exact hb q
theorem Inv.nofrT (I:Inv X pins σ H s) {b:Addr} {u:HO} (e:H b=some u):b∉c9 X.stack:=fun z=>by
 have q:=I.stkFree b z
 rw [q] at e
 cases e
theorem Inv.nofrP (I:Inv X pins σ H s) {p:Addr×Obj} (hp:p∈X.pn++pins):p.1∉c9 X.stack:=fun z=>by
 obtain ⟨_,_,ne,nf,_⟩:=I.pin p hp
 rcases J8.mp (I.stkSub p.1 z) with q | q
 ·exact ne q
 ·exact nf q
theorem Inv.flown {B h':Heap} {t':Nat} (I:Inv X pins σ H s) (hex:X.ex=[]) (F:jq X pins H s.heap B) (st:B.StaysIn h') (sm:s.heap.UpToSlots h'):Inv X pins σ H { s with heap:=h',toks:=t' }:=by
 have nx:∀ b,b∉X.ex:=fun b z=>by rw [hex] at z;cases z
 refine ⟨I.ok,I.os,I.bare,⟨fun b o e n hb hx=>?_,fun b o e n hb hx=>?_,I.base.free,fun b o e hx=>?_,I.base.tups,I.base.frzs,I.base.tbls⟩,?_,fun x c e=>?_,I.free,I.freeC,fun p hp=>?_,fun b u e=>?_,I.len⟩
 ·exact st b o (F b o (I.base.keep b o e n hb hx) (I.nofr e hb) (.inr (.inl ⟨o,e⟩)))
 ·obtain ⟨sl,q⟩:=I.base.slot b o e n hb hx
  obtain ⟨_,o',ho',hd⟩:=I.funs.mem hb
  rw [q] at ho'
  cases ho'
  obtain ⟨sl',q'⟩:=sm b _ q hd
  exact ⟨sl',q'⟩
 ·obtain ⟨o',q⟩:=I.base.there b o e hx
  by_cases hb:b∈X.fs
  ·obtain ⟨_,o'',ho'',hd⟩:=I.funs.mem hb
   rw [q] at ho''
   cases ho''
   obtain ⟨sl',q'⟩:=sm b _ q hd
   exact ⟨_,q'⟩
  ·exact ⟨o',st b o' (F b o' q (I.nofr e hb) (.inr (.inl ⟨o,e⟩)))⟩
 ·obtain ⟨m,hn,hl⟩:=I.loc
  refine ⟨m,sm.ns hn,fun i x v e1 e2 e3=>?_⟩
  obtain ⟨u,r,l⟩:=hl i x v e1 e2 e3
  refine ⟨u,r,?_⟩
  rcases l with l | ⟨k,c,e,o,ho,hd⟩
  ·exact .inl l
  ·obtain ⟨sl,q⟩:=sm c o ho fun vs z=>by rw [hd] at z;cases z
   exact .inr ⟨k,c,e,_,q,hd⟩
 ·obtain ⟨v,o,ho,hd⟩:=I.cell x c e
  obtain ⟨sl,q⟩:=sm c o ho fun vs z=>by rw [hd] at z;cases z
  exact ⟨v,_,q,hd⟩
 ·obtain ⟨e,n,ne,nf,d⟩:=I.pin p hp
  exact ⟨st _ _ (F _ _ e (I.nofrP hp) (.inr (.inr ⟨p,hp,rfl⟩))),n,ne,nf,d⟩
 ·refine (I.hok b u e).stay (fun c v hc q=>?_) (fun _ q=>q) fun _ _ q=>q
  rcases hc with z | z
  ·subst z
   exact st _ _ (F _ _ q (I.nofrT e) (.inl ⟨_,e⟩))
  ·exact st _ _ (F _ _ q (I.nofrT z) (.inl ⟨_,z⟩))
end
structure Arr (X:Cx) (pins:List (Addr×Obj)) (σ:St) (H:Hp) (a:Addr) (cls:Value) (s:Shared):Prop where
 inv:Inv X pins σ H s
 un:H a=none
 new:X.s₀.heap.get? a=none
 nl:a≠X.env.locals
 nc:∀ x c,X.env.cells.lookup x=some c->c≠a
 np:∀ p∈X.pn++pins,p.1≠a
 fly:∃ B a0,jq X pins H s.heap B/\B.StaysIn s.heap/\B.get? a=none/\s.heap.FunFrames B X.stack /\
  ((∃ oe vs,s.heap.get? a=some oe/\oe.cls=cls/\oe.data = .fields vs/\vs[0]? = some a0/\vs[1]? = some .none)\/s.heap.TracedW B a cls a0)
def cN (P:Program) (w:World):eK:=fun outer H s E e s' => ∃ (a:Addr) (cls a0:Value) (H':Hp) (B:Heap),e = .ref a/\s'.os=s.os/\AllBare s'.gens/\Un (c9 outer) [] H H' s.heap s'.heap/\HOk P w H' s'.heap /\
 Heap.FlyingW B outer a cls a0 s'.heap/\(∀ b o,s'.heap.get? b=some o->b∉c9 outer->((∃ u,H' b=some u)\/∃ o',s.heap.get? b=some o')->B.get? b=some o)/\H' a=none/\s.heap.get? a=none/\E cls none H'
section
variable {X:Cx} {pins:List (Addr×Obj)} {σ:St} {H:Hp} {s:Shared}
theorem Dm {h':Heap} {e:Addr} {cls:Value} {args:List Value} {t':Nat} (I:Inv X pins σ H s) (hex:X.ex=[]) (hx:Heap.MadeExcOf s.heap h' e cls args):Arr X pins σ H e cls { s with heap:=h',toks:=t' }:=by
 have nx:∀ b,b∉X.ex:=fun b z=>by rw [hex] at z;cases z
 have none_of:∀ b o,s.heap.get? b=some o->b≠e:=fun b o q z=>by rw [z,hx.new] at q;cases q
 have eq_of:∀ b o o1,h'.get? b=some o->s.heap.get? b=some o1->o1=o:=fun b o o1 q q1=>by
  have z:=hx.keeps b o1 q1
  rw [q] at z
  exact (Ks z).symm
 obtain ⟨t,he,_,_⟩:=hx.there
 refine ⟨I.kept hx.keeps,?_,?_,fun z=>?_,fun x c q z=>?_,fun p hp z=>?_,PySem.W.hideAll s.heap (c9 X.stack),.ref t,fun b o q nb alt=>?_,fun b o q=>hx.keeps b o (MU _ q),?_,?_,.inl ⟨_,_,he,rfl,rfl,rfl,rfl⟩⟩
 ·cases q:H e with
  | none=>rfl
  | some u =>
   obtain ⟨ob,z⟩:=(I.hok e u q).some
   exact absurd rfl (none_of e ob z)
 ·cases q:X.s₀.heap.get? e with
  | none=>rfl
  | some o =>
   obtain ⟨ob,z⟩:=I.base.there e o q (nx e)
   exact absurd rfl (none_of e ob z)
 ·obtain ⟨m,⟨o,_,_,ho,_⟩,_⟩:=I.loc
  exact none_of _ o ho z.symm
 ·obtain ⟨v,o,ho,_⟩:=I.cell x c q
  exact none_of _ o ho z
 ·exact none_of _ _ (I.pin p hp).1 z
 ·have there:∃ o1,s.heap.get? b=some o1:=by
   rcases alt with ⟨u,q'⟩ | ⟨o',q'⟩ | ⟨p,hp,rfl⟩
   ·exact (I.hok b u q').some
   ·exact I.base.there b o' q' (nx b)
   ·exact ⟨_,(I.pin p hp).1⟩
  obtain ⟨o1,q1⟩:=there
  rw [<- eq_of b o o1 q q1]
  exact N9 _ q1 nb
 ·cases q:(PySem.W.hideAll s.heap (c9 X.stack)).get? e with
  | none=>rfl
  | some o=>exact absurd rfl (none_of e o (MU _ q))
 ·refine (PySem.W.funFrames_hide I.stack fun env henv b hb=>MX.mpr ⟨env,henv,hb⟩).of_keeps fun b o q _=>⟨o,hx.keeps b o q,rfl⟩
theorem Do {E:XK} {e:Value} {s':Shared} (I:Inv X pins σ H s) (hex:X.ex=[]) (h:cN X.prog X.w X.stack H s E e s'):∃ a cls H',e = .ref a/\Arr X pins σ H' a cls s'/\E cls none H' := by
 obtain ⟨a,cls,a0,H',B,rfl,os,bare,un,hok,⟨f1,f2,f3,f4⟩,ext,na,ns,q⟩:=h
 have nx:∀ b,b∉X.ex:=fun b z=>by rw [hex] at z;cases z
 have none_of:∀ b o,s.heap.get? b=some o->b≠a:=fun b o q z=>by rw [z,ns] at q;cases q
 refine ⟨a,cls,H',rfl,⟨I.call' (ch:=[]) os un hok bare (fun b z=>absurd z (by simp)),na,?_,fun z=>?_,fun x c q z=>?_,fun p hp z=>?_,B,a0,fun b o q nb alt=>?_,f1,f2,f3,.inr f4⟩,q⟩
 ·cases q:X.s₀.heap.get? a with
  | none=>rfl
  | some o =>
   obtain ⟨ob,z⟩:=I.base.there a o q (nx a)
   exact absurd rfl (none_of a ob z)
 ·obtain ⟨m,⟨o,_,_,ho,_⟩,_⟩:=I.loc
  exact none_of _ o ho z.symm
 ·obtain ⟨v,o,ho,_⟩:=I.cell x c q
  exact none_of _ o ho z
 ·exact none_of _ _ (I.pin p hp).1 z
 ·refine ext b o q nb ?_
  rcases alt with ⟨u,q'⟩ | ⟨o',q'⟩ | ⟨p,hp,rfl⟩
  ·exact .inl ⟨u,q'⟩
  ·exact .inr (I.base.there b o' q' (nx b))
  ·exact .inr ⟨_,(I.pin p hp).1⟩
theorem Arr.land {a:Addr} {cls:Value} {Q:Unit->Shared->Prop} {E:Value->Shared->Prop} {M:Model} {A:Around} (R:Arr X pins σ H a cls s) (hex:X.ex=[]) (hfr:A.frames=some X.stack) {outer:List Env} (hst:X.stack=X.env::outer) (hf:X.env.frame=some X.env.locals)
  (hQ:∀ h' B a0,jq X pins H s.heap B->Heap.FlyingW B X.stack a cls a0 h'->s.heap.UpToSlots h'->Inv X pins σ H { s with heap:=h' }->Q () { s with heap:=h' }) :
  wpAny M A (noteFrame (.ref a) X.env) (fun _ s₂=>wpAny M A (setFlight (.ref a) none) Q E s₂) E s:=by
 obtain ⟨B,a0,fm,st,hb,ff,alt⟩:=R.fly
 have after:∀ h4,Heap.HeldW B X.stack a cls a0 X.env.locals h4->s.heap.UpToSlots h4->wpAny M A (setFlight (.ref a) none) Q E { s with heap:=h4 }:=fun h4 hh sm=>by
  refine wpAny_landsW (s:={ s with heap:=h4 }) hh fun h5 fl sm5=>?_
  have sm':s.heap.UpToSlots h5:=sm.trans sm5
  exact hQ h5 B a0 fm fl sm' (R.inv.flown (t' := s.toks) hex fm fl.1 sm')
 rw [hst] at hfr
 rw [hst] at ff
 rcases alt with ⟨oe,vs,he,hc,hd,h0,h1⟩ | tr
 ·subst hc
  have hsz:1<vs.size:=(M0.mp h1).1
  unfold noteFrame
  simp only [hf]
  refine JG (NZ he hd h1 ?_)
  rw [JM (by decide)]
  refine wpAny_entryW hfr ff hf he st hb hd hsz h0 fun h4 hN=>?_
  obtain ⟨k1,k2,k3,k4⟩:=hN
  exact after h4 (by rw [hst];exact ⟨k1,hb,k2,k3⟩) k4
 ·exact wpAny_looks_onW hfr hf ⟨st,hb,ff,tr⟩ fun h4 hh sm=>after h4 (by rw [hst];exact hh) sm
theorem wH {P:Program} {w:World} {K:PySem.W.Frag} {mg:Str->Option Value} {base:Heap} {N:List Str} {qual:Str} {scope:Scope} {f:Addr} {cd:Value} {A:Around} {outer:List Env} {s0:Shared} {H0:Hp} {E:XK} {a:Addr} {cls:Value}
  (R:Arr (cf (cN P w) P w K mg base N qual scope f cd A outer s0 H0 E) pins σ H a cls s) (q:E cls none H):(cf (cN P w) P w K mg base N qual scope f cd A outer s0 H0 E).xe (.ref a) s:=by
 show wpAny _ _ (leaving _ _) _ _ s
 unfold leaving
 refine JG (R.land (E:=fun e' s'' => cN P w outer H0 s0 E e' s'') rfl R.inv.ok.frames rfl rfl fun h' B a0 fm fl sm I' => ?_)
 have I:=R.inv
 obtain ⟨k1,k2,⟨_,_,k3⟩,k4⟩:=fl
 refine ⟨a,cls,a0,H,B,rfl,I'.os,I'.bare,I'.base,I'.hok,⟨k1,k2,k3,k4⟩,fun b o e nb alt=>?_,R.un,R.new,q⟩
 have nstk:b∉c9 (cf (cN P w) P w K mg base N qual scope f cd A outer s0 H0 E).stack:=by
  rcases alt with ⟨u,z⟩ | ⟨o',z⟩
  ·exact I.nofrT z
  ·exact I.nofr z nb
 have there:∃ o1,s.heap.get? b=some o1:=by
  rcases alt with ⟨u,z⟩ | ⟨o',z⟩
  ·exact (I.hok b u z).some
  ·exact I.base.there b o' z (fun z=>absurd (show b∈([]:List Addr) from z) (by simp))
 obtain ⟨o1,q1⟩:=there
 have z:B.get? b=some o1:=fm b o1 q1 nstk (by
  rcases alt with ⟨u,z⟩ | ⟨o',z⟩
  ·exact .inl ⟨u,z⟩
  ·exact .inr (.inl ⟨o',z⟩))
 have z2:=k1 b o1 z
 rw [show (Heap.get? h' b)=some o from e] at z2
 cases z2
 exact z
end
def rh (X:Cx) (Ex:St->XK):Prop:=∀ (pins:List (Addr×Obj)) (σ:St) (H:Hp) (s:Shared) (a:Addr) (cls:Value),Arr X pins σ H a cls s->Ex σ cls none H->X.xe (.ref a) s
def lP (CX:eK) (X:Cx) (Ex:St->XK):Prop:=∀ (pins:List (Addr×Obj)) (σ:St) (H:Hp) (s:Shared) (e:Value) (s':Shared),Inv X pins σ H s->CX X.stack H s (Ex σ) e s'->X.xe e s'
section
variable {P:Program} {w:World} {K:PySem.W.Frag} {mg:Str->Option Value} {base:Heap} {N:List Str} {qual:Str} {scope:Scope} {f:Addr} {cd:Value} {A:Around} {outer:List Env} {s0:Shared} {H0:Hp} {E:XK}
theorem iL:rh (cf (cN P w) P w K mg base N qual scope f cd A outer s0 H0 E) (fun _=>E):=fun _ _ _ _ _ _ R q=>wH R q
theorem Dp:BQ (cN P w) (cf (cN P w) P w K mg base N qual scope f cd A outer s0 H0 E) E:=fun pins σ H s e s' I h=>by
 obtain ⟨a,cls,H',rfl,R,q⟩:=Do (X:=cf (cN P w) P w K mg base N qual scope f cd A outer s0 H0 E) I rfl h
 exact wH R q
end
section
variable {X:Cx} {x:Str} {C:Addr} {bm:List Value} {B newId initId:String} {np cpos pos:Pos} {e:Expr} {es:List Expr} {t:TA} {Ex:St->XK}
def Dq (cls:Value) (Ex:St->XK) (t:TA):TS:=fun _ σ H=>t σ H fun vs H1=>vs.length<=1000/\Ex σ cls none H1
theorem Dr (O:OwnCls x C bm newId X.mg X.base) (FB:ExcBaseFacts B newId initId bm) (hc:X.calm=true) (hex:X.ex=[]) (hr:rh X Ex) (hg:Gl X x) (ha:PA X (e::es) t)
  (hdb:(x == ("__debug__" : Str))=false:=by decide) (he:starEach (e::es) X.env=(false,eval e X.env)::starEach es X.env:=by rfl) (hpl:(backTo cpos (starEach es X.env)).any (·.1)=false:=by rfl) :
  PS X (.Raise (some (.Call (.Name x np) (e::es) [] cpos)) none pos) (Dq (.ref C) Ex t):=by
 intro pins s σ H D I h
 obtain ⟨tl,NN,nm,q,bs,hdct,sn,sub,ab,col,dd,k0,k1,k2,k3,k5,mN,hC,hN,hni,T⟩:=O.obj
 refine wpAny_Raise_call_subT (C:=C) (nm:=nm) (q:=q) (N:=NN) (bs:=bs) (bm:=tl) (hdct:=hdct) (sn:=sn) (sub:=sub) (ab:=ab) (col:=col) (dd:=dd) (k0:=k0) (k1:=k1) (k2:=k2) (k3:=k3) (k5:=k5) FB (mN:=mN)
  (T.hasType FB.hasBase) (I.ok.hd hc) (by rw [he];show (false || (backTo cpos (starEach es X.env)).any (·.1))=false;rw [hpl];rfl) hni (nT I hg O.bound ⟨rfl,?_⟩ hdb)
 have hA:=ha cpos pins s σ H _ I h
 rw [he] at hA ⊢
 refine NP (thn hA fun us s2 ⟨vs,H1,I1,r1,hl,q1⟩=>⟨rfl,?_,I1.bk _ _ hC,hN.keeps I1.bk,T.keeps I1.bk,fun h' a hm=>hr pins σ H1 _ a _ (Dm (t' := s2.toks) I1 hex hm) q1⟩)
 show us.length<=sizeLine
 rw [<- r1.length]
 exact JK hl (by decide)
end
section
variable {X:Cx} {CX:eK} {k:Nat} {f C:Addr} {fd:FuncData} {ps:List Str} {sp:Sp} {dvs:List V} {ds:List Value} {Ex:St->XK} {x m:Str} {p pos apos:Pos} {e o:Expr} {es:List Expr} {ta:TE} {t:TA}
theorem rm {pins:List (Addr×Obj)} {σ:St} {H:Hp} {s:Shared} {Q:VK} {us:List Value} {vs:List V} (F:FnOk X.prog X.w X.K X.mg X.base CX k f fd ps sp) (hr:Room k X.A) (hb:Binds X.K fd ps ds) (hd:Vals dvs ds) (hx:lP CX X Ex)
  (I:Inv X pins σ H s) (r:Vals vs us) (h:sp (vs++dvs) H Q (Ex σ)):wpAny (model X.prog X.w) X.A (call (.ref f) us) (EP X pins σ Q) X.xe s:=by
 have r2:Vals (vs++dvs) (us++ds):=r.append hd
 have hl:(us++ds).length=ps.length:=by rw [<- r2.length];exact F.len _ _ _ _ h
 refine wpAny_call (NB (F.run X.A X.stack s H ⟨us,[]⟩ (us++ds) (vs++dvs) Q (Ex σ) hr I.env0 (hb s us I.kIn hl) r2 h) fun r s' hq=>?_)
 cases r with
 | error e=>exact hx pins σ H s e s' I hq
 | ok fl =>
  cases fl with
  | ret u=>exact I.after hq
  | next=>exact False.elim hq
  | brk=>exact False.elim hq
  | cont=>exact False.elim hq
def Ds (sp:Sp) (dvs:List V) (Ex:St->XK) (t:TA):TE:=fun σ H Q=>t σ H fun vs H1=>sp (vs++dvs) H1 Q (Ex σ)
theorem Dt (F:FnOk X.prog X.w X.K X.mg X.base CX k f fd ps sp) (hr:Room k X.A) (hg:Gl X x) (hm:X.mg x=some (.ref f)) (hk:PySem.W.keepIn X.K (.ref f)=true) (hb:Binds X.K fd ps ds) (hd:Vals dvs ds) (hx:lP CX X Ex)
  (ha:PA X (e::es) t) (hdb:(x == ("__debug__" : Str))=false:=by decide) (he:starEach (e::es) X.env=(false,eval e X.env)::starEach es X.env:=by rfl) (hpl:(backTo pos (starEach es X.env)).any (·.1)=false:=by rfl) :
  PE X (.Call (.Name x p) (e::es) [] pos) (Ds sp dvs Ex t):=by
 intro pins s σ H Q I h
 refine Mi (nT I hg hm ?_ hdb)
 refine Og (h₀:=X.base) I.ok.mod.kin hk (thn (ha pos pins s σ H _ I h) fun us s1 ⟨vs,H1,I1,r,q⟩=>⟨I1.kIn,?_⟩) he hpl
 exact rm F hr hb hd hx I1 r q
def wI (C:Addr) (m:Str) (sp:Sp) (dvs:List V) (Ex:St->XK) (ta:TE) (t:TA):TE:=fun σ H Q=>ta σ H fun x H1=>∃ a dx fs,x = .ref a/\H1 a=some (.ins C dx fs)/\fs.lookup m=none /\
 t σ H1 fun vs H2=>sp (x::(vs++dvs)) H2 Q (Ex σ)
theorem Du {pl:Sem Bool} (he:PE X o ta) (c:Cls X.K C) (hm:fX X.K C m f) (F:FnOk X.prog X.w X.K X.mg X.base CX k f fd ps sp) (hr:Room k X.A) (hb:Binds X.K fd ps ds) (hd:Vals dvs ds) (hx:lP CX X Ex) (ha:PA X (e::es) t)
  (hst:starEach (e::es) X.env=(false,eval e X.env)::starEach es X.env:=by rfl) (hpl:(backTo pos (starEach es X.env)).any (·.1)=false:=by rfl)
  (ht:eval (.Call (.Attribute o m apos) (e::es) [] pos) X.env=(do
   let ov <- eval o X.env
   standAt apos.atName
   let (f,first) <- holding [ov] (getMethod ov m pl)
   callWith pos f first (backTo pos (starEach (e::es) X.env)) (backToKw pos (keywordEach [] X.env))):=by rfl) :
  PE X (.Call (.Attribute o m apos) (e::es) [] pos) (wI C m sp dvs Ex ta t):=by
 intro pins s σ H Q I h
 refine NI (pl:=pl) (thn (he pins s σ H _ I h) fun u s1 ⟨x,H1,I1,rx,a,dx,fs,ex,ea,l,q⟩=>?_) ht
 subst ex
 obtain rfl:u=Value.ref a:=rx
 refine vR I1 ea c hm l ?_
 refine Og (first:=[.ref a]) (h₀:=X.base) I.ok.mod.kin hm.kp (thn (ha pos pins s1 σ H1 _ I1 q) fun us s2 ⟨vs,H2,I2,r,q2⟩=>⟨I2.kIn,?_⟩) hst hpl
 exact rm (us:=.ref a::us) (vs:=.ref a::vs) F hr hb hd hx I2 (.cons rfl r) q2
end
def rp (a:Addr) (cls:Value):HO:=.ext fun h=>∃ ob vs,h.get? a=some ob/\ob.cls=cls/\ob.data = .fields vs
section
variable {X:Cx} {pins pins':List (Addr×Obj)} {σ:St} {H:Hp} {s:Shared} {xe:Value->Shared->Prop}
end
section
variable {X:Cx} {xc n:Str} {C:Addr} {i:Nat} {body suite:List Stmt} {b0:Stmt} {np hpos pos:Pos} {tb:(St->XK)->TS} {th:TS} {outer:List Env}
end
section
variable {P:Program} {w:World} {K:PySem.W.Frag} {mg:Str->Option Value} {base:Heap}
theorem Fun.okE {x qual:Str} {st:Stmt} {f:Addr} {fd:FuncData} {N ps:List Str} {k:Nat} {sp:Sp} (F:Fun K x qual st f fd) (S:ao N ps (aM st)) (len:∀ vs H Q E,sp vs H Q E->vs.length=ps.length)
  (hbody:∀ (cdv:Value) (A:Around) (outer:List Env) (s:Shared) (H:Hp) (vs:List V) (Q:VK) (E:XK),Room k (A.deeper (envOfC qual (aM st) s.heap.objs.size f cdv))->sp vs H Q E ->
   ∃ t,ft (cf (cN P w) P w K mg base N qual (aM st) f cdv A outer s H E) (gB st) t/\t { nx:=fun _ H' => Q .non H',rt:=Q } (start N vs) H):FnOk P w K mg base (cN P w) (k+1) f fd ps sp:=by
 obtain ⟨oc,od,kV,doc,pm,an,cdv,ct,osl,rfl,lk,hcd⟩:=F.ex
 exact BS lk hcd S len fun A outer s H vs Q E hr hsp=>hbody cdv A outer s H vs Q E hr hsp
end
end L2
namespace L2
open PySem PySem.Spec PyProof.Rows
theorem Dv {K:PySem.W.Frag} {hp:Heap} {g:Str->Option Value} {nm:Str} {Ca:Addr} {bb:List Value} {nid:String} (Z:K.In hp) (hb:g nm=some (.ref Ca)) (ok:PySem.W.excIn K Ca bb nid=true):OwnCls nm Ca bb nid g hp:=by
 refine ⟨hb,?_⟩
 unfold PySem.W.excIn at ok
 split at ok
 ·rename_i dA cA sA hA
  split at ok
  ·rename_i D' tl w0 w1 w2 w3 bn w5 eM eS
   simp only [KZ,OI,K9] at ok
   obtain ⟨⟨⟨⟨⟨rfl,rfl⟩,e1⟩,e2⟩,e3⟩,e4⟩:=ok
   obtain ⟨f1,f2,f3,f4,f5,f6,f7,f8,f9,f10,f11⟩:=cA
   dsimp only at eM e1 e3 e4
   subst eM e1
   have eA:sA = #[w0,w1,w2,w3,some (.builtin bn),w5]:=by
    obtain ⟨ll⟩:=sA
    simp only at eS
    rw [eS]
   subst eA
   refine ⟨tl,f4,f1,f5,f2,f6,f7,f8,f9,f10,dA,w0,w1,w2,w3,w5,_,Z _ _ hA,.of_isNs (PySem.W.isNs_of_in Z e3),?_,PySem.W.tail_of_in Z e2⟩
   exact PySem.W.nsMap_none_of_in Z e3 e4
  ·cases ok
 ·cases ok
mutual
inductive DaV (K:PySem.W.Frag) (H:Hp):V->PyData->Prop
 | non:DaV K H .non .none
 | bl (b):DaV K H (.bl b) (.bool b)
 | int (i):DaV K H (.int i) (.int i)
 | str (x):DaV K H (.str x) (.str x)
 | lst {a xs ds}:SqL K H a xs->DaVs K H xs ds->DaV K H (.ref a) (.list ds)
 | tup {a xs ds}:SqT K H a xs->DaVs K H xs ds->DaV K H (.ref a) (.tuple ds)
inductive DaVs (K:PySem.W.Frag) (H:Hp):List V->List PyData->Prop
 | nil:DaVs K H [] []
 | cons {x xs d ds}:DaV K H x d->DaVs K H xs ds->DaVs K H (x::xs) (d::ds)
end
section
variable {X:Cx} {pins:List (Addr×Obj)} {σ:St} {H:Hp} {s:Shared}
mutual
theorem DaV.reads (I:Inv X pins σ H s):∀ {x:V} {d:PyData} {u:Value},DaV X.K H x d->RelV x u->∃ as,Reads s.heap u d as
 | _,_,_,.non,r=>by cases r;exact ⟨_,.none⟩
 | _,_,_,.bl b,r=>by cases r;exact ⟨_,.bool b⟩
 | _,_,_,.int i,r=>by obtain ⟨t,rfl⟩:=r;exact ⟨_,.int i t⟩
 | _,_,_,.str x,r=>by obtain ⟨t,rfl⟩:=r;exact ⟨_,.str x t⟩
 | _,_,_,.lst (a:=a) h1 h2,r=>by
  cases r
  obtain ⟨its,rv,⟨o,n,e1,e2,e3⟩,_⟩:=I.list h1
  obtain ⟨as,q⟩:=DaVs.reads I h2 rv
  exact ⟨_,.list (vs:=its.toArray) (n:=n) e1 (by first | exact e2.1 | exact e2) (by first | exact e2.2.2 | exact e2.2 | exact e3 | exact e3.2) (by simpa using q)⟩
 | _,_,_,.tup (a:=a) h1 h2,r=>by
  cases r
  obtain ⟨its,rv,⟨o,e1,e2,n,e3⟩,_⟩:=I.tuple h1
  obtain ⟨as,q⟩:=DaVs.reads I h2 rv
  exact ⟨_,.tuple (vs:=its.toArray) (n:=n) e1 e2 e3 (by simpa using q)⟩
theorem DaVs.reads (I:Inv X pins σ H s):∀ {xs:List V} {ds:List PyData} {us:List Value},DaVs X.K H xs ds->Vals xs us->∃ as,ReadsAll s.heap us ds as
 | _,_,_,.nil,r=>by cases r;exact ⟨_,.nil⟩
 | _,_,_,.cons h1 h2,r=>by
  cases r with
  | cons r1 r2 =>
   obtain ⟨as,q1⟩:=DaV.reads I h1 r1
   obtain ⟨bs,q2⟩:=DaVs.reads I h2 r2
   exact ⟨_,.cons q1 q2⟩
end
def rq (K:PySem.W.Frag):R2:=fun x y H Q=>∃ d e,DaV K H x d/\DaV K H y e/\d.canLay0=true/\e.canLay0=true/\d.depth<=60/\Q (.bl (PyData.eqv d e)) H
def rA (K:PySem.W.Frag):R2:=fun x y H Q=>∃ d e,DaV K H x d/\DaV K H y e/\d.canLay0=true/\e.canLay0=true/\d.depth<=60/\Q (.bl (!PyData.eqv d e)) H
theorem wJ (hu:X.A.units+64<cLine):OpR X (compareOp .Eq) (rq X.K):=by
 intro pins s σ H x y v u Q I rx ry h
 obtain ⟨d,e,h1,h2,c1,c2,dp,q⟩:=h
 obtain ⟨as,r1⟩:=h1.reads I rx
 obtain ⟨bs,r2⟩:=h2.reads I ry
 exact SeqAt.compareEq_reads r1 r2 c1 c2 (by have:=MJ d.depth e.depth;lia) ⟨.bl _,H,I,rfl,q⟩
theorem wK (hu:X.A.units+64<cLine):OpR X (compareOp .NotEq) (rA X.K):=by
 intro pins s σ H x y v u Q I rx ry h
 obtain ⟨d,e,h1,h2,c1,c2,dp,q⟩:=h
 obtain ⟨as,r1⟩:=h1.reads I rx
 obtain ⟨bs,r2⟩:=h2.reads I ry
 exact SeqAt.compareNe_reads r1 r2 c1 c2 (by have:=MJ d.depth e.depth;lia) ⟨.bl _,H,I,rfl,q⟩
end
theorem gY {A:Around} {k:Nat} (hr:Room k A):A.units+64<cLine:=by
 have:=hr.un
 lia
def Dw (K:PySem.W.Frag):R2:=fun x y H Q=>∃ l b xs zs,x = .ref l/\y = .ref b/\SqL K H l xs/\SqL K H b zs/\xs.length+zs.length<=sizeLine/\∀ p,H p=none->Q (.ref p) (aK H p (.lst (xs++zs)))
theorem Dx {X:Cx}:OpR X (binaryOp .Add) (Dw X.K):=by
 intro pins s σ H x y v u Q I rx ry h
 obtain ⟨l,b,xs,zs,rfl,rfl,hH,hB,hz,q⟩:=h
 cases rx
 cases ry
 obtain ⟨its,r,⟨o,n,e1,e2,e3,e4⟩,z⟩:=I.list hH
 obtain ⟨its2,r2,⟨o2,n2,g1,g2,g3,g4⟩,z2⟩:=I.list hB
 obtain ⟨oc,od,oda,osl⟩:=o
 obtain ⟨oc2,od2,oda2,osl2⟩:=o2
 dsimp only at e2 e3 e4 g2 g3 g4
 subst e2 e3 e4 g2 g3 g4
 have l1:=r.length
 have l2:=r2.length
 refine Oz ⟨_,e1,rfl⟩ ⟨_,g1,rfl⟩ noFill_list_add seq_list_add PySem.F.slot_list_add PySem.F.entry_list_add (PySem.F.args_list_add_2 _ _) (list_addW l b its.toArray its2.toArray n n2 none none osl osl2 (by rw [JO,JO];lia)) ⟨e1,g1,?_⟩
 have ea:its.toArray++its2.toArray=(its++its2).toArray:=by simp
 rw [ea]
 exact ⟨.ref s.heap.objs.size,_,I.lnew (t' := s.toks) (r.append r2) (by rw [JT];exact hz),rfl,q _ I.fresh⟩
end L2
namespace L2
open PySem PySem.Spec PyProof.Rows
section
variable {X:Cx} {pins:List (Addr×Obj)} {σ:St} {H:Hp} {s:Shared}
open Classical in
def fZ (h:Heap) (d:PyData) (v:Value):Bool:=if q:∃ e as,e.canLay0=true/\Reads h v e as then PyData.eqv q.choose d else false
theorem oj {h:Heap} {d e:PyData} {v:Value} {as:List Addr} (c:e.canLay0=true) (r:Reads h v e as):fZ h d v=PyData.eqv e d:=by
 have q:∃ e as,e.canLay0=true/\Reads h v e as:=⟨e,as,c,r⟩
 unfold fZ
 rw [dif_pos q]
 obtain ⟨as',c',r'⟩:=q.choose_spec
 have z:q.choose=e:=by first | exact (Reads.unique _ _ r' r).1 | exact (Reads.unique r' r).1 | exact Reads.unique _ _ _ _ _ c' r' r | exact PySem.SeqAt.Reads.unique _ _ _ _ _ c' r' r | exact PySem.Reads.unique _ _ _ _ _ c' r' r
 rw [z]
theorem rB (I:Inv X pins σ H s):∀ {xs:List V} {ds:List PyData} {us:List Value},DaVs X.K H xs ds->Vals xs us->us.length=ds.length/\∀ (j:Nat) u d,us[j]? = some u->ds[j]? = some d->∃ as,Reads s.heap u d as
 | _,_,_,.nil,r=>by cases r;exact ⟨rfl,fun j u d e=>by cases e⟩
 | _,_,_,.cons h1 h2,r=>by
  cases r with
  | cons r1 r2 =>
   obtain ⟨l,q⟩:=rB I h2 r2
   refine ⟨by rw [J6,J6,l],fun j u d e1 e2=>?_⟩
   cases j with
   | zero=>cases e1;cases e2;exact h1.reads I r1
   | succ j=>exact q j u d e1 e2
def rC (K:PySem.W.Frag):R2:=fun x y H Q=>∃ p xs d ds,y = .ref p/\SqL K H p xs/\DaV K H x d/\DaVs K H xs ds/\d.canLay0=true/\(∀ e∈ds,e.canLay0=true/\e.depth<=30)/\Q (.bl (ds.any fun e=>PyData.eqv e d)) H
theorem rD {h:Heap} {d:PyData}:∀ {us:List Value} {ds:List PyData},us.length=ds.length->(∀ (j:Nat) u e,us[j]? = some u->ds[j]? = some e->fZ h d u=PyData.eqv e d)->us.any (fZ h d)=ds.any fun e=>PyData.eqv e d
 | [],[],_,_=>rfl
 | u::us,e::ds,hl,hh=>by
  rw [LQ,LQ,hh 0 u e rfl rfl,rD (us:=us) (ds:=ds) (Nat.succ.inj hl) fun j u' e' a b=>hh (j+1) u' e' a b]
theorem Dy (hu:X.A.units+64<cLine):OpR X (compareOp .In) (rC X.K):=by
 intro pins s σ H x y v u Q I rx ry h
 obtain ⟨p,xs,d,ds,rfl,hq,hd,hds,cd,cds,q⟩:=h
 cases ry
 obtain ⟨its,r,pl,hz⟩:=I.list hq
 obtain ⟨as,ra⟩:=hd.reads I rx
 obtain ⟨hl,hat⟩:=rB I hds r
 refine SeqAt.in_listAt (fZ s.heap d) pl.isList (fun y hy=>?_) ⟨.bl _,H,I,rfl,?_⟩
 ·have hy':y∈its:=by simpa using hy
  obtain ⟨j,hj⟩:=NQ hy'
  have hlt:=(JD.mp hj).1
  have hdj:ds[j]? = some (ds[j]'(by lia)):=JY (by lia)
  obtain ⟨bs,rb⟩:=hat j _ _ hj hdj
  have cj:=cds _ (Kb hdj)
  rw [oj cj.1 rb]
  exact SeqAt.eqAt_reads _ _ _ _ _ _ _ _ rb ra cj.1 cd (by
   have:=MJ (ds[j]'(by lia)).depth d.depth
   show X.A.units+1+_<cLine
   lia)
 ·have e:its.toArray.any (fZ s.heap d)=ds.any fun e=>PyData.eqv e d:=by
   rw [<- Array.any_toList]
   refine rD hl fun j u e h1 h2=>?_
   obtain ⟨bs,rb⟩:=hat j _ _ h1 h2
   exact oj (cds _ (Kb h2)).1 rb
  rw [e]
  exact q
end
end L2
namespace L2
open PySem PySem.Spec PyProof.Rows
section
variable {X:Cx} {tg:Expr}
theorem wL (ns:List Int):∀ k,k<=ns.length->preSum (fun i=>(ns[i]?).getD 0) k=(ns.take k).sum
 | 0,_=>by simp [preSum]
 | k+1,h=>by
  show preSum _ k+(ns[k]?).getD 0=_
  rw [wL ns k (by lia),M1,List.sum_append]
  congr 1
  rw [JY (by lia)]
  simp
theorem Dz (hc:X.calm=true):CallR X (.builtin "sum") (fun xs H Q=>∃ (a:Addr) (ns:List Int),xs=[.ref a]/\SqL X.K H a (ns.map V.int)/\Q (.int ns.sum) H):=by
 intro pins s σ H xs us Q I r h
 obtain ⟨l,bs,rfl,hq,q⟩:=h
 obtain ⟨u,rfl,rx⟩:=gW r
 cases rx
 obtain ⟨its,rv,pl,hz⟩:=I.list hq
 have hlt:l<s.heap.objs.size:=by obtain ⟨_,_,e,_⟩:=pl;exact JX e
 have hlen:its.length=bs.length:=by rw [<- rv.length,J0]
 refine call_sum_walkAnyS (Nd pl.isList ?_)
 refine ⟨s.heap.objs.size,[s.heap.objs.size,l],[s.heap.objs.size],_,its.toArray.size,_,_,fun i=>(bs[i]?).getD 0,rfl,(Walks.list (prog:=X.prog) (w:=X.w) (A:=X.A.in1) (I.ok.hd hc) s.heap.objs.size l (Ko hlt) its.toArray).toS,
  ⟨⟨_,Kc _ rfl,rfl,rfl⟩,pl.isList.push _⟩,fun b hb=>?_,fun i v hP=>?_,fun s' t' hm=>?_⟩
 ·rcases J8.mp hb with rfl | hb
  ·exact JX (Kc _ rfl)
  ·obtain rfl:=Kf.mp hb
   obtain ⟨_,_,e,_⟩:=pl
   exact JX (JH _ e)
 ·have hP':its[i]? = some v:=by simpa using hP
  have hi:i<its.length:=(JD.mp hP').1
  have hb:(bs.map V.int)[i]? = some (V.int (bs[i]'(by lia))):=by rw [Kh,JY (by lia)];rfl
  obtain ⟨u,hu,ru⟩:=rv.get hb
  rw [hP'] at hu
  cases hu
  obtain ⟨t,rfl⟩:=ru
  refine ⟨t,?_⟩
  show Value.int _ t=Value.int ((bs[i]?).getD 0) t
  rw [JY (by lia)];rfl
 ·obtain ⟨h',g',d',tk',os'⟩:=s'
  have e1:g'=s.gens:=hm.gens
  have e2:d'=s.drawn:=hm.drawn
  have e3:os'=s.os:=hm.os
  subst e1 e2 e3
  have e:preSum (fun i=>(bs[i]?).getD 0) its.toArray.size=bs.sum:=by
   rw [JO,hlen,wL bs _ (JE _),Kn (JE _)]
  rw [e]
  refine ⟨.int _,H,I.kept (t' := tk') fun b o q=>?_,⟨_,rfl⟩,q⟩
  exact hm.heap b o (fun hb=>by rw [Kf.mp hb] at q;exact Lr _ (JX q)) (JH _ q)
def eO (lo c:Int) (n:Nat):It:=⟨fun i _=>i<n,fun i H x H' => H'=H/\x = .int (lo+i*c),fun i _=>n<=i⟩
theorem wM {P:Program} {w:World} {K:PySem.W.Frag} {tg:Expr} (it:Addr) (lo c:Int) (n:Nat):dR P w K tg (eO lo c n) [it] it (fun i h=>IsRangeIter h it (lo+(i:Nat)*c) ((n:Int)-(i:Nat)) c) where
 mem:=by simp
 obj:=fun i h st b hb=>by
  have e:b=it:=by simpa using hb
  subst e
  exact ⟨_,st,fun v z=>by
   have z':Data.fields _=Data.cell v:=z
   cases z'⟩
 keep:=fun i h h' st k=>k it (by simp) _ st
 item:=by
  intro X hP hw hK hc i pins s σ H E I hf st hg
  subst hP hw hK
  obtain ⟨f0,f1,f2,f3,f4,f5⟩:=hf it (by simp)
  have W:=Walks.range (prog:=X.prog) (w:=X.w) (I.ok.hd hc) it lo c n
  refine W.item i s _ _ hg st fun v h' tk hv st' kk=>?_
  obtain ⟨t,rfl⟩:=hv
  have I1:Inv X pins σ H { s with heap:=h',toks:=tk }:=I.turned (fun b o hb e=>kk b o (by simpa using hb) e) f0 f1 f3 f4 f5
  exact ⟨_,rfl,lh (s:={ s with heap:=h',toks:=tk }) (n := "range_iterator") st' rfl rfl (by decide) ⟨.int (lo+i*c),H,I1,⟨t,rfl⟩,⟨rfl,rfl⟩,st',fun b hb=>(hf b hb).1⟩⟩
 done:=by
  intro X hP hw hK hc i pins s σ H E I hf st hg
  subst hP hw hK
  obtain ⟨f0,f1,f2,f3,f4,f5⟩:=hf it (by simp)
  exact Nv (I.ok.hd hc) st (by have:n<=i:=hg;lia) fun h' eb=>⟨rfl,I.turned (t' := s.toks) (fun b o hb e=>eb b o hb e) f0 f1 f3 f4 f5⟩
 self:=fun _ _ _ _ _ st h=>Nw st h
theorem DA {a b c:Int} (hc:0<c):Builtin.Range.rangeSize a b c=(((if a<b then (b-a-1) / c+1 else 0:Int).toNat:Nat):Int):=by
 unfold Builtin.Range.rangeSize
 rw [JJ hc]
 split
 ·have:0<=(b-a-1) / c:=Int.ediv_nonneg (by lia) (by lia)
  lia
 ·rfl
theorem gC {x:Int} (h:x.natAbs<2 ^ 42):Builtin.Range.rangeFitsLong x=true:=by
 have h2:x.natAbs<4398046511104:=h
 simp only [Builtin.Range.rangeFitsLong,KZ,KA]
 omega
theorem DB {a b c:Int} (ha:a.natAbs<2 ^ 40) (hb:b.natAbs<2 ^ 40) (hc:0<c):(Builtin.Range.rangeSize a b c).natAbs<2 ^ 42:=by
 have ha2:a.natAbs<1099511627776:=ha
 have hb2:b.natAbs<1099511627776:=hb
 show _<4398046511104
 unfold Builtin.Range.rangeSize
 rw [JJ hc]
 split
 ·have h1:0<=(b-a-1) / c:=Int.ediv_nonneg (by lia) (by lia)
  have h2:(b-a-1) / c<=b-a-1:=Int.ediv_le_self _ (by lia)
  generalize (b-a-1) / c=d at *
  (clear hb2 ha2 hc;omega)
 ·decide
theorem DC {a b c:Int} (ha:a.natAbs<2 ^ 40) (hb:b.natAbs<2 ^ 40) (hc:0<c) (hc':c<2 ^ 20):Builtin.Range.small a b c=true:=by
 have l:(2:Nat) ^ 40<2 ^ 42:=by decide
 unfold Builtin.Range.small
 rw [gC (LG ha l),gC (LG hb l),gC (x:=c) (by have h2:c<1048576:=hc';show _<4398046511104;(clear h2 l hb ha;omega)),gC (DB ha hb hc),JJ hc,gC (x:=b+(c-1)) (by have h2:c<1048576:=hc';have h3:b.natAbs<1099511627776:=hb;show _<4398046511104;(clear h3 h2 l ha;omega))]
 simp
def DD (ta:TA):TI:=fun σ H R=>ta σ H fun vs H1=>∃ i j c:Int,vs=[.int i,.int j,.int c]/\(i.natAbs<2 ^ 40/\j.natAbs<2 ^ 40/\0<c/\c<2 ^ 20)/\R (eO i c (if i<j then (j-i-1) / c+1 else 0:Int).toNat) H1
theorem DE {pins:List (Addr×Obj)} {σ:St} {H:Hp} {s:Shared} {R:It->Hp->Prop} {E:Value->Shared->Prop} {lo hi c:Int} {t u v:Tok} {tk:Nat} (I:Inv X pins σ H s) (h1:lo.natAbs<2 ^ 40) (h2:hi.natAbs<2 ^ 40) (h3:0<c) (h4:c<2 ^ 20)
  (q:R (eO lo c (if lo<hi then (hi-lo-1) / c+1 else 0:Int).toNat) H):wpAny (model X.prog X.w) X.A (pyIter (.ref s.heap.objs.size)) (nV X pins σ tg R) E { s with heap:=s.heap.push { cls:=.type "range",data:=.fields #[.int lo t,.int hi u,.int c v] },toks:=tk }:=by
 refine M7 (IsRange.new ..) (DC h1 h2 h3 h4) ?_
 have I1:Inv X pins σ H { s with heap:=s.heap.push { cls:=.type "range",data:=.fields #[.int lo t,.int hi u,.int c v] },toks:=tk }:=I.kept fun b o e=>JH _ e
 refine ⟨(s.heap.push { cls:=.type "range",data:=.fields #[.int lo t,.int hi u,.int c v] }).objs.size,[(s.heap.push { cls:=.type "range",data:=.fields #[.int lo t,.int hi u,.int c v] }).objs.size],_,_,H,rfl,
  I1.kept (t' := tk) fun b o e=>JH _ e,wM _ lo c (if lo<hi then (hi-lo-1) / c+1 else 0:Int).toNat,?_,fun b hb=>?_,q⟩
 ·have e1:lo+((0:Nat):Int)*c=lo:=by simp
  have e2:(((if lo<hi then (hi-lo-1) / c+1 else 0:Int).toNat:Nat):Int)-((0:Nat):Int)=Builtin.Range.rangeSize lo hi c:=by rw [DA h3];lia
  show IsRangeIter _ _ (lo+((0:Nat):Int)*c) ((((if lo<hi then (hi-lo-1) / c+1 else 0:Int).toNat:Nat):Int)-((0:Nat):Int)) c
  rw [e1,e2]
  exact Kc _ rfl
 ·have e:b=(s.heap.push { cls:=.type "range",data:=.fields #[.int lo t,.int hi u,.int c v] }).objs.size:=by simpa using hb
  subst e
  exact I1.fpOk (JE _) (I1.hok.fresh (JE _))
theorem DF {a b c:Expr} {ta:TA} {p pos:Pos} (hg:Gl X "range") (hm:X.mg "range" = none) (ha:PA X [a,b,c] ta) (hs:starEach [a,b,c] X.env=[(false,eval a X.env),(false,eval b X.env),(false,eval c X.env)]:=by rfl) (hs2:starEach [b,c] X.env=[(false,eval b X.env),(false,eval c X.env)]:=by rfl) :
  PI X tg (.Call (.Name "range" p) [a,b,c] [] pos) (DD ta):=by
 intro pins s σ H R I h
 refine Call_ (fW I hg hm Nx (Kr (thn (ha pos pins s σ H _ I h) fun us s1 ⟨vs,H1,I1,r1,q1⟩=>?_) (by rw [hs,hs2]) (by rw [hs2];rfl)))
 obtain ⟨i,j,c,e,⟨q1,q2,q3,q4⟩,q⟩:=q1
 subst e
 cases r1 with
 | cons r rr =>
  cases rr with
  | cons r' rr =>
   cases rr with
   | cons r'' rr =>
    cases rr
    obtain ⟨t,rfl⟩:=r
    obtain ⟨t',rfl⟩:=r'
    obtain ⟨t'',rfl⟩:=r''
    exact OD (by lia) (DE I1 q1 q2 q3 q4 q) (.inl (Mr (by (clear q2 q1 q I1 h I hs2 hs ha hm hg;omega))))
end
end L2
namespace L2
open PySem PySem.Spec PyProof.Rows
open PySem.Builtin PySem.Builtin.Str
section
variable {X:Cx}
def bD (z:Str) (lo hi:Option Int):Str:=⟨((z.cps.toList.drop (HT.sIx z.cps.toList.length 0 lo)).take (HT.sIx z.cps.toList.length z.cps.toList.length hi-HT.sIx z.cps.toList.length 0 lo)).toArray⟩
theorem om (n d:Nat) (i:Int):max 0 (min (if i<0 then i+(n:Int) else i) (n:Int))=((HT.sIx n d (some i):Nat):Int):=by
 show max 0 (min (if i<0 then i+(n:Int) else i) (n:Int))=(((if i<0 then (i+(n:Int)).toNat else min i.toNat n):Nat):Int)
 split<;>lia
theorem oo {a b:Int} {A B:Nat} (ha:a=A) (hb:b=B):sliceRange a b 1=(List.range (B-A)).map fun k=>A+k:=by
 subst ha hb
 unfold sliceRange
 simp only [show (1:Int) > 0 by decide,Ly]
 have:(if (A:Int)<(B:Int) then ((B:Int)-A+1-1) / 1 else 0).toNat=B-A:=by
  split<;>(try simp only [Oo])<;>lia
 rw [this]
 apply Lu
 intro k _
 lia
theorem DH (xs:List Nat) (i k:Nat):(List.range k).filterMap (fun m=>xs[i+m]?)=(xs.drop i).take k:=by
 induction k generalizing i with
 | zero=>simp
 | succ k ih =>
  rw [List.range_succ_eq_map,Ma,MY]
  have e:((fun m=>xs[i+m]?) ∘ Nat.succ)=fun m=>xs[(i+1)+m]? := by
   funext m;show xs[i+(m+1)]? = _;congr 1;lia
  rw [e,ih (i+1)]
  cases h:xs[i]? with
  | none =>
   have hl:xs.length<=i:=List.getElem?_eq_none_iff.mp h
   simp only [Oq,h]
   rw [Ku (by lia),Ku hl];simp
  | some v =>
   have hi:=(JD.mp h).1
   simp only [Oq,h]
   rw [KU hi,List.take_succ_cons]
   congr 1
   exact (Ks ((JY hi).symm.trans h)).symm
theorem DJ (n:Nat) (lo hi:Option Int):strSliceIndices lo hi 1 n=(List.range (HT.sIx n n hi-HT.sIx n 0 lo)).map fun k=>HT.sIx n 0 lo+k:=by
 cases lo with
 | none =>
  cases hi with
  | none=>exact oo rfl rfl
  | some j=>exact oo rfl (om n n j)
 | some i =>
  cases hi with
  | none=>exact oo (om n 0 i) rfl
  | some j=>exact oo (om n 0 i) (om n n j)
theorem DL (z:Str) (lo hi:Option Int):Txt.slice z lo hi=bD z lo hi:=by
 have hz:z.length=z.cps.toList.length:=by simp [Str.length]
 unfold Txt.slice bD
 rw [hz,DJ,MY]
 have e:((fun x=>z.cps[x]?) ∘ fun k=>HT.sIx z.cps.toList.length 0 lo+k)=fun m=>z.cps.toList[HT.sIx z.cps.toList.length 0 lo+m]? := by
  funext m;simp
 rw [e,DH]
 split
 ·rename_i hc
  simp only [beq_self_eq_true,Bool.true_and,OI,J0,La] at hc
  have h1:HT.sIx z.cps.toList.length z.cps.toList.length hi<=z.cps.toList.length:=HT.sIx_le _ _ (JE _) _
  have h2:HT.sIx z.cps.toList.length 0 lo=0\/z.cps.toList.length=0:=by lia
  rw [hc]
  rcases h2 with h2 | h2
  ·rw [h2,K3,Kn (JE _)]
  ·have:z.cps.toList=[]:=List.eq_nil_of_length_eq_zero h2
   have h3:z.cps = #[]:=by simpa using this
   simp [h3]
   cases z;simp_all
 ·rfl
theorem wN {v:Value} {o:Option Int} (p:IsPart v o):∃ l:Option (Int×Tok),v=partValue l/\l.map (·.1)=o:=by
 cases p with
 | none=>exact ⟨none,rfl,rfl⟩
 | int i t=>exact ⟨some (i,t),rfl,rfl⟩
theorem DM:SlR X (fun x lo hi H Q=>∃ z,x = .str z/\z.length<=sizeLine/\Q (.str (bD z lo hi)) H):=by
 intro pins s σ H x v vl vu lo hi sl Q I rx hs pl pu h
 obtain ⟨z,rfl,hz,q⟩:=h
 obtain ⟨t,rfl⟩:=rx
 obtain ⟨l,rfl,rfl⟩:=wN pl
 obtain ⟨u,rfl,rfl⟩:=wN pu
 refine ⟨"str",_,F.slot_str_getitem.lookup,Nz _ _ _,?_⟩
 refine wpAny_getItem_str_slice (l:=l) (u:=u) (st:=none) hs rfl ?_
 refine post_val_or_str ⟨JK (Txt.slice_le z (l.map (·.1)) (u.map (·.1))) hz,fun t' k=>?_⟩
 have e:=DL z (l.map (·.1)) (u.map (·.1))
 refine ⟨.str (bD z (l.map (·.1)) (u.map (·.1))),H,I.tok _,⟨t',?_⟩,q⟩
 rw [<- e];rfl
end
end L2
namespace L2
open PySem PySem.Spec PyProof.Rows
open PySem.Builtin PySem.Builtin.Str
theorem DO:bootBuiltins "reversed" = some (.type "reversed"):=by decide +kernel
def rE (K:PySem.W.Frag) (a:Addr) (n:Nat):It :=
 ⟨fun i H=>∃ xs x,SqL K H a xs/\xs.length=n/\i<n/\xs[n-1-i]? = some x,fun i H x H' => H'=H/\∀ xs,SqL K H a xs->xs[n-1-i]? = some x,fun i _=>n<=i⟩
theorem DP {P:Program} {w:World} {K:PySem.W.Frag} {tg:Expr} (a it:Addr) (n:Nat):dR P w K tg (rE K a n) [it] it (fun i h=>i<=n/\h.IsRevIter it a ((n:Int)-1-(i:Int))) where
 mem:=by simp
 obj:=fun i h st b hb=>by
  have e:b=it:=by simpa using hb
  subst e
  obtain ⟨_,o,e,c,d⟩:=st
  exact ⟨o,e,fun v z=>by rw [d] at z;cases z⟩
 keep:=fun i h h' st k=>⟨st.1,st.2.at fun o e=>k it (by simp) o e⟩
 item:=by
  intro X hP hw hK hc i pins s σ H E I hf st hg
  subst hP hw hK
  obtain ⟨xs,x,hq,hn,hi,hx⟩:=hg
  obtain ⟨its,rv,p,hz⟩:=I.list hq
  obtain ⟨u,hu,ru⟩:=rv.get hx
  obtain ⟨f0,f1,f2,f3,f4,f5⟩:=hf it (by simp)
  have e:(n:Int)-1-(i:Int)=((n-1-i:Nat):Int):=by (clear f5 f4 f3 f2 f1 f0 ru hu hz p rv hx hn hq st hf I hc;omega)
  have st2:=st.2
  rw [e] at st2
  refine wpAny_pyNext_rev_item st2 p.isList (x:=u) (by simpa using hu) fun h' st' sb=>?_
  have I1:Inv X pins σ H { s with heap:=h' }:=I.turned (t' := s.toks) (fun b o hb e=>(sb.2 b hb).trans e) f0 f1 f3 f4 f5
  have e2:((n-1-i:Nat):Int)-1=(n:Int)-1-((i+1:Nat):Int):=by (clear I1 sb st' st2 f5 f4 f3 f2 f1 f0 ru hu hz p rv hx hi hn hq st hf I hc;lia)
  rw [e2] at st'
  obtain ⟨o,eo,c,d⟩:=id st'
  exact ⟨u,rfl,lh (s:={ s with heap:=h' }) eo c d (by decide) ⟨x,H,I1,ru,⟨rfl,fun ys hy=>by rw [I.list_inj hy hq];exact hx⟩,⟨hi,st'⟩,fun b hb=>(hf b hb).1⟩⟩
 done:=by
  intro X hP hw hK hc i pins s σ H E I hf st hg
  subst hP hw hK
  obtain ⟨f0,f1,f2,f3,f4,f5⟩:=hf it (by simp)
  have hg':n<=i:=hg
  have e:(n:Int)-1-(i:Int) = -1:=by have:=st.1;lia
  have st2:=st.2
  rw [e] at st2
  exact wpAny_pyNext_rev_end (I.ok.hd hc) st2 fun h' eb=>⟨rfl,I.turned (t' := s.toks) (fun b o hb e=>eb b o hb e) f0 f1 f3 f4 f5⟩
 self:=fun _ _ _ _ _ st h=>N7 st.2 h
def rF (K:PySem.W.Frag) (ta:TA):TI:=fun σ H R=>ta σ H fun vs H1=>∃ a xs,vs=[.ref a]/\SqL K H1 a xs/\R (rE K a xs.length) H1
section
variable {X:Cx} {tg:Expr}
theorem DQ {a:Expr} {ta:TA} {p pos:Pos} (hg:Gl X "reversed") (hm:X.mg "reversed" = none) (ha:PA X [a] ta) (hs:starEach [a] X.env=[(false,eval a X.env)]:=by rfl):PI X tg (.Call (.Name "reversed" p) [a] [] pos) (rF X.K ta):=by
 intro pins s σ H R I h
 refine Call_ (fW I hg hm DO (Kr (thn (ha pos pins s σ H _ I h) fun us s1 ⟨vs,H1,I1,r1,q1⟩=>?_) hs rfl))
 obtain ⟨a,xs,rfl,hq,q⟩:=q1
 obtain ⟨u,rfl,rx⟩:=gW r1
 cases rx
 obtain ⟨its,rv,pl,hz⟩:=I1.list hq
 have hl:=rv.length
 refine call_reversed_list pl.isList ?_
 have it:(s1.heap.push (revObj a ((its.toArray.size:Int)-1))).IsRevIter s1.heap.objs.size a ((xs.length:Int)-1-((0:Nat):Int)):=by
  have e:(xs.length:Int)-1-((0:Nat):Int)=(its.toArray.size:Int)-1:=by rw [JO,<- hl];lia
  rw [e]
  exact ⟨_,Kc _ rfl,rfl,rfl⟩
 have I2:Inv X pins σ H1 { s1 with heap:=s1.heap.push (revObj a ((its.toArray.size:Int)-1)) }:=I1.kept (t' := s1.toks) fun b o e=>JH _ e
 refine N7 it ?_
 refine ⟨s1.heap.objs.size,[s1.heap.objs.size],_,_,H1,rfl,I2,DP a s1.heap.objs.size xs.length,⟨Kk _,it⟩,fun b hb=>?_,q⟩
 have e:b=s1.heap.objs.size:=by simpa using hb
 subst e
 exact I1.fpOk (JE _) (I1.hok.fresh (JE _))
theorem DR:fu X "str.upper" (fun x vs H Q=>∃ z,x = .str z/\vs=[]/\(Txt.upper z).length<=sizeLine/\Q (.str (Txt.upper z)) H):=by
 intro pins s σ H x vs v us Q I rx rv h
 obtain ⟨z,rfl,rfl,hl,q⟩:=h
 obtain ⟨t,rfl⟩:=rx
 cases rv
 exact call_gives F.slot_str_upper (Nz s z t) F.entry_str_upper (F.args_str_upper_1 _) (gives_str_upper z t (Ki (Nat.not_lt.mpr hl))) ⟨hl,.str _,H,I.tok _,⟨_,rfl⟩,q⟩
end
end L2
namespace Sm
open PySem L2
inductive AV where
 | non | bl (b:Bool) | int (i:Int) | str (x:Str)
 | tup (xs:List AV)
 | fl (xs:List AV)
 | ref (n:Nat)
 | exc (c:Nat)
 deriving Inhabited
set_option genInjectivity false in
inductive AO where
 | lst (xs:List AV)
 | dct (t:Bool) (kvs:List (AV×AV))
 | dcx (kvs:List (AV×AV))
 | ins (c:Nat) (fs:List (Option AV))
abbrev AH:=List AO
abbrev En:=List (Option AV)
inductive Out (α:Type) where
 | ok (a:α) (h:AH)
 | ex (c:Nat) (h:AH)
 | bad
@[simp] def Out.bind {α β:Type} (o:Out α) (f:α->AH->Out β):Out β :=
 match o with
 | .ok a h=>f a h
 | .ex c h=>.ex c h
 | .bad=>.bad
set_option genInjectivity false in
inductive dU where
 | nx (e:En) (h:AH)
 | rt (v:AV) (h:AH)
 | bk (e:En) (h:AH)
 | ct (e:En) (h:AH)
 | ex (c:Nat) (e:En) (h:AH)
 | bad
abbrev SE:=En->AH->Out AV
abbrev SB:=En->AH->Out Bool
abbrev SL:=En->AH->Out (List AV)
abbrev SS:=En->AH->dU
abbrev Fn:=List AV->AH->Out AV
@[simp] def Out.go {α:Type} (o:Out α) (e:En) (f:α->AH->dU):dU :=
 match o with
 | .ok a h=>f a h
 | .ex c h=>.ex c e h
 | .bad=>.bad
set_option genInjectivity false in
structure Tb where
 K:PySem.W.Frag
 cls:Nat->Option Addr
 exc:Nat->Option Addr
 fields:Nat->List Str
 nd:∀ c,(fields c).Nodup
 few:∀ c,(fields c).length<=500
def KL (K:PySem.W.Frag) (a:Addr) (xs:List V):Prop:=∃ (o:Obj) (its:Array Value) (n:Nat),K.lookup a=some o/\o.cls = .type "list" /\ o.dict=none/\o.data = .seq its n/\its.size<=sizeLine/\Vals xs its.toList
set_option genInjectivity false in
structure Ix where
 refs:List Addr
 priv:List Addr
def Ix.all (ι:Ix):List Addr:=ι.refs++ι.priv
mutual
inductive RV (T:Tb) (ι:Ix) (H:Hp):AV->V->Prop
 | non:RV T ι H .non .non
 | bl (b:Bool):RV T ι H (.bl b) (.bl b)
 | int (i:Int):RV T ι H (.int i) (.int i)
 | str {x:Str} (n:x.length<=sizeLine) (o:x.cps.all (· < 0x110000)=true):RV T ι H (.str x) (.str x)
 | tup {xs:List AV} {us:List V} {a:Addr} (n:a∉ι.all) (h:H a=some (.tup us)) (r:RVs T ι H xs us):RV T ι H (.tup xs) (.ref a)
 | fl {xs:List AV} {us:List V} {a:Addr} (n:a∉ι.all) (h:Rd H a (.lst us)) (r:RVs T ι H xs us):RV T ι H (.fl xs) (.ref a)
 | kfl {xs:List AV} {us:List V} {a:Addr} (h:KL T.K a us) (r:RVs T ι H xs us):RV T ι H (.fl xs) (.ref a)
 | ref {k:Nat} {a:Addr} (h:ι.refs[k]? = some a):RV T ι H (.ref k) (.ref a)
 | exc {c:Nat} {C a:Addr} (n:a∉ι.all) (h:T.exc c=some C) (q:H a=some (rp a (.ref C))):RV T ι H (.exc c) (.ref a)
inductive RVs (T:Tb) (ι:Ix) (H:Hp):List AV->List V->Prop
 | nil:RVs T ι H [] []
 | cons {x:AV} {u:V} {xs:List AV} {us:List V} (r:RV T ι H x u) (rs:RVs T ι H xs us):RVs T ι H (x::xs) (u::us)
end
structure Grow (ι:Ix) (H:Hp) (ι':Ix) (H':Hp):Prop where
 pre:∃ n,ι'.refs=ι.refs++n/\∀ a∈n,H a=none
 priv:ι'.priv=ι.priv
 keep:∀ a o,a∉ι.refs->H a=some o->H' a=some o
 live:∀ a∈ι.all,H' a≠none
theorem wO:∀ {l:List Addr} {i j:Nat} {a:Addr},l.Nodup->l[i]? = some a->l[j]? = some a->i=j
 | [],_,_,_,_,e,_=>by simp at e
 | x::l,0,0,_,_,_,_=>rfl
 | x::l,0,j+1,a,n,e,f=>by
  simp at e f;subst e
  exact absurd (Kb f) (KH.mp n).1
 | x::l,i+1,0,a,n,e,f=>by
  simp at e f;subst f
  exact absurd (Kb e) (KH.mp n).1
 | x::l,i+1,j+1,a,n,e,f=>by
  simp at e f
  rw [wO (KH.mp n).2 e f]
theorem Ix.nr {ι:Ix} {a:Addr} (h:a∉ι.all):a∉ι.refs:=fun z=>h (JN _ z)
theorem Ix.np {ι:Ix} {a:Addr} (h:a∉ι.all):a∉ι.priv:=fun z=>h (JW _ z)
theorem Grow.refl {ι:Ix} {H:Hp} (l:∀ a∈ι.all,H a≠none):Grow ι H ι H:=⟨⟨[],by simp,by simp⟩,rfl,fun _ _ _ e=>e,l⟩
theorem Grow.at {ι ι':Ix} {H H':Hp} (g:Grow ι H ι' H') {k:Nat} {a:Addr} (h:ι.refs[k]? = some a):ι'.refs[k]? = some a:=by
 obtain ⟨n,e,_⟩:=g.pre
 rw [e,JF (JD.mp h).1]
 exact h
theorem Grow.outR {ι ι':Ix} {H H':Hp} (g:Grow ι H ι' H') {a:Addr} {o:HO} (n:a∉ι.refs) (e:H a=some o):a∉ι'.refs:=fun z=>by
 obtain ⟨m,e',hm⟩:=g.pre
 rw [e'] at z
 rcases JQ.mp z with z | z
 ·exact n z
 ·rw [hm a z] at e;cases e
theorem Grow.out {ι ι':Ix} {H H':Hp} (g:Grow ι H ι' H') {a:Addr} {o:HO} (n:a∉ι.all) (e:H a=some o):a∉ι'.all:=fun z=>by
 rcases JQ.mp z with z | z
 ·exact g.outR (Ix.nr n) e z
 ·rw [g.priv] at z;exact Ix.np n z
theorem Grow.trans {ι ι' ι'':Ix} {H H' H'':Hp} (g:Grow ι H ι' H') (k:Grow ι' H' ι'' H''):Grow ι H ι'' H'' := by
 obtain ⟨n,e1,hn⟩:=g.pre
 obtain ⟨m,e2,hm⟩:=k.pre
 refine ⟨⟨n++m,by rw [e2,e1];simp,fun a ha=>?_⟩,k.priv.trans g.priv,fun a o na e=>k.keep a o (g.outR na e) (g.keep a o na e),fun a ha=>k.live a ?_⟩
 ·rcases JQ.mp ha with z | z
  ·exact hn a z
  ·have q:=hm a z
   by_cases hi:a∈ι.refs
   ·exact absurd q (g.live a (JN _ hi))
   ·cases e:H a with
    | none=>rfl
    | some o=>rw [g.keep a o hi e] at q;cases q
 ·rcases JQ.mp ha with z | z
  ·exact JN _ (by rw [e1];exact JN _ z)
  ·exact JW _ (by rw [g.priv];exact z)
structure Ext (ι:Ix) (H:Hp) (ι':Ix) (H':Hp):Prop where
 at_:∀ {k:Nat} {a:Addr},ι.refs[k]? = some a->ι'.refs[k]? = some a
 keep:∀ a o,a∉ι.all->H a=some o->H' a=some o
 out:∀ a o,a∉ι.all->H a=some o->a∉ι'.all
theorem Grow.ext {ι ι':Ix} {H H':Hp} (g:Grow ι H ι' H'):Ext ι H ι' H' := ⟨g.at,fun a o n e=>g.keep a o (Ix.nr n) e,fun a o n e=>g.out n e⟩
theorem Ext.trans {ι ι' ι'':Ix} {H H' H'':Hp} (g:Ext ι H ι' H') (k:Ext ι' H' ι'' H''):Ext ι H ι'' H'' :=
 ⟨fun e=>k.at_ (g.at_ e),fun a o n e=>k.keep a o (g.out a o n e) (g.keep a o n e),fun a o n e=>k.out a o (g.out a o n e) (g.keep a o n e)⟩
theorem wQ {ι ι':Ix} {H H':Hp} (g:Ext ι H ι' H') {a:Addr} {u:HO} (n:a∉ι.all) (r:Rd H a u):Rd H' a u:=by
 rcases r with r | ⟨o,r⟩
 ·exact .inl (g.keep a _ n r)
 ·exact .inr ⟨o,g.keep a _ n r⟩
theorem DS {ι ι':Ix} {H H':Hp} (g:Ext ι H ι' H') {a:Addr} {u:HO} (n:a∉ι.all) (r:Rd H a u):a∉ι'.all:=by
 rcases r with r | ⟨o,r⟩
 ·exact g.out _ _ n r
 ·exact g.out _ _ n r
mutual
theorem RV.ext {T:Tb} {ι ι':Ix} {H H':Hp} (g:Ext ι H ι' H'):∀ {x:AV} {u:V},RV T ι H x u->RV T ι' H' x u
 | _,_,.non=>.non
 | _,_,.bl b=>.bl b
 | _,_,.int i=>.int i
 | _,_,.str n o=>.str n o
 | _,_,.tup n h r=>.tup (g.out _ _ n h) (g.keep _ _ n h) (RVs.ext g r)
 | _,_,.fl n h r=>.fl (DS g n h) (wQ g n h) (RVs.ext g r)
 | _,_,.kfl h r=>.kfl h (RVs.ext g r)
 | _,_,.ref h=>.ref (g.at_ h)
 | _,_,.exc n h q=>.exc (g.out _ _ n q) h (g.keep _ _ n q)
theorem RVs.ext {T:Tb} {ι ι':Ix} {H H':Hp} (g:Ext ι H ι' H'):∀ {xs:List AV} {us:List V},RVs T ι H xs us->RVs T ι' H' xs us
 | _,_,.nil=>.nil
 | _,_,.cons r rs=>.cons (RV.ext g r) (RVs.ext g rs)
end
theorem RV.mono {T:Tb} {ι ι':Ix} {H H':Hp} (g:Grow ι H ι' H') {x:AV} {u:V} (r:RV T ι H x u):RV T ι' H' x u:=r.ext g.ext
theorem RVs.mono {T:Tb} {ι ι':Ix} {H H':Hp} (g:Grow ι H ι' H') {xs:List AV} {us:List V} (r:RVs T ι H xs us):RVs T ι' H' xs us:=r.ext g.ext
section
variable {T:Tb} {ι:Ix} {H:Hp}
theorem RVs.length:∀ {xs:List AV} {us:List V},RVs T ι H xs us->xs.length=us.length
 | _,_,.nil=>rfl
 | _,_,.cons _ rs=>by simp [RVs.length rs]
theorem RVs.get:∀ {xs:List AV} {us:List V} {i:Nat} {x:AV},RVs T ι H xs us->xs[i]? = some x->∃ u,us[i]? = some u/\RV T ι H x u
 | _,_,_,_,.nil,e=>by simp at e
 | _,_,0,_,.cons r _,e=>by simp at e;subst e;exact ⟨_,rfl,r⟩
 | _,_,i+1,x,.cons _ t,e=>by
  obtain ⟨u,h1,h2⟩:=RVs.get (i:=i) (x:=x) t (by simpa using e)
  exact ⟨u,by simpa using h1,h2⟩
theorem RVs.append:∀ {xs ys:List AV} {us ws:List V},RVs T ι H xs us->RVs T ι H ys ws->RVs T ι H (xs++ys) (us++ws)
 | _,_,_,_,.nil,s=>s
 | _,_,_,_,.cons r t,s=>.cons r (RVs.append t s)
theorem RVs.set {x:AV} {u:V} (r:RV T ι H x u):∀ {xs:List AV} {us:List V} (i:Nat),RVs T ι H xs us->RVs T ι H (xs.set i x) (us.set i u)
 | _,_,_,.nil=>.nil
 | _,_,0,.cons _ t=>.cons r t
 | _,_,i+1,.cons q t=>.cons q (RVs.set r i t)
theorem RVs.take:∀ {xs:List AV} {us:List V} (n:Nat),RVs T ι H xs us->RVs T ι H (xs.take n) (us.take n)
 | _,_,0,_=>by simpa using RVs.nil
 | _,_,_+1,.nil=>.nil
 | _,_,n+1,.cons r t=>.cons r (RVs.take n t)
theorem RVs.drop:∀ {xs:List AV} {us:List V} (n:Nat),RVs T ι H xs us->RVs T ι H (xs.drop n) (us.drop n)
 | _,_,0,r=>r
 | _,_,_+1,.nil=>.nil
 | _,_,n+1,.cons _ t=>RVs.drop n t
end
def kA:aH->AV
 | .inl i=>.int i
 | .inr x=>.str x
def OR (T:Tb) (ι:Ix) (H:Hp):AO->HO->Prop
 | .lst xs,o=>∃ us,o = .lst us/\RVs T ι H xs us
 | .dct false kvs,o=>∃ kus:List (aH×V),o = .dK kus/\Paired (fun (p:AV×AV) (q:aH×V)=>p.1=kA q.1/\RV T ι H p.2 q.2) kvs kus
 | .dct true kvs,o=>∃ kus:List (List aH×V),o = .dT none kus/\Paired (fun (p:AV×AV) (q:List aH×V)=>p.1 = .tup (q.1.map kA)/\RV T ι H p.2 q.2) kvs kus
 | .dcx kvs,o=>∃ (ads:List Addr) (kus:List (List aH×V)),o = .dT (some ads) kus/\ads.length=kus.length/\Paired (fun (p:AV×AV) (q:Addr×List aH×V)=>p.1 = .tup (q.2.1.map kA)/\RV T ι H p.1 (.ref q.1)/\RV T ι H p.2 q.2.2) kvs (ads.zip kus)
 | .ins c fs,o=>∃ C dx fus,T.cls c=some C/\o = .ins C dx fus/\(fus.map (·.1)).Nodup/\(∀ p∈fus,p.1∈T.fields c)/\fs.length=(T.fields c).length /\
   ∀ (i:Nat) (v:AV),fs[i]? = some (some v)->∃ f u,(T.fields c)[i]? = some f/\fus.lookup f=some u/\RV T ι H v u
theorem OR.mono {T:Tb} {ι ι':Ix} {H H':Hp} (g:Grow ι H ι' H') {o:AO} {u:HO} (h:OR T ι H o u):OR T ι' H' o u:=by
 cases o with
 | lst xs=>obtain ⟨us,e,r⟩:=h;exact ⟨us,e,r.mono g⟩
 | dct t kvs =>
  cases t with
  | false=>obtain ⟨us,e,r⟩:=h;exact ⟨us,e,Paired.mapP r fun _ _ ⟨a,b⟩=>⟨a,b.mono g⟩⟩
  | true=>obtain ⟨us,e,r⟩:=h;exact ⟨us,e,Paired.mapP r fun _ _ ⟨a,b⟩=>⟨a,b.mono g⟩⟩
 | dcx kvs=>obtain ⟨ads,us,e,l,r⟩:=h;exact ⟨ads,us,e,l,Paired.mapP r fun _ _ ⟨a,b,c⟩=>⟨a,b.mono g,c.mono g⟩⟩
 | ins c fs =>
  obtain ⟨C,dx,fus,a,b,n,w,l,r⟩:=h
  refine ⟨C,dx,fus,a,b,n,w,l,fun i v e=>?_⟩
  obtain ⟨f,u,e1,e2,q⟩:=r i v e
  exact ⟨f,u,e1,e2,q.mono g⟩
structure Sim (T:Tb) (ι:Ix) (h:AH) (H:Hp):Prop where
 len:ι.refs.length=h.length
 nd:ι.refs.Nodup
 plive:∀ a∈ι.priv,H a≠none
 obj:∀ (i:Nat) (o:AO) (a:Addr),h[i]? = some o->ι.refs[i]? = some a->∃ u,H a=some u/\OR T ι H o u
section
variable {T:Tb} {ι:Ix} {h:AH} {H:Hp}
theorem Sim.live (S:Sim T ι h H):∀ a∈ι.all,H a≠none:=fun a ha z=>by
 rcases JQ.mp ha with ha | ha
 ·obtain ⟨i,hi⟩:=J1.mp ha
  have hl:i<h.length:=by rw [<- S.len];exact (JD.mp hi).1
  obtain ⟨u,e,_⟩:=S.obj i h[i] a (by simp [hl]) hi
  rw [z] at e;cases e
 ·exact S.plive a ha z
theorem Sim.refl (S:Sim T ι h H):Grow ι H ι H:=.refl S.live
theorem Sim.fresh (S:Sim T ι h H) {p:Addr} (n:H p=none):p∉ι.all:=fun z=>S.live p z n
theorem Sim.still (S:Sim T ι h H) {H':Hp} (g:Grow ι H ι H') (k:∀ a∈ι.refs,H' a=H a):Sim T ι h H' :=
 ⟨S.len,S.nd,fun a ha=>g.live a (JW _ ha),fun i o a e1 e2=>by
  obtain ⟨u,e,r⟩:=S.obj i o a e1 e2
  exact ⟨u,by rw [k a (Kb e2)];exact e,r.mono g⟩⟩
theorem Sim.growNew (S:Sim T ι h H) {p:Addr} {o:HO} (n:H p=none):Grow ι H ι (aK H p o) :=
 ⟨⟨[],by simp,by simp⟩,rfl,fun a u _ e=>by rw [bL (fI e n)];exact e,fun a ha=>by
  rw [bL (show a≠p from fun z=>S.fresh n (z▸ha))];exact S.live a ha⟩
theorem Sim.new (S:Sim T ι h H) {p:Addr} {o:HO} (n:H p=none):Sim T ι h (aK H p o) :=
 S.still (S.growNew n) fun a ha=>bL fun z=>S.fresh n (z▸JN _ ha)
def Ix.add (ι:Ix) (p:Addr):Ix:=⟨ι.refs++[p],ι.priv⟩
theorem Sim.growAdd (S:Sim T ι h H) {p:Addr} {u:HO} (n:H p=none):Grow ι H (ι.add p) (aK H p u) :=
 ⟨⟨[p],rfl,fun a ha=>by have e:a=p:=(by simpa using ha);rw [e];exact n⟩,rfl,(S.growNew n).keep,(S.growNew n).live⟩
theorem Sim.add (S:Sim T ι h H) {p:Addr} {u:HO} {o:AO} (n:H p=none) (r:OR T (ι.add p) (aK H p u) o u):Sim T (ι.add p) (h++[o]) (aK H p u):=by
 refine ⟨by simp [Ix.add,S.len],?_,fun a ha=>(S.growNew n).live a (JW _ ha),fun i o' a e1 e2=>?_⟩
 ·show (ι.refs++[p]).Nodup
  rw [LW]
  exact ⟨S.nd,by simp,fun a ha b hb z=>by have e:b=p:=(by simpa using hb);subst e;subst z;exact S.fresh n (JN _ ha)⟩
 ·replace e2:(ι.refs++[p])[i]? = some a:=e2
  by_cases hi:i<h.length
  ·rw [JF hi] at e1
   rw [JF (by rw [S.len];exact hi)] at e2
   obtain ⟨v,e,q⟩:=S.obj i o' a e1 e2
   exact ⟨v,by rw [bL (fI e n)];exact e,q.mono (S.growAdd n)⟩
  ·have e3:i=h.length:=by
    have:=(JD.mp e1).1
    simp at this;lia
   subst e3
   rw [J9 (JE _)] at e1
   rw [J9 (by rw [S.len];exact JE _),S.len] at e2
   simp at e1 e2
   subst e1 e2
   exact ⟨u,dQ,r⟩
theorem Sim.addAt (S:Sim T ι h H) {p:Addr}:(ι.add p).refs[h.length]? = some p:=by
 show (ι.refs++[p])[h.length]? = some p
 rw [<- S.len];simp
theorem Sim.growSet (S:Sim T ι h H) {i:Nat} {a:Addr} {u:HO} (e:ι.refs[i]? = some a):Grow ι H ι (aK H a u) :=
 ⟨⟨[],by simp,by simp⟩,rfl,fun b o nb q=>by rw [bL (show b≠a from fun z=>nb (by rw [z];exact Kb e))];exact q,fun b hb=>by
  by_cases z:b=a
  ·subst z;rw [dQ];simp
  ·rw [bL z];exact S.live b hb⟩
theorem Sim.set (S:Sim T ι h H) {i:Nat} {a:Addr} {u:HO} {o:AO} (e:ι.refs[i]? = some a) (r:OR T ι (aK H a u) o u):Sim T ι (h.set i o) (aK H a u):=by
 refine ⟨by simp [S.len],S.nd,fun b hb=>(S.growSet e).live b (JW _ hb),fun j o' b e1 e2=>?_⟩
 by_cases hj:j=i
 ·subst hj
  rw [e] at e2;cases e2
  have hl:j<h.length:=by rw [<- S.len];exact (JD.mp e).1
  rw [JR hl] at e1;cases e1
  exact ⟨u,dQ,r⟩
 ·rw [JI (Ne.symm hj)] at e1
  obtain ⟨v,q,r'⟩:=S.obj j o' b e1 e2
  have ne:b≠a:=fun z=>hj (by
   subst z
   exact wO S.nd e2 e)
  exact ⟨v,by rw [bL ne];exact q,r'.mono (S.growSet e)⟩
end
def Ix.hide (ι:Ix) (D:Addr):Ix:=⟨ι.refs,D::ι.priv⟩
theorem Ix.hide_all {ι:Ix} {D a:Addr}:a∉(ι.hide D).all ↔ a∉ι.all/\a≠D:=by
 unfold Ix.all Ix.hide
 simp only [JQ,J8]
 constructor
 ·intro h;exact ⟨fun z=>h (z.elim .inl fun z=>.inr (.inr z)),fun z=>h (.inr (.inl z))⟩
 ·rintro ⟨h1,h2⟩ (z | z | z)
  ·exact h1 (.inl z)
  ·exact h2 z
  ·exact h1 (.inr z)
section
variable {T:Tb} {ι:Ix} {H:Hp} {D:Addr}
theorem Ext.hide {o:HO} (hn:H D=none):Ext ι H (ι.hide D) (aK H D o):=⟨fun e=>e,fun a u n e=>by rw [bL (fI e hn)];exact e,fun a u n e=>Ix.hide_all.mpr ⟨n,fI e hn⟩⟩
theorem Ext.poke {o:HO}:Ext (ι.hide D) H (ι.hide D) (aK H D o):=⟨fun e=>e,fun a u n e=>by rw [bL (Ix.hide_all.mp n).2];exact e,fun a u n e=>n⟩
theorem Ext.show:Ext (ι.hide D) H ι H:=⟨fun e=>e,fun a u n e=>e,fun a u n e=>(Ix.hide_all.mp n).1⟩
theorem Ext.adopt:Ext (ι.hide D) H (ι.add D) H:=⟨fun {k a} e=>by
 show (ι.refs++[D])[k]? = some a
 replace e:ι.refs[k]? = some a:=e
 rw [JF (JD.mp e).1];exact e,fun a u n e=>e,fun a u n e z=>by
 rcases JQ.mp z with z | z
 ·replace z:a∈ι.refs++[D]:=z
  rcases JQ.mp z with z | z
  ·exact (Ix.hide_all.mp n).1 (JN _ z)
  ·exact (Ix.hide_all.mp n).2 (by simpa using z)
 ·exact (Ix.hide_all.mp n).1 (JW _ z)⟩
theorem OR.ext {ι ι':Ix} {H H':Hp} (g:Ext ι H ι' H') {o:AO} {u:HO} (h:OR T ι H o u):OR T ι' H' o u:=by
 cases o with
 | lst xs=>obtain ⟨us,e,r⟩:=h;exact ⟨us,e,r.ext g⟩
 | dct t kvs =>
  cases t with
  | false=>obtain ⟨us,e,r⟩:=h;exact ⟨us,e,Paired.mapP r fun _ _ ⟨a,b⟩=>⟨a,b.ext g⟩⟩
  | true=>obtain ⟨us,e,r⟩:=h;exact ⟨us,e,Paired.mapP r fun _ _ ⟨a,b⟩=>⟨a,b.ext g⟩⟩
 | dcx kvs=>obtain ⟨ads,us,e,l,r⟩:=h;exact ⟨ads,us,e,l,Paired.mapP r fun _ _ ⟨a,b,c⟩=>⟨a,b.ext g,c.ext g⟩⟩
 | ins c fs =>
  obtain ⟨C,dx,fus,a,b,n,w,l,r⟩:=h
  refine ⟨C,dx,fus,a,b,n,w,l,fun i v e=>?_⟩
  obtain ⟨f,u,e1,e2,q⟩:=r i v e
  exact ⟨f,u,e1,e2,q.ext g⟩
theorem Sim.hide {h:AH} {o:HO} (S:Sim T ι h H) (hn:H D=none):Sim T (ι.hide D) h (aK H D o) :=
 ⟨S.len,S.nd,fun a ha=>by
  rcases J8.mp ha with rfl | ha
  ·rw [dQ];simp
  ·rw [bL (show a≠D from fun z=>S.plive a ha (z▸hn))];exact S.plive a ha,fun i o' a e1 e2=>by
  obtain ⟨u,e,r⟩:=S.obj i o' a e1 e2
  exact ⟨u,by rw [bL (fI e hn)];exact e,r.ext (Ext.hide hn)⟩⟩
theorem Sim.poke {h:AH} {o:HO} (S:Sim T (ι.hide D) h H) (hr:D∉ι.refs):Sim T (ι.hide D) h (aK H D o) :=
 ⟨S.len,S.nd,fun a ha=>by
  by_cases z:a=D
  ·subst z;rw [dQ];simp
  ·rw [bL z];exact S.plive a ha,fun i o' a e1 e2=>by
  obtain ⟨u,e,r⟩:=S.obj i o' a e1 e2
  have ne:a≠D:=fun z=>hr (z▸Kb e2)
  exact ⟨u,by rw [bL ne];exact e,r.ext Ext.poke⟩⟩
theorem Sim.show {h:AH} (S:Sim T (ι.hide D) h H):Sim T ι h H :=
 ⟨S.len,S.nd,fun a ha=>S.plive a (J7 _ ha),fun i o' a e1 e2=>by
  obtain ⟨u,e,r⟩:=S.obj i o' a e1 e2
  exact ⟨u,e,r.ext Ext.show⟩⟩
theorem Sim.adopt {h:AH} {u:HO} {o:AO} (S:Sim T (ι.hide D) h H) (hr:D∉ι.refs) (e:H D=some u) (r:OR T (ι.add D) H o u):Sim T (ι.add D) (h++[o]) H:=by
 have hlen:ι.refs.length=h.length:=S.len
 refine ⟨by simp [Ix.add,hlen],?_,fun a ha=>S.plive a (J7 _ ha),fun i o' a e1 e2=>?_⟩
 ·show (ι.refs++[D]).Nodup
  rw [LW]
  exact ⟨S.nd,by simp,fun a ha b hb z=>by have e:b=D:=(by simpa using hb);subst e;subst z;exact hr ha⟩
 ·replace e2:(ι.refs++[D])[i]? = some a:=e2
  by_cases hi:i<h.length
  ·rw [JF hi] at e1
   rw [JF (by rw [hlen];exact hi)] at e2
   obtain ⟨v,e,q⟩:=S.obj i o' a e1 e2
   exact ⟨v,e,q.ext Ext.adopt⟩
  ·have e3:i=h.length:=by
    have:=(JD.mp e1).1
    simp at this;lia
   subst e3
   rw [J9 (JE _)] at e1
   rw [J9 (by rw [hlen];exact JE _),hlen] at e2
   simp at e1 e2
   subst e1 e2
   exact ⟨u,e,r⟩
end
def ER (T:Tb) (ι:Ix) (H:Hp) (e:En) (σ:St):Prop:=e.length=σ.length/\∀ (i:Nat) (v:AV),e[i]? = some (some v)->∃ u,σ[i]? = some (some u)/\RV T ι H v u
theorem ER.mono {T:Tb} {ι ι':Ix} {H H':Hp} {e:En} {σ:St} (r:ER T ι H e σ) (g:Grow ι H ι' H'):ER T ι' H' e σ :=
 ⟨r.1,fun i v q=>let ⟨u,a,b⟩:=r.2 i v q;⟨u,a,b.mono g⟩⟩
theorem ER.ext {T:Tb} {ι ι':Ix} {H H':Hp} {e:En} {σ:St} (r:ER T ι H e σ) (g:Ext ι H ι' H'):ER T ι' H' e σ :=
 ⟨r.1,fun i v q=>let ⟨u,a,b⟩:=r.2 i v q;⟨u,a,b.ext g⟩⟩
theorem ER.set {T:Tb} {ι:Ix} {H:Hp} {e:En} {σ:St} (r:ER T ι H e σ) {v:AV} {u:V} (q:RV T ι H v u) (i:Nat):ER T ι H (e.set i (some v)) (σ.set i (some u)):=by
 refine ⟨by simp [r.1],fun j w z=>?_⟩
 by_cases hj:j=i
 ·subst hj
  by_cases hl:j<e.length
  ·rw [JR hl] at z;cases z
   exact ⟨u,by rw [JR (by rw [<- r.1];exact hl)],q⟩
  ·rw [Lh (by simpa using hl)] at z;cases z
 ·rw [JI (Ne.symm hj)] at z ⊢
  exact r.2 j w z
def Post {α β:Type} (T:Tb) (ι:Ix) (H:Hp) (E:XK) (R:Ix->Hp->α->β->Prop) (o:Out α) (Q:β->Hp->Prop):Prop :=
 match o with
 | .ok v h' => ∀ ι' H' u,Grow ι H ι' H'->Sim T ι' h' H'->R ι' H' v u->Q u H'
 | .ex c h' => ∀ ι' H' C,Grow ι H ι' H'->Sim T ι' h' H'->T.exc c=some C->E (.ref C) none H'
 | .bad=>False
def PostS (T:Tb) (ι:Ix) (H:Hp) (E:St->XK) (o:dU) (D:cM):Prop :=
 match o with
 | .nx e h' => ∀ ι' H' σ',Grow ι H ι' H'->Sim T ι' h' H'->ER T ι' H' e σ'->D.nx σ' H'
 | .bk e h' => ∀ ι' H' σ',Grow ι H ι' H'->Sim T ι' h' H'->ER T ι' H' e σ'->D.bk σ' H'
 | .ct e h' => ∀ ι' H' σ',Grow ι H ι' H'->Sim T ι' h' H'->ER T ι' H' e σ'->D.ct σ' H'
 | .rt v h' => ∀ ι' H' u,Grow ι H ι' H'->Sim T ι' h' H'->RV T ι' H' v u->D.rt u H'
 | .ex c e h' => ∀ ι' H' σ' C,Grow ι H ι' H'->Sim T ι' h' H'->ER T ι' H' e σ'->T.exc c=some C->E σ' (.ref C) none H'
 | .bad=>False
abbrev DT {α:Type}:Ix->Hp->α->α->Prop:=fun _ _ a b=>a=b
section
variable {T:Tb} {ι ι':Ix} {h:AH} {H H':Hp} {α β γ δ:Type} {E:XK} {R:Ix->Hp->α->β->Prop} {R':Ix->Hp->γ->δ->Prop}
theorem Post.shift {o:Out α} {Q:β->Hp->Prop} (p:Post T ι H E R o Q) (g:Grow ι H ι' H'):Post T ι' H' E R o Q:=by
 cases o with
 | ok v h' => exact fun i2 H2 u g2=>p i2 H2 u (g.trans g2)
 | ex c h' => exact fun i2 H2 C g2=>p i2 H2 C (g.trans g2)
 | bad=>exact p
theorem Post.bind {o:Out α} {f:α->AH->Out γ} {Q:δ->Hp->Prop} {Q1:β->Hp->Prop} (p:Post T ι H E R' (o.bind f) Q)
  (k:∀ v h' ι' H' u,Grow ι H ι' H'->Sim T ι' h' H'->R ι' H' v u->Post T ι' H' E R' (f v h') Q->Q1 u H'):Post T ι H E R o Q1:=by
 cases o with
 | ok v h' => exact fun i2 H2 u g S r=>k v h' i2 H2 u g S r (Post.shift p g)
 | ex c h' => exact p
 | bad=>exact p
theorem Post.now {v:α} {u:β} {Q:β->Hp->Prop} (p:Post T ι H E R (.ok v h) Q) (S:Sim T ι h H) (r:R ι H v u):Q u H:=p ι H u S.refl S r
theorem PostS.shift {E:St->XK} {o:dU} {D:cM} (p:PostS T ι H E o D) (g:Grow ι H ι' H'):PostS T ι' H' E o D:=by
 cases o with
 | nx e h' => exact fun i2 H2 u g2=>p i2 H2 u (g.trans g2)
 | bk e h' => exact fun i2 H2 u g2=>p i2 H2 u (g.trans g2)
 | ct e h' => exact fun i2 H2 u g2=>p i2 H2 u (g.trans g2)
 | rt v h' => exact fun i2 H2 u g2=>p i2 H2 u (g.trans g2)
 | ex c e h' => exact fun i2 H2 u C g2=>p i2 H2 u C (g.trans g2)
 | bad=>exact p
theorem PostS.go {E:St->XK} {o:Out α} {en:En} {σ:St} {f:α->AH->dU} {D:cM} {Q1:β->Hp->Prop} (p:PostS T ι H E (o.go en f) D) (er:ER T ι H en σ)
  (k:∀ v h' ι' H' u,Grow ι H ι' H'->Sim T ι' h' H'->R ι' H' v u->PostS T ι' H' E (f v h') D->Q1 u H'):Post T ι H (E σ) R o Q1:=by
 cases o with
 | ok v h' => exact fun i2 H2 u g S r=>k v h' i2 H2 u g S r (PostS.shift p g)
 | ex c h' => exact fun i2 H2 C g S e=>p i2 H2 σ C g S (er.mono g) e
 | bad=>exact p
end
def tE (T:Tb) (E:St->XK) (a:SE):TE:=fun σ H Q=>∃ ι h en,Sim T ι h H/\ER T ι H en σ/\Post T ι H (E σ) (RV T) (a en h) Q
def tT (T:Tb) (E:St->XK) (a:SB):TT:=fun σ H Q=>∃ ι h en,Sim T ι h H/\ER T ι H en σ/\Post T ι H (E σ) DT (a en h) Q
def tA (T:Tb) (E:St->XK) (a:SL):TA:=fun σ H Q=>∃ ι h en,Sim T ι h H/\ER T ι H en σ/\Post T ι H (E σ) (RVs T) (a en h) Q
def tS (T:Tb) (E:St->XK) (b:SS):TS:=fun D σ H=>∃ ι h en,Sim T ι h H/\ER T ι H en σ/\PostS T ι H E (b en h) D
abbrev aI (T:Tb) (E:St->XK) (X:Cx) (e:Expr) (a:SE):Prop:=PE X e (tE T E a)
abbrev fJ (T:Tb) (E:St->XK) (X:Cx) (e:Expr) (a:SB):Prop:=PT X e (tT T E a)
abbrev jr (T:Tb) (E:St->XK) (X:Cx) (e:Expr) (a:SB):Prop:=PW X e (tT T E a)
abbrev fK (T:Tb) (E:St->XK) (X:Cx) (es:List Expr) (a:SL):Prop:=PA X es (tA T E a)
abbrev eP (T:Tb) (E:St->XK) (X:Cx) (st:Stmt) (b:SS):Prop:=PS X st (tS T E b)
abbrev cH (T:Tb) (E:St->XK) (X:Cx) (sts:List Stmt) (b:SS):Prop:=ft X sts (tS T E b)
theorem cq {X:Cx} {e:Expr} {t t':TE} (h:PE X e t) (k:∀ σ H Q,t' σ H Q->t σ H Q):PE X e t' := fun pins s σ H Q I q=>h pins s σ H Q I (k σ H Q q)
theorem rG {X:Cx} {e:Expr} {t t':TT} (h:PT X e t) (k:∀ σ H Q,t' σ H Q->t σ H Q):PT X e t' := fun pins s σ H Q I q=>h pins s σ H Q I (k σ H Q q)
theorem wR {X:Cx} {e:Expr} {t t':TT} (h:PW X e t) (k:∀ σ H Q,t' σ H Q->t σ H Q):PW X e t' := fun w pins s σ H Q I q=>h w pins s σ H Q I (k σ H Q q)
theorem wU {X:Cx} {e:List Expr} {t t':TA} (h:PA X e t) (k:∀ σ H Q,t' σ H Q->t σ H Q):PA X e t' := fun p pins s σ H Q I q=>h p pins s σ H Q I (k σ H Q q)
theorem fv {X:Cx} {e:Stmt} {t t':TS} (h:PS X e t) (k:∀ D σ H,t' D σ H->t D σ H):PS X e t' := fun pins s σ H D I q=>h pins s σ H D I (k D σ H q)
theorem wV {X:Cx} {e:List Stmt} {t t':TS} (h:ft X e t) (k:∀ D σ H,t' D σ H->t D σ H):ft X e t' := fun pins s σ H D I q=>h pins s σ H D I (k D σ H q)
theorem oq {X:Cx} {st:Stmt} {t:TS} (h:PS X.nox st t):PS X st t:=fun pins s σ H D I hw=>by
 refine KD (h pins s σ H D (I.wish _) hw) (fun f s' q=>SP.unwish q) fun _ _ z=>z.elim
end Sm
namespace Sm
open PySem L2
instance:DecidableEq AV:=fun _ _=>Classical.propDecidable _
@[simp] def aa (i:Nat):SE:=fun en h=>match en[i]? with
 | some (some v)=>.ok v h
 | _=>.bad
@[simp] def af (v:AV):SE:=fun _ h=>.ok v h
abbrev F1:=AV->AH->Out AV
abbrev F2:=AV->AV->AH->Out AV
@[simp] def dz (f:F1) (a:SE):SE:=fun en h=>(a en h).bind f
@[simp] def ag (f:F2) (a b:SE):SE:=fun en h=>(a en h).bind fun x h1=>(b en h1).bind fun y h2=>f x y h2
@[simp] def ae:SL:=fun _ h=>.ok [] h
@[simp] def ai (a:SE) (r:SL):SL:=fun en h=>(a en h).bind fun x h1=>(r en h1).bind fun xs h2=>.ok (x::xs) h2
@[simp] def aD (F:Fn) (as:SL):SE:=fun en h=>(as en h).bind F
@[simp] def fy (as:SL):SE:=fun en h=>(as en h).bind fun xs h1=>if xs.length<=1000 then .ok (.tup xs) h1 else .bad
@[simp] def bU (as:SL):SE:=fun en h=>(as en h).bind fun xs h1=>if xs.length<=1000 then .ok (.fl xs) h1 else .bad
@[simp] def cT (as:SL):SE:=fun en h=>(as en h).bind fun xs h1=>if xs.length<=1000 then .ok (.ref h1.length) (h1++[.lst xs]) else .bad
@[simp] def jt (t:Bool):SE:=fun _ h=>.ok (.ref h.length) (h++[.dct t []])
@[simp] def Jw (v:AV) (h:AH):Option (List AV):=match v with
 | .tup xs=>some xs
 | .fl xs=>some xs
 | .ref n=>match h[n]? with
  | some (.lst xs)=>some xs
  | _=>none
 | _=>none
@[simp] def cU (v:AV) (h:AH):Option (List AV):=match v with
 | .fl xs=>some xs
 | .ref n=>match h[n]? with
  | some (.lst xs)=>some xs
  | _=>none
 | _=>none
@[simp] def aA:F2:=fun x y h=>match x,y with
 | .int i,.int j=>.ok (.int (i+j)) h
 | .str i,.str j=>if i.length+j.length<=sizeLine then .ok (.str (i++j)) h else .bad
 | .tup xs,.tup ys=>if xs≠[]/\xs.length+ys.length<=sizeLine then .ok (.tup (xs++ys)) h else .bad
 | x,y=>match cU x h,cU y h with
  | some xs,some ys=>if xs.length+ys.length<=sizeLine then .ok (.fl (xs++ys)) h else .bad
  | _,_=>.bad
@[simp] def dW:F2:=fun x y h=>match x,y with
 | .int i,.int j=>.ok (.int (i-j)) h
 | _,_=>.bad
@[simp] def bI:F2:=fun x y h=>match x,y with
 | .int i,.int j=>if (i.natAbs<2 ^ 64\/j.natAbs<2 ^ 64)\/(i.natAbs<2 ^ 4000/\j.natAbs<2 ^ 4000) then .ok (.int (i*j)) h else .bad
 | _,_=>.bad
@[simp] def fA:F2:=fun x y h=>match x,y with
 | .int i,.int j=>if 0<j/\j.natAbs<2 ^ 200 then .ok (.int (i / j)) h else .bad
 | _,_=>.bad
@[simp] def cI:F2:=fun x y h=>match x,y with
 | .int i,.int j=>if 0<j then .ok (.int (i % j)) h else .bad
 | _,_=>.bad
@[simp] def cJ:F2:=fun x y h=>match x,y with
 | .int i,.int j=>if 0<=j/\j<=1000000/\i.natAbs<2 ^ 64 then .ok (.int (i ^ j.toNat)) h else .bad
 | _,_=>.bad
@[simp] def de:F1:=fun x h=>match x with
 | .int i=>.ok (.int (-i)) h
 | _=>.bad
def bE (f:AV->Option PyData):List AV->Option (List PyData)
 | []=>some []
 | x::xs=>match f x,bE f xs with
  | some d,some ds=>some (d::ds)
  | _,_=>none
def bj:Nat->AH->AV->Option PyData
 | 0,_,v=>match v with
  | .non=>some .none
  | .bl b=>some (.bool b)
  | .int i=>some (.int i)
  | .str x=>some (.str x)
  | _=>none
 | n+1,h,v=>match v with
  | .non=>some .none
  | .bl b=>some (.bool b)
  | .int i=>some (.int i)
  | .str x=>some (.str x)
  | .tup xs=>(bE (bj n h) xs).map .tuple
  | .fl xs=>(bE (bj n h) xs).map .list
  | .ref k=>match h[k]? with
   | some (.lst xs)=>(bE (bj n h) xs).map .list
   | _=>none
  | .exc _=>none
@[simp] def gZ (x y:AV) (h:AH):Option Bool:=match x,y with
 | .int i,.int j=>some (decide (i=j))
 | .str i,.str j=>some (decide (i=j))
 | .bl i,.bl j=>some (decide (i=j))
 | .non,.non=>some true
 | x,y=>match bj 8 h x,bj 8 h y with
  | some d,some e=>some (PyData.eqv d e)
  | _,_=>none
@[simp] def aQ:F2:=fun x y h=>match gZ x y h with
 | some b=>.ok (.bl b) h
 | none=>.bad
@[simp] def bg:F2:=fun x y h=>match gZ x y h with
 | some b=>.ok (.bl (!b)) h
 | none=>.bad
@[simp] def lQ:F2:=fun x y h=>match x,y with
 | .int i,.int j=>.ok (.bl (decide (i<j))) h
 | .str i,.str j=>.ok (.bl (decide (i.cps.toList<j.cps.toList))) h
 | _,_=>.bad
@[simp] def gb:F2:=fun x y h=>match x,y with
 | .int i,.int j=>.ok (.bl (decide (i<=j))) h
 | .str i,.str j=>.ok (.bl (!decide (j.cps.toList<i.cps.toList))) h
 | _,_=>.bad
@[simp] def iM:F2:=fun x y h=>match x,y with
 | .int i,.int j=>.ok (.bl (decide (j<i))) h
 | _,_=>.bad
@[simp] def rH:F2:=fun x y h=>match x,y with
 | .int i,.int j=>.ok (.bl (decide (j<=i))) h
 | _,_=>.bad
@[simp] def ju (v:AV) (h:AH):Option Bool:=match v with
 | .non=>some false
 | .bl b=>some b
 | .int i=>some (i != 0)
 | .str y=>some ((y.length:Int) != 0)
 | .tup xs=>some (!xs.isEmpty)
 | .fl xs=>some (!xs.isEmpty)
 | .ref n=>match h[n]? with
  | some (.lst xs)=>some (!xs.isEmpty)
  | some (.dct false kvs)=>some (!kvs.isEmpty)
  | _=>none
 | _=>none
@[simp] def gD (a:SE):SB:=fun en h=>(a en h).bind fun v h1=>match ju v h1 with
 | some b=>.ok b h1
 | none=>.bad
@[simp] def aU (a:SE):SB:=fun en h=>(a en h).bind fun v h1=>match v with
 | .bl b=>.ok b h1
 | _=>.bad
@[simp] def lR (a b:SB):SB:=fun en h=>(a en h).bind fun x h1=>if x=true then b en h1 else .ok false h1
@[simp] def j8 (a b:SB):SB:=fun en h=>(a en h).bind fun x h1=>if x=true then .ok true h1 else b en h1
@[simp] def dB (a:SB):SB:=fun en h=>(a en h).bind fun x h1=>.ok (!x) h1
@[simp] def j9 (a b:SE):SE:=fun en h=>(a en h).bind fun v h1=>match v with
 | .bl k=>if k=true then b en h1 else .ok (.bl false) h1
 | _=>.bad
@[simp] def lS (a b:SE):SE:=fun en h=>(a en h).bind fun v h1=>match v with
 | .bl k=>if k=true then .ok (.bl true) h1 else b en h1
 | _=>.bad
@[simp] def wW (a:SE):SE:=fun en h=>(a en h).bind fun v h1=>match v with
 | .bl b=>.ok (.bl (!b)) h1
 | _=>.bad
@[simp] def lT (f f':F2) (a b c:SE):SE:=fun en h=>(a en h).bind fun x h1=>(b en h1).bind fun y h2=>(f x y h2).bind fun z h3=>match z with
 | .bl k=>if k=true then (c en h3).bind fun w h4=>f' y w h4 else .ok (.bl false) h3
 | _=>.bad
@[simp] def bJ:SS:=fun en h=>.nx en h
@[simp] def ak (a b:SS):SS:=fun en h=>match a en h with
 | .nx e h' => b e h'
 | o=>o
@[simp] def bR (a:SE):SS:=fun en h=>(a en h).go en fun _ h' => .nx en h'
@[simp] def aB (a:SE):SS:=fun en h=>(a en h).go en fun v h' => .rt v h'
@[simp] def bt (c:SB) (a b:SS):SS:=fun en h=>(c en h).go en fun x h' => if x=true then a en h' else b en h'
@[simp] def aw (i:Nat) (a:SE):SS:=fun en h=>(a en h).go en fun v h' => .nx (en.set i (some v)) h'
def du (c:SB) (b:SS):Nat->SS
 | 0=>fun _ _=>.bad
 | n+1=>fun en h=>match c en h with
  | .ok true h1=>(match b en h1 with
   | .nx e2 h2=>du c b n e2 h2
   | .ct e2 h2=>du c b n e2 h2
   | .bk e2 h2=>.nx e2 h2
   | .rt v h2=>.rt v h2
   | _=>.bad)
  | .ok false h1=>.nx en h1
  | _=>.bad
abbrev SI:=En->AH->Out (List AV×Option Nat)
@[simp] def bV (w:Option Nat) (xs:List AV) (h:AH):Bool:=match w with
 | none=>true
 | some n=>match h[n]? with
  | some (.lst ys)=>decide (ys=xs)
  | _=>false
set_option genInjectivity false in
inductive Tg where
 | nm (i:Nat)
 | tup (is:List Nat)
 | nst (i:Nat) (is:List Nat)
@[simp] def ot:List Nat->List AV->En->Option En
 | [],[],en=>some en
 | i::is,x::xs,en=>ot is xs (en.set i (some x))
 | _,_,_=>none
@[simp] def df (t:Tg) (v:AV) (en:En):Option En:=match t,v with
 | .nm i,v=>some (en.set i (some v))
 | .tup is,.tup xs=>ot is xs en
 | .nst i is,.tup [y,.tup xs]=>ot is xs (en.set i (some y))
 | _,_=>none
def cQ (w:Option Nat) (all:List AV) (t:Tg) (b:SS):List AV->SS
 | []=>fun en h=>if bV w all h=true then .nx en h else .bad
 | x::xs=>fun en h=>if bV w all h=true then
   (match df t x en with
   | some e1=>(match b e1 h with
    | .nx e2 h2=>cQ w all t b xs e2 h2
    | .ct e2 h2=>cQ w all t b xs e2 h2
    | .bk e2 h2=>.nx e2 h2
    | .rt v h2=>.rt v h2
    | _=>.bad)
   | none=>.bad) else .bad
@[simp] def bh (it:SI) (t:Tg) (b:SS):SS:=fun en h=>match it en h with
 | .ok (xs,w) h1=>cQ w xs t b xs en h1
 | _=>.bad
@[simp] def bu (a:SE):SI:=fun en h=>(a en h).bind fun v h1=>match v with
 | .fl xs=>.ok (xs,none) h1
 | .tup xs=>.ok (xs,none) h1
 | .str z=>.ok (z.cps.toList.map (fun c=>.str ⟨#[c]⟩),none) h1
 | .ref n=>match h1[n]? with
  | some (.lst xs)=>.ok (xs,some n) h1
  | _=>.bad
 | _=>.bad
def bO (lo:Int):Nat->List AV
 | 0=>[]
 | n+1=>.int lo::bO (lo+1) n
@[simp] def eG (a:SE):SI:=fun en h=>(a en h).bind fun v h1=>match v with
 | .int j=>if j.natAbs<2 ^ 62 then .ok (bO 0 j.toNat,none) h1 else .bad
 | _=>.bad
@[simp] def fB (a b:SE):SI:=fun en h=>(a en h).bind fun v h1=>(b en h1).bind fun w h2=>match v,w with
 | .int i,.int j=>if i.natAbs<2 ^ 62/\j.natAbs<2 ^ 62 then .ok (bO i (j-i).toNat,none) h2 else .bad
 | _,_=>.bad
def wX (k:Nat):List AV->List AV
 | []=>[]
 | x::xs=>.tup [.int k,x]::wX (k+1) xs
@[simp] def Jx (a:SE):SI:=fun en h=>(a en h).bind fun v h1=>match v with
 | .fl xs=>.ok (wX 0 xs,none) h1
 | _=>.bad
def cY (js:List Nat) (en:En) (w:Option Nat) (all:List AV) (c:SB) (e:SE):List AV->List AV->AH->Out (List AV)
 | [],ys,h=>if bV w all h=true then .ok ys h else .bad
 | x::xs,ys,h=>if bV w all h=true/\ys.length<sizeLine then
   (match c (some x::js.map fun j=>(en[j]?).join) h with
   | .ok true h1=>(match e (some x::js.map fun j=>(en[j]?).join) h1 with
    | .ok v h2=>cY js en w all c e xs (ys++[v]) h2
    | _=>.bad)
   | .ok false h1=>cY js en w all c e xs ys h1
   | _=>.bad) else .bad
@[simp] def bw:SB:=fun _ h=>.ok true h
@[simp] def dC (js:List Nat) (it:SI) (c:SB) (e:SE):SE:=fun en h=>match it en h with
 | .ok (xs,w) h1=>(match cY js en w xs c e xs [] h1 with
  | .ok ys h2=>.ok (.fl ys) h2
  | _=>.bad)
 | _=>.bad
@[simp] def fL (js:List Nat) (it:SI) (c:SB) (e:SE):SE:=fun en h=>match it en h with
 | .ok (xs,w) h1=>(match cY js en w xs c e xs [] h1 with
  | .ok ys h2=>.ok (.ref h2.length) (h2++[.lst ys])
  | _=>.bad)
 | _=>.bad
@[simp] def aC (n m:Nat) (b:SS):Fn:=fun args h =>
 if args.length=n then
  match b (args.map some++List.replicate (m-n) none) h with
  | .nx _ h' => .ok .non h'
  | .rt v h' => .ok v h'
  | .ex c _ h' => .ex c h'
  | _=>.bad
 else .bad
@[simp] def aG (c:Nat) (F:Fn) (o:SE) (as:SL):SE:=fun en h=>(o en h).bind fun x h1=>match x with
 | .ref n=>match h1[n]? with
  | some (.ins c' _)=>if c'=c then (as en h1).bind fun xs h2=>F (x::xs) h2 else .bad
  | _=>.bad
 | _=>.bad
@[simp] def ka (c k:Nat) (F:Fn) (as:SL):SE:=fun en h=>(as en h).bind fun xs h1=>match F (.ref h1.length::xs) (h1++[.ins c (List.replicate k none)]) with
 | .ok .non h2=>.ok (.ref h1.length) h2
 | .ex c h2=>.ex c h2
 | _=>.bad
@[simp] def sFld (c i:Nat) (o:SE):SE:=fun en h=>(o en h).bind fun x h1=>match x with
 | .ref n=>match h1[n]? with
  | some (.ins c' fs)=>if c'=c then (match fs[i]? with | some (some v)=>.ok v h1 | _=>.bad) else .bad
  | _=>.bad
 | _=>.bad
@[simp] def g7 (c i:Nat) (o v:SE):SS:=fun en h=>(v en h).go en fun y h1=>(o en h1).go en fun x h2=>match x with
 | .ref n=>match h2[n]? with
  | some (.ins c' fs)=>if c'=c then .nx en (h2.set n (.ins c (fs.set i (some y)))) else .bad
  | _=>.bad
 | _=>.bad
@[simp] def g8 (c:Nat) (as:SL):SS:=fun en h=>(as en h).go en fun xs h1=>if xs.length<=1000 then .ex c en h1 else .bad
@[simp] def keyOf? (v:AV):Option aH:=match v with
 | .int i=>some (.inl i)
 | .str x=>some (.inr x)
 | _=>none
@[simp] def keysOf? : List AV->Option (List aH)
 | []=>some []
 | v::r=>match keyOf? v,keysOf? r with
  | some k,some ks=>some (k::ks)
  | _,_=>none
@[simp] def eQ (t:Bool) (v:AV):Bool:=match t,v with
 | false,v=>(keyOf? v).isSome
 | true,.tup xs=>(keysOf? xs).isSome
 | true,_=>false
def aX (kvs:List (AV×AV)) (k:AV):Option AV:=(kvs.find? fun p=>decide (p.1=k)).map (·.2)
def dX (kvs:List (AV×AV)) (k v:AV):List (AV×AV) :=
 if kvs.any (fun p=>decide (p.1=k)) then kvs.map fun p=>if p.1=k then (p.1,v) else p else kvs++[(k,v)]
@[simp] def au:F2:=fun x y h=>match x,y with
 | .str z,.int i=>match atI z.cps.toList i with
  | some c=>.ok (.str ⟨#[c]⟩) h
  | none=>.bad
 | .tup xs,.int i=>match atI xs i with
  | some v=>.ok v h
  | none=>.bad
 | .fl xs,.int i=>match atI xs i with
  | some v=>.ok v h
  | none=>.bad
 | .ref n,y=>match h[n]? with
  | some (.lst xs)=>match y with
   | .int i=>match atI xs i with
    | some v=>.ok v h
    | none=>.bad
   | _=>.bad
  | some (.dct t kvs)=>if eQ t y then (match aX kvs y with | some v=>.ok v h | none=>.bad) else .bad
  | _=>.bad
 | _,_=>.bad
@[simp] def dw (o i v:SE):SS:=fun en h=>(v en h).go en fun z h1=>(o en h1).go en fun x h2=>(i en h2).go en fun y h3=>match x with
 | .ref n=>match h3[n]? with
  | some (.lst xs)=>match y with
   | .int k=>match gX xs.length k with
    | some j=>.nx en (h3.set n (.lst (xs.set j z)))
    | none=>.bad
   | _=>.bad
  | some (.dct t kvs)=>if eQ t y=true/\kvs.length<sizeLine then .nx en (h3.set n (.dct t (dX kvs y z))) else .bad
  | _=>.bad
 | _=>.bad
@[simp] def iO (x y:AV) (h:AH):Option Bool:=match x,y with
 | .str i,.str j=>some (!(Builtin.Str.occurrences j i 0 j.length 1).isEmpty)
 | x,.ref n=>match h[n]? with
  | some (.dct t kvs)=>if eQ t x then some (aX kvs x).isSome else none
  | some (.lst xs)=>match bj 8 h x,bE (bj 8 h) xs with
   | some d,some ds=>some (ds.any fun e=>PyData.eqv e d)
   | _,_=>none
  | _=>none
 | x,.fl xs=>match bj 8 h x,bE (bj 8 h) xs with
  | some d,some ds=>some (ds.any fun e=>PyData.eqv e d)
  | _,_=>none
 | x,.tup xs=>match bj 8 h x,bE (bj 8 h) xs with
  | some d,some ds=>some (ds.any fun e=>PyData.eqv e d)
  | _,_=>none
 | _,_=>none
@[simp] def gc:F2:=fun x y h=>match iO x y h with
 | some b=>.ok (.bl b) h
 | none=>.bad
@[simp] def gE:F2:=fun x y h=>match iO x y h with
 | some b=>.ok (.bl (!b)) h
 | none=>.bad
@[simp] def aL:Fn:=fun args h=>match args with
 | [.str x]=>.ok (.int x.length) h
 | [.tup xs]=>.ok (.int xs.length) h
 | [.fl xs]=>.ok (.int xs.length) h
 | [.ref n]=>match h[n]? with
  | some (.lst xs)=>.ok (.int xs.length) h
  | some (.dct false kvs)=>.ok (.int kvs.length) h
  | _=>.bad
 | _=>.bad
@[simp] def jv:Fn:=fun args h=>match args with
 | [.int i]=>.ok (.int (if i<0 then -i else i)) h
 | _=>.bad
@[simp] def rJ:Fn:=fun args h=>match args with
 | [.int i,.int j]=>.ok (.int (if j > i then j else i)) h
 | _=>.bad
@[simp] def lU:List AV->Option (List Bool)
 | []=>some []
 | .bl b::r=>(lU r).map (b :: ·)
 | _::_=>none
@[simp] def jw:Fn:=fun args h=>match args with
 | [.fl xs]=>match lU xs with
  | some bs=>.ok (.bl (bs.all id)) h
  | none=>.bad
 | _=>.bad
@[simp] def kb:Fn:=fun args h=>match args with
 | [.tup xs]=>.ok (.fl xs) h
 | [.fl xs]=>.ok (.fl xs) h
 | [.ref n]=>match h[n]? with
  | some (.lst xs)=>.ok (.fl xs) h
  | _=>.bad
 | _=>.bad
@[simp] def kd:Fn:=fun args h=>match args with
 | [.tup xs]=>.ok (.ref h.length) (h++[.lst xs])
 | [.fl xs]=>.ok (.ref h.length) (h++[.lst xs])
 | [.ref n]=>match h[n]? with
  | some (.lst xs)=>.ok (.ref h.length) (h++[.lst xs])
  | _=>.bad
 | _=>.bad
@[simp] def rK (v:AV) (h:AH):Option String:=match v with
 | .non=>some "NoneType"
 | .bl _=>some "bool"
 | .int _=>some "int"
 | .str _=>some "str"
 | .tup _=>some "tuple"
 | .fl _=>some "list"
 | .ref n=>match h[n]? with
  | some (.lst _)=>some "list"
  | some (.dct _ _)=>some "dict"
  | _=>none
 | .exc _=>none
@[simp] def gg (t:String) (a:SE):SE:=fun en h=>(a en h).bind fun v h1=>match rK v h1 with
 | some n=>.ok (.bl (n == t || (t == "int" && n == "bool"))) h1
 | none=>.bad
abbrev FM:=AV->List AV->AH->Out AV
@[simp] def aZ (v:AV) (h:AH):Bool:=(cU v h).isSome
@[simp] def ou (v:AV) (_:AH):Bool:=match v with
 | .str _=>true
 | _=>false
@[simp] def cZ (chk:AV->AH->Bool) (f:FM) (o:SE) (as:SL):SE:=fun en h=>(o en h).bind fun x h1=>if chk x h1=true then (as en h1).bind fun xs h2=>f x xs h2 else .bad
@[simp] def g9 (chk:AV->AH->Bool) (f:FM) (o:SE):SE:=fun en h=>(o en h).bind fun x h1=>if chk x h1=true then f x [] h1 else .bad
@[simp] def bW:FM:=fun x vs h=>match x,vs with
 | .ref n,[y]=>match h[n]? with
  | some (.lst xs)=>if xs.length<sizeLine then .ok .non (h.set n (.lst (xs++[y]))) else .bad
  | _=>.bad
 | _,_=>.bad
@[simp] def cO:FM:=fun x vs h=>match x,vs with
 | .ref n,[]=>match h[n]? with
  | some (.lst xs)=>match xs[xs.length-1]? with
   | some y=>.ok y (h.set n (.lst xs.dropLast))
   | none=>.bad
  | _=>.bad
 | _,_=>.bad
@[simp] def rL:FM:=fun x vs h=>match x,vs with
 | .str z,[.str y]=>.ok (.int ((Builtin.Str.occurrences z y 0 z.length (z.length+1)).length:Nat)) h
 | _,_=>.bad
def dD {α:Type} (xs:List α) (lo hi:Option Int):List α:=(xs.drop (HT.sIx xs.length 0 lo)).take (HT.sIx xs.length xs.length hi-HT.sIx xs.length 0 lo)
end Sm
namespace Sm
open PySem L2
structure CA (T:Tb) (E:St->XK) (X:Cx):Prop where
 hK:X.K=T.K
 pass:lP (cN X.prog X.w) X E
abbrev EN:St->XK:=fun _=>E0
theorem CA.nox {T:Tb} {E:St->XK} {X:Cx} (c:CA T E X):CA T EN X.nox:=⟨c.hK,fun _ _ _ _ _ _ _ h=>by
 obtain ⟨_,_,_,_,_,_,_,_,_,_,_,_,_,_,q⟩:=h
 exact q.elim⟩
theorem CA.never {T:Tb} {X:Cx} (hK:X.K=T.K):CA T EN X:=⟨hK,fun _ _ _ _ _ _ _ h=>by
 obtain ⟨_,_,_,_,_,_,_,_,_,_,_,_,_,_,q⟩:=h
 exact q.elim⟩
section
variable {T:Tb} {ι:Ix} {h:AH} {H:Hp}
theorem dN {x:AV} {u:V} {xs:List AV} (S:Sim T ι h H) (r:RV T ι H x u) (e:cU x h=some xs):∃ a us,u = .ref a/\SqL T.K H a us/\RVs T ι H xs us:=by
 unfold cU at e
 cases r with
 | fl n q r=>cases e;exact ⟨_,_,rfl,.inl q,r⟩
 | kfl q r=>cases e;exact ⟨_,_,rfl,.inr q,r⟩
 | @ref k a q =>
  dsimp only at e
  split at e
  ·rename_i ys hk
   cases e
   obtain ⟨u,e1,us,rfl,r⟩:=S.obj k _ a hk q
   exact ⟨a,us,rfl,.inl (.inl e1),r⟩
  ·cases e
 | _=>cases e
theorem hE {u:V} {xs:List AV} (r:RV T ι H (.tup xs) u):∃ a us,u = .ref a/\SqT T.K H a us/\RVs T ι H xs us:=by
 cases r with
 | tup n q r=>exact ⟨_,_,rfl,.of q,r⟩
theorem dE {u:V} {x:Str} (r:RV T ι H (.str x) u):u = .str x/\x.length<=sizeLine/\x.cps.all (· < 0x110000)=true:=by
 cases r with
 | str n o=>exact ⟨rfl,n,o⟩
theorem bA {u:V} {i:Int} (r:RV T ι H (.int i) u):u = .int i:=by cases r;rfl
theorem hG {u:V} {i:Bool} (r:RV T ι H (.bl i) u):u = .bl i:=by cases r;rfl
theorem rM {u:V} (r:RV T ι H .non u):u = .non:=by cases r;rfl
theorem jx {us:List V} {xs:List AV} {p:Addr} {E:XK} {Q:VK} (S:Sim T ι h H) (r:RVs T ι H xs us) (n:H p=none) (q:Post T ι H E (RV T) (.ok (.fl xs) h) Q):Q (.ref p) (aK H p (.lst us)) :=
 q ι _ _ (S.growNew n) (S.new n) (.fl (S.fresh n) (.inl dQ) (r.mono (S.growNew n)))
theorem rN {us:List V} {xs:List AV} {p:Addr} {E:XK} {Q:VK} (S:Sim T ι h H) (r:RVs T ι H xs us) (n:H p=none) (q:Post T ι H E (RV T) (.ok (.tup xs) h) Q):Q (.ref p) (aK H p (.tup us)) :=
 q ι _ _ (S.growNew n) (S.new n) (.tup (S.fresh n) dQ (r.mono (S.growNew n)))
theorem ow {us:List V} {xs:List AV} {p:Addr} {E:XK} {Q:VK} (S:Sim T ι h H) (r:RVs T ι H xs us) (n:H p=none) (q:Post T ι H E (RV T) (.ok (.ref h.length) (h++[.lst xs])) Q):Q (.ref p) (aK H p (.lst us)) :=
 q _ _ _ (S.growAdd n) (S.add n ⟨us,rfl,r.mono (S.growAdd n)⟩) (.ref S.addAt)
end
section
variable {T:Tb} {E:St->XK} {X:Cx} {pos:Pos}
theorem ah (i:Nat) {x:Str} {p:Pos} (hN:X.N[i]? = some x:=by rfl) (hv:k8 X.env.scope x:=by first | exact Or.inl rfl | exact Or.inr (Or.inl rfl) | exact Or.inr (Or.inr rfl)) (hd:(x == ("__debug__" : Str))=false:=by decide)
  (hcd:(x == ("__classdict__" : Str))=false:=by decide):aI T E X (.Name x p) (aa i) :=
 cq (pv i hN hv hd hcd) fun σ H Q ⟨ι,h,en,S,er,q⟩=>by
  unfold aa at q
  split at q
  ·rename_i v hv
   obtain ⟨u,e,r⟩:=er.2 i v hv
   exact ⟨u,e,q.now S r⟩
  ·exact q.elim
theorem ay {i j p}:aI T E X (.Constant (.int i) j p) (af (.int i)):=cq Ao fun σ H Q ⟨ι,h,en,S,er,q⟩=>q.now S (.int i)
theorem dh {i j p}:aI T E X (.Constant (.bool i) j p) (af (.bl i)):=cq Ap fun σ H Q ⟨ι,h,en,S,er,q⟩=>q.now S (.bl i)
theorem bX {x j p} (n:x.length<=sizeLine:=by decide +kernel) (o:x.cps.all (· < 0x110000)=true:=by decide +kernel):aI T E X (.Constant (.str x) j p) (af (.str x)):=cq Aq fun σ H Q ⟨ι,h,en,S,er,q⟩=>q.now S (.str n o)
theorem DU {x:Str} {i:Int} {t:Tok} {p:Pos} (hg:Gl X x) (hm:X.mg x=some (.int i t)) (hd:(x == ("__debug__" : Str))=false:=by decide):aI T E X (.Name x p) (af (.int i)) :=
 cq (vG (v:=.int i) hg hm ⟨t,rfl⟩ hd) fun σ H Q ⟨ι,h,en,S,er,q⟩=>q.now S (.int i)
def kf (T:Tb) (f:F2) (r:R2):Prop:=∀ (ι:Ix) (h:AH) (H:Hp) (x y:AV) (u w:V) (E:XK) (Q:VK),Sim T ι h H->RV T ι H x u->RV T ι H y w->Post T ι H E (RV T) (f x y h) Q->r u w H Q
def Op (T:Tb) (X:Cx) (g:Value->Value->Sem Value) (f:F2):Prop:=∃ r,OpR X g r/\kf T f r
variable {a b c:Expr} {sa sb sc:SE}
theorem two {f:F2} {r:R2} (hs:kf T f r) {σ:St} {H:Hp} {Q:VK} (q:tE T E (ag f sa sb) σ H Q):j5 r (tE T E sa) (tE T E sb) σ H Q:=by
 obtain ⟨ι,h,en,S,er,q⟩:=q
 refine ⟨ι,h,en,S,er,q.bind fun x h1 ι1 H1 u g1 S1 r1 q1=>⟨ι1,h1,en,S1,er.mono g1,q1.bind fun y h2 ι2 H2 w g2 S2 r2 q2=>?_⟩⟩
 exact hs ι2 h2 H2 x y u w _ Q S2 (r1.mono g2) r2 q2
theorem aY {op:Operator} {f:F2} (ho:Op T X (binaryOp op) f) (ha:aI T E X a sa) (hb:aI T E X b sb):aI T E X (.BinOp a op b pos) (ag f sa sb):=by
 obtain ⟨r,h1,h2⟩:=ho
 exact cq (Bc h1 ha hb) fun σ H Q q=>two h2 q
theorem DV {i j:Str} (hi:i.cps.all (· < 0x110000)=true) (hj:j.cps.all (· < 0x110000)=true):(i++j).cps.all (· < 0x110000)=true:=by
 show (i.cps++j.cps).all _=true
 rw [Array.all_append,hi,hj];rfl
theorem DW (i j:Str):(i++j).length=i.length+j.length:=by
 show (i.cps++j.cps).size=_
 rw [Lm];rfl
theorem cB (hK:X.K=T.K):Op T X (binaryOp .Add) aA:=by
 refine ⟨_,op_add.or (zgn.or (zi1.or Dx)),fun ι h H x y u w E Q S rx ry p=>?_⟩
 unfold aA at p
 split at p
 ·rw [bA rx,bA ry]
  exact .inl ⟨_,_,rfl,rfl,p.now S (.int _)⟩
 ·split at p
  ·rename_i hz
   obtain ⟨rfl,_,o1⟩:=dE rx
   obtain ⟨rfl,_,o2⟩:=dE ry
   exact .inr (.inl ⟨_,_,rfl,rfl,hz,p.now S (.str (by rw [DW];exact hz) (DV o1 o2))⟩)
  ·exact p.elim
 ·split at p
  ·rename_i hz
   obtain ⟨a,us,rfl,q1,r1⟩:=hE rx
   obtain ⟨b,ws,rfl,q2,r2⟩:=hE ry
   refine .inr (.inr (.inl ⟨a,b,us,ws,rfl,rfl,hK▸q1,hK▸q2,fun z=>hz.1 ?_,by rw [<- r1.length,<- r2.length];exact hz.2,fun z=>?_,fun _ l n=>rN S (r1.append r2) n p⟩))
   ·subst z;cases r1;rfl
   ·subst z;cases r2
    rw [Me] at p
    exact p.now S rx
  ·exact p.elim
 ·split at p
  ·split at p
   ·rename_i e1 e2 hz
    obtain ⟨a,us,rfl,q1,r1⟩:=dN S rx e1
    obtain ⟨b,ws,rfl,q2,r2⟩:=dN S ry e2
    exact .inr (.inr (.inr ⟨a,b,us,ws,rfl,rfl,hK▸q1,hK▸q2,by rw [<- r1.length,<- r2.length];exact hz,fun l n=>jx S (r1.append r2) n p⟩))
   ·exact p.elim
  ·exact p.elim
theorem kg:Op T X (binaryOp .Sub) dW:=by
 refine ⟨_,Be,fun ι h H x y u w E Q S rx ry p=>?_⟩
 unfold dW at p
 split at p
 ·rw [bA rx,bA ry]
  exact ⟨_,_,rfl,rfl,p.now S (.int _)⟩
 ·exact p.elim
theorem wY {i:Int} (h:i.natAbs<2 ^ 4000):Builtin.Int.intBits i<=2 ^ 20:=by
 unfold Builtin.Int.intBits
 split
 ·exact Kk _
 ·rename_i hz
  have h0:i.natAbs≠0:=fun z=>hz (by simpa using z)
  have:i.natAbs.log2<4000:=(Nat.log2_lt h0).mpr h
  exact JK (by lia:i.natAbs.log2+1<=4001) (by decide)
theorem hJ:Op T X (binaryOp .Mult) bI:=by
 refine ⟨_,Di,fun ι h H x y u w E Q S rx ry p=>?_⟩
 unfold bI at p
 split at p
 ·split at p
  ·rename_i hz
   rw [bA rx,bA ry]
   exact ⟨_,_,rfl,rfl,hz.elim (fun z=>CMul.ok (z.elim (fun z=>.inl ⟨by omega,by omega⟩) (fun z=>.inr ⟨by omega,by omega⟩))) (fun z=>.of_bits (wY z.1) (wY z.2)),p.now S (.int _)⟩
  ·exact p.elim
 ·exact p.elim
theorem wZ:Op T X (binaryOp .FloorDiv) fA:=by
 refine ⟨_,Dh,fun ι h H x y u w E Q S rx ry p=>?_⟩
 unfold fA at p
 split at p
 ·split at p
  ·rename_i hz
   rw [bA rx,bA ry]
   exact ⟨_,_,rfl,rfl,⟨hz.1,by omega⟩,p.now S (.int _)⟩
  ·exact p.elim
 ·exact p.elim
theorem jy:Op T X (binaryOp .Mod) cI:=by
 refine ⟨_,Bf,fun ι h H x y u w E Q S rx ry p=>?_⟩
 unfold cI at p
 split at p
 ·split at p
  ·rename_i hz
   rw [bA rx,bA ry]
   exact ⟨_,_,rfl,rfl,hz,p.now S (.int _)⟩
  ·exact p.elim
 ·exact p.elim
theorem kh:Op T X (binaryOp .Pow) cJ:=by
 refine ⟨_,Bg,fun ι h H x y u w E Q S rx ry p=>?_⟩
 unfold cJ at p
 split at p
 ·split at p
  ·rename_i hz
   rw [bA rx,bA ry]
   exact ⟨_,_,rfl,rfl,hz,p.now S (.int _)⟩
  ·exact p.elim
 ·exact p.elim
theorem lV (ha:aI T E X a sa):aI T E X (.UnaryOp .USub a pos) (dz de sa) :=
 cq (Bd Bi ha) fun σ H Q ⟨ι,h,en,S,er,q⟩=>⟨ι,h,en,S,er,q.bind fun x h1 ι1 H1 u g1 S1 r1 q1=>by
  unfold de at q1
  split at q1
  ·rw [bA r1]
   exact ⟨_,rfl,q1.now S1 (.int _)⟩
  ·exact q1.elim⟩
theorem DX {ds:List PyData} (h:∀ d∈ds,d.canLay0=true):PyData.canLayAll0 ds=true:=by
 induction ds with
 | nil=>rfl
 | cons d r ih=>show (d.canLay0 && PyData.canLayAll0 r)=true;rw [h d (by simp),ih fun e he=>h e (by simp [he])];rfl
theorem DY {n:Nat} {ds:List PyData} (h:∀ d∈ds,d.depth<=n):PyData.depthAll ds<=n:=by
 induction ds with
 | nil=>exact Kk _
 | cons d r ih=>show max d.depth (PyData.depthAll r)<=n;have:=h d (by simp);have:=ih fun e he=>h e (by simp [he]);lia
section
variable {ι:Ix} {h:AH} {H:Hp}
theorem lY {f:AV->Option PyData} {n:Nat} (hf:∀ {x:AV} {u:V} {d:PyData},RV T ι H x u->f x=some d->DaV T.K H u d/\d.canLay0=true/\d.depth<=n) :
  ∀ {xs:List AV} {us:List V} {ds:List PyData},RVs T ι H xs us->bE f xs=some ds->DaVs T.K H us ds/\∀ d∈ds,d.canLay0=true/\d.depth<=n
 | _,_,ds,.nil,e=>by cases e;exact ⟨.nil,by simp⟩
 | _,_,ds,.cons (x:=x) (xs:=xs) r rs,e=>by
  unfold bE at e
  split at e
  ·rename_i d ds' e1 e2
   cases e
   obtain ⟨q1,q2⟩:=hf r e1
   obtain ⟨q3,q4⟩:=lY hf rs e2
   refine ⟨.cons q1 q3,fun d hd=>?_⟩
   rcases J8.mp hd with rfl | hd
   ·exact q2
   ·exact q4 d hd
  ·cases e
theorem hU (S:Sim T ι h H):∀ (n:Nat) {x:AV} {u:V} {d:PyData},RV T ι H x u->bj n h x=some d->DaV T.K H u d/\d.canLay0=true/\d.depth<=n
 | 0,x,u,d,r,e=>by
  unfold bj at e
  cases r with
  | non=>cases e;exact ⟨.non,rfl,JE _⟩
  | bl b=>cases e;exact ⟨.bl b,rfl,JE _⟩
  | int b=>cases e;exact ⟨.int b,rfl,JE _⟩
  | str a b=>cases e;exact ⟨.str _,b,JE _⟩
  | _=>cases e
 | n+1,x,u,d,r,e=>by
  unfold bj at e
  have many:∀ {xs:List AV} {us:List V} {ds:List PyData},RVs T ι H xs us->bE (bj n h) xs=some ds->DaVs T.K H us ds/\∀ d∈ds,d.canLay0=true/\d.depth<=n:=fun r e=>lY (fun r e=>hU S n r e) r e
  have fin:∀ {ds:List PyData},(∀ d∈ds,d.canLay0=true/\d.depth<=n)->PyData.canLayAll0 ds=true/\PyData.depthAll ds+1<=n+1:=fun q=>⟨DX fun d hd=>(q d hd).1,Nat.succ_le_succ (DY fun d hd=>(q d hd).2)⟩
  cases r with
  | non=>cases e;exact ⟨.non,rfl,Kk _⟩
  | bl b=>cases e;exact ⟨.bl b,rfl,Kk _⟩
  | int b=>cases e;exact ⟨.int b,rfl,Kk _⟩
  | str a b=>cases e;exact ⟨.str _,b,Kk _⟩
  | tup k q r =>
   obtain ⟨ds,e1,rfl⟩:=J3.mp e
   obtain ⟨q1,q2⟩:=many r e1
   exact ⟨.tup (.of q) q1,fin q2⟩
  | fl k q r =>
   obtain ⟨ds,e1,rfl⟩:=J3.mp e
   obtain ⟨q1,q2⟩:=many r e1
   exact ⟨.lst (.inl q) q1,fin q2⟩
  | kfl q r =>
   obtain ⟨ds,e1,rfl⟩:=J3.mp e
   obtain ⟨q1,q2⟩:=many r e1
   exact ⟨.lst (.inr q) q1,fin q2⟩
  | @ref k a q =>
   dsimp only at e
   split at e
   ·rename_i ys hk
    obtain ⟨ds,e1,rfl⟩:=J3.mp e
    obtain ⟨u,e2,us,rfl,r⟩:=S.obj k _ a hk q
    obtain ⟨q1,q2⟩:=many r e1
    exact ⟨.lst (.inl (.inl e2)) q1,fin q2⟩
   ·cases e
  | exc _ _ _=>cases e
end
theorem DZ {i j:Int}:decide (V.int i=V.int j)=decide (i=j):=by rw [K5];simp
theorem D0 {i j:Str}:decide (V.str i=V.str j)=decide (i=j):=by rw [K5];simp
theorem D2 {i j:Bool}:decide (V.bl i=V.bl j)=decide (i=j):=by rw [K5];simp
theorem w4 {r:R2} {neg:Bool} (ho:OpR X g r) (h1:∀ x y H Q,(ji x y=true/\Q (.bl (if neg then !decide (x=y) else decide (x=y))) H)->r x y H Q)
  (h2:∀ x y H Q,(∃ d e,DaV T.K H x d/\DaV T.K H y e/\d.canLay0=true/\e.canLay0=true/\d.depth<=60/\Q (.bl (if neg then !PyData.eqv d e else PyData.eqv d e)) H)->r x y H Q) :
  kf T (fun x y h=>match gZ x y h with | some b=>.ok (.bl (if neg then !b else b)) h | none=>.bad) r:=by
 intro ι h H x y u w E Q S rx ry p
 dsimp only at p
 cases hb:gZ x y h with
 | none=>rw [hb] at p;exact p.elim
 | some b =>
  rw [hb] at p
  dsimp only at p
  unfold gZ at hb
  split at hb
  ·cases hb
   rw [bA rx,bA ry]
   exact h1 _ _ _ _ ⟨rfl,by rw [DZ];exact p.now S (.bl _)⟩
  ·cases hb
   obtain ⟨rfl,_⟩:=dE rx
   obtain ⟨rfl,_⟩:=dE ry
   exact h1 _ _ _ _ ⟨rfl,by rw [D0];exact p.now S (.bl _)⟩
  ·cases hb
   rw [hG rx,hG ry]
   exact h1 _ _ _ _ ⟨rfl,by rw [D2];exact p.now S (.bl _)⟩
  ·cases hb
   rw [rM rx,rM ry]
   exact h1 _ _ _ _ ⟨rfl,by rw [show decide (V.non=V.non)=true from rfl];exact p.now S (.bl _)⟩
  ·split at hb
   ·rename_i d e e1 e2
    cases hb
    obtain ⟨q1,q2,q3⟩:=hU S 8 rx e1
    obtain ⟨q4,q5,q6⟩:=hU S 8 ry e2
    exact h2 _ _ _ _ ⟨d,e,q1,q4,q2,q5,by lia,p.now S (.bl _)⟩
   ·cases hb
theorem bP (hK:X.K=T.K) (hu:X.A.units+64<cLine):Op T X (compareOp .Eq) aQ :=
 ⟨_,op_eq.or (wJ hu),w4 (neg:=false) (op_eq.or (wJ hu)) (fun _ _ _ _ q=>.inl q) fun _ _ _ _ q=>.inr (hK▸q)⟩
theorem cC (hK:X.K=T.K) (hu:X.A.units+64<cLine):Op T X (compareOp .NotEq) bg :=
 ⟨_,op_ne.or (wK hu),w4 (neg:=true) (op_ne.or (wK hu)) (fun _ _ _ _ q=>.inl q) fun _ _ _ _ q=>.inr (hK▸q)⟩
theorem jz:Op T X (compareOp .Lt) lQ:=by
 refine ⟨_,op_lt.or Bo,fun ι h H x y u w E Q S rx ry p=>?_⟩
 unfold lQ at p
 split at p
 ·rw [bA rx,bA ry]
  exact .inl ⟨_,_,rfl,rfl,p.now S (.bl _)⟩
 ·obtain ⟨rfl,_⟩:=dE rx
  obtain ⟨rfl,_⟩:=dE ry
  exact .inr ⟨_,_,rfl,rfl,p.now S (.bl _)⟩
 ·exact p.elim
theorem dF:Op T X (compareOp .LtE) gb:=by
 refine ⟨_,op_le.or De,fun ι h H x y u w E Q S rx ry p=>?_⟩
 unfold gb at p
 split at p
 ·rw [bA rx,bA ry]
  exact .inl ⟨_,_,rfl,rfl,p.now S (.bl _)⟩
 ·obtain ⟨rfl,_⟩:=dE rx
  obtain ⟨rfl,_⟩:=dE ry
  exact .inr ⟨_,_,rfl,rfl,p.now S (.bl _)⟩
 ·exact p.elim
theorem fC:Op T X (compareOp .Gt) iM:=by
 refine ⟨_,Bm,fun ι h H x y u w E Q S rx ry p=>?_⟩
 unfold iM at p
 split at p
 ·rw [bA rx,bA ry]
  exact ⟨_,_,rfl,rfl,p.now S (.bl _)⟩
 ·exact p.elim
theorem rO:Op T X (compareOp .GtE) rH:=by
 refine ⟨_,Bn,fun ι h H x y u w E Q S rx ry p=>?_⟩
 unfold rH at p
 split at p
 ·rw [bA rx,bA ry]
  exact ⟨_,_,rfl,rfl,p.now S (.bl _)⟩
 ·exact p.elim
theorem ox {op:CmpOp} {f:F2} (ho:Op T X (compareOp op) f) (ha:aI T E X a sa) (hb:aI T E X b sb) (hm:behindInMarks op b=false):aI T E X (.Compare a [op] [b] pos) (ag f sa sb):=by
 obtain ⟨r,h1,h2⟩:=ho
 exact cq (Bp h1 ha hb hm) fun σ H Q q=>two h2 q
theorem bx {op:CmpOp} {f:F2} (ho:Op T X (compareOp op) f) (ha:aI T E X a sa) (hb:aI T E X b sb) (hm:behindInMarks op b=false):fJ T E X (.Compare a [op] [b] pos) (aU (ag f sa sb)):=by
 obtain ⟨r,h1,h2⟩:=ho
 refine rG (Br h1 ha hb hm) fun σ H Q q=>two (E:=E) (Q:=fun x H' => ∃ k,x=V.bl k/\Q k H') h2 ?_
 obtain ⟨ι,h,en,S,er,q⟩:=q
 refine ⟨ι,h,en,S,er,q.bind fun x h1 ι1 H1 u g1 S1 r1 q1=>?_⟩
 split at q1
 ·rw [hG r1]
  exact ⟨_,rfl,q1.now S1 rfl⟩
 ·exact q1.elim
theorem D3 {f f':F2} {r r':R2} (hs:kf T f r) (hs':kf T f' r') {σ:St} {H:Hp} {Q:VK} (q:tE T E (lT f f' sa sb sc) σ H Q):vO r r' (tE T E sa) (tE T E sb) (tE T E sc) σ H Q:=by
 obtain ⟨ι,h,en,S,er,q⟩:=q
 refine ⟨ι,h,en,S,er,q.bind fun x h1 ι1 H1 u g1 S1 r1 q1=>⟨ι1,h1,en,S1,er.mono g1,q1.bind fun y h2 ι2 H2 w g2 S2 r2 q2=>?_⟩⟩
 refine hs ι2 h2 H2 x y u w (E σ) _ S2 (r1.mono g2) r2 (q2.bind fun z h3 ι3 H3 k g3 S3 r3 q3=>?_)
 split at q3
 ·rename_i kk
  rw [hG r3]
  refine ⟨kk,rfl,?_⟩
  by_cases hkk:kk=true
  ·rw [JJ hkk] at q3 ⊢
   refine ⟨ι3,h3,en,S3,er.mono (g1.trans (g2.trans g3)),q3.bind fun v h4 ι4 H4 j g4 S4 r4 q4=>?_⟩
   exact hs' ι4 h4 H4 y v w j _ Q S4 (r2.mono (g3.trans g4)) r4 q4
  ·rw [JM hkk] at q3 ⊢
   exact q3.now S3 (.bl _)
 ·exact q3.elim
theorem rP {op op':CmpOp} {f f':F2} (ho:Op T X (compareOp op) f) (ho':Op T X (compareOp op') f') (ha:aI T E X a sa) (hb:aI T E X b sb) (hc:aI T E X c sc) (hm:lastMarks [op,op'] [b,c]=false:=by with_unfolding_all rfl) :
  aI T E X (.Compare a [op,op'] [b,c] pos) (lT f f' sa sb sc):=by
 obtain ⟨r,h1,h2⟩:=ho
 obtain ⟨r',h1',h2'⟩:=ho'
 exact cq (Bs h1 h1' ha hb hc hm) fun σ H Q q=>D3 h2 h2' q
theorem D4 {ι:Ix} {h:AH} {H:Hp} {v:AV} {u:V} {k:Bool} (S:Sim T ι h H) (r:RV T ι H v u) (e:ju v h=some k):jl T.K u H k:=by
 unfold ju at e
 cases r with
 | non=>cases e;rfl
 | bl b=>cases e;rfl
 | int b=>cases e;rfl
 | str n o=>cases e;exact ⟨n,rfl⟩
 | tup n q r=>cases e;exact .inr (.inl ⟨_,.of q,by cases r<;>rfl⟩)
 | fl n q r=>cases e;exact .inl ⟨_,.inl q,by cases r<;>rfl⟩
 | kfl q r=>cases e;exact .inl ⟨_,.inr q,by cases r<;>rfl⟩
 | @ref n a q =>
  dsimp only at e
  split at e
  ·rename_i xs hk
   cases e
   obtain ⟨u,e1,us,rfl,r⟩:=S.obj n _ a hk q
   exact .inl ⟨us,.inl (.inl e1),by cases r<;>rfl⟩
  ·rename_i xs hk
   cases e
   obtain ⟨u,e1,us,rfl,r⟩:=S.obj n _ a hk q
   exact .inr (.inr ⟨us,e1,by cases r<;>rfl⟩)
  ·cases e
 | exc _ _ _=>cases e
theorem hV (hK:X.K=T.K) (ha:aI T E X a sa) (he:∀ whole,isTrue a X.env whole=(do let v <- whole;standAt a.pos;holding [v] (truthy v)):=by intro _;rfl):fJ T E X a (gD sa) :=
 rG (Bv ha he) fun σ H Q ⟨ι,h,en,S,er,q⟩=>⟨ι,h,en,S,er,q.bind fun x h1 ι1 H1 u g1 S1 r1 q1=>by
  split at q1
  ·rename_i b hb
   exact ⟨b,hK▸D4 S1 r1 hb,q1.now S1 rfl⟩
  ·exact q1.elim⟩
variable {ca cb:SB} {rest:List Expr}
theorem iP (ha:fJ T E X a ca):fJ T E X (.UnaryOp .Not a pos) (dB ca) :=
 rG (Ay ha) fun σ H Q ⟨ι,h,en,S,er,q⟩=>⟨ι,h,en,S,er,q.bind fun x h1 ι1 H1 u g1 S1 r1 q1=>by subst r1;exact q1.now S1 rfl⟩
theorem hX (h:jr T E X a ca):fJ T E X a ca:=PW.pt h
theorem D5 (ha:fJ T E X a ca):jr T E X (.BoolOp .And [a] pos) ca:=Au ha
theorem rQ (ha:fJ T E X a ca):jr T E X (.BoolOp .Or [a] pos) ca:=Av ha
theorem D6 (ha:fJ T E X a ca) (hb:jr T E X (.BoolOp .And (b::rest) pos) cb):jr T E X (.BoolOp .And (a::b::rest) pos) (lR ca cb) :=
 wR (Aw ha hb) fun σ H Q ⟨ι,h,en,S,er,q⟩=>⟨ι,h,en,S,er,q.bind fun x h1 ι1 H1 u g1 S1 r1 q1=>by
  subst r1
  by_cases hx:x=true
  ·rw [JJ hx] at q1 ⊢
   exact ⟨ι1,h1,en,S1,er.mono g1,q1⟩
  ·rw [JM hx] at q1 ⊢
   exact q1.now S1 rfl⟩
theorem l9 (ha:fJ T E X a ca) (hb:jr T E X (.BoolOp .Or (b::rest) pos) cb):jr T E X (.BoolOp .Or (a::b::rest) pos) (j8 ca cb) :=
 wR (Ax ha hb) fun σ H Q ⟨ι,h,en,S,er,q⟩=>⟨ι,h,en,S,er,q.bind fun x h1 ι1 H1 u g1 S1 r1 q1=>by
  subst r1
  by_cases hx:x=true
  ·rw [JJ hx] at q1 ⊢
   exact q1.now S1 rfl
  ·rw [JM hx] at q1 ⊢
   exact ⟨ι1,h1,en,S1,er.mono g1,q1⟩⟩
theorem ki {op} (h:aI T E X a sa):aI T E X (.BoolOp op [a] pos) sa:=AB h
theorem mf (ha:aI T E X a sa) (hb:aI T E X (.BoolOp .And (b::rest) pos) sb):aI T E X (.BoolOp .And (a::b::rest) pos) (j9 sa sb) :=
 cq (AC ha hb) fun σ H Q ⟨ι,h,en,S,er,q⟩=>⟨ι,h,en,S,er,q.bind fun x h1 ι1 H1 u g1 S1 r1 q1=>by
  split at q1
  ·rename_i kk
   rw [hG r1]
   refine ⟨kk,rfl,?_⟩
   by_cases hkk:kk=true
   ·rw [JJ hkk] at q1 ⊢
    exact ⟨ι1,h1,en,S1,er.mono g1,q1⟩
   ·rw [JM hkk] at q1 ⊢
    exact q1.now S1 (.bl _)
  ·exact q1.elim⟩
theorem rR (ha:aI T E X a sa) (hb:aI T E X (.BoolOp .Or (b::rest) pos) sb):aI T E X (.BoolOp .Or (a::b::rest) pos) (lS sa sb) :=
 cq (AD ha hb) fun σ H Q ⟨ι,h,en,S,er,q⟩=>⟨ι,h,en,S,er,q.bind fun x h1 ι1 H1 u g1 S1 r1 q1=>by
  split at q1
  ·rename_i kk
   rw [hG r1]
   refine ⟨kk,rfl,?_⟩
   by_cases hkk:kk=true
   ·rw [JJ hkk] at q1 ⊢
    exact q1.now S1 (.bl _)
   ·rw [JM hkk] at q1 ⊢
    exact ⟨ι1,h1,en,S1,er.mono g1,q1⟩
  ·exact q1.elim⟩
theorem D7 (ha:aI T E X a sa):aI T E X (.UnaryOp .Not a pos) (wW sa) :=
 cq (AE ha) fun σ H Q ⟨ι,h,en,S,er,q⟩=>⟨ι,h,en,S,er,q.bind fun x h1 ι1 H1 u g1 S1 r1 q1=>by
  split at q1
  ·rw [hG r1]
   exact ⟨_,rfl,q1.now S1 (.bl _)⟩
  ·exact q1.elim⟩
variable {es:List Expr} {as:SL}
theorem aq:fK T E X [] ae:=wU qF fun σ H Q ⟨ι,h,en,S,er,q⟩=>q.now S .nil
theorem aj (ha:aI T E X a sa) (hr:fK T E X es as) (hs:starEach (a::es) X.env=(false,eval a X.env)::starEach es X.env:=by rfl):fK T E X (a::es) (ai sa as) :=
 wU (lC ha hr hs) fun σ H Q ⟨ι,h,en,S,er,q⟩=>⟨ι,h,en,S,er,q.bind fun x h1 ι1 H1 u g1 S1 r1 q1=>⟨ι1,h1,en,S1,er.mono g1,q1.bind fun xs h2 ι2 H2 us g2 S2 r2 q2=>q2.now S2 (.cons (r1.mono g2) r2)⟩⟩
theorem mh {k} (h:fK T E X es as):aI T E X (.Tuple es k pos) (fy as) :=
 cq (BP h) fun σ H Q ⟨ι,h,en,S,er,q⟩=>⟨ι,h,en,S,er,q.bind fun xs h1 ι1 H1 us g1 S1 r1 q1=>by
  split at q1
  ·rename_i hl
   exact ⟨by rw [<- r1.length];exact JK hl (by decide),fun p n=>rN S1 r1 n q1⟩
  ·exact q1.elim⟩
theorem kj (h:fK T E X es as):aI T E X (.List es pos) (bU as) :=
 cq (vS h) fun σ H Q ⟨ι,h,en,S,er,q⟩=>⟨ι,h,en,S,er,q.bind fun xs h1 ι1 H1 us g1 S1 r1 q1=>by
  split at q1
  ·rename_i hl
   exact ⟨by rw [<- r1.length];exact JK hl (by decide),fun p n=>jx S1 r1 n q1⟩
  ·exact q1.elim⟩
theorem eU (h:fK T E X es as):aI T E X (.List es pos) (cT as) :=
 cq (vS h) fun σ H Q ⟨ι,h,en,S,er,q⟩=>⟨ι,h,en,S,er,q.bind fun xs h1 ι1 H1 us g1 S1 r1 q1=>by
  split at q1
  ·rename_i hl
   exact ⟨by rw [<- r1.length];exact JK hl (by decide),fun p n=>ow S1 r1 n q1⟩
  ·exact q1.elim⟩
theorem D8:aI T E X (.Dict [] [] pos) (jt false) :=
 cq CO fun σ H Q ⟨ι,h,en,S,er,q⟩ p n=>q _ _ _ (S.growAdd n) (S.add n ⟨[],rfl,.nil⟩) (.ref S.addAt)
theorem Ea:aI T E X (.Dict [] [] pos) (jt true) :=
 cq CQ fun σ H Q ⟨ι,h,en,S,er,q⟩ p n=>q _ _ _ (S.growAdd n) (S.add n ⟨[],rfl,.nil⟩) (.ref S.addAt)
end
end Sm
namespace Sm
open PySem L2
section
variable {T:Tb} {E:St->XK} {X:Cx} {pos:Pos} {a b:Expr} {sa sb:SE} {ca:SB} {st:Stmt} {sts ss1 ss2:List Stmt} {s1 s2:SS}
theorem bM:cH T E X [] bJ:=wV AG fun D σ H ⟨ι,h,en,S,er,q⟩=>q ι H σ S.refl S er
theorem ax (h1:eP T E X st s1) (h2:cH T E X sts s2):cH T E X (st::sts) (ak s1 s2) :=
 wV (AI h1 h2) fun D σ H ⟨ι,h,en,S,er,q⟩=>by
  refine ⟨ι,h,en,S,er,?_⟩
  unfold ak at q
  cases e:s1 en h with
  | nx e1 h1 =>
   rw [e] at q
   exact fun ι' H' σ' g S' er' => ⟨ι',h1,e1,S',er',q.shift g⟩
  | rt v h1=>rw [e] at q;exact q
  | bk e1 h1=>rw [e] at q;exact q
  | ct e1 h1=>rw [e] at q;exact q
  | ex c e1 h1=>rw [e] at q;exact q
  | bad=>rw [e] at q;exact q
theorem aF (h1:eP T E X st s1):cH T E X [st] s1:=AJ h1
theorem bT (ha:aI T E X a sa) (hs:swapsWith a none pos.line X.env=pure false:=by rfl):eP T E X (.Expr a pos) (bR sa) :=
 fv (AL ha hs) fun D σ H ⟨ι,h,en,S,er,q⟩=>⟨ι,h,en,S,er,q.go er fun v h1 ι1 H1 u g1 S1 r1 q1=>q1 ι1 H1 σ S1.refl S1 (er.mono g1)⟩
theorem aR (ha:aI T E X a sa):eP T E X (.Return (some a) pos) (aB sa) :=
 fv (AM ha) fun D σ H ⟨ι,h,en,S,er,q⟩=>⟨ι,h,en,S,er,q.go er fun v h1 ι1 H1 u g1 S1 r1 q1=>q1 ι1 H1 u S1.refl S1 r1⟩
theorem aJ (hc:fJ T E X a ca) (h1:cH T E X ss1 s1) (h2:cH T E X ss2 s2):eP T E X (.If a ss1 ss2 pos) (bt ca s1 s2) :=
 fv (AN hc h1 h2) fun D σ H ⟨ι,h,en,S,er,q⟩=>⟨ι,h,en,S,er,q.go er fun x h1 ι1 H1 u g1 S1 r1 q1=>by
  subst r1
  by_cases hx:x=true
  ·rw [JJ hx] at q1 ⊢
   exact ⟨ι1,h1,en,S1,er.mono g1,q1⟩
  ·rw [JM hx] at q1 ⊢
   exact ⟨ι1,h1,en,S1,er.mono g1,q1⟩⟩
theorem rS {σ:St} {H:Hp} {D:cM} {i:Nat} (q:tS T E (aw i sa) D σ H):gS (tE T E sa) (nU i) D σ H:=by
 obtain ⟨ι,h,en,S,er,q⟩:=q
 exact ⟨ι,h,en,S,er,q.go er fun v h1 ι1 H1 u g1 S1 r1 q1=>q1 ι1 H1 _ S1.refl S1 ((er.mono g1).set r1 i)⟩
theorem aN {i:Nat} {x:Str} {p':Pos} (hN:X.N.Nodup) (ha:aI T E X a sa) (hi:X.N[i]? = some x:=by rfl) (hx:iI X.env.scope x:=by first | exact Or.inl rfl | exact Or.inr rfl) (hs:swapsWith a (some (.Name x p')) pos.line X.env=pure false:=by rfl)
  (hf:X.fn x=true\/X.env.scope.names.lookup x=some .local:=by first | exact .inl rfl | exact .inr rfl | assumption):eP T E X (.Assign [.Name x p'] a pos) (aw i sa) :=
 fv (AY hN hi hx ha hs hf) fun D σ H q=>rS q
theorem rT (n:Nat) (hc:fJ T EN X.nox a ca) (hb:cH T EN X.nox sts s1):eP T E X (.While a sts [] pos) (du ca s1 n) :=
 fv (oq (A0 PassesOwn.never hc hb)) fun D σ H ⟨ι,h,en,S,er,q⟩=>by
  refine ⟨fun m σ H=>∃ ι h en,Sim T ι h H/\ER T ι H en σ/\PostS T ι H E (du ca s1 m en h) D,⟨n,ι,h,en,S,er,q⟩,?_⟩
  rintro m σ H ⟨ι,h,en,S,er,q⟩
  cases m with
  | zero=>exact (show False from q).elim
  | succ m =>
   unfold du at q
   refine ⟨ι,h,en,S,er,?_⟩
   cases e:ca en h with
   | bad=>rw [e] at q;exact q
   | ex c h1=>rw [e] at q;exact (show False from q).elim
   | ok x h1 =>
    rw [e] at q
    intro ι1 H1 u g1 S1 r1
    subst r1
    have q1:=PostS.shift q g1
    cases x with
    | true =>
     rw [JJ rfl]
     refine ⟨fun σ H=>∃ ι h en,Sim T ι h H/\ER T ι H en σ/\PostS T ι H E (du ca s1 m en h) D,fun σ' H' w=>⟨m,Nh m,w⟩,ι1,h1,en,S1,er.mono g1,?_⟩
     dsimp only at q1
     cases e2:s1 en h1 with
     | nx e3 h3=>rw [e2] at q1;exact fun ι2 H2 σ2 g2 S2 er2=>⟨ι2,h3,e3,S2,er2,q1.shift g2⟩
     | ct e3 h3=>rw [e2] at q1;exact fun ι2 H2 σ2 g2 S2 er2=>⟨ι2,h3,e3,S2,er2,q1.shift g2⟩
     | bk e3 h3=>rw [e2] at q1;exact q1
     | rt v h3=>rw [e2] at q1;exact q1
     | ex c e3 h3=>rw [e2] at q1;exact (show False from q1).elim
     | bad=>rw [e2] at q1;exact q1
    | false =>
     rw [JM JZ]
     exact q1 ι1 H1 σ S1.refl S1 (er.mono g1)
theorem w6 {ι:Ix} {H:Hp}:∀ {is:List Nat} {xs:List AV} {us:List V} {en e:En} {σ:St},RVs T ι H xs us->ER T ι H en σ->ot is xs en=some e->ER T ι H e ((is.zip us).foldl (fun σ p=>σ.set p.1 (some p.2)) σ)/\us.length=is.length
 | [],_,_,en,e,σ,.nil,er,q=>by cases q;exact ⟨er,rfl⟩
 | i::is,_,_,en,e,σ,.cons r rs,er,q=>by
  obtain ⟨h1,h2⟩:=w6 (is:=is) rs (er.set r i) q
  exact ⟨h1,by simp [h2]⟩
 | [],_,_,en,e,σ,.cons r rs,er,q=>by cases q
 | i::is,_,_,en,e,σ,.nil,er,q=>by cases q
def mn (T:Tb) (X:Cx) (tg:Expr) (t:Tg):Prop:=∃ g,PG X tg g/\∀ {ι:Ix} {h:AH} {H:Hp} {en e:En} {σ:St} {v:AV} {u:V} {Q:St->Hp->Prop},Sim T ι h H->ER T ι H en σ->RV T ι H v u->df t v en=some e ->
 (∀ σ',ER T ι H e σ'->Q σ' H)->g u σ H Q
theorem gh {i:Nat} {x:Str} (hN:X.N.Nodup) (hi:X.N[i]? = some x:=by rfl) (hx:iI X.env.scope x:=by first | exact Or.inl rfl | exact Or.inr rfl) (hf:X.fn x=true\/X.env.scope.names.lookup x=some .local:=by first | exact .inl rfl | exact .inr rfl | assumption) :
  mn T X (.Name x pos) (.nm i):=⟨_,vH hN hi hx hf,fun S er r e k=>by cases e;exact k _ (er.set r i)⟩
def h9 (X:Cx) (es:List Expr) (is:List Nat):Prop:=je X es (fun vs σ H Q=>vs.length=is.length/\Q ((is.zip vs).foldl (fun σ p=>σ.set p.1 (some p.2)) σ) H)
theorem xf {X:Cx} {es:List Expr} {t t':iJ} (h:je X es t) (k:∀ vs σ H Q,t' vs σ H Q->t vs σ H Q):je X es t' := fun pins s σ H vs us Q I r q=>h pins s σ H vs us Q I r (k vs σ H Q q)
theorem Eb:h9 X [] []:=xf AR fun vs σ H Q ⟨l,q⟩=>by
 cases vs with
 | nil=>exact ⟨rfl,q⟩
 | cons=>cases l
theorem xg {i:Nat} {is:List Nat} {x:Str} {p:Pos} {es:List Expr} (hN:X.N.Nodup) (hr:h9 X es is) (hi:X.N[i]? = some x:=by rfl) (hx:iI X.env.scope x:=by first | exact Or.inl rfl | exact Or.inr rfl)
  (hf:X.fn x=true\/X.env.scope.names.lookup x=some .local:=by first | exact .inl rfl | exact .inr rfl | assumption) (hs:(assignEach (.Name x p::es) X.env).map (·.2)=assign (.Name x p) X.env::(assignEach es X.env).map (·.2):=by rfl):h9 X (.Name x p::es) (i::is) :=
 xf (AS (vH hN hi hx hf) hr hs) fun vs σ H Q ⟨l,q⟩=>by
  cases vs with
  | nil=>cases l
  | cons v r=>exact ⟨v,r,rfl,Nat.succ.inj l,q⟩
theorem Ec {es:List Expr} {is:List Nat} {k:Nat} (hK:X.K=T.K) (hc:X.calm=true) (h:h9 X es is) (hn:(assignEach es X.env).length=is.length:=by rfl) (hst:(assignEach es X.env).findIdx? (·.1)=none:=by rfl):mn T X (.Tuple es k pos) (.tup is) :=
 ⟨_,AU hc h hn hst,fun {ι h H en e σ v u Q} S er r q k=>by
  unfold df at q
  split at q
  ·rename_i hh;cases hh
  ·rename_i hh
   cases hh
   obtain ⟨a,us,rfl,q1,r1⟩:=hE r
   obtain ⟨h1,h2⟩:=w6 r1 er q
   exact ⟨a,us,rfl,hK▸q1,h2,h2,k _ h1⟩
  ·rename_i hh;cases hh
  ·cases q⟩
structure gF (T:Tb) (J:It) (ι:Ix) (H:Hp) (xs:List AV) (w:Option Nat):Prop where
 go:∀ (i:Nat) (ι':Ix) (h':AH) (H':Hp) (x:AV),Ext ι H ι' H'->Sim T ι' h' H'->bV w xs h'=true->xs[i]? = some x->J.go i H'/\∀ u H2,J.yld i H' u H2->Grow ι' H' ι' H2/\Sim T ι' h' H2/\RV T ι' H2 x u
 stop:∀ (i:Nat) (ι':Ix) (h':AH) (H':Hp),Ext ι H ι' H'->Sim T ι' h' H'->bV w xs h'=true->xs.length<=i->J.stop i H'
def tI (T:Tb) (it:SI):TI:=fun σ H R=>∃ ι h en,Sim T ι h H/\ER T ι H en σ/\match it en h with
 | .ok (xs,w) h' => ∀ ι' H' J,Grow ι H ι' H'->Sim T ι' h' H'->gF T J ι' H' xs w->R J H'
 | _=>False
abbrev gG (T:Tb) (X:Cx) (tg iter:Expr) (it:SI):Prop:=PI X tg iter (tI T it)
theorem km {X:Cx} {tg iter:Expr} {t t':TI} (h:PI X tg iter t) (k:∀ σ H R,t' σ H R->t σ H R):PI X tg iter t' := fun pins s σ H R I q=>h pins s σ H R I (k σ H R q)
theorem PI.or {X:Cx} {tg iter:Expr} {t t':TI} (h:PI X tg iter t) (h':PI X tg iter t'):PI X tg iter (fun σ H R=>t σ H R\/t' σ H R):=fun pins s σ H R I q=>q.elim (h pins s σ H R I) (h' pins s σ H R I)
theorem xh {ι:Ix} {H:Hp} {a:Addr} {us:List V} {xs:List AV} {K:PySem.W.Frag} (keep:∀ (ι':Ix) (H':Hp),Ext ι H ι' H'->SqL K H' a us) (r:RVs T ι H xs us):gF T (nW K a) ι H xs none:=by
 constructor
 ·intro i ι' h' H' x g S _ e
  obtain ⟨u,e1,r1⟩:=(r.ext g).get e
  refine ⟨⟨us,u,keep ι' H' g,e1⟩,?_⟩
  rintro u2 H2 ⟨rfl,y⟩
  have z:=y us (keep ι' _ g)
  rw [e1] at z;cases z
  exact ⟨S.refl,S,r1⟩
 ·intro i ι' h' H' g S _ hl
  exact ⟨us,keep ι' H' g,by rw [<- r.length];exact hl⟩
theorem Ed {ι:Ix} {H:Hp} {a:Addr} {us:List V} {xs:List AV} {K:PySem.W.Frag} (keep:∀ (ι':Ix) (H':Hp),Ext ι H ι' H'->SqT K H' a us) (r:RVs T ι H xs us):gF T (qv K a) ι H xs none:=by
 constructor
 ·intro i ι' h' H' x g S _ e
  obtain ⟨u,e1,r1⟩:=(r.ext g).get e
  refine ⟨⟨us,u,keep ι' H' g,e1⟩,?_⟩
  rintro u2 H2 ⟨rfl,y⟩
  have z:=y us (keep ι' _ g)
  rw [e1] at z;cases z
  exact ⟨S.refl,S,r1⟩
 ·intro i ι' h' H' g S _ hl
  exact ⟨us,keep ι' H' g,by rw [<- r.length];exact hl⟩
theorem Ee {ι:Ix} {H:Hp} {a:Addr} {n:Nat} {xs:List AV} {K:PySem.W.Frag} (e:ι.refs[n]? = some a):gF T (nW K a) ι H xs (some n):=by
 have at_:∀ {ι':Ix} {h':AH} {H':Hp},Ext ι H ι' H'->Sim T ι' h' H'->bV (some n) xs h'=true->∃ us,H' a=some (.lst us)/\RVs T ι' H' xs us:=fun {ι' h' H'} g S l=>by
  unfold bV at l
  dsimp only at l
  split at l
  ·rename_i ys hy
   have z:=Mw l
   subst z
   obtain ⟨u,e1,us,rfl,r⟩:=S.obj n _ a hy (g.at_ e)
   exact ⟨us,e1,r⟩
  ·cases l
 constructor
 ·intro i ι' h' H' x g S l e
  obtain ⟨us,e0,r⟩:=at_ g S l
  obtain ⟨u,e1,r1⟩:=r.get e
  refine ⟨⟨us,u,.of e0,e1⟩,?_⟩
  rintro u2 H2 ⟨rfl,y⟩
  have z:=y us (.of e0)
  rw [e1] at z;cases z
  exact ⟨S.refl,S,r1⟩
 ·intro i ι' h' H' g S l hl
  obtain ⟨us,e0,r⟩:=at_ g S l
  exact ⟨us,.of e0,by rw [<- r.length];exact hl⟩
theorem Ef {ι:Ix} {H:Hp} {x:Str} (o:x.cps.all (· < 0x110000)=true):gF T (qX x) ι H (x.cps.toList.map fun c=>.str ⟨#[c]⟩) none:=by
 constructor
 ·intro i ι' h' H' y g S _ e
  rw [Kh] at e
  obtain ⟨c,e1,rfl⟩:=J3.mp e
  have hi:i<x.cps.size:=by
   have:=(JD.mp e1).1
   simpa using this
  refine ⟨hi,?_⟩
  rintro u H2 ⟨rfl,c',e2,rfl⟩
  have z:x.cps[i]? = some c:=by simpa using e1
  rw [e2] at z;cases z
  refine ⟨S.refl,S,.str (show 1<=sizeLine by decide) ?_⟩
  have m:=Array.mem_of_getElem? e2
  have:=Ln.mp o _ m
  simpa using this
 ·intro i ι' h' H' g S _ hl
  show x.cps.size<=i
  simpa using hl
theorem Eg (n:Nat):∀ (lo:Int) (i:Nat),(bO lo n)[i]? = if i<n then some (.int (lo+i)) else none:=by
 induction n with
 | zero=>intro lo i;simp [bO]
 | succ n ih =>
  intro lo i
  cases i with
  | zero=>simp [bO]
  | succ i =>
   show (bO (lo+1) n)[i]? = _
   rw [ih]
   by_cases h:i<n
   ·rw [JJ h,JJ (by lia)]
    congr 2
    show lo+1+(i:Int)=lo+((i+1:Nat):Int)
    lia
   ·rw [JM h,JM (by lia)]
theorem Eh (n:Nat):∀ lo:Int,(bO lo n).length=n:=by
 induction n with
 | zero=>intro lo;rfl
 | succ n ih=>intro lo;show (bO (lo+1) n).length+1=n+1;rw [ih]
theorem xj {ι:Ix} {H:Hp} {lo:Int} {n:Nat}:gF T (lj lo n) ι H (bO lo n) none:=by
 constructor
 ·intro i ι' h' H' y g S _ e
  rw [Eg] at e
  split at e
  ·rename_i hi
   cases e
   refine ⟨hi,?_⟩
   rintro u H2 ⟨rfl,rfl⟩
   exact ⟨S.refl,S,.int _⟩
  ·cases e
 ·intro i ι' h' H' g S _ hl
  rw [Eh] at hl
  exact hl
theorem rV {ι:Ix} {H:Hp} {a:Addr} {us:List V} (n:a∉ι.all) (h:Rd H a (.lst us)):∀ (ι':Ix) (H':Hp),Ext ι H ι' H'->SqL T.K H' a us:=fun _ _ g=>.inl (wQ g n h)
theorem Ei {ι:Ix} {H:Hp} {a:Addr} {us:List V} (n:a∉ι.all) (h:H a=some (.tup us)):∀ (ι':Ix) (H':Hp),Ext ι H ι' H'->SqT T.K H' a us:=fun _ _ g=>.of (g.keep _ _ n h)
theorem ko {K K':PySem.W.Frag} {H:Hp} {a:Addr} {us:List V} (e:K=K') (h:SqL K' H a us):SqL K H a us:=e▸h
theorem xk {σ:St} {H:Hp} {R:It->Hp->Prop} {ι:Ix} {h h1:AH} {en:En} {v:AV} {xs:List AV} {w:Option Nat} (hK:X.K=T.K) (S:Sim T ι h H) (er:ER T ι H en σ) (e:sa en h = .ok v h1) (hv:(v = .fl xs/\w=none)\/∃ n,v = .ref n/\h1[n]? = some (.lst xs)/\w=some n)
  (q:∀ ι' H' J,Grow ι H ι' H'->Sim T ι' h1 H'->gF T J ι' H' xs w->R J H'):vI X.K (tE T E sa) σ H R:=by
 refine ⟨ι,h,en,S,er,?_⟩
 rw [e]
 intro ι1 H1 u g1 S1 r1
 rcases hv with ⟨rfl,rfl⟩ | ⟨n,rfl,hn,rfl⟩
 ·cases r1 with
  | fl n hr rs=>exact ⟨_,rfl,⟨_,ko hK (.inl hr)⟩,q ι1 H1 _ g1 S1 (hK▸xh (rV n hr) rs)⟩
  | kfl hr rs=>exact ⟨_,rfl,⟨_,ko hK (.inr hr)⟩,q ι1 H1 _ g1 S1 (hK▸xh (fun _ _ _=>.inr hr) rs)⟩
 ·cases r1 with
  | ref hr =>
   obtain ⟨u,e1,us,rfl,rs⟩:=S1.obj n _ _ hn hr
   exact ⟨_,rfl,⟨_,.of e1⟩,q ι1 H1 _ g1 S1 (Ee hr)⟩
theorem Ej {σ:St} {H:Hp} {R:It->Hp->Prop} {ι:Ix} {h h1:AH} {en:En} {xs:List AV} (hK:X.K=T.K) (S:Sim T ι h H) (er:ER T ι H en σ) (e:sa en h = .ok (.tup xs) h1)
  (q:∀ ι' H' J,Grow ι H ι' H'->Sim T ι' h1 H'->gF T J ι' H' xs none->R J H'):lq X.K (tE T E sa) σ H R:=by
 refine ⟨ι,h,en,S,er,?_⟩
 rw [e]
 intro ι1 H1 u g1 S1 r1
 cases r1 with
 | tup n hr rs=>exact ⟨_,rfl,⟨_,.of hr⟩,q ι1 H1 _ g1 S1 (hK▸Ed (Ei n hr) rs)⟩
theorem jA {y:Str} {py:Pos} (hK:X.K=T.K) (ha:aI T E X a sa):gG T X (.Name y py) a (bu sa) :=
 km (PI.or (A4 ha) (PI.or (A5 ha) (C6 ha))) fun σ H R ⟨ι,h,en,S,er,q⟩=>by
  unfold bu at q
  cases e:sa en h with
  | bad=>rw [e] at q;exact q.elim
  | ex c h1=>rw [e] at q;exact q.elim
  | ok v h1 =>
   rw [e] at q
   cases v with
   | fl xs=>exact .inl (xk hK S er e (.inl ⟨rfl,rfl⟩) q)
   | tup xs=>exact .inr (.inl (Ej hK S er e q))
   | str z =>
    refine .inr (.inr ⟨ι,h,en,S,er,?_⟩)
    rw [e]
    intro ι1 H1 u g1 S1 r1
    obtain ⟨rfl,_,o⟩:=dE r1
    exact ⟨_,rfl,q ι1 H1 _ g1 S1 (Ef o)⟩
   | ref n =>
    dsimp only [Out.bind] at q
    cases e2:h1[n]? with
    | none=>rw [e2] at q;exact q.elim
    | some o =>
     rw [e2] at q
     cases o with
     | lst xs=>exact .inl (xk hK S er e (.inr ⟨n,rfl,e2,rfl⟩) q)
     | _=>exact q.elim
   | _=>exact q.elim
theorem mq {tg:Expr} {p:Pos} (hg:Gl X "range") (hm:X.mg "range" = none) (ha:aI T E X a sa) (hs:starEach [a] X.env=[(false,eval a X.env)]:=by rfl):gG T X tg (.Call (.Name "range" p) [a] [] pos) (eG sa) :=
 km (A8 hg hm (aj ha aq hs) hs) fun σ H R ⟨ι,h,en,S,er,q⟩=>by
  unfold eG at q
  refine ⟨ι,h,en,S,er,?_⟩
  unfold ai
  cases e:sa en h with
  | bad=>rw [e] at q;exact q
  | ex c h1=>rw [e] at q;exact q.elim
  | ok v h1 =>
   rw [e] at q
   intro ι1 H1 u g1 S1 r1
   dsimp only [Out.bind] at q
   cases v with
   | int j =>
    dsimp only at q
    split at q
    ·rename_i hx
     split at hx
     ·rename_i hb
      cases hx
      cases r1 with
      | cons r r' =>
       cases r'
       rw [bA r]
       exact ⟨j,rfl,by omega,by omega,q ι1 H1 _ g1 S1 xj⟩
     ·cases hx
    ·exact q.elim
   | _=>exact q.elim
theorem rW {tg:Expr} {p:Pos} (hg:Gl X "range") (hm:X.mg "range" = none) (ha:aI T E X a sa) (hb:aI T E X b sb) (hs:starEach [a,b] X.env=[(false,eval a X.env),(false,eval b X.env)]:=by rfl) (hs2:starEach [b] X.env=[(false,eval b X.env)]:=by rfl) :
  gG T X tg (.Call (.Name "range" p) [a,b] [] pos) (fB sa sb) :=
 km (A9 hg hm (aj ha (aj hb aq hs2) (by rw [hs,hs2])) hs hs2) fun σ H R ⟨ι,h,en,S,er,q⟩=>by
  unfold fB at q
  refine ⟨ι,h,en,S,er,?_⟩
  unfold ai
  cases e:sa en h with
  | bad=>rw [e] at q;exact q
  | ex c h1=>rw [e] at q;exact q.elim
  | ok v h1 =>
   rw [e] at q
   dsimp only [Out.bind] at q ⊢
   cases e':sb en h1 with
   | bad=>rw [e'] at q;exact q
   | ex c h1=>rw [e'] at q;exact q.elim
   | ok v' h2 =>
    rw [e'] at q
    dsimp only at q
    intro ι1 H1 u g1 S1 r1
    split at q
    ·rename_i hx
     split at hx
     ·split at hx
      ·rename_i hb
       cases hx
       cases r1 with
       | cons r r' =>
        cases r' with
        | cons r2 r3 =>
         cases r3
         rw [bA r,bA r2]
         exact ⟨_,_,rfl,by omega,q ι1 H1 _ g1 S1 xj⟩
      ·cases hx
     ·cases hx
    ·exact q.elim
theorem oy {α:Type} {xs:List α} {i:Nat} (h:i<xs.length):xs.drop i=xs[i]::xs.drop (i+1):=by simp
theorem gH {tg iter:Expr} {it:SI} {t:Tg} (hc:X.calm=true) (hi:gG T X.nox tg iter it) (hg:mn T X.nox tg t) (hb:cH T EN X.nox sts s1) (hs:∀ x,foldedSetIterable iter X.nox.env x=pure x:=by intro _;rfl) :
  eP T E X (.For tg iter sts [] pos) (bh it t s1):=by
 obtain ⟨g,hg1,hg2⟩:=hg
 refine fv (oq (qx PassesOwn.never hc hi hg1 hb hs)) fun D σ H ⟨ι,h,en,S,er,q⟩=>⟨ι,h,en,S,er,?_⟩
 unfold bh at q
 cases e:it en h with
 | bad=>rw [e] at q;exact q
 | ex c h1=>rw [e] at q;exact q
 | ok p h1 =>
  obtain ⟨xs,w⟩:=p
  rw [e] at q
  intro ι1 H1 J g1 S1 IR
  refine ⟨fun i m σ H=>m=xs.length-i/\i<=xs.length/\∃ ι' h' en',Grow ι1 H1 ι' H/\Sim T ι' h' H/\ER T ι' H en' σ/\PostS T ι' H E (cQ w xs t s1 (xs.drop i) en' h') D,
   ⟨xs.length,by simp,Kk _,ι1,h1,en,S1.refl,S1,er.mono g1,PostS.shift q g1⟩,?_⟩
  rintro i m σ H ⟨rfl,hi,ι',h',en',g',S',er',q'⟩
  by_cases hl:i<xs.length
  ·rw [oy hl] at q'
   unfold cQ at q'
   split at q'
   ·rename_i hlive
    obtain ⟨go,yld⟩:=IR.go i ι' h' H xs[i] g'.ext S' hlive (by simp [hl])
    refine .inr ⟨go,fun σ H=>∃ ι' h' en',Grow ι1 H1 ι' H/\Sim T ι' h' H/\ER T ι' H en' σ/\PostS T ι' H E (cQ w xs t s1 (xs.drop (i+1)) en' h') D,
     fun σ' H' w' => ⟨xs.length-(i+1),by omega,rfl,hl,w'⟩,fun x H' y=>?_⟩
    obtain ⟨g2,S2,r2⟩:=yld x H' y
    split at q'
    ·rename_i e1 he1
     refine hg2 S2 (er'.mono g2) r2 he1 fun σ' er2=>⟨ι',h',e1,S2,er2,?_⟩
     have q2:=PostS.shift q' g2
     cases e2:s1 e1 h' with
     | nx e3 h3=>rw [e2] at q2;exact fun ι3 H3 σ3 g3 S3 er3=>⟨ι3,h3,e3,g'.trans (g2.trans g3),S3,er3,q2.shift g3⟩
     | ct e3 h3=>rw [e2] at q2;exact fun ι3 H3 σ3 g3 S3 er3=>⟨ι3,h3,e3,g'.trans (g2.trans g3),S3,er3,q2.shift g3⟩
     | bk e3 h3=>rw [e2] at q2;exact q2
     | rt v h3=>rw [e2] at q2;exact q2
     | ex c e3 h3=>rw [e2] at q2;exact (show False from q2).elim
     | bad=>rw [e2] at q2;exact q2
    ·exact (show False from q').elim
   ·exact (show False from q').elim
  ·have ei:i=xs.length:=by lia
   subst ei
   rw [L6] at q'
   unfold cQ at q'
   split at q'
   ·rename_i hlive
    exact .inl ⟨IR.stop _ ι' h' H g'.ext S' hlive (JE _),q' ι' H σ S'.refl S' er'⟩
   ·exact (show False from q').elim
theorem ER.comp {ι:Ix} {H:Hp} {en:En} {σ:St} {x:AV} {u:V} {jf:List (Nat×Str)} (er:ER T ι H en σ) (r:RV T ι H x u):ER T ι H (some x::(jf.map (·.1)).map fun j=>(en[j]?).join) (eF (some u) jf σ):=by
 refine ⟨by simp [eF],fun i v e=>?_⟩
 cases i with
 | zero=>simp at e;subst e;exact ⟨u,rfl,r⟩
 | succ i =>
  simp only [K0,Kh] at e
  unfold eF
  simp only [K0,Kh]
  cases e1:jf[i]? with
  | none=>rw [e1] at e;cases e
  | some j =>
   rw [e1] at e
   simp only [Option.map_some,Option.some.injEq] at e
   have e2:en[j.1]? = some (some v):=by
    cases e3:en[j.1]? with
    | none=>rw [e3] at e;cases e
    | some o=>rw [e3] at e;exact congrArg some e
   obtain ⟨u',e4,r'⟩:=er.2 j.1 v e2
   exact ⟨u',by simp [e4],r'⟩
theorem xm {jf:List (Nat×Str)} {it:SI} {cc:SB} {ce:SE} {σ:St} {H:Hp} {Q:VK} {ι:Ix} {h:AH} {en:En} (S:Sim T ι h H) (er:ER T ι H en σ)
  (q:match it en h with | .ok (xs,w) h1=>(match cY (jf.map (·.1)) en w xs cc ce xs [] h1 with | .ok ys h2=>∀ ι' H' D vs,Grow ι H ι' H'->Sim T (ι'.hide D) h2 H'->RVs T (ι'.hide D) H' ys vs->H' D=some (.lst vs)->D∉ι'.all->(∀ n,ι'.refs=ι.refs++n->∀ a∈n++[D],H a=none)->Q (.ref D) H' | _=>False) | _=>False) :
  j7 jf (tI T it) (tT T EN cc) (tE T EN ce) σ H Q:=by
 refine ⟨ι,h,en,S,er,?_⟩
 cases e:it en h with
 | bad=>rw [e] at q;exact q
 | ex c h1=>rw [e] at q;exact q
 | ok p h1 =>
  obtain ⟨xs,w⟩:=p
  rw [e] at q
  dsimp only at q
  intro ι1 H1 J g1 S1 IR D hD
  refine ⟨fun i m ys H2=>m=xs.length-i/\i<=xs.length/\H2 D=some (.lst ys)/\∃ ι' h' vs,Grow ι1 H1 ι' H2/\Ext ι1 H1 (ι'.hide D) H2/\Sim T (ι'.hide D) h' H2/\ER T (ι'.hide D) H2 en σ/\RVs T (ι'.hide D) H2 vs ys/\D∉ι'.refs /\
   (match cY (jf.map (·.1)) en w xs cc ce (xs.drop i) vs h' with | .ok ys h2=>∀ ι' H' D vs,Grow ι H ι' H'->Sim T (ι'.hide D) h2 H'->RVs T (ι'.hide D) H' ys vs->H' D=some (.lst vs)->D∉ι'.all->(∀ n,ι'.refs=ι.refs++n->∀ a∈n++[D],H a=none)->Q (.ref D) H' | _=>False),?_,?_⟩
  ·exact ⟨xs.length,by simp,Kk _,dQ,ι1,h1,[],S1.growNew hD,Ext.hide hD,S1.hide hD,(er.mono g1).ext (Ext.hide hD),.nil,fun z=>S1.fresh hD (JN _ z),q⟩
  ·rintro i m ys H2 ⟨rfl,hi,hH2,ι',h',vs,g',x',S',er',rv',nD',q'⟩
   refine ⟨hH2,?_⟩
   by_cases hl:i<xs.length
   ·rw [oy hl] at q'
    unfold cY at q'
    by_cases hs:bV w xs h'=true/\vs.length<sizeLine
    ·rw [JJ hs] at q'
     obtain ⟨jX,hs2⟩:=hs
     obtain ⟨go,yld⟩:=IR.go i _ h' H2 xs[i] x' S' jX (by simp [hl])
     refine .inr ⟨go,by rw [<- rv'.length];exact hs2,fun x H3 y=>?_⟩
     obtain ⟨g3,S3,r3⟩:=yld x H3 y
     have er3:=er'.mono g3
     refine ⟨ι'.hide D,h',_,S3,ER.comp er3 r3,?_⟩
     cases ec:cc (some xs[i]::(jf.map (·.1)).map fun j=>(en[j]?).join) h' with
     | bad=>rw [ec] at q';exact q'
     | ex c h5=>rw [ec] at q';exact q'.elim
     | ok bb h5 =>
      rw [ec] at q'
      intro ι5 H5 b5 g5 S5 r5
      subst r5
      have g35:=g3.trans g5
      have hD5:H5 D=some (.lst ys):=g35.keep D _ nD' hH2
      have eι:ι5=Ix.hide ⟨ι5.refs,ι'.priv⟩ D:=by
       have:=g5.priv
       cases ι5
       simp only at this
       subst this
       rfl
      have nD5:D∉ι5.refs:=g35.outR nD' hH2
      have gG5:Grow ι1 H1 ⟨ι5.refs,ι'.priv⟩ H5:=by
       obtain ⟨n,en1,hn⟩:=g'.pre
       obtain ⟨k,ek,hk⟩:=g35.pre
       refine ⟨⟨n++k,?_,fun a ha=>?_⟩,g'.priv,fun a o na ea=>?_,fun a ha=>?_⟩
       ·show ι5.refs=_;rw [ek];show ι'.refs++k=_;rw [en1];simp
       ·rcases JQ.mp ha with z | z
        ·exact hn a z
        ·have z2:=hk a z
         by_cases hr:a∈ι1.refs
         ·exact absurd z2 (g'.live a (JN _ hr))
         ·cases e9:H1 a with
          | none=>rfl
          | some o=>rw [g'.keep a o hr e9] at z2;cases z2
       ·exact g35.keep a o (g'.outR na ea) (g'.keep a o na ea)
       ·have:a∈(ι'.hide D).all:=by
         rcases JQ.mp ha with z | z
         ·exact JN _ (by show a∈ι'.refs;rw [en1];exact JN _ z)
         ·exact JW _ (J7 _ (by rw [g'.priv];exact z))
        exact g35.live a this
      have x5:Ext ι1 H1 (Ix.hide ⟨ι5.refs,ι'.priv⟩ D) H5:=eι▸x'.trans g35.ext
      have er5:=er3.mono g5
      have rv5:=(rv'.mono g35)
      cases bb with
      | false =>
       rw [JM JZ]
       refine ⟨xs.length-(i+1),by omega,rfl,hl,hD5,⟨ι5.refs,ι'.priv⟩,h5,vs,gG5,x5,eι▸S5,eι▸er5,eι▸rv5,nD5,q'⟩
      | true =>
       rw [JJ rfl]
       refine ⟨ι5,h5,_,S5,(ER.comp er3 r3).mono g5,?_⟩
       dsimp only at q'
       cases ee:ce (some xs[i]::(jf.map (·.1)).map fun j=>(en[j]?).join) h5 with
       | bad=>rw [ee] at q';exact q'
       | ex c h6=>rw [ee] at q';exact q'.elim
       | ok v h6 =>
        rw [ee] at q'
        intro ι6 H6 u6 g6 S6 r6
        have g56:=g6
        have hD6:H6 D=some (.lst ys):=g56.keep D _ nD5 hD5
        have eι6:ι6=Ix.hide ⟨ι6.refs,ι'.priv⟩ D:=by
         have h1:=g6.priv
         have h2:=g5.priv
         rw [h2] at h1
         cases ι6
         simp only at h1
         subst h1
         rfl
        have nD6:D∉ι6.refs:=g56.outR nD5 hD5
        have gG6:Grow ι1 H1 ⟨ι6.refs,ι'.priv⟩ (aK H6 D (.lst (ys++[u6]))):=by
         obtain ⟨n,en1,hn⟩:=gG5.pre
         obtain ⟨k,ek,hk⟩:=g56.pre
         have hD1:∀ a o,H1 a=some o->a≠D:=fun a o ea=>fI ea hD
         refine ⟨⟨n++k,?_,fun a ha=>?_⟩,g'.priv,fun a o na ea=>?_,fun a ha=>?_⟩
         ·show ι6.refs=_;rw [ek];have z:ι5.refs=ι1.refs++n:=en1;rw [z];simp
         ·rcases JQ.mp ha with z | z
          ·exact hn a z
          ·have z2:=hk a z
           by_cases hr:a∈ι1.refs
           ·exact absurd z2 (gG5.live a (JN _ hr))
           ·cases e9:H1 a with
            | none=>rfl
            | some o=>rw [gG5.keep a o hr e9] at z2;cases z2
         ·rw [bL (hD1 a o ea)]
          exact g56.keep a o (gG5.outR na ea) (gG5.keep a o na ea)
         ·by_cases zD:a=D
          ·subst zD;rw [dQ];simp
          ·rw [bL zD]
           have:a∈ι5.all:=by
            rcases JQ.mp ha with z | z
            ·exact JN _ (by have z':ι5.refs=ι1.refs++n:=en1;rw [z'];exact JN _ z)
            ·rw [eι];exact JW _ (J7 _ (by show a∈ι'.priv;rw [g'.priv];exact z))
           exact g56.live a this
        refine ⟨hD6,xs.length-(i+1),by omega,rfl,hl,dQ,⟨ι6.refs,ι'.priv⟩,h6,vs++[v],gG6,?_,?_,?_,?_,nD6,q'⟩
        ·exact (eι6▸(x'.trans (g35.ext.trans g6.ext))).trans Ext.poke
        ·exact Sim.poke (eι6▸S6) nD6
        ·exact ER.ext (eι6▸er5.mono g6) Ext.poke
        ·have:RVs T ι6 H6 (vs++[v]) (ys++[u6]):=(rv5.mono g6).append (.cons r6 .nil)
         exact RVs.ext Ext.poke (eι6▸this)
    ·rw [JM hs] at q';exact q'.elim
   ·have ei:i=xs.length:=by lia
    subst ei
    rw [L6] at q'
    unfold cY at q'
    by_cases hs:bV w xs h'=true
    ·rw [JJ hs] at q'
     have hp:D∉ι'.priv:=fun z=>by rw [g'.priv] at z;exact S1.plive D z hD
     refine .inl ⟨IR.stop _ _ h' H2 x' S' hs (JE _),q' ι' H2 D ys (g1.trans g') S' rv' hH2 (fun z=>(JQ.mp z).elim nD' hp) fun n en1 a ha=>?_⟩
     obtain ⟨k,ek,hk⟩:=(g1.trans g').pre
     have:n=k:=List.append_cancel_left (en1.symm.trans ek)
     subst this
     rcases JQ.mp ha with z | z
     ·exact hk a z
     ·have z':a=D:=by simpa using z
      subst z'
      cases e9:H a with
      | none=>rfl
      | some o =>
       by_cases hr:a∈ι.refs
       ·have z1:a∈ι1.refs:=by
         obtain ⟨k1,ek1,_⟩:=g1.pre
         rw [ek1];exact JN _ hr
        exact absurd hD (S1.live a (JN _ z1))
       ·rw [g1.keep a o hr e9] at hD;cases hD
    ·rw [JM hs] at q';exact q'.elim
end
end Sm
namespace Sm
open PySem PySem.Spec L2
section
variable {T:Tb} {E:St->XK} {X:Cx} {pos px:Pos} {iter elt:Expr} {ifs:List Expr} {scope:Scope} {x₁:Str} {jf:List (Nat×Str)} {it:SI} {cc:SB} {ce:SE}
theorem xn {σ:St} {H:Hp} {Q:VK} (q:tE T E (dC (jf.map (·.1)) it cc ce) σ H Q):j7 jf (tI T it) (tT T EN cc) (tE T EN ce) σ H Q:=by
 obtain ⟨ι,h,en,S,er,q⟩:=q
 refine xm S er ?_
 unfold dC at q
 cases e:it en h with
 | bad=>rw [e] at q;exact q
 | ex c h1=>rw [e] at q;exact q.elim
 | ok p h1 =>
  obtain ⟨xs,w⟩:=p
  rw [e] at q
  dsimp only at q ⊢
  cases e2:cY (jf.map (·.1)) en w xs cc ce xs [] h1 with
  | bad=>rw [e2] at q;exact q
  | ex c h1=>rw [e2] at q;exact q.elim
  | ok ys h2 =>
   rw [e2] at q
   exact fun ι' H' D vs g S' r hD nD _=>q ι' H' _ g S'.show (.fl nD (.inl hD) (r.ext Ext.show))
theorem xo {σ:St} {H:Hp} {Q:VK} (q:tE T E (fL (jf.map (·.1)) it cc ce) σ H Q):j7 jf (tI T it) (tT T EN cc) (tE T EN ce) σ H Q:=by
 obtain ⟨ι,h,en,S,er,q⟩:=q
 refine xm S er ?_
 unfold fL at q
 cases e:it en h with
 | bad=>rw [e] at q;exact q
 | ex c h1=>rw [e] at q;exact q.elim
 | ok p h1 =>
  obtain ⟨xs,w⟩:=p
  rw [e] at q
  dsimp only at q ⊢
  cases e2:cY (jf.map (·.1)) en w xs cc ce xs [] h1 with
  | bad=>rw [e2] at q;exact q
  | ex c h1=>rw [e2] at q;exact q.elim
  | ok ys h2 =>
   rw [e2] at q
   intro ι' H' D vs g S' r hD nD hn
   obtain ⟨n,en1,_⟩:=g.pre
   have S2:Sim T (ι'.add D) (h2++[.lst ys]) H' := S'.adopt (Ix.nr nD) hD ⟨vs,rfl,r.ext Ext.adopt⟩
   refine q (ι'.add D) H' _ ⟨⟨n++[D],?_,hn n en1⟩,g.priv,g.keep,g.live⟩ S2 (.ref ?_)
   ·show ι'.refs++[D]=_;rw [en1];simp
   ·show (ι'.refs++[D])[h2.length]? = some D
    have:ι'.refs.length=h2.length:=S'.len
    rw [<- this];simp
theorem jB:fY X [] (tT T E bw):=fun pins s σ H Q I ⟨ι,h,en,S,er,q⟩=>C8 pins s σ H Q I (q.now S rfl)
theorem Ek {c:Expr} (hc:fJ T E X c cc):fY X [c] (tT T E cc):=C9 hc
structure cV (X:Cx) (x₁:Str) (jf:List (Nat×Str)) (scope:Scope):Prop where
 hN:(x₁::jf.map (·.2)).Nodup
 hx:scope.names.lookup x₁=some .local
 hjf:∀ p∈jf,X.N[p.1]? = some p.2
 hjl:∀ p∈jf,scope.names.lookup p.2=some .free
 hkind:scope.kind = .function
 hcell:∀ y∈scope.names,y.2 ≠ .cell
 hfr:∀ y∈scope.names,y.2 = .free->X.env.kindOf y.1=some .cell\/X.env.kindOf y.1=some .free
 hnames:∀ y∈scope.names,y.2 = .local->scope.names.lookup y.1=some .local
theorem oz (C:cV X x₁ jf scope) (hcalm:X.calm=true) (hi:gG T X (.Name x₁ px) iter it) (hc:∀ pins cl s H fp,fY (cG X pins x₁ jf scope cl s H fp) ifs (tT T EN cc)) (he:∀ pins cl s H fp,aI T EN (cG X pins x₁ jf scope cl s H fp) elt ce)
  (hs:∀ x,foldedSetIterable iter X.env x=pure x:=by intro _;rfl):aI T E X (.ListComp elt [⟨.Name x₁ px,iter,ifs,0⟩] scope pos) (dC (jf.map (·.1)) it cc ce) :=
 cq (wC hcalm hi hc he C.hN C.hx C.hjf C.hjl C.hkind C.hcell C.hfr C.hnames hs) fun _ _ _ q=>xn q
theorem El (C:cV X x₁ jf scope) (hcalm:X.calm=true) (hi:gG T X (.Name x₁ px) iter it) (hc:∀ pins cl s H fp,fY (cG X pins x₁ jf scope cl s H fp) ifs (tT T EN cc)) (he:∀ pins cl s H fp,aI T EN (cG X pins x₁ jf scope cl s H fp) elt ce)
  (hs:∀ x,foldedSetIterable iter X.env x=pure x:=by intro _;rfl):aI T E X (.ListComp elt [⟨.Name x₁ px,iter,ifs,0⟩] scope pos) (fL (jf.map (·.1)) it cc ce) :=
 cq (wC hcalm hi hc he C.hN C.hx C.hjf C.hjl C.hkind C.hcell C.hfr C.hnames hs) fun _ _ _ q=>xo q
theorem xp {y:Str} {py spos:Pos} {i:Nat} (C:cV X x₁ jf scope) (hcalm:X.calm=true) (hi:gG T X (.Name x₁ px) iter it) (hc:∀ pins cl s H fp,fY (cG X pins x₁ jf scope cl s H fp) ifs (tT T EN cc)) (he:∀ pins cl s H fp,aI T EN (cG X pins x₁ jf scope cl s H fp) elt ce)
  (hNX:X.N.Nodup) (hi':X.N[i]? = some y:=by rfl) (hy:X.env.scope.names.lookup y=some .local:=by rfl) (hsw:swapsWith (.ListComp elt [⟨.Name x₁ px,iter,ifs,0⟩] scope pos) (some (.Name y py)) spos.line X.env=pure true:=by rfl) (hs:∀ x,foldedSetIterable iter X.env x=pure x:=by intro _;rfl) :
  eP T E X (.Assign [.Name y py] (.ListComp elt [⟨.Name x₁ px,iter,ifs,0⟩] scope pos) spos) (aw i (dC (jf.map (·.1)) it cc ce)) :=
 fv (wD hcalm hi hc he C.hN C.hx C.hjf C.hjl C.hkind C.hcell C.hfr C.hnames hNX hi' hy hsw hs) fun D σ H q=>xn (rS q)
theorem Em {y:Str} {py spos:Pos} {i:Nat} (C:cV X x₁ jf scope) (hcalm:X.calm=true) (hi:gG T X (.Name x₁ px) iter it) (hc:∀ pins cl s H fp,fY (cG X pins x₁ jf scope cl s H fp) ifs (tT T EN cc)) (he:∀ pins cl s H fp,aI T EN (cG X pins x₁ jf scope cl s H fp) elt ce)
  (hNX:X.N.Nodup) (hi':X.N[i]? = some y:=by rfl) (hy:X.env.scope.names.lookup y=some .local:=by rfl) (hsw:swapsWith (.ListComp elt [⟨.Name x₁ px,iter,ifs,0⟩] scope pos) (some (.Name y py)) spos.line X.env=pure true:=by rfl) (hs:∀ x,foldedSetIterable iter X.env x=pure x:=by intro _;rfl) :
  eP T E X (.Assign [.Name y py] (.ListComp elt [⟨.Name x₁ px,iter,ifs,0⟩] scope pos) spos) (aw i (fL (jf.map (·.1)) it cc ce)) :=
 fv (wD hcalm hi hc he C.hN C.hx C.hjf C.hjl C.hkind C.hcell C.hfr C.hnames hNX hi' hy hsw hs) fun D σ H q=>xo (rS q)
end
def ic (T:Tb) (F:Fn):Sp:=fun vs H Q E=>∃ ι h args,Sim T ι h H/\RVs T ι H args vs/\Post T ι H E (RV T) (F args h) Q
def Eo (F:Fn) (n:Nat):Prop:=∀ args h,args.length≠n->F args h = .bad
theorem xq (n m:Nat) (b:SS):Eo (aC n m b) n:=fun args h hl=>by
 unfold aC
 rw [JM hl]
theorem oA {P:Program} {w:World} {K:PySem.W.Frag} {mg:Str->Option Value} {base:Heap} {T:Tb} {x qual:Str} {st:Stmt} {f:Addr} {fd:FuncData} {N ps:List Str} {k:Nat} {b:SS} (F:Fun K x qual st f fd) (hK:K=T.K) (S:ao N ps (aM st))
  (hbody:∀ (cdv:Value) (A:Around) (outer:List Env) (s:Shared) (H:Hp) (E:XK),Room k (A.deeper (PyProof.Rows.envOfC qual (aM st) s.heap.objs.size f cdv))->CA T (fun _=>E) (cf (cN P w) P w K mg base N qual (aM st) f cdv A outer s H E) ->
   cH T (fun _=>E) (cf (cN P w) P w K mg base N qual (aM st) f cdv A outer s H E) (gB st) b):FnOk P w K mg base (cN P w) (k+1) f fd ps (ic T (aC ps.length N.length b)):=by
 refine F.okE S (fun vs H Q E h=>?_) (fun cdv A outer s H vs Q E hr h=>?_)
 ·obtain ⟨ι,h,args,_,r,q⟩:=h
  by_cases hl:args.length=ps.length
  ·rw [<- hl,r.length]
  ·rw [xq _ _ _ args h hl] at q;exact q.elim
 ·obtain ⟨ι,h,args,Si,r,q⟩:=h
  refine ⟨_,hbody cdv A outer s H E hr ⟨hK,Dp⟩,ι,h,args.map some++List.replicate (N.length-ps.length) none,Si,?_,?_⟩
  ·by_cases hl:args.length=ps.length
   ·refine ⟨by simp [L2.start,r.length,<- hl],fun i v e=>?_⟩
    unfold L2.start
    by_cases hi:i<args.length
    ·rw [JF (by simpa using hi),Kh] at e
     rw [JF (by simpa [<- r.length] using hi),Kh]
     obtain ⟨x,e1,e2⟩:=J3.mp e
     cases e2
     obtain ⟨u,e3,r3⟩:=r.get e1
     exact ⟨u,by rw [e3];rfl,r3⟩
    ·rw [J9 (by simpa using hi),Ml] at e
     split at e
     ·cases e
     ·cases e
   ·rw [xq _ _ _ args h hl] at q;exact q.elim
  ·unfold aC at q
   split at q
   ·split at q
    ·rename_i e1 h1 he
     rw [he]
     exact fun ι' H' σ' g S' er=>q ι' H' _ g S' .non
    ·rename_i v h1 he
     rw [he]
     exact q
    ·rename_i c e1 h1 he
     rw [he]
     exact fun ι' H' σ' C g S' er ec=>q ι' H' C g S' ec
    ·exact q.elim
   ·exact q.elim
structure GF (P:Program) (w:World) (T:Tb) (mg:Str->Option Value) (base:Heap) (k:Nat) (x:Str) (F:Fn):Prop where
 ex:∃ f fd ps,mg x=some (.ref f)/\PySem.W.keepIn T.K (.ref f)=true/\Binds T.K fd ps []/\FnOk P w T.K mg base (cN P w) k f fd ps (ic T F)
structure GM (P:Program) (w:World) (T:Tb) (mg:Str->Option Value) (base:Heap) (k:Nat) (c:Nat) (m:Str) (F:Fn):Prop where
 ex:∃ C f fd ps,T.cls c=some C/\Cls T.K C/\fX T.K C m f/\Binds T.K fd ps []/\FnOk P w T.K mg base (cN P w) k f fd ps (ic T F)
 no:m∉T.fields c
section
variable {T:Tb} {E:St->XK} {X:Cx} {pos p apos:Pos} {e o a:Expr} {es:List Expr} {x m:Str} {F:Fn} {k c:Nat} {as:SL} {so sa:SE}
theorem aW (hK:X.K=T.K) (C:CA T E X) (G:GF X.prog X.w T X.mg X.base k x F) (hr:Room k X.A) (hg:Gl X x) (ha:fK T E X (e::es) as) (hdb:(x == ("__debug__" : Str))=false:=by decide)
  (he:starEach (e::es) X.env=(false,eval e X.env)::starEach es X.env:=by rfl) (hpl:(backTo pos (starEach es X.env)).any (·.1)=false:=by rfl):aI T E X (.Call (.Name x p) (e::es) [] pos) (aD F as):=by
 obtain ⟨f,fd,ps,h1,h2,h3,h4⟩:=G.ex
 refine cq (Dt (Ex:=E) (dvs:=[]) (hK▸h4) hr hg h1 (hK▸h2) (hK▸h3) .nil C.pass ha hdb he hpl) fun σ H Q ⟨ι,h,en,S,er,q⟩=>⟨ι,h,en,S,er,q.bind fun xs h1 ι1 H1 us g1 S1 r1 q1=>?_⟩
 rw [Me]
 exact ⟨ι1,h1,xs,S1,r1,q1⟩
theorem xr {C:Addr} {σ:St} {H:Hp} {Q:VK} (hc:T.cls c=some C) (no:m∉T.fields c) (q:tE T E (aG c F so as) σ H Q):wI C m (ic T F) [] E (tE T E so) (tA T E as) σ H Q:=by
 obtain ⟨ι,h,en,S,er,q⟩:=q
 refine ⟨ι,h,en,S,er,q.bind fun x h1 ι1 H1 u g1 S1 r1 q1=>?_⟩
 split at q1
 ·rename_i n
  split at q1
  ·rename_i c' fs hn
   split at q1
   ·rename_i ec
    subst ec
    cases r1 with
    | @ref _ a hr =>
     obtain ⟨o,e1,C',dx,fus,hC,rfl,nd,hw,hl,_⟩:=S1.obj n _ a hn hr
     rw [hc] at hC;cases hC
     refine ⟨a,dx,fus,rfl,e1,?_,ι1,h1,en,S1,er.mono g1,q1.bind fun xs h2 ι2 H2 us g2 S2 r2 q2=>?_⟩
     ·cases e:fus.lookup m with
      | none=>rfl
      | some v =>
       have:=K4 e
       exact absurd (hw _ this) no
     ·rw [Me]
      exact ⟨ι2,h2,.ref n::xs,S2,.cons (.ref (g2.at hr)) r2,q2⟩
   ·exact q1.elim
  ·exact q1.elim
 ·exact q1.elim
theorem aO {pl:Sem Bool} (hK:X.K=T.K) (CC:CA T E X) (G:GM X.prog X.w T X.mg X.base k c m F) (hr:Room k X.A) (ho:aI T E X o so) (ha:fK T E X (e::es) as)
  (hst:starEach (e::es) X.env=(false,eval e X.env)::starEach es X.env:=by rfl) (hpl:(backTo pos (starEach es X.env)).any (·.1)=false:=by rfl)
  (ht:eval (.Call (.Attribute o m apos) (e::es) [] pos) X.env=(do
   let ov <- eval o X.env
   standAt apos.atName
   let (f,first) <- holding [ov] (getMethod ov m pl)
   callWith pos f first (backTo pos (starEach (e::es) X.env)) (backToKw pos (keywordEach [] X.env))):=by rfl):aI T E X (.Call (.Attribute o m apos) (e::es) [] pos) (aG c F so as):=by
 obtain ⟨C,f,fd,ps,h1,h2,h3,h4,h5⟩:=G.ex
 exact cq (Du (Ex:=E) (dvs:=[]) (pl:=pl) ho (hK▸h2) (hK▸h3) (hK▸h5) hr (hK▸h4) .nil CC.pass ha hst hpl ht) fun σ H Q q=>xr h1 G.no q
theorem kq {pl:Sem Bool} (hK:X.K=T.K) (CC:CA T E X) (G:GM X.prog X.w T X.mg X.base k c m F) (hr:Room k X.A) (ho:aI T E X o so)
  (ht:eval (.Call (.Attribute o m apos) [] [] pos) X.env=(do
   let ov <- eval o X.env
   standAt apos.atName
   let (f,first) <- holding [ov] (getMethod ov m pl)
   callWith pos f first (backTo pos (starEach [] X.env)) (backToKw pos (keywordEach [] X.env))):=by rfl):aI T E X (.Call (.Attribute o m apos) [] [] pos) (aG c F so ae):=by
 obtain ⟨C,f,fd,ps,h1,h2,h3,h4,h5⟩:=G.ex
 intro pins s σ H Q I q
 have q' := xr (C:=C) h1 G.no q
 refine NI (pl:=pl) (thn (ho pins s σ H _ I q') fun u s1 ⟨x,H1,I1,rx,a,dx,fs,ex,ea,l,q⟩=>?_) ht
 subst ex
 obtain rfl:u=Value.ref a:=rx
 refine vR I1 ea (hK▸h2) (hK▸h3) l ?_
 obtain ⟨ι,h,en,S,er,q⟩:=q
 refine Oa (first:=[.ref a]) I1.kIn (hK▸h3.kp) (rm (dvs:=[]) (us:=[.ref a]) (vs:=[.ref a]) (hK▸h5) hr (hK▸h4) .nil CC.pass I1 (.cons rfl .nil) (q.now S .nil))
structure CF (T:Tb) (c:Nat):Prop where
 ex:∃ C,T.cls c=some C/\Cls T.K C/\∀ f∈T.fields c,NoAttr T.K C f
structure GK (P:Program) (w:World) (T:Tb) (mg:Str->Option Value) (base:Heap) (k:Nat) (c:Nat) (x:Str) (F:Fn):Prop where
 ex:∃ C f fd ps,T.cls c=some C/\mg x=some (.ref C)/\Mk T.K C f/\Binds T.K fd ps []/\FnOk P w T.K mg base (cN P w) k f fd ps (ic T F)
theorem Ep {CX:eK} {C f:Addr} {fd:FuncData} {ps:List Str} {sp:Sp} {dvs:List V} {ds:List Value} {pins:List (Addr×Obj)} {σ:St} {H:Hp} {s:Shared} {Q:VK} {us:List Value} {vs:List V} (M:Mk X.K C f) (F:FnOk X.prog X.w X.K X.mg X.base CX k f fd ps sp) (hr:Room (k+1) X.A) (hb:Binds X.K fd ps ds) (hd:Vals dvs ds)
  (hx:lP CX X E) (I:L2.Inv X pins σ H s) (r:Vals vs us)
  (h:∀ x dx,H x=none->H dx=none->dx≠x->sp (.ref x::(vs++dvs)) (aK (aK H dx (.own x)) x (.ins C dx [])) (fun v H2=>v = .non/\Q (.ref x) H2) (E σ)) :
  wpAny (model X.prog X.w) X.A (call (.ref C) us) (EP X pins σ Q) X.xe s:=by
 have hq:=h (s.heap.objs.size+1) s.heap.objs.size (I.hok.fresh (Na _)) (I.hok.fresh (JE _)) (Ko (Nh _))
 have I2:=Inv.made (C:=C) I
 have r2:Vals (V.ref (s.heap.objs.size+1)::(vs++dvs)) (Value.ref (s.heap.objs.size+1)::(us++ds)):=.cons rfl (r.append hd)
 have hl:(Value.ref (s.heap.objs.size+1)::us++ds).length=ps.length:=by
  have e:=r2.length
  rw [F.len _ _ _ _ hq] at e
  exact e.symm
 refine wpAny_call (BD (f:=f) I.kIn M.makes M.init (beq_iff_eq.mp M.fn) (NB (F.run _ X.stack _ _ ⟨Value.ref (s.heap.objs.size+1)::us,[]⟩ (Value.ref (s.heap.objs.size+1)::(us++ds)) _ _ (E σ) (hr.make C us [])
  (I2.env0.make C us []) (hb _ (Value.ref (s.heap.objs.size+1)::us) I2.kIn hl) r2 hq) fun r s' hq' => ?_))
 cases r with
 | error e=>exact hx pins σ _ _ e s' I2 hq'
 | ok fl =>
  cases fl with
  | ret u =>
   obtain ⟨v,H',I3,rv,ev,q3⟩:=I2.after hq'
   subst ev
   exact ⟨rv,⟨V.ref (s.heap.objs.size+1),H',I3,rfl,q3⟩⟩
  | next=>exact False.elim hq'
  | brk=>exact False.elim hq'
  | cont=>exact False.elim hq'
theorem Er {C:Addr} {xs:List AV} {us:List V} {H:Hp} {Q:VK} {ι:Ix} {h:AH} {E:XK} {n:Nat} (hc:T.cls c=some C) (hn:(T.fields c).length=n) (S:Sim T ι h H) (r:RVs T ι H xs us)
  (q:Post T ι H E (RV T) (match F (.ref h.length::xs) (h++[.ins c (List.replicate n none)]) with | .ok .non h2=>Out.ok (AV.ref h.length) h2 | .ex c h2=>.ex c h2 | _=>.bad) Q) :
  ∀ x dx,H x=none->H dx=none->dx≠x->ic T F (.ref x::us) (aK (aK H dx (.own x)) x (.ins C dx [])) (fun v H2=>v = .non/\Q (.ref x) H2) E:=by
 intro x dx nx ndx ne
 have nx':(aK H dx (.own x)) x=none:=by rw [bL (Ne.symm ne)];exact nx
 have S1:=S.new (o:=.own x) ndx
 have g1:=S.growNew (o:=.own x) ndx
 have g2:=S1.growAdd (u:=.ins C dx []) nx'
 have S2:Sim T (ι.add x) (h++[.ins c (List.replicate n none)]) (aK (aK H dx (.own x)) x (.ins C dx [])):=S1.add nx' ⟨C,dx,[],hc,rfl,by simp,by simp,by simp [hn],fun i v e=>by
  rw [Ml] at e
  split at e
  ·cases e
  ·cases e⟩
 refine ⟨ι.add x,_,.ref h.length::xs,S2,.cons (.ref S.addAt) (r.mono (g1.trans g2)),?_⟩
 have q2:=q.shift (g1.trans g2)
 cases e:F (.ref h.length::xs) (h++[.ins c (List.replicate n none)]) with
 | bad=>rw [e] at q2;exact q2
 | ex c' h2=>rw [e] at q2;exact q2
 | ok v h2 =>
  rw [e] at q2
  cases v with
  | non=>exact fun ι' H' u g S' r' => ⟨rM r',q2 ι' H' _ g S' (.ref (g.at S.addAt))⟩
  | _=>exact (show False from q2).elim
theorem xt {n:Nat} (hK:X.K=T.K) (CC:CA T E X) (G:GK X.prog X.w T X.mg X.base k c x F) (hr:Room (k+1) X.A) (hg:Gl X x) (hn:(T.fields c).length=n:=by rfl) (hdb:(x == ("__debug__" : Str))=false:=by decide):aI T E X (.Call (.Name x p) [] [] pos) (ka c n F ae):=by
 obtain ⟨C,f,fd,ps,h1,h2,h3,h4,h5⟩:=G.ex
 intro pins s σ H Q I ⟨ι,h,en,S,er,q⟩
 refine Mi (nT I hg h2 ?_ hdb)
 have M:Mk X.K C f:=hK▸h3
 exact Oa I.kIn M.kp (Ep (us:=[]) (vs:=[]) (dvs:=[]) M (hK▸h5) hr (hK▸h4) .nil CC.pass I .nil (Er h1 hn S .nil q))
theorem bB {i:Nat} {f:Str} (hK:X.K=T.K) (CFc:CF T c) (ho:aI T E X o so) (hf:(T.fields c)[i]? = some f:=by rfl) (hb:attributeBase o f X.env (eval o X.env)=eval o X.env:=by rfl):aI T E X (.Attribute o f pos) (Sm.sFld c i so):=by
 obtain ⟨C,hC,hcl,hna⟩:=CFc.ex
 refine cq (BI ho hb) fun σ H Q ⟨ι,h,en,S,er,q⟩=>⟨ι,h,en,S,er,q.bind fun x h1 ι1 H1 u g1 S1 r1 q1=>?_⟩
 split at q1
 ·rename_i n
  split at q1
  ·rename_i c' fs hn
   split at q1
   ·rename_i ec
    subst ec
    split at q1
    ·rename_i v hv
     cases r1 with
     | @ref _ a hr =>
      obtain ⟨o,e1,C',dx,fus,hC',rfl,nd,hw,hl,hr2⟩:=S1.obj n _ a hn hr
      rw [hC] at hC';cases hC'
      obtain ⟨f',u,e2,e3,r3⟩:=hr2 i v hv
      rw [hf] at e2;cases e2
      exact ⟨a,_,dx,fus,u,rfl,e1,hK▸hcl,hK▸hna f (Kb hf),e3,q1.now S1 r3⟩
    ·exact q1.elim
   ·exact q1.elim
  ·exact q1.elim
 ·exact q1.elim
theorem xu (f:Str) (v:V):∀ {fs:List (Str×V)},(fs.map (·.1)).Nodup->((bC f v fs).map (·.1)).Nodup/\∀ g,g∈(bC f v fs).map (·.1)->g=f\/g∈fs.map (·.1)
 | [],_=>by simp [bC]
 | (g,x)::r,n=>by
  obtain ⟨n1,n2⟩:=KH.mp (show (g::r.map (·.1)).Nodup from n)
  unfold bC
  split
  ·rename_i e
   subst e
   exact ⟨n,fun k hk=>.inr hk⟩
  ·rename_i e
   obtain ⟨h1,h2⟩:=xu f v (fs:=r) n2
   refine ⟨KH.mpr ⟨fun z=>?_,h1⟩,fun k hk=>?_⟩
   ·rcases h2 g z with z | z
    ·exact e z
    ·exact n1 z
   ·rcases J8.mp hk with z | z
    ·exact .inr (by rw [z];simp)
    ·rcases h2 k z with z | z
     ·exact .inl z
     ·exact .inr (J7 _ z)
theorem xw:∀ {l m:List Str},l.Nodup->(∀ x∈l,x∈m)->l.length<=m.length
 | [],m,_,_=>Kk _
 | x::l,m,n,h=>by
  obtain ⟨n1,n2⟩:=KH.mp n
  have hx:=h x (by simp)
  have:=xw (l:=l) (m:=m.erase x) n2 fun y hy=>by
   have ne:y≠x:=fun z=>n1 (z▸hy)
   exact (List.mem_erase_of_ne ne).mpr (h y (by simp [hy]))
  rw [Ng hx] at this
  have:0<m.length:=List.length_pos_of_mem hx
  simp only [J6]
  lia
theorem iQ {i:Nat} {f:Str} {p':Pos} (hK:X.K=T.K) (CFc:CF T c) (ho:aI T E X o so) (ha:aI T E X a sa) (hf:(T.fields c)[i]? = some f:=by rfl) (hs:swapsWith a (some (.Attribute o f p')) pos.line X.env=pure false:=by rfl) :
  eP T E X (.Assign [.Attribute o f p'] a pos) (g7 c i so sa):=by
 obtain ⟨C,hC,hcl,hna⟩:=CFc.ex
 refine fv (BJ ho ha hs) fun D σ H ⟨ι,h,en,S,er,q⟩=>⟨ι,h,en,S,er,q.go er fun y h1 ι1 H1 v g1 S1 r1 q1=>⟨ι1,h1,en,S1,er.mono g1,q1.go (er.mono g1) fun x h2 ι2 H2 u g2 S2 r2 q2=>?_⟩⟩
 split at q2
 ·rename_i n
  split at q2
  ·rename_i c' fs hn
   split at q2
   ·rename_i ec
    subst ec
    cases r2 with
    | @ref _ a hr =>
     obtain ⟨o,e1,C',dx,fus,hC',rfl,nd,hw,hl,hr2⟩:=S2.obj n _ a hn hr
     rw [hC] at hC';cases hC'
     have hmem:f∈T.fields c' := Kb hf
     have hlen:fus.length<1000:=by
      have:=xw nd (m:=T.fields c') (fun x hx=>by
       obtain ⟨p,hp,rfl⟩:=Mo.mp hx
       exact hw p hp)
      have:=T.few c'
      rw [J0] at *
      lia
     obtain ⟨k1,k2⟩:=xu f v nd
     have g3:=S2.growSet (u:=.ins C dx (bC f v fus)) hr
     refine ⟨a,C,dx,fus,rfl,e1,hK▸hcl,hK▸hna f hmem,hlen,q2 ι2 _ σ g3 (S2.set hr ⟨C,dx,bC f v fus,hC,rfl,k1,fun p hp=>?_,by simp [hl],fun j w hj=>?_⟩) (er.mono (g1.trans (g2.trans g3)))⟩
     ·rcases k2 p.1 (Mo.mpr ⟨p,hp,rfl⟩) with z | z
      ·rw [z];exact hmem
      ·obtain ⟨p',hp',e⟩:=Mo.mp z
       rw [<- e];exact hw p' hp'
     ·by_cases hji:j=i
      ·subst hji
       have hjl:j<fs.length:=by
        have:=(JD.mp hj).1
        simpa using this
       rw [JR hjl] at hj
       cases hj
       exact ⟨f,v,hf,by rw [nZ,JJ rfl],r1.mono (g2.trans g3)⟩
      ·rw [JI (Ne.symm hji)] at hj
       obtain ⟨f',u,e2,e3,r3⟩:=hr2 j w hj
       have ne:f'≠f:=fun z=>hji (qh (T.nd c') e2 (z▸hf))
       exact ⟨f',u,e2,by rw [nZ,JM ne];exact e3,r3.mono g3⟩
   ·exact (show False from q2).elim
  ·exact (show False from q2).elim
 ·exact (show False from q2).elim
end
end Sm
namespace Sm
open PySem PySem.Spec L2
theorem rX {T:Tb} {ι:Ix} {H:Hp} {k:aH} {u:V} (r:RV T ι H (kA k) u):u=kV k:=by
 cases k with
 | inl i=>exact bA r
 | inr x=>exact (dE r).1
theorem rY {k j:aH} (e:kA k=kA j):k=j:=by
 cases k<;>cases j<;>simp [kA] at e<;>simp [e]
theorem rZ:∀ {ks js:List aH},ks.map kA=js.map kA->ks=js
 | [],[],_=>rfl
 | [],_::_,e=>by simp at e
 | _::_,[],e=>by simp at e
 | k::ks,j::js,e=>by
  simp only [JS,ND] at e
  rw [rY e.1,rZ e.2]
theorem xx {T:Tb} {ι:Ix} {H:Hp}:∀ {ks:List aH} {us:List V},RVs T ι H (ks.map kA) us->us=ks.map kV
 | [],_,.nil=>rfl
 | k::ks,_,.cons r rs=>by rw [rX r,xx rs];rfl
theorem r8 {v:AV} {k:aH} (e:keyOf? v=some k):v=kA k:=by
 unfold keyOf? at e
 split at e<;>cases e<;>rfl
theorem oB:∀ {vs:List AV} {ks:List aH},keysOf? vs=some ks->vs=ks.map kA
 | [],_,e=>by cases e;rfl
 | v::vs,ks,e=>by
  unfold keysOf? at e
  split at e
  ·rename_i k ks' e1 e2
   cases e
   rw [r8 e1,oB e2];rfl
  ·cases e
theorem oC {κ:Type} [DecidableEq κ] {T:Tb} {ι:Ix} {H:Hp} {f:κ->AV} (hf:∀ {a b},f a=f b->a=b) {k:κ}:∀ {kvs:List (AV×AV)} {kus:List (κ×V)},Paired (fun (p:AV×AV) (q:κ×V)=>p.1=f q.1/\RV T ι H p.2 q.2) kvs kus ->
  (aX kvs (f k)=none/\cg kus k=none)\/∃ v u,aX kvs (f k)=some v/\cg kus k=some u/\RV T ι H v u
 | _,_,.nil=>.inl ⟨rfl,rfl⟩
 | (a,v)::kvs,(j,u)::kus,.cons ⟨e,r⟩ rs=>by
  by_cases h:j=k
  ·subst h
   replace e:a=f j:=e
   subst e
   exact .inr ⟨v,u,by simp [aX],oa rfl,r⟩
  ·have h' : ¬ a=f k:=fun z=>h (hf (e.symm.trans z))
   rcases oC hf rs (k:=k) with ⟨h1,h2⟩ | ⟨v',u',h1,h2,h3⟩
   ·refine .inl ⟨?_,by rw [lH h];exact h2⟩
    unfold aX at h1 ⊢
    rw [KS,Ki h']
    exact h1
   ·refine .inr ⟨v',u',?_,by rw [lH h];exact h2,h3⟩
    unfold aX at h1 ⊢
    rw [KS,Ki h']
    exact h1
theorem sf {kvs:List (AV×AV)} {k:AV}:(kvs.any fun p=>decide (p.1=k))=(aX kvs k).isSome:=by
 induction kvs with
 | nil=>rfl
 | cons p r ih =>
  unfold aX at ih ⊢
  rw [LQ,KS,ih]
  cases h:decide (p.1=k)<;>simp
theorem xy {κ:Type} [DecidableEq κ] {T:Tb} {ι:Ix} {H:Hp} {f:κ->AV} (hf:∀ {a b},f a=f b->a=b) {k:κ} {v:AV} {u:V} (rv:RV T ι H v u) {kvs:List (AV×AV)} {kus:List (κ×V)} (r:Paired (fun (p:AV×AV) (q:κ×V)=>p.1=f q.1/\RV T ι H p.2 q.2) kvs kus) :
  Paired (fun (p:AV×AV) (q:κ×V)=>p.1=f q.1/\RV T ι H p.2 q.2) (dX kvs (f k) v) (bN kus k u):=by
 have e:(kvs.any fun p=>decide (p.1=f k))=kus.any fun kv=>decide (kv.1=k):=by
  rw [sf,og]
  rcases oC hf r (k:=k) with ⟨h1,h2⟩ | ⟨v',u',h1,h2,h3⟩
  ·rw [h1,h2];rfl
  ·rw [h1,h2];rfl
 unfold dX bN
 rw [e]
 by_cases h:(kus.any fun kv=>decide (kv.1=k))=true
 ·rw [JJ h,JJ h]
  clear e h
  induction r with
  | nil=>exact .nil
  | cons p rs ih =>
   rename_i a b l1 l2
   refine .cons ?_ ih
   obtain ⟨e1,r1⟩:=p
   dsimp only
   by_cases hk:b.1=k
   ·rw [JJ hk,JJ (by rw [e1,hk])]
    exact ⟨e1,rv⟩
   ·rw [JM hk,JM (fun z=>hk (hf (e1.symm.trans z)))]
    exact ⟨e1,r1⟩
 ·rw [JM h,JM h]
  have app:∀ {l1:List (AV×AV)} {l2:List (κ×V)},Paired (fun (p:AV×AV) (q:κ×V)=>p.1=f q.1/\RV T ι H p.2 q.2) l1 l2->Paired (fun (p:AV×AV) (q:κ×V)=>p.1=f q.1/\RV T ι H p.2 q.2) (l1++[(f k,v)]) (l2++[(k,u)]):=fun z=>by
   induction z with
   | nil=>exact .cons ⟨rfl,rv⟩ .nil
   | cons p _ ih=>exact .cons p ih
  exact app r
section
variable {T:Tb} {ι:Ix} {h:AH} {H:Hp}
theorem mr {xs:List AV} {u:V} {ks:List aH} (r:RV T ι H (.tup xs) u) (e:keysOf? xs=some ks):∃ b,u = .ref b/\KTup H b ks:=by
 have:=oB e
 subst this
 cases r with
 | tup n q r=>exact ⟨_,rfl,.of (by rw [<- xx r];exact q)⟩
theorem xA {n:Nat} {t:Bool} {kvs:List (AV×AV)} {y:AV} {a:Addr} {w:V} (S:Sim T ι h H) (hn:h[n]? = some (.dct t kvs)) (hr:ι.refs[n]? = some a) (ry:RV T ι H y w) (hk:eQ t y=true) :
  ∃ o,DGet H a w o/\((aX kvs y=none/\o=none)\/∃ v u,aX kvs y=some v/\o=some u/\RV T ι H v u):=by
 obtain ⟨ob,e1,r⟩:=S.obj n _ a hn hr
 cases t with
 | false =>
  obtain ⟨kus,rfl,r⟩:=r
  have hk':(keyOf? y).isSome=true:=hk
  obtain ⟨k,ek⟩:=Kl.mp hk'
  have:=r8 ek
  subst this
  rw [rX ry]
  refine ⟨cg kus k,.k e1,?_⟩
  rcases oC rY r (k:=k) with ⟨h1,h2⟩ | ⟨v',u',h1,h2,h3⟩
  ·exact .inl ⟨h1,h2⟩
  ·exact .inr ⟨v',u',h1,h2,h3⟩
 | true =>
  obtain ⟨kus,rfl,r⟩:=r
  unfold eQ at hk
  split at hk
  ·rename_i hh;cases hh
  ·rename_i xs hh
   obtain ⟨ks,ek⟩:=Kl.mp hk
   obtain ⟨b,rfl,hb⟩:=mr ry ek
   have:=oB ek
   subst this
   refine ⟨cg kus ks,.t e1 hb,?_⟩
   rcases oC (f:=fun ks:List aH=>AV.tup (ks.map kA)) (fun e=>rZ (by injection e)) r (k:=ks) with ⟨h1,h2⟩ | ⟨v',u',h1,h2,h3⟩
   ·exact .inl ⟨h1,h2⟩
   ·exact .inr ⟨v',u',h1,h2,h3⟩
  ·cases hk
theorem xB {n:Nat} {t:Bool} {kvs:List (AV×AV)} {y z:AV} {a:Addr} {w u:V} (S:Sim T ι h H) (hn:h[n]? = some (.dct t kvs)) (hr:ι.refs[n]? = some a) (ry:RV T ι H y w) (rz:RV T ι H z u) (hk:eQ t y=true) (hl:kvs.length<sizeLine) :
  ∃ H',DPut H a w u H'/\Grow ι H ι H'/\Sim T ι (h.set n (.dct t (dX kvs y z))) H' := by
 obtain ⟨ob,e1,r⟩:=S.obj n _ a hn hr
 cases t with
 | false =>
  obtain ⟨kus,rfl,r⟩:=r
  have hk':(keyOf? y).isSome=true:=hk
  obtain ⟨k,ek⟩:=Kl.mp hk'
  have:=r8 ek
  subst this
  rw [rX ry]
  have g:=S.growSet (u:=.dK (bN kus k u)) hr
  exact ⟨_,.k e1 (by rw [<- Paired.length r];exact hl),g,S.set hr ⟨_,rfl,xy rY (rz.mono g) (Paired.mapP r fun _ _ ⟨p,q⟩=>⟨p,q.mono g⟩)⟩⟩
 | true =>
  obtain ⟨kus,rfl,r⟩:=r
  unfold eQ at hk
  split at hk
  ·rename_i hh;cases hh
  ·rename_i xs hh
   obtain ⟨ks,ek⟩:=Kl.mp hk
   obtain ⟨b,rfl,hb⟩:=mr ry ek
   have:=oB ek
   subst this
   have g:=S.growSet (u:=.dT none (bN kus ks u)) hr
   exact ⟨_,.t e1 hb (by rw [<- Paired.length r];exact hl),g,S.set hr ⟨_,rfl,xy (f:=fun ks:List aH=>AV.tup (ks.map kA)) (fun e=>rZ (by injection e)) (rz.mono g) (Paired.mapP r fun _ _ ⟨p,q⟩=>⟨p,q.mono g⟩)⟩⟩
  ·cases hk
theorem RVs.atI {xs:List AV} {us:List V} {i:Int} {v:AV} (r:RVs T ι H xs us) (e:atI xs i=some v):∃ u,L2.atI us i=some u/\RV T ι H v u:=by
 unfold L2.atI at e ⊢
 rw [<- r.length]
 obtain ⟨j,e1,e2⟩:=Option.bind_eq_some_iff.mp e
 obtain ⟨u,e3,r3⟩:=r.get e2
 exact ⟨u,by rw [e1];exact e3,r3⟩
end
section
variable {T:Tb} {E:St->XK} {X:Cx} {pos:Pos} {a b c:Expr} {sa sb sc:SE}
theorem Es {e:Expr} {t t':TE} (h:PE X e t) (h':PE X e t'):PE X e (fun σ H Q=>t σ H Q\/t' σ H Q):=fun pins s σ H Q I q=>q.elim (h pins s σ H Q I) (h' pins s σ H Q I)
theorem Et {e:Stmt} {t t':TS} (h:PS X e t) (h':PS X e t'):PS X e (fun D σ H=>t D σ H\/t' D σ H):=fun pins s σ H Q I q=>q.elim (h pins s σ H Q I) (h' pins s σ H Q I)
theorem ar (hK:X.K=T.K) (hu:X.A.units+64<cLine) (ha:aI T E X a sa) (hb:aI T E X b sb) (hs:wc b:=by exact fun _ _=>rfl):aI T E X (.Subscript a b pos) (ag au sa sb):=by
 refine cq (Es (B7 B9 ha hb hs) (CI (Ka (Kq (by decide:1<=64) _) hu) ha hb hs)) fun σ H Q q=>?_
 obtain ⟨ι,h,en,S,er,q⟩:=q
 have left:(∀ x h1 y h2,sa en h = .ok x h1->sb en h1 = .ok y h2->∀ n t kvs,x = .ref n->h2[n]? = some (.dct t kvs)->False)->j5 (wd X.K) (tE T E sa) (tE T E sb) σ H Q:=fun no=>by
  refine ⟨ι,h,en,S,er,?_⟩
  unfold ag at q
  cases e1:sa en h with
  | bad=>rw [e1] at q;exact q
  | ex c h1=>rw [e1] at q;exact q
  | ok x h1 =>
   rw [e1] at q
   intro ι1 H1 u g1 S1 r1
   refine ⟨ι1,h1,en,S1,er.mono g1,?_⟩
   dsimp only [Out.bind] at q
   cases e2:sb en h1 with
   | bad=>rw [e2] at q;exact q
   | ex c h2=>rw [e2] at q;exact Post.shift (R:=RV T) (o:=.ex c h2) q g1
   | ok y h2 =>
    rw [e2] at q
    intro ι2 H2 w g2 S2 r2
    have q2:=Post.shift q (g1.trans g2)
    have r1' := r1.mono g2
    dsimp only at q2
    unfold au at q2
    split at q2
    ·rename_i z i
     split at q2
     ·rename_i cc hc
      obtain ⟨rfl,zl,zo⟩:=dE r1'
      rw [bA r2]
      refine .inr (.inr ⟨z,i,cc,rfl,rfl,zl,hc,q2.now S2 (.str (show 1<=sizeLine by decide) ?_)⟩)
      obtain ⟨j,_,e3,_⟩:=n8 hc
      have m:cc∈z.cps:=by
       have:=Kb e3
       simpa using this
      have:=Ln.mp zo _ m
      simpa using this
     ·exact q2.elim
    ·rename_i xs i
     split at q2
     ·rename_i v hv
      obtain ⟨b,us,rfl,sq,rs⟩:=hE r1'
      obtain ⟨u2,e3,r3⟩:=rs.atI hv
      rw [bA r2]
      exact .inr (.inl ⟨b,us,i,u2,rfl,rfl,hK▸sq,e3,q2.now S2 r3⟩)
     ·exact q2.elim
    ·rename_i xs i
     split at q2
     ·rename_i v hv
      obtain ⟨b,us,rfl,sq,rs⟩:=dN S2 r1' rfl
      obtain ⟨u2,e3,r3⟩:=rs.atI hv
      rw [bA r2]
      exact .inl ⟨b,us,i,u2,rfl,rfl,hK▸sq,e3,q2.now S2 r3⟩
     ·exact q2.elim
    ·rename_i n
     split at q2
     ·rename_i xs hn
      split at q2
      ·rename_i i
       split at q2
       ·rename_i v hv
        obtain ⟨b,us,rfl,sq,rs⟩:=dN (xs:=xs) S2 r1' (by simp [cU,hn])
        obtain ⟨u2,e3,r3⟩:=rs.atI hv
        rw [bA r2]
        exact .inl ⟨b,us,i,u2,rfl,rfl,hK▸sq,e3,q2.now S2 r3⟩
       ·exact q2.elim
      ·exact q2.elim
     ·rename_i t kvs hn
      exact (no _ h1 _ h2 e1 e2 n t kvs rfl hn).elim
     ·exact q2.elim
    ·exact q2.elim
 by_cases dd:∃ x h1 y h2,sa en h = .ok x h1/\sb en h1 = .ok y h2/\∃ n t kvs,x = .ref n/\h2[n]? = some (.dct t kvs)
 ·obtain ⟨x,h1,y,h2,e1,e2,n,t,kvs,rfl,hn⟩:=dd
  refine .inr ⟨ι,h,en,S,er,?_⟩
  unfold ag at q
  rw [e1] at q ⊢
  intro ι1 H1 u g1 S1 r1
  refine ⟨ι1,h1,en,S1,er.mono g1,?_⟩
  dsimp only [Out.bind] at q
  rw [e2] at q ⊢
  intro ι2 H2 w g2 S2 r2
  have q2:=Post.shift q (g1.trans g2)
  have r1' := r1.mono g2
  dsimp only at q2
  unfold au at q2
  simp only [hn] at q2
  split at q2
  ·rename_i hk
   cases r1' with
   | @ref _ ad hr =>
    obtain ⟨o,dg,alt⟩:=xA S2 hn hr r2 hk
    rcases alt with ⟨v1,rfl⟩ | ⟨v,u,v1,rfl,r3⟩
    ·rw [v1] at q2;exact q2.elim
    ·rw [v1] at q2
     exact ⟨ad,u,rfl,dg,q2.now S2 r3⟩
  ·exact q2.elim
 ·exact .inl (left fun x h1 y h2 e1 e2 n t kvs e3 e4=>dd ⟨x,h1,y,h2,e1,e2,n,t,kvs,e3,e4⟩)
theorem kr {p':Pos} (hu:X.A.units+64<cLine) (ho:aI T E X a sa) (hi:aI T E X b sb) (hv:aI T E X c sc) (hs:swapsWith c (some (.Subscript a b p')) pos.line X.env=pure false:=by rfl) (hs':swapsWithSole [.Subscript a b p'] c pos.line X.env=pure false:=by rfl) (hw:swappedStores [.Subscript a b p'] c X.env=pure none:=by rfl)
  (h1:(assignEach [.Subscript a b p'] X.env).map (·.2)=[assign (.Subscript a b p') X.env]:=by rfl)
  (has:∀ v,assign (.Subscript a b p') X.env v=(do
   let ov <- holding [v] (eval a X.env)
   let iv <- holding [v,ov] (eval b X.env)
   standAt p'
   holding [v,ov,iv] (setItem ov iv v)
   release [v,ov,iv] []):=by intro _;rfl):eP T E X (.Assign [.Subscript a b p'] c pos) (dw sa sb sc):=by
 refine fv (Et (AX hv (AW ho hi Cd has) hs' hw h1) (CJ (Ka (Kq (by decide:1<=64) _) hu) ho hi hv hs)) fun D σ H q=>?_
 obtain ⟨ι,h,en,S,er,q⟩:=q
 unfold dw at q
 by_cases dd:∃ z h1 x h2 y h3,sc en h = .ok z h1/\sa en h1 = .ok x h2/\sb en h2 = .ok y h3/\∃ n t kvs,x = .ref n/\h3[n]? = some (.dct t kvs)
 ·obtain ⟨z,h1,x,h2,y,h3,e1,e2,e3,n,t,kvs,rfl,hn⟩:=dd
  refine .inr ⟨ι,h,en,S,er,?_⟩
  rw [e1] at q ⊢
  intro ι1 H1 u g1 S1 r1
  refine ⟨ι1,h1,en,S1,er.mono g1,?_⟩
  dsimp only [Out.go] at q
  rw [e2] at q ⊢
  intro ι2 H2 w g2 S2 r2
  refine ⟨ι2,h2,en,S2,er.mono (g1.trans g2),?_⟩
  dsimp only at q
  rw [e3] at q ⊢
  intro ι3 H3 j g3 S3 r3
  have q2:=PostS.shift q (g1.trans (g2.trans g3))
  simp only [hn] at q2
  split at q2
  ·rename_i hk
   cases (r2.mono g3) with
   | @ref _ ad hr =>
    obtain ⟨H4,dp,g4,S4⟩:=xB S3 hn hr r3 (r1.mono (g2.trans g3)) hk.1 hk.2
    exact ⟨ad,H4,rfl,dp,q2 ι3 H4 σ g4 S4 (er.mono (g1.trans (g2.trans (g3.trans g4))))⟩
  ·exact q2.elim
 ·refine .inl ⟨ι,h,en,S,er,?_⟩
  cases e1:sc en h with
  | bad=>rw [e1] at q;exact q
  | ex cc h1=>rw [e1] at q;exact fun i2 H2 C g S e=>q i2 H2 σ C g S (er.mono g) e
  | ok z h1 =>
   rw [e1] at q
   intro ι1 H1 u g1 S1 r1
   refine ⟨ι1,h1,en,S1,er.mono g1,?_⟩
   dsimp only [Out.go] at q
   cases e2:sa en h1 with
   | bad=>rw [e2] at q;exact q
   | ex cc h2=>rw [e2] at q;exact fun i2 H2 C g S e=>q i2 H2 σ C (g1.trans g) S (er.mono (g1.trans g)) e
   | ok x h2 =>
    rw [e2] at q
    intro ι2 H2 w g2 S2 r2
    refine ⟨ι2,h2,en,S2,er.mono (g1.trans g2),?_⟩
    dsimp only at q
    cases e3:sb en h2 with
    | bad=>rw [e3] at q;exact q
    | ex cc h3=>rw [e3] at q;exact fun i2 H2 C g S e=>q i2 H2 σ C (g1.trans (g2.trans g)) S (er.mono (g1.trans (g2.trans g))) e
    | ok y h3 =>
     rw [e3] at q
     intro ι3 H3 j g3 S3 r3
     have q2:=PostS.shift q (g1.trans (g2.trans g3))
     dsimp only at q2
     split at q2
     ·rename_i n
      split at q2
      ·rename_i xs hn
       split at q2
       ·rename_i k
        split at q2
        ·rename_i jj hj
         cases (r2.mono g3) with
         | @ref _ ad hr =>
          obtain ⟨o,e4,us,rfl,rs⟩:=S3.obj n _ ad hn hr
          have g4:=S3.growSet (u:=.lst (us.set jj u)) hr
          rw [bA r3]
          exact ⟨ad,us,k,jj,rfl,rfl,e4,by rw [<- rs.length];exact hj,q2 ι3 _ σ g4 (S3.set hr ⟨_,rfl,RVs.set (r1.mono (g2.trans (g3.trans g4))) jj (rs.mono g4)⟩) (er.mono (g1.trans (g2.trans (g3.trans g4))))⟩
        ·exact q2.elim
       ·exact q2.elim
      ·rename_i t kvs hn
       exact (dd ⟨_,h1,_,h2,_,h3,e1,e2,e3,n,t,kvs,rfl,hn⟩).elim
      ·exact q2.elim
     ·exact q2.elim
theorem xC {g:Value->Value->Sem Value} {r:R2} {neg:Bool} (hK:X.K=T.K)
  (h1:∀ (i j:Str) H Q,Q (V.bl (if neg then !(!(Builtin.Str.occurrences j i 0 j.length 1).isEmpty) else !(Builtin.Str.occurrences j i 0 j.length 1).isEmpty)) H->r (.str i) (.str j) H Q)
  (h2:∀ x y H Q p xs d ds,y=V.ref p->SqL T.K H p xs->DaV T.K H x d->DaVs T.K H xs ds->d.canLay0=true->(∀ e∈ds,e.canLay0=true/\e.depth<=30)->Q (V.bl (if neg then !(ds.any fun e=>PyData.eqv e d) else ds.any fun e=>PyData.eqv e d)) H->r x y H Q)
  (h2t:∀ x y H Q p xs d ds,y=V.ref p->SqT T.K H p xs->DaV T.K H x d->DaVs T.K H xs ds->d.canLay0=true->(∀ e∈ds,e.canLay0=true/\e.depth<=30)->Q (V.bl (if neg then !(ds.any fun e=>PyData.eqv e d) else ds.any fun e=>PyData.eqv e d)) H->r x y H Q)
  (h3:∀ (y:V) (a:Addr) o H Q,DGet H a y o->Q (V.bl (if neg then !o.isSome else o.isSome)) H->r y (.ref a) H Q) :
  kf T (fun x y h=>match iO x y h with | some b=>.ok (.bl (if neg then !b else b)) h | none=>.bad) r:=by
 intro ι h H x y u w E Q S rx ry p
 dsimp only at p
 cases hb:iO x y h with
 | none=>rw [hb] at p;exact p.elim
 | some b =>
  rw [hb] at p
  dsimp only at p
  unfold iO at hb
  split at hb
  ·cases hb
   obtain ⟨rfl,_⟩:=dE rx
   obtain ⟨rfl,_⟩:=dE ry
   exact h1 _ _ _ _ (p.now S (.bl _))
  ·rename_i n
   split at hb
   ·rename_i t kvs hn
    split at hb
    ·rename_i hk
     cases hb
     cases ry with
     | @ref _ ad hr =>
      obtain ⟨o,dg,alt⟩:=xA S hn hr rx hk
      refine h3 u ad o H Q dg ?_
      rcases alt with ⟨v1,rfl⟩ | ⟨v,u',v1,rfl,r3⟩
      ·rw [v1] at p;exact p.now S (.bl _)
      ·rw [v1] at p;exact p.now S (.bl _)
    ·cases hb
   ·rename_i xs hn
    split at hb
    ·rename_i d ds e1 e2
     cases hb
     obtain ⟨a,us,rfl,sq,rs⟩:=dN (xs:=xs) S ry (by simp [cU,hn])
     obtain ⟨q1,q2,q3⟩:=hU S 8 rx e1
     obtain ⟨q4,q5⟩:=lY (n:=8) (fun r e=>hU S 8 r e) rs e2
     exact h2 _ _ _ _ a us d ds rfl sq q1 q4 q2 (fun e he=>⟨(q5 e he).1,by have:=(q5 e he).2;lia⟩) (p.now S (.bl _))
    ·cases hb
   ·cases hb
  ·rename_i xs
   split at hb
   ·rename_i d ds e1 e2
    cases hb
    obtain ⟨a,us,rfl,sq,rs⟩:=dN S ry rfl
    obtain ⟨q1,q2,q3⟩:=hU S 8 rx e1
    obtain ⟨q4,q5⟩:=lY (n:=8) (fun r e=>hU S 8 r e) rs e2
    exact h2 _ _ _ _ a us d ds rfl sq q1 q4 q2 (fun e he=>⟨(q5 e he).1,by have:=(q5 e he).2;lia⟩) (p.now S (.bl _))
   ·cases hb
  ·rename_i xs
   split at hb
   ·rename_i d ds e1 e2
    cases hb
    obtain ⟨a,us,rfl,sq,rs⟩:=hE ry
    obtain ⟨q1,q2,q3⟩:=hU S 8 rx e1
    obtain ⟨q4,q5⟩:=lY (n:=8) (fun r e=>hU S 8 r e) rs e2
    exact h2t _ _ _ _ a us d ds rfl sq q1 q4 q2 (fun e he=>⟨(q5 e he).1,by have:=(q5 e he).2;lia⟩) (p.now S (.bl _))
   ·cases hb
  ·cases hb
end
end Sm
namespace L2
open PySem PySem.Spec PyProof.Rows
section
variable {X:Cx} {pins:List (Addr×Obj)} {σ:St} {H:Hp} {s:Shared}
theorem si (I:Inv X pins σ H s) (hu:X.A.units+64<cLine) {xs:List V} {ds:List PyData} {its:List Value} {d:PyData} {v:Value} {as:List Addr} (ra:Reads s.heap v d as) (hds:DaVs X.K H xs ds) (r:Vals xs its) (cd:d.canLay0=true) (cds:∀ e∈ds,e.canLay0=true/\e.depth<=30) :
  (∀ y,y∈its.toArray->SeqAt.EqAt X.A.in1 s y v (fZ s.heap d y))/\its.toArray.any (fZ s.heap d)=ds.any fun e=>PyData.eqv e d:=by
 obtain ⟨hl,hat⟩:=rB I hds r
 constructor
 ·intro y hy
  have hy':y∈its:=by simpa using hy
  obtain ⟨j,hj⟩:=NQ hy'
  have hlt:=(JD.mp hj).1
  have hdj:ds[j]? = some (ds[j]'(by lia)):=JY (by lia)
  obtain ⟨bs,rb⟩:=hat j _ _ hj hdj
  have cj:=cds _ (Kb hdj)
  rw [oj cj.1 rb]
  exact SeqAt.eqAt_reads _ _ _ _ _ _ _ _ rb ra cj.1 cd (by
   have:=MJ (ds[j]'(by lia)).depth d.depth
   show X.A.units+1+_<cLine
   lia)
 ·rw [<- Array.any_toList]
  refine rD hl fun j u e h1 h2=>?_
  obtain ⟨bs,rb⟩:=hat j _ _ h1 h2
  exact oj (cds _ (Kb h2)).1 rb
def Eu (K:PySem.W.Frag):R2:=fun x y H Q=>∃ p xs d ds,y = .ref p/\SqL K H p xs/\DaV K H x d/\DaVs K H xs ds/\d.canLay0=true/\(∀ e∈ds,e.canLay0=true/\e.depth<=30)/\Q (.bl (!(ds.any fun e=>PyData.eqv e d))) H
def Ew (K:PySem.W.Frag):R2:=fun x y H Q=>∃ p xs d ds,y = .ref p/\SqT K H p xs/\DaV K H x d/\DaVs K H xs ds/\d.canLay0=true/\(∀ e∈ds,e.canLay0=true/\e.depth<=30)/\Q (.bl (ds.any fun e=>PyData.eqv e d)) H
def Ey (K:PySem.W.Frag):R2:=fun x y H Q=>∃ p xs d ds,y = .ref p/\SqT K H p xs/\DaV K H x d/\DaVs K H xs ds/\d.canLay0=true/\(∀ e∈ds,e.canLay0=true/\e.depth<=30)/\Q (.bl (!(ds.any fun e=>PyData.eqv e d))) H
theorem Ez (hu:X.A.units+64<cLine):OpR X (compareOp .NotIn) (Eu X.K):=by
 intro pins s σ H x y v u Q I rx ry h
 obtain ⟨p,xs,d,ds,rfl,hq,hd,hds,cd,cds,q⟩:=h
 cases ry
 obtain ⟨its,r,pl,hz⟩:=I.list hq
 obtain ⟨as,ra⟩:=hd.reads I rx
 obtain ⟨h1,h2⟩:=si I hu ra hds r cd cds
 exact SeqAt.notIn_listAt (fZ s.heap d) pl.isList h1 ⟨.bl _,H,I,rfl,by rw [h2];exact q⟩
theorem EA (hu:X.A.units+64<cLine):OpR X (compareOp .In) (Ew X.K):=by
 intro pins s σ H x y v u Q I rx ry h
 obtain ⟨p,xs,d,ds,rfl,hq,hd,hds,cd,cds,q⟩:=h
 cases ry
 obtain ⟨its,r,pl,hz⟩:=I.tuple hq
 obtain ⟨as,ra⟩:=hd.reads I rx
 obtain ⟨h1,h2⟩:=si I hu ra hds r cd cds
 exact SeqAt.in_tupleAt (fZ s.heap d) pl h1 ⟨.bl _,H,I,rfl,by rw [h2];exact q⟩
theorem EB (hu:X.A.units+64<cLine):OpR X (compareOp .NotIn) (Ey X.K):=by
 intro pins s σ H x y v u Q I rx ry h
 obtain ⟨p,xs,d,ds,rfl,hq,hd,hds,cd,cds,q⟩:=h
 cases ry
 obtain ⟨its,r,pl,hz⟩:=I.tuple hq
 obtain ⟨as,ra⟩:=hd.reads I rx
 obtain ⟨h1,h2⟩:=si I hu ra hds r cd cds
 exact SeqAt.notIn_tupleAt (fZ s.heap d) pl h1 ⟨.bl _,H,I,rfl,by rw [h2];exact q⟩
theorem EC (hu:X.A.units+64<cLine):OpR X (compareOp .In) (fun x y H Q=>∃ a o,y = .ref a/\DGet H a x o/\Q (.bl o.isSome) H):=by
 intro pins s σ H x y v u Q I rx ry h
 obtain ⟨a,o,rfl,g,q⟩:=h
 cases ry
 exact qT (Ka (Kq (by decide:1<=64) _) hu) I g rx fun s' I' => ⟨.bl _,H,I',rfl,q⟩
theorem ED (hu:X.A.units+64<cLine):OpR X (compareOp .NotIn) (fun x y H Q=>∃ a o,y = .ref a/\DGet H a x o/\Q (.bl (!o.isSome)) H):=by
 intro pins s σ H x y v u Q I rx ry h
 obtain ⟨a,o,rfl,g,q⟩:=h
 cases ry
 exact Cw (Ka (Kq (by decide:1<=64) _) hu) I g rx fun s' I' => ⟨.bl _,H,I',rfl,q⟩
end
end L2
namespace Sm
open PySem PySem.Spec L2
section
variable {T:Tb} {E:St->XK} {X:Cx}
theorem mv (hK:X.K=T.K) (hu:X.A.units+64<cLine):Op T X (compareOp .In) gc:=by
 refine ⟨_,zgZ.or ((Dy hu).or ((EA hu).or (EC hu))),xC (neg:=false) (g:=compareOp .In) hK ?_ ?_ ?_ ?_⟩
 ·exact fun i j H Q q=>.inl ⟨i,j,rfl,rfl,q⟩
 ·exact fun x y H Q p xs d ds e1 e2 e3 e4 e5 e6 q=>.inr (.inl ⟨p,xs,d,ds,e1,hK▸e2,hK▸e3,hK▸e4,e5,e6,q⟩)
 ·exact fun x y H Q p xs d ds e1 e2 e3 e4 e5 e6 q=>.inr (.inr (.inl ⟨p,xs,d,ds,e1,hK▸e2,hK▸e3,hK▸e4,e5,e6,q⟩))
 ·exact fun y a o H Q g q=>.inr (.inr (.inr ⟨a,o,rfl,g,q⟩))
theorem sj (hK:X.K=T.K) (hu:X.A.units+64<cLine):Op T X (compareOp .NotIn) gE:=by
 refine ⟨_,zen.or ((Ez hu).or ((EB hu).or (ED hu))),xC (neg:=true) (g:=compareOp .NotIn) hK ?_ ?_ ?_ ?_⟩
 ·exact fun i j H Q q=>.inl ⟨i,j,rfl,rfl,q⟩
 ·exact fun x y H Q p xs d ds e1 e2 e3 e4 e5 e6 q=>.inr (.inl ⟨p,xs,d,ds,e1,hK▸e2,hK▸e3,hK▸e4,e5,e6,q⟩)
 ·exact fun x y H Q p xs d ds e1 e2 e3 e4 e5 e6 q=>.inr (.inr (.inl ⟨p,xs,d,ds,e1,hK▸e2,hK▸e3,hK▸e4,e5,e6,q⟩))
 ·exact fun y a o H Q g q=>.inr (.inr (.inr ⟨a,o,rfl,g,q⟩))
end
end Sm
namespace Sm
open PySem PySem.Spec L2
abbrev sk (x:Str) (C:Addr) (mg:Str->Option Value) (base:Heap):Prop:=PyProof.Rows.OwnCls x C [.type "ValueError",.type "Exception",.type "BaseException",.type "object"] "ValueError.__new__" mg base
structure GX (T:Tb) (mg:Str->Option Value) (base:Heap) (c:Nat) (x:Str):Prop where
 ex:∃ C,T.exc c=some C/\sk x C mg base
section
variable {T:Tb} {E:St->XK} {X:Cx} {pos np cpos:Pos} {e:Expr} {es:List Expr} {x:Str} {c:Nat} {as:SL}
theorem iR (G:GX T X.mg X.base c x) (hr:rh X E) (hg:Gl X x) (ha:fK T E X (e::es) as) (hc:X.calm=true:=by rfl) (hex:X.ex=[]:=by rfl)
  (hdb:(x == ("__debug__" : Str))=false:=by decide) (he:starEach (e::es) X.env=(false,eval e X.env)::starEach es X.env:=by rfl) (hpl:(backTo cpos (starEach es X.env)).any (·.1)=false:=by rfl) :
  eP T E X (.Raise (some (.Call (.Name x np) (e::es) [] cpos)) none pos) (g8 c as):=by
 obtain ⟨C,h1,O⟩:=G.ex
 refine fv (Dr O PySem.F.excBase_ValueError hc hex hr hg ha hdb he hpl) fun D σ H ⟨ι,h,en,S,er,q⟩=>⟨ι,h,en,S,er,q.go er fun xs h1' ι1 H1 us g1 S1 r1 q1=>?_⟩
 split at q1
 ·rename_i hl
  exact ⟨by rw [<- r1.length];exact hl,q1 ι1 H1 σ C S1.refl S1 (er.mono g1) h1⟩
 ·exact q1.elim
end
def gi (T:Tb) (f:Fn) (r:List V->Hp->VK->Prop):Prop:=∀ (ι:Ix) (h:AH) (H:Hp) (xs:List AV) (us:List V) (E:XK) (Q:VK),Sim T ι h H->RVs T ι H xs us->Post T ι H E (RV T) (f xs h) Q->r us H Q
section
variable {T:Tb} {E:St->XK} {X:Cx} {pos p:Pos} {e a:Expr} {es:List Expr} {x:Str} {as:SL} {sa:SE}
theorem xD {f:Fn} {r:List V->Hp->VK->Prop} (hs:gi T f r) {σ:St} {H:Hp} {Q:VK} (q:tE T E (aD f as) σ H Q):qI r (tA T E as) σ H Q:=by
 obtain ⟨ι,h,en,S,er,q⟩:=q
 exact ⟨ι,h,en,S,er,q.bind fun xs h1 ι1 H1 us g1 S1 r1 q1=>hs ι1 h1 H1 xs us _ Q S1 r1 q1⟩
theorem bF {id:String} {f:Fn} (hc:∃ r,CallR X (.builtin id) r/\gi T f r) (hg:Gl X x) (hm:X.mg x=none) (hv:bootBuiltins x=some (.builtin id)) (ha:fK T E X (e::es) as) (hn:x ≠ "__name__" := by decide) (hdb:(x == ("__debug__" : Str))=false:=by decide)
  (he:starEach (e::es) X.env=(false,eval e X.env)::starEach es X.env:=by rfl) (hpl:(backTo pos (starEach es X.env)).any (·.1)=false:=by rfl):aI T E X (.Call (.Name x p) (e::es) [] pos) (aD f as):=by
 obtain ⟨r,h1,h2⟩:=hc
 exact cq (qJ h1 hg hm hv ha hn hdb he hpl) fun σ H Q q=>xD h2 q
theorem mz {id:String} {f:Fn} (hc:∃ r,CallR X (.type id) r/\gi T f r) (hg:Gl X x) (hm:X.mg x=none) (hv:bootBuiltins x=some (.type id)) (ha:fK T E X (e::es) as) (hn:x ≠ "__name__" := by decide) (hdb:(x == ("__debug__" : Str))=false:=by decide)
  (he:starEach (e::es) X.env=(false,eval e X.env)::starEach es X.env:=by rfl) (hpl:(backTo pos (starEach es X.env)).any (·.1)=false:=by rfl):aI T E X (.Call (.Name x p) (e::es) [] pos) (aD f as):=by
 obtain ⟨r,h1,h2⟩:=hc
 exact cq (BU h1 hg hm hv ha hn hdb he hpl) fun σ H Q q=>xD h2 q
theorem b_len (hK:X.K=T.K):∃ r,CallR X (.builtin "len") r/\gi T aL r:=by
 refine ⟨_,zep.or (zeo.or C3),fun ι h H xs us E Q S r q=>?_⟩
 unfold aL at q
 split at q
 ·cases r with
  | cons r r' =>
   cases r'
   obtain ⟨rfl,n,_⟩:=dE r
   exact .inl ⟨_,rfl,n,q.now S (.int _)⟩
 ·cases r with
  | cons r r' =>
   cases r'
   obtain ⟨a,us,rfl,sq,rs⟩:=hE r
   exact .inr (.inl ⟨a,us,rfl,.inr (hK▸sq),by rw [<- rs.length];exact q.now S (.int _)⟩)
 ·cases r with
  | cons r r' =>
   cases r'
   obtain ⟨a,us,rfl,sq,rs⟩:=dN S r rfl
   exact .inr (.inl ⟨a,us,rfl,.inl (hK▸sq),by rw [<- rs.length];exact q.now S (.int _)⟩)
 ·rename_i n
  cases r with
  | cons r r' =>
   cases r'
   split at q
   ·rename_i xs hn
    obtain ⟨a,us,rfl,sq,rs⟩:=dN (xs:=xs) S r (by simp [cU,hn])
    exact .inr (.inl ⟨a,us,rfl,.inl (hK▸sq),by rw [<- rs.length];exact q.now S (.int _)⟩)
   ·rename_i kvs hn
    cases r with
    | @ref _ ad hr =>
     obtain ⟨o,e1,kus,rfl,rs⟩:=S.obj n _ ad hn hr
     exact .inr (.inr ⟨ad,kus,rfl,e1,by rw [<- Paired.length rs];exact q.now S (.int _)⟩)
   ·exact q.elim
 ·exact q.elim
theorem b_abs:∃ r,CallR X (.builtin "abs") r/\gi T jv r:=by
 refine ⟨_,Bw,fun ι h H xs us E Q S r q=>?_⟩
 unfold jv at q
 split at q
 ·cases r with
  | cons r r' => cases r';rw [bA r];exact ⟨_,rfl,q.now S (.int _)⟩
 ·exact q.elim
theorem EE (hc:X.calm=true:=by rfl):∃ r,CallR X (.builtin "max") r/\gi T rJ r:=by
 refine ⟨_,Bx hc,fun ι h H xs us E Q S r q=>?_⟩
 unfold rJ at q
 split at q
 ·cases r with
  | cons r r' => cases r' with
   | cons r1 r2=>cases r2;rw [bA r,bA r1];exact ⟨_,_,rfl,q.now S (.int _)⟩
 ·exact q.elim
theorem xE {ι:Ix} {H:Hp}:∀ {xs:List AV} {us:List V} {bs:List Bool},RVs T ι H xs us->lU xs=some bs->us=bs.map V.bl
 | _,_,_,.nil,e=>by cases e;rfl
 | _,_,bs,.cons (x:=x) r rs,e=>by
  unfold lU at e
  split at e
  ·rename_i hh;cases hh
  ·rename_i b r' hh
   cases hh
   obtain ⟨bs',e1,rfl⟩:=J3.mp e
   rw [hG r,xE rs e1];rfl
  ·cases e
theorem b_all (hK:X.K=T.K) (hc:X.calm=true:=by rfl):∃ r,CallR X (.builtin "all") r/\gi T jw r:=by
 refine ⟨_,Dg hc,fun ι h H xs us E Q S r q=>?_⟩
 unfold jw at q
 split at q
 ·split at q
  ·rename_i bs hb
   cases r with
   | cons r r' =>
    cases r'
    obtain ⟨a,us,rfl,sq,rs⟩:=dN S r rfl
    rw [xE rs hb] at sq
    exact ⟨a,bs,rfl,hK▸sq,q.now S (.bl _)⟩
  ·exact q.elim
 ·exact q.elim
theorem b_list (hK:X.K=T.K):∃ r,CallR X (.type "list") r/\gi T kb r:=by
 refine ⟨_,we,fun ι h H xs us E Q S r q=>?_⟩
 unfold kb at q
 split at q
 ·cases r with
  | cons r r' =>
   cases r'
   obtain ⟨a,us,rfl,sq,rs⟩:=hE r
   exact ⟨a,us,rfl,.inr (hK▸sq),fun l n=>jx S rs n q⟩
 ·cases r with
  | cons r r' =>
   cases r'
   obtain ⟨a,us,rfl,sq,rs⟩:=dN S r rfl
   exact ⟨a,us,rfl,.inl (hK▸sq),fun l n=>jx S rs n q⟩
 ·cases r with
  | cons r r' =>
   cases r'
   split at q
   ·rename_i xs hn
    obtain ⟨a,us,rfl,sq,rs⟩:=dN (xs:=xs) S r (by simp [cU,hn])
    exact ⟨a,us,rfl,.inl (hK▸sq),fun l n=>jx S rs n q⟩
   ·exact q.elim
 ·exact q.elim
theorem EF (hK:X.K=T.K):∃ r,CallR X (.type "list") r/\gi T kd r:=by
 refine ⟨_,we,fun ι h H xs us E Q S r q=>?_⟩
 unfold kd at q
 split at q
 ·cases r with
  | cons r r' =>
   cases r'
   obtain ⟨a,us,rfl,sq,rs⟩:=hE r
   exact ⟨a,us,rfl,.inr (hK▸sq),fun l n=>ow S rs n q⟩
 ·cases r with
  | cons r r' =>
   cases r'
   obtain ⟨a,us,rfl,sq,rs⟩:=dN S r rfl
   exact ⟨a,us,rfl,.inl (hK▸sq),fun l n=>ow S rs n q⟩
 ·cases r with
  | cons r r' =>
   cases r'
   split at q
   ·rename_i xs hn
    obtain ⟨a,us,rfl,sq,rs⟩:=dN (xs:=xs) S r (by simp [cU,hn])
    exact ⟨a,us,rfl,.inl (hK▸sq),fun l n=>ow S rs n q⟩
   ·exact q.elim
 ·exact q.elim
abbrev mB:List String:=["NoneType", "bool", "int", "str", "list", "tuple", "dict"]
theorem xF (K:PySem.W.Frag):∀ n∈mB,∀ t∈mB,PySem.W.kitOne K (.type n) (.type t)=some (n == t || (t == "int" && n == "bool")):=by
 intro n hn t ht
 simp only [mB,J8,MB,OJ] at hn ht
 rcases hn with rfl | rfl | rfl | rfl | rfl | rfl | rfl<;>rcases ht with rfl | rfl | rfl | rfl | rfl | rfl | rfl<;>rfl
theorem EG {c:V} {cv:Value} (rc:∀ u,RelV c u->u=cv) :
  CallR X (.builtin "isinstance") (fun xs H Q=>∃ a us r,xs=[.ref a,c]/\SqL X.K H a us/\PySem.W.kitOne X.K (.type "list") cv=some r/\Q (.bl r) H):=by
 intro pins s σ H xs us Q I r h
 obtain ⟨a,ws,k,rfl,sq,hk,q⟩:=h
 obtain ⟨u,w',rfl,rx,ry⟩:=qB r
 obtain rfl:=rc _ ry
 obtain rfl:u=Value.ref a:=rx
 obtain ⟨its,_,⟨o,n,e1,e2,_⟩,_⟩:=I.list sq
 exact KG M8 I.kIn ⟨_,e1,e2⟩ hk (fun z=>nomatch z) fun tk=>⟨.bl k,H,I.tok _,rfl,q⟩
theorem EH {ι:Ix} {h:AH} {H:Hp} {v:AV} {u:V} {n:String} (S:Sim T ι h H) (r:RV T ι H v u) (e:rK v h=some n):(cy T.K H u (.type n)\/(n = "list" /\ ∃ a us,u = .ref a/\SqL T.K H a us))/\n∈mB:=by
 unfold rK at e
 cases r with
 | non=>cases e;exact ⟨.inl .non,by decide⟩
 | bl b=>cases e;exact ⟨.inl (.bl b),by decide⟩
 | int b=>cases e;exact ⟨.inl (.int b),by decide⟩
 | str n o=>cases e;exact ⟨.inl (.str _),by decide⟩
 | tup n q r=>cases e;exact ⟨.inl (.tup q),by decide⟩
 | fl n q r=>cases e;exact ⟨.inr ⟨rfl,_,_,rfl,.inl q⟩,by decide⟩
 | kfl q r=>cases e;exact ⟨.inr ⟨rfl,_,_,rfl,.inr q⟩,by decide⟩
 | @ref k a q =>
  dsimp only at e
  split at e
  ·rename_i xs hn
   cases e
   obtain ⟨o,e1,us,rfl,rs⟩:=S.obj k _ a hn q
   exact ⟨.inl (.lst e1),by decide⟩
  ·rename_i t kvs hn
   cases e
   obtain ⟨o,e1,r⟩:=S.obj k _ a hn q
   cases t with
   | false=>obtain ⟨kus,rfl,rs⟩:=r;exact ⟨.inl (.dK e1),by decide⟩
   | true=>obtain ⟨kus,rfl,rs⟩:=r;exact ⟨.inl (.dT e1),by decide⟩
  ·cases e
 | exc _ _ _=>cases e
theorem oE {t:Str} {id:String} {p2:Pos} (hK:X.K=T.K) (hg:Gl X "isinstance") (hm:X.mg "isinstance" = none) (ha:aI T E X a sa) (hgt:Gl X t) (hmt:X.mg t=none) (hvt:bootBuiltins t=some (.type id)) (hid:id∈mB) (hnt:t ≠ "__name__" := by decide) (hdt:(t == ("__debug__" : Str))=false:=by decide)
  (he:starEach [a,.Name t p2] X.env=(false,eval a X.env)::starEach [.Name t p2] X.env:=by rfl):aI T E X (.Call (.Name "isinstance" p) [a,.Name t p2] [] pos) (gg id sa):=by
 refine cq (qJ ((wF (X:=X) (wG id)).or (EG (X:=X) (wG id))) hg hm ML (lC ha (lC (Ar (v:=.ty id) hgt hmt hvt rfl hnt hdt) qF) he) (he:=he)) fun σ H Q ⟨ι,h,en,S,er,q⟩=>⟨ι,h,en,S,er,q.bind fun v h1 ι1 H1 u g1 S1 r1 q1=>?_⟩
 split at q1
 ·rename_i n hn
  obtain ⟨ty,hmem⟩:=EH S1 r1 hn
  rcases ty with ty | ⟨rfl,ad,us,rfl,sq⟩
  ·exact .inl ⟨u,.type n,_,rfl,hK▸ty,xF _ n hmem id hid,q1.now S1 (.bl _)⟩
  ·exact .inr ⟨ad,us,_,rfl,hK▸sq,xF _ _ hmem id hid,q1.now S1 (.bl _)⟩
 ·exact q1.elim
def iS (T:Tb) (f:FM) (r:V->List V->Hp->VK->Prop):Prop:=∀ (ι:Ix) (h:AH) (H:Hp) (x:AV) (xs:List AV) (u:V) (us:List V) (E:XK) (Q:VK),Sim T ι h H->RV T ι H x u->RVs T ι H xs us->Post T ι H E (RV T) (f x xs h) Q->r u us H Q
def ie (T:Tb) (chk:AV->AH->Bool) (n:String):Prop:=∀ (ι:Ix) (h:AH) (H:Hp) (x:AV) (u:V),Sim T ι h H->RV T ι H x u->chk x h=true->n9 T.K n u H
theorem c7:ie T aZ "list" := fun ι h H x u S r e=>by
 obtain ⟨xs,e1⟩:=Kl.mp e
 obtain ⟨a,us,rfl,sq,rs⟩:=dN S r e1
 exact .inl ⟨rfl,us,sq⟩
theorem xG:ie T ou "str" := fun ι h H x u S r e=>by
 unfold ou at e
 split at e
 ·obtain ⟨rfl,_⟩:=dE r;rfl
 ·cases e
variable {o:Expr} {so:SE} {name:Str} {apos:Pos} {chk:AV->AH->Bool} {f:FM} {tn id:String}
theorem bK (hK:X.K=T.K) (pa:PlainAttrs tn) (slot:Slot tn name id) (hty:typeOf (.builtin id)=pure (.type "method_descriptor")) (hm:∃ r,fu X id r/\iS T f r) (hc:ie T chk tn) (ho:aI T E X o so) (ha:fK T E X (e::es) as)
  (hbase:attributeBase o name X.env (eval o X.env)=eval o X.env:=by rfl)
  (hfew:((backTo pos (starEach (e::es) X.env)).all (fun x=>!x.1) && (backToKw pos (keywordEach [] X.env)).all (fun x=>x.1.isSome)
   && decide ((e::es).length+([]:List Keyword).length+(if ([]:List Keyword).isEmpty then 0 else 1)<30))=true:=by rfl)
  (hline:(apos.endLine == pos.line)=true:=by rfl) (hs:starEach (e::es) X.env=(false,eval e X.env)::starEach es X.env:=by rfl) (hplain:(backTo pos (starEach es X.env)).any (·.1)=false:=by rfl) :
  aI T E X (.Call (.Attribute o name apos) (e::es) [] pos) (cZ chk f so as):=by
 obtain ⟨r,h1,h2⟩:=hm
 refine cq (Cj pa slot hty h1 ho ha hbase hfew hline hs hplain) fun σ H Q ⟨ι,h,en,S,er,q⟩=>⟨ι,h,en,S,er,q.bind fun x h1 ι1 H1 u g1 S1 r1 q1=>?_⟩
 by_cases hx:chk x h1=true
 ·rw [JJ hx] at q1
  exact ⟨hK▸hc ι1 h1 H1 x u S1 r1 hx,ι1,h1,en,S1,er.mono g1,q1.bind fun xs h2' ι2 H2 us g2 S2 r2 q2=>h2 ι2 h2' H2 x xs u us _ Q S2 (r1.mono g2) r2 q2⟩
 ·rw [JM hx] at q1;exact q1.elim
theorem su (hK:X.K=T.K) (pa:PlainAttrs tn) (slot:Slot tn name id) (hty:typeOf (.builtin id)=pure (.type "method_descriptor")) (hm:∃ r,fu X id r/\iS T f r) (hc:ie T chk tn) (ho:aI T E X o so)
  (hbase:attributeBase o name X.env (eval o X.env)=eval o X.env:=by rfl) (hline:(apos.endLine == pos.line)=true:=by rfl):aI T E X (.Call (.Attribute o name apos) [] [] pos) (g9 chk f so):=by
 obtain ⟨r,h1,h2⟩:=hm
 refine cq (Ci pa slot hty h1 ho hbase hline) fun σ H Q ⟨ι,h,en,S,er,q⟩=>⟨ι,h,en,S,er,q.bind fun x h1 ι1 H1 u g1 S1 r1 q1=>?_⟩
 by_cases hx:chk x h1=true
 ·rw [JJ hx] at q1
  exact ⟨hK▸hc ι1 h1 H1 x u S1 r1 hx,h2 ι1 h1 H1 x [] u [] _ Q S1 r1 .nil q1⟩
 ·rw [JM hx] at q1;exact q1.elim
theorem dY:∃ r,fu X "list.append" r/\iS T bW r:=by
 refine ⟨_,wm,fun ι h H x xs u us E Q S rx rs q=>?_⟩
 unfold bW at q
 split at q
 ·rename_i n y
  split at q
  ·rename_i ys hn
   split at q
   ·rename_i hl
    cases rx with
    | @ref _ ad hr =>
     cases rs with
     | @cons _ uu _ _ r r' =>
      cases r'
      obtain ⟨o,e1,ws,rfl,rw_⟩:=S.obj n _ ad hn hr
      have g:=S.growSet (u:=.lst (ws++[uu])) hr
      exact ⟨ad,ws,_,rfl,rfl,e1,by rw [<- rw_.length];exact hl,q ι _ _ g (S.set hr ⟨_,rfl,(rw_.mono g).append (.cons (r.mono g) .nil)⟩) .non⟩
   ·exact q.elim
  ·exact q.elim
 ·exact q.elim
theorem xH:∃ r,fu X "list.pop" r/\iS T cO r:=by
 refine ⟨_,Cq,fun ι h H x xs u us E Q S rx rs q=>?_⟩
 unfold cO at q
 split at q
 ·rename_i n
  split at q
  ·rename_i ys hn
   split at q
   ·rename_i y hy
    cases rx with
    | @ref _ ad hr =>
     cases rs
     obtain ⟨o,e1,ws,rfl,rw_⟩:=S.obj n _ ad hn hr
     have g:=S.growSet (u:=.lst ws.dropLast) hr
     obtain ⟨v,e2,r2⟩:=rw_.get hy
     refine ⟨ad,ws,v,rfl,rfl,e1,by rw [<- rw_.length];exact e2,q ι _ _ g (S.set hr ⟨_,rfl,?_⟩) (r2.mono g)⟩
     have z:=(rw_.mono g).take (ys.length-1)
     have e3:ys.take (ys.length-1)=ys.dropLast:=NJ.symm
     have e4:ws.take (ys.length-1)=ws.dropLast:=by rw [rw_.length];exact NJ.symm
     rw [e3,e4] at z
     exact z
   ·exact q.elim
  ·exact q.elim
 ·exact q.elim
theorem EI:∃ r,fu X "str.count" r/\iS T rL r:=by
 refine ⟨_,Df,fun ι h H x xs u us E Q S rx rs q=>?_⟩
 unfold rL at q
 split at q
 ·cases rs with
  | cons r r' =>
   cases r'
   obtain ⟨rfl,_⟩:=dE rx
   obtain ⟨rfl,_⟩:=dE r
   exact ⟨_,_,rfl,rfl,q.now S (.int _)⟩
 ·exact q.elim
end
end Sm
namespace Sm
open PySem PySem.Spec L2
theorem Out.bind_assoc {α β γ:Type} (o:Out α) (f:α->AH->Out β) (g:β->AH->Out γ):(o.bind f).bind g=o.bind fun a h=>(f a h).bind g:=by cases o<;>rfl
section
variable {T:Tb} {E:St->XK} {X:Cx} {pos p2:Pos} {a b:Expr} {sa sb:SE}
def tO (T:Tb) (E:St->XK):Option SE->TO
 | none=>v5
 | some s=>v7 (tE T E s)
abbrev oF (T:Tb) (E:St->XK) (X:Cx) (e:Option Expr) (s:Option SE):Prop:=PO X e (tO T E s)
theorem oG:oF T E X none none:=BZ
theorem iT (h:aI T E X a sa):oF T E X (some a) (some sa):=B3 h
@[simp] def oH (s:Option SE):En->AH->Out (Option Int):=fun en h=>match s with
 | none=>.ok none h
 | some l=>(l en h).bind fun v h2=>match v with | .int i=>.ok (some i) h2 | _=>.bad
theorem xI {s:Option SE} {σ:St} {H:Hp} {ι:Ix} {h:AH} {en:En} {γ δ:Type} {R':Ix->Hp->γ->δ->Prop} {Q0:δ->Hp->Prop} {f:Option Int->AH->Out γ} {Q:Option Int->Hp->Prop} (S:Sim T ι h H) (er:ER T ι H en σ) (q:Post T ι H (E σ) R' ((oH s en h).bind f) Q0)
  (k:∀ l h' ι' H',Grow ι H ι' H'->Sim T ι' h' H'->Post T ι' H' (E σ) R' (f l h') Q0->Q l H'):tO T E s σ H Q:=by
 cases s with
 | none=>exact k none h ι H S.refl S q
 | some l =>
  refine ⟨ι,h,en,S,er,?_⟩
  unfold oH at q
  dsimp only at q
  rw [Out.bind_assoc] at q
  refine q.bind fun v h1 ι1 H1 u g1 S1 r1 q1=>?_
  split at q1
  ·rw [bA r1]
   exact ⟨_,rfl,k _ _ ι1 H1 g1 S1 q1⟩
  ·exact q1.elim
@[simp] def dO (x:AV) (l u:Option Int) (h:AH):Out AV:=match x with
 | .fl xs=>.ok (.fl (dD xs l u)) h
 | .str z=>.ok (.str (bD z l u)) h
 | .tup xs=>if ¬ (HT.sIx xs.length 0 l=0/\HT.sIx xs.length xs.length u=xs.length) then .ok (.tup (dD xs l u)) h else .bad
 | .ref n=>match h[n]? with
  | some (.lst xs)=>.ok (.fl (dD xs l u)) h
  | _=>.bad
 | _=>.bad
@[simp] def cD (a:SE) (lo hi:Option SE):SE:=fun en h=>(a en h).bind fun x h1=>(oH lo en h1).bind fun l h2=>(oH hi en h2).bind fun u h3=>dO x l u h3
theorem RVs.cut {ι:Ix} {H:Hp} {xs:List AV} {us:List V} {lo hi:Option Int} (r:RVs T ι H xs us):RVs T ι H (dD xs lo hi) (dS us lo hi):=by
 unfold dD dS
 rw [<- r.length]
 exact (r.drop _).take _
theorem EJ {ι:Ix} {H:Hp} {z:Str} {l u:Option Int} (hz:z.length<=sizeLine) (hc:z.cps.all (· < 0x110000)=true):RV T ι H (.str (bD z l u)) (.str (bD z l u)):=by
 refine .str ?_ ?_
 ·refine JK ?_ hz
  simp [bD,Str.length];lia
 ·simp only [bD,List.all_toArray,Kz]
  intro c h
  have hm:c∈z.cps.toList:=K1 (K2 h)
  exact (Ln.mp hc) c (by simpa using hm)
theorem ku {lo hi:Option Expr} {sl sh:Option SE} (hK:X.K=T.K) (ha:aI T E X a sa) (hl:oF T E X lo sl) (hh:oF T E X hi sh):aI T E X (.Subscript a (.Slice lo hi none p2) pos) (cD sa sl sh):=by
 refine cq (B5 (zi3.or (sl_tup.or DM)) ha hl hh) fun σ H Q ⟨ι,h,en,S,er,q⟩=>⟨ι,h,en,S,er,q.bind fun x h1 ι1 H1 u g1 S1 r1 q1=>?_⟩
 refine xI (E:=E) S1 (er.mono g1) q1 fun l h2 ι2 H2 g2 S2 q2=>xI (E:=E) S2 (er.mono (g1.trans g2)) q2 fun w h3 ι3 H3 g3 S3 q3=>?_
 have r3:=r1.mono (g2.trans g3)
 unfold dO at q3
 split at q3
 ·obtain ⟨ad,us,rfl,sq,rs⟩:=dN S3 r3 rfl
  exact .inl ⟨ad,us,rfl,hK▸sq,fun p n=>jx S3 rs.cut n q3⟩
 ·obtain ⟨rfl,hz,hc⟩:=dE r3
  exact .inr (.inr ⟨_,rfl,hz,q3.now S3 (EJ hz hc)⟩)
 ·rename_i xs
  split at q3
  ·rename_i hz
   obtain ⟨ad,us,rfl,sq,rs⟩:=hE r3
   exact .inr (.inl ⟨ad,us,rfl,hK▸sq,by rw [<- rs.length];exact hz,fun p n=>rN S3 rs.cut n q3⟩)
  ·exact q3.elim
 ·split at q3
  ·rename_i xs hn
   obtain ⟨ad,us,rfl,sq,rs⟩:=dN (xs:=xs) S3 r3 (by simp [cU,hn])
   exact .inl ⟨ad,us,rfl,hK▸sq,fun p n=>jx S3 rs.cut n q3⟩
  ·exact q3.elim
 ·exact q3.elim
theorem dZ {x:Str} {i:Int} {p:Pos} (hg:Gl X x) (hm:∃ t,X.mg x=some (.int i t)) (hd:(x == ("__debug__" : Str))=false:=by decide):aI T E X (.Name x p) (af (.int i)):=by
 obtain ⟨t,hm⟩:=hm
 exact DU hg hm hd
end
def DG (K:PySem.W.Frag) (mg:Str->Option Value) (x:Str) (st:Stmt) (ps:List Str):Prop:=∃ f fd,mg x=some (.ref f)/\PySem.W.keepIn K (.ref f)=true/\Binds K fd ps []/\Fun K x x st f fd
end Sm
namespace Sm
open PySem PySem.Spec L2
def xJ (N:List Str) (sc:Scope) (x₁:Str) (jf:List (Nat×Str)) (scope:Scope):Bool :=
 decide (x₁::jf.map (·.2)).Nodup && (scope.names.lookup x₁ == some .local) && jf.all (fun p=>N[p.1]? == some p.2) && jf.all (fun p=>scope.names.lookup p.2 == some .free) && (scope.kind == .function) &&
 scope.names.all (fun y=>y.2 != .cell) && scope.names.all (fun y=>y.2 != .free || sc.names.lookup y.1 == some .cell || sc.names.lookup y.1 == some .free) && scope.names.all (fun y=>y.2 != .local || scope.names.lookup y.1 == some .local)
theorem iU {X:Cx} {N:List Str} {sc scope:Scope} {x₁:Str} {jf:List (Nat×Str)} (hN:X.N=N) (hk:∀ x,X.env.kindOf x=sc.names.lookup x) (h:xJ N sc x₁ jf scope=true):cV X x₁ jf scope:=by
 unfold xJ at h
 simp only [KZ,KA,Kz,OI,bne_iff_ne,Bool.or_eq_true] at h
 obtain ⟨⟨⟨⟨⟨⟨⟨h1,h2⟩,h3⟩,h4⟩,h5⟩,h6⟩,h7⟩,h8⟩:=h
 refine ⟨h1,h2,fun p hp=>by rw [hN];exact h3 p hp,h4,h5,fun y hy=>h6 y hy,fun y hy e=>?_,fun y hy e=>?_⟩
 ·rw [hk]
  rcases h7 y hy with (z | z) | z
  ·exact absurd e z
  ·exact .inl z
  ·exact .inr z
 ·rcases h8 y hy with z | z
  ·exact absurd e z
  ·exact z
end Sm
namespace Sm
open PySem PySem.Spec L2
theorem sv {T:Tb} {ι:Ix} {H:Hp}:∀ ns:List Int,RVs T ι H (ns.map AV.int) (ns.map V.int)
 | []=>.nil
 | n::ns=>.cons (.int n) (sv ns)
theorem sC {T:Tb} {H:Hp}:Sim T ⟨[],[]⟩ [] H:=⟨rfl,Mq,(fun _ z=>nomatch z),(fun i o a e=>by simp at e)⟩
def sD (K:PySem.W.Frag):Sp:=fun vs H Q _=>∃ (a:Addr) (ns:List Int),vs=[.ref a]/\SqL K H a (ns.map V.int)/\ns.length<=63/\∀ H',Q (.bl true) H'
theorem EK {T:Tb} {F:Fn} (ht:∀ ns:List Int,ns.length<=63->∃ h',F [.fl (ns.map AV.int)] [] = .ok (.bl true) h'):∀ vs H Q E,sD T.K vs H Q E->ic T F vs H Q E:=by
 rintro vs H Q E ⟨a,ns,rfl,hs,hl,q⟩
 obtain ⟨h',e⟩:=ht ns hl
 refine ⟨⟨[],[]⟩,[],[.fl (ns.map AV.int)],sC,.cons ?_ .nil,?_⟩
 ·rcases hs with hs | hs
  ·exact .fl (by simp [Ix.all]) hs (sv ns)
  ·exact .kfl hs (sv ns)
 ·rw [e]
  intro ι' H' u g S r
  rw [hG r]
  exact q H'
theorem EL {P:Program} {w:World} {outer:List Env} {H:Hp} {s s':Shared} {e:Value} (h:cN P w outer H s (fun _ _ _=>False) e s'):False:=by
 obtain ⟨_,_,_,_,_,_,_,_,_,_,_,_,_,_,q⟩:=h
 exact q
end Sm
namespace Sm
open PySem PySem.Spec L2
@[simp] def mC:List AV->Option (List Int)
 | []=>some []
 | .int i::r=>(mC r).map (i :: ·)
 | _=>none
@[simp] def fD:Fn:=fun args h=>match args with
 | [.fl xs]=>match mC xs with
  | some ns=>.ok (.int ns.sum) h
  | none=>.bad
 | _=>.bad
@[simp] def ig (a b c:SE):SI:=fun en h=>(a en h).bind fun v h1=>(b en h1).bind fun w h2=>(c en h2).bind fun z h3=>match v,w,z with
 | .int i,.int j,.int k=>if i.natAbs<2 ^ 40/\j.natAbs<2 ^ 40/\0<k/\k<2 ^ 20 then .ok ((List.range (if i<j then (j-i-1) / k+1 else 0:Int).toNat).map (fun m:Nat=>.int (i+m*k)),none) h3 else .bad
 | _,_,_=>.bad
section
variable {T:Tb} {E:St->XK} {X:Cx} {pos p:Pos} {e a b c:Expr} {sa sb sc:SE}
theorem xK {ι:Ix} {H:Hp}:∀ {xs:List AV} {us:List V} {bs:List Int},RVs T ι H xs us->mC xs=some bs->us=bs.map V.int
 | _,_,_,.nil,e=>by cases e;rfl
 | _,_,bs,.cons (x:=x) r rs,e=>by
  unfold mC at e
  split at e
  ·rename_i hh;cases hh
  ·rename_i b r' hh
   cases hh
   obtain ⟨bs',e1,rfl⟩:=J3.mp e
   rw [bA r,xK rs e1];rfl
  ·cases e
theorem b_sum (hK:X.K=T.K) (hc:X.calm=true:=by rfl):∃ r,CallR X (.builtin "sum") r/\gi T fD r:=by
 refine ⟨_,Dz hc,fun ι h H xs us E Q S r q=>?_⟩
 unfold fD at q
 split at q
 ·split at q
  ·rename_i bs hb
   cases r with
   | cons r r' =>
    cases r'
    obtain ⟨a,us,rfl,sq,rs⟩:=dN S r rfl
    rw [xK rs hb] at sq
    exact ⟨a,bs,rfl,hK▸sq,q.now S (.int _)⟩
  ·exact q.elim
 ·exact q.elim
theorem xM {ι:Ix} {H:Hp} {lo c:Int} {n:Nat}:gF T (eO lo c n) ι H ((List.range n).map (fun m:Nat=>AV.int (lo+m*c))) none:=by
 constructor
 ·intro i ι' h' H' y g S _ e
  rw [Kh] at e
  obtain ⟨m,e1,rfl⟩:=J3.mp e
  have hi:i<n:=by
   have:=(JD.mp e1).1
   simpa using this
  rw [MP hi] at e1
  cases e1
  refine ⟨hi,?_⟩
  rintro u H2 ⟨rfl,rfl⟩
  exact ⟨S.refl,S,.int _⟩
 ·intro i ι' h' H' g S _ hl
  have hl':n<=i:=by simpa using hl
  exact hl'
theorem xN {tg:Expr} {p:Pos} (hg:Gl X "range") (hm:X.mg "range" = none) (ha:aI T E X a sa) (hb:aI T E X b sb) (hc:aI T E X c sc) (hs:starEach [a,b,c] X.env=[(false,eval a X.env),(false,eval b X.env),(false,eval c X.env)]:=by rfl) (hs2:starEach [b,c] X.env=[(false,eval b X.env),(false,eval c X.env)]:=by rfl) (hs3:starEach [c] X.env=[(false,eval c X.env)]:=by rfl) :
  gG T X tg (.Call (.Name "range" p) [a,b,c] [] pos) (ig sa sb sc) :=
 km (DF hg hm (aj ha (aj hb (aj hc aq hs3) (by rw [hs2,hs3])) (by rw [hs,hs2])) hs hs2) fun σ H R ⟨ι,h,en,S,er,q⟩=>by
  unfold ig at q
  refine ⟨ι,h,en,S,er,?_⟩
  unfold ai
  cases e:sa en h with
  | bad=>rw [e] at q;exact q
  | ex c h1=>rw [e] at q;exact q.elim
  | ok v h1 =>
   rw [e] at q
   dsimp only [Out.bind] at q ⊢
   cases e':sb en h1 with
   | bad=>rw [e'] at q;exact q
   | ex c h1=>rw [e'] at q;exact q.elim
   | ok v' h2 =>
    rw [e'] at q
    dsimp only at q ⊢
    cases e'':sc en h2 with
    | bad=>rw [e''] at q;exact q
    | ex c h1=>rw [e''] at q;exact q.elim
    | ok v'' h3 =>
     rw [e''] at q
     dsimp only at q
     intro ι1 H1 u g1 S1 r1
     split at q
     ·rename_i hx
      split at hx
      ·split at hx
       ·rename_i hb
        cases hx
        cases r1 with
        | cons r r' =>
         cases r' with
         | cons r2 r3 =>
          cases r3 with
          | cons r4 r5 =>
           cases r5
           rw [bA r,bA r2,bA r4]
           exact ⟨_,_,_,rfl,hb,q ι1 H1 _ g1 S1 xM⟩
       ·cases hx
      ·cases hx
     ·exact q.elim
theorem oI {sts:List Stmt} {E:St->XK}:cH T E X sts (fun _ _=>.bad):=fun pins s σ H D I ⟨ι,h,en,S,er,q⟩=>q.elim
end
theorem EM:∀ {us:List Value},us.length=1->∃ a:Value,us=[a]
 | [a],_=>⟨a,rfl⟩
theorem EO:∀ {us:List Value},us.length=2->∃ a b:Value,us=[a,b]
 | [a,b],_=>⟨a,b,rfl⟩
theorem ES:∀ {us:List Value},us.length=3->∃ a b c:Value,us=[a,b,c]
 | [a,b,c],_=>⟨a,b,c,rfl⟩
@[simp] def gI:FM:=fun x vs h=>match x,vs with
 | .ref n,[.ref k]=>match h[n]?,h[k]? with
  | some (.lst xs),some (.lst ys)=>if xs.length+ys.length<=sizeLine then .ok .non (h.set n (.lst (xs++ys))) else .bad
  | _,_=>.bad
 | _,_=>.bad
theorem xO {T:Tb} {X:Cx}:∃ r,fu X "list.extend" r/\iS T gI r:=by
 refine ⟨_,Cp,fun ι h H x xs u us E Q S rx rs q=>?_⟩
 unfold gI at q
 split at q
 ·rename_i n k
  split at q
  ·rename_i ys zs hn hk
   split at q
   ·rename_i hl
    cases rx with
    | @ref _ ad hr =>
     cases rs with
     | @cons _ uu _ _ r r' =>
      cases r'
      cases r with
      | @ref _ bd hb =>
       obtain ⟨o,e1,ws,rfl,rw_⟩:=S.obj n _ ad hn hr
       obtain ⟨o2,e2,ws2,rfl,rw2⟩:=S.obj k _ bd hk hb
       have g:=S.growSet (u:=.lst (ws++ws2)) hr
       exact ⟨ad,bd,ws,ws2,rfl,rfl,e1,e2,by rw [<- rw_.length,<- rw2.length];exact hl,q ι _ _ g (S.set hr ⟨_,rfl,(rw_.mono g).append (rw2.mono g)⟩) .non⟩
   ·exact q.elim
  ·exact q.elim
 ·exact q.elim
def d5:Nat:=100000000
theorem ET:bootBuiltins "tuple" = some (.type "tuple"):=by decide +kernel
end Sm
namespace Sm
open PySem PySem.Spec L2
def oJ:FM:=fun x vs h=>match x,vs with
 | .str z,[]=>if (Txt.upper z).length<=sizeLine/\(Txt.upper z).cps.all (· < 0x110000)=true then .ok (.str (Txt.upper z)) h else .bad
 | _,_=>.bad
theorem EU {T:Tb} {X:Cx}:∃ r,fu X "str.upper" r/\iS T oJ r:=by
 refine ⟨_,DR,fun ι h H x xs u us E Q S rx rs q=>?_⟩
 unfold oJ at q
 split at q
 ·split at q
  ·rename_i hz
   cases rs
   obtain ⟨rfl,_⟩:=dE rx
   exact ⟨_,rfl,rfl,hz.1,q.now S (.str hz.1 hz.2)⟩
  ·exact q.elim
 ·exact q.elim
def jC (a:SE) (t:Tg) (b:SS):SS:=fun en h=>match a en h with
 | .ok (.fl xs) h1=>cQ none xs t b xs.reverse en h1
 | .ok (.ref n) h1=>(match h1[n]? with
  | some (.lst xs)=>cQ (some n) xs t b xs.reverse en h1
  | _=>.bad)
 | _=>.bad
structure mD (T:Tb) (J:It) (ι:Ix) (H:Hp) (ys:List AV) (L:AH->Bool):Prop where
 go:∀ (i:Nat) (ι':Ix) (h':AH) (H':Hp) (x:AV),Ext ι H ι' H'->Sim T ι' h' H'->L h'=true->ys[i]? = some x->J.go i H'/\∀ u H2,J.yld i H' u H2->Grow ι' H' ι' H2/\Sim T ι' h' H2/\RV T ι' H2 x u
 stop:∀ (i:Nat) (ι':Ix) (h':AH) (H':Hp),Ext ι H ι' H'->Sim T ι' h' H'->L h'=true->ys.length<=i->J.stop i H'
section
variable {T:Tb} {E:St->XK} {X:Cx} {pos:Pos} {a:Expr} {sa:SE} {sts:List Stmt} {s1:SS}
theorem sE {ι:Ix} {H:Hp} {a:Addr} {us:List V} {xs:List AV} {K:PySem.W.Frag} {w:Option Nat} (keep:∀ (ι':Ix) (h':AH) (H':Hp),Ext ι H ι' H'->Sim T ι' h' H'->bV w xs h'=true->∃ us',us'.length=us.length/\SqL K H' a us'/\RVs T ι' H' xs us') (hl:xs.length=us.length):mD T (rE K a us.length) ι H xs.reverse (bV w xs):=by
 refine ⟨fun i ι' h' H' x x' S' lv hx=>?_,fun i ι' h' H' _ _ _ hi=>?_⟩
 ·obtain ⟨us',hl',sq,rs⟩:=keep ι' h' H' x' S' lv
  have hi:i<xs.length:=by have:=(JD.mp hx).1;rwa [MQ] at this
  rw [List.getElem?_reverse hi] at hx
  rw [hl] at hx
  obtain ⟨u,hu,ru⟩:=rs.get hx
  refine ⟨⟨us',u,sq,hl',by lia,hu⟩,fun v H2 y=>?_⟩
  obtain ⟨rfl,y2⟩:=y
  have:=y2 us' sq
  rw [hu] at this
  cases this
  exact ⟨S'.refl,S',ru⟩
 ·show us.length<=i
  rw [MQ] at hi
  lia
def xP (g:TG) (tb:TS) (D:cM) (σ:St) (H1:Hp) (J:It):Prop:=∃ W:Nat->Nat->St->Hp->Prop,(∃ m,W 0 m σ H1)/\∀ i m σ H,W i m σ H->(J.stop i H/\D.nx σ H)\/(J.go i H/\∃ N:St->Hp->Prop,(∀ σ' H',N σ' H'->∃ m',m'<m/\W (i+1) m' σ' H')/\∀ x H',J.yld i H x H'->g x σ H' fun σ' H'' => tb { D with nx:=N,ct:=N,bk:=D.nx } σ' H'')
theorem sF {g:TG} {t:Tg} {J:It} {ι1:Ix} {h1:AH} {H1:Hp} {en:En} {σ:St} {D:cM} {w:Option Nat} {all ys:List AV}
  (hg2:∀ {ι:Ix} {h:AH} {H:Hp} {en e:En} {σ:St} {v:AV} {u:V} {Q:St->Hp->Prop},Sim T ι h H->ER T ι H en σ->RV T ι H v u->df t v en=some e->(∀ σ',ER T ι H e σ'->Q σ' H)->g u σ H Q)
  (S1:Sim T ι1 h1 H1) (er:ER T ι1 H1 en σ) (IR:mD T J ι1 H1 ys (bV w all)) (q:PostS T ι1 H1 E (cQ w all t s1 ys en h1) D):xP g (tS T EN s1) D σ H1 J:=by
 refine ⟨fun i m σ H=>m=ys.length-i/\i<=ys.length/\∃ ι' h' en',Grow ι1 H1 ι' H/\Sim T ι' h' H/\ER T ι' H en' σ/\PostS T ι' H E (cQ w all t s1 (ys.drop i) en' h') D,
  ⟨ys.length,by simp,Kk _,ι1,h1,en,S1.refl,S1,er,q⟩,?_⟩
 rintro i m σ H ⟨rfl,hi,ι',h',en',g',S',er',q'⟩
 by_cases hl:i<ys.length
 ·rw [oy hl] at q'
  unfold cQ at q'
  split at q'
  ·rename_i hlive
   obtain ⟨go,yld⟩:=IR.go i ι' h' H ys[i] g'.ext S' hlive (by simp [hl])
   refine .inr ⟨go,fun σ H=>∃ ι' h' en',Grow ι1 H1 ι' H/\Sim T ι' h' H/\ER T ι' H en' σ/\PostS T ι' H E (cQ w all t s1 (ys.drop (i+1)) en' h') D,
    fun σ' H' w' => ⟨ys.length-(i+1),by omega,rfl,hl,w'⟩,fun x H' y=>?_⟩
   obtain ⟨g2,S2,r2⟩:=yld x H' y
   split at q'
   ·rename_i e1 he1
    refine hg2 S2 (er'.mono g2) r2 he1 fun σ' er2=>⟨ι',h',e1,S2,er2,?_⟩
    have q2:=PostS.shift q' g2
    cases e2:s1 e1 h' with
    | nx e3 h3=>rw [e2] at q2;exact fun ι3 H3 σ3 g3 S3 er3=>⟨ι3,h3,e3,g'.trans (g2.trans g3),S3,er3,q2.shift g3⟩
    | ct e3 h3=>rw [e2] at q2;exact fun ι3 H3 σ3 g3 S3 er3=>⟨ι3,h3,e3,g'.trans (g2.trans g3),S3,er3,q2.shift g3⟩
    | bk e3 h3=>rw [e2] at q2;exact q2
    | rt v h3=>rw [e2] at q2;exact q2
    | ex c e3 h3=>rw [e2] at q2;exact (show False from q2).elim
    | bad=>rw [e2] at q2;exact q2
   ·exact (show False from q').elim
  ·exact (show False from q').elim
 ·have ei:i=ys.length:=by omega
  subst ei
  rw [L6] at q'
  unfold cQ at q'
  split at q'
  ·rename_i hlive
   exact .inl ⟨IR.stop _ ι' h' H g'.ext S' hlive (JE _),q' ι' H σ S'.refl S' er'⟩
  ·exact (show False from q').elim
theorem EV {tg:Expr} {t:Tg} {p ppos:Pos} (hK:X.K=T.K) (hc:X.calm=true) (hg0:Gl X.nox "reversed") (hm:X.nox.mg "reversed" = none) (ha:aI T EN X.nox a sa) (hg:mn T X.nox tg t) (hb:cH T EN X.nox sts s1) (jX:starEach [a] X.nox.env=[(false,eval a X.nox.env)]:=by rfl)
  (hs:∀ x,foldedSetIterable (.Call (.Name "reversed" p) [a] [] ppos) X.nox.env x=pure x:=by intro _;rfl):eP T E X (.For tg (.Call (.Name "reversed" p) [a] [] ppos) sts [] pos) (jC sa t s1):=by
 obtain ⟨g,hg1,hg2⟩:=hg
 refine fv (oq (qx PassesOwn.never hc (DQ hg0 hm (aj ha aq jX) jX) hg1 hb hs)) fun D σ H ⟨ι,h,en,S,er,q⟩=>⟨ι,h,en,S,er,?_⟩
 unfold jC at q
 show Post T ι H _ (RVs T) ((sa en h).bind fun x h1=>.ok [x] h1) _
 cases e:sa en h with
 | bad=>rw [e] at q;exact q
 | ex c h1=>rw [e] at q;exact (show False from q).elim
 | ok v h1 =>
  rw [e] at q
  intro ι1 H1 us g1 S1 r1
  cases r1 with
  | cons r r' =>
  cases r'
  cases v with
  | fl xs =>
   dsimp only at q
   cases r with
   | fl n hr rs=>exact ⟨_,_,rfl,ko hK (.inl hr),sF hg2 S1 (er.mono g1) (by
     have:=sE (T:=T) (w:=none) (K:=T.K) (a:=_) (us:=_) (xs:=xs) (ι:=ι1) (H:=H1) (fun ι' h' H' x' S' _=>⟨_,rfl,rV n hr ι' H' x',rs.ext x'⟩) rs.length
     exact hK▸this) (PostS.shift q g1)⟩
   | kfl hr rs=>exact ⟨_,_,rfl,ko hK (.inr hr),sF hg2 S1 (er.mono g1) (by
     have:=sE (T:=T) (w:=none) (K:=T.K) (a:=_) (us:=_) (xs:=xs) (ι:=ι1) (H:=H1) (fun ι' h' H' x' S' _=>⟨_,rfl,.inr hr,rs.ext x'⟩) rs.length
     exact hK▸this) (PostS.shift q g1)⟩
  | ref n =>
   dsimp only at q
   cases e2:h1[n]? with
   | none=>rw [e2] at q;exact (show False from q).elim
   | some o =>
    rw [e2] at q
    cases o with
    | lst xs =>
     cases r with
     | ref hr =>
      obtain ⟨u,e1,us,rfl,rs⟩:=S1.obj n _ _ e2 hr
      refine ⟨_,us,rfl,.inl (.of e1),sF hg2 S1 (er.mono g1) (sE (fun ι' h' H' x' S' lv=>?_) rs.length) (PostS.shift q g1)⟩
      unfold bV at lv
      dsimp only at lv
      split at lv
      ·rename_i ys hy
       have z:=Mw lv
       subst z
       obtain ⟨u2,e3,us2,rfl,r2⟩:=S'.obj n _ _ hy (x'.at_ hr)
       exact ⟨us2,by rw [<- r2.length,rs.length],.inl (.of e3),r2⟩
      ·cases lv
    | _=>exact (show False from q).elim
  | _=>exact (show False from q).elim
end
end Sm
namespace L2
open PySem PySem.Spec PyProof.Rows
section
variable {X:Cx}
end
end L2
namespace Sm
open PySem PySem.Spec L2
def Jy:F2:=fun x y h=>match x,y with
 | .tup [],.tup ys=>.ok (.tup ys) h
 | x,y=>aA x y h
def sG (n:Nat) (y z:AV) (h:AH):Out AV:=match h[n]? with
 | some (.dct false [])=>if eQ false y then .ok (.ref n) (h.set n (.dct false [(y,z)])) else .bad
 | _=>.bad
def jD (k v:SE):SE:=fun en h=>(k en (h++[.dct false []])).bind fun y h1=>(v en h1).bind fun z h2=>sG h.length y z h2
section
variable {T:Tb} {E:St->XK} {X:Cx} {pos:Pos} {a b:Expr} {sa sb:SE}
theorem xQ (ha:aI T E X a sa) (hb:aI T E X b sb):aI T E X (.Dict [some a] [b] pos) (jD sa sb):=by
 refine cq (CW (CU ha hb CS) rfl rfl (by simp) (by simp)) fun σ H Q ⟨ι,h,en,S,er,q⟩ p n=>?_
 have g:=S.growAdd (u:=.dK []) n
 have S0:=S.add (o:=.dct false []) (u:=.dK []) n ⟨[],rfl,.nil⟩
 have at0:=S.addAt (p:=p)
 have q0:=Post.shift q g
 refine ⟨_,_,en,S0,er.mono g,q0.bind fun y h1 ι1 H1 u g1 S1 r1 q1=>⟨ι1,h1,en,S1,(er.mono g).mono g1,q1.bind fun z h2 ι2 H2 w g2 S2 r2 q2=>?_⟩⟩
 unfold sG at q2
 split at q2
 ·rename_i hn
  split at q2
  ·rename_i hk
   have hr:ι2.refs[h.length]? = some p:=(g1.trans g2).ext.at_ at0
   obtain ⟨H',dp,g3,S3⟩:=xB S2 hn hr (r1.mono g2) r2 hk (by decide)
   rcases dp with ⟨kvs,k,e1,rfl,_,rfl⟩ | ⟨xc,kvs,k,b',e1,_⟩
   ·obtain ⟨ob,e2,kus,rfl,r⟩:=S2.obj _ _ p hn hr
    cases r
    have e3:=e1.symm.trans e2
    cases e3
    exact ⟨e1,[(k,w)],rfl,by simp,q2 _ _ _ g3 S3 (.ref hr)⟩
   ·obtain ⟨ob,e2,kus,rfl,r⟩:=S2.obj _ _ p hn hr
    rw [e1] at e2;cases e2
  ·exact q2.elim
 ·exact q2.elim
end
end Sm
namespace L2
open PySem PySem.Spec PyProof.Rows
def sH (K:PySem.W.Frag) (a b:Addr):It :=
 ⟨fun i H=>∃ xs ys x y,SqL K H a xs/\SqL K H b ys/\xs[i]? = some x/\ys[i]? = some y,
  fun i H v H' => ∃ (T:Addr) (x y:V),v = .ref T/\H T=none/\H'=aK H T (.tup [x,y])/\(∀ xs,SqL K H a xs->xs[i]? = some x)/\∀ ys,SqL K H b ys->ys[i]? = some y,
  fun i H=>∃ xs ys,SqL K H a xs/\SqL K H b ys/\(xs.length<=i\/ys.length<=i)⟩
theorem EW {P:Program} {w:World} {K:PySem.W.Frag} {es:List Expr} {k:Nat} {tp:Pos} (a b z TI TO i1 i2:Addr) (ap:ZipApart z TI TO i1 i2 a b) :
  dR P w K (.Tuple es k tp) (sH K a b) [z,TO,i1,i2,TI] z (fun i h=>(IsZip h z TI TO .none/\IsPair h TI (.ref i1) (.ref i2)/\∃ u v,IsPair h TO u v)/\h.IsListIter i1 a i/\h.IsListIter i2 b i) where
 mem:=by simp
 obj:=fun i h st c hc=>by
  obtain ⟨⟨h1,h2,u,v,h3⟩,⟨o,ho,_,hd⟩,⟨o2,ho2,_,iW⟩⟩:=st
  have hc':c=z\/c=TO\/c=i1\/c=i2\/c=TI:=by simpa using hc
  rcases hc' with rfl | rfl | rfl | rfl | rfl
  ·exact ⟨_,h1,fun v q=>by
    have q':Data.fields _=Data.cell v:=q
    cases q'⟩
  ·exact ⟨_,h3,fun v q=>by
    have q':Data.seq _ _=Data.cell v:=q
    cases q'⟩
  ·exact ⟨o,ho,fun v q=>by rw [hd] at q;cases q⟩
  ·exact ⟨o2,ho2,fun v q=>by rw [iW] at q;cases q⟩
  ·exact ⟨_,h2,fun v q=>by
    have q':Data.seq _ _=Data.cell v:=q
    cases q'⟩
 keep:=fun i h h' st k=>by
  obtain ⟨⟨h1,h2,u,v,h3⟩,hi1,hi2⟩:=st
  exact ⟨⟨k z (by simp) _ h1,k TI (by simp) _ h2,u,v,k TO (by simp) _ h3⟩,hi1.at fun o q=>k i1 (by simp) o q,hi2.at fun o q=>k i2 (by simp) o q⟩
 item:=by
  intro X hP hw hK hc i pins s σ H E I hf st hg
  subst hP hw hK
  obtain ⟨xs,ys,x,y,hq,hq2,hx,hy⟩:=hg
  obtain ⟨its,rv,p,hz⟩:=I.list hq
  obtain ⟨its2,rv2,p2,hz2⟩:=I.list hq2
  obtain ⟨u,hu,ru⟩:=rv.get hx
  obtain ⟨v,hv,rv'⟩:=rv2.get hy
  obtain ⟨⟨h1,h2,u0,v0,h3⟩,hi1,hi2⟩:=st
  refine wpAny_pyNext_zip_item ap h1 h2 h3 hi1 hi2 p.isList p2.isList (x:=u) (y:=v) (by simpa using hu) (by simpa using hv) fun g1 z1 t1 j1 j2 pr sz kp=>?_
  refine ⟨.ref s.heap.objs.size,rfl,wpAny_letOwnedTupleGo_zip z1 fun g2 z2 sb=>?_⟩
  replace sb:Heap.SameBut z g1 g2:=sb
  have zlt:z<s.heap.objs.size:=JX h1
  have TIlt:TI<s.heap.objs.size:=JX h2
  have TOlt:TO<s.heap.objs.size:=JX h3
  have I1:Inv X pins σ H { s with heap:=g2 }:=I.turnedL (fp:=[z,TO,i1,i2,TI]) (t' := s.toks) (fun c o hb q=>by
   have n1:c≠z:=fun e=>hb (by simp [e])
   have n2:c≠TO:=fun e=>hb (by simp [e])
   have n3:c≠i1:=fun e=>hb (by simp [e])
   have n4:c≠i2:=fun e=>hb (by simp [e])
   exact (sb.2 c n1).trans (kp c o n1 n2 n3 n4 q)) hf
  have hT2:g2.get? s.heap.objs.size=some { cls:=.type "tuple",data:=.seq #[u,v] }:=(sb.2 _ (Nat.ne_of_gt zlt)).trans pr
  have fp:=I.fpOk (H' := H) (JE s.heap.objs.size) (I.hok.fresh (JE _))
  obtain ⟨f0,f1,f2,f3,f4,f5⟩:=fp
  have I2:Inv X pins σ (aK H s.heap.objs.size (.tup [x,y])) { s with heap:=g2 } :=
   I1.adopt (T:=s.heap.objs.size) f0 (I.sz) f1 f4 f5 ⟨by show 2<=sizeLine;decide,[u,v],.cons ru (.cons rv' .nil),⟨_,hT2,rfl,_,rfl⟩⟩
  have TI2:IsPair g2 TI (.ref i1) (.ref i2):=(sb.2 TI ap.TIz).trans (kp TI _ ap.TIz ap.TITO ap.TIi1 ap.TIi2 h2)
  refine ⟨.ref s.heap.objs.size,_,I2,rfl,⟨s.heap.objs.size,x,y,rfl,f0,rfl,fun ws hw=>by rw [I.list_inj hw hq];exact hx,fun ws hw=>by rw [I.list_inj hw hq2];exact hy⟩,⟨⟨z2,TI2,u,v,(sb.2 TO ap.TOz).trans t1⟩,j1.extBut sb.extBut ap.i1z,j2.extBut sb.extBut ap.i2z⟩,fun c hb=>?_⟩
  obtain ⟨g0,_⟩:=hf c hb
  obtain ⟨o,hob,_⟩:∃ o,s.heap.get? c=some o/\True:=by
   have hb':c=z\/c=TO\/c=i1\/c=i2\/c=TI:=by simpa using hb
   rcases hb' with rfl | rfl | rfl | rfl | rfl
   ·exact ⟨_,h1,trivial⟩
   ·exact ⟨_,h3,trivial⟩
   ·obtain ⟨o,q,_⟩:=hi1
    exact ⟨o,q,trivial⟩
   ·obtain ⟨o,q,_⟩:=hi2
    exact ⟨o,q,trivial⟩
   ·exact ⟨_,h2,trivial⟩
  rw [bL (Ko (JX hob))]
  exact g0
 done:=by
  intro X hP hw hK hc i pins s σ H E I hf st hg
  subst hP hw hK
  obtain ⟨xs,ys,hq,hq2,hx⟩:=hg
  obtain ⟨its,rv,p,hz⟩:=I.list hq
  obtain ⟨its2,rv2,p2,hz2⟩:=I.list hq2
  obtain ⟨⟨h1,h2,u0,v0,h3⟩,hi1,hi2⟩:=st
  have hl:=rv.length
  have hl2:=rv2.length
  exact wpAny_pyNext_zip_end (I.ok.hd hc) ap h1 h2 h3 hi1 hi2 p.isList p2.isList (hx.imp (fun e=>by simp;lia) (fun e=>by simp;lia)) fun h' eb=>⟨rfl,I.turnedL (fp:=[z,TO,i1,i2,TI]) (t' := s.toks) (fun c o hb q=>eb c o (fun e=>hb (by simp [e])) (fun e=>hb (by simp [e])) (fun e=>hb (by simp [e])) (fun e=>hb (by simp [e])) q) hf⟩
 self:=fun _ _ _ _ _ st h=>by
  obtain ⟨⟨h1,_⟩,_⟩:=st
  exact wpAny_pyIter_zip h1 h
section
variable {X:Cx}
theorem EX:bootBuiltins "zip" = some (.type "zip"):=by decide +kernel
def EY (K:PySem.W.Frag) (ta:TA):TI:=fun σ H R=>ta σ H fun vs H1=>∃ a b,vs=[.ref a,.ref b]/\(∃ xs,SqL K H1 a xs)/\(∃ ys,SqL K H1 b ys)/\R (sH K a b) H1
end
end L2
namespace L2
open PySem PySem.Spec PyProof.Rows
theorem EZ {X:Cx} {a b:Expr} {ta:TA} {p pos tp:Pos} {es:List Expr} {k:Nat} (hg:Gl X "zip") (hm:X.mg "zip" = none) (ha:PA X [a,b] ta) (hs:starEach [a,b] X.env=[(false,eval a X.env),(false,eval b X.env)]:=by rfl) (hs2:starEach [b] X.env=[(false,eval b X.env)]:=by rfl) :
  PI X (.Tuple es k tp) (.Call (.Name "zip" p) [a,b] [] pos) (EY X.K ta):=by
 intro pins s σ H R I h
 refine Call_ (fW I hg hm EX (Kr (thn (ha pos pins s σ H _ I h) fun us s1 ⟨vs,H1,I1,r1,q1⟩=>?_) (by rw [hs,hs2]) (by rw [hs2];rfl)))
 obtain ⟨l1,l2,e,⟨xs,hq⟩,⟨ys,hq2⟩,q⟩:=q1
 subst e
 cases r1 with
 | cons r rr =>
  cases rr with
  | cons r' rr =>
   cases rr
   cases r
   cases r'
   obtain ⟨its,rv,pl,hz⟩:=I1.list hq
   obtain ⟨its2,rv2,pl2,hz2⟩:=I1.list hq2
   have o1:l1<s1.heap.objs.size:=by obtain ⟨o,ho,_⟩:=pl.isList;exact JX ho
   have o2:l2<s1.heap.objs.size:=by obtain ⟨o,ho,_⟩:=pl2.isList;exact JX ho
   refine call_zip_2 pl.isList pl2.isList fun h' z1 z2 z3 z4 z5 hsz hk=>wpAny_pyIter_zip z1 ?_
   have ap:ZipApart (s1.heap.objs.size+4) (s1.heap.objs.size+2) (s1.heap.objs.size+3) s1.heap.objs.size (s1.heap.objs.size+1) l1 l2:=by
    constructor<;>(unfold Addr at *;lia)
   refine ⟨s1.heap.objs.size+4,[s1.heap.objs.size+4,s1.heap.objs.size+3,s1.heap.objs.size,s1.heap.objs.size+1,s1.heap.objs.size+2],_,_,H1,rfl,I1.kept (t' := s1.toks) fun c o e=>hk c o e,EW l1 l2 _ _ _ _ _ ap,⟨⟨z1,z2,_,_,z3⟩,z4,z5⟩,fun c hc=>?_,q⟩
   have hc':c=s1.heap.objs.size+4\/c=s1.heap.objs.size+3\/c=s1.heap.objs.size\/c=s1.heap.objs.size+1\/c=s1.heap.objs.size+2:=by simpa using hc
   have hge:s1.heap.objs.size<=c:=by unfold Addr at *;lia
   exact I1.fpOk hge (I1.hok.fresh hge)
end L2
namespace Sm
open PySem PySem.Spec L2
def fg:List AV->List AV->List AV
 | x::xs,y::ys=>.tup [x,y]::fg xs ys
 | _,_=>[]
section
variable {T:Tb} {E:St->XK} {X:Cx} {pos px p1 p2:Pos} {kk:Nat} {iter elt:Expr} {ifs:List Expr} {scope:Scope} {x₁ x₂:Str} {jf:List (Nat×Str)} {it:SIG} {cc:SB} {ce:SE}
end
theorem sI:∀ (xs ys:List AV) (i:Nat) (z:AV),(fg xs ys)[i]? = some z->∃ x y,z = .tup [x,y]/\xs[i]? = some x/\ys[i]? = some y
 | [],_,i,z,h=>by simp [fg] at h
 | _::_,[],i,z,h=>by simp [fg] at h
 | x::xs,y::ys,0,z,h=>by simp [fg] at h;exact ⟨x,y,h.symm,rfl,rfl⟩
 | x::xs,y::ys,i+1,z,h=>by simp only [fg,K0] at h ⊢;exact sI xs ys i z h
theorem xR:∀ (xs ys:List AV),(fg xs ys).length=min xs.length ys.length
 | [],_=>by simp [fg]
 | _::_,[]=>by simp [fg]
 | x::xs,y::ys=>by simp only [fg,J6,xR xs ys];lia
section
variable {T:Tb} {E:St->XK} {X:Cx} {pos:Pos} {a b:Expr} {sa sb:SE}
end
end Sm
namespace L2
open PySem PySem.Spec PyProof.Rows
abbrev xS (xs:Array Value) (n:Nat) (sl:Array (Option Value)):Obj:={ cls:=.type "list",data:=.seq xs n,slots:=sl }
theorem E1 {l b:Addr} {xs ys:Array Value} {n m:Nat} {sl:Array (Option Value)} (c : ¬ (!xs.isEmpty && Builtin.List.listTooLong (xs.size+ys.size))=true) (c1:xs.size<=sizeLine) (c2:xs.size+ys.size<=sizeLine+1) :
  Meets (Builtin.«list.extend» ⟨[.ref l,.ref b],[]⟩) (fun _ R s=>s.heap.get? l=some (xS xs n #[])/\s.heap.get? b=some (xS ys m sl)/\R (.ok (.ret .none)) { s with heap:=s.heap.update l (Obj.mapSeq fun x=>x++ys),toks:=s.toks }):=by
 refine .of_wp fun _ _ _ _ s z=>?_
 cases s
 have z1:=z.1
 have z2:=z.2.1
 have z3:=z.2.2
 have k1:=PySem.AutoSeq1.idx_int
 have k2:=PySem.AutoSeq1.sub_tuple_tuple
 have k3:=PySem.AutoSeq1.sub_list_list
 have k4:=PySem.AutoSeq1.sub_tuple_list
 have k5:=PySem.AutoSeq1.sub_list_tuple
 have sz:(xs++ys).size<=sizeLine+1:=by rw [Lm];exact c2
 wp_walk using (wpAny_updateSeq z1 rfl (hz:=c1) (_hz' := sz)),MC z1,MC z2
 exact ⟨_,rfl,z3⟩
section
variable {X:Cx}
def E2 (K:PySem.W.Frag):V->List V->Hp->VK->Prop:=fun x vs H Q=>∃ l b xs zs,x = .ref l/\vs=[.ref b]/\H l=some (.lst xs)/\SqL K H b zs/\xs.length+zs.length<=sizeLine/\Q .non (aK H l (.lst (xs++zs)))
theorem E3:fu X "list.extend" (E2 X.K):=by
 intro pins s σ H x vs v us Q I rx rv h
 obtain ⟨l,b,xs,zs,rfl,rfl,hH,hB,hz,q⟩:=h
 cases rx
 obtain ⟨u,rfl,ru⟩:=rv.one
 cases ru
 obtain ⟨z,its,n,r,hl,e⟩:=I.lstM hH
 obtain ⟨its2,r2,⟨⟨oc,od,oda,osl⟩,n2,e1,e2,e3,e4⟩,hz2⟩:=I.list hB
 dsimp only at e2 e3 e4
 subst e2 e3 e4
 have hl2:=r2.length
 have hsz:its.toArray.size+its2.toArray.size<=sizeLine:=by rw [JO,JO];lia
 have hlong : ¬ (!its.toArray.isEmpty && Builtin.List.listTooLong (its.toArray.size+its2.toArray.size))=true:=by
  rw [wj hsz,Bool.and_false]
  exact JZ
 refine Oi F.slot_list_extend ⟨_,e,rfl⟩ F.entry_list_extend (F.args_list_extend_2 _ _)
  (E1 (n:=n) (m:=n2) (sl:=osl) hlong (by rw [JO];lia) (by lia)) ⟨e,e1,?_⟩
 refine ⟨.non,_,I.lset (its' := its++its2) hH e (by simp) (r.append r2) ?_,rfl,q⟩
 rw [JT]
 lia
end
end L2
namespace Sm
open PySem PySem.Spec L2
@[simp] def kx:FM:=fun x vs h=>match x,vs with
 | .ref n,[y]=>match h[n]?,cU y h with
  | some (.lst xs),some ys=>if xs.length+ys.length<=sizeLine then .ok .non (h.set n (.lst (xs++ys))) else .bad
  | _,_=>.bad
 | _,_=>.bad
theorem E4 {T:Tb} {X:Cx} (hK:X.K=T.K):∃ r,fu X "list.extend" r/\iS T kx r:=by
 refine ⟨_,E3,fun ι h H x xs u us E Q S rx rs q=>?_⟩
 unfold kx at q
 split at q
 ·rename_i n y
  split at q
  ·rename_i ys zs hn hy
   split at q
   ·rename_i hl
    cases rx with
    | @ref _ ad hr =>
     cases rs with
     | @cons _ uu _ _ r r' =>
      cases r'
      obtain ⟨o,e1,ws,rfl,rw_⟩:=S.obj n _ ad hn hr
      obtain ⟨bd,ws2,rfl,sq,rw2⟩:=dN S r hy
      have g:=S.growSet (u:=.lst (ws++ws2)) hr
      exact ⟨ad,bd,ws,ws2,rfl,rfl,e1,hK▸sq,by rw [<- rw_.length,<- rw2.length];exact hl,q ι _ _ g (S.set hr ⟨_,rfl,(rw_.mono g).append (rw2.mono g)⟩) .non⟩
   ·exact q.elim
  ·exact q.elim
 ·exact q.elim
section
variable {T:Tb} {E:L2.St->XK} {X:Cx} {pos:Pos} {a b:Expr} {sa sb:SE}
end
end Sm
namespace L2
open PySem PySem.Spec
theorem Room.m {j k:Nat} {A:Around} (hr:Room k A) (h:Nat.ble j k=true:=by rfl):Room j A:=hr.mono (Nat.le_of_ble_eq_true h)
end L2
namespace Sm
open PySem PySem.Spec L2
def DK (K:PySem.W.Frag) (x:Str) (st:Stmt):Prop:=∃ f fd,PySem.W.nsIn K mainGlobals x=some (some (.ref f))/\Fun K x x st f fd
def DN (K:PySem.W.Frag) (C:Addr) (m q:Str) (st:Stmt):Prop:=∃ f fd,fX K C m f/\Fun K m q st f fd
def dG (K:PySem.W.Frag) (cls:Nat->Option Addr) (c:Nat) (m q:Str) (st:Stmt) (ps:List Str):Prop:=∃ C f fd,cls c=some C/\Cls K C/\fX K C m f/\Binds K fd ps []/\Fun K m q st f fd
def DI (K:PySem.W.Frag) (cls:Nat->Option Addr) (mg:Str->Option Value) (c:Nat) (x q:Str) (st:Stmt) (ps:List Str):Prop:=∃ C f fd,cls c=some C/\mg x=some (.ref C)/\Mk K C f/\Binds K fd ps []/\Fun K "__init__" q st f fd
section
variable {P:Program} {w:World} {K:PySem.W.Frag} {mg:Str->Option Value} {base h:Heap} {T:Tb} {x m q:Str} {st:Stmt} {f C:Addr} {N ps:List Str} {k c:Nat} {b:SS} {cls:Nat->Option Addr}
section
variable {oc:Value} {od an:Option Addr} {osl:Array (Option Value)} {kV doc pm cdv ct:Value}
theorem dk (a:PySem.W.nsIn K mainGlobals x=some (some (.ref f))) (l:K.lookup f=some ⟨oc,od,.func (PySem.W.fnOf x x (jo st) (gB st) (aM st) .none kV doc pm an cdv ct),osl⟩)
  (c:PySem.W.codeIn K cdv x=true) (k:PySem.W.keepIn K (.ref f)=true):DK K x st:=⟨f,_,a,wA l c k⟩
theorem dn (a:PySem.W.findIn K (.ref C) m=some (some (.ref f))) (i:PySem.W.isFn K (.ref f)=true) (l:K.lookup f=some ⟨oc,od,.func (PySem.W.fnOf m q (jo st) (gB st) (aM st) .none kV doc pm an cdv ct),osl⟩)
  (c:PySem.W.codeIn K cdv q=true) (k:PySem.W.keepIn K (.ref f)=true):DN K C m q st:=⟨f,_,⟨a,i,k⟩,wA l c k⟩
end
abbrev BA (x q:Str) (st:Stmt) (us:List Value) (r:List (Str×Value)):Prop:=∀ (kV doc pm:Value) (an:Option Addr) (cdv ct:Value),bindArgs (PySem.W.fnOf x q (jo st) (gB st) (aM st) .none kV doc pm an cdv ct) ⟨us,[]⟩=pure r
def BL (x q:Str) (st:Stmt) (ps:List Str):Prop:=∀ (us:List Value),us.length=ps.length->BA x q st us (ps.zip us)
theorem fM {p1:Str} (h:∀ a,BA x q st [a] [(p1,a)]:=by exact fun _ _ _ _ _ _ _=>rfl):BL x q st [p1]:=fun us e=>by obtain ⟨_,rfl⟩:=EM e;exact h _
theorem cE {p1 p2:Str} (h:∀ a b,BA x q st [a,b] [(p1,a),(p2,b)]:=by exact fun _ _ _ _ _ _ _ _=>rfl):BL x q st [p1,p2]:=fun us e=>by obtain ⟨_,_,rfl⟩:=EO e;exact h _ _
theorem gJ {p1 p2 p3:Str} (h:∀ a b c,BA x q st [a,b,c] [(p1,a),(p2,b),(p3,c)]:=by exact fun _ _ _ _ _ _ _ _ _=>rfl):BL x q st [p1,p2,p3]:=fun us e=>by obtain ⟨_,_,_,rfl⟩:=ES e;exact h _ _ _
theorem dg (X:K.In h) (G:h.Ns mainGlobals mg) (d:DK K x st) (hb:BL x x st ps):DG K mg x st ps:=by
 obtain ⟨f,fd,a,F⟩:=d
 exact ⟨f,fd,Ls X G a,F.kp,F.binds fun _ _ _ _ _ _ us hl=>hb us hl _ _ _ _ _ _,F⟩
theorem dm (hc:cls c=some C) (k:Cls K C) (d:DN K C m q st) (hb:BL m q st ps):dG K cls c m q st ps:=by
 obtain ⟨f,fd,M,F⟩:=d
 exact ⟨C,f,fd,hc,k,M,F.binds fun _ _ _ _ _ _ us hl=>hb us hl _ _ _ _ _ _,F⟩
theorem di (hc:cls c=some C) (hx:mg x=some (.ref C)) (mk:PySem.W.makesIn K C=true) (kc:PySem.W.keepIn K (.ref C)=true) (d:DN K C "__init__" q st) (hb:BL "__init__" q st ps):DI K cls mg c x q st ps:=by
 obtain ⟨f,fd,M,F⟩:=d
 exact ⟨C,f,fd,hc,hx,⟨mk,M.at_,M.fn,kc⟩,F.binds fun _ _ _ _ _ _ us hl=>hb us hl _ _ _ _ _ _,F⟩
theorem sJ {fa:Addr} {p:Str} (X:K.In h) (G:h.Ns mainGlobals mg) (hfa:mg x=some (.ref fa)) (d:DK K x st) (hb:BL x x st [p]):∃ fd:FuncData,(∀ (s:Shared) (v:Value),BindsTo s fd ⟨[v],[]⟩ [(p,v)])/\Fun K x x st fa fd:=by
 obtain ⟨f,fd,a,F⟩:=d
 have e:=hfa.symm.trans (Ls X G a)
 cases e
 refine ⟨fd,fun s v=>?_,F⟩
 obtain ⟨oc,od,kV,doc,pm,an,cdv,ct,osl,rfl,lk,hcd⟩:=F.ex
 exact .of_eq (hb [v] rfl _ _ _ _ _ _)
theorem bo {sc:Scope} (h1:sc.kind = .function:=by rfl) (h2:sc.isCoroutine=false:=by rfl) (h3:sc.isGenerator=false:=by rfl) (h4:N.Nodup:=by decide +kernel) (h5:N.take ps.length=ps:=by rfl)
  (h6:∀ x∈ps,sc.names.lookup x=some .local\/sc.names.lookup x=some .cell:=by decide +kernel) (h7:∀ y∈sc.names,y.2 ≠ .free:=by decide +kernel):ao N ps sc:=⟨h1,h2,h3,h4,h5,h6,h7⟩
abbrev oK (P:Program) (w:World) (mg:Str->Option Value) (base:Heap) (T:Tb) (q:Str) (st:Stmt) (f:Addr) (N:List Str) (k:Nat) (b:SS):Prop :=
 ∀ {cdv:Value} {A:Around} {outer:List Env} {s:Shared} {H:Hp} {E:XK},Room k (A.deeper (PyProof.Rows.envOfC q (aM st) s.heap.objs.size f cdv))->CA T (fun _=>E) (cf (cN P w) P w T.K mg base N q (aM st) f cdv A outer s H E) ->
  (A.deeper (PyProof.Rows.envOfC q (aM st) s.heap.objs.size f cdv)).units+64<cLine->N.Nodup->cH T (fun _=>E) (cf (cN P w) P w T.K mg base N q (aM st) f cdv A outer s H E) (gB st) b
theorem gf (d:DG T.K mg x st ps) (S:ao N ps (aM st)) (hb:∀ {f},oK P w mg base T x st f N k b):GF P w T mg base (k+1) x (aC ps.length N.length b):=by
 obtain ⟨f,fd,h1,h2,h3,h4⟩:=d
 exact ⟨f,fd,_,h1,h2,h3,oA h4 rfl S fun cdv A outer s H E hr C=>hb hr C (gY hr) S.nd⟩
theorem gm (d:dG T.K T.cls c m q st ps) (S:ao N ps (aM st)) (no:m∉T.fields c) (hb:∀ {f},oK P w mg base T q st f N k b):GM P w T mg base (k+1) c m (aC ps.length N.length b):=by
 obtain ⟨C,f,fd,h0,hc,h1,h3,h4⟩:=d
 exact ⟨⟨C,f,fd,_,h0,hc,h1,h3,oA h4 rfl S fun cdv A outer s H E hr C=>hb hr C (gY hr) S.nd⟩,no⟩
theorem gk (d:DI T.K T.cls mg c x q st ps) (S:ao N ps (aM st)) (hb:∀ {f},oK P w mg base T q st f N k b):GK P w T mg base (k+1) c x (aC ps.length N.length b):=by
 obtain ⟨C,f,fd,h0,h1,h2,h3,h4⟩:=d
 exact ⟨C,f,fd,_,h0,h1,h2,h3,oA h4 rfl S fun cdv A outer s H E hr C=>hb hr C (gY hr) S.nd⟩
theorem gl {f:Addr} {fd:FuncData} (h4:Fun T.K x x st f fd) (S:ao N ps (aM st)) (hb:oK P w mg base T x st f N k b):FnOk P w T.K mg base (cN P w) (k+1) f fd ps (ic T (aC ps.length N.length b)) :=
 oA h4 rfl S fun cdv A outer s H E hr C=>hb hr C (gY hr) S.nd
def XI (K:PySem.W.Frag) (X:Addr):Prop:=PySem.W.excIn K X [.type "ValueError",.type "Exception",.type "BaseException",.type "object"] "ValueError.__new__" = true
theorem xi {X:Addr} (h:PySem.W.excIn K X [.type "ValueError",.type "Exception",.type "BaseException",.type "object"] "ValueError.__new__" = true):XI K X:=h
theorem gx {X:Addr} {n:Nat} {g:Heap} (KB:K.In g) (KX:K.In h) (G:h.Ns mainGlobals mg) (hc:T.exc n=some X) (e:PySem.W.nsIn K mainGlobals x=some (some (.ref X))) (hx:XI K X):GX T mg g n x:=⟨X,hc,Dv KB (Ls KX G e) hx⟩
def NA (K:PySem.W.Frag) (x:Str) (v:Option Value):Prop:=PySem.W.nsIn K mainGlobals x=some v
theorem na {v:Option Value} (h:PySem.W.nsIn K mainGlobals x=some v):NA K x v:=h
def FA (K:PySem.W.Frag) (C:Addr) (x:Str):Prop:=PySem.W.findIn K (.ref C) x=some none
theorem fatt (h:PySem.W.findIn K (.ref C) x=some none):FA K C x:=h
end
end Sm
namespace Sm
open PySem PySem.Spec L2
section
variable {T:Tb} {ι:Ix} {h:AH} {H:Hp}
end
section
variable {T:Tb} {E:St->XK} {X:Cx} {pos apos:Pos} {a b c:Expr} {sa sb sc:SE}
end
def gj (L:AH->Bool) (t:Tg) (b:SS):List AV->SS
 | []=>fun en h=>if L h=true then .nx en h else .bad
 | x::xs=>fun en h=>if L h=true then
   (match df t x en with
   | some e1=>(match b e1 h with
    | .nx e2 h2=>gj L t b xs e2 h2
    | .ct e2 h2=>gj L t b xs e2 h2
    | .bk e2 h2=>.nx e2 h2
    | .rt v h2=>.rt v h2
    | _=>.bad)
   | none=>.bad) else .bad
section
variable {T:Tb} {E:St->XK} {X:Cx} {pos:Pos} {a:Expr} {sa:SE} {sts:List Stmt} {s1:SS}
theorem E5 {g:TG} {t:Tg} {J:It} {ι1:Ix} {h1:AH} {H1:Hp} {en:En} {σ:St} {D:cM} {L:AH->Bool} {ys:List AV}
  (hg2:∀ {ι:Ix} {h:AH} {H:Hp} {en e:En} {σ:St} {v:AV} {u:V} {Q:St->Hp->Prop},Sim T ι h H->ER T ι H en σ->RV T ι H v u->df t v en=some e->(∀ σ',ER T ι H e σ'->Q σ' H)->g u σ H Q)
  (S1:Sim T ι1 h1 H1) (er:ER T ι1 H1 en σ) (IR:mD T J ι1 H1 ys L) (q:PostS T ι1 H1 E (gj L t s1 ys en h1) D):xP g (tS T EN s1) D σ H1 J:=by
 refine ⟨fun i m σ H=>m=ys.length-i/\i<=ys.length/\∃ ι' h' en',Grow ι1 H1 ι' H/\Sim T ι' h' H/\ER T ι' H en' σ/\PostS T ι' H E (gj L t s1 (ys.drop i) en' h') D,
  ⟨ys.length,by simp,Kk _,ι1,h1,en,S1.refl,S1,er,q⟩,?_⟩
 rintro i m σ H ⟨rfl,hi,ι',h',en',g',S',er',q'⟩
 by_cases hl:i<ys.length
 ·rw [oy hl] at q'
  unfold gj at q'
  split at q'
  ·rename_i hlive
   obtain ⟨go,yld⟩:=IR.go i ι' h' H ys[i] g'.ext S' hlive (by simp [hl])
   refine .inr ⟨go,fun σ H=>∃ ι' h' en',Grow ι1 H1 ι' H/\Sim T ι' h' H/\ER T ι' H en' σ/\PostS T ι' H E (gj L t s1 (ys.drop (i+1)) en' h') D,
    fun σ' H' w' => ⟨ys.length-(i+1),by omega,rfl,hl,w'⟩,fun x H' y=>?_⟩
   obtain ⟨g2,S2,r2⟩:=yld x H' y
   split at q'
   ·rename_i e1 he1
    refine hg2 S2 (er'.mono g2) r2 he1 fun σ' er2=>⟨ι',h',e1,S2,er2,?_⟩
    have q2:=PostS.shift q' g2
    cases e2:s1 e1 h' with
    | nx e3 h3=>rw [e2] at q2;exact fun ι3 H3 σ3 g3 S3 er3=>⟨ι3,h3,e3,g'.trans (g2.trans g3),S3,er3,q2.shift g3⟩
    | ct e3 h3=>rw [e2] at q2;exact fun ι3 H3 σ3 g3 S3 er3=>⟨ι3,h3,e3,g'.trans (g2.trans g3),S3,er3,q2.shift g3⟩
    | bk e3 h3=>rw [e2] at q2;exact q2
    | rt v h3=>rw [e2] at q2;exact q2
    | ex c e3 h3=>rw [e2] at q2;exact (show False from q2).elim
    | bad=>rw [e2] at q2;exact q2
   ·exact (show False from q').elim
  ·exact (show False from q').elim
 ·have ei:i=ys.length:=by omega
  subst ei
  rw [L6] at q'
  unfold gj at q'
  split at q'
  ·rename_i hlive
   exact .inl ⟨IR.stop _ ι' h' H g'.ext S' hlive (JE _),q' ι' H σ S'.refl S' er'⟩
  ·exact (show False from q').elim
end
def kz:List AV->Option (List Int)
 | []=>some []
 | .int i::r=>(kz r).map (i :: ·)
 | _::_=>none
theorem xT:∀ {xs:List AV} {ns:List Int},kz xs=some ns->xs=ns.map AV.int
 | [],_,e=>by cases e;rfl
 | .int i::r,_,e=>by
  obtain ⟨m,e1,rfl⟩:=J3.mp (show (kz r).map (i :: ·)=_ from e)
  rw [xT e1];rfl
 | .non::_,_,e=>by cases e
 | .bl _::_,_,e=>by cases e
 | .str _::_,_,e=>by cases e
 | .tup _::_,_,e=>by cases e
 | .fl _::_,_,e=>by cases e
 | .ref _::_,_,e=>by cases e
 | .exc _::_,_,e=>by cases e
section
variable {T:Tb} {E:St->XK} {X:Cx} {pos p apos cpos kp:Pos} {a b:Expr} {sa sb:SE}
end
end Sm
namespace L2
open PySem PyProof.Rows
def gn:Bool->Keyed->Array Keyed->Nat->Nat->Nat->StateT SortSt Sem (Option Nat):=sortPriv% PySem.Builtin.gallop
def ky (p:Keyed):Int:=numOf p.1
section
variable {P:Program} {w:World} {A:Around} {E:Value->Shared->Prop} {s:Shared}
def IK (p:Keyed):Prop:=∃ n t,p.1=Value.int n t
theorem gp {st:SortSt} {x y:Keyed} {Q:Option Bool->SortSt->Prop} (hk:kindOf st=oneType') (hx:IK x) (hy:IK y) (h:Q (some (decide (ky x<ky y))) st):wpS (model P w) A E s (lt' x y) Q st:=by
 obtain ⟨a,t,ex⟩:=hx
 obtain ⟨b,u,ey⟩:=hy
 rw [lt'_eq]
 refine JL (MD ?_)
 have z1:ky x=a:=by unfold ky;rw [ex];rfl
 have z2:ky y=b:=by unfold ky;rw [ey];rfl
 rw [hk,keyLt'_oneType,ex,ey]
 rw [z1,z2] at h
 exact JL (wpS_lift (wpAny_attempt (oneLt_int ⟨rfl,JV h⟩)))
theorem cW {st:SortSt} {arr:Array Keyed} {i:Nat} {x:Keyed} {Q:Keyed->SortSt->Prop} (e:arr[i]? = some x) (h:Q x st):wpS (model P w) A E s (elem' arr i) Q st:=by
 rw [elem'_eq,e];exact JV h
abbrev LS:=Option (Option Nat)×Nat×Nat
theorem xU {st:SortSt} {n:Nat} {Z:Nat->Bool} {B:Nat->StateT SortSt Sem (Option Bool)} {Q:LS->SortSt->Prop} (mono:∀ i j,i<=j->j<n->Z j=true->Z i=true) (hB:∀ (i:Nat) (Q':Option Bool->SortSt->Prop),i<n->Q' (some (Z i)) st->wpS (model P w) A E s (B i) Q' st)
  {lo hi:Nat} (h1:lo<=hi) (h2:hi<=n) (h3:∀ i,i<lo->Z i=true) (h4:∀ i,hi<=i->i<n->Z i=false) (h:∀ l k,k<=n->(∀ i,i<k->Z i=true)->(∀ i,k<=i->i<n->Z i=false)->Q (none,l,k) st) :
  wpS (model P w) A E s (forIn [0:n] ((none,lo,hi):LS) fun _ c=>if c.2.1 ≥ c.2.2 then pure (.done (none,c.2.1,c.2.2)) else do
   let r <- B (c.2.1+(c.2.2-c.2.1) / 2)
   match r with
   | some more=>if more=true then pure (.yield (none,c.2.1+(c.2.2-c.2.1) / 2+1,c.2.2)) else pure (.yield (none,c.2.1,c.2.1+(c.2.2-c.2.1) / 2))
   | _=>pure (.done (some none,c.2.1,c.2.2))) Q st:=by
 refine KF (I:=fun x c st' => st'=st/\∃ l k,c=(none,l,k)/\l<=k/\k<=n/\k-l<=n-x/\(∀ i,i<l->Z i=true)/\(∀ i,k<=i->i<n->Z i=false)) ?step ?fin ⟨rfl,lo,hi,rfl,h1,h2,by lia,h3,h4⟩
 case fin =>
  rintro c st' ⟨rfl,l,k,rfl,a1,a2,a3,a4,a5⟩
  have:l=k:=by lia
  subst this
  exact h l l a2 a4 a5
 case step =>
  rintro x c st' _ hx ⟨rfl,l,k,rfl,a1,a2,a3,a4,a5⟩
  dsimp only
  by_cases q:l ≥ k
  ·rw [JJ q]
   have:l=k:=by lia
   subst this
   exact JV (h l l a2 a4 a5)
  ·rw [JM q]
   refine JL (hB _ _ (by (clear a5 a4 a3 a1 h hB hx h4 h3 h2 h1 mono;lia)) ?_)
   cases z:Z (l+(k-l) / 2) with
   | true=>exact JV ⟨rfl,_,_,rfl,by (clear z a5 a4 a3 a2 a1 h hB hx h4 h3 h2 h1 mono;lia),by omega,by (clear z a5 a4 a2 a1 h hB h4 h3 h2 h1 mono;lia),fun i hi=>mono i _ (by lia) (by lia) z,a5⟩
   | false=>exact JV ⟨rfl,_,_,rfl,by lia,by (clear z q a5 a4 a3 h hB hx h4 h3 h2 h1 mono;lia),by (clear z q a5 a4 a2 a1 h hB h4 h3 h2 h1 mono;lia),a4,fun i hi hn=>by
     cases y:Z i with
     | false=>rfl
     | true=>rw [mono _ i hi hn y] at z;cases z⟩
theorem E6 {st:SortSt} {n hint:Nat} {Z:Nat->Bool} {B:Nat->StateT SortSt Sem (Option Bool)} {Q:LS->SortSt->Prop} (hh:hint<n) (hB:∀ (i:Nat) (Q':Option Bool->SortSt->Prop),i<n->Q' (some (Z i)) st->wpS (model P w) A E s (B i) Q' st) (z0:Z hint=true)
  (h:∀ l o,l<o->hint+l<n->Z (hint+l)=true->(n-hint<=o\/(hint+o<n/\Z (hint+o)=false))->Q (none,l,o) st) :
  wpS (model P w) A E s (forIn [0:n] ((none,0,1):LS) fun _ c=>if c.2.2 ≥ n-hint then pure (.done (none,c.2.1,c.2.2)) else do
   let r <- B (hint+c.2.2)
   match r with
   | some more=>if (!more)=true then pure (.done (none,c.2.1,c.2.2)) else pure (.yield (none,c.2.2,2*c.2.2+1))
   | _=>pure (.done (some none,c.2.1,c.2.2))) Q st:=by
 refine KF (I:=fun x c st' => st'=st/\∃ l o,c=(none,l,o)/\l<o/\x+1<=o/\hint+l<n/\Z (hint+l)=true) ?step ?fin ⟨rfl,0,1,rfl,by lia,by lia,hh,z0⟩
 case fin =>
  rintro c st' ⟨rfl,l,o,rfl,a1,a2,a3,a4⟩
  exact h l o a1 a3 a4 (.inl (by lia))
 case step =>
  rintro x c st' _ hx ⟨rfl,l,o,rfl,a1,a2,a3,a4⟩
  dsimp only
  by_cases q:o ≥ n-hint
  ·rw [JJ q];exact JV (h l o a1 a3 a4 (.inl q))
  ·rw [JM q]
   refine JL (hB _ _ (by lia) ?_)
   cases z:Z (hint+o) with
   | true=>exact JV ⟨rfl,_,_,rfl,by lia,by lia,by lia,z⟩
   | false=>exact JV (h l o a1 a3 a4 (.inr ⟨by lia,z⟩))
theorem E7 {st:SortSt} {n hint:Nat} {Z:Nat->Bool} {B:Nat->StateT SortSt Sem (Option Bool)} {Q:LS->SortSt->Prop} (hh:hint<n) (hB:∀ (i:Nat) (Q':Option Bool->SortSt->Prop),i<n->Q' (some (Z i)) st->wpS (model P w) A E s (B i) Q' st) (z0:Z hint=false)
  (h:∀ l o,l<o->l<=hint->Z (hint-l)=false->(hint+1<=o\/(o<=hint/\Z (hint-o)=true))->Q (none,l,o) st) :
  wpS (model P w) A E s (forIn [0:n] ((none,0,1):LS) fun _ c=>if c.2.2 ≥ hint+1 then pure (.done (none,c.2.1,c.2.2)) else do
   let r <- B (hint-c.2.2)
   match r with
   | some found=>if found=true then pure (.done (none,c.2.1,c.2.2)) else pure (.yield (none,c.2.2,2*c.2.2+1))
   | _=>pure (.done (some none,c.2.1,c.2.2))) Q st:=by
 refine KF (I:=fun x c st' => st'=st/\∃ l o,c=(none,l,o)/\l<o/\x+1<=o/\l<=hint/\Z (hint-l)=false) ?step ?fin ⟨rfl,0,1,rfl,by lia,by lia,by lia,z0⟩
 case fin =>
  rintro c st' ⟨rfl,l,o,rfl,a1,a2,a3,a4⟩
  exact h l o a1 a3 a4 (.inl (by lia))
 case step =>
  rintro x c st' _ hx ⟨rfl,l,o,rfl,a1,a2,a3,a4⟩
  dsimp only
  by_cases q:o ≥ hint+1
  ·rw [JJ q];exact JV (h l o a1 a3 a4 (.inl q))
  ·rw [JM q]
   refine JL (hB _ _ (by (clear q a4 a3 a2 a1 h hB hx z0;lia)) ?_)
   cases z:Z (hint-o) with
   | false=>exact JV ⟨rfl,_,_,rfl,by lia,by lia,by lia,z⟩
   | true=>exact JV (h l o a1 a3 a4 (.inr ⟨by lia,z⟩))
theorem kB {st:SortSt} {key:Keyed} {arr:Array Keyed} {base n hint:Nat} {left:Bool} {Q:Option Nat->SortSt->Prop} (hk:kindOf st=oneType') (hh:hint<n) (hn:base+n<=arr.size) (ik:IK key) (ia:∀ (i:Nat) (x:Keyed),arr[i]? = some x->IK x) (Z:Nat->Bool)
  (hZ:∀ (i:Nat) (x:Keyed),arr[base+i]? = some x->Z i=if left=true then decide (ky x<ky key) else !decide (ky key<ky x)) (mono:∀ i j,i<=j->j<n->Z j=true->Z i=true)
  (h:∀ k,k<=n->(∀ i,i<k->Z i=true)->(∀ i,k<=i->i<n->Z i=false)->Q (some k) st):wpS (model P w) A E s (gn left key arr base n hint) Q st:=by
 have bey:∀ (i:Nat) (Q':Option Bool->SortSt->Prop),i<n->Q' (some (Z i)) st->wpS (model P w) A E s (do let x <- elem' arr (base+i);if left=true then lt' x key else do let r <- lt' key x;pure (r.map (!·))) Q' st:=by
  intro i Q' hi q
  have e:arr[base+i]? = some (arr[base+i]'(by lia)):=by simp
  have z:=hZ i _ e
  refine JL (cW e ?_)
  cases left with
  | true =>
   rw [JJ rfl] at z ⊢
   rw [z] at q
   exact gp hk (ia _ _ e) ik q
  | false =>
   rw [JM JZ] at z ⊢
   rw [z] at q
   exact JL (gp hk ik (ia _ _ e) (JV q))
 refine JL (bey hint _ hh ?_)
 cases z:Z hint with
 | true =>
  refine JL (E6 (Z:=Z) hh bey z fun l o a1 a2 a3 a4=>?_)
  refine JL (xU (Z:=Z) mono bey (lo:=hint+l+1) (hi:=hint+min o (n-hint)) (by (clear a4 a3 z bey h mono hZ ia ik hn hk;lia)) (by (clear a4 a3 a2 a1 z bey h mono hZ ia ik hn hk;lia)) (fun i hi=>mono i _ (by lia) a2 a3) (fun i hi hin=>?_) fun l k b1 b2 b3=>JV (h k b1 b2 b3))
  rcases a4 with a4 | ⟨a4,a5⟩
  ·(clear a3 a2 a1 z bey h mono hZ ia ik hn hk;lia)
  ·cases y:Z i with
   | false=>rfl
   | true=>rw [mono _ i (by (clear y a5 a4 a3 a2 a1 z bey h mono hZ ia ik hn hk;lia)) hin y] at a5;cases a5
 | false =>
  refine JL (E7 (Z:=Z) hh bey z fun l o a1 a2 a3 a4=>?_)
  refine JL (xU (Z:=Z) mono bey (lo:=hint+1-min o (hint+1)) (hi:=hint-l) (by (clear a4 a3 z bey h mono hZ ia ik hn hh hk;lia)) (by (clear a4 a3 a2 a1 z bey h mono hZ ia ik hn hk;lia)) (fun i hi=>?_) (fun i hi hin=>?_) fun l k b1 b2 b3=>JV (h k b1 b2 b3))
  ·rcases a4 with a4 | ⟨a4,a5⟩
   ·(clear a3 a2 a1 z bey h mono hZ ia ik hn hh hk;omega)
   ·exact mono i _ (by (clear a5 a3 a2 a1 z bey h mono hZ ia ik hn hh hk;lia)) (by (clear a5 a4 hi a3 a2 a1 z bey h mono hZ ia ik hn hk;lia)) a5
  ·cases y:Z i with
   | false=>rfl
   | true=>rw [mono _ i (by omega) hin y] at a3;cases a3
end
end L2
namespace L2
open PySem PyProof.Rows
def sL:Array Keyed->Array Keyed->StateT SortSt Sem (Array Keyed):=sortPriv% PySem.Builtin.mergeLo
def Srt (l:List Keyed):Prop:=l.Pairwise fun x y=>ky x<=ky y
theorem Srt.app {l m:List Keyed}:Srt (l++m) ↔ Srt l/\Srt m/\∀ x∈l,∀ y∈m,ky x<=ky y:=NR
theorem Srt.drop {l:List Keyed} (h:Srt l) (n:Nat):Srt (l.drop n):=NK (List.drop_sublist _ _) h
theorem Srt.take {l:List Keyed} (h:Srt l) (n:Nat):Srt (l.take n):=NK (On _ _) h
structure MI (a b out:Array Keyed) (ia ib:Nat):Prop where
 pa:ia<=a.size
 pb:ib<=b.size
 per:out.toList.Perm (a.toList.take ia++b.toList.take ib)
 srt:Srt out.toList
 le:∀ x∈out.toList,(∀ y∈a.toList.drop ia,ky x<=ky y)/\∀ y∈b.toList.drop ib,ky x<=ky y
structure Mg (a b r:Array Keyed):Prop where
 per:r.toList.Perm (a.toList++b.toList)
 srt:Srt r.toList
theorem jE (a:Array Keyed) (i k:Nat):(a.extract i (i+k)).toList=(a.toList.drop i).take k:=by
 rw [ME,List.extract_eq_drop_take,Lb]
theorem oM (a:Array Keyed) (i:Nat):(a.extract i a.size).toList=a.toList.drop i:=by
 rw [ME,List.extract_eq_drop_take,Kn (by simp)]
theorem xV (l:List Keyed) (i k:Nat):l.drop i=(l.drop i).take k++l.drop (i+k):=by
 rw [<- Lz,Kj]
section
variable {a b out:Array Keyed} {ia ib:Nat}
theorem MI.size (m:MI a b out ia ib):out.size=ia+ib:=by
 have:=m.per.length_eq
 simp only [JT,Kw,KO] at this
 have:=m.pa
 have:=m.pb
 lia
theorem MI.addA (m:MI a b out ia ib) (Sa:Srt a.toList) {k:Nat} (hk:ia+k<=a.size) (hb:∀ x∈(a.toList.drop ia).take k,∀ y∈b.toList.drop ib,ky x<=ky y):MI a b (out++a.extract ia (ia+k)) (ia+k) ib:=by
 have sp:=xV a.toList ia k
 have sd:=Sa.drop ia
 rw [sp,Srt.app] at sd
 refine ⟨hk,m.pb,?_,?_,fun x hx=>?_⟩
 ·rw [Ke,jE,Oc]
  refine (m.per.append_right _).trans ?_
  rw [JP,JP]
  exact K7 _ KP
 ·rw [Ke,jE,Srt.app]
  exact ⟨m.srt,sd.1,fun x hx y hy=>(m.le x hx).1 y (by rw [sp];exact JN _ hy)⟩
 ·rw [Ke,jE] at hx
  rcases JQ.mp hx with hx | hx
  ·exact ⟨fun y hy=>(m.le x hx).1 y (by rw [sp];exact JW _ hy),(m.le x hx).2⟩
  ·exact ⟨fun y hy=>sd.2.2 x hx y hy,hb x hx⟩
theorem MI.addB (m:MI a b out ia ib) (Sb:Srt b.toList) {k:Nat} (hk:ib+k<=b.size) (ha:∀ x∈(b.toList.drop ib).take k,∀ y∈a.toList.drop ia,ky x<=ky y):MI a b (out++b.extract ib (ib+k)) ia (ib+k):=by
 have sp:=xV b.toList ib k
 have sd:=Sb.drop ib
 rw [sp,Srt.app] at sd
 refine ⟨m.pa,hk,?_,?_,fun x hx=>?_⟩
 ·rw [Ke,jE,Oc,<- JP]
  exact m.per.append_right _
 ·rw [Ke,jE,Srt.app]
  exact ⟨m.srt,sd.1,fun x hx y hy=>(m.le x hx).2 y (by rw [sp];exact JN _ hy)⟩
 ·rw [Ke,jE] at hx
  rcases JQ.mp hx with hx | hx
  ·exact ⟨(m.le x hx).1,fun y hy=>(m.le x hx).2 y (by rw [sp];exact JW _ hy)⟩
  ·exact ⟨ha x hx,fun y hy=>sd.2.2 x hx y hy⟩
theorem jF {a:Array Keyed} {i:Nat} {x:Keyed} (e:a[i]? = some x):(a.toList.drop i).take 1=[x]:=by
 have h:a.toList[i]? = some x:=by simpa using e
 obtain ⟨hl,rfl⟩:=JD.mp h
 rw [KU hl];rfl
theorem xW {a out:Array Keyed} {i:Nat} {x:Keyed} (e:a[i]? = some x):out.push x=out++a.extract i (i+1):=by
 apply Array.ext'
 rw [Lo,Ke,jE,jF e]
theorem lt_size {a:Array Keyed} {i:Nat} {x:Keyed} (e:a[i]? = some x):i<a.size:=(M0.mp e).1
theorem MI.pushA (m:MI a b out ia ib) (Sa:Srt a.toList) {x:Keyed} (e:a[ia]? = some x) (hb:∀ y∈b.toList.drop ib,ky x<=ky y):MI a b (out.push x) (ia+1) ib:=by
 rw [xW e]
 refine m.addA Sa (lt_size e) fun z hz y hy=>?_
 rw [jF e] at hz
 rw [Kf.mp hz];exact hb y hy
theorem MI.pushB (m:MI a b out ia ib) (Sb:Srt b.toList) {x:Keyed} (e:b[ib]? = some x) (ha:∀ y∈a.toList.drop ia,ky x<=ky y):MI a b (out.push x) ia (ib+1):=by
 rw [xW e]
 refine m.addB Sb (lt_size e) fun z hz y hy=>?_
 rw [jF e] at hz
 rw [Kf.mp hz];exact ha y hy
theorem MI.done (m:MI a b out ia ib) (Sa:Srt a.toList) (Sb:Srt b.toList) (h:ib=b.size\/ia=a.size):Mg a b (out++a.extract ia a.size++b.extract ib b.size):=by
 have e:(out++a.extract ia a.size++b.extract ib b.size).toList=out.toList++(a.toList.drop ia++b.toList.drop ib):=by
  rw [Ke,Ke,oM,oM,JP]
 have pr:(out.toList++(a.toList.drop ia++b.toList.drop ib)).Perm (a.toList++b.toList):=by
  refine (m.per.append_right _).trans ?_
  have:(a.toList++b.toList)=(a.toList.take ia++a.toList.drop ia)++(b.toList.take ib++b.toList.drop ib):=by rw [Kj,Kj]
  rw [this]
  simp only [JP]
  refine K7 _ ?_
  rw [<- JP,<- JP]
  exact Mt _ KP
 refine ⟨by rw [e];exact pr,?_⟩
 rw [e,Srt.app,Srt.app]
 refine ⟨m.srt,⟨Sa.drop ia,Sb.drop ib,fun x hx y hy=>?_⟩,fun x hx y hy=>?_⟩
 ·rcases h with h | h
  ·rw [h,Ku (by simp)] at hy;exact nomatch hy
  ·rw [h,Ku (by simp)] at hx;exact nomatch hx
 ·rcases JQ.mp hy with hy | hy
  ·exact (m.le x hx).1 y hy
  ·exact (m.le x hx).2 y hy
theorem MI.last (m:MI a b out ia ib) (Sa:Srt a.toList) (Sb:Srt b.toList) (h:ia+1=a.size) {z:Keyed} (ez:a[a.size-1]? = some z) (hz:∀ y∈b.toList,ky y<=ky z):Mg a b (out++b.extract ib b.size++a.extract ia a.size):=by
 have e:(out++b.extract ib b.size++a.extract ia a.size).toList=out.toList++(b.toList.drop ib++a.toList.drop ia):=by
  rw [Ke,Ke,oM,oM,JP]
 have one:a.toList.drop ia=[z]:=by
  have ei:a[ia]? = some z:=by rw [show ia=a.size-1 by lia];exact ez
  have:=jF ei
  rw [Kn (by simp;lia)] at this
  exact this
 have pr:(out.toList++(b.toList.drop ib++a.toList.drop ia)).Perm (a.toList++b.toList):=by
  refine (m.per.append_right _).trans ?_
  have:(a.toList++b.toList)=(a.toList.take ia++a.toList.drop ia)++(b.toList.take ib++b.toList.drop ib):=by rw [Kj,Kj]
  rw [this]
  simp only [JP]
  refine K7 _ ?_
  rw [<- JP]
  exact KP
 refine ⟨by rw [e];exact pr,?_⟩
 rw [e,Srt.app,Srt.app]
 refine ⟨m.srt,⟨Sb.drop ib,Sa.drop ia,fun x hx y hy=>?_⟩,fun x hx y hy=>?_⟩
 ·rw [one] at hy
  rw [Kf.mp hy]
  exact hz x (K1 hx)
 ·rcases JQ.mp hy with hy | hy
  ·exact (m.le x hx).2 y hy
  ·exact (m.le x hx).1 y hy
theorem gq {l:List Keyed} (S:Srt l) {i:Nat} {x:Keyed} (e:l[i]? = some x):∀ y∈l.drop i,ky x<=ky y:=by
 obtain ⟨hl,rfl⟩:=JD.mp e
 have:=S.drop i
 rw [KU hl] at this ⊢
 intro y hy
 rcases J8.mp hy with rfl | hy
 ·exact LC _
 ·exact (Lg.mp this).1 y hy
end
end L2
namespace L2
open PySem PyProof.Rows
structure Sm1 (st st':SortSt):Prop where
 kind:kindOf st'=kindOf st
 arr:arrOf st'=arrOf st
 pend:pendingOf st'=pendingOf st
 fail:failedOf st'=failedOf st
theorem Sm1.refl (st:SortSt):Sm1 st st:=⟨rfl,rfl,rfl,rfl⟩
theorem Sm1.trans {s1 s2 s3:SortSt} (h:Sm1 s1 s2) (g:Sm1 s2 s3):Sm1 s1 s3:=⟨g.kind.trans h.kind,g.arr.trans h.arr,g.pend.trans h.pend,g.fail.trans h.fail⟩
section
variable {P:Program} {w:World} {A:Around} {E:Value->Shared->Prop} {s:Shared}
theorem kD {st:SortSt} {x:String} {Q:Unit->SortSt->Prop} (h:Q () st):wpS (model P w) A E s (liftM (rule x):StateT SortSt Sem Unit) Q st:=wpS_lift (OH ⟨rfl,h⟩)
def xX:Nat->StateT SortSt Sem Unit:=sortPriv% PySem.Builtin.setMinGallop
theorem kE {st:SortSt} {g:Nat} {Q:Unit->SortSt->Prop} (h:∀ st',Sm1 st st'->Q () st'):wpS (model P w) A E s (xX g) Q st:=by
 unfold xX
 exact L4 (h _ ⟨rfl,rfl,rfl,rfl⟩)
theorem cu {a:Array Keyed} {i:Nat} (h:i<a.size):a[i]? = some a[i]:=by simp
theorem aT {a:Array Keyed} {i:Nat} {x:Keyed} (e:a[i]? = some x):a.toList[i]? = some x:=by simpa using e
theorem E8 {st:SortSt} {key:Keyed} {arr:Array Keyed} {base:Nat} {Q:Option Nat->SortSt->Prop} (hk:kindOf st=oneType') (hb:base<arr.size) (ik:IK key) (ia:∀ (i:Nat) (x:Keyed),arr[i]? = some x->IK x) (S:Srt arr.toList)
  (h:∀ k,base+k<=arr.size->(∀ x∈(arr.toList.drop base).take k,ky x<=ky key)->(∀ x∈arr.toList.drop (base+k),ky key<ky x)->Q (some k) st):wpS (model P w) A E s (gn false key arr base (arr.size-base) 0) Q st:=by
 have get:∀ i,i<arr.size-base->∃ x,arr[base+i]? = some x:=fun i hi=>⟨_,cu (by lia)⟩
 refine kB hk (by lia) (by lia) ik ia (fun i=>match arr[base+i]? with | some x=>!decide (ky key<ky x) | none=>false) (fun i x e=>by simp only [e];rfl) (fun i j hij hj z=>?_) fun k h1 h2 h3=>?_
 ·obtain ⟨x,ex⟩:=get i (by lia)
  obtain ⟨y,ey⟩:=get j hj
  simp only [ex,ey,K9,Kv] at z ⊢
  have:=gq S (aT ex) y (by
   rw [J1]
   exact ⟨j-i,by rw [Kg,show base+i+(j-i)=base+j by lia];exact aT ey⟩)
  lia
 ·refine h k (by lia) (fun x hx=>?_) fun x hx=>?_
  ·obtain ⟨i,hi⟩:=J1.mp hx
   have hik:i<k:=by
    have:=(JD.mp hi).1
    simp at this;lia
   rw [Km hik,Kg] at hi
   have e:arr[base+i]? = some x:=by simpa using hi
   have z:=h2 i hik
   simp only [e,K9,Kv] at z
   lia
  ·obtain ⟨i,hi⟩:=J1.mp hx
   rw [Kg] at hi
   have e:arr[base+(k+i)]? = some x:=by rw [<- LR];simpa using hi
   have hs:=lt_size e
   have z:=h3 (k+i) (by lia) (by lia)
   simp only [e,M3,KA] at z
   exact z
theorem E9 {st:SortSt} {key:Keyed} {arr:Array Keyed} {base:Nat} {Q:Option Nat->SortSt->Prop} (hk:kindOf st=oneType') (hb:base<arr.size) (ik:IK key) (ia:∀ (i:Nat) (x:Keyed),arr[i]? = some x->IK x) (S:Srt arr.toList)
  (h:∀ k,base+k<=arr.size->(∀ x∈(arr.toList.drop base).take k,ky x<ky key)->(∀ x∈arr.toList.drop (base+k),ky key<=ky x)->Q (some k) st):wpS (model P w) A E s (gn true key arr base (arr.size-base) 0) Q st:=by
 have get:∀ i,i<arr.size-base->∃ x,arr[base+i]? = some x:=fun i hi=>⟨_,cu (by lia)⟩
 refine kB hk (by lia) (by lia) ik ia (fun i=>match arr[base+i]? with | some x=>decide (ky x<ky key) | none=>false) (fun i x e=>by simp only [e];rfl) (fun i j hij hj z=>?_) fun k h1 h2 h3=>?_
 ·obtain ⟨x,ex⟩:=get i (by lia)
  obtain ⟨y,ey⟩:=get j hj
  simp only [ex,ey,KA] at z ⊢
  have:=gq S (aT ex) y (by
   rw [J1]
   exact ⟨j-i,by rw [Kg,show base+i+(j-i)=base+j by lia];exact aT ey⟩)
  lia
 ·refine h k (by lia) (fun x hx=>?_) fun x hx=>?_
  ·obtain ⟨i,hi⟩:=J1.mp hx
   have hik:i<k:=by
    have:=(JD.mp hi).1
    simp at this;lia
   rw [Km hik,Kg] at hi
   have e:arr[base+i]? = some x:=by simpa using hi
   have z:=h2 i hik
   simp only [e,KA] at z
   exact z
  ·obtain ⟨i,hi⟩:=J1.mp hx
   rw [Kg] at hi
   have e:arr[base+(k+i)]? = some x:=by rw [<- LR];simpa using hi
   have hs:=lt_size e
   have z:=h3 (k+i) (by lia) (by lia)
   simp only [e,Kv] at z
   lia
abbrev GS:=Option (Array Keyed)×Array Keyed×Nat×Nat×Nat×Nat×Nat
def GI (a b:Array Keyed) (n:Nat) (st:SortSt) (c:GS) (st3:SortSt):Prop:=Sm1 st st3/\∃ out3 i j mg ac bc,c=(none,out3,i,j,mg,ac,bc)/\MI a b out3 i j/\i+1<a.size/\j<b.size/\n<=out3.size
def GQ (a b:Array Keyed) (n:Nat) (st:SortSt) (c:GS) (st3:SortSt):Prop:=Sm1 st st3/\((∃ r rest,c=(some r,rest)/\Mg a b r)\/∃ out3 i j mg ac bc,c=(none,out3,i,j,mg,ac,bc)/\MI a b out3 i j/\i+1<a.size/\j<b.size/\n<=out3.size)
def GR (a b:Array Keyed) (n:Nat) (st:SortSt) (r:ForInStep GS) (st3:SortSt):Prop:=match r with
 | .done c=>GQ a b n st c st3
 | .yield c=>GI a b n st c st3
def sN (a b o:Array Keyed) (i j mg k k2:Nat):StateT SortSt Sem (ForInStep GS):=do
 let v <- elem' a i
 if (i+1+1 == a.size)=true then pure (.done (some (o.push v++b.extract j b.size++a.extract (i+1) a.size),o.push v,i+1,j,mg,k,k2))
 else if (decide (k<7) && decide (k2<7))=true then pure (.done (none,o.push v,i+1,j,mg,k,k2)) else pure (.yield (none,o.push v,i+1,j,mg,k,k2))
def sO (a b o:Array Keyed) (i j mg k bc:Nat):StateT SortSt Sem (ForInStep GS):=do
 let v <- elem' b j
 if (j+1 == b.size)=true then pure (.done (some (o.push v++a.extract i a.size++b.extract (j+1) b.size),o.push v,i,j+1,mg,k,bc))
 else do
  let u <- elem' a i
  let r <- gn true u b (j+1) (b.size-(j+1)) 0
  match r with
  | some k2 =>
   if k2 > 0 then
    if (j+1+k2 == b.size)=true then pure (.done (some (o.push v++b.extract (j+1) (j+1+k2)++a.extract i a.size++b.extract (j+1+k2) b.size),o.push v++b.extract (j+1) (j+1+k2),i,j+1+k2,mg,k,k2))
    else sN a b (o.push v++b.extract (j+1) (j+1+k2)) i (j+1+k2) mg k k2
   else sN a b (o.push v) i (j+1) mg k k2
  | _=>pure (.done (some (o.push v++a.extract i a.size++b.extract (j+1) b.size),o.push v,i,j+1,mg,k,bc))
theorem xY {st st4:SortSt} {a b o:Array Keyed} {i j mg k k2 n:Nat} (Sa:Srt a.toList) (Sb:Srt b.toList) {z:Keyed} (ez:a[a.size-1]? = some z) (hz:∀ y∈b.toList,ky y<=ky z) (s4:Sm1 st st4) (m:MI a b o i j) (h1:i+1<a.size) (h2:j<b.size) (h3:n<=o.size)
  {u:Keyed} (eu:a[i]? = some u) (hu:∀ y∈b.toList.drop j,ky u<=ky y):wpS (model P w) A E s (sN a b o i j mg k k2) (GR a b n st) st4:=by
 refine JL (cW eu ?_)
 have m7:=m.pushA Sa eu hu
 by_cases q:(i+1+1 == a.size)=true
 ·rw [JJ q]
  exact JV ⟨s4,.inl ⟨_,_,rfl,m7.last Sa Sb (by simpa using q) ez hz⟩⟩
 ·rw [JM q]
  have qn:i+1+1≠a.size:=by simpa using q
  have sz:n<=(o.push u).size:=by rw [KI];lia
  by_cases g:(decide (k<7) && decide (k2<7))=true
  ·rw [JJ g];exact JV ⟨s4,.inr ⟨_,_,_,_,_,_,rfl,m7,by lia,h2,sz⟩⟩
  ·rw [JM g];exact JV ⟨s4,_,_,_,_,_,_,rfl,m7,by lia,h2,sz⟩
theorem xZ {st st4:SortSt} {a b o:Array Keyed} {i j mg k bc n:Nat} (hk:kindOf st=oneType') (Sa:Srt a.toList) (Sb:Srt b.toList) (ia:∀ (i:Nat) (x:Keyed),a[i]? = some x->IK x) (ib:∀ (i:Nat) (x:Keyed),b[i]? = some x->IK x) {z:Keyed} (ez:a[a.size-1]? = some z) (hz:∀ y∈b.toList,ky y<=ky z) (s4:Sm1 st st4) (m:MI a b o i j) (h1:i+1<a.size) (h2:j<b.size) (h3:n<=o.size)
  {v:Keyed} (ev:b[j]? = some v) (hv:∀ y∈a.toList.drop i,ky v<=ky y):wpS (model P w) A E s (sO a b o i j mg k bc) (GR a b n st) st4:=by
 refine JL (cW ev ?_)
 have m5:=m.pushB Sb ev hv
 by_cases q:(j+1 == b.size)=true
 ·rw [JJ q]
  exact JV ⟨s4,.inl ⟨_,_,rfl,m5.done Sa Sb (.inl (by simpa using q))⟩⟩
 ·rw [JM q]
  have qn:j+1≠b.size:=by simpa using q
  have eu:=cu (a:=a) (i:=i) (by lia)
  have sz:n<=(o.push v).size:=by rw [KI];lia
  refine JL (cW eu (JL (E9 (s4.kind.trans hk) (by lia) (ia _ _ eu) ib Sb fun k2 c1 c2 c3=>?_)))
  dsimp only
  by_cases z2:k2 > 0
  ·rw [JJ z2]
   have m6:=m5.addB Sb c1 fun x hx y hy=>KQ (Ld (c2 x hx)) (gq Sa (aT eu) y hy)
   by_cases q6:(j+1+k2 == b.size)=true
   ·rw [JJ q6]
    exact JV ⟨s4,.inl ⟨_,_,rfl,m6.done Sa Sb (.inl (by simpa using q6))⟩⟩
   ·rw [JM q6]
    have q6n:j+1+k2≠b.size:=by simpa using q6
    exact xY Sa Sb ez hz s4 m6 h1 (by lia) (by rw [Lm];lia) eu c3
  ·rw [JM z2]
   have k0:k2=0:=by lia
   subst k0
   exact xY Sa Sb ez hz s4 m5 h1 (by lia) sz eu c3
theorem Fb {st:SortSt} {a b:Array Keyed} {Q:Array Keyed->SortSt->Prop} (hk:kindOf st=oneType') (Sa:Srt a.toList) (Sb:Srt b.toList) (ia:∀ (i:Nat) (x:Keyed),a[i]? = some x->IK x) (ib:∀ (i:Nat) (x:Keyed),b[i]? = some x->IK x) (na:0<a.size) (nb:0<b.size)
  (hf:∀ y∈a.toList,ky b[0]<=ky y) (hz:∀ y∈b.toList,ky y<=ky a[a.size-1]) (h:∀ r st',Sm1 st st'->Mg a b r->Q r st'):wpS (model P w) A E s (sL a b) Q st:=by
 have ez:=cu (a:=a) (i:=a.size-1) (by (clear h hz hf nb ib ia Sb Sa hk;omega))
 refine JL (kD ?_)
 refine JL (cW (cu nb) ?_)
 have m0:MI a b #[b[0]] 0 1:=by
  refine ⟨Kk _,nb,?_,LA _ _,fun x hx=>?_⟩
  ·have:=jF (cu nb)
   rw [K3] at this
   rw [this];exact NS _
  ·have e:x=b[0]:=by simpa using hx
   subst e
   refine ⟨fun y hy=>hf y (by simpa using hy),fun y hy=>?_⟩
   exact gq Sb (aT (cu nb)) y (K1 hy)
 dsimp only
 by_cases q1:(1 == b.size)=true
 ·rw [JJ q1]
  exact JV (h _ st (.refl st) (m0.done Sa Sb (.inl (by simpa using q1))))
 rw [JM q1]
 by_cases q2:(0+1 == a.size)=true
 ·rw [JJ q2]
  exact JV (h _ st (.refl st) (m0.last Sa Sb (by simpa using q2) ez hz))
 rw [JM q2]
 have n1:b.size≠1:=fun z=>q1 (by rw [z];rfl)
 have n2:a.size≠1:=fun z=>q2 (by rw [z];rfl)
 refine JL (MD ?_)
 refine JL (Lq (KF (I:=fun x c st' => Sm1 st st'/\∃ out i j mg,c=(none,out,i,j,mg)/\MI a b out i j/\i+1<a.size/\j<b.size/\x+1<=out.size)
  (Q:=fun c st' => Sm1 st st'/\∃ r rest,c=(some r,rest)/\Mg a b r) ?step ?fin ⟨.refl st,_,0,1,_,rfl,m0,by lia,by lia,JE _⟩) ?post)
 case post =>
  rintro c st' ⟨sm,r,rest,rfl,mg⟩
  exact JV (h r st' sm mg)
 case fin =>
  rintro c st' ⟨sm,out,i,j,mg,rfl,m,h1,h2,h3⟩
  have:=m.size
  lia
 case step =>
  rintro x c st' _ hx ⟨sm,out,i,j,mg,rfl,m,h1,h2,h3⟩
  dsimp only
  refine JL (Lq (KF (I:=fun y c st2=>st2=st'/\∃ out2 i j ac bc,c=(none,out2,i,j,ac,bc)/\MI a b out2 i j/\i+1<a.size/\j<b.size/\out.size+y<=out2.size)
   (Q:=fun c st2=>st2=st'/\((∃ r rest,c=(some r,rest)/\Mg a b r)\/∃ out2 i j ac bc,c=(none,out2,i,j,ac,bc)/\MI a b out2 i j/\i+1<a.size/\j<b.size/\out.size+1<=out2.size)) ?s1 ?f1 ⟨rfl,out,i,j,0,0,rfl,m,h1,h2,JE _⟩) ?p1)
  case f1 =>
   rintro c st2 ⟨rfl,out2,i,j,ac,bc,rfl,m,h1,h2,h4⟩
   exact ⟨rfl,.inr ⟨out2,i,j,ac,bc,rfl,m,h1,h2,by lia⟩⟩
  case s1 =>
   rintro y c st2 _ hy ⟨rfl,out2,i,j,ac,bc,rfl,m,h1,h2,h4⟩
   dsimp only
   have eb:=cu (a:=b) h2
   have ea:=cu (a:=a) (i:=i) (by lia)
   refine JL (cW eb (JL (cW ea (JL (gp (sm.kind.trans hk) (ib _ _ eb) (ia _ _ ea) ?_)))))
   by_cases lt:ky b[j]<ky a[i]
   ·rw [KR lt]
    dsimp only
    rw [JJ rfl]
    refine JL (cW eb ?_)
    have m2:=m.pushB Sb eb fun z hz=>KQ (Ld lt) (gq Sa (aT ea) z hz)
    by_cases q:(j+1 == b.size)=true
    ·rw [JJ q]
     exact JV ⟨rfl,.inl ⟨_,_,rfl,m2.done Sa Sb (.inl (by simpa using q))⟩⟩
    ·rw [JM q]
     have qn:j+1≠b.size:=by simpa using q
     by_cases g:bc+1 ≥ mg
     ·rw [JJ g]
      exact JV ⟨rfl,.inr ⟨_,_,_,_,_,rfl,m2,h1,by lia,by rw [KI];lia⟩⟩
     ·rw [JM g]
      exact JV ⟨rfl,_,_,_,_,_,rfl,m2,h1,by lia,by rw [KI];lia⟩
   ·rw [Ki lt]
    dsimp only
    rw [JM JZ]
    refine JL (cW ea ?_)
    have m2:=m.pushA Sa ea fun z hz=>KQ (Oh.mp lt) (gq Sb (aT eb) z hz)
    by_cases q:(i+1+1 == a.size)=true
    ·rw [JJ q]
     exact JV ⟨rfl,.inl ⟨_,_,rfl,m2.last Sa Sb (by simpa using q) ez hz⟩⟩
    ·rw [JM q]
     have qn:i+1+1≠a.size:=by simpa using q
     by_cases g:ac+1 ≥ mg
     ·rw [JJ g]
      exact JV ⟨rfl,.inr ⟨_,_,_,_,_,rfl,m2,by lia,h2,by rw [KI];lia⟩⟩
     ·rw [JM g]
      exact JV ⟨rfl,_,_,_,_,_,rfl,m2,by lia,h2,by rw [KI];lia⟩
  case p1 =>
   rintro c st2 ⟨rfl,hc⟩
   rcases hc with ⟨r,rest,rfl,mgd⟩ | ⟨out2,i,j,ac,bc,rfl,m,h1,h2,h4⟩
   ·exact JV ⟨sm,r,_,rfl,mgd⟩
   ·dsimp only
    refine JL (kD ?_)
    refine JL (Lq (KF (I:=fun y c st3=>Sm1 st st3/\∃ out3 i j mg ac bc,c=(none,out3,i,j,mg,ac,bc)/\MI a b out3 i j/\i+1<a.size/\j<b.size/\out2.size<=out3.size)
     (Q:=fun c st3=>Sm1 st st3/\((∃ r rest,c=(some r,rest)/\Mg a b r)\/∃ out3 i j mg ac bc,c=(none,out3,i,j,mg,ac,bc)/\MI a b out3 i j/\i+1<a.size/\j<b.size/\out2.size<=out3.size)) ?s2 ?f2 ⟨sm,out2,i,j,_,ac,bc,rfl,m,h1,h2,JE _⟩) ?p2)
    case f2=>rintro c st3 ⟨s3,hh⟩;exact ⟨s3,.inr hh⟩
    case p2 =>
     rintro c st3 ⟨s3,hc⟩
     rcases hc with ⟨r,rest,rfl,mgd⟩ | ⟨out3,i,j,mg3,ac,bc,rfl,m,h1,h2,h5⟩
     ·exact JV ⟨s3,r,_,rfl,mgd⟩
     ·exact JL (kE fun st4 s4=>JV ⟨s3.trans s4,out3,i,j,_,rfl,m,h1,h2,by lia⟩)
    case s2 =>
     rintro y c st3 _ hy ⟨s3,out3,i,j,mg3,ac,bc,rfl,m,h1,h2,h5⟩
     dsimp only
     have eb:=cu (a:=b) h2
     have body:∀ (mgx:Nat) (st4:SortSt),Sm1 st st4->wpS (model P w) A E s (do
       let v <- elem' b j
       let r <- gn false v a i (a.size-i) 0
       match r with
       | some k =>
        if k > 0 then
         if (i+k+1 == a.size)=true then pure (.done (some (out3++a.extract i (i+k)++b.extract j b.size++a.extract (i+k) a.size),out3++a.extract i (i+k),i+k,j,mgx,k,bc))
         else if (i+k == a.size)=true then pure (.done (some (out3++a.extract i (i+k)++a.extract (i+k) a.size++b.extract j b.size),out3++a.extract i (i+k),i+k,j,mgx,k,bc))
         else sO a b (out3++a.extract i (i+k)) (i+k) j mgx k bc
        else sO a b out3 i j mgx k bc
       | _=>pure (.done (some (out3++a.extract i a.size++b.extract j b.size),out3,i,j,mgx,ac,bc))) (GR a b out2.size st) st4:=by
      intro mgx st4 s4
      refine JL (cW eb (JL (E8 (s4.kind.trans hk) (by lia) (ib _ _ eb) ia Sa fun k c1 c2 c3=>?_)))
      dsimp only
      by_cases z1:k > 0
      ·rw [JJ z1]
       have m4:=m.addA Sa c1 fun x hx y hy=>KQ (c2 x hx) (gq Sb (aT eb) y hy)
       by_cases q4:(i+k+1 == a.size)=true
       ·rw [JJ q4]
        exact JV ⟨s4,.inl ⟨_,_,rfl,m4.last Sa Sb (by simpa using q4) ez hz⟩⟩
       ·rw [JM q4]
        have q4n:i+k+1≠a.size:=by simpa using q4
        by_cases q5:(i+k == a.size)=true
        ·rw [JJ q5]
         exact JV ⟨s4,.inl ⟨_,_,rfl,m4.done Sa Sb (.inr (by simpa using q5))⟩⟩
        ·rw [JM q5]
         have q5n:i+k≠a.size:=by simpa using q5
         exact xZ hk Sa Sb ia ib ez hz s4 m4 (by lia) h2 (by rw [Lm];lia) eb fun y hy=>Ld (c3 y hy)
      ·rw [JM z1]
       have k0:k=0:=by lia
       subst k0
       exact xZ hk Sa Sb ia ib ez hz s4 m h1 h2 h5 eb fun y hy=>Ld (c3 y hy)
     by_cases g:mg3 > 1
     ·rw [JJ g]
      exact JL (kE fun st4 s4=>Lq (body (mg3-1) st4 (s3.trans s4)) fun r st5 h=>by cases r<;>exact h)
     ·rw [JM g]
      exact JL (kE fun st4 s4=>Lq (body mg3 st4 (s3.trans s4)) fun r st5 h=>by cases r<;>exact h)
end
end L2
namespace L2
open PySem PyProof.Rows
def sP:Array Keyed->Array Keyed->StateT SortSt Sem (Array Keyed):=sortPriv% PySem.Builtin.mergeHi
structure HI (a b out:Array Keyed) (na nb:Nat):Prop where
 pa:na<=a.size
 pb:nb<=b.size
 per:out.toList.Perm (a.toList.drop na++b.toList.drop nb)
 srt:Srt out.toList.reverse
 le:∀ x∈out.toList,(∀ y∈a.toList.take na,ky y<=ky x)/\∀ y∈b.toList.take nb,ky y<=ky x
theorem iV (a:Array Keyed) (i n:Nat):(a.extract i n).toList=(a.toList.take n).drop i:=by
 rw [ME,List.extract_eq_drop_take,LZ]
theorem sQ (l:List Keyed) {i n:Nat} (h:i<=n):l.take n=l.take i++(l.take n).drop i:=by
 have:=Kj i (l.take n)
 rw [Mu,KY h] at this
 exact this.symm
theorem sR (l:List Keyed) {i n:Nat} (h:i<=n):l.drop i=(l.take n).drop i++l.drop n:=by
 rw [LZ]
 have:=Kj (n-i) (l.drop i)
 rw [Lz,show i+(n-i)=n by lia] at this
 exact this.symm
section
variable {a b out:Array Keyed} {na nb:Nat}
theorem HI.size (m:HI a b out na nb):out.size+na+nb=a.size+b.size:=by
 have:=m.per.length_eq
 simp only [JT,KJ,KO] at this
 have:=m.pa
 have:=m.pb
 lia
theorem HI.addA (m:HI a b out na nb) (Sa:Srt a.toList) {k:Nat} (hk:k<=na) (hb:∀ x∈(a.toList.take na).drop k,∀ y∈b.toList.take nb,ky y<=ky x):HI a b (out++(a.extract k na).reverse) k nb:=by
 have e:(out++(a.extract k na).reverse).toList=out.toList++((a.toList.take na).drop k).reverse:=by rw [Ke,Lp,iV]
 have sp:=sQ a.toList hk
 have st:=Sa.take na
 rw [sp,Srt.app] at st
 refine ⟨JK hk m.pa,m.pb,?_,?_,fun x hx=>?_⟩
 ·rw [e,sR a.toList hk,JP]
  refine (KP).trans ?_
  exact (Mv _).append m.per
 ·rw [e,MR,MF,Srt.app]
  exact ⟨st.2.1,m.srt,fun x hx y hy=>(m.le y (KM.mp hy)).1 x (by rw [sp];exact JW _ hx)⟩
 ·rw [e] at hx
  rcases JQ.mp hx with hx | hx
  ·exact ⟨fun y hy=>(m.le x hx).1 y (by rw [sp];exact JN _ hy),(m.le x hx).2⟩
  ·exact ⟨fun y hy=>st.2.2 y hy x (KM.mp hx),hb x (KM.mp hx)⟩
theorem HI.addB (m:HI a b out na nb) (Sb:Srt b.toList) {k:Nat} (hk:k<=nb) (ha:∀ x∈(b.toList.take nb).drop k,∀ y∈a.toList.take na,ky y<=ky x):HI a b (out++(b.extract k nb).reverse) na k:=by
 have e:(out++(b.extract k nb).reverse).toList=out.toList++((b.toList.take nb).drop k).reverse:=by rw [Ke,Lp,iV]
 have sp:=sQ b.toList hk
 have st:=Sb.take nb
 rw [sp,Srt.app] at st
 refine ⟨m.pa,JK hk m.pb,?_,?_,fun x hx=>?_⟩
 ·rw [e,sR b.toList hk]
  refine (List.Perm.append m.per (Mv _)).trans ?_
  rw [JP]
  exact K7 _ KP
 ·rw [e,MR,MF,Srt.app]
  exact ⟨st.2.1,m.srt,fun x hx y hy=>(m.le y (KM.mp hy)).2 x (by rw [sp];exact JW _ hx)⟩
 ·rw [e] at hx
  rcases JQ.mp hx with hx | hx
  ·exact ⟨(m.le x hx).1,fun y hy=>(m.le x hx).2 y (by rw [sp];exact JN _ hy)⟩
  ·exact ⟨ha x (KM.mp hx),fun y hy=>st.2.2 y hy x (KM.mp hx)⟩
theorem oN {a:Array Keyed} {i:Nat} {x:Keyed} (e:a[i]? = some x):(a.toList.take (i+1)).drop i=[x]:=by
 rw [LZ,Lb];exact jF e
theorem x4 {a out:Array Keyed} {i:Nat} {x:Keyed} (e:a[i]? = some x):out.push x=out++(a.extract i (i+1)).reverse:=by
 apply Array.ext'
 rw [Lo,Ke,Lp,iV,oN e];rfl
theorem HI.pushA (m:HI a b out (na+1) nb) (Sa:Srt a.toList) {x:Keyed} (e:a[na]? = some x) (hb:∀ y∈b.toList.take nb,ky y<=ky x):HI a b (out.push x) na nb:=by
 rw [x4 e]
 refine m.addA Sa (Na _) fun z hz y hy=>?_
 rw [oN e] at hz
 rw [Kf.mp hz];exact hb y hy
theorem HI.pushB (m:HI a b out na (nb+1)) (Sb:Srt b.toList) {x:Keyed} (e:b[nb]? = some x) (ha:∀ y∈a.toList.take na,ky y<=ky x):HI a b (out.push x) na nb:=by
 rw [x4 e]
 refine m.addB Sb (Na _) fun z hz y hy=>?_
 rw [oN e] at hz
 rw [Kf.mp hz];exact ha y hy
theorem HI.done (m:HI a b out na nb) (Sa:Srt a.toList) (Sb:Srt b.toList) (h:na=0\/nb=0):Mg a b (a.extract 0 na++b.extract 0 nb++out.reverse):=by
 have e:(a.extract 0 na++b.extract 0 nb++out.reverse).toList=(a.toList.take na++b.toList.take nb)++out.toList.reverse:=by
  rw [Ke,Ke,iV,iV,Lp,K3,K3]
 have pr:((a.toList.take na++b.toList.take nb)++out.toList.reverse).Perm (a.toList++b.toList):=by
  refine (((Mv _).trans m.per).append_left _).trans ?_
  have:(a.toList++b.toList)=(a.toList.take na++a.toList.drop na)++(b.toList.take nb++b.toList.drop nb):=by rw [Kj,Kj]
  rw [this]
  simp only [JP]
  refine K7 _ ?_
  rw [<- JP,<- JP]
  exact Mt _ KP
 refine ⟨by rw [e];exact pr,?_⟩
 rw [e,Srt.app,Srt.app]
 refine ⟨⟨Sa.take na,Sb.take nb,fun x hx y hy=>?_⟩,m.srt,fun x hx y hy=>?_⟩
 ·rcases h with h | h
  ·rw [h] at hx;exact nomatch hx
  ·rw [h] at hy;exact nomatch hy
 ·rcases JQ.mp hx with hx | hx
  ·exact (m.le y (KM.mp hy)).1 x hx
  ·exact (m.le y (KM.mp hy)).2 x hx
theorem HI.first (m:HI a b out na nb) (Sa:Srt a.toList) (Sb:Srt b.toList) (h:nb=1) {z:Keyed} (ez:b[0]? = some z) (hz:∀ y∈a.toList,ky z<=ky y):Mg a b (b.extract 0 nb++a.extract 0 na++out.reverse):=by
 subst h
 have e:(b.extract 0 1++a.extract 0 na++out.reverse).toList=(b.toList.take 1++a.toList.take na)++out.toList.reverse:=by
  rw [Ke,Ke,iV,iV,Lp,K3,K3]
 have one:b.toList.take 1=[z]:=by
  have:=oN ez
  rw [K3] at this;exact this
 have pr:((b.toList.take 1++a.toList.take na)++out.toList.reverse).Perm (a.toList++b.toList):=by
  refine (List.Perm.append KP ((Mv _).trans m.per)).trans ?_
  have:(a.toList++b.toList)=(a.toList.take na++a.toList.drop na)++(b.toList.take 1++b.toList.drop 1):=by rw [Kj,Kj]
  rw [this]
  simp only [JP]
  refine K7 _ ?_
  rw [<- JP,<- JP]
  exact Mt _ KP
 refine ⟨by rw [e];exact pr,?_⟩
 rw [e,Srt.app,Srt.app]
 refine ⟨⟨Sb.take 1,Sa.take na,fun x hx y hy=>?_⟩,m.srt,fun x hx y hy=>?_⟩
 ·rw [one] at hx
  rw [Kf.mp hx]
  exact hz y (K2 hy)
 ·rcases JQ.mp hx with hx | hx
  ·exact (m.le y (KM.mp hy)).2 x hx
  ·exact (m.le y (KM.mp hy)).1 x hx
theorem mE {l:List Keyed} (S:Srt l) {i:Nat} {x:Keyed} (e:l[i]? = some x):∀ y∈l.take (i+1),ky y<=ky x:=by
 intro y hy
 obtain ⟨j,hj⟩:=J1.mp hy
 have hl:j<i+1:=by
  have:=(JD.mp hj).1
  simp at this;lia
 rw [Km hl] at hj
 refine gq S hj x ?_
 rw [J1]
 exact ⟨i-j,by rw [Kg,show j+(i-j)=i by (clear hj hy e S;lia)];exact e⟩
end
section
variable {P:Program} {w:World} {A:Around} {E:Value->Shared->Prop} {s:Shared}
theorem Fc {st:SortSt} {key:Keyed} {arr:Array Keyed} {n:Nat} {Q:Option Nat->SortSt->Prop} (hk:kindOf st=oneType') (hb:n+1<=arr.size) (ik:IK key) (ia:∀ (i:Nat) (x:Keyed),arr[i]? = some x->IK x) (S:Srt arr.toList)
  (h:∀ k,k<=n+1->(∀ x∈(arr.toList.take (n+1)).drop k,ky key<=ky x)->(∀ x∈arr.toList.take k,ky x<=ky key)->Q (some k) st):wpS (model P w) A E s (gn false key arr 0 (n+1) n) Q st:=by
 have get:∀ i,i<n+1->∃ x,arr[0+i]? = some x:=fun i hi=>⟨_,cu (by lia)⟩
 refine kB hk (by lia) (by lia) ik ia (fun i=>match arr[0+i]? with | some x=>!decide (ky key<ky x) | none=>false) (fun i x e=>by simp only [e];rfl) (fun i j hij hj z=>?_) fun k h1 h2 h3=>?_
 ·obtain ⟨x,ex⟩:=get i (by lia)
  obtain ⟨y,ey⟩:=get j hj
  simp only [ex,ey,K9,Kv] at z ⊢
  have:=gq S (aT ex) y (by
   rw [J1]
   exact ⟨j-i,by rw [Kg,show 0+i+(j-i)=0+j by lia];exact aT ey⟩)
  lia
 ·refine h k h1 (fun x hx=>?_) fun x hx=>?_
  ·obtain ⟨i,hi⟩:=J1.mp hx
   have hik:k+i<n+1:=by
    have:=(JD.mp hi).1
    simp at this;(clear hi hx h3 h2 h1 get h S ia ik hk;lia)
   rw [Kg,Km hik] at hi
   have e:arr[0+(k+i)]? = some x:=by rw [K8];simpa using hi
   have z:=h3 (k+i) (by lia) (by omega)
   simp only [e,M3,KA] at z
   lia
  ·obtain ⟨i,hi⟩:=J1.mp hx
   have hik:i<k:=by
    have:=(JD.mp hi).1
    simp at this;lia
   rw [Km hik] at hi
   have e:arr[0+i]? = some x:=by rw [K8];simpa using hi
   have z:=h2 i hik
   simp only [e,K9,Kv] at z
   lia
theorem Fd {st:SortSt} {key:Keyed} {arr:Array Keyed} {n:Nat} {Q:Option Nat->SortSt->Prop} (hk:kindOf st=oneType') (hb:n+1<=arr.size) (ik:IK key) (ia:∀ (i:Nat) (x:Keyed),arr[i]? = some x->IK x) (S:Srt arr.toList)
  (h:∀ k,k<=n+1->(∀ x∈(arr.toList.take (n+1)).drop k,ky key<=ky x)->(∀ x∈arr.toList.take k,ky x<=ky key)->Q (some k) st):wpS (model P w) A E s (gn true key arr 0 (n+1) n) Q st:=by
 have get:∀ i,i<n+1->∃ x,arr[0+i]? = some x:=fun i hi=>⟨_,cu (by lia)⟩
 refine kB hk (by lia) (by lia) ik ia (fun i=>match arr[0+i]? with | some x=>decide (ky x<ky key) | none=>false) (fun i x e=>by simp only [e];rfl) (fun i j hij hj z=>?_) fun k h1 h2 h3=>?_
 ·obtain ⟨x,ex⟩:=get i (by lia)
  obtain ⟨y,ey⟩:=get j hj
  simp only [ex,ey,KA] at z ⊢
  have:=gq S (aT ex) y (by
   rw [J1]
   exact ⟨j-i,by rw [Kg,show 0+i+(j-i)=0+j by lia];exact aT ey⟩)
  lia
 ·refine h k h1 (fun x hx=>?_) fun x hx=>?_
  ·obtain ⟨i,hi⟩:=J1.mp hx
   have hik:k+i<n+1:=by
    have:=(JD.mp hi).1
    simp at this;lia
   rw [Kg,Km hik] at hi
   have e:arr[0+(k+i)]? = some x:=by rw [K8];simpa using hi
   have z:=h3 (k+i) (by lia) (by lia)
   simp only [e,Kv] at z
   lia
  ·obtain ⟨i,hi⟩:=J1.mp hx
   have hik:i<k:=by
    have:=(JD.mp hi).1
    simp at this;lia
   rw [Km hik] at hi
   have e:arr[0+i]? = some x:=by rw [K8];simpa using hi
   have z:=h2 i hik
   simp only [e,KA] at z
   lia
abbrev HS:=Option (Array Keyed)×Nat×Nat×Array Keyed×Nat×Nat×Nat
def x6 (a b:Array Keyed) (n:Nat) (st:SortSt) (c:HS) (st3:SortSt):Prop:=Sm1 st st3/\∃ p q out mg ac bc,c=(none,p+1,q+2,out,mg,ac,bc)/\HI a b out (p+1) (q+2)/\n<=out.size
def x8 (a b:Array Keyed) (n:Nat) (st:SortSt) (c:HS) (st3:SortSt):Prop:=Sm1 st st3/\((∃ r rest,c=(some r,rest)/\Mg a b r)\/∃ p q out mg ac bc,c=(none,p+1,q+2,out,mg,ac,bc)/\HI a b out (p+1) (q+2)/\n<=out.size)
def sS (a b:Array Keyed) (n:Nat) (st:SortSt) (r:ForInStep HS) (st3:SortSt):Prop:=match r with
 | .done c=>x8 a b n st c st3
 | .yield c=>x6 a b n st c st3
def sT (a b o:Array Keyed) (na nb mg k k2:Nat):StateT SortSt Sem (ForInStep HS):=do
 let v <- elem' a (na-1)
 if (na-1 == 0)=true then pure (.done (some (a.extract 0 (na-1)++b.extract 0 nb++(o.push v).reverse),na-1,nb,o.push v,mg,k,k2))
 else if (decide (k<7) && decide (k2<7))=true then pure (.done (none,na-1,nb,o.push v,mg,k,k2)) else pure (.yield (none,na-1,nb,o.push v,mg,k,k2))
def iW (a b o:Array Keyed) (na nb mg k bc:Nat):StateT SortSt Sem (ForInStep HS):=do
 let v <- elem' b (nb-1)
 if (nb-1 == 1)=true then pure (.done (some (b.extract 0 (nb-1)++a.extract 0 na++(o.push v).reverse),na,nb-1,o.push v,mg,k,bc))
 else do
  let u <- elem' a (na-1)
  let r <- gn true u b 0 (nb-1) (nb-1-1)
  match r with
  | some at_ =>
   if nb-1-at_ > 0 then
    if (at_ == 1)=true then pure (.done (some (b.extract 0 at_++a.extract 0 na++(o.push v++(b.extract at_ (nb-1)).reverse).reverse),na,at_,o.push v++(b.extract at_ (nb-1)).reverse,mg,k,nb-1-at_))
    else if (at_ == 0)=true then pure (.done (some (a.extract 0 na++b.extract 0 at_++(o.push v++(b.extract at_ (nb-1)).reverse).reverse),na,at_,o.push v++(b.extract at_ (nb-1)).reverse,mg,k,nb-1-at_))
    else sT a b (o.push v++(b.extract at_ (nb-1)).reverse) na at_ mg k (nb-1-at_)
   else sT a b (o.push v) na (nb-1) mg k (nb-1-at_)
  | _=>pure (.done (some (a.extract 0 na++b.extract 0 (nb-1)++(o.push v).reverse),na,nb-1,o.push v,mg,k,bc))
theorem x9 {st st4:SortSt} {a b o:Array Keyed} {p q mg k k2 n:Nat} (Sa:Srt a.toList) (Sb:Srt b.toList) (s4:Sm1 st st4) (m:HI a b o (p+1) (q+2)) (h3:n<=o.size)
  {u:Keyed} (eu:a[p]? = some u) (hu:∀ y∈b.toList.take (q+2),ky y<=ky u):wpS (model P w) A E s (sT a b o (p+1) (q+2) mg k k2) (sS a b n st) st4:=by
 refine JL (cW eu ?_)
 have m7:=m.pushA Sa eu hu
 cases p with
 | zero =>
  rw [JJ (show (0+1-1 == 0)=true from rfl)]
  exact JV ⟨s4,.inl ⟨_,_,rfl,m7.done Sa Sb (.inl rfl)⟩⟩
 | succ p =>
  rw [JM (by simp)]
  have sz:n<=(o.push u).size:=by rw [KI];lia
  by_cases g:(decide (k<7) && decide (k2<7))=true
  ·rw [JJ g];exact JV ⟨s4,.inr ⟨p,q,_,_,_,_,rfl,m7,sz⟩⟩
  ·rw [JM g];exact JV ⟨s4,p,q,_,_,_,_,rfl,m7,sz⟩
theorem ya {st st4:SortSt} {a b o:Array Keyed} {p q mg k bc n:Nat} (hk:kindOf st=oneType') (Sa:Srt a.toList) (Sb:Srt b.toList) (ia:∀ (i:Nat) (x:Keyed),a[i]? = some x->IK x) (ib:∀ (i:Nat) (x:Keyed),b[i]? = some x->IK x) {z:Keyed} (ez:b[0]? = some z) (hz:∀ y∈a.toList,ky z<=ky y) (s4:Sm1 st st4) (m:HI a b o (p+1) (q+2)) (h3:n<=o.size)
  {v:Keyed} (ev:b[q+1]? = some v) (hv:∀ y∈a.toList.take (p+1),ky y<=ky v):wpS (model P w) A E s (iW a b o (p+1) (q+2) mg k bc) (sS a b n st) st4:=by
 refine JL (cW ev ?_)
 have m5:=m.pushB Sb ev hv
 cases q with
 | zero =>
  rw [JJ (show (0+2-1 == 1)=true from rfl)]
  exact JV ⟨s4,.inl ⟨_,_,rfl,m5.first Sa Sb rfl ez hz⟩⟩
 | succ q =>
  rw [JM (by simp)]
  have pa:=m.pa
  have pb:=m.pb
  have eu:=cu (a:=a) (i:=p) (by lia)
  have sz:n<=(o.push v).size:=by rw [KI];lia
  refine JL (cW eu (JL (Fd (n:=q+1) (s4.kind.trans hk) (by lia) (ia _ _ eu) ib Sb fun t c1 c2 c3=>?_)))
  dsimp only
  by_cases z2:q+1+2-1-t > 0
  ·rw [JJ z2]
   have m6:=m5.addB Sb c1 fun x hx y hy=>KQ (mE Sa (aT eu) y hy) (c2 x hx)
   have e1:q+1+2-1=q+2:=by lia
   by_cases q6:(t == 1)=true
   ·rw [JJ q6]
    exact JV ⟨s4,.inl ⟨_,_,rfl,m6.first Sa Sb (by simpa using q6) ez hz⟩⟩
   ·rw [JM q6]
    have q6n:t≠1:=by simpa using q6
    by_cases q7:(t == 0)=true
    ·rw [JJ q7]
     exact JV ⟨s4,.inl ⟨_,_,rfl,m6.done Sa Sb (.inr (by simpa using q7))⟩⟩
    ·rw [JM q7]
     have q7n:t≠0:=by simpa using q7
     obtain ⟨t',rfl⟩:∃ t',t=t'+2:=⟨t-2,by lia⟩
     exact x9 Sa Sb s4 m6 (by rw [Lm];lia) eu c3
  ·rw [JM z2]
   have k0:t=q+1+1:=by lia
   subst k0
   exact x9 Sa Sb s4 m5 sz eu c3
theorem Fe {st:SortSt} {a b:Array Keyed} {Q:Array Keyed->SortSt->Prop} (hk:kindOf st=oneType') (Sa:Srt a.toList) (Sb:Srt b.toList) (ia:∀ (i:Nat) (x:Keyed),a[i]? = some x->IK x) (ib:∀ (i:Nat) (x:Keyed),b[i]? = some x->IK x) (na:0<a.size) (nb:0<b.size)
  (hf:∀ y∈a.toList,ky b[0]<=ky y) (hz:∀ y∈b.toList,ky y<=ky a[a.size-1]) (h:∀ r st',Sm1 st st'->Mg a b r->Q r st'):wpS (model P w) A E s (sP a b) Q st:=by
 have ez:=cu (a:=b) nb
 have el:=cu (a:=a) (i:=a.size-1) (by (clear ez h hz hf nb ib ia Sb Sa hk;omega))
 refine JL (kD ?_)
 refine JL (cW el ?_)
 have m0:HI a b #[a[a.size-1]] (a.size-1) b.size:=by
  refine ⟨by lia,JE _,?_,LA _ _,fun x hx=>?_⟩
  ·have:=jF el
   rw [Kn (by simp;lia)] at this
   rw [this,Ku (by simp)];exact NS _
  ·have e:x=a[a.size-1]:=by simpa using hx
   subst e
   refine ⟨fun y hy=>mE Sa (aT el) y (by rw [Kn (by simp;lia)];exact K2 hy),fun y hy=>hz y (K2 hy)⟩
 dsimp only
 by_cases q1:(a.size-1 == 0)=true
 ·rw [JJ q1]
  exact JV (h _ st (.refl st) (m0.done Sa Sb (.inl (by simpa using q1))))
 rw [JM q1]
 by_cases q2:(b.size == 1)=true
 ·rw [JJ q2]
  exact JV (h _ st (.refl st) (m0.first Sa Sb (by simpa using q2) ez hf))
 rw [JM q2]
 have n1:a.size-1≠0:=by simpa using q1
 have n2:b.size≠1:=by simpa using q2
 obtain ⟨p0,ep⟩:∃ p,a.size-1=p+1:=⟨a.size-2,by lia⟩
 obtain ⟨q0,eq⟩:∃ q,b.size=q+2:=⟨b.size-2,by lia⟩
 have v1:(#[a[a.size-1]]:Array Keyed).size=1:=rfl
 generalize (#[a[a.size-1]]:Array Keyed)=V at *
 refine JL (MD ?_)
 refine JL (Lq (KF (I:=fun x c st' => Sm1 st st'/\∃ p q out mg,c=(none,p+1,q+2,out,mg)/\HI a b out (p+1) (q+2)/\x+1<=out.size)
  (Q:=fun c st' => Sm1 st st'/\∃ r rest,c=(some r,rest)/\Mg a b r) ?step ?fin ⟨.refl st,p0,q0,V,_,by rw [ep,eq],by rw [<- ep,<- eq];exact m0,by lia⟩) ?post)
 case post =>
  rintro c st' ⟨sm,r,rest,rfl,mg⟩
  exact JV (h r st' sm mg)
 case fin =>
  rintro c st' ⟨sm,p,q,out,mg,rfl,m,h3⟩
  have:=m.size
  lia
 case step =>
  rintro x c st' _ hx ⟨sm,p,q,out,mg,rfl,m,h3⟩
  dsimp only
  refine JL (Lq (KF (I:=fun y c st2=>st2=st'/\∃ p q out2 ac bc,c=(none,p+1,q+2,out2,ac,bc)/\HI a b out2 (p+1) (q+2)/\out.size+y<=out2.size)
   (Q:=fun c st2=>st2=st'/\((∃ r rest,c=(some r,rest)/\Mg a b r)\/∃ p q out2 ac bc,c=(none,p+1,q+2,out2,ac,bc)/\HI a b out2 (p+1) (q+2)/\out.size+1<=out2.size)) ?s1 ?f1 ⟨rfl,p,q,out,0,0,rfl,m,JE _⟩) ?p1)
  case f1 =>
   rintro c st2 ⟨rfl,p,q,out2,ac,bc,rfl,m,h4⟩
   exact ⟨rfl,.inr ⟨p,q,out2,ac,bc,rfl,m,by lia⟩⟩
  case s1 =>
   rintro y c st2 _ hy ⟨rfl,p,q,out2,ac,bc,rfl,m,h4⟩
   dsimp only
   have pa:=m.pa
   have pb:=m.pb
   have eb:=cu (a:=b) (i:=q+1) (by lia)
   have ea:=cu (a:=a) (i:=p) (by lia)
   refine JL (cW eb (JL (cW ea (JL (gp (sm.kind.trans hk) (ib _ _ eb) (ia _ _ ea) ?_)))))
   by_cases lt:ky b[q+1]<ky a[p]
   ·rw [KR lt]
    dsimp only
    rw [JJ rfl]
    refine JL (cW ea ?_)
    have m2:=m.pushA Sa ea fun z hz=>KQ (mE Sb (aT eb) z hz) (Ld lt)
    cases p with
    | zero =>
     rw [JJ (show (0+1-1 == 0)=true from rfl)]
     exact JV ⟨rfl,.inl ⟨_,_,rfl,m2.done Sa Sb (.inl rfl)⟩⟩
    | succ p =>
     rw [JM (by simp)]
     by_cases g:ac+1 ≥ mg
     ·rw [JJ g]
      exact JV ⟨rfl,.inr ⟨p,q,_,_,_,rfl,m2,by rw [KI];lia⟩⟩
     ·rw [JM g]
      exact JV ⟨rfl,p,q,_,_,_,rfl,m2,by rw [KI];lia⟩
   ·rw [Ki lt]
    dsimp only
    rw [JM JZ]
    refine JL (cW eb ?_)
    have m2:=m.pushB Sb eb fun z hz=>KQ (mE Sa (aT ea) z hz) (Oh.mp lt)
    cases q with
    | zero =>
     rw [JJ (show (0+2-1 == 1)=true from rfl)]
     exact JV ⟨rfl,.inl ⟨_,_,rfl,m2.first Sa Sb rfl ez hf⟩⟩
    | succ q =>
     rw [JM (by simp)]
     by_cases g:bc+1 ≥ mg
     ·rw [JJ g]
      exact JV ⟨rfl,.inr ⟨p,q,_,_,_,rfl,m2,by rw [KI];lia⟩⟩
     ·rw [JM g]
      exact JV ⟨rfl,p,q,_,_,_,rfl,m2,by rw [KI];lia⟩
  case p1 =>
   rintro c st2 ⟨rfl,hc⟩
   rcases hc with ⟨r,rest,rfl,mgd⟩ | ⟨p,q,out2,ac,bc,rfl,m,h4⟩
   ·exact JV ⟨sm,r,_,rfl,mgd⟩
   ·dsimp only
    refine JL (kD ?_)
    refine JL (Lq (KF (I:=fun y c st3=>x6 a b out2.size st c st3) (Q:=fun c st3=>x8 a b out2.size st c st3) ?s2 ?f2 ⟨sm,p,q,out2,_,ac,bc,rfl,m,JE _⟩) ?p2)
    case f2=>rintro c st3 ⟨s3,hh⟩;exact ⟨s3,.inr hh⟩
    case p2 =>
     rintro c st3 ⟨s3,hc⟩
     rcases hc with ⟨r,rest,rfl,mgd⟩ | ⟨p,q,out3,mg3,ac,bc,rfl,m,h5⟩
     ·exact JV ⟨s3,r,_,rfl,mgd⟩
     ·exact JL (kE fun st4 s4=>JV ⟨s3.trans s4,p,q,out3,_,rfl,m,by lia⟩)
    case s2 =>
     rintro y c st3 _ hy ⟨s3,p,q,out3,mg3,ac,bc,rfl,m,h5⟩
     dsimp only
     have pa:=m.pa
     have pb:=m.pb
     have eb:=cu (a:=b) (i:=q+1) (by lia)
     have body:∀ (mgx:Nat) (st4:SortSt),Sm1 st st4->wpS (model P w) A E s (do
       let v <- elem' b (q+2-1)
       let r <- gn false v a 0 (p+1) (p+1-1)
       match r with
       | some at_ =>
        if p+1-at_ > 0 then
         if (at_ == 0)=true then pure (.done (some (a.extract 0 at_++b.extract 0 (q+2)++(out3++(a.extract at_ (p+1)).reverse).reverse),at_,q+2,out3++(a.extract at_ (p+1)).reverse,mgx,p+1-at_,bc))
         else iW a b (out3++(a.extract at_ (p+1)).reverse) at_ (q+2) mgx (p+1-at_) bc
        else iW a b out3 (p+1) (q+2) mgx (p+1-at_) bc
       | _=>pure (.done (some (a.extract 0 (p+1)++b.extract 0 (q+2)++out3.reverse),p+1,q+2,out3,mgx,ac,bc))) (sS a b out2.size st) st4:=by
      intro mgx st4 s4
      refine JL (cW eb (JL (Fc (n:=p) (s4.kind.trans hk) pa (ib _ _ eb) ia Sa fun t c1 c2 c3=>?_)))
      dsimp only
      by_cases z1:p+1-t > 0
      ·rw [JJ z1]
       have m4:=m.addA Sa c1 fun x hx y hy=>KQ (mE Sb (aT eb) y hy) (c2 x hx)
       by_cases q4:(t == 0)=true
       ·rw [JJ q4]
        exact JV ⟨s4,.inl ⟨_,_,rfl,m4.done Sa Sb (.inl (by simpa using q4))⟩⟩
       ·rw [JM q4]
        have q4n:t≠0:=by simpa using q4
        obtain ⟨t',rfl⟩:∃ t',t=t'+1:=⟨t-1,by lia⟩
        exact ya hk Sa Sb ia ib ez hf s4 m4 (by rw [Lm];lia) eb c3
      ·rw [JM z1]
       have k0:t=p+1:=by lia
       subst k0
       exact ya hk Sa Sb ia ib ez hf s4 m h5 eb c3
     by_cases g:mg3 > 1
     ·rw [JJ g]
      exact JL (kE fun st4 s4=>Lq (body (mg3-1) st4 (s3.trans s4)) fun r st5 h=>by cases r<;>exact h)
     ·rw [JM g]
      exact JL (kE fun st4 s4=>Lq (body mg3 st4 (s3.trans s4)) fun r st5 h=>by cases r<;>exact h)
end
end L2
namespace L2
open PySem PyProof.Rows
def sl (L:List Keyed) (lo hi:Nat):List Keyed:=(L.take hi).drop lo
theorem yb (a:Array Keyed) (i n:Nat):(a.extract i n).toList=sl a.toList i n:=iV a i n
theorem mF {L:List Keyed} {lo hi:Nat} (h:hi<=L.length):(sl L lo hi).length=hi-lo:=by
 unfold sl;rw [KJ,Kw,KY h]
theorem kF {L:List Keyed} {lo hi i:Nat} (h:lo+i<hi):(sl L lo hi)[i]? = L[lo+i]? := by
 unfold sl;rw [Kg,Km h]
theorem iX (L:List Keyed) {lo m hi:Nat} (h1:lo<=m) (h2:m<=hi):sl L lo hi=sl L lo m++sl L m hi:=by
 unfold sl
 have e:=sR (L.take hi) h1
 rw [Mu,KY h2] at e
 exact e
theorem iY {L:List Keyed} {lo hi:Nat} {x:Keyed} (h:x∈sl L lo hi):∃ i,lo<=i/\i<hi/\L[i]? = some x:=by
 unfold sl at h
 obtain ⟨i,hi'⟩:=J1.mp h
 rw [Kg] at hi'
 have hl:lo+i<hi:=by
  have:=(JD.mp hi').1
  simp at this;lia
 rw [Km hl] at hi'
 exact ⟨lo+i,by lia,hl,hi'⟩
theorem yc {L:List Keyed} {lo hi i:Nat} {x:Keyed} (h1:lo<=i) (h2:i<hi) (e:L[i]? = some x):x∈sl L lo hi:=by
 rw [J1]
 exact ⟨i-lo,by rw [kF (by lia),show lo+(i-lo)=i by lia];exact e⟩
def RunsFrom (L:List Keyed):Nat->List (Nat×Nat×Nat)->Nat->Prop
 | lo,[],hi=>lo=hi
 | lo,(s,n,_)::r,hi=>s=lo/\1<=n/\Srt (sl L lo (lo+n))/\RunsFrom L (lo+n) r hi
theorem RunsFrom.le {L:List Keyed}:∀ {r:List (Nat×Nat×Nat)} {lo hi:Nat},RunsFrom L lo r hi->lo+r.length<=hi
 | [],lo,hi,h=>by cases (show lo=hi from h);simp
 | (s,n,_)::r,lo,hi,h=>by
  obtain ⟨_,h1,_,h2⟩:=h
  have:=RunsFrom.le h2
  rw [J6];lia
theorem RunsFrom.app {L:List Keyed}:∀ {p r:List (Nat×Nat×Nat)} {lo hi:Nat},RunsFrom L lo (p++r) hi ↔ ∃ m,RunsFrom L lo p m/\RunsFrom L m r hi
 | [],r,lo,hi=>⟨fun h=>⟨lo,rfl,h⟩,fun ⟨m,h1,h2⟩=>by cases (show lo=m from h1);exact h2⟩
 | (s,n,w)::p,r,lo,hi=>⟨fun ⟨a,b,c,d⟩=>by
   obtain ⟨m,h1,h2⟩:=RunsFrom.app.mp d
   exact ⟨m,⟨a,b,c,h1⟩,h2⟩,fun ⟨m,⟨a,b,c,d⟩,h2⟩=>⟨a,b,c,RunsFrom.app.mpr ⟨m,d,h2⟩⟩⟩
theorem RunsFrom.pre {L L':List Keyed}:∀ {p:List (Nat×Nat×Nat)} {lo m:Nat},L'.take m=L.take m->RunsFrom L lo p m->RunsFrom L' lo p m
 | [],_,_,_,h=>h
 | (s,n,w)::p,lo,m,e,h=>by
  obtain ⟨a,b,c,d⟩:=h
  have hm:=d.le
  refine ⟨a,b,?_,RunsFrom.pre e d⟩
  unfold sl at c ⊢
  have:L'.take (lo+n)=L.take (lo+n):=by
   have z:=congrArg (List.take (lo+n)) e
   rw [Mu,Mu,KY (by lia)] at z
   exact z
  rw [this];exact c
theorem sU {L L':List Keyed} {m lo hi:Nat} (e:L'.drop m=L.drop m) (h:m<=lo):sl L' lo hi=sl L lo hi:=by
 unfold sl
 rw [LZ,LZ]
 have z:=congrArg (List.drop (lo-m)) e
 rw [Lz,Lz,show m+(lo-m)=lo by lia] at z
 rw [z]
theorem RunsFrom.suf {L L':List Keyed} {m:Nat} (e:L'.drop m=L.drop m):∀ {p:List (Nat×Nat×Nat)} {lo hi:Nat},m<=lo->RunsFrom L lo p hi->RunsFrom L' lo p hi
 | [],_,_,_,h=>h
 | (s,n,w)::p,lo,hi,hm,h=>by
  obtain ⟨a,b,c,d⟩:=h
  exact ⟨a,b,by rw [sU e hm];exact c,RunsFrom.suf e (by lia) d⟩
theorem yd:∀ (M:List Keyed) (X:Array Keyed) (s k:Nat),s+k+M.length<=X.size ->
  ((M.zipIdx k).foldl (fun a (q:Keyed×Nat)=>a.setIfInBounds (s+q.2) q.1) X).toList=X.toList.take (s+k)++M++X.toList.drop (s+k+M.length)
 | [],X,s,k,_=>by simp
 | x::M,X,s,k,h=>by
  rw [List.zipIdx_cons,NF]
  rw [J6] at h
  rw [yd M _ s (k+1) (by rw [Array.size_setIfInBounds];lia)]
  have hs:s+k<X.toList.length:=by simp;lia
  rw [M4]
  have t1:(X.toList.set (s+k) x).take (s+(k+1))=X.toList.take (s+k)++[x]:=by
   rw [show s+(k+1)=s+k+1 by lia,M1,List.take_set_of_le (JE _),JR hs];rfl
  have t2:(X.toList.set (s+k) x).drop (s+(k+1)+M.length)=X.toList.drop (s+k+(M.length+1)):=by
   rw [List.drop_set_of_lt (by lia)]
   congr 1;lia
  rw [t1,t2]
  simp
structure TB (a₀:Array Keyed) (st:SortSt):Prop where
 perm:(arrOf st).toList.Perm a₀.toList
 kind:kindOf st=oneType'
 fail:failedOf st=none
section
variable {a₀:Array Keyed}
theorem TB.size {st:SortSt} (h:TB a₀ st):(arrOf st).size=a₀.size:=by simpa using h.perm.length_eq
theorem TB.ik {st:SortSt} (h:TB a₀ st) (h0:IntKeys a₀) (i:Nat) (x:Keyed) (e:(arrOf st)[i]? = some x):IK x:=h0 x (h.perm.mem_iff.mp (by
 rw [J1];exact ⟨i,aT e⟩))
end
section
variable {P:Program} {w:World} {A:Around} {E:Value->Shared->Prop} {s:Shared}
theorem mG {L:List Keyed} {lo hi i j:Nat} {x y:Keyed} (S:Srt (sl L lo hi)) (h1:lo<=i) (h2:i<=j) (h3:j<hi) (ex:L[i]? = some x) (ey:L[j]? = some y):ky x<=ky y:=by
 refine gq S (i:=i-lo) (by rw [kF (by lia),show lo+(i-lo)=i by lia];exact ex) y ?_
 rw [J1]
 exact ⟨j-i,by rw [Kg,kF (by lia),show lo+(i-lo+(j-i))=j by lia];exact ey⟩
theorem sV {st:SortSt} {key:Keyed} {arr:Array Keyed} {base n hint:Nat} {Q:Option Nat->SortSt->Prop} (hk:kindOf st=oneType') (hh:hint<n) (hb:base+n<=arr.size) (ik:IK key) (ia:∀ (i:Nat) (x:Keyed),arr[i]? = some x->IK x) (S:Srt (sl arr.toList base (base+n)))
  (h:∀ k,k<=n->(∀ x∈sl arr.toList base (base+k),ky x<=ky key)->(∀ x∈sl arr.toList (base+k) (base+n),ky key<ky x)->Q (some k) st):wpS (model P w) A E s (gn false key arr base n hint) Q st:=by
 have get:∀ i,i<n->∃ x,arr[base+i]? = some x:=fun i hi=>⟨_,cu (by lia)⟩
 refine kB hk hh hb ik ia (fun i=>match arr[base+i]? with | some x=>!decide (ky key<ky x) | none=>false) (fun i x e=>by simp only [e];rfl) (fun i j hij hj z=>?_) fun k h1 h2 h3=>?_
 ·obtain ⟨x,ex⟩:=get i (by lia)
  obtain ⟨y,ey⟩:=get j hj
  simp only [ex,ey,K9,Kv] at z ⊢
  have:=mG S (i:=base+i) (j:=base+j) (by lia) (by lia) (by lia) (aT ex) (aT ey)
  lia
 ·refine h k h1 (fun x hx=>?_) fun x hx=>?_
  ·obtain ⟨i,i1,i2,e⟩:=iY hx
   have e':arr[base+(i-base)]? = some x:=by rw [show base+(i-base)=i by lia];simpa using e
   have z:=h2 (i-base) (by lia)
   simp only [e',K9,Kv] at z
   lia
  ·obtain ⟨i,i1,i2,e⟩:=iY hx
   have e':arr[base+(i-base)]? = some x:=by rw [show base+(i-base)=i by lia];simpa using e
   have z:=h3 (i-base) (by lia) (by lia)
   simp only [e',M3,KA] at z
   exact z
theorem sW {st:SortSt} {key:Keyed} {arr:Array Keyed} {base n hint:Nat} {Q:Option Nat->SortSt->Prop} (hk:kindOf st=oneType') (hh:hint<n) (hb:base+n<=arr.size) (ik:IK key) (ia:∀ (i:Nat) (x:Keyed),arr[i]? = some x->IK x) (S:Srt (sl arr.toList base (base+n)))
  (h:∀ k,k<=n->(∀ x∈sl arr.toList base (base+k),ky x<ky key)->(∀ x∈sl arr.toList (base+k) (base+n),ky key<=ky x)->Q (some k) st):wpS (model P w) A E s (gn true key arr base n hint) Q st:=by
 have get:∀ i,i<n->∃ x,arr[base+i]? = some x:=fun i hi=>⟨_,cu (by lia)⟩
 refine kB hk hh hb ik ia (fun i=>match arr[base+i]? with | some x=>decide (ky x<ky key) | none=>false) (fun i x e=>by simp only [e];rfl) (fun i j hij hj z=>?_) fun k h1 h2 h3=>?_
 ·obtain ⟨x,ex⟩:=get i (by lia)
  obtain ⟨y,ey⟩:=get j hj
  simp only [ex,ey,KA] at z ⊢
  have:=mG S (i:=base+i) (j:=base+j) (by lia) (by lia) (by lia) (aT ex) (aT ey)
  lia
 ·refine h k h1 (fun x hx=>?_) fun x hx=>?_
  ·obtain ⟨i,i1,i2,e⟩:=iY hx
   have e':arr[base+(i-base)]? = some x:=by rw [show base+(i-base)=i by lia];simpa using e
   have z:=h2 (i-base) (by lia)
   simp only [e',KA] at z
   exact z
  ·obtain ⟨i,i1,i2,e⟩:=iY hx
   have e':arr[base+(i-base)]? = some x:=by rw [show base+(i-base)=i by lia];simpa using e
   have z:=h3 (i-base) (by lia) (by lia)
   simp only [e',Kv] at z
   lia
theorem Ff {st st':SortSt} {Q:PUnit->SortSt->Prop} (h:Q ⟨⟩ st'):wpS (model P w) A E s (set st':StateT SortSt Sem PUnit) Q st:=by
 unfold wpS;rw [StateT.run_set];exact J2 ⟨rfl,h⟩
theorem sX (L:List Keyed) {c e:Nat} (h:c<=e):L=L.take c++sl L c e++L.drop e:=by
 unfold sl
 have:=sQ L h
 rw [<- this,Kj]
theorem sY {L L' M:List Keyed} {sa m c e z:Nat} (h1:sa<=c) (h2:c<=m) (h3:m<=e) (h4:e<=z) (h5:z<=L.length) (eL:L'=L.take c++M++L.drop e) (pM:M.Perm (sl L c m++sl L m e)) (sM:Srt M) (Sa:Srt (sl L sa m)) (Sb:Srt (sl L m z))
  (q1:∀ x∈sl L sa c,∀ y∈sl L m z,ky x<=ky y) (q2:∀ x∈sl L c m,∀ y∈sl L e z,ky x<=ky y):L'.Perm L/\L'.take sa=L.take sa/\L'.drop z=L.drop z/\Srt (sl L' sa z):=by
 have lM:M.length=e-c:=by
  rw [pM.length_eq,JT,mF (by lia),mF (by lia)];lia
 have lc:(L.take c).length=c:=by rw [Kw];lia
 have le:(L.take c++M).length=e:=by rw [JT,lc,lM];lia
 rw [iX L h1 h2,Srt.app] at Sa
 rw [iX L h3 h4,Srt.app] at Sb
 have eS:sl L' sa z=sl L sa c++(M++sl L e z):=by
  have t:L'.take z=L.take c++(M++sl L e z):=by
   rw [eL,List.take_append,Kn (by rw [le];exact h4),le,JP]
   unfold sl
   rw [LZ]
  unfold sl at t ⊢
  rw [t,List.drop_append_of_le_length (by rw [lc];exact h1)]
 refine ⟨?_,?_,?_,?_⟩
 ·have z:=sX L (JK h2 h3)
  rw [iX L h2 h3] at z
  rw [eL]
  conv=>rhs;rw [z]
  exact (pM.append_left _).append_right _
 ·rw [eL,JP,LD (by rw [lc];exact h1),Mu,KY h1]
 ·rw [eL,List.drop_append,Ku (by rw [le];exact h4),LP,le,Lz]
  congr 1;lia
 ·rw [eS,Srt.app,Srt.app]
  have mm:∀ x∈M,x∈sl L c m\/x∈sl L m e:=fun x hx=>JQ.mp (pM.mem_iff.mp hx)
  refine ⟨Sa.1,⟨sM,Sb.2.1,fun x hx y hy=>?_⟩,fun x hx y hy=>?_⟩
  ·rcases mm x hx with hx | hx
   ·exact q2 x hx y hy
   ·exact Sb.2.2 x hx y hy
  ·rcases JQ.mp hy with hy | hy
   ·rcases mm y hy with hy | hy
    ·exact Sa.2.2 x hx y hy
    ·exact q1 x hx y (by rw [iX L h3 h4];exact JN _ hy)
   ·exact q1 x hx y (by rw [iX L h3 h4];exact JW _ hy)
end
end L2
namespace L2
open PySem PyProof.Rows
section
variable {P:Program} {w:World} {A:Around} {E:Value->Shared->Prop} {s:Shared}
theorem Fg (pre suf:List (Nat×Nat×Nat)) (x y z:Nat×Nat×Nat) (p:Array (Nat×Nat×Nat)) (e:p.toList=pre++[x,y]++suf) :
  p[pre.length]? = some x/\p[pre.length+1]? = some y/\((p.setIfInBounds pre.length z).eraseIdxIfInBounds (pre.length+1)).toList=pre++[z]++suf:=by
 refine ⟨?_,?_,?_⟩
 ·rw [<- Kx,e];simp
 ·rw [<- Kx,e];simp
 ·rw [Array.toList_eraseIdxIfInBounds,M4,e]
  have:(pre++[x,y]++suf).set pre.length z=pre++[z,y]++suf:=by simp
  rw [this,JP,List.eraseIdx_append_of_length_le (by lia),Lb]
  simp
theorem Fh {a₀:Array Keyed} {st:SortSt} {pre suf:List (Nat×Nat×Nat)} {sa na pw nb nC hi:Nat} {Q:Bool->SortSt->Prop} (h0:IntKeys a₀) (B:TB a₀ st) (hp:(pendingOf st).toList=pre++[(sa,na,pw),(sa+na,nb,nC)]++suf) (R:RunsFrom (arrOf st).toList 0 (pendingOf st).toList hi) (hhi:hi<=a₀.size)
  (h:∀ st',TB a₀ st'->(pendingOf st').toList=pre++[(sa,na+nb,pw)]++suf->RunsFrom (arrOf st').toList 0 (pendingOf st').toList hi->(arrOf st').toList.drop hi=(arrOf st).toList.drop hi->Q true st'):wpS (model P w) A E s (mergeAt' pre.length) Q st:=by
 obtain ⟨g1,g2,g3⟩:=Fg pre suf _ _ (sa,na+nb,pw) _ hp
 rw [hp,JP,RunsFrom.app] at R
 obtain ⟨m0,R1,e1,p1,S1,e2,p2,S2,R2⟩:=R
 subst e1
 have sz:=B.size
 obtain ⟨X,eX⟩:∃ X,X=arrOf st:=⟨_,rfl⟩
 rw [<- eX] at R1 S1 S2 R2 sz
 have b1:=R2.le
 have hz:sa+na+nb<=X.size:=by lia
 have lX:X.toList.length=X.size:=by simp
 have ik:∀ (i:Nat) (x:Keyed),X[i]? = some x->IK x:=fun i x e=>B.ik h0 i x (by rw [<- eX];exact e)
 refine JL (MD ?_)
 rw [show (pendingOf st)[pre.length]? = _ from g1,show (pendingOf st)[pre.length+1]? = _ from g2]
 dsimp only
 rw [show (sortPriv% PySem.Builtin.SortState.a) st=X from eX.symm]
 refine JL (Ff ?_)
 have ek:=cu (a:=X) (i:=sa+na) (by (clear ik lX b1 eX R1 S1 S2 R2 sz e2 p1 g3 g2 g1 h hhi hp B h0;lia))
 refine JL (cW ek (JL (sV B.kind p1 (by (clear ek ik lX b1 eX R1 S1 S2 R2 sz e2 p2 p1 g3 g2 g1 h hhi hp B h0;lia)) (ik _ _ ek) ik S1 fun k k1 c1 c2=>?_)))
 dsimp only
 have key1:∀ y∈sl X.toList (sa+na) (sa+na+nb),ky X[sa+na]<=ky y:=fun y hy=>by
  obtain ⟨i,i1,i2,e⟩:=iY hy
  exact mG S2 (JE _) i1 i2 (aT ek) e
 by_cases q1:(na-k == 0)=true
 ·rw [JJ q1]
  have ke:k=na:=by have:na-k=0:=(by simpa using q1);lia
  subst ke
  refine JV (h _ ⟨by rw [eX] at *;exact B.perm,B.kind,B.fail⟩ g3 ?_ (by rw [eX]))
  show RunsFrom X.toList 0 ((pendingOf st).setIfInBounds pre.length (sa,k+nb,pw) |>.eraseIdxIfInBounds (pre.length+1)).toList hi
  rw [g3,JP,RunsFrom.app]
  refine ⟨sa,R1,rfl,by lia,?_,by rw [<- LR];exact R2⟩
  rw [iX X.toList (m:=sa+k) (by lia) (by lia),Srt.app,<- LR]
  exact ⟨S1,S2,fun x hx y hy=>KQ (c1 x hx) (key1 y hy)⟩
 ·rw [JM q1]
  have kl:k<na:=by have:na-k≠0:=(by simpa using q1);(clear this key1 c2 c1 ek ik lX hz b1 eX R1 S1 S2 R2 sz e2 p2 p1 g3 g2 g1 h hhi hp B h0;lia)
  have el:=cu (a:=X) (i:=sa+na-1) (by (clear kl q1 key1 c2 c1 k1 ek ik lX hz eX R1 S1 S2 R2 e2 p2 g3 g2 g1 h hp B h0;lia))
  have e5:sa+k+(na-k)-1=sa+na-1:=by (clear el kl key1 c2 c1 k1 ek ik lX hz b1 eX R1 S1 S2 R2 sz e2 p2 g3 g2 g1 h hhi hp B h0;lia)
  rw [e5]
  refine JL (cW el (JL (sW B.kind (by lia) hz (ik _ _ el) ik S2 fun t t1 d1 d2=>?_)))
  dsimp only
  have lastgt:ky X[sa+na]<ky X[sa+na-1]:=c2 _ (yc (by (clear d2 d1 t1 e5 el q1 key1 c2 c1 k1 ek ik lX hz b1 eX R1 S1 S2 R2 sz e2 p2 g3 g2 g1 h hhi hp B h0;lia)) (by (clear d2 d1 t1 e5 el kl q1 key1 c2 c1 k1 ek ik lX hz b1 eX R1 S1 S2 R2 sz e2 p2 g3 g2 g1 h hhi hp B h0;omega)) (aT el))
  by_cases q2:(t == 0)=true
  ·exfalso
   have t0:t=0:=by simpa using q2
   subst t0
   have:=d2 _ (yc (i:=sa+na) (by lia) (by lia) (aT ek))
   lia
  ·rw [JM q2]
   have tn:t≠0:=by simpa using q2
   obtain ⟨x,ex⟩:∃ x,x=X.extract (sa+k) (sa+na):=⟨_,rfl⟩
   obtain ⟨y,ey⟩:∃ y,y=X.extract (sa+na) (sa+na+t):=⟨_,rfl⟩
   have lx:x.toList=sl X.toList (sa+k) (sa+na):=by rw [ex,yb]
   have ly:y.toList=sl X.toList (sa+na) (sa+na+t):=by rw [ey,yb]
   have nx:x.size=na-k:=by have z:=congrArg List.length lx;rw [mF (by lia)] at z;simp at z;lia
   have ny:y.size=t:=by have z:=congrArg List.length ly;rw [mF (by lia)] at z;simp at z;omega
   have atx:∀ (i:Nat) (v:Keyed),x[i]? = some v->IK v:=fun i v e=>by
    have:v∈x.toList:=by rw [J1];exact ⟨i,aT e⟩
    rw [lx] at this
    obtain ⟨j,_,_,ej⟩:=iY this
    exact ik j v (by simpa using ej)
   have aty:∀ (i:Nat) (v:Keyed),y[i]? = some v->IK v:=fun i v e=>by
    have:v∈y.toList:=by rw [J1];exact ⟨i,aT e⟩
    rw [ly] at this
    obtain ⟨j,_,_,ej⟩:=iY this
    exact ik j v (by simpa using ej)
   have Sx:Srt x.toList:=by
    rw [iX X.toList (m:=sa+k) (by lia) (by lia),Srt.app] at S1
    rw [lx];exact S1.2.1
   have Sy:Srt y.toList:=by
    rw [iX X.toList (m:=sa+na+t) (by lia) (by lia),Srt.app] at S2
    rw [ly];exact S2.1
   have px:0<x.size:=by lia
   have py:0<y.size:=by lia
   have y0:y[0]=X[sa+na]:=by
    have e:y.toList[0]? = some X[sa+na]:=by rw [ly,kF (by lia)];exact aT ek
    have e':y[0]? = some X[sa+na]:=by simpa using e
    rw [cu py] at e';injection e'
   have xl:x[x.size-1]=X[sa+na-1]:=by
    have e:x.toList[x.size-1]? = some X[sa+na-1]:=by rw [lx,kF (by (clear y0 py px Sy Sx aty atx ny lx ey ex tn q2 lastgt d2 d1 t1 e5 el kl c2 c1 k1 ek ik b1 eX R1 S1 S2 R2 sz e2 p1 g3 g2 g1 h hhi hp B h0;lia)),show sa+k+(x.size-1)=sa+na-1 by lia];exact aT el
    have e':x[x.size-1]? = some X[sa+na-1]:=by simpa using e
    rw [cu (show x.size-1<x.size by lia)] at e';injection e'
   have hf:∀ v∈x.toList,ky y[0]<=ky v:=fun v hv=>by rw [y0];rw [lx] at hv;exact Ld (c2 v hv)
   have hg:∀ v∈y.toList,ky v<=ky x[x.size-1]:=fun v hv=>by rw [xl];rw [ly] at hv;exact Ld (d1 v hv)
   rw [<- ex,<- ey]
   have fin:∀ (r:Array Keyed) (st2:SortSt),kindOf st2=oneType'->failedOf st2=none->arrOf st2=X->(pendingOf st2).toList=pre++[(sa,na+nb,pw)]++suf->Mg x y r ->
     wpS (model P w) A E s (do
      modify fun z=>setArr z (r.toList.zipIdx.foldl (fun a (q:Keyed×Nat)=>a.setIfInBounds (sa+k+q.2) q.1) (arrOf z))
      let z <- get
      pure (failedOf z).isNone) Q st2:=by
    intro r st2 f1 f2 f3 f4 mg
    have rl:r.toList.length=(na-k)+t:=by rw [mg.per.length_eq,JT];simp;lia
    have fs:=yd r.toList X (sa+k) 0 (by (clear f4 f3 f2 f1 hg hf xl y0 py Sy Sx aty atx ny ly lx ey ex tn q2 lastgt d2 d1 e5 el kl q1 key1 c2 c1 k1 ek ik lX b1 eX R1 S1 S2 R2 sz e2 p2 p1 g3 g2 g1 h hhi hp B h0;lia))
    rw [Oq,show sa+k+r.toList.length=sa+na+t by (clear fs f4 f3 f2 f1 hg hf xl y0 py px Sy Sx aty atx ny nx ly lx ey ex tn q2 lastgt d2 d1 t1 e5 el kl key1 c2 c1 k1 ek ik lX hz b1 eX R1 S1 S2 R2 sz e2 p2 p1 g3 g2 g1 h hhi hp B h0;lia)] at fs
    have pM:=mg.per
    rw [lx,ly] at pM
    obtain ⟨u1,u2,u3,u4⟩:=sY (L:=X.toList) (sa:=sa) (m:=sa+na) (c:=sa+k) (e:=sa+na+t) (z:=sa+na+nb) (by lia) (by lia) (by lia) (by lia) (by omega) fs pM mg.srt S1 S2 (fun v hv u hu=>KQ (c1 v hv) (key1 u hu)) (fun v hv u hu=>by
     obtain ⟨i,i1,i2,ev⟩:=iY hv
     exact KQ (mG S1 (by lia) (show i<=sa+na-1 by (clear ev hu hv pM fs rl mg f4 f3 f2 f1 hg hf xl y0 py px Sy Sx aty atx ny nx ly lx ey ex tn q2 lastgt d2 d1 t1 e5 el kl q1 key1 c2 c1 k1 ek ik lX hz b1 eX R1 S1 S2 R2 sz e2 p2 p1 g3 g2 g1 h hhi B h0;lia)) (by (clear ev i2 i1 hu hv pM fs rl mg f4 f3 f2 f1 hg hf xl y0 py px Sy Sx aty atx ny nx ly lx ey ex tn q2 lastgt d2 d1 t1 e5 el kl q1 key1 c2 c1 k1 ek ik lX hz b1 eX R1 S1 S2 R2 sz e2 p2 g3 g2 g1 h hhi hp B h0;omega)) ev (aT el)) (d2 u hu))
    refine JL (L4 (JL (MD (JV ?_))))
    have fe:(failedOf (setArr st2 (r.toList.zipIdx.foldl (fun a (q:Keyed×Nat)=>a.setIfInBounds (sa+k+q.2) q.1) (arrOf st2)))).isNone=true:=by show (failedOf st2).isNone=true;rw [f2];rfl
    rw [fe]
    refine h _ ⟨?_,f1,f2⟩ f4 ?_ ?_
    ·show (r.toList.zipIdx.foldl (fun a (q:Keyed×Nat)=>a.setIfInBounds (sa+k+q.2) q.1) (arrOf st2)).toList.Perm a₀.toList
     rw [f3]
     exact u1.trans (by rw [eX];exact B.perm)
    ·show RunsFrom (r.toList.zipIdx.foldl (fun a (q:Keyed×Nat)=>a.setIfInBounds (sa+k+q.2) q.1) (arrOf st2)).toList 0 (pendingOf st2).toList hi
     rw [f3,f4,JP,RunsFrom.app]
     refine ⟨sa,RunsFrom.pre u2 R1,rfl,by lia,by rw [<- LR];exact u4,?_⟩
     rw [<- LR]
     exact RunsFrom.suf u3 (JE _) R2
    ·show (r.toList.zipIdx.foldl (fun a (q:Keyed×Nat)=>a.setIfInBounds (sa+k+q.2) q.1) (arrOf st2)).toList.drop hi=_
     rw [f3,<- eX]
     have z:=congrArg (List.drop (hi-(sa+na+nb))) u3
     rw [Lz,Lz,show sa+na+nb+(hi-(sa+na+nb))=hi by (clear z fe u4 u3 u2 u1 pM fs rl mg f4 f3 f2 f1 hg hf xl y0 py px Sy Sx aty atx ny nx ly lx ey ex tn q2 lastgt d2 d1 t1 e5 el kl q1 key1 c2 c1 k1 ek ik lX hz R1 S1 S2 R2 sz e2 p2 p1 g3 g2 g1 h hhi hp B h0;lia)] at z
     exact z
   by_cases q3:na-k<=t
   ·rw [JJ q3]
    exact JL (Fb B.kind Sx Sy atx aty px py hf hg fun r st2 sm mg=>fin r st2 (sm.kind.trans B.kind) (sm.fail.trans B.fail) (sm.arr.trans rfl) (by rw [sm.pend];exact g3) mg)
   ·rw [JM q3]
    exact JL (Fe B.kind Sx Sy atx aty px py hf hg fun r st2 sm mg=>fin r st2 (sm.kind.trans B.kind) (sm.fail.trans B.fail) (sm.arr.trans rfl) (by rw [sm.pend];exact g3) mg)
end
end L2
namespace L2
open PySem PyProof.Rows
def gK (xs:Array Keyed) (lo hi:Nat):Prop:=∀ i j,lo<=i->i<=j->j<hi->K xs i<=K xs j
theorem d6 {xs:Array Keyed} {i:Nat} {x:Keyed} (e:xs[i]? = some x):K xs i=ky x:=by unfold K;rw [e];rfl
theorem ye {xs:Array Keyed} {lo hi:Nat} (h:gK xs lo hi) (hh:hi<=xs.size):Srt (sl xs.toList lo hi):=by
 unfold Srt
 rw [L9]
 intro i j hi' hj' hij
 have l:(sl xs.toList lo hi).length=hi-lo:=mF (by simpa using hh)
 have e1:(sl xs.toList lo hi)[i]? = some (sl xs.toList lo hi)[i]:=by simp
 have e2:(sl xs.toList lo hi)[j]? = some (sl xs.toList lo hi)[j]:=by simp
 rw [kF (by lia)] at e1 e2
 have a1:xs[lo+i]? = some (sl xs.toList lo hi)[i]:=by simpa using e1
 have a2:xs[lo+j]? = some (sl xs.toList lo hi)[j]:=by simpa using e2
 rw [<- d6 a1,<- d6 a2]
 exact h _ _ (by lia) (by lia) (by (clear a2 a1 e2 e1 hij hi' h;lia))
structure Keep (a₀:Array Keyed) (lo:Nat) (st st':SortSt):Prop where
 tb:TB a₀ st'
 pend:pendingOf st'=pendingOf st
 low:∀ i,i<lo->(arrOf st')[i]? = (arrOf st)[i]?
theorem Keep.refl {a₀:Array Keyed} {lo:Nat} {st:SortSt} (B:TB a₀ st):Keep a₀ lo st st:=⟨B,rfl,fun _ _=>rfl⟩
theorem Keep.trans {a₀:Array Keyed} {lo:Nat} {s1 s2 s3:SortSt} (h:Keep a₀ lo s1 s2) (g:Keep a₀ lo s2 s3):Keep a₀ lo s1 s3:=⟨g.tb,g.pend.trans h.pend,fun i hi=>(g.low i hi).trans (h.low i hi)⟩
theorem Keep.arr {a₀:Array Keyed} {lo:Nat} {st:SortSt} (B:TB a₀ st) {xs:Array Keyed} (p:xs.Perm (arrOf st)) (hl:∀ i,i<lo->xs[i]? = (arrOf st)[i]?):Keep a₀ lo st (setArr st xs) :=
 ⟨⟨(M5.mp p).trans B.perm,B.kind,B.fail⟩,rfl,hl⟩
section
variable {a₀:Array Keyed}
theorem TB.ne {st:SortSt} (B:TB a₀ st) (nd:(a₀.toList.map ky).Nodup) {i j:Nat} (h:i<j) (hj:j<a₀.size):K (arrOf st) i≠K (arrOf st) j:=by
 have n:((arrOf st).toList.map ky).Nodup:=(B.perm.map ky).nodup_iff.mpr nd
 have sz:=B.size
 have e1:=cu (a:=arrOf st) (i:=i) (by lia)
 have e2:=cu (a:=arrOf st) (i:=j) (by lia)
 rw [d6 e1,d6 e2]
 have:=L9.mp n i j (by simp;lia) (by simp;lia) h
 simpa using this
end
section
variable {P:Program} {w:World} {A:Around} {E:Value->Shared->Prop} {s:Shared} {a₀:Array Keyed}
theorem mH {st:SortSt} {i j:Nat} {Q:Option Bool->SortSt->Prop} (h0:IntKeys a₀) (B:TB a₀ st) (hi:i<a₀.size) (hj:j<a₀.size) (h:Q (some (decide (K (arrOf st) i<K (arrOf st) j))) st):wpS (model P w) A E s (ltAt' i j) Q st:=by
 have sz:=B.size
 have e1:=cu (a:=arrOf st) (i:=i) (by lia)
 have e2:=cu (a:=arrOf st) (i:=j) (by lia)
 rw [d6 e1,d6 e2] at h
 rw [ltAt'_eq]
 exact JL (MD (JL (cW e1 (JL (cW e2 (gp B.kind (B.ik h0 _ _ e1) (B.ik h0 _ _ e2) h))))))
theorem Fi {st:SortSt} {lo n ok:Nat} {Q:Bool->SortSt->Prop} (h0:IntKeys a₀) (hn:lo+n<=a₀.size) (hok:ok<=n) (B:TB a₀ st) (hs:gK (arrOf st) lo (lo+ok))
  (h:∀ st',Keep a₀ lo st st'->gK (arrOf st') lo (lo+n)->Q true st'):wpS (model P w) A E s (binarySort' lo n ok) Q st:=by
 refine JL (Lq (KF (I:=fun k c st' => c=(none,())/\Keep a₀ lo st st'/\gK (arrOf st') lo (lo+min k n)) (Q:=fun c st' => c=(none,())/\Keep a₀ lo st st'/\gK (arrOf st') lo (lo+n)) ?step ?fin ?init) ?post)
 case post =>
  rintro c st' ⟨rfl,hB',hs'⟩
  exact JV (h st' hB' hs')
 case init =>
  refine ⟨rfl,.refl B,fun i j hi hij hj=>?_⟩
  by_cases h1:ok=0
  ·have:i=j:=by lia
   subst this;exact LC _
  ·exact hs i j hi hij (by lia)
 case fin =>
  rintro c st' ⟨hc,hB',hs'⟩
  refine ⟨hc,hB',?_⟩
  rwa [show min (max (max ok 1) n) n=n by (clear hs' hB' hc h hs B hok hn h0;lia)] at hs'
 case step =>
  rintro k c st' hak hkn ⟨rfl,kp,hs'⟩
  rw [show min k n=k by lia] at hs'
  have B' := kp.tb
  have sz:=B'.size
  refine JL (Lq (KF (I:=fun x c st'' => st''=st'/\∃ l r,c=(none,l,r)/\l<=r/\r<=k/\r-l<=k-x/\(∀ i,i<l->K (arrOf st') (lo+i)<=K (arrOf st') (lo+k))/\(∀ i,r<=i->i<k->K (arrOf st') (lo+k)<K (arrOf st') (lo+i)))
   (Q:=fun c st'' => st''=st'/\∃ l r,c=(none,l,r)/\l<=k/\(∀ i,i<l->K (arrOf st') (lo+i)<=K (arrOf st') (lo+k))/\(∀ i,l<=i->i<k->K (arrOf st') (lo+k)<K (arrOf st') (lo+i))) ?istep ?ifin ?iinit) ?ipost)
  case iinit=>exact ⟨rfl,0,k,rfl,by lia,by lia,by lia,fun i hi=>by lia,fun i h1 h2=>by lia⟩
  case ifin =>
   rintro c st'' ⟨rfl,l,r,rfl,hlr,hrk,hm,hlo,hhi⟩
   have:l=r:=by lia
   subst this
   exact ⟨rfl,l,l,rfl,hrk,hlo,hhi⟩
  case istep =>
   rintro x c st'' _ hxk ⟨rfl,l,r,rfl,hlr,hrk,hm,hlo,hhi⟩
   dsimp only
   by_cases hge:l ≥ r
   ·rw [JJ hge]
    have:l=r:=by lia
    subst this
    exact JV ⟨rfl,l,l,rfl,hrk,hlo,hhi⟩
   ·rw [JM hge]
    refine JL (mH h0 B' (by lia) (by lia) ?_)
    by_cases hless:K (arrOf st'') (lo+k)<K (arrOf st'') (lo+(l+r) / 2)
    ·rw [KR hless]
     refine JV ⟨rfl,l,(l+r) / 2,rfl,by lia,by lia,by (clear hless hge hhi hlo hrk hlr sz B' hs' kp hkn hak h hs B hok hn h0;lia),hlo,fun i h1 h2=>?_⟩
     exact Int.lt_of_lt_of_le hless (hs' _ _ (by lia) (by lia) (by lia))
    ·rw [Ki hless]
     refine JV ⟨rfl,(l+r) / 2+1,r,rfl,by lia,by omega,by (clear hless hhi hlo hrk hlr sz B' hs' kp hkn hak h hs B hok hn h0;omega),fun i h1=>?_,hhi⟩
     exact KQ (hs' (lo+i) (lo+(l+r) / 2) (by lia) (by lia) (by lia)) (Oh.mp hless)
  case ipost =>
   rintro c st'' ⟨rfl,l,r,rfl,hlk,hlo,hhi⟩
   have hks:lo+k<(arrOf st'').size:=by lia
   show wpS _ _ _ _ (do moveDown' (lo+k) (lo+l);pure (ForInStep.yield (none,()))) _ _
   rw [moveDown'_eq]
   refine JL (L4 (JV ⟨rfl,kp.trans (.arr B' (bubble_perm _ _ _) fun i hi=>?_),?_⟩))
   ·rw [getElem?_bubble hks _ (by (clear hi hks hhi hlo hlk sz B' hs' kp hkn hak h hs B hok hn h0;lia)),JM (by (clear hks hhi hlo sz B' hs' kp hkn hak h hs B hok h0;lia)),JM (by (clear hks hhi hlo sz B' hs' kp hkn hak h hs B hok hn h0;lia))]
   ·rw [show min (k+1) n=k+1 by lia]
    intro i j hi hij hj
    show K (bubble (arrOf st'') (lo+k) (lo+k-(lo+l))) i<=K (bubble (arrOf st'') (lo+k) (lo+k-(lo+l))) j
    rw [K_bubble hks (by lia),K_bubble hks (by lia),show lo+k-(lo+k-(lo+l))=lo+l by (clear hj hij hi hks hhi hlo sz B' hs' kp hkn hak h hs B hok hn h0;lia)]
    have lo':∀ i,lo<=i->i<lo+l->K (arrOf st'') i<=K (arrOf st'') (lo+k):=fun i a b=>by
     have:=hlo (i-lo) (by lia)
     rwa [show lo+(i-lo)=i by lia] at this
    have hi':∀ i,lo+l<=i->i<lo+k->K (arrOf st'') (lo+k)<K (arrOf st'') i:=fun i a b=>by
     have:=hhi (i-lo) (by lia) (by (clear lo' hj hij hi hks hhi hlo hlk sz B' hs' kp hkn hak h hs B hok hn h0;lia))
     rwa [show lo+(i-lo)=i by lia] at this
    repeat' split
    all_goals first
     | (exfalso;lia)
     | exact LC _
     | exact lo' _ (by omega) (by lia)
     | exact Ld (hi' _ (by lia) (by (clear hi' lo' hj hij hi hks hhi hlo hlk sz B' hs' kp hkn h hs B hok hn h0;lia)))
     | exact hs' _ _ (by lia) (by lia) (by lia)
theorem yf {st:SortSt} {lo nrem n0:Nat} {Q:Option (Option Nat)×Nat->SortSt->Prop} (h0:IntKeys a₀) (hn:lo+nrem<=a₀.size) (h1:1<=n0) (h2:n0<=nrem) (B:TB a₀ st) (hs:gK (arrOf st) lo (lo+n0))
  (h:∀ n,n0<=n->n<=nrem->gK (arrOf st) lo (lo+n)->(n=nrem\/K (arrOf st) (lo+n)<K (arrOf st) (lo+n-1))->Q (none,n) st) :
  wpS (model P w) A E s (forIn [n0:nrem] ((none,n0):Option (Option Nat)×Nat) fun _ c=>do
   let r <- ltAt' (lo+c.2) (lo+c.2-1)
   match r with
   | some sm=>if sm=true then pure (.done (none,c.2)) else pure (.yield (none,c.2+1))
   | _=>pure (.done (some none,c.2))) Q st:=by
 refine KF (I:=fun x c st' => st'=st/\c=(none,x)/\gK (arrOf st) lo (lo+x)) ?step ?fin ⟨rfl,rfl,hs⟩
 case fin =>
  rintro c st' ⟨rfl,rfl,hs'⟩
  rw [show max n0 nrem=nrem by lia] at hs' ⊢
  exact h nrem h2 (JE _) hs' (.inl rfl)
 case step =>
  rintro x c st' hax hxn ⟨rfl,rfl,hs'⟩
  dsimp only
  refine JL (mH h0 B (by lia) (by lia) ?_)
  by_cases less:K (arrOf st') (lo+x)<K (arrOf st') (lo+x-1)
  ·rw [KR less]
   exact JV (h x hax (by lia) hs' (.inr less))
  ·rw [Ki less]
   refine JV ⟨rfl,rfl,fun i j hi hij hj=>?_⟩
   by_cases hjx:j<lo+x
   ·exact hs' i j hi hij hjx
   ·have hj':j=lo+x:=by lia
    subst hj'
    by_cases hi':i=lo+x
    ·subst hi';exact LC _
    ·exact KQ (hs' i (lo+x-1) hi (by lia) (by (clear hi' hjx hj hij hi less hs' h hs B hxn h2 hn h0;lia))) (Oh.mp less)
theorem Fj {st:SortSt} {lo nrem:Nat} {Q:Option Nat->SortSt->Prop} (h0:IntKeys a₀) (nd:(a₀.toList.map ky).Nodup) (hn:lo+nrem<=a₀.size) (h1:1<=nrem) (B:TB a₀ st)
  (h:∀ n st',Keep a₀ lo st st'->1<=n->n<=nrem->gK (arrOf st') lo (lo+n)->Q (some n) st'):wpS (model P w) A E s (countRun' lo nrem) Q st:=by
 have one:gK (arrOf st) lo (lo+1):=fun i j hi hij hj=>by
  have:i=j:=by lia
  subst this;exact LC _
 have sz:=B.size
 refine JL (yf h0 hn (JE _) h1 B one fun n a1 a2 a3 a4=>?_)
 dsimp only
 by_cases q:(n == nrem)=true
 ·rw [JJ q]
  exact JV (h n st (.refl B) a1 a2 a3)
 ·rw [JM q]
  have qn:n≠nrem:=by simpa using q
  by_cases g:n > 1
  ·rw [JJ g]
   refine JL (mH h0 B (by lia) (by (clear g qn q a4 a3 sz one h B h1 nd h0;lia)) ?_)
   have l1:=a3 lo (lo+n-1) (JE _) (by (clear g qn q a4 a3 a2 sz one h B h1 hn nd h0;omega)) (by (clear g qn q a4 a3 a2 sz one h B h1 hn nd h0;omega))
   have l2:=B.ne nd (show lo<lo+n-1 by (clear l1 qn q a4 a3 a2 a1 sz one h B h1 hn nd h0;omega)) (by (clear l1 g qn q a4 a3 sz one h B h1 nd h0;lia))
   rw [KR (by lia)]
   dsimp only
   rw [JJ rfl]
   exact JV (h n st (.refl B) a1 a2 a3)
  ·rw [JM g]
   have n1:n=1:=by lia
   subst n1
   have fl:K (arrOf st) (lo+1)<K (arrOf st) (lo+1-1):=a4.resolve_left qn
   have two:∀ i j,lo<=i->i<=j->j<lo+(1+1)->K (arrOf st) j<=K (arrOf st) i:=fun i j hi hij hj=>by
    by_cases e:i=j
    ·subst e;exact LC _
    ·have e1:i=lo:=by lia
     have e2:j=lo+1:=by lia
     subst e1 e2
     exact Ld fl
   refine JL (kD ?_)
   refine JL (Lq (KF (I:=fun x c st' => st'=st/\c=(none,x,0)/\∀ i j,lo<=i->i<=j->j<lo+x->K (arrOf st) j<=K (arrOf st) i)
    (Q:=fun c st' => st'=st/\∃ x,c=(none,x,0)/\2<=x/\x<=nrem/\∀ i j,lo<=i->i<=j->j<lo+x->K (arrOf st) j<=K (arrOf st) i) ?step ?fin ⟨rfl,rfl,two⟩) ?post)
   case fin =>
    rintro c st' ⟨rfl,rfl,hd⟩
    refine ⟨rfl,_,rfl,by (clear hd two fl a4 a3 sz one h B g qn q a2 a1 h1 hn nd h0;lia),by lia,hd⟩
   case step =>
    rintro x c st' hx1 hx2 ⟨rfl,rfl,hd⟩
    dsimp only
    refine JL (mH h0 B (by lia) (by lia) ?_)
    by_cases less:K (arrOf st') (lo+x)<K (arrOf st') (lo+x-1)
    ·rw [KR less]
     dsimp only
     rw [JJ rfl,JM (by lia)]
     refine JV ⟨rfl,rfl,fun i j hi hij hj=>?_⟩
     by_cases hjx:j<lo+x
     ·exact hd i j hi hij hjx
     ·have hj':j=lo+x:=by lia
      subst hj'
      by_cases hi':i=lo+x
      ·subst hi';exact LC _
      ·exact KQ (Ld less) (hd i (lo+x-1) hi (by lia) (by (clear hi' hjx hj hij hi less hd two fl a4 a3 sz one h B hx2 g qn q a2 a1 h1 hn nd h0;omega)))
    ·rw [Ki less]
     dsimp only
     rw [JM JZ]
     refine JL (mH h0 B (by lia) (by lia) ?_)
     have l2:=B.ne nd (show lo+x-1<lo+x by (clear less hd two fl a4 a3 sz one h B hx2 g qn q a2 a1 h1 hn nd h0;omega)) (by lia)
     rw [KR (by lia)]
     dsimp only
     rw [JJ rfl]
     exact JV ⟨rfl,x,rfl,by omega,by lia,hd⟩
   case post =>
    rintro c st' ⟨rfl,x,rfl,x1,x2,hd⟩
    dsimp only
    rw [JM (by lia)]
    have hsz:lo+x<=(arrOf st').size:=by lia
    have kp:Keep a₀ lo st' (setArr st' (mirror (arrOf st') lo (lo+x) ((lo+x-lo) / 2))):=.arr B (mirror_perm _ _ _ _) fun i hi=>by
     rw [getElem?_mirror_all hsz,JM (by lia)]
    refine JL (wpS_reverse ?_)
    refine JL (yf h0 hn (by lia) x2 kp.tb (fun i j hi hij hj=>?_) fun m b1 b2 b3 _=>JV (h m _ kp (by lia) b2 b3))
    show K (mirror (arrOf st') lo (lo+x) ((lo+x-lo) / 2)) i<=K (mirror (arrOf st') lo (lo+x) ((lo+x-lo) / 2)) j
    rw [K_mirror hsz,K_mirror hsz,JJ (by lia),JJ (by lia)]
    exact hd _ _ (by (clear hij hi kp hsz hd x2 x1 two fl a4 a3 sz one h B g qn q a2 a1 h1 hn nd h0;omega)) (by (clear hi kp hsz hd x2 x1 two fl a4 a3 sz one h B g qn q a2 a1 h1 hn nd h0;omega)) (by (clear hj hij kp hsz hd x2 two fl a4 a3 sz one h B g qn q a2 a1 h1 hn nd h0;omega))
end
end L2
namespace L2
open PySem PyProof.Rows
section
variable {P:Program} {w:World} {A:Around} {E:Value->Shared->Prop} {s:Shared} {a₀:Array Keyed}
theorem yh {st:SortSt} {i hi:Nat} {Q:Bool->SortSt->Prop} (h0:IntKeys a₀) (B:TB a₀ st) (R:RunsFrom (arrOf st).toList 0 (pendingOf st).toList hi) (hhi:hi<=a₀.size) (hi2:i+1<(pendingOf st).size)
  (h:∀ st',TB a₀ st'->RunsFrom (arrOf st').toList 0 (pendingOf st').toList hi->(pendingOf st').size+1=(pendingOf st).size->(arrOf st').toList.drop hi=(arrOf st).toList.drop hi->Q true st'):wpS (model P w) A E s (mergeAt' i) Q st:=by
 obtain ⟨p,ep⟩:∃ p,p=(pendingOf st).toList:=⟨_,rfl⟩
 have lp:p.length=(pendingOf st).size:=by rw [ep];simp
 have e1:p.drop i=p[i]::p[i+1]::p.drop (i+2):=by
  rw [KU (by lia),KU (by lia)]
 have e2:p=p.take i++([p[i],p[i+1]]++p.drop (i+2)):=by
  conv=>lhs;rw [<- Kj i p,e1]
  rfl
 obtain ⟨⟨sa,na,pw⟩,ex⟩:∃ x,x=p[i]:=⟨_,rfl⟩
 obtain ⟨⟨sb,nb,nC⟩,ey⟩:∃ x,x=p[i+1]:=⟨_,rfl⟩
 rw [<- ex,<- ey] at e2
 have R' := R
 rw [<- ep,e2,RunsFrom.app] at R'
 obtain ⟨m0,R1,f1,f2,f3,f4,_⟩:=R'
 have f5:sb=sa+na:=by rw [f4,f1]
 subst f5
 have li:(p.take i).length=i:=by rw [Kw];lia
 have hp:(pendingOf st).toList=p.take i++[(sa,na,pw),(sa+na,nb,nC)]++p.drop (i+2):=by rw [<- ep,JP];exact e2
 have key:=Fh (P:=P) (w:=w) (A:=A) (E:=E) (s:=s) (Q:=Q) h0 B hp R hhi fun st' b1 b2 b3 b4=>h st' b1 b3 (by
  have z:=congrArg List.length b2
  simp only [JT,Kw,KJ,J6,KW,KO] at z
  lia) b4
 rw [li] at key
 exact key
theorem RunsFrom.pw {L:List Keyed}:∀ {p q:List (Nat×Nat×Nat)} {lo hi:Nat},p.map (fun x=>(x.1,x.2.1))=q.map (fun x=>(x.1,x.2.1))->RunsFrom L lo p hi->RunsFrom L lo q hi
 | [],[],_,_,_,h=>h
 | [],_::_,_,_,e,_=>by simp at e
 | _::_,[],_,_,e,_=>by simp at e
 | (s,n,w)::p,(s',n',w')::q,lo,hi,e,h=>by
  simp only [JS,ND,Prod.mk.injEq] at e
  obtain ⟨⟨e1,e2⟩,e3⟩:=e
  subst e1 e2
  obtain ⟨a,b,c,d⟩:=h
  exact ⟨a,b,c,RunsFrom.pw e3 d⟩
theorem yi (p:Array (Nat×Nat×Nat)) (k pw:Nat):(p.modify k fun x=>(x.1,x.2.1,pw)).toList.map (fun x=>(x.1,x.2.1))=p.toList.map (fun x=>(x.1,x.2.1)):=by
 apply LX
 intro i
 rw [Kh,Kh,Kx,Array.getElem?_modify,Kx]
 by_cases e:k=i
 ·rw [JJ e];cases p[i]? <;> rfl
 ·rw [JM e]
theorem sZ {m:Nat} (c:Prop) [Decidable c] (h:2<=m):(if c then m-2-1 else m-2)+1<m:=by split<;>omega
def tf (size pw:Nat):StateT SortSt Sem (Option PUnit×PUnit) :=
 forIn [0:size] ((none,⟨⟩):Option PUnit×PUnit) fun _ _=>do
  let z <- get
  match if (pendingOf z).size > 1 then (pendingOf z)[(pendingOf z).size-2]? else none with
  | some (_,_,older) =>
   if older<=pw then pure (.done (none,⟨⟩))
   else do
    let ok <- mergeAt' ((pendingOf z).size-2)
    if (!ok)=true then pure (.done (some ⟨⟩,⟨⟩)) else pure (.yield (none,⟨⟩))
  | _=>pure (.done (none,⟨⟩))
theorem yj {st:SortSt} {lo size pw:Nat} {Q:Option PUnit×PUnit->SortSt->Prop} (h0:IntKeys a₀) (hlo:lo<=a₀.size) (B:TB a₀ st) (R:RunsFrom (arrOf st).toList 0 (pendingOf st).toList lo)
  (h:∀ st',TB a₀ st'->RunsFrom (arrOf st').toList 0 (pendingOf st').toList lo->(arrOf st').toList.drop lo=(arrOf st).toList.drop lo->Q (none,⟨⟩) st'):wpS (model P w) A E s (tf size pw) Q st:=by
 refine KF (I:=fun _ c st' => c=(none,⟨⟩)/\TB a₀ st'/\RunsFrom (arrOf st').toList 0 (pendingOf st').toList lo/\(arrOf st').toList.drop lo=(arrOf st).toList.drop lo) ?step ?fin ⟨rfl,B,R,rfl⟩
 case fin=>rintro c st' ⟨rfl,b,r,d⟩;exact h st' b r d
 case step =>
  rintro x c st' _ hx ⟨rfl,b,r,d⟩
  refine JL (MD ?_)
  by_cases g:(pendingOf st').size > 1
  ·rw [JJ g]
   have e:(pendingOf st')[(pendingOf st').size-2]? = some ((pendingOf st')[(pendingOf st').size-2]'(by (clear d r b hx h R B hlo h0;omega))):=by simp
   rw [e]
   dsimp only
   by_cases o:((pendingOf st')[(pendingOf st').size-2]'(by lia)).2.2<=pw
   ·rw [JJ o];exact JV (h st' b r d)
   ·rw [JM o]
    refine JL (yh h0 b r hlo (by lia) fun st2 b2 r2 _ d2=>?_)
    exact JV ⟨rfl,b2,r2,d2.trans d⟩
  ·rw [JM g];exact JV (h st' b r d)
theorem Fk {st:SortSt} {Q:Unit->SortSt->Prop} (h0:IntKeys a₀) (nd:(a₀.toList.map ky).Nodup) (B:TB a₀ st) (hp:pendingOf st = #[]) (h1:1<=a₀.size)
  (h:∀ st',TB a₀ st'->Srt (arrOf st').toList->Q () st'):wpS (model P w) A E s sortRuns' Q st:=by
 refine JL (MD ?_)
 rw [show ((sortPriv% PySem.Builtin.SortState.a) st).size=a₀.size from B.size]
 dsimp only
 refine JL (Lq (KF (I:=fun x c st' => ∃ lo,c=(none,lo)/\TB a₀ st'/\RunsFrom (arrOf st').toList 0 (pendingOf st').toList lo/\lo<=a₀.size/\(x<=lo\/lo=a₀.size))
  (Q:=fun c st' => c=(none,a₀.size)/\TB a₀ st'/\RunsFrom (arrOf st').toList 0 (pendingOf st').toList a₀.size) ?step ?fin ⟨0,rfl,B,by rw [hp];rfl,Kk _,.inl (JE _)⟩) ?post)
 case fin =>
  rintro c st' ⟨lo,rfl,B',R,h2,h3⟩
  have:lo=a₀.size:=by lia
  subst this
  exact ⟨rfl,B',R⟩
 case step =>
  rintro x c st' _ hx ⟨lo,rfl,B',R,h2,h3⟩
  dsimp only
  by_cases q:lo ≥ a₀.size
  ·rw [JJ q]
   have:lo=a₀.size:=by lia
   subst this
   exact JV ⟨rfl,B',R⟩
  ·rw [JM q]
   refine JL (Fj h0 nd (by lia) (by lia) B' fun n st2 kp n1 n2 as=>?_)
   dsimp only
   have low:∀ {z:SortSt},Keep a₀ lo st' z->RunsFrom (arrOf z).toList 0 (pendingOf z).toList lo:=fun {z} k=>by
    rw [k.pend]
    refine RunsFrom.pre (LX fun i=>?_) R
    by_cases hi:i<lo
    ·rw [Km hi,Km hi,Kx,Kx];exact k.low i hi
    ·rw [Lh (by simp;lia),Lh (by simp;lia)]
   generalize (sortPriv% PySem.Builtin.minRun) a₀.size a₀.size 0=M
   by_cases g:n<M
   ·rw [JJ g]
    refine JL (kD (JL (Fi h0 (by (clear g low as n2 n1 kp q h3 R B' hx h hp B nd h0;lia)) (by (clear low as kp q h3 h2 R B' hx h h1 hp B nd h0;lia)) kp.tb as fun st3 k3 as3=>?_)))
    have kk:=kp.trans k3
    have sz:=kk.tb.size
    rw [JM (show ¬ ((!true)=true) from JZ)]
    have S3:=ye as3 (by (clear kk as3 k3 g low as n2 n1 kp q h3 R B' hx h hp B nd h0;lia))
    have L3:=low kk
    refine JL (MD ?_)
    cases eb:(pendingOf st3).back? with
    | none =>
     refine JL (L4 (JV ⟨_,rfl,⟨kk.tb.perm,kk.tb.kind,kk.tb.fail⟩,?_,by (clear eb L3 S3 sz kk as3 k3 g low as n2 n1 kp q h3 R B' hx h hp B nd h0;lia),.inl (by (clear eb L3 S3 sz kk as3 k3 low as n2 n1 kp h2 R B' h h1 hp B nd h0;lia))⟩))
     show RunsFrom (arrOf st3).toList 0 ((pendingOf st3).push (lo,min (a₀.size-lo) M,0)).toList (lo+min (a₀.size-lo) M)
     rw [Lo,RunsFrom.app]
     exact ⟨lo,L3,rfl,by (clear eb L3 S3 sz kk as3 k3 low as n2 n1 kp h3 h2 R B' hx h hp B nd h0;lia),S3,rfl⟩
    | some t =>
     obtain ⟨s1,n1',w1⟩:=t
     dsimp only
     refine JL (yj h0 h2 kk.tb L3 fun z b2 r2 d2=>?_)
     dsimp only
     refine JL (L4 (JL (L4 (JV ⟨_,rfl,⟨b2.perm,b2.kind,b2.fail⟩,?_,by (clear d2 r2 b2 eb L3 S3 sz kk as3 k3 g low as n2 n1 kp q h3 R B' hx h hp B nd h0;lia),.inl (by (clear d2 r2 b2 eb L3 S3 sz kk as3 k3 low as n2 n1 kp h2 R B' h h1 hp B nd h0;lia))⟩))))
     show RunsFrom (arrOf z).toList 0 (((pendingOf z).modify ((pendingOf z).size-1) fun x=>(x.1,x.2.1,power' a₀.size (2*s1+n1') (2*s1+n1'+n1'+min (a₀.size-lo) M) a₀.size)).push (lo,min (a₀.size-lo) M,0)).toList (lo+min (a₀.size-lo) M)
     rw [Lo,RunsFrom.app]
     exact ⟨lo,RunsFrom.pw (yi _ _ _).symm r2,rfl,by (clear d2 r2 b2 eb L3 S3 sz kk as3 k3 low as n2 n1 kp h3 h2 R B' hx h hp B nd h0;lia),by rw [sU d2 (JE _)];exact S3,rfl⟩
   ·rw [JM g]
    have sz:=kp.tb.size
    have S3:=ye as (by (clear g low as n1 kp q h3 R B' hx h hp B nd h0;lia))
    have L3:=low kp
    refine JL (MD ?_)
    cases eb:(pendingOf st2).back? with
    | none =>
     refine JL (L4 (JV ⟨_,rfl,⟨kp.tb.perm,kp.tb.kind,kp.tb.fail⟩,?_,by (clear eb L3 S3 sz g low as n1 kp q h3 R B' hx h hp B nd h0;lia),.inl (by lia)⟩))
     show RunsFrom (arrOf st2).toList 0 ((pendingOf st2).push (lo,n,0)).toList (lo+n)
     rw [Lo,RunsFrom.app]
     exact ⟨lo,L3,rfl,by omega,S3,rfl⟩
    | some t =>
     obtain ⟨s1,n1',w1⟩:=t
     dsimp only
     refine JL (yj h0 h2 kp.tb L3 fun z b2 r2 d2=>?_)
     dsimp only
     refine JL (L4 (JL (L4 (JV ⟨_,rfl,⟨b2.perm,b2.kind,b2.fail⟩,?_,by (clear d2 r2 b2 eb L3 S3 sz g low as n1 kp q h3 R B' hx h hp B nd h0;lia),.inl (by lia)⟩))))
     show RunsFrom (arrOf z).toList 0 (((pendingOf z).modify ((pendingOf z).size-1) fun x=>(x.1,x.2.1,power' a₀.size (2*s1+n1') (2*s1+n1'+n1'+n) a₀.size)).push (lo,n,0)).toList (lo+n)
     rw [Lo,RunsFrom.app]
     exact ⟨lo,RunsFrom.pw (yi _ _ _).symm r2,rfl,by omega,by rw [sU d2 (JE _)];exact S3,rfl⟩
 case post =>
  rintro c st' ⟨rfl,B',R⟩
  dsimp only
  have pl:=R.le
  have done:∀ z:SortSt,TB a₀ z->RunsFrom (arrOf z).toList 0 (pendingOf z).toList a₀.size->(pendingOf z).size<=1->Q () z:=fun z b r l=>by
   refine h z b ?_
   cases e:(pendingOf z).toList with
   | nil=>rw [e] at r;exact absurd (show 0=a₀.size from r) (by lia)
   | cons t rest =>
    have hl:(t::rest).length<=1:=by rw [<- e];simpa using l
    have:rest=[]:=by cases rest with
     | nil=>rfl
     | cons=>simp at hl
    subst this
    rw [e] at r
    obtain ⟨s1,n1,w1⟩:=t
    obtain ⟨_,_,S,e2⟩:=r
    have e3:0+n1=a₀.size:=e2
    have sz:=b.size
    have:sl (arrOf z).toList 0 (0+n1)=(arrOf z).toList:=by
     unfold sl;rw [K3,Kn (by simp;lia)]
    rw [this] at S
    exact S
  refine JL (Lq (KF (I:=fun x c z=>c=(none,⟨⟩)/\TB a₀ z/\RunsFrom (arrOf z).toList 0 (pendingOf z).toList a₀.size/\((pendingOf z).size+x<=a₀.size\/(pendingOf z).size<=1))
   (Q:=fun c z=>c=(none,⟨⟩)/\Q () z) ?s2 ?f2 ⟨rfl,B',R,.inl (by simpa using pl)⟩) ?p2)
  case p2=>rintro c z ⟨rfl,hq⟩;exact JV hq
  case f2 =>
   rintro c z ⟨rfl,b,r,l⟩
   exact ⟨rfl,done z b r (by lia)⟩
  case s2 =>
   rintro x c z _ hx ⟨rfl,b,r,l⟩
   refine JL (MD ?_)
   by_cases g:(pendingOf z).size<=1
   ·rw [JJ g];exact JV ⟨rfl,done z b r g⟩
   ·rw [JM g]
    refine JL (yh h0 b r (JE _) ?_ fun z2 b2 r2 s2 _=>?_)
    ·exact sZ _ (show 2<=(pendingOf z).size by lia)
    ·exact JV ⟨rfl,b2,r2,.inl (by lia)⟩
end
end L2
namespace L2
open PySem PySem.Spec PyProof.Rows
section
variable {P:Program} {w:World} {A:Around} {E:Value->Shared->Prop} {s:Shared}
theorem Fl {xs:Array Keyed} (h:Srt xs.toList) (n:Nat) (hn:n<=xs.size):SortedTo xs n:=fun i j hij hj=>by
 have e1:=cu (a:=xs) (i:=i) (by lia)
 have e2:=cu (a:=xs) (i:=j) (by lia)
 rw [d6 e1,d6 e2]
 have S:Srt (sl xs.toList 0 xs.size):=by
  unfold sl;rw [K3,Kn (by simp)];exact h
 exact mG S (Kk _) hij (by lia) (aT e1) (aT e2)
theorem Fm {a:Addr} {vs:List Value} {ns:List Int} {n:Nat} {R:Fin->Shared->Prop} (ho:s.heap.get? a=some (seqObj "list" vs.toArray n)) (hI:IntsAre vs ns) (nd:ns.Nodup) (hz:vs.length<=sizeLine)
  (h:∀ (out:Array Value) (ns':List Int),IntsAre out.toList ns'->ns'.Perm ns->ns'.Pairwise (· <= ·)->R (.done (.ret .none)) { s with heap:=sortedHeap s.heap a vs out }):wpAny (model P w) A (Builtin.«list.sort» ⟨[.ref a],[]⟩) R E s:=by
 rw [list_sort_plain]
 have ha:a<s.heap.objs.size:=JX ho
 refine JG (listItems_at ho rfl (JG (listUpdate_at ho rfl ?_)))
 obtain ⟨e1,h1⟩:∃ e1,(s.heap.update a (Obj.mapSeq fun _=>#[])).get? a=some (seqObj "list" #[] e1):=⟨_,get?_update_seq ho (fun _=>#[])⟩
 refine JG (seqEpoch_at h1 rfl (JG (wpAny_newTuple (JG (wpAny_newList (Le ?_))) (by exact hz))))
 have h6:(((s.heap.update a (Obj.mapSeq fun _=>#[])).push (seqObj "tuple" vs.toArray 0)).push (seqObj "list" #[] 0)).get? a=some (seqObj "list" #[] e1):=JH _ (JH _ h1)
 show wpAny (model P w) A _ R E { s with heap:=((s.heap.update a (Obj.mapSeq fun _=>#[])).push (seqObj "tuple" vs.toArray 0)).push (seqObj "list" #[] 0) }
 dsimp only
 have pz:=pairsOf_size vs
 have fin:∀ st':SortSt,(arrOf st').Perm (pairsOf vs)->SortedTo (arrOf st') (pairsOf vs).size->R (.done (.ret .none)) { s with heap:=sortedHeap s.heap a vs ((arrOf st').map (·.2)) }:=fun st' hp hs=>by
  obtain ⟨ns',o1,o2,o3⟩:=sorted_out hI hp hs
  exact h _ ns' o1 o2 o3
 by_cases h2:vs.toArray.size<2
 ·rw [JJ h2,JJ h2]
  refine JG (J2 ?_)
  rw [StateT.run_pure]
  refine JG (J2 ?_)
  dsimp only
  refine JG (seqEpoch_at h6 rfl (JG (listUpdate_at h6 rfl ?_ (hsz2:=by rw [Array.size_map];show (pairsOf vs).size<=_;rw [pz];exact Os hz))))
  simp only [OE,MZ,NY]
  refine J2 (fin (SortSt.mk' general' (vs.toArray.zip vs.toArray) #[] 7 none) (Array.Perm.refl _) fun i j hij hj=>?_)
  have:i=j:=by rw [pz] at hj;simp at h2;lia
  subst this;exact LC _
 ·rw [JM h2,JM h2]
  obtain ⟨v1,v2,rest,e⟩:∃ v1 v2 rest,vs=v1::v2::rest:=by
   cases vs with
   | nil=>exact absurd (by decide) h2
   | cons v1 vs =>
    cases vs with
    | nil=>exact absurd (show 1<2 by decide) h2
    | cons v2 rest=>exact ⟨v1,v2,rest,rfl⟩
  have kk:keyKind' vs.toArray=pure oneType' := by subst e;exact keyKind_ints hI
  rw [kk]
  refine JG (J2 ?_)
  have pk:(pairsOf vs).toList.map ky=ns:=by
   rw [pairsOf_toList,show (vs.zip vs).map ky=((vs.zip vs).map Prod.fst).map numOf by rw [Lk];rfl,List.map_fst_zip (JE _),hI.nums]
  refine JG (KD (Fk (a₀:=pairsOf vs) (st:=SortSt.mk' oneType' (vs.toArray.zip vs.toArray) #[] 7 none) (Q:=fun _ st' => TB (pairsOf vs) st'/\Srt (arrOf st').toList) hI.intKeys (by rw [pk];exact nd) ⟨NS _,rfl,rfl⟩ rfl (by rw [pz,e];simp) fun st' b1 b2=>⟨b1,b2⟩) ?_ fun _ _ e=>e)
  rintro ⟨⟨⟩,st'⟩ s' ⟨rfl,tb,sr⟩
  dsimp only
  have hp:(arrOf st').Perm (pairsOf vs):=M5.mpr tb.perm
  refine JG (seqEpoch_at h6 rfl (JG (listUpdate_at h6 rfl ?_ (hsz2:=by refine JK (MS ((Array.size_map ..).trans (hp.size_eq.trans pz))) (Os hz)))))
  rw [tb.fail]
  simp only [OE,MZ,NY]
  exact J2 (fin st' hp (Fl sr _ (by rw [tb.size];exact JE _)))
end
theorem yk {P:Program} {w:World}:∀ {kvs:List (aH×V)} {vs:List (aH×Value)} {ns:List Int} {us:List Value},KV kvs vs->kvs.map (·.1)=ns.map Sum.inl->us.length=vs.length->(∀ (i:Nat) (v:Value),us[i]? = some v->∃ k x,vs[i]? = some (k,x)/\(fq P w).is k v=true)->IntsAre us ns
 | [],[],[],[],_,_,_,_=>.nil
 | [],[],_::_,_,_,e,_,_=>by simp at e
 | [],[],[],_::_,_,_,l,_=>by simp at l
 | _::_,_::_,[],_,_,e,_,_=>by simp at e
 | _::_,_::_,_::_,[],_,_,l,_=>by simp at l
 | p::kvs,q::vs,n::ns,u::us,.cons r rs,e,l,f=>by
  simp only [JS,ND] at e
  obtain ⟨k,x,e1,e2⟩:=f 0 u rfl
  have e3:q=(k,x):=by simpa using e1
  have ek:k=Sum.inl n:=by rw [<- e.1,r.1,e3]
  rw [ek] at e2
  rw [Ae] at e2
  rcases gA (k:=Sum.inl n) (v:=u) e2 with ⟨i,t,a1,a2⟩ | ⟨y,t,a1,a2⟩
  ·injection a1 with a1
   subst a1 a2
   exact .cons _ _ (yk rs e.2 (by simpa using l) fun i v h=>by simpa using f (i+1) v (by simpa using h))
  ·cases a1
theorem Fo {X:Cx} (hc:X.calm=true):CallR X (.builtin "sorted") (fun xs H Q=>∃ (a:Addr) (kvs:List (aH×V)) (ns:List Int),xs=[.ref a]/\H a=some (.dK kvs)/\kvs.map (·.1)=ns.map Sum.inl/\∀ (p:Addr) (ns':List Int),H p=none->ns'.Perm ns->ns'.Pairwise (· <= ·)->Q (.ref p) (aK H p (.lst (ns'.map V.int)))):=by
 intro pins s σ H xs us Q I rv h
 obtain ⟨a,kvs,ns,rfl,ha,hn,q⟩:=h
 obtain ⟨u,rfl,ru⟩:=Vals.one rv
 obtain rfl:u=Value.ref a:=ru
 obtain ⟨z,hd,vs,rel,dd⟩:=qS I.hok ha
 obtain ⟨ep,da⟩:=dd.dictAt
 have lv:vs.length=kvs.length:=(Paired.length rel).symm
 have nd:ns.Nodup:=by
  have n1:=da.nodup
  have e1:vs.map (·.1)=kvs.map (·.1):=by
   have:∀ {l:List (aH×V)} {m:List (aH×Value)},KV l m->m.map (·.1)=l.map (·.1):=fun r=>by
    unfold KV at r
    induction r with
    | nil=>rfl
    | cons h _ ih=>rw [JS,JS,ih,h.1]
   exact this rel
  rw [e1,hn] at n1
  exact List.Pairwise.of_map _ (fun a b hab z=>hab (by rw [z])) n1
 refine Calls.call_function_entry kind_sorted plain_sorted entry_sorted (args_sorted1 _) ?_
 unfold Builtin.«sorted»
 refine JG (m:=checkCount "sorted" 1 1 _) (J2 (JG (PySem.W.kdu_collect (PySem.W.kdl_dict (knd:=fq X.prog X.w) (kvs:=vs) (ep:=ep) hd) (I.ok.hd hc) da (by rw [lv];exact z) fun h' tk acc hk hacc=>?_)))
 have hl:acc.toList.length=vs.length:=by rw [KO];exact hacc.1
 have hI:IntsAre acc.toList ns:=yk rel hn hl fun i v e=>hacc.2 i v (by rw [<- Kx];exact e)
 have hz:acc.toList.length<=sizeLine:=by rw [hl,lv];exact z
 refine JG (wpAny_newList ?_ hz)
 have hoL:(h'.push (seqObj "list" acc.toList.toArray 0)).get? h'.objs.size=some (seqObj "list" acc.toList.toArray 0):=Kc _ rfl
 refine JG (Le (L8 slot_list_sort ⟨_,hoL,rfl⟩ entry_list_sort (Fm (s:={ s with heap:=h'.push (seqObj "list" acc.toList.toArray 0),toks:=tk }) hoL hI nd hz fun out ns' o1 o2 o3=>⟨_,rfl,J2 ⟨_,rfl,?_⟩⟩) (args_list_sort _)))
 have I1:Inv X pins σ H { s with heap:=h',toks:=tk }:=I.kept (t' := tk) hk
 obtain ⟨e,he⟩:=sortedHeap_at (out:=out) hoL
 have l2:ns'.length=ns.length:=o2.length_eq
 have l3:ns.length=kvs.length:=by have:=congrArg List.length hn;simpa using this.symm
 refine ⟨.ref h'.objs.size,_,I1.laid (a:=h'.objs.size) (t' := tk) (o:=.lst (ns'.map V.int)) (fun b o hb=>?_) (JE _) ⟨?_,out.toList,e,qW o1,?_⟩,rfl,q _ ns' (I1.hok.fresh (JE _)) o2 o3⟩
 ·have lt:b<h'.objs.size:=JX hb
  rw [sortedHeap_old (Ko lt) (by rw [size_push'];exact M9 lt)]
  exact JH _ hb
 ·rw [J0,l2,l3];exact z
 ·rw [he]
end L2
namespace L2
open PySem PySem.Spec PyProof.Rows
theorem tj (a b:Int):Builtin.Range.rangeSize a b (-1)=(((a-b).toNat:Nat):Int):=by
 unfold Builtin.Range.rangeSize
 rw [JM (by decide),show (- -1:Int)=1 from rfl,Oo]
 split<;>lia
theorem yl {a b:Int} (ha:a.natAbs<2 ^ 40) (hb:b.natAbs<2 ^ 40):Builtin.Range.small a b (-1)=true:=by
 have l:(2:Nat) ^ 40<2 ^ 42:=by decide
 have ha2:a.natAbs<1099511627776:=ha
 have hb2:b.natAbs<1099511627776:=hb
 unfold Builtin.Range.small
 rw [gC (LG ha l),gC (LG hb l),gC (x:=-1) (by decide),gC (x:=Builtin.Range.rangeSize a b (-1)) (by rw [tj];show _<4398046511104;omega),JM (by decide)]
 have fb:=gC (LG hb l)
 simp [fb]
section
variable {X:Cx} {tg:Expr}
def Fp (ta:TA):TI:=fun σ H R=>ta σ H fun vs H1=>∃ i j:Int,vs=[.int i,.int j,.int (-1)]/\(i.natAbs<2 ^ 40/\j.natAbs<2 ^ 40)/\R (eO i (-1) (i-j).toNat) H1
theorem Fq {pins:List (Addr×Obj)} {σ:St} {H:Hp} {s:Shared} {R:It->Hp->Prop} {E:Value->Shared->Prop} {lo hi:Int} {t u v:Tok} {tk:Nat} (I:Inv X pins σ H s) (h1:lo.natAbs<2 ^ 40) (h2:hi.natAbs<2 ^ 40)
  (q:R (eO lo (-1) (lo-hi).toNat) H):wpAny (model X.prog X.w) X.A (pyIter (.ref s.heap.objs.size)) (nV X pins σ tg R) E { s with heap:=s.heap.push { cls:=.type "range",data:=.fields #[.int lo t,.int hi u,.int (-1) v] },toks:=tk }:=by
 refine M7 (IsRange.new ..) (yl h1 h2) ?_
 have I1:Inv X pins σ H { s with heap:=s.heap.push { cls:=.type "range",data:=.fields #[.int lo t,.int hi u,.int (-1) v] },toks:=tk }:=I.kept fun b o e=>JH _ e
 refine ⟨(s.heap.push { cls:=.type "range",data:=.fields #[.int lo t,.int hi u,.int (-1) v] }).objs.size,[(s.heap.push { cls:=.type "range",data:=.fields #[.int lo t,.int hi u,.int (-1) v] }).objs.size],_,_,H,rfl,
  I1.kept (t' := tk) fun b o e=>JH _ e,wM _ lo (-1) (lo-hi).toNat,?_,fun b hb=>?_,q⟩
 ·have e1:lo+((0:Nat):Int)*(-1)=lo:=by simp
  have e2:(((lo-hi).toNat:Nat):Int)-((0:Nat):Int)=Builtin.Range.rangeSize lo hi (-1):=by rw [tj];lia
  show IsRangeIter _ _ (lo+((0:Nat):Int)*(-1)) ((((lo-hi).toNat:Nat):Int)-((0:Nat):Int)) (-1)
  rw [e1,e2]
  exact Kc _ rfl
 ·have e:b=(s.heap.push { cls:=.type "range",data:=.fields #[.int lo t,.int hi u,.int (-1) v] }).objs.size:=by simpa using hb
  subst e
  exact I1.fpOk (JE _) (I1.hok.fresh (JE _))
theorem Fs {a b c:Expr} {ta:TA} {p pos:Pos} (hg:Gl X "range") (hm:X.mg "range" = none) (ha:PA X [a,b,c] ta) (hs:starEach [a,b,c] X.env=[(false,eval a X.env),(false,eval b X.env),(false,eval c X.env)]:=by rfl) (hs2:starEach [b,c] X.env=[(false,eval b X.env),(false,eval c X.env)]:=by rfl) :
  PI X tg (.Call (.Name "range" p) [a,b,c] [] pos) (Fp ta):=by
 intro pins s σ H R I h
 refine Call_ (fW I hg hm Nx (Kr (thn (ha pos pins s σ H _ I h) fun us s1 ⟨vs,H1,I1,r1,q1⟩=>?_) (by rw [hs,hs2]) (by rw [hs2];rfl)))
 obtain ⟨i,j,e,⟨q1,q2⟩,q⟩:=q1
 subst e
 cases r1 with
 | cons r rr =>
  cases rr with
  | cons r' rr =>
   cases rr with
   | cons r'' rr =>
    cases rr
    obtain ⟨t,rfl⟩:=r
    obtain ⟨t',rfl⟩:=r'
    obtain ⟨t'',rfl⟩:=r''
    exact OD (by decide) (Fq I1 q1 q2 q) (.inl (Mr (by decide)))
theorem Ft {acc:Array Value} {lo:Int} {n:Nat} (h:ItemsOf (fun i v=>∃ t,v = .int (lo+(i:Int)*(-1)) t) acc n):Vals ((List.range n).map fun m:Nat=>V.int (lo-m)) acc.toList:=by
 obtain ⟨h1,h2⟩:=h
 have key:∀ (l:List Value) (k:Nat),(∀ (i:Nat) (v:Value),l[i]? = some v->∃ t,v=Value.int (lo-((k+i:Nat):Int)) t)->Vals ((List.range' k l.length).map fun m:Nat=>V.int (lo-m)) l:=by
  intro l
  induction l with
  | nil=>intro k _;exact .nil
  | cons v r ih =>
   intro k hk
   rw [J6,List.range'_succ,JS]
   obtain ⟨t,e⟩:=hk 0 v rfl
   refine .cons ⟨t,by simpa using e⟩ (ih (k+1) fun i w e=>?_)
   obtain ⟨t',e'⟩:=hk (i+1) w e
   exact ⟨t',by rw [e',show k+(i+1)=k+1+i by lia]⟩
 have:=key acc.toList 0 fun i v e=>by
  obtain ⟨t,e'⟩:=h2 i v (by rw [<- e,Kx])
  exact ⟨t,by rw [e'];first | (congr 1;lia) | congr 1⟩
 rw [KO,h1,<- List.range_eq_range'] at this
 exact this
theorem Fu {a b c:Expr} {ta:TA} {p pos p' pos':Pos} (hcalm:X.calm=true) (hg:Gl X "range") (hm:X.mg "range" = none) (hgl:Gl X "list") (hml:X.mg "list" = none) (ha:PA X [a,b,c] ta) (hs:starEach [a,b,c] X.env=[(false,eval a X.env),(false,eval b X.env),(false,eval c X.env)]:=by rfl) (hs2:starEach [b,c] X.env=[(false,eval b X.env),(false,eval c X.env)]:=by rfl)
  (hs':starEach [.Call (.Name "range" p) [a,b,c] [] pos] X.env=[(false,eval (.Call (.Name "range" p) [a,b,c] [] pos) X.env)]:=by rfl) :
  PE X (.Call (.Name "list" p') [.Call (.Name "range" p) [a,b,c] [] pos] [] pos') (fun σ H Q=>ta σ H fun vs H1=>∃ i j:Int,vs=[.int i,.int j,.int (-1)]/\(i.natAbs<2 ^ 40/\j.natAbs<2 ^ 40/\(i-j).toNat<=2 ^ 24)/\∀ l,H1 l=none->Q (.ref l) (aK H1 l (.lst ((List.range (i-j).toNat).map fun m:Nat=>V.int (i-m))))):=by
 intro pins s σ H Q I h
 refine Call_ (fW I hgl hml (by decide +kernel:bootBuiltins "list" = some (.type "list")) (Kr ?_ hs' rfl))
 rw [hs']
 show wpAny _ _ (spliced ((false,eval (.Call (.Name "range" p) [a,b,c] [] pos) X.env)::backTo pos' (starEach [] X.env))) _ _ s
 refine Of ?_
 refine Call_ (fW I hg hm Nx (Kr (thn (ha pos pins s σ H _ I h) fun us s1 ⟨vs,H1,I1,r1,q1⟩=>?_) (by rw [hs,hs2]) (by rw [hs2];rfl)))
 obtain ⟨i,j,e,⟨q1,q2,q3⟩,q⟩:=q1
 subst e
 cases r1 with
 | cons r rr =>
  cases rr with
  | cons r' rr =>
   cases rr with
   | cons r'' rr =>
    cases rr
    obtain ⟨t,rfl⟩:=r
    obtain ⟨t',rfl⟩:=r'
    obtain ⟨t'',rfl⟩:=r''
    refine OD (by decide) (Om ?_) (.inl (Mr (by decide)))
    have I2:Inv X pins σ H1 { s1 with heap:=s1.heap.push { cls:=.type "range",data:=.fields #[.int i t,.int j t',.int (-1) t''] } }:=I1.kept fun b o e=>JH _ e
    refine call_list_range (I2.ok.hd hcalm) (IsRange.new ..) (yl q1 q2) (n:=(i-j).toNat) (tj i j) q3 fun h' tk acc c' kp e hI=>?_
    refine ⟨.ref _,_,I2.laid (t' := tk) (o:=.lst ((List.range (i-j).toNat).map fun m:Nat=>V.int (i-m))) kp (JE _) ?_,rfl,q _ (I2.hok.fresh (JE _))⟩
    refine ⟨?_,acc.toList,c',Ft hI,by rw [Array.toArray_toList];exact e⟩
    rw [J0,La]
    exact JK q3 (by decide)
end
end L2
namespace Sm
open PySem PySem.Spec L2
def fE (x:Int):List Int->List Int
 | []=>[x]
 | y::r=>if x<=y then x::y::r else y::fE x r
def jG:List Int->List Int
 | []=>[]
 | x::r=>fE x (jG r)
theorem tm (x:Int):∀ l,(fE x l).Perm (x::l)
 | []=>.refl _
 | y::r=>by
  unfold fE
  split
  ·exact .refl _
  ·exact ((tm x r).cons y).trans (List.Perm.swap x y r)
theorem tq:∀ l,(jG l).Perm l
 | []=>.refl _
 | x::r=>(tm x (jG r)).trans ((tq r).cons x)
theorem ym (x:Int):∀ {l:List Int},l.Pairwise (· <= ·)->(fE x l).Pairwise (· <= ·)
 | [],_=>LA _ _
 | y::r,h=>by
  obtain ⟨h1,h2⟩:=Lg.mp h
  unfold fE
  split
  ·rename_i hx
   refine Lg.mpr ⟨fun z hz=>?_,h⟩
   rcases J8.mp hz with rfl | hz
   ·exact hx
   ·exact KQ hx (h1 z hz)
  ·rename_i hx
   refine Lg.mpr ⟨fun z hz=>?_,ym x h2⟩
   rcases J8.mp ((tm x r).mem_iff.mp hz) with rfl | hz
   ·lia
   ·exact h1 z hz
theorem tu:∀ l,(jG l).Pairwise (· <= ·)
 | []=>.nil
 | x::r=>ym x (tu r)
theorem tw:∀ {l m:List Int},l.Perm m->l.Pairwise (· <= ·)->m.Pairwise (· <= ·)->l=m
 | [],m,p,_,_=>(List.nil_perm.mp p).symm
 | x::l,[],p,_,_=>by simp at p
 | x::l,y::m,p,h,g=>by
  obtain ⟨h1,h2⟩:=Lg.mp h
  obtain ⟨g1,g2⟩:=Lg.mp g
  have e:x=y:=by
   have a:x∈y::m:=p.mem_iff.mp (KC ..)
   have b:y∈x::l:=p.mem_iff.mpr (KC ..)
   rcases J8.mp a with a | a
   ·exact a
   ·rcases J8.mp b with b | b
    ·exact b.symm
    ·exact Int.le_antisymm (h1 y b) (g1 x a)
  subst e
  rw [tw (List.Perm.cons_inv p) h2 g2]
def mI (v:AV) (h:AH):Option (List Int):=match v with
 | .ref n=>(match h[n]? with
  | some (.dct false kvs)=>kz (kvs.map (·.1))
  | _=>none)
 | _=>none
def mJ:Fn:=fun args h=>match args with
 | [v]=>(match mI v h with
  | some ns=>.ok (.fl ((jG ns).map AV.int)) h
  | none=>.bad)
 | _=>.bad
def gr (c:Nat) (a:SE):SE:=fun en h=>(a en h).bind fun v h1=>match v with
 | .ref n=>(match h1[n]? with
  | some (.ins c' _)=>if c'=c then .ok (.bl true) h1 else .bad
  | _=>.bad)
 | _=>.bad
def eV (i j:Int):List AV:=(List.range (i-j).toNat).map fun m:Nat=>AV.int (i-m)
def kG (a b c:SE):SI:=fun en h=>(a en h).bind fun v h1=>(b en h1).bind fun w h2=>(c en h2).bind fun z h3=>match v,w,z with
 | .int i,.int j,.int k=>if i.natAbs<2 ^ 40/\j.natAbs<2 ^ 40/\k = -1 then .ok (eV i j,none) h3 else .bad
 | _,_,_=>.bad
def mK:Fn:=fun args h=>match args with
 | [.int i,.int j,.int k]=>if i.natAbs<2 ^ 40/\j.natAbs<2 ^ 40/\(i-j).toNat<=2 ^ 24/\k = -1 then .ok (.fl (eV i j)) h else .bad
 | _=>.bad
section
variable {T:Tb} {E:St->XK} {X:Cx} {pos p p' pos':Pos} {a b c:Expr} {sa sb sc:SE}
theorem yn {ι:Ix} {H:Hp}:∀ {l:List (AV×AV)} {m:List (aH×V)} {is:List Int},Paired (fun (p:AV×AV) (q:aH×V)=>p.1=kA q.1/\RV T ι H p.2 q.2) l m->l.map (·.1)=is.map AV.int->m.map (·.1)=is.map Sum.inl
 | _,_,[],.nil,_=>rfl
 | _,_,_::_,.nil,e=>by simp at e
 | _,_,[],.cons _ _,e=>by simp at e
 | _,_,i::is,.cons (a:=p) (b:=q) hh t,e=>by
  rw [JS,JS] at e ⊢
  injection e with e1 e2
  rw [yn t e2]
  have e3:kA q.1 = .int i:=by rw [<- hh.1];exact e1
  obtain ⟨k,v⟩:=q
  cases k with
  | inl j=>injection e3 with e3;subst e3;rfl
  | inr x=>cases e3
theorem Fv {ι:Ix} {h:AH} {H:Hp} {v:AV} {u:V} {ns:List Int} (S:Sim T ι h H) (r:RV T ι H v u) (e:mI v h=some ns):∃ ad kus,u = .ref ad/\H ad=some (.dK kus)/\kus.map (·.1)=ns.map Sum.inl:=by
 unfold mI at e
 split at e
 ·rename_i n
  split at e
  ·rename_i kvs hn
   cases r with
   | @ref _ ad hr =>
    obtain ⟨ob,e1,kus,rfl,pr⟩:=S.obj n _ ad hn hr
    refine ⟨ad,kus,rfl,e1,?_⟩
    have ee:=xT e
    exact yn pr ee
  ·cases e
 ·cases e
theorem yo {ι:Ix} {H:Hp}:∀ (ns:List Int),RVs T ι H (ns.map AV.int) (ns.map V.int)
 | []=>.nil
 | n::ns=>.cons (.int n) (yo ns)
theorem Fw (hc:X.calm=true:=by rfl):∃ r,CallR X (.builtin "sorted") r/\gi T mJ r:=by
 refine ⟨_,Fo hc,fun ι h H xs us E Q S r q=>?_⟩
 unfold mJ at q
 split at q
 ·split at q
  ·rename_i ns hn
   cases r with
   | cons r r' =>
    cases r'
    obtain ⟨ad,kus,rfl,e1,e2⟩:=Fv S r hn
    refine ⟨ad,kus,ns,rfl,e1,e2,fun p ns' hp pr so=>?_⟩
    have:ns'=jG ns:=tw (pr.trans (tq ns).symm) so (tu ns)
    subst this
    exact q ι _ _ (S.growNew hp) (S.new hp) (.fl (S.fresh hp) (.of dQ) (yo _))
  ·exact q.elim
 ·exact q.elim
structure yp (T:Tb) (mg:Str->Option Value) (c:Nat) (t:Str):Prop where
 ex:∃ C,mg t=some (.ref C)/\T.cls c=some C/\Cls T.K C/\PySem.W.findIn T.K (.ref C) "__class__" = some (some (.builtin "object.__class__"))/\PySem.W.specialIn T.K (.builtin "object.__class__") "__get__" = some (some (.builtin "getset_descriptor.__get__"))/\PySem.W.takesIn T.K (.builtin "object.__class__")=some true/\PySem.W.mroIn T.K C (.type "object")=some true/\PySem.W.kitOne T.K (.ref C) (.ref C)=some true
theorem Fx {t:Str} {p2:Pos} {cn:Nat} (hK:X.K=T.K) (hg:Gl X "isinstance") (hm:X.mg "isinstance" = none) (ha:aI T E X a sa) (hgt:Gl X t) (hp:yp T X.mg cn t) (hd:(t == ("__debug__" : Str))=false:=by decide)
  (he:starEach [a,.Name t p2] X.env=(false,eval a X.env)::starEach [.Name t p2] X.env:=by rfl):aI T E X (.Call (.Name "isinstance" p) [a,.Name t p2] [] pos) (gr cn sa):=by
 obtain ⟨C,h1,h2,h3,h4,h5,h6,h7,h8⟩:=hp.ex
 refine cq (qJ (wF (X:=X) (Dc C)) hg hm ML (lC ha (lC (vG (v:=.ref C) hgt h1 rfl hd) qF) he) (he:=he)) fun σ H Q ⟨ι,h,en,S,er,q⟩=>⟨ι,h,en,S,er,q.bind fun v hh1 ι1 H1 u g1 S1 r1 q1=>?_⟩
 split at q1
 ·rename_i n
  split at q1
  ·rename_i c' fs hn
   split at q1
   ·rename_i ec
    subst ec
    cases r1 with
    | @ref _ ad hr =>
     obtain ⟨ob,e1,C',dx,fus,k1,rfl,_⟩:=S1.obj n _ ad hn hr
     rw [h2] at k1;cases k1
     exact ⟨.ref ad,.ref C,true,rfl,.ins e1 (hK▸h3) (hK▸h4) (hK▸h5) (hK▸h6) (hK▸h7),hK▸h8,q1.now S1 (.bl _)⟩
   ·exact q1.elim
  ·exact q1.elim
 ·exact q1.elim
theorem Fy {ι:Ix} {H:Hp} {i j:Int}:gF T (eO i (-1) (i-j).toNat) ι H (eV i j) none:=by
 have:=xM (T:=T) (ι:=ι) (H:=H) (lo:=i) (c:=-1) (n:=(i-j).toNat)
 have e:(List.range (i-j).toNat).map (fun m:Nat=>AV.int (i+m*(-1)))=eV i j:=Lu fun m _=>by congr 1;lia
 rw [e] at this
 exact this
theorem Fz {tg:Expr} (hg:Gl X "range") (hm:X.mg "range" = none) (ha:aI T E X a sa) (hb:aI T E X b sb) (hc:aI T E X c sc) (hs:starEach [a,b,c] X.env=[(false,eval a X.env),(false,eval b X.env),(false,eval c X.env)]:=by rfl) (hs2:starEach [b,c] X.env=[(false,eval b X.env),(false,eval c X.env)]:=by rfl) (hs3:starEach [c] X.env=[(false,eval c X.env)]:=by rfl) :
  gG T X tg (.Call (.Name "range" p) [a,b,c] [] pos) (kG sa sb sc) :=
 km (Fs hg hm (aj ha (aj hb (aj hc aq hs3) (by rw [hs2,hs3])) (by rw [hs,hs2])) hs hs2) fun σ H R ⟨ι,h,en,S,er,q⟩=>by
  unfold kG at q
  refine ⟨ι,h,en,S,er,?_⟩
  unfold ai
  cases e:sa en h with
  | bad=>rw [e] at q;exact q
  | ex c h1=>rw [e] at q;exact q.elim
  | ok v h1 =>
   rw [e] at q
   dsimp only [Out.bind] at q ⊢
   cases e':sb en h1 with
   | bad=>rw [e'] at q;exact q
   | ex c h1=>rw [e'] at q;exact q.elim
   | ok v' h2 =>
    rw [e'] at q
    dsimp only at q ⊢
    cases e'':sc en h2 with
    | bad=>rw [e''] at q;exact q
    | ex c h1=>rw [e''] at q;exact q.elim
    | ok v'' h3 =>
     rw [e''] at q
     dsimp only at q
     intro ι1 H1 u g1 S1 r1
     split at q
     ·rename_i hx
      split at hx
      ·split at hx
       ·rename_i hb
        obtain ⟨b1,b2,rfl⟩:=hb
        cases hx
        cases r1 with
        | cons r r' =>
         cases r' with
         | cons r2 r3 =>
          cases r3 with
          | cons r4 r5 =>
           cases r5
           rw [bA r,bA r2,bA r4]
           exact ⟨_,_,rfl,⟨b1,b2⟩,q ι1 H1 _ g1 S1 Fy⟩
       ·cases hx
      ·cases hx
     ·exact q.elim
theorem FC (hcalm:X.calm=true) (hg:Gl X "range") (hm:X.mg "range" = none) (hgl:Gl X "list") (hml:X.mg "list" = none) (ha:aI T E X a sa) (hb:aI T E X b sb) (hc:aI T E X c sc) (hs:starEach [a,b,c] X.env=[(false,eval a X.env),(false,eval b X.env),(false,eval c X.env)]:=by rfl) (hs2:starEach [b,c] X.env=[(false,eval b X.env),(false,eval c X.env)]:=by rfl) (hs3:starEach [c] X.env=[(false,eval c X.env)]:=by rfl)
  (hs':starEach [.Call (.Name "range" p) [a,b,c] [] pos] X.env=[(false,eval (.Call (.Name "range" p) [a,b,c] [] pos) X.env)]:=by rfl) :
  aI T E X (.Call (.Name "list" p') [.Call (.Name "range" p) [a,b,c] [] pos] [] pos') (aD mK (ai sa (ai sb (ai sc ae)))):=by
 refine cq (Fu hcalm hg hm hgl hml (aj ha (aj hb (aj hc aq hs3) (by rw [hs2,hs3])) (by rw [hs,hs2])) hs hs2 hs') fun σ H Q ⟨ι,h,en,S,er,q⟩=>⟨ι,h,en,S,er,q.bind fun xs h1 ι1 H1 us g1 S1 r1 q1=>?_⟩
 unfold mK at q1
 split at q1
 ·split at q1
  ·rename_i i j k hb
   obtain ⟨b1,b2,b3,rfl⟩:=hb
   cases r1 with
   | cons r r' =>
    cases r' with
    | cons r2 r3 =>
     cases r3 with
     | cons r4 r5 =>
      cases r5
      rw [bA r,bA r2,bA r4]
      refine ⟨i,j,rfl,⟨b1,b2,b3⟩,fun l hl=>?_⟩
      refine q1 ι1 _ _ (S1.growNew hl) (S1.new hl) (.fl (S1.fresh hl) (.of dQ) ?_)
      have:∀ (n:List Nat) {H2:Hp},RVs T ι1 H2 (n.map fun m:Nat=>AV.int (i-m)) (n.map fun m:Nat=>V.int (i-m)):=fun n {H2}=>by
       induction n with
       | nil=>exact .nil
       | cons m n ih=>exact .cons (.int _) ih
      exact this _
  ·exact q1.elim
 ·exact q1.elim
end
end Sm
namespace Sm
open PySem PySem.Spec L2
def iZ (v:AV) (h:AH):Option (List AV×Option Nat):=match v with
 | .fl xs=>some (xs,none)
 | .ref n=>(match h[n]? with
  | some (.lst xs)=>some (xs,some n)
  | _=>none)
 | _=>none
def kH (a b:SE) (en:En) (h:AH):Out (List AV×(AH->Bool)):=(a en h).bind fun v h1=>(b en h1).bind fun w h2=>match iZ v h2,iZ w h2 with
 | some (xs,w1),some (ys,w2)=>.ok (fg xs ys,fun h=>bV w1 xs h && bV w2 ys h) h2
 | _,_=>.bad
def kI (a b:SE) (t:Tg) (s:SS):SS:=fun en h=>match kH a b en h with
 | .ok (xs,lv) h1=>gj lv t s xs en h1
 | _=>.bad
section
variable {T:Tb} {E:St->XK} {X:Cx} {pos:Pos} {a b:Expr} {sa sb:SE} {sts:List Stmt} {s1:SS}
def jH (T:Tb) (K:PySem.W.Frag) (ι:Ix) (H:Hp) (a:Addr) (xs:List AV) (w:Option Nat):Prop:=∀ (ι':Ix) (h':AH) (H':Hp),Ext ι H ι' H'->Sim T ι' h' H'->bV w xs h'=true->∃ us,SqL K H' a us/\RVs T ι' H' xs us
theorem yq {ι:Ix} {h:AH} {H:Hp} {v:AV} {u:V} {xs:List AV} {w:Option Nat} (S:Sim T ι h H) (r:RV T ι H v u) (e:iZ v h=some (xs,w)):∃ ad,u = .ref ad/\(∃ us,SqL T.K H ad us)/\jH T T.K ι H ad xs w:=by
 unfold iZ at e
 split at e
 ·rename_i ys
  cases e
  cases r with
  | fl m hr rs=>exact ⟨_,rfl,⟨_,.inl hr⟩,fun ι' h' H' g S' _=>⟨_,rV m hr ι' H' g,rs.ext g⟩⟩
  | kfl hr rs=>exact ⟨_,rfl,⟨_,.inr hr⟩,fun ι' h' H' g S' _=>⟨_,.inr hr,rs.ext g⟩⟩
 ·rename_i n
  split at e
  ·rename_i ys hn
   cases e
   cases r with
   | ref hr =>
    obtain ⟨u,e1,us,rfl,rs⟩:=S.obj n _ _ hn hr
    refine ⟨_,rfl,⟨_,.of e1⟩,fun ι' h' H' g S' l=>?_⟩
    unfold bV at l
    dsimp only at l
    split at l
    ·rename_i zs hy
     have z:=Mw l
     subst z
     obtain ⟨u2,e3,us2,rfl,r2⟩:=S'.obj n _ _ hy (g.at_ hr)
     exact ⟨us2,.of e3,r2⟩
    ·cases l
  ·cases e
 ·cases e
theorem FD {ι:Ix} {H:Hp} {a b:Addr} {xs ys:List AV} {w1 w2:Option Nat} {K:PySem.W.Frag} (A:jH T K ι H a xs w1) (B:jH T K ι H b ys w2):mD T (sH K a b) ι H (fg xs ys) (fun h=>bV w1 xs h && bV w2 ys h):=by
 refine ⟨fun i ι' h' H' z g S lv hx=>?_,fun i ι' h' H' g S lv hi=>?_⟩
 ·obtain ⟨l1,l2⟩:=NT.mp lv
  obtain ⟨us,sq,rs⟩:=A ι' h' H' g S l1
  obtain ⟨ws,sq2,rs2⟩:=B ι' h' H' g S l2
  obtain ⟨x,y,rfl,ex,ey⟩:=sI _ _ _ _ hx
  obtain ⟨u,e1,r1⟩:=rs.get ex
  obtain ⟨v,e2,r2⟩:=rs2.get ey
  refine ⟨⟨us,ws,u,v,sq,sq2,e1,e2⟩,?_⟩
  rintro u2 H2 ⟨t,x2,y2,rfl,hn,rfl,hx2,hy2⟩
  have z1:=hx2 us sq
  rw [e1] at z1;cases z1
  have z2:=hy2 ws sq2
  rw [e2] at z2;cases z2
  have g2:=S.growNew (o:=.tup [u,v]) hn
  exact ⟨g2,S.new hn,.tup (S.fresh hn) dQ (.cons (r1.mono g2) (.cons (r2.mono g2) .nil))⟩
 ·obtain ⟨l1,l2⟩:=NT.mp lv
  obtain ⟨us,sq,rs⟩:=A ι' h' H' g S l1
  obtain ⟨ws,sq2,rs2⟩:=B ι' h' H' g S l2
  rw [xR] at hi
  exact ⟨us,ws,sq,sq2,by rw [<- rs.length,<- rs2.length];lia⟩
def FE (T:Tb) (it:En->AH->Out (List AV×(AH->Bool))):TI:=fun σ H R=>∃ ι h en,Sim T ι h H/\ER T ι H en σ/\match it en h with
 | .ok (xs,lv) h' => ∀ ι' H' J,Grow ι H ι' H'->Sim T ι' h' H'->mD T J ι' H' xs lv->R J H'
 | _=>False
theorem FF {p tp:Pos} {es:List Expr} {k:Nat} (hK:X.K=T.K) (hg:Gl X "zip") (hm:X.mg "zip" = none) (ha:aI T E X a sa) (hb:aI T E X b sb) (hs:starEach [a,b] X.env=[(false,eval a X.env),(false,eval b X.env)]:=by rfl) (hs2:starEach [b] X.env=[(false,eval b X.env)]:=by rfl) :
  PI X (.Tuple es k tp) (.Call (.Name "zip" p) [a,b] [] pos) (FE T (kH sa sb)) :=
 km (EZ hg hm (aj ha (aj hb aq hs2) (by rw [hs,hs2])) hs hs2) fun σ H R ⟨ι,h,en,S,er,q⟩=>by
  unfold kH at q
  refine ⟨ι,h,en,S,er,?_⟩
  unfold ai
  cases e:sa en h with
  | bad=>rw [e] at q;exact q
  | ex c h1=>rw [e] at q;exact q.elim
  | ok v h1 =>
   rw [e] at q
   dsimp only [Out.bind] at q ⊢
   cases e':sb en h1 with
   | bad=>rw [e'] at q;exact q
   | ex c h1=>rw [e'] at q;exact q.elim
   | ok v' h2 =>
    rw [e'] at q
    dsimp only at q
    intro ι1 H1 u g1 S1 r1
    cases r1 with
    | cons r r' =>
     cases r' with
     | cons r2 r3 =>
      cases r3
      cases k1:iZ v h2 with
      | none=>rw [k1] at q;exact q.elim
      | some o1 =>
       cases k2:iZ v' h2 with
       | none=>rw [k1,k2] at q;exact q.elim
       | some o2 =>
        rw [k1,k2] at q
        obtain ⟨xs,w1⟩:=o1
        obtain ⟨ys,w2⟩:=o2
        dsimp only at q
        obtain ⟨ad,rfl,⟨us,n1⟩,A⟩:=yq S1 r k1
        obtain ⟨bd,rfl,⟨ws,n2⟩,B⟩:=yq S1 r2 k2
        exact ⟨_,_,rfl,⟨_,ko hK n1⟩,⟨_,ko hK n2⟩,q ι1 H1 _ g1 S1 (hK▸FD A B)⟩
theorem FG {p ppos tp:Pos} {es:List Expr} {k:Nat} {t:Tg} (hc:X.calm=true) (hK:X.nox.K=T.K) (hg0:Gl X.nox "zip") (hm:X.nox.mg "zip" = none) (ha:aI T EN X.nox a sa) (hb0:aI T EN X.nox b sb) (hg:mn T X.nox (.Tuple es k tp) t) (hb:cH T EN X.nox sts s1)
  (jX:starEach [a,b] X.nox.env=[(false,eval a X.nox.env),(false,eval b X.nox.env)]:=by rfl) (hs2:starEach [b] X.nox.env=[(false,eval b X.nox.env)]:=by rfl)
  (hs:∀ x,foldedSetIterable (.Call (.Name "zip" p) [a,b] [] ppos) X.nox.env x=pure x:=by intro _;rfl):eP T E X (.For (.Tuple es k tp) (.Call (.Name "zip" p) [a,b] [] ppos) sts [] pos) (kI sa sb t s1):=by
 obtain ⟨g,hg1,hg2⟩:=hg
 refine fv (oq (qx PassesOwn.never hc (FF hK hg0 hm ha hb0 jX hs2) hg1 hb hs)) fun D σ H ⟨ι,h,en,S,er,q⟩=>⟨ι,h,en,S,er,?_⟩
 unfold kI at q
 cases e:kH sa sb en h with
 | bad=>rw [e] at q;exact q
 | ex c h1=>rw [e] at q;exact (show False from q).elim
 | ok v h1 =>
  obtain ⟨xs,lv⟩:=v
  rw [e] at q
  intro ι1 H1 J g1 S1 IR
  exact E5 hg2 S1 (er.mono g1) IR (PostS.shift q g1)
end
end Sm
namespace Sk
open PySem PySem.Spec L2 Sm
abbrev Jz:Nat:=0
abbrev JA:Nat:=1
abbrev JB:Nat:=2
abbrev FH:Nat:=3
abbrev FI:Nat:=4
abbrev FJ:Nat:=5
def jI:Fn:=aC 1 1
  (ak (g7 0 0 (aa 0) (cT ae))
  (ak (g7 0 1 (aa 0) (jt true))
  (ak (g7 0 2 (aa 0) (cT (ai (af (.int 0)) ae)))
  (ak (g7 0 3 (aa 0) (cT (ai (af (.int 0)) ae)))
  (ak (g7 0 4 (aa 0) (cT (ai (af (.int 0)) ae)))
  (ak (g7 0 5 (aa 0) (cT (ai (dz de (af (.int 1))) ae)))
  (ak (g7 0 6 (aa 0) (cT (ai (af (.int 0)) ae)))
  (g7 0 7 (aa 0) (cT (ai (af (.int 0)) ae))))))))))
def cx:Fn:=aC 2 3
  (ak (aw 2 (ag cI (ag au (aa 0) (af (.int 0))) (aa 1)))
  (ak (dw (aa 0) (af (.int 0)) (ag fA (ag au (aa 0) (af (.int 0))) (aa 1)))
  (aB (aa 2))))
def jJ:SS :=
  (aw 5 (ag aA (aa 5) (ag au (aa 4) (aD cx (ai (aa 0) (ai (aD aL (ai (aa 4) ae)) ae))))))
def mL:Fn:=aC 2 7
  (ak (aw 2 (af (.str "abcdefghijklmnopqrstuvwxyz")))
  (ak (aw 3 (ag aA (ag aA (aa 2) (g9 ou oJ (aa 2))) (af (.str " !#$&'()*+,-./0123456789:;<=>?\x40[]^_{|}~\n\\"))))
  (ak (aw 4 (ag au (bU (ai (af (.str "a")) (ai (af (.str "ab")) (ai (af (.str "ab\n")) (ai (af (.str "a \n~")) (ai (aa 3) ae)))))) (aD cx (ai (aa 0) (ai (af (.int 5)) ae)))))
  (ak (aw 5 (af (.str "")))
  (ak (bh (eG (aD cx (ai (aa 0) (ai (ag aA (aa 1) (af (.int 1))) ae)))) (.nm 6) jJ)
  (aB (aa 5)))))))
def oO:Fn:=aC 2 3
  (ak (aw 2 (ag cI (ag bI (ag aA (ag aA (ag cI (aa 0) (af (.int 1000000007))) (ag bI (af (.int 7919)) (aa 1))) (af (.int 101))) (af (.int 48271))) (af (.int 2147483647))))
  (aB (ag cI (ag bI (ag cI (ag bI (aa 2) (aa 2)) (af (.int 2147483629))) (af (.int 69621))) (af (.int 2147483647)))))
def kJ:SS :=
  (aw 2 (ag aA (ag bI (aa 2) (ag bI (ag cJ (af (.int 10)) (af (.int 60))) (ag cJ (af (.int 10)) (af (.int 60))))) (ag cI (ag au (aa 0) (aa 3)) (ag bI (ag cJ (af (.int 10)) (af (.int 60))) (ag cJ (af (.int 10)) (af (.int 60)))))))
def kK:SS :=
  (aw 4 (ag aA (ag bI (aa 4) (af (.int 2147483647))) (aD oO (ai (ag aA (ag aA (aa 2) (ag bI (af (.int 1009)) (aa 1))) (aD aL (ai (aa 0) ae))) (ai (aa 3) ae)))))
def fN:Fn:=aC 2 5
  (ak (aw 2 (af (.int 0)))
  (ak (bh (ig (aa 1) (aD aL (ai (aa 0) ae)) (af (.int 12))) (.nm 3) kJ)
  (ak (bt (aU (ag rH (aa 2) (ag cJ (af (.int 10)) (af (.int 18))))) (aB (cT (ai (aa 2) ae))) bJ)
  (ak (aw 2 (ag aA (aa 2) (aD fD (ai (dC [] (bu (aa 0)) bw (ag cI (aa 0) (ag cJ (af (.int 10)) (af (.int 18))))) ae))))
  (ak (aw 4 (af (.int 0)))
  (ak (bh (eG (af (.int 12))) (.nm 3) kK)
  (aB (cT (ai (aa 4) ae)))))))))
def oP:Fn:=aC 1 1
  (aB (j9 (gg "int" (aa 0)) (wW (gg "bool" (aa 0)))))
def oQ:Fn:=aC 2 2
  (aB (j9 (aD oP (ai (aa 1) ae)) (lT gb gb (af (.int 1)) (aa 1) (aD aL (ai (Sm.sFld 0 0 (aa 0)) ae)))))
def jK:Fn:=aC 2 2
  (bt (dB (gD (aG 0 oQ (aa 0) (ai (aa 1) ae)))) (g8 2 (ai (af (.str "no piece of the shelf has this number")) ae)) bJ)
def i3:Fn:=aC 3 4
  (ak (bR (aG 0 jK (aa 0) (ai (aa 1) ae)))
  (ak (bR (aG 0 jK (aa 0) (ai (aa 2) ae)))
  (ak (aw 3 (ag aA (ag au (Sm.sFld 0 2 (aa 0)) (ag au (Sm.sFld 0 7 (aa 0)) (aa 1))) (ag au (Sm.sFld 0 2 (aa 0)) (ag au (Sm.sFld 0 6 (aa 0)) (aa 2)))))
  (ak (bt (aU (ag gb (aa 3) (af (.int 8)))) (g8 3 (ai (af (.str "the leaves where the parts meet have no more than eight signs together")) ae)) bJ)
  (ak (bt (aU (ag iM (aD jv (ai (ag dW (ag au (Sm.sFld 0 5 (aa 0)) (aa 1)) (ag au (Sm.sFld 0 5 (aa 0)) (aa 2))) ae)) (af (.int 1)))) (g8 4 (ai (af (.str "the heights of the parts differ by more than one")) ae)) bJ)
  (bt (aU (ag iM (ag aA (ag au (Sm.sFld 0 2 (aa 0)) (aa 1)) (ag au (Sm.sFld 0 2 (aa 0)) (aa 2))) (af (.int 1000000000000000000)))) (g8 5 (ai (af (.str "the fork would have more than 10 ** 18 signs")) ae)) bJ))))))
def mM:Fn:=aC 2 3
  (ak (bR (cZ aZ bW (Sm.sFld 0 0 (aa 0)) (ai (aa 1) ae)))
  (ak (aw 2 (aD aL (ai (Sm.sFld 0 0 (aa 0)) ae)))
  (ak (dw (Sm.sFld 0 1 (aa 0)) (aa 1) (aa 2))
  (aB (aa 2)))))
def mO:Fn:=aC 2 4
  (ak (bR (aG 0 mM (aa 0) (ai (aa 1) ae)))
  (ak (aw 2 (ag au (aa 1) (af (.int 1))))
  (ak (aw 3 (ag au (aa 1) (af (.int 2))))
  (ak (bR (cZ aZ bW (Sm.sFld 0 2 (aa 0)) (ai (ag aA (ag au (Sm.sFld 0 2 (aa 0)) (aa 2)) (ag au (Sm.sFld 0 2 (aa 0)) (aa 3))) ae)))
  (ak (bR (cZ aZ bW (Sm.sFld 0 3 (aa 0)) (ai (ag aA (ag au (Sm.sFld 0 3 (aa 0)) (aa 2)) (ag au (Sm.sFld 0 3 (aa 0)) (aa 3))) ae)))
  (ak (bR (cZ aZ bW (Sm.sFld 0 4 (aa 0)) (ai (ag aA (ag au (Sm.sFld 0 4 (aa 0)) (aa 2)) (ag au (Sm.sFld 0 4 (aa 0)) (aa 3))) ae)))
  (ak (bR (cZ aZ bW (Sm.sFld 0 5 (aa 0)) (ai (ag aA (aD rJ (ai (ag au (Sm.sFld 0 5 (aa 0)) (aa 2)) (ai (ag au (Sm.sFld 0 5 (aa 0)) (aa 3)) ae))) (af (.int 1))) ae)))
  (ak (bR (cZ aZ bW (Sm.sFld 0 6 (aa 0)) (ai (ag au (Sm.sFld 0 6 (aa 0)) (aa 2)) ae)))
  (bR (cZ aZ bW (Sm.sFld 0 7 (aa 0)) (ai (ag au (Sm.sFld 0 7 (aa 0)) (aa 3)) ae)))))))))))
def aS:Fn:=aC 3 4
  (ak (bR (aG 0 i3 (aa 0) (ai (aa 1) (ai (aa 2) ae))))
  (ak (aw 3 (fy (ai (af (.str "fork")) (ai (aa 1) (ai (aa 2) ae)))))
  (ak (bt (aU (ag gE (aa 3) (Sm.sFld 0 1 (aa 0)))) (bR (aG 0 mO (aa 0) (ai (aa 3) ae))) bJ)
  (aB (ag au (Sm.sFld 0 1 (aa 0)) (aa 3))))))
def tB (G:Fn):Fn:=aC 2 3
  (ak (bt (aU (ag aQ (aD aL (ai (aa 1) ae)) (af (.int 1)))) (aB (ag au (aa 1) (af (.int 0)))) bJ)
  (ak (aw 2 (ag fA (aD aL (ai (aa 1) ae)) (af (.int 2))))
  (aB (aG 0 aS (aa 0) (ai (aD G (ai (aa 0) (ai (cD (aa 1) none (some (aa 2))) ae))) (ai (aD G (ai (aa 0) (ai (cD (aa 1) (some (aa 2)) none) ae))) ae))))))
def gs:Nat->Fn
 | 0=>aC 2 3 (fun _ _=>.bad)
 | d+1=>tB (gs d)
def mP:Fn:=aC 1 1
  (aB (lS (ag aQ (aa 0) (af (.str "\n"))) (lT gb gb (af (.str " ")) (aa 0) (af (.str "~")))))
def mQ:Fn:=aC 1 1
  (ak (bt (dB (gD (gg "str" (aa 0)))) (aB (af (.bl false))) bJ)
  (aB (aD jw (ai (dC [] (bu (aa 0)) bw (aD mP (ai (aa 0) ae))) ae))))
def oR:Fn:=aC 1 1
  (aB (j9 (aD mQ (ai (aa 0) ae)) (lT gb gb (af (.int 1)) (aD aL (ai (aa 0) ae)) (af (.int 8)))))
def oS:Fn:=aC 1 1
  (aB (cZ ou rL (aa 0) (ai (af (.str "\n")) ae)))
def mR:Fn:=aC 2 4
  (ak (aw 2 (aG 0 mM (aa 0) (ai (aa 1) ae)))
  (ak (aw 3 (ag au (aa 1) (af (.int 1))))
  (ak (bR (cZ aZ bW (Sm.sFld 0 2 (aa 0)) (ai (aD aL (ai (aa 3) ae)) ae)))
  (ak (bR (cZ aZ bW (Sm.sFld 0 3 (aa 0)) (ai (aD oS (ai (aa 3) ae)) ae)))
  (ak (bR (cZ aZ bW (Sm.sFld 0 4 (aa 0)) (ai (af (.int 1)) ae)))
  (ak (bR (cZ aZ bW (Sm.sFld 0 5 (aa 0)) (ai (af (.int 0)) ae)))
  (ak (bR (cZ aZ bW (Sm.sFld 0 6 (aa 0)) (ai (aa 2) ae)))
  (bR (cZ aZ bW (Sm.sFld 0 7 (aa 0)) (ai (aa 2) ae))))))))))
def dj:Fn:=aC 2 3
  (ak (bt (dB (gD (aD oR (ai (aa 1) ae)))) (g8 1 (ai (af (.str "a leaf is a plain text of one to eight signs")) ae)) bJ)
  (ak (aw 2 (fy (ai (af (.str "leaf")) (ai (aa 1) ae))))
  (ak (bt (aU (ag gE (aa 2) (Sm.sFld 0 1 (aa 0)))) (bR (aG 0 mR (aa 0) (ai (aa 2) ae))) bJ)
  (aB (ag au (Sm.sFld 0 1 (aa 0)) (aa 2))))))
def jL:Fn:=aC 2 3
  (ak (bt (dB (gD (aD mQ (ai (aa 1) ae)))) (g8 1 (ai (af (.str "a text is built of a plain text")) ae)) bJ)
  (ak (bt (aU (ag iM (aD aL (ai (aa 1) ae)) (af (.int 10000)))) (g8 5 (ai (af (.str "a text is built of ten thousand signs at most")) ae)) bJ)
  (ak (bt (aU (ag aQ (aa 1) (af (.str "")))) (aB (af (.int 0))) bJ)
  (ak (aw 2 (dC [0,1] (ig (af (.int 0)) (aD aL (ai (aa 1) ae)) (af (.int 8))) bw (aG 0 dj (aa 1) (ai (cD (aa 2) (some (aa 0)) (some (ag aA (aa 0) (af (.int 8))))) ae))))
  (aB (aD (gs 20) (ai (aa 0) (ai (aa 2) ae))))))))
def oT:Fn:=aC 1 1
  (bt (aU (ag iM (aa 0) (af (.int 1000000000000000000)))) (g8 5 (ai (af (.str "the text would have more than 10 ** 18 signs")) ae)) bJ)
def gL:Fn:=aC 2 2
  (bt (aU (ag bg (aa 1) (af (.int 0)))) (bR (aG 0 jK (aa 0) (ai (aa 1) ae))) bJ)
def gM:Fn:=aC 2 2
  (ak (bR (aG 0 gL (aa 0) (ai (aa 1) ae)))
  (aB (ag au (Sm.sFld 0 2 (aa 0)) (aa 1))))
def mS:Fn:=aC 2 2
  (ak (bR (aG 0 gL (aa 0) (ai (aa 1) ae)))
  (aB (ag au (Sm.sFld 0 7 (aa 0)) (aa 1))))
def mT:Fn:=aC 2 2
  (ak (bR (aG 0 gL (aa 0) (ai (aa 1) ae)))
  (aB (ag au (Sm.sFld 0 6 (aa 0)) (aa 1))))
def oU:Fn:=aC 3 3
  (aB (ag iM (ag aA (aG 0 gM (aa 0) (ai (aG 0 mS (aa 0) (ai (aa 1) ae)) ae)) (aG 0 gM (aa 0) (ai (aG 0 mT (aa 0) (ai (aa 2) ae)) ae))) (af (.int 8))))
def bS:Fn:=aC 2 2
  (ak (bR (aG 0 jK (aa 0) (ai (aa 1) ae)))
  (aB (ag au (Sm.sFld 0 0 (aa 0)) (ag dW (aa 1) (af (.int 1))))))
def tD (G:Fn):Fn:=aC 3 4
  (ak (aw 3 (aG 0 bS (aa 0) (ai (aa 1) ae)))
  (ak (bt (aU (ag aQ (ag au (aa 3) (af (.int 0))) (af (.str "leaf")))) (aB (aa 2)) bJ)
  (aB (aG 0 aS (aa 0) (ai (ag au (aa 3) (af (.int 1))) (ai (aD G (ai (aa 0) (ai (ag au (aa 3) (af (.int 2))) (ai (aa 2) ae)))) ae))))))
def fO:Nat->Fn
 | 0=>aC 3 4 (fun _ _=>.bad)
 | d+1=>tD (fO d)
def fh:Fn:=aC 2 2
  (ak (bR (aG 0 gL (aa 0) (ai (aa 1) ae)))
  (aB (ag au (Sm.sFld 0 5 (aa 0)) (aa 1))))
def fi:Fn:=aC 3 7
  (ak (bt (aU (ag lQ (ag dW (aG 0 fh (aa 0) (ai (aa 2) ae)) (aG 0 fh (aa 0) (ai (aa 1) ae))) (af (.int 2)))) (aB (aG 0 aS (aa 0) (ai (aa 1) (ai (aa 2) ae)))) bJ)
  (ak (aw 3 (aG 0 bS (aa 0) (ai (aa 2) ae)))
  (ak (aw 4 (ag au (aa 3) (af (.int 1))))
  (ak (aw 5 (ag au (aa 3) (af (.int 2))))
  (ak (bt (aU (ag gb (aG 0 fh (aa 0) (ai (aa 4) ae)) (aG 0 fh (aa 0) (ai (aa 5) ae)))) (aB (aG 0 aS (aa 0) (ai (aG 0 aS (aa 0) (ai (aa 1) (ai (aa 4) ae))) (ai (aa 5) ae)))) bJ)
  (ak (aw 6 (aG 0 bS (aa 0) (ai (aa 4) ae)))
  (aB (aG 0 aS (aa 0) (ai (aG 0 aS (aa 0) (ai (aa 1) (ai (ag au (aa 6) (af (.int 1))) ae))) (ai (aG 0 aS (aa 0) (ai (ag au (aa 6) (af (.int 2))) (ai (aa 5) ae))) ae))))))))))
def oV (G:Fn):Fn:=aC 2 4
  (ak (aw 2 (aG 0 bS (aa 0) (ai (aa 1) ae)))
  (ak (bt (aU (ag aQ (ag au (aa 2) (af (.int 0))) (af (.str "leaf")))) (aB (af (.int 0))) bJ)
  (ak (aw 3 (aD G (ai (aa 0) (ai (ag au (aa 2) (af (.int 1))) ae))))
  (ak (bt (aU (ag aQ (aa 3) (af (.int 0)))) (aB (ag au (aa 2) (af (.int 2)))) bJ)
  (aB (aD fi (ai (aa 0) (ai (aa 3) (ai (ag au (aa 2) (af (.int 2))) ae)))))))))
def eI:Nat->Fn
 | 0=>aC 2 4 (fun _ _=>.bad)
 | d+1=>oV (eI d)
def gu:Fn:=aC 3 7
  (ak (bt (aU (ag lQ (ag dW (aG 0 fh (aa 0) (ai (aa 1) ae)) (aG 0 fh (aa 0) (ai (aa 2) ae))) (af (.int 2)))) (aB (aG 0 aS (aa 0) (ai (aa 1) (ai (aa 2) ae)))) bJ)
  (ak (aw 3 (aG 0 bS (aa 0) (ai (aa 1) ae)))
  (ak (aw 4 (ag au (aa 3) (af (.int 1))))
  (ak (aw 5 (ag au (aa 3) (af (.int 2))))
  (ak (bt (aU (ag gb (aG 0 fh (aa 0) (ai (aa 5) ae)) (aG 0 fh (aa 0) (ai (aa 4) ae)))) (aB (aG 0 aS (aa 0) (ai (aa 4) (ai (aG 0 aS (aa 0) (ai (aa 5) (ai (aa 2) ae))) ae)))) bJ)
  (ak (aw 6 (aG 0 bS (aa 0) (ai (aa 5) ae)))
  (aB (aG 0 aS (aa 0) (ai (aG 0 aS (aa 0) (ai (aa 4) (ai (ag au (aa 6) (af (.int 1))) ae))) (ai (aG 0 aS (aa 0) (ai (ag au (aa 6) (af (.int 2))) (ai (aa 2) ae))) ae))))))))))
def oW (G:Fn):Fn:=aC 3 5
  (ak (aw 3 (ag dW (aG 0 fh (aa 0) (ai (aa 1) ae)) (aG 0 fh (aa 0) (ai (aa 2) ae))))
  (ak (bt (aU (ag iM (aa 3) (af (.int 1)))) (ak (aw 4 (aG 0 bS (aa 0) (ai (aa 1) ae)))
  (aB (aD fi (ai (aa 0) (ai (ag au (aa 4) (af (.int 1))) (ai (aD G (ai (aa 0) (ai (ag au (aa 4) (af (.int 2))) (ai (aa 2) ae)))) ae)))))) bJ)
  (ak (bt (aU (ag lQ (aa 3) (dz de (af (.int 1))))) (ak (aw 4 (aG 0 bS (aa 0) (ai (aa 2) ae)))
  (aB (aD gu (ai (aa 0) (ai (aD G (ai (aa 0) (ai (aa 1) (ai (ag au (aa 4) (af (.int 1))) ae)))) (ai (ag au (aa 4) (af (.int 2))) ae)))))) bJ)
  (aB (aG 0 aS (aa 0) (ai (aa 1) (ai (aa 2) ae)))))))
def d7:Nat->Fn
 | 0=>aC 3 5 (fun _ _=>.bad)
 | d+1=>oW (d7 d)
def jM:Fn:=aC 3 6
  (ak (aw 3 (ag aA (ag au (aG 0 bS (aa 0) (ai (aG 0 mS (aa 0) (ai (aa 1) ae)) ae)) (af (.int 1))) (ag au (aG 0 bS (aa 0) (ai (aG 0 mT (aa 0) (ai (aa 2) ae)) ae)) (af (.int 1)))))
  (ak (aw 4 (aD (fO 90) (ai (aa 0) (ai (aa 1) (ai (aG 0 dj (aa 0) (ai (aa 3) ae)) ae)))))
  (ak (aw 5 (aD (eI 90) (ai (aa 0) (ai (aa 2) ae))))
  (ak (bt (aU (ag aQ (aa 5) (af (.int 0)))) (aB (aa 4)) bJ)
  (aB (aD (d7 90) (ai (aa 0) (ai (aa 4) (ai (aa 5) ae)))))))))
def fP:Fn:=aC 3 3
  (ak (bR (aD oT (ai (ag aA (aG 0 gM (aa 0) (ai (aa 1) ae)) (aG 0 gM (aa 0) (ai (aa 2) ae))) ae)))
  (ak (bt (aU (ag aQ (aa 1) (af (.int 0)))) (aB (aa 2)) bJ)
  (ak (bt (aU (ag aQ (aa 2) (af (.int 0)))) (aB (aa 1)) bJ)
  (ak (bt (gD (aD oU (ai (aa 0) (ai (aa 1) (ai (aa 2) ae))))) (aB (aD (d7 90) (ai (aa 0) (ai (aa 1) (ai (aa 2) ae))))) bJ)
  (aB (aD jM (ai (aa 0) (ai (aa 1) (ai (aa 2) ae)))))))))
def i4:SS :=
  (ak (aw 5 (ag aA (af (.int 1)) (aD cx (ai (aa 1) (ai (af (.int 12)) ae)))))
  (ak (bR (cZ aZ bW (aa 4) (ai (cD (aa 2) none (some (aa 5))) ae)))
  (aw 2 (cD (aa 2) (some (aa 5)) none))))
def ij:SS :=
  (aw 6 (aD fP (ai (aa 0) (ai (aa 6) (ai (aD jL (ai (aa 0) (ai (aa 7) ae))) ae)))))
def ip:SS :=
  (aw 6 (aD fP (ai (aa 0) (ai (aD jL (ai (aa 0) (ai (aa 7) ae))) (ai (aa 6) ae)))))
def iq:Fn:=aC 3 8
  (ak (aw 3 (aD cx (ai (aa 1) (ai (af (.int 3)) ae))))
  (ak (bt (aU (ag aQ (aa 3) (af (.int 0)))) (aB (aD jL (ai (aa 0) (ai (aa 2) ae)))) bJ)
  (ak (aw 4 (cT ae))
  (ak (du (aU (ag bg (aa 2) (af (.str "")))) i4 d5)
  (ak (aw 6 (af (.int 0)))
  (ak (bt (aU (ag aQ (aa 3) (af (.int 1)))) (bh (bu (aa 4)) (.nm 7) ij) (jC (aa 4) (.nm 7) ip))
  (aB (aa 6))))))))
def eJ:Fn:=aC 1 1
  (aB (aD aL (ai (Sm.sFld 0 0 (aa 0)) ae)))
def jO:Fn:=aC 1 1
  (aB (dC [0] (fB (af (.int 1)) (ag aA (aG 0 eJ (aa 0) ae) (af (.int 1)))) bw (aG 0 bS (aa 1) (ai (aa 0) ae))))
def gN:SS :=
  (ak (aw 4 (aG 0 bS (aa 0) (ai (aa 3) ae)))
  (bt (lR (aU (ag gc (aa 3) (aa 2))) (aU (ag aQ (ag au (aa 4) (af (.int 0))) (af (.str "fork"))))) (bR (cZ aZ gI (aa 2) (ai (cT (ai (ag au (aa 4) (af (.int 1))) (ai (ag au (aa 4) (af (.int 2))) ae))) ae))) bJ))
def gO:SS :=
  (bt (aU (ag gc (aa 3) (aa 2))) (ak (dw (aa 5) (aa 3) (aD aL (ai (aa 5) ae)))
  (ak (aw 4 (aG 0 bS (aa 0) (ai (aa 3) ae)))
  (ak (bt (aU (ag aQ (ag au (aa 4) (af (.int 0))) (af (.str "fork")))) (aw 4 (fy (ai (af (.str "fork")) (ai (ag au (aa 5) (ag au (aa 4) (af (.int 1)))) (ai (ag au (aa 5) (ag au (aa 4) (af (.int 2)))) ae))))) bJ)
  (bR (cZ aZ bW (aa 6) (ai (aa 4) ae)))))) bJ)
def oX:Fn:=aC 2 7
  (ak (aw 2 (aD kd (ai (aa 1) ae)))
  (ak (bh (kG (aG 0 eJ (aa 0) ae) (af (.int 0)) (dz de (af (.int 1)))) (.nm 3) gN)
  (ak (aw 5 (jD (af (.int 0)) (af (.int 0))))
  (ak (aw 6 (cT ae))
  (ak (bh (fB (af (.int 1)) (ag aA (aG 0 eJ (aa 0) ae) (af (.int 1)))) (.nm 3) gO)
  (aB (fy (ai (aa 6) (ai (dC [5] (bu (aa 1)) bw (ag au (aa 1) (aa 0))) ae)))))))))
def mU:Fn:=aC 2 3
  (ak (aw 2 (aG 0 bS (aa 0) (ai (aa 1) ae)))
  (ak (bt (aU (ag aQ (ag au (aa 2) (af (.int 0))) (af (.str "leaf")))) (aB (bU ae)) bJ)
  (aB (bU (ai (ag au (aa 2) (af (.int 1))) (ai (ag au (aa 2) (af (.int 2))) ae))))))
def i5:SS :=
  (ak (aw 4 (g9 aZ cO (aa 3)))
  (bt (aU (ag gE (aa 4) (aa 2))) (ak (dw (aa 2) (aa 4) (af (.bl true)))
  (bR (cZ aZ kx (aa 3) (ai (aD mU (ai (aa 0) (ai (aa 4) ae))) ae)))) bJ))
def kL:Fn:=aC 2 5
  (ak (aw 2 (jt false))
  (ak (aw 3 (fL [] (bu (aa 1)) (aU (ag bg (aa 0) (af (.int 0)))) (aa 0)))
  (ak (du (aU (ag bg (aa 3) (bU ae))) i5 d5)
  (aB (aD mJ (ai (aa 2) ae))))))
def iu:SS :=
  (ak (aw 5 (aG 0 bS (aa 0) (ai (aa 4) ae)))
  (bt (aU (ag aQ (ag au (aa 5) (af (.int 0))) (af (.str "leaf")))) (dw (aa 3) (aa 4) (aG 0 dj (aa 2) (ai (ag au (aa 5) (af (.int 1))) ae))) (dw (aa 3) (aa 4) (aG 0 aS (aa 2) (ai (ag au (aa 3) (ag au (aa 5) (af (.int 1)))) (ai (ag au (aa 3) (ag au (aa 5) (af (.int 2)))) ae))))))
def mV:Fn:=aC 2 6
  (ak (aw 2 (ka 0 8 jI ae))
  (ak (aw 3 (jD (af (.int 0)) (af (.int 0))))
  (ak (bh (bu (aD kL (ai (aa 0) (ai (aa 1) ae)))) (.nm 4) iu)
  (aB (fy (ai (aa 2) (ai (fL [3] (bu (aa 1)) bw (ag au (aa 1) (aa 0))) ae)))))))
def jP:SS :=
  (ak (aw 3 (aG 0 bS (aa 0) (ai (aa 2) ae)))
  (ak (bt (aU (ag aQ (ag au (aa 3) (af (.int 0))) (af (.str "leaf")))) (aw 4 (aG 0 dj (aa 0) (ai (ag au (aa 3) (af (.int 1))) ae))) (aw 4 (aG 0 aS (aa 0) (ai (ag au (aa 3) (af (.int 1))) (ai (ag au (aa 3) (af (.int 2))) ae)))))
  (bt (j8 (aU (ag bg (aa 4) (aa 2))) (aU (ag bg (aG 0 eJ (aa 0) ae) (aa 1)))) (aB (af (.bl false))) bJ)))
def oY:Fn:=aC 1 5
  (ak (aw 1 (aG 0 eJ (aa 0) ae))
  (ak (bh (fB (af (.int 1)) (ag aA (aa 1) (af (.int 1)))) (.nm 2) jP)
  (aB (af (.bl true)))))
def fF:SS :=
  (ak (aw 4 (g9 aZ cO (aa 3)))
  (bt (aU (ag bg (aa 4) (af (.int 0)))) (ak (aw 5 (aG 0 bS (aa 0) (ai (aa 4) ae)))
  (bt (aU (ag aQ (ag au (aa 5) (af (.int 0))) (af (.str "leaf")))) (aw 2 (ag aA (aa 2) (ag au (aa 5) (af (.int 1))))) (bR (cZ aZ gI (aa 3) (ai (cT (ai (ag au (aa 5) (af (.int 2))) (ai (ag au (aa 5) (af (.int 1))) ae))) ae))))) bJ))
def jQ:Fn:=aC 2 6
  (ak (aw 2 (af (.str "")))
  (ak (aw 3 (cT (ai (aa 1) ae)))
  (ak (du (aU (ag bg (aa 3) (bU ae))) fF d5)
  (aB (aa 2)))))
def oZ:Fn:=aC 2 2
  (ak (bR (aG 0 gL (aa 0) (ai (aa 1) ae)))
  (aB (ag au (Sm.sFld 0 3 (aa 0)) (aa 1))))
def pe:Fn:=aC 2 2
  (ak (bR (aG 0 gL (aa 0) (ai (aa 1) ae)))
  (aB (ag au (Sm.sFld 0 4 (aa 0)) (aa 1))))
def jR:Fn:=aC 2 2
  (aB (bU (ai (aD jQ (ai (aa 0) (ai (aa 1) ae))) (ai (aG 0 gM (aa 0) (ai (aa 1) ae)) (ai (aG 0 oZ (aa 0) (ai (aa 1) ae)) (ai (aG 0 pe (aa 0) (ai (aa 1) ae)) (ai (aG 0 fh (aa 0) (ai (aa 1) ae)) ae)))))))
def mW:SS :=
  (bt (aU (ag bg (aD jR (ai (aa 0) (ai (aa 6) ae))) (aD jR (ai (ag au (aa 5) (af (.int 0))) (ai (aa 7) ae))))) (aB (af (.bl false))) bJ)
def kM:Fn:=aC 2 9
  (ak (aw 2 (aD jO (ai (aa 0) ae)))
  (ak (aw 3 (aD oX (ai (aa 0) (ai (aa 1) ae))))
  (ak (aw 4 (aD kb (ai (aa 1) ae)))
  (ak (aw 5 (aD mV (ai (aa 0) (ai (aa 4) ae))))
  (ak (bt (j8 (dB (gD (gg "tuple" (aa 5)))) (j8 (aU (ag bg (aD aL (ai (aa 5) ae)) (af (.int 2)))) (j8 (dB (gD (gr 0 (ag au (aa 5) (af (.int 0)))))) (aU (ag bg (aa 4) (aa 1)))))) (aB (af (.bl false))) bJ)
  (ak (bt (j8 (aU (ag bg (aD jO (ai (ag au (aa 5) (af (.int 0))) ae)) (ag au (aa 3) (af (.int 0))))) (aU (ag bg (ag au (aa 5) (af (.int 1))) (ag au (aa 3) (af (.int 1)))))) (aB (af (.bl false))) bJ)
  (ak (kI (aa 1) (ag au (aa 5) (af (.int 1))) (.tup [6,7]) mW)
  (ak (bt (dB (gD (aD oY (ai (ag au (aa 5) (af (.int 0))) ae)))) (aB (af (.bl false))) bJ)
  (ak (bR (aG 0 dj (ag au (aa 5) (af (.int 0))) (ai (af (.str "Qq")) ae)))
  (ak (bR (cZ aZ bW (ag au (aa 5) (af (.int 1))) (ai (af (.int 0)) ae)))
  (ak (bt (aU (ag bg (aD jO (ai (aa 0) ae)) (aa 2))) (aB (af (.bl false))) bJ)
  (ak (aw 8 (aD mV (ai (aa 0) (ai (aa 4) ae))))
  (aB (j9 (ag aQ (aD jO (ai (ag au (aa 8) (af (.int 0))) ae)) (ag au (aa 3) (af (.int 0)))) (ag aQ (ag au (aa 8) (af (.int 1))) (ag au (aa 3) (af (.int 1))))))))))))))))))
def jS:SS :=
  (ak (aw 6 (aD cx (ai (aa 4) (ai (ag aA (aD aL (ai (aa 2) ae)) (af (.int 1))) ae))))
  (ak (aw 7 (ag aA (aa 6) (aD cx (ai (aa 4) (ai (ag dW (ag aA (aD aL (ai (aa 2) ae)) (af (.int 1))) (aa 6)) ae)))))
  (bR (cZ aZ bW (aa 3) (ai (aD iq (ai (aa 1) (ai (aa 4) (ai (cD (aa 2) (some (aa 6)) (some (aa 7))) ae)))) ae)))))
def jT:SS :=
  (ak (aw 9 (dC [3,4] (eG (aD cx (ai (aa 4) (ai (af (.int 6)) ae)))) bw (ag au (aa 1) (aD cx (ai (aa 2) (ai (aD aL (ai (aa 1) ae)) ae))))))
  (bt (dB (gD (aD kM (ai (aa 1) (ai (aa 9) ae))))) (aB (af (.bl false))) bJ))
def tF:Fn:=aC 1 10
  (ak (aw 1 (ka 0 8 jI ae))
  (ak (aw 2 (aD mL (ai (aD fN (ai (aa 0) (ai (af (.int 0)) ae))) (ai (af (.int 40)) ae))))
  (ak (aw 3 (cT (ai (af (.int 0)) (ai (aD iq (ai (aa 1) (ai (aD fN (ai (aa 0) (ai (af (.int 1)) ae))) (ai (aa 2) ae)))) ae))))
  (ak (aw 4 (aD fN (ai (aa 0) (ai (af (.int 2)) ae))))
  (ak (bh (eG (af (.int 3))) (.nm 5) jS)
  (ak (bh (eG (af (.int 6))) (.nm 8) jT)
  (aB (j9 (aD kM (ai (aa 1) (ai (aa 3) ae))) (aD kM (ai (aa 1) (ai (aD mK (ai (aG 0 eJ (aa 1) ae) (ai (dz de (af (.int 1))) (ai (dz de (af (.int 1))) ae)))) ae)))))))))))
end Sk
set_option exponentiation.threshold 2000
namespace Sk
open PySem PySem.Spec L2 Sm
theorem yr {w:Option Nat} {all:List AV} {t:Tg} {b:SS} (P:Nat->En->AH->Prop):∀ (xs:List AV) (i:Nat) (en:En) (h:AH),P i en h ->
  (∀ i en h,P i en h->bV w all h=true) ->
  (∀ (j:Nat) (x:AV) (en:En) (h:AH),xs[j]? = some x->P (i+j) en h->∃ e1 e2 h2,df t x en=some e1/\(b e1 h = .nx e2 h2\/b e1 h = .ct e2 h2)/\P (i+j+1) e2 h2) ->
  ∃ e' h',cQ w all t b xs en h = .nx e' h'/\P (i+xs.length) e' h'
 | [],i,en,h,p,lv,_=>⟨en,h,by unfold cQ;rw [JJ (lv _ _ _ p)],p⟩
 | x::xs,i,en,h,p,lv,s=>by
  obtain ⟨e1,e2,h2,q1,q2,q3⟩:=s 0 x en h rfl p
  obtain ⟨e',h',r1,r2⟩:=yr P xs (i+1) e2 h2 q3 lv fun j y en h e q=>by
   have:=s (j+1) y en h (by simpa using e) (by rw [show i+(j+1)=i+1+j by lia];exact q)
   rw [show i+(j+1)+1=i+1+j+1 by lia] at this
   exact this
  refine ⟨e',h',?_,by rw [J6,show i+(xs.length+1)=i+1+xs.length by lia];exact r2⟩
  unfold cQ
  rw [JJ (lv _ _ _ p)]
  simp only [q1]
  rcases q2 with q2 | q2
  ·rw [q2];exact r1
  ·rw [q2];exact r1
theorem pf {α:Type} {js:List Nat} {en:En} {w:Option Nat} {all:List AV} {c:SB} {e:SE} {g f:α->AV} {p:α->Bool} {h:AH} (lv:bV w all h=true):∀ (cs:List α) (ys:List AV),(∀ x∈cs,c (some (g x)::js.map fun j=>(en[j]?).join) h = .ok (p x) h)->(∀ x∈cs,p x=true->e (some (g x)::js.map fun j=>(en[j]?).join) h = .ok (f x) h)->ys.length+cs.length<=sizeLine ->
  cY js en w all c e (cs.map g) ys h = .ok (ys++(cs.filter p).map f) h
 | [],ys,_,_,_=>by rw [MT];unfold cY;rw [JJ lv];simp
 | x::xs,ys,hc,he,hl=>by
  have hl':ys.length<sizeLine:=by simp at hl;lia
  rw [JS]
  unfold cY
  rw [JJ ⟨lv,hl'⟩,hc x (by simp)]
  cases hp:p x with
  | false =>
   dsimp only
   rw [pf lv xs ys (fun y hy=>hc y (by simp [hy])) (fun y hy=>he y (by simp [hy])) (by simp at hl ⊢;lia)]
   simp [List.filter_cons,hp]
  | true =>
   dsimp only
   rw [he x (by simp) hp]
   dsimp only
   rw [pf lv xs (ys++[f x]) (fun y hy=>hc y (by simp [hy])) (fun y hy=>he y (by simp [hy])) (by simp at hl ⊢;lia)]
   simp [List.filter_cons,hp]
theorem tG {α:Type} {js:List Nat} {en:En} {w:Option Nat} {all:List AV} {e:SE} {g f:α->AV} {h:AH} (lv:bV w all h=true) (cs:List α) (ys:List AV) (he:∀ x∈cs,e (some (g x)::js.map fun j=>(en[j]?).join) h = .ok (f x) h) (hl:ys.length+cs.length<=sizeLine) :
  cY js en w all bw e (cs.map g) ys h = .ok (ys++cs.map f) h:=by
 rw [pf (p:=fun _=>true) lv cs ys (fun _ _=>rfl) (fun x hx _=>he x hx) hl,List.filter_eq_self.mpr (fun _ _=>rfl)]
theorem yu {c:SB} {b:SS} (P:Nat->En->AH->Prop) (Q:En->AH->Prop):∀ (fuel n:Nat) (en:En) (h:AH),P n en h->n<fuel ->
  (∀ n en h,P n en h->(∃ h1,c en h = .ok false h1/\Q en h1)\/(∃ n' h1 e2 h2,n'<n/\c en h = .ok true h1/\(b en h1 = .nx e2 h2\/b en h1 = .ct e2 h2)/\P n' e2 h2)) ->
  ∃ e' h',du c b fuel en h = .nx e' h'/\Q e' h'
 | 0,n,en,h,_,l,_=>absurd l (Mf _)
 | fuel+1,n,en,h,p,l,s=>by
  rcases s n en h p with ⟨h1,q1,q2⟩ | ⟨n',h1,e2,h2,q0,q1,q2,q3⟩
  ·refine ⟨en,h1,?_,q2⟩
   unfold du;rw [q1]
  ·obtain ⟨e',h',r1,r2⟩:=yu P Q fuel n' e2 h2 q3 (by lia) s
   refine ⟨e',h',?_,r2⟩
   unfold du;rw [q1]
   rcases q2 with q2 | q2
   ·simp only [q2];exact r1
   ·simp only [q2];exact r1
@[simp] def thn (o:dU) (Q:En->AH->Prop):Prop:=match o with
 | .nx e h=>Q e h
 | .ct e h=>Q e h
 | _=>False
theorem yv {o:dU} {Q:En->AH->Prop} (t:thn o Q):∃ e h,(o = .nx e h\/o = .ct e h)/\Q e h:=by
 cases o with
 | nx e h=>exact ⟨e,h,.inl rfl,t⟩
 | ct e h=>exact ⟨e,h,.inr rfl,t⟩
 | _=>exact t.elim
@[simp] def FK (o:Option En) (Q:En->Prop):Prop:=match o with
 | some e=>Q e
 | none=>False
theorem gv {w:Option Nat} {all:List AV} {t:Tg} {b:SS} {xs:List AV} {en:En} {h:AH} (P:Nat->En->AH->Prop) (p0:P 0 en h) (lv:∀ i en h,P i en h->bV w all h=true)
  (st:∀ (j:Nat) (x:AV) (en:En) (h:AH),xs[j]? = some x->P j en h->FK (df t x en) fun e1=>thn (b e1 h) (P (j+1))) :
  ∃ e' h',cQ w all t b xs en h = .nx e' h'/\P xs.length e' h' := by
 have:=yr (w:=w) (all:=all) (t:=t) (b:=b) P xs 0 en h p0 lv fun j x en h hx hp=>by
  have q:=st j x en h hx (by simpa using hp)
  cases z:df t x en with
  | none=>rw [z] at q;exact q.elim
  | some e1 =>
   rw [z] at q
   obtain ⟨e,h2,a,c⟩:=yv q
   exact ⟨e1,e,h2,rfl,a,by simpa using c⟩
 simpa using this
theorem ph {c:SB} {b:SS} {fuel n:Nat} {en:En} {h:AH} (P:Nat->En->AH->Prop) (Q:En->AH->Prop) (p0:P n en h) (hn:n<fuel)
  (st:∀ n en h,P n en h->match c en h with
   | .ok true h1=>thn (b en h1) fun e2 h2=>∃ n',n'<n/\P n' e2 h2
   | .ok false h1=>Q en h1
   | _=>False) :
  ∃ e' h',du c b fuel en h = .nx e' h'/\Q e' h' := by
 refine yu P Q fuel n en h p0 hn fun n en h p=>?_
 have q:=st n en h p
 cases z:c en h with
 | ok x h1 =>
  rw [z] at q
  cases x with
  | true =>
   obtain ⟨e,h2,a,n',l,c⟩:=yv q
   exact .inr ⟨n',h1,e,h2,l,rfl,a,c⟩
  | false=>exact .inl ⟨h1,rfl,q⟩
 | ex _ _=>rw [z] at q;exact q.elim
 | bad=>rw [z] at q;exact q.elim
@[simp] def tH (o:Out AV) (Q:AV->AH->Prop):Prop:=match o with
 | .ok v h=>Q v h
 | _=>False
theorem yw {js:List Nat} {en:En} {all:List AV} {e:SE} (P:Nat->List AV->AH->Prop):∀ (xs ys:List AV) (i:Nat) (h:AH),P i ys h ->
  (∀ j x ys h,xs[j]? = some x->P (i+j) ys h->∃ v h2,e (some x::js.map fun j=>(en[j]?).join) h = .ok v h2/\P (i+j+1) (ys++[v]) h2)->ys.length+xs.length<=sizeLine ->
  ∃ zs h',cY js en none all bw e xs ys h = .ok zs h'/\P (i+xs.length) zs h'
 | [],ys,i,h,p,_,_=>⟨ys,h,by simp [cY],p⟩
 | x::xs,ys,i,h,p,s,hl=>by
  obtain ⟨v,h2,q1,q2⟩:=s 0 x ys h rfl p
  obtain ⟨zs,h',r1,r2⟩:=yw P xs (ys++[v]) (i+1) h2 q2 (fun j y ys h hy hp=>by
   have:=s (j+1) y ys h (by simpa using hy) (by rw [show i+(j+1)=i+1+j by lia];exact hp)
   rw [show i+(j+1)+1=i+1+j+1 by lia] at this
   exact this) (by simp at hl ⊢;lia)
  refine ⟨zs,h',?_,by rw [J6,show i+(xs.length+1)=i+1+xs.length by lia];exact r2⟩
  unfold cY
  rw [JJ ⟨rfl,by simp at hl;lia⟩]
  simp only [bw]
  rw [q1]
  exact r1
theorem tJ {js:List Nat} {en:En} {all:List AV} {e:SE} {xs:List AV} {h:AH} (P:Nat->List AV->AH->Prop) (p0:P 0 [] h)
  (st:∀ j x ys h,xs[j]? = some x->P j ys h->tH (e (some x::js.map fun j=>(en[j]?).join) h) fun v h2=>P (j+1) (ys++[v]) h2) (hl:xs.length<=sizeLine) :
  ∃ zs h',cY js en none all bw e xs [] h = .ok zs h'/\P xs.length zs h' := by
 have:=yw (js:=js) (en:=en) (all:=all) (e:=e) P xs [] 0 h p0 (fun j x ys h hx p=>by
  have q:=st j x ys h hx (by simpa using p)
  cases z:e (some x::js.map fun j=>(en[j]?).join) h with
  | ok v h2=>rw [z] at q;exact ⟨v,h2,rfl,by simpa using q⟩
  | ex _ _=>rw [z] at q;exact q.elim
  | bad=>rw [z] at q;exact q.elim) (by simpa using hl)
 simpa using this
theorem mX:∀ (n:Nat) (lo:Int) (i:Nat),(bO lo n)[i]? = if i<n then some (.int (lo+i)) else none
 | 0,lo,i=>by simp [bO]
 | n+1,lo,0=>by simp [bO]
 | n+1,lo,i+1=>by
  unfold bO
  rw [K0,mX n (lo+1) i]
  by_cases q:i<n
  ·rw [JJ q,JJ (by lia)];congr 2;lia
  ·rw [JM q,JM (by lia)]
theorem gP:∀ (n:Nat) (lo:Int),(bO lo n).length=n
 | 0,_=>rfl
 | n+1,lo=>by unfold bO;rw [J6,gP n]
theorem mY {a:SE} {en:En} {h h1:AH} {n:Nat} (e:a en h = .ok (.int n) h1) (hn:n<=10000000):eG a en h = .ok (bO 0 n,none) h1:=by
 have h1':(n:Int).natAbs<2 ^ 62:=by omega
 simp only [eG,e,Out.bind]
 rw [JJ h1'];rfl
theorem tK {a b:SE} {en:En} {h h1 h2:AH} {i j:Int} {m:Nat} (e:a en h = .ok (.int i) h1) (e':b en h1 = .ok (.int j) h2) (hm:(j-i).toNat=m) (b1:i.natAbs<=10000000) (b3:j.natAbs<=10000000):fB a b en h = .ok (bO i m,none) h2:=by
 have h1':i.natAbs<2 ^ 62/\j.natAbs<2 ^ 62:=by lia
 simp only [fB,e,e',Out.bind]
 rw [JJ h1',hm]
theorem gQ {it:SI} {t:Tg} {b:SS} {en:En} {h h1:AH} {xs:List AV} {w:Option Nat} (e:it en h = .ok (xs,w) h1):bh it t b en h=cQ w xs t b xs en h1:=by simp only [bh,e]
theorem FN {i j:Int} {h:AH} (hi:i.natAbs<2 ^ 64):bI (.int i) (.int j) h = .ok (.int (i*j)) h:=JJ (.inl (.inl hi))
theorem FO {i j:Int} {h:AH} (hj:j.natAbs<2 ^ 64):bI (.int i) (.int j) h = .ok (.int (i*j)) h:=JJ (.inl (.inr hj))
theorem FP {α:Type} {f:α->AV} {l:List α} {j:Nat} {q:α} (e:l[j]? = some q):atI (l.map f) (j:Int)=some (f q):=qL (by simp [e])
end Sk
set_option exponentiation.threshold 5000
namespace Sk
open PySem PySem.Spec L2 Sm
def kN (c:Nat):Bool:=decide (c=10) || (decide (32<=c) && decide (c<=126))
theorem FQ (a b:Nat):([a]<[b]) ↔ a<b:=by
 simp [List.cons_lt_cons_iff]
theorem yx:(Str.ofString "\n")=⟨#[10]⟩:=by decide +kernel
theorem FR:(Str.ofString " ")=⟨#[32]⟩:=by decide +kernel
theorem FS:(Str.ofString "~")=⟨#[126]⟩:=by decide +kernel
theorem FT (c:Nat) (h:AH):mP [.str ⟨#[c]⟩] h = .ok (.bl (kN c)) h:=by
 simp [mP,yx,FR,FS,FQ,kN]
 by_cases h1:c=10
 ·simp [h1]
 ·by_cases h2:c<32
  ·have : ¬ 32<=c:=by lia
   simp [h1,h2,this]
  ·have h3:32<=c:=by lia
   by_cases h4:c<=126
   ·have : ¬ 126<c:=by lia
    simp [h1,h2,h3,h4,this]
   ·have:126<c:=by lia
    simp [h1,h2,h3,h4,this]
theorem yy {α:Type} {js:List Nat} {en:En} {all:List AV} {e:SE} {g f:α->AV} {h:AH}:∀ (cs:List α) (ys:List AV),(∀ c∈cs,e (some (g c)::js.map fun j=>(en[j]?).join) h = .ok (f c) h)->ys.length+cs.length<=sizeLine->cY js en none all bw e (cs.map g) ys h = .ok (ys++cs.map f) h
 | [],ys,_,_=>by simp [cY]
 | x::xs,ys,he,hl=>by
  have hl':ys.length<sizeLine:=by simp at hl;lia
  rw [JS]
  unfold cY
  rw [JJ ⟨rfl,hl'⟩]
  simp only [bw]
  rw [he x (by simp)]
  dsimp only
  rw [yy xs (ys++[f x]) (fun y hy=>he y (by simp [hy])) (by simp at hl ⊢;lia)]
  simp
theorem yz (f:Nat->Bool):∀ cs:List Nat,lU (cs.map fun c=>.bl (f c))=some (cs.map f)
 | []=>rfl
 | c::cs=>by simp [yz f cs]
def bp (x:Str):Bool:=x.cps.toList.all kN
theorem yA (x:Str) (h:AH) (hl:x.length<=sizeLine):mQ [.str x] h = .ok (.bl (bp x)) h:=by
 have e:=yy (js:=[]) (en:=[some (.str x)]) (all:=x.cps.toList.map fun c=>AV.str ⟨#[c]⟩) (e:=aD mP (ai (aa 0) ae)) (g:=fun c=>AV.str ⟨#[c]⟩) (f:=fun c=>AV.bl (kN c)) (h:=h) x.cps.toList [] (by
  intro c hc
  simp [FT]) (by simp;exact hl)
 simp only [LP] at e
 simp [mQ]
 rw [e]
 simp [yz,bp]
def d8 (x:Str):Bool:=bp x && (decide (1<=x.length) && decide (x.length<=8))
theorem yB (x:Str) (h:AH) (hl:x.length<=sizeLine):oR [.str x] h = .ok (.bl (d8 x)) h:=by
 simp [oR,yA x h hl,d8]
 by_cases h1:bp x=true
 ·by_cases h2:1<=x.length
  ·have:(1:Int)<=x.length:=by lia
   by_cases h3:x.length<=8
   ·have:(x.length:Int)<=8:=by lia
    simp [*]
   ·have : ¬ (x.length:Int)<=8:=by lia
    simp [*]
  ·have : ¬ (1:Int)<=x.length:=by lia
   simp [*]
 ·simp [h1]
def iw (x:Str):Nat:=(Builtin.Str.occurrences x ⟨#[10]⟩ 0 x.length (x.length+1)).length
theorem FU (x:Str) (h:AH):oS [.str x] h = .ok (.int (iw x)) h:=by
 simp [oS,yx,iw]
theorem FV (i:Int) (h:AH):oP [.int i] h = .ok (.bl true) h:=by
 simp [oP]
inductive Pc where
 | leaf (x:Str)
 | fork (a b:Nat)
 deriving DecidableEq
def Pc.av:Pc->AV
 | .leaf x=>.tup [.str "leaf",.str x]
 | .fork a b=>.tup [.str "fork",.int a,.int b]
theorem Pc.av_inj:∀ {p q:Pc},p.av=q.av->p=q
 | .leaf x,.leaf y,e=>by simp [Pc.av] at e;rw [e]
 | .leaf x,.fork a b,e=>by simp [Pc.av] at e
 | .fork a b,.leaf x,e=>by simp [Pc.av] at e
 | .fork a b,.fork c d,e=>by simp [Pc.av] at e;rw [Od e.1,Od e.2]
set_option genInjectivity false in
structure Ms where
 sg:Nat
 en:Nat
 lv:Nat
 ht:Int
 fl:Nat
 ll:Nat
def ms0:Ms:=⟨0,0,0,-1,0,0⟩
def gw (ms:List Ms):Pc->Ms
 | .leaf x=>⟨x.length,iw x,1,0,ms.length,ms.length⟩
 | .fork a b=>⟨(ms.getD a ms0).sg+(ms.getD b ms0).sg,(ms.getD a ms0).en+(ms.getD b ms0).en,(ms.getD a ms0).lv+(ms.getD b ms0).lv,max (ms.getD a ms0).ht (ms.getD b ms0).ht+1,(ms.getD a ms0).fl,(ms.getD b ms0).ll⟩
def meas (ps:List Pc):List Ms:=ps.foldl (fun ms q=>ms++[gw ms q]) [ms0]
theorem tL (ps:List Pc) (q:Pc):meas (ps++[q])=meas ps++[gw (meas ps) q]:=by simp [meas]
theorem cR:∀ ps:List Pc,(meas ps).length=ps.length+1:=by
 have all:∀ (ps:List Pc) (ms:List Ms),(ps.foldl (fun ms q=>ms++[gw ms q]) ms).length=ms.length+ps.length:=by
  intro ps
  induction ps with
  | nil=>intro ms;rfl
  | cons q r ih=>intro ms;rw [NF,ih];simp;lia
 intro ps
 rw [meas,all];simp;lia
def eZ (k:Nat):List Pc->List (AV×AV)
 | []=>[]
 | q::r=>(q.av,.int k)::eZ (k+1) r
def dH (ps:List Pc):List (AV×AV):=eZ 1 ps
theorem pj (q:Pc):∀ (ps:List Pc) (k:Nat),eZ k (ps++[q])=eZ k ps++[(q.av,.int ((k+ps.length:Nat):Int))]
 | [],k=>by simp [eZ]
 | p::r,k=>by
  simp only [List.cons_append,eZ,pj q r (k+1)]
  rw [show k+1+r.length=k+(p::r).length by simp;lia]
theorem yC:∀ (ps:List Pc) (k:Nat),(eZ k ps).length=ps.length
 | [],_=>rfl
 | p::r,k=>by simp [eZ,yC r]
theorem pq {q:Pc}:∀ {ps:List Pc} {k:Nat},q∉ps->aX (eZ k ps) q.av=none
 | [],k,_=>rfl
 | p::r,k,h=>by
  have h1 : ¬ p.av=q.av:=fun e=>h (by rw [Pc.av_inj e];simp)
  have h2:=pq (q:=q) (ps:=r) (k:=k+1) fun z=>h (by simp [z])
  unfold aX at h2 ⊢
  simp only [eZ,KS,Ki h1]
  exact h2
theorem tM {q:Pc}:∀ {ps:List Pc} {k i:Nat},ps.Nodup->ps[i]? = some q->aX (eZ k ps) q.av=some (.int ((k+i:Nat):Int))
 | [],k,i,_,e=>by simp at e
 | p::r,k,0,n,e=>by simp at e;subst e;simp [aX,eZ]
 | p::r,k,i+1,n,e=>by
  simp at e
  have h1 : ¬ p.av=q.av:=fun z=>(KH.mp n).1 (by rw [Pc.av_inj z];exact Kb e)
  have h2:=tM (q:=q) (k:=k+1) (KH.mp n).2 e
  unfold aX at h2 ⊢
  simp only [eZ,KS,Ki h1]
  rw [h2]
  congr 3
  lia
theorem FW {q:Pc} {ps:List Pc} (h:q∉ps):dX (dH ps) q.av (.int ((ps.length+1:Nat):Int))=dH (ps++[q]):=by
 unfold dX
 rw [sf,dH,pq h,dH,pj]
 simp [LH]
structure ShelfAt (h:AH) (p:Nat) (ps:List Pc):Prop where
 ob:h[p]? = some (.ins 0 [some (.ref (p+1)),some (.ref (p+2)),some (.ref (p+3)),some (.ref (p+4)),some (.ref (p+5)),some (.ref (p+6)),some (.ref (p+7)),some (.ref (p+8))])
 h1:h[p+1]? = some (.lst (ps.map Pc.av))
 h2:h[p+2]? = some (.dct true (dH ps))
 h3:h[p+3]? = some (.lst ((meas ps).map fun m=>.int m.sg))
 h4:h[p+4]? = some (.lst ((meas ps).map fun m=>.int m.en))
 h5:h[p+5]? = some (.lst ((meas ps).map fun m=>.int m.lv))
 h6:h[p+6]? = some (.lst ((meas ps).map fun m=>.int m.ht))
 h7:h[p+7]? = some (.lst ((meas ps).map fun m=>.int m.fl))
 h8:h[p+8]? = some (.lst ((meas ps).map fun m=>.int m.ll))
def dI (h:AH) (p:Nat) (ps:List Pc):AH :=
 (((((((h.set (p+1) (.lst (ps.map Pc.av))).set (p+2) (.dct true (dH ps))).set (p+3) (.lst ((meas ps).map fun m=>.int m.sg))).set (p+4) (.lst ((meas ps).map fun m=>.int m.en))).set (p+5) (.lst ((meas ps).map fun m=>.int m.lv))).set
  (p+6) (.lst ((meas ps).map fun m=>.int m.ht))).set (p+7) (.lst ((meas ps).map fun m=>.int m.fl))).set (p+8) (.lst ((meas ps).map fun m=>.int m.ll))
theorem bH {h:AH} {i:Nat} {o:AO} (e:h[i]? = some o):i<h.length:=(JD.mp e).1
theorem pA (h:AH) (p:Nat) (ps:List Pc):(dI h p ps).length=h.length:=by simp [dI]
theorem mZ {h:AH} {p q:Nat} {ps:List Pc} (hq:q<=p\/p+8<q):(dI h p ps)[q]? = h[q]? := by
 unfold dI
 repeat rw [JI (by lia)]
theorem kO {h:AH} {p:Nat} {ps ps':List Pc} (S:ShelfAt h p ps):ShelfAt (dI h p ps') p ps' := by
 have b:=bH S.h8
 have l1:p+1<h.length:=Ka (Kq (by decide) p) b
 have l2:p+2<h.length:=Ka (Kq (by decide) p) b
 have l3:p+3<h.length:=Ka (Kq (by decide) p) b
 have l4:p+4<h.length:=Ka (Kq (by decide) p) b
 have l5:p+5<h.length:=Ka (Kq (by decide) p) b
 have l6:p+6<h.length:=Ka (Kq (by decide) p) b
 have l7:p+7<h.length:=Ka (Kq (by decide) p) b
 have ob:=S.ob
 constructor<;>simp [dI,Nb,l1,l2,l3,l4,l5,l6,l7,b,ob,-JY]
theorem tN {α:Type} (l:List α) (f:α->AV):(l.map f).length=l.length:=by simp
theorem m8 {h:AH} {p:Nat} {ps:List Pc} (S:ShelfAt h p ps):eJ [.ref p] h = .ok (.int ps.length) h:=by
 simp [eJ,S.ob,S.h1]
theorem FY {h:AH} {p:Nat} {ps:List Pc} {i:Int} (S:ShelfAt h p ps):oQ [.ref p,.int i] h = .ok (.bl (decide (1<=i/\i<=ps.length))) h:=by
 simp [oQ,FV,S.ob,S.h1]
 by_cases h1:1<=i<;>simp [h1]
theorem pB {h:AH} {p:Nat} {ps:List Pc} {i:Int} (S:ShelfAt h p ps) (hi:1<=i/\i<=ps.length):jK [.ref p,.int i] h = .ok .non h:=by
 simp [jK,FY S,S.ob,hi.1,hi.2]
theorem cF {α:Type} {f:α->AV} {l:List α} {j:Nat} {q:α} (e:l[j]? = some q):atI (l.map f) (j:Int)=some (f q):=qL (by simp [e])
theorem tP {h:AH} {p:Nat} {ps:List Pc} {j:Nat} {q:Pc} (S:ShelfAt h p ps) (e:ps[j]? = some q):bS [.ref p,.int ((j:Int)+1)] h = .ok q.av h:=by
 have hj:=(JD.mp e).1
 have h1:=pB S (i:=(j:Int)+1) ⟨by lia,by lia⟩
 simp [bS,h1,S.ob,S.h1,cF e]
theorem yD {h:AH} {p:Nat} {ps:List Pc} {q:Pc} (S:ShelfAt h p ps) (hq:q∉ps) (hl:ps.length<16000000) :
  mM [.ref p,q.av] h = .ok (.int ((ps.length+1:Nat):Int)) ((h.set (p+1) (.lst ((ps++[q]).map Pc.av))).set (p+2) (.dct true (dH (ps++[q])))):=by
 have b:=bH S.h8
 have hs:ps.length<sizeLine:=LG hl (by decide)
 have ht:(dH ps).length<sizeLine:=by rw [dH,yC];exact hs
 have hk:eQ true q.av=true:=by cases q<;>simp [Pc.av]
 have e1:(h.set (p+1) (.lst (ps.map Pc.av++[q.av])))[p]? = h[p]? := JI (by lia)
 have e2:(h.set (p+1) (.lst (ps.map Pc.av++[q.av])))[p+1]? = some (.lst (ps.map Pc.av++[q.av])):=JR (by lia)
 have e3:(h.set (p+1) (.lst (ps.map Pc.av++[q.av])))[p+2]? = h[p+2]? := JI (by lia)
 have tp:=FW hq
 simp [mM,S.ob,S.h1,hs,e1,e2,e3,S.h2,hk,ht,-eQ]
 rw [show ((ps.length:Int)+1)=((ps.length+1:Nat):Int) by simp,tp]
theorem F0 {h:AH} {p:Nat} {ps:List Pc} {x:Str} (S:ShelfAt h p ps) (hq:Pc.leaf x∉ps) (hl:ps.length<16000000) :
  mR [.ref p,(Pc.leaf x).av] h = .ok .non (dI h p (ps++[.leaf x])):=by
 have b:=bH S.h8
 have hs:ps.length+1<sizeLine:=Kd (Nat.succ_lt_succ hl) (by decide)
 have hm:(meas ps).length<sizeLine:=by rw [cR];exact hs
 have e:=yD S hq hl
 have b2:((meas ps).length:Int)=(ps.length:Int)+1:=by rw [cR];simp
 have e2:au (Pc.leaf x).av (.int 1)=fun h=>Out.ok (.str x) h:=by funext h;rfl
 have l1:p+1<h.length:=by lia
 have l2:p+2<h.length:=by (clear l1 e2 b2 e hm hs hl hq S;lia)
 have l3:p+3<h.length:=by (clear l2 l1 e2 b2 e hm hs hl hq S;lia)
 have l4:p+4<h.length:=by (clear l3 l2 l1 e2 b2 e hm hs hl hq S;lia)
 have l5:p+5<h.length:=by (clear l4 l3 l2 l1 e2 b2 e hm hs hl hq S;lia)
 have l6:p+6<h.length:=by (clear l5 l4 l3 l2 l1 e2 b2 e hm hs hl hq S;lia)
 have l7:p+7<h.length:=by (clear l6 l5 l4 l3 l2 l1 e2 b2 e hm hs hl hq S;lia)
 simp [mR,e,S.ob,S.h3,S.h4,S.h5,S.h6,S.h7,S.h8,hm,FU,Nb,tL,gw,dI,e2,cR,hs,-au,-JY]
theorem yE {α:Type} {l:List α} {i:Nat} {d x:α} (e:l[i]? = some x):l.getD i d=x:=by simp [List.getD,e]
theorem F3 {h:AH} {p:Nat} {ps:List Pc} {a b:Nat} {ma mb:Ms} (S:ShelfAt h p ps) (hq:Pc.fork a b∉ps) (hl:ps.length<16000000) (ha:(meas ps)[a]? = some ma) (hb:(meas ps)[b]? = some mb) :
  mO [.ref p,(Pc.fork a b).av] h = .ok .non (dI h p (ps++[.fork a b])):=by
 have bb:=bH S.h8
 have hs:ps.length+1<sizeLine:=Kd (Nat.succ_lt_succ hl) (by decide)
 have hm:(meas ps).length<sizeLine:=by rw [cR];exact hs
 have e:=yD S hq hl
 have e2:au (Pc.fork a b).av (.int 1)=fun h=>Out.ok (.int a) h:=by funext h;rfl
 have e3:au (Pc.fork a b).av (.int 2)=fun h=>Out.ok (.int b) h:=by funext h;rfl
 have l1:p+1<h.length:=by lia
 have l2:p+2<h.length:=by (clear l1 e3 e2 e hm hs hb ha hl hq S;lia)
 have l3:p+3<h.length:=by (clear l2 l1 e3 e2 e hm hs hb ha hl hq S;lia)
 have l4:p+4<h.length:=by (clear l3 l2 l1 e3 e2 e hm hs hb ha hl hq S;lia)
 have l5:p+5<h.length:=by (clear l4 l3 l2 l1 e3 e2 e hm hs hb ha hl hq S;lia)
 have l6:p+6<h.length:=by (clear l5 l4 l3 l2 l1 e3 e2 e hm hs hb ha hl hq S;lia)
 have l7:p+7<h.length:=by (clear l6 l5 l4 l3 l2 l1 e3 e2 e hm hs hb ha hl hq S;lia)
 have fx:∀ (n:Nat) (g:Ms->AV) (h':AH),h'[n]? = some (.lst ((meas ps).map g))->au (.ref n) (.int a) h' = .ok (g ma) h'/\au (.ref n) (.int b) h' = .ok (g mb) h' := fun n g h' e=>by
  simp [au,e,cF ha,cF hb]
 have f3:=fun (h':AH) (e:h'[p+3]? = some (.lst ((meas ps).map fun m=>.int m.sg)))=>fx _ _ h' e
 have f4:=fun (h':AH) (e:h'[p+4]? = some (.lst ((meas ps).map fun m=>.int m.en)))=>fx _ _ h' e
 have f5:=fun (h':AH) (e:h'[p+5]? = some (.lst ((meas ps).map fun m=>.int m.lv)))=>fx _ _ h' e
 have f6:=fun (h':AH) (e:h'[p+6]? = some (.lst ((meas ps).map fun m=>.int m.ht)))=>fx _ _ h' e
 have f7:=fun (h':AH) (e:h'[p+7]? = some (.lst ((meas ps).map fun m=>.int m.fl)))=>fx _ _ h' e
 have f8:=fun (h':AH) (e:h'[p+8]? = some (.lst ((meas ps).map fun m=>.int m.ll)))=>fx _ _ h' e
 have hmax:∀ i j:Int,(if j > i then j else i)=max i j:=fun i j=>by split<;>lia
 simp [mO,e,S.ob,S.h3,S.h4,S.h5,S.h6,S.h7,S.h8,hm,Nb,tL,gw,dI,e2,e3,cR,hs,cF ha,cF hb,yE ha,yE hb,-au,-JY,-List.getD_eq_getElem?_getD,f3,f4,f5,f6,f7,f8,hmax]
theorem ng {h:AH} {p:Nat} {ps:List Pc} {x:Str} {i:Nat} (S:ShelfAt h p ps) (nd:ps.Nodup) (hx:d8 x=true) (hl:x.length<=sizeLine) (e:ps[i]? = some (.leaf x)):dj [.ref p,.str x] h = .ok (.int ((i+1:Nat):Int)) h:=by
 have t:=tM (k:=1) nd e
 have t':aX (dH ps) (.tup [.str "leaf",.str x])=some (.int ((i+1:Nat):Int)):=by rw [LH];exact t
 simp [dj,yB x h hl,hx,S.ob,S.h2,t']
theorem tQ {h:AH} {p:Nat} {ps:List Pc} {x:Str} (S:ShelfAt h p ps) (hx:d8 x=true) (hl:x.length<=sizeLine) (hq:Pc.leaf x∉ps) (hz:ps.length<16000000):dj [.ref p,.str x] h = .ok (.int ((ps.length+1:Nat):Int)) (dI h p (ps++[.leaf x])):=by
 have t:aX (dH ps) (.tup [.str "leaf",.str x])=none:=pq (q:=.leaf x) (k:=1) hq
 have S2:=kO (ps' := ps++[.leaf x]) S
 have e:=F0 S hq hz
 have t2:aX (dH (ps++[.leaf x])) (.tup [.str "leaf",.str x])=some (.int ((ps.length+1:Nat):Int)):=by
  unfold dH
  rw [pj]
  unfold aX at t ⊢
  rw [Ot]
  have t3:(eZ 1 ps).find? (fun p=>decide (p.1 = .tup [.str "leaf",.str x]))=none:=by simpa [dH] using t
  rw [t3]
  simp [Pc.av,LH]
 have e':mR [.ref p,.tup [.str "leaf",.str x]] h = .ok .non (dI h p (ps++[.leaf x])):=e
 simp [dj,yB x h hl,hx,S.ob,S.h2,t,e',S2.ob,S2.h2,t2]
theorem F4 {h:AH} {p:Nat} {ps:List Pc} {a b:Nat} {ma mb la fb:Ms} (S:ShelfAt h p ps) (ha:(meas ps)[a]? = some ma) (hb:(meas ps)[b]? = some mb) (pa:1<=a) (pb:1<=b) (hla:(meas ps)[ma.ll]? = some la) (hfb:(meas ps)[mb.fl]? = some fb) :
  i3 [.ref p,.int a,.int b] h=if la.sg+fb.sg<=8 then .ex FH h else if 1<(ma.ht-mb.ht).natAbs then .ex FI h else if 1000000000000000000<ma.sg+mb.sg then .ex FJ h else .ok .non h:=by
 have la_:=(JD.mp ha).1
 have lb_:=(JD.mp hb).1
 rw [cR] at la_ lb_
 have c1:=pB S (i:=(a:Int)) ⟨by lia,by lia⟩
 have c2:=pB S (i:=(b:Int)) ⟨by lia,by lia⟩
 by_cases d1:la.sg+fb.sg<=8
 ·have d1':((la.sg:Int)+fb.sg)<=8:=by lia
  simp [i3,c1,c2,S.ob,S.h3,S.h5,S.h6,S.h7,S.h8,cF ha,cF hb,cF hla,cF hfb,d1,d1']
 ·have d1' : ¬ ((la.sg:Int)+fb.sg)<=8:=by lia
  by_cases d2:1<(ma.ht-mb.ht).natAbs
  ·have d2':(1:Int)<(if ma.ht-mb.ht<0 then -(ma.ht-mb.ht) else ma.ht-mb.ht):=by split<;>lia
   simp [i3,c1,c2,S.ob,S.h3,S.h5,S.h6,S.h7,S.h8,cF ha,cF hb,cF hla,cF hfb,d1,d1',d2,d2',-OF]
  ·have d2' : ¬ (1:Int)<(if ma.ht-mb.ht<0 then -(ma.ht-mb.ht) else ma.ht-mb.ht):=by split<;>lia
   by_cases d3:1000000000000000000<ma.sg+mb.sg
   ·have d3':(1000000000000000000:Int)<(ma.sg:Int)+mb.sg:=by lia
    simp [i3,c1,c2,S.ob,S.h3,S.h5,S.h6,S.h7,S.h8,cF ha,cF hb,cF hla,cF hfb,d1,d1',d2,d2',d3,d3',-OF]
   ·have d3' : ¬ (1000000000000000000:Int)<(ma.sg:Int)+mb.sg:=by lia
    simp [i3,c1,c2,S.ob,S.h3,S.h5,S.h6,S.h7,S.h8,cF ha,cF hb,cF hla,cF hfb,d1,d1',d2,d2',d3,d3',-OF]
structure ForkOk (ps:List Pc) (a b:Nat):Prop where
 pa:1<=a
 pb:1<=b
 ex:∃ ma mb la fb,(meas ps)[a]? = some ma/\(meas ps)[b]? = some mb/\(meas ps)[ma.ll]? = some la/\(meas ps)[mb.fl]? = some fb/\8<la.sg+fb.sg/\(ma.ht-mb.ht).natAbs<=1/\ma.sg+mb.sg<=1000000000000000000
theorem yF {h:AH} {p:Nat} {ps:List Pc} {a b:Nat} (S:ShelfAt h p ps) (F:ForkOk ps a b):i3 [.ref p,.int a,.int b] h = .ok .non h:=by
 obtain ⟨ma,mb,la,fb,h1,h2,h3,h4,h5,h6,h7⟩:=F.ex
 rw [F4 S h1 h2 F.pa F.pb h3 h4,JM (by lia),JM (by lia),JM (by lia)]
theorem pC {h:AH} {p:Nat} {ps:List Pc} {a b i:Nat} (S:ShelfAt h p ps) (nd:ps.Nodup) (F:ForkOk ps a b) (e:ps[i]? = some (.fork a b)):aS [.ref p,.int a,.int b] h = .ok (.int ((i+1:Nat):Int)) h:=by
 have t:=tM (k:=1) nd e
 have t':aX (dH ps) (.tup [.str "fork",.int a,.int b])=some (.int ((i+1:Nat):Int)):=by rw [LH];exact t
 simp [aS,yF S F,S.ob,S.h2,t']
theorem yG {h:AH} {p:Nat} {ps:List Pc} {a b:Nat} (S:ShelfAt h p ps) (F:ForkOk ps a b) (hq:Pc.fork a b∉ps) (hz:ps.length<16000000):aS [.ref p,.int a,.int b] h = .ok (.int ((ps.length+1:Nat):Int)) (dI h p (ps++[.fork a b])):=by
 have t:aX (dH ps) (.tup [.str "fork",.int a,.int b])=none:=pq (q:=.fork a b) (k:=1) hq
 have S2:=kO (ps' := ps++[.fork a b]) S
 obtain ⟨ma,mb,la,fb,h1,h2,_⟩:=F.ex
 have e:=F3 S hq hz h1 h2
 have t2:aX (dH (ps++[.fork a b])) (.tup [.str "fork",.int a,.int b])=some (.int ((ps.length+1:Nat):Int)):=by
  unfold dH
  rw [pj]
  unfold aX at t ⊢
  rw [Ot]
  have t3:(eZ 1 ps).find? (fun p=>decide (p.1 = .tup [.str "fork",.int a,.int b]))=none:=by simpa [dH] using t
  rw [t3]
  simp [Pc.av,LH]
 have e':mO [.ref p,.tup [.str "fork",.int a,.int b]] h = .ok .non (dI h p (ps++[.fork a b])):=e
 simp [aS,yF S F,S.ob,S.h2,t,e',S2.ob,S2.h2,t2]
def dq (n:Nat):List AO:=[.ins 0 [some (.ref (n+1)),some (.ref (n+2)),some (.ref (n+3)),some (.ref (n+4)),some (.ref (n+5)),some (.ref (n+6)),some (.ref (n+7)),some (.ref (n+8))],.lst [],.dct true [],.lst [.int 0],.lst [.int 0],.lst [.int 0],.lst [.int (-1)],.lst [.int 0],.lst [.int 0]]
theorem F5 {h:AH} {o o':AO} {r:AH}:(h++o::r).set h.length o'=h++o'::r:=by
 induction h with
 | nil=>rfl
 | cons x t ih=>simp [ih]
theorem yH (en:En) (h:AH):ka 0 8 jI ae en h = .ok (.ref h.length) (h++dq h.length):=by
 simp [jI,dq,NU,F5]
theorem yI {h r:AH} {k:Nat}:(h++r)[h.length+k]? = r[k]? := by
 rw [J9 (by lia)];simp
theorem yJ (h r:AH):ShelfAt (h++(dq h.length++r)) h.length []:=by
 refine ⟨?_,?_,?_,?_,?_,?_,?_,?_,?_⟩
 ·rw [show h.length=h.length+0 from rfl,yI];rfl
 all_goals (rw [yI];rfl)
theorem yK (x:Str) (c i:Nat) (hi:i<x.length):Builtin.Str.subAt x ⟨#[c]⟩ i=decide (x.cps.toList[i]? = some c):=by
 have hi':i<x.cps.size:=hi
 unfold Builtin.Str.subAt
 have e:x.cps.extract i (i+1) = #[x.cps[i]]:=by
  apply Array.ext
  ·simp;lia
  ·intro j h1 h2
   have:j=0:=by simp at h2;omega
   subst this
   simp
 show (x.cps.extract i (i+1) == #[c])=_
 rw [e]
 have:x.cps.toList[i]? = some x.cps[i]:=by simp [hi']
 rw [this]
 by_cases q:x.cps[i]=c
 ·simp [q]
 ·simp [q]
theorem pD (x:Str) (c:Nat):∀ (n i:Nat) (st:Array Nat×Nat),i+n=x.length+1->st.2<=i->st.1.size<=i->(forIn (List.range' i n) st (StrLaws.occBody x ⟨#[c]⟩ x.length (x.length+1))).run.fst.size=st.1.size+(x.cps.toList.drop i).count c
 | 0,i,st,hn,_,_=>by
  rw [Ku (by simp;simp only [Str.length] at hn;lia)]
  simp
 | n+1,i,st,hn,h2,h3=>by
  rw [List.range'_succ,List.forIn_cons]
  unfold StrLaws.occBody
  by_cases hi:i<x.length
  ·have hi':i<x.cps.size:=hi
   have hd:x.cps.toList.drop i=x.cps[i]'hi'::x.cps.toList.drop (i+1):=by
    rw [KU (show i<x.cps.toList.length by simpa using hi')];simp
   have hg:x.cps.toList[i]? = some (x.cps[i]'hi'):=by
    simp [hi']
   by_cases q:x.cps[i]'hi'=c
   ·have hs:Builtin.Str.subAt x ⟨#[c]⟩ i=true:=by rw [yK x c i hi,hg,q];simp
    rw [JJ ⟨⟨⟨by (clear hs q hg hd hi' hi h2;lia),h2⟩,hi⟩,hs⟩]
    show (forIn (List.range' (i+1) n) (st.1.push i,i+1) (StrLaws.occBody x ⟨#[c]⟩ x.length (x.length+1))).run.fst.size=_
    rw [pD x c n (i+1) _ (by lia) (JE _) (by simp;omega),hd,q]
    simp;lia
   ·have hs:Builtin.Str.subAt x ⟨#[c]⟩ i=false:=by rw [yK x c i hi,hg];simp [q]
    rw [JM (by simp [hs])]
    show (forIn (List.range' (i+1) n) (st.1,st.2) (StrLaws.occBody x ⟨#[c]⟩ x.length (x.length+1))).run.fst.size=_
    rw [pD x c n (i+1) _ (by lia) (by show st.2<=i+1;lia) (by show st.1.size<=i+1;lia),hd]
    simp [q]
  ·rw [JM (by rintro ⟨⟨_,z⟩,_⟩;exact hi z)]
   show (forIn (List.range' (i+1) n) (st.1,st.2) (StrLaws.occBody x ⟨#[c]⟩ x.length (x.length+1))).run.fst.size=_
   rw [pD x c n (i+1) _ (by lia) (by show st.2<=i+1;lia) (by show st.1.size<=i+1;lia)]
   rw [Ku (by simp;simp only [Str.length] at hi;lia),Ku (by simp;simp only [Str.length] at hi;lia)]
theorem F6 (x:Str) (c:Nat):(Builtin.Str.occurrences x ⟨#[c]⟩ 0 x.length (x.length+1)).length=x.cps.toList.count c:=by
 rw [StrLaws.occ_eq,KO]
 rw [show x.length+1-0=x.length+1 from rfl,pD x c (x.length+1) 0 _ (by lia) (JE _) (by simp)]
 simp
theorem tR (x:Str):iw x=x.cps.toList.count 10:=F6 x 10
theorem dJ (x y:Str):(x++y).cps.toList=x.cps.toList++y.cps.toList:=by
 show (x.cps++y.cps).toList=_
 simp
theorem F7 (x y:Str):iw (x++y)=iw x+iw y:=by
 rw [tR,tR,tR,dJ,List.count_append]
theorem dP (x:Str):x.length=x.cps.toList.length:=by simp [Str.length]
theorem bY (x y:Str):(x++y).length=x.length+y.length:=by
 rw [dP,dP,dP,dJ,JT]
def jU (rs:List Str):Pc->Str
 | .leaf x=>x
 | .fork a b=>rs.getD a "" ++ rs.getD b ""
def reads (ps:List Pc):List Str:=ps.foldl (fun rs q=>rs++[jU rs q]) [""]
theorem F8 (ps:List Pc) (q:Pc):reads (ps++[q])=reads ps++[jU (reads ps) q]:=by simp [reads]
theorem nh {α β:Type} (g:List β->α->β):∀ (qs:List α) (ms:List β),∃ r,qs.foldl (fun ms q=>ms++[g ms q]) ms=ms++r/\r.length=qs.length
 | [],ms=>⟨[],by simp,rfl⟩
 | q::qs,ms=>by
  obtain ⟨r,e,l⟩:=nh g qs (ms++[g ms q])
  exact ⟨g ms q::r,by rw [NF,e];simp,by simp [l]⟩
theorem pE (ps:List Pc):(reads ps).length=ps.length+1:=by
 obtain ⟨r,e,l⟩:=nh jU ps [""]
 rw [reads,e];simp [l,LH]
theorem F9 (ps qs:List Pc):∃ r,meas (ps++qs)=meas ps++r:=by
 unfold meas
 rw [Ou]
 obtain ⟨r,e,_⟩:=nh gw qs (ps.foldl (fun ms q=>ms++[gw ms q]) [ms0])
 exact ⟨r,e⟩
theorem Ga (ps qs:List Pc):∃ r,reads (ps++qs)=reads ps++r:=by
 unfold reads
 rw [Ou]
 obtain ⟨r,e,_⟩:=nh jU qs (ps.foldl (fun ms q=>ms++[jU ms q]) [""])
 exact ⟨r,e⟩
theorem aV {ps ps':List Pc} (h:ps <+: ps') {n:Nat} {m:Ms} (e:(meas ps)[n]? = some m):(meas ps')[n]? = some m:=by
 obtain ⟨qs,rfl⟩:=h
 obtain ⟨r,q⟩:=F9 ps qs
 rw [q,JF (JD.mp e).1];exact e
theorem pF {ps ps':List Pc} (h:ps <+: ps') {n:Nat} {m:Str} (e:(reads ps)[n]? = some m):(reads ps')[n]? = some m:=by
 obtain ⟨qs,rfl⟩:=h
 obtain ⟨r,q⟩:=Ga ps qs
 rw [q,JF (JD.mp e).1];exact e
theorem kP (ps:List Pc) (i:Nat):ps.take i <+: ps:=List.take_prefix i ps
theorem tU {ps:List Pc} {i:Nat} {q:Pc} (e:ps[i]? = some q):(ps.take i++[q]) <+: ps/\(ps.take i).length=i:=by
 have hi:=(JD.mp e).1
 have:ps.take (i+1)=ps.take i++[q]:=by
  rw [M1,e];rfl
 exact ⟨this▸List.take_prefix _ _,by simp;lia⟩
theorem yL {ps:List Pc} {i:Nat} {q:Pc} (e:ps[i]? = some q):(meas ps)[i+1]? = some (gw (meas (ps.take i)) q):=by
 obtain ⟨h,l⟩:=tU e
 refine aV h ?_
 rw [tL,J9 (by rw [cR,l];lia),cR,l]
 simp
theorem yM {ps:List Pc} {i:Nat} {q:Pc} (e:ps[i]? = some q):(reads ps)[i+1]? = some (jU (reads (ps.take i)) q):=by
 obtain ⟨h,l⟩:=tU e
 refine pF h ?_
 rw [F8,J9 (by rw [pE,l];lia),pE,l]
 simp
def nj (ps:List Pc):Pc->Prop
 | .leaf x=>d8 x=true
 | .fork a b=>ForkOk ps a b
inductive Good:List Pc->Prop
 | nil:Good []
 | snoc {ps:List Pc} {q:Pc}:Good ps->q∉ps->nj ps q->Good (ps++[q])
theorem Good.nodup {ps:List Pc} (g:Good ps):ps.Nodup:=by
 induction g with
 | nil=>exact Mq
 | snoc g n ok ih=>exact LW.mpr ⟨ih,by simp,fun a ha b hb=>by simp at hb;subst hb;exact fun e=>n (e▸ha)⟩
theorem Good.get {ps:List Pc} (g:Good ps):∀ {i:Nat} {q:Pc},ps[i]? = some q->nj (ps.take i) q:=by
 induction g with
 | nil=>intro i q e;simp at e
 | @snoc ps q' g n ok ih =>
  intro i q e
  by_cases hi:i<ps.length
  ·rw [JF hi] at e
   rw [LD (by lia)]
   exact ih e
  ·have hi2:i=ps.length:=by
    have:=(JD.mp e).1
    simp at this;lia
   subst hi2
   simp at e
   subst e
   simpa using ok
theorem ForkOk.pre {ps ps':List Pc} {a b:Nat} (F:ForkOk ps a b) (h:ps <+: ps'):ForkOk ps' a b:=by
 obtain ⟨ma,mb,la,fb,h1,h2,h3,h4,h5⟩:=F.ex
 exact ⟨F.pa,F.pb,ma,mb,la,fb,aV h h1,aV h h2,aV h h3,aV h h4,h5⟩
structure Ky (ps:List Pc) (m:Ms) (x:Str) (f l:Ms):Prop where
 fl:(meas ps)[m.fl]? = some f
 ll:(meas ps)[m.ll]? = some l
 sg:m.sg=x.length
 en:m.en=iw x
 f1:1<=f.sg
 f8:f.sg<=8
 l1:1<=l.sg
 l8:l.sg<=8
 lv:1<=m.lv
 ht:0<=m.ht
 most:m.sg<=1000000000000000000
 cnt:∃ k,(m.lv=2*k+1/\9*k+f.sg<=m.sg/\9*k+l.sg<=m.sg)\/(m.lv=2*k+2/\9*k+9<=m.sg/\9*k+f.sg+l.sg<=m.sg)
 pl:bp x=true
structure Tx (ps:List Pc) (n:Nat) (m:Ms) (x:Str) (f l:Ms):Prop where
 n1:1<=n
 ms:(meas ps)[n]? = some m
 rd:(reads ps)[n]? = some x
 ky:Ky ps m x f l
theorem Ky.pre {ps ps':List Pc} {m:Ms} {x:Str} {f l:Ms} (k:Ky ps m x f l) (h:ps <+: ps'):Ky ps' m x f l :=
 { k with fl:=aV h k.fl,ll:=aV h k.ll }
theorem Tx.pre {ps ps':List Pc} {n:Nat} {m:Ms} {x:Str} {f l:Ms} (k:Tx ps n m x f l) (h:ps <+: ps'):Tx ps' n m x f l :=
 ⟨k.n1,aV h k.ms,pF h k.rd,k.ky.pre h⟩
theorem Tx.le {ps:List Pc} {n:Nat} {m:Ms} {x:Str} {f l:Ms} (k:Tx ps n m x f l):n<=ps.length:=by
 have:=(JD.mp k.ms).1
 rw [cR] at this;lia
def jV (ma mb:Ms):Ms:=⟨ma.sg+mb.sg,ma.en+mb.en,ma.lv+mb.lv,max ma.ht mb.ht+1,ma.fl,mb.ll⟩
theorem nt (x y:Str):bp (x++y)=(bp x && bp y):=by unfold bp;rw [dJ,List.all_append]
theorem Gb {n n' s s' f l f' l':Nat} (a:∃ k,(n=2*k+1/\9*k+f<=s/\9*k+l<=s)\/(n=2*k+2/\9*k+9<=s/\9*k+f+l<=s)) (b:∃ k,(n'=2*k+1/\9*k+f'<=s'/\9*k+l'<=s')\/(n'=2*k+2/\9*k+9<=s'/\9*k+f'+l'<=s')) (hs:8<l+f') :
  ∃ k,(n+n'=2*k+1/\9*k+f<=s+s'/\9*k+l'<=s+s')\/(n+n'=2*k+2/\9*k+9<=s+s'/\9*k+f+l'<=s+s'):=by
 obtain ⟨k,⟨rfl,a1,a2⟩ | ⟨rfl,a1,a2⟩⟩:=a<;>obtain ⟨k',⟨rfl,b1,b2⟩ | ⟨rfl,b1,b2⟩⟩:=b
 ·exact ⟨k+k',.inr ⟨by lia,by lia,by lia⟩⟩
 ·exact ⟨k+k'+1,.inl ⟨by lia,by lia,by lia⟩⟩
 ·exact ⟨k+k'+1,.inl ⟨by lia,by lia,by lia⟩⟩
 ·exact ⟨k+k'+1,.inr ⟨by lia,by lia,by lia⟩⟩
theorem Ky.fork {ps:List Pc} {ma mb fa la fb lb:Ms} {x y:Str} (A:Ky ps ma x fa la) (B:Ky ps mb y fb lb) (hs:8<la.sg+fb.sg) (hm:ma.sg+mb.sg<=1000000000000000000):Ky ps (jV ma mb) (x++y) fa lb:=by
 have k:=Gb A.cnt B.cnt hs
 refine ⟨A.fl,B.ll,?_,?_,A.f1,A.f8,B.l1,B.l8,JK A.lv (Lf _ _),?_,hm,k,?_⟩
 ·show ma.sg+mb.sg=_;rw [bY,A.sg,B.sg]
 ·show ma.en+mb.en=_;rw [F7,A.en,B.en]
 ·have a4:=A.ht
  show 0<=max ma.ht mb.ht+1
  clear k hs hm;lia
 ·rw [nt,A.pl,B.pl];rfl
theorem kQ {x:Str} (h:d8 x=true):1<=x.length/\x.length<=8/\bp x=true:=by
 simp [d8] at h;exact ⟨h.2.1,h.2.2,h.1⟩
theorem iy {α:Type} {l:List α} {i:Nat} {d x:α} (e:l[i]? = some x):l.getD i d=x:=by simp [List.getD,e]
def bq (x:Str) (n:Nat):Ms:=⟨x.length,iw x,1,0,n,n⟩
theorem iz {ps:List Pc} (g:Good ps) {i:Nat} {x:Str} (e:ps[i]? = some (.leaf x)):Tx ps (i+1) (bq x (i+1)) x (bq x (i+1)) (bq x (i+1)):=by
 have hi:=(JD.mp e).1
 have ok:d8 x=true:=g.get e
 obtain ⟨s1,s2,s3⟩:=kQ ok
 have li:(ps.take i).length=i:=by simp;lia
 have ml:(meas (ps.take i)).length=i+1:=by rw [cR,li]
 have e1':(meas ps)[i+1]? = some (bq x (i+1)):=by rw [yL e];simp only [gw,bq];rw [ml]
 exact ⟨by lia,e1',yM e,⟨e1',e1',rfl,rfl,s1,s2,s1,s2,JE 1,LC 0,by show x.length<=_;lia,⟨0,.inl ⟨rfl,MS (K8 _),MS (K8 _)⟩⟩,s3⟩⟩
theorem jW {ps:List Pc} (g:Good ps) {i a b:Nat} {ma mb fa la fb lb:Ms} {x y:Str} (e:ps[i]? = some (.fork a b)) (A:Tx ps a ma x fa la) (B:Tx ps b mb y fb lb):Tx ps (i+1) (jV ma mb) (x++y) fa lb:=by
 have hi:=(JD.mp e).1
 have ok':ForkOk (ps.take i) a b:=g.get e
 have li:(ps.take i).length=i:=by simp;lia
 have tp:=kP ps i
 obtain ⟨ma',mb',la',fb',q1,q2,q3,q4,q5,q6,q7⟩:=ok'.ex
 have ba:=(JD.mp q1).1
 have bb:=(JD.mp q2).1
 rw [cR,li] at ba bb
 have z1:=A.ms.symm.trans (aV tp q1);cases z1
 have z2:=B.ms.symm.trans (aV tp q2);cases z2
 have z3:=A.ky.ll.symm.trans (aV tp q3);cases z3
 have z4:=B.ky.fl.symm.trans (aV tp q4);cases z4
 have r1:(reads (ps.take i))[a]? = some x:=by
  obtain ⟨w,ew⟩:∃ w,(reads (ps.take i))[a]? = some w:=⟨(reads (ps.take i))[a]'(by rw [pE,li];lia),by simp⟩
  have:=(pF tp ew).symm.trans A.rd;cases this;exact ew
 have r2:(reads (ps.take i))[b]? = some y:=by
  obtain ⟨w,ew⟩:∃ w,(reads (ps.take i))[b]? = some w:=⟨(reads (ps.take i))[b]'(by rw [pE,li];lia),by simp⟩
  have:=(pF tp ew).symm.trans B.rd;cases this;exact ew
 refine ⟨by lia,?_,?_,A.ky.fork B.ky q5 q7⟩
 ·rw [yL e];simp only [gw,iy q1,iy q2];rfl
 ·rw [yM e];simp only [jU,iy r1,iy r2]
theorem Good.tx {ps:List Pc} (g:Good ps):∀ n,1<=n->n<=ps.length->∃ m x f l,Tx ps n m x f l:=by
 intro n
 induction n using Nat.strongRecOn with
 | ind n ih =>
  intro h1 h2
  obtain ⟨i,rfl⟩:∃ i,n=i+1:=⟨n-1,(Nat.sub_add_cancel h1).symm⟩
  obtain ⟨q,eq⟩:∃ q,ps[i]? = some q:=⟨ps[i],by simp⟩
  have ok:=g.get eq
  have li:(ps.take i).length=i:=(tU eq).2
  cases q with
  | leaf x=>exact ⟨_,_,_,_,iz g eq⟩
  | fork a b =>
   have ok':ForkOk (ps.take i) a b:=ok
   obtain ⟨ma,mb,la,fb,q1,q2,_⟩:=ok'.ex
   have ba:=(JD.mp q1).1
   have bb:=(JD.mp q2).1
   rw [cR,li] at ba bb
   obtain ⟨_,_,_,_,A⟩:=ih a ba ok'.pa (JK (Mn ba) h2)
   obtain ⟨_,_,_,_,B⟩:=ih b bb ok'.pb (JK (Mn bb) h2)
   exact ⟨_,_,_,_,jW g eq A B⟩
structure Dd (p:Nat) (h h':AH) (ps ps':List Pc) (k:Nat):Prop where
 sh:ShelfAt h' p ps'
 gd:Good ps'
 pre:ps <+: ps'
 len:ps'.length<=ps.length+k
 fr:∀ i,i<=p\/p+8<i->h'[i]? = h[i]?
 hl:h'.length=h.length
theorem Gc {h:AH} {p:Nat} {ps:List Pc} {x:Str} (S:ShelfAt h p ps) (g:Good ps) (hx:d8 x=true) (hz:ps.length<16000000) :
  ∃ (n:Nat) (ps':List Pc) (h':AH),dj [.ref p,.str x] h = .ok (.int n) h'/\Dd p h h' ps ps' 1/\Tx ps' n (bq x n) x (bq x n) (bq x n):=by
 obtain ⟨s1,s2,s3⟩:=kQ hx
 have hs:x.length<=sizeLine:=JK s2 (by decide)
 by_cases hq:Pc.leaf x∈ps
 ·obtain ⟨i,hi,e⟩:=Lx hq
  have e':ps[i]? = some (.leaf x):=by rw [JY hi,e]
  exact ⟨i+1,ps,h,ng S g.nodup hx hs e',⟨S,g,KN _,by lia,fun _ _=>rfl,rfl⟩,iz g e'⟩
 ·have g':Good (ps++[.leaf x]):=.snoc g hq hx
  have e':(ps++[Pc.leaf x])[ps.length]? = some (.leaf x):=by simp
  exact ⟨ps.length+1,_,_,tQ S hx hs hq hz,⟨kO S,g',LI _ _,by simp,fun i hi=>mZ hi,pA _ _ _⟩,iz g' e'⟩
theorem ShelfAt.keep {h h':AH} {p:Nat} {ps:List Pc} (S:ShelfAt h p ps) (e:∀ i,p<=i->i<=p+8->h'[i]? = h[i]?):ShelfAt h' p ps:=by
 have k:∀ j,j<=8->h'[p+j]? = h[p+j]? := fun j hj=>e _ (Lf p j) (Kq hj p)
 exact ⟨(k 0 (by decide)).trans S.ob,(k 1 (by decide)).trans S.h1,(k 2 (by decide)).trans S.h2,(k 3 (by decide)).trans S.h3,(k 4 (by decide)).trans S.h4,(k 5 (by decide)).trans S.h5,(k 6 (by decide)).trans S.h6,(k 7 (by decide)).trans S.h7,(k 8 (by decide)).trans S.h8⟩
theorem ShelfAt.app {h:AH} {p:Nat} {ps:List Pc} (S:ShelfAt h p ps) (r:AH):ShelfAt (h++r) p ps:=by
 have:=bH S.h8
 exact S.keep fun i _ b=>JF (Ka b this)
structure Wk (p r:Nat) (h h':AH) (ps ps':List Pc) (k:Nat):Prop where
 sh:ShelfAt h' p ps'
 gd:Good ps'
 pre:ps <+: ps'
 len:ps'.length<=ps.length+k
 row:∃ N:Int,h'[r]? = some (.lst [.int N])
 fr:∀ i,i<=p\/p+8<i->i≠r->h'[i]? = h[i]?
 hl:h'.length=h.length
theorem Wk.refl {p r:Nat} {h:AH} {ps:List Pc} (S:ShelfAt h p ps) (g:Good ps) (e:∃ N:Int,h[r]? = some (.lst [.int N])):Wk p r h h ps ps 0 :=
 ⟨S,g,KN _,by lia,e,fun _ _ _=>rfl,rfl⟩
theorem kR {h:AH} {p:Nat} {ps:List Pc} {i:Nat} (S:ShelfAt h p ps) (hi:i<=ps.length):gL [.ref p,.int i] h = .ok .non h:=by
 by_cases z:i=0
 ·subst z;simp [gL]
 ·have c:=pB S (i:=(i:Int)) ⟨by lia,by lia⟩
  simp [gL,z,S.ob,c]
theorem iA {h:AH} {p:Nat} {ps:List Pc} {i:Nat} {m:Ms} (S:ShelfAt h p ps) (e:(meas ps)[i]? = some m):gM [.ref p,.int i] h = .ok (.int m.sg) h:=by
 have hi:=(JD.mp e).1
 rw [cR] at hi
 simp [gM,kR S (show i<=ps.length by lia),S.ob,S.h3,cF e]
theorem Gd {h:AH} {p:Nat} {ps:List Pc} {i:Nat} {m:Ms} (S:ShelfAt h p ps) (e:(meas ps)[i]? = some m):oZ [.ref p,.int i] h = .ok (.int m.en) h:=by
 have hi:=(JD.mp e).1
 rw [cR] at hi
 simp [oZ,kR S (show i<=ps.length by lia),S.ob,S.h4,cF e]
theorem Ge {h:AH} {p:Nat} {ps:List Pc} {i:Nat} {m:Ms} (S:ShelfAt h p ps) (e:(meas ps)[i]? = some m):pe [.ref p,.int i] h = .ok (.int m.lv) h:=by
 have hi:=(JD.mp e).1
 rw [cR] at hi
 simp [pe,kR S (show i<=ps.length by lia),S.ob,S.h5,cF e]
theorem cK {h:AH} {p:Nat} {ps:List Pc} {i:Nat} {m:Ms} (S:ShelfAt h p ps) (e:(meas ps)[i]? = some m):fh [.ref p,.int i] h = .ok (.int m.ht) h:=by
 have hi:=(JD.mp e).1
 rw [cR] at hi
 simp [fh,kR S (show i<=ps.length by lia),S.ob,S.h6,cF e]
theorem yN {h:AH} {p:Nat} {ps:List Pc} {i:Nat} {m:Ms} (S:ShelfAt h p ps) (e:(meas ps)[i]? = some m):mT [.ref p,.int i] h = .ok (.int m.fl) h:=by
 have hi:=(JD.mp e).1
 rw [cR] at hi
 simp [mT,kR S (show i<=ps.length by lia),S.ob,S.h7,cF e]
theorem yO {h:AH} {p:Nat} {ps:List Pc} {i:Nat} {m:Ms} (S:ShelfAt h p ps) (e:(meas ps)[i]? = some m):mS [.ref p,.int i] h = .ok (.int m.ll) h:=by
 have hi:=(JD.mp e).1
 rw [cR] at hi
 simp [mS,kR S (show i<=ps.length by lia),S.ob,S.h8,cF e]
def lp:Nat->Nat×Nat
 | 0=>(1,2)
 | n+1=>((lp n).2,(lp n).1+(lp n).2)
def ll (n:Nat):Nat:=(lp n).1
def ls (n:Nat):Nat:=9*(ll n / 2)+ll n % 2
theorem iB (n:Nat):ll (n+2)=ll n+ll (n+1):=rfl
theorem yP:∀ n,ll n<=ll (n+1)
 | 0=>by decide
 | n+1=>by rw [show n+1+1=n+2 from rfl,iB];lia
theorem Gf {a b:Nat} (h:a<=b):ll a<=ll b:=by
 induction h with
 | refl=>exact JE _
 | step h ih=>exact JK ih (yP _)
theorem Gg {a b:Nat} (h:a<=b):ls a<=ls b:=by
 have:=Gf h
 unfold ls;lia
theorem Gh {i j a b:Nat} (h1:i<=j+1) (h2:j<=i+1) (u1:ll i<=a) (u2:ll j<=b):ll (max i j+1)<=a+b:=by
 rcases Ov i j with c | c | c
 ·have e':j=i+1:=Nat.le_antisymm h2 c
  subst e'
  rw [Nat.max_eq_right (Na i),iB];exact NV u1 u2
 ·subst c
  rw [Nat.max_self]
  refine JK ?_ (NV u1 u2)
  cases i with
  | zero=>exact JE 2
  | succ k=>rw [show k+1+1=k+2 from rfl,iB];exact NW (yP k) _
 ·have e':i=j+1:=Nat.le_antisymm h1 c
  subst e'
  rw [Nat.max_eq_left (Na j),iB,LH];exact NV u1 u2
theorem Gi {x y:Int} {a b:Nat} (hx:0<=x) (hy:0<=y) (q:(x-y).natAbs<=1) (u1:ll x.toNat<=a) (u2:ll y.toNat<=b):ll (max x y+1).toNat<=a+b:=by
 obtain ⟨i,rfl⟩:=LB hx
 obtain ⟨j,rfl⟩:=LB hy
 have e:(max (i:Int) j+1).toNat=max i j+1:=by clear u1 u2 q;omega
 rw [e]
 exact Gh (by clear u1 u2 e;omega) (by clear u1 u2 e;omega) u1 u2
theorem Good.lv {ps:List Pc} (g:Good ps):∀ n m x f l,Tx ps n m x f l->ll m.ht.toNat<=m.lv:=by
 intro n
 induction n using Nat.strongRecOn with
 | ind n ih =>
  intro m x f l T
  have hn:=T.n1
  have hle:=T.le
  obtain ⟨i,rfl⟩:∃ i,n=i+1:=⟨n-1,by lia⟩
  obtain ⟨q,eq⟩:∃ q,ps[i]? = some q:=⟨ps[i],by simp⟩
  cases q with
  | leaf y =>
   have z:=(iz g eq).ms.symm.trans T.ms;cases z
   exact JE 1
  | fork a b =>
   have ok':ForkOk (ps.take i) a b:=g.get eq
   have li:(ps.take i).length=i:=by simp;lia
   obtain ⟨ma,mb,la,fb,q1,q2,q3,q4,q5,q6,q7⟩:=ok'.ex
   have ba:=(JD.mp q1).1
   have bb:=(JD.mp q2).1
   rw [cR,li] at ba bb
   obtain ⟨ma',x1,fa,la',A⟩:=g.tx a ok'.pa (by lia)
   obtain ⟨mb',y1,fb',lb,B⟩:=g.tx b ok'.pb (by lia)
   have tp:=kP ps i
   have z1:=A.ms.symm.trans (aV tp q1);cases z1
   have z2:=B.ms.symm.trans (aV tp q2);cases z2
   have u1:=ih a (by omega) _ _ _ _ A
   have u2:=ih b (by omega) _ _ _ _ B
   have z:=(jW g eq A B).ms.symm.trans T.ms;cases z
   exact Gi A.ky.ht B.ky.ht q6 u1 u2
theorem Tx.ls {ps:List Pc} (g:Good ps) {n:Nat} {m:Ms} {x:Str} {f l:Ms} (T:Tx ps n m x f l):Sk.ls m.ht.toNat<=m.sg:=by
 have u:=g.lv _ _ _ _ _ T
 have f1:=T.ky.f1
 unfold Sk.ls
 obtain ⟨k,⟨e,a,_⟩ | ⟨e,a,_⟩⟩:=T.ky.cnt
 ·rw [e] at u;generalize ll m.ht.toNat=q at *;clear e;lia
 ·rw [e] at u;generalize ll m.ht.toNat=q at *;clear e;lia
theorem Good.kind {ps:List Pc} (g:Good ps) {n:Nat} {m:Ms} {x:Str} {f l:Ms} (T:Tx ps n m x f l) :
  (ps[n-1]? = some (.leaf x)/\m.ht=0/\m=bq x n/\1<=x.length/\x.length<=8)\/∃ a b ma mb y z fa la fb lb,ps[n-1]? = some (.fork a b)/\a<n/\b<n/\Tx ps a ma y fa la/\Tx ps b mb z fb lb/\x=y++z/\m=jV ma mb/\(ma.ht-mb.ht).natAbs<=1:=by
 have hn:=T.n1
 have hle:=T.le
 obtain ⟨i,rfl⟩:∃ i,n=i+1:=⟨n-1,by lia⟩
 obtain ⟨q,eq⟩:∃ q,ps[i]? = some q:=⟨ps[i],by simp⟩
 cases q with
 | leaf y =>
  have L:=iz g eq
  have z:=L.ms.symm.trans T.ms;cases z
  have z2:=L.rd.symm.trans T.rd;cases z2
  have ok:d8 x=true:=g.get eq
  obtain ⟨s1,s2,s3⟩:=kQ ok
  exact .inl ⟨eq,rfl,rfl,s1,s2⟩
 | fork a b =>
  have ok':ForkOk (ps.take i) a b:=g.get eq
  have li:(ps.take i).length=i:=by simp;lia
  obtain ⟨ma,mb,la,fb,q1,q2,q3,q4,q5,q6,q7⟩:=ok'.ex
  have ba:=(JD.mp q1).1
  have bb:=(JD.mp q2).1
  rw [cR,li] at ba bb
  obtain ⟨ma',y,fa,la',A⟩:=g.tx a ok'.pa (by lia)
  obtain ⟨mb',z,fb',lb,B⟩:=g.tx b ok'.pb (by lia)
  have tp:=kP ps i
  have z1:=A.ms.symm.trans (aV tp q1);cases z1
  have z2:=B.ms.symm.trans (aV tp q2);cases z2
  have F:=jW g eq A B
  have z3:=F.ms.symm.trans T.ms;cases z3
  have z4:=F.rd.symm.trans T.rd;cases z4
  exact .inr ⟨a,b,ma,mb,y,z,fa,la',fb',lb,eq,by lia,by lia,A,B,rfl,rfl,q6⟩
theorem kS {h:AH} {p:Nat} {ps:List Pc} {n:Nat} {q:Pc} (S:ShelfAt h p ps) (n1:1<=n) (e:ps[n-1]? = some q):bS [.ref p,.int n] h = .ok q.av h:=by
 have:=tP S e
 rw [show ((n-1:Nat):Int)+1=(n:Int) by lia] at this
 exact this
theorem jX {m a b:Int} (e:m=max a b+1) (ha:0<=a) (hb:0<=b):∃ j:Nat,m.toNat=j+1/\a.toNat<=j/\b.toNat<=j/\0<m:=by
 obtain ⟨x,rfl⟩:=LB ha
 obtain ⟨y,rfl⟩:=LB hb
 subst e
 exact ⟨max x y,by omega,Nat.le_max_left _ _,Nat.le_max_right _ _,by lia⟩
end Sk
namespace Sk
open PySem PySem.Spec L2 Sm
theorem cX {x y:Str} (e:x.cps.toList=y.cps.toList):x=y:=by
 cases x;cases y
 simpa using e
theorem c8 (x y z:Str):(x++y)++z=x++(y++z):=cX (by simp only [dJ,JP])
theorem tV:1000000000000000000<ls 83:=by decide +kernel
theorem gy {ps:List Pc} (g:Good ps) {n:Nat} {m:Ms} {x:Str} {f l:Ms} (T:Tx ps n m x f l):m.ht<=82:=by
 have h1:=T.ls g
 have h2:=T.ky.most
 have h3:=T.ky.ht
 apply Classical.byContradiction
 intro h4
 have:=Gg (show 83<=m.ht.toNat by (clear h3 h2 h1 T g;lia))
 have:=tV
 lia
theorem Good.cut {ps:List Pc} (g:Good ps) {n:Nat} {m:Ms} {x:Str} {f l:Ms} (T:Tx ps n m x f l) (hh:0<m.ht) :
  ∃ a b ma mb y z la fb,ps[n-1]? = some (.fork a b)/\Tx ps a ma y f la/\Tx ps b mb z fb l/\x=y++z/\m=jV ma mb /\ -1<=ma.ht-mb.ht/\ma.ht-mb.ht<=1/\8<la.sg+fb.sg:=by
 rcases g.kind T with ⟨_,e,_⟩ | ⟨a,b,ma,mb,y,z,fa,la,fb,lb,e1,e2,e3,A,B,e4,e5,e6⟩
 ·omega
 ·have ok:ForkOk (ps.take (n-1)) a b:=g.get e1
  obtain ⟨ma',mb',la',fb',q1,q2,q3,q4,q5,_⟩:=(ok.pre (kP ps _)).ex
  have z1:=A.ms.symm.trans q1;cases z1
  have z2:=B.ms.symm.trans q2;cases z2
  have z3:=A.ky.ll.symm.trans q3;cases z3
  have z4:=B.ky.fl.symm.trans q4;cases z4
  have f1:=T.ky.fl
  have l1:=T.ky.ll
  rw [e5] at f1 l1
  have z5:=f1.symm.trans A.ky.fl;cases z5
  have z6:=l1.symm.trans B.ky.ll;cases z6
  exact ⟨a,b,ma,mb,y,z,la,fb,e1,A,B,e4,e5,by (clear B A l1 f1 q5 q4 q3 q2 q1 ok e5 e4 e3 e2 e1 hh T g;lia),by (clear B A l1 f1 q5 q4 q3 q2 q1 ok e5 e4 e3 e2 e1 hh T g;omega),q5⟩
def cL (M:Nat) (ps:List Pc):Prop:=∀ (i:Nat) (m:Ms),(meas ps)[i]? = some m->m.sg<=M
theorem yQ {M:Nat} {ps ps':List Pc} (f:cL M ps) (pr:ps <+: ps') (hl:ps'.length=ps.length+1) (hn:∀ m,(meas ps')[ps.length+1]? = some m->m.sg<=M):cL M ps' := fun i m e=>by
 have hi:=(JD.mp e).1
 rw [cR] at hi
 by_cases q:i<=ps.length
 ·obtain ⟨m0,e0⟩:∃ m0,(meas ps)[i]? = some m0:=⟨_,JY (by rw [cR];lia)⟩
  have e1:=aV pr e0
  rw [e] at e1
  cases e1
  exact f i _ e0
 ·have:i=ps.length+1:=by lia
  subst this
  exact hn m e
theorem fo {ps1 ps2:List Pc} {n1 n2:Nat} {m1 m2:Ms} (e1:(meas ps1)[n1]? = some m1) (e2:(meas ps2)[n2]? = some m2) (le:m1.sg<=m2.sg):∀ M,(∀ m,(meas ps2)[n2]? = some m->m.sg<=M)->∀ m,(meas ps1)[n1]? = some m->m.sg<=M:=fun M h m e=>by
 rw [e1] at e
 cases e
 exact JK le (h _ e2)
structure Dn (F:AH->Out AV) (p:Nat) (h h':AH) (ps ps':List Pc) (k n:Nat):Prop where
 ev:F h = .ok (.int n) h'
 dd:Dd p h h' ps ps' k
 re:∀ h2 ps2,ShelfAt h2 p ps2->Good ps2->ps' <+: ps2->F h2 = .ok (.int n) h2
 al:∀ M,cL M ps->(∀ m,(meas ps')[n]? = some m->m.sg<=M)->cL M ps'
theorem Dd.trans {p:Nat} {h h' h'':AH} {ps ps' ps'':List Pc} {k k' k2:Nat} (a:Dd p h h' ps ps' k) (b:Dd p h' h'' ps' ps'' k') (hk:k+k'<=k2):Dd p h h'' ps ps'' k2 :=
 ⟨b.sh,b.gd,a.pre.trans b.pre,by have:=a.len;have:=b.len;lia,fun i hi=>(b.fr i hi).trans (a.fr i hi),b.hl.trans a.hl⟩
theorem Dd.refl {p:Nat} {h:AH} {ps:List Pc} (S:ShelfAt h p ps) (g:Good ps):Dd p h h ps ps 0:=⟨S,g,KN _,by lia,fun _ _=>rfl,rfl⟩
theorem Dn.seq {F F1:AH->Out AV} {F2:AV->AH->Out AV} {p:Nat} {h h1 h2:AH} {ps ps1 ps2:List Pc} {k1 k2 k n1 n2:Nat} (S:ShelfAt h p ps) (g:Good ps) (d1:Dn F1 p h h1 ps ps1 k1 n1) (d2:Dn (F2 (.int n1)) p h1 h2 ps1 ps2 k2 n2)
  (eq:∀ hh pp,ShelfAt hh p pp->Good pp->ps <+: pp->F hh=(F1 hh).bind F2) (hk:k1+k2<=k) (pt:∀ M,(∀ m,(meas ps2)[n2]? = some m->m.sg<=M)->∀ m,(meas ps1)[n1]? = some m->m.sg<=M):Dn F p h h2 ps ps2 k n2:=by
 refine ⟨?_,d1.dd.trans d2.dd hk,fun h3 ps3 S3 g3 p3=>?_,fun M f hn=>d2.al M (d1.al M f (pt M hn)) hn⟩
 ·rw [eq h ps S g (KN _),d1.ev];exact d2.ev
 ·rw [eq h3 ps3 S3 g3 (d1.dd.pre.trans (d2.dd.pre.trans p3)),d1.re h3 ps3 S3 g3 (d2.dd.pre.trans p3)]
  exact d2.re h3 ps3 S3 g3 p3
theorem Dn.as {F F1:AH->Out AV} {p:Nat} {h h1:AH} {ps ps1:List Pc} {k1 k n1:Nat} (S:ShelfAt h p ps) (g:Good ps) (d1:Dn F1 p h h1 ps ps1 k1 n1) (eq:∀ hh pp,ShelfAt hh p pp->Good pp->ps <+: pp->F hh=F1 hh) (hk:k1<=k):Dn F p h h1 ps ps1 k n1:=by
 refine ⟨?_,{ d1.dd with len:=JK d1.dd.len (Kq hk _) },fun h3 ps3 S3 g3 p3=>?_,d1.al⟩
 ·rw [eq h ps S g (KN _)];exact d1.ev
 ·rw [eq h3 ps3 S3 g3 (d1.dd.pre.trans p3)];exact d1.re h3 ps3 S3 g3 p3
theorem Dn.val {F:AH->Out AV} {p n:Nat} {h:AH} {ps:List Pc} (S:ShelfAt h p ps) (g:Good ps) (eq:∀ hh pp,ShelfAt hh p pp->Good pp->ps <+: pp->F hh = .ok (.int n) hh):Dn F p h h ps ps 0 n :=
 ⟨eq h ps S g (KN _),Dd.refl S g,fun h3 ps3 S3 g3 p3=>eq h3 ps3 S3 g3 p3,fun _ f _=>f⟩
theorem dr {ps ps':List Pc} (h:ps <+: ps') {i:Nat} {q:Pc} (e:ps[i]? = some q):ps'[i]? = some q:=by
 obtain ⟨r,rfl⟩:=h
 rw [JF (JD.mp e).1];exact e
theorem yR {h:AH} {p:Nat} {ps:List Pc} {x:Str} (S:ShelfAt h p ps) (g:Good ps) (hx:d8 x=true) (hz:ps.length<16000000) :
  ∃ (n:Nat) (ps':List Pc) (h':AH),Dn (dj [.ref p,.str x]) p h h' ps ps' 1 n/\Tx ps' n (bq x n) x (bq x n) (bq x n):=by
 obtain ⟨s1,s2,s3⟩:=kQ hx
 have hs:x.length<=sizeLine:=JK s2 (by decide)
 by_cases hq:Pc.leaf x∈ps
 ·obtain ⟨i,hi,e⟩:=Lx hq
  have e':ps[i]? = some (.leaf x):=by rw [JY hi,e]
  exact ⟨i+1,ps,h,⟨ng S g.nodup hx hs e',⟨S,g,KN _,by lia,fun _ _=>rfl,rfl⟩,fun h2 ps2 S2 g2 p2=>ng S2 g2.nodup hx hs (dr p2 e'),fun _ f _=>f⟩,iz g e'⟩
 ·have g':Good (ps++[.leaf x]):=.snoc g hq hx
  have e':(ps++[Pc.leaf x])[ps.length]? = some (.leaf x):=by simp
  exact ⟨ps.length+1,_,_,⟨tQ S hx hs hq hz,⟨kO S,g',LI _ _,by simp,fun i hi=>mZ hi,pA _ _ _⟩,fun h2 ps2 S2 g2 p2=>ng S2 g2.nodup hx hs (dr p2 e'),fun M f hn=>yQ f (LI _ _) (by simp) hn⟩,iz g' e'⟩
theorem e7 {h:AH} {p:Nat} {ps:List Pc} {a b:Nat} {ma mb fa la fb lb:Ms} {x y:Str} (S:ShelfAt h p ps) (g:Good ps) (A:Tx ps a ma x fa la) (B:Tx ps b mb y fb lb) (hc:8<la.sg+fb.sg) (v1 : -1<=ma.ht-mb.ht) (v2:ma.ht-mb.ht<=1) (hm:ma.sg+mb.sg<=1000000000000000000) (hz:ps.length<16000000) :
  ∃ (n:Nat) (ps':List Pc) (h':AH),Dn (aS [.ref p,.int a,.int b]) p h h' ps ps' 1 n/\Tx ps' n (jV ma mb) (x++y) fa lb:=by
 have F:ForkOk ps a b:=⟨A.n1,B.n1,ma,mb,la,fb,A.ms,B.ms,A.ky.ll,B.ky.fl,hc,by lia,hm⟩
 by_cases hq:Pc.fork a b∈ps
 ·obtain ⟨i,hi,e⟩:=Lx hq
  have e':ps[i]? = some (.fork a b):=by rw [JY hi,e]
  exact ⟨i+1,ps,h,⟨pC S g.nodup F e',⟨S,g,KN _,by lia,fun _ _=>rfl,rfl⟩,fun h2 ps2 S2 g2 p2=>pC S2 g2.nodup (F.pre p2) (dr p2 e'),fun _ f _=>f⟩,jW g e' A B⟩
 ·have g':Good (ps++[.fork a b]):=.snoc g hq F
  have e':(ps++[Pc.fork a b])[ps.length]? = some (.fork a b):=by simp
  have pr:ps <+: ps++[Pc.fork a b]:=LI _ _
  exact ⟨ps.length+1,_,_,⟨yG S F hq hz,⟨kO S,g',pr,by simp,fun i hi=>mZ hi,pA _ _ _⟩,fun h2 ps2 S2 g2 p2=>pC S2 g2.nodup (F.pre (pr.trans p2)) (dr p2 e'),fun M f hn=>yQ f pr (by simp) hn⟩,jW g' e' (A.pre pr) (B.pre pr)⟩
theorem e8 (ma mb:Ms):(jV ma mb).sg=ma.sg+mb.sg:=rfl
theorem bQ (ma mb:Ms):(jV ma mb).ht=max ma.ht mb.ht+1:=rfl
theorem i1 (s:Str) (a b:Int) (h:AH):au (.tup [.str s,.int a,.int b]) (.int 1) h = .ok (.int a) h:=rfl
theorem i2 (s:Str) (a b:Int) (h:AH):au (.tup [.str s,.int a,.int b]) (.int 2) h = .ok (.int b) h:=rfl
theorem fQ {h:AH} {p:Nat} {ps:List Pc} {n a b:Nat} (S:ShelfAt h p ps) (n1:1<=n) (e:ps[n-1]? = some (.fork a b)):bS [.ref p,.int n] h = .ok (.tup [.str "fork",.int a,.int b]) h:=kS S n1 e
theorem tW {h:AH} {p:Nat} {ps:List Pc} {a b:Nat} {ma mb:Ms} (S:ShelfAt h p ps) (ea:(meas ps)[a]? = some ma) (eb:(meas ps)[b]? = some mb) (hd:mb.ht-ma.ht<2) :
  fi [.ref p,.int a,.int b] h=aS [.ref p,.int a,.int b] h:=by
 have f1:=cK S ea
 have f2:=cK S eb
 generalize hF:aS [.ref p,.int a,.int b] h=R
 simp [fi,S.ob,f1,f2,hd,hF]
 cases R<;>rfl
theorem tX {h:AH} {p:Nat} {ps:List Pc} {a b c d:Nat} {ma mb mc md:Ms} (S:ShelfAt h p ps) (b1:1<=b) (ea:(meas ps)[a]? = some ma) (eb:(meas ps)[b]? = some mb) (e:ps[b-1]? = some (.fork c d)) (ec:(meas ps)[c]? = some mc) (ed:(meas ps)[d]? = some md) (hd : ¬ mb.ht-ma.ht<2) (hh:mc.ht<=md.ht) :
  fi [.ref p,.int a,.int b] h=(aS [.ref p,.int a,.int c] h).bind fun v h1=>aS [.ref p,v,.int d] h1:=by
 have f1:=cK S ea
 have f2:=cK S eb
 have f3:=fQ S b1 e
 have f4:=cK S ec
 have f5:=cK S ed
 generalize hF:aS [.ref p,.int a,.int c] h=R
 simp [fi,S.ob,f1,f2,hd,f3,i1,i2,f4,f5,hh,hF,-au]
 cases R with
 | ok v h1=>dsimp only;cases aS [.ref p,v,.int d] h1<;>rfl
 | ex c h1=>rfl
 | bad=>rfl
def cP (p:Nat) (F:AH->Out AV) (h:AH):Out AV:=match h[p]? with
 | some (.ins c' _)=>if c'=0 then F h else .bad
 | _=>.bad
theorem yS {h:AH} {p:Nat} {ps:List Pc} (S:ShelfAt h p ps) (F:AH->Out AV):cP p F h=F h:=by simp [cP,S.ob]
theorem tY {h:AH} {p:Nat} {ps:List Pc} {a b c d i j:Nat} {ma mb mc md:Ms} (S:ShelfAt h p ps) (b1:1<=b) (c1:1<=c) (ea:(meas ps)[a]? = some ma) (eb:(meas ps)[b]? = some mb) (e:ps[b-1]? = some (.fork c d)) (ec:(meas ps)[c]? = some mc) (ed:(meas ps)[d]? = some md) (e2:ps[c-1]? = some (.fork i j)) (hd : ¬ mb.ht-ma.ht<2) (hh : ¬ mc.ht<=md.ht) :
  fi [.ref p,.int a,.int b] h=(aS [.ref p,.int a,.int i] h).bind fun v h1=>(cP p (aS [.ref p,.int j,.int d]) h1).bind fun w h2=>aS [.ref p,v,w] h2:=by
 have f1:=cK S ea
 have f2:=cK S eb
 have f3:=fQ S b1 e
 have f4:=cK S ec
 have f5:=cK S ed
 have f6:=fQ S c1 e2
 generalize hF:aS [.ref p,.int a,.int i] h=R
 simp [fi,S.ob,f1,f2,hd,f3,i1,i2,f4,f5,hh,f6,hF,-au]
 cases R with
 | ok v h1 =>
  unfold cP
  dsimp only
  cases hx:h1[p]? with
  | none=>rfl
  | some o =>
   cases o with
   | lst l=>rfl
   | dct q l=>rfl
   | dcx l=>rfl
   | ins c' l =>
    dsimp only
    by_cases z:c'=0
    ·rw [JJ z]
     cases aS [.ref p,.int j,.int d] h1 with
     | ok w h2=>dsimp only;cases aS [.ref p,v,w] h2<;>rfl
     | ex c h2=>rfl
     | bad=>rfl
    ·rw [JM z]
 | ex c h1=>rfl
 | bad=>rfl
theorem tZ {a b m:Int} (h1 : -1<=b-a) (h2:b-a<2) (e:m=max a b+1):max a b<=m/\m<=max a b+1/\(b-a<=1->m=max a b+1):=by (clear h2 h1;lia)
theorem lA8 {a b c d i j:Int} (ht:b=max c d+1) (ht2:c=max i j+1) (w1 : -1<=c-d) (w2:c-d<=1) (v2:b-a<=2) (q : ¬ b-a<2) (r : ¬ c<=d):max a b<=max (max a i+1) (max j d+1)+1/\max (max a i+1) (max j d+1)+1<=max a b+1/\(b-a<=1->max (max a i+1) (max j d+1)+1=max a b+1):=by
 have hi:=Int.le_max_left i j
 have hj:=Int.le_max_right i j
 generalize max i j=k at *
 rw [Int.max_eq_left (show d<=c by lia)] at ht
 rw [Int.max_eq_left (show i<=a by (clear hj r q w2 w1;lia)),Int.max_eq_right (show j<=d by (clear hi r q v2 w1 ht;lia)),Int.max_eq_right (show a<=b by (clear hj hi ht2 r v2 w2 w1 ht;lia)),Int.max_eq_left (show d+1<=a+1 by (clear hj hi ht2 q w2;lia))];(clear hj hi ht2 r w2 w1 ht;omega)
theorem lB8 {a b c d i j:Int} (ht:a=max c d+1) (ht2:d=max i j+1) (w1 : -1<=c-d) (w2:c-d<=1) (v2:a-b<=2) (q : ¬ a-b<2) (r : ¬ d<=c):max a b<=max (max c i+1) (max j b+1)+1/\max (max c i+1) (max j b+1)+1<=max a b+1/\(a-b<=1->max (max c i+1) (max j b+1)+1=max a b+1):=by
 have hi:=Int.le_max_left i j
 have hj:=Int.le_max_right i j
 generalize max i j=k at *
 rw [Int.max_eq_right (show c<=d by lia)] at ht
 rw [Int.max_eq_left (show i<=c by (clear hj r q v2 w2 ht;lia)),Int.max_eq_right (show j<=b by (clear hi r q w2 w1;lia)),Int.max_eq_left (show b<=a by (clear hj hi ht2 r v2 w2 w1 ht;lia)),Int.max_eq_left (show b+1<=c+1 by (clear hj hi ht2 r v2 w2;lia))];(clear hj hi ht2 v2 w2;lia)
theorem mxe (a b:Int):a<=max a b/\b<=max a b/\(max a b=a\/max a b=b):=by lia
theorem lC8 {a b c e m n:Int} (hh:a=max c e+1) (w1 : -1<=c-e) (w2:c-e<=1) (q:1<a-b) (u1:max e b<=m) (u2:m<=max e b+1) (u3:max c m<=n) (u4:n<=max c m+1) (u5:m-c<=1->n=max c m+1):max a b<=n/\n<=max a b+1:=by
 obtain ⟨x1,x2,x3⟩:=mxe c e
 obtain ⟨y1,y2,y3⟩:=mxe c m
 generalize max c e=k at *
 generalize max c m=l at *
 rw [Int.max_eq_left (show b<=e by lia)] at u1 u2
 rw [Int.max_eq_left (show b<=a by lia)]
 (clear x1 q;omega)
theorem lD8 {a b c e m n:Int} (hh:b=max c e+1) (w1 : -1<=c-e) (w2:c-e<=1) (q:a-b < -1) (u1:max a c<=m) (u2:m<=max a c+1) (u3:max m e<=n) (u4:n<=max m e+1) (u5:m-e<=1->n=max m e+1):max a b<=n/\n<=max a b+1:=by
 obtain ⟨x1,x2,x3⟩:=mxe c e
 obtain ⟨y1,y2,y3⟩:=mxe m e
 generalize max c e=k at *
 generalize max m e=l at *
 rw [Int.max_eq_right (show a<=c by lia)] at u1 u2
 rw [Int.max_eq_right (show a<=b by lia)]
 (clear x2 q;omega)
theorem yT {h:AH} {p:Nat} {ps:List Pc} {a b:Nat} {ma mb fa la fb lb:Ms} {x y:Str} (S:ShelfAt h p ps) (g:Good ps) (A:Tx ps a ma x fa la) (B:Tx ps b mb y fb lb) (hc:8<la.sg+fb.sg) (v1 : -1<=mb.ht-ma.ht) (v2:mb.ht-ma.ht<=2) (hm:ma.sg+mb.sg<=1000000000000000000) (hz:ps.length+3<16000000) :
  ∃ (n:Nat) (ps':List Pc) (h':AH) (m:Ms),Dn (fi [.ref p,.int a,.int b]) p h h' ps ps' 3 n/\Tx ps' n m (x++y) fa lb/\max ma.ht mb.ht<=m.ht/\m.ht<=max ma.ht mb.ht+1/\(mb.ht-ma.ht<=1->m.ht=max ma.ht mb.ht+1):=by
 by_cases q:mb.ht-ma.ht<2
 ·obtain ⟨n,ps',h',d,T⟩:=e7 S g A B hc (by (clear hz hm v2 v1 hc B A g S;lia)) (by lia) hm (by lia)
  exact ⟨n,ps',h',_,d.as S g (fun hh pp S' _ pr=>tW S' (aV pr A.ms) (aV pr B.ms) q) (by lia),T,tZ v1 q (bQ ma mb)⟩
 ·obtain ⟨c,d,mc,md,y1,y2,lc,fd,e,C,D,rfl,em,w1,w2,w3⟩:=g.cut B (by have:=A.ky.ht;(clear hz hm v2 v1 hc B A g S;omega))
  have sg:=congrArg Ms.sg em
  have ht:=congrArg Ms.ht em
  rw [e8] at sg
  rw [bQ] at ht
  by_cases r:mc.ht<=md.ht
  ·obtain ⟨n1,ps1,h1,d1,T1⟩:=e7 S g A C hc (by (clear sg w3 w2 w1 em B D C e q hz hm v1 hc A g S;lia)) (by (clear sg w3 w2 em B D C e hz hm v2 v1 hc A g S;lia)) (by lia) (by lia)
   obtain ⟨n2,ps2,h2,d2,T2⟩:=e7 d1.dd.sh d1.dd.gd T1 (D.pre d1.dd.pre) w3 (by rw [bQ];(clear T1 d1 r ht sg w3 w2 em B D C e q hz hm v2 v1 hc A g S;lia)) (by rw [bQ];(clear T1 d1 sg w3 w2 w1 em B D C e hz hm v2 v1 hc A g S;lia)) (by rw [e8];lia) (by have:=d1.dd.len;lia)
   rw [c8] at T2
   refine ⟨n2,ps2,h2,_,Dn.seq S g d1 d2 (fun hh pp S' _ pr=>tX S' B.n1 (aV pr A.ms) (aV pr B.ms) (dr pr e) (aV pr C.ms) (aV pr D.ms) q r) (by lia) (fo T1.ms T2.ms (Lf _ _)),T2,?_⟩
   rw [bQ,bQ];(clear T2 d2 T1 d1 sg w3 w2 w1 em B D C hz v1 hc A g S;lia)
  ·obtain ⟨i,j,mi,mj,z1,z2,li,fj,e2,I,J,rfl,em2,u1,u2,u3⟩:=g.cut C (by have:=D.ky.ht;(clear ht sg w3 w2 w1 em B D C e q hz hm v2 v1 hc A g S;lia))
   have sg2:=congrArg Ms.sg em2
   have ht2:=congrArg Ms.ht em2
   rw [e8] at sg2
   rw [bQ] at ht2
   obtain ⟨n1,ps1,h1,d1,T1⟩:=e7 S g A I hc (by (clear sg2 u3 u2 em2 B C J I e2 sg w3 w1 em D q hz hm v1 hc A g S;lia)) (by (clear sg2 u3 u2 em2 B C J I e2 sg w3 w1 em D hz hm v2 v1 hc A g S;(clear w2 e;lia))) (by lia) (by lia)
   obtain ⟨n2,ps2,h2,d2,T2⟩:=e7 d1.dd.sh d1.dd.gd (J.pre d1.dd.pre) (D.pre d1.dd.pre) w3 (by (clear T1 d1 sg2 u3 u1 em2 B C J I e2 ht sg w3 w2 w1 em D e q hz hm v2 v1 hc A g S;lia)) (by (clear T1 d1 sg2 u3 u2 u1 em2 B C J I e2 r ht sg w3 w1 em D e q hz hm v2 v1 hc A g S;lia)) (by lia) (by have:=d1.dd.len;lia)
   obtain ⟨n3,ps3,h3,d3,T3⟩:=e7 d2.dd.sh d2.dd.gd (T1.pre d2.dd.pre) T2 u3 (by rw [bQ,bQ];(clear T2 d2 T1 d1 sg2 u3 u2 em2 B C J I sg w3 w1 em D q hz hm v1 hc A g S;lia)) (by rw [bQ,bQ];(clear T2 d2 T1 d1 sg2 u3 u1 em2 B C J I sg w3 w1 em D hz hm v2 v1 hc A g S;lia)) (by rw [e8,e8];lia) (by have:=d1.dd.len;have:=d2.dd.len;lia)
   have d2':Dn (cP p (aS [.ref p,.int j,.int d])) p h1 h2 ps1 ps2 1 n2:=d2.as d1.dd.sh d1.dd.gd (fun hh pp S' _ _=>yS S' _) (JE _)
   have d23:=Dn.seq (F:=fun h1=>(cP p (aS [.ref p,.int j,.int d]) h1).bind fun w h2=>aS [.ref p,.int n1,w] h2) (F2:=fun w h2=>aS [.ref p,.int n1,w] h2) d1.dd.sh d1.dd.gd d2' d3 (fun _ _ _ _ _=>rfl) (k:=2) (by lia) (fo T2.ms T3.ms (Mh _ _))
   have ea:(x++z1)++(z2++y2)=x++(z1++z2++y2):=by rw [c8,c8]
   rw [ea] at T3
   refine ⟨n3,ps3,h3,_,Dn.seq (F2:=fun v h1=>(cP p (aS [.ref p,.int j,.int d]) h1).bind fun w h2=>aS [.ref p,v,w] h2) S g d1 d23 (fun hh pp S' _ pr=>tY S' B.n1 C.n1 (aV pr A.ms) (aV pr B.ms) (dr pr e) (aV pr C.ms) (aV pr D.ms) (dr pr e2) q r) (by lia) (fo T1.ms T3.ms (Lf _ _)),T3,?_⟩
   rw [bQ,bQ,bQ];exact lA8 ht ht2 w1 w2 v2 q r
theorem t4 {h:AH} {p:Nat} {ps:List Pc} {a b:Nat} {ma mb:Ms} (S:ShelfAt h p ps) (ea:(meas ps)[a]? = some ma) (eb:(meas ps)[b]? = some mb) (hd:ma.ht-mb.ht<2) :
  gu [.ref p,.int a,.int b] h=aS [.ref p,.int a,.int b] h:=by
 have f1:=cK S ea
 have f2:=cK S eb
 generalize hF:aS [.ref p,.int a,.int b] h=R
 simp [gu,S.ob,f1,f2,hd,hF]
 cases R<;>rfl
theorem t5 {h:AH} {p:Nat} {ps:List Pc} {a b c d:Nat} {ma mb mc md:Ms} (S:ShelfAt h p ps) (a1:1<=a) (ea:(meas ps)[a]? = some ma) (eb:(meas ps)[b]? = some mb) (e:ps[a-1]? = some (.fork c d)) (ec:(meas ps)[c]? = some mc) (ed:(meas ps)[d]? = some md) (hd : ¬ ma.ht-mb.ht<2) (hh:md.ht<=mc.ht) :
  gu [.ref p,.int a,.int b] h=(aS [.ref p,.int d,.int b] h).bind fun v h1=>aS [.ref p,.int c,v] h1:=by
 have f1:=cK S ea
 have f2:=cK S eb
 have f3:=fQ S a1 e
 have f4:=cK S ec
 have f5:=cK S ed
 generalize hF:aS [.ref p,.int d,.int b] h=R
 simp [gu,S.ob,f1,f2,hd,f3,i1,i2,f4,f5,hh,hF,-au]
 cases R with
 | ok v h1=>dsimp only;cases aS [.ref p,.int c,v] h1<;>rfl
 | ex c h1=>rfl
 | bad=>rfl
theorem t6 {h:AH} {p:Nat} {ps:List Pc} {a b c d i j:Nat} {ma mb mc md:Ms} (S:ShelfAt h p ps) (a1:1<=a) (d1:1<=d) (ea:(meas ps)[a]? = some ma) (eb:(meas ps)[b]? = some mb) (e:ps[a-1]? = some (.fork c d)) (ec:(meas ps)[c]? = some mc) (ed:(meas ps)[d]? = some md) (e2:ps[d-1]? = some (.fork i j)) (hd : ¬ ma.ht-mb.ht<2) (hh : ¬ md.ht<=mc.ht) :
  gu [.ref p,.int a,.int b] h=(aS [.ref p,.int c,.int i] h).bind fun v h1=>(cP p (aS [.ref p,.int j,.int b]) h1).bind fun w h2=>aS [.ref p,v,w] h2:=by
 have f1:=cK S ea
 have f2:=cK S eb
 have f3:=fQ S a1 e
 have f4:=cK S ec
 have f5:=cK S ed
 have f6:=fQ S d1 e2
 generalize hF:aS [.ref p,.int c,.int i] h=R
 simp [gu,S.ob,f1,f2,hd,f3,i1,i2,f4,f5,hh,f6,hF,-au]
 cases R with
 | ok v h1 =>
  unfold cP
  dsimp only
  cases hx:h1[p]? with
  | none=>rfl
  | some o =>
   cases o with
   | lst l=>rfl
   | dct q l=>rfl
   | dcx l=>rfl
   | ins c' l =>
    dsimp only
    by_cases z:c'=0
    ·rw [JJ z]
     cases aS [.ref p,.int j,.int b] h1 with
     | ok w h2=>dsimp only;cases aS [.ref p,v,w] h2<;>rfl
     | ex c h2=>rfl
     | bad=>rfl
    ·rw [JM z]
 | ex c h1=>rfl
 | bad=>rfl
theorem Gj {h:AH} {p:Nat} {ps:List Pc} {a b:Nat} {ma mb fa la fb lb:Ms} {x y:Str} (S:ShelfAt h p ps) (g:Good ps) (A:Tx ps a ma x fa la) (B:Tx ps b mb y fb lb) (hc:8<la.sg+fb.sg) (v1 : -1<=ma.ht-mb.ht) (v2:ma.ht-mb.ht<=2) (hm:ma.sg+mb.sg<=1000000000000000000) (hz:ps.length+3<16000000) :
  ∃ (n:Nat) (ps':List Pc) (h':AH) (m:Ms),Dn (gu [.ref p,.int a,.int b]) p h h' ps ps' 3 n/\Tx ps' n m (x++y) fa lb/\max ma.ht mb.ht<=m.ht/\m.ht<=max ma.ht mb.ht+1/\(ma.ht-mb.ht<=1->m.ht=max ma.ht mb.ht+1):=by
 by_cases q:ma.ht-mb.ht<2
 ·obtain ⟨n,ps',h',d,T⟩:=e7 S g A B hc (by omega) (by (clear hz hm v2 v1 hc B A g S;lia)) hm (by lia)
  refine ⟨n,ps',h',_,d.as S g (fun hh pp S' _ pr=>t4 S' (aV pr A.ms) (aV pr B.ms) q) (by lia),T,?_⟩
  rw [bQ];lia
 ·obtain ⟨c,d,mc,md,y1,y2,lc,fd,e,C,D,rfl,em,w1,w2,w3⟩:=g.cut A (by have:=B.ky.ht;(clear hz hm v2 v1 hc B A g S;omega))
  have sg:=congrArg Ms.sg em
  have ht:=congrArg Ms.ht em
  rw [e8] at sg
  rw [bQ] at ht
  by_cases r:md.ht<=mc.ht
  ·obtain ⟨n1,ps1,h1,d1,T1⟩:=e7 S g D B hc (by (clear r sg w3 w1 em A D C e hz hm v2 v1 hc B g S;lia)) (by (clear r sg w3 w1 em A D C e q hz hm v1 hc B g S;(clear w2;lia))) (by lia) (by lia)
   obtain ⟨n2,ps2,h2,d2,T2⟩:=e7 d1.dd.sh d1.dd.gd (C.pre d1.dd.pre) T1 w3 (by rw [bQ];(clear T1 d1 sg w3 w2 w1 em A D C hz hm v2 v1 hc B g S;lia)) (by rw [bQ];lia) (by rw [e8];lia) (by have:=d1.dd.len;lia)
   rw [<- c8] at T2
   refine ⟨n2,ps2,h2,_,Dn.seq (F2:=fun v h1=>aS [.ref p,.int c,v] h1) S g d1 d2 (fun hh pp S' _ pr=>t5 S' A.n1 (aV pr A.ms) (aV pr B.ms) (dr pr e) (aV pr C.ms) (aV pr D.ms) q r) (by lia) (fo T1.ms T2.ms (Mh _ _)),T2,?_⟩
   rw [bQ,bQ];(clear T2 d2 T1 d1 r sg w3 w1 em A D C e hz hm v1 hc B g S;lia)
  ·obtain ⟨i,j,mi,mj,z1,z2,li,fj,e2,I,J,rfl,em2,u1,u2,u3⟩:=g.cut D (by have:=C.ky.ht;(clear ht sg w3 w2 w1 em A D C e q hz hm v2 v1 hc B g S;lia))
   have sg2:=congrArg Ms.sg em2
   have ht2:=congrArg Ms.ht em2
   rw [e8] at sg2
   rw [bQ] at ht2
   obtain ⟨n1,ps1,h1,d1,T1⟩:=e7 S g C I w3 (by (clear sg2 u3 u2 em2 A D J I e2 r ht sg w3 w2 em C e q hz hm v2 v1 hc B g S;lia)) (by (clear sg2 u3 u2 em2 A D J I e2 ht sg w3 w2 w1 em C e q hz hm v2 v1 hc B g S;lia)) (by lia) (by lia)
   obtain ⟨n2,ps2,h2,d2,T2⟩:=e7 d1.dd.sh d1.dd.gd (J.pre d1.dd.pre) (B.pre d1.dd.pre) hc (by (clear T1 d1 sg2 u3 u1 em2 A D J I e2 sg w3 w2 em C e hz hm v2 v1 hc B g S;lia)) (by (clear T1 d1 sg2 u3 u2 u1 em2 A D J I e2 sg w3 w2 em C e q hz hm v1 hc B g S;lia)) (by lia) (by have:=d1.dd.len;lia)
   obtain ⟨n3,ps3,h3,d3,T3⟩:=e7 d2.dd.sh d2.dd.gd (T1.pre d2.dd.pre) T2 u3 (by rw [bQ,bQ];(clear T2 d2 T1 d1 sg2 u3 u2 em2 A D J I sg w3 w2 em C hz hm v2 v1 hc B g S;lia)) (by rw [bQ,bQ];(clear T2 d2 T1 d1 ht2 sg2 u3 u1 em2 A D J I e2 sg w3 w2 em C e q hz hm v1 hc B g S;lia)) (by rw [e8,e8];lia) (by have:=d1.dd.len;have:=d2.dd.len;lia)
   have d2':Dn (cP p (aS [.ref p,.int j,.int b])) p h1 h2 ps1 ps2 1 n2:=d2.as d1.dd.sh d1.dd.gd (fun hh pp S' _ _=>yS S' _) (JE _)
   have d23:=Dn.seq (F:=fun h1=>(cP p (aS [.ref p,.int j,.int b]) h1).bind fun w h2=>aS [.ref p,.int n1,w] h2) (F2:=fun w h2=>aS [.ref p,.int n1,w] h2) d1.dd.sh d1.dd.gd d2' d3 (fun _ _ _ _ _=>rfl) (k:=2) (by lia) (fo T2.ms T3.ms (Mh _ _))
   have ea:(y1++z1)++(z2++y)=y1++(z1++z2)++y:=by rw [c8,c8,c8]
   rw [ea] at T3
   refine ⟨n3,ps3,h3,_,Dn.seq (F2:=fun v h1=>(cP p (aS [.ref p,.int j,.int b]) h1).bind fun w h2=>aS [.ref p,v,w] h2) S g d1 d23 (fun hh pp S' _ pr=>t6 S' A.n1 D.n1 (aV pr A.ms) (aV pr B.ms) (dr pr e) (aV pr C.ms) (aV pr D.ms) (dr pr e2) q r) (by lia) (fo T1.ms T3.ms (Lf _ _)),T3,?_⟩
   rw [bQ,bQ,bQ];exact lB8 ht ht2 w1 w2 v2 q r
end Sk
namespace Sk
open PySem PySem.Spec L2 Sm
theorem Dn.seq' {F F1 F2:AH->Out AV} {p:Nat} {h h1 h2:AH} {ps ps1 ps2:List Pc} {k1 k2 k n1 n2:Nat} (S:ShelfAt h p ps) (g:Good ps) (d1:Dn F1 p h h1 ps ps1 k1 n1) (d2:Dn F2 p h1 h2 ps1 ps2 k2 n2)
  (eq:∀ hh hh1 pp,ShelfAt hh p pp->Good pp->ps <+: pp->F1 hh = .ok (.int n1) hh1->F hh=F2 hh1) (hk:k1+k2<=k) (pt:∀ M,(∀ m,(meas ps2)[n2]? = some m->m.sg<=M)->∀ m,(meas ps1)[n1]? = some m->m.sg<=M):Dn F p h h2 ps ps2 k n2:=by
 refine ⟨?_,d1.dd.trans d2.dd hk,fun h3 ps3 S3 g3 p3=>?_,fun M f hn=>d2.al M (d1.al M f (pt M hn)) hn⟩
 ·rw [eq h h1 ps S g (KN _) d1.ev];exact d2.ev
 ·rw [eq h3 h3 ps3 S3 g3 (d1.dd.pre.trans (d2.dd.pre.trans p3)) (d1.re h3 ps3 S3 g3 (d2.dd.pre.trans p3))]
  exact d2.re h3 ps3 S3 g3 p3
theorem t8 {h:AH} {p:Nat} {ps:List Pc} {a b d:Nat} {ma mb:Ms} (S:ShelfAt h p ps) (ea:(meas ps)[a]? = some ma) (eb:(meas ps)[b]? = some mb) (h1:ma.ht-mb.ht<=1) (h2 : -1<=ma.ht-mb.ht) :
  d7 (d+1) [.ref p,.int a,.int b] h=aS [.ref p,.int a,.int b] h:=by
 have f1:=cK S ea
 have f2:=cK S eb
 have c1 : ¬ 1<ma.ht-mb.ht:=by lia
 have c2 : ¬ ma.ht-mb.ht < -1:=by lia
 generalize hF:aS [.ref p,.int a,.int b] h=R
 simp [d7,oW,S.ob,f1,f2,c1,c2,hF]
 cases R<;>rfl
theorem t9 {h h1:AH} {p:Nat} {ps:List Pc} {a b c e d:Nat} {v:Int} {ma mb:Ms} (S:ShelfAt h p ps) (a1:1<=a) (ea:(meas ps)[a]? = some ma) (eb:(meas ps)[b]? = some mb) (ep:ps[a-1]? = some (.fork c e)) (hd:1<ma.ht-mb.ht) (ev:d7 d [.ref p,.int e,.int b] h = .ok (.int v) h1) :
  d7 (d+1) [.ref p,.int a,.int b] h=fi [.ref p,.int c,.int v] h1:=by
 have f1:=cK S ea
 have f2:=cK S eb
 have f3:=fQ S a1 ep
 generalize hF:fi [.ref p,.int c,.int v] h1=R
 simp [d7,oW,S.ob,f1,f2,hd,f3,i1,i2,ev,hF,-au]
 cases R<;>rfl
theorem ua {h h1:AH} {p:Nat} {ps:List Pc} {a b c e d:Nat} {v:Int} {ma mb:Ms} (S:ShelfAt h p ps) (b1:1<=b) (ea:(meas ps)[a]? = some ma) (eb:(meas ps)[b]? = some mb) (ep:ps[b-1]? = some (.fork c e)) (hd:ma.ht-mb.ht < -1) (ev:d7 d [.ref p,.int a,.int c] h = .ok (.int v) h1) :
  d7 (d+1) [.ref p,.int a,.int b] h=gu [.ref p,.int v,.int e] h1:=by
 have f1:=cK S ea
 have f2:=cK S eb
 have f3:=fQ S b1 ep
 have c1 : ¬ 1<ma.ht-mb.ht:=by lia
 generalize hF:gu [.ref p,.int v,.int e] h1=R
 simp [d7,oW,S.ob,f1,f2,c1,hd,f3,i1,i2,ev,hF,-au]
 cases R<;>rfl
theorem pG {p:Nat}:∀ (d t:Nat) {h:AH} {ps:List Pc} {a b:Nat} {ma mb fa la fb lb:Ms} {x y:Str} (S:ShelfAt h p ps) (g:Good ps) (A:Tx ps a ma x fa la) (B:Tx ps b mb y fb lb) (hc:8<la.sg+fb.sg) (hm:ma.sg+mb.sg<=1000000000000000000)
  (ht:(ma.ht-mb.ht).natAbs<=t) (hd:t<d) (hz:ps.length+3*t+4<16000000),
  ∃ (n:Nat) (ps':List Pc) (h':AH) (m:Ms),Dn (d7 d [.ref p,.int a,.int b]) p h h' ps ps' (3*t+1) n/\Tx ps' n m (x++y) fa lb/\max ma.ht mb.ht<=m.ht/\m.ht<=max ma.ht mb.ht+1
 | 0,t,h,ps,a,b,ma,mb,fa,la,fb,lb,x,y,S,g,A,B,hc,hm,ht,hd,hz=>absurd hd (Mf t)
 | d+1,t,h,ps,a,b,ma,mb,fa,la,fb,lb,x,y,S,g,A,B,hc,hm,ht,hd,hz=>by
  by_cases q1:1<ma.ht-mb.ht
  ·obtain ⟨c,e,mc,me,y1,y2,lc,fe,ep,C,E,rfl,em,w1,w2,w3⟩:=g.cut A (by have:=B.ky.ht;(clear hz hd ht hm hc B A g S;lia))
   have sg:=congrArg Ms.sg em
   have hh:=congrArg Ms.ht em
   rw [e8] at sg
   rw [bQ] at hh
   obtain ⟨n1,ps1,h1,m1,d1,T1,u1,u2⟩:=pG d (t-1) S g E B hc (by lia) (by lia) (by lia) (by lia)
   have s1:m1.sg=me.sg+mb.sg:=by rw [T1.ky.sg,bY,<- E.ky.sg,<- B.ky.sg]
   obtain ⟨n2,ps2,h2,m2,d2,T2,u3,u4,u5⟩:=yT d1.dd.sh d1.dd.gd (C.pre d1.dd.pre) T1 w3 (by lia) (by (clear s1 u1 T1 sg w3 w2 em A E C hz hd hm hc B g S;lia)) (by lia) (by have:=d1.dd.len;lia)
   rw [<- c8] at T2
   exact ⟨n2,ps2,h2,m2,Dn.seq' S g d1 d2 (fun hh hh1 pp S' _ pr ev=>t9 S' A.n1 (aV pr A.ms) (aV pr B.ms) (dr pr ep) q1 ev) (by lia) (fo T1.ms T2.ms (by rw [T1.ky.sg,T2.ky.sg];simp only [bY];lia)),T2,lC8 hh w1 w2 q1 u1 u2 u3 u4 u5⟩
  ·by_cases q2:ma.ht-mb.ht < -1
   ·obtain ⟨c,e,mc,me,y1,y2,lc,fe,ep,C,E,rfl,em,w1,w2,w3⟩:=g.cut B (by have:=A.ky.ht;(clear q1 hz hd ht hm hc B A g S;lia))
    have sg:=congrArg Ms.sg em
    have hh:=congrArg Ms.ht em
    rw [e8] at sg
    rw [bQ] at hh
    obtain ⟨n1,ps1,h1,m1,d1,T1,u1,u2⟩:=pG d (t-1) S g A C hc (by lia) (by (clear w3 w2 em B E C ep q1 hz hd hm hc A g S;lia)) (by lia) (by lia)
    have s1:m1.sg=ma.sg+mc.sg:=by rw [T1.ky.sg,bY,<- A.ky.sg,<- C.ky.sg]
    obtain ⟨n2,ps2,h2,m2,d2,T2,u3,u4,u5⟩:=Gj d1.dd.sh d1.dd.gd T1 (E.pre d1.dd.pre) w3 (by lia) (by (clear s1 u1 T1 sg w3 w1 em B E C q1 hz hd hm hc A g S;lia)) (by lia) (by have:=d1.dd.len;lia)
    rw [c8] at T2
    exact ⟨n2,ps2,h2,m2,Dn.seq' S g d1 d2 (fun hh hh1 pp S' _ pr ev=>ua S' B.n1 (aV pr A.ms) (aV pr B.ms) (dr pr ep) q2 ev) (by lia) (fo T1.ms T2.ms (by rw [T1.ky.sg,T2.ky.sg];simp only [bY];lia)),T2,lD8 hh w1 w2 q2 u1 u2 u3 u4 u5⟩
   ·obtain ⟨n,ps',h',dn,T⟩:=e7 S g A B hc (by (clear q1 hz hd ht hm hc B A g S;lia)) (by lia) hm (by lia)
    exact ⟨n,ps',h',_,dn.as S g (fun hh pp S' _ pr=>t8 S' (aV pr A.ms) (aV pr B.ms) (by lia) (by lia)) (by lia),T,by rw [bQ];lia,by rw [bQ];lia⟩
theorem nu {h:AH} {p:Nat} {ps:List Pc} {n:Nat} {x:Str} (S:ShelfAt h p ps) (n1:1<=n) (e:ps[n-1]? = some (.leaf x)):bS [.ref p,.int n] h = .ok (.tup [.str "leaf",.str x]) h:=kS S n1 e
theorem i6 (x:Str) (h:AH):au (.tup [.str "leaf",.str x]) (.int 0) h = .ok (.str "leaf") h:=rfl
theorem iC (a b:Int) (h:AH):au (.tup [.str "fork",.int a,.int b]) (.int 0) h = .ok (.str "fork") h:=rfl
theorem nv (x:Str) (h:AH):au (.tup [.str "leaf",.str x]) (.int 1) h = .ok (.str x) h:=rfl
theorem kT (h:AH):aQ (.str "leaf") (.str "leaf") h = .ok (.bl true) h:=by simp
theorem jY (h:AH):aQ (.str "fork") (.str "leaf") h = .ok (.bl false) h:=by
 have : ¬ (Str.ofString "fork" = Str.ofString "leaf"):=by decide +kernel
 simp [this]
theorem ub {h:AH} {p:Nat} {ps:List Pc} {a d:Nat} {L:Int} {x:Str} (S:ShelfAt h p ps) (a1:1<=a) (ep:ps[a-1]? = some (.leaf x)):fO (d+1) [.ref p,.int a,.int L] h = .ok (.int L) h:=by
 simp [fO,tD,S.ob,nu S a1 ep,i6,kT,-au,-aQ]
theorem uc {h h1:AH} {p:Nat} {ps:List Pc} {a d c e:Nat} {L v:Int} (S:ShelfAt h p ps) (a1:1<=a) (ep:ps[a-1]? = some (.fork c e)) (ev:fO d [.ref p,.int e,.int L] h = .ok (.int v) h1) :
  fO (d+1) [.ref p,.int a,.int L] h=aS [.ref p,.int c,.int v] h1:=by
 generalize hF:aS [.ref p,.int c,.int v] h1=R
 simp [fO,tD,S.ob,fQ S a1 ep,iC,i1,i2,jY,ev,hF,-au,-aQ]
 cases R<;>rfl
theorem pH {ps:List Pc} {n:Nat} {m:Ms} {x:Str} {f l:Ms} (T:Tx ps n m x f l) (e:m=bq x n):f=m/\l=m:=by
 have h1:=T.ky.fl
 have h2:=T.ky.ll
 have h3:=T.ms
 rw [e] at h1 h2
 exact ⟨Ks (h1.symm.trans h3),Ks (h2.symm.trans h3)⟩
theorem yU {p:Nat}:∀ (d:Nat) {h:AH} {ps:List Pc} {a L:Nat} {m f l:Ms} {x w:Str} (S:ShelfAt h p ps) (g:Good ps) (T:Tx ps a m x f l) (N:Tx ps L (bq w L) w (bq w L) (bq w L)) (hw:l.sg<=w.length) (hm:m.sg+w.length<=1000000000000000000+l.sg) (hd:m.ht.toNat<d) (hz:ps.length+m.ht.toNat<16000000),
  ∃ (n:Nat) (ps':List Pc) (h':AH) (m' f':Ms) (u v:Str),Dn (fO d [.ref p,.int a,.int L]) p h h' ps ps' m.ht.toNat n/\x=u++v/\v.length=l.sg/\Tx ps' n m' (u++w) f' (bq w L)/\m'.ht=m.ht/\f.sg<=f'.sg
 | 0,h,ps,a,L,m,f,l,x,w,S,g,T,N,hw,hm,hd,hz=>absurd hd (Mf _)
 | d+1,h,ps,a,L,m,f,l,x,w,S,g,T,N,hw,hm,hd,hz=>by
  by_cases q:0<m.ht
  ·obtain ⟨c,e,mc,me,y1,y2,lc,fe,ep,C,E,rfl,em,w1,w2,w3⟩:=g.cut T q
   have sg:=congrArg Ms.sg em
   have hh:=congrArg Ms.ht em
   rw [e8] at sg
   rw [bQ] at hh
   have c0:=C.ky.ht
   have e0:=E.ky.ht
   obtain ⟨n1,ps1,h1,m1,f1,u,v,d1,rfl,lv,T1,k1,k2⟩:=yU d S g E N hw (by lia) (by (clear e0 c0 sg w3 w2 w1 em T E C ep hz hm hw N g S;lia)) (by (clear e0 c0 sg w3 w2 w1 em T E C ep hd hm hw N g S;lia))
   have s1:m1.sg+l.sg=me.sg+w.length:=by rw [T1.ky.sg,E.ky.sg,bY,bY];lia
   obtain ⟨n2,ps2,h2,d2,T2⟩:=e7 d1.dd.sh d1.dd.gd (C.pre d1.dd.pre) T1 (by lia) (by lia) (by lia) (by lia) (by have:=d1.dd.len;(clear s1 k2 T1 lv T E d1 e0 c0 sg w3 w2 w1 em C ep hd hm hw N g S;lia))
   rw [<- c8] at T2
   exact ⟨n2,ps2,h2,_,f,y1++u,v,Dn.seq' S g d1 d2 (fun hh hh1 pp S' _ pr ev=>uc S' T.n1 (dr pr ep) ev) (by lia) (fo T1.ms T2.ms (Mh _ _)),by rw [c8],lv,T2,by rw [bQ,k1,hh],JE _⟩
  ·rcases g.kind T with ⟨e1,e2,e3,e4,e5⟩ | ⟨c,e,mc,me,y1,y2,fc,lc,fe,le,e1,e2,e3,C,E,e4,e5,e6⟩
   ·obtain ⟨z1,z2⟩:=pH T e3
    subst z1 z2
    have em:("" : Str)++x=x:=cX (by rw [dJ];rfl)
    have em2:("" : Str)++w=w:=cX (by rw [dJ];rfl)
    have dv:Dn (fO (d+1) [.ref p,.int a,.int L]) p h h ps ps 0 L:=Dn.val S g fun hh pp S' _ pr=>ub S' T.n1 (dr pr e1)
    refine ⟨L,ps,h,_,_, "",x,dv.as S g (fun _ _ _ _ _=>rfl) (Kk _),em.symm,T.ky.sg.symm,by rw [em2];exact N,e2.symm,hw⟩
   ·have:=congrArg Ms.ht e5
    rw [bQ] at this
    have c0:=C.ky.ht
    (clear e6 e5 e4 E C e3 e2 e1 hz hd hm hw N T g S;omega)
theorem ud {h:AH} {p:Nat} {ps:List Pc} {a d:Nat} {x:Str} (S:ShelfAt h p ps) (a1:1<=a) (ep:ps[a-1]? = some (.leaf x)):eI (d+1) [.ref p,.int a] h = .ok (.int (0:Nat)) h:=by
 simp [eI,oV,S.ob,nu S a1 ep,i6,kT,-au,-aQ]
theorem nA {h h1:AH} {p:Nat} {ps:List Pc} {a d c e:Nat} (S:ShelfAt h p ps) (a1:1<=a) (ep:ps[a-1]? = some (.fork c e)) (ev:eI d [.ref p,.int c] h = .ok (.int (0:Nat)) h1) :
  eI (d+1) [.ref p,.int a] h = .ok (.int e) h1:=by
 have z:aQ (.int 0) (.int 0) h1 = .ok (.bl true) h1:=by simp
 simp [eI,oV,S.ob,fQ S a1 ep,iC,i1,i2,jY,ev,z,-au,-aQ]
theorem ue {h h1:AH} {p:Nat} {ps:List Pc} {a d c e v:Nat} (S:ShelfAt h p ps) (a1:1<=a) (ep:ps[a-1]? = some (.fork c e)) (v1:1<=v) (ev:eI d [.ref p,.int c] h = .ok (.int v) h1) :
  eI (d+1) [.ref p,.int a] h=fi [.ref p,.int v,.int e] h1:=by
 have z:aQ (.int (v:Int)) (.int 0) h1 = .ok (.bl false) h1:=by
  have : ¬ (v=0):=by lia
  simp [this]
 generalize hF:fi [.ref p,.int v,.int e] h1=R
 simp [eI,oV,S.ob,fQ S a1 ep,iC,i1,i2,jY,ev,z,hF,-au,-aQ]
 cases R<;>rfl
end Sk
namespace Sk
open PySem PySem.Spec L2 Sm
theorem yV {p:Nat}:∀ (d:Nat) {h:AH} {ps:List Pc} {a:Nat} {m f l:Ms} {x:Str} (S:ShelfAt h p ps) (g:Good ps) (T:Tx ps a m x f l) (hd:m.ht.toNat<d) (hz:ps.length+3*m.ht.toNat<16000000),
  (m.ht=0/\f.sg=x.length/\Dn (eI d [.ref p,.int a]) p h h ps ps 0 0) \/
  (0<m.ht/\∃ (n:Nat) (ps':List Pc) (h':AH) (m' f2:Ms) (u v:Str),Dn (eI d [.ref p,.int a]) p h h' ps ps' (3*m.ht.toNat) n/\x=u++v/\u.length=f.sg/\Tx ps' n m' v f2 l/\m.ht-1<=m'.ht/\m'.ht<=m.ht/\8<f.sg+f2.sg)
 | 0,h,ps,a,m,f,l,x,S,g,T,hd,hz=>absurd hd (Mf _)
 | d+1,h,ps,a,m,f,l,x,S,g,T,hd,hz=>by
  by_cases q:0<m.ht
  ·obtain ⟨c,e,mc,me,y1,y2,lc,fe,ep,C,E,rfl,em,w1,w2,w3⟩:=g.cut T q
   have sg:=congrArg Ms.sg em
   have hh:=congrArg Ms.ht em
   rw [e8] at sg
   rw [bQ] at hh
   have c0:=C.ky.ht
   have e0:=E.ky.ht
   have most:=T.ky.most
   refine .inr ⟨q,?_⟩
   rcases yV d S g C (by (clear most e0 c0 sg w3 w2 w1 em T E C ep hz g S;lia)) (by (clear most e0 c0 sg w3 w2 w1 em T E C ep hd g S;lia)) with ⟨k1,k2,d1⟩ | ⟨k1,n1,ps1,h1,m1,f2,u,v,d1,rfl,lu,T1,r1,r2,r3⟩
   ·rcases g.kind C with ⟨e1,e2,e3,e4,e5⟩ | ⟨_,_,mx,my,_,_,_,_,_,_,_,_,_,X,Y,_,e5,_⟩
    ·obtain ⟨z1,z2⟩:=pH C e3
     have dv:Dn (eI (d+1) [.ref p,.int a]) p h h ps ps 0 e:=by
      refine ⟨nA S T.n1 ep d1.ev,Dd.refl S g,fun h3 ps3 S3 g3 p3=>nA S3 T.n1 (dr p3 ep) (d1.re h3 ps3 S3 g3 p3),fun _ f _=>f⟩
     exact ⟨e,ps,h,me,fe,y1,y2,dv.as S g (fun _ _ _ _ _=>rfl) (Kk _),rfl,k2.symm,E,by (clear dv z2 z1 e5 e4 e3 e2 e1 d1 k2 most c0 sg w3 w1 em T E C ep hz hd g S;(clear w2 q;lia)),by lia,by rw [z1];rw [z2] at w3;exact w3⟩
    ·have:=congrArg Ms.ht e5
     rw [bQ] at this
     have:=X.ky.ht
     (clear e5 Y X d1 k2 most e0 c0 hh sg w3 w2 w1 em T E C ep q hz hd g S;omega)
   ·have s1:m1.sg+f.sg=mc.sg:=by rw [T1.ky.sg,C.ky.sg,bY];lia
    obtain ⟨n2,ps2,h2,m2,d2,T2,u3,u4,u5⟩:=yT d1.dd.sh d1.dd.gd T1 (E.pre d1.dd.pre) w3 (by lia) (by lia) (by lia) (by have:=d1.dd.len;(clear s1 r3 r2 r1 T1 lu T C d1 most e0 c0 sg w3 w2 em E ep hd g S;lia))
    refine ⟨n2,ps2,h2,m2,f2,u,v++y2,Dn.seq' S g d1 d2 (fun hh hh1 pp S' _ pr ev=>ue S' T.n1 (dr pr ep) T1.n1 ev) (by (clear u5 u4 u3 T2 d2 s1 r3 r2 r1 T1 lu T C d1 most e0 c0 sg w3 w2 em E ep hz g S;lia)) (fo T1.ms T2.ms (by rw [T1.ky.sg,T2.ky.sg];simp only [bY];lia)),by rw [c8],lu,T2,?_,?_,r3⟩
    ·(clear u4 T2 d2 s1 r3 r2 T1 lu T C d1 k1 most e0 c0 sg w3 w1 em E q hz hd g S;lia)
    ·(clear u3 T2 d2 s1 r3 r1 T1 lu T C d1 k1 most e0 c0 sg w3 em E q hz g S;(clear w2 ep hd;(clear u5 w1;lia)))
  ·rcases g.kind T with ⟨e1,e2,e3,e4,e5⟩ | ⟨_,_,mx,my,_,_,_,_,_,_,_,_,_,X,Y,_,e5,_⟩
   ·obtain ⟨z1,z2⟩:=pH T e3
    exact .inl ⟨e2,by rw [z1];exact T.ky.sg,Dn.val S g fun hh pp S' _ pr=>ud S' T.n1 (dr pr e1)⟩
   ·have:=congrArg Ms.ht e5
    rw [bQ] at this
    have:=X.ky.ht
    lia
theorem Good.ends {ps:List Pc} (g:Good ps):∀ (k n:Nat) {m f l:Ms} {x:Str},n<=k->Tx ps n m x f l ->
  (∃ w u:Str,1<=m.fl/\ps[m.fl-1]? = some (.leaf w)/\x=w++u/\w.length=f.sg)/\(∃ w u:Str,1<=m.ll/\ps[m.ll-1]? = some (.leaf w)/\x=u++w/\w.length=l.sg)
 | 0,n,m,f,l,x,hn,T=>absurd T.n1 (by lia)
 | k+1,n,m,f,l,x,hn,T=>by
  rcases g.kind T with ⟨e1,e2,e3,e4,e5⟩ | ⟨a,b,ma,mb,y,z,fa,la,fb,lb,e1,e2,e3,A,B,rfl,e5,e6⟩
  ·obtain ⟨z1,z2⟩:=pH T e3
   have em:("" : Str)++x=x:=cX (by rw [dJ];rfl)
   have em2:x++("" : Str)=x:=cX (by rw [dJ];simp;rfl)
   have hf:m.fl=n:=by rw [e3];rfl
   have hl:m.ll=n:=by rw [e3];rfl
   have hx:=T.ky.sg
   refine ⟨⟨x, "",by rw [hf];exact T.n1,by rw [hf];exact e1,em2.symm,by rw [z1];exact hx.symm⟩,⟨x, "",by rw [hl];exact T.n1,by rw [hl];exact e1,em.symm,by rw [z2];exact hx.symm⟩⟩
  ·have q1:=g.ends k a (by lia) A
   have q2:=g.ends k b (by lia) B
   obtain ⟨⟨w,u,a1,a2,rfl,a4⟩,_⟩:=q1
   obtain ⟨_,⟨w2,u2,b1,b2,rfl,b4⟩⟩:=q2
   have f1:=T.ky.fl
   have l1:=T.ky.ll
   have hf:m.fl=ma.fl:=by rw [e5];rfl
   have hl:m.ll=mb.ll:=by rw [e5];rfl
   rw [hf] at f1
   rw [hl] at l1
   have z5:=f1.symm.trans A.ky.fl;cases z5
   have z6:=l1.symm.trans B.ky.ll;cases z6
   rw [hf,hl]
   exact ⟨⟨w,u++(u2++w2),a1,a2,by rw [c8],a4⟩,⟨w2,w++u++u2,b1,b2,by rw [c8 (w++u)],b4⟩⟩
theorem yW {a b c d:Str} (e:a++b=c++d) (h:a.length=c.length):a=c/\b=d:=by
 have:=congrArg (fun z:Str=>z.cps.toList) e
 simp only [dJ] at this
 obtain ⟨h1,h2⟩:=List.append_inj this (by rw [<- dP,<- dP];exact h)
 exact ⟨cX h1,cX h2⟩
theorem Gk {a b c d:Str} (e:a++b=c++d) (h:b.length=d.length):a=c/\b=d:=by
 refine yW e ?_
 have:=congrArg Str.length e
 rw [bY,bY] at this
 lia
theorem Gm {h:AH} {p:Nat} {ps:List Pc} {a b:Nat} {ma mb la fb:Ms} (S:ShelfAt h p ps) (ea:(meas ps)[a]? = some ma) (eb:(meas ps)[b]? = some mb) (el:(meas ps)[ma.ll]? = some la) (ef:(meas ps)[mb.fl]? = some fb) :
  oU [.ref p,.int a,.int b] h = .ok (.bl (decide (8<la.sg+fb.sg))) h:=by
 have e1:=yO S ea
 have e2:=yN S eb
 have e3:=iA S el
 have e4:=iA S ef
 have:decide ((8:Int)<(la.sg:Int)+fb.sg)=decide (8<la.sg+fb.sg):=by apply decide_eq_decide.mpr;omega
 simp [oU,S.ob,e1,e2,e3,e4,this]
theorem Gn {w v:Str} (hw:w.length+v.length<=100) (h:AH):aA (.str w) (.str v) h = .ok (.str (w++v)) h:=by
 have:w.length+v.length<=sizeLine:=JK hw (by decide)
 simp [aA,this]
theorem iD {h h1 h2 h3:AH} {p:Nat} {ps:List Pc} {a b:Nat} {L n k:Int} {ma mb:Ms} {w v:Str} (S:ShelfAt h p ps) (ea:(meas ps)[a]? = some ma) (eb:(meas ps)[b]? = some mb) (l1:1<=ma.ll) (f1:1<=mb.fl) (el:ps[ma.ll-1]? = some (.leaf w)) (ef:ps[mb.fl-1]? = some (.leaf v)) (hw:w.length+v.length<=100)
  (e1:dj [.ref p,.str (w++v)] h = .ok (.int L) h1) (e2:fO 90 [.ref p,.int a,.int L] h1 = .ok (.int n) h2) (e3:eI 90 [.ref p,.int b] h2 = .ok (.int k) h3) :
  jM [.ref p,.int a,.int b] h=if k=0 then .ok (.int n) h3 else d7 90 [.ref p,.int n,.int k] h3:=by
 have q1:=yO S ea
 have q2:=yN S eb
 have q3:=nu S l1 el
 have q4:=nu S f1 ef
 have ad:=Gn hw h
 unfold jM
 generalize fO 90=WL at *
 generalize eI 90=WF at *
 generalize hF:d7 90=LK at *
 by_cases z:k=0
 ·subst z
  have zz:aQ (.int 0) (.int 0) h3 = .ok (.bl true) h3:=by simp
  simp [S.ob,q1,q2,q3,q4,nv,ad,e1,e2,e3,zz,-au,-aQ,-aA]
 ·have zz:aQ (.int k) (.int 0) h3 = .ok (.bl false) h3:=by simp [z]
  rw [JM z]
  generalize hR:LK [.ref p,.int n,.int k] h3=R
  simp [S.ob,q1,q2,q3,q4,nv,ad,e1,e2,e3,zz,hR,-au,-aQ,-aA]
  cases R<;>rfl
end Sk
namespace Sk
open PySem PySem.Spec L2 Sm
theorem Gp {w v:Str} (h1:1<=w.length) (h2:w.length+v.length<=8) (pw:bp w=true) (pv:bp v=true):d8 (w++v)=true:=by
 unfold d8
 rw [nt,bY,pw,pv]
 simp;lia
theorem Gq {h:AH} {p:Nat} {ps:List Pc} {a b:Nat} {ma mb fa la fb lb:Ms} {x y:Str} (S:ShelfAt h p ps) (g:Good ps) (A:Tx ps a ma x fa la) (B:Tx ps b mb y fb lb) (hc : ¬ 8<la.sg+fb.sg) (hm:ma.sg+mb.sg<=1000000000000000000) (hz:ps.length<15000000) :
  ∃ (n:Nat) (ps':List Pc) (h':AH) (m f l:Ms),Dn (jM [.ref p,.int a,.int b]) p h h' ps ps' (7*(max ma.ht mb.ht).toNat+2) n/\Tx ps' n m (x++y) f l/\m.ht<=max ma.ht mb.ht+1:=by
 obtain ⟨_,w,u,l1,el,ex,lw⟩:=g.ends a a (JE _) A
 obtain ⟨⟨v,t,f1,ef,ey,lv⟩,_⟩:=g.ends b b (JE _) B
 have a0:=A.ky.ht
 have b0:=B.ky.ht
 have ha:=gy g A
 have hb:=gy g B
 have px:bp x=true:=A.ky.pl
 have py:bp y=true:=B.ky.pl
 have pw:bp w=true:=by rw [ex,nt,KZ] at px;exact px.2
 have pv:bp v=true:=by rw [ey,nt,KZ] at py;exact py.1
 have la1:=A.ky.l1
 have fb1:=B.ky.f1
 have sx:=A.ky.sg
 have sy:=B.ky.sg
 have lx:x.length=u.length+w.length:=by rw [ex,bY]
 have ly:y.length=v.length+t.length:=by rw [ey,bY]
 have lwv:(w++v).length=w.length+v.length:=bY w v
 obtain ⟨L,ps1,h1,d1,N⟩:=yR S g (Gp (w:=w) (v:=v) (by lia) (by lia) pw pv) (by lia)
 have z1:=d1.dd.len
 obtain ⟨n2,ps2,h2,m2,f2,u2,v2,d2,ex2,lv2,T2,k1,k2⟩:=yU 90 d1.dd.sh d1.dd.gd (A.pre d1.dd.pre) N (by (clear z1 N d1 ly lx sy sx fb1 la1 pv pw py px hb ha b0 a0 lv ey ef f1 ex el l1 hz hm hc B A g S;lia)) (by (clear z1 N d1 lx sx fb1 la1 pv pw py px hb ha b0 a0 lv ey ef f1 ex el l1 hz hc B A g S;lia)) (by lia) (by lia)
 have z2:=d2.dd.len
 obtain ⟨rfl,rfl⟩:u=u2/\w=v2:=Gk (ex.symm.trans ex2) (by lia)
 have s2:m2.sg=u.length+(w.length+v.length):=by rw [T2.ky.sg,bY,bY]
 have p12:=d1.dd.pre.trans d2.dd.pre
 have lm:(bq (w++v) L).sg=w.length+v.length:=bY w v
 have tb:∀ q:Int,0<=q->q<=max ma.ht mb.ht->q.toNat<=(max ma.ht mb.ht).toNat:=fun q _ _=>by lia
 rcases yV 90 d2.dd.sh d2.dd.gd (B.pre p12) (by lia) (by lia) with ⟨r1,r2,d3⟩ | ⟨r1,n3,ps3,h3,m3,f3,u3,v3,d3,ey3,lu3,T3,r2,r3,r4⟩
 ·have t0:t.length=0:=by lia
  have te:t = "" := cX (by rw [dP] at t0;rw [Mm.mp t0];rfl)
  have rd:u++(w++v)=x++y:=by
   rw [ex,ey,te,c8]
   congr 2
  rw [rd] at T2
  refine ⟨n2,ps2,h2,m2,f2,_,⟨?_,d1.dd.trans d2.dd (by lia),fun h4 ps4 S4 g4 p4=>?_,fun M f hn=>d2.al M (d1.al M f (fo N.ms T2.ms (by rw [s2,lm];lia) M hn)) hn⟩,T2,by (clear rd te t0 d3 r2 r1 tb lm p12 s2 ex2 lv2 T2 z2 k2 d2 z1 N d1 lwv ly lx sy sx fb1 la1 pv pw py px hb ha b0 a0 lv ey ef f1 lw ex el l1 hz hm hc B A g S;lia)⟩
  ·rw [iD S A.ms B.ms l1 f1 el ef (by lia) d1.ev d2.ev d3.ev];rfl
  ·have q1:=d1.re h4 ps4 S4 g4 (d2.dd.pre.trans p4)
   have q2:=d2.re h4 ps4 S4 g4 p4
   have q3:=d3.re h4 ps4 S4 g4 p4
   rw [iD S4 (aV (p12.trans p4) A.ms) (aV (p12.trans p4) B.ms) l1 f1 (dr (p12.trans p4) el) (dr (p12.trans p4) ef) (by lia) q1 q2 q3];rfl
 ·obtain ⟨rfl,rfl⟩:v=u3/\t=v3:=yW (ey.symm.trans ey3) (by lia)
  have z3:=d3.dd.len
  have s3:m3.sg=t.length:=T3.ky.sg
  have m30:=T3.ky.ht
  obtain ⟨n4,ps4,h4,m4,d4,T4,r5,r6⟩:=pG 90 (max ma.ht mb.ht).toNat d3.dd.sh d3.dd.gd (T2.pre d3.dd.pre) T3 (by lia) (by (clear m30 z3 ey3 T3 lu3 r4 r3 r2 d3 r1 tb lm p12 ex2 lv2 T2 z2 k2 k1 d2 z1 N d1 lwv fb1 la1 pv pw py px hb ha b0 a0 lv ey ef f1 lw ex el l1 hz hc B A g S;lia)) (by (clear m30 s3 ey3 T3 lu3 d3 lm p12 s2 ex2 lv2 T2 z2 k2 d2 z1 N d1 lwv ly lx sy sx fb1 la1 pv pw py px hb ha lv ey ef f1 lw ex el l1 hz hm hc B A g S;(clear z3 r4;lia))) (by (clear m30 s3 z3 ey3 T3 lu3 r4 r3 r2 d3 r1 lm p12 s2 ex2 lv2 T2 z2 k2 d2 z1 N d1 lwv ly lx sy sx fb1 la1 pv pw py px b0 a0 lv ey ef f1 lw ex el l1 hz hm hc B A g S;lia)) (by lia)
  have rd:(u++(w++v))++t=x++y:=by rw [ex,ey,c8,c8,c8]
  rw [rd] at T4
  have n3z : ¬ (n3:Int)=0:=by have:=T3.n1;lia
  have p123:=p12.trans d3.dd.pre
  refine ⟨n4,ps4,h4,m4,f2,lb,⟨?_,((d1.dd.trans d2.dd (JE _)).trans d3.dd (JE _)).trans d4.dd (by lia),fun h5 ps5 S5 g5 p5=>?_,fun M f hn=>d4.al M (d3.al M (d2.al M (d1.al M f (fo N.ms T4.ms (by rw [lm,T4.ky.sg,bY];(clear hn f p123 n3z rd r6 r5 T4 d4 m30 s3 z3 ey3 T3 lu3 r4 r3 r2 d3 r1 tb lm p12 s2 ex2 lv2 T2 z2 k2 k1 d2 z1 N d1 lwv sy sx fb1 la1 pv pw py px hb ha b0 a0 lv ey ef f1 lw ex el l1 hz hm hc B A g S;lia)) M hn)) (fo T2.ms T4.ms (by rw [s2,T4.ky.sg,bY];(clear hn f p123 n3z rd r6 r5 T4 d4 m30 s3 z3 ey3 T3 lu3 r4 r3 r2 d3 r1 tb lm p12 s2 ex2 lv2 T2 z2 k2 k1 d2 z1 N d1 lwv sy sx fb1 la1 pv pw py px hb ha b0 a0 lv ey ef f1 lw ex el l1 hz hm hc B A g S;lia)) M hn)) (fo T3.ms T4.ms (by rw [s3,T4.ky.sg,bY];(clear hn f p123 n3z rd r6 r5 T4 d4 m30 s3 z3 ey3 T3 lu3 r4 r3 r2 d3 r1 tb lm p12 s2 ex2 lv2 T2 z2 k2 k1 d2 z1 N d1 lwv lx sy sx fb1 la1 pv pw py px hb ha b0 a0 lv ey ef f1 lw ex el l1 hz hm hc B A g S;lia)) M hn)) hn⟩,T4,by (clear p123 n3z rd r5 T4 d4 m30 s3 z3 ey3 T3 lu3 r4 r2 d3 r1 lm p12 s2 ex2 lv2 T2 z2 k2 z1 N d1 lwv ly lx sy sx fb1 la1 pv pw py px hb ha lv ey ef f1 lw ex el l1 B A g S;lia)⟩
  ·rw [iD S A.ms B.ms l1 f1 el ef (by lia) d1.ev d2.ev d3.ev,JM n3z];exact d4.ev
  ·have p45:=d4.dd.pre.trans p5
   have q1:=d1.re h5 ps5 S5 g5 (d2.dd.pre.trans (d3.dd.pre.trans p45))
   have q2:=d2.re h5 ps5 S5 g5 (d3.dd.pre.trans p45)
   have q3:=d3.re h5 ps5 S5 g5 p45
   have q4:=d4.re h5 ps5 S5 g5 p5
   have pa:=p123.trans p45
   rw [iD S5 (aV pa A.ms) (aV pa B.ms) l1 f1 (dr pa el) (dr pa ef) (by lia) q1 q2 q3,JM n3z];exact q4
def TxZ (ps:List Pc) (n:Nat) (y:Str):Prop:=(n=0/\y = "")\/∃ m f l,Tx ps n m y f l
theorem TxZ.pre {ps ps':List Pc} {n:Nat} {y:Str} (t:TxZ ps n y) (h:ps <+: ps'):TxZ ps' n y:=by
 rcases t with t | ⟨m,f,l,t⟩
 ·exact .inl t
 ·exact .inr ⟨m,f,l,t.pre h⟩
theorem jZ (ps:List Pc):(meas ps)[0]? = some ms0:=by
 obtain ⟨r,e,_⟩:=nh gw ps [ms0]
 rw [meas,e];rfl
def d9 (ps:List Pc) (n:Nat):Int:=((meas ps).getD n ms0).ht
theorem pI {ps:List Pc} {n:Nat} {m:Ms} (e:(meas ps)[n]? = some m):d9 ps n=m.ht:=by unfold d9;rw [iy e]
theorem Gr (ps:List Pc):d9 ps 0 = -1:=pI (jZ ps)
theorem uf {i:Int} (hi:i<=1000000000000000000) (h:AH):oT [.int i] h = .ok .non h:=by
 have : ¬ (1000000000000000000:Int)<i:=by lia
 simp [oT,this]
theorem ug {h:AH} {p:Nat} {ps:List Pc} {b:Nat} {mb:Ms} (S:ShelfAt h p ps) (eb:(meas ps)[b]? = some mb) (hm:mb.sg<=1000000000000000000):fP [.ref p,.int (0:Nat),.int b] h = .ok (.int b) h:=by
 have e1:=iA S (jZ ps)
 have e2:=iA S eb
 have z:ms0.sg=0:=rfl
 rw [z] at e1
 have e1':gM [.ref p,.int 0] h = .ok (.int 0) h:=e1
 have ck:=uf (i:=(0:Int)+mb.sg) (by lia) h
 have zz:aQ (.int 0) (.int 0) h = .ok (.bl true) h:=by simp
 have ad:aA (.int 0) (.int mb.sg) h = .ok (.int (0+mb.sg)) h:=rfl
 simp [fP,S.ob,e1',e2,ad,ck,zz,-aQ,-aA,-Int.zero_add]
theorem uh {h:AH} {p:Nat} {ps:List Pc} {a:Nat} {ma:Ms} (S:ShelfAt h p ps) (a1:1<=a) (ea:(meas ps)[a]? = some ma) (hm:ma.sg<=1000000000000000000):fP [.ref p,.int a,.int (0:Nat)] h = .ok (.int a) h:=by
 have e1:=iA S (jZ ps)
 have e2:=iA S ea
 have z:ms0.sg=0:=rfl
 rw [z] at e1
 have e1':gM [.ref p,.int 0] h = .ok (.int 0) h:=e1
 have ck:=uf (i:=(ma.sg:Int)+0) (by lia) h
 have zz:aQ (.int 0) (.int 0) h = .ok (.bl true) h:=by simp
 have z2:aQ (.int a) (.int 0) h = .ok (.bl false) h:=by
  have : ¬ a=0:=by lia
  simp [this]
 have ad:aA (.int ma.sg) (.int 0) h = .ok (.int (ma.sg+0)) h:=rfl
 simp [fP,S.ob,e1',e2,ad,ck,zz,z2,-aQ,-aA,-Int.add_zero]
theorem nB {h:AH} {p:Nat} {ps:List Pc} {a b:Nat} {ma mb la fb:Ms} (S:ShelfAt h p ps) (a1:1<=a) (b1:1<=b) (ea:(meas ps)[a]? = some ma) (eb:(meas ps)[b]? = some mb) (el:(meas ps)[ma.ll]? = some la) (ef:(meas ps)[mb.fl]? = some fb) (hm:ma.sg+mb.sg<=1000000000000000000) :
  fP [.ref p,.int a,.int b] h=if 8<la.sg+fb.sg then d7 90 [.ref p,.int a,.int b] h else jM [.ref p,.int a,.int b] h:=by
 have e1:=iA S ea
 have e2:=iA S eb
 have cl:=Gm S ea eb el ef
 have ck:=uf (i:=(ma.sg:Int)+mb.sg) (by lia) h
 have z1:aQ (.int a) (.int 0) h = .ok (.bl false) h:=by
  have : ¬ a=0:=by lia
  simp [this]
 have z2:aQ (.int b) (.int 0) h = .ok (.bl false) h:=by
  have : ¬ b=0:=by lia
  simp [this]
 have ad:aA (.int ma.sg) (.int mb.sg) h = .ok (.int (ma.sg+mb.sg)) h:=rfl
 unfold fP
 generalize d7 90=LK at *
 by_cases q:8<la.sg+fb.sg
 ·rw [JJ q]
  generalize hR:LK [.ref p,.int a,.int b] h=R
  simp [S.ob,e1,e2,ad,ck,z1,z2,cl,q,hR,-aQ,-aA]
  cases R<;>rfl
 ·rw [JM q]
  generalize hR:jM [.ref p,.int a,.int b] h=R
  simp [S.ob,e1,e2,ad,ck,z1,z2,cl,q,hR,-aQ,-aA]
  cases R<;>rfl
theorem TxZ.meas {ps:List Pc} {n:Nat} {y:Str} (t:TxZ ps n y):∃ m,(meas ps)[n]? = some m/\m.sg=y.length:=by
 rcases t with ⟨rfl,rfl⟩ | ⟨m,f,l,T⟩
 ·exact ⟨ms0,jZ ps,rfl⟩
 ·exact ⟨m,T.ms,T.ky.sg⟩
theorem yX {h:AH} {p:Nat} {ps:List Pc} {a b:Nat} {x y:Str} (S:ShelfAt h p ps) (g:Good ps) (A:TxZ ps a x) (B:TxZ ps b y) (hm:x.length+y.length<=1000000000000000000) (hz:ps.length<15000000) :
  ∃ (n:Nat) (ps':List Pc) (h':AH),Dn (fP [.ref p,.int a,.int b]) p h h' ps ps' (16*(max (d9 ps a) (d9 ps b)+1).toNat) n/\TxZ ps' n (x++y):=by
 rcases A with ⟨rfl,rfl⟩ | ⟨ma,fa,la,A⟩
 ·obtain ⟨mb,eb,sb⟩:=B.meas
  have em:("" : Str)++y=y:=cX (by rw [dJ];rfl)
  have dv:Dn (fP [.ref p,.int (0:Nat),.int b]) p h h ps ps 0 b:=Dn.val S g fun hh pp S' _ pr=>ug S' (aV pr eb) (by rw [sb];lia)
  exact ⟨b,ps,h,dv.as S g (fun _ _ _ _ _=>rfl) (Kk _),by rw [em];exact B⟩
 ·rcases B with ⟨rfl,rfl⟩ | ⟨mb,fb,lb,B⟩
  ·have em:x++("" : Str)=x:=cX (by rw [dJ];simp;rfl)
   have dv:Dn (fP [.ref p,.int a,.int (0:Nat)]) p h h ps ps 0 a:=Dn.val S g fun hh pp S' _ pr=>uh S' A.n1 (aV pr A.ms) A.ky.most
   exact ⟨a,ps,h,dv.as S g (fun _ _ _ _ _=>rfl) (Kk _),by rw [em];exact .inr ⟨_,_,_,A⟩⟩
  ·have sa:=A.ky.sg
   have sb:=B.ky.sg
   have a0:=A.ky.ht
   have b0:=B.ky.ht
   have ha:=gy g A
   have hb:=gy g B
   rw [pI A.ms,pI B.ms]
   by_cases q:8<la.sg+fb.sg
   ·obtain ⟨n,ps',h',m,d,T,_⟩:=pG 90 (max ma.ht mb.ht).toNat S g A B q (by lia) (by lia) (by lia) (by lia)
    exact ⟨n,ps',h',d.as S g (fun hh pp S' _ pr=>by rw [nB S' A.n1 B.n1 (aV pr A.ms) (aV pr B.ms) (aV pr A.ky.ll) (aV pr B.ky.fl) (by lia),JJ q]) (by (clear T d q hb ha sb sa B A hz hm g S;lia)),.inr ⟨_,_,_,T⟩⟩
   ·obtain ⟨n,ps',h',m,f,l,d,T,_⟩:=Gq S g A B q (by lia) hz
    exact ⟨n,ps',h',d.as S g (fun hh pp S' _ pr=>by rw [nB S' A.n1 B.n1 (aV pr A.ms) (aV pr B.ms) (aV pr A.ky.ll) (aV pr B.ky.fl) (by lia),JM q]) (by (clear T d q hb ha sb sa B A hz hm g S;lia)),.inr ⟨_,_,_,T⟩⟩
end Sk
namespace Sk
open PySem PySem.Spec L2 Sm
theorem yY {b e:Nat} {y:Str} (be:b<=e):(bD y (some (b:Int)) (some (e:Int))).cps.toList=(y.cps.toList.drop b).take (e-b):=by
 unfold bD
 rw [HT.sIx_nat,HT.sIx_nat]
 generalize y.cps.toList=l
 show (l.drop (min b l.length)).take (min e l.length-min b l.length)=_
 apply LX
 intro i
 rw [LJ,LJ,Kg,Kg]
 by_cases q:b<=l.length
 ·rw [KY q]
  by_cases c1:i<e-b
  ·rw [JJ c1]
   by_cases c2:i<min e l.length-b
   ·rw [JJ c2]
   ·rw [JM c2,Lh (by lia)]
  ·rw [JM c1,JM (by lia)]
 ·rw [JM (by (clear be;lia)),Lh (l:=l) (i:=b+i) (by lia)]
  split<;>rfl
def br:List Str->Str
 | [] => ""
 | w::ws=>w++br ws
theorem i7:∀ as bs:List Str,br (as++bs)=br as++br bs
 | [],bs=>(cX (by rw [dJ];rfl):br bs=("" : Str)++br bs)
 | w::as,bs=>by
  show w++br (as++bs)=(w++br as)++br bs
  rw [i7 as bs,c8]
theorem i9 (w:Str):br [w]=w:=cX (by show (w++("" : Str)).cps.toList=_;rw [dJ];simp;rfl)
def LS (ps:List Pc) (ns:List Nat) (ws:List Str):Prop:=ns.length=ws.length/\∀ (i n:Nat) (w:Str),ns[i]? = some n->ws[i]? = some w->Tx ps n (bq w n) w (bq w n) (bq w n)
theorem LS.pre {ps ps':List Pc} {ns:List Nat} {ws:List Str} (s:LS ps ns ws) (h:ps <+: ps'):LS ps' ns ws:=⟨s.1,fun i n w a b=>(s.2 i n w a b).pre h⟩
theorem LS.take {ps:List Pc} {ns:List Nat} {ws:List Str} (s:LS ps ns ws) (k:Nat):LS ps (ns.take k) (ws.take k):=by
 refine ⟨by simp [s.1],fun i n w a b=>?_⟩
 rw [LJ] at a b
 by_cases q:i<k
 ·rw [JJ q] at a b;exact s.2 i n w a b
 ·rw [JM q] at a;cases a
theorem LS.drop {ps:List Pc} {ns:List Nat} {ws:List Str} (s:LS ps ns ws) (k:Nat):LS ps (ns.drop k) (ws.drop k):=by
 refine ⟨by simp [s.1],fun i n w a b=>?_⟩
 rw [Kg] at a b
 exact s.2 _ n w a b
abbrev az (ns:List Nat):List AV:=ns.map fun n:Nat=>AV.int (n:Int)
theorem ui {h:AH} {p d n:Nat}:gs (d+1) [.ref p,.fl (az [n])] h = .ok (.int n) h:=by
 have ix:au (.fl [.int (n:Int)]) (.int 0) h = .ok (.int n) h:=rfl
 simp [gs,tB,ix,-au]
theorem Gs {α:Type} (l:List α) {k:Nat} (hk:k<=l.length):dD l none (some (k:Int))=l.take k:=by
 unfold dD
 rw [HT.sIx_nat,HT.sIx_none,KY hk];simp
theorem Gu {α:Type} (l:List α) {k:Nat} (hk:k<=l.length):dD l (some (k:Int)) none=l.drop k:=by
 unfold dD
 rw [HT.sIx_nat,HT.sIx_none,KY hk,Kn (by simp)]
theorem uj {h h1 h2:AH} {p d:Nat} {ps:List Pc} {ns:List Nat} {v1 v2:Int} (S:ShelfAt h p ps) (hl:2<=ns.length) (e1:gs d [.ref p,.fl (az (ns.take (ns.length / 2)))] h = .ok (.int v1) h1) (e2:gs d [.ref p,.fl (az (ns.drop (ns.length / 2)))] h1 = .ok (.int v2) h2) :
  gs (d+1) [.ref p,.fl (az ns)] h=aS [.ref p,.int v1,.int v2] h2:=by
 have hh:ns.length / 2<=ns.length:=Nat.div_le_self _ _
 have ln:aL [.fl (az ns)] h = .ok (.int ns.length) h:=by simp [aL]
 have q:aQ (.int ns.length) (.int 1) h = .ok (.bl false) h:=by
  have : ¬ (ns.length:Int)=1:=by lia
  simp [this]
 have dv:fA (.int ns.length) (.int 2) h = .ok (.int (ns.length / 2:Nat)) h:=rfl
 have c1:dO (.fl (az ns)) none (some (ns.length / 2:Nat)) h = .ok (.fl (az (ns.take (ns.length / 2)))) h:=by
  have:=Gs (az ns) (k:=ns.length / 2) (by simpa using hh)
  simp only [dO,this,az,List.map_take]
 have c2:∀ h,dO (.fl (az ns)) (some (ns.length / 2:Nat)) none h = .ok (.fl (az (ns.drop (ns.length / 2)))) h:=fun h=>by
  have:=Gu (az ns) (k:=ns.length / 2) (by simpa using hh)
  simp only [dO,this,az,List.map_drop]
 generalize hF:aS [.ref p,.int v1,.int v2] h2=R
 unfold gs tB
 generalize az ns=Z at *
 generalize az (ns.take (ns.length / 2))=Z1 at *
 generalize az (ns.drop (ns.length / 2))=Z2 at *
 generalize ((ns.length / 2:Nat):Int)=M at *
 generalize (ns.length:Int)=K at *
 simp [S.ob,ln,q,dv,c1,c2,e1,e2,hF,-aL,-aQ,-fA,-dO]
 cases R<;>rfl
theorem Gv {a b ha hb:Nat} (ab:b<=a+1) (h1:a<=2 ^ ha) (h2:hb=0\/2 ^ (hb-1)<b):hb<=ha+1:=by
 rcases h2 with h2 | h2
 ·lia
 ·have:2 ^ (hb-1)<=2 ^ ha:=by lia
  have:=(Nat.pow_le_pow_iff_right (a:=2) (by decide)).mp this
  lia
theorem nC {a b ha hb:Nat} (ab:a<=b) (h1:b<=2 ^ hb) (h2:ha=0\/2 ^ (ha-1)<a):ha<=hb:=by
 rcases h2 with h2 | h2
 ·lia
 ·have:2 ^ (ha-1)<2 ^ hb:=by lia
  have:=(Nat.pow_lt_pow_iff_right (a:=2) (by decide)).mp this
  lia
theorem Gw {k b hb:Nat} (h1:k<=2*b) (h2:2*b<=k+1) (h3:2<=k) (h4:b<=2 ^ hb) (h5:hb=0\/2 ^ (hb-1)<b):k<=2 ^ (hb+1)/\2 ^ (hb+1-1)<k:=by
 rw [Ow,LN]
 refine ⟨by lia,?_⟩
 rcases h5 with h5 | h5
 ·subst h5;simp;lia
 ·cases hb with
  | zero=>simp;lia
  | succ n =>
   rw [LN] at h5
   rw [Ow];lia
theorem Gy {k e:Nat} (h:k<=2 ^ (e+1)):k / 2<=2 ^ e/\k-k / 2<=2 ^ e:=by rw [Ow] at h;lia
theorem uk {p:Nat}:∀ (d e:Nat) {h:AH} {ps:List Pc} {ns:List Nat} {ws:List Str},ShelfAt h p ps->Good ps->LS ps ns ws->1<=ns.length->ns.length<=2 ^ e->e<d->(∀ (i:Nat) (w:Str),ws[i]? = some w->i+1<ws.length->w.length=8)->ps.length+ns.length<16000000->ns.length<=10000 ->
  ∃ (n:Nat) (ps':List Pc) (h':AH) (m f l:Ms) (H:Nat),gs d [.ref p,.fl (az ns)] h = .ok (.int n) h'/\Dd p h h' ps ps' (ns.length-1)/\Tx ps' n m (br ws) f l/\m.ht=H/\ns.length<=2 ^ H/\(H=0\/2 ^ (H-1)<ns.length)/\((∀ w∈ws,w.length=8)->l.sg=8)/\m.sg<=8*ns.length/\(∀ M,cL M ps->m.sg<=M->cL M ps')
 | 0,e,h,ps,ns,ws,S,g,LL,h1,h2,h3,h4,h5,h6=>absurd h3 (Mf _)
 | d+1,e,h,ps,ns,ws,S,g,LL,h1,h2,h3,h4,h5,h6=>by
  by_cases q:ns.length=1
  ·obtain ⟨n,rfl⟩:∃ n,ns=[n]:=Nq.mp q
   obtain ⟨w,rfl⟩:∃ w,ws=[w]:=Nq.mp (LL.1.symm.trans q)
   have T:=LL.2 0 n w rfl rfl
   refine ⟨n,ps,h,_,_,_,0,ui,{ Dd.refl S g with len:=by lia },by rw [i9];exact T,rfl,by simp,.inl rfl,fun hw=>hw w (by simp),?_,fun _ f _=>f⟩
   have:=T.ky.f8
   simpa using this
  ·have hh:2<=ns.length:=by lia
   obtain ⟨e',rfl⟩:∃ e',e=e'+1:=by
    cases e with
    | zero=>simp at h2;lia
    | succ e' => exact ⟨e',rfl⟩
   obtain ⟨w1,w2⟩:=Gy h2
   have lt:(ns.take (ns.length / 2)).length=ns.length / 2:=by rw [Kw];(clear w2 w1 h3 h2 hh q h6 h5 h4 h1 LL g S;lia)
   have ld:(ns.drop (ns.length / 2)).length=ns.length-ns.length / 2:=KJ ..
   have lw:=LL.1
   obtain ⟨n1,ps1,hh1,m1,f1,l1,H1,a1,a2,a3,a4,a5,a6,a7,a8,a9⟩:=uk d e' S g (LL.take (ns.length / 2)) (by lia) (by (clear lw ld w2 h3 h2 hh q h6 h5 h4 h1 LL g S;lia)) (by lia) (fun i w ew hi=>by
    rw [LJ] at ew
    split at ew
    ·rw [Kw] at hi;exact h4 i w ew (by lia)
    ·cases ew) (by (clear lw ld w2 w1 h3 h2 hh q h6 h4 h1 LL g S;lia)) (by lia)
   have z1:=a2.len
   obtain ⟨n2,ps2,hh2,m2,f2,l2,H2,b1,b2,b3,b4,b5,b6,b7,b8,b9⟩:=uk d e' a2.sh a2.gd ((LL.drop (ns.length / 2)).pre a2.pre) (by lia) (by lia) (by lia) (fun i w ew hi=>by
    rw [Kg] at ew
    rw [KJ] at hi
    exact h4 _ w ew (by (clear ew z1 a9 a8 a7 a6 a5 a4 a3 a2 a1 lw ld lt w2 w1 h3 h2 hh q h6 h5 h4 h1 LL g S;omega))) (by lia) (by (clear z1 a9 a8 a7 a6 a5 a4 a3 a2 a1 lw lt w2 w1 h3 h2 hh q h5 h4 h1 LL g S;lia))
   have z2:=b2.len
   rw [lt] at a5 a6 a8
   rw [ld] at b5 b6 b8
   have g1:=Gv (a:=ns.length / 2) (b:=ns.length-ns.length / 2) (by (clear z2 b9 b8 b7 b6 b5 b4 b3 b2 b1 z1 a9 a8 a7 a6 a5 a4 a3 a2 a1 lw ld lt w2 w1 h3 h2 hh q h6 h5 h4 h1 LL g S;lia)) a5 b6
   have g2:=nC (a:=ns.length / 2) (b:=ns.length-ns.length / 2) (by (clear g1 z2 b9 b8 b7 b6 b5 b4 b3 b2 b1 z1 a9 a8 a7 a6 a5 a4 a3 a2 a1 lw ld lt w2 w1 h3 h2 hh h6 h5 h4 LL g S;lia)) b5 a6
   have l8:l1.sg=8:=a7 fun w hw=>by
    obtain ⟨i,hi,ei⟩:=Lx hw
    have hi' := hi
    rw [Kw] at hi'
    have:(ws.take (ns.length / 2))[i]? = some w:=by rw [JY hi,ei]
    rw [LJ] at this
    split at this
    ·exact h4 i w this (by lia)
    ·cases this
   have f1' := b3.ky.f1
   obtain ⟨n3,ps3,hh3,d3,T3⟩:=e7 b2.sh b2.gd (a3.pre b2.pre) b3 (by lia) (by lia) (by lia) (by (clear f1' l8 g2 g1 z2 b9 b7 b6 b5 b4 b3 b2 b1 z1 a9 a7 a6 a5 a4 a3 a2 a1 lw ld lt w2 w1 h3 h2 hh q h5 h4 h1 LL g S;lia)) (by (clear f1' l8 g2 g1 b9 b8 b7 b6 b5 b4 b3 b2 b1 a9 a8 a7 a6 a5 a4 a3 a2 a1 lw w2 w1 h3 h2 hh h6 h4 LL g S;lia))
   have rd:br (ws.take (ns.length / 2))++br (ws.drop (ns.length / 2))=br ws:=by rw [<- i7,Kj]
   rw [rd] at T3
   have hv:=uj S hh a1 b1
   obtain ⟨y1,y2⟩:=Gw (k:=ns.length) (b:=ns.length-ns.length / 2) (by (clear hv rd T3 d3 f1' l8 g2 g1 z2 b9 b8 b7 b6 b5 b4 b3 b2 b1 z1 a9 a8 a7 a6 a5 a4 a3 a2 a1 lw ld lt w2 w1 h3 h2 hh q h6 h5 h4 LL g S;lia)) (by (clear hv rd T3 d3 f1' l8 g2 g1 z2 b9 b8 b7 b6 b5 b4 b3 b2 b1 z1 a9 a8 a7 a6 a5 a4 a3 a2 a1 lw ld lt w2 w1 h3 h2 hh q h6 h5 h4 h1 LL g S;omega)) hh b5 b6
   refine ⟨n3,ps3,hh3,_,f1,l2,H2+1,hv.trans d3.ev,(a2.trans b2 (JE _)).trans d3.dd (by (clear y2 y1 hv rd T3 d3 f1' l8 g2 g1 z2 b9 b8 b7 b6 b5 b4 b3 b2 b1 z1 a9 a8 a7 a6 a5 a4 a3 a2 a1 lw w2 w1 h3 h2 hh h6 h5 h4 LL g S;lia)),T3,by rw [bQ,a4,b4];lia,y1,.inr y2,fun hw=>b7 fun w hm=>hw w (K1 hm),by rw [e8];(clear y2 y1 hv rd T3 d3 f1' l8 g2 g1 z2 b9 b7 b6 b5 b4 b3 b2 b1 z1 a9 a7 a6 a5 a4 a3 a2 a1 lw ld lt w2 w1 h3 h2 hh q h6 h5 h4 h1 LL g S;lia),fun M f hq=>d3.al M (b9 M (a9 M f (JK (Lf _ _) hq)) (JK (Mh _ _) hq)) (fun m e=>by rw [T3.ms] at e;cases e;exact hq)⟩
end Sk
namespace Sk
open PySem PySem.Spec L2 Sm
def fR (x:Str) (k:Nat):Str:=bD x (some ((8*k:Nat):Int)) (some ((8*k+8:Nat):Int))
theorem um (x:Str) (k:Nat):(fR x k).cps.toList=(x.cps.toList.drop (8*k)).take 8:=by
 unfold fR
 rw [yY (by lia),show 8*k+8-8*k=8 by lia]
theorem yZ (x:Str) (k:Nat):(fR x k).length=min 8 (x.length-8*k):=by
 rw [dP,um,Kw,KJ,<- dP]
theorem Gz {x:Str} (px:bp x=true) (k:Nat):bp (fR x k)=true:=by
 unfold bp at *
 rw [um,Kz]
 rw [Kz] at px
 exact fun c hc=>px c (K1 (K2 hc))
theorem y3 (x:Str):∀ j,(br ((List.range j).map (fR x))).cps.toList=x.cps.toList.take (8*j)
 | 0=>rfl
 | j+1=>by
  rw [List.range_succ,K6,i7,dJ,y3 x j]
  show _++(br [fR x j]).cps.toList=_
  rw [i9,um,show 8*(j+1)=8*j+8 by lia,Oc]
theorem y4 {α:Type} {f:Nat->α} {N i:Nat} {w:α} (e:((List.range N).map f)[i]? = some w):i<N/\w=f i:=by
 rw [Kh] at e
 obtain ⟨j,ej,ew⟩:=J3.mp e
 have h1:=(JD.mp ej).1
 rw [La] at h1
 rw [MP h1] at ej
 cases ej
 exact ⟨h1,ew.symm⟩
theorem LS.snoc {ps ps':List Pc} {ns:List Nat} {ws:List Str} {n:Nat} {w:Str} (s:LS ps ns ws) (h:ps <+: ps') (T:Tx ps' n (bq w n) w (bq w n) (bq w n)):LS ps' (ns++[n]) (ws++[w]):=by
 have l:=s.1
 refine ⟨by simp [s.1],fun i a b ea eb=>?_⟩
 by_cases q:i<ns.length
 ·rw [JF q] at ea
  rw [JF (by lia)] at eb
  exact (s.2 i a b ea eb).pre h
 ·have h1:=(JD.mp ea).1
  have hi:i=ns.length:=by simp at h1;lia
  subst hi
  rw [J9 (by lia)] at ea eb
  simp at ea
  rw [show ns.length-ws.length=0 by lia] at eb
  simp at eb
  subst ea eb
  exact T
theorem GA {h:AH} {p:Nat} {ps:List Pc} {x:Str} (S:ShelfAt h p ps) (g:Good ps) (px:bp x=true) (N:Nat) (hN:8*N<x.length+8) (hx:x.length<=10000) (hz:ps.length+N<16000000) (all:List AV) (js:List Nat) (en:En) (hj:js.map (fun j=>(en[j]?).join)=[some (.ref p),some (.str x)]) :
  ∃ (ns:List Nat) (ps':List Pc) (h':AH),cY js en none all bw (aG 0 dj (aa 1) (ai (cD (aa 2) (some (aa 0)) (some (ag aA (aa 0) (af (.int 8))))) ae)) ((List.range N).map fun m:Nat=>AV.int (0+(m:Int)*8)) [] h = .ok (az ns) h'/\Dd p h h' ps ps' N/\LS ps' ns ((List.range N).map (fR x))/\∀ M,cL M ps->x.length<=M->cL M ps' := by
 obtain ⟨zs,h',c1,ns,ps',e1,D,LL,al⟩:=tJ (js:=js) (en:=en) (all:=all) (e:=aG 0 dj (aa 1) (ai (cD (aa 2) (some (aa 0)) (some (ag aA (aa 0) (af (.int 8))))) ae)) (xs:=(List.range N).map fun m:Nat=>AV.int (0+(m:Int)*8)) (h:=h)
  (fun j ys h' => ∃ (ns:List Nat) (ps':List Pc),ys=az ns/\Dd p h h' ps ps' j/\LS ps' ns ((List.range j).map (fR x))/\∀ M,cL M ps->x.length<=M->cL M ps') ⟨[],ps,rfl,Dd.refl S g,⟨rfl,fun i n w a _=>by simp at a⟩,fun _ f _=>f⟩ (by
   rintro j v ys h' hv ⟨ns,ps',rfl,D,LL,al⟩
   obtain ⟨jN,rfl⟩:=y4 hv
   have z:=D.len
   have lc:=yZ x j
   have sc:d8 (fR x j)=true:=by
    unfold d8
    rw [Gz px j,lc]
    simp;lia
   obtain ⟨n,ps2,h2,d2,T⟩:=yR D.sh D.gd sc (by lia)
   have i1:(0:Int)+(j:Int)*8=((8*j:Nat):Int):=by lia
   have i2:((8*j:Nat):Int)+8=((8*j+8:Nat):Int):=by lia
   have ct:dO (.str x) (some ((8*j:Nat):Int)) (some ((8*j+8:Nat):Int)) h' = .ok (.str (fR x j)) h' := rfl
   have ev:=d2.ev
   rw [hj]
   have e:aG 0 dj (aa 1) (ai (cD (aa 2) (some (aa 0)) (some (ag aA (aa 0) (af (.int 8))))) ae) [some (.int (0+(j:Int)*8)),some (.ref p),some (.str x)] h' = .ok (.int n) h2:=by
    rw [i1]
    have ad:aA (.int ((8*j:Nat):Int)) (.int 8) h' = .ok (.int ((8*j+8:Nat):Int)) h' := by rw [<- i2];rfl
    generalize ((8*j:Nat):Int)=B1 at *
    generalize ((8*j+8:Nat):Int)=B2 at *
    simp [D.sh.ob,ad,ct,ev,-aA,-dO]
   rw [e]
   refine ⟨ns++[n],ps2,by simp [az],D.trans d2.dd (by lia),?_,fun M f hq=>d2.al M (al M f hq) (fun m e=>by rw [T.ms] at e;cases e;show (fR x j).length<=M;rw [lc];(clear f e ev ct i2 i1 T d2 sc lc z hv al LL D hj hz hx px g S;lia))⟩
   rw [List.range_succ,K6]
   exact LL.snoc d2.dd.pre T) (by simp;exact JK (show N<=10000 by lia) (by decide))
 rw [J0,La] at D LL
 exact ⟨ns,ps',h',by rw [c1,e1],D,LL,al⟩
theorem y6 {h:AH} {p:Nat} {ps:List Pc} {x:Str} (S:ShelfAt h p ps) (g:Good ps) (px:bp x=true) (hx:x.length<=10000) (hz:ps.length+2*x.length<16000000) :
  ∃ (n:Nat) (ps':List Pc) (h':AH),jL [.ref p,.str x] h = .ok (.int n) h'/\Dd p h h' ps ps' (2*x.length)/\TxZ ps' n x/\∀ M,cL M ps->x.length<=M->cL M ps' := by
 have sl:x.length<=sizeLine:=JK hx (by decide)
 have fp:=yA x h sl
 rw [px] at fp
 have c1 : ¬ (10000:Int)<x.length:=by lia
 by_cases q:x.length=0
 ·have xe:x = "" := cX (by rw [dP] at q;rw [Mm.mp q];rfl)
  subst xe
  refine ⟨0,ps,h,?_,{ Dd.refl S g with len:=by lia },.inl ⟨rfl,rfl⟩,fun _ f _=>f⟩
  simp [jL,fp,c1]
 ·obtain ⟨N,eN⟩:∃ N,N=(x.length-1) / 8+1:=⟨_,rfl⟩
  obtain ⟨ns,ps1,h1,e1,D1,LL,al⟩:=GA S g px N (by lia) hx (by lia) ((List.range N).map fun m:Nat=>AV.int (0+(m:Int)*8)) [0,1] [some (.ref p),some (.str x),none] rfl
  have z1:=D1.len
  have ln:ns.length=N:=by rw [LL.1];simp
  obtain ⟨n,ps2,h2,m,f,l,H,b1,b2,b3,_,_,_,_,_,b9⟩:=uk (p:=p) 20 11 D1.sh D1.gd LL (by lia) (by rw [ln];have:(2:Nat) ^ 11=2048:=rfl;lia) (by decide) (fun i w ew hi=>by
   obtain ⟨iN,rfl⟩:=y4 ew
   rw [J0,La] at hi
   rw [yZ];(clear ew iN ln z1 al LL D1 e1 q c1 fp sl hz hx px g S;lia)) (by lia) (by lia)
  have rd:br ((List.range N).map (fR x))=x:=cX (by rw [y3,Kn (by rw [<- dP];lia)])
  rw [rd] at b3
  have ir:ig (af (.int 0)) (aD aL (ai (aa 1) ae)) (af (.int 8)) [some (.ref p),some (.str x),none] h = .ok ((List.range N).map (fun m:Nat=>AV.int (0+(m:Int)*8)),none) h:=by
   have r1:((if (0:Int)<x.length then ((x.length:Int)-0-1) / 8+1 else 0:Int)).toNat=N:=by
    rw [JJ (by lia)];lia
   have r2:(0:Int).natAbs<2 ^ 40/\(x.length:Int).natAbs<2 ^ 40/\(0:Int)<8/\(8:Int)<2 ^ 20:=⟨by decide,by lia,by decide,by decide⟩
   show (if _ then _ else _)=_
   rw [JJ r2,r1]
  have cp:dC [0,1] (ig (af (.int 0)) (aD aL (ai (aa 1) ae)) (af (.int 8))) bw (aG 0 dj (aa 1) (ai (cD (aa 2) (some (aa 0)) (some (ag aA (aa 0) (af (.int 8))))) ae)) [some (.ref p),some (.str x),none] h = .ok (.fl (az ns)) h1:=by
   simp only [dC,ir,e1]
  have ne:aQ (.str x) (.str "") h = .ok (.bl false) h:=by
   have : ¬ x=Str.ofString "" := fun z=>q (by rw [z];rfl)
   simp [this]
  refine ⟨n,ps2,h2,?_,D1.trans b2 (by lia),.inr ⟨_,_,_,b3⟩,fun M f hq=>b9 M (al M f hq) (by rw [b3.ky.sg];exact hq)⟩
  unfold jL
  generalize dC [0,1] (ig (af (.int 0)) (aD aL (ai (aa 1) ae)) (af (.int 8))) bw (aG 0 dj (aa 1) (ai (cD (aa 2) (some (aa 0)) (some (ag aA (aa 0) (af (.int 8))))) ae))=CP at *
  generalize gs 20=HV at *
  simp [fp,c1,ne,cp,b1,-aQ]
end Sk
namespace Sk
open PySem PySem.Spec L2 Sm
theorem y8 (h:AH):∀ is:List Int,bE (bj 7 h) (is.map AV.int)=some (is.map PyData.int)
 | []=>rfl
 | i::is=>by
  rw [JS,JS]
  show (match bj 7 h (.int i),bE (bj 7 h) (is.map AV.int) with | some d,some ds=>some (d::ds) | _,_=>none)=_
  rw [y8 h is];rfl
theorem y9:∀ as bs:List Int,PyData.eqvAll (as.map PyData.int) (bs.map PyData.int)=decide (as=bs)
 | [],[]=>by simp [PyData.eqvAll]
 | [],b::bs=>by simp [PyData.eqvAll]
 | a::as,[]=>by simp [PyData.eqvAll]
 | a::as,b::bs=>by
  rw [JS,JS]
  simp only [PyData.eqvAll,PyData.eqv,y9 as bs]
  by_cases q:a=b
  ·subst q;simp
  ·simp [q]
def fS (x:Str) (a:Nat):Str:=⟨(x.cps.toList.take a).toArray⟩
def fT (x:Str) (a:Nat):Str:=⟨(x.cps.toList.drop a).toArray⟩
theorem uo (x:Str) (a:Nat):(fS x a).cps.toList=x.cps.toList.take a:=rfl
theorem nE (x:Str) (a:Nat):(fT x a).cps.toList=x.cps.toList.drop a:=rfl
theorem GB (x:Str) (a:Nat):(fT x a).length=x.length-a:=by
 rw [dP,dP x,nE,KJ]
theorem GC {x:Str} (h:bp x=true) (a:Nat):bp (fS x a)=true:=by
 unfold bp at *
 rw [uo,Kz]
 rw [Kz] at h
 exact fun c hc=>h c (K2 hc)
theorem GD {x:Str} (h:bp x=true) (a:Nat):bp (fT x a)=true:=by
 unfold bp at *
 rw [nE,Kz]
 rw [Kz] at h
 exact fun c hc=>h c (K1 hc)
theorem GE {x:Str} {a:Nat} (h:AH):dO (.str x) none (some (a:Int)) h = .ok (.str (fS x a)) h:=by
 have:bD x none (some (a:Int))=fS x a:=cX (by
  unfold bD
  rw [HT.sIx_nat,HT.sIx_none,uo]
  show (x.cps.toList.drop 0).take (min a x.cps.toList.length-0)=_
  rw [K3,Nat.sub_zero]
  by_cases q:a<=x.cps.toList.length
  ·rw [KY q]
  ·rw [Nat.min_eq_right (by lia),L7,Kn (by lia)])
 simp only [dO,this]
theorem GG {x:Str} {a:Nat} (ha:a<=x.length) (h:AH):dO (.str x) (some (a:Int)) none h = .ok (.str (fT x a)) h:=by
 have:bD x (some (a:Int)) none=fT x a:=cX (by
  unfold bD
  rw [HT.sIx_nat,HT.sIx_none,nE]
  rw [dP] at ha
  rw [KY ha]
  show (x.cps.toList.drop a).take (x.cps.toList.length-a)=_
  rw [Kn (by rw [KJ];exact JE _)])
 simp only [dO,this]
def JC (z:Int):Nat:=8*((z+1).toNat*(z+2).toNat)
theorem za {ps:List Pc} (g:Good ps) {a b:Nat} {x y:Str} (A:TxZ ps a x) (B:TxZ ps b y):16*(max (d9 ps a) (d9 ps b)+1).toNat<=1400:=by
 have key:∀ {n:Nat} {y:Str},TxZ ps n y->d9 ps n<=82:=fun {n y} t=>by
  rcases t with ⟨rfl,rfl⟩ | ⟨m,f,l,T⟩
  ·rw [Gr];lia
  ·rw [pI T.ms];exact gy g T
 have:=key A
 have:=key B
 lia
end Sk
namespace Sk
open PySem PySem.Spec L2 Sm
def eg (ps:List Pc) (n:Nat):Str:=(reads ps).getD n ""
theorem rd_of {ps:List Pc} {n:Nat} {m:Ms} {x:Str} {f l:Ms} (T:Tx ps n m x f l):eg ps n=x:=iy T.rd
def wt (ps:List Pc) (n:Nat):Nat:=2*((meas ps).getD n ms0).lv-1
theorem nF {ps:List Pc} {n:Nat} {m:Ms} (e:(meas ps)[n]? = some m):wt ps n=2*m.lv-1:=by unfold wt;rw [iy e]
theorem uq {h:AH} {W:Nat} {ns:List Nat} (e:h[W]? = some (.lst (az ns))):bg (.ref W) (.fl []) h = .ok (.bl (!decide (ns=[]))) h:=by
 have i0:az ns=(ns.map fun n:Nat=>(n:Int)).map AV.int:=by rw [Lk];rfl
 have d1:bj 8 h (.ref W)=some (.list ((ns.map fun n:Nat=>(n:Int)).map PyData.int)):=by
  show (match h[W]? with | some (.lst xs)=>(bE (bj 7 h) xs).map PyData.list | _=>none)=_
  rw [e]
  show (bE (bj 7 h) (az ns)).map PyData.list=_
  rw [i0,y8];rfl
 have d2:bj 8 h (.fl [])=some (.list (([]:List Int).map PyData.int)):=rfl
 have q:gZ (.ref W) (.fl []) h=some (decide (ns=[])):=by
  show (match bj 8 h (.ref W),bj 8 h (.fl []) with | some d,some e=>some (PyData.eqv d e) | _,_=>none)=_
  rw [d1,d2]
  show some (PyData.eqv (.list _) (.list _))=_
  rw [PyData.eqv,y9]
  congr 1
  apply decide_eq_decide.mpr
  cases ns<;>simp
 show (match gZ (.ref W) (.fl []) h with | some b=>Out.ok (AV.bl (!b)) h | none=>Out.bad)=_
 rw [q]
theorem pJ {h:AH} {W:Nat} {Z:List AV} {v:AV} (e:h[W]? = some (.lst (Z++[v]))):cO (.ref W) [] h = .ok v (h.set W (.lst Z)):=by
 simp [cO,e]
theorem GH {ps:List Pc} {n:Nat} {m:Ms} {x:Str} {f l:Ms} (T:Tx ps n m x f l):m.lv<=2*(m.sg / 9)+1:=by
 obtain ⟨k,c | c⟩:=T.ky.cnt
 ·have:=T.ky.f1;lia
 ·lia
theorem zb {ps:List Pc}:∀ tk:List Nat,(∀ k∈tk,∃ m x f l,Tx ps k m x f l)->tk.length<=(tk.map (wt ps)).sum
 | [],_=>JE _
 | k::tk,h=>by
  obtain ⟨m,x,f,l,T⟩:=h k (by simp)
  have:=zb tk fun j hj=>h j (by simp [hj])
  have w:=nF T.ms
  have lv:=T.ky.lv
  simp only [J6,JS,Mb]
  lia
theorem pK {h:AH} {b:AO} {r:AH}:(h++(b::r))[h.length]? = some b:=by simp
theorem ur {h:AH} {b c:AO} {r:AH}:(h++(b::r)).set h.length c=h++(c::r):=by
 rw [MA _ _ (JE _)];simp
theorem GJ {h:AH} {p W n:Nat} {ps:List Pc} {Z:List AV} {x y:Str} {o1 o4 o5:Option AV} (S:ShelfAt h p ps) (n1:1<=n) (ep:ps[n-1]? = some (.leaf x)) (hW:p+8<W) (eW:h[W]? = some (.lst (Z++[.int n]))) (ly:y.length<=100000) (lx:x.length<=8) :
  fF [some (.ref p),o1,some (.str y),some (.ref W),o4,o5] h = .nx [some (.ref p),o1,some (.str (y++x)),some (.ref W),some (.int n),some (.tup [.str "leaf",.str x])] (h.set W (.lst Z)):=by
 have po:=pJ eW
 have il:aZ (.ref W) h=true:=by simp [aZ,eW]
 have S1:ShelfAt (h.set W (.lst Z)) p ps:=S.keep fun i _ b=>JI (by lia)
 have fp:=nu S1 n1 ep
 have ad:aA (.str y) (.str x) (h.set W (.lst Z)) = .ok (.str (y++x)) (h.set W (.lst Z)):=by
  have:y.length+x.length<=sizeLine:=JK (m:=100010) (by lia) (by decide)
  simp only [aA,this,Ly]
 have nz:bg (.int n) (.int 0) (h.set W (.lst Z)) = .ok (.bl true) (h.set W (.lst Z)):=by
  have : ¬ n=0:=by lia
  simp [this]
 generalize h.set W (.lst Z)=h1 at *
 simp [fF,il,po,nz,S1.ob,fp,i6,kT,nv,ad,-aZ,-cO,-bg,-au,-aQ,-aA]
theorem GL {h:AH} {p W n a b:Nat} {y:Str} {ps:List Pc} {Z:List AV} {o1 o4 o5:Option AV} (S:ShelfAt h p ps) (n1:1<=n) (ep:ps[n-1]? = some (.fork a b)) (hW:p+8<W) (eW:h[W]? = some (.lst (Z++[.int n]))) (lZ:Z.length<=100000) :
  fF [some (.ref p),o1,some (.str y),some (.ref W),o4,o5] h = .nx [some (.ref p),o1,some (.str y),some (.ref W),some (.int n),some (.tup [.str "fork",.int a,.int b])] (h.set W (.lst (Z++[.int b,.int a]))++[.lst [.int b,.int a]]):=by
 have po:=pJ eW
 have il:aZ (.ref W) h=true:=by simp [aZ,eW]
 have S1:ShelfAt (h.set W (.lst Z)) p ps:=S.keep fun i _ b=>JI (by lia)
 have fp:=fQ S1 n1 ep
 have Wl:=bH eW
 have eW1:(h.set W (.lst Z))[W]? = some (.lst Z):=JR Wl
 have nz:bg (.int n) (.int 0) (h.set W (.lst Z)) = .ok (.bl true) (h.set W (.lst Z)):=by
  have : ¬ n=0:=by lia
  simp [this]
 have fin:(h.set W (.lst Z)++[AO.lst [.int b,.int a]]).set W (.lst (Z++[.int b,.int a]))=h.set W (.lst (Z++[.int b,.int a]))++[.lst [.int b,.int a]]:=by
  rw [NX _ _ (by simpa using Wl),Nr]
 have ex:gI (.ref W) [.ref (h.set W (.lst Z)).length] (h.set W (.lst Z)++[.lst [.int b,.int a]]) = .ok .non (h.set W (.lst (Z++[.int b,.int a]))++[.lst [.int b,.int a]]):=by
  have g1:(h.set W (.lst Z)++[AO.lst [.int b,.int a]])[W]? = some (.lst Z):=by rw [JF (by simpa using Wl)];exact eW1
  have g2:(h.set W (.lst Z)++[AO.lst [.int b,.int a]])[(h.set W (.lst Z)).length]? = some (.lst [.int b,.int a]):=by simp
  have sz:Z.length+2<=sizeLine:=JK (NW lZ 2) (by decide)
  simp only [gI,g1,g2,J6,KW,K8,Nat.reduceAdd,sz,Ly,fin]
 have il2:aZ (.ref W) (h.set W (.lst Z))=true:=by simp only [aZ,cU,eW1];rfl
 generalize h.set W (.lst (Z++[.int b,.int a]))++[.lst [.int b,.int a]]=h3 at *
 generalize h.set W (.lst Z)=h1 at *
 simp [fF,il,po,nz,S1.ob,fp,iC,jY,i1,i2,il2,ex,-aZ,-cO,-bg,-au,-aQ,-gI]
theorem GN {h hh:AH} {p:Nat} {ps:List Pc} {n N:Nat} {y z:Str} {en:En} (S:ShelfAt h p ps) (g:Good ps) {k:Nat} {t:List Nat} {r:AH} {o4 o5:Option AV}
  (eh:hh=h++(.lst (az (k::t).reverse)::r)) (een:en=[some (.ref p),some (.int n),some (.str z),some (.ref h.length),o4,o5]) (al:∀ j∈k::t,∃ m x f l,Tx ps j m x f l) (rd:z++br ((k::t).map (eg ps))=y) (eN:N=((k::t).map (wt ps)).sum) (hN:N<=20000) (hy:y.length<=10000) :
  thn (fF en hh) fun e2 h2=>∃ N',N'<N/\∃ (z:Str) (tk:List Nat) (r:AH) (o4 o5:Option AV),h2=h++(.lst (az tk.reverse)::r)/\e2=[some (.ref p),some (.int n),some (.str z),some (.ref h.length),o4,o5]/\(∀ j∈tk,∃ m x f l,Tx ps j m x f l)/\z++br (tk.map (eg ps))=y/\N'=(tk.map (wt ps)).sum/\N'<=20000:=by
 obtain ⟨m,x,f,l,T⟩:=al k (by simp)
 have pl:=bH S.h8
 have sg:=zb t fun j hj=>al j (by simp [hj])
 have wk:=nF T.ms
 have lv:=T.ky.lv
 rw [JS,Mb] at eN
 have iv:az (k::t).reverse=az t.reverse++[.int k]:=by simp [az]
 rw [iv] at eh
 have Sh:ShelfAt hh p ps:=eh▸S.app _
 have g2:hh[h.length]? = some (.lst (az t.reverse++[.int k])):=eh▸pK
 have lt:(az t.reverse).length=t.length:=by simp [az]
 have lz:z.length<=y.length:=by rw [<- rd,bY];lia
 rcases g.kind T with ⟨e1,e2,e3,e4,e5⟩ | ⟨a,b,ma,mb,y1,y2,fa,la,fb,lb,e1,e2,e3,A,B,e4,e5,e6⟩
 ·have tn:=GJ (o1:=some (.int n)) (o4:=o4) (o5:=o5) Sh T.n1 e1 (W:=h.length) (y:=z) (by omega) g2 (by lia) e5
  rw [een,tn]
  refine ⟨(t.map (wt ps)).sum,by lia,z++x,t,r,_,_,?_,rfl,fun j hj=>al j (by simp [hj]),?_,rfl,by lia⟩
  ·rw [eh,ur]
  ·rw [<- rd,JS,rd_of T]
   show _=z++(x++br (t.map (eg ps)))
   rw [c8]
 ·have tn:=GL (o1:=some (.int n)) (o4:=o4) (o5:=o5) (y:=z) Sh T.n1 e1 (W:=h.length) (by omega) g2 (by lia)
  have wa:=nF A.ms
  have wb:=nF B.ms
  have l1:=A.ky.lv
  have l2:=B.ky.lv
  have lm:m.lv=ma.lv+mb.lv:=by rw [e5];rfl
  rw [een,tn]
  refine ⟨((a::b::t).map (wt ps)).sum,by rw [JS,JS,Mb,Mb];lia,z,a::b::t,r++[.lst [.int b,.int a]],_,_,?_,rfl,fun j hj=>?_,?_,rfl,?_⟩
  ·rw [eh,ur]
   simp [az]
  ·rcases J8.mp hj with rfl | hj
   ·exact ⟨_,_,_,_,A⟩
   ·rcases J8.mp hj with rfl | hj
    ·exact ⟨_,_,_,_,B⟩
    ·exact al j (by simp [hj])
  ·rw [<- rd,JS,JS,JS,rd_of A,rd_of B,rd_of T,e4]
   show z++(y1++(y2++br (t.map (eg ps))))=z++((y1++y2)++br (t.map (eg ps)))
   rw [c8 y1]
  ·rw [JS,JS,Mb,Mb];lia
theorem GO {h:AH} {p:Nat} {ps:List Pc} {n:Nat} {m:Ms} {y:Str} {f l:Ms} (S:ShelfAt h p ps) (g:Good ps) (T:Tx ps n m y f l) (hy:y.length<=10000):∃ r:AH,jQ [.ref p,.int n] h = .ok (.str y) (h++r):=by
 have lv:=GH T
 have sg:=T.ky.sg
 have w1:=nF T.ms
 obtain ⟨e',h',q1,r,o4,o5,q2,q3⟩:=ph (c:=aU (ag bg (aa 3) (bU ae))) (b:=fF) (fuel:=d5) (n:=wt ps n) (en:=[some (.ref p),some (.int n),some (.str ""),some (.ref h.length),none,none]) (h:=h++(.lst [.int n]::[]))
  (fun N en hh=>∃ (z:Str) (tk:List Nat) (r:AH) (o4 o5:Option AV),hh=h++(.lst (az tk.reverse)::r)/\en=[some (.ref p),some (.int n),some (.str z),some (.ref h.length),o4,o5]/\(∀ j∈tk,∃ m x f l,Tx ps j m x f l)/\z++br (tk.map (eg ps))=y/\N=(tk.map (wt ps)).sum/\N<=20000)
  (fun en hh=>∃ (r:AH) (o4 o5:Option AV),hh=h++(.lst []::r)/\en=[some (.ref p),some (.int n),some (.str y),some (.ref h.length),o4,o5])
  ⟨"",[n],[],none,none,rfl,rfl,fun j hj=>by simp at hj;subst hj;exact ⟨_,_,_,_,T⟩,by
   show ("" : Str)++br [eg ps n]=y
   rw [i9,rd_of T]
   exact cX (by rw [dJ];rfl),by simp,by lia⟩ (by show _<100000000;lia) (by
   rintro N en hh ⟨z,tk,r,o4,o5,eh,een,al,rd,eN,hN⟩
   have nn:=uq (h:=hh) (W:=h.length) (ns:=tk.reverse) (eh▸pK)
   have c:aU (ag bg (aa 3) (bU ae)) en hh = .ok (!decide (tk.reverse=[])) hh:=by
    subst een
    simp [nn,-bg]
   rw [c]
   cases tk with
   | nil =>
    have zy:z=y:=by
     rw [<- rd]
     exact (cX (by show _=(z++("" : Str)).cps.toList;rw [dJ];simp;rfl))
    subst zy
    exact ⟨r,o4,o5,eh,een⟩
   | cons k t =>
    have:(!decide ((k::t).reverse=[]))=true:=by simp
    rw [this]
    exact GN S g eh een al rd eN hN hy)
 refine ⟨.lst []::r,?_⟩
 rw [<- q2]
 subst q3
 unfold jQ
 generalize hw:du (aU (ag bg (aa 3) (bU ae))) fF d5=WH at *
 simp [q1]
theorem GP {h:AH} {p:Nat}:∃ r:AH,jQ [.ref p,.int 0] h = .ok (.str "") (h++r):=by
 obtain ⟨e',h',q1,o4,q2,q3⟩:=ph (c:=aU (ag bg (aa 3) (bU ae))) (b:=fF) (fuel:=d5) (n:=1) (en:=[some (.ref p),some (.int 0),some (.str ""),some (.ref h.length),none,none]) (h:=h++(.lst (az [0])::[]))
  (fun N en hh=>∃ (ns:List Nat) (o4:Option AV),hh=h++(.lst (az ns)::[])/\en=[some (.ref p),some (.int 0),some (.str ""),some (.ref h.length),o4,none]/\((N=1/\ns=[0])\/(N=0/\ns=[])))
  (fun en hh=>∃ (o4:Option AV),hh=h++(.lst []::[])/\en=[some (.ref p),some (.int 0),some (.str ""),some (.ref h.length),o4,none])
  ⟨[0],none,rfl,rfl,.inl ⟨rfl,rfl⟩⟩ (by show 1<100000000;lia) (by
   rintro N en hh ⟨ns,o4,eh,een,hs⟩
   have nn:=uq (h:=hh) (W:=h.length) (ns:=ns) (eh▸pK)
   have c:aU (ag bg (aa 3) (bU ae)) en hh = .ok (!decide (ns=[])) hh:=by
    subst een
    simp [nn,-bg]
   rw [c]
   rcases hs with ⟨rfl,rfl⟩ | ⟨rfl,rfl⟩
   ·have g2:hh[h.length]? = some (.lst ([]++[.int 0])):=eh▸pK
    have po:=pJ g2
    have hs:hh.set h.length (.lst [])=h++(.lst []::[]):=by rw [eh,ur]
    rw [hs] at po
    have il:aZ (.ref h.length) hh=true:=by simp only [aZ,cU,g2];rfl
    have e:fF en hh = .nx [some (.ref p),some (.int 0),some (.str ""),some (.ref h.length),some (.int 0),none] (h++(.lst []::[])):=by
     subst een
     simp [fF,il,po,-aZ,-cO]
    show thn (fF en hh) _
    rw [e]
    exact ⟨0,by lia,[],_,rfl,rfl,.inr ⟨rfl,rfl⟩⟩
   ·exact ⟨o4,eh,een⟩)
 refine ⟨_,by
  rw [<- q2]
  subst q3
  unfold jQ
  generalize hw:du (aU (ag bg (aa 3) (bU ae))) fF d5=WH at *
  simp [az] at q1
  simp [q1]⟩
theorem GT {h:AH} {p:Nat} {ps:List Pc} {n:Nat} {y:Str} (S:ShelfAt h p ps) (g:Good ps) (t:TxZ ps n y) (hy:y.length<=10000):∃ r:AH,jQ [.ref p,.int n] h = .ok (.str y) (h++r):=by
 rcases t with ⟨rfl,rfl⟩ | ⟨m,f,l,T⟩
 ·exact GP
 ·exact GO S g T hy
end Sk
namespace Sk
open PySem PySem.Spec L2 Sm
theorem GU (c k:Int) (h:AH):∃ m,oO [.int c,.int k] h = .ok (.int m) h:=by
 have b1:0<=(c % 1000000007+7919*k+101)*48271 % 2147483647:=MM _ (by decide)
 have b2:(c % 1000000007+7919*k+101)*48271 % 2147483647<2147483647:=M6 _ (by decide)
 refine ⟨(c % 1000000007+7919*k+101)*48271 % 2147483647*((c % 1000000007+7919*k+101)*48271 % 2147483647) % 2147483629*69621 % 2147483647,?_⟩
 generalize he:(c % 1000000007+7919*k+101)*48271 % 2147483647=v at *
 have c1:v.natAbs<18446744073709551616:=by lia
 simp [oO,he,c1]
theorem GV {i j:Int} {h:AH} (hi:i.natAbs<2 ^ 4000) (hj:j.natAbs<2 ^ 4000):bI (.int i) (.int j) h = .ok (.int (i*j)) h:=JJ (.inr ⟨hi,hj⟩)
theorem GW (ns:List Int):mC (ns.map AV.int)=some ns:=by
 induction ns with
 | nil=>rfl
 | cons n r ih=>simp [ih]
abbrev T60:Int:=1000000000000000000000000000000000000000000000000000000000000000000000000000000000000000000000000000000000000000000000000
theorem GY:(10:Nat) ^ 720<2 ^ 4000:=by decide +kernel
theorem GZ:T60.natAbs<2 ^ 4000:=by decide +kernel
theorem G0 (ns:List Int) (k:Nat) (i:Nat) (c:Nat) (o:Option AV) (h:AH) (hi:i<6) (hc:c<10 ^ (120*i)) (hj:k+i*12<ns.length) :
  ∃ c':Nat,c'<10 ^ (120*(i+1))/\kJ [some (.fl (ns.map AV.int)),some (.int k),some (.int c),some (.int ((k:Int)+i*12)),o] h = .nx [some (.fl (ns.map AV.int)),some (.int k),some (.int c'),some (.int ((k:Int)+i*12)),o] h:=by
 obtain ⟨s,es⟩:∃ s,ns[k+i*12]? = some s:=⟨ns[k+i*12],by simp [hj]⟩
 have ix:au (.fl (ns.map AV.int)) (.int ((k:Int)+i*12)) h = .ok (.int s) h:=by
  rw [show ((k:Int)+i*12)=((k+i*12:Nat):Int) by simp]
  simp only [au,FP es]
 have p1:(10:Nat) ^ (120*i)<=10 ^ 720:=Nat.pow_le_pow_right (by decide) (by lia)
 have m1:((c:Int)).natAbs<2 ^ 4000:=by
  have:=GY
  exact LG (show c<10 ^ 720 by lia) this
 have mu:bI (.int c) (.int T60) h = .ok (.int (c*T60)) h:=GV m1 GZ
 have r0:0<=s % T60:=MM _ (by decide)
 have r1:s % T60<T60:=M6 _ (by decide)
 obtain ⟨r,er⟩:∃ r:Nat,s % T60=(r:Int):=⟨(s % T60).toNat,(Ob r0).symm⟩
 have rl:r<10 ^ 120:=by
  have:(r:Int)<T60:=er▸r1
  have e:T60=((10 ^ 120:Nat):Int):=by decide +kernel
  rw [e] at this;exact Int.ofNat_lt.mp this
 obtain ⟨c',ec,lc⟩:∃ c':Nat,(c:Int)*T60+r=(c':Int)/\c'<10 ^ (120*(i+1)):=by
  refine ⟨c*10 ^ 120+r,?_,?_⟩
  ·have e:T60=((10 ^ 120:Nat):Int):=by decide +kernel
   rw [e,NG,Int.natCast_mul]
  ·rw [show 120*(i+1)=120*i+120 by lia,Nat.pow_add]
   have:(c+1)*10 ^ 120<=10 ^ (120*i)*10 ^ 120:=Nat.mul_le_mul_right _ hc
   have e2:(c+1)*10 ^ 120=c*10 ^ 120+10 ^ 120:=Nat.succ_mul _ _
   lia
 refine ⟨c',lc,?_⟩
 have pw:(ag bI (ag cJ (af (.int 10)) (af (.int 60))) (ag cJ (af (.int 10)) (af (.int 60)))) [some (.fl (ns.map AV.int)),some (.int k),some (.int c),some (.int ((k:Int)+i*12)),o] h = .ok (.int T60) h:=by simp
 have md:cI (.int s) (.int T60) h = .ok (.int r) h:=by simp only [cI];rw [JJ (by decide),er]
 clear p1 m1 r0 r1 er rl hc lc hi
 unfold kJ
 generalize ag bI (ag cJ (af (.int 10)) (af (.int 60))) (ag cJ (af (.int 10)) (af (.int 60)))=PW at *
 generalize T60=t60 at *
 simp [pw,mu,ix,md,ec,-bI,-au,-cI]
theorem G5 (en0:Option AV) (ns:List Int) (k c f j:Int) (h:AH):∃ f',kK [some (.fl (ns.map AV.int)),some (.int k),some (.int c),some (.int j),some (.int f)] h = .nx [some (.fl (ns.map AV.int)),some (.int k),some (.int c),some (.int j),some (.int f')] h:=by
 obtain ⟨m,hm⟩:=GU (c+1009*k+ns.length) j h
 refine ⟨f*2147483647+m,?_⟩
 have m1:bI (.int f) (.int 2147483647) h = .ok (.int (f*2147483647)) h:=FO (by decide)
 have m2:bI (.int 1009) (.int k) h = .ok (.int (1009*k)) h:=FN (by decide)
 simp [kK,hm,m1,m2,-bI]
theorem uv (ns:List Int) (hl:ns.length<=63) (k:Nat) (hk:k<=10) (h:AH):∃ N:Int,fN [.fl (ns.map AV.int),.int k] h = .ok (.ref h.length) (h++[.lst [.int N]]):=by
 obtain ⟨M,eM⟩:∃ M:Nat,M=(if (k:Int)<(ns.length:Int) then ((ns.length:Int)-k-1) / 12+1 else 0).toNat:=⟨_,rfl⟩
 have hM:M<=6/\∀ i,i<M->k+i*12<ns.length:=by
  rw [eM]
  split
  ·refine ⟨by (clear eM hk;lia),fun i hi=>by (clear eM hk hl;omega)⟩
  ·refine ⟨by lia,fun i hi=>by simp at hi⟩
 obtain ⟨e1,h1,r1,r2⟩:=gv (w:=none) (all:=(List.range M).map (fun m:Nat=>AV.int ((k:Int)+m*12))) (t:=.nm 3) (b:=kJ) (xs:=(List.range M).map (fun m:Nat=>AV.int ((k:Int)+m*12))) (en:=[some (.fl (ns.map AV.int)),some (.int k),some (.int 0),none,none]) (h:=h)
  (fun i en h' => h'=h/\∃ (c:Nat) (o:Option AV),c<10 ^ (120*i)/\en=[some (.fl (ns.map AV.int)),some (.int k),some (.int c),o,none]) ⟨rfl,0,none,by decide,rfl⟩ (fun _ _ _ _=>rfl) (by
   rintro j x en h' hx ⟨rfl,c,o,hc,rfl⟩
   rw [Kh] at hx
   obtain ⟨m,em,rfl⟩:=J3.mp hx
   have hj:j<M:=by
    have:=(JD.mp em).1;simpa using this
   rw [MP hj] at em
   cases em
   obtain ⟨c',l',e⟩:=G0 ns k j c none h' (by have:=hM.1;(clear this hx hc eM hk hl;lia)) hc (hM.2 j hj)
   show thn (kJ [some (.fl (ns.map AV.int)),some (.int k),some (.int c),some (.int ((k:Int)+j*12)),none] h') _
   rw [e]
   exact ⟨rfl,c',_,l',rfl⟩)
 obtain ⟨rfl,c,o,hc,rfl⟩:=r2
 have z1:(k:Int).natAbs<1099511627776:=by (clear r1 hc hM eM hl;omega)
 have z2:((ns.length:Nat):Int).natAbs<1099511627776:=by (clear z1 r1 hc hM eM hk;omega)
 have it3:ig (aa 1) (aD aL (ai (aa 0) ae)) (af (.int 12)) [some (.fl (ns.map AV.int)),some (.int k),some (.int 0),none,none] h1 = .ok ((List.range M).map (fun m:Nat=>AV.int ((k:Int)+m*12)),none) h1:=by
  simp only [ig,aa,aD,ai,ae,af,Out.bind,aL,List.getElem?_cons_zero,K0,tN]
  rw [JJ ⟨z1,z2,by decide,by decide⟩,<- eM]
 have f1:=(gQ (t:=.nm 3) (b:=kJ) it3).trans r1
 clear r1 it3
 by_cases hb:(1000000000000000000:Int)<=c
 ·exact ⟨c,by simp [fN,f1,hb,-bh]⟩
 ·have cm:=tG (js:=[]) (en:=[some (.fl (ns.map AV.int)),some (.int k),some (.int c),o,none]) (w:=none) (all:=ns.map AV.int) (e:=ag cI (aa 0) (ag cJ (af (.int 10)) (af (.int 18)))) (g:=AV.int) (f:=fun i=>AV.int (i % 1000000000000000000)) (h:=h1) rfl ns [] (by intro i _;simp) (by
    simp only [KW];exact JK (show 0+ns.length<=63 by lia) (by decide))
  have im:(ns.map fun i=>AV.int (i % 1000000000000000000))=(ns.map fun i=>i % 1000000000000000000).map AV.int:=by simp
  obtain ⟨S,eS⟩:∃ S:Int,S=(ns.map fun i=>i % 1000000000000000000).sum:=⟨_,rfl⟩
  have sm:fD [.fl (ns.map fun i=>AV.int (i % 1000000000000000000))] h1 = .ok (.int S) h1:=by
   rw [im,eS];simp only [fD,GW]
  obtain ⟨e2,h2,s1,s2⟩:=gv (w:=none) (all:=bO 0 12) (t:=.nm 3) (b:=kK) (xs:=bO 0 12) (en:=[some (.fl (ns.map AV.int)),some (.int k),some (.int (c+S)),o,some (.int 0)]) (h:=h1)
   (fun i en h' => h'=h1/\∃ (f:Int) (o:Option AV),en=[some (.fl (ns.map AV.int)),some (.int k),some (.int (c+S)),o,some (.int f)]) ⟨rfl,0,o,rfl⟩ (fun _ _ _ _=>rfl) (by
    rintro j x en h' hx ⟨rfl,f,o,rfl⟩
    rw [mX] at hx
    by_cases q:j<12
    ·rw [JJ q] at hx
     cases hx
     obtain ⟨f',e⟩:=G5 none ns k (c+S) f (0+(j:Int)) h'
     show thn (kK [some (.fl (ns.map AV.int)),some (.int k),some (.int (c+S)),some (.int (0+(j:Int))),some (.int f)] h') _
     rw [e]
     exact ⟨rfl,f',_,rfl⟩
    ·rw [JM q] at hx;cases hx)
  obtain ⟨rfl,f,o',rfl⟩:=s2
  have f2:=(gQ (t:=.nm 3) (b:=kK) (mY (a:=af (.int 12)) (en:=[some (.fl (ns.map AV.int)),some (.int k),some (.int (c+S)),o,some (.int 0)]) (h:=h2) (n:=12) rfl (by decide))).trans s1
  refine ⟨f,?_⟩
  simp at cm
  simp [fN,f1,hb,cm,sm,f2,-bh,-fD]
theorem G6 {h:AH} {st:Nat} {n:Int} (m:Nat) (e:h[st]? = some (.lst [.int n])) (hm:0<m) (hm2:m<=10 ^ 50):∃ v:Nat,v<m/\cx [.ref st,.int m] h = .ok (.int v) (h.set st (.lst [.int (n / m)])):=by
 have a0:atI [AV.int n] 0=some (.int n):=rfl
 have i0:gX 1 0=some 0:=rfl
 have hm0:(0:Int)<m:=Int.ofNat_lt.mpr hm
 have hm3:m<1606938044258990275541962092341162602522202993782792835301376:=Ka hm2 (by decide)
 refine ⟨(n % m).toNat,?_,?_⟩
 ·have:=M6 n hm0;have:=MM n (show (m:Int)≠0 by lia);lia
 ·rw [Ob (MM n (show (m:Int)≠0 by lia))]
  simp [cx,e,a0,hm0,hm,hm3,i0]
theorem G7 {x:Str} {v:Nat} (hv:v<x.length) (hx:bp x=true) (h:AH):∃ c,kN c=true/\au (.str x) (.int v) h = .ok (.str ⟨#[c]⟩) h:=by
 have hv':v<x.cps.toList.length:=by rw [<- dP];exact hv
 refine ⟨x.cps.toList[v],Kz.mp hx _ (Nj hv'),?_⟩
 have e:x.cps.toList[v]? = some x.cps.toList[v]:=JY hv'
 simp only [au,qL e]
theorem iE {hh:AH} {L:Nat} {N:Int} (m:Nat) (e:hh[L]? = some (.lst [.int N])) (hm:0<m) (hm2:m<=10 ^ 50):∃ (v:Nat) (N':Int),v<m/\cx [.ref L,.int m] hh = .ok (.int v) (hh.set L (.lst [.int N'])):=by
 obtain ⟨v,hv,e1⟩:=G6 m e hm hm2
 exact ⟨v,N / m,hv,e1⟩
theorem G8 {y:Str} {c:Nat} (hy:bp y=true) (hc:kN c=true):bp (y++⟨#[c]⟩)=true/\(y++(⟨#[c]⟩:Str)).length=y.length+1:=by
 refine ⟨?_,by rw [bY];rfl⟩
 rw [nt,hy]
 simp [bp,hc]
def lowS:Str := "abcdefghijklmnopqrstuvwxyz"
def upS:Str := "ABCDEFGHIJKLMNOPQRSTUVWXYZ"
def restS:Str := " !#$&'()*+,-./0123456789:;<=>?\x40[]^_{|}~\n\\"
def fG:List Str:=["a", "ab", "ab\n", "a \n~",(lowS++upS)++restS]
theorem nG:∀ x∈fG,bp x=true/\1<=x.length/\x.length<=200:=by decide +kernel
theorem zc:Txt.upper lowS=upS:=by decide +kernel
theorem G9 (h:AH):oJ (.str lowS) [] h = .ok (.str upS) h:=by
 have c:(Txt.upper lowS).length<=sizeLine/\(Txt.upper lowS).cps.all (· < 0x110000)=true:=by rw [zc];decide +kernel
 show (if (Txt.upper lowS).length<=sizeLine/\(Txt.upper lowS).cps.all (· < 0x110000)=true then Out.ok (AV.str (Txt.upper lowS)) h else .bad)=_
 rw [JJ c,zc]
theorem Ha (v:Nat) (hv:v<5):∃ z:Str,(∀ h,au (.fl [.str "a",.str "ab",.str "ab\n",.str "a \n~",.str ((lowS++upS)++restS)]) (.int (v:Int)) h = .ok (.str z) h)/\bp z=true/\1<=z.length/\z.length<=200:=by
 have:v=0\/v=1\/v=2\/v=3\/v=4:=by lia
 rcases this with rfl | rfl | rfl | rfl | rfl
 ·exact ⟨_,fun _=>rfl,nG _ (by simp [fG])⟩
 ·exact ⟨_,fun _=>rfl,nG _ (by simp [fG])⟩
 ·exact ⟨_,fun _=>rfl,nG _ (by simp [fG])⟩
 ·exact ⟨_,fun _=>rfl,nG _ (by simp [fG])⟩
 ·exact ⟨_,fun _=>rfl,nG _ (by simp [fG])⟩
theorem Hb {hh:AH} {L:Nat} {N:Int} (most:Nat) (hm:most<=1000) (e:hh[L]? = some (.lst [.int N])):∃ (y:Str) (N':Int),mL [.ref L,.int most] hh = .ok (.str y) (hh.set L (.lst [.int N']))/\bp y=true/\y.length<=most:=by
 have Ll:=bH e
 obtain ⟨v,N1,hv,t1⟩:=iE 5 e (by decide) (by decide)
 have t1':cx [.ref L,.int 5] hh = .ok (.int v) (hh.set L (.lst [.int N1])):=t1
 obtain ⟨z,ez,pz,z1,z2⟩:=Ha v hv
 have e1:(hh.set L (.lst [.int N1]))[L]? = some (.lst [.int N1]):=JR Ll
 obtain ⟨k,N2,hk,t2⟩:=iE (most+1) e1 (Nat.succ_pos _) (JK (Nat.succ_le_succ hm) (by decide))
 rw [Nr] at t2
 have t2':cx [.ref L,.int ((most:Int)+1)] (hh.set L (.lst [.int N1])) = .ok (.int k) (hh.set L (.lst [.int N2])):=by
  have:=t2;rw [Int.natCast_succ] at this;exact this
 obtain ⟨W3,eW3⟩:∃ W3:Str,W3=(lowS++upS)++restS:=⟨_,rfl⟩
 rw [<- eW3] at ez
 obtain ⟨e',h',r1,y,N3,o4,r2,r3,r4,r5⟩:=gv (w:=none) (all:=bO 0 k) (t:=.nm 6) (b:=jJ) (xs:=bO 0 k) (en:=[some (.ref L),some (.int most),some (.str lowS),some (.str W3),some (.str z),some (.str ""),none]) (h:=hh.set L (.lst [.int N2]))
  (fun j en h' => ∃ (y:Str) (N':Int) (o4:Option AV),en=[some (.ref L),some (.int most),some (.str lowS),some (.str W3),some (.str z),some (.str y),o4]/\h'=hh.set L (.lst [.int N'])/\bp y=true/\y.length=j) ⟨"",N2,none,rfl,rfl,rfl,rfl⟩ (fun _ _ _ _=>rfl) (by
   rintro j u en h' hu ⟨y,N',o4,rfl,rfl,py,ly⟩
   have jk:j<k:=by have:=(JD.mp hu).1;rwa [gP] at this
   have e3:(hh.set L (.lst [.int N']))[L]? = some (.lst [.int N']):=JR Ll
   obtain ⟨t,N4,ht,et⟩:=iE z.length e3 (by lia) (JK z2 (by decide))
   rw [Nr] at et
   obtain ⟨c,pc,ec⟩:=G7 ht pz (hh.set L (.lst [.int N4]))
   have ad:aA (.str y) (.str ⟨#[c]⟩) (hh.set L (.lst [.int N4])) = .ok (.str (y++⟨#[c]⟩)) (hh.set L (.lst [.int N4])):=by
    have:y.length+(⟨#[c]⟩:Str).length<=sizeLine:=JK (m:=1001) (by show y.length+1<=_;lia) (by decide)
    simp only [aA,this,Ly]
   have es:jJ [some (.ref L),some (.int most),some (.str lowS),some (.str W3),some (.str z),some (.str y),some u] (hh.set L (.lst [.int N'])) = .nx [some (.ref L),some (.int most),some (.str lowS),some (.str W3),some (.str z),some (.str (y++⟨#[c]⟩)),some u] (hh.set L (.lst [.int N4])):=by
    generalize hh.set L (.lst [.int N4])=h2 at *
    generalize hh.set L (.lst [.int N'])=h1 at *
    simp [jJ,et,ec,ad,-au,-aA]
   show thn (jJ [some (.ref L),some (.int most),some (.str lowS),some (.str W3),some (.str z),some (.str y),some u] (hh.set L (.lst [.int N']))) _
   rw [es]
   obtain ⟨q1,q2⟩:=G8 py pc
   exact ⟨_,N4,_,rfl,rfl,q1,by rw [q2,ly]⟩)
 rw [gP] at r5
 have f1:=(gQ (t:=.nm 6) (b:=jJ) (mY (a:=aD cx (ai (aa 0) (ai (ag aA (aa 1) (af (.int 1))) ae))) (en:=[some (.ref L),some (.int most),some (.str lowS),some (.str W3),some (.str z),some (.str ""),none]) (h:=hh.set L (.lst [.int N1])) (n:=k) (by simp [t2']) (by lia))).trans r1
 refine ⟨y,N3,?_,r4,by lia⟩
 rw [<- r3]
 subst r2
 have a1:aA (.str lowS) (.str upS) hh = .ok (.str (lowS++upS)) hh:=by
  have:lowS.length+upS.length<=sizeLine:=by decide +kernel
  simp only [aA,this,Ly]
 have a2:aA (.str (lowS++upS)) (.str restS) hh = .ok (.str W3) hh:=by
  have:(lowS++upS).length+restS.length<=sizeLine:=by decide +kernel
  rw [eW3]
  simp only [aA,this,Ly]
 have mu:=G9 hh
 have el:Str.ofString "abcdefghijklmnopqrstuvwxyz" = lowS:=rfl
 have er:Str.ofString " !#$&'()*+,-./0123456789:;<=>?\x40[]^_{|}~\n\\" = restS:=rfl
 unfold mL
 rw [el,er]
 generalize bh (eG (aD cx (ai (aa 0) (ai (ag aA (aa 1) (af (.int 1))) ae)))) (.nm 6) jJ=F1 at *
 generalize hh.set L (.lst [.int N1])=h1 at *
 generalize lowS=LO at *
 generalize upS=UP at *
 generalize restS=RS at *
 generalize LO++UP=LU at *
 simp [mu,a1,a2,t1',ez,f1,-aA,-au]
structure Gx (p:Nat) (M:List Nat) (h h':AH) (ps ps':List Pc) (k:Nat):Prop where
 sh:ShelfAt h' p ps'
 gd:Good ps'
 pre:ps <+: ps'
 len:ps'.length<=ps.length+k
 fr:∀ i,(i<p\/p+8<i)->i∉M->i<h.length->h'[i]? = h[i]?
 hl:h.length<=h'.length
 al:cL 64 ps->cL 64 ps'
theorem Gx.refl {p:Nat} {h:AH} {ps:List Pc} (S:ShelfAt h p ps) (g:Good ps) (M:List Nat):Gx p M h h ps ps 0:=⟨S,g,KN _,by lia,fun _ _ _ _=>rfl,JE _,id⟩
theorem Gx.trans {p:Nat} {M:List Nat} {h h' h'':AH} {ps ps' ps'':List Pc} {k k' k2:Nat} (a:Gx p M h h' ps ps' k) (b:Gx p M h' h'' ps' ps'' k') (hk:k+k'<=k2):Gx p M h h'' ps ps'' k2 :=
 ⟨b.sh,b.gd,a.pre.trans b.pre,by have:=a.len;have:=b.len;lia,fun i hi hn hl=>(b.fr i hi hn (Kd hl a.hl)).trans (a.fr i hi hn hl),JK a.hl b.hl,fun f=>b.al (a.al f)⟩
theorem Gx.set {p L:Nat} {h:AH} {ps:List Pc} (S:ShelfAt h p ps) (g:Good ps) (hL:L<p\/p+8<L) (M:List Nat) (hM:L∈M) (v:AO):Gx p M h (h.set L v) ps ps 0 :=
 ⟨S.keep fun i i1 i8=>JI (by lia),g,KN _,by lia,fun i _ hn _=>JI (fun (z:L=i)=>hn (z▸hM)),by simp,id⟩
theorem Gx.dd {p:Nat} {M:List Nat} {h h':AH} {ps ps':List Pc} {k k2:Nat} (d:Dd p h h' ps ps' k) (hk:k<=k2) (al:cL 64 ps->cL 64 ps'):Gx p M h h' ps ps' k2 :=
 ⟨d.sh,d.gd,d.pre,JK d.len (Kq hk _),fun i hi _ _=>d.fr i (hi.imp Mn id),by rw [d.hl];exact JE _,al⟩
theorem Gx.app {p:Nat} {M:List Nat} {h h':AH} {ps ps':List Pc} {k:Nat} (a:Gx p M h h' ps ps' k) (r:AH):Gx p M h (h' ++ r) ps ps' k :=
 ⟨a.sh.app r,a.gd,a.pre,a.len,fun i hi hn hl=>by rw [JF (Kd hl a.hl)];exact a.fr i hi hn hl,by rw [JT];exact JK a.hl (Lf _ _),a.al⟩
theorem Gx.more {p:Nat} {M M':List Nat} {h h':AH} {ps ps':List Pc} {k:Nat} (a:Gx p M h h' ps ps' k) (s:∀ i∈M,i∈M'):Gx p M' h h' ps ps' k :=
 ⟨a.sh,a.gd,a.pre,a.len,fun i hi hn hl=>a.fr i hi (fun z=>hn (s i z)) hl,a.hl,a.al⟩
theorem Hc {x:Str} {a:Nat} (h:AH):dO (.str x) (some (a:Int)) none h = .ok (.str (fT x a)) h:=by
 by_cases ha:a<=x.length
 ·exact GG ha h
 ·have:bD x (some (a:Int)) none=fT x a:=cX (by
   unfold bD
   rw [HT.sIx_nat,HT.sIx_none,nE]
   rw [dP] at ha
   rw [Nat.min_eq_right (by lia)]
   show (x.cps.toList.drop x.cps.toList.length).take _=_
   rw [L6,Ku (by lia),List.take_nil])
  simp only [dO,this]
theorem Hd (x:Str) (a:Nat):fS x a++fT x a=x:=cX (by rw [dJ,uo,nE,Kj])
theorem He {z:Str} (q : ¬ z = ""):1<=z.length:=by
 apply Classical.byContradiction
 intro hc
 apply q
 apply cX
 rw [dP] at hc
 have:z.cps.toList=[]:=Mm.mp (by lia)
 rw [this];rfl
theorem Hf (z:Str):z++("" : Str)=z:=cX (by rw [dJ];simp;rfl)
theorem Hg (z:Str):("" : Str)++z=z:=cX (by rw [dJ];rfl)
theorem Hh {h:AH} {p L W:Nat} {y:Str} (py:bp y=true) (hy:y.length<=40) (hW:W=h.length) (eL:∃ N:Int,h[L]? = some (.lst [.int N])) (v:Int) :
  ∃ (ws:List Str) (N:Int) (o5:Option AV),du (aU (ag bg (aa 2) (af (.str "")))) i4 d5 [some (.ref p),some (.ref L),some (.str y),some (.int v),some (.ref W),none,none,none] (h++[.lst []]) = .nx [some (.ref p),some (.ref L),some (.str ""),some (.int v),some (.ref W),o5,none,none] (h.set L (.lst [.int N])++[.lst (ws.map AV.str)])/\br ws=y/\(∀ w∈ws,bp w=true)/\ws.length<=40:=by
 obtain ⟨N0,eL⟩:=eL
 have Ll:=bH eL
 have h0:h.set L (.lst [.int N0])=h:=by
  apply LX
  intro i
  by_cases q:i=L
  ·subst q;rw [JR Ll,eL]
  ·rw [JI (by lia)]
 obtain ⟨e',h',q1,ws,N,o5,q2,q3,q4,q5,q6⟩:=ph (c:=aU (ag bg (aa 2) (af (.str "")))) (b:=i4) (fuel:=d5) (n:=y.length) (en:=[some (.ref p),some (.ref L),some (.str y),some (.int v),some (.ref W),none,none,none]) (h:=h++[.lst []])
  (fun n en hh=>∃ (ws:List Str) (z:Str) (N:Int) (o5:Option AV),hh=h.set L (.lst [.int N])++[.lst (ws.map AV.str)]/\en=[some (.ref p),some (.ref L),some (.str z),some (.int v),some (.ref W),o5,none,none]/\br ws++z=y/\(∀ w∈ws,bp w=true)/\bp z=true/\n=z.length/\ws.length+z.length<=40)
  (fun en hh=>∃ (ws:List Str) (N:Int) (o5:Option AV),hh=h.set L (.lst [.int N])++[.lst (ws.map AV.str)]/\en=[some (.ref p),some (.ref L),some (.str ""),some (.int v),some (.ref W),o5,none,none]/\br ws=y/\(∀ w∈ws,bp w=true)/\ws.length<=40)
  ⟨[],y,N0,none,by rw [h0];rfl,rfl,Hg y,fun _ z=>(nomatch z),py,rfl,by simpa using hy⟩ (Ka hy (by decide)) (by
   rintro n en hh ⟨ws,z,N,o5,eh,een,cz,pw,pz,en',lw⟩
   have c:aU (ag bg (aa 2) (af (.str ""))) en hh = .ok (!decide (z = "")) hh:=by
    subst een
    simp
   rw [c]
   by_cases q:z = ""
   ·have:(!decide (z = ""))=false:=by simp [q]
    rw [this]
    subst q
    exact ⟨ws,N,o5,eh,een,by rw [<- cz,Hf],pw,by lia⟩
   ·have:(!decide (z = ""))=true:=by simp [q]
    rw [this]
    have z1:=He q
    have e1:hh[L]? = some (.lst [.int N]):=by rw [eh,JF (by simpa using Ll)];exact JR Ll
    obtain ⟨d,N',hd,t⟩:=iE 12 e1 (by decide) (by decide)
    have t':cx [.ref L,.int 12] hh = .ok (.int d) (hh.set L (.lst [.int N'])):=t
    have eh2:hh.set L (.lst [.int N'])=h.set L (.lst [.int N'])++[.lst (ws.map AV.str)]:=by
     rw [eh,NX _ _ (by simpa using Ll),Nr]
    rw [eh2] at t'
    have lW:(h.set L (.lst [.int N'])).length=W:=by simp [hW]
    have eW:(h.set L (.lst [.int N'])++[AO.lst (ws.map AV.str)])[W]? = some (.lst (ws.map AV.str)):=by rw [<- lW];simp
    have eS:(h.set L (.lst [.int N'])++[AO.lst (ws.map AV.str)]).set W (.lst ((ws++[fS z (1+d)]).map AV.str))=h.set L (.lst [.int N'])++[.lst ((ws++[fS z (1+d)]).map AV.str)]:=by rw [<- lW];simp
    have ap:bW (.ref W) [.str (fS z (1+d))] (h.set L (.lst [.int N'])++[AO.lst (ws.map AV.str)]) = .ok .non (h.set L (.lst [.int N'])++[.lst ((ws++[fS z (1+d)]).map AV.str)]):=by
     have sz:(ws.map AV.str).length<sizeLine:=Ka (m:=40) (by simp;lia) (by decide)
     rw [<- eS]
     simp only [bW,eW,sz,Ly,K6,JS,MT]
    have il:aZ (.ref W) (h.set L (.lst [.int N'])++[AO.lst (ws.map AV.str)])=true:=by simp only [aZ,cU,eW];rfl
    generalize hk1:h.set L (.lst [.int N'])++[AO.lst (ws.map AV.str)]=h1 at *
    generalize hk2:h.set L (.lst [.int N'])++[AO.lst ((ws++[fS z (1+d)]).map AV.str)]=h2 at *
    have c1:dO (.str z) none (some (1+(d:Int))) h1 = .ok (.str (fS z (1+d))) h1:=by
     have:=GE (x:=z) (a:=1+d) h1
     rw [NG] at this;exact this
    have c2:dO (.str z) (some (1+(d:Int))) none h2 = .ok (.str (fT z (1+d))) h2:=by
     have:=Hc (x:=z) (a:=1+d) h2
     rw [NG] at this;exact this
    have eB:i4 en hh = .nx [some (.ref p),some (.ref L),some (.str (fT z (1+d))),some (.int v),some (.ref W),some (.int (1+(d:Int))),none,none] h2:=by
     subst een
     simp [i4,t',il,c1,ap,c2,-aZ,-dO,-bW]
    show thn (i4 en hh) _
    rw [eB]
    have dl:=GB z (1+d)
    refine ⟨(fT z (1+d)).length,by (clear eB c2 c1 ap eS hk2 il eW eh2 t' hk1 lW t hd e1 this q c lw pz pw cz een eh h0 Ll eL hW hy py;omega),ws++[fS z (1+d)],fT z (1+d),N',_,hk2.symm,rfl,?_,?_,GD pz _,rfl,by simp;lia⟩
    ·rw [i7,i9,c8,Hd,cz]
    ·intro w hw
     rcases JQ.mp hw with hw | hw
     ·exact pw w hw
     ·rw [Kf.mp hw];exact GC pz _)
 exact ⟨ws,N,o5,by rw [q1,q2,q3],q4,q5,q6⟩
theorem zd:∀ (ws:List Str) (w:Str),w∈ws->w.length<=(br ws).length
 | [],w,h=>nomatch h
 | v::ws,w,h=>by
  show _<=(v++br ws).length
  rw [bY]
  rcases J8.mp h with rfl | h
  ·lia
  ·have:=zd ws w h;lia
theorem pL {α:Type} {xs:List α} {j:Nat} {w:α} (e:xs[j]? = some w):xs.take (j+1)=xs.take j++[w]:=by
 rw [M1,e];rfl
theorem ze {M n:Nat} {ps:List Pc} {x:Str} (T:TxZ ps n x) (h:x.length<=M):∀ m,(meas ps)[n]? = some m->m.sg<=M:=fun m e=>by
 obtain ⟨m0,e0,s⟩:=T.meas
 rw [e0] at e
 cases e
 lia
theorem uw:∀ (ws:List Str) (j:Nat),(br (ws.take j)).length<=(br ws).length
 | [],j=>by rw [List.take_nil];exact JE _
 | w::ws,0=>Kk _
 | w::ws,j+1=>by
  have:=uw ws j
  show (w++br (ws.take j)).length<=(w++br ws).length
  rw [bY,bY]
  lia
theorem ux:∀ ws:List Str,(br ws.reverse).length=(br ws).length
 | []=>rfl
 | w::ws=>by
  rw [List.reverse_cons,i7,i9,bY,ux ws]
  show _=(w++br ws).length
  rw [bY,LH]
theorem zf {h:AH} {p n:Nat} {ps:List Pc} {x w:Str} (S:ShelfAt h p ps) (g:Good ps) (T:TxZ ps n x) (hx:x.length<=2000) (pw:bp w=true) (hw:w.length<=40) (hs:x.length+w.length<=64) (hz:ps.length<13900000) (o1 o2 o3 o4 o5:Option AV) :
  (∃ (n':Nat) (ps':List Pc) (h':AH),ij [some (.ref p),o1,o2,o3,o4,o5,some (.int n),some (.str w)] h = .nx [some (.ref p),o1,o2,o3,o4,o5,some (.int n'),some (.str w)] h'/\Gx p [] h h' ps ps' 1500/\TxZ ps' n' (x++w)) /\
  (∃ (n':Nat) (ps':List Pc) (h':AH),ip [some (.ref p),o1,o2,o3,o4,o5,some (.int n),some (.str w)] h = .nx [some (.ref p),o1,o2,o3,o4,o5,some (.int n'),some (.str w)] h'/\Gx p [] h h' ps ps' 1500/\TxZ ps' n' (w++x)):=by
 obtain ⟨b,ps1,h1,eb,D,T1,al⟩:=y6 S g pw (by lia) (by lia)
 have l1:=D.len
 have T0:=T.pre D.pre
 have j1:=za D.gd T0 T1
 have j2:=za D.gd T1 T0
 obtain ⟨n1,ps2,h2,d1,T2⟩:=yX D.sh D.gd T0 T1 (by lia) (by lia)
 obtain ⟨n2,ps3,h3,d2,T3⟩:=yX D.sh D.gd T1 T0 (by lia) (by lia)
 have al0:cL 64 ps->cL 64 ps1:=fun f=>al 64 f (by lia)
 have al1:cL 64 ps1->cL 64 ps2:=fun f=>d1.al 64 f (ze T2 (by rw [bY];omega))
 have al2:cL 64 ps1->cL 64 ps3:=fun f=>d2.al 64 f (ze T3 (by rw [bY];lia))
 have e1:=d1.ev
 have e2:=d2.ev
 exact ⟨⟨n1,ps2,h2,by simp [ij,eb,e1],(Gx.dd (M:=[]) D (JE _) al0).trans (Gx.dd d1.dd j1 al1) (by lia),T2⟩,⟨n2,ps3,h3,by simp [ip,eb,e2],(Gx.dd (M:=[]) D (JE _) al0).trans (Gx.dd d2.dd j2 al2) (by lia),T3⟩⟩
theorem Hi {h:AH} {p W:Nat} {ps:List Pc} {ws:List Str} (S:ShelfAt h p ps) (g:Good ps) (hW:p+8<W) (eW:h[W]? = some (.lst (ws.map AV.str))) (pw:∀ w∈ws,bp w=true) (lw:∀ w∈ws,w.length<=40) (hl:ws.length<=40) (hc:(br ws).length<=64) (hz:ps.length<13000000) (o1 o2 o3 o4 o5:Option AV) :
  ∃ (n:Nat) (ps':List Pc) (h':AH) (o7:Option AV),cQ (some W) (ws.map AV.str) (.nm 7) ij (ws.map AV.str) [some (.ref p),o1,o2,o3,o4,o5,some (.int 0),none] h = .nx [some (.ref p),o1,o2,o3,o4,o5,some (.int n),o7] h'/\Gx p [] h h' ps ps' 60000/\TxZ ps' n (br ws):=by
 obtain ⟨e',h',r1,r2⟩:=gv (w:=some W) (all:=ws.map AV.str) (t:=.nm 7) (b:=ij) (xs:=ws.map AV.str) (en:=[some (.ref p),o1,o2,o3,o4,o5,some (.int 0),none]) (h:=h)
  (fun j en hh=>∃ (n:Nat) (ps':List Pc) (o7:Option AV),en=[some (.ref p),o1,o2,o3,o4,o5,some (.int n),o7]/\Gx p [] h hh ps ps' (1500*j)/\TxZ ps' n (br (ws.take j))/\(br (ws.take j)).length<=40*j)
  ⟨0,ps,none,rfl,Gx.refl S g [],.inl ⟨rfl,rfl⟩,Kk _⟩ (by
   rintro j en hh ⟨n,ps',o7,_,G,_⟩
   have:hh[W]? = some (.lst (ws.map AV.str)):=(G.fr W (.inr hW) (by simp) (bH eW)).trans eW
   simp [this]) (by
   rintro j u en hh hu ⟨n,ps',o7,rfl,G,T,lc⟩
   rw [Kh] at hu
   obtain ⟨w,ew,rfl⟩:=J3.mp hu
   have hj:=(JD.mp ew).1
   have mw:=Kb ew
   have gl:=G.len
   obtain ⟨n',ps2,h2,e,G2,T2⟩:=(zf G.sh G.gd T (by lia) (pw w mw) (lw w mw) (by have:=uw ws (j+1);rw [pL ew,i7,i9,bY] at this;lia) (by lia) o1 o2 o3 o4 o5).1
   have ts:br (ws.take (j+1))=br (ws.take j)++w:=by rw [pL ew,i7,i9]
   show thn (ij [some (.ref p),o1,o2,o3,o4,o5,some (.int n),some (.str w)] hh) _
   rw [e]
   exact ⟨n',ps2,_,rfl,G.trans G2 (by lia),by rw [ts];exact T2,by rw [ts,bY];have:=lw w mw;lia⟩)
 rw [J0] at r2
 obtain ⟨n,ps',o7,rfl,G,T,_⟩:=r2
 rw [L7] at T
 exact ⟨n,ps',h',o7,r1,{ G with len:=by have:=G.len;lia },T⟩
theorem Hj {h:AH} {p W:Nat} {ps:List Pc} {ws:List Str} (S:ShelfAt h p ps) (g:Good ps) (hW:p+8<W) (eW:h[W]? = some (.lst (ws.map AV.str))) (pw:∀ w∈ws,bp w=true) (lw:∀ w∈ws,w.length<=40) (hl:ws.length<=40) (hc:(br ws).length<=64) (hz:ps.length<13000000) (o1 o2 o3 o4 o5:Option AV) :
  ∃ (n:Nat) (ps':List Pc) (h':AH) (o7:Option AV),cQ (some W) (ws.map AV.str) (.nm 7) ip (ws.map AV.str).reverse [some (.ref p),o1,o2,o3,o4,o5,some (.int 0),none] h = .nx [some (.ref p),o1,o2,o3,o4,o5,some (.int n),o7] h'/\Gx p [] h h' ps ps' 60000/\TxZ ps' n (br ws):=by
 rw [<- List.map_reverse]
 obtain ⟨vs,ev⟩:∃ vs,vs=ws.reverse:=⟨_,rfl⟩
 rw [<- ev]
 have lv:vs.length=ws.length:=by rw [ev,MQ]
 obtain ⟨e',h',r1,r2⟩:=gv (w:=some W) (all:=ws.map AV.str) (t:=.nm 7) (b:=ip) (xs:=vs.map AV.str) (en:=[some (.ref p),o1,o2,o3,o4,o5,some (.int 0),none]) (h:=h)
  (fun j en hh=>∃ (n:Nat) (ps':List Pc) (o7:Option AV),en=[some (.ref p),o1,o2,o3,o4,o5,some (.int n),o7]/\Gx p [] h hh ps ps' (1500*j)/\TxZ ps' n (br (vs.take j).reverse)/\(br (vs.take j).reverse).length<=40*j)
  ⟨0,ps,none,rfl,Gx.refl S g [],.inl ⟨rfl,rfl⟩,Kk _⟩ (by
   rintro j en hh ⟨n,ps',o7,_,G,_⟩
   have:hh[W]? = some (.lst (ws.map AV.str)):=(G.fr W (.inr hW) (by simp) (bH eW)).trans eW
   simp [this]) (by
   rintro j u en hh hu ⟨n,ps',o7,rfl,G,T,lc⟩
   rw [Kh] at hu
   obtain ⟨w,ew,rfl⟩:=J3.mp hu
   have hj:=(JD.mp ew).1
   have mw:w∈ws:=by have:=Kb ew;rw [ev] at this;exact KM.mp this
   have gl:=G.len
   obtain ⟨n',ps2,h2,e,G2,T2⟩:=(zf G.sh G.gd T (by lia) (pw w mw) (lw w mw) (by have:=uw vs (j+1);rw [pL ew,i7,i9,bY] at this;have h2:=ux ws;rw [<- ev] at h2;have h3:=ux (vs.take j);lia) (by lia) o1 o2 o3 o4 o5).2
   have ts:br (vs.take (j+1)).reverse=w++br (vs.take j).reverse:=by rw [pL ew,MR];rfl
   show thn (ip [some (.ref p),o1,o2,o3,o4,o5,some (.int n),some (.str w)] hh) _
   rw [e]
   exact ⟨n',ps2,_,rfl,G.trans G2 (by lia),by rw [ts];exact T2,by rw [ts,bY];have:=lw w mw;lia⟩)
 rw [J0] at r2
 obtain ⟨n,ps',o7,rfl,G,T,_⟩:=r2
 rw [L7,ev,MF] at T
 exact ⟨n,ps',h',o7,r1,{ G with len:=by have:=G.len;lia },T⟩
theorem zg {h:AH} {p L:Nat} {ps:List Pc} {y:Str} (S:ShelfAt h p ps) (g:Good ps) (hL:p+8<L) (eL:∃ N:Int,h[L]? = some (.lst [.int N])) (py:bp y=true) (hy:y.length<=40) (hz:ps.length<13000000) :
  ∃ (n:Nat) (ps':List Pc) (h':AH),iq [.ref p,.ref L,.str y] h = .ok (.int n) h'/\Gx p [L] h h' ps ps' 60000/\TxZ ps' n y/\∃ N:Int,h'[L]? = some (.lst [.int N]):=by
 obtain ⟨N,eL⟩:=eL
 have Ll:=bH eL
 obtain ⟨u,N1,hu,t1⟩:=iE 3 eL (by decide) (by decide)
 have t1':cx [.ref L,.int 3] h = .ok (.int u) (h.set L (.lst [.int N1])):=t1
 have G1:Gx p [L] h (h.set L (.lst [.int N1])) ps ps 0:=Gx.set S g (.inr hL) [L] (by simp) _
 have e1:(h.set L (.lst [.int N1]))[L]? = some (.lst [.int N1]):=JR Ll
 have l1:L<(h.set L (.lst [.int N1])).length:=bH e1
 generalize h.set L (.lst [.int N1])=h1 at *
 by_cases q0:u=0
 ·subst q0
  obtain ⟨n,ps2,h2,eb,D,T,al⟩:=y6 G1.sh G1.gd py (by lia) (by lia)
  exact ⟨n,ps2,h2,by simp [iq,t1',eb],G1.trans (Gx.dd D (JE _) (fun f=>al 64 f (by lia))) (by lia),T,N1,(D.fr L (.inr hL)).trans e1⟩
 ·obtain ⟨ws,N2,o5,ew,cw,pw,lw⟩:=Hh (p:=p) (W:=h1.length) py hy rfl ⟨N1,e1⟩ u
  have G2:Gx p [L] h1 (h1.set L (.lst [.int N2])) ps ps 0:=Gx.set G1.sh G1.gd (.inr hL) [L] (by simp) _
  have lnW:(h1.set L (.lst [.int N2])).length=h1.length:=by simp
  have G3:=(G1.trans G2 (JE _)).app [.lst (ws.map AV.str)]
  have eW:(h1.set L (.lst [.int N2])++[AO.lst (ws.map AV.str)])[h1.length]? = some (.lst (ws.map AV.str)):=by rw [<- lnW];simp
  have eL3:(h1.set L (.lst [.int N2])++[AO.lst (ws.map AV.str)])[L]? = some (.lst [.int N2]):=by rw [JF (by rw [lnW];exact l1)];exact JR l1
  generalize h1.set L (.lst [.int N2])++[AO.lst (ws.map AV.str)]=h3 at *
  have wl:∀ w∈ws,w.length<=40:=fun w hw=>by have:=zd ws w hw;rw [cw] at this;lia
  have lm:(cT ae) [some (.ref p),some (.ref L),some (.str y),some (.int u),none,none,none,none] h1 = .ok (.ref h1.length) (h1++[.lst []]):=rfl
  have z0:aQ (.int u) (.int 0) h1 = .ok (.bl false) h1:=by simp [q0]
  by_cases q1:u=1
  ·have z1:aQ (.int u) (.int 1) h3 = .ok (.bl true) h3:=by simp [q1]
   obtain ⟨n,ps4,h4,o7,ef,G4,T⟩:=Hi G3.sh G3.gd (by lia) eW pw wl lw (by rw [cw];lia) (by omega) (some (.ref L)) (some (.str "")) (some (.int u)) (some (.ref h1.length)) o5
   have it:bu (aa 4) [some (.ref p),some (.ref L),some (.str ""),some (.int u),some (.ref h1.length),o5,some (.int 0),none] h3 = .ok (ws.map AV.str,some h1.length) h3:=by simp [eW]
   have f1:=(gQ (t:=.nm 7) (b:=ij) it).trans ef
   refine ⟨n,ps4,h4,?_,G3.trans (G4.more (fun _ z=>(nomatch z))) (by lia),by rw [<- cw];exact T,N2,(G4.fr L (.inr hL) (fun z=>nomatch z) (bH eL3)).trans eL3⟩
   unfold iq
   generalize bh (bu (aa 4)) (.nm 7) ij=F1 at *
   generalize jC (aa 4) (.nm 7) ip=F2 at *
   generalize du (aU (ag bg (aa 2) (af (.str "")))) i4 d5=WH at *
   generalize cT ae=LM at *
   generalize h1++[AO.lst []]=h2 at *
   simp [t1',z0,lm,ew,z1,f1,-aQ]
  ·have z1:aQ (.int u) (.int 1) h3 = .ok (.bl false) h3:=by
    have : ¬ (u:Int)=1:=by lia
    simp [this]
   obtain ⟨n,ps4,h4,o7,ef,G4,T⟩:=Hj G3.sh G3.gd (by lia) eW pw wl lw (by rw [cw];lia) (by omega) (some (.ref L)) (some (.str "")) (some (.int u)) (some (.ref h1.length)) o5
   have f2:jC (aa 4) (.nm 7) ip [some (.ref p),some (.ref L),some (.str ""),some (.int u),some (.ref h1.length),o5,some (.int 0),none] h3 = .nx [some (.ref p),some (.ref L),some (.str ""),some (.int u),some (.ref h1.length),o5,some (.int n),o7] h4:=by
    rw [<- ef]
    have v4:aa 4 [some (.ref p),some (.ref L),some (.str ""),some (.int u),some (.ref h1.length),o5,some (.int 0),none] h3 = .ok (.ref h1.length) h3:=rfl
    unfold jC
    rw [v4]
    dsimp only
    rw [eW]
   refine ⟨n,ps4,h4,?_,G3.trans (G4.more (fun _ z=>(nomatch z))) (by lia),by rw [<- cw];exact T,N2,(G4.fr L (.inr hL) (fun z=>nomatch z) (bH eL3)).trans eL3⟩
   unfold iq
   generalize bh (bu (aa 4)) (.nm 7) ij=F1 at *
   generalize jC (aa 4) (.nm 7) ip=F2 at *
   generalize du (aU (ag bg (aa 2) (af (.str "")))) i4 d5=WH at *
   generalize cT ae=LM at *
   generalize h1++[AO.lst []]=h2 at *
   simp [t1',z0,lm,ew,z1,f2,-aQ]
end Sk
namespace Sk
open PySem PySem.Spec L2 Sm
inductive Rea (ps:List Pc) (ts:List Nat):Nat->Prop
 | top {n:Nat}:n∈ts->n≠0->Rea ps ts n
 | one {i a b:Nat}:Rea ps ts (i+1)->ps[i]? = some (.fork a b)->Rea ps ts a
 | two {i a b:Nat}:Rea ps ts (i+1)->ps[i]? = some (.fork a b)->Rea ps ts b
theorem j0 {ps:List Pc} (g:Good ps) {i a b:Nat} (e:ps[i]? = some (.fork a b)):1<=a/\a<=i/\1<=b/\b<=i:=by
 have ok:ForkOk (ps.take i) a b:=g.get e
 have hi:=(JD.mp e).1
 have li:(ps.take i).length=i:=by simp;lia
 obtain ⟨ma,mb,la,fb,h1,h2,_⟩:=ok.ex
 have b1:=(JD.mp h1).1
 have b2:=(JD.mp h2).1
 rw [cR,li] at b1 b2
 exact ⟨ok.pa,by lia,ok.pb,by lia⟩
theorem Rea.bd {ps:List Pc} {ts:List Nat} (g:Good ps) (ht:∀ n∈ts,n<=ps.length) {n:Nat} (r:Rea ps ts n):1<=n/\n<=ps.length:=by
 cases r with
 | top h z=>exact ⟨by lia,ht n h⟩
 | one r e=>have:=j0 g e;have:=(JD.mp e).1;exact ⟨by lia,by lia⟩
 | two r e=>have:=j0 g e;have:=(JD.mp e).1;exact ⟨by lia,by lia⟩
open Classical in
def aE (ps:List Pc) (ts:List Nat):Nat->List Nat
 | 0=>[]
 | k+1=>aE ps ts k++(if Rea ps ts (k+1) then [k+1] else [])
theorem fU {ps:List Pc} {ts:List Nat} {k:Nat} (r:Rea ps ts (k+1)):aE ps ts (k+1)=aE ps ts k++[k+1]:=by rw [aE,JJ r]
theorem j3 {ps:List Pc} {ts:List Nat} {k:Nat} (r : ¬ Rea ps ts (k+1)):aE ps ts (k+1)=aE ps ts k:=by rw [aE,JM r,Me]
theorem zaA {ps:List Pc} {ts:List Nat} {n:Nat}:∀ {k:Nat},n∈aE ps ts k ↔ (1<=n/\n<=k/\Rea ps ts n)
 | 0=>by simp [aE];lia
 | k+1=>by
  by_cases r:Rea ps ts (k+1)
  ·rw [fU r,JQ,zaA (k:=k),Kf]
   constructor
   ·rintro (⟨a,b,c⟩ | rfl)
    ·exact ⟨a,by lia,c⟩
    ·exact ⟨by lia,by lia,r⟩
   ·rintro ⟨a,b,c⟩
    by_cases q:n=k+1
    ·exact .inr q
    ·exact .inl ⟨a,by lia,c⟩
  ·rw [j3 r,zaA (k:=k)]
   constructor
   ·rintro ⟨a,b,c⟩
    exact ⟨a,by lia,c⟩
   ·rintro ⟨a,b,c⟩
    by_cases q:n=k+1
    ·subst q;exact absurd c r
    ·exact ⟨a,by lia,c⟩
theorem uy {ps:List Pc} {ts:List Nat}:∀ k:Nat,(aE ps ts k).Pairwise (· < ·)
 | 0=>.nil
 | k+1=>by
  by_cases r:Rea ps ts (k+1)
  ·rw [fU r,NR]
   refine ⟨uy k,LA _ _,fun a ha b hb=>?_⟩
   have:=(zaA.mp ha).2.1
   have:=Kf.mp hb
   lia
  ·rw [j3 r];exact uy k
theorem nH {ps:List Pc} {ts:List Nat}:∀ k:Nat,(aE ps ts k).length<=k
 | 0=>JE _
 | k+1=>by
  have:=nH (ps:=ps) (ts:=ts) k
  by_cases r:Rea ps ts (k+1)
  ·rw [fU r,JT];simp;omega
  ·rw [j3 r];omega
def aP (ps:List Pc) (ts:List Nat) (n:Nat):Nat:=(aE ps ts n).length
theorem zh {ps:List Pc} {ts:List Nat} {a n:Nat} (h:a<n) (r:Rea ps ts n):aP ps ts a<aP ps ts n:=by
 unfold aP
 obtain ⟨d,rfl⟩:∃ d,n=a+d+1:=⟨n-a-1,by (clear r;omega)⟩
 rw [fU r,JT]
 have:∀ d,(aE ps ts a).length<=(aE ps ts (a+d)).length:=fun d=>by
  induction d with
  | zero=>exact JE _
  | succ d ih=>
   rw [<- LR]
   by_cases q:Rea ps ts (a+d+1)
   ·rw [fU q,JT];lia
   ·rw [j3 q];exact ih
 have:=this d
 simp
 lia
theorem zi {ps:List Pc} {ts:List Nat} {a b:Nat} (ra:Rea ps ts a) (rb:Rea ps ts b) (e:aP ps ts a=aP ps ts b):a=b:=by
 rcases Ov a b with h | h | h
 ·have:=zh h rb;lia
 ·exact h
 ·have:=zh h ra;lia
def fH (ps:List Pc) (ts:List Nat):Pc->Pc
 | .leaf x=>.leaf x
 | .fork a b=>.fork (aP ps ts a) (aP ps ts b)
def new (ps:List Pc) (ts:List Nat) (k:Nat):List Pc:=(aE ps ts k).map fun n=>fH ps ts (ps.getD (n-1) (.leaf ""))
theorem nI {ps:List Pc} {ts:List Nat} {k:Nat}:(new ps ts k).length=aP ps ts k:=by simp [new,aP]
theorem uz {ps:List Pc} {ts:List Nat} {k:Nat} {q:Pc} (r:Rea ps ts (k+1)) (e:ps[k]? = some q):new ps ts (k+1)=new ps ts k++[fH ps ts q]:=by
 unfold new
 rw [fU r,K6,List.map_singleton,LN,iy e]
theorem zj {ps:List Pc} {ts:List Nat} {k:Nat} (r : ¬ Rea ps ts (k+1)):new ps ts (k+1)=new ps ts k:=by unfold new;rw [j3 r]
theorem Hk {ps:List Pc} {ts:List Nat} {i j:Nat} {p q:Pc} (ri:Rea ps ts (i+1)) (rj:Rea ps ts (j+1)) (ei:ps[i]? = some p) (ej:ps[j]? = some q) (e:fH ps ts p=fH ps ts q):p=q:=by
 cases p with
 | leaf x=>cases q with
  | leaf y=>simpa [fH] using e
  | fork c d=>simp [fH] at e
 | fork a b=>cases q with
  | leaf y=>simp [fH] at e
  | fork c d =>
   simp [fH] at e
   rw [zi (.one ri ei) (.one rj ej) e.1,zi (.two ri ei) (.two rj ej) e.2]
theorem zk {ps:List Pc} {ts:List Nat} (g:Good ps) (ht:∀ n∈ts,n<=ps.length) {k:Nat} {q:Pc} (r:Rea ps ts (k+1)) (e:ps[k]? = some q):fH ps ts q∉new ps ts k:=by
 intro h
 obtain ⟨n,hn,eq⟩:=Mo.mp h
 obtain ⟨n1,nk,rn⟩:=zaA.mp hn
 obtain ⟨j,rfl⟩:∃ j,n=j+1:=⟨n-1,by (clear rn nk eq hn h e r ht g;lia)⟩
 have hk:=(JD.mp e).1
 have ej:ps[j]? = some (ps[j]'(by lia)):=by simp
 rw [LN,iy ej] at eq
 have:=Hk rn r ej e eq
 have nd:=g.nodup
 obtain ⟨_,e'⟩:=JD.mp e
 exact (L9.mp nd) j k (by lia) hk (by lia) (by rw [this,e'])
theorem Tx.uniq {ps:List Pc} {n:Nat} {m m':Ms} {x x':Str} {f l f' l':Ms} (A:Tx ps n m x f l) (B:Tx ps n m' x' f' l'):m=m'/\x=x'/\f=f'/\l=l' := by
 have a:=A.ms.symm.trans B.ms;cases a
 have b:=A.rd.symm.trans B.rd;cases b
 have c:=A.ky.fl.symm.trans B.ky.fl;cases c
 have d:=A.ky.ll.symm.trans B.ky.ll;cases d
 exact ⟨rfl,rfl,rfl,rfl⟩
def Like (qs:List Pc) (n:Nat) (m:Ms) (x:Str) (f l:Ms):Prop:=∃ m' f' l',Tx qs n m' x f' l'/\m'.lv=m.lv/\m'.ht=m.ht/\f'.sg=f.sg/\l'.sg=l.sg
theorem Like.pre {ps ps':List Pc} {n:Nat} {m:Ms} {x:Str} {f l:Ms} (k:Like ps n m x f l) (h:ps <+: ps'):Like ps' n m x f l:=by
 obtain ⟨m',f',l',T,e⟩:=k
 exact ⟨m',f',l',T.pre h,e⟩
theorem nJ {ps:List Pc} {ts:List Nat} (g:Good ps) (ht:∀ n∈ts,n<=ps.length):∀ k,k<=ps.length->Good (new ps ts k)/\∀ n,n<=k->Rea ps ts n->∀ m x f l,Tx ps n m x f l->Like (new ps ts k) (aP ps ts n) m x f l
 | 0,_=>⟨by simp only [new,aE,MT];exact .nil,fun n hn r=>by have:=r.bd g ht;lia⟩
 | k+1,hk=>by
  obtain ⟨G,L⟩:=nJ g ht k (by lia)
  by_cases r:Rea ps ts (k+1)
  ·have e:ps[k]? = some (ps[k]'(by lia)):=by simp
   generalize ps[k]'(by lia)=q at e
   have nm:=zk g ht r e
   have nl:(new ps ts k).length+1=aP ps ts (k+1):=by rw [nI];unfold aP;rw [fU r,JT];rfl
   rw [uz r e]
   have pr:new ps ts k <+: new ps ts k++[fH ps ts q]:=LI _ _
   have old:∀ n,n<=k+1->n≠k+1->Rea ps ts n->∀ m x f l,Tx ps n m x f l->Like (new ps ts k++[fH ps ts q]) (aP ps ts n) m x f l:=fun n hn hne rn m x f l T=>(L n (by lia) rn m x f l T).pre pr
   cases q with
   | leaf x =>
    have G':Good (new ps ts k++[.leaf x]):=.snoc G nm (g.get e)
    refine ⟨G',fun n hn rn m y f l T=>?_⟩
    by_cases q:n=k+1
    ·subst q
     obtain ⟨rfl,rfl,rfl,rfl⟩:=T.uniq (iz g e)
     rw [<- nl]
     exact ⟨_,_,_,iz G' (i:=(new ps ts k).length) (by simp),rfl,rfl,rfl,rfl⟩
    ·exact old n hn q rn m y f l T
   | fork a b =>
    obtain ⟨a1,a2,b1,b2⟩:=j0 g e
    obtain ⟨ma,xa,fa,la,A⟩:=g.tx a a1 (by lia)
    obtain ⟨mb,xb,fb,lb,B⟩:=g.tx b b1 (by lia)
    obtain ⟨ma',fa',la',A',a3,a4,a5,a6⟩:=L a a2 (.one r e) ma xa fa la A
    obtain ⟨mb',fb',lb',B',b3,b4,b5,b6⟩:=L b b2 (.two r e) mb xb fb lb B
    have F:ForkOk (ps.take k) a b:=g.get e
    obtain ⟨m1,m2,m3,m4,q1,q2,q3,q4,q5,q6,q7⟩:=F.ex
    have tp:=kP ps k
    have z1:=A.ms.symm.trans (aV tp q1);cases z1
    have z2:=B.ms.symm.trans (aV tp q2);cases z2
    have z3:=A.ky.ll.symm.trans (aV tp q3);cases z3
    have z4:=B.ky.fl.symm.trans (aV tp q4);cases z4
    have sa:ma'.sg=ma.sg:=A'.ky.sg.trans A.ky.sg.symm
    have sb:mb'.sg=mb.sg:=B'.ky.sg.trans B.ky.sg.symm
    have F':ForkOk (new ps ts k) (aP ps ts a) (aP ps ts b):=⟨A'.n1,B'.n1,ma',mb',la',fb',A'.ms,B'.ms,A'.ky.ll,B'.ky.fl,by lia,by lia,by lia⟩
    have G':Good (new ps ts k++[.fork (aP ps ts a) (aP ps ts b)]):=.snoc G nm F'
    refine ⟨G',fun n hn rn m y f l T=>?_⟩
    by_cases q:n=k+1
    ·subst q
     obtain ⟨rfl,rfl,rfl,rfl⟩:=T.uniq (jW g e A B)
     rw [<- nl]
     refine ⟨_,_,_,jW G' (i:=(new ps ts k).length) (by simp) (A'.pre pr) (B'.pre pr),?_,?_,a5,b6⟩
     ·show ma'.lv+mb'.lv=ma.lv+mb.lv;lia
     ·show max ma'.ht mb'.ht+1=max ma.ht mb.ht+1;rw [a4,b4]
    ·exact old n hn q rn m y f l T
  ·rw [zj r]
   refine ⟨G,fun n hn rn=>?_⟩
   by_cases q:n=k+1
   ·subst q;exact absurd rn r
   ·exact L n (by lia) rn
end Sk
namespace Sk
open PySem PySem.Spec L2 Sm
theorem iF:∀ {N:Nat} {D:List Nat},D.Nodup->(∀ n∈D,1<=n/\n<=N)->D.length<=N
 | 0,[],_,_=>JE _
 | 0,n::D,_,h=>by have:=h n (KC ..);lia
 | N+1,D,nd,h=>by
  by_cases q:N+1∈D
  ·have:=iF (N:=N) (nd.erase (N+1)) fun n hn=>by
    obtain ⟨a,b⟩:=nd.mem_erase_iff.mp hn
    have:=h n b
    lia
   rw [Ng q] at this
   lia
  ·have:=iF (N:=N) nd fun n hn=>by
    have:=h n hn
    have:n≠N+1:=fun e=>q (e▸hn)
    lia
   lia
theorem uA {g:Nat->AV} {n:Nat}:∀ {D:List Nat},n∈D->aX (D.map fun m:Nat=>(AV.int m,g m)) (.int n)=some (g n)
 | [],h=>nomatch h
 | m::D,h=>by
  by_cases q:m=n
  ·subst q;simp [aX]
  ·have:=uA (g:=g) (n:=n) (D:=D) (by rcases J8.mp h with h | h;exact absurd h.symm q;exact h)
   have q' : ¬ (AV.int (m:Int)=AV.int (n:Int)):=fun e=>q (by injection e with e;exact Od e)
   unfold aX at this ⊢
   rw [JS,Nt (by simp;lia)]
   exact this
theorem uB {g:Nat->AV} {n:Nat}:∀ {D:List Nat},n∉D->aX (D.map fun m:Nat=>(AV.int m,g m)) (.int n)=none
 | [],h=>rfl
 | m::D,h=>by
  have q : ¬ m=n:=fun e=>h (by rw [e];exact KC ..)
  have:=uB (g:=g) (n:=n) (D:=D) fun z=>h (J7 _ z)
  unfold aX at this ⊢
  rw [JS,Nt (by simp;lia)]
  exact this
theorem zm {g:Nat->AV} {n:Nat} {D:List Nat} (h:n∉D):dX (D.map fun m:Nat=>(AV.int m,g m)) (.int n) (g n)=(D++[n]).map fun m:Nat=>(AV.int m,g m):=by
 unfold dX
 rw [sf,uB h,K6]
 simp
def parts:Pc->List Nat
 | .leaf _=>[]
 | .fork a b=>[a,b]
theorem Hl {h:AH} {p n:Nat} {ps:List Pc} {q:Pc} (S:ShelfAt h p ps) (n1:1<=n) (e:ps[n-1]? = some q):mU [.ref p,.int n] h = .ok (.fl (az (parts q))) h:=by
 have fp:=kS S n1 e
 cases q with
 | leaf x =>
  have fp':bS [.ref p,.int n] h = .ok (.tup [.str "leaf",.str x]) h:=fp
  simp [mU,S.ob,fp',i6,kT,parts,-au,-aQ]
 | fork a b =>
  have fp':bS [.ref p,.int n] h = .ok (.tup [.str "fork",.int a,.int b]) h:=fp
  simp [mU,S.ob,fp',iC,jY,i1,i2,parts,-au,-aQ]
abbrev hR (h:AH) (D A:List Nat):AH:=h++[.dct false (D.map fun n:Nat=>(AV.int n,(fun _:Nat=>AV.bl true) n)),.lst (az A)]
abbrev eR (p:Nat) (o1:Option AV) (h:AH) (o4:Option AV):En:=[some (.ref p),o1,some (.ref h.length),some (.ref (h.length+1)),o4]
theorem nK {h:AH} {D A:List Nat}:(hR h D A)[h.length+1]? = some (.lst (az A)):=by simp [hR,NU]
theorem pN {h:AH} {D A:List Nat}:(hR h D A)[h.length]? = some (.dct false (D.map fun n:Nat=>(AV.int n,(fun _:Nat=>AV.bl true) n))):=by simp [hR]
theorem zp {h:AH} {D A B:List Nat}:(hR h D A).set (h.length+1) (.lst (az B))=hR h D B:=by
 unfold hR
 rw [MA _ _ (by lia),Lb]
 rfl
theorem Hm {h:AH} {D E A:List Nat}:(hR h D A).set h.length (.dct false (E.map fun n:Nat=>(AV.int n,(fun _:Nat=>AV.bl true) n)))=hR h E A:=by
 unfold hR
 rw [MA _ _ (by lia),Ox]
 rfl
theorem Hn {h:AH} {p n:Nat} {ps:List Pc} {q:Pc} {D A:List Nat} {o1 o4:Option AV} (S:ShelfAt h p ps) (n1:1<=n) (e:ps[n-1]? = some q) (lD:D.length<=1000000) (lA:A.length<=10000000) :
  i5 (eR p o1 h o4) (hR h D (A++[n])) = .nx (eR p o1 h (some (.int n))) (if n∈D then hR h D A else hR h (D++[n]) (A++parts q)):=by
 have po:cO (.ref (h.length+1)) [] (hR h D (A++[n])) = .ok (.int n) (hR h D A):=by
  have:=pJ (h:=hR h D (A++[n])) (W:=h.length+1) (Z:=az A) (v:=.int n) (by rw [nK];simp)
  rw [this,zp]
 have il:aZ (.ref (h.length+1)) (hR h D (A++[n]))=true:=by simp only [aZ,cU,nK];rfl
 by_cases hn:n∈D
 ·rw [JJ hn]
  have ni:gE (.int n) (.ref h.length) (hR h D A) = .ok (.bl false) (hR h D A):=by
   simp only [gE,iO,pN,uA hn,eQ,keyOf?,Option.isSome];rfl
  simp only [eR] at *
  generalize hR h D (A++[n])=H0 at *
  generalize hR h D A=H1 at *
  simp [i5,il,po,ni,-aZ,-cO,-gE]
 ·rw [JM hn]
  have ni:gE (.int n) (.ref h.length) (hR h D A) = .ok (.bl true) (hR h D A):=by
   simp only [gE,iO,pN,uB hn,eQ,keyOf?,Option.isSome];rfl
  have st:∀ en:En,en[2]? = some (some (.ref h.length))->en[4]? = some (some (.int n))->dw (aa 2) (aa 4) (af (.bl true)) en (hR h D A) = .nx en (hR h (D++[n]) A):=fun en e2 e4=>by
   have z:D.length<sizeLine:=Ka lD (by decide)
   have k1:eQ false (.int n)=true:=rfl
   have pn:=zm (g:=fun _=>AV.bl true) hn
   simp only [dw,af,aa,e2,e4,Out.go,pN,J0,z,k1,and_self,Ly]
   rw [pn,Hm]
  have S2:ShelfAt (hR h (D++[n]) A) p ps:=S.app _
  have fp:=Hl S2 n1 e
  have ex:kx (.ref (h.length+1)) [.fl (az (parts q))] (hR h (D++[n]) A) = .ok .non (hR h (D++[n]) (A++parts q)):=by
   have z:(az A).length+(az (parts q)).length<=sizeLine:=by
    have:(parts q).length<=2:=by cases q<;>simp [parts]
    rw [J0,J0]
    exact JK (m:=10000002) (by lia) (by decide)
   simp only [kx,nK,cU,z,Ly]
   rw [show az A++az (parts q)=az (A++parts q) by simp,zp]
  have il2:aZ (.ref (h.length+1)) (hR h (D++[n]) A)=true:=by simp only [aZ,cU,nK];rfl
  have st' := st [some (.ref p),o1,some (.ref h.length),some (.ref (h.length+1)),some (.int n)] rfl rfl
  simp only [eR] at *
  unfold i5
  generalize dw (aa 2) (aa 4) (af (.bl true))=SX at *
  generalize hR h D (A++[n])=H0 at *
  generalize hR h D A=H1 at *
  generalize hR h (D++[n]) A=H2 at *
  generalize hR h (D++[n]) (A++parts q)=H3 at *
  simp [il,po,ni,st',fp,il2,ex,-aZ,-cO,-gE,-kx]
end Sk
namespace Sk
open PySem PySem.Spec L2 Sm
structure Dfs (ps:List Pc) (ts D A:List Nat):Prop where
 nd:D.Nodup
 rd:∀ n∈D,Rea ps ts n
 ra:∀ n∈A,Rea ps ts n
 tp:∀ n∈ts,n≠0->n∈D\/n∈A
 fk:∀ i a b,i+1∈D->ps[i]? = some (.fork a b)->(a∈D\/a∈A)/\(b∈D\/b∈A)
theorem Dfs.done {ps:List Pc} {ts D:List Nat} (d:Dfs ps ts D []) {n:Nat} (r:Rea ps ts n):n∈D:=by
 induction r with
 | top h z=>exact (d.tp _ h z).elim id fun z=>nomatch z
 | one r e ih=>exact (d.fk _ _ _ ih e).1.elim id fun z=>nomatch z
 | two r e ih=>exact (d.fk _ _ _ ih e).2.elim id fun z=>nomatch z
theorem Dfs.skip {ps:List Pc} {ts D A:List Nat} {n:Nat} (d:Dfs ps ts D (A++[n])) (h:n∈D):Dfs ps ts D A:=by
 have m:∀ x,x∈D\/x∈A++[n]->x∈D\/x∈A:=fun x hx=>by
  rcases hx with hx | hx
  ·exact .inl hx
  ·rcases JQ.mp hx with hx | hx
   ·exact .inr hx
   ·exact .inl (Kf.mp hx▸h)
 exact ⟨d.nd,d.rd,fun x hx=>d.ra x (JN _ hx),fun x hx z=>m x (d.tp x hx z),fun i a b hi e=>⟨m a (d.fk i a b hi e).1,m b (d.fk i a b hi e).2⟩⟩
theorem Dfs.step {ps:List Pc} {ts D A:List Nat} {n:Nat} {q:Pc} (d:Dfs ps ts D (A++[n])) (h:n∉D) (n1:1<=n) (e:ps[n-1]? = some q):Dfs ps ts (D++[n]) (A++parts q):=by
 have rn:=d.ra n (by simp)
 obtain ⟨j,rfl⟩:∃ j,n=j+1:=⟨n-1,by lia⟩
 rw [LN] at e
 have m:∀ x,x∈D\/x∈A++[j+1]->x∈D++[j+1]\/x∈A++parts q:=fun x hx=>by
  rcases hx with hx | hx
  ·exact .inl (JN _ hx)
  ·rcases JQ.mp hx with hx | hx
   ·exact .inr (JN _ hx)
   ·exact .inl (JW _ hx)
 refine ⟨LW.mpr ⟨d.nd,by simp,fun a ha b hb=>by rw [Kf] at hb;subst hb;exact fun e=>h (e▸ha)⟩,fun x hx=>?_,fun x hx=>?_,fun x hx z=>m x (d.tp x hx z),fun i a b hi e2=>?_⟩
 ·rcases JQ.mp hx with hx | hx
  ·exact d.rd x hx
  ·exact Kf.mp hx▸rn
 ·rcases JQ.mp hx with hx | hx
  ·exact d.ra x (JN _ hx)
  ·cases q with
   | leaf _=>cases hx
   | fork a b =>
    simp only [parts,J8,MB,OJ] at hx
    rcases hx with rfl | rfl
    ·exact .one rn e
    ·exact .two rn e
 ·rcases JQ.mp hi with hi | hi
  ·exact ⟨m a (d.fk i a b hi e2).1,m b (d.fk i a b hi e2).2⟩
  ·have:i=j:=by have:=Kf.mp hi;lia
   subst this
   rw [e] at e2
   cases e2
   exact ⟨.inr (by simp [parts]),.inr (by simp [parts])⟩
theorem Ho {α:Type}:∀ {l:List α},l≠[]->∃ a x,l=a++[x]:=fun {l} h=>⟨l.dropLast,l.getLast h,(List.dropLast_concat_getLast h).symm⟩
theorem Hq {h:AH} {p:Nat} {ps:List Pc} {ts A:List Nat} {o1:Option AV} (S:ShelfAt h p ps) (g:Good ps) (ht:∀ n∈ts,n<=ps.length) (hz:ps.length<=1000000) (lA:A.length<=1000000) (d:Dfs ps ts [] A) :
  ∃ D o4,du (aU (ag bg (aa 3) (bU ae))) i5 d5 (eR p o1 h none) (hR h [] A) = .nx (eR p o1 h o4) (hR h D [])/\Dfs ps ts D []:=by
 obtain ⟨e',h',r1,D,o4,rfl,rfl,d'⟩:=ph (c:=aU (ag bg (aa 3) (bU ae))) (b:=i5) (fuel:=d5) (n:=3*ps.length+A.length) (en:=eR p o1 h none) (h:=hR h [] A)
  (fun m en hh=>∃ D A o4,en=eR p o1 h o4/\hh=hR h D A/\Dfs ps ts D A/\m+3*D.length=3*ps.length+A.length/\m<=4000000)
  (fun en hh=>∃ D o4,en=eR p o1 h o4/\hh=hR h D []/\Dfs ps ts D [])
  ⟨[],A,none,rfl,rfl,d,by simp,by lia⟩ (Ka (m:=4000000) (by lia) (by decide)) (by
   rintro m en hh ⟨D,A,o4,rfl,rfl,d,hm,hm2⟩
   have ne:=uq (nK (h:=h) (D:=D) (A:=A))
   have c:(aU (ag bg (aa 3) (bU ae))) (eR p o1 h o4) (hR h D A) = .ok (!decide (A=[])) (hR h D A):=by
    simp only [eR]
    generalize hR h D A=H at *
    simp [ne,-bg]
   rw [c]
   by_cases q:A=[]
   ·subst q
    exact ⟨D,o4,rfl,rfl,d⟩
   ·obtain ⟨B,n,rfl⟩:=Ho q
    have lD:=iF d.nd fun n hn=>(d.rd n hn).bd g ht
    have bn:=(d.ra n (by simp)).bd g ht
    have e:ps[n-1]? = some (ps[n-1]'(by lia)):=by simp
    generalize ps[n-1]'(by lia)=pc at e
    have lB:(B++[n]).length=B.length+1:=by simp
    have t:=Hn (D:=D) (A:=B) (o1:=o1) (o4:=o4) S bn.1 e (by lia) (by lia)
    rw [Ki q]
    show thn (i5 (eR p o1 h o4) (hR h D (B++[n]))) _
    rw [t]
    by_cases hn:n∈D
    ·rw [JJ hn]
     exact ⟨m-1,by lia,D,B,_,rfl,rfl,d.skip hn,by lia,by (clear hn t lB e bn lD q c ne hm d lA hz ht g S;omega)⟩
    ·rw [JM hn]
     have d2:=d.step hn bn.1 e
     have lD2:=iF d2.nd fun n hn=>(d2.rd n hn).bd g ht
     have lp:(parts pc).length<=2:=by cases pc<;>simp [parts]
     have l1:(D++[n]).length=D.length+1:=by simp
     have l2:(B++parts pc).length=B.length+(parts pc).length:=by simp
     exact ⟨3*ps.length+(B++parts pc).length-3*(D++[n]).length,by (clear lD2 d2 hn t e bn q c ne d hm2 lA hz ht g S;lia),_,_,_,rfl,rfl,d2,by (clear l2 l1 lp d2 hn t lB e bn lD q c ne hm d hm2 lA hz ht g S;lia),by lia⟩)
 exact ⟨D,o4,r1,d'⟩
theorem zq:∀ D:List Nat,kz (D.map fun n:Nat=>AV.int n)=some (D.map fun n:Nat=>(n:Int))
 | []=>rfl
 | n::D=>by
  show (kz (D.map fun n:Nat=>AV.int n)).map ((n:Int) :: ·)=_
  rw [zq D];rfl
theorem Hr {ps:List Pc} {ts D:List Nat} (g:Good ps) (ht:∀ n∈ts,n<=ps.length) (d:Dfs ps ts D []):jG (D.map fun n:Nat=>(n:Int))=(aE ps ts ps.length).map fun n:Nat=>(n:Int):=by
 have so:=uy (ps:=ps) (ts:=ts) ps.length
 have pm:D.Perm (aE ps ts ps.length):=(List.perm_ext_iff_of_nodup d.nd (so.imp fun h=>Ko h)).mpr fun n=>by
  rw [zaA]
  constructor
  ·intro h
   have r:=d.rd n h
   exact ⟨(r.bd g ht).1,(r.bd g ht).2,r⟩
  ·rintro ⟨_,_,r⟩
   exact d.done r
 refine tw ((tq _).trans (pm.map _)) (tu _) ?_
 rw [List.pairwise_map]
 exact so.imp fun h=>by lia
def Lt (h:AH) (v:AV) (ts:List Nat):Prop:=v = .fl (az ts)\/∃ n,v = .ref n/\h[n]? = some (.lst (az ts))
theorem Lt.keep {h h':AH} {v:AV} {ts:List Nat} (L:Lt h v ts) (k:∀ i,i<h.length->h'[i]? = h[i]?):Lt h' v ts:=by
 rcases L with rfl | ⟨n,rfl,e⟩
 ·exact .inl rfl
 ·exact .inr ⟨n,rfl,(k n (bH e)).trans e⟩
theorem Lt.app {h:AH} {v:AV} {ts:List Nat} (L:Lt h v ts) (r:AH):Lt (h++r) v ts:=L.keep fun i hi=>JF hi
theorem Lt.it {h:AH} {v:AV} {ts:List Nat} (L:Lt h v ts) {a:SE} {en:En} (e:a en h = .ok v h):∃ w,bu a en h = .ok (az ts,w) h/\bV w (az ts) h=true:=by
 rcases L with rfl | ⟨n,rfl,e2⟩
 ·exact ⟨none,by simp only [bu,e,Out.bind],rfl⟩
 ·exact ⟨some n,by simp only [bu,e,Out.bind,e2],by simp [bV,e2]⟩
theorem Hs {h:AH} {p:Nat} {ps:List Pc} {ts:List Nat} {v:AV} (S:ShelfAt h p ps) (g:Good ps) (L:Lt h v ts) (ht:∀ n∈ts,n<=ps.length) (lt:ts.length<=1000000) (hz:ps.length<=1000000) :
  ∃ r,kL [.ref p,v] h = .ok (.fl (az (aE ps ts ps.length))) (h++r):=by
 have S1:=S.app [.dct false []]
 have L1:=L.app [.dct false []]
 obtain ⟨w,i1,i2⟩:=L1.it (a:=aa 1) (en:=[some (.ref p),some v,some (.ref h.length),none,none]) rfl
 have cp:=pf (js:=[]) (en:=[some (.ref p),some v,some (.ref h.length),none,none]) (w:=w) (all:=az ts) (c:=aU (ag bg (aa 0) (af (.int 0)))) (e:=aa 0) (g:=fun n:Nat=>AV.int n) (f:=fun n:Nat=>AV.int n) (p:=fun n=>!decide (n=0)) i2 ts []
  (fun n _=>by simp) (fun n _ _=>rfl) (by simp only [KW,K8];exact JK lt (by decide))
 rw [LP] at cp
 have cm:fL [] (bu (aa 1)) (aU (ag bg (aa 0) (af (.int 0)))) (aa 0) [some (.ref p),some v,some (.ref h.length),none,none] (h++[.dct false []]) = .ok (.ref (h.length+1)) (hR h [] (ts.filter fun n=>!decide (n=0))):=by
  unfold fL
  rw [i1]
  dsimp only
  rw [cp]
  simp
 have d0:Dfs ps ts [] (ts.filter fun n=>!decide (n=0)):=by
  refine ⟨Mq,fun n h=>(nomatch h),fun n h=>?_,fun n h z=>.inr ?_,fun i a b h=>(nomatch h)⟩
  ·have:=MG.mp h
   exact .top this.1 (by simpa using this.2)
  ·exact MG.mpr ⟨h,by simpa using z⟩
 obtain ⟨D,o4,wl,d⟩:=Hq (o1:=some v) S g ht hz (JK (List.length_filter_le ..) lt) d0
 have so:mJ [.ref h.length] (hR h D []) = .ok (.fl (az (aE ps ts ps.length))) (hR h D []):=by
  have k:mI (.ref h.length) (hR h D [])=some (D.map fun n:Nat=>(n:Int)):=by
   unfold mI
   dsimp only
   rw [pN]
   dsimp only
   rw [Lk]
   exact zq D
  unfold mJ
  dsimp only
  rw [k]
  dsimp only
  rw [Hr g ht d,Lk]
  rfl
 refine ⟨[.dct false (D.map fun n:Nat=>(AV.int n,(fun _:Nat=>AV.bl true) n)),.lst (az [])],?_⟩
 have sd:jt false [some (.ref p),some v,none,none,none] h = .ok (.ref h.length) (h++[.dct false []]):=rfl
 simp only [eR] at wl
 unfold kL
 generalize du (aU (ag bg (aa 3) (bU ae))) i5 d5=WL at *
 generalize fL [] (bu (aa 1)) (aU (ag bg (aa 0) (af (.int 0)))) (aa 0)=CM at *
 generalize jt false=SD at *
 show _=Out.ok _ (hR h D [])
 generalize hR h D []=H3 at *
 generalize hR h [] (ts.filter fun n=>!decide (n=0))=H2 at *
 generalize h++[AO.dct false []]=H1 at *
 simp [sd,cm,wl,so,-jt]
end Sk
namespace Sk
open PySem PySem.Spec L2 Sm
theorem uC {ps:List Pc} {ts:List Nat} {n:Nat}:∀ {N j:Nat},(aE ps ts N)[j]? = some n->∃ k,n=k+1/\k<N/\(aE ps ts N).take j=aE ps ts k/\Rea ps ts (k+1)
 | 0,j,e=>by simp [aE] at e
 | N+1,j,e=>by
  by_cases r:Rea ps ts (N+1)
  ·rw [fU r] at e ⊢
   by_cases hj:j<(aE ps ts N).length
   ·rw [JF hj] at e
    obtain ⟨k,a,b,c,d⟩:=uC e
    exact ⟨k,a,by lia,by rw [LD (by lia)];exact c,d⟩
   ·have:=(JD.mp e).1
    rw [JT,Mz] at this
    have ej:j=(aE ps ts N).length:=by lia
    subst ej
    simp at e
    subst e
    exact ⟨N,rfl,by lia,by simp,r⟩
  ·rw [j3 r] at e ⊢
   obtain ⟨k,a,b,c,d⟩:=uC e
   exact ⟨k,a,by lia,c,d⟩
abbrev kv (ps:List Pc) (ts l:List Nat):List (AV×AV):=(0::l).map fun n:Nat=>(AV.int n,(fun n:Nat=>AV.int (aP ps ts n:Nat)) n)
theorem kU {hh:AH} {W n:Nat} {ps:List Pc} {ts l:List Nat} (e:hh[W]? = some (.dct false (kv ps ts l))) (hn:n∈0::l):au (.ref W) (.int n) hh = .ok (.int (aP ps ts n:Nat)) hh:=by
 have v:=uA (g:=fun n:Nat=>AV.int (aP ps ts n:Nat)) hn
 have k1:eQ false (.int n)=true:=rfl
 simp only [au,e,kv] at v ⊢
 simp only [k1,v]
 try rfl
theorem uD {hh:AH} {W:Nat} {k:Nat} {ps:List Pc} {ts:List Nat} (e:hh[W]? = some (.dct false (kv ps ts (aE ps ts k)))) (r:Rea ps ts (k+1)) (hk:k<=1000000) {o i v:SE} {en:En} {h0:AH} (ev:v en h0 = .ok (.int (aP ps ts (k+1):Nat)) hh) (eo:o en hh = .ok (.ref W) hh) (ei:i en hh = .ok (.int ((k+1:Nat):Int)) hh) :
  dw o i v en h0 = .nx en (hh.set W (.dct false (kv ps ts (aE ps ts (k+1))))):=by
 have hl:=nH (ps:=ps) (ts:=ts) k
 have z:(kv ps ts (aE ps ts k)).length<sizeLine:=by
  rw [J0,J6]
  exact Ka (m:=1000001) (by lia) (by decide)
 have nm:(k+1)∉0::aE ps ts k:=fun h=>by
  rcases J8.mp h with h | h
  ·lia
  ·have:=(zaA.mp h).2.1;lia
 have pn:=zm (g:=fun n:Nat=>AV.int (aP ps ts n:Nat)) nm
 have k1:eQ false (.int ((k+1:Nat):Int))=true:=rfl
 simp only [dw,ev,eo,ei,Out.go,e,z,k1,and_self,Ly]
 rw [pn,fU r]
 rfl
structure Sw (h hh:AH) (ps:List Pc) (ts:List Nat) (P k:Nat):Prop where
 sh:ShelfAt hh P (new ps ts k)
 dc:hh[P+9]? = some (.dct false (kv ps ts (aE ps ts k)))
 fr:∀ i,i<P->hh[i]? = h[i]?
theorem Ht {h hh:AH} {p P k:Nat} {ps:List Pc} {ts:List Nat} {o1 o4 o5:Option AV} (S:ShelfAt h p ps) (g:Good ps) (ht:∀ n∈ts,n<=ps.length) (hz:ps.length<=1000000) (hp:p+8<P) (w:Sw h hh ps ts P k) (hk:k<ps.length) (r:Rea ps ts (k+1)) :
  ∃ h2 q5,iu [some (.ref p),o1,some (.ref P),some (.ref (P+9)),some (.int ((k+1:Nat):Int)),o5] hh = .nx [some (.ref p),o1,some (.ref P),some (.ref (P+9)),some (.int ((k+1:Nat):Int)),q5] h2/\Sw h h2 ps ts P (k+1)/\h2.length=hh.length:=by
 have S1:ShelfAt hh p ps:=S.keep fun i _ b=>w.fr i (by lia)
 have e:ps[k]? = some (ps[k]'hk):=by simp
 generalize ps[k]'hk=q at e
 have e':ps[k+1-1]? = some q:=e
 have fp:=kS S1 (n:=k+1) (by lia) e'
 obtain ⟨G,L⟩:=nJ g ht k (by lia)
 obtain ⟨G',_⟩:=nJ g ht (k+1) hk
 have nf:=zk g ht r e
 have ny:=uz r e
 have ln:(new ps ts k).length+1=aP ps ts (k+1):=by rw [nI];unfold aP;rw [fU r,JT];rfl
 have lz:(new ps ts k).length<16000000:=by rw [nI];have:=nH (ps:=ps) (ts:=ts) k;unfold aP;lia
 have D9:(dI hh P (new ps ts (k+1)))[P+9]? = some (.dct false (kv ps ts (aE ps ts k))):=by rw [mZ (.inr (by lia))];exact w.dc
 have fin:Sw h ((dI hh P (new ps ts (k+1))).set (P+9) (.dct false (kv ps ts (aE ps ts (k+1))))) ps ts P (k+1):=by
  refine ⟨(kO w.sh).keep fun i _ b=>JI (by lia),JR (bH D9),fun i hi=>?_⟩
  rw [JI (by lia),mZ (.inl (by lia))]
  exact w.fr i hi
 have fl:((dI hh P (new ps ts (k+1))).set (P+9) (.dct false (kv ps ts (aE ps ts (k+1))))).length=hh.length:=by rw [MH,pA]
 have ob:=w.sh.ob
 cases q with
 | leaf x =>
  have hx:d8 x=true:=g.get e
  have lf:=tQ w.sh hx (JK (kQ hx).2.1 (by decide)) nf lz
  rw [ln,show new ps ts k++[.leaf x]=new ps ts (k+1) from ny.symm] at lf
  have fp':bS [.ref p,.int ((k+1:Nat):Int)] hh = .ok (.tup [.str "leaf",.str x]) hh:=fp
  have pt:=uD (en:=[some (.ref p),o1,some (.ref P),some (.ref (P+9)),some (.int ((k+1:Nat):Int)),some (.tup [.str "leaf",.str x])]) (h0:=hh) (o:=aa 3) (i:=aa 4) (v:=aG 0 dj (aa 2) (ai (ag au (aa 5) (af (.int 1))) ae)) D9 r (by lia) (by simp [ob,nv,lf,-au]) rfl rfl
  refine ⟨_,some (.tup [.str "leaf",.str x]),?_,fin,fl⟩
  unfold iu
  generalize dw (aa 3) (aa 4) (aG 0 dj (aa 2) (ai (ag au (aa 5) (af (.int 1))) ae))=SX at *
  generalize (dI hh P (new ps ts (k+1))).set (P+9) (.dct false (kv ps ts (aE ps ts (k+1))))=HF at *
  generalize ((k+1:Nat):Int)=K at *
  simp [S1.ob,fp',i6,kT,pt,-au,-aQ,-dw]
 | fork a b =>
  obtain ⟨a1,a2,b1,b2⟩:=j0 g e
  have xa:=kU w.dc (n:=a) (J7 _ (zaA.mpr ⟨a1,a2,.one r e⟩))
  have xb:=kU w.dc (n:=b) (J7 _ (zaA.mpr ⟨b1,b2,.two r e⟩))
  have F:ForkOk (new ps ts k) (aP ps ts a) (aP ps ts b):=by
   have:=G'.get (i:=(new ps ts k).length) (q:=.fork (aP ps ts a) (aP ps ts b)) (by rw [ny];simp [fH])
   rw [ny,List.take_left] at this
   exact this
  have lf:=yG w.sh F nf lz
  rw [ln,show new ps ts k++[.fork (aP ps ts a) (aP ps ts b)]=new ps ts (k+1) from ny.symm] at lf
  have fp':bS [.ref p,.int ((k+1:Nat):Int)] hh = .ok (.tup [.str "fork",.int a,.int b]) hh:=fp
  have pt:=uD (en:=[some (.ref p),o1,some (.ref P),some (.ref (P+9)),some (.int ((k+1:Nat):Int)),some (.tup [.str "fork",.int a,.int b])]) (h0:=hh) (o:=aa 3) (i:=aa 4) (v:=aG 0 aS (aa 2) (ai (ag au (aa 3) (ag au (aa 5) (af (.int 1)))) (ai (ag au (aa 3) (ag au (aa 5) (af (.int 2)))) ae))) D9 r (by lia) (by simp [ob,i1,i2,xa,xb,lf,-au]) rfl rfl
  refine ⟨_,some (.tup [.str "fork",.int a,.int b]),?_,fin,fl⟩
  unfold iu
  generalize dw (aa 3) (aa 4) (aG 0 dj (aa 2) (ai (ag au (aa 5) (af (.int 1))) ae))=SY at *
  generalize dw (aa 3) (aa 4) (aG 0 aS (aa 2) (ai (ag au (aa 3) (ag au (aa 5) (af (.int 1)))) (ai (ag au (aa 3) (ag au (aa 5) (af (.int 2)))) ae)))=SX at *
  generalize (dI hh P (new ps ts (k+1))).set (P+9) (.dct false (kv ps ts (aE ps ts (k+1))))=HF at *
  generalize ((k+1:Nat):Int)=K at *
  simp [S1.ob,fp',iC,jY,pt,-au,-aQ,-dw]
end Sk
namespace Sk
open PySem PySem.Spec L2 Sm
theorem Sw.cast {h hh:AH} {ps:List Pc} {ts:List Nat} {P k k':Nat} (w:Sw h hh ps ts P k) (e:aE ps ts k=aE ps ts k'):Sw h hh ps ts P k' := by
 obtain ⟨a,b,c⟩:=w
 unfold new at a
 rw [e] at a b
 exact ⟨a,b,c⟩
theorem zr (en:En) (h:AH):jD (af (.int 0)) (af (.int 0)) en h = .ok (.ref h.length) (h++[.dct false [(.int 0,.int 0)]]):=by
 have e:(h++[AO.dct false []])[h.length]? = some (.dct false []):=by simp
 simp only [jD,af,Out.bind,sG,e]
 simp
theorem zt {ps:List Pc} {ts:List Nat} (g:Good ps) (ht:∀ n∈ts,n<=ps.length) {n:Nat} (h:n∈ts):n∈0::aE ps ts ps.length:=by
 by_cases z:n=0
 ·rw [z];exact KC ..
 ·exact J7 _ (zaA.mpr ⟨by lia,ht n h,.top h z⟩)
theorem Hu {h h0:AH} {p P:Nat} {ps:List Pc} {ts:List Nat} {o1:Option AV} (S:ShelfAt h p ps) (g:Good ps) (ht:∀ n∈ts,n<=ps.length) (hz:ps.length<=1000000) (hp:p+8<P) (w:Sw h h0 ps ts P 0) :
  ∃ o4 o5 h2,cQ none (az (aE ps ts ps.length)) (.nm 4) iu (az (aE ps ts ps.length)) [some (.ref p),o1,some (.ref P),some (.ref (P+9)),none,none] h0 = .nx [some (.ref p),o1,some (.ref P),some (.ref (P+9)),o4,o5] h2/\Sw h h2 ps ts P ps.length/\h2.length=h0.length:=by
 obtain ⟨e',h',r1,o4,o5,k,rfl,w',tk,ln⟩:=gv (w:=none) (all:=az (aE ps ts ps.length)) (t:=.nm 4) (b:=iu) (xs:=az (aE ps ts ps.length)) (en:=[some (.ref p),o1,some (.ref P),some (.ref (P+9)),none,none]) (h:=h0)
  (fun j en hh=>∃ o4 o5 k,en=[some (.ref p),o1,some (.ref P),some (.ref (P+9)),o4,o5]/\Sw h hh ps ts P k/\(aE ps ts ps.length).take j=aE ps ts k/\hh.length=h0.length)
  ⟨none,none,0,rfl,w,by simp [aE],rfl⟩ (fun _ _ _ _=>rfl) (by
   rintro j x en hh hx ⟨o4,o5,k,rfl,w,tk,ln⟩
   rw [Kh] at hx
   obtain ⟨n,en,rfl⟩:=J3.mp hx
   obtain ⟨k',rfl,hk,tk',r⟩:=uC en
   have w2:=w.cast (tk.symm.trans tk')
   obtain ⟨h2,q5,b,w3,l3⟩:=Ht (o1:=o1) (o4:=o4) (o5:=o5) S g ht hz hp w2 hk r
   show thn (iu [some (.ref p),o1,some (.ref P),some (.ref (P+9)),some (.int ((k'+1:Nat):Int)),o5] hh) _
   rw [b]
   refine ⟨_,_,k'+1,rfl,w3,?_,l3.trans ln⟩
   rw [Oy,en,tk',fU r]
   rfl)
 rw [J0,L7] at tk
 exact ⟨o4,o5,h',r1,w'.cast tk.symm,ln⟩
theorem zu {h:AH} {p:Nat} {ps:List Pc} {ts:List Nat} {v:AV} (S:ShelfAt h p ps) (g:Good ps) (L:Lt h v ts) (ht:∀ n∈ts,n<=ps.length) (lt:ts.length<=1000000) (hz:ps.length<=1000000) :
  ∃ (W:Nat) (h':AH),mV [.ref p,v] h = .ok (.tup [.ref h.length,.ref W]) h'/\ShelfAt h' h.length (new ps ts ps.length)/\h.length+8<W/\h'[W]? = some (.lst (az (ts.map (aP ps ts))))/\∀ i,i<h.length->h'[i]? = h[i]? := by
 have p8:p+8<h.length:=bH S.h8
 have mk:=yH [some (.ref p),some v,none,none,none,none] h
 have ls:(h++dq h.length).length=h.length+9:=by simp [dq]
 have di:=zr [some (.ref p),some v,some (.ref h.length),none,none,none] (h++dq h.length)
 rw [ls] at di
 have fr0:∀ r:AH,∀ i,i<h.length->((h++dq h.length++[AO.dct false [(.int 0,.int 0)]])++r)[i]? = h[i]? := fun r i hi=>by
  rw [JP,JP,JF hi]
 have S0:ShelfAt (h++dq h.length++[AO.dct false [(.int 0,.int 0)]]) p ps:=(S.app _).app _
 have L0:Lt (h++dq h.length++[AO.dct false [(.int 0,.int 0)]]) v ts:=(L.app _).app _
 obtain ⟨r,fr⟩:=Hs S0 g L0 ht lt hz
 have w0:Sw h ((h++dq h.length++[AO.dct false [(.int 0,.int 0)]])++r) ps ts h.length 0:=by
  refine ⟨?_,?_,fr0 r⟩
  ·rw [JP,JP];exact yJ h _
  ·rw [JF (by rw [JT,ls];simp),J9 (by lia),ls,Ox]
   rfl
 have dl:(h++dq h.length++[AO.dct false [(.int 0,.int 0)]]++r).length=h.length+10+r.length:=by rw [JT,JT,ls];rfl
 obtain ⟨o4,o5,h2,lp,w2,l2⟩:=Hu (o1:=some v) S g ht hz p8 w0
 generalize hH1:h++dq h.length=H1 at *
 generalize hH2:H1++[AO.dct false [(.int 0,.int 0)]]=H2 at *
 have it:bu (aD kL (ai (aa 0) (ai (aa 1) ae))) [some (.ref p),some v,some (.ref h.length),some (.ref (h.length+9)),none,none] H2 = .ok (az (aE ps ts ps.length),none) (H2++r):=by
  simp [fr]
 have f1:=(gQ (t:=.nm 4) (b:=iu) it).trans lp
 have L2:Lt h2 v ts:=L.keep w2.fr
 obtain ⟨wv,i1,i2⟩:=L2.it (a:=aa 1) (en:=[some (.ref p),some v,some (.ref h.length),some (.ref (h.length+9)),o4,o5]) rfl
 have cp:=tG (js:=[3]) (en:=[some (.ref p),some v,some (.ref h.length),some (.ref (h.length+9)),o4,o5]) (w:=wv) (all:=az ts) (e:=ag au (aa 1) (aa 0)) (g:=fun n:Nat=>AV.int n) (f:=fun n:Nat=>AV.int (aP ps ts n:Nat)) i2 ts []
  (fun n hn=>by
   have:=kU w2.dc (zt g ht hn)
   simp [this,-au]) (by simp only [KW,K8];exact JK lt (by decide))
 rw [LP] at cp
 have cm:fL [3] (bu (aa 1)) bw (ag au (aa 1) (aa 0)) [some (.ref p),some v,some (.ref h.length),some (.ref (h.length+9)),o4,o5] h2 = .ok (.ref h2.length) (h2++[.lst (az (ts.map (aP ps ts)))]):=by
  unfold fL
  rw [i1]
  dsimp only
  rw [cp,show az (ts.map (aP ps ts))=ts.map (fun n:Nat=>AV.int (aP ps ts n:Nat)) from Lk]
 refine ⟨h2.length,h2++[.lst (az (ts.map (aP ps ts)))],?_,w2.sh.app _,by lia,by simp,fun i hi=>?_⟩
 ·unfold mV
  generalize bh (bu (aD kL (ai (aa 0) (ai (aa 1) ae)))) (.nm 4) iu=FL at *
  generalize fL [3] (bu (aa 1)) bw (ag au (aa 1) (aa 0))=CM at *
  generalize jD (af (.int 0)) (af (.int 0))=DI at *
  generalize ka 0 8 jI ae=MK at *
  generalize h2++[AO.lst (az (ts.map (aP ps ts)))]=H4 at *
  simp [mk,di,f1,cm]
 ·rw [JF (by lia)];exact w2.fr i hi
end Sk
namespace Sk
open PySem PySem.Spec L2 Sm
theorem pO (k:Nat) (h:AH):∀ l:List Nat,bE (bj k h) (az l)=some (l.map fun n:Nat=>PyData.int n)
 | []=>rfl
 | n::l=>by
  have t:bj k h (.int n)=some (.int n):=by cases k<;>rfl
  show (match bj k h (.int n),bE (bj k h) (az l) with | some d,some ds=>some (d::ds) | _,_=>none)=_
  rw [t,pO k h l]
  rfl
theorem zv (n:Nat):∀ l:List Nat,((l.map fun n:Nat=>PyData.int n).any fun e=>PyData.eqv e (.int n))=decide (n∈l)
 | []=>by simp
 | m::l=>by
  rw [JS,LQ,zv n l]
  have:PyData.eqv (.int m) (.int n)=decide (m=n):=by
   by_cases q:m=n<;>simp [PyData.eqv,q]
   lia
  rw [this]
  by_cases q:m=n
  ·subst q;simp
  ·have q' : ¬ n=m:=fun e=>q e.symm
   simp [q,q']
theorem zw {hh:AH} {A n:Nat} {l:List Nat} (e:hh[A]? = some (.lst (az l))):gc (.int n) (.ref A) hh = .ok (.bl (decide (n∈l))) hh:=by
 have t:bj 8 hh (.int n)=some (.int n):=rfl
 simp only [gc,iO,e,t,pO,zv]
theorem nL (h:AH):aQ (.str "fork") (.str "fork") h = .ok (.bl true) h:=by simp
theorem nM (h:AH):aQ (.str "leaf") (.str "fork") h = .ok (.bl false) h:=by
 have : ¬ (Str.ofString "leaf" = Str.ofString "fork"):=by decide +kernel
 simp [this]
structure Cl (ps:List Pc) (ts se:List Nat) (j:Nat):Prop where
 inn:∀ n∈se,n∈ts\/Rea ps ts n
 top:∀ n∈ts,n∈se
 fk:∀ i a b,ps.length<=i+j->Rea ps ts (i+1)->ps[i]? = some (.fork a b)->a∈se/\b∈se
 len:se.length<=ts.length+2*j
theorem Cl.iff {ps:List Pc} {ts se:List Nat} {j k:Nat} (g:Good ps) (c:Cl ps ts se j) (hk:ps.length<=k+1+j):k+1∈se ↔ Rea ps ts (k+1):=by
 constructor
 ·intro h
  exact (c.inn _ h).elim (fun h=>.top h (by lia)) id
 ·intro r
  generalize hn:k+1=n at *
  cases r with
  | top h z=>exact c.top _ h
  | one r e=>have:=j0 g e;exact (c.fk _ _ _ (by (clear e r hn c g;lia)) r e).1
  | two r e=>have:=j0 g e;exact (c.fk _ _ _ (by (clear e r hn c g;lia)) r e).2
structure Cs (h hh:AH) (se:List Nat):Prop where
 se:hh[h.length]? = some (.lst (az se))
 fr:∀ i,i<h.length->hh[i]? = h[i]?
theorem Hv {h hh:AH} {p j k:Nat} {ps:List Pc} {ts se:List Nat} {o1 o4:Option AV} (S:ShelfAt h p ps) (g:Good ps) (c:Cl ps ts se j) (s:Cs h hh se) (hj:k+1+j=ps.length) (lt:ts.length<=1000000) (hz:ps.length<=1000000) :
  ∃ h2 q4 se2,gN [some (.ref p),o1,some (.ref h.length),some (.int ((k+1:Nat):Int)),o4,none,none] hh = .nx [some (.ref p),o1,some (.ref h.length),some (.int ((k+1:Nat):Int)),q4,none,none] h2/\Cl ps ts se2 (j+1)/\Cs h h2 se2:=by
 have hk:k<ps.length:=by lia
 have p8:p+8<h.length:=bH S.h8
 have S1:ShelfAt hh p ps:=S.keep fun i _ b=>s.fr i (by lia)
 have e:ps[k]? = some (ps[k]'hk):=by simp
 generalize ps[k]'hk=q at e
 have fp:=kS S1 (n:=k+1) (by lia) (show ps[k+1-1]? = some q from e)
 have ii:=zw s.se (n:=k+1)
 have iff_:=c.iff g (k:=k) (by lia)
 have keep:(Rea ps ts (k+1)->∀ a b,q ≠ .fork a b)->Cl ps ts se (j+1):=fun h=>⟨c.inn,c.top,fun i a b hi r e2=>by
  by_cases z:i=k
  ·subst z;rw [e] at e2;cases e2;exact absurd rfl (h r a b)
  ·exact c.fk i a b (by lia) r e2,by have:=c.len;lia⟩
 cases q with
 | leaf x =>
  have fp':bS [.ref p,.int ((k+1:Nat):Int)] hh = .ok (.tup [.str "leaf",.str x]) hh:=fp
  refine ⟨hh,some (.tup [.str "leaf",.str x]),se,?_,keep (fun _ a b z=>by cases z),s⟩
  generalize ((k+1:Nat):Int)=K at *
  simp [gN,S1.ob,fp',ii,i6,nM,-au,-aQ,-gc]
 | fork a b =>
  have fp':bS [.ref p,.int ((k+1:Nat):Int)] hh = .ok (.tup [.str "fork",.int a,.int b]) hh:=fp
  by_cases r:Rea ps ts (k+1)
  ·rw [KR (iff_.mpr r)] at ii
   have Al:=bH s.se
   have eA:(hh++[AO.lst [.int a,.int b]])[h.length]? = some (.lst (az se)):=by rw [JF Al];exact s.se
   have eN:(hh++[AO.lst [.int a,.int b]])[hh.length]? = some (.lst [.int a,.int b]):=by simp
   have sz:(az se).length+2<=sizeLine:=by
    rw [J0]
    have:=c.len
    exact JK (m:=3000002) (by lia) (by decide)
   have ex:gI (.ref h.length) [.ref hh.length] (hh++[AO.lst [.int a,.int b]]) = .ok .non ((hh++[AO.lst [.int a,.int b]]).set h.length (.lst (az (se++[a,b])))):=by
    simp only [gI,eA,eN,J6,KW]
    rw [JJ sz]
    simp
   have il:aZ (.ref h.length) hh=true:=by simp only [aZ,cU,s.se];rfl
   refine ⟨(hh++[AO.lst [.int a,.int b]]).set h.length (.lst (az (se++[a,b]))),some (.tup [.str "fork",.int a,.int b]),se++[a,b],?_,⟨fun n hn=>?_,fun n hn=>JN _ (c.top n hn),fun i a' b' hi r' e2=>?_,?_⟩,JR (bH eA),fun i hi=>?_⟩
   ·generalize (hh++[AO.lst [.int a,.int b]]).set h.length (.lst (az (se++[a,b])))=H3 at *
    generalize hH2:hh++[AO.lst [.int a,.int b]]=H2 at *
    generalize ((k+1:Nat):Int)=K at *
    simp [gN,S1.ob,fp',ii,iC,nL,i1,i2,il,hH2,ex,-au,-aQ,-gc,-aZ,-gI]
   ·rcases JQ.mp hn with hn | hn
    ·exact c.inn n hn
    ·simp only [J8,MB,OJ] at hn
     rcases hn with rfl | rfl
     ·exact .inr (.one r e)
     ·exact .inr (.two r e)
   ·by_cases z:i=k
    ·subst z;rw [e] at e2;cases e2;exact ⟨by simp,by simp⟩
    ·have:=c.fk i a' b' (by lia) r' e2
     exact ⟨JN _ this.1,JN _ this.2⟩
   ·rw [JT];have:=c.len;simp;lia
   ·rw [JI (by lia),JF (by lia)];exact s.fr i hi
  ·rw [Ki (fun z=>r (iff_.mp z))] at ii
   refine ⟨hh,some (.tup [.str "fork",.int a,.int b]),se,?_,keep fun r' => absurd r' r,s⟩
   generalize ((k+1:Nat):Int)=K at *
   simp [gN,S1.ob,fp',ii,-au,-aQ,-gc]
theorem Hw {N:Nat} {j:Nat} {x:AV} (e:(eV (N:Int) 0)[j]? = some x):∃ k,k+1+j=N/\x = .int ((k+1:Nat):Int):=by
 unfold eV at e
 rw [Kh] at e
 obtain ⟨m,e1,rfl⟩:=J3.mp e
 have hl:=(JD.mp e1)
 obtain ⟨l1,l2⟩:=hl
 rw [List.getElem_range] at l2
 rw [La] at l1
 have:(N-0:Int).toNat=N:=by lia
 rw [this] at l1
 subst l2
 exact ⟨N-j-1,by (clear e e1 this;omega),by congr 1;(clear e e1 this;omega)⟩
theorem Hx {N:Nat}:(eV (N:Int) 0).length=N:=by unfold eV;rw [J0,La];lia
theorem Hy {h h0:AH} {p:Nat} {ps:List Pc} {ts:List Nat} {o1:Option AV} (S:ShelfAt h p ps) (g:Good ps) (s:Cs h h0 ts) (lt:ts.length<=1000000) (hz:ps.length<=1000000) :
  ∃ o3 o4 se h2,cQ none (eV (ps.length:Int) 0) (.nm 3) gN (eV (ps.length:Int) 0) [some (.ref p),o1,some (.ref h.length),none,none,none,none] h0 = .nx [some (.ref p),o1,some (.ref h.length),o3,o4,none,none] h2/\Cl ps ts se ps.length/\Cs h h2 se:=by
 obtain ⟨e',h',r1,o3,o4,se,rfl,c,s'⟩:=gv (w:=none) (all:=eV (ps.length:Int) 0) (t:=.nm 3) (b:=gN) (xs:=eV (ps.length:Int) 0) (en:=[some (.ref p),o1,some (.ref h.length),none,none,none,none]) (h:=h0)
  (fun j en hh=>∃ o3 o4 se,en=[some (.ref p),o1,some (.ref h.length),o3,o4,none,none]/\Cl ps ts se j/\Cs h hh se)
  ⟨none,none,ts,rfl,⟨fun n h=>.inl h,fun n h=>h,fun i a b hi r e=>by have:=(JD.mp e).1;lia,by lia⟩,s⟩ (fun _ _ _ _=>rfl) (by
   rintro j x en hh hx ⟨o3,o4,se,rfl,c,s⟩
   obtain ⟨k,hj,rfl⟩:=Hw hx
   obtain ⟨h2,q4,se2,b,c2,s2⟩:=Hv (o1:=o1) (o4:=o4) S g c s hj lt hz
   show thn (gN [some (.ref p),o1,some (.ref h.length),some (.int ((k+1:Nat):Int)),o4,none,none] hh) _
   rw [b]
   exact ⟨_,_,se2,rfl,c2,s2⟩)
 rw [Hx] at c
 exact ⟨o3,o4,se,h',r1,c,s'⟩
end Sk
namespace Sk
open PySem PySem.Spec L2 Sm
structure Cn (h hh:AH) (ps:List Pc) (ts se:List Nat) (B k:Nat):Prop where
 se:hh[h.length]? = some (.lst (az se))
 dc:hh[B]? = some (.dct false (kv ps ts (aE ps ts k)))
 pc:hh[B+1]? = some (.lst ((new ps ts k).map Pc.av))
 fr:∀ i,i<h.length->hh[i]? = h[i]?
abbrev eC (p:Nat) (o1:Option AV) (h:AH) (o3 o4:Option AV) (B:Nat):En:=[some (.ref p),o1,some (.ref h.length),o3,o4,some (.ref B),some (.ref (B+1))]
theorem Hz {h hh:AH} {p k B:Nat} {ps:List Pc} {ts se:List Nat} {o1 o4:Option AV} (S:ShelfAt h p ps) (g:Good ps) (c:Cl ps ts se ps.length) (s:Cn h hh ps ts se B k) (hB:h.length<B) (hk:k<ps.length) (hz:ps.length<=1000000) :
  ∃ h2 q4,gO (eC p o1 h (some (.int ((k+1:Nat):Int))) o4 B) hh = .nx (eC p o1 h (some (.int ((k+1:Nat):Int))) q4 B) h2/\Cn h h2 ps ts se B (k+1):=by
 have p8:p+8<h.length:=bH S.h8
 have S1:ShelfAt hh p ps:=S.keep fun i _ b=>s.fr i (by lia)
 have e:ps[k]? = some (ps[k]'hk):=by simp
 generalize ps[k]'hk=q at e
 have ii:=zw s.se (n:=k+1)
 have iff_:=c.iff g (k:=k) (by lia)
 by_cases r:Rea ps ts (k+1)
 ·rw [KR (iff_.mpr r)] at ii
  have ul:=nH (ps:=ps) (ts:=ts) k
  have nl:(new ps ts k).length=(aE ps ts k).length:=by rw [nI];rfl
  have rk:aP ps ts (k+1)=(aE ps ts k).length+1:=by unfold aP;rw [fU r,JT];rfl
  have ln:aL [.ref B] hh = .ok (.int (aP ps ts (k+1):Nat)) hh:=by
   simp only [aL,s.dc,J0,J6,rk]
  have pt:=uD (en:=eC p o1 h (some (.int ((k+1:Nat):Int))) o4 B) (h0:=hh) (o:=aa 5) (i:=aa 3) (v:=aD aL (ai (aa 5) ae)) s.dc r (by lia) (by simp [ln,-aL]) rfl rfl
  have Bl:=bH s.dc
  have Cl' := bH s.pc
  have S2:ShelfAt (hh.set B (.dct false (kv ps ts (aE ps ts (k+1))))) p ps:=S1.keep fun i _ b=>JI (by lia)
  have d2:(hh.set B (.dct false (kv ps ts (aE ps ts (k+1)))))[B]? = some (.dct false (kv ps ts (aE ps ts (k+1)))):=JR Bl
  have c2:(hh.set B (.dct false (kv ps ts (aE ps ts (k+1)))))[B+1]? = some (.lst ((new ps ts k).map Pc.av)):=by rw [JI (by lia)];exact s.pc
  have se2:(hh.set B (.dct false (kv ps ts (aE ps ts (k+1)))))[h.length]? = some (.lst (az se)):=by rw [JI (by lia)];exact s.se
  have fr2:∀ i,i<h.length->(hh.set B (.dct false (kv ps ts (aE ps ts (k+1)))))[i]? = h[i]? := fun i hi=>by rw [JI (by lia)];exact s.fr i hi
  generalize hh.set B (.dct false (kv ps ts (aE ps ts (k+1))))=h1 at *
  have fp:=kS S2 (n:=k+1) (by lia) (show ps[k+1-1]? = some q from e)
  have ap:bW (.ref (B+1)) [(fH ps ts q).av] h1 = .ok .non (h1.set (B+1) (.lst ((new ps ts (k+1)).map Pc.av))):=by
   have z:((new ps ts k).map Pc.av).length<sizeLine:=by
    rw [J0,nl]
    exact Ka (m:=1000000) (by lia) (by decide)
   rw [uz r e,K6]
   simp [bW,c2,z]
   try (rw [J0] at z;omega)
  have il:aZ (.ref (B+1)) h1=true:=by simp only [aZ,cU,c2];rfl
  have fin:Cn h (h1.set (B+1) (.lst ((new ps ts (k+1)).map Pc.av))) ps ts se B (k+1):=by
   refine ⟨?_,?_,JR (bH c2),fun i hi=>?_⟩
   ·rw [JI (by lia)];exact se2
   ·rw [JI (by lia)];exact d2
   ·rw [JI (by lia)];exact fr2 i hi
  cases q with
  | leaf x =>
   have fp':bS [.ref p,.int ((k+1:Nat):Int)] h1 = .ok (.tup [.str "leaf",.str x]) h1:=fp
   have ap':bW (.ref (B+1)) [.tup [.str "leaf",.str x]] h1 = .ok .non (h1.set (B+1) (.lst ((new ps ts (k+1)).map Pc.av))):=ap
   refine ⟨_,some (.tup [.str "leaf",.str x]),?_,fin⟩
   simp only [eC] at *
   unfold gO
   generalize dw (aa 5) (aa 3) (aD aL (ai (aa 5) ae))=SX at *
   generalize h1.set (B+1) (.lst ((new ps ts (k+1)).map Pc.av))=H3 at *
   generalize ((k+1:Nat):Int)=K at *
   simp [ii,pt,S2.ob,fp',i6,nM,il,ap',-au,-aQ,-gc,-aZ,-bW]
  | fork a b =>
   have fp':bS [.ref p,.int ((k+1:Nat):Int)] h1 = .ok (.tup [.str "fork",.int a,.int b]) h1:=fp
   have ap':bW (.ref (B+1)) [.tup [.str "fork",.int (aP ps ts a:Nat),.int (aP ps ts b:Nat)]] h1 = .ok .non (h1.set (B+1) (.lst ((new ps ts (k+1)).map Pc.av))):=ap
   obtain ⟨a1,a2,b1,b2⟩:=j0 g e
   have xa:=kU d2 (n:=a) (J7 _ (zaA.mpr ⟨a1,by lia,.one r e⟩))
   have xb:=kU d2 (n:=b) (J7 _ (zaA.mpr ⟨b1,by lia,.two r e⟩))
   refine ⟨_,some (.tup [.str "fork",.int (aP ps ts a:Nat),.int (aP ps ts b:Nat)]),?_,fin⟩
   simp only [eC] at *
   unfold gO
   generalize dw (aa 5) (aa 3) (aD aL (ai (aa 5) ae))=SX at *
   generalize h1.set (B+1) (.lst ((new ps ts (k+1)).map Pc.av))=H3 at *
   generalize ((k+1:Nat):Int)=K at *
   simp [ii,pt,S2.ob,fp',iC,nL,i1,i2,xa,xb,il,ap',-au,-aQ,-gc,-aZ,-bW]
 ·rw [Ki (fun z=>r (iff_.mp z))] at ii
  refine ⟨hh,o4,?_,s.se,by rw [j3 r];exact s.dc,by rw [zj r];exact s.pc,s.fr⟩
  simp only [eC] at *
  generalize ((k+1:Nat):Int)=K at *
  simp [gO,ii,-gc]
theorem HA {h h0:AH} {p B:Nat} {ps:List Pc} {ts se:List Nat} {o1 o3 o4:Option AV} (S:ShelfAt h p ps) (g:Good ps) (c:Cl ps ts se ps.length) (s:Cn h h0 ps ts se B 0) (hB:h.length<B) (hz:ps.length<=1000000) :
  ∃ q3 q4 h2,cQ none (bO 1 ps.length) (.nm 3) gO (bO 1 ps.length) (eC p o1 h o3 o4 B) h0 = .nx (eC p o1 h q3 q4 B) h2/\Cn h h2 ps ts se B ps.length:=by
 obtain ⟨e',h',r1,q3,q4,rfl,s'⟩:=gv (w:=none) (all:=bO 1 ps.length) (t:=.nm 3) (b:=gO) (xs:=bO 1 ps.length) (en:=eC p o1 h o3 o4 B) (h:=h0)
  (fun j en hh=>∃ q3 q4,en=eC p o1 h q3 q4 B/\Cn h hh ps ts se B j)
  ⟨o3,o4,rfl,s⟩ (fun _ _ _ _=>rfl) (by
   rintro j x en hh hx ⟨o3,o4,rfl,s⟩
   rw [mX] at hx
   split at hx
   ·rename_i hj
    injection hx with hx
    subst hx
    obtain ⟨h2,q4,b,s2⟩:=Hz (o1:=o1) (o4:=o4) S g c s hB hj hz
    show thn (gO (eC p o1 h (some (.int (1+j))) o4 B) hh) _
    rw [show (1:Int)+(j:Int)=((j+1:Nat):Int) by lia,b]
    exact ⟨_,_,rfl,s2⟩
   ·cases hx)
 rw [gP] at s'
 exact ⟨q3,q4,h',r1,s'⟩
theorem HB {h:AH} {p:Nat} {ps:List Pc} {ts:List Nat} {v:AV} (S:ShelfAt h p ps) (g:Good ps) (L:Lt h v ts) (ht:∀ n∈ts,n<=ps.length) (lt:ts.length<=1000000) (hz:ps.length<=1000000) :
  ∃ (Y:Nat) (h':AH),oX [.ref p,v] h = .ok (.tup [.ref Y,.fl (az (ts.map (aP ps ts)))]) h'/\h'[Y]? = some (.lst ((new ps ts ps.length).map Pc.av))/\∀ i,i<h.length->h'[i]? = h[i]? := by
 have p8:p+8<h.length:=bH S.h8
 have lm:kd [v] h = .ok (.ref h.length) (h++[.lst (az ts)]):=by
  rcases L with rfl | ⟨n,rfl,e⟩
  ·rfl
  ·simp only [kd,e]
 have s0:Cs h (h++[.lst (az ts)]) ts:=⟨by simp,fun i hi=>JF hi⟩
 obtain ⟨o3,o4,se,h1,l1,c,s1⟩:=Hy (o1:=some v) S g s0 lt hz
 have S0:=S.app [AO.lst (az ts)]
 have m0:=m8 S0
 generalize h++[AO.lst (az ts)]=h0 at *
 have it1:kG (aG 0 eJ (aa 0) ae) (af (.int 0)) (dz de (af (.int 1))) [some (.ref p),some v,some (.ref h.length),none,none,none,none] h0 = .ok (eV (ps.length:Int) 0,none) h0:=by
  have b:(ps.length:Int).natAbs<2 ^ 40/\(0:Int).natAbs<2 ^ 40/\True:=⟨by lia,by lia,trivial⟩
  have e1:aG 0 eJ (aa 0) ae [some (.ref p),some v,some (.ref h.length),none,none,none,none] h0 = .ok (.int ps.length) h0:=by simp [S0.ob,m0]
  have e2:dz de (af (.int 1)) [some (.ref p),some v,some (.ref h.length),none,none,none,none] h0 = .ok (.int (-1)) h0:=by simp
  unfold kG
  rw [e1]
  simp only [Out.bind,af]
  rw [e2]
  simp only
  rw [JJ b]
 have f1:=(gQ (t:=.nm 3) (b:=gN) it1).trans l1
 have di:=zr [some (.ref p),some v,some (.ref h.length),o3,o4,none,none] h1
 have hl:h.length<h1.length:=bH s1.se
 have n2:Cn h (h1++[.dct false [(.int 0,.int 0)]]++[.lst []]) ps ts se h1.length 0:=by
  refine ⟨?_,?_,?_,fun i hi=>?_⟩
  ·rw [JP,JF hl];exact s1.se
  ·rw [JP,J9 (JE _),Ox];rfl
  ·rw [JP,J9 (by lia),Lb];rfl
  ·rw [JP,JF (by lia)];exact s1.fr i hi
 have S2:ShelfAt (h1++[.dct false [(.int 0,.int 0)]]++[.lst []]) p ps:=S.keep fun i _ b=>n2.fr i (by lia)
 have l2:(h1++[AO.dct false [(.int 0,.int 0)]]).length=h1.length+1:=by simp
 obtain ⟨q3,q4,h3,lp2,n3⟩:=HA (o1:=some v) (o3:=o3) (o4:=o4) S g c n2 hl hz
 have m2:=m8 S2
 have lm2:cT ae [some (.ref p),some v,some (.ref h.length),o3,o4,some (.ref h1.length),none] (h1++[AO.dct false [(.int 0,.int 0)]]) = .ok (.ref (h1.length+1)) (h1++[AO.dct false [(.int 0,.int 0)]]++[.lst []]):=by
  rw [<- l2];rfl
 generalize hH4:h1++[AO.dct false [(.int 0,.int 0)]]++[AO.lst []]=H4 at *
 have it2:fB (af (.int 1)) (ag aA (aG 0 eJ (aa 0) ae) (af (.int 1))) (eC p (some v) h o3 o4 h1.length) H4 = .ok (bO 1 ps.length,none) H4 :=
  tK (i:=1) (j:=ps.length+1) rfl (by simp [S2.ob,m2]) (by lia) (by lia) (by (clear lm2 m2 lp2 S2 n2 hH4 n3 l2 hl di f1 it1 m0 S0 l1 s0 lm s1 c p8 lt ht L g S;omega))
 have f2:=(gQ (t:=.nm 3) (b:=gO) it2).trans lp2
 have L3:Lt h3 v ts:=L.keep n3.fr
 obtain ⟨wv,i1,i2⟩:=L3.it (a:=aa 1) (en:=eC p (some v) h q3 q4 h1.length) rfl
 have cp:=tG (js:=[5]) (en:=eC p (some v) h q3 q4 h1.length) (w:=wv) (all:=az ts) (e:=ag au (aa 1) (aa 0)) (g:=fun n:Nat=>AV.int n) (f:=fun n:Nat=>AV.int (aP ps ts n:Nat)) i2 ts []
  (fun n hn=>by
   have:=kU n3.dc (zt g ht hn)
   simp [this,-au]) (by simp only [KW,K8];exact JK lt (by decide))
 rw [LP] at cp
 have cm:dC [5] (bu (aa 1)) bw (ag au (aa 1) (aa 0)) (eC p (some v) h q3 q4 h1.length) h3 = .ok (.fl (az (ts.map (aP ps ts)))) h3:=by
  unfold dC
  rw [i1]
  dsimp only
  rw [cp,show az (ts.map (aP ps ts))=ts.map (fun n:Nat=>AV.int (aP ps ts n:Nat)) from Lk]
 refine ⟨h1.length+1,h3,?_,n3.pc,n3.fr⟩
 simp only [eC] at f2 cm
 unfold oX
 generalize bh (kG (aG 0 eJ (aa 0) ae) (af (.int 0)) (dz de (af (.int 1)))) (.nm 3) gN=FA at *
 generalize bh (fB (af (.int 1)) (ag aA (aG 0 eJ (aa 0) ae) (af (.int 1)))) (.nm 3) gO=FB at *
 generalize dC [5] (bu (aa 1)) bw (ag au (aa 1) (aa 0))=CM at *
 generalize jD (af (.int 0)) (af (.int 0))=DI at *
 generalize cT ae=LM at *
 generalize h1++[AO.dct false [(.int 0,.int 0)]]=H2 at *
 simp [lm,f1,di,lm2,f2,cm,-kd]
end Sk
namespace Sk
open PySem PySem.Spec L2 Sm
def Pc.pd:Pc->PyData
 | .leaf x=>.tuple [.str "leaf",.str x]
 | .fork a b=>.tuple [.str "fork",.int a,.int b]
theorem HC (h:AH) (n:Nat) (q:Pc):bj (n+2) h q.av=some q.pd:=by cases q<;>simp [Pc.av,Pc.pd,bj,bE]
theorem uE (h:AH) (n:Nat):∀ ps:List Pc,bE (bj (n+2) h) (ps.map Pc.av)=some (ps.map Pc.pd)
 | []=>rfl
 | q::r=>by simp only [JS,bE,HC,uE h n r]
theorem zx {h:AH} {n:Nat} {xs:List AV} {ds:List PyData} {k:Nat} (e:h[k]? = some (.lst xs)) (d:bE (bj n h) xs=some ds):bj (n+1) h (.ref k)=some (.list ds):=by
 simp [bj,e,d]
theorem zA {h:AH} {n:Nat} {xs:List AV} {ds:List PyData} (d:bE (bj n h) xs=some ds):bj (n+1) h (.fl xs)=some (.list ds):=by
 simp [bj,d]
theorem HD:∀ p q:Pc,PyData.eqv p.pd q.pd=decide (p=q)
 | .leaf x,.leaf y=>by simp [Pc.pd,PyData.eqv,PyData.eqvAll];rw [K5];simp
 | .leaf x,.fork a b=>by simp [Pc.pd,PyData.eqv,PyData.eqvAll]
 | .fork a b,.leaf x=>by simp [Pc.pd,PyData.eqv,PyData.eqvAll]
 | .fork a b,.fork c d=>by
  simp [Pc.pd,PyData.eqv,PyData.eqvAll]
  by_cases h1:a=c<;>by_cases h2:b=d<;>simp [h1,h2]<;>lia
theorem zB:∀ ps qs:List Pc,PyData.eqvAll (ps.map Pc.pd) (qs.map Pc.pd)=decide (ps=qs)
 | [],[]=>by simp [PyData.eqvAll]
 | [],q::r=>by simp [PyData.eqvAll]
 | p::r,[]=>by simp [PyData.eqvAll]
 | p::r,q::t=>by
  simp only [JS,PyData.eqvAll,HD,zB r t]
  by_cases h1:p=q<;>by_cases h2:r=t<;>simp [h1,h2]
theorem zC {a b:AV} {h:AH} (ha:(∃ l,a = .fl l)\/∃ n,a = .ref n) {ds:List PyData} (d1:bj 8 h a=some (.list ds)) (d2:bj 8 h b=some (.list ds)) (r:PyData.eqvAll ds ds=true):gZ a b h=some true:=by
 have:gZ a b h=(match bj 8 h a,bj 8 h b with | some d,some e=>some (PyData.eqv d e) | _,_=>none):=by
  rcases ha with ⟨l,rfl⟩ | ⟨n,rfl⟩<;>cases b<;>rfl
 rw [this,d1,d2]
 show some (PyData.eqv (.list ds) (.list ds))=_
 rw [PyData.eqv,r]
theorem iG {a b:AV} {h:AH} (ha:(∃ l,a = .fl l)\/∃ n,a = .ref n) {ds:List PyData} (d1:bj 8 h a=some (.list ds)) (d2:bj 8 h b=some (.list ds)) (r:PyData.eqvAll ds ds=true):bg a b h = .ok (.bl false) h:=by
 have:=zC ha d1 d2 r
 unfold bg;rw [this];rfl
theorem nN {a b:AV} {h:AH} (ha:(∃ l,a = .fl l)\/∃ n,a = .ref n) {ds:List PyData} (d1:bj 8 h a=some (.list ds)) (d2:bj 8 h b=some (.list ds)) (r:PyData.eqvAll ds ds=true):aQ a b h = .ok (.bl true) h:=by
 have:=zC ha d1 d2 r
 unfold aQ;rw [this]
theorem pP (h:AH) (ps:List Pc):bj 8 h (.fl (ps.map Pc.av))=some (.list (ps.map Pc.pd)):=zA (n:=7) (uE h 5 ps)
theorem zE {h:AH} {Y:Nat} {ps:List Pc} (e:h[Y]? = some (.lst (ps.map Pc.av))):bj 8 h (.ref Y)=some (.list (ps.map Pc.pd)):=zx (n:=7) e (uE h 5 ps)
theorem uF (ps:List Pc):PyData.eqvAll (ps.map Pc.pd) (ps.map Pc.pd)=true:=by rw [zB];simp
theorem pQ (h:AH) (l:List Nat):bj 8 h (.fl (az l))=some (.list (l.map fun n:Nat=>PyData.int n)):=zA (n:=7) (pO 7 h l)
theorem uG {h:AH} {Y:Nat} {l:List Nat} (e:h[Y]? = some (.lst (az l))):bj 8 h (.ref Y)=some (.list (l.map fun n:Nat=>PyData.int n)):=zx (n:=7) e (pO 7 h l)
theorem pR:∀ l:List Nat,PyData.eqvAll (l.map fun n:Nat=>PyData.int n) (l.map fun n:Nat=>PyData.int n)=true
 | []=>by simp [PyData.eqvAll]
 | n::l=>by rw [JS];simp [PyData.eqvAll,PyData.eqv,pR l]
theorem Lt.d {h:AH} {v:AV} {ts:List Nat} (L:Lt h v ts):bj 8 h v=some (.list (ts.map fun n:Nat=>PyData.int n)):=by
 rcases L with rfl | ⟨n,rfl,e⟩
 ·exact pQ h ts
 ·exact uG e
theorem pS {h:AH} {p:Nat} {ps:List Pc} (S:ShelfAt h p ps) (hz:ps.length<=1000000):jO [.ref p] h = .ok (.fl (ps.map Pc.av)) h:=by
 have m:=m8 S
 have it:fB (af (.int 1)) (ag aA (aG 0 eJ (aa 0) ae) (af (.int 1))) [some (.ref p)] h = .ok (bO 1 ps.length,none) h :=
  tK (i:=1) (j:=ps.length+1) rfl (by simp [S.ob,m]) (by lia) (by lia) (by lia)
 obtain ⟨zs,h',c,rfl,rfl⟩:=tJ (js:=[0]) (en:=[some (.ref p)]) (all:=bO 1 ps.length) (e:=aG 0 bS (aa 1) (ai (aa 0) ae)) (xs:=bO 1 ps.length) (h:=h)
  (fun j ys hh=>hh=h/\ys=(ps.take j).map Pc.av) ⟨rfl,by simp⟩ (by
   rintro j x ys hh hx ⟨rfl,rfl⟩
   rw [mX] at hx
   split at hx
   ·rename_i hj
    injection hx with hx
    subst hx
    have e:ps[j]? = some (ps[j]'hj):=by simp
    have fp:=tP S e
    rw [show (j:Int)+1=1+(j:Int) by lia] at fp
    have:aG 0 bS (aa 1) (ai (aa 0) ae) [some (.int (1+j)),some (.ref p)] hh = .ok (ps[j]'hj).av hh:=by simp [S.ob,fp]
    show tH (aG 0 bS (aa 1) (ai (aa 0) ae) [some (.int (1+j)),some (.ref p)] hh) _
    rw [this]
    refine ⟨rfl,?_⟩
    rw [Oy,e,K6]
    rfl
   ·cases hx) (by rw [gP];exact JK hz (by decide))
 rw [gP,L7] at c
 unfold jO
 generalize hC:aG 0 bS (aa 1) (ai (aa 0) ae)=PS at *
 generalize hI:fB (af (.int 1)) (ag aA (aG 0 eJ (aa 0) ae) (af (.int 1)))=IT at *
 simp [it,c]
theorem HE {h:AH} {p:Nat} {ps:List Pc} (S:ShelfAt h p ps) (g:Good ps) (hz:ps.length<=1000000):oY [.ref p] h = .ok (.bl true) h:=by
 have m:=m8 S
 have it:fB (af (.int 1)) (ag aA (aa 1) (af (.int 1))) [some (.ref p),some (.int ps.length),none,none,none] h = .ok (bO 1 ps.length,none) h :=
  tK (i:=1) (j:=ps.length+1) rfl (by simp) (by lia) (by lia) (by lia)
 obtain ⟨e',h',r1,o2,o3,o4,rfl,rfl⟩:=gv (w:=none) (all:=bO 1 ps.length) (t:=.nm 2) (b:=jP) (xs:=bO 1 ps.length) (en:=[some (.ref p),some (.int ps.length),none,none,none]) (h:=h)
  (fun j en hh=>∃ o2 o3 o4,en=[some (.ref p),some (.int ps.length),o2,o3,o4]/\hh=h)
  ⟨none,none,none,rfl,rfl⟩ (fun _ _ _ _=>rfl) (by
   rintro j x en hh hx ⟨o2,o3,o4,rfl,rfl⟩
   rw [mX] at hx
   split at hx
   ·rename_i hj
    injection hx with hx
    subst hx
    have e:ps[j]? = some (ps[j]'hj):=by simp
    generalize ps[j]'hj=q at e
    have fp:=tP S e
    have ej:(1:Int)+(j:Int)=((j+1:Nat):Int):=by lia
    rw [show (j:Int)+1=((j+1:Nat):Int) by lia] at fp
    have ok:=g.get e
    have n1:bg (.int ((j+1:Nat):Int)) (.int ((j+1:Nat):Int)) hh = .ok (.bl false) hh:=by simp
    have n2:bg (.int (ps.length:Int)) (.int (ps.length:Int)) hh = .ok (.bl false) hh:=by simp
    show thn (jP [some (.ref p),some (.int ps.length),some (.int (1+j)),o3,o4] hh) _
    rw [ej]
    cases q with
    | leaf x =>
     have lf:=ng S g.nodup (show d8 x=true from ok) (JK (kQ ok).2.1 (by decide)) e
     have fp':bS [.ref p,.int ((j+1:Nat):Int)] hh = .ok (.tup [.str "leaf",.str x]) hh:=fp
     generalize ((j+1:Nat):Int)=K at *
     simp [jP,S.ob,fp',i6,kT,nv,lf,n1,n2,m,-au,-aQ,-bg]
    | fork a b =>
     have lf:=pC S g.nodup (ForkOk.pre (show ForkOk (ps.take j) a b from ok) (kP ps j)) e
     have fp':bS [.ref p,.int ((j+1:Nat):Int)] hh = .ok (.tup [.str "fork",.int a,.int b]) hh:=fp
     generalize ((j+1:Nat):Int)=K at *
     simp [jP,S.ob,fp',iC,jY,i1,i2,lf,n1,n2,m,-au,-aQ,-bg]
   ·cases hx)
 have f1:=(gQ (t:=.nm 2) (b:=jP) it).trans r1
 unfold oY
 generalize bh (fB (af (.int 1)) (ag aA (aa 1) (af (.int 1)))) (.nm 2) jP=FL at *
 simp [S.ob,m,f1]
theorem pT {h:AH} {p n:Nat} {ps:List Pc} {x:Str} {m:Ms} (S:ShelfAt h p ps) (g:Good ps) (t:TxZ ps n x) (e:(meas ps)[n]? = some m) (hx:x.length<=10000):∃ r:AH,jR [.ref p,.int n] h = .ok (.fl [.str x,.int m.sg,.int m.en,.int m.lv,.int m.ht]) (h++r):=by
 obtain ⟨r,f⟩:=GT S g t hx
 have S1:=S.app r
 have a:=iA S1 e
 have b:=Gd S1 e
 have c:=Ge S1 e
 have d:=cK S1 e
 refine ⟨r,?_⟩
 generalize h++r=H at *
 simp [jR,f,S1.ob,a,b,c,d]
end Sk
namespace Sk
open PySem PySem.Spec L2 Sm
theorem zF {L:AH->Bool} {t:Tg} {b:SS} (P:Nat->En->AH->Prop):∀ (xs:List AV) (i:Nat) (en:En) (h:AH),P i en h ->
  (∀ i en h,P i en h->L h=true) ->
  (∀ (j:Nat) (x:AV) (en:En) (h:AH),xs[j]? = some x->P (i+j) en h->∃ e1 e2 h2,df t x en=some e1/\b e1 h = .nx e2 h2/\P (i+j+1) e2 h2) ->
  ∃ e' h',gj L t b xs en h = .nx e' h'/\P (i+xs.length) e' h'
 | [],i,en,h,p,lv,_=>⟨en,h,by unfold gj;rw [JJ (lv _ _ _ p)],p⟩
 | x::xs,i,en,h,p,lv,s=>by
  obtain ⟨e1,e2,h2,q1,q2,q3⟩:=s 0 x en h rfl p
  obtain ⟨e',h',r1,r2⟩:=zF P xs (i+1) e2 h2 q3 lv fun j y en h e q=>by
   have:=s (j+1) y en h (by simpa using e) (by rw [show i+(j+1)=i+1+j by lia];exact q)
   rw [show i+(j+1)+1=i+1+j+1 by lia] at this
   exact this
  refine ⟨e',h',?_,by rw [J6,show i+(xs.length+1)=i+1+xs.length by lia];exact r2⟩
  unfold gj
  rw [JJ (lv _ _ _ p)]
  simp only [q1,q2]
  exact r1
theorem zG {h h':AH} (k:∀ i,i<h.length->h'[i]? = h[i]?) (l:h.length<=h'.length):∃ r,h'=h++r:=by
 refine ⟨h'.drop h.length,LX fun i=>?_⟩
 by_cases q:i<h.length
 ·rw [k i q,JF q]
 ·rw [J9 (by lia),Kg]
  congr 1
  lia
theorem zH {h:AH} {v:AV} {ts:List Nat} (L:Lt h v ts):∃ w,iZ v h=some (az ts,w)/\∀ r,bV w (az ts) (h++r)=true:=by
 rcases L with rfl | ⟨n,rfl,e⟩
 ·exact ⟨none,rfl,fun _=>rfl⟩
 ·refine ⟨some n,by simp only [iZ,e],fun r=>?_⟩
  have:(h++r)[n]? = some (.lst (az ts)):=by rw [JF (bH e)];exact e
  simp [bV,this]
theorem zI {h:AH} {x:Str} {a b c d:Int}:bg (.fl [.str x,.int a,.int b,.int c,.int d]) (.fl [.str x,.int a,.int b,.int c,.int d]) h = .ok (.bl false) h:=by
 simp [bj,bE,PyData.eqv,PyData.eqvAll]
theorem HG {h:AH} {p P n:Nat} {ps:List Pc} {ts:List Nat} (S:ShelfAt h p ps) (S2:ShelfAt h P (new ps ts ps.length)) (g:Good ps) (fw:cL 64 ps) (ht:∀ n∈ts,n<=ps.length) (hn:n∈ts) :
  ∃ l r r',jR [.ref p,.int n] h = .ok (.fl l) (h++r)/\jR [.ref P,.int (aP ps ts n:Nat)] (h++r) = .ok (.fl l) (h++r++r')/\∀ H,bg (.fl l) (.fl l) H = .ok (.bl false) H:=by
 obtain ⟨G,L⟩:=nJ g ht ps.length (JE _)
 by_cases z:n=0
 ·subst z
  obtain ⟨r,f1⟩:=pT (n:=0) (x := "") S g (.inl ⟨rfl,rfl⟩) (jZ ps) (by decide)
  obtain ⟨r',f2⟩:=pT (n:=0) (x := "") (S2.app r) G (.inl ⟨rfl,rfl⟩) (jZ _) (by decide)
  exact ⟨_,r,r',f1,f2,fun H=>zI⟩
 ·obtain ⟨m,x,f,l,T⟩:=g.tx n (by lia) (ht n hn)
  obtain ⟨m',f',l',T',e1,e2,_,_⟩:=L n (ht n hn) (.top hn z) m x f l T
  have lx:x.length<=10000:=by have:=fw n m T.ms;have:=T.ky.sg;lia
  obtain ⟨r,f1⟩:=pT S g (.inr ⟨_,_,_,T⟩) T.ms lx
  obtain ⟨r',f2⟩:=pT (S2.app r) G (.inr ⟨_,_,_,T'⟩) T'.ms lx
  rw [T'.ky.sg,T'.ky.en,e1,e2] at f2
  rw [T.ky.sg,T.ky.en] at f1
  exact ⟨_,r,r',f1,f2,fun H=>zI⟩
abbrev eT (p:Nat) (v:AV) (o2 o3 o4:Option AV) (P W:Nat) (o6 o7:Option AV):En:=[some (.ref p),some v,o2,o3,o4,some (.tup [.ref P,.ref W]),o6,o7,none]
theorem HH {h:AH} {p P W:Nat} {ps:List Pc} {ts:List Nat} {v:AV} {o2 o3 o4:Option AV} (S:ShelfAt h p ps) (S2:ShelfAt h P (new ps ts ps.length)) (g:Good ps) (fw:cL 64 ps) (L:Lt h v ts) (eW:h[W]? = some (.lst (az (ts.map (aP ps ts))))) (ht:∀ n∈ts,n<=ps.length) :
  ∃ o6 o7 r,kI (aa 1) (ag au (aa 5) (af (.int 1))) (.tup [6,7]) mW (eT p v o2 o3 o4 P W none none) h = .nx (eT p v o2 o3 o4 P W o6 o7) (h++r):=by
 obtain ⟨w1,s1,l1⟩:=zH L
 obtain ⟨w2,s2,l2⟩:=zH (.inr ⟨W,rfl,eW⟩:Lt h (.ref W) (ts.map (aP ps ts)))
 have it:kH (aa 1) (ag au (aa 5) (af (.int 1))) (eT p v o2 o3 o4 P W none none) h = .ok (fg (az ts) (az (ts.map (aP ps ts))),fun h=>bV w1 (az ts) h && bV w2 (az (ts.map (aP ps ts))) h) h:=by
  have e1:(aa 1) (eT p v o2 o3 o4 P W none none) h = .ok v h:=rfl
  have e2:(ag au (aa 5) (af (.int 1))) (eT p v o2 o3 o4 P W none none) h = .ok (.ref W) h:=rfl
  unfold kH
  rw [e1]
  simp only [Out.bind]
  rw [e2]
  simp only
  rw [s1,s2]
 obtain ⟨e',h',r1,o6,o7,r,rfl,rfl⟩:=zF (L:=fun h=>bV w1 (az ts) h && bV w2 (az (ts.map (aP ps ts))) h) (t:=.tup [6,7]) (b:=mW) (fun _ en hh=>∃ o6 o7 r,en=eT p v o2 o3 o4 P W o6 o7/\hh=h++r) (fg (az ts) (az (ts.map (aP ps ts)))) 0 (eT p v o2 o3 o4 P W none none) h ⟨none,none,[],rfl,by simp⟩
  (by
   rintro i en hh ⟨o6,o7,r,rfl,rfl⟩
   show (bV w1 (az ts) (h++r) && bV w2 (az (ts.map (aP ps ts))) (h++r))=true
   rw [l1 r,l2 r];rfl)
  (by
   rintro j x en hh hx ⟨o6,o7,r,rfl,rfl⟩
   obtain ⟨a,b,rfl,ea,eb⟩:=sI _ _ _ _ hx
   rw [Kh] at ea eb
   obtain ⟨n,en,rfl⟩:=J3.mp ea
   rw [Kh,en] at eb
   simp at eb
   subst eb
   obtain ⟨l,r2,r3,t1,t2,t3⟩:=HG (S.app r) (S2.app r) g fw ht (Kb en)
   refine ⟨eT p v o2 o3 o4 P W (some (.int n)) (some (.int (aP ps ts n:Nat))),_,h++r++r2++r3,rfl,?_,some (.int n),some (.int (aP ps ts n:Nat)),r++r2++r3,rfl,by simp⟩
   have e0:∀ H:AH,au (.tup [.ref P,.ref W]) (.int 0) H = .ok (.ref P) H:=fun _=>rfl
   have t3' := t3 (h++r++r2++r3)
   generalize h++r++r2++r3=H3 at *
   generalize h++r++r2=H2 at *
   generalize h++r=H1 at *
   simp [mW,t1,t2,t3',e0,-au,-bg])
 refine ⟨o6,o7,r,?_⟩
 unfold kI
 rw [it]
 exact r1
end Sk
namespace Sk
open PySem PySem.Spec L2 Sm
theorem uH {h:AH} {p:Nat} {ps:List Pc} {ts:List Nat} {v:AV} (S:ShelfAt h p ps) (g:Good ps) (fw:cL 64 ps) (L:Lt h v ts) (ht:∀ n∈ts,n<=ps.length) (lt:ts.length<=900000) (hz:ps.length<=900000) :
  ∃ r,kM [.ref p,v] h = .ok (.bl true) (h++r):=by
 have p8:p+8<h.length:=bH S.h8
 have f2:=pS S (by lia)
 obtain ⟨Y,h1,f3,eY,k1⟩:=HB S g L ht (by lia) (by lia)
 obtain ⟨r1,rfl⟩:=zG k1 (by
  by_cases q:h.length<=h1.length
  ·exact q
  ·have a:=k1 (h.length-1) (by lia)
   have b:h[h.length-1]? = some (h[h.length-1]'(by lia)):=by simp
   rw [b] at a
   have:=bH a
   (clear b a q k1 eY f3 f2 p8 hz lt ht L fw g S;lia))
 have S1:=S.app r1
 have L1:=L.app r1
 have Yl:=bH eY
 generalize hH1:h++r1=h1 at *
 have l01:h.length<=h1.length:=by rw [<- hH1,JT];lia
 have f4:kb [v] h1 = .ok (.fl (az ts)) h1:=by
  rcases L1 with rfl | ⟨n,rfl,e⟩
  ·rfl
  ·simp only [kb,e]
 obtain ⟨W,h2,f5,S5,hW,eW,k2⟩:=zu S1 g (.inl rfl:Lt h1 (.fl (az ts)) ts) ht (by lia) (by lia)
 have W2:=bH eW
 have S2:ShelfAt h2 p ps:=S1.keep fun i _ b=>k2 i (by lia)
 have L2:Lt h2 v ts:=L1.keep k2
 have eY2:h2[Y]? = some (.lst ((new ps ts ps.length).map Pc.av)):=(k2 Y Yl).trans eY
 have ln:(new ps ts ps.length).length<=ps.length:=by rw [nI];exact nH _
 have c1:bg (.fl (az ts)) v h2 = .ok (.bl false) h2:=iG (.inl ⟨_,rfl⟩) (pQ h2 ts) L2.d (pR ts)
 have g5:=pS S5 (by lia)
 have c2:bg (.fl ((new ps ts ps.length).map Pc.av)) (.ref Y) h2 = .ok (.bl false) h2:=iG (.inl ⟨_,rfl⟩) (pP h2 _) (zE eY2) (uF _)
 have c3:bg (.ref W) (.fl (az (ts.map (aP ps ts)))) h2 = .ok (.bl false) h2:=iG (.inr ⟨_,rfl⟩) (uG eW) (pQ h2 _) (pR _)
 have io:gr 0 (ag au (aa 5) (af (.int 0))) (eT p v (some (.fl (ps.map Pc.av))) (some (.tup [.ref Y,.fl (az (ts.map (aP ps ts)))])) (some (.fl (az ts))) h1.length W none none) h2 = .ok (.bl true) h2:=by
  have e1:(ag au (aa 5) (af (.int 0))) (eT p v (some (.fl (ps.map Pc.av))) (some (.tup [.ref Y,.fl (az (ts.map (aP ps ts)))])) (some (.fl (az ts))) h1.length W none none) h2 = .ok (.ref h1.length) h2:=rfl
  unfold gr
  rw [e1]
  simp only [Out.bind,S5.ob,Ly]
 obtain ⟨o6,o7,r2,fz⟩:=HH (o2:=some (.fl (ps.map Pc.av))) (o3:=some (.tup [.ref Y,.fl (az (ts.map (aP ps ts)))])) (o4:=some (.fl (az ts))) S2 S5 g fw L2 eW ht
 have S3:=S2.app r2
 have S5' := S5.app r2
 have eW3:(h2++r2)[W]? = some (.lst (az (ts.map (aP ps ts)))):=by rw [JF W2];exact eW
 have k3:∀ i,i<h1.length->(h2++r2)[i]? = h1[i]? := fun i hi=>by rw [JF (by lia)];exact k2 i hi
 obtain ⟨G,_⟩:=nJ g ht ps.length (JE _)
 have kn:=HE S5' G (by lia)
 obtain ⟨nq,qs,h4,lf,D,_⟩:=Gc (x := "Qq") S5' G (by decide +kernel) (by lia)
 generalize h2++r2=h3 at *
 have eW4:h4[W]? = some (.lst (az (ts.map (aP ps ts)))):=(D.fr W (.inr hW)).trans eW3
 have W4:=bH eW4
 have ap:bW (.ref W) [.int 0] h4 = .ok .non (h4.set W (.lst (az (ts.map (aP ps ts))++[.int 0]))):=by
  have z:(az (ts.map (aP ps ts))).length<sizeLine:=by
   rw [J0,J0]
   exact Ka lt (by decide)
  simp only [bW,eW4]
  rw [JJ z]
 have il:aZ (.ref W) h4=true:=by simp only [aZ,cU,eW4];rfl
 have k5:∀ i,i<h1.length->(h4.set W (.lst (az (ts.map (aP ps ts))++[.int 0])))[i]? = h1[i]? := fun i hi=>by
  rw [JI (by lia),D.fr i (.inl (by lia))]
  exact k3 i hi
 have l5:(h4.set W (.lst (az (ts.map (aP ps ts))++[.int 0]))).length=h3.length:=by rw [MH,D.hl]
 have l3:h1.length<=h3.length:=by have:=bH eW3;lia
 generalize h4.set W (.lst (az (ts.map (aP ps ts))++[.int 0]))=h5 at *
 have S6:ShelfAt h5 p ps:=S1.keep fun i _ b=>k5 i (by lia)
 have f6:=pS S6 (by lia)
 have c4:bg (.fl (ps.map Pc.av)) (.fl (ps.map Pc.av)) h5 = .ok (.bl false) h5:=iG (.inl ⟨_,rfl⟩) (pP h5 _) (pP h5 _) (uF _)
 obtain ⟨W',h6,f7,S7,hW',eW',k7⟩:=zu S6 g (.inl rfl:Lt h5 (.fl (az ts)) ts) ht (by lia) (by lia)
 have f8:=pS S7 (by lia)
 have eY6:h6[Y]? = some (.lst ((new ps ts ps.length).map Pc.av)):=(k7 Y (by lia)).trans ((k5 Y Yl).trans eY)
 have c5:aQ (.fl ((new ps ts ps.length).map Pc.av)) (.ref Y) h6 = .ok (.bl true) h6:=nN (.inl ⟨_,rfl⟩) (pP h6 _) (zE eY6) (uF _)
 have c6:aQ (.ref W') (.fl (az (ts.map (aP ps ts)))) h6 = .ok (.bl true) h6:=nN (.inr ⟨_,rfl⟩) (uG eW') (pQ h6 _) (pR _)
 obtain ⟨r,er⟩:=zG (h:=h) (h' := h6) (fun i hi=>(k7 i (by lia)).trans ((k5 i (by lia)).trans (by rw [<- hH1,JF hi]))) (by have:=bH eW';lia)
 refine ⟨r,?_⟩
 rw [<- er]
 have x0:∀ (a b:AV) (H:AH),au (.tup [a,b]) (.int 0) H = .ok a H:=fun _ _ _=>rfl
 have x1:∀ (a b:AV) (H:AH),au (.tup [a,b]) (.int 1) H = .ok b H:=fun _ _ _=>rfl
 have n2:bg (.int 2) (.int 2) h2 = .ok (.bl false) h2:=by simp
 have ob3:=S5'.ob
 simp only [eT] at fz io
 generalize (az (ts.map (aP ps ts)))=R at *
 generalize (az ts)=T0 at *
 generalize (new ps ts ps.length).map Pc.av=Q at *
 generalize ps.map Pc.av=PA at *
 generalize h1.length=P1 at *
 generalize h5.length=P5 at *
 unfold kM
 generalize kI (aa 1) (ag au (aa 5) (af (.int 1))) (.tup [6,7]) mW=FZ at *
 generalize gr 0 (ag au (aa 5) (af (.int 0)))=IO at *
 simp [f2,f3,f4,f5,io,c1,n2,x0,x1,g5,c2,c3,fz,kn,ob3,lf,il,ap,f6,c4,f7,f8,c5,c6,-au,-bg,-aQ,-kb,-aZ,-bW]
end Sk
namespace Sk
open PySem PySem.Spec L2 Sm
theorem HJ {y:Str} {b e:Nat} (py:bp y=true) (be:b<=e) (ey:e<=y.length):bp (bD y (some (b:Int)) (some (e:Int)))=true/\(bD y (some (b:Int)) (some (e:Int))).length<=y.length:=by
 have c:=yY (y:=y) be
 constructor
 ·unfold bp at py ⊢
  rw [c]
  rw [Kz] at py ⊢
  exact fun x hx=>py x (K1 (K2 hx))
 ·rw [dP,c,Kw,KJ,dP y]
  (clear c ey be py;lia)
theorem zJ {ps:List Pc} {n:Nat} {y:Str} (t:TxZ ps n y):n<=ps.length:=by
 rcases t with ⟨rfl,_⟩ | ⟨m,f,l,T⟩
 ·exact Kk _
 ·exact T.le
structure Lw (hh:AH) (ps:List Pc) (T L:Nat) (tl:List Nat):Prop where
 sh:ShelfAt hh 0 ps
 gd:Good ps
 fw:cL 64 ps
 tx:hh[T]? = some (.lst (az tl))
 le:∀ n∈tl,n<=ps.length
 st:∃ N:Int,hh[L]? = some (.lst [.int N])
abbrev eL (o0:Option AV) (y:Str) (T L:Nat) (o5 o6 o7 o8 o9:Option AV):En:=[o0,some (.ref 0),some (.str y),some (.ref T),some (.ref L),o5,o6,o7,o8,o9]
theorem HK {hh:AH} {ps:List Pc} {T L:Nat} {tl:List Nat} {y:Str} {o0 o5 o6 o7:Option AV} (w:Lw hh ps T L tl) (hT:8<T) (hL:8<L) (hTL:T≠L) (py:bp y=true) (ly:y.length<=40) (hz:ps.length<=500000) (lt:tl.length<=10) :
  ∃ q6 q7 h2 ps2 n,jS (eL o0 y T L o5 o6 o7 none none) hh = .nx (eL o0 y T L o5 q6 q7 none none) h2/\Lw h2 ps2 T L (tl++[n])/\ps2.length<=ps.length+60000:=by
 obtain ⟨N,eN⟩:=w.st
 have Ll:=bH eN
 obtain ⟨b,N1,hb,t1⟩:=iE (y.length+1) eN (by lia) (JK (m:=41) (by lia) (by decide))
 have t1':cx [.ref L,.int ((y.length:Int)+1)] hh = .ok (.int b) (hh.set L (.lst [.int N1])):=t1
 have e1:(hh.set L (.lst [.int N1]))[L]? = some (.lst [.int N1]):=JR Ll
 have S1:ShelfAt (hh.set L (.lst [.int N1])) 0 ps:=w.sh.keep fun i _ b=>JI (by lia)
 have x1:(hh.set L (.lst [.int N1]))[T]? = some (.lst (az tl)):=by rw [JI (fun e=>hTL e.symm)];exact w.tx
 generalize hh.set L (.lst [.int N1])=h1 at *
 have L1:=bH e1
 obtain ⟨c,N2,hc,t2⟩:=iE (y.length+1-b) e1 (by lia) (JK (m:=41) (by lia) (by decide))
 have t2':cx [.ref L,.int ((y.length:Int)+1-b)] h1 = .ok (.int c) (h1.set L (.lst [.int N2])):=by
  have q:((y.length+1-b:Nat):Int)=(y.length:Int)+1-b:=by (clear t2 hc L1 x1 S1 e1 t1' t1 Ll eN lt hz py hTL hL hT w;lia)
  rw [<- q];exact t2
 have e2:(h1.set L (.lst [.int N2]))[L]? = some (.lst [.int N2]):=JR L1
 have S2:ShelfAt (h1.set L (.lst [.int N2])) 0 ps:=S1.keep fun i _ b=>JI (by lia)
 have x2:(h1.set L (.lst [.int N2]))[T]? = some (.lst (az tl)):=by rw [JI (fun e=>hTL e.symm)];exact x1
 generalize h1.set L (.lst [.int N2])=h2 at *
 obtain ⟨pc,lc⟩:=HJ (b:=b) (e:=b+c) py (by lia) (by lia)
 have ct:cD (aa 2) (some (aa 6)) (some (aa 7)) [o0,some (.ref 0),some (.str y),some (.ref T),some (.ref L),o5,some (.int (b:Int)),some (.int ((b:Int)+(c:Int))),none,none] h2 = .ok (.str (bD y (some (b:Int)) (some ((b+c:Nat):Int)))) h2:=by
  rw [show ((b+c:Nat):Int)=(b:Int)+(c:Int) by lia]
  rfl
 generalize bD y (some (b:Int)) (some ((b+c:Nat):Int))=z at *
 obtain ⟨n,ps2,h3,f3,G,tz,N3,e3⟩:=zg S2 w.gd (show 0+8<L by omega) ⟨N2,e2⟩ pc (by lia) (by lia)
 have x3:h3[T]? = some (.lst (az tl)):=(G.fr T (.inr (by omega)) (by simp;exact hTL) (bH x2)).trans x2
 have ap:bW (.ref T) [.int n] h3 = .ok .non (h3.set T (.lst (az (tl++[n])))):=by
  have q:(az tl).length<sizeLine:=by rw [J0];exact Ka lt (by decide)
  simp only [bW,x3]
  rw [JJ q]
  simp
 have il:aZ (.ref T) h2=true:=by simp only [aZ,cU,x2];rfl
 have il3:aZ (.ref T) h3=true:=by simp only [aZ,cU,x3];rfl
 have pl:=G.pre.length_le
 refine ⟨some (.int b),some (.int ((b:Int)+(c:Int))),h3.set T (.lst (az (tl++[n]))),ps2,n,?_,⟨G.sh.keep fun i _ b=>JI (by lia),G.gd,G.al w.fw,JR (bH x3),fun m hm=>?_,N3,?_⟩,G.len⟩
 ·simp only [eL]
  unfold jS
  generalize cD (aa 2) (some (aa 6)) (some (aa 7))=CT at *
  generalize h3.set T (.lst (az (tl++[n])))=H4 at *
  simp [t1',t2',ct,f3,il,il3,ap,-aZ,-bW]
 ·rcases JQ.mp hm with hm | hm
  ·have:=w.le m hm;lia
  ·rw [Kf.mp hm];exact zJ tz
 ·rw [JI hTL];exact e3
theorem HL {hh:AH} {ps:List Pc} {T L:Nat} {tl:List Nat} {y:Str} {o0 o5 o6 o7 o8 o9:Option AV} (w:Lw hh ps T L tl) (hT:8<T) (hL:8<L) (hTL:T≠L) (hz:ps.length<=500000) (lt:tl.length<=10) (l1:1<=tl.length) :
  ∃ q9 h2,jT (eL o0 y T L o5 o6 o7 o8 o9) hh = .nx (eL o0 y T L o5 o6 o7 o8 q9) h2/\Lw h2 ps T L tl:=by
 obtain ⟨N,eN⟩:=w.st
 have Ll:=bH eN
 obtain ⟨k,N1,hk,t1⟩:=iE 6 eN (by decide) (by decide)
 have t1':cx [.ref L,.int 6] hh = .ok (.int k) (hh.set L (.lst [.int N1])):=t1
 have w1:Lw (hh.set L (.lst [.int N1])) ps T L tl:=⟨w.sh.keep fun i _ b=>JI (by lia),w.gd,w.fw,by rw [JI (fun e=>hTL e.symm)];exact w.tx,w.le,N1,JR Ll⟩
 generalize hh.set L (.lst [.int N1])=h1 at *
 have it:=mY (a:=aD cx (ai (aa 4) (ai (af (.int 6)) ae))) (en:=eL o0 y T L o5 o6 o7 o8 o9) (h:=hh) (h1:=h1) (n:=k) (by simp [t1']) (by lia)
 obtain ⟨zs,h2,c,w2,l,rfl,hl⟩:=tJ (js:=[3,4]) (en:=eL o0 y T L o5 o6 o7 o8 o9) (all:=bO 0 k) (e:=ag au (aa 1) (aD cx (ai (aa 2) (ai (aD aL (ai (aa 1) ae)) ae)))) (xs:=bO 0 k) (h:=h1)
  (fun j ys hh=>Lw hh ps T L tl/\∃ l,ys=az l/\(∀ n∈l,n<=ps.length)/\l.length=j) ⟨w1,[],rfl,fun n h=>(nomatch h),rfl⟩ (by
   rintro j x ys hh _ ⟨w,l,rfl,hl,ll⟩
   obtain ⟨N,eN⟩:=w.st
   obtain ⟨u,N2,hu,t2⟩:=iE tl.length eN (by lia) (JK (m:=10) lt (by decide))
   have lf:aL [.ref T] hh = .ok (.int tl.length) hh:=by simp [w.tx]
   have Ll:=bH eN
   have w3:Lw (hh.set L (.lst [.int N2])) ps T L tl:=⟨w.sh.keep fun i _ b=>JI (by lia),w.gd,w.fw,by rw [JI (fun e=>hTL e.symm)];exact w.tx,w.le,N2,JR Ll⟩
   generalize hh.set L (.lst [.int N2])=h3 at *
   have eu:tl[u]? = some (tl[u]'hu):=by simp
   have ix:au (.ref T) (.int u) h3 = .ok (.int (tl[u]'hu:Nat)) h3:=by
    simp only [au,w3.tx]
    rw [cF eu]
   have ee:ag au (aa 1) (aD cx (ai (aa 2) (ai (aD aL (ai (aa 1) ae)) ae))) [some x,some (.ref T),some (.ref L)] hh = .ok (.int (tl[u]'hu:Nat)) h3:=by
    simp [lf,t2,ix,-au,-aL]
   show tH (ag au (aa 1) (aD cx (ai (aa 2) (ai (aD aL (ai (aa 1) ae)) ae))) [some x,some (.ref T),some (.ref L)] hh) _
   rw [ee]
   refine ⟨w3,l++[tl[u]'hu],by simp,fun n hn=>?_,by simp [ll]⟩
   rcases JQ.mp hn with hn | hn
   ·exact hl n hn
   ·rw [Kf.mp hn];exact w.le _ (Nj hu)) (by rw [gP];exact JK (m:=6) (by lia) (by decide))
 rw [gP] at hl
 have cm:dC [3,4] (eG (aD cx (ai (aa 4) (ai (af (.int 6)) ae)))) bw (ag au (aa 1) (aD cx (ai (aa 2) (ai (aD aL (ai (aa 1) ae)) ae)))) (eL o0 y T L o5 o6 o7 o8 o9) hh = .ok (.fl (az l)) h2:=by
  unfold dC
  rw [it]
  dsimp only
  rw [c]
 obtain ⟨r,fr⟩:=uH w2.sh w2.gd w2.fw (.inl rfl:Lt h2 (.fl (az l)) l) hl.1 (by lia) (by lia)
 refine ⟨some (.fl (az l)),h2++r,?_,⟨w2.sh.app r,w2.gd,w2.fw,by rw [JF (bH w2.tx)];exact w2.tx,w2.le,?_⟩⟩
 ·simp only [eL] at *
  unfold jT
  generalize dC [3,4] (eG (aD cx (ai (aa 4) (ai (af (.int 6)) ae)))) bw (ag au (aa 1) (aD cx (ai (aa 2) (ai (aD aL (ai (aa 1) ae)) ae))))=CM at *
  generalize az l=V at *
  simp [cm,fr]
 ·obtain ⟨N,e⟩:=w2.st
  exact ⟨N,by rw [JF (bH e)];exact e⟩
end Sk
namespace Sk
open PySem PySem.Spec L2 Sm
theorem HM {h0:AH} {ps:List Pc} {T L:Nat} {tl:List Nat} {y:Str} {o0:Option AV} (w:Lw h0 ps T L tl) (hT:8<T) (hL:8<L) (hTL:T≠L) (py:bp y=true) (ly:y.length<=40) (hz:ps.length<=60000) (lt:tl.length=2) :
  ∃ q5 q6 q7 h2 ps2 tl2,bh (eG (af (.int 3))) (.nm 5) jS (eL o0 y T L none none none none none) h0 = .nx (eL o0 y T L q5 q6 q7 none none) h2/\Lw h2 ps2 T L tl2/\ps2.length<=240000/\tl2.length=5:=by
 have it:=mY (a:=af (.int 3)) (en:=eL o0 y T L none none none none none) (h:=h0) (h1:=h0) (n:=3) rfl (by decide)
 obtain ⟨e',h',r1,q5,q6,q7,ps2,tl2,rfl,w2,l2,t2⟩:=gv (w:=none) (all:=bO 0 3) (t:=.nm 5) (b:=jS) (xs:=bO 0 3) (en:=eL o0 y T L none none none none none) (h:=h0)
  (fun j en hh=>∃ q5 q6 q7 ps2 tl2,en=eL o0 y T L q5 q6 q7 none none/\Lw hh ps2 T L tl2/\ps2.length<=60000+60000*min j 3/\tl2.length=2+min j 3)
  ⟨none,none,none,ps,tl,rfl,w,by lia,by lia⟩ (fun _ _ _ _=>rfl) (by
   rintro j x en hh hx ⟨q5,q6,q7,ps2,tl2,rfl,w,l2,t2⟩
   have hj:j<3:=by have:=(JD.mp hx).1;rwa [gP] at this
   obtain ⟨p6,p7,h2,ps3,n,b,w3,l3⟩:=HK (o0:=o0) (o5:=some x) (o6:=q6) (o7:=q7) w hT hL hTL py ly (by (clear hj t2 w hx it lt hz ly py hTL hL hT;lia)) (by lia)
   show thn (jS (eL o0 y T L (some x) q6 q7 none none) hh) _
   rw [b]
   exact ⟨_,_,_,ps3,_,rfl,w3,by lia,by rw [JT,Mz];lia⟩)
 rw [gP] at l2 t2
 exact ⟨q5,q6,q7,h',ps2,tl2,(gQ it).trans r1,w2,by lia,by lia⟩
theorem HN {h0:AH} {ps:List Pc} {T L:Nat} {tl:List Nat} {y:Str} {o0 o5 o6 o7:Option AV} (w:Lw h0 ps T L tl) (hT:8<T) (hL:8<L) (hTL:T≠L) (hz:ps.length<=240000) (lt:tl.length=5) :
  ∃ q8 q9 h2,bh (eG (af (.int 6))) (.nm 8) jT (eL o0 y T L o5 o6 o7 none none) h0 = .nx (eL o0 y T L o5 o6 o7 q8 q9) h2/\Lw h2 ps T L tl:=by
 have it:=mY (a:=af (.int 6)) (en:=eL o0 y T L o5 o6 o7 none none) (h:=h0) (h1:=h0) (n:=6) rfl (by decide)
 obtain ⟨e',h',r1,q8,q9,rfl,w2⟩:=gv (w:=none) (all:=bO 0 6) (t:=.nm 8) (b:=jT) (xs:=bO 0 6) (en:=eL o0 y T L o5 o6 o7 none none) (h:=h0)
  (fun j en hh=>∃ q8 q9,en=eL o0 y T L o5 o6 o7 q8 q9/\Lw hh ps T L tl)
  ⟨none,none,rfl,w⟩ (fun _ _ _ _=>rfl) (by
   rintro j x en hh hx ⟨q8,q9,rfl,w⟩
   obtain ⟨p9,h2,b,w3⟩:=HL (y:=y) (o0:=o0) (o5:=o5) (o6:=o6) (o7:=o7) (o8:=some x) (o9:=q9) w hT hL hTL (by lia) (by lia) (by lia)
   show thn (jT (eL o0 y T L o5 o6 o7 (some x) q9) hh) _
   rw [b]
   exact ⟨_,_,rfl,w3⟩)
 exact ⟨q8,q9,h',(gQ it).trans r1,w2⟩
theorem uI:cL 64 []:=fun i m e=>by
 cases i with
 | zero =>
  have:(meas [])[0]? = some ms0:=jZ []
  rw [this] at e
  cases e
  exact Kk _
 | succ i =>
  have:=(JD.mp e).1
  rw [cR] at this
  exact absurd this (by show ¬ i+1<0+1;lia)
theorem HP {N:Nat}:∃ l:List Nat,eV (N:Int) (-1)=az l/\(∀ n∈l,n<=N)/\l.length=N+1:=by
 refine ⟨(List.range (N+1)).map fun m=>N-m,?_,fun n hn=>?_,by simp⟩
 ·unfold eV
  rw [show ((N:Int)-(-1)).toNat=N+1 by lia,az,Lk]
  refine Lu fun m hm=>?_
  have:=MV.mp hm
  show AV.int ((N:Int)-m)=AV.int ((N-m:Nat):Int)
  congr 1
  (clear hm;lia)
 ·obtain ⟨m,_,rfl⟩:=Mo.mp hn
  (clear hn;omega)
theorem law_true (ns:List Int) (hl:ns.length<=63):∃ h',tF [.fl (ns.map AV.int)] [] = .ok (.bl true) h' := by
 have mk:=yH [some (.fl (ns.map AV.int)),none,none,none,none,none,none,none,none,none] []
 have l0:([]:AH).length=0:=rfl
 rw [l0,LP] at mk
 have S0:ShelfAt (dq 0) 0 []:=by have:=yJ [] [];simpa using this
 obtain ⟨N0,s0⟩:=uv ns hl 0 (by decide) (dq 0)
 have s0':fN [.fl (ns.map AV.int),.int 0] (dq 0) = .ok (.ref 9) (dq 0++[.lst [.int N0]]):=s0
 have e1:(dq 0++[AO.lst [.int N0]])[9]? = some (.lst [.int N0]):=rfl
 have n1:(dq 0++[AO.lst [.int N0]]).length=10:=rfl
 have S1:ShelfAt (dq 0++[AO.lst [.int N0]]) 0 []:=S0.app _
 generalize dq 0++[AO.lst [.int N0]]=H1 at *
 obtain ⟨y,N2,p2,py,ly⟩:=Hb 40 (by decide) e1
 have p2':mL [.ref 9,.int 40] H1 = .ok (.str y) (H1.set 9 (.lst [.int N2])):=p2
 have S2:ShelfAt (H1.set 9 (.lst [.int N2])) 0 []:=S1.keep fun i _ b=>JI (by lia)
 have n2:(H1.set 9 (.lst [.int N2])).length=10:=by rw [MH,n1]
 generalize H1.set 9 (.lst [.int N2])=H2 at *
 obtain ⟨N3,s3⟩:=uv ns hl 1 (by decide) H2
 have s3':fN [.fl (ns.map AV.int),.int 1] H2 = .ok (.ref 10) (H2++[.lst [.int N3]]):=by rw [<- n2];exact s3
 have e3:(H2++[AO.lst [.int N3]])[10]? = some (.lst [.int N3]):=by rw [<- n2];simp
 have S3:ShelfAt (H2++[AO.lst [.int N3]]) 0 []:=S2.app _
 generalize H2++[AO.lst [.int N3]]=H3 at *
 obtain ⟨n,ps,H4,f4,G,tz,_⟩:=zg S3 .nil (show 0+8<10 by decide) ⟨N3,e3⟩ py ly (by decide)
 have gl:=G.len
 rw [KW,K8] at gl
 have h8:=bH G.sh.h8
 obtain ⟨T,eT'⟩:∃ T,T=H4.length:=⟨_,rfl⟩
 have lm:∀ en:En,en[1]? = some (some (.ref 0))->en[0]? = some (some (.fl (ns.map AV.int)))->en[2]? = some (some (.str y))->cT (ai (af (.int 0)) (ai (aD iq (ai (aa 1) (ai (aD fN (ai (aa 0) (ai (af (.int 1)) ae))) (ai (aa 2) ae)))) ae)) en H2 = .ok (.ref T) (H4++[.lst (az [0,n])]):=fun en a b c=>by
  rw [eT']
  simp [a,b,c,s3',f4]
 have lm' := lm [some (.fl (ns.map AV.int)),some (.ref 0),some (.str y),none,none,none,none,none,none,none] rfl rfl rfl
 have l5:(H4++[AO.lst (az [0,n])]).length=T+1:=by rw [JT,eT'];rfl
 have x5:(H4++[AO.lst (az [0,n])])[T]? = some (.lst (az [0,n])):=by rw [eT'];simp
 have S5:ShelfAt (H4++[AO.lst (az [0,n])]) 0 ps:=G.sh.app _
 generalize H4++[AO.lst (az [0,n])]=H5 at *
 obtain ⟨N6,s6⟩:=uv ns hl 2 (by decide) H5
 rw [l5] at s6
 have s6':fN [.fl (ns.map AV.int),.int 2] H5 = .ok (.ref (T+1)) (H5++[.lst [.int N6]]):=s6
 have w:Lw (H5++[.lst [.int N6]]) ps T (T+1) [0,n]:=by
  refine ⟨S5.app _,G.gd,G.al uI,by rw [JF (by lia)];exact x5,fun m hm=>?_,N6,by rw [<- l5];simp⟩
  rcases J8.mp hm with rfl | hm
  ·exact Kk _
  ·rw [Kf.mp hm];exact zJ tz
 generalize H5++[AO.lst [.int N6]]=H6 at *
 obtain ⟨q5,q6,q7,H7,ps7,tl,f7,w7,l7,t7⟩:=HM (o0:=some (.fl (ns.map AV.int))) w (by lia) (by lia) (by lia) py ly gl rfl
 obtain ⟨q8,q9,H8,f8,w8⟩:=HN (y:=y) (o0:=some (.fl (ns.map AV.int))) (o5:=q5) (o6:=q6) (o7:=q7) w7 (by lia) (by lia) (by lia) l7 t7
 obtain ⟨r9,f9⟩:=uH w8.sh w8.gd w8.fw (.inr ⟨T,rfl,w8.tx⟩:Lt H8 (.ref T) tl) w8.le (by lia) (by lia)
 have S9:=w8.sh.app r9
 generalize H8++r9=H9 at *
 have m9:=m8 S9
 obtain ⟨l,el,hle,hln⟩:=HP (N:=ps7.length)
 have fd:mK [.int ps7.length,.int (-1),.int (-1)] H9 = .ok (.fl (az l)) H9:=by
  have b:(ps7.length:Int).natAbs<2 ^ 40/\(-1:Int).natAbs<2 ^ 40/\((ps7.length:Int)-(-1)).toNat<=2 ^ 24/\(-1:Int) = -1:=⟨by lia,by decide,by lia,rfl⟩
  unfold mK
  dsimp only
  rw [JJ b,el]
 obtain ⟨r10,f10⟩:=uH S9 w8.gd w8.fw (.inl rfl:Lt H9 (.fl (az l)) l) hle (by lia) (by lia)
 refine ⟨H9++r10,?_⟩
 simp only [eL] at f7 f8
 generalize az l=V at *
 unfold tF
 generalize ka 0 8 jI ae=MK at *
 generalize cT (ai (af (.int 0)) (ai (aD iq (ai (aa 1) (ai (aD fN (ai (aa 0) (ai (af (.int 1)) ae))) (ai (aa 2) ae)))) ae))=LM at *
 generalize bh (eG (af (.int 3))) (.nm 5) jS=FA at *
 generalize bh (eG (af (.int 6))) (.nm 8) jT=FB at *
 generalize dq 0=H0 at *
 generalize H9++r10=H10 at *
 simp [mk,s0',p2',lm',s6',f7,f8,f9,S9.ob,m9,fd,f10]
end Sk
namespace Sk
open PySem PySem.Spec L2 Sm
theorem zK:bootBuiltins "list" = some (.type "list"):=by decide +kernel
theorem HQ:bootBuiltins "sorted" = some (.builtin "sorted"):=by decide +kernel
def top (i:Nat):Stmt:=PySem.Challenge.pw_skeinwood_k75_swept_shelves.main.body.getD i (.Pass ⟨0,0,0,0⟩)
abbrev uJ:Stmt:=dM (top 17) 0
abbrev uK:Stmt:=top 37
abbrev uL:Stmt:=top 38
abbrev uM:Stmt:=top 35
abbrev pU:Stmt:=top 36
abbrev uN:Stmt:=top 10
abbrev uO:Stmt:=dM (top 17) 11
abbrev uP:Stmt:=dM (top 17) 12
abbrev uQ:Stmt:=dM (top 17) 14
abbrev uR:Stmt:=dM (top 17) 17
abbrev uS:Stmt:=dM (top 17) 16
abbrev uT:Stmt:=dM (top 17) 2
abbrev uU:Stmt:=top 33
abbrev uV:Stmt:=top 12
abbrev pV:Stmt:=top 11
abbrev uW:Stmt:=top 13
abbrev uX:Stmt:=top 14
abbrev uY:Stmt:=dM (top 17) 15
abbrev uZ:Stmt:=dM (top 17) 1
abbrev pW:Stmt:=top 24
abbrev u7:Stmt:=top 25
abbrev u9:Stmt:=dM (top 17) 13
abbrev va:Stmt:=dM (top 17) 5
abbrev vb:Stmt:=dM (top 17) 10
abbrev vc:Stmt:=dM (top 17) 9
abbrev vd:Stmt:=top 26
abbrev ve:Stmt:=dM (top 17) 4
abbrev vf:Stmt:=top 31
abbrev vg:Stmt:=dM (top 17) 8
abbrev vh:Stmt:=top 28
abbrev vi:Stmt:=top 32
abbrev vj:Stmt:=top 29
abbrev vk:Stmt:=top 27
abbrev vm:Stmt:=top 30
abbrev vn:Stmt:=top 23
abbrev vo:Stmt:=top 39
abbrev vp:Stmt:=dM (top 17) 3
abbrev pX:Stmt:=top 42
abbrev pY:Stmt:=top 41
abbrev vq:Stmt:=top 20
abbrev pZ:Stmt:=top 19
abbrev qa:Stmt:=top 21
abbrev vt:Stmt:=top 44
abbrev vv:Stmt:=top 40
abbrev vw:Stmt:=dM (top 17) 6
abbrev vx:Stmt:=dM (top 17) 7
abbrev vy:Stmt:=top 43
abbrev vz:Stmt:=top 45
abbrev nO:Stmt:=top 46
def bG:Nat->List Str
 | 0=>["pieces", "numbers", "sign_counts", "end_counts", "leaf_counts", "heights", "first_leaves", "last_leaves"]
 | _=>[]
theorem HR:∀ c,(bG c).Nodup
 | 0=>by decide +kernel
 | _+1=>Mq
theorem HU:∀ c,(bG c).length<=500
 | 0=>by decide +kernel
 | _+1=>Kk _
abbrev bf (K:PySem.W.Frag) (cls exc:Nat->Option Addr):Tb:=⟨K,cls,exc,bG,HR,HU⟩
structure ja (P:Program) (w:World) (K:PySem.W.Frag) (cls exc:Nat->Option Addr) (mg:Str->Option Value) (base:Heap):Prop where
 b_abs:mg "abs" = none
 b_all:mg "all" = none
 b_bool:mg "bool" = none
 b_int:mg "int" = none
 b_isinstance:mg "isinstance" = none
 b_len:mg "len" = none
 b_list:mg "list" = none
 b_max:mg "max" = none
 b_range:mg "range" = none
 b_reversed:mg "reversed" = none
 b_sorted:mg "sorted" = none
 b_str:mg "str" = none
 b_sum:mg "sum" = none
 b_tuple:mg "tuple" = none
 b_zip:mg "zip" = none
 c_LEAF_SIGNS:∃ t,mg "LEAF_SIGNS" = some (.int 8 t)
 c_MOST_PLAIN:∃ t,mg "MOST_PLAIN" = some (.int 10000 t)
 c_MOST_SIGNS:∃ t,mg "MOST_SIGNS" = some (.int 1000000000000000000 t)
 cf_Shelf:CF (bf K cls exc) 0
 x_NoText:GX (bf K cls exc) mg base 1 "NoText"
 x_NoPiece:GX (bf K cls exc) mg base 2 "NoPiece"
 x_Loose:GX (bf K cls exc) mg base 3 "Loose"
 x_Unlevel:GX (bf K cls exc) mg base 4 "Unlevel"
 x_TooLong:GX (bf K cls exc) mg base 5 "TooLong"
 d_Shelf_init:DI K cls mg 0 "Shelf" "Shelf.__init__" uJ ["self"]
 d_law_take:DG K mg "_law_take" uK ["stream", "many"]
 d_law_plain:DG K mg "_law_plain" uL ["stream", "most"]
 d_law_mixed:DG K mg "_law_mixed" uM ["cell", "k"]
 d_law_stream:DG K mg "_law_stream" pU ["script", "k"]
 d_is_whole:DG K mg "is_whole" uN ["thing"]
 d_Shelf_has_piece:dG K cls 0 "has_piece" "Shelf.has_piece" uO ["self", "number"]
 d_Shelf_check_piece:dG K cls 0 "check_piece" "Shelf.check_piece" uP ["self", "number"]
 d_Shelf_check_fork:dG K cls 0 "check_fork" "Shelf.check_fork" uQ ["self", "one", "other"]
 d_Shelf_lay:dG K cls 0 "lay" "Shelf.lay" uR ["self", "made"]
 d_Shelf_lay_fork:dG K cls 0 "lay_fork" "Shelf.lay_fork" uS ["self", "made"]
 d_Shelf_fork:dG K cls 0 "fork" "Shelf.fork" uT ["self", "one", "other"]
 d_halved:DG K mg "halved" uU ["shelf", "leaves"]
 d_is_plain_sign:DG K mg "is_plain_sign" uV ["sign"]
 d_is_plain:DG K mg "is_plain" pV ["thing"]
 d_is_short:DG K mg "is_short" uW ["thing"]
 d_ends_in:DG K mg "ends_in" uX ["plain"]
 d_Shelf_lay_leaf:dG K cls 0 "lay_leaf" "Shelf.lay_leaf" uY ["self", "made"]
 d_Shelf_leaf:dG K cls 0 "leaf" "Shelf.leaf" uZ ["self", "plain"]
 d_built:DG K mg "built" pW ["shelf", "plain"]
 d_check_length:DG K mg "check_length" u7 ["signs"]
 d_Shelf_check_text:dG K cls 0 "check_text" "Shelf.check_text" u9 ["self", "text"]
 d_Shelf_signs:dG K cls 0 "signs" "Shelf.signs" va ["self", "text"]
 d_Shelf_last_leaf:dG K cls 0 "last_leaf" "Shelf.last_leaf" vb ["self", "text"]
 d_Shelf_first_leaf:dG K cls 0 "first_leaf" "Shelf.first_leaf" vc ["self", "text"]
 d_are_close:DG K mg "are_close" vd ["shelf", "one", "other"]
 d_Shelf_piece:dG K cls 0 "piece" "Shelf.piece" ve ["self", "number"]
 d_with_last:DG K mg "with_last" vf ["shelf", "text", "leaf"]
 d_Shelf_height:dG K cls 0 "height" "Shelf.height" vg ["self", "text"]
 d_turned_left:DG K mg "turned_left" vh ["shelf", "one", "other"]
 d_without_first:DG K mg "without_first" vi ["shelf", "text"]
 d_turned_right:DG K mg "turned_right" vj ["shelf", "one", "other"]
 d_linked:DG K mg "linked" vk ["shelf", "one", "other"]
 d_welded:DG K mg "welded" vm ["shelf", "one", "other"]
 d_joined:DG K mg "joined" vn ["shelf", "one", "other"]
 d_law_made:DG K mg "_law_made" vo ["shelf", "stream", "plain"]
 d_Shelf_many:dG K cls 0 "many" "Shelf.many" vp ["self"]
 d_law_pieces:DG K mg "_law_pieces" pX ["shelf"]
 d_law_clean:DG K mg "_law_clean" pY ["shelf", "texts"]
 d_parts_of:DG K mg "parts_of" vq ["shelf", "number"]
 d_reach_of:DG K mg "reach_of" pZ ["shelf", "texts"]
 d_swept:DG K mg "swept" qa ["shelf", "texts"]
 d_law_known_again:DG K mg "_law_known_again" vt ["shelf"]
 d_law_read:DG K mg "_law_read" vv ["shelf", "text"]
 d_Shelf_ends:dG K cls 0 "ends" "Shelf.ends" vw ["self", "text"]
 d_Shelf_leaves:dG K cls 0 "leaves" "Shelf.leaves" vx ["self", "text"]
 d_law_told_of:DG K mg "_law_told_of" vy ["shelf", "text"]
 d_law_right:DG K mg "_law_right" vz ["shelf", "texts"]
 d_law:DG K mg "law" nO ["script"]
 ko_Shelf:yp (bf K cls exc) mg 0 "Shelf"
theorem HW:ao ["self"] ["self"] (aM uJ):=bo
theorem HX:ao ["stream", "many", "digit"] ["stream", "many"] (aM uK):=bo
theorem HY:ao ["stream", "most", "letters", "wide", "signs", "plain", "k"] ["stream", "most"] (aM uL):=bo
theorem HZ:ao ["cell", "k", "one"] ["cell", "k"] (aM uM):=bo
theorem Ia:ao ["script", "k", "cell", "j", "found"] ["script", "k"] (aM pU):=bo
theorem Ib:ao ["thing"] ["thing"] (aM uN):=bo
theorem Ic:ao ["self", "number"] ["self", "number"] (aM uO):=bo
theorem Ie:ao ["self", "number"] ["self", "number"] (aM uP):=bo
theorem Ig:ao ["self", "one", "other", "seam"] ["self", "one", "other"] (aM uQ):=bo
theorem Ih:ao ["self", "made", "number"] ["self", "made"] (aM uR):=bo
theorem Ii:ao ["self", "made", "one", "other"] ["self", "made"] (aM uS):=bo
theorem Ij:ao ["self", "one", "other", "made"] ["self", "one", "other"] (aM uT):=bo
theorem zL:ao ["shelf", "leaves", "middle"] ["shelf", "leaves"] (aM uU):=bo
theorem Ik:ao ["sign"] ["sign"] (aM uV):=bo
theorem Il:ao ["thing"] ["thing"] (aM pV):=bo
theorem Im:ao ["thing"] ["thing"] (aM uW):=bo
theorem Io:ao ["plain"] ["plain"] (aM uX):=bo
theorem Ip:ao ["self", "made", "number", "plain"] ["self", "made"] (aM uY):=bo
theorem Iq:ao ["self", "plain", "made"] ["self", "plain"] (aM uZ):=bo
theorem Ir:ao ["shelf", "plain", "leaves"] ["shelf", "plain"] (aM pW):=bo
theorem Iu:ao ["signs"] ["signs"] (aM u7):=bo
theorem Iv:ao ["self", "text"] ["self", "text"] (aM u9):=bo
theorem Iw:ao ["self", "text"] ["self", "text"] (aM va):=bo
theorem Iy:ao ["self", "text"] ["self", "text"] (aM vb):=bo
theorem Iz:ao ["self", "text"] ["self", "text"] (aM vc):=bo
theorem IA:ao ["shelf", "one", "other"] ["shelf", "one", "other"] (aM vd):=bo
theorem IB:ao ["self", "number"] ["self", "number"] (aM ve):=bo
theorem zM:ao ["shelf", "text", "leaf", "piece"] ["shelf", "text", "leaf"] (aM vf):=bo
theorem IC:ao ["self", "text"] ["self", "text"] (aM vg):=bo
theorem ID:ao ["shelf", "one", "other", "piece", "near", "far", "inner"] ["shelf", "one", "other"] (aM vh):=bo
theorem zN:ao ["shelf", "text", "piece", "rest"] ["shelf", "text"] (aM vi):=bo
theorem IE:ao ["shelf", "one", "other", "piece", "far", "near", "inner"] ["shelf", "one", "other"] (aM vj):=bo
theorem zO:ao ["shelf", "one", "other", "tilt", "piece"] ["shelf", "one", "other"] (aM vk):=bo
theorem IF:ao ["shelf", "one", "other", "seam", "front", "back"] ["shelf", "one", "other"] (aM vm):=bo
theorem IG:ao ["shelf", "one", "other"] ["shelf", "one", "other"] (aM vn):=bo
theorem IH:ao ["shelf", "stream", "plain", "way", "parts", "many", "text", "part"] ["shelf", "stream", "plain"] (aM vo):=bo
theorem II:ao ["self"] ["self"] (aM vp):=bo
theorem IJ:ao ["shelf"] ["shelf"] (aM pX):=bo
theorem IL:ao ["shelf", "texts", "seen", "number", "piece", "numbers", "pieces"] ["shelf", "texts"] (aM pY):=bo
theorem IM:ao ["shelf", "number", "piece"] ["shelf", "number"] (aM vq):=bo
theorem IP:ao ["shelf", "texts", "reached", "ahead", "number"] ["shelf", "texts"] (aM pZ):=bo
theorem IQ:ao ["shelf", "texts", "new", "renamed", "number", "piece"] ["shelf", "texts"] (aM qa):=bo
theorem IS:ao ["shelf", "many", "number", "piece", "again"] ["shelf"] (aM vt):=bo
theorem IU:ao ["shelf", "text", "plain", "waiting", "number", "piece"] ["shelf", "text"] (aM vv):=bo
theorem IV:ao ["self", "text"] ["self", "text"] (aM vw):=bo
theorem IW:ao ["self", "text"] ["self", "text"] (aM vx):=bo
theorem IX:ao ["shelf", "text"] ["shelf", "text"] (aM vy):=bo
theorem IY:ao ["shelf", "texts", "ahead", "due", "handed", "told", "one", "other", "again"] ["shelf", "texts"] (aM vz):=bo
theorem IZ:ao ["script", "shelf", "plain", "texts", "stream", "k", "begin", "end", "turn", "some"] ["script"] (aM nO):=bo
section
variable {P:Program} {w:World} {K:PySem.W.Frag} {cls exc:Nat->Option Addr} {mg:Str->Option Value} {base:Heap} (Z:ja P w K cls exc mg base)
include Z
theorem zP:GK P w (bf K cls exc) mg base 1 0 "Shelf" jI:=gk Z.d_Shelf_init HW fun hr C hu nd =>
 (ax (iQ rfl Z.cf_Shelf (ah 0) (eU aq))
  (ax (iQ rfl Z.cf_Shelf (ah 0) Ea)
  (ax (iQ rfl Z.cf_Shelf (ah 0) (eU (aj ay aq)))
  (ax (iQ rfl Z.cf_Shelf (ah 0) (eU (aj ay aq)))
  (ax (iQ rfl Z.cf_Shelf (ah 0) (eU (aj ay aq)))
  (ax (iQ rfl Z.cf_Shelf (ah 0) (eU (aj (lV ay) aq)))
  (ax (iQ rfl Z.cf_Shelf (ah 0) (eU (aj ay aq)))
  (aF (iQ rfl Z.cf_Shelf (ah 0) (eU (aj ay aq)))))))))))
theorem iH:GF P w (bf K cls exc) mg base 1 "_law_take" cx:=gf Z.d_law_take HX fun hr C hu nd =>
 (ax (aN (i:=2) nd (aY jy (ar rfl hu (ah 0) ay) (ah 1)))
  (ax (kr hu (ah 0) ay (aY wZ (ar rfl hu (ah 0) ay) (ah 1)))
  (aF (aR (ah 2)))))
theorem I0:GF P w (bf K cls exc) mg base 2 "_law_plain" mL:=gf Z.d_law_plain HY fun hr C hu nd =>
 (ax (aN (i:=2) nd bX)
  (ax (aN (i:=3) nd (aY (cB rfl) (aY (cB rfl) (ah 2) (su rfl Nu PySem.F.slot_str_upper PySem.F.type_str_upper (EU) xG (ah 2))) bX))
  (ax (aN (i:=4) nd (ar rfl hu (kj (aj bX (aj bX (aj bX (aj bX (aj (ah 3) aq)))))) (aW rfl C (iH Z) hr.m rfl (aj (ah 0) (aj ay aq)))))
  (ax (aN (i:=5) nd bX)
  (ax (gH rfl (mq (E:=EN) rfl Z.b_range (aW rfl (C.nox) (iH Z) hr.m rfl (aj (ah 0) (aj (aY (cB rfl) (ah 1) ay) aq)))) (gh (i:=6) nd) (aF (aN (i:=5) nd (aY (cB rfl) (ah 5) (ar rfl hu (ah 4) (aW rfl (C.nox) (iH Z) hr.m rfl (aj (ah 0) (aj (bF (b_len rfl) rfl Z.b_len Kt (aj (ah 4) aq)) aq))))))))
  (aF (aR (ah 5))))))))
theorem Ja:GF P w (bf K cls exc) mg base 1 "_law_mixed" oO:=gf Z.d_law_mixed HZ fun hr C hu nd =>
 (ax (aN (i:=2) nd (aY jy (aY hJ (aY (cB rfl) (aY (cB rfl) (aY jy (ah 0) ay) (aY hJ ay (ah 1))) ay) ay) ay))
  (aF (aR (aY jy (aY hJ (aY jy (aY hJ (ah 2) (ah 2)) ay) ay) ay))))
theorem vA:GF P w (bf K cls exc) mg base 2 "_law_stream" fN:=gf Z.d_law_stream Ia fun {f cdv A outer s H E} hr C hu nd =>
 (ax (aN (i:=2) nd ay)
  (ax (gH rfl (xN (E:=EN) rfl Z.b_range (ah 1) (bF (b_len rfl) rfl Z.b_len Kt (aj (ah 0) aq)) ay) (gh (i:=3) nd) (aF (aN (i:=2) nd (aY (cB rfl) (aY hJ (ah 2) (aY hJ (aY kh ay ay) (aY kh ay ay))) (aY jy (ar rfl hu (ah 0) (ah 3)) (aY hJ (aY kh ay ay) (aY kh ay ay)))))))
  (ax (aJ (bx rO (ah 2) (aY kh ay ay) (bz _)) (aF (aR (eU (aj (ah 2) aq)))) bM)
  (ax (aN (i:=2) nd (aY (cB rfl) (ah 2) (bF (b_sum rfl) rfl Z.b_sum PyProof.Rows.boot_sum (aj (oz (jf:=[]) (iU (N:=["script", "k", "cell", "j", "found"]) (sc:=aM pU) rfl (fun _=>rfl) (by decide +kernel)) rfl (jA (E:=(fun _=>E)) rfl (ah 0)) (fun _ _ _ _ _=>jB) (fun _ _ _ _ _=>(aY jy (ah 0) (aY kh ay ay)))) aq))))
  (ax (aN (i:=4) nd ay)
  (ax (gH rfl (mq (E:=EN) rfl Z.b_range ay) (gh (i:=3) nd) (aF (aN (i:=4) nd (aY (cB rfl) (aY hJ (ah 4) ay) (aW rfl (C.nox) (Ja Z) hr.m rfl (aj (aY (cB rfl) (aY (cB rfl) (ah 2) (aY hJ ay (ah 1))) (bF (b_len rfl) rfl Z.b_len Kt (aj (ah 0) aq))) (aj (ah 3) aq)))))))
  (aF (aR (eU (aj (ah 4) aq))))))))))
theorem Jb:GF P w (bf K cls exc) mg base 1 "is_whole" oP:=gf Z.d_is_whole Ib fun hr C hu nd =>
 (aF (aR (mf (oE rfl rfl Z.b_isinstance (ah 0) rfl Z.b_int Dj (by decide)) (ki (D7 (oE rfl rfl Z.b_isinstance (ah 0) rfl Z.b_bool Dk (by decide)))))))
theorem Jc:GM P w (bf K cls exc) mg base 2 0 "has_piece" oQ:=gm Z.d_Shelf_has_piece Ic (show ("has_piece" : Str)∉bG 0 by decide +kernel) fun hr C hu nd =>
 (aF (aR (mf (aW rfl C (Jb Z) hr.m rfl (aj (ah 1) aq)) (ki (rP dF dF ay (ah 1) (bF (b_len rfl) rfl Z.b_len Kt (aj (bB rfl Z.cf_Shelf (ah 0)) aq)))))))
theorem qb:GM P w (bf K cls exc) mg base 3 0 "check_piece" jK:=gm Z.d_Shelf_check_piece Ie (show ("check_piece" : Str)∉bG 0 by decide +kernel) fun hr C hu nd =>
 (aF (aJ (iP (hV rfl (aO rfl C (Jc Z) hr.m (ah 0) (aj (ah 1) aq)))) (aF (iR Z.x_NoPiece iL rfl (aj bX aq))) bM))
theorem Jd:GM P w (bf K cls exc) mg base 4 0 "check_fork" i3:=gm Z.d_Shelf_check_fork Ig (show ("check_fork" : Str)∉bG 0 by decide +kernel) fun hr C hu nd =>
 (ax (bT (aO rfl C (qb Z) hr.m (ah 0) (aj (ah 1) aq)))
  (ax (bT (aO rfl C (qb Z) hr.m (ah 0) (aj (ah 2) aq)))
  (ax (aN (i:=3) nd (aY (cB rfl) (ar rfl hu (bB rfl Z.cf_Shelf (ah 0)) (ar rfl hu (bB rfl Z.cf_Shelf (ah 0)) (ah 1))) (ar rfl hu (bB rfl Z.cf_Shelf (ah 0)) (ar rfl hu (bB rfl Z.cf_Shelf (ah 0)) (ah 2)))))
  (ax (aJ (bx dF (ah 3) (dZ rfl Z.c_LEAF_SIGNS) (bz _)) (aF (iR Z.x_Loose iL rfl (aj bX aq))) bM)
  (ax (aJ (bx fC (bF (b_abs) rfl Z.b_abs PyProof.Rows.boot_abs (aj (aY kg (ar rfl hu (bB rfl Z.cf_Shelf (ah 0)) (ah 1)) (ar rfl hu (bB rfl Z.cf_Shelf (ah 0)) (ah 2))) aq)) ay (bz _)) (aF (iR Z.x_Unlevel iL rfl (aj bX aq))) bM)
  (aF (aJ (bx fC (aY (cB rfl) (ar rfl hu (bB rfl Z.cf_Shelf (ah 0)) (ah 1)) (ar rfl hu (bB rfl Z.cf_Shelf (ah 0)) (ah 2))) (dZ rfl Z.c_MOST_SIGNS) (bz _)) (aF (iR Z.x_TooLong iL rfl (aj bX aq))) bM)))))))
theorem zQ:GM P w (bf K cls exc) mg base 1 0 "lay" mM:=gm Z.d_Shelf_lay Ih (show ("lay" : Str)∉bG 0 by decide +kernel) fun hr C hu nd =>
 (ax (bT (bK rfl JU J4 J5 (dY) c7 (bB rfl Z.cf_Shelf (ah 0)) (aj (ah 1) aq)))
  (ax (aN (i:=2) nd (bF (b_len rfl) rfl Z.b_len Kt (aj (bB rfl Z.cf_Shelf (ah 0)) aq)))
  (ax (kr hu (bB rfl Z.cf_Shelf (ah 0)) (ah 1) (ah 2))
  (aF (aR (ah 2))))))
theorem Je:GM P w (bf K cls exc) mg base 2 0 "lay_fork" mO:=gm Z.d_Shelf_lay_fork Ii (show ("lay_fork" : Str)∉bG 0 by decide +kernel) fun hr C hu nd =>
 (ax (bT (aO rfl C (zQ Z) hr.m (ah 0) (aj (ah 1) aq)))
  (ax (aN (i:=2) nd (ar rfl hu (ah 1) ay))
  (ax (aN (i:=3) nd (ar rfl hu (ah 1) ay))
  (ax (bT (bK rfl JU J4 J5 (dY) c7 (bB rfl Z.cf_Shelf (ah 0)) (aj (aY (cB rfl) (ar rfl hu (bB rfl Z.cf_Shelf (ah 0)) (ah 2)) (ar rfl hu (bB rfl Z.cf_Shelf (ah 0)) (ah 3))) aq)))
  (ax (bT (bK rfl JU J4 J5 (dY) c7 (bB rfl Z.cf_Shelf (ah 0)) (aj (aY (cB rfl) (ar rfl hu (bB rfl Z.cf_Shelf (ah 0)) (ah 2)) (ar rfl hu (bB rfl Z.cf_Shelf (ah 0)) (ah 3))) aq)))
  (ax (bT (bK rfl JU J4 J5 (dY) c7 (bB rfl Z.cf_Shelf (ah 0)) (aj (aY (cB rfl) (ar rfl hu (bB rfl Z.cf_Shelf (ah 0)) (ah 2)) (ar rfl hu (bB rfl Z.cf_Shelf (ah 0)) (ah 3))) aq)))
  (ax (bT (bK rfl JU J4 J5 (dY) c7 (bB rfl Z.cf_Shelf (ah 0)) (aj (aY (cB rfl) (bF (EE) rfl Z.b_max PyProof.Rows.boot_max (aj (ar rfl hu (bB rfl Z.cf_Shelf (ah 0)) (ah 2)) (aj (ar rfl hu (bB rfl Z.cf_Shelf (ah 0)) (ah 3)) aq))) ay) aq)))
  (ax (bT (bK rfl JU J4 J5 (dY) c7 (bB rfl Z.cf_Shelf (ah 0)) (aj (ar rfl hu (bB rfl Z.cf_Shelf (ah 0)) (ah 2)) aq)))
  (aF (bT (bK rfl JU J4 J5 (dY) c7 (bB rfl Z.cf_Shelf (ah 0)) (aj (ar rfl hu (bB rfl Z.cf_Shelf (ah 0)) (ah 3)) aq))))))))))))
theorem eD:GM P w (bf K cls exc) mg base 5 0 "fork" aS:=gm Z.d_Shelf_fork Ij (show ("fork" : Str)∉bG 0 by decide +kernel) fun hr C hu nd =>
 (ax (bT (aO rfl C (Jd Z) hr.m (ah 0) (aj (ah 1) (aj (ah 2) aq))))
  (ax (aN (i:=3) nd (mh (aj bX (aj (ah 1) (aj (ah 2) aq)))))
  (ax (aJ (bx (sj rfl hu) (ah 3) (bB rfl Z.cf_Shelf (ah 0)) rfl) (aF (bT (aO rfl C (Je Z) hr.m (ah 0) (aj (ah 3) aq)))) bM)
  (aF (aR (ar rfl hu (bB rfl Z.cf_Shelf (ah 0)) (ah 3)))))))
theorem vB:∀ d,GF P w (bf K cls exc) mg base (5+d+1) "halved" (gs d)
 | 0=>gf Z.d_halved zL fun _ _ _ _=>oI
 | d+1=>gf Z.d_halved zL fun hr C hu nd =>
  (ax (aJ (bx (bP rfl hu) (bF (b_len rfl) rfl Z.b_len Kt (aj (ah 1) aq)) ay (bz _)) (aF (aR (ar rfl hu (ah 1) ay))) bM)
  (ax (aN (i:=2) nd (aY wZ (bF (b_len rfl) rfl Z.b_len Kt (aj (ah 1) aq)) ay))
  (aF (aR (aO rfl C (eD Z) (hr.mono (show 5<=5+(d+1) by lia)) (ah 0) (aj (aW rfl C (vB d) (hr.mono (by lia)) rfl (aj (ah 0) (aj (ku rfl (ah 1) oG (iT (ah 2))) aq))) (aj (aW rfl C (vB d) (hr.mono (by lia)) rfl (aj (ah 0) (aj (ku rfl (ah 1) (iT (ah 2)) oG) aq))) aq)))))))
theorem Jf:GF P w (bf K cls exc) mg base 1 "is_plain_sign" mP:=gf Z.d_is_plain_sign Ik fun hr C hu nd =>
 (aF (aR (rR (ox (bP rfl hu) (ah 0) bX (bz _)) (ki (rP dF dF bX (ah 0) bX)))))
theorem zR:GF P w (bf K cls exc) mg base 2 "is_plain" mQ:=gf Z.d_is_plain Il fun {f cdv A outer s H E} hr C hu nd =>
 (ax (aJ (iP (hV rfl (oE rfl rfl Z.b_isinstance (ah 0) rfl Z.b_str Dl (by decide)))) (aF (aR dh)) bM)
  (aF (aR (bF (b_all rfl) rfl Z.b_all PyProof.Rows.boot_all (aj (oz (jf:=[]) (iU (N:=["thing"]) (sc:=aM pV) rfl (fun _=>rfl) (by decide +kernel)) rfl (jA (E:=(fun _=>E)) rfl (ah 0)) (fun _ _ _ _ _=>jB) (fun _ _ _ _ _=>(aW rfl (CA.never rfl) (Jf Z) hr.m rfl (aj (ah 0) aq)))) aq)))))
theorem Jg:GF P w (bf K cls exc) mg base 3 "is_short" oR:=gf Z.d_is_short Im fun hr C hu nd =>
 (aF (aR (mf (aW rfl C (zR Z) hr.m rfl (aj (ah 0) aq)) (ki (rP dF dF ay (bF (b_len rfl) rfl Z.b_len Kt (aj (ah 0) aq)) (dZ rfl Z.c_LEAF_SIGNS))))))
theorem Jh:GF P w (bf K cls exc) mg base 1 "ends_in" oS:=gf Z.d_ends_in Io fun hr C hu nd =>
 (aF (aR (bK rfl Nu PySem.F.slot_str_count PySem.F.type_str_count (EI) xG (ah 0) (aj bX aq))))
theorem Ji:GM P w (bf K cls exc) mg base 2 0 "lay_leaf" mR:=gm Z.d_Shelf_lay_leaf Ip (show ("lay_leaf" : Str)∉bG 0 by decide +kernel) fun hr C hu nd =>
 (ax (aN (i:=2) nd (aO rfl C (zQ Z) hr.m (ah 0) (aj (ah 1) aq)))
  (ax (aN (i:=3) nd (ar rfl hu (ah 1) ay))
  (ax (bT (bK rfl JU J4 J5 (dY) c7 (bB rfl Z.cf_Shelf (ah 0)) (aj (bF (b_len rfl) rfl Z.b_len Kt (aj (ah 3) aq)) aq)))
  (ax (bT (bK rfl JU J4 J5 (dY) c7 (bB rfl Z.cf_Shelf (ah 0)) (aj (aW rfl C (Jh Z) hr.m rfl (aj (ah 3) aq)) aq)))
  (ax (bT (bK rfl JU J4 J5 (dY) c7 (bB rfl Z.cf_Shelf (ah 0)) (aj ay aq)))
  (ax (bT (bK rfl JU J4 J5 (dY) c7 (bB rfl Z.cf_Shelf (ah 0)) (aj ay aq)))
  (ax (bT (bK rfl JU J4 J5 (dY) c7 (bB rfl Z.cf_Shelf (ah 0)) (aj (ah 2) aq)))
  (aF (bT (bK rfl JU J4 J5 (dY) c7 (bB rfl Z.cf_Shelf (ah 0)) (aj (ah 2) aq)))))))))))
theorem nP:GM P w (bf K cls exc) mg base 4 0 "leaf" dj:=gm Z.d_Shelf_leaf Iq (show ("leaf" : Str)∉bG 0 by decide +kernel) fun hr C hu nd =>
 (ax (aJ (iP (hV rfl (aW rfl C (Jg Z) hr.m rfl (aj (ah 1) aq)))) (aF (iR Z.x_NoText iL rfl (aj bX aq))) bM)
  (ax (aN (i:=2) nd (mh (aj bX (aj (ah 1) aq))))
  (ax (aJ (bx (sj rfl hu) (ah 2) (bB rfl Z.cf_Shelf (ah 0)) rfl) (aF (bT (aO rfl C (Ji Z) hr.m (ah 0) (aj (ah 2) aq)))) bM)
  (aF (aR (ar rfl hu (bB rfl Z.cf_Shelf (ah 0)) (ah 2)))))))
theorem vC:GF P w (bf K cls exc) mg base 27 "built" jL:=gf Z.d_built Ir fun {f cdv A outer s H E} hr C hu nd =>
 (ax (aJ (iP (hV rfl (aW rfl C (zR Z) hr.m rfl (aj (ah 1) aq)))) (aF (iR Z.x_NoText iL rfl (aj bX aq))) bM)
  (ax (aJ (bx fC (bF (b_len rfl) rfl Z.b_len Kt (aj (ah 1) aq)) (dZ rfl Z.c_MOST_PLAIN) (bz _)) (aF (iR Z.x_TooLong iL rfl (aj bX aq))) bM)
  (ax (aJ (bx (bP rfl hu) (ah 1) bX (bz _)) (aF (aR ay)) bM)
  (ax (xp (jf:=[(0, "shelf"),(1, "plain")]) (iU (N:=["shelf", "plain", "leaves"]) (sc:=aM pW) rfl (fun _=>rfl) (by decide +kernel)) rfl (xN (E:=(fun _=>E)) rfl Z.b_range ay (bF (b_len rfl) rfl Z.b_len Kt (aj (ah 1) aq)) (dZ rfl Z.c_LEAF_SIGNS)) (fun _ _ _ _ _=>jB) (fun _ _ _ _ _=>(aO rfl (CA.never rfl) (nP Z) hr.m (ah 1) (aj (ku rfl (ah 2) (iT (ah 0)) (iT (aY (cB rfl) (ah 0) (dZ rfl Z.c_LEAF_SIGNS)))) aq))) nd (i:=2))
  (aF (aR (aW rfl C (vB Z 20) hr.m rfl (aj (ah 0) (aj (ah 2) aq)))))))))
theorem Jj:GF P w (bf K cls exc) mg base 1 "check_length" oT:=gf Z.d_check_length Iu fun hr C hu nd =>
 (aF (aJ (bx fC (ah 0) (dZ rfl Z.c_MOST_SIGNS) (bz _)) (aF (iR Z.x_TooLong iL rfl (aj bX aq))) bM))
theorem kW:GM P w (bf K cls exc) mg base 4 0 "check_text" gL:=gm Z.d_Shelf_check_text Iv (show ("check_text" : Str)∉bG 0 by decide +kernel) fun hr C hu nd =>
 (aF (aJ (bx (cC rfl hu) (ah 1) ay (bz _)) (aF (bT (aO rfl C (qb Z) hr.m (ah 0) (aj (ah 1) aq)))) bM))
theorem nQ:GM P w (bf K cls exc) mg base 5 0 "signs" gM:=gm Z.d_Shelf_signs Iw (show ("signs" : Str)∉bG 0 by decide +kernel) fun hr C hu nd =>
 (ax (bT (aO rfl C (kW Z) hr.m (ah 0) (aj (ah 1) aq)))
  (aF (aR (ar rfl hu (bB rfl Z.cf_Shelf (ah 0)) (ah 1)))))
theorem zS:GM P w (bf K cls exc) mg base 5 0 "last_leaf" mS:=gm Z.d_Shelf_last_leaf Iy (show ("last_leaf" : Str)∉bG 0 by decide +kernel) fun hr C hu nd =>
 (ax (bT (aO rfl C (kW Z) hr.m (ah 0) (aj (ah 1) aq)))
  (aF (aR (ar rfl hu (bB rfl Z.cf_Shelf (ah 0)) (ah 1)))))
theorem zT:GM P w (bf K cls exc) mg base 5 0 "first_leaf" mT:=gm Z.d_Shelf_first_leaf Iz (show ("first_leaf" : Str)∉bG 0 by decide +kernel) fun hr C hu nd =>
 (ax (bT (aO rfl C (kW Z) hr.m (ah 0) (aj (ah 1) aq)))
  (aF (aR (ar rfl hu (bB rfl Z.cf_Shelf (ah 0)) (ah 1)))))
theorem Jk:GF P w (bf K cls exc) mg base 6 "are_close" oU:=gf Z.d_are_close IA fun hr C hu nd =>
 (aF (aR (ox fC (aY (cB rfl) (aO rfl C (nQ Z) hr.m (ah 0) (aj (aO rfl C (zS Z) hr.m (ah 0) (aj (ah 1) aq)) aq)) (aO rfl C (nQ Z) hr.m (ah 0) (aj (aO rfl C (zT Z) hr.m (ah 0) (aj (ah 2) aq)) aq))) (dZ rfl Z.c_LEAF_SIGNS) (bz _))))
theorem eE:GM P w (bf K cls exc) mg base 4 0 "piece" bS:=gm Z.d_Shelf_piece IB (show ("piece" : Str)∉bG 0 by decide +kernel) fun hr C hu nd =>
 (ax (bT (aO rfl C (qb Z) hr.m (ah 0) (aj (ah 1) aq)))
  (aF (aR (ar rfl hu (bB rfl Z.cf_Shelf (ah 0)) (aY kg (ah 1) ay)))))
theorem zU:∀ d,GF P w (bf K cls exc) mg base (5+d+1) "with_last" (fO d)
 | 0=>gf Z.d_with_last zM fun _ _ _ _=>oI
 | d+1=>gf Z.d_with_last zM fun hr C hu nd =>
  (ax (aN (i:=3) nd (aO rfl C (eE Z) (hr.mono (show 4<=5+(d+1) by lia)) (ah 0) (aj (ah 1) aq)))
  (ax (aJ (bx (bP rfl hu) (ar rfl hu (ah 3) ay) bX (bz _)) (aF (aR (ah 2))) bM)
  (aF (aR (aO rfl C (eD Z) (hr.mono (show 5<=5+(d+1) by lia)) (ah 0) (aj (ar rfl hu (ah 3) ay) (aj (aW rfl C (zU d) (hr.mono (by lia)) rfl (aj (ah 0) (aj (ar rfl hu (ah 3) ay) (aj (ah 2) aq)))) aq)))))))
theorem gz:GM P w (bf K cls exc) mg base 5 0 "height" fh:=gm Z.d_Shelf_height IC (show ("height" : Str)∉bG 0 by decide +kernel) fun hr C hu nd =>
 (ax (bT (aO rfl C (kW Z) hr.m (ah 0) (aj (ah 1) aq)))
  (aF (aR (ar rfl hu (bB rfl Z.cf_Shelf (ah 0)) (ah 1)))))
theorem zV:GF P w (bf K cls exc) mg base 6 "turned_left" fi:=gf Z.d_turned_left ID fun hr C hu nd =>
 (ax (aJ (bx jz (aY kg (aO rfl C (gz Z) hr.m (ah 0) (aj (ah 2) aq)) (aO rfl C (gz Z) hr.m (ah 0) (aj (ah 1) aq))) ay (bz _)) (aF (aR (aO rfl C (eD Z) hr.m (ah 0) (aj (ah 1) (aj (ah 2) aq))))) bM)
  (ax (aN (i:=3) nd (aO rfl C (eE Z) hr.m (ah 0) (aj (ah 2) aq)))
  (ax (aN (i:=4) nd (ar rfl hu (ah 3) ay))
  (ax (aN (i:=5) nd (ar rfl hu (ah 3) ay))
  (ax (aJ (bx dF (aO rfl C (gz Z) hr.m (ah 0) (aj (ah 4) aq)) (aO rfl C (gz Z) hr.m (ah 0) (aj (ah 5) aq)) (bz _)) (aF (aR (aO rfl C (eD Z) hr.m (ah 0) (aj (aO rfl C (eD Z) hr.m (ah 0) (aj (ah 1) (aj (ah 4) aq))) (aj (ah 5) aq))))) bM)
  (ax (aN (i:=6) nd (aO rfl C (eE Z) hr.m (ah 0) (aj (ah 4) aq)))
  (aF (aR (aO rfl C (eD Z) hr.m (ah 0) (aj (aO rfl C (eD Z) hr.m (ah 0) (aj (ah 1) (aj (ar rfl hu (ah 6) ay) aq))) (aj (aO rfl C (eD Z) hr.m (ah 0) (aj (ar rfl hu (ah 6) ay) (aj (ah 5) aq))) aq)))))))))))
theorem zW:∀ d,GF P w (bf K cls exc) mg base (6+d+1) "without_first" (eI d)
 | 0=>gf Z.d_without_first zN fun _ _ _ _=>oI
 | d+1=>gf Z.d_without_first zN fun hr C hu nd =>
  (ax (aN (i:=2) nd (aO rfl C (eE Z) (hr.mono (show 4<=6+(d+1) by lia)) (ah 0) (aj (ah 1) aq)))
  (ax (aJ (bx (bP rfl hu) (ar rfl hu (ah 2) ay) bX (bz _)) (aF (aR ay)) bM)
  (ax (aN (i:=3) nd (aW rfl C (zW d) (hr.mono (by lia)) rfl (aj (ah 0) (aj (ar rfl hu (ah 2) ay) aq))))
  (ax (aJ (bx (bP rfl hu) (ah 3) ay (bz _)) (aF (aR (ar rfl hu (ah 2) ay))) bM)
  (aF (aR (aW rfl C (zV Z) (hr.mono (show 6<=6+(d+1) by lia)) rfl (aj (ah 0) (aj (ah 3) (aj (ar rfl hu (ah 2) ay) aq))))))))))
theorem Jl:GF P w (bf K cls exc) mg base 6 "turned_right" gu:=gf Z.d_turned_right IE fun hr C hu nd =>
 (ax (aJ (bx jz (aY kg (aO rfl C (gz Z) hr.m (ah 0) (aj (ah 1) aq)) (aO rfl C (gz Z) hr.m (ah 0) (aj (ah 2) aq))) ay (bz _)) (aF (aR (aO rfl C (eD Z) hr.m (ah 0) (aj (ah 1) (aj (ah 2) aq))))) bM)
  (ax (aN (i:=3) nd (aO rfl C (eE Z) hr.m (ah 0) (aj (ah 1) aq)))
  (ax (aN (i:=4) nd (ar rfl hu (ah 3) ay))
  (ax (aN (i:=5) nd (ar rfl hu (ah 3) ay))
  (ax (aJ (bx dF (aO rfl C (gz Z) hr.m (ah 0) (aj (ah 5) aq)) (aO rfl C (gz Z) hr.m (ah 0) (aj (ah 4) aq)) (bz _)) (aF (aR (aO rfl C (eD Z) hr.m (ah 0) (aj (ah 4) (aj (aO rfl C (eD Z) hr.m (ah 0) (aj (ah 5) (aj (ah 2) aq))) aq))))) bM)
  (ax (aN (i:=6) nd (aO rfl C (eE Z) hr.m (ah 0) (aj (ah 5) aq)))
  (aF (aR (aO rfl C (eD Z) hr.m (ah 0) (aj (aO rfl C (eD Z) hr.m (ah 0) (aj (ah 4) (aj (ar rfl hu (ah 6) ay) aq))) (aj (aO rfl C (eD Z) hr.m (ah 0) (aj (ar rfl hu (ah 6) ay) (aj (ah 2) aq))) aq)))))))))))
theorem qc:∀ d,GF P w (bf K cls exc) mg base (6+d+1) "linked" (d7 d)
 | 0=>gf Z.d_linked zO fun _ _ _ _=>oI
 | d+1=>gf Z.d_linked zO fun hr C hu nd =>
  (ax (aN (i:=3) nd (aY kg (aO rfl C (gz Z) (hr.mono (show 5<=6+(d+1) by lia)) (ah 0) (aj (ah 1) aq)) (aO rfl C (gz Z) (hr.mono (show 5<=6+(d+1) by lia)) (ah 0) (aj (ah 2) aq))))
  (ax (aJ (bx fC (ah 3) ay (bz _)) (ax (aN (i:=4) nd (aO rfl C (eE Z) (hr.mono (show 4<=6+(d+1) by lia)) (ah 0) (aj (ah 1) aq)))
  (aF (aR (aW rfl C (zV Z) (hr.mono (show 6<=6+(d+1) by lia)) rfl (aj (ah 0) (aj (ar rfl hu (ah 4) ay) (aj (aW rfl C (qc d) (hr.mono (by lia)) rfl (aj (ah 0) (aj (ar rfl hu (ah 4) ay) (aj (ah 2) aq)))) aq))))))) bM)
  (ax (aJ (bx jz (ah 3) (lV ay) (bz _)) (ax (aN (i:=4) nd (aO rfl C (eE Z) (hr.mono (show 4<=6+(d+1) by lia)) (ah 0) (aj (ah 2) aq)))
  (aF (aR (aW rfl C (Jl Z) (hr.mono (show 6<=6+(d+1) by lia)) rfl (aj (ah 0) (aj (aW rfl C (qc d) (hr.mono (by lia)) rfl (aj (ah 0) (aj (ah 1) (aj (ar rfl hu (ah 4) ay) aq)))) (aj (ar rfl hu (ah 4) ay) aq))))))) bM)
  (aF (aR (aO rfl C (eD Z) (hr.mono (show 5<=6+(d+1) by lia)) (ah 0) (aj (ah 1) (aj (ah 2) aq))))))))
theorem Jm:GF P w (bf K cls exc) mg base 98 "welded" jM:=gf Z.d_welded IF fun hr C hu nd =>
 (ax (aN (i:=3) nd (aY (cB rfl) (ar rfl hu (aO rfl C (eE Z) hr.m (ah 0) (aj (aO rfl C (zS Z) hr.m (ah 0) (aj (ah 1) aq)) aq)) ay) (ar rfl hu (aO rfl C (eE Z) hr.m (ah 0) (aj (aO rfl C (zT Z) hr.m (ah 0) (aj (ah 2) aq)) aq)) ay)))
  (ax (aN (i:=4) nd (aW rfl C (zU Z 90) hr.m rfl (aj (ah 0) (aj (ah 1) (aj (aO rfl C (nP Z) hr.m (ah 0) (aj (ah 3) aq)) aq)))))
  (ax (aN (i:=5) nd (aW rfl C (zW Z 90) hr.m rfl (aj (ah 0) (aj (ah 2) aq))))
  (ax (aJ (bx (bP rfl hu) (ah 5) ay (bz _)) (aF (aR (ah 4))) bM)
  (aF (aR (aW rfl C (qc Z 90) hr.m rfl (aj (ah 0) (aj (ah 4) (aj (ah 5) aq))))))))))
theorem zX:GF P w (bf K cls exc) mg base 99 "joined" fP:=gf Z.d_joined IG fun hr C hu nd =>
 (ax (bT (aW rfl C (Jj Z) hr.m rfl (aj (aY (cB rfl) (aO rfl C (nQ Z) hr.m (ah 0) (aj (ah 1) aq)) (aO rfl C (nQ Z) hr.m (ah 0) (aj (ah 2) aq))) aq)))
  (ax (aJ (bx (bP rfl hu) (ah 1) ay (bz _)) (aF (aR (ah 2))) bM)
  (ax (aJ (bx (bP rfl hu) (ah 2) ay (bz _)) (aF (aR (ah 1))) bM)
  (ax (aJ (hV rfl (aW rfl C (Jk Z) hr.m rfl (aj (ah 0) (aj (ah 1) (aj (ah 2) aq))))) (aF (aR (aW rfl C (qc Z 90) hr.m rfl (aj (ah 0) (aj (ah 1) (aj (ah 2) aq)))))) bM)
  (aF (aR (aW rfl C (Jm Z) hr.m rfl (aj (ah 0) (aj (ah 1) (aj (ah 2) aq))))))))))
theorem zY:GF P w (bf K cls exc) mg base 100 "_law_made" iq:=gf Z.d_law_made IH fun hr C hu nd =>
 (ax (aN (i:=3) nd (aW rfl C (iH Z) hr.m rfl (aj (ah 1) (aj ay aq))))
  (ax (aJ (bx (bP rfl hu) (ah 3) ay (bz _)) (aF (aR (aW rfl C (vC Z) hr.m rfl (aj (ah 0) (aj (ah 2) aq))))) bM)
  (ax (aN (i:=4) nd (eU aq))
  (ax (rT d5 (bx (cC rfl hu) (ah 2) bX (bz _)) (ax (aN (i:=5) nd (aY (cB rfl) ay (aW rfl (C.nox) (iH Z) hr.m rfl (aj (ah 1) (aj ay aq)))))
  (ax (bT (bK rfl JU J4 J5 (dY) c7 (ah 4) (aj (ku rfl (ah 2) oG (iT (ah 5))) aq)))
  (aF (aN (i:=2) nd (ku rfl (ah 2) (iT (ah 5)) oG))))))
  (ax (aN (i:=6) nd ay)
  (ax (aJ (bx (bP rfl hu) (ah 3) ay (bz _)) (aF (gH rfl (jA (E:=EN) rfl (ah 4)) (gh (i:=7) nd) (aF (aN (i:=6) nd (aW rfl (C.nox) (zX Z) hr.m rfl (aj (ah 0) (aj (ah 6) (aj (aW rfl (C.nox) (vC Z) hr.m rfl (aj (ah 0) (aj (ah 7) aq))) aq)))))))) (aF (EV rfl rfl rfl Z.b_reversed (ah 4) (gh (i:=7) nd) (aF (aN (i:=6) nd (aW rfl (C.nox) (zX Z) hr.m rfl (aj (ah 0) (aj (aW rfl (C.nox) (vC Z) hr.m rfl (aj (ah 0) (aj (ah 7) aq))) (aj (ah 6) aq)))))))))
  (aF (aR (ah 6)))))))))
theorem kY:GM P w (bf K cls exc) mg base 1 0 "many" eJ:=gm Z.d_Shelf_many II (show ("many" : Str)∉bG 0 by decide +kernel) fun hr C hu nd =>
 (aF (aR (bF (b_len rfl) rfl Z.b_len Kt (aj (bB rfl Z.cf_Shelf (ah 0)) aq))))
theorem qd:GF P w (bf K cls exc) mg base 5 "_law_pieces" jO:=gf Z.d_law_pieces IJ fun {f cdv A outer s H E} hr C hu nd =>
 (aF (aR (oz (jf:=[(0, "shelf")]) (iU (N:=["shelf"]) (sc:=aM pX) rfl (fun _=>rfl) (by decide +kernel)) rfl (rW (E:=(fun _=>E)) rfl Z.b_range ay (aY (cB rfl) (kq rfl C (kY Z) hr.m (ah 0)) ay)) (fun _ _ _ _ _=>jB) (fun _ _ _ _ _=>(aO rfl (CA.never rfl) (eE Z) hr.m (ah 1) (aj (ah 0) aq))))))
theorem Jn:GF P w (bf K cls exc) mg base 5 "_law_clean" oX:=gf Z.d_law_clean IL fun {f cdv A outer s H E} hr C hu nd =>
 (ax (aN (i:=2) nd (mz (EF rfl) rfl Z.b_list zK (aj (ah 1) aq)))
  (ax (gH rfl (Fz (E:=EN) rfl Z.b_range (kq rfl (C.nox) (kY Z) hr.m (ah 0)) ay (lV ay)) (gh (i:=3) nd) (ax (aN (i:=4) nd (aO rfl (C.nox) (eE Z) hr.m (ah 0) (aj (ah 3) aq)))
  (aF (aJ (hX (D6 (bx (mv rfl hu) (ah 3) (ah 2) rfl) (D5 (bx (bP rfl hu) (ar rfl hu (ah 4) ay) bX (bz _))))) (aF (bT (bK rfl JU Mc Md (xO) c7 (ah 2) (aj (eU (aj (ar rfl hu (ah 4) ay) (aj (ar rfl hu (ah 4) ay) aq))) aq)))) bM))))
  (ax (aN (i:=5) nd (xQ ay ay))
  (ax (aN (i:=6) nd (eU aq))
  (ax (gH rfl (rW (E:=EN) rfl Z.b_range ay (aY (cB rfl) (kq rfl (C.nox) (kY Z) hr.m (ah 0)) ay)) (gh (i:=3) nd) (aF (aJ (bx (mv rfl hu) (ah 3) (ah 2) rfl) (ax (kr hu (ah 5) (ah 3) (bF (b_len rfl) rfl Z.b_len Kt (aj (ah 5) aq)))
  (ax (aN (i:=4) nd (aO rfl (C.nox) (eE Z) hr.m (ah 0) (aj (ah 3) aq)))
  (ax (aJ (bx (bP rfl hu) (ar rfl hu (ah 4) ay) bX (bz _)) (aF (aN (i:=4) nd (mh (aj bX (aj (ar rfl hu (ah 5) (ar rfl hu (ah 4) ay)) (aj (ar rfl hu (ah 5) (ar rfl hu (ah 4) ay)) aq)))))) bM)
  (aF (bT (bK rfl JU J4 J5 (dY) c7 (ah 6) (aj (ah 4) aq))))))) bM)))
  (aF (aR (mh (aj (ah 6) (aj (oz (jf:=[(5, "numbers")]) (iU (N:=["shelf", "texts", "seen", "number", "piece", "numbers", "pieces"]) (sc:=aM pY) rfl (fun _=>rfl) (by decide +kernel)) rfl (jA (E:=(fun _=>E)) rfl (ah 1)) (fun _ _ _ _ _=>jB) (fun _ _ _ _ _=>(ar rfl hu (ah 1) (ah 0)))) aq))))))))))
theorem Jo:GF P w (bf K cls exc) mg base 5 "parts_of" mU:=gf Z.d_parts_of IM fun hr C hu nd =>
 (ax (aN (i:=2) nd (aO rfl C (eE Z) hr.m (ah 0) (aj (ah 1) aq)))
  (ax (aJ (bx (bP rfl hu) (ar rfl hu (ah 2) ay) bX (bz _)) (aF (aR (kj aq))) bM)
  (aF (aR (kj (aj (ar rfl hu (ah 2) ay) (aj (ar rfl hu (ah 2) ay) aq)))))))
theorem Jp:GF P w (bf K cls exc) mg base 6 "reach_of" kL:=gf Z.d_reach_of IP fun {f cdv A outer s H E} hr C hu nd =>
 (ax (aN (i:=2) nd D8)
  (ax (Em (jf:=[]) (iU (N:=["shelf", "texts", "reached", "ahead", "number"]) (sc:=aM pZ) rfl (fun _=>rfl) (by decide +kernel)) rfl (jA (E:=(fun _=>E)) rfl (ah 1)) (fun _ _ _ _ _=>Ek (bx (cC rfl hu) (ah 0) ay (bz _))) (fun _ _ _ _ _=>(ah 0)) nd (i:=3))
  (ax (rT d5 (bx (cC rfl hu) (ah 3) (kj aq) (bz _)) (ax (aN (i:=4) nd (su rfl JU NL NM (xH) c7 (ah 3)))
  (aF (aJ (bx (sj rfl hu) (ah 4) (ah 2) rfl) (ax (kr hu (ah 2) (ah 4) dh)
  (aF (bT (bK rfl JU Mc Md (E4 rfl) c7 (ah 3) (aj (aW rfl (C.nox) (Jo Z) hr.m rfl (aj (ah 0) (aj (ah 4) aq))) aq))))) bM))))
  (aF (aR (bF (Fw rfl) rfl Z.b_sorted HQ (aj (ah 2) aq)))))))
theorem zZ:GF P w (bf K cls exc) mg base 7 "swept" mV:=gf Z.d_swept IQ fun {f cdv A outer s H E} hr C hu nd =>
 (ax (aN (i:=2) nd (xt rfl C (zP Z) hr.m rfl))
  (ax (aN (i:=3) nd (xQ ay ay))
  (ax (gH rfl (jA (E:=EN) rfl (aW rfl (C.nox) (Jp Z) hr.m rfl (aj (ah 0) (aj (ah 1) aq)))) (gh (i:=4) nd) (ax (aN (i:=5) nd (aO rfl (C.nox) (eE Z) hr.m (ah 0) (aj (ah 4) aq)))
  (aF (aJ (bx (bP rfl hu) (ar rfl hu (ah 5) ay) bX (bz _)) (aF (kr hu (ah 3) (ah 4) (aO rfl (C.nox) (nP Z) hr.m (ah 2) (aj (ar rfl hu (ah 5) ay) aq)))) (aF (kr hu (ah 3) (ah 4) (aO rfl (C.nox) (eD Z) hr.m (ah 2) (aj (ar rfl hu (ah 3) (ar rfl hu (ah 5) ay)) (aj (ar rfl hu (ah 3) (ar rfl hu (ah 5) ay)) aq)))))))))
  (aF (aR (mh (aj (ah 2) (aj (El (jf:=[(3, "renamed")]) (iU (N:=["shelf", "texts", "new", "renamed", "number", "piece"]) (sc:=aM qa) rfl (fun _=>rfl) (by decide +kernel)) rfl (jA (E:=(fun _=>E)) rfl (ah 1)) (fun _ _ _ _ _=>jB) (fun _ _ _ _ _=>(ar rfl hu (ah 1) (ah 0)))) aq))))))))
theorem Jq:GF P w (bf K cls exc) mg base 6 "_law_known_again" oY:=gf Z.d_law_known_again IS fun hr C hu nd =>
 (ax (aN (i:=1) nd (kq rfl C (kY Z) hr.m (ah 0)))
  (ax (gH rfl (rW (E:=EN) rfl Z.b_range ay (aY (cB rfl) (ah 1) ay)) (gh (i:=2) nd) (ax (aN (i:=3) nd (aO rfl (C.nox) (eE Z) hr.m (ah 0) (aj (ah 2) aq)))
  (ax (aJ (bx (bP rfl hu) (ar rfl hu (ah 3) ay) bX (bz _)) (aF (aN (i:=4) nd (aO rfl (C.nox) (nP Z) hr.m (ah 0) (aj (ar rfl hu (ah 3) ay) aq)))) (aF (aN (i:=4) nd (aO rfl (C.nox) (eD Z) hr.m (ah 0) (aj (ar rfl hu (ah 3) ay) (aj (ar rfl hu (ah 3) ay) aq))))))
  (aF (aJ (hX (l9 (bx (cC rfl hu) (ah 4) (ah 2) (bz _)) (rQ (bx (cC rfl hu) (kq rfl (C.nox) (kY Z) hr.m (ah 0)) (ah 1) (bz _))))) (aF (aR dh)) bM)))))
  (aF (aR dh))))
theorem Jr:GF P w (bf K cls exc) mg base 5 "_law_read" jQ:=gf Z.d_law_read IU fun hr C hu nd =>
 (ax (aN (i:=2) nd bX)
  (ax (aN (i:=3) nd (eU (aj (ah 1) aq)))
  (ax (rT d5 (bx (cC rfl hu) (ah 3) (kj aq) (bz _)) (ax (aN (i:=4) nd (su rfl JU NL NM (xH) c7 (ah 3)))
  (aF (aJ (bx (cC rfl hu) (ah 4) ay (bz _)) (ax (aN (i:=5) nd (aO rfl (C.nox) (eE Z) hr.m (ah 0) (aj (ah 4) aq)))
  (aF (aJ (bx (bP rfl hu) (ar rfl hu (ah 5) ay) bX (bz _)) (aF (aN (i:=2) nd (aY (cB rfl) (ah 2) (ar rfl hu (ah 5) ay)))) (aF (bT (bK rfl JU Mc Md (xO) c7 (ah 3) (aj (eU (aj (ar rfl hu (ah 5) ay) (aj (ar rfl hu (ah 5) ay) aq))) aq))))))) bM))))
  (aF (aR (ah 2))))))
theorem Js:GM P w (bf K cls exc) mg base 5 0 "ends" oZ:=gm Z.d_Shelf_ends IV (show ("ends" : Str)∉bG 0 by decide +kernel) fun hr C hu nd =>
 (ax (bT (aO rfl C (kW Z) hr.m (ah 0) (aj (ah 1) aq)))
  (aF (aR (ar rfl hu (bB rfl Z.cf_Shelf (ah 0)) (ah 1)))))
theorem Jt:GM P w (bf K cls exc) mg base 5 0 "leaves" pe:=gm Z.d_Shelf_leaves IW (show ("leaves" : Str)∉bG 0 by decide +kernel) fun hr C hu nd =>
 (ax (bT (aO rfl C (kW Z) hr.m (ah 0) (aj (ah 1) aq)))
  (aF (aR (ar rfl hu (bB rfl Z.cf_Shelf (ah 0)) (ah 1)))))
theorem z7:GF P w (bf K cls exc) mg base 6 "_law_told_of" jR:=gf Z.d_law_told_of IX fun hr C hu nd =>
 (aF (aR (kj (aj (aW rfl C (Jr Z) hr.m rfl (aj (ah 0) (aj (ah 1) aq))) (aj (aO rfl C (nQ Z) hr.m (ah 0) (aj (ah 1) aq)) (aj (aO rfl C (Js Z) hr.m (ah 0) (aj (ah 1) aq)) (aj (aO rfl C (Jt Z) hr.m (ah 0) (aj (ah 1) aq)) (aj (aO rfl C (gz Z) hr.m (ah 0) (aj (ah 1) aq)) aq))))))))
theorem vD:GF P w (bf K cls exc) mg base 8 "_law_right" kM:=gf Z.d_law_right IY fun hr C hu nd =>
 (ax (aN (i:=2) nd (aW rfl C (qd Z) hr.m rfl (aj (ah 0) aq)))
  (ax (aN (i:=3) nd (aW rfl C (Jn Z) hr.m rfl (aj (ah 0) (aj (ah 1) aq))))
  (ax (aN (i:=4) nd (mz (b_list rfl) rfl Z.b_list zK (aj (ah 1) aq)))
  (ax (aN (i:=5) nd (aW rfl C (zZ Z) hr.m rfl (aj (ah 0) (aj (ah 4) aq))))
  (ax (aJ (hX (l9 (iP (hV rfl (oE rfl rfl Z.b_isinstance (ah 5) rfl Z.b_tuple ET (by decide)))) (l9 (bx (cC rfl hu) (bF (b_len rfl) rfl Z.b_len Kt (aj (ah 5) aq)) ay (bz _)) (l9 (iP (hV rfl (Fx rfl rfl Z.b_isinstance (ar rfl hu (ah 5) ay) rfl Z.ko_Shelf))) (rQ (bx (cC rfl hu) (ah 4) (ah 1) (bz _))))))) (aF (aR dh)) bM)
  (ax (aJ (hX (l9 (bx (cC rfl hu) (aW rfl C (qd Z) hr.m rfl (aj (ar rfl hu (ah 5) ay) aq)) (ar rfl hu (ah 3) ay) (bz _)) (rQ (bx (cC rfl hu) (ar rfl hu (ah 5) ay) (ar rfl hu (ah 3) ay) (bz _))))) (aF (aR dh)) bM)
  (ax (FG rfl rfl rfl Z.b_zip (ah 1) (ar rfl hu (ah 5) ay) (Ec rfl rfl (xg (i:=6) nd (xg (i:=7) nd Eb))) (aF (aJ (bx (cC rfl hu) (aW rfl (C.nox) (z7 Z) hr.m rfl (aj (ah 0) (aj (ah 6) aq))) (aW rfl (C.nox) (z7 Z) hr.m rfl (aj (ar rfl hu (ah 5) ay) (aj (ah 7) aq))) (bz _)) (aF (aR dh)) bM)))
  (ax (aJ (iP (hV rfl (aW rfl C (Jq Z) hr.m rfl (aj (ar rfl hu (ah 5) ay) aq)))) (aF (aR dh)) bM)
  (ax (bT (aO rfl C (nP Z) hr.m (ar rfl hu (ah 5) ay) (aj bX aq)))
  (ax (bT (bK rfl JU J4 J5 (dY) c7 (ar rfl hu (ah 5) ay) (aj ay aq)))
  (ax (aJ (bx (cC rfl hu) (aW rfl C (qd Z) hr.m rfl (aj (ah 0) aq)) (ah 2) (bz _)) (aF (aR dh)) bM)
  (ax (aN (i:=8) nd (aW rfl C (zZ Z) hr.m rfl (aj (ah 0) (aj (ah 4) aq))))
  (aF (aR (mf (ox (bP rfl hu) (aW rfl C (qd Z) hr.m rfl (aj (ar rfl hu (ah 8) ay) aq)) (ar rfl hu (ah 3) ay) (bz _)) (ki (ox (bP rfl hu) (ar rfl hu (ah 8) ay) (ar rfl hu (ah 3) ay) (bz _))))))))))))))))))
theorem Ju {f:Addr} {fd:FuncData} (h4:Fun K "law" "law" nO f fd):FnOk P w K mg base (cN P w) 101 f fd ["script"] (ic (bf K cls exc) tF):=gl (T:=bf K cls exc) h4 IZ fun hr C hu nd =>
 (ax (aN (i:=1) nd (xt rfl C (zP Z) hr.m rfl))
  (ax (aN (i:=2) nd (aW rfl C (I0 Z) hr.m rfl (aj (aW rfl C (vA Z) hr.m rfl (aj (ah 0) (aj ay aq))) (aj ay aq))))
  (ax (aN (i:=3) nd (eU (aj ay (aj (aW rfl C (zY Z) hr.m rfl (aj (ah 1) (aj (aW rfl C (vA Z) hr.m rfl (aj (ah 0) (aj ay aq))) (aj (ah 2) aq)))) aq))))
  (ax (aN (i:=4) nd (aW rfl C (vA Z) hr.m rfl (aj (ah 0) (aj ay aq))))
  (ax (gH rfl (mq (E:=EN) rfl Z.b_range ay) (gh (i:=5) nd) (ax (aN (i:=6) nd (aW rfl (C.nox) (iH Z) hr.m rfl (aj (ah 4) (aj (aY (cB rfl) (bF (b_len rfl) rfl Z.b_len Kt (aj (ah 2) aq)) ay) aq))))
  (ax (aN (i:=7) nd (aY (cB rfl) (ah 6) (aW rfl (C.nox) (iH Z) hr.m rfl (aj (ah 4) (aj (aY kg (aY (cB rfl) (bF (b_len rfl) rfl Z.b_len Kt (aj (ah 2) aq)) ay) (ah 6)) aq)))))
  (aF (bT (bK rfl JU J4 J5 (dY) c7 (ah 3) (aj (aW rfl (C.nox) (zY Z) hr.m rfl (aj (ah 1) (aj (ah 4) (aj (ku rfl (ah 2) (iT (ah 6)) (iT (ah 7))) aq)))) aq)))))))
  (ax (gH rfl (mq (E:=EN) rfl Z.b_range ay) (gh (i:=8) nd) (ax (xp (jf:=[(3, "texts"),(4, "stream")]) (iU (N:=["script", "shelf", "plain", "texts", "stream", "k", "begin", "end", "turn", "some"]) (sc:=aM nO) rfl (fun _=>rfl) (by decide +kernel)) rfl (mq (E:=EN) rfl Z.b_range (aW rfl (C.nox) (iH Z) hr.m rfl (aj (ah 4) (aj ay aq)))) (fun _ _ _ _ _=>jB) (fun _ _ _ _ _=>(ar rfl hu (ah 1) (aW rfl (CA.never rfl) (iH Z) hr.m rfl (aj (ah 2) (aj (bF (b_len rfl) rfl Z.b_len Kt (aj (ah 1) aq)) aq))))) nd (i:=9))
  (aF (aJ (iP (hV rfl (aW rfl (C.nox) (vD Z) hr.m rfl (aj (ah 1) (aj (ah 9) aq))))) (aF (aR dh)) bM))))
  (aF (aR (mf (aW rfl C (vD Z) hr.m rfl (aj (ah 1) (aj (ah 3) aq))) (ki (aW rfl C (vD Z) hr.m rfl (aj (ah 1) (aj (FC rfl rfl Z.b_range rfl Z.b_list (kq rfl C (kY Z) hr.m (ah 1)) (lV ay) (lV ay)) aq)))))))))))))
end
end Sk
namespace Sk
open PySem PySem.Spec L2 Sm
abbrev FX (l:PySem.W.OpenLaw) (w:World) (K:PySem.W.Frag) (mg:Str->Option Value) (fa:Addr):Prop:=∃ fd:FuncData,(∀ (s:Shared) (v:Value),BindsTo s fd ⟨[v],[]⟩ [("script",v)])/\∀ base:Heap,K.In base->base.Ns mainGlobals mg->FnOk l.prog w K mg base (cN l.prog w) 101 fa fd ["script"] (sD K)
theorem all_mk {l:PySem.W.OpenLaw} {w:World} {K:PySem.W.Frag} {h:Heap} {mg:Str->Option Value} {fa C0 X0 X1 X2 X3 X4 X5:Addr} {tk_LEAF_SIGNS tk_MOST_PLAIN tk_MOST_SIGNS:Tok} (X:K.In h) (G:h.Ns mainGlobals mg) (hfa:mg "law" = some (.ref fa))
  (aC0:NA K "Shelf" (some (.ref C0))) (a0:DN K C0 "__init__" "Shelf.__init__" uJ) (a6:DN K C0 "has_piece" "Shelf.has_piece" uO) (a7:DN K C0 "check_piece" "Shelf.check_piece" uP) (a8:DN K C0 "check_fork" "Shelf.check_fork" uQ) (a9:DN K C0 "lay" "Shelf.lay" uR) (a10:DN K C0 "lay_fork" "Shelf.lay_fork" uS) (a11:DN K C0 "fork" "Shelf.fork" uT) (a17:DN K C0 "lay_leaf" "Shelf.lay_leaf" uY) (a18:DN K C0 "leaf" "Shelf.leaf" uZ) (a21:DN K C0 "check_text" "Shelf.check_text" u9) (a22:DN K C0 "signs" "Shelf.signs" va) (a23:DN K C0 "last_leaf" "Shelf.last_leaf" vb) (a24:DN K C0 "first_leaf" "Shelf.first_leaf" vc) (a26:DN K C0 "piece" "Shelf.piece" ve) (a28:DN K C0 "height" "Shelf.height" vg) (a36:DN K C0 "many" "Shelf.many" vp) (a44:DN K C0 "ends" "Shelf.ends" vw) (a45:DN K C0 "leaves" "Shelf.leaves" vx) (a1:DK K "_law_take" uK) (a2:DK K "_law_plain" uL) (a3:DK K "_law_mixed" uM) (a4:DK K "_law_stream" pU) (a5:DK K "is_whole" uN) (a12:DK K "halved" uU) (a13:DK K "is_plain_sign" uV) (a14:DK K "is_plain" pV) (a15:DK K "is_short" uW) (a16:DK K "ends_in" uX) (a19:DK K "built" pW) (a20:DK K "check_length" u7) (a25:DK K "are_close" vd) (a27:DK K "with_last" vf) (a29:DK K "turned_left" vh) (a30:DK K "without_first" vi) (a31:DK K "turned_right" vj) (a32:DK K "linked" vk) (a33:DK K "welded" vm) (a34:DK K "joined" vn) (a35:DK K "_law_made" vo) (a37:DK K "_law_pieces" pX) (a38:DK K "_law_clean" pY) (a39:DK K "parts_of" vq) (a40:DK K "reach_of" pZ) (a41:DK K "swept" qa) (a42:DK K "_law_known_again" vt) (a43:DK K "_law_read" vv) (a46:DK K "_law_told_of" vy) (a47:DK K "_law_right" vz) (a48:DK K "law" nO) (kk0:Cls K C0) (mk0:PySem.W.makesIn K C0=true) (kc0:PySem.W.keepIn K (.ref C0)=true) (nf0_0:FA K C0 "pieces") (nf0_1:FA K C0 "numbers") (nf0_2:FA K C0 "sign_counts") (nf0_3:FA K C0 "end_counts") (nf0_4:FA K C0 "leaf_counts") (nf0_5:FA K C0 "heights") (nf0_6:FA K C0 "first_leaves") (nf0_7:FA K C0 "last_leaves") (z_abs:NA K "abs" none) (z_all:NA K "all" none) (z_bool:NA K "bool" none) (z_int:NA K "int" none) (z_isinstance:NA K "isinstance" none) (z_len:NA K "len" none) (z_list:NA K "list" none) (z_max:NA K "max" none) (z_range:NA K "range" none) (z_reversed:NA K "reversed" none) (z_sorted:NA K "sorted" none) (z_str:NA K "str" none) (z_sum:NA K "sum" none) (z_tuple:NA K "tuple" none) (z_zip:NA K "zip" none) (e_SkeinError:NA K "SkeinError" (some (.ref X0))) (e_NoText:NA K "NoText" (some (.ref X1))) (x_NoText:XI K X1) (e_NoPiece:NA K "NoPiece" (some (.ref X2))) (x_NoPiece:XI K X2) (e_Loose:NA K "Loose" (some (.ref X3))) (x_Loose:XI K X3) (e_Unlevel:NA K "Unlevel" (some (.ref X4))) (x_Unlevel:XI K X4) (e_TooLong:NA K "TooLong" (some (.ref X5))) (x_TooLong:XI K X5) (m_LEAF_SIGNS:NA K "LEAF_SIGNS" (some (.int 8 tk_LEAF_SIGNS))) (m_MOST_PLAIN:NA K "MOST_PLAIN" (some (.int 10000 tk_MOST_PLAIN))) (m_MOST_SIGNS:NA K "MOST_SIGNS" (some (.int 1000000000000000000 tk_MOST_SIGNS))) (yg:PySem.W.specialIn K (.builtin "object.__class__") "__get__" = some (some (.builtin "getset_descriptor.__get__"))) (yt:PySem.W.takesIn K (.builtin "object.__class__")=some true) (o1_0:PySem.W.findIn K (.ref C0) "__class__" = some (some (.builtin "object.__class__"))) (o2_0:PySem.W.mroIn K C0 (.type "object")=some true) (o3_0:PySem.W.kitOne K (.ref C0) (.ref C0)=some true)
  : FX l w K mg fa:=by
 have Z:∀ base:Heap,K.In base->ja l.prog w K (fun n=>[C0][n]?) (fun n=>[X0,X1,X2,X3,X4,X5][n]?) mg base:=fun base KB=>{
   b_abs:=Kp X G z_abs,
   b_all:=Kp X G z_all,
   b_bool:=Kp X G z_bool,
   b_int:=Kp X G z_int,
   b_isinstance:=Kp X G z_isinstance,
   b_len:=Kp X G z_len,
   b_list:=Kp X G z_list,
   b_max:=Kp X G z_max,
   b_range:=Kp X G z_range,
   b_reversed:=Kp X G z_reversed,
   b_sorted:=Kp X G z_sorted,
   b_str:=Kp X G z_str,
   b_sum:=Kp X G z_sum,
   b_tuple:=Kp X G z_tuple,
   b_zip:=Kp X G z_zip,
   c_LEAF_SIGNS:=⟨_,Ls X G m_LEAF_SIGNS⟩,
   c_MOST_PLAIN:=⟨_,Ls X G m_MOST_PLAIN⟩,
   c_MOST_SIGNS:=⟨_,Ls X G m_MOST_SIGNS⟩,
   cf_Shelf:=⟨C0,rfl,kk0,fun f hf=>by
   have hf2:f∈bG 0:=hf
   simp only [bG,J8,MB,OJ] at hf2
   rcases hf2 with rfl | rfl | rfl | rfl | rfl | rfl | rfl | rfl
   ·exact nf0_0
   ·exact nf0_1
   ·exact nf0_2
   ·exact nf0_3
   ·exact nf0_4
   ·exact nf0_5
   ·exact nf0_6
   ·exact nf0_7⟩,
   x_NoText:=gx KB X G rfl e_NoText x_NoText,
   x_NoPiece:=gx KB X G rfl e_NoPiece x_NoPiece,
   x_Loose:=gx KB X G rfl e_Loose x_Loose,
   x_Unlevel:=gx KB X G rfl e_Unlevel x_Unlevel,
   x_TooLong:=gx KB X G rfl e_TooLong x_TooLong,
   d_Shelf_init:=di rfl (Ls X G aC0) mk0 kc0 a0 fM,
   d_law_take:=dg X G a1 cE,
   d_law_plain:=dg X G a2 cE,
   d_law_mixed:=dg X G a3 cE,
   d_law_stream:=dg X G a4 cE,
   d_is_whole:=dg X G a5 fM,
   d_Shelf_has_piece:=dm rfl kk0 a6 cE,
   d_Shelf_check_piece:=dm rfl kk0 a7 cE,
   d_Shelf_check_fork:=dm rfl kk0 a8 gJ,
   d_Shelf_lay:=dm rfl kk0 a9 cE,
   d_Shelf_lay_fork:=dm rfl kk0 a10 cE,
   d_Shelf_fork:=dm rfl kk0 a11 gJ,
   d_halved:=dg X G a12 cE,
   d_is_plain_sign:=dg X G a13 fM,
   d_is_plain:=dg X G a14 fM,
   d_is_short:=dg X G a15 fM,
   d_ends_in:=dg X G a16 fM,
   d_Shelf_lay_leaf:=dm rfl kk0 a17 cE,
   d_Shelf_leaf:=dm rfl kk0 a18 cE,
   d_built:=dg X G a19 cE,
   d_check_length:=dg X G a20 fM,
   d_Shelf_check_text:=dm rfl kk0 a21 cE,
   d_Shelf_signs:=dm rfl kk0 a22 cE,
   d_Shelf_last_leaf:=dm rfl kk0 a23 cE,
   d_Shelf_first_leaf:=dm rfl kk0 a24 cE,
   d_are_close:=dg X G a25 gJ,
   d_Shelf_piece:=dm rfl kk0 a26 cE,
   d_with_last:=dg X G a27 gJ,
   d_Shelf_height:=dm rfl kk0 a28 cE,
   d_turned_left:=dg X G a29 gJ,
   d_without_first:=dg X G a30 cE,
   d_turned_right:=dg X G a31 gJ,
   d_linked:=dg X G a32 gJ,
   d_welded:=dg X G a33 gJ,
   d_joined:=dg X G a34 gJ,
   d_law_made:=dg X G a35 gJ,
   d_Shelf_many:=dm rfl kk0 a36 fM,
   d_law_pieces:=dg X G a37 fM,
   d_law_clean:=dg X G a38 cE,
   d_parts_of:=dg X G a39 cE,
   d_reach_of:=dg X G a40 cE,
   d_swept:=dg X G a41 cE,
   d_law_known_again:=dg X G a42 fM,
   d_law_read:=dg X G a43 cE,
   d_Shelf_ends:=dm rfl kk0 a44 cE,
   d_Shelf_leaves:=dm rfl kk0 a45 cE,
   d_law_told_of:=dg X G a46 cE,
   d_law_right:=dg X G a47 cE,
   d_law:=dg X G a48 fM,
   ko_Shelf:=⟨C0,Ls X G aC0,rfl,kk0,o1_0,yg,yt,o2_0,o3_0⟩ }
 obtain ⟨fd,h1,F⟩:=sJ (p := "script") X G hfa a48 fM
 exact ⟨fd,h1,fun base KB _=>FnOk.imp (Ju (Z base KB) F) (EK (T:=bf K (fun n=>[C0][n]?) (fun n=>[X0,X1,X2,X3,X4,X5][n]?)) law_true)⟩
theorem walk {l:PySem.W.OpenLaw} {q:Program} {loose:List Str} {XP:(Str->Option Value)->Heap->Prop} {YP:World->Heap->Prop} {d:DefRec} {K:Params->PySem.W.Frag} (hn:l.most=some 63) (hdf:d.params.defaults=[])
  (hY:∀ (w:World) (h:Heap),YP w h->(K w.params).In h)
  (F:∀ (w:World) (mg:Str->Option Value) (fa:Addr) (h:Heap),(K w.params).In h->h.Ns mainGlobals mg->mg d.name=some (.ref fa)->FX l w (K w.params) mg fa) :
  PySem.W.WalkO q loose XP YP l.row.toRowW d [] (fun f vs=>PySem.call f vs) :=
 L2.walk_of (n:=63) (k:=101) (x := "script") (CX:=fun w=>cN l.prog w) (sp:=fun w=>sD (K w.params)) hn (by decide) hdf ⟨rfl,by decide,by decide⟩ hY F (fun _ _ a ns hl _ hS=>⟨a,ns,rfl,hS,hl,fun _=>rfl⟩) fun _ _ _ _ _ z=>EL z
end Sk
open PySem PySem.W PyProof.Rows
section
namespace PySem.W.Fast
def tw7094766768291675480:=0
def tw526333318828062404:=0
def tw4616716632489524923:=0
def tw16795083122539982088:=0
def tw11101598055875726192:=0
def tw7122428509040344570:=0
def tw622458422637706992:=0
def tw3525296250011595036:=0
def tw2973192438392700934:=0
def tw12630242166057952391:=0
def tw8816773250975036893:=0
def tw6822039881241654821:=0
def tw5111662535734822032:=0
def tw2136877221291813969:=0
def tw14737324692589593704:=0
def tw13762031531713929439:=0
def tw11834921024915410542:=0
def tw10344883481273935487:=0
def tw9997041064850831913:=0
def tw999559410453285857:=0
def tw8899276834517267352:=0
def tw4535538604536631321:=0
def tw15463401826678138751:=0
def tw11517334763003997310:=0
def tw10760035192304226752:=0
def tw10641691307555649715:=0
def tw6443540777564396859:=0
def tw17375592218377576125:=0
def tw9523197255277783688:=0
def tw1808884176357761152:=0
def tw16653519033907643606:=0
def tw14409593685586460806:=0
def tw13364210035229074943:=0
def tw6812035071936211800:=0
def tw6287962281706730833:=0
def tw6281758738106862373:=0
def tw5458592273722399926:=0
def tw2368882029099232469:=0
def tw11757663995446576567:=0
def tw10142365598840699125:=0
def tw9890608940566827842:=0
def tw9725338983390949540:=0
def tw9579786489222520631:=0
def tw9387692679341487396:=0
def tw9260489226013033907:=0
def tw9247820460126572420:=0
def tw9210155263606799715:=0
def tw9072630108584914862:=0
def tw8971265845070458585:=0
def tw8754283735055515998:=0
def tw8598910931024616517:=0
def tw8493127879993702243:=0
def tw8407879259976763420:=0
def tw8391077365234130918:=0
def tw8372542250937887542:=0
def tw829533205722191215:=0
def tw8243052870853046512:=0
def tw7947682252948694173:=0
def tw7945245939317142488:=0
def tw7404375514122542583:=0
def tw7383556243602015668:=0
def tw7363701487273627385:=0
def tw7227664475588718431:=0
def tw7167391763720920649:=0
def tw6996449257672174265:=0
def tw6966082916351699887:=0
def tw6883261219063085503:=0
def tw6816101223635448222:=0
def tw6702617900986326214:=0
def tw6667504523119045217:=0
def tw6424141953886620975:=0
def tw6149542749938912647:=0
def tw6130610727771199654:=0
def tw6119955516476339108:=0
def tw6079871073454366467:=0
def tw5855528992622818654:=0
def tw582168140835344073:=0
def tw5552608375110660451:=0
def tw5482432560714156018:=0
def tw5380289245870692845:=0
def tw5255508341102302547:=0
def tw5244206738408126383:=0
def tw4980881206961285203:=0
def tw4861151224914464970:=0
def tw4851322506449800014:=0
def tw4846292056716768593:=0
def tw4831931889170779769:=0
def tw4791058556003430327:=0
def tw4781063574361609561:=0
def tw4762603708236381834:=0
def tw4670061832036278762:=0
def tw4572035341355296432:=0
def tw4426457415736225054:=0
def tw436347085034327470:=0
def tw4245970155482044219:=0
def tw4227117216121232941:=0
def tw418382913196257413:=0
def tw4041727792301126200:=0
def tw3859070554276717026:=0
def tw3835318308008826811:=0
def tw3682468433016789091:=0
def tw3144227383834736983:=0
def tw3143324269038053642:=0
def tw273077575640752661:=0
def tw262999072572186893:=0
def tw2377641047883233121:=0
def tw2327341552182094731:=0
def tw231652047628512301:=0
def tw2235851411202124103:=0
def tw2114717558367945848:=0
def tw1995387129775802656:=0
def tw18424060005766664216:=0
def tw18325246195234462200:=0
def tw18081182347623614638:=0
def tw1805011274843115771:=0
def tw17888353886457115726:=0
def tw17864913573042868262:=0
def tw173375411900770663:=0
def tw16871382118354936251:=0
def tw16814355073865141070:=0
def tw16809323336813809199:=0
def tw16738238708064852052:=0
def tw16728431608912224723:=0
def tw16629785869106512697:=0
def tw16579660981872015520:=0
def tw16395009888225489514:=0
def tw16277888793502109850:=0
def tw16140547445128100798:=0
def tw16116363335599794484:=0
def tw16111744392577033026:=0
def tw15833969192740004853:=0
def tw15826591219552291937:=0
def tw15778148400203705372:=0
def tw1572032970001949653:=0
def tw15493413818110666602:=0
def tw15433464277739060257:=0
def tw15286406656042271548:=0
def tw14983027734819498622:=0
def tw14800964659372784906:=0
def tw14680680685175535006:=0
def tw14553355991821136725:=0
def tw14546552385966189525:=0
def tw14505041865676240670:=0
def tw1447310586955569936:=0
def tw14326655284857163505:=0
def tw14198456644131138267:=0
def tw14190847174534886100:=0
def tw14117369488865384401:=0
def tw1377160878148449798:=0
def tw13624717652549973087:=0
def tw13596100456485198065:=0
def tw13518599536714000082:=0
def tw13421477258933770983:=0
def tw13416228985468512947:=0
def tw13125660793245669194:=0
def tw13090164308516346010:=0
def tw12614697431160601915:=0
def tw12485702591799721860:=0
def tw12228443162188114322:=0
def tw12073415671914492805:=0
def tw11834030304579974835:=0
def tw11249667373858302146:=0
def tw11087984630374095664:=0
def tw1058615245960521610:=0
def tw10517456624594520901:=0
def tw10367049277912581063:=0
def tw10358181502421560086:=0
def tw1022087088715951551:=0
def tw10074916042184755543:=0
def tw4407046601868424489:=0
def tw4608050431877368831:=0
def tw11706791022001428415:=0
def tw11408959810556373759:=0
def tw7078084461156092671:=0
def tw15672232107558657759:=0
def tw1542744430781761215:=0
def tw14511908326703953407:=0
def tw13968255871017611615:=0
def tw10208727543736595711:=0
def tw4466294604992483423:=0
def tw5079562419116810046:=0
def tw16097643404888078078:=0
def tw1448177442600556286:=0
def tw16441879980492885662:=0
def tw10319393249067919934:=0
def tw88652041944429086:=0
def tw3755350154052135422:=0
def tw5316419343101684190:=0
def tw4053630247073545630:=0
def tw13469136138256831838:=0
def tw12187122014466632990:=0
def tw7224980263908532382:=0
def tw2244159847296129086:=0
def tw6990707457104195581:=0
def tw8386188337359509373:=0
def tw9599833324033129309:=0
def tw13750801919373471549:=0
def tw10506375018013643581:=0
def tw7353064411197170365:=0
def tw15362293088988632413:=0
def tw4591536560412432413:=0
def tw14225974155582398332:=0
def tw10195026011008927548:=0
def tw6506892949470962364:=0
def tw9544630721355216540:=0
def tw9943552725203196316:=0
def tw10616447945905089884:=0
def tw16114802590825412636:=0
def tw17488871119021900828:=0
def tw2671097987588204443:=0
def tw2919031592967283611:=0
def tw15357391196827721595:=0
def tw18200978406024279867:=0
def tw18294585495621082939:=0
def tw4215930847131730747:=0
def tw10448852656220256923:=0
def tw11516644729618534779:=0
def tw3678550131410141211:=0
def tw5514273531931558810:=0
def tw2890671652117358234:=0
def tw2188470225364001434:=0
def tw12198968931726972250:=0
def tw8679878153022002394:=0
def tw14211814917963484186:=0
def tw8586714655616286681:=0
def tw12992674721790003065:=0
def tw2737558236651893593:=0
def tw5800124269863621433:=0
def tw296811418886629017:=0
def tw971998574549527193:=0
def tw14210458792098668953:=0
def tw916254080468289881:=0
def tw2580058366811305017:=0
def tw15838851543949146872:=0
def tw11476636559627716120:=0
def tw16836664603635052952:=0
def tw15738898861759487320:=0
def tw8701871439868758360:=0
def tw6748496125786246328:=0
def tw18006867730538288055:=0
def tw10022397408454661943:=0
def tw14527562260502516439:=0
def tw6636010265235590807:=0
def tw1463160636773223863:=0
def tw11603246870837098903:=0
def tw18275855257367967927:=0
def tw14068832721205097591:=0
def tw5387975388582643767:=0
def tw12961077552293161750:=0
def tw18381367537024637686:=0
def tw14813245462850884310:=0
def tw8274347803808786102:=0
def tw15510150071547426454:=0
def tw12589014903608245910:=0
def tw9120845838980671894:=0
def tw9873288950892488054:=0
def tw10777039978205187382:=0
def tw14740580014503930134:=0
def tw11196943230998247670:=0
def tw5096337338372959446:=0
def tw18077853119379715254:=0
def tw16060467793379596374:=0
def tw11355996609767095221:=0
def tw4848678222144032501:=0
def tw17758621202954349269:=0
def tw4139287928367555189:=0
def tw1617378098231017909:=0
def tw9909885364152204693:=0
def tw13625286284546013493:=0
def tw2110153111886745845:=0
def tw5627139470476317845:=0
def tw13972671682052978805:=0
def tw9321942288971133045:=0
def tw14719342099420488757:=0
def tw13380365993992095797:=0
def tw12777784289693394740:=0
def tw7502016705542385428:=0
def tw8703289056721783316:=0
def tw2307917905662454100:=0
def tw7578399611221705972:=0
def tw10243317037922591860:=0
def tw6308497959668868083:=0
def tw10009977194503742419:=0
def tw8471340396340328403:=0
def tw17678774955740627891:=0
def tw14266734744791503763:=0
def tw1237036920095091571:=0
def tw10624907857569146675:=0
def tw2742717110878571251:=0
def tw4723144627446993555:=0
def tw17107386346648392275:=0
def tw1910536952262414803:=0
def tw4892164810006325555:=0
def tw12342700007505250611:=0
def tw5049402876473903251:=0
def tw17287830469813408787:=0
def tw9749756497685573490:=0
def tw12365447525399407378:=0
def tw11304350169089127154:=0
def tw4685779711416636114:=0
def tw113563997129686706:=0
def tw11733642780817729778:=0
def tw17549872713585809618:=0
def tw8005613377461682226:=0
def tw17108656333361974161:=0
def tw2397688166509411153:=0
def tw11848107309921065713:=0
def tw715208067557071601:=0
def tw14463265992892458449:=0
def tw16657532484371454289:=0
def tw14138764530255770897:=0
def tw8178981440790423665:=0
def tw11640549464826497968:=0
def tw10093430310812972720:=0
def tw2415546704359251568:=0
def tw17674042458056914512:=0
def tw13042894906149283376:=0
def tw13496381189677657584:=0
def tw586246649229665680:=0
def tw6922794498086550832:=0
def tw12814406850952939696:=0
def tw332216366094173296:=0
def tw2242301033003428880:=0
def tw7482027850246514639:=0
def tw2988323503497975695:=0
def tw15668382668019592943:=0
def tw935389458423318223:=0
def tw16951357997830000303:=0
def tw6413610317191802447:=0
def tw4508638759349106223:=0
def tw5054396810256337167:=0
def tw5145862538721237167:=0
def tw2782687590841479279:=0
def tw7060865986377351086:=0
def tw2938446026424756046:=0
def tw5617535745387603630:=0
def tw2006374677445265902:=0
def tw9826070364887946574:=0
def tw4689844388008577262:=0
def tw2071995981371900014:=0
def tw8532252596419839054:=0
def tw6273897623312764942:=0
def tw2887477366294986733:=0
def tw4352001205270851533:=0
def tw14127775572713209741:=0
def tw1131177857769911821:=0
def tw1309554401106633197:=0
def tw2834004907523760557:=0
def tw2032361859530285389:=0
def tw3949688877162654989:=0
def tw11320465647807271788:=0
def tw3080789228729527084:=0
def tw2329262645208368908:=0
def tw2610778650812440236:=0
def tw11341688503441026732:=0
def tw4273504673197763212:=0
def tw17427992953852721740:=0
def tw7479670651989239340:=0
def tw7648973341920615916:=0
def tw3336114746750077356:=0
def tw657098626959097228:=0
def tw7744351617247752588:=0
def tw7616035308027524428:=0
def tw3298428768936921420:=0
def tw2226159825932454188:=0
def tw7989139380510328076:=0
def tw1778629815161953259:=0
def tw7952245512935915435:=0
def tw2554190290368306859:=0
def tw3172469243962839659:=0
def tw4588283039897695723:=0
def tw3216813541255325131:=0
def tw286830312555603211:=0
def tw7181038849065993451:=0
def tw15905115971637399755:=0
def tw15154410323376182443:=0
def tw16343112391387809770:=0
def tw15027696359052689322:=0
def tw3262122053715954602:=0
def tw765136896615034762:=0
def tw10729240915887430538:=0
def tw9592765756947688138:=0
def tw11255786597351970506:=0
def tw651631026017400234:=0
def tw14271612592297851274:=0
def tw5772959631959693578:=0
def tw11229483165569100938:=0
def tw1727874411849819242:=0
def tw5629198322049628234:=0
def tw2883699236487433193:=0
def tw13830601029350366153:=0
def tw13559109384780964585:=0
def tw3404431692520261961:=0
def tw13701395500979324169:=0
def tw9608028369753361641:=0
def tw15754854914722033640:=0
def tw17790718176416884648:=0
def tw6838518992369808104:=0
def tw5009450441010559656:=0
def tw1142956396026307080:=0
def tw3757385899095756296:=0
def tw12134531514951835016:=0
def tw10084273442087878888:=0
def tw9428668600962355368:=0
def tw17472317035807651912:=0
def tw13246891501206208359:=0
def tw10718257605080207143:=0
def tw14350164882824174343:=0
def tw10387949688450672295:=0
def tw17636139112211526247:=0
def tw12362377071298598471:=0
def tw11001881943060088295:=0
def tw1962501809630687527:=0
def tw9033707836946525383:=0
def tw10317608689199963207:=0
def tw9803594794479198022:=0
def tw4474136425505160838:=0
def tw6314356584701049318:=0
def tw5962086587583897062:=0
def tw15669990744637585862:=0
def tw4943073898822213030:=0
def tw5678388466842642790:=0
def tw5170035745798824134:=0
def tw13237839016400953446:=0
def tw12071009602856439814:=0
def tw8633794015033006917:=0
def tw1662831525520519909:=0
def tw5925797872827258565:=0
def tw6148813412555012645:=0
def tw12222857744496522597:=0
def tw5956817606335345893:=0
def tw12397622489523401957:=0
def tw3388597829057242309:=0
def tw2145955602808783045:=0
def tw6786974812160837669:=0
def tw13546314872917099236:=0
def tw10560912145354642916:=0
def tw4831823933855575428:=0
def tw8768030823278576772:=0
def tw12920209399576085508:=0
def tw12346818470920974211:=0
def tw13464798833555853059:=0
def tw14561972600957340387:=0
def tw5033905589765449155:=0
def tw4260255254973084067:=0
def tw4917829101410920867:=0
def tw10160270400816202083:=0
def tw15788515958896754819:=0
def tw12556078460323235875:=0
def tw13350070982299247619:=0
def tw14491626979532547874:=0
def tw15768709850397571842:=0
def tw5755565982252003970:=0
def tw1143596186506475010:=0
def tw14412354244856306050:=0
def tw4823817865942781218:=0
def tw11062716561355032770:=0
def tw1129529214605346657:=0
def tw15023016324007814945:=0
def tw1516029842886024929:=0
def tw5664541855765302913:=0
def tw16864956446995740257:=0
def tw1391663031403148833:=0
def tw3862259046136631841:=0
def tw12314706920187485665:=0
def tw5614893249232828513:=0
def tw5803499979966876737:=0
def tw10540570299087892384:=0
def tw16082236488783835040:=0
def tw4284875502421290720:=0
def tw6472157957542067904:=0
def tw3012353692568611488:=0
def tw6581724365555721792:=0
def tw7915692795520377376:=0
def tw4179590374685521056:=0
def tw6684313710258986112:=0
def tw8443361992490257504:=0
end PySem.W.Fast
end
set_option maxRecDepth 100000 in
set_option maxHeartbeats 0 in
theorem PySem.Challenge.cw_skeinwood_k75_swept_shelves_holds : PySem.Challenge.rw_skeinwood_k75_swept_shelves.Holds := by
 w_on; o_law; k_head; (case hw => w_witness2)
 k_fill
 refine Sk.walk (l := PySem.Challenge.rw_skeinwood_k75_swept_shelves) rfl rfl (fun w h Y => PySem.W.kIn_of Y) ?F
 case F =>
  intro w mg fa h KX G hmg
  refine' Sk.all_mk KX G hmg ?aC0 ?a0 ?a6 ?a7 ?a8 ?a9 ?a10 ?a11 ?a17 ?a18 ?a21 ?a22 ?a23 ?a24 ?a26 ?a28 ?a36 ?a44 ?a45 ?a1 ?a2 ?a3 ?a4 ?a5 ?a12 ?a13 ?a14 ?a15 ?a16 ?a19 ?a20 ?a25 ?a27 ?a29 ?a30 ?a31 ?a32 ?a33 ?a34 ?a35 ?a37 ?a38 ?a39 ?a40 ?a41 ?a42 ?a43 ?a46 ?a47 ?a48 ?kk0 ?mk0 ?kc0 ?nf0_0 ?nf0_1 ?nf0_2 ?nf0_3 ?nf0_4 ?nf0_5 ?nf0_6 ?nf0_7 ?z_abs ?z_all ?z_bool ?z_int ?z_isinstance ?z_len ?z_list ?z_max ?z_range ?z_reversed ?z_sorted ?z_str ?z_sum ?z_tuple ?z_zip ?e_SkeinError ?e_NoText ?x_NoText ?e_NoPiece ?x_NoPiece ?e_Loose ?x_Loose ?e_Unlevel ?x_Unlevel ?e_TooLong ?x_TooLong ?m_LEAF_SIGNS ?m_MOST_PLAIN ?m_MOST_SIGNS ?yg ?yt ?o1_0 ?o2_0 ?o3_0
  (case aC0 => apply Sm.na;k_is)
  (case a0 => apply Sm.dn<;>k_is)
  (case a6 => apply Sm.dn<;>k_is)
  (case a7 => apply Sm.dn<;>k_is)
  (case a8 => apply Sm.dn<;>k_is)
  (case a9 => apply Sm.dn<;>k_is)
  (case a10 => apply Sm.dn<;>k_is)
  (case a11 => apply Sm.dn<;>k_is)
  (case a17 => apply Sm.dn<;>k_is)
  (case a18 => apply Sm.dn<;>k_is)
  (case a21 => apply Sm.dn<;>k_is)
  (case a22 => apply Sm.dn<;>k_is)
  (case a23 => apply Sm.dn<;>k_is)
  (case a24 => apply Sm.dn<;>k_is)
  (case a26 => apply Sm.dn<;>k_is)
  (case a28 => apply Sm.dn<;>k_is)
  (case a36 => apply Sm.dn<;>k_is)
  (case a44 => apply Sm.dn<;>k_is)
  (case a45 => apply Sm.dn<;>k_is)
  (case a1 => apply Sm.dk<;>k_is)
  (case a2 => apply Sm.dk<;>k_is)
  (case a3 => apply Sm.dk<;>k_is)
  (case a4 => apply Sm.dk<;>k_is)
  (case a5 => apply Sm.dk<;>k_is)
  (case a12 => apply Sm.dk<;>k_is)
  (case a13 => apply Sm.dk<;>k_is)
  (case a14 => apply Sm.dk<;>k_is)
  (case a15 => apply Sm.dk<;>k_is)
  (case a16 => apply Sm.dk<;>k_is)
  (case a19 => apply Sm.dk<;>k_is)
  (case a20 => apply Sm.dk<;>k_is)
  (case a25 => apply Sm.dk<;>k_is)
  (case a27 => apply Sm.dk<;>k_is)
  (case a29 => apply Sm.dk<;>k_is)
  (case a30 => apply Sm.dk<;>k_is)
  (case a31 => apply Sm.dk<;>k_is)
  (case a32 => apply Sm.dk<;>k_is)
  (case a33 => apply Sm.dk<;>k_is)
  (case a34 => apply Sm.dk<;>k_is)
  (case a35 => apply Sm.dk<;>k_is)
  (case a37 => apply Sm.dk<;>k_is)
  (case a38 => apply Sm.dk<;>k_is)
  (case a39 => apply Sm.dk<;>k_is)
  (case a40 => apply Sm.dk<;>k_is)
  (case a41 => apply Sm.dk<;>k_is)
  (case a42 => apply Sm.dk<;>k_is)
  (case a43 => apply Sm.dk<;>k_is)
  (case a46 => apply Sm.dk<;>k_is)
  (case a47 => apply Sm.dk<;>k_is)
  (case a48 => apply Sm.dk<;>k_is)
  (case kk0 => constructor<;>k_is)
  (case mk0 => k_is)
  (case kc0 => k_is)
  (case nf0_0 => apply Sm.fatt;k_is)
  (case nf0_1 => apply Sm.fatt;k_is)
  (case nf0_2 => apply Sm.fatt;k_is)
  (case nf0_3 => apply Sm.fatt;k_is)
  (case nf0_4 => apply Sm.fatt;k_is)
  (case nf0_5 => apply Sm.fatt;k_is)
  (case nf0_6 => apply Sm.fatt;k_is)
  (case nf0_7 => apply Sm.fatt;k_is)
  (case z_abs => apply Sm.na;k_is)
  (case z_all => apply Sm.na;k_is)
  (case z_bool => apply Sm.na;k_is)
  (case z_int => apply Sm.na;k_is)
  (case z_isinstance => apply Sm.na;k_is)
  (case z_len => apply Sm.na;k_is)
  (case z_list => apply Sm.na;k_is)
  (case z_max => apply Sm.na;k_is)
  (case z_range => apply Sm.na;k_is)
  (case z_reversed => apply Sm.na;k_is)
  (case z_sorted => apply Sm.na;k_is)
  (case z_str => apply Sm.na;k_is)
  (case z_sum => apply Sm.na;k_is)
  (case z_tuple => apply Sm.na;k_is)
  (case z_zip => apply Sm.na;k_is)
  (case e_SkeinError => apply Sm.na;k_is)
  (case e_NoText => apply Sm.na;k_is)
  (case x_NoText => apply Sm.xi;k_exc)
  (case e_NoPiece => apply Sm.na;k_is)
  (case x_NoPiece => apply Sm.xi;k_exc)
  (case e_Loose => apply Sm.na;k_is)
  (case x_Loose => apply Sm.xi;k_exc)
  (case e_Unlevel => apply Sm.na;k_is)
  (case x_Unlevel => apply Sm.xi;k_exc)
  (case e_TooLong => apply Sm.na;k_is)
  (case x_TooLong => apply Sm.xi;k_exc)
  (case m_LEAF_SIGNS => apply Sm.na;k_is)
  (case m_MOST_PLAIN => apply Sm.na;k_is)
  (case m_MOST_SIGNS => apply Sm.na;k_is)
  (case yg => k_is)
  (case yt => k_is)
  (case o1_0 => k_is)
  (case o2_0 => k_is)
  (case o3_0 => kit_is)
