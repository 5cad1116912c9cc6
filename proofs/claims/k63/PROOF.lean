import PyProof.Rows.All
import Wide.All
import OpenK.AllK
import Wide.FinOn
import Lean
import PyProof.EqAt
import PyProof.EqKinds
import PyProof.TupleCall
import PyProof.StrCalls2
import PyProof.SumAny
import PyProof.Rows.Range3
import PyProof.StrBlockI
import PyProof.SliceStr2
import PyProof.IsRules
import PyProof.StrBlock2
import PyProof.ListRange
import KE.KRevSl
import PyProof.Draws
import PyProof.StrLawsIn
import PySem.Challenge.RW_skeinwood_k63_told_stands_just
set_option Elab.async false
set_option linter.all false
set_option maxRecDepth 100000
noncomputable section
section
open PySem PySem.Spec PyProof.Rows
def Kz:=@List.getElem?_eq_some_iff
def KA:=@List.getElem?_append_left
def KC:=@Nat.le_refl
def KD:=@decide_eq_false
def KF:=@List.mem_cons_self
def KG:=@List.getElem?_set_self
def KH:=@List.length_append
def KJ:=@List.mem_cons_of_mem
def KM:=@List.getElem?_set_ne
def KN:=@Nat.le_trans
def KO:=@List.length_cons
def KP:=@PySem.F.plainAttrs_list
def KQ:=@decide_eq_true
def KR:=@List.getElem?_eq_getElem
def KS:=@if_pos
def KU:=@Heap.get?_push_of_some
def KW:=@if_neg
def KY:=@List.size_toArray
def KZ:=@PySem.boot_len
def K0:=@wpAny_bind
def K2:=@PySem.F.slot_list_append
def K3:=@PySem.F.type_list_append
def K4:=@List.length_map
def K5:=@Heap.lt_size
def K6:=@List.mem_cons
def K7:=@Nat.lt_of_le_of_lt
def K8:=@List.mem_append_right
def K9:=@Bool.false_ne_true
def La:=@Nat.lt_of_lt_of_le
def Lb:=@List.mem_append_left
def Lc:=@Nat.zero_le
def Ld:=@List.mem_of_getElem?
def Le:=@wpAny_pure
def Lf:=@Option.map_eq_some_iff
def Lg:=@List.append_assoc
def Li:=@Heap.get?_push_size
def Lj:=@Option.some.inj
def Lk:=@Option.isSome_iff_exists
def Lm:=@Nat.not_lt_zero
def Ln:=@List.length_drop
def Lo:=@List.all_eq_true
def Lp:=@List.mem_append
def Lq:=@List.set_set
def Lr:=@List.length_take
def Ls:=@List.map_cons
def Lu:=@List.getElem?_append_right
def Lv:=@Nat.ne_of_lt
def Lw:=@List.getElem?_map
def Lx:=@PySem.W.mg_none_of
def Ly:=@Nat.add_le_add_left
def Lz:=@Bool.and_eq_true
def LA:=@List.take_of_length_le
def LB:=@PySem.W.kia_one
def LC:=@List.append_nil
def LD:=@List.nodup_cons
def LF:=@wpAny_mono
def LG:=@Array.all_eq_true_iff_forall_mem
def LH:=@List.mem_singleton
def LI:=@List.length_set
def LJ:=@List.find?_cons
def LN:=@List.drop_of_length_le
def LO:=@Array.length_toList
def LP:=@wpAny_truthy_bool
def LQ:=@List.cons_append
def LR:=@List.prefix_refl
def LU:=@Int.eq_ofNat_of_zero_le
def LV:=@PySem.mem_of_lookup
def LW:=@List.take_append_of_le_length
def LX:=@List.getElem?_cons_succ
def LY:=@Bool.eq_iff_iff
def LZ:=@PyProof.Rows.callWith_type1
def L3:=@Nat.add_comm
def L4:=@PySem.F.slot_list_pop
def L5:=@PySem.F.type_list_pop
def L6:=@List.nil_append
def L7:=@Nat.min_eq_left
def L8:=@wpAny_passesOwn
def L9:=@PySem.typeIs_bool
def Ma:=@List.mem_of_mem_drop
def Mb:=@List.mem_of_mem_take
def Mc:=@if_true
def Md:=@Nat.lt_irrefl
def Me:=@PySem.F.slot_bool_hash
def Mf:=@Nat.le_of_lt
def Mg:=@List.getElem?_take
def Mh:=@List.getElem?_drop
def Mi:=@PySem.W.mg_of
def Mj:=@List.take_append_drop
def Ml:=@PyProof.Rows.boot_max
def Mm:=@wpAny_callSpecialIfBoundUnlessNone?_slot
def Mn:=@List.ext_getElem?
def Mo:=@wpAny_newObj_type
def Mp:=@List.lookup_cons
def Mq:=@List.drop_length
def Mr:=@List.drop_eq_getElem_cons
def Mt:=@List.filterMap_cons
def Mu:=@List.getElem_of_mem
def Mv:=@List.any_cons
def Mw:=@List.map_append
def Mx:=@wpAny_Call_Name_kw
def My:=@List.getElem?_replicate
def Mz:=@Option.bind_eq_some_iff
def MA:=@List.length_eq_zero_iff
def MB:=@List.length_range
def MC:=@List.drop_zero
def MD:=@List.mem_map
def ME:=@decide_eq_true_eq
def MF:=@PyProof.Rows.slot_tuple_getitem
def MG:=@List.getElem?_eq_none
def MH:=@List.getElem_mem
def MI:=@List.not_mem_nil
def MJ:=@PySem.AutoSeq1.wpAny_loadPart'
def ML:=@Nat.min_eq_right
def MN:=@List.drop_append_of_le_length
def MO:=@Int.emod_nonneg
def MP:=@wpAny_execs_nil
def MQ:=@PySem.W.plainGet_of
def MR:=@List.take_succ_cons
def MS:=@List.getElem?_range
def MT:=@Nat.lt_trans
def MU:=@PySem.W.of_hideAll
def MV:=@Calls.Name_function_global
def MW:=@List.mem_filterMap
def MX:=@List.filterMap_map
def MY:=@List.nodup_nil
def MZ:=@Int.emod_lt_of_pos
def M0:=@tupleKind_room_in1
def M3:=@PySem.W.kitx_list
def M4:=@Nat.le_succ
def M5:=@List.getElem?_set
def M6:=@wpAny_assign_Name
def M7:=@wpAny_pyIter_list
def M8:=@PySem.F.args_tuple_add_2
def M9:=@List.set_comm
def Na:=@PySem.F.slot_list_extend
def Nb:=@PySem.F.type_list_extend
def Nc:=@wpAny_holding
def Nd:=@wpAny_getItem_list_slice
def Nf:=@Nat.lt_succ_self
def Ng:=@PySem.F.entry_tuple_add
def Nh:=@List.take_length
def Ni:=@wpAny_call_entry
def Nj:=@Nat.le_of_eq
def Nk:=@PySem.W.cellsFrom_some
def Nl:=@PySem.F.slot_tuple_add
def Nm:=@Heap.get?_update_other
def Nn:=@Calls.callWith_builtin
def Np:=@List.map_nil
def Nq:=@Nat.zero_add
def Nr:=@List.length_eq_one_iff
def Nt:=@Nat.lt_or_ge
def Nu:=@Nat.succ_pos
def Nv:=@wpAny_pyNext_range_end
def Nw:=@wpAny_pyIter_rangeiter
def Nx:=@subscriptTail_builtinR
def Ny:=@codeAny_mono
def Nz:=@List.of_mem_zip
def NB:=@Nat.min_le_left
def NC:=@Nat.le_antisymm
def ND:=@wpAny_specialOf
def NF:=@List.length_singleton
def NG:=@PySem.W.methodCall_KW
def NH:=@List.dropLast_eq_take
def NI:=@PyProof.Rows.boot_min
def NJ:=@List.mem_range
def NK:=@Heap.size_push
def NL:=@Calls.evalArgs_plain
def NM:=@List.take_succ
def NO:=@Nat.add_le_add
def NP:=@wpAny_field
def NQ:=@lookup_relabel_local
def NR:=@PySem.W.hideAll_get
def NS:=@List.map_congr_left
def NT:=@List.length_reverse
def NU:=@PySem.W.callWith_K0
def NV:=@List.filter_eq_self
def NW:=@Int.toNat_of_nonneg
def NX:=@wpAny_standAt
def NY:=@evalPart_none
def NZ:=@Heap.IsSliceOf.new
def N5:=@PySem.W.callWith_K
def N6:=@List.prefix_append
def N7:=@Nat.add_sub_cancel
def N8:=@wpAny_pyIter_range
def N9:=@typeIs_str
def Oa:=@PySem.W.kitx_dict
def Ob:=@List.reverse_cons
def Oc:=@Option.isSome_map
def Od:=@Nat.lt_succ_of_lt
def Oe:=@Bool.not_eq_true'
def Of:=@Nat.add_zero
def Og:=@List.nodup_append
def Oh:=@Array.size_append
def Oi:=@List.find?_append
def Oj:=@List.foldl_append
def Ol:=@Nat.pow_succ
def Om:=@Int.ofNat_lt
def On:=@of_decide_eq_true
def Oo:=@concat_meets
def Oq:=@seqIndex_neg
def Os:=@wpAny_pyIter_enum
def Ot:=@Int.neg_sub
def Ou:=@wpAny_Name
def Ov:=@if_false
def Ow:=@call_meets
def Ox:=@beq_iff_eq
def Oy:=@or_false
end
namespace L2
open PySem PySem.Spec PyProof.Rows
abbrev bo:=Sum Int Str
abbrev kJ (b:Bool):Int:=if b then 1 else 0
def kK:bo->Value->Bool
 | .inl k,.bool b=>decide (k=kJ b)
 | .inl k,v=>Value.isInt k v
 | .inr x,v=>Value.isStrOf x v
def qN (w:World):bo->Int
 | .inl k=>hashInt k
 | .inr x=>hashStr w x
theorem iL:∀ {k:bo} {v:Value},kK k v=true->(∃ i t,k=Sum.inl i/\v=Value.int i t)\/(∃ b,k=Sum.inl (kJ b)/\v=Value.bool b)\/(∃ x t,k=Sum.inr x/\v=Value.str x t)
 | .inl i,v,h=>by
  cases v with
  | bool b=>exact .inr (.inl ⟨b,by rw [On (show decide (i=kJ b)=true from h)],rfl⟩)
  | int j t =>
   obtain ⟨t,e⟩:=Value.isInt_shape (k:=i) (v:=.int j t) h
   exact .inl ⟨i,t,rfl,e⟩
  | _=>exact absurd h (by simp [kK,Value.isInt])
 | .inr x,v,h=>by
  obtain ⟨t,e⟩:=Value.isStrOf_shape (x:=x) (v:=v) h
  exact .inr (.inr ⟨x,t,rfl,e⟩)
theorem A6 (i:Int) (t:Tok):kK (.inl i) (.int i t)=true:=by simp [kK,Value.isInt]
theorem A7 (x:Str) (t:Tok):kK (.inr x) (.str x t)=true:=by simp [kK,Value.isStrOf]
theorem qO (a b:Int):decide ((Sum.inl a:bo)=Sum.inl b)=(a == b):=by
 by_cases e:a=b
 ·subst e;simp
 ·have h : ¬ (Sum.inl a:bo)=Sum.inl b:=fun q=>e (Sum.inl.inj q)
  rw [KD h]
  exact (beq_eq_false_iff_ne.mpr e).symm
theorem A8 (a b:Str):decide ((Sum.inr a:bo)=Sum.inr b)=decide (a=b):=by
 by_cases e:a=b
 ·subst e;simp
 ·have h : ¬ (Sum.inr a:bo)=Sum.inr b:=fun q=>e (Sum.inr.inj q)
  rw [KD h,KD e]
theorem wB (a:Int) (b:Str):decide ((Sum.inl a:bo)=Sum.inr b)=false:=KD (fun q=>nomatch q)
theorem wC (a:Str) (b:Int):decide ((Sum.inr a:bo)=Sum.inl b)=false:=KD (fun q=>nomatch q)
theorem A9 {prog:Program} {w:World} {A:Around} {E:Value->Shared->Prop} {s:Shared} {b:Bool} {Q:Int->Shared->Prop} (h:Q (hashInt (kJ b)) { s with toks:=s.toks+1 }) :
  wpAny (model prog w) A (pyHash (.bool b)) Q E s:=by
 unfold pyHash
 unfold pyHashByItsType
 have hv:[Value.bool b].any Value.onHeap=false:=rfl
 refine K0 ?_
 rw [cRoomFor,KW (by rw [hv];exact K9)];refine Le ?_
 refine K0 (ND (L9 s b) PySem.F.slot_bool_hash.lookup ?_)
 show wpAny _ _ (if (some (Value.builtin "int.__hash__") == some Value.none)=true then _ else _) Q E s
 rw [KW (by rw [beq_builtin_none];exact K9)]
 refine K0 (ND (L9 s b) PySem.F.slot_bool_hash.lookup ?_)
 show wpAny _ _ (callSpecialIfBoundUnlessNone? (.bool b) "__hash__" _ >>= _) Q E s
 cases b with
 | false =>
  refine K0 (Mm (L9 s false) Me
   (Ni Me (L9 s false) entry_int_hash
    (show wpAny _ _ (do ret (<- mkInt 0)) _ _ s from wpAny_ret_mkInt ?_) (args_int_hash _)))
  exact Le h
 | true =>
  refine K0 (Mm (L9 s true) Me
   (Ni Me (L9 s true) entry_int_hash
    (show wpAny _ _ (do ret (<- mkInt 1)) _ _ s from wpAny_ret_mkInt ?_) (args_int_hash _)))
  exact Le h
theorem Ba (a b:Bool):(a == b)=decide ((Sum.inl (kJ a):bo)=Sum.inl (kJ b)):=by cases a<;>cases b<;>decide
def gC (prog:Program) (w:World):PySem.KeyKind prog w bo where
 is:=kK
 hash:=qN w
 inj:=fun v a b ha hb=>by
  rcases iL ha with ⟨i,t,rfl,rfl⟩ | ⟨c,rfl,rfl⟩ | ⟨x,t,rfl,rfl⟩
  ·rcases iL hb with ⟨j,u,rfl,e⟩ | ⟨d,rfl,e⟩ | ⟨y,u,rfl,e⟩
   ·injection e with e1 _;rw [e1]
   ·exact nomatch e
   ·exact nomatch e
  ·rcases iL hb with ⟨j,u,rfl,e⟩ | ⟨d,rfl,e⟩ | ⟨y,u,rfl,e⟩
   ·exact nomatch e
   ·injection e with e1;rw [e1]
   ·exact nomatch e
  ·rcases iL hb with ⟨j,u,rfl,e⟩ | ⟨d,rfl,e⟩ | ⟨y,u,rfl,e⟩
   ·exact nomatch e
   ·exact nomatch e
   ·injection e with e1 _;rw [e1]
 byValue:=fun k v h=>by
  rcases iL h with ⟨i,t,rfl,rfl⟩ | ⟨c,rfl,rfl⟩ | ⟨x,t,rfl,rfl⟩<;>rfl
 pyHash:=fun hv h=>by
  rcases iL hv with ⟨i,t,rfl,rfl⟩ | ⟨c,rfl,rfl⟩ | ⟨x,t,rfl,rfl⟩
  ·exact wpAny_pyHash_int h
  ·exact A9 h
  ·exact wpAny_pyHash_str h
 eqBool:=fun hu hv h=>by
  rcases iL hu with ⟨i,t,rfl,rfl⟩ | ⟨c,rfl,rfl⟩ | ⟨x,t,rfl,rfl⟩
  ·rcases iL hv with ⟨j,u,rfl,rfl⟩ | ⟨d,rfl,rfl⟩ | ⟨y,u,rfl,rfl⟩
   ·rw [qO] at h;exact wpAny_eqBool_int h
   ·rw [qO] at h;exact SeqAt.EqAt.int_bool i t d _ _ _ _ h
   ·rw [wB] at h;exact SeqAt.EqAt.int_str i t y u _ _ _ _ h
  ·rcases iL hv with ⟨j,u,rfl,rfl⟩ | ⟨d,rfl,rfl⟩ | ⟨y,u,rfl,rfl⟩
   ·rw [qO] at h;exact SeqAt.EqAt.bool_int c j u _ _ _ _ h
   ·rw [<- Ba] at h;exact SeqAt.EqAt.bool_bool c d _ _ _ _ h
   ·rw [wB] at h;exact SeqAt.EqAt.bool_str c y u _ _ _ _ h
  ·rcases iL hv with ⟨j,u,rfl,rfl⟩ | ⟨d,rfl,rfl⟩ | ⟨y,u,rfl,rfl⟩
   ·rw [wC] at h;exact SeqAt.EqAt.str_int x t j u _ _ _ _ h
   ·rw [wC] at h;exact SeqAt.EqAt.str_bool x t d _ _ _ _ h
   ·rw [A8] at h;exact wpAny_eqBool_str h
 «strs» := fun k x t v h=>by
  rcases iL h with ⟨i,u,rfl,e⟩ | ⟨d,rfl,e⟩ | ⟨y,u,rfl,e⟩
  ·exact nomatch e
  ·exact nomatch e
  ·injection e with e1 _
   subst e1
   cases v<;>rfl
theorem wD (prog:Program) (w:World) (i:Int) (t:Tok):(gC prog w).is (.inl i) (.int i t)=true:=A6 i t
theorem wF (prog:Program) (w:World) (x:Str) (t:Tok):(gC prog w).is (.inr x) (.str x t)=true:=A7 x t
end L2
namespace L2
open PySem PySem.Spec PyProof.Rows
inductive V where
 | non | bl (b:Bool) | int (i:Int) | str (x:Str) | byt (b:Array UInt8) | flt (b:UInt64) | ref (a:Addr) | ty (n:String)
 deriving DecidableEq
def RelV:V->Value->Prop
 | .non,u=>u=Value.none
 | .bl b,u=>u=Value.bool b
 | .int i,u=>∃ t,u=Value.int i t
 | .str x,u=>∃ t,u=Value.str x t
 | .byt b,u=>∃ t,u=Value.bytes b t
 | .flt b,u=>∃ t,u=Value.float b t
 | .ref a,u=>u=Value.ref a
 | .ty n,u=>u=Value.type n
abbrev Vals:List V->List Value->Prop:=Paired RelV
theorem Vals.length {xs:List V} {us:List Value} (r:Vals xs us):xs.length=us.length:=Paired.length r
theorem Vals.get:∀ {xs:List V} {us:List Value} {i:Nat} {x:V},Vals xs us->xs[i]? = some x->∃ u,us[i]? = some u/\RelV x u
 | _,_,_,_,.nil,e=>by simp at e
 | _,_,0,_,.cons r _,e=>by simp at e;subst e;exact ⟨_,rfl,r⟩
 | _,_,i+1,x,.cons _ t,e=>by
  obtain ⟨u,h1,h2⟩:=Vals.get (i:=i) (x:=x) t (by simpa using e)
  exact ⟨u,by simpa using h1,h2⟩
theorem Vals.set {x:V} {u:Value} (r:RelV x u):∀ {xs:List V} {us:List Value} (i:Nat),Vals xs us->Vals (xs.set i x) (us.set i u)
 | _,_,_,.nil=>.nil
 | _,_,0,.cons _ t=>.cons r t
 | _,_,i+1,.cons q t=>.cons q (Vals.set r i t)
theorem Vals.append:∀ {xs ys:List V} {us ws:List Value},Vals xs us->Vals ys ws->Vals (xs++ys) (us++ws)
 | _,_,_,_,.nil,s=>s
 | _,_,_,_,.cons r t,s=>.cons r (Vals.append t s)
theorem Vals.take:∀ {xs:List V} {us:List Value} (n:Nat),Vals xs us->Vals (xs.take n) (us.take n)
 | _,_,0,_=>.nil
 | _,_,_+1,.nil=>.nil
 | _,_,n+1,.cons r t=>.cons r (Vals.take n t)
theorem Vals.drop:∀ {xs:List V} {us:List Value} (n:Nat),Vals xs us->Vals (xs.drop n) (us.drop n)
 | _,_,0,r=>r
 | _,_,_+1,.nil=>.nil
 | _,_,n+1,.cons _ t=>Vals.drop n t
def RelO:Option V->Option Value->Prop
 | some v,some u=>RelV v u
 | none,none=>True
 | _,_=>False
def KV {κ:Type}:List (κ×V)->List (κ×Value)->Prop:=Paired fun (p:κ×V) (q:κ×Value)=>p.1=q.1/\RelV p.2 q.2
def kV:bo->V
 | .inl i=>.int i
 | .inr x=>.str x
def l9:V->Option bo
 | .int i=>some (.inl i)
 | .bl b=>some (.inl (kJ b))
 | .str x=>some (.inr x)
 | _=>none
theorem Bb (k:bo):l9 (kV k)=some k:=by cases k<;>rfl
inductive HO where
 | lst (xs:List V)
 | tup (xs:List V)
 | dK (kvs:List (bo×V)) | dT (kvs:List (List bo×V))
 | set (S:Int->Bool) (n:Nat)
 | ins (C dx:Addr) (fs:List (Str×V))
 | own (x:Addr)
 | xd (fs:List (Str×V))
 | met (f x:Addr)
 | rng (lo hi:Int)
 | frz (o:Obj) (u:HO)
 | tbl (ps:Array Value)
 | ext (φ:Heap->Prop)
abbrev Hp:=Addr->Option HO
def aV (H:Hp) (a:Addr) (o:HO):Hp:=fun b=>if b=a then some o else H b
theorem gD {H:Hp} {a:Addr} {o:HO}:aV H a o a=some o:=by unfold aV;rw [KS rfl]
theorem cF {H:Hp} {a b:Addr} {o:HO} (h:b≠a):aV H a o b=H b:=by unfold aV;rw [KW h]
theorem Bc {H:Hp} {a b:Addr} {o u:HO} (h:H a=some o) (h':H b=some u) (d:o≠u):a≠b:=by
 intro e;subst e;rw [h] at h';exact d (Lj h')
theorem iz {H:Hp} {a b:Addr} {o:HO} (h:H a=some o) (h':H b=none):a≠b:=by
 intro e;subst e;rw [h] at h';cases h'
section
variable (P:Program) (w:World)
def ObjOk (H:Hp) (h:Heap) (a:Addr):HO->Prop
 | .lst xs=>xs.length<=sizeLine/\∃ (its:List Value) (n:Nat),Vals xs its/\h.get? a=some { cls:=.type "list",data:=.seq its.toArray n }
 | .tup xs=>xs.length<=sizeLine/\∃ its:List Value,Vals xs its/\IsTup h a its.toArray
 | .dK kvs=>kvs.length<=sizeLine/\(a == sysModules)=false/\∃ vs,KV kvs vs/\h.DictOf (gC P w) a vs
 | .dT kvs=>kvs.length<=sizeLine/\(a == sysModules)=false/\∃ xs:List (List bo×Addr×Value),
   Paired (fun (p:List bo×V) (q:List bo×Addr×Value)=>p.1=q.1/\(∃ ys,H q.2.1=some (.tup ys)/\ys.map l9=p.1.map some)/\RelV p.2 q.2.2) kvs xs /\
   ∃ o es ep,h.get? a=some o/\o.ExactDict/\o.data = .dict es ep/\es.toList=xs.map (entryOfKey (tupleKind (gC P w)))/\(xs.map (·.1)).Nodup
 | .set S n=>h.SetOf (intKind P w) a S n
 | .ins C dx fs=>H dx=some (.own a)/\fs.length<=1000/\dx≠a/\h.get? a=some (PySem.W.instObj C dx) /\
   ∃ mA,h.Ns1 dx mA/\(∀ f,RelO (fs.lookup f) (mA f))/\PySem.Within mA (fs.map (·.1))
 | .own _=>∃ o,h.get? a=some o
 | .xd fs=>∃ mA,h.Ns1 a mA/\∀ f,RelO (fs.lookup f) (mA f)
 | .rng lo hi=>∃ t u v,h.get? a=some { cls:=.type "range",data:=.fields #[.int lo t,.int hi u,.int 1 v] }
 | .frz o u=>h.get? a=some o/\ObjOk H h a u
 | .tbl ps=>h.get? a=some { cls:=.none,data:=.fields ps }
 | .met f x=>h.get? a=some (PySem.W.methodObj (.ref f) (.ref x))
 | .ext φ=>φ h/\(∃ o,h.get? a=some o)/\∀ h1 h2:Heap,φ h1->(∀ o,h1.get? a=some o->h2.get? a=some o)->φ h2
def HOk (H:Hp) (h:Heap):Prop:=∀ a o,H a=some o->ObjOk P w H h a o
end
section
variable {P:Program} {w:World} {H H':Hp} {h h':Heap} {a:Addr} {o:HO}
theorem ObjOk.lt (x:ObjOk P w H h a o):a<h.objs.size:=by
 cases o with
 | lst xs=>obtain ⟨_,_,_,_,e⟩:=x;exact K5 e
 | tup xs=>obtain ⟨_,_,_,p⟩:=x;exact p.lt
 | dK kvs=>obtain ⟨_,_,_,_,o,_,_,e,_⟩:=x;exact K5 e
 | dT kvs=>obtain ⟨_,_,_,_,o,_,_,e,_⟩:=x;exact K5 e
 | set S n=>obtain ⟨o,_,_,_,e,_⟩:=x;exact K5 e
 | ins C dx fs=>obtain ⟨_,_,_,e,_⟩:=x;exact K5 e
 | own y=>obtain ⟨_,e⟩:=x;exact K5 e
 | xd fs=>obtain ⟨_,⟨_,_,_,e,_⟩,_⟩:=x;exact K5 e
 | rng lo hi=>obtain ⟨_,_,_,e⟩:=x;exact K5 e
 | frz ob u=>obtain ⟨e,_⟩:=x;exact K5 e
 | tbl ps=>exact K5 (show h.get? a=some _ from x)
 | met f y=>exact K5 (show h.get? a=some _ from x)
 | ext φ=>obtain ⟨_,⟨_,e⟩,_⟩:=x;exact K5 e
theorem Paired.mapP {α β:Type} {F G:α->β->Prop}:∀ {l₁:List α} {l₂:List β},Paired F l₁ l₂->(∀ a b,F a b->G a b)->Paired G l₁ l₂
 | _,_,.nil,_=>.nil
 | _,_,.cons r t,f=>.cons (f _ _ r) (Paired.mapP t f)
theorem ObjOk.stay (x:ObjOk P w H h a o) (k:∀ b u,(b=a\/H b=some (.own a))->h.get? b=some u->h'.get? b=some u)
  (ho:∀ b,H b=some (.own a)->H' b=some (.own a)) (ht:∀ b xs,H b=some (.tup xs)->H' b=some (.tup xs)):ObjOk P w H' h' a o:=by
 induction o with
 | lst xs=>obtain ⟨z,its,n,r,e⟩:=x;exact ⟨z,its,n,r,k _ _ (.inl rfl) e⟩
 | tup xs=>obtain ⟨z,its,r,ob,e,c⟩:=x;exact ⟨z,its,r,ob,k _ _ (.inl rfl) e,c⟩
 | dK kvs=>obtain ⟨z,y,vs,r,ob,es,ep,e,c⟩:=x;exact ⟨z,y,vs,r,ob,es,ep,k _ _ (.inl rfl) e,c⟩
 | dT kvs =>
  obtain ⟨z,y,xs,r,ob,es,ep,e,c⟩:=x
  exact ⟨z,y,xs,Paired.mapP r fun p q z=>⟨z.1,z.2.1.imp fun _ e=>⟨ht _ _ e.1,e.2⟩,z.2.2⟩,ob,es,ep,k _ _ (.inl rfl) e,c⟩
 | set S n=>obtain ⟨ob,es,ep,t,e,c⟩:=x;exact ⟨ob,es,ep,t,k _ _ (.inl rfl) e,c⟩
 | ins C dx fs =>
  obtain ⟨d,z,ne,e,mA,⟨od,es,ep,e2,c⟩,r⟩:=x
  exact ⟨ho _ d,z,ne,k _ _ (.inl rfl) e,mA,⟨od,es,ep,k _ _ (.inr d) e2,c⟩,r⟩
 | own y=>obtain ⟨ob,e⟩:=x;exact ⟨ob,k _ _ (.inl rfl) e⟩
 | xd fs=>obtain ⟨mA,⟨od,es,ep,e,c⟩,r⟩:=x;exact ⟨mA,⟨od,es,ep,k _ _ (.inl rfl) e,c⟩,r⟩
 | rng lo hi=>obtain ⟨t,u,v,e⟩:=x;exact ⟨t,u,v,k _ _ (.inl rfl) e⟩
 | frz ob u ih=>obtain ⟨e,q⟩:=x;exact ⟨k _ _ (.inl rfl) e,ih q⟩
 | tbl ps =>
  have e:h.get? a=some { cls:=.none,data:=.fields ps }:=x
  show h'.get? a=some { cls:=.none,data:=.fields ps }
  exact k a _ (.inl rfl) e
 | met f y =>
  have e:h.get? a=some (PySem.W.methodObj (.ref f) (.ref y)):=x
  show h'.get? a=some (PySem.W.methodObj (.ref f) (.ref y))
  exact k a _ (.inl rfl) e
 | ext φ=>obtain ⟨p,⟨o,e⟩,st⟩:=x;exact ⟨st _ _ p fun o q=>k _ _ (.inl rfl) q,⟨o,k _ _ (.inl rfl) e⟩,st⟩
theorem HOk.lt (x:HOk P w H h) (e:H a=some o):a<h.objs.size:=(x a o e).lt
theorem HOk.fresh (x:HOk P w H h) (e:h.objs.size<=a):H a=none:=by
 cases q:H a with
 | none=>rfl
 | some u=>exact absurd (La (x.lt q) e) (Md _)
theorem HOk.kept (x:HOk P w H h) (k:∀ b u,h.get? b=some u->h'.get? b=some u):HOk P w H h' := fun a o e =>
 (x a o e).stay (fun b u _ q=>k b u q) (fun _ q=>q) fun _ _ q=>q
theorem HOk.laid (x:HOk P w H h) (k:∀ b u,h.get? b=some u->h'.get? b=some u) (hp:h.objs.size<=a) (new:ObjOk P w (aV H a o) h' a o):HOk P w (aV H a o) h' := fun b u e=>by
 have hn:=x.fresh hp
 by_cases hb:b=a
 ·subst hb;rw [gD] at e;cases e;exact new
 ·rw [cF hb] at e
  exact (x b u e).stay (fun c v _ q=>k c v q) (fun c q=>by rw [cF (iz q hn)];exact q) fun c xs q=>by rw [cF (iz q hn)];exact q
end
def Rd (H:Hp) (a:Addr) (u:HO):Prop:=H a=some u\/∃ o,H a=some (.frz o u)
theorem Rd.ok {P:Program} {w:World} {H:Hp} {h:Heap} {a:Addr} {u:HO} (r:Rd H a u) (x:HOk P w H h):ObjOk P w H h a u:=by
 rcases r with r | ⟨o,r⟩
 ·exact x a u r
 ·obtain ⟨_,q⟩:=x a _ r
  exact q
def mR:Option HO->Prop
 | some (.lst _)=>True
 | some (.dK _)=>True
 | some (.dT _)=>True
 | some (.set _ _)=>True
 | some (.ins _ _ _)=>True
 | some (.ext _)=>True
 | _=>False
section
variable {P:Program} {w:World} {H:Hp} {h h':Heap} {x e:Addr} {o':HO}
theorem HOk.write (ok:HOk P w H h) (mu:mR (H x)) (he:e=x\/H e=some (.own x)) (k:∀ b u,b≠e->h.get? b=some u->h'.get? b=some u) (heo:∃ u,h'.get? e=some u)
  (new:ObjOk P w (aV H x o') h' x o'):HOk P w (aV H x o') h' := fun b u q=>by
 have nown:∀ c y,H c=some (.own y)->c≠x:=fun c y r z=>by subst z;rw [r] at mu;exact mu
 have ntup:∀ c xs,H c=some (.tup xs)->c≠x:=fun c xs r z=>by subst z;rw [r] at mu;exact mu
 by_cases hb:b=x
 ·subst hb;rw [gD] at q;cases q;exact new
 ·rw [cF hb] at q
  by_cases hbe:b=e
  ·have q':H b=some (.own x):=by
    rcases he with z | z
    ·exact absurd (hbe.trans z) hb
    ·rw [hbe];exact z
   rw [q] at q';cases q'
   obtain ⟨v,hv⟩:=heo
   exact ⟨v,by rw [hbe];exact hv⟩
  ·refine (ok b u q).stay (fun c v hc r=>k c v ?_ r) (fun c r=>by rw [cF (nown c b r)];exact r) fun c xs r=>by rw [cF (ntup c xs r)];exact r
   rcases hc with rfl | hc
   ·exact hbe
   ·rintro rfl
    rcases he with z | z
    ·exact nown c b hc z
    ·rw [hc] at z;cases z;exact hb rfl
end
structure Un (fs ex:List Addr) (H H':Hp) (h h':Heap):Prop where
 keep:∀ b o,h.get? b=some o->H b=none->b∉fs->b∉ex->h'.get? b=some o
 slot:∀ b o,h.get? b=some o->H b=none->b∈fs->b∉ex->∃ sl,h'.get? b=some { o with slots:=sl }
 free:∀ b o,h.get? b=some o->H b=none->b∉ex->H' b=none
 there:∀ b o,h.get? b=some o->b∉ex->∃ o',h'.get? b=some o'
 tups:∀ b xs,H b=some (.tup xs)->H' b=some (.tup xs)
 frzs:∀ b o u,H b=some (.frz o u)->H' b=some (.frz o u)
 tbls:∀ b ps,H b=some (.tbl ps)->∃ more,H' b=some (.tbl (ps++more))
section
variable {fs fs' ex ex':List Addr} {H H1 H2:Hp} {h h1 h2 h':Heap} {a x e:Addr} {o:HO}
theorem Un.any (u:Un fs ex H H1 h h1) {b:Addr} {ob:Obj} (q:h.get? b=some ob) (n:H b=none) (hx:b∉ex):∃ sl,h1.get? b=some { ob with slots:=sl }:=by
 by_cases hb:b∈fs
 ·exact u.slot b ob q n hb hx
 ·exact ⟨ob.slots,u.keep b ob q n hb hx⟩
theorem Un.kept (k:∀ b u,h.get? b=some u->h'.get? b=some u):Un fs ex H H h h' :=
 ⟨fun b ob q _ _ _=>k b ob q,fun b ob q _ _ _=>⟨ob.slots,k b ob q⟩,fun _ _ _ n _=>n,fun b ob q _=>⟨ob,k b ob q⟩,fun _ _ q=>q,fun _ _ _ q=>q,fun _ ps q=>⟨#[],by rw [q];simp⟩⟩
theorem Un.refl:Un fs ex H H h h:=Un.kept fun _ _ q=>q
theorem Un.laid (k:∀ b u,h.get? b=some u->h'.get? b=some u) (hp:h.objs.size<=a) (hn:H a=none):Un fs ex H (aV H a o) h h' where
 keep:=fun b u q _ _ _=>k b u q
 slot:=fun b u q _ _ _=>⟨u.slots,k b u q⟩
 free:=fun b u q n _=>by rw [cF (Lv (La (K5 q) hp))];exact n
 there:=fun b u q _=>⟨u,k b u q⟩
 tups:=fun b xs q=>by rw [cF (iz q hn)];exact q
 frzs:=fun b u xs q=>by rw [cF (iz q hn)];exact q
 tbls:=fun b ps q=>⟨#[],by rw [cF (iz q hn),q];simp⟩
theorem Un.write (mu:mR (H x)) (he:e=x\/H e=some (.own x)) (k:∀ b u,b≠e->h.get? b=some u->h'.get? b=some u) (heo:∃ u,h'.get? e=some u):Un fs ex H (aV H x o) h h' := by
 have hx:∀ b,H b=none->b≠x:=fun b n z=>by subst z;rw [n] at mu;exact mu
 have hb:∀ b,H b=none->b≠e:=fun b n z=>by
  subst z
  rcases he with r | r
  ·exact hx b n r
  ·rw [n] at r;cases r
 have hm:∀ b u,H b=some u -> ¬ mR (some u)->b≠x:=fun b u q nm z=>by subst z;rw [q] at mu;exact nm mu
 refine ⟨fun b u q n _ _=>k b u (hb b n) q,fun b u q n _ _=>⟨u.slots,k b u (hb b n) q⟩,fun b u q n _=>by rw [cF (hx b n)];exact n,fun b u q _=>?_,
  fun b xs q=>by rw [cF (hm b _ q fun z=>z)];exact q,fun b u xs q=>by rw [cF (hm b _ q fun z=>z)];exact q,fun b ps q=>⟨#[],by rw [cF (hm b _ q fun z=>z),q];simp⟩⟩
 by_cases hbe:b=e
 ·subst hbe;exact heo
 ·exact ⟨u,k b u hbe q⟩
end
def oK (h:Heap) (H:Hp):List Addr:=(List.range h.objs.size).filter fun a=>(H a).isSome
def fz (h:Heap) (H:Hp):Heap:=PySem.W.hideAll h (oK h H)
theorem Be (h:Heap) (H:Hp):(fz h H).objs.size=h.objs.size:=PySem.W.hideAll_size _ _
theorem Bf {h:Heap} {H:Hp} {b:Addr} {o:Obj} (e:h.get? b=some o) (n:H b=none):(fz h H).get? b=some o :=
 NR _ e fun hm=>by
  have q:(H b).isSome=true:=(List.mem_filter.mp hm).2
  rw [n] at q;simp at q
theorem Bg {h:Heap} {H:Hp} {b:Addr} {o:Obj} (e:(fz h H).get? b=some o):h.get? b=some o/\H b=none:=by
 have e':h.get? b=some o:=MU (oK h H) e
 refine ⟨e',?_⟩
 cases q:H b with
 | none=>rfl
 | some x =>
  have hm:b∈oK h H:=List.mem_filter.mpr ⟨NJ.mpr (K5 e'),by simp [q]⟩
  have z:(fz h H).get? b=none:=PySem.W.hideAll_none (oK h H) hm
  rw [z] at e;cases e
end L2
namespace L2
open PySem PySem.Spec PyProof.Rows
structure Mod (K:PySem.W.Frag) (mg:Str->Option Value) (base:Heap):Prop where
 kin:K.In base
 glob:base.Ns mainGlobals mg
 blt:∃ mb,base.Ns builtinsNs mb/\∀ x:Str,x ≠ "__name__" -> mb x=bootBuiltins x
 nolimit:base.NoLimit
structure Cx where
 prog:Program
 w:World
 K:PySem.W.Frag
 mg:Str->Option Value
 base:Heap
 A:Around
 N:List Str
 s₀:Shared
 H₀:Hp
 env:Env
 outer:List Env
 stack:List Env
 ex:List Addr
 fn:Str->Bool
 calm:Bool
 pn:List (Addr×Obj)
 xe:Value->Shared->Prop
def eU (l:List Env):List Addr:=l.filterMap (·.frame)
abbrev Cx.fs (X:Cx):List Addr:=eU X.outer
def mS (sc:Scope) (x:Str):Prop:=sc.names.lookup x=some .local\/sc.names.lookup x=some .cell\/sc.names.lookup x=some .free
def ke (sc:Scope) (x:Str):Prop:=sc.names.lookup x=some .local\/sc.names.lookup x=some .cell
def qP (env:Env) (h:Heap) (m:Str->Option Value) (x:Str) (u:Value):Prop :=
 (env.kindOf x=some .local/\m x=some u)\/((env.kindOf x=some .cell\/env.kindOf x=some .free)/\∃ c,env.cells.lookup x=some c/\h.IsCell c (some u))
structure Cx.Ok (X:Cx):Prop where
 mod:Mod X.K X.mg X.base
 kind:X.env.scope.kind = .function
 glob:X.env.globals=mainGlobals
 blt:X.env.builtins=builtinsNs
 above:X.s₀.heap.objs.size<=X.env.locals
 inj:∀ x y c,X.env.cells.lookup x=some c->X.env.cells.lookup y=some c->x=y
 has:∀ x,(X.env.kindOf x=some .cell\/X.env.kindOf x=some .free)->∃ c,X.env.cells.lookup x=some c
 cab:∀ x c,X.fn x=true->X.env.cells.lookup x=some c->X.s₀.heap.objs.size<=c
 hd:X.calm=true->X.A.handled=none
 frames:X.A.frames=some X.stack
 stk:X.stack=X.outer\/(X.stack=X.env::X.outer/\X.env.frame=some X.env.locals)
 exf:∀ b∈X.ex,b≠X.env.locals/\∀ x c,X.env.cells.lookup x=some c->c≠b
 bs:∀ b o,X.base.get? b=some o->X.s₀.heap.get? b=some o/\X.H₀ b=none
 bsz:X.base.objs.size<=X.s₀.heap.objs.size
 noex:∀ b o,X.base.get? b=some o->b∉X.ex
 exfs:∀ b∈X.ex,b∉X.fs
 funs:X.s₀.heap.FunFrames X.base X.outer
 frf:∀ b∈X.fs,X.H₀ b=none
structure Inv (X:Cx) (pins:List (Addr×Obj)) (σ:List (Option V)) (H:Hp) (s:Shared):Prop where
 ok:X.Ok
 os:s.os=X.s₀.os
 bare:AllBare s.gens
 base:Un X.fs X.ex X.H₀ H X.s₀.heap s.heap
 loc:∃ m,s.heap.Ns X.env.locals m/\∀ (i:Nat) (x:Str) (v:V),X.N[i]? = some x->σ[i]? = some (some v)->mS X.env.scope x->∃ u,RelV v u/\qP X.env s.heap m x u
 cell:∀ x c,X.env.cells.lookup x=some c->∃ v,s.heap.IsCell c v
 free:H X.env.locals=none
 freeC:∀ x c,X.env.cells.lookup x=some c->H c=none
 pin:∀ p∈X.pn++pins,s.heap.get? p.1=some p.2/\H p.1=none/\p.1≠X.env.locals/\p.1∉X.fs/\∀ v,p.2.data ≠ .cell v
 hok:HOk X.prog X.w H s.heap
 len:σ.length=X.N.length
section
variable {X:Cx} {pins:List (Addr×Obj)} {σ:List (Option V)} {H H':Hp} {s:Shared} {h':Heap}
theorem Cx.Ok.nofr (ok:X.Ok) {b:Addr} {o:Obj} (e:X.base.get? b=some o):b∉X.fs:=fun hb=>by
 have:=(ok.funs.mem hb).1
 rw [e] at this;cases this
theorem Inv.bs (I:Inv X pins σ H s):∀ b o,X.base.get? b=some o->s.heap.get? b=some o/\H b=none:=fun b o e =>
 ⟨I.base.keep b o (I.ok.bs b o e).1 (I.ok.bs b o e).2 (I.ok.nofr e) (I.ok.noex b o e),I.base.free b o (I.ok.bs b o e).1 (I.ok.bs b o e).2 (I.ok.noex b o e)⟩
theorem Inv.bk (I:Inv X pins σ H s):∀ b o,X.base.get? b=some o->s.heap.get? b=some o:=fun b o e=>(I.bs b o e).1
theorem Inv.mod (I:Inv X pins σ H s):Mod X.K X.mg X.base:=I.ok.mod
theorem Inv.kIn (I:Inv X pins σ H s):X.K.In s.heap:=I.ok.mod.kin.keeps I.bk
theorem Inv.fr (I:Inv X pins σ H s):∃ m,Fr X.base X.env.locals s.heap m :=
 let ⟨m,hn,_⟩:=I.loc
 ⟨m,hn,I.bk,KN I.ok.bsz I.ok.above⟩
theorem Inv.lt (I:Inv X pins σ H s):X.env.locals<s.heap.objs.size:=let ⟨_,hn,_⟩:=I.loc;hn.lt
theorem Inv.sz (I:Inv X pins σ H s):X.s₀.heap.objs.size<=s.heap.objs.size:=KN I.ok.above (Mf I.lt)
theorem Inv.nofs (I:Inv X pins σ H s) {a:Addr} (h:s.heap.objs.size<=a):a∉X.fs:=fun hb=>by
 obtain ⟨_,o,ho,_⟩:=I.ok.funs.mem hb
 exact absurd (La (K5 ho) (KN I.sz h)) (Md _)
theorem Inv.cne (I:Inv X pins σ H s):∀ x c,X.env.cells.lookup x=some c->c≠X.env.locals:=fun x c e z=>by
 obtain ⟨v,o,ho,hd⟩:=I.cell x c e
 obtain ⟨m,⟨o',es,ep,ho',hd',_⟩,_⟩:=I.loc
 rw [z,ho'] at ho;cases ho;rw [hd'] at hd;cases hd
theorem Inv.funs (I:Inv X pins σ H s):s.heap.FunFrames X.base X.outer:=by
 have all:∀ (l:List Env),(∀ b∈eU l,b∈X.fs)->X.s₀.heap.FunFrames X.base l->s.heap.FunFrames X.base l:=by
  intro l
  induction l with
  | nil=>intro _ _;trivial
  | cons env r ih =>
   intro hs hl
   obtain ⟨hk,⟨L,o,hf,hn,ho,hd⟩,hr⟩:=hl
   have hL:L∈X.fs:=hs L (by unfold eU;rw [Mt,hf];exact KF)
   obtain ⟨sl,e⟩:=I.base.slot L o ho (I.ok.frf L hL) hL fun z=>I.ok.exfs L z hL
   exact ⟨hk,⟨L,_,hf,hn,e,hd⟩,ih (fun b hb=>hs b (by unfold eU;rw [Mt,hf];exact KJ _ hb)) hr⟩
 exact all X.outer (fun _ hb=>hb) I.ok.funs
theorem Inv.stack (I:Inv X pins σ H s):s.heap.FunFrames X.base X.stack:=by
 rcases I.ok.stk with e | ⟨e,hf⟩
 ·rw [e];exact I.funs
 ·rw [e]
  obtain ⟨m,hn,_⟩:=I.loc
  refine .cons (by rw [I.ok.kind];decide) hf hn ?_ I.funs
  exact Heap.get?_none_of_le (KN I.ok.bsz I.ok.above)
theorem Inv.stkSub (I:Inv X pins σ H s):∀ b∈eU X.stack,b∈X.env.locals::X.fs:=fun b hb=>by
 rcases I.ok.stk with e | ⟨e,hf⟩
 ·rw [e] at hb;exact KJ _ hb
 ·rw [e] at hb
  unfold eU at hb
  rw [Mt,hf] at hb
  exact hb
theorem Inv.stkFree (I:Inv X pins σ H s):∀ b∈eU X.stack,H b=none:=fun b hb=>by
 rcases K6.mp (I.stkSub b hb) with e | hb
 ·rw [e];exact I.free
 ·obtain ⟨_,o,ho,_⟩:=I.ok.funs.mem hb
  exact I.base.free b o ho (I.ok.frf b hb) fun z=>I.ok.exfs b z hb
theorem Inv.step {g':Array GenState} {t':Nat} {d':Drawn} {ch:List Addr} (I:Inv X pins σ H s)
  (hch:∀ b∈ch,(b∈X.ex\/X.s₀.heap.objs.size<=b)/\b≠X.env.locals/\(∀ x c,X.env.cells.lookup x=some c->c≠b)/\∀ p∈X.pn++pins,p.1≠b)
  (keep:∀ b o,b≠X.env.locals->b∉X.fs->b∉ch->s.heap.get? b=some o->H b=none->h'.get? b=some o)
  (slot:∀ b o,b≠X.env.locals->b∈X.fs->b∉ch->s.heap.get? b=some o->H b=none->∃ sl,h'.get? b=some { o with slots:=sl }) (free:∀ b o,b∉ch->s.heap.get? b=some o->H b=none->H' b=none)
  (there:∀ b o,b∉ch->s.heap.get? b=some o->∃ o',h'.get? b=some o')
  (tups:∀ b xs,H b=some (.tup xs)->H' b=some (.tup xs)) (frzs:∀ b o u,H b=some (.frz o u)->H' b=some (.frz o u)) (tbls:∀ b ps,H b=some (.tbl ps)->∃ more,H' b=some (.tbl (ps++more)))
  (ns:∀ m,s.heap.Ns X.env.locals m->h'.Ns X.env.locals m) (hok:HOk X.prog X.w H' h') (hg:AllBare g') :
  Inv X pins σ H' { s with heap:=h',gens:=g',drawn:=d',toks:=t' }:=by
 have neL:∀ b o,X.s₀.heap.get? b=some o->b≠X.env.locals:=fun b o e=>Lv (La (K5 e) I.ok.above)
 have neC:∀ b o,X.s₀.heap.get? b=some o->b∉X.ex->b∉ch:=fun b o e hx hb=>by
  rcases (hch b hb).1 with z | z
  ·exact hx z
  ·exact absurd (La (K5 e) z) (Md _)
 have cellK:∀ x c,X.env.cells.lookup x=some c->∀ v,s.heap.IsCell c v->h'.IsCell c v:=fun x c e v ⟨o,ho,hd⟩=>by
  have nch:c∉ch:=fun z=>(hch c z).2.2.1 x c e rfl
  by_cases hc:c∈X.fs
  ·obtain ⟨sl,q⟩:=slot c o (I.cne x c e) hc nch ho (I.freeC x c e)
   exact ⟨_,q,hd⟩
  ·exact ⟨o,keep c o (I.cne x c e) hc nch ho (I.freeC x c e),hd⟩
 refine ⟨I.ok,I.os,hg,⟨fun b o e n hb hx=>?_,fun b o e n hb hx=>?_,fun b o e n hx=>?_,fun b o e hx=>?_,fun b xs e=>tups b xs (I.base.tups b xs e),fun b o xs e=>frzs b o xs (I.base.frzs b o xs e),fun b ps e=>?_⟩,?_,fun x c e=>?_,?_,fun x c e=>?_,fun p hp=>?_,hok,I.len⟩
 ·exact keep b o (neL b o e) hb (neC b o e hx) (I.base.keep b o e n hb hx) (I.base.free b o e n hx)
 ·obtain ⟨sl,e1⟩:=I.base.slot b o e n hb hx
  obtain ⟨sl',e2⟩:=slot b _ (neL b o e) hb (neC b o e hx) e1 (I.base.free b o e n hx)
  exact ⟨sl',e2⟩
 ·obtain ⟨o',e1⟩:=I.base.there b o e hx
  exact free b o' (neC b o e hx) e1 (I.base.free b o e n hx)
 ·obtain ⟨o',e1⟩:=I.base.there b o e hx
  exact there b o' (neC b o e hx) e1
 ·obtain ⟨m1,e1⟩:=I.base.tbls b ps e
  obtain ⟨m2,e2⟩:=tbls b _ e1
  exact ⟨m1++m2,by rw [e2,Array.append_assoc]⟩
 ·obtain ⟨m,hn,hl⟩:=I.loc
  refine ⟨m,ns m hn,fun i x v e1 e2 e3=>?_⟩
  obtain ⟨u,r,l⟩:=hl i x v e1 e2 e3
  refine ⟨u,r,?_⟩
  rcases l with l | ⟨k,c,e,z⟩
  ·exact .inl l
  ·exact .inr ⟨k,c,e,cellK x c e _ z⟩
 ·obtain ⟨v,z⟩:=I.cell x c e
  exact ⟨v,cellK x c e v z⟩
 ·obtain ⟨m,⟨o,_,_,ho,_⟩,_⟩:=I.loc
  exact free _ o (fun z=>(hch _ z).2.1 rfl) ho I.free
 ·obtain ⟨v,o,ho,hd⟩:=I.cell x c e
  exact free c o (fun z=>(hch c z).2.2.1 x c e rfl) ho (I.freeC x c e)
 ·obtain ⟨e,n,ne,nf,d⟩:=I.pin p hp
  have nch:p.1∉ch:=fun z=>(hch p.1 z).2.2.2 p hp rfl
  exact ⟨keep p.1 p.2 ne nf nch e n,free p.1 p.2 nch e n,ne,nf,d⟩
theorem Inv.un {t':Nat} (I:Inv X pins σ H s) (u:Un X.fs [] H H' s.heap h') (hok:HOk X.prog X.w H' h'):Inv X pins σ H' { s with heap:=h',toks:=t' }:=by
 obtain ⟨m,⟨o,es,ep,ho,r⟩,_⟩:=id I.loc
 obtain ⟨sl,hL⟩:=u.any ho I.free (by simp)
 exact I.step (g' := s.gens) (d' := s.drawn) (ch:=[]) (fun _ z=>nomatch z) (fun b o _ hb _ e n=>u.keep b o e n hb (by simp)) (fun b o _ hb _ e n=>u.slot b o e n hb (by simp)) (fun b o _ e n=>u.free b o e n (by simp)) (fun b o _ e=>u.there b o e (by simp)) u.tups u.frzs u.tbls (fun m' hm=>by
  obtain ⟨o',es',ep',ho',r'⟩:=hm
  rw [ho] at ho';cases ho'
  exact ⟨_,es',ep',hL,r'⟩) hok I.bare
theorem Inv.call {g':Array GenState} {t':Nat} {d':Drawn} {ch:List Addr} (I:Inv X pins σ H s) (u:Un (eU X.stack) ch H H' s.heap h') (hok:HOk X.prog X.w H' h') (hg:AllBare g')
  (hch:∀ b∈ch,(b∈X.ex\/X.s₀.heap.objs.size<=b)/\b≠X.env.locals/\(∀ x c,X.env.cells.lookup x=some c->c≠b)/\∀ p∈X.pn++pins,p.1≠b) :
  Inv X pins σ H' { s with heap:=h',gens:=g',drawn:=d',toks:=t' }:=by
 obtain ⟨m,⟨o,es,ep,ho,r⟩,_⟩:=id I.loc
 obtain ⟨sl,hL⟩:=u.any ho I.free fun z=>(hch _ z).2.1 rfl
 exact I.step (ch:=ch) hch (fun b o hL hb hc e n=>u.keep b o e n (fun z=>(K6.mp (I.stkSub b z)).elim hL hb) hc) (fun b o _ _ hc e n=>u.any e n hc) (fun b o hc e n=>u.free b o e n hc) (fun b o hc e=>u.there b o e hc) u.tups u.frzs u.tbls (fun m' hm=>by
  obtain ⟨o',es',ep',ho',r'⟩:=hm
  rw [ho] at ho';cases ho'
  exact ⟨_,es',ep',hL,r'⟩) hok hg
theorem Inv.turned {t':Nat} {it:Addr} (I:Inv X pins σ H s) (k:∀ b o,b≠it->s.heap.get? b=some o->h'.get? b=some o) (hn:H it=none) (hL:it≠X.env.locals)
  (h1:it∈X.ex\/X.s₀.heap.objs.size<=it) (h2:∀ x c,X.env.cells.lookup x=some c->c≠it) (h3:∀ p∈X.pn++pins,p.1≠it):Inv X pins σ H { s with heap:=h',toks:=t' }:=by
 have nit:∀ b u,H b=some u->b≠it:=fun b u e z=>by rw [z,hn] at e;cases e
 refine I.step (g' := s.gens) (d' := s.drawn) (ch:=[it]) (fun b hb=>?_) (fun b o _ _ hc e _=>k b o (fun z=>hc (by simp [z])) e) (fun b o _ _ hc e _=>⟨o.slots,k b o (fun z=>hc (by simp [z])) e⟩) (fun _ _ _ _ n=>n)
  (fun b o hc e=>⟨o,k b o (fun z=>hc (by simp [z])) e⟩) (fun _ _ e=>e) (fun _ _ _ e=>e) (fun b ps e=>⟨#[],by rw [e];simp⟩) (fun m hm=>?_) (fun b u e=>?_) I.bare
 ·have e:b=it:=by simpa using hb
  subst e
  exact ⟨h1,hL,h2,h3⟩
 ·obtain ⟨o,es,ep,ho,r⟩:=hm
  exact ⟨o,es,ep,k _ o (Ne.symm hL) ho,r⟩
 ·refine (I.hok b u e).stay (fun c v hc q=>k c v ?_ q) (fun _ q=>q) fun _ _ q=>q
  rcases hc with z | z
  ·rw [z];exact nit b u e
  ·exact nit c _ z
theorem Inv.tok (I:Inv X pins σ H s) (t:Nat):Inv X pins σ H { s with toks:=t }:=I.un (h' := s.heap) (t' := t) Un.refl I.hok
theorem Inv.kept {t':Nat} (I:Inv X pins σ H s) (k:∀ b u,s.heap.get? b=some u->h'.get? b=some u):Inv X pins σ H { s with heap:=h',toks:=t' }:=I.un (Un.kept k) (I.hok.kept k)
theorem Inv.laid {a:Addr} {o:HO} {t':Nat} (I:Inv X pins σ H s) (k:∀ b u,s.heap.get? b=some u->h'.get? b=some u) (hp:s.heap.objs.size<=a) (new:ObjOk X.prog X.w (aV H a o) h' a o) :
  Inv X pins σ (aV H a o) { s with heap:=h',toks:=t' }:=I.un (Un.laid k hp (I.hok.fresh hp)) (I.hok.laid k hp new)
theorem Inv.write {x e:Addr} {o:HO} {t':Nat} (I:Inv X pins σ H s) (mu:mR (H x)) (he:e=x\/H e=some (.own x)) (k:∀ b u,b≠e->s.heap.get? b=some u->h'.get? b=some u) (heo:∃ u,h'.get? e=some u)
  (new:ObjOk X.prog X.w (aV H x o) h' x o):Inv X pins σ (aV H x o) { s with heap:=h',toks:=t' }:=I.un (Un.write mu he k heo) (I.hok.write mu he k heo new)
theorem Inv.weak {σ':List (Option V)} (I:Inv X pins σ H s) (hl:σ'.length=σ.length) (w:∀ (i:Nat) v,σ'[i]? = some (some v)->σ[i]? = some (some v)):Inv X pins σ' H s :=
 ⟨I.ok,I.os,I.bare,I.base,let ⟨m,hn,hl'⟩:=I.loc;⟨m,hn,fun i x v e1 e2 e3=>hl' i x v e1 (w i v e2) e3⟩,I.cell,I.free,I.freeC,I.pin,I.hok,hl.trans I.len⟩
theorem Inv.pins_of {pins':List (Addr×Obj)} (I:Inv X pins σ H s) (h:∀ p∈pins',s.heap.get? p.1=some p.2/\H p.1=none/\p.1≠X.env.locals/\p.1∉X.fs/\∀ v,p.2.data ≠ .cell v):Inv X pins' σ H s :=
 ⟨I.ok,I.os,I.bare,I.base,I.loc,I.cell,I.free,I.freeC,fun p hp=>(Lp.mp hp).elim (fun z=>I.pin p (Lb _ z)) (h p),I.hok,I.len⟩
theorem qQ {N:List Str} (hN:N.Nodup) {i j:Nat} {x:Str} (a:N[i]? = some x) (b:N[j]? = some x):i=j:=by
 obtain ⟨h1,e1⟩:=Kz.mp a
 obtain ⟨h2,e2⟩:=Kz.mp b
 exact (List.getElem_inj hN).mp (e1.trans e2.symm)
theorem wG {M:Model} {A:Around} {E:Value->Shared->Prop} {i:Nat} {x:Str} {v:V} {u:Value} {Q:Unit->Shared->Prop} (I:Inv X pins σ H s) (hN:X.N.Nodup) (hi:X.N[i]? = some x) (hx:ke X.env.scope x) (r:RelV v u)
  (h:∀ s',Inv X pins (σ.set i (some v)) H s'->(∃ a,Heap.SameBut a s.heap s'.heap/\(a=X.env.locals\/X.env.cells.lookup x=some a))->Q () s') (hf:X.fn x=true\/X.env.scope.names.lookup x=some .local:=by first | exact .inl rfl | exact .inr rfl | assumption):wpAny M A (storeName X.env x u) Q E s:=by
 obtain ⟨m,hn,hl⟩:=id I.loc
 have hcls:(X.env.scope.kind == .class || (X.env.scope.kind == .module && X.env.locals != X.env.globals))=false:=by rw [I.ok.kind];rfl
 have hiσ:i<σ.length:=by rw [I.len];exact (Kz.mp hi).1
 have cne:=I.cne
 have tracked:∀ {a:Addr} {h':Heap},(∃ o,s.heap.get? a=some o/\H a=none)->Heap.SameBut a s.heap h'->HOk X.prog X.w H h' := fun {a h'} ha hs b ob e=>by
  obtain ⟨_,_,hfree⟩:=ha
  refine (I.hok b ob e).stay (fun c w' hc q=>(hs.2 c ?_).trans q) (fun _ q=>q) fun _ _ q=>q
  rintro rfl
  rcases hc with rfl | hc
  ·rw [hfree] at e;cases e
  ·rw [hfree] at hc;cases hc
 rcases hx with hk | hk
 ·refine wpAny_storeName_local hk hn (fun h' hn' hs=>?_) hcls
  obtain ⟨oL,_,_,hoL,_⟩:=id hn
  refine h _ ⟨I.ok,I.os,I.bare,⟨fun b o e n hb hx=>?_,fun b o e n hb hx=>?_,I.base.free,fun b o e hx=>?_,I.base.tups,I.base.frzs,I.base.tbls⟩,⟨_,hn',fun j y v' e1 e2 e3=>?_⟩,fun y c e=>?_,I.free,I.freeC,fun p hp=>?_,tracked ⟨oL,hoL,I.free⟩ hs,by simpa using I.len⟩ ⟨_,hs,.inl rfl⟩
  ·exact (hs.2 b (Lv (La (K5 e) I.ok.above))).trans (I.base.keep b o e n hb hx)
  ·obtain ⟨sl,e1⟩:=I.base.slot b o e n hb hx
   exact ⟨sl,(hs.2 b (Lv (La (K5 e) I.ok.above))).trans e1⟩
  ·obtain ⟨o',e1⟩:=I.base.there b o e hx
   exact ⟨o',(hs.2 b (Lv (La (K5 e) I.ok.above))).trans e1⟩
  ·by_cases hj:j=i
   ·subst hj
    rw [hi] at e1;cases e1
    rw [KG hiσ] at e2
    cases e2
    exact ⟨u,r,.inl ⟨hk,by simp⟩⟩
   ·rw [KM (Ne.symm hj)] at e2
    obtain ⟨u',r',q⟩:=hl j y v' e1 e2 e3
    refine ⟨u',r',?_⟩
    rcases q with ⟨k,e⟩ | ⟨k,c,e,z⟩
    ·refine .inl ⟨k,?_⟩
     have:y≠x:=fun e=>hj (qQ hN e1 (e▸hi))
     simp [this,e]
    ·exact .inr ⟨k,c,e,z.sameBut hs (cne y c e)⟩
  ·obtain ⟨w',z⟩:=I.cell y c e
   exact ⟨w',z.sameBut hs (cne y c e)⟩
  ·obtain ⟨e,n,ne,nf,d⟩:=I.pin p hp
   exact ⟨(hs.2 p.1 ne).trans e,n,ne,nf,d⟩
 ·have hfn:X.fn x=true:=by
   rcases hf with z | z
   ·exact z
   ·rw [z] at hk;cases hk
  obtain ⟨c,hc⟩:=I.ok.has x (.inl hk)
  obtain ⟨w',z⟩:=I.cell x c hc
  refine wpAny_storeName_cell I.ok.kind hk hc z (fun h' hc' hs=>?_)
  obtain ⟨oc,hoc,hocd⟩:=id z
  refine h { s with heap:=h' } ⟨I.ok,I.os,I.bare,⟨fun b o e n hb hx=>?_,fun b o e n hb hx=>?_,I.base.free,fun b o e hx=>?_,I.base.tups,I.base.frzs,I.base.tbls⟩,⟨m,hn.sameBut hs (Ne.symm (cne x c hc)),fun j y v' e1 e2 e3=>?_⟩,fun y c' e=>?_,I.free,I.freeC,fun p hp=>?_,tracked ⟨oc,hoc,I.freeC x c hc⟩ hs,by simpa using I.len⟩ ⟨c,hs,.inr hc⟩
  ·exact (hs.2 b (Lv (La (K5 e) (I.ok.cab x c hfn hc)))).trans (I.base.keep b o e n hb hx)
  ·obtain ⟨sl,e1⟩:=I.base.slot b o e n hb hx
   exact ⟨sl,(hs.2 b (Lv (La (K5 e) (I.ok.cab x c hfn hc)))).trans e1⟩
  ·obtain ⟨o',e1⟩:=I.base.there b o e hx
   exact ⟨o',(hs.2 b (Lv (La (K5 e) (I.ok.cab x c hfn hc)))).trans e1⟩
  ·by_cases hj:j=i
   ·subst hj
    rw [hi] at e1;cases e1
    rw [KG hiσ] at e2
    cases e2
    exact ⟨u,r,.inr ⟨.inl hk,c,hc,hc'⟩⟩
   ·rw [KM (Ne.symm hj)] at e2
    obtain ⟨u',r',q⟩:=hl j y v' e1 e2 e3
    refine ⟨u',r',?_⟩
    rcases q with q | ⟨k,c',e,z'⟩
    ·exact .inl q
    ·refine .inr ⟨k,c',e,z'.sameBut hs ?_⟩
     rintro rfl
     exact hj (qQ hN e1 (I.ok.inj _ _ _ e hc▸hi))
  ·by_cases hcc:c'=c
   ·subst hcc;exact ⟨_,hc'⟩
   ·obtain ⟨w2,z2⟩:=I.cell y c' e
    exact ⟨w2,z2.sameBut hs hcc⟩
  ·obtain ⟨e,n,ne,nf,d⟩:=I.pin p hp
   refine ⟨(hs.2 p.1 ?_).trans e,n,ne,nf,d⟩
   intro q
   rw [q,hoc] at e
   have q':oc=p.2:=Lj e
   exact d w' (by rw [<- q'];exact hocd)
theorem qR {M:Model} {A:Around} {E:Value->Shared->Prop} {i:Nat} {x:Str} {v:V} {u:Value} {Q:Unit->Shared->Prop} (I:Inv X pins σ H s) (hN:X.N.Nodup) (hi:X.N[i]? = some x) (hx:ke X.env.scope x) (r:RelV v u)
  (h:∀ s',Inv X pins (σ.set i (some v)) H s'->Q () s') (hf:X.fn x=true\/X.env.scope.names.lookup x=some .local:=by first | exact .inl rfl | exact .inr rfl | assumption):wpAny M A (storeName X.env x u) Q E s :=
 wG I hN hi hx r (fun s' I' _=>h s' I') hf
theorem Inv.call' {s':Shared} {ch:List Addr} (I:Inv X pins σ H s) (ho:s'.os=s.os) (u:Un (eU X.stack) ch H H' s.heap s'.heap) (hok:HOk X.prog X.w H' s'.heap) (hg:AllBare s'.gens)
  (hch:∀ b∈ch,(b∈X.ex\/X.s₀.heap.objs.size<=b)/\b≠X.env.locals/\(∀ x c,X.env.cells.lookup x=some c->c≠b)/\∀ p∈X.pn++pins,p.1≠b):Inv X pins σ H' s' := by
 obtain ⟨h',g',d',t',o'⟩:=s'
 have e:o'=s.os:=ho
 subst e
 exact I.call (g' := g') (t' := t') (d' := d') u hok hg hch
end
abbrev XK:=Value->Option Addr->Hp->Prop
abbrev St:=List (Option V)
abbrev VK:=V->Hp->Prop
abbrev TE:=St->Hp->VK->Prop
abbrev TT:=St->Hp->(Bool->Hp->Prop)->Prop
abbrev TA:=St->Hp->(List V->Hp->Prop)->Prop
structure fA where
 nx:St->Hp->Prop
 rt:VK
 bk:St->Hp->Prop:=fun _ _=>False
 ct:St->Hp->Prop:=fun _ _=>False
abbrev TS:=fA->St->Hp->Prop
def EP (X:Cx) (pins:List (Addr×Obj)) (σ:St) (Q:VK) (u:Value) (s':Shared):Prop:=∃ v H',Inv X pins σ H' s'/\RelV v u/\Q v H'
def TP (X:Cx) (pins:List (Addr×Obj)) (σ:St) (Q:Bool->Hp->Prop) (b:Bool) (s':Shared):Prop:=∃ H',Inv X pins σ H' s'/\Q b H'
def AP (X:Cx) (pins:List (Addr×Obj)) (σ:St) (Q:List V->Hp->Prop) (us:List Value) (s':Shared):Prop:=∃ vs H',Inv X pins σ H' s'/\Vals vs us/\Q vs H'
def SP (X:Cx) (pins:List (Addr×Obj)) (D:fA) (f:Flow) (s':Shared):Prop :=
 match f with
 | .next=>∃ σ' H',Inv X pins σ' H' s'/\D.nx σ' H'
 | .brk=>∃ σ' H',Inv X pins σ' H' s'/\D.bk σ' H'
 | .cont=>∃ σ' H',Inv X pins σ' H' s'/\D.ct σ' H'
 | .ret u=>∃ v σ' H',Inv X pins σ' H' s'/\RelV v u/\D.rt v H'
def PE (X:Cx) (e:Expr) (t:TE):Prop :=
 ∀ (pins:List (Addr×Obj)) (s:Shared) (σ:St) (H:Hp) (Q:VK),Inv X pins σ H s->t σ H Q->wpAny (model X.prog X.w) X.A (eval e X.env) (EP X pins σ Q) X.xe s
def PT (X:Cx) (e:Expr) (t:TT):Prop :=
 ∀ (pins:List (Addr×Obj)) (s:Shared) (σ:St) (H:Hp) (Q:Bool->Hp->Prop),Inv X pins σ H s->t σ H Q->wpAny (model X.prog X.w) X.A (isTrue e X.env (eval e X.env)) (TP X pins σ Q) X.xe s
def PW (X:Cx) (e:Expr) (t:TT):Prop :=
 ∀ (whole:Sem Value) (pins:List (Addr×Obj)) (s:Shared) (σ:St) (H:Hp) (Q:Bool->Hp->Prop),Inv X pins σ H s->t σ H Q->wpAny (model X.prog X.w) X.A (isTrue e X.env whole) (TP X pins σ Q) X.xe s
theorem PW.pt {X:Cx} {e:Expr} {t:TT} (h:PW X e t):PT X e t:=h _
def PA (X:Cx) (es:List Expr) (t:TA):Prop :=
 ∀ (pos:Pos) (pins:List (Addr×Obj)) (s:Shared) (σ:St) (H:Hp) (Q:List V->Hp->Prop),Inv X pins σ H s->t σ H Q->wpAny (model X.prog X.w) X.A (spliced (backTo pos (starEach es X.env))) (AP X pins σ Q) X.xe s
def PS (X:Cx) (st:Stmt) (t:TS):Prop :=
 ∀ (pins:List (Addr×Obj)) (s:Shared) (σ:St) (H:Hp) (D:fA),Inv X pins σ H s->t D σ H->wpAny (model X.prog X.w) X.A (exec st X.env) (SP X pins D) X.xe s
def g9 (X:Cx) (st:List Stmt) (t:TS):Prop :=
 ∀ (pins:List (Addr×Obj)) (s:Shared) (σ:St) (H:Hp) (D:fA),Inv X pins σ H s->t D σ H->wpAny (model X.prog X.w) X.A (execs st X.env) (SP X pins D) X.xe s
theorem thn {α:Type} {t:Sem α} {Q Q':α->Shared->Prop} {M:Model} {A:Around} {E:Value->Shared->Prop} {s:Shared} (h:wpAny M A t Q E s) (hQ:∀ a s,Q a s->Q' a s):wpAny M A t Q' E s:=LF h hQ fun _ _ x=>x
end L2
namespace L2
open PySem PySem.Spec PyProof.Rows
section
variable {X:Cx}
theorem Kn {a b:Expr} {ta tb:TE} (ha:PE X a ta) (hb:PE X b tb) {pins:List (Addr×Obj)} {s:Shared} {σ:St} {H:Hp} {R:V->V->Hp->Prop} (I:Inv X pins σ H s) (h:ta σ H fun x H1=>tb σ H1 fun y H2=>R x y H2)
  {α:Type} {Q:α->Shared->Prop} {f:Value->Value->Sem α}
  (hf:∀ v u s2 x y H2,Inv X pins σ H2 s2->RelV x v->RelV y u->R x y H2->wpAny (model X.prog X.w) X.A (f v u) Q X.xe s2) :
  wpAny (model X.prog X.w) X.A (eval a X.env) (fun v s₁=>wpAny (model X.prog X.w) X.A (eval b X.env) (fun u s₂=>wpAny (model X.prog X.w) X.A (f v u) Q X.xe s₂) X.xe s₁) X.xe s:=by
 refine thn (ha pins s σ H _ I h) fun v s1 ⟨x,H1,I1,r1,q1⟩=>?_
 refine thn (hb pins s1 σ H1 _ I1 q1) fun u s2 ⟨y,H2,I2,r2,q2⟩=>?_
 exact hf v u s2 x y H2 I2 r1 r2 q2
def mT (i:Nat):TE:=fun σ H Q=>∃ v,σ[i]? = some (some v)/\Q v H
def tC (v:V):TE:=fun _ H Q=>Q v H
theorem Bh {i:Nat} {x:Str} {pos:Pos} (hN:X.N[i]? = some x) (hv:mS X.env.scope x) (hd:(x == ("__debug__" : Str))=false:=by decide) (hcd:(x == ("__classdict__" : Str))=false:=by decide):PE X (.Name x pos) (mT i):=by
 intro pins s σ H Q I h
 obtain ⟨v,e,h⟩:=h
 obtain ⟨m,hn,hl⟩:=I.loc
 obtain ⟨u,r,l⟩:=hl i x v hN e hv
 have fin:EP X pins σ Q u s:=⟨v,H,I,r,h⟩
 rcases l with ⟨hk,hm⟩ | ⟨hk,c,hc,hcell⟩
 ·exact Ou (wpAny_loadName_local I.ok.kind hk hn hm fin) hd
 ·rcases hk with hk | hk
  ·exact Ou (wpAny_loadName_cell I.ok.kind hk hc hcell fin) hd
  ·exact Ou (wpAny_loadName_free I.ok.kind hk hc hcell fin hcd) hd
theorem Bi {i j pos}:PE X (.Constant (.int i) j pos) (tC (.int i)):=fun _ _ _ H _ I h=>wpAny_Constant_int ⟨.int i,H,I.tok _,⟨_,rfl⟩,h⟩
theorem Bj {b j pos}:PE X (.Constant (.bool b) j pos) (tC (.bl b)):=fun _ _ _ H _ I h=>Constant_bool ⟨.bl b,H,I,rfl,h⟩
theorem Bk {j pos}:PE X (.Constant .none j pos) (tC .non):=fun _ _ _ H _ I h=>Constant_none ⟨.non,H,I,rfl,h⟩
theorem Bl {x j pos}:PE X (.Constant (.str x) j pos) (tC (.str x)):=fun _ _ _ H _ I h=>Calls.Constant_str ⟨.str x,H,I.tok _,⟨_,rfl⟩,h⟩
def Gl (X:Cx) (x:Str):Prop:=X.env.kindOf x=some .globalImplicit
theorem oM {E:Value->Shared->Prop} {pins:List (Addr×Obj)} {s:Shared} {σ:St} {H:Hp} {x:Str} {u:Value} {pos:Pos} {Q:Value->Shared->Prop} (I:Inv X pins σ H s) (hg:Gl X x) (hm:X.mg x=some u) (h:Q u s)
  (hd:(x == ("__debug__" : Str))=false:=by decide):wpAny (model X.prog X.w) X.A (eval (.Name x pos) X.env) Q E s :=
 MV I.ok.kind hg (Calls.loadGlobal_global (by rw [I.ok.glob];exact I.mod.glob.keeps I.bk) hm h) hd
theorem mf {E:Value->Shared->Prop} {pins:List (Addr×Obj)} {s:Shared} {σ:St} {H:Hp} {x:Str} {u:Value} {pos:Pos} {Q:Value->Shared->Prop} (I:Inv X pins σ H s) (hg:Gl X x) (hm:X.mg x=none) (hv:bootBuiltins x=some u) (h:Q u s)
  (hn:x ≠ "__name__" := by decide) (hd:(x == ("__debug__" : Str))=false:=by decide):wpAny (model X.prog X.w) X.A (eval (.Name x pos) X.env) Q E s:=by
 obtain ⟨mb,h1,h2⟩:=I.mod.blt
 exact MV I.ok.kind hg (Calls.loadGlobal_builtin (by rw [I.ok.glob];exact I.mod.glob.keeps I.bk) hm (by rw [I.ok.blt];exact h1.keeps I.bk) ((h2 x hn).trans hv) h) hd
theorem Bm {x:Str} {v:V} {u:Value} {pos:Pos} (hg:Gl X x) (hm:X.mg x=some u) (r:RelV v u) (hd:(x == ("__debug__" : Str))=false:=by decide):PE X (.Name x pos) (tC v) :=
 fun _ _ _ H _ I h=>oM I hg hm ⟨v,H,I,r,h⟩ hd
theorem Bn {x:Str} {v:V} {u:Value} {pos:Pos} (hg:Gl X x) (hm:X.mg x=none) (hv:bootBuiltins x=some u) (r:RelV v u) (hn:x ≠ "__name__" := by decide) (hd:(x == ("__debug__" : Str))=false:=by decide):PE X (.Name x pos) (tC v) :=
 fun _ _ _ H _ I h=>mf I hg hm hv ⟨v,H,I,r,h⟩ hn hd
variable {a b:Expr} {ta tb:TE} {pos:Pos}
variable {tA tB':TT} {rest:List Expr}
def qS (t u:TT):TT:=fun σ H Q=>t σ H fun c H1=>if c=true then u σ H1 Q else Q false H1
def Bo (t u:TT):TT:=fun σ H Q=>t σ H fun c H1=>if c=true then Q true H1 else u σ H1 Q
def qT (t:TT):TT:=fun σ H Q=>t σ H fun c H1=>Q (!c) H1
theorem Bp (ha:PT X a tA):PW X (.BoolOp .And [a] pos) tA:=by
 intro wh pins s σ H Q I h
 refine isTrue_and (thn (ha pins s σ H Q I h) fun c s1 e=>?_)
 cases c with
 | true=>exact isTrue_and_nil e
 | false=>exact e
theorem Bq (ha:PT X a tA):PW X (.BoolOp .Or [a] pos) tA:=by
 intro wh pins s σ H Q I h
 refine isTrue_or (thn (ha pins s σ H Q I h) fun c s1 e=>?_)
 cases c with
 | false=>exact isTrue_or_nil e
 | true=>exact e
theorem Br (ha:PT X a tA) (hb:PW X (.BoolOp .And (b::rest) pos) tB'):PW X (.BoolOp .And (a::b::rest) pos) (qS tA tB'):=by
 intro wh pins s σ H Q I h
 refine isTrue_and (thn (ha pins s σ H _ I h) fun c s1 ⟨H1,I1,q1⟩=>?_)
 cases c with
 | true=>exact hb wh pins s1 σ H1 Q I1 q1
 | false=>exact ⟨H1,I1,q1⟩
theorem Bs (ha:PT X a tA) (hb:PW X (.BoolOp .Or (b::rest) pos) tB'):PW X (.BoolOp .Or (a::b::rest) pos) (Bo tA tB'):=by
 intro wh pins s σ H Q I h
 refine isTrue_or (thn (ha pins s σ H _ I h) fun c s1 ⟨H1,I1,q1⟩=>?_)
 cases c with
 | true=>exact ⟨H1,I1,q1⟩
 | false=>exact hb wh pins s1 σ H1 Q I1 q1
theorem Bt (ha:PT X a tA):PT X (.UnaryOp .Not a pos) (qT tA):=by
 intro pins s σ H Q I h
 exact isTrue_not (ha pins s σ H (fun c H1=>Q (!c) H1) I h)
def Bu (ta tb:TE):TE:=fun σ H Q=>ta σ H fun x H1=>∃ c,x = .bl c/\if c=true then tb σ H1 Q else Q (.bl false) H1
def qU (ta tb:TE):TE:=fun σ H Q=>ta σ H fun x H1=>∃ c,x = .bl c/\if c=true then Q (.bl true) H1 else tb σ H1 Q
def Bv (ta:TE):TE:=fun σ H Q=>ta σ H fun x H1=>∃ c,x = .bl c/\Q (.bl (!c)) H1
theorem Bw {op} {t:TE} (h:PE X a t):PE X (.BoolOp op [a] pos) t:=fun pins s σ H Q I hw=>BoolOp_one (h pins s σ H Q I hw)
theorem Bx (ha:PE X a ta) (hb:PE X (.BoolOp .And (b::rest) pos) tb):PE X (.BoolOp .And (a::b::rest) pos) (Bu ta tb):=by
 intro pins s σ H Q I h
 refine BoolOp_and (thn (ha pins s σ H _ I h) fun v s1 ⟨x,H1,I1,r1,q1⟩=>?_)
 obtain ⟨c,rfl,q1⟩:=q1
 cases r1
 refine LP ?_
 cases c with
 | true=>exact hb pins s1 σ H1 Q I1 q1
 | false=>exact ⟨.bl false,H1,I1,rfl,q1⟩
theorem By (ha:PE X a ta) (hb:PE X (.BoolOp .Or (b::rest) pos) tb):PE X (.BoolOp .Or (a::b::rest) pos) (qU ta tb):=by
 intro pins s σ H Q I h
 refine BoolOp_or (thn (ha pins s σ H _ I h) fun v s1 ⟨x,H1,I1,r1,q1⟩=>?_)
 obtain ⟨c,rfl,q1⟩:=q1
 cases r1
 refine LP ?_
 cases c with
 | false=>exact hb pins s1 σ H1 Q I1 q1
 | true=>exact ⟨.bl true,H1,I1,rfl,q1⟩
theorem Bz (ha:PE X a ta):PE X (.UnaryOp .Not a pos) (Bv ta):=by
 intro pins s σ H Q I h
 refine UnaryOp_ (thn (ha pins s σ H _ I h) fun v s1 ⟨x,H1,I1,r1,q1⟩=>?_)
 obtain ⟨c,rfl,q1⟩:=q1
 cases r1
 exact not_of (LP ⟨.bl (!c),H1,I1,rfl,q1⟩)
def BB (t:TT) (ta tb:TE):TE:=fun σ H Q=>t σ H fun c H1=>if c=true then ta σ H1 Q else tb σ H1 Q
theorem BC {c:Expr} (hc:PT X c tA) (ha:PE X a ta) (hb:PE X b tb):PE X (.IfExp c a b pos) (BB tA ta tb):=by
 intro pins s σ H Q I h
 refine wpAny_IfExp (thn (hc pins s σ H _ I h) fun d s1 ⟨H1,I1,q1⟩=>?_)
 cases d with
 | true=>exact ha pins s1 σ H1 Q I1 q1
 | false=>exact hb pins s1 σ H1 Q I1 q1
end
end L2
namespace L2
open PySem PySem.Spec PyProof.Rows
def SqL (K:PySem.W.Frag) (H:Hp) (a:Addr) (xs:List V):Prop :=
 Rd H a (.lst xs) \/
  ∃ (o:Obj) (its:Array Value) (n:Nat),K.lookup a=some o/\o.cls = .type "list" /\ o.dict=none/\o.data = .seq its n/\its.size<=sizeLine/\Vals xs its.toList
def SqT (K:PySem.W.Frag) (H:Hp) (a:Addr) (xs:List V):Prop :=
 Rd H a (.tup xs) \/
  ∃ (o:Obj) (its:Array Value) (n:Nat),K.lookup a=some o/\o.cls = .type "tuple" /\ o.data = .seq its n/\its.size<=sizeLine/\Vals xs its.toList
def qV:Value->Option V
 | .none=>some .non
 | .bool b=>some (.bl b)
 | .int i _=>some (.int i)
 | .str x _=>some (.str x)
 | .bytes b _=>some (.byt b)
 | .float b _=>some (.flt b)
 | .ref a=>some (.ref a)
 | .type n=>some (.ty n)
 | _=>none
theorem RelV.abs {x:V} {u:Value} (r:RelV x u):qV u=some x:=by
 cases x with
 | non=>cases r;rfl
 | bl _=>cases r;rfl
 | int _=>obtain ⟨t,rfl⟩:=r;rfl
 | str _=>obtain ⟨t,rfl⟩:=r;rfl
 | byt _=>obtain ⟨t,rfl⟩:=r;rfl
 | flt _=>obtain ⟨t,rfl⟩:=r;rfl
 | ref _=>cases r;rfl
 | ty _=>cases r;rfl
theorem RelV.inj {x y:V} {u:Value} (r:RelV x u) (q:RelV y u):x=y:=Lj (r.abs.symm.trans q.abs)
theorem Vals.inj:∀ {xs ys:List V} {us:List Value},Vals xs us->Vals ys us->xs=ys
 | _,_,_,.nil,.nil=>rfl
 | _,_,_,.cons r t,.cons r' t' => by rw [r.inj r',Vals.inj t t']
section
variable {X:Cx} {pins:List (Addr×Obj)} {σ:St} {H:Hp} {s:Shared} {a:Addr} {xs ys:List V}
theorem SqL.of {K:PySem.W.Frag} (h:H a=some (.lst xs)):SqL K H a xs:=.inl (.inl h)
theorem SqT.of {K:PySem.W.Frag} (h:H a=some (.tup xs)):SqT K H a xs:=.inl (.inl h)
theorem Inv.list (I:Inv X pins σ H s) (h:SqL X.K H a xs):∃ its:List Value,Vals xs its/\PlainL s.heap a its.toArray/\xs.length<=sizeLine:=by
 rcases h with h | ⟨o,its,n,hk,hc,hd,hs,hz,r⟩
 ·obtain ⟨z,its,n,r,e⟩:=h.ok I.hok
  exact ⟨its,r,⟨_,n,e,rfl,rfl,rfl⟩,z⟩
 ·refine ⟨its.toList,r,⟨o,n,I.kIn a o hk,hc,hd,by simpa using hs⟩,?_⟩
  have e:=r.length
  simp only [LO] at e
  lia
theorem Inv.tuple (I:Inv X pins σ H s) (h:SqT X.K H a xs):∃ its:List Value,Vals xs its/\IsTup s.heap a its.toArray/\xs.length<=sizeLine:=by
 rcases h with h | ⟨o,its,n,hk,hc,hs,hz,r⟩
 ·obtain ⟨z,its,r,p⟩:=h.ok I.hok
  exact ⟨its,r,p,z⟩
 ·refine ⟨its.toList,r,⟨o,I.kIn a o hk,hc,n,by simpa using hs⟩,?_⟩
  have e:=r.length
  simp only [LO] at e
  lia
theorem Inv.list_inj (I:Inv X pins σ H s) (h:SqL X.K H a xs) (h':SqL X.K H a ys):xs=ys:=by
 obtain ⟨its,r,⟨o,n,e,_,_,d⟩,_⟩:=I.list h
 obtain ⟨its',r',⟨o',n',e',_,_,d'⟩,_⟩:=I.list h'
 rw [e] at e';cases e'
 rw [d] at d'
 injection d' with d1 _
 have:its=its' := by simpa using congrArg Array.toList d1
 subst this
 exact r.inj r'
theorem Inv.tuple_inj (I:Inv X pins σ H s) (h:SqT X.K H a xs) (h':SqT X.K H a ys):xs=ys:=by
 obtain ⟨its,r,⟨o,e,_,n,d⟩,_⟩:=I.tuple h
 obtain ⟨its',r',⟨o',e',_,n',d'⟩,_⟩:=I.tuple h'
 rw [e] at e';cases e'
 rw [d] at d'
 injection d' with d1 _
 have:its=its' := by simpa using congrArg Array.toList d1
 subst this
 exact r.inj r'
end
abbrev Cx.wish (X:Cx) (E:Value->Shared->Prop):Cx:={ X with xe:=E }
abbrev Cx.nox (X:Cx):Cx:=X.wish fun _ _=>False
theorem Cx.Ok.wish {X:Cx} (ok:X.Ok) (E:Value->Shared->Prop):(X.wish E).Ok :=
 ⟨ok.mod,ok.kind,ok.glob,ok.blt,ok.above,ok.inj,ok.has,ok.cab,ok.hd,ok.frames,ok.stk,ok.exf,ok.bs,ok.bsz,ok.noex,ok.exfs,ok.funs,ok.frf⟩
theorem Cx.Ok.unwish {X:Cx} {E:Value->Shared->Prop} (ok:(X.wish E).Ok):X.Ok :=
 ⟨ok.mod,ok.kind,ok.glob,ok.blt,ok.above,ok.inj,ok.has,ok.cab,ok.hd,ok.frames,ok.stk,ok.exf,ok.bs,ok.bsz,ok.noex,ok.exfs,ok.funs,ok.frf⟩
section
variable {X:Cx} {pins:List (Addr×Obj)} {σ:St} {H:Hp} {s:Shared} {E:Value->Shared->Prop}
theorem Inv.wish (I:Inv X pins σ H s) (E:Value->Shared->Prop):Inv (X.wish E) pins σ H s:=⟨I.ok.wish E,I.os,I.bare,I.base,I.loc,I.cell,I.free,I.freeC,I.pin,I.hok,I.len⟩
theorem Inv.unwish (I:Inv (X.wish E) pins σ H s):Inv X pins σ H s:=⟨I.ok.unwish,I.os,I.bare,I.base,I.loc,I.cell,I.free,I.freeC,I.pin,I.hok,I.len⟩
theorem SP.unwish {D:fA} {f:Flow} {s':Shared} (h:SP (X.wish E) pins D f s'):SP X pins D f s' := by
 cases f with
 | next=>obtain ⟨σ',H',I,q⟩:=h;exact ⟨σ',H',I.unwish,q⟩
 | brk=>obtain ⟨σ',H',I,q⟩:=h;exact ⟨σ',H',I.unwish,q⟩
 | cont=>obtain ⟨σ',H',I,q⟩:=h;exact ⟨σ',H',I.unwish,q⟩
 | ret u=>obtain ⟨v,σ',H',I,r,q⟩:=h;exact ⟨v,σ',H',I.unwish,r,q⟩
end
section
variable {X:Cx} {st:Stmt} {rest:List Stmt} {t u:TS} {e:Expr} {te:TE} {pos:Pos}
def BD:TS:=fun D σ H=>D.nx σ H
def qW (t u:TS):TS:=fun D σ H=>t { D with nx:=u D } σ H
theorem BE:g9 X [] BD:=fun _ _ σ H _ I h=>MP ⟨σ,H,I,h⟩
theorem BF (h1:PS X st t) (h2:g9 X rest u):g9 X (st::rest) (qW t u):=by
 intro pins s σ H D I h
 refine wpAny_execs_cons (thn (h1 pins s σ H { D with nx:=u D } I h) fun f s1 q=>?_)
 cases f with
 | next =>
  obtain ⟨σ',H',I',q⟩:=q
  exact h2 pins s1 σ' H' D I' q
 | ret v=>exact q
 | brk=>exact q
 | cont=>exact q
theorem BG (h1:PS X st t):g9 X [st] t:=by
 intro pins s σ H D I h
 refine wpAny_execs_cons (thn (h1 pins s σ H D I h) fun f s1 q=>?_)
 cases f with
 | next=>exact MP q
 | ret v=>exact q
 | brk=>exact q
 | cont=>exact q
def BH:TS:=fun D σ H=>D.bk σ H
theorem BI:PS X (.Break pos) BH:=fun _ _ σ H _ I h=>wpAny_Break ⟨σ,H,I,h⟩
theorem Inv.quiet {pins:List (Addr×Obj)} {σ:St} {H:Hp} {s:Shared} (I:Inv X pins σ H s):interactive X.env=false:=by simp [interactive,I.ok.kind]
def BJ (te:TE):TS:=fun D σ H=>te σ H fun _ H1=>D.nx σ H1
theorem BK (he:PE X e te) (hs:swapsWith e none pos.line X.env=pure false:=by rfl):PS X (.Expr e pos) (BJ te):=by
 intro pins s σ H D I h
 exact wpAny_Expr_any (thn (he pins s σ H _ I h) fun v s1 ⟨x,H1,I1,r1,q1⟩=>⟨σ,H1,I1,q1⟩) I.quiet hs
def qX (te:TE):TS:=fun D σ H=>te σ H D.rt
theorem BM (he:PE X e te):PS X (.Return (some e) pos) (qX te):=by
 intro pins s σ H D I h
 exact wpAny_Return_some (thn (he pins s σ H _ I h) fun v s1 ⟨x,H1,I1,r1,q1⟩=>⟨x,σ,H1,I1,r1,q1⟩)
def qY (c:TT) (t u:TS):TS:=fun D σ H=>c σ H fun b H1=>if b=true then t D σ H1 else u D σ H1
theorem BN {c:Expr} {a b:List Stmt} {tc:TT} (hc:PT X c tc) (ha:g9 X a t) (hb:g9 X b u):PS X (.If c a b pos) (qY tc t u):=by
 intro pins s σ H D I h
 refine wpAny_If (thn (hc pins s σ H _ I h) fun d s1 ⟨H1,I1,q1⟩=>?_)
 cases d with
 | true=>exact ha pins s1 σ H1 D I1 q1
 | false=>exact hb pins s1 σ H1 D I1 q1
end
abbrev TG:=V->St->Hp->(St->Hp->Prop)->Prop
abbrev kf:=List V->St->Hp->(St->Hp->Prop)->Prop
def PG (X:Cx) (target:Expr) (t:TG):Prop :=
 ∀ (pins:List (Addr×Obj)) (s:Shared) (σ:St) (H:Hp) (v:V) (u:Value) (Q:St->Hp->Prop),Inv X pins σ H s->RelV v u->t v σ H Q ->
  wpAny (model X.prog X.w) X.A (assign target X.env u) (fun _ s' => ∃ σ' H',Inv X pins σ' H' s'/\Q σ' H') X.xe s
def kL (X:Cx) (ts:List Expr) (t:kf):Prop :=
 ∀ (pins:List (Addr×Obj)) (s:Shared) (σ:St) (H:Hp) (vs:List V) (us:List Value) (Q:St->Hp->Prop),Inv X pins σ H s->Vals vs us->t vs σ H Q ->
  wpAny (model X.prog X.w) X.A (assignInOrder ((assignEach ts X.env).map (·.2)) us) (fun _ s' => ∃ σ' H',Inv X pins σ' H' s'/\Q σ' H') X.xe s
abbrev kM:=V->V->V->Hp->(Hp->Prop)->Prop
def mU (X:Cx) (t:kM):Prop :=
 ∀ (pins:List (Addr×Obj)) (s:Shared) (σ:St) (H:Hp) (o i v:V) (ov iv u:Value) (Q:Hp->Prop),Inv X pins σ H s->RelV o ov->RelV i iv->RelV v u->t o i v H Q ->
  wpAny (model X.prog X.w) X.A (setItem ov iv u) (fun _ s' => ∃ H',Inv X pins σ H' s'/\Q H') X.xe s
section
variable {X:Cx} {pos:Pos}
def oN (i:Nat):TG:=fun v σ H Q=>Q (σ.set i (some v)) H
theorem wH {i:Nat} {x:Str} (hN:X.N.Nodup) (hi:X.N[i]? = some x) (hx:ke X.env.scope x) (hf:X.fn x=true\/X.env.scope.names.lookup x=some .local:=by first | exact .inl rfl | exact .inr rfl | assumption):PG X (.Name x pos) (oN i):=by
 intro pins s σ H v u Q I r h
 exact M6 (qR I hN hi hx r (fun s' I' => ⟨_,H,I',h⟩) hf)
def qZ:kf:=fun vs σ H Q=>vs=[]/\Q σ H
def BO (t:TG) (u:kf):kf:=fun vs σ H Q=>∃ v r,vs=v::r/\t v σ H fun σ' H' => u r σ' H' Q
theorem BP:kL X [] qZ:=by
 intro pins s σ H vs us Q I r h
 obtain ⟨e,h⟩:=h
 subst e
 cases r
 exact assignInOrder_nil ⟨σ,H,I,h⟩
theorem BQ {e:Expr} {es:List Expr} {t:TG} {u:kf} (h1:PG X e t) (h2:kL X es u)
  (hs:(assignEach (e::es) X.env).map (·.2)=assign e X.env::(assignEach es X.env).map (·.2):=by rfl):kL X (e::es) (BO t u):=by
 intro pins s σ H vs us Q I r h
 obtain ⟨v,vr,e1,h⟩:=h
 subst e1
 cases r with
 | cons r rr =>
  rw [hs]
  refine assignInOrder_cons (thn (h1 pins s σ H _ _ _ I r h) fun _ s1 ⟨σ1,H1,I1,q1⟩=>?_)
  exact h2 pins s1 σ1 H1 _ _ Q I1 rr q1
def rf (K:PySem.W.Frag) (n:Nat) (t:kf):TG:=fun v σ H Q=>∃ a xs,v = .ref a/\SqT K H a xs/\xs.length=n/\t xs σ H Q
theorem BR {es:List Expr} {k:Nat} {t:kf} {n:Nat} (hc:X.calm=true) (h:kL X es t)
  (hn:(assignEach es X.env).length=n:=by rfl) (hst:(assignEach es X.env).findIdx? (·.1)=none:=by rfl):PG X (.Tuple es k pos) (rf X.K n t):=by
 intro pins s σ H v u Q I r hw
 obtain ⟨a,xs,e1,hq,hl,hw⟩:=hw
 subst e1
 cases r
 obtain ⟨its,rv,ht,hz⟩:=I.tuple hq
 refine assign_Tuple_tuple (I.ok.hd hc) ht (by simp [hn,<- hl,rv.length]) hst fun h' hx=>?_
 have I1:Inv X pins σ H { s with heap:=h' }:=I.kept (t' := s.toks) fun b o e=>hx b o (Lv (K5 e)) e
 exact h pins _ σ H xs _ Q I1 (by simpa using rv) hw
def rg (to ti:TE) (t:kM):TG:=fun v σ H Q=>to σ H fun o H1=>ti σ H1 fun i H2=>t o i v H2 fun H3=>Q σ H3
theorem BS {o i:Expr} {to ti:TE} {t:kM} (ho:PE X o to) (hi:PE X i ti) (hs:mU X t)
  (ha:∀ v,assign (.Subscript o i pos) X.env v=(do
   let ov <- holding [v] (eval o X.env)
   let iv <- holding [v,ov] (eval i X.env)
   standAt pos
   holding [v,ov,iv] (setItem ov iv v)
   release [v,ov,iv] []):=by intro _;rfl):PG X (.Subscript o i pos) (rg to ti t):=by
 intro pins s σ H v u Q I r h
 rw [ha]
 refine K0 (Nc (thn (ho pins s σ H _ I h) fun ov s1 ⟨x,H1,I1,r1,q1⟩=>?_))
 refine K0 (Nc (thn (hi pins s1 σ H1 _ I1 q1) fun iv s2 ⟨y,H2,I2,r2,q2⟩=>?_))
 refine K0 (NX (K0 (Nc (thn (hs pins s2 σ H2 x y v ov iv u _ I2 r1 r2 r q2) fun _ s3 ⟨H3,I3,q3⟩=>?_))))
 exact wpAny_release ⟨σ,H3,I3,q3⟩
def jy (te:TE) (g:TG):TS:=fun D σ H=>te σ H fun x H1=>g x σ H1 D.nx
theorem BU {tg e:Expr} {te:TE} {g:TG} (he:PE X e te) (hg:PG X tg g) (hs:swapsWithSole [tg] e pos.line X.env=pure false:=by rfl) (hw:swappedStores [tg] e X.env=pure none:=by rfl)
  (h1:(assignEach [tg] X.env).map (·.2)=[assign tg X.env]:=by rfl):PS X (.Assign [tg] e pos) (jy te g):=by
 intro pins s σ H D I h
 refine wpAny_Assign_stores (thn (he pins s σ H _ I h) fun v s1 ⟨x,H1,I1,r1,q1⟩=>?_) hs hw
 rw [h1]
 exact thn (hg pins s1 σ H1 x v _ I1 r1 q1) fun _ s2 q=>q
theorem BV {i:Nat} {x:Str} {e:Expr} {te:TE} {pos':Pos} (hN:X.N.Nodup) (hi:X.N[i]? = some x) (hx:ke X.env.scope x) (he:PE X e te) (hs:swapsWith e (some (.Name x pos')) pos.line X.env=pure false:=by rfl) (hf:X.fn x=true\/X.env.scope.names.lookup x=some .local:=by first | exact .inl rfl | exact .inr rfl | assumption) :
  PS X (.Assign [.Name x pos'] e pos) (jy te (oN i)):=by
 intro pins s σ H D I h
 refine wpAny_Assign_Name (thn (he pins s σ H _ I h) fun v s1 ⟨y,H1,I1,r1,q1⟩=>?_) hs
 exact qR I1 hN hi hx r1 (fun s2 I2=>⟨_,H1,I2,q1⟩) hf
end
section
variable {X:Cx} {pos:Pos}
def BW (c:TT) (tb:TS):TS:=fun D σ H=>∃ W:Nat->St->Hp->Prop,(∃ m,W m σ H)/\∀ m σ H,W m σ H ->
 c σ H fun b H1=>if b=true then ∃ N:St->Hp->Prop,(∀ σ' H',N σ' H'->∃ m',m'<m/\W m' σ' H')/\tb { D with nx:=N,ct:=N,bk:=D.nx } σ H1 else D.nx σ H1
theorem BX {c:Expr} {body:List Stmt} {tc:TT} {tb:TS} (hp:PassesOwn (model X.prog X.w) X.A X.env X.xe) (hc:PT X c tc) (hb:g9 X body tb):PS X (.While c body [] pos) (BW tc tb):=by
 intro pins s σ H D I h
 obtain ⟨W,⟨m0,w0⟩,turn⟩:=h
 refine wpAny_While (codeAny_whileLoop (fun n s' => ∃ σ' H',Inv X pins σ' H' s'/\W n σ' H') ?_ m0 ⟨σ,H,I,w0⟩)
 rintro n s1 ⟨σ1,H1,I1,w1⟩
 refine L8 hp (thn (hc pins s1 σ1 H1 _ I1 (turn n σ1 H1 w1)) fun b s2 ⟨H2,I2,q2⟩=>?_)
 cases b with
 | true =>
  obtain ⟨N,hN,q2⟩:=q2
  rw [KS rfl]
  refine L8 hp (thn (hb pins s2 σ1 H2 _ I2 q2) fun f s3 q3=>?_)
  cases f with
  | next =>
   obtain ⟨σ3,H3,I3,n3⟩:=q3
   obtain ⟨m',hm,w3⟩:=hN σ3 H3 n3
   exact ⟨m',hm,σ3,H3,I3,w3⟩
  | cont =>
   obtain ⟨σ3,H3,I3,n3⟩:=q3
   obtain ⟨m',hm,w3⟩:=hN σ3 H3 n3
   exact ⟨m',hm,σ3,H3,I3,w3⟩
  | brk=>exact q3
  | ret v=>exact q3
 | false =>
  rw [KW K9]
  exact MP ⟨σ1,H2,I2,q2⟩
end
structure It where
 go:Nat->Hp->Prop
 yld:Nat->Hp->V->Hp->Prop
 stop:Nat->Hp->Prop
def d6 (X:Cx) (pins:List (Addr×Obj)) (H:Hp) (b:Addr):Prop :=
 H b=none/\b≠X.env.locals/\b∉X.fs/\(b∈X.ex\/X.s₀.heap.objs.size<=b)/\(∀ x c,X.env.cells.lookup x=some c->c≠b)/\∀ p∈X.pn++pins,p.1≠b
theorem Inv.fpOk {X:Cx} {pins:List (Addr×Obj)} {σ:St} {H H':Hp} {s:Shared} {b:Addr} (I:Inv X pins σ H s) (hb:s.heap.objs.size<=b) (hn:H' b=none):d6 X pins H' b:=by
 refine ⟨hn,Nat.ne_of_gt (La I.lt hb),I.nofs hb,.inr (KN I.sz hb),fun x c e z=>?_,fun p hp z=>?_⟩
 ·obtain ⟨v,q⟩:=I.cell x c e
  exact absurd (La q.lt (by rw [z];exact hb)) (Md _)
 ·exact absurd (La (K5 (I.pin p hp).1) (by rw [z];exact hb)) (Md _)
structure gE (P:Program) (w:World) (K:PySem.W.Frag) (tg:Expr) (J:It) (fp:List Addr) (it:Addr) (tn:Nat->Heap->Prop):Prop where
 mem:it∈fp
 obj:∀ i h,tn i h->∀ b∈fp,∃ o,h.get? b=some o/\∀ v,o.data ≠ .cell v
 keep:∀ i h h',tn i h->(∀ b∈fp,∀ o,h.get? b=some o->h'.get? b=some o)->tn i h'
 item:∀ (X:Cx),X.prog=P->X.w=w->X.K=K->X.calm=true->∀ (i:Nat) (pins:List (Addr×Obj)) (s:Shared) (σ:St) (H:Hp) (E:Value->Shared->Prop),Inv X pins σ H s->(∀ b∈fp,d6 X pins H b)->tn i s.heap->J.go i H ->
  wpAny (model P w) X.A (pyNext (.ref it)) (fun r s1=>∃ u,r=some u /\
   wpAny (model P w) X.A (letOwnedTupleGo tg (.ref it) u) (fun _ s2=>∃ x H',Inv X pins σ H' s2/\RelV x u/\J.yld i H x H'/\tn (i+1) s2.heap/\∀ b∈fp,H' b=none) E s1) E s
 done:∀ (X:Cx),X.prog=P->X.w=w->X.K=K->X.calm=true->∀ (i:Nat) (pins:List (Addr×Obj)) (s:Shared) (σ:St) (H:Hp) (E:Value->Shared->Prop),Inv X pins σ H s->(∀ b∈fp,d6 X pins H b)->tn i s.heap->J.stop i H ->
  wpAny (model P w) X.A (pyNext (.ref it)) (fun r s1=>r=none/\Inv X pins σ H s1) E s
 self:∀ (A:Around) (i:Nat) (s:Shared) (Q:Value->Shared->Prop) (E:Value->Shared->Prop),tn i s.heap->Q (.ref it) s->wpAny (model P w) A (pyIter (.ref it)) Q E s
abbrev TI:=St->Hp->(It->Hp->Prop)->Prop
def rh (X:Cx) (pins:List (Addr×Obj)) (σ:St) (tg:Expr) (R:It->Hp->Prop) (itv:Value) (s2:Shared):Prop :=
 ∃ (it:Addr) (fp:List Addr) (tn:Nat->Heap->Prop) (J:It) (H':Hp),itv = .ref it/\Inv X pins σ H' s2/\gE X.prog X.w X.K tg J fp it tn/\tn 0 s2.heap/\(∀ b∈fp,d6 X pins H' b)/\R J H'
def PI (X:Cx) (tg iter:Expr) (wi:TI):Prop :=
 ∀ (pins:List (Addr×Obj)) (s:Shared) (σ:St) (H:Hp) (R:It->Hp->Prop),Inv X pins σ H s->wi σ H R ->
  wpAny (model X.prog X.w) X.A (eval iter X.env) (fun v s1=>wpAny (model X.prog X.w) X.A (pyIter v) (rh X pins σ tg R) X.xe s1) X.xe s
theorem oO {M:Model} {A:Around} {E:Value->Shared->Prop} {s:Shared} {tg:Expr} {it:Addr} {u:Value} {o:Obj} {n:String} {vs:Array Value} {Q:Unit->Shared->Prop} (ho:s.heap.get? it=some o) (hc:o.cls = .type n) (hd:o.data = .fields vs)
  (hn:["enumerate", "zip", "dict_itemiterator", "dict_reverseitemiterator", "odict_iterator", "itertools.zip_longest", "itertools.pairwise"].contains n=false) (hQ:Q () s):wpAny M A (letOwnedTupleGo tg (.ref it) u) Q E s:=by
 unfold letOwnedTupleGo
 cases tg<;>first
  | exact Le hQ
  | (cases u<;>first
    | exact Le hQ
    | (refine K0 (wpAny_load ho ?_)
       rw [hc,hd]
       show wpAny M A (if (["enumerate", "zip", "dict_itemiterator", "dict_reverseitemiterator", "odict_iterator", "itertools.zip_longest", "itertools.pairwise"].contains n && vs[0]? == some (rawInt _))=true then _ else _) Q E s
       rw [KW (by intro h;rw [hn,Bool.false_and] at h;cases h)]
       exact Le hQ))
def oP (K:PySem.W.Frag) (a:Addr):It :=
 ⟨fun i H=>∃ xs x,SqL K H a xs/\xs[i]? = some x,fun i H x H' => H'=H/\∀ xs,SqL K H a xs->xs[i]? = some x,fun i H=>∃ xs,SqL K H a xs/\xs.length<=i⟩
def rj (K:PySem.W.Frag) (a:Addr):It :=
 ⟨fun i H=>∃ xs x,SqT K H a xs/\xs[i]? = some x,fun i H x H' => H'=H/\∀ xs,SqT K H a xs->xs[i]? = some x,fun i H=>∃ xs,SqT K H a xs/\xs.length<=i⟩
def oQ (lo:Int) (n:Nat):It:=⟨fun i _=>i<n,fun i H x H' => H'=H/\x = .int (lo+i),fun i _=>n<=i⟩
theorem BY {P:Program} {w:World} {K:PySem.W.Frag} {tg:Expr} (a it:Addr):gE P w K tg (oP K a) [it] it (fun i h=>h.IsListIter it a i) where
 mem:=by simp
 obj:=fun i h st b hb=>by
  have e:b=it:=by simpa using hb
  subst e
  obtain ⟨o,e,c,d⟩:=st
  exact ⟨o,e,fun v z=>by rw [d] at z;cases z⟩
 keep:=fun i h h' st k=>st.at fun o e=>k it (by simp) o e
 item:=by
  intro X hP hw hK hc i pins s σ H E I hf st hg
  subst hP hw hK
  obtain ⟨xs,x,hq,hx⟩:=hg
  obtain ⟨its,rv,p,hz⟩:=I.list hq
  obtain ⟨u,hu,ru⟩:=rv.get hx
  obtain ⟨f0,f1,f2,f3,f4,f5⟩:=hf it (by simp)
  refine wpAny_pyNext_list_item st p.isList (x:=u) (by simpa using hu) fun h' st' sb=>?_
  have I1:Inv X pins σ H { s with heap:=h' }:=I.turned (t' := s.toks) (fun b o hb e=>(sb.2 b hb).trans e) f0 f1 f3 f4 f5
  obtain ⟨o,e,c,d⟩:=id st'
  exact ⟨u,rfl,oO (s:={ s with heap:=h' }) e c d (by decide) ⟨x,H,I1,ru,⟨rfl,fun ys hy=>by rw [I.list_inj hy hq];exact hx⟩,st',fun b hb=>(hf b hb).1⟩⟩
 done:=by
  intro X hP hw hK hc i pins s σ H E I hf st hg
  subst hP hw hK
  obtain ⟨xs,hq,hx⟩:=hg
  obtain ⟨its,rv,p,hz⟩:=I.list hq
  obtain ⟨f0,f1,f2,f3,f4,f5⟩:=hf it (by simp)
  have hl:=rv.length
  exact wpAny_pyNext_list_end (I.ok.hd hc) st p.isList (by simp;lia) fun h' eb=>⟨rfl,I.turned (t' := s.toks) (fun b o hb e=>eb b o hb e) f0 f1 f3 f4 f5⟩
 self:=fun _ _ _ _ _ st h=>wpAny_pyIter_listiter st h
theorem BZ {P:Program} {w:World} {K:PySem.W.Frag} {tg:Expr} (a it:Addr):gE P w K tg (rj K a) [it] it (fun i h=>h.IsTupleIter it a i) where
 mem:=by simp
 obj:=fun i h st b hb=>by
  have e:b=it:=by simpa using hb
  subst e
  obtain ⟨o,e,c,d⟩:=st
  exact ⟨o,e,fun v z=>by rw [d] at z;cases z⟩
 keep:=fun i h h' st k=>st.at fun o e=>k it (by simp) o e
 item:=by
  intro X hP hw hK hc i pins s σ H E I hf st hg
  subst hP hw hK
  obtain ⟨xs,x,hq,hx⟩:=hg
  obtain ⟨its,rv,p,hz⟩:=I.tuple hq
  obtain ⟨u,hu,ru⟩:=rv.get hx
  obtain ⟨f0,f1,f2,f3,f4,f5⟩:=hf it (by simp)
  refine wpAny_pyNext_tuple_item st (show s.heap.IsTuple a its.toArray from p) (x:=u) (by simpa using hu) fun h' st' sb=>?_
  have I1:Inv X pins σ H { s with heap:=h' }:=I.turned (t' := s.toks) (fun b o hb e=>(sb.2 b hb).trans e) f0 f1 f3 f4 f5
  obtain ⟨o,e,c,d⟩:=id st'
  exact ⟨u,rfl,oO (s:={ s with heap:=h' }) e c d (by decide) ⟨x,H,I1,ru,⟨rfl,fun ys hy=>by rw [I.tuple_inj hy hq];exact hx⟩,st',fun b hb=>(hf b hb).1⟩⟩
 done:=by
  intro X hP hw hK hc i pins s σ H E I hf st hg
  subst hP hw hK
  obtain ⟨xs,hq,hx⟩:=hg
  obtain ⟨its,rv,p,hz⟩:=I.tuple hq
  obtain ⟨f0,f1,f2,f3,f4,f5⟩:=hf it (by simp)
  have hl:=rv.length
  exact wpAny_pyNext_tuple_end (I.ok.hd hc) st (show s.heap.IsTuple a its.toArray from p) (by simp;lia) fun h' eb=>⟨rfl,I.turned (t' := s.toks) (fun b o hb e=>eb b o hb e) f0 f1 f3 f4 f5⟩
 self:=fun _ _ _ _ _ st h=>wpAny_pyIter_tupleiter st h
theorem B3 {P:Program} {w:World} {K:PySem.W.Frag} {tg:Expr} (it:Addr) (lo:Int) (n:Nat):gE P w K tg (oQ lo n) [it] it (fun i h=>IsRangeIter h it (lo+(i:Nat)*1) ((n:Int)-(i:Nat)) 1) where
 mem:=by simp
 obj:=fun i h st b hb=>by
  have e:b=it:=by simpa using hb
  subst e
  exact ⟨_,st,fun v z=>by
   have z':Data.fields _=Data.cell v:=z
   cases z'⟩
 keep:=fun i h h' st k=>k it (by simp) _ st
 item:=by
  intro X hP hw hK hc i pins s σ H E I hf st hg
  subst hP hw hK
  obtain ⟨f0,f1,f2,f3,f4,f5⟩:=hf it (by simp)
  have W:=Walks.range (prog:=X.prog) (w:=X.w) (I.ok.hd hc) it lo 1 n
  refine W.item i s _ _ hg st fun v h' tk hv st' kk=>?_
  obtain ⟨t,rfl⟩:=hv
  have I1:Inv X pins σ H { s with heap:=h',toks:=tk }:=I.turned (fun b o hb e=>kk b o (by simpa using hb) e) f0 f1 f3 f4 f5
  refine ⟨_,rfl,oO (s:={ s with heap:=h',toks:=tk }) (n := "range_iterator") st' rfl rfl (by decide) ⟨.int (lo+i),H,I1,⟨t,?_⟩,⟨rfl,rfl⟩,st',fun b hb=>(hf b hb).1⟩⟩
  rw [Int.mul_one]
 done:=by
  intro X hP hw hK hc i pins s σ H E I hf st hg
  subst hP hw hK
  obtain ⟨f0,f1,f2,f3,f4,f5⟩:=hf it (by simp)
  exact Nv (I.ok.hd hc) st (by have:n<=i:=hg;lia) fun h' eb=>⟨rfl,I.turned (t' := s.toks) (fun b o hb e=>eb b o hb e) f0 f1 f3 f4 f5⟩
 self:=fun _ _ _ _ _ st h=>Nw st h
end L2
namespace L2
open PySem PySem.Spec PyProof.Rows
section
variable {X:Cx} {tg:Expr}
def wI (K:PySem.W.Frag) (tl:TE):TI:=fun σ H R=>tl σ H fun x H1=>∃ a,x = .ref a/\(∃ xs,SqL K H1 a xs)/\R (oP K a) H1
def mV (K:PySem.W.Frag) (tl:TE):TI:=fun σ H R=>tl σ H fun x H1=>∃ a,x = .ref a/\(∃ xs,SqT K H1 a xs)/\R (rj K a) H1
theorem B4 {l:Expr} {tl:TE} (hl:PE X l tl):PI X tg l (wI X.K tl):=by
 intro pins s σ H R I h
 refine thn (hl pins s σ H _ I h) fun v s1 ⟨x,H1,I1,r1,q1⟩=>?_
 obtain ⟨a,e,⟨xs,hq⟩,q⟩:=q1
 subst e
 cases r1
 obtain ⟨its,rv,p,hz⟩:=I1.list hq
 refine M7 p.isList ?_
 refine ⟨s1.heap.objs.size,[s1.heap.objs.size],_,_,H1,rfl,I1.kept (t' := s1.toks) fun b o e=>KU _ e,BY a _,⟨_,Li _ rfl,rfl,rfl⟩,fun b hb=>?_,q⟩
 have e:b=s1.heap.objs.size:=by simpa using hb
 subst e
 exact I1.fpOk (KC _) (I1.hok.fresh (KC _))
theorem B5 {l:Expr} {tl:TE} (hl:PE X l tl):PI X tg l (mV X.K tl):=by
 intro pins s σ H R I h
 refine thn (hl pins s σ H _ I h) fun v s1 ⟨x,H1,I1,r1,q1⟩=>?_
 obtain ⟨a,e,⟨xs,hq⟩,q⟩:=q1
 subst e
 cases r1
 obtain ⟨its,rv,p,hz⟩:=I1.tuple hq
 refine wpAny_pyIter_tuple (show s1.heap.IsTuple a its.toArray from p) ?_
 refine ⟨s1.heap.objs.size,[s1.heap.objs.size],_,_,H1,rfl,I1.kept (t' := s1.toks) fun b o e=>KU _ e,BZ a _,⟨_,Li _ rfl,rfl,rfl⟩,fun b hb=>?_,q⟩
 have e:b=s1.heap.objs.size:=by simpa using hb
 subst e
 exact I1.fpOk (KC _) (I1.hok.fresh (KC _))
theorem B6 {pins:List (Addr×Obj)} {σ:St} {H:Hp} {s:Shared} {R:It->Hp->Prop} {E:Value->Shared->Prop} {lo hi:Int} {t u v:Tok} {tk:Nat} (I:Inv X pins σ H s) (h1 : -(2 ^ 62)<=lo) (h2:lo<2 ^ 62) (h3 : -(2 ^ 62)<=hi) (h4:hi<2 ^ 62)
  (q:R (oQ lo (hi-lo).toNat) H):wpAny (model X.prog X.w) X.A (pyIter (.ref s.heap.objs.size)) (rh X pins σ tg R) E { s with heap:=s.heap.push { cls:=.type "range",data:=.fields #[.int lo t,.int hi u,.int 1 v] },toks:=tk }:=by
 refine N8 (IsRange.new ..) (small_one h1 h2 h3 h4) ?_
 have I1:Inv X pins σ H { s with heap:=s.heap.push { cls:=.type "range",data:=.fields #[.int lo t,.int hi u,.int 1 v] },toks:=tk }:=I.kept fun b o e=>KU _ e
 refine ⟨(s.heap.push { cls:=.type "range",data:=.fields #[.int lo t,.int hi u,.int 1 v] }).objs.size,[(s.heap.push { cls:=.type "range",data:=.fields #[.int lo t,.int hi u,.int 1 v] }).objs.size],_,_,H,rfl,
  I1.kept (t' := tk) fun b o e=>KU _ e,B3 _ lo (hi-lo).toNat,?_,fun b hb=>?_,q⟩
 ·have e1:lo+((0:Nat):Int)*1=lo:=by simp
  have e2:(((hi-lo).toNat:Nat):Int)-((0:Nat):Int)=Builtin.Range.rangeSize lo hi 1:=by rw [rangeSize_one];split<;>lia
  show IsRangeIter _ _ (lo+((0:Nat):Int)*1) ((((hi-lo).toNat:Nat):Int)-((0:Nat):Int)) 1
  rw [e1,e2]
  exact Li _ rfl
 ·have e:b=(s.heap.push { cls:=.type "range",data:=.fields #[.int lo t,.int hi u,.int 1 v] }).objs.size:=by simpa using hb
  subst e
  exact I1.fpOk (KC _) (I1.hok.fresh (KC _))
def B7 (ta:TA):TI:=fun σ H R=>ta σ H fun vs H1=>∃ j:Int,vs=[.int j] /\ -(2 ^ 62)<=j/\j<2 ^ 62/\R (oQ 0 j.toNat) H1
theorem B8 {a:Expr} {ta:TA} {p pos:Pos} (hg:Gl X "range") (hm:X.mg "range" = none) (ha:PA X [a] ta) (hs:starEach [a] X.env=[(false,eval a X.env)]:=by rfl):PI X tg (.Call (.Name "range" p) [a] [] pos) (B7 ta):=by
 intro pins s σ H R I h
 refine Call_ (mf I hg hm boot_range (LZ (thn (ha pos pins s σ H _ I h) fun us s1 ⟨vs,H1,I1,r1,q1⟩=>?_) hs rfl))
 obtain ⟨j,e,q1,q2,q⟩:=q1
 subst e
 cases r1 with
 | cons r rr =>
  cases rr
  obtain ⟨t,rfl⟩:=r
  exact call_range_1 (B6 I1 (by lia) (by lia) q1 q2 (by simpa using q))
def rk (wi:TI) (g:TG) (tb:TS):TS:=fun D σ H=>wi σ H fun J H1=>∃ W:Nat->Nat->St->Hp->Prop,(∃ m,W 0 m σ H1)/\∀ i m σ H,W i m σ H ->
 (J.stop i H/\D.nx σ H)\/(J.go i H/\∃ N:St->Hp->Prop,(∀ σ' H',N σ' H'->∃ m',m'<m/\W (i+1) m' σ' H')/\∀ x H',J.yld i H x H'->g x σ H' fun σ2 H2=>tb { D with nx:=N,ct:=N,bk:=D.nx } σ2 H2)
def jz (fp:List Addr) (h:Heap):List (Addr×Obj):=fp.filterMap fun b=>(h.get? b).map fun o=>(b,o)
theorem oR {fp:List Addr} {h:Heap} {b:Addr} {o:Obj} (hb:b∈fp) (e:h.get? b=some o):(b,o)∈jz fp h:=MW.mpr ⟨b,hb,by rw [e];rfl⟩
theorem B9 {fp:List Addr} {h:Heap} {p:Addr×Obj} (hp:p∈jz fp h):p.1∈fp/\h.get? p.1=some p.2:=by
 obtain ⟨b,hb,e⟩:=MW.mp hp
 cases q:h.get? b with
 | none=>rw [q] at e;cases e
 | some o =>
  rw [q] at e
  have e':(b,o)=p:=Lj e
  subst e'
  exact ⟨hb,q⟩
theorem Inv.pinned {pins:List (Addr×Obj)} {σ:St} {H:Hp} {s:Shared} {fp:List Addr} (I:Inv X pins σ H s) (hf:∀ b∈fp,d6 X pins H b) (ho:∀ b∈fp,∃ o,s.heap.get? b=some o/\∀ v,o.data ≠ .cell v):Inv X (pins++jz fp s.heap) σ H s :=
 I.pins_of fun p hp=>(Lp.mp hp).elim (fun z=>I.pin p (K8 _ z)) fun z=>by
  obtain ⟨hb,e⟩:=B9 z
  obtain ⟨f0,f1,f2,_⟩:=hf p.1 hb
  obtain ⟨o,e',d⟩:=ho p.1 hb
  rw [e] at e';cases e'
  exact ⟨e,f0,f1,f2,d⟩
theorem Inv.unpinned {pins pl:List (Addr×Obj)} {σ:St} {H:Hp} {s:Shared} (I:Inv X (pins++pl) σ H s):Inv X pins σ H s:=I.pins_of fun p hp=>I.pin p (K8 _ (Lb _ hp))
theorem Cb {iter:Expr} {body:List Stmt} {wi:TI} {g:TG} {tb:TS} {pos:Pos} (hp:PassesOwn (model X.prog X.w) X.A X.env X.xe) (hc:X.calm=true) (hi:PI X tg iter wi) (hg:PG X tg g) (hb:g9 X body tb)
  (hs:∀ x,foldedSetIterable iter X.env x=pure x:=by intro _;rfl):PS X (.For tg iter body [] pos) (rk wi g tb):=by
 intro pins s σ H D I h
 refine wpAny_For (thn (hi pins s σ H _ I h) fun v s1 h1=>thn h1 fun itv s2 h2=>?_) hs
 obtain ⟨it,fp,tn,J,H2,e,I2,T,st2,f2,W,⟨m0,w0⟩,turn⟩:=h2
 subst e
 have stat:∀ {H':Hp},(∀ b∈fp,H' b=none)->∀ b∈fp,d6 X pins H' b:=fun hn b hb=>⟨hn b hb,(f2 b hb).2⟩
 refine codeAny_forLoop_any (fun n s' => ∃ i σ' H',Inv X pins σ' H' s'/\tn i s'.heap/\(∀ b∈fp,H' b=none)/\W i n σ' H') ?_ m0 ⟨0,σ,H2,I2,st2,fun b hb=>(f2 b hb).1,w0⟩
 rintro n s3 ⟨i,σ3,H3,I3,st3,fr3,w3⟩
 rcases turn i n σ3 H3 w3 with ⟨stop,qn⟩ | ⟨go,N,hN,step⟩
 ·refine L8 hp (thn (T.done X rfl rfl rfl hc i pins s3 σ3 H3 X.xe I3 (stat fr3) st3 stop) fun r s4 ⟨hr,I4⟩=>?_)
  subst hr
  exact MP ⟨σ3,H3,I4,qn⟩
 ·refine L8 hp (thn (T.item X rfl rfl rfl hc i pins s3 σ3 H3 X.xe I3 (stat fr3) st3 go) fun r s4 ⟨u,hr,h4⟩=>?_)
  subst hr
  refine L8 hp (thn h4 fun _ s5 ⟨x,H5,I5,r5,y5,st5,fr5⟩=>?_)
  have I5' := I5.pinned (stat fr5) (T.obj _ _ st5)
  refine L8 hp (thn (hg _ s5 σ3 H5 x u _ I5' r5 (step x H5 y5)) fun _ s6 ⟨σ6,H6,I6,q6⟩=>?_)
  refine L8 hp (thn (hb _ s6 σ6 H6 _ I6 q6) fun f s7 q7=>?_)
  have again:∀ {σ7:St} {H7:Hp},Inv X (pins++jz fp s5.heap) σ7 H7 s7->N σ7 H7->∃ m,m<n/\∃ i σ' H',Inv X pins σ' H' s7/\tn i s7.heap/\(∀ b∈fp,H' b=none)/\W i m σ' H' := fun {σ7 H7} I7 n7=>by
   obtain ⟨m',hm,w7⟩:=hN σ7 H7 n7
   refine ⟨m',hm,i+1,σ7,H7,I7.unpinned,T.keep _ _ _ st5 fun b hb o e=>(I7.pin (b,o) (K8 _ (K8 _ (oR hb e)))).1,fun b hb=>?_,w7⟩
   obtain ⟨o,e,d⟩:=T.obj _ _ st5 b hb
   exact (I7.pin (b,o) (K8 _ (K8 _ (oR hb e)))).2.1
  cases f with
  | next=>obtain ⟨σ7,H7,I7,n7⟩:=q7;exact again I7 n7
  | cont=>obtain ⟨σ7,H7,I7,n7⟩:=q7;exact again I7 n7
  | brk=>obtain ⟨σ7,H7,I7,q7⟩:=q7;exact ⟨σ7,H7,I7.unpinned,q7⟩
  | ret v=>obtain ⟨x7,σ7,H7,I7,r7,q7⟩:=q7;exact ⟨x7,σ7,H7,I7.unpinned,r7,q7⟩
end
end L2
namespace L2
open PySem PySem.Spec PyProof.Rows
abbrev R2:=V->V->Hp->VK->Prop
def OpR (X:Cx) (f:Value->Value->Sem Value) (r:R2):Prop :=
 ∀ (pins:List (Addr×Obj)) (s:Shared) (σ:St) (H:Hp) (x y:V) (v u:Value) (Q:VK),Inv X pins σ H s->RelV x v->RelV y u->r x y H Q ->
  wpAny (model X.prog X.w) X.A (f v u) (EP X pins σ Q) X.xe s
def rm (X:Cx) (f:Value->Sem Value) (r:V->Hp->VK->Prop):Prop :=
 ∀ (pins:List (Addr×Obj)) (s:Shared) (σ:St) (H:Hp) (x:V) (v:Value) (Q:VK),Inv X pins σ H s->RelV x v->r x H Q ->
  wpAny (model X.prog X.w) X.A (f v) (EP X pins σ Q) X.xe s
def CallR (X:Cx) (f:Value) (r:List V->Hp->VK->Prop):Prop :=
 ∀ (pins:List (Addr×Obj)) (s:Shared) (σ:St) (H:Hp) (xs:List V) (us:List Value) (Q:VK),Inv X pins σ H s->Vals xs us->r xs H Q ->
  wpAny (model X.prog X.w) X.A (call f us) (EP X pins σ Q) X.xe s
def rn (X:Cx) (r:V->Hp->(Bool->Hp->Prop)->Prop):Prop :=
 ∀ (pins:List (Addr×Obj)) (s:Shared) (σ:St) (H:Hp) (x:V) (v:Value) (Q:Bool->Hp->Prop),Inv X pins σ H s->RelV x v->r x H Q ->
  wpAny (model X.prog X.w) X.A (truthy v) (TP X pins σ Q) X.xe s
def mh (r:R2) (ta tb:TE):TE:=fun σ H Q=>ta σ H fun x H1=>tb σ H1 fun y H2=>r x y H2 Q
def Cc (r:V->Hp->VK->Prop) (ta:TE):TE:=fun σ H Q=>ta σ H fun x H1=>r x H1 Q
def rI (C:Int->Int->Prop) (g:Int->Int->V):R2:=fun x y H Q=>∃ i j,x = .int i/\y = .int j/\C i j/\Q (g i j) H
def kg (g:Int->Int->V):R2:=fun x y H Q=>∃ i j,x = .int i/\y = .int j/\Q (g i j) H
def rU (g:Int->V):V->Hp->VK->Prop:=fun x H Q=>∃ i,x = .int i/\Q (g i) H
section
variable {X:Cx} {a b c:Expr} {ta tb tc:TE} {pos:Pos}
theorem kN (ha:PE X a ta) (hb:PE X b tb) {pins:List (Addr×Obj)} {s:Shared} {σ:St} {H:Hp} {R:V->V->Hp->Prop} (I:Inv X pins σ H s)
  (h:ta σ H fun x H1=>tb σ H1 fun y H2=>R x y H2) {Q:Value->Shared->Prop} {f:Value->Value->Sem Value}
  (hf:∀ v u s2 x y H2,Inv X pins σ H2 s2->RelV x v->RelV y u->R x y H2->wpAny (model X.prog X.w) X.A (f v u) Q X.xe s2) :
  wpAny (model X.prog X.w) X.A (eval a X.env) (fun v s₁=>wpAny (model X.prog X.w) X.A (eval b X.env) (fun u s₂=>wpAny (model X.prog X.w) X.A (f v u) Q X.xe s₂) X.xe s₁) X.xe s:=by
 refine thn (ha pins s σ H _ I h) fun v s1 ⟨x,H1,I1,r1,q1⟩=>?_
 refine thn (hb pins s1 σ H1 _ I1 q1) fun u s2 ⟨y,H2,I2,r2,q2⟩=>?_
 exact hf v u s2 x y H2 I2 r1 r2 q2
theorem Cd {op:Operator} {r:R2} (ho:OpR X (binaryOp op) r) (ha:PE X a ta) (hb:PE X b tb):PE X (.BinOp a op b pos) (mh r ta tb):=by
 intro pins s σ H Q I h
 exact wpAny_BinOp (kN ha hb I h fun v u s2 x y H2 I2 rx ry q=>ho pins s2 σ H2 x y v u Q I2 rx ry q)
theorem Ce {op:UnaryOp} {r:V->Hp->VK->Prop} (ho:rm X (unaryOp op) r) (ha:PE X a ta):PE X (.UnaryOp op a pos) (Cc r ta):=by
 intro pins s σ H Q I h
 exact UnaryOp_ (thn (ha pins s σ H _ I h) fun v s1 ⟨x,H1,I1,r1,q1⟩=>ho pins s1 σ H1 x v Q I1 r1 q1)
theorem oS {f:Value->Value->Sem Value} {C:Int->Int->Prop} {g:Int->Int->Int}
  (rule:∀ (i j:Int) (t u:Tok) (s:Shared) (Q:Value->Shared->Prop) (E:Value->Shared->Prop),C i j->Q (.int (g i j) s.toks) { s with toks:=s.toks+1 }->wpAny (model X.prog X.w) X.A (f (.int i t) (.int j u)) Q E s) :
  OpR X f (rI C fun i j=>.int (g i j)):=by
 intro pins s σ H x y v u Q I rx ry h
 obtain ⟨i,j,rfl,rfl,hc,q⟩:=h
 obtain ⟨t,rfl⟩:=rx
 obtain ⟨t',rfl⟩:=ry
 exact rule i j t t' s _ _ hc ⟨.int (g i j),H,I.tok _,⟨_,rfl⟩,q⟩
theorem mW {f:Value->Value->Sem Value} {g:Int->Int->Int}
  (rule:∀ (i j:Int) (t u:Tok) (s:Shared) (Q:Value->Shared->Prop) (E:Value->Shared->Prop),Q (.int (g i j) s.toks) { s with toks:=s.toks+1 }->wpAny (model X.prog X.w) X.A (f (.int i t) (.int j u)) Q E s) :
  OpR X f (kg fun i j=>.int (g i j)):=by
 intro pins s σ H x y v u Q I rx ry h
 obtain ⟨i,j,rfl,rfl,q⟩:=h
 obtain ⟨t,rfl⟩:=rx
 obtain ⟨t',rfl⟩:=ry
 exact rule i j t t' s _ _ ⟨.int (g i j),H,I.tok _,⟨_,rfl⟩,q⟩
theorem jA {f:Value->Value->Sem Value} {g:Int->Int->Bool}
  (rule:∀ (i j:Int) (t u:Tok) (s:Shared) (Q:Value->Shared->Prop) (E:Value->Shared->Prop),Q (.bool (g i j)) s->wpAny (model X.prog X.w) X.A (f (.int i t) (.int j u)) Q E s) :
  OpR X f (kg fun i j=>.bl (g i j)):=by
 intro pins s σ H x y v u Q I rx ry h
 obtain ⟨i,j,rfl,rfl,q⟩:=h
 obtain ⟨t,rfl⟩:=rx
 obtain ⟨t',rfl⟩:=ry
 exact rule i j t t' s _ _ ⟨.bl (g i j),H,I,rfl,q⟩
def rp (i j:Int):Prop:=0<=j/\j<=1000000/\i.natAbs<2 ^ 64
def CMul (i j:Int):Prop:=(-(2 ^ 64)<i/\i<2 ^ 64)\/(-(2 ^ 64)<j/\j<2 ^ 64)
theorem CMul.ok {i j:Int} (h:CMul i j):IntMulOk i j:=by
 rcases h with ⟨h1,h2⟩ | ⟨h1,h2⟩
 ·exact .of_left (intBits_le_64 h1 h2)
 ·exact .of_right (intBits_le_64 h1 h2)
theorem op_add:OpR X (binaryOp .Add) (kg fun i j=>.int (i+j)):=mW fun _ _ _ _ _ _ _ q=>add_int q
theorem Cf:OpR X (binaryOp .Sub) (kg fun i j=>.int (i-j)):=mW fun _ _ _ _ _ _ _ q=>sub_int q
theorem Cg:OpR X (binaryOp .Mod) (rI (fun _ j=>0<j) fun i j=>.int (i % j)):=oS fun i j _ _ _ _ _ hc q=>by
 have h1:(0:Int)<j:=hc
 exact mod_int' (by lia) (by rw [Int.fmod_eq_emod_of_nonneg i (by lia)];exact q)
theorem Cj:OpR X (binaryOp .Pow) (rI rp fun i j=>.int (i ^ j.toNat)):=oS fun _ _ _ _ _ _ _ hc q=>pow_int_small hc.1 hc.2.1 hc.2.2 q
theorem Ck {f:Value->Sem Value} {g:Int->Int}
  (rule:∀ (i:Int) (t:Tok) (s:Shared) (Q:Value->Shared->Prop) (E:Value->Shared->Prop),Q (.int (g i) s.toks) { s with toks:=s.toks+1 }->wpAny (model X.prog X.w) X.A (f (.int i t)) Q E s) :
  rm X f (rU fun i=>.int (g i)):=by
 intro pins s σ H x v Q I rx h
 obtain ⟨i,rfl,q⟩:=h
 obtain ⟨t,rfl⟩:=rx
 exact rule i t s _ _ ⟨.int (g i),H,I.tok _,⟨_,rfl⟩,q⟩
theorem Cm:rm X (unaryOp .USub) (rU fun i=>.int (-i)):=Ck fun _ _ _ _ _ q=>neg_int q
end
def kO:V->V->Bool
 | .non,.non=>true | .non,.int _=>true | .int _,.non=>true | .non,.bl _=>true | .bl _,.non=>true | .non,.str _=>true | .str _,.non=>true
 | .int _,.int _=>true | .bl _,.bl _=>true | .str _,.str _=>true | .byt _,.byt _=>true
 | .int _,.str _=>true | .str _,.int _=>true | .bl _,.str _=>true | .str _,.bl _=>true
 | _,_=>false
def Cn:R2:=fun x y H Q=>kO x y=true/\Q (.bl (decide (x=y))) H
def Co:R2:=fun x y H Q=>kO x y=true/\Q (.bl (!decide (x=y))) H
theorem wJ {i j:Int}:decide (V.int i=V.int j)=(i == j):=by
 rw [LY]
 simp
theorem wK {i j:Bool}:decide (V.bl i=V.bl j)=(i == j):=by
 rw [LY]
 simp
theorem wL {i j:Str}:decide (V.str i=V.str j)=(i == j):=by
 rw [LY]
 simp
theorem wM {i j:Array UInt8}:decide (V.byt i=V.byt j)=(i.toList == j.toList):=by
 rw [LY]
 cases i
 cases j
 simp
section
variable {X:Cx} {a b c:Expr} {ta tb tc:TE} {pos:Pos}
theorem cQ {pins:List (Addr×Obj)} {σ:St} {H:Hp} {s:Shared} {Q:VK} {k k':Bool} (I:Inv X pins σ H s) (q:Q (.bl k) H) (e:k=k'):EP X pins σ Q (.bool k') s:=by
 subst e
 exact ⟨.bl k,H,I,rfl,q⟩
theorem op_eq:OpR X (compareOp .Eq) Cn:=by
 intro pins s σ H x y v u Q I rx ry h
 obtain ⟨hs,q⟩:=h
 cases x with
 | non =>
  cases rx
  cases y with
  | non=>cases ry;exact PySem.EqNone.eq_none_none (cQ I q (by simp))
  | bl j=>cases ry;exact PySem.EqNone.eq_none_bool (cQ I q (by simp))
  | int j=>obtain ⟨t',rfl⟩:=ry;exact PySem.EqNone.eq_none_int (cQ I q (by simp))
  | str j=>obtain ⟨t',rfl⟩:=ry;exact PySem.EqNone.eq_none_str (cQ I q (by simp))
  | _=>exact absurd (show false=true from hs) K9
 | bl i =>
  cases rx
  cases y with
  | non=>cases ry;exact PySem.EqNone.eq_bool_none (cQ I q (by simp))
  | bl j=>cases ry;exact eq_bool (cQ I q wK)
  | str j=>obtain ⟨t',rfl⟩:=ry;exact PySem.EqMixed.eq_bool_str (cQ I q (by simp))
  | _=>exact absurd (show false=true from hs) K9
 | int i =>
  obtain ⟨t,rfl⟩:=rx
  cases y with
  | non=>cases ry;exact PySem.EqNone.eq_int_none (cQ I q (by simp))
  | int j=>obtain ⟨t',rfl⟩:=ry;exact eq_int (cQ I q wJ)
  | str j=>obtain ⟨t',rfl⟩:=ry;exact PySem.EqMixed.eq_int_str (cQ I q (by simp))
  | _=>exact absurd (show false=true from hs) K9
 | str i =>
  obtain ⟨t,rfl⟩:=rx
  cases y with
  | non=>cases ry;exact PySem.EqNone.eq_str_none (cQ I q (by simp))
  | bl j=>cases ry;exact PySem.EqMixed.eq_str_bool (cQ I q (by simp))
  | int j=>obtain ⟨t',rfl⟩:=ry;exact PySem.EqMixed.eq_str_int (cQ I q (by simp))
  | str j=>obtain ⟨t',rfl⟩:=ry;exact eq_str (cQ I q wL)
  | _=>exact absurd (show false=true from hs) K9
 | byt i =>
  obtain ⟨t,rfl⟩:=rx
  cases y with
  | byt j=>obtain ⟨t',rfl⟩:=ry;exact PySem.W.eq_bytes (cQ I q wM)
  | _=>exact absurd (show false=true from hs) K9
 | _=>cases y<;>exact absurd (show false=true from hs) K9
theorem op_ne:OpR X (compareOp .NotEq) Co:=by
 intro pins s σ H x y v u Q I rx ry h
 obtain ⟨hs,q⟩:=h
 cases x with
 | non =>
  cases rx
  cases y with
  | non=>cases ry;exact PySem.EqNone.ne_none_none (cQ I q (by simp))
  | bl j=>cases ry;exact PySem.EqNone.ne_none_bool (cQ I q (by simp))
  | int j=>obtain ⟨t',rfl⟩:=ry;exact PySem.EqNone.ne_none_int (cQ I q (by simp))
  | str j=>obtain ⟨t',rfl⟩:=ry;exact PySem.EqNone.ne_none_str (cQ I q (by simp))
  | _=>exact absurd (show false=true from hs) K9
 | bl i =>
  cases rx
  cases y with
  | non=>cases ry;exact PySem.EqNone.ne_bool_none (cQ I q (by simp))
  | bl j=>cases ry;exact ne_bool (cQ I q (congrArg not wK))
  | str j=>obtain ⟨t',rfl⟩:=ry;exact PySem.EqMixed.ne_bool_str (cQ I q (by simp))
  | _=>exact absurd (show false=true from hs) K9
 | int i =>
  obtain ⟨t,rfl⟩:=rx
  cases y with
  | non=>cases ry;exact PySem.EqNone.ne_int_none (cQ I q (by simp))
  | int j=>obtain ⟨t',rfl⟩:=ry;exact ne_int (cQ I q (congrArg not wJ))
  | str j=>obtain ⟨t',rfl⟩:=ry;exact PySem.EqMixed.ne_int_str (cQ I q (by simp))
  | _=>exact absurd (show false=true from hs) K9
 | str i =>
  obtain ⟨t,rfl⟩:=rx
  cases y with
  | non=>cases ry;exact PySem.EqNone.ne_str_none (cQ I q (by simp))
  | bl j=>cases ry;exact PySem.EqMixed.ne_str_bool (cQ I q (by simp))
  | int j=>obtain ⟨t',rfl⟩:=ry;exact PySem.EqMixed.ne_str_int (cQ I q (by simp))
  | str j=>obtain ⟨t',rfl⟩:=ry;exact ne_str (cQ I q (congrArg not wL))
  | _=>exact absurd (show false=true from hs) K9
 | byt i =>
  obtain ⟨t,rfl⟩:=rx
  cases y with
  | byt j=>obtain ⟨t',rfl⟩:=ry;exact PySem.W.ne_bytes (cQ I q (congrArg not wM))
  | _=>exact absurd (show false=true from hs) K9
 | _=>cases y<;>exact absurd (show false=true from hs) K9
theorem op_lt:OpR X (compareOp .Lt) (kg fun i j=>.bl (decide (i<j))):=jA fun _ _ _ _ _ _ _ q=>lt_int q
theorem op_le:OpR X (compareOp .LtE) (kg fun i j=>.bl (decide (i<=j))):=jA fun _ _ _ _ _ _ _ q=>le_int q
theorem Cp:OpR X (compareOp .Gt) (kg fun i j=>.bl (decide (j<i))):=jA fun _ _ _ _ _ _ _ q=>gt_int q
theorem Cq:OpR X (compareOp .GtE) (kg fun i j=>.bl (decide (j<=i))):=jA fun _ _ _ _ _ _ _ q=>ge_int q
theorem Cr:OpR X (compareOp .Lt) (fun x y H Q=>∃ i j,x = .str i/\y = .str j/\Q (.bl (decide (i.cps.toList<j.cps.toList))) H):=by
 intro pins s σ H x y v u Q I rx ry h
 obtain ⟨i,j,rfl,rfl,q⟩:=h
 obtain ⟨t,rfl⟩:=rx
 obtain ⟨t',rfl⟩:=ry
 exact lt_str (cQ I q rfl)
theorem Ct:OpR X (compareOp .Is) (fun x y H Q=>y = .non/\Q (.bl (decide (x = .non))) H):=by
 intro pins s σ H x y v u Q I rx ry h
 obtain ⟨rfl,q⟩:=h
 cases ry
 refine is_none_gen (cQ I q ?_)
 cases x<;>first
  | (cases rx;rfl)
  | (obtain ⟨t,rfl⟩:=rx;rfl)
theorem Cu:OpR X (compareOp .IsNot) (fun x y H Q=>y = .non/\Q (.bl (!decide (x = .non))) H):=by
 intro pins s σ H x y v u Q I rx ry h
 obtain ⟨rfl,q⟩:=h
 cases ry
 refine isnot_none_gen (cQ I q ?_)
 cases x<;>first
  | (cases rx;rfl)
  | (obtain ⟨t,rfl⟩:=rx;rfl)
theorem OpR.or {f:Value->Value->Sem Value} {r r':R2} (h:OpR X f r) (h':OpR X f r'):OpR X f (fun x y H Q=>r x y H Q\/r' x y H Q):=by
 intro pins s σ H x y v u Q I rx ry q
 rcases q with q | q
 ·exact h pins s σ H x y v u Q I rx ry q
 ·exact h' pins s σ H x y v u Q I rx ry q
theorem aP (b:Expr) {op:CmpOp} (h:op ≠ .In:=by decide) (h2:op ≠ .NotIn:=by decide):behindInMarks op b=false:=by
 have e1:(op == CmpOp.In)=false:=by cases op<;>first | rfl | exact absurd rfl h
 have e2:(op == CmpOp.NotIn)=false:=by cases op<;>first | rfl | exact absurd rfl h2
 cases b<;>simp [behindInMarks,e1,e2]
theorem Cv {op:CmpOp} {r:R2} (ho:OpR X (compareOp op) r) (ha:PE X a ta) (hb:PE X b tb) (hm:behindInMarks op b=false):PE X (.Compare a [op] [b] pos) (mh r ta tb):=by
 intro pins s σ H Q I h
 exact wpAny_Compare1 (kN ha hb I h fun v u s2 x y H2 I2 rx ry q=>ho pins s2 σ H2 x y v u Q I2 rx ry q) hm
def wN (t:TE):TT:=fun σ H Q=>t σ H fun x H' => ∃ k,x = .bl k/\Q k H'
theorem Cw {op:CmpOp} {r:R2} (ho:OpR X (compareOp op) r) (ha:PE X a ta) (hb:PE X b tb) (hm:behindInMarks op b=false):PT X (.Compare a [op] [b] pos) (wN (mh r ta tb)):=by
 intro pins s σ H Q I h
 refine wpAny_isTrue_Compare1 (thn (ha pins s σ H _ I h) fun v s1 ⟨x,H1,I1,r1,q1⟩=>thn (hb pins s1 σ H1 _ I1 q1) fun u s2 ⟨y,H2,I2,r2,q2⟩ =>
  thn (ho pins s2 σ H2 x y v u _ I2 r1 r2 q2) fun c s3 ⟨z,H3,I3,r3,k,e,q3⟩=>?_) hm
 subst e
 cases r3
 exact LP ⟨H3,I3,q3⟩
def rq (r r':R2) (ta tb tc:TE):TE:=fun σ H Q=>ta σ H fun x H1=>tb σ H1 fun y H2=>r x y H2 fun z H3=>∃ k,z = .bl k /\
 (if k=true then tc σ H3 fun w' H4=>r' y w' H4 Q else Q (.bl false) H3)
theorem Cy {op op':CmpOp} {r r':R2} (ho:OpR X (compareOp op) r) (ho':OpR X (compareOp op') r') (ha:PE X a ta) (hb:PE X b tb) (hc:PE X c tc)
  (hm:lastMarks [op,op'] [b,c]=false:=by with_unfolding_all rfl):PE X (.Compare a [op,op'] [b,c] pos) (rq r r' ta tb tc):=by
 intro pins s σ H Q I h
 refine Compare_chain (thn (ha pins s σ H _ I h) fun v s1 ⟨x,H1,I1,r1,q1⟩=>chain_link (thn (hb pins s1 σ H1 _ I1 q1) fun u s2 ⟨y,H2,I2,r2,q2⟩ =>
  thn (ho pins s2 σ H2 x y v u _ I2 r1 r2 q2) fun d s3 ⟨z,H3,I3,r3,k,e,q3⟩=>?_)) hm
 subst e
 cases r3
 refine LP ?_
 cases k with
 | false=>exact ite_ff ⟨.bl false,H3,I3,rfl,q3⟩
 | true=>exact ite_tt (chain_last (thn (hc pins s3 σ H3 _ I3 q3) fun w' s4 ⟨z',H4,I4,r4,q4⟩=>ho' pins s4 σ H4 y z' u w' Q I4 r2 r4 q4))
theorem Cz {op op':CmpOp} {r r':R2} (ho:OpR X (compareOp op) r) (ho':OpR X (compareOp op') r') (ha:PE X a ta) (hb:PE X b tb) (hc:PE X c tc)
  (hm:lastMarks [op,op'] [b,c]=false:=by with_unfolding_all rfl):PT X (.Compare a [op,op'] [b,c] pos) (wN (rq r r' ta tb tc)):=by
 intro pins s σ H Q I h
 refine isTrue_chain (thn (ha pins s σ H _ I h) fun v s1 ⟨x,H1,I1,r1,q1⟩=>test_link (thn (hb pins s1 σ H1 _ I1 q1) fun u s2 ⟨y,H2,I2,r2,q2⟩ =>
  thn (ho pins s2 σ H2 x y v u _ I2 r1 r2 q2) fun d s3 ⟨z,H3,I3,r3,k,e,q3⟩=>?_)) hm
 subst e
 cases r3
 refine LP ?_
 cases k with
 | false =>
  obtain ⟨k',e',q'⟩:=q3
  cases e'
  exact ite_ff ⟨H3,I3,q'⟩
 | true =>
  refine ite_tt (test_last (thn (hc pins s3 σ H3 _ I3 q3) fun w' s4 ⟨z',H4,I4,r4,q4⟩=>thn (ho' pins s4 σ H4 y z' u w' _ I4 r2 r4 q4) fun d' s5 ⟨z2,H5,I5,r5,k2,e2,q5⟩=>?_))
  subst e2
  cases r5
  exact LP ⟨H5,I5,q5⟩
def kP (K:PySem.W.Frag) (x:V) (H:Hp) (k:Bool):Prop :=
 match x with
 | .non=>k=false
 | .bl b=>k=b
 | .int i=>k=(i != 0)
 | .str y=>y.length<=sizeLine/\k=((y.length:Int) != 0)
 | .byt y=>y.size<=sizeLine/\k=((y.size:Int) != 0)
 | .ref p=>(∃ xs,SqL K H p xs/\k = !xs.isEmpty)\/(∃ xs,SqT K H p xs/\k = !xs.isEmpty)\/∃ kvs,H p=some (.dK kvs)/\k = !kvs.isEmpty
 | _=>False
theorem CB {κ:Type} {kvs:List (κ×V)} {vs:List (κ×Value)} (r:KV kvs vs):(!vs.isEmpty) = !kvs.isEmpty:=by
 cases r<;>rfl
theorem wO {xs:List V} {its:List Value} (r:Vals xs its):(!its.toArray.isEmpty) = !xs.isEmpty:=by
 cases r<;>simp
theorem kQ:(sizeLine:Nat)<2 ^ 63:=by rw [sizeLine_eq];decide
theorem CD:rn X (fun x H Q=>∃ k,kP X.K x H k/\Q k H):=by
 intro pins s σ H x v Q I rx h
 obtain ⟨k,e,q⟩:=h
 have hl:=kQ
 have hs:sizeLine=16777216:=sizeLine_eq
 cases x with
 | non =>
  cases rx
  have e':k=false:=e
  subst e'
  exact truthy_none ⟨H,I,q⟩
 | bl b =>
  cases rx
  have e':k=b:=e
  subst e'
  exact LP ⟨H,I,q⟩
 | int i =>
  obtain ⟨t,rfl⟩:=rx
  have e':k=(i != 0):=e
  subst e'
  exact PySem.P.truthy_int ⟨H,I,q⟩
 | str y =>
  obtain ⟨t,rfl⟩:=rx
  obtain ⟨hy,e'⟩:y.length<=sizeLine/\k=((y.length:Int) != 0):=e
  subst e'
  exact PySem.P.truthy_str (by lia) ⟨H,I.tok _,q⟩
 | byt y =>
  obtain ⟨t,rfl⟩:=rx
  obtain ⟨hy,e'⟩:y.size<=sizeLine/\k=((y.size:Int) != 0):=e
  subst e'
  exact PySem.W.truthy_bytes (by lia) ⟨H,I.tok _,q⟩
 | ref p =>
  cases rx
  have e':(∃ xs,SqL X.K H p xs/\k = !xs.isEmpty)\/(∃ xs,SqT X.K H p xs/\k = !xs.isEmpty)\/∃ kvs,H p=some (.dK kvs)/\k = !kvs.isEmpty:=e
  rcases e' with ⟨xs,hx,e'⟩ | ⟨xs,hx,e'⟩ | ⟨kvs,hx,e'⟩
  ·subst e'
   obtain ⟨its,r,pl,hz⟩:=I.list hx
   have hlen:=r.length
   exact wpAny_truthy_list pl.isList (by simp only [KY];lia) ⟨H,I.tok _,by rw [wO r];exact q⟩
  ·subst e'
   obtain ⟨its,r,pl,hz⟩:=I.tuple hx
   have hlen:=r.length
   exact truthy_tuple pl (by simp only [KY];lia) ⟨H,I.tok _,by rw [wO r];exact q⟩
  ·subst e'
   obtain ⟨hz,hS,vs,r,m⟩:kvs.length<=sizeLine/\(p == sysModules)=false/\∃ vs,KV kvs vs/\s.heap.DictOf (gC X.prog X.w) p vs:=I.hok p _ hx
   have hlen:kvs.length=vs.length:=Paired.length r
   exact wpAny_truthy_dict hS m (by lia) ⟨H,I.tok _,by rw [CB r];exact q⟩
 | _=>exact (show False from e).elim
theorem CH (ha:PE X a ta) (he:∀ whole,isTrue a X.env whole=(do let v <- whole;standAt a.pos;holding [v] (truthy v))) :
  PT X a (fun σ H Q=>ta σ H fun x H' => ∃ k,kP X.K x H' k/\Q k H'):=by
 intro pins s σ H Q I h
 exact isTrue_plain (thn (ha pins s σ H _ I h) fun v s1 ⟨x,H1,I1,r1,q1⟩=>CD pins s1 σ H1 x v Q I1 r1 q1) (he _)
theorem zgx:OpR X (binaryOp .Add) (fun x y H Q=>∃ i j,x = .str i/\y = .str j/\i.length+j.length<=sizeLine/\Q (.str (i++j)) H):=by
 intro pins s σ H x y v u Q I rx ry h
 obtain ⟨i,j,rfl,rfl,hz,q⟩:=h
 obtain ⟨t,rfl⟩:=rx
 obtain ⟨t',rfl⟩:=ry
 exact add_str (fun t' tk=>⟨.str (i++j),H,I.tok _,⟨_,rfl⟩,q⟩) hz
theorem jB {x:V} {us:List Value} (r:Vals [x] us):∃ u,us=[u]/\RelV x u:=by
 cases r with
 | cons r1 r2=>cases r2;exact ⟨_,rfl,r1⟩
theorem oT {x y:V} {us:List Value} (r:Vals [x,y] us):∃ u w',us=[u,w']/\RelV x u/\RelV y w' := by
 cases r with
 | cons r1 r2 =>
  cases r2 with
  | cons r3 r4=>cases r4;exact ⟨_,_,rfl,r1,r3⟩
theorem CJ:CallR X (.builtin "abs") (fun xs H Q=>∃ i,xs=[.int i]/\Q (.int (if i<0 then -i else i)) H):=by
 intro pins s σ H xs us Q I r h
 obtain ⟨i,rfl,q⟩:=h
 obtain ⟨u,rfl,t,rfl⟩:=jB r
 exact call_abs_int fun u tk=>⟨.int (if i<0 then -i else i),H,I.tok _,⟨_,rfl⟩,q⟩
theorem CK (hc:X.calm=true):CallR X (.builtin "max") (fun xs H Q=>∃ i j,xs=[.int i,.int j]/\Q (.int (if j > i then j else i)) H):=by
 intro pins s σ H xs us Q I r h
 obtain ⟨i,j,rfl,q⟩:=h
 obtain ⟨u,w',rfl,⟨t,rfl⟩,⟨t',rfl⟩⟩:=oT r
 refine max_two_ints (I.ok.hd hc) fun h' tk k=>⟨_,H,I.kept k,?_,q⟩
 by_cases hj:j > i
 ·rw [KS hj,KS hj];exact ⟨_,rfl⟩
 ·rw [KW hj,KW hj];exact ⟨_,rfl⟩
theorem CL (hc:X.calm=true):CallR X (.builtin "min") (fun xs H Q=>∃ i j,xs=[.int i,.int j]/\Q (.int (if j<i then j else i)) H):=by
 intro pins s σ H xs us Q I r h
 obtain ⟨i,j,rfl,q⟩:=h
 obtain ⟨u,w',rfl,⟨t,rfl⟩,⟨t',rfl⟩⟩:=oT r
 refine min_two_ints (I.ok.hd hc) fun h' tk k=>⟨_,H,I.kept k,?_,q⟩
 by_cases hj:j<i
 ·rw [KS hj,KS hj];exact ⟨_,rfl⟩
 ·rw [KW hj,KW hj];exact ⟨_,rfl⟩
end
end L2
namespace L2
open PySem PySem.Spec PyProof.Rows
structure ObjM (h:Heap) (x dx C:Addr) (mA:Str->Option Value):Prop where
 obj:h.get? x=some (PySem.W.instObj C dx)
 ns:h.Ns1 dx mA
 ne:dx≠x
theorem CO {h:Heap} {dx:Addr} {mA:Str->Option Value} (n:h.Ns1 dx mA):∃ od,h.get? dx=some od/\∀ name,PySem.W.lookIn name od=some (mA name):=by
 obtain ⟨o,es,ep,ho,hd,hk,_,hm⟩:=n
 refine ⟨o,ho,fun name=>?_⟩
 have e:=hm name
 unfold nsFind findBy at e
 rw [<- Array.find?_toList] at e
 unfold PySem.W.lookIn
 rw [hd]
 dsimp only
 split
 ·rename_i y q
  rw [q] at e
  exact congrArg some e
 ·rename_i q
  rw [q] at e
  have a:es.toList.any (·.refKey)=false:=by
   rw [List.any_eq_false]
   intro y hy
   obtain ⟨z,t,hkey⟩:=hk y (Array.mem_toList_iff.mp hy)
   simp [DictEntry.refKey,hkey]
  have a' : ¬ es.toList.any (·.refKey)=true:=by rw [a];exact K9
  rw [KW a']
  exact congrArg some e
theorem ObjM.look {h:Heap} {x dx C:Addr} {mA:Str->Option Value} (I:ObjM h x dx C mA):∃ od,PySem.W.InstAt h x (PySem.W.instObj C dx) C (some od)/\∀ name,PySem.W.lookIn name od=some (mA name) :=
 let ⟨od,ho,hl⟩:=CO I.ns
 ⟨od,⟨I.obj,rfl,rfl,ho⟩,hl⟩
section
variable {prog:Program} {w:World} {A:Around} {E:Value->Shared->Prop} {s:Shared} {K:PySem.W.Frag} {x dx C f:Addr} {mA:Str->Option Value} {name:Str} {v:Value}
theorem CQ {expr:Bool} {Q:Value->Shared->Prop} (X:K.In s.heap) (I:ObjM s.heap x dx C mA) (hg:PySem.W.plainGet K C name=true) (hh:PySem.W.hasDictIn K C=true)
  (ha:PySem.W.findIn K (.ref C) name=some none) (hv:mA name=some v) (hv':PySem.W.handedIn v=true) (h:Q v { s with toks:=s.toks+1 }) :
  wpAny (model prog w) A (getAttr (.ref x) name expr) Q E s:=by
 obtain ⟨od,J,hl⟩:=I.look
 exact PySem.W.get_value X J (MQ hg).1 (PySem.W.findObj_own hh ha rfl (by rw [hl,hv])) hv' h
theorem CS {pl:Sem Bool} {Q:Value×List Value->Shared->Prop} (X:K.In s.heap) (I:ObjM s.heap x dx C mA) (hg:PySem.W.plainGet K C name=true)
  (hf:PySem.W.findIn K (.ref C) name=some (some (.ref f))) (ht:PySem.W.isFn K (.ref f)=true) (hv:mA name=none) (h:Q (.ref f,[.ref x]) s) :
  wpAny (model prog w) A (getMethod (.ref x) name pl) Q E s:=by
 obtain ⟨od,J,hl⟩:=I.look
 exact PySem.W.method_fn X J (MQ hg).1 (MQ hg).2 hf (beq_iff_eq.mp ht) (by show (PySem.W.lookIn name od).map (·.isSome)=some false;rw [hl,hv];rfl) h
theorem CT {ns:List Str} {Q:Unit->Shared->Prop} (X:K.In s.heap) (I:ObjM s.heap x dx C mA)
  (hs:PySem.W.findIn K (.ref C) "__setattr__" = some (some (.builtin "object.__setattr__"))) (hp:PySem.W.plainOver K C=true) (ht:PySem.W.takerIn K C name=some none) (hh:PySem.W.hasDictIn K C=true)
  (hw:PySem.Within mA ns) (hsz:ns.length<=sizeLine)
  (h:∀ h',ObjM h' x dx C (fun y=>if y=name then some v else mA y)->Heap.SameBut dx s.heap h'->Q () { s with heap:=h',toks:=s.toks+2 }) :
  wpAny (model prog w) A (setAttr (.ref x) name v) Q E s:=by
 obtain ⟨od,J,hl⟩:=I.look
 refine PySem.W.set_plain X J hs (PySem.W.osa_open (s:={ s with toks:=s.toks+1 }) (r:=none) X J hp ht fun b=>?_)
 obtain ⟨cd,hc,hd'⟩:=PySem.W.any_some hh
 have hx:s.heap.get? x=some ⟨.ref C,some dx,.plain,#[]⟩:=I.obj
 refine K0 (Le (K0 (K0 (wpAny_loadPart hx (K0 (PySem.W.Looks.here (s:={ s with toks:=s.toks+1 }) (PySem.W.looks_clsIn X hc) ?_))))))
 rw [hd']
 refine Le (a:=some dx) (K0 (Le (K0 ?_)))
 refine wpAny_nsSet1 (s:={ s with toks:=s.toks+1 }) I.ns fun h' hn2 hs2=>?_
 obtain ⟨oD,esD,epD,hoD,hdD,hcD⟩:=hn2.count (PySem.Within.cons name v hw)
 refine K0 (wpAny_lookBehind hoD (by rw [hdD];exact pastItsLine_dict (KN hcD (by rw [KO];lia))) ?_)
 exact Le (h _ ⟨(hs2.2 _ (Ne.symm I.ne)).trans I.obj,hn2,I.ne⟩ hs2)
theorem CU {R:Result->Shared->Prop} {vs:List Value} {kw:List (Str×Value)} (X:K.In s.heap) (hm:PySem.W.makesIn K C=true)
  (hi:PySem.W.findIn K (.ref C) "__init__" = some (some (.ref f))) (hf:PySem.W.typeIn K (.ref f)=some (.type "function"))
  (h:codeAny (model prog w) (A.under (.builtin "type.__call__" ⟨.ref C::vs,kw⟩)) (.call (.ref f) ⟨.ref (s.heap.objs.size+1)::vs,kw⟩) (PySem.W.InitBack (s.heap.objs.size+1) R)
   { s with heap:=(s.heap.push PySem.W.emptyDict).push (PySem.W.instObj C s.heap.objs.size) }) :
  codeAny (model prog w) A (.call (.ref C) ⟨vs,kw⟩) R s:=by
 obtain ⟨hh,g,d,t,os⟩:=s
 exact PySem.W.make_core (PySem.W.makes_of X hm) (PySem.W.looks_findIn X hi) (fun self=>PySem.W.bind_fn X self hf) (.inl rfl) h
end
def cx (f:Str) (v:V):List (Str×V)->List (Str×V)
 | []=>[(f,v)]
 | (g,x)::r=>if g=f then (g,v)::r else (g,x)::cx f v r
theorem oV (f g:Str) (v:V):∀ fs:List (Str×V),(cx f v fs).lookup g=if g=f then some v else fs.lookup g
 | []=>by
  show List.lookup g [(f,v)]=_
  by_cases h:g=f
  ·have hb:(g == f)=true:=beq_iff_eq.mpr h
   simp only [List.lookup,hb,KS h]
  ·have hb:(g == f)=false:=beq_eq_false_iff_ne.mpr h
   simp only [List.lookup,hb,KW h]
 | (k,x)::r=>by
  have ih:=oV f g v r
  rw [show cx f v ((k,x)::r)=(if k=f then (k,v)::r else (k,x)::cx f v r) from rfl]
  by_cases hk:k=f
  ·rw [KS hk]
   by_cases h:g=k
   ·have hb:(g == k)=true:=beq_iff_eq.mpr h
    simp only [List.lookup,hb,KS (h.trans hk)]
   ·have hb:(g == k)=false:=beq_eq_false_iff_ne.mpr h
    simp only [List.lookup,hb,KW (fun e:g=f=>h (e.trans hk.symm))]
  ·rw [KW hk]
   by_cases h:g=k
   ·have hb:(g == k)=true:=beq_iff_eq.mpr h
    simp only [List.lookup,hb,KW (fun e:g=f=>hk (h.symm.trans e))]
   ·have hb:(g == k)=false:=beq_eq_false_iff_ne.mpr h
    simp only [List.lookup,hb]
    exact ih
theorem rA (f:Str) (v:V):∀ fs:List (Str×V),f∈(cx f v fs).map (·.1)/\∀ g,g∈fs.map (·.1)->g∈(cx f v fs).map (·.1)
 | []=>⟨by simp [cx],fun g h=>by simp at h⟩
 | (k,x)::r=>by
  obtain ⟨i1,i2⟩:=rA f v r
  rw [show cx f v ((k,x)::r)=(if k=f then (k,v)::r else (k,x)::cx f v r) from rfl]
  by_cases hk:k=f
  ·rw [KS hk]
   subst hk
   exact ⟨by simp,fun g h=>by simpa using h⟩
  ·rw [KW hk]
   refine ⟨?_,fun g h=>?_⟩
   ·rw [Ls]
    exact KJ _ i1
   ·rw [Ls] at h ⊢
    rcases K6.mp h with e | e
    ·exact K6.mpr (.inl e)
    ·exact KJ _ (i2 g e)
theorem wQ (f:Str) (v:V):∀ fs:List (Str×V),(cx f v fs).length<=fs.length+1
 | []=>by simp [cx]
 | (k,x)::r=>by
  have ih:=wQ f v r
  rw [show cx f v ((k,x)::r)=(if k=f then (k,v)::r else (k,x)::cx f v r) from rfl]
  by_cases hk:k=f
  ·rw [KS hk,KO,KO];lia
  ·rw [KW hk,KO,KO];lia
theorem RelO.some_of {v:V} {o:Option Value} (r:RelO (some v) o):∃ u,o=some u/\RelV v u:=by
 cases o with
 | none=>exact (show False from r).elim
 | some u=>exact ⟨u,rfl,r⟩
theorem RelO.none_of {o:Option Value} (r:RelO none o):o=none:=by
 cases o with
 | none=>rfl
 | some u=>exact (show False from r).elim
theorem CV {v:V} {u:Value} (r:RelV v u):PySem.W.handedIn u=true:=by
 cases v with
 | non=>cases (show u=Value.none from r);rfl
 | bl b=>cases (show u=Value.bool b from r);rfl
 | int i=>obtain ⟨t,e⟩:=(show ∃ t,u=Value.int i t from r);cases e;rfl
 | str x=>obtain ⟨t,e⟩:=(show ∃ t,u=Value.str x t from r);cases e;rfl
 | byt b=>obtain ⟨t,e⟩:=(show ∃ t,u=Value.bytes b t from r);cases e;rfl
 | flt b=>obtain ⟨t,e⟩:=(show ∃ t,u=Value.float b t from r);cases e;rfl
 | ref a=>cases (show u=Value.ref a from r);rfl
 | ty n=>cases (show u=Value.type n from r);rfl
section
variable {P:Program} {w:World} {H H':Hp} {h h':Heap} {a C dx:Addr} {fs fs':List (Str×V)}
theorem oW (hok:HOk P w H h) (e:H a=some (.ins C dx fs)):∃ mA,ObjM h a dx C mA/\(∀ f,RelO (fs.lookup f) (mA f))/\PySem.Within mA (fs.map (·.1))/\fs.length<=1000/\H dx=some (.own a):=by
 obtain ⟨d,z,ne,ob,mA,n,r,q⟩:=(show ObjOk P w H h a (.ins C dx fs) from hok a _ e)
 exact ⟨mA,⟨ob,n,ne⟩,r,q,z,d⟩
end
structure Cls (K:PySem.W.Frag) (C:Addr):Prop where
 pg:PySem.W.plainGet K C Str.empty=true
 hd:PySem.W.hasDictIn K C=true
 po:PySem.W.plainOver K C=true
 sa:PySem.W.findIn K (.ref C) "__setattr__" = some (some (.builtin "object.__setattr__"))
theorem Cls.get {K:PySem.W.Frag} {C:Addr} (c:Cls K C) (f:Str):PySem.W.plainGet K C f=true:=c.pg
def NoAttr (K:PySem.W.Frag) (C:Addr) (f:Str):Prop:=PySem.W.findIn K (.ref C) f=some none
theorem NoAttr.taker {K:PySem.W.Frag} {C:Addr} {f:Str} (n:NoAttr K C f):PySem.W.takerIn K C f=some none:=by
 unfold PySem.W.takerIn
 rw [show PySem.W.findIn K (.ref C) f=some none from n]
 rfl
structure iM (K:PySem.W.Frag) (C:Addr) (m:Str) (f:Addr):Prop where
 at_:PySem.W.findIn K (.ref C) m=some (some (.ref f))
 fn:PySem.W.isFn K (.ref f)=true
 kp:PySem.W.keepIn K (.ref f)=true
section
variable {X:Cx} {pins:List (Addr×Obj)} {σ:St} {H:Hp} {s:Shared} {a C dx:Addr} {fs:List (Str×V)} {f:Str} {v:V} {A:Around} {E:Value->Shared->Prop}
theorem CY {b:Bool} {Q:Value->Shared->Prop} (I:Inv X pins σ H s) (e:H a=some (.ins C dx fs)) (c:Cls X.K C) (n:NoAttr X.K C f) (l:fs.lookup f=some v)
  (h:∀ u s',Inv X pins σ H s'->RelV v u->Q u s'):wpAny (model X.prog X.w) A (getAttr (.ref a) f b) Q E s:=by
 obtain ⟨mA,O,r,_,_,_⟩:=oW I.hok e
 obtain ⟨u,hu,ru⟩:=RelO.some_of (v:=v) (o:=mA f) (by rw [<- l];exact r f)
 exact CQ I.kIn O (c.get f) c.hd n hu (CV ru) (h u _ (I.tok _) ru)
theorem wR {m:Str} {g:Addr} {pl:Sem Bool} {Q:Value×List Value->Shared->Prop} (I:Inv X pins σ H s) (e:H a=some (.ins C dx fs)) (c:Cls X.K C) (k:iM X.K C m g) (l:fs.lookup m=none)
  (h:Q (.ref g,[.ref a]) s):wpAny (model X.prog X.w) A (getMethod (.ref a) m pl) Q E s:=by
 obtain ⟨mA,O,r,_,_,_⟩:=oW I.hok e
 have hn:mA m=none:=RelO.none_of (by rw [<- l];exact r m)
 exact CS I.kIn O (c.get m) k.at_ k.fn hn h
theorem CZ {y:V} {u:Value} {Q:Unit->Shared->Prop} (I:Inv X pins σ H s) (e:H a=some (.ins C dx fs)) (c:Cls X.K C) (n:NoAttr X.K C f) (hl:fs.length<1000) (ry:RelV y u)
  (h:∀ s',Inv X pins σ (aV H a (.ins C dx (cx f y fs))) s'->Q () s'):wpAny (model X.prog X.w) A (setAttr (.ref a) f u) Q E s:=by
 obtain ⟨mA,O,r,wi,_,ho⟩:=oW I.hok e
 have hz:(fs.map (·.1)).length<=sizeLine:=by rw [K4,sizeLine_eq];lia
 refine CT I.kIn O c.sa c.po n.taker c.hd wi hz fun h' O' sb=>h _ ?_
 have hd:∃ o,h'.get? dx=some o:=let ⟨o,_,_,e',_⟩:=O'.ns;⟨o,e'⟩
 refine I.write (x:=a) (e:=dx) (by rw [e];exact True.intro) (.inr ho) (fun b q hb z=>(sb.2 b hb).trans z) hd ?_
 refine ⟨by rw [cF O.ne];exact ho,?_,O.ne,O'.obj,_,O'.ns,fun g=>?_,fun g hg=>?_⟩
 ·have:=wQ f y fs;lia
 ·show RelO ((cx f y fs).lookup g) (if g=f then some u else mA g)
  rw [oV]
  by_cases q:g=f
  ·rw [KS q,KS q];exact ry
  ·rw [KW q,KW q];exact r g
 ·by_cases q:g=f
  ·rw [q];exact (rA f y fs).1
  ·refine (rA f y fs).2 g (wi g fun z=>hg ?_)
   show (if g=f then some u else mA g)=none
   rw [KW q];exact z
theorem Inv.made (I:Inv X pins σ H s):Inv X pins σ (aV (aV H s.heap.objs.size (.own (s.heap.objs.size+1))) (s.heap.objs.size+1) (.ins C s.heap.objs.size []))
  { s with heap:=(s.heap.push PySem.W.emptyDict).push (PySem.W.instObj C s.heap.objs.size) }:=by
 have e1:(s.heap.push PySem.W.emptyDict).get? s.heap.objs.size=some PySem.W.emptyDict:=Li s.heap rfl
 have e2:((s.heap.push PySem.W.emptyDict).push (PySem.W.instObj C s.heap.objs.size)).get? (s.heap.objs.size+1)=some (PySem.W.instObj C s.heap.objs.size):=by
  have:=Li (s.heap.push PySem.W.emptyDict) (o:=PySem.W.instObj C s.heap.objs.size) rfl
  rwa [NK] at this
 have e3:(s.heap.push PySem.W.emptyDict).Ns s.heap.objs.size (fun _=>none):=⟨PySem.W.emptyDict,#[],_,e1,rfl,(fun e he=>absurd he (by simp)),fun _=>rfl⟩
 have I1:=I.laid (a:=s.heap.objs.size) (o:=.own (s.heap.objs.size+1)) (h' := s.heap.push PySem.W.emptyDict) (t' := s.toks) (fun b u q=>KU _ q) (KC _) ⟨_,e1⟩
 refine I1.laid (a:=s.heap.objs.size+1) (o:=.ins C s.heap.objs.size []) (t' := s.toks) (fun b u q=>KU _ q) (Nj (NK _ _)) ?_
 have ne:s.heap.objs.size≠s.heap.objs.size+1:=Lv (Nf _)
 refine ⟨by rw [cF ne,gD],Lc _,ne,e2,fun _=>none,(Heap.Ns1.of_empty e3).at fun o q=>KU _ q,fun _=>True.intro,fun y hy=>absurd rfl hy⟩
theorem C1 {prog:Program} {w:World} {env:Env} {e:Expr} {f:Str} {pos:Pos} {s:Shared} {Q:Value->Shared->Prop} (hb:attributeBase e f env (eval e env)=eval e env)
  (h:wpAny (model prog w) A (eval e env) (fun o s₁=>wpAny (model prog w) A (getAttr o f true) Q E s₁) E s):wpAny (model prog w) A (eval (.Attribute e f pos) env) Q E s :=
 Attribute_any_ h (by rw [arm_eval_Attribute,hb])
end
def rB (K:PySem.W.Frag) (ta:TE) (f:Str):TE:=fun σ H Q=>ta σ H fun x H1=>∃ a C dx fs v,x = .ref a/\H1 a=some (.ins C dx fs)/\Cls K C/\NoAttr K C f/\fs.lookup f=some v/\Q v H1
def sFld (K:PySem.W.Frag) (ta tv:TE) (f:Str):TS:=fun D σ H=>tv σ H fun y H1=>ta σ H1 fun x H2=>∃ a C dx fs,x = .ref a/\H2 a=some (.ins C dx fs)/\Cls K C/\NoAttr K C f/\fs.length<1000 /\
 D.nx σ (aV H2 a (.ins C dx (cx f y fs)))
section
variable {X:Cx} {o e value:Expr} {f:Str} {pos pos' tpos:Pos} {ta tv:TE}
theorem C2 (he:PE X e ta) (hb:attributeBase e f X.env (eval e X.env)=eval e X.env):PE X (.Attribute e f pos) (rB X.K ta f):=by
 intro pins s σ H Q I h
 refine C1 hb (thn (he pins s σ H _ I h) fun u s1 ⟨x,H1,I1,rx,a,C,dx,fs,v,ex,ea,c,n,l,q⟩=>?_)
 subst ex
 obtain rfl:u=Value.ref a:=rx
 exact CY I1 ea c n l fun u' s2 I2 ru=>⟨v,H1,I2,ru,q⟩
theorem C3 (ha:PE X o ta) (hv:PE X value tv) (hs:swapsWith value (some (.Attribute o f pos')) pos.line X.env=pure false):PS X (.Assign [.Attribute o f pos'] value pos) (sFld X.K ta tv f):=by
 intro pins s σ H D I h
 refine plainObj_wpAny_Assign_Attribute (thn (hv pins s σ H _ I h) fun u s1 ⟨y,H1,I1,ry,q⟩=>thn (ha pins s1 σ H1 _ I1 q) fun ov s2 ⟨x,H2,I2,rx,a,C,dx,fs,ex,ea,c,n,l,q2⟩=>?_) hs
 subst ex
 obtain rfl:ov=Value.ref a:=rx
 exact CZ I2 ea c n l ry fun s3 I3=>⟨σ,_,I3,q2⟩
end
section
variable {X:Cx} {pins:List (Addr×Obj)} {σ:St} {H:Hp} {s:Shared} {A:Around} {E:Value->Shared->Prop} {Q:Value->Shared->Prop} {c:Value} {b:Bool}
inductive dy (K:PySem.W.Frag) (H:Hp):V->Value->Prop where
 | non:dy K H .non (.type "NoneType")
 | bl (x:Bool):dy K H (.bl x) (.type "bool")
 | int (i:Int):dy K H (.int i) (.type "int")
 | str (x:Str):dy K H (.str x) (.type "str")
 | flt (x:UInt64):dy K H (.flt x) (.type "float")
 | lst {a:Addr} {xs:List V} (e:H a=some (.lst xs)):dy K H (.ref a) (.type "list")
 | frz {a:Addr} {o:Obj} {xs:List V} (e:H a=some (.frz o (.lst xs))):dy K H (.ref a) (.type "list")
 | tup {a:Addr} {xs:List V} (e:H a=some (.tup xs)):dy K H (.ref a) (.type "tuple")
 | dK {a:Addr} {kvs:List (bo×V)} (e:H a=some (.dK kvs)):dy K H (.ref a) (.type "dict")
 | dT {a:Addr} {kvs:List (List bo×V)} (e:H a=some (.dT kvs)):dy K H (.ref a) (.type "dict")
 | ins {a C dx:Addr} {fs:List (Str×V)} (e:H a=some (.ins C dx fs)) (cl:Cls K C) (ha:PySem.W.findIn K (.ref C) "__class__" = some (some (.builtin "object.__class__")))
   (hn:PySem.W.specialIn K (.builtin "object.__class__") "__get__" = some (some (.builtin "getset_descriptor.__get__"))) (htk:PySem.W.takesIn K (.builtin "object.__class__")=some true)
   (hm:PySem.W.mroIn K C (.type "object")=some true):dy K H (.ref a) (.ref C)
theorem C4 {x:V} {u t:Value} (I:Inv X pins σ H s) (rx:RelV x u) (ty:dy X.K H x t) (e:PySem.W.kitOne X.K t c=some b) (h:∀ tk,Q (.bool b) { s with toks:=tk }) :
  wpAny (model X.prog X.w) A (call (.builtin "isinstance") [u,c]) Q E s:=by
 cases ty with
 | non=>cases (show u=Value.none from rx);exact LB PySem.W.kitx_none I.kIn True.intro e (fun z=>nomatch z) h
 | bl y=>cases (show u=Value.bool y from rx);exact LB PySem.W.kitx_bool I.kIn True.intro e (fun z=>nomatch z) h
 | int i=>obtain ⟨t,q⟩:=(show ∃ t,u=Value.int i t from rx);cases q;exact LB PySem.W.kitx_int I.kIn True.intro e (fun z=>nomatch z) h
 | str y=>obtain ⟨t,q⟩:=(show ∃ t,u=Value.str y t from rx);cases q;exact LB PySem.W.kitx_str I.kIn True.intro e (fun z=>nomatch z) h
 | flt y=>obtain ⟨t,q⟩:=(show ∃ t,u=Value.float y t from rx);cases q;exact LB PySem.W.kitx_float I.kIn True.intro e (fun z=>nomatch z) h
 | @lst a xs ea =>
  cases (show u=Value.ref a from rx)
  obtain ⟨_,_,n,_,h1⟩:=(show ObjOk X.prog X.w H s.heap a (.lst xs) from I.hok a _ ea)
  exact LB M3 I.kIn ⟨_,h1,rfl⟩ e (fun z=>nomatch z) h
 | @frz a ob xs ea =>
  cases (show u=Value.ref a from rx)
  obtain ⟨_,_,_,n,_,h1⟩:=(show ObjOk X.prog X.w H s.heap a (.frz ob (.lst xs)) from I.hok a _ ea)
  exact LB M3 I.kIn ⟨_,h1,rfl⟩ e (fun z=>nomatch z) h
 | @tup a xs ea =>
  cases (show u=Value.ref a from rx)
  obtain ⟨_,_,_,p⟩:=(show ObjOk X.prog X.w H s.heap a (.tup xs) from I.hok a _ ea)
  obtain ⟨o,h1,h2,_⟩:=p
  exact LB PySem.W.kitx_tuple I.kIn ⟨o,h1,h2⟩ e (fun z=>nomatch z) h
 | @dK a kvs ea =>
  cases (show u=Value.ref a from rx)
  obtain ⟨_,_,vs,_,p⟩:=(show ObjOk X.prog X.w H s.heap a (.dK kvs) from I.hok a _ ea)
  obtain ⟨o,es,ep,h1,h2,_⟩:=p
  exact LB Oa I.kIn ⟨o,h1,h2.1⟩ e (fun z=>nomatch z) h
 | @dT a kvs ea =>
  cases (show u=Value.ref a from rx)
  obtain ⟨_,_,xs,_,o,es,ep,h1,h2,_⟩:=(show ObjOk X.prog X.w H s.heap a (.dT kvs) from I.hok a _ ea)
  exact LB Oa I.kIn ⟨o,h1,h2.1⟩ e (fun z=>nomatch z) h
 | @ins a C dx fs ea cl ha hn htk hm =>
  cases (show u=Value.ref a from rx)
  obtain ⟨mA,O,_⟩:=oW I.hok ea
  obtain ⟨od,J,_⟩:=O.look
  exact LB (PySem.W.kitx_own (cl.get _) cl.hd ha hn htk hm) I.kIn J e (fun z=>nomatch z) h
end
end L2
namespace L2
open PySem PySem.Spec PyProof.Rows
structure Room (k:Nat) (A:Around):Prop where
 hd:A.handled=none
 dp:A.depth+3*k+5<recursionLimit
 un:A.units+16*k+200<cLine
theorem Room.mono {j k:Nat} {A:Around} (r:Room k A) (h:j<=k):Room j A:=⟨r.hd,by have:=r.dp;lia,by have:=r.un;lia⟩
theorem Room.deeper {k:Nat} {A:Around} (r:Room (k+1) A) (env:Env):Room k (A.deeper env) :=
 ⟨r.hd,by have:=r.dp;show A.depth+1+3*k+5<_;lia,by have:=r.un;show A.units+3+16*k+200<_;lia⟩
theorem C5 {A:Around} {C:Addr} {us:List Value} {kw:List (Str×Value)}:(A.under (.builtin "type.__call__" ⟨.ref C::us,kw⟩)).depth=A.depth+1:=by
 first | rfl | simp [Around.under,Code.weight,Code.isCreation,Code.isGuard,Code.isCaller,Code.frames,Code.isFrame,guardIds]
theorem C7 {A:Around} {C:Addr} {us:List Value} {kw:List (Str×Value)}:(A.under (.builtin "type.__call__" ⟨.ref C::us,kw⟩)).units=A.units+1:=by
 first | rfl | simp [Around.under,Code.cUnits,Code.frames,Code.isFrame]
theorem Room.make {k:Nat} {A:Around} (r:Room (k+1) A) (C:Addr) (us:List Value) (kw:List (Str×Value)):Room k (A.under (.builtin "type.__call__" ⟨.ref C::us,kw⟩)) :=
 ⟨r.hd,by have:=r.dp;rw [C5];lia,by have:=r.un;rw [C7];lia⟩
theorem Room.depth {k:Nat} {A:Around} (r:Room k A):A.depth<recursionLimit:=by have:=r.dp;lia
def rC:TA:=fun _ H Q=>Q [] H
def C8 (ta:TE) (tr:TA):TA:=fun σ H Q=>ta σ H fun x H1=>tr σ H1 fun xs H2=>Q (x::xs) H2
section
variable {X:Cx} {e:Expr} {es:List Expr} {te:TE} {t:TA} {pos:Pos}
theorem wU:PA X [] rC:=fun _ _ _ _ H Q I h=>Calls.spliced_nil ⟨[],H,I,.nil,h⟩
theorem rD (ha:PE X e te) (hr:PA X es t) (hs:starEach (e::es) X.env=(false,eval e X.env)::starEach es X.env:=by rfl):PA X (e::es) (C8 te t):=by
 intro pos pins s σ H Q I h
 rw [hs]
 show wpAny _ _ (spliced ((false,eval e X.env)::backTo pos (starEach es X.env))) _ _ s
 refine Calls.spliced_cons (thn (ha pins s σ H _ I h) fun u s1 ⟨x,H1,I1,r1,q1⟩=>?_)
 exact thn (hr pos pins s1 σ H1 _ I1 q1) fun us s2 ⟨xs,H2,I2,r2,q2⟩=>⟨x::xs,H2,I2,.cons r1 r2,q2⟩
def rE (t:TA):TE:=fun σ H Q=>t σ H fun xs H1=>xs.length<=sizeLine/\∀ p,H1 p=none->Q (.ref p) (aV H1 p (.tup xs))
def rF (t:TA):TE:=fun σ H Q=>t σ H fun xs H1=>xs.length<=sizeLine/\∀ p,H1 p=none->Q (.ref p) (aV H1 p (.lst xs))
theorem C9 {x1} (h:PA X es t):PE X (.Tuple es x1 pos) (rE t):=by
 intro pins s σ H Q I hq
 refine wpAny_Tuple_spliced (thn (h pos pins s σ H _ I hq) fun us s1 ⟨xs,H1,I1,r,z,q⟩=>⟨by rw [<- r.length];exact z,?_⟩)
 have hf:H1 s1.heap.objs.size=none:=I1.hok.fresh (KC _)
 refine ⟨.ref s1.heap.objs.size,aV H1 s1.heap.objs.size (.tup xs),I1.laid (t' := s1.toks) (fun b u e=>KU _ e) (KC _) ?_,rfl,q _ hf⟩
 exact ⟨z,us,r,⟨_,Li _ rfl,rfl,_,rfl⟩⟩
theorem wV (h:PA X es t):PE X (.List es pos) (rF t):=by
 intro pins s σ H Q I hq
 refine wpAny_List_spliced (thn (h pos pins s σ H _ I hq) fun us s1 ⟨xs,H1,I1,r,z,q⟩=>⟨by rw [<- r.length];exact z,?_⟩)
 have hf:H1 s1.heap.objs.size=none:=I1.hok.fresh (KC _)
 refine ⟨.ref s1.heap.objs.size,aV H1 s1.heap.objs.size (.lst xs),I1.laid (t' := s1.toks) (fun b u e=>KU _ e) (KC _) ?_,rfl,q _ hf⟩
 exact ⟨z,us,0,r,Li _ rfl⟩
end
abbrev Sp:=List V->Hp->VK->XK->Prop
abbrev gF:=List Env->Hp->Shared->XK->Value->Shared->Prop
structure Env0 (P:Program) (w:World) (K:PySem.W.Frag) (mg:Str->Option Value) (base:Heap) (A:Around) (outer:List Env) (s:Shared) (H:Hp):Prop where
 frames:A.frames=some outer
 mod:Mod K mg base
 bs:∀ b o,base.get? b=some o->s.heap.get? b=some o/\H b=none
 bsz:base.objs.size<=s.heap.objs.size
 funs:s.heap.FunFrames base outer
 frf:∀ b∈eU outer,H b=none
 hok:HOk P w H s.heap
 bare:AllBare s.gens
def CE (outer:List Env) (P:Program) (w:World) (H:Hp) (s:Shared) (Q:VK) (u:Value) (s':Shared):Prop :=
 ∃ v H',s'.os=s.os/\AllBare s'.gens/\Un (eU outer) [] H H' s.heap s'.heap/\HOk P w H' s'.heap/\RelV v u/\Q v H'
def CR (CX:gF) (outer:List Env) (P:Program) (w:World) (H:Hp) (s:Shared) (Q:VK) (E:XK) (r:Result) (s':Shared):Prop :=
 match r with
 | .ok (.ret u)=>CE outer P w H s Q u s'
 | .ok _=>False
 | .error e=>CX outer H s E e s'
structure FnOk (P:Program) (w:World) (K:PySem.W.Frag) (mg:Str->Option Value) (base:Heap) (CX:gF) (k:Nat) (f:Addr) (fd:FuncData) (ps:List Str) (sp:Sp):Prop where
 len:∀ vs H Q E,sp vs H Q E->vs.length=ps.length
 run:∀ (A:Around) (outer:List Env) (s:Shared) (H:Hp) (args:Args) (us:List Value) (vs:List V) (Q:VK) (E:XK),Room k A->Env0 P w K mg base A outer s H->BindsTo s fd args (ps.zip us)->Vals vs us->sp vs H Q E ->
  codeAny (model P w) A (.call (.ref f) args) (CR CX outer P w H s Q E) s
theorem FnOk.imp {P:Program} {w:World} {K:PySem.W.Frag} {mg:Str->Option Value} {base:Heap} {CX:gF} {k:Nat} {f:Addr} {fd:FuncData} {ps:List Str} {sp sp':Sp} (F:FnOk P w K mg base CX k f fd ps sp)
  (h:∀ vs H Q E,sp' vs H Q E->sp vs H Q E):FnOk P w K mg base CX k f fd ps sp' :=
 ⟨fun vs H Q E q=>F.len vs H Q E (h _ _ _ _ q),fun A outer s H args us vs Q E hr he hb hv hs=>F.run A outer s H args us vs Q E hr he hb hv (h _ _ _ _ hs)⟩
theorem Env0.make {P:Program} {w:World} {K:PySem.W.Frag} {mg:Str->Option Value} {base:Heap} {A:Around} {outer:List Env} {s:Shared} {H:Hp} (e:Env0 P w K mg base A outer s H) (C:Addr) (us:List Value) (kw:List (Str×Value)) :
  Env0 P w K mg base (A.under (.builtin "type.__call__" ⟨.ref C::us,kw⟩)) outer s H:=⟨by first | exact e.frames | (simpa [Around.under,Code.envs,Code.isFrame,pushEnvs] using e.frames),e.mod,e.bs,e.bsz,e.funs,e.frf,e.hok,e.bare⟩
section
variable {X:Cx} {pins:List (Addr×Obj)} {σ:St} {H:Hp} {s s':Shared}
theorem Inv.env0 (I:Inv X pins σ H s):Env0 X.prog X.w X.K X.mg X.base X.A X.stack s H :=
 ⟨I.ok.frames,I.ok.mod,I.bs,KN I.ok.bsz I.sz,I.stack,I.stkFree,I.hok,I.bare⟩
theorem Inv.after {Q:VK} {u:Value} (I:Inv X pins σ H s) (h:CE X.stack X.prog X.w H s Q u s'):EP X pins σ Q u s' := by
 obtain ⟨v,H',os,bare,un,hok,r,q⟩:=h
 obtain ⟨hh,g,d,t,os'⟩:=s'
 obtain rfl:os'=s.os:=os
 exact ⟨v,H',I.call (h' := hh) (g' := g) (d' := d) (t' := t) (ch:=[]) un hok bare (fun b z=>absurd z (by simp)),r,q⟩
end
def Binds (K:PySem.W.Frag) (fd:FuncData) (ps:List Str) (ds:List Value):Prop :=
 ∀ (s:Shared) (us:List Value),K.In s.heap->(us++ds).length=ps.length->BindsTo s fd ⟨us,[]⟩ (ps.zip (us++ds))
theorem Binds.all {K:PySem.W.Frag} {fd:FuncData} {ps:List Str} (h:∀ us:List Value,us.length=ps.length->bindArgs fd ⟨us,[]⟩=pure (ps.zip us)):Binds K fd ps []:=fun s us _ hl=>by
 rw [LC] at hl ⊢
 exact .of_eq (h us hl)
def Da (CX:gF) (X:Cx) (E:XK):Prop:=∀ (pins:List (Addr×Obj)) (σ:St) (H:Hp) (s:Shared) (e:Value) (s':Shared),Inv X pins σ H s->CX X.stack H s E e s'->X.xe e s'
section
variable {X:Cx} {CX:gF} {k:Nat} {f C:Addr} {fd:FuncData} {ps:List Str} {sp:Sp} {dvs:List V} {ds:List Value} {E:XK} {x m:Str} {p pos apos:Pos} {e o:Expr} {es:List Expr} {ta:TE} {t:TA}
structure Mk (K:PySem.W.Frag) (C f:Addr):Prop where
 makes:PySem.W.makesIn K C=true
 init:PySem.W.findIn K (.ref C) "__init__" = some (some (.ref f))
 fn:PySem.W.isFn K (.ref f)=true
 kp:PySem.W.keepIn K (.ref C)=true
end
section
variable {X:Cx} {CX:gF} {k:Nat} {f C:Addr} {fd:FuncData} {ps ks:List Str} {sp:Sp} {E:XK} {x m:Str} {p pos apos kpos:Pos} {e o:Expr} {es:List Expr} {kws:List Keyword} {te ta:TE} {t tk:TA} {nm:Option Str}
variable {g:List Value->List Value->List Value} {gV:List V->List V->List V}
end
structure aq (N P:List Str) (sc:Scope):Prop where
 kind:sc.kind = .function
 co:sc.isCoroutine=false
 gen:sc.isGenerator=false
 nd:N.Nodup
 pre:N.take P.length=P
 par:∀ x∈P,sc.names.lookup x=some .local\/sc.names.lookup x=some .cell
 nofree:∀ y∈sc.names,y.2 ≠ .free
theorem wW {kindOf:Str->Option NameKind} {x:Str}:∀ {binds:List (Str×Value)} {m:Str->Option Value},(∀ v,(x,v)∉binds)->bindL kindOf binds m x=m x
 | [],_,_=>rfl
 | (n,v)::r,m,h=>by
  unfold bindL
  rw [wW fun w hw=>h w (KJ _ hw)]
  split
  ·have:x≠n:=by rintro rfl;exact h v KF
   simp [this]
  ·rfl
theorem wX {kindOf:Str->Option NameKind} {x:Str}:∀ {binds:List (Str×Value)} {m:Str->Option Value},(∀ v,(x,v)∉binds)->bindC kindOf binds m x=m x
 | [],_,_=>rfl
 | (n,v)::r,m,h=>by
  unfold bindC
  rw [wX fun w hw=>h w (KJ _ hw)]
  split
  ·rfl
  ·have:x≠n:=by rintro rfl;exact h v KF
   simp [this]
theorem wY {kindOf:Str->Option NameKind} {x:Str} {v:Value}:∀ {P:List Str} {vs:List Value} {i:Nat} {m:Str->Option Value},P.Nodup->P[i]? = some x->vs[i]? = some v->kindOf x=some .local ->
  bindL kindOf (P.zip vs) m x=some v
 | [],_,_,_,_,h,_,_=>by simp at h
 | _::_,[],_,_,_,_,h,_=>by simp at h
 | p::P,w::vs,0,m,nd,h1,h2,hk=>by
  simp at h1 h2;subst h1;subst h2
  show bindL kindOf ((p,w)::P.zip vs) m p=_
  unfold bindL
  rw [wW fun v hv=>(LD.mp nd).1 (Nz hv).1,KS hk]
  simp
 | p::P,w::vs,i+1,m,nd,h1,h2,hk=>by
  show bindL kindOf ((p,w)::P.zip vs) m x=_
  unfold bindL
  exact wY (i:=i) (LD.mp nd).2 (by simpa using h1) (by simpa using h2) hk
theorem wZ {kindOf:Str->Option NameKind} {x:Str} {v:Value}:∀ {P:List Str} {vs:List Value} {i:Nat} {m:Str->Option Value},P.Nodup->P[i]? = some x->vs[i]? = some v->kindOf x≠some .local ->
  bindC kindOf (P.zip vs) m x=some v
 | [],_,_,_,_,h,_,_=>by simp at h
 | _::_,[],_,_,_,_,h,_=>by simp at h
 | p::P,w::vs,0,m,nd,h1,h2,hk=>by
  simp at h1 h2;subst h1;subst h2
  show bindC kindOf ((p,w)::P.zip vs) m p=_
  unfold bindC
  rw [wX fun v hv=>(LD.mp nd).1 (Nz hv).1,KW hk]
  simp
 | p::P,w::vs,i+1,m,nd,h1,h2,hk=>by
  show bindC kindOf ((p,w)::P.zip vs) m x=_
  unfold bindC
  exact wZ (i:=i) (LD.mp nd).2 (by simpa using h1) (by simpa using h2) hk
def start (N:List Str) (vs:List V):St:=vs.map some++List.replicate (N.length-vs.length) none
def cV (CX:gF) (P:Program) (w:World) (K:PySem.W.Frag) (mg:Str->Option Value) (base:Heap) (N:List Str) (qual:Str) (scope:Scope) (f:Addr) (cd:Value) (A:Around) (outer:List Env) (s:Shared) (H:Hp) (E:XK):Cx where
 prog:=P
 w:=w
 K:=K
 mg:=mg
 base:=base
 A:=A.deeper (envOfC qual scope s.heap.objs.size f cd)
 N:=N
 s₀:=s
 H₀:=H
 env:=envOfC qual scope s.heap.objs.size f cd
 outer:=outer
 stack:=envOfC qual scope s.heap.objs.size f cd::outer
 ex:=[]
 calm:=true
 fn:=fun _=>true
 pn:=[]
 xe:=fun e s' => wpAny (model P w) (A.deeper (envOfC qual scope s.heap.objs.size f cd)) (leaving (envOfC qual scope s.heap.objs.size f cd) e) (fun _ s'' => CX outer H s E e s'') (fun e' s'' => CX outer H s E e' s'') s'
theorem w4 {sc:Scope} {n:Nat} {x:Str} (h:sc.names.lookup x=some .cell):∃ c,(cellsFrom n sc.names []).lookup x=some c:=by
 have q:=Nk sc.names n [] (.inl h)
 exact Lk.mp q
theorem Dc {CX:gF} {P:Program} {w:World} {K:PySem.W.Frag} {mg:Str->Option Value} {base:Heap} {N ps:List Str} {qual:Str} {scope:Scope} {f:Addr} {cd:Value} {A:Around} {outer:List Env} {s s1:Shared} {H:Hp} {E:XK} {us:List Value} {vs:List V}
  (S:aq N ps scope) (hd:A.handled=none) (e0:Env0 P w K mg base A outer s H) (hl:vs.length=ps.length) (r:Vals vs us)
  (x:InCallC s s.heap.objs.size (bindL (envOfC qual scope s.heap.objs.size f cd).kindOf (ps.zip us) fun _=>none) (cellsFrom (s.heap.objs.size+1) scope.names []) (bindC (envOfC qual scope s.heap.objs.size f cd).kindOf (ps.zip us) fun _=>none) s1) :
  Inv (cV CX P w K mg base N qual scope f cd A outer s H E) [] (start N vs) H s1:=by
 have hpl:ps.length<=N.length:=by have:=congrArg List.length S.pre;rw [Lr] at this;lia
 obtain ⟨h1,tk,rfl,hk⟩:=x.done
 have noA:∀ b:Addr,b∉(cV CX P w K mg base N qual scope f cd A outer s H E).ex:=fun b z=>absurd (show b∈([]:List Addr) from z) (by simp)
 refine ⟨⟨e0.mod,S.kind,rfl,rfl,KC _,fun y z c h1 h2=>?_,fun y hy=>?_,fun y c _ h=>?_,fun _=>hd,Around.frames_deeper e0.frames,.inr ⟨rfl,rfl⟩,fun b z=>absurd z (noA b),e0.bs,e0.bsz,fun b _ _=>noA b,fun b z=>absurd z (noA b),e0.funs,e0.frf⟩,
  rfl,e0.bare,Un.kept hk,⟨_,x.toInCall.ns,fun i y v h1 h2 h3=>?_⟩,fun y c h=>⟨_,x.cell y c h⟩,e0.hok.fresh (KC _),fun y c h=>?_,fun p hp=>absurd (show p∈([]:List (Addr×Obj)) from hp) (by simp),e0.hok.kept hk,?_⟩
 ·exact name_of_addr x.apart (LV h1) (LV h2)
 ·have hy:scope.names.lookup y=some .cell\/scope.names.lookup y=some .free:=hy
  rcases hy with hy | hy
  ·exact w4 hy
  ·exact absurd rfl (S.nofree _ (LV hy))
 ·exact Mf (x.above y c (LV h))
 ·have hi:i<vs.length:=by
   unfold start at h2
   by_cases hi:i<vs.length
   ·exact hi
   ·rw [Lu (by simpa using hi)] at h2
    rw [My] at h2
    split at h2<;>cases h2
  have ha:vs[i]? = some v:=by
   unfold start at h2
   rw [KA (by simpa using hi),Lw] at h2
   cases e:vs[i]? with
   | none=>rw [e] at h2;cases h2
   | some a=>rw [e] at h2;cases h2;rfl
  obtain ⟨u,hu,rv⟩:=r.get ha
  have hp:ps[i]? = some y:=by
   rw [<- S.pre,List.getElem?_take_of_lt (by lia)];exact h1
  have ndP:ps.Nodup:=by rw [<- S.pre];exact S.nd.sublist (List.take_sublist _ _)
  refine ⟨u,rv,?_⟩
  rcases S.par y (Ld hp) with k | k
  ·exact .inl ⟨k,wY ndP hp hu k⟩
  ·obtain ⟨c,e⟩:=w4 (n:=s.heap.objs.size+1) k
   refine .inr ⟨.inl k,c,e,?_⟩
   have q:=x.cell y c e
   rw [wZ ndP hp hu (by show scope.names.lookup y≠_;rw [k];decide)] at q
   exact q
 ·exact e0.hok.fresh (Mf (x.above y c (LV h)))
 ·unfold start
  show _=N.length
  rw [KH,K4,List.length_replicate]
  lia
theorem De {CX:gF} {P:Program} {w:World} {K:PySem.W.Frag} {mg:Str->Option Value} {base:Heap} {k:Nat} {f:Addr} {name qual:Str} {params:Arguments} {body:List Stmt} {scope:Scope} {dV kV doc pm cdv ct oc:Value} {an od:Option Addr}
  {osl:Array (Option Value)} {N ps:List Str} {sp:Sp} (lk:K.lookup f=some ⟨oc,od,.func (PySem.W.fnOf name qual params body scope dV kV doc pm an cdv ct),osl⟩) (hcd:PySem.W.codeIn K cdv qual=true) (S:aq N ps scope)
  (len:∀ vs H Q E,sp vs H Q E->vs.length=ps.length)
  (hbody:∀ (A:Around) (outer:List Env) (s:Shared) (H:Hp) (vs:List V) (Q:VK) (E:XK),Room k (A.deeper (envOfC qual scope s.heap.objs.size f cdv))->sp vs H Q E ->
   ∃ t,g9 (cV CX P w K mg base N qual scope f cdv A outer s H E) body t/\t { nx:=fun _ H' => Q .non H',rt:=Q } (start N vs) H) :
  FnOk P w K mg base CX (k+1) f (PySem.W.fnOf name qual params body scope dV kV doc pm an cdv ct) ps sp:=by
 refine ⟨len,fun A outer s H args us vs Q E hr e0 hb r hsp=>?_⟩
 have hl:=len _ _ _ _ hsp
 have KX:K.In s.heap:=e0.mod.kin.keeps fun b o e=>(e0.bs b o e).1
 have lim:s.heap.NoLimit:=e0.mod.nolimit.keeps fun b o e=>(e0.bs b o e).1
 have hkind:∀ y∈ps.zip us,scope.names.lookup y.1=some .local\/(scope.names.lookup y.1=some .cell/\((cellsFrom (s.heap.objs.size+1) scope.names []).lookup y.1).isSome=true):=fun ⟨n,v⟩ hy=>by
  rcases S.par n (Nz hy).1 with q | q
  ·exact .inl q
  ·exact .inr ⟨q,Nk _ _ _ (.inl q)⟩
 refine codeAny_call_function hr.depth (KX _ _ lk) rfl S.co S.gen rfl (PySem.W.codeRec_of KX hcd) (hb _ _ _ _ ?_)
 refine wpAny_newFunctionEnv_cells S.kind hkind fun env he s1 x=>?_
 subst he
 refine ⟨lim.keeps x.toInCall.keep,codeAny_func ?_⟩
 obtain ⟨t,ht,hq⟩:=hbody A outer s H vs Q E (hr.deeper _) hsp
 have I:Inv (cV CX P w K mg base N qual scope f cdv A outer s H E) [] (start N vs) H s1:=Dc S hr.hd e0 hl r x
 refine LF (ht [] s1 (start N vs) H _ I hq) (fun fl s' hs=>?_) fun e s' hs=>hs
 have fin:∀ {σ':St} {H':Hp} {v:V} {u:Value},Inv (cV CX P w K mg base N qual scope f cdv A outer s H E) [] σ' H' s'->RelV v u->Q v H'->CE outer P w H s Q u s' :=
  fun {σ' H' v u} J rv q=>⟨v,H',J.os,J.bare,J.base,J.hok,rv,q⟩
 cases fl with
 | ret u =>
  obtain ⟨v,σ',H',J,rv,q⟩:=hs
  exact fin J rv q
 | next =>
  obtain ⟨σ',H',J,q⟩:=hs
  exact fin (v:=V.non) (u:=Value.none) J rfl q
 | brk =>
  obtain ⟨_,_,_,q⟩:=hs
  exact False.elim q
 | cont =>
  obtain ⟨_,_,_,q⟩:=hs
  exact False.elim q
end L2
namespace L2
open PySem PySem.Spec PyProof.Rows
section
variable {X:Cx} {x:Str} {p pos:Pos} {e:Expr} {es:List Expr} {t:TA} {id T:String} {r:List V->Hp->VK->Prop}
def rG (r:List V->Hp->VK->Prop) (t:TA):TE:=fun σ H Q=>t σ H fun vs H1=>r vs H1 Q
theorem w6 (hc:CallR X (.builtin id) r) (hg:Gl X x) (hm:X.mg x=none) (hv:bootBuiltins x=some (.builtin id)) (ha:PA X (e::es) t) (hn:x ≠ "__name__" := by decide) (hdb:(x == ("__debug__" : Str))=false:=by decide)
  (he:starEach (e::es) X.env=(false,eval e X.env)::starEach es X.env:=by rfl) (hpl:(backTo pos (starEach es X.env)).any (·.1)=false:=by rfl):PE X (.Call (.Name x p) (e::es) [] pos) (rG r t):=by
 intro pins s σ H Q I h
 refine Mx (mf I hg hm hv ?_ hn hdb)
 exact PyProof.Rows.callWith_builtin1 (thn (ha pos pins s σ H _ I h) fun us s1 ⟨vs,H1,I1,r1,q1⟩=>hc pins s1 σ H1 vs us Q I1 r1 q1) he hpl
theorem Df (hc:CallR X (.type T) r) (hg:Gl X x) (hm:X.mg x=none) (hv:bootBuiltins x=some (.type T)) (ha:PA X (e::es) t) (hn:x ≠ "__name__" := by decide) (hdb:(x == ("__debug__" : Str))=false:=by decide)
  (he:starEach (e::es) X.env=(false,eval e X.env)::starEach es X.env:=by rfl) (hpl:(backTo pos (starEach es X.env)).any (·.1)=false:=by rfl):PE X (.Call (.Name x p) (e::es) [] pos) (rG r t):=by
 intro pins s σ H Q I h
 refine Mx (mf I hg hm hv ?_ hn hdb)
 exact LZ (thn (ha pos pins s σ H _ I h) fun us s1 ⟨vs,H1,I1,r1,q1⟩=>hc pins s1 σ H1 vs us Q I1 r1 q1) he hpl
end
end L2
namespace HT
open PySem PyProof.Rows
section
open PySem.SeqAt
open PySem.AutoSeq1 (wpAny_loadPart')
open PySem.MeetsSeq PySem.MeetsSeq2 PySem.MeetsSeq3
end
section
variable {prog:Program} {w:World} {A:Around} {E:Value->Shared->Prop} {s:Shared}
theorem cat_tup {t b:Addr} {vs ws:List Value} {Q:Value->Shared->Prop} (ht:IsTup s.heap t vs.toArray) (hb:IsTup s.heap b ws.toArray) (hv:vs≠[])
  (h1:ws=[]->Q (.ref t) s) (h2:ws≠[]->Q (.ref s.heap.objs.size) { s with heap:=s.heap.push { cls:=.type "tuple",data:=.seq (vs++ws).toArray } })
  (hsz:vs.length+ws.length<=sizeLine):wpAny (model prog w) A (binaryOp .Add (.ref t) (.ref b)) Q E s:=by
 obtain ⟨⟨cls,dd,data,sl⟩,ho,hc,n,hd⟩:=id ht
 obtain ⟨⟨cls2,dd2,data2,sl2⟩,ho2,hc2,n2,hd2⟩:=id hb
 simp only at hc hd hc2 hd2
 subst hc hd hc2 hd2
 have e:vs.toArray++ws.toArray=(vs++ws).toArray:=by simp
 by_cases hw:ws=[]
 ·exact Oo ⟨_,ho,rfl⟩ ⟨_,ho2,rfl⟩ noFill_tuple_add seq_tuple_add Nl Ng (M8 _ _)
   (tuple_addW1 t b vs.toArray ws.toArray n n2 dd dd2 sl sl2 (by simpa using hv) (by simp [hw])) ⟨ho,ho2,h1 hw⟩
 ·refine Oo ⟨_,ho,rfl⟩ ⟨_,ho2,rfl⟩ noFill_tuple_add seq_tuple_add Nl Ng (M8 _ _)
   (tuple_addW2 t b vs.toArray ws.toArray n n2 dd dd2 sl sl2 (by simpa using hv) (by simpa using hw) (by rw [KY,KY];exact hsz)) ⟨ho,ho2,?_⟩
  rw [e]
  exact h2 hw
def sIx (n d:Nat):Option Int->Nat
 | none=>d
 | some v=>if v<0 then (v+(n:Int)).toNat else min v.toNat n
theorem sIx_none (n d:Nat):sIx n d none=d:=rfl
theorem sIx_nat (n d k:Nat):sIx n d (some (k:Int))=min k n:=by
 show (if (k:Int)<0 then ((k:Int)+(n:Int)).toNat else min (k:Int).toNat n)=min k n
 rw [KW (by lia),Int.toNat_natCast]
theorem sIx_le (n d:Nat) (hd:d<=n) (o:Option Int):sIx n d o<=n:=by
 cases o with
 | none=>exact hd
 | some v =>
  show (if v<0 then (v+(n:Int)).toNat else min v.toNat n)<=n
  by_cases hv:v<0
  ·rw [KS hv];lia
  ·rw [KW hv];exact Nat.min_le_right _ _
theorem xa (v:Int) (n d:Nat):(if v<0 then max (v+(n:Int)) 0 else min v (n:Int))=((sIx n d (some v):Nat):Int):=by
 show (if v<0 then max (v+(n:Int)) 0 else min v (n:Int))=(((if v<0 then (v+(n:Int)).toNat else min v.toNat n):Nat):Int)
 by_cases hv:v<0
 ·simp only [KS hv];lia
 ·simp only [KW hv];lia
theorem Dg (lo hi:Option Int) (n:Nat):Builtin.Slice.sliceAdjust lo hi 1 (n:Int)=(((sIx n 0 lo:Nat):Int),((sIx n n hi:Nat):Int)):=by
 have h1 : ¬ ((1:Int)<0):=by lia
 unfold Builtin.Slice.sliceAdjust
 simp only [h1,Ov]
 refine Prod.ext ?_ ?_
 ·cases lo with
  | none=>rfl
  | some v=>exact xa v n 0
 ·cases hi with
  | none=>rfl
  | some v=>exact xa v n n
theorem Dh (i j:Nat):Builtin.Slice.slicePlaces (i:Int) (j:Int) 1=j-i:=by
 unfold Builtin.Slice.slicePlaces
 have h1:(1:Int) > 0:=by lia
 simp only [h1,Mc,Int.ediv_one]
 split<;>lia
theorem xb {v:Value} {o:Option Int} {Q:Option Int->Shared->Prop} (p:IsPart v o) (h:Q o s):wpAny (model prog w) A (Builtin.Slice.slicePartIndex v) Q E s:=by
 cases p with
 | none=>exact slicePart_none h
 | int i t=>exact slicePart_int h
theorem Di {sl:Addr} {vl vu:Value} {lo hi:Option Int} {n:Nat} {Q:Int×Int×Nat->Shared->Prop} (hs:s.heap.IsSliceOf sl vl vu .none) (pl:IsPart vl lo) (pu:IsPart vu hi)
  (h:Q (((sIx n 0 lo:Nat):Int),1,sIx n n hi-sIx n 0 lo) s):wpAny (model prog w) A (Builtin.Slice.sliceApplied (.ref sl) (pure (n:Int))) Q E s:=by
 obtain ⟨os,hos,hcs,hds⟩:=id hs
 unfold Builtin.Slice.sliceApplied Builtin.Slice.sliceFields
 refine K0 (K0 (NP hos hds (x:=vl) rfl (K0 (NP hos hds (x:=vu) rfl (K0 (NP hos hds (x:=.none) rfl (Le ?_)))))))
 refine K0 (slicePart_none ?_)
 show wpAny _ _ (if ((1:Int) == 0)=true then _ else _) _ _ s
 rw [KW (by decide)]
 refine K0 (xb pl (K0 (xb pu (K0 (Le ?_)))))
 show wpAny _ _ (match Builtin.Slice.sliceAdjust lo hi 1 (n:Int) with | (lo,hi)=>pure (lo,(1:Int),Builtin.Slice.slicePlaces lo hi 1)) _ _ s
 rw [Dg lo hi n]
 show wpAny _ _ (pure (((sIx n 0 lo:Nat):Int),(1:Int),Builtin.Slice.slicePlaces ((sIx n 0 lo:Nat):Int) ((sIx n n hi:Nat):Int) 1)) _ _ s
 rw [Dh]
 exact Le h
theorem Dj (xs:Array Value) (i k:Nat):((List.range k).filterMap fun (m:Nat)=>xs[((i:Int)+(m:Int)*1).toNat]?).toArray=((xs.toList.drop i).take k).toArray:=by
 have e:(fun (m:Nat)=>xs[((i:Int)+(m:Int)*1).toNat]?)=fun m=>xs[i+m]? := by
  funext m
  have:((i:Int)+(m:Int)*1).toNat=i+m:=by lia
  rw [this]
 rw [e]
 have:=pick_run xs i k
 rw [MX] at this
 have e2:((fun x=>xs[x]?) ∘ fun x=>i+x)=fun m=>xs[i+m]? := rfl
 rw [e2] at this
 rw [this]
theorem getItem_tuple_cut {t sl:Addr} {items:Array Value} {vl vu:Value} {lo hi:Option Int} {Q:Value->Shared->Prop} (ht:IsTup s.heap t items) (hs:s.heap.IsSliceOf sl vl vu .none) (pl:IsPart vl lo) (pu:IsPart vu hi)
  (hw : ¬ (sIx items.size 0 lo=0/\sIx items.size items.size hi=items.size))
  (h:Q (.ref s.heap.objs.size) { s with heap:=s.heap.push { cls:=.type "tuple",data:=.seq ((items.toList.drop (sIx items.size 0 lo)).take (sIx items.size items.size hi-sIx items.size 0 lo)).toArray } })
  (hsz:items.size<=sizeLine):wpAny (model prog w) A (getItem (.ref t) (.ref sl)) Q E s:=by
 have htake:sizeOk (.seq ((items.toList.drop (sIx items.size 0 lo)).take (sIx items.size items.size hi-sIx items.size 0 lo)).toArray):=by
  show ((items.toList.drop (sIx items.size 0 lo)).take (sIx items.size items.size hi-sIx items.size 0 lo)).toArray.size<=sizeLine
  rw [KY,Lr,Ln,LO]
  omega
 have hj:sIx items.size items.size hi<=items.size:=sIx_le _ _ (KC _) hi
 obtain ⟨os,hos,hcs,hds⟩:=id hs
 have hTs:s.TypeIs (.ref sl) "slice" := ⟨os,hos,hcs⟩
 unfold getItem
 try with_reducible refine Nc ?_
 first | refine K0 (Le ?_) | skip
 refine K0 (wpAny_sequenceKey ht.typeIs (by decide) ?_)
 refine K0 (wpAny_callSpecial?_slot (name:=Str.ofString "__getitem__") ht.typeIs MF
  (Ni MF ht.typeIs entry_tuple_getitem ?_ (args_tuple_getitem _ _)))
 show wpAny _ _ (Builtin.Tuple.tupleItemsOf (.ref t) >>= _) _ _ s
 refine K0 (tupleItemsOf_ ht ?_)
 refine K0 (wpAny_typeOf hTs ?_)
 rw [KS (by decide)]
 refine K0 (Di hs pl pu ?_)
 have hno : ¬ ((((sIx items.size 0 lo:Nat):Int) == 0 && (1:Int) == 1 && (sIx items.size items.size hi-sIx items.size 0 lo) == items.size)=true):=by
  intro q
  rw [Lz,Lz] at q
  have q1:((sIx items.size 0 lo:Nat):Int)=0:=eq_of_beq q.1.1
  have q2:sIx items.size items.size hi-sIx items.size 0 lo=items.size:=eq_of_beq q.2
  exact hw ⟨by omega,by omega⟩
 show wpAny _ _ (if (((sIx items.size 0 lo:Nat):Int) == 0 && (1:Int) == 1 && (sIx items.size items.size hi-sIx items.size 0 lo) == items.size)=true then _ else _) _ _ s
 rw [KW hno,Dj]
 first
  | exact K0 (m:=Builtin.Tuple.tupleExact _) (Mo (Le ⟨_,rfl,Le h⟩) htake)
  | exact K0 (m:=Builtin.Tuple.tupleExact _) (Mo (K0 (Le (Le ⟨_,rfl,Le h⟩))) htake)
  | exact K0 (K0 (m:=Builtin.Tuple.tupleExact _) (Mo (Le (Le ⟨_,rfl,Le h⟩)) htake))
  | exact K0 (K0 (m:=Builtin.Tuple.tupleExact _) (Mo (Le ⟨_,rfl,Le h⟩) htake))
end
end HT
namespace L2
open PySem PySem.Spec PyProof.Rows
abbrev TO:=St->Hp->(Option Int->Hp->Prop)->Prop
def PO (X:Cx) (e:Option Expr) (t:TO):Prop :=
 ∀ (pins:List (Addr×Obj)) (s:Shared) (σ:St) (H:Hp) (Q:Option Int->Hp->Prop),Inv X pins σ H s->t σ H Q ->
  wpAny (model X.prog X.w) X.A (evalPart e X.env) (fun u s' => ∃ o H',Inv X pins σ H' s'/\IsPart u o/\Q o H') X.xe s
def xf:TO:=fun _ H Q=>Q none H
def xg (t:TE):TO:=fun σ H Q=>t σ H fun x H1=>∃ i,x = .int i/\Q (some i) H1
section
variable {X:Cx} {e:Expr} {te:TE} {lo hi:Option Expr} {tl th:TO} {pos p2:Pos}
theorem Dk:PO X none xf:=by
 intro pins s σ H Q I h
 rw [NY]
 exact Le ⟨none,H,I,.none,h⟩
theorem Dl (h:PE X e te):PO X (some e) (xg te):=by
 intro pins s σ H Q I hw
 rw [evalPart_some]
 refine thn (h pins s σ H _ I hw) fun u s1 ⟨x,H1,I1,r1,q1⟩=>?_
 obtain ⟨i,rfl,q⟩:=q1
 obtain ⟨t,rfl⟩:=r1
 exact ⟨some i,H1,I1,.int i t,q⟩
def SlR (X:Cx) (r:V->Option Int->Option Int->Hp->VK->Prop):Prop :=
 ∀ (pins:List (Addr×Obj)) (s:Shared) (σ:St) (H:Hp) (x:V) (v vl vu:Value) (lo hi:Option Int) (sl:Addr) (Q:VK),Inv X pins σ H s->RelV x v->s.heap.IsSliceOf sl vl vu .none->IsPart vl lo->IsPart vu hi->r x lo hi H Q ->
  ∃ T id,typeLookup (.type T) "__getitem__" = pure (some (.builtin id))/\s.TypeIs v T/\wpAny (model X.prog X.w) X.A (getItem v (.ref sl)) (EP X pins σ Q) X.xe s
theorem SlR.or {r r':V->Option Int->Option Int->Hp->VK->Prop} (h:SlR X r) (h':SlR X r'):SlR X (fun x lo hi H Q=>r x lo hi H Q\/r' x lo hi H Q):=by
 intro pins s σ H x v vl vu lo hi sl Q I rx hs pl pu q
 rcases q with q | q
 ·exact h pins s σ H x v vl vu lo hi sl Q I rx hs pl pu q
 ·exact h' pins s σ H x v vl vu lo hi sl Q I rx hs pl pu q
def Dm (r:V->Option Int->Option Int->Hp->VK->Prop) (te:TE) (tl th:TO):TE:=fun σ H Q=>te σ H fun x H1=>tl σ H1 fun l H2=>th σ H2 fun u H3=>r x l u H3 Q
theorem Do {r:V->Option Int->Option Int->Hp->VK->Prop} (hr:SlR X r) (he:PE X e te) (hl:PO X lo tl) (hu:PO X hi th):PE X (.Subscript e (.Slice lo hi none p2) pos) (Dm r te tl th):=by
 intro pins s σ H Q I h
 refine Subscript_ (thn (he pins s σ H _ I h) fun v s1 ⟨x,H1,I1,r1,q1⟩=>?_)
 refine wpAny_Slice (thn (hl pins s1 σ H1 _ I1 q1) fun vl s2 ⟨l,H2,I2,pl,q2⟩=>thn (hu pins s2 σ H2 _ I2 q2) fun vu s3 ⟨u,H3,I3,pu,q3⟩=>?_)
 rw [NY]
 refine Le ?_
 have I4:Inv X pins σ H3 { s3 with heap:=s3.heap.push { cls:=.type "slice",data:=.fields #[vl,vu,.none] } }:=I3.kept (t' := s3.toks) fun b ob q=>KU _ q
 obtain ⟨T,id,hT,ht,hg⟩:=hr pins { s3 with heap:=s3.heap.push { cls:=.type "slice",data:=.fields #[vl,vu,.none] } } σ H3 x v vl vu l u s3.heap.objs.size Q I4 r1 (NZ ..) pl pu q3
 show wpAny (model X.prog X.w) X.A (subscriptTail e (.Slice lo hi none p2) v (.ref s3.heap.objs.size)) (EP X pins σ Q) X.xe { s3 with heap:=s3.heap.push { cls:=.type "slice",data:=.fields #[vl,vu,.none] } }
 exact tail_any (ops:=[.ref s3.heap.objs.size,v]) ht hT hg (by with_unfolding_all rfl)
def fV (xs:List V) (lo hi:Option Int):List V:=(xs.drop (HT.sIx xs.length 0 lo)).take (HT.sIx xs.length xs.length hi-HT.sIx xs.length 0 lo)
theorem xh (xs:List V) (lo hi:Option Int):(fV xs lo hi).length<=xs.length:=by
 unfold fV
 rw [Lr,Ln]
 lia
def rH (K:PySem.W.Frag):V->Option Int->Option Int->Hp->VK->Prop:=fun x lo hi H Q=>∃ a xs,x = .ref a/\SqT K H a xs /\
 ¬ (HT.sIx xs.length 0 lo=0/\HT.sIx xs.length xs.length hi=xs.length)/\∀ p,H p=none->Q (.ref p) (aV H p (.tup (fV xs lo hi)))
theorem sl_tup:SlR X (rH X.K):=by
 intro pins s σ H x v vl vu lo hi sl Q I rx hs pl pu h
 obtain ⟨a,xs,rfl,hx,hw,q⟩:=h
 cases rx
 obtain ⟨its,r,ht,hz⟩:=I.tuple hx
 have hlen:its.toArray.size=xs.length:=by rw [KY];exact r.length.symm
 refine ⟨"tuple",_,PyProof.Rows.slot_tuple_getitem.lookup,ht.typeIs,?_⟩
 refine HT.getItem_tuple_cut ht hs pl pu (by rw [hlen];exact hw) ?_ (by rw [hlen];exact hz)
 rw [hlen]
 refine ⟨.ref s.heap.objs.size,_,I.laid (t' := s.toks) (o:=.tup (fV xs lo hi)) (fun b ob q=>KU _ q) (KC _) ?_,rfl,q _ (I.hok.fresh (KC _))⟩
 exact ⟨KN (xh xs lo hi) hz,_,(r.drop (HT.sIx xs.length 0 lo)).take (HT.sIx xs.length xs.length hi-HT.sIx xs.length 0 lo),IsTup.new _ _⟩
def Dp (K:PySem.W.Frag):R2:=fun x y H Q=>∃ a b xs ys,x = .ref a/\y = .ref b/\SqT K H a xs/\SqT K H b ys/\xs≠[]/\xs.length+ys.length<=sizeLine /\
 (ys=[]->Q (.ref a) H)/\(ys≠[]->∀ p,H p=none->Q (.ref p) (aV H p (.tup (xs++ys))))
theorem Vals.nil_iff {xs:List V} {us:List Value} (r:Vals xs us):us=[] ↔ xs=[]:=by
 cases r with
 | nil=>simp
 | cons _ _=>simp
theorem zi3:OpR X (binaryOp .Add) (Dp X.K):=by
 intro pins s σ H x y v u Q I rx ry h
 obtain ⟨a,b,xs,ys,rfl,rfl,ha,hb,hx,hz,q1,q2⟩:=h
 cases rx
 cases ry
 obtain ⟨its,r1,p1,_⟩:=I.tuple ha
 obtain ⟨its2,r2,p2,_⟩:=I.tuple hb
 refine HT.cat_tup p1 p2 (fun z=>hx (r1.nil_iff.mp z)) (fun z=>⟨.ref a,H,I,rfl,q1 (r2.nil_iff.mp z)⟩) (fun z=>?_) (by rw [<- r1.length,<- r2.length];exact hz)
 refine ⟨.ref s.heap.objs.size,_,I.laid (t' := s.toks) (o:=.tup (xs++ys)) (fun b ob q=>KU _ q) (KC _) ?_,rfl,q2 (fun w=>z (r2.nil_iff.mpr w)) _ (I.hok.fresh (KC _))⟩
 exact ⟨by rw [KH];exact hz,_,r1.append r2,IsTup.new _ _⟩
end
end L2
namespace L2
open PySem PySem.Spec PyProof.Rows
def jb (n:Nat) (i:Int):Option Nat:=if 0<=i then (if i<n then some i.toNat else none) else if -(n:Int)<=i then some (i+n).toNat else none
def atI {α:Type} (xs:List α) (i:Int):Option α:=(jb xs.length i).bind fun j=>xs[j]?
theorem xj {n:Nat} {i:Int} {j:Nat} (h:jb n i=some j):seqIndex? i n=some j/\j<n /\ -(n:Int)<=i/\i<n:=by
 unfold jb at h
 by_cases h0:0<=i
 ·rw [KS h0] at h
  by_cases h1:i<n
  ·rw [KS h1] at h
   have e:i.toNat=j:=Lj h
   exact ⟨by rw [seqIndex_of h0 h1,e],by lia,by lia,h1⟩
  ·rw [KW h1] at h;cases h
 ·rw [KW h0] at h
  by_cases h1 : -(n:Int)<=i
  ·rw [KS h1] at h
   have e:(i+n).toNat=j:=Lj h
   exact ⟨by rw [Oq (by lia) h1,e],by lia,h1,by lia⟩
  ·rw [KW h1] at h;cases h
theorem oX {α:Type} {xs:List α} {i:Int} {v:α} (h:atI xs i=some v):∃ j,seqIndex? i xs.length=some j/\xs[j]? = some v/\j<xs.length /\ -(xs.length:Int)<=i/\i<xs.length:=by
 unfold atI at h
 cases e:jb xs.length i with
 | none=>rw [e] at h;cases h
 | some j =>
  rw [e] at h
  obtain ⟨h1,h2,h3,h4⟩:=xj e
  exact ⟨j,h1,h,h2,h3,h4⟩
theorem kR {α:Type} {xs:List α} {j:Nat} {v:α} (h:xs[j]? = some v):atI xs (j:Int)=some v:=by
 have hj:j<xs.length:=(Kz.mp h).1
 have e:jb xs.length (j:Int)=some j:=by
  unfold jb
  rw [KS (by lia),KS (by lia)];simp
 unfold atI;rw [e];exact h
def xk (b:Expr):Prop:=∀ o i,subscripted b false o i=operate [o,i] (getItem o i)
def IxR (X:Cx) (r:R2):Prop :=
 ∀ (value slice:Expr) (pins:List (Addr×Obj)) (s:Shared) (σ:St) (H:Hp) (x y:V) (v u:Value) (Q:VK),Inv X pins σ H s->RelV x v->RelV y u->r x y H Q ->
  subscripted slice false v u=operate [v,u] (getItem v u)->wpAny (model X.prog X.w) X.A (subscriptTail value slice v u) (EP X pins σ Q) X.xe s
def jc (X:Cx) (id:String) (r:V->List V->Hp->VK->Prop):Prop :=
 ∀ (pins:List (Addr×Obj)) (s:Shared) (σ:St) (H:Hp) (x:V) (xs:List V) (v:Value) (us:List Value) (Q:VK),Inv X pins σ H s->RelV x v->Vals xs us->r x xs H Q ->
  wpAny (model X.prog X.w) X.A (call (.builtin id) (v::us)) (EP X pins σ Q) X.xe s
section
variable {X:Cx} {a b:Expr} {ta tb:TE} {pos:Pos}
theorem IxR.or {r r':R2} (h:IxR X r) (h':IxR X r'):IxR X (fun x y H Q=>r x y H Q\/r' x y H Q):=by
 intro value slice pins s σ H x y v u Q I rx ry q hs
 rcases q with q | q
 ·exact h value slice pins s σ H x y v u Q I rx ry q hs
 ·exact h' value slice pins s σ H x y v u Q I rx ry q hs
theorem Dq {r:R2} (hr:IxR X r) (ha:PE X a ta) (hb:PE X b tb) (hs:xk b):PE X (.Subscript a b pos) (mh r ta tb):=by
 intro pins s σ H Q I h
 exact Subscript_ (kN ha hb I h fun v u s2 x y H2 I2 rx ry q=>hr a b pins s2 σ H2 x y v u Q I2 rx ry q (hs _ _))
def mX (K:PySem.W.Frag):R2:=fun x y H Q=>∃ p xs i v,x = .ref p/\y = .int i/\SqL K H p xs/\atI xs i=some v/\Q v H
def mY (K:PySem.W.Frag):R2:=fun x y H Q=>∃ p xs i v,x = .ref p/\y = .int i/\SqT K H p xs/\atI xs i=some v/\Q v H
def mZ:R2:=fun x y H Q=>∃ z i c,x = .str z/\y = .int i/\z.length<=sizeLine/\atI z.cps.toList i=some c/\Q (.str ⟨#[c]⟩) H
theorem zi4:IxR X (mX X.K):=by
 intro value slice pins s σ H x y v u Q I rx ry h hs
 obtain ⟨p,xs,i,z,rfl,rfl,hq,he,q⟩:=h
 cases rx
 obtain ⟨t,rfl⟩:=ry
 obtain ⟨its,r,pl,hz⟩:=I.list hq
 obtain ⟨j,h1,h2,h3,h4,h5⟩:=oX he
 obtain ⟨w,ew,rw'⟩:=r.get h2
 have hl:=r.length
 have hn:=kQ
 have fin:EP X pins σ Q w s:=⟨z,H,I,rw',q⟩
 by_cases h0:0<=i
 ·have hj:i.toNat=j:=by
   rw [seqIndex_of h0 h5] at h1
   exact Lj h1
  exact item_listR pl.isList h0 (by lia) (by rw [hj];simpa using ew) fin hs
 ·have hj:(i+(its.toArray.size:Int)).toNat=j:=by
   rw [Oq (by lia) h4] at h1
   rw [KY,<- hl]
   exact Lj h1
  exact Nx (x:=w) pl.isList.typeIs slot_list_getitem.lookup
   (wpAny_getItem_list_neg (Q:=fun r s' => r=w/\EP X pins σ Q r s') pl.isList (by lia) (by rw [KY]<;>lia) (by lia) (by rw [hj];simpa using ew) ⟨rfl,fin⟩) hs
theorem ix_tup:IxR X (mY X.K):=by
 intro value slice pins s σ H x y v u Q I rx ry h hs
 obtain ⟨p,xs,i,z,rfl,rfl,hq,he,q⟩:=h
 cases rx
 obtain ⟨t,rfl⟩:=ry
 obtain ⟨its,r,pl,hz⟩:=I.tuple hq
 obtain ⟨j,h1,h2,h3,h4,h5⟩:=oX he
 obtain ⟨w,ew,rw'⟩:=r.get h2
 have hl:=r.length
 have hn:=kQ
 have fin:EP X pins σ Q w s:=⟨z,H,I,rw',q⟩
 exact Nx (x:=w) pl.typeIs slot_tuple_getitem.lookup
  (getItem_tuple (j:=j) (Q:=fun r s' => r=w/\EP X pins σ Q r s') pl (by lia) (by lia) (by rw [KY,<- hl];exact h1) (by simpa using ew) ⟨rfl,fin⟩) hs
theorem Dr:IxR X mZ:=by
 intro value slice pins s σ H x y v u Q I rx ry h hs
 obtain ⟨z,i,c,rfl,rfl,hz,he,q⟩:=h
 obtain ⟨t,rfl⟩:=rx
 obtain ⟨t',rfl⟩:=ry
 obtain ⟨j,h1,h2,h3,h4,h5⟩:=oX he
 have hl:z.cps.toList.length=z.length:=by simp [Str.length]
 rw [hl] at h1 h4 h5
 have hn:=kQ
 exact tail_any (N9 s z t) slot_str_getitem.lookup (getItem_str (c:=c) (by
  have e1:decide (i < -(2 ^ 63:Int))=false:=KD (by lia)
  have e2:decide (i ≥ 2 ^ 63)=false:=KD (by lia)
  rw [e1,e2,Bool.or_false]) (by rw [h1];simpa using h2) ⟨.str ⟨#[c]⟩,H,I.tok _,⟨_,rfl⟩,q⟩) hs
def xl (K:PySem.W.Frag):R2:=fun x y H Q=>mX K x y H Q\/mY K x y H Q\/mZ x y H Q
theorem Ds:IxR X (xl X.K):=zi4.or (ix_tup.or Dr)
theorem Dt (its:List Value) (n j:Nat) (u:Value):Obj.mapSeq (·.setIfInBounds j u) { cls:=.type "list",data:=.seq its.toArray n }={ cls:=.type "list",data:=.seq (its.set j u).toArray n }:=by
 simp [Obj.mapSeq]
theorem Inv.lst {pins:List (Addr×Obj)} {σ:St} {H:Hp} {s:Shared} {p:Addr} {xs:List V} (I:Inv X pins σ H s) (h:H p=some (.lst xs)) :
  ∃ (its:List Value) (n:Nat),Vals xs its/\s.heap.get? p=some { cls:=.type "list",data:=.seq its.toArray n }/\xs.length<=sizeLine:=by
 obtain ⟨z,its,n,r,e⟩:=I.hok p _ h
 exact ⟨its,n,r,e,z⟩
theorem Inv.lstUpd {pins:List (Addr×Obj)} {σ:St} {H:Hp} {s:Shared} {p:Addr} {xs ys:List V} {its its':List Value} {n n':Nat} {f:Obj->Obj} (I:Inv X pins σ H s) (h:H p=some (.lst xs))
  (ho:s.heap.get? p=some { cls:=.type "list",data:=.seq its.toArray n }) (hf:f { cls:=.type "list",data:=.seq its.toArray n }={ cls:=.type "list",data:=.seq its'.toArray n' }) (r:Vals ys its') (hz:ys.length<=sizeLine) (t:Nat) :
  Inv X pins σ (aV H p (.lst ys)) { s with heap:=s.heap.update p f,toks:=t }:=by
 have e:(s.heap.update p f).get? p=some { cls:=.type "list",data:=.seq its'.toArray n' }:=by
  rw [Heap.get?_update_self f ho (by rw [hf]<;>rfl),hf]
 refine I.write (x:=p) (e:=p) (by rw [h];trivial) (.inl rfl) (fun b u hb q=>(Nm _ _ (Ne.symm hb)).trans q) ⟨_,e⟩ ?_
 exact ⟨hz,its',n',r,e⟩
def Du:V->V->V->Hp->(Hp->Prop)->Prop:=fun o i v H Q=>∃ p xs k j,o = .ref p/\i = .int k/\H p=some (.lst xs)/\jb xs.length k=some j/\Q (aV H p (.lst (xs.set j v)))
theorem Dv:mU X Du:=by
 intro pins s σ H o i v ov iv u Q I ro ri rv h
 obtain ⟨p,xs,k,j,rfl,rfl,hp,hj,q⟩:=h
 cases ro
 obtain ⟨t,rfl⟩:=ri
 obtain ⟨its,n,r,ho,hz⟩:=I.lst hp
 obtain ⟨h1,h2,h3,h4⟩:=xj hj
 have hl:=r.length
 have hn:=kQ
 have I':Inv X pins σ (aV H p (.lst (xs.set j v))) { s with heap:=s.heap.update p (Obj.mapSeq (·.setIfInBounds j u)) } :=
  I.lstUpd hp ho (Dt its n j u) (r.set rv j) (by rw [LI];exact hz) s.toks
 by_cases h0:0<=k
 ·have hk:k.toNat=j:=by
   rw [seqIndex_of h0 h4] at h1
   exact Lj h1
  exact PySem.W.ki_setAt ho h0 (by lia) (by rw [KY,<- hl];exact h4) (by rw [hk];exact ⟨_,I',q⟩)
 ·have hk:(k+(its.toArray.size:Int)).toNat=j:=by
   rw [Oq (by lia) h3] at h1
   rw [KY,<- hl]
   exact Lj h1
  exact PySem.W.ki_setBack ho (by lia) (by rw [KY,<- hl];exact h3) (by lia) (by rw [hk];exact ⟨_,I',q⟩)
theorem Dw (lo hi:Option Int) (n:Nat):(sliceBounds lo hi none n).1=((HT.sIx n 0 lo:Nat):Int)/\(sliceBounds lo hi none n).2.1=((HT.sIx n n hi:Nat):Int)/\(sliceBounds lo hi none n).2.2=1:=by
 refine ⟨?_,?_,rfl⟩
 ·cases lo with
  | none=>simp [sliceBounds,HT.sIx]
  | some i =>
   simp only [sliceBounds,HT.sIx,Option.getD_none,show (1:Int) > 0 by decide,Mc]
   by_cases h:i<0
   ·simp only [h,Mc]<;>lia
   ·simp only [h,Ov]<;>lia
 ·cases hi with
  | none=>simp [sliceBounds,HT.sIx]
  | some i =>
   simp only [sliceBounds,HT.sIx,Option.getD_none,show (1:Int) > 0 by decide,Mc]
   by_cases h:i<0
   ·simp only [h,Mc]<;>lia
   ·simp only [h,Ov]<;>lia
theorem xm (its:List Value) (lo hi:Option Int):slicePick its.toArray lo hi none=((its.drop (HT.sIx its.length 0 lo)).take (HT.sIx its.length its.length hi-HT.sIx its.length 0 lo)).toArray:=by
 obtain ⟨h1,h2,h3⟩:=Dw lo hi its.toArray.size
 unfold slicePick
 rw [h1,h2,h3]
 simp only [sliceRange_one,pick_run,KY]<;>rfl
def rJ (K:PySem.W.Frag):V->Option Int->Option Int->Hp->VK->Prop:=fun x lo hi H Q=>∃ a xs,x = .ref a/\SqL K H a xs/\∀ p,H p=none->Q (.ref p) (aV H p (.lst (fV xs lo hi)))
theorem zi5:SlR X (rJ X.K):=by
 intro pins s σ H x v vl vu lo hi sl Q I rx hs pl pu h
 obtain ⟨a,xs,rfl,hx,q⟩:=h
 cases rx
 obtain ⟨its,r,ht,hz⟩:=I.list hx
 have hlen:=r.length
 refine ⟨"list",_,slot_list_getitem.lookup,ht.isList.typeIs,?_⟩
 refine Nd ht.isList hs pl pu .none (by simp) ?_ (by rw [KY]<;>lia)
 rw [xm,<- hlen]
 refine ⟨.ref s.heap.objs.size,_,I.laid (t' := s.toks) (o:=.lst (fV xs lo hi)) (fun b ob q=>KU _ q) (KC _) ?_,rfl,q _ (I.hok.fresh (KC _))⟩
 exact ⟨KN (xh xs lo hi) hz,_,0,(r.drop (HT.sIx xs.length 0 lo)).take (HT.sIx xs.length xs.length hi-HT.sIx xs.length 0 lo),Li _ rfl⟩
theorem zev:OpR X (compareOp .NotIn) (fun x y H Q=>∃ i j,x = .str i/\y = .str j/\Q (.bl (!(!(Builtin.Str.occurrences j i 0 j.length 1).isEmpty))) H):=by
 intro pins s σ H x y v u Q I rx ry h
 obtain ⟨i,j,rfl,rfl,q⟩:=h
 obtain ⟨t,rfl⟩:=rx
 obtain ⟨t',rfl⟩:=ry
 exact notIn_str ⟨.bl _,H,I,rfl,q⟩
theorem zew:CallR X (.builtin "len") (fun xs H Q=>∃ p ys,xs=[.ref p]/\(SqL X.K H p ys\/SqT X.K H p ys)/\Q (.int ys.length) H):=by
 intro pins s σ H xs us Q I r h
 obtain ⟨p,ys,rfl,hq,q⟩:=h
 obtain ⟨u,rfl,rx⟩:=jB r
 cases rx
 have hn:=kQ
 rcases hq with hq | hq
 ·obtain ⟨its,r',pl,hz⟩:=I.list hq
  have hlen:=r'.length
  exact Calls.call_len_list pl.isList (by simp only [KY]<;>lia) ⟨.int ys.length,H,I.tok _,⟨s.toks+1,by rw [KY,hlen]⟩,q⟩
 ·obtain ⟨its,r',pl,hz⟩:=I.tuple hq
  have hlen:=r'.length
  exact len_tuple pl (by simp only [KY]<;>lia) ⟨.int ys.length,H,I.tok _,⟨s.toks+1,by rw [KY,hlen]⟩,q⟩
theorem zex:CallR X (.builtin "len") (fun xs H Q=>∃ z,xs=[.str z]/\z.length<=sizeLine/\Q (.int z.length) H):=by
 intro pins s σ H xs us Q I r h
 obtain ⟨z,rfl,hz,q⟩:=h
 obtain ⟨u,rfl,t,rfl⟩:=jB r
 have hn:=kQ
 exact len_str (by lia) ⟨.int z.length,H,I.tok _,⟨_,rfl⟩,q⟩
theorem CallR.or {f:Value} {r r':List V->Hp->VK->Prop} (h:CallR X f r) (h':CallR X f r'):CallR X f (fun xs H Q=>r xs H Q\/r' xs H Q):=by
 intro pins s σ H xs us Q I rs q
 rcases q with q | q
 ·exact h pins s σ H xs us Q I rs q
 ·exact h' pins s σ H xs us Q I rs q
theorem Dx:CallR X (.type "list") (fun xs H Q=>∃ p ys,xs=[.ref p]/\(SqL X.K H p ys\/SqT X.K H p ys)/\∀ l,H l=none->Q (.ref l) (aV H l (.lst ys))):=by
 intro pins s σ H xs us Q I r h
 obtain ⟨p,ys,rfl,hq,q⟩:=h
 obtain ⟨u,rfl,rx⟩:=jB r
 cases rx
 have fin:∀ (its:List Value),Vals ys its->ys.length<=sizeLine->∀ (h':Heap) (c':Nat),(∀ b o',s.heap.get? b=some o'->h'.get? b=some o') ->
   h'.get? s.heap.objs.size=some { cls:=.type "list",dict:=none,data:=.seq its.toArray c',slots:=#[] }->EP X pins σ Q (.ref s.heap.objs.size) { s with heap:=h' }:=fun its r' hz h' c' kp e =>
  ⟨.ref s.heap.objs.size,_,I.laid (t' := s.toks) kp (KC _) (show ObjOk X.prog X.w _ h' _ (.lst ys) from ⟨hz,its,c',r',e⟩),rfl,q _ (I.hok.fresh (KC _))⟩
 rcases hq with hq | hq
 ·obtain ⟨its,r',pl,hz⟩:=I.list hq
  have hlen:=r'.length
  obtain ⟨o,ho,hc,n,hd⟩:=pl.isList
  exact call_list_seq p (.inl rfl) ho hc hd (fun h' c' kp e=>fin its r' hz h' c' kp e) (by simp only [KY]<;>lia)
 ·obtain ⟨its,r',pl,hz⟩:=I.tuple hq
  have hlen:=r'.length
  obtain ⟨o,ho,hc,n,hd⟩:=pl
  exact call_list_seq p (.inr rfl) ho hc hd (fun h' c' kp e=>fin its r' hz h' c' kp e) (by simp only [KY]<;>lia)
def oY (K:PySem.W.Frag) (T:String) (x:V) (H:Hp):Prop:=match x with
 | .str _=>T = "str"
 | .int _=>T = "int"
 | .ref p=>(T = "list" /\ ∃ xs,SqL K H p xs)\/(T = "tuple" /\ ∃ o,K.lookup p=some o/\o.cls = .type "tuple" /\ o.dict=none) \/
   (T = "dict" /\ ((∃ kvs,H p=some (.dK kvs))\/∃ kvs,H p=some (.dT kvs)))\/(T = "set" /\ ∃ S n,H p=some (.set S n))
 | _=>False
theorem xo {pins:List (Addr×Obj)} {σ:St} {H:Hp} {s:Shared} {T:String} {x:V} {v:Value} (I:Inv X pins σ H s) (r:RelV x v) (ty:oY X.K T x H) :
  s.TypeIs v T/\∀ a,v = .ref a->∃ ob,s.heap.get? a=some ob/\ob.dict=none:=by
 cases x with
 | str z =>
  obtain ⟨t,rfl⟩:=r
  cases (show T = "str" from ty)
  exact ⟨N9 s z t,fun _ e=>nomatch e⟩
 | int i =>
  obtain ⟨t,rfl⟩:=r
  cases (show T = "int" from ty)
  exact ⟨typeIs_int s i t,fun _ e=>nomatch e⟩
 | ref p =>
  cases r
  rcases ty with ⟨rfl,xs,hq⟩ | ⟨rfl,o,hk,hc,hd⟩ | ⟨rfl,hk⟩ | ⟨rfl,S,n,hk⟩
  ·obtain ⟨its,_,pl,_⟩:=I.list hq
   refine ⟨pl.isList.typeIs,fun a e=>?_⟩
   cases e
   obtain ⟨o,n,e,c,hd,_⟩:=pl
   exact ⟨o,e,hd⟩
  ·refine ⟨⟨o,I.kIn p o hk,hc⟩,fun a e=>?_⟩
   cases e
   exact ⟨o,I.kIn _ o hk,hd⟩
  ·have z:∃ o,s.heap.get? p=some o/\o.ExactDict:=by
    rcases hk with ⟨kvs,hk⟩ | ⟨kvs,hk⟩
    ·obtain ⟨_,_,_,_,o,_,_,e,ex,_⟩:=I.hok p _ hk
     exact ⟨o,e,ex⟩
    ·obtain ⟨_,_,_,_,o,_,_,e,ex,_⟩:=I.hok p _ hk
     exact ⟨o,e,ex⟩
   obtain ⟨o,e,ex⟩:=z
   refine ⟨⟨o,e,ex.1⟩,fun a e2=>?_⟩
   cases e2
   exact ⟨o,e,ex.2.1⟩
  ·obtain ⟨o,_,_,_,e,ex,_⟩:=I.hok p _ hk
   refine ⟨⟨o,e,ex.1⟩,fun a e2=>?_⟩
   cases e2
   exact ⟨o,e,ex.2.1⟩
 | _=>exact False.elim ty
def rK (K:PySem.W.Frag) (T:String) (r:V->List V->Hp->VK->Prop) (to:TE):TE:=fun σ H Q=>to σ H fun x H1=>oY K T x H1/\r x [] H1 Q
def Dy (K:PySem.W.Frag) (T:String) (r:V->List V->Hp->VK->Prop) (to:TE) (t:TA):TE:=fun σ H Q=>to σ H fun x H1=>oY K T x H1/\t σ H1 fun xs H2=>r x xs H2 Q
variable {o e:Expr} {es:List Expr} {to:TE} {t:TA} {name:Str} {apos cpos:Pos} {T id:String} {r:V->List V->Hp->VK->Prop}
theorem Dz (pa:PlainAttrs T) (slot:Slot T name id) (hty:typeOf (.builtin id)=pure (.type "method_descriptor")) (hm:jc X id r) (ho:PE X o to)
  (hbase:attributeBase o name X.env (eval o X.env)=eval o X.env:=by rfl) (hline:(apos.endLine == cpos.line)=true:=by rfl):PE X (.Call (.Attribute o name apos) [] [] cpos) (rK X.K T r to):=by
 intro pins s σ H Q I h
 refine wpAny_Call_method0_late hbase hline (thn (ho pins s σ H _ I h) fun v s1 ⟨x,H1,I1,r1,ty,q1⟩=>?_)
 obtain ⟨h1,h2⟩:=xo I1 r1 ty
 exact ⟨T,id,pa,slot,hty,h1,h2,Nn rfl (PySem.evalArgs_none (hm pins s1 σ H1 x [] v [] Q I1 r1 .nil q1))⟩
theorem DA (pa:PlainAttrs T) (slot:Slot T name id) (hty:typeOf (.builtin id)=pure (.type "method_descriptor")) (hm:jc X id r) (ho:PE X o to) (ha:PA X (e::es) t)
  (hbase:attributeBase o name X.env (eval o X.env)=eval o X.env:=by rfl)
  (hfew:((backTo cpos (starEach (e::es) X.env)).all (fun x=>!x.1) && (backToKw cpos (keywordEach [] X.env)).all (fun x=>x.1.isSome)
   && decide ((e::es).length+([]:List Keyword).length+(if ([]:List Keyword).isEmpty then 0 else 1)<30))=true:=by rfl)
  (hline:(apos.endLine == cpos.line)=true:=by rfl) (hs:starEach (e::es) X.env=(false,eval e X.env)::starEach es X.env:=by rfl) (hplain:(backTo cpos (starEach es X.env)).any (·.1)=false:=by rfl) :
  PE X (.Call (.Attribute o name apos) (e::es) [] cpos) (Dy X.K T r to t):=by
 intro pins s σ H Q I h
 refine wpAny_Call_method_late hbase hfew hline rfl (thn (ho pins s σ H _ I h) fun v s1 ⟨x,H1,I1,r1,ty,q1⟩=>?_)
 obtain ⟨h1,h2⟩:=xo I1 r1 ty
 refine ⟨T,id,pa,slot,hty,h1,h2,?_⟩
 have hA:=ha cpos pins s1 σ H1 _ I1 q1
 rw [hs] at hA ⊢
 refine Nn (by show (false || (backTo cpos (starEach es X.env)).any (·.1))=false;rw [hplain]<;>rfl) (NL ?_)
 exact thn hA fun us s2 ⟨vs,H2,I2,r2,q2⟩=>hm pins s2 σ H2 x vs v us Q I2 r1 r2 q2
end
end L2
namespace L2
open PySem PySem.Spec PyProof.Rows
def xp (X:Cx) (id:String) (r:V->List V->Hp->VK->Prop):Prop :=
 ∀ (pins:List (Addr×Obj)) (s:Shared) (σ:St) (H:Hp) (x:V) (xs:List V) (v:Value) (us:List Value) (Q:VK),Inv X pins σ H s->RelV x v->Vals xs us->r x xs H Q ->
  wpAny (model X.prog X.w) X.A (call (.builtin id) (v::us)) (EP X pins σ Q) X.xe s
theorem Vals.one:∀ {x:V} {us:List Value},Vals [x] us->∃ u,us=[u]/\RelV x u
 | _,_,.cons r .nil=>⟨_,rfl,r⟩
theorem Vals.zero:∀ {us:List Value},Vals [] us->us=[]
 | _,.nil=>rfl
theorem Vals.dropLast {xs:List V} {us:List Value} (h:Vals xs us):Vals xs.dropLast us.dropLast:=by
 induction h with
 | nil=>exact .nil
 | cons r t ih =>
  cases t with
  | nil=>exact .nil
  | cons q t' => exact .cons r ih
theorem Vals.reverse {xs:List V} {us:List Value} (h:Vals xs us):Vals xs.reverse us.reverse:=by
 induction h with
 | nil=>exact .nil
 | cons r t ih=>rw [Ob,Ob];exact Vals.append ih (.cons r .nil)
theorem DB {α:Type} (l:List α):l.eraseIdx (l.length-1)=l.dropLast:=by
 induction l with
 | nil=>rfl
 | cons a r ih =>
  cases r with
  | nil=>rfl
  | cons b r =>
   have e:(a::b::r).length-1=((b::r).length-1)+1:=by
    have h1:(a::b::r).length=r.length+2:=rfl
    have h2:(b::r).length=r.length+1:=rfl
    lia
   rw [e,List.eraseIdx_cons_succ,ih]
   all_goals rfl
section
variable {X:Cx} {pins:List (Addr×Obj)} {σ:St} {H:Hp} {s:Shared} {l b:Addr} {xs ys zs:List V}
theorem Inv.lset {its its':List Value} {n:Nat} {f:Array Value->Array Value} {t':Nat} (I:Inv X pins σ H s) (hH:H l=some (.lst xs))
  (e:s.heap.get? l=some { cls:=.type "list",data:=.seq its.toArray n }) (hf:f its.toArray=its'.toArray) (hv:Vals ys its') (hz:ys.length<=sizeLine) :
  Inv X pins σ (aV H l (.lst ys)) { s with heap:=s.heap.update l (Obj.mapSeq f),toks:=t' }:=by
 have q:=PySem.IsL.update e f
 rw [hf] at q
 refine I.write (x:=l) (e:=l) (by rw [hH];exact trivial) (.inl rfl) (fun b' u hb hu=>(Nm s.heap (Obj.mapSeq f) (Ne.symm hb)).trans hu) ⟨_,q⟩ ?_
 exact ⟨hz,its',_,hv,q⟩
theorem Inv.lnew {its:List Value} {t':Nat} (I:Inv X pins σ H s) (hv:Vals ys its) (hz:ys.length<=sizeLine) :
  Inv X pins σ (aV H s.heap.objs.size (.lst ys)) { s with heap:=s.heap.push { cls:=.type "list",data:=.seq its.toArray },toks:=t' } :=
 I.laid (fun _ _ q=>KU _ q) (KC _) ⟨hz,its,0,hv,Li _ rfl⟩
theorem Inv.fresh (I:Inv X pins σ H s):H s.heap.objs.size=none:=I.hok.fresh (KC _)
theorem Inv.lstM (I:Inv X pins σ H s) (hH:H l=some (.lst xs)):xs.length<=sizeLine/\∃ (its:List Value) (n:Nat),Vals xs its/\xs.length=its.length/\s.heap.get? l=some { cls:=.type "list",data:=.seq its.toArray n }:=by
 obtain ⟨z,its,n,r,e⟩:=I.hok l _ hH
 exact ⟨z,its,n,r,r.length,e⟩
theorem DC {n:Nat} (h:n<=sizeLine):Builtin.List.listTooLong n=false:=by
 unfold Builtin.List.listTooLong
 exact KD (by lia)
end
section
variable {X:Cx}
def DD:V->List V->Hp->VK->Prop:=fun x vs H Q=>∃ l xs y,x = .ref l/\vs=[y]/\H l=some (.lst xs)/\xs.length<sizeLine/\Q .non (aV H l (.lst (xs++[y])))
theorem xq:xp X "list.append" DD:=by
 intro pins s σ H x vs v us Q I rx rv h
 obtain ⟨l,xs,y,rfl,rfl,hH,hz,q⟩:=h
 cases rx
 obtain ⟨u,rfl,ru⟩:=rv.one
 obtain ⟨z,its,n,r,hl,e⟩:=I.lstM hH
 refine Ow F.slot_list_append ⟨_,e,rfl⟩ F.entry_list_append (F.args_list_append_2 _ _) (PySem.list_append l its.toArray n u (by rw [KY];lia)) ⟨e,?_⟩
 refine ⟨.non,_,I.lset (its' := its++[u]) hH e (by simp) (r.append (.cons ru .nil)) ?_,rfl,q⟩
 rw [KH,NF]
 lia
def rL:V->List V->Hp->VK->Prop:=fun x vs H Q=>∃ l xs y,x = .ref l/\vs=[]/\H l=some (.lst xs)/\xs[xs.length-1]? = some y/\Q y (aV H l (.lst xs.dropLast))
theorem DE:xp X "list.pop" rL:=by
 intro pins s σ H x vs v us Q I rx rv h
 obtain ⟨l,xs,y,rfl,rfl,hH,hy,q⟩:=h
 cases rx
 have hus:=rv.zero
 subst hus
 obtain ⟨z,its,n,r,hl,e⟩:=I.lstM hH
 obtain ⟨u,hu,ru⟩:=r.get hy
 have hy':its.toArray[its.toArray.size-1]? = some u:=by
  show its.toArray[its.length-1]? = some u
  rw [<- Array.getElem?_toList,<- hl]
  exact hu
 refine Ow F.slot_list_pop ⟨_,e,rfl⟩ F.entry_list_pop (F.args_list_pop_1 _) (MeetsSeq.list_pop_last l its.toArray n u hy' (by rw [KY];lia)) ⟨e,?_⟩
 refine ⟨y,_,I.lset (its' := its.dropLast) hH e ?_ r.dropLast ?_,ru,q⟩
 ·show its.toArray.eraseIdxIfInBounds (its.toArray.size-1)=its.dropLast.toArray
  rw [KY,List.eraseIdxIfInBounds_toArray,DB]
 ·rw [List.length_dropLast]
  lia
end
section
variable {prog:Program} {w:World} {A:Around} {E:Value->Shared->Prop} {s:Shared}
end
section
variable {X:Cx}
end
end L2
namespace L2
open PySem PySem.Spec PyProof.Rows
section
variable {κ:Type} [DecidableEq κ]
def cW (kvs:List (κ×V)) (k:κ):Option V:=(kvs.find? fun kv=>decide (kv.1=k)).map (·.2)
def cX (kvs:List (κ×V)) (k:κ) (v:V):List (κ×V) :=
 if (kvs.any fun kv=>decide (kv.1=k))=true then kvs.map (fun kv=>if kv.1=k then (kv.1,v) else kv) else kvs++[(k,v)]
theorem oZ {p:κ×V} {r:List (κ×V)} {k:κ} (e:p.1=k):cW (p::r) k=some p.2:=by simp [cW,LJ,e]
theorem m7 {p:κ×V} {r:List (κ×V)} {k:κ} (e : ¬ p.1=k):cW (p::r) k=cW r k:=by simp [cW,LJ,e]
theorem rM (k:κ):∀ kvs:List (κ×V),(kvs.any fun kv=>decide (kv.1=k))=(cW kvs k).isSome
 | []=>rfl
 | p::r=>by
  rw [Mv]
  by_cases e:p.1=k
  ·simp only [oZ e,KQ e,Bool.true_or,Option.isSome_some]
  ·rw [m7 e,KD e,Bool.false_or];exact rM k r
theorem xr (kvs:List (κ×V)) (k:κ) (v:V):(cX kvs k v).length<=kvs.length+1:=by
 unfold cX
 split
 ·rw [K4];lia
 ·rw [KH,KO,List.length_nil];lia
theorem RelO.isSome_eq {o:Option V} {u:Option Value} (r:RelO o u):o.isSome=u.isSome:=by
 cases o with
 | none=>cases u with
  | none=>rfl
  | some _=>exact (show False from r).elim
 | some _=>cases u with
  | none=>exact (show False from r).elim
  | some _=>rfl
theorem KV.val {kvs:List (κ×V)} {vs:List (κ×Value)} (r:KV kvs vs) (k:κ):RelO (cW kvs k) (valueAt vs k):=by
 unfold KV at r
 induction r with
 | nil=>exact True.intro
 | @cons p q ps qs h t ih =>
  obtain ⟨h1,h2⟩:=h
  by_cases e:p.1=k
  ·have e':q.1=k:=h1.symm.trans e
   have b:valueAt (q::qs) k=some q.2:=by simp [valueAt,LJ,e']
   rw [oZ e,b];exact h2
  ·have e' : ¬ q.1=k:=fun z=>e (h1.trans z)
   have b:valueAt (q::qs) k=valueAt qs k:=by simp [valueAt,LJ,e']
   rw [m7 e,b];exact ih
theorem KV.any {kvs:List (κ×V)} {vs:List (κ×Value)} (r:KV kvs vs) (k:κ):(kvs.any fun kv=>decide (kv.1=k))=vs.any fun kv=>decide (kv.1=k):=by
 unfold KV at r
 induction r with
 | nil=>rfl
 | cons h t ih=>rw [Mv,Mv,ih,h.1]
theorem KV.repl {kvs:List (κ×V)} {vs:List (κ×Value)} (r:KV kvs vs) (k:κ) {y:V} {u:Value} (ry:RelV y u) :
  KV (kvs.map fun kv=>if kv.1=k then (kv.1,y) else kv) (vs.map fun kv=>if kv.1=k then (kv.1,u) else kv):=by
 unfold KV at r ⊢
 induction r with
 | nil=>exact .nil
 | @cons p q ps qs h t ih =>
  rw [Ls,Ls]
  refine .cons ?_ ih
  obtain ⟨h1,h2⟩:=h
  by_cases e:p.1=k
  ·rw [KS e,KS (h1.symm.trans e)];exact ⟨h1,ry⟩
  ·rw [KW e,KW (fun z=>e (h1.trans z))];exact ⟨h1,h2⟩
theorem KV.put {kvs:List (κ×V)} {vs:List (κ×Value)} (r:KV kvs vs) (k:κ) {y:V} {u:Value} (ry:RelV y u):KV (cX kvs k y) (stored vs k u):=by
 unfold cX stored
 rw [r.any k]
 by_cases e:(vs.any fun kv=>decide (kv.1=k))=true
 ·rw [KS e,KS e];exact r.repl k ry
 ·rw [KW e,KW e];exact Paired.snoc r ⟨rfl,ry⟩
theorem KV.length {kvs:List (κ×V)} {vs:List (κ×Value)} (r:KV kvs vs):kvs.length=vs.length:=Paired.length r
end
theorem rN {P:Program} {w:World} {k:bo} {u:Value} (r:RelV (kV k) u):(gC P w).is k u=true:=by
 cases k with
 | inl i=>obtain ⟨t,e⟩:=(show ∃ t,u=Value.int i t from r);subst e;exact wD P w i t
 | inr x=>obtain ⟨t,e⟩:=(show ∃ t,u=Value.str x t from r);subst e;exact wF P w x t
theorem DF {P:Program} {w:World} {y:V} {k:bo} {u:Value} (e:l9 y=some k) (r:RelV y u):(gC P w).is k u=true:=by
 cases y with
 | int i=>cases e;obtain ⟨t,e⟩:=(show ∃ t,u=Value.int i t from r);subst e;exact wD P w i t
 | str x=>cases e;obtain ⟨t,e⟩:=(show ∃ t,u=Value.str x t from r);subst e;exact wF P w x t
 | bl b=>cases e;cases (show u=Value.bool b from r);exact KQ rfl
 | _=>cases e
theorem xt {P:Program} {w:World}:∀ {ys:List V} {ks:List bo} {us:List Value},ys.map l9=ks.map some->Vals ys us->ItemsAre (gC P w) ks us
 | [],[],_,_,r=>by cases r;exact .nil
 | [],_::_,_,e,_=>by simp at e
 | _::_,[],_,e,_=>by simp at e
 | y::ys,k::ks,_,e,r=>by
  rw [Ls,Ls] at e
  injection e with e1 e2
  cases r with
  | cons h t=>exact .cons (DF e1 h) (xt e2 t)
def KTup (H:Hp) (b:Addr) (k:List bo):Prop:=∃ ys,H b=some (.tup ys)/\ys.map l9=k.map some
theorem KTup.of {H:Hp} {b:Addr} {k:List bo} (e:H b=some (.tup (k.map kV))):KTup H b k:=⟨_,e,by rw [List.map_map];exact NS fun x _=>Bb x⟩
abbrev KT (H:Hp):List (List bo×V)->List (List bo×Addr×Value)->Prop:=Paired fun p q=>p.1=q.1/\(∃ ys,H q.2.1=some (.tup ys)/\ys.map l9=p.1.map some)/\RelV p.2 q.2.2
theorem KT.val {H:Hp} {kvs:List (List bo×V)} {xs:List (List bo×Addr×Value)} (r:KT H kvs xs) (k:List bo):RelO (cW kvs k) ((atKey xs k).map (·.2)):=by
 induction r with
 | nil=>exact True.intro
 | @cons p q ps qs h t ih =>
  obtain ⟨h1,_,h2⟩:=h
  by_cases e:p.1=k
  ·have e':q.1=k:=h1.symm.trans e
   have b:atKey (q::qs) k=some q.2:=by simp [atKey,LJ,e']
   rw [oZ e,b];exact h2
  ·have e' : ¬ q.1=k:=fun z=>e (h1.trans z)
   have b:atKey (q::qs) k=atKey qs k:=by simp [atKey,LJ,e']
   rw [m7 e,b];exact ih
theorem KT.repl {H:Hp} {kvs:List (List bo×V)} {xs:List (List bo×Addr×Value)} (r:KT H kvs xs) (k:List bo) {y:V} {u:Value} (ry:RelV y u) :
  KT H (kvs.map fun kv=>if kv.1=k then (kv.1,y) else kv) (xs.map (putAt k u)):=by
 induction r with
 | nil=>exact .nil
 | @cons p q ps qs h t ih =>
  rw [Ls,Ls]
  refine .cons ?_ ih
  obtain ⟨h1,h2,h3⟩:=h
  unfold putAt
  by_cases e:p.1=k
  ·rw [KS e,KS (h1.symm.trans e)];exact ⟨h1,h2,ry⟩
  ·rw [KW e,KW (fun z=>e (h1.trans z))];exact ⟨h1,h2,h3⟩
theorem KT.put {H:Hp} {kvs:List (List bo×V)} {xs:List (List bo×Addr×Value)} (r:KT H kvs xs) (k:List bo) {b:Addr} {y:V} {u:Value} (hb:KTup H b k) (ry:RelV y u) :
  KT H (cX kvs k y) (storedH xs k b u):=by
 have e:(kvs.any fun kv=>decide (kv.1=k))=(atKey xs k).isSome:=by
  rw [rM,(r.val k).isSome_eq,Oc]
 unfold cX storedH
 rw [e]
 by_cases q:(atKey xs k).isSome=true
 ·rw [KS q,KS q];exact r.repl k ry
 ·rw [KW q,KW q];exact Paired.snoc r ⟨rfl,hb,ry⟩
theorem KT.keeps {H H':Hp} {kvs:List (List bo×V)} {xs:List (List bo×Addr×Value)} (r:KT H kvs xs) (ht:∀ b ys,H b=some (.tup ys)->H' b=some (.tup ys)):KT H' kvs xs :=
 Paired.mapP r fun _ _ z=>⟨z.1,z.2.1.imp fun _ e=>⟨ht _ _ e.1,e.2⟩,z.2.2⟩
section
variable {P:Program} {w:World} {H:Hp} {h:Heap} {a:Addr}
theorem xu {u:HO} (ok:HOk P w H h) (e:Rd H a u):ObjOk P w H h a u:=e.ok ok
theorem m8 {kvs:List (bo×V)} (ok:HOk P w H h) (e:Rd H a (.dK kvs)):kvs.length<=sizeLine/\(a == sysModules)=false/\∃ vs,KV kvs vs/\h.DictOf (gC P w) a vs :=
 show ObjOk P w H h a (.dK kvs) from xu ok e
theorem DH {kvs:List (bo×V)} (ok:HOk P w H h) (e:H a=some (.dK kvs)):kvs.length<=sizeLine/\(a == sysModules)=false/\∃ vs,KV kvs vs/\h.DictOf (gC P w) a vs:=m8 ok (.inl e)
theorem pe {ks:List bo} (ok:HOk P w H h) (e:KTup H a ks):(tupleKind (gC P w)).is h ks a:=by
 obtain ⟨ys,e,ek⟩:=e
 obtain ⟨_,its,r,o,h1,h2,n,h3⟩:=(show ObjOk P w H h a (.tup ys) from ok a _ e)
 exact ⟨o,its.toArray,n,h1,h2,h3,by simpa using xt ek r⟩
theorem pf {kvs:List (List bo×V)} (ok:HOk P w H h) (e:Rd H a (.dT kvs)):kvs.length<=sizeLine/\(a == sysModules)=false /\
  ∃ xs,KT H kvs xs/\h.DictOfH (tupleKind (gC P w)) a xs:=by
 obtain ⟨z,y,xs,r,o,es,ep,h1,h2,h3,h4,h5⟩:=(show ObjOk P w H h a (.dT kvs) from xu ok e)
 refine ⟨z,y,xs,r,o,es,ep,h1,h2,h3,h4,fun x hx=>?_,h5⟩
 have all:∀ {l:List (List bo×V)} {m:List (List bo×Addr×Value)},KT H l m->∀ x∈m,(tupleKind (gC P w)).is h x.1 x.2.1:=by
  intro l m q
  induction q with
  | nil=>intro x hx;exact nomatch hx
  | @cons p q ps qs hq t ih =>
   intro x hx
   rcases K6.mp hx with e | hx
   ·subst e
    exact pe ok (by rw [<- hq.1];exact hq.2.1)
   ·exact ih x hx
 exact all r x hx
theorem DJ {kvs:List (List bo×V)} (ok:HOk P w H h) (e:H a=some (.dT kvs)):kvs.length<=sizeLine/\(a == sysModules)=false /\
  ∃ xs,KT H kvs xs/\h.DictOfH (tupleKind (gC P w)) a xs:=pf ok (.inl e)
end
def DGet (H:Hp) (a:Addr) (y:V) (r:Option V):Prop :=
 (∃ kvs k,Rd H a (.dK kvs)/\y=kV k/\r=cW kvs k)\/∃ kvs k b,Rd H a (.dT kvs)/\y = .ref b/\KTup H b k/\r=cW kvs k
def DPut (H:Hp) (a:Addr) (y v:V) (H':Hp):Prop :=
 (∃ kvs k,H a=some (.dK kvs)/\y=kV k/\kvs.length<sizeLine/\H'=aV H a (.dK (cX kvs k v))) \/
 ∃ kvs k b,H a=some (.dT kvs)/\y = .ref b/\KTup H b k/\kvs.length<sizeLine/\H'=aV H a (.dT (cX kvs k v))
theorem DGet.k {H:Hp} {a:Addr} {kvs:List (bo×V)} {k:bo} (e:H a=some (.dK kvs)):DGet H a (kV k) (cW kvs k):=.inl ⟨kvs,k,.inl e,rfl,rfl⟩
theorem DGet.t {H:Hp} {a b:Addr} {kvs:List (List bo×V)} {k:List bo} (e:H a=some (.dT kvs)) (eb:KTup H b k):DGet H a (.ref b) (cW kvs k):=.inr ⟨kvs,k,b,.inl e,rfl,eb,rfl⟩
theorem DPut.k {H:Hp} {a:Addr} {kvs:List (bo×V)} {k:bo} {v:V} (e:H a=some (.dK kvs)) (hl:kvs.length<sizeLine):DPut H a (kV k) v (aV H a (.dK (cX kvs k v))):=.inl ⟨kvs,k,e,rfl,hl,rfl⟩
theorem DPut.t {H:Hp} {a b:Addr} {kvs:List (List bo×V)} {k:List bo} {v:V} (e:H a=some (.dT kvs)) (eb:KTup H b k) (hl:kvs.length<sizeLine) :
  DPut H a (.ref b) v (aV H a (.dT (cX kvs k v))):=.inr ⟨kvs,k,b,e,rfl,eb,hl,rfl⟩
section
variable {X:Cx} {pins:List (Addr×Obj)} {σ:St} {H:Hp} {s:Shared} {a:Addr} {y v:V} {u r:Value} {o:Option V} {A:Around} {E:Value->Shared->Prop}
theorem Inv.big (I:Inv X pins σ H s):sysModules<s.heap.objs.size:=by
 have h:mainGlobals<s.heap.objs.size:=(I.mod.glob.keeps I.bk).lt
 exact MT (by decide) h
theorem DL {Q:Value->Shared->Prop} (hu:A.units+1<cLine) (I:Inv X pins σ H s) (g:DGet H a y (some v)) (ry:RelV y u) (h:∀ w' s',Inv X pins σ H s'->RelV v w'->Q w' s') :
  wpAny (model X.prog X.w) A (getItem (.ref a) u) Q E s:=by
 rcases g with ⟨kvs,k,e,ey,l⟩ | ⟨kvs,k,b,e,ey,eb,l⟩
 ·subst ey
  obtain ⟨z,hd,vs,rel,dd⟩:=m8 I.hok e
  obtain ⟨w',hw,rw'⟩:=RelO.some_of (v:=v) (o:=valueAt vs k) (by rw [l];exact rel.val k)
  exact wpAny_getItem_of (rN ry) dd.mapOf hw (h w' _ (I.tok _) rw')
 ·subst ey
  cases (show u=Value.ref b from ry)
  obtain ⟨z,hd,xs,rel,dd⟩:=pf I.hok e
  obtain ⟨w',hw,rw'⟩:=RelO.some_of (v:=v) (o:=(atKey xs k).map (·.2)) (by rw [l];exact rel.val k)
  obtain ⟨p,hp,hp2⟩:=Lf.mp hw
  refine wpAny_getItem_heap (M0 hu) (pe I.hok eb) dd hp ?_
  rw [hp2]
  exact h w' _ (I.tok _) rw'
theorem DM {Q:Value->Shared->Prop} (hu:A.units+1<cLine) (I:Inv X pins σ H s) (g:DGet H a y o) (ry:RelV y u) (h:∀ s',Inv X pins σ H s'->Q (.bool (!o.isSome)) s') :
  wpAny (model X.prog X.w) A (compareOp .NotIn u (.ref a)) Q E s:=by
 rcases g with ⟨kvs,k,e,ey,l⟩ | ⟨kvs,k,b,e,ey,eb,l⟩
 ·subst ey
  obtain ⟨z,hd,vs,rel,dd⟩:=m8 I.hok e
  refine wpAny_notIn_of (rN ry) hd dd.mapOf ?_
  rw [<- (rel.val k).isSome_eq,<- l]
  exact h _ (I.tok _)
 ·subst ey
  cases (show u=Value.ref b from ry)
  obtain ⟨z,hd,xs,rel,dd⟩:=pf I.hok e
  refine wpAny_notIn_heap (M0 hu) (pe I.hok eb) hd dd ?_
  have q:=(rel.val k).isSome_eq
  rw [Oc] at q
  rw [<- q,<- l]
  exact h _ (I.tok _)
theorem xw {h':Heap} {t':Nat} {ob:HO} (I:Inv X pins σ H s) (mu:mR (H a)) (hs:Heap.SameBut a s.heap h') (he:∃ q,h'.get? a=some q) (new:ObjOk X.prog X.w (aV H a ob) h' a ob) :
  Inv X pins σ (aV H a ob) { s with heap:=h',toks:=t' } :=
 I.write (x:=a) (e:=a) mu (.inl rfl) (fun b q hb z=>(hs.2 b hb).trans z) he new
theorem DO {P:Program} {w:World} {H':Hp} {h':Heap} {kvs:List (bo×V)} {vs:List (bo×Value)} (z:kvs.length<=sizeLine) (hd:(a == sysModules)=false) (rel:KV kvs vs) (dd:h'.DictOf (gC P w) a vs) :
  ObjOk P w H' h' a (.dK kvs):=⟨z,hd,vs,rel,dd⟩
theorem DP {H':Hp} {Q:Unit->Shared->Prop} (hu:A.units+1<cLine) (I:Inv X pins σ H s) (g:DPut H a y v H') (ry:RelV y u) (rv:RelV v r) (h:∀ s',Inv X pins σ H' s'->Q () s') :
  wpAny (model X.prog X.w) A (setItem (.ref a) u r) Q E s:=by
 rcases g with ⟨kvs,k,e,ey,l,eH⟩ | ⟨kvs,k,b,e,ey,eb,l,eH⟩
 ·subst ey eH
  obtain ⟨z,hd,vs,rel,dd⟩:=DH I.hok e
  have hz:vs.length<=sizeLine:=by rw [<- rel.length];exact z
  have hl:(cX kvs k v).length<=sizeLine:=by have:=xr kvs k v;lia
  refine wpAny_setItem_pairs (hsz:=hz) (rN ry) dd fun h' dd' hs=>h _ ?_
  have he:∃ q,h'.get? a=some q:=let ⟨q,_,_,hq,_⟩:=dd';⟨q,hq⟩
  exact xw I (by rw [e];exact True.intro) hs he (DO hl hd (rel.put k rv) dd')
 ·subst ey eH
  cases (show u=Value.ref b from ry)
  obtain ⟨z,hd,xs,rel,dd⟩:=DJ I.hok e
  have hz:xs.length<=sizeLine:=by rw [<- Paired.length rel];exact z
  have hl:(cX kvs k v).length<=sizeLine:=by have:=xr kvs k v;lia
  refine wpAny_setItem_heap (hsz:=hz) (M0 hu) (pe I.hok eb) dd fun h' dd' hs=>h _ ?_
  obtain ⟨q,es,ep,hq,h2,h3,h4,_,h5⟩:=dd'
  refine xw I (by rw [e];exact True.intro) hs ⟨q,hq⟩ ⟨hl,hd,_,(rel.put k eb rv).keeps fun c ys ec=>?_,q,es,ep,hq,h2,h3,h4,h5⟩
  rw [cF (Bc ec e (fun z=>nomatch z))]
  exact ec
end
section
variable {X:Cx} {pins:List (Addr×Obj)} {σ:St} {H:Hp} {s:Shared} {a:Addr} {kvs:List (bo×V)} {k:bo} {u:Value} {A:Around} {E:Value->Shared->Prop}
theorem DQ {Q:Value->Shared->Prop} (I:Inv X pins σ H s) (e:Rd H a (.dK kvs)) (h:∀ t s',Inv X pins σ H s'->Q (.int kvs.length t) s'):wpAny (model X.prog X.w) A (call (.builtin "len") [.ref a]) Q E s:=by
 obtain ⟨z,hd,vs,rel,dd⟩:=m8 I.hok e
 refine call_len_dict hd dd (by rw [<- rel.length];rw [sizeLine_eq] at z;lia) ?_
 rw [<- rel.length]
 exact h _ _ (I.tok _)
end
def m9 (i:Expr):Prop:=∀ ov iv,subscripted i false ov iv=operate [ov,iv] (getItem ov iv)
theorem DR {prog:Program} {w:World} {A:Around} {E:Value->Shared->Prop} {s:Shared} {env:Env} {value slice:Expr} {pos:Pos} {T id:String} {Q:Value->Shared->Prop}
  (hl:typeLookup (.type T) "__getitem__" = pure (some (.builtin id))) (hs:m9 slice)
  (h:wpAny (model prog w) A (eval value env) (fun o s₁=>wpAny (model prog w) A (eval slice env) (fun i s₂=>s₂.TypeIs o T/\wpAny (model prog w) A (getItem o i) Q E s₂) E s₁) E s) :
  wpAny (model prog w) A (eval (.Subscript value slice pos) env) Q E s:=by
 refine Subscript_ (LF h (fun o s₁ h₁=>LF h₁ (fun i s₂ h₂=>?_) fun _ _ x=>x) fun _ _ x=>x)
 obtain ⟨hT,h₂⟩:=h₂
 unfold subscriptTail
 refine K0 ?_
 rw [getitemInPython_of_ne hT.not_modules]
 refine K0 (ND hT hl ?_)
 have fin:wpAny (model prog w) A (subscripted slice false o i) (fun r s₃=>wpAny (model prog w) A (letTemporaryGo value o r >>= fun _=>pure r) Q E s₃) E s₂:=by
  rw [hs o i]
  exact wpAny_operating (LF h₂ (fun r s₃ h₃=>K0 (wpAny_letTemporaryGo (Le h₃))) fun _ _ x=>x)
 first
  | exact Le (K0 fin)
  | exact K0 (Le (K0 fin))
  | exact K0 fin
theorem DS {X:Cx} {pins:List (Addr×Obj)} {σ:St} {H:Hp} {s:Shared} {a:Addr} {y:V} {o:Option V} (I:Inv X pins σ H s) (g:DGet H a y o):s.TypeIs (.ref a) "dict" := by
 rcases g with ⟨kvs,k,e,_,_⟩ | ⟨kvs,k,b,e,_,_,_⟩
 ·obtain ⟨_,_,vs,_,dd⟩:=m8 I.hok e
  exact dd.typeIs
 ·obtain ⟨_,_,xs,_,dd⟩:=pf I.hok e
  exact dd.typeIs
def DT (td ty:TE):TE:=fun σ H Q=>td σ H fun x H1=>ty σ H1 fun y H2=>∃ a v,x = .ref a/\DGet H2 a y (some v)/\Q v H2
def DU (td ty tv:TE):TS:=fun D σ H=>tv σ H fun v H1=>td σ H1 fun x H2=>ty σ H2 fun y H3=>∃ a H4,x = .ref a/\DPut H3 a y v H4/\D.nx σ H4
section
variable {X:Cx} {o i e value:Expr} {pos pos' tpos:Pos} {td ty tv:TE}
theorem DV (hu:X.A.units+1<cLine) (ho:PE X o td) (hi:PE X i ty) (hs:m9 i):PE X (.Subscript o i pos) (DT td ty):=by
 intro pins s σ H Q I h
 refine DR PySem.F.slot_dict_getitem.lookup hs (thn (ho pins s σ H _ I h) fun u s1 ⟨x,H1,I1,rx,q1⟩=>thn (hi pins s1 σ H1 _ I1 q1) fun iv s2 ⟨y,H2,I2,ry,a,v,ex,g,q2⟩=>?_)
 subst ex
 obtain rfl:u=Value.ref a:=rx
 exact ⟨DS I2 g,DL hu I2 g ry fun w' s3 I3 rw' => ⟨v,H2,I3,rw',q2⟩⟩
theorem DW (hu:X.A.units+1<cLine) (ho:PE X o td) (hi:PE X i ty) (hv:PE X value tv) (hs:swapsWith value (some (.Subscript o i pos')) pos.line X.env=pure false) :
  PS X (.Assign [.Subscript o i pos'] value pos) (DU td ty tv):=by
 intro pins s σ H D I h
 refine wpAny_Assign_Subscript (thn (hv pins s σ H _ I h) fun r s1 ⟨v,H1,I1,rv,q1⟩=>thn (ho pins s1 σ H1 _ I1 q1) fun u s2 ⟨x,H2,I2,rx,q2⟩=>thn (hi pins s2 σ H2 _ I2 q2) fun iv s3 ⟨y,H3,I3,ry,a,H4,ex,g,q3⟩=>?_) hs
 subst ex
 obtain rfl:u=Value.ref a:=rx
 exact DP hu I3 g ry rv fun s4 I4=>⟨σ,H4,I4,q3⟩
end
theorem DX {P:Program} {w:World} {H:Hp} (h:Heap) (hb:sysModules<h.objs.size):ObjOk P w H (h.push { cls:=.type "dict",data:=.dict #[] }) h.objs.size (.dT []) :=
 ⟨Lc _,beq_eq_false_iff_ne.mpr (Ne.symm (Lv hb)),[],.nil,_,#[],0,Li _ rfl,⟨rfl,rfl,rfl⟩,rfl,rfl,MY⟩
def DY:TE:=fun _ H Q=>∀ p,H p=none->Q (.ref p) (aV H p (.dT []))
section
variable {X:Cx} {pos:Pos}
theorem DZ:PE X (.Dict [] [] pos) DY:=fun pins s σ H Q I h =>
 wpAny_Dict_empty ⟨.ref s.heap.objs.size,_,I.laid (a:=s.heap.objs.size) (o:=.dT []) (t' := s.toks) (fun _ _ q=>KU _ q) (KC _) (DX s.heap I.big),rfl,h _ (I.hok.fresh (KC _))⟩
end
section
variable {X:Cx} {pins:List (Addr×Obj)} {σ:St} {H:Hp} {s:Shared} {a:Addr} {y d:V} {u r:Value} {o:Option V} {A:Around} {E:Value->Shared->Prop}
end
section
variable {X:Cx} {o e f:Expr} {apos cpos:Pos} {td ty tx:TE}
end
section
variable {X:Cx} {pins:List (Addr×Obj)} {σ:St} {H:Hp} {s:Shared} {a:Addr} {kvs:List (bo×V)} {A:Around} {E:Value->Shared->Prop}
end
section
variable {X:Cx} {pins:List (Addr×Obj)} {σ:St} {H:Hp} {s:Shared} {a:Addr} {y:V} {u:Value} {A:Around} {E:Value->Shared->Prop}
end
end L2
namespace Att
open PySem PySem.W PySem.Calls PyProof.Rows
theorem D0 {P:Params} {h:Heap}:∀ (ns:List Int) (vs:List Value),WellAll P h vs (ns.map WData.int)->IntsAre vs ns:=by
 intro ns
 induction ns with
 | nil =>
  intro vs w
  rw [Np] at w
  cases w
  exact .nil
 | cons n ns ih =>
  intro vs w
  rw [Ls] at w
  cases w with
  | cons a b =>
   cases a
   exact .cons _ _ (ih _ b)
theorem D3 {l:OpenLaw} {n:Nat} (hn:l.most=some n) {P:Params} {h:Heap} {args:List WData} {vals:List Value}
  (hpre:l.row.toRowW.claim.pre args=true) (hwl:WellAll P h vals args) :
  ∃ a vs ns,vals=[Value.ref a]/\args=[WData.list (ns.map WData.int)]/\h.get? a=some { cls:=.type "list",data:=.seq vs.toArray }/\IntsAre vs ns/\ns.length<=n:=by
 have hsh:WShape.hasAll [] args [.list .int]=true:=(pre_splitW hpre).1
 have hc:l.pre.holds [] { args:=args }=true:=(pre_splitW hpre).2
 obtain ⟨d,r,rfl,h1,h2⟩:=hasAllW_cons hsh
 obtain rfl:=hasAllW_nil h2
 obtain ⟨xs,rfl,h3⟩:=hasW_list h1
 obtain ⟨ns,rfl⟩:=items_int h3
 have hlen:ns.length<=n:=by
  unfold OpenLaw.pre at hc
  have h4:(WTm.not (.lt (.lit (.int (n:Int))) (.len (.arg 0)))).holds [] { args:=[.list (ns.map .int)] }=true:=by
   have h4:=(holds_andW hc).1
   rw [hn] at h4
   exact h4
  have h5:=condW_of h4 (w_not (w_lt w_lit (w_len_list (w_arg rfl))))
  rw [K4] at h5
  refine Nat.le_of_not_lt fun q=>?_
  have q':(n:Int)<((ns.length:Nat):Int):=by omega
  first
   | (rw [KQ q'] at h5;exact absurd h5 (by decide))
   | (simp at h5;omega)
 cases hwl with
 | cons w1 w2 =>
  cases w2
  cases w1 with
  | list ho hall=>exact ⟨_,_,ns,rfl,rfl,ho,D0 ns _ hall,hlen⟩
theorem D4 (l:OpenLaw) (args:List WData):l.row.toRowW.claim.post args (.bool true) args=true :=
 postW_of (r:=l.row.toRowW) (X:=(true == true))
  (show WShape.has [] (.bool true) .bool=true by first | rfl | decide | simp [WShape.has,WShape.arms,WShape.armsAll])
  (show (WTm.eq .res (.lit (.bool true))).value [] { args:=args,res:=some (.bool true),after:=args }=some (.bool (true == true)) from w_eq_bool (w_res rfl) w_lit) rfl
theorem attach_call {l:OpenLaw} {n:Nat} {q:Program} {loose:List Str} {XP:(Str->Option Value)->Heap->Prop} {YP:World->Heap->Prop} {d:DefRec}
  (hn:l.most=some n) (hdf:d.params.defaults=[])
  (call:∀ (w:World) (s₀ s₁:Shared) (mg mb:Str->Option Value) (fa:Addr) (o:Obj) (pm cd doc:Value) (a:Addr) (vs:List Value) (ns:List Int),
   Ground q loose [] XP w s₀ mg mb s₁.heap->YP w s₁.heap ->
   s₁.heap.get? fa=some o->o.data = .func (docDef d.name d.params d.body d.scope pm cd doc)->s₁.heap.CodeRec cd d.name->mg d.name=some (.ref fa) ->
   s₁.heap.get? a=some { cls:=.type "list",data:=.seq vs.toArray }->IntsAre vs ns->ns.length<=n->s₁.gens = #[] ->
   codeAny (model l.prog w) callerA (.call (.ref fa) ⟨[.ref a],[]⟩) (fun r s' => r = .ok (.ret (.bool true))/\OldK s₁.heap s'.heap/\s'.os=s₁.os/\AllBare s'.gens) s₁) :
  WalkO q loose XP YP l.row.toRowW d [] (fun f vs=>PySem.call f vs):=by
 intro w s₀ s₁ mg mb G Y fa o pm cd doc dV kV ho hd hcd hD hmg hg args vals as hpre hlay hrd hwl hlo
 obtain rfl:dV = .none:=Dflts.none hD hdf
 obtain rfl:kV = .none:=Dflts.noKw hD
 obtain ⟨a,vs,ns,rfl,rfl,hobj,hints,hlen⟩:=D3 hn hpre hwl
 refine enter_call (Ny (call w s₀ s₁ mg mb fa o pm cd doc a vs ns G Y ho (fd_plain hd) hcd hmg hobj hints hlen hg) fun r s' hq=>?_)
 obtain ⟨rfl,h2,h3,h4⟩:=hq
 exact ⟨.inl ⟨.bool true,.bool true,[],rfl,fun _=>rfl,.bool true,D4 l _,fun _=>⟨List.Pairwise.nil,fun _ hm=>(nomatch hm)⟩⟩,h2,h3,h4⟩
section
variable {prog:Program} {w:World} {A:Around} {E:Value->Shared->Prop} {s:Shared} {K:Frag}
end
end Att
namespace L2
open PySem PySem.Spec PyProof.Rows
theorem xx:∀ {vs:List Value} {ns:List Int},IntsAre vs ns->Vals (ns.map V.int) vs
 | _,_,.nil=>.nil
 | _,_,.cons n t h=>.cons ⟨t,rfl⟩ (xx h)
def kS (H:Hp):Prop:=∀ b,H b=none\/∃ o xs,H b=some (.frz o (.lst xs))
theorem D5 {P:Program} {w:World} {K:PySem.W.Frag} {mg mb:Str->Option Value} {CX:gF} {k:Nat} {fa a:Addr} {fd:FuncData} {x:Str} {sp:Sp} {s₁:Shared} {vs:List Value} {ns:List Int}
  (KX:K.In s₁.heap) (hns:s₁.heap.Ns mainGlobals mg) (hb:s₁.heap.Ns builtinsNs mb) (hbb:∀ x:Str,x ≠ "__name__" -> mb x=bootBuiltins x) (hlim:s₁.heap.NoLimit) (hg:s₁.gens = #[])
  (ha:s₁.heap.get? a=some { cls:=.type "list",data:=.seq vs.toArray }) (hi:IntsAre vs ns) (hl:ns.length<=sizeLine) (hr:Room k callerA)
  (F:∀ base:Heap,K.In base->base.Ns mainGlobals mg->FnOk P w K mg base CX k fa fd [x] sp) (hbind:∀ (s:Shared) (u:Value),BindsTo s fd ⟨[u],[]⟩ [(x,u)])
  (hsp:∀ H:Hp,kS H->SqL K H a (ns.map V.int)->sp [.ref a] H (fun v _=>v = .bl true) fun _ _ _=>False)
  (hCX:∀ H e s',CX [] H s₁ (fun _ _ _=>False) e s'->False) :
  codeAny (model P w) callerA (.call (.ref fa) ⟨[.ref a],[]⟩) (fun r s' => r = .ok (.ret (.bool true))/\OldK s₁.heap s'.heap/\s'.os=s₁.os/\AllBare s'.gens) s₁:=by
 have rv:=xx hi
 have lenV:=hi.length
 have core:∀ H:Hp,kS H->SqL K H a (ns.map V.int)->HOk P w H s₁.heap->(∀ b,H b≠none->b=a)->(H a≠none->K.lookup a=none) ->
   codeAny (model P w) callerA (.call (.ref fa) ⟨[.ref a],[]⟩) (fun r s' => r = .ok (.ret (.bool true))/\OldK s₁.heap s'.heap/\s'.os=s₁.os/\AllBare s'.gens) s₁:=by
  intro H hO hS hok hA hK
  have base_of:∀ {b:Addr} {o:Obj},s₁.heap.get? b=some o->H b=none->(fz s₁.heap H).get? b=some o:=fun e n=>Bf e n
  have noA:∀ {b:Addr} {o:Obj} {es:Array DictEntry} {ep:Nat},s₁.heap.get? b=some o->o.data = .dict es ep->H b=none:=fun {b o es ep} e d=>by
   cases q:H b with
   | none=>rfl
   | some u =>
    have e':b=a:=hA b (by rw [q];simp)
    subst e'
    rw [ha] at e;cases e
    have d':Data.seq vs.toArray _=Data.dict es ep:=d
    cases d'
  have nsK:∀ {b:Addr} {m:Str->Option Value},s₁.heap.Ns b m->(fz s₁.heap H).Ns b m:=fun {b m} ⟨o,es,ep,e,d,r⟩=>⟨o,es,ep,base_of e (noA e d),d,r⟩
  have hKb:K.In (fz s₁.heap H):=fun b o e=>base_of (KX b o e) (by
   cases q:H b with
   | none=>rfl
   | some u =>
    have e':b=a:=hA b (by rw [q];simp)
    subst e'
    rw [hK (by rw [q];simp)] at e;cases e)
  have hM:Mod K mg (fz s₁.heap H):=⟨hKb,nsK hns,⟨mb,nsK hb,hbb⟩,let ⟨mc,h1,h2⟩:=hlim;⟨mc,nsK h1,h2⟩⟩
  have e0:Env0 P w K mg (fz s₁.heap H) callerA [] s₁ H:=⟨rfl,hM,fun b o e=>Bg e,Nj (Be _ _),trivial,fun b hb=>absurd (show b∈([]:List Addr) from hb) (by simp),hok,.of_eq hg⟩
  refine Ny ((F _ hKb (nsK hns)).run callerA [] s₁ H ⟨[.ref a],[]⟩ [.ref a] [.ref a] _ _ hr e0 (hbind s₁ (.ref a)) (.cons rfl .nil) (hsp H hO hS)) fun r s' h=>?_
  cases r with
  | error e=>exact (hCX H e s' h).elim
  | ok fl =>
   cases fl with
   | next=>exact False.elim h
   | brk=>exact False.elim h
   | cont=>exact False.elim h
   | ret u =>
    obtain ⟨v,H',os,bare,un,hok',r',q⟩:=h
    have q':v = .bl true:=q
    subst q'
    obtain rfl:u=Value.bool true:=r'
    refine ⟨rfl,OldK.of_keep fun b o e=>?_,os,bare⟩
    cases q:H b with
    | none=>exact un.keep b o e q (by intro z;exact absurd (show b∈([]:List Addr) from z) (by simp)) (by simp)
    | some u =>
     rcases hO b with z | ⟨ob,xs,z⟩
     ·rw [q] at z;cases z
     ·have z2:=un.frzs b ob _ z
      obtain ⟨e1,_⟩:=hok b _ z
      obtain ⟨e2,_⟩:=hok' b _ z2
      rw [e] at e1;cases e1
      exact e2
 cases hk:K.lookup a with
 | some o =>
  have e:=KX a o hk
  rw [ha] at e
  cases e
  refine core (fun _=>none) (fun _=>.inl rfl) (.inr ⟨_,vs.toArray,_,hk,rfl,rfl,rfl,by rw [KY,lenV];exact hl,by simpa using rv⟩) (fun b u z=>by have z':(none:Option HO)=some u:=z;cases z') (fun b z=>absurd rfl z) fun z=>absurd rfl z
 | none =>
  refine core (fun b=>if b=a then some (.frz { cls:=.type "list",data:=.seq vs.toArray } (.lst (ns.map V.int))) else none) (fun b=>?_) (.inl (.inr ⟨{ cls:=.type "list",data:=.seq vs.toArray },KS rfl⟩)) (fun b u z=>?_) (fun b z=>?_) fun _=>hk
  ·by_cases hb:b=a
   ·exact .inr ⟨_,_,KS hb⟩
   ·exact .inl (KW hb)
  ·by_cases hb:b=a
   ·have z' := (KS hb).symm.trans z
    cases z'
    subst hb
    exact ⟨ha,by rw [K4];exact hl,vs,_,rv,ha⟩
   ·have z' := (KW hb).symm.trans z
    cases z'
  ·by_cases hb:b=a
   ·exact hb
   ·exact absurd (KW hb) z
end L2
namespace L2
open PySem PySem.Spec PyProof.Rows
theorem walk_of {l:PySem.W.OpenLaw} {n k:Nat} {q:Program} {loose:List Str} {XP:(Str->Option Value)->Heap->Prop} {YP:World->Heap->Prop} {d:DefRec} {K:Params->PySem.W.Frag} {CX:World->gF} {sp:World->Sp} {x:Str}
  (hn:l.most=some n) (hn2:n<=sizeLine) (hdf:d.params.defaults=[]) (hr:Room k callerA)
  (hY:∀ (w:World) (h:Heap),YP w h->(K w.params).In h)
  (F:∀ (w:World) (mg:Str->Option Value) (fa:Addr) (h:Heap),(K w.params).In h->h.Ns mainGlobals mg->mg d.name=some (.ref fa) ->
   ∃ fd:FuncData,(∀ (s:Shared) (u:Value),BindsTo s fd ⟨[u],[]⟩ [(x,u)]) /\
    ∀ base:Heap,(K w.params).In base->base.Ns mainGlobals mg->FnOk l.prog w (K w.params) mg base (CX w) k fa fd [x] (sp w))
  (hsp:∀ (w:World) (H:Hp) (a:Addr) (ns:List Int),ns.length<=n->kS H->SqL (K w.params) H a (ns.map V.int)->sp w [.ref a] H (fun v _=>v = .bl true) fun _ _ _=>False)
  (hCX:∀ (w:World) (H:Hp) (s:Shared) (e:Value) (s':Shared),CX w [] H s (fun _ _ _=>False) e s'->False) :
  PySem.W.WalkO q loose XP YP l.row.toRowW d [] (fun f vs=>PySem.call f vs):=by
 refine Att.attach_call hn hdf fun w s₀ s₁ mg mb fa o pm cd doc a vs ns G Y ho hd hcd hmg hobj hints hlen hg=>?_
 have KX:=hY w _ Y
 obtain ⟨fd,hb,hF⟩:=F w mg fa _ KX G.T.g hmg
 exact D5 KX G.T.g G.T.b G.T.builtins G.T.nolimit hg hobj hints (KN hlen hn2) hr hF hb (fun H hO hS=>hsp w H a ns hlen hO hS) fun H e s' => hCX w H s₁ e s'
end L2
namespace L2
open PySem PySem.Spec PyProof.Rows
def gq (s:Stmt) (j:Nat):Stmt:=match s with
 | .ClassDef _ _ _ body _ _ _ _ _ _ _=>body.getD j (.Pass ⟨0,0,0,0⟩)
 | _=>.Pass ⟨0,0,0,0⟩
def kT (s:Stmt):Arguments:=match s with
 | .FunctionDef _ a _ _ _ _ _ _ _ _=>a
 | _=>{ posonlyargs:=[],args:=[],vararg:=none,kwonlyargs:=[],kw_defaults:=[],kwarg:=none,defaults:=[] }
def jd (s:Stmt):List Stmt:=match s with
 | .FunctionDef _ _ b _ _ _ _ _ _ _=>b
 | _=>[]
def aS (s:Stmt):Scope:=match s with
 | .FunctionDef _ _ _ _ _ _ sc _ _ _=>sc
 | _=>{ kind:=.function,names:=[],isGenerator:=false,isCoroutine:=false }
abbrev E0:XK:=fun _ _ _=>False
structure Fun (K:PySem.W.Frag) (x qual:Str) (st:Stmt) (f:Addr) (fd:FuncData):Prop where
 ex:∃ (oc:Value) (od:Option Addr) (kV doc pm:Value) (an:Option Addr) (cdv ct:Value) (osl:Array (Option Value)),
  fd=PySem.W.fnOf x qual (kT st) (jd st) (aS st) .none kV doc pm an cdv ct/\K.lookup f=some ⟨oc,od,.func fd,osl⟩/\PySem.W.codeIn K cdv qual=true
 kp:PySem.W.keepIn K (.ref f)=true
section
variable {P:Program} {w:World} {K:PySem.W.Frag} {mg:Str->Option Value} {base:Heap}
theorem Fun.binds {x qual:Str} {st:Stmt} {f:Addr} {fd:FuncData} {ps:List Str} (F:Fun K x qual st f fd)
  (h:∀ (kV doc pm:Value) (an:Option Addr) (cdv ct:Value) (us:List Value),us.length=ps.length->bindArgs (PySem.W.fnOf x qual (kT st) (jd st) (aS st) .none kV doc pm an cdv ct) ⟨us,[]⟩=pure (ps.zip us)):Binds K fd ps []:=by
 obtain ⟨oc,od,kV,doc,pm,an,cdv,ct,osl,rfl,lk,hcd⟩:=F.ex
 exact .all (h kV doc pm an cdv ct)
theorem xy {x qual:Str} {st:Stmt} {f:Addr} {oc:Value} {od an:Option Addr} {osl:Array (Option Value)} {kV doc pm cdv ct:Value} (l:K.lookup f=some ⟨oc,od,.func (PySem.W.fnOf x qual (kT st) (jd st) (aS st) .none kV doc pm an cdv ct),osl⟩)
  (c:PySem.W.codeIn K cdv qual=true) (k:PySem.W.keepIn K (.ref f)=true):Fun K x qual st f (PySem.W.fnOf x qual (kT st) (jd st) (aS st) .none kV doc pm an cdv ct):=⟨⟨oc,od,kV,doc,pm,an,cdv,ct,osl,rfl,l,c⟩,k⟩
end
section
variable {X:Cx}
theorem pv (i:Nat) {x:Str} {pos:Pos} (hN:X.N[i]? = some x:=by rfl) (hv:mS X.env.scope x:=by first | exact Or.inl rfl | exact Or.inr (Or.inl rfl) | exact Or.inr (Or.inr rfl)) (hd:(x == ("__debug__" : Str))=false:=by decide)
  (hcd:(x == ("__classdict__" : Str))=false:=by decide):PE X (.Name x pos) (mT i):=Bh hN hv hd hcd
theorem D6:CallR X (.builtin "len") (fun xs H Q=>∃ a kvs,xs=[V.ref a]/\H a=some (.dK kvs)/\Q (.int kvs.length) H):=by
 intro pins s σ H xs us Q I r h
 obtain ⟨a,kvs,rfl,ha,q⟩:=h
 obtain ⟨u,rfl,ru⟩:=jB r
 cases ru
 exact DQ I (.inl ha) fun t s' I' => ⟨.int kvs.length,H,I',⟨t,rfl⟩,q⟩
end
section
variable {κ:Type} [DecidableEq κ]
end
end L2
set_option maxHeartbeats 4000000
namespace L2
open PySem PySem.Spec PyProof.Rows
section
variable {X:Cx} {pins:List (Addr×Obj)} {σ:St} {H:Hp} {s:Shared} {h':Heap}
theorem Inv.turnedL {t':Nat} {fp:List Addr} (I:Inv X pins σ H s) (k:∀ b o,b∉fp->s.heap.get? b=some o->h'.get? b=some o) (hf:∀ b∈fp,d6 X pins H b) :
  Inv X pins σ H { s with heap:=h',toks:=t' }:=by
 have nit:∀ b u,H b=some u->b∉fp:=fun b u e z=>by
  have q:=(hf b z).1
  rw [q] at e
  cases e
 refine I.step (g' := s.gens) (d' := s.drawn) (ch:=fp) (fun b hb=>?_) (fun b o _ _ hc e _=>k b o hc e) (fun b o _ _ hc e _=>⟨o.slots,k b o hc e⟩) (fun _ _ _ _ n=>n)
  (fun b o hc e=>⟨o,k b o hc e⟩) (fun _ _ e=>e) (fun _ _ _ e=>e) (fun b ps e=>⟨#[],by rw [e];simp⟩) (fun m hm=>?_) (fun b u e=>?_) I.bare
 ·obtain ⟨_,f1,_,f3,f4,f5⟩:=hf b hb
  exact ⟨f3,f1,f4,f5⟩
 ·obtain ⟨o,es,ep,ho,r⟩:=hm
  exact ⟨o,es,ep,k _ o (fun z=>(hf _ z).2.1 rfl) ho,r⟩
 ·refine (I.hok b u e).stay (fun c v hc q=>k c v ?_ q) (fun _ q=>q) fun _ _ q=>q
  rcases hc with z | z
  ·rw [z];exact nit b u e
  ·exact nit c _ z
theorem Inv.adopt {T:Addr} {ob:HO} (I:Inv X pins σ H s) (hn:H T=none) (hT:X.s₀.heap.objs.size<=T) (hL:T≠X.env.locals) (hc:∀ x c,X.env.cells.lookup x=some c->c≠T)
  (hp:∀ p∈X.pn++pins,p.1≠T) (new:ObjOk X.prog X.w (aV H T ob) s.heap T ob):Inv X pins σ (aV H T ob) s:=by
 have hne:∀ b u,H b=some u->b≠T:=fun b u e=>iz e hn
 refine I.step (h' := s.heap) (g' := s.gens) (d' := s.drawn) (t' := s.toks) (ch:=[T]) (fun b hb=>?_) (fun b o _ _ _ e _=>e) (fun b o _ _ _ e _=>⟨o.slots,e⟩) (fun b o hb e n=>?_) (fun b o _ e=>⟨o,e⟩)
  (fun b xs e=>by rw [cF (hne b _ e)];exact e) (fun b o u e=>by rw [cF (hne b _ e)];exact e) (fun b ps e=>⟨#[],by rw [cF (hne b _ e),e];simp⟩) (fun m hm=>hm) (fun b u e=>?_) I.bare
 ·have e:b=T:=by simpa using hb
  subst e
  exact ⟨.inr hT,hL,hc,hp⟩
 ·rw [cF (fun z=>hb (by simp [z]))];exact n
 ·by_cases hb:b=T
  ·subst hb;rw [gD] at e;cases e;exact new
  ·rw [cF hb] at e
   exact (I.hok b u e).stay (fun c v _ q=>q) (fun c q=>by rw [cF (hne c _ q)];exact q) fun c xs q=>by rw [cF (hne c _ q)];exact q
end
section
variable {X:Cx}
end
def rO (x:Str):It:=⟨fun i _=>i<x.cps.size,fun i H v H' => H'=H/\∃ c,x.cps[i]? = some c/\v = .str ⟨#[c]⟩,fun i _=>x.cps.size<=i⟩
theorem D7 {P:Program} {w:World} {A:Around} (hh:A.handled=none) (it:Addr) (x:Str) (t:Tok) :
  Walks P w A it [it] [it] x.cps.size (SignAt x) (fun i h=>h.IsStrIter it (strIterType x) x t i):=by
 cases ha:x.cps.all (· < 128) with
 | false =>
  have e:strIterType x = "str_iterator" := by simp [strIterType,ha]
  rw [e]
  exact Walks.strWide hh it x t
 | true =>
  have e:strIterType x = "str_ascii_iterator" := by simp [strIterType,ha]
  rw [e]
  exact Walks.strAscii hh it x t
theorem D8 {P:Program} {w:World} {K:PySem.W.Frag} {y:Str} {py:Pos} (it:Addr) (x:Str) (t:Tok):gE P w K (.Name y py) (rO x) [it] it (fun i h=>h.IsStrIter it (strIterType x) x t i) where
 mem:=by simp
 obj:=fun i h st b hb=>by
  have e:b=it:=by simpa using hb
  subst e
  obtain ⟨o,e,c,d⟩:=st
  exact ⟨o,e,fun v z=>by rw [d] at z;cases z⟩
 keep:=fun i h h' st k=>by
  obtain ⟨o,e,r⟩:=st
  exact ⟨o,k it (by simp) o e,r⟩
 item:=by
  intro X hP hw hK hc i pins s σ H E I hf st hg
  subst hP hw hK
  refine (D7 (I.ok.hd hc) it x t).item i s _ _ hg st fun v h1 tk hv st1 kk=>?_
  obtain ⟨c,u,hcp,rfl⟩:=hv
  have I1:Inv X pins σ H { s with heap:=h1,toks:=tk }:=I.turnedL (fp:=[it]) kk hf
  exact ⟨_,rfl,Le ⟨.str ⟨#[c]⟩,H,I1,⟨u,rfl⟩,⟨rfl,c,hcp,rfl⟩,st1,fun b hb=>(hf b hb).1⟩⟩
 done:=by
  intro X hP hw hK hc i pins s σ H E I hf st hg
  subst hP hw hK
  have hx:x.cps[i]? = none:=Array.getElem?_eq_none hg
  cases ha:x.cps.all (· < 128) with
  | false =>
   have e:strIterType x = "str_iterator" := by simp [strIterType,ha]
   rw [e] at st
   exact wpAny_pyNext_wide_end (I.ok.hd hc) st hx fun h' eb=>⟨rfl,I.turnedL (fp:=[it]) (t' := s.toks) (fun b o hb q=>eb b o (fun z=>hb (by simp [z])) q) hf⟩
  | true =>
   have e:strIterType x = "str_ascii_iterator" := by simp [strIterType,ha]
   rw [e] at st
   exact wpAny_pyNext_ascii_end (I.ok.hd hc) st hx fun h' eb=>⟨rfl,I.turnedL (fp:=[it]) (t' := s.toks) (fun b o hb q=>eb b o (fun z=>hb (by simp [z])) q) hf⟩
 self:=fun A i s Q E st h=>by
  cases ha:x.cps.all (· < 128) with
  | false =>
   have e:strIterType x = "str_iterator" := by simp [strIterType,ha]
   rw [e] at st
   exact wpAny_pyIter_striter_wide st h
  | true =>
   have e:strIterType x = "str_ascii_iterator" := by simp [strIterType,ha]
   rw [e] at st
   exact wpAny_pyIter_striter_ascii st h
section
variable {X:Cx}
def rP (tl:TE):TI:=fun σ H R=>tl σ H fun x H1=>∃ t,x = .str t/\R (rO t) H1
theorem D9 {l:Expr} {tl:TE} {y:Str} {py:Pos} (hl:PE X l tl):PI X (.Name y py) l (rP tl):=by
 intro pins s σ H R I h
 refine thn (hl pins s σ H _ I h) fun v s1 ⟨x,H1,I1,r1,q1⟩=>?_
 obtain ⟨t,e,q⟩:=q1
 subst e
 obtain ⟨tk,rfl⟩:=r1
 refine wpAny_pyIter_strU ?_
 refine ⟨s1.heap.objs.size,[s1.heap.objs.size],_,_,H1,rfl,I1.kept (t' := s1.toks) fun b o e=>KU _ e,D8 _ t tk,⟨_,Li _ rfl,rfl,rfl⟩,fun b hb=>?_,q⟩
 have e:b=s1.heap.objs.size:=by simpa using hb
 subst e
 exact I1.fpOk (KC _) (I1.hok.fresh (KC _))
end
def fw (env:Env):List (Str×NameKind)->List (Str×Addr)->List (Str×Addr)
 | [],acc=>acc
 | (n,k)::r,acc=>fw env r (if k = .free then (n,(env.cells.lookup n).getD 0)::acc else acc)
theorem Ea {env:Env} {scope:Scope} (h:∀ y∈scope.names,y.2 = .free->(env.cells.lookup y.1).isSome=true):closureFor scope env=pure (fw env scope.names []):=by
 have all:∀ (l:List (Str×NameKind)) (acc:List (Str×Addr)),(∀ y∈l,y.2 = .free->(env.cells.lookup y.1).isSome=true) ->
   (forIn l acc fun (x:Str×NameKind) (cs:List (Str×Addr))=>if (x.2 == NameKind.free)=true then (do let a <- cellOf env x.1;pure (ForInStep.yield ((x.1,a)::cs))) else (pure (ForInStep.yield cs):Sem _))=pure (fw env l acc):=by
  intro l
  induction l with
  | nil=>intro acc _;rfl
  | cons y r ih =>
   intro acc hl
   obtain ⟨n,k⟩:=y
   rw [List.forIn_cons]
   have hr:=fun z hz=>hl z (KJ _ hz)
   by_cases hk:k = .free
   ·subst hk
    obtain ⟨c,hc⟩:=Lk.mp (hl (n,.free) KF rfl)
    have e1:cellOf env n=pure c:=by
     simp only [cellOf]
     have hc':env.cells.lookup n=some c:=hc
     rw [hc']
    simp only [beq_self_eq_true,Mc,e1,pure_bind,fw]
    have hc':env.cells.lookup n=some c:=hc
    rw [hc']
    exact ih _ hr
   ·have hb:(k == NameKind.free)=false:=by simpa using hk
    simp only [hb,Bool.false_eq_true,Ov,pure_bind,fw,hk]
    exact ih _ hr
 unfold closureFor
 have q:=all scope.names [] h
 first
  | exact q
  | (simp only [bind_pure];exact q)
  | (rw [<- q];simp)
theorem rQ {env:Env}:∀ {l:List (Str×NameKind)} {acc:List (Str×Addr)},(∀ y∈l,y.2 = .free->(env.cells.lookup y.1).isSome=true)->(∀ y c,acc.lookup y=some c->env.cells.lookup y=some c) ->
  ∀ y c,(fw env l acc).lookup y=some c->env.cells.lookup y=some c
 | [],_,_,h,y,c,e=>h y c e
 | (n,k)::r,acc,hl,h,y,c,e=>by
  refine rQ (l:=r) (fun z hz=>hl z (KJ _ hz)) ?_ y c e
  intro y c e
  by_cases hk:k = .free
  ·rw [KS hk] at e
   rw [Mp] at e
   cases hy:y == n with
   | true =>
    rw [hy] at e
    have e':y=n:=by simpa using hy
    obtain ⟨c',hc'⟩:=Lk.mp (hl (n,k) KF hk)
    have hc'':env.cells.lookup n=some c' := hc'
    rw [hc''] at e
    rw [e',hc'']
    exact e
   | false =>
    rw [hy] at e
    exact h y c e
  ·rw [KW hk] at e
   exact h y c e
theorem rR {env:Env}:∀ {l:List (Str×NameKind)} {acc:List (Str×Addr)} {y:Str},(y,NameKind.free)∈l\/(acc.lookup y).isSome=true->((fw env l acc).lookup y).isSome=true
 | [],_,_,h=>by
  rcases h with h | h
  ·cases h
  ·exact h
 | (n,k)::r,acc,y,h=>by
  refine rR (l:=r) ?_
  rcases h with h | h
  ·rcases K6.mp h with e | e
   ·right
    cases e
    rw [KS rfl,Mp]
    simp
   ·exact .inl e
  ·right
   by_cases hk:k = .free
   ·rw [KS hk,Mp]
    cases hy:y == n with
    | true=>rfl
    | false=>exact h
   ·rw [KW hk];exact h
theorem ng {names:List (Str×NameKind)} {x:Str} {k:NameKind} (h:names.lookup x=some k):(x,k)∈names:=LV h
theorem ph {env:Env} {x:Str} {k:NameKind}:∀ {names:List (Str×NameKind)},(names.map fun (n,k)=>if (k == NameKind.free && env.scope.kind == .function && env.kindOf n == some .cell) then (n,NameKind.cell) else (n,k)).lookup x=some k ->
  names.lookup x=some k\/(k = .cell/\names.lookup x=some .free)
 | [],h=>by simp at h
 | (n,kk)::r,h=>by
  have ih:=@ph env x k r
  by_cases hc:(kk == NameKind.free && env.scope.kind == .function && env.kindOf n == some .cell)=true
  ·have hf:kk = .free:=by
    have q:=(Lz _ _).mp ((Lz _ _).mp hc).1
    simpa using q.1
   subst hf
   have h':List.lookup x ((n,NameKind.cell)::(r.map fun (n,k)=>if (k == NameKind.free && env.scope.kind == .function && env.kindOf n == some .cell) then (n,NameKind.cell) else (n,k)))=some k:=by
    have e:(fun (p:Str×NameKind)=>match p with | (n,k)=>if (k == NameKind.free && env.scope.kind == .function && env.kindOf n == some .cell)=true then (n,NameKind.cell) else (n,k)) (n,NameKind.free)=(n,NameKind.cell):=by
     show (if _ then _ else _)=_
     rw [KS hc]
    rw [Ls] at h
    rw [<- e]
    exact h
   rw [Mp] at h' ⊢
   cases hx:x == n with
   | true =>
    rw [hx] at h'
    right
    exact ⟨(Lj h').symm,rfl⟩
   | false =>
    rw [hx] at h'
    exact ih h'
  ·have h':List.lookup x ((n,kk)::(r.map fun (n,k)=>if (k == NameKind.free && env.scope.kind == .function && env.kindOf n == some .cell) then (n,NameKind.cell) else (n,k)))=some k:=by
    have e:(fun (p:Str×NameKind)=>match p with | (n,k)=>if (k == NameKind.free && env.scope.kind == .function && env.kindOf n == some .cell)=true then (n,NameKind.cell) else (n,k)) (n,kk)=(n,kk):=by
     show (if _ then _ else _)=_
     rw [KW hc]
    rw [Ls] at h
    rw [<- e]
    exact h
   rw [Mp] at h' ⊢
   cases hx:x == n with
   | true =>
    rw [hx] at h'
    exact .inl h'
   | false =>
    rw [hx] at h'
    exact ih h'
def d7 (X:Cx) (pins:List (Addr×Obj)) (x₁:Str) (jf:List (Nat×Str)) (scope:Scope) (cl:List (Str×Addr)) (s:Shared) (H:Hp) (fp:List Addr):Cx where
 prog:=X.prog
 w:=X.w
 K:=X.K
 mg:=X.mg
 base:=X.base
 A:=X.A
 N:=x₁::jf.map (·.2)
 s₀:=s
 H₀:=H
 env:=compEnvC scope cl s.heap.objs.size X.env
 outer:=X.stack
 stack:=X.stack
 ex:=fp
 fn:=fun _=>false
 calm:=X.calm
 pn:=X.pn++pins
 xe:=fun _ _=>False
def gr (v:Option V) (js:List (Nat×Str)) (σ:St):St:=v::js.map fun j=>(σ[j.1]?).join
def jC (X:Cx) (ifs:List Expr) (t:TT):Prop :=
 ∀ (pins:List (Addr×Obj)) (s:Shared) (σ:St) (H:Hp) (Q:Bool->Hp->Prop),Inv X pins σ H s->t σ H Q ->
  wpAny (model X.prog X.w) X.A (forIn ifs true fun c r=>if r=true then do let ok <- isTrue c X.env (eval c X.env);pure (ForInStep.yield ok) else pure (ForInStep.yield r)) (TP X pins σ Q) X.xe s
def rS:TT:=fun _ H Q=>Q true H
theorem Eb {X:Cx}:jC X [] rS:=fun pins s σ H Q I h=>wpAny_tests_nil ⟨H,I,h⟩
theorem Ec {X:Cx} {c:Expr} {t:TT} (hc:PT X c t):jC X [c] t:=fun pins s σ H Q I h=>wpAny_tests_one (hc pins s σ H Q I h)
def nh (jf:List (Nat×Str)) (wi:TI) (tc:TT) (te:TE):TE:=fun σ H Q=>wi σ H fun J H1=>∀ D,H1 D=none->∃ W:Nat->Nat->List V->Hp->Prop,(∃ m,W 0 m [] (aV H1 D (.lst []))) /\
 ∀ i m ys H2,W i m ys H2->H2 D=some (.lst ys)/\((J.stop i H2/\Q (.ref D) H2)\/(J.go i H2/\ys.length<sizeLine/\∀ x H3,J.yld i H2 x H3->tc (gr (some x) jf σ) H3 fun b H5 =>
  if b=true then te (gr (some x) jf σ) H5 fun v H6=>H6 D=some (.lst ys)/\∃ m',m'<m/\W (i+1) m' (ys++[v]) (aV H6 D (.lst (ys++[v]))) else ∃ m',m'<m/\W (i+1) m' ys H5))
section
variable {X:Cx} {pins:List (Addr×Obj)} {σ:St} {H:Hp} {s:Shared} {x₁:Str} {jf:List (Nat×Str)} {scope:Scope} {fp:List Addr}
theorem Inv.block {h1:Heap} {tk:Nat} (I:Inv X pins σ H s) (hf:∀ b∈fp,d6 X pins H b) (hlt:∀ b∈fp,b<s.heap.objs.size) (hjf:∀ p∈jf,X.N[p.1]? = some p.2) (hjl:∀ p∈jf,scope.names.lookup p.2=some .free) (hkind:scope.kind = .function)
  (hcell:∀ y∈scope.names,y.2 ≠ .cell) (hfr:∀ y∈scope.names,y.2 = .free->X.env.kindOf y.1=some .cell\/X.env.kindOf y.1=some .free)
  (hn:h1.Ns s.heap.objs.size (fun _=>none)) (hk:∀ b o,s.heap.get? b=some o->h1.get? b=some o) :
  Inv (d7 X pins x₁ jf scope (fw X.env scope.names []) s H fp) [] (gr none jf σ) H { s with heap:=h1,toks:=tk }:=by
 have hsome:∀ y∈scope.names,y.2 = .free->(X.env.cells.lookup y.1).isSome=true:=fun y hy hyf=>Lk.mpr (I.ok.has y.1 (hfr y hy hyf))
 have sub:∀ y c,(fw X.env scope.names []).lookup y=some c->X.env.cells.lookup y=some c:=rQ hsome (fun y c e=>by simp at e)
 have hsz:=I.sz
 have inE:∀ b,b∈(d7 X pins x₁ jf scope (fw X.env scope.names []) s H fp).ex->b∈fp:=fun b z=>z
 have stk:∀ b∈eU X.stack,b<s.heap.objs.size:=fun b hb=>by
  obtain ⟨_,o,ho,_⟩:=I.stack.mem hb
  exact K5 ho
 refine ⟨⟨I.ok.mod,hkind,I.ok.glob,I.ok.blt,KC _,fun y z c e1 e2=>I.ok.inj y z c (sub y c e1) (sub z c e2),fun y hy=>?_,fun y c hfn _=>(by cases hfn),I.ok.hd,I.ok.frames,.inl rfl,fun b hb=>?_,fun b o e=>I.bs b o e,KN I.ok.bsz hsz,fun b o e z=>?_,fun b hb z=>?_,I.stack,I.stkFree⟩,
  rfl,I.bare,Un.kept hk,⟨_,hn,fun i y v e1 e2 e3=>?_⟩,fun y c e=>?_,I.hok.fresh (KC _),fun y c e=>I.freeC y c (sub y c e),fun p hp=>?_,I.hok.kept hk,?_⟩
 ·have hy':(relabel scope X.env).names.lookup y=some .cell\/(relabel scope X.env).names.lookup y=some .free:=hy
  have mem:(y,NameKind.free)∈scope.names:=by
   rcases hy' with q | q
   ·rcases ph (env:=X.env) q with z | z
    ·exact absurd rfl (hcell _ (ng z))
    ·exact ng z.2
   ·rcases ph (env:=X.env) q with z | z
    ·exact ng z
    ·exact ng z.2
  exact Lk.mp (rR (.inl mem))
 ·exact ⟨Lv (hlt b hb),fun y c e=>(hf b hb).2.2.2.2.1 y c (sub y c e)⟩
 ·rcases (hf b z).2.2.2.1 with q | q
  ·exact I.ok.noex b o e q
  ·exact absurd (La (K5 e) (KN I.ok.bsz q)) (Md _)
 ·rcases K6.mp (I.stkSub b z) with q | q
  ·exact (hf b hb).2.1 q
  ·exact (hf b hb).2.2.1 q
 ·have e1':(x₁::jf.map (·.2))[i]? = some y:=e1
  unfold gr at e2
  cases i with
  | zero=>cases e2
  | succ i =>
   rw [LX,Lw] at e1' e2
   cases q:jf[i]? with
   | none=>rw [q] at e2;cases e2
   | some p =>
    rw [q] at e1' e2
    have ey:p.2=y:=Lj e1'
    have ev:(σ[p.1]?).join=some v:=Lj e2
    have hp:p∈jf:=Ld q
    have eσ:σ[p.1]? = some (some v):=by
     cases z:σ[p.1]? with
     | none=>rw [z] at ev;cases ev
     | some r=>rw [z] at ev;rw [show r=some v from ev]
    have hfree:scope.names.lookup y=some .free:=by rw [<- ey];exact hjl p hp
    have mem:=ng hfree
    have kX:=hfr _ mem rfl
    obtain ⟨m,hnX,hl⟩:=I.loc
    obtain ⟨u,ru,lk⟩:=hl p.1 y v (by rw [<- ey];exact hjf p hp) eσ (by
     rcases kX with z | z
     ·exact .inr (.inl z)
     ·exact .inr (.inr z))
    refine ⟨u,ru,.inr ⟨?_,?_⟩⟩
    ·have e3':mS (relabel scope X.env) y:=e3
     rcases e3' with z | z | z
     ·exfalso
      rcases ph (env:=X.env) z with q | q
      ·rw [hfree] at q;cases q
      ·cases q.1
     ·exact .inl z
     ·exact .inr z
    ·rcases lk with ⟨z,_⟩ | ⟨_,c,hc,hcell'⟩
     ·exfalso
      rcases kX with q | q
      ·rw [show X.env.kindOf y=some .cell from q] at z;cases z
      ·rw [show X.env.kindOf y=some .free from q] at z;cases z
     ·obtain ⟨c',hc'⟩:=Lk.mp (rR (env:=X.env) (acc:=[]) (.inl mem))
      have e:=sub y c' hc'
      rw [hc] at e
      cases e
      obtain ⟨o,ho,hd⟩:=hcell'
      exact ⟨c,hc',o,hk c o ho,hd⟩
 ·obtain ⟨v,o,ho,hd⟩:=I.cell y c (sub y c e)
  exact ⟨v,o,hk c o ho,hd⟩
 ·have hp':p∈X.pn++pins:=by simpa [d7] using hp
  obtain ⟨e,n,ne,nf,d⟩:=I.pin p hp'
  refine ⟨hk _ _ e,n,Lv (K5 e),fun z=>?_,d⟩
  rcases K6.mp (I.stkSub p.1 z) with q | q
  ·exact ne q
  ·exact nf q
 ·unfold gr
  show _=(x₁::jf.map (·.2)).length
  rw [KO,KO,K4,K4]
end
theorem Ed {prog:Program} {w:World} {A:Around} {R:Result->Shared->Prop} {s:Shared} {elt target iter:Expr} {ifs:List Expr} {scope:Scope} {pos:Pos} {it acc:Value} {env:Env} (I:Nat->Shared->Prop)
  (turn:∀ n s,I n s->wpAny (model prog w) A (pyNext it) (fun r s₁=>match r with
   | none=>R (.ok .next) s₁
   | some v=>wpAny (model prog w) A (letOwnedTupleGo target it v) (fun _ s₂=>wpAny (model prog w) A (assign target env v) (fun _ s₃ =>
     wpAny (model prog w) A (forIn ifs true fun c r=>if r=true then do let ok <- isTrue c env (eval c env);pure (ForInStep.yield ok) else pure (ForInStep.yield r)) (fun ok s₄ =>
      if ok=true then wpAny (model prog w) A (eval elt env) (fun x s₅=>wpAny (model prog w) A (call (.builtin "list.append") [acc,x]) (fun _ s₆=>∃ m,m<n/\I m s₆) (fun _ _=>False) s₅) (fun _ _=>False) s₄
      else ∃ m,m<n/\I m s₄) (fun _ _=>False) s₃) (fun _ _=>False) s₂) (fun _ _=>False) s₁) (fun _ _=>False) s)
  (n:Nat) (h:I n s):codeAny (model prog w) A (.compLoop (.ListComp elt [⟨target,iter,ifs,0⟩] scope pos) 0 it acc env) R s:=by
 refine codeAny_loop rfl I (fun n s hI=>?_) n h
 show wpAny _ A ((compTurn (.ListComp elt [⟨target,iter,ifs,0⟩] scope pos) 0 it acc env).onRaise (fun x=>do noteFrame x env;theTreesLotGoes x)) _ _ s
 refine wpAny_noted ?_
 rw [compTurn_list]
 refine K0 (NX (K0 (LF (turn n s hI) (fun r s₁ h₁=>?_) fun _ _ z=>z.elim)))
 cases r with
 | none=>exact Le h₁
 | some v =>
  refine K0 (LF h₁ (fun _ s₂ h₂=>?_) fun _ _ z=>z.elim)
  refine K0 (LF h₂ (fun _ s₃ h₃=>K0 (LF h₃ (fun ok s₄ h₄=>?_) fun _ _ z=>z.elim)) fun _ _ z=>z.elim)
  cases ok with
  | false=>exact Le ⟨rfl,h₄⟩
  | true =>
   exact K0 (K0 (LF h₄ (fun x s₅ h₅=>K0 (LF h₅ (fun _ s₆ h₆=>Le (Le ⟨rfl,h₆⟩)) fun _ _ z=>z.elim)) fun _ _ z=>z.elim))
section
variable {X:Cx} {x₁:Str} {px:Pos} {jf:List (Nat×Str)} {scope:Scope} {iter elt:Expr} {ifs:List Expr} {pos:Pos} {wi:TI} {tc:TT} {te:TE}
theorem xA (hcalm:X.calm=true) (hi:PI X (.Name x₁ px) iter wi) (hc:∀ pins cl s H fp,jC (d7 X pins x₁ jf scope cl s H fp) ifs tc) (he:∀ pins cl s H fp,PE (d7 X pins x₁ jf scope cl s H fp) elt te)
  (hN:(x₁::jf.map (·.2)).Nodup) (hx:scope.names.lookup x₁=some .local) (hjf:∀ p∈jf,X.N[p.1]? = some p.2) (hjl:∀ p∈jf,scope.names.lookup p.2=some .free) (hkind:scope.kind = .function)
  (hcell:∀ y∈scope.names,y.2 ≠ .cell) (hfr:∀ y∈scope.names,y.2 = .free->X.env.kindOf y.1=some .cell\/X.env.kindOf y.1=some .free)
  (hnames:∀ y∈scope.names,y.2 = .local->scope.names.lookup y.1=some .local) {use:Option (Value->Sem Unit)} {Qf:Value->Shared->Prop} {cpos:Pos}
  {pins:List (Addr×Obj)} {σ:St} {H:Hp} {s:Shared} {Q:VK} (I:Inv X pins σ H s) (h:nh jf wi tc te σ H Q)
  (fin:∀ D C s6 H6 m6,Inv X pins σ H6 s6->Q (.ref D) H6->d6 X pins H6 C->s6.heap.Ns C m6->compPost (model X.prog X.w) X.A X.xe use Qf (.ref D) C (.ok .next) s6) (hs:∀ x,foldedSetIterable iter X.env x=pure x) :
  wpAny (model X.prog X.w) X.A (comprehension (.ListComp elt [⟨.Name x₁ px,iter,ifs,0⟩] scope pos) scope X.env cpos (newList []) false (eval iter X.env) use) Qf X.xe s:=by
 have hsome:∀ y∈scope.names,y.2 = .free->(X.env.cells.lookup y.1).isSome=true:=fun y hy hyf=>Lk.mpr (I.ok.has y.1 (hfr y hy hyf))
 refine wpAny_comprehension_free (use:=use) rfl hs (Ea hsome) hkind hnames (thn (hi pins s σ H _ I h) fun xv s1 h1=>thn h1 fun itv s2 h2=>?_)
 obtain ⟨it,fp,tn,J,H2,e,I2,T,st2,f2,h⟩:=h2
 subst e
 refine Mo (wpAny_newFunctionEnv hcell (by intro y hy;simp at hy) (fun h₁ hns₁ hsb₁=>?_) hkind)
 have hD0:H2 s2.heap.objs.size=none:=I2.hok.fresh (KC _)
 obtain ⟨W,⟨m0,w0⟩,step⟩:=h s2.heap.objs.size hD0
 dsimp only at hns₁ hsb₁ ⊢
 have I3:Inv X pins σ (aV H2 s2.heap.objs.size (.lst [])) { s2 with heap:=s2.heap.push { cls:=.type "list",dict:=none,data:=.seq ([]:List Value).toArray } } :=
  I2.laid (t' := s2.toks) (fun b u q=>KU _ q) (KC _) ⟨Lc _,[],0,.nil,Li _ rfl⟩
 generalize hH3:s2.heap.push { cls:=.type "list",dict:=none,data:=.seq ([]:List Value).toArray }=hp3 at hns₁ hsb₁ I3 ⊢
 have hsz3:hp3.objs.size=s2.heap.objs.size+1:=by rw [<- hH3,NK]
 have k23:∀ b o,s2.heap.get? b=some o->hp3.get? b=some o:=fun b o q=>by rw [<- hH3];exact KU _ q
 have flt:∀ b∈fp,b<s2.heap.objs.size:=fun b hb=>by
  obtain ⟨o,q,_⟩:=T.obj 0 _ st2 b hb
  exact K5 q
 have f3:∀ b∈fp,d6 X pins (aV H2 s2.heap.objs.size (.lst [])) b:=fun b hb=>by
  obtain ⟨g0,g⟩:=f2 b hb
  exact ⟨by rw [cF (Lv (flt b hb))];exact g0,g⟩
 have kC:∀ b o,hp3.get? b=some o->h₁.get? b=some o:=fun b o q=>(hsb₁.2 b (Lv (K5 q))).trans (KU _ q)
 have B0:=I3.block (x₁:=x₁) (jf:=jf) (scope:=scope) (fp:=fp) (h1:=h₁) (tk:=s2.toks+([]:List (Str×Value)).length) f3 (fun b hb=>by show b<hp3.objs.size;rw [hsz3];exact Od (flt b hb)) hjf hjl hkind hcell hfr (by simpa using hns₁) kC
 have st4:tn 0 h₁:=T.keep _ _ _ st2 fun b _ o q=>kC b o (k23 b o q)
 have w0' := w0
 have stat:∀ {H':Hp},(∀ b∈fp,H' b=none)->∀ b∈fp,d6 (d7 X pins x₁ jf scope (fw X.env scope.names []) { s2 with heap:=hp3 } (aV H2 s2.heap.objs.size (.lst [])) fp) [] H' b:=fun hn b hb=>by
  obtain ⟨_,g1,g2,g3,g4,g5⟩:=f2 b hb
  refine ⟨hn b hb,Lv (by show b<hp3.objs.size;rw [hsz3];exact Od (flt b hb)),fun z=>?_,.inl hb,fun y c q=>g4 y c (rQ hsome (fun y c e=>by simp at e) y c q),fun p hp=>g5 p (by simpa [d7] using hp)⟩
  rcases K6.mp (I2.stkSub b z) with q | q
  ·exact g1 q
  ·exact g2 q
 have loop:codeAny (model X.prog X.w) X.A (.compLoop (.ListComp elt [⟨.Name x₁ px,iter,ifs,0⟩] scope pos) 0 (.ref it) (.ref s2.heap.objs.size) (compEnvC scope (fw X.env scope.names []) hp3.objs.size X.env))
   (compPost (model X.prog X.w) X.A X.xe use Qf (.ref s2.heap.objs.size) hp3.objs.size) { s2 with heap:=h₁,toks:=s2.toks+([]:List (Str×Value)).length }:=by
  refine Ed (fun n s' => ∃ i ys H',Inv (d7 X pins x₁ jf scope (fw X.env scope.names []) { s2 with heap:=hp3 } (aV H2 s2.heap.objs.size (.lst [])) fp) [] (gr none jf σ) H' s'/\tn i s'.heap/\(∀ b∈fp,H' b=none)/\W i n ys H') ?_ m0
   ⟨0,[],_,B0,st4,fun b hb=>(f3 b hb).1,w0⟩
  rintro n s5 ⟨i,ys,H5,I5,st5,fr5,w5⟩
  obtain ⟨hD5,alt⟩:=step i n ys H5 w5
  rcases alt with ⟨stop,q5⟩ | ⟨go,hlen,next⟩
  ·refine LF (T.done (d7 X pins x₁ jf scope (fw X.env scope.names []) { s2 with heap:=hp3 } (aV H2 s2.heap.objs.size (.lst [])) fp) rfl rfl rfl hcalm i [] s5 _ H5 (fun _ _=>False) I5 (stat fr5) st5 stop) (fun r s6 ⟨hr,I6⟩=>?_) fun _ _ z=>z
   subst hr
   obtain ⟨m6,hn6,_⟩:=id I6.loc
   refine fin _ _ s6 H5 m6 ?_ q5 (I3.fpOk (KC _) I6.free) hn6
   refine I3.call' (ch:=fp) I6.os I6.base I6.hok I6.bare (fun b hb=>?_)
   obtain ⟨_,g1,g2,g3,g4,g5⟩:=f2 b hb
   exact ⟨g3,g1,g4,g5⟩
  ·refine LF (T.item (d7 X pins x₁ jf scope (fw X.env scope.names []) { s2 with heap:=hp3 } (aV H2 s2.heap.objs.size (.lst [])) fp) rfl rfl rfl hcalm i [] s5 _ H5 (fun _ _=>False) I5 (stat fr5) st5 go) (fun r s6 ⟨u,hr,h6⟩=>?_) fun _ _ z=>z
   subst hr
   refine LF h6 (fun _ s7 ⟨x,H7,I7,r7,y7,st7,fr7⟩=>?_) fun _ _ z=>z
   have I7' := I7.pinned (stat fr7) (T.obj _ _ st7)
   have hloc:ke (d7 X pins x₁ jf scope (fw X.env scope.names []) { s2 with heap:=hp3 } (aV H2 s2.heap.objs.size (.lst [])) fp).env.scope x₁:=.inl (NQ hx)
   refine M6 (qR (i:=0) I7' hN rfl hloc r7 (fun s8 I8=>?_) (.inr (NQ hx)))
   have q8:=next x H7 y7
   have I8':Inv (d7 X pins x₁ jf scope (fw X.env scope.names []) { s2 with heap:=hp3 } (aV H2 s2.heap.objs.size (.lst [])) fp) ([]++jz fp s7.heap) (gr (some x) jf σ) H7 s8:=I8
   have again:∀ {s9:Shared} {H9:Hp} {zs:List V} {m':Nat},Inv (d7 X pins x₁ jf scope (fw X.env scope.names []) { s2 with heap:=hp3 } (aV H2 s2.heap.objs.size (.lst [])) fp) ([]++jz fp s7.heap) (gr (some x) jf σ) H9 s9->m'<n->W (i+1) m' zs H9 ->
     ∃ m,m<n/\∃ i ys H',Inv (d7 X pins x₁ jf scope (fw X.env scope.names []) { s2 with heap:=hp3 } (aV H2 s2.heap.objs.size (.lst [])) fp) [] (gr none jf σ) H' s9/\tn i s9.heap/\(∀ b∈fp,H' b=none)/\W i m ys H' := fun {s9 H9 zs m'} I9 hm w9=>by
    refine ⟨m',hm,i+1,zs,H9,I9.unpinned.weak (by simp [gr]) (fun j v e=>?_),T.keep _ _ _ st7 fun b hb o e=>(I9.pin (b,o) (K8 _ (K8 _ (oR hb e)))).1,fun b hb=>?_,w9⟩
    ·cases j with
     | zero=>simp [gr] at e
     | succ j=>simpa [gr] using e
    ·obtain ⟨o,e,d⟩:=T.obj _ _ st7 b hb
     exact (I9.pin (b,o) (K8 _ (K8 _ (oR hb e)))).2.1
   refine LF (hc pins _ _ _ fp ([]++jz fp s7.heap) s8 _ H7 _ I8' q8) (fun ok s9 ⟨H9,I9,q9⟩=>?_) fun _ _ z=>z
   cases ok with
   | false =>
    rw [KW K9] at q9 ⊢
    obtain ⟨m',hm,w9⟩:=q9
    exact again I9 hm w9
   | true =>
    rw [KS rfl] at q9 ⊢
    refine LF (he pins _ _ _ fp ([]++jz fp s7.heap) s9 _ H9 _ I9 q9) (fun y s10 ⟨v,H10,I10,r10,hD10,m',hm,w10⟩=>?_) fun _ _ z=>z
    refine LF (xq (X:=(d7 X pins x₁ jf scope (fw X.env scope.names []) { s2 with heap:=hp3 } (aV H2 s2.heap.objs.size (.lst [])) fp)) ([]++jz fp s7.heap) s10 (gr (some x) jf σ) H10 (.ref s2.heap.objs.size) [v] (.ref s2.heap.objs.size) [y] (fun _ H' => H'=aV H10 s2.heap.objs.size (.lst (ys++[v]))) I10 rfl (.cons r10 .nil) ⟨_,ys,v,rfl,rfl,hD10,hlen,rfl⟩)
     (fun _ s11 ⟨_,H11,I11,_,e11⟩=>?_) fun _ _ z=>z
    subst e11
    exact again I11 hm w10
 exact codeAny_compStart_list loop (T.self _ 0 _ _ _ st4 loop)
theorem Ee (hcalm:X.calm=true) (hi:PI X (.Name x₁ px) iter wi) (hc:∀ pins cl s H fp,jC (d7 X pins x₁ jf scope cl s H fp) ifs tc) (he:∀ pins cl s H fp,PE (d7 X pins x₁ jf scope cl s H fp) elt te)
  (hN:(x₁::jf.map (·.2)).Nodup) (hx:scope.names.lookup x₁=some .local) (hjf:∀ p∈jf,X.N[p.1]? = some p.2) (hjl:∀ p∈jf,scope.names.lookup p.2=some .free) (hkind:scope.kind = .function)
  (hcell:∀ y∈scope.names,y.2 ≠ .cell) (hfr:∀ y∈scope.names,y.2 = .free->X.env.kindOf y.1=some .cell\/X.env.kindOf y.1=some .free)
  (hnames:∀ y∈scope.names,y.2 = .local->scope.names.lookup y.1=some .local) (hs:∀ x,foldedSetIterable iter X.env x=pure x:=by intro _;rfl) :
  PE X (.ListComp elt [⟨.Name x₁ px,iter,ifs,0⟩] scope pos) (nh jf wi tc te):=by
 intro pins s σ H Q I h
 rw [eval_ListComp]
 refine xA hcalm hi hc he hN hx hjf hjl hkind hcell hfr hnames (use:=none) (Qf:=EP X pins σ Q) I h (fun D C s6 H6 m6 I6 q6 f6 n6=>?_) hs
 refine ⟨m6,n6,fun h' hs' => ⟨.ref D,H6,?_,rfl,q6⟩⟩
 exact I6.turnedL (fp:=[C]) (t' := s6.toks) (fun b o hb q=>(hs'.2 b (fun z=>hb (by simp [z]))).trans q) (fun b hb=>by
  have e:b=C:=by simpa using hb
  subst e
  exact f6)
theorem Ef {y:Str} {py spos:Pos} {i:Nat} (hcalm:X.calm=true) (hi:PI X (.Name x₁ px) iter wi) (hc:∀ pins cl s H fp,jC (d7 X pins x₁ jf scope cl s H fp) ifs tc) (he:∀ pins cl s H fp,PE (d7 X pins x₁ jf scope cl s H fp) elt te)
  (hN:(x₁::jf.map (·.2)).Nodup) (hx:scope.names.lookup x₁=some .local) (hjf:∀ p∈jf,X.N[p.1]? = some p.2) (hjl:∀ p∈jf,scope.names.lookup p.2=some .free) (hkind:scope.kind = .function)
  (hcell:∀ y∈scope.names,y.2 ≠ .cell) (hfr:∀ y∈scope.names,y.2 = .free->X.env.kindOf y.1=some .cell\/X.env.kindOf y.1=some .free)
  (hnames:∀ y∈scope.names,y.2 = .local->scope.names.lookup y.1=some .local) (hNX:X.N.Nodup) (hi':X.N[i]? = some y) (hy:X.env.scope.names.lookup y=some .local)
  (hsw:swapsWith (.ListComp elt [⟨.Name x₁ px,iter,ifs,0⟩] scope pos) (some (.Name y py)) spos.line X.env=pure true) (hs:∀ x,foldedSetIterable iter X.env x=pure x:=by intro _;rfl) :
  PS X (.Assign [.Name y py] (.ListComp elt [⟨.Name x₁ px,iter,ifs,0⟩] scope pos) spos) (jy (nh jf wi tc te) (oN i)):=by
 intro pins s σ H D I h
 rw [exec_Assign_Name_used _ _ _ _ hsw]
 refine K0 (NX (K0 ?_))
 show wpAny _ X.A (do let _ <- comprehension (.ListComp elt [⟨.Name x₁ px,iter,ifs,0⟩] scope pos) scope X.env _ (newList []) false (eval iter X.env) (some (assign (.Name y py) X.env))) _ _ s
 refine K0 (LF (xA (Qf:=fun _ s' => SP X pins D .next s') hcalm hi hc he hN hx hjf hjl hkind hcell hfr hnames (use:=some (assign (.Name y py) X.env)) I h (fun D' C s6 H6 m6 I6 q6 f6 n6=>?_) hs) (fun _ s' hq=>Le (Le hq)) fun _ _ e=>e)
 refine M6 (wG I6 hNX hi' (.inl hy) (v:=.ref D') rfl (fun s7 I7 ⟨a,hsa,ha⟩=>?_) (.inr hy))
 have ne:C≠a:=by
  rcases ha with z | z
  ·rw [z];exact f6.2.1
  ·exact fun q=>f6.2.2.2.2.1 y a z q.symm
 refine ⟨m6,n6.sameBut hsa ne,fun h' hs' => ⟨_,H6,?_,q6⟩⟩
 exact I7.turnedL (fp:=[C]) (t' := s7.toks) (fun b o hb q=>(hs'.2 b (fun z=>hb (by simp [z]))).trans q) (fun b hb=>by
  have e:b=C:=by simpa using hb
  subst e
  exact f6)
end
end L2
namespace L2
open PySem PySem.Spec PyProof.Rows
section
variable {X:Cx} {a b e:Expr} {ta tb:TE} {p p2 pos:Pos}
theorem Eg {c:V} {cv:Value} (rc:∀ u,RelV c u->u=cv) :
  CallR X (.builtin "isinstance") (fun xs H Q=>∃ x t r,xs=[x,c]/\dy X.K H x t/\PySem.W.kitOne X.K t cv=some r/\Q (.bl r) H):=by
 intro pins s σ H xs us Q I r h
 obtain ⟨x,t,k,rfl,ty,hk,q⟩:=h
 obtain ⟨u,w',rfl,rx,ry⟩:=oT r
 obtain rfl:=rc _ ry
 exact C4 I rx ty hk fun tk=>⟨.bl k,H,I.tok _,rfl,q⟩
theorem xB (n:String):∀ u,RelV (.ty n) u->u=Value.type n:=fun _ r=>r
theorem Eh:OpR X (compareOp .LtE) (fun x y H Q=>∃ i j,x = .str i/\y = .str j/\Q (.bl (!decide (j.cps.toList<i.cps.toList))) H):=by
 intro pins s σ H x y v u Q I rx ry h
 obtain ⟨i,j,rfl,rfl,q⟩:=h
 obtain ⟨t,rfl⟩:=rx
 obtain ⟨t',rfl⟩:=ry
 exact PySem.P.le_str (cQ I q rfl)
theorem Ei:jc X "str.count" (fun x vs H Q=>∃ z y,x = .str z/\vs=[.str y]/\Q (.int ((Builtin.Str.occurrences z y 0 z.length (z.length+1)).length:Nat)) H):=by
 intro pins s σ H x vs v us Q I rx rv h
 obtain ⟨z,y,rfl,rfl,q⟩:=h
 obtain ⟨t,rfl⟩:=rx
 obtain ⟨u,rfl,t',rfl⟩:=jB rv
 exact call_gives F.slot_str_count (N9 s z t) F.entry_str_count (F.args_str_count_2 _ _) (gives_str_count z y t t') ⟨.int _,H,I.tok _,⟨_,rfl⟩,q⟩
theorem Ej (hc:X.calm=true):CallR X (.builtin "all") (fun xs H Q=>∃ (a:Addr) (bs:List Bool),xs=[.ref a]/\SqL X.K H a (bs.map V.bl)/\Q (.bl (bs.all id)) H):=by
 intro pins s σ H xs us Q I r h
 obtain ⟨l,bs,rfl,hq,q⟩:=h
 obtain ⟨u,rfl,rx⟩:=jB r
 cases rx
 obtain ⟨its,rv,pl,hz⟩:=I.list hq
 have hlt:l<s.heap.objs.size:=by obtain ⟨_,_,e,_⟩:=pl;exact K5 e
 have hlen:its.length=bs.length:=by rw [<- rv.length,K4]
 refine call_all_walk (M7 pl.isList ?_)
 refine ⟨s.heap.objs.size,[s.heap.objs.size,l],[s.heap.objs.size],its.toArray.size,_,_,fun i=>(bs[i]?).getD true,rfl,Walks.list (A:=X.A.in1) (I.ok.hd hc) _ l (Lv hlt) its.toArray,
  ⟨⟨_,Li _ rfl,rfl,rfl⟩,pl.isList.push _⟩,fun i v s' Q' E' hP hQ=>?_,fun h' tk hk=>?_⟩
 ·have hP':its[i]? = some v:=by simpa using hP
  have hi:i<its.length:=(Kz.mp hP').1
  have hb:(bs.map V.bl)[i]? = some (V.bl (bs[i]'(by lia))):=by rw [Lw,KR (by lia)];rfl
  obtain ⟨u,hu,ru⟩:=rv.get hb
  rw [hP'] at hu
  cases hu
  cases ru
  have e:(bs[i]?).getD true=bs[i]'(by lia):=by rw [KR (by lia)];rfl
  have hQ2:Q' ((bs[i]?).getD true) s' := hQ
  rw [e] at hQ2
  exact LP hQ2
 ·have e:((List.range its.toArray.size).all fun i=>(bs[i]?).getD true)=bs.all id:=by
   rw [KY,hlen,LY,Lo,Lo]
   constructor
   ·intro z c hc'
    obtain ⟨i,hi,rfl⟩:=Mu hc'
    have:=z i (NJ.mpr hi)
    rw [KR hi] at this
    exact this
   ·intro z i hi
    have hi' := NJ.mp hi
    rw [KR hi']
    exact z _ (MH hi')
  rw [e]
  refine ⟨.bl _,H,I.kept (t' := tk) fun b o q=>?_,rfl,q⟩
  exact hk b o (fun hm=>by rw [LH.mp hm] at q;exact Md _ (K5 q)) (KU _ q)
end
end L2
namespace L2
open PySem PySem.Spec PyProof.Rows
section
variable {X:Cx}
theorem Ek:OpR X (binaryOp .FloorDiv) (rI (fun _ j=>0<j/\j<2 ^ 200) fun i j=>.int (i / j)):=oS fun i j _ _ _ _ _ hc q=>by
 obtain ⟨h1,h2⟩:=hc
 refine floordiv_int (by lia) (by rw [Int.fdiv_eq_ediv_of_nonneg i (by lia)];exact q) (.inl (PyProof.noPylong_of_log2 ?_))
 have h3:j.natAbs<2 ^ 200:=by lia
 have h4:j.natAbs.log2<200:=(Nat.log2_lt (by lia)).mpr h3
 lia
theorem El:OpR X (binaryOp .Mult) (rI IntMulOk fun i j=>.int (i*j)):=oS fun _ _ _ _ _ _ _ hc q=>mul_int q hc
end
end L2
namespace L2
open PySem PySem.Spec PyProof.Rows
theorem xC:bootBuiltins "int" = some (.type "int"):=by decide +kernel
theorem rT:bootBuiltins "bool" = some (.type "bool"):=by decide +kernel
theorem mq:bootBuiltins "str" = some (.type "str"):=by decide +kernel
end L2
namespace L2
open PySem PySem.Spec PyProof.Rows
theorem ObjOk.some {P:Program} {w:World} {H:Hp} {h:Heap} {a:Addr} {o:HO} (x:ObjOk P w H h a o):∃ ob,h.get? a=Option.some ob:=by
 cases o with
 | lst xs=>obtain ⟨_,_,_,_,e⟩:=x;exact ⟨_,e⟩
 | tup xs=>obtain ⟨_,_,_,o,e,_⟩:=x;exact ⟨o,e⟩
 | dK kvs=>obtain ⟨_,_,_,_,o,_,_,e,_⟩:=x;exact ⟨_,e⟩
 | dT kvs=>obtain ⟨_,_,_,_,o,_,_,e,_⟩:=x;exact ⟨_,e⟩
 | set S n=>obtain ⟨o,_,_,_,e,_⟩:=x;exact ⟨_,e⟩
 | ins C dx fs=>obtain ⟨_,_,_,e,_⟩:=x;exact ⟨_,e⟩
 | own y=>obtain ⟨_,e⟩:=x;exact ⟨_,e⟩
 | xd fs=>obtain ⟨_,⟨_,_,_,e,_⟩,_⟩:=x;exact ⟨_,e⟩
 | rng lo hi=>obtain ⟨_,_,_,e⟩:=x;exact ⟨_,e⟩
 | frz ob u=>obtain ⟨e,_⟩:=x;exact ⟨_,e⟩
 | tbl ps=>exact ⟨_,(show h.get? a=Option.some _ from x)⟩
 | met f y=>exact ⟨_,(show h.get? a=Option.some _ from x)⟩
 | ext φ=>obtain ⟨_,⟨_,e⟩,_⟩:=x;exact ⟨_,e⟩
def kU (X:Cx) (pins:List (Addr×Obj)) (H:Hp) (h B:Heap):Prop :=
 ∀ b o,h.get? b=some o->b∉eU X.stack->((∃ u,H b=some u)\/(∃ o',X.s₀.heap.get? b=some o')\/∃ p∈X.pn++pins,p.1=b)->B.get? b=some o
section
variable {X:Cx} {pins:List (Addr×Obj)} {σ:St} {H:Hp} {s:Shared}
theorem Inv.nofr (I:Inv X pins σ H s) {b:Addr} {o:Obj} (e:X.s₀.heap.get? b=some o) (hb:b∉X.fs):b∉eU X.stack:=fun z=>by
 rcases K6.mp (I.stkSub b z) with q | q
 ·exact Lv (La (K5 e) I.ok.above) q
 ·exact hb q
theorem Inv.nofrT (I:Inv X pins σ H s) {b:Addr} {u:HO} (e:H b=some u):b∉eU X.stack:=fun z=>by
 have q:=I.stkFree b z
 rw [q] at e
 cases e
theorem Inv.nofrP (I:Inv X pins σ H s) {p:Addr×Obj} (hp:p∈X.pn++pins):p.1∉eU X.stack:=fun z=>by
 obtain ⟨_,_,ne,nf,_⟩:=I.pin p hp
 rcases K6.mp (I.stkSub p.1 z) with q | q
 ·exact ne q
 ·exact nf q
theorem Inv.flown {B h':Heap} {t':Nat} (I:Inv X pins σ H s) (hex:X.ex=[]) (F:kU X pins H s.heap B) (st:B.StaysIn h') (sm:s.heap.UpToSlots h'):Inv X pins σ H { s with heap:=h',toks:=t' }:=by
 have nx:∀ b,b∉X.ex:=fun b z=>by rw [hex] at z;cases z
 refine ⟨I.ok,I.os,I.bare,⟨fun b o e n hb hx=>?_,fun b o e n hb hx=>?_,I.base.free,fun b o e hx=>?_,I.base.tups,I.base.frzs,I.base.tbls⟩,?_,fun x c e=>?_,I.free,I.freeC,fun p hp=>?_,fun b u e=>?_,I.len⟩
 ·exact st b o (F b o (I.base.keep b o e n hb hx) (I.nofr e hb) (.inr (.inl ⟨o,e⟩)))
 ·obtain ⟨sl,q⟩:=I.base.slot b o e n hb hx
  obtain ⟨_,o',ho',hd⟩:=I.funs.mem hb
  rw [q] at ho'
  cases ho'
  obtain ⟨sl',q'⟩:=sm b _ q hd
  exact ⟨sl',q'⟩
 ·obtain ⟨o',q⟩:=I.base.there b o e hx
  by_cases hb:b∈X.fs
  ·obtain ⟨_,o'',ho'',hd⟩:=I.funs.mem hb
   rw [q] at ho''
   cases ho''
   obtain ⟨sl',q'⟩:=sm b _ q hd
   exact ⟨_,q'⟩
  ·exact ⟨o',st b o' (F b o' q (I.nofr e hb) (.inr (.inl ⟨o,e⟩)))⟩
 ·obtain ⟨m,hn,hl⟩:=I.loc
  refine ⟨m,sm.ns hn,fun i x v e1 e2 e3=>?_⟩
  obtain ⟨u,r,l⟩:=hl i x v e1 e2 e3
  refine ⟨u,r,?_⟩
  rcases l with l | ⟨k,c,e,o,ho,hd⟩
  ·exact .inl l
  ·obtain ⟨sl,q⟩:=sm c o ho fun vs z=>by rw [hd] at z;cases z
   exact .inr ⟨k,c,e,_,q,hd⟩
 ·obtain ⟨v,o,ho,hd⟩:=I.cell x c e
  obtain ⟨sl,q⟩:=sm c o ho fun vs z=>by rw [hd] at z;cases z
  exact ⟨v,_,q,hd⟩
 ·obtain ⟨e,n,ne,nf,d⟩:=I.pin p hp
  exact ⟨st _ _ (F _ _ e (I.nofrP hp) (.inr (.inr ⟨p,hp,rfl⟩))),n,ne,nf,d⟩
 ·refine (I.hok b u e).stay (fun c v hc q=>?_) (fun _ q=>q) fun _ _ q=>q
  rcases hc with z | z
  ·subst z
   exact st _ _ (F _ _ q (I.nofrT e) (.inl ⟨_,e⟩))
  ·exact st _ _ (F _ _ q (I.nofrT z) (.inl ⟨_,z⟩))
end
structure Arr (X:Cx) (pins:List (Addr×Obj)) (σ:St) (H:Hp) (a:Addr) (cls:Value) (s:Shared):Prop where
 inv:Inv X pins σ H s
 un:H a=none
 new:X.s₀.heap.get? a=none
 nl:a≠X.env.locals
 nc:∀ x c,X.env.cells.lookup x=some c->c≠a
 np:∀ p∈X.pn++pins,p.1≠a
 fly:∃ B a0,kU X pins H s.heap B/\B.StaysIn s.heap/\B.get? a=none/\s.heap.FunFrames B X.stack /\
  ((∃ oe vs,s.heap.get? a=some oe/\oe.cls=cls/\oe.data = .fields vs/\vs[0]? = some a0/\vs[1]? = some .none)\/s.heap.TracedW B a cls a0)
def dU (P:Program) (w:World):gF:=fun outer H s E e s' => ∃ (a:Addr) (cls a0:Value) (H':Hp) (B:Heap),e = .ref a/\s'.os=s.os/\AllBare s'.gens/\Un (eU outer) [] H H' s.heap s'.heap/\HOk P w H' s'.heap /\
 Heap.FlyingW B outer a cls a0 s'.heap/\(∀ b o,s'.heap.get? b=some o->b∉eU outer->((∃ u,H' b=some u)\/∃ o',s.heap.get? b=some o')->B.get? b=some o)/\H' a=none/\s.heap.get? a=none/\E cls none H'
section
variable {X:Cx} {pins:List (Addr×Obj)} {σ:St} {H:Hp} {s:Shared}
theorem Em {h':Heap} {e:Addr} {cls:Value} {args:List Value} {t':Nat} (I:Inv X pins σ H s) (hex:X.ex=[]) (hx:Heap.MadeExcOf s.heap h' e cls args):Arr X pins σ H e cls { s with heap:=h',toks:=t' }:=by
 have nx:∀ b,b∉X.ex:=fun b z=>by rw [hex] at z;cases z
 have none_of:∀ b o,s.heap.get? b=some o->b≠e:=fun b o q z=>by rw [z,hx.new] at q;cases q
 have eq_of:∀ b o o1,h'.get? b=some o->s.heap.get? b=some o1->o1=o:=fun b o o1 q q1=>by
  have z:=hx.keeps b o1 q1
  rw [q] at z
  exact (Lj z).symm
 obtain ⟨t,he,_,_⟩:=hx.there
 refine ⟨I.kept hx.keeps,?_,?_,fun z=>?_,fun x c q z=>?_,fun p hp z=>?_,PySem.W.hideAll s.heap (eU X.stack),.ref t,fun b o q nb alt=>?_,fun b o q=>hx.keeps b o (MU _ q),?_,?_,.inl ⟨_,_,he,rfl,rfl,rfl,rfl⟩⟩
 ·cases q:H e with
  | none=>rfl
  | some u =>
   obtain ⟨ob,z⟩:=(I.hok e u q).some
   exact absurd rfl (none_of e ob z)
 ·cases q:X.s₀.heap.get? e with
  | none=>rfl
  | some o =>
   obtain ⟨ob,z⟩:=I.base.there e o q (nx e)
   exact absurd rfl (none_of e ob z)
 ·obtain ⟨m,⟨o,_,_,ho,_⟩,_⟩:=I.loc
  exact none_of _ o ho z.symm
 ·obtain ⟨v,o,ho,_⟩:=I.cell x c q
  exact none_of _ o ho z
 ·exact none_of _ _ (I.pin p hp).1 z
 ·have there:∃ o1,s.heap.get? b=some o1:=by
   rcases alt with ⟨u,q'⟩ | ⟨o',q'⟩ | ⟨p,hp,rfl⟩
   ·exact (I.hok b u q').some
   ·exact I.base.there b o' q' (nx b)
   ·exact ⟨_,(I.pin p hp).1⟩
  obtain ⟨o1,q1⟩:=there
  rw [<- eq_of b o o1 q q1]
  exact NR _ q1 nb
 ·cases q:(PySem.W.hideAll s.heap (eU X.stack)).get? e with
  | none=>rfl
  | some o=>exact absurd rfl (none_of e o (MU _ q))
 ·refine (PySem.W.funFrames_hide I.stack fun env henv b hb=>MW.mpr ⟨env,henv,hb⟩).of_keeps fun b o q _=>⟨o,hx.keeps b o q,rfl⟩
theorem Eo {E:XK} {e:Value} {s':Shared} (I:Inv X pins σ H s) (hex:X.ex=[]) (h:dU X.prog X.w X.stack H s E e s'):∃ a cls H',e = .ref a/\Arr X pins σ H' a cls s'/\E cls none H' := by
 obtain ⟨a,cls,a0,H',B,rfl,os,bare,un,hok,⟨f1,f2,f3,f4⟩,ext,na,ns,q⟩:=h
 have nx:∀ b,b∉X.ex:=fun b z=>by rw [hex] at z;cases z
 have none_of:∀ b o,s.heap.get? b=some o->b≠a:=fun b o q z=>by rw [z,ns] at q;cases q
 refine ⟨a,cls,H',rfl,⟨I.call' (ch:=[]) os un hok bare (fun b z=>absurd z (by simp)),na,?_,fun z=>?_,fun x c q z=>?_,fun p hp z=>?_,B,a0,fun b o q nb alt=>?_,f1,f2,f3,.inr f4⟩,q⟩
 ·cases q:X.s₀.heap.get? a with
  | none=>rfl
  | some o =>
   obtain ⟨ob,z⟩:=I.base.there a o q (nx a)
   exact absurd rfl (none_of a ob z)
 ·obtain ⟨m,⟨o,_,_,ho,_⟩,_⟩:=I.loc
  exact none_of _ o ho z.symm
 ·obtain ⟨v,o,ho,_⟩:=I.cell x c q
  exact none_of _ o ho z
 ·exact none_of _ _ (I.pin p hp).1 z
 ·refine ext b o q nb ?_
  rcases alt with ⟨u,q'⟩ | ⟨o',q'⟩ | ⟨p,hp,rfl⟩
  ·exact .inl ⟨u,q'⟩
  ·exact .inr (I.base.there b o' q' (nx b))
  ·exact .inr ⟨_,(I.pin p hp).1⟩
theorem Arr.land {a:Addr} {cls:Value} {Q:Unit->Shared->Prop} {E:Value->Shared->Prop} {M:Model} {A:Around} (R:Arr X pins σ H a cls s) (hex:X.ex=[]) (hfr:A.frames=some X.stack) {outer:List Env} (hst:X.stack=X.env::outer) (hf:X.env.frame=some X.env.locals)
  (hQ:∀ h' B a0,kU X pins H s.heap B->Heap.FlyingW B X.stack a cls a0 h'->s.heap.UpToSlots h'->Inv X pins σ H { s with heap:=h' }->Q () { s with heap:=h' }) :
  wpAny M A (noteFrame (.ref a) X.env) (fun _ s₂=>wpAny M A (setFlight (.ref a) none) Q E s₂) E s:=by
 obtain ⟨B,a0,fm,st,hb,ff,alt⟩:=R.fly
 have after:∀ h4,Heap.HeldW B X.stack a cls a0 X.env.locals h4->s.heap.UpToSlots h4->wpAny M A (setFlight (.ref a) none) Q E { s with heap:=h4 }:=fun h4 hh sm=>by
  refine wpAny_landsW (s:={ s with heap:=h4 }) hh fun h5 fl sm5=>?_
  have sm':s.heap.UpToSlots h5:=sm.trans sm5
  exact hQ h5 B a0 fm fl sm' (R.inv.flown (t' := s.toks) hex fm fl.1 sm')
 rw [hst] at hfr
 rw [hst] at ff
 rcases alt with ⟨oe,vs,he,hc,hd,h0,h1⟩ | tr
 ·subst hc
  have hsz:1<vs.size:=(Array.getElem?_eq_some_iff.mp h1).1
  unfold noteFrame
  simp only [hf]
  refine K0 (NP he hd h1 ?_)
  rw [KW (by decide)]
  refine wpAny_entryW hfr ff hf he st hb hd hsz h0 fun h4 hN=>?_
  obtain ⟨k1,k2,k3,k4⟩:=hN
  exact after h4 (by rw [hst];exact ⟨k1,hb,k2,k3⟩) k4
 ·exact wpAny_looks_onW hfr hf ⟨st,hb,ff,tr⟩ fun h4 hh sm=>after h4 (by rw [hst];exact hh) sm
theorem xD {P:Program} {w:World} {K:PySem.W.Frag} {mg:Str->Option Value} {base:Heap} {N:List Str} {qual:Str} {scope:Scope} {f:Addr} {cd:Value} {A:Around} {outer:List Env} {s0:Shared} {H0:Hp} {E:XK} {a:Addr} {cls:Value}
  (R:Arr (cV (dU P w) P w K mg base N qual scope f cd A outer s0 H0 E) pins σ H a cls s) (q:E cls none H):(cV (dU P w) P w K mg base N qual scope f cd A outer s0 H0 E).xe (.ref a) s:=by
 show wpAny _ _ (leaving _ _) _ _ s
 unfold leaving
 refine K0 (R.land (E:=fun e' s'' => dU P w outer H0 s0 E e' s'') rfl R.inv.ok.frames rfl rfl fun h' B a0 fm fl sm I' => ?_)
 have I:=R.inv
 obtain ⟨k1,k2,⟨_,_,k3⟩,k4⟩:=fl
 refine ⟨a,cls,a0,H,B,rfl,I'.os,I'.bare,I'.base,I'.hok,⟨k1,k2,k3,k4⟩,fun b o e nb alt=>?_,R.un,R.new,q⟩
 have nstk:b∉eU (cV (dU P w) P w K mg base N qual scope f cd A outer s0 H0 E).stack:=by
  rcases alt with ⟨u,z⟩ | ⟨o',z⟩
  ·exact I.nofrT z
  ·exact I.nofr z nb
 have there:∃ o1,s.heap.get? b=some o1:=by
  rcases alt with ⟨u,z⟩ | ⟨o',z⟩
  ·exact (I.hok b u z).some
  ·exact I.base.there b o' z (fun z=>absurd (show b∈([]:List Addr) from z) (by simp))
 obtain ⟨o1,q1⟩:=there
 have z:B.get? b=some o1:=fm b o1 q1 nstk (by
  rcases alt with ⟨u,z⟩ | ⟨o',z⟩
  ·exact .inl ⟨u,z⟩
  ·exact .inr (.inl ⟨o',z⟩))
 have z2:=k1 b o1 z
 rw [show (Heap.get? h' b)=some o from e] at z2
 cases z2
 exact z
end
def rV (X:Cx) (Ex:St->XK):Prop:=∀ (pins:List (Addr×Obj)) (σ:St) (H:Hp) (s:Shared) (a:Addr) (cls:Value),Arr X pins σ H a cls s->Ex σ cls none H->X.xe (.ref a) s
def ni (CX:gF) (X:Cx) (Ex:St->XK):Prop:=∀ (pins:List (Addr×Obj)) (σ:St) (H:Hp) (s:Shared) (e:Value) (s':Shared),Inv X pins σ H s->CX X.stack H s (Ex σ) e s'->X.xe e s'
section
variable {P:Program} {w:World} {K:PySem.W.Frag} {mg:Str->Option Value} {base:Heap} {N:List Str} {qual:Str} {scope:Scope} {f:Addr} {cd:Value} {A:Around} {outer:List Env} {s0:Shared} {H0:Hp} {E:XK}
theorem jD:rV (cV (dU P w) P w K mg base N qual scope f cd A outer s0 H0 E) (fun _=>E):=fun _ _ _ _ _ _ R q=>xD R q
theorem Ep:Da (dU P w) (cV (dU P w) P w K mg base N qual scope f cd A outer s0 H0 E) E:=fun pins σ H s e s' I h=>by
 obtain ⟨a,cls,H',rfl,R,q⟩:=Eo (X:=cV (dU P w) P w K mg base N qual scope f cd A outer s0 H0 E) I rfl h
 exact xD R q
end
section
variable {X:Cx} {x:Str} {C:Addr} {bm:List Value} {B newId initId:String} {np cpos pos:Pos} {e:Expr} {es:List Expr} {t:TA} {Ex:St->XK}
def Er (cls:Value) (Ex:St->XK) (t:TA):TS:=fun _ σ H=>t σ H fun vs H1=>vs.length<=1000/\Ex σ cls none H1
theorem Es (O:OwnCls x C bm newId X.mg X.base) (FB:ExcBaseFacts B newId initId bm) (hc:X.calm=true) (hex:X.ex=[]) (hr:rV X Ex) (hg:Gl X x) (ha:PA X (e::es) t)
  (hdb:(x == ("__debug__" : Str))=false:=by decide) (he:starEach (e::es) X.env=(false,eval e X.env)::starEach es X.env:=by rfl) (hpl:(backTo cpos (starEach es X.env)).any (·.1)=false:=by rfl) :
  PS X (.Raise (some (.Call (.Name x np) (e::es) [] cpos)) none pos) (Er (.ref C) Ex t):=by
 intro pins s σ H D I h
 obtain ⟨tl,NN,nm,q,bs,hdct,sn,sub,ab,col,dd,k0,k1,k2,k3,k5,mN,hC,hN,hni,T⟩:=O.obj
 refine wpAny_Raise_call_subT (C:=C) (nm:=nm) (q:=q) (N:=NN) (bs:=bs) (bm:=tl) (hdct:=hdct) (sn:=sn) (sub:=sub) (ab:=ab) (col:=col) (dd:=dd) (k0:=k0) (k1:=k1) (k2:=k2) (k3:=k3) (k5:=k5) FB (mN:=mN)
  (T.hasType FB.hasBase) (I.ok.hd hc) (by rw [he];show (false || (backTo cpos (starEach es X.env)).any (·.1))=false;rw [hpl];rfl) hni (oM I hg O.bound ⟨rfl,?_⟩ hdb)
 have hA:=ha cpos pins s σ H _ I h
 rw [he] at hA ⊢
 refine NL (thn hA fun us s2 ⟨vs,H1,I1,r1,hl,q1⟩=>⟨rfl,?_,I1.bk _ _ hC,hN.keeps I1.bk,T.keeps I1.bk,fun h' a hm=>hr pins σ H1 _ a _ (Em (t' := s2.toks) I1 hex hm) q1⟩)
 show us.length<=sizeLine
 rw [<- r1.length]
 exact KN hl (by decide)
end
section
variable {X:Cx} {CX:gF} {k:Nat} {f C:Addr} {fd:FuncData} {ps:List Str} {sp:Sp} {dvs:List V} {ds:List Value} {Ex:St->XK} {x m:Str} {p pos apos:Pos} {e o:Expr} {es:List Expr} {ta:TE} {t:TA}
theorem rW {pins:List (Addr×Obj)} {σ:St} {H:Hp} {s:Shared} {Q:VK} {us:List Value} {vs:List V} (F:FnOk X.prog X.w X.K X.mg X.base CX k f fd ps sp) (hr:Room k X.A) (hb:Binds X.K fd ps ds) (hd:Vals dvs ds) (hx:ni CX X Ex)
  (I:Inv X pins σ H s) (r:Vals vs us) (h:sp (vs++dvs) H Q (Ex σ)):wpAny (model X.prog X.w) X.A (call (.ref f) us) (EP X pins σ Q) X.xe s:=by
 have r2:Vals (vs++dvs) (us++ds):=r.append hd
 have hl:(us++ds).length=ps.length:=by rw [<- r2.length];exact F.len _ _ _ _ h
 refine wpAny_call (Ny (F.run X.A X.stack s H ⟨us,[]⟩ (us++ds) (vs++dvs) Q (Ex σ) hr I.env0 (hb s us I.kIn hl) r2 h) fun r s' hq=>?_)
 cases r with
 | error e=>exact hx pins σ H s e s' I hq
 | ok fl =>
  cases fl with
  | ret u=>exact I.after hq
  | next=>exact False.elim hq
  | brk=>exact False.elim hq
  | cont=>exact False.elim hq
def Et (sp:Sp) (dvs:List V) (Ex:St->XK) (t:TA):TE:=fun σ H Q=>t σ H fun vs H1=>sp (vs++dvs) H1 Q (Ex σ)
theorem Eu (F:FnOk X.prog X.w X.K X.mg X.base CX k f fd ps sp) (hr:Room k X.A) (hg:Gl X x) (hm:X.mg x=some (.ref f)) (hk:PySem.W.keepIn X.K (.ref f)=true) (hb:Binds X.K fd ps ds) (hd:Vals dvs ds) (hx:ni CX X Ex)
  (ha:PA X (e::es) t) (hdb:(x == ("__debug__" : Str))=false:=by decide) (he:starEach (e::es) X.env=(false,eval e X.env)::starEach es X.env:=by rfl) (hpl:(backTo pos (starEach es X.env)).any (·.1)=false:=by rfl) :
  PE X (.Call (.Name x p) (e::es) [] pos) (Et sp dvs Ex t):=by
 intro pins s σ H Q I h
 refine Mx (oM I hg hm ?_ hdb)
 refine N5 (h₀:=X.base) I.ok.mod.kin hk (thn (ha pos pins s σ H _ I h) fun us s1 ⟨vs,H1,I1,r,q⟩=>⟨I1.kIn,?_⟩) he hpl
 exact rW F hr hb hd hx I1 r q
def xE (C:Addr) (m:Str) (sp:Sp) (dvs:List V) (Ex:St->XK) (ta:TE) (t:TA):TE:=fun σ H Q=>ta σ H fun x H1=>∃ a dx fs,x = .ref a/\H1 a=some (.ins C dx fs)/\fs.lookup m=none /\
 t σ H1 fun vs H2=>sp (x::(vs++dvs)) H2 Q (Ex σ)
theorem Ew {pl:Sem Bool} (he:PE X o ta) (c:Cls X.K C) (hm:iM X.K C m f) (F:FnOk X.prog X.w X.K X.mg X.base CX k f fd ps sp) (hr:Room k X.A) (hb:Binds X.K fd ps ds) (hd:Vals dvs ds) (hx:ni CX X Ex) (ha:PA X (e::es) t)
  (hst:starEach (e::es) X.env=(false,eval e X.env)::starEach es X.env:=by rfl) (hpl:(backTo pos (starEach es X.env)).any (·.1)=false:=by rfl)
  (ht:eval (.Call (.Attribute o m apos) (e::es) [] pos) X.env=(do
   let ov <- eval o X.env
   standAt apos.atName
   let (f,first) <- holding [ov] (getMethod ov m pl)
   callWith pos f first (backTo pos (starEach (e::es) X.env)) (backToKw pos (keywordEach [] X.env))):=by rfl) :
  PE X (.Call (.Attribute o m apos) (e::es) [] pos) (xE C m sp dvs Ex ta t):=by
 intro pins s σ H Q I h
 refine NG (pl:=pl) (thn (he pins s σ H _ I h) fun u s1 ⟨x,H1,I1,rx,a,dx,fs,ex,ea,l,q⟩=>?_) ht
 subst ex
 obtain rfl:u=Value.ref a:=rx
 refine wR I1 ea c hm l ?_
 refine N5 (first:=[.ref a]) (h₀:=X.base) I.ok.mod.kin hm.kp (thn (ha pos pins s1 σ H1 _ I1 q) fun us s2 ⟨vs,H2,I2,r,q2⟩=>⟨I2.kIn,?_⟩) hst hpl
 exact rW (us:=.ref a::us) (vs:=.ref a::vs) F hr hb hd hx I2 (.cons rfl r) q2
end
def rX (a:Addr) (cls:Value):HO:=.ext fun h=>∃ ob vs,h.get? a=some ob/\ob.cls=cls/\ob.data = .fields vs
section
variable {X:Cx} {pins pins':List (Addr×Obj)} {σ:St} {H:Hp} {s:Shared} {xe:Value->Shared->Prop}
end
section
variable {X:Cx} {xc n:Str} {C:Addr} {i:Nat} {body suite:List Stmt} {b0:Stmt} {np hpos pos:Pos} {tb:(St->XK)->TS} {th:TS} {outer:List Env}
end
section
variable {P:Program} {w:World} {K:PySem.W.Frag} {mg:Str->Option Value} {base:Heap}
theorem Fun.okE {x qual:Str} {st:Stmt} {f:Addr} {fd:FuncData} {N ps:List Str} {k:Nat} {sp:Sp} (F:Fun K x qual st f fd) (S:aq N ps (aS st)) (len:∀ vs H Q E,sp vs H Q E->vs.length=ps.length)
  (hbody:∀ (cdv:Value) (A:Around) (outer:List Env) (s:Shared) (H:Hp) (vs:List V) (Q:VK) (E:XK),Room k (A.deeper (envOfC qual (aS st) s.heap.objs.size f cdv))->sp vs H Q E ->
   ∃ t,g9 (cV (dU P w) P w K mg base N qual (aS st) f cdv A outer s H E) (jd st) t/\t { nx:=fun _ H' => Q .non H',rt:=Q } (start N vs) H):FnOk P w K mg base (dU P w) (k+1) f fd ps sp:=by
 obtain ⟨oc,od,kV,doc,pm,an,cdv,ct,osl,rfl,lk,hcd⟩:=F.ex
 exact De lk hcd S len fun A outer s H vs Q E hr hsp=>hbody cdv A outer s H vs Q E hr hsp
end
end L2
namespace L2
open PySem PySem.Spec PyProof.Rows
theorem Ey {K:PySem.W.Frag} {hp:Heap} {g:Str->Option Value} {nm:Str} {Ca:Addr} {bb:List Value} {nid:String} (Z:K.In hp) (hb:g nm=some (.ref Ca)) (ok:PySem.W.excIn K Ca bb nid=true):OwnCls nm Ca bb nid g hp:=by
 refine ⟨hb,?_⟩
 unfold PySem.W.excIn at ok
 split at ok
 ·rename_i dA cA sA hA
  split at ok
  ·rename_i D' tl w0 w1 w2 w3 bn w5 eM eS
   simp only [Lz,Ox,Oe] at ok
   obtain ⟨⟨⟨⟨⟨rfl,rfl⟩,e1⟩,e2⟩,e3⟩,e4⟩:=ok
   obtain ⟨f1,f2,f3,f4,f5,f6,f7,f8,f9,f10,f11⟩:=cA
   dsimp only at eM e1 e3 e4
   subst eM e1
   have eA:sA = #[w0,w1,w2,w3,some (.builtin bn),w5]:=by
    obtain ⟨ll⟩:=sA
    simp only at eS
    rw [eS]
   subst eA
   refine ⟨tl,f4,f1,f5,f2,f6,f7,f8,f9,f10,dA,w0,w1,w2,w3,w5,_,Z _ _ hA,.of_isNs (PySem.W.isNs_of_in Z e3),?_,PySem.W.tail_of_in Z e2⟩
   exact PySem.W.nsMap_none_of_in Z e3 e4
  ·cases ok
 ·cases ok
mutual
inductive DaV (K:PySem.W.Frag) (H:Hp):V->PyData->Prop
 | non:DaV K H .non .none
 | bl (b):DaV K H (.bl b) (.bool b)
 | int (i):DaV K H (.int i) (.int i)
 | str (x):DaV K H (.str x) (.str x)
 | lst {a xs ds}:SqL K H a xs->DaVs K H xs ds->DaV K H (.ref a) (.list ds)
 | tup {a xs ds}:SqT K H a xs->DaVs K H xs ds->DaV K H (.ref a) (.tuple ds)
inductive DaVs (K:PySem.W.Frag) (H:Hp):List V->List PyData->Prop
 | nil:DaVs K H [] []
 | cons {x xs d ds}:DaV K H x d->DaVs K H xs ds->DaVs K H (x::xs) (d::ds)
end
section
variable {X:Cx} {pins:List (Addr×Obj)} {σ:St} {H:Hp} {s:Shared}
mutual
theorem DaV.reads (I:Inv X pins σ H s):∀ {x:V} {d:PyData} {u:Value},DaV X.K H x d->RelV x u->∃ as,Reads s.heap u d as
 | _,_,_,.non,r=>by cases r;exact ⟨_,.none⟩
 | _,_,_,.bl b,r=>by cases r;exact ⟨_,.bool b⟩
 | _,_,_,.int i,r=>by obtain ⟨t,rfl⟩:=r;exact ⟨_,.int i t⟩
 | _,_,_,.str x,r=>by obtain ⟨t,rfl⟩:=r;exact ⟨_,.str x t⟩
 | _,_,_,.lst (a:=a) h1 h2,r=>by
  cases r
  obtain ⟨its,rv,⟨o,n,e1,e2,e3⟩,_⟩:=I.list h1
  obtain ⟨as,q⟩:=DaVs.reads I h2 rv
  exact ⟨_,.list (vs:=its.toArray) (n:=n) e1 (by first | exact e2.1 | exact e2) (by first | exact e2.2.2 | exact e2.2 | exact e3 | exact e3.2) (by simpa using q)⟩
 | _,_,_,.tup (a:=a) h1 h2,r=>by
  cases r
  obtain ⟨its,rv,⟨o,e1,e2,n,e3⟩,_⟩:=I.tuple h1
  obtain ⟨as,q⟩:=DaVs.reads I h2 rv
  exact ⟨_,.tuple (vs:=its.toArray) (n:=n) e1 e2 e3 (by simpa using q)⟩
theorem DaVs.reads (I:Inv X pins σ H s):∀ {xs:List V} {ds:List PyData} {us:List Value},DaVs X.K H xs ds->Vals xs us->∃ as,ReadsAll s.heap us ds as
 | _,_,_,.nil,r=>by cases r;exact ⟨_,.nil⟩
 | _,_,_,.cons h1 h2,r=>by
  cases r with
  | cons r1 r2 =>
   obtain ⟨as,q1⟩:=DaV.reads I h1 r1
   obtain ⟨bs,q2⟩:=DaVs.reads I h2 r2
   exact ⟨_,.cons q1 q2⟩
end
def rY (K:PySem.W.Frag):R2:=fun x y H Q=>∃ d e,DaV K H x d/\DaV K H y e/\d.canLay0=true/\e.canLay0=true/\d.depth<=60/\Q (.bl (PyData.eqv d e)) H
def rZ (K:PySem.W.Frag):R2:=fun x y H Q=>∃ d e,DaV K H x d/\DaV K H y e/\d.canLay0=true/\e.canLay0=true/\d.depth<=60/\Q (.bl (!PyData.eqv d e)) H
theorem xF (hu:X.A.units+64<cLine):OpR X (compareOp .Eq) (rY X.K):=by
 intro pins s σ H x y v u Q I rx ry h
 obtain ⟨d,e,h1,h2,c1,c2,dp,q⟩:=h
 obtain ⟨as,r1⟩:=h1.reads I rx
 obtain ⟨bs,r2⟩:=h2.reads I ry
 exact SeqAt.compareEq_reads r1 r2 c1 c2 (by have:=NB d.depth e.depth;lia) ⟨.bl _,H,I,rfl,q⟩
theorem xG (hu:X.A.units+64<cLine):OpR X (compareOp .NotEq) (rZ X.K):=by
 intro pins s σ H x y v u Q I rx ry h
 obtain ⟨d,e,h1,h2,c1,c2,dp,q⟩:=h
 obtain ⟨as,r1⟩:=h1.reads I rx
 obtain ⟨bs,r2⟩:=h2.reads I ry
 exact SeqAt.compareNe_reads r1 r2 c1 c2 (by have:=NB d.depth e.depth;lia) ⟨.bl _,H,I,rfl,q⟩
end
theorem jE {A:Around} {k:Nat} (hr:Room k A):A.units+64<cLine:=by
 have:=hr.un
 lia
def Ez (K:PySem.W.Frag):R2:=fun x y H Q=>∃ l b xs zs,x = .ref l/\y = .ref b/\SqL K H l xs/\SqL K H b zs/\xs.length+zs.length<=sizeLine/\∀ p,H p=none->Q (.ref p) (aV H p (.lst (xs++zs)))
theorem xH {X:Cx}:OpR X (binaryOp .Add) (Ez X.K):=by
 intro pins s σ H x y v u Q I rx ry h
 obtain ⟨l,b,xs,zs,rfl,rfl,hH,hB,hz,q⟩:=h
 cases rx
 cases ry
 obtain ⟨its,r,⟨o,n,e1,e2,e3,e4⟩,z⟩:=I.list hH
 obtain ⟨its2,r2,⟨o2,n2,g1,g2,g3,g4⟩,z2⟩:=I.list hB
 obtain ⟨oc,od,oda,osl⟩:=o
 obtain ⟨oc2,od2,oda2,osl2⟩:=o2
 dsimp only at e2 e3 e4 g2 g3 g4
 subst e2 e3 e4 g2 g3 g4
 have l1:=r.length
 have l2:=r2.length
 refine Oo ⟨_,e1,rfl⟩ ⟨_,g1,rfl⟩ noFill_list_add seq_list_add PySem.F.slot_list_add PySem.F.entry_list_add (PySem.F.args_list_add_2 _ _) (list_addW l b its.toArray its2.toArray n n2 none none osl osl2 (by rw [KY,KY];lia)) ⟨e1,g1,?_⟩
 have ea:its.toArray++its2.toArray=(its++its2).toArray:=by simp
 rw [ea]
 exact ⟨.ref s.heap.objs.size,_,I.lnew (t' := s.toks) (r.append r2) (by rw [KH];exact hz),rfl,q _ I.fresh⟩
end L2
namespace L2
open PySem PySem.Spec PyProof.Rows
section
variable {X:Cx} {pins:List (Addr×Obj)} {σ:St} {H:Hp} {s:Shared}
open Classical in
def kh (h:Heap) (d:PyData) (v:Value):Bool:=if q:∃ e as,e.canLay0=true/\Reads h v e as then PyData.eqv q.choose d else false
theorem xI {h:Heap} {d e:PyData} {v:Value} {as:List Addr} (c:e.canLay0=true) (r:Reads h v e as):kh h d v=PyData.eqv e d:=by
 have q:∃ e as,e.canLay0=true/\Reads h v e as:=⟨e,as,c,r⟩
 unfold kh
 rw [dif_pos q]
 obtain ⟨as',c',r'⟩:=q.choose_spec
 have z:q.choose=e:=by first | exact (Reads.unique _ _ r' r).1 | exact (Reads.unique r' r).1 | exact Reads.unique _ _ _ _ _ c' r' r | exact PySem.SeqAt.Reads.unique _ _ _ _ _ c' r' r | exact PySem.Reads.unique _ _ _ _ _ c' r' r
 rw [z]
theorem xJ (I:Inv X pins σ H s):∀ {xs:List V} {ds:List PyData} {us:List Value},DaVs X.K H xs ds->Vals xs us->us.length=ds.length/\∀ (j:Nat) u d,us[j]? = some u->ds[j]? = some d->∃ as,Reads s.heap u d as
 | _,_,_,.nil,r=>by cases r;exact ⟨rfl,fun j u d e=>by cases e⟩
 | _,_,_,.cons h1 h2,r=>by
  cases r with
  | cons r1 r2 =>
   obtain ⟨l,q⟩:=xJ I h2 r2
   refine ⟨by rw [KO,KO,l],fun j u d e1 e2=>?_⟩
   cases j with
   | zero=>cases e1;cases e2;exact h1.reads I r1
   | succ j=>exact q j u d e1 e2
theorem xK {h:Heap} {d:PyData}:∀ {us:List Value} {ds:List PyData},us.length=ds.length->(∀ (j:Nat) u e,us[j]? = some u->ds[j]? = some e->kh h d u=PyData.eqv e d)->us.any (kh h d)=ds.any fun e=>PyData.eqv e d
 | [],[],_,_=>rfl
 | u::us,e::ds,hl,hh=>by
  rw [Mv,Mv,hh 0 u e rfl rfl,xK (us:=us) (ds:=ds) (Nat.succ.inj hl) fun j u' e' a b=>hh (j+1) u' e' a b]
end
end L2
namespace L2
open PySem PySem.Spec PyProof.Rows
section
variable {X:Cx} {tg:Expr}
theorem xM (ns:List Int):∀ k,k<=ns.length->preSum (fun i=>(ns[i]?).getD 0) k=(ns.take k).sum
 | 0,_=>by simp [preSum]
 | k+1,h=>by
  show preSum _ k+(ns[k]?).getD 0=_
  rw [xM ns k (by lia),NM,List.sum_append]
  congr 1
  rw [KR (by lia)]
  simp
theorem EA (hc:X.calm=true):CallR X (.builtin "sum") (fun xs H Q=>∃ (a:Addr) (ns:List Int),xs=[.ref a]/\SqL X.K H a (ns.map V.int)/\Q (.int ns.sum) H):=by
 intro pins s σ H xs us Q I r h
 obtain ⟨l,bs,rfl,hq,q⟩:=h
 obtain ⟨u,rfl,rx⟩:=jB r
 cases rx
 obtain ⟨its,rv,pl,hz⟩:=I.list hq
 have hlt:l<s.heap.objs.size:=by obtain ⟨_,_,e,_⟩:=pl;exact K5 e
 have hlen:its.length=bs.length:=by rw [<- rv.length,K4]
 refine call_sum_walkAnyS (M7 pl.isList ?_)
 refine ⟨s.heap.objs.size,[s.heap.objs.size,l],[s.heap.objs.size],_,its.toArray.size,_,_,fun i=>(bs[i]?).getD 0,rfl,(Walks.list (prog:=X.prog) (w:=X.w) (A:=X.A.in1) (I.ok.hd hc) s.heap.objs.size l (Lv hlt) its.toArray).toS,
  ⟨⟨_,Li _ rfl,rfl,rfl⟩,pl.isList.push _⟩,fun b hb=>?_,fun i v hP=>?_,fun s' t' hm=>?_⟩
 ·rcases K6.mp hb with rfl | hb
  ·exact K5 (Li _ rfl)
  ·obtain rfl:=LH.mp hb
   obtain ⟨_,_,e,_⟩:=pl
   exact K5 (KU _ e)
 ·have hP':its[i]? = some v:=by simpa using hP
  have hi:i<its.length:=(Kz.mp hP').1
  have hb:(bs.map V.int)[i]? = some (V.int (bs[i]'(by lia))):=by rw [Lw,KR (by lia)];rfl
  obtain ⟨u,hu,ru⟩:=rv.get hb
  rw [hP'] at hu
  cases hu
  obtain ⟨t,rfl⟩:=ru
  refine ⟨t,?_⟩
  show Value.int _ t=Value.int ((bs[i]?).getD 0) t
  rw [KR (by lia)];rfl
 ·obtain ⟨h',g',d',tk',os'⟩:=s'
  have e1:g'=s.gens:=hm.gens
  have e2:d'=s.drawn:=hm.drawn
  have e3:os'=s.os:=hm.os
  subst e1 e2 e3
  have e:preSum (fun i=>(bs[i]?).getD 0) its.toArray.size=bs.sum:=by
   rw [KY,hlen,xM bs _ (KC _),LA (KC _)]
  rw [e]
  refine ⟨.int _,H,I.kept (t' := tk') fun b o q=>?_,⟨_,rfl⟩,q⟩
  exact hm.heap b o (fun hb=>by rw [LH.mp hb] at q;exact Md _ (K5 q)) (KU _ q)
def jF (lo c:Int) (n:Nat):It:=⟨fun i _=>i<n,fun i H x H' => H'=H/\x = .int (lo+i*c),fun i _=>n<=i⟩
theorem EB {P:Program} {w:World} {K:PySem.W.Frag} {tg:Expr} (it:Addr) (lo c:Int) (n:Nat):gE P w K tg (jF lo c n) [it] it (fun i h=>IsRangeIter h it (lo+(i:Nat)*c) ((n:Int)-(i:Nat)) c) where
 mem:=by simp
 obj:=fun i h st b hb=>by
  have e:b=it:=by simpa using hb
  subst e
  exact ⟨_,st,fun v z=>by
   have z':Data.fields _=Data.cell v:=z
   cases z'⟩
 keep:=fun i h h' st k=>k it (by simp) _ st
 item:=by
  intro X hP hw hK hc i pins s σ H E I hf st hg
  subst hP hw hK
  obtain ⟨f0,f1,f2,f3,f4,f5⟩:=hf it (by simp)
  have W:=Walks.range (prog:=X.prog) (w:=X.w) (I.ok.hd hc) it lo c n
  refine W.item i s _ _ hg st fun v h' tk hv st' kk=>?_
  obtain ⟨t,rfl⟩:=hv
  have I1:Inv X pins σ H { s with heap:=h',toks:=tk }:=I.turned (fun b o hb e=>kk b o (by simpa using hb) e) f0 f1 f3 f4 f5
  exact ⟨_,rfl,oO (s:={ s with heap:=h',toks:=tk }) (n := "range_iterator") st' rfl rfl (by decide) ⟨.int (lo+i*c),H,I1,⟨t,rfl⟩,⟨rfl,rfl⟩,st',fun b hb=>(hf b hb).1⟩⟩
 done:=by
  intro X hP hw hK hc i pins s σ H E I hf st hg
  subst hP hw hK
  obtain ⟨f0,f1,f2,f3,f4,f5⟩:=hf it (by simp)
  exact Nv (I.ok.hd hc) st (by have:n<=i:=hg;lia) fun h' eb=>⟨rfl,I.turned (t' := s.toks) (fun b o hb e=>eb b o hb e) f0 f1 f3 f4 f5⟩
 self:=fun _ _ _ _ _ st h=>Nw st h
theorem EC {a b c:Int} (hc:0<c):Builtin.Range.rangeSize a b c=(((if a<b then (b-a-1) / c+1 else 0:Int).toNat:Nat):Int):=by
 unfold Builtin.Range.rangeSize
 rw [KS hc]
 split
 ·have:0<=(b-a-1) / c:=Int.ediv_nonneg (by lia) (by lia)
  lia
 ·rfl
theorem nj {x:Int} (h:x.natAbs<2 ^ 42):Builtin.Range.rangeFitsLong x=true:=by
 have h2:x.natAbs<4398046511104:=h
 simp only [Builtin.Range.rangeFitsLong,Lz,ME]
 omega
theorem ED {a b c:Int} (ha:a.natAbs<2 ^ 40) (hb:b.natAbs<2 ^ 40) (hc:0<c):(Builtin.Range.rangeSize a b c).natAbs<2 ^ 42:=by
 have ha2:a.natAbs<1099511627776:=ha
 have hb2:b.natAbs<1099511627776:=hb
 show _<4398046511104
 unfold Builtin.Range.rangeSize
 rw [KS hc]
 split
 ·have h1:0<=(b-a-1) / c:=Int.ediv_nonneg (by omega) (by omega)
  have h2:(b-a-1) / c<=b-a-1:=Int.ediv_le_self _ (by omega)
  generalize (b-a-1) / c=d at *
  omega
 ·decide
theorem EE {a b c:Int} (ha:a.natAbs<2 ^ 40) (hb:b.natAbs<2 ^ 40) (hc:0<c) (hc':c<2 ^ 20):Builtin.Range.small a b c=true:=by
 have l:(2:Nat) ^ 40<2 ^ 42:=by decide
 unfold Builtin.Range.small
 rw [nj (MT ha l),nj (MT hb l),nj (x:=c) (by have h2:c<1048576:=hc';show _<4398046511104;omega),nj (ED ha hb hc),KS hc,nj (x:=b+(c-1)) (by have h2:c<1048576:=hc';have h3:b.natAbs<1099511627776:=hb;show _<4398046511104;omega)]
 simp
def EF (ta:TA):TI:=fun σ H R=>ta σ H fun vs H1=>∃ i j c:Int,vs=[.int i,.int j,.int c]/\(i.natAbs<2 ^ 40/\j.natAbs<2 ^ 40/\0<c/\c<2 ^ 20)/\R (jF i c (if i<j then (j-i-1) / c+1 else 0:Int).toNat) H1
theorem EG {pins:List (Addr×Obj)} {σ:St} {H:Hp} {s:Shared} {R:It->Hp->Prop} {E:Value->Shared->Prop} {lo hi c:Int} {t u v:Tok} {tk:Nat} (I:Inv X pins σ H s) (h1:lo.natAbs<2 ^ 40) (h2:hi.natAbs<2 ^ 40) (h3:0<c) (h4:c<2 ^ 20)
  (q:R (jF lo c (if lo<hi then (hi-lo-1) / c+1 else 0:Int).toNat) H):wpAny (model X.prog X.w) X.A (pyIter (.ref s.heap.objs.size)) (rh X pins σ tg R) E { s with heap:=s.heap.push { cls:=.type "range",data:=.fields #[.int lo t,.int hi u,.int c v] },toks:=tk }:=by
 refine N8 (IsRange.new ..) (EE h1 h2 h3 h4) ?_
 have I1:Inv X pins σ H { s with heap:=s.heap.push { cls:=.type "range",data:=.fields #[.int lo t,.int hi u,.int c v] },toks:=tk }:=I.kept fun b o e=>KU _ e
 refine ⟨(s.heap.push { cls:=.type "range",data:=.fields #[.int lo t,.int hi u,.int c v] }).objs.size,[(s.heap.push { cls:=.type "range",data:=.fields #[.int lo t,.int hi u,.int c v] }).objs.size],_,_,H,rfl,
  I1.kept (t' := tk) fun b o e=>KU _ e,EB _ lo c (if lo<hi then (hi-lo-1) / c+1 else 0:Int).toNat,?_,fun b hb=>?_,q⟩
 ·have e1:lo+((0:Nat):Int)*c=lo:=by simp
  have e2:(((if lo<hi then (hi-lo-1) / c+1 else 0:Int).toNat:Nat):Int)-((0:Nat):Int)=Builtin.Range.rangeSize lo hi c:=by rw [EC h3];lia
  show IsRangeIter _ _ (lo+((0:Nat):Int)*c) ((((if lo<hi then (hi-lo-1) / c+1 else 0:Int).toNat:Nat):Int)-((0:Nat):Int)) c
  rw [e1,e2]
  exact Li _ rfl
 ·have e:b=(s.heap.push { cls:=.type "range",data:=.fields #[.int lo t,.int hi u,.int c v] }).objs.size:=by simpa using hb
  subst e
  exact I1.fpOk (KC _) (I1.hok.fresh (KC _))
theorem EH {a b c:Expr} {ta:TA} {p pos:Pos} (hg:Gl X "range") (hm:X.mg "range" = none) (ha:PA X [a,b,c] ta) (hs:starEach [a,b,c] X.env=[(false,eval a X.env),(false,eval b X.env),(false,eval c X.env)]:=by rfl) (hs2:starEach [b,c] X.env=[(false,eval b X.env),(false,eval c X.env)]:=by rfl) :
  PI X tg (.Call (.Name "range" p) [a,b,c] [] pos) (EF ta):=by
 intro pins s σ H R I h
 refine Call_ (mf I hg hm boot_range (LZ (thn (ha pos pins s σ H _ I h) fun us s1 ⟨vs,H1,I1,r1,q1⟩=>?_) (by rw [hs,hs2]) (by rw [hs2];rfl)))
 obtain ⟨i,j,c,e,⟨q1,q2,q3,q4⟩,q⟩:=q1
 subst e
 cases r1 with
 | cons r rr =>
  cases rr with
  | cons r' rr =>
   cases rr with
   | cons r'' rr =>
    cases rr
    obtain ⟨t,rfl⟩:=r
    obtain ⟨t',rfl⟩:=r'
    obtain ⟨t'',rfl⟩:=r''
    exact call_range_3 (by lia) (EG I1 q1 q2 q3 q4 q) (.inl (PyProof.noPylong_small (by lia)))
end
end L2
namespace L2
open PySem PySem.Spec PyProof.Rows
open PySem.Builtin PySem.Builtin.Str
section
variable {X:Cx}
def cz (z:Str) (lo hi:Option Int):Str:=⟨((z.cps.toList.drop (HT.sIx z.cps.toList.length 0 lo)).take (HT.sIx z.cps.toList.length z.cps.toList.length hi-HT.sIx z.cps.toList.length 0 lo)).toArray⟩
theorem pj (n d:Nat) (i:Int):max 0 (min (if i<0 then i+(n:Int) else i) (n:Int))=((HT.sIx n d (some i):Nat):Int):=by
 show max 0 (min (if i<0 then i+(n:Int) else i) (n:Int))=(((if i<0 then (i+(n:Int)).toNat else min i.toNat n):Nat):Int)
 split<;>lia
theorem pq {a b:Int} {A B:Nat} (ha:a=A) (hb:b=B):sliceRange a b 1=(List.range (B-A)).map fun k=>A+k:=by
 subst ha hb
 unfold sliceRange
 simp only [show (1:Int) > 0 by decide,Mc]
 have:(if (A:Int)<(B:Int) then ((B:Int)-A+1-1) / 1 else 0).toNat=B-A:=by
  split<;>(try simp only [Int.ediv_one])<;>lia
 rw [this]
 apply NS
 intro k _
 lia
theorem EI (xs:List Nat) (i k:Nat):(List.range k).filterMap (fun m=>xs[i+m]?)=(xs.drop i).take k:=by
 induction k generalizing i with
 | zero=>simp
 | succ k ih =>
  rw [List.range_succ_eq_map,Mt,MX]
  have e:((fun m=>xs[i+m]?) ∘ Nat.succ)=fun m=>xs[(i+1)+m]? := by
   funext m;show xs[i+(m+1)]? = _;congr 1;lia
  rw [e,ih (i+1)]
  cases h:xs[i]? with
  | none =>
   have hl:xs.length<=i:=List.getElem?_eq_none_iff.mp h
   simp only [Of,h]
   rw [LN (by lia),LN hl];simp
  | some v =>
   have hi:=(Kz.mp h).1
   simp only [Of,h]
   rw [Mr hi,MR]
   congr 1
   exact (Lj ((KR hi).symm.trans h)).symm
theorem EJ (n:Nat) (lo hi:Option Int):strSliceIndices lo hi 1 n=(List.range (HT.sIx n n hi-HT.sIx n 0 lo)).map fun k=>HT.sIx n 0 lo+k:=by
 cases lo with
 | none =>
  cases hi with
  | none=>exact pq rfl rfl
  | some j=>exact pq rfl (pj n n j)
 | some i =>
  cases hi with
  | none=>exact pq (pj n 0 i) rfl
  | some j=>exact pq (pj n 0 i) (pj n n j)
theorem EK (z:Str) (lo hi:Option Int):Txt.slice z lo hi=cz z lo hi:=by
 have hz:z.length=z.cps.toList.length:=by simp [Str.length]
 unfold Txt.slice cz
 rw [hz,EJ,MX]
 have e:((fun x=>z.cps[x]?) ∘ fun k=>HT.sIx z.cps.toList.length 0 lo+k)=fun m=>z.cps.toList[HT.sIx z.cps.toList.length 0 lo+m]? := by
  funext m;simp
 rw [e,EI]
 split
 ·rename_i hc
  simp only [beq_self_eq_true,Bool.true_and,Ox,K4,MB] at hc
  have h1:HT.sIx z.cps.toList.length z.cps.toList.length hi<=z.cps.toList.length:=HT.sIx_le _ _ (KC _) _
  have h2:HT.sIx z.cps.toList.length 0 lo=0\/z.cps.toList.length=0:=by lia
  rw [hc]
  rcases h2 with h2 | h2
  ·rw [h2,MC,LA (KC _)]
  ·have:z.cps.toList=[]:=List.eq_nil_of_length_eq_zero h2
   have h3:z.cps = #[]:=by simpa using this
   simp [h3]
   cases z;simp_all
 ·rfl
theorem xN {v:Value} {o:Option Int} (p:IsPart v o):∃ l:Option (Int×Tok),v=partValue l/\l.map (·.1)=o:=by
 cases p with
 | none=>exact ⟨none,rfl,rfl⟩
 | int i t=>exact ⟨some (i,t),rfl,rfl⟩
theorem EL:SlR X (fun x lo hi H Q=>∃ z,x = .str z/\z.length<=sizeLine/\Q (.str (cz z lo hi)) H):=by
 intro pins s σ H x v vl vu lo hi sl Q I rx hs pl pu h
 obtain ⟨z,rfl,hz,q⟩:=h
 obtain ⟨t,rfl⟩:=rx
 obtain ⟨l,rfl,rfl⟩:=xN pl
 obtain ⟨u,rfl,rfl⟩:=xN pu
 refine ⟨"str",_,F.slot_str_getitem.lookup,N9 _ _ _,?_⟩
 refine wpAny_getItem_str_slice (l:=l) (u:=u) (st:=none) hs rfl ?_
 refine post_val_or_str ⟨KN (Txt.slice_le z (l.map (·.1)) (u.map (·.1))) hz,fun t' k=>?_⟩
 have e:=EK z (l.map (·.1)) (u.map (·.1))
 refine ⟨.str (cz z (l.map (·.1)) (u.map (·.1))),H,I.tok _,⟨t',?_⟩,q⟩
 rw [<- e];rfl
theorem EM:OpR X (compareOp .IsNot) (fun x y H Q=>∃ a b,x = .bl a/\y = .bl b/\Q (.bl (!(a == b))) H):=by
 intro pins s σ H x y v u Q I rx ry h
 obtain ⟨a,b,rfl,rfl,q⟩:=h
 cases rx
 cases ry
 refine wpAny_isNot_plain rfl (cQ I q ?_)
 cases a<;>cases b<;>rfl
end
end L2
namespace L2
open PySem PySem.Spec PyProof.Rows
section
variable {X:Cx} {pins:List (Addr×Obj)} {σ:St} {H:Hp} {s:Shared} {x₁ x₂:Str} {jf:List (Nat×Str)} {scope:Scope} {fp:List Addr}
end
section
variable {X:Cx} {x₁ x₂:Str} {px p1 p2:Pos} {kk:Nat} {jf:List (Nat×Str)} {scope:Scope} {iter elt:Expr} {ifs:List Expr} {pos:Pos} {wi:TI} {tc:TT} {te:TE}
end
section
variable {X:Cx}
theorem EO (items:Array Value):slicePick items none none (some 1)=items:=by
 have e:slicePick items none none (some 1)=slicePick items none none none:=rfl
 rw [e,xm]
 simp [HT.sIx]
 rw [LA (by rw [LO];exact KC _)]
theorem ES {e st:Expr} {te ts:TE} {p2 pos:Pos} (he:PE X e te) (hs:PE X st ts):PE X (.Subscript e (.Slice none none (some st) p2) pos) (fun σ H Q=>te σ H fun x H1=>ts σ H1 fun y H2=>∃ a xs i,x = .ref a/\SqL X.K H2 a xs/\y = .int i/\(i=1\/i = -1)/\∀ p,H2 p=none->Q (.ref p) (aV H2 p (.lst (if i=1 then xs else xs.reverse)))):=by
 intro pins s σ H Q I h
 refine Subscript_ (thn (he pins s σ H _ I h) fun v s1 ⟨x,H1,I1,r1,q1⟩=>?_)
 refine wpAny_Slice ?_
 rw [NY]
 refine Le ?_
 refine Le ?_
 rw [evalPart_some]
 refine thn (hs pins s1 σ H1 _ I1 q1) fun u s2 ⟨y,H2,I2,r2,q2⟩=>?_
 obtain ⟨a,xs,i,rfl,hx,rfl,hi,q⟩:=q2
 cases r1
 obtain ⟨t2,rfl⟩:=r2
 have I4:Inv X pins σ H2 { s2 with heap:=s2.heap.push { cls:=.type "slice",data:=.fields #[.none,.none,.int i t2] } }:=I2.kept (t' := s2.toks) fun b ob q=>KU _ q
 show wpAny (model X.prog X.w) X.A (subscriptTail e (.Slice none none (some st) p2) (.ref a) (.ref s2.heap.objs.size)) (EP X pins σ Q) X.xe { s2 with heap:=s2.heap.push { cls:=.type "slice",data:=.fields #[.none,.none,.int i t2] } }
 obtain ⟨its,r,ht,hz⟩:=I4.list hx
 have hlen:=r.length
 refine tail_any (T := "list") (ops:=[.ref a,.ref s2.heap.objs.size]) ht.isList.typeIs slot_list_getitem.lookup ?_ (by with_unfolding_all rfl)
 refine Nd ht.isList (NZ ..) .none .none (.int i t2) (by rcases hi with rfl | rfl<;>simp) ?_ (by rw [KY]<;>lia)
 have hp:slicePick its.toArray none none (some i)=(if i=1 then its else its.reverse).toArray:=by
  rcases hi with rfl | rfl
  ·rw [EO];rfl
  ·rw [PySem.W.krv_pick];rfl
 rw [hp]
 refine ⟨.ref _,_,I4.laid (t' := s2.toks) (o:=.lst (if i=1 then xs else xs.reverse)) (fun b ob q=>KU _ q) (KC _) ?_,rfl,q _ (I4.hok.fresh (KC _))⟩
 refine ⟨by split;exact hz;rw [NT];exact hz,if i=1 then its else its.reverse,0,?_,Li _ rfl⟩
 split
 ·exact r
 ·exact r.reverse
end
end L2
namespace Sm
open PySem L2
inductive AV where
 | non | bl (b:Bool) | int (i:Int) | str (x:Str)
 | tup (xs:List AV)
 | fl (xs:List AV)
 | ref (n:Nat)
 | exc (c:Nat)
 deriving Inhabited
inductive AO where
 | lst (xs:List AV)
 | dct (t:Bool) (kvs:List (AV×AV))
 | ins (c:Nat) (fs:List (Option AV))
abbrev AH:=List AO
abbrev En:=List (Option AV)
inductive Out (α:Type) where
 | ok (a:α) (h:AH)
 | ex (c:Nat) (h:AH)
 | bad
@[simp] def Out.bind {α β:Type} (o:Out α) (f:α->AH->Out β):Out β :=
 match o with
 | .ok a h=>f a h
 | .ex c h=>.ex c h
 | .bad=>.bad
inductive dI where
 | nx (e:En) (h:AH)
 | rt (v:AV) (h:AH)
 | bk (e:En) (h:AH)
 | ct (e:En) (h:AH)
 | ex (c:Nat) (e:En) (h:AH)
 | bad
abbrev SE:=En->AH->Out AV
abbrev SB:=En->AH->Out Bool
abbrev SL:=En->AH->Out (List AV)
abbrev SS:=En->AH->dI
abbrev Fn:=List AV->AH->Out AV
@[simp] def Out.go {α:Type} (o:Out α) (e:En) (f:α->AH->dI):dI :=
 match o with
 | .ok a h=>f a h
 | .ex c h=>.ex c e h
 | .bad=>.bad
structure Tb where
 K:PySem.W.Frag
 cls:Nat->Option Addr
 exc:Nat->Option Addr
 fields:Nat->List Str
 nd:∀ c,(fields c).Nodup
 few:∀ c,(fields c).length<=500
def KL (K:PySem.W.Frag) (a:Addr) (xs:List V):Prop:=∃ (o:Obj) (its:Array Value) (n:Nat),K.lookup a=some o/\o.cls = .type "list" /\ o.dict=none/\o.data = .seq its n/\its.size<=sizeLine/\Vals xs its.toList
structure Ix where
 refs:List Addr
 priv:List Addr
def Ix.all (ι:Ix):List Addr:=ι.refs++ι.priv
mutual
inductive RV (T:Tb) (ι:Ix) (H:Hp):AV->V->Prop
 | non:RV T ι H .non .non
 | bl (b:Bool):RV T ι H (.bl b) (.bl b)
 | int (i:Int):RV T ι H (.int i) (.int i)
 | str {x:Str} (n:x.length<=sizeLine) (o:x.cps.all (· < 0x110000)=true):RV T ι H (.str x) (.str x)
 | tup {xs:List AV} {us:List V} {a:Addr} (n:a∉ι.all) (h:H a=some (.tup us)) (r:RVs T ι H xs us):RV T ι H (.tup xs) (.ref a)
 | fl {xs:List AV} {us:List V} {a:Addr} (n:a∉ι.all) (h:Rd H a (.lst us)) (r:RVs T ι H xs us):RV T ι H (.fl xs) (.ref a)
 | kfl {xs:List AV} {us:List V} {a:Addr} (h:KL T.K a us) (r:RVs T ι H xs us):RV T ι H (.fl xs) (.ref a)
 | ref {k:Nat} {a:Addr} (h:ι.refs[k]? = some a):RV T ι H (.ref k) (.ref a)
 | exc {c:Nat} {C a:Addr} (n:a∉ι.all) (h:T.exc c=some C) (q:H a=some (rX a (.ref C))):RV T ι H (.exc c) (.ref a)
inductive RVs (T:Tb) (ι:Ix) (H:Hp):List AV->List V->Prop
 | nil:RVs T ι H [] []
 | cons {x:AV} {u:V} {xs:List AV} {us:List V} (r:RV T ι H x u) (rs:RVs T ι H xs us):RVs T ι H (x::xs) (u::us)
end
structure Grow (ι:Ix) (H:Hp) (ι':Ix) (H':Hp):Prop where
 pre:∃ n,ι'.refs=ι.refs++n/\∀ a∈n,H a=none
 priv:ι'.priv=ι.priv
 keep:∀ a o,a∉ι.refs->H a=some o->H' a=some o
 live:∀ a∈ι.all,H' a≠none
theorem xO:∀ {l:List Addr} {i j:Nat} {a:Addr},l.Nodup->l[i]? = some a->l[j]? = some a->i=j
 | [],_,_,_,_,e,_=>by simp at e
 | x::l,0,0,_,_,_,_=>rfl
 | x::l,0,j+1,a,n,e,f=>by
  simp at e f;subst e
  exact absurd (Ld f) (LD.mp n).1
 | x::l,i+1,0,a,n,e,f=>by
  simp at e f;subst f
  exact absurd (Ld e) (LD.mp n).1
 | x::l,i+1,j+1,a,n,e,f=>by
  simp at e f
  rw [xO (LD.mp n).2 e f]
theorem Ix.nr {ι:Ix} {a:Addr} (h:a∉ι.all):a∉ι.refs:=fun z=>h (Lb _ z)
theorem Ix.np {ι:Ix} {a:Addr} (h:a∉ι.all):a∉ι.priv:=fun z=>h (K8 _ z)
theorem Grow.refl {ι:Ix} {H:Hp} (l:∀ a∈ι.all,H a≠none):Grow ι H ι H:=⟨⟨[],by simp,by simp⟩,rfl,fun _ _ _ e=>e,l⟩
theorem Grow.at {ι ι':Ix} {H H':Hp} (g:Grow ι H ι' H') {k:Nat} {a:Addr} (h:ι.refs[k]? = some a):ι'.refs[k]? = some a:=by
 obtain ⟨n,e,_⟩:=g.pre
 rw [e,KA (Kz.mp h).1]
 exact h
theorem Grow.outR {ι ι':Ix} {H H':Hp} (g:Grow ι H ι' H') {a:Addr} {o:HO} (n:a∉ι.refs) (e:H a=some o):a∉ι'.refs:=fun z=>by
 obtain ⟨m,e',hm⟩:=g.pre
 rw [e'] at z
 rcases Lp.mp z with z | z
 ·exact n z
 ·rw [hm a z] at e;cases e
theorem Grow.out {ι ι':Ix} {H H':Hp} (g:Grow ι H ι' H') {a:Addr} {o:HO} (n:a∉ι.all) (e:H a=some o):a∉ι'.all:=fun z=>by
 rcases Lp.mp z with z | z
 ·exact g.outR (Ix.nr n) e z
 ·rw [g.priv] at z;exact Ix.np n z
theorem Grow.trans {ι ι' ι'':Ix} {H H' H'':Hp} (g:Grow ι H ι' H') (k:Grow ι' H' ι'' H''):Grow ι H ι'' H'' := by
 obtain ⟨n,e1,hn⟩:=g.pre
 obtain ⟨m,e2,hm⟩:=k.pre
 refine ⟨⟨n++m,by rw [e2,e1];simp,fun a ha=>?_⟩,k.priv.trans g.priv,fun a o na e=>k.keep a o (g.outR na e) (g.keep a o na e),fun a ha=>k.live a ?_⟩
 ·rcases Lp.mp ha with z | z
  ·exact hn a z
  ·have q:=hm a z
   by_cases hi:a∈ι.refs
   ·exact absurd q (g.live a (Lb _ hi))
   ·cases e:H a with
    | none=>rfl
    | some o=>rw [g.keep a o hi e] at q;cases q
 ·rcases Lp.mp ha with z | z
  ·exact Lb _ (by rw [e1];exact Lb _ z)
  ·exact K8 _ (by rw [g.priv];exact z)
structure Ext (ι:Ix) (H:Hp) (ι':Ix) (H':Hp):Prop where
 at_:∀ {k:Nat} {a:Addr},ι.refs[k]? = some a->ι'.refs[k]? = some a
 keep:∀ a o,a∉ι.all->H a=some o->H' a=some o
 out:∀ a o,a∉ι.all->H a=some o->a∉ι'.all
theorem Grow.ext {ι ι':Ix} {H H':Hp} (g:Grow ι H ι' H'):Ext ι H ι' H' := ⟨g.at,fun a o n e=>g.keep a o (Ix.nr n) e,fun a o n e=>g.out n e⟩
theorem Ext.trans {ι ι' ι'':Ix} {H H' H'':Hp} (g:Ext ι H ι' H') (k:Ext ι' H' ι'' H''):Ext ι H ι'' H'' :=
 ⟨fun e=>k.at_ (g.at_ e),fun a o n e=>k.keep a o (g.out a o n e) (g.keep a o n e),fun a o n e=>k.out a o (g.out a o n e) (g.keep a o n e)⟩
theorem xP {ι ι':Ix} {H H':Hp} (g:Ext ι H ι' H') {a:Addr} {u:HO} (n:a∉ι.all) (r:Rd H a u):Rd H' a u:=by
 rcases r with r | ⟨o,r⟩
 ·exact .inl (g.keep a _ n r)
 ·exact .inr ⟨o,g.keep a _ n r⟩
theorem ET {ι ι':Ix} {H H':Hp} (g:Ext ι H ι' H') {a:Addr} {u:HO} (n:a∉ι.all) (r:Rd H a u):a∉ι'.all:=by
 rcases r with r | ⟨o,r⟩
 ·exact g.out _ _ n r
 ·exact g.out _ _ n r
mutual
theorem RV.ext {T:Tb} {ι ι':Ix} {H H':Hp} (g:Ext ι H ι' H'):∀ {x:AV} {u:V},RV T ι H x u->RV T ι' H' x u
 | _,_,.non=>.non
 | _,_,.bl b=>.bl b
 | _,_,.int i=>.int i
 | _,_,.str n o=>.str n o
 | _,_,.tup n h r=>.tup (g.out _ _ n h) (g.keep _ _ n h) (RVs.ext g r)
 | _,_,.fl n h r=>.fl (ET g n h) (xP g n h) (RVs.ext g r)
 | _,_,.kfl h r=>.kfl h (RVs.ext g r)
 | _,_,.ref h=>.ref (g.at_ h)
 | _,_,.exc n h q=>.exc (g.out _ _ n q) h (g.keep _ _ n q)
theorem RVs.ext {T:Tb} {ι ι':Ix} {H H':Hp} (g:Ext ι H ι' H'):∀ {xs:List AV} {us:List V},RVs T ι H xs us->RVs T ι' H' xs us
 | _,_,.nil=>.nil
 | _,_,.cons r rs=>.cons (RV.ext g r) (RVs.ext g rs)
end
theorem RV.mono {T:Tb} {ι ι':Ix} {H H':Hp} (g:Grow ι H ι' H') {x:AV} {u:V} (r:RV T ι H x u):RV T ι' H' x u:=r.ext g.ext
theorem RVs.mono {T:Tb} {ι ι':Ix} {H H':Hp} (g:Grow ι H ι' H') {xs:List AV} {us:List V} (r:RVs T ι H xs us):RVs T ι' H' xs us:=r.ext g.ext
section
variable {T:Tb} {ι:Ix} {H:Hp}
theorem RVs.length:∀ {xs:List AV} {us:List V},RVs T ι H xs us->xs.length=us.length
 | _,_,.nil=>rfl
 | _,_,.cons _ rs=>by simp [RVs.length rs]
theorem RVs.get:∀ {xs:List AV} {us:List V} {i:Nat} {x:AV},RVs T ι H xs us->xs[i]? = some x->∃ u,us[i]? = some u/\RV T ι H x u
 | _,_,_,_,.nil,e=>by simp at e
 | _,_,0,_,.cons r _,e=>by simp at e;subst e;exact ⟨_,rfl,r⟩
 | _,_,i+1,x,.cons _ t,e=>by
  obtain ⟨u,h1,h2⟩:=RVs.get (i:=i) (x:=x) t (by simpa using e)
  exact ⟨u,by simpa using h1,h2⟩
theorem RVs.append:∀ {xs ys:List AV} {us ws:List V},RVs T ι H xs us->RVs T ι H ys ws->RVs T ι H (xs++ys) (us++ws)
 | _,_,_,_,.nil,s=>s
 | _,_,_,_,.cons r t,s=>.cons r (RVs.append t s)
theorem RVs.set {x:AV} {u:V} (r:RV T ι H x u):∀ {xs:List AV} {us:List V} (i:Nat),RVs T ι H xs us->RVs T ι H (xs.set i x) (us.set i u)
 | _,_,_,.nil=>.nil
 | _,_,0,.cons _ t=>.cons r t
 | _,_,i+1,.cons q t=>.cons q (RVs.set r i t)
theorem RVs.take:∀ {xs:List AV} {us:List V} (n:Nat),RVs T ι H xs us->RVs T ι H (xs.take n) (us.take n)
 | _,_,0,_=>by simpa using RVs.nil
 | _,_,_+1,.nil=>.nil
 | _,_,n+1,.cons r t=>.cons r (RVs.take n t)
theorem RVs.drop:∀ {xs:List AV} {us:List V} (n:Nat),RVs T ι H xs us->RVs T ι H (xs.drop n) (us.drop n)
 | _,_,0,r=>r
 | _,_,_+1,.nil=>.nil
 | _,_,n+1,.cons _ t=>RVs.drop n t
theorem RVs.reverse:∀ {xs:List AV} {us:List V},RVs T ι H xs us->RVs T ι H xs.reverse us.reverse
 | _,_,.nil=>.nil
 | _,_,.cons r t=>by simpa using (RVs.reverse t).append (.cons r .nil)
end
def kA:bo->AV
 | .inl i=>.int i
 | .inr x=>.str x
def OR (T:Tb) (ι:Ix) (H:Hp):AO->HO->Prop
 | .lst xs,o=>∃ us,o = .lst us/\RVs T ι H xs us
 | .dct false kvs,o=>∃ kus:List (bo×V),o = .dK kus/\Paired (fun (p:AV×AV) (q:bo×V)=>p.1=kA q.1/\RV T ι H p.2 q.2) kvs kus
 | .dct true kvs,o=>∃ kus:List (List bo×V),o = .dT kus/\Paired (fun (p:AV×AV) (q:List bo×V)=>p.1 = .tup (q.1.map kA)/\RV T ι H p.2 q.2) kvs kus
 | .ins c fs,o=>∃ C dx fus,T.cls c=some C/\o = .ins C dx fus/\(fus.map (·.1)).Nodup/\(∀ p∈fus,p.1∈T.fields c)/\fs.length=(T.fields c).length /\
   ∀ (i:Nat) (v:AV),fs[i]? = some (some v)->∃ f u,(T.fields c)[i]? = some f/\fus.lookup f=some u/\RV T ι H v u
theorem OR.mono {T:Tb} {ι ι':Ix} {H H':Hp} (g:Grow ι H ι' H') {o:AO} {u:HO} (h:OR T ι H o u):OR T ι' H' o u:=by
 cases o with
 | lst xs=>obtain ⟨us,e,r⟩:=h;exact ⟨us,e,r.mono g⟩
 | dct t kvs =>
  cases t with
  | false=>obtain ⟨us,e,r⟩:=h;exact ⟨us,e,Paired.mapP r fun _ _ ⟨a,b⟩=>⟨a,b.mono g⟩⟩
  | true=>obtain ⟨us,e,r⟩:=h;exact ⟨us,e,Paired.mapP r fun _ _ ⟨a,b⟩=>⟨a,b.mono g⟩⟩
 | ins c fs =>
  obtain ⟨C,dx,fus,a,b,n,w,l,r⟩:=h
  refine ⟨C,dx,fus,a,b,n,w,l,fun i v e=>?_⟩
  obtain ⟨f,u,e1,e2,q⟩:=r i v e
  exact ⟨f,u,e1,e2,q.mono g⟩
structure Sim (T:Tb) (ι:Ix) (h:AH) (H:Hp):Prop where
 len:ι.refs.length=h.length
 nd:ι.refs.Nodup
 plive:∀ a∈ι.priv,H a≠none
 obj:∀ (i:Nat) (o:AO) (a:Addr),h[i]? = some o->ι.refs[i]? = some a->∃ u,H a=some u/\OR T ι H o u
section
variable {T:Tb} {ι:Ix} {h:AH} {H:Hp}
theorem Sim.live (S:Sim T ι h H):∀ a∈ι.all,H a≠none:=fun a ha z=>by
 rcases Lp.mp ha with ha | ha
 ·obtain ⟨i,hi⟩:=List.mem_iff_getElem?.mp ha
  have hl:i<h.length:=by rw [<- S.len];exact (Kz.mp hi).1
  obtain ⟨u,e,_⟩:=S.obj i h[i] a (by simp [hl]) hi
  rw [z] at e;cases e
 ·exact S.plive a ha z
theorem Sim.refl (S:Sim T ι h H):Grow ι H ι H:=.refl S.live
theorem Sim.fresh (S:Sim T ι h H) {p:Addr} (n:H p=none):p∉ι.all:=fun z=>S.live p z n
theorem Sim.still (S:Sim T ι h H) {H':Hp} (g:Grow ι H ι H') (k:∀ a∈ι.refs,H' a=H a):Sim T ι h H' :=
 ⟨S.len,S.nd,fun a ha=>g.live a (K8 _ ha),fun i o a e1 e2=>by
  obtain ⟨u,e,r⟩:=S.obj i o a e1 e2
  exact ⟨u,by rw [k a (Ld e2)];exact e,r.mono g⟩⟩
theorem Sim.growNew (S:Sim T ι h H) {p:Addr} {o:HO} (n:H p=none):Grow ι H ι (aV H p o) :=
 ⟨⟨[],by simp,by simp⟩,rfl,fun a u _ e=>by rw [cF (iz e n)];exact e,fun a ha=>by
  rw [cF (show a≠p from fun z=>S.fresh n (z▸ha))];exact S.live a ha⟩
theorem Sim.new (S:Sim T ι h H) {p:Addr} {o:HO} (n:H p=none):Sim T ι h (aV H p o) :=
 S.still (S.growNew n) fun a ha=>cF fun z=>S.fresh n (z▸Lb _ ha)
def Ix.add (ι:Ix) (p:Addr):Ix:=⟨ι.refs++[p],ι.priv⟩
theorem Sim.growAdd (S:Sim T ι h H) {p:Addr} {u:HO} (n:H p=none):Grow ι H (ι.add p) (aV H p u) :=
 ⟨⟨[p],rfl,fun a ha=>by have e:a=p:=(by simpa using ha);rw [e];exact n⟩,rfl,(S.growNew n).keep,(S.growNew n).live⟩
theorem Sim.add (S:Sim T ι h H) {p:Addr} {u:HO} {o:AO} (n:H p=none) (r:OR T (ι.add p) (aV H p u) o u):Sim T (ι.add p) (h++[o]) (aV H p u):=by
 refine ⟨by simp [Ix.add,S.len],?_,fun a ha=>(S.growNew n).live a (K8 _ ha),fun i o' a e1 e2=>?_⟩
 ·show (ι.refs++[p]).Nodup
  rw [Og]
  exact ⟨S.nd,by simp,fun a ha b hb z=>by have e:b=p:=(by simpa using hb);subst e;subst z;exact S.fresh n (Lb _ ha)⟩
 ·replace e2:(ι.refs++[p])[i]? = some a:=e2
  by_cases hi:i<h.length
  ·rw [KA hi] at e1
   rw [KA (by rw [S.len];exact hi)] at e2
   obtain ⟨v,e,q⟩:=S.obj i o' a e1 e2
   exact ⟨v,by rw [cF (iz e n)];exact e,q.mono (S.growAdd n)⟩
  ·have e3:i=h.length:=by
    have:=(Kz.mp e1).1
    simp at this;lia
   subst e3
   rw [Lu (KC _)] at e1
   rw [Lu (by rw [S.len];exact KC _),S.len] at e2
   simp at e1 e2
   subst e1 e2
   exact ⟨u,gD,r⟩
theorem Sim.addAt (S:Sim T ι h H) {p:Addr}:(ι.add p).refs[h.length]? = some p:=by
 show (ι.refs++[p])[h.length]? = some p
 rw [<- S.len];simp
theorem Sim.growSet (S:Sim T ι h H) {i:Nat} {a:Addr} {u:HO} (e:ι.refs[i]? = some a):Grow ι H ι (aV H a u) :=
 ⟨⟨[],by simp,by simp⟩,rfl,fun b o nb q=>by rw [cF (show b≠a from fun z=>nb (by rw [z];exact Ld e))];exact q,fun b hb=>by
  by_cases z:b=a
  ·subst z;rw [gD];simp
  ·rw [cF z];exact S.live b hb⟩
theorem Sim.set (S:Sim T ι h H) {i:Nat} {a:Addr} {u:HO} {o:AO} (e:ι.refs[i]? = some a) (r:OR T ι (aV H a u) o u):Sim T ι (h.set i o) (aV H a u):=by
 refine ⟨by simp [S.len],S.nd,fun b hb=>(S.growSet e).live b (K8 _ hb),fun j o' b e1 e2=>?_⟩
 by_cases hj:j=i
 ·subst hj
  rw [e] at e2;cases e2
  have hl:j<h.length:=by rw [<- S.len];exact (Kz.mp e).1
  rw [KG hl] at e1;cases e1
  exact ⟨u,gD,r⟩
 ·rw [KM (Ne.symm hj)] at e1
  obtain ⟨v,q,r'⟩:=S.obj j o' b e1 e2
  have ne:b≠a:=fun z=>hj (by
   subst z
   exact xO S.nd e2 e)
  exact ⟨v,by rw [cF ne];exact q,r'.mono (S.growSet e)⟩
end
def Ix.hide (ι:Ix) (D:Addr):Ix:=⟨ι.refs,D::ι.priv⟩
theorem Ix.hide_all {ι:Ix} {D a:Addr}:a∉(ι.hide D).all ↔ a∉ι.all/\a≠D:=by
 unfold Ix.all Ix.hide
 simp only [Lp,K6]
 constructor
 ·intro h;exact ⟨fun z=>h (z.elim .inl fun z=>.inr (.inr z)),fun z=>h (.inr (.inl z))⟩
 ·rintro ⟨h1,h2⟩ (z | z | z)
  ·exact h1 (.inl z)
  ·exact h2 z
  ·exact h1 (.inr z)
section
variable {T:Tb} {ι:Ix} {H:Hp} {D:Addr}
theorem Ext.hide {o:HO} (hn:H D=none):Ext ι H (ι.hide D) (aV H D o):=⟨fun e=>e,fun a u n e=>by rw [cF (iz e hn)];exact e,fun a u n e=>Ix.hide_all.mpr ⟨n,iz e hn⟩⟩
theorem Ext.poke {o:HO}:Ext (ι.hide D) H (ι.hide D) (aV H D o):=⟨fun e=>e,fun a u n e=>by rw [cF (Ix.hide_all.mp n).2];exact e,fun a u n e=>n⟩
theorem Ext.show:Ext (ι.hide D) H ι H:=⟨fun e=>e,fun a u n e=>e,fun a u n e=>(Ix.hide_all.mp n).1⟩
theorem OR.ext {ι ι':Ix} {H H':Hp} (g:Ext ι H ι' H') {o:AO} {u:HO} (h:OR T ι H o u):OR T ι' H' o u:=by
 cases o with
 | lst xs=>obtain ⟨us,e,r⟩:=h;exact ⟨us,e,r.ext g⟩
 | dct t kvs =>
  cases t with
  | false=>obtain ⟨us,e,r⟩:=h;exact ⟨us,e,Paired.mapP r fun _ _ ⟨a,b⟩=>⟨a,b.ext g⟩⟩
  | true=>obtain ⟨us,e,r⟩:=h;exact ⟨us,e,Paired.mapP r fun _ _ ⟨a,b⟩=>⟨a,b.ext g⟩⟩
 | ins c fs =>
  obtain ⟨C,dx,fus,a,b,n,w,l,r⟩:=h
  refine ⟨C,dx,fus,a,b,n,w,l,fun i v e=>?_⟩
  obtain ⟨f,u,e1,e2,q⟩:=r i v e
  exact ⟨f,u,e1,e2,q.ext g⟩
theorem Sim.hide {h:AH} {o:HO} (S:Sim T ι h H) (hn:H D=none):Sim T (ι.hide D) h (aV H D o) :=
 ⟨S.len,S.nd,fun a ha=>by
  rcases K6.mp ha with rfl | ha
  ·rw [gD];simp
  ·rw [cF (show a≠D from fun z=>S.plive a ha (z▸hn))];exact S.plive a ha,fun i o' a e1 e2=>by
  obtain ⟨u,e,r⟩:=S.obj i o' a e1 e2
  exact ⟨u,by rw [cF (iz e hn)];exact e,r.ext (Ext.hide hn)⟩⟩
theorem Sim.poke {h:AH} {o:HO} (S:Sim T (ι.hide D) h H) (hr:D∉ι.refs):Sim T (ι.hide D) h (aV H D o) :=
 ⟨S.len,S.nd,fun a ha=>by
  by_cases z:a=D
  ·subst z;rw [gD];simp
  ·rw [cF z];exact S.plive a ha,fun i o' a e1 e2=>by
  obtain ⟨u,e,r⟩:=S.obj i o' a e1 e2
  have ne:a≠D:=fun z=>hr (z▸Ld e2)
  exact ⟨u,by rw [cF ne];exact e,r.ext Ext.poke⟩⟩
theorem Sim.show {h:AH} (S:Sim T (ι.hide D) h H):Sim T ι h H :=
 ⟨S.len,S.nd,fun a ha=>S.plive a (KJ _ ha),fun i o' a e1 e2=>by
  obtain ⟨u,e,r⟩:=S.obj i o' a e1 e2
  exact ⟨u,e,r.ext Ext.show⟩⟩
end
def ER (T:Tb) (ι:Ix) (H:Hp) (e:En) (σ:St):Prop:=e.length=σ.length/\∀ (i:Nat) (v:AV),e[i]? = some (some v)->∃ u,σ[i]? = some (some u)/\RV T ι H v u
theorem ER.mono {T:Tb} {ι ι':Ix} {H H':Hp} {e:En} {σ:St} (r:ER T ι H e σ) (g:Grow ι H ι' H'):ER T ι' H' e σ :=
 ⟨r.1,fun i v q=>let ⟨u,a,b⟩:=r.2 i v q;⟨u,a,b.mono g⟩⟩
theorem ER.ext {T:Tb} {ι ι':Ix} {H H':Hp} {e:En} {σ:St} (r:ER T ι H e σ) (g:Ext ι H ι' H'):ER T ι' H' e σ :=
 ⟨r.1,fun i v q=>let ⟨u,a,b⟩:=r.2 i v q;⟨u,a,b.ext g⟩⟩
theorem ER.set {T:Tb} {ι:Ix} {H:Hp} {e:En} {σ:St} (r:ER T ι H e σ) {v:AV} {u:V} (q:RV T ι H v u) (i:Nat):ER T ι H (e.set i (some v)) (σ.set i (some u)):=by
 refine ⟨by simp [r.1],fun j w z=>?_⟩
 by_cases hj:j=i
 ·subst hj
  by_cases hl:j<e.length
  ·rw [KG hl] at z;cases z
   exact ⟨u,by rw [KG (by rw [<- r.1];exact hl)],q⟩
  ·rw [MG (by simpa using hl)] at z;cases z
 ·rw [KM (Ne.symm hj)] at z ⊢
  exact r.2 j w z
def Post {α β:Type} (T:Tb) (ι:Ix) (H:Hp) (E:XK) (R:Ix->Hp->α->β->Prop) (o:Out α) (Q:β->Hp->Prop):Prop :=
 match o with
 | .ok v h' => ∀ ι' H' u,Grow ι H ι' H'->Sim T ι' h' H'->R ι' H' v u->Q u H'
 | .ex c h' => ∀ ι' H' C,Grow ι H ι' H'->Sim T ι' h' H'->T.exc c=some C->E (.ref C) none H'
 | .bad=>False
def PostS (T:Tb) (ι:Ix) (H:Hp) (E:St->XK) (o:dI) (D:fA):Prop :=
 match o with
 | .nx e h' => ∀ ι' H' σ',Grow ι H ι' H'->Sim T ι' h' H'->ER T ι' H' e σ'->D.nx σ' H'
 | .bk e h' => ∀ ι' H' σ',Grow ι H ι' H'->Sim T ι' h' H'->ER T ι' H' e σ'->D.bk σ' H'
 | .ct e h' => ∀ ι' H' σ',Grow ι H ι' H'->Sim T ι' h' H'->ER T ι' H' e σ'->D.ct σ' H'
 | .rt v h' => ∀ ι' H' u,Grow ι H ι' H'->Sim T ι' h' H'->RV T ι' H' v u->D.rt u H'
 | .ex c e h' => ∀ ι' H' σ' C,Grow ι H ι' H'->Sim T ι' h' H'->ER T ι' H' e σ'->T.exc c=some C->E σ' (.ref C) none H'
 | .bad=>False
abbrev EU {α:Type}:Ix->Hp->α->α->Prop:=fun _ _ a b=>a=b
section
variable {T:Tb} {ι ι':Ix} {h:AH} {H H':Hp} {α β γ δ:Type} {E:XK} {R:Ix->Hp->α->β->Prop} {R':Ix->Hp->γ->δ->Prop}
theorem Post.shift {o:Out α} {Q:β->Hp->Prop} (p:Post T ι H E R o Q) (g:Grow ι H ι' H'):Post T ι' H' E R o Q:=by
 cases o with
 | ok v h' => exact fun i2 H2 u g2=>p i2 H2 u (g.trans g2)
 | ex c h' => exact fun i2 H2 C g2=>p i2 H2 C (g.trans g2)
 | bad=>exact p
theorem Post.bind {o:Out α} {f:α->AH->Out γ} {Q:δ->Hp->Prop} {Q1:β->Hp->Prop} (p:Post T ι H E R' (o.bind f) Q)
  (k:∀ v h' ι' H' u,Grow ι H ι' H'->Sim T ι' h' H'->R ι' H' v u->Post T ι' H' E R' (f v h') Q->Q1 u H'):Post T ι H E R o Q1:=by
 cases o with
 | ok v h' => exact fun i2 H2 u g S r=>k v h' i2 H2 u g S r (Post.shift p g)
 | ex c h' => exact p
 | bad=>exact p
theorem Post.now {v:α} {u:β} {Q:β->Hp->Prop} (p:Post T ι H E R (.ok v h) Q) (S:Sim T ι h H) (r:R ι H v u):Q u H:=p ι H u S.refl S r
theorem PostS.shift {E:St->XK} {o:dI} {D:fA} (p:PostS T ι H E o D) (g:Grow ι H ι' H'):PostS T ι' H' E o D:=by
 cases o with
 | nx e h' => exact fun i2 H2 u g2=>p i2 H2 u (g.trans g2)
 | bk e h' => exact fun i2 H2 u g2=>p i2 H2 u (g.trans g2)
 | ct e h' => exact fun i2 H2 u g2=>p i2 H2 u (g.trans g2)
 | rt v h' => exact fun i2 H2 u g2=>p i2 H2 u (g.trans g2)
 | ex c e h' => exact fun i2 H2 u C g2=>p i2 H2 u C (g.trans g2)
 | bad=>exact p
theorem PostS.go {E:St->XK} {o:Out α} {en:En} {σ:St} {f:α->AH->dI} {D:fA} {Q1:β->Hp->Prop} (p:PostS T ι H E (o.go en f) D) (er:ER T ι H en σ)
  (k:∀ v h' ι' H' u,Grow ι H ι' H'->Sim T ι' h' H'->R ι' H' v u->PostS T ι' H' E (f v h') D->Q1 u H'):Post T ι H (E σ) R o Q1:=by
 cases o with
 | ok v h' => exact fun i2 H2 u g S r=>k v h' i2 H2 u g S r (PostS.shift p g)
 | ex c h' => exact fun i2 H2 C g S e=>p i2 H2 σ C g S (er.mono g) e
 | bad=>exact p
end
def tE (T:Tb) (E:St->XK) (a:SE):TE:=fun σ H Q=>∃ ι h en,Sim T ι h H/\ER T ι H en σ/\Post T ι H (E σ) (RV T) (a en h) Q
def tT (T:Tb) (E:St->XK) (a:SB):TT:=fun σ H Q=>∃ ι h en,Sim T ι h H/\ER T ι H en σ/\Post T ι H (E σ) EU (a en h) Q
def tA (T:Tb) (E:St->XK) (a:SL):TA:=fun σ H Q=>∃ ι h en,Sim T ι h H/\ER T ι H en σ/\Post T ι H (E σ) (RVs T) (a en h) Q
def tS (T:Tb) (E:St->XK) (b:SS):TS:=fun D σ H=>∃ ι h en,Sim T ι h H/\ER T ι H en σ/\PostS T ι H E (b en h) D
abbrev aU (T:Tb) (E:St->XK) (X:Cx) (e:Expr) (a:SE):Prop:=PE X e (tE T E a)
abbrev gR (T:Tb) (E:St->XK) (X:Cx) (e:Expr) (a:SB):Prop:=PT X e (tT T E a)
abbrev kW (T:Tb) (E:St->XK) (X:Cx) (e:Expr) (a:SB):Prop:=PW X e (tT T E a)
abbrev gS (T:Tb) (E:St->XK) (X:Cx) (es:List Expr) (a:SL):Prop:=PA X es (tA T E a)
abbrev hE (T:Tb) (E:St->XK) (X:Cx) (st:Stmt) (b:SS):Prop:=PS X st (tS T E b)
abbrev d8 (T:Tb) (E:St->XK) (X:Cx) (sts:List Stmt) (b:SS):Prop:=g9 X sts (tS T E b)
theorem dr {X:Cx} {e:Expr} {t t':TE} (h:PE X e t) (k:∀ σ H Q,t' σ H Q->t σ H Q):PE X e t' := fun pins s σ H Q I q=>h pins s σ H Q I (k σ H Q q)
theorem pA {X:Cx} {e:Expr} {t t':TT} (h:PT X e t) (k:∀ σ H Q,t' σ H Q->t σ H Q):PT X e t' := fun pins s σ H Q I q=>h pins s σ H Q I (k σ H Q q)
theorem xQ {X:Cx} {e:Expr} {t t':TT} (h:PW X e t) (k:∀ σ H Q,t' σ H Q->t σ H Q):PW X e t' := fun w pins s σ H Q I q=>h w pins s σ H Q I (k σ H Q q)
theorem xR {X:Cx} {e:List Expr} {t t':TA} (h:PA X e t) (k:∀ σ H Q,t' σ H Q->t σ H Q):PA X e t' := fun p pins s σ H Q I q=>h p pins s σ H Q I (k σ H Q q)
theorem iO {X:Cx} {e:Stmt} {t t':TS} (h:PS X e t) (k:∀ D σ H,t' D σ H->t D σ H):PS X e t' := fun pins s σ H D I q=>h pins s σ H D I (k D σ H q)
theorem xS {X:Cx} {e:List Stmt} {t t':TS} (h:g9 X e t) (k:∀ D σ H,t' D σ H->t D σ H):g9 X e t' := fun pins s σ H D I q=>h pins s σ H D I (k D σ H q)
theorem xT {X:Cx} {st:Stmt} {t:TS} (h:PS X.nox st t):PS X st t:=fun pins s σ H D I hw=>by
 refine LF (h pins s σ H D (I.wish _) hw) (fun f s' q=>SP.unwish q) fun _ _ z=>z.elim
end Sm
namespace Sm
open PySem L2
instance:DecidableEq AV:=fun _ _=>Classical.propDecidable _
@[simp] def ae (i:Nat):SE:=fun en h=>match en[i]? with
 | some (some v)=>.ok v h
 | _=>.bad
@[simp] def af (v:AV):SE:=fun _ h=>.ok v h
abbrev F1:=AV->AH->Out AV
abbrev F2:=AV->AV->AH->Out AV
@[simp] def bL (f:F1) (a:SE):SE:=fun en h=>(a en h).bind f
@[simp] def ah (f:F2) (a b:SE):SE:=fun en h=>(a en h).bind fun x h1=>(b en h1).bind fun y h2=>f x y h2
@[simp] def ag:SL:=fun _ h=>.ok [] h
@[simp] def aj (a:SE) (r:SL):SL:=fun en h=>(a en h).bind fun x h1=>(r en h1).bind fun xs h2=>.ok (x::xs) h2
@[simp] def aG (F:Fn) (as:SL):SE:=fun en h=>(as en h).bind F
@[simp] def bM (as:SL):SE:=fun en h=>(as en h).bind fun xs h1=>if xs.length<=1000 then .ok (.tup xs) h1 else .bad
@[simp] def bN (as:SL):SE:=fun en h=>(as en h).bind fun xs h1=>if xs.length<=1000 then .ok (.fl xs) h1 else .bad
@[simp] def eJ (as:SL):SE:=fun en h=>(as en h).bind fun xs h1=>if xs.length<=1000 then .ok (.ref h1.length) (h1++[.lst xs]) else .bad
@[simp] def xU (t:Bool):SE:=fun _ h=>.ok (.ref h.length) (h++[.dct t []])
@[simp] def Ko (v:AV) (h:AH):Option (List AV):=match v with
 | .tup xs=>some xs
 | .fl xs=>some xs
 | .ref n=>match h[n]? with
  | some (.lst xs)=>some xs
  | _=>none
 | _=>none
@[simp] def fK (v:AV) (h:AH):Option (List AV):=match v with
 | .fl xs=>some xs
 | .ref n=>match h[n]? with
  | some (.lst xs)=>some xs
  | _=>none
 | _=>none
@[simp] def aw:F2:=fun x y h=>match x,y with
 | .int i,.int j=>.ok (.int (i+j)) h
 | .str i,.str j=>if i.length+j.length<=sizeLine then .ok (.str (i++j)) h else .bad
 | .tup xs,.tup ys=>if xs≠[]/\xs.length+ys.length<=sizeLine then .ok (.tup (xs++ys)) h else .bad
 | x,y=>match fK x h,fK y h with
  | some xs,some ys=>if xs.length+ys.length<=sizeLine then .ok (.fl (xs++ys)) h else .bad
  | _,_=>.bad
@[simp] def cY:F2:=fun x y h=>match x,y with
 | .int i,.int j=>.ok (.int (i-j)) h
 | _,_=>.bad
@[simp] def cC:F2:=fun x y h=>match x,y with
 | .int i,.int j=>if (i.natAbs<2 ^ 64\/j.natAbs<2 ^ 64)\/(i.natAbs<2 ^ 4000/\j.natAbs<2 ^ 4000) then .ok (.int (i*j)) h else .bad
 | _,_=>.bad
@[simp] def hG:F2:=fun x y h=>match x,y with
 | .int i,.int j=>if 0<j/\j.natAbs<2 ^ 200 then .ok (.int (i / j)) h else .bad
 | _,_=>.bad
@[simp] def dJ:F2:=fun x y h=>match x,y with
 | .int i,.int j=>if 0<j then .ok (.int (i % j)) h else .bad
 | _,_=>.bad
@[simp] def cg:F2:=fun x y h=>match x,y with
 | .int i,.int j=>if 0<=j/\j<=1000000/\i.natAbs<2 ^ 64 then .ok (.int (i ^ j.toNat)) h else .bad
 | _,_=>.bad
@[simp] def bG:F1:=fun x h=>match x with
 | .int i=>.ok (.int (-i)) h
 | _=>.bad
def bT (f:AV->Option PyData):List AV->Option (List PyData)
 | []=>some []
 | x::xs=>match f x,bT f xs with
  | some d,some ds=>some (d::ds)
  | _,_=>none
def bW:Nat->AH->AV->Option PyData
 | 0,_,v=>match v with
  | .non=>some .none
  | .bl b=>some (.bool b)
  | .int i=>some (.int i)
  | .str x=>some (.str x)
  | _=>none
 | n+1,h,v=>match v with
  | .non=>some .none
  | .bl b=>some (.bool b)
  | .int i=>some (.int i)
  | .str x=>some (.str x)
  | .tup xs=>(bT (bW n h) xs).map .tuple
  | .fl xs=>(bT (bW n h) xs).map .list
  | .ref k=>match h[k]? with
   | some (.lst xs)=>(bT (bW n h) xs).map .list
   | _=>none
  | .exc _=>none
@[simp] def fW (x y:AV) (h:AH):Option Bool:=match x,y with
 | .int i,.int j=>some (decide (i=j))
 | .str i,.str j=>some (decide (i=j))
 | .bl i,.bl j=>some (decide (i=j))
 | .non,.non=>some true
 | x,y=>match bW 8 h x,bW 8 h y with
  | some d,some e=>some (PyData.eqv d e)
  | _,_=>none
@[simp] def aC:F2:=fun x y h=>match fW x y h with
 | some b=>.ok (.bl b) h
 | none=>.bad
@[simp] def aZ:F2:=fun x y h=>match fW x y h with
 | some b=>.ok (.bl (!b)) h
 | none=>.bad
@[simp] def bz:F2:=fun x y h=>match x,y with
 | .int i,.int j=>.ok (.bl (decide (i<j))) h
 | .str i,.str j=>.ok (.bl (decide (i.cps.toList<j.cps.toList))) h
 | _,_=>.bad
@[simp] def bS:F2:=fun x y h=>match x,y with
 | .int i,.int j=>.ok (.bl (decide (i<=j))) h
 | .str i,.str j=>.ok (.bl (!decide (j.cps.toList<i.cps.toList))) h
 | _,_=>.bad
@[simp] def eY:F2:=fun x y h=>match x,y with
 | .int i,.int j=>.ok (.bl (decide (j<i))) h
 | _,_=>.bad
@[simp] def dQ:F2:=fun x y h=>match x,y with
 | .int i,.int j=>.ok (.bl (decide (j<=i))) h
 | _,_=>.bad
@[simp] def bg:F2:=fun x y h=>match y with
 | .non=>.ok (.bl (decide (x = .non))) h
 | _=>.bad
@[simp] def je:F2:=fun x y h=>match y with
 | .non=>.ok (.bl (!decide (x = .non))) h
 | _=>.bad
@[simp] def kY (v:AV) (h:AH):Option Bool:=match v with
 | .non=>some false
 | .bl b=>some b
 | .int i=>some (i != 0)
 | .str y=>some ((y.length:Int) != 0)
 | .tup xs=>some (!xs.isEmpty)
 | .fl xs=>some (!xs.isEmpty)
 | .ref n=>match h[n]? with
  | some (.lst xs)=>some (!xs.isEmpty)
  | some (.dct false kvs)=>some (!kvs.isEmpty)
  | _=>none
 | _=>none
@[simp] def eK (a:SE):SB:=fun en h=>(a en h).bind fun v h1=>match kY v h1 with
 | some b=>.ok b h1
 | none=>.bad
@[simp] def aK (a:SE):SB:=fun en h=>(a en h).bind fun v h1=>match v with
 | .bl b=>.ok b h1
 | _=>.bad
@[simp] def dz (a b:SB):SB:=fun en h=>(a en h).bind fun x h1=>if x=true then b en h1 else .ok false h1
@[simp] def e7 (a b:SB):SB:=fun en h=>(a en h).bind fun x h1=>if x=true then .ok true h1 else b en h1
@[simp] def cZ (a:SB):SB:=fun en h=>(a en h).bind fun x h1=>.ok (!x) h1
@[simp] def gT (a b:SE):SE:=fun en h=>(a en h).bind fun v h1=>match v with
 | .bl k=>if k=true then b en h1 else .ok (.bl false) h1
 | _=>.bad
@[simp] def nt (a b:SE):SE:=fun en h=>(a en h).bind fun v h1=>match v with
 | .bl k=>if k=true then .ok (.bl true) h1 else b en h1
 | _=>.bad
@[simp] def pB (a:SE):SE:=fun en h=>(a en h).bind fun v h1=>match v with
 | .bl b=>.ok (.bl (!b)) h1
 | _=>.bad
@[simp] def kZ (c:SB) (a b:SE):SE:=fun en h=>(c en h).bind fun x h1=>if x=true then a en h1 else b en h1
@[simp] def fL (f f':F2) (a b c:SE):SE:=fun en h=>(a en h).bind fun x h1=>(b en h1).bind fun y h2=>(f x y h2).bind fun z h3=>match z with
 | .bl k=>if k=true then (c en h3).bind fun w h4=>f' y w h4 else .ok (.bl false) h3
 | _=>.bad
@[simp] def bt:SS:=fun en h=>.nx en h
@[simp] def ao (a b:SS):SS:=fun en h=>match a en h with
 | .nx e h' => b e h'
 | o=>o
@[simp] def xV:SS:=fun en h=>.bk en h
@[simp] def cG (a:SE):SS:=fun en h=>(a en h).go en fun _ h' => .nx en h'
@[simp] def aB (a:SE):SS:=fun en h=>(a en h).go en fun v h' => .rt v h'
@[simp] def bh (c:SB) (a b:SS):SS:=fun en h=>(c en h).go en fun x h' => if x=true then a en h' else b en h'
@[simp] def aF (i:Nat) (a:SE):SS:=fun en h=>(a en h).go en fun v h' => .nx (en.set i (some v)) h'
def bU (c:SB) (b:SS):Nat->SS
 | 0=>fun _ _=>.bad
 | n+1=>fun en h=>match c en h with
  | .ok true h1=>(match b en h1 with
   | .nx e2 h2=>bU c b n e2 h2
   | .ct e2 h2=>bU c b n e2 h2
   | .bk e2 h2=>.nx e2 h2
   | .rt v h2=>.rt v h2
   | _=>.bad)
  | .ok false h1=>.nx en h1
  | _=>.bad
abbrev SI:=En->AH->Out (List AV×Option Nat)
@[simp] def fM (w:Option Nat) (xs:List AV) (h:AH):Bool:=match w with
 | none=>true
 | some n=>match h[n]? with
  | some (.lst ys)=>decide (ys=xs)
  | _=>false
inductive Tg where
 | nm (i:Nat)
 | tup (is:List Nat)
 | nst (i:Nat) (is:List Nat)
@[simp] def pC:List Nat->List AV->En->Option En
 | [],[],en=>some en
 | i::is,x::xs,en=>pC is xs (en.set i (some x))
 | _,_,_=>none
@[simp] def dB (t:Tg) (v:AV) (en:En):Option En:=match t,v with
 | .nm i,v=>some (en.set i (some v))
 | .tup is,.tup xs=>pC is xs en
 | .nst i is,.tup [y,.tup xs]=>pC is xs (en.set i (some y))
 | _,_=>none
def cH (w:Option Nat) (all:List AV) (t:Tg) (b:SS):List AV->SS
 | []=>fun en h=>if fM w all h=true then .nx en h else .bad
 | x::xs=>fun en h=>if fM w all h=true then
   (match dB t x en with
   | some e1=>(match b e1 h with
    | .nx e2 h2=>cH w all t b xs e2 h2
    | .ct e2 h2=>cH w all t b xs e2 h2
    | .bk e2 h2=>.nx e2 h2
    | .rt v h2=>.rt v h2
    | _=>.bad)
   | none=>.bad) else .bad
@[simp] def bp (it:SI) (t:Tg) (b:SS):SS:=fun en h=>match it en h with
 | .ok (xs,w) h1=>cH w xs t b xs en h1
 | _=>.bad
@[simp] def bc (a:SE):SI:=fun en h=>(a en h).bind fun v h1=>match v with
 | .fl xs=>.ok (xs,none) h1
 | .tup xs=>.ok (xs,none) h1
 | .str z=>.ok (z.cps.toList.map (fun c=>.str ⟨#[c]⟩),none) h1
 | .ref n=>match h1[n]? with
  | some (.lst xs)=>.ok (xs,some n) h1
  | _=>.bad
 | _=>.bad
def dh (lo:Int):Nat->List AV
 | 0=>[]
 | n+1=>.int lo::dh (lo+1) n
@[simp] def fN (a:SE):SI:=fun en h=>(a en h).bind fun v h1=>match v with
 | .int j=>if j.natAbs<2 ^ 62 then .ok (dh 0 j.toNat,none) h1 else .bad
 | _=>.bad
def numbered (k:Nat):List AV->List AV
 | []=>[]
 | x::xs=>.tup [.int k,x]::numbered (k+1) xs
@[simp] def Kp (a:SE):SI:=fun en h=>(a en h).bind fun v h1=>match v with
 | .fl xs=>.ok (numbered 0 xs,none) h1
 | _=>.bad
def eP (js:List Nat) (en:En) (w:Option Nat) (all:List AV) (c:SB) (e:SE):List AV->List AV->AH->Out (List AV)
 | [],ys,h=>if fM w all h=true then .ok ys h else .bad
 | x::xs,ys,h=>if fM w all h=true/\ys.length<sizeLine then
   (match c (some x::js.map fun j=>(en[j]?).join) h with
   | .ok true h1=>(match e (some x::js.map fun j=>(en[j]?).join) h1 with
    | .ok v h2=>eP js en w all c e xs (ys++[v]) h2
    | _=>.bad)
   | .ok false h1=>eP js en w all c e xs ys h1
   | _=>.bad) else .bad
@[simp] def cq:SB:=fun _ h=>.ok true h
@[simp] def dC (js:List Nat) (it:SI) (c:SB) (e:SE):SE:=fun en h=>match it en h with
 | .ok (xs,w) h1=>(match eP js en w xs c e xs [] h1 with
  | .ok ys h2=>.ok (.fl ys) h2
  | _=>.bad)
 | _=>.bad
@[simp] def aI (n m:Nat) (b:SS):Fn:=fun args h =>
 if args.length=n then
  match b (args.map some++List.replicate (m-n) none) h with
  | .nx _ h' => .ok .non h'
  | .rt v h' => .ok v h'
  | .ex c _ h' => .ex c h'
  | _=>.bad
 else .bad
@[simp] def aR (c:Nat) (F:Fn) (o:SE) (as:SL):SE:=fun en h=>(o en h).bind fun x h1=>match x with
 | .ref n=>match h1[n]? with
  | some (.ins c' _)=>if c'=c then (as en h1).bind fun xs h2=>F (x::xs) h2 else .bad
  | _=>.bad
 | _=>.bad
@[simp] def pD (c k:Nat) (F:Fn) (as:SL):SE:=fun en h=>(as en h).bind fun xs h1=>match F (.ref h1.length::xs) (h1++[.ins c (List.replicate k none)]) with
 | .ok .non h2=>.ok (.ref h1.length) h2
 | .ex c h2=>.ex c h2
 | _=>.bad
@[simp] def sFld (c i:Nat) (o:SE):SE:=fun en h=>(o en h).bind fun x h1=>match x with
 | .ref n=>match h1[n]? with
  | some (.ins c' fs)=>if c'=c then (match fs[i]? with | some (some v)=>.ok v h1 | _=>.bad) else .bad
  | _=>.bad
 | _=>.bad
@[simp] def jG (c i:Nat) (o v:SE):SS:=fun en h=>(v en h).go en fun y h1=>(o en h1).go en fun x h2=>match x with
 | .ref n=>match h2[n]? with
  | some (.ins c' fs)=>if c'=c then .nx en (h2.set n (.ins c (fs.set i (some y)))) else .bad
  | _=>.bad
 | _=>.bad
@[simp] def jg (c:Nat) (as:SL):SS:=fun en h=>(as en h).go en fun xs h1=>if xs.length<=1000 then .ex c en h1 else .bad
@[simp] def keyOf? (v:AV):Option bo:=match v with
 | .int i=>some (.inl i)
 | .str x=>some (.inr x)
 | _=>none
@[simp] def keysOf? : List AV->Option (List bo)
 | []=>some []
 | v::r=>match keyOf? v,keysOf? r with
  | some k,some ks=>some (k::ks)
  | _,_=>none
@[simp] def jH (t:Bool) (v:AV):Bool:=match t,v with
 | false,v=>(keyOf? v).isSome
 | true,.tup xs=>(keysOf? xs).isSome
 | true,_=>false
def bZ (kvs:List (AV×AV)) (k:AV):Option AV:=(kvs.find? fun p=>decide (p.1=k)).map (·.2)
def hJ (kvs:List (AV×AV)) (k v:AV):List (AV×AV) :=
 if kvs.any (fun p=>decide (p.1=k)) then kvs.map fun p=>if p.1=k then (p.1,v) else p else kvs++[(k,v)]
@[simp] def au:F2:=fun x y h=>match x,y with
 | .str z,.int i=>match atI z.cps.toList i with
  | some c=>.ok (.str ⟨#[c]⟩) h
  | none=>.bad
 | .tup xs,.int i=>match atI xs i with
  | some v=>.ok v h
  | none=>.bad
 | .fl xs,.int i=>match atI xs i with
  | some v=>.ok v h
  | none=>.bad
 | .ref n,y=>match h[n]? with
  | some (.lst xs)=>match y with
   | .int i=>match atI xs i with
    | some v=>.ok v h
    | none=>.bad
   | _=>.bad
  | some (.dct t kvs)=>if jH t y then (match bZ kvs y with | some v=>.ok v h | none=>.bad) else .bad
  | _=>.bad
 | _,_=>.bad
@[simp] def pE (o i v:SE):SS:=fun en h=>(v en h).go en fun z h1=>(o en h1).go en fun x h2=>(i en h2).go en fun y h3=>match x with
 | .ref n=>match h3[n]? with
  | some (.lst xs)=>match y with
   | .int k=>match jb xs.length k with
    | some j=>.nx en (h3.set n (.lst (xs.set j z)))
    | none=>.bad
   | _=>.bad
  | some (.dct t kvs)=>if jH t y=true/\kvs.length<sizeLine then .nx en (h3.set n (.dct t (hJ kvs y z))) else .bad
  | _=>.bad
 | _=>.bad
@[simp] def pF (x y:AV) (h:AH):Option Bool:=match x,y with
 | .str i,.str j=>some (!(Builtin.Str.occurrences j i 0 j.length 1).isEmpty)
 | x,.ref n=>match h[n]? with
  | some (.dct t kvs)=>if jH t x then some (bZ kvs x).isSome else none
  | some (.lst xs)=>match bW 8 h x,bT (bW 8 h) xs with
   | some d,some ds=>some (ds.any fun e=>PyData.eqv e d)
   | _,_=>none
  | _=>none
 | x,.fl xs=>match bW 8 h x,bT (bW 8 h) xs with
  | some d,some ds=>some (ds.any fun e=>PyData.eqv e d)
  | _,_=>none
 | x,.tup xs=>match bW 8 h x,bT (bW 8 h) xs with
  | some d,some ds=>some (ds.any fun e=>PyData.eqv e d)
  | _,_=>none
 | _,_=>none
@[simp] def r8:F2:=fun x y h=>match pF x y h with
 | some b=>.ok (.bl (!b)) h
 | none=>.bad
@[simp] def ax:Fn:=fun args h=>match args with
 | [.str x]=>.ok (.int x.length) h
 | [.tup xs]=>.ok (.int xs.length) h
 | [.fl xs]=>.ok (.int xs.length) h
 | [.ref n]=>match h[n]? with
  | some (.lst xs)=>.ok (.int xs.length) h
  | some (.dct false kvs)=>.ok (.int kvs.length) h
  | _=>.bad
 | _=>.bad
@[simp] def k9:Fn:=fun args h=>match args with
 | [.int i]=>.ok (.int (if i<0 then -i else i)) h
 | _=>.bad
@[simp] def e8:Fn:=fun args h=>match args with
 | [.int i,.int j]=>.ok (.int (if j > i then j else i)) h
 | _=>.bad
@[simp] def fX:Fn:=fun args h=>match args with
 | [.int i,.int j]=>.ok (.int (if j<i then j else i)) h
 | _=>.bad
@[simp] def nv:List AV->Option (List Bool)
 | []=>some []
 | .bl b::r=>(nv r).map (b :: ·)
 | _::_=>none
@[simp] def lg:Fn:=fun args h=>match args with
 | [.fl xs]=>match nv xs with
  | some bs=>.ok (.bl (bs.all id)) h
  | none=>.bad
 | _=>.bad
@[simp] def r9 (v:AV) (h:AH):Option String:=match v with
 | .non=>some "NoneType"
 | .bl _=>some "bool"
 | .int _=>some "int"
 | .str _=>some "str"
 | .tup _=>some "tuple"
 | .fl _=>some "list"
 | .ref n=>match h[n]? with
  | some (.lst _)=>some "list"
  | some (.dct _ _)=>some "dict"
  | _=>none
 | .exc _=>none
@[simp] def dW (t:String) (a:SE):SE:=fun en h=>(a en h).bind fun v h1=>match r9 v h1 with
 | some n=>.ok (.bl (n == t || (t == "int" && n == "bool"))) h1
 | none=>.bad
abbrev FM:=AV->List AV->AH->Out AV
@[simp] def bq (v:AV) (h:AH):Bool:=(fK v h).isSome
@[simp] def sd (v:AV) (_:AH):Bool:=match v with
 | .str _=>true
 | _=>false
@[simp] def dX (chk:AV->AH->Bool) (f:FM) (o:SE) (as:SL):SE:=fun en h=>(o en h).bind fun x h1=>if chk x h1=true then (as en h1).bind fun xs h2=>f x xs h2 else .bad
@[simp] def hZ (chk:AV->AH->Bool) (f:FM) (o:SE):SE:=fun en h=>(o en h).bind fun x h1=>if chk x h1=true then f x [] h1 else .bad
@[simp] def bV:FM:=fun x vs h=>match x,vs with
 | .ref n,[y]=>match h[n]? with
  | some (.lst xs)=>if xs.length<sizeLine then .ok .non (h.set n (.lst (xs++[y]))) else .bad
  | _=>.bad
 | _,_=>.bad
@[simp] def bY:FM:=fun x vs h=>match x,vs with
 | .ref n,[]=>match h[n]? with
  | some (.lst xs)=>match xs[xs.length-1]? with
   | some y=>.ok y (h.set n (.lst xs.dropLast))
   | none=>.bad
  | _=>.bad
 | _,_=>.bad
@[simp] def se:FM:=fun x vs h=>match x,vs with
 | .str z,[.str y]=>.ok (.int ((Builtin.Str.occurrences z y 0 z.length (z.length+1)).length:Nat)) h
 | _,_=>.bad
def b9 {α:Type} (xs:List α) (lo hi:Option Int):List α:=(xs.drop (HT.sIx xs.length 0 lo)).take (HT.sIx xs.length xs.length hi-HT.sIx xs.length 0 lo)
end Sm
namespace Sm
open PySem L2
structure CA (T:Tb) (E:St->XK) (X:Cx):Prop where
 hK:X.K=T.K
 pass:ni (dU X.prog X.w) X E
abbrev EN:St->XK:=fun _=>E0
theorem CA.nox {T:Tb} {E:St->XK} {X:Cx} (c:CA T E X):CA T EN X.nox:=⟨c.hK,fun _ _ _ _ _ _ _ h=>by
 obtain ⟨_,_,_,_,_,_,_,_,_,_,_,_,_,_,q⟩:=h
 exact q.elim⟩
theorem CA.never {T:Tb} {X:Cx} (hK:X.K=T.K):CA T EN X:=⟨hK,fun _ _ _ _ _ _ _ h=>by
 obtain ⟨_,_,_,_,_,_,_,_,_,_,_,_,_,_,q⟩:=h
 exact q.elim⟩
section
variable {T:Tb} {ι:Ix} {h:AH} {H:Hp}
theorem fB {x:AV} {u:V} {xs:List AV} (S:Sim T ι h H) (r:RV T ι H x u) (e:fK x h=some xs):∃ a us,u = .ref a/\SqL T.K H a us/\RVs T ι H xs us:=by
 unfold fK at e
 cases r with
 | fl n q r=>cases e;exact ⟨_,_,rfl,.inl q,r⟩
 | kfl q r=>cases e;exact ⟨_,_,rfl,.inr q,r⟩
 | @ref k a q =>
  dsimp only at e
  split at e
  ·rename_i ys hk
   cases e
   obtain ⟨u,e1,us,rfl,r⟩:=S.obj k _ a hk q
   exact ⟨a,us,rfl,.inl (.inl e1),r⟩
  ·cases e
 | _=>cases e
theorem ki {u:V} {xs:List AV} (r:RV T ι H (.tup xs) u):∃ a us,u = .ref a/\SqT T.K H a us/\RVs T ι H xs us:=by
 cases r with
 | tup n q r=>exact ⟨_,_,rfl,.of q,r⟩
theorem fC {u:V} {x:Str} (r:RV T ι H (.str x) u):u = .str x/\x.length<=sizeLine/\x.cps.all (· < 0x110000)=true:=by
 cases r with
 | str n o=>exact ⟨rfl,n,o⟩
theorem cI {u:V} {i:Int} (r:RV T ι H (.int i) u):u = .int i:=by cases r;rfl
theorem iA {u:V} {i:Bool} (r:RV T ι H (.bl i) u):u = .bl i:=by cases r;rfl
theorem ny {u:V} (r:RV T ι H .non u):u = .non:=by cases r;rfl
theorem jI {us:List V} {xs:List AV} {p:Addr} {E:XK} {Q:VK} (S:Sim T ι h H) (r:RVs T ι H xs us) (n:H p=none) (q:Post T ι H E (RV T) (.ok (.fl xs) h) Q):Q (.ref p) (aV H p (.lst us)) :=
 q ι _ _ (S.growNew n) (S.new n) (.fl (S.fresh n) (.inl gD) (r.mono (S.growNew n)))
theorem sf {us:List V} {xs:List AV} {p:Addr} {E:XK} {Q:VK} (S:Sim T ι h H) (r:RVs T ι H xs us) (n:H p=none) (q:Post T ι H E (RV T) (.ok (.tup xs) h) Q):Q (.ref p) (aV H p (.tup us)) :=
 q ι _ _ (S.growNew n) (S.new n) (.tup (S.fresh n) gD (r.mono (S.growNew n)))
theorem xW {us:List V} {xs:List AV} {p:Addr} {E:XK} {Q:VK} (S:Sim T ι h H) (r:RVs T ι H xs us) (n:H p=none) (q:Post T ι H E (RV T) (.ok (.ref h.length) (h++[.lst xs])) Q):Q (.ref p) (aV H p (.lst us)) :=
 q _ _ _ (S.growAdd n) (S.add n ⟨us,rfl,r.mono (S.growAdd n)⟩) (.ref S.addAt)
end
section
variable {T:Tb} {E:St->XK} {X:Cx} {pos:Pos}
theorem ai (i:Nat) {x:Str} {p:Pos} (hN:X.N[i]? = some x:=by rfl) (hv:mS X.env.scope x:=by first | exact Or.inl rfl | exact Or.inr (Or.inl rfl) | exact Or.inr (Or.inr rfl)) (hd:(x == ("__debug__" : Str))=false:=by decide)
  (hcd:(x == ("__classdict__" : Str))=false:=by decide):aU T E X (.Name x p) (ae i) :=
 dr (pv i hN hv hd hcd) fun σ H Q ⟨ι,h,en,S,er,q⟩=>by
  unfold ae at q
  split at q
  ·rename_i v hv
   obtain ⟨u,e,r⟩:=er.2 i v hv
   exact ⟨u,e,q.now S r⟩
  ·exact q.elim
theorem aD {i j p}:aU T E X (.Constant (.int i) j p) (af (.int i)):=dr Bi fun σ H Q ⟨ι,h,en,S,er,q⟩=>q.now S (.int i)
theorem dj {i j p}:aU T E X (.Constant (.bool i) j p) (af (.bl i)):=dr Bj fun σ H Q ⟨ι,h,en,S,er,q⟩=>q.now S (.bl i)
theorem jh {j p}:aU T E X (.Constant .none j p) (af .non):=dr Bk fun σ H Q ⟨ι,h,en,S,er,q⟩=>q.now S .non
theorem bH {x j p} (n:x.length<=sizeLine:=by decide +kernel) (o:x.cps.all (· < 0x110000)=true:=by decide +kernel):aU T E X (.Constant (.str x) j p) (af (.str x)):=dr Bl fun σ H Q ⟨ι,h,en,S,er,q⟩=>q.now S (.str n o)
theorem EV {x:Str} {i:Int} {t:Tok} {p:Pos} (hg:Gl X x) (hm:X.mg x=some (.int i t)) (hd:(x == ("__debug__" : Str))=false:=by decide):aU T E X (.Name x p) (af (.int i)) :=
 dr (Bm (v:=.int i) hg hm ⟨t,rfl⟩ hd) fun σ H Q ⟨ι,h,en,S,er,q⟩=>q.now S (.int i)
def mr (T:Tb) (f:F2) (r:R2):Prop:=∀ (ι:Ix) (h:AH) (H:Hp) (x y:AV) (u w:V) (E:XK) (Q:VK),Sim T ι h H->RV T ι H x u->RV T ι H y w->Post T ι H E (RV T) (f x y h) Q->r u w H Q
def Op (T:Tb) (X:Cx) (g:Value->Value->Sem Value) (f:F2):Prop:=∃ r,OpR X g r/\mr T f r
variable {a b c:Expr} {sa sb sc:SE}
theorem two {f:F2} {r:R2} (hs:mr T f r) {σ:St} {H:Hp} {Q:VK} (q:tE T E (ah f sa sb) σ H Q):mh r (tE T E sa) (tE T E sb) σ H Q:=by
 obtain ⟨ι,h,en,S,er,q⟩:=q
 refine ⟨ι,h,en,S,er,q.bind fun x h1 ι1 H1 u g1 S1 r1 q1=>⟨ι1,h1,en,S1,er.mono g1,q1.bind fun y h2 ι2 H2 w g2 S2 r2 q2=>?_⟩⟩
 exact hs ι2 h2 H2 x y u w _ Q S2 (r1.mono g2) r2 q2
theorem aW {op:Operator} {f:F2} (ho:Op T X (binaryOp op) f) (ha:aU T E X a sa) (hb:aU T E X b sb):aU T E X (.BinOp a op b pos) (ah f sa sb):=by
 obtain ⟨r,h1,h2⟩:=ho
 exact dr (Cd h1 ha hb) fun σ H Q q=>two h2 q
theorem EW {i j:Str} (hi:i.cps.all (· < 0x110000)=true) (hj:j.cps.all (· < 0x110000)=true):(i++j).cps.all (· < 0x110000)=true:=by
 show (i.cps++j.cps).all _=true
 rw [Array.all_append,hi,hj];rfl
theorem EX (i j:Str):(i++j).length=i.length+j.length:=by
 show (i.cps++j.cps).size=_
 rw [Oh];rfl
theorem bX (hK:X.K=T.K):Op T X (binaryOp .Add) aw:=by
 refine ⟨_,op_add.or (zgx.or (zi3.or xH)),fun ι h H x y u w E Q S rx ry p=>?_⟩
 unfold aw at p
 split at p
 ·rw [cI rx,cI ry]
  exact .inl ⟨_,_,rfl,rfl,p.now S (.int _)⟩
 ·split at p
  ·rename_i hz
   obtain ⟨rfl,_,o1⟩:=fC rx
   obtain ⟨rfl,_,o2⟩:=fC ry
   exact .inr (.inl ⟨_,_,rfl,rfl,hz,p.now S (.str (by rw [EX];exact hz) (EW o1 o2))⟩)
  ·exact p.elim
 ·split at p
  ·rename_i hz
   obtain ⟨a,us,rfl,q1,r1⟩:=ki rx
   obtain ⟨b,ws,rfl,q2,r2⟩:=ki ry
   refine .inr (.inr (.inl ⟨a,b,us,ws,rfl,rfl,hK▸q1,hK▸q2,fun z=>hz.1 ?_,by rw [<- r1.length,<- r2.length];exact hz.2,fun z=>?_,fun _ l n=>sf S (r1.append r2) n p⟩))
   ·subst z;cases r1;rfl
   ·subst z;cases r2
    rw [LC] at p
    exact p.now S rx
  ·exact p.elim
 ·split at p
  ·split at p
   ·rename_i e1 e2 hz
    obtain ⟨a,us,rfl,q1,r1⟩:=fB S rx e1
    obtain ⟨b,ws,rfl,q2,r2⟩:=fB S ry e2
    exact .inr (.inr (.inr ⟨a,b,us,ws,rfl,rfl,hK▸q1,hK▸q2,by rw [<- r1.length,<- r2.length];exact hz,fun l n=>jI S (r1.append r2) n p⟩))
   ·exact p.elim
  ·exact p.elim
theorem lh:Op T X (binaryOp .Sub) cY:=by
 refine ⟨_,Cf,fun ι h H x y u w E Q S rx ry p=>?_⟩
 unfold cY at p
 split at p
 ·rw [cI rx,cI ry]
  exact ⟨_,_,rfl,rfl,p.now S (.int _)⟩
 ·exact p.elim
theorem xX {i:Int} (h:i.natAbs<2 ^ 4000):Builtin.Int.intBits i<=2 ^ 20:=by
 unfold Builtin.Int.intBits
 split
 ·exact Lc _
 ·rename_i hz
  have h0:i.natAbs≠0:=fun z=>hz (by simpa using z)
  have:i.natAbs.log2<4000:=(Nat.log2_lt h0).mpr h
  exact KN (by lia:i.natAbs.log2+1<=4001) (by decide)
theorem jJ:Op T X (binaryOp .Mult) cC:=by
 refine ⟨_,El,fun ι h H x y u w E Q S rx ry p=>?_⟩
 unfold cC at p
 split at p
 ·split at p
  ·rename_i hz
   rw [cI rx,cI ry]
   exact ⟨_,_,rfl,rfl,hz.elim (fun z=>CMul.ok (z.elim (fun z=>.inl ⟨by omega,by omega⟩) (fun z=>.inr ⟨by omega,by omega⟩))) (fun z=>.of_bits (xX z.1) (xX z.2)),p.now S (.int _)⟩
  ·exact p.elim
 ·exact p.elim
theorem xY:Op T X (binaryOp .FloorDiv) hG:=by
 refine ⟨_,Ek,fun ι h H x y u w E Q S rx ry p=>?_⟩
 unfold hG at p
 split at p
 ·split at p
  ·rename_i hz
   rw [cI rx,cI ry]
   exact ⟨_,_,rfl,rfl,⟨hz.1,by omega⟩,p.now S (.int _)⟩
  ·exact p.elim
 ·exact p.elim
theorem lj:Op T X (binaryOp .Mod) dJ:=by
 refine ⟨_,Cg,fun ι h H x y u w E Q S rx ry p=>?_⟩
 unfold dJ at p
 split at p
 ·split at p
  ·rename_i hz
   rw [cI rx,cI ry]
   exact ⟨_,_,rfl,rfl,hz,p.now S (.int _)⟩
  ·exact p.elim
 ·exact p.elim
theorem lq:Op T X (binaryOp .Pow) cg:=by
 refine ⟨_,Cj,fun ι h H x y u w E Q S rx ry p=>?_⟩
 unfold cg at p
 split at p
 ·split at p
  ·rename_i hz
   rw [cI rx,cI ry]
   exact ⟨_,_,rfl,rfl,hz,p.now S (.int _)⟩
  ·exact p.elim
 ·exact p.elim
theorem kj (ha:aU T E X a sa):aU T E X (.UnaryOp .USub a pos) (bL bG sa) :=
 dr (Ce Cm ha) fun σ H Q ⟨ι,h,en,S,er,q⟩=>⟨ι,h,en,S,er,q.bind fun x h1 ι1 H1 u g1 S1 r1 q1=>by
  unfold bG at q1
  split at q1
  ·rw [cI r1]
   exact ⟨_,rfl,q1.now S1 (.int _)⟩
  ·exact q1.elim⟩
theorem EY {ds:List PyData} (h:∀ d∈ds,d.canLay0=true):PyData.canLayAll0 ds=true:=by
 induction ds with
 | nil=>rfl
 | cons d r ih=>show (d.canLay0 && PyData.canLayAll0 r)=true;rw [h d (by simp),ih fun e he=>h e (by simp [he])];rfl
theorem EZ {n:Nat} {ds:List PyData} (h:∀ d∈ds,d.depth<=n):PyData.depthAll ds<=n:=by
 induction ds with
 | nil=>exact Lc _
 | cons d r ih=>show max d.depth (PyData.depthAll r)<=n;have:=h d (by simp);have:=ih fun e he=>h e (by simp [he]);lia
section
variable {ι:Ix} {h:AH} {H:Hp}
theorem nz {f:AV->Option PyData} {n:Nat} (hf:∀ {x:AV} {u:V} {d:PyData},RV T ι H x u->f x=some d->DaV T.K H u d/\d.canLay0=true/\d.depth<=n) :
  ∀ {xs:List AV} {us:List V} {ds:List PyData},RVs T ι H xs us->bT f xs=some ds->DaVs T.K H us ds/\∀ d∈ds,d.canLay0=true/\d.depth<=n
 | _,_,ds,.nil,e=>by cases e;exact ⟨.nil,by simp⟩
 | _,_,ds,.cons (x:=x) (xs:=xs) r rs,e=>by
  unfold bT at e
  split at e
  ·rename_i d ds' e1 e2
   cases e
   obtain ⟨q1,q2⟩:=hf r e1
   obtain ⟨q3,q4⟩:=nz hf rs e2
   refine ⟨.cons q1 q3,fun d hd=>?_⟩
   rcases K6.mp hd with rfl | hd
   ·exact q2
   ·exact q4 d hd
  ·cases e
theorem jK (S:Sim T ι h H):∀ (n:Nat) {x:AV} {u:V} {d:PyData},RV T ι H x u->bW n h x=some d->DaV T.K H u d/\d.canLay0=true/\d.depth<=n
 | 0,x,u,d,r,e=>by
  unfold bW at e
  cases r with
  | non=>cases e;exact ⟨.non,rfl,KC _⟩
  | bl b=>cases e;exact ⟨.bl b,rfl,KC _⟩
  | int b=>cases e;exact ⟨.int b,rfl,KC _⟩
  | str a b=>cases e;exact ⟨.str _,b,KC _⟩
  | _=>cases e
 | n+1,x,u,d,r,e=>by
  unfold bW at e
  have many:∀ {xs:List AV} {us:List V} {ds:List PyData},RVs T ι H xs us->bT (bW n h) xs=some ds->DaVs T.K H us ds/\∀ d∈ds,d.canLay0=true/\d.depth<=n:=fun r e=>nz (fun r e=>jK S n r e) r e
  have fin:∀ {ds:List PyData},(∀ d∈ds,d.canLay0=true/\d.depth<=n)->PyData.canLayAll0 ds=true/\PyData.depthAll ds+1<=n+1:=fun q=>⟨EY fun d hd=>(q d hd).1,Nat.succ_le_succ (EZ fun d hd=>(q d hd).2)⟩
  cases r with
  | non=>cases e;exact ⟨.non,rfl,Lc _⟩
  | bl b=>cases e;exact ⟨.bl b,rfl,Lc _⟩
  | int b=>cases e;exact ⟨.int b,rfl,Lc _⟩
  | str a b=>cases e;exact ⟨.str _,b,Lc _⟩
  | tup k q r =>
   obtain ⟨ds,e1,rfl⟩:=Lf.mp e
   obtain ⟨q1,q2⟩:=many r e1
   exact ⟨.tup (.of q) q1,fin q2⟩
  | fl k q r =>
   obtain ⟨ds,e1,rfl⟩:=Lf.mp e
   obtain ⟨q1,q2⟩:=many r e1
   exact ⟨.lst (.inl q) q1,fin q2⟩
  | kfl q r =>
   obtain ⟨ds,e1,rfl⟩:=Lf.mp e
   obtain ⟨q1,q2⟩:=many r e1
   exact ⟨.lst (.inr q) q1,fin q2⟩
  | @ref k a q =>
   dsimp only at e
   split at e
   ·rename_i ys hk
    obtain ⟨ds,e1,rfl⟩:=Lf.mp e
    obtain ⟨u,e2,us,rfl,r⟩:=S.obj k _ a hk q
    obtain ⟨q1,q2⟩:=many r e1
    exact ⟨.lst (.inl (.inl e2)) q1,fin q2⟩
   ·cases e
  | exc _ _ _=>cases e
end
theorem E1 {i j:Int}:decide (V.int i=V.int j)=decide (i=j):=by rw [LY];simp
theorem E2 {i j:Str}:decide (V.str i=V.str j)=decide (i=j):=by rw [LY];simp
theorem E3 {i j:Bool}:decide (V.bl i=V.bl j)=decide (i=j):=by rw [LY];simp
theorem xZ {r:R2} {neg:Bool} (ho:OpR X g r) (h1:∀ x y H Q,(kO x y=true/\Q (.bl (if neg then !decide (x=y) else decide (x=y))) H)->r x y H Q)
  (h2:∀ x y H Q,(∃ d e,DaV T.K H x d/\DaV T.K H y e/\d.canLay0=true/\e.canLay0=true/\d.depth<=60/\Q (.bl (if neg then !PyData.eqv d e else PyData.eqv d e)) H)->r x y H Q) :
  mr T (fun x y h=>match fW x y h with | some b=>.ok (.bl (if neg then !b else b)) h | none=>.bad) r:=by
 intro ι h H x y u w E Q S rx ry p
 dsimp only at p
 cases hb:fW x y h with
 | none=>rw [hb] at p;exact p.elim
 | some b =>
  rw [hb] at p
  dsimp only at p
  unfold fW at hb
  split at hb
  ·cases hb
   rw [cI rx,cI ry]
   exact h1 _ _ _ _ ⟨rfl,by rw [E1];exact p.now S (.bl _)⟩
  ·cases hb
   obtain ⟨rfl,_⟩:=fC rx
   obtain ⟨rfl,_⟩:=fC ry
   exact h1 _ _ _ _ ⟨rfl,by rw [E2];exact p.now S (.bl _)⟩
  ·cases hb
   rw [iA rx,iA ry]
   exact h1 _ _ _ _ ⟨rfl,by rw [E3];exact p.now S (.bl _)⟩
  ·cases hb
   rw [ny rx,ny ry]
   exact h1 _ _ _ _ ⟨rfl,by rw [show decide (V.non=V.non)=true from rfl];exact p.now S (.bl _)⟩
  ·split at hb
   ·rename_i d e e1 e2
    cases hb
    obtain ⟨q1,q2,q3⟩:=jK S 8 rx e1
    obtain ⟨q4,q5,q6⟩:=jK S 8 ry e2
    exact h2 _ _ _ _ ⟨d,e,q1,q4,q2,q5,by lia,p.now S (.bl _)⟩
   ·cases hb
theorem aM (hK:X.K=T.K) (hu:X.A.units+64<cLine):Op T X (compareOp .Eq) aC :=
 ⟨_,op_eq.or (xF hu),xZ (neg:=false) (op_eq.or (xF hu)) (fun _ _ _ _ q=>.inl q) fun _ _ _ _ q=>.inr (hK▸q)⟩
theorem da (hK:X.K=T.K) (hu:X.A.units+64<cLine):Op T X (compareOp .NotEq) aZ :=
 ⟨_,op_ne.or (xG hu),xZ (neg:=true) (op_ne.or (xG hu)) (fun _ _ _ _ q=>.inl q) fun _ _ _ _ q=>.inr (hK▸q)⟩
theorem dM:Op T X (compareOp .Lt) bz:=by
 refine ⟨_,op_lt.or Cr,fun ι h H x y u w E Q S rx ry p=>?_⟩
 unfold bz at p
 split at p
 ·rw [cI rx,cI ry]
  exact .inl ⟨_,_,rfl,rfl,p.now S (.bl _)⟩
 ·obtain ⟨rfl,_⟩:=fC rx
  obtain ⟨rfl,_⟩:=fC ry
  exact .inr ⟨_,_,rfl,rfl,p.now S (.bl _)⟩
 ·exact p.elim
theorem dO:Op T X (compareOp .LtE) bS:=by
 refine ⟨_,op_le.or Eh,fun ι h H x y u w E Q S rx ry p=>?_⟩
 unfold bS at p
 split at p
 ·rw [cI rx,cI ry]
  exact .inl ⟨_,_,rfl,rfl,p.now S (.bl _)⟩
 ·obtain ⟨rfl,_⟩:=fC rx
  obtain ⟨rfl,_⟩:=fC ry
  exact .inr ⟨_,_,rfl,rfl,p.now S (.bl _)⟩
 ·exact p.elim
theorem fY:Op T X (compareOp .Gt) eY:=by
 refine ⟨_,Cp,fun ι h H x y u w E Q S rx ry p=>?_⟩
 unfold eY at p
 split at p
 ·rw [cI rx,cI ry]
  exact ⟨_,_,rfl,rfl,p.now S (.bl _)⟩
 ·exact p.elim
theorem jL:Op T X (compareOp .GtE) dQ:=by
 refine ⟨_,Cq,fun ι h H x y u w E Q S rx ry p=>?_⟩
 unfold dQ at p
 split at p
 ·rw [cI rx,cI ry]
  exact ⟨_,_,rfl,rfl,p.now S (.bl _)⟩
 ·exact p.elim
theorem RV.non_iff {ι:Ix} {H:Hp} {x:AV} {u:V} (r:RV T ι H x u):decide (x = .non)=decide (u = .non):=by
 exact decide_eq_decide.mpr ⟨fun z=>by subst z;cases r;rfl,fun z=>by subst z;cases r;rfl⟩
theorem pG:Op T X (compareOp .Is) bg:=by
 refine ⟨_,Ct,fun ι h H x y u w E Q S rx ry p=>?_⟩
 unfold bg at p
 split at p
 ·refine ⟨ny ry,?_⟩
  rw [<- rx.non_iff]
  exact p.now S (.bl _)
 ·exact p.elim
theorem E4:Op T X (compareOp .IsNot) je:=by
 refine ⟨_,Cu,fun ι h H x y u w E Q S rx ry p=>?_⟩
 unfold je at p
 split at p
 ·refine ⟨ny ry,?_⟩
  rw [<- rx.non_iff]
  exact p.now S (.bl _)
 ·exact p.elim
theorem gs {op:CmpOp} {f:F2} (ho:Op T X (compareOp op) f) (ha:aU T E X a sa) (hb:aU T E X b sb) (hm:behindInMarks op b=false):aU T E X (.Compare a [op] [b] pos) (ah f sa sb):=by
 obtain ⟨r,h1,h2⟩:=ho
 exact dr (Cv h1 ha hb hm) fun σ H Q q=>two h2 q
theorem aX {op:CmpOp} {f:F2} (ho:Op T X (compareOp op) f) (ha:aU T E X a sa) (hb:aU T E X b sb) (hm:behindInMarks op b=false):gR T E X (.Compare a [op] [b] pos) (aK (ah f sa sb)):=by
 obtain ⟨r,h1,h2⟩:=ho
 refine pA (Cw h1 ha hb hm) fun σ H Q q=>two (E:=E) (Q:=fun x H' => ∃ k,x=V.bl k/\Q k H') h2 ?_
 obtain ⟨ι,h,en,S,er,q⟩:=q
 refine ⟨ι,h,en,S,er,q.bind fun x h1 ι1 H1 u g1 S1 r1 q1=>?_⟩
 split at q1
 ·rw [iA r1]
  exact ⟨_,rfl,q1.now S1 rfl⟩
 ·exact q1.elim
theorem x3 {f f':F2} {r r':R2} (hs:mr T f r) (hs':mr T f' r') {σ:St} {H:Hp} {Q:VK} (q:tE T E (fL f f' sa sb sc) σ H Q):rq r r' (tE T E sa) (tE T E sb) (tE T E sc) σ H Q:=by
 obtain ⟨ι,h,en,S,er,q⟩:=q
 refine ⟨ι,h,en,S,er,q.bind fun x h1 ι1 H1 u g1 S1 r1 q1=>⟨ι1,h1,en,S1,er.mono g1,q1.bind fun y h2 ι2 H2 w g2 S2 r2 q2=>?_⟩⟩
 refine hs ι2 h2 H2 x y u w (E σ) _ S2 (r1.mono g2) r2 (q2.bind fun z h3 ι3 H3 k g3 S3 r3 q3=>?_)
 split at q3
 ·rename_i kk
  rw [iA r3]
  refine ⟨kk,rfl,?_⟩
  by_cases hkk:kk=true
  ·rw [KS hkk] at q3 ⊢
   refine ⟨ι3,h3,en,S3,er.mono (g1.trans (g2.trans g3)),q3.bind fun v h4 ι4 H4 j g4 S4 r4 q4=>?_⟩
   exact hs' ι4 h4 H4 y v w j _ Q S4 (r2.mono (g3.trans g4)) r4 q4
  ·rw [KW hkk] at q3 ⊢
   exact q3.now S3 (.bl _)
 ·exact q3.elim
theorem si {op op':CmpOp} {f f':F2} (ho:Op T X (compareOp op) f) (ho':Op T X (compareOp op') f') (ha:aU T E X a sa) (hb:aU T E X b sb) (hc:aU T E X c sc) (hm:lastMarks [op,op'] [b,c]=false:=by with_unfolding_all rfl) :
  aU T E X (.Compare a [op,op'] [b,c] pos) (fL f f' sa sb sc):=by
 obtain ⟨r,h1,h2⟩:=ho
 obtain ⟨r',h1',h2'⟩:=ho'
 exact dr (Cy h1 h1' ha hb hc hm) fun σ H Q q=>x3 h2 h2' q
theorem pH {op op':CmpOp} {f f':F2} (ho:Op T X (compareOp op) f) (ho':Op T X (compareOp op') f') (ha:aU T E X a sa) (hb:aU T E X b sb) (hc:aU T E X c sc) (hm:lastMarks [op,op'] [b,c]=false:=by with_unfolding_all rfl) :
  gR T E X (.Compare a [op,op'] [b,c] pos) (aK (fL f f' sa sb sc)):=by
 obtain ⟨r,h1,h2⟩:=ho
 obtain ⟨r',h1',h2'⟩:=ho'
 refine pA (Cz h1 h1' ha hb hc hm) fun σ H Q q=>x3 (E:=E) (Q:=fun x H' => ∃ k,x=V.bl k/\Q k H') h2 h2' ?_
 obtain ⟨ι,h,en,S,er,q⟩:=q
 refine ⟨ι,h,en,S,er,q.bind fun x h1 ι1 H1 u g1 S1 r1 q1=>?_⟩
 split at q1
 ·rw [iA r1]
  exact ⟨_,rfl,q1.now S1 rfl⟩
 ·exact q1.elim
theorem E5 {ι:Ix} {h:AH} {H:Hp} {v:AV} {u:V} {k:Bool} (S:Sim T ι h H) (r:RV T ι H v u) (e:kY v h=some k):kP T.K u H k:=by
 unfold kY at e
 cases r with
 | non=>cases e;rfl
 | bl b=>cases e;rfl
 | int b=>cases e;rfl
 | str n o=>cases e;exact ⟨n,rfl⟩
 | tup n q r=>cases e;exact .inr (.inl ⟨_,.of q,by cases r<;>rfl⟩)
 | fl n q r=>cases e;exact .inl ⟨_,.inl q,by cases r<;>rfl⟩
 | kfl q r=>cases e;exact .inl ⟨_,.inr q,by cases r<;>rfl⟩
 | @ref n a q =>
  dsimp only at e
  split at e
  ·rename_i xs hk
   cases e
   obtain ⟨u,e1,us,rfl,r⟩:=S.obj n _ a hk q
   exact .inl ⟨us,.inl (.inl e1),by cases r<;>rfl⟩
  ·rename_i xs hk
   cases e
   obtain ⟨u,e1,us,rfl,r⟩:=S.obj n _ a hk q
   exact .inr (.inr ⟨us,e1,by cases r<;>rfl⟩)
  ·cases e
 | exc _ _ _=>cases e
theorem fg (hK:X.K=T.K) (ha:aU T E X a sa) (he:∀ whole,isTrue a X.env whole=(do let v <- whole;standAt a.pos;holding [v] (truthy v)):=by intro _;rfl):gR T E X a (eK sa) :=
 pA (CH ha he) fun σ H Q ⟨ι,h,en,S,er,q⟩=>⟨ι,h,en,S,er,q.bind fun x h1 ι1 H1 u g1 S1 r1 q1=>by
  split at q1
  ·rename_i b hb
   exact ⟨b,hK▸E5 S1 r1 hb,q1.now S1 rfl⟩
  ·exact q1.elim⟩
variable {ca cb:SB} {rest:List Expr}
theorem gG (ha:gR T E X a ca):gR T E X (.UnaryOp .Not a pos) (cZ ca) :=
 pA (Bt ha) fun σ H Q ⟨ι,h,en,S,er,q⟩=>⟨ι,h,en,S,er,q.bind fun x h1 ι1 H1 u g1 S1 r1 q1=>by subst r1;exact q1.now S1 rfl⟩
theorem cN (h:kW T E X a ca):gR T E X a ca:=PW.pt h
theorem jM (ha:gR T E X a ca):kW T E X (.BoolOp .And [a] pos) ca:=Bp ha
theorem ji (ha:gR T E X a ca):kW T E X (.BoolOp .Or [a] pos) ca:=Bq ha
theorem jO (ha:gR T E X a ca) (hb:kW T E X (.BoolOp .And (b::rest) pos) cb):kW T E X (.BoolOp .And (a::b::rest) pos) (dz ca cb) :=
 xQ (Br ha hb) fun σ H Q ⟨ι,h,en,S,er,q⟩=>⟨ι,h,en,S,er,q.bind fun x h1 ι1 H1 u g1 S1 r1 q1=>by
  subst r1
  by_cases hx:x=true
  ·rw [KS hx] at q1 ⊢
   exact ⟨ι1,h1,en,S1,er.mono g1,q1⟩
  ·rw [KW hx] at q1 ⊢
   exact q1.now S1 rfl⟩
theorem iB (ha:gR T E X a ca) (hb:kW T E X (.BoolOp .Or (b::rest) pos) cb):kW T E X (.BoolOp .Or (a::b::rest) pos) (e7 ca cb) :=
 xQ (Bs ha hb) fun σ H Q ⟨ι,h,en,S,er,q⟩=>⟨ι,h,en,S,er,q.bind fun x h1 ι1 H1 u g1 S1 r1 q1=>by
  subst r1
  by_cases hx:x=true
  ·rw [KS hx] at q1 ⊢
   exact q1.now S1 rfl
  ·rw [KW hx] at q1 ⊢
   exact ⟨ι1,h1,en,S1,er.mono g1,q1⟩⟩
theorem iC {op} (h:aU T E X a sa):aU T E X (.BoolOp op [a] pos) sa:=Bw h
theorem h9 (ha:aU T E X a sa) (hb:aU T E X (.BoolOp .And (b::rest) pos) sb):aU T E X (.BoolOp .And (a::b::rest) pos) (gT sa sb) :=
 dr (Bx ha hb) fun σ H Q ⟨ι,h,en,S,er,q⟩=>⟨ι,h,en,S,er,q.bind fun x h1 ι1 H1 u g1 S1 r1 q1=>by
  split at q1
  ·rename_i kk
   rw [iA r1]
   refine ⟨kk,rfl,?_⟩
   by_cases hkk:kk=true
   ·rw [KS hkk] at q1 ⊢
    exact ⟨ι1,h1,en,S1,er.mono g1,q1⟩
   ·rw [KW hkk] at q1 ⊢
    exact q1.now S1 (.bl _)
  ·exact q1.elim⟩
theorem sj (ha:aU T E X a sa) (hb:aU T E X (.BoolOp .Or (b::rest) pos) sb):aU T E X (.BoolOp .Or (a::b::rest) pos) (nt sa sb) :=
 dr (By ha hb) fun σ H Q ⟨ι,h,en,S,er,q⟩=>⟨ι,h,en,S,er,q.bind fun x h1 ι1 H1 u g1 S1 r1 q1=>by
  split at q1
  ·rename_i kk
   rw [iA r1]
   refine ⟨kk,rfl,?_⟩
   by_cases hkk:kk=true
   ·rw [KS hkk] at q1 ⊢
    exact q1.now S1 (.bl _)
   ·rw [KW hkk] at q1 ⊢
    exact ⟨ι1,h1,en,S1,er.mono g1,q1⟩
  ·exact q1.elim⟩
theorem sk (ha:aU T E X a sa):aU T E X (.UnaryOp .Not a pos) (pB sa) :=
 dr (Bz ha) fun σ H Q ⟨ι,h,en,S,er,q⟩=>⟨ι,h,en,S,er,q.bind fun x h1 ι1 H1 u g1 S1 r1 q1=>by
  split at q1
  ·rw [iA r1]
   exact ⟨_,rfl,q1.now S1 (.bl _)⟩
  ·exact q1.elim⟩
theorem x4 {d:Expr} (hc:gR T E X d ca) (ha:aU T E X a sa) (hb:aU T E X b sb):aU T E X (.IfExp d a b pos) (kZ ca sa sb) :=
 dr (BC hc ha hb) fun σ H Q ⟨ι,h,en,S,er,q⟩=>⟨ι,h,en,S,er,q.bind fun x h1 ι1 H1 u g1 S1 r1 q1=>by
  subst r1
  by_cases hx:x=true
  ·rw [KS hx] at q1 ⊢
   exact ⟨ι1,h1,en,S1,er.mono g1,q1⟩
  ·rw [KW hx] at q1 ⊢
   exact ⟨ι1,h1,en,S1,er.mono g1,q1⟩⟩
variable {es:List Expr} {as:SL}
theorem ar:gS T E X [] ag:=xR wU fun σ H Q ⟨ι,h,en,S,er,q⟩=>q.now S .nil
theorem ak (ha:aU T E X a sa) (hr:gS T E X es as) (hs:starEach (a::es) X.env=(false,eval a X.env)::starEach es X.env:=by rfl):gS T E X (a::es) (aj sa as) :=
 xR (rD ha hr hs) fun σ H Q ⟨ι,h,en,S,er,q⟩=>⟨ι,h,en,S,er,q.bind fun x h1 ι1 H1 u g1 S1 r1 q1=>⟨ι1,h1,en,S1,er.mono g1,q1.bind fun xs h2 ι2 H2 us g2 S2 r2 q2=>q2.now S2 (.cons (r1.mono g2) r2)⟩⟩
theorem fy {k} (h:gS T E X es as):aU T E X (.Tuple es k pos) (bM as) :=
 dr (C9 h) fun σ H Q ⟨ι,h,en,S,er,q⟩=>⟨ι,h,en,S,er,q.bind fun xs h1 ι1 H1 us g1 S1 r1 q1=>by
  split at q1
  ·rename_i hl
   exact ⟨by rw [<- r1.length];exact KN hl (by decide),fun p n=>sf S1 r1 n q1⟩
  ·exact q1.elim⟩
theorem fZ (h:gS T E X es as):aU T E X (.List es pos) (bN as) :=
 dr (wV h) fun σ H Q ⟨ι,h,en,S,er,q⟩=>⟨ι,h,en,S,er,q.bind fun xs h1 ι1 H1 us g1 S1 r1 q1=>by
  split at q1
  ·rename_i hl
   exact ⟨by rw [<- r1.length];exact KN hl (by decide),fun p n=>jI S1 r1 n q1⟩
  ·exact q1.elim⟩
theorem gU (h:gS T E X es as):aU T E X (.List es pos) (eJ as) :=
 dr (wV h) fun σ H Q ⟨ι,h,en,S,er,q⟩=>⟨ι,h,en,S,er,q.bind fun xs h1 ι1 H1 us g1 S1 r1 q1=>by
  split at q1
  ·rename_i hl
   exact ⟨by rw [<- r1.length];exact KN hl (by decide),fun p n=>xW S1 r1 n q1⟩
  ·exact q1.elim⟩
theorem E6:aU T E X (.Dict [] [] pos) (xU true) :=
 dr DZ fun σ H Q ⟨ι,h,en,S,er,q⟩ p n=>q _ _ _ (S.growAdd n) (S.add n ⟨[],rfl,.nil⟩) (.ref S.addAt)
end
end Sm
namespace Sm
open PySem L2
section
variable {T:Tb} {E:St->XK} {X:Cx} {pos:Pos} {a b:Expr} {sa sb:SE} {ca:SB} {st:Stmt} {sts ss1 ss2:List Stmt} {s1 s2:SS}
theorem bu:d8 T E X [] bt:=xS BE fun D σ H ⟨ι,h,en,S,er,q⟩=>q ι H σ S.refl S er
theorem aE (h1:hE T E X st s1) (h2:d8 T E X sts s2):d8 T E X (st::sts) (ao s1 s2) :=
 xS (BF h1 h2) fun D σ H ⟨ι,h,en,S,er,q⟩=>by
  refine ⟨ι,h,en,S,er,?_⟩
  unfold ao at q
  cases e:s1 en h with
  | nx e1 h1 =>
   rw [e] at q
   exact fun ι' H' σ' g S' er' => ⟨ι',h1,e1,S',er',q.shift g⟩
  | rt v h1=>rw [e] at q;exact q
  | bk e1 h1=>rw [e] at q;exact q
  | ct e1 h1=>rw [e] at q;exact q
  | ex c e1 h1=>rw [e] at q;exact q
  | bad=>rw [e] at q;exact q
theorem aH (h1:hE T E X st s1):d8 T E X [st] s1:=BG h1
theorem E7:hE T E X (.Break pos) xV:=iO BI fun D σ H ⟨ι,h,en,S,er,q⟩=>q ι H σ S.refl S er
theorem cJ (ha:aU T E X a sa) (hs:swapsWith a none pos.line X.env=pure false:=by rfl):hE T E X (.Expr a pos) (cG sa) :=
 iO (BK ha hs) fun D σ H ⟨ι,h,en,S,er,q⟩=>⟨ι,h,en,S,er,q.go er fun v h1 ι1 H1 u g1 S1 r1 q1=>q1 ι1 H1 σ S1.refl S1 (er.mono g1)⟩
theorem aL (ha:aU T E X a sa):hE T E X (.Return (some a) pos) (aB sa) :=
 iO (BM ha) fun D σ H ⟨ι,h,en,S,er,q⟩=>⟨ι,h,en,S,er,q.go er fun v h1 ι1 H1 u g1 S1 r1 q1=>q1 ι1 H1 u S1.refl S1 r1⟩
theorem aJ (hc:gR T E X a ca) (h1:d8 T E X ss1 s1) (h2:d8 T E X ss2 s2):hE T E X (.If a ss1 ss2 pos) (bh ca s1 s2) :=
 iO (BN hc h1 h2) fun D σ H ⟨ι,h,en,S,er,q⟩=>⟨ι,h,en,S,er,q.go er fun x h1 ι1 H1 u g1 S1 r1 q1=>by
  subst r1
  by_cases hx:x=true
  ·rw [KS hx] at q1 ⊢
   exact ⟨ι1,h1,en,S1,er.mono g1,q1⟩
  ·rw [KW hx] at q1 ⊢
   exact ⟨ι1,h1,en,S1,er.mono g1,q1⟩⟩
theorem x6 {σ:St} {H:Hp} {D:fA} {i:Nat} (q:tS T E (aF i sa) D σ H):jy (tE T E sa) (oN i) D σ H:=by
 obtain ⟨ι,h,en,S,er,q⟩:=q
 exact ⟨ι,h,en,S,er,q.go er fun v h1 ι1 H1 u g1 S1 r1 q1=>q1 ι1 H1 _ S1.refl S1 ((er.mono g1).set r1 i)⟩
theorem aQ {i:Nat} {x:Str} {p':Pos} (hN:X.N.Nodup) (ha:aU T E X a sa) (hi:X.N[i]? = some x:=by rfl) (hx:ke X.env.scope x:=by first | exact Or.inl rfl | exact Or.inr rfl) (hs:swapsWith a (some (.Name x p')) pos.line X.env=pure false:=by rfl)
  (hf:X.fn x=true\/X.env.scope.names.lookup x=some .local:=by first | exact .inl rfl | exact .inr rfl | assumption):hE T E X (.Assign [.Name x p'] a pos) (aF i sa) :=
 iO (BV hN hi hx ha hs hf) fun D σ H q=>x6 q
theorem mv (n:Nat) (hc:gR T EN X.nox a ca) (hb:d8 T EN X.nox sts s1):hE T E X (.While a sts [] pos) (bU ca s1 n) :=
 iO (xT (BX PassesOwn.never hc hb)) fun D σ H ⟨ι,h,en,S,er,q⟩=>by
  refine ⟨fun m σ H=>∃ ι h en,Sim T ι h H/\ER T ι H en σ/\PostS T ι H E (bU ca s1 m en h) D,⟨n,ι,h,en,S,er,q⟩,?_⟩
  rintro m σ H ⟨ι,h,en,S,er,q⟩
  cases m with
  | zero=>exact (show False from q).elim
  | succ m =>
   unfold bU at q
   refine ⟨ι,h,en,S,er,?_⟩
   cases e:ca en h with
   | bad=>rw [e] at q;exact q
   | ex c h1=>rw [e] at q;exact (show False from q).elim
   | ok x h1 =>
    rw [e] at q
    intro ι1 H1 u g1 S1 r1
    subst r1
    have q1:=PostS.shift q g1
    cases x with
    | true =>
     rw [KS rfl]
     refine ⟨fun σ H=>∃ ι h en,Sim T ι h H/\ER T ι H en σ/\PostS T ι H E (bU ca s1 m en h) D,fun σ' H' w=>⟨m,Nf m,w⟩,ι1,h1,en,S1,er.mono g1,?_⟩
     dsimp only at q1
     cases e2:s1 en h1 with
     | nx e3 h3=>rw [e2] at q1;exact fun ι2 H2 σ2 g2 S2 er2=>⟨ι2,h3,e3,S2,er2,q1.shift g2⟩
     | ct e3 h3=>rw [e2] at q1;exact fun ι2 H2 σ2 g2 S2 er2=>⟨ι2,h3,e3,S2,er2,q1.shift g2⟩
     | bk e3 h3=>rw [e2] at q1;exact q1
     | rt v h3=>rw [e2] at q1;exact q1
     | ex c e3 h3=>rw [e2] at q1;exact (show False from q1).elim
     | bad=>rw [e2] at q1;exact q1
    | false =>
     rw [KW K9]
     exact q1 ι1 H1 σ S1.refl S1 (er.mono g1)
theorem x9 {ι:Ix} {H:Hp}:∀ {is:List Nat} {xs:List AV} {us:List V} {en e:En} {σ:St},RVs T ι H xs us->ER T ι H en σ->pC is xs en=some e->ER T ι H e ((is.zip us).foldl (fun σ p=>σ.set p.1 (some p.2)) σ)/\us.length=is.length
 | [],_,_,en,e,σ,.nil,er,q=>by cases q;exact ⟨er,rfl⟩
 | i::is,_,_,en,e,σ,.cons r rs,er,q=>by
  obtain ⟨h1,h2⟩:=x9 (is:=is) rs (er.set r i) q
  exact ⟨h1,by simp [h2]⟩
 | [],_,_,en,e,σ,.cons r rs,er,q=>by cases q
 | i::is,_,_,en,e,σ,.nil,er,q=>by cases q
def su (T:Tb) (X:Cx) (tg:Expr) (t:Tg):Prop:=∃ g,PG X tg g/\∀ {ι:Ix} {h:AH} {H:Hp} {en e:En} {σ:St} {v:AV} {u:V} {Q:St->Hp->Prop},Sim T ι h H->ER T ι H en σ->RV T ι H v u->dB t v en=some e ->
 (∀ σ',ER T ι H e σ'->Q σ' H)->g u σ H Q
theorem iP {i:Nat} {x:Str} (hN:X.N.Nodup) (hi:X.N[i]? = some x:=by rfl) (hx:ke X.env.scope x:=by first | exact Or.inl rfl | exact Or.inr rfl) (hf:X.fn x=true\/X.env.scope.names.lookup x=some .local:=by first | exact .inl rfl | exact .inr rfl | assumption) :
  su T X (.Name x pos) (.nm i):=⟨_,wH hN hi hx hf,fun S er r e k=>by cases e;exact k _ (er.set r i)⟩
def jP (X:Cx) (es:List Expr) (is:List Nat):Prop:=kL X es (fun vs σ H Q=>vs.length=is.length/\Q ((is.zip vs).foldl (fun σ p=>σ.set p.1 (some p.2)) σ) H)
theorem ya {X:Cx} {es:List Expr} {t t':kf} (h:kL X es t) (k:∀ vs σ H Q,t' vs σ H Q->t vs σ H Q):kL X es t' := fun pins s σ H vs us Q I r q=>h pins s σ H vs us Q I r (k vs σ H Q q)
theorem E8:jP X [] []:=ya BP fun vs σ H Q ⟨l,q⟩=>by
 cases vs with
 | nil=>exact ⟨rfl,q⟩
 | cons=>cases l
theorem yb {i:Nat} {is:List Nat} {x:Str} {p:Pos} {es:List Expr} (hN:X.N.Nodup) (hr:jP X es is) (hi:X.N[i]? = some x:=by rfl) (hx:ke X.env.scope x:=by first | exact Or.inl rfl | exact Or.inr rfl)
  (hf:X.fn x=true\/X.env.scope.names.lookup x=some .local:=by first | exact .inl rfl | exact .inr rfl | assumption) (hs:(assignEach (.Name x p::es) X.env).map (·.2)=assign (.Name x p) X.env::(assignEach es X.env).map (·.2):=by rfl):jP X (.Name x p::es) (i::is) :=
 ya (BQ (wH hN hi hx hf) hr hs) fun vs σ H Q ⟨l,q⟩=>by
  cases vs with
  | nil=>cases l
  | cons v r=>exact ⟨v,r,rfl,Nat.succ.inj l,q⟩
theorem E9 {es:List Expr} {is:List Nat} {k:Nat} (hK:X.K=T.K) (hc:X.calm=true) (h:jP X es is) (hn:(assignEach es X.env).length=is.length:=by rfl) (hst:(assignEach es X.env).findIdx? (·.1)=none:=by rfl):su T X (.Tuple es k pos) (.tup is) :=
 ⟨_,BR hc h hn hst,fun {ι h H en e σ v u Q} S er r q k=>by
  unfold dB at q
  split at q
  ·rename_i hh;cases hh
  ·rename_i hh
   cases hh
   obtain ⟨a,us,rfl,q1,r1⟩:=ki r
   obtain ⟨h1,h2⟩:=x9 r1 er q
   exact ⟨a,us,rfl,hK▸q1,h2,h2,k _ h1⟩
  ·rename_i hh;cases hh
  ·cases q⟩
structure jl (T:Tb) (J:It) (ι:Ix) (H:Hp) (xs:List AV) (w:Option Nat):Prop where
 go:∀ (i:Nat) (ι':Ix) (h':AH) (H':Hp) (x:AV),Ext ι H ι' H'->Sim T ι' h' H'->fM w xs h'=true->xs[i]? = some x->J.go i H'/\∀ u H2,J.yld i H' u H2->Grow ι' H' ι' H2/\Sim T ι' h' H2/\RV T ι' H2 x u
 stop:∀ (i:Nat) (ι':Ix) (h':AH) (H':Hp),Ext ι H ι' H'->Sim T ι' h' H'->fM w xs h'=true->xs.length<=i->J.stop i H'
def tI (T:Tb) (it:SI):TI:=fun σ H R=>∃ ι h en,Sim T ι h H/\ER T ι H en σ/\match it en h with
 | .ok (xs,w) h' => ∀ ι' H' J,Grow ι H ι' H'->Sim T ι' h' H'->jl T J ι' H' xs w->R J H'
 | _=>False
abbrev lA (T:Tb) (X:Cx) (tg iter:Expr) (it:SI):Prop:=PI X tg iter (tI T it)
theorem pI {X:Cx} {tg iter:Expr} {t t':TI} (h:PI X tg iter t) (k:∀ σ H R,t' σ H R->t σ H R):PI X tg iter t' := fun pins s σ H R I q=>h pins s σ H R I (k σ H R q)
theorem PI.or {X:Cx} {tg iter:Expr} {t t':TI} (h:PI X tg iter t) (h':PI X tg iter t'):PI X tg iter (fun σ H R=>t σ H R\/t' σ H R):=fun pins s σ H R I q=>q.elim (h pins s σ H R I) (h' pins s σ H R I)
theorem yc {ι:Ix} {H:Hp} {a:Addr} {us:List V} {xs:List AV} {K:PySem.W.Frag} (keep:∀ (ι':Ix) (H':Hp),Ext ι H ι' H'->SqL K H' a us) (r:RVs T ι H xs us):jl T (oP K a) ι H xs none:=by
 constructor
 ·intro i ι' h' H' x g S _ e
  obtain ⟨u,e1,r1⟩:=(r.ext g).get e
  refine ⟨⟨us,u,keep ι' H' g,e1⟩,?_⟩
  rintro u2 H2 ⟨rfl,y⟩
  have z:=y us (keep ι' _ g)
  rw [e1] at z;cases z
  exact ⟨S.refl,S,r1⟩
 ·intro i ι' h' H' g S _ hl
  exact ⟨us,keep ι' H' g,by rw [<- r.length];exact hl⟩
theorem Fb {ι:Ix} {H:Hp} {a:Addr} {us:List V} {xs:List AV} {K:PySem.W.Frag} (keep:∀ (ι':Ix) (H':Hp),Ext ι H ι' H'->SqT K H' a us) (r:RVs T ι H xs us):jl T (rj K a) ι H xs none:=by
 constructor
 ·intro i ι' h' H' x g S _ e
  obtain ⟨u,e1,r1⟩:=(r.ext g).get e
  refine ⟨⟨us,u,keep ι' H' g,e1⟩,?_⟩
  rintro u2 H2 ⟨rfl,y⟩
  have z:=y us (keep ι' _ g)
  rw [e1] at z;cases z
  exact ⟨S.refl,S,r1⟩
 ·intro i ι' h' H' g S _ hl
  exact ⟨us,keep ι' H' g,by rw [<- r.length];exact hl⟩
theorem Fc {ι:Ix} {H:Hp} {a:Addr} {n:Nat} {xs:List AV} {K:PySem.W.Frag} (e:ι.refs[n]? = some a):jl T (oP K a) ι H xs (some n):=by
 have at_:∀ {ι':Ix} {h':AH} {H':Hp},Ext ι H ι' H'->Sim T ι' h' H'->fM (some n) xs h'=true->∃ us,H' a=some (.lst us)/\RVs T ι' H' xs us:=fun {ι' h' H'} g S l=>by
  unfold fM at l
  dsimp only at l
  split at l
  ·rename_i ys hy
   have z:=On l
   subst z
   obtain ⟨u,e1,us,rfl,r⟩:=S.obj n _ a hy (g.at_ e)
   exact ⟨us,e1,r⟩
  ·cases l
 constructor
 ·intro i ι' h' H' x g S l e
  obtain ⟨us,e0,r⟩:=at_ g S l
  obtain ⟨u,e1,r1⟩:=r.get e
  refine ⟨⟨us,u,.of e0,e1⟩,?_⟩
  rintro u2 H2 ⟨rfl,y⟩
  have z:=y us (.of e0)
  rw [e1] at z;cases z
  exact ⟨S.refl,S,r1⟩
 ·intro i ι' h' H' g S l hl
  obtain ⟨us,e0,r⟩:=at_ g S l
  exact ⟨us,.of e0,by rw [<- r.length];exact hl⟩
theorem Fd {ι:Ix} {H:Hp} {x:Str} (o:x.cps.all (· < 0x110000)=true):jl T (rO x) ι H (x.cps.toList.map fun c=>.str ⟨#[c]⟩) none:=by
 constructor
 ·intro i ι' h' H' y g S _ e
  rw [Lw] at e
  obtain ⟨c,e1,rfl⟩:=Lf.mp e
  have hi:i<x.cps.size:=by
   have:=(Kz.mp e1).1
   simpa using this
  refine ⟨hi,?_⟩
  rintro u H2 ⟨rfl,c',e2,rfl⟩
  have z:x.cps[i]? = some c:=by simpa using e1
  rw [e2] at z;cases z
  refine ⟨S.refl,S,.str (show 1<=sizeLine by decide) ?_⟩
  have m:=Array.mem_of_getElem? e2
  have:=LG.mp o _ m
  simpa using this
 ·intro i ι' h' H' g S _ hl
  show x.cps.size<=i
  simpa using hl
theorem Fe (n:Nat):∀ (lo:Int) (i:Nat),(dh lo n)[i]? = if i<n then some (.int (lo+i)) else none:=by
 induction n with
 | zero=>intro lo i;simp [dh]
 | succ n ih =>
  intro lo i
  cases i with
  | zero=>simp [dh]
  | succ i =>
   show (dh (lo+1) n)[i]? = _
   rw [ih]
   by_cases h:i<n
   ·rw [KS h,KS (by lia)]
    congr 2
    show lo+1+(i:Int)=lo+((i+1:Nat):Int)
    lia
   ·rw [KW h,KW (by lia)]
theorem Ff (n:Nat):∀ lo:Int,(dh lo n).length=n:=by
 induction n with
 | zero=>intro lo;rfl
 | succ n ih=>intro lo;show (dh (lo+1) n).length+1=n+1;rw [ih]
theorem Fg {ι:Ix} {H:Hp} {lo:Int} {n:Nat}:jl T (oQ lo n) ι H (dh lo n) none:=by
 constructor
 ·intro i ι' h' H' y g S _ e
  rw [Fe] at e
  split at e
  ·rename_i hi
   cases e
   refine ⟨hi,?_⟩
   rintro u H2 ⟨rfl,rfl⟩
   exact ⟨S.refl,S,.int _⟩
  ·cases e
 ·intro i ι' h' H' g S _ hl
  rw [Ff] at hl
  exact hl
theorem yd:∀ (xs:List AV) (k i:Nat),(numbered k xs)[i]? = (xs[i]?).map fun x=>.tup [.int ((k+i:Nat):Int),x]
 | [],k,i=>by simp [numbered]
 | x::xs,k,0=>by simp [numbered]
 | x::xs,k,i+1=>by
  show (numbered (k+1) xs)[i]? = _
  rw [yd xs (k+1) i]
  show _=(xs[i]?).map _
  congr 1
  funext y
  rw [show k+1+i=k+(i+1) by lia]
theorem ye:∀ (xs:List AV) (k:Nat),(numbered k xs).length=xs.length
 | [],_=>rfl
 | x::xs,k=>by show (numbered (k+1) xs).length+1=_;rw [ye xs];rfl
theorem Fh {ι:Ix} {H:Hp} {a:Addr} {us:List V} (n:a∉ι.all) (h:Rd H a (.lst us)):∀ (ι':Ix) (H':Hp),Ext ι H ι' H'->SqL T.K H' a us:=fun _ _ g=>.inl (xP g n h)
theorem Fi {ι:Ix} {H:Hp} {a:Addr} {us:List V} (n:a∉ι.all) (h:H a=some (.tup us)):∀ (ι':Ix) (H':Hp),Ext ι H ι' H'->SqT T.K H' a us:=fun _ _ g=>.of (g.keep _ _ n h)
theorem yf {K K':PySem.W.Frag} {H:Hp} {a:Addr} {us:List V} (e:K=K') (h:SqL K' H a us):SqL K H a us:=e▸h
theorem yg {σ:St} {H:Hp} {R:It->Hp->Prop} {ι:Ix} {h h1:AH} {en:En} {v:AV} {xs:List AV} {w:Option Nat} (hK:X.K=T.K) (S:Sim T ι h H) (er:ER T ι H en σ) (e:sa en h = .ok v h1) (hv:(v = .fl xs/\w=none)\/∃ n,v = .ref n/\h1[n]? = some (.lst xs)/\w=some n)
  (q:∀ ι' H' J,Grow ι H ι' H'->Sim T ι' h1 H'->jl T J ι' H' xs w->R J H'):wI X.K (tE T E sa) σ H R:=by
 refine ⟨ι,h,en,S,er,?_⟩
 rw [e]
 intro ι1 H1 u g1 S1 r1
 rcases hv with ⟨rfl,rfl⟩ | ⟨n,rfl,hn,rfl⟩
 ·cases r1 with
  | fl n hr rs=>exact ⟨_,rfl,⟨_,yf hK (.inl hr)⟩,q ι1 H1 _ g1 S1 (hK▸yc (Fh n hr) rs)⟩
  | kfl hr rs=>exact ⟨_,rfl,⟨_,yf hK (.inr hr)⟩,q ι1 H1 _ g1 S1 (hK▸yc (fun _ _ _=>.inr hr) rs)⟩
 ·cases r1 with
  | ref hr =>
   obtain ⟨u,e1,us,rfl,rs⟩:=S1.obj n _ _ hn hr
   exact ⟨_,rfl,⟨_,.of e1⟩,q ι1 H1 _ g1 S1 (Fc hr)⟩
theorem Fj {σ:St} {H:Hp} {R:It->Hp->Prop} {ι:Ix} {h h1:AH} {en:En} {xs:List AV} (hK:X.K=T.K) (S:Sim T ι h H) (er:ER T ι H en σ) (e:sa en h = .ok (.tup xs) h1)
  (q:∀ ι' H' J,Grow ι H ι' H'->Sim T ι' h1 H'->jl T J ι' H' xs none->R J H'):mV X.K (tE T E sa) σ H R:=by
 refine ⟨ι,h,en,S,er,?_⟩
 rw [e]
 intro ι1 H1 u g1 S1 r1
 cases r1 with
 | tup n hr rs=>exact ⟨_,rfl,⟨_,.of hr⟩,q ι1 H1 _ g1 S1 (hK▸Fb (Fi n hr) rs)⟩
theorem jQ {y:Str} {py:Pos} (hK:X.K=T.K) (ha:aU T E X a sa):lA T X (.Name y py) a (bc sa) :=
 pI (PI.or (B4 ha) (PI.or (B5 ha) (D9 ha))) fun σ H R ⟨ι,h,en,S,er,q⟩=>by
  unfold bc at q
  cases e:sa en h with
  | bad=>rw [e] at q;exact q.elim
  | ex c h1=>rw [e] at q;exact q.elim
  | ok v h1 =>
   rw [e] at q
   cases v with
   | fl xs=>exact .inl (yg hK S er e (.inl ⟨rfl,rfl⟩) q)
   | tup xs=>exact .inr (.inl (Fj hK S er e q))
   | str z =>
    refine .inr (.inr ⟨ι,h,en,S,er,?_⟩)
    rw [e]
    intro ι1 H1 u g1 S1 r1
    obtain ⟨rfl,_,o⟩:=fC r1
    exact ⟨_,rfl,q ι1 H1 _ g1 S1 (Fd o)⟩
   | ref n =>
    dsimp only [Out.bind] at q
    cases e2:h1[n]? with
    | none=>rw [e2] at q;exact q.elim
    | some o =>
     rw [e2] at q
     cases o with
     | lst xs=>exact .inl (yg hK S er e (.inr ⟨n,rfl,e2,rfl⟩) q)
     | _=>exact q.elim
   | _=>exact q.elim
theorem mw {tg:Expr} {p:Pos} (hg:Gl X "range") (hm:X.mg "range" = none) (ha:aU T E X a sa) (hs:starEach [a] X.env=[(false,eval a X.env)]:=by rfl):lA T X tg (.Call (.Name "range" p) [a] [] pos) (fN sa) :=
 pI (B8 hg hm (ak ha ar hs) hs) fun σ H R ⟨ι,h,en,S,er,q⟩=>by
  unfold fN at q
  refine ⟨ι,h,en,S,er,?_⟩
  unfold aj
  cases e:sa en h with
  | bad=>rw [e] at q;exact q
  | ex c h1=>rw [e] at q;exact q.elim
  | ok v h1 =>
   rw [e] at q
   intro ι1 H1 u g1 S1 r1
   dsimp only [Out.bind] at q
   cases v with
   | int j =>
    dsimp only at q
    split at q
    ·rename_i hx
     split at hx
     ·rename_i hb
      cases hx
      cases r1 with
      | cons r r' =>
       cases r'
       rw [cI r]
       exact ⟨j,rfl,by omega,by omega,q ι1 H1 _ g1 S1 Fg⟩
     ·cases hx
    ·exact q.elim
   | _=>exact q.elim
theorem yh {α:Type} {xs:List α} {i:Nat} (h:i<xs.length):xs.drop i=xs[i]::xs.drop (i+1):=by simp
theorem iD {tg iter:Expr} {it:SI} {t:Tg} (hc:X.calm=true) (hi:lA T X.nox tg iter it) (hg:su T X.nox tg t) (hb:d8 T EN X.nox sts s1) (hs:∀ x,foldedSetIterable iter X.nox.env x=pure x:=by intro _;rfl) :
  hE T E X (.For tg iter sts [] pos) (bp it t s1):=by
 obtain ⟨g,hg1,hg2⟩:=hg
 refine iO (xT (Cb PassesOwn.never hc hi hg1 hb hs)) fun D σ H ⟨ι,h,en,S,er,q⟩=>⟨ι,h,en,S,er,?_⟩
 unfold bp at q
 cases e:it en h with
 | bad=>rw [e] at q;exact q
 | ex c h1=>rw [e] at q;exact q
 | ok p h1 =>
  obtain ⟨xs,w⟩:=p
  rw [e] at q
  intro ι1 H1 J g1 S1 IR
  refine ⟨fun i m σ H=>m=xs.length-i/\i<=xs.length/\∃ ι' h' en',Grow ι1 H1 ι' H/\Sim T ι' h' H/\ER T ι' H en' σ/\PostS T ι' H E (cH w xs t s1 (xs.drop i) en' h') D,
   ⟨xs.length,by simp,Lc _,ι1,h1,en,S1.refl,S1,er.mono g1,PostS.shift q g1⟩,?_⟩
  rintro i m σ H ⟨rfl,hi,ι',h',en',g',S',er',q'⟩
  by_cases hl:i<xs.length
  ·rw [yh hl] at q'
   unfold cH at q'
   split at q'
   ·rename_i hlive
    obtain ⟨go,yld⟩:=IR.go i ι' h' H xs[i] g'.ext S' hlive (by simp [hl])
    refine .inr ⟨go,fun σ H=>∃ ι' h' en',Grow ι1 H1 ι' H/\Sim T ι' h' H/\ER T ι' H en' σ/\PostS T ι' H E (cH w xs t s1 (xs.drop (i+1)) en' h') D,
     fun σ' H' w' => ⟨xs.length-(i+1),by omega,rfl,hl,w'⟩,fun x H' y=>?_⟩
    obtain ⟨g2,S2,r2⟩:=yld x H' y
    split at q'
    ·rename_i e1 he1
     refine hg2 S2 (er'.mono g2) r2 he1 fun σ' er2=>⟨ι',h',e1,S2,er2,?_⟩
     have q2:=PostS.shift q' g2
     cases e2:s1 e1 h' with
     | nx e3 h3=>rw [e2] at q2;exact fun ι3 H3 σ3 g3 S3 er3=>⟨ι3,h3,e3,g'.trans (g2.trans g3),S3,er3,q2.shift g3⟩
     | ct e3 h3=>rw [e2] at q2;exact fun ι3 H3 σ3 g3 S3 er3=>⟨ι3,h3,e3,g'.trans (g2.trans g3),S3,er3,q2.shift g3⟩
     | bk e3 h3=>rw [e2] at q2;exact q2
     | rt v h3=>rw [e2] at q2;exact q2
     | ex c e3 h3=>rw [e2] at q2;exact (show False from q2).elim
     | bad=>rw [e2] at q2;exact q2
    ·exact (show False from q').elim
   ·exact (show False from q').elim
  ·have ei:i=xs.length:=by omega
   subst ei
   rw [Mq] at q'
   unfold cH at q'
   split at q'
   ·rename_i hlive
    exact .inl ⟨IR.stop _ ι' h' H g'.ext S' hlive (KC _),q' ι' H σ S'.refl S' er'⟩
   ·exact (show False from q').elim
theorem ER.comp {ι:Ix} {H:Hp} {en:En} {σ:St} {x:AV} {u:V} {jf:List (Nat×Str)} (er:ER T ι H en σ) (r:RV T ι H x u):ER T ι H (some x::(jf.map (·.1)).map fun j=>(en[j]?).join) (gr (some u) jf σ):=by
 refine ⟨by simp [gr],fun i v e=>?_⟩
 cases i with
 | zero=>simp at e;subst e;exact ⟨u,rfl,r⟩
 | succ i =>
  simp only [LX,Lw] at e
  unfold gr
  simp only [LX,Lw]
  cases e1:jf[i]? with
  | none=>rw [e1] at e;cases e
  | some j =>
   rw [e1] at e
   simp only [Option.map_some,Option.some.injEq] at e
   have e2:en[j.1]? = some (some v):=by
    cases e3:en[j.1]? with
    | none=>rw [e3] at e;cases e
    | some o=>rw [e3] at e;exact congrArg some e
   obtain ⟨u',e4,r'⟩:=er.2 j.1 v e2
   exact ⟨u',by simp [e4],r'⟩
theorem Fk {jf:List (Nat×Str)} {it:SI} {cc:SB} {ce:SE} {σ:St} {H:Hp} {Q:VK} {ι:Ix} {h:AH} {en:En} (S:Sim T ι h H) (er:ER T ι H en σ)
  (q:match it en h with | .ok (xs,w) h1=>(match eP (jf.map (·.1)) en w xs cc ce xs [] h1 with | .ok ys h2=>∀ ι' H' D vs,Grow ι H ι' H'->Sim T (ι'.hide D) h2 H'->RVs T (ι'.hide D) H' ys vs->H' D=some (.lst vs)->D∉ι'.all->(∀ n,ι'.refs=ι.refs++n->∀ a∈n++[D],H a=none)->Q (.ref D) H' | _=>False) | _=>False) :
  nh jf (tI T it) (tT T EN cc) (tE T EN ce) σ H Q:=by
 refine ⟨ι,h,en,S,er,?_⟩
 cases e:it en h with
 | bad=>rw [e] at q;exact q
 | ex c h1=>rw [e] at q;exact q
 | ok p h1 =>
  obtain ⟨xs,w⟩:=p
  rw [e] at q
  dsimp only at q
  intro ι1 H1 J g1 S1 IR D hD
  refine ⟨fun i m ys H2=>m=xs.length-i/\i<=xs.length/\H2 D=some (.lst ys)/\∃ ι' h' vs,Grow ι1 H1 ι' H2/\Ext ι1 H1 (ι'.hide D) H2/\Sim T (ι'.hide D) h' H2/\ER T (ι'.hide D) H2 en σ/\RVs T (ι'.hide D) H2 vs ys/\D∉ι'.refs /\
   (match eP (jf.map (·.1)) en w xs cc ce (xs.drop i) vs h' with | .ok ys h2=>∀ ι' H' D vs,Grow ι H ι' H'->Sim T (ι'.hide D) h2 H'->RVs T (ι'.hide D) H' ys vs->H' D=some (.lst vs)->D∉ι'.all->(∀ n,ι'.refs=ι.refs++n->∀ a∈n++[D],H a=none)->Q (.ref D) H' | _=>False),?_,?_⟩
  ·exact ⟨xs.length,by simp,Lc _,gD,ι1,h1,[],S1.growNew hD,Ext.hide hD,S1.hide hD,(er.mono g1).ext (Ext.hide hD),.nil,fun z=>S1.fresh hD (Lb _ z),q⟩
  ·rintro i m ys H2 ⟨rfl,hi,hH2,ι',h',vs,g',x',S',er',rv',nD',q'⟩
   refine ⟨hH2,?_⟩
   by_cases hl:i<xs.length
   ·rw [yh hl] at q'
    unfold eP at q'
    by_cases hs:fM w xs h'=true/\vs.length<sizeLine
    ·rw [KS hs] at q'
     obtain ⟨y9,hs2⟩:=hs
     obtain ⟨go,yld⟩:=IR.go i _ h' H2 xs[i] x' S' y9 (by simp [hl])
     refine .inr ⟨go,by rw [<- rv'.length];exact hs2,fun x H3 y=>?_⟩
     obtain ⟨g3,S3,r3⟩:=yld x H3 y
     have er3:=er'.mono g3
     refine ⟨ι'.hide D,h',_,S3,ER.comp er3 r3,?_⟩
     cases ec:cc (some xs[i]::(jf.map (·.1)).map fun j=>(en[j]?).join) h' with
     | bad=>rw [ec] at q';exact q'
     | ex c h5=>rw [ec] at q';exact q'.elim
     | ok bb h5 =>
      rw [ec] at q'
      intro ι5 H5 b5 g5 S5 r5
      subst r5
      have g35:=g3.trans g5
      have hD5:H5 D=some (.lst ys):=g35.keep D _ nD' hH2
      have eι:ι5=Ix.hide ⟨ι5.refs,ι'.priv⟩ D:=by
       have:=g5.priv
       cases ι5
       simp only at this
       subst this
       rfl
      have nD5:D∉ι5.refs:=g35.outR nD' hH2
      have gG5:Grow ι1 H1 ⟨ι5.refs,ι'.priv⟩ H5:=by
       obtain ⟨n,en1,hn⟩:=g'.pre
       obtain ⟨k,ek,hk⟩:=g35.pre
       refine ⟨⟨n++k,?_,fun a ha=>?_⟩,g'.priv,fun a o na ea=>?_,fun a ha=>?_⟩
       ·show ι5.refs=_;rw [ek];show ι'.refs++k=_;rw [en1];simp
       ·rcases Lp.mp ha with z | z
        ·exact hn a z
        ·have z2:=hk a z
         by_cases hr:a∈ι1.refs
         ·exact absurd z2 (g'.live a (Lb _ hr))
         ·cases e9:H1 a with
          | none=>rfl
          | some o=>rw [g'.keep a o hr e9] at z2;cases z2
       ·exact g35.keep a o (g'.outR na ea) (g'.keep a o na ea)
       ·have:a∈(ι'.hide D).all:=by
         rcases Lp.mp ha with z | z
         ·exact Lb _ (by show a∈ι'.refs;rw [en1];exact Lb _ z)
         ·exact K8 _ (KJ _ (by rw [g'.priv];exact z))
        exact g35.live a this
      have x5:Ext ι1 H1 (Ix.hide ⟨ι5.refs,ι'.priv⟩ D) H5:=eι▸x'.trans g35.ext
      have er5:=er3.mono g5
      have rv5:=(rv'.mono g35)
      cases bb with
      | false =>
       rw [KW K9]
       refine ⟨xs.length-(i+1),by omega,rfl,hl,hD5,⟨ι5.refs,ι'.priv⟩,h5,vs,gG5,x5,eι▸S5,eι▸er5,eι▸rv5,nD5,q'⟩
      | true =>
       rw [KS rfl]
       refine ⟨ι5,h5,_,S5,(ER.comp er3 r3).mono g5,?_⟩
       dsimp only at q'
       cases ee:ce (some xs[i]::(jf.map (·.1)).map fun j=>(en[j]?).join) h5 with
       | bad=>rw [ee] at q';exact q'
       | ex c h6=>rw [ee] at q';exact q'.elim
       | ok v h6 =>
        rw [ee] at q'
        intro ι6 H6 u6 g6 S6 r6
        have g56:=g6
        have hD6:H6 D=some (.lst ys):=g56.keep D _ nD5 hD5
        have eι6:ι6=Ix.hide ⟨ι6.refs,ι'.priv⟩ D:=by
         have h1:=g6.priv
         have h2:=g5.priv
         rw [h2] at h1
         cases ι6
         simp only at h1
         subst h1
         rfl
        have nD6:D∉ι6.refs:=g56.outR nD5 hD5
        have gG6:Grow ι1 H1 ⟨ι6.refs,ι'.priv⟩ (aV H6 D (.lst (ys++[u6]))):=by
         obtain ⟨n,en1,hn⟩:=gG5.pre
         obtain ⟨k,ek,hk⟩:=g56.pre
         have hD1:∀ a o,H1 a=some o->a≠D:=fun a o ea=>iz ea hD
         refine ⟨⟨n++k,?_,fun a ha=>?_⟩,g'.priv,fun a o na ea=>?_,fun a ha=>?_⟩
         ·show ι6.refs=_;rw [ek];have z:ι5.refs=ι1.refs++n:=en1;rw [z];simp
         ·rcases Lp.mp ha with z | z
          ·exact hn a z
          ·have z2:=hk a z
           by_cases hr:a∈ι1.refs
           ·exact absurd z2 (gG5.live a (Lb _ hr))
           ·cases e9:H1 a with
            | none=>rfl
            | some o=>rw [gG5.keep a o hr e9] at z2;cases z2
         ·rw [cF (hD1 a o ea)]
          exact g56.keep a o (gG5.outR na ea) (gG5.keep a o na ea)
         ·by_cases zD:a=D
          ·subst zD;rw [gD];simp
          ·rw [cF zD]
           have:a∈ι5.all:=by
            rcases Lp.mp ha with z | z
            ·exact Lb _ (by have z':ι5.refs=ι1.refs++n:=en1;rw [z'];exact Lb _ z)
            ·rw [eι];exact K8 _ (KJ _ (by show a∈ι'.priv;rw [g'.priv];exact z))
           exact g56.live a this
        refine ⟨hD6,xs.length-(i+1),by omega,rfl,hl,gD,⟨ι6.refs,ι'.priv⟩,h6,vs++[v],gG6,?_,?_,?_,?_,nD6,q'⟩
        ·exact (eι6▸(x'.trans (g35.ext.trans g6.ext))).trans Ext.poke
        ·exact Sim.poke (eι6▸S6) nD6
        ·exact ER.ext (eι6▸er5.mono g6) Ext.poke
        ·have:RVs T ι6 H6 (vs++[v]) (ys++[u6]):=(rv5.mono g6).append (.cons r6 .nil)
         exact RVs.ext Ext.poke (eι6▸this)
    ·rw [KW hs] at q';exact q'.elim
   ·have ei:i=xs.length:=by omega
    subst ei
    rw [Mq] at q'
    unfold eP at q'
    by_cases hs:fM w xs h'=true
    ·rw [KS hs] at q'
     have hp:D∉ι'.priv:=fun z=>by rw [g'.priv] at z;exact S1.plive D z hD
     refine .inl ⟨IR.stop _ _ h' H2 x' S' hs (KC _),q' ι' H2 D ys (g1.trans g') S' rv' hH2 (fun z=>(Lp.mp z).elim nD' hp) fun n en1 a ha=>?_⟩
     obtain ⟨k,ek,hk⟩:=(g1.trans g').pre
     have:n=k:=List.append_cancel_left (en1.symm.trans ek)
     subst this
     rcases Lp.mp ha with z | z
     ·exact hk a z
     ·have z':a=D:=by simpa using z
      subst z'
      cases e9:H a with
      | none=>rfl
      | some o =>
       by_cases hr:a∈ι.refs
       ·have z1:a∈ι1.refs:=by
         obtain ⟨k1,ek1,_⟩:=g1.pre
         rw [ek1];exact Lb _ hr
        exact absurd hD (S1.live a (Lb _ z1))
       ·rw [g1.keep a o hr e9] at hD;cases hD
    ·rw [KW hs] at q';exact q'.elim
end
end Sm
namespace Sm
open PySem PySem.Spec L2
section
variable {T:Tb} {E:St->XK} {X:Cx} {pos px:Pos} {iter elt:Expr} {ifs:List Expr} {scope:Scope} {x₁:Str} {jf:List (Nat×Str)} {it:SI} {cc:SB} {ce:SE}
theorem yi {σ:St} {H:Hp} {Q:VK} (q:tE T E (dC (jf.map (·.1)) it cc ce) σ H Q):nh jf (tI T it) (tT T EN cc) (tE T EN ce) σ H Q:=by
 obtain ⟨ι,h,en,S,er,q⟩:=q
 refine Fk S er ?_
 unfold dC at q
 cases e:it en h with
 | bad=>rw [e] at q;exact q
 | ex c h1=>rw [e] at q;exact q.elim
 | ok p h1 =>
  obtain ⟨xs,w⟩:=p
  rw [e] at q
  dsimp only at q ⊢
  cases e2:eP (jf.map (·.1)) en w xs cc ce xs [] h1 with
  | bad=>rw [e2] at q;exact q
  | ex c h1=>rw [e2] at q;exact q.elim
  | ok ys h2 =>
   rw [e2] at q
   exact fun ι' H' D vs g S' r hD nD _=>q ι' H' _ g S'.show (.fl nD (.inl hD) (r.ext Ext.show))
theorem nA:jC X [] (tT T E cq):=fun pins s σ H Q I ⟨ι,h,en,S,er,q⟩=>Eb pins s σ H Q I (q.now S rfl)
theorem Fl {c:Expr} (hc:gR T E X c cc):jC X [c] (tT T E cc):=Ec hc
structure gH (X:Cx) (x₁:Str) (jf:List (Nat×Str)) (scope:Scope):Prop where
 hN:(x₁::jf.map (·.2)).Nodup
 hx:scope.names.lookup x₁=some .local
 hjf:∀ p∈jf,X.N[p.1]? = some p.2
 hjl:∀ p∈jf,scope.names.lookup p.2=some .free
 hkind:scope.kind = .function
 hcell:∀ y∈scope.names,y.2 ≠ .cell
 hfr:∀ y∈scope.names,y.2 = .free->X.env.kindOf y.1=some .cell\/X.env.kindOf y.1=some .free
 hnames:∀ y∈scope.names,y.2 = .local->scope.names.lookup y.1=some .local
theorem yj (C:gH X x₁ jf scope) (hcalm:X.calm=true) (hi:lA T X (.Name x₁ px) iter it) (hc:∀ pins cl s H fp,jC (d7 X pins x₁ jf scope cl s H fp) ifs (tT T EN cc)) (he:∀ pins cl s H fp,aU T EN (d7 X pins x₁ jf scope cl s H fp) elt ce)
  (hs:∀ x,foldedSetIterable iter X.env x=pure x:=by intro _;rfl):aU T E X (.ListComp elt [⟨.Name x₁ px,iter,ifs,0⟩] scope pos) (dC (jf.map (·.1)) it cc ce) :=
 dr (Ee hcalm hi hc he C.hN C.hx C.hjf C.hjl C.hkind C.hcell C.hfr C.hnames hs) fun _ _ _ q=>yi q
theorem pJ {y:Str} {py spos:Pos} {i:Nat} (C:gH X x₁ jf scope) (hcalm:X.calm=true) (hi:lA T X (.Name x₁ px) iter it) (hc:∀ pins cl s H fp,jC (d7 X pins x₁ jf scope cl s H fp) ifs (tT T EN cc)) (he:∀ pins cl s H fp,aU T EN (d7 X pins x₁ jf scope cl s H fp) elt ce)
  (hNX:X.N.Nodup) (hi':X.N[i]? = some y:=by rfl) (hy:X.env.scope.names.lookup y=some .local:=by rfl) (hsw:swapsWith (.ListComp elt [⟨.Name x₁ px,iter,ifs,0⟩] scope pos) (some (.Name y py)) spos.line X.env=pure true:=by rfl) (hs:∀ x,foldedSetIterable iter X.env x=pure x:=by intro _;rfl) :
  hE T E X (.Assign [.Name y py] (.ListComp elt [⟨.Name x₁ px,iter,ifs,0⟩] scope pos) spos) (aF i (dC (jf.map (·.1)) it cc ce)) :=
 iO (Ef hcalm hi hc he C.hN C.hx C.hjf C.hjl C.hkind C.hcell C.hfr C.hnames hNX hi' hy hsw hs) fun D σ H q=>yi (x6 q)
end
def jR (T:Tb) (F:Fn):Sp:=fun vs H Q E=>∃ ι h args,Sim T ι h H/\RVs T ι H args vs/\Post T ι H E (RV T) (F args h) Q
def Fm (F:Fn) (n:Nat):Prop:=∀ args h,args.length≠n->F args h = .bad
theorem yk (n m:Nat) (b:SS):Fm (aI n m b) n:=fun args h hl=>by
 unfold aI
 rw [KW hl]
theorem pK {P:Program} {w:World} {K:PySem.W.Frag} {mg:Str->Option Value} {base:Heap} {T:Tb} {x qual:Str} {st:Stmt} {f:Addr} {fd:FuncData} {N ps:List Str} {k:Nat} {b:SS} (F:Fun K x qual st f fd) (hK:K=T.K) (S:aq N ps (aS st))
  (hbody:∀ (cdv:Value) (A:Around) (outer:List Env) (s:Shared) (H:Hp) (E:XK),Room k (A.deeper (PyProof.Rows.envOfC qual (aS st) s.heap.objs.size f cdv))->CA T (fun _=>E) (cV (dU P w) P w K mg base N qual (aS st) f cdv A outer s H E) ->
   d8 T (fun _=>E) (cV (dU P w) P w K mg base N qual (aS st) f cdv A outer s H E) (jd st) b):FnOk P w K mg base (dU P w) (k+1) f fd ps (jR T (aI ps.length N.length b)):=by
 refine F.okE S (fun vs H Q E h=>?_) (fun cdv A outer s H vs Q E hr h=>?_)
 ·obtain ⟨ι,h,args,_,r,q⟩:=h
  by_cases hl:args.length=ps.length
  ·rw [<- hl,r.length]
  ·rw [yk _ _ _ args h hl] at q;exact q.elim
 ·obtain ⟨ι,h,args,Si,r,q⟩:=h
  refine ⟨_,hbody cdv A outer s H E hr ⟨hK,Ep⟩,ι,h,args.map some++List.replicate (N.length-ps.length) none,Si,?_,?_⟩
  ·by_cases hl:args.length=ps.length
   ·refine ⟨by simp [L2.start,r.length,<- hl],fun i v e=>?_⟩
    unfold L2.start
    by_cases hi:i<args.length
    ·rw [KA (by simpa using hi),Lw] at e
     rw [KA (by simpa [<- r.length] using hi),Lw]
     obtain ⟨x,e1,e2⟩:=Lf.mp e
     cases e2
     obtain ⟨u,e3,r3⟩:=r.get e1
     exact ⟨u,by rw [e3];rfl,r3⟩
    ·rw [Lu (by simpa using hi),My] at e
     split at e
     ·cases e
     ·cases e
   ·rw [yk _ _ _ args h hl] at q;exact q.elim
  ·unfold aI at q
   split at q
   ·split at q
    ·rename_i e1 h1 he
     rw [he]
     exact fun ι' H' σ' g S' er=>q ι' H' _ g S' .non
    ·rename_i v h1 he
     rw [he]
     exact q
    ·rename_i c e1 h1 he
     rw [he]
     exact fun ι' H' σ' C g S' er ec=>q ι' H' C g S' ec
    ·exact q.elim
   ·exact q.elim
structure GF (P:Program) (w:World) (T:Tb) (mg:Str->Option Value) (base:Heap) (k:Nat) (x:Str) (F:Fn):Prop where
 ex:∃ f fd ps,mg x=some (.ref f)/\PySem.W.keepIn T.K (.ref f)=true/\Binds T.K fd ps []/\FnOk P w T.K mg base (dU P w) k f fd ps (jR T F)
structure GM (P:Program) (w:World) (T:Tb) (mg:Str->Option Value) (base:Heap) (k:Nat) (c:Nat) (m:Str) (F:Fn):Prop where
 ex:∃ C f fd ps,T.cls c=some C/\Cls T.K C/\iM T.K C m f/\Binds T.K fd ps []/\FnOk P w T.K mg base (dU P w) k f fd ps (jR T F)
 no:m∉T.fields c
section
variable {T:Tb} {E:St->XK} {X:Cx} {pos p apos:Pos} {e o a:Expr} {es:List Expr} {x m:Str} {F:Fn} {k c:Nat} {as:SL} {so sa:SE}
theorem aO (hK:X.K=T.K) (C:CA T E X) (G:GF X.prog X.w T X.mg X.base k x F) (hr:Room k X.A) (hg:Gl X x) (ha:gS T E X (e::es) as) (hdb:(x == ("__debug__" : Str))=false:=by decide)
  (he:starEach (e::es) X.env=(false,eval e X.env)::starEach es X.env:=by rfl) (hpl:(backTo pos (starEach es X.env)).any (·.1)=false:=by rfl):aU T E X (.Call (.Name x p) (e::es) [] pos) (aG F as):=by
 obtain ⟨f,fd,ps,h1,h2,h3,h4⟩:=G.ex
 refine dr (Eu (Ex:=E) (dvs:=[]) (hK▸h4) hr hg h1 (hK▸h2) (hK▸h3) .nil C.pass ha hdb he hpl) fun σ H Q ⟨ι,h,en,S,er,q⟩=>⟨ι,h,en,S,er,q.bind fun xs h1 ι1 H1 us g1 S1 r1 q1=>?_⟩
 rw [LC]
 exact ⟨ι1,h1,xs,S1,r1,q1⟩
theorem yl {C:Addr} {σ:St} {H:Hp} {Q:VK} (hc:T.cls c=some C) (no:m∉T.fields c) (q:tE T E (aR c F so as) σ H Q):xE C m (jR T F) [] E (tE T E so) (tA T E as) σ H Q:=by
 obtain ⟨ι,h,en,S,er,q⟩:=q
 refine ⟨ι,h,en,S,er,q.bind fun x h1 ι1 H1 u g1 S1 r1 q1=>?_⟩
 split at q1
 ·rename_i n
  split at q1
  ·rename_i c' fs hn
   split at q1
   ·rename_i ec
    subst ec
    cases r1 with
    | @ref _ a hr =>
     obtain ⟨o,e1,C',dx,fus,hC,rfl,nd,hw,hl,_⟩:=S1.obj n _ a hn hr
     rw [hc] at hC;cases hC
     refine ⟨a,dx,fus,rfl,e1,?_,ι1,h1,en,S1,er.mono g1,q1.bind fun xs h2 ι2 H2 us g2 S2 r2 q2=>?_⟩
     ·cases e:fus.lookup m with
      | none=>rfl
      | some v =>
       have:=LV e
       exact absurd (hw _ this) no
     ·rw [LC]
      exact ⟨ι2,h2,.ref n::xs,S2,.cons (.ref (g2.at hr)) r2,q2⟩
   ·exact q1.elim
  ·exact q1.elim
 ·exact q1.elim
theorem bw {pl:Sem Bool} (hK:X.K=T.K) (CC:CA T E X) (G:GM X.prog X.w T X.mg X.base k c m F) (hr:Room k X.A) (ho:aU T E X o so) (ha:gS T E X (e::es) as)
  (hst:starEach (e::es) X.env=(false,eval e X.env)::starEach es X.env:=by rfl) (hpl:(backTo pos (starEach es X.env)).any (·.1)=false:=by rfl)
  (ht:eval (.Call (.Attribute o m apos) (e::es) [] pos) X.env=(do
   let ov <- eval o X.env
   standAt apos.atName
   let (f,first) <- holding [ov] (getMethod ov m pl)
   callWith pos f first (backTo pos (starEach (e::es) X.env)) (backToKw pos (keywordEach [] X.env))):=by rfl):aU T E X (.Call (.Attribute o m apos) (e::es) [] pos) (aR c F so as):=by
 obtain ⟨C,f,fd,ps,h1,h2,h3,h4,h5⟩:=G.ex
 exact dr (Ew (Ex:=E) (dvs:=[]) (pl:=pl) ho (hK▸h2) (hK▸h3) (hK▸h5) hr (hK▸h4) .nil CC.pass ha hst hpl ht) fun σ H Q q=>yl h1 G.no q
theorem mz {pl:Sem Bool} (hK:X.K=T.K) (CC:CA T E X) (G:GM X.prog X.w T X.mg X.base k c m F) (hr:Room k X.A) (ho:aU T E X o so)
  (ht:eval (.Call (.Attribute o m apos) [] [] pos) X.env=(do
   let ov <- eval o X.env
   standAt apos.atName
   let (f,first) <- holding [ov] (getMethod ov m pl)
   callWith pos f first (backTo pos (starEach [] X.env)) (backToKw pos (keywordEach [] X.env))):=by rfl):aU T E X (.Call (.Attribute o m apos) [] [] pos) (aR c F so ag):=by
 obtain ⟨C,f,fd,ps,h1,h2,h3,h4,h5⟩:=G.ex
 intro pins s σ H Q I q
 have q' := yl (C:=C) h1 G.no q
 refine NG (pl:=pl) (thn (ho pins s σ H _ I q') fun u s1 ⟨x,H1,I1,rx,a,dx,fs,ex,ea,l,q⟩=>?_) ht
 subst ex
 obtain rfl:u=Value.ref a:=rx
 refine wR I1 ea (hK▸h2) (hK▸h3) l ?_
 obtain ⟨ι,h,en,S,er,q⟩:=q
 refine NU (first:=[.ref a]) I1.kIn (hK▸h3.kp) (rW (dvs:=[]) (us:=[.ref a]) (vs:=[.ref a]) (hK▸h5) hr (hK▸h4) .nil CC.pass I1 (.cons rfl .nil) (q.now S .nil))
structure CF (T:Tb) (c:Nat):Prop where
 ex:∃ C,T.cls c=some C/\Cls T.K C/\∀ f∈T.fields c,NoAttr T.K C f
structure GK (P:Program) (w:World) (T:Tb) (mg:Str->Option Value) (base:Heap) (k:Nat) (c:Nat) (x:Str) (F:Fn):Prop where
 ex:∃ C f fd ps,T.cls c=some C/\mg x=some (.ref C)/\Mk T.K C f/\Binds T.K fd ps []/\FnOk P w T.K mg base (dU P w) k f fd ps (jR T F)
theorem Fo {CX:gF} {C f:Addr} {fd:FuncData} {ps:List Str} {sp:Sp} {dvs:List V} {ds:List Value} {pins:List (Addr×Obj)} {σ:St} {H:Hp} {s:Shared} {Q:VK} {us:List Value} {vs:List V} (M:Mk X.K C f) (F:FnOk X.prog X.w X.K X.mg X.base CX k f fd ps sp) (hr:Room (k+1) X.A) (hb:Binds X.K fd ps ds) (hd:Vals dvs ds)
  (hx:ni CX X E) (I:L2.Inv X pins σ H s) (r:Vals vs us)
  (h:∀ x dx,H x=none->H dx=none->dx≠x->sp (.ref x::(vs++dvs)) (aV (aV H dx (.own x)) x (.ins C dx [])) (fun v H2=>v = .non/\Q (.ref x) H2) (E σ)) :
  wpAny (model X.prog X.w) X.A (call (.ref C) us) (EP X pins σ Q) X.xe s:=by
 have hq:=h (s.heap.objs.size+1) s.heap.objs.size (I.hok.fresh (M4 _)) (I.hok.fresh (KC _)) (Lv (Nf _))
 have I2:=Inv.made (C:=C) I
 have r2:Vals (V.ref (s.heap.objs.size+1)::(vs++dvs)) (Value.ref (s.heap.objs.size+1)::(us++ds)):=.cons rfl (r.append hd)
 have hl:(Value.ref (s.heap.objs.size+1)::us++ds).length=ps.length:=by
  have e:=r2.length
  rw [F.len _ _ _ _ hq] at e
  exact e.symm
 refine wpAny_call (CU (f:=f) I.kIn M.makes M.init (beq_iff_eq.mp M.fn) (Ny (F.run _ X.stack _ _ ⟨Value.ref (s.heap.objs.size+1)::us,[]⟩ (Value.ref (s.heap.objs.size+1)::(us++ds)) _ _ (E σ) (hr.make C us [])
  (I2.env0.make C us []) (hb _ (Value.ref (s.heap.objs.size+1)::us) I2.kIn hl) r2 hq) fun r s' hq' => ?_))
 cases r with
 | error e=>exact hx pins σ _ _ e s' I2 hq'
 | ok fl =>
  cases fl with
  | ret u =>
   obtain ⟨v,H',I3,rv,ev,q3⟩:=I2.after hq'
   subst ev
   exact ⟨rv,⟨V.ref (s.heap.objs.size+1),H',I3,rfl,q3⟩⟩
  | next=>exact False.elim hq'
  | brk=>exact False.elim hq'
  | cont=>exact False.elim hq'
theorem Fp {C:Addr} {xs:List AV} {us:List V} {H:Hp} {Q:VK} {ι:Ix} {h:AH} {E:XK} {n:Nat} (hc:T.cls c=some C) (hn:(T.fields c).length=n) (S:Sim T ι h H) (r:RVs T ι H xs us)
  (q:Post T ι H E (RV T) (match F (.ref h.length::xs) (h++[.ins c (List.replicate n none)]) with | .ok .non h2=>Out.ok (AV.ref h.length) h2 | .ex c h2=>.ex c h2 | _=>.bad) Q) :
  ∀ x dx,H x=none->H dx=none->dx≠x->jR T F (.ref x::us) (aV (aV H dx (.own x)) x (.ins C dx [])) (fun v H2=>v = .non/\Q (.ref x) H2) E:=by
 intro x dx nx ndx ne
 have nx':(aV H dx (.own x)) x=none:=by rw [cF (Ne.symm ne)];exact nx
 have S1:=S.new (o:=.own x) ndx
 have g1:=S.growNew (o:=.own x) ndx
 have g2:=S1.growAdd (u:=.ins C dx []) nx'
 have S2:Sim T (ι.add x) (h++[.ins c (List.replicate n none)]) (aV (aV H dx (.own x)) x (.ins C dx [])):=S1.add nx' ⟨C,dx,[],hc,rfl,by simp,by simp,by simp [hn],fun i v e=>by
  rw [My] at e
  split at e
  ·cases e
  ·cases e⟩
 refine ⟨ι.add x,_,.ref h.length::xs,S2,.cons (.ref S.addAt) (r.mono (g1.trans g2)),?_⟩
 have q2:=q.shift (g1.trans g2)
 cases e:F (.ref h.length::xs) (h++[.ins c (List.replicate n none)]) with
 | bad=>rw [e] at q2;exact q2
 | ex c' h2=>rw [e] at q2;exact q2
 | ok v h2 =>
  rw [e] at q2
  cases v with
  | non=>exact fun ι' H' u g S' r' => ⟨ny r',q2 ι' H' _ g S' (.ref (g.at S.addAt))⟩
  | _=>exact (show False from q2).elim
theorem Fq {n:Nat} (hK:X.K=T.K) (CC:CA T E X) (G:GK X.prog X.w T X.mg X.base k c x F) (hr:Room (k+1) X.A) (hg:Gl X x) (hn:(T.fields c).length=n:=by rfl) (hdb:(x == ("__debug__" : Str))=false:=by decide):aU T E X (.Call (.Name x p) [] [] pos) (pD c n F ag):=by
 obtain ⟨C,f,fd,ps,h1,h2,h3,h4,h5⟩:=G.ex
 intro pins s σ H Q I ⟨ι,h,en,S,er,q⟩
 refine Mx (oM I hg h2 ?_ hdb)
 have M:Mk X.K C f:=hK▸h3
 exact NU I.kIn M.kp (Fo (us:=[]) (vs:=[]) (dvs:=[]) M (hK▸h5) hr (hK▸h4) .nil CC.pass I .nil (Fp h1 hn S .nil q))
theorem cy {i:Nat} {f:Str} (hK:X.K=T.K) (CFc:CF T c) (ho:aU T E X o so) (hf:(T.fields c)[i]? = some f:=by rfl) (hb:attributeBase o f X.env (eval o X.env)=eval o X.env:=by rfl):aU T E X (.Attribute o f pos) (Sm.sFld c i so):=by
 obtain ⟨C,hC,hcl,hna⟩:=CFc.ex
 refine dr (C2 ho hb) fun σ H Q ⟨ι,h,en,S,er,q⟩=>⟨ι,h,en,S,er,q.bind fun x h1 ι1 H1 u g1 S1 r1 q1=>?_⟩
 split at q1
 ·rename_i n
  split at q1
  ·rename_i c' fs hn
   split at q1
   ·rename_i ec
    subst ec
    split at q1
    ·rename_i v hv
     cases r1 with
     | @ref _ a hr =>
      obtain ⟨o,e1,C',dx,fus,hC',rfl,nd,hw,hl,hr2⟩:=S1.obj n _ a hn hr
      rw [hC] at hC';cases hC'
      obtain ⟨f',u,e2,e3,r3⟩:=hr2 i v hv
      rw [hf] at e2;cases e2
      exact ⟨a,_,dx,fus,u,rfl,e1,hK▸hcl,hK▸hna f (Ld hf),e3,q1.now S1 r3⟩
    ·exact q1.elim
   ·exact q1.elim
  ·exact q1.elim
 ·exact q1.elim
theorem ym (f:Str) (v:V):∀ {fs:List (Str×V)},(fs.map (·.1)).Nodup->((cx f v fs).map (·.1)).Nodup/\∀ g,g∈(cx f v fs).map (·.1)->g=f\/g∈fs.map (·.1)
 | [],_=>by simp [cx]
 | (g,x)::r,n=>by
  obtain ⟨n1,n2⟩:=LD.mp (show (g::r.map (·.1)).Nodup from n)
  unfold cx
  split
  ·rename_i e
   subst e
   exact ⟨n,fun k hk=>.inr hk⟩
  ·rename_i e
   obtain ⟨h1,h2⟩:=ym f v (fs:=r) n2
   refine ⟨LD.mpr ⟨fun z=>?_,h1⟩,fun k hk=>?_⟩
   ·rcases h2 g z with z | z
    ·exact e z
    ·exact n1 z
   ·rcases K6.mp hk with z | z
    ·exact .inr (by rw [z];simp)
    ·rcases h2 k z with z | z
     ·exact .inl z
     ·exact .inr (KJ _ z)
theorem yn:∀ {l m:List Str},l.Nodup->(∀ x∈l,x∈m)->l.length<=m.length
 | [],m,_,_=>Lc _
 | x::l,m,n,h=>by
  obtain ⟨n1,n2⟩:=LD.mp n
  have hx:=h x (by simp)
  have:=yn (l:=l) (m:=m.erase x) n2 fun y hy=>by
   have ne:y≠x:=fun z=>n1 (z▸hy)
   exact (List.mem_erase_of_ne ne).mpr (h y (by simp [hy]))
  rw [List.length_erase_of_mem hx] at this
  have:0<m.length:=List.length_pos_of_mem hx
  simp only [KO]
  lia
theorem km {i:Nat} {f:Str} {p':Pos} (hK:X.K=T.K) (CFc:CF T c) (ho:aU T E X o so) (ha:aU T E X a sa) (hf:(T.fields c)[i]? = some f:=by rfl) (hs:swapsWith a (some (.Attribute o f p')) pos.line X.env=pure false:=by rfl) :
  hE T E X (.Assign [.Attribute o f p'] a pos) (jG c i so sa):=by
 obtain ⟨C,hC,hcl,hna⟩:=CFc.ex
 refine iO (C3 ho ha hs) fun D σ H ⟨ι,h,en,S,er,q⟩=>⟨ι,h,en,S,er,q.go er fun y h1 ι1 H1 v g1 S1 r1 q1=>⟨ι1,h1,en,S1,er.mono g1,q1.go (er.mono g1) fun x h2 ι2 H2 u g2 S2 r2 q2=>?_⟩⟩
 split at q2
 ·rename_i n
  split at q2
  ·rename_i c' fs hn
   split at q2
   ·rename_i ec
    subst ec
    cases r2 with
    | @ref _ a hr =>
     obtain ⟨o,e1,C',dx,fus,hC',rfl,nd,hw,hl,hr2⟩:=S2.obj n _ a hn hr
     rw [hC] at hC';cases hC'
     have hmem:f∈T.fields c' := Ld hf
     have hlen:fus.length<1000:=by
      have:=yn nd (m:=T.fields c') (fun x hx=>by
       obtain ⟨p,hp,rfl⟩:=MD.mp hx
       exact hw p hp)
      have:=T.few c'
      rw [K4] at *
      lia
     obtain ⟨k1,k2⟩:=ym f v nd
     have g3:=S2.growSet (u:=.ins C dx (cx f v fus)) hr
     refine ⟨a,C,dx,fus,rfl,e1,hK▸hcl,hK▸hna f hmem,hlen,q2 ι2 _ σ g3 (S2.set hr ⟨C,dx,cx f v fus,hC,rfl,k1,fun p hp=>?_,by simp [hl],fun j w hj=>?_⟩) (er.mono (g1.trans (g2.trans g3)))⟩
     ·rcases k2 p.1 (MD.mpr ⟨p,hp,rfl⟩) with z | z
      ·rw [z];exact hmem
      ·obtain ⟨p',hp',e⟩:=MD.mp z
       rw [<- e];exact hw p' hp'
     ·by_cases hji:j=i
      ·subst hji
       have hjl:j<fs.length:=by
        have:=(Kz.mp hj).1
        simpa using this
       rw [KG hjl] at hj
       cases hj
       exact ⟨f,v,hf,by rw [oV,KS rfl],r1.mono (g2.trans g3)⟩
      ·rw [KM (Ne.symm hji)] at hj
       obtain ⟨f',u,e2,e3,r3⟩:=hr2 j w hj
       have ne:f'≠f:=fun z=>hji (qQ (T.nd c') e2 (z▸hf))
       exact ⟨f',u,e2,by rw [oV,KW ne];exact e3,r3.mono g3⟩
   ·exact (show False from q2).elim
  ·exact (show False from q2).elim
 ·exact (show False from q2).elim
end
end Sm
namespace Sm
open PySem PySem.Spec L2
theorem sv {T:Tb} {ι:Ix} {H:Hp} {k:bo} {u:V} (r:RV T ι H (kA k) u):u=kV k:=by
 cases k with
 | inl i=>exact cI r
 | inr x=>exact (fC r).1
theorem sC {k j:bo} (e:kA k=kA j):k=j:=by
 cases k<;>cases j<;>simp [kA] at e<;>simp [e]
theorem sD:∀ {ks js:List bo},ks.map kA=js.map kA->ks=js
 | [],[],_=>rfl
 | [],_::_,e=>by simp at e
 | _::_,[],e=>by simp at e
 | k::ks,j::js,e=>by
  simp only [Ls,List.cons.injEq] at e
  rw [sC e.1,sD e.2]
theorem yo {T:Tb} {ι:Ix} {H:Hp}:∀ {ks:List bo} {us:List V},RVs T ι H (ks.map kA) us->us=ks.map kV
 | [],_,.nil=>rfl
 | k::ks,_,.cons r rs=>by rw [sv r,yo rs];rfl
theorem sE {v:AV} {k:bo} (e:keyOf? v=some k):v=kA k:=by
 unfold keyOf? at e
 split at e<;>cases e<;>rfl
theorem pL:∀ {vs:List AV} {ks:List bo},keysOf? vs=some ks->vs=ks.map kA
 | [],_,e=>by cases e;rfl
 | v::vs,ks,e=>by
  unfold keysOf? at e
  split at e
  ·rename_i k ks' e1 e2
   cases e
   rw [sE e1,pL e2];rfl
  ·cases e
theorem pM {κ:Type} [DecidableEq κ] {T:Tb} {ι:Ix} {H:Hp} {f:κ->AV} (hf:∀ {a b},f a=f b->a=b) {k:κ}:∀ {kvs:List (AV×AV)} {kus:List (κ×V)},Paired (fun (p:AV×AV) (q:κ×V)=>p.1=f q.1/\RV T ι H p.2 q.2) kvs kus ->
  (bZ kvs (f k)=none/\cW kus k=none)\/∃ v u,bZ kvs (f k)=some v/\cW kus k=some u/\RV T ι H v u
 | _,_,.nil=>.inl ⟨rfl,rfl⟩
 | (a,v)::kvs,(j,u)::kus,.cons ⟨e,r⟩ rs=>by
  by_cases h:j=k
  ·subst h
   replace e:a=f j:=e
   subst e
   exact .inr ⟨v,u,by simp [bZ],oZ rfl,r⟩
  ·have h' : ¬ a=f k:=fun z=>h (hf (e.symm.trans z))
   rcases pM hf rs (k:=k) with ⟨h1,h2⟩ | ⟨v',u',h1,h2,h3⟩
   ·refine .inl ⟨?_,by rw [m7 h];exact h2⟩
    unfold bZ at h1 ⊢
    rw [LJ,KD h']
    exact h1
   ·refine .inr ⟨v',u',?_,by rw [m7 h];exact h2,h3⟩
    unfold bZ at h1 ⊢
    rw [LJ,KD h']
    exact h1
theorem yp {kvs:List (AV×AV)} {k:AV}:(kvs.any fun p=>decide (p.1=k))=(bZ kvs k).isSome:=by
 induction kvs with
 | nil=>rfl
 | cons p r ih =>
  unfold bZ at ih ⊢
  rw [Mv,LJ,ih]
  cases h:decide (p.1=k)<;>simp
theorem yq {κ:Type} [DecidableEq κ] {T:Tb} {ι:Ix} {H:Hp} {f:κ->AV} (hf:∀ {a b},f a=f b->a=b) {k:κ} {v:AV} {u:V} (rv:RV T ι H v u) {kvs:List (AV×AV)} {kus:List (κ×V)} (r:Paired (fun (p:AV×AV) (q:κ×V)=>p.1=f q.1/\RV T ι H p.2 q.2) kvs kus) :
  Paired (fun (p:AV×AV) (q:κ×V)=>p.1=f q.1/\RV T ι H p.2 q.2) (hJ kvs (f k) v) (cX kus k u):=by
 have e:(kvs.any fun p=>decide (p.1=f k))=kus.any fun kv=>decide (kv.1=k):=by
  rw [yp,rM]
  rcases pM hf r (k:=k) with ⟨h1,h2⟩ | ⟨v',u',h1,h2,h3⟩
  ·rw [h1,h2];rfl
  ·rw [h1,h2];rfl
 unfold hJ cX
 rw [e]
 by_cases h:(kus.any fun kv=>decide (kv.1=k))=true
 ·rw [KS h,KS h]
  clear e h
  induction r with
  | nil=>exact .nil
  | cons p rs ih =>
   rename_i a b l1 l2
   refine .cons ?_ ih
   obtain ⟨e1,r1⟩:=p
   dsimp only
   by_cases hk:b.1=k
   ·rw [KS hk,KS (by rw [e1,hk])]
    exact ⟨e1,rv⟩
   ·rw [KW hk,KW (fun z=>hk (hf (e1.symm.trans z)))]
    exact ⟨e1,r1⟩
 ·rw [KW h,KW h]
  have app:∀ {l1:List (AV×AV)} {l2:List (κ×V)},Paired (fun (p:AV×AV) (q:κ×V)=>p.1=f q.1/\RV T ι H p.2 q.2) l1 l2->Paired (fun (p:AV×AV) (q:κ×V)=>p.1=f q.1/\RV T ι H p.2 q.2) (l1++[(f k,v)]) (l2++[(k,u)]):=fun z=>by
   induction z with
   | nil=>exact .cons ⟨rfl,rv⟩ .nil
   | cons p _ ih=>exact .cons p ih
  exact app r
section
variable {T:Tb} {ι:Ix} {h:AH} {H:Hp}
theorem nB {xs:List AV} {u:V} {ks:List bo} (r:RV T ι H (.tup xs) u) (e:keysOf? xs=some ks):∃ b,u = .ref b/\KTup H b ks:=by
 have:=pL e
 subst this
 cases r with
 | tup n q r=>exact ⟨_,rfl,.of (by rw [<- yo r];exact q)⟩
theorem yr {n:Nat} {t:Bool} {kvs:List (AV×AV)} {y:AV} {a:Addr} {w:V} (S:Sim T ι h H) (hn:h[n]? = some (.dct t kvs)) (hr:ι.refs[n]? = some a) (ry:RV T ι H y w) (hk:jH t y=true) :
  ∃ o,DGet H a w o/\((bZ kvs y=none/\o=none)\/∃ v u,bZ kvs y=some v/\o=some u/\RV T ι H v u):=by
 obtain ⟨ob,e1,r⟩:=S.obj n _ a hn hr
 cases t with
 | false =>
  obtain ⟨kus,rfl,r⟩:=r
  have hk':(keyOf? y).isSome=true:=hk
  obtain ⟨k,ek⟩:=Lk.mp hk'
  have:=sE ek
  subst this
  rw [sv ry]
  refine ⟨cW kus k,.k e1,?_⟩
  rcases pM sC r (k:=k) with ⟨h1,h2⟩ | ⟨v',u',h1,h2,h3⟩
  ·exact .inl ⟨h1,h2⟩
  ·exact .inr ⟨v',u',h1,h2,h3⟩
 | true =>
  obtain ⟨kus,rfl,r⟩:=r
  unfold jH at hk
  split at hk
  ·rename_i hh;cases hh
  ·rename_i xs hh
   obtain ⟨ks,ek⟩:=Lk.mp hk
   obtain ⟨b,rfl,hb⟩:=nB ry ek
   have:=pL ek
   subst this
   refine ⟨cW kus ks,.t e1 hb,?_⟩
   rcases pM (f:=fun ks:List bo=>AV.tup (ks.map kA)) (fun e=>sD (by injection e)) r (k:=ks) with ⟨h1,h2⟩ | ⟨v',u',h1,h2,h3⟩
   ·exact .inl ⟨h1,h2⟩
   ·exact .inr ⟨v',u',h1,h2,h3⟩
  ·cases hk
theorem Ft {n:Nat} {t:Bool} {kvs:List (AV×AV)} {y z:AV} {a:Addr} {w u:V} (S:Sim T ι h H) (hn:h[n]? = some (.dct t kvs)) (hr:ι.refs[n]? = some a) (ry:RV T ι H y w) (rz:RV T ι H z u) (hk:jH t y=true) (hl:kvs.length<sizeLine) :
  ∃ H',DPut H a w u H'/\Grow ι H ι H'/\Sim T ι (h.set n (.dct t (hJ kvs y z))) H' := by
 obtain ⟨ob,e1,r⟩:=S.obj n _ a hn hr
 cases t with
 | false =>
  obtain ⟨kus,rfl,r⟩:=r
  have hk':(keyOf? y).isSome=true:=hk
  obtain ⟨k,ek⟩:=Lk.mp hk'
  have:=sE ek
  subst this
  rw [sv ry]
  have g:=S.growSet (u:=.dK (cX kus k u)) hr
  exact ⟨_,.k e1 (by rw [<- Paired.length r];exact hl),g,S.set hr ⟨_,rfl,yq sC (rz.mono g) (Paired.mapP r fun _ _ ⟨p,q⟩=>⟨p,q.mono g⟩)⟩⟩
 | true =>
  obtain ⟨kus,rfl,r⟩:=r
  unfold jH at hk
  split at hk
  ·rename_i hh;cases hh
  ·rename_i xs hh
   obtain ⟨ks,ek⟩:=Lk.mp hk
   obtain ⟨b,rfl,hb⟩:=nB ry ek
   have:=pL ek
   subst this
   have g:=S.growSet (u:=.dT (cX kus ks u)) hr
   exact ⟨_,.t e1 hb (by rw [<- Paired.length r];exact hl),g,S.set hr ⟨_,rfl,yq (f:=fun ks:List bo=>AV.tup (ks.map kA)) (fun e=>sD (by injection e)) (rz.mono g) (Paired.mapP r fun _ _ ⟨p,q⟩=>⟨p,q.mono g⟩)⟩⟩
  ·cases hk
theorem RVs.atI {xs:List AV} {us:List V} {i:Int} {v:AV} (r:RVs T ι H xs us) (e:atI xs i=some v):∃ u,L2.atI us i=some u/\RV T ι H v u:=by
 unfold L2.atI at e ⊢
 rw [<- r.length]
 obtain ⟨j,e1,e2⟩:=Mz.mp e
 obtain ⟨u,e3,r3⟩:=r.get e2
 exact ⟨u,by rw [e1];exact e3,r3⟩
end
section
variable {T:Tb} {E:St->XK} {X:Cx} {pos:Pos} {a b c:Expr} {sa sb sc:SE}
theorem Fu {e:Expr} {t t':TE} (h:PE X e t) (h':PE X e t'):PE X e (fun σ H Q=>t σ H Q\/t' σ H Q):=fun pins s σ H Q I q=>q.elim (h pins s σ H Q I) (h' pins s σ H Q I)
theorem Fv {e:Stmt} {t t':TS} (h:PS X e t) (h':PS X e t'):PS X e (fun D σ H=>t D σ H\/t' D σ H):=fun pins s σ H Q I q=>q.elim (h pins s σ H Q I) (h' pins s σ H Q I)
theorem aA (hK:X.K=T.K) (hu:X.A.units+64<cLine) (ha:aU T E X a sa) (hb:aU T E X b sb) (hs:xk b:=by exact fun _ _=>rfl):aU T E X (.Subscript a b pos) (ah au sa sb):=by
 refine dr (Fu (Dq Ds ha hb hs) (DV (K7 (Ly (by decide:1<=64) _) hu) ha hb hs)) fun σ H Q q=>?_
 obtain ⟨ι,h,en,S,er,q⟩:=q
 have left:(∀ x h1 y h2,sa en h = .ok x h1->sb en h1 = .ok y h2->∀ n t kvs,x = .ref n->h2[n]? = some (.dct t kvs)->False)->mh (xl X.K) (tE T E sa) (tE T E sb) σ H Q:=fun no=>by
  refine ⟨ι,h,en,S,er,?_⟩
  unfold ah at q
  cases e1:sa en h with
  | bad=>rw [e1] at q;exact q
  | ex c h1=>rw [e1] at q;exact q
  | ok x h1 =>
   rw [e1] at q
   intro ι1 H1 u g1 S1 r1
   refine ⟨ι1,h1,en,S1,er.mono g1,?_⟩
   dsimp only [Out.bind] at q
   cases e2:sb en h1 with
   | bad=>rw [e2] at q;exact q
   | ex c h2=>rw [e2] at q;exact Post.shift (R:=RV T) (o:=.ex c h2) q g1
   | ok y h2 =>
    rw [e2] at q
    intro ι2 H2 w g2 S2 r2
    have q2:=Post.shift q (g1.trans g2)
    have r1' := r1.mono g2
    dsimp only at q2
    unfold au at q2
    split at q2
    ·rename_i z i
     split at q2
     ·rename_i cc hc
      obtain ⟨rfl,zl,zo⟩:=fC r1'
      rw [cI r2]
      refine .inr (.inr ⟨z,i,cc,rfl,rfl,zl,hc,q2.now S2 (.str (show 1<=sizeLine by decide) ?_)⟩)
      obtain ⟨j,_,e3,_⟩:=oX hc
      have m:cc∈z.cps:=by
       have:=Ld e3
       simpa using this
      have:=LG.mp zo _ m
      simpa using this
     ·exact q2.elim
    ·rename_i xs i
     split at q2
     ·rename_i v hv
      obtain ⟨b,us,rfl,sq,rs⟩:=ki r1'
      obtain ⟨u2,e3,r3⟩:=rs.atI hv
      rw [cI r2]
      exact .inr (.inl ⟨b,us,i,u2,rfl,rfl,hK▸sq,e3,q2.now S2 r3⟩)
     ·exact q2.elim
    ·rename_i xs i
     split at q2
     ·rename_i v hv
      obtain ⟨b,us,rfl,sq,rs⟩:=fB S2 r1' rfl
      obtain ⟨u2,e3,r3⟩:=rs.atI hv
      rw [cI r2]
      exact .inl ⟨b,us,i,u2,rfl,rfl,hK▸sq,e3,q2.now S2 r3⟩
     ·exact q2.elim
    ·rename_i n
     split at q2
     ·rename_i xs hn
      split at q2
      ·rename_i i
       split at q2
       ·rename_i v hv
        obtain ⟨b,us,rfl,sq,rs⟩:=fB (xs:=xs) S2 r1' (by simp [fK,hn])
        obtain ⟨u2,e3,r3⟩:=rs.atI hv
        rw [cI r2]
        exact .inl ⟨b,us,i,u2,rfl,rfl,hK▸sq,e3,q2.now S2 r3⟩
       ·exact q2.elim
      ·exact q2.elim
     ·rename_i t kvs hn
      exact (no _ h1 _ h2 e1 e2 n t kvs rfl hn).elim
     ·exact q2.elim
    ·exact q2.elim
 by_cases dd:∃ x h1 y h2,sa en h = .ok x h1/\sb en h1 = .ok y h2/\∃ n t kvs,x = .ref n/\h2[n]? = some (.dct t kvs)
 ·obtain ⟨x,h1,y,h2,e1,e2,n,t,kvs,rfl,hn⟩:=dd
  refine .inr ⟨ι,h,en,S,er,?_⟩
  unfold ah at q
  rw [e1] at q ⊢
  intro ι1 H1 u g1 S1 r1
  refine ⟨ι1,h1,en,S1,er.mono g1,?_⟩
  dsimp only [Out.bind] at q
  rw [e2] at q ⊢
  intro ι2 H2 w g2 S2 r2
  have q2:=Post.shift q (g1.trans g2)
  have r1' := r1.mono g2
  dsimp only at q2
  unfold au at q2
  simp only [hn] at q2
  split at q2
  ·rename_i hk
   cases r1' with
   | @ref _ ad hr =>
    obtain ⟨o,dg,alt⟩:=yr S2 hn hr r2 hk
    rcases alt with ⟨v1,rfl⟩ | ⟨v,u,v1,rfl,r3⟩
    ·rw [v1] at q2;exact q2.elim
    ·rw [v1] at q2
     exact ⟨ad,u,rfl,dg,q2.now S2 r3⟩
  ·exact q2.elim
 ·exact .inl (left fun x h1 y h2 e1 e2 n t kvs e3 e4=>dd ⟨x,h1,y,h2,e1,e2,n,t,kvs,e3,e4⟩)
theorem yt {p':Pos} (hu:X.A.units+64<cLine) (ho:aU T E X a sa) (hi:aU T E X b sb) (hv:aU T E X c sc) (hs:swapsWith c (some (.Subscript a b p')) pos.line X.env=pure false:=by rfl) (hs':swapsWithSole [.Subscript a b p'] c pos.line X.env=pure false:=by rfl) (hw:swappedStores [.Subscript a b p'] c X.env=pure none:=by rfl)
  (h1:(assignEach [.Subscript a b p'] X.env).map (·.2)=[assign (.Subscript a b p') X.env]:=by rfl)
  (has:∀ v,assign (.Subscript a b p') X.env v=(do
   let ov <- holding [v] (eval a X.env)
   let iv <- holding [v,ov] (eval b X.env)
   standAt p'
   holding [v,ov,iv] (setItem ov iv v)
   release [v,ov,iv] []):=by intro _;rfl):hE T E X (.Assign [.Subscript a b p'] c pos) (pE sa sb sc):=by
 refine iO (Fv (BU hv (BS ho hi Dv has) hs' hw h1) (DW (K7 (Ly (by decide:1<=64) _) hu) ho hi hv hs)) fun D σ H q=>?_
 obtain ⟨ι,h,en,S,er,q⟩:=q
 unfold pE at q
 by_cases dd:∃ z h1 x h2 y h3,sc en h = .ok z h1/\sa en h1 = .ok x h2/\sb en h2 = .ok y h3/\∃ n t kvs,x = .ref n/\h3[n]? = some (.dct t kvs)
 ·obtain ⟨z,h1,x,h2,y,h3,e1,e2,e3,n,t,kvs,rfl,hn⟩:=dd
  refine .inr ⟨ι,h,en,S,er,?_⟩
  rw [e1] at q ⊢
  intro ι1 H1 u g1 S1 r1
  refine ⟨ι1,h1,en,S1,er.mono g1,?_⟩
  dsimp only [Out.go] at q
  rw [e2] at q ⊢
  intro ι2 H2 w g2 S2 r2
  refine ⟨ι2,h2,en,S2,er.mono (g1.trans g2),?_⟩
  dsimp only at q
  rw [e3] at q ⊢
  intro ι3 H3 j g3 S3 r3
  have q2:=PostS.shift q (g1.trans (g2.trans g3))
  simp only [hn] at q2
  split at q2
  ·rename_i hk
   cases (r2.mono g3) with
   | @ref _ ad hr =>
    obtain ⟨H4,dp,g4,S4⟩:=Ft S3 hn hr r3 (r1.mono (g2.trans g3)) hk.1 hk.2
    exact ⟨ad,H4,rfl,dp,q2 ι3 H4 σ g4 S4 (er.mono (g1.trans (g2.trans (g3.trans g4))))⟩
  ·exact q2.elim
 ·refine .inl ⟨ι,h,en,S,er,?_⟩
  cases e1:sc en h with
  | bad=>rw [e1] at q;exact q
  | ex cc h1=>rw [e1] at q;exact fun i2 H2 C g S e=>q i2 H2 σ C g S (er.mono g) e
  | ok z h1 =>
   rw [e1] at q
   intro ι1 H1 u g1 S1 r1
   refine ⟨ι1,h1,en,S1,er.mono g1,?_⟩
   dsimp only [Out.go] at q
   cases e2:sa en h1 with
   | bad=>rw [e2] at q;exact q
   | ex cc h2=>rw [e2] at q;exact fun i2 H2 C g S e=>q i2 H2 σ C (g1.trans g) S (er.mono (g1.trans g)) e
   | ok x h2 =>
    rw [e2] at q
    intro ι2 H2 w g2 S2 r2
    refine ⟨ι2,h2,en,S2,er.mono (g1.trans g2),?_⟩
    dsimp only at q
    cases e3:sb en h2 with
    | bad=>rw [e3] at q;exact q
    | ex cc h3=>rw [e3] at q;exact fun i2 H2 C g S e=>q i2 H2 σ C (g1.trans (g2.trans g)) S (er.mono (g1.trans (g2.trans g))) e
    | ok y h3 =>
     rw [e3] at q
     intro ι3 H3 j g3 S3 r3
     have q2:=PostS.shift q (g1.trans (g2.trans g3))
     dsimp only at q2
     split at q2
     ·rename_i n
      split at q2
      ·rename_i xs hn
       split at q2
       ·rename_i k
        split at q2
        ·rename_i jj hj
         cases (r2.mono g3) with
         | @ref _ ad hr =>
          obtain ⟨o,e4,us,rfl,rs⟩:=S3.obj n _ ad hn hr
          have g4:=S3.growSet (u:=.lst (us.set jj u)) hr
          rw [cI r3]
          exact ⟨ad,us,k,jj,rfl,rfl,e4,by rw [<- rs.length];exact hj,q2 ι3 _ σ g4 (S3.set hr ⟨_,rfl,RVs.set (r1.mono (g2.trans (g3.trans g4))) jj (rs.mono g4)⟩) (er.mono (g1.trans (g2.trans (g3.trans g4))))⟩
        ·exact q2.elim
       ·exact q2.elim
      ·rename_i t kvs hn
       exact (dd ⟨_,h1,_,h2,_,h3,e1,e2,e3,n,t,kvs,rfl,hn⟩).elim
      ·exact q2.elim
     ·exact q2.elim
theorem Fw {g:Value->Value->Sem Value} {r:R2} {neg:Bool} (hK:X.K=T.K)
  (h1:∀ (i j:Str) H Q,Q (V.bl (if neg then !(!(Builtin.Str.occurrences j i 0 j.length 1).isEmpty) else !(Builtin.Str.occurrences j i 0 j.length 1).isEmpty)) H->r (.str i) (.str j) H Q)
  (h2:∀ x y H Q p xs d ds,y=V.ref p->SqL T.K H p xs->DaV T.K H x d->DaVs T.K H xs ds->d.canLay0=true->(∀ e∈ds,e.canLay0=true/\e.depth<=30)->Q (V.bl (if neg then !(ds.any fun e=>PyData.eqv e d) else ds.any fun e=>PyData.eqv e d)) H->r x y H Q)
  (h2t:∀ x y H Q p xs d ds,y=V.ref p->SqT T.K H p xs->DaV T.K H x d->DaVs T.K H xs ds->d.canLay0=true->(∀ e∈ds,e.canLay0=true/\e.depth<=30)->Q (V.bl (if neg then !(ds.any fun e=>PyData.eqv e d) else ds.any fun e=>PyData.eqv e d)) H->r x y H Q)
  (h3:∀ (y:V) (a:Addr) o H Q,DGet H a y o->Q (V.bl (if neg then !o.isSome else o.isSome)) H->r y (.ref a) H Q) :
  mr T (fun x y h=>match pF x y h with | some b=>.ok (.bl (if neg then !b else b)) h | none=>.bad) r:=by
 intro ι h H x y u w E Q S rx ry p
 dsimp only at p
 cases hb:pF x y h with
 | none=>rw [hb] at p;exact p.elim
 | some b =>
  rw [hb] at p
  dsimp only at p
  unfold pF at hb
  split at hb
  ·cases hb
   obtain ⟨rfl,_⟩:=fC rx
   obtain ⟨rfl,_⟩:=fC ry
   exact h1 _ _ _ _ (p.now S (.bl _))
  ·rename_i n
   split at hb
   ·rename_i t kvs hn
    split at hb
    ·rename_i hk
     cases hb
     cases ry with
     | @ref _ ad hr =>
      obtain ⟨o,dg,alt⟩:=yr S hn hr rx hk
      refine h3 u ad o H Q dg ?_
      rcases alt with ⟨v1,rfl⟩ | ⟨v,u',v1,rfl,r3⟩
      ·rw [v1] at p;exact p.now S (.bl _)
      ·rw [v1] at p;exact p.now S (.bl _)
    ·cases hb
   ·rename_i xs hn
    split at hb
    ·rename_i d ds e1 e2
     cases hb
     obtain ⟨a,us,rfl,sq,rs⟩:=fB (xs:=xs) S ry (by simp [fK,hn])
     obtain ⟨q1,q2,q3⟩:=jK S 8 rx e1
     obtain ⟨q4,q5⟩:=nz (n:=8) (fun r e=>jK S 8 r e) rs e2
     exact h2 _ _ _ _ a us d ds rfl sq q1 q4 q2 (fun e he=>⟨(q5 e he).1,by have:=(q5 e he).2;lia⟩) (p.now S (.bl _))
    ·cases hb
   ·cases hb
  ·rename_i xs
   split at hb
   ·rename_i d ds e1 e2
    cases hb
    obtain ⟨a,us,rfl,sq,rs⟩:=fB S ry rfl
    obtain ⟨q1,q2,q3⟩:=jK S 8 rx e1
    obtain ⟨q4,q5⟩:=nz (n:=8) (fun r e=>jK S 8 r e) rs e2
    exact h2 _ _ _ _ a us d ds rfl sq q1 q4 q2 (fun e he=>⟨(q5 e he).1,by have:=(q5 e he).2;lia⟩) (p.now S (.bl _))
   ·cases hb
  ·rename_i xs
   split at hb
   ·rename_i d ds e1 e2
    cases hb
    obtain ⟨a,us,rfl,sq,rs⟩:=ki ry
    obtain ⟨q1,q2,q3⟩:=jK S 8 rx e1
    obtain ⟨q4,q5⟩:=nz (n:=8) (fun r e=>jK S 8 r e) rs e2
    exact h2t _ _ _ _ a us d ds rfl sq q1 q4 q2 (fun e he=>⟨(q5 e he).1,by have:=(q5 e he).2;lia⟩) (p.now S (.bl _))
   ·cases hb
  ·cases hb
end
end Sm
namespace L2
open PySem PySem.Spec PyProof.Rows
section
variable {X:Cx} {pins:List (Addr×Obj)} {σ:St} {H:Hp} {s:Shared}
theorem yu (I:Inv X pins σ H s) (hu:X.A.units+64<cLine) {xs:List V} {ds:List PyData} {its:List Value} {d:PyData} {v:Value} {as:List Addr} (ra:Reads s.heap v d as) (hds:DaVs X.K H xs ds) (r:Vals xs its) (cd:d.canLay0=true) (cds:∀ e∈ds,e.canLay0=true/\e.depth<=30) :
  (∀ y,y∈its.toArray->SeqAt.EqAt X.A.in1 s y v (kh s.heap d y))/\its.toArray.any (kh s.heap d)=ds.any fun e=>PyData.eqv e d:=by
 obtain ⟨hl,hat⟩:=xJ I hds r
 constructor
 ·intro y hy
  have hy':y∈its:=by simpa using hy
  obtain ⟨j,hj⟩:=List.getElem?_of_mem hy'
  have hlt:=(Kz.mp hj).1
  have hdj:ds[j]? = some (ds[j]'(by lia)):=KR (by lia)
  obtain ⟨bs,rb⟩:=hat j _ _ hj hdj
  have cj:=cds _ (Ld hdj)
  rw [xI cj.1 rb]
  exact SeqAt.eqAt_reads _ _ _ _ _ _ _ _ rb ra cj.1 cd (by
   have:=NB (ds[j]'(by lia)).depth d.depth
   show X.A.units+1+_<cLine
   lia)
 ·rw [<- Array.any_toList]
  refine xK hl fun j u e h1 h2=>?_
  obtain ⟨bs,rb⟩:=hat j _ _ h1 h2
  exact xI (cds _ (Ld h2)).1 rb
def Fx (K:PySem.W.Frag):R2:=fun x y H Q=>∃ p xs d ds,y = .ref p/\SqL K H p xs/\DaV K H x d/\DaVs K H xs ds/\d.canLay0=true/\(∀ e∈ds,e.canLay0=true/\e.depth<=30)/\Q (.bl (!(ds.any fun e=>PyData.eqv e d))) H
def Fy (K:PySem.W.Frag):R2:=fun x y H Q=>∃ p xs d ds,y = .ref p/\SqT K H p xs/\DaV K H x d/\DaVs K H xs ds/\d.canLay0=true/\(∀ e∈ds,e.canLay0=true/\e.depth<=30)/\Q (.bl (!(ds.any fun e=>PyData.eqv e d))) H
theorem Fz (hu:X.A.units+64<cLine):OpR X (compareOp .NotIn) (Fx X.K):=by
 intro pins s σ H x y v u Q I rx ry h
 obtain ⟨p,xs,d,ds,rfl,hq,hd,hds,cd,cds,q⟩:=h
 cases ry
 obtain ⟨its,r,pl,hz⟩:=I.list hq
 obtain ⟨as,ra⟩:=hd.reads I rx
 obtain ⟨h1,h2⟩:=yu I hu ra hds r cd cds
 exact SeqAt.notIn_listAt (kh s.heap d) pl.isList h1 ⟨.bl _,H,I,rfl,by rw [h2];exact q⟩
theorem FC (hu:X.A.units+64<cLine):OpR X (compareOp .NotIn) (Fy X.K):=by
 intro pins s σ H x y v u Q I rx ry h
 obtain ⟨p,xs,d,ds,rfl,hq,hd,hds,cd,cds,q⟩:=h
 cases ry
 obtain ⟨its,r,pl,hz⟩:=I.tuple hq
 obtain ⟨as,ra⟩:=hd.reads I rx
 obtain ⟨h1,h2⟩:=yu I hu ra hds r cd cds
 exact SeqAt.notIn_tupleAt (kh s.heap d) pl h1 ⟨.bl _,H,I,rfl,by rw [h2];exact q⟩
theorem FD (hu:X.A.units+64<cLine):OpR X (compareOp .NotIn) (fun x y H Q=>∃ a o,y = .ref a/\DGet H a x o/\Q (.bl (!o.isSome)) H):=by
 intro pins s σ H x y v u Q I rx ry h
 obtain ⟨a,o,rfl,g,q⟩:=h
 cases ry
 exact DM (K7 (Ly (by decide:1<=64) _) hu) I g rx fun s' I' => ⟨.bl _,H,I',rfl,q⟩
end
end L2
namespace Sm
open PySem PySem.Spec L2
section
variable {T:Tb} {E:St->XK} {X:Cx}
theorem yv (hK:X.K=T.K) (hu:X.A.units+64<cLine):Op T X (compareOp .NotIn) r8:=by
 refine ⟨_,zev.or ((Fz hu).or ((FC hu).or (FD hu))),Fw (neg:=true) (g:=compareOp .NotIn) hK ?_ ?_ ?_ ?_⟩
 ·exact fun i j H Q q=>.inl ⟨i,j,rfl,rfl,q⟩
 ·exact fun x y H Q p xs d ds e1 e2 e3 e4 e5 e6 q=>.inr (.inl ⟨p,xs,d,ds,e1,hK▸e2,hK▸e3,hK▸e4,e5,e6,q⟩)
 ·exact fun x y H Q p xs d ds e1 e2 e3 e4 e5 e6 q=>.inr (.inr (.inl ⟨p,xs,d,ds,e1,hK▸e2,hK▸e3,hK▸e4,e5,e6,q⟩))
 ·exact fun y a o H Q g q=>.inr (.inr (.inr ⟨a,o,rfl,g,q⟩))
end
end Sm
namespace Sm
open PySem PySem.Spec L2
abbrev sF (x:Str) (C:Addr) (mg:Str->Option Value) (base:Heap):Prop:=PyProof.Rows.OwnCls x C [.type "ValueError",.type "Exception",.type "BaseException",.type "object"] "ValueError.__new__" mg base
structure GX (T:Tb) (mg:Str->Option Value) (base:Heap) (c:Nat) (x:Str):Prop where
 ex:∃ C,T.exc c=some C/\sF x C mg base
section
variable {T:Tb} {E:St->XK} {X:Cx} {pos np cpos:Pos} {e:Expr} {es:List Expr} {x:Str} {c:Nat} {as:SL}
theorem jS (G:GX T X.mg X.base c x) (hr:rV X E) (hg:Gl X x) (ha:gS T E X (e::es) as) (hc:X.calm=true:=by rfl) (hex:X.ex=[]:=by rfl)
  (hdb:(x == ("__debug__" : Str))=false:=by decide) (he:starEach (e::es) X.env=(false,eval e X.env)::starEach es X.env:=by rfl) (hpl:(backTo cpos (starEach es X.env)).any (·.1)=false:=by rfl) :
  hE T E X (.Raise (some (.Call (.Name x np) (e::es) [] cpos)) none pos) (jg c as):=by
 obtain ⟨C,h1,O⟩:=G.ex
 refine iO (Es O PySem.F.excBase_ValueError hc hex hr hg ha hdb he hpl) fun D σ H ⟨ι,h,en,S,er,q⟩=>⟨ι,h,en,S,er,q.go er fun xs h1' ι1 H1 us g1 S1 r1 q1=>?_⟩
 split at q1
 ·rename_i hl
  exact ⟨by rw [<- r1.length];exact hl,q1 ι1 H1 σ C S1.refl S1 (er.mono g1) h1⟩
 ·exact q1.elim
end
def jm (T:Tb) (f:Fn) (r:List V->Hp->VK->Prop):Prop:=∀ (ι:Ix) (h:AH) (H:Hp) (xs:List AV) (us:List V) (E:XK) (Q:VK),Sim T ι h H->RVs T ι H xs us->Post T ι H E (RV T) (f xs h) Q->r us H Q
section
variable {T:Tb} {E:St->XK} {X:Cx} {pos p:Pos} {e a:Expr} {es:List Expr} {x:Str} {as:SL} {sa:SE}
theorem yw {f:Fn} {r:List V->Hp->VK->Prop} (hs:jm T f r) {σ:St} {H:Hp} {Q:VK} (q:tE T E (aG f as) σ H Q):rG r (tA T E as) σ H Q:=by
 obtain ⟨ι,h,en,S,er,q⟩:=q
 exact ⟨ι,h,en,S,er,q.bind fun xs h1 ι1 H1 us g1 S1 r1 q1=>hs ι1 h1 H1 xs us _ Q S1 r1 q1⟩
theorem aN {id:String} {f:Fn} (hc:∃ r,CallR X (.builtin id) r/\jm T f r) (hg:Gl X x) (hm:X.mg x=none) (hv:bootBuiltins x=some (.builtin id)) (ha:gS T E X (e::es) as) (hn:x ≠ "__name__" := by decide) (hdb:(x == ("__debug__" : Str))=false:=by decide)
  (he:starEach (e::es) X.env=(false,eval e X.env)::starEach es X.env:=by rfl) (hpl:(backTo pos (starEach es X.env)).any (·.1)=false:=by rfl):aU T E X (.Call (.Name x p) (e::es) [] pos) (aG f as):=by
 obtain ⟨r,h1,h2⟩:=hc
 exact dr (w6 h1 hg hm hv ha hn hdb he hpl) fun σ H Q q=>yw h2 q
theorem jT {id:String} {f:Fn} (hc:∃ r,CallR X (.type id) r/\jm T f r) (hg:Gl X x) (hm:X.mg x=none) (hv:bootBuiltins x=some (.type id)) (ha:gS T E X (e::es) as) (hn:x ≠ "__name__" := by decide) (hdb:(x == ("__debug__" : Str))=false:=by decide)
  (he:starEach (e::es) X.env=(false,eval e X.env)::starEach es X.env:=by rfl) (hpl:(backTo pos (starEach es X.env)).any (·.1)=false:=by rfl):aU T E X (.Call (.Name x p) (e::es) [] pos) (aG f as):=by
 obtain ⟨r,h1,h2⟩:=hc
 exact dr (Df h1 hg hm hv ha hn hdb he hpl) fun σ H Q q=>yw h2 q
theorem b_len (hK:X.K=T.K):∃ r,CallR X (.builtin "len") r/\jm T ax r:=by
 refine ⟨_,zex.or (zew.or D6),fun ι h H xs us E Q S r q=>?_⟩
 unfold ax at q
 split at q
 ·cases r with
  | cons r r' =>
   cases r'
   obtain ⟨rfl,n,_⟩:=fC r
   exact .inl ⟨_,rfl,n,q.now S (.int _)⟩
 ·cases r with
  | cons r r' =>
   cases r'
   obtain ⟨a,us,rfl,sq,rs⟩:=ki r
   exact .inr (.inl ⟨a,us,rfl,.inr (hK▸sq),by rw [<- rs.length];exact q.now S (.int _)⟩)
 ·cases r with
  | cons r r' =>
   cases r'
   obtain ⟨a,us,rfl,sq,rs⟩:=fB S r rfl
   exact .inr (.inl ⟨a,us,rfl,.inl (hK▸sq),by rw [<- rs.length];exact q.now S (.int _)⟩)
 ·rename_i n
  cases r with
  | cons r r' =>
   cases r'
   split at q
   ·rename_i xs hn
    obtain ⟨a,us,rfl,sq,rs⟩:=fB (xs:=xs) S r (by simp [fK,hn])
    exact .inr (.inl ⟨a,us,rfl,.inl (hK▸sq),by rw [<- rs.length];exact q.now S (.int _)⟩)
   ·rename_i kvs hn
    cases r with
    | @ref _ ad hr =>
     obtain ⟨o,e1,kus,rfl,rs⟩:=S.obj n _ ad hn hr
     exact .inr (.inr ⟨ad,kus,rfl,e1,by rw [<- Paired.length rs];exact q.now S (.int _)⟩)
   ·exact q.elim
 ·exact q.elim
theorem b_abs:∃ r,CallR X (.builtin "abs") r/\jm T k9 r:=by
 refine ⟨_,CJ,fun ι h H xs us E Q S r q=>?_⟩
 unfold k9 at q
 split at q
 ·cases r with
  | cons r r' => cases r';rw [cI r];exact ⟨_,rfl,q.now S (.int _)⟩
 ·exact q.elim
theorem pN (hc:X.calm=true:=by rfl):∃ r,CallR X (.builtin "max") r/\jm T e8 r:=by
 refine ⟨_,CK hc,fun ι h H xs us E Q S r q=>?_⟩
 unfold e8 at q
 split at q
 ·cases r with
  | cons r r' => cases r' with
   | cons r1 r2=>cases r2;rw [cI r,cI r1];exact ⟨_,_,rfl,q.now S (.int _)⟩
 ·exact q.elim
theorem yx (hc:X.calm=true:=by rfl):∃ r,CallR X (.builtin "min") r/\jm T fX r:=by
 refine ⟨_,CL hc,fun ι h H xs us E Q S r q=>?_⟩
 unfold fX at q
 split at q
 ·cases r with
  | cons r r' => cases r' with
   | cons r1 r2=>cases r2;rw [cI r,cI r1];exact ⟨_,_,rfl,q.now S (.int _)⟩
 ·exact q.elim
theorem yy {ι:Ix} {H:Hp}:∀ {xs:List AV} {us:List V} {bs:List Bool},RVs T ι H xs us->nv xs=some bs->us=bs.map V.bl
 | _,_,_,.nil,e=>by cases e;rfl
 | _,_,bs,.cons (x:=x) r rs,e=>by
  unfold nv at e
  split at e
  ·rename_i hh;cases hh
  ·rename_i b r' hh
   cases hh
   obtain ⟨bs',e1,rfl⟩:=Lf.mp e
   rw [iA r,yy rs e1];rfl
  ·cases e
theorem b_all (hK:X.K=T.K) (hc:X.calm=true:=by rfl):∃ r,CallR X (.builtin "all") r/\jm T lg r:=by
 refine ⟨_,Ej hc,fun ι h H xs us E Q S r q=>?_⟩
 unfold lg at q
 split at q
 ·split at q
  ·rename_i bs hb
   cases r with
   | cons r r' =>
    cases r'
    obtain ⟨a,us,rfl,sq,rs⟩:=fB S r rfl
    rw [yy rs hb] at sq
    exact ⟨a,bs,rfl,hK▸sq,q.now S (.bl _)⟩
  ·exact q.elim
 ·exact q.elim
abbrev nC:List String:=["NoneType", "bool", "int", "str", "list", "tuple", "dict"]
theorem yz (K:PySem.W.Frag):∀ n∈nC,∀ t∈nC,PySem.W.kitOne K (.type n) (.type t)=some (n == t || (t == "int" && n == "bool")):=by
 intro n hn t ht
 simp only [nC,K6,MI,Oy] at hn ht
 rcases hn with rfl | rfl | rfl | rfl | rfl | rfl | rfl<;>rcases ht with rfl | rfl | rfl | rfl | rfl | rfl | rfl<;>rfl
theorem FE {c:V} {cv:Value} (rc:∀ u,RelV c u->u=cv) :
  CallR X (.builtin "isinstance") (fun xs H Q=>∃ a us r,xs=[.ref a,c]/\SqL X.K H a us/\PySem.W.kitOne X.K (.type "list") cv=some r/\Q (.bl r) H):=by
 intro pins s σ H xs us Q I r h
 obtain ⟨a,ws,k,rfl,sq,hk,q⟩:=h
 obtain ⟨u,w',rfl,rx,ry⟩:=oT r
 obtain rfl:=rc _ ry
 obtain rfl:u=Value.ref a:=rx
 obtain ⟨its,_,⟨o,n,e1,e2,_⟩,_⟩:=I.list sq
 exact LB M3 I.kIn ⟨_,e1,e2⟩ hk (fun z=>nomatch z) fun tk=>⟨.bl k,H,I.tok _,rfl,q⟩
theorem FG {ι:Ix} {h:AH} {H:Hp} {v:AV} {u:V} {n:String} (S:Sim T ι h H) (r:RV T ι H v u) (e:r9 v h=some n):(dy T.K H u (.type n)\/(n = "list" /\ ∃ a us,u = .ref a/\SqL T.K H a us))/\n∈nC:=by
 unfold r9 at e
 cases r with
 | non=>cases e;exact ⟨.inl .non,by decide⟩
 | bl b=>cases e;exact ⟨.inl (.bl b),by decide⟩
 | int b=>cases e;exact ⟨.inl (.int b),by decide⟩
 | str n o=>cases e;exact ⟨.inl (.str _),by decide⟩
 | tup n q r=>cases e;exact ⟨.inl (.tup q),by decide⟩
 | fl n q r=>cases e;exact ⟨.inr ⟨rfl,_,_,rfl,.inl q⟩,by decide⟩
 | kfl q r=>cases e;exact ⟨.inr ⟨rfl,_,_,rfl,.inr q⟩,by decide⟩
 | @ref k a q =>
  dsimp only at e
  split at e
  ·rename_i xs hn
   cases e
   obtain ⟨o,e1,us,rfl,rs⟩:=S.obj k _ a hn q
   exact ⟨.inl (.lst e1),by decide⟩
  ·rename_i t kvs hn
   cases e
   obtain ⟨o,e1,r⟩:=S.obj k _ a hn q
   cases t with
   | false=>obtain ⟨kus,rfl,rs⟩:=r;exact ⟨.inl (.dK e1),by decide⟩
   | true=>obtain ⟨kus,rfl,rs⟩:=r;exact ⟨.inl (.dT e1),by decide⟩
  ·cases e
 | exc _ _ _=>cases e
theorem iQ {t:Str} {id:String} {p2:Pos} (hK:X.K=T.K) (hg:Gl X "isinstance") (hm:X.mg "isinstance" = none) (ha:aU T E X a sa) (hgt:Gl X t) (hmt:X.mg t=none) (hvt:bootBuiltins t=some (.type id)) (hid:id∈nC) (hnt:t ≠ "__name__" := by decide) (hdt:(t == ("__debug__" : Str))=false:=by decide)
  (he:starEach [a,.Name t p2] X.env=(false,eval a X.env)::starEach [.Name t p2] X.env:=by rfl):aU T E X (.Call (.Name "isinstance" p) [a,.Name t p2] [] pos) (dW id sa):=by
 refine dr (w6 ((Eg (X:=X) (xB id)).or (FE (X:=X) (xB id))) hg hm PyProof.Rows.boot_isinstance (rD ha (rD (Bn (v:=.ty id) hgt hmt hvt rfl hnt hdt) wU) he) (he:=he)) fun σ H Q ⟨ι,h,en,S,er,q⟩=>⟨ι,h,en,S,er,q.bind fun v h1 ι1 H1 u g1 S1 r1 q1=>?_⟩
 split at q1
 ·rename_i n hn
  obtain ⟨ty,hmem⟩:=FG S1 r1 hn
  rcases ty with ty | ⟨rfl,ad,us,rfl,sq⟩
  ·exact .inl ⟨u,.type n,_,rfl,hK▸ty,yz _ n hmem id hid,q1.now S1 (.bl _)⟩
  ·exact .inr ⟨ad,us,_,rfl,hK▸sq,yz _ _ hmem id hid,q1.now S1 (.bl _)⟩
 ·exact q1.elim
def mB (T:Tb) (f:FM) (r:V->List V->Hp->VK->Prop):Prop:=∀ (ι:Ix) (h:AH) (H:Hp) (x:AV) (xs:List AV) (u:V) (us:List V) (E:XK) (Q:VK),Sim T ι h H->RV T ι H x u->RVs T ι H xs us->Post T ι H E (RV T) (f x xs h) Q->r u us H Q
def jU (T:Tb) (chk:AV->AH->Bool) (n:String):Prop:=∀ (ι:Ix) (h:AH) (H:Hp) (x:AV) (u:V),Sim T ι h H->RV T ι H x u->chk x h=true->oY T.K n u H
theorem dE:jU T bq "list" := fun ι h H x u S r e=>by
 obtain ⟨xs,e1⟩:=Lk.mp e
 obtain ⟨a,us,rfl,sq,rs⟩:=fB S r e1
 exact .inl ⟨rfl,us,sq⟩
theorem FH:jU T sd "str" := fun ι h H x u S r e=>by
 unfold sd at e
 split at e
 ·obtain ⟨rfl,_⟩:=fC r;rfl
 ·cases e
variable {o:Expr} {so:SE} {name:Str} {apos:Pos} {chk:AV->AH->Bool} {f:FM} {tn id:String}
theorem cf (hK:X.K=T.K) (pa:PlainAttrs tn) (slot:Slot tn name id) (hty:typeOf (.builtin id)=pure (.type "method_descriptor")) (hm:∃ r,jc X id r/\mB T f r) (hc:jU T chk tn) (ho:aU T E X o so) (ha:gS T E X (e::es) as)
  (hbase:attributeBase o name X.env (eval o X.env)=eval o X.env:=by rfl)
  (hfew:((backTo pos (starEach (e::es) X.env)).all (fun x=>!x.1) && (backToKw pos (keywordEach [] X.env)).all (fun x=>x.1.isSome)
   && decide ((e::es).length+([]:List Keyword).length+(if ([]:List Keyword).isEmpty then 0 else 1)<30))=true:=by rfl)
  (hline:(apos.endLine == pos.line)=true:=by rfl) (hs:starEach (e::es) X.env=(false,eval e X.env)::starEach es X.env:=by rfl) (hplain:(backTo pos (starEach es X.env)).any (·.1)=false:=by rfl) :
  aU T E X (.Call (.Attribute o name apos) (e::es) [] pos) (dX chk f so as):=by
 obtain ⟨r,h1,h2⟩:=hm
 refine dr (DA pa slot hty h1 ho ha hbase hfew hline hs hplain) fun σ H Q ⟨ι,h,en,S,er,q⟩=>⟨ι,h,en,S,er,q.bind fun x h1 ι1 H1 u g1 S1 r1 q1=>?_⟩
 by_cases hx:chk x h1=true
 ·rw [KS hx] at q1
  exact ⟨hK▸hc ι1 h1 H1 x u S1 r1 hx,ι1,h1,en,S1,er.mono g1,q1.bind fun xs h2' ι2 H2 us g2 S2 r2 q2=>h2 ι2 h2' H2 x xs u us _ Q S2 (r1.mono g2) r2 q2⟩
 ·rw [KW hx] at q1;exact q1.elim
theorem nE (hK:X.K=T.K) (pa:PlainAttrs tn) (slot:Slot tn name id) (hty:typeOf (.builtin id)=pure (.type "method_descriptor")) (hm:∃ r,jc X id r/\mB T f r) (hc:jU T chk tn) (ho:aU T E X o so)
  (hbase:attributeBase o name X.env (eval o X.env)=eval o X.env:=by rfl) (hline:(apos.endLine == pos.line)=true:=by rfl):aU T E X (.Call (.Attribute o name apos) [] [] pos) (hZ chk f so):=by
 obtain ⟨r,h1,h2⟩:=hm
 refine dr (Dz pa slot hty h1 ho hbase hline) fun σ H Q ⟨ι,h,en,S,er,q⟩=>⟨ι,h,en,S,er,q.bind fun x h1 ι1 H1 u g1 S1 r1 q1=>?_⟩
 by_cases hx:chk x h1=true
 ·rw [KS hx] at q1
  exact ⟨hK▸hc ι1 h1 H1 x u S1 r1 hx,h2 ι1 h1 H1 x [] u [] _ Q S1 r1 .nil q1⟩
 ·rw [KW hx] at q1;exact q1.elim
theorem fh:∃ r,jc X "list.append" r/\mB T bV r:=by
 refine ⟨_,xq,fun ι h H x xs u us E Q S rx rs q=>?_⟩
 unfold bV at q
 split at q
 ·rename_i n y
  split at q
  ·rename_i ys hn
   split at q
   ·rename_i hl
    cases rx with
    | @ref _ ad hr =>
     cases rs with
     | @cons _ uu _ _ r r' =>
      cases r'
      obtain ⟨o,e1,ws,rfl,rw_⟩:=S.obj n _ ad hn hr
      have g:=S.growSet (u:=.lst (ws++[uu])) hr
      exact ⟨ad,ws,_,rfl,rfl,e1,by rw [<- rw_.length];exact hl,q ι _ _ g (S.set hr ⟨_,rfl,(rw_.mono g).append (.cons (r.mono g) .nil)⟩) .non⟩
   ·exact q.elim
  ·exact q.elim
 ·exact q.elim
theorem nF:∃ r,jc X "list.pop" r/\mB T bY r:=by
 refine ⟨_,DE,fun ι h H x xs u us E Q S rx rs q=>?_⟩
 unfold bY at q
 split at q
 ·rename_i n
  split at q
  ·rename_i ys hn
   split at q
   ·rename_i y hy
    cases rx with
    | @ref _ ad hr =>
     cases rs
     obtain ⟨o,e1,ws,rfl,rw_⟩:=S.obj n _ ad hn hr
     have g:=S.growSet (u:=.lst ws.dropLast) hr
     obtain ⟨v,e2,r2⟩:=rw_.get hy
     refine ⟨ad,ws,v,rfl,rfl,e1,by rw [<- rw_.length];exact e2,q ι _ _ g (S.set hr ⟨_,rfl,?_⟩) (r2.mono g)⟩
     have z:=(rw_.mono g).take (ys.length-1)
     have e3:ys.take (ys.length-1)=ys.dropLast:=NH.symm
     have e4:ws.take (ys.length-1)=ws.dropLast:=by rw [rw_.length];exact NH.symm
     rw [e3,e4] at z
     exact z
   ·exact q.elim
  ·exact q.elim
 ·exact q.elim
theorem FI:∃ r,jc X "str.count" r/\mB T se r:=by
 refine ⟨_,Ei,fun ι h H x xs u us E Q S rx rs q=>?_⟩
 unfold se at q
 split at q
 ·cases rs with
  | cons r r' =>
   cases r'
   obtain ⟨rfl,_⟩:=fC rx
   obtain ⟨rfl,_⟩:=fC r
   exact ⟨_,_,rfl,rfl,q.now S (.int _)⟩
 ·exact q.elim
end
end Sm
namespace Sm
open PySem PySem.Spec L2
theorem Out.bind_assoc {α β γ:Type} (o:Out α) (f:α->AH->Out β) (g:β->AH->Out γ):(o.bind f).bind g=o.bind fun a h=>(f a h).bind g:=by cases o<;>rfl
section
variable {T:Tb} {E:St->XK} {X:Cx} {pos p2:Pos} {a b:Expr} {sa sb:SE}
def tO (T:Tb) (E:St->XK):Option SE->TO
 | none=>xf
 | some s=>xg (tE T E s)
abbrev pO (T:Tb) (E:St->XK) (X:Cx) (e:Option Expr) (s:Option SE):Prop:=PO X e (tO T E s)
theorem dt:pO T E X none none:=Dk
theorem cP (h:aU T E X a sa):pO T E X (some a) (some sa):=Dl h
@[simp] def pP (s:Option SE):En->AH->Out (Option Int):=fun en h=>match s with
 | none=>.ok none h
 | some l=>(l en h).bind fun v h2=>match v with | .int i=>.ok (some i) h2 | _=>.bad
theorem yA {s:Option SE} {σ:St} {H:Hp} {ι:Ix} {h:AH} {en:En} {γ δ:Type} {R':Ix->Hp->γ->δ->Prop} {Q0:δ->Hp->Prop} {f:Option Int->AH->Out γ} {Q:Option Int->Hp->Prop} (S:Sim T ι h H) (er:ER T ι H en σ) (q:Post T ι H (E σ) R' ((pP s en h).bind f) Q0)
  (k:∀ l h' ι' H',Grow ι H ι' H'->Sim T ι' h' H'->Post T ι' H' (E σ) R' (f l h') Q0->Q l H'):tO T E s σ H Q:=by
 cases s with
 | none=>exact k none h ι H S.refl S q
 | some l =>
  refine ⟨ι,h,en,S,er,?_⟩
  unfold pP at q
  dsimp only at q
  rw [Out.bind_assoc] at q
  refine q.bind fun v h1 ι1 H1 u g1 S1 r1 q1=>?_
  split at q1
  ·rw [cI r1]
   exact ⟨_,rfl,k _ _ ι1 H1 g1 S1 q1⟩
  ·exact q1.elim
@[simp] def bI (x:AV) (l u:Option Int) (h:AH):Out AV:=match x with
 | .fl xs=>.ok (.fl (b9 xs l u)) h
 | .str z=>.ok (.str (cz z l u)) h
 | .tup xs=>if ¬ (HT.sIx xs.length 0 l=0/\HT.sIx xs.length xs.length u=xs.length) then .ok (.tup (b9 xs l u)) h else .bad
 | .ref n=>match h[n]? with
  | some (.lst xs)=>.ok (.fl (b9 xs l u)) h
  | _=>.bad
 | _=>.bad
@[simp] def aY (a:SE) (lo hi:Option SE):SE:=fun en h=>(a en h).bind fun x h1=>(pP lo en h1).bind fun l h2=>(pP hi en h2).bind fun u h3=>bI x l u h3
theorem RVs.cut {ι:Ix} {H:Hp} {xs:List AV} {us:List V} {lo hi:Option Int} (r:RVs T ι H xs us):RVs T ι H (b9 xs lo hi) (fV us lo hi):=by
 unfold b9 fV
 rw [<- r.length]
 exact (r.drop _).take _
theorem FJ {ι:Ix} {H:Hp} {z:Str} {l u:Option Int} (hz:z.length<=sizeLine) (hc:z.cps.all (· < 0x110000)=true):RV T ι H (.str (cz z l u)) (.str (cz z l u)):=by
 refine .str ?_ ?_
 ·refine KN ?_ hz
  simp [cz,Str.length];lia
 ·simp only [cz,List.all_toArray,Lo]
  intro c h
  have hm:c∈z.cps.toList:=Ma (Mb h)
  exact (LG.mp hc) c (by simpa using hm)
theorem cT {lo hi:Option Expr} {sl sh:Option SE} (hK:X.K=T.K) (ha:aU T E X a sa) (hl:pO T E X lo sl) (hh:pO T E X hi sh):aU T E X (.Subscript a (.Slice lo hi none p2) pos) (aY sa sl sh):=by
 refine dr (Do (zi5.or (sl_tup.or EL)) ha hl hh) fun σ H Q ⟨ι,h,en,S,er,q⟩=>⟨ι,h,en,S,er,q.bind fun x h1 ι1 H1 u g1 S1 r1 q1=>?_⟩
 refine yA (E:=E) S1 (er.mono g1) q1 fun l h2 ι2 H2 g2 S2 q2=>yA (E:=E) S2 (er.mono (g1.trans g2)) q2 fun w h3 ι3 H3 g3 S3 q3=>?_
 have r3:=r1.mono (g2.trans g3)
 unfold bI at q3
 split at q3
 ·obtain ⟨ad,us,rfl,sq,rs⟩:=fB S3 r3 rfl
  exact .inl ⟨ad,us,rfl,hK▸sq,fun p n=>jI S3 rs.cut n q3⟩
 ·obtain ⟨rfl,hz,hc⟩:=fC r3
  exact .inr (.inr ⟨_,rfl,hz,q3.now S3 (FJ hz hc)⟩)
 ·rename_i xs
  split at q3
  ·rename_i hz
   obtain ⟨ad,us,rfl,sq,rs⟩:=ki r3
   exact .inr (.inl ⟨ad,us,rfl,hK▸sq,by rw [<- rs.length];exact hz,fun p n=>sf S3 rs.cut n q3⟩)
  ·exact q3.elim
 ·split at q3
  ·rename_i xs hn
   obtain ⟨ad,us,rfl,sq,rs⟩:=fB (xs:=xs) S3 r3 (by simp [fK,hn])
   exact .inl ⟨ad,us,rfl,hK▸sq,fun p n=>jI S3 rs.cut n q3⟩
  ·exact q3.elim
 ·exact q3.elim
theorem fD {x:Str} {i:Int} {p:Pos} (hg:Gl X x) (hm:∃ t,X.mg x=some (.int i t)) (hd:(x == ("__debug__" : Str))=false:=by decide):aU T E X (.Name x p) (af (.int i)):=by
 obtain ⟨t,hm⟩:=hm
 exact EV hg hm hd
end
def DG (K:PySem.W.Frag) (mg:Str->Option Value) (x:Str) (st:Stmt) (ps:List Str):Prop:=∃ f fd,mg x=some (.ref f)/\PySem.W.keepIn K (.ref f)=true/\Binds K fd ps []/\Fun K x x st f fd
end Sm
namespace Sm
open PySem PySem.Spec L2
def yB (N:List Str) (sc:Scope) (x₁:Str) (jf:List (Nat×Str)) (scope:Scope):Bool :=
 decide (x₁::jf.map (·.2)).Nodup && (scope.names.lookup x₁ == some .local) && jf.all (fun p=>N[p.1]? == some p.2) && jf.all (fun p=>scope.names.lookup p.2 == some .free) && (scope.kind == .function) &&
 scope.names.all (fun y=>y.2 != .cell) && scope.names.all (fun y=>y.2 != .free || sc.names.lookup y.1 == some .cell || sc.names.lookup y.1 == some .free) && scope.names.all (fun y=>y.2 != .local || scope.names.lookup y.1 == some .local)
theorem mC {X:Cx} {N:List Str} {sc scope:Scope} {x₁:Str} {jf:List (Nat×Str)} (hN:X.N=N) (hk:∀ x,X.env.kindOf x=sc.names.lookup x) (h:yB N sc x₁ jf scope=true):gH X x₁ jf scope:=by
 unfold yB at h
 simp only [Lz,ME,Lo,Ox,bne_iff_ne,Bool.or_eq_true] at h
 obtain ⟨⟨⟨⟨⟨⟨⟨h1,h2⟩,h3⟩,h4⟩,h5⟩,h6⟩,h7⟩,h8⟩:=h
 refine ⟨h1,h2,fun p hp=>by rw [hN];exact h3 p hp,h4,h5,fun y hy=>h6 y hy,fun y hy e=>?_,fun y hy e=>?_⟩
 ·rw [hk]
  rcases h7 y hy with (z | z) | z
  ·exact absurd e z
  ·exact .inl z
  ·exact .inr z
 ·rcases h8 y hy with z | z
  ·exact absurd e z
  ·exact z
end Sm
namespace Sm
open PySem PySem.Spec L2
theorem sG {T:Tb} {ι:Ix} {H:Hp}:∀ ns:List Int,RVs T ι H (ns.map AV.int) (ns.map V.int)
 | []=>.nil
 | n::ns=>.cons (.int n) (sG ns)
theorem sH {T:Tb} {H:Hp}:Sim T ⟨[],[]⟩ [] H:=⟨rfl,MY,(fun _ z=>nomatch z),(fun i o a e=>by simp at e)⟩
def sI (K:PySem.W.Frag):Sp:=fun vs H Q _=>∃ (a:Addr) (ns:List Int),vs=[.ref a]/\SqL K H a (ns.map V.int)/\ns.length<=63/\∀ H',Q (.bl true) H'
theorem FK {T:Tb} {F:Fn} (ht:∀ ns:List Int,ns.length<=63->∃ h',F [.fl (ns.map AV.int)] [] = .ok (.bl true) h'):∀ vs H Q E,sI T.K vs H Q E->jR T F vs H Q E:=by
 rintro vs H Q E ⟨a,ns,rfl,hs,hl,q⟩
 obtain ⟨h',e⟩:=ht ns hl
 refine ⟨⟨[],[]⟩,[],[.fl (ns.map AV.int)],sH,.cons ?_ .nil,?_⟩
 ·rcases hs with hs | hs
  ·exact .fl (by simp [Ix.all]) hs (sG ns)
  ·exact .kfl hs (sG ns)
 ·rw [e]
  intro ι' H' u g S r
  rw [iA r]
  exact q H'
theorem FN {P:Program} {w:World} {outer:List Env} {H:Hp} {s s':Shared} {e:Value} (h:dU P w outer H s (fun _ _ _=>False) e s'):False:=by
 obtain ⟨_,_,_,_,_,_,_,_,_,_,_,_,_,_,q⟩:=h
 exact q
end Sm
namespace Sm
open PySem PySem.Spec L2
@[simp] def nG:List AV->Option (List Int)
 | []=>some []
 | .int i::r=>(nG r).map (i :: ·)
 | _=>none
@[simp] def ie:Fn:=fun args h=>match args with
 | [.fl xs]=>match nG xs with
  | some ns=>.ok (.int ns.sum) h
  | none=>.bad
 | _=>.bad
@[simp] def jV (a b c:SE):SI:=fun en h=>(a en h).bind fun v h1=>(b en h1).bind fun w h2=>(c en h2).bind fun z h3=>match v,w,z with
 | .int i,.int j,.int k=>if i.natAbs<2 ^ 40/\j.natAbs<2 ^ 40/\0<k/\k<2 ^ 20 then .ok ((List.range (if i<j then (j-i-1) / k+1 else 0:Int).toNat).map (fun m:Nat=>.int (i+m*k)),none) h3 else .bad
 | _,_,_=>.bad
@[simp] def FO:F2:=fun x y h=>match x,y with
 | .bl a,.bl b=>.ok (.bl (a == b)) h
 | _,_=>.bad
@[simp] def nI:F2:=fun x y h=>match x,y with
 | .bl a,.bl b=>.ok (.bl (!(a == b))) h
 | _,_=>.bad
section
variable {T:Tb} {E:St->XK} {X:Cx} {pos p:Pos} {e a b c:Expr} {sa sb sc:SE}
theorem yC {ι:Ix} {H:Hp}:∀ {xs:List AV} {us:List V} {bs:List Int},RVs T ι H xs us->nG xs=some bs->us=bs.map V.int
 | _,_,_,.nil,e=>by cases e;rfl
 | _,_,bs,.cons (x:=x) r rs,e=>by
  unfold nG at e
  split at e
  ·rename_i hh;cases hh
  ·rename_i b r' hh
   cases hh
   obtain ⟨bs',e1,rfl⟩:=Lf.mp e
   rw [cI r,yC rs e1];rfl
  ·cases e
theorem b_sum (hK:X.K=T.K) (hc:X.calm=true:=by rfl):∃ r,CallR X (.builtin "sum") r/\jm T ie r:=by
 refine ⟨_,EA hc,fun ι h H xs us E Q S r q=>?_⟩
 unfold ie at q
 split at q
 ·split at q
  ·rename_i bs hb
   cases r with
   | cons r r' =>
    cases r'
    obtain ⟨a,us,rfl,sq,rs⟩:=fB S r rfl
    rw [yC rs hb] at sq
    exact ⟨a,bs,rfl,hK▸sq,q.now S (.int _)⟩
  ·exact q.elim
 ·exact q.elim
theorem FP {ι:Ix} {H:Hp} {lo c:Int} {n:Nat}:jl T (jF lo c n) ι H ((List.range n).map (fun m:Nat=>AV.int (lo+m*c))) none:=by
 constructor
 ·intro i ι' h' H' y g S _ e
  rw [Lw] at e
  obtain ⟨m,e1,rfl⟩:=Lf.mp e
  have hi:i<n:=by
   have:=(Kz.mp e1).1
   simpa using this
  rw [MS hi] at e1
  cases e1
  refine ⟨hi,?_⟩
  rintro u H2 ⟨rfl,rfl⟩
  exact ⟨S.refl,S,.int _⟩
 ·intro i ι' h' H' g S _ hl
  have hl':n<=i:=by simpa using hl
  exact hl'
theorem yD {tg:Expr} {p:Pos} (hg:Gl X "range") (hm:X.mg "range" = none) (ha:aU T E X a sa) (hb:aU T E X b sb) (hc:aU T E X c sc) (hs:starEach [a,b,c] X.env=[(false,eval a X.env),(false,eval b X.env),(false,eval c X.env)]:=by rfl) (hs2:starEach [b,c] X.env=[(false,eval b X.env),(false,eval c X.env)]:=by rfl) (hs3:starEach [c] X.env=[(false,eval c X.env)]:=by rfl) :
  lA T X tg (.Call (.Name "range" p) [a,b,c] [] pos) (jV sa sb sc) :=
 pI (EH hg hm (ak ha (ak hb (ak hc ar hs3) (by rw [hs2,hs3])) (by rw [hs,hs2])) hs hs2) fun σ H R ⟨ι,h,en,S,er,q⟩=>by
  unfold jV at q
  refine ⟨ι,h,en,S,er,?_⟩
  unfold aj
  cases e:sa en h with
  | bad=>rw [e] at q;exact q
  | ex c h1=>rw [e] at q;exact q.elim
  | ok v h1 =>
   rw [e] at q
   dsimp only [Out.bind] at q ⊢
   cases e':sb en h1 with
   | bad=>rw [e'] at q;exact q
   | ex c h1=>rw [e'] at q;exact q.elim
   | ok v' h2 =>
    rw [e'] at q
    dsimp only at q ⊢
    cases e'':sc en h2 with
    | bad=>rw [e''] at q;exact q
    | ex c h1=>rw [e''] at q;exact q.elim
    | ok v'' h3 =>
     rw [e''] at q
     dsimp only at q
     intro ι1 H1 u g1 S1 r1
     split at q
     ·rename_i hx
      split at hx
      ·split at hx
       ·rename_i hb
        cases hx
        cases r1 with
        | cons r r' =>
         cases r' with
         | cons r2 r3 =>
          cases r3 with
          | cons r4 r5 =>
           cases r5
           rw [cI r,cI r2,cI r4]
           exact ⟨_,_,_,rfl,hb,q ι1 H1 _ g1 S1 FP⟩
       ·cases hx
      ·cases hx
     ·exact q.elim
theorem mD {sts:List Stmt} {E:St->XK}:d8 T E X sts (fun _ _=>.bad):=fun pins s σ H D I ⟨ι,h,en,S,er,q⟩=>q.elim
theorem FQ:Op T X (compareOp .IsNot) nI:=by
 refine ⟨_,EM,fun ι h H x y u w E Q S rx ry p=>?_⟩
 unfold nI at p
 split at p
 ·rw [iA rx,iA ry];exact ⟨_,_,rfl,rfl,p.now S (.bl _)⟩
 ·exact p.elim
end
theorem FR:∀ {us:List Value},us.length=1->∃ a:Value,us=[a]
 | [a],_=>⟨a,rfl⟩
theorem FS:∀ {us:List Value},us.length=2->∃ a b:Value,us=[a,b]
 | [a,b],_=>⟨a,b,rfl⟩
theorem FT:∀ {us:List Value},us.length=3->∃ a b c:Value,us=[a,b,c]
 | [a,b,c],_=>⟨a,b,c,rfl⟩
theorem FV:∀ {us:List Value},us.length=4->∃ a b c d:Value,us=[a,b,c,d]
 | [a,b,c,d],_=>⟨a,b,c,d,rfl⟩
def cO:Nat:=100000000
end Sm
namespace Sm
open PySem PySem.Spec L2
@[simp] def mE:F2:=fun x y h=>match fK x h,fK y h with
 | some xs,some ys=>if xs.length+ys.length<=sizeLine then .ok (.ref h.length) (h++[.lst (xs++ys)]) else .bad
 | _,_=>.bad
section
variable {T:Tb} {E:St->XK} {X:Cx} {pos:Pos}
theorem FW (hK:X.K=T.K):Op T X (binaryOp .Add) mE:=by
 refine ⟨_,xH,fun ι h H x y u w E Q S rx ry p=>?_⟩
 unfold mE at p
 split at p
 ·split at p
  ·rename_i e1 e2 hz
   obtain ⟨a,us,rfl,q1,r1⟩:=fB S rx e1
   obtain ⟨b,ws,rfl,q2,r2⟩:=fB S ry e2
   exact ⟨a,b,us,ws,rfl,rfl,hK▸q1,hK▸q2,by rw [<- r1.length,<- r2.length];exact hz,fun l n=>xW S (r1.append r2) n p⟩
  ·exact p.elim
 ·exact p.elim
end
end Sm
namespace Sm
open PySem PySem.Spec L2
def FY {α:Type} (c:En->AH->Out α):En->AH->Out α:=fun en h=>match en with
 | some (.tup [y,z])::r=>c (some y::some z::r) h
 | _=>.bad
@[simp] theorem Kq {α:Type} (c:En->AH->Out α) (y z:AV) (r:En) (h:AH):FY c (some (.tup [y,z])::r) h=c (some y::some z::r) h:=rfl
section
variable {T:Tb} {E:St->XK} {X:Cx} {pos px p1 p2:Pos} {kk:Nat} {iter elt:Expr} {ifs:List Expr} {scope:Scope} {x₁ x₂:Str} {jf:List (Nat×Str)} {it:SI} {cc:SB} {ce:SE}
end
@[simp] def Kr:Fn:=fun args h=>match args with
 | [.int n]=>if 0<=n/\n<=2 ^ 24 then .ok (.fl (dh 0 n.toNat)) h else .bad
 | _=>.bad
@[simp] def yE (a st:SE):SE:=fun en h=>(a en h).bind fun x h1=>(st en h1).bind fun y h2=>match fK x h2,y with
 | some xs,.int i=>if i=1\/i = -1 then .ok (.fl (if i=1 then xs else xs.reverse)) h2 else .bad
 | _,_=>.bad
section
variable {T:Tb} {E:St->XK} {X:Cx} {pos p pos' p':Pos} {a:Expr} {sa:SE}
theorem FZ {st:Expr} {ss:SE} {p2:Pos} (hK:X.K=T.K) (ha:aU T E X a sa) (hs:aU T E X st ss):aU T E X (.Subscript a (.Slice none none (some st) p2) pos) (yE sa ss):=by
 refine dr (ES ha hs) fun σ H Q ⟨ι,h,en,S,er,q⟩=>⟨ι,h,en,S,er,q.bind fun x h1 ι1 H1 u g1 S1 r1 q1=>⟨ι1,h1,en,S1,er.mono g1,q1.bind fun y h2 ι2 H2 w g2 S2 r2 q2=>?_⟩⟩
 split at q2
 ·rename_i xs i hx
  split at q2
  ·rename_i hi
   obtain ⟨aa,us,rfl,sq,rs⟩:=fB S2 (r1.mono g2) hx
   rw [cI r2]
   refine ⟨aa,us,i,rfl,hK▸sq,rfl,hi,fun l hl=>jI S2 ?_ hl q2⟩
   split
   ·exact rs
   ·exact rs.reverse
  ·exact q2.elim
 ·exact q2.elim
end
end Sm
namespace Sm
open PySem PySem.Spec L2
def yF:Expr->Bool
 | .Starred _ _=>false
 | _=>true
theorem F3 (a:Expr) (es:List Expr) (env:Env) (h:yF a=true):starEach (a::es) env=(false,eval a env)::starEach es env:=by
 cases a<;>first | rfl | cases h
section
variable {T:Tb} {E:St->XK} {X:Cx} {a:Expr} {es:List Expr} {sa:SE}
theorem ig (ha:aU T E X a sa) (hr:gS T E X es as) (hn:yF a=true:=by rfl):gS T E X (a::es) (aj sa as):=ak ha hr (F3 _ _ _ hn)
end
section
variable {T:Tb} {E:St->XK} {X:Cx} {pos:Pos} {a b:Expr} {sa sb:SE} {sts:List Stmt} {s1:SS}
end
end Sm
namespace L2
open PySem PySem.Spec PyProof.Rows
section
variable {X:Cx}
theorem yG (z:Str):∀ (cs:List Nat) (its:List Value),its.length=cs.length->(∀ (j:Nat) (v:Value),its[j]? = some v->∃ (c:Nat) (u:Tok),cs[j]? = some c/\v=Value.str ⟨#[c]⟩ u)->Vals (cs.map fun c=>V.str ⟨#[c]⟩) its
 | [],[],_,_=>.nil
 | c::cs,v::its,hl,h=>by
  obtain ⟨c',u,e,rfl⟩:=h 0 v rfl
  have e':c=c' := by simpa using e
  subst e'
  exact .cons ⟨u,rfl⟩ (yG z cs its (by simpa using hl) fun j v hv=>h (j+1) v (by simpa using hv))
theorem F4 (hc:X.calm=true):CallR X (.type "list") (fun xs H Q=>∃ z:Str,xs=[.str z]/\z.length<=sizeLine/\∀ l,H l=none->Q (.ref l) (aV H l (.lst (z.cps.toList.map fun c=>V.str ⟨#[c]⟩)))):=by
 intro pins s σ H xs us Q I r h
 obtain ⟨z,rfl,hz,q⟩:=h
 obtain ⟨u,rfl,t,rfl⟩:=jB r
 refine call_list_str (I.ok.hd hc) z t (fun h' tk acc' c' kp e it=>?_) hz
 have rv:Vals (z.cps.toList.map fun c=>V.str ⟨#[c]⟩) acc'.toList:=yG z _ _ (by
  rw [LO,LO];exact it.1) fun j v hv=>by
   obtain ⟨c,u,a,b⟩:=it.2 j v (by simpa using hv)
   exact ⟨c,u,by simpa using a,b⟩
 have lz:(z.cps.toList.map fun c=>V.str ⟨#[c]⟩).length<=sizeLine:=by
  rw [K4,LO];exact hz
 exact ⟨.ref s.heap.objs.size,_,I.laid (t' := tk) kp (KC _) (show ObjOk X.prog X.w _ h' _ (.lst (z.cps.toList.map fun c=>V.str ⟨#[c]⟩)) from ⟨lz,acc'.toList,c',rv,by simpa using e⟩),rfl,q _ (I.hok.fresh (KC _))⟩
end
end L2
namespace Sm
open PySem PySem.Spec L2
@[simp] def gI:Fn:=fun args h=>match args with
 | [.str z]=>.ok (.fl (z.cps.toList.map fun c=>.str ⟨#[c]⟩)) h
 | [.tup xs]=>.ok (.fl xs) h
 | [.fl xs]=>.ok (.fl xs) h
 | [.ref n]=>match h[n]? with
  | some (.lst xs)=>.ok (.fl xs) h
  | _=>.bad
 | _=>.bad
section
variable {T:Tb} {X:Cx}
theorem yH {ι:Ix} {H:Hp}:∀ (cs:List Nat),(∀ c∈cs,c<0x110000)->RVs T ι H (cs.map fun c=>AV.str ⟨#[c]⟩) (cs.map fun c=>V.str ⟨#[c]⟩)
 | [],_=>.nil
 | c::cs,h=>.cons (.str (show (1:Nat)<=sizeLine by decide) (by
   have:=h c (KF ..)
   simp [this])) (yH cs fun d hd=>h d (KJ _ hd))
theorem pQ (hK:X.K=T.K) (hc:X.calm=true:=by rfl):∃ r,CallR X (.type "list") r/\jm T gI r:=by
 refine ⟨_,(F4 hc).or Dx,fun ι h H xs us E Q S r q=>?_⟩
 unfold gI at q
 split at q
 ·cases r with
  | cons r r' =>
   cases r'
   cases r with
   | str n o =>
    refine .inl ⟨_,rfl,n,fun l nn=>jI S (yH _ fun c hcc=>?_) nn q⟩
    have:=LG.mp o c (by simpa using hcc)
    simpa using this
 ·cases r with
  | cons r r' =>
   cases r'
   obtain ⟨a,us,rfl,sq,rs⟩:=ki r
   exact .inr ⟨a,us,rfl,.inr (hK▸sq),fun l n=>jI S rs n q⟩
 ·cases r with
  | cons r r' =>
   cases r'
   obtain ⟨a,us,rfl,sq,rs⟩:=fB S r rfl
   exact .inr ⟨a,us,rfl,.inl (hK▸sq),fun l n=>jI S rs n q⟩
 ·cases r with
  | cons r r' =>
   cases r'
   split at q
   ·rename_i xs hn
    obtain ⟨a,us,rfl,sq,rs⟩:=fB (xs:=xs) S r (by simp [fK,hn])
    exact .inr ⟨a,us,rfl,.inl (hK▸sq),fun l n=>jI S rs n q⟩
   ·exact q.elim
 ·exact q.elim
end
end Sm
namespace L2
open PySem PySem.Spec PyProof.Rows
namespace HT
section
variable {prog:Program} {w:World} {A:Around} {E:Value->Shared->Prop} {s:Shared}
end
end HT
section
variable {X:Cx}
end
end L2
namespace Sm
open PySem PySem.Spec L2
section
variable {T:Tb} {E:St->XK} {X:Cx} {pos:Pos} {a:Expr} {sa:SE}
end
end Sm
namespace L2
open PySem PySem.Spec PyProof.Rows
def lB (x:Str):It :=
 ⟨fun i _=>i<x.cps.size,fun i H v H' => ∃ (T:Addr) (c:Nat),v = .ref T/\H T=none/\H'=aV H T (.tup [.int i,.str ⟨#[c]⟩])/\x.cps[i]? = some c,fun i _=>x.cps.size<=i⟩
theorem yI {P:Program} {w:World} {A:Around} (hh:A.handled=none) (it:Addr) (x:Str) (t:Tok) :
  Draws P w A it [it] x.cps.size (SignAt x) (fun i h=>h.IsStrIter it (strIterType x) x t i):=by
 cases ha:x.cps.all (· < 128) with
 | false =>
  have e:strIterType x = "str_iterator" := by simp [strIterType,ha]
  rw [e]
  exact Draws.strWide hh it x t
 | true =>
  have e:strIterType x = "str_ascii_iterator" := by simp [strIterType,ha]
  rw [e]
  exact Draws.strAscii hh it x t
theorem F5 {P:Program} {w:World} {K:PySem.W.Frag} {es:List Expr} {k:Nat} {tp:Pos} (it e:Addr) (x:Str) (t:Tok) (hei:e≠it) :
  gE P w K (.Tuple es k tp) (lB x) [e,it] e (fun i h=>i<=x.cps.size/\(∃ old,IsEnum h e it i old)/\h.IsStrIter it (strIterType x) x t i) where
 mem:=by simp
 obj:=fun i h st b hb=>by
  obtain ⟨_,⟨old,he⟩,o,ho,hc,hd⟩:=st
  have hb':b=e\/b=it:=by simpa using hb
  rcases hb' with rfl | rfl
  ·exact ⟨_,he,fun v z=>by
    have z':Data.fields _=Data.cell v:=z
    cases z'⟩
  ·exact ⟨o,ho,fun v z=>by rw [hd] at z;cases z⟩
 keep:=fun i h h' st k=>by
  obtain ⟨hle,⟨old,he⟩,o,ho,r⟩:=st
  exact ⟨hle,⟨old,k e (by simp) _ he⟩,o,k it (by simp) o ho,r⟩
 item:=by
  intro X hP hw hK hc i pins s σ H E I hf st hg
  subst hP hw hK
  obtain ⟨hle,⟨old,he⟩,hit⟩:=st
  have D:Draws X.prog X.w X.A.in1 it [it] x.cps.size (SignAt x) (fun i h=>h.IsStrIter it (strIterType x) x t i):=yI (A:=X.A.in1) (show X.A.in1.handled=none from I.ok.hd hc) it x t
  refine wpAny_pyNext_enum_itemD D he hit hg hei (by simpa using hei) fun v h1 tk hv ho hit1 hT hsz hk=>?_
  obtain ⟨c,u,hcp,rfl⟩:=hv
  refine ⟨.ref s.heap.objs.size,rfl,wpAny_letOwnedTupleGo_enum ho fun h2 he2 hs2=>?_⟩
  replace hs2:Heap.SameBut e h1 h2:=hs2
  have helt:e<s.heap.objs.size:=K5 he
  have I1:Inv X pins σ H { s with heap:=h2,toks:=tk+1 }:=I.turnedL (fp:=[e,it]) (fun b o hb q=>by
   have n1:b≠e:=fun z=>hb (by simp [z])
   have n2:b≠it:=fun z=>hb (by simp [z])
   exact (hs2.2 b n1).trans (hk b o n1 n2 q)) hf
  have hT2:h2.get? s.heap.objs.size=some { cls:=.type "tuple",data:=.seq #[.int i tk,.str ⟨#[c]⟩ u] }:=(hs2.2 _ (Nat.ne_of_gt helt)).trans hT
  have fp:=I.fpOk (H' := H) (KC s.heap.objs.size) (I.hok.fresh (KC _))
  obtain ⟨f0,f1,f2,f3,f4,f5⟩:=fp
  have I2:Inv X pins σ (aV H s.heap.objs.size (.tup [.int i,.str ⟨#[c]⟩])) { s with heap:=h2,toks:=tk+1 } :=
   I1.adopt (T:=s.heap.objs.size) f0 (I.sz) f1 f4 f5 ⟨by show 2<=sizeLine;decide,[.int i tk,.str ⟨#[c]⟩ u],.cons ⟨_,rfl⟩ (.cons ⟨u,rfl⟩ .nil),⟨_,hT2,rfl,_,rfl⟩⟩
  refine ⟨.ref s.heap.objs.size,_,I2,rfl,⟨s.heap.objs.size,c,rfl,f0,rfl,hcp⟩,⟨hg,⟨_,by simpa using he2⟩,?_⟩,fun b hb=>?_⟩
  ·obtain ⟨o,q,r⟩:=hit1
   exact ⟨o,(hs2.2 it (Ne.symm hei)).trans q,r⟩
  ·obtain ⟨g0,_⟩:=hf b hb
   obtain ⟨o,hob,_⟩:∃ o,s.heap.get? b=some o/\True:=by
    have hb':b=e\/b=it:=by simpa using hb
    rcases hb' with rfl | rfl
    ·exact ⟨_,he,trivial⟩
    ·obtain ⟨o,q,_⟩:=hit
     exact ⟨o,q,trivial⟩
   rw [cF (Lv (K5 hob))]
   exact g0
 done:=by
  intro X hP hw hK hc i pins s σ H E I hf st hg
  subst hP hw hK
  obtain ⟨hle,⟨old,he⟩,hit⟩:=st
  have D:Draws X.prog X.w X.A.in1 it [it] x.cps.size (SignAt x) (fun i h=>h.IsStrIter it (strIterType x) x t i):=yI (A:=X.A.in1) (show X.A.in1.handled=none from I.ok.hd hc) it x t
  have ei:i=x.cps.size:=NC hle hg
  subst ei
  exact wpAny_pyNext_enum_endD D he hit fun h' eb=>⟨rfl,I.turnedL (fp:=[e,it]) (t' := s.toks) (fun b o hb q=>eb b o (fun z=>hb (by simp [z])) q) hf⟩
 self:=fun _ _ _ _ _ st h=>by
  obtain ⟨_,⟨old,he⟩,_⟩:=st
  exact Os he h
section
variable {X:Cx}
def F6 (ta:TA):TI:=fun σ H R=>ta σ H fun vs H1=>∃ x,vs=[.str x]/\R (lB x) H1
theorem F7 {l:Expr} {ta:TA} {p pos tp:Pos} {es:List Expr} {k:Nat} (hg:Gl X "enumerate") (hm:X.mg "enumerate" = none) (ha:PA X [l] ta) (hs:starEach [l] X.env=[(false,eval l X.env)]:=by rfl) :
  PI X (.Tuple es k tp) (.Call (.Name "enumerate" p) [l] [] pos) (F6 ta):=by
 intro pins s σ H R I h
 refine Call_ (mf I hg hm boot_enumerate (LZ (thn (ha pos pins s σ H _ I h) fun us s1 ⟨vs,H1,I1,r1,q1⟩=>?_) hs rfl))
 obtain ⟨x,e,q⟩:=q1
 subst e
 cases r1 with
 | cons r rr =>
  cases rr
  obtain ⟨tk,rfl⟩:=r
  refine call_enumerate_str fun h' he hit hsz hk=>Os he ?_
  refine ⟨s1.heap.objs.size+1,[s1.heap.objs.size+1,s1.heap.objs.size],_,_,H1,rfl,I1.kept (t' := s1.toks) fun b o e=>hk b o e,F5 _ _ x tk (Nat.succ_ne_self _),⟨Lc _,⟨_,he⟩,hit⟩,fun b hb=>?_,q⟩
  have hb':b=s1.heap.objs.size+1\/b=s1.heap.objs.size:=by simpa using hb
  rcases hb' with rfl | rfl
  ·exact I1.fpOk (M4 _) (I1.hok.fresh (M4 _))
  ·exact I1.fpOk (KC _) (I1.hok.fresh (KC _))
end
end L2
namespace Sm
open PySem PySem.Spec L2
def nJ (z:Str):List AV:=z.cps.toList.map fun c=>.str ⟨#[c]⟩
@[simp] def lC (a:SE):SI:=fun en h=>(a en h).bind fun v h1=>match v with
 | .str z=>.ok (numbered 0 (nJ z),none) h1
 | _=>.bad
section
variable {T:Tb} {E:L2.St->XK} {X:Cx} {pos:Pos} {a:Expr} {sa:SE}
theorem F9 {ι:Ix} {H:Hp} {z:Str} (hc:z.cps.all (· < 0x110000)=true):jl T (lB z) ι H (numbered 0 (nJ z)) none:=by
 constructor
 ·intro i ι' h' H' x g S _ e
  rw [yd] at e
  obtain ⟨y,e0,rfl⟩:=Lf.mp e
  unfold nJ at e0
  rw [Lw] at e0
  obtain ⟨c,ec,rfl⟩:=Lf.mp e0
  have hi:i<z.cps.size:=by simpa using (Kz.mp ec).1
  refine ⟨hi,?_⟩
  rintro u2 H2 ⟨t,c2,rfl,hn,rfl,hy⟩
  have hy':z.cps.toList[i]? = some c2:=by simpa using hy
  rw [ec] at hy'
  cases hy'
  have g2:=S.growNew (o:=.tup [.int i,.str ⟨#[c]⟩]) hn
  refine ⟨g2,S.new hn,.tup (S.fresh hn) gD (.cons ?_ (.cons ?_ .nil))⟩
  ·rw [Nq]
   exact .int _
  ·have hm:c∈z.cps:=by simpa using Ld ec
   exact .str (by show 1<=sizeLine;decide) (by simpa using (LG.mp hc) c hm)
 ·intro i ι' h' H' g S _ hl
  rw [ye] at hl
  unfold nJ at hl
  show z.cps.size<=i
  simpa using hl
theorem Ga {p tp:Pos} {es:List Expr} {k:Nat} (hK:X.K=T.K) (hg:Gl X "enumerate") (hm:X.mg "enumerate" = none) (ha:aU T E X a sa) (hs:starEach [a] X.env=[(false,eval a X.env)]:=by rfl):lA T X (.Tuple es k tp) (.Call (.Name "enumerate" p) [a] [] pos) (lC sa) :=
 pI (F7 hg hm (ak ha ar hs) hs) fun σ H R ⟨ι,h,en,S,er,q⟩=>by
  unfold lC at q
  refine ⟨ι,h,en,S,er,?_⟩
  unfold aj
  cases e:sa en h with
  | bad=>rw [e] at q;exact q
  | ex c h1=>rw [e] at q;exact q.elim
  | ok v h1 =>
   rw [e] at q
   intro ι1 H1 u g1 S1 r1
   dsimp only [Out.bind] at q
   cases v with
   | str z =>
    cases r1 with
    | cons r r' =>
     cases r'
     obtain ⟨rfl,hz,hc⟩:=fC r
     exact ⟨_,rfl,q ι1 H1 _ g1 S1 (F9 hc)⟩
   | _=>exact q.elim
end
end Sm
namespace L2
open PySem PySem.Spec PyProof.Rows
abbrev yJ (xs:Array Value) (n:Nat) (sl:Array (Option Value)):Obj:={ cls:=.type "list",data:=.seq xs n,slots:=sl }
theorem Gb {l b:Addr} {xs ys:Array Value} {n m:Nat} {sl:Array (Option Value)} (c : ¬ (!xs.isEmpty && Builtin.List.listTooLong (xs.size+ys.size))=true) (c1:xs.size<=sizeLine) (c2:xs.size+ys.size<=sizeLine+1) :
  Meets (Builtin.«list.extend» ⟨[.ref l,.ref b],[]⟩) (fun _ R s=>s.heap.get? l=some (yJ xs n #[])/\s.heap.get? b=some (yJ ys m sl)/\R (.ok (.ret .none)) { s with heap:=s.heap.update l (Obj.mapSeq fun x=>x++ys),toks:=s.toks }):=by
 refine .of_wp fun _ _ _ _ s z=>?_
 cases s
 have z1:=z.1
 have z2:=z.2.1
 have z3:=z.2.2
 have k1:=PySem.AutoSeq1.idx_int
 have k2:=PySem.AutoSeq1.sub_tuple_tuple
 have k3:=PySem.AutoSeq1.sub_list_list
 have k4:=PySem.AutoSeq1.sub_tuple_list
 have k5:=PySem.AutoSeq1.sub_list_tuple
 have sz:(xs++ys).size<=sizeLine+1:=by rw [Oh];exact c2
 wp_walk using (wpAny_updateSeq z1 rfl (hz:=c1) (_hz' := sz)),MJ z1,MJ z2
 exact ⟨_,rfl,z3⟩
section
variable {X:Cx}
def Gc (K:PySem.W.Frag):V->List V->Hp->VK->Prop:=fun x vs H Q=>∃ l b xs zs,x = .ref l/\vs=[.ref b]/\H l=some (.lst xs)/\SqL K H b zs/\xs.length+zs.length<=sizeLine/\Q .non (aV H l (.lst (xs++zs)))
theorem Gd:jc X "list.extend" (Gc X.K):=by
 intro pins s σ H x vs v us Q I rx rv h
 obtain ⟨l,b,xs,zs,rfl,rfl,hH,hB,hz,q⟩:=h
 cases rx
 obtain ⟨u,rfl,ru⟩:=rv.one
 cases ru
 obtain ⟨z,its,n,r,hl,e⟩:=I.lstM hH
 obtain ⟨its2,r2,⟨⟨oc,od,oda,osl⟩,n2,e1,e2,e3,e4⟩,hz2⟩:=I.list hB
 dsimp only at e2 e3 e4
 subst e2 e3 e4
 have hl2:=r2.length
 have hsz:its.toArray.size+its2.toArray.size<=sizeLine:=by rw [KY,KY];lia
 have hlong : ¬ (!its.toArray.isEmpty && Builtin.List.listTooLong (its.toArray.size+its2.toArray.size))=true:=by
  rw [DC hsz,Bool.and_false]
  exact K9
 refine Ow F.slot_list_extend ⟨_,e,rfl⟩ F.entry_list_extend (F.args_list_extend_2 _ _)
  (Gb (n:=n) (m:=n2) (sl:=osl) hlong (by rw [KY];lia) (by lia)) ⟨e,e1,?_⟩
 refine ⟨.non,_,I.lset (its' := its++its2) hH e (by simp) (r.append r2) ?_,rfl,q⟩
 rw [KH]
 lia
end
end L2
namespace Sm
open PySem PySem.Spec L2
@[simp] def kn:FM:=fun x vs h=>match x,vs with
 | .ref n,[y]=>match h[n]?,fK y h with
  | some (.lst xs),some ys=>if xs.length+ys.length<=sizeLine then .ok .non (h.set n (.lst (xs++ys))) else .bad
  | _,_=>.bad
 | _,_=>.bad
theorem yK {T:Tb} {X:Cx} (hK:X.K=T.K):∃ r,jc X "list.extend" r/\mB T kn r:=by
 refine ⟨_,Gd,fun ι h H x xs u us E Q S rx rs q=>?_⟩
 unfold kn at q
 split at q
 ·rename_i n y
  split at q
  ·rename_i ys zs hn hy
   split at q
   ·rename_i hl
    cases rx with
    | @ref _ ad hr =>
     cases rs with
     | @cons _ uu _ _ r r' =>
      cases r'
      obtain ⟨o,e1,ws,rfl,rw_⟩:=S.obj n _ ad hn hr
      obtain ⟨bd,ws2,rfl,sq,rw2⟩:=fB S r hy
      have g:=S.growSet (u:=.lst (ws++ws2)) hr
      exact ⟨ad,bd,ws,ws2,rfl,rfl,e1,hK▸sq,by rw [<- rw_.length,<- rw2.length];exact hl,q ι _ _ g (S.set hr ⟨_,rfl,(rw_.mono g).append (rw2.mono g)⟩) .non⟩
   ·exact q.elim
  ·exact q.elim
 ·exact q.elim
section
variable {T:Tb} {E:L2.St->XK} {X:Cx} {pos:Pos} {a b:Expr} {sa sb:SE}
end
end Sm
namespace L2
open PySem PySem.Spec
theorem Room.m {j k:Nat} {A:Around} (hr:Room k A) (h:Nat.ble j k=true:=by rfl):Room j A:=hr.mono (Nat.le_of_ble_eq_true h)
end L2
namespace Sm
open PySem PySem.Spec L2
def DK (K:PySem.W.Frag) (x:Str) (st:Stmt):Prop:=∃ f fd,PySem.W.nsIn K mainGlobals x=some (some (.ref f))/\Fun K x x st f fd
def DN (K:PySem.W.Frag) (C:Addr) (m q:Str) (st:Stmt):Prop:=∃ f fd,iM K C m f/\Fun K m q st f fd
def gb (K:PySem.W.Frag) (cls:Nat->Option Addr) (c:Nat) (m q:Str) (st:Stmt) (ps:List Str):Prop:=∃ C f fd,cls c=some C/\Cls K C/\iM K C m f/\Binds K fd ps []/\Fun K m q st f fd
def DI (K:PySem.W.Frag) (cls:Nat->Option Addr) (mg:Str->Option Value) (c:Nat) (x q:Str) (st:Stmt) (ps:List Str):Prop:=∃ C f fd,cls c=some C/\mg x=some (.ref C)/\Mk K C f/\Binds K fd ps []/\Fun K "__init__" q st f fd
section
variable {P:Program} {w:World} {K:PySem.W.Frag} {mg:Str->Option Value} {base h:Heap} {T:Tb} {x m q:Str} {st:Stmt} {f C:Addr} {N ps:List Str} {k c:Nat} {b:SS} {cls:Nat->Option Addr}
section
variable {oc:Value} {od an:Option Addr} {osl:Array (Option Value)} {kV doc pm cdv ct:Value}
theorem dk (a:PySem.W.nsIn K mainGlobals x=some (some (.ref f))) (l:K.lookup f=some ⟨oc,od,.func (PySem.W.fnOf x x (kT st) (jd st) (aS st) .none kV doc pm an cdv ct),osl⟩)
  (c:PySem.W.codeIn K cdv x=true) (k:PySem.W.keepIn K (.ref f)=true):DK K x st:=⟨f,_,a,xy l c k⟩
theorem dn (a:PySem.W.findIn K (.ref C) m=some (some (.ref f))) (i:PySem.W.isFn K (.ref f)=true) (l:K.lookup f=some ⟨oc,od,.func (PySem.W.fnOf m q (kT st) (jd st) (aS st) .none kV doc pm an cdv ct),osl⟩)
  (c:PySem.W.codeIn K cdv q=true) (k:PySem.W.keepIn K (.ref f)=true):DN K C m q st:=⟨f,_,⟨a,i,k⟩,xy l c k⟩
end
abbrev BA (x q:Str) (st:Stmt) (us:List Value) (r:List (Str×Value)):Prop:=∀ (kV doc pm:Value) (an:Option Addr) (cdv ct:Value),bindArgs (PySem.W.fnOf x q (kT st) (jd st) (aS st) .none kV doc pm an cdv ct) ⟨us,[]⟩=pure r
def BL (x q:Str) (st:Stmt) (ps:List Str):Prop:=∀ (us:List Value),us.length=ps.length->BA x q st us (ps.zip us)
theorem iR {p1:Str} (h:∀ a,BA x q st [a] [(p1,a)]:=by exact fun _ _ _ _ _ _ _=>rfl):BL x q st [p1]:=fun us e=>by obtain ⟨_,rfl⟩:=FR e;exact h _
theorem dF {p1 p2:Str} (h:∀ a b,BA x q st [a,b] [(p1,a),(p2,b)]:=by exact fun _ _ _ _ _ _ _ _=>rfl):BL x q st [p1,p2]:=fun us e=>by obtain ⟨_,_,rfl⟩:=FS e;exact h _ _
theorem fi {p1 p2 p3:Str} (h:∀ a b c,BA x q st [a,b,c] [(p1,a),(p2,b),(p3,c)]:=by exact fun _ _ _ _ _ _ _ _ _=>rfl):BL x q st [p1,p2,p3]:=fun us e=>by obtain ⟨_,_,_,rfl⟩:=FT e;exact h _ _ _
theorem sJ {p1 p2 p3 p4:Str} (h:∀ a b c d,BA x q st [a,b,c,d] [(p1,a),(p2,b),(p3,c),(p4,d)]:=by exact fun _ _ _ _ _ _ _ _ _ _=>rfl):BL x q st [p1,p2,p3,p4]:=fun us e=>by obtain ⟨_,_,_,_,rfl⟩:=FV e;exact h _ _ _ _
theorem dg (X:K.In h) (G:h.Ns mainGlobals mg) (d:DK K x st) (hb:BL x x st ps):DG K mg x st ps:=by
 obtain ⟨f,fd,a,F⟩:=d
 exact ⟨f,fd,Mi X G a,F.kp,F.binds fun _ _ _ _ _ _ us hl=>hb us hl _ _ _ _ _ _,F⟩
theorem dm (hc:cls c=some C) (k:Cls K C) (d:DN K C m q st) (hb:BL m q st ps):gb K cls c m q st ps:=by
 obtain ⟨f,fd,M,F⟩:=d
 exact ⟨C,f,fd,hc,k,M,F.binds fun _ _ _ _ _ _ us hl=>hb us hl _ _ _ _ _ _,F⟩
theorem di (hc:cls c=some C) (hx:mg x=some (.ref C)) (mk:PySem.W.makesIn K C=true) (kc:PySem.W.keepIn K (.ref C)=true) (d:DN K C "__init__" q st) (hb:BL "__init__" q st ps):DI K cls mg c x q st ps:=by
 obtain ⟨f,fd,M,F⟩:=d
 exact ⟨C,f,fd,hc,hx,⟨mk,M.at_,M.fn,kc⟩,F.binds fun _ _ _ _ _ _ us hl=>hb us hl _ _ _ _ _ _,F⟩
theorem sL {fa:Addr} {p:Str} (X:K.In h) (G:h.Ns mainGlobals mg) (hfa:mg x=some (.ref fa)) (d:DK K x st) (hb:BL x x st [p]):∃ fd:FuncData,(∀ (s:Shared) (v:Value),BindsTo s fd ⟨[v],[]⟩ [(p,v)])/\Fun K x x st fa fd:=by
 obtain ⟨f,fd,a,F⟩:=d
 have e:=hfa.symm.trans (Mi X G a)
 cases e
 refine ⟨fd,fun s v=>?_,F⟩
 obtain ⟨oc,od,kV,doc,pm,an,cdv,ct,osl,rfl,lk,hcd⟩:=F.ex
 exact .of_eq (hb [v] rfl _ _ _ _ _ _)
theorem bD {sc:Scope} (h1:sc.kind = .function:=by rfl) (h2:sc.isCoroutine=false:=by rfl) (h3:sc.isGenerator=false:=by rfl) (h4:N.Nodup:=by decide +kernel) (h5:N.take ps.length=ps:=by rfl)
  (h6:∀ x∈ps,sc.names.lookup x=some .local\/sc.names.lookup x=some .cell:=by decide +kernel) (h7:∀ y∈sc.names,y.2 ≠ .free:=by decide +kernel):aq N ps sc:=⟨h1,h2,h3,h4,h5,h6,h7⟩
abbrev pR (P:Program) (w:World) (mg:Str->Option Value) (base:Heap) (T:Tb) (q:Str) (st:Stmt) (f:Addr) (N:List Str) (k:Nat) (b:SS):Prop :=
 ∀ {cdv:Value} {A:Around} {outer:List Env} {s:Shared} {H:Hp} {E:XK},Room k (A.deeper (PyProof.Rows.envOfC q (aS st) s.heap.objs.size f cdv))->CA T (fun _=>E) (cV (dU P w) P w T.K mg base N q (aS st) f cdv A outer s H E) ->
  (A.deeper (PyProof.Rows.envOfC q (aS st) s.heap.objs.size f cdv)).units+64<cLine->N.Nodup->d8 T (fun _=>E) (cV (dU P w) P w T.K mg base N q (aS st) f cdv A outer s H E) (jd st) b
theorem gf (d:DG T.K mg x st ps) (S:aq N ps (aS st)) (hb:∀ {f},pR P w mg base T x st f N k b):GF P w T mg base (k+1) x (aI ps.length N.length b):=by
 obtain ⟨f,fd,h1,h2,h3,h4⟩:=d
 exact ⟨f,fd,_,h1,h2,h3,pK h4 rfl S fun cdv A outer s H E hr C=>hb hr C (jE hr) S.nd⟩
theorem gm (d:gb T.K T.cls c m q st ps) (S:aq N ps (aS st)) (no:m∉T.fields c) (hb:∀ {f},pR P w mg base T q st f N k b):GM P w T mg base (k+1) c m (aI ps.length N.length b):=by
 obtain ⟨C,f,fd,h0,hc,h1,h3,h4⟩:=d
 exact ⟨⟨C,f,fd,_,h0,hc,h1,h3,pK h4 rfl S fun cdv A outer s H E hr C=>hb hr C (jE hr) S.nd⟩,no⟩
theorem gk (d:DI T.K T.cls mg c x q st ps) (S:aq N ps (aS st)) (hb:∀ {f},pR P w mg base T q st f N k b):GK P w T mg base (k+1) c x (aI ps.length N.length b):=by
 obtain ⟨C,f,fd,h0,h1,h2,h3,h4⟩:=d
 exact ⟨C,f,fd,_,h0,h1,h2,h3,pK h4 rfl S fun cdv A outer s H E hr C=>hb hr C (jE hr) S.nd⟩
theorem gl {f:Addr} {fd:FuncData} (h4:Fun T.K x x st f fd) (S:aq N ps (aS st)) (hb:pR P w mg base T x st f N k b):FnOk P w T.K mg base (dU P w) (k+1) f fd ps (jR T (aI ps.length N.length b)) :=
 pK h4 rfl S fun cdv A outer s H E hr C=>hb hr C (jE hr) S.nd
def XI (K:PySem.W.Frag) (X:Addr):Prop:=PySem.W.excIn K X [.type "ValueError",.type "Exception",.type "BaseException",.type "object"] "ValueError.__new__" = true
theorem xi {X:Addr} (h:PySem.W.excIn K X [.type "ValueError",.type "Exception",.type "BaseException",.type "object"] "ValueError.__new__" = true):XI K X:=h
theorem gx {X:Addr} {n:Nat} {g:Heap} (KB:K.In g) (KX:K.In h) (G:h.Ns mainGlobals mg) (hc:T.exc n=some X) (e:PySem.W.nsIn K mainGlobals x=some (some (.ref X))) (hx:XI K X):GX T mg g n x:=⟨X,hc,Ey KB (Mi KX G e) hx⟩
def NA (K:PySem.W.Frag) (x:Str) (v:Option Value):Prop:=PySem.W.nsIn K mainGlobals x=some v
theorem na {v:Option Value} (h:PySem.W.nsIn K mainGlobals x=some v):NA K x v:=h
def FA (K:PySem.W.Frag) (C:Addr) (x:Str):Prop:=PySem.W.findIn K (.ref C) x=some none
theorem fatt (h:PySem.W.findIn K (.ref C) x=some none):FA K C x:=h
end
end Sm
namespace Sk
open PySem PySem.Spec L2 Sm
abbrev Ks:Nat:=0
abbrev Kt:Nat:=1
abbrev Ku:Nat:=2
abbrev Ge:Nat:=3
abbrev Gf:Nat:=4
abbrev Gg:Nat:=5
def nK:Fn:=aI 1 1
  (ao (jG 0 0 (ae 0) (eJ ag))
  (ao (jG 0 1 (ae 0) (xU true))
  (ao (jG 0 2 (ae 0) (eJ (aj (af (.int 0)) ag)))
  (ao (jG 0 3 (ae 0) (eJ (aj (af (.int 0)) ag)))
  (ao (jG 0 4 (ae 0) (eJ (aj (af (.int 0)) ag)))
  (ao (jG 0 5 (ae 0) (eJ (aj (bL bG (af (.int 1))) ag)))
  (ao (jG 0 6 (ae 0) (eJ (aj (af (.int 0)) ag)))
  (jG 0 7 (ae 0) (eJ (aj (af (.int 0)) ag))))))))))
def pS:Fn:=aI 2 3
  (ao (aF 2 (ah dJ (ah cC (ah aw (ah aw (ah dJ (ae 0) (af (.int 1000000007))) (ah cC (af (.int 7919)) (ae 1))) (af (.int 101))) (af (.int 48271))) (af (.int 2147483647))))
  (aB (ah dJ (ah cC (ah dJ (ah cC (ae 2) (ae 2)) (af (.int 2147483629))) (af (.int 69621))) (af (.int 2147483647)))))
def mF:SS :=
  (aF 2 (ah aw (ah cC (ae 2) (ah cC (ah cg (af (.int 10)) (af (.int 60))) (ah cg (af (.int 10)) (af (.int 60))))) (ah dJ (ah au (ae 0) (ae 3)) (ah cC (ah cg (af (.int 10)) (af (.int 60))) (ah cg (af (.int 10)) (af (.int 60)))))))
def mG:SS :=
  (aF 4 (ah aw (ah cC (ae 4) (af (.int 2147483647))) (aG pS (aj (ah aw (ah aw (ae 2) (ah cC (af (.int 1009)) (ae 1))) (aG ax (aj (ae 0) ag))) (aj (ae 3) ag)))))
def nM:Fn:=aI 2 5
  (ao (aF 2 (af (.int 0)))
  (ao (bp (jV (ae 1) (aG ax (aj (ae 0) ag)) (af (.int 8))) (.nm 3) mF)
  (ao (bh (aK (ah dQ (ae 2) (ah cg (af (.int 10)) (af (.int 18))))) (aB (eJ (aj (ae 2) ag))) bt)
  (ao (aF 2 (ah aw (ae 2) (aG ie (aj (dC [] (bc (ae 0)) cq (ah dJ (ae 0) (ah cg (af (.int 10)) (af (.int 18))))) ag))))
  (ao (aF 4 (af (.int 0)))
  (ao (bp (fN (af (.int 16))) (.nm 3) mG)
  (aB (eJ (aj (ae 4) ag)))))))))
def cM:Fn:=aI 2 3
  (ao (aF 2 (ah dJ (ah au (ae 0) (af (.int 0))) (ae 1)))
  (ao (pE (ae 0) (af (.int 0)) (ah hG (ah au (ae 0) (af (.int 0))) (ae 1)))
  (aB (ae 2))))
def lD:SS :=
  (aF 3 (ah aw (ae 3) (ah au (ae 2) (aG cM (aj (ae 0) (aj (aG ax (aj (ae 2) ag)) ag))))))
def ko:Fn:=aI 2 5
  (ao (aF 2 (ah au (bN (aj (af (.str "ab")) (aj (af (.str "aaab")) (aj (af (.str "a\n")) (aj (af (.str "ab \n")) (aj (af (.str "abcdefghijklmnopqrstuvwxyz 0123456789.,~\n")) ag)))))) (aG cM (aj (ae 0) (aj (af (.int 5)) ag)))))
  (ao (aF 3 (af (.str "")))
  (ao (bp (fN (aG cM (aj (ae 0) (aj (ah aw (ae 1) (af (.int 1))) ag)))) (.nm 4) lD)
  (aB (ae 3)))))
def lE:Fn:=aI 2 5
  (ao (aF 2 (aG ko (aj (ae 0) (aj (ae 1) ag))))
  (ao (aF 3 (aG cM (aj (ae 0) (aj (af (.int 5)) ag))))
  (ao (aF 4 (aG cM (aj (ae 0) (aj (ah aw (aG ax (aj (ae 2) ag)) (af (.int 1))) ag))))
  (ao (bh (aK (ah bz (ae 3) (af (.int 2)))) (aB (bM (aj (ae 2) (aj (ae 2) ag)))) bt)
  (ao (bh (aK (ah aC (ae 3) (af (.int 2)))) (aB (bM (aj (ae 2) (aj (ah aw (ah aw (aY (ae 2) none (some (ae 4))) (ah au (af (.str "ab\n")) (aG cM (aj (ae 0) (aj (af (.int 3)) ag))))) (aY (ae 2) (some (ah aw (ae 4) (af (.int 1)))) none)) ag)))) bt)
  (ao (bh (aK (ah aC (ae 3) (af (.int 3)))) (aB (bM (aj (aY (ae 2) none (some (ae 4))) (aj (ae 2) ag)))) bt)
  (aB (bM (aj (ae 2) (aj (aG ko (aj (ae 0) (aj (ae 1) ag))) ag))))))))))
def iS:Fn:=aI 1 1
  (aB (gT (dW "int" (ae 0)) (pB (dW "bool" (ae 0)))))
def gc:Fn:=aI 2 2
  (aB (gT (aG iS (aj (ae 1) ag)) (fL bS bS (af (.int 1)) (ae 1) (aG ax (aj (Sm.sFld 0 0 (ae 0)) ag)))))
def lF:Fn:=aI 2 2
  (bh (cZ (eK (aR 0 gc (ae 0) (aj (ae 1) ag)))) (jg 2 (aj (af (.str "no piece of the shelf has this number")) ag)) bt)
def ij:Fn:=aI 2 2
  (bh (aK (ah aZ (ae 1) (af (.int 0)))) (cG (aR 0 lF (ae 0) (aj (ae 1) ag))) bt)
def iE:Fn:=aI 2 2
  (ao (cG (aR 0 ij (ae 0) (aj (ae 1) ag)))
  (aB (kZ (aK (ah aC (ae 1) (af (.int 0)))) (bN ag) (eJ (aj (ae 1) ag)))))
def iF:Fn:=aI 2 2
  (ao (cG (aR 0 ij (ae 0) (aj (ae 1) ag)))
  (aB (ah au (Sm.sFld 0 2 (ae 0)) (ae 1))))
def gu:Fn:=aI 2 2
  (ao (bh (eK (dW "str" (ae 1))) (aB (aG ax (aj (ae 1) ag))) bt)
  (aB (aR 0 iF (ae 0) (aj (ae 1) ag))))
def eg:Fn:=aI 2 2
  (ao (cG (aR 0 lF (ae 0) (aj (ae 1) ag)))
  (aB (ah au (Sm.sFld 0 0 (ae 0)) (ah cY (ae 1) (af (.int 1))))))
def iG:Fn:=aI 3 4
  (ao (bh (eK (dW "str" (ae 2))) (aB (af (.bl false))) bt)
  (ao (aF 3 (aR 0 eg (ae 0) (aj (ae 2) ag)))
  (ao (bh (aK (ah aC (ah au (ae 3) (af (.int 0))) (af (.str "leaf")))) (aB (af (.bl false))) bt)
  (ao (cG (dX bq bV (ae 1) (aj (ah au (ae 3) (af (.int 2))) ag)))
  (ao (cG (dX bq bV (ae 1) (aj (ah au (ae 3) (af (.int 1))) ag)))
  (aB (af (.bl true))))))))
def gJ:SS :=
  (ao (aF 2 (hZ bq bY (ae 1)))
  (ao (bh (eK (dW "str" (ae 2))) (aB (ae 2)) bt)
  (bh (cZ (eK (aG iG (aj (ae 0) (aj (ae 1) (aj (ae 2) ag)))))) (aB (ah au (aR 0 eg (ae 0) (aj (ae 2) ag)) (af (.int 1)))) bt)))
def jn:Fn:=aI 2 3
  (ao (bU (aK (ah aZ (ae 1) (bN ag))) gJ cO)
  (aB (af (.str ""))))
def lG:Fn:=aI 2 2
  (bh (aK (ah aZ (ae 1) (af (.str "")))) (cG (dX bq bV (ae 0) (aj (ae 1) ag))) bt)
def nN:SS :=
  (aF 5 (ah aw (ae 5) (af (.int 1))))
def nO:Fn:=aI 3 6
  (ao (aF 3 (aG jn (aj (ae 0) (aj (ae 1) ag))))
  (ao (aF 4 (aG jn (aj (ae 0) (aj (ae 2) ag))))
  (ao (aF 5 (af (.int 0)))
  (ao (bU (dz (aK (ah bz (ae 5) (aG fX (aj (aG ax (aj (ae 3) ag)) (aj (aG ax (aj (ae 4) ag)) ag))))) (aK (ah aC (ah au (ae 3) (ae 5)) (ah au (ae 4) (ae 5))))) nN cO)
  (ao (cG (aG lG (aj (ae 1) (aj (aY (ae 3) (some (ae 5)) none) ag))))
  (ao (cG (aG lG (aj (ae 2) (aj (aY (ae 4) (some (ae 5)) none) ag))))
  (aB (aY (ae 3) none (some (ae 5))))))))))
def kq:SS :=
  (ao (aF 3 (ah bz (aG gu (aj (ae 0) (aj (ah au (ae 1) (bL bG (af (.int 1)))) ag))) (aG gu (aj (ae 0) (aj (ah au (ae 2) (bL bG (af (.int 1)))) ag)))))
  (ao (aF 4 (kZ (eK (ae 3)) (ae 2) (ae 1)))
  (ao (aF 5 (hZ bq bY (ae 4)))
  (bh (cZ (eK (aG iG (aj (ae 0) (aj (ae 4) (aj (ae 5) ag)))))) (ao (cG (dX bq bV (ae 4) (aj (ae 5) ag)))
  (aB (aG nO (aj (ae 0) (aj (ae 1) (aj (ae 2) ag)))))) bt))))
def kr:Fn:=aI 3 6
  (ao (bU (aK (ah aZ (ah au (ae 1) (bL bG (af (.int 1)))) (ah au (ae 2) (bL bG (af (.int 1)))))) kq cO)
  (ao (cG (hZ bq bY (ae 2)))
  (aB (hZ bq bY (ae 1)))))
def jo:SS :=
  (ao (aF 4 (aG kr (aj (ae 0) (aj (ae 1) (aj (ae 2) ag)))))
  (ao (bh (aK (ah aC (ae 4) (af (.str "")))) xV bt)
  (cG (dX bq bV (ae 3) (aj (ae 4) ag)))))
def pT:Fn:=aI 3 5
  (ao (aF 3 (eJ ag))
  (ao (bU (dz (aK (ah aZ (ae 1) (bN ag))) (aK (ah aZ (ae 2) (bN ag)))) jo cO)
  (aB (ae 3))))
def jW:Fn:=aI 2 2
  (aB (aY (aG jn (aj (ae 0) (aj (ae 1) ag))) none (some (af (.int 1)))))
def iT:Fn:=aI 3 7
  (ao (aF 3 (aG e8 (aj (aR 0 iF (ae 0) (aj (ae 1) ag)) (aj (aR 0 iF (ae 0) (aj (ae 2) ag)) ag))))
  (ao (bh (dz (aK (ah aZ (ae 1) (ae 2))) (aK (ah eY (ae 3) (af (.int 10000))))) (jg 5 (aj (af (.str "unlike texts of more than ten thousand signs are not held together")) ag)) bt)
  (ao (aF 4 (aG iE (aj (ae 0) (aj (ae 1) ag))))
  (ao (aF 5 (aG iE (aj (ae 0) (aj (ae 2) ag))))
  (ao (aF 6 (aG pT (aj (ae 0) (aj (ae 4) (aj (ae 5) ag)))))
  (ao (bh (dz (aK (ah aC (ae 4) (bN ag))) (aK (ah aC (ae 5) (bN ag)))) (aB (bM (aj (af (.str "alike")) (aj (ae 6) ag)))) bt)
  (aB (bM (aj (af (.str "apart")) (aj (ae 6) (aj (aG jW (aj (ae 0) (aj (ae 4) ag))) (aj (aG jW (aj (ae 0) (aj (ae 5) ag))) ag))))))))))))
def gv:Fn:=aI 1 1
  (aB (aG ax (aj (Sm.sFld 0 0 (ae 0)) ag)))
def gw:SS :=
  (ao (aF 3 (hZ bq bY (ae 1)))
  (ao (bh (aK (ah aC (ae 3) (ae 2))) (aB (af (.bl true))) bt)
  (bh (cZ (eK (aG iG (aj (ae 0) (aj (ae 1) (aj (ae 3) ag)))))) (aB (af (.bl false))) bt)))
def jX:Fn:=aI 3 4
  (ao (bU (aK (ah aZ (ae 1) (bN ag))) gw cO)
  (aB (af (.bl false))))
def nP:Fn:=aI 1 1
  (aB (nt (ah aC (ae 0) (af (.str "\n"))) (fL bS bS (af (.str " ")) (ae 0) (af (.str "~")))))
def jq:Fn:=aI 1 1
  (ao (bh (cZ (eK (dW "str" (ae 0)))) (aB (af (.bl false))) bt)
  (aB (aG lg (aj (dC [] (bc (ae 0)) cq (aG nP (aj (ae 0) ag))) ag))))
def ik:Fn:=aI 1 1
  (aB (gT (aG jq (aj (ae 0) ag)) (fL bS bS (af (.int 1)) (aG ax (aj (ae 0) ag)) (af (.int 8)))))
def gK:SS :=
  (ao (aF 4 (aG jn (aj (ae 0) (aj (ae 1) ag))))
  (ao (aF 5 (aG fX (aj (aG ax (aj (ae 4) ag)) (aj (aG ax (aj (ae 3) ag)) ag))))
  (ao (bh (e7 (aK (ah aC (ae 5) (af (.int 0)))) (aK (ah aZ (aY (ae 4) none (some (ae 5))) (aY (ae 3) none (some (ae 5)))))) (aB (af (.bl false))) bt)
  (ao (cG (aG lG (aj (ae 1) (aj (aY (ae 4) (some (ae 5)) none) ag))))
  (aF 3 (aY (ae 3) (some (ae 5)) none))))))
def ku:Fn:=aI 3 6
  (ao (aF 3 (ae 2))
  (ao (bU (aK (ah aZ (ae 3) (af (.str "")))) gK cO)
  (aB (af (.bl true)))))
def fO:Fn:=aI 3 3
  (ao (bh (eK (aR 0 gc (ae 0) (aj (ae 2) ag))) (aB (aG jX (aj (ae 0) (aj (ae 1) (aj (ae 2) ag))))) bt)
  (aB (gT (aG ik (aj (ae 2) ag)) (aG ku (aj (ae 0) (aj (ae 1) (aj (ae 2) ag)))))))
def de:SS :=
  (bh (cZ (eK (aG fO (aj (ae 0) (aj (ae 3) (aj (ae 4) ag)))))) (aB (af .non)) bt)
def gW:Fn:=aI 3 5
  (ao (aF 3 (aG iE (aj (ae 0) (aj (ae 1) ag))))
  (ao (bp (bc (ae 2)) (.nm 4) de)
  (aB (ae 3))))
def dY:Fn:=aI 4 7
  (ao (aF 4 (aG gW (aj (ae 0) (aj (ae 1) (aj (ah au (ae 3) (af (.int 1))) ag)))))
  (ao (aF 5 (aG gW (aj (ae 0) (aj (ae 2) (aj (ah au (ae 3) (af (.int 1))) ag)))))
  (ao (bh (e7 (aK (ah bg (ae 4) (af .non))) (aK (ah bg (ae 5) (af .non)))) (aB (af (.bl false))) bt)
  (ao (bh (aK (ah aC (ah au (ae 3) (af (.int 0))) (af (.str "alike")))) (aB (gT (ah aC (aG ax (aj (ae 3) ag)) (af (.int 2))) (gT (ah aC (ae 4) (bN ag)) (ah aC (ae 5) (bN ag))))) bt)
  (ao (aF 6 (bM (aj (aG jW (aj (ae 0) (aj (ae 4) ag))) (aj (aG jW (aj (ae 0) (aj (ae 5) ag))) ag))))
  (aB (gT (ah aC (ah au (ae 3) (af (.int 0))) (af (.str "apart"))) (gT (ah aC (aY (ae 3) (some (af (.int 2))) none) (ae 6)) (ah aZ (ah au (ae 6) (af (.int 0))) (ah au (ae 6) (af (.int 1))))))))))))
def pU:Fn:=aI 1 1
  (bh (aK (ah eY (ae 0) (af (.int 1000000000000000000)))) (jg 5 (aj (af (.str "the text would have more than 10 ** 18 signs")) ag)) bt)
def nQ:Fn:=aI 2 2
  (ao (cG (aR 0 ij (ae 0) (aj (ae 1) ag)))
  (aB (ah au (Sm.sFld 0 7 (ae 0)) (ae 1))))
def nS:Fn:=aI 2 2
  (ao (cG (aR 0 ij (ae 0) (aj (ae 1) ag)))
  (aB (ah au (Sm.sFld 0 6 (ae 0)) (ae 1))))
def pV:Fn:=aI 3 3
  (aB (ah eY (ah aw (aR 0 iF (ae 0) (aj (aR 0 nQ (ae 0) (aj (ae 1) ag)) ag)) (aR 0 iF (ae 0) (aj (aR 0 nS (ae 0) (aj (ae 2) ag)) ag))) (af (.int 8))))
def kx:Fn:=aI 3 4
  (ao (cG (aR 0 lF (ae 0) (aj (ae 1) ag)))
  (ao (cG (aR 0 lF (ae 0) (aj (ae 2) ag)))
  (ao (aF 3 (ah aw (ah au (Sm.sFld 0 2 (ae 0)) (ah au (Sm.sFld 0 7 (ae 0)) (ae 1))) (ah au (Sm.sFld 0 2 (ae 0)) (ah au (Sm.sFld 0 6 (ae 0)) (ae 2)))))
  (ao (bh (aK (ah bS (ae 3) (af (.int 8)))) (jg 3 (aj (af (.str "the leaves where the parts meet have no more than eight signs together")) ag)) bt)
  (ao (bh (aK (ah eY (aG k9 (aj (ah cY (ah au (Sm.sFld 0 5 (ae 0)) (ae 1)) (ah au (Sm.sFld 0 5 (ae 0)) (ae 2))) ag)) (af (.int 1)))) (jg 4 (aj (af (.str "the heights of the parts differ by more than one")) ag)) bt)
  (bh (aK (ah eY (ah aw (ah au (Sm.sFld 0 2 (ae 0)) (ae 1)) (ah au (Sm.sFld 0 2 (ae 0)) (ae 2))) (af (.int 1000000000000000000)))) (jg 5 (aj (af (.str "the fork would have more than 10 ** 18 signs")) ag)) bt))))))
def nT:Fn:=aI 2 3
  (ao (cG (dX bq bV (Sm.sFld 0 0 (ae 0)) (aj (ae 1) ag)))
  (ao (aF 2 (aG ax (aj (Sm.sFld 0 0 (ae 0)) ag)))
  (ao (pE (Sm.sFld 0 1 (ae 0)) (ae 1) (ae 2))
  (aB (ae 2)))))
def nU:Fn:=aI 2 4
  (ao (cG (aR 0 nT (ae 0) (aj (ae 1) ag)))
  (ao (aF 2 (ah au (ae 1) (af (.int 1))))
  (ao (aF 3 (ah au (ae 1) (af (.int 2))))
  (ao (cG (dX bq bV (Sm.sFld 0 2 (ae 0)) (aj (ah aw (ah au (Sm.sFld 0 2 (ae 0)) (ae 2)) (ah au (Sm.sFld 0 2 (ae 0)) (ae 3))) ag)))
  (ao (cG (dX bq bV (Sm.sFld 0 3 (ae 0)) (aj (ah aw (ah au (Sm.sFld 0 3 (ae 0)) (ae 2)) (ah au (Sm.sFld 0 3 (ae 0)) (ae 3))) ag)))
  (ao (cG (dX bq bV (Sm.sFld 0 4 (ae 0)) (aj (ah aw (ah au (Sm.sFld 0 4 (ae 0)) (ae 2)) (ah au (Sm.sFld 0 4 (ae 0)) (ae 3))) ag)))
  (ao (cG (dX bq bV (Sm.sFld 0 5 (ae 0)) (aj (ah aw (aG e8 (aj (ah au (Sm.sFld 0 5 (ae 0)) (ae 2)) (aj (ah au (Sm.sFld 0 5 (ae 0)) (ae 3)) ag))) (af (.int 1))) ag)))
  (ao (cG (dX bq bV (Sm.sFld 0 6 (ae 0)) (aj (ah au (Sm.sFld 0 6 (ae 0)) (ae 2)) ag)))
  (cG (dX bq bV (Sm.sFld 0 7 (ae 0)) (aj (ah au (Sm.sFld 0 7 (ae 0)) (ae 3)) ag)))))))))))
def bA:Fn:=aI 3 4
  (ao (cG (aR 0 kx (ae 0) (aj (ae 1) (aj (ae 2) ag))))
  (ao (aF 3 (bM (aj (af (.str "fork")) (aj (ae 1) (aj (ae 2) ag)))))
  (ao (bh (aK (ah r8 (ae 3) (Sm.sFld 0 1 (ae 0)))) (cG (aR 0 nU (ae 0) (aj (ae 3) ag))) bt)
  (aB (ah au (Sm.sFld 0 1 (ae 0)) (ae 3))))))
def sM (G:Fn):Fn:=aI 3 4
  (ao (aF 3 (aR 0 eg (ae 0) (aj (ae 1) ag)))
  (ao (bh (aK (ah aC (ah au (ae 3) (af (.int 0))) (af (.str "leaf")))) (aB (ae 2)) bt)
  (aB (aR 0 bA (ae 0) (aj (ah au (ae 3) (af (.int 1))) (aj (aG G (aj (ae 0) (aj (ah au (ae 3) (af (.int 2))) (aj (ae 2) ag)))) ag))))))
def iH:Nat->Fn
 | 0=>aI 3 4 (fun _ _=>.bad)
 | d+1=>sM (iH d)
def il:Fn:=aI 2 2
  (ao (cG (aR 0 ij (ae 0) (aj (ae 1) ag)))
  (aB (ah au (Sm.sFld 0 5 (ae 0)) (ae 1))))
def gX:Fn:=aI 3 7
  (ao (bh (aK (ah bz (ah cY (aR 0 il (ae 0) (aj (ae 2) ag)) (aR 0 il (ae 0) (aj (ae 1) ag))) (af (.int 2)))) (aB (aR 0 bA (ae 0) (aj (ae 1) (aj (ae 2) ag)))) bt)
  (ao (aF 3 (aR 0 eg (ae 0) (aj (ae 2) ag)))
  (ao (aF 4 (ah au (ae 3) (af (.int 1))))
  (ao (aF 5 (ah au (ae 3) (af (.int 2))))
  (ao (bh (aK (ah bS (aR 0 il (ae 0) (aj (ae 4) ag)) (aR 0 il (ae 0) (aj (ae 5) ag)))) (aB (aR 0 bA (ae 0) (aj (aR 0 bA (ae 0) (aj (ae 1) (aj (ae 4) ag))) (aj (ae 5) ag)))) bt)
  (ao (aF 6 (aR 0 eg (ae 0) (aj (ae 4) ag)))
  (aB (aR 0 bA (ae 0) (aj (aR 0 bA (ae 0) (aj (ae 1) (aj (ah au (ae 6) (af (.int 1))) ag))) (aj (aR 0 bA (ae 0) (aj (ah au (ae 6) (af (.int 2))) (aj (ae 5) ag))) ag))))))))))
def pW (G:Fn):Fn:=aI 2 4
  (ao (aF 2 (aR 0 eg (ae 0) (aj (ae 1) ag)))
  (ao (bh (aK (ah aC (ah au (ae 2) (af (.int 0))) (af (.str "leaf")))) (aB (af (.int 0))) bt)
  (ao (aF 3 (aG G (aj (ae 0) (aj (ah au (ae 2) (af (.int 1))) ag))))
  (ao (bh (aK (ah aC (ae 3) (af (.int 0)))) (aB (ah au (ae 2) (af (.int 2)))) bt)
  (aB (aG gX (aj (ae 0) (aj (ae 3) (aj (ah au (ae 2) (af (.int 2))) ag)))))))))
def gy:Nat->Fn
 | 0=>aI 2 4 (fun _ _=>.bad)
 | d+1=>pW (gy d)
def iU:Fn:=aI 3 7
  (ao (bh (aK (ah bz (ah cY (aR 0 il (ae 0) (aj (ae 1) ag)) (aR 0 il (ae 0) (aj (ae 2) ag))) (af (.int 2)))) (aB (aR 0 bA (ae 0) (aj (ae 1) (aj (ae 2) ag)))) bt)
  (ao (aF 3 (aR 0 eg (ae 0) (aj (ae 1) ag)))
  (ao (aF 4 (ah au (ae 3) (af (.int 1))))
  (ao (aF 5 (ah au (ae 3) (af (.int 2))))
  (ao (bh (aK (ah bS (aR 0 il (ae 0) (aj (ae 5) ag)) (aR 0 il (ae 0) (aj (ae 4) ag)))) (aB (aR 0 bA (ae 0) (aj (ae 4) (aj (aR 0 bA (ae 0) (aj (ae 5) (aj (ae 2) ag))) ag)))) bt)
  (ao (aF 6 (aR 0 eg (ae 0) (aj (ae 5) ag)))
  (aB (aR 0 bA (ae 0) (aj (aR 0 bA (ae 0) (aj (ae 4) (aj (ah au (ae 6) (af (.int 1))) ag))) (aj (aR 0 bA (ae 0) (aj (ah au (ae 6) (af (.int 2))) (aj (ae 2) ag))) ag))))))))))
def pX (G:Fn):Fn:=aI 3 5
  (ao (aF 3 (ah cY (aR 0 il (ae 0) (aj (ae 1) ag)) (aR 0 il (ae 0) (aj (ae 2) ag))))
  (ao (bh (aK (ah eY (ae 3) (af (.int 1)))) (ao (aF 4 (aR 0 eg (ae 0) (aj (ae 1) ag)))
  (aB (aG gX (aj (ae 0) (aj (ah au (ae 4) (af (.int 1))) (aj (aG G (aj (ae 0) (aj (ah au (ae 4) (af (.int 2))) (aj (ae 2) ag)))) ag)))))) bt)
  (ao (bh (aK (ah bz (ae 3) (bL bG (af (.int 1))))) (ao (aF 4 (aR 0 eg (ae 0) (aj (ae 2) ag)))
  (aB (aG iU (aj (ae 0) (aj (aG G (aj (ae 0) (aj (ae 1) (aj (ah au (ae 4) (af (.int 1))) ag)))) (aj (ah au (ae 4) (af (.int 2))) ag)))))) bt)
  (aB (aR 0 bA (ae 0) (aj (ae 1) (aj (ae 2) ag)))))))
def gg:Nat->Fn
 | 0=>aI 3 5 (fun _ _=>.bad)
 | d+1=>pX (gg d)
def pY:Fn:=aI 1 1
  (aB (dX sd se (ae 0) (aj (af (.str "\n")) ag)))
def nV:Fn:=aI 2 4
  (ao (aF 2 (aR 0 nT (ae 0) (aj (ae 1) ag)))
  (ao (aF 3 (ah au (ae 1) (af (.int 1))))
  (ao (cG (dX bq bV (Sm.sFld 0 2 (ae 0)) (aj (aG ax (aj (ae 3) ag)) ag)))
  (ao (cG (dX bq bV (Sm.sFld 0 3 (ae 0)) (aj (aG pY (aj (ae 3) ag)) ag)))
  (ao (cG (dX bq bV (Sm.sFld 0 4 (ae 0)) (aj (af (.int 1)) ag)))
  (ao (cG (dX bq bV (Sm.sFld 0 5 (ae 0)) (aj (af (.int 0)) ag)))
  (ao (cG (dX bq bV (Sm.sFld 0 6 (ae 0)) (aj (ae 2) ag)))
  (cG (dX bq bV (Sm.sFld 0 7 (ae 0)) (aj (ae 2) ag))))))))))
def gY:Fn:=aI 2 3
  (ao (bh (cZ (eK (aG ik (aj (ae 1) ag)))) (jg 1 (aj (af (.str "a leaf is a plain text of one to eight signs")) ag)) bt)
  (ao (aF 2 (bM (aj (af (.str "leaf")) (aj (ae 1) ag))))
  (ao (bh (aK (ah r8 (ae 2) (Sm.sFld 0 1 (ae 0)))) (cG (aR 0 nV (ae 0) (aj (ae 2) ag))) bt)
  (aB (ah au (Sm.sFld 0 1 (ae 0)) (ae 2))))))
def lH:Fn:=aI 3 6
  (ao (aF 3 (ah aw (ah au (aR 0 eg (ae 0) (aj (aR 0 nQ (ae 0) (aj (ae 1) ag)) ag)) (af (.int 1))) (ah au (aR 0 eg (ae 0) (aj (aR 0 nS (ae 0) (aj (ae 2) ag)) ag)) (af (.int 1)))))
  (ao (aF 4 (aG (iH 90) (aj (ae 0) (aj (ae 1) (aj (aR 0 gY (ae 0) (aj (ae 3) ag)) ag)))))
  (ao (aF 5 (aG (gy 90) (aj (ae 0) (aj (ae 2) ag))))
  (ao (bh (aK (ah aC (ae 5) (af (.int 0)))) (aB (ae 4)) bt)
  (aB (aG (gg 90) (aj (ae 0) (aj (ae 4) (aj (ae 5) ag)))))))))
def ip:Fn:=aI 3 3
  (ao (cG (aG pU (aj (ah aw (aR 0 iF (ae 0) (aj (ae 1) ag)) (aR 0 iF (ae 0) (aj (ae 2) ag))) ag)))
  (ao (bh (aK (ah aC (ae 1) (af (.int 0)))) (aB (ae 2)) bt)
  (ao (bh (aK (ah aC (ae 2) (af (.int 0)))) (aB (ae 1)) bt)
  (ao (bh (eK (aG pV (aj (ae 0) (aj (ae 1) (aj (ae 2) ag))))) (aB (aG (gg 90) (aj (ae 0) (aj (ae 1) (aj (ae 2) ag))))) bt)
  (aB (aG lH (aj (ae 0) (aj (ae 1) (aj (ae 2) ag)))))))))
def sN (G:Fn):Fn:=aI 2 3
  (ao (bh (aK (ah aC (aG ax (aj (ae 1) ag)) (af (.int 1)))) (aB (ah au (ae 1) (af (.int 0)))) bt)
  (ao (aF 2 (ah hG (aG ax (aj (ae 1) ag)) (af (.int 2))))
  (aB (aR 0 bA (ae 0) (aj (aG G (aj (ae 0) (aj (aY (ae 1) none (some (ae 2))) ag))) (aj (aG G (aj (ae 0) (aj (aY (ae 1) (some (ae 2)) none) ag))) ag))))))
def iV:Nat->Fn
 | 0=>aI 2 3 (fun _ _=>.bad)
 | d+1=>sN (iV d)
def lI:Fn:=aI 2 3
  (ao (bh (cZ (eK (aG jq (aj (ae 1) ag)))) (jg 1 (aj (af (.str "a text is built of a plain text")) ag)) bt)
  (ao (bh (aK (ah eY (aG ax (aj (ae 1) ag)) (af (.int 10000)))) (jg 5 (aj (af (.str "a text is built of ten thousand signs at most")) ag)) bt)
  (ao (bh (aK (ah aC (ae 1) (af (.str "")))) (aB (af (.int 0))) bt)
  (ao (aF 2 (dC [0,1] (jV (af (.int 0)) (aG ax (aj (ae 1) ag)) (af (.int 8))) cq (aR 0 gY (ae 1) (aj (aY (ae 2) (some (ae 0)) (some (ah aw (ae 0) (af (.int 8))))) ag))))
  (aB (aG (iV 20) (aj (ae 0) (aj (ae 2) ag))))))))
def lJ:SS :=
  (ao (aF 6 (aG cM (aj (ae 2) (aj (ah aw (aG ax (aj (ae 4) ag)) (af (.int 1))) ag))))
  (ao (aF 3 (aG ip (aj (ae 0) (aj (ae 3) (aj (aG lI (aj (ae 0) (aj (aY (ae 4) none (some (ae 6))) ag))) ag)))))
  (aF 4 (aY (ae 4) (some (ae 6)) none))))
def mH:Fn:=aI 3 7
  (ao (aF 3 (af (.int 0)))
  (ao (aF 4 (ae 1))
  (ao (bp (fN (aG cM (aj (ae 2) (aj (af (.int 5)) ag)))) (.nm 5) lJ)
  (aB (aG ip (aj (ae 0) (aj (ae 3) (aj (aG lI (aj (ae 0) (aj (ae 4) ag))) ag))))))))
def jY:Fn:=aI 2 3
  (ao (aF 2 (aG cM (aj (ae 0) (aj (af (.int 8)) ag))))
  (ao (bh (aK (ah aC (ae 2) (af (.int 0)))) (aB (bM (aj (af (.str "alike")) (aj (ah au (ae 1) (af (.int 1))) ag)))) bt)
  (ao (bh (dz (aK (ah aC (aG ax (aj (ae 1) ag)) (af (.int 2)))) (aK (ah bz (ae 2) (af (.int 3))))) (aB (bM (aj (af (.str "apart")) (aj (ah au (ae 1) (af (.int 1))) (aj (af (.str "")) (aj (aY (af (.str "ab")) none (some (ae 2))) ag)))))) bt)
  (ao (bh (dz (aK (ah aC (aG ax (aj (ae 1) ag)) (af (.int 4)))) (aK (ah aC (ae 2) (af (.int 1))))) (aB (bM (aj (af (.str "apart")) (aj (ah au (ae 1) (af (.int 1))) (aj (ah au (ae 1) (af (.int 3))) (aj (ah au (ae 1) (af (.int 2))) ag)))))) bt)
  (ao (bh (dz (aK (ah aC (aG ax (aj (ae 1) ag)) (af (.int 4)))) (aK (ah aC (ae 2) (af (.int 2))))) (aB (bM (aj (af (.str "apart")) (aj (ah au (ae 1) (af (.int 1))) (aj (ah au (ae 1) (af (.int 2))) (aj (af (.str "a")) ag)))))) bt)
  (aB (ae 1)))))))
def fE:Fn:=aI 1 1
  (aB (gT (dW "int" (ae 0)) (pB (dW "bool" (ae 0)))))
def iq:SS :=
  (bh (e7 (cZ (eK (aG fE (aj (ae 7) ag)))) (e7 (cZ (aK (fL bz bS (af (.int 0)) (ae 7) (aR 0 gv (ae 1) ag)))) (aK (ah aC (aG cM (aj (ae 0) (aj (af (.int 2)) ag))) (af (.int 0)))))) (cG (dX bq bV (ae 6) (aj (ae 7) ag))) (bh (aK (ah aC (ah au (aR 0 eg (ae 1) (aj (ae 7) ag)) (af (.int 0))) (af (.str "leaf")))) (cG (dX bq kn (ae 6) (aj (aG gI (aj (ah au (aR 0 eg (ae 1) (aj (ae 7) ag)) (af (.int 1))) ag)) ag))) (cG (dX bq kn (ae 6) (aj (aG gI (aj (aY (aR 0 eg (ae 1) (aj (ae 7) ag)) (some (af (.int 1))) none) ag)) ag)))))
def jZ:Fn:=aI 3 8
  (ao (aF 3 (aG cM (aj (ae 0) (aj (af (.int 8)) ag))))
  (ao (aF 4 (aG cM (aj (ae 0) (aj (ah aw (aG ax (aj (ae 2) ag)) (af (.int 1))) ag))))
  (ao (aF 5 (eJ (aj (af .non) (aj (af (.bl true)) (aj (af (.int 0)) (aj (bL bG (af (.int 1))) (aj (ah aw (aR 0 gv (ae 1) ag) (af (.int 1))) (aj (ah cg (af (.int 10)) (af (.int 29))) (aj (af (.str "")) (aj (af (.str "abcdefghi")) (aj (af (.str "\t")) (aj (bN ag) (aj (bM (aj (af (.str "a")) ag)) (aj (af (.str "a")) (aj (af (.str "\n")) ag)))))))))))))))
  (ao (cG (dX bq bV (ae 5) (aj (ah aw (af (.int 1)) (aG cM (aj (ae 0) (aj (aG e8 (aj (af (.int 1)) (aj (aR 0 gv (ae 1) ag) ag))) ag)))) ag)))
  (ao (bh (aK (ah aC (ae 3) (af (.int 0)))) (aB (ah aw (ah aw (aY (ae 2) none (some (ae 4))) (bN (aj (ah au (ae 5) (aG cM (aj (ae 0) (aj (aG ax (aj (ae 5) ag)) ag)))) ag))) (aY (ae 2) (some (ae 4)) none))) bt)
  (ao (bh (aK (ah aC (ae 3) (af (.int 1)))) (aB (ah aw (aY (ae 2) none (some (ae 4))) (aY (ae 2) (some (ah aw (ae 4) (af (.int 1)))) none))) bt)
  (ao (bh (aK (ah aC (ae 3) (af (.int 2)))) (aB (ah aw (aY (ae 2) none (some (ae 4))) (aY (ae 2) (some (aG e8 (aj (af (.int 0)) (aj (ah cY (ae 4) (af (.int 1))) ag)))) none))) bt)
  (ao (bh (aK (ah aC (ae 3) (af (.int 3)))) (aB (ah aw (ah aw (aY (ae 2) none (some (ae 4))) (yE (aY (ae 2) (some (ae 4)) (some (ah aw (ae 4) (af (.int 2))))) (bL bG (af (.int 1))))) (aY (ae 2) (some (ah aw (ae 4) (af (.int 2)))) none))) bt)
  (ao (bh (dz (aK (ah aC (ae 3) (af (.int 4)))) (aK (ah bz (ae 4) (aG ax (aj (ae 2) ag))))) (aB (ah aw (ah aw (aY (ae 2) none (some (ae 4))) (bN (aj (ah au (ae 5) (aG cM (aj (ae 0) (aj (aG ax (aj (ae 5) ag)) ag)))) ag))) (aY (ae 2) (some (ah aw (ae 4) (af (.int 1)))) none))) bt)
  (ao (aF 6 (eJ ag))
  (ao (bp (bc (ae 2)) (.nm 7) iq)
  (aB (ae 6)))))))))))))
def eh:SS :=
  (bh (eK (dW "str" (ae 3))) (ao (aF 4 (dC [] (bc (ae 3)) (e7 (aK (fL bS bS (af (.str " ")) (ae 0) (af (.str "~")))) (aK (ah aC (ae 0) (af (.str "\n"))))) (ae 0)))
  (ao (bh (e7 (cZ (aK (fL bz bz (af (.int 0)) (aG ax (aj (ae 3) ag)) (af (.int 9))))) (aK (ah bz (aG ax (aj (ae 4) ag)) (aG ax (aj (ae 3) ag))))) (aB (af .non)) bt)
  (aF 2 (ah mE (ae 2) (ae 4))))) (bh (dz (eK (aG fE (aj (ae 3) ag))) (aK (fL bz bS (af (.int 0)) (ae 3) (aR 0 gv (ae 0) ag)))) (cG (dX bq bV (ae 2) (aj (ae 3) ag))) (aB (af .non))))
def j4:Fn:=aI 2 5
  (ao (aF 2 (eJ ag))
  (ao (bp (bc (ae 1)) (.nm 3) eh)
  (aB (ae 2))))
def fP:SS :=
  (ao (bh (aK (ah dQ (ah aw (ae 3) (ae 5)) (aG ax (aj (ae 2) ag)))) (aB (ah aw (aG ax (aj (ae 2) ag)) (af (.int 1)))) bt)
  (bh (aK (ah aZ (ah au (ae 2) (ah aw (ae 3) (ae 5))) (ae 6))) (aB (af .non)) bt))
def fQ (G:Fn):Fn:=aI 4 8
  (ao (bh (aK (ah dQ (ae 3) (aG ax (aj (ae 2) ag)))) (aB (ah aw (aG ax (aj (ae 2) ag)) (af (.int 1)))) bt)
  (ao (bh (aK (ah aC (ah au (ae 2) (ae 3)) (ae 1))) (aB (ah aw (ae 3) (af (.int 1)))) bt)
  (ao (aF 4 (aR 0 eg (ae 0) (aj (ae 1) ag)))
  (ao (bh (aK (ah aC (ah au (ae 4) (af (.int 0))) (af (.str "leaf")))) (ao (bp (lC (ah au (ae 4) (af (.int 1)))) (.tup [5,6]) fP)
  (aB (ah aw (ae 3) (aG ax (aj (ah au (ae 4) (af (.int 1))) ag))))) bt)
  (ao (aF 7 (aG G (aj (ae 0) (aj (ah au (ae 4) (af (.int 1))) (aj (ae 2) (aj (ae 3) ag))))))
  (ao (bh (e7 (aK (ah bg (ae 7) (af .non))) (aK (ah eY (ae 7) (aG ax (aj (ae 2) ag))))) (aB (ae 7)) bt)
  (aB (aG G (aj (ae 0) (aj (ah au (ae 4) (af (.int 2))) (aj (ae 2) (aj (ae 7) ag))))))))))))
def dG:Nat->Fn
 | 0=>aI 4 8 (fun _ _=>.bad)
 | d+1=>fQ (dG d)
def fF:Fn:=aI 3 5
  (ao (aF 3 (aG j4 (aj (ae 0) (aj (ae 2) ag))))
  (ao (bh (e7 (aK (ah bg (ae 3) (af .non))) (aK (ah aC (ae 1) (af (.int 0))))) (aB (bM (aj (ah aC (ae 3) (bN ag)) (aj (ah aC (ae 3) (bN ag)) ag)))) bt)
  (ao (aF 4 (aG (dG 90) (aj (ae 0) (aj (ae 1) (aj (ae 3) (aj (af (.int 0)) ag))))))
  (aB (bM (aj (gT (ah je (ae 4) (af .non)) (ah dQ (ae 4) (aG ax (aj (ae 3) ag)))) (aj (ah aC (ae 4) (aG ax (aj (ae 3) ag))) ag)))))))
def nW (G:Fn):Fn:=aI 2 3
  (ao (bh (aK (ah aC (ae 1) (af (.int 0)))) (aB (af (.str ""))) bt)
  (ao (aF 2 (aR 0 eg (ae 0) (aj (ae 1) ag)))
  (ao (bh (aK (ah aC (ah au (ae 2) (af (.int 0))) (af (.str "leaf")))) (aB (ah au (ae 2) (af (.int 1)))) bt)
  (aB (ah aw (aG G (aj (ae 0) (aj (ah au (ae 2) (af (.int 1))) ag))) (aG G (aj (ae 0) (aj (ah au (ae 2) (af (.int 2))) ag))))))))
def jr:Nat->Fn
 | 0=>aI 2 3 (fun _ _=>.bad)
 | d+1=>nW (jr d)
def iW:SS :=
  (ao (aF 5 (ah aw (ae 5) (af (.int 1))))
  (bh (cZ (eK (dW "str" (ae 6)))) (aF 5 (ah aw (ah cY (ae 5) (af (.int 1))) (aG ax (aj (aG (jr 90) (aj (ae 0) (aj (ae 6) ag))) ag)))) bt))
def iX:Fn:=aI 4 8
  (ao (aF 4 (dC [0,3] (bc (ae 1)) cq (aG fF (aj (ae 1) (aj (ae 0) (aj (ah au (ae 2) (af (.int 1))) ag))))))
  (ao (bh (aK (ah aC (ah au (ae 3) (af (.int 0))) (af (.str "alike")))) (aB (gT (ah au (ah au (ae 4) (af (.int 0))) (af (.int 1))) (ah au (ah au (ae 4) (af (.int 1))) (af (.int 1))))) bt)
  (ao (bh (e7 (cZ (eK (ah au (ah au (ae 4) (af (.int 0))) (af (.int 0))))) (cZ (eK (ah au (ah au (ae 4) (af (.int 1))) (af (.int 0)))))) (aB (af (.bl false))) bt)
  (ao (aF 5 (af (.int 0)))
  (ao (bp (bc (aG j4 (aj (ae 0) (aj (ah au (ae 3) (af (.int 1))) ag)))) (.nm 6) iW)
  (ao (aF 7 (bM (aj (aY (ah au (ae 2) (af (.int 0))) (some (ae 5)) (some (ah aw (ae 5) (af (.int 1))))) (aj (aY (ah au (ae 2) (af (.int 1))) (some (ae 5)) (some (ah aw (ae 5) (af (.int 1))))) ag))))
  (aB (gT (ah aZ (ah au (ae 7) (af (.int 0))) (ah au (ae 7) (af (.int 1)))) (ah aC (aY (ae 3) (some (af (.int 2))) none) (ae 7))))))))))
def kz:SS :=
  (aF 9 (aG jZ (aj (ae 3) (aj (ae 1) (aj (ae 9) ag)))))
def lK:SS :=
  (ao (aF 9 (aG gI (aj (ah au (ae 6) (af (.int 1))) ag)))
  (ao (bp (fN (aG cM (aj (ae 3) (aj (af (.int 3)) ag)))) (.nm 10) kz)
  (ao (aF 11 (aG jY (aj (ae 3) (aj (ah aw (bM (aj (ah au (ae 6) (af (.int 0))) (aj (ae 9) ag))) (aY (ae 6) (some (af (.int 2))) none)) ag))))
  (ao (aF 12 (aG gI (aj (ae 9) ag)))
  (ao (aF 13 (aG dY (aj (ae 1) (aj (ah au (ae 5) (af (.int 0))) (aj (ah au (ae 5) (af (.int 1))) (aj (ae 11) ag))))))
  (bh (e7 (cZ (eK (dW "bool" (ae 13)))) (e7 (aK (ah aZ (ae 13) (aG iX (aj (ae 1) (aj (ae 5) (aj (ae 4) (aj (ae 11) ag))))))) (aK (ah aZ (ae 9) (ae 12))))) (aB (af (.bl false))) bt))))))
def lM:SS :=
  (ao (aF 3 (aG nM (aj (ae 0) (aj (ae 2) ag))))
  (ao (aF 4 (aG lE (aj (ae 3) (aj (af (.int 40)) ag))))
  (ao (aF 5 (dC [1,3] (bc (ae 4)) cq (aG mH (aj (ae 1) (aj (ae 0) (aj (ae 2) ag))))))
  (ao (aF 6 (aG iT (aj (ae 1) (aj (ah au (ae 5) (af (.int 0))) (aj (ah au (ae 5) (af (.int 1))) ag)))))
  (ao (aF 7 (aR 0 gv (ae 1) ag))
  (ao (bp (fN (af (.int 8))) (.nm 8) lK)
  (bh (e7 (aK (ah nI (aG dY (aj (ae 1) (aj (ah au (ae 5) (af (.int 0))) (aj (ah au (ae 5) (af (.int 1))) (aj (ae 6) ag))))) (af (.bl true)))) (aK (ah aZ (aR 0 gv (ae 1) ag) (ae 7)))) (aB (af (.bl false))) bt)))))))
def sO:Fn:=aI 1 14
  (ao (aF 1 (pD 0 8 nK ag))
  (ao (bp (fN (af (.int 4))) (.nm 2) lM)
  (aB (gT (aG dY (aj (ae 1) (aj (af (.int 0)) (aj (af (.int 0)) (aj (bM (aj (af (.str "alike")) (aj (bN ag) ag))) ag))))) (pB (aG dY (aj (ae 1) (aj (af (.int 0)) (aj (af (.int 0)) (aj (bM (aj (af (.str "apart")) (aj (bN ag) (aj (af (.str "")) (aj (af (.str "")) ag))))) ag))))))))))
end Sk
set_option exponentiation.threshold 2000
namespace Sk
open PySem PySem.Spec L2 Sm
theorem yL {w:Option Nat} {all:List AV} {t:Tg} {b:SS} (P:Nat->En->AH->Prop):∀ (xs:List AV) (i:Nat) (en:En) (h:AH),P i en h ->
  (∀ i en h,P i en h->fM w all h=true) ->
  (∀ (j:Nat) (x:AV) (en:En) (h:AH),xs[j]? = some x->P (i+j) en h->∃ e1 e2 h2,dB t x en=some e1/\(b e1 h = .nx e2 h2\/b e1 h = .ct e2 h2)/\P (i+j+1) e2 h2) ->
  ∃ e' h',cH w all t b xs en h = .nx e' h'/\P (i+xs.length) e' h'
 | [],i,en,h,p,lv,_=>⟨en,h,by unfold cH;rw [KS (lv _ _ _ p)],p⟩
 | x::xs,i,en,h,p,lv,s=>by
  obtain ⟨e1,e2,h2,q1,q2,q3⟩:=s 0 x en h rfl p
  obtain ⟨e',h',r1,r2⟩:=yL P xs (i+1) e2 h2 q3 lv fun j y en h e q=>by
   have:=s (j+1) y en h (by simpa using e) (by rw [show i+(j+1)=i+1+j by lia];exact q)
   rw [show i+(j+1)+1=i+1+j+1 by lia] at this
   exact this
  refine ⟨e',h',?_,by rw [KO,show i+(xs.length+1)=i+1+xs.length by lia];exact r2⟩
  unfold cH
  rw [KS (lv _ _ _ p)]
  simp only [q1]
  rcases q2 with q2 | q2
  ·rw [q2];exact r1
  ·rw [q2];exact r1
theorem nX {α:Type} {js:List Nat} {en:En} {w:Option Nat} {all:List AV} {c:SB} {e:SE} {g f:α->AV} {p:α->Bool} {h:AH} (lv:fM w all h=true):∀ (cs:List α) (ys:List AV),(∀ x∈cs,c (some (g x)::js.map fun j=>(en[j]?).join) h = .ok (p x) h)->(∀ x∈cs,p x=true->e (some (g x)::js.map fun j=>(en[j]?).join) h = .ok (f x) h)->ys.length+cs.length<=sizeLine ->
  eP js en w all c e (cs.map g) ys h = .ok (ys++(cs.filter p).map f) h
 | [],ys,_,_,_=>by rw [Np];unfold eP;rw [KS lv];simp
 | x::xs,ys,hc,he,hl=>by
  have hl':ys.length<sizeLine:=by simp at hl;lia
  rw [Ls]
  unfold eP
  rw [KS ⟨lv,hl'⟩,hc x (by simp)]
  cases hp:p x with
  | false =>
   dsimp only
   rw [nX lv xs ys (fun y hy=>hc y (by simp [hy])) (fun y hy=>he y (by simp [hy])) (by simp at hl ⊢;lia)]
   simp [List.filter_cons,hp]
  | true =>
   dsimp only
   rw [he x (by simp) hp]
   dsimp only
   rw [nX lv xs (ys++[f x]) (fun y hy=>hc y (by simp [hy])) (fun y hy=>he y (by simp [hy])) (by simp at hl ⊢;lia)]
   simp [List.filter_cons,hp]
theorem Gh {α:Type} {js:List Nat} {en:En} {w:Option Nat} {all:List AV} {e:SE} {g f:α->AV} {h:AH} (lv:fM w all h=true) (cs:List α) (ys:List AV) (he:∀ x∈cs,e (some (g x)::js.map fun j=>(en[j]?).join) h = .ok (f x) h) (hl:ys.length+cs.length<=sizeLine) :
  eP js en w all cq e (cs.map g) ys h = .ok (ys++cs.map f) h:=by
 rw [nX (p:=fun _=>true) lv cs ys (fun _ _=>rfl) (fun x hx _=>he x hx) hl,NV.mpr (fun _ _=>rfl)]
@[simp] def thn (o:dI) (Q:En->AH->Prop):Prop:=match o with
 | .nx e h=>Q e h
 | .ct e h=>Q e h
 | _=>False
theorem Gi {o:dI} {Q:En->AH->Prop} (t:thn o Q):∃ e h,(o = .nx e h\/o = .ct e h)/\Q e h:=by
 cases o with
 | nx e h=>exact ⟨e,h,.inl rfl,t⟩
 | ct e h=>exact ⟨e,h,.inr rfl,t⟩
 | _=>exact t.elim
@[simp] def Gj (o:Option En) (Q:En->Prop):Prop:=match o with
 | some e=>Q e
 | none=>False
theorem j5 {w:Option Nat} {all:List AV} {t:Tg} {b:SS} {xs:List AV} {en:En} {h:AH} (P:Nat->En->AH->Prop) (p0:P 0 en h) (lv:∀ i en h,P i en h->fM w all h=true)
  (st:∀ (j:Nat) (x:AV) (en:En) (h:AH),xs[j]? = some x->P j en h->Gj (dB t x en) fun e1=>thn (b e1 h) (P (j+1))) :
  ∃ e' h',cH w all t b xs en h = .nx e' h'/\P xs.length e' h' := by
 have:=yL (w:=w) (all:=all) (t:=t) (b:=b) P xs 0 en h p0 lv fun j x en h hx hp=>by
  have q:=st j x en h hx (by simpa using hp)
  cases z:dB t x en with
  | none=>rw [z] at q;exact q.elim
  | some e1 =>
   rw [z] at q
   obtain ⟨e,h2,a,c⟩:=Gi q
   exact ⟨e1,e,h2,rfl,a,by simpa using c⟩
 simpa using this
@[simp] def Gk (o:Out AV) (Q:AV->AH->Prop):Prop:=match o with
 | .ok v h=>Q v h
 | _=>False
theorem yM {js:List Nat} {en:En} {all:List AV} {e:SE} (P:Nat->List AV->AH->Prop):∀ (xs ys:List AV) (i:Nat) (h:AH),P i ys h ->
  (∀ j x ys h,xs[j]? = some x->P (i+j) ys h->∃ v h2,e (some x::js.map fun j=>(en[j]?).join) h = .ok v h2/\P (i+j+1) (ys++[v]) h2)->ys.length+xs.length<=sizeLine ->
  ∃ zs h',eP js en none all cq e xs ys h = .ok zs h'/\P (i+xs.length) zs h'
 | [],ys,i,h,p,_,_=>⟨ys,h,by simp [eP],p⟩
 | x::xs,ys,i,h,p,s,hl=>by
  obtain ⟨v,h2,q1,q2⟩:=s 0 x ys h rfl p
  obtain ⟨zs,h',r1,r2⟩:=yM P xs (ys++[v]) (i+1) h2 q2 (fun j y ys h hy hp=>by
   have:=s (j+1) y ys h (by simpa using hy) (by rw [show i+(j+1)=i+1+j by lia];exact hp)
   rw [show i+(j+1)+1=i+1+j+1 by lia] at this
   exact this) (by simp at hl ⊢;lia)
  refine ⟨zs,h',?_,by rw [KO,show i+(xs.length+1)=i+1+xs.length by lia];exact r2⟩
  unfold eP
  rw [KS ⟨rfl,by simp at hl;lia⟩]
  simp only [cq]
  rw [q1]
  exact r1
theorem Gm {js:List Nat} {en:En} {all:List AV} {e:SE} {xs:List AV} {h:AH} (P:Nat->List AV->AH->Prop) (p0:P 0 [] h)
  (st:∀ j x ys h,xs[j]? = some x->P j ys h->Gk (e (some x::js.map fun j=>(en[j]?).join) h) fun v h2=>P (j+1) (ys++[v]) h2) (hl:xs.length<=sizeLine) :
  ∃ zs h',eP js en none all cq e xs [] h = .ok zs h'/\P xs.length zs h' := by
 have:=yM (js:=js) (en:=en) (all:=all) (e:=e) P xs [] 0 h p0 (fun j x ys h hx p=>by
  have q:=st j x ys h hx (by simpa using p)
  cases z:e (some x::js.map fun j=>(en[j]?).join) h with
  | ok v h2=>rw [z] at q;exact ⟨v,h2,rfl,by simpa using q⟩
  | ex _ _=>rw [z] at q;exact q.elim
  | bad=>rw [z] at q;exact q.elim) (by simpa using hl)
 simpa using this
theorem sP:∀ (n:Nat) (lo:Int) (i:Nat),(dh lo n)[i]? = if i<n then some (.int (lo+i)) else none
 | 0,lo,i=>by simp [dh]
 | n+1,lo,0=>by simp [dh]
 | n+1,lo,i+1=>by
  unfold dh
  rw [LX,sP n (lo+1) i]
  by_cases q:i<n
  ·rw [KS q,KS (by lia)];congr 2;lia
  ·rw [KW q,KW (by lia)]
theorem j6:∀ (n:Nat) (lo:Int),(dh lo n).length=n
 | 0,_=>rfl
 | n+1,lo=>by unfold dh;rw [KO,j6 n]
theorem mI {a:SE} {en:En} {h h1:AH} {n:Nat} (e:a en h = .ok (.int n) h1) (hn:n<=10000000):fN a en h = .ok (dh 0 n,none) h1:=by
 have h1':(n:Int).natAbs<2 ^ 62:=by omega
 simp only [fN,e,Out.bind]
 rw [KS h1'];rfl
theorem gz {it:SI} {t:Tg} {b:SS} {en:En} {h h1:AH} {xs:List AV} {w:Option Nat} (e:it en h = .ok (xs,w) h1):bp it t b en h=cH w xs t b xs en h1:=by simp only [bp,e]
theorem Gn {i j:Int} {h:AH} (hi:i.natAbs<2 ^ 64):cC (.int i) (.int j) h = .ok (.int (i*j)) h:=KS (.inl (.inl hi))
theorem Gp {i j:Int} {h:AH} (hj:j.natAbs<2 ^ 64):cC (.int i) (.int j) h = .ok (.int (i*j)) h:=KS (.inl (.inr hj))
theorem yN {α:Type} {f:α->AV} {l:List α} {j:Nat} {q:α} (e:l[j]? = some q):atI (l.map f) (j:Int)=some (f q):=kR (by simp [e])
end Sk
set_option exponentiation.threshold 5000
namespace Sk
open PySem PySem.Spec L2 Sm
def gh (c:Nat):Bool:=decide (c=10) || (decide (32<=c) && decide (c<=126))
theorem j7 (a b:Nat):([a]<[b]) ↔ a<b:=by
 simp [List.cons_lt_cons_iff]
theorem pZ:(Str.ofString "\n")=⟨#[10]⟩:=by decide +kernel
theorem sQ:(Str.ofString " ")=⟨#[32]⟩:=by decide +kernel
theorem sR:(Str.ofString "~")=⟨#[126]⟩:=by decide +kernel
theorem Gq (c:Nat) (h:AH):nP [.str ⟨#[c]⟩] h = .ok (.bl (gh c)) h:=by
 simp [nP,pZ,sQ,sR,j7,gh]
 by_cases h1:c=10
 ·simp [h1]
 ·by_cases h2:c<32
  ·have : ¬ 32<=c:=by lia
   simp [h1,h2,this]
  ·have h3:32<=c:=by lia
   by_cases h4:c<=126
   ·have : ¬ 126<c:=by lia
    simp [h1,h2,h3,h4,this]
   ·have:126<c:=by lia
    simp [h1,h2,h3,h4,this]
theorem yO {α:Type} {js:List Nat} {en:En} {all:List AV} {e:SE} {g f:α->AV} {h:AH}:∀ (cs:List α) (ys:List AV),(∀ c∈cs,e (some (g c)::js.map fun j=>(en[j]?).join) h = .ok (f c) h)->ys.length+cs.length<=sizeLine->eP js en none all cq e (cs.map g) ys h = .ok (ys++cs.map f) h
 | [],ys,_,_=>by simp [eP]
 | x::xs,ys,he,hl=>by
  have hl':ys.length<sizeLine:=by simp at hl;lia
  rw [Ls]
  unfold eP
  rw [KS ⟨rfl,hl'⟩]
  simp only [cq]
  rw [he x (by simp)]
  dsimp only
  rw [yO xs (ys++[f x]) (fun y hy=>he y (by simp [hy])) (by simp at hl ⊢;lia)]
  simp
theorem yP (f:Nat->Bool):∀ cs:List Nat,nv (cs.map fun c=>.bl (f c))=some (cs.map f)
 | []=>rfl
 | c::cs=>by simp [yP f cs]
def bJ (x:Str):Bool:=x.cps.toList.all gh
theorem yQ (x:Str) (h:AH) (hl:x.length<=sizeLine):jq [.str x] h = .ok (.bl (bJ x)) h:=by
 have e:=yO (js:=[]) (en:=[some (.str x)]) (all:=x.cps.toList.map fun c=>AV.str ⟨#[c]⟩) (e:=aG nP (aj (ae 0) ag)) (g:=fun c=>AV.str ⟨#[c]⟩) (f:=fun c=>AV.bl (gh c)) (h:=h) x.cps.toList [] (by
  intro c hc
  simp [Gq]) (by simp;exact hl)
 simp only [L6] at e
 simp [jq]
 rw [e]
 simp [yP,bJ]
def dP (x:Str):Bool:=bJ x && (decide (1<=x.length) && decide (x.length<=8))
theorem nY (x:Str) (h:AH) (hl:x.length<=sizeLine):ik [.str x] h = .ok (.bl (dP x)) h:=by
 simp [ik,yQ x h hl,dP]
 by_cases h1:bJ x=true
 ·by_cases h2:1<=x.length
  ·have:(1:Int)<=x.length:=by lia
   by_cases h3:x.length<=8
   ·have:(x.length:Int)<=8:=by lia
    simp [*]
   ·have : ¬ (x.length:Int)<=8:=by lia
    simp [*]
  ·have : ¬ (1:Int)<=x.length:=by lia
   simp [*]
 ·simp [h1]
def j8 (x:Str):Nat:=(Builtin.Str.occurrences x ⟨#[10]⟩ 0 x.length (x.length+1)).length
theorem Gr (x:Str) (h:AH):pY [.str x] h = .ok (.int (j8 x)) h:=by
 simp [pY,pZ,j8]
theorem Gs (i:Int) (h:AH):iS [.int i] h = .ok (.bl true) h:=by
 simp [iS]
inductive Pc where
 | leaf (x:Str)
 | fork (a b:Nat)
 deriving DecidableEq
def Pc.av:Pc->AV
 | .leaf x=>.tup [.str "leaf",.str x]
 | .fork a b=>.tup [.str "fork",.int a,.int b]
theorem Pc.av_inj:∀ {p q:Pc},p.av=q.av->p=q
 | .leaf x,.leaf y,e=>by simp [Pc.av] at e;rw [e]
 | .leaf x,.fork a b,e=>by simp [Pc.av] at e
 | .fork a b,.leaf x,e=>by simp [Pc.av] at e
 | .fork a b,.fork c d,e=>by simp [Pc.av] at e;rw [Int.ofNat.inj e.1,Int.ofNat.inj e.2]
structure Ms where
 sg:Nat
 en:Nat
 lv:Nat
 ht:Int
 fl:Nat
 ll:Nat
def ms0:Ms:=⟨0,0,0,-1,0,0⟩
def iY (ms:List Ms):Pc->Ms
 | .leaf x=>⟨x.length,j8 x,1,0,ms.length,ms.length⟩
 | .fork a b=>⟨(ms.getD a ms0).sg+(ms.getD b ms0).sg,(ms.getD a ms0).en+(ms.getD b ms0).en,(ms.getD a ms0).lv+(ms.getD b ms0).lv,max (ms.getD a ms0).ht (ms.getD b ms0).ht+1,(ms.getD a ms0).fl,(ms.getD b ms0).ll⟩
def meas (ps:List Pc):List Ms:=ps.foldl (fun ms q=>ms++[iY ms q]) [ms0]
theorem sS (ps:List Pc) (q:Pc):meas (ps++[q])=meas ps++[iY (meas ps) q]:=by simp [meas]
theorem fR:∀ ps:List Pc,(meas ps).length=ps.length+1:=by
 have all:∀ (ps:List Pc) (ms:List Ms),(ps.foldl (fun ms q=>ms++[iY ms q]) ms).length=ms.length+ps.length:=by
  intro ps
  induction ps with
  | nil=>intro ms;rfl
  | cons q r ih=>intro ms;rw [List.foldl_cons,ih];simp;lia
 intro ps
 rw [meas,all];simp;lia
def gL (k:Nat):List Pc->List (AV×AV)
 | []=>[]
 | q::r=>(q.av,.int k)::gL (k+1) r
def fG (ps:List Pc):List (AV×AV):=gL 1 ps
theorem p6 (q:Pc):∀ (ps:List Pc) (k:Nat),gL k (ps++[q])=gL k ps++[(q.av,.int ((k+ps.length:Nat):Int))]
 | [],k=>by simp [gL]
 | p::r,k=>by
  simp only [LQ,gL,p6 q r (k+1)]
  rw [show k+1+r.length=k+(p::r).length by simp;lia]
theorem yR:∀ (ps:List Pc) (k:Nat),(gL k ps).length=ps.length
 | [],_=>rfl
 | p::r,k=>by simp [gL,yR r]
theorem p7 {q:Pc}:∀ {ps:List Pc} {k:Nat},q∉ps->bZ (gL k ps) q.av=none
 | [],k,_=>rfl
 | p::r,k,h=>by
  have h1 : ¬ p.av=q.av:=fun e=>h (by rw [Pc.av_inj e];simp)
  have h2:=p7 (q:=q) (ps:=r) (k:=k+1) fun z=>h (by simp [z])
  unfold bZ at h2 ⊢
  simp only [gL,LJ,KD h1]
  exact h2
theorem sT {q:Pc}:∀ {ps:List Pc} {k i:Nat},ps.Nodup->ps[i]? = some q->bZ (gL k ps) q.av=some (.int ((k+i:Nat):Int))
 | [],k,i,_,e=>by simp at e
 | p::r,k,0,n,e=>by simp at e;subst e;simp [bZ,gL]
 | p::r,k,i+1,n,e=>by
  simp at e
  have h1 : ¬ p.av=q.av:=fun z=>(LD.mp n).1 (by rw [Pc.av_inj z];exact Ld e)
  have h2:=sT (q:=q) (k:=k+1) (LD.mp n).2 e
  unfold bZ at h2 ⊢
  simp only [gL,LJ,KD h1]
  rw [h2]
  congr 3
  lia
theorem Gu {q:Pc} {ps:List Pc} (h:q∉ps):hJ (fG ps) q.av (.int ((ps.length+1:Nat):Int))=fG (ps++[q]):=by
 unfold hJ
 rw [yp,fG,p7 h,fG,p6]
 simp [L3]
structure ShelfAt (h:AH) (p:Nat) (ps:List Pc):Prop where
 ob:h[p]? = some (.ins 0 [some (.ref (p+1)),some (.ref (p+2)),some (.ref (p+3)),some (.ref (p+4)),some (.ref (p+5)),some (.ref (p+6)),some (.ref (p+7)),some (.ref (p+8))])
 h1:h[p+1]? = some (.lst (ps.map Pc.av))
 h2:h[p+2]? = some (.dct true (fG ps))
 h3:h[p+3]? = some (.lst ((meas ps).map fun m=>.int m.sg))
 h4:h[p+4]? = some (.lst ((meas ps).map fun m=>.int m.en))
 h5:h[p+5]? = some (.lst ((meas ps).map fun m=>.int m.lv))
 h6:h[p+6]? = some (.lst ((meas ps).map fun m=>.int m.ht))
 h7:h[p+7]? = some (.lst ((meas ps).map fun m=>.int m.fl))
 h8:h[p+8]? = some (.lst ((meas ps).map fun m=>.int m.ll))
def gZ (h:AH) (p:Nat) (ps:List Pc):AH :=
 (((((((h.set (p+1) (.lst (ps.map Pc.av))).set (p+2) (.dct true (fG ps))).set (p+3) (.lst ((meas ps).map fun m=>.int m.sg))).set (p+4) (.lst ((meas ps).map fun m=>.int m.en))).set (p+5) (.lst ((meas ps).map fun m=>.int m.lv))).set
  (p+6) (.lst ((meas ps).map fun m=>.int m.ht))).set (p+7) (.lst ((meas ps).map fun m=>.int m.fl))).set (p+8) (.lst ((meas ps).map fun m=>.int m.ll))
theorem bO {h:AH} {i:Nat} {o:AO} (e:h[i]? = some o):i<h.length:=(Kz.mp e).1
theorem yS (h:AH) (p:Nat) (ps:List Pc):(gZ h p ps).length=h.length:=by simp [gZ]
theorem yT {h:AH} {p q:Nat} {ps:List Pc} (hq:q<=p\/p+8<q):(gZ h p ps)[q]? = h[q]? := by
 unfold gZ
 repeat rw [KM (by lia)]
theorem p8 {h:AH} {p:Nat} {ps ps':List Pc} (S:ShelfAt h p ps):ShelfAt (gZ h p ps') p ps' := by
 have b:=bO S.h8
 have l1:p+1<h.length:=K7 (Ly (by decide) p) b
 have l2:p+2<h.length:=K7 (Ly (by decide) p) b
 have l3:p+3<h.length:=K7 (Ly (by decide) p) b
 have l4:p+4<h.length:=K7 (Ly (by decide) p) b
 have l5:p+5<h.length:=K7 (Ly (by decide) p) b
 have l6:p+6<h.length:=K7 (Ly (by decide) p) b
 have l7:p+7<h.length:=K7 (Ly (by decide) p) b
 have ob:=S.ob
 constructor<;>simp [gZ,M5,l1,l2,l3,l4,l5,l6,l7,b,ob,-KR]
theorem sU {α:Type} (l:List α) (f:α->AV):(l.map f).length=l.length:=by simp
theorem lN {h:AH} {p:Nat} {ps:List Pc} (S:ShelfAt h p ps):gv [.ref p] h = .ok (.int ps.length) h:=by
 simp [gv,S.ob,S.h1]
theorem p9 {h:AH} {p:Nat} {ps:List Pc} {i:Int} (S:ShelfAt h p ps):gc [.ref p,.int i] h = .ok (.bl (decide (1<=i/\i<=ps.length))) h:=by
 simp [gc,Gs,S.ob,S.h1]
 by_cases h1:1<=i<;>simp [h1]
theorem qa {h:AH} {p:Nat} {ps:List Pc} {i:Int} (S:ShelfAt h p ps) (hi:1<=i/\i<=ps.length):lF [.ref p,.int i] h = .ok .non h:=by
 simp [lF,p9 S,S.ob,hi.1,hi.2]
theorem dZ {α:Type} {f:α->AV} {l:List α} {j:Nat} {q:α} (e:l[j]? = some q):atI (l.map f) (j:Int)=some (f q):=kR (by simp [e])
theorem Gv {h:AH} {p:Nat} {ps:List Pc} {j:Nat} {q:Pc} (S:ShelfAt h p ps) (e:ps[j]? = some q):eg [.ref p,.int ((j:Int)+1)] h = .ok q.av h:=by
 have hj:=(Kz.mp e).1
 have h1:=qa S (i:=(j:Int)+1) ⟨by lia,by lia⟩
 simp [eg,h1,S.ob,S.h1,dZ e]
theorem yU {h:AH} {p:Nat} {ps:List Pc} {q:Pc} (S:ShelfAt h p ps) (hq:q∉ps) (hl:ps.length<16000000) :
  nT [.ref p,q.av] h = .ok (.int ((ps.length+1:Nat):Int)) ((h.set (p+1) (.lst ((ps++[q]).map Pc.av))).set (p+2) (.dct true (fG (ps++[q])))):=by
 have b:=bO S.h8
 have hs:ps.length<sizeLine:=MT hl (by decide)
 have ht:(fG ps).length<sizeLine:=by rw [fG,yR];exact hs
 have hk:jH true q.av=true:=by cases q<;>simp [Pc.av]
 have e1:(h.set (p+1) (.lst (ps.map Pc.av++[q.av])))[p]? = h[p]? := KM (by lia)
 have e2:(h.set (p+1) (.lst (ps.map Pc.av++[q.av])))[p+1]? = some (.lst (ps.map Pc.av++[q.av])):=KG (by lia)
 have e3:(h.set (p+1) (.lst (ps.map Pc.av++[q.av])))[p+2]? = h[p+2]? := KM (by lia)
 have tp:=Gu hq
 simp [nT,S.ob,S.h1,hs,e1,e2,e3,S.h2,hk,ht,-jH]
 rw [show ((ps.length:Int)+1)=((ps.length+1:Nat):Int) by simp,tp]
theorem Gw {h:AH} {p:Nat} {ps:List Pc} {x:Str} (S:ShelfAt h p ps) (hq:Pc.leaf x∉ps) (hl:ps.length<16000000) :
  nV [.ref p,(Pc.leaf x).av] h = .ok .non (gZ h p (ps++[.leaf x])):=by
 have b:=bO S.h8
 have hs:ps.length+1<sizeLine:=La (Nat.succ_lt_succ hl) (by decide)
 have hm:(meas ps).length<sizeLine:=by rw [fR];exact hs
 have e:=yU S hq hl
 have b2:((meas ps).length:Int)=(ps.length:Int)+1:=by rw [fR];simp
 have e2:au (Pc.leaf x).av (.int 1)=fun h=>Out.ok (.str x) h:=by funext h;rfl
 have l1:p+1<h.length:=by lia
 have l2:p+2<h.length:=by lia
 have l3:p+3<h.length:=by lia
 have l4:p+4<h.length:=by lia
 have l5:p+5<h.length:=by lia
 have l6:p+6<h.length:=by lia
 have l7:p+7<h.length:=by lia
 simp [nV,e,S.ob,S.h3,S.h4,S.h5,S.h6,S.h7,S.h8,hm,Gr,M5,sS,iY,gZ,e2,fR,hs,-au,-KR]
theorem yV {α:Type} {l:List α} {i:Nat} {d x:α} (e:l[i]? = some x):l.getD i d=x:=by simp [List.getD,e]
theorem Gx {h:AH} {p:Nat} {ps:List Pc} {a b:Nat} {ma mb:Ms} (S:ShelfAt h p ps) (hq:Pc.fork a b∉ps) (hl:ps.length<16000000) (ha:(meas ps)[a]? = some ma) (hb:(meas ps)[b]? = some mb) :
  nU [.ref p,(Pc.fork a b).av] h = .ok .non (gZ h p (ps++[.fork a b])):=by
 have bb:=bO S.h8
 have hs:ps.length+1<sizeLine:=La (Nat.succ_lt_succ hl) (by decide)
 have hm:(meas ps).length<sizeLine:=by rw [fR];exact hs
 have e:=yU S hq hl
 have e2:au (Pc.fork a b).av (.int 1)=fun h=>Out.ok (.int a) h:=by funext h;rfl
 have e3:au (Pc.fork a b).av (.int 2)=fun h=>Out.ok (.int b) h:=by funext h;rfl
 have l1:p+1<h.length:=by lia
 have l2:p+2<h.length:=by lia
 have l3:p+3<h.length:=by lia
 have l4:p+4<h.length:=by lia
 have l5:p+5<h.length:=by lia
 have l6:p+6<h.length:=by lia
 have l7:p+7<h.length:=by lia
 have fx:∀ (n:Nat) (g:Ms->AV) (h':AH),h'[n]? = some (.lst ((meas ps).map g))->au (.ref n) (.int a) h' = .ok (g ma) h'/\au (.ref n) (.int b) h' = .ok (g mb) h' := fun n g h' e=>by
  simp [au,e,dZ ha,dZ hb]
 have f3:=fun (h':AH) (e:h'[p+3]? = some (.lst ((meas ps).map fun m=>.int m.sg)))=>fx _ _ h' e
 have f4:=fun (h':AH) (e:h'[p+4]? = some (.lst ((meas ps).map fun m=>.int m.en)))=>fx _ _ h' e
 have f5:=fun (h':AH) (e:h'[p+5]? = some (.lst ((meas ps).map fun m=>.int m.lv)))=>fx _ _ h' e
 have f6:=fun (h':AH) (e:h'[p+6]? = some (.lst ((meas ps).map fun m=>.int m.ht)))=>fx _ _ h' e
 have f7:=fun (h':AH) (e:h'[p+7]? = some (.lst ((meas ps).map fun m=>.int m.fl)))=>fx _ _ h' e
 have f8:=fun (h':AH) (e:h'[p+8]? = some (.lst ((meas ps).map fun m=>.int m.ll)))=>fx _ _ h' e
 have hmax:∀ i j:Int,(if j > i then j else i)=max i j:=fun i j=>by split<;>lia
 simp [nU,e,S.ob,S.h3,S.h4,S.h5,S.h6,S.h7,S.h8,hm,M5,sS,iY,gZ,e2,e3,fR,hs,dZ ha,dZ hb,yV ha,yV hb,-au,-KR,-List.getD_eq_getElem?_getD,f3,f4,f5,f6,f7,f8,hmax]
theorem sV {h:AH} {p:Nat} {ps:List Pc} {x:Str} {i:Nat} (S:ShelfAt h p ps) (nd:ps.Nodup) (hx:dP x=true) (hl:x.length<=sizeLine) (e:ps[i]? = some (.leaf x)):gY [.ref p,.str x] h = .ok (.int ((i+1:Nat):Int)) h:=by
 have t:=sT (k:=1) nd e
 have t':bZ (fG ps) (.tup [.str "leaf",.str x])=some (.int ((i+1:Nat):Int)):=by rw [L3];exact t
 simp [gY,nY x h hl,hx,S.ob,S.h2,t']
theorem Gy {h:AH} {p:Nat} {ps:List Pc} {x:Str} (S:ShelfAt h p ps) (hx:dP x=true) (hl:x.length<=sizeLine) (hq:Pc.leaf x∉ps) (hz:ps.length<16000000):gY [.ref p,.str x] h = .ok (.int ((ps.length+1:Nat):Int)) (gZ h p (ps++[.leaf x])):=by
 have t:bZ (fG ps) (.tup [.str "leaf",.str x])=none:=p7 (q:=.leaf x) (k:=1) hq
 have S2:=p8 (ps' := ps++[.leaf x]) S
 have e:=Gw S hq hz
 have t2:bZ (fG (ps++[.leaf x])) (.tup [.str "leaf",.str x])=some (.int ((ps.length+1:Nat):Int)):=by
  unfold fG
  rw [p6]
  unfold bZ at t ⊢
  rw [Oi]
  have t3:(gL 1 ps).find? (fun p=>decide (p.1 = .tup [.str "leaf",.str x]))=none:=by simpa [fG] using t
  rw [t3]
  simp [Pc.av,L3]
 have e':nV [.ref p,.tup [.str "leaf",.str x]] h = .ok .non (gZ h p (ps++[.leaf x])):=e
 simp [gY,nY x h hl,hx,S.ob,S.h2,t,e',S2.ob,S2.h2,t2]
theorem Gz {h:AH} {p:Nat} {ps:List Pc} {a b:Nat} {ma mb la fb:Ms} (S:ShelfAt h p ps) (ha:(meas ps)[a]? = some ma) (hb:(meas ps)[b]? = some mb) (pa:1<=a) (pb:1<=b) (hla:(meas ps)[ma.ll]? = some la) (hfb:(meas ps)[mb.fl]? = some fb) :
  kx [.ref p,.int a,.int b] h=if la.sg+fb.sg<=8 then .ex Ge h else if 1<(ma.ht-mb.ht).natAbs then .ex Gf h else if 1000000000000000000<ma.sg+mb.sg then .ex Gg h else .ok .non h:=by
 have la_:=(Kz.mp ha).1
 have lb_:=(Kz.mp hb).1
 rw [fR] at la_ lb_
 have c1:=qa S (i:=(a:Int)) ⟨by lia,by lia⟩
 have c2:=qa S (i:=(b:Int)) ⟨by lia,by lia⟩
 by_cases d1:la.sg+fb.sg<=8
 ·have d1':((la.sg:Int)+fb.sg)<=8:=by lia
  simp [kx,c1,c2,S.ob,S.h3,S.h5,S.h6,S.h7,S.h8,dZ ha,dZ hb,dZ hla,dZ hfb,d1,d1']
 ·have d1' : ¬ ((la.sg:Int)+fb.sg)<=8:=by lia
  by_cases d2:1<(ma.ht-mb.ht).natAbs
  ·have d2':(1:Int)<(if ma.ht-mb.ht<0 then -(ma.ht-mb.ht) else ma.ht-mb.ht):=by split<;>lia
   simp [kx,c1,c2,S.ob,S.h3,S.h5,S.h6,S.h7,S.h8,dZ ha,dZ hb,dZ hla,dZ hfb,d1,d1',d2,d2',-Ot]
  ·have d2' : ¬ (1:Int)<(if ma.ht-mb.ht<0 then -(ma.ht-mb.ht) else ma.ht-mb.ht):=by split<;>lia
   by_cases d3:1000000000000000000<ma.sg+mb.sg
   ·have d3':(1000000000000000000:Int)<(ma.sg:Int)+mb.sg:=by lia
    simp [kx,c1,c2,S.ob,S.h3,S.h5,S.h6,S.h7,S.h8,dZ ha,dZ hb,dZ hla,dZ hfb,d1,d1',d2,d2',d3,d3',-Ot]
   ·have d3' : ¬ (1000000000000000000:Int)<(ma.sg:Int)+mb.sg:=by lia
    simp [kx,c1,c2,S.ob,S.h3,S.h5,S.h6,S.h7,S.h8,dZ ha,dZ hb,dZ hla,dZ hfb,d1,d1',d2,d2',d3,d3',-Ot]
structure ForkOk (ps:List Pc) (a b:Nat):Prop where
 pa:1<=a
 pb:1<=b
 ex:∃ ma mb la fb,(meas ps)[a]? = some ma/\(meas ps)[b]? = some mb/\(meas ps)[ma.ll]? = some la/\(meas ps)[mb.fl]? = some fb/\8<la.sg+fb.sg/\(ma.ht-mb.ht).natAbs<=1/\ma.sg+mb.sg<=1000000000000000000
theorem yW {h:AH} {p:Nat} {ps:List Pc} {a b:Nat} (S:ShelfAt h p ps) (F:ForkOk ps a b):kx [.ref p,.int a,.int b] h = .ok .non h:=by
 obtain ⟨ma,mb,la,fb,h1,h2,h3,h4,h5,h6,h7⟩:=F.ex
 rw [Gz S h1 h2 F.pa F.pb h3 h4,KW (by lia),KW (by lia),KW (by lia)]
theorem sW {h:AH} {p:Nat} {ps:List Pc} {a b i:Nat} (S:ShelfAt h p ps) (nd:ps.Nodup) (F:ForkOk ps a b) (e:ps[i]? = some (.fork a b)):bA [.ref p,.int a,.int b] h = .ok (.int ((i+1:Nat):Int)) h:=by
 have t:=sT (k:=1) nd e
 have t':bZ (fG ps) (.tup [.str "fork",.int a,.int b])=some (.int ((i+1:Nat):Int)):=by rw [L3];exact t
 simp [bA,yW S F,S.ob,S.h2,t']
theorem GA {h:AH} {p:Nat} {ps:List Pc} {a b:Nat} (S:ShelfAt h p ps) (F:ForkOk ps a b) (hq:Pc.fork a b∉ps) (hz:ps.length<16000000):bA [.ref p,.int a,.int b] h = .ok (.int ((ps.length+1:Nat):Int)) (gZ h p (ps++[.fork a b])):=by
 have t:bZ (fG ps) (.tup [.str "fork",.int a,.int b])=none:=p7 (q:=.fork a b) (k:=1) hq
 have S2:=p8 (ps' := ps++[.fork a b]) S
 obtain ⟨ma,mb,la,fb,h1,h2,_⟩:=F.ex
 have e:=Gx S hq hz h1 h2
 have t2:bZ (fG (ps++[.fork a b])) (.tup [.str "fork",.int a,.int b])=some (.int ((ps.length+1:Nat):Int)):=by
  unfold fG
  rw [p6]
  unfold bZ at t ⊢
  rw [Oi]
  have t3:(gL 1 ps).find? (fun p=>decide (p.1 = .tup [.str "fork",.int a,.int b]))=none:=by simpa [fG] using t
  rw [t3]
  simp [Pc.av,L3]
 have e':nU [.ref p,.tup [.str "fork",.int a,.int b]] h = .ok .non (gZ h p (ps++[.fork a b])):=e
 simp [bA,yW S F,S.ob,S.h2,t,e',S2.ob,S2.h2,t2]
def lO (n:Nat):List AO:=[.ins 0 [some (.ref (n+1)),some (.ref (n+2)),some (.ref (n+3)),some (.ref (n+4)),some (.ref (n+5)),some (.ref (n+6)),some (.ref (n+7)),some (.ref (n+8))],.lst [],.dct true [],.lst [.int 0],.lst [.int 0],.lst [.int 0],.lst [.int (-1)],.lst [.int 0],.lst [.int 0]]
theorem GB {h:AH} {o o':AO} {r:AH}:(h++o::r).set h.length o'=h++o'::r:=by
 induction h with
 | nil=>rfl
 | cons x t ih=>simp [ih]
theorem GC (en:En) (h:AH):pD 0 8 nK ag en h = .ok (.ref h.length) (h++lO h.length):=by
 simp [nK,lO,List.getElem?_append,GB]
theorem yX {h r:AH} {k:Nat}:(h++r)[h.length+k]? = r[k]? := by
 rw [Lu (by lia)];simp
theorem GD (h r:AH):ShelfAt (h++(lO h.length++r)) h.length []:=by
 refine ⟨?_,?_,?_,?_,?_,?_,?_,?_,?_⟩
 ·rw [show h.length=h.length+0 from rfl,yX];rfl
 all_goals (rw [yX];rfl)
theorem yY (x:Str) (c i:Nat) (hi:i<x.length):Builtin.Str.subAt x ⟨#[c]⟩ i=decide (x.cps.toList[i]? = some c):=by
 have hi':i<x.cps.size:=hi
 unfold Builtin.Str.subAt
 have e:x.cps.extract i (i+1) = #[x.cps[i]]:=by
  apply Array.ext
  ·simp;lia
  ·intro j h1 h2
   have:j=0:=by simp at h2;lia
   subst this
   simp
 show (x.cps.extract i (i+1) == #[c])=_
 rw [e]
 have:x.cps.toList[i]? = some x.cps[i]:=by simp [hi']
 rw [this]
 by_cases q:x.cps[i]=c
 ·simp [q]
 ·simp [q]
theorem qb (x:Str) (c:Nat):∀ (n i:Nat) (st:Array Nat×Nat),i+n=x.length+1->st.2<=i->st.1.size<=i->(forIn (List.range' i n) st (StrLaws.occBody x ⟨#[c]⟩ x.length (x.length+1))).run.fst.size=st.1.size+(x.cps.toList.drop i).count c
 | 0,i,st,hn,_,_=>by
  rw [LN (by simp;simp only [Str.length] at hn;lia)]
  simp
 | n+1,i,st,hn,h2,h3=>by
  rw [List.range'_succ,List.forIn_cons]
  unfold StrLaws.occBody
  by_cases hi:i<x.length
  ·have hi':i<x.cps.size:=hi
   have hd:x.cps.toList.drop i=x.cps[i]'hi'::x.cps.toList.drop (i+1):=by
    rw [Mr (show i<x.cps.toList.length by simpa using hi')];simp
   have hg:x.cps.toList[i]? = some (x.cps[i]'hi'):=by
    simp [hi']
   by_cases q:x.cps[i]'hi'=c
   ·have hs:Builtin.Str.subAt x ⟨#[c]⟩ i=true:=by rw [yY x c i hi,hg,q];simp
    rw [KS ⟨⟨⟨by lia,h2⟩,hi⟩,hs⟩]
    show (forIn (List.range' (i+1) n) (st.1.push i,i+1) (StrLaws.occBody x ⟨#[c]⟩ x.length (x.length+1))).run.fst.size=_
    rw [qb x c n (i+1) _ (by lia) (KC _) (by simp;lia),hd,q]
    simp;lia
   ·have hs:Builtin.Str.subAt x ⟨#[c]⟩ i=false:=by rw [yY x c i hi,hg];simp [q]
    rw [KW (by simp [hs])]
    show (forIn (List.range' (i+1) n) (st.1,st.2) (StrLaws.occBody x ⟨#[c]⟩ x.length (x.length+1))).run.fst.size=_
    rw [qb x c n (i+1) _ (by lia) (by show st.2<=i+1;lia) (by show st.1.size<=i+1;lia),hd]
    simp [q]
  ·rw [KW (by rintro ⟨⟨_,z⟩,_⟩;exact hi z)]
   show (forIn (List.range' (i+1) n) (st.1,st.2) (StrLaws.occBody x ⟨#[c]⟩ x.length (x.length+1))).run.fst.size=_
   rw [qb x c n (i+1) _ (by lia) (by show st.2<=i+1;lia) (by show st.1.size<=i+1;lia)]
   rw [LN (by simp;simp only [Str.length] at hi;lia),LN (by simp;simp only [Str.length] at hi;lia)]
theorem GE (x:Str) (c:Nat):(Builtin.Str.occurrences x ⟨#[c]⟩ 0 x.length (x.length+1)).length=x.cps.toList.count c:=by
 rw [StrLaws.occ_eq,LO]
 rw [show x.length+1-0=x.length+1 from rfl,qb x c (x.length+1) 0 _ (by lia) (KC _) (by simp)]
 simp
theorem sX (x:Str):j8 x=x.cps.toList.count 10:=GE x 10
theorem eC (x y:Str):(x++y).cps.toList=x.cps.toList++y.cps.toList:=by
 show (x.cps++y.cps).toList=_
 simp
theorem GG (x y:Str):j8 (x++y)=j8 x+j8 y:=by
 rw [sX,sX,sX,eC,List.count_append]
theorem bB (x:Str):x.length=x.cps.toList.length:=by simp [Str.length]
theorem fk (x y:Str):(x++y).length=x.length+y.length:=by
 rw [bB,bB,bB,eC,KH]
def lP (rs:List Str):Pc->Str
 | .leaf x=>x
 | .fork a b=>rs.getD a "" ++ rs.getD b ""
def reads (ps:List Pc):List Str:=ps.foldl (fun rs q=>rs++[lP rs q]) [""]
theorem GH (ps:List Pc) (q:Pc):reads (ps++[q])=reads ps++[lP (reads ps) q]:=by simp [reads]
theorem nZ {α β:Type} (g:List β->α->β):∀ (qs:List α) (ms:List β),∃ r,qs.foldl (fun ms q=>ms++[g ms q]) ms=ms++r/\r.length=qs.length
 | [],ms=>⟨[],by simp,rfl⟩
 | q::qs,ms=>by
  obtain ⟨r,e,l⟩:=nZ g qs (ms++[g ms q])
  exact ⟨g ms q::r,by rw [List.foldl_cons,e];simp,by simp [l]⟩
theorem qc (ps:List Pc):(reads ps).length=ps.length+1:=by
 obtain ⟨r,e,l⟩:=nZ lP ps [""]
 rw [reads,e];simp [l,L3]
theorem GI (ps qs:List Pc):∃ r,meas (ps++qs)=meas ps++r:=by
 unfold meas
 rw [Oj]
 obtain ⟨r,e,_⟩:=nZ iY qs (ps.foldl (fun ms q=>ms++[iY ms q]) [ms0])
 exact ⟨r,e⟩
theorem GJ (ps qs:List Pc):∃ r,reads (ps++qs)=reads ps++r:=by
 unfold reads
 rw [Oj]
 obtain ⟨r,e,_⟩:=nZ lP qs (ps.foldl (fun ms q=>ms++[lP ms q]) [""])
 exact ⟨r,e⟩
theorem bQ {ps ps':List Pc} (h:ps <+: ps') {n:Nat} {m:Ms} (e:(meas ps)[n]? = some m):(meas ps')[n]? = some m:=by
 obtain ⟨qs,rfl⟩:=h
 obtain ⟨r,q⟩:=GI ps qs
 rw [q,KA (Kz.mp e).1];exact e
theorem qd {ps ps':List Pc} (h:ps <+: ps') {n:Nat} {m:Str} (e:(reads ps)[n]? = some m):(reads ps')[n]? = some m:=by
 obtain ⟨qs,rfl⟩:=h
 obtain ⟨r,q⟩:=GJ ps qs
 rw [q,KA (Kz.mp e).1];exact e
theorem qe (ps:List Pc) (i:Nat):ps.take i <+: ps:=List.take_prefix i ps
theorem sY {ps:List Pc} {i:Nat} {q:Pc} (e:ps[i]? = some q):(ps.take i++[q]) <+: ps/\(ps.take i).length=i:=by
 have hi:=(Kz.mp e).1
 have:ps.take (i+1)=ps.take i++[q]:=by
  rw [NM,e];rfl
 exact ⟨this▸List.take_prefix _ _,by simp;lia⟩
theorem yZ {ps:List Pc} {i:Nat} {q:Pc} (e:ps[i]? = some q):(meas ps)[i+1]? = some (iY (meas (ps.take i)) q):=by
 obtain ⟨h,l⟩:=sY e
 refine bQ h ?_
 rw [sS,Lu (by rw [fR,l];lia),fR,l]
 simp
theorem y3 {ps:List Pc} {i:Nat} {q:Pc} (e:ps[i]? = some q):(reads ps)[i+1]? = some (lP (reads (ps.take i)) q):=by
 obtain ⟨h,l⟩:=sY e
 refine qd h ?_
 rw [GH,Lu (by rw [qc,l];lia),qc,l]
 simp
def n8 (ps:List Pc):Pc->Prop
 | .leaf x=>dP x=true
 | .fork a b=>ForkOk ps a b
inductive Good:List Pc->Prop
 | nil:Good []
 | snoc {ps:List Pc} {q:Pc}:Good ps->q∉ps->n8 ps q->Good (ps++[q])
theorem Good.nodup {ps:List Pc} (g:Good ps):ps.Nodup:=by
 induction g with
 | nil=>exact MY
 | snoc g n ok ih=>exact Og.mpr ⟨ih,by simp,fun a ha b hb=>by simp at hb;subst hb;exact fun e=>n (e▸ha)⟩
theorem Good.get {ps:List Pc} (g:Good ps):∀ {i:Nat} {q:Pc},ps[i]? = some q->n8 (ps.take i) q:=by
 induction g with
 | nil=>intro i q e;simp at e
 | @snoc ps q' g n ok ih =>
  intro i q e
  by_cases hi:i<ps.length
  ·rw [KA hi] at e
   rw [LW (by lia)]
   exact ih e
  ·have hi2:i=ps.length:=by
    have:=(Kz.mp e).1
    simp at this;lia
   subst hi2
   simp at e
   subst e
   simpa using ok
theorem ForkOk.pre {ps ps':List Pc} {a b:Nat} (F:ForkOk ps a b) (h:ps <+: ps'):ForkOk ps' a b:=by
 obtain ⟨ma,mb,la,fb,h1,h2,h3,h4,h5⟩:=F.ex
 exact ⟨F.pa,F.pb,ma,mb,la,fb,bQ h h1,bQ h h2,bQ h h3,bQ h h4,h5⟩
structure Ky (ps:List Pc) (m:Ms) (x:Str) (f l:Ms):Prop where
 fl:(meas ps)[m.fl]? = some f
 ll:(meas ps)[m.ll]? = some l
 sg:m.sg=x.length
 en:m.en=j8 x
 f1:1<=f.sg
 f8:f.sg<=8
 l1:1<=l.sg
 l8:l.sg<=8
 lv:1<=m.lv
 ht:0<=m.ht
 most:m.sg<=1000000000000000000
 cnt:∃ k,(m.lv=2*k+1/\9*k+f.sg<=m.sg/\9*k+l.sg<=m.sg)\/(m.lv=2*k+2/\9*k+9<=m.sg/\9*k+f.sg+l.sg<=m.sg)
 pl:bJ x=true
structure Tx (ps:List Pc) (n:Nat) (m:Ms) (x:Str) (f l:Ms):Prop where
 n1:1<=n
 ms:(meas ps)[n]? = some m
 rd:(reads ps)[n]? = some x
 ky:Ky ps m x f l
theorem Ky.pre {ps ps':List Pc} {m:Ms} {x:Str} {f l:Ms} (k:Ky ps m x f l) (h:ps <+: ps'):Ky ps' m x f l :=
 { k with fl:=bQ h k.fl,ll:=bQ h k.ll }
theorem Tx.pre {ps ps':List Pc} {n:Nat} {m:Ms} {x:Str} {f l:Ms} (k:Tx ps n m x f l) (h:ps <+: ps'):Tx ps' n m x f l :=
 ⟨k.n1,bQ h k.ms,qd h k.rd,k.ky.pre h⟩
theorem Tx.le {ps:List Pc} {n:Nat} {m:Ms} {x:Str} {f l:Ms} (k:Tx ps n m x f l):n<=ps.length:=by
 have:=(Kz.mp k.ms).1
 rw [fR] at this;lia
def iZ (ma mb:Ms):Ms:=⟨ma.sg+mb.sg,ma.en+mb.en,ma.lv+mb.lv,max ma.ht mb.ht+1,ma.fl,mb.ll⟩
theorem lQ (x y:Str):bJ (x++y)=(bJ x && bJ y):=by unfold bJ;rw [eC,List.all_append]
theorem GL {n n' s s' f l f' l':Nat} (a:∃ k,(n=2*k+1/\9*k+f<=s/\9*k+l<=s)\/(n=2*k+2/\9*k+9<=s/\9*k+f+l<=s)) (b:∃ k,(n'=2*k+1/\9*k+f'<=s'/\9*k+l'<=s')\/(n'=2*k+2/\9*k+9<=s'/\9*k+f'+l'<=s')) (hs:8<l+f') :
  ∃ k,(n+n'=2*k+1/\9*k+f<=s+s'/\9*k+l'<=s+s')\/(n+n'=2*k+2/\9*k+9<=s+s'/\9*k+f+l'<=s+s'):=by
 obtain ⟨k,⟨rfl,a1,a2⟩ | ⟨rfl,a1,a2⟩⟩:=a<;>obtain ⟨k',⟨rfl,b1,b2⟩ | ⟨rfl,b1,b2⟩⟩:=b
 ·exact ⟨k+k',.inr ⟨by lia,by lia,by lia⟩⟩
 ·exact ⟨k+k'+1,.inl ⟨by lia,by lia,by lia⟩⟩
 ·exact ⟨k+k'+1,.inl ⟨by lia,by lia,by lia⟩⟩
 ·exact ⟨k+k'+1,.inr ⟨by lia,by lia,by lia⟩⟩
theorem Ky.sg1 {ps:List Pc} {m:Ms} {x:Str} {f l:Ms} (k:Ky ps m x f l):1<=m.sg:=by
 have f1:=k.f1
 obtain ⟨k,⟨_,a,_⟩ | ⟨_,a,_⟩⟩:=k.cnt
 ·exact KN f1 (KN (Nat.le_add_left _ _) a)
 ·exact KN (Nat.le_add_left 1 (9*k+8)) a
theorem Ky.fork {ps:List Pc} {ma mb fa la fb lb:Ms} {x y:Str} (A:Ky ps ma x fa la) (B:Ky ps mb y fb lb) (hs:8<la.sg+fb.sg) (hm:ma.sg+mb.sg<=1000000000000000000):Ky ps (iZ ma mb) (x++y) fa lb:=by
 have k:=GL A.cnt B.cnt hs
 refine ⟨A.fl,B.ll,?_,?_,A.f1,A.f8,B.l1,B.l8,KN A.lv (Nat.le_add_right _ _),?_,hm,k,?_⟩
 ·show ma.sg+mb.sg=_;rw [fk,A.sg,B.sg]
 ·show ma.en+mb.en=_;rw [GG,A.en,B.en]
 ·have a4:=A.ht
  show 0<=max ma.ht mb.ht+1
  clear k hs hm;lia
 ·rw [lQ,A.pl,B.pl];rfl
theorem fS {x:Str} (h:dP x=true):1<=x.length/\x.length<=8/\bJ x=true:=by
 simp [dP] at h;exact ⟨h.2.1,h.2.2,h.1⟩
theorem j9 {α:Type} {l:List α} {i:Nat} {d x:α} (e:l[i]? = some x):l.getD i d=x:=by simp [List.getD,e]
def cD (x:Str) (n:Nat):Ms:=⟨x.length,j8 x,1,0,n,n⟩
theorem n9 {ps:List Pc} (g:Good ps) {i:Nat} {x:Str} (e:ps[i]? = some (.leaf x)):Tx ps (i+1) (cD x (i+1)) x (cD x (i+1)) (cD x (i+1)):=by
 have hi:=(Kz.mp e).1
 have ok:dP x=true:=g.get e
 obtain ⟨s1,s2,s3⟩:=fS ok
 have li:(ps.take i).length=i:=by simp;lia
 have ml:(meas (ps.take i)).length=i+1:=by rw [fR,li]
 have e1':(meas ps)[i+1]? = some (cD x (i+1)):=by rw [yZ e];simp only [iY,cD];rw [ml]
 exact ⟨by lia,e1',y3 e,⟨e1',e1',rfl,rfl,s1,s2,s1,s2,KC 1,Int.le_refl 0,by show x.length<=_;lia,⟨0,.inl ⟨rfl,Nj (Nq _),Nj (Nq _)⟩⟩,s3⟩⟩
theorem og {ps:List Pc} (g:Good ps) {i a b:Nat} {ma mb fa la fb lb:Ms} {x y:Str} (e:ps[i]? = some (.fork a b)) (A:Tx ps a ma x fa la) (B:Tx ps b mb y fb lb):Tx ps (i+1) (iZ ma mb) (x++y) fa lb:=by
 have hi:=(Kz.mp e).1
 have ok':ForkOk (ps.take i) a b:=g.get e
 have li:(ps.take i).length=i:=by simp;lia
 have tp:=qe ps i
 obtain ⟨ma',mb',la',fb',q1,q2,q3,q4,q5,q6,q7⟩:=ok'.ex
 have ba:=(Kz.mp q1).1
 have bb:=(Kz.mp q2).1
 rw [fR,li] at ba bb
 have z1:=A.ms.symm.trans (bQ tp q1);cases z1
 have z2:=B.ms.symm.trans (bQ tp q2);cases z2
 have z3:=A.ky.ll.symm.trans (bQ tp q3);cases z3
 have z4:=B.ky.fl.symm.trans (bQ tp q4);cases z4
 have r1:(reads (ps.take i))[a]? = some x:=by
  obtain ⟨w,ew⟩:∃ w,(reads (ps.take i))[a]? = some w:=⟨(reads (ps.take i))[a]'(by rw [qc,li];lia),by simp⟩
  have:=(qd tp ew).symm.trans A.rd;cases this;exact ew
 have r2:(reads (ps.take i))[b]? = some y:=by
  obtain ⟨w,ew⟩:∃ w,(reads (ps.take i))[b]? = some w:=⟨(reads (ps.take i))[b]'(by rw [qc,li];lia),by simp⟩
  have:=(qd tp ew).symm.trans B.rd;cases this;exact ew
 refine ⟨by lia,?_,?_,A.ky.fork B.ky q5 q7⟩
 ·rw [yZ e];simp only [iY,j9 q1,j9 q2];rfl
 ·rw [y3 e];simp only [lP,j9 r1,j9 r2]
theorem Good.tx {ps:List Pc} (g:Good ps):∀ n,1<=n->n<=ps.length->∃ m x f l,Tx ps n m x f l:=by
 intro n
 induction n using Nat.strongRecOn with
 | ind n ih =>
  intro h1 h2
  obtain ⟨i,rfl⟩:∃ i,n=i+1:=⟨n-1,(Nat.sub_add_cancel h1).symm⟩
  obtain ⟨q,eq⟩:∃ q,ps[i]? = some q:=⟨ps[i],by simp⟩
  have ok:=g.get eq
  have li:(ps.take i).length=i:=(sY eq).2
  cases q with
  | leaf x=>exact ⟨_,_,_,_,n9 g eq⟩
  | fork a b =>
   have ok':ForkOk (ps.take i) a b:=ok
   obtain ⟨ma,mb,la,fb,q1,q2,_⟩:=ok'.ex
   have ba:=(Kz.mp q1).1
   have bb:=(Kz.mp q2).1
   rw [fR,li] at ba bb
   obtain ⟨_,_,_,_,A⟩:=ih a ba ok'.pa (KN (Mf ba) h2)
   obtain ⟨_,_,_,_,B⟩:=ih b bb ok'.pb (KN (Mf bb) h2)
   exact ⟨_,_,_,_,og g eq A B⟩
structure Dd (p:Nat) (h h':AH) (ps ps':List Pc) (k:Nat):Prop where
 sh:ShelfAt h' p ps'
 gd:Good ps'
 pre:ps <+: ps'
 len:ps'.length<=ps.length+k
 fr:∀ i,i<=p\/p+8<i->h'[i]? = h[i]?
 hl:h'.length=h.length
theorem ShelfAt.keep {h h':AH} {p:Nat} {ps:List Pc} (S:ShelfAt h p ps) (e:∀ i,p<=i->i<=p+8->h'[i]? = h[i]?):ShelfAt h' p ps:=by
 have k:∀ j,j<=8->h'[p+j]? = h[p+j]? := fun j hj=>e _ (Nat.le_add_right p j) (Ly hj p)
 exact ⟨(k 0 (by decide)).trans S.ob,(k 1 (by decide)).trans S.h1,(k 2 (by decide)).trans S.h2,(k 3 (by decide)).trans S.h3,(k 4 (by decide)).trans S.h4,(k 5 (by decide)).trans S.h5,(k 6 (by decide)).trans S.h6,(k 7 (by decide)).trans S.h7,(k 8 (by decide)).trans S.h8⟩
theorem ShelfAt.app {h:AH} {p:Nat} {ps:List Pc} (S:ShelfAt h p ps) (r:AH):ShelfAt (h++r) p ps:=by
 have:=bO S.h8
 exact S.keep fun i _ b=>KA (K7 b this)
structure Wk (p r:Nat) (h h':AH) (ps ps':List Pc) (k:Nat):Prop where
 sh:ShelfAt h' p ps'
 gd:Good ps'
 pre:ps <+: ps'
 len:ps'.length<=ps.length+k
 row:∃ N:Int,h'[r]? = some (.lst [.int N])
 fr:∀ i,i<=p\/p+8<i->i≠r->h'[i]? = h[i]?
 hl:h'.length=h.length
theorem Wk.refl {p r:Nat} {h:AH} {ps:List Pc} (S:ShelfAt h p ps) (g:Good ps) (e:∃ N:Int,h[r]? = some (.lst [.int N])):Wk p r h h ps ps 0 :=
 ⟨S,g,LR _,by lia,e,fun _ _ _=>rfl,rfl⟩
theorem kB {h:AH} {p:Nat} {ps:List Pc} {i:Nat} (S:ShelfAt h p ps) (hi:i<=ps.length):ij [.ref p,.int i] h = .ok .non h:=by
 by_cases z:i=0
 ·subst z;simp [ij]
 ·have c:=qa S (i:=(i:Int)) ⟨by lia,by lia⟩
  simp [ij,z,S.ob,c]
theorem i4 {h:AH} {p:Nat} {ps:List Pc} {i:Nat} {m:Ms} (S:ShelfAt h p ps) (e:(meas ps)[i]? = some m):iF [.ref p,.int i] h = .ok (.int m.sg) h:=by
 have hi:=(Kz.mp e).1
 rw [fR] at hi
 simp [iF,kB S (show i<=ps.length by lia),S.ob,S.h3,dZ e]
theorem dR {h:AH} {p:Nat} {ps:List Pc} {i:Nat} {m:Ms} (S:ShelfAt h p ps) (e:(meas ps)[i]? = some m):il [.ref p,.int i] h = .ok (.int m.ht) h:=by
 have hi:=(Kz.mp e).1
 rw [fR] at hi
 simp [il,kB S (show i<=ps.length by lia),S.ob,S.h6,dZ e]
theorem y4 {h:AH} {p:Nat} {ps:List Pc} {i:Nat} {m:Ms} (S:ShelfAt h p ps) (e:(meas ps)[i]? = some m):nS [.ref p,.int i] h = .ok (.int m.fl) h:=by
 have hi:=(Kz.mp e).1
 rw [fR] at hi
 simp [nS,kB S (show i<=ps.length by lia),S.ob,S.h7,dZ e]
theorem y6 {h:AH} {p:Nat} {ps:List Pc} {i:Nat} {m:Ms} (S:ShelfAt h p ps) (e:(meas ps)[i]? = some m):nQ [.ref p,.int i] h = .ok (.int m.ll) h:=by
 have hi:=(Kz.mp e).1
 rw [fR] at hi
 simp [nQ,kB S (show i<=ps.length by lia),S.ob,S.h8,dZ e]
def lp:Nat->Nat×Nat
 | 0=>(1,2)
 | n+1=>((lp n).2,(lp n).1+(lp n).2)
def ll (n:Nat):Nat:=(lp n).1
def ls (n:Nat):Nat:=9*(ll n / 2)+ll n % 2
theorem ka (n:Nat):ll (n+2)=ll n+ll (n+1):=rfl
theorem y8:∀ n,ll n<=ll (n+1)
 | 0=>by decide
 | n+1=>by rw [show n+1+1=n+2 from rfl,ka];lia
theorem GN {a b:Nat} (h:a<=b):ll a<=ll b:=by
 induction h with
 | refl=>exact KC _
 | step h ih=>exact KN ih (y8 _)
theorem GO {a b:Nat} (h:a<=b):ls a<=ls b:=by
 have:=GN h
 unfold ls;lia
theorem GP {i j a b:Nat} (h1:i<=j+1) (h2:j<=i+1) (u1:ll i<=a) (u2:ll j<=b):ll (max i j+1)<=a+b:=by
 rcases Nat.lt_trichotomy i j with c | c | c
 ·have e':j=i+1:=NC h2 c
  subst e'
  rw [Nat.max_eq_right (M4 i),ka];exact NO u1 u2
 ·subst c
  rw [Nat.max_self]
  refine KN ?_ (NO u1 u2)
  cases i with
  | zero=>exact KC 2
  | succ k=>rw [show k+1+1=k+2 from rfl,ka];exact Nat.add_le_add_right (y8 k) _
 ·have e':i=j+1:=NC h1 c
  subst e'
  rw [Nat.max_eq_left (M4 j),ka,L3];exact NO u1 u2
theorem GQ {x y:Int} {a b:Nat} (hx:0<=x) (hy:0<=y) (q:(x-y).natAbs<=1) (u1:ll x.toNat<=a) (u2:ll y.toNat<=b):ll (max x y+1).toNat<=a+b:=by
 obtain ⟨i,rfl⟩:=LU hx
 obtain ⟨j,rfl⟩:=LU hy
 have e:(max (i:Int) j+1).toNat=max i j+1:=by clear u1 u2 q;omega
 rw [e]
 exact GP (by clear u1 u2 e;omega) (by clear u1 u2 e;omega) u1 u2
theorem Good.lv {ps:List Pc} (g:Good ps):∀ n m x f l,Tx ps n m x f l->ll m.ht.toNat<=m.lv:=by
 intro n
 induction n using Nat.strongRecOn with
 | ind n ih =>
  intro m x f l T
  have hn:=T.n1
  have hle:=T.le
  obtain ⟨i,rfl⟩:∃ i,n=i+1:=⟨n-1,by lia⟩
  obtain ⟨q,eq⟩:∃ q,ps[i]? = some q:=⟨ps[i],by simp⟩
  cases q with
  | leaf y =>
   have z:=(n9 g eq).ms.symm.trans T.ms;cases z
   exact KC 1
  | fork a b =>
   have ok':ForkOk (ps.take i) a b:=g.get eq
   have li:(ps.take i).length=i:=by simp;lia
   obtain ⟨ma,mb,la,fb,q1,q2,q3,q4,q5,q6,q7⟩:=ok'.ex
   have ba:=(Kz.mp q1).1
   have bb:=(Kz.mp q2).1
   rw [fR,li] at ba bb
   obtain ⟨ma',x1,fa,la',A⟩:=g.tx a ok'.pa (by lia)
   obtain ⟨mb',y1,fb',lb,B⟩:=g.tx b ok'.pb (by lia)
   have tp:=qe ps i
   have z1:=A.ms.symm.trans (bQ tp q1);cases z1
   have z2:=B.ms.symm.trans (bQ tp q2);cases z2
   have u1:=ih a (by lia) _ _ _ _ A
   have u2:=ih b (by lia) _ _ _ _ B
   have z:=(og g eq A B).ms.symm.trans T.ms;cases z
   exact GQ A.ky.ht B.ky.ht q6 u1 u2
theorem Tx.ls {ps:List Pc} (g:Good ps) {n:Nat} {m:Ms} {x:Str} {f l:Ms} (T:Tx ps n m x f l):Sk.ls m.ht.toNat<=m.sg:=by
 have u:=g.lv _ _ _ _ _ T
 have f1:=T.ky.f1
 unfold Sk.ls
 obtain ⟨k,⟨e,a,_⟩ | ⟨e,a,_⟩⟩:=T.ky.cnt
 ·rw [e] at u;generalize ll m.ht.toNat=q at *;clear e;lia
 ·rw [e] at u;generalize ll m.ht.toNat=q at *;clear e;lia
theorem Good.kind {ps:List Pc} (g:Good ps) {n:Nat} {m:Ms} {x:Str} {f l:Ms} (T:Tx ps n m x f l) :
  (ps[n-1]? = some (.leaf x)/\m.ht=0/\m=cD x n/\1<=x.length/\x.length<=8)\/∃ a b ma mb y z fa la fb lb,ps[n-1]? = some (.fork a b)/\a<n/\b<n/\Tx ps a ma y fa la/\Tx ps b mb z fb lb/\x=y++z/\m=iZ ma mb/\(ma.ht-mb.ht).natAbs<=1:=by
 have hn:=T.n1
 have hle:=T.le
 obtain ⟨i,rfl⟩:∃ i,n=i+1:=⟨n-1,by lia⟩
 obtain ⟨q,eq⟩:∃ q,ps[i]? = some q:=⟨ps[i],by simp⟩
 cases q with
 | leaf y =>
  have L:=n9 g eq
  have z:=L.ms.symm.trans T.ms;cases z
  have z2:=L.rd.symm.trans T.rd;cases z2
  have ok:dP x=true:=g.get eq
  obtain ⟨s1,s2,s3⟩:=fS ok
  exact .inl ⟨eq,rfl,rfl,s1,s2⟩
 | fork a b =>
  have ok':ForkOk (ps.take i) a b:=g.get eq
  have li:(ps.take i).length=i:=by simp;lia
  obtain ⟨ma,mb,la,fb,q1,q2,q3,q4,q5,q6,q7⟩:=ok'.ex
  have ba:=(Kz.mp q1).1
  have bb:=(Kz.mp q2).1
  rw [fR,li] at ba bb
  obtain ⟨ma',y,fa,la',A⟩:=g.tx a ok'.pa (by lia)
  obtain ⟨mb',z,fb',lb,B⟩:=g.tx b ok'.pb (by lia)
  have tp:=qe ps i
  have z1:=A.ms.symm.trans (bQ tp q1);cases z1
  have z2:=B.ms.symm.trans (bQ tp q2);cases z2
  have F:=og g eq A B
  have z3:=F.ms.symm.trans T.ms;cases z3
  have z4:=F.rd.symm.trans T.rd;cases z4
  exact .inr ⟨a,b,ma,mb,y,z,fa,la',fb',lb,eq,by lia,by lia,A,B,rfl,rfl,q6⟩
theorem kD {h:AH} {p:Nat} {ps:List Pc} {n:Nat} {q:Pc} (S:ShelfAt h p ps) (n1:1<=n) (e:ps[n-1]? = some q):eg [.ref p,.int n] h = .ok q.av h:=by
 have:=Gv S e
 rw [show ((n-1:Nat):Int)+1=(n:Int) by lia] at this
 exact this
theorem y9 {m a b:Int} (e:m=max a b+1) (ha:0<=a) (hb:0<=b):∃ j:Nat,m.toNat=j+1/\a.toNat<=j/\b.toNat<=j/\0<m:=by
 obtain ⟨x,rfl⟩:=LU ha
 obtain ⟨y,rfl⟩:=LU hb
 subst e
 exact ⟨max x y,by lia,Nat.le_max_left _ _,Nat.le_max_right _ _,by lia⟩
end Sk
namespace Sk
open PySem PySem.Spec L2 Sm
theorem cU {x y:Str} (e:x.cps.toList=y.cps.toList):x=y:=by
 cases x;cases y
 simpa using e
theorem fH (x y z:Str):(x++y)++z=x++(y++z):=cU (by simp only [eC,Lg])
theorem sZ:1000000000000000000<ls 83:=by decide +kernel
theorem fI {ps:List Pc} (g:Good ps) {n:Nat} {m:Ms} {x:Str} {f l:Ms} (T:Tx ps n m x f l):m.ht<=82:=by
 have h1:=T.ls g
 have h2:=T.ky.most
 have h3:=T.ky.ht
 apply Classical.byContradiction
 intro h4
 have:=GO (show 83<=m.ht.toNat by lia)
 have:=sZ
 lia
theorem Good.cut {ps:List Pc} (g:Good ps) {n:Nat} {m:Ms} {x:Str} {f l:Ms} (T:Tx ps n m x f l) (hh:0<m.ht) :
  ∃ a b ma mb y z la fb,ps[n-1]? = some (.fork a b)/\Tx ps a ma y f la/\Tx ps b mb z fb l/\x=y++z/\m=iZ ma mb /\ -1<=ma.ht-mb.ht/\ma.ht-mb.ht<=1/\8<la.sg+fb.sg:=by
 rcases g.kind T with ⟨_,e,_⟩ | ⟨a,b,ma,mb,y,z,fa,la,fb,lb,e1,e2,e3,A,B,e4,e5,e6⟩
 ·omega
 ·have ok:ForkOk (ps.take (n-1)) a b:=g.get e1
  obtain ⟨ma',mb',la',fb',q1,q2,q3,q4,q5,_⟩:=(ok.pre (qe ps _)).ex
  have z1:=A.ms.symm.trans q1;cases z1
  have z2:=B.ms.symm.trans q2;cases z2
  have z3:=A.ky.ll.symm.trans q3;cases z3
  have z4:=B.ky.fl.symm.trans q4;cases z4
  have f1:=T.ky.fl
  have l1:=T.ky.ll
  rw [e5] at f1 l1
  have z5:=f1.symm.trans A.ky.fl;cases z5
  have z6:=l1.symm.trans B.ky.ll;cases z6
  exact ⟨a,b,ma,mb,y,z,la,fb,e1,A,B,e4,e5,by omega,by omega,q5⟩
structure Dn (F:AH->Out AV) (p:Nat) (h h':AH) (ps ps':List Pc) (k n:Nat):Prop where
 ev:F h = .ok (.int n) h'
 dd:Dd p h h' ps ps' k
 re:∀ h2 ps2,ShelfAt h2 p ps2->Good ps2->ps' <+: ps2->F h2 = .ok (.int n) h2
theorem Dd.trans {p:Nat} {h h' h'':AH} {ps ps' ps'':List Pc} {k k' k2:Nat} (a:Dd p h h' ps ps' k) (b:Dd p h' h'' ps' ps'' k') (hk:k+k'<=k2):Dd p h h'' ps ps'' k2 :=
 ⟨b.sh,b.gd,a.pre.trans b.pre,by have:=a.len;have:=b.len;lia,fun i hi=>(b.fr i hi).trans (a.fr i hi),b.hl.trans a.hl⟩
theorem Dd.refl {p:Nat} {h:AH} {ps:List Pc} (S:ShelfAt h p ps) (g:Good ps):Dd p h h ps ps 0:=⟨S,g,LR _,by lia,fun _ _=>rfl,rfl⟩
theorem Dn.seq {F F1:AH->Out AV} {F2:AV->AH->Out AV} {p:Nat} {h h1 h2:AH} {ps ps1 ps2:List Pc} {k1 k2 k n1 n2:Nat} (S:ShelfAt h p ps) (g:Good ps) (d1:Dn F1 p h h1 ps ps1 k1 n1) (d2:Dn (F2 (.int n1)) p h1 h2 ps1 ps2 k2 n2)
  (eq:∀ hh pp,ShelfAt hh p pp->Good pp->ps <+: pp->F hh=(F1 hh).bind F2) (hk:k1+k2<=k):Dn F p h h2 ps ps2 k n2:=by
 refine ⟨?_,d1.dd.trans d2.dd hk,fun h3 ps3 S3 g3 p3=>?_⟩
 ·rw [eq h ps S g (LR _),d1.ev];exact d2.ev
 ·rw [eq h3 ps3 S3 g3 (d1.dd.pre.trans (d2.dd.pre.trans p3)),d1.re h3 ps3 S3 g3 (d2.dd.pre.trans p3)]
  exact d2.re h3 ps3 S3 g3 p3
theorem Dn.as {F F1:AH->Out AV} {p:Nat} {h h1:AH} {ps ps1:List Pc} {k1 k n1:Nat} (S:ShelfAt h p ps) (g:Good ps) (d1:Dn F1 p h h1 ps ps1 k1 n1) (eq:∀ hh pp,ShelfAt hh p pp->Good pp->ps <+: pp->F hh=F1 hh) (hk:k1<=k):Dn F p h h1 ps ps1 k n1:=by
 refine ⟨?_,{ d1.dd with len:=KN d1.dd.len (Ly hk _) },fun h3 ps3 S3 g3 p3=>?_⟩
 ·rw [eq h ps S g (LR _)];exact d1.ev
 ·rw [eq h3 ps3 S3 g3 (d1.dd.pre.trans p3)];exact d1.re h3 ps3 S3 g3 p3
theorem Dn.val {F:AH->Out AV} {p n:Nat} {h:AH} {ps:List Pc} (S:ShelfAt h p ps) (g:Good ps) (eq:∀ hh pp,ShelfAt hh p pp->Good pp->ps <+: pp->F hh = .ok (.int n) hh):Dn F p h h ps ps 0 n :=
 ⟨eq h ps S g (LR _),Dd.refl S g,fun h3 ps3 S3 g3 p3=>eq h3 ps3 S3 g3 p3⟩
theorem fq {ps ps':List Pc} (h:ps <+: ps') {i:Nat} {q:Pc} (e:ps[i]? = some q):ps'[i]? = some q:=by
 obtain ⟨r,rfl⟩:=h
 rw [KA (Kz.mp e).1];exact e
theorem za {h:AH} {p:Nat} {ps:List Pc} {x:Str} (S:ShelfAt h p ps) (g:Good ps) (hx:dP x=true) (hz:ps.length<16000000) :
  ∃ (n:Nat) (ps':List Pc) (h':AH),Dn (gY [.ref p,.str x]) p h h' ps ps' 1 n/\Tx ps' n (cD x n) x (cD x n) (cD x n):=by
 obtain ⟨s1,s2,s3⟩:=fS hx
 have hs:x.length<=sizeLine:=KN s2 (by decide)
 by_cases hq:Pc.leaf x∈ps
 ·obtain ⟨i,hi,e⟩:=Mu hq
  have e':ps[i]? = some (.leaf x):=by rw [KR hi,e]
  exact ⟨i+1,ps,h,⟨sV S g.nodup hx hs e',⟨S,g,LR _,by lia,fun _ _=>rfl,rfl⟩,fun h2 ps2 S2 g2 p2=>sV S2 g2.nodup hx hs (fq p2 e')⟩,n9 g e'⟩
 ·have g':Good (ps++[.leaf x]):=.snoc g hq hx
  have e':(ps++[Pc.leaf x])[ps.length]? = some (.leaf x):=by simp
  exact ⟨ps.length+1,_,_,⟨Gy S hx hs hq hz,⟨p8 S,g',N6 _ _,by simp,fun i hi=>yT hi,yS _ _ _⟩,fun h2 ps2 S2 g2 p2=>sV S2 g2.nodup hx hs (fq p2 e')⟩,n9 g' e'⟩
theorem gM {h:AH} {p:Nat} {ps:List Pc} {a b:Nat} {ma mb fa la fb lb:Ms} {x y:Str} (S:ShelfAt h p ps) (g:Good ps) (A:Tx ps a ma x fa la) (B:Tx ps b mb y fb lb) (hc:8<la.sg+fb.sg) (v1 : -1<=ma.ht-mb.ht) (v2:ma.ht-mb.ht<=1) (hm:ma.sg+mb.sg<=1000000000000000000) (hz:ps.length<16000000) :
  ∃ (n:Nat) (ps':List Pc) (h':AH),Dn (bA [.ref p,.int a,.int b]) p h h' ps ps' 1 n/\Tx ps' n (iZ ma mb) (x++y) fa lb:=by
 have F:ForkOk ps a b:=⟨A.n1,B.n1,ma,mb,la,fb,A.ms,B.ms,A.ky.ll,B.ky.fl,hc,by lia,hm⟩
 by_cases hq:Pc.fork a b∈ps
 ·obtain ⟨i,hi,e⟩:=Mu hq
  have e':ps[i]? = some (.fork a b):=by rw [KR hi,e]
  exact ⟨i+1,ps,h,⟨sW S g.nodup F e',⟨S,g,LR _,by lia,fun _ _=>rfl,rfl⟩,fun h2 ps2 S2 g2 p2=>sW S2 g2.nodup (F.pre p2) (fq p2 e')⟩,og g e' A B⟩
 ·have g':Good (ps++[.fork a b]):=.snoc g hq F
  have e':(ps++[Pc.fork a b])[ps.length]? = some (.fork a b):=by simp
  have pr:ps <+: ps++[Pc.fork a b]:=N6 _ _
  exact ⟨ps.length+1,_,_,⟨GA S F hq hz,⟨p8 S,g',pr,by simp,fun i hi=>yT hi,yS _ _ _⟩,fun h2 ps2 S2 g2 p2=>sW S2 g2.nodup (F.pre (pr.trans p2)) (fq p2 e')⟩,og g' e' (A.pre pr) (B.pre pr)⟩
theorem gN (ma mb:Ms):(iZ ma mb).sg=ma.sg+mb.sg:=rfl
theorem cw (ma mb:Ms):(iZ ma mb).ht=max ma.ht mb.ht+1:=rfl
theorem i1 (s:Str) (a b:Int) (h:AH):au (.tup [.str s,.int a,.int b]) (.int 1) h = .ok (.int a) h:=rfl
theorem i2 (s:Str) (a b:Int) (h:AH):au (.tup [.str s,.int a,.int b]) (.int 2) h = .ok (.int b) h:=rfl
theorem iI {h:AH} {p:Nat} {ps:List Pc} {n a b:Nat} (S:ShelfAt h p ps) (n1:1<=n) (e:ps[n-1]? = some (.fork a b)):eg [.ref p,.int n] h = .ok (.tup [.str "fork",.int a,.int b]) h:=kD S n1 e
theorem tf {h:AH} {p:Nat} {ps:List Pc} {a b:Nat} {ma mb:Ms} (S:ShelfAt h p ps) (ea:(meas ps)[a]? = some ma) (eb:(meas ps)[b]? = some mb) (hd:mb.ht-ma.ht<2) :
  gX [.ref p,.int a,.int b] h=bA [.ref p,.int a,.int b] h:=by
 have f1:=dR S ea
 have f2:=dR S eb
 generalize hF:bA [.ref p,.int a,.int b] h=R
 simp [gX,S.ob,f1,f2,hd,hF]
 cases R<;>rfl
theorem tj {h:AH} {p:Nat} {ps:List Pc} {a b c d:Nat} {ma mb mc md:Ms} (S:ShelfAt h p ps) (b1:1<=b) (ea:(meas ps)[a]? = some ma) (eb:(meas ps)[b]? = some mb) (e:ps[b-1]? = some (.fork c d)) (ec:(meas ps)[c]? = some mc) (ed:(meas ps)[d]? = some md) (hd : ¬ mb.ht-ma.ht<2) (hh:mc.ht<=md.ht) :
  gX [.ref p,.int a,.int b] h=(bA [.ref p,.int a,.int c] h).bind fun v h1=>bA [.ref p,v,.int d] h1:=by
 have f1:=dR S ea
 have f2:=dR S eb
 have f3:=iI S b1 e
 have f4:=dR S ec
 have f5:=dR S ed
 generalize hF:bA [.ref p,.int a,.int c] h=R
 simp [gX,S.ob,f1,f2,hd,f3,i1,i2,f4,f5,hh,hF,-au]
 cases R with
 | ok v h1=>dsimp only;cases bA [.ref p,v,.int d] h1<;>rfl
 | ex c h1=>rfl
 | bad=>rfl
def d0 (p:Nat) (F:AH->Out AV) (h:AH):Out AV:=match h[p]? with
 | some (.ins c' _)=>if c'=0 then F h else .bad
 | _=>.bad
theorem zc {h:AH} {p:Nat} {ps:List Pc} (S:ShelfAt h p ps) (F:AH->Out AV):d0 p F h=F h:=by simp [d0,S.ob]
theorem tm {h:AH} {p:Nat} {ps:List Pc} {a b c d i j:Nat} {ma mb mc md:Ms} (S:ShelfAt h p ps) (b1:1<=b) (c1:1<=c) (ea:(meas ps)[a]? = some ma) (eb:(meas ps)[b]? = some mb) (e:ps[b-1]? = some (.fork c d)) (ec:(meas ps)[c]? = some mc) (ed:(meas ps)[d]? = some md) (e2:ps[c-1]? = some (.fork i j)) (hd : ¬ mb.ht-ma.ht<2) (hh : ¬ mc.ht<=md.ht) :
  gX [.ref p,.int a,.int b] h=(bA [.ref p,.int a,.int i] h).bind fun v h1=>(d0 p (bA [.ref p,.int j,.int d]) h1).bind fun w h2=>bA [.ref p,v,w] h2:=by
 have f1:=dR S ea
 have f2:=dR S eb
 have f3:=iI S b1 e
 have f4:=dR S ec
 have f5:=dR S ed
 have f6:=iI S c1 e2
 generalize hF:bA [.ref p,.int a,.int i] h=R
 simp [gX,S.ob,f1,f2,hd,f3,i1,i2,f4,f5,hh,f6,hF,-au]
 cases R with
 | ok v h1 =>
  unfold d0
  dsimp only
  cases hx:h1[p]? with
  | none=>rfl
  | some o =>
   cases o with
   | lst l=>rfl
   | dct q l=>rfl
   | ins c' l =>
    dsimp only
    by_cases z:c'=0
    ·rw [KS z]
     cases bA [.ref p,.int j,.int d] h1 with
     | ok w h2=>dsimp only;cases bA [.ref p,v,w] h2<;>rfl
     | ex c h2=>rfl
     | bad=>rfl
    ·rw [KW z]
 | ex c h1=>rfl
 | bad=>rfl
theorem tu {a b m:Int} (h1 : -1<=b-a) (h2:b-a<2) (e:m=max a b+1):max a b<=m/\m<=max a b+1/\(b-a<=1->m=max a b+1):=by lia
theorem zd {h:AH} {p:Nat} {ps:List Pc} {a b:Nat} {ma mb fa la fb lb:Ms} {x y:Str} (S:ShelfAt h p ps) (g:Good ps) (A:Tx ps a ma x fa la) (B:Tx ps b mb y fb lb) (hc:8<la.sg+fb.sg) (v1 : -1<=mb.ht-ma.ht) (v2:mb.ht-ma.ht<=2) (hm:ma.sg+mb.sg<=1000000000000000000) (hz:ps.length+3<16000000) :
  ∃ (n:Nat) (ps':List Pc) (h':AH) (m:Ms),Dn (gX [.ref p,.int a,.int b]) p h h' ps ps' 3 n/\Tx ps' n m (x++y) fa lb/\max ma.ht mb.ht<=m.ht/\m.ht<=max ma.ht mb.ht+1/\(mb.ht-ma.ht<=1->m.ht=max ma.ht mb.ht+1):=by
 by_cases q:mb.ht-ma.ht<2
 ·obtain ⟨n,ps',h',d,T⟩:=gM S g A B hc (by lia) (by lia) hm (by lia)
  exact ⟨n,ps',h',_,d.as S g (fun hh pp S' _ pr=>tf S' (bQ pr A.ms) (bQ pr B.ms) q) (by lia),T,tu v1 q (cw ma mb)⟩
 ·obtain ⟨c,d,mc,md,y1,y2,lc,fd,e,C,D,rfl,em,w1,w2,w3⟩:=g.cut B (by have:=A.ky.ht;lia)
  have sg:=congrArg Ms.sg em
  have ht:=congrArg Ms.ht em
  rw [gN] at sg
  rw [cw] at ht
  by_cases r:mc.ht<=md.ht
  ·obtain ⟨n1,ps1,h1,d1,T1⟩:=gM S g A C hc (by lia) (by lia) (by lia) (by lia)
   obtain ⟨n2,ps2,h2,d2,T2⟩:=gM d1.dd.sh d1.dd.gd T1 (D.pre d1.dd.pre) w3 (by rw [cw];lia) (by rw [cw];lia) (by rw [gN];lia) (by have:=d1.dd.len;lia)
   rw [fH] at T2
   refine ⟨n2,ps2,h2,_,Dn.seq S g d1 d2 (fun hh pp S' _ pr=>tj S' B.n1 (bQ pr A.ms) (bQ pr B.ms) (fq pr e) (bQ pr C.ms) (bQ pr D.ms) q r) (by lia),T2,?_⟩
   rw [cw,cw];lia
  ·obtain ⟨i,j,mi,mj,z1,z2,li,fj,e2,I,J,rfl,em2,u1,u2,u3⟩:=g.cut C (by have:=D.ky.ht;lia)
   have sg2:=congrArg Ms.sg em2
   have ht2:=congrArg Ms.ht em2
   rw [gN] at sg2
   rw [cw] at ht2
   obtain ⟨n1,ps1,h1,d1,T1⟩:=gM S g A I hc (by lia) (by lia) (by lia) (by lia)
   obtain ⟨n2,ps2,h2,d2,T2⟩:=gM d1.dd.sh d1.dd.gd (J.pre d1.dd.pre) (D.pre d1.dd.pre) w3 (by lia) (by lia) (by lia) (by have:=d1.dd.len;lia)
   obtain ⟨n3,ps3,h3,d3,T3⟩:=gM d2.dd.sh d2.dd.gd (T1.pre d2.dd.pre) T2 u3 (by rw [cw,cw];lia) (by rw [cw,cw];lia) (by rw [gN,gN];lia) (by have:=d1.dd.len;have:=d2.dd.len;lia)
   have d2':Dn (d0 p (bA [.ref p,.int j,.int d])) p h1 h2 ps1 ps2 1 n2:=d2.as d1.dd.sh d1.dd.gd (fun hh pp S' _ _=>zc S' _) (KC _)
   have d23:=Dn.seq (F:=fun h1=>(d0 p (bA [.ref p,.int j,.int d]) h1).bind fun w h2=>bA [.ref p,.int n1,w] h2) (F2:=fun w h2=>bA [.ref p,.int n1,w] h2) d1.dd.sh d1.dd.gd d2' d3 (fun _ _ _ _ _=>rfl) (k:=2) (by lia)
   have ea:(x++z1)++(z2++y2)=x++(z1++z2++y2):=by rw [fH,fH]
   rw [ea] at T3
   refine ⟨n3,ps3,h3,_,Dn.seq (F2:=fun v h1=>(d0 p (bA [.ref p,.int j,.int d]) h1).bind fun w h2=>bA [.ref p,v,w] h2) S g d1 d23 (fun hh pp S' _ pr=>tm S' B.n1 C.n1 (bQ pr A.ms) (bQ pr B.ms) (fq pr e) (bQ pr C.ms) (bQ pr D.ms) (fq pr e2) q r) (by lia),T3,?_⟩
   rw [cw,cw,cw];lia
theorem tB {h:AH} {p:Nat} {ps:List Pc} {a b:Nat} {ma mb:Ms} (S:ShelfAt h p ps) (ea:(meas ps)[a]? = some ma) (eb:(meas ps)[b]? = some mb) (hd:ma.ht-mb.ht<2) :
  iU [.ref p,.int a,.int b] h=bA [.ref p,.int a,.int b] h:=by
 have f1:=dR S ea
 have f2:=dR S eb
 generalize hF:bA [.ref p,.int a,.int b] h=R
 simp [iU,S.ob,f1,f2,hd,hF]
 cases R<;>rfl
theorem tD {h:AH} {p:Nat} {ps:List Pc} {a b c d:Nat} {ma mb mc md:Ms} (S:ShelfAt h p ps) (a1:1<=a) (ea:(meas ps)[a]? = some ma) (eb:(meas ps)[b]? = some mb) (e:ps[a-1]? = some (.fork c d)) (ec:(meas ps)[c]? = some mc) (ed:(meas ps)[d]? = some md) (hd : ¬ ma.ht-mb.ht<2) (hh:md.ht<=mc.ht) :
  iU [.ref p,.int a,.int b] h=(bA [.ref p,.int d,.int b] h).bind fun v h1=>bA [.ref p,.int c,v] h1:=by
 have f1:=dR S ea
 have f2:=dR S eb
 have f3:=iI S a1 e
 have f4:=dR S ec
 have f5:=dR S ed
 generalize hF:bA [.ref p,.int d,.int b] h=R
 simp [iU,S.ob,f1,f2,hd,f3,i1,i2,f4,f5,hh,hF,-au]
 cases R with
 | ok v h1=>dsimp only;cases bA [.ref p,.int c,v] h1<;>rfl
 | ex c h1=>rfl
 | bad=>rfl
theorem tF {h:AH} {p:Nat} {ps:List Pc} {a b c d i j:Nat} {ma mb mc md:Ms} (S:ShelfAt h p ps) (a1:1<=a) (d1:1<=d) (ea:(meas ps)[a]? = some ma) (eb:(meas ps)[b]? = some mb) (e:ps[a-1]? = some (.fork c d)) (ec:(meas ps)[c]? = some mc) (ed:(meas ps)[d]? = some md) (e2:ps[d-1]? = some (.fork i j)) (hd : ¬ ma.ht-mb.ht<2) (hh : ¬ md.ht<=mc.ht) :
  iU [.ref p,.int a,.int b] h=(bA [.ref p,.int c,.int i] h).bind fun v h1=>(d0 p (bA [.ref p,.int j,.int b]) h1).bind fun w h2=>bA [.ref p,v,w] h2:=by
 have f1:=dR S ea
 have f2:=dR S eb
 have f3:=iI S a1 e
 have f4:=dR S ec
 have f5:=dR S ed
 have f6:=iI S d1 e2
 generalize hF:bA [.ref p,.int c,.int i] h=R
 simp [iU,S.ob,f1,f2,hd,f3,i1,i2,f4,f5,hh,f6,hF,-au]
 cases R with
 | ok v h1 =>
  unfold d0
  dsimp only
  cases hx:h1[p]? with
  | none=>rfl
  | some o =>
   cases o with
   | lst l=>rfl
   | dct q l=>rfl
   | ins c' l =>
    dsimp only
    by_cases z:c'=0
    ·rw [KS z]
     cases bA [.ref p,.int j,.int b] h1 with
     | ok w h2=>dsimp only;cases bA [.ref p,v,w] h2<;>rfl
     | ex c h2=>rfl
     | bad=>rfl
    ·rw [KW z]
 | ex c h1=>rfl
 | bad=>rfl
theorem GR {h:AH} {p:Nat} {ps:List Pc} {a b:Nat} {ma mb fa la fb lb:Ms} {x y:Str} (S:ShelfAt h p ps) (g:Good ps) (A:Tx ps a ma x fa la) (B:Tx ps b mb y fb lb) (hc:8<la.sg+fb.sg) (v1 : -1<=ma.ht-mb.ht) (v2:ma.ht-mb.ht<=2) (hm:ma.sg+mb.sg<=1000000000000000000) (hz:ps.length+3<16000000) :
  ∃ (n:Nat) (ps':List Pc) (h':AH) (m:Ms),Dn (iU [.ref p,.int a,.int b]) p h h' ps ps' 3 n/\Tx ps' n m (x++y) fa lb/\max ma.ht mb.ht<=m.ht/\m.ht<=max ma.ht mb.ht+1/\(ma.ht-mb.ht<=1->m.ht=max ma.ht mb.ht+1):=by
 by_cases q:ma.ht-mb.ht<2
 ·obtain ⟨n,ps',h',d,T⟩:=gM S g A B hc (by lia) (by lia) hm (by lia)
  refine ⟨n,ps',h',_,d.as S g (fun hh pp S' _ pr=>tB S' (bQ pr A.ms) (bQ pr B.ms) q) (by lia),T,?_⟩
  rw [cw];lia
 ·obtain ⟨c,d,mc,md,y1,y2,lc,fd,e,C,D,rfl,em,w1,w2,w3⟩:=g.cut A (by have:=B.ky.ht;lia)
  have sg:=congrArg Ms.sg em
  have ht:=congrArg Ms.ht em
  rw [gN] at sg
  rw [cw] at ht
  by_cases r:md.ht<=mc.ht
  ·obtain ⟨n1,ps1,h1,d1,T1⟩:=gM S g D B hc (by lia) (by lia) (by lia) (by lia)
   obtain ⟨n2,ps2,h2,d2,T2⟩:=gM d1.dd.sh d1.dd.gd (C.pre d1.dd.pre) T1 w3 (by rw [cw];lia) (by rw [cw];lia) (by rw [gN];lia) (by have:=d1.dd.len;lia)
   rw [<- fH] at T2
   refine ⟨n2,ps2,h2,_,Dn.seq (F2:=fun v h1=>bA [.ref p,.int c,v] h1) S g d1 d2 (fun hh pp S' _ pr=>tD S' A.n1 (bQ pr A.ms) (bQ pr B.ms) (fq pr e) (bQ pr C.ms) (bQ pr D.ms) q r) (by lia),T2,?_⟩
   rw [cw,cw];lia
  ·obtain ⟨i,j,mi,mj,z1,z2,li,fj,e2,I,J,rfl,em2,u1,u2,u3⟩:=g.cut D (by have:=C.ky.ht;lia)
   have sg2:=congrArg Ms.sg em2
   have ht2:=congrArg Ms.ht em2
   rw [gN] at sg2
   rw [cw] at ht2
   obtain ⟨n1,ps1,h1,d1,T1⟩:=gM S g C I w3 (by lia) (by lia) (by lia) (by lia)
   obtain ⟨n2,ps2,h2,d2,T2⟩:=gM d1.dd.sh d1.dd.gd (J.pre d1.dd.pre) (B.pre d1.dd.pre) hc (by lia) (by lia) (by lia) (by have:=d1.dd.len;lia)
   obtain ⟨n3,ps3,h3,d3,T3⟩:=gM d2.dd.sh d2.dd.gd (T1.pre d2.dd.pre) T2 u3 (by rw [cw,cw];lia) (by rw [cw,cw];lia) (by rw [gN,gN];lia) (by have:=d1.dd.len;have:=d2.dd.len;lia)
   have d2':Dn (d0 p (bA [.ref p,.int j,.int b])) p h1 h2 ps1 ps2 1 n2:=d2.as d1.dd.sh d1.dd.gd (fun hh pp S' _ _=>zc S' _) (KC _)
   have d23:=Dn.seq (F:=fun h1=>(d0 p (bA [.ref p,.int j,.int b]) h1).bind fun w h2=>bA [.ref p,.int n1,w] h2) (F2:=fun w h2=>bA [.ref p,.int n1,w] h2) d1.dd.sh d1.dd.gd d2' d3 (fun _ _ _ _ _=>rfl) (k:=2) (by lia)
   have ea:(y1++z1)++(z2++y)=y1++(z1++z2)++y:=by rw [fH,fH,fH]
   rw [ea] at T3
   refine ⟨n3,ps3,h3,_,Dn.seq (F2:=fun v h1=>(d0 p (bA [.ref p,.int j,.int b]) h1).bind fun w h2=>bA [.ref p,v,w] h2) S g d1 d23 (fun hh pp S' _ pr=>tF S' A.n1 D.n1 (bQ pr A.ms) (bQ pr B.ms) (fq pr e) (bQ pr C.ms) (bQ pr D.ms) (fq pr e2) q r) (by lia),T3,?_⟩
   rw [cw,cw,cw];lia
end Sk
namespace Sk
open PySem PySem.Spec L2 Sm
theorem Dn.seq' {F F1 F2:AH->Out AV} {p:Nat} {h h1 h2:AH} {ps ps1 ps2:List Pc} {k1 k2 k n1 n2:Nat} (S:ShelfAt h p ps) (g:Good ps) (d1:Dn F1 p h h1 ps ps1 k1 n1) (d2:Dn F2 p h1 h2 ps1 ps2 k2 n2)
  (eq:∀ hh hh1 pp,ShelfAt hh p pp->Good pp->ps <+: pp->F1 hh = .ok (.int n1) hh1->F hh=F2 hh1) (hk:k1+k2<=k):Dn F p h h2 ps ps2 k n2:=by
 refine ⟨?_,d1.dd.trans d2.dd hk,fun h3 ps3 S3 g3 p3=>?_⟩
 ·rw [eq h h1 ps S g (LR _) d1.ev];exact d2.ev
 ·rw [eq h3 h3 ps3 S3 g3 (d1.dd.pre.trans (d2.dd.pre.trans p3)) (d1.re h3 ps3 S3 g3 (d2.dd.pre.trans p3))]
  exact d2.re h3 ps3 S3 g3 p3
theorem tG {h:AH} {p:Nat} {ps:List Pc} {a b d:Nat} {ma mb:Ms} (S:ShelfAt h p ps) (ea:(meas ps)[a]? = some ma) (eb:(meas ps)[b]? = some mb) (h1:ma.ht-mb.ht<=1) (h2 : -1<=ma.ht-mb.ht) :
  gg (d+1) [.ref p,.int a,.int b] h=bA [.ref p,.int a,.int b] h:=by
 have f1:=dR S ea
 have f2:=dR S eb
 have c1 : ¬ 1<ma.ht-mb.ht:=by lia
 have c2 : ¬ ma.ht-mb.ht < -1:=by lia
 generalize hF:bA [.ref p,.int a,.int b] h=R
 simp [gg,pX,S.ob,f1,f2,c1,c2,hF]
 cases R<;>rfl
theorem tH {h h1:AH} {p:Nat} {ps:List Pc} {a b c e d:Nat} {v:Int} {ma mb:Ms} (S:ShelfAt h p ps) (a1:1<=a) (ea:(meas ps)[a]? = some ma) (eb:(meas ps)[b]? = some mb) (ep:ps[a-1]? = some (.fork c e)) (hd:1<ma.ht-mb.ht) (ev:gg d [.ref p,.int e,.int b] h = .ok (.int v) h1) :
  gg (d+1) [.ref p,.int a,.int b] h=gX [.ref p,.int c,.int v] h1:=by
 have f1:=dR S ea
 have f2:=dR S eb
 have f3:=iI S a1 ep
 generalize hF:gX [.ref p,.int c,.int v] h1=R
 simp [gg,pX,S.ob,f1,f2,hd,f3,i1,i2,ev,hF,-au]
 cases R<;>rfl
theorem tJ {h h1:AH} {p:Nat} {ps:List Pc} {a b c e d:Nat} {v:Int} {ma mb:Ms} (S:ShelfAt h p ps) (b1:1<=b) (ea:(meas ps)[a]? = some ma) (eb:(meas ps)[b]? = some mb) (ep:ps[b-1]? = some (.fork c e)) (hd:ma.ht-mb.ht < -1) (ev:gg d [.ref p,.int a,.int c] h = .ok (.int v) h1) :
  gg (d+1) [.ref p,.int a,.int b] h=iU [.ref p,.int v,.int e] h1:=by
 have f1:=dR S ea
 have f2:=dR S eb
 have f3:=iI S b1 ep
 have c1 : ¬ 1<ma.ht-mb.ht:=by lia
 generalize hF:iU [.ref p,.int v,.int e] h1=R
 simp [gg,pX,S.ob,f1,f2,c1,hd,f3,i1,i2,ev,hF,-au]
 cases R<;>rfl
theorem qf {p:Nat}:∀ (d t:Nat) {h:AH} {ps:List Pc} {a b:Nat} {ma mb fa la fb lb:Ms} {x y:Str} (S:ShelfAt h p ps) (g:Good ps) (A:Tx ps a ma x fa la) (B:Tx ps b mb y fb lb) (hc:8<la.sg+fb.sg) (hm:ma.sg+mb.sg<=1000000000000000000)
  (ht:(ma.ht-mb.ht).natAbs<=t) (hd:t<d) (hz:ps.length+3*t+4<16000000),
  ∃ (n:Nat) (ps':List Pc) (h':AH) (m:Ms),Dn (gg d [.ref p,.int a,.int b]) p h h' ps ps' (3*t+1) n/\Tx ps' n m (x++y) fa lb/\max ma.ht mb.ht<=m.ht/\m.ht<=max ma.ht mb.ht+1
 | 0,t,h,ps,a,b,ma,mb,fa,la,fb,lb,x,y,S,g,A,B,hc,hm,ht,hd,hz=>absurd hd (Lm t)
 | d+1,t,h,ps,a,b,ma,mb,fa,la,fb,lb,x,y,S,g,A,B,hc,hm,ht,hd,hz=>by
  by_cases q1:1<ma.ht-mb.ht
  ·obtain ⟨c,e,mc,me,y1,y2,lc,fe,ep,C,E,rfl,em,w1,w2,w3⟩:=g.cut A (by have:=B.ky.ht;lia)
   have sg:=congrArg Ms.sg em
   have hh:=congrArg Ms.ht em
   rw [gN] at sg
   rw [cw] at hh
   obtain ⟨n1,ps1,h1,m1,d1,T1,u1,u2⟩:=qf d (t-1) S g E B hc (by lia) (by lia) (by lia) (by lia)
   have s1:m1.sg=me.sg+mb.sg:=by rw [T1.ky.sg,fk,<- E.ky.sg,<- B.ky.sg]
   obtain ⟨n2,ps2,h2,m2,d2,T2,u3,u4,u5⟩:=zd d1.dd.sh d1.dd.gd (C.pre d1.dd.pre) T1 w3 (by lia) (by lia) (by lia) (by have:=d1.dd.len;lia)
   rw [<- fH] at T2
   exact ⟨n2,ps2,h2,m2,Dn.seq' S g d1 d2 (fun hh hh1 pp S' _ pr ev=>tH S' A.n1 (bQ pr A.ms) (bQ pr B.ms) (fq pr ep) q1 ev) (by lia),T2,by lia,by lia⟩
  ·by_cases q2:ma.ht-mb.ht < -1
   ·obtain ⟨c,e,mc,me,y1,y2,lc,fe,ep,C,E,rfl,em,w1,w2,w3⟩:=g.cut B (by have:=A.ky.ht;lia)
    have sg:=congrArg Ms.sg em
    have hh:=congrArg Ms.ht em
    rw [gN] at sg
    rw [cw] at hh
    obtain ⟨n1,ps1,h1,m1,d1,T1,u1,u2⟩:=qf d (t-1) S g A C hc (by lia) (by lia) (by lia) (by lia)
    have s1:m1.sg=ma.sg+mc.sg:=by rw [T1.ky.sg,fk,<- A.ky.sg,<- C.ky.sg]
    obtain ⟨n2,ps2,h2,m2,d2,T2,u3,u4,u5⟩:=GR d1.dd.sh d1.dd.gd T1 (E.pre d1.dd.pre) w3 (by lia) (by lia) (by lia) (by have:=d1.dd.len;lia)
    rw [fH] at T2
    exact ⟨n2,ps2,h2,m2,Dn.seq' S g d1 d2 (fun hh hh1 pp S' _ pr ev=>tJ S' B.n1 (bQ pr A.ms) (bQ pr B.ms) (fq pr ep) q2 ev) (by lia),T2,by lia,by lia⟩
   ·obtain ⟨n,ps',h',dn,T⟩:=gM S g A B hc (by lia) (by lia) hm (by lia)
    exact ⟨n,ps',h',_,dn.as S g (fun hh pp S' _ pr=>tG S' (bQ pr A.ms) (bQ pr B.ms) (by lia) (by lia)) (by lia),T,by rw [cw];lia,by rw [cw];lia⟩
theorem mJ {h:AH} {p:Nat} {ps:List Pc} {n:Nat} {x:Str} (S:ShelfAt h p ps) (n1:1<=n) (e:ps[n-1]? = some (.leaf x)):eg [.ref p,.int n] h = .ok (.tup [.str "leaf",.str x]) h:=kD S n1 e
theorem tK (x:Str) (h:AH):au (.tup [.str "leaf",.str x]) (.int 0) h = .ok (.str "leaf") h:=rfl
theorem qg (a b:Int) (h:AH):au (.tup [.str "fork",.int a,.int b]) (.int 0) h = .ok (.str "fork") h:=rfl
theorem tL (x:Str) (h:AH):au (.tup [.str "leaf",.str x]) (.int 1) h = .ok (.str x) h:=rfl
theorem tM (h:AH):aC (.str "leaf") (.str "leaf") h = .ok (.bl true) h:=by simp
theorem qh (h:AH):aC (.str "fork") (.str "leaf") h = .ok (.bl false) h:=by
 have : ¬ (Str.ofString "fork" = Str.ofString "leaf"):=by decide +kernel
 simp [this]
theorem tN {h:AH} {p:Nat} {ps:List Pc} {a d:Nat} {L:Int} {x:Str} (S:ShelfAt h p ps) (a1:1<=a) (ep:ps[a-1]? = some (.leaf x)):iH (d+1) [.ref p,.int a,.int L] h = .ok (.int L) h:=by
 simp [iH,sM,S.ob,mJ S a1 ep,tK,tM,-au,-aC]
theorem tP {h h1:AH} {p:Nat} {ps:List Pc} {a d c e:Nat} {L v:Int} (S:ShelfAt h p ps) (a1:1<=a) (ep:ps[a-1]? = some (.fork c e)) (ev:iH d [.ref p,.int e,.int L] h = .ok (.int v) h1) :
  iH (d+1) [.ref p,.int a,.int L] h=bA [.ref p,.int c,.int v] h1:=by
 generalize hF:bA [.ref p,.int c,.int v] h1=R
 simp [iH,sM,S.ob,iI S a1 ep,qg,i1,i2,qh,ev,hF,-au,-aC]
 cases R<;>rfl
theorem qi {ps:List Pc} {n:Nat} {m:Ms} {x:Str} {f l:Ms} (T:Tx ps n m x f l) (e:m=cD x n):f=m/\l=m:=by
 have h1:=T.ky.fl
 have h2:=T.ky.ll
 have h3:=T.ms
 rw [e] at h1 h2
 exact ⟨Lj (h1.symm.trans h3),Lj (h2.symm.trans h3)⟩
theorem ze {p:Nat}:∀ (d:Nat) {h:AH} {ps:List Pc} {a L:Nat} {m f l:Ms} {x w:Str} (S:ShelfAt h p ps) (g:Good ps) (T:Tx ps a m x f l) (N:Tx ps L (cD w L) w (cD w L) (cD w L)) (hw:l.sg<=w.length) (hm:m.sg+w.length<=1000000000000000000+l.sg) (hd:m.ht.toNat<d) (hz:ps.length+m.ht.toNat<16000000),
  ∃ (n:Nat) (ps':List Pc) (h':AH) (m' f':Ms) (u v:Str),Dn (iH d [.ref p,.int a,.int L]) p h h' ps ps' m.ht.toNat n/\x=u++v/\v.length=l.sg/\Tx ps' n m' (u++w) f' (cD w L)/\m'.ht=m.ht/\f.sg<=f'.sg
 | 0,h,ps,a,L,m,f,l,x,w,S,g,T,N,hw,hm,hd,hz=>absurd hd (Lm _)
 | d+1,h,ps,a,L,m,f,l,x,w,S,g,T,N,hw,hm,hd,hz=>by
  by_cases q:0<m.ht
  ·obtain ⟨c,e,mc,me,y1,y2,lc,fe,ep,C,E,rfl,em,w1,w2,w3⟩:=g.cut T q
   have sg:=congrArg Ms.sg em
   have hh:=congrArg Ms.ht em
   rw [gN] at sg
   rw [cw] at hh
   have c0:=C.ky.ht
   have e0:=E.ky.ht
   obtain ⟨n1,ps1,h1,m1,f1,u,v,d1,rfl,lv,T1,k1,k2⟩:=ze d S g E N hw (by lia) (by lia) (by lia)
   have s1:m1.sg+l.sg=me.sg+w.length:=by rw [T1.ky.sg,E.ky.sg,fk,fk];lia
   obtain ⟨n2,ps2,h2,d2,T2⟩:=gM d1.dd.sh d1.dd.gd (C.pre d1.dd.pre) T1 (by lia) (by lia) (by lia) (by lia) (by have:=d1.dd.len;lia)
   rw [<- fH] at T2
   exact ⟨n2,ps2,h2,_,f,y1++u,v,Dn.seq' S g d1 d2 (fun hh hh1 pp S' _ pr ev=>tP S' T.n1 (fq pr ep) ev) (by lia),by rw [fH],lv,T2,by rw [cw,k1,hh],KC _⟩
  ·rcases g.kind T with ⟨e1,e2,e3,e4,e5⟩ | ⟨c,e,mc,me,y1,y2,fc,lc,fe,le,e1,e2,e3,C,E,e4,e5,e6⟩
   ·obtain ⟨z1,z2⟩:=qi T e3
    subst z1 z2
    have em:("" : Str)++x=x:=cU (by rw [eC];rfl)
    have em2:("" : Str)++w=w:=cU (by rw [eC];rfl)
    have dv:Dn (iH (d+1) [.ref p,.int a,.int L]) p h h ps ps 0 L:=Dn.val S g fun hh pp S' _ pr=>tN S' T.n1 (fq pr e1)
    refine ⟨L,ps,h,_,_, "",x,dv.as S g (fun _ _ _ _ _=>rfl) (Lc _),em.symm,T.ky.sg.symm,by rw [em2];exact N,e2.symm,hw⟩
   ·have:=congrArg Ms.ht e5
    rw [cw] at this
    have c0:=C.ky.ht
    lia
theorem tQ {h:AH} {p:Nat} {ps:List Pc} {a d:Nat} {x:Str} (S:ShelfAt h p ps) (a1:1<=a) (ep:ps[a-1]? = some (.leaf x)):gy (d+1) [.ref p,.int a] h = .ok (.int (0:Nat)) h:=by
 simp [gy,pW,S.ob,mJ S a1 ep,tK,tM,-au,-aC]
theorem oh {h h1:AH} {p:Nat} {ps:List Pc} {a d c e:Nat} (S:ShelfAt h p ps) (a1:1<=a) (ep:ps[a-1]? = some (.fork c e)) (ev:gy d [.ref p,.int c] h = .ok (.int (0:Nat)) h1) :
  gy (d+1) [.ref p,.int a] h = .ok (.int e) h1:=by
 have z:aC (.int 0) (.int 0) h1 = .ok (.bl true) h1:=by simp
 simp [gy,pW,S.ob,iI S a1 ep,qg,i1,i2,qh,ev,z,-au,-aC]
theorem tR {h h1:AH} {p:Nat} {ps:List Pc} {a d c e v:Nat} (S:ShelfAt h p ps) (a1:1<=a) (ep:ps[a-1]? = some (.fork c e)) (v1:1<=v) (ev:gy d [.ref p,.int c] h = .ok (.int v) h1) :
  gy (d+1) [.ref p,.int a] h=gX [.ref p,.int v,.int e] h1:=by
 have z:aC (.int (v:Int)) (.int 0) h1 = .ok (.bl false) h1:=by
  have : ¬ (v=0):=by lia
  simp [this]
 generalize hF:gX [.ref p,.int v,.int e] h1=R
 simp [gy,pW,S.ob,iI S a1 ep,qg,i1,i2,qh,ev,z,hF,-au,-aC]
 cases R<;>rfl
end Sk
namespace Sk
open PySem PySem.Spec L2 Sm
theorem zf {p:Nat}:∀ (d:Nat) {h:AH} {ps:List Pc} {a:Nat} {m f l:Ms} {x:Str} (S:ShelfAt h p ps) (g:Good ps) (T:Tx ps a m x f l) (hd:m.ht.toNat<d) (hz:ps.length+3*m.ht.toNat<16000000),
  (m.ht=0/\f.sg=x.length/\Dn (gy d [.ref p,.int a]) p h h ps ps 0 0) \/
  (0<m.ht/\∃ (n:Nat) (ps':List Pc) (h':AH) (m' f2:Ms) (u v:Str),Dn (gy d [.ref p,.int a]) p h h' ps ps' (3*m.ht.toNat) n/\x=u++v/\u.length=f.sg/\Tx ps' n m' v f2 l/\m.ht-1<=m'.ht/\m'.ht<=m.ht/\8<f.sg+f2.sg)
 | 0,h,ps,a,m,f,l,x,S,g,T,hd,hz=>absurd hd (Lm _)
 | d+1,h,ps,a,m,f,l,x,S,g,T,hd,hz=>by
  by_cases q:0<m.ht
  ·obtain ⟨c,e,mc,me,y1,y2,lc,fe,ep,C,E,rfl,em,w1,w2,w3⟩:=g.cut T q
   have sg:=congrArg Ms.sg em
   have hh:=congrArg Ms.ht em
   rw [gN] at sg
   rw [cw] at hh
   have c0:=C.ky.ht
   have e0:=E.ky.ht
   have most:=T.ky.most
   refine .inr ⟨q,?_⟩
   rcases zf d S g C (by lia) (by lia) with ⟨k1,k2,d1⟩ | ⟨k1,n1,ps1,h1,m1,f2,u,v,d1,rfl,lu,T1,r1,r2,r3⟩
   ·rcases g.kind C with ⟨e1,e2,e3,e4,e5⟩ | ⟨_,_,mx,my,_,_,_,_,_,_,_,_,_,X,Y,_,e5,_⟩
    ·obtain ⟨z1,z2⟩:=qi C e3
     have dv:Dn (gy (d+1) [.ref p,.int a]) p h h ps ps 0 e:=by
      refine ⟨oh S T.n1 ep d1.ev,Dd.refl S g,fun h3 ps3 S3 g3 p3=>oh S3 T.n1 (fq p3 ep) (d1.re h3 ps3 S3 g3 p3)⟩
     exact ⟨e,ps,h,me,fe,y1,y2,dv.as S g (fun _ _ _ _ _=>rfl) (Lc _),rfl,k2.symm,E,by lia,by lia,by rw [z1];rw [z2] at w3;exact w3⟩
    ·have:=congrArg Ms.ht e5
     rw [cw] at this
     have:=X.ky.ht
     lia
   ·have s1:m1.sg+f.sg=mc.sg:=by rw [T1.ky.sg,C.ky.sg,fk];lia
    obtain ⟨n2,ps2,h2,m2,d2,T2,u3,u4,u5⟩:=zd d1.dd.sh d1.dd.gd T1 (E.pre d1.dd.pre) w3 (by lia) (by lia) (by lia) (by have:=d1.dd.len;lia)
    refine ⟨n2,ps2,h2,m2,f2,u,v++y2,Dn.seq' S g d1 d2 (fun hh hh1 pp S' _ pr ev=>tR S' T.n1 (fq pr ep) T1.n1 ev) (by lia),by rw [fH],lu,T2,?_,?_,r3⟩
    ·lia
    ·lia
  ·rcases g.kind T with ⟨e1,e2,e3,e4,e5⟩ | ⟨_,_,mx,my,_,_,_,_,_,_,_,_,_,X,Y,_,e5,_⟩
   ·obtain ⟨z1,z2⟩:=qi T e3
    exact .inl ⟨e2,by rw [z1];exact T.ky.sg,Dn.val S g fun hh pp S' _ pr=>tQ S' T.n1 (fq pr e1)⟩
   ·have:=congrArg Ms.ht e5
    rw [cw] at this
    have:=X.ky.ht
    lia
theorem Good.ends {ps:List Pc} (g:Good ps):∀ (k n:Nat) {m f l:Ms} {x:Str},n<=k->Tx ps n m x f l ->
  (∃ w u:Str,1<=m.fl/\ps[m.fl-1]? = some (.leaf w)/\x=w++u/\w.length=f.sg)/\(∃ w u:Str,1<=m.ll/\ps[m.ll-1]? = some (.leaf w)/\x=u++w/\w.length=l.sg)
 | 0,n,m,f,l,x,hn,T=>absurd T.n1 (by lia)
 | k+1,n,m,f,l,x,hn,T=>by
  rcases g.kind T with ⟨e1,e2,e3,e4,e5⟩ | ⟨a,b,ma,mb,y,z,fa,la,fb,lb,e1,e2,e3,A,B,rfl,e5,e6⟩
  ·obtain ⟨z1,z2⟩:=qi T e3
   have em:("" : Str)++x=x:=cU (by rw [eC];rfl)
   have em2:x++("" : Str)=x:=cU (by rw [eC];simp;rfl)
   have hf:m.fl=n:=by rw [e3];rfl
   have hl:m.ll=n:=by rw [e3];rfl
   have hx:=T.ky.sg
   refine ⟨⟨x, "",by rw [hf];exact T.n1,by rw [hf];exact e1,em2.symm,by rw [z1];exact hx.symm⟩,⟨x, "",by rw [hl];exact T.n1,by rw [hl];exact e1,em.symm,by rw [z2];exact hx.symm⟩⟩
  ·have q1:=g.ends k a (by lia) A
   have q2:=g.ends k b (by lia) B
   obtain ⟨⟨w,u,a1,a2,rfl,a4⟩,_⟩:=q1
   obtain ⟨_,⟨w2,u2,b1,b2,rfl,b4⟩⟩:=q2
   have f1:=T.ky.fl
   have l1:=T.ky.ll
   have hf:m.fl=ma.fl:=by rw [e5];rfl
   have hl:m.ll=mb.ll:=by rw [e5];rfl
   rw [hf] at f1
   rw [hl] at l1
   have z5:=f1.symm.trans A.ky.fl;cases z5
   have z6:=l1.symm.trans B.ky.ll;cases z6
   rw [hf,hl]
   exact ⟨⟨w,u++(u2++w2),a1,a2,by rw [fH],a4⟩,⟨w2,w++u++u2,b1,b2,by rw [fH (w++u)],b4⟩⟩
theorem zg {a b c d:Str} (e:a++b=c++d) (h:a.length=c.length):a=c/\b=d:=by
 have:=congrArg (fun z:Str=>z.cps.toList) e
 simp only [eC] at this
 obtain ⟨h1,h2⟩:=List.append_inj this (by rw [<- bB,<- bB];exact h)
 exact ⟨cU h1,cU h2⟩
theorem GS {a b c d:Str} (e:a++b=c++d) (h:b.length=d.length):a=c/\b=d:=by
 refine zg e ?_
 have:=congrArg Str.length e
 rw [fk,fk] at this
 lia
theorem GT {h:AH} {p:Nat} {ps:List Pc} {a b:Nat} {ma mb la fb:Ms} (S:ShelfAt h p ps) (ea:(meas ps)[a]? = some ma) (eb:(meas ps)[b]? = some mb) (el:(meas ps)[ma.ll]? = some la) (ef:(meas ps)[mb.fl]? = some fb) :
  pV [.ref p,.int a,.int b] h = .ok (.bl (decide (8<la.sg+fb.sg))) h:=by
 have e1:=y6 S ea
 have e2:=y4 S eb
 have e3:=i4 S el
 have e4:=i4 S ef
 have:decide ((8:Int)<(la.sg:Int)+fb.sg)=decide (8<la.sg+fb.sg):=by apply decide_eq_decide.mpr;omega
 simp [pV,S.ob,e1,e2,e3,e4,this]
theorem tU {w v:Str} (hw:w.length+v.length<=100) (h:AH):aw (.str w) (.str v) h = .ok (.str (w++v)) h:=by
 have:w.length+v.length<=sizeLine:=KN hw (by decide)
 simp [aw,this]
theorem kb {h h1 h2 h3:AH} {p:Nat} {ps:List Pc} {a b:Nat} {L n k:Int} {ma mb:Ms} {w v:Str} (S:ShelfAt h p ps) (ea:(meas ps)[a]? = some ma) (eb:(meas ps)[b]? = some mb) (l1:1<=ma.ll) (f1:1<=mb.fl) (el:ps[ma.ll-1]? = some (.leaf w)) (ef:ps[mb.fl-1]? = some (.leaf v)) (hw:w.length+v.length<=100)
  (e1:gY [.ref p,.str (w++v)] h = .ok (.int L) h1) (e2:iH 90 [.ref p,.int a,.int L] h1 = .ok (.int n) h2) (e3:gy 90 [.ref p,.int b] h2 = .ok (.int k) h3) :
  lH [.ref p,.int a,.int b] h=if k=0 then .ok (.int n) h3 else gg 90 [.ref p,.int n,.int k] h3:=by
 have q1:=y6 S ea
 have q2:=y4 S eb
 have q3:=mJ S l1 el
 have q4:=mJ S f1 ef
 have ad:=tU hw h
 unfold lH
 generalize iH 90=WL at *
 generalize gy 90=WF at *
 generalize hF:gg 90=LK at *
 by_cases z:k=0
 ·subst z
  have zz:aC (.int 0) (.int 0) h3 = .ok (.bl true) h3:=by simp
  simp [S.ob,q1,q2,q3,q4,tL,ad,e1,e2,e3,zz,-au,-aC,-aw]
 ·have zz:aC (.int k) (.int 0) h3 = .ok (.bl false) h3:=by simp [z]
  rw [KW z]
  generalize hR:LK [.ref p,.int n,.int k] h3=R
  simp [S.ob,q1,q2,q3,q4,tL,ad,e1,e2,e3,zz,hR,-au,-aC,-aw]
  cases R<;>rfl
end Sk
namespace Sk
open PySem PySem.Spec L2 Sm
theorem GU {w v:Str} (h1:1<=w.length) (h2:w.length+v.length<=8) (pw:bJ w=true) (pv:bJ v=true):dP (w++v)=true:=by
 unfold dP
 rw [lQ,fk,pw,pv]
 simp;lia
theorem GV {h:AH} {p:Nat} {ps:List Pc} {a b:Nat} {ma mb fa la fb lb:Ms} {x y:Str} (S:ShelfAt h p ps) (g:Good ps) (A:Tx ps a ma x fa la) (B:Tx ps b mb y fb lb) (hc : ¬ 8<la.sg+fb.sg) (hm:ma.sg+mb.sg<=1000000000000000000) (hz:ps.length<15000000) :
  ∃ (n:Nat) (ps':List Pc) (h':AH) (m f l:Ms),Dn (lH [.ref p,.int a,.int b]) p h h' ps ps' (7*(max ma.ht mb.ht).toNat+2) n/\Tx ps' n m (x++y) f l/\m.ht<=max ma.ht mb.ht+1:=by
 obtain ⟨_,w,u,l1,el,ex,lw⟩:=g.ends a a (KC _) A
 obtain ⟨⟨v,t,f1,ef,ey,lv⟩,_⟩:=g.ends b b (KC _) B
 have a0:=A.ky.ht
 have b0:=B.ky.ht
 have ha:=fI g A
 have hb:=fI g B
 have px:bJ x=true:=A.ky.pl
 have py:bJ y=true:=B.ky.pl
 have pw:bJ w=true:=by rw [ex,lQ,Lz] at px;exact px.2
 have pv:bJ v=true:=by rw [ey,lQ,Lz] at py;exact py.1
 have la1:=A.ky.l1
 have fb1:=B.ky.f1
 have sx:=A.ky.sg
 have sy:=B.ky.sg
 have lx:x.length=u.length+w.length:=by rw [ex,fk]
 have ly:y.length=v.length+t.length:=by rw [ey,fk]
 have lwv:(w++v).length=w.length+v.length:=fk w v
 obtain ⟨L,ps1,h1,d1,N⟩:=za S g (GU (w:=w) (v:=v) (by lia) (by lia) pw pv) (by lia)
 have z1:=d1.dd.len
 obtain ⟨n2,ps2,h2,m2,f2,u2,v2,d2,ex2,lv2,T2,k1,k2⟩:=ze 90 d1.dd.sh d1.dd.gd (A.pre d1.dd.pre) N (by lia) (by lia) (by lia) (by lia)
 have z2:=d2.dd.len
 obtain ⟨rfl,rfl⟩:u=u2/\w=v2:=GS (ex.symm.trans ex2) (by lia)
 have s2:m2.sg=u.length+(w.length+v.length):=by rw [T2.ky.sg,fk,fk]
 have p12:=d1.dd.pre.trans d2.dd.pre
 have lm:(cD (w++v) L).sg=w.length+v.length:=fk w v
 have tb:∀ q:Int,0<=q->q<=max ma.ht mb.ht->q.toNat<=(max ma.ht mb.ht).toNat:=fun q _ _=>by lia
 rcases zf 90 d2.dd.sh d2.dd.gd (B.pre p12) (by lia) (by lia) with ⟨r1,r2,d3⟩ | ⟨r1,n3,ps3,h3,m3,f3,u3,v3,d3,ey3,lu3,T3,r2,r3,r4⟩
 ·have t0:t.length=0:=by lia
  have te:t = "" := cU (by rw [bB] at t0;rw [MA.mp t0];rfl)
  have rd:u++(w++v)=x++y:=by
   rw [ex,ey,te,fH]
   congr 2
  rw [rd] at T2
  refine ⟨n2,ps2,h2,m2,f2,_,⟨?_,d1.dd.trans d2.dd (by lia),fun h4 ps4 S4 g4 p4=>?_⟩,T2,by lia⟩
  ·rw [kb S A.ms B.ms l1 f1 el ef (by lia) d1.ev d2.ev d3.ev];rfl
  ·have q1:=d1.re h4 ps4 S4 g4 (d2.dd.pre.trans p4)
   have q2:=d2.re h4 ps4 S4 g4 p4
   have q3:=d3.re h4 ps4 S4 g4 p4
   rw [kb S4 (bQ (p12.trans p4) A.ms) (bQ (p12.trans p4) B.ms) l1 f1 (fq (p12.trans p4) el) (fq (p12.trans p4) ef) (by lia) q1 q2 q3];rfl
 ·obtain ⟨rfl,rfl⟩:v=u3/\t=v3:=zg (ey.symm.trans ey3) (by lia)
  have z3:=d3.dd.len
  have s3:m3.sg=t.length:=T3.ky.sg
  have m30:=T3.ky.ht
  obtain ⟨n4,ps4,h4,m4,d4,T4,r5,r6⟩:=qf 90 (max ma.ht mb.ht).toNat d3.dd.sh d3.dd.gd (T2.pre d3.dd.pre) T3 (by lia) (by lia) (by lia) (by lia) (by lia)
  have rd:(u++(w++v))++t=x++y:=by rw [ex,ey,fH,fH,fH]
  rw [rd] at T4
  have n3z : ¬ (n3:Int)=0:=by have:=T3.n1;lia
  have p123:=p12.trans d3.dd.pre
  refine ⟨n4,ps4,h4,m4,f2,lb,⟨?_,((d1.dd.trans d2.dd (KC _)).trans d3.dd (KC _)).trans d4.dd (by lia),fun h5 ps5 S5 g5 p5=>?_⟩,T4,by lia⟩
  ·rw [kb S A.ms B.ms l1 f1 el ef (by lia) d1.ev d2.ev d3.ev,KW n3z];exact d4.ev
  ·have p45:=d4.dd.pre.trans p5
   have q1:=d1.re h5 ps5 S5 g5 (d2.dd.pre.trans (d3.dd.pre.trans p45))
   have q2:=d2.re h5 ps5 S5 g5 (d3.dd.pre.trans p45)
   have q3:=d3.re h5 ps5 S5 g5 p45
   have q4:=d4.re h5 ps5 S5 g5 p5
   have pa:=p123.trans p45
   rw [kb S5 (bQ pa A.ms) (bQ pa B.ms) l1 f1 (fq pa el) (fq pa ef) (by lia) q1 q2 q3,KW n3z];exact q4
def TxZ (ps:List Pc) (n:Nat) (y:Str):Prop:=(n=0/\y = "")\/∃ m f l,Tx ps n m y f l
theorem TxZ.pre {ps ps':List Pc} {n:Nat} {y:Str} (t:TxZ ps n y) (h:ps <+: ps'):TxZ ps' n y:=by
 rcases t with t | ⟨m,f,l,t⟩
 ·exact .inl t
 ·exact .inr ⟨m,f,l,t.pre h⟩
theorem qj (ps:List Pc):(meas ps)[0]? = some ms0:=by
 obtain ⟨r,e,_⟩:=nZ iY ps [ms0]
 rw [meas,e];rfl
def i5 (ps:List Pc) (n:Nat):Int:=((meas ps).getD n ms0).ht
theorem zh {ps:List Pc} {n:Nat} {m:Ms} (e:(meas ps)[n]? = some m):i5 ps n=m.ht:=by unfold i5;rw [j9 e]
theorem tV {i:Int} (hi:i<=1000000000000000000) (h:AH):pU [.int i] h = .ok .non h:=by
 have : ¬ (1000000000000000000:Int)<i:=by lia
 simp [pU,this]
theorem tW {h:AH} {p:Nat} {ps:List Pc} {b:Nat} {mb:Ms} (S:ShelfAt h p ps) (eb:(meas ps)[b]? = some mb) (hm:mb.sg<=1000000000000000000):ip [.ref p,.int (0:Nat),.int b] h = .ok (.int b) h:=by
 have e1:=i4 S (qj ps)
 have e2:=i4 S eb
 have z:ms0.sg=0:=rfl
 rw [z] at e1
 have e1':iF [.ref p,.int 0] h = .ok (.int 0) h:=e1
 have ck:=tV (i:=(0:Int)+mb.sg) (by lia) h
 have zz:aC (.int 0) (.int 0) h = .ok (.bl true) h:=by simp
 have ad:aw (.int 0) (.int mb.sg) h = .ok (.int (0+mb.sg)) h:=rfl
 simp [ip,S.ob,e1',e2,ad,ck,zz,-aC,-aw,-Int.zero_add]
theorem tX {h:AH} {p:Nat} {ps:List Pc} {a:Nat} {ma:Ms} (S:ShelfAt h p ps) (a1:1<=a) (ea:(meas ps)[a]? = some ma) (hm:ma.sg<=1000000000000000000):ip [.ref p,.int a,.int (0:Nat)] h = .ok (.int a) h:=by
 have e1:=i4 S (qj ps)
 have e2:=i4 S ea
 have z:ms0.sg=0:=rfl
 rw [z] at e1
 have e1':iF [.ref p,.int 0] h = .ok (.int 0) h:=e1
 have ck:=tV (i:=(ma.sg:Int)+0) (by lia) h
 have zz:aC (.int 0) (.int 0) h = .ok (.bl true) h:=by simp
 have z2:aC (.int a) (.int 0) h = .ok (.bl false) h:=by
  have : ¬ a=0:=by lia
  simp [this]
 have ad:aw (.int ma.sg) (.int 0) h = .ok (.int (ma.sg+0)) h:=rfl
 simp [ip,S.ob,e1',e2,ad,ck,zz,z2,-aC,-aw,-Int.add_zero]
theorem oj {h:AH} {p:Nat} {ps:List Pc} {a b:Nat} {ma mb la fb:Ms} (S:ShelfAt h p ps) (a1:1<=a) (b1:1<=b) (ea:(meas ps)[a]? = some ma) (eb:(meas ps)[b]? = some mb) (el:(meas ps)[ma.ll]? = some la) (ef:(meas ps)[mb.fl]? = some fb) (hm:ma.sg+mb.sg<=1000000000000000000) :
  ip [.ref p,.int a,.int b] h=if 8<la.sg+fb.sg then gg 90 [.ref p,.int a,.int b] h else lH [.ref p,.int a,.int b] h:=by
 have e1:=i4 S ea
 have e2:=i4 S eb
 have cl:=GT S ea eb el ef
 have ck:=tV (i:=(ma.sg:Int)+mb.sg) (by lia) h
 have z1:aC (.int a) (.int 0) h = .ok (.bl false) h:=by
  have : ¬ a=0:=by lia
  simp [this]
 have z2:aC (.int b) (.int 0) h = .ok (.bl false) h:=by
  have : ¬ b=0:=by lia
  simp [this]
 have ad:aw (.int ma.sg) (.int mb.sg) h = .ok (.int (ma.sg+mb.sg)) h:=rfl
 unfold ip
 generalize gg 90=LK at *
 by_cases q:8<la.sg+fb.sg
 ·rw [KS q]
  generalize hR:LK [.ref p,.int a,.int b] h=R
  simp [S.ob,e1,e2,ad,ck,z1,z2,cl,q,hR,-aC,-aw]
  cases R<;>rfl
 ·rw [KW q]
  generalize hR:lH [.ref p,.int a,.int b] h=R
  simp [S.ob,e1,e2,ad,ck,z1,z2,cl,q,hR,-aC,-aw]
  cases R<;>rfl
theorem TxZ.meas {ps:List Pc} {n:Nat} {y:Str} (t:TxZ ps n y):∃ m,(meas ps)[n]? = some m/\m.sg=y.length:=by
 rcases t with ⟨rfl,rfl⟩ | ⟨m,f,l,T⟩
 ·exact ⟨ms0,qj ps,rfl⟩
 ·exact ⟨m,T.ms,T.ky.sg⟩
theorem GW {h:AH} {p:Nat} {ps:List Pc} {a b:Nat} {x y:Str} (S:ShelfAt h p ps) (g:Good ps) (A:TxZ ps a x) (B:TxZ ps b y) (hm:x.length+y.length<=1000000000000000000) (hz:ps.length<15000000) :
  ∃ (n:Nat) (ps':List Pc) (h':AH),Dn (ip [.ref p,.int a,.int b]) p h h' ps ps' (16*(max (i5 ps a) (i5 ps b)+1).toNat) n/\TxZ ps' n (x++y):=by
 rcases A with ⟨rfl,rfl⟩ | ⟨ma,fa,la,A⟩
 ·obtain ⟨mb,eb,sb⟩:=B.meas
  have em:("" : Str)++y=y:=cU (by rw [eC];rfl)
  have dv:Dn (ip [.ref p,.int (0:Nat),.int b]) p h h ps ps 0 b:=Dn.val S g fun hh pp S' _ pr=>tW S' (bQ pr eb) (by rw [sb];lia)
  exact ⟨b,ps,h,dv.as S g (fun _ _ _ _ _=>rfl) (Lc _),by rw [em];exact B⟩
 ·rcases B with ⟨rfl,rfl⟩ | ⟨mb,fb,lb,B⟩
  ·have em:x++("" : Str)=x:=cU (by rw [eC];simp;rfl)
   have dv:Dn (ip [.ref p,.int a,.int (0:Nat)]) p h h ps ps 0 a:=Dn.val S g fun hh pp S' _ pr=>tX S' A.n1 (bQ pr A.ms) A.ky.most
   exact ⟨a,ps,h,dv.as S g (fun _ _ _ _ _=>rfl) (Lc _),by rw [em];exact .inr ⟨_,_,_,A⟩⟩
  ·have sa:=A.ky.sg
   have sb:=B.ky.sg
   have a0:=A.ky.ht
   have b0:=B.ky.ht
   have ha:=fI g A
   have hb:=fI g B
   rw [zh A.ms,zh B.ms]
   by_cases q:8<la.sg+fb.sg
   ·obtain ⟨n,ps',h',m,d,T,_⟩:=qf 90 (max ma.ht mb.ht).toNat S g A B q (by lia) (by lia) (by lia) (by lia)
    exact ⟨n,ps',h',d.as S g (fun hh pp S' _ pr=>by rw [oj S' A.n1 B.n1 (bQ pr A.ms) (bQ pr B.ms) (bQ pr A.ky.ll) (bQ pr B.ky.fl) (by lia),KS q]) (by lia),.inr ⟨_,_,_,T⟩⟩
   ·obtain ⟨n,ps',h',m,f,l,d,T,_⟩:=GV S g A B q (by lia) hz
    exact ⟨n,ps',h',d.as S g (fun hh pp S' _ pr=>by rw [oj S' A.n1 B.n1 (bQ pr A.ms) (bQ pr B.ms) (bQ pr A.ky.ll) (bQ pr B.ky.fl) (by lia),KW q]) (by lia),.inr ⟨_,_,_,T⟩⟩
end Sk
namespace Sk
open PySem PySem.Spec L2 Sm
theorem GY {b e:Nat} {y:Str} (be:b<=e):(cz y (some (b:Int)) (some (e:Int))).cps.toList=(y.cps.toList.drop b).take (e-b):=by
 unfold cz
 rw [HT.sIx_nat,HT.sIx_nat]
 generalize y.cps.toList=l
 show (l.drop (min b l.length)).take (min e l.length-min b l.length)=_
 apply Mn
 intro i
 rw [Mg,Mg,Mh,Mh]
 by_cases q:b<=l.length
 ·rw [L7 q]
  by_cases c1:i<e-b
  ·rw [KS c1]
   by_cases c2:i<min e l.length-b
   ·rw [KS c2]
   ·rw [KW c2,MG (by lia)]
  ·rw [KW c1,KW (by lia)]
 ·rw [KW (by lia),MG (l:=l) (i:=b+i) (by lia)]
  split<;>rfl
def gi:List Str->Str
 | [] => ""
 | w::ws=>w++gi ws
theorem tY:∀ as bs:List Str,gi (as++bs)=gi as++gi bs
 | [],bs=>(cU (by rw [eC];rfl):gi bs=("" : Str)++gi bs)
 | w::as,bs=>by
  show w++gi (as++bs)=(w++gi as)++gi bs
  rw [tY as bs,fH]
theorem zi (w:Str):gi [w]=w:=cU (by show (w++("" : Str)).cps.toList=_;rw [eC];simp;rfl)
def LS (ps:List Pc) (ns:List Nat) (ws:List Str):Prop:=ns.length=ws.length/\∀ (i n:Nat) (w:Str),ns[i]? = some n->ws[i]? = some w->Tx ps n (cD w n) w (cD w n) (cD w n)
theorem LS.pre {ps ps':List Pc} {ns:List Nat} {ws:List Str} (s:LS ps ns ws) (h:ps <+: ps'):LS ps' ns ws:=⟨s.1,fun i n w a b=>(s.2 i n w a b).pre h⟩
theorem LS.take {ps:List Pc} {ns:List Nat} {ws:List Str} (s:LS ps ns ws) (k:Nat):LS ps (ns.take k) (ws.take k):=by
 refine ⟨by simp [s.1],fun i n w a b=>?_⟩
 rw [Mg] at a b
 by_cases q:i<k
 ·rw [KS q] at a b;exact s.2 i n w a b
 ·rw [KW q] at a;cases a
theorem LS.drop {ps:List Pc} {ns:List Nat} {ws:List Str} (s:LS ps ns ws) (k:Nat):LS ps (ns.drop k) (ws.drop k):=by
 refine ⟨by simp [s.1],fun i n w a b=>?_⟩
 rw [Mh] at a b
 exact s.2 _ n w a b
abbrev fv (ns:List Nat):List AV:=ns.map fun n:Nat=>AV.int (n:Int)
theorem tZ {h:AH} {p d n:Nat}:iV (d+1) [.ref p,.fl (fv [n])] h = .ok (.int n) h:=by
 have ix:au (.fl [.int (n:Int)]) (.int 0) h = .ok (.int n) h:=rfl
 simp [iV,sN,ix,-au]
theorem GZ {α:Type} (l:List α) {k:Nat} (hk:k<=l.length):b9 l none (some (k:Int))=l.take k:=by
 unfold b9
 rw [HT.sIx_nat,HT.sIx_none,L7 hk];simp
theorem G0 {α:Type} (l:List α) {k:Nat} (hk:k<=l.length):b9 l (some (k:Int)) none=l.drop k:=by
 unfold b9
 rw [HT.sIx_nat,HT.sIx_none,L7 hk,LA (by simp)]
theorem t5 {h h1 h2:AH} {p d:Nat} {ps:List Pc} {ns:List Nat} {v1 v2:Int} (S:ShelfAt h p ps) (hl:2<=ns.length) (e1:iV d [.ref p,.fl (fv (ns.take (ns.length / 2)))] h = .ok (.int v1) h1) (e2:iV d [.ref p,.fl (fv (ns.drop (ns.length / 2)))] h1 = .ok (.int v2) h2) :
  iV (d+1) [.ref p,.fl (fv ns)] h=bA [.ref p,.int v1,.int v2] h2:=by
 have hh:ns.length / 2<=ns.length:=Nat.div_le_self _ _
 have ln:ax [.fl (fv ns)] h = .ok (.int ns.length) h:=by simp [ax]
 have q:aC (.int ns.length) (.int 1) h = .ok (.bl false) h:=by
  have : ¬ (ns.length:Int)=1:=by lia
  simp [this]
 have dv:hG (.int ns.length) (.int 2) h = .ok (.int (ns.length / 2:Nat)) h:=rfl
 have c1:bI (.fl (fv ns)) none (some (ns.length / 2:Nat)) h = .ok (.fl (fv (ns.take (ns.length / 2)))) h:=by
  have:=GZ (fv ns) (k:=ns.length / 2) (by simpa using hh)
  simp only [bI,this,fv,List.map_take]
 have c2:∀ h,bI (.fl (fv ns)) (some (ns.length / 2:Nat)) none h = .ok (.fl (fv (ns.drop (ns.length / 2)))) h:=fun h=>by
  have:=G0 (fv ns) (k:=ns.length / 2) (by simpa using hh)
  simp only [bI,this,fv,List.map_drop]
 generalize hF:bA [.ref p,.int v1,.int v2] h2=R
 unfold iV sN
 generalize fv ns=Z at *
 generalize fv (ns.take (ns.length / 2))=Z1 at *
 generalize fv (ns.drop (ns.length / 2))=Z2 at *
 generalize ((ns.length / 2:Nat):Int)=M at *
 generalize (ns.length:Int)=K at *
 simp [S.ob,ln,q,dv,c1,c2,e1,e2,hF,-ax,-aC,-hG,-bI]
 cases R<;>rfl
theorem G3 {a b ha hb:Nat} (ab:b<=a+1) (h1:a<=2 ^ ha) (h2:hb=0\/2 ^ (hb-1)<b):hb<=ha+1:=by
 rcases h2 with h2 | h2
 ·lia
 ·have:2 ^ (hb-1)<=2 ^ ha:=by lia
  have:=(Nat.pow_le_pow_iff_right (a:=2) (by decide)).mp this
  lia
theorem G4 {a b ha hb:Nat} (ab:a<=b) (h1:b<=2 ^ hb) (h2:ha=0\/2 ^ (ha-1)<a):ha<=hb:=by
 rcases h2 with h2 | h2
 ·lia
 ·have:2 ^ (ha-1)<2 ^ hb:=by lia
  have:=(Nat.pow_lt_pow_iff_right (a:=2) (by decide)).mp this
  lia
theorem G5 {k b hb:Nat} (h1:k<=2*b) (h2:2*b<=k+1) (h3:2<=k) (h4:b<=2 ^ hb) (h5:hb=0\/2 ^ (hb-1)<b):k<=2 ^ (hb+1)/\2 ^ (hb+1-1)<k:=by
 rw [Ol,N7]
 refine ⟨by lia,?_⟩
 rcases h5 with h5 | h5
 ·subst h5;simp;lia
 ·cases hb with
  | zero=>simp;lia
  | succ n =>
   rw [N7] at h5
   rw [Ol];lia
theorem G6 {k e:Nat} (h:k<=2 ^ (e+1)):k / 2<=2 ^ e/\k-k / 2<=2 ^ e:=by rw [Ol] at h;lia
theorem t7 {p:Nat}:∀ (d e:Nat) {h:AH} {ps:List Pc} {ns:List Nat} {ws:List Str},ShelfAt h p ps->Good ps->LS ps ns ws->1<=ns.length->ns.length<=2 ^ e->e<d->(∀ (i:Nat) (w:Str),ws[i]? = some w->i+1<ws.length->w.length=8)->ps.length+ns.length<16000000->ns.length<=10000 ->
  ∃ (n:Nat) (ps':List Pc) (h':AH) (m f l:Ms) (H:Nat),iV d [.ref p,.fl (fv ns)] h = .ok (.int n) h'/\Dd p h h' ps ps' (ns.length-1)/\Tx ps' n m (gi ws) f l/\m.ht=H/\ns.length<=2 ^ H/\(H=0\/2 ^ (H-1)<ns.length)/\((∀ w∈ws,w.length=8)->l.sg=8)/\m.sg<=8*ns.length
 | 0,e,h,ps,ns,ws,S,g,LL,h1,h2,h3,h4,h5,h6=>absurd h3 (Lm _)
 | d+1,e,h,ps,ns,ws,S,g,LL,h1,h2,h3,h4,h5,h6=>by
  by_cases q:ns.length=1
  ·obtain ⟨n,rfl⟩:∃ n,ns=[n]:=Nr.mp q
   obtain ⟨w,rfl⟩:∃ w,ws=[w]:=Nr.mp (LL.1.symm.trans q)
   have T:=LL.2 0 n w rfl rfl
   refine ⟨n,ps,h,_,_,_,0,tZ,{ Dd.refl S g with len:=by lia },by rw [zi];exact T,rfl,by simp,.inl rfl,fun hw=>hw w (by simp),?_⟩
   have:=T.ky.f8
   simpa using this
  ·have hh:2<=ns.length:=by lia
   obtain ⟨e',rfl⟩:∃ e',e=e'+1:=by
    cases e with
    | zero=>simp at h2;lia
    | succ e' => exact ⟨e',rfl⟩
   obtain ⟨w1,w2⟩:=G6 h2
   have lt:(ns.take (ns.length / 2)).length=ns.length / 2:=by rw [Lr];lia
   have ld:(ns.drop (ns.length / 2)).length=ns.length-ns.length / 2:=Ln ..
   have lw:=LL.1
   obtain ⟨n1,ps1,hh1,m1,f1,l1,H1,a1,a2,a3,a4,a5,a6,a7,a8⟩:=t7 d e' S g (LL.take (ns.length / 2)) (by lia) (by lia) (by lia) (fun i w ew hi=>by
    rw [Mg] at ew
    split at ew
    ·rw [Lr] at hi;exact h4 i w ew (by lia)
    ·cases ew) (by lia) (by lia)
   have z1:=a2.len
   obtain ⟨n2,ps2,hh2,m2,f2,l2,H2,b1,b2,b3,b4,b5,b6,b7,b8⟩:=t7 d e' a2.sh a2.gd ((LL.drop (ns.length / 2)).pre a2.pre) (by lia) (by lia) (by lia) (fun i w ew hi=>by
    rw [Mh] at ew
    rw [Ln] at hi
    exact h4 _ w ew (by lia)) (by lia) (by lia)
   have z2:=b2.len
   rw [lt] at a5 a6 a8
   rw [ld] at b5 b6 b8
   have g1:=G3 (a:=ns.length / 2) (b:=ns.length-ns.length / 2) (by lia) a5 b6
   have g2:=G4 (a:=ns.length / 2) (b:=ns.length-ns.length / 2) (by lia) b5 a6
   have l8:l1.sg=8:=a7 fun w hw=>by
    obtain ⟨i,hi,ei⟩:=Mu hw
    have hi' := hi
    rw [Lr] at hi'
    have:(ws.take (ns.length / 2))[i]? = some w:=by rw [KR hi,ei]
    rw [Mg] at this
    split at this
    ·exact h4 i w this (by lia)
    ·cases this
   have f1' := b3.ky.f1
   obtain ⟨n3,ps3,hh3,d3,T3⟩:=gM b2.sh b2.gd (a3.pre b2.pre) b3 (by lia) (by lia) (by lia) (by lia) (by lia)
   have rd:gi (ws.take (ns.length / 2))++gi (ws.drop (ns.length / 2))=gi ws:=by rw [<- tY,Mj]
   rw [rd] at T3
   have hv:=t5 S hh a1 b1
   obtain ⟨y1,y2⟩:=G5 (k:=ns.length) (b:=ns.length-ns.length / 2) (by lia) (by lia) hh b5 b6
   refine ⟨n3,ps3,hh3,_,f1,l2,H2+1,hv.trans d3.ev,(a2.trans b2 (KC _)).trans d3.dd (by lia),T3,by rw [cw,a4,b4];lia,y1,.inr y2,fun hw=>b7 fun w hm=>hw w (Ma hm),by rw [gN];lia⟩
end Sk
namespace Sk
open PySem PySem.Spec L2 Sm
def i6 (x:Str) (k:Nat):Str:=cz x (some ((8*k:Nat):Int)) (some ((8*k+8:Nat):Int))
theorem t8 (x:Str) (k:Nat):(i6 x k).cps.toList=(x.cps.toList.drop (8*k)).take 8:=by
 unfold i6
 rw [GY (by lia),show 8*k+8-8*k=8 by lia]
theorem zj (x:Str) (k:Nat):(i6 x k).length=min 8 (x.length-8*k):=by
 rw [bB,t8,Lr,Ln,<- bB]
theorem G7 {x:Str} (px:bJ x=true) (k:Nat):bJ (i6 x k)=true:=by
 unfold bJ at *
 rw [t8,Lo]
 rw [Lo] at px
 exact fun c hc=>px c (Ma (Mb hc))
theorem zk (x:Str):∀ j,(gi ((List.range j).map (i6 x))).cps.toList=x.cps.toList.take (8*j)
 | 0=>rfl
 | j+1=>by
  rw [List.range_succ,Mw,tY,eC,zk x j]
  show _++(gi [i6 x j]).cps.toList=_
  rw [zi,t8,show 8*(j+1)=8*j+8 by lia,List.take_add]
theorem zm {α:Type} {f:Nat->α} {N i:Nat} {w:α} (e:((List.range N).map f)[i]? = some w):i<N/\w=f i:=by
 rw [Lw] at e
 obtain ⟨j,ej,ew⟩:=Lf.mp e
 have h1:=(Kz.mp ej).1
 rw [MB] at h1
 rw [MS h1] at ej
 cases ej
 exact ⟨h1,ew.symm⟩
theorem LS.snoc {ps ps':List Pc} {ns:List Nat} {ws:List Str} {n:Nat} {w:Str} (s:LS ps ns ws) (h:ps <+: ps') (T:Tx ps' n (cD w n) w (cD w n) (cD w n)):LS ps' (ns++[n]) (ws++[w]):=by
 have l:=s.1
 refine ⟨by simp [s.1],fun i a b ea eb=>?_⟩
 by_cases q:i<ns.length
 ·rw [KA q] at ea
  rw [KA (by lia)] at eb
  exact (s.2 i a b ea eb).pre h
 ·have h1:=(Kz.mp ea).1
  have hi:i=ns.length:=by simp at h1;lia
  subst hi
  rw [Lu (by lia)] at ea eb
  simp at ea
  rw [show ns.length-ws.length=0 by lia] at eb
  simp at eb
  subst ea eb
  exact T
theorem G8 {h:AH} {p:Nat} {ps:List Pc} {x:Str} (S:ShelfAt h p ps) (g:Good ps) (px:bJ x=true) (N:Nat) (hN:8*N<x.length+8) (hx:x.length<=10000) (hz:ps.length+N<16000000) (all:List AV) (js:List Nat) (en:En) (hj:js.map (fun j=>(en[j]?).join)=[some (.ref p),some (.str x)]) :
  ∃ (ns:List Nat) (ps':List Pc) (h':AH),eP js en none all cq (aR 0 gY (ae 1) (aj (aY (ae 2) (some (ae 0)) (some (ah aw (ae 0) (af (.int 8))))) ag)) ((List.range N).map fun m:Nat=>AV.int (0+(m:Int)*8)) [] h = .ok (fv ns) h'/\Dd p h h' ps ps' N/\LS ps' ns ((List.range N).map (i6 x)):=by
 obtain ⟨zs,h',c1,ns,ps',e1,D,LL⟩:=Gm (js:=js) (en:=en) (all:=all) (e:=aR 0 gY (ae 1) (aj (aY (ae 2) (some (ae 0)) (some (ah aw (ae 0) (af (.int 8))))) ag)) (xs:=(List.range N).map fun m:Nat=>AV.int (0+(m:Int)*8)) (h:=h)
  (fun j ys h' => ∃ (ns:List Nat) (ps':List Pc),ys=fv ns/\Dd p h h' ps ps' j/\LS ps' ns ((List.range j).map (i6 x))) ⟨[],ps,rfl,Dd.refl S g,rfl,fun i n w a _=>by simp at a⟩ (by
   rintro j v ys h' hv ⟨ns,ps',rfl,D,LL⟩
   obtain ⟨jN,rfl⟩:=zm hv
   have z:=D.len
   have lc:=zj x j
   have sc:dP (i6 x j)=true:=by
    unfold dP
    rw [G7 px j,lc]
    simp;lia
   obtain ⟨n,ps2,h2,d2,T⟩:=za D.sh D.gd sc (by lia)
   have i1:(0:Int)+(j:Int)*8=((8*j:Nat):Int):=by lia
   have i2:((8*j:Nat):Int)+8=((8*j+8:Nat):Int):=by lia
   have ct:bI (.str x) (some ((8*j:Nat):Int)) (some ((8*j+8:Nat):Int)) h' = .ok (.str (i6 x j)) h' := rfl
   have ev:=d2.ev
   rw [hj]
   have e:aR 0 gY (ae 1) (aj (aY (ae 2) (some (ae 0)) (some (ah aw (ae 0) (af (.int 8))))) ag) [some (.int (0+(j:Int)*8)),some (.ref p),some (.str x)] h' = .ok (.int n) h2:=by
    rw [i1]
    have ad:aw (.int ((8*j:Nat):Int)) (.int 8) h' = .ok (.int ((8*j+8:Nat):Int)) h' := by rw [<- i2];rfl
    generalize ((8*j:Nat):Int)=B1 at *
    generalize ((8*j+8:Nat):Int)=B2 at *
    simp [D.sh.ob,ad,ct,ev,-aw,-bI]
   rw [e]
   refine ⟨ns++[n],ps2,by simp [fv],D.trans d2.dd (by lia),?_⟩
   rw [List.range_succ,Mw]
   exact LL.snoc d2.dd.pre T) (by simp;exact KN (show N<=10000 by lia) (by decide))
 rw [K4,MB] at D LL
 exact ⟨ns,ps',h',by rw [c1,e1],D,LL⟩
theorem G9 {h:AH} {p:Nat} {ps:List Pc} {x:Str} (S:ShelfAt h p ps) (g:Good ps) (px:bJ x=true) (hx:x.length<=10000) (hz:ps.length+2*x.length<16000000) :
  ∃ (n:Nat) (ps':List Pc) (h':AH),lI [.ref p,.str x] h = .ok (.int n) h'/\Dd p h h' ps ps' (2*x.length)/\TxZ ps' n x:=by
 have sl:x.length<=sizeLine:=KN hx (by decide)
 have fp:=yQ x h sl
 rw [px] at fp
 have c1 : ¬ (10000:Int)<x.length:=by lia
 by_cases q:x.length=0
 ·have xe:x = "" := cU (by rw [bB] at q;rw [MA.mp q];rfl)
  subst xe
  refine ⟨0,ps,h,?_,{ Dd.refl S g with len:=by lia },.inl ⟨rfl,rfl⟩⟩
  simp [lI,fp,c1]
 ·obtain ⟨N,eN⟩:∃ N,N=(x.length-1) / 8+1:=⟨_,rfl⟩
  obtain ⟨ns,ps1,h1,e1,D1,LL⟩:=G8 S g px N (by lia) hx (by lia) ((List.range N).map fun m:Nat=>AV.int (0+(m:Int)*8)) [0,1] [some (.ref p),some (.str x),none] rfl
  have z1:=D1.len
  have ln:ns.length=N:=by rw [LL.1];simp
  obtain ⟨n,ps2,h2,m,f,l,H,b1,b2,b3,_⟩:=t7 (p:=p) 20 11 D1.sh D1.gd LL (by lia) (by rw [ln];have:(2:Nat) ^ 11=2048:=rfl;lia) (by decide) (fun i w ew hi=>by
   obtain ⟨iN,rfl⟩:=zm ew
   rw [K4,MB] at hi
   rw [zj];lia) (by lia) (by lia)
  have rd:gi ((List.range N).map (i6 x))=x:=cU (by rw [zk,LA (by rw [<- bB];lia)])
  rw [rd] at b3
  have ir:jV (af (.int 0)) (aG ax (aj (ae 1) ag)) (af (.int 8)) [some (.ref p),some (.str x),none] h = .ok ((List.range N).map (fun m:Nat=>AV.int (0+(m:Int)*8)),none) h:=by
   have r1:((if (0:Int)<x.length then ((x.length:Int)-0-1) / 8+1 else 0:Int)).toNat=N:=by
    rw [KS (by lia)];lia
   have r2:(0:Int).natAbs<2 ^ 40/\(x.length:Int).natAbs<2 ^ 40/\(0:Int)<8/\(8:Int)<2 ^ 20:=⟨by decide,by lia,by decide,by decide⟩
   show (if _ then _ else _)=_
   rw [KS r2,r1]
  have cp:dC [0,1] (jV (af (.int 0)) (aG ax (aj (ae 1) ag)) (af (.int 8))) cq (aR 0 gY (ae 1) (aj (aY (ae 2) (some (ae 0)) (some (ah aw (ae 0) (af (.int 8))))) ag)) [some (.ref p),some (.str x),none] h = .ok (.fl (fv ns)) h1:=by
   simp only [dC,ir,e1]
  have ne:aC (.str x) (.str "") h = .ok (.bl false) h:=by
   have : ¬ x=Str.ofString "" := fun z=>q (by rw [z];rfl)
   simp [this]
  refine ⟨n,ps2,h2,?_,D1.trans b2 (by lia),.inr ⟨_,_,_,b3⟩⟩
  unfold lI
  generalize dC [0,1] (jV (af (.int 0)) (aG ax (aj (ae 1) ag)) (af (.int 8))) cq (aR 0 gY (ae 1) (aj (aY (ae 2) (some (ae 0)) (some (ah aw (ae 0) (af (.int 8))))) ag))=CP at *
  generalize iV 20=HV at *
  simp [fp,c1,ne,cp,b1,-aC]
end Sk
namespace Sk
open PySem PySem.Spec L2 Sm
def bP (x:Str) (a:Nat):Str:=⟨(x.cps.toList.take a).toArray⟩
def bF (x:Str) (a:Nat):Str:=⟨(x.cps.toList.drop a).toArray⟩
theorem gj (x:Str) (a:Nat):(bP x a).cps.toList=x.cps.toList.take a:=rfl
theorem gO (x:Str) (a:Nat):(bF x a).cps.toList=x.cps.toList.drop a:=rfl
theorem zq {x:Str} {a:Nat} (h:a<=x.length):(bP x a).length=a:=by
 rw [bB] at *
 rw [gj,Lr];lia
theorem jt (x:Str) (a:Nat):(bF x a).length=x.length-a:=by
 rw [bB,bB x,gO,Ln]
theorem t9 (x:Str):bP x 0 = "" := cU rfl
theorem om (x:Str):bF x 0=x:=cU rfl
theorem uc {x:Str} (h:bJ x=true) (a:Nat):bJ (bP x a)=true:=by
 unfold bJ at *
 rw [gj,Lo]
 rw [Lo] at h
 exact fun c hc=>h c (Mb hc)
theorem lS {x:Str} {a:Nat} (h:AH):bI (.str x) none (some (a:Int)) h = .ok (.str (bP x a)) h:=by
 have:cz x none (some (a:Int))=bP x a:=cU (by
  unfold cz
  rw [HT.sIx_nat,HT.sIx_none,gj]
  show (x.cps.toList.drop 0).take (min a x.cps.toList.length-0)=_
  rw [MC,Nat.sub_zero]
  by_cases q:a<=x.cps.toList.length
  ·rw [L7 q]
  ·rw [ML (by lia),Nh,LA (by lia)])
 simp only [bI,this]
theorem mK {x:Str} {a:Nat} (ha:a<=x.length) (h:AH):bI (.str x) (some (a:Int)) none h = .ok (.str (bF x a)) h:=by
 have:cz x (some (a:Int)) none=bF x a:=cU (by
  unfold cz
  rw [HT.sIx_nat,HT.sIx_none,gO]
  rw [bB] at ha
  rw [L7 ha]
  show (x.cps.toList.drop a).take (x.cps.toList.length-a)=_
  rw [LA (by rw [Ln];exact KC _)])
 simp only [bI,this]
def Kv (z:Int):Nat:=8*((z+1).toNat*(z+2).toNat)
end Sk
namespace Sk
open PySem PySem.Spec L2 Sm
inductive Un where
 | n (k:Nat)
 | s (z:Str)
@[simp] def uv:Un->AV
 | .n k=>.int k
 | .s z=>.str z
def ud:Un->PyData
 | .n k=>.int k
 | .s z=>.str z
def iJ (ps:List Pc):Un->List Nat
 | .n k=>((reads ps).getD k "").cps.toList
 | .s z=>z.cps.toList
def br (ps:List Pc):List Un->List Nat
 | []=>[]
 | u::r=>iJ ps u++br ps r
theorem ue (ps:List Pc):∀ a b:List Un,br ps (a++b)=br ps a++br ps b
 | [],b=>rfl
 | u::a,b=>by rw [LQ,br,br,ue ps a b,Lg]
inductive OkU (ps:List Pc):Un->Prop
 | n {k:Nat} {m f l:Ms} {x:Str} (T:Tx ps k m x f l):OkU ps (.n k)
 | s {z:Str} (a:1<=z.length) (b:z.length<=8):OkU ps (.s z)
theorem g7 {ps:List Pc} {k:Nat} {m f l:Ms} {x:Str} (T:Tx ps k m x f l):iJ ps (.n k)=x.cps.toList:=by
 show ((reads ps).getD k "").cps.toList=_
 rw [j9 T.rd]
theorem OkU.pos {ps:List Pc} {u:Un} (o:OkU ps u):1<=(iJ ps u).length:=by
 cases o with
 | n T =>
  rw [g7 T,<- bB,<- T.ky.sg]
  obtain ⟨k,c⟩:=T.ky.cnt
  have:=T.ky.f1
  rcases c with c | c<;>lia
 | @s z a b =>
  show 1<=z.cps.toList.length
  rw [<- bB];exact a
def hU (ps:List Pc):List Un->Nat
 | .n k::_=>((meas ps).getD k ms0).ht.toNat+1
 | _=>0
theorem du {ps:List Pc} {k:Nat} {m f l:Ms} {x:Str} (T:Tx ps k m x f l) (st:List Un):hU ps (.n k::st)=m.ht.toNat+1:=by
 show ((meas ps).getD k ms0).ht.toNat+1=_
 rw [j9 T.ms]
theorem eE {ps:List Pc} (g:Good ps) {st:List Un} (ok:∀ u∈st,OkU ps u):hU ps st<=83:=by
 match st,ok with
 | [],_=>exact Lc _
 | .s _::_,_=>exact Lc _
 | .n k::st,ok =>
  cases ok _ (KF ..) with
  | @n _ m f l x T =>
   rw [du T]
   have:=fI g T
   have:=T.ky.ht
   lia
theorem kE {ps:List Pc} {a b:Nat} {ma mb fa la fb lb:Ms} {y z:Str} {u:Un} {st:List Un} (A:Tx ps a ma y fa la) (B:Tx ps b mb z fb lb) (ok:∀ v∈u::st,OkU ps v):∀ v∈(.n a :: .n b::st:List Un),OkU ps v:=by
 intro v hv
 rcases K6.mp hv with rfl | hv
 ·exact .n A
 ·rcases K6.mp hv with rfl | hv
  ·exact .n B
  ·exact ok v (KJ _ hv)
def aT (ps:List Pc):Nat->List Un->Str×List Un
 | _,[]=>("",[])
 | _,.s z::st=>(z,st)
 | 0,.n _::st=>("",st)
 | c+1,.n k::st=>match ps[k-1]? with
  | some (.fork a b)=>aT ps c (.n a :: .n b::st)
  | some (.leaf z)=>(z,st)
  | none=>("",st)
structure uf (ps:List Pc) (c:Nat) (st:List Un) (r:Str×List Un):Prop where
 rd:br ps st=r.1.cps.toList++br ps r.2
 ok:∀ u∈r.2,OkU ps u
 z1:st≠[]->1<=r.1.length/\r.1.length<=8
 z0:st=[]->r=(("" : Str),([]:List Un))
 ln:r.2.length<=st.length+c
theorem i7 {ps:List Pc} (g:Good ps):∀ (c:Nat) (st:List Un),(∀ u∈st,OkU ps u)->hU ps st<=c->uf ps c st (aT ps c st)
 | c,[],ok,_=>by
  have e:aT ps c []=(("" : Str),([]:List Un)):=by cases c<;>rfl
  rw [e]
  exact ⟨rfl,ok,fun z=>absurd rfl z,fun _=>rfl,Lc _⟩
 | c,.s z::st,ok,_=>by
  have e:aT ps c (.s z::st)=(z,st):=by cases c<;>rfl
  rw [e]
  cases ok _ (KF ..) with
  | s a b=>exact ⟨rfl,fun u hu=>ok u (KJ _ hu),fun _=>⟨a,b⟩,fun z=>(by cases z),by show st.length<=(st.length+1)+c;omega⟩
 | 0,.n k::st,ok,h=>by
  cases ok _ (KF ..) with
  | n T=>rw [du T] at h;omega
 | c+1,.n k::st,ok,h=>by
  cases ok _ (KF ..) with
  | @n _ m f l x T =>
   rw [du T] at h
   rcases g.kind T with ⟨e1,e2,e3,e4,e5⟩ | ⟨a,b,ma,mb,y,z,fa,la,fb,lb,e1,e2,e3,A,B,e4,e5,e6⟩
   ·have e:aT ps (c+1) (.n k::st)=(x,st):=by unfold aT;rw [e1]
    rw [e]
    exact ⟨by rw [br,g7 T],fun u hu=>ok u (KJ _ hu),fun _=>⟨e4,e5⟩,fun z=>(by cases z),by show st.length<=(st.length+1)+_;omega⟩
   ·have e:aT ps (c+1) (.n k::st)=aT ps c (.n a :: .n b::st):=by rw [aT,e1]
    rw [e]
    have hh:=congrArg Ms.ht e5
    rw [cw] at hh
    have a0:=A.ky.ht
    have b0:=B.ky.ht
    have r:=i7 g c (.n a :: .n b::st) (kE A B ok) (by rw [du A];omega)
    refine ⟨?_,r.ok,fun _=>r.z1 (fun z=>by cases z),fun z=>(by cases z),?_⟩
    ·rw [<- r.rd,br,br,br,g7 T,g7 A,g7 B,e4,eC,Lg]
    ·have:=r.ln
     rw [KO,KO] at this
     rw [KO];omega
def bj (ps:List Pc) (k:Nat):Nat->List Un->Option (List Un)
 | _,[]=>none
 | _,.s _::_=>none
 | 0,.n _::_=>none
 | c+1,.n j::st=>if j=k then some st else match ps[j-1]? with
  | some (.fork a b)=>bj ps k c (.n a :: .n b::st)
  | _=>none
theorem zr {ps:List Pc} (g:Good ps) {k:Nat}:∀ (c:Nat) {st st':List Un},(∀ u∈st,OkU ps u)->bj ps k c st=some st'->br ps st=iJ ps (.n k)++br ps st'/\(∀ u∈st',OkU ps u)/\st'.length<=st.length+c
 | 0,[],st',_,h=>by cases h
 | 0,.s _::_,st',_,h=>by cases h
 | 0,.n _::_,st',_,h=>by cases h
 | c+1,[],st',_,h=>by cases h
 | c+1,.s _::_,st',_,h=>by cases h
 | c+1,.n j::st,st',ok,h=>by
  rw [bj] at h
  by_cases q:j=k
  ·rw [KS q] at h
   cases h
   subst q
   exact ⟨rfl,fun u hu=>ok u (KJ _ hu),by rw [KO];lia⟩
  ·rw [KW q] at h
   cases ok _ (KF ..) with
   | @n _ m f l x T =>
    rcases g.kind T with ⟨e1,_⟩ | ⟨a,b,ma,mb,y,z,fa,la,fb,lb,e1,e2,e3,A,B,e4,e5,e6⟩
    ·rw [e1] at h;cases h
    ·rw [e1] at h
     obtain ⟨r1,r2,r3⟩:=zr g c (kE A B ok) h
     refine ⟨?_,r2,?_⟩
     ·rw [<- r1,br,br,br,g7 T,g7 A,g7 B,e4,eC,Lg]
     ·rw [KO,KO] at r3
      rw [KO];lia
end Sk
namespace Sk
open PySem PySem.Spec L2 Sm
theorem gn {h:AH} {W:Nat} {Z:List AV} {v:AV} (e:h[W]? = some (.lst (Z++[v]))):bY (.ref W) [] h = .ok v (h.set W (.lst Z)):=by
 simp [bY,e]
theorem gP (u:Un) (st:List Un):(u::st).reverse.map uv=st.reverse.map uv++[uv u]:=by simp
theorem zt (h:AH):∀ l:List Un,bT (bW 7 h) (l.map uv)=some (l.map ud)
 | []=>rfl
 | u::l=>by
  have e:bW 7 h (uv u)=some (ud u):=by cases u<;>rfl
  rw [Ls,Ls]
  unfold bT
  rw [e,zt h l]
theorem ju {c:SB} {b:SS} {n:Nat} {en:En} {h h2:AH} {v:AV} (e:c en h = .ok true h) (eb:b en h = .rt v h2):bU c b (n+1) en h = .rt v h2:=by
 unfold bU;rw [e];dsimp only;rw [eb]
theorem lT {c:SB} {b:SS} {n:Nat} {en e2:En} {h h2:AH} (e:c en h = .ok true h) (eb:b en h = .nx e2 h2):bU c b (n+1) en h=bU c b n e2 h2:=by
 unfold bU;rw [e];dsimp only;rw [eb];dsimp only
 cases n<;>rfl
theorem jv {c:SB} {b:SS} {n:Nat} {en:En} {h:AH} (e:c en h = .ok false h):bU c b (n+1) en h = .nx en h:=by
 unfold bU;rw [e]
theorem ug {h:AH} {W:Nat} {l:List Un} (e:h[W]? = some (.lst (l.map uv))):fW (.ref W) (.fl []) h=some l.isEmpty:=by
 have t:bW 8 h (.ref W)=some (.list (l.map ud)):=by
  show (match h[W]? with | some (.lst xs)=>(bT (bW 7 h) xs).map PyData.list | _=>none)=_
  rw [e]
  show (bT (bW 7 h) (l.map uv)).map PyData.list=_
  rw [zt];rfl
 show (match bW 8 h (.ref W),bW 8 h (.fl []) with | some d,some e=>some (PyData.eqv d e) | _,_=>none)=_
 rw [t]
 show some (PyData.eqv (.list _) (.list []))=_
 cases l with
 | nil=>simp [PyData.eqv,PyData.eqvAll]
 | cons a b=>simp [PyData.eqv,PyData.eqvAll]
theorem lU {h:AH} {W:Nat} {u:Un} {st:List Un} (e:h[W]? = some (.lst ((u::st).reverse.map uv))):aZ (.ref W) (.fl []) h = .ok (.bl true) h:=by
 show (match fW (.ref W) (.fl []) h with | some b=>Out.ok (AV.bl (!b)) h | none=>Out.bad)=_
 rw [ug e];simp
theorem qk {h:AH} {W:Nat} (e:h[W]? = some (.lst [])):aZ (.ref W) (.fl []) h = .ok (.bl false) h:=by
 show (match fW (.ref W) (.fl []) h with | some b=>Out.ok (AV.bl (!b)) h | none=>Out.bad)=_
 rw [ug (l:=[]) e];rfl
theorem oo {h:AH} {p:Nat} {w:AV} (z:Str):iG [.ref p,w,.str z] h = .ok (.bl false) h:=by
 simp [iG]
theorem uh {h:AH} {p k:Nat} {ps:List Pc} {w:AV} {x:Str} (S:ShelfAt h p ps) (k1:1<=k) (e:ps[k-1]? = some (.leaf x)):iG [.ref p,w,.int k] h = .ok (.bl false) h:=by
 have q:=mJ S k1 e
 have i0:=tK x h
 have eq:=tM h
 simp [iG,S.ob,q,i0,eq,-au,-aC]
theorem ui {h:AH} {p k a b W:Nat} {ps:List Pc} {Z:List AV} (S:ShelfAt h p ps) (k1:1<=k) (e:ps[k-1]? = some (.fork a b)) (hW:p+8<W) (eW:h[W]? = some (.lst Z)) (lz:Z.length<=1000000):iG [.ref p,.ref W,.int k] h = .ok (.bl true) (h.set W (.lst (Z++[.int b]++[.int a]))):=by
 have q:=iI S k1 e
 have i0:=qg a b h
 have eq:=qh h
 have l1:Z.length<sizeLine:=K7 lz (by decide)
 have ap:bV (.ref W) [.int b] h = .ok .non (h.set W (.lst (Z++[.int b]))):=by simp only [bV,eW,l1,Mc]
 obtain ⟨h1,eh1⟩:∃ h1,h1=h.set W (.lst (Z++[.int b])):=⟨_,rfl⟩
 have eW1:h1[W]? = some (.lst (Z++[.int b])):=by rw [eh1];exact KG (bO eW)
 have l2:(Z++[AV.int b]).length<sizeLine:=K7 (m:=1000001) (by simp;omega) (by decide)
 have ap2:bV (.ref W) [.int a] h1 = .ok .non (h1.set W (.lst (Z++[.int b]++[.int a]))):=by simp only [bV,eW1,l2,Mc]
 rw [<- eh1] at ap
 have fin:h1.set W (.lst (Z++[.int b]++[.int a]))=h.set W (.lst (Z++[.int b]++[.int a])):=by rw [eh1,Lq]
 rw [fin] at ap2
 have is1:bq (.ref W) h=true:=by simp [eW]
 have is2:bq (.ref W) h1=true:=by simp [eW1]
 have j1:∀ hh,au (.tup [.str "fork",.int a,.int b]) (.int 1) hh = .ok (.int a) hh:=i1 _ _ _
 have j2:∀ hh,au (.tup [.str "fork",.int a,.int b]) (.int 2) hh = .ok (.int b) hh:=i2 _ _ _
 generalize h.set W (.lst (Z++[.int b]++[.int a]))=HF at *
 simp [iG,S.ob,q,i0,eq,j1,j2,is1,is2,ap,ap2,-au,-aC,-bq,-bV]
theorem eQ {h:AH} {p W:Nat} {ps:List Pc} (S:ShelfAt h p ps) (hW:p+8<W) (o:AO):ShelfAt (h.set W o) p ps:=S.keep fun i _ i8=>KM (by lia)
abbrev CN:SB:=aK (ah aZ (ae 1) (bN ag))
theorem zu {p W:Nat} {ps:List Pc} (g:Good ps) (hW:p+8<W):∀ (c fuel:Nat) (st:List Un) (h:AH) (o:Option AV),ShelfAt h p ps->(∀ u∈st,OkU ps u)->hU ps st<=c->c<fuel->st≠[]->st.length+c<=1000000->h[W]? = some (.lst (st.reverse.map uv)) ->
  bU CN gJ fuel [some (.ref p),some (.ref W),o] h = .rt (.str (aT ps c st).1) (h.set W (.lst ((aT ps c st).2.reverse.map uv)))
 | c,0,st,h,o,S,ok,hc,hf,ne,ls,eW=>absurd hf (Lm _)
 | c,fu+1,[],h,o,S,ok,hc,hf,ne,ls,eW=>absurd rfl ne
 | c,fu+1,.s z::st,h,o,S,ok,hc,hf,ne,ls,eW=>by
  have nn:=lU eW
  rw [gP] at eW
  have po:=gn eW
  have is1:bq (.ref W) h=true:=by simp [eW]
  have e:aT ps c (.s z::st)=(z,st):=by cases c<;>rfl
  rw [e]
  have cn:CN [some (.ref p),some (.ref W),o] h = .ok true h:=by simp [nn,-aZ]
  have eb:gJ [some (.ref p),some (.ref W),o] h = .rt (.str z) (h.set W (.lst (st.reverse.map uv))):=by
   have po':bY (.ref W) [] h = .ok (.str z) (h.set W (.lst (st.reverse.map uv))):=po
   generalize h.set W (.lst (st.reverse.map uv))=h1 at *
   simp [gJ,is1,po',-bY,-bq]
  exact ju cn eb
 | 0,fu+1,.n k::st,h,o,S,ok,hc,hf,ne,ls,eW=>by
  cases ok _ (KF ..) with
  | n T=>rw [du T] at hc;lia
 | c+1,fu+1,.n k::st,h,o,S,ok,hc,hf,ne,ls,eW=>by
  have nn:=lU eW
  rw [gP] at eW
  have po:=gn eW
  have is1:bq (.ref W) h=true:=by simp [eW]
  have po':bY (.ref W) [] h = .ok (.int k) (h.set W (.lst (st.reverse.map uv))):=po
  have cn:CN [some (.ref p),some (.ref W),o] h = .ok true h:=by simp [nn,-aZ]
  have S1:ShelfAt (h.set W (.lst (st.reverse.map uv))) p ps:=eQ S hW _
  have eW1:(h.set W (.lst (st.reverse.map uv)))[W]? = some (.lst (st.reverse.map uv)):=KG (bO eW)
  obtain ⟨h1,eh1⟩:∃ h1,h1=h.set W (.lst (st.reverse.map uv)):=⟨_,rfl⟩
  rw [<- eh1] at po' S1 eW1
  cases ok _ (KF ..) with
  | @n _ m f l x T =>
   rw [du T] at hc
   rw [KO] at ls
   rcases g.kind T with ⟨e1,e2,e3,e4,e5⟩ | ⟨a,b,ma,mb,y,z,fa,la,fb,lb,e1,e2,e3,A,B,e4,e5,e6⟩
   ·have e:aT ps (c+1) (.n k::st)=(x,st):=by unfold aT;rw [e1]
    rw [e]
    have op:=uh (w:=.ref W) S1 T.n1 e1
    have fp:=mJ S1 T.n1 e1
    have eb:gJ [some (.ref p),some (.ref W),o] h = .rt (.str x) h1:=by
     have i1:=tL x h1
     have ob:=S1.ob
     simp [gJ,is1,po',op,ob,fp,i1,-bY,-bq,-au]
    rw [ju cn eb,eh1]
   ·have e:aT ps (c+1) (.n k::st)=aT ps c (.n a :: .n b::st):=by rw [aT,e1]
    rw [e]
    have op:=ui S1 T.n1 e1 hW eW1 (by simp;lia)
    have e3':st.reverse.map uv++[.int b]++[.int a]=(.n a :: .n b::st:List Un).reverse.map uv:=by rw [gP,gP];rfl
    rw [e3'] at op
    have eb:gJ [some (.ref p),some (.ref W),o] h = .nx [some (.ref p),some (.ref W),some (.int k)] (h1.set W (.lst ((.n a :: .n b::st:List Un).reverse.map uv))):=by
     generalize h1.set W (.lst ((.n a :: .n b::st:List Un).reverse.map uv))=h2 at *
     simp [gJ,is1,po',op,-bY,-bq]
    rw [lT cn eb]
    have hh:=congrArg Ms.ht e5
    rw [cw] at hh
    have a0:=A.ky.ht
    have b0:=B.ky.ht
    have r:=zu g hW c fu (.n a :: .n b::st) (h1.set W (.lst ((.n a :: .n b::st:List Un).reverse.map uv))) (some (.int k)) (eQ S1 hW _) (kE A B ok) (by rw [du A];lia) (by lia) (fun z=>by cases z) (by rw [KO,KO];lia) (KG (bO eW1))
    rw [r,eh1,Lq,Lq]
theorem ql {h:AH} {p W:Nat} {ps:List Pc} {st:List Un} (S:ShelfAt h p ps) (g:Good ps) (hW:p+8<W) (ok:∀ u∈st,OkU ps u) (ls:st.length<=900000) (eW:h[W]? = some (.lst (st.reverse.map uv))) :
  jn [.ref p,.ref W] h = .ok (.str (aT ps 90 st).1) (h.set W (.lst ((aT ps 90 st).2.reverse.map uv))):=by
 by_cases q:st=[]
 ·subst q
  have nn:=qk eW
  have e:aT ps 90 []=((Str.ofString "" : Str),([]:List Un)):=rfl
  rw [e]
  have hs:h.set W (.lst (([]:List Un).reverse.map uv))=h:=by
   refine Mn fun i=>?_
   by_cases q:W=i
   ·subst q;rw [KG (bO eW),eW]
   ·exact KM q
  rw [hs]
  have wl:∀ n,bU CN gJ (n+1) [some (.ref p),some (.ref W),none] h = .nx [some (.ref p),some (.ref W),none] h:=fun n=>jv (by simp [nn,-aZ])
  have wl':bU CN gJ cO [some (.ref p),some (.ref W),none] h = .nx [some (.ref p),some (.ref W),none] h:=wl _
  unfold jn
  generalize bU CN gJ cO=WL at *
  simp [wl']
 ·have h82:=eE g ok
  have wl:=zu g hW 90 cO st h none S ok (by lia) (by decide) q (by lia) eW
  unfold jn
  generalize bU CN gJ cO=WL at *
  generalize h.set W (.lst ((aT ps 90 st).2.reverse.map uv))=HF at *
  simp [wl]
end Sk
namespace Sk
open PySem PySem.Spec L2 Sm
theorem dc (j k:Nat) (h:AH):aC (.int j) (.int k) h = .ok (.bl (decide (j=k))) h:=by
 by_cases q:j=k
 ·subst q;simp
 ·have : ¬ (j:Int)=k:=by lia
  simp [q,this]
theorem Ha (z:Str) (k:Nat) (h:AH):aC (.str z) (.int k) h = .ok (.bl false) h:=by
 show (match fW (.str z) (.int k) h with | some b=>Out.ok (AV.bl b) h | none=>Out.bad)=_
 have:fW (.str z) (.int k) h=some false:=by
  show some (PyData.eqv (.str z) (.int k))=_
  simp [PyData.eqv]
 rw [this]
def qm (W:Nat) (h:AH) (r:Option (List Un)) (o:dI):Prop:=match r with
 | some st' => o = .rt (.bl true) (h.set W (.lst (st'.reverse.map uv)))
 | none=>∃ (Z:List AV) (en:En),o = .rt (.bl false) (h.set W (.lst Z))\/o = .nx en (h.set W (.lst Z))
theorem zv {p W k:Nat} {ps:List Pc} (g:Good ps) (hW:p+8<W):∀ (c fuel:Nat) (st:List Un) (h:AH) (o:Option AV),ShelfAt h p ps->(∀ u∈st,OkU ps u)->hU ps st<=c->c<fuel->st.length+c<=1000000->h[W]? = some (.lst (st.reverse.map uv)) ->
  qm W h (bj ps k c st) (bU CN gw fuel [some (.ref p),some (.ref W),some (.int k),o] h)
 | c,0,st,h,o,S,ok,hc,hf,ls,eW=>absurd hf (Lm _)
 | c,fu+1,[],h,o,S,ok,hc,hf,ls,eW=>by
  have nn:=qk eW
  have e:bj ps k c []=none:=by cases c<;>rfl
  rw [e,jv (by simp [nn,-aZ])]
  have hs:h.set W (.lst [])=h:=by
   refine Mn fun i=>?_
   by_cases q:W=i
   ·subst q;rw [KG (bO eW),eW];rfl
   ·exact KM q
  exact ⟨[],_,.inr (by rw [hs])⟩
 | c,fu+1,.s z::st,h,o,S,ok,hc,hf,ls,eW=>by
  have nn:=lU eW
  rw [gP] at eW
  have po:=gn eW
  have is1:bq (.ref W) h=true:=by simp [eW]
  have e:bj ps k c (.s z::st)=none:=by cases c<;>rfl
  rw [e]
  have cn:CN [some (.ref p),some (.ref W),some (.int k),o] h = .ok true h:=by simp [nn,-aZ]
  have eb:gw [some (.ref p),some (.ref W),some (.int k),o] h = .rt (.bl false) (h.set W (.lst (st.reverse.map uv))):=by
   have po':bY (.ref W) [] h = .ok (.str z) (h.set W (.lst (st.reverse.map uv))):=po
   generalize h.set W (.lst (st.reverse.map uv))=h1 at *
   have q:=Ha z k h1
   have op:=oo (h:=h1) (p:=p) (w:=.ref W) z
   simp [gw,is1,po',q,op,-bY,-bq,-aC]
  rw [ju cn eb]
  exact ⟨_,[],.inl rfl⟩
 | 0,fu+1,.n j::st,h,o,S,ok,hc,hf,ls,eW=>by
  cases ok _ (KF ..) with
  | @n _ m f l x T=>rw [du T] at hc;omega
 | c+1,fu+1,.n j::st,h,o,S,ok,hc,hf,ls,eW=>by
  have nn:=lU eW
  rw [gP] at eW
  have po:=gn eW
  have is1:bq (.ref W) h=true:=by simp [eW]
  have po':bY (.ref W) [] h = .ok (.int j) (h.set W (.lst (st.reverse.map uv))):=po
  have cn:CN [some (.ref p),some (.ref W),some (.int k),o] h = .ok true h:=by simp [nn,-aZ]
  have S1:ShelfAt (h.set W (.lst (st.reverse.map uv))) p ps:=eQ S hW _
  have eW1:(h.set W (.lst (st.reverse.map uv)))[W]? = some (.lst (st.reverse.map uv)):=KG (bO eW)
  obtain ⟨h1,eh1⟩:∃ h1,h1=h.set W (.lst (st.reverse.map uv)):=⟨_,rfl⟩
  rw [<- eh1] at po' S1 eW1
  have q0:=dc j k h1
  rw [bj]
  by_cases q:j=k
  ·rw [KS q]
   rw [KQ q] at q0
   have eb:gw [some (.ref p),some (.ref W),some (.int k),o] h = .rt (.bl true) h1:=by
    simp [gw,is1,po',q0,-bY,-bq,-aC]
   rw [ju cn eb,eh1]
   exact rfl
  ·rw [KW q]
   rw [KD q] at q0
   cases ok _ (KF ..) with
   | @n _ m f l x T =>
    rw [du T] at hc
    rw [KO] at ls
    rcases g.kind T with ⟨e1,e2,e3,e4,e5⟩ | ⟨a,b,ma,mb,y,z,fa,la,fb,lb,e1,e2,e3,A,B,e4,e5,e6⟩
    ·have op:=uh (w:=.ref W) S1 T.n1 e1
     have eb:gw [some (.ref p),some (.ref W),some (.int k),o] h = .rt (.bl false) h1:=by
      simp [gw,is1,po',q0,op,-bY,-bq,-aC]
     rw [e1,ju cn eb,eh1]
     exact ⟨_,[],.inl rfl⟩
    ·have op:=ui S1 T.n1 e1 hW eW1 (by simp;omega)
     have e3':st.reverse.map uv++[.int b]++[.int a]=(.n a :: .n b::st:List Un).reverse.map uv:=by rw [gP,gP];rfl
     rw [e3'] at op
     have eb:gw [some (.ref p),some (.ref W),some (.int k),o] h = .nx [some (.ref p),some (.ref W),some (.int k),some (.int j)] (h1.set W (.lst ((.n a :: .n b::st:List Un).reverse.map uv))):=by
      generalize h1.set W (.lst ((.n a :: .n b::st:List Un).reverse.map uv))=h2 at *
      simp [gw,is1,po',q0,op,-bY,-bq,-aC]
     rw [e1,lT cn eb]
     have hh:=congrArg Ms.ht e5
     rw [cw] at hh
     have a0:=A.ky.ht
     have b0:=B.ky.ht
     have r:=zv (k:=k) g hW c fu (.n a :: .n b::st) (h1.set W (.lst ((.n a :: .n b::st:List Un).reverse.map uv))) (some (.int j)) (eQ S1 hW _) (kE A B ok) (by rw [du A];omega) (by omega) (by rw [KO,KO];omega) (KG (bO eW1))
     rw [eh1,Lq] at r ⊢
     show qm W h (bj ps k c (.n a :: .n b::st)) _
     cases ht:bj ps k c (.n a :: .n b::st) with
     | some st' =>
      rw [ht] at r
      have r' := r
      unfold qm at r' ⊢
      rw [r',Lq]
     | none =>
      rw [ht] at r
      obtain ⟨Z,en,r'⟩:=r
      rw [Lq] at r'
      exact ⟨Z,en,r'⟩
theorem Hb {h:AH} {p W k:Nat} {ps:List Pc} {st:List Un} (S:ShelfAt h p ps) (g:Good ps) (hW:p+8<W) (ok:∀ u∈st,OkU ps u) (ls:st.length<=900000) (eW:h[W]? = some (.lst (st.reverse.map uv))) :
  (∃ st',bj ps k 90 st=some st'/\jX [.ref p,.ref W,.int k] h = .ok (.bl true) (h.set W (.lst (st'.reverse.map uv)))) \/
  (bj ps k 90 st=none/\∃ Z,jX [.ref p,.ref W,.int k] h = .ok (.bl false) (h.set W (.lst Z))):=by
 have h82:=eE g ok
 have r:=zv (k:=k) g hW 90 cO st h none S ok (by lia) (by decide) (by lia) eW
 cases ht:bj ps k 90 st with
 | some st' =>
  rw [ht] at r
  unfold qm at r
  dsimp only at r
  refine .inl ⟨st',rfl,?_⟩
  unfold jX
  generalize bU CN gw cO=WL at *
  generalize h.set W (.lst (st'.reverse.map uv))=HF at *
  simp [r]
 | none =>
  rw [ht] at r
  obtain ⟨Z,en,r | r⟩:=r
  ·refine .inr ⟨rfl,Z,?_⟩
   unfold jX
   generalize bU CN gw cO=WL at *
   generalize h.set W (.lst Z)=HF at *
   simp [r]
  ·refine .inr ⟨rfl,Z,?_⟩
   unfold jX
   generalize bU CN gw cO=WL at *
   generalize h.set W (.lst Z)=HF at *
   simp [r]
end Sk
namespace Sk
open PySem PySem.Spec L2 Sm
def bC (z:Str) (st:List Un):List Un:=if z = "" then st else .s z::st
def d1 (ps:List Pc) (st:List Un):List Un:=bC (bF (aT ps 90 st).1 1) (aT ps 90 st).2
def dN (ps:List Pc):Nat->List Un->List Un
 | 0,st=>st
 | m+1,st=>dN ps m (d1 ps st)
theorem uj (ps:List Pc):∀ (a b:Nat) (st:List Un),dN ps (a+b) st=dN ps b (dN ps a st)
 | 0,b,st=>by rw [Nq];rfl
 | a+1,b,st=>by rw [Nat.add_right_comm,dN,dN,uj ps a b]
theorem zaF {z:Str}:z = "" ↔ z.length=0:=by
 constructor
 ·rintro rfl;rfl
 ·intro h
  refine cU ?_
  rw [bB] at h
  rw [MA.mp h];rfl
theorem zw (z:Str) (a b:Nat):bF (bF z a) b=bF z (a+b):=cU (by rw [gO,gO,gO,List.drop_drop])
theorem fJ (ps:List Pc) (c:Nat) (z:Str) (st:List Un):aT ps c (.s z::st)=(z,st):=by cases c<;>rfl
theorem zx (ps:List Pc):∀ (m:Nat) (z:Str) (st:List Un),m<=z.length->dN ps m (bC z st)=bC (bF z m) st
 | 0,z,st,_=>by rw [dN,om]
 | m+1,z,st,h=>by
  have ne : ¬ z = "" := fun q=>by rw [zaF] at q;lia
  have e:bC z st = .s z::st:=KW ne
  rw [dN,d1,e,fJ]
  show dN ps m (bC (bF z 1) st)=_
  rw [zx ps m _ _ (by rw [jt];lia),zw,L3]
theorem zy {ps:List Pc} {st st0:List Un} {z:Str} {m:Nat} (e:aT ps 90 st=(z,st0)) (m1:1<=m) (hm:m<=z.length):dN ps m st=bC (bF z m) st0:=by
 obtain ⟨j,rfl⟩:∃ j,m=j+1:=⟨m-1,by lia⟩
 rw [dN,d1,e]
 show dN ps j (bC (bF z 1) st0)=_
 rw [zx ps j _ _ (by rw [jt];lia),zw,L3]
theorem um (ps:List Pc) (z:Str) (st:List Un):br ps (bC z st)=z.cps.toList++br ps st:=by
 unfold bC
 split
 ·rename_i q;rw [q];rfl
 ·rfl
theorem qo {ps:List Pc} {z:Str} {st:List Un} (hz:z.length<=8) (ok:∀ u∈st,OkU ps u):∀ u∈bC z st,OkU ps u:=by
 unfold bC
 split
 ·exact ok
 ·rename_i q
  intro u hu
  rcases K6.mp hu with rfl | hu
  ·exact .s (by rw [zaF] at q;lia) hz
  ·exact ok u hu
theorem uo (z:Str) (st:List Un):(bC z st).length<=st.length+1:=by
 unfold bC
 split
 ·lia
 ·rw [KO];lia
def dD (ps:List Pc):Nat->Str->List Un->Option (List Un)
 | 0,_,_=>none
 | c+1,w,st=>if w = "" then some st else
   if min (aT ps 90 st).1.length w.length=0 \/ ¬ bP (aT ps 90 st).1 (min (aT ps 90 st).1.length w.length)=bP w (min (aT ps 90 st).1.length w.length) then none else
    dD ps c (bF w (min (aT ps 90 st).1.length w.length)) (bC (bF (aT ps 90 st).1 (min (aT ps 90 st).1.length w.length)) (aT ps 90 st).2)
structure uq (ps:List Pc) (w:Str) (st st':List Un) (c:Nat):Prop where
 rd:br ps st=w.cps.toList++br ps st'
 ok:∀ u∈st',OkU ps u
 ln:st'.length<=st.length+91*c
 dn:st'=dN ps w.length st
theorem oq {ps:List Pc} (g:Good ps):∀ (c:Nat) {w:Str} {st st':List Un},(∀ u∈st,OkU ps u)->dD ps c w st=some st'->uq ps w st st' c
 | 0,w,st,st',_,h=>by cases h
 | c+1,w,st,st',ok,h=>by
  rw [dD] at h
  by_cases q:w = ""
  ·rw [KS q] at h
   cases h
   subst q
   exact ⟨rfl,ok,by lia,rfl⟩
  ·rw [KW q] at h
   have N:=i7 g 90 st ok (by have:=eE g ok;lia)
   obtain ⟨z,st0,e⟩:∃ z st0,aT ps 90 st=(z,st0):=⟨_,_,rfl⟩
   rw [e] at h N
   dsimp only at h
   obtain ⟨m,em⟩:∃ m,m=min z.length w.length:=⟨_,rfl⟩
   rw [<- em] at h
   by_cases q2:m=0 \/ ¬ bP z m=bP w m
   ·rw [KS q2] at h;cases h
   ·rw [KW q2] at h
    have m0 : ¬ m=0:=fun z=>q2 (.inl z)
    have tq:bP z m=bP w m:=Decidable.byContradiction fun z=>q2 (.inr z)
    have sn:st≠[]:=fun z0=>by
     have:=N.z0 z0
     cases this
     have:("" : Str).length=0:=rfl
     lia
    have zb:=N.z1 sn
    dsimp only at zb
    have okp:=qo (z:=bF z m) (st:=st0) (by rw [jt];lia) N.ok
    have r:=oq g c okp h
    have rd:=N.rd
    dsimp only at rd
    have nl:=N.ln
    dsimp only at nl
    have pl:=uo (bF z m) st0
    have ct:∀ v:Str,v.cps.toList=(bP v m).cps.toList++(bF v m).cps.toList:=fun v=>by rw [gj,gO,Mj]
    refine ⟨?_,r.ok,by have:=r.ln;lia,?_⟩
    ·have r1:=r.rd
     rw [um] at r1
     rw [rd,ct z,tq,ct w,Lg,Lg,r1]
    ·rw [r.dn,<- zy e (by lia) (by lia),<- uj,jt]
     congr 1
     lia
theorem Hc {a b c d:List Nat} (e:a++b=c++d) {m:Nat} (h1:m<=a.length) (h2:m<=c.length):a.take m=c.take m/\a.drop m++b=c.drop m++d:=by
 have t:=congrArg (List.take m) e
 rw [LW h1,LW h2] at t
 have u:=congrArg (List.drop m) e
 rw [MN h1,MN h2] at u
 exact ⟨t,u⟩
theorem zA {ps:List Pc} (g:Good ps):∀ (c:Nat) {w:Str} {st:List Un} {r:List Nat},(∀ u∈st,OkU ps u)->br ps st=w.cps.toList++r->w.length<c->∃ st',dD ps c w st=some st'
 | 0,w,st,r,_,_,h=>absurd h (Lm _)
 | c+1,w,st,r,ok,rd,hc=>by
  rw [dD]
  by_cases q:w = ""
  ·rw [KS q];exact ⟨_,rfl⟩
  ·rw [KW q]
   have w1:1<=w.length:=by rw [zaF] at q;lia
   have N:=i7 g 90 st ok (by have:=eE g ok;lia)
   obtain ⟨z,st0,e⟩:∃ z st0,aT ps 90 st=(z,st0):=⟨_,_,rfl⟩
   rw [e] at N ⊢
   dsimp only
   have sn:st≠[]:=fun z0=>by
    rw [z0] at rd
    have:=congrArg List.length rd
    rw [KH,<- bB] at this
    have:(br ps []).length=0:=rfl
    lia
   have zb:=N.z1 sn
   dsimp only at zb
   have rd2:=N.rd
   dsimp only at rd2
   obtain ⟨m,em⟩:∃ m,m=min z.length w.length:=⟨_,rfl⟩
   rw [<- em]
   have lz:=bB z
   have lw:=bB w
   obtain ⟨t1,t2⟩:=Hc (rd2.symm.trans rd) (m:=m) (by lia) (by lia)
   have tq:bP z m=bP w m:=cU t1
   rw [KW (by
    rintro (z0 | z0)
    ·lia
    ·exact z0 tq)]
   refine zA g c (r:=r) (qo (by rw [jt];lia) N.ok) ?_ (by rw [jt];lia)
   rw [um,gO,gO]
   exact t2
theorem ur {ps:List Pc} (g:Good ps) {c:Nat} {w:Str} {st:List Un} {r:List Nat} (ok:∀ u∈st,OkU ps u) (rd:br ps st=w.cps.toList++r) (hc:w.length<c):dD ps c w st=some (dN ps w.length st):=by
 obtain ⟨st',e⟩:=zA g c ok rd hc
 rw [e,(oq g c ok e).dn]
end Sk
namespace Sk
open PySem PySem.Spec L2 Sm
theorem lV {h:AH} {W:Nat} {o:AO} (e:h[W]? = some o):h.set W o=h:=by
 refine Mn fun i=>?_
 by_cases q:W=i
 ·subst q;rw [KG (bO e),e]
 ·exact KM q
theorem uw {h:AH} {W:Nat} {st:List Un} (z:Str) (eW:h[W]? = some (.lst (st.reverse.map uv))) (ls:st.length<=1000000):lG [.ref W,.str z] h = .ok .non (h.set W (.lst ((bC z st).reverse.map uv))):=by
 unfold bC
 by_cases q:z = ""
 ·rw [KS q,lV eW]
  have ne:aZ (.str z) (.str "") h = .ok (.bl false) h:=by rw [q];simp
  simp [lG,ne,-aZ]
 ·rw [KW q,gP]
  have ne:aZ (.str z) (.str "") h = .ok (.bl true) h:=by simp [q]
  have l1:(st.reverse.map uv).length<sizeLine:=K7 (m:=1000000) (by simpa using ls) (by decide)
  have ap:bV (.ref W) [.str z] h = .ok .non (h.set W (.lst (st.reverse.map uv++[.str z]))):=by simp only [bV,eW,l1,Mc]
  have is1:bq (.ref W) h=true:=by simp [eW]
  show _=Out.ok AV.non (h.set W (.lst (st.reverse.map uv++[.str z])))
  generalize h.set W (.lst (st.reverse.map uv++[.str z]))=HF at *
  simp [lG,ne,is1,ap,-aZ,-bq,-bV]
abbrev CP:SB:=aK (ah aZ (ae 3) (af (.str "")))
def Hd (W:Nat) (h:AH) (p:Nat) (w0:Str) (r:Option (List Un)) (o:dI):Prop:=match r with
 | some st' => ∃ o3 o4 o5,o = .nx [some (.ref p),some (.ref W),some (.str w0),o3,o4,o5] (h.set W (.lst (st'.reverse.map uv)))
 | none=>∃ Z,o = .rt (.bl false) (h.set W (.lst Z))
theorem zB {p W:Nat} {ps:List Pc} (g:Good ps) (hW:p+8<W) (w0:Str):∀ (c fuel:Nat) (w:Str) (st:List Un) (h:AH) (o4 o5:Option AV),ShelfAt h p ps->(∀ u∈st,OkU ps u)->w.length<c->c<=fuel->st.length+91*c<=900000->h[W]? = some (.lst (st.reverse.map uv)) ->
  Hd W h p w0 (dD ps c w st) (bU CP gK fuel [some (.ref p),some (.ref W),some (.str w0),some (.str w),o4,o5] h)
 | 0,fuel,w,st,h,o4,o5,S,ok,hc,hf,ls,eW=>absurd hc (Lm _)
 | c+1,0,w,st,h,o4,o5,S,ok,hc,hf,ls,eW=>by lia
 | c+1,fu+1,w,st,h,o4,o5,S,ok,hc,hf,ls,eW=>by
  rw [dD]
  by_cases q:w = ""
  ·have ne:aZ (.str w) (.str "") h = .ok (.bl false) h:=by rw [q];simp
   rw [KS q,jv (by simp [ne,-aZ])]
   exact ⟨_,_,_,by rw [lV eW]⟩
  ·have ne:aZ (.str w) (.str "") h = .ok (.bl true) h:=by simp [q]
   have cn:CP [some (.ref p),some (.ref W),some (.str w0),some (.str w),o4,o5] h = .ok true h:=by simp [ne,-aZ]
   rw [KW q]
   have w1:1<=w.length:=by rw [zaF] at q;lia
   have N:=i7 g 90 st ok (by have:=eE g ok;lia)
   have fn:=ql S g hW ok (by lia) eW
   obtain ⟨z,st0,e⟩:∃ z st0,aT ps 90 st=(z,st0):=⟨_,_,rfl⟩
   rw [e] at N fn ⊢
   dsimp only at fn ⊢
   have nl:=N.ln
   dsimp only at nl
   obtain ⟨m,em⟩:∃ m,m=min z.length w.length:=⟨_,rfl⟩
   rw [<- em]
   have S1:ShelfAt (h.set W (.lst (st0.reverse.map uv))) p ps:=eQ S hW _
   have eW1:(h.set W (.lst (st0.reverse.map uv)))[W]? = some (.lst (st0.reverse.map uv)):=KG (bO eW)
   obtain ⟨h1,eh1⟩:∃ h1,h1=h.set W (.lst (st0.reverse.map uv)):=⟨_,rfl⟩
   rw [<- eh1] at fn S1 eW1
   have l1:ax [.str z] h1 = .ok (.int z.length) h1:=rfl
   have l2:ax [.str w] h1 = .ok (.int w.length) h1:=rfl
   have mn:fX [.int z.length,.int w.length] h1 = .ok (.int m) h1:=by
    have:fX [.int z.length,.int w.length] h1 = .ok (.int (if (w.length:Int)<z.length then (w.length:Int) else z.length)) h1:=rfl
    rw [this]
    by_cases q:w.length<z.length
    ·rw [KS (by lia)];congr 2;lia
    ·rw [KW (by lia)];congr 2;lia
   have eq0:=dc m 0 h1
   have eq0':aC (.int m) (.int 0) h1 = .ok (.bl (decide (m=0))) h1:=eq0
   have c1:=lS (x:=z) (a:=m) h1
   have c2:=lS (x:=w) (a:=m) h1
   have c3:∀ hh,bI (.str z) (some (m:Int)) none hh = .ok (.str (bF z m)) hh:=mK (by lia)
   have c4:∀ hh,bI (.str w) (some (m:Int)) none hh = .ok (.str (bF w m)) hh:=mK (by lia)
   by_cases q1:m=0
   ·rw [KS (.inl q1)]
    rw [KQ q1] at eq0'
    have eb:gK [some (.ref p),some (.ref W),some (.str w0),some (.str w),o4,o5] h = .rt (.bl false) h1:=by
     generalize (z.length:Int)=ZL at *
     generalize (w.length:Int)=WL at *
     generalize (m:Int)=MM at *
     simp [gK,fn,l1,l2,mn,eq0',-ax,-fX,-aC]
    rw [ju cn eb,eh1]
    exact ⟨_,rfl⟩
   ·rw [KD q1] at eq0'
    by_cases q2:bP z m=bP w m
    ·rw [KW (by rintro (a | a);exact q1 a;exact a q2)]
     have n2:aZ (.str (bP z m)) (.str (bP w m)) h1 = .ok (.bl false) h1:=by rw [q2];simp
     have pb:=uw (bF z m) eW1 (by lia)
     have sn:st≠[]:=fun z0=>by
      have:=N.z0 z0
      cases this
      have:("" : Str).length=0:=rfl
      lia
     have zb:=N.z1 sn
     dsimp only at zb
     have pl:=uo (bF z m) st0
     obtain ⟨h2,eh2⟩:∃ h2,h2=h1.set W (.lst ((bC (bF z m) st0).reverse.map uv)):=⟨_,rfl⟩
     have S2:ShelfAt h2 p ps:=by rw [eh2];exact eQ S1 hW _
     have eW2:h2[W]? = some (.lst ((bC (bF z m) st0).reverse.map uv)):=by rw [eh2];exact KG (bO eW1)
     rw [<- eh2] at pb
     have eb:gK [some (.ref p),some (.ref W),some (.str w0),some (.str w),o4,o5] h = .nx [some (.ref p),some (.ref W),some (.str w0),some (.str (bF w m)),some (.str z),some (.int m)] h2:=by
      generalize (z.length:Int)=ZL at *
      generalize (w.length:Int)=WL at *
      generalize (m:Int)=MM at *
      simp [gK,fn,l1,l2,mn,eq0',c1,c2,c3,c4,n2,pb,-ax,-fX,-aC,-aZ,-bI]
     rw [lT cn eb]
     have r:=zB g hW w0 c fu (bF w m) (bC (bF z m) st0) h2 (some (.str z)) (some (.int m)) S2 (qo (by rw [jt];lia) N.ok) (by rw [jt];lia) (by lia) (by lia) eW2
     cases ht:dD ps c (bF w m) (bC (bF z m) st0) with
     | some st' =>
      rw [ht] at r
      obtain ⟨a,b,d,r⟩:=r
      exact ⟨a,b,d,by rw [r,eh2,eh1,Lq,Lq]⟩
     | none =>
      rw [ht] at r
      obtain ⟨Z,r⟩:=r
      exact ⟨Z,by rw [r,eh2,eh1,Lq,Lq]⟩
    ·rw [KS (.inr q2)]
     have n2:aZ (.str (bP z m)) (.str (bP w m)) h1 = .ok (.bl true) h1:=by simp [q2]
     have eb:gK [some (.ref p),some (.ref W),some (.str w0),some (.str w),o4,o5] h = .rt (.bl false) h1:=by
      generalize (z.length:Int)=ZL at *
      generalize (w.length:Int)=WL at *
      generalize (m:Int)=MM at *
      simp [gK,fn,l1,l2,mn,eq0',c1,c2,n2,-ax,-fX,-aC,-aZ,-bI]
     rw [ju cn eb,eh1]
     exact ⟨_,rfl⟩
theorem He {h:AH} {p W:Nat} {ps:List Pc} {st:List Un} {w:Str} (S:ShelfAt h p ps) (g:Good ps) (hW:p+8<W) (ok:∀ u∈st,OkU ps u) (ls:st.length<=890000) (hw:w.length<=8) (eW:h[W]? = some (.lst (st.reverse.map uv))) :
  (∃ st',dD ps 10 w st=some st'/\ku [.ref p,.ref W,.str w] h = .ok (.bl true) (h.set W (.lst (st'.reverse.map uv)))) \/
  (dD ps 10 w st=none/\∃ Z,ku [.ref p,.ref W,.str w] h = .ok (.bl false) (h.set W (.lst Z))):=by
 have r:=zB g hW w 10 cO w st h none none S ok (by lia) (by decide) (by lia) eW
 cases ht:dD ps 10 w st with
 | some st' =>
  rw [ht] at r
  obtain ⟨a,b,d,r⟩:=r
  refine .inl ⟨st',rfl,?_⟩
  unfold ku
  generalize bU CP gK cO=WL at *
  generalize h.set W (.lst (st'.reverse.map uv))=HF at *
  simp [r]
 | none =>
  rw [ht] at r
  obtain ⟨Z,r⟩:=r
  refine .inr ⟨rfl,Z,?_⟩
  unfold ku
  generalize bU CP gK cO=WL at *
  generalize h.set W (.lst Z)=HF at *
  simp [r]
end Sk
namespace Sk
open PySem PySem.Spec L2 Sm
inductive OkI (ps:List Pc):Un->Prop
 | n {k:Nat} {m f l:Ms} {x:Str} (T:Tx ps k m x f l):OkI ps (.n k)
 | s {z:Str} (a:dP z=true):OkI ps (.s z)
def dH (ps:List Pc):Un->List Un->Option (List Un)
 | .n k,st=>bj ps k 90 st
 | .s w,st=>dD ps 10 w st
def bf (ps:List Pc):List Un->List Un->Option (List Un)
 | [],st=>some st
 | i::r,st=>(dH ps i st).bind (bf ps r)
theorem ux (ps:List Pc):∀ (a b:List Un) (st:List Un),bf ps (a++b) st=(bf ps a st).bind (bf ps b)
 | [],b,st=>rfl
 | i::a,b,st=>by
  rw [LQ,bf,bf]
  cases dH ps i st with
  | none=>rfl
  | some s=>exact ux ps a b s
theorem mL {ps:List Pc} (g:Good ps) {i:Un} {st st':List Un} (ok:∀ u∈st,OkU ps u) (e:dH ps i st=some st'):br ps st=iJ ps i++br ps st'/\(∀ u∈st',OkU ps u)/\st'.length<=st.length+1000:=by
 cases i with
 | n k =>
  obtain ⟨a,b,c⟩:=zr g 90 ok e
  exact ⟨a,b,by lia⟩
 | s w =>
  have r:=oq g 10 ok e
  exact ⟨r.rd,r.ok,by have:=r.ln;lia⟩
theorem lW {ps:List Pc} (g:Good ps):∀ (its:List Un) {st st':List Un},(∀ u∈st,OkU ps u)->bf ps its st=some st'->br ps st=br ps its++br ps st'/\(∀ u∈st',OkU ps u)
 | [],st,st',ok,e=>by cases e;exact ⟨rfl,ok⟩
 | i::its,st,st',ok,e=>by
  rw [bf] at e
  obtain ⟨s1,e1,e2⟩:=Mz.mp e
  obtain ⟨a,b,_⟩:=mL g ok e1
  obtain ⟨c,d⟩:=lW g its b e2
  exact ⟨by rw [a,c,br,Lg],d⟩
theorem zC {h:AH} {p W:Nat} {ps:List Pc} {st:List Un} {i:Un} (S:ShelfAt h p ps) (g:Good ps) (hW:p+8<W) (ok:∀ u∈st,OkU ps u) (oi:OkI ps i) (ls:st.length<=890000) (eW:h[W]? = some (.lst (st.reverse.map uv))) :
  (∃ st',dH ps i st=some st'/\fO [.ref p,.ref W,uv i] h = .ok (.bl true) (h.set W (.lst (st'.reverse.map uv)))) \/
  (dH ps i st=none/\∃ Z,fO [.ref p,.ref W,uv i] h = .ok (.bl false) (h.set W (.lst Z))):=by
 have ob:=S.ob
 cases oi with
 | @n k m f l x T =>
  have hp:gc [.ref p,.int k] h = .ok (.bl true) h:=by
   rw [p9 S]
   have:=T.n1
   have:=T.le
   rw [KQ (by lia)]
  show (∃ st',bj ps k 90 st=some st'/\fO [.ref p,.ref W,.int k] h=_)\/(bj ps k 90 st=none/\∃ Z,fO [.ref p,.ref W,.int k] h=_)
  rcases Hb (k:=k) S g hW ok (by lia) eW with ⟨st',a,b⟩ | ⟨a,Z,b⟩
  ·refine .inl ⟨st',a,?_⟩
   generalize h.set W (.lst (st'.reverse.map uv))=HF at *
   simp [fO,ob,hp,b]
  ·refine .inr ⟨a,Z,?_⟩
   generalize h.set W (.lst Z)=HF at *
   simp [fO,ob,hp,b]
 | @s w a =>
  obtain ⟨w1,w8,_⟩:=fS a
  have hp:gc [.ref p,.str w] h = .ok (.bl false) h:=by
   simp [gc,iS,ob]
  have sh:ik [.str w] h = .ok (.bl true) h:=by rw [nY w h (KN w8 (by decide)),a]
  show (∃ st',dD ps 10 w st=some st'/\fO [.ref p,.ref W,.str w] h=_)\/(dD ps 10 w st=none/\∃ Z,fO [.ref p,.ref W,.str w] h=_)
  rcases He (w:=w) S g hW ok ls w8 eW with ⟨st',a,b⟩ | ⟨a,Z,b⟩
  ·refine .inl ⟨st',a,?_⟩
   generalize h.set W (.lst (st'.reverse.map uv))=HF at *
   simp [fO,ob,hp,sh,b]
  ·refine .inr ⟨a,Z,?_⟩
   generalize h.set W (.lst Z)=HF at *
   simp [fO,ob,hp,sh,b]
inductive SrcI (h:AH) (its:List Un):AV->Option Nat->Prop
 | ref {B:Nat} (e:h[B]? = some (.lst (its.map uv))):SrcI h its (.ref B) (some B)
 | fl:SrcI h its (.fl (its.map uv)) none
theorem SrcI.live {h:AH} {its:List Un} {v:AV} {w:Option Nat} (s:SrcI h its v w) {hh:AH} (k:∀ i,i<h.length->hh[i]? = h[i]?):fM w (its.map uv) hh=true:=by
 cases s with
 | ref e=>simp [k _ (bO e),e]
 | fl=>rfl
theorem SrcI.mono {h hh:AH} {its:List Un} {v:AV} {w:Option Nat} (s:SrcI h its v w) (k:∀ i,i<h.length->hh[i]? = h[i]?):SrcI hh its v w:=by
 cases s with
 | ref e=>exact .ref ((k _ (bO e)).trans e)
 | fl=>exact .fl
def Bd (ps:List Pc) (H:Nat):List Un->Prop
 | []=>True
 | u::r=>r.length+hU ps (u::r)<=H/\Bd ps H r
theorem Bd.len {ps:List Pc} {H:Nat} {st:List Un} (b:Bd ps H st):st.length<=H+1:=by
 cases st with
 | nil=>exact Lc _
 | cons u r =>
  have:=b.1
  rw [KO];lia
theorem uy {ps:List Pc} {H j a b:Nat} {m ma mb f l fa la fb lb:Ms} {x y z:Str} {r:List Un} (T:Tx ps j m x f l) (A:Tx ps a ma y fa la) (B:Tx ps b mb z fb lb) (e5:m=iZ ma mb) (h:Bd ps H (.n j::r)):Bd ps H (.n a :: .n b::r):=by
 have h1:=h.1
 rw [du T] at h1
 have hh:=congrArg Ms.ht e5
 rw [cw] at hh
 have a0:=A.ky.ht
 have b0:=B.ky.ht
 refine ⟨?_,?_,h.2⟩
 ·rw [du A,KO];omega
 ·rw [du B];omega
theorem zE {ps:List Pc} (g:Good ps) {H:Nat}:∀ (c:Nat) (st:List Un),(∀ u∈st,OkU ps u)->hU ps st<=c->Bd ps H st->Bd ps H (aT ps c st).2/\(aT ps c st).2.length<=H
 | c,[],ok,_,b=>by
  have e:aT ps c []=((Str.ofString "" : Str),([]:List Un)):=by cases c<;>rfl
  rw [e];exact ⟨trivial,Lc _⟩
 | c,.s z::st,ok,_,b=>by
  rw [fJ]
  have:=b.1
  exact ⟨b.2,by show st.length<=H;lia⟩
 | 0,.n k::st,ok,h,b=>by
  cases ok _ (KF ..) with
  | @n _ m f l x T=>rw [du T] at h;lia
 | c+1,.n k::st,ok,h,b=>by
  cases ok _ (KF ..) with
  | @n _ m f l x T =>
   have h' := h
   rw [du T] at h'
   rcases g.kind T with ⟨e1,e2,e3,e4,e5⟩ | ⟨a,d,ma,mb,y,z,fa,la,fb,lb,e1,e2,e3,A,B,e4,e5,e6⟩
   ·have e:aT ps (c+1) (.n k::st)=(x,st):=by unfold aT;rw [e1]
    rw [e]
    have:=b.1
    exact ⟨b.2,by show st.length<=H;lia⟩
   ·have e:aT ps (c+1) (.n k::st)=aT ps c (.n a :: .n d::st):=by rw [aT,e1]
    rw [e]
    have hh:=congrArg Ms.ht e5
    rw [cw] at hh
    have a0:=A.ky.ht
    have b0:=B.ky.ht
    exact zE g c (.n a :: .n d::st) (kE A B ok) (by rw [du A];lia) (uy T A B e5 b)
theorem zF {ps:List Pc} (g:Good ps) {H k:Nat}:∀ (c:Nat) {st st':List Un},(∀ u∈st,OkU ps u)->bj ps k c st=some st'->Bd ps H st->Bd ps H st'
 | 0,[],st',_,h,_=>by cases h
 | 0,.s _::_,st',_,h,_=>by cases h
 | 0,.n _::_,st',_,h,_=>by cases h
 | c+1,[],st',_,h,_=>by cases h
 | c+1,.s _::_,st',_,h,_=>by cases h
 | c+1,.n j::st,st',ok,h,b=>by
  rw [bj] at h
  by_cases q:j=k
  ·rw [KS q] at h
   cases h
   exact b.2
  ·rw [KW q] at h
   cases ok _ (KF ..) with
   | @n _ m f l x T =>
    rcases g.kind T with ⟨e1,_⟩ | ⟨a,d,ma,mb,y,z,fa,la,fb,lb,e1,e2,e3,A,B,e4,e5,e6⟩
    ·rw [e1] at h;cases h
    ·rw [e1] at h
     exact zF g c (kE A B ok) h (uy T A B e5 b)
theorem Hf {ps:List Pc} {H:Nat} {z:Str} {st:List Un} (b:Bd ps H st) (h:st.length<=H):Bd ps H (bC z st):=by
 unfold bC
 split
 ·exact b
 ·exact ⟨h,b⟩
theorem zG {ps:List Pc} (g:Good ps) {H:Nat}:∀ (c:Nat) {w:Str} {st st':List Un},(∀ u∈st,OkU ps u)->dD ps c w st=some st'->Bd ps H st->Bd ps H st'
 | 0,w,st,st',_,h,_=>by cases h
 | c+1,w,st,st',ok,h,b=>by
  rw [dD] at h
  by_cases q:w = ""
  ·rw [KS q] at h
   cases h
   exact b
  ·rw [KW q] at h
   have N:=i7 g 90 st ok (by have:=eE g ok;lia)
   have M:=zE (H:=H) g 90 st ok (by have:=eE g ok;lia) b
   obtain ⟨z,st0,e⟩:∃ z st0,aT ps 90 st=(z,st0):=⟨_,_,rfl⟩
   rw [e] at h N M
   dsimp only at h M
   obtain ⟨m,em⟩:∃ m,m=min z.length w.length:=⟨_,rfl⟩
   rw [<- em] at h
   by_cases q2:m=0 \/ ¬ bP z m=bP w m
   ·rw [KS q2] at h;cases h
   ·rw [KW q2] at h
    have m0 : ¬ m=0:=fun z=>q2 (.inl z)
    have sn:st≠[]:=fun z0=>by
     have:=N.z0 z0
     cases this
     have:("" : Str).length=0:=rfl
     lia
    have zb:=N.z1 sn
    dsimp only at zb
    exact zG g c (qo (by rw [jt];lia) N.ok) h (Hf M.1 M.2)
theorem uz {ps:List Pc} (g:Good ps) {H:Nat} {i:Un} {st st':List Un} (ok:∀ u∈st,OkU ps u) (e:dH ps i st=some st') (b:Bd ps H st):Bd ps H st' := by
 cases i with
 | n k=>exact zF g 90 ok e b
 | s w=>exact zG g 10 ok e b
def uA (W:Nat) (hh:AH) (e0:Option AV->En) (r:Option (List Un)) (o:dI):Prop:=match r with
 | some st' => ∃ o4,o = .nx (e0 o4) (hh.set W (.lst (st'.reverse.map uv)))
 | none=>∃ Z,o = .rt .non (hh.set W (.lst Z))
theorem zH {h:AH} {p t:Nat} {ps:List Pc} {all:List Un} {v:AV} {w:Option Nat} (S:ShelfAt h p ps) (g:Good ps) (sr:SrcI h all v w) (hW:p+8<h.length):∀ (its:List Un) (st:List Un) (hh:AH) (o4:Option AV),(∀ i∈its,OkI ps i)->(∀ u∈st,OkU ps u)->Bd ps 83 st->ShelfAt hh p ps ->
  (∀ i,i<h.length->hh[i]? = h[i]?)->hh[h.length]? = some (.lst (st.reverse.map uv)) ->
  uA h.length hh (fun o=>[some (.ref p),some (.int t),some v,some (.ref h.length),o]) (bf ps its st) (cH w (all.map uv) (.nm 4) de (its.map uv) [some (.ref p),some (.int t),some v,some (.ref h.length),o4] hh)
 | [],st,hh,o4,oi,ok,bd,S',k,eW=>by
  unfold cH
  rw [Np]
  dsimp only
  rw [KS (sr.live k)]
  exact ⟨o4,by rw [lV eW]⟩
 | i::its,st,hh,o4,oi,ok,bd,S',k,eW=>by
  have bl:=bd.len
  rw [Ls]
  unfold cH
  rw [KS (sr.live k)]
  have st1:dB (.nm 4) (uv i) [some (.ref p),some (.int t),some v,some (.ref h.length),o4]=some [some (.ref p),some (.int t),some v,some (.ref h.length),some (uv i)]:=rfl
  rw [st1]
  dsimp only
  rw [bf]
  rcases zC S' g hW ok (oi i (KF ..)) (by lia) eW with ⟨st',a,e⟩ | ⟨a,Z,e⟩
  ·rw [a]
   show uA h.length hh _ (bf ps its st') _
   have eb:de [some (.ref p),some (.int t),some v,some (.ref h.length),some (uv i)] hh = .nx [some (.ref p),some (.int t),some v,some (.ref h.length),some (uv i)] (hh.set h.length (.lst (st'.reverse.map uv))):=by
    generalize hh.set h.length (.lst (st'.reverse.map uv))=HF at *
    generalize uv i=I at *
    simp [de,e]
   rw [eb]
   dsimp only
   have r:=zH (t:=t) S g sr hW its st' (hh.set h.length (.lst (st'.reverse.map uv))) (some (uv i)) (fun j hj=>oi j (KJ _ hj)) (mL g ok a).2.1 (uz g ok a bd) (eQ S' hW _) (fun j hj=>by rw [KM (by lia)];exact k j hj) (KG (bO eW))
   cases ht:bf ps its st' with
   | some s2 =>
    rw [ht] at r
    obtain ⟨o,r⟩:=r
    exact ⟨o,by rw [r,Lq]⟩
   | none =>
    rw [ht] at r
    obtain ⟨Z,r⟩:=r
    exact ⟨Z,by rw [r,Lq]⟩
  ·rw [a]
   show uA h.length hh _ none _
   have eb:de [some (.ref p),some (.int t),some v,some (.ref h.length),some (uv i)] hh = .rt .non (hh.set h.length (.lst Z)):=by
    generalize hh.set h.length (.lst Z)=HF at *
    generalize uv i=I at *
    simp [de,e]
   rw [eb]
   exact ⟨Z,rfl⟩
theorem Hg {h:AH} {p t:Nat} {ps:List Pc} {its:List Un} {v:AV} {w:Option Nat} {m f l:Ms} {x:Str} (S:ShelfAt h p ps) (g:Good ps) (T:Tx ps t m x f l) (sr:SrcI h its v w) (oi:∀ i∈its,OkI ps i) :
  (∃ st',bf ps its [.n t]=some st'/\gW [.ref p,.int t,v] h = .ok (.ref h.length) (h++[.lst (st'.reverse.map uv)])) \/
  (bf ps its [.n t]=none/\∃ Z,gW [.ref p,.int t,v] h = .ok .non (h++[.lst Z])):=by
 have hW:p+8<h.length:=bO S.h8
 have t1:=T.n1
 have t0:aC (.int t) (.int 0) h = .ok (.bl false) h:=by
  have:=dc t 0 h
  rw [KD (by lia)] at this
  exact this
 have ck:ij [.ref p,.int t] h = .ok .non h:=kB S (by have:=T.le;lia)
 have wl:iE [.ref p,.int t] h = .ok (.ref h.length) (h++[.lst [.int t]]):=by
  simp [iE,S.ob,ck,t0,-aC]
 have ok0:∀ u∈([.n t]:List Un),OkU ps u:=fun u hu=>by rw [LH] at hu;subst hu;exact .n T
 have qr:Bd ps 83 [.n t]:=⟨by have:=eE g ok0;show 0+_<=_;lia,trivial⟩
 have kk:∀ i,i<h.length->(h++[AO.lst [.int t]])[i]? = h[i]? := fun i hi=>KA hi
 have eW:(h++[AO.lst [.int t]])[h.length]? = some (.lst (([.n t]:List Un).reverse.map uv)):=by simp
 have r:=zH (t:=t) S g sr hW its [.n t] (h++[.lst [.int t]]) none oi ok0 qr (S.app _) kk eW
 have it:bc (ae 2) [some (.ref p),some (.int t),some v,some (.ref h.length),none] (h++[.lst [.int t]]) = .ok (its.map uv,w) (h++[.lst [.int t]]):=by
  have sr' := sr.mono kk
  cases sr' with
  | ref e=>simp [e]
  | fl =>
   generalize its.map uv=Q at *
   simp
 have fo:=gz (t:=.nm 4) (b:=de) it
 cases ht:bf ps its [.n t] with
 | some st' =>
  rw [ht] at r
  obtain ⟨o,r⟩:=r
  refine .inl ⟨st',rfl,?_⟩
  have fo' := fo.trans r
  have es:(h++[AO.lst [.int t]]).set h.length (.lst (st'.reverse.map uv))=h++[.lst (st'.reverse.map uv)]:=by simp
  rw [es] at fo'
  unfold gW
  generalize bp (bc (ae 2)) (.nm 4) de=FF at *
  generalize h++[.lst (st'.reverse.map uv)]=HF at *
  simp [wl,fo']
 | none =>
  rw [ht] at r
  obtain ⟨Z,r⟩:=r
  refine .inr ⟨rfl,Z,?_⟩
  have fo' := fo.trans r
  have es:(h++[AO.lst [.int t]]).set h.length (.lst Z)=h++[.lst Z]:=by simp
  rw [es] at fo'
  unfold gW
  generalize bp (bc (ae 2)) (.nm 4) de=FF at *
  generalize h++[.lst Z]=HF at *
  simp [wl,fo']
end Sk
namespace Sk
open PySem PySem.Spec L2 Sm
def sg1 (ps:List Pc) (st:List Un):Str:=bP (aT ps 90 st).1 1
theorem Hh {h:AH} {p W:Nat} {ps:List Pc} {st:List Un} (S:ShelfAt h p ps) (g:Good ps) (hW:p+8<W) (ok:∀ u∈st,OkU ps u) (ls:st.length<=900000) (eW:h[W]? = some (.lst (st.reverse.map uv))) :
  jW [.ref p,.ref W] h = .ok (.str (sg1 ps st)) (h.set W (.lst ((aT ps 90 st).2.reverse.map uv))):=by
 have fn:=ql S g hW ok ls eW
 have ct:∀ hh,bI (.str (aT ps 90 st).1) none (some 1) hh = .ok (.str (sg1 ps st)) hh:=fun hh=>lS (x:=(aT ps 90 st).1) (a:=1) hh
 generalize sg1 ps st=SG at *
 generalize (aT ps 90 st).1=Z at *
 generalize h.set W (.lst ((aT ps 90 st).2.reverse.map uv))=HF at *
 simp [jW,fn,ct,-bI]
theorem zI {h:AH} {W:Nat} {st:List Un} (e:h[W]? = some (.lst (st.reverse.map uv))):aC (.ref W) (.fl []) h = .ok (.bl (decide (st=[]))) h:=by
 show (match fW (.ref W) (.fl []) h with | some b=>Out.ok (AV.bl b) h | none=>Out.bad)=_
 rw [ug e]
 cases st with
 | nil=>rfl
 | cons a b=>simp
theorem Hi (W:Nat) (h:AH):bg (.ref W) .non h = .ok (.bl false) h:=by
 simp only [bg]
 rw [KD (fun z=>by cases z)]
theorem mM (h:AH):bg .non .non h = .ok (.bl true) h:=by
 simp [bg]
def Kw (ps:List Pc) (its:List Un) (a b:Nat) (c d:Str):Prop:=∃ s1 s2,bf ps its [.n a]=some s1/\bf ps its [.n b]=some s2/\c=sg1 ps s1/\d=sg1 ps s2 /\ ¬ c=d
theorem zJ (a b c d:Str) (h:AH):aC (.tup [.str a,.str b]) (.tup [.str c,.str d]) h = .ok (.bl (decide (a=c/\b=d))) h:=by
 by_cases q:a=c
 ·by_cases r:b=d
  ·simp [bW,bT,PyData.eqv,PyData.eqvAll,q,r]
  ·simp [bW,bT,PyData.eqv,PyData.eqvAll,q,r]
 ·simp [bW,bT,PyData.eqv,PyData.eqvAll,q]
theorem uB {ps:List Pc} {t:Nat} {m f l:Ms} {x:Str} (T:Tx ps t m x f l):∀ u∈([.n t]:List Un),OkU ps u:=fun u hu=>by rw [LH] at hu;subst hu;exact .n T
theorem qp {ps:List Pc} (g:Good ps) {H:Nat}:∀ (its:List Un) {st st':List Un},(∀ u∈st,OkU ps u)->bf ps its st=some st'->Bd ps H st->Bd ps H st'
 | [],st,st',ok,e,b=>by cases e;exact b
 | i::its,st,st',ok,e,b=>by
  rw [bf] at e
  obtain ⟨s1,e1,e2⟩:=Mz.mp e
  exact qp g its (mL g ok e1).2.1 e2 (uz g ok e1 b)
theorem qr {ps:List Pc} (g:Good ps) {t:Nat} {m f l:Ms} {x:Str} (T:Tx ps t m x f l):Bd ps 83 [.n t]:=⟨by have:=eE g (uB T);show 0+_<=_;lia,trivial⟩
end Sk
namespace Sk
open PySem PySem.Spec L2 Sm
theorem uC {ps:List Pc} (g:Good ps):∀ (c d:Nat) (st:List Un),(∀ u∈st,OkU ps u)->hU ps st<=c->hU ps st<=d->aT ps c st=aT ps d st
 | c,d,[],_,_,_=>by cases c<;>cases d<;>rfl
 | c,d,.s z::st,_,_,_=>by rw [fJ,fJ]
 | 0,d,.n k::st,ok,h,_=>by
  cases ok _ (KF ..) with
  | @n _ m f l x T=>rw [du T] at h;lia
 | c+1,0,.n k::st,ok,_,h=>by
  cases ok _ (KF ..) with
  | @n _ m f l x T=>rw [du T] at h;lia
 | c+1,d+1,.n k::st,ok,h1,h2=>by
  cases ok _ (KF ..) with
  | @n _ m f l x T =>
   rw [du T] at h1 h2
   rcases g.kind T with ⟨e1,e2,e3,e4,e5⟩ | ⟨a,b,ma,mb,y,z,fa,la,fb,lb,e1,e2,e3,A,B,e4,e5,e6⟩
   ·rw [aT,aT,e1]
   ·rw [aT,aT,e1]
    have hh:=congrArg Ms.ht e5
    rw [cw] at hh
    have a0:=A.ky.ht
    have b0:=B.ky.ht
    exact uC g c d (.n a :: .n b::st) (kE A B ok) (by rw [du A];lia) (by rw [du A];lia)
theorem uD {ps:List Pc} (g:Good ps) {k:Nat}:∀ (c d:Nat) (st:List Un),(∀ u∈st,OkU ps u)->hU ps st<=c->hU ps st<=d->bj ps k c st=bj ps k d st
 | c,d,[],_,_,_=>by cases c<;>cases d<;>rfl
 | c,d,.s z::st,_,_,_=>by cases c<;>cases d<;>rfl
 | 0,d,.n k::st,ok,h,_=>by
  cases ok _ (KF ..) with
  | @n _ m f l x T=>rw [du T] at h;omega
 | c+1,0,.n k::st,ok,_,h=>by
  cases ok _ (KF ..) with
  | @n _ m f l x T=>rw [du T] at h;omega
 | c+1,d+1,.n j::st,ok,h1,h2=>by
  rw [bj,bj]
  by_cases q:j=k
  ·rw [KS q,KS q]
  ·rw [KW q,KW q]
   cases ok _ (KF ..) with
   | @n _ m f l x T =>
    rw [du T] at h1 h2
    rcases g.kind T with ⟨e1,e2,e3,e4,e5⟩ | ⟨a,b,ma,mb,y,z,fa,la,fb,lb,e1,e2,e3,A,B,e4,e5,e6⟩
    ·rw [e1]
    ·rw [e1]
     have hh:=congrArg Ms.ht e5
     rw [cw] at hh
     have a0:=A.ky.ht
     have b0:=B.ky.ht
     exact uD g c d (.n a :: .n b::st) (kE A B ok) (by rw [du A];omega) (by rw [du A];omega)
def uE (k:Nat):List Un->Prop
 | []=>True
 | .n j::r=>j<=k/\uE k r
 | .s z::r=>1<=z.length/\uE k r
theorem zK {ps:List Pc} {c:Nat} {w:Str} {st st2:List Un} (w0 : ¬ w = "") (e:aT ps 90 st=aT ps 90 st2):dD ps (c+1) w st=dD ps (c+1) w st2:=by
 unfold dD
 rw [KW w0,KW w0,e]
def g8 (cs:List Nat):List Un:=cs.map fun c=>.s ⟨#[c]⟩
theorem zL {ps:List Pc} (g:Good ps):∀ (cs:List Nat) {st:List Un} {r:List Nat},(∀ u∈st,OkU ps u)->br ps st=cs++r->bf ps (g8 cs) st=some (dN ps cs.length st)
 | [],st,r,ok,h=>rfl
 | c::cs,st,r,ok,h=>by
  show (dD ps 10 ⟨#[c]⟩ st).bind (bf ps (g8 cs))=_
  have e:=ur (c:=10) (w:=⟨#[c]⟩) (st:=st) (r:=cs++r) g ok h (by show (1:Nat)<10;decide)
  have s:=oq g 10 ok e
  rw [e]
  have rd:=s.rd
  rw [h] at rd
  have rd':c::(cs++r)=c::br ps (dN ps 1 st):=rd
  have tl:=(List.cons.inj rd').2
  have ok1:∀ u∈dN ps 1 st,OkU ps u:=s.ok
  show bf ps (g8 cs) (dN ps 1 st)=_
  rw [zL g cs ok1 tl.symm,<- uj,KO,L3]
structure Hj (ps:List Pc) (t:Nat) (its:List Un):Prop where
 ne:its≠[]
 lo:uE t its
 oi:∀ i∈its,OkI ps i
 sp:∀ st,(∀ u∈st,OkU ps u)->bf ps its (.n t::st)=some st
theorem zM {ps:List Pc}:∀ (cs:List Nat),(∀ c∈cs,gh c=true)->∀ i∈g8 cs,OkI ps i
 | [],_,i,hi=>by cases hi
 | c::cs,h,i,hi=>by
  rcases K6.mp hi with rfl | hi
  ·refine .s ?_
   have:=h c (KF ..)
   simp [dP,bJ,this]
   show (1:Nat)<=1/\(1:Nat)<=8
   decide
  ·exact zM cs (fun d hd=>h d (KJ _ hd)) i hi
theorem uF {ps:List Pc} (g:Good ps) {st:List Un} (ok:∀ u∈st,OkU ps u):(sg1 ps st).cps.toList=(br ps st).take 1:=by
 have N:=i7 g 90 st ok (by have:=eE g ok;lia)
 unfold sg1
 rw [gj,N.rd]
 by_cases q:st=[]
 ·rw [N.z0 q]
  rfl
 ·have z:=(N.z1 q).1
  rw [bB] at z
  rw [LW z]
end Sk
namespace Sk
open PySem PySem.Spec L2 Sm
inductive Op (ps:List Pc):List Un->List Un->Prop
 | refl (st:List Un):Op ps st st
 | open {s st:List Un} {j a b:Nat} (h:Op ps s (.n j::st)) (e:ps[j-1]? = some (.fork a b)):Op ps s (.n a :: .n b::st)
theorem OkI.u {ps:List Pc} {u:Un} (o:OkI ps u):OkU ps u:=by
 cases o with
 | n T=>exact .n T
 | s a=>exact .s (fS a).1 (fS a).2.1
theorem ot {ps:List Pc} (g:Good ps) {j a b:Nat} {m f l:Ms} {x:Str} (T:Tx ps j m x f l) (e:ps[j-1]? = some (.fork a b)):∃ ma mb y z fa la fb lb,a<j/\Tx ps a ma y fa la/\Tx ps b mb z fb lb/\x=y++z/\m=iZ ma mb:=by
 rcases g.kind T with ⟨q,_⟩ | ⟨a',b',ma,mb,y,z,fa,la,fb,lb,e1,e2,_,A,B,x1,x2,_⟩
 ·rw [e] at q;cases q
 ·rw [e] at e1;cases e1
  exact ⟨ma,mb,y,z,fa,la,fb,lb,e2,A,B,x1,x2⟩
theorem mO {ps:List Pc} (g:Good ps) {j a b:Nat} {st:List Un} (ok:∀ u∈(.n j::st:List Un),OkI ps u) (e:ps[j-1]? = some (.fork a b)):∀ u∈(.n a :: .n b::st:List Un),OkI ps u:=by
 cases ok _ (KF ..) with
 | n T =>
  obtain ⟨ma,mb,y,z,fa,la,fb,lb,_,A,B,_⟩:=ot g T e
  intro u hu
  rcases K6.mp hu with rfl | hu
  ·exact .n A
  ·rcases K6.mp hu with rfl | hu
   ·exact .n B
   ·exact ok u (KJ _ hu)
theorem kF {ps:List Pc} (g:Good ps) {s L:List Un} (o:Op ps s L) (ok:∀ u∈s,OkI ps u):∀ u∈L,OkI ps u:=by
 induction o with
 | refl=>exact ok
 | «open» h e ih=>exact mO g ih e
theorem bK {ps:List Pc} {s:List Un} (ok:∀ u∈s,OkI ps u):∀ u∈s,OkU ps u:=fun u hu=>(ok u hu).u
theorem ow {ps:List Pc} (g:Good ps) {s L:List Un} (o:Op ps s L) (ok:∀ u∈s,OkI ps u):aT ps 90 s=aT ps 90 L:=by
 induction o with
 | refl=>rfl
 | @«open» st j a b h e ih =>
  rw [ih]
  have k1:=bK (kF g h ok)
  have k2:=bK (mO g (kF g h ok) e)
  have q:aT ps 90 (.n j::st)=aT ps 89 (.n a :: .n b::st):=by
   show (match ps[j-1]? with
    | some (.fork a b)=>aT ps 89 (.n a :: .n b::st)
    | some (.leaf z)=>(z,st)
    | none=>("",st))=_
   rw [e]
  rw [q]
  exact uC g 89 90 _ k2 (by have:=eE g k2;lia) (by have:=eE g k2;lia)
theorem Hk {ps:List Pc} (g:Good ps) {s L:List Un} (o:Op ps s L) (ok:∀ u∈s,OkI ps u):∀ {k i:Nat} {r:List Un},L = .n i::r->k<=i->bj ps k 90 s=bj ps k 90 L:=by
 induction o with
 | refl=>intro k i r _ _;rfl
 | @«open» st j a b h e ih =>
  intro k i r q hk
  cases q
  have k0:=kF g h ok
  have k2:=bK (mO g k0 e)
  cases k0 _ (KF ..) with
  | n T =>
   obtain ⟨_,_,_,_,_,_,_,_,hl,_⟩:=ot g T e
   rw [ih rfl (by lia)]
   have q:bj ps k 90 (.n j::st)=bj ps k 89 (.n a :: .n b::st):=by
    show (if j=k then some st else match ps[j-1]? with
     | some (.fork a b)=>bj ps k 89 (.n a :: .n b::st)
     | _=>none)=_
    rw [KW (by lia),e]
   rw [q]
   exact uD g 89 90 _ k2 (by have:=eE g k2;lia) (by have:=eE g k2;lia)
theorem Hl {ps:List Pc} (g:Good ps) {s L:List Un} {k:Nat} (o:Op ps s (.n k::L)) (ok:∀ u∈s,OkI ps u):dH ps (.n k) s=some L:=by
 show bj ps k 90 s=_
 rw [Hk g o ok rfl (KC _)]
 show (if k=k then some L else _)=_
 rw [KS rfl]
theorem Hm {ps:List Pc} (g:Good ps) {s L L0:List Un} {z:Str} {m:Nat} (o:Op ps s L) (ok:∀ u∈s,OkI ps u) (e:aT ps 90 L=(z,L0)) (m1:1<=m) (hm:m<=z.length) (z8:z.length<=8):dH ps (.s (bP z m)) s=some (bC (bF z m) L0):=by
 show dD ps 10 (bP z m) s=_
 have en:=(ow g o ok).trans e
 have lt:(bP z m).length=m:=by rw [bB,gj,Lr,<- bB];lia
 have N:=i7 g 90 s (bK ok) (by have:=eE g (bK ok);lia)
 have rd:=N.rd
 rw [en] at rd
 have rd2:br ps s=(bP z m).cps.toList++(z.cps.toList.drop m++br ps L0):=by
  rw [rd,gj,<- Lg,Mj]
 rw [ur g (bK ok) rd2 (by lia),lt,zy en m1 hm]
theorem zN {ps:List Pc} {s L:List Un} (o:Op ps s L):s=[] ↔ L=[]:=by
 induction o with
 | refl=>exact Iff.rfl
 | «open» h e ih=>exact ⟨fun q=>(by have:=ih.mp q;cases this),fun q=>(by cases q)⟩
theorem uG {ps:List Pc} (g:Good ps):∀ (c:Nat) (st:List Un),(∀ u∈st,OkI ps u)->hU ps st<=c->(∀ u∈(aT ps c st).2,OkI ps u)/\(st≠[]->dP (aT ps c st).1=true)
 | c,[],ok,_=>by
  have:aT ps c []=((("" : Str),([]:List Un))):=by cases c<;>rfl
  rw [this]
  exact ⟨fun u hu=>(by cases hu),fun z=>absurd rfl z⟩
 | c,.s z::st,ok,_=>by
  rw [fJ]
  refine ⟨fun u hu=>ok u (KJ _ hu),fun _=>?_⟩
  cases ok _ (KF ..) with
  | s a=>exact a
 | 0,.n k::st,ok,h=>absurd h (by show ¬ _+1<=0;omega)
 | c+1,.n k::st,ok,h=>by
  cases ok _ (KF ..) with
  | @n k m f l x T =>
   rcases g.kind T with ⟨e,_⟩ | ⟨a,b,ma,mb,y,z,fa,la,fb,lb,e,e2,_,A,B,x1,x2,_⟩
   ·have q:aT ps (c+1) (.n k::st)=(x,st):=by
     show (match ps[k-1]? with
      | some (.fork a b)=>aT ps c (.n a :: .n b::st)
      | some (.leaf z)=>(z,st)
      | none=>("",st))=_
     rw [e]
    rw [q]
    exact ⟨fun u hu=>ok u (KJ _ hu),fun _=>g.get e⟩
   ·have q:aT ps (c+1) (.n k::st)=aT ps c (.n a :: .n b::st):=by
     show (match ps[k-1]? with
      | some (.fork a b)=>aT ps c (.n a :: .n b::st)
      | some (.leaf z)=>(z,st)
      | none=>("",st))=_
     rw [e]
    rw [q]
    rw [du T] at h
    have r:=uG g c (.n a :: .n b::st) (mO g ok e) (by
     rw [du A]
     have:=A.ky.ht
     have:=B.ky.ht
     rw [x2] at h
     have:(iZ ma mb).ht=max ma.ht mb.ht+1:=rfl
     omega)
    exact ⟨r.1,fun _=>r.2 (fun z=>by cases z)⟩
structure Cs (ps:List Pc) (one items L:List Un):Prop where
 ex:∃ s,bf ps items one=some s/\(∀ u∈s,OkI ps u)/\Op ps s L
theorem Cs.oki {ps:List Pc} (g:Good ps) {one items L:List Un} (c:Cs ps one items L):∀ u∈L,OkI ps u:=by
 obtain ⟨s,_,ok,o⟩:=c.ex
 exact kF g o ok
theorem Cs.opn {ps:List Pc} {one items L L2:List Un} (c:Cs ps one items L) (o:Op ps L L2):Cs ps one items L2:=by
 induction o with
 | refl=>exact c
 | «open» h e ih =>
  obtain ⟨s,a,b,d⟩:=ih.ex
  exact ⟨s,a,b,.open d e⟩
theorem zO {ps:List Pc} {items one s r:List Un} {i:Un} (e:bf ps items one=some s) (q:dH ps i s=some r):bf ps (items++[i]) one=some r:=by
 rw [ux,e]
 show (dH ps i s).bind (bf ps [])=_
 rw [q]
 rfl
theorem Cs.num {ps:List Pc} (g:Good ps) {one items L:List Un} {k:Nat} (c:Cs ps one items (.n k::L)):Cs ps one (items++[.n k]) L:=by
 obtain ⟨s,a,b,o⟩:=c.ex
 exact ⟨L,zO a (Hl g o b),fun u hu=>kF g o b u (KJ _ hu),.refl _⟩
theorem uH {z:Str} {m:Nat} (h:bJ z=true):bJ (bF z m)=true:=by
 unfold bJ at h ⊢
 rw [gO]
 exact Lo.mpr fun c hc=>Lo.mp h c (Ma hc)
theorem Hn {z:Str} {m:Nat} (h:bJ z=true):bJ (bP z m)=true:=by
 unfold bJ at h ⊢
 rw [gj]
 exact Lo.mpr fun c hc=>Lo.mp h c (Mb hc)
theorem zP {z:Str} (p:bJ z=true) (a:1<=z.length) (b:z.length<=8):dP z=true:=by simp [dP,p,a,b]
theorem zQ {ps:List Pc} {z:Str} {st:List Un} (p:bJ z=true) (b:z.length<=8) (ok:∀ u∈st,OkI ps u):∀ u∈bC z st,OkI ps u:=by
 unfold bC
 by_cases q:z = ""
 ·rw [KS q];exact ok
 ·rw [KW q]
  intro u hu
  rcases K6.mp hu with rfl | hu
  ·exact .s (zP p (by rcases Nat.eq_zero_or_pos z.length with w | w;exact absurd (zaF.mpr w) q;exact w) b)
  ·exact ok u hu
theorem Cs.txt {ps:List Pc} (g:Good ps) {one items L L0:List Un} {z:Str} {m:Nat} (c:Cs ps one items L) (e:aT ps 90 L=(z,L0)) (m1:1<=m) (hm:m<=z.length):OkI ps (.s (bP z m))/\Cs ps one (items++[.s (bP z m)]) (bC (bF z m) L0):=by
 have okL:=c.oki g
 obtain ⟨s,a,b,o⟩:=c.ex
 have N:=uG g 90 L okL (by have:=eE g (bK okL);lia)
 rw [e] at N
 have ne:L≠[]:=fun q=>by
  rw [q] at e
  cases e
  exact absurd hm (by show ¬ m<=0;lia)
 obtain ⟨l1,l8,pl⟩:=fS (show dP z=true from N.2 ne)
 have lt:(bP z m).length=m:=by rw [bB,gj,Lr,<- bB];lia
 have ld:(bF z m).length=z.length-m:=by rw [bB,gO,Ln,<- bB]
 exact ⟨.s (zP (Hn pl) (by lia) (by lia)),_,zO a (Hm g o b e m1 hm l8),zQ (uH pl) (by lia) N.1,.refl _⟩
end Sk
namespace Sk
open PySem PySem.Spec L2 Sm
def cE:List Nat->List Nat->Nat
 | x::a,y::b=>if x=y then cE a b+1 else 0
 | _,_=>0
theorem mP:∀ a b:List Nat,cE a b<=a.length/\cE a b<=b.length
 | [],[]=>⟨KC _,KC _⟩
 | [],_::_=>⟨Lc _,Lc _⟩
 | _::_,[]=>⟨Lc _,Lc _⟩
 | x::a,y::b=>by
  have:=mP a b
  rw [cE,KO,KO]
  split<;>lia
theorem zR:∀ a b:List Nat,a.take (cE a b)=b.take (cE a b)
 | [],[]=>rfl
 | [],_::_=>rfl
 | _::_,[]=>rfl
 | x::a,y::b=>by
  rw [cE]
  split
  ·rename_i h
   subst h
   rw [MR,MR,zR a b]
  ·rfl
theorem zS:∀ (a b:List Nat) (j:Nat),j<cE a b->a[j]? = b[j]?
 | [],[],_,h=>absurd h (Lm _)
 | [],_::_,_,h=>absurd h (Lm _)
 | _::_,[],_,h=>absurd h (Lm _)
 | x::a,y::b,j,h=>by
  rw [cE] at h
  split at h
  ·rename_i q
   cases j with
   | zero=>rw [q];rfl
   | succ j=>simpa using zS a b j (by lia)
  ·exact absurd h (Lm _)
theorem uI:∀ (a b:List Nat),cE a b<a.length->cE a b<b.length->a[cE a b]? ≠ b[cE a b]?
 | [],_,h,_=>absurd h (Lm _)
 | _::_,[],_,h=>absurd h (Lm _)
 | x::a,y::b,h1,h2=>by
  rw [cE] at h1 h2 ⊢
  split
  ·rename_i q
   rw [KS q] at h1 h2
   rw [KO] at h1 h2
   simpa using uI a b (by lia) (by lia)
  ·rename_i q
   intro z
   exact q (by simpa using z)
theorem Ho (a b:List Nat):(a.drop (cE a b)).take 1=(b.drop (cE a b)).take 1->a.length<=cE a b/\b.length<=cE a b:=fun e=>by
 have l:=mP a b
 rcases Nt (cE a b) a.length with h1 | h1
 ·rcases Nt (cE a b) b.length with h2 | h2
  ·refine absurd ?_ (uI a b h1 h2)
   have:=congrArg (fun l:List Nat=>l[0]?) e
   simpa using this
  ·have:=congrArg List.length e
   rw [Lr,Lr,Ln,Ln] at this
   lia
 ·rcases Nt (cE a b) b.length with h2 | h2
  ·have:=congrArg List.length e
   rw [Lr,Lr,Ln,Ln] at this
   lia
  ·exact ⟨h1,h2⟩
theorem zT {c:SB} {b:SS} {E:Nat->En} {h:AH} {n:Nat} (hc:∀ j,j<=n->c (E j) h = .ok (decide (j<n)) h) (hb:∀ j,j<n->b (E j) h = .nx (E (j+1)) h):∀ (fuel j:Nat),j<=n->n-j<fuel->bU c b fuel (E j) h = .nx (E n) h
 | 0,j,_,hf=>absurd hf (Lm _)
 | fu+1,j,hj,hf=>by
  by_cases q:j<n
  ·rw [lT (by rw [hc j hj,KQ q]) (hb j q)]
   exact zT hc hb fu (j+1) q (by lia)
  ·have:j=n:=by lia
   subst this
   exact jv (by rw [hc j hj,KD q])
theorem Hq {x y:Str} {j:Nat} (hj:j<=cE x.cps.toList y.cps.toList) (h:AH) :
  (fX [.int x.length,.int y.length] h = .ok (.int ((min x.length y.length:Nat):Int)) h)/\bz (.int j) (.int ((min x.length y.length:Nat):Int)) h = .ok (.bl (decide (j<min x.length y.length))) h /\
  (j<min x.length y.length->∃ a b:Nat,au (.str x) (.int j) h = .ok (.str ⟨#[a]⟩) h/\au (.str y) (.int j) h = .ok (.str ⟨#[b]⟩) h/\aC (.str ⟨#[a]⟩) (.str ⟨#[b]⟩) h = .ok (.bl (decide (j<cE x.cps.toList y.cps.toList))) h)/\(¬ j<min x.length y.length -> ¬ j<cE x.cps.toList y.cps.toList):=by
 have l:=mP x.cps.toList y.cps.toList
 rw [<- bB,<- bB] at l
 refine ⟨?_,?_,fun q=>?_,fun q=>by lia⟩
 ·have:fX [.int x.length,.int y.length] h = .ok (.int (if (y.length:Int)<x.length then (y.length:Int) else x.length)) h:=rfl
  rw [this]
  by_cases q:y.length<x.length
  ·rw [KS (by lia)];congr 2;lia
  ·rw [KW (by lia)];congr 2;lia
 ·show Out.ok (AV.bl (decide ((j:Int)<((min x.length y.length:Nat):Int)))) h=_
  congr 2
  exact decide_eq_decide.mpr Om
 ·have hx:j<x.cps.toList.length:=by rw [<- bB];lia
  have hy:j<y.cps.toList.length:=by rw [<- bB];lia
  refine ⟨x.cps.toList[j],y.cps.toList[j],?_,?_,?_⟩
  ·simp only [au,kR (KR hx)]
  ·simp only [au,kR (KR hy)]
  ·have e:(⟨#[x.cps.toList[j]]⟩:Str)=⟨#[y.cps.toList[j]]⟩ ↔ j<cE x.cps.toList y.cps.toList:=by
    constructor
    ·intro z
     rcases Nt j (cE x.cps.toList y.cps.toList) with w | w
     ·exact w
     ·have w':j=cE x.cps.toList y.cps.toList:=by lia
      refine absurd ?_ (uI x.cps.toList y.cps.toList (w'▸hx) (w'▸hy))
      rw [<- w',KR hx,KR hy]
      have:=congrArg (fun s:Str=>s.cps.toList) z
      simpa using this
    ·intro w
     have:=zS _ _ j w
     rw [KR hx,KR hy] at this
     rw [Lj this]
   generalize (⟨#[x.cps.toList[j]]⟩:Str)=u at *
   generalize (⟨#[y.cps.toList[j]]⟩:Str)=v at *
   have q:aC (.str u) (.str v) h = .ok (.bl (decide (u=v))) h:=by
    by_cases w:u=v<;>simp [bW,PyData.eqv,w]
   rw [q]
   congr 2
   exact decide_eq_decide.mpr e
abbrev CG:SB:=dz (aK (ah bz (ae 5) (aG fX (aj (aG ax (aj (ae 3) ag)) (aj (aG ax (aj (ae 4) ag)) ag))))) (aK (ah aC (ah au (ae 3) (ae 5)) (ah au (ae 4) (ae 5))))
theorem Hr {h:AH} {x y:Str} {o0 o1 o2:Option AV} (hx:x.length<=8):bU CG nN cO [o0,o1,o2,some (.str x),some (.str y),some (.int 0)] h = .nx [o0,o1,o2,some (.str x),some (.str y),some (.int (cE x.cps.toList y.cps.toList))] h:=by
 have l:=mP x.cps.toList y.cps.toList
 rw [<- bB,<- bB] at l
 refine zT (E:=fun j=>[o0,o1,o2,some (.str x),some (.str y),some (.int j)]) (n:=cE x.cps.toList y.cps.toList) (fun j hj=>?_) (fun j hj=>?_) cO 0 (Lc _) (K7 (m:=8) (by lia) (by decide))
 ·obtain ⟨mn,lt,a,b⟩:=Hq hj h
  have l1:ax [.str x] h = .ok (.int x.length) h:=rfl
  have l2:ax [.str y] h = .ok (.int y.length) h:=rfl
  generalize (x.length:Int)=XL at *
  generalize (y.length:Int)=YL at *
  by_cases q:j<min x.length y.length
  ·obtain ⟨a,b,e1,e2,e3⟩:=a q
   rw [KQ q] at lt
   generalize ((min x.length y.length:Nat):Int)=MM at *
   simp [CG,l1,l2,mn,lt,e1,e2,e3,-ax,-fX,-bz,-au,-aC]
  ·rw [KD q] at lt
   rw [KD (b q)]
   generalize ((min x.length y.length:Nat):Int)=MM at *
   simp [CG,l1,l2,mn,lt,-ax,-fX,-bz,-au,-aC]
 ·show nN _ h=_
  have ad:aw (.int j) (.int 1) h = .ok (.int ((j+1:Nat):Int)) h:=rfl
  simp [nN,ad,-aw]
theorem uJ (h:AH) {W V:Nat} (ne:W≠V) (a b c d:AO):(((h.set W a).set V b).set W c).set V d=(h.set W c).set V d:=by
 rw [M9 _ _ ne,Lq,M9 _ _ ne.symm,Lq]
theorem Hs {h:AH} {p W V:Nat} {ps:List Pc} {L R L0 R0:List Un} {x y:Str} (S:ShelfAt h p ps) (g:Good ps) (hW:p+8<W) (hV:p+8<V) (ne:W≠V) (okL:∀ u∈L,OkI ps u) (okR:∀ u∈R,OkI ps u) (lL:L.length<=900000) (lR:R.length<=900000) (eW:h[W]? = some (.lst (L.reverse.map uv))) (eV:h[V]? = some (.lst (R.reverse.map uv)))
  (e1:aT ps 90 L=(x,L0)) (e2:aT ps 90 R=(y,R0)) :
  nO [.ref p,.ref W,.ref V] h = .ok (.str (bP x (cE x.cps.toList y.cps.toList))) ((h.set W (.lst ((bC (bF x (cE x.cps.toList y.cps.toList)) L0).reverse.map uv))).set V (.lst ((bC (bF y (cE x.cps.toList y.cps.toList)) R0).reverse.map uv))):=by
 have f1:=ql S g hW (bK okL) lL eW
 have N1:=i7 g 90 L (bK okL) (by have:=eE g (bK okL);lia)
 have N2:=i7 g 90 R (bK okR) (by have:=eE g (bK okR);lia)
 rw [e1] at f1 N1
 rw [e2] at N2
 have l1:=N1.ln
 have l2:=N2.ln
 dsimp only at f1 l1 l2
 have x8:x.length<=8:=by
  by_cases q:L=[]
  ·have:=N1.z0 q
   cases this
   exact Lc _
  ·exact (N1.z1 q).2
 have S1:=eQ S hW (.lst (L0.reverse.map uv))
 have eV1:(h.set W (.lst (L0.reverse.map uv)))[V]? = some (.lst (R.reverse.map uv)):=by rw [KM ne];exact eV
 have f2:=ql S1 g hV (bK okR) lR eV1
 rw [e2] at f2
 dsimp only at f2
 obtain ⟨n,en⟩:∃ n,n=cE x.cps.toList y.cps.toList:=⟨_,rfl⟩
 have nl:=mP x.cps.toList y.cps.toList
 rw [<- bB,<- bB,<- en] at nl
 have S2:=eQ S1 hV (.lst (R0.reverse.map uv))
 have eW2:((h.set W (.lst (L0.reverse.map uv))).set V (.lst (R0.reverse.map uv)))[W]? = some (.lst (L0.reverse.map uv)):=by rw [KM ne.symm];exact KG (bO eW)
 have eV2:((h.set W (.lst (L0.reverse.map uv))).set V (.lst (R0.reverse.map uv)))[V]? = some (.lst (R0.reverse.map uv)):=KG (bO eV1)
 have lp:=Hr (h:=(h.set W (.lst (L0.reverse.map uv))).set V (.lst (R0.reverse.map uv))) (x:=x) (y:=y) (o0:=some (.ref p)) (o1:=some (.ref W)) (o2:=some (.ref V)) x8
 have p1:=uw (bF x n) eW2 (by lia)
 have eV3:(((h.set W (.lst (L0.reverse.map uv))).set V (.lst (R0.reverse.map uv))).set W (.lst ((bC (bF x n) L0).reverse.map uv)))[V]? = some (.lst (R0.reverse.map uv)):=by rw [KM ne];exact eV2
 have p2:=uw (bF y n) eV3 (by lia)
 rw [uJ h ne] at p2
 rw [<- en] at lp ⊢
 have c1:∀ hh,bI (.str x) (some (n:Int)) none hh = .ok (.str (bF x n)) hh:=mK nl.1
 have c2:∀ hh,bI (.str y) (some (n:Int)) none hh = .ok (.str (bF y n)) hh:=mK nl.2
 obtain ⟨H4,eH4⟩:∃ H4,H4=(h.set W (.lst ((bC (bF x n) L0).reverse.map uv))).set V (.lst ((bC (bF y n) R0).reverse.map uv)):=⟨_,rfl⟩
 rw [<- eH4] at p2 ⊢
 have c3:=lS (x:=x) (a:=n) H4
 clear S S1 S2 eW eV eV1 eW2 eV2 eV3 N1 N2 okL okR en eH4
 unfold nO
 generalize bU CG nN cO=WL at *
 generalize ((h.set W (.lst (L0.reverse.map uv))).set V (.lst (R0.reverse.map uv))).set W (.lst ((bC (bF x n) L0).reverse.map uv))=H3 at *
 generalize (h.set W (.lst (L0.reverse.map uv))).set V (.lst (R0.reverse.map uv))=H2 at *
 generalize h.set W (.lst (L0.reverse.map uv))=H1 at *
 generalize (n:Int)=NN at *
 simp [f1,f2,lp,c1,c2,c3,p1,p2,-bI]
end Sk
namespace Sk
open PySem PySem.Spec L2 Sm
theorem zU {ps:List Pc} {s L M:List Un} (a:Op ps s L) (b:Op ps L M):Op ps s M:=by
 induction b with
 | refl=>exact a
 | «open» h e ih=>exact .open ih e
theorem qt {h:AH} {W:Nat} {u:Un} {st:List Un} (eW:h[W]? = some (.lst ((u::st).reverse.map uv))):au (.ref W) (.int (-1)) h = .ok (uv u) h:=by
 rw [gP] at eW
 generalize st.reverse.map uv=Z at *
 generalize uv u=w at *
 have q:atI (Z++[w]) (-1)=some w:=by
  have e:(-1+((Z.length:Int)+1)).toNat=Z.length:=by lia
  have e2:(1:Int)<=(Z.length:Int)+1:=by lia
  simp [atI,jb,e,e2]
 simp only [au,eW,q]
theorem zV (u v:Un) (h:AH):∃ b,aZ (uv u) (uv v) h = .ok (.bl b) h/\(b=false ↔ u=v):=by
 cases u with
 | n j =>
  cases v with
  | n k =>
   by_cases q:j=k
   ·exact ⟨false,by subst q;simp [bW,PyData.eqv],by simp [q]⟩
   ·exact ⟨true,by simp [bW,PyData.eqv];lia,by simp [q]⟩
  | s z=>exact ⟨true,by simp [bW,PyData.eqv],by simp⟩
 | s y =>
  cases v with
  | n k=>exact ⟨true,by simp [bW,PyData.eqv],by simp⟩
  | s z =>
   by_cases q:y=z
   ·exact ⟨false,by subst q;simp [bW,PyData.eqv],by simp [q]⟩
   ·exact ⟨true,by simp [bW,PyData.eqv,q],by simp [q]⟩
theorem zW {h:AH} {p:Nat} {ps:List Pc} {u:Un} (S:ShelfAt h p ps) (o:OkI ps u):∃ k:Nat,gu [.ref p,uv u] h = .ok (.int k) h:=by
 cases o with
 | @n k m f l x T =>
  have ob:=S.ob
  have fs:=i4 S T.ms
  exact ⟨m.sg,by simp [gu,ob,fs]⟩
 | @s z a=>exact ⟨z.length,by simp [gu]⟩
theorem Ht {h:AH} {W:Nat} {u:Un} {st:List Un} (eW:h[W]? = some (.lst ((u::st).reverse.map uv))) (ls:st.length<=900000):bV (.ref W) [uv u] (h.set W (.lst (st.reverse.map uv))) = .ok .non h:=by
 have l1:(st.reverse.map uv).length<sizeLine:=K7 (m:=900000) (by simpa using ls) (by decide)
 have e1:(h.set W (.lst (st.reverse.map uv)))[W]? = some (.lst (st.reverse.map uv)):=KG (bO eW)
 have e2:(h.set W (.lst (st.reverse.map uv))).set W (.lst (st.reverse.map uv++[uv u]))=h:=by
  rw [Lq,<- gP]
  exact lV eW
 simp only [bV,e1,l1,Mc,e2]
theorem Hu {h:AH} {p W V:Nat} {ps:List Pc} {u v:Un} {l r:List Un} {o3 o4 o5:Option AV} (S:ShelfAt h p ps) (eW:h[W]? = some (.lst ((u::l).reverse.map uv))) (eV:h[V]? = some (.lst ((v::r).reverse.map uv))) (ou:OkI ps u) (ov:OkI ps v) :
  ∃ b:Bool,(ah bz (aG gu (aj (ae 0) (aj (ah au (ae 1) (bL bG (af (.int 1)))) ag))) (aG gu (aj (ae 0) (aj (ah au (ae 2) (bL bG (af (.int 1)))) ag)))) [some (.ref p),some (.ref W),some (.ref V),o3,o4,o5] h = .ok (.bl b) h:=by
 obtain ⟨k1,f1⟩:=zW S ou
 obtain ⟨k2,f2⟩:=zW S ov
 have i1:=qt eW
 have i2:=qt eV
 have lt:bz (.int k1) (.int k2) h = .ok (.bl (decide ((k1:Int)<k2))) h:=rfl
 generalize uv u=UU at *
 generalize uv v=VV at *
 exact ⟨_,by simp [i1,i2,f1,f2,lt,-au,-bz];rfl⟩
theorem zX {h:AH} {p W V X:Nat} {ps:List Pc} {b:Bool} {st:List Un} {o3 o4 o5:Option AV} {a c k:Nat} (S:ShelfAt h p ps) (pk:(ah bz (aG gu (aj (ae 0) (aj (ah au (ae 1) (bL bG (af (.int 1)))) ag))) (aG gu (aj (ae 0) (aj (ah au (ae 2) (bL bG (af (.int 1)))) ag)))) [some (.ref p),some (.ref W),some (.ref V),o3,o4,o5] h = .ok (.bl b) h) (hb:(b=true/\X=V)\/(b=false/\X=W)) (hX:p+8<X)
  (eX:h[X]? = some (.lst ((.n k::st).reverse.map uv))) (k1:1<=k) (e:ps[k-1]? = some (.fork a c)) (ls:st.length<=900000) :
  ∃ e3 e4 e5,kq [some (.ref p),some (.ref W),some (.ref V),o3,o4,o5] h = .nx [some (.ref p),some (.ref W),some (.ref V),e3,e4,e5] (h.set X (.lst ((.n a :: .n c::st).reverse.map uv))):=by
 have eX' := eX
 rw [gP] at eX'
 have pp:=gn eX'
 have is1:bq (.ref X) h=true:=by simp [eX]
 have e1:(h.set X (.lst (st.reverse.map uv)))[X]? = some (.lst (st.reverse.map uv)):=KG (bO eX)
 have of:=ui (eQ S hX (.lst (st.reverse.map uv))) k1 e hX e1 (by simpa using KN ls (by decide))
 rw [Lq] at of
 have er:st.reverse.map uv++[.int c]++[.int a]=(.n a :: .n c::st:List Un).reverse.map uv:=by simp
 rw [er] at of
 generalize (.n a :: .n c::st:List Un).reverse.map uv=Z at *
 generalize st.reverse.map uv=Z0 at *
 generalize h.set X (.lst Z)=HF at *
 generalize h.set X (.lst Z0)=H1 at *
 have uk:uv (.n k) = .int k:=rfl
 rw [uk] at pp
 unfold kq
 generalize (ah bz (aG gu (aj (ae 0) (aj (ah au (ae 1) (bL bG (af (.int 1)))) ag))) (aG gu (aj (ae 0) (aj (ah au (ae 2) (bL bG (af (.int 1)))) ag))))=PK at *
 rcases hb with ⟨rfl,rfl⟩ | ⟨rfl,rfl⟩
 ·exact ⟨_,_,_,by simp [pk,is1,pp,of,-bq,-bY];exact ⟨rfl,rfl,rfl⟩⟩
 ·exact ⟨_,_,_,by simp [pk,is1,pp,of,-bq,-bY];exact ⟨rfl,rfl,rfl⟩⟩
theorem zY {h:AH} {p W V X:Nat} {b:Bool} {w:Un} {st:List Un} {o3 o4 o5:Option AV} {R:AV} {h2:AH} (pk:(ah bz (aG gu (aj (ae 0) (aj (ah au (ae 1) (bL bG (af (.int 1)))) ag))) (aG gu (aj (ae 0) (aj (ah au (ae 2) (bL bG (af (.int 1)))) ag)))) [some (.ref p),some (.ref W),some (.ref V),o3,o4,o5] h = .ok (.bl b) h) (hb:(b=true/\X=V)\/(b=false/\X=W))
  (eX:h[X]? = some (.lst ((w::st).reverse.map uv))) (of:iG [.ref p,.ref X,uv w] (h.set X (.lst (st.reverse.map uv))) = .ok (.bl false) (h.set X (.lst (st.reverse.map uv)))) (ls:st.length<=900000) (cs:nO [.ref p,.ref W,.ref V] h = .ok R h2) :
  kq [some (.ref p),some (.ref W),some (.ref V),o3,o4,o5] h = .rt R h2:=by
 have ab:=Ht eX ls
 have is2:bq (.ref X) (h.set X (.lst (st.reverse.map uv)))=true:=by simp [KG (bO eX)]
 have eX' := eX
 rw [gP] at eX'
 have pp:=gn eX'
 have is1:bq (.ref X) h=true:=by simp [eX]
 generalize st.reverse.map uv=Z0 at *
 generalize h.set X (.lst Z0)=H1 at *
 unfold kq
 generalize (ah bz (aG gu (aj (ae 0) (aj (ah au (ae 1) (bL bG (af (.int 1)))) ag))) (aG gu (aj (ae 0) (aj (ah au (ae 2) (bL bG (af (.int 1)))) ag))))=PK at *
 generalize uv w=UW at *
 rcases hb with ⟨rfl,rfl⟩ | ⟨rfl,rfl⟩
 ·simp [pk,is1,is2,pp,of,ab,cs,-bq,-bY,-bV]
 ·simp [pk,is1,is2,pp,of,ab,cs,-bq,-bY,-bV]
end Sk
namespace Sk
open PySem PySem.Spec L2 Sm
theorem zZ {ps:List Pc} {p:Nat} (g:Good ps) {w:Un} (o:OkI ps w) :
  (∃ k a c,w = .n k/\1<=k/\ps[k-1]? = some (.fork a c)/\∀ st,hU ps (.n a :: .n c::st)+1<=hU ps (.n k::st))\/(∀ hh X,ShelfAt hh p ps->iG [.ref p,.ref X,uv w] hh = .ok (.bl false) hh):=by
 cases o with
 | @s z a=>exact .inr fun hh X _=>oo z
 | @n k m f l x T =>
  rcases g.kind T with ⟨e,_⟩ | ⟨a,b,ma,mb,y,z,fa,la,fb,lb,e,e2,_,A,B,x1,x2,_⟩
  ·exact .inr fun hh X S=>uh S T.n1 e
  ·refine .inl ⟨k,a,b,rfl,T.n1,e,fun st=>?_⟩
   rw [du T,du A,x2]
   have:=A.ky.ht
   have:=B.ky.ht
   have:(iZ ma mb).ht=max ma.ht mb.ht+1:=rfl
   omega
abbrev CI:SB:=aK (ah aZ (ah au (ae 1) (bL bG (af (.int 1)))) (ah au (ae 2) (bL bG (af (.int 1)))))
def two (h:AH) (W V:Nat) (L R:List Un):AH:=(h.set W (.lst (L.reverse.map uv))).set V (.lst (R.reverse.map uv))
theorem z9 (h:AH) (W V:Nat) (L L1 R:List Un):two (h.set W (.lst (L1.reverse.map uv))) W V L R=two h W V L R:=by
 unfold two
 rw [Lq]
theorem Aa (h:AH) {W V:Nat} (ne:W≠V) (L R1 R:List Un):two (h.set V (.lst (R1.reverse.map uv))) W V L R=two h W V L R:=by
 unfold two
 rw [M9 _ _ ne.symm,Lq]
theorem Hv {h:AH} {W V:Nat} {L R:List Un} (eW:h[W]? = some (.lst (L.reverse.map uv))) (eV:h[V]? = some (.lst (R.reverse.map uv))):two h W V L R=h:=by
 unfold two
 rw [lV eW,lV eV]
def Hw (ps:List Pc) (p W V:Nat) (L R:List Un) (h:AH) (o:dI):Prop :=
 (∃ u l r e3 e4 e5,Op ps L (u::l)/\Op ps R (u::r)/\o = .nx [some (.ref p),some (.ref W),some (.ref V),e3,e4,e5] (two h W V (u::l) (u::r))) \/
 (∃ x L0 y R0,aT ps 90 L=(x,L0)/\aT ps 90 R=(y,R0)/\o = .rt (.str (bP x (cE x.cps.toList y.cps.toList))) (two h W V (bC (bF x (cE x.cps.toList y.cps.toList)) L0) (bC (bF y (cE x.cps.toList y.cps.toList)) R0)))
theorem uK {p W V:Nat} {ps:List Pc} (g:Good ps) (hW:p+8<W) (hV:p+8<V) (ne:W≠V):∀ (fuel:Nat) (L R:List Un) (h:AH) (o3 o4 o5:Option AV),ShelfAt h p ps->(∀ u∈L,OkI ps u)->(∀ u∈R,OkI ps u)->L≠[]->R≠[]->hU ps L+hU ps R<fuel->L.length+hU ps L<=800000->R.length+hU ps R<=800000 ->
  h[W]? = some (.lst (L.reverse.map uv))->h[V]? = some (.lst (R.reverse.map uv))->Hw ps p W V L R h (bU CI kq fuel [some (.ref p),some (.ref W),some (.ref V),o3,o4,o5] h)
 | 0,L,R,h,o3,o4,o5,S,okL,okR,nL,nR,hf,lL,lR,eW,eV=>absurd hf (Lm _)
 | fu+1,[],R,h,o3,o4,o5,S,okL,okR,nL,nR,hf,lL,lR,eW,eV=>absurd rfl nL
 | fu+1,u::l,[],h,o3,o4,o5,S,okL,okR,nL,nR,hf,lL,lR,eW,eV=>absurd rfl nR
 | fu+1,u::l,v::r,h,o3,o4,o5,S,okL,okR,nL,nR,hf,lL,lR,eW,eV=>by
  have i1:=qt eW
  have i2:=qt eV
  obtain ⟨q,ne1,ne2⟩:=zV u v h
  have ou:=okL u (KF ..)
  have ov:=okR v (KF ..)
  have ll:(u::l).length=l.length+1:=rfl
  have lr:(v::r).length=r.length+1:=rfl
  have cn:CI [some (.ref p),some (.ref W),some (.ref V),o3,o4,o5] h = .ok q h:=by
   generalize uv u=UU at *
   generalize uv v=VV at *
   simp [CI,i1,i2,ne1,-au,-aZ]
  cases q with
  | false =>
   have huv:u=v:=ne2.mp rfl
   subst huv
   rw [jv cn]
   exact .inl ⟨u,l,r,o3,o4,o5,.refl _,.refl _,by rw [Hv eW eV]⟩
  | true =>
   obtain ⟨b,pk⟩:=Hu (o3:=o3) (o4:=o4) (o5:=o5) S eW eV ou ov
   obtain ⟨x,L0,e1⟩:∃ x L0,aT ps 90 (u::l)=(x,L0):=⟨_,_,rfl⟩
   obtain ⟨y,R0,e2⟩:∃ y R0,aT ps 90 (v::r)=(y,R0):=⟨_,_,rfl⟩
   have cs:=Hs S g hW hV ne okL okR (by lia) (by lia) eW eV e1 e2
   cases b with
   | true =>
    rcases zZ (p:=p) g ov with ⟨k,a,c,rfl,k1,e,hh⟩ | of
    ·obtain ⟨d3,d4,d5,eb⟩:=zX S pk (.inl ⟨rfl,rfl⟩) hV eV k1 e (by lia)
     rw [lT cn eb]
     have hh' := hh r
     have lr2:(.n a :: .n c::r:List Un).length=r.length+2:=rfl
     have ih:=uK g hW hV ne fu (u::l) (.n a :: .n c::r) (h.set V (.lst ((.n a :: .n c::r).reverse.map uv))) d3 d4 d5 (eQ S hV _) okL (mO g okR e) nL (fun z=>by cases z) (by lia) lL (by lia)
      (by rw [KM ne.symm];exact eW) (KG (bO eV))
     have o1:Op ps (.n k::r) (.n a :: .n c::r):=.open (.refl _) e
     rcases ih with ⟨u',l',r',f3,f4,f5,q1,q2,q3⟩ | ⟨x',L',y',R',q1,q2,q3⟩
     ·exact .inl ⟨u',l',r',f3,f4,f5,q1,zU o1 q2,by rw [q3,Aa h ne]⟩
     ·exact .inr ⟨x',L',y',R',q1,(ow g o1 okR).trans q2,by rw [q3,Aa h ne]⟩
    ·rw [ju cn (zY pk (.inl ⟨rfl,rfl⟩) eV (of _ _ (eQ S hV _)) (by lia) cs)]
     exact .inr ⟨x,L0,y,R0,e1,e2,rfl⟩
   | false =>
    rcases zZ (p:=p) g ou with ⟨k,a,c,rfl,k1,e,hh⟩ | of
    ·obtain ⟨d3,d4,d5,eb⟩:=zX S pk (.inr ⟨rfl,rfl⟩) hW eW k1 e (by lia)
     rw [lT cn eb]
     have hh' := hh l
     have lr2:(.n a :: .n c::l:List Un).length=l.length+2:=rfl
     have ih:=uK g hW hV ne fu (.n a :: .n c::l) (v::r) (h.set W (.lst ((.n a :: .n c::l).reverse.map uv))) d3 d4 d5 (eQ S hW _) (mO g okL e) okR (fun z=>by cases z) nR (by lia) (by lia) lR
      (KG (bO eW)) (by rw [KM ne];exact eV)
     have o1:Op ps (.n k::l) (.n a :: .n c::l):=.open (.refl _) e
     rcases ih with ⟨u',l',r',f3,f4,f5,q1,q2,q3⟩ | ⟨x',L',y',R',q1,q2,q3⟩
     ·exact .inl ⟨u',l',r',f3,f4,f5,zU o1 q1,q2,by rw [q3,z9]⟩
     ·exact .inr ⟨x',L',y',R',(ow g o1 okL).trans q1,q2,by rw [q3,z9]⟩
    ·rw [ju cn (zY pk (.inr ⟨rfl,rfl⟩) eW (of _ _ (eQ S hW _)) (by lia) cs)]
     exact .inr ⟨x,L0,y,R0,e1,e2,rfl⟩
theorem Hx {h:AH} {p W V:Nat} {ps:List Pc} {L R:List Un} (S:ShelfAt h p ps) (g:Good ps) (hW:p+8<W) (hV:p+8<V) (ne:W≠V) (okL:∀ u∈L,OkI ps u) (okR:∀ u∈R,OkI ps u) (nL:L≠[]) (nR:R≠[]) (lL:L.length<=700000) (lR:R.length<=700000) (eW:h[W]? = some (.lst (L.reverse.map uv))) (eV:h[V]? = some (.lst (R.reverse.map uv))) :
  (∃ u l r,Op ps L (u::l)/\Op ps R (u::r)/\kr [.ref p,.ref W,.ref V] h = .ok (uv u) (two h W V l r)) \/
  (∃ x L0 y R0,aT ps 90 L=(x,L0)/\aT ps 90 R=(y,R0)/\kr [.ref p,.ref W,.ref V] h = .ok (.str (bP x (cE x.cps.toList y.cps.toList))) (two h W V (bC (bF x (cE x.cps.toList y.cps.toList)) L0) (bC (bF y (cE x.cps.toList y.cps.toList)) R0))):=by
 have a1:=eE g (bK okL)
 have a2:=eE g (bK okR)
 rcases uK g hW hV ne cO L R h none none none S okL okR nL nR (K7 (m:=166) (by lia) (by decide)) (by lia) (by lia) eW eV with ⟨u,l,r,e3,e4,e5,q1,q2,q3⟩ | ⟨x,L0,y,R0,q1,q2,q3⟩
 ·refine .inl ⟨u,l,r,q1,q2,?_⟩
  have hWl:=bO eW
  have hVl:=bO eV
  have g1:(two h W V (u::l) (u::r))[V]? = some (.lst (r.reverse.map uv++[uv u])):=by
   unfold two
   rw [KG (by rw [LI];exact hVl),gP]
  have p1:=gn g1
  have h1:(two h W V (u::l) (u::r)).set V (.lst (r.reverse.map uv))=two h W V (u::l) r:=by
   unfold two
   rw [Lq]
  rw [h1] at p1
  have g2:(two h W V (u::l) r)[W]? = some (.lst (l.reverse.map uv++[uv u])):=by
   unfold two
   rw [KM ne.symm,KG hWl,gP]
  have p2:=gn g2
  have h2:(two h W V (u::l) r).set W (.lst (l.reverse.map uv))=two h W V l r:=by
   unfold two
   rw [M9 _ _ ne.symm,Lq]
  rw [h2] at p2
  have is1:bq (.ref V) (two h W V (u::l) (u::r))=true:=by simp [g1]
  have is2:bq (.ref W) (two h W V (u::l) r)=true:=by simp [g2]
  unfold kr
  generalize bU CI kq cO=WL at *
  generalize two h W V (u::l) (u::r)=H1 at *
  generalize two h W V (u::l) r=H2 at *
  generalize two h W V l r=H3 at *
  generalize uv u=UU at *
  simp [q3,is1,is2,p1,p2,-bq,-bY]
 ·refine .inr ⟨x,L0,y,R0,q1,q2,?_⟩
  unfold kr
  generalize bU CI kq cO=WL at *
  generalize two h W V (bC (bF x (cE x.cps.toList y.cps.toList)) L0) (bC (bF y (cE x.cps.toList y.cps.toList)) R0)=H1 at *
  generalize bP x (cE x.cps.toList y.cps.toList)=XX at *
  simp [q3]
end Sk
namespace Sk
open PySem PySem.Spec L2 Sm
theorem Hy {ps:List Pc} (g:Good ps) {s L:List Un} (o:Op ps s L) (ok:∀ u∈s,OkI ps u):br ps s=br ps L:=by
 induction o with
 | refl=>rfl
 | @«open» st j a b h e ih =>
  rw [ih]
  cases kF g h ok _ (KF ..) with
  | n T =>
   obtain ⟨ma,mb,y,z,fa,la,fb,lb,_,A,B,x1,_⟩:=ot g T e
   rw [br,br,br,g7 T,g7 A,g7 B,x1,eC,Lg]
theorem Hz {ps:List Pc} (g:Good ps) {H:Nat} {s L:List Un} (o:Op ps s L) (ok:∀ u∈s,OkI ps u) (b:Bd ps H s):Bd ps H L:=by
 induction o with
 | refl=>exact b
 | @«open» st j a b h e ih =>
  cases kF g h ok _ (KF ..) with
  | n T =>
   obtain ⟨ma,mb,y,z,fa,la,fb,lb,_,A,B,_,x2⟩:=ot g T e
   exact uy T A B x2 ih
theorem Cs.bd {ps:List Pc} (g:Good ps) {one items L:List Un} (c:Cs ps one items L) (ok1:∀ u∈one,OkU ps u) (b:Bd ps 83 one):L.length<=84:=by
 obtain ⟨s,e,ok,o⟩:=c.ex
 exact (Hz g o ok (qp g items ok1 e b)).len
structure Fs (ps:List Pc) (one items L:List Un):Prop where
 ex:∃ s,bf ps items one=some s/\(∀ u∈s,OkI ps u)/\(L=[] ↔ s=[])/\aT ps 90 L=aT ps 90 s
 ok:∀ u∈L,OkI ps u
 ln:L.length<=700000
theorem Cs.fs {ps:List Pc} (g:Good ps) {one items L:List Un} (c:Cs ps one items L) (ln:L.length<=84):Fs ps one items L:=by
 have ok:=c.oki g
 obtain ⟨s,e,oks,o⟩:=c.ex
 exact ⟨⟨s,e,oks,(zN o).symm,(ow g o oks).symm⟩,ok,by lia⟩
theorem Ab {ps:List Pc} {z:Str} {st:List Un} (q : ¬ z = ""):aT ps 90 (bC z st)=(z,st):=by
 unfold bC
 rw [KW q,fJ]
theorem Cs.stop {ps:List Pc} (g:Good ps) {one items L L0:List Un} {x:Str} (c:Cs ps one items L) (ln:L.length<=84) (nL:L≠[]) (e:aT ps 90 L=(x,L0)):Fs ps one items (bC (bF x 0) L0)/\sg1 ps (bC (bF x 0) L0)=bP x 1/\1<=x.length:=by
 have okL:=c.oki g
 have h82:=eE g (bK okL)
 have N:=i7 g 90 L (bK okL) (by lia)
 have N2:=uG g 90 L okL (by lia)
 rw [e] at N N2
 have z1:=N.z1 nL
 have nl:=N.ln
 dsimp only at z1 nl
 obtain ⟨l1,l8,pl⟩:=fS (show dP x=true from N2.2 nL)
 have xn : ¬ x = "" := fun q=>by rw [zaF] at q;lia
 rw [om]
 have nx:=Ab (ps:=ps) (st:=L0) xn
 obtain ⟨s,e1,oks,o⟩:=c.ex
 have pl2:=uo x L0
 refine ⟨⟨⟨s,e1,oks,⟨fun q=>?_,fun q=>?_⟩,?_⟩,zQ pl l8 N2.1,by lia⟩,?_,l1⟩
 ·unfold bC at q
  rw [KW xn] at q
  cases q
 ·exact absurd ((zN o).mp q) nL
 ·rw [nx,ow g o oks,e]
 ·unfold sg1
  rw [nx]
theorem HA {h:AH} {p W V:Nat} {ps:List Pc} {one other items L R:List Un} (S:ShelfAt h p ps) (g:Good ps) (hW:p+8<W) (hV:p+8<V) (ne:W≠V) (cL:Cs ps one items L) (cR:Cs ps other items R) (nL:L≠[]) (nR:R≠[]) (lL:L.length<=84) (lR:R.length<=84) (eW:h[W]? = some (.lst (L.reverse.map uv))) (eV:h[V]? = some (.lst (R.reverse.map uv))) :
  (∃ i L1 R1,kr [.ref p,.ref W,.ref V] h = .ok (uv i) (two h W V L1 R1)/\OkI ps i/\Cs ps one (items++[i]) L1/\Cs ps other (items++[i]) R1/\(br ps L1).length<(br ps L).length) \/
  (∃ L1 R1,kr [.ref p,.ref W,.ref V] h = .ok (.str "") (two h W V L1 R1)/\Fs ps one items L1/\Fs ps other items R1 /\ ¬ sg1 ps L1=sg1 ps R1):=by
 have okL:=cL.oki g
 have okR:=cR.oki g
 rcases Hx S g hW hV ne okL okR nL nR (by lia) (by lia) eW eV with ⟨u,l,r,o1,o2,f⟩ | ⟨x,L0,y,R0,e1,e2,f⟩
 ·have c1:=cL.opn o1
  have c2:=cR.opn o2
  have ou:=kF g o1 okL u (KF ..)
  have rd:=Hy g o1 okL
  have pos:=ou.u.pos
  have lt:(br ps l).length<(br ps L).length:=by
   rw [rd,br,KH]
   lia
  cases u with
  | n k=>exact .inl ⟨.n k,l,r,f,ou,c1.num g,c2.num g,lt⟩
  | s z =>
   cases ou with
   | s a =>
    obtain ⟨a1,a8,apl⟩:=fS a
    have t:=c1.txt g (fJ ps 90 z l) a1 (KC _)
    have t2:=c2.txt g (fJ ps 90 z r) a1 (KC _)
    have et:bP z z.length=z:=cU (by rw [gj,bB,Nh])
    have ed:bF z z.length = "" := cU (by rw [gO,bB,Mq];rfl)
    have ep:∀ st,bC "" st=st:=fun st=>by unfold bC;rw [KS rfl]
    rw [et,ed,ep] at t t2
    exact .inl ⟨.s z,l,r,f,.s a,t.2,t2.2,lt⟩
 ·obtain ⟨n,en⟩:∃ n,n=cE x.cps.toList y.cps.toList:=⟨_,rfl⟩
  have nl:=mP x.cps.toList y.cps.toList
  rw [<- bB,<- bB,<- en] at nl
  have tt:bP x n=bP y n:=cU (by rw [gj,gj,en,zR])
  by_cases q:n=0
  ·obtain ⟨s1,s2,s3⟩:=cL.stop g lL nL e1
   obtain ⟨t1,t2,t3⟩:=cR.stop g lR nR e2
   have dn:=Ho x.cps.toList y.cps.toList
   rw [<- en] at f dn
   rw [q] at f dn
   rw [t9] at f
   refine .inr ⟨_,_,f,s1,t1,fun z=>?_⟩
   rw [s2,t2] at z
   have z' := congrArg (fun w:Str=>w.cps.toList) z
   rw [gj,gj] at z'
   have:=(dn (by rw [MC,MC];exact z')).1
   rw [<- bB] at this
   lia
  ·rw [<- en] at f
   have t:=cL.txt g e1 (show 1<=n by lia) nl.1
   have t2:=cR.txt g e2 (show 1<=n by lia) nl.2
   rw [<- tt] at t2
   refine .inl ⟨.s (bP x n),_,_,f,t.1,t.2,t2.2,?_⟩
   have N:=i7 g 90 L (bK okL) (by have:=eE g (bK okL);lia)
   have rd:=N.rd
   rw [e1] at rd
   dsimp only at rd
   rw [rd,um,KH,KH,gO,Ln,<- bB]
   lia
theorem HB {c:SB} {b:SS} {n:Nat} {en e2:En} {h h2:AH} (e:c en h = .ok true h) (eb:b en h = .bk e2 h2):bU c b (n+1) en h = .nx e2 h2:=by
 simp only [bU,e,eb]
abbrev CW:SB:=dz (aK (ah aZ (ae 1) (bN ag))) (aK (ah aZ (ae 2) (bN ag)))
structure S3 (n0:Nat) (h0 h:AH) (p W V B:Nat) (ps:List Pc) (L R items:List Un):Prop where
 sh:ShelfAt h p ps
 eW:h[W]? = some (.lst (L.reverse.map uv))
 eV:h[V]? = some (.lst (R.reverse.map uv))
 eB:h[B]? = some (.lst (items.map uv))
 fr:∀ i,i<n0->h[i]? = h0[i]?
 nl:n0<=h.length
theorem S3.put {n0 p W V B:Nat} {h0 h:AH} {ps:List Pc} {L R items L1 R1:List Un} (s:S3 n0 h0 h p W V B ps L R items) (hW:p+8<W) (hV:p+8<V) (n1:W≠V) (n2:W≠B) (n3:V≠B) (wn:n0<=W) (vn:n0<=V):S3 n0 h0 (two h W V L1 R1) p W V B ps L1 R1 items:=by
 unfold two
 refine ⟨eQ (eQ s.sh hW _) hV _,?_,?_,?_,fun i hi=>?_,by rw [LI,LI];exact s.nl⟩
 ·rw [KM n1.symm,KG (bO s.eW)]
 ·exact KG (by rw [LI];exact bO s.eV)
 ·rw [KM n3,KM n2];exact s.eB
 ·rw [KM (by lia),KM (by lia)];exact s.fr i hi
theorem S3.add {n0 p W V B:Nat} {h0 h:AH} {ps:List Pc} {L R items:List Un} {i:Un} (s:S3 n0 h0 h p W V B ps L R items) (hB:p+8<B) (n2:W≠B) (n3:V≠B) (bn:n0<=B):S3 n0 h0 (h.set B (.lst ((items++[i]).map uv))) p W V B ps L R (items++[i]) :=
 ⟨eQ s.sh hB _,by rw [KM n2.symm];exact s.eW,by rw [KM n3.symm];exact s.eV,KG (bO s.eB),fun i hi=>by rw [KM (by lia)];exact s.fr i hi,by rw [LI];exact s.nl⟩
theorem uL {ps:List Pc} {i:Un} (o:OkI ps i) (h:AH):aC (uv i) (.str "") h = .ok (.bl false) h:=by
 cases o with
 | @n k m f l x T=>simp [bW,PyData.eqv]
 | @s z a =>
  have : ¬ z = "" := fun q=>by
   have:=(fS a).1
   rw [zaF] at q
   lia
  simp [bW,PyData.eqv,this]
theorem Ac {p W V B n0:Nat} {ps:List Pc} {h0:AH} {one other:List Un} (g:Good ps) (hW:p+8<W) (hV:p+8<V) (hB:p+8<B) (n1:W≠V) (n2:W≠B) (n3:V≠B) (wn:n0<=W) (vn:n0<=V) (bn:n0<=B) (ok1:∀ u∈one,OkU ps u) (ok2:∀ u∈other,OkU ps u) (b1:Bd ps 83 one) (b2:Bd ps 83 other):∀ (fuel:Nat) (items L R:List Un) (h:AH) (o4:Option AV),S3 n0 h0 h p W V B ps L R items->Cs ps one items L->Cs ps other items R->(∀ i∈items,OkI ps i)->(br ps L).length<fuel->items.length+(br ps L).length<=500000 ->
  ∃ items' L' R' h' o4',bU CW jo fuel [some (.ref p),some (.ref W),some (.ref V),some (.ref B),o4] h = .nx [some (.ref p),some (.ref W),some (.ref V),some (.ref B),o4'] h'/\S3 n0 h0 h' p W V B ps L' R' items'/\Fs ps one items' L'/\Fs ps other items' R'/\(∀ i∈items',OkI ps i)/\(L'=[]\/R'=[] \/ ¬ sg1 ps L'=sg1 ps R')
 | 0,items,L,R,h,o4,s,cL,cR,oi,hf,ln=>absurd hf (Lm _)
 | fu+1,items,[],R,h,o4,s,cL,cR,oi,hf,ln=>by
  have e1:=qk s.eW
  rw [jv (by simp [CW,e1,-aZ])]
  exact ⟨items,[],R,h,o4,rfl,s,cL.fs g (cL.bd g ok1 b1),cR.fs g (cR.bd g ok2 b2),oi,.inl rfl⟩
 | fu+1,items,u::l,[],h,o4,s,cL,cR,oi,hf,ln=>by
  have e1:=lU s.eW
  have e2:=qk s.eV
  rw [jv (by simp [CW,e1,e2,-aZ])]
  exact ⟨items,u::l,[],h,o4,rfl,s,cL.fs g (cL.bd g ok1 b1),cR.fs g (cR.bd g ok2 b2),oi,.inr (.inl rfl)⟩
 | fu+1,items,u::l,v::r,h,o4,s,cL,cR,oi,hf,ln=>by
  have e1:=lU s.eW
  have e2:=lU s.eV
  have cn:CW [some (.ref p),some (.ref W),some (.ref V),some (.ref B),o4] h = .ok true h:=by simp [CW,e1,e2,-aZ]
  rcases HA s.sh g hW hV n1 cL cR (fun z=>by cases z) (fun z=>by cases z) (cL.bd g ok1 b1) (cR.bd g ok2 b2) s.eW s.eV with ⟨i,L1,R1,f,o,c1,c2,lt⟩ | ⟨L1,R1,f,c1,c2,df⟩
  ·have s1:=s.put (L1:=L1) (R1:=R1) hW hV n1 n2 n3 wn vn
   obtain ⟨h1,eh1⟩:∃ h1,h1=two h W V L1 R1:=⟨_,rfl⟩
   rw [<- eh1] at f s1
   have eq:=uL o h1
   have is1:bq (.ref B) h1=true:=by simp [s1.eB]
   have l1:(items.map uv).length<sizeLine:=K7 (m:=500000) (by rw [K4];lia) (by decide)
   have ap:bV (.ref B) [uv i] h1 = .ok .non (h1.set B (.lst ((items++[i]).map uv))):=by
    simp only [bV,s1.eB,l1,Mc,Mw]
    rfl
   have s2:=s1.add (i:=i) hB n2 n3 bn
   obtain ⟨h2,eh2⟩:∃ h2,h2=h1.set B (.lst ((items++[i]).map uv)):=⟨_,rfl⟩
   rw [<- eh2] at ap s2
   have eb:jo [some (.ref p),some (.ref W),some (.ref V),some (.ref B),o4] h = .nx [some (.ref p),some (.ref W),some (.ref V),some (.ref B),some (uv i)] h2:=by
    generalize uv i=UI at *
    simp [jo,f,eq,is1,ap,-aC,-bq,-bV]
   rw [lT cn eb]
   have li:(items++[i]).length=items.length+1:=by simp
   exact Ac g hW hV hB n1 n2 n3 wn vn bn ok1 ok2 b1 b2 fu (items++[i]) L1 R1 h2 (some (uv i)) s2 c1 c2 (fun j hj=>(Lp.mp hj).elim (oi j) (fun q=>by rw [LH] at q;subst q;exact o)) (by lia) (by lia)
  ·have s1:=s.put (L1:=L1) (R1:=R1) hW hV n1 n2 n3 wn vn
   obtain ⟨h1,eh1⟩:∃ h1,h1=two h W V L1 R1:=⟨_,rfl⟩
   rw [<- eh1] at f s1
   have eq:aC (.str "") (.str "") h1 = .ok (.bl true) h1:=by simp
   have eb:jo [some (.ref p),some (.ref W),some (.ref V),some (.ref B),o4] h = .bk [some (.ref p),some (.ref W),some (.ref V),some (.ref B),some (.str "")] h1:=by
    simp [jo,f,eq,-aC]
   rw [HB cn eb]
   exact ⟨items,L1,R1,h1,_,rfl,s1,c1,c2,oi,.inr (.inr df)⟩
end Sk
namespace Sk
open PySem PySem.Spec L2 Sm
def zs (a:Nat):List Un:=if a=0 then [] else [.n a]
theorem ox:zs 0=[]:=rfl
theorem oy {ps:List Pc} {a:Nat} {m f l:Ms} {x:Str} (T:Tx ps a m x f l):zs a=[.n a]:=by
 have:=T.n1
 unfold zs
 rw [KW (by lia)]
theorem kG {ps:List Pc} {a:Nat} {x:Str} (T:TxZ ps a x):(∀ u∈zs a,OkI ps u)/\br ps (zs a)=x.cps.toList:=by
 rcases T with ⟨rfl,rfl⟩ | ⟨m,f,l,T⟩
 ·exact ⟨fun u hu=>(by cases hu),rfl⟩
 ·rw [oy T]
  exact ⟨fun u hu=>(by rw [LH] at hu;subst hu;exact .n T),by show iJ ps (.n a)++[]=_;rw [LC,g7 T]⟩
theorem qu {ps:List Pc} (g:Good ps) {a:Nat} {x:Str} (T:TxZ ps a x):Bd ps 83 (zs a):=by
 rcases T with ⟨rfl,rfl⟩ | ⟨m,f,l,T⟩
 ·trivial
 ·rw [oy T];exact qr g T
def LfV (p n0:Nat) (h:AH) (v:AV) (s:List Un):Prop:=(∃ W,v = .ref W/\n0<=W/\p+8<W/\h[W]? = some (.lst (s.reverse.map uv)))\/(v = .fl []/\s=[])
theorem LfV.isn {p n0:Nat} {h:AH} {v:AV} {s:List Un} (l:LfV p n0 h v s):bg v .non h = .ok (.bl false) h:=by
 rcases l with ⟨W,rfl,_⟩ | ⟨rfl,_⟩
 ·exact Hi W h
 ·simp
theorem LfV.eq {p n0:Nat} {h:AH} {v:AV} {s:List Un} (l:LfV p n0 h v s):aC v (.fl []) h = .ok (.bl (decide (s=[]))) h:=by
 rcases l with ⟨W,rfl,_,_,e⟩ | ⟨rfl,rfl⟩
 ·exact zI e
 ·simp [bW,bT,PyData.eqv,PyData.eqvAll]
theorem LfV.ne {p n0:Nat} {h:AH} {v:AV} {s:List Un} (l:LfV p n0 h v s):aZ v (.fl []) h = .ok (.bl (!decide (s=[]))) h:=by
 have e:=l.eq
 have q:aC v (.fl []) h=(match fW v (.fl []) h with | some b=>.ok (.bl b) h | none=>.bad):=rfl
 rw [q] at e
 show (match fW v (.fl []) h with | some b=>Out.ok (AV.bl (!b)) h | none=>.bad)=_
 cases hh:fW v (.fl []) h with
 | none=>rw [hh] at e;cases e
 | some b=>rw [hh] at e;cases e;rfl
theorem LfV.fr {p n0:Nat} {h h2:AH} {v:AV} {s:List Un} (l:LfV p n0 h v s) (k:∀ W,v = .ref W->h2[W]? = h[W]?):LfV p n0 h2 v s:=by
 rcases l with ⟨W,rfl,a,b,e⟩ | ⟨rfl,rfl⟩
 ·exact .inl ⟨W,rfl,a,b,(k W rfl).trans e⟩
 ·exact .inr ⟨rfl,rfl⟩
theorem Ad {h:AH} {p:Nat}:jn [.ref p,.fl []] h = .ok (.str "") h:=by
 have nn:aZ (.fl []) (.fl []) h = .ok (.bl false) h:=by simp [bW,bT,PyData.eqv,PyData.eqvAll]
 have wl:∀ n,bU CN gJ (n+1) [some (.ref p),some (.fl []),none] h = .nx [some (.ref p),some (.fl []),none] h:=fun n=>jv (by simp [nn,-aZ])
 have wl':bU CN gJ cO [some (.ref p),some (.fl []),none] h = .nx [some (.ref p),some (.fl []),none] h:=wl _
 unfold jn
 generalize bU CN gJ cO=WL at *
 simp [wl']
theorem LfV.nsg {p n0:Nat} {ps:List Pc} {h:AH} {v:AV} {s:List Un} (l:LfV p n0 h v s) (S:ShelfAt h p ps) (g:Good ps) (ok:∀ u∈s,OkU ps u) (ls:s.length<=900000):∃ h',jW [.ref p,v] h = .ok (.str (sg1 ps s)) h'/\ShelfAt h' p ps/\(∀ i,v ≠ .ref i->h'[i]? = h[i]?)/\(∀ i,i<n0->h'[i]? = h[i]?)/\h'.length=h.length:=by
 rcases l with ⟨W,rfl,a,b,e⟩ | ⟨rfl,rfl⟩
 ·exact ⟨_,Hh S g b ok ls e,eQ S b _,fun i hi=>KM (fun q=>hi (by rw [q])),fun i hi=>KM (by lia),LI⟩
 ·refine ⟨h,?_,S,fun _ _=>rfl,fun _ _=>rfl,rfl⟩
  have e:sg1 ps [] = "" := rfl
  rw [e]
  have nn:=Ad (h:=h) (p:=p)
  have c:bI (.str "") none (some 1) h = .ok (.str "") h:=rfl
  simp [jW,nn,c,-bI]
theorem uM {ps:List Pc} {i:Un} (o:OkI ps i):dH ps i []=none:=by
 cases o with
 | n T=>rfl
 | @s z a =>
  show dD ps 10 z []=none
  have : ¬ z = "" := fun q=>by
   have:=(fS a).1
   rw [zaF] at q
   lia
  rw [dD,KW this,KS (.inl (by show min 0 z.length=0;lia))]
theorem Ae {h:AH} {p:Nat} {ps:List Pc} {i:Un} (S:ShelfAt h p ps) (oi:OkI ps i):fO [.ref p,.fl [],uv i] h = .ok (.bl false) h:=by
 have ob:=S.ob
 have nn:aZ (.fl []) (.fl []) h = .ok (.bl false) h:=by simp [bW,bT,PyData.eqv,PyData.eqvAll]
 cases oi with
 | @n k m f l x T =>
  have hp:gc [.ref p,.int k] h = .ok (.bl true) h:=by
   rw [p9 S]
   have:=T.n1
   have:=T.le
   rw [KQ (by lia)]
  have wl:∀ n,bU CN gw (n+1) [some (.ref p),some (.fl []),some (.int k),none] h = .nx [some (.ref p),some (.fl []),some (.int k),none] h:=fun n=>jv (by simp [nn,-aZ])
  have wl':bU CN gw cO [some (.ref p),some (.fl []),some (.int k),none] h = .nx [some (.ref p),some (.fl []),some (.int k),none] h:=wl _
  have tp:jX [.ref p,.fl [],.int k] h = .ok (.bl false) h:=by
   unfold jX
   generalize bU CN gw cO=WL at *
   simp [wl']
  simp [fO,ob,hp,tp]
 | @s w a =>
  obtain ⟨w1,w8,_⟩:=fS a
  have hp:gc [.ref p,.str w] h = .ok (.bl false) h:=by
   simp [gc,iS,ob]
  have sh:ik [.str w] h = .ok (.bl true) h:=by rw [nY w h (KN w8 (by decide)),a]
  have ne:aZ (.str w) (.str "") h = .ok (.bl true) h:=by
   have : ¬ w = "" := fun q=>by rw [zaF] at q;lia
   simp [this]
  have cn:CP [some (.ref p),some (.fl []),some (.str w),some (.str w),none,none] h = .ok true h:=by simp [ne,-aZ]
  have nx:=Ad (h:=h) (p:=p)
  have l1:ax [.str ""] h = .ok (.int 0) h:=rfl
  have l2:ax [.str w] h = .ok (.int w.length) h:=rfl
  have mn:fX [.int 0,.int w.length] h = .ok (.int 0) h:=by
   have:fX [.int 0,.int w.length] h = .ok (.int (if (w.length:Int)<0 then (w.length:Int) else 0)) h:=rfl
   rw [this,KW (by lia)]
  have e0:aC (.int 0) (.int 0) h = .ok (.bl true) h:=by simp
  have eb:gK [some (.ref p),some (.fl []),some (.str w),some (.str w),none,none] h = .rt (.bl false) h:=by
   generalize (w.length:Int)=WL at *
   simp [gK,nx,l1,l2,mn,e0,-ax,-fX,-aC]
  have wl:∀ n,bU CP gK (n+1) [some (.ref p),some (.fl []),some (.str w),some (.str w),none,none] h = .rt (.bl false) h:=fun n=>ju cn eb
  have wl':bU CP gK cO [some (.ref p),some (.fl []),some (.str w),some (.str w),none,none] h = .rt (.bl false) h:=wl _
  have tp:ku [.ref p,.fl [],.str w] h = .ok (.bl false) h:=by
   unfold ku
   generalize bU CP gK cO=WL at *
   simp [wl']
  simp [fO,ob,hp,sh,tp]
theorem qw {h h':AH} (k:∀ i,i<h.length->h'[i]? = h[i]?) (l:h.length<=h'.length):∃ r,h'=h++r:=by
 refine ⟨h'.drop h.length,Mn fun i=>?_⟩
 by_cases q:i<h.length
 ·rw [k i q,KA q]
 ·rw [Lu (by lia),Mh]
  congr 1
  lia
theorem LfV.app {p n0:Nat} {h:AH} {v:AV} {s:List Un} (l:LfV p n0 h v s) (r:AH):LfV p n0 (h++r) v s:=by
 rcases l with ⟨W,rfl,a,b,e⟩ | ⟨rfl,rfl⟩
 ·exact .inl ⟨W,rfl,a,b,by rw [KA (bO e)];exact e⟩
 ·exact .inr ⟨rfl,rfl⟩
theorem LfV.below {p n0:Nat} {h:AH} {v:AV} {s:List Un} (l:LfV p n0 h v s) {n1 i:Nat} (q:v = .ref i) (hn:h.length<=n1):i<n1:=by
 rcases l with ⟨W,rfl,a,b,e⟩ | ⟨rfl,rfl⟩
 ·cases q
  exact La (bO e) hn
 ·cases q
theorem LfV.above {p n0:Nat} {h:AH} {v:AV} {s:List Un} (l:LfV p n0 h v s) {i:Nat} (hi:i<n0):v ≠ .ref i:=by
 rcases l with ⟨W,rfl,a,b,e⟩ | ⟨rfl,rfl⟩
 ·intro q;cases q;lia
 ·intro q;cases q
theorem uN {h:AH} {p:Nat} {ps:List Pc} (S:ShelfAt h p ps):iE [.ref p,.int 0] h = .ok (.fl []) h:=by
 have ck:ij [.ref p,.int 0] h = .ok .non h:=kB S (Lc _)
 have t0:aC (.int 0) (.int 0) h = .ok (.bl true) h:=by simp
 simp [iE,S.ob,ck,t0,-aC]
theorem qx {h:AH} {p t:Nat} {ps:List Pc} {its:List Un} {v:AV} {w:Option Nat} {x:Str} (S:ShelfAt h p ps) (g:Good ps) (T:TxZ ps t x) (sr:SrcI h its v w) (oi:∀ i∈its,OkI ps i) :
  ∃ r,(∃ s v',bf ps its (zs t)=some s/\gW [.ref p,.int t,v] h = .ok v' (h++r)/\LfV p h.length (h++r) v' s)\/(bf ps its (zs t)=none/\gW [.ref p,.int t,v] h = .ok .non (h++r)):=by
 rcases T with ⟨rfl,rfl⟩ | ⟨m,f,l,T⟩
 ·refine ⟨[],?_⟩
  rw [LC,ox]
  have wl:=uN S
  have it:bc (ae 2) [some (.ref p),some (.int 0),some v,some (.fl []),none] h = .ok (its.map uv,w) h:=by
   cases sr with
   | ref e=>simp [e]
   | fl =>
    generalize its.map uv=Q at *
    simp
  have fo:=gz (t:=.nm 4) (b:=de) it
  have lv:=sr.live (hh:=h) (fun _ _=>rfl)
  cases its with
  | nil =>
   refine .inl ⟨[],.fl [],rfl,?_,.inr ⟨rfl,rfl⟩⟩
   have go:cH w (([]:List Un).map uv) (.nm 4) de (([]:List Un).map uv) [some (.ref p),some (.int 0),some v,some (.fl []),none] h = .nx [some (.ref p),some (.int 0),some v,some (.fl []),none] h:=by
    show cH w (([]:List Un).map uv) (.nm 4) de [] _ h=_
    unfold cH
    rw [KS lv]
   have fo' := fo.trans go
   unfold gW
   generalize bp (bc (ae 2)) (.nm 4) de=FF at *
   simp [wl,fo']
  | cons i its =>
   have o:=oi i (KF ..)
   refine .inr ⟨?_,?_⟩
   ·show (dH ps i []).bind _=none
    rw [uM o]
    rfl
   ·have tk:=Ae S o
    have eb:de [some (.ref p),some (.int 0),some v,some (.fl []),some (uv i)] h = .rt .non h:=by
     generalize uv i=UI at *
     simp [de,tk]
    have go:cH w ((i::its).map uv) (.nm 4) de ((i::its).map uv) [some (.ref p),some (.int 0),some v,some (.fl []),none] h = .rt .non h:=by
     generalize hA:(i::its).map uv=ALL at lv ⊢
     rw [<- hA]
     show cH w ((i::its).map uv) (.nm 4) de (uv i::its.map uv) _ h=_
     rw [hA]
     unfold cH
     rw [KS lv]
     have st:dB (.nm 4) (uv i) [some (.ref p),some (.int 0),some v,some (.fl []),none]=some [some (.ref p),some (.int 0),some v,some (.fl []),some (uv i)]:=rfl
     rw [st]
     dsimp only
     rw [eb]
    have fo' := fo.trans go
    unfold gW
    generalize bp (bc (ae 2)) (.nm 4) de=FF at *
    simp [wl,fo']
 ·rw [oy T]
  have hW:p+8<h.length:=bO S.h8
  rcases Hg S g T sr oi with ⟨s,e,f⟩ | ⟨e,Z,f⟩
  ·exact ⟨_,.inl ⟨s,_,e,f,.inl ⟨h.length,rfl,KC _,hW,by simp⟩⟩⟩
  ·exact ⟨_,.inr ⟨e,f⟩⟩
theorem uO {h:AH} {p a b:Nat} {ps:List Pc} {its:List Un} {v:AV} {w:Option Nat} {x y:Str} (S:ShelfAt h p ps) (g:Good ps) (A:TxZ ps a x) (B:TxZ ps b y) (sr:SrcI h its v w) (oi:∀ i∈its,OkI ps i) :
  ∃ (r:AH) (q:Bool),dY [.ref p,.int a,.int b,.tup [.str "alike",v]] h = .ok (.bl q) (h++r)/\(q=true ↔ (bf ps its (zs a)=some []/\bf ps its (zs b)=some [])):=by
 have i0:∀ hh,au (.tup [.str "alike",v]) (.int 0) hh = .ok (.str "alike") hh:=fun _=>rfl
 have i1:∀ hh,au (.tup [.str "alike",v]) (.int 1) hh = .ok v hh:=fun _=>rfl
 obtain ⟨r1,q1⟩:=qx S g A sr oi
 have S1:=S.app r1
 have sr1:=sr.mono (hh:=h++r1) (fun i hi=>KA hi)
 obtain ⟨h1,eh1⟩:∃ h1,h1=h++r1:=⟨_,rfl⟩
 rw [<- eh1] at q1 S1 sr1
 obtain ⟨r2,q2⟩:=qx S1 g B sr1 oi
 obtain ⟨H,eH⟩:∃ H,H=h1++r2:=⟨_,rfl⟩
 have er:H=h++(r1++r2):=by rw [eH,eh1,Lg]
 refine ⟨r1++r2,?_⟩
 rw [<- er]
 rw [<- eH] at q2
 rcases q1 with ⟨s1,v1,e1,f1,l1⟩ | ⟨e1,f1⟩
 ·rcases q2 with ⟨s2,v2,e2,f2,l2⟩ | ⟨e2,f2⟩
  ·have l1' := l1.app r2
   rw [<- eH] at l1'
   have t1:aC (.str "alike") (.str "alike") H = .ok (.bl true) H:=by simp
   have ln:ax [.tup [.str "alike",v]] H = .ok (.int 2) H:=rfl
   have t2:aC (.int 2) (.int 2) H = .ok (.bl true) H:=by simp
   have n1:=l1'.isn
   have n2:=l2.isn
   have g1:=l1'.eq
   have g2:=l2.eq
   rw [e1,e2]
   clear S S1 sr sr1 l1 l1' l2 eh1 eH er A B
   by_cases z:s1=[]
   ·rw [KQ z] at g1
    by_cases z2:s2=[]
    ·rw [KQ z2] at g2
     refine ⟨true,?_,⟨fun _=>⟨by rw [z],by rw [z2]⟩,fun _=>rfl⟩⟩
     simp [dY,i0,i1,f1,f2,n1,n2,t1,ln,t2,g1,g2,-au,-bg,-aC,-ax]
    ·rw [KD z2] at g2
     refine ⟨false,?_,⟨fun q=>(by cases q),fun q=>absurd (Lj q.2) z2⟩⟩
     simp [dY,i0,i1,f1,f2,n1,n2,t1,ln,t2,g1,g2,-au,-bg,-aC,-ax]
   ·rw [KD z] at g1
    refine ⟨false,?_,⟨fun q=>(by cases q),fun q=>absurd (Lj q.1) z⟩⟩
    simp [dY,i0,i1,f1,f2,n1,n2,t1,ln,t2,g1,g2,-au,-bg,-aC,-ax]
  ·have l1' := l1.app r2
   rw [<- eH] at l1'
   have n1:=l1'.isn
   have n2:=mM H
   refine ⟨false,?_,⟨fun q=>(by cases q),fun q=>(by rw [e2] at q;cases q.2)⟩⟩
   simp [dY,i1,f1,f2,n1,n2,-au,-bg]
 ·have n1:=mM H
  refine ⟨false,?_,⟨fun q=>(by cases q),fun q=>(by rw [e1] at q;cases q.1)⟩⟩
  rcases q2 with ⟨s2,v2,e2,f2,l2⟩ | ⟨e2,f2⟩
  ·simp [dY,i1,f1,f2,n1,-au,-bg]
  ·simp [dY,i1,f1,f2,n1,-au,-bg]
def oz (ps:List Pc) (its:List Un) (a b:Nat) (c d:Str):Prop:=∃ s1 s2,bf ps its (zs a)=some s1/\bf ps its (zs b)=some s2/\c=sg1 ps s1/\d=sg1 ps s2 /\ ¬ c=d
theorem uP {h:AH} {p a b:Nat} {ps:List Pc} {its:List Un} {v:AV} {w:Option Nat} {x y c d:Str} (S:ShelfAt h p ps) (g:Good ps) (A:TxZ ps a x) (B:TxZ ps b y) (sr:SrcI h its v w) (oi:∀ i∈its,OkI ps i) :
  ∃ (r:AH) (q:Bool),dY [.ref p,.int a,.int b,.tup [.str "apart",v,.str c,.str d]] h = .ok (.bl q) (h++r)/\(q=true ↔ oz ps its a b c d):=by
 have i0:∀ hh,au (.tup [.str "apart",v,.str c,.str d]) (.int 0) hh = .ok (.str "apart") hh:=fun _=>rfl
 have i1:∀ hh,au (.tup [.str "apart",v,.str c,.str d]) (.int 1) hh = .ok v hh:=fun _=>rfl
 obtain ⟨r1,q1⟩:=qx S g A sr oi
 have S1:=S.app r1
 have sr1:=sr.mono (hh:=h++r1) (fun i hi=>KA hi)
 obtain ⟨h1,eh1⟩:∃ h1,h1=h++r1:=⟨_,rfl⟩
 rw [<- eh1] at q1 S1 sr1
 obtain ⟨r2,q2⟩:=qx S1 g B sr1 oi
 have S2:=S1.app r2
 obtain ⟨H,eH⟩:∃ H,H=h1++r2:=⟨_,rfl⟩
 have er:H=h++(r1++r2):=by rw [eH,eh1,Lg]
 rw [<- eH] at q2 S2
 rcases q1 with ⟨s1,v1,e1,f1,l1⟩ | ⟨e1,f1⟩
 ·rcases q2 with ⟨s2,v2,e2,f2,l2⟩ | ⟨e2,f2⟩
  ·have l1' := l1.app r2
   rw [<- eH] at l1'
   have oa:=bK (kG A).1
   have ob:=bK (kG B).1
   have ok1:=(lW g its oa e1).2
   have ok2:=(lW g its ob e2).2
   have b1:=(qp g its oa e1 (qu g A)).len
   have b2:=(qp g its ob e2 (qu g B)).len
   obtain ⟨h3,ns1,S3,k3,k3',n3⟩:=l1'.nsg S2 g ok1 (by lia)
   have l2':LfV p h1.length h3 v2 s2:=l2.fr fun W hw=>k3 W (fun q=>by
    have w1:=l1.below q (KC _)
    exact l2.above w1 hw)
   obtain ⟨h4,ns2,S4,k4,k4',n4⟩:=l2'.nsg S3 g ok2 (by lia)
   have hl:h.length<=h1.length:=by rw [eh1,KH];lia
   obtain ⟨r,hr⟩:∃ r,h4=h++r:=by
    refine qw (fun i hi=>?_) ?_
    ·rw [k4' i (by lia),k3' i hi,er,KA hi]
    ·rw [n4,n3,er,KH];lia
   have n1:=l1'.isn
   have n2:=l2.isn
   have t1:aC (.str "apart") (.str "alike") H = .ok (.bl false) H:=by
    have : ¬ (Str.ofString "apart" : Str)=Str.ofString "alike" := by decide +kernel
    simp [this]
   have t2:aC (.str "apart") (.str "apart") h4 = .ok (.bl true) h4:=by simp
   have cu:bI (.tup [.str "apart",v,.str c,.str d]) (some 2) none h4 = .ok (.tup [.str c,.str d]) h4:=rfl
   have eqp:=zJ c d (sg1 ps s1) (sg1 ps s2) h4
   have j0:au (.tup [.str (sg1 ps s1),.str (sg1 ps s2)]) (.int 0) h4 = .ok (.str (sg1 ps s1)) h4:=rfl
   have j1:au (.tup [.str (sg1 ps s1),.str (sg1 ps s2)]) (.int 1) h4 = .ok (.str (sg1 ps s2)) h4:=rfl
   have ne:aZ (.str (sg1 ps s1)) (.str (sg1 ps s2)) h4 = .ok (.bl (!decide (sg1 ps s1=sg1 ps s2))) h4:=by simp
   have key:(oz ps its a b c d ↔ (c=sg1 ps s1/\d=sg1 ps s2) /\ ¬ sg1 ps s1=sg1 ps s2):=by
    constructor
    ·rintro ⟨u1,u2,v1,v2,v3,v4,v5⟩
     rw [e1] at v1;rw [e2] at v2
     cases v1;cases v2
     exact ⟨⟨v3,v4⟩,by rw [<- v3,<- v4];exact v5⟩
    ·rintro ⟨⟨v3,v4⟩,v5⟩
     exact ⟨s1,s2,e1,e2,v3,v4,by rw [v3,v4];exact v5⟩
   refine ⟨r,?_⟩
   rw [<- hr]
   clear S S1 S2 S3 S4 A B sr sr1 l1 l1' l2 l2' eh1 eH er hr k3 k3' k4 k4'
   by_cases z:c=sg1 ps s1/\d=sg1 ps s2
   ·rw [KQ z] at eqp
    by_cases z2:sg1 ps s1=sg1 ps s2
    ·rw [KQ z2] at ne
     refine ⟨false,?_,by rw [key];exact ⟨fun q=>(by cases q),fun q=>absurd z2 q.2⟩⟩
     generalize sg1 ps s1=G1 at *
     generalize sg1 ps s2=G2 at *
     simp [dY,i0,i1,f1,f2,n1,n2,t1,ns1,ns2,t2,cu,eqp,j0,j1,ne,-au,-bg,-aC,-aZ,-bI]
    ·rw [KD z2] at ne
     refine ⟨true,?_,by rw [key];exact ⟨fun _=>⟨z,z2⟩,fun _=>rfl⟩⟩
     generalize sg1 ps s1=G1 at *
     generalize sg1 ps s2=G2 at *
     simp [dY,i0,i1,f1,f2,n1,n2,t1,ns1,ns2,t2,cu,eqp,j0,j1,ne,-au,-bg,-aC,-aZ,-bI]
   ·rw [KD z] at eqp
    refine ⟨false,?_,by rw [key];exact ⟨fun q=>(by cases q),fun q=>absurd q.1 z⟩⟩
    generalize sg1 ps s1=G1 at *
    generalize sg1 ps s2=G2 at *
    simp [dY,i0,i1,f1,f2,n1,n2,t1,ns1,ns2,t2,cu,eqp,-au,-bg,-aC,-aZ,-bI]
  ·have l1' := l1.app r2
   rw [<- eH] at l1'
   have n1:=l1'.isn
   have n2:=mM H
   refine ⟨r1++r2,false,?_,⟨fun q=>(by cases q),fun q=>(by obtain ⟨_,_,_,z,_⟩:=q;rw [e2] at z;cases z)⟩⟩
   rw [<- er]
   simp [dY,i1,f1,f2,n1,n2,-au,-bg]
 ·have n1:=mM H
  refine ⟨r1++r2,false,?_,⟨fun q=>(by cases q),fun q=>(by obtain ⟨_,_,z,_⟩:=q;rw [e1] at z;cases z)⟩⟩
  rw [<- er]
  rcases q2 with ⟨s2,v2,e2,f2,l2⟩ | ⟨e2,f2⟩
  ·simp [dY,i1,f1,f2,n1,-au,-bg]
  ·simp [dY,i1,f1,f2,n1,-au,-bg]
end Sk
namespace Sk
open PySem PySem.Spec L2 Sm
theorem Ag {h:AH} {p a:Nat} {ps:List Pc} {x:Str} (S:ShelfAt h p ps) (A:TxZ ps a x):∃ r v,iE [.ref p,.int a] h = .ok v (h++r)/\LfV p h.length (h++r) v (zs a):=by
 rcases A with ⟨rfl,rfl⟩ | ⟨m,f,l,T⟩
 ·exact ⟨[],.fl [],by rw [LC];exact uN S,.inr ⟨rfl,rfl⟩⟩
 ·have hW:p+8<h.length:=bO S.h8
  have t1:=T.n1
  have t0:aC (.int a) (.int 0) h = .ok (.bl false) h:=by
   have:=dc a 0 h
   rw [KD (by lia)] at this
   exact this
  have ck:ij [.ref p,.int a] h = .ok .non h:=kB S (by have:=T.le;lia)
  refine ⟨[.lst [.int a]],.ref h.length,by simp [iE,S.ob,ck,t0,-aC],?_⟩
  rw [oy T]
  exact .inl ⟨h.length,rfl,KC _,hW,by simp⟩
theorem Ah {ps:List Pc} (g:Good ps) {R:List Un} (ok:∀ u∈R,OkI ps u) (ne:R≠[]) : ¬ sg1 ps R = "" := fun q=>by
 have e:=uF g (bK ok)
 rw [q] at e
 cases R with
 | nil=>exact ne rfl
 | cons u r =>
  have:=(bK ok u (KF ..)).pos
  have l:=congrArg List.length e
  rw [Lr,br,KH] at l
  have z:("" : Str).cps.toList.length=0:=rfl
  lia
structure Ci (ps:List Pc) (p n0 n1:Nat) (H h':AH) (v1 v2:AV) (one other items L R:List Un):Prop where
 sh:ShelfAt h' p ps
 eB:h'[H.length]? = some (.lst (items.map uv))
 l1:LfV p n0 h' v1 L
 l2:LfV p n1 h' v2 R
 f1:Fs ps one items L
 f2:Fs ps other items R
 oi:∀ i∈items,OkI ps i
 en:L=[]\/R=[] \/ ¬ sg1 ps L=sg1 ps R
 fr:∀ i,i<n0->h'[i]? = H[i]?
 nl:H.length<=h'.length
theorem HC {H:AH} {p a b n0 n1:Nat} {ps:List Pc} {x y:Str} {v1 v2:AV} (S:ShelfAt H p ps) (g:Good ps) (A:TxZ ps a x) (B:TxZ ps b y) (lx:x.length<=10000) (l1:LfV p n0 H v1 (zs a)) (l2:LfV p n1 H v2 (zs b)) (n01:n0<=n1) (nH:n1<=H.length) (df:∀ i,v1 = .ref i->i<n1) :
  ∃ items L R h',pT [.ref p,v1,v2] H = .ok (.ref H.length) h'/\Ci ps p n0 n1 H h' v1 v2 (zs a) (zs b) items L R:=by
 have oa:=(kG A).1
 have ob:=(kG B).1
 have hW:p+8<H.length:=bO S.h8
 have S1:=S.app [.lst []]
 have l1' := l1.app [.lst []]
 have l2' := l2.app [.lst []]
 have eB:(H++[AO.lst []])[H.length]? = some (.lst (([]:List Un).map uv)):=by simp
 have cA:Cs ps (zs a) [] (zs a):=⟨zs a,rfl,oa,.refl _⟩
 have cB:Cs ps (zs b) [] (zs b):=⟨zs b,rfl,ob,.refl _⟩
 have ba:=qu g A
 have bb:=qu g B
 have key:∃ items L R h' o4,bU CW jo cO [some (.ref p),some v1,some v2,some (.ref H.length),none] (H++[.lst []]) = .nx [some (.ref p),some v1,some v2,some (.ref H.length),o4] h'/\Ci ps p n0 n1 H h' v1 v2 (zs a) (zs b) items L R:=by
  have out:(zs a=[]\/zs b=[])->∃ items L R h' o4,bU CW jo cO [some (.ref p),some v1,some v2,some (.ref H.length),none] (H++[.lst []]) = .nx [some (.ref p),some v1,some v2,some (.ref H.length),o4] h'/\Ci ps p n0 n1 H h' v1 v2 (zs a) (zs b) items L R:=fun q=>by
   have cn:CW [some (.ref p),some v1,some v2,some (.ref H.length),none] (H++[.lst []]) = .ok false (H++[.lst []]):=by
    have e1:=l1'.ne
    have e2:=l2'.ne
    by_cases z:zs a=[]
    ·rw [KQ z] at e1
     simp [CW,e1,-aZ]
    ·rw [KD z] at e1
     rw [KQ (q.resolve_left z)] at e2
     simp [CW,e1,e2,-aZ]
   have wl:∀ n,bU CW jo (n+1) [some (.ref p),some v1,some v2,some (.ref H.length),none] (H++[.lst []]) = .nx [some (.ref p),some v1,some v2,some (.ref H.length),none] (H++[.lst []]):=fun n=>jv cn
   refine ⟨[],zs a,zs b,_,none,wl _,S1,eB,l1',l2',cA.fs g (cA.bd g (bK oa) ba),cB.fs g (cB.bd g (bK ob) bb),fun i hi=>(by cases hi),?_,fun i hi=>KA (by lia),by rw [KH];lia⟩
   exact q.elim .inl fun z=>.inr (.inl z)
  rcases id l1' with ⟨W,rfl,w1,w2,eW⟩ | ⟨_,z⟩
  ·rcases id l2' with ⟨V,rfl,u1,u2,eV⟩ | ⟨_,z⟩
   ·have wlt:=df W rfl
    have vlt:V<H.length:=by
     rcases l2 with ⟨V',q,_,_,e⟩ | ⟨q,_⟩
     ·cases q;exact bO e
     ·cases q
    obtain ⟨items,L,R,h',o4,lp,s3,f1,f2,oi,en⟩:=Ac (n0:=n0) (h0:=H) (one:=zs a) (other:=zs b) g w2 u2 hW (by lia) (by lia) (by lia) w1 (by lia) (by lia) (bK oa) (bK ob) ba bb cO [] (zs a) (zs b) (H++[.lst []]) none
     ⟨S1,eW,eV,eB,fun i hi=>KA (by lia),by rw [KH];lia⟩ cA cB (fun i hi=>(by cases hi)) (by rw [(kG A).2,<- bB];exact K7 lx (by decide)) (by rw [(kG A).2,<- bB];show 0+_<=_;lia)
    exact ⟨items,L,R,h',o4,lp,s3.sh,s3.eB,.inl ⟨W,rfl,w1,w2,s3.eW⟩,.inl ⟨V,rfl,u1,u2,s3.eV⟩,f1,f2,oi,en,s3.fr,Mf (bO s3.eB)⟩
   ·exact out (.inr z)
  ·exact out (.inl z)
 obtain ⟨items,L,R,h',o4,lp,ci⟩:=key
 refine ⟨items,L,R,h',?_,ci⟩
 clear ci cA cB l1 l2 l1' l2' df S S1 eB oa ob A B ba bb
 unfold pT
 generalize bU CW jo cO=WL at *
 simp [lp]
theorem HD {h:AH} {p a b:Nat} {ps:List Pc} {x y:Str} (S:ShelfAt h p ps) (g:Good ps) (A:TxZ ps a x) (B:TxZ ps b y) (lx:x.length<=10000) (ly:y.length<=10000) :
  ∃ (r:AH) (items:List Un) (I:Nat),h.length<=I/\(h++r)[I]? = some (.lst (items.map uv))/\(∀ i∈items,OkI ps i) /\
  ((iT [.ref p,.int a,.int b] h = .ok (.tup [.str "alike",.ref I]) (h++r)/\bf ps items (zs a)=some []/\bf ps items (zs b)=some []) \/
  (∃ c d,iT [.ref p,.int a,.int b] h = .ok (.tup [.str "apart",.ref I,.str c,.str d]) (h++r)/\oz ps items a b c d)):=by
 obtain ⟨ma,ema,sga⟩:=A.meas
 obtain ⟨mb,emb,sgb⟩:=B.meas
 have ob:=S.ob
 have fa:=i4 S ema
 have fb:=i4 S emb
 obtain ⟨M,hM,mx⟩:∃ M:Int,M<=10000/\e8 [.int ma.sg,.int mb.sg] h = .ok (.int M) h:=by
  refine ⟨if (mb.sg:Int) > ma.sg then (mb.sg:Int) else ma.sg,?_,rfl⟩
  split<;>lia
 have gt:eY (.int M) (.int 10000) h = .ok (.bl false) h:=by
  show Out.ok (AV.bl (decide (M > 10000))) h=_
  rw [KD (by lia)]
 obtain ⟨nb,ne⟩:∃ q:Bool,aZ (.int a) (.int b) h = .ok (.bl q) h:=by
  by_cases q:a=b
  ·exact ⟨false,by subst q;simp [bW,PyData.eqv]⟩
  ·exact ⟨true,by simp [bW,PyData.eqv];lia⟩
 obtain ⟨r1,v1,w1,l1⟩:=Ag S A
 have S1:=S.app r1
 obtain ⟨h1,eh1⟩:∃ h1,h1=h++r1:=⟨_,rfl⟩
 rw [<- eh1] at w1 l1 S1
 obtain ⟨r2,v2,w2,l2⟩:=Ag S1 B
 have S2:=S1.app r2
 have l1' := l1.app r2
 have hl1:h.length<=h1.length:=by rw [eh1,KH];lia
 obtain ⟨H,eH⟩:∃ H,H=h1++r2:=⟨_,rfl⟩
 rw [<- eH] at w2 l2 S2 l1'
 have hl2:h1.length<=H.length:=by rw [eH,KH];lia
 obtain ⟨items,L,R,h3,fc,ci⟩:=HC S2 g A B lx l1' l2 hl1 hl2 (fun i q=>l1.below q (KC _))
 have hk:∀ i,i<h.length->h3[i]? = h[i]? := fun i hi=>by
  rw [ci.fr i hi,eH,KA (by lia),eh1,KA hi]
 have q1:=ci.l1.eq
 have q2:=ci.l2.eq
 obtain ⟨s1,e1,ok1,z1,x1⟩:=ci.f1.ex
 obtain ⟨s2,e2,ok2,z2,x2⟩:=ci.f2.ex
 by_cases c1:L=[]/\R=[]
 ·rw [KQ c1.1] at q1
  rw [KQ c1.2] at q2
  obtain ⟨r,hr⟩:=qw hk (KN hl1 (KN hl2 ci.nl))
  refine ⟨r,items,H.length,KN hl1 hl2,by rw [<- hr];exact ci.eB,ci.oi,.inl ⟨?_,by rw [e1,z1.mp c1.1],by rw [e2,z2.mp c1.2]⟩⟩
  rw [<- hr]
  clear ci S S1 S2 l1 l1' l2 A B hk hr eh1 eH
  cases nb with
  | true=>simp [iT,ob,fa,fb,mx,ne,gt,w1,w2,fc,q1,q2,-e8,-aZ,-eY,-aC]
  | false=>simp [iT,ob,fa,fb,mx,ne,w1,w2,fc,q1,q2,-e8,-aZ,-eY,-aC]
 ·obtain ⟨h4,n1,S4,k4,k4',m4⟩:=ci.l1.nsg ci.sh g (bK ci.f1.ok) (KN ci.f1.ln (by decide))
  have l2':LfV p h1.length h4 v2 R:=ci.l2.fr fun W hw=>k4 W (fun q=>ci.l2.above (l1.below q (KC _)) hw)
  obtain ⟨h5,n2,S5,k5,k5',m5⟩:=l2'.nsg S4 g (bK ci.f2.ok) (KN ci.f2.ln (by decide))
  obtain ⟨r,hr⟩:∃ r,h5=h++r:=qw (fun i hi=>by rw [k5' i (by lia),k4' i hi,hk i hi]) (by rw [m5,m4];exact KN hl1 (KN hl2 ci.nl))
  have eI:h5[H.length]? = some (.lst (items.map uv)):=by
   have b1:v1 ≠ .ref H.length:=fun q=>absurd (l1.below q (KC _)) (by lia)
   have b2:v2 ≠ .ref H.length:=fun q=>absurd (l2.below q (KC _)) (by lia)
   rw [k5 _ b2,k4 _ b1]
   exact ci.eB
  have g1:sg1 ps L=sg1 ps s1:=by unfold sg1;rw [x1]
  have g2:sg1 ps R=sg1 ps s2:=by unfold sg1;rw [x2]
  refine ⟨r,items,H.length,KN hl1 hl2,by rw [<- hr];exact eI,ci.oi,.inr ⟨sg1 ps L,sg1 ps R,?_,s1,s2,e1,e2,g1,g2,?_⟩⟩
  ·rw [<- hr]
   clear S S1 S2 S4 S5 l1 l1' l2 l2' A B hk hr eh1 eH k4 k4' k5 k5' g1 g2
   generalize sg1 ps L=G1 at *
   generalize sg1 ps R=G2 at *
   by_cases z:L=[]
   ·rw [KQ z] at q1
    rw [KD (fun w=>c1 ⟨z,w⟩)] at q2
    clear ci
    cases nb with
    | true=>simp [iT,ob,fa,fb,mx,ne,gt,w1,w2,fc,q1,q2,n1,n2,-e8,-aZ,-eY,-aC]
    | false=>simp [iT,ob,fa,fb,mx,ne,w1,w2,fc,q1,q2,n1,n2,-e8,-aZ,-eY,-aC]
   ·rw [KD z] at q1
    clear ci
    cases nb with
    | true=>simp [iT,ob,fa,fb,mx,ne,gt,w1,w2,fc,q1,n1,n2,-e8,-aZ,-eY,-aC]
    | false=>simp [iT,ob,fa,fb,mx,ne,w1,w2,fc,q1,n1,n2,-e8,-aZ,-eY,-aC]
  ·have n0:sg1 ps [] = "" := rfl
   rcases ci.en with z | z | z
   ·rw [z,n0]
    exact fun w=>Ah g ci.f2.ok (fun q=>c1 ⟨z,q⟩) w.symm
   ·rw [z,n0]
    exact fun w=>Ah g ci.f1.ok (fun q=>c1 ⟨q,z⟩) w
   ·exact z
end Sk
namespace Sk
open PySem PySem.Spec L2 Sm
theorem HE (c k:Int) (h:AH):∃ m,pS [.int c,.int k] h = .ok (.int m) h:=by
 have b1:0<=(c % 1000000007+7919*k+101)*48271 % 2147483647:=MO _ (by decide)
 have b2:(c % 1000000007+7919*k+101)*48271 % 2147483647<2147483647:=MZ _ (by decide)
 refine ⟨(c % 1000000007+7919*k+101)*48271 % 2147483647*((c % 1000000007+7919*k+101)*48271 % 2147483647) % 2147483629*69621 % 2147483647,?_⟩
 generalize he:(c % 1000000007+7919*k+101)*48271 % 2147483647=v at *
 have c1:v.natAbs<18446744073709551616:=by lia
 simp [pS,he,c1]
theorem HG {i j:Int} {h:AH} (hi:i.natAbs<2 ^ 4000) (hj:j.natAbs<2 ^ 4000):cC (.int i) (.int j) h = .ok (.int (i*j)) h:=KS (.inr ⟨hi,hj⟩)
theorem HH (ns:List Int):nG (ns.map AV.int)=some ns:=by
 induction ns with
 | nil=>rfl
 | cons n r ih=>simp [ih]
abbrev T60:Int:=1000000000000000000000000000000000000000000000000000000000000000000000000000000000000000000000000000000000000000000000000
theorem HI:(10:Nat) ^ 960<2 ^ 4000:=by decide +kernel
theorem HJ:T60.natAbs<2 ^ 4000:=by decide +kernel
theorem HK (ns:List Int) (k:Nat) (i:Nat) (c:Nat) (o:Option AV) (h:AH) (hi:i<8) (hc:c<10 ^ (120*i)) (hj:k+i*8<ns.length) :
  ∃ c':Nat,c'<10 ^ (120*(i+1))/\mF [some (.fl (ns.map AV.int)),some (.int k),some (.int c),some (.int ((k:Int)+i*8)),o] h = .nx [some (.fl (ns.map AV.int)),some (.int k),some (.int c'),some (.int ((k:Int)+i*8)),o] h:=by
 obtain ⟨s,es⟩:∃ s,ns[k+i*8]? = some s:=⟨ns[k+i*8],by simp [hj]⟩
 have ix:au (.fl (ns.map AV.int)) (.int ((k:Int)+i*8)) h = .ok (.int s) h:=by
  rw [show ((k:Int)+i*8)=((k+i*8:Nat):Int) by simp]
  simp only [au,yN es]
 have p1:(10:Nat) ^ (120*i)<=10 ^ 960:=Nat.pow_le_pow_right (by decide) (by lia)
 have m1:((c:Int)).natAbs<2 ^ 4000:=by
  have:=HI
  exact MT (show c<10 ^ 960 by lia) this
 have mu:cC (.int c) (.int T60) h = .ok (.int (c*T60)) h:=HG m1 HJ
 have r0:0<=s % T60:=MO _ (by decide)
 have r1:s % T60<T60:=MZ _ (by decide)
 obtain ⟨r,er⟩:∃ r:Nat,s % T60=(r:Int):=⟨(s % T60).toNat,(NW r0).symm⟩
 have rl:r<10 ^ 120:=by
  have:(r:Int)<T60:=er▸r1
  have e:T60=((10 ^ 120:Nat):Int):=by decide +kernel
  rw [e] at this;exact Om.mp this
 obtain ⟨c',ec,lc⟩:∃ c':Nat,(c:Int)*T60+r=(c':Int)/\c'<10 ^ (120*(i+1)):=by
  refine ⟨c*10 ^ 120+r,?_,?_⟩
  ·have e:T60=((10 ^ 120:Nat):Int):=by decide +kernel
   rw [e,Int.natCast_add,Int.natCast_mul]
  ·rw [show 120*(i+1)=120*i+120 by lia,Nat.pow_add]
   have:(c+1)*10 ^ 120<=10 ^ (120*i)*10 ^ 120:=Nat.mul_le_mul_right _ hc
   have e2:(c+1)*10 ^ 120=c*10 ^ 120+10 ^ 120:=Nat.succ_mul _ _
   lia
 refine ⟨c',lc,?_⟩
 have pw:(ah cC (ah cg (af (.int 10)) (af (.int 60))) (ah cg (af (.int 10)) (af (.int 60)))) [some (.fl (ns.map AV.int)),some (.int k),some (.int c),some (.int ((k:Int)+i*8)),o] h = .ok (.int T60) h:=by simp
 have md:dJ (.int s) (.int T60) h = .ok (.int r) h:=by simp only [dJ];rw [KS (by decide),er]
 clear p1 m1 r0 r1 er rl hc lc hi
 unfold mF
 generalize ah cC (ah cg (af (.int 10)) (af (.int 60))) (ah cg (af (.int 10)) (af (.int 60)))=PW at *
 generalize T60=t60 at *
 simp [pw,mu,ix,md,ec,-cC,-au,-dJ]
theorem HM (en0:Option AV) (ns:List Int) (k c f j:Int) (h:AH):∃ f',mG [some (.fl (ns.map AV.int)),some (.int k),some (.int c),some (.int j),some (.int f)] h = .nx [some (.fl (ns.map AV.int)),some (.int k),some (.int c),some (.int j),some (.int f')] h:=by
 obtain ⟨m,hm⟩:=HE (c+1009*k+ns.length) j h
 refine ⟨f*2147483647+m,?_⟩
 have m1:cC (.int f) (.int 2147483647) h = .ok (.int (f*2147483647)) h:=Gp (by decide)
 have m2:cC (.int 1009) (.int k) h = .ok (.int (1009*k)) h:=Gn (by decide)
 simp [mG,hm,m1,m2,-cC]
theorem HP (ns:List Int) (hl:ns.length<=63) (k:Nat) (hk:k<=10) (h:AH):∃ N:Int,nM [.fl (ns.map AV.int),.int k] h = .ok (.ref h.length) (h++[.lst [.int N]]):=by
 obtain ⟨M,eM⟩:∃ M:Nat,M=(if (k:Int)<(ns.length:Int) then ((ns.length:Int)-k-1) / 8+1 else 0).toNat:=⟨_,rfl⟩
 have hM:M<=8/\∀ i,i<M->k+i*8<ns.length:=by
  rw [eM]
  split
  ·refine ⟨by omega,fun i hi=>by omega⟩
  ·refine ⟨by omega,fun i hi=>by simp at hi⟩
 obtain ⟨e1,h1,r1,r2⟩:=j5 (w:=none) (all:=(List.range M).map (fun m:Nat=>AV.int ((k:Int)+m*8))) (t:=.nm 3) (b:=mF) (xs:=(List.range M).map (fun m:Nat=>AV.int ((k:Int)+m*8))) (en:=[some (.fl (ns.map AV.int)),some (.int k),some (.int 0),none,none]) (h:=h)
  (fun i en h' => h'=h/\∃ (c:Nat) (o:Option AV),c<10 ^ (120*i)/\en=[some (.fl (ns.map AV.int)),some (.int k),some (.int c),o,none]) ⟨rfl,0,none,by decide,rfl⟩ (fun _ _ _ _=>rfl) (by
   rintro j x en h' hx ⟨rfl,c,o,hc,rfl⟩
   rw [Lw] at hx
   obtain ⟨m,em,rfl⟩:=Lf.mp hx
   have hj:j<M:=by
    have:=(Kz.mp em).1;simpa using this
   rw [MS hj] at em
   cases em
   obtain ⟨c',l',e⟩:=HK ns k j c none h' (by have:=hM.1;omega) hc (hM.2 j hj)
   show thn (mF [some (.fl (ns.map AV.int)),some (.int k),some (.int c),some (.int ((k:Int)+j*8)),none] h') _
   rw [e]
   exact ⟨rfl,c',_,l',rfl⟩)
 obtain ⟨rfl,c,o,hc,rfl⟩:=r2
 have z1:(k:Int).natAbs<1099511627776:=by omega
 have z2:((ns.length:Nat):Int).natAbs<1099511627776:=by omega
 have it3:jV (ae 1) (aG ax (aj (ae 0) ag)) (af (.int 8)) [some (.fl (ns.map AV.int)),some (.int k),some (.int 0),none,none] h1 = .ok ((List.range M).map (fun m:Nat=>AV.int ((k:Int)+m*8)),none) h1:=by
  simp only [jV,ae,aG,aj,ag,af,Out.bind,ax,List.getElem?_cons_zero,LX,sU]
  rw [KS ⟨z1,z2,by decide,by decide⟩,<- eM]
 have f1:=(gz (t:=.nm 3) (b:=mF) it3).trans r1
 clear r1 it3
 by_cases hb:(1000000000000000000:Int)<=c
 ·exact ⟨c,by simp [nM,f1,hb,-bp]⟩
 ·have cm:=Gh (js:=[]) (en:=[some (.fl (ns.map AV.int)),some (.int k),some (.int c),o,none]) (w:=none) (all:=ns.map AV.int) (e:=ah dJ (ae 0) (ah cg (af (.int 10)) (af (.int 18)))) (g:=AV.int) (f:=fun i=>AV.int (i % 1000000000000000000)) (h:=h1) rfl ns [] (by intro i _;simp) (by
    simp only [List.length_nil];exact KN (show 0+ns.length<=63 by omega) (by decide))
  have im:(ns.map fun i=>AV.int (i % 1000000000000000000))=(ns.map fun i=>i % 1000000000000000000).map AV.int:=by simp
  obtain ⟨S,eS⟩:∃ S:Int,S=(ns.map fun i=>i % 1000000000000000000).sum:=⟨_,rfl⟩
  have sm:ie [.fl (ns.map fun i=>AV.int (i % 1000000000000000000))] h1 = .ok (.int S) h1:=by
   rw [im,eS];simp only [ie,HH]
  obtain ⟨e2,h2,s1,s2⟩:=j5 (w:=none) (all:=dh 0 16) (t:=.nm 3) (b:=mG) (xs:=dh 0 16) (en:=[some (.fl (ns.map AV.int)),some (.int k),some (.int (c+S)),o,some (.int 0)]) (h:=h1)
   (fun i en h' => h'=h1/\∃ (f:Int) (o:Option AV),en=[some (.fl (ns.map AV.int)),some (.int k),some (.int (c+S)),o,some (.int f)]) ⟨rfl,0,o,rfl⟩ (fun _ _ _ _=>rfl) (by
    rintro j x en h' hx ⟨rfl,f,o,rfl⟩
    rw [sP] at hx
    by_cases q:j<16
    ·rw [KS q] at hx
     cases hx
     obtain ⟨f',e⟩:=HM none ns k (c+S) f (0+(j:Int)) h'
     show thn (mG [some (.fl (ns.map AV.int)),some (.int k),some (.int (c+S)),some (.int (0+(j:Int))),some (.int f)] h') _
     rw [e]
     exact ⟨rfl,f',_,rfl⟩
    ·rw [KW q] at hx;cases hx)
  obtain ⟨rfl,f,o',rfl⟩:=s2
  have f2:=(gz (t:=.nm 3) (b:=mG) (mI (a:=af (.int 16)) (en:=[some (.fl (ns.map AV.int)),some (.int k),some (.int (c+S)),o,some (.int 0)]) (h:=h2) (n:=16) rfl (by decide))).trans s1
  refine ⟨f,?_⟩
  simp at cm
  simp [nM,f1,hb,cm,sm,f2,-bp,-ie]
theorem HQ {h:AH} {st:Nat} {n:Int} (m:Nat) (e:h[st]? = some (.lst [.int n])) (hm:0<m) (hm2:m<=10 ^ 50):∃ v:Nat,v<m/\cM [.ref st,.int m] h = .ok (.int v) (h.set st (.lst [.int (n / m)])):=by
 have a0:atI [AV.int n] 0=some (.int n):=rfl
 have i0:jb 1 0=some 0:=rfl
 have hm0:(0:Int)<m:=Om.mpr hm
 have hm3:m<1606938044258990275541962092341162602522202993782792835301376:=K7 hm2 (by decide)
 refine ⟨(n % m).toNat,?_,?_⟩
 ·have:=MZ n hm0;have:=MO n (show (m:Int)≠0 by lia);lia
 ·rw [NW (MO n (show (m:Int)≠0 by lia))]
  simp [cM,e,a0,hm0,hm,hm3,i0]
theorem HR {x:Str} {v:Nat} (hv:v<x.length) (hx:bJ x=true) (h:AH):∃ c,gh c=true/\au (.str x) (.int v) h = .ok (.str ⟨#[c]⟩) h:=by
 have hv':v<x.cps.toList.length:=by rw [<- bB];exact hv
 refine ⟨x.cps.toList[v],Lo.mp hx _ (MH hv'),?_⟩
 have e:x.cps.toList[v]? = some x.cps.toList[v]:=KR hv'
 simp only [au,kR e]
theorem qy {hh:AH} {L:Nat} {N:Int} (m:Nat) (e:hh[L]? = some (.lst [.int N])) (hm:0<m) (hm2:m<=10 ^ 50):∃ (v:Nat) (N':Int),v<m/\cM [.ref L,.int m] hh = .ok (.int v) (hh.set L (.lst [.int N'])):=by
 obtain ⟨v,hv,e1⟩:=HQ m e hm hm2
 exact ⟨v,N / m,hv,e1⟩
theorem HS {y:Str} {c:Nat} (hy:bJ y=true) (hc:gh c=true):bJ (y++⟨#[c]⟩)=true/\(y++(⟨#[c]⟩:Str)).length=y.length+1:=by
 refine ⟨?_,by rw [fk];rfl⟩
 rw [lQ,hy]
 simp [bJ,hc]
end Sk
namespace Sk
open PySem PySem.Spec L2 Sm
def bR:List Un->List Un
 | []=>[]
 | .n k::r=>.n k::bR r
 | .s w::r=>g8 w.cps.toList++bR r
theorem uQ (ps:List Pc):∀ cs:List Nat,br ps (g8 cs)=cs
 | []=>rfl
 | c::cs=>by
  show [c]++br ps (g8 cs)=_
  rw [uQ ps cs]
  rfl
theorem HU {ps:List Pc} (g:Good ps) {w:Str} {st:List Un} (ok:∀ u∈st,OkU ps u) (w8:w.length<=8):dH ps (.s w) st=bf ps (g8 w.cps.toList) st:=by
 show dD ps 10 w st=_
 cases h:dD ps 10 w st with
 | some s =>
  have T:=oq g 10 ok h
  rw [zL g _ ok T.rd,<- bB,<- T.dn]
 | none =>
  cases h2:bf ps (g8 w.cps.toList) st with
  | none=>rfl
  | some s =>
   have rd:=(lW g _ ok h2).1
   rw [uQ] at rd
   rw [ur g ok rd (by lia)] at h
   cases h
theorem uR {ps:List Pc} (g:Good ps):∀ (its:List Un) {st:List Un},(∀ u∈st,OkU ps u)->(∀ i∈its,OkI ps i)->bf ps its st=bf ps (bR its) st
 | [],st,_,_=>rfl
 | .n k::r,st,ok,oi=>by
  show (dH ps (.n k) st).bind (bf ps r)=(dH ps (.n k) st).bind (bf ps (bR r))
  cases h:dH ps (.n k) st with
  | none=>rfl
  | some s=>exact uR g r (mL g ok h).2.1 (fun i hi=>oi i (KJ _ hi))
 | .s w::r,st,ok,oi=>by
  have w8:w.length<=8:=by
   cases oi _ (KF ..) with
   | s a=>exact (fS a).2.1
  show (dH ps (.s w) st).bind (bf ps r)=bf ps (g8 w.cps.toList++bR r) st
  rw [ux,<- HU g ok w8]
  cases h:dH ps (.s w) st with
  | none=>rfl
  | some s=>exact uR g r (mL g ok h).2.1 (fun i hi=>oi i (KJ _ hi))
def oA:Un->Prop
 | .n _=>True
 | .s w=>w.length=1
theorem HW {ps:List Pc} (g:Good ps) {j a b:Nat} {m f l:Ms} {x:Str} {st r:List Un} {i:Un} (T:Tx ps j m x f l) (e:ps[j-1]? = some (.fork a b)) (ok:∀ u∈st,OkU ps u) (ne:i ≠ .n j) (u1:oA i):bf ps (i::r) (.n j::st)=bf ps (i::r) (.n a :: .n b::st):=by
 obtain ⟨ma,mb,y,z,fa,la,fb,lb,_,A,B,_,_⟩:=ot g T e
 have k2:∀ u∈(.n a :: .n b::st:List Un),OkU ps u:=fun u hu=>by
  rcases K6.mp hu with rfl | hu
  ·exact .n A
  ·rcases K6.mp hu with rfl | hu
   ·exact .n B
   ·exact ok u hu
 have h82:=eE g k2
 have q:dH ps i (.n j::st)=dH ps i (.n a :: .n b::st):=by
  cases i with
  | n k =>
   have nk : ¬ j=k:=fun z=>ne (by rw [z])
   show bj ps k 90 (.n j::st)=bj ps k 90 (.n a :: .n b::st)
   have q:bj ps k 90 (.n j::st)=bj ps k 89 (.n a :: .n b::st):=by
    show (if j=k then some st else match ps[j-1]? with
     | some (.fork a b)=>bj ps k 89 (.n a :: .n b::st)
     | _=>none)=_
    rw [KW nk,e]
   rw [q]
   exact uD g 89 90 _ k2 (by lia) (by lia)
  | s w =>
   have w0 : ¬ w = "" := fun z=>by
    have:w.length=1:=u1
    rw [zaF] at z
    lia
   refine zK w0 ?_
   have q:aT ps 90 (.n j::st)=aT ps 89 (.n a :: .n b::st):=by
    show (match ps[j-1]? with
     | some (.fork a b)=>aT ps 89 (.n a :: .n b::st)
     | some (.leaf z)=>(z,st)
     | none=>("",st))=_
    rw [e]
   rw [q]
   exact uC g 89 90 _ k2 (by lia) (by lia)
 show (dH ps i (.n j::st)).bind _=(dH ps i (.n a :: .n b::st)).bind _
 rw [q]
inductive Af where
 | bad
 | out
 | at (r:List Un)
def fU:List Nat->List Un->Af
 | [],us=>.at us
 | _::_,[]=>.out
 | c::cs,.s w::us=>if w=⟨#[c]⟩ then fU cs us else .bad
 | _::_,.n _::_=>.bad
def oB (ps:List Pc) (us L st:List Un):Af->Prop
 | .bad=>bf ps us L=none
 | .out=>∃ s,bf ps us L=some s/\s≠[]
 | .at r=>bf ps us L=bf ps r st/\∀ u∈r,u∈us
theorem HX {ps:List Pc} {z w:Str} {c:Nat} {cs:List Nat} {st:List Un} (ez:z.cps.toList=c::cs) (w1:w.length=1):dD ps 10 w (.s z::st)=if w=⟨#[c]⟩ then some (bC (bF z 1) st) else none:=by
 have w0 : ¬ w = "" := fun q=>by rw [zaF] at q;lia
 have zl:1<=z.length:=by rw [bB,ez,KO];lia
 have mn:min z.length w.length=1:=by lia
 have tz:bP z 1=⟨#[c]⟩:=cU (by rw [gj,ez];rfl)
 have tw:bP w 1=w:=cU (by rw [gj,LA (by rw [<- bB];lia)])
 have dw:bF w 1 = "" := cU (by rw [gO,LN (by rw [<- bB];lia)];rfl)
 rw [dD,KW w0,fJ]
 dsimp only
 rw [mn,tz,tw,dw]
 by_cases q:w=⟨#[c]⟩
 ·rw [KS q,KW (by rintro (h | h);exact absurd h (by decide);exact h q.symm),dD,KS rfl]
 ·rw [KW q,KS (.inr (fun h=>q h.symm))]
theorem Ai {ps:List Pc}:∀ (cs:List Nat) (us:List Un) {st:List Un} {z:Str},z.cps.toList=cs->(∀ u∈us,oA u)->oB ps us (bC z st) st (fU cs us)
 | [],us,st,z,ez,u1=>by
  have:z = "" := cU (by rw [ez];rfl)
  subst this
  have ep:bC "" st=st:=by unfold bC;rw [KS rfl]
  rw [ep]
  exact ⟨rfl,fun u hu=>hu⟩
 | c::cs,[],st,z,ez,u1=>by
  have zn : ¬ z = "" := fun q=>by rw [q] at ez;cases ez
  refine ⟨bC z st,rfl,fun q=>?_⟩
  unfold bC at q
  rw [KW zn] at q
  cases q
 | c::cs,.n k::us,st,z,ez,u1=>by
  have zn : ¬ z = "" := fun q=>by rw [q] at ez;cases ez
  show bf ps (.n k::us) (bC z st)=none
  unfold bC
  rw [KW zn]
  rfl
 | c::cs,.s w::us,st,z,ez,u1=>by
  have zn : ¬ z = "" := fun q=>by rw [q] at ez;cases ez
  have w1:w.length=1:=u1 _ (KF ..)
  have tk:=HX (ps:=ps) (st:=st) ez w1
  have lb:bf ps (.s w::us) (bC z st)=(if w=⟨#[c]⟩ then some (bC (bF z 1) st) else none:Option (List Un)).bind (bf ps us):=by
   rw [<- tk]
   unfold bC
   rw [KW zn]
   rfl
  rw [fU]
  by_cases q:w=⟨#[c]⟩
  ·rw [KS q] at lb ⊢
   have ih:=Ai (ps:=ps) cs us (st:=st) (z:=bF z 1) (by rw [gO,ez];rfl) (fun u hu=>u1 u (KJ _ hu))
   have lb':bf ps (.s w::us) (bC z st)=bf ps us (bC (bF z 1) st):=lb
   cases h:fU cs us with
   | bad=>rw [h] at ih;exact lb'.trans ih
   | out =>
    rw [h] at ih
    obtain ⟨s,a,b⟩:=ih
    exact ⟨s,lb'.trans a,b⟩
   | «at» r =>
    rw [h] at ih
    exact ⟨lb'.trans ih.1,fun u hu=>KJ _ (ih.2 u hu)⟩
  ·rw [KW q] at lb ⊢
   exact lb
def i9 (ps:List Pc):Nat->Nat->List Un->Af
 | 0,_,_=>.bad
 | _+1,_,[]=>.out
 | d+1,t,u::us=>if (match u with | .n k=>decide (k=t) | .s _=>false)=true then .at us else match ps[t-1]? with
  | some (.leaf x)=>fU x.cps.toList (u::us)
  | some (.fork a b)=>(match i9 ps d a (u::us) with
   | .at r=>i9 ps d b r
   | .bad=>.bad
   | .out=>.out)
  | none=>.bad
theorem Aj (ps:List Pc) (d t:Nat) (u:Un) (us:List Un):i9 ps (d+1) t (u::us)=if (match u with | .n k=>decide (k=t) | .s _=>false)=true then .at us else match ps[t-1]? with
  | some (.leaf x)=>fU x.cps.toList (u::us)
  | some (.fork a b)=>(match i9 ps d a (u::us) with
   | .at r=>i9 ps d b r
   | .bad=>.bad
   | .out=>.out)
  | none=>.bad:=by
 cases u<;>rfl
theorem uS {ps:List Pc} (g:Good ps):∀ (d:Nat) {t:Nat} {m f l:Ms} {x:Str} (us:List Un) {st:List Un},Tx ps t m x f l->m.ht.toNat<d->(∀ u∈st,OkU ps u)->(∀ u∈us,oA u)->oB ps us (.n t::st) st (i9 ps d t us)
 | 0,t,m,f,l,x,us,st,T,hd,ok,u1=>absurd hd (Lm _)
 | d+1,t,m,f,l,x,[],st,T,hd,ok,u1=>⟨.n t::st,rfl,fun q=>by cases q⟩
 | d+1,t,m,f,l,x,u::us,st,T,hd,ok,u1=>by
  have uu:=u1 u (KF ..)
  rw [Aj]
  by_cases q:u = .n t
  ·subst q
   rw [KS (by simp)]
   refine ⟨?_,fun v hv=>KJ _ hv⟩
   show (bj ps t 90 (.n t::st)).bind _=_
   have:bj ps t 90 (.n t::st)=some st:=by
    show (if t=t then some st else _)=_
    rw [KS rfl]
   rw [this]
   rfl
  ·rw [KW (by
    cases u with
    | n k=>simp;intro z;exact q (by rw [z])
    | s w=>simp)]
   rcases g.kind T with ⟨e,_,_,x1,x8⟩ | ⟨a,b,ma,mb,y,z,fa,la,fb,lb,e,e2,_,A,B,x1,x2,_⟩
   ·rw [e]
    have xn : ¬ x = "" := fun z=>by rw [zaF] at z;omega
    have eq:bf ps (u::us) (.n t::st)=bf ps (u::us) (bC x st):=by
     show (dH ps u (.n t::st)).bind _=(dH ps u (bC x st)).bind _
     have:dH ps u (.n t::st)=dH ps u (bC x st):=by
      cases u with
      | n k =>
       have nk : ¬ t=k:=fun z=>q (by rw [z])
       have r1:bj ps k 90 (.n t::st)=none:=by
        show (if t=k then some st else match ps[t-1]? with
         | some (.fork a b)=>bj ps k 89 (.n a :: .n b::st)
         | _=>none)=_
        rw [KW nk,e]
       show bj ps k 90 (.n t::st)=bj ps k 90 (bC x st)
       rw [r1]
       unfold bC
       rw [KW xn]
       rfl
      | s w =>
       have w0 : ¬ w = "" := fun z=>by
        have:w.length=1:=uu
        rw [zaF] at z
        omega
       refine zK w0 ?_
       rw [Ab xn]
       show (match ps[t-1]? with
        | some (.fork a b)=>aT ps 89 (.n a :: .n b::st)
        | some (.leaf z)=>(z,st)
        | none=>("",st))=_
       rw [e]
     rw [this]
    have lf:=Ai (ps:=ps) x.cps.toList (u::us) (st:=st) rfl u1
    dsimp only
    cases h:fU x.cps.toList (u::us) with
    | bad=>rw [h] at lf;exact eq.trans lf
    | out =>
     rw [h] at lf
     obtain ⟨s,a,b⟩:=lf
     exact ⟨s,eq.trans a,b⟩
    | «at» r =>
     rw [h] at lf
     exact ⟨eq.trans lf.1,lf.2⟩
   ·rw [e]
    dsimp only
    have op:=HW (r:=us) g T e ok q uu
    have hh:m.ht=max ma.ht mb.ht+1:=by rw [x2];rfl
    have a0:=A.ky.ht
    have b0:=B.ky.ht
    have okb:∀ v∈(.n b::st:List Un),OkU ps v:=fun v hv=>by
     rcases K6.mp hv with rfl | hv
     ·exact .n B
     ·exact ok v hv
    have ia:=uS g d (u::us) (st:=.n b::st) A (by omega) okb u1
    cases h:i9 ps d a (u::us) with
    | bad=>rw [h] at ia;exact op.trans ia
    | out =>
     rw [h] at ia
     obtain ⟨s,c1,c2⟩:=ia
     exact ⟨s,op.trans c1,c2⟩
    | «at» r =>
     rw [h] at ia
     have ib:=uS g d r (st:=st) B (by omega) ok (fun v hv=>u1 v (ia.2 v hv))
     dsimp only
     have eq:=op.trans ia.1
     cases h2:i9 ps d b r with
     | bad=>rw [h2] at ib;exact eq.trans ib
     | out =>
      rw [h2] at ib
      obtain ⟨s,c1,c2⟩:=ib
      exact ⟨s,eq.trans c1,c2⟩
     | «at» r2 =>
      rw [h2] at ib
      exact ⟨eq.trans ib.1,fun v hv=>ia.2 v (ib.2 v hv)⟩
abbrev cS (c:Nat):AV:=.str ⟨#[c]⟩
theorem HY (cs:List Nat):(g8 cs).map uv=cs.map cS:=by
 unfold g8
 rw [List.map_map]
 rfl
theorem qz:∀ a b:List Un,bR (a++b)=bR a++bR b
 | [],b=>rfl
 | .n k::a,b=>by rw [LQ,bR,bR,qz a b,LQ]
 | .s w::a,b=>by rw [LQ,bR,bR,qz a b,Lg]
theorem uT {ps:List Pc}:∀ {its:List Un},(∀ i∈its,OkI ps i)->(bR its).length<=8*its.length
 | [],_=>KC _
 | .n k::r,ok=>by
  have:=uT (its:=r) fun i hi=>ok i (KJ _ hi)
  rw [bR,KO,KO]
  lia
 | .s w::r,ok=>by
  have:=uT (its:=r) fun i hi=>ok i (KJ _ hi)
  have w8:w.length<=8:=by
   cases ok _ (KF ..) with
   | s a=>exact (fS a).2.1
  rw [bR,KH,KO,g8,K4,<- bB]
  lia
theorem oC {ps:List Pc}:∀ {its:List Un},(∀ i∈its,OkI ps i)->∀ u∈bR its,oA u/\OkI ps u
 | [],_,u,hu=>by cases hu
 | .n k::r,ok,u,hu=>by
  rcases K6.mp hu with rfl | hu
  ·exact ⟨trivial,ok _ (KF ..)⟩
  ·exact oC (fun i hi=>ok i (KJ _ hi)) u hu
 | .s w::r,ok,u,hu=>by
  rcases Lp.mp hu with hu | hu
  ·have pl:bJ w=true:=by
    cases ok _ (KF ..) with
    | s a=>exact (fS a).2.2
   refine ⟨?_,zM w.cps.toList (Lo.mp (by simpa [bJ] using pl)) u hu⟩
   obtain ⟨c,_,rfl⟩:=MD.mp hu
   rfl
  ·exact oC (fun i hi=>ok i (KJ _ hi)) u hu
theorem uU {h:AH} {R k:Nat} {U:List Un} {u:Un} (eR:h[R]? = some (.lst (U.map uv))) (eu:U[k]? = some u):au (.ref R) (.int k) h = .ok (uv u) h:=by
 have:=yN (f:=uv) eu
 simp only [au,eR,this]
theorem lX (a b:Int) (h:AH):aC (.int a) (.int b) h = .ok (.bl (decide (a=b))) h:=by simp
end Sk
namespace Sk
open PySem PySem.Spec L2 Sm
theorem oE {ps:List Pc}:∀ {its:List Un},(∀ i∈its,OkI ps i)->its.length<=(br ps its).length
 | [],_=>Lc _
 | i::r,ok=>by
  have:=oE (its:=r) fun j hj=>ok j (KJ _ hj)
  have p:=(ok i (KF ..)).u.pos
  rw [br,KH,KO]
  lia
theorem uV (h:AH):aC (.str "leaf") (.str "leaf") h = .ok (.bl true) h:=by simp
theorem uW (h:AH):aC (.str "fork") (.str "leaf") h = .ok (.bl false) h:=by
 have : ¬ (Str.ofString "fork" = Str.ofString "leaf"):=by decide +kernel
 simp [this]
theorem uX {h:AH} {p:Nat} {ps:List Pc} (S:ShelfAt h p ps) (g:Good ps):∀ (d:Nat) {t:Nat} {m f l:Ms} {x:Str},Tx ps t m x f l->m.ht.toNat<d->x.length<=100000->jr d [.ref p,.int t] h = .ok (.str x) h
 | 0,t,m,f,l,x,T,hd,hx=>absurd hd (Lm _)
 | d+1,t,m,f,l,x,T,hd,hx=>by
  have ob:=S.ob
  have z:=lX t 0 h
  rw [KD (by have:=T.n1;omega)] at z
  have lt:=uV h
  have lf:=uW h
  rcases g.kind T with ⟨e,_⟩ | ⟨a,b,ma,mb,y,w,fa,la,fb,lb,e,e2,_,A,B,x1,x2,_⟩
  ·have fp:=kD S T.n1 e
   have c0:au (Pc.leaf x).av (.int 0) h = .ok (.str "leaf") h:=rfl
   have c1:au (Pc.leaf x).av (.int 1) h = .ok (.str x) h:=rfl
   show nW (jr d) [.ref p,.int t] h=_
   generalize jr d=G
   generalize (Pc.leaf x).av=PA at *
   simp [nW,z,ob,fp,c0,c1,lt,-aC,-au]
  ·have fp:=kD S T.n1 e
   have a0:=A.ky.ht
   have b0:=B.ky.ht
   have hh:m.ht=max ma.ht mb.ht+1:=by rw [x2];rfl
   have ll:y.length+w.length=x.length:=by rw [x1,fk]
   have ia:=uX S g d A (by omega) (by omega)
   have ib:=uX S g d B (by omega) (by omega)
   have ad:aw (.str y) (.str w) h = .ok (.str x) h:=by
    have:y.length+w.length<=sizeLine:=KN (m:=100000) (by omega) (by decide)
    rw [x1]
    simp only [aw,this,Mc]
   show nW (jr d) [.ref p,.int t] h=_
   have c0:au (Pc.fork a b).av (.int 0) h = .ok (.str "fork") h:=rfl
   have c1:au (Pc.fork a b).av (.int 1) h = .ok (.int a) h:=rfl
   have c2:au (Pc.fork a b).av (.int 2) h = .ok (.int b) h:=rfl
   generalize jr d=G at *
   generalize (Pc.fork a b).av=PA at *
   simp [nW,z,ob,fp,c0,c1,c2,lf,ia,ib,ad,-aC,-aw,-au]
theorem Ak {c:Nat} (pc:gh c=true) (h:AH):(e7 (aK (fL bS bS (af (.str " ")) (ae 0) (af (.str "~")))) (aK (ah aC (ae 0) (af (.str "\n"))))) [some (.str ⟨#[c]⟩)] h = .ok true h:=by
 have eq:aC (.str ⟨#[c]⟩) (.str "\n") h = .ok (.bl (decide (c=10))) h:=by
  have:((⟨#[c]⟩:Str)=Str.ofString "\n") ↔ c=10:=by rw [pZ];simp
  simp [this]
 have l1:bS (.str " ") (.str ⟨#[c]⟩) h = .ok (.bl (decide (32<=c))) h:=by
  simp only [bS,sQ]
  by_cases q:32<=c
  ·have : ¬ ([c]<[32]):=by rw [j7];lia
   simp [this,q]
  ·have:([c]<[32]):=by rw [j7];lia
   simp [this,q]
 have l2:bS (.str ⟨#[c]⟩) (.str "~") h = .ok (.bl (decide (c<=126))) h:=by
  simp only [bS,sR]
  by_cases q:c<=126
  ·have : ¬ ([126]<[c]):=by rw [j7];lia
   simp [this,q]
  ·have:([126]<[c]):=by rw [j7];lia
   simp [this,q]
 by_cases q:c=10
 ·rw [KQ q] at eq
  rw [KD (by lia)] at l1
  simp [l1,eq,-bS,-aC]
 ·have r:32<=c/\c<=126:=by simpa [gh,q] using pc
  rw [KQ r.1] at l1
  rw [KQ r.2] at l2
  simp [l1,l2,-bS,-aC]
theorem uY {hh:AH} {ps:List Pc} {R k:Nat} {fs:List AV} {o1 o4:Option AV} (S:ShelfAt hh 0 ps) (eR:hh[R]? = some (.lst fs)) (k1:1<=k) (k2:k<=ps.length) (lf:fs.length<=100000) :
  eh [some (.ref 0),o1,some (.ref R),some (.int k),o4] hh = .nx [some (.ref 0),o1,some (.ref R),some (.int k),o4] (hh.set R (.lst (fs++[.int k]))):=by
 have ap:bV (.ref R) [.int k] hh = .ok .non (hh.set R (.lst (fs++[.int k]))):=by
  have:fs.length<sizeLine:=K7 lf (by decide)
  simp only [bV,eR,this,Mc]
 have is1:bq (.ref R) hh=true:=by simp [eR]
 have l1:bz (.int 0) (.int k) hh = .ok (.bl true) hh:=by simp;omega
 have fm:=lN S
 have l2:bS (.int k) (.int ps.length) hh = .ok (.bl true) hh:=by simp;omega
 have ob:=S.ob
 have wh:fE [.int k] hh = .ok (.bl true) hh:=by simp [fE]
 generalize hh.set R (.lst (fs++[.int k]))=HF at *
 generalize (ps.length:Int)=PL at *
 simp [eh,wh,l1,ob,fm,l2,is1,ap,-bq,-bV,-bz,-bS]
theorem uZ {hh:AH} {R:Nat} {fs:List AV} {z:Str} {o1 o4:Option AV} (eR:hh[R]? = some (.lst fs)) (a:dP z=true) (lf:fs.length<=100000) :
  eh [some (.ref 0),o1,some (.ref R),some (.str z),o4] hh = .nx [some (.ref 0),o1,some (.ref hh.length),some (.str z),some (.fl (z.cps.toList.map cS))] (hh++[.lst (fs++z.cps.toList.map cS)]):=by
 obtain ⟨z1,z8,zp⟩:=fS a
 have cp:dC [] (bc (ae 3)) (e7 (aK (fL bS bS (af (.str " ")) (ae 0) (af (.str "~")))) (aK (ah aC (ae 0) (af (.str "\n"))))) (ae 0) [some (.ref 0),o1,some (.ref R),some (.str z),o4] hh = .ok (.fl (z.cps.toList.map cS)) hh:=by
  have:=nX (js:=[]) (en:=[some (.ref 0),o1,some (.ref R),some (.str z),o4]) (w:=none) (all:=z.cps.toList.map cS) (c:=e7 (aK (fL bS bS (af (.str " ")) (ae 0) (af (.str "~")))) (aK (ah aC (ae 0) (af (.str "\n"))))) (e:=ae 0) (g:=cS) (f:=cS) (p:=fun _=>true) (h:=hh) rfl z.cps.toList []
   (fun c hc=>Ak (Lo.mp (by simpa [bJ] using zp) c hc) hh) (fun c hc _=>rfl) (by
    rw [<- bB]
    exact KN (m:=8) (by simp;lia) (by decide))
  rw [NV.mpr (fun _ _=>rfl),L6] at this
  have it:bc (ae 3) [some (.ref 0),o1,some (.ref R),some (.str z),o4] hh = .ok (z.cps.toList.map cS,none) hh:=rfl
  simp only [dC,it,this]
 have ln:ax [.str z] hh = .ok (.int z.length) hh:=rfl
 have ln2:ax [.fl (z.cps.toList.map cS)] hh = .ok (.int z.length) hh:=by simp only [ax,K4,bB]
 have c1:bz (.int 0) (.int z.length) hh = .ok (.bl true) hh:=by simp;lia
 have c2:bz (.int z.length) (.int 9) hh = .ok (.bl true) hh:=by simp;lia
 have c3:bz (.int z.length) (.int z.length) hh = .ok (.bl false) hh:=by simp
 have ad:mE (.ref R) (.fl (z.cps.toList.map cS)) hh = .ok (.ref hh.length) (hh++[.lst (fs++z.cps.toList.map cS)]):=by
  have:fs.length+(z.cps.toList.map cS).length<=sizeLine:=KN (m:=100008) (by rw [K4,<- bB];lia) (by decide)
  simp only [mE,fK,eR]
  rw [KS this]
 unfold eh
 generalize dC [] (bc (ae 3)) (e7 (aK (fL bS bS (af (.str " ")) (ae 0) (af (.str "~")))) (aK (ah aC (ae 0) (af (.str "\n"))))) (ae 0)=CM at *
 generalize z.cps.toList.map cS=ZS at *
 generalize hh++[.lst (fs++ZS)]=HF at *
 generalize (z.length:Int)=ZL at *
 generalize hh.length=HL at *
 simp [cp,ln,ln2,c1,c2,c3,ad,-ax,-bz,-mE]
end Sk
namespace Sk
open PySem PySem.Spec L2 Sm
def u0 (U:List Un) (h:AH) (a:Af) (o:Out AV):Prop:=match a with
 | .bad=>o = .ok .non h
 | .out=>o = .ok (.int ((U.length+1:Nat):Int)) h
 | .at r=>∃ k:Nat,k<=U.length/\r=U.drop k/\o = .ok (.int k) h
theorem Al:∀ (cs:List Nat) (us r:List Un),fU cs us = .at r->r=us.drop cs.length/\cs.length<=us.length
 | [],us,r,q=>by
  rw [fU] at q
  cases q
  exact ⟨rfl,Lc _⟩
 | c::cs,[],r,q=>by rw [fU] at q;cases q
 | c::cs,.n k::us,r,q=>by rw [fU] at q;cases q
 | c::cs,.s w::us,r,q=>by
  rw [fU] at q
  by_cases z:w=⟨#[c]⟩
  ·rw [KS z] at q
   obtain ⟨a,b⟩:=Al cs us r q
   exact ⟨a,by rw [KO,KO];lia⟩
  ·rw [KW z] at q;cases q
theorem Am {U:List Un} {k:Nat} {u:Un} (e:U[k]? = some u):U.drop k=u::U.drop (k+1):=by
 have hk:=(Kz.mp e).1
 rw [Mr hk]
 congr 1
 exact (Kz.mp e).2
abbrev eM (p:Nat) (t:Option AV) (R k:Nat) (o4 o5 o6 o7:Option AV):En:=[some (.ref p),t,some (.ref R),some (.int k),o4,o5,o6,o7]
theorem HZ {h:AH} {p R k i c:Nat} {U:List Un} {t o4 o7:Option AV} (eR:h[R]? = some (.lst (U.map uv))) :
  (U.length<=k+i->fP (eM p t R k o4 (some (.int i)) (some (.str ⟨#[c]⟩)) o7) h = .rt (.int ((U.length+1:Nat):Int)) h) /\
  (∀ u,U[k+i]? = some u->u ≠ .s ⟨#[c]⟩->fP (eM p t R k o4 (some (.int i)) (some (.str ⟨#[c]⟩)) o7) h = .rt .non h) /\
  (U[k+i]? = some (.s ⟨#[c]⟩)->fP (eM p t R k o4 (some (.int i)) (some (.str ⟨#[c]⟩)) o7) h = .nx (eM p t R k o4 (some (.int i)) (some (.str ⟨#[c]⟩)) o7) h):=by
 have ln:ax [.ref R] h = .ok (.int U.length) h:=by simp only [ax,eR,K4]
 have ad:aw (.int k) (.int i) h = .ok (.int ((k+i:Nat):Int)) h:=rfl
 have ad1:aw (.int U.length) (.int 1) h = .ok (.int ((U.length+1:Nat):Int)) h:=rfl
 have ge:dQ (.int ((k+i:Nat):Int)) (.int U.length) h = .ok (.bl (decide (U.length<=k+i))) h:=by
  show Out.ok (AV.bl (decide (((k+i:Nat):Int) ≥ U.length))) h=_
  congr 2
  exact decide_eq_decide.mpr (by lia)
 refine ⟨fun q=>?_,fun u eu nu=>?_,fun eu=>?_⟩
 ·rw [KQ q] at ge
  generalize ((U.length+1:Nat):Int)=U1 at *
  generalize (U.length:Int)=U0 at *
  generalize ((k+i:Nat):Int)=KI at *
  simp [fP,ad,ln,ge,ad1,-aw,-ax,-dQ]
 ·have hk:=(Kz.mp eu).1
  rw [KD (by lia)] at ge
  have ix:=uU eR eu
  obtain ⟨b,n1,n2⟩:=zV u (.s ⟨#[c]⟩) h
  have nb:b=true:=by
   cases b with
   | true=>rfl
   | false=>exact absurd (n2.mp rfl) nu
  subst nb
  have n1':aZ (uv u) (.str ⟨#[c]⟩) h = .ok (.bl true) h:=n1
  generalize uv u=UU at *
  generalize ((U.length+1:Nat):Int)=U1 at *
  generalize (U.length:Int)=U0 at *
  generalize ((k+i:Nat):Int)=KI at *
  simp [fP,ad,ln,ge,ix,n1',-aw,-ax,-dQ,-au,-aZ]
 ·have hk:=(Kz.mp eu).1
  rw [KD (by lia)] at ge
  have ix:=uU eR eu
  have ix':au (.ref R) (.int ((k+i:Nat):Int)) h = .ok (.str ⟨#[c]⟩) h:=ix
  have n1:aZ (.str ⟨#[c]⟩) (.str ⟨#[c]⟩) h = .ok (.bl false) h:=by simp
  generalize ((U.length+1:Nat):Int)=U1 at *
  generalize (U.length:Int)=U0 at *
  generalize ((k+i:Nat):Int)=KI at *
  simp [fP,ad,ln,ge,ix',n1,-aw,-ax,-dQ,-au,-aZ]
theorem An {h:AH} {p R k:Nat} {U:List Un} {t o4 o7:Option AV} {all:List AV} (eR:h[R]? = some (.lst (U.map uv))):∀ (cs:List Nat) (i:Nat) (o5 o6:Option AV),k+i<=U.length ->
  (match fU cs (U.drop (k+i)) with
  | .bad=>cH none all (.tup [5,6]) fP (Sm.numbered i (cs.map cS)) (eM p t R k o4 o5 o6 o7) h = .rt .non h
  | .out=>cH none all (.tup [5,6]) fP (Sm.numbered i (cs.map cS)) (eM p t R k o4 o5 o6 o7) h = .rt (.int ((U.length+1:Nat):Int)) h
  | .at _=>∃ o5' o6',cH none all (.tup [5,6]) fP (Sm.numbered i (cs.map cS)) (eM p t R k o4 o5 o6 o7) h = .nx (eM p t R k o4 o5' o6' o7) h)
 | [],i,o5,o6,hk=>⟨o5,o6,rfl⟩
 | c::cs,i,o5,o6,hk=>by
  obtain ⟨s1,s2,s3⟩:=HZ (p:=p) (t:=t) (o4:=o4) (o7:=o7) (k:=k) (i:=i) (c:=c) eR
  have st:dB (.tup [5,6]) (.tup [.int i,cS c]) (eM p t R k o4 o5 o6 o7)=some (eM p t R k o4 (some (.int i)) (some (.str ⟨#[c]⟩)) o7):=rfl
  have un:∀ o:dI,fP (eM p t R k o4 (some (.int i)) (some (.str ⟨#[c]⟩)) o7) h=o->cH none all (.tup [5,6]) fP (Sm.numbered i ((c::cs).map cS)) (eM p t R k o4 o5 o6 o7) h=(match o with
    | .nx e2 h2=>cH none all (.tup [5,6]) fP (Sm.numbered (i+1) (cs.map cS)) e2 h2
    | .ct e2 h2=>cH none all (.tup [5,6]) fP (Sm.numbered (i+1) (cs.map cS)) e2 h2
    | .bk e2 h2=>.nx e2 h2
    | .rt v h2=>.rt v h2
    | _=>.bad):=fun o eo=>by
   rw [Ls,Sm.numbered]
   conv=>lhs;unfold cH
   rw [KS (show fM none all h=true from rfl),st]
   dsimp only
   rw [eo]
   all_goals (cases o<;>rfl)
  by_cases q:k+i=U.length
  ·have e:U.drop (k+i)=[]:=by rw [q,Mq]
   rw [e,fU]
   exact un _ (s1 (by lia))
  ·have hk':k+i<U.length:=by lia
   obtain ⟨u,eu⟩:∃ u,U[k+i]? = some u:=⟨_,KR hk'⟩
   rw [Am eu]
   cases u with
   | n j =>
    rw [fU]
    exact un _ (s2 _ eu (fun z=>by cases z))
   | s w =>
    rw [fU]
    by_cases z:w=⟨#[c]⟩
    ·subst z
     rw [KS rfl]
     have ih:=An (p:=p) (t:=t) (o4:=o4) (o7:=o7) (all:=all) (k:=k) eR cs (i+1) (some (.int i)) (some (.str ⟨#[c]⟩)) (by lia)
     have go:=un _ (s3 eu)
     dsimp only at go
     rw [show k+i+1=k+(i+1) by lia]
     cases lm:fU cs (U.drop (k+(i+1))) with
     | bad=>rw [lm] at ih;exact go.trans ih
     | out=>rw [lm] at ih;exact go.trans ih
     | «at» r =>
      rw [lm] at ih
      obtain ⟨o5',o6',e⟩:=ih
      exact ⟨o5',o6',go.trans e⟩
    ·rw [KW z]
     exact un _ (s2 _ eu (fun y=>by cases y;exact z rfl))
theorem H8 {h:AH} {p t R d k:Nat} {U:List Un} (eR:h[R]? = some (.lst (U.map uv))) (hk:U.length<=k):dG (d+1) [.ref p,.int t,.ref R,.int k] h = .ok (.int ((U.length+1:Nat):Int)) h:=by
 have ln:ax [.ref R] h = .ok (.int U.length) h:=by simp only [ax,eR,K4]
 have ad1:aw (.int U.length) (.int 1) h = .ok (.int ((U.length+1:Nat):Int)) h:=rfl
 have ge:dQ (.int k) (.int U.length) h = .ok (.bl true) h:=by simp;omega
 show fQ (dG d) _ h=_
 generalize dG d=G
 generalize ((U.length+1:Nat):Int)=U1 at *
 generalize (U.length:Int)=U0 at *
 simp [fQ,ln,ge,ad1,-ax,-dQ,-aw]
theorem u7 {h:AH} {p R:Nat} {ps:List Pc} {U:List Un} (S:ShelfAt h p ps) (g:Good ps) (eR:h[R]? = some (.lst (U.map uv))):∀ (d:Nat) {t:Nat} {m f l:Ms} {x:Str},Tx ps t m x f l->m.ht.toNat<d->∀ k,k<=U.length ->
  u0 U h (i9 ps d t (U.drop k)) (dG d [.ref p,.int t,.ref R,.int k] h)
 | 0,t,m,f,l,x,T,hd,k,hk=>absurd hd (Lm _)
 | d+1,t,m,f,l,x,T,hd,k,hk=>by
  by_cases q:k=U.length
  ·subst q
   rw [Mq]
   exact H8 eR (KC _)
  ·have hk':k<U.length:=by lia
   obtain ⟨u,eu⟩:∃ u,U[k]? = some u:=⟨_,KR hk'⟩
   have ed:=Am eu
   have ln:ax [.ref R] h = .ok (.int U.length) h:=by simp only [ax,eR,K4]
   have ge:dQ (.int k) (.int U.length) h = .ok (.bl false) h:=by simp;lia
   have ix:=uU eR eu
   have ob:=S.ob
   rw [ed,Aj]
   by_cases z:u = .n t
   ·subst z
    rw [KS (by simp)]
    refine ⟨k+1,by lia,rfl,?_⟩
    have ix':au (.ref R) (.int k) h = .ok (.int t) h:=ix
    have q2:=lX t t h
    rw [KQ rfl] at q2
    have ad:aw (.int k) (.int 1) h = .ok (.int ((k+1:Nat):Int)) h:=rfl
    show fQ (dG d) _ h=_
    generalize dG d=G
    generalize (U.length:Int)=U0 at *
    generalize ((k+1:Nat):Int)=K1 at *
    simp [fQ,ln,ge,ix',q2,ad,-ax,-dQ,-aw,-au,-aC]
   ·have q2:aC (uv u) (.int t) h = .ok (.bl false) h:=by
     cases u with
     | n j =>
      have:=lX j t h
      rw [KD (fun y=>z (by congr 1;lia))] at this
      exact this
     | s w =>
      simp [bW,PyData.eqv]
    rw [KW (by
     cases u with
     | n j=>simp;intro y;exact z (by rw [y])
     | s w=>simp)]
    have lt:=uV h
    have lf:=uW h
    rcases g.kind T with ⟨e,_,_,x1,x8⟩ | ⟨a,b,ma,mb,y,w,fa,la,fb,lb,e,e2,_,A,B,x1,x2,_⟩
    ·rw [e]
     dsimp only
     rw [<- ed]
     have fp:=kD S T.n1 e
     have c0:au (Pc.leaf x).av (.int 0) h = .ok (.str "leaf") h:=rfl
     have c1:au (Pc.leaf x).av (.int 1) h = .ok (.str x) h:=rfl
     have lx:ax [.str x] h = .ok (.int x.length) h:=rfl
     have lp:=An (p:=p) (t:=some (.int t)) (o4:=some (Pc.leaf x).av) (o7:=none) (all:=Sm.numbered 0 (x.cps.toList.map cS)) (k:=k) eR x.cps.toList 0 none none (by lia)
     rw [Of] at lp
     have it:lC (ah au (ae 4) (af (.int 1))) (eM p (some (.int t)) R k (some (Pc.leaf x).av) none none none) h = .ok (Sm.numbered 0 (x.cps.toList.map cS),none) h:=by
      generalize (Pc.leaf x).av=PA at *
      simp [c1,nJ,-au]
     have fo:=gz (t:=.tup [5,6]) (b:=fP) it
     show u0 U h _ (fQ (dG d) [.ref p,.int t,.ref R,.int k] h)
     generalize dG d=G
     cases lm:fU x.cps.toList (U.drop k) with
     | bad =>
      rw [lm] at lp
      have f1:=fo.trans lp
      simp only [eM] at f1
      show fQ G _ h = .ok .non h
      unfold fQ
      generalize bp (lC (ah au (ae 4) (af (.int 1)))) (.tup [5,6]) fP=FF at *
      generalize (Pc.leaf x).av=PA at *
      generalize uv u=UU at *
      generalize (U.length:Int)=U0 at *
      simp [ln,ge,ix,q2,ob,fp,c0,lt,f1,-ax,-dQ,-aw,-au,-aC]
     | out =>
      rw [lm] at lp
      have f1:=fo.trans lp
      simp only [eM] at f1
      show fQ G _ h = .ok (.int ((U.length+1:Nat):Int)) h
      unfold fQ
      generalize bp (lC (ah au (ae 4) (af (.int 1)))) (.tup [5,6]) fP=FF at *
      generalize (Pc.leaf x).av=PA at *
      generalize uv u=UU at *
      generalize ((U.length+1:Nat):Int)=U1 at *
      generalize (U.length:Int)=U0 at *
      simp [ln,ge,ix,q2,ob,fp,c0,lt,f1,-ax,-dQ,-aw,-au,-aC]
     | «at» r =>
      rw [lm] at lp
      obtain ⟨o5,o6,lp⟩:=lp
      have f1:=fo.trans lp
      simp only [eM] at f1
      obtain ⟨r1,r2⟩:=Al _ _ _ lm
      rw [Ln,<- bB] at r2
      refine ⟨k+x.length,by lia,by rw [r1,List.drop_drop,<- bB],?_⟩
      have ad:aw (.int k) (.int x.length) h = .ok (.int ((k+x.length:Nat):Int)) h:=rfl
      unfold fQ
      generalize bp (lC (ah au (ae 4) (af (.int 1)))) (.tup [5,6]) fP=FF at *
      generalize (Pc.leaf x).av=PA at *
      generalize uv u=UU at *
      generalize ((k+x.length:Nat):Int)=K1 at *
      generalize (x.length:Int)=XL at *
      generalize (U.length:Int)=U0 at *
      simp [ln,ge,ix,q2,ob,fp,c0,c1,lt,f1,lx,ad,-ax,-dQ,-aw,-au,-aC]
    ·rw [e]
     dsimp only
     have fp:=kD S T.n1 e
     have c0:au (Pc.fork a b).av (.int 0) h = .ok (.str "fork") h:=rfl
     have c1:au (Pc.fork a b).av (.int 1) h = .ok (.int a) h:=rfl
     have c2:au (Pc.fork a b).av (.int 2) h = .ok (.int b) h:=rfl
     have hh:m.ht=max ma.ht mb.ht+1:=by rw [x2];rfl
     have a0:=A.ky.ht
     have b0:=B.ky.ht
     have ia:=u7 S g eR d A (by lia) k hk
     rw [ed] at ia
     show u0 U h _ (fQ (dG d) [.ref p,.int t,.ref R,.int k] h)
     cases h1:i9 ps d a (u::U.drop (k+1)) with
     | bad =>
      rw [h1] at ia
      have ia':dG d [.ref p,.int a,.ref R,.int k] h = .ok .non h:=ia
      have isn:bg .non .non h = .ok (.bl true) h:=by simp
      show fQ (dG d) _ h = .ok .non h
      generalize dG d=G at *
      generalize (Pc.fork a b).av=PA at *
      generalize uv u=UU at *
      generalize (U.length:Int)=U0 at *
      simp [fQ,ln,ge,ix,q2,ob,fp,c0,c1,lf,ia',isn,-ax,-dQ,-aw,-au,-aC,-bg]
     | out =>
      rw [h1] at ia
      have ia':dG d [.ref p,.int a,.ref R,.int k] h = .ok (.int ((U.length+1:Nat):Int)) h:=ia
      have isn:bg (.int ((U.length+1:Nat):Int)) .non h = .ok (.bl false) h:=by simp
      have gt:eY (.int ((U.length+1:Nat):Int)) (.int U.length) h = .ok (.bl true) h:=by simp;lia
      show fQ (dG d) _ h = .ok (.int ((U.length+1:Nat):Int)) h
      generalize dG d=G at *
      generalize (Pc.fork a b).av=PA at *
      generalize uv u=UU at *
      generalize ((U.length+1:Nat):Int)=U1 at *
      generalize (U.length:Int)=U0 at *
      simp [fQ,ln,ge,ix,q2,ob,fp,c0,c1,lf,ia',isn,gt,-ax,-dQ,-eY,-aw,-au,-aC,-bg]
     | «at» r =>
      rw [h1] at ia
      obtain ⟨k',k1,rfl,k2⟩:=ia
      have ib:=u7 S g eR d B (by lia) k' k1
      dsimp only
      have isn:bg (.int k') .non h = .ok (.bl false) h:=by simp
      have gt:eY (.int k') (.int U.length) h = .ok (.bl false) h:=by simp;lia
      have ev:fQ (dG d) [.ref p,.int t,.ref R,.int k] h=dG d [.ref p,.int b,.ref R,.int k'] h:=by
       generalize dG d=G at *
       generalize hX:G [.ref p,.int b,.ref R,.int k'] h=X
       generalize (Pc.fork a b).av=PA at *
       generalize uv u=UU at *
       generalize (U.length:Int)=U0 at *
       simp [fQ,ln,ge,ix,q2,ob,fp,c0,c1,c2,lf,k2,isn,gt,hX,-ax,-dQ,-eY,-aw,-au,-aC,-bg]
       cases X<;>rfl
      rw [ev]
      exact ib
end Sk
namespace Sk
open PySem PySem.Spec L2 Sm
theorem u9 {h:AH} {R:Nat} {U:List Un} (e:h[R]? = some (.lst (U.map uv))):aC (.ref R) (.fl []) h = .ok (.bl (decide (U=[]))) h:=by
 have:=zI (st:=U.reverse) (by rw [List.reverse_reverse];exact e)
 rw [this]
 congr 2
 exact decide_eq_decide.mpr (by simp)
def Kx (ps:List Pc):Un->Str
 | .n k=>((reads ps)[k]?).getD ""
 | .s z=>z
theorem Ao {ps:List Pc}:∀ {its:List Un} {i:Un},i∈its->(iJ ps i).length<=(br ps its).length
 | j::r,i,hi=>by
  rw [br,KH]
  rcases K6.mp hi with rfl | hi
  ·lia
  ·have:=Ao (ps:=ps) hi
   lia
end Sk
namespace Sk
open PySem PySem.Spec L2 Sm
def iw:List Str:=["ab", "aaab", "a\n", "ab \n", "abcdefghijklmnopqrstuvwxyz 0123456789.,~\n"]
theorem oF:∀ x∈iw,bJ x=true/\1<=x.length/\x.length<=200:=by decide +kernel
theorem Ia (v:Nat) (hv:v<5):∃ z:Str,(∀ h,au (.fl [.str "ab",.str "aaab",.str "a\n",.str "ab \n",.str "abcdefghijklmnopqrstuvwxyz 0123456789.,~\n"]) (.int (v:Int)) h = .ok (.str z) h)/\bJ z=true/\1<=z.length/\z.length<=200:=by
 have:v=0\/v=1\/v=2\/v=3\/v=4:=by lia
 rcases this with rfl | rfl | rfl | rfl | rfl
 ·exact ⟨_,fun _=>rfl,oF _ (by simp [iw])⟩
 ·exact ⟨_,fun _=>rfl,oF _ (by simp [iw])⟩
 ·exact ⟨_,fun _=>rfl,oF _ (by simp [iw])⟩
 ·exact ⟨_,fun _=>rfl,oF _ (by simp [iw])⟩
 ·exact ⟨_,fun _=>rfl,oF _ (by simp [iw])⟩
theorem Ib {x:Str} {v:Nat} (hv:v<x.length) (hx:bJ x=true) (h:AH):∃ c,c∈x.cps.toList/\gh c=true/\au (.str x) (.int v) h = .ok (.str ⟨#[c]⟩) h:=by
 have hv':v<x.cps.toList.length:=by rw [<- bB];exact hv
 refine ⟨x.cps.toList[v],MH hv',Lo.mp hx _ (MH hv'),?_⟩
 have e:x.cps.toList[v]? = some x.cps.toList[v]:=KR hv'
 simp only [au,kR e]
theorem Ic {hh:AH} {L:Nat} {N:Int} (most:Nat) (hm:most<=1000) (e:hh[L]? = some (.lst [.int N])):∃ (y:Str) (N':Int),ko [.ref L,.int most] hh = .ok (.str y) (hh.set L (.lst [.int N']))/\bJ y=true/\y.length<=most:=by
 have Ll:=bO e
 obtain ⟨v,N1,hv,t1⟩:=qy 5 e (by decide) (by decide)
 have t1':cM [.ref L,.int 5] hh = .ok (.int v) (hh.set L (.lst [.int N1])):=t1
 obtain ⟨z,ez,pz,z1,z2⟩:=Ia v hv
 have e1:(hh.set L (.lst [.int N1]))[L]? = some (.lst [.int N1]):=KG Ll
 obtain ⟨k,N2,hk,t2⟩:=qy (most+1) e1 (Nu _) (KN (Nat.succ_le_succ hm) (by decide))
 rw [Lq] at t2
 have t2':cM [.ref L,.int ((most:Int)+1)] (hh.set L (.lst [.int N1])) = .ok (.int k) (hh.set L (.lst [.int N2])):=by
  have:=t2;rw [Int.natCast_succ] at this;exact this
 obtain ⟨e',h',r1,y,N3,o4,r2,r3,r4,r5⟩:=j5 (w:=none) (all:=dh 0 k) (t:=.nm 4) (b:=lD) (xs:=dh 0 k) (en:=[some (.ref L),some (.int most),some (.str z),some (.str ""),none]) (h:=hh.set L (.lst [.int N2]))
  (fun j en h' => ∃ (y:Str) (N':Int) (o4:Option AV),en=[some (.ref L),some (.int most),some (.str z),some (.str y),o4]/\h'=hh.set L (.lst [.int N'])/\bJ y=true/\y.length=j) ⟨"",N2,none,rfl,rfl,rfl,rfl⟩ (fun _ _ _ _=>rfl) (by
   rintro j u en h' hu ⟨y,N',o4,rfl,rfl,py,ly⟩
   have jk:j<k:=by have:=(Kz.mp hu).1;rwa [j6] at this
   have e3:(hh.set L (.lst [.int N']))[L]? = some (.lst [.int N']):=KG Ll
   obtain ⟨t,N4,ht,et⟩:=qy z.length e3 (by lia) (KN z2 (by decide))
   rw [Lq] at et
   obtain ⟨c,mc,pc,ec⟩:=Ib ht pz (hh.set L (.lst [.int N4]))
   have ad:aw (.str y) (.str ⟨#[c]⟩) (hh.set L (.lst [.int N4])) = .ok (.str (y++⟨#[c]⟩)) (hh.set L (.lst [.int N4])):=by
    have:y.length+(⟨#[c]⟩:Str).length<=sizeLine:=KN (m:=1001) (by show y.length+1<=_;lia) (by decide)
    simp only [aw,this,Mc]
   have es:lD [some (.ref L),some (.int most),some (.str z),some (.str y),some u] (hh.set L (.lst [.int N'])) = .nx [some (.ref L),some (.int most),some (.str z),some (.str (y++⟨#[c]⟩)),some u] (hh.set L (.lst [.int N4])):=by
    generalize hh.set L (.lst [.int N4])=h2 at *
    generalize hh.set L (.lst [.int N'])=h1 at *
    simp [lD,et,ec,ad,-au,-aw]
   show thn (lD [some (.ref L),some (.int most),some (.str z),some (.str y),some u] (hh.set L (.lst [.int N']))) _
   rw [es]
   obtain ⟨q1,q2⟩:=HS py pc
   exact ⟨_,N4,_,rfl,rfl,q1,by rw [q2,ly]⟩)
 rw [j6] at r5
 have f1:=(gz (t:=.nm 4) (b:=lD) (mI (a:=aG cM (aj (ae 0) (aj (ah aw (ae 1) (af (.int 1))) ag))) (en:=[some (.ref L),some (.int most),some (.str z),some (.str ""),none]) (h:=hh.set L (.lst [.int N1])) (n:=k) (by simp [t2']) (by lia))).trans r1
 refine ⟨y,N3,?_,r4,by lia⟩
 rw [<- r3]
 subst r2
 unfold ko
 generalize bp (fN (aG cM (aj (ae 0) (aj (ah aw (ae 1) (af (.int 1))) ag)))) (.nm 4) lD=F1 at *
 generalize hh.set L (.lst [.int N1])=h1 at *
 simp [t1',ez,f1,-aw,-au]
structure Zq (L:Nat) (h:AH) (ps:List Pc):Prop where
 sh:ShelfAt h 0 ps
 gd:Good ps
 hl:8<L
 ro:∃ N:Int,h[L]? = some (.lst [.int N])
theorem Zq.app {L:Nat} {h:AH} {ps:List Pc} (z:Zq L h ps) (r:AH):Zq L (h++r) ps:=by
 obtain ⟨N,e⟩:=z.ro
 exact ⟨z.sh.app r,z.gd,z.hl,N,by rw [KA (bO e)];exact e⟩
theorem Zq.dd {L:Nat} {h h':AH} {ps ps':List Pc} {k:Nat} (z:Zq L h ps) (d:Dd 0 h h' ps ps' k):Zq L h' ps' := by
 obtain ⟨N,e⟩:=z.ro
 exact ⟨d.sh,d.gd,z.hl,N,(d.fr L (.inr (by have:=z.hl;omega))).trans e⟩
theorem Zq.takeK {L:Nat} {h:AH} {ps:List Pc} (z:Zq L h ps) (m:Nat) (hm:0<m) (hm2:m<=10 ^ 50):∃ (v:Nat) (h':AH),v<m/\cM [.ref L,.int m] h = .ok (.int v) h'/\Zq L h' ps/\(∀ i,i≠L->h'[i]? = h[i]?)/\h'.length=h.length:=by
 obtain ⟨N,e⟩:=z.ro
 obtain ⟨v,N',hv,t⟩:=qy m e hm hm2
 exact ⟨v,_,hv,t,⟨eQ z.sh (by have:=z.hl;lia) _,z.gd,z.hl,N',KG (bO e)⟩,fun i hi=>KM (fun q=>hi q.symm),LI⟩
theorem Zq.take {L:Nat} {h:AH} {ps:List Pc} (z:Zq L h ps) (m:Nat) (hm:0<m) (hm2:m<=10 ^ 50):∃ (v:Nat) (h':AH),v<m/\cM [.ref L,.int m] h = .ok (.int v) h'/\Zq L h' ps:=by
 obtain ⟨v,h',a,b,c,_⟩:=z.takeK m hm hm2
 exact ⟨v,h',a,b,c⟩
theorem Zq.plain {L:Nat} {h:AH} {ps:List Pc} (z:Zq L h ps) (most:Nat) (hm:most<=1000):∃ (y:Str) (h':AH),ko [.ref L,.int most] h = .ok (.str y) h'/\Zq L h' ps/\bJ y=true/\y.length<=most:=by
 obtain ⟨N,e⟩:=z.ro
 obtain ⟨y,N',t,py,ly⟩:=Ic most hm e
 exact ⟨y,_,t,⟨eQ z.sh (by have:=z.hl;lia) _,z.gd,z.hl,N',KG (bO e)⟩,py,ly⟩
end Sk
namespace Sk
open PySem PySem.Spec L2 Sm
theorem oG {ps:List Pc} (g:Good ps) {n:Nat} {x:Str} (t:TxZ ps n x):i5 ps n<=82:=by
 rcases t with ⟨rfl,rfl⟩ | ⟨m,f,l,T⟩
 ·show ((meas ps).getD 0 ms0).ht<=82
  have e:(meas ps)[0]? = some ms0:=qj ps
  rw [j9 e]
  decide
 ·show ((meas ps).getD n ms0).ht<=82
  rw [j9 T.ms]
  exact fI g T
theorem Zq.more {L:Nat} {h:AH} {ps:List Pc} {a:Nat} {x y:Str} (z:Zq L h ps) (A:TxZ ps a x) (py:bJ y=true) (lx:x.length<=100) (ly:y.length<=100) (hz:ps.length<=1000000):∃ (b n:Nat) (h1 h':AH) (ps':List Pc),lI [.ref 0,.str y] h = .ok (.int b) h1/\ip [.ref 0,.int a,.int b] h1 = .ok (.int n) h'/\Zq L h' ps'/\ps <+: ps'/\TxZ ps' n (x++y)/\ps'.length<=ps.length+1600:=by
 obtain ⟨b,ps1,h1,f1,D1,B⟩:=G9 z.sh z.gd py (by lia) (by lia)
 have l1:=D1.len
 obtain ⟨n,ps2,h2,D2,T⟩:=GW D1.sh D1.gd (A.pre D1.pre) B (by lia) (by lia)
 have l2:=D2.dd.len
 have m1:=oG D1.gd (A.pre D1.pre)
 have m2:=oG D1.gd B
 exact ⟨b,n,h1,h2,ps2,f1,D2.ev,(z.dd D1).dd D2.dd,D1.pre.trans D2.dd.pre,T,by lia⟩
theorem va (x:Str) (n:Nat):bP x n++bF x n=x:=cU (by rw [eC,gj,gO,Mj])
theorem Ie (a b c:Str):(a++b)++c=a++(b++c):=cU (by rw [eC,eC,eC,eC,Lg])
abbrev eG (L:Nat) (y:Str) (n:Nat) (rest:Str) (o5 o6:Option AV):En:=[some (.ref 0),some (.str y),some (.ref L),some (.int n),some (.str rest),o5,o6]
theorem Ig {L n:Nat} {h:AH} {ps:List Pc} {y a rest:Str} {o5 o6:Option AV} (z:Zq L h ps) (A:TxZ ps n a) (e:a++rest=y) (pr:bJ rest=true) (ly:y.length<=60) (hz:ps.length<=1000000) :
  ∃ (n':Nat) (h':AH) (ps':List Pc) (a' rest':Str) (o6':Option AV),lJ (eG L y n rest o5 o6) h = .nx (eG L y n' rest' o5 o6') h'/\Zq L h' ps'/\ps <+: ps'/\TxZ ps' n' a'/\a' ++ rest'=y/\bJ rest'=true/\ps'.length<=ps.length+1600:=by
 have ll:a.length+rest.length=y.length:=by rw [<- e,fk]
 obtain ⟨v,h1,hv,t,z1⟩:=z.take (rest.length+1) (Nu _) (KN (m:=61) (by lia) (by decide))
 have ln:ax [.str rest] h = .ok (.int rest.length) h:=rfl
 have ad:aw (.int rest.length) (.int 1) h = .ok (.int ((rest.length+1:Nat):Int)) h:=rfl
 have lt:=zq (x:=rest) (a:=v) (by lia)
 obtain ⟨b,n',h2,h3,ps',f1,f2,z3,pr3,T,l3⟩:=z1.more A (uc pr v) (by lia) (by lia) hz
 have c1:=lS (x:=rest) (a:=v) h1
 have c2:∀ hh,bI (.str rest) (some (v:Int)) none hh = .ok (.str (bF rest v)) hh:=mK (by lia)
 refine ⟨n',h3,ps',a++bP rest v,bF rest v,some (.int v),?_,z3,pr3,T,by rw [Ie,va,e],uH pr,l3⟩
 clear z z1 z3 A T
 generalize ((rest.length+1:Nat):Int)=RL at *
 generalize (rest.length:Int)=R0 at *
 generalize (v:Int)=VV at *
 simp [lJ,eG,ln,ad,t,c1,f1,f2,c2,-ax,-aw,-bI]
theorem Ap {L:Nat} {h:AH} {ps:List Pc} {y:Str} (z:Zq L h ps) (py:bJ y=true) (ly:y.length<=60) (hz:ps.length<=900000) :
  ∃ (n:Nat) (h':AH) (ps':List Pc),mH [.ref 0,.str y,.ref L] h = .ok (.int n) h'/\Zq L h' ps'/\ps <+: ps'/\TxZ ps' n y/\ps'.length<=ps.length+10000:=by
 obtain ⟨k,h1,hk,t,z1⟩:=z.take 5 (by decide) (by decide)
 replace t:cM [.ref L,.int 5] h = .ok (.int k) h1:=t
 have e0:("" : Str)++y=y:=cU (by rw [eC];rfl)
 obtain ⟨e',h',r1,r2⟩:=j5 (w:=none) (all:=dh 0 k) (t:=.nm 5) (b:=lJ) (xs:=dh 0 k) (en:=eG L y 0 y none none) (h:=h1)
  (fun j en hh=>j<=4->∃ (n:Nat) (ps':List Pc) (a rest:Str) (o5 o6:Option AV),en=eG L y n rest o5 o6/\Zq L hh ps'/\ps <+: ps'/\TxZ ps' n a/\a++rest=y/\bJ rest=true/\ps'.length<=ps.length+j*1600)
  (fun _=>⟨0,ps, "",y,none,none,rfl,z1,LR _,.inl ⟨rfl,rfl⟩,e0,py,by lia⟩) (fun _ _ _ _=>rfl) (by
   intro j u en hh hu hp
   have jk:j<k:=by have:=(Kz.mp hu).1;rwa [j6] at this
   obtain ⟨n,ps1,a,rest,o5,o6,rfl,z2,p2,A,e,pr,l2⟩:=hp (by lia)
   obtain ⟨n',h3,ps3,a',rest',o6',ev,z3,p3,A3,e3,pr3,l3⟩:=Ig (o5:=some u) (o6:=o6) z2 A e pr ly (by lia)
   show thn (lJ (eG L y n rest (some u) o6) hh) _
   rw [ev]
   exact fun _=>⟨n',ps3,a',rest',some u,o6',rfl,z3,p2.trans p3,A3,e3,pr3,by lia⟩)
 rw [j6] at r2
 obtain ⟨n,ps1,a,rest,o5,o6,rfl,z2,p2,A,e,pr,l2⟩:=r2 (by lia)
 have ll:a.length+rest.length=y.length:=by rw [<- e,fk]
 obtain ⟨b,n',h2,h3,ps',f1,f2,z3,p3,T,l3⟩:=z2.more A pr (by lia) (by lia) (by lia)
 rw [e] at T
 refine ⟨n',h3,ps',?_,z3,p2.trans p3,T,by lia⟩
 have it:fN (aG cM (aj (ae 2) (aj (af (.int 5)) ag))) (eG L y 0 y none none) h = .ok (dh 0 k,none) h1:=mI (by simp [eG,t]) (by exact KN (Mf hk) (by decide))
 have fo:=(gz (t:=.nm 5) (b:=lJ) it).trans r1
 clear z z1 z2 z3 A T
 unfold mH
 generalize bp (fN (aG cM (aj (ae 2) (aj (af (.int 5)) ag)))) (.nm 5) lJ=FF at *
 have z0:eG L y 0 y none none=[some (.ref 0),some (.str y),some (.ref L),some (.int 0),some (.str y),none,none]:=rfl
 rw [z0] at fo
 simp only [eG] at fo
 simp [fo,f1,f2]
theorem Ii (v:Nat) (hv:v<3) (h:AH):∃ c:Nat,gh c=true/\au (.str "ab\n") (.int v) h = .ok (.str ⟨#[c]⟩) h:=HR (x := "ab\n") hv (by decide) h
theorem Ij {L:Nat} {h:AH} {ps:List Pc} (z:Zq L h ps):∃ (x y:Str) (h':AH),lE [.ref L,.int 40] h = .ok (.tup [.str x,.str y]) h'/\Zq L h' ps/\bJ x=true/\bJ y=true/\x.length<=52/\y.length<=52:=by
 obtain ⟨x,h1,t1,z1,px,lx⟩:=z.plain 40 (by decide)
 replace t1:ko [.ref L,.int 40] h = .ok (.str x) h1:=t1
 obtain ⟨k,h2,hk,t2,z2⟩:=z1.take 5 (by decide) (by decide)
 replace t2:cM [.ref L,.int 5] h1 = .ok (.int k) h2:=t2
 obtain ⟨a,h3,ha,t3,z3⟩:=z2.take (x.length+1) (Nu _) (KN (m:=51) (by lia) (by decide))
 have ln:ax [.str x] h2 = .ok (.int x.length) h2:=rfl
 have ad:aw (.int x.length) (.int 1) h2 = .ok (.int ((x.length+1:Nat):Int)) h2:=rfl
 have lt:bz (.int k) (.int 2) h3 = .ok (.bl (decide ((k:Int)<2))) h3:=rfl
 have e2:=dc k 2 h3
 have e3:=dc k 3 h3
 replace e2:aC (.int k) (.int 2) h3 = .ok (.bl (decide (k=2))) h3:=e2
 replace e3:aC (.int k) (.int 3) h3 = .ok (.bl (decide (k=3))) h3:=e3
 have c1:=lS (x:=x) (a:=a) h3
 have l1:=zq (x:=x) (a:=a) (by lia)
 by_cases q:k<2
 ·rw [KQ (show (k:Int)<2 by lia)] at lt
  refine ⟨x,x,h3,?_,z3,px,px,by lia,by lia⟩
  clear z z1 z2 z3 e2 e3
  generalize ((x.length+1:Nat):Int)=XL1 at *
  generalize (x.length:Int)=XL at *
  generalize (k:Int)=KK at *
  simp [lE,t1,t2,ln,ad,t3,lt,-ax,-aw,-bz,-aC]
 ·rw [KD (show ¬ (k:Int)<2 by lia)] at lt
  by_cases q2:k=2
  ·rw [KQ q2] at e2
   obtain ⟨v,h4,hv,t4,z4⟩:=z3.take 3 (by decide) (by decide)
   replace t4:cM [.ref L,.int 3] h3 = .ok (.int v) h4:=t4
   obtain ⟨c,pc,ic⟩:=Ii v hv h4
   have a1:=tU (w:=bP x a) (v:=⟨#[c]⟩) (by show _+1<=100;lia) h4
   have a2:aw (.int a) (.int 1) h4 = .ok (.int ((a+1:Nat):Int)) h4:=rfl
   obtain ⟨d,pd,ld,cd⟩:∃ d:Str,bJ d=true/\d.length<=x.length-(a+1)/\bI (.str x) (some ((a+1:Nat):Int)) none h4 = .ok (.str d) h4:=by
    by_cases w:a+1<=x.length
    ·exact ⟨bF x (a+1),uH px,by rw [jt];lia,mK w h4⟩
    ·refine ⟨"",rfl,Lc _,?_⟩
     simp only [bI]
     congr 2
     refine cU ?_
     have:((x.cps.toList.drop (HT.sIx x.cps.size 0 (some ((a+1:Nat):Int)))).take (HT.sIx x.cps.size x.cps.size none-HT.sIx x.cps.size 0 (some ((a+1:Nat):Int))))=[]:=by
      rw [HT.sIx_nat,HT.sIx_none]
      rw [ML (by have:x.cps.size=x.length:=rfl;lia),Nat.sub_self,List.take_zero]
     rw [show (Str.ofString "" : Str).cps.toList=[] from rfl]
     simpa [cz] using this
   have lc:(bP x a++(⟨#[c]⟩:Str)).length=a+1:=by rw [fk,l1];rfl
   have a3:=tU (w:=bP x a++⟨#[c]⟩) (v:=d) (by lia) h4
   have pl:bJ (bP x a++(⟨#[c]⟩:Str)++d)=true:=by
    rw [lQ,lQ,uc px a,pd]
    simp [bJ,pc]
   have ll:(bP x a++(⟨#[c]⟩:Str)++d).length<=52:=by rw [fk,lc];lia
   refine ⟨x,_,h4,?_,z4,px,pl,by lia,ll⟩
   clear z z1 z2 z3 z4 e3 pl ll
   generalize bP x a++(⟨#[c]⟩:Str)++d=W2 at *
   generalize bP x a++(⟨#[c]⟩:Str)=W1 at *
   generalize bP x a=W0 at *
   generalize ((x.length+1:Nat):Int)=XL1 at *
   generalize (x.length:Int)=XL at *
   generalize ((a+1:Nat):Int)=AA1 at *
   generalize (a:Int)=AA at *
   generalize (k:Int)=KK at *
   simp [lE,t1,t2,ln,ad,t3,lt,e2,c1,t4,ic,a1,a2,cd,a3,-ax,-aw,-bz,-aC,-au,-bI]
  ·rw [KD q2] at e2
   by_cases q3:k=3
   ·rw [KQ q3] at e3
    refine ⟨bP x a,x,h3,?_,z3,uc px a,px,by lia,by lia⟩
    clear z z1 z2 z3
    generalize bP x a=W0 at *
    generalize ((x.length+1:Nat):Int)=XL1 at *
    generalize (x.length:Int)=XL at *
    generalize (a:Int)=AA at *
    generalize (k:Int)=KK at *
    simp [lE,t1,t2,ln,ad,t3,lt,e2,e3,c1,-ax,-aw,-bz,-aC,-au,-bI]
   ·rw [KD q3] at e3
    obtain ⟨y,h4,t4,z4,py,ly⟩:=z3.plain 40 (by decide)
    replace t4:ko [.ref L,.int 40] h3 = .ok (.str y) h4:=t4
    refine ⟨x,y,h4,?_,z4,px,py,by lia,by lia⟩
    clear z z1 z2 z3 z4
    generalize ((x.length+1:Nat):Int)=XL1 at *
    generalize (x.length:Int)=XL at *
    generalize (a:Int)=AA at *
    generalize (k:Int)=KK at *
    simp [lE,t1,t2,ln,ad,t3,lt,e2,e3,t4,-ax,-aw,-bz,-aC,-au,-bI]
end Sk
namespace Sk
open PySem PySem.Spec L2 Sm
inductive dq:AV->Prop
 | int (i:Int):dq (.int i)
 | str (z:Str) (l:z.length<=9):dq (.str z)
 | non:dq .non
 | bl (b:Bool):dq (.bl b)
 | fl:dq (.fl [])
 | tup:dq (.tup [.str "a"])
structure Oddv (ps:List Pc) (v:AV):Prop where
 it:dq v
 no:∀ i,OkI ps i->v≠uv i
theorem Oddv.no_int {ps:List Pc} {i:Int} (g:Good ps) (o:Oddv ps (.int i)) : ¬ (1<=i/\i<=ps.length):=fun q=>by
 obtain ⟨k,rfl⟩:=LU (by lia:0<=i)
 obtain ⟨m,x,f,l,T⟩:=g.tx k (by lia) (by lia)
 exact o.no (.n k) (.n T) rfl
theorem Oddv.no_str {ps:List Pc} {z:Str} (o:Oddv ps (.str z)):dP z=false:=by
 cases h:dP z with
 | false=>rfl
 | true=>exact absurd rfl (o.no (.s z) (.s h))
theorem Oddv.has {ps:List Pc} {v:AV} {h:AH} {p:Nat} (o:Oddv ps v) (g:Good ps) (S:ShelfAt h p ps):gc [.ref p,v] h = .ok (.bl false) h/\ik [v] h = .ok (.bl false) h:=by
 have ob:=S.ob
 cases o.it with
 | int i=>exact ⟨by rw [p9 S,KD (o.no_int g)],by simp [ik,jq]⟩
 | str z l=>exact ⟨by simp [gc,iS,ob],by rw [nY z h (KN l (by decide)),o.no_str]⟩
 | non=>exact ⟨by simp [gc,iS,ob],by simp [ik,jq]⟩
 | bl b=>exact ⟨by simp [gc,iS,ob],by simp [ik,jq]⟩
 | fl=>exact ⟨by simp [gc,iS,ob],by simp [ik,jq]⟩
 | tup=>exact ⟨by simp [gc,iS,ob],by simp [ik,jq]⟩
theorem Oddv.takes {ps:List Pc} {v l:AV} {h:AH} {p:Nat} (o:Oddv ps v) (g:Good ps) (S:ShelfAt h p ps):fO [.ref p,l,v] h = .ok (.bl false) h:=by
 obtain ⟨a,b⟩:=o.has g S
 have ob:=S.ob
 simp [fO,ob,a,b]
theorem Aq {ps:List Pc}:∀ xs:List AV,(∀ v∈xs,dq v)->(∃ its:List Un,xs=its.map uv/\∀ i∈its,OkI ps i)\/(∃ (its:List Un) (v:AV) (rest:List AV),xs=its.map uv++v::rest/\(∀ i∈its,OkI ps i)/\Oddv ps v)
 | [],_=>.inl ⟨[],rfl,fun i hi=>(by cases hi)⟩
 | v::xs,al=>by
  by_cases q:∃ i,OkI ps i/\v=uv i
  ·obtain ⟨i,oi,rfl⟩:=q
   have cons:∀ its:List Un,(∀ i∈its,OkI ps i)->∀ j∈i::its,OkI ps j:=fun its ok j hj=>by
    rcases K6.mp hj with rfl | hj
    ·exact oi
    ·exact ok j hj
   rcases Aq xs (fun w hw=>al w (KJ _ hw)) with ⟨its,rfl,ok⟩ | ⟨its,w,rest,rfl,ok,od⟩
   ·exact .inl ⟨i::its,rfl,cons its ok⟩
   ·exact .inr ⟨i::its,w,rest,rfl,cons its ok,od⟩
  ·exact .inr ⟨[],v,xs,rfl,fun i hi=>(by cases hi),al v (KF ..),fun i oi e=>q ⟨i,oi,e⟩⟩
inductive SrcA (h:AH) (xs:List AV):AV->Option Nat->Prop
 | ref {B:Nat} (e:h[B]? = some (.lst xs)):SrcA h xs (.ref B) (some B)
 | fl:SrcA h xs (.fl xs) none
theorem SrcA.i {h:AH} {its:List Un} {v:AV} {w:Option Nat} (s:SrcA h (its.map uv) v w):SrcI h its v w:=by
 cases s with
 | ref e=>exact .ref e
 | fl=>exact .fl
theorem SrcA.live {h:AH} {xs:List AV} {v:AV} {w:Option Nat} (s:SrcA h xs v w) {hh:AH} (k:∀ i,i<h.length->hh[i]? = h[i]?):fM w xs hh=true:=by
 cases s with
 | ref e=>simp [k _ (bO e),e]
 | fl=>rfl
theorem SrcA.mono {h hh:AH} {xs:List AV} {v:AV} {w:Option Nat} (s:SrcA h xs v w) (k:∀ i,i<h.length->hh[i]? = h[i]?):SrcA hh xs v w:=by
 cases s with
 | ref e=>exact .ref ((k _ (bO e)).trans e)
 | fl=>exact .fl
theorem SrcA.iv {h:AH} {xs:List AV} {v:AV} {w:Option Nat} (s:SrcA h xs v w) {en:En} {j:Nat} (e:en[j]? = some (some v)):bc (ae j) en h = .ok (xs,w) h:=by
 cases s with
 | ref e2=>simp [e,e2]
 | fl=>simp [e]
theorem Ar {h:AH} {p t:Nat} {ps:List Pc} {all:List AV} {v V:AV} {rest:List AV} {w:Option Nat} (g:Good ps) (sr:SrcA h all V w) (hW:p+8<h.length) (od:Oddv ps v):∀ (its:List Un) (st:List Un) (hh:AH) (o4:Option AV),(∀ i∈its,OkI ps i)->(∀ u∈st,OkU ps u)->Bd ps 83 st->ShelfAt hh p ps ->
  (∀ i,i<h.length->hh[i]? = h[i]?)->hh[h.length]? = some (.lst (st.reverse.map uv)) ->
  ∃ Z,cH w all (.nm 4) de (its.map uv++v::rest) [some (.ref p),some (.int t),some V,some (.ref h.length),o4] hh = .rt .non (hh.set h.length (.lst Z))
 | [],st,hh,o4,oi,ok,bd,S',k,eW=>by
  have tk:=od.takes (l:=.ref h.length) g S'
  refine ⟨st.reverse.map uv,?_⟩
  rw [lV eW,Np,L6]
  unfold cH
  rw [KS (sr.live k)]
  have st1:dB (.nm 4) v [some (.ref p),some (.int t),some V,some (.ref h.length),o4]=some [some (.ref p),some (.int t),some V,some (.ref h.length),some v]:=rfl
  rw [st1]
  dsimp only
  have eb:de [some (.ref p),some (.int t),some V,some (.ref h.length),some v] hh = .rt .non hh:=by simp [de,tk]
  rw [eb]
 | i::its,st,hh,o4,oi,ok,bd,S',k,eW=>by
  have bl:=bd.len
  rw [Ls,LQ]
  unfold cH
  rw [KS (sr.live k)]
  have st1:dB (.nm 4) (uv i) [some (.ref p),some (.int t),some V,some (.ref h.length),o4]=some [some (.ref p),some (.int t),some V,some (.ref h.length),some (uv i)]:=rfl
  rw [st1]
  dsimp only
  rcases zC S' g hW ok (oi i (KF ..)) (by lia) eW with ⟨st',a,e⟩ | ⟨a,Z,e⟩
  ·have eb:de [some (.ref p),some (.int t),some V,some (.ref h.length),some (uv i)] hh = .nx [some (.ref p),some (.int t),some V,some (.ref h.length),some (uv i)] (hh.set h.length (.lst (st'.reverse.map uv))):=by
    generalize hh.set h.length (.lst (st'.reverse.map uv))=HF at *
    generalize uv i=I at *
    simp [de,e]
   rw [eb]
   dsimp only
   obtain ⟨Z,r⟩:=Ar (t:=t) (rest:=rest) g sr hW od its st' (hh.set h.length (.lst (st'.reverse.map uv))) (some (uv i)) (fun j hj=>oi j (KJ _ hj)) (mL g ok a).2.1 (uz g ok a bd) (eQ S' hW _) (fun j hj=>by rw [KM (by lia)];exact k j hj) (KG (bO eW))
   exact ⟨Z,by rw [r,Lq]⟩
  ·have eb:de [some (.ref p),some (.int t),some V,some (.ref h.length),some (uv i)] hh = .rt .non (hh.set h.length (.lst Z)):=by
    generalize hh.set h.length (.lst Z)=HF at *
    generalize uv i=I at *
    simp [de,e]
   rw [eb]
   exact ⟨Z,rfl⟩
theorem As {h:AH} {p t:Nat} {ps:List Pc} {its:List Un} {v V:AV} {rest:List AV} {w:Option Nat} {x:Str} (S:ShelfAt h p ps) (g:Good ps) (T:TxZ ps t x) (sr:SrcA h (its.map uv++v::rest) V w) (oi:∀ i∈its,OkI ps i) (od:Oddv ps v) :
  ∃ r,gW [.ref p,.int t,V] h = .ok .non (h++r):=by
 have hW:p+8<h.length:=bO S.h8
 rcases T with ⟨rfl,rfl⟩ | ⟨m,f,l,T⟩
 ·refine ⟨[],?_⟩
  rw [LC]
  have wl:=uN S
  have fo:=gz (t:=.nm 4) (b:=de) (sr.iv (en:=[some (.ref p),some (.int 0),some V,some (.fl []),none]) (j:=2) rfl)
  have lv:=sr.live (hh:=h) (fun _ _=>rfl)
  obtain ⟨u,us,eu,tk⟩:∃ u us,its.map uv++v::rest=u::us/\fO [.ref p,.fl [],u] h = .ok (.bl false) h:=by
   cases its with
   | nil=>exact ⟨v,rest,rfl,od.takes g S⟩
   | cons i its=>exact ⟨uv i,_,rfl,Ae S (oi i (KF ..))⟩
  rw [eu] at fo lv
  have eb:de [some (.ref p),some (.int 0),some V,some (.fl []),some u] h = .rt .non h:=by simp [de,tk]
  have go:cH w (u::us) (.nm 4) de (u::us) [some (.ref p),some (.int 0),some V,some (.fl []),none] h = .rt .non h:=by
   unfold cH
   rw [KS lv]
   have st:dB (.nm 4) u [some (.ref p),some (.int 0),some V,some (.fl []),none]=some [some (.ref p),some (.int 0),some V,some (.fl []),some u]:=rfl
   rw [st]
   dsimp only
   rw [eb]
  have fo' := fo.trans go
  unfold gW
  generalize bp (bc (ae 2)) (.nm 4) de=FF at *
  simp [wl,fo']
 ·have t1:=T.n1
  have t0:aC (.int t) (.int 0) h = .ok (.bl false) h:=by
   have:=dc t 0 h
   rw [KD (by lia)] at this
   exact this
  have ck:ij [.ref p,.int t] h = .ok .non h:=kB S (by have:=T.le;lia)
  have wl:iE [.ref p,.int t] h = .ok (.ref h.length) (h++[.lst [.int t]]):=by
   simp [iE,S.ob,ck,t0,-aC]
  have kk:∀ i,i<h.length->(h++[AO.lst [.int t]])[i]? = h[i]? := fun i hi=>KA hi
  have eW:(h++[AO.lst [.int t]])[h.length]? = some (.lst (([.n t]:List Un).reverse.map uv)):=by simp
  obtain ⟨Z,r⟩:=Ar (t:=t) (rest:=rest) g sr hW od its [.n t] (h++[.lst [.int t]]) none oi (uB T) (qr g T) (S.app _) kk eW
  have fo:=gz (t:=.nm 4) (b:=de) ((sr.mono kk).iv (en:=[some (.ref p),some (.int t),some V,some (.ref h.length),none]) (j:=2) rfl)
  have fo' := fo.trans r
  have es:(h++[AO.lst [.int t]]).set h.length (.lst Z)=h++[.lst Z]:=by simp
  rw [es] at fo'
  refine ⟨[.lst Z],?_⟩
  unfold gW
  generalize bp (bc (ae 2)) (.nm 4) de=FF at *
  generalize h++[.lst Z]=HF at *
  simp [wl,fo']
theorem Ik {h:AH} {p a b:Nat} {ps:List Pc} {its:List Un} {v V told:AV} {rest:List AV} {w:Option Nat} {x y:Str} (S:ShelfAt h p ps) (g:Good ps) (A:TxZ ps a x) (B:TxZ ps b y) (sr:SrcA h (its.map uv++v::rest) V w) (oi:∀ i∈its,OkI ps i) (od:Oddv ps v) (i1:∀ hh,au told (.int 1) hh = .ok V hh) :
  ∃ r,dY [.ref p,.int a,.int b,told] h = .ok (.bl false) (h++r):=by
 obtain ⟨r1,f1⟩:=As S g A sr oi od
 obtain ⟨r2,f2⟩:=As (S.app r1) g B (sr.mono fun i hi=>KA hi) oi od
 refine ⟨r1++r2,?_⟩
 rw [Lg] at f2
 have n1:=mM (h++(r1++r2))
 generalize h++(r1++r2)=h2 at *
 generalize h++r1=h1 at *
 simp [dY,i1,f1,f2,n1,-au,-bg]
end Sk
namespace Sk
open PySem PySem.Spec L2 Sm
theorem Il (c:Nat) (h:AH):(e7 (aK (fL bS bS (af (.str " ")) (ae 0) (af (.str "~")))) (aK (ah aC (ae 0) (af (.str "\n"))))) [some (.str ⟨#[c]⟩)] h = .ok (gh c) h:=by
 cases pc:gh c with
 | true=>exact Ak pc h
 | false =>
  have eq:aC (.str ⟨#[c]⟩) (.str "\n") h = .ok (.bl (decide (c=10))) h:=by
   have:((⟨#[c]⟩:Str)=Str.ofString "\n") ↔ c=10:=by rw [pZ];simp
   simp [this]
  have l1:bS (.str " ") (.str ⟨#[c]⟩) h = .ok (.bl (decide (32<=c))) h:=by
   simp only [bS,sQ]
   by_cases q:32<=c
   ·have : ¬ ([c]<[32]):=by rw [j7];lia
    simp [this,q]
   ·have:([c]<[32]):=by rw [j7];lia
    simp [this,q]
  have l2:bS (.str ⟨#[c]⟩) (.str "~") h = .ok (.bl (decide (c<=126))) h:=by
   simp only [bS,sR]
   by_cases q:c<=126
   ·have : ¬ ([126]<[c]):=by rw [j7];lia
    simp [this,q]
   ·have:([126]<[c]):=by rw [j7];lia
    simp [this,q]
  have q : ¬ c=10:=fun z=>by rw [z] at pc;cases pc
  rw [KD q] at eq
  by_cases r:32<=c
  ·have r2 : ¬ c<=126:=fun z=>by
    have:gh c=true:=by simp [gh,r,z]
    rw [this] at pc
    cases pc
   rw [KQ r] at l1
   rw [KD r2] at l2
   simp [l1,l2,eq,-bS,-aC]
  ·rw [KD r] at l1
   simp [l1,eq,-bS,-aC]
theorem Im {hh:AH} {R:Nat} {z:Str} {o1 o4:Option AV} (l:z.length<=9) (a:dP z=false) :
  eh [some (.ref 0),o1,some (.ref R),some (.str z),o4] hh = .rt .non hh:=by
 obtain ⟨ZS,eZ⟩:∃ ZS,ZS=(z.cps.toList.filter gh).map cS:=⟨_,rfl⟩
 have cp:dC [] (bc (ae 3)) (e7 (aK (fL bS bS (af (.str " ")) (ae 0) (af (.str "~")))) (aK (ah aC (ae 0) (af (.str "\n"))))) (ae 0) [some (.ref 0),o1,some (.ref R),some (.str z),o4] hh = .ok (.fl ZS) hh:=by
  have:=nX (js:=[]) (en:=[some (.ref 0),o1,some (.ref R),some (.str z),o4]) (w:=none) (all:=z.cps.toList.map cS) (c:=e7 (aK (fL bS bS (af (.str " ")) (ae 0) (af (.str "~")))) (aK (ah aC (ae 0) (af (.str "\n"))))) (e:=ae 0) (g:=cS) (f:=cS) (p:=gh) (h:=hh) rfl z.cps.toList []
   (fun c hc=>Il c hh) (fun c hc _=>rfl) (by
    rw [<- bB]
    exact KN (m:=9) (by simp;omega) (by decide))
  rw [L6,<- eZ] at this
  have it:bc (ae 3) [some (.ref 0),o1,some (.ref R),some (.str z),o4] hh = .ok (z.cps.toList.map cS,none) hh:=rfl
  simp only [dC,it,this]
 have ln:ax [.str z] hh = .ok (.int z.length) hh:=rfl
 have ln2:ax [.fl ZS] hh = .ok (.int ZS.length) hh:=rfl
 have c1:bz (.int 0) (.int z.length) hh = .ok (.bl (decide (0<z.length))) hh:=by simp
 have c2:bz (.int z.length) (.int 9) hh = .ok (.bl (decide (z.length<9))) hh:=by
  simp only [bz]
  congr 2
  exact decide_eq_decide.mpr (by omega)
 have c3:bz (.int ZS.length) (.int z.length) hh = .ok (.bl (decide (ZS.length<z.length))) hh:=by simp
 unfold eh
 generalize dC [] (bc (ae 3)) (e7 (aK (fL bS bS (af (.str " ")) (ae 0) (af (.str "~")))) (aK (ah aC (ae 0) (af (.str "\n"))))) (ae 0)=CM at *
 by_cases q1:0<z.length
 ·rw [KQ q1] at c1
  by_cases q2:z.length<9
  ·rw [KQ q2] at c2
   have q3:ZS.length<z.length:=by
    rw [eZ,K4,bB]
    refine Nat.lt_of_le_of_ne (List.length_filter_le ..) fun e=>?_
    have al:=List.length_filter_eq_length_iff.mp e
    have pl:bJ z=true:=Lo.mpr al
    have:dP z=true:=by
     simp only [dP,pl,Bool.true_and,Lz,ME]
     omega
    rw [this] at a
    cases a
   rw [KQ q3] at c3
   clear eZ
   generalize (z.length:Int)=ZL at *
   generalize (ZS.length:Int)=ZL2 at *
   simp [cp,ln,ln2,c1,c2,c3,-ax,-bz]
  ·rw [KD q2] at c2
   clear eZ
   generalize (z.length:Int)=ZL at *
   generalize (ZS.length:Int)=ZL2 at *
   simp [cp,ln,ln2,c1,c2,c3,-ax,-bz]
 ·rw [KD q1] at c1
  clear eZ
  generalize (z.length:Int)=ZL at *
  generalize (ZS.length:Int)=ZL2 at *
  simp [cp,ln,ln2,c1,c2,c3,-ax,-bz]
theorem Oddv.flat {ps:List Pc} {v:AV} {hh:AH} {R:Nat} {o1 o4:Option AV} (o:Oddv ps v) (g:Good ps) (S:ShelfAt hh 0 ps):eh [some (.ref 0),o1,some (.ref R),some v,o4] hh = .rt .non hh:=by
 have ob:=S.ob
 have fm:=lN S
 cases o.it with
 | int i =>
  have n:=o.no_int g
  have l1:bz (.int 0) (.int i) hh = .ok (.bl (decide (0<i))) hh:=rfl
  have l2:bS (.int i) (.int ps.length) hh = .ok (.bl (decide (i<=ps.length))) hh:=rfl
  have wh:fE [.int i] hh = .ok (.bl true) hh:=by simp [fE]
  by_cases q:0<i
  ·rw [KQ q] at l1
   rw [KD (fun z=>n ⟨by lia,z⟩)] at l2
   generalize (ps.length:Int)=PL at *
   simp [eh,wh,l1,ob,fm,l2,-bz,-bS]
  ·rw [KD q] at l1
   generalize (ps.length:Int)=PL at *
   simp [eh,wh,l1,ob,fm,l2,-bz,-bS]
 | str z l=>exact Im l o.no_str
 | non=>simp [eh,fE]
 | bl b=>simp [eh,fE]
 | fl=>simp [eh,fE]
 | tup=>simp [eh,fE]
abbrev eL (V:AV) (R:Nat) (o3 o4:Option AV):En:=[some (.ref 0),some V,some (.ref R),o3,o4]
theorem vb {h:AH} {ps:List Pc} {V:AV} {w:Option Nat} {all:List AV} (S:ShelfAt h 0 ps) (sr:SrcA h all V w) (xs:List AV):∀ (its:List Un) (hh:AH) (o3 o4:Option AV) (R:Nat) (pre:List Un),(∀ i∈its,OkI ps i)->(∀ i∈pre,OkI ps i)->(∃ r,hh=h++r)->h.length<=R->hh[R]? = some (.lst ((bR pre).map uv))->pre.length+its.length<=10000 ->
  ∃ (hh':AH) (o3' o4':Option AV) (R':Nat),cH w all (.nm 3) eh (its.map uv++xs) (eL V R o3 o4) hh=cH w all (.nm 3) eh xs (eL V R' o3' o4') hh'/\(∃ r,hh'=h++r)/\h.length<=R'/\hh'[R']? = some (.lst ((bR (pre++its)).map uv))
 | [],hh,o3,o4,R,pre,oi,op,ex,hR,eR,hl=>⟨hh,o3,o4,R,rfl,ex,hR,by rw [LC];exact eR⟩
 | i::its,hh,o3,o4,R,pre,oi,op,⟨r,er⟩,hR,eR,hl=>by
  have kp:∀ i,i<h.length->hh[i]? = h[i]? := fun i hi=>by rw [er];exact KA hi
  have oki:=oi i (KF ..)
  have op':∀ j∈pre++[i],OkI ps j:=fun j hj=>by
   rcases Lp.mp hj with hj | hj
   ·exact op j hj
   ·rw [LH] at hj;subst hj;exact oki
  have lf:((bR pre).map uv).length<=100000:=by
   have:=uT op
   rw [K4]
   lia
  have l1:pre.length+(its.length+1)<=10000:=hl
  have go:∃ (h1:AH) (o4':Option AV) (R':Nat),eh (eL V R (some (uv i)) o4) hh = .nx (eL V R' (some (uv i)) o4') h1/\(∃ r,h1=h++r)/\h.length<=R'/\h1[R']? = some (.lst ((bR (pre++[i])).map uv)):=by
   cases oki with
   | @n k m f l x T =>
    have S':ShelfAt hh 0 ps:=by rw [er];exact S.app r
    have ev:=uY (o1:=some V) (o4:=o4) S' eR T.n1 T.le lf
    obtain ⟨r',er'⟩:=qw (h:=h) (h' := hh.set R (.lst ((bR pre).map uv++[.int k]))) (fun i hi=>by rw [KM (by lia),kp i hi]) (by rw [LI,er,KH];lia)
    refine ⟨_,o4,R,ev,⟨r',er'⟩,hR,?_⟩
    rw [KG (bO eR),qz,Mw]
    rfl
   | @s z a =>
    have ev:=uZ (o1:=some V) (o4:=o4) eR a lf
    refine ⟨_,_,hh.length,ev,⟨r++_,by rw [er,Lg]⟩,by rw [er,KH];lia,?_⟩
    rw [qz,Mw,bR,bR,LC,HY]
    simp
  obtain ⟨h1,o4',R',ev,ex1,hR1,eR1⟩:=go
  obtain ⟨hh',o3',o4'',R'',lp,q1,q2,q3⟩:=vb S sr xs its h1 (some (uv i)) o4' R' (pre++[i]) (fun j hj=>oi j (KJ _ hj)) op' ex1 hR1 eR1 (by rw [KH,NF];lia)
  refine ⟨hh',o3',o4'',R'',?_,q1,q2,by rw [Lg] at q3;exact q3⟩
  rw [Ls,LQ]
  conv=>lhs;unfold cH
  rw [KS (sr.live kp)]
  have st1:dB (.nm 3) (uv i) (eL V R o3 o4)=some (eL V R (some (uv i)) o4):=rfl
  rw [st1]
  dsimp only
  rw [ev]
  exact lp
theorem Au {h:AH} {ps:List Pc} {V:AV} {w:Option Nat} {its:List Un} (S:ShelfAt h 0 ps) (sr:SrcA h (its.map uv) V w) (oi:∀ i∈its,OkI ps i) (hl:its.length<=10000) :
  ∃ (r:AH) (R:Nat),j4 [.ref 0,V] h = .ok (.ref R) (h++r)/\(h++r)[R]? = some (.lst ((bR its).map uv)):=by
 have kk:∀ i,i<h.length->(h++[AO.lst []])[i]? = h[i]? := fun i hi=>KA hi
 obtain ⟨hh',o3',o4',R',lp,⟨r,rfl⟩,q2,q3⟩:=vb S sr [] its (h++[.lst []]) none none h.length [] oi (fun i hi=>(by cases hi)) ⟨_,rfl⟩ (KC _) (by simp [bR]) (by simpa using hl)
 rw [LC,L6] at *
 have go:cH w (its.map uv) (.nm 3) eh [] (eL V R' o3' o4') (h++r) = .nx (eL V R' o3' o4') (h++r):=by
  unfold cH
  rw [KS (sr.live fun i hi=>KA hi)]
 have l1:=((gz (t:=.nm 3) (b:=eh) ((sr.mono kk).iv (en:=eL V h.length none none) (j:=1) rfl)).trans lp).trans go
 refine ⟨r,R',?_,q3⟩
 clear lp go q3 S
 unfold j4
 simp only [eL] at l1
 generalize bp (bc (ae 1)) (.nm 3) eh=L1 at *
 generalize h++r=H2 at *
 simp [l1]
theorem Io {h:AH} {ps:List Pc} {v V:AV} {rest:List AV} {w:Option Nat} {its:List Un} (S:ShelfAt h 0 ps) (g:Good ps) (sr:SrcA h (its.map uv++v::rest) V w) (oi:∀ i∈its,OkI ps i) (od:Oddv ps v) (hl:its.length<=10000) :
  ∃ r,j4 [.ref 0,V] h = .ok .non (h++r):=by
 have kk:∀ i,i<h.length->(h++[AO.lst []])[i]? = h[i]? := fun i hi=>KA hi
 obtain ⟨hh',o3',o4',R',lp,⟨r,rfl⟩,q2,q3⟩:=vb S sr (v::rest) its (h++[.lst []]) none none h.length [] oi (fun i hi=>(by cases hi)) ⟨_,rfl⟩ (KC _) (by simp [bR]) (by simpa using hl)
 have go:cH w (its.map uv++v::rest) (.nm 3) eh (v::rest) (eL V R' o3' o4') (h++r) = .rt .non (h++r):=by
  unfold cH
  rw [KS (sr.live fun i hi=>KA hi)]
  have st1:dB (.nm 3) v (eL V R' o3' o4')=some (eL V R' (some v) o4'):=rfl
  rw [st1]
  dsimp only
  rw [od.flat g (S.app r)]
 have l1:=((gz (t:=.nm 3) (b:=eh) ((sr.mono kk).iv (en:=eL V h.length none none) (j:=1) rfl)).trans lp).trans go
 refine ⟨r,?_⟩
 clear lp go q3 S
 unfold j4
 simp only [eL] at l1
 generalize bp (bc (ae 1)) (.nm 3) eh=L1 at *
 generalize h++r=H2 at *
 simp [l1]
theorem Av {h:AH} {ps:List Pc} {v V:AV} {rest:List AV} {w:Option Nat} {its:List Un} {t:Nat} (S:ShelfAt h 0 ps) (g:Good ps) (sr:SrcA h (its.map uv++v::rest) V w) (oi:∀ i∈its,OkI ps i) (od:Oddv ps v) (hl:its.length<=10000) :
  ∃ r,fF [.ref 0,.int t,V] h = .ok (.tup [.bl false,.bl false]) (h++r):=by
 obtain ⟨r,f⟩:=Io S g sr oi od hl
 refine ⟨r,?_⟩
 generalize h++r=H at *
 have isn:=mM H
 have eq:aC .non (.fl []) H = .ok (.bl false) H:=by simp [bW,bT,PyData.eqv]
 simp [fF,f,isn,eq,-aC,-bg]
end Sk
namespace Sk
open PySem PySem.Spec L2 Sm
theorem Aw (x y:Str) (h:AH):aC (.str x) (.str y) h = .ok (.bl (decide (x=y))) h/\aZ (.str x) (.str y) h = .ok (.bl (!decide (x=y))) h:=by
 by_cases q:x=y
 ·subst q;simp [bW,PyData.eqv]
 ·simp [bW,PyData.eqv,q]
def dS:Option (List Un)->Bool
 | some []=>true
 | _=>false
theorem Ax {o:Option (List Un)}:dS o=true ↔ o=some []:=by
 cases o with
 | none=>exact ⟨fun q=>(by cases q),fun q=>(by cases q)⟩
 | some s =>
  cases s with
  | nil=>exact ⟨fun _=>rfl,fun _=>rfl⟩
  | cons a b=>exact ⟨fun q=>(by cases q),fun q=>(by cases q)⟩
theorem Ip {s:List Un} (ne:s≠[]):dS (some s)=false:=by
 cases s with
 | nil=>exact absurd rfl ne
 | cons a b=>rfl
theorem Iq {ps:List Pc} {i:Un} {r:List Un} (o:OkI ps i):bR (i::r)≠[]:=by
 cases o with
 | n T=>intro q;cases q
 | @s z a =>
  intro q
  have z1:=(fS a).1
  have:=congrArg List.length q
  rw [bR,KH,g8,K4,<- bB] at this
  have z0:([]:List Un).length=0:=rfl
  lia
theorem qA {h:AH} {ps:List Pc} {V:AV} {w:Option Nat} {t:Nat} {its:List Un} {x:Str} (S:ShelfAt h 0 ps) (g:Good ps) (sr:SrcA h (its.map uv) V w) (oi:∀ i∈its,OkI ps i) (hl:its.length<=10000) (T:TxZ ps t x) :
  ∃ r:AH,fF [.ref 0,.int t,V] h = .ok (.tup [.bl (bf ps its (zs t)).isSome,.bl (dS (bf ps its (zs t)))]) (h++r):=by
 obtain ⟨r,R,f1,eR⟩:=Au S sr oi hl
 refine ⟨r,?_⟩
 have S1:=S.app r
 generalize h++r=H at *
 have isn:bg (.ref R) .non H = .ok (.bl false) H:=by simp
 rcases T with ⟨rfl,rfl⟩ | ⟨m,f,l,T⟩
 ·rw [ox]
  have z:=lX 0 0 H
  rw [KQ rfl] at z
  have q:=u9 eR
  cases its with
  | nil =>
   have q':aC (.ref R) (.fl []) H = .ok (.bl true) H:=q
   show _=Out.ok (AV.tup [.bl true,.bl true]) H
   simp [fF,f1,isn,z,q',-aC,-bg]
  | cons i its =>
   have o:=oi i (KF ..)
   rw [KD (Iq o)] at q
   have e:bf ps (i::its) []=none:=by
    show (dH ps i []).bind _=none
    rw [uM o]
    rfl
   rw [e]
   show _=Out.ok (AV.tup [.bl false,.bl false]) H
   simp [fF,f1,isn,z,q,-aC,-bg]
 ·have z:=lX t 0 H
  rw [KD (by have:=T.n1;lia)] at z
  have ou:∀ u∈([.n t]:List Un),OkU ps u:=uB T
  rw [oy T,uR g its ou oi]
  have M:=u7 S1 g eR 90 T (by have:=fI g T;lia) 0 (Lc _)
  rw [MC] at M
  have ok:=uS g 90 (bR its) (st:=[]) T (by have:=fI g T;lia) (fun u hu=>by cases hu) (fun u hu=>(oC oi u hu).1)
  have oU:=fun u hu=>(oC oi u hu).2
  have ln:ax [.ref R] H = .ok (.int (bR its).length) H:=by simp only [ax,eR,K4]
  cases a:i9 ps 90 t (bR its) with
  | bad =>
   rw [a] at ok M
   have ok':bf ps (bR its) [.n t]=none:=ok
   rw [ok']
   have M':dG 90 [.ref 0,.int t,.ref R,.int 0] H = .ok .non H:=M
   have nn:je .non .non H = .ok (.bl false) H:=by simp
   have q:aC .non (.int (bR its).length) H = .ok (.bl false) H:=by simp [bW,PyData.eqv]
   show _=Out.ok (AV.tup [.bl false,.bl false]) H
   generalize ((bR its).length:Int)=U0 at *
   unfold fF
   generalize dG 90=G at *
   simp [f1,isn,z,M',nn,ln,q,-aC,-bg,-je,-dQ,-ax]
  | out =>
   rw [a] at ok M
   obtain ⟨s,e,ne⟩:=ok
   rw [e,Ip ne]
   have M':dG 90 [.ref 0,.int t,.ref R,.int 0] H = .ok (.int (((bR its).length+1:Nat):Int)) H:=M
   have nn:je (.int (((bR its).length+1:Nat):Int)) .non H = .ok (.bl true) H:=by simp
   have ge:dQ (.int (((bR its).length+1:Nat):Int)) (.int (bR its).length) H = .ok (.bl true) H:=by simp;lia
   have q:=lX (((bR its).length+1:Nat):Int) (bR its).length H
   rw [KD (by lia)] at q
   show _=Out.ok (AV.tup [.bl true,.bl false]) H
   generalize (((bR its).length+1:Nat):Int)=U1 at *
   generalize ((bR its).length:Int)=U0 at *
   unfold fF
   generalize dG 90=G at *
   simp [f1,isn,z,M',nn,ge,ln,q,-aC,-bg,-je,-dQ,-ax]
  | «at» r2 =>
   rw [a] at ok M
   have o1:bf ps (bR its) [.n t]=bf ps r2 []:=ok.1
   rw [o1]
   obtain ⟨k,k1,k2,k3⟩:=M
   have nn:je (.int k) .non H = .ok (.bl true) H:=by simp
   have kl:k<=(bR its).length:=k1
   have ge:dQ (.int k) (.int (bR its).length) H = .ok (.bl (decide ((bR its).length<=k))) H:=by simp
   have q:=lX k (bR its).length H
   have k3':dG 90 [.ref 0,.int t,.ref R,.int 0] H = .ok (.int k) H:=k3
   cases r2 with
   | nil =>
    have hk:k=(bR its).length:=by
     have:=congrArg List.length k2
     rw [Ln] at this
     have z0:([]:List Un).length=0:=rfl
     lia
    rw [KQ (by lia)] at ge q
    show _=Out.ok (AV.tup [.bl true,.bl true]) H
    generalize ((bR its).length:Int)=U0 at *
    generalize (k:Int)=KK at *
    unfold fF
    generalize dG 90=G at *
    simp [f1,isn,z,k3',nn,ge,ln,q,-aC,-bg,-je,-dQ,-ax]
   | cons u r2 =>
    have e:bf ps (u::r2) []=none:=by
     show (dH ps u []).bind _=none
     rw [uM (oU u (ok.2 u (KF ..)))]
     rfl
    rw [e]
    have hk:k<(bR its).length:=by
     have:=congrArg List.length k2
     rw [Ln,KO] at this
     lia
    rw [KD (by lia)] at ge q
    show _=Out.ok (AV.tup [.bl false,.bl false]) H
    generalize ((bR its).length:Int)=U0 at *
    generalize (k:Int)=KK at *
    unfold fF
    generalize dG 90=G at *
    simp [f1,isn,z,k3',nn,ge,ln,q,-aC,-bg,-je,-dQ,-ax]
theorem qB (ps:List Pc):∀ its:List Un,br ps (bR its)=br ps its
 | []=>rfl
 | .n k::r=>by rw [bR,br,br,qB ps r]
 | .s w::r=>by rw [bR,ue,uQ,br,qB ps r];rfl
abbrev jw:SE:=dC [0,3] (bc (ae 1)) cq (aG fF (aj (ae 1) (aj (ae 0) (aj (ah au (ae 2) (af (.int 1))) ag))))
theorem vc {h h1 h2:AH} {a b:Nat} {P told V u1 u2:AV} (i1:∀ hh,au told (.int 1) hh = .ok V hh) (f1:fF [.ref 0,.int a,V] h = .ok u1 h1) (f2:fF [.ref 0,.int b,V] h1 = .ok u2 h2) :
  jw [some (.ref 0),some (.fl [.int a,.int b]),some P,some told,none,none,none,none] h = .ok (.fl [u1,u2]) h2:=by
 have sz0:(0:Nat)<sizeLine:=by decide
 have sz1:(1:Nat)<sizeLine:=by decide
 simp [jw,dC,eP,i1,f1,f2,sz0,sz1,-au]
theorem gA {u1 u2:AV} (h:AH):au (.fl [u1,u2]) (.int 0) h = .ok u1 h/\au (.fl [u1,u2]) (.int 1) h = .ok u2 h/\au (.tup [u1,u2]) (.int 0) h = .ok u1 h/\au (.tup [u1,u2]) (.int 1) h = .ok u2 h:=⟨rfl,rfl,rfl,rfl⟩
theorem Ir {h:AH} {a b:Nat} {ps:List Pc} {its:List Un} {v V told P:AV} {rest:List AV} {w:Option Nat} {k:Str} (S:ShelfAt h 0 ps) (g:Good ps) (sr:SrcA h (its.map uv++v::rest) V w) (oi:∀ i∈its,OkI ps i) (od:Oddv ps v) (hl:its.length<=10000) (i0:∀ hh,au told (.int 0) hh = .ok (.str k) hh) (i1:∀ hh,au told (.int 1) hh = .ok V hh) :
  ∃ r,iX [.ref 0,.fl [.int a,.int b],P,told] h = .ok (.bl false) (h++r):=by
 obtain ⟨r1,f1⟩:=Av (t:=a) S g sr oi od hl
 obtain ⟨r2,f2⟩:=Av (t:=b) (S.app r1) g (sr.mono fun i hi=>KA hi) oi od hl
 refine ⟨r1++r2,?_⟩
 rw [Lg] at f2
 have cp:=vc (P:=P) i1 f1 f2
 generalize h++(r1++r2)=H at *
 obtain ⟨x0,x1,_,_⟩:=gA (u1:=.tup [.bl false,.bl false]) (u2:=.tup [.bl false,.bl false]) H
 obtain ⟨_,_,y0,y1⟩:=gA (u1:=.bl false) (u2:=.bl false) H
 have e:=(Aw k "alike" H).1
 unfold iX
 unfold jw at cp
 generalize dC [0,3] (bc (ae 1)) cq (aG fF (aj (ae 1) (aj (ae 0) (aj (ah au (ae 2) (af (.int 1))) ag))))=CP at *
 cases q:decide (k = "alike") with
 | true =>
  rw [q] at e
  simp [cp,i0,e,x0,x1,y0,y1,-au,-aC]
 | false =>
  rw [q] at e
  simp [cp,i0,e,x0,x1,y0,y1,-au,-aC]
end Sk
namespace Sk
open PySem PySem.Spec L2 Sm
theorem Iu {h:AH} {a b:Nat} {ps:List Pc} {its:List Un} {V P:AV} {w:Option Nat} {x y:Str} (S:ShelfAt h 0 ps) (g:Good ps) (A:TxZ ps a x) (B:TxZ ps b y) (sr:SrcA h (its.map uv) V w) (oi:∀ i∈its,OkI ps i) (hl:its.length<=10000) :
  ∃ (r:AH) (q:Bool),iX [.ref 0,.fl [.int a,.int b],P,.tup [.str "alike",V]] h = .ok (.bl q) (h++r)/\(q=true ↔ (bf ps its (zs a)=some []/\bf ps its (zs b)=some [])):=by
 obtain ⟨r1,f1⟩:=qA S g sr oi hl A
 obtain ⟨r2,f2⟩:=qA (S.app r1) g (sr.mono fun i hi=>KA hi) oi hl B
 refine ⟨r1++r2,dS (bf ps its (zs a)) && dS (bf ps its (zs b)),?_,by rw [Lz,Ax,Ax]⟩
 rw [Lg] at f2
 have i0:∀ hh,au (.tup [.str "alike",V]) (.int 0) hh = .ok (.str "alike") hh:=fun _=>rfl
 have i1:∀ hh,au (.tup [.str "alike",V]) (.int 1) hh = .ok V hh:=fun _=>rfl
 have cp:=vc (P:=P) i1 f1 f2
 clear f1 f2 S sr
 generalize h++(r1++r2)=H at *
 generalize (bf ps its (zs a)).isSome=s1 at *
 generalize (bf ps its (zs b)).isSome=s2 at *
 generalize dS (bf ps its (zs a))=t1 at *
 generalize dS (bf ps its (zs b))=t2 at *
 obtain ⟨x0,x1,_,_⟩:=gA (u1:=.tup [.bl s1,.bl t1]) (u2:=.tup [.bl s2,.bl t2]) H
 obtain ⟨_,_,_,y0⟩:=gA (u1:=.bl s1) (u2:=.bl t1) H
 obtain ⟨_,_,_,y1⟩:=gA (u1:=.bl s2) (u2:=.bl t2) H
 have e:aC (.str "alike") (.str "alike") H = .ok (.bl true) H:=by simp
 generalize AV.tup [.str "alike",V]=told at *
 unfold iX
 unfold jw at cp
 generalize dC [0,3] (bc (ae 1)) cq (aG fF (aj (ae 1) (aj (ae 0) (aj (ah au (ae 2) (af (.int 1))) ag))))=CP at *
 cases t1 with
 | true=>simp [cp,i0,e,x0,x1,y0,y1,-au,-aC]
 | false=>simp [cp,i0,e,x0,x1,y0,y1,-au,-aC]
theorem Ay (y:Str) (j:Nat):(cz y (some (j:Int)) (some ((j+1:Nat):Int))).cps.toList=(y.cps.toList.drop j).take 1:=by
 simp only [cz,HT.sIx_nat]
 by_cases q:j<y.cps.toList.length
 ·rw [L7 (show j+1<=y.cps.toList.length from q),L7 (Mf q)]
  simp
 ·rw [ML (show y.cps.toList.length<=j+1 by lia),ML (by lia)]
  rw [Nat.sub_self,List.take_zero]
  have:y.cps.toList.drop j=[]:=LN (by lia)
  rw [this]
  rfl
abbrev eD (a b:Nat) (x y:Str) (told sp:AV) (n:Nat) (o6:Option AV):En:=[some (.ref 0),some (.fl [.int a,.int b]),some (.tup [.str x,.str y]),some told,some sp,some (.int n),o6,none]
theorem Iv {H:AH} {a b R:Nat} {ps:List Pc} {U:List Un} {x y:Str} {told sp:AV} (S:ShelfAt H 0 ps) (g:Good ps) (eR:H[R]? = some (.lst (U.map uv))) (ok:∀ u∈U,oA u/\OkI ps u) (hl:(br ps U).length<=1000) :
  ∃ o6,cH (some R) (U.map uv) (.nm 6) iW (U.map uv) (eD a b x y told sp 0 none) H = .nx (eD a b x y told sp (br ps U).length o6) H:=by
 obtain ⟨e',h',r1,r2⟩:=j5 (w:=some R) (all:=U.map uv) (t:=.nm 6) (b:=iW) (xs:=U.map uv) (en:=eD a b x y told sp 0 none) (h:=H)
  (fun j en hh=>hh=H/\(j<=U.length->∃ o6,en=eD a b x y told sp (br ps (U.take j)).length o6))
  ⟨rfl,fun _=>⟨none,rfl⟩⟩ (fun _ _ _ p=>by rw [p.1];simp [eR]) (by
   rintro j u en hh hu ⟨rfl,p2⟩
   rw [Lw] at hu
   obtain ⟨i,ei,rfl⟩:=Lf.mp hu
   have hj:=(Kz.mp ei).1
   obtain ⟨o6,rfl⟩:=p2 (by lia)
   have tk:U.take (j+1)=U.take j++[i]:=by rw [NM,ei];rfl
   have mi:=Ld ei
   obtain ⟨u1,oki⟩:=ok i mi
   have rl:=Ao (ps:=ps) mi
   have rs:br ps [i]=iJ ps i:=by rw [br,br,LC]
   have ad:∀ n:Nat,aw (.int n) (.int 1) hh = .ok (.int ((n+1:Nat):Int)) hh:=fun _=>rfl
   have go:iW (eD a b x y told sp (br ps (U.take j)).length (some (uv i))) hh = .nx (eD a b x y told sp (br ps (U.take (j+1))).length (some (uv i))) hh:=by
    rw [tk,ue,rs,KH]
    generalize (br ps (U.take j)).length=n
    have a1:=ad n
    cases oki with
    | @n k m f l z T =>
     rw [g7 T,<- bB] at rl
     have rr:=uX S g 90 T (by have:=fI g T;lia) (by lia)
     have sb:cY (.int ((n+1:Nat):Int)) (.int 1) hh = .ok (.int n) hh:=by
      simp only [cY]
      congr 2
      lia
     have ln:ax [.str z] hh = .ok (.int z.length) hh:=rfl
     have a2:aw (.int n) (.int z.length) hh = .ok (.int ((n+(iJ ps (.n k)).length:Nat):Int)) hh:=by rw [g7 T,<- bB];rfl
     show iW [some (.ref 0),some (.fl [.int a,.int b]),some (.tup [.str x,.str y]),some told,some sp,some (.int n),some (.int k),none] hh = .nx [some (.ref 0),some (.fl [.int a,.int b]),some (.tup [.str x,.str y]),some told,some sp,some (.int ((n+(iJ ps (.n k)).length:Nat):Int)),some (.int k),none] hh
     generalize ((n+(iJ ps (.n k)).length:Nat):Int)=N2 at *
     generalize ((n+1:Nat):Int)=N1 at *
     generalize (z.length:Int)=ZL at *
     unfold iW
     generalize jr 90=G at *
     simp [a1,rr,sb,ln,a2,-aw,-cY,-ax]
    | @s z sh =>
     have z1:z.length=1:=u1
     have e1:(iJ ps (.s z)).length=1:=by
      show z.cps.toList.length=1
      rw [<- bB]
      exact z1
     rw [e1]
     show iW [some (.ref 0),some (.fl [.int a,.int b]),some (.tup [.str x,.str y]),some told,some sp,some (.int n),some (.str z),none] hh = .nx [some (.ref 0),some (.fl [.int a,.int b]),some (.tup [.str x,.str y]),some told,some sp,some (.int ((n+1:Nat):Int)),some (.str z),none] hh
     generalize ((n+1:Nat):Int)=N1 at *
     unfold iW
     generalize jr 90=G at *
     simp [a1,-aw,-cY,-ax]
   show thn (iW (eD a b x y told sp (br ps (U.take j)).length (some (uv i))) hh) _
   rw [go]
   exact ⟨rfl,fun _=>⟨_,rfl⟩⟩)
 rw [K4] at r2
 obtain ⟨rfl,r2⟩:=r2
 obtain ⟨o6,rfl⟩:=r2 (KC _)
 rw [Nh] at r1
 exact ⟨o6,r1⟩
theorem lY {ps:List Pc} {t:Nat} {x:Str} (T:TxZ ps t x):(∀ u∈zs t,OkU ps u)/\br ps (zs t)=x.cps.toList:=⟨fun u hu=>((kG T).1 u hu).u,(kG T).2⟩
theorem Iw {h:AH} {a b:Nat} {ps:List Pc} {its:List Un} {V:AV} {w:Option Nat} {x y c d:Str} (S:ShelfAt h 0 ps) (g:Good ps) (A:TxZ ps a x) (B:TxZ ps b y) (lx:x.length<=100) (sr:SrcA h (its.map uv) V w) (oi:∀ i∈its,OkI ps i) (hl:its.length<=10000) :
  ∃ (r:AH) (q:Bool),iX [.ref 0,.fl [.int a,.int b],.tup [.str x,.str y],.tup [.str "apart",V,.str c,.str d]] h = .ok (.bl q) (h++r)/\(q=true ↔ oz ps its a b c d):=by
 obtain ⟨r1,f1⟩:=qA S g sr oi hl A
 have sr1:=sr.mono (hh:=h++r1) fun i hi=>KA hi
 obtain ⟨r2,f2⟩:=qA (S.app r1) g sr1 oi hl B
 have i0:∀ hh,au (.tup [.str "apart",V,.str c,.str d]) (.int 0) hh = .ok (.str "apart") hh:=fun _=>rfl
 have i1:∀ hh,au (.tup [.str "apart",V,.str c,.str d]) (.int 1) hh = .ok V hh:=fun _=>rfl
 have cu:∀ hh,bI (.tup [.str "apart",V,.str c,.str d]) (some 2) none hh = .ok (.tup [.str c,.str d]) hh:=fun _=>rfl
 rw [Lg] at f2
 have cp:=vc (P:=.tup [.str x,.str y]) i1 f1 f2
 have S2:=S.app (r1++r2)
 have sr2:=sr.mono (hh:=h++(r1++r2)) fun i hi=>KA hi
 have e:aC (.str "apart") (.str "alike") (h++(r1++r2)) = .ok (.bl false) (h++(r1++r2)):=by
  have : ¬ (Str.ofString "apart" : Str)=Str.ofString "alike" := by decide +kernel
  simp [this]
 cases la:bf ps its (zs a) with
 | none =>
  refine ⟨r1++r2,false,?_,⟨fun q=>(by cases q),fun ⟨_,_,q,_⟩=>by rw [la] at q;cases q⟩⟩
  rw [la] at cp
  replace cp:jw [some (.ref 0),some (.fl [.int a,.int b]),some (.tup [.str x,.str y]),some (.tup [.str "apart",V,.str c,.str d]),none,none,none,none] h = .ok (.fl [.tup [.bl false,.bl false],.tup [.bl (bf ps its (zs b)).isSome,.bl (dS (bf ps its (zs b)))]]) (h++(r1++r2)):=cp
  clear f1 f2 S sr sr1 sr2 S2
  generalize h++(r1++r2)=H at *
  generalize AV.tup [.bl (bf ps its (zs b)).isSome,.bl (dS (bf ps its (zs b)))]=T2 at *
  obtain ⟨x0,x1,_,_⟩:=gA (u1:=.tup [.bl false,.bl false]) (u2:=T2) H
  obtain ⟨_,_,y0,_⟩:=gA (u1:=.bl false) (u2:=.bl false) H
  generalize AV.tup [.str "apart",V,.str c,.str d]=told at *
  unfold iX
  unfold jw at cp
  generalize dC [0,3] (bc (ae 1)) cq (aG fF (aj (ae 1) (aj (ae 0) (aj (ah au (ae 2) (af (.int 1))) ag))))=CP at *
  simp [cp,i0,e,x0,y0,-au,-aC]
 | some s1 =>
  cases lb:bf ps its (zs b) with
  | none =>
   refine ⟨r1++r2,false,?_,⟨fun q=>(by cases q),fun ⟨_,_,_,q,_⟩=>by rw [lb] at q;cases q⟩⟩
   rw [la,lb] at cp
   replace cp:jw [some (.ref 0),some (.fl [.int a,.int b]),some (.tup [.str x,.str y]),some (.tup [.str "apart",V,.str c,.str d]),none,none,none,none] h = .ok (.fl [.tup [.bl true,.bl (dS (some s1))],.tup [.bl false,.bl false]]) (h++(r1++r2)):=cp
   clear f1 f2 S sr sr1 sr2 S2
   generalize h++(r1++r2)=H at *
   obtain ⟨x0,x1,_,_⟩:=gA (u1:=.tup [.bl true,.bl (dS (some s1))]) (u2:=.tup [.bl false,.bl false]) H
   obtain ⟨_,_,y0,_⟩:=gA (u1:=.bl true) (u2:=.bl (dS (some s1))) H
   obtain ⟨_,_,y1,_⟩:=gA (u1:=.bl false) (u2:=.bl false) H
   generalize AV.tup [.str "apart",V,.str c,.str d]=told at *
   unfold iX
   unfold jw at cp
   generalize dC [0,3] (bc (ae 1)) cq (aG fF (aj (ae 1) (aj (ae 0) (aj (ah au (ae 2) (af (.int 1))) ag))))=CP at *
   simp [cp,i0,e,x0,x1,y0,y1,-au,-aC]
  | some s2 =>
   rw [la,lb] at cp
   obtain ⟨ua,ra⟩:=lY A
   obtain ⟨ub,rb⟩:=lY B
   obtain ⟨q1,ok1⟩:=lW g its ua la
   obtain ⟨q2,ok2⟩:=lW g its ub lb
   rw [ra] at q1
   rw [rb] at q2
   have ll:(br ps its).length<=100:=by
    have:=congrArg List.length q1
    rw [<- bB,KH] at this
    lia
   obtain ⟨r3,R,f3,eR⟩:=Au S2 sr2 oi hl
   obtain ⟨o6,lp⟩:=Iv (a:=a) (b:=b) (x:=x) (y:=y) (told:=.tup [.str "apart",V,.str c,.str d]) (sp:=.fl [.tup [.bl true,.bl (dS (some s1))],.tup [.bl true,.bl (dS (some s2))]]) (S2.app r3) g eR (fun u hu=>oC oi u hu) (by rw [qB];lia)
   rw [qB] at lp
   have n:=rfl (a:=(br ps its).length)
   obtain ⟨n,en⟩:∃ n,n=(br ps its).length:=⟨_,rfl⟩
   rw [<- en] at lp
   have c1:∀ hh,bI (.str x) (some (n:Int)) (some ((n+1:Nat):Int)) hh = .ok (.str (sg1 ps s1)) hh:=fun hh=>by
    have:bI (.str x) (some (n:Int)) (some ((n+1:Nat):Int)) hh = .ok (.str (cz x (some (n:Int)) (some ((n+1:Nat):Int)))) hh:=rfl
    rw [this]
    congr 2
    refine cU ?_
    rw [Ay,uF g ok1,q1,en,List.drop_left]
   have c2:∀ hh,bI (.str y) (some (n:Int)) (some ((n+1:Nat):Int)) hh = .ok (.str (sg1 ps s2)) hh:=fun hh=>by
    have:bI (.str y) (some (n:Int)) (some ((n+1:Nat):Int)) hh = .ok (.str (cz y (some (n:Int)) (some ((n+1:Nat):Int)))) hh:=rfl
    rw [this]
    congr 2
    refine cU ?_
    rw [Ay,uF g ok2,q2,en,List.drop_left]
   have key:(oz ps its a b c d ↔ (c=sg1 ps s1/\d=sg1 ps s2) /\ ¬ sg1 ps s1=sg1 ps s2):=by
    constructor
    ·rintro ⟨u1,u2,v1,v2,v3,v4,v5⟩
     rw [la] at v1;rw [lb] at v2
     cases v1;cases v2
     exact ⟨⟨v3,v4⟩,by rw [<- v3,<- v4];exact v5⟩
    ·rintro ⟨⟨v3,v4⟩,v5⟩
     exact ⟨s1,s2,la,lb,v3,v4,by rw [v3,v4];exact v5⟩
   have e3:h++(r1++r2)++r3=h++(r1++r2++r3):=by rw [Lg]
   rw [e3] at f3 eR lp
   have it:bc (aG j4 (aj (ae 0) (aj (ah au (ae 3) (af (.int 1))) ag))) (eD a b x y (.tup [.str "apart",V,.str c,.str d]) (.fl [.tup [.bl true,.bl (dS (some s1))],.tup [.bl true,.bl (dS (some s2))]]) 0 none) (h++(r1++r2)) = .ok ((bR its).map uv,some R) (h++(r1++r2++r3)):=by
    have i1' := i1 (h++(r1++r2))
    generalize AV.tup [.str "apart",V,.str c,.str d]=told at *
    generalize (bR its).map uv=FU at *
    generalize h++(r1++r2++r3)=H3 at *
    generalize h++(r1++r2)=H at *
    simp [eD,i1',f3,eR,-au]
   have fo:=(gz (t:=.nm 6) (b:=iW) it).trans lp
   obtain ⟨p0,p1,p2,p3⟩:=gA (u1:=.str x) (u2:=.str y) (h++(r1++r2++r3))
   obtain ⟨_,_,j0,j1⟩:=gA (u1:=.str (sg1 ps s1)) (u2:=.str (sg1 ps s2)) (h++(r1++r2++r3))
   have ne:=(Aw (sg1 ps s1) (sg1 ps s2) (h++(r1++r2++r3))).2
   have ep:=zJ c d (sg1 ps s1) (sg1 ps s2) (h++(r1++r2++r3))
   have ad:∀ hh,aw (.int n) (.int 1) hh = .ok (.int ((n+1:Nat):Int)) hh:=fun _=>rfl
   replace cp:jw [some (.ref 0),some (.fl [.int a,.int b]),some (.tup [.str x,.str y]),some (.tup [.str "apart",V,.str c,.str d]),none,none,none,none] h = .ok (.fl [.tup [.bl true,.bl (dS (some s1))],.tup [.bl true,.bl (dS (some s2))]]) (h++(r1++r2)):=cp
   obtain ⟨x0,x1,_,_⟩:=gA (u1:=.tup [.bl true,.bl (dS (some s1))]) (u2:=.tup [.bl true,.bl (dS (some s2))]) (h++(r1++r2))
   obtain ⟨_,_,y0,_⟩:=gA (u1:=.bl true) (u2:=.bl (dS (some s1))) (h++(r1++r2))
   obtain ⟨_,_,y1,_⟩:=gA (u1:=.bl true) (u2:=.bl (dS (some s2))) (h++(r1++r2))
   refine ⟨r1++r2++r3,!decide (sg1 ps s1=sg1 ps s2) && decide (c=sg1 ps s1/\d=sg1 ps s2),?_,?_⟩
   ·clear f1 f2 S sr sr1 sr2 S2 key q1 q2 en ll f3 it eR ok1 ok2 la lb ua ub ra rb lp
    simp only [eD] at fo
    rw [show ((0:Nat):Int)=0 from rfl] at fo
    have cu' := cu (h++(r1++r2++r3))
    generalize h++(r1++r2++r3)=H3 at *
    generalize h++(r1++r2)=H at *
    generalize AV.fl [.tup [.bl true,.bl (dS (some s1))],.tup [.bl true,.bl (dS (some s2))]]=SPV at *
    generalize AV.tup [.bl true,.bl (dS (some s1))]=SP1 at *
    generalize AV.tup [.bl true,.bl (dS (some s2))]=SP2 at *
    generalize sg1 ps s1=G1 at *
    generalize sg1 ps s2=G2 at *
    generalize AV.tup [.str "apart",V,.str c,.str d]=told at *
    generalize ((n+1:Nat):Int)=N1 at *
    generalize (n:Int)=N0 at *
    unfold iX
    unfold jw at cp
    generalize dC [0,3] (bc (ae 1)) cq (aG fF (aj (ae 1) (aj (ae 0) (aj (ah au (ae 2) (af (.int 1))) ag))))=CP at *
    generalize bp (bc (aG j4 (aj (ae 0) (aj (ah au (ae 3) (af (.int 1))) ag)))) (.nm 6) iW=FF at *
    generalize decide (c=G1/\d=G2)=D2 at *
    cases q:decide (G1=G2) with
    | true =>
     rw [q] at ne
     simp [cp,i0,e,x0,x1,y0,y1,fo,ad,p2,p3,c1,c2,j0,j1,ne,cu',ep,-au,-aC,-aZ,-aw,-bI]
    | false =>
     rw [q] at ne
     simp [cp,i0,e,x0,x1,y0,y1,fo,ad,p2,p3,c1,c2,j0,j1,ne,cu',ep,-au,-aC,-aZ,-aw,-bI]
   ·rw [key,Lz,ME,Oe,decide_eq_false_iff_not]
    exact ⟨fun z=>⟨z.2,z.1⟩,fun z=>⟨z.2,z.1⟩⟩
end Sk
namespace Sk
open PySem PySem.Spec L2 Sm
structure KpL (L:Nat) (h h':AH):Prop where
 ln:h.length<=h'.length
 kp:∀ i,i<h.length->i≠L->h'[i]? = h[i]?
theorem KpL.refl (L:Nat) (h:AH):KpL L h h:=⟨KC _,fun _ _ _=>rfl⟩
theorem KpL.trans {L:Nat} {a b c:AH} (p:KpL L a b) (q:KpL L b c):KpL L a c:=⟨KN p.ln q.ln,fun i hi n=>(q.kp i (La hi p.ln) n).trans (p.kp i hi n)⟩
theorem KpL.app (L:Nat) (h r:AH):KpL L h (h++r):=⟨by rw [KH];lia,fun i hi _=>KA hi⟩
theorem KpL.set {L O:Nat} {h h':AH} (p:KpL L h h') (hO:h.length<=O) (v:AO):KpL L h (h'.set O v):=⟨by rw [LI];exact p.ln,fun i hi n=>by rw [KM (by lia)];exact p.kp i hi n⟩
theorem Zq.set {L O:Nat} {h:AH} {ps:List Pc} (z:Zq L h ps) (hO:8<O) (ne:O≠L) (v:AO):Zq L (h.set O v) ps:=by
 obtain ⟨N,e⟩:=z.ro
 exact ⟨eQ z.sh (by omega) _,z.gd,z.hl,N,by rw [KM ne];exact e⟩
theorem Zq.take2 {L:Nat} {h:AH} {ps:List Pc} (z:Zq L h ps) (m:Nat) (hm:0<m) (hm2:m<=10 ^ 50):∃ (v:Nat) (h':AH),v<m/\cM [.ref L,.int m] h = .ok (.int v) h'/\Zq L h' ps/\KpL L h h'/\h'.length=h.length:=by
 obtain ⟨v,h',a,b,c,d,e⟩:=z.takeK m hm hm2
 exact ⟨v,h',a,b,c,⟨by lia,fun i _ n=>d i n⟩,e⟩
theorem SrcA.keep {L:Nat} {h h':AH} {xs:List AV} {V:AV} {w:Option Nat} (s:SrcA h xs V w) (nl:V ≠ .ref L) (k:KpL L h h'):SrcA h' xs V w:=by
 cases s with
 | @ref B e=>exact .ref ((k.kp B (bO e) (fun q=>nl (by rw [q]))).trans e)
 | fl=>exact .fl
theorem SrcA.cut {h:AH} {xs:List AV} {V:AV} {w:Option Nat} (s:SrcA h xs V w) (lo hi:Option Int):bI V lo hi h = .ok (.fl (b9 xs lo hi)) h:=by
 cases s with
 | ref e=>simp only [bI,fK,e]
 | fl=>rfl
theorem SrcA.len {h:AH} {xs:List AV} {V:AV} {w:Option Nat} (s:SrcA h xs V w):ax [V] h = .ok (.int xs.length) h:=by
 cases s with
 | ref e=>simp only [ax,e]
 | fl=>rfl
theorem SrcA.list {h:AH} {xs:List AV} {V:AV} {w:Option Nat} (s:SrcA h xs V w):gI [V] h = .ok (.fl xs) h:=by
 cases s with
 | ref e=>simp only [gI,e]
 | fl=>rfl
theorem SrcA.live' {h:AH} {xs:List AV} {V:AV} {w:Option Nat} (s:SrcA h xs V w):fM w xs h=true:=s.live fun _ _=>rfl
theorem Iy {xs:List AV} (al:∀ v∈xs,dq v) (lo hi:Option Int):(∀ v∈b9 xs lo hi,dq v)/\(b9 xs lo hi).length<=xs.length:=by
 refine ⟨fun v hv=>al v (Ma (Mb hv)),?_⟩
 unfold b9
 rw [Lr,Ln]
 lia
theorem kd {xs ys:List AV} (a:∀ v∈xs,dq v) (b:∀ v∈ys,dq v):∀ v∈xs++ys,dq v:=fun v hv=>by
 rcases Lp.mp hv with q | q
 ·exact a v q
 ·exact b v q
theorem kH {a b:List AV} (l:a.length+b.length<=100000) (h:AH):aw (.fl a) (.fl b) h = .ok (.fl (a++b)) h:=by
 have:a.length+b.length<=sizeLine:=KN l (by decide)
 simp only [aw,fK,this,Mc]
theorem Iz {h:AH} {O v:Nat} {xs:List AV} {u:AV} (e:h[O]? = some (.lst xs)) (eu:xs[v]? = some u):au (.ref O) (.int v) h = .ok u h:=by
 simp only [au,e,kR eu]
theorem oH {u:AV} (o:dq u):∀ v∈[u],dq v:=fun v hv=>by rw [LH] at hv;subst hv;exact o
def iK (n:Int):List AV:=[.non,.bl true,.int 0,.int (-1),.int n,.int (10 ^ 29),.str "",.str "abcdefghi",.str "\t",.fl [],.tup [.str "a"],.str "a",.str "\n"]
theorem IA (n t:Int):∀ u∈iK n++[.int t],dq u:=fun u hu=>by
 have hs:(Str.ofString "" : Str).length<=9/\(Str.ofString "abcdefghi" : Str).length<=9/\(Str.ofString "\t" : Str).length<=9/\(Str.ofString "a" : Str).length<=9/\(Str.ofString "\n" : Str).length<=9:=by decide +kernel
 obtain ⟨s1,s2,s3,s4,s5⟩:=hs
 simp only [iK,LQ,L6,K6,MI,Oy] at hu
 rcases hu with rfl | rfl | rfl | rfl | rfl | rfl | rfl | rfl | rfl | rfl | rfl | rfl | rfl | rfl
 ·exact .non
 ·exact .bl _
 ·exact .int _
 ·exact .int _
 ·exact .int _
 ·exact .int _
 ·exact .str _ s1
 ·exact .str _ s2
 ·exact .str _ s3
 ·exact .fl
 ·exact .tup
 ·exact .str _ s4
 ·exact .str _ s5
 ·exact .int _
abbrev eB (L:Nat) (V:AV) (k a O F:Nat) (o7:Option AV):En:=[some (.ref L),some (.ref 0),some V,some (.int k),some (.int a),some (.ref O),some (.ref F),o7]
theorem Az {h:AH} {F:Nat} {ys zs:List AV} (e:h[F]? = some (.lst ys)) (l:ys.length+zs.length<=100000):kn (.ref F) [.fl zs] h = .ok .non (h.set F (.lst (ys++zs))):=by
 have:ys.length+zs.length<=sizeLine:=KN l (by decide)
 simp only [kn,e,fK,this,Mc]
theorem vd {h:AH} {F:Nat} {ys:List AV} {v:AV} (e:h[F]? = some (.lst ys)) (l:ys.length<=100000):bV (.ref F) [v] h = .ok .non (h.set F (.lst (ys++[v]))):=by
 have:ys.length<sizeLine:=K7 l (by decide)
 simp only [bV,e,this,Mc]
theorem IB {L k a O F:Nat} {h:AH} {ps:List Pc} {V u:AV} {ys:List AV} (z:Zq L h ps) (eF:h[F]? = some (.lst ys)) (F8:8<F) (FL:F≠L) (iu:dq u) (ly:ys.length<=90000) :
  ∃ (zs:List AV) (h1:AH),iq (eB L V k a O F (some u)) h = .nx (eB L V k a O F (some u)) (h1.set F (.lst (ys++zs)))/\Zq L h1 ps/\KpL L h h1/\h1[F]? = some (.lst ys)/\(∀ v∈zs,dq v)/\zs.length<=8:=by
 have ob:=z.sh.ob
 have is0:bq (.ref F) h=true:=by simp [eF]
 have ap:=vd (v:=u) eF (by lia)
 by_cases q:∃ i:Int,u = .int i
 ·obtain ⟨i,rfl⟩:=q
  have wh:fE [.int i] h = .ok (.bl true) h:=by simp [fE]
  have fm:=lN z.sh
  have l1:bz (.int 0) (.int i) h = .ok (.bl (decide (0<i))) h:=rfl
  have l2:bS (.int i) (.int ps.length) h = .ok (.bl (decide (i<=ps.length))) h:=rfl
  by_cases q:0<i/\i<=ps.length
  ·obtain ⟨n,rfl⟩:=LU (by lia:0<=i)
   rw [KQ q.1] at l1
   rw [KQ q.2] at l2
   obtain ⟨v,h1,hv,t,z1,k1,e1⟩:=z.take2 2 (by decide) (by decide)
   replace t:cM [.ref L,.int 2] h = .ok (.int v) h1:=t
   have eF1:h1[F]? = some (.lst ys):=(k1.kp F (bO eF) FL).trans eF
   have is1:bq (.ref F) h1=true:=by simp [eF1]
   have ev:aC (.int v) (.int 0) h1 = .ok (.bl (decide (v=0))) h1:=dc v 0 h1
   have ap1:=vd (v:=.int n) eF1 (by lia)
   have ob1:=z1.sh.ob
   by_cases qv:v=0
   ·rw [KQ qv] at ev
    refine ⟨[.int n],h1,?_,z1,k1,eF1,oH (.int _),by simp⟩
    generalize h1.set F (.lst (ys++[.int n]))=HF at *
    generalize (ps.length:Int)=PL at *
    simp [iq,eB,wh,l1,l2,ob,fm,t,ev,is1,ap1,-bq,-bV,-bz,-bS,-aC]
   ·rw [KD qv] at ev
    obtain ⟨m,x,f,l,T⟩:=z.gd.tx n (by lia) (by lia)
    have lt:=uV h1
    have lf:=uW h1
    rcases z.gd.kind T with ⟨e,_,_,x1,x8⟩ | ⟨b,c,ma,mb,y,w,fa,la,fb,lb,e,_⟩
    ·have fp:=kD z1.sh T.n1 e
     have c0:au (Pc.leaf x).av (.int 0) h1 = .ok (.str "leaf") h1:=rfl
     have c1:au (Pc.leaf x).av (.int 1) h1 = .ok (.str x) h1:=rfl
     have li:gI [.str x] h1 = .ok (.fl (x.cps.toList.map cS)) h1:=rfl
     have ll:(x.cps.toList.map cS).length<=8:=by rw [K4,<- bB];exact x8
     have ex:=Az eF1 (zs:=x.cps.toList.map cS) (by lia)
     refine ⟨x.cps.toList.map cS,h1,?_,z1,k1,eF1,fun v hv=>?_,ll⟩
     ·generalize (Pc.leaf x).av=PA at *
      generalize x.cps.toList.map cS=XS at *
      generalize h1.set F (.lst (ys++XS))=HF at *
      generalize (ps.length:Int)=PL at *
      simp [iq,eB,wh,l1,l2,ob,fm,t,ev,ob1,fp,c0,lt,is1,c1,li,ex,-bq,-kn,-bz,-bS,-aC,-au,-gI]
     ·obtain ⟨s,_,rfl⟩:=MD.mp hv
      exact .str _ (by show (1:Nat)<=9;decide)
    ·have fp:=kD z1.sh T.n1 e
     have c0:au (Pc.fork b c).av (.int 0) h1 = .ok (.str "fork") h1:=rfl
     have c1:bI (Pc.fork b c).av (some 1) none h1 = .ok (.tup [.int b,.int c]) h1:=rfl
     have li:gI [.tup [.int b,.int c]] h1 = .ok (.fl [.int b,.int c]) h1:=rfl
     have ex:=Az eF1 (zs:=[.int b,.int c]) (by show _+2<=_;lia)
     refine ⟨[.int b,.int c],h1,?_,z1,k1,eF1,fun v hv=>?_,by show (2:Nat)<=8;decide⟩
     ·generalize (Pc.fork b c).av=PA at *
      generalize AV.tup [.int b,.int c]=PT at *
      generalize [AV.int b,AV.int c]=XS at *
      generalize h1.set F (.lst (ys++XS))=HF at *
      generalize (ps.length:Int)=PL at *
      simp [iq,eB,wh,l1,l2,ob,fm,t,ev,ob1,fp,c0,lf,is1,c1,li,ex,-bq,-kn,-bz,-bS,-aC,-au,-gI,-bI]
     ·simp only [K6,MI,Oy] at hv
      rcases hv with rfl | rfl<;>exact .int _
  ·refine ⟨[.int i],h,?_,z,KpL.refl _ _,eF,oH (.int _),by simp⟩
   generalize h.set F (.lst (ys++[.int i]))=HF at *
   by_cases q1:0<i
   ·rw [KQ q1] at l1
    rw [KD (fun w=>q ⟨q1,w⟩)] at l2
    generalize (ps.length:Int)=PL at *
    simp [iq,eB,wh,l1,l2,ob,fm,is0,ap,-bq,-bV,-bz,-bS,-aC]
   ·rw [KD q1] at l1
    generalize (ps.length:Int)=PL at *
    simp [iq,eB,wh,l1,l2,ob,fm,is0,ap,-bq,-bV,-bz,-bS,-aC]
 ·have wh:fE [u] h = .ok (.bl false) h:=by
   cases iu with
   | int i=>exact absurd ⟨i,rfl⟩ q
   | str z l=>simp [fE]
   | non=>simp [fE]
   | bl b=>simp [fE]
   | fl=>simp [fE]
   | tup=>simp [fE]
  refine ⟨[u],h,?_,z,KpL.refl _ _,eF,oH iu,by simp⟩
  generalize h.set F (.lst (ys++[u]))=HF at *
  simp [iq,eB,wh,is0,ap,-bq,-bV]
end Sk
namespace Sk
open PySem PySem.Spec L2 Sm
theorem IC {L k a O F:Nat} {h0 h:AH} {ps:List Pc} {V:AV} {w:Option Nat} {xs:List AV} (z:Zq L h ps) (s:SrcA h0 xs V w) (nl:V ≠ .ref L) (k0:KpL L h0 h) (al:∀ v∈xs,dq v) (lx:xs.length<=2000) (F0:h0.length<=F) (eF:h[F]? = some (.lst [])) (F8:8<F) (FL:F≠L) :
  ∃ (ys:List AV) (o7:Option AV) (h':AH),cH w xs (.nm 7) iq xs (eB L V k a O F none) h = .nx (eB L V k a O F o7) h'/\Zq L h' ps/\KpL L h0 h'/\h'[F]? = some (.lst ys)/\(∀ v∈ys,dq v)/\ys.length<=8*xs.length:=by
 obtain ⟨e',h',r1,r2⟩:=j5 (w:=w) (all:=xs) (t:=.nm 7) (b:=iq) (xs:=xs) (en:=eB L V k a O F none) (h:=h)
  (fun j en hh=>KpL L h0 hh/\(j<=xs.length->∃ (ys:List AV) (o7:Option AV),en=eB L V k a O F o7/\Zq L hh ps/\hh[F]? = some (.lst ys)/\(∀ v∈ys,dq v)/\ys.length<=8*j))
  ⟨k0,fun _=>⟨[],none,rfl,z,eF,fun v hv=>(by cases hv),KC _⟩⟩ (fun _ _ _ p=>(s.keep nl p.1).live') (by
   rintro j u en hh hu ⟨kk,p⟩
   have hj:=(Kz.mp hu).1
   obtain ⟨ys,o7,rfl,z1,eF1,ay,ly⟩:=p (by lia)
   obtain ⟨zs,h1,ev,z2,k2,eF2,az,lz⟩:=IB (k:=k) (a:=a) (O:=O) (V:=V) z1 eF1 F8 FL (al u (Ld hu)) (by lia)
   show thn (iq (eB L V k a O F (some u)) hh) _
   rw [ev]
   exact ⟨(kk.trans k2).set F0 _,fun _=>⟨ys++zs,some u,rfl,z2.set F8 FL _,KG (bO eF2),kd ay az,by rw [KH];lia⟩⟩)
 obtain ⟨k1,r2⟩:=r2
 obtain ⟨ys,o7,rfl,z1,eF1,ay,ly⟩:=r2 (KC _)
 exact ⟨ys,o7,h',r1,z1,k1,eF1,ay,ly⟩
theorem ID {L:Nat} {h:AH} {ps:List Pc} {V:AV} {w:Option Nat} {xs:List AV} (z:Zq L h ps) (s:SrcA h xs V w) (nl:V ≠ .ref L) (al:∀ v∈xs,dq v) (lx:xs.length<=2000) (lp:ps.length<=1000000) :
  ∃ (V':AV) (w':Option Nat) (xs':List AV) (h':AH),jZ [.ref L,.ref 0,V] h = .ok V' h'/\Zq L h' ps/\KpL L h h'/\SrcA h' xs' V' w'/\V' ≠ .ref L/\(∀ v∈xs',dq v)/\xs'.length<=8*xs.length+1:=by
 have h8:8<h.length:=bO z.sh.h8
 have Lh:L<h.length:=by obtain ⟨N,e⟩:=z.ro;exact bO e
 obtain ⟨k,h1,hk,t1,z1,k1,n1⟩:=z.take2 8 (by decide) (by decide)
 replace t1:cM [.ref L,.int 8] h = .ok (.int k) h1:=t1
 have ln1:=(s.keep nl k1).len
 have ad1:aw (.int xs.length) (.int 1) h1 = .ok (.int ((xs.length+1:Nat):Int)) h1:=rfl
 obtain ⟨a,h2,ha,t2,z2,k2,n2⟩:=z1.take2 (xs.length+1) (Nu _) (KN (m:=2001) (by lia) (by decide))
 have fm2:=lN z2.sh
 have ob2:=z2.sh.ob
 have ad2:aw (.int ps.length) (.int 1) h2 = .ok (.int ((ps.length+1:Nat):Int)) h2:=rfl
 have pw:cg (.int 10) (.int 29) h2 = .ok (.int (10 ^ 29)) h2:=by simp
 obtain ⟨O,eO⟩:∃ O,O=h2.length:=⟨_,rfl⟩
 have OL:O≠L:=by lia
 have z3:=z2.app [.lst (iK ((ps.length+1:Nat):Int))]
 have k3:=(k1.trans k2).trans (KpL.app L h2 [.lst (iK ((ps.length+1:Nat):Int))])
 have eO3:(h2++[AO.lst (iK ((ps.length+1:Nat):Int))])[O]? = some (.lst (iK ((ps.length+1:Nat):Int))):=by rw [eO];simp
 have n3:(h2++[AO.lst (iK ((ps.length+1:Nat):Int))]).length=h2.length+1:=by simp
 obtain ⟨h3,eh3⟩:∃ h3,h3=h2++[AO.lst (iK ((ps.length+1:Nat):Int))]:=⟨_,rfl⟩
 have mk:eJ (aj (af .non) (aj (af (.bl true)) (aj (af (.int 0)) (aj (bL bG (af (.int 1))) (aj (ah aw (aR 0 gv (ae 1) ag) (af (.int 1))) (aj (ah cg (af (.int 10)) (af (.int 29))) (aj (af (.str "")) (aj (af (.str "abcdefghi")) (aj (af (.str "\t")) (aj (bN ag) (aj (bM (aj (af (.str "a")) ag)) (aj (af (.str "a")) (aj (af (.str "\n")) ag))))))))))))) [some (.ref L),some (.ref 0),some V,some (.int k),some (.int a),none,none,none] h2 = .ok (.ref O) h3:=by
  rw [eh3,eO]
  simp only [iK]
  generalize ((ps.length+1:Nat):Int)=P1 at *
  generalize (ps.length:Int)=P0 at *
  simp [ob2,fm2,ad2,pw,-aw,-cg]
 rw [<- eh3] at z3 k3 eO3 n3
 have fm3:=lN z3.sh
 have ob3:=z3.sh.ob
 obtain ⟨M,M1,M2,mx⟩:∃ M:Nat,1<=M/\M<=1000000/\e8 [.int 1,.int ps.length] h3 = .ok (.int M) h3:=by
  by_cases q:1<ps.length
  ·refine ⟨ps.length,by lia,lp,?_⟩
   show Out.ok (AV.int (if (ps.length:Int) > 1 then (ps.length:Int) else 1)) h3=_
   rw [KS (by lia)]
  ·refine ⟨1,KC _,by decide,?_⟩
   show Out.ok (AV.int (if (ps.length:Int) > 1 then (ps.length:Int) else 1)) h3=_
   rw [KW (by lia)]
   rfl
 obtain ⟨t,h4,ht,t4,z4,k4,n4⟩:=z3.take2 M (by lia) (KN M2 (by decide))
 have ad4:aw (.int 1) (.int t) h4 = .ok (.int (1+t)) h4:=rfl
 have eO4:h4[O]? = some (.lst (iK ((ps.length+1:Nat):Int))):=(k4.kp O (bO eO3) OL).trans eO3
 have is3:bq (.ref O) h3=true:=by simp [eO3]
 have ap4:=vd (v:=.int (1+t)) eO4 (by show (13:Nat)<=_;decide)
 have ok5:=IA ((ps.length+1:Nat):Int) (1+t)
 have lo5:(iK ((ps.length+1:Nat):Int)++[AV.int (1+t)]).length=14:=rfl
 generalize iK ((ps.length+1:Nat):Int)++[AV.int (1+t)]=OD at *
 have z5:=z4.set (O:=O) (by lia) OL (.lst OD)
 have k5:KpL L h (h4.set O (.lst OD)):=(k3.trans k4).set (by have:=k1.ln;have:=k2.ln;lia) _
 have eO5:(h4.set O (.lst OD))[O]? = some (.lst OD):=KG (bO eO4)
 have n5:(h4.set O (.lst OD)).length=h.length+1:=by rw [LI];lia
 obtain ⟨h5,eh5⟩:∃ h5,h5=h4.set O (.lst OD):=⟨_,rfl⟩
 rw [<- eh5] at ap4 z5 k5 eO5 n5
 have s5:=s.keep nl k5
 have ln5:=s5.len
 have lO5:ax [.ref O] h5 = .ok (.int 14) h5:=by simp only [ax,eO5,lo5];rfl
 obtain ⟨v,h6,hv,t6,z6,k6,n6⟩:=z5.take2 14 (by decide) (by decide)
 replace t6:cM [.ref L,.int 14] h5 = .ok (.int v) h6:=t6
 have eO6:h6[O]? = some (.lst OD):=(k6.kp O (by lia) OL).trans eO5
 have k6' := k5.trans k6
 have s6:=s.keep nl k6'
 obtain ⟨u,eu⟩:∃ u,OD[v]? = some u:=⟨_,KR (by lia)⟩
 have iu:=ok5 u (Ld eu)
 have ix6:=Iz eO6 eu
 have e0:aC (.int k) (.int 0) h5 = .ok (.bl (decide (k=0))) h5:=dc k 0 h5
 have e1:aC (.int k) (.int 1) h5 = .ok (.bl (decide (k=1))) h5:=dc k 1 h5
 have e2:aC (.int k) (.int 2) h5 = .ok (.bl (decide (k=2))) h5:=dc k 2 h5
 have e3:aC (.int k) (.int 3) h5 = .ok (.bl (decide (k=3))) h5:=dc k 3 h5
 have e4:aC (.int k) (.int 4) h5 = .ok (.bl (decide (k=4))) h5:=dc k 4 h5
 have a1:∀ hh,aw (.int a) (.int 1) hh = .ok (.int ((a+1:Nat):Int)) hh:=fun _=>rfl
 have a2:∀ hh,aw (.int a) (.int 2) hh = .ok (.int ((a+2:Nat):Int)) hh:=fun _=>rfl
 have sb:cY (.int a) (.int 1) h5 = .ok (.int ((a:Int)-1)) h5:=rfl
 obtain ⟨mm,mx2⟩:∃ mm:Int,e8 [.int 0,.int ((a:Int)-1)] h5 = .ok (.int mm) h5:=⟨_,rfl⟩
 have la:bz (.int a) (.int xs.length) h5 = .ok (.bl (decide ((a:Int)<xs.length))) h5:=rfl
 have C:=fun lo hi=>s5.cut lo hi
 have C6:=fun lo hi=>s6.cut lo hi
 have K:=fun lo hi=>Iy al lo hi
 by_cases q0:k=0
 ·rw [KQ q0] at e0
  have c1:=C none (some (a:Int))
  have c2:=C6 (some (a:Int)) none
  obtain ⟨i1,j1⟩:=K none (some (a:Int))
  obtain ⟨i2,j2⟩:=K (some (a:Int)) none
  generalize b9 xs none (some (a:Int))=X1 at *
  generalize b9 xs (some (a:Int)) none=X2 at *
  have d1:=kH (a:=X1) (b:=[u]) (by show _+1<=_;lia) h6
  have d2:=kH (a:=X1++[u]) (b:=X2) (by rw [KH];show _+1+_<=_;lia) h6
  refine ⟨.fl (X1++[u]++X2),none,_,h6,?_,z6,k6',.fl,(fun q=>by cases q),kd (kd i1 (oH iu)) i2,by rw [KH,KH];show _+1+_<=_;lia⟩
  clear z z1 z2 z3 z4 z5 z6 C C6 K s s5 s6 k1 k2 k3 k4 k5 k6 k6' eh3 eh5 al iu ok5
  generalize X1++[u]++X2=X3 at *
  generalize X1++[u]=X4 at *
  generalize ((xs.length+1:Nat):Int)=XL1 at *
  generalize (xs.length:Int)=XL at *
  generalize (ps.length:Int)=PL at *
  generalize (1+(t:Int))=TT at *
  generalize (k:Int)=KK at *
  generalize (a:Int)=AA at *
  generalize (M:Int)=MM at *
  unfold jZ
  generalize eJ (aj (af .non) (aj (af (.bl true)) (aj (af (.int 0)) (aj (bL bG (af (.int 1))) (aj (ah aw (aR 0 gv (ae 1) ag) (af (.int 1))) (aj (ah cg (af (.int 10)) (af (.int 29))) (aj (af (.str "")) (aj (af (.str "abcdefghi")) (aj (af (.str "\t")) (aj (bN ag) (aj (bM (aj (af (.str "a")) ag)) (aj (af (.str "a")) (aj (af (.str "\n")) ag)))))))))))))=LM at *
  simp [t1,ln1,ad1,t2,mk,is3,ob3,fm3,mx,t4,ad4,ap4,e0,c1,lO5,t6,ix6,d1,c2,d2,-ax,-aw,-aC,-au,-e8,-bq,-bV,-bI]
 rw [KD q0] at e0
 by_cases q1:k=1
 ·rw [KQ q1] at e1
  have c1:=C none (some (a:Int))
  have c2:=C (some ((a+1:Nat):Int)) none
  obtain ⟨i1,j1⟩:=K none (some (a:Int))
  obtain ⟨i2,j2⟩:=K (some ((a+1:Nat):Int)) none
  generalize b9 xs none (some (a:Int))=X1 at *
  generalize b9 xs (some ((a+1:Nat):Int)) none=X2 at *
  have d1:=kH (a:=X1) (b:=X2) (by lia) h5
  refine ⟨.fl (X1++X2),none,_,h5,?_,z5,k5,.fl,(fun q=>by cases q),kd i1 i2,by rw [KH];lia⟩
  clear z z1 z2 z3 z4 z5 z6 C C6 K s s5 s6 k1 k2 k3 k4 k5 k6 k6' eh3 eh5 al iu ok5 t6 ix6 eO6
  generalize X1++X2=X3 at *
  have a1' := a1 h5
  generalize ((a+1:Nat):Int)=AA1 at *
  generalize ((xs.length+1:Nat):Int)=XL1 at *
  generalize (xs.length:Int)=XL at *
  generalize (ps.length:Int)=PL at *
  generalize (1+(t:Int))=TT at *
  generalize (k:Int)=KK at *
  generalize (a:Int)=AA at *
  generalize (M:Int)=MM at *
  unfold jZ
  generalize eJ (aj (af .non) (aj (af (.bl true)) (aj (af (.int 0)) (aj (bL bG (af (.int 1))) (aj (ah aw (aR 0 gv (ae 1) ag) (af (.int 1))) (aj (ah cg (af (.int 10)) (af (.int 29))) (aj (af (.str "")) (aj (af (.str "abcdefghi")) (aj (af (.str "\t")) (aj (bN ag) (aj (bM (aj (af (.str "a")) ag)) (aj (af (.str "a")) (aj (af (.str "\n")) ag)))))))))))))=LM at *
  simp [t1,ln1,ad1,t2,mk,is3,ob3,fm3,mx,t4,ad4,ap4,e0,e1,c1,a1',c2,d1,-ax,-aw,-aC,-au,-e8,-bq,-bV,-bI]
 rw [KD q1] at e1
 by_cases q2:k=2
 ·rw [KQ q2] at e2
  have c1:=C none (some (a:Int))
  have c2:=C (some mm) none
  obtain ⟨i1,j1⟩:=K none (some (a:Int))
  obtain ⟨i2,j2⟩:=K (some mm) none
  generalize b9 xs none (some (a:Int))=X1 at *
  generalize b9 xs (some mm) none=X2 at *
  have d1:=kH (a:=X1) (b:=X2) (by lia) h5
  refine ⟨.fl (X1++X2),none,_,h5,?_,z5,k5,.fl,(fun q=>by cases q),kd i1 i2,by rw [KH];lia⟩
  clear z z1 z2 z3 z4 z5 z6 C C6 K s s5 s6 k1 k2 k3 k4 k5 k6 k6' eh3 eh5 al iu ok5 t6 ix6 eO6
  generalize X1++X2=X3 at *
  generalize ((a:Int)-1)=AA1 at *
  generalize ((xs.length+1:Nat):Int)=XL1 at *
  generalize (xs.length:Int)=XL at *
  generalize (ps.length:Int)=PL at *
  generalize (1+(t:Int))=TT at *
  generalize (k:Int)=KK at *
  generalize (a:Int)=AA at *
  generalize (M:Int)=MM at *
  unfold jZ
  generalize eJ (aj (af .non) (aj (af (.bl true)) (aj (af (.int 0)) (aj (bL bG (af (.int 1))) (aj (ah aw (aR 0 gv (ae 1) ag) (af (.int 1))) (aj (ah cg (af (.int 10)) (af (.int 29))) (aj (af (.str "")) (aj (af (.str "abcdefghi")) (aj (af (.str "\t")) (aj (bN ag) (aj (bM (aj (af (.str "a")) ag)) (aj (af (.str "a")) (aj (af (.str "\n")) ag)))))))))))))=LM at *
  simp [t1,ln1,ad1,t2,mk,is3,ob3,fm3,mx,t4,ad4,ap4,e0,e1,e2,c1,sb,mx2,c2,d1,-ax,-aw,-cY,-aC,-au,-e8,-bq,-bV,-bI]
 rw [KD q2] at e2
 by_cases q3:k=3
 ·rw [KQ q3] at e3
  have c1:=C none (some (a:Int))
  have c2:=C (some (a:Int)) (some ((a+2:Nat):Int))
  have c3:=C (some ((a+2:Nat):Int)) none
  obtain ⟨i1,j1⟩:=K none (some (a:Int))
  obtain ⟨i2,j2⟩:=K (some (a:Int)) (some ((a+2:Nat):Int))
  obtain ⟨i3,j3⟩:=K (some ((a+2:Nat):Int)) none
  generalize b9 xs none (some (a:Int))=X1 at *
  generalize b9 xs (some (a:Int)) (some ((a+2:Nat):Int))=X2 at *
  generalize b9 xs (some ((a+2:Nat):Int)) none=X3 at *
  have i2':∀ v∈X2.reverse,dq v:=fun v hv=>i2 v (List.mem_reverse.mp hv)
  have j2':X2.reverse.length<=xs.length:=by rw [NT];exact j2
  have d1:=kH (a:=X1) (b:=X2.reverse) (by lia) h5
  have d2:=kH (a:=X1++X2.reverse) (b:=X3) (by rw [KH];lia) h5
  refine ⟨.fl (X1++X2.reverse++X3),none,_,h5,?_,z5,k5,.fl,(fun q=>by cases q),kd (kd i1 i2') i3,by rw [KH,KH];lia⟩
  clear z z1 z2 z3 z4 z5 z6 C C6 K s s5 s6 k1 k2 k3 k4 k5 k6 k6' eh3 eh5 al iu ok5 t6 ix6 eO6 i2 i2'
  generalize X1++X2.reverse++X3=X4 at *
  generalize X1++X2.reverse=X5 at *
  have a2' := a2 h5
  generalize ((a+2:Nat):Int)=AA1 at *
  generalize ((xs.length+1:Nat):Int)=XL1 at *
  generalize (xs.length:Int)=XL at *
  generalize (ps.length:Int)=PL at *
  generalize (1+(t:Int))=TT at *
  generalize (k:Int)=KK at *
  generalize (a:Int)=AA at *
  generalize (M:Int)=MM at *
  unfold jZ
  generalize eJ (aj (af .non) (aj (af (.bl true)) (aj (af (.int 0)) (aj (bL bG (af (.int 1))) (aj (ah aw (aR 0 gv (ae 1) ag) (af (.int 1))) (aj (ah cg (af (.int 10)) (af (.int 29))) (aj (af (.str "")) (aj (af (.str "abcdefghi")) (aj (af (.str "\t")) (aj (bN ag) (aj (bM (aj (af (.str "a")) ag)) (aj (af (.str "a")) (aj (af (.str "\n")) ag)))))))))))))=LM at *
  simp [t1,ln1,ad1,t2,mk,is3,ob3,fm3,mx,t4,ad4,ap4,e0,e1,e2,e3,c1,a2',c2,c3,d1,d2,-ax,-aw,-cY,-aC,-au,-e8,-bq,-bV,-bI]
 rw [KD q3] at e3
 by_cases q4:k=4/\(a:Int)<xs.length
 ·rw [KQ q4.1] at e4
  rw [KQ q4.2] at la
  have c1:=C none (some (a:Int))
  have c2:=C6 (some ((a+1:Nat):Int)) none
  obtain ⟨i1,j1⟩:=K none (some (a:Int))
  obtain ⟨i2,j2⟩:=K (some ((a+1:Nat):Int)) none
  generalize b9 xs none (some (a:Int))=X1 at *
  generalize b9 xs (some ((a+1:Nat):Int)) none=X2 at *
  have d1:=kH (a:=X1) (b:=[u]) (by show _+1<=_;lia) h6
  have d2:=kH (a:=X1++[u]) (b:=X2) (by rw [KH];show _+1+_<=_;lia) h6
  refine ⟨.fl (X1++[u]++X2),none,_,h6,?_,z6,k6',.fl,(fun q=>by cases q),kd (kd i1 (oH iu)) i2,by rw [KH,KH];show _+1+_<=_;lia⟩
  clear z z1 z2 z3 z4 z5 z6 C C6 K s s5 s6 k1 k2 k3 k4 k5 k6 k6' eh3 eh5 al iu ok5
  generalize X1++[u]++X2=X3 at *
  generalize X1++[u]=X4 at *
  have a1' := a1 h6
  generalize ((a+1:Nat):Int)=AA1 at *
  generalize ((xs.length+1:Nat):Int)=XL1 at *
  generalize (xs.length:Int)=XL at *
  generalize (ps.length:Int)=PL at *
  generalize (1+(t:Int))=TT at *
  generalize (k:Int)=KK at *
  generalize (a:Int)=AA at *
  generalize (M:Int)=MM at *
  unfold jZ
  generalize eJ (aj (af .non) (aj (af (.bl true)) (aj (af (.int 0)) (aj (bL bG (af (.int 1))) (aj (ah aw (aR 0 gv (ae 1) ag) (af (.int 1))) (aj (ah cg (af (.int 10)) (af (.int 29))) (aj (af (.str "")) (aj (af (.str "abcdefghi")) (aj (af (.str "\t")) (aj (bN ag) (aj (bM (aj (af (.str "a")) ag)) (aj (af (.str "a")) (aj (af (.str "\n")) ag)))))))))))))=LM at *
  simp [t1,ln1,ad1,t2,mk,is3,ob3,fm3,mx,t4,ad4,ap4,e0,e1,e2,e3,e4,ln5,la,c1,lO5,t6,ix6,d1,a1',c2,d2,-ax,-aw,-aC,-au,-e8,-bq,-bV,-bI,-bz]
 ·have no:(dz (aK (ah aC (ae 3) (af (.int 4)))) (aK (ah bz (ae 4) (aG ax (aj (ae 2) ag))))) [some (.ref L),some (.ref 0),some V,some (.int k),some (.int a),some (.ref O),none,none] h5 = .ok false h5:=by
   by_cases q:k=4
   ·rw [KQ q] at e4
    rw [KD (fun w=>q4 ⟨q,w⟩)] at la
    simp [e4,ln5,la,-aC,-ax,-bz]
   ·rw [KD q] at e4
    simp [e4,-aC,-ax,-bz]
  have z7:=z5.app [.lst []]
  have k7:=k5.trans (KpL.app L h5 [.lst []])
  have eF:(h5++[AO.lst []])[h5.length]? = some (.lst []):=by simp
  obtain ⟨ys,o7,h',lp',z8,k8,eF8,ay,ly⟩:=IC (k:=k) (a:=a) (O:=O) z7 s nl k7 al (by lia) (by lia) eF (by lia) (by lia)
  have fo:=(gz (t:=.nm 7) (b:=iq) ((s.keep nl k7).iv (en:=eB L V k a O h5.length none) (j:=2) rfl)).trans lp'
  have nf:h5.length≠L:=by lia
  refine ⟨.ref h5.length,some h5.length,ys,h',?_,z8,k8,.ref eF8,(fun q=>nf (by injection q)),ay,by lia⟩
  clear z z1 z2 z3 z4 z5 z6 z7 z8 C C6 K s s5 s6 k1 k2 k3 k4 k5 k6 k6' k7 k8 eh3 eh5 al iu ok5 t6 ix6 eO6 lp' ay eF eF8 la e4
  simp only [eB] at fo
  generalize ((xs.length+1:Nat):Int)=XL1 at *
  generalize (xs.length:Int)=XL at *
  generalize (ps.length:Int)=PL at *
  generalize (1+(t:Int))=TT at *
  generalize (k:Int)=KK at *
  generalize (a:Int)=AA at *
  generalize (M:Int)=MM at *
  unfold jZ
  generalize eJ (aj (af .non) (aj (af (.bl true)) (aj (af (.int 0)) (aj (bL bG (af (.int 1))) (aj (ah aw (aR 0 gv (ae 1) ag) (af (.int 1))) (aj (ah cg (af (.int 10)) (af (.int 29))) (aj (af (.str "")) (aj (af (.str "abcdefghi")) (aj (af (.str "\t")) (aj (bN ag) (aj (bM (aj (af (.str "a")) ag)) (aj (af (.str "a")) (aj (af (.str "\n")) ag)))))))))))))=LM at *
  generalize (dz (aK (ah aC (ae 3) (af (.int 4)))) (aK (ah bz (ae 4) (aG ax (aj (ae 2) ag)))))=CN at *
  generalize bp (bc (ae 2)) (.nm 7) iq=FF at *
  simp [t1,ln1,ad1,t2,mk,is3,ob3,fm3,mx,t4,ad4,ap4,e0,e1,e2,e3,no,fo,-ax,-aw,-aC,-au,-e8,-bq,-bV,-bI,-bz]
end Sk
namespace Sk
open PySem PySem.Spec L2 Sm
theorem IE {v:AV} (h:AH) (o:dq v):∃ d,bW 7 h v=some d/\PyData.eqv d d=true:=by
 cases o with
 | int i=>exact ⟨.int i,rfl,by simp [PyData.eqv]⟩
 | str z l=>exact ⟨.str z,rfl,by simp [PyData.eqv]⟩
 | non=>exact ⟨.none,rfl,by simp [PyData.eqv]⟩
 | bl b=>exact ⟨.bool b,rfl,by cases b<;>simp [PyData.eqv]⟩
 | fl=>exact ⟨.list [],rfl,by simp [PyData.eqv,PyData.eqvAll]⟩
 | tup=>exact ⟨.tuple [.str "a"],rfl,by simp [PyData.eqv,PyData.eqvAll]⟩
theorem AB (h:AH):∀ {xs:List AV},(∀ v∈xs,dq v)->∃ ds,bT (bW 7 h) xs=some ds/\PyData.eqvAll ds ds=true
 | [],_=>⟨[],rfl,by simp [PyData.eqvAll]⟩
 | v::xs,al=>by
  obtain ⟨d,e,q⟩:=IE h (al v (KF ..))
  obtain ⟨ds,es,qs⟩:=AB h (xs:=xs) fun u hu=>al u (KJ _ hu)
  refine ⟨d::ds,?_,by simp [PyData.eqvAll,q,qs]⟩
  rw [bT,e,es]
theorem SrcA.ne {h:AH} {xs:List AV} {V:AV} {w:Option Nat} (s:SrcA h xs V w) (al:∀ v∈xs,dq v):aZ V (.fl xs) h = .ok (.bl false) h:=by
 obtain ⟨ds,e,q⟩:=AB h al
 have d2:bW 8 h (.fl xs)=some (.list ds):=by
  show (bT (bW 7 h) xs).map _=_
  rw [e]
  rfl
 have qq:PyData.eqv (.list ds) (.list ds)=true:=by rw [PyData.eqv];exact q
 have key:fW V (.fl xs) h=some true:=by
  cases s with
  | @ref B eB =>
   have d1:bW 8 h (.ref B)=some (.list ds):=by
    show (match h[B]? with
     | some (.lst xs)=>(bT (bW 7 h) xs).map PyData.list
     | _=>none)=_
    rw [eB]
    show (bT (bW 7 h) xs).map _=_
    rw [e]
    rfl
   simp only [fW,d1,d2,qq]
  | fl=>simp only [fW,d2,qq]
 simp only [aZ,key]
 rfl
inductive Form (V:AV):AV->Prop
 | al:Form V (.tup [.str "alike",V])
 | ap (c d:Str):Form V (.tup [.str "apart",V,.str c,.str d])
theorem Form.i1 {V T:AV} (f:Form V T):∀ hh,au T (.int 1) hh = .ok V hh:=by
 cases f with
 | al=>exact fun _=>rfl
 | ap c d=>exact fun _=>rfl
theorem Form.i0 {V T:AV} (f:Form V T):∃ k:Str,∀ hh,au T (.int 0) hh = .ok (.str k) hh:=by
 cases f with
 | al=>exact ⟨_,fun _=>rfl⟩
 | ap c d=>exact ⟨_,fun _=>rfl⟩
theorem ve {h:AH} {a b:Nat} {ps:List Pc} {V T:AV} {w:Option Nat} {xs:List AV} {x y:Str} (S:ShelfAt h 0 ps) (g:Good ps) (A:TxZ ps a x) (B:TxZ ps b y) (lx:x.length<=100) (sr:SrcA h xs V w) (al:∀ v∈xs,dq v) (hl:xs.length<=10000) (f:Form V T) :
  ∃ (q:Bool) (r1 r2:AH),dY [.ref 0,.int a,.int b,T] h = .ok (.bl q) (h++r1)/\iX [.ref 0,.fl [.int a,.int b],.tup [.str x,.str y],T] (h++r1) = .ok (.bl q) (h++r1++r2):=by
 have eqb:∀ {p q:Bool} {P:Prop},(p=true ↔ P)->(q=true ↔ P)->p=q:=fun {p q P} u v=>by
  cases p with
  | true=>exact (v.mpr (u.mp rfl)).symm
  | false =>
   cases q with
   | false=>rfl
   | true=>exact absurd (u.mpr (v.mp rfl)) (by decide)
 rcases Aq (ps:=ps) xs al with ⟨its,rfl,oi⟩ | ⟨its,v,rest,rfl,oi,od⟩
 ·rw [K4] at hl
  cases f with
  | al =>
   obtain ⟨r1,q,f1,k1⟩:=uO S g A B sr.i oi
   obtain ⟨r2,q2,f2,k2⟩:=Iu (P:=.tup [.str x,.str y]) (S.app r1) g A B (sr.mono fun i hi=>KA hi) oi hl
   exact ⟨q,r1,r2,f1,by rw [eqb k1 k2];exact f2⟩
  | ap c d =>
   obtain ⟨r1,q,f1,k1⟩:=uP (c:=c) (d:=d) S g A B sr.i oi
   obtain ⟨r2,q2,f2,k2⟩:=Iw (c:=c) (d:=d) (S.app r1) g A B lx (sr.mono fun i hi=>KA hi) oi hl
   exact ⟨q,r1,r2,f1,by rw [eqb k1 k2];exact f2⟩
 ·obtain ⟨k,i0⟩:=f.i0
  have l2:its.length<=10000:=by
   rw [KH,K4] at hl
   lia
  obtain ⟨r1,f1⟩:=Ik S g A B sr oi od f.i1
  obtain ⟨r2,f2⟩:=Ir (a:=a) (b:=b) (P:=.tup [.str x,.str y]) (S.app r1) g (sr.mono fun i hi=>KA hi) oi od l2 i0 f.i1
  exact ⟨false,r1,r2,f1,f2⟩
theorem IF {L:Nat} {h:AH} {ps:List Pc} {V T:AV} (z:Zq L h ps) (f:Form V T):∃ (T':AV) (h':AH),jY [.ref L,T] h = .ok T' h'/\Form V T'/\Zq L h' ps/\KpL L h h' := by
 obtain ⟨k,h1,hk,t,z1,k1,_⟩:=z.take2 8 (by decide) (by decide)
 replace t:cM [.ref L,.int 8] h = .ok (.int k) h1:=t
 have i1:=f.i1 h1
 have e0:aC (.int k) (.int 0) h1 = .ok (.bl (decide (k=0))) h1:=dc k 0 h1
 have e1:aC (.int k) (.int 1) h1 = .ok (.bl (decide (k=1))) h1:=dc k 1 h1
 have e2:aC (.int k) (.int 2) h1 = .ok (.bl (decide (k=2))) h1:=dc k 2 h1
 have l3:bz (.int k) (.int 3) h1 = .ok (.bl (decide ((k:Int)<3))) h1:=rfl
 have c1:=lS (x := "ab") (a:=k) h1
 have t22:aC (.int 2) (.int 2) h1 = .ok (.bl true) h1:=by simp
 have t24:aC (.int 2) (.int 4) h1 = .ok (.bl false) h1:=by simp
 have t42:aC (.int 4) (.int 2) h1 = .ok (.bl false) h1:=by simp
 have t44:aC (.int 4) (.int 4) h1 = .ok (.bl true) h1:=by simp
 by_cases q0:k=0
 ·rw [KQ q0] at e0
  refine ⟨_,h1,?_,.al,z1,k1⟩
  clear z z1 k1
  generalize (k:Int)=KK at *
  simp [jY,t,e0,i1,-aC,-au]
 rw [KD q0] at e0
 cases f with
 | al =>
  have ln:ax [.tup [.str "alike",V]] h1 = .ok (.int 2) h1:=rfl
  by_cases q3:(k:Int)<3
  ·rw [KQ q3] at l3
   refine ⟨_,h1,?_,.ap "" (bP "ab" k),z1,k1⟩
   clear z z1 k1
   generalize bP "ab" k=TK at *
   generalize AV.tup [.str "alike",V]=TT at *
   generalize (k:Int)=KK at *
   simp [jY,t,e0,i1,ln,t22,l3,c1,-aC,-au,-ax,-bz,-bI]
  ·rw [KD q3] at l3
   refine ⟨_,h1,?_,.al,z1,k1⟩
   clear z z1 k1
   generalize AV.tup [.str "alike",V]=TT at *
   generalize (k:Int)=KK at *
   simp [jY,t,e0,i1,ln,t22,t24,l3,-aC,-au,-ax,-bz,-bI]
 | ap c d =>
  have ln:ax [.tup [.str "apart",V,.str c,.str d]] h1 = .ok (.int 4) h1:=rfl
  have j2:au (.tup [.str "apart",V,.str c,.str d]) (.int 2) h1 = .ok (.str c) h1:=rfl
  have j3:au (.tup [.str "apart",V,.str c,.str d]) (.int 3) h1 = .ok (.str d) h1:=rfl
  by_cases q1:k=1
  ·rw [KQ q1] at e1
   refine ⟨_,h1,?_,.ap d c,z1,k1⟩
   clear z z1 k1
   generalize AV.tup [.str "apart",V,.str c,.str d]=TT at *
   generalize (k:Int)=KK at *
   simp [jY,t,e0,i1,ln,t42,t44,e1,j2,j3,-aC,-au,-ax,-bz,-bI]
  ·rw [KD q1] at e1
   by_cases q2:k=2
   ·rw [KQ q2] at e2
    refine ⟨_,h1,?_,.ap c "a",z1,k1⟩
    clear z z1 k1
    generalize AV.tup [.str "apart",V,.str c,.str d]=TT at *
    generalize (k:Int)=KK at *
    simp [jY,t,e0,i1,ln,t42,t44,e1,e2,j2,j3,-aC,-au,-ax,-bz,-bI]
   ·rw [KD q2] at e2
    refine ⟨_,h1,?_,.ap c d,z1,k1⟩
    clear z z1 k1
    generalize AV.tup [.str "apart",V,.str c,.str d]=TT at *
    generalize (k:Int)=KK at *
    simp [jY,t,e0,i1,ln,t42,t44,e1,e2,j2,j3,-aC,-au,-ax,-bz,-bI]
end Sk
namespace Sk
open PySem PySem.Spec L2 Sm
abbrev iy (sc:AV) (o2:Option AV) (o3 o4 o5 o6 o7 o8 o9 o10 o11 o12 o13:Option AV):En:=[some sc,some (.ref 0),o2,o3,o4,o5,o6,o7,o8,o9,o10,o11,o12,o13]
abbrev eT (sc:AV) (k L:Nat) (x y:Str) (a b:Nat) (told:AV) (n:Nat) (o8 o9 o10 o11 o12 o13:Option AV):En:=iy sc (some (.int k)) (some (.ref L)) (some (.tup [.str x,.str y])) (some (.fl [.int a,.int b])) (some told) (some (.int n)) o8 o9 o10 o11 o12 o13
theorem IG {L k a b n:Nat} {h:AH} {ps:List Pc} {sc told:AV} {x y:Str} {its:List Un} {o8 o10 o11 o12 o13:Option AV} (z:Zq L h ps) (oi:∀ i∈its,OkI ps i) (li:its.length<=100) (lp:ps.length<=1000000) :
  ∃ (V:AV) (w:Option Nat) (xs:List AV) (o10':Option AV) (h':AH),bp (fN (aG cM (aj (ae 3) (aj (af (.int 3)) ag)))) (.nm 10) kz (eT sc k L x y a b told n o8 (some (.fl (its.map uv))) o10 o11 o12 o13) h = .nx (eT sc k L x y a b told n o8 (some V) o10' o11 o12 o13) h'/\Zq L h' ps/\KpL L h h'/\SrcA h' xs V w/\V ≠ .ref L/\(∀ v∈xs,dq v)/\xs.length<=10000:=by
 obtain ⟨m,h1,hm,t,z1,k1,_⟩:=z.take2 3 (by decide) (by decide)
 replace t:cM [.ref L,.int 3] h = .ok (.int m) h1:=t
 have al0:∀ v∈its.map uv,dq v:=fun v hv=>by
  obtain ⟨i,hi,rfl⟩:=MD.mp hv
  cases oi i hi with
  | n T=>exact .int _
  | s sh=>exact .str _ (KN (fS sh).2.1 (by decide))
 obtain ⟨e',h',r1,r2⟩:=j5 (w:=none) (all:=dh 0 m) (t:=.nm 10) (b:=kz) (xs:=dh 0 m) (en:=eT sc k L x y a b told n o8 (some (.fl (its.map uv))) o10 o11 o12 o13) (h:=h1)
  (fun j en hh=>j<=2->∃ (V:AV) (w:Option Nat) (xs:List AV) (o10':Option AV),en=eT sc k L x y a b told n o8 (some V) o10' o11 o12 o13/\Zq L hh ps/\KpL L h hh/\SrcA hh xs V w/\V ≠ .ref L/\(∀ v∈xs,dq v)/\(j=0->xs.length<=100)/\(j=1->xs.length<=801)/\xs.length<=10000)
  (fun _=>⟨.fl (its.map uv),none,its.map uv,o10,rfl,z1,k1,.fl,(fun q=>by cases q),al0,fun _=>by rw [K4];exact li,fun q=>(by cases q),by rw [K4];lia⟩) (fun _ _ _ _=>rfl) (by
   intro j u en hh hu hp
   have jk:j<m:=by have:=(Kz.mp hu).1;rwa [j6] at this
   obtain ⟨V,w,xs,o10',rfl,z2,k2,s2,nl,al,l0,l1,l2⟩:=hp (by lia)
   have lx:xs.length<=801:=by
    rcases (by lia:j=0\/j=1) with q | q
    ·have:=l0 q;lia
    ·exact l1 q
   obtain ⟨V',w',xs',h3,ev,z3,k3,s3,nl3,al3,l3⟩:=ID z2 s2 nl al (by lia) lp
   have eb:kz (eT sc k L x y a b told n o8 (some V) (some u) o11 o12 o13) hh = .nx (eT sc k L x y a b told n o8 (some V') (some u) o11 o12 o13) h3:=by
    generalize AV.fl [.int a,.int b]=TX at *
    generalize AV.tup [.str x,.str y]=PX at *
    simp [kz,eT,iy,ev]
   show thn (kz (eT sc k L x y a b told n o8 (some V) (some u) o11 o12 o13) hh) _
   rw [eb]
   exact fun _=>⟨V',w',xs',some u,rfl,z3,k2.trans k3,s3,nl3,al3,fun q=>(by lia),fun q=>(by have:=l0 (by lia);lia),by lia⟩)
 rw [j6] at r2
 obtain ⟨V,w,xs,o10',rfl,z2,k2,s2,nl,al,_,_,l2⟩:=r2 (by lia)
 have it:fN (aG cM (aj (ae 3) (aj (af (.int 3)) ag))) (eT sc k L x y a b told n o8 (some (.fl (its.map uv))) o10 o11 o12 o13) h = .ok (dh 0 m,none) h1:=mI (by
  generalize its.map uv=IU at *
  simp [eT,iy,t]) (by lia)
 exact ⟨V,w,xs,o10',h',(gz (t:=.nm 10) (b:=kz) it).trans r1,z2,k2,s2,nl,al,l2⟩
theorem IH {a b c d:AV} (h:AH):aw (.tup [a,b]) (.tup [c,d]) h = .ok (.tup [a,b,c,d]) h:=by
 have:([a,b]≠[])/\([a,b]:List AV).length+([c,d]:List AV).length<=sizeLine:=⟨fun z=>(by cases z),by show (4:Nat)<=_;decide⟩
 simp only [aw]
 rw [KS this]
 rfl
theorem II {a b:AV} (h:AH):aw (.tup [a,b]) (.tup []) h = .ok (.tup [a,b]) h:=by
 have:([a,b]≠[])/\([a,b]:List AV).length+([]:List AV).length<=sizeLine:=⟨fun z=>(by cases z),by show (2:Nat)<=_;decide⟩
 simp only [aw]
 rw [KS this]
 rfl
theorem Form.with {W V T:AV} (f:Form W T):∃ (u T2 T':AV),(∀ hh,au T (.int 0) hh = .ok u hh)/\(∀ hh,bI T (some 2) none hh = .ok T2 hh)/\(∀ hh,aw (.tup [u,V]) T2 hh = .ok T' hh)/\Form V T' := by
 cases f with
 | al=>exact ⟨_,_,_,fun _=>rfl,fun _=>rfl,fun hh=>II hh,.al⟩
 | ap c d=>exact ⟨_,_,_,fun _=>rfl,fun _=>rfl,fun hh=>IH hh,.ap c d⟩
theorem IJ {L k a b n I:Nat} {h:AH} {ps:List Pc} {sc told:AV} {x y:Str} {its:List Un} {o8 o9 o10 o11 o12 o13:Option AV} (z:Zq L h ps) (A:TxZ ps a x) (B:TxZ ps b y) (lx:x.length<=100) (eI:h[I]? = some (.lst (its.map uv))) (IL:I≠L) (oi:∀ i∈its,OkI ps i) (li:its.length<=100) (lp:ps.length<=1000000) (f:Form (.ref I) told) :
  ∃ (c9 c10 c11 c12 c13:Option AV) (h':AH),lK (eT sc k L x y a b told n o8 o9 o10 o11 o12 o13) h = .nx (eT sc k L x y a b told n o8 c9 c10 c11 c12 c13) h'/\Zq L h' ps/\h'[I]? = some (.lst (its.map uv)):=by
 have i1:=f.i1 h
 have li1:gI [.ref I] h = .ok (.fl (its.map uv)) h:=by simp only [gI,eI]
 obtain ⟨V,w,xs,o10',h1,lp1,z1,k1,s1,nl,al,l1⟩:=IG (k:=k) (a:=a) (b:=b) (n:=n) (sc:=sc) (told:=told) (x:=x) (y:=y) (o8:=o8) (o10:=o10) (o11:=o11) (o12:=o12) (o13:=o13) z oi li lp
 obtain ⟨u,T2,T',j0,j2,ja,fT⟩:=f.with (V:=V)
 obtain ⟨T3,h2,ft,fT3,z2,k2⟩:=IF z1 fT
 have s2:=s1.keep nl k2
 have ls2:=s2.list
 obtain ⟨q,r1,r2,f1,f2⟩:=ve z2.sh z2.gd A B lx s2 al l1 fT3
 have s3:=(s2.mono (hh:=h2++r1) fun i hi=>KA hi).mono (hh:=h2++r1++r2) fun i hi=>KA hi
 have ne3:=s3.ne al
 have nq:aZ (.bl q) (.bl q) (h2++r1++r2) = .ok (.bl false) (h2++r1++r2):=by cases q<;>simp [bW,PyData.eqv]
 have kk:KpL L h (h2++r1++r2):=((k1.trans k2).trans (KpL.app L h2 r1)).trans (KpL.app L _ r2)
 obtain ⟨p0,p1,_,_⟩:=gA (u1:=.int a) (u2:=.int b) h2
 refine ⟨some V,o10',some T3,some (.fl xs),some (.bl q),h2++r1++r2,?_,(z2.app r1).app r2,(kk.kp I (bO eI) IL).trans eI⟩
 have j0' := j0 h1
 have j2' := j2 h1
 have ja' := ja h1
 clear z z1 z2 A B s1 s2 s3 k1 k2 kk al oi eI fT fT3 f j0 j2 ja
 simp only [eT,iy] at lp1 ⊢
 unfold lK
 generalize bp (fN (aG cM (aj (ae 3) (aj (af (.int 3)) ag)))) (.nm 10) kz=FF at *
 generalize AV.tup [.str x,.str y]=PX at *
 generalize AV.fl [.int a,.int b]=TX at *
 generalize h2++r1++r2=H4 at *
 generalize h2++r1=H3 at *
 generalize its.map uv=IU at *
 generalize AV.fl xs=XX at *
 cases q<;>simp [i1,li1,lp1,j0',j2',ja',ft,ls2,p0,p1,f1,f2,nq,ne3,-au,-gI,-bI,-aw,-aZ]
end Sk
namespace Sk
open PySem PySem.Spec L2 Sm
theorem IK {L:Nat} {h:AH} {ps:List Pc} {x y:Str} {en:En} (z:Zq L h ps) (px:bJ x=true) (py:bJ y=true) (lx:x.length<=60) (ly:y.length<=60) (hz:ps.length<=800000) (e1:en[1]? = some (some (.ref 0))) (e3:en[3]? = some (some (.ref L))) (e4:en[4]? = some (some (.tup [.str x,.str y]))) :
  ∃ (a b:Nat) (h':AH) (ps':List Pc),dC [1,3] (bc (ae 4)) cq (aG mH (aj (ae 1) (aj (ae 0) (aj (ae 2) ag)))) en h = .ok (.fl [.int a,.int b]) h'/\Zq L h' ps'/\TxZ ps' a x/\TxZ ps' b y/\ps'.length<=ps.length+20000:=by
 obtain ⟨a,h1,ps1,f1,z1,p1,A,l1⟩:=Ap z px lx (by lia)
 obtain ⟨b,h2,ps2,f2,z2,p2,B,l2⟩:=Ap z1 py ly (by lia)
 have sz0:(0:Nat)<sizeLine:=by decide
 have sz1:(1:Nat)<sizeLine:=by decide
 refine ⟨a,b,h2,ps2,?_,z2,A.pre p2,B,by lia⟩
 simp [dC,eP,e1,e3,e4,f1,f2,sz0,sz1]
theorem AC {ps:List Pc} (g:Good ps) {its s:List Un} {a:Nat} {x:Str} (A:TxZ ps a x) (oi:∀ i∈its,OkI ps i) (e:bf ps its (zs a)=some s):its.length<=x.length:=by
 obtain ⟨ua,ra⟩:=lY A
 obtain ⟨q,_⟩:=lW g its ua e
 rw [ra] at q
 have:=congrArg List.length q
 rw [<- bB,KH] at this
 have:=oE oi
 lia
theorem IM {k:Nat} {h:AH} {ps:List Pc} {sc:AV} {o3 o4 o5 o6 o7 o8 o9 o10 o11 o12 o13:Option AV} (ns:List Int) (hl:ns.length<=63) (esc:sc = .fl (ns.map AV.int)) (S:ShelfAt h 0 ps) (g:Good ps) (hz:ps.length<=800000) (hk:k<=10) :
  ∃ (c3 c4 c5 c6 c7 c8 c9 c10 c11 c12 c13:Option AV) (h':AH) (ps':List Pc),lM (iy sc (some (.int k)) o3 o4 o5 o6 o7 o8 o9 o10 o11 o12 o13) h = .nx (iy sc (some (.int k)) c3 c4 c5 c6 c7 c8 c9 c10 c11 c12 c13) h'/\ShelfAt h' 0 ps'/\Good ps'/\ps'.length<=ps.length+20000:=by
 obtain ⟨N,s0⟩:=HP ns hl k hk h
 rw [<- esc] at s0
 have hW:0+8<h.length:=bO S.h8
 have z0:Zq h.length (h++[.lst [.int N]]) ps:=⟨S.app _,g,by lia,N,by simp⟩
 obtain ⟨L,eL⟩:∃ L,L=h.length:=⟨_,rfl⟩
 rw [<- eL] at s0 z0
 obtain ⟨h0,eh0⟩:∃ h0,h0=h++[AO.lst [.int N]]:=⟨_,rfl⟩
 rw [<- eh0] at s0 z0
 obtain ⟨x,y,h1,f1,z1,px,py,lx,ly⟩:=Ij z0
 obtain ⟨a,b,h2,ps2,cp,z2,A,B,l2⟩:=IK (en:=[some sc,some (.ref 0),some (.int k),some (.ref L),some (.tup [.str x,.str y]),o5,o6,o7,o8,o9,o10,o11,o12,o13]) z1 px py (by lia) (by lia) hz rfl rfl rfl
 obtain ⟨r,its,I,Ih,eI,oi,q⟩:=HD z2.sh z2.gd A B (by lia) (by lia)
 have z3:=z2.app r
 have Lh:L<h2.length:=by obtain ⟨_,e⟩:=z2.ro;exact bO e
 obtain ⟨h3,eh3⟩:∃ h3,h3=h2++r:=⟨_,rfl⟩
 rw [<- eh3] at eI z3 q
 obtain ⟨told,f3,fo,li,td⟩:∃ told,iT [.ref 0,.int a,.int b] h2 = .ok told h3/\Form (.ref I) told/\its.length<=100/\(∀ hh,ShelfAt hh 0 ps2->hh[I]? = some (.lst (its.map uv))->∃ r,dY [.ref 0,.int a,.int b,told] hh = .ok (.bl true) (hh++r)):=by
  rcases q with ⟨f,l1,l2⟩ | ⟨c,d,f,ap⟩
  ·refine ⟨_,f,.al,by have:=AC z2.gd A oi l1;lia,fun hh S' e' => ?_⟩
   obtain ⟨r2,v2,td2,tq2⟩:=uO S' z2.gd A B (.ref e') oi
   have w2:v2=true:=tq2.mpr ⟨l1,l2⟩
   subst w2
   exact ⟨r2,td2⟩
  ·refine ⟨_,f,.ap c d,by obtain ⟨s1,_,q1,_⟩:=ap;have:=AC z2.gd A oi q1;lia,fun hh S' e' => ?_⟩
   obtain ⟨r2,v2,td2,tq2⟩:=uP (c:=c) (d:=d) S' z2.gd A B (.ref e') oi
   have w2:v2=true:=tq2.mpr ap
   subst w2
   exact ⟨r2,td2⟩
 have fm:=lN z3.sh
 have ob:=z3.sh.ob
 obtain ⟨e',h',r1,r2⟩:=j5 (w:=none) (all:=dh 0 8) (t:=.nm 8) (b:=lK) (xs:=dh 0 8) (en:=eT sc k L x y a b told ps2.length o8 o9 o10 o11 o12 o13) (h:=h3)
  (fun j en hh=>∃ (c8 c9 c10 c11 c12 c13:Option AV),en=eT sc k L x y a b told ps2.length c8 c9 c10 c11 c12 c13/\Zq L hh ps2/\hh[I]? = some (.lst (its.map uv)))
  ⟨o8,o9,o10,o11,o12,o13,rfl,z3,eI⟩ (fun _ _ _ _=>rfl) (by
   rintro j u en hh hu ⟨c8,c9,c10,c11,c12,c13,rfl,zz,eI'⟩
   obtain ⟨d9,d10,d11,d12,d13,h4,ev,z4,eI4⟩:=IJ (k:=k) (n:=ps2.length) (sc:=sc) (o8:=some u) (o9:=c9) (o10:=c10) (o11:=c11) (o12:=c12) (o13:=c13) zz A B (by lia) eI' (by lia) oi li (by lia) fo
   show thn (lK (eT sc k L x y a b told ps2.length (some u) c9 c10 c11 c12 c13) hh) _
   rw [ev]
   exact ⟨some u,d9,d10,d11,d12,d13,rfl,z4,eI4⟩)
 obtain ⟨c8,c9,c10,c11,c12,c13,rfl,z5,eI5⟩:=r2
 have lp:=(gz (t:=.nm 8) (b:=lK) (mI (a:=af (.int 8)) (en:=eT sc k L x y a b told ps2.length o8 o9 o10 o11 o12 o13) (h:=h3) rfl (by decide))).trans r1
 obtain ⟨r6,td6⟩:=td h' z5.sh eI5
 have z6:=z5.app r6
 have fm6:=lN z6.sh
 have ob6:=z6.sh.ob
 have nb:nI (.bl true) (.bl true) (h' ++ r6) = .ok (.bl false) (h' ++ r6):=rfl
 have nm:aZ (.int ps2.length) (.int ps2.length) (h' ++ r6) = .ok (.bl false) (h' ++ r6):=by simp
 have p:∀ hh,au (.fl [.int a,.int b]) (.int 0) hh = .ok (.int a) hh/\au (.fl [.int a,.int b]) (.int 1) hh = .ok (.int b) hh:=fun _=>⟨rfl,rfl⟩
 obtain ⟨p0,p1⟩:=p h2
 obtain ⟨p2,p3⟩:=p h'
 refine ⟨some (.ref L),some (.tup [.str x,.str y]),some (.fl [.int a,.int b]),some told,some (.int ps2.length),c8,c9,c10,c11,c12,c13,h' ++ r6,ps2,?_,z6.sh,z6.gd,l2⟩
 clear S g z0 z1 z2 z3 z5 z6 A B eh0 eh3 eL esc td fo r1 q eI eI5 p
 simp only [eT,iy] at lp
 simp only [iy]
 unfold lM
 generalize dC [1,3] (bc (ae 4)) cq (aG mH (aj (ae 1) (aj (ae 0) (aj (ae 2) ag))))=CP at *
 generalize bp (fN (af (.int 8))) (.nm 8) lK=FF at *
 generalize AV.tup [.str x,.str y]=PX at *
 generalize AV.fl [.int a,.int b]=TX at *
 generalize h' ++ r6=H6 at *
 generalize (ps2.length:Int)=PN at *
 generalize (k:Int)=KK at *
 simp [s0,f1,cp,p0,p1,p2,p3,f3,ob,fm,lp,td6,nb,ob6,fm6,nm,-au,-aZ,-nI]
theorem law_true (ns:List Int) (hl:ns.length<=63):∃ h',sO [.fl (ns.map AV.int)] [] = .ok (.bl true) h' := by
 obtain ⟨sc,esc⟩:∃ sc,sc=AV.fl (ns.map AV.int):=⟨_,rfl⟩
 rw [<- esc]
 have mk:=GC [some sc,none,none,none,none,none,none,none,none,none,none,none,none,none] []
 have l0:([]:AH).length=0:=rfl
 rw [l0,L6] at mk
 have S0:ShelfAt (lO 0) 0 []:=by have:=GD [] [];simpa using this
 obtain ⟨e',h',r1,r2⟩:=j5 (w:=none) (all:=dh 0 4) (t:=.nm 2) (b:=lM) (xs:=dh 0 4) (en:=iy sc none none none none none none none none none none none none) (h:=lO 0)
  (fun j en hh=>j<=4->∃ (o2 o3 o4 o5 o6 o7 o8 o9 o10 o11 o12 o13:Option AV) (ps:List Pc),en=iy sc o2 o3 o4 o5 o6 o7 o8 o9 o10 o11 o12 o13/\ShelfAt hh 0 ps/\Good ps/\ps.length<=j*20000)
  (fun _=>⟨none,none,none,none,none,none,none,none,none,none,none,none,[],rfl,S0,.nil,KC _⟩) (fun _ _ _ _=>rfl) (by
   intro j u en hh hu hp
   have jk:j<4:=by have:=(Kz.mp hu).1;rwa [j6] at this
   obtain ⟨o2,o3,o4,o5,o6,o7,o8,o9,o10,o11,o12,o13,ps,rfl,S,g,l⟩:=hp (by lia)
   rw [sP,KS jk] at hu
   obtain rfl:u = .int ((0:Int)+j):=(Lj hu).symm
   have ej:((0:Int)+j)=(j:Nat):=by lia
   rw [ej]
   obtain ⟨c3,c4,c5,c6,c7,c8,c9,c10,c11,c12,c13,h2,ps2,ev,S2,g2,l2⟩:=IM (k:=j) (o3:=o3) (o4:=o4) (o5:=o5) (o6:=o6) (o7:=o7) (o8:=o8) (o9:=o9) (o10:=o10) (o11:=o11) (o12:=o12) (o13:=o13) ns hl esc S g (by lia) (by lia)
   show thn (lM (iy sc (some (.int (j:Nat))) o3 o4 o5 o6 o7 o8 o9 o10 o11 o12 o13) hh) _
   rw [ev]
   exact fun _=>⟨_,c3,c4,c5,c6,c7,c8,c9,c10,c11,c12,c13,ps2,rfl,S2,g2,by lia⟩)
 rw [j6] at r2
 obtain ⟨o2,o3,o4,o5,o6,o7,o8,o9,o10,o11,o12,o13,ps,rfl,S,g,l⟩:=r2 (KC _)
 have fo:=(gz (t:=.nm 2) (b:=lM) (mI (a:=af (.int 4)) (en:=iy sc none none none none none none none none none none none none) (h:=lO 0) rfl (by decide))).trans r1
 have Z:TxZ ps 0 "" := .inl ⟨rfl,rfl⟩
 obtain ⟨q1,v1,t1,k1⟩:=uO S g Z Z (.fl:SrcI h' [] _ none) (fun i hi=>(by cases hi))
 have w1:v1=true:=k1.mpr ⟨rfl,rfl⟩
 subst w1
 obtain ⟨q2,v2,t2,k2⟩:=uP (c := "") (d := "") (S.app q1) g Z Z (.fl:SrcI (h' ++ q1) [] _ none) (fun i hi=>(by cases hi))
 have w2:v2=false:=by
  cases v2 with
  | false=>rfl
  | true =>
   obtain ⟨_,_,_,_,_,_,n⟩:=k2.mp rfl
   exact absurd rfl n
 subst w2
 refine ⟨h' ++ q1++q2,?_⟩
 replace t1:dY [.ref 0,.int 0,.int 0,.tup [.str "alike",.fl []]] h' = .ok (.bl true) (h' ++ q1):=t1
 replace t2:dY [.ref 0,.int 0,.int 0,.tup [.str "apart",.fl [],.str "",.str ""]] (h' ++ q1) = .ok (.bl false) (h' ++ q1++q2):=t2
 clear S g S0 k1 k2 Z esc
 unfold sO
 generalize bp (fN (af (.int 4))) (.nm 2) lM=FF at *
 generalize pD 0 8 nK ag=MK at *
 simp only [iy] at fo
 generalize lO 0=HN at *
 generalize h' ++ q1++q2=H3 at *
 generalize h' ++ q1=H2 at *
 simp [mk,fo,t1,t2]
end Sk
namespace Sk
open PySem PySem.Spec L2 Sm
theorem qC:bootBuiltins "list" = some (.type "list"):=by decide +kernel
def bE (i:Nat):Stmt:=PySem.Challenge.pw_skeinwood_k63_told_stands_just.main.body.getD i (.Pass ⟨0,0,0,0⟩)
abbrev vf:Stmt:=gq (bE 34) 0
abbrev vg:Stmt:=bE 48
abbrev qD:Stmt:=bE 49
abbrev vh:Stmt:=bE 50
abbrev vi:Stmt:=bE 51
abbrev vj:Stmt:=bE 58
abbrev vk:Stmt:=bE 10
abbrev vm:Stmt:=gq (bE 34) 11
abbrev vo:Stmt:=gq (bE 34) 12
abbrev vp:Stmt:=gq (bE 34) 13
abbrev vq:Stmt:=bE 17
abbrev vt:Stmt:=gq (bE 34) 5
abbrev vv:Stmt:=bE 25
abbrev vw:Stmt:=gq (bE 34) 4
abbrev vx:Stmt:=bE 22
abbrev vy:Stmt:=bE 21
abbrev vz:Stmt:=bE 27
abbrev vA:Stmt:=bE 26
abbrev vB:Stmt:=bE 24
abbrev vC:Stmt:=bE 23
abbrev vD:Stmt:=bE 31
abbrev vE:Stmt:=bE 29
abbrev vF:Stmt:=gq (bE 34) 3
abbrev vG:Stmt:=bE 19
abbrev vH:Stmt:=bE 12
abbrev qE:Stmt:=bE 11
abbrev vI:Stmt:=bE 13
abbrev vJ:Stmt:=bE 20
abbrev vK:Stmt:=bE 18
abbrev vL:Stmt:=bE 16
abbrev vM:Stmt:=bE 30
abbrev vN:Stmt:=bE 38
abbrev vO:Stmt:=gq (bE 34) 10
abbrev vP:Stmt:=gq (bE 34) 9
abbrev vQ:Stmt:=bE 39
abbrev vR:Stmt:=gq (bE 34) 14
abbrev vS:Stmt:=gq (bE 34) 17
abbrev vT:Stmt:=gq (bE 34) 16
abbrev vU:Stmt:=gq (bE 34) 2
abbrev vV:Stmt:=bE 44
abbrev vW:Stmt:=gq (bE 34) 8
abbrev vX:Stmt:=bE 41
abbrev vY:Stmt:=bE 45
abbrev vZ:Stmt:=bE 42
abbrev v7:Stmt:=bE 40
abbrev v8:Stmt:=bE 14
abbrev v9:Stmt:=gq (bE 34) 15
abbrev wa:Stmt:=gq (bE 34) 1
abbrev wb:Stmt:=bE 43
abbrev wc:Stmt:=bE 36
abbrev wd:Stmt:=bE 46
abbrev qF:Stmt:=bE 37
abbrev we:Stmt:=bE 52
abbrev wg:Stmt:=bE 61
abbrev wj:Stmt:=bE 53
abbrev wk:Stmt:=bE 60
abbrev qG:Stmt:=bE 55
abbrev wm:Stmt:=bE 56
abbrev wo:Stmt:=bE 57
abbrev wq:Stmt:=bE 54
abbrev qH:Stmt:=bE 59
abbrev oI:Stmt:=bE 62
def cK:Nat->List Str
 | 0=>["pieces", "numbers", "sign_counts", "end_counts", "leaf_counts", "heights", "first_leaves", "last_leaves"]
 | _=>[]
theorem IP:∀ c,(cK c).Nodup
 | 0=>by decide +kernel
 | _+1=>MY
theorem IQ:∀ c,(cK c).length<=500
 | 0=>by decide +kernel
 | _+1=>Lc _
abbrev bx (K:PySem.W.Frag) (cls exc:Nat->Option Addr):Tb:=⟨K,cls,exc,cK,IP,IQ⟩
structure kI (P:Program) (w:World) (K:PySem.W.Frag) (cls exc:Nat->Option Addr) (mg:Str->Option Value) (base:Heap):Prop where
 b_abs:mg "abs" = none
 b_all:mg "all" = none
 b_bool:mg "bool" = none
 b_enumerate:mg "enumerate" = none
 b_int:mg "int" = none
 b_isinstance:mg "isinstance" = none
 b_len:mg "len" = none
 b_list:mg "list" = none
 b_max:mg "max" = none
 b_min:mg "min" = none
 b_range:mg "range" = none
 b_str:mg "str" = none
 b_sum:mg "sum" = none
 c_LEAF_SIGNS:∃ t,mg "LEAF_SIGNS" = some (.int 8 t)
 c_MOST_PLAIN:∃ t,mg "MOST_PLAIN" = some (.int 10000 t)
 c_MOST_SIGNS:∃ t,mg "MOST_SIGNS" = some (.int 1000000000000000000 t)
 cf_Shelf:CF (bx K cls exc) 0
 x_NoText:GX (bx K cls exc) mg base 1 "NoText"
 x_NoPiece:GX (bx K cls exc) mg base 2 "NoPiece"
 x_Loose:GX (bx K cls exc) mg base 3 "Loose"
 x_Unlevel:GX (bx K cls exc) mg base 4 "Unlevel"
 x_TooLong:GX (bx K cls exc) mg base 5 "TooLong"
 d_Shelf_init:DI K cls mg 0 "Shelf" "Shelf.__init__" vf ["self"]
 d_law_mixed:DG K mg "_law_mixed" vg ["cell", "k"]
 d_law_stream:DG K mg "_law_stream" qD ["script", "k"]
 d_law_take:DG K mg "_law_take" vh ["stream", "many"]
 d_law_plain:DG K mg "_law_plain" vi ["stream", "most"]
 d_law_pair:DG K mg "_law_pair" vj ["stream", "most"]
 d_is_whole:DG K mg "is_whole" vk ["thing"]
 d_Shelf_has_piece:gb K cls 0 "has_piece" "Shelf.has_piece" vm ["self", "number"]
 d_Shelf_check_piece:gb K cls 0 "check_piece" "Shelf.check_piece" vo ["self", "number"]
 d_Shelf_check_text:gb K cls 0 "check_text" "Shelf.check_text" vp ["self", "text"]
 d_whole_left:DG K mg "whole_left" vq ["shelf", "text"]
 d_Shelf_signs:gb K cls 0 "signs" "Shelf.signs" vt ["self", "text"]
 d_size_of:DG K mg "size_of" vv ["shelf", "thing"]
 d_Shelf_piece:gb K cls 0 "piece" "Shelf.piece" vw ["self", "number"]
 d_opens_fork:DG K mg "opens_fork" vx ["shelf", "left", "first"]
 d_next_signs:DG K mg "next_signs" vy ["shelf", "left"]
 d_puts_back:DG K mg "puts_back" vz ["left", "signs"]
 d_common_signs:DG K mg "common_signs" vA ["shelf", "left", "other_left"]
 d_common_item:DG K mg "common_item" vB ["shelf", "left", "other_left"]
 d_common_items:DG K mg "common_items" vC ["shelf", "left", "other_left"]
 d_next_sign:DG K mg "next_sign" vD ["shelf", "left"]
 d_held_together:DG K mg "held_together" vE ["shelf", "one", "other"]
 d_Shelf_many:gb K cls 0 "many" "Shelf.many" vF ["self"]
 d_takes_piece:DG K mg "takes_piece" vG ["shelf", "left", "number"]
 d_is_plain_sign:DG K mg "is_plain_sign" vH ["sign"]
 d_is_plain:DG K mg "is_plain" qE ["thing"]
 d_is_short:DG K mg "is_short" vI ["thing"]
 d_takes_plain:DG K mg "takes_plain" vJ ["shelf", "left", "plain"]
 d_takes_item:DG K mg "takes_item" vK ["shelf", "left", "item"]
 d_left_behind:DG K mg "left_behind" vL ["shelf", "text", "items"]
 d_told_stands:DG K mg "told_stands" vM ["shelf", "one", "other", "told"]
 d_check_length:DG K mg "check_length" vN ["signs"]
 d_Shelf_last_leaf:gb K cls 0 "last_leaf" "Shelf.last_leaf" vO ["self", "text"]
 d_Shelf_first_leaf:gb K cls 0 "first_leaf" "Shelf.first_leaf" vP ["self", "text"]
 d_are_close:DG K mg "are_close" vQ ["shelf", "one", "other"]
 d_Shelf_check_fork:gb K cls 0 "check_fork" "Shelf.check_fork" vR ["self", "one", "other"]
 d_Shelf_lay:gb K cls 0 "lay" "Shelf.lay" vS ["self", "made"]
 d_Shelf_lay_fork:gb K cls 0 "lay_fork" "Shelf.lay_fork" vT ["self", "made"]
 d_Shelf_fork:gb K cls 0 "fork" "Shelf.fork" vU ["self", "one", "other"]
 d_with_last:DG K mg "with_last" vV ["shelf", "text", "leaf"]
 d_Shelf_height:gb K cls 0 "height" "Shelf.height" vW ["self", "text"]
 d_turned_left:DG K mg "turned_left" vX ["shelf", "one", "other"]
 d_without_first:DG K mg "without_first" vY ["shelf", "text"]
 d_turned_right:DG K mg "turned_right" vZ ["shelf", "one", "other"]
 d_linked:DG K mg "linked" v7 ["shelf", "one", "other"]
 d_ends_in:DG K mg "ends_in" v8 ["plain"]
 d_Shelf_lay_leaf:gb K cls 0 "lay_leaf" "Shelf.lay_leaf" v9 ["self", "made"]
 d_Shelf_leaf:gb K cls 0 "leaf" "Shelf.leaf" wa ["self", "plain"]
 d_welded:DG K mg "welded" wb ["shelf", "one", "other"]
 d_joined:DG K mg "joined" wc ["shelf", "one", "other"]
 d_halved:DG K mg "halved" wd ["shelf", "leaves"]
 d_built:DG K mg "built" qF ["shelf", "plain"]
 d_law_grown:DG K mg "_law_grown" we ["shelf", "plain", "stream"]
 d_law_told:DG K mg "_law_told" wg ["stream", "told"]
 d_law_whole:DG K mg "_law_whole" wj ["found"]
 d_law_bent:DG K mg "_law_bent" wk ["stream", "shelf", "items"]
 d_law_flat:DG K mg "_law_flat" qG ["shelf", "items"]
 d_law_match:DG K mg "_law_match" wm ["shelf", "text", "flat", "at"]
 d_law_spelt:DG K mg "_law_spelt" wo ["shelf", "text", "items"]
 d_law_reads:DG K mg "_law_reads" wq ["shelf", "text"]
 d_law_due:DG K mg "_law_due" qH ["shelf", "texts", "plains", "told"]
 d_law:DG K mg "law" oI ["script"]
theorem IS:aq ["self"] ["self"] (aS vf):=bD
theorem IT:aq ["cell", "k", "one"] ["cell", "k"] (aS vg):=bD
theorem IV:aq ["script", "k", "cell", "j", "found"] ["script", "k"] (aS qD):=bD
theorem IW:aq ["stream", "many", "digit"] ["stream", "many"] (aS vh):=bD
theorem IX:aq ["stream", "most", "kinds", "found", "k"] ["stream", "most"] (aS vi):=bD
theorem IY:aq ["stream", "most", "one", "kind", "at"] ["stream", "most"] (aS vj):=bD
theorem IZ:aq ["thing"] ["thing"] (aS vk):=bD
theorem I0:aq ["self", "number"] ["self", "number"] (aS vm):=bD
theorem Ja:aq ["self", "number"] ["self", "number"] (aS vo):=bD
theorem Jb:aq ["self", "text"] ["self", "text"] (aS vp):=bD
theorem Jc:aq ["shelf", "text"] ["shelf", "text"] (aS vq):=bD
theorem Jd:aq ["self", "text"] ["self", "text"] (aS vt):=bD
theorem Je:aq ["shelf", "thing"] ["shelf", "thing"] (aS vv):=bD
theorem Jf:aq ["self", "number"] ["self", "number"] (aS vw):=bD
theorem Jg:aq ["shelf", "left", "first", "piece"] ["shelf", "left", "first"] (aS vx):=bD
theorem Jh:aq ["shelf", "left", "first"] ["shelf", "left"] (aS vy):=bD
theorem Ji:aq ["left", "signs"] ["left", "signs"] (aS vz):=bD
theorem Jj:aq ["shelf", "left", "other_left", "one", "other", "many"] ["shelf", "left", "other_left"] (aS vA):=bD
theorem Jk:aq ["shelf", "left", "other_left", "shorter", "longer", "first"] ["shelf", "left", "other_left"] (aS vB):=bD
theorem Jl:aq ["shelf", "left", "other_left", "items", "item"] ["shelf", "left", "other_left"] (aS vC):=bD
theorem Jm:aq ["shelf", "left"] ["shelf", "left"] (aS vD):=bD
theorem Jn:aq ["shelf", "one", "other", "longest", "left", "other_left", "items"] ["shelf", "one", "other"] (aS vE):=bD
theorem Jo:aq ["self"] ["self"] (aS vF):=bD
theorem Jp:aq ["shelf", "left", "number", "first"] ["shelf", "left", "number"] (aS vG):=bD
theorem Jq:aq ["sign"] ["sign"] (aS vH):=bD
theorem Jr:aq ["thing"] ["thing"] (aS qE):=bD
theorem Js:aq ["thing"] ["thing"] (aS vI):=bD
theorem Jt:aq ["shelf", "left", "plain", "rest", "signs", "both"] ["shelf", "left", "plain"] (aS vJ):=bD
theorem Ju:aq ["shelf", "left", "item"] ["shelf", "left", "item"] (aS vK):=bD
theorem Jv:aq ["shelf", "text", "items", "left", "item"] ["shelf", "text", "items"] (aS vL):=bD
theorem Jw:aq ["shelf", "one", "other", "told", "left", "other_left", "signs"] ["shelf", "one", "other", "told"] (aS vM):=bD
theorem Jx:aq ["signs"] ["signs"] (aS vN):=bD
theorem Jy:aq ["self", "text"] ["self", "text"] (aS vO):=bD
theorem Jz:aq ["self", "text"] ["self", "text"] (aS vP):=bD
theorem JA:aq ["shelf", "one", "other"] ["shelf", "one", "other"] (aS vQ):=bD
theorem JB:aq ["self", "one", "other", "seam"] ["self", "one", "other"] (aS vR):=bD
theorem JC:aq ["self", "made", "number"] ["self", "made"] (aS vS):=bD
theorem JD:aq ["self", "made", "one", "other"] ["self", "made"] (aS vT):=bD
theorem JE:aq ["self", "one", "other", "made"] ["self", "one", "other"] (aS vU):=bD
theorem AD:aq ["shelf", "text", "leaf", "piece"] ["shelf", "text", "leaf"] (aS vV):=bD
theorem JF:aq ["self", "text"] ["self", "text"] (aS vW):=bD
theorem JG:aq ["shelf", "one", "other", "piece", "near", "far", "inner"] ["shelf", "one", "other"] (aS vX):=bD
theorem AE:aq ["shelf", "text", "piece", "rest"] ["shelf", "text"] (aS vY):=bD
theorem JH:aq ["shelf", "one", "other", "piece", "far", "near", "inner"] ["shelf", "one", "other"] (aS vZ):=bD
theorem AF:aq ["shelf", "one", "other", "tilt", "piece"] ["shelf", "one", "other"] (aS v7):=bD
theorem JI:aq ["plain"] ["plain"] (aS v8):=bD
theorem JJ:aq ["self", "made", "number", "plain"] ["self", "made"] (aS v9):=bD
theorem JK:aq ["self", "plain", "made"] ["self", "plain"] (aS wa):=bD
theorem JL:aq ["shelf", "one", "other", "seam", "front", "back"] ["shelf", "one", "other"] (aS wb):=bD
theorem JM:aq ["shelf", "one", "other"] ["shelf", "one", "other"] (aS wc):=bD
theorem AG:aq ["shelf", "leaves", "middle"] ["shelf", "leaves"] (aS wd):=bD
theorem JN:aq ["shelf", "plain", "leaves"] ["shelf", "plain"] (aS qF):=bD
theorem JO:aq ["shelf", "plain", "stream", "found", "rest", "k", "at"] ["shelf", "plain", "stream"] (aS we):=bD
theorem JP:aq ["stream", "told", "kind"] ["stream", "told"] (aS wg):=bD
theorem JQ:aq ["found"] ["found"] (aS wj):=bD
theorem JR:aq ["stream", "shelf", "items", "kind", "at", "odd", "found", "item"] ["stream", "shelf", "items"] (aS wk):=bD
theorem JS:aq ["shelf", "items", "found", "item", "plain"] ["shelf", "items"] (aS qG):=bD
theorem AI:aq ["shelf", "text", "flat", "at", "piece", "k", "sign", "behind"] ["shelf", "text", "flat", "at"] (aS wm):=bD
theorem JT:aq ["shelf", "text", "items", "flat", "behind"] ["shelf", "text", "items"] (aS wo):=bD
theorem AJ:aq ["shelf", "text", "piece"] ["shelf", "text"] (aS wq):=bD
theorem JU:aq ["shelf", "texts", "plains", "told", "spelt", "many", "item", "ends"] ["shelf", "texts", "plains", "told"] (aS qH):=bD
theorem JV:aq ["script", "shelf", "k", "stream", "plains", "texts", "told", "many", "turn", "items", "bend", "asked", "kept", "found"] ["script"] (aS oI):=bD
section
variable {P:Program} {w:World} {K:PySem.W.Frag} {cls exc:Nat->Option Addr} {mg:Str->Option Value} {base:Heap} (Z:kI P w K cls exc mg base)
include Z
theorem JW:GK P w (bx K cls exc) mg base 1 0 "Shelf" nK:=gk Z.d_Shelf_init IS fun hr C hu nd =>
 (aE (km rfl Z.cf_Shelf (ai 0) (gU ar))
  (aE (km rfl Z.cf_Shelf (ai 0) E6)
  (aE (km rfl Z.cf_Shelf (ai 0) (gU (ak aD ar)))
  (aE (km rfl Z.cf_Shelf (ai 0) (gU (ak aD ar)))
  (aE (km rfl Z.cf_Shelf (ai 0) (gU (ak aD ar)))
  (aE (km rfl Z.cf_Shelf (ai 0) (gU (ak (kj aD) ar)))
  (aE (km rfl Z.cf_Shelf (ai 0) (gU (ak aD ar)))
  (aH (km rfl Z.cf_Shelf (ai 0) (gU (ak aD ar)))))))))))
theorem JX:GF P w (bx K cls exc) mg base 1 "_law_mixed" pS:=gf Z.d_law_mixed IT fun hr C hu nd =>
 (aE (aQ (i:=2) nd (aW lj (aW jJ (aW (bX rfl) (aW (bX rfl) (aW lj (ai 0) aD) (aW jJ aD (ai 1))) aD) aD) aD))
  (aH (aL (aW lj (aW jJ (aW lj (aW jJ (ai 2) (ai 2)) aD) aD) aD))))
theorem JY:GF P w (bx K cls exc) mg base 2 "_law_stream" nM:=gf Z.d_law_stream IV fun {f cdv A outer s H E} hr C hu nd =>
 (aE (aQ (i:=2) nd aD)
  (aE (iD rfl (yD (E:=EN) rfl Z.b_range (ai 1) (aN (b_len rfl) rfl Z.b_len KZ (ak (ai 0) ar)) aD) (iP (i:=3) nd) (aH (aQ (i:=2) nd (aW (bX rfl) (aW jJ (ai 2) (aW jJ (aW lq aD aD) (aW lq aD aD))) (aW lj (aA rfl hu (ai 0) (ai 3)) (aW jJ (aW lq aD aD) (aW lq aD aD)))))))
  (aE (aJ (aX jL (ai 2) (aW lq aD aD) (aP _)) (aH (aL (gU (ak (ai 2) ar)))) bu)
  (aE (aQ (i:=2) nd (aW (bX rfl) (ai 2) (aN (b_sum rfl) rfl Z.b_sum PyProof.Rows.boot_sum (ak (yj (jf:=[]) (mC (N:=["script", "k", "cell", "j", "found"]) (sc:=aS qD) rfl (fun _=>rfl) (by decide +kernel)) rfl (jQ (E:=(fun _=>E)) rfl (ai 0)) (fun _ _ _ _ _=>nA) (fun _ _ _ _ _=>(aW lj (ai 0) (aW lq aD aD)))) ar))))
  (aE (aQ (i:=4) nd aD)
  (aE (iD rfl (mw (E:=EN) rfl Z.b_range aD) (iP (i:=3) nd) (aH (aQ (i:=4) nd (aW (bX rfl) (aW jJ (ai 4) aD) (aO rfl (C.nox) (JX Z) hr.m rfl (ak (aW (bX rfl) (aW (bX rfl) (ai 2) (aW jJ aD (ai 1))) (aN (b_len rfl) rfl Z.b_len KZ (ak (ai 0) ar))) (ak (ai 3) ar)))))))
  (aH (aL (gU (ak (ai 4) ar))))))))))
theorem gB:GF P w (bx K cls exc) mg base 1 "_law_take" cM:=gf Z.d_law_take IW fun hr C hu nd =>
 (aE (aQ (i:=2) nd (aW lj (aA rfl hu (ai 0) aD) (ai 1)))
  (aE (yt hu (ai 0) aD (aW xY (aA rfl hu (ai 0) aD) (ai 1)))
  (aH (aL (ai 2)))))
theorem AK:GF P w (bx K cls exc) mg base 2 "_law_plain" ko:=gf Z.d_law_plain IX fun hr C hu nd =>
 (aE (aQ (i:=2) nd (aA rfl hu (fZ (ak bH (ak bH (ak bH (ak bH (ak bH ar)))))) (aO rfl C (gB Z) hr.m rfl (ak (ai 0) (ak aD ar)))))
  (aE (aQ (i:=3) nd bH)
  (aE (iD rfl (mw (E:=EN) rfl Z.b_range (aO rfl (C.nox) (gB Z) hr.m rfl (ak (ai 0) (ak (aW (bX rfl) (ai 1) aD) ar)))) (iP (i:=4) nd) (aH (aQ (i:=3) nd (aW (bX rfl) (ai 3) (aA rfl hu (ai 2) (aO rfl (C.nox) (gB Z) hr.m rfl (ak (ai 0) (ak (aN (b_len rfl) rfl Z.b_len KZ (ak (ai 2) ar)) ar))))))))
  (aH (aL (ai 3))))))
theorem JZ:GF P w (bx K cls exc) mg base 3 "_law_pair" lE:=gf Z.d_law_pair IY fun hr C hu nd =>
 (aE (aQ (i:=2) nd (aO rfl C (AK Z) hr.m rfl (ak (ai 0) (ak (ai 1) ar))))
  (aE (aQ (i:=3) nd (aO rfl C (gB Z) hr.m rfl (ak (ai 0) (ak aD ar))))
  (aE (aQ (i:=4) nd (aO rfl C (gB Z) hr.m rfl (ak (ai 0) (ak (aW (bX rfl) (aN (b_len rfl) rfl Z.b_len KZ (ak (ai 2) ar)) aD) ar))))
  (aE (aJ (aX dM (ai 3) aD (aP _)) (aH (aL (fy (ak (ai 2) (ak (ai 2) ar))))) bu)
  (aE (aJ (aX (aM rfl hu) (ai 3) aD (aP _)) (aH (aL (fy (ak (ai 2) (ak (aW (bX rfl) (aW (bX rfl) (cT rfl (ai 2) dt (cP (ai 4))) (aA rfl hu bH (aO rfl C (gB Z) hr.m rfl (ak (ai 0) (ak aD ar))))) (cT rfl (ai 2) (cP (aW (bX rfl) (ai 4) aD)) dt)) ar))))) bu)
  (aE (aJ (aX (aM rfl hu) (ai 3) aD (aP _)) (aH (aL (fy (ak (cT rfl (ai 2) dt (cP (ai 4))) (ak (ai 2) ar))))) bu)
  (aH (aL (fy (ak (ai 2) (ak (aO rfl C (AK Z) hr.m rfl (ak (ai 0) (ak (ai 1) ar))) ar)))))))))))
theorem J0:GF P w (bx K cls exc) mg base 1 "is_whole" iS:=gf Z.d_is_whole IZ fun hr C hu nd =>
 (aH (aL (h9 (iQ rfl rfl Z.b_isinstance (ai 0) rfl Z.b_int xC (by decide)) (iC (sk (iQ rfl rfl Z.b_isinstance (ai 0) rfl Z.b_bool rT (by decide)))))))
theorem AL:GM P w (bx K cls exc) mg base 2 0 "has_piece" gc:=gm Z.d_Shelf_has_piece I0 (show ("has_piece" : Str)∉cK 0 by decide +kernel) fun hr C hu nd =>
 (aH (aL (h9 (aO rfl C (J0 Z) hr.m rfl (ak (ai 1) ar)) (iC (si dO dO aD (ai 1) (aN (b_len rfl) rfl Z.b_len KZ (ak (cy rfl Z.cf_Shelf (ai 0)) ar)))))))
theorem qI:GM P w (bx K cls exc) mg base 3 0 "check_piece" lF:=gm Z.d_Shelf_check_piece Ja (show ("check_piece" : Str)∉cK 0 by decide +kernel) fun hr C hu nd =>
 (aH (aJ (gG (fg rfl (bw rfl C (AL Z) hr.m (ai 0) (ak (ai 1) ar)))) (aH (jS Z.x_NoPiece jD rfl (ak bH ar))) bu))
theorem oJ:GM P w (bx K cls exc) mg base 4 0 "check_text" ij:=gm Z.d_Shelf_check_text Jb (show ("check_text" : Str)∉cK 0 by decide +kernel) fun hr C hu nd =>
 (aH (aJ (aX (da rfl hu) (ai 1) aD (aP _)) (aH (cJ (bw rfl C (qI Z) hr.m (ai 0) (ak (ai 1) ar)))) bu))
theorem wt:GF P w (bx K cls exc) mg base 5 "whole_left" iE:=gf Z.d_whole_left Jc fun hr C hu nd =>
 (aE (cJ (bw rfl C (oJ Z) hr.m (ai 0) (ak (ai 1) ar)))
  (aH (aL (x4 (aX (aM rfl hu) (ai 1) aD (aP _)) (fZ ar) (gU (ak (ai 1) ar))))))
theorem lZ:GM P w (bx K cls exc) mg base 5 0 "signs" iF:=gm Z.d_Shelf_signs Jd (show ("signs" : Str)∉cK 0 by decide +kernel) fun hr C hu nd =>
 (aE (cJ (bw rfl C (oJ Z) hr.m (ai 0) (ak (ai 1) ar)))
  (aH (aL (aA rfl hu (cy rfl Z.cf_Shelf (ai 0)) (ai 1)))))
theorem AM:GF P w (bx K cls exc) mg base 6 "size_of" gu:=gf Z.d_size_of Je fun hr C hu nd =>
 (aE (aJ (fg rfl (iQ rfl rfl Z.b_isinstance (ai 1) rfl Z.b_str mq (by decide))) (aH (aL (aN (b_len rfl) rfl Z.b_len KZ (ak (ai 1) ar)))) bu)
  (aH (aL (bw rfl C (lZ Z) hr.m (ai 0) (ak (ai 1) ar)))))
theorem gp:GM P w (bx K cls exc) mg base 4 0 "piece" eg:=gm Z.d_Shelf_piece Jf (show ("piece" : Str)∉cK 0 by decide +kernel) fun hr C hu nd =>
 (aE (cJ (bw rfl C (qI Z) hr.m (ai 0) (ak (ai 1) ar)))
  (aH (aL (aA rfl hu (cy rfl Z.cf_Shelf (ai 0)) (aW lh (ai 1) aD)))))
theorem wu:GF P w (bx K cls exc) mg base 5 "opens_fork" iG:=gf Z.d_opens_fork Jg fun hr C hu nd =>
 (aE (aJ (fg rfl (iQ rfl rfl Z.b_isinstance (ai 2) rfl Z.b_str mq (by decide))) (aH (aL dj)) bu)
  (aE (aQ (i:=3) nd (bw rfl C (gp Z) hr.m (ai 0) (ak (ai 2) ar)))
  (aE (aJ (aX (aM rfl hu) (aA rfl hu (ai 3) aD) bH (aP _)) (aH (aL dj)) bu)
  (aE (cJ (cf rfl KP K2 K3 (fh) dE (ai 1) (ak (aA rfl hu (ai 3) aD) ar)))
  (aE (cJ (cf rfl KP K2 K3 (fh) dE (ai 1) (ak (aA rfl hu (ai 3) aD) ar)))
  (aH (aL dj)))))))
theorem qJ:GF P w (bx K cls exc) mg base 6 "next_signs" jn:=gf Z.d_next_signs Jh fun hr C hu nd =>
 (aE (mv cO (aX (da rfl hu) (ai 1) (fZ ar) (aP _)) (aE (aQ (i:=2) nd (nE rfl KP L4 L5 (nF) dE (ai 1)))
  (aE (aJ (fg rfl (iQ rfl rfl Z.b_isinstance (ai 2) rfl Z.b_str mq (by decide))) (aH (aL (ai 2))) bu)
  (aH (aJ (gG (fg rfl (aO rfl (C.nox) (wu Z) hr.m rfl (ak (ai 0) (ak (ai 1) (ak (ai 2) ar)))))) (aH (aL (aA rfl hu (bw rfl (C.nox) (gp Z) hr.m (ai 0) (ak (ai 2) ar)) aD))) bu)))))
  (aH (aL bH)))
theorem wx:GF P w (bx K cls exc) mg base 1 "puts_back" lG:=gf Z.d_puts_back Ji fun hr C hu nd =>
 (aH (aJ (aX (da rfl hu) (ai 1) bH (aP _)) (aH (cJ (cf rfl KP K2 K3 (fh) dE (ai 0) (ak (ai 1) ar)))) bu))
theorem J1:GF P w (bx K cls exc) mg base 7 "common_signs" nO:=gf Z.d_common_signs Jj fun hr C hu nd =>
 (aE (aQ (i:=3) nd (aO rfl C (qJ Z) hr.m rfl (ak (ai 0) (ak (ai 1) ar))))
  (aE (aQ (i:=4) nd (aO rfl C (qJ Z) hr.m rfl (ak (ai 0) (ak (ai 2) ar))))
  (aE (aQ (i:=5) nd aD)
  (aE (mv cO (cN (jO (aX dM (ai 5) (aN (yx) rfl Z.b_min NI (ak (aN (b_len rfl) rfl Z.b_len KZ (ak (ai 3) ar)) (ak (aN (b_len rfl) rfl Z.b_len KZ (ak (ai 4) ar)) ar))) (aP _)) (jM (aX (aM rfl hu) (aA rfl hu (ai 3) (ai 5)) (aA rfl hu (ai 4) (ai 5)) (aP _))))) (aH (aQ (i:=5) nd (aW (bX rfl) (ai 5) aD))))
  (aE (cJ (aO rfl C (wx Z) hr.m rfl (ak (ai 1) (ak (cT rfl (ai 3) (cP (ai 5)) dt) ar))))
  (aE (cJ (aO rfl C (wx Z) hr.m rfl (ak (ai 2) (ak (cT rfl (ai 4) (cP (ai 5)) dt) ar))))
  (aH (aL (cT rfl (ai 3) dt (cP (ai 5)))))))))))
theorem J2:GF P w (bx K cls exc) mg base 8 "common_item" kr:=gf Z.d_common_item Jk fun hr C hu nd =>
 (aE (mv cO (aX (da rfl hu) (aA rfl hu (ai 1) (kj aD)) (aA rfl hu (ai 2) (kj aD)) (aP _)) (aE (aQ (i:=3) nd (gs dM (aO rfl (C.nox) (AM Z) hr.m rfl (ak (ai 0) (ak (aA rfl hu (ai 1) (kj aD)) ar))) (aO rfl (C.nox) (AM Z) hr.m rfl (ak (ai 0) (ak (aA rfl hu (ai 2) (kj aD)) ar))) (aP _)))
  (aE (aQ (i:=4) nd (x4 (fg rfl (ai 3)) (ai 2) (ai 1)))
  (aE (aQ (i:=5) nd (nE rfl KP L4 L5 (nF) dE (ai 4)))
  (aH (aJ (gG (fg rfl (aO rfl (C.nox) (wu Z) hr.m rfl (ak (ai 0) (ak (ai 4) (ak (ai 5) ar)))))) (aE (cJ (cf rfl KP K2 K3 (fh) dE (ai 4) (ak (ai 5) ar)))
  (aH (aL (aO rfl (C.nox) (J1 Z) hr.m rfl (ak (ai 0) (ak (ai 1) (ak (ai 2) ar))))))) bu))))))
  (aE (cJ (nE rfl KP L4 L5 (nF) dE (ai 2)))
  (aH (aL (nE rfl KP L4 L5 (nF) dE (ai 1))))))
theorem J3:GF P w (bx K cls exc) mg base 9 "common_items" pT:=gf Z.d_common_items Jl fun hr C hu nd =>
 (aE (aQ (i:=3) nd (gU ar))
  (aE (mv cO (cN (jO (aX (da rfl hu) (ai 1) (fZ ar) (aP _)) (jM (aX (da rfl hu) (ai 2) (fZ ar) (aP _))))) (aE (aQ (i:=4) nd (aO rfl (C.nox) (J2 Z) hr.m rfl (ak (ai 0) (ak (ai 1) (ak (ai 2) ar)))))
  (aE (aJ (aX (aM rfl hu) (ai 4) bH (aP _)) (aH E7) bu)
  (aH (cJ (cf rfl KP K2 K3 (fh) dE (ai 3) (ak (ai 4) ar)))))))
  (aH (aL (ai 3)))))
theorem qK:GF P w (bx K cls exc) mg base 7 "next_sign" jW:=gf Z.d_next_sign Jm fun hr C hu nd =>
 (aH (aL (cT rfl (aO rfl C (qJ Z) hr.m rfl (ak (ai 0) (ak (ai 1) ar))) dt (cP aD))))
theorem J4:GF P w (bx K cls exc) mg base 10 "held_together" iT:=gf Z.d_held_together Jn fun hr C hu nd =>
 (aE (aQ (i:=3) nd (aN (pN) rfl Z.b_max Ml (ak (bw rfl C (lZ Z) hr.m (ai 0) (ak (ai 1) ar)) (ak (bw rfl C (lZ Z) hr.m (ai 0) (ak (ai 2) ar)) ar))))
  (aE (aJ (cN (jO (aX (da rfl hu) (ai 1) (ai 2) (aP _)) (jM (aX fY (ai 3) (fD rfl Z.c_MOST_PLAIN) (aP _))))) (aH (jS Z.x_TooLong jD rfl (ak bH ar))) bu)
  (aE (aQ (i:=4) nd (aO rfl C (wt Z) hr.m rfl (ak (ai 0) (ak (ai 1) ar))))
  (aE (aQ (i:=5) nd (aO rfl C (wt Z) hr.m rfl (ak (ai 0) (ak (ai 2) ar))))
  (aE (aQ (i:=6) nd (aO rfl C (J3 Z) hr.m rfl (ak (ai 0) (ak (ai 4) (ak (ai 5) ar)))))
  (aE (aJ (cN (jO (aX (aM rfl hu) (ai 4) (fZ ar) (aP _)) (jM (aX (aM rfl hu) (ai 5) (fZ ar) (aP _))))) (aH (aL (fy (ak bH (ak (ai 6) ar))))) bu)
  (aH (aL (fy (ak bH (ak (ai 6) (ak (aO rfl C (qK Z) hr.m rfl (ak (ai 0) (ak (ai 4) ar))) (ak (aO rfl C (qK Z) hr.m rfl (ak (ai 0) (ak (ai 5) ar))) ar)))))))))))))
theorem mQ:GM P w (bx K cls exc) mg base 1 0 "many" gv:=gm Z.d_Shelf_many Jo (show ("many" : Str)∉cK 0 by decide +kernel) fun hr C hu nd =>
 (aH (aL (aN (b_len rfl) rfl Z.b_len KZ (ak (cy rfl Z.cf_Shelf (ai 0)) ar))))
theorem J5:GF P w (bx K cls exc) mg base 6 "takes_piece" jX:=gf Z.d_takes_piece Jp fun hr C hu nd =>
 (aE (mv cO (aX (da rfl hu) (ai 1) (fZ ar) (aP _)) (aE (aQ (i:=3) nd (nE rfl KP L4 L5 (nF) dE (ai 1)))
  (aE (aJ (aX (aM rfl hu) (ai 3) (ai 2) (aP _)) (aH (aL dj)) bu)
  (aH (aJ (gG (fg rfl (aO rfl (C.nox) (wu Z) hr.m rfl (ak (ai 0) (ak (ai 1) (ak (ai 3) ar)))))) (aH (aL dj)) bu)))))
  (aH (aL dj)))
theorem J6:GF P w (bx K cls exc) mg base 1 "is_plain_sign" nP:=gf Z.d_is_plain_sign Jq fun hr C hu nd =>
 (aH (aL (sj (gs (aM rfl hu) (ai 0) bH (aP _)) (iC (si dO dO bH (ai 0) bH)))))
theorem AN:GF P w (bx K cls exc) mg base 2 "is_plain" jq:=gf Z.d_is_plain Jr fun {f cdv A outer s H E} hr C hu nd =>
 (aE (aJ (gG (fg rfl (iQ rfl rfl Z.b_isinstance (ai 0) rfl Z.b_str mq (by decide)))) (aH (aL dj)) bu)
  (aH (aL (aN (b_all rfl) rfl Z.b_all PyProof.Rows.boot_all (ak (yj (jf:=[]) (mC (N:=["thing"]) (sc:=aS qE) rfl (fun _=>rfl) (by decide +kernel)) rfl (jQ (E:=(fun _=>E)) rfl (ai 0)) (fun _ _ _ _ _=>nA) (fun _ _ _ _ _=>(aO rfl (CA.never rfl) (J6 Z) hr.m rfl (ak (ai 0) ar)))) ar)))))
theorem AQ:GF P w (bx K cls exc) mg base 3 "is_short" ik:=gf Z.d_is_short Js fun hr C hu nd =>
 (aH (aL (h9 (aO rfl C (AN Z) hr.m rfl (ak (ai 0) ar)) (iC (si dO dO aD (aN (b_len rfl) rfl Z.b_len KZ (ak (ai 0) ar)) (fD rfl Z.c_LEAF_SIGNS))))))
theorem J7:GF P w (bx K cls exc) mg base 7 "takes_plain" ku:=gf Z.d_takes_plain Jt fun hr C hu nd =>
 (aE (aQ (i:=3) nd (ai 2))
  (aE (mv cO (aX (da rfl hu) (ai 3) bH (aP _)) (aE (aQ (i:=4) nd (aO rfl (C.nox) (qJ Z) hr.m rfl (ak (ai 0) (ak (ai 1) ar))))
  (aE (aQ (i:=5) nd (aN (yx) rfl Z.b_min NI (ak (aN (b_len rfl) rfl Z.b_len KZ (ak (ai 4) ar)) (ak (aN (b_len rfl) rfl Z.b_len KZ (ak (ai 3) ar)) ar))))
  (aE (aJ (cN (iB (aX (aM rfl hu) (ai 5) aD (aP _)) (ji (aX (da rfl hu) (cT rfl (ai 4) dt (cP (ai 5))) (cT rfl (ai 3) dt (cP (ai 5))) (aP _))))) (aH (aL dj)) bu)
  (aE (cJ (aO rfl (C.nox) (wx Z) hr.m rfl (ak (ai 1) (ak (cT rfl (ai 4) (cP (ai 5)) dt) ar))))
  (aH (aQ (i:=3) nd (cT rfl (ai 3) (cP (ai 5)) dt))))))))
  (aH (aL dj))))
theorem J8:GF P w (bx K cls exc) mg base 8 "takes_item" fO:=gf Z.d_takes_item Ju fun hr C hu nd =>
 (aE (aJ (fg rfl (bw rfl C (AL Z) hr.m (ai 0) (ak (ai 2) ar))) (aH (aL (aO rfl C (J5 Z) hr.m rfl (ak (ai 0) (ak (ai 1) (ak (ai 2) ar)))))) bu)
  (aH (aL (h9 (aO rfl C (AQ Z) hr.m rfl (ak (ai 2) ar)) (iC (aO rfl C (J7 Z) hr.m rfl (ak (ai 0) (ak (ai 1) (ak (ai 2) ar)))))))))
theorem AR:GF P w (bx K cls exc) mg base 9 "left_behind" gW:=gf Z.d_left_behind Jv fun hr C hu nd =>
 (aE (aQ (i:=3) nd (aO rfl C (wt Z) hr.m rfl (ak (ai 0) (ak (ai 1) ar))))
  (aE (iD rfl (jQ (E:=EN) rfl (ai 2)) (iP (i:=4) nd) (aH (aJ (gG (fg rfl (aO rfl (C.nox) (J8 Z) hr.m rfl (ak (ai 0) (ak (ai 3) (ak (ai 4) ar)))))) (aH (aL jh)) bu)))
  (aH (aL (ai 3)))))
theorem qL:GF P w (bx K cls exc) mg base 10 "told_stands" dY:=gf Z.d_told_stands Jw fun hr C hu nd =>
 (aE (aQ (i:=4) nd (aO rfl C (AR Z) hr.m rfl (ak (ai 0) (ak (ai 1) (ak (aA rfl hu (ai 3) aD) ar)))))
  (aE (aQ (i:=5) nd (aO rfl C (AR Z) hr.m rfl (ak (ai 0) (ak (ai 2) (ak (aA rfl hu (ai 3) aD) ar)))))
  (aE (aJ (cN (iB (aX pG (ai 4) jh (aP _)) (ji (aX pG (ai 5) jh (aP _))))) (aH (aL dj)) bu)
  (aE (aJ (aX (aM rfl hu) (aA rfl hu (ai 3) aD) bH (aP _)) (aH (aL (h9 (gs (aM rfl hu) (aN (b_len rfl) rfl Z.b_len KZ (ak (ai 3) ar)) aD (aP _)) (h9 (gs (aM rfl hu) (ai 4) (fZ ar) (aP _)) (iC (gs (aM rfl hu) (ai 5) (fZ ar) (aP _))))))) bu)
  (aE (aQ (i:=6) nd (fy (ak (aO rfl C (qK Z) hr.m rfl (ak (ai 0) (ak (ai 4) ar))) (ak (aO rfl C (qK Z) hr.m rfl (ak (ai 0) (ak (ai 5) ar))) ar))))
  (aH (aL (h9 (gs (aM rfl hu) (aA rfl hu (ai 3) aD) bH (aP _)) (h9 (gs (aM rfl hu) (cT rfl (ai 3) (cP aD) dt) (ai 6) (aP _)) (iC (gs (da rfl hu) (aA rfl hu (ai 6) aD) (aA rfl hu (ai 6) aD) (aP _))))))))))))
theorem J9:GF P w (bx K cls exc) mg base 1 "check_length" pU:=gf Z.d_check_length Jx fun hr C hu nd =>
 (aH (aJ (aX fY (ai 0) (fD rfl Z.c_MOST_SIGNS) (aP _)) (aH (jS Z.x_TooLong jD rfl (ak bH ar))) bu))
theorem AS:GM P w (bx K cls exc) mg base 5 0 "last_leaf" nQ:=gm Z.d_Shelf_last_leaf Jy (show ("last_leaf" : Str)∉cK 0 by decide +kernel) fun hr C hu nd =>
 (aE (cJ (bw rfl C (oJ Z) hr.m (ai 0) (ak (ai 1) ar)))
  (aH (aL (aA rfl hu (cy rfl Z.cf_Shelf (ai 0)) (ai 1)))))
theorem AU:GM P w (bx K cls exc) mg base 5 0 "first_leaf" nS:=gm Z.d_Shelf_first_leaf Jz (show ("first_leaf" : Str)∉cK 0 by decide +kernel) fun hr C hu nd =>
 (aE (cJ (bw rfl C (oJ Z) hr.m (ai 0) (ak (ai 1) ar)))
  (aH (aL (aA rfl hu (cy rfl Z.cf_Shelf (ai 0)) (ai 1)))))
theorem Ka:GF P w (bx K cls exc) mg base 6 "are_close" pV:=gf Z.d_are_close JA fun hr C hu nd =>
 (aH (aL (gs fY (aW (bX rfl) (bw rfl C (lZ Z) hr.m (ai 0) (ak (bw rfl C (AS Z) hr.m (ai 0) (ak (ai 1) ar)) ar)) (bw rfl C (lZ Z) hr.m (ai 0) (ak (bw rfl C (AU Z) hr.m (ai 0) (ak (ai 2) ar)) ar))) (fD rfl Z.c_LEAF_SIGNS) (aP _))))
theorem Kb:GM P w (bx K cls exc) mg base 4 0 "check_fork" kx:=gm Z.d_Shelf_check_fork JB (show ("check_fork" : Str)∉cK 0 by decide +kernel) fun hr C hu nd =>
 (aE (cJ (bw rfl C (qI Z) hr.m (ai 0) (ak (ai 1) ar)))
  (aE (cJ (bw rfl C (qI Z) hr.m (ai 0) (ak (ai 2) ar)))
  (aE (aQ (i:=3) nd (aW (bX rfl) (aA rfl hu (cy rfl Z.cf_Shelf (ai 0)) (aA rfl hu (cy rfl Z.cf_Shelf (ai 0)) (ai 1))) (aA rfl hu (cy rfl Z.cf_Shelf (ai 0)) (aA rfl hu (cy rfl Z.cf_Shelf (ai 0)) (ai 2)))))
  (aE (aJ (aX dO (ai 3) (fD rfl Z.c_LEAF_SIGNS) (aP _)) (aH (jS Z.x_Loose jD rfl (ak bH ar))) bu)
  (aE (aJ (aX fY (aN (b_abs) rfl Z.b_abs PyProof.Rows.boot_abs (ak (aW lh (aA rfl hu (cy rfl Z.cf_Shelf (ai 0)) (ai 1)) (aA rfl hu (cy rfl Z.cf_Shelf (ai 0)) (ai 2))) ar)) aD (aP _)) (aH (jS Z.x_Unlevel jD rfl (ak bH ar))) bu)
  (aH (aJ (aX fY (aW (bX rfl) (aA rfl hu (cy rfl Z.cf_Shelf (ai 0)) (ai 1)) (aA rfl hu (cy rfl Z.cf_Shelf (ai 0)) (ai 2))) (fD rfl Z.c_MOST_SIGNS) (aP _)) (aH (jS Z.x_TooLong jD rfl (ak bH ar))) bu)))))))
theorem AW:GM P w (bx K cls exc) mg base 1 0 "lay" nT:=gm Z.d_Shelf_lay JC (show ("lay" : Str)∉cK 0 by decide +kernel) fun hr C hu nd =>
 (aE (cJ (cf rfl KP K2 K3 (fh) dE (cy rfl Z.cf_Shelf (ai 0)) (ak (ai 1) ar)))
  (aE (aQ (i:=2) nd (aN (b_len rfl) rfl Z.b_len KZ (ak (cy rfl Z.cf_Shelf (ai 0)) ar)))
  (aE (yt hu (cy rfl Z.cf_Shelf (ai 0)) (ai 1) (ai 2))
  (aH (aL (ai 2))))))
theorem Kc:GM P w (bx K cls exc) mg base 2 0 "lay_fork" nU:=gm Z.d_Shelf_lay_fork JD (show ("lay_fork" : Str)∉cK 0 by decide +kernel) fun hr C hu nd =>
 (aE (cJ (bw rfl C (AW Z) hr.m (ai 0) (ak (ai 1) ar)))
  (aE (aQ (i:=2) nd (aA rfl hu (ai 1) aD))
  (aE (aQ (i:=3) nd (aA rfl hu (ai 1) aD))
  (aE (cJ (cf rfl KP K2 K3 (fh) dE (cy rfl Z.cf_Shelf (ai 0)) (ak (aW (bX rfl) (aA rfl hu (cy rfl Z.cf_Shelf (ai 0)) (ai 2)) (aA rfl hu (cy rfl Z.cf_Shelf (ai 0)) (ai 3))) ar)))
  (aE (cJ (cf rfl KP K2 K3 (fh) dE (cy rfl Z.cf_Shelf (ai 0)) (ak (aW (bX rfl) (aA rfl hu (cy rfl Z.cf_Shelf (ai 0)) (ai 2)) (aA rfl hu (cy rfl Z.cf_Shelf (ai 0)) (ai 3))) ar)))
  (aE (cJ (cf rfl KP K2 K3 (fh) dE (cy rfl Z.cf_Shelf (ai 0)) (ak (aW (bX rfl) (aA rfl hu (cy rfl Z.cf_Shelf (ai 0)) (ai 2)) (aA rfl hu (cy rfl Z.cf_Shelf (ai 0)) (ai 3))) ar)))
  (aE (cJ (cf rfl KP K2 K3 (fh) dE (cy rfl Z.cf_Shelf (ai 0)) (ak (aW (bX rfl) (aN (pN) rfl Z.b_max Ml (ak (aA rfl hu (cy rfl Z.cf_Shelf (ai 0)) (ai 2)) (ak (aA rfl hu (cy rfl Z.cf_Shelf (ai 0)) (ai 3)) ar))) aD) ar)))
  (aE (cJ (cf rfl KP K2 K3 (fh) dE (cy rfl Z.cf_Shelf (ai 0)) (ak (aA rfl hu (cy rfl Z.cf_Shelf (ai 0)) (ai 2)) ar)))
  (aH (cJ (cf rfl KP K2 K3 (fh) dE (cy rfl Z.cf_Shelf (ai 0)) (ak (aA rfl hu (cy rfl Z.cf_Shelf (ai 0)) (ai 3)) ar))))))))))))
theorem gQ:GM P w (bx K cls exc) mg base 5 0 "fork" bA:=gm Z.d_Shelf_fork JE (show ("fork" : Str)∉cK 0 by decide +kernel) fun hr C hu nd =>
 (aE (cJ (bw rfl C (Kb Z) hr.m (ai 0) (ak (ai 1) (ak (ai 2) ar))))
  (aE (aQ (i:=3) nd (fy (ak bH (ak (ai 1) (ak (ai 2) ar)))))
  (aE (aJ (aX (yv rfl hu) (ai 3) (cy rfl Z.cf_Shelf (ai 0)) rfl) (aH (cJ (bw rfl C (Kc Z) hr.m (ai 0) (ak (ai 3) ar)))) bu)
  (aH (aL (aA rfl hu (cy rfl Z.cf_Shelf (ai 0)) (ai 3)))))))
theorem AX:∀ d,GF P w (bx K cls exc) mg base (5+d+1) "with_last" (iH d)
 | 0=>gf Z.d_with_last AD fun _ _ _ _=>mD
 | d+1=>gf Z.d_with_last AD fun hr C hu nd =>
  (aE (aQ (i:=3) nd (bw rfl C (gp Z) (hr.mono (show 4<=5+(d+1) by lia)) (ai 0) (ak (ai 1) ar)))
  (aE (aJ (aX (aM rfl hu) (aA rfl hu (ai 3) aD) bH (aP _)) (aH (aL (ai 2))) bu)
  (aH (aL (bw rfl C (gQ Z) (hr.mono (show 5<=5+(d+1) by lia)) (ai 0) (ak (aA rfl hu (ai 3) aD) (ak (aO rfl C (AX d) (hr.mono (by lia)) rfl (ak (ai 0) (ak (aA rfl hu (ai 3) aD) (ak (ai 2) ar)))) ar)))))))
theorem jx:GM P w (bx K cls exc) mg base 5 0 "height" il:=gm Z.d_Shelf_height JF (show ("height" : Str)∉cK 0 by decide +kernel) fun hr C hu nd =>
 (aE (cJ (bw rfl C (oJ Z) hr.m (ai 0) (ak (ai 1) ar)))
  (aH (aL (aA rfl hu (cy rfl Z.cf_Shelf (ai 0)) (ai 1)))))
theorem AY:GF P w (bx K cls exc) mg base 6 "turned_left" gX:=gf Z.d_turned_left JG fun hr C hu nd =>
 (aE (aJ (aX dM (aW lh (bw rfl C (jx Z) hr.m (ai 0) (ak (ai 2) ar)) (bw rfl C (jx Z) hr.m (ai 0) (ak (ai 1) ar))) aD (aP _)) (aH (aL (bw rfl C (gQ Z) hr.m (ai 0) (ak (ai 1) (ak (ai 2) ar))))) bu)
  (aE (aQ (i:=3) nd (bw rfl C (gp Z) hr.m (ai 0) (ak (ai 2) ar)))
  (aE (aQ (i:=4) nd (aA rfl hu (ai 3) aD))
  (aE (aQ (i:=5) nd (aA rfl hu (ai 3) aD))
  (aE (aJ (aX dO (bw rfl C (jx Z) hr.m (ai 0) (ak (ai 4) ar)) (bw rfl C (jx Z) hr.m (ai 0) (ak (ai 5) ar)) (aP _)) (aH (aL (bw rfl C (gQ Z) hr.m (ai 0) (ak (bw rfl C (gQ Z) hr.m (ai 0) (ak (ai 1) (ak (ai 4) ar))) (ak (ai 5) ar))))) bu)
  (aE (aQ (i:=6) nd (bw rfl C (gp Z) hr.m (ai 0) (ak (ai 4) ar)))
  (aH (aL (bw rfl C (gQ Z) hr.m (ai 0) (ak (bw rfl C (gQ Z) hr.m (ai 0) (ak (ai 1) (ak (aA rfl hu (ai 6) aD) ar))) (ak (bw rfl C (gQ Z) hr.m (ai 0) (ak (aA rfl hu (ai 6) aD) (ak (ai 5) ar))) ar)))))))))))
theorem AZ:∀ d,GF P w (bx K cls exc) mg base (6+d+1) "without_first" (gy d)
 | 0=>gf Z.d_without_first AE fun _ _ _ _=>mD
 | d+1=>gf Z.d_without_first AE fun hr C hu nd =>
  (aE (aQ (i:=2) nd (bw rfl C (gp Z) (hr.mono (show 4<=6+(d+1) by lia)) (ai 0) (ak (ai 1) ar)))
  (aE (aJ (aX (aM rfl hu) (aA rfl hu (ai 2) aD) bH (aP _)) (aH (aL aD)) bu)
  (aE (aQ (i:=3) nd (aO rfl C (AZ d) (hr.mono (by lia)) rfl (ak (ai 0) (ak (aA rfl hu (ai 2) aD) ar))))
  (aE (aJ (aX (aM rfl hu) (ai 3) aD (aP _)) (aH (aL (aA rfl hu (ai 2) aD))) bu)
  (aH (aL (aO rfl C (AY Z) (hr.mono (show 6<=6+(d+1) by lia)) rfl (ak (ai 0) (ak (ai 3) (ak (aA rfl hu (ai 2) aD) ar))))))))))
theorem Kd:GF P w (bx K cls exc) mg base 6 "turned_right" iU:=gf Z.d_turned_right JH fun hr C hu nd =>
 (aE (aJ (aX dM (aW lh (bw rfl C (jx Z) hr.m (ai 0) (ak (ai 1) ar)) (bw rfl C (jx Z) hr.m (ai 0) (ak (ai 2) ar))) aD (aP _)) (aH (aL (bw rfl C (gQ Z) hr.m (ai 0) (ak (ai 1) (ak (ai 2) ar))))) bu)
  (aE (aQ (i:=3) nd (bw rfl C (gp Z) hr.m (ai 0) (ak (ai 1) ar)))
  (aE (aQ (i:=4) nd (aA rfl hu (ai 3) aD))
  (aE (aQ (i:=5) nd (aA rfl hu (ai 3) aD))
  (aE (aJ (aX dO (bw rfl C (jx Z) hr.m (ai 0) (ak (ai 5) ar)) (bw rfl C (jx Z) hr.m (ai 0) (ak (ai 4) ar)) (aP _)) (aH (aL (bw rfl C (gQ Z) hr.m (ai 0) (ak (ai 4) (ak (bw rfl C (gQ Z) hr.m (ai 0) (ak (ai 5) (ak (ai 2) ar))) ar))))) bu)
  (aE (aQ (i:=6) nd (bw rfl C (gp Z) hr.m (ai 0) (ak (ai 5) ar)))
  (aH (aL (bw rfl C (gQ Z) hr.m (ai 0) (ak (bw rfl C (gQ Z) hr.m (ai 0) (ak (ai 4) (ak (aA rfl hu (ai 6) aD) ar))) (ak (bw rfl C (gQ Z) hr.m (ai 0) (ak (aA rfl hu (ai 6) aD) (ak (ai 2) ar))) ar)))))))))))
theorem qM:∀ d,GF P w (bx K cls exc) mg base (6+d+1) "linked" (gg d)
 | 0=>gf Z.d_linked AF fun _ _ _ _=>mD
 | d+1=>gf Z.d_linked AF fun hr C hu nd =>
  (aE (aQ (i:=3) nd (aW lh (bw rfl C (jx Z) (hr.mono (show 5<=6+(d+1) by lia)) (ai 0) (ak (ai 1) ar)) (bw rfl C (jx Z) (hr.mono (show 5<=6+(d+1) by lia)) (ai 0) (ak (ai 2) ar))))
  (aE (aJ (aX fY (ai 3) aD (aP _)) (aE (aQ (i:=4) nd (bw rfl C (gp Z) (hr.mono (show 4<=6+(d+1) by lia)) (ai 0) (ak (ai 1) ar)))
  (aH (aL (aO rfl C (AY Z) (hr.mono (show 6<=6+(d+1) by lia)) rfl (ak (ai 0) (ak (aA rfl hu (ai 4) aD) (ak (aO rfl C (qM d) (hr.mono (by lia)) rfl (ak (ai 0) (ak (aA rfl hu (ai 4) aD) (ak (ai 2) ar)))) ar))))))) bu)
  (aE (aJ (aX dM (ai 3) (kj aD) (aP _)) (aE (aQ (i:=4) nd (bw rfl C (gp Z) (hr.mono (show 4<=6+(d+1) by lia)) (ai 0) (ak (ai 2) ar)))
  (aH (aL (aO rfl C (Kd Z) (hr.mono (show 6<=6+(d+1) by lia)) rfl (ak (ai 0) (ak (aO rfl C (qM d) (hr.mono (by lia)) rfl (ak (ai 0) (ak (ai 1) (ak (aA rfl hu (ai 4) aD) ar)))) (ak (aA rfl hu (ai 4) aD) ar))))))) bu)
  (aH (aL (bw rfl C (gQ Z) (hr.mono (show 5<=6+(d+1) by lia)) (ai 0) (ak (ai 1) (ak (ai 2) ar))))))))
theorem Ke:GF P w (bx K cls exc) mg base 1 "ends_in" pY:=gf Z.d_ends_in JI fun hr C hu nd =>
 (aH (aL (cf rfl PySem.F.plainAttrs_str PySem.F.slot_str_count PySem.F.type_str_count (FI) FH (ai 0) (ak bH ar))))
theorem Kf:GM P w (bx K cls exc) mg base 2 0 "lay_leaf" nV:=gm Z.d_Shelf_lay_leaf JJ (show ("lay_leaf" : Str)∉cK 0 by decide +kernel) fun hr C hu nd =>
 (aE (aQ (i:=2) nd (bw rfl C (AW Z) hr.m (ai 0) (ak (ai 1) ar)))
  (aE (aQ (i:=3) nd (aA rfl hu (ai 1) aD))
  (aE (cJ (cf rfl KP K2 K3 (fh) dE (cy rfl Z.cf_Shelf (ai 0)) (ak (aN (b_len rfl) rfl Z.b_len KZ (ak (ai 3) ar)) ar)))
  (aE (cJ (cf rfl KP K2 K3 (fh) dE (cy rfl Z.cf_Shelf (ai 0)) (ak (aO rfl C (Ke Z) hr.m rfl (ak (ai 3) ar)) ar)))
  (aE (cJ (cf rfl KP K2 K3 (fh) dE (cy rfl Z.cf_Shelf (ai 0)) (ak aD ar)))
  (aE (cJ (cf rfl KP K2 K3 (fh) dE (cy rfl Z.cf_Shelf (ai 0)) (ak aD ar)))
  (aE (cJ (cf rfl KP K2 K3 (fh) dE (cy rfl Z.cf_Shelf (ai 0)) (ak (ai 2) ar)))
  (aH (cJ (cf rfl KP K2 K3 (fh) dE (cy rfl Z.cf_Shelf (ai 0)) (ak (ai 2) ar)))))))))))
theorem A0:GM P w (bx K cls exc) mg base 4 0 "leaf" gY:=gm Z.d_Shelf_leaf JK (show ("leaf" : Str)∉cK 0 by decide +kernel) fun hr C hu nd =>
 (aE (aJ (gG (fg rfl (aO rfl C (AQ Z) hr.m rfl (ak (ai 1) ar)))) (aH (jS Z.x_NoText jD rfl (ak bH ar))) bu)
  (aE (aQ (i:=2) nd (fy (ak bH (ak (ai 1) ar))))
  (aE (aJ (aX (yv rfl hu) (ai 2) (cy rfl Z.cf_Shelf (ai 0)) rfl) (aH (cJ (bw rfl C (Kf Z) hr.m (ai 0) (ak (ai 2) ar)))) bu)
  (aH (aL (aA rfl hu (cy rfl Z.cf_Shelf (ai 0)) (ai 2)))))))
theorem Kg:GF P w (bx K cls exc) mg base 98 "welded" lH:=gf Z.d_welded JL fun hr C hu nd =>
 (aE (aQ (i:=3) nd (aW (bX rfl) (aA rfl hu (bw rfl C (gp Z) hr.m (ai 0) (ak (bw rfl C (AS Z) hr.m (ai 0) (ak (ai 1) ar)) ar)) aD) (aA rfl hu (bw rfl C (gp Z) hr.m (ai 0) (ak (bw rfl C (AU Z) hr.m (ai 0) (ak (ai 2) ar)) ar)) aD)))
  (aE (aQ (i:=4) nd (aO rfl C (AX Z 90) hr.m rfl (ak (ai 0) (ak (ai 1) (ak (bw rfl C (A0 Z) hr.m (ai 0) (ak (ai 3) ar)) ar)))))
  (aE (aQ (i:=5) nd (aO rfl C (AZ Z 90) hr.m rfl (ak (ai 0) (ak (ai 2) ar))))
  (aE (aJ (aX (aM rfl hu) (ai 5) aD (aP _)) (aH (aL (ai 4))) bu)
  (aH (aL (aO rfl C (qM Z 90) hr.m rfl (ak (ai 0) (ak (ai 4) (ak (ai 5) ar))))))))))
theorem A1:GF P w (bx K cls exc) mg base 99 "joined" ip:=gf Z.d_joined JM fun hr C hu nd =>
 (aE (cJ (aO rfl C (J9 Z) hr.m rfl (ak (aW (bX rfl) (bw rfl C (lZ Z) hr.m (ai 0) (ak (ai 1) ar)) (bw rfl C (lZ Z) hr.m (ai 0) (ak (ai 2) ar))) ar)))
  (aE (aJ (aX (aM rfl hu) (ai 1) aD (aP _)) (aH (aL (ai 2))) bu)
  (aE (aJ (aX (aM rfl hu) (ai 2) aD (aP _)) (aH (aL (ai 1))) bu)
  (aE (aJ (fg rfl (aO rfl C (Ka Z) hr.m rfl (ak (ai 0) (ak (ai 1) (ak (ai 2) ar))))) (aH (aL (aO rfl C (qM Z 90) hr.m rfl (ak (ai 0) (ak (ai 1) (ak (ai 2) ar)))))) bu)
  (aH (aL (aO rfl C (Kg Z) hr.m rfl (ak (ai 0) (ak (ai 1) (ak (ai 2) ar))))))))))
theorem wy:∀ d,GF P w (bx K cls exc) mg base (5+d+1) "halved" (iV d)
 | 0=>gf Z.d_halved AG fun _ _ _ _=>mD
 | d+1=>gf Z.d_halved AG fun hr C hu nd =>
  (aE (aJ (aX (aM rfl hu) (aN (b_len rfl) rfl Z.b_len KZ (ak (ai 1) ar)) aD (aP _)) (aH (aL (aA rfl hu (ai 1) aD))) bu)
  (aE (aQ (i:=2) nd (aW xY (aN (b_len rfl) rfl Z.b_len KZ (ak (ai 1) ar)) aD))
  (aH (aL (bw rfl C (gQ Z) (hr.mono (show 5<=5+(d+1) by lia)) (ai 0) (ak (aO rfl C (wy d) (hr.mono (by lia)) rfl (ak (ai 0) (ak (cT rfl (ai 1) dt (cP (ai 2))) ar))) (ak (aO rfl C (wy d) (hr.mono (by lia)) rfl (ak (ai 0) (ak (cT rfl (ai 1) (cP (ai 2)) dt) ar))) ar)))))))
theorem A2:GF P w (bx K cls exc) mg base 27 "built" lI:=gf Z.d_built JN fun {f cdv A outer s H E} hr C hu nd =>
 (aE (aJ (gG (fg rfl (aO rfl C (AN Z) hr.m rfl (ak (ai 1) ar)))) (aH (jS Z.x_NoText jD rfl (ak bH ar))) bu)
  (aE (aJ (aX fY (aN (b_len rfl) rfl Z.b_len KZ (ak (ai 1) ar)) (fD rfl Z.c_MOST_PLAIN) (aP _)) (aH (jS Z.x_TooLong jD rfl (ak bH ar))) bu)
  (aE (aJ (aX (aM rfl hu) (ai 1) bH (aP _)) (aH (aL aD)) bu)
  (aE (pJ (jf:=[(0, "shelf"),(1, "plain")]) (mC (N:=["shelf", "plain", "leaves"]) (sc:=aS qF) rfl (fun _=>rfl) (by decide +kernel)) rfl (yD (E:=(fun _=>E)) rfl Z.b_range aD (aN (b_len rfl) rfl Z.b_len KZ (ak (ai 1) ar)) (fD rfl Z.c_LEAF_SIGNS)) (fun _ _ _ _ _=>nA) (fun _ _ _ _ _=>(bw rfl (CA.never rfl) (A0 Z) hr.m (ai 1) (ak (cT rfl (ai 2) (cP (ai 0)) (cP (aW (bX rfl) (ai 0) (fD rfl Z.c_LEAF_SIGNS)))) ar))) nd (i:=2))
  (aH (aL (aO rfl C (wy Z 20) hr.m rfl (ak (ai 0) (ak (ai 2) ar)))))))))
theorem Kh:GF P w (bx K cls exc) mg base 100 "_law_grown" mH:=gf Z.d_law_grown JO fun hr C hu nd =>
 (aE (aQ (i:=3) nd aD)
  (aE (aQ (i:=4) nd (ai 1))
  (aE (iD rfl (mw (E:=EN) rfl Z.b_range (aO rfl (C.nox) (gB Z) hr.m rfl (ak (ai 2) (ak aD ar)))) (iP (i:=5) nd) (aE (aQ (i:=6) nd (aO rfl (C.nox) (gB Z) hr.m rfl (ak (ai 2) (ak (aW (bX rfl) (aN (b_len rfl) rfl Z.b_len KZ (ak (ai 4) ar)) aD) ar))))
  (aE (aQ (i:=3) nd (aO rfl (C.nox) (A1 Z) hr.m rfl (ak (ai 0) (ak (ai 3) (ak (aO rfl (C.nox) (A2 Z) hr.m rfl (ak (ai 0) (ak (cT rfl (ai 4) dt (cP (ai 6))) ar))) ar)))))
  (aH (aQ (i:=4) nd (cT rfl (ai 4) (cP (ai 6)) dt))))))
  (aH (aL (aO rfl C (A1 Z) hr.m rfl (ak (ai 0) (ak (ai 3) (ak (aO rfl C (A2 Z) hr.m rfl (ak (ai 0) (ak (ai 4) ar))) ar)))))))))
theorem Ki:GF P w (bx K cls exc) mg base 2 "_law_told" jY:=gf Z.d_law_told JP fun hr C hu nd =>
 (aE (aQ (i:=2) nd (aO rfl C (gB Z) hr.m rfl (ak (ai 0) (ak aD ar))))
  (aE (aJ (aX (aM rfl hu) (ai 2) aD (aP _)) (aH (aL (fy (ak bH (ak (aA rfl hu (ai 1) aD) ar))))) bu)
  (aE (aJ (cN (jO (aX (aM rfl hu) (aN (b_len rfl) rfl Z.b_len KZ (ak (ai 1) ar)) aD (aP _)) (jM (aX dM (ai 2) aD (aP _))))) (aH (aL (fy (ak bH (ak (aA rfl hu (ai 1) aD) (ak bH (ak (cT rfl bH dt (cP (ai 2))) ar))))))) bu)
  (aE (aJ (cN (jO (aX (aM rfl hu) (aN (b_len rfl) rfl Z.b_len KZ (ak (ai 1) ar)) aD (aP _)) (jM (aX (aM rfl hu) (ai 2) aD (aP _))))) (aH (aL (fy (ak bH (ak (aA rfl hu (ai 1) aD) (ak (aA rfl hu (ai 1) aD) (ak (aA rfl hu (ai 1) aD) ar))))))) bu)
  (aE (aJ (cN (jO (aX (aM rfl hu) (aN (b_len rfl) rfl Z.b_len KZ (ak (ai 1) ar)) aD (aP _)) (jM (aX (aM rfl hu) (ai 2) aD (aP _))))) (aH (aL (fy (ak bH (ak (aA rfl hu (ai 1) aD) (ak (aA rfl hu (ai 1) aD) (ak bH ar))))))) bu)
  (aH (aL (ai 1))))))))
theorem A4:GF P w (bx K cls exc) mg base 1 "_law_whole" fE:=gf Z.d_law_whole JQ fun hr C hu nd =>
 (aH (aL (h9 (iQ rfl rfl Z.b_isinstance (ai 0) rfl Z.b_int xC (by decide)) (iC (sk (iQ rfl rfl Z.b_isinstance (ai 0) rfl Z.b_bool rT (by decide)))))))
theorem Kj:GF P w (bx K cls exc) mg base 5 "_law_bent" jZ:=gf Z.d_law_bent JR fun hr C hu nd =>
 (aE (aQ (i:=3) nd (aO rfl C (gB Z) hr.m rfl (ak (ai 0) (ak aD ar))))
  (aE (aQ (i:=4) nd (aO rfl C (gB Z) hr.m rfl (ak (ai 0) (ak (aW (bX rfl) (aN (b_len rfl) rfl Z.b_len KZ (ak (ai 2) ar)) aD) ar))))
  (@aE _ _ _ _ _ _ _ (@aQ _ _ _ _ _ _ 5 _ _ nd (@gU _ _ _ _ _ _ (@ig _ _ _ _ _ _ _ jh (@ig _ _ _ _ _ _ _ dj (@ig _ _ _ _ _ _ _ aD (@ig _ _ _ _ _ _ _ (kj aD) (@ig _ _ _ _ _ _ _ (aW (bX rfl) (mz rfl C (mQ Z) hr.m (ai 1)) aD) (@ig _ _ _ _ _ _ _ (aW lq aD aD) (@ig _ _ _ _ _ _ _ bH (@ig _ _ _ _ _ _ _ bH (@ig _ _ _ _ _ _ _ bH (@ig _ _ _ _ _ _ _ (fZ ar) (@ig _ _ _ _ _ _ _ (fy (ak bH ar)) (@ig _ _ _ _ _ _ _ bH (@ig _ _ _ _ _ _ _ bH ar rfl) rfl) rfl) rfl) rfl) rfl) rfl) rfl) rfl) rfl) rfl) rfl) rfl)) rfl (Or.inl rfl) rfl (.inl rfl))
  (aE (cJ (cf rfl KP K2 K3 (fh) dE (ai 5) (ak (aW (bX rfl) aD (aO rfl C (gB Z) hr.m rfl (ak (ai 0) (ak (aN (pN) rfl Z.b_max Ml (ak aD (ak (mz rfl C (mQ Z) hr.m (ai 1)) ar))) ar)))) ar)))
  (aE (aJ (aX (aM rfl hu) (ai 3) aD (aP _)) (aH (aL (aW (bX rfl) (aW (bX rfl) (cT rfl (ai 2) dt (cP (ai 4))) (fZ (ak (aA rfl hu (ai 5) (aO rfl C (gB Z) hr.m rfl (ak (ai 0) (ak (aN (b_len rfl) rfl Z.b_len KZ (ak (ai 5) ar)) ar)))) ar))) (cT rfl (ai 2) (cP (ai 4)) dt)))) bu)
  (aE (aJ (aX (aM rfl hu) (ai 3) aD (aP _)) (aH (aL (aW (bX rfl) (cT rfl (ai 2) dt (cP (ai 4))) (cT rfl (ai 2) (cP (aW (bX rfl) (ai 4) aD)) dt)))) bu)
  (aE (aJ (aX (aM rfl hu) (ai 3) aD (aP _)) (aH (aL (aW (bX rfl) (cT rfl (ai 2) dt (cP (ai 4))) (cT rfl (ai 2) (cP (aN (pN) rfl Z.b_max Ml (ak aD (ak (aW lh (ai 4) aD) ar)))) dt)))) bu)
  (aE (aJ (aX (aM rfl hu) (ai 3) aD (aP _)) (aH (aL (aW (bX rfl) (aW (bX rfl) (cT rfl (ai 2) dt (cP (ai 4))) (FZ rfl (cT rfl (ai 2) (cP (ai 4)) (cP (aW (bX rfl) (ai 4) aD))) (kj aD))) (cT rfl (ai 2) (cP (aW (bX rfl) (ai 4) aD)) dt)))) bu)
  (aE (aJ (cN (jO (aX (aM rfl hu) (ai 3) aD (aP _)) (jM (aX dM (ai 4) (aN (b_len rfl) rfl Z.b_len KZ (ak (ai 2) ar)) (aP _))))) (aH (aL (aW (bX rfl) (aW (bX rfl) (cT rfl (ai 2) dt (cP (ai 4))) (fZ (ak (aA rfl hu (ai 5) (aO rfl C (gB Z) hr.m rfl (ak (ai 0) (ak (aN (b_len rfl) rfl Z.b_len KZ (ak (ai 5) ar)) ar)))) ar))) (cT rfl (ai 2) (cP (aW (bX rfl) (ai 4) aD)) dt)))) bu)
  (aE (aQ (i:=6) nd (gU ar))
  (aE (iD rfl (jQ (E:=EN) rfl (ai 2)) (iP (i:=7) nd) (aH (aJ (cN (iB (gG (fg rfl (aO rfl (C.nox) (A4 Z) hr.m rfl (ak (ai 7) ar)))) (iB (gG (pH dM dO aD (ai 7) (mz rfl (C.nox) (mQ Z) hr.m (ai 1)))) (ji (aX (aM rfl hu) (aO rfl (C.nox) (gB Z) hr.m rfl (ak (ai 0) (ak aD ar))) aD (aP _)))))) (aH (cJ (cf rfl KP K2 K3 (fh) dE (ai 6) (ak (ai 7) ar)))) (aH (aJ (aX (aM rfl hu) (aA rfl hu (bw rfl (C.nox) (gp Z) hr.m (ai 1) (ak (ai 7) ar)) aD) bH (aP _)) (aH (cJ (cf rfl KP Na Nb (yK rfl) dE (ai 6) (ak (jT (pQ rfl) rfl Z.b_list qC (ak (aA rfl hu (bw rfl (C.nox) (gp Z) hr.m (ai 1) (ak (ai 7) ar)) aD) ar)) ar)))) (aH (cJ (cf rfl KP Na Nb (yK rfl) dE (ai 6) (ak (jT (pQ rfl) rfl Z.b_list qC (ak (cT rfl (bw rfl (C.nox) (gp Z) hr.m (ai 1) (ak (ai 7) ar)) (cP aD) dt) ar)) ar)))))))))
  (aH (aL (ai 6))))))))))))))
theorem A5:GF P w (bx K cls exc) mg base 2 "_law_flat" j4:=gf Z.d_law_flat JS fun hr C hu nd =>
 (aE (aQ (i:=2) nd (gU ar))
  (aE (iD rfl (jQ (E:=EN) rfl (ai 1)) (iP (i:=3) nd) (aH (aJ (fg rfl (iQ rfl rfl Z.b_isinstance (ai 3) rfl Z.b_str mq (by decide))) (aE (pJ (jf:=[]) (mC (N:=["shelf", "items", "found", "item", "plain"]) (sc:=aS qG) rfl (fun _=>rfl) (by decide +kernel)) rfl (jQ (E:=EN) rfl (ai 3)) (fun _ _ _ _ _=>Fl (cN (iB (pH dO dO bH (ai 0) bH) (ji (aX (aM rfl hu) (ai 0) bH (aP _)))))) (fun _ _ _ _ _=>(ai 0)) nd (i:=4))
  (aE (aJ (cN (iB (gG (pH dM dM aD (aN (b_len rfl) rfl Z.b_len KZ (ak (ai 3) ar)) aD)) (ji (aX dM (aN (b_len rfl) rfl Z.b_len KZ (ak (ai 4) ar)) (aN (b_len rfl) rfl Z.b_len KZ (ak (ai 3) ar)) (aP _))))) (aH (aL jh)) bu)
  (aH (aQ (i:=2) nd (aW (FW rfl) (ai 2) (ai 4)))))) (aH (aJ (cN (jO (fg rfl (aO rfl (C.nox) (A4 Z) hr.m rfl (ak (ai 3) ar))) (jM (pH dM dO aD (ai 3) (mz rfl (C.nox) (mQ Z) hr.m (ai 0)))))) (aH (cJ (cf rfl KP K2 K3 (fh) dE (ai 2) (ak (ai 3) ar)))) (aH (aL jh)))))))
  (aH (aL (ai 2)))))
theorem wz:∀ d,GF P w (bx K cls exc) mg base (4+d+1) "_law_match" (dG d)
 | 0=>gf Z.d_law_match AI fun _ _ _ _=>mD
 | d+1=>gf Z.d_law_match AI fun hr C hu nd =>
  (aE (aJ (aX jL (ai 3) (aN (b_len rfl) rfl Z.b_len KZ (ak (ai 2) ar)) (aP _)) (aH (aL (aW (bX rfl) (aN (b_len rfl) rfl Z.b_len KZ (ak (ai 2) ar)) aD))) bu)
  (aE (aJ (aX (aM rfl hu) (aA rfl hu (ai 2) (ai 3)) (ai 1) (aP _)) (aH (aL (aW (bX rfl) (ai 3) aD))) bu)
  (aE (aQ (i:=4) nd (bw rfl C (gp Z) (hr.mono (show 4<=4+(d+1) by lia)) (ai 0) (ak (ai 1) ar)))
  (aE (aJ (aX (aM rfl hu) (aA rfl hu (ai 4) aD) bH (aP _)) (aE (iD rfl (Ga (E:=EN) rfl rfl Z.b_enumerate (aA rfl hu (ai 4) aD)) (E9 rfl rfl (yb (i:=5) nd (yb (i:=6) nd E8))) (aE (aJ (aX jL (aW (bX rfl) (ai 3) (ai 5)) (aN (b_len rfl) rfl Z.b_len KZ (ak (ai 2) ar)) (aP _)) (aH (aL (aW (bX rfl) (aN (b_len rfl) rfl Z.b_len KZ (ak (ai 2) ar)) aD))) bu)
  (aH (aJ (aX (da rfl hu) (aA rfl hu (ai 2) (aW (bX rfl) (ai 3) (ai 5))) (ai 6) (aP _)) (aH (aL jh)) bu))))
  (aH (aL (aW (bX rfl) (ai 3) (aN (b_len rfl) rfl Z.b_len KZ (ak (aA rfl hu (ai 4) aD) ar)))))) bu)
  (aE (aQ (i:=7) nd (aO rfl C (wz d) (hr.mono (by lia)) rfl (ak (ai 0) (ak (aA rfl hu (ai 4) aD) (ak (ai 2) (ak (ai 3) ar))))))
  (aE (aJ (cN (iB (aX pG (ai 7) jh (aP _)) (ji (aX fY (ai 7) (aN (b_len rfl) rfl Z.b_len KZ (ak (ai 2) ar)) (aP _))))) (aH (aL (ai 7))) bu)
  (aH (aL (aO rfl C (wz d) (hr.mono (by lia)) rfl (ak (ai 0) (ak (aA rfl hu (ai 4) aD) (ak (ai 2) (ak (ai 7) ar)))))))))))))
theorem Kk:GF P w (bx K cls exc) mg base 96 "_law_spelt" fF:=gf Z.d_law_spelt JT fun hr C hu nd =>
 (aE (aQ (i:=3) nd (aO rfl C (A5 Z) hr.m rfl (ak (ai 0) (ak (ai 2) ar))))
  (aE (aJ (cN (iB (aX pG (ai 3) jh (aP _)) (ji (aX (aM rfl hu) (ai 1) aD (aP _))))) (aH (aL (fy (ak (gs (aM rfl hu) (ai 3) (fZ ar) (aP _)) (ak (gs (aM rfl hu) (ai 3) (fZ ar) (aP _)) ar))))) bu)
  (aE (aQ (i:=4) nd (aO rfl C (wz Z 90) hr.m rfl (ak (ai 0) (ak (ai 1) (ak (ai 3) (ak aD ar))))))
  (aH (aL (fy (ak (h9 (gs E4 (ai 4) jh (aP _)) (iC (gs jL (ai 4) (aN (b_len rfl) rfl Z.b_len KZ (ak (ai 3) ar)) (aP _)))) (ak (gs (aM rfl hu) (ai 4) (aN (b_len rfl) rfl Z.b_len KZ (ak (ai 3) ar)) (aP _)) ar))))))))
theorem wA:∀ d,GF P w (bx K cls exc) mg base (4+d+1) "_law_reads" (jr d)
 | 0=>gf Z.d_law_reads AJ fun _ _ _ _=>mD
 | d+1=>gf Z.d_law_reads AJ fun hr C hu nd =>
  (aE (aJ (aX (aM rfl hu) (ai 1) aD (aP _)) (aH (aL bH)) bu)
  (aE (aQ (i:=2) nd (bw rfl C (gp Z) (hr.mono (show 4<=4+(d+1) by lia)) (ai 0) (ak (ai 1) ar)))
  (aE (aJ (aX (aM rfl hu) (aA rfl hu (ai 2) aD) bH (aP _)) (aH (aL (aA rfl hu (ai 2) aD))) bu)
  (aH (aL (aW (bX rfl) (aO rfl C (wA d) (hr.mono (by lia)) rfl (ak (ai 0) (ak (aA rfl hu (ai 2) aD) ar))) (aO rfl C (wA d) (hr.mono (by lia)) rfl (ak (ai 0) (ak (aA rfl hu (ai 2) aD) ar)))))))))
theorem Kl:GF P w (bx K cls exc) mg base 97 "_law_due" iX:=gf Z.d_law_due JU fun {f cdv A outer s H E} hr C hu nd =>
 (aE (pJ (jf:=[(0, "shelf"),(3, "told")]) (mC (N:=["shelf", "texts", "plains", "told", "spelt", "many", "item", "ends"]) (sc:=aS qH) rfl (fun _=>rfl) (by decide +kernel)) rfl (jQ (E:=(fun _=>E)) rfl (ai 1)) (fun _ _ _ _ _=>nA) (fun _ _ _ _ _=>(aO rfl (CA.never rfl) (Kk Z) hr.m rfl (ak (ai 1) (ak (ai 0) (ak (aA rfl hu (ai 2) aD) ar))))) nd (i:=4))
  (aE (aJ (aX (aM rfl hu) (aA rfl hu (ai 3) aD) bH (aP _)) (aH (aL (h9 (aA rfl hu (aA rfl hu (ai 4) aD) aD) (iC (aA rfl hu (aA rfl hu (ai 4) aD) aD))))) bu)
  (aE (aJ (cN (iB (gG (fg rfl (aA rfl hu (aA rfl hu (ai 4) aD) aD))) (ji (gG (fg rfl (aA rfl hu (aA rfl hu (ai 4) aD) aD)))))) (aH (aL dj)) bu)
  (aE (aQ (i:=5) nd aD)
  (aE (iD rfl (jQ (E:=EN) rfl (aO rfl (C.nox) (A5 Z) hr.m rfl (ak (ai 0) (ak (aA rfl hu (ai 3) aD) ar)))) (iP (i:=6) nd) (aE (aQ (i:=5) nd (aW (bX rfl) (ai 5) aD))
  (aH (aJ (gG (fg rfl (iQ rfl rfl Z.b_isinstance (ai 6) rfl Z.b_str mq (by decide)))) (aH (aQ (i:=5) nd (aW (bX rfl) (aW lh (ai 5) aD) (aN (b_len rfl) rfl Z.b_len KZ (ak (aO rfl (C.nox) (wA Z 90) hr.m rfl (ak (ai 0) (ak (ai 6) ar))) ar))))) bu))))
  (aE (aQ (i:=7) nd (fy (ak (cT rfl (aA rfl hu (ai 2) aD) (cP (ai 5)) (cP (aW (bX rfl) (ai 5) aD))) (ak (cT rfl (aA rfl hu (ai 2) aD) (cP (ai 5)) (cP (aW (bX rfl) (ai 5) aD))) ar))))
  (aH (aL (h9 (gs (da rfl hu) (aA rfl hu (ai 7) aD) (aA rfl hu (ai 7) aD) (aP _)) (iC (gs (aM rfl hu) (cT rfl (ai 3) (cP aD) dt) (ai 7) (aP _))))))))))))
theorem Km {f:Addr} {fd:FuncData} (h4:Fun K "law" "law" oI f fd):FnOk P w K mg base (dU P w) 101 f fd ["script"] (jR (bx K cls exc) sO):=gl (T:=bx K cls exc) h4 JV fun hr C hu nd =>
 (aE (aQ (i:=1) nd (Fq rfl C (JW Z) hr.m rfl))
  (aE (iD rfl (mw (E:=EN) rfl Z.b_range aD) (iP (i:=2) nd) (aE (aQ (i:=3) nd (aO rfl (C.nox) (JY Z) hr.m rfl (ak (ai 0) (ak (ai 2) ar))))
  (aE (aQ (i:=4) nd (aO rfl (C.nox) (JZ Z) hr.m rfl (ak (ai 3) (ak aD ar))))
  (aE (pJ (jf:=[(1, "shelf"),(3, "stream")]) (mC (N:=["script", "shelf", "k", "stream", "plains", "texts", "told", "many", "turn", "items", "bend", "asked", "kept", "found"]) (sc:=aS oI) rfl (fun _=>rfl) (by decide +kernel)) rfl (jQ (E:=EN) rfl (ai 4)) (fun _ _ _ _ _=>nA) (fun _ _ _ _ _=>(aO rfl (CA.never rfl) (Kh Z) hr.m rfl (ak (ai 1) (ak (ai 0) (ak (ai 2) ar))))) nd (i:=5))
  (aE (aQ (i:=6) nd (aO rfl (C.nox) (J4 Z) hr.m rfl (ak (ai 1) (ak (aA rfl hu (ai 5) aD) (ak (aA rfl hu (ai 5) aD) ar)))))
  (aE (aQ (i:=7) nd (mz rfl (C.nox) (mQ Z) hr.m (ai 1)))
  (aE (iD rfl (mw (E:=EN) rfl Z.b_range aD) (iP (i:=8) nd) (aE (aQ (i:=9) nd (jT (pQ rfl) rfl Z.b_list qC (ak (aA rfl hu (ai 6) aD) ar)))
  (aE (iD rfl (mw (E:=EN) rfl Z.b_range (aO rfl (((C.nox).nox).nox) (gB Z) hr.m rfl (ak (ai 3) (ak aD ar)))) (iP (i:=10) nd) (aH (aQ (i:=9) nd (aO rfl (((C.nox).nox).nox) (Kj Z) hr.m rfl (ak (ai 3) (ak (ai 1) (ak (ai 9) ar)))))))
  (aE (aQ (i:=11) nd (aO rfl ((C.nox).nox) (Ki Z) hr.m rfl (ak (ai 3) (ak (aW (bX rfl) (fy (ak (aA rfl hu (ai 6) aD) (ak (ai 9) ar))) (cT rfl (ai 6) (cP aD) dt)) ar))))
  (aE (aQ (i:=12) nd (jT (pQ rfl) rfl Z.b_list qC (ak (ai 9) ar)))
  (aE (aQ (i:=13) nd (aO rfl ((C.nox).nox) (qL Z) hr.m rfl (ak (ai 1) (ak (aA rfl hu (ai 5) aD) (ak (aA rfl hu (ai 5) aD) (ak (ai 11) ar))))))
  (aH (aJ (cN (iB (gG (fg rfl (iQ rfl rfl Z.b_isinstance (ai 13) rfl Z.b_bool rT (by decide)))) (iB (aX (da rfl hu) (ai 13) (aO rfl ((C.nox).nox) (Kl Z) hr.m rfl (ak (ai 1) (ak (ai 5) (ak (ai 4) (ak (ai 11) ar))))) (aP _)) (ji (aX (da rfl hu) (ai 9) (ai 12) (aP _)))))) (aH (aL dj)) bu))))))))
  (aH (aJ (cN (iB (aX FQ (aO rfl (C.nox) (qL Z) hr.m rfl (ak (ai 1) (ak (aA rfl hu (ai 5) aD) (ak (aA rfl hu (ai 5) aD) (ak (ai 6) ar))))) dj (aP _)) (ji (aX (da rfl hu) (mz rfl (C.nox) (mQ Z) hr.m (ai 1)) (ai 7) (aP _))))) (aH (aL dj)) bu)))))))))
  (aH (aL (h9 (aO rfl C (qL Z) hr.m rfl (ak (ai 1) (ak aD (ak aD (ak (fy (ak bH (ak (fZ ar) ar))) ar))))) (iC (sk (aO rfl C (qL Z) hr.m rfl (ak (ai 1) (ak aD (ak aD (ak (fy (ak bH (ak (fZ ar) (ak bH (ak bH ar))))) ar))))))))))))
end
end Sk
namespace Sk
open PySem PySem.Spec L2 Sm
abbrev FX (l:PySem.W.OpenLaw) (w:World) (K:PySem.W.Frag) (mg:Str->Option Value) (fa:Addr):Prop:=∃ fd:FuncData,(∀ (s:Shared) (v:Value),BindsTo s fd ⟨[v],[]⟩ [("script",v)])/\∀ base:Heap,K.In base->base.Ns mainGlobals mg->FnOk l.prog w K mg base (dU l.prog w) 101 fa fd ["script"] (sI K)
theorem all_mk {l:PySem.W.OpenLaw} {w:World} {K:PySem.W.Frag} {h:Heap} {mg:Str->Option Value} {fa C0 X0 X1 X2 X3 X4 X5:Addr} {tk_LEAF_SIGNS tk_MOST_PLAIN tk_MOST_SIGNS:Tok} (X:K.In h) (G:h.Ns mainGlobals mg) (hfa:mg "law" = some (.ref fa))
  (aC0:NA K "Shelf" (some (.ref C0))) (a0:DN K C0 "__init__" "Shelf.__init__" vf) (a7:DN K C0 "has_piece" "Shelf.has_piece" vm) (a8:DN K C0 "check_piece" "Shelf.check_piece" vo) (a9:DN K C0 "check_text" "Shelf.check_text" vp) (a11:DN K C0 "signs" "Shelf.signs" vt) (a13:DN K C0 "piece" "Shelf.piece" vw) (a22:DN K C0 "many" "Shelf.many" vF) (a32:DN K C0 "last_leaf" "Shelf.last_leaf" vO) (a33:DN K C0 "first_leaf" "Shelf.first_leaf" vP) (a35:DN K C0 "check_fork" "Shelf.check_fork" vR) (a36:DN K C0 "lay" "Shelf.lay" vS) (a37:DN K C0 "lay_fork" "Shelf.lay_fork" vT) (a38:DN K C0 "fork" "Shelf.fork" vU) (a40:DN K C0 "height" "Shelf.height" vW) (a46:DN K C0 "lay_leaf" "Shelf.lay_leaf" v9) (a47:DN K C0 "leaf" "Shelf.leaf" wa) (a1:DK K "_law_mixed" vg) (a2:DK K "_law_stream" qD) (a3:DK K "_law_take" vh) (a4:DK K "_law_plain" vi) (a5:DK K "_law_pair" vj) (a6:DK K "is_whole" vk) (a10:DK K "whole_left" vq) (a12:DK K "size_of" vv) (a14:DK K "opens_fork" vx) (a15:DK K "next_signs" vy) (a16:DK K "puts_back" vz) (a17:DK K "common_signs" vA) (a18:DK K "common_item" vB) (a19:DK K "common_items" vC) (a20:DK K "next_sign" vD) (a21:DK K "held_together" vE) (a23:DK K "takes_piece" vG) (a24:DK K "is_plain_sign" vH) (a25:DK K "is_plain" qE) (a26:DK K "is_short" vI) (a27:DK K "takes_plain" vJ) (a28:DK K "takes_item" vK) (a29:DK K "left_behind" vL) (a30:DK K "told_stands" vM) (a31:DK K "check_length" vN) (a34:DK K "are_close" vQ) (a39:DK K "with_last" vV) (a41:DK K "turned_left" vX) (a42:DK K "without_first" vY) (a43:DK K "turned_right" vZ) (a44:DK K "linked" v7) (a45:DK K "ends_in" v8) (a48:DK K "welded" wb) (a49:DK K "joined" wc) (a50:DK K "halved" wd) (a51:DK K "built" qF) (a52:DK K "_law_grown" we) (a53:DK K "_law_told" wg) (a54:DK K "_law_whole" wj) (a55:DK K "_law_bent" wk) (a56:DK K "_law_flat" qG) (a57:DK K "_law_match" wm) (a58:DK K "_law_spelt" wo) (a59:DK K "_law_reads" wq) (a60:DK K "_law_due" qH) (a61:DK K "law" oI) (kk0:Cls K C0) (mk0:PySem.W.makesIn K C0=true) (kc0:PySem.W.keepIn K (.ref C0)=true) (nf0_0:FA K C0 "pieces") (nf0_1:FA K C0 "numbers") (nf0_2:FA K C0 "sign_counts") (nf0_3:FA K C0 "end_counts") (nf0_4:FA K C0 "leaf_counts") (nf0_5:FA K C0 "heights") (nf0_6:FA K C0 "first_leaves") (nf0_7:FA K C0 "last_leaves") (z_abs:NA K "abs" none) (z_all:NA K "all" none) (z_bool:NA K "bool" none) (z_enumerate:NA K "enumerate" none) (z_int:NA K "int" none) (z_isinstance:NA K "isinstance" none) (z_len:NA K "len" none) (z_list:NA K "list" none) (z_max:NA K "max" none) (z_min:NA K "min" none) (z_range:NA K "range" none) (z_str:NA K "str" none) (z_sum:NA K "sum" none) (e_SkeinError:NA K "SkeinError" (some (.ref X0))) (e_NoText:NA K "NoText" (some (.ref X1))) (x_NoText:XI K X1) (e_NoPiece:NA K "NoPiece" (some (.ref X2))) (x_NoPiece:XI K X2) (e_Loose:NA K "Loose" (some (.ref X3))) (x_Loose:XI K X3) (e_Unlevel:NA K "Unlevel" (some (.ref X4))) (x_Unlevel:XI K X4) (e_TooLong:NA K "TooLong" (some (.ref X5))) (x_TooLong:XI K X5) (m_LEAF_SIGNS:NA K "LEAF_SIGNS" (some (.int 8 tk_LEAF_SIGNS))) (m_MOST_PLAIN:NA K "MOST_PLAIN" (some (.int 10000 tk_MOST_PLAIN))) (m_MOST_SIGNS:NA K "MOST_SIGNS" (some (.int 1000000000000000000 tk_MOST_SIGNS)))
  : FX l w K mg fa:=by
 have Z:∀ base:Heap,K.In base->kI l.prog w K (fun n=>[C0][n]?) (fun n=>[X0,X1,X2,X3,X4,X5][n]?) mg base:=fun base KB=>{
   b_abs:=Lx X G z_abs,
   b_all:=Lx X G z_all,
   b_bool:=Lx X G z_bool,
   b_enumerate:=Lx X G z_enumerate,
   b_int:=Lx X G z_int,
   b_isinstance:=Lx X G z_isinstance,
   b_len:=Lx X G z_len,
   b_list:=Lx X G z_list,
   b_max:=Lx X G z_max,
   b_min:=Lx X G z_min,
   b_range:=Lx X G z_range,
   b_str:=Lx X G z_str,
   b_sum:=Lx X G z_sum,
   c_LEAF_SIGNS:=⟨_,Mi X G m_LEAF_SIGNS⟩,
   c_MOST_PLAIN:=⟨_,Mi X G m_MOST_PLAIN⟩,
   c_MOST_SIGNS:=⟨_,Mi X G m_MOST_SIGNS⟩,
   cf_Shelf:=⟨C0,rfl,kk0,fun f hf=>by
   have hf2:f∈cK 0:=hf
   simp only [cK,K6,MI,Oy] at hf2
   rcases hf2 with rfl | rfl | rfl | rfl | rfl | rfl | rfl | rfl
   ·exact nf0_0
   ·exact nf0_1
   ·exact nf0_2
   ·exact nf0_3
   ·exact nf0_4
   ·exact nf0_5
   ·exact nf0_6
   ·exact nf0_7⟩,
   x_NoText:=gx KB X G rfl e_NoText x_NoText,
   x_NoPiece:=gx KB X G rfl e_NoPiece x_NoPiece,
   x_Loose:=gx KB X G rfl e_Loose x_Loose,
   x_Unlevel:=gx KB X G rfl e_Unlevel x_Unlevel,
   x_TooLong:=gx KB X G rfl e_TooLong x_TooLong,
   d_Shelf_init:=di rfl (Mi X G aC0) mk0 kc0 a0 iR,
   d_law_mixed:=dg X G a1 dF,
   d_law_stream:=dg X G a2 dF,
   d_law_take:=dg X G a3 dF,
   d_law_plain:=dg X G a4 dF,
   d_law_pair:=dg X G a5 dF,
   d_is_whole:=dg X G a6 iR,
   d_Shelf_has_piece:=dm rfl kk0 a7 dF,
   d_Shelf_check_piece:=dm rfl kk0 a8 dF,
   d_Shelf_check_text:=dm rfl kk0 a9 dF,
   d_whole_left:=dg X G a10 dF,
   d_Shelf_signs:=dm rfl kk0 a11 dF,
   d_size_of:=dg X G a12 dF,
   d_Shelf_piece:=dm rfl kk0 a13 dF,
   d_opens_fork:=dg X G a14 fi,
   d_next_signs:=dg X G a15 dF,
   d_puts_back:=dg X G a16 dF,
   d_common_signs:=dg X G a17 fi,
   d_common_item:=dg X G a18 fi,
   d_common_items:=dg X G a19 fi,
   d_next_sign:=dg X G a20 dF,
   d_held_together:=dg X G a21 fi,
   d_Shelf_many:=dm rfl kk0 a22 iR,
   d_takes_piece:=dg X G a23 fi,
   d_is_plain_sign:=dg X G a24 iR,
   d_is_plain:=dg X G a25 iR,
   d_is_short:=dg X G a26 iR,
   d_takes_plain:=dg X G a27 fi,
   d_takes_item:=dg X G a28 fi,
   d_left_behind:=dg X G a29 fi,
   d_told_stands:=dg X G a30 sJ,
   d_check_length:=dg X G a31 iR,
   d_Shelf_last_leaf:=dm rfl kk0 a32 dF,
   d_Shelf_first_leaf:=dm rfl kk0 a33 dF,
   d_are_close:=dg X G a34 fi,
   d_Shelf_check_fork:=dm rfl kk0 a35 fi,
   d_Shelf_lay:=dm rfl kk0 a36 dF,
   d_Shelf_lay_fork:=dm rfl kk0 a37 dF,
   d_Shelf_fork:=dm rfl kk0 a38 fi,
   d_with_last:=dg X G a39 fi,
   d_Shelf_height:=dm rfl kk0 a40 dF,
   d_turned_left:=dg X G a41 fi,
   d_without_first:=dg X G a42 dF,
   d_turned_right:=dg X G a43 fi,
   d_linked:=dg X G a44 fi,
   d_ends_in:=dg X G a45 iR,
   d_Shelf_lay_leaf:=dm rfl kk0 a46 dF,
   d_Shelf_leaf:=dm rfl kk0 a47 dF,
   d_welded:=dg X G a48 fi,
   d_joined:=dg X G a49 fi,
   d_halved:=dg X G a50 dF,
   d_built:=dg X G a51 dF,
   d_law_grown:=dg X G a52 fi,
   d_law_told:=dg X G a53 dF,
   d_law_whole:=dg X G a54 iR,
   d_law_bent:=dg X G a55 fi,
   d_law_flat:=dg X G a56 dF,
   d_law_match:=dg X G a57 sJ,
   d_law_spelt:=dg X G a58 fi,
   d_law_reads:=dg X G a59 dF,
   d_law_due:=dg X G a60 sJ,
   d_law:=dg X G a61 iR }
 obtain ⟨fd,h1,F⟩:=sL (p := "script") X G hfa a61 iR
 exact ⟨fd,h1,fun base KB _=>FnOk.imp (Km (Z base KB) F) (FK (T:=bx K (fun n=>[C0][n]?) (fun n=>[X0,X1,X2,X3,X4,X5][n]?)) law_true)⟩
theorem walk {l:PySem.W.OpenLaw} {q:Program} {loose:List Str} {XP:(Str->Option Value)->Heap->Prop} {YP:World->Heap->Prop} {d:DefRec} {K:Params->PySem.W.Frag} (hn:l.most=some 63) (hdf:d.params.defaults=[])
  (hY:∀ (w:World) (h:Heap),YP w h->(K w.params).In h)
  (F:∀ (w:World) (mg:Str->Option Value) (fa:Addr) (h:Heap),(K w.params).In h->h.Ns mainGlobals mg->mg d.name=some (.ref fa)->FX l w (K w.params) mg fa) :
  PySem.W.WalkO q loose XP YP l.row.toRowW d [] (fun f vs=>PySem.call f vs) :=
 L2.walk_of (n:=63) (k:=101) (x := "script") (CX:=fun w=>dU l.prog w) (sp:=fun w=>sI (K w.params)) hn (by decide) hdf ⟨rfl,by decide,by decide⟩ hY F (fun _ _ a ns hl _ hS=>⟨a,ns,rfl,hS,hl,fun _=>rfl⟩) fun _ _ _ _ _ z=>FN z
end Sk
open PySem PySem.W PyProof.Rows
section
namespace PySem.W.Fast
def tw4448085941792064146:=0
def tw4867315953876613571:=0
def tw14733691612538045439:=0
def tw17187655257696187327:=0
def tw10680260823811821215:=0
def tw14180360350714160767:=0
def tw2485761834301482559:=0
def tw4722035449561542207:=0
def tw17047500199829049887:=0
def tw18315089629977410719:=0
def tw14274295984758232223:=0
def tw18057208566991488127:=0
def tw10370528711871377439:=0
def tw18163274819592290910:=0
def tw1269113881005771326:=0
def tw4193380385920333374:=0
def tw1347331129394272798:=0
def tw3163786741666834910:=0
def tw5961918056397972926:=0
def tw7686827241708005726:=0
def tw12140394782014068701:=0
def tw14231275389520132061:=0
def tw7826141214362834877:=0
def tw6873138622149920669:=0
def tw16202841022011569053:=0
def tw5795145876628202333:=0
def tw17358494943571772157:=0
def tw9898828719259857533:=0
def tw9915754799000587869:=0
def tw6895243360142106173:=0
def tw15627143315109157405:=0
def tw17075849522413688317:=0
def tw15268505299562784189:=0
def tw644541930722326973:=0
def tw136606302320515485:=0
def tw2823773908077994365:=0
def tw13618905626976154941:=0
def tw4641423812823400733:=0
def tw12065760110889392221:=0
def tw6322338706229701725:=0
def tw5213599936610589725:=0
def tw15112162992554132509:=0
def tw12143722355586924508:=0
def tw12089330671936547772:=0
def tw10586262700627503996:=0
def tw11024250084214963900:=0
def tw12000942570261582524:=0
def tw560855190841128572:=0
def tw4102478895360177756:=0
def tw12962015331437047324:=0
def tw12098009406044561884:=0
def tw2678320481200871868:=0
def tw2215635682831660252:=0
def tw1814707714402242652:=0
def tw10242696074551285788:=0
def tw1210606706029011996:=0
def tw2780038927460725755:=0
def tw8000414853693978459:=0
def tw3457856557821222715:=0
def tw9374598896918418107:=0
def tw5701220613313129115:=0
def tw94993671231251963:=0
def tw16980541886865120763:=0
def tw14247532420475754939:=0
def tw11950130760900846907:=0
def tw11067344350454135899:=0
def tw9865853094740862043:=0
def tw1893931190027994074:=0
def tw7023842209546619738:=0
def tw5177535815539262202:=0
def tw3382609538700220122:=0
def tw4396396292763978426:=0
def tw12132541792540525114:=0
def tw447476097955000890:=0
def tw3357455502229599770:=0
def tw7897162692786692634:=0
def tw10790469390631062906:=0
def tw7472702182389645626:=0
def tw4280804796991040698:=0
def tw9114084213557514201:=0
def tw10519069171550837721:=0
def tw4841962271552310105:=0
def tw13613108129902943033:=0
def tw16841998940298848985:=0
def tw16894434674552971993:=0
def tw792855537798548057:=0
def tw3039158919315427929:=0
def tw13380472371708045881:=0
def tw6771983922568970521:=0
def tw13099331160359862457:=0
def tw18266431799963259001:=0
def tw14528054721624914904:=0
def tw4028674042687205240:=0
def tw10796357518315747192:=0
def tw16637523499366732600:=0
def tw2329266106937246520:=0
def tw6011133319491963672:=0
def tw7419216681343938328:=0
def tw17638797640131900984:=0
def tw12759435024315589944:=0
def tw1594646766994525208:=0
def tw9188955016991535991:=0
def tw12635457189259981655:=0
def tw13327028558234423927:=0
def tw13726455338140666423:=0
def tw10046663712280470007:=0
def tw9139680144017244567:=0
def tw1464303510710131095:=0
def tw10666705168509101399:=0
def tw13955431084303307095:=0
def tw16368582430502977879:=0
def tw5111418367135583543:=0
def tw8006854227215246615:=0
def tw5666173711633496054:=0
def tw11863060524662932470:=0
def tw13926182762046541750:=0
def tw3504027549352918902:=0
def tw4445342605973869430:=0
def tw2899636074531512022:=0
def tw12185314131643141814:=0
def tw17255070196637581878:=0
def tw342697293522716118:=0
def tw15799255211675723190:=0
def tw6697937901980620086:=0
def tw15424215357878908182:=0
def tw3592168788684731638:=0
def tw8342012921679623350:=0
def tw9919672585652431990:=0
def tw5790370182750769238:=0
def tw18088037465125381174:=0
def tw12805623630157452342:=0
def tw2993571778306437109:=0
def tw1034737361857502165:=0
def tw3253289424426212213:=0
def tw12890941794929475381:=0
def tw11606046397098489397:=0
def tw10201656478881024565:=0
def tw3858604509434274293:=0
def tw6958479062856745397:=0
def tw1331950028031426901:=0
def tw8873764205377997013:=0
def tw4890975086914782421:=0
def tw8318134782237096660:=0
def tw8387982535699064308:=0
def tw6871915735435727348:=0
def tw17683746202566936020:=0
def tw6117052920160847316:=0
def tw7102343831951214932:=0
def tw6916454236111422644:=0
def tw5866002022486181012:=0
def tw7506899634413253748:=0
def tw4909870951895205972:=0
def tw13712724686717158484:=0
def tw10288224534663789459:=0
def tw1841030492770531059:=0
def tw5478647397265285523:=0
def tw14343855158284702067:=0
def tw9390872809515619571:=0
def tw12786314888716938451:=0
def tw13542101232436272307:=0
def tw7974581698784900243:=0
def tw1513463543609021523:=0
def tw515631379490806290:=0
def tw11218542042456407538:=0
def tw5595930730607299026:=0
def tw1864582258298841426:=0
def tw10698631546308290866:=0
def tw2360598580411458610:=0
def tw8203558943720823826:=0
def tw16383761560462773105:=0
def tw2341881826375846769:=0
def tw11237383274175437617:=0
def tw5484683767898256017:=0
def tw10907157852535329329:=0
def tw4895080343650599441:=0
def tw7242255070773807601:=0
def tw3195826170293465233:=0
def tw8611443472589952081:=0
def tw4205641598902934512:=0
def tw9855128954068770768:=0
def tw1751528028951746512:=0
def tw774391866047353776:=0
def tw7512211045664921392:=0
def tw12984029938190456592:=0
def tw16940153336758621904:=0
def tw579502632127331984:=0
def tw10088451355909119504:=0
def tw5639053749622246896:=0
def tw13687673378882542992:=0
def tw7133885625615066480:=0
def tw7452579429700008272:=0
def tw10839409324454765872:=0
def tw13724909382491830480:=0
def tw357390864334618704:=0
def tw16126280321306968144:=0
def tw2139981788327786512:=0
def tw1555900503011014639:=0
def tw6481275447531828015:=0
def tw13363987315118110447:=0
def tw2845622418899617295:=0
def tw10279876674286378319:=0
def tw17297467160085066031:=0
def tw4292381578001734703:=0
def tw1235181116048657455:=0
def tw1259495278002089934:=0
def tw7625660480466240430:=0
def tw7367261433117615982:=0
def tw12613990555326119534:=0
def tw10976159112104917582:=0
def tw9420270920959847982:=0
def tw16911623726063042094:=0
def tw1348775410743345550:=0
def tw845818949101496366:=0
def tw7278544776864684046:=0
def tw14443330444577614829:=0
def tw11951039934880918509:=0
def tw5621171651072791309:=0
def tw15610496204701785773:=0
def tw11290658780692880013:=0
def tw663226196055292429:=0
def tw13882639685586945421:=0
def tw8646424549416760685:=0
def tw11870871015180971373:=0
def tw15801441235740139853:=0
def tw8617535159523720493:=0
def tw13022823321637813357:=0
def tw17011373387514328141:=0
def tw3920671438591113293:=0
def tw5830668756574944301:=0
def tw4311965443172513837:=0
def tw939602437571973133:=0
def tw16351678145218641708:=0
def tw11049371356979696332:=0
def tw18444238093244842604:=0
def tw8986668959901031884:=0
def tw5881949477228185804:=0
def tw17804596412974276748:=0
def tw2921096172999609356:=0
def tw8892131468654304203:=0
def tw18443587951363850027:=0
def tw7364043767633237739:=0
def tw15773752417304203979:=0
def tw3999644376345158251:=0
def tw5715384318507802187:=0
def tw4149474850290241035:=0
def tw11032277583445712363:=0
def tw4292631462493987243:=0
def tw8862607022337759627:=0
def tw5015969706594838731:=0
def tw6707821341776816106:=0
def tw16090791912974568330:=0
def tw14719547339578207690:=0
def tw15432466509076149546:=0
def tw14157999457078905098:=0
def tw11058410180084203754:=0
def tw16139974618606394538:=0
def tw13348065835786994762:=0
def tw7117564496663887882:=0
def tw8862719338687773706:=0
def tw8383066696983493609:=0
def tw10199471441468219081:=0
def tw12944177137066222217:=0
def tw7604327827015488105:=0
def tw5832598420739242537:=0
def tw2329017252453254601:=0
def tw12597979551319817641:=0
def tw10593491464278022537:=0
def tw17715049771182526697:=0
def tw13870689233888686313:=0
def tw16306093907286048809:=0
def tw3514717406239645705:=0
def tw12590226927080072168:=0
def tw2532053286789090216:=0
def tw9610062194247861032:=0
def tw31024962578419464:=0
def tw4160881603522631368:=0
def tw15416979681225897672:=0
def tw4104930259621309960:=0
def tw11579618020932776392:=0
def tw15976253605896874344:=0
def tw7471097299365680424:=0
def tw6649020226608972040:=0
def tw13338097246310587560:=0
def tw11107986598270223464:=0
def tw11348823793532454984:=0
def tw5681405473276140584:=0
def tw11593268305672509480:=0
def tw12168243691375235112:=0
def tw18344991150319732744:=0
def tw8932256013393788936:=0
def tw7640197185148354568:=0
def tw1766007658135954215:=0
def tw3643454958329921287:=0
def tw18419822511368614375:=0
def tw1340675353363047687:=0
def tw10383272540738185479:=0
def tw10999092825117642919:=0
def tw7800300517141990471:=0
def tw2852499766435883942:=0
def tw1403997670734242694:=0
def tw13552376541140567878:=0
def tw15403102263598784998:=0
def tw6697173367711897990:=0
def tw14818187787492051238:=0
def tw13208645750493104422:=0
def tw5812764907006844166:=0
def tw11131665647038015590:=0
def tw11478019994058364006:=0
def tw9277539094816810022:=0
def tw12347436133156642789:=0
def tw4769231057644161957:=0
def tw4910104791927762661:=0
def tw13522493079654259237:=0
def tw6161762135697718789:=0
def tw8614158384919276005:=0
def tw513969944371768613:=0
def tw10190400052693767397:=0
def tw13115701406398482276:=0
def tw562167428303613636:=0
def tw9953926673287240260:=0
def tw3290523714997394948:=0
def tw5362951455009478020:=0
def tw5191494480344908132:=0
def tw1597835160976780580:=0
def tw6131480062507208932:=0
def tw16916854252186579076:=0
def tw15391820591358713956:=0
def tw5647361631931209828:=0
def tw4787263436490585156:=0
def tw9761269158022755203:=0
def tw315802449109045955:=0
def tw11313464655642976931:=0
def tw688999336172955267:=0
def tw6103919832909279875:=0
def tw8363456696059442787:=0
def tw11945527619980829219:=0
def tw18407132005443047971:=0
def tw7025753994915032419:=0
def tw5394527024949757283:=0
def tw2592536722388457795:=0
def tw825122689264145667:=0
def tw14055128987091155171:=0
def tw14733162732468611171:=0
def tw2719247856834953283:=0
def tw12973105255795880995:=0
def tw13320634508649977859:=0
def tw17270602735784676034:=0
def tw14003953128796913282:=0
def tw12497173332333895266:=0
def tw1631051606094220706:=0
def tw15287835107894921602:=0
def tw14509063325090410850:=0
def tw7747248750859203874:=0
def tw1297947288319346946:=0
def tw12240265948468781058:=0
def tw7499148082680904673:=0
def tw2099061614770818945:=0
def tw13943610334397384417:=0
def tw406582690844758721:=0
def tw12854941226842260961:=0
def tw13897416139669283233:=0
def tw13798510662330103169:=0
def tw15612223202685650273:=0
def tw2044457750377729217:=0
def tw11314579823004122113:=0
def tw14142609371084779488:=0
def tw10212020856502267840:=0
def tw3344924029316644608:=0
def tw3748709092097762016:=0
def tw9062389994792746656:=0
def tw13065716811185507936:=0
def tw15399417328091409920:=0
def tw16991783729800792384:=0
def tw10067217075766543488:=0
def tw5110069798021271648:=0
def tw13651957236497955872:=0
end PySem.W.Fast
end
set_option maxRecDepth 100000 in
set_option maxHeartbeats 0 in
theorem PySem.Challenge.cw_skeinwood_k63_told_stands_just_holds : PySem.Challenge.rw_skeinwood_k63_told_stands_just.Holds := by
 w_on; o_law; k_head; (case hw => w_witness2)
 k_fill
 refine Sk.walk (l := PySem.Challenge.rw_skeinwood_k63_told_stands_just) rfl rfl (fun w h Y => PySem.W.kIn_of Y) ?F
 case F =>
  intro w mg fa h KX G hmg
  refine' Sk.all_mk KX G hmg ?aC0 ?a0 ?a7 ?a8 ?a9 ?a11 ?a13 ?a22 ?a32 ?a33 ?a35 ?a36 ?a37 ?a38 ?a40 ?a46 ?a47 ?a1 ?a2 ?a3 ?a4 ?a5 ?a6 ?a10 ?a12 ?a14 ?a15 ?a16 ?a17 ?a18 ?a19 ?a20 ?a21 ?a23 ?a24 ?a25 ?a26 ?a27 ?a28 ?a29 ?a30 ?a31 ?a34 ?a39 ?a41 ?a42 ?a43 ?a44 ?a45 ?a48 ?a49 ?a50 ?a51 ?a52 ?a53 ?a54 ?a55 ?a56 ?a57 ?a58 ?a59 ?a60 ?a61 ?kk0 ?mk0 ?kc0 ?nf0_0 ?nf0_1 ?nf0_2 ?nf0_3 ?nf0_4 ?nf0_5 ?nf0_6 ?nf0_7 ?z_abs ?z_all ?z_bool ?z_enumerate ?z_int ?z_isinstance ?z_len ?z_list ?z_max ?z_min ?z_range ?z_str ?z_sum ?e_SkeinError ?e_NoText ?x_NoText ?e_NoPiece ?x_NoPiece ?e_Loose ?x_Loose ?e_Unlevel ?x_Unlevel ?e_TooLong ?x_TooLong ?m_LEAF_SIGNS ?m_MOST_PLAIN ?m_MOST_SIGNS
  (case aC0 => apply Sm.na;k_is)
  (case a0 => apply Sm.dn<;>k_is)
  (case a7 => apply Sm.dn<;>k_is)
  (case a8 => apply Sm.dn<;>k_is)
  (case a9 => apply Sm.dn<;>k_is)
  (case a11 => apply Sm.dn<;>k_is)
  (case a13 => apply Sm.dn<;>k_is)
  (case a22 => apply Sm.dn<;>k_is)
  (case a32 => apply Sm.dn<;>k_is)
  (case a33 => apply Sm.dn<;>k_is)
  (case a35 => apply Sm.dn<;>k_is)
  (case a36 => apply Sm.dn<;>k_is)
  (case a37 => apply Sm.dn<;>k_is)
  (case a38 => apply Sm.dn<;>k_is)
  (case a40 => apply Sm.dn<;>k_is)
  (case a46 => apply Sm.dn<;>k_is)
  (case a47 => apply Sm.dn<;>k_is)
  (case a1 => apply Sm.dk<;>k_is)
  (case a2 => apply Sm.dk<;>k_is)
  (case a3 => apply Sm.dk<;>k_is)
  (case a4 => apply Sm.dk<;>k_is)
  (case a5 => apply Sm.dk<;>k_is)
  (case a6 => apply Sm.dk<;>k_is)
  (case a10 => apply Sm.dk<;>k_is)
  (case a12 => apply Sm.dk<;>k_is)
  (case a14 => apply Sm.dk<;>k_is)
  (case a15 => apply Sm.dk<;>k_is)
  (case a16 => apply Sm.dk<;>k_is)
  (case a17 => apply Sm.dk<;>k_is)
  (case a18 => apply Sm.dk<;>k_is)
  (case a19 => apply Sm.dk<;>k_is)
  (case a20 => apply Sm.dk<;>k_is)
  (case a21 => apply Sm.dk<;>k_is)
  (case a23 => apply Sm.dk<;>k_is)
  (case a24 => apply Sm.dk<;>k_is)
  (case a25 => apply Sm.dk<;>k_is)
  (case a26 => apply Sm.dk<;>k_is)
  (case a27 => apply Sm.dk<;>k_is)
  (case a28 => apply Sm.dk<;>k_is)
  (case a29 => apply Sm.dk<;>k_is)
  (case a30 => apply Sm.dk<;>k_is)
  (case a31 => apply Sm.dk<;>k_is)
  (case a34 => apply Sm.dk<;>k_is)
  (case a39 => apply Sm.dk<;>k_is)
  (case a41 => apply Sm.dk<;>k_is)
  (case a42 => apply Sm.dk<;>k_is)
  (case a43 => apply Sm.dk<;>k_is)
  (case a44 => apply Sm.dk<;>k_is)
  (case a45 => apply Sm.dk<;>k_is)
  (case a48 => apply Sm.dk<;>k_is)
  (case a49 => apply Sm.dk<;>k_is)
  (case a50 => apply Sm.dk<;>k_is)
  (case a51 => apply Sm.dk<;>k_is)
  (case a52 => apply Sm.dk<;>k_is)
  (case a53 => apply Sm.dk<;>k_is)
  (case a54 => apply Sm.dk<;>k_is)
  (case a55 => apply Sm.dk<;>k_is)
  (case a56 => apply Sm.dk<;>k_is)
  (case a57 => apply Sm.dk<;>k_is)
  (case a58 => apply Sm.dk<;>k_is)
  (case a59 => apply Sm.dk<;>k_is)
  (case a60 => apply Sm.dk<;>k_is)
  (case a61 => apply Sm.dk<;>k_is)
  (case kk0 => constructor<;>k_is)
  (case mk0 => k_is)
  (case kc0 => k_is)
  (case nf0_0 => apply Sm.fatt;k_is)
  (case nf0_1 => apply Sm.fatt;k_is)
  (case nf0_2 => apply Sm.fatt;k_is)
  (case nf0_3 => apply Sm.fatt;k_is)
  (case nf0_4 => apply Sm.fatt;k_is)
  (case nf0_5 => apply Sm.fatt;k_is)
  (case nf0_6 => apply Sm.fatt;k_is)
  (case nf0_7 => apply Sm.fatt;k_is)
  (case z_abs => apply Sm.na;k_is)
  (case z_all => apply Sm.na;k_is)
  (case z_bool => apply Sm.na;k_is)
  (case z_enumerate => apply Sm.na;k_is)
  (case z_int => apply Sm.na;k_is)
  (case z_isinstance => apply Sm.na;k_is)
  (case z_len => apply Sm.na;k_is)
  (case z_list => apply Sm.na;k_is)
  (case z_max => apply Sm.na;k_is)
  (case z_min => apply Sm.na;k_is)
  (case z_range => apply Sm.na;k_is)
  (case z_str => apply Sm.na;k_is)
  (case z_sum => apply Sm.na;k_is)
  (case e_SkeinError => apply Sm.na;k_is)
  (case e_NoText => apply Sm.na;k_is)
  (case x_NoText => apply Sm.xi;k_exc)
  (case e_NoPiece => apply Sm.na;k_is)
  (case x_NoPiece => apply Sm.xi;k_exc)
  (case e_Loose => apply Sm.na;k_is)
  (case x_Loose => apply Sm.xi;k_exc)
  (case e_Unlevel => apply Sm.na;k_is)
  (case x_Unlevel => apply Sm.xi;k_exc)
  (case e_TooLong => apply Sm.na;k_is)
  (case x_TooLong => apply Sm.xi;k_exc)
  (case m_LEAF_SIGNS => apply Sm.na;k_is)
  (case m_MOST_PLAIN => apply Sm.na;k_is)
  (case m_MOST_SIGNS => apply Sm.na;k_is)
