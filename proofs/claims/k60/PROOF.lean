import PyProof.Rows.All
import Wide.All
import OpenK.AllK
import Wide.FinOn
import Lean
import PyProof.EqAt
import PyProof.EqKinds
import PyProof.TupleCall
import PyProof.StrCalls2
import PyProof.SumAny
import PyProof.Rows.Range3
import PyProof.StrBlockI
import PyProof.SliceStr2
import PyProof.IsRules
import PyProof.StrBlock2
import PyProof.ListRange
import KE.KRevSl
import KE.KRevIter
import PyProof.StrBlock
import PyProof.ZipIter
import PyProof.StrLawsIn
import PySem.Challenge.RW_skeinwood_k60_whole_what_stands_reads_so
set_option Elab.async false
set_option genSizeOf false
set_option linter.all false
set_option maxRecDepth 100000
noncomputable section
section
open PySem PySem.Spec PyProof.Rows
def Kh:=@List.getElem?_eq_some_iff
def Ki:=@List.getElem?_append_left
def Kj:=@Nat.le_refl
def Kk:=@List.length_cons
def Kl:=@PySem.F.plainAttrs_list
def Km:=@List.mem_cons_self
def Kn:=@Nat.le_trans
def Ko:=@List.getElem?_set_self
def Kp:=@List.mem_cons_of_mem
def Kq:=@List.length_append
def Kr:=@List.getElem?_set_ne
def Ks:=@List.size_toArray
def Kt:=@Heap.get?_push_of_some
def Ku:=@if_pos
def Kv:=@List.length_map
def Kw:=@PySem.F.slot_list_append
def Kx:=@PySem.F.type_list_append
def Kz:=@List.mem_append_left
def KA:=@Nat.lt_of_le_of_lt
def KC:=@wpAny_bind
def KD:=@Heap.lt_size
def KF:=@if_neg
def KG:=@List.mem_append_right
def KH:=@decide_eq_false
def KI:=@List.mem_append
def KJ:=@List.mem_cons
def KM:=@List.getElem?_eq_getElem
def KN:=@List.append_assoc
def KO:=@Bool.false_ne_true
def KP:=@Nat.lt_of_lt_of_le
def KQ:=@List.mem_of_getElem?
def KR:=@Option.isSome_iff_exists
def KS:=@Nat.zero_le
def KU:=@Option.map_eq_some_iff
def KW:=@PySem.boot_len
def KY:=@List.map_cons
def KZ:=@Heap.get?_push_size
def K0:=@wpAny_pure
def K2:=@List.getElem?_append_right
def K3:=@List.mem_singleton
def K4:=@Option.some.inj
def K5:=@Nat.add_le_add_left
def K6:=@List.getElem?_map
def K7:=@Nat.ne_of_lt
def K8:=@List.append_nil
def K9:=@List.map_append
def La:=@List.all_eq_true
def Lb:=@PySem.W.mg_none_of
def Lc:=@wpAny_mono
def Ld:=@decide_eq_true
def Le:=@List.length_take
def Lf:=@List.prefix_refl
def Lg:=@List.take_of_length_le
def Lh:=@List.length_drop
def Li:=@List.getElem?_cons_succ
def Lj:=@PySem.W.kia_one
def Lk:=@List.nodup_cons
def Lm:=@List.length_set
def Ln:=@Array.all_eq_true_iff_forall_mem
def Lo:=@List.set_set
def Lp:=@if_true
def Lq:=@List.find?_cons
def Lr:=@Bool.and_eq_true
def Ls:=@List.drop_of_length_le
def Lu:=@List.mem_of_mem_drop
def Lv:=@List.mem_of_mem_take
def Lw:=@PyProof.Rows.callWith_type1
def Lx:=@Nat.lt_irrefl
def Ly:=@PySem.mem_of_lookup
def Lz:=@Nat.not_lt_zero
def LA:=@List.eraseIdx_eq_take_drop_succ
def LB:=@PySem.F.slot_list_pop
def LC:=@PySem.F.type_list_pop
def LD:=@Nat.add_comm
def LF:=@lookup_relabel_local
def LG:=@List.length_eq_zero_iff
def LH:=@wpAny_truthy_bool
def LI:=@Bool.eq_iff_iff
def LJ:=@List.length_nil
def LN:=@List.length_reverse
def LP:=@PySem.F.plainAttrs_str
def LQ:=@Nat.le_add_right
def LR:=@Nat.min_eq_left
def LV:=@List.nil_append
def LW:=@wpAny_passesOwn
def LX:=@PySem.typeIs_bool
def LY:=@List.ext_getElem?
def LZ:=@wpAny_newObj_type
def L3:=@PySem.F.slot_list_extend
def L4:=@PySem.F.type_list_extend
def L5:=@List.cons_append
def L6:=@Int.eq_ofNat_of_zero_le
def L7:=@List.take_append_of_le_length
def L8:=@PySem.F.slot_bool_hash
def L9:=@Nat.zero_add
def Ma:=@List.getElem?_take
def Mb:=@List.getElem?_drop
def Mc:=@PySem.W.mg_of
def Md:=@List.take_append_drop
def Me:=@wpAny_callSpecialIfBoundUnlessNone?_slot
def Mf:=@List.flatten_cons
def Mg:=@Nat.le_of_lt
def Mh:=@List.lookup_cons
def Mi:=@List.drop_length
def Mj:=@List.take_length
def Ml:=@List.filterMap_cons
def Mm:=@Array.length_toList
def Mn:=@List.getElem_of_mem
def Mo:=@List.any_cons
def Mp:=@PySem.F.slot_list_insert
def Mq:=@PySem.F.type_list_insert
def Mr:=@Nat.le_add_left
def Mt:=@wpAny_Call_Name_kw
def Mu:=@List.getElem?_replicate
def Mv:=@Nat.lt_succ_of_lt
def Mw:=@List.take_succ
def Mx:=@List.length_range
def My:=@of_decide_eq_true
def Mz:=@wpAny_assign_Name
def MA:=@PyProof.Rows.slot_tuple_getitem
def MB:=@List.eraseIdxIfInBounds_toArray
def MC:=@List.getElem?_eq_none
def MD:=@PySem.AutoSeq1.wpAny_loadPart'
def ME:=@call_meets
def MF:=@List.map_take
def MG:=@List.drop_append_of_le_length
def MH:=@List.foldl_cons
def MI:=@Int.emod_nonneg
def MJ:=@wpAny_execs_nil
def ML:=@PySem.W.plainGet_of
def MN:=@List.getElem?_range
def MO:=@Nat.lt_trans
def MP:=@PySem.W.of_hideAll
def MQ:=@Calls.Name_function_global
def MR:=@List.mem_filterMap
def MS:=@Heap.size_push
def MT:=@List.filterMap_map
def MU:=@List.nodup_nil
def MV:=@List.drop_zero
def MW:=@List.prefix_append
def MX:=@Int.emod_lt_of_pos
def MY:=@tupleKind_room_in1
def MZ:=@List.drop_eq_getElem_cons
def M0:=@PySem.W.kitx_list
def M3:=@List.reverse_cons
def M4:=@List.nodup_append
def M5:=@List.getElem?_set
def M6:=@wpAny_pyIter_list
def M7:=@decide_eq_true_eq
def M8:=@PySem.F.args_tuple_add_2
def M9:=@List.map_drop
def Na:=@wpAny_holding
def Nb:=@wpAny_standAt
def Nc:=@wpAny_comprehension_free
def Nd:=@Nat.lt_succ_self
def Nf:=@PySem.F.entry_tuple_add
def Ng:=@Nat.succ_le_succ
def Nh:=@List.append_cancel_left
def Ni:=@Option.bind_eq_some_iff
def Nj:=@Nat.min_eq_right
def Nk:=@wpAny_call_entry
def Nl:=@Nat.le_of_eq
def Nm:=@PySem.W.cellsFrom_some
def Nn:=@PySem.F.slot_tuple_add
def Np:=@Heap.get?_update_other
def Nq:=@Calls.callWith_builtin
def Nr:=@List.map_nil
def Nt:=@List.mem_map
def Nu:=@List.length_eq_one_iff
def Nv:=@wpAny_pyNext_range_end
def Nw:=@wpAny_pyIter_rangeiter
def Nx:=@subscriptTail_builtinR
def Ny:=@typeIs_str
def Nz:=@codeAny_mono
def NB:=@codeAny_compStart_list
def NC:=@List.of_mem_zip
def ND:=@Nat.min_le_left
def NF:=@Int.natCast_add
def NG:=@wpAny_specialOf
def NH:=@Array.getElem?_toList
def NI:=@PySem.W.methodCall_KW
def NJ:=@List.dropLast_eq_take
def NK:=@PyProof.Rows.boot_all
def NL:=@PySem.F.slot_str_join
def NM:=@PySem.F.type_str_join
def NO:=@exec_Assign_Name_used
def NP:=@List.mem_range
def NQ:=@Calls.evalArgs_plain
def NR:=@Nat.le_succ
def NS:=@Nat.add_le_add
def NT:=@wpAny_field
def NU:=@wpAny_newFunctionEnv
def NV:=@wpAny_pyIter_revIter
def NW:=@PySem.W.hideAll_get
def NX:=@List.map_congr_left
def NY:=@PySem.W.callWith_K0
def NZ:=@Int.toNat_of_nonneg
def N6:=@Nat.mul_le_mul_left
def N7:=@List.cons.inj
def N8:=@PySem.W.callWith_K
def N9:=@List.foldl_toArray
def Oa:=@Nat.add_sub_cancel
def Ob:=@Nat.eq_zero_or_pos
def Oc:=@wpAny_pyIter_range
def Od:=@beq_iff_eq
def Oe:=@PySem.W.kitx_dict
def Of:=@List.map_map
def Og:=@Option.isSome_map
def Oh:=@Bool.not_eq_true'
def Oi:=@Array.size_append
def Oj:=@List.find?_append
def Ol:=@List.foldl_append
def Om:=@Nat.pow_succ
def On:=@Nat.succ_pos
def Oo:=@concat_meets
def Oq:=@if_false
def Os:=@seqIndex_neg
def Ot:=@Int.neg_sub
def Ou:=@Nat.not_lt
def Ov:=@wpAny_Name
end
namespace L2
open PySem PySem.Spec PyProof.Rows
abbrev aW:=Sum Int Str
abbrev kg (b:Bool):Int:=if b then 1 else 0
def kh:aW->Value->Bool
 | .inl k,.bool b=>decide (k=kg b)
 | .inl k,v=>Value.isInt k v
 | .inr x,v=>Value.isStrOf x v
def qy (w:World):aW->Int
 | .inl k=>hashInt k
 | .inr x=>hashStr w x
theorem iw:∀ {k:aW} {v:Value},kh k v=true->(∃ i t,k=Sum.inl i/\v=Value.int i t)\/(∃ b,k=Sum.inl (kg b)/\v=Value.bool b)\/(∃ x t,k=Sum.inr x/\v=Value.str x t)
 | .inl i,v,h=>by
  cases v with
  | bool b=>exact .inr (.inl ⟨b,by rw [My (show decide (i=kg b)=true from h)],rfl⟩)
  | int j t =>
   obtain ⟨t,e⟩:=Value.isInt_shape (k:=i) (v:=.int j t) h
   exact .inl ⟨i,t,rfl,e⟩
  | _=>exact absurd h (by simp [kh,Value.isInt])
 | .inr x,v,h=>by
  obtain ⟨t,e⟩:=Value.isStrOf_shape (x:=x) (v:=v) h
  exact .inr (.inr ⟨x,t,rfl,e⟩)
theorem As (i:Int) (t:Tok):kh (.inl i) (.int i t)=true:=by simp [kh,Value.isInt]
theorem Au (x:Str) (t:Tok):kh (.inr x) (.str x t)=true:=by simp [kh,Value.isStrOf]
theorem qz (a b:Int):decide ((Sum.inl a:aW)=Sum.inl b)=(a == b):=by
 by_cases e:a=b
 ·subst e;simp
 ·have h : ¬ (Sum.inl a:aW)=Sum.inl b:=fun q=>e (Sum.inl.inj q)
  rw [KH h];exact (beq_eq_false_iff_ne.mpr e).symm
theorem Av (a b:Str):decide ((Sum.inr a:aW)=Sum.inr b)=decide (a=b):=by
 by_cases e:a=b
 ·subst e;simp
 ·have h : ¬ (Sum.inr a:aW)=Sum.inr b:=fun q=>e (Sum.inr.inj q)
  rw [KH h,KH e]
theorem vG (a:Int) (b:Str):decide ((Sum.inl a:aW)=Sum.inr b)=false:=KH (fun q=>nomatch q)
theorem vH (a:Str) (b:Int):decide ((Sum.inr a:aW)=Sum.inl b)=false:=KH (fun q=>nomatch q)
theorem Aw {prog:Program} {w:World} {A:Around} {E:Value->Shared->Prop} {s:Shared} {b:Bool} {Q:Int->Shared->Prop} (h:Q (hashInt (kg b)) { s with toks:=s.toks+1 }) :
  wpAny (model prog w) A (pyHash (.bool b)) Q E s:=by
 unfold pyHash
 unfold pyHashByItsType
 have hv:[Value.bool b].any Value.onHeap=false:=rfl
 refine KC ?_
 rw [cRoomFor,KF (by rw [hv];exact KO)];refine K0 ?_
 refine KC (NG (LX s b) PySem.F.slot_bool_hash.lookup ?_)
 show wpAny _ _ (if (some (Value.builtin "int.__hash__") == some Value.none)=true then _ else _) Q E s
 rw [KF (by rw [beq_builtin_none];exact KO)]
 refine KC (NG (LX s b) PySem.F.slot_bool_hash.lookup ?_)
 show wpAny _ _ (callSpecialIfBoundUnlessNone? (.bool b) "__hash__" _ >>= _) Q E s
 cases b with
 | false =>
  refine KC (Me (LX s false) L8
   (Nk L8 (LX s false) entry_int_hash
    (show wpAny _ _ (do ret (<- mkInt 0)) _ _ s from wpAny_ret_mkInt ?_) (args_int_hash _)))
  exact K0 h
 | true =>
  refine KC (Me (LX s true) L8
   (Nk L8 (LX s true) entry_int_hash
    (show wpAny _ _ (do ret (<- mkInt 1)) _ _ s from wpAny_ret_mkInt ?_) (args_int_hash _)))
  exact K0 h
theorem Ax (a b:Bool):(a == b)=decide ((Sum.inl (kg a):aW)=Sum.inl (kg b)):=by cases a<;>cases b<;>decide
def fT (prog:Program) (w:World):PySem.KeyKind prog w aW where
 is:=kh
 hash:=qy w
 inj:=fun v a b ha hb=>by
  rcases iw ha with ⟨i,t,rfl,rfl⟩ | ⟨c,rfl,rfl⟩ | ⟨x,t,rfl,rfl⟩
  ·rcases iw hb with ⟨j,u,rfl,e⟩ | ⟨d,rfl,e⟩ | ⟨y,u,rfl,e⟩
   ·injection e with e1 _;rw [e1]
   ·exact nomatch e
   ·exact nomatch e
  ·rcases iw hb with ⟨j,u,rfl,e⟩ | ⟨d,rfl,e⟩ | ⟨y,u,rfl,e⟩
   ·exact nomatch e
   ·injection e with e1;rw [e1]
   ·exact nomatch e
  ·rcases iw hb with ⟨j,u,rfl,e⟩ | ⟨d,rfl,e⟩ | ⟨y,u,rfl,e⟩
   ·exact nomatch e
   ·exact nomatch e
   ·injection e with e1 _;rw [e1]
 byValue:=fun k v h=>by
  rcases iw h with ⟨i,t,rfl,rfl⟩ | ⟨c,rfl,rfl⟩ | ⟨x,t,rfl,rfl⟩<;>rfl
 pyHash:=fun hv h=>by
  rcases iw hv with ⟨i,t,rfl,rfl⟩ | ⟨c,rfl,rfl⟩ | ⟨x,t,rfl,rfl⟩
  ·exact wpAny_pyHash_int h
  ·exact Aw h
  ·exact wpAny_pyHash_str h
 eqBool:=fun hu hv h=>by
  rcases iw hu with ⟨i,t,rfl,rfl⟩ | ⟨c,rfl,rfl⟩ | ⟨x,t,rfl,rfl⟩
  ·rcases iw hv with ⟨j,u,rfl,rfl⟩ | ⟨d,rfl,rfl⟩ | ⟨y,u,rfl,rfl⟩
   ·rw [qz] at h;exact wpAny_eqBool_int h
   ·rw [qz] at h;exact SeqAt.EqAt.int_bool i t d _ _ _ _ h
   ·rw [vG] at h;exact SeqAt.EqAt.int_str i t y u _ _ _ _ h
  ·rcases iw hv with ⟨j,u,rfl,rfl⟩ | ⟨d,rfl,rfl⟩ | ⟨y,u,rfl,rfl⟩
   ·rw [qz] at h;exact SeqAt.EqAt.bool_int c j u _ _ _ _ h
   ·rw [<- Ax] at h;exact SeqAt.EqAt.bool_bool c d _ _ _ _ h
   ·rw [vG] at h;exact SeqAt.EqAt.bool_str c y u _ _ _ _ h
  ·rcases iw hv with ⟨j,u,rfl,rfl⟩ | ⟨d,rfl,rfl⟩ | ⟨y,u,rfl,rfl⟩
   ·rw [vH] at h;exact SeqAt.EqAt.str_int x t j u _ _ _ _ h
   ·rw [vH] at h;exact SeqAt.EqAt.str_bool x t d _ _ _ _ h
   ·rw [Av] at h;exact wpAny_eqBool_str h
 «strs» := fun k x t v h=>by
  rcases iw h with ⟨i,u,rfl,e⟩ | ⟨d,rfl,e⟩ | ⟨y,u,rfl,e⟩
  ·exact nomatch e
  ·exact nomatch e
  ·injection e with e1 _
   subst e1
   cases v<;>rfl
theorem vI (prog:Program) (w:World) (i:Int) (t:Tok):(fT prog w).is (.inl i) (.int i t)=true:=As i t
theorem vJ (prog:Program) (w:World) (x:Str) (t:Tok):(fT prog w).is (.inr x) (.str x t)=true:=Au x t
end L2
namespace L2
open PySem PySem.Spec PyProof.Rows
inductive V where
 | non | bl (b:Bool) | int (i:Int) | str (x:Str) | byt (b:Array UInt8) | flt (b:UInt64) | ref (a:Addr) | ty (n:String)
 deriving DecidableEq
def RelV:V->Value->Prop
 | .non,u=>u=Value.none
 | .bl b,u=>u=Value.bool b
 | .int i,u=>∃ t,u=Value.int i t
 | .str x,u=>∃ t,u=Value.str x t
 | .byt b,u=>∃ t,u=Value.bytes b t
 | .flt b,u=>∃ t,u=Value.float b t
 | .ref a,u=>u=Value.ref a
 | .ty n,u=>u=Value.type n
abbrev Vals:List V->List Value->Prop:=Paired RelV
theorem Vals.length {xs:List V} {us:List Value} (r:Vals xs us):xs.length=us.length:=Paired.length r
theorem Vals.get:∀ {xs:List V} {us:List Value} {i:Nat} {x:V},Vals xs us->xs[i]? = some x->∃ u,us[i]? = some u/\RelV x u
 | _,_,_,_,.nil,e=>by simp at e
 | _,_,0,_,.cons r _,e=>by simp at e;subst e;exact ⟨_,rfl,r⟩
 | _,_,i+1,x,.cons _ t,e=>by
  obtain ⟨u,h1,h2⟩:=Vals.get (i:=i) (x:=x) t (by simpa using e)
  exact ⟨u,by simpa using h1,h2⟩
theorem Vals.set {x:V} {u:Value} (r:RelV x u):∀ {xs:List V} {us:List Value} (i:Nat),Vals xs us->Vals (xs.set i x) (us.set i u)
 | _,_,_,.nil=>.nil
 | _,_,0,.cons _ t=>.cons r t
 | _,_,i+1,.cons q t=>.cons q (Vals.set r i t)
theorem Vals.append:∀ {xs ys:List V} {us ws:List Value},Vals xs us->Vals ys ws->Vals (xs++ys) (us++ws)
 | _,_,_,_,.nil,s=>s
 | _,_,_,_,.cons r t,s=>.cons r (Vals.append t s)
theorem Vals.take:∀ {xs:List V} {us:List Value} (n:Nat),Vals xs us->Vals (xs.take n) (us.take n)
 | _,_,0,_=>.nil
 | _,_,_+1,.nil=>.nil
 | _,_,n+1,.cons r t=>.cons r (Vals.take n t)
theorem Vals.drop:∀ {xs:List V} {us:List Value} (n:Nat),Vals xs us->Vals (xs.drop n) (us.drop n)
 | _,_,0,r=>r
 | _,_,_+1,.nil=>.nil
 | _,_,n+1,.cons _ t=>Vals.drop n t
def RelO:Option V->Option Value->Prop
 | some v,some u=>RelV v u
 | none,none=>True
 | _,_=>False
def KV {κ:Type}:List (κ×V)->List (κ×Value)->Prop:=Paired fun (p:κ×V) (q:κ×Value)=>p.1=q.1/\RelV p.2 q.2
def kV:aW->V
 | .inl i=>.int i
 | .inr x=>.str x
def lE:V->Option aW
 | .int i=>some (.inl i)
 | .bl b=>some (.inl (kg b))
 | .str x=>some (.inr x)
 | _=>none
theorem Ay (k:aW):lE (kV k)=some k:=by cases k<;>rfl
inductive HO where
 | lst (xs:List V)
 | tup (xs:List V)
 | dK (kvs:List (aW×V)) | dT (kvs:List (List aW×V))
 | set (S:Int->Bool) (n:Nat)
 | ins (C dx:Addr) (fs:List (Str×V))
 | own (x:Addr)
 | xd (fs:List (Str×V))
 | met (f x:Addr)
 | rng (lo hi:Int)
 | frz (o:Obj) (u:HO)
 | tbl (ps:Array Value)
 | ext (φ:Heap->Prop)
abbrev Hp:=Addr->Option HO
def aJ (H:Hp) (a:Addr) (o:HO):Hp:=fun b=>if b=a then some o else H b
theorem eG {H:Hp} {a:Addr} {o:HO}:aJ H a o a=some o:=by unfold aJ;rw [Ku rfl]
theorem bS {H:Hp} {a b:Addr} {o:HO} (h:b≠a):aJ H a o b=H b:=by unfold aJ;rw [KF h]
theorem Az {H:Hp} {a b:Addr} {o u:HO} (h:H a=some o) (h':H b=some u) (d:o≠u):a≠b:=by
 intro e;subst e;rw [h] at h';exact d (K4 h')
theorem gK {H:Hp} {a b:Addr} {o:HO} (h:H a=some o) (h':H b=none):a≠b:=by
 intro e;subst e;rw [h] at h';cases h'
section
variable (P:Program) (w:World)
def ObjOk (H:Hp) (h:Heap) (a:Addr):HO->Prop
 | .lst xs=>xs.length<=sizeLine/\∃ (its:List Value) (n:Nat),Vals xs its/\h.get? a=some { cls:=.type "list",data:=.seq its.toArray n }
 | .tup xs=>xs.length<=sizeLine/\∃ its:List Value,Vals xs its/\IsTup h a its.toArray
 | .dK kvs=>kvs.length<=sizeLine/\(a == sysModules)=false/\∃ vs,KV kvs vs/\h.DictOf (fT P w) a vs
 | .dT kvs=>kvs.length<=sizeLine/\(a == sysModules)=false/\∃ xs:List (List aW×Addr×Value),
   Paired (fun (p:List aW×V) (q:List aW×Addr×Value)=>p.1=q.1/\(∃ ys,H q.2.1=some (.tup ys)/\ys.map lE=p.1.map some)/\RelV p.2 q.2.2) kvs xs /\
   ∃ o es ep,h.get? a=some o/\o.ExactDict/\o.data = .dict es ep/\es.toList=xs.map (entryOfKey (tupleKind (fT P w)))/\(xs.map (·.1)).Nodup
 | .set S n=>h.SetOf (intKind P w) a S n
 | .ins C dx fs=>H dx=some (.own a)/\fs.length<=1000/\dx≠a/\h.get? a=some (PySem.W.instObj C dx) /\
   ∃ mA,h.Ns1 dx mA/\(∀ f,RelO (fs.lookup f) (mA f))/\PySem.Within mA (fs.map (·.1))
 | .own _=>∃ o,h.get? a=some o
 | .xd fs=>∃ mA,h.Ns1 a mA/\∀ f,RelO (fs.lookup f) (mA f)
 | .rng lo hi=>∃ t u v,h.get? a=some { cls:=.type "range",data:=.fields #[.int lo t,.int hi u,.int 1 v] }
 | .frz o u=>h.get? a=some o/\ObjOk H h a u
 | .tbl ps=>h.get? a=some { cls:=.none,data:=.fields ps }
 | .met f x=>h.get? a=some (PySem.W.methodObj (.ref f) (.ref x))
 | .ext φ=>φ h/\(∃ o,h.get? a=some o)/\∀ h1 h2:Heap,φ h1->(∀ o,h1.get? a=some o->h2.get? a=some o)->φ h2
def HOk (H:Hp) (h:Heap):Prop:=∀ a o,H a=some o->ObjOk P w H h a o
end
section
variable {P:Program} {w:World} {H H':Hp} {h h':Heap} {a:Addr} {o:HO}
theorem ObjOk.lt (x:ObjOk P w H h a o):a<h.objs.size:=by
 cases o with
 | lst xs=>obtain ⟨_,_,_,_,e⟩:=x;exact KD e
 | tup xs=>obtain ⟨_,_,_,p⟩:=x;exact p.lt
 | dK kvs=>obtain ⟨_,_,_,_,o,_,_,e,_⟩:=x;exact KD e
 | dT kvs=>obtain ⟨_,_,_,_,o,_,_,e,_⟩:=x;exact KD e
 | set S n=>obtain ⟨o,_,_,_,e,_⟩:=x;exact KD e
 | ins C dx fs=>obtain ⟨_,_,_,e,_⟩:=x;exact KD e
 | own y=>obtain ⟨_,e⟩:=x;exact KD e
 | xd fs=>obtain ⟨_,⟨_,_,_,e,_⟩,_⟩:=x;exact KD e
 | rng lo hi=>obtain ⟨_,_,_,e⟩:=x;exact KD e
 | frz ob u=>obtain ⟨e,_⟩:=x;exact KD e
 | tbl ps=>exact KD (show h.get? a=some _ from x)
 | met f y=>exact KD (show h.get? a=some _ from x)
 | ext φ=>obtain ⟨_,⟨_,e⟩,_⟩:=x;exact KD e
theorem Paired.mapP {α β:Type} {F G:α->β->Prop}:∀ {l₁:List α} {l₂:List β},Paired F l₁ l₂->(∀ a b,F a b->G a b)->Paired G l₁ l₂
 | _,_,.nil,_=>.nil
 | _,_,.cons r t,f=>.cons (f _ _ r) (Paired.mapP t f)
theorem ObjOk.stay (x:ObjOk P w H h a o) (k:∀ b u,(b=a\/H b=some (.own a))->h.get? b=some u->h'.get? b=some u)
  (ho:∀ b,H b=some (.own a)->H' b=some (.own a)) (ht:∀ b xs,H b=some (.tup xs)->H' b=some (.tup xs)):ObjOk P w H' h' a o:=by
 induction o with
 | lst xs=>obtain ⟨z,its,n,r,e⟩:=x;exact ⟨z,its,n,r,k _ _ (.inl rfl) e⟩
 | tup xs=>obtain ⟨z,its,r,ob,e,c⟩:=x;exact ⟨z,its,r,ob,k _ _ (.inl rfl) e,c⟩
 | dK kvs=>obtain ⟨z,y,vs,r,ob,es,ep,e,c⟩:=x;exact ⟨z,y,vs,r,ob,es,ep,k _ _ (.inl rfl) e,c⟩
 | dT kvs =>
  obtain ⟨z,y,xs,r,ob,es,ep,e,c⟩:=x
  exact ⟨z,y,xs,Paired.mapP r fun p q z=>⟨z.1,z.2.1.imp fun _ e=>⟨ht _ _ e.1,e.2⟩,z.2.2⟩,ob,es,ep,k _ _ (.inl rfl) e,c⟩
 | set S n=>obtain ⟨ob,es,ep,t,e,c⟩:=x;exact ⟨ob,es,ep,t,k _ _ (.inl rfl) e,c⟩
 | ins C dx fs =>
  obtain ⟨d,z,ne,e,mA,⟨od,es,ep,e2,c⟩,r⟩:=x
  exact ⟨ho _ d,z,ne,k _ _ (.inl rfl) e,mA,⟨od,es,ep,k _ _ (.inr d) e2,c⟩,r⟩
 | own y=>obtain ⟨ob,e⟩:=x;exact ⟨ob,k _ _ (.inl rfl) e⟩
 | xd fs=>obtain ⟨mA,⟨od,es,ep,e,c⟩,r⟩:=x;exact ⟨mA,⟨od,es,ep,k _ _ (.inl rfl) e,c⟩,r⟩
 | rng lo hi=>obtain ⟨t,u,v,e⟩:=x;exact ⟨t,u,v,k _ _ (.inl rfl) e⟩
 | frz ob u ih=>obtain ⟨e,q⟩:=x;exact ⟨k _ _ (.inl rfl) e,ih q⟩
 | tbl ps =>
  have e:h.get? a=some { cls:=.none,data:=.fields ps }:=x
  show h'.get? a=some { cls:=.none,data:=.fields ps }
  exact k a _ (.inl rfl) e
 | met f y =>
  have e:h.get? a=some (PySem.W.methodObj (.ref f) (.ref y)):=x
  show h'.get? a=some (PySem.W.methodObj (.ref f) (.ref y))
  exact k a _ (.inl rfl) e
 | ext φ=>obtain ⟨p,⟨o,e⟩,st⟩:=x;exact ⟨st _ _ p fun o q=>k _ _ (.inl rfl) q,⟨o,k _ _ (.inl rfl) e⟩,st⟩
theorem HOk.lt (x:HOk P w H h) (e:H a=some o):a<h.objs.size:=(x a o e).lt
theorem HOk.fresh (x:HOk P w H h) (e:h.objs.size<=a):H a=none:=by
 cases q:H a with
 | none=>rfl
 | some u=>exact absurd (KP (x.lt q) e) (Lx _)
theorem HOk.kept (x:HOk P w H h) (k:∀ b u,h.get? b=some u->h'.get? b=some u):HOk P w H h' := fun a o e =>
 (x a o e).stay (fun b u _ q=>k b u q) (fun _ q=>q) fun _ _ q=>q
theorem HOk.laid (x:HOk P w H h) (k:∀ b u,h.get? b=some u->h'.get? b=some u) (hp:h.objs.size<=a) (new:ObjOk P w (aJ H a o) h' a o):HOk P w (aJ H a o) h' := fun b u e=>by
 have hn:=x.fresh hp
 by_cases hb:b=a
 ·subst hb;rw [eG] at e;cases e;exact new
 ·rw [bS hb] at e
  exact (x b u e).stay (fun c v _ q=>k c v q) (fun c q=>by rw [bS (gK q hn)];exact q) fun c xs q=>by rw [bS (gK q hn)];exact q
end
def Rd (H:Hp) (a:Addr) (u:HO):Prop:=H a=some u\/∃ o,H a=some (.frz o u)
theorem Rd.of {H:Hp} {a:Addr} {u:HO} (h:H a=some u):Rd H a u:=.inl h
theorem Rd.ok {P:Program} {w:World} {H:Hp} {h:Heap} {a:Addr} {u:HO} (r:Rd H a u) (x:HOk P w H h):ObjOk P w H h a u:=by
 rcases r with r | ⟨o,r⟩
 ·exact x a u r
 ·obtain ⟨_,q⟩:=x a _ r
  exact q
def mC:Option HO->Prop
 | some (.lst _)=>True
 | some (.dK _)=>True
 | some (.dT _)=>True
 | some (.set _ _)=>True
 | some (.ins _ _ _)=>True
 | some (.ext _)=>True
 | _=>False
section
variable {P:Program} {w:World} {H:Hp} {h h':Heap} {x e:Addr} {o':HO}
theorem HOk.write (ok:HOk P w H h) (mu:mC (H x)) (he:e=x\/H e=some (.own x)) (k:∀ b u,b≠e->h.get? b=some u->h'.get? b=some u) (heo:∃ u,h'.get? e=some u)
  (new:ObjOk P w (aJ H x o') h' x o'):HOk P w (aJ H x o') h' := fun b u q=>by
 have nown:∀ c y,H c=some (.own y)->c≠x:=fun c y r z=>by subst z;rw [r] at mu;exact mu
 have ntup:∀ c xs,H c=some (.tup xs)->c≠x:=fun c xs r z=>by subst z;rw [r] at mu;exact mu
 by_cases hb:b=x
 ·subst hb;rw [eG] at q;cases q;exact new
 ·rw [bS hb] at q
  by_cases hbe:b=e
  ·have q':H b=some (.own x):=by
    rcases he with z | z
    ·exact absurd (hbe.trans z) hb
    ·rw [hbe];exact z
   rw [q] at q';cases q'
   obtain ⟨v,hv⟩:=heo
   exact ⟨v,by rw [hbe];exact hv⟩
  ·refine (ok b u q).stay (fun c v hc r=>k c v ?_ r) (fun c r=>by rw [bS (nown c b r)];exact r) fun c xs r=>by rw [bS (ntup c xs r)];exact r
   rcases hc with rfl | hc
   ·exact hbe
   ·rintro rfl
    rcases he with z | z
    ·exact nown c b hc z
    ·rw [hc] at z;cases z;exact hb rfl
end
structure Un (fs ex:List Addr) (H H':Hp) (h h':Heap):Prop where
 keep:∀ b o,h.get? b=some o->H b=none->b∉fs->b∉ex->h'.get? b=some o
 slot:∀ b o,h.get? b=some o->H b=none->b∈fs->b∉ex->∃ sl,h'.get? b=some { o with slots:=sl }
 free:∀ b o,h.get? b=some o->H b=none->b∉ex->H' b=none
 there:∀ b o,h.get? b=some o->b∉ex->∃ o',h'.get? b=some o'
 tups:∀ b xs,H b=some (.tup xs)->H' b=some (.tup xs)
 frzs:∀ b o u,H b=some (.frz o u)->H' b=some (.frz o u)
 tbls:∀ b ps,H b=some (.tbl ps)->∃ more,H' b=some (.tbl (ps++more))
section
variable {fs fs' ex ex':List Addr} {H H1 H2:Hp} {h h1 h2 h':Heap} {a x e:Addr} {o:HO}
theorem Un.any (u:Un fs ex H H1 h h1) {b:Addr} {ob:Obj} (q:h.get? b=some ob) (n:H b=none) (hx:b∉ex):∃ sl,h1.get? b=some { ob with slots:=sl }:=by
 by_cases hb:b∈fs
 ·exact u.slot b ob q n hb hx
 ·exact ⟨ob.slots,u.keep b ob q n hb hx⟩
theorem Un.kept (k:∀ b u,h.get? b=some u->h'.get? b=some u):Un fs ex H H h h' :=
 ⟨fun b ob q _ _ _=>k b ob q,fun b ob q _ _ _=>⟨ob.slots,k b ob q⟩,fun _ _ _ n _=>n,fun b ob q _=>⟨ob,k b ob q⟩,fun _ _ q=>q,fun _ _ _ q=>q,fun _ ps q=>⟨#[],by rw [q];simp⟩⟩
theorem Un.refl:Un fs ex H H h h:=Un.kept fun _ _ q=>q
theorem Un.laid (k:∀ b u,h.get? b=some u->h'.get? b=some u) (hp:h.objs.size<=a) (hn:H a=none):Un fs ex H (aJ H a o) h h' where
 keep:=fun b u q _ _ _=>k b u q
 slot:=fun b u q _ _ _=>⟨u.slots,k b u q⟩
 free:=fun b u q n _=>by rw [bS (K7 (KP (KD q) hp))];exact n
 there:=fun b u q _=>⟨u,k b u q⟩
 tups:=fun b xs q=>by rw [bS (gK q hn)];exact q
 frzs:=fun b u xs q=>by rw [bS (gK q hn)];exact q
 tbls:=fun b ps q=>⟨#[],by rw [bS (gK q hn),q];simp⟩
theorem Un.write (mu:mC (H x)) (he:e=x\/H e=some (.own x)) (k:∀ b u,b≠e->h.get? b=some u->h'.get? b=some u) (heo:∃ u,h'.get? e=some u):Un fs ex H (aJ H x o) h h' := by
 have hx:∀ b,H b=none->b≠x:=fun b n z=>by subst z;rw [n] at mu;exact mu
 have hb:∀ b,H b=none->b≠e:=fun b n z=>by
  subst z;rcases he with r | r
  ·exact hx b n r
  ·rw [n] at r;cases r
 have hm:∀ b u,H b=some u -> ¬ mC (some u)->b≠x:=fun b u q nm z=>by subst z;rw [q] at mu;exact nm mu
 refine ⟨fun b u q n _ _=>k b u (hb b n) q,fun b u q n _ _=>⟨u.slots,k b u (hb b n) q⟩,fun b u q n _=>by rw [bS (hx b n)];exact n,fun b u q _=>?_,
  fun b xs q=>by rw [bS (hm b _ q fun z=>z)];exact q,fun b u xs q=>by rw [bS (hm b _ q fun z=>z)];exact q,fun b ps q=>⟨#[],by rw [bS (hm b _ q fun z=>z),q];simp⟩⟩
 by_cases hbe:b=e
 ·subst hbe;exact heo
 ·exact ⟨u,k b u hbe q⟩
end
def oB (h:Heap) (H:Hp):List Addr:=(List.range h.objs.size).filter fun a=>(H a).isSome
def eJ (h:Heap) (H:Hp):Heap:=PySem.W.hideAll h (oB h H)
theorem AA (h:Heap) (H:Hp):(eJ h H).objs.size=h.objs.size:=PySem.W.hideAll_size _ _
theorem AB {h:Heap} {H:Hp} {b:Addr} {o:Obj} (e:h.get? b=some o) (n:H b=none):(eJ h H).get? b=some o :=
 NW _ e fun hm=>by
  have q:(H b).isSome=true:=(List.mem_filter.mp hm).2
  rw [n] at q;simp at q
theorem AC {h:Heap} {H:Hp} {b:Addr} {o:Obj} (e:(eJ h H).get? b=some o):h.get? b=some o/\H b=none:=by
 have e':h.get? b=some o:=MP (oB h H) e
 refine ⟨e',?_⟩
 cases q:H b with
 | none=>rfl
 | some x =>
  have hm:b∈oB h H:=List.mem_filter.mpr ⟨NP.mpr (KD e'),by simp [q]⟩
  have z:(eJ h H).get? b=none:=PySem.W.hideAll_none (oB h H) hm
  rw [z] at e;cases e
end L2
namespace L2
open PySem PySem.Spec PyProof.Rows
structure Mod (K:PySem.W.Frag) (mg:Str->Option Value) (base:Heap):Prop where
 kin:K.In base
 glob:base.Ns mainGlobals mg
 blt:∃ mb,base.Ns builtinsNs mb/\∀ x:Str,x ≠ "__name__" -> mb x=bootBuiltins x
 nolimit:base.NoLimit
structure Cx where
 prog:Program
 w:World
 K:PySem.W.Frag
 mg:Str->Option Value
 base:Heap
 A:Around
 N:List Str
 s₀:Shared
 H₀:Hp
 env:Env
 outer:List Env
 stack:List Env
 ex:List Addr
 fn:Str->Bool
 calm:Bool
 pn:List (Addr×Obj)
 xe:Value->Shared->Prop
def dQ (l:List Env):List Addr:=l.filterMap (·.frame)
abbrev Cx.fs (X:Cx):List Addr:=dQ X.outer
def lF (sc:Scope) (x:Str):Prop:=sc.names.lookup x=some .local\/sc.names.lookup x=some .cell\/sc.names.lookup x=some .free
def iP (sc:Scope) (x:Str):Prop:=sc.names.lookup x=some .local\/sc.names.lookup x=some .cell
def qA (env:Env) (h:Heap) (m:Str->Option Value) (x:Str) (u:Value):Prop :=
 (env.kindOf x=some .local/\m x=some u)\/((env.kindOf x=some .cell\/env.kindOf x=some .free)/\∃ c,env.cells.lookup x=some c/\h.IsCell c (some u))
structure Cx.Ok (X:Cx):Prop where
 mod:Mod X.K X.mg X.base
 kind:X.env.scope.kind = .function
 glob:X.env.globals=mainGlobals
 blt:X.env.builtins=builtinsNs
 above:X.s₀.heap.objs.size<=X.env.locals
 inj:∀ x y c,X.env.cells.lookup x=some c->X.env.cells.lookup y=some c->x=y
 has:∀ x,(X.env.kindOf x=some .cell\/X.env.kindOf x=some .free)->∃ c,X.env.cells.lookup x=some c
 cab:∀ x c,X.fn x=true->X.env.cells.lookup x=some c->X.s₀.heap.objs.size<=c
 hd:X.calm=true->X.A.handled=none
 frames:X.A.frames=some X.stack
 stk:X.stack=X.outer\/(X.stack=X.env::X.outer/\X.env.frame=some X.env.locals)
 exf:∀ b∈X.ex,b≠X.env.locals/\∀ x c,X.env.cells.lookup x=some c->c≠b
 bs:∀ b o,X.base.get? b=some o->X.s₀.heap.get? b=some o/\X.H₀ b=none
 bsz:X.base.objs.size<=X.s₀.heap.objs.size
 noex:∀ b o,X.base.get? b=some o->b∉X.ex
 exfs:∀ b∈X.ex,b∉X.fs
 funs:X.s₀.heap.FunFrames X.base X.outer
 frf:∀ b∈X.fs,X.H₀ b=none
structure Inv (X:Cx) (pins:List (Addr×Obj)) (σ:List (Option V)) (H:Hp) (s:Shared):Prop where
 ok:X.Ok
 os:s.os=X.s₀.os
 bare:AllBare s.gens
 base:Un X.fs X.ex X.H₀ H X.s₀.heap s.heap
 loc:∃ m,s.heap.Ns X.env.locals m/\∀ (i:Nat) (x:Str) (v:V),X.N[i]? = some x->σ[i]? = some (some v)->lF X.env.scope x->∃ u,RelV v u/\qA X.env s.heap m x u
 cell:∀ x c,X.env.cells.lookup x=some c->∃ v,s.heap.IsCell c v
 free:H X.env.locals=none
 freeC:∀ x c,X.env.cells.lookup x=some c->H c=none
 pin:∀ p∈X.pn++pins,s.heap.get? p.1=some p.2/\H p.1=none/\p.1≠X.env.locals/\p.1∉X.fs/\∀ v,p.2.data ≠ .cell v
 hok:HOk X.prog X.w H s.heap
 len:σ.length=X.N.length
section
variable {X:Cx} {pins:List (Addr×Obj)} {σ:List (Option V)} {H H':Hp} {s:Shared} {h':Heap}
theorem Cx.Ok.nofr (ok:X.Ok) {b:Addr} {o:Obj} (e:X.base.get? b=some o):b∉X.fs:=fun hb=>by
 have:=(ok.funs.mem hb).1
 rw [e] at this;cases this
theorem Inv.bs (I:Inv X pins σ H s):∀ b o,X.base.get? b=some o->s.heap.get? b=some o/\H b=none:=fun b o e =>
 ⟨I.base.keep b o (I.ok.bs b o e).1 (I.ok.bs b o e).2 (I.ok.nofr e) (I.ok.noex b o e),I.base.free b o (I.ok.bs b o e).1 (I.ok.bs b o e).2 (I.ok.noex b o e)⟩
theorem Inv.bk (I:Inv X pins σ H s):∀ b o,X.base.get? b=some o->s.heap.get? b=some o:=fun b o e=>(I.bs b o e).1
theorem Inv.mod (I:Inv X pins σ H s):Mod X.K X.mg X.base:=I.ok.mod
theorem Inv.kIn (I:Inv X pins σ H s):X.K.In s.heap:=I.ok.mod.kin.keeps I.bk
theorem Inv.fr (I:Inv X pins σ H s):∃ m,Fr X.base X.env.locals s.heap m :=
 let ⟨m,hn,_⟩:=I.loc
 ⟨m,hn,I.bk,Kn I.ok.bsz I.ok.above⟩
theorem Inv.lt (I:Inv X pins σ H s):X.env.locals<s.heap.objs.size:=let ⟨_,hn,_⟩:=I.loc;hn.lt
theorem Inv.sz (I:Inv X pins σ H s):X.s₀.heap.objs.size<=s.heap.objs.size:=Kn I.ok.above (Mg I.lt)
theorem Inv.nofs (I:Inv X pins σ H s) {a:Addr} (h:s.heap.objs.size<=a):a∉X.fs:=fun hb=>by
 obtain ⟨_,o,ho,_⟩:=I.ok.funs.mem hb
 exact absurd (KP (KD ho) (Kn I.sz h)) (Lx _)
theorem Inv.cne (I:Inv X pins σ H s):∀ x c,X.env.cells.lookup x=some c->c≠X.env.locals:=fun x c e z=>by
 obtain ⟨v,o,ho,hd⟩:=I.cell x c e
 obtain ⟨m,⟨o',es,ep,ho',hd',_⟩,_⟩:=I.loc
 rw [z,ho'] at ho;cases ho;rw [hd'] at hd;cases hd
theorem Inv.funs (I:Inv X pins σ H s):s.heap.FunFrames X.base X.outer:=by
 have all:∀ (l:List Env),(∀ b∈dQ l,b∈X.fs)->X.s₀.heap.FunFrames X.base l->s.heap.FunFrames X.base l:=by
  intro l
  induction l with
  | nil=>intro _ _;trivial
  | cons env r ih =>
   intro hs hl
   obtain ⟨hk,⟨L,o,hf,hn,ho,hd⟩,hr⟩:=hl
   have hL:L∈X.fs:=hs L (by unfold dQ;rw [Ml,hf];exact Km)
   obtain ⟨sl,e⟩:=I.base.slot L o ho (I.ok.frf L hL) hL fun z=>I.ok.exfs L z hL
   exact ⟨hk,⟨L,_,hf,hn,e,hd⟩,ih (fun b hb=>hs b (by unfold dQ;rw [Ml,hf];exact Kp _ hb)) hr⟩
 exact all X.outer (fun _ hb=>hb) I.ok.funs
theorem Inv.stack (I:Inv X pins σ H s):s.heap.FunFrames X.base X.stack:=by
 rcases I.ok.stk with e | ⟨e,hf⟩
 ·rw [e];exact I.funs
 ·rw [e]
  obtain ⟨m,hn,_⟩:=I.loc
  refine .cons (by rw [I.ok.kind];decide) hf hn ?_ I.funs
  exact Heap.get?_none_of_le (Kn I.ok.bsz I.ok.above)
theorem Inv.stkSub (I:Inv X pins σ H s):∀ b∈dQ X.stack,b∈X.env.locals::X.fs:=fun b hb=>by
 rcases I.ok.stk with e | ⟨e,hf⟩
 ·rw [e] at hb;exact Kp _ hb
 ·rw [e] at hb
  unfold dQ at hb
  rw [Ml,hf] at hb;exact hb
theorem Inv.stkFree (I:Inv X pins σ H s):∀ b∈dQ X.stack,H b=none:=fun b hb=>by
 rcases KJ.mp (I.stkSub b hb) with e | hb
 ·rw [e];exact I.free
 ·obtain ⟨_,o,ho,_⟩:=I.ok.funs.mem hb
  exact I.base.free b o ho (I.ok.frf b hb) fun z=>I.ok.exfs b z hb
theorem Inv.step {g':Array GenState} {t':Nat} {d':Drawn} {ch:List Addr} (I:Inv X pins σ H s)
  (hch:∀ b∈ch,(b∈X.ex\/X.s₀.heap.objs.size<=b)/\b≠X.env.locals/\(∀ x c,X.env.cells.lookup x=some c->c≠b)/\∀ p∈X.pn++pins,p.1≠b)
  (keep:∀ b o,b≠X.env.locals->b∉X.fs->b∉ch->s.heap.get? b=some o->H b=none->h'.get? b=some o)
  (slot:∀ b o,b≠X.env.locals->b∈X.fs->b∉ch->s.heap.get? b=some o->H b=none->∃ sl,h'.get? b=some { o with slots:=sl }) (free:∀ b o,b∉ch->s.heap.get? b=some o->H b=none->H' b=none)
  (there:∀ b o,b∉ch->s.heap.get? b=some o->∃ o',h'.get? b=some o')
  (tups:∀ b xs,H b=some (.tup xs)->H' b=some (.tup xs)) (frzs:∀ b o u,H b=some (.frz o u)->H' b=some (.frz o u)) (tbls:∀ b ps,H b=some (.tbl ps)->∃ more,H' b=some (.tbl (ps++more)))
  (ns:∀ m,s.heap.Ns X.env.locals m->h'.Ns X.env.locals m) (hok:HOk X.prog X.w H' h') (hg:AllBare g') :
  Inv X pins σ H' { s with heap:=h',gens:=g',drawn:=d',toks:=t' }:=by
 have neL:∀ b o,X.s₀.heap.get? b=some o->b≠X.env.locals:=fun b o e=>K7 (KP (KD e) I.ok.above)
 have neC:∀ b o,X.s₀.heap.get? b=some o->b∉X.ex->b∉ch:=fun b o e hx hb=>by
  rcases (hch b hb).1 with z | z
  ·exact hx z
  ·exact absurd (KP (KD e) z) (Lx _)
 have cellK:∀ x c,X.env.cells.lookup x=some c->∀ v,s.heap.IsCell c v->h'.IsCell c v:=fun x c e v ⟨o,ho,hd⟩=>by
  have nch:c∉ch:=fun z=>(hch c z).2.2.1 x c e rfl
  by_cases hc:c∈X.fs
  ·obtain ⟨sl,q⟩:=slot c o (I.cne x c e) hc nch ho (I.freeC x c e)
   exact ⟨_,q,hd⟩
  ·exact ⟨o,keep c o (I.cne x c e) hc nch ho (I.freeC x c e),hd⟩
 refine ⟨I.ok,I.os,hg,⟨fun b o e n hb hx=>?_,fun b o e n hb hx=>?_,fun b o e n hx=>?_,fun b o e hx=>?_,fun b xs e=>tups b xs (I.base.tups b xs e),fun b o xs e=>frzs b o xs (I.base.frzs b o xs e),fun b ps e=>?_⟩,?_,fun x c e=>?_,?_,fun x c e=>?_,fun p hp=>?_,hok,I.len⟩
 ·exact keep b o (neL b o e) hb (neC b o e hx) (I.base.keep b o e n hb hx) (I.base.free b o e n hx)
 ·obtain ⟨sl,e1⟩:=I.base.slot b o e n hb hx
  obtain ⟨sl',e2⟩:=slot b _ (neL b o e) hb (neC b o e hx) e1 (I.base.free b o e n hx)
  exact ⟨sl',e2⟩
 ·obtain ⟨o',e1⟩:=I.base.there b o e hx
  exact free b o' (neC b o e hx) e1 (I.base.free b o e n hx)
 ·obtain ⟨o',e1⟩:=I.base.there b o e hx
  exact there b o' (neC b o e hx) e1
 ·obtain ⟨m1,e1⟩:=I.base.tbls b ps e
  obtain ⟨m2,e2⟩:=tbls b _ e1
  exact ⟨m1++m2,by rw [e2,Array.append_assoc]⟩
 ·obtain ⟨m,hn,hl⟩:=I.loc
  refine ⟨m,ns m hn,fun i x v e1 e2 e3=>?_⟩
  obtain ⟨u,r,l⟩:=hl i x v e1 e2 e3
  refine ⟨u,r,?_⟩
  rcases l with l | ⟨k,c,e,z⟩
  ·exact .inl l
  ·exact .inr ⟨k,c,e,cellK x c e _ z⟩
 ·obtain ⟨v,z⟩:=I.cell x c e
  exact ⟨v,cellK x c e v z⟩
 ·obtain ⟨m,⟨o,_,_,ho,_⟩,_⟩:=I.loc
  exact free _ o (fun z=>(hch _ z).2.1 rfl) ho I.free
 ·obtain ⟨v,o,ho,hd⟩:=I.cell x c e
  exact free c o (fun z=>(hch c z).2.2.1 x c e rfl) ho (I.freeC x c e)
 ·obtain ⟨e,n,ne,nf,d⟩:=I.pin p hp
  have nch:p.1∉ch:=fun z=>(hch p.1 z).2.2.2 p hp rfl
  exact ⟨keep p.1 p.2 ne nf nch e n,free p.1 p.2 nch e n,ne,nf,d⟩
theorem Inv.un {t':Nat} (I:Inv X pins σ H s) (u:Un X.fs [] H H' s.heap h') (hok:HOk X.prog X.w H' h'):Inv X pins σ H' { s with heap:=h',toks:=t' }:=by
 obtain ⟨m,⟨o,es,ep,ho,r⟩,_⟩:=id I.loc
 obtain ⟨sl,hL⟩:=u.any ho I.free (by simp)
 exact I.step (g' := s.gens) (d' := s.drawn) (ch:=[]) (fun _ z=>nomatch z) (fun b o _ hb _ e n=>u.keep b o e n hb (by simp)) (fun b o _ hb _ e n=>u.slot b o e n hb (by simp)) (fun b o _ e n=>u.free b o e n (by simp)) (fun b o _ e=>u.there b o e (by simp)) u.tups u.frzs u.tbls (fun m' hm=>by
  obtain ⟨o',es',ep',ho',r'⟩:=hm
  rw [ho] at ho';cases ho'
  exact ⟨_,es',ep',hL,r'⟩) hok I.bare
theorem Inv.call {g':Array GenState} {t':Nat} {d':Drawn} {ch:List Addr} (I:Inv X pins σ H s) (u:Un (dQ X.stack) ch H H' s.heap h') (hok:HOk X.prog X.w H' h') (hg:AllBare g')
  (hch:∀ b∈ch,(b∈X.ex\/X.s₀.heap.objs.size<=b)/\b≠X.env.locals/\(∀ x c,X.env.cells.lookup x=some c->c≠b)/\∀ p∈X.pn++pins,p.1≠b) :
  Inv X pins σ H' { s with heap:=h',gens:=g',drawn:=d',toks:=t' }:=by
 obtain ⟨m,⟨o,es,ep,ho,r⟩,_⟩:=id I.loc
 obtain ⟨sl,hL⟩:=u.any ho I.free fun z=>(hch _ z).2.1 rfl
 exact I.step (ch:=ch) hch (fun b o hL hb hc e n=>u.keep b o e n (fun z=>(KJ.mp (I.stkSub b z)).elim hL hb) hc) (fun b o _ _ hc e n=>u.any e n hc) (fun b o hc e n=>u.free b o e n hc) (fun b o hc e=>u.there b o e hc) u.tups u.frzs u.tbls (fun m' hm=>by
  obtain ⟨o',es',ep',ho',r'⟩:=hm
  rw [ho] at ho';cases ho'
  exact ⟨_,es',ep',hL,r'⟩) hok hg
theorem Inv.turned {t':Nat} {it:Addr} (I:Inv X pins σ H s) (k:∀ b o,b≠it->s.heap.get? b=some o->h'.get? b=some o) (hn:H it=none) (hL:it≠X.env.locals)
  (h1:it∈X.ex\/X.s₀.heap.objs.size<=it) (h2:∀ x c,X.env.cells.lookup x=some c->c≠it) (h3:∀ p∈X.pn++pins,p.1≠it):Inv X pins σ H { s with heap:=h',toks:=t' }:=by
 have nit:∀ b u,H b=some u->b≠it:=fun b u e z=>by rw [z,hn] at e;cases e
 refine I.step (g' := s.gens) (d' := s.drawn) (ch:=[it]) (fun b hb=>?_) (fun b o _ _ hc e _=>k b o (fun z=>hc (by simp [z])) e) (fun b o _ _ hc e _=>⟨o.slots,k b o (fun z=>hc (by simp [z])) e⟩) (fun _ _ _ _ n=>n)
  (fun b o hc e=>⟨o,k b o (fun z=>hc (by simp [z])) e⟩) (fun _ _ e=>e) (fun _ _ _ e=>e) (fun b ps e=>⟨#[],by rw [e];simp⟩) (fun m hm=>?_) (fun b u e=>?_) I.bare
 ·have e:b=it:=by simpa using hb
  subst e;exact ⟨h1,hL,h2,h3⟩
 ·obtain ⟨o,es,ep,ho,r⟩:=hm
  exact ⟨o,es,ep,k _ o (Ne.symm hL) ho,r⟩
 ·refine (I.hok b u e).stay (fun c v hc q=>k c v ?_ q) (fun _ q=>q) fun _ _ q=>q
  rcases hc with z | z
  ·rw [z];exact nit b u e
  ·exact nit c _ z
theorem Inv.tok (I:Inv X pins σ H s) (t:Nat):Inv X pins σ H { s with toks:=t }:=I.un (h' := s.heap) (t' := t) Un.refl I.hok
theorem Inv.kept {t':Nat} (I:Inv X pins σ H s) (k:∀ b u,s.heap.get? b=some u->h'.get? b=some u):Inv X pins σ H { s with heap:=h',toks:=t' }:=I.un (Un.kept k) (I.hok.kept k)
theorem Inv.laid {a:Addr} {o:HO} {t':Nat} (I:Inv X pins σ H s) (k:∀ b u,s.heap.get? b=some u->h'.get? b=some u) (hp:s.heap.objs.size<=a) (new:ObjOk X.prog X.w (aJ H a o) h' a o) :
  Inv X pins σ (aJ H a o) { s with heap:=h',toks:=t' }:=I.un (Un.laid k hp (I.hok.fresh hp)) (I.hok.laid k hp new)
theorem Inv.write {x e:Addr} {o:HO} {t':Nat} (I:Inv X pins σ H s) (mu:mC (H x)) (he:e=x\/H e=some (.own x)) (k:∀ b u,b≠e->s.heap.get? b=some u->h'.get? b=some u) (heo:∃ u,h'.get? e=some u)
  (new:ObjOk X.prog X.w (aJ H x o) h' x o):Inv X pins σ (aJ H x o) { s with heap:=h',toks:=t' }:=I.un (Un.write mu he k heo) (I.hok.write mu he k heo new)
theorem Inv.weak {σ':List (Option V)} (I:Inv X pins σ H s) (hl:σ'.length=σ.length) (w:∀ (i:Nat) v,σ'[i]? = some (some v)->σ[i]? = some (some v)):Inv X pins σ' H s :=
 ⟨I.ok,I.os,I.bare,I.base,let ⟨m,hn,hl'⟩:=I.loc;⟨m,hn,fun i x v e1 e2 e3=>hl' i x v e1 (w i v e2) e3⟩,I.cell,I.free,I.freeC,I.pin,I.hok,hl.trans I.len⟩
theorem Inv.pins_of {pins':List (Addr×Obj)} (I:Inv X pins σ H s) (h:∀ p∈pins',s.heap.get? p.1=some p.2/\H p.1=none/\p.1≠X.env.locals/\p.1∉X.fs/\∀ v,p.2.data ≠ .cell v):Inv X pins' σ H s :=
 ⟨I.ok,I.os,I.bare,I.base,I.loc,I.cell,I.free,I.freeC,fun p hp=>(KI.mp hp).elim (fun z=>I.pin p (Kz _ z)) (h p),I.hok,I.len⟩
theorem qB {N:List Str} (hN:N.Nodup) {i j:Nat} {x:Str} (a:N[i]? = some x) (b:N[j]? = some x):i=j:=by
 obtain ⟨h1,e1⟩:=Kh.mp a
 obtain ⟨h2,e2⟩:=Kh.mp b
 exact (List.getElem_inj hN).mp (e1.trans e2.symm)
theorem qC {M:Model} {A:Around} {E:Value->Shared->Prop} {i:Nat} {x:Str} {v:V} {u:Value} {Q:Unit->Shared->Prop} (I:Inv X pins σ H s) (hN:X.N.Nodup) (hi:X.N[i]? = some x) (hx:iP X.env.scope x) (r:RelV v u)
  (h:∀ s',Inv X pins (σ.set i (some v)) H s'->(∃ a,Heap.SameBut a s.heap s'.heap/\(a=X.env.locals\/X.env.cells.lookup x=some a))->Q () s') (hf:X.fn x=true\/X.env.scope.names.lookup x=some .local:=by first | exact .inl rfl | exact .inr rfl | assumption):wpAny M A (storeName X.env x u) Q E s:=by
 obtain ⟨m,hn,hl⟩:=id I.loc
 have hcls:(X.env.scope.kind == .class || (X.env.scope.kind == .module && X.env.locals != X.env.globals))=false:=by rw [I.ok.kind];rfl
 have hiσ:i<σ.length:=by rw [I.len];exact (Kh.mp hi).1
 have cne:=I.cne
 have tracked:∀ {a:Addr} {h':Heap},(∃ o,s.heap.get? a=some o/\H a=none)->Heap.SameBut a s.heap h'->HOk X.prog X.w H h' := fun {a h'} ha hs b ob e=>by
  obtain ⟨_,_,hfree⟩:=ha
  refine (I.hok b ob e).stay (fun c w' hc q=>(hs.2 c ?_).trans q) (fun _ q=>q) fun _ _ q=>q
  rintro rfl
  rcases hc with rfl | hc
  ·rw [hfree] at e;cases e
  ·rw [hfree] at hc;cases hc
 rcases hx with hk | hk
 ·refine wpAny_storeName_local hk hn (fun h' hn' hs=>?_) hcls
  obtain ⟨oL,_,_,hoL,_⟩:=id hn
  refine h _ ⟨I.ok,I.os,I.bare,⟨fun b o e n hb hx=>?_,fun b o e n hb hx=>?_,I.base.free,fun b o e hx=>?_,I.base.tups,I.base.frzs,I.base.tbls⟩,⟨_,hn',fun j y v' e1 e2 e3=>?_⟩,fun y c e=>?_,I.free,I.freeC,fun p hp=>?_,tracked ⟨oL,hoL,I.free⟩ hs,by simpa using I.len⟩ ⟨_,hs,.inl rfl⟩
  ·exact (hs.2 b (K7 (KP (KD e) I.ok.above))).trans (I.base.keep b o e n hb hx)
  ·obtain ⟨sl,e1⟩:=I.base.slot b o e n hb hx
   exact ⟨sl,(hs.2 b (K7 (KP (KD e) I.ok.above))).trans e1⟩
  ·obtain ⟨o',e1⟩:=I.base.there b o e hx
   exact ⟨o',(hs.2 b (K7 (KP (KD e) I.ok.above))).trans e1⟩
  ·by_cases hj:j=i
   ·subst hj
    rw [hi] at e1;cases e1
    rw [Ko hiσ] at e2
    cases e2
    exact ⟨u,r,.inl ⟨hk,by simp⟩⟩
   ·rw [Kr (Ne.symm hj)] at e2
    obtain ⟨u',r',q⟩:=hl j y v' e1 e2 e3
    refine ⟨u',r',?_⟩
    rcases q with ⟨k,e⟩ | ⟨k,c,e,z⟩
    ·refine .inl ⟨k,?_⟩
     have:y≠x:=fun e=>hj (qB hN e1 (e▸hi))
     simp [this,e]
    ·exact .inr ⟨k,c,e,z.sameBut hs (cne y c e)⟩
  ·obtain ⟨w',z⟩:=I.cell y c e
   exact ⟨w',z.sameBut hs (cne y c e)⟩
  ·obtain ⟨e,n,ne,nf,d⟩:=I.pin p hp
   exact ⟨(hs.2 p.1 ne).trans e,n,ne,nf,d⟩
 ·have hfn:X.fn x=true:=by
   rcases hf with z | z
   ·exact z
   ·rw [z] at hk;cases hk
  obtain ⟨c,hc⟩:=I.ok.has x (.inl hk)
  obtain ⟨w',z⟩:=I.cell x c hc
  refine wpAny_storeName_cell I.ok.kind hk hc z (fun h' hc' hs=>?_)
  obtain ⟨oc,hoc,hocd⟩:=id z
  refine h { s with heap:=h' } ⟨I.ok,I.os,I.bare,⟨fun b o e n hb hx=>?_,fun b o e n hb hx=>?_,I.base.free,fun b o e hx=>?_,I.base.tups,I.base.frzs,I.base.tbls⟩,⟨m,hn.sameBut hs (Ne.symm (cne x c hc)),fun j y v' e1 e2 e3=>?_⟩,fun y c' e=>?_,I.free,I.freeC,fun p hp=>?_,tracked ⟨oc,hoc,I.freeC x c hc⟩ hs,by simpa using I.len⟩ ⟨c,hs,.inr hc⟩
  ·exact (hs.2 b (K7 (KP (KD e) (I.ok.cab x c hfn hc)))).trans (I.base.keep b o e n hb hx)
  ·obtain ⟨sl,e1⟩:=I.base.slot b o e n hb hx
   exact ⟨sl,(hs.2 b (K7 (KP (KD e) (I.ok.cab x c hfn hc)))).trans e1⟩
  ·obtain ⟨o',e1⟩:=I.base.there b o e hx
   exact ⟨o',(hs.2 b (K7 (KP (KD e) (I.ok.cab x c hfn hc)))).trans e1⟩
  ·by_cases hj:j=i
   ·subst hj
    rw [hi] at e1;cases e1
    rw [Ko hiσ] at e2
    cases e2
    exact ⟨u,r,.inr ⟨.inl hk,c,hc,hc'⟩⟩
   ·rw [Kr (Ne.symm hj)] at e2
    obtain ⟨u',r',q⟩:=hl j y v' e1 e2 e3
    refine ⟨u',r',?_⟩
    rcases q with q | ⟨k,c',e,z'⟩
    ·exact .inl q
    ·refine .inr ⟨k,c',e,z'.sameBut hs ?_⟩
     rintro rfl
     exact hj (qB hN e1 (I.ok.inj _ _ _ e hc▸hi))
  ·by_cases hcc:c'=c
   ·subst hcc;exact ⟨_,hc'⟩
   ·obtain ⟨w2,z2⟩:=I.cell y c' e
    exact ⟨w2,z2.sameBut hs hcc⟩
  ·obtain ⟨e,n,ne,nf,d⟩:=I.pin p hp
   refine ⟨(hs.2 p.1 ?_).trans e,n,ne,nf,d⟩
   intro q
   rw [q,hoc] at e;have q':oc=p.2:=K4 e
   exact d w' (by rw [<- q'];exact hocd)
theorem qD {M:Model} {A:Around} {E:Value->Shared->Prop} {i:Nat} {x:Str} {v:V} {u:Value} {Q:Unit->Shared->Prop} (I:Inv X pins σ H s) (hN:X.N.Nodup) (hi:X.N[i]? = some x) (hx:iP X.env.scope x) (r:RelV v u)
  (h:∀ s',Inv X pins (σ.set i (some v)) H s'->Q () s') (hf:X.fn x=true\/X.env.scope.names.lookup x=some .local:=by first | exact .inl rfl | exact .inr rfl | assumption):wpAny M A (storeName X.env x u) Q E s :=
 qC I hN hi hx r (fun s' I' _=>h s' I') hf
theorem Inv.call' {s':Shared} {ch:List Addr} (I:Inv X pins σ H s) (ho:s'.os=s.os) (u:Un (dQ X.stack) ch H H' s.heap s'.heap) (hok:HOk X.prog X.w H' s'.heap) (hg:AllBare s'.gens)
  (hch:∀ b∈ch,(b∈X.ex\/X.s₀.heap.objs.size<=b)/\b≠X.env.locals/\(∀ x c,X.env.cells.lookup x=some c->c≠b)/\∀ p∈X.pn++pins,p.1≠b):Inv X pins σ H' s' := by
 obtain ⟨h',g',d',t',o'⟩:=s'
 have e:o'=s.os:=ho
 subst e;exact I.call (g' := g') (t' := t') (d' := d') u hok hg hch
end
abbrev XK:=Value->Option Addr->Hp->Prop
abbrev St:=List (Option V)
abbrev VK:=V->Hp->Prop
abbrev TE:=St->Hp->VK->Prop
abbrev TT:=St->Hp->(Bool->Hp->Prop)->Prop
abbrev TA:=St->Hp->(List V->Hp->Prop)->Prop
structure dJ where
 nx:St->Hp->Prop
 rt:VK
 bk:St->Hp->Prop:=fun _ _=>False
 ct:St->Hp->Prop:=fun _ _=>False
abbrev TS:=dJ->St->Hp->Prop
def EP (X:Cx) (pins:List (Addr×Obj)) (σ:St) (Q:VK) (u:Value) (s':Shared):Prop:=∃ v H',Inv X pins σ H' s'/\RelV v u/\Q v H'
def TP (X:Cx) (pins:List (Addr×Obj)) (σ:St) (Q:Bool->Hp->Prop) (b:Bool) (s':Shared):Prop:=∃ H',Inv X pins σ H' s'/\Q b H'
def AP (X:Cx) (pins:List (Addr×Obj)) (σ:St) (Q:List V->Hp->Prop) (us:List Value) (s':Shared):Prop:=∃ vs H',Inv X pins σ H' s'/\Vals vs us/\Q vs H'
def SP (X:Cx) (pins:List (Addr×Obj)) (D:dJ) (f:Flow) (s':Shared):Prop :=
 match f with
 | .next=>∃ σ' H',Inv X pins σ' H' s'/\D.nx σ' H'
 | .brk=>∃ σ' H',Inv X pins σ' H' s'/\D.bk σ' H'
 | .cont=>∃ σ' H',Inv X pins σ' H' s'/\D.ct σ' H'
 | .ret u=>∃ v σ' H',Inv X pins σ' H' s'/\RelV v u/\D.rt v H'
def PE (X:Cx) (e:Expr) (t:TE):Prop :=
 ∀ (pins:List (Addr×Obj)) (s:Shared) (σ:St) (H:Hp) (Q:VK),Inv X pins σ H s->t σ H Q->wpAny (model X.prog X.w) X.A (eval e X.env) (EP X pins σ Q) X.xe s
def PT (X:Cx) (e:Expr) (t:TT):Prop :=
 ∀ (pins:List (Addr×Obj)) (s:Shared) (σ:St) (H:Hp) (Q:Bool->Hp->Prop),Inv X pins σ H s->t σ H Q->wpAny (model X.prog X.w) X.A (isTrue e X.env (eval e X.env)) (TP X pins σ Q) X.xe s
def PW (X:Cx) (e:Expr) (t:TT):Prop :=
 ∀ (whole:Sem Value) (pins:List (Addr×Obj)) (s:Shared) (σ:St) (H:Hp) (Q:Bool->Hp->Prop),Inv X pins σ H s->t σ H Q->wpAny (model X.prog X.w) X.A (isTrue e X.env whole) (TP X pins σ Q) X.xe s
theorem PW.pt {X:Cx} {e:Expr} {t:TT} (h:PW X e t):PT X e t:=h _
def PA (X:Cx) (es:List Expr) (t:TA):Prop :=
 ∀ (pos:Pos) (pins:List (Addr×Obj)) (s:Shared) (σ:St) (H:Hp) (Q:List V->Hp->Prop),Inv X pins σ H s->t σ H Q->wpAny (model X.prog X.w) X.A (spliced (backTo pos (starEach es X.env))) (AP X pins σ Q) X.xe s
def PS (X:Cx) (st:Stmt) (t:TS):Prop :=
 ∀ (pins:List (Addr×Obj)) (s:Shared) (σ:St) (H:Hp) (D:dJ),Inv X pins σ H s->t D σ H->wpAny (model X.prog X.w) X.A (exec st X.env) (SP X pins D) X.xe s
def gL (X:Cx) (st:List Stmt) (t:TS):Prop :=
 ∀ (pins:List (Addr×Obj)) (s:Shared) (σ:St) (H:Hp) (D:dJ),Inv X pins σ H s->t D σ H->wpAny (model X.prog X.w) X.A (execs st X.env) (SP X pins D) X.xe s
theorem thn {α:Type} {t:Sem α} {Q Q':α->Shared->Prop} {M:Model} {A:Around} {E:Value->Shared->Prop} {s:Shared} (h:wpAny M A t Q E s) (hQ:∀ a s,Q a s->Q' a s):wpAny M A t Q' E s:=Lc h hQ fun _ _ x=>x
end L2
namespace L2
open PySem PySem.Spec PyProof.Rows
section
variable {X:Cx}
theorem J5 {a b:Expr} {ta tb:TE} (ha:PE X a ta) (hb:PE X b tb) {pins:List (Addr×Obj)} {s:Shared} {σ:St} {H:Hp} {R:V->V->Hp->Prop} (I:Inv X pins σ H s) (h:ta σ H fun x H1=>tb σ H1 fun y H2=>R x y H2)
  {α:Type} {Q:α->Shared->Prop} {f:Value->Value->Sem α}
  (hf:∀ v u s2 x y H2,Inv X pins σ H2 s2->RelV x v->RelV y u->R x y H2->wpAny (model X.prog X.w) X.A (f v u) Q X.xe s2) :
  wpAny (model X.prog X.w) X.A (eval a X.env) (fun v s₁=>wpAny (model X.prog X.w) X.A (eval b X.env) (fun u s₂=>wpAny (model X.prog X.w) X.A (f v u) Q X.xe s₂) X.xe s₁) X.xe s:=by
 refine thn (ha pins s σ H _ I h) fun v s1 ⟨x,H1,I1,r1,q1⟩=>?_
 refine thn (hb pins s1 σ H1 _ I1 q1) fun u s2 ⟨y,H2,I2,r2,q2⟩=>?_
 exact hf v u s2 x y H2 I2 r1 r2 q2
def mD (i:Nat):TE:=fun σ H Q=>∃ v,σ[i]? = some (some v)/\Q v H
def tC (v:V):TE:=fun _ H Q=>Q v H
theorem AD {i:Nat} {x:Str} {pos:Pos} (hN:X.N[i]? = some x) (hv:lF X.env.scope x) (hd:(x == ("__debug__" : Str))=false:=by decide) (hcd:(x == ("__classdict__" : Str))=false:=by decide):PE X (.Name x pos) (mD i):=by
 intro pins s σ H Q I h
 obtain ⟨v,e,h⟩:=h
 obtain ⟨m,hn,hl⟩:=I.loc
 obtain ⟨u,r,l⟩:=hl i x v hN e hv
 have fin:EP X pins σ Q u s:=⟨v,H,I,r,h⟩
 rcases l with ⟨hk,hm⟩ | ⟨hk,c,hc,hcell⟩
 ·exact Ov (wpAny_loadName_local I.ok.kind hk hn hm fin) hd
 ·rcases hk with hk | hk
  ·exact Ov (wpAny_loadName_cell I.ok.kind hk hc hcell fin) hd
  ·exact Ov (wpAny_loadName_free I.ok.kind hk hc hcell fin hcd) hd
theorem AE {i j pos}:PE X (.Constant (.int i) j pos) (tC (.int i)):=fun _ _ _ H _ I h=>wpAny_Constant_int ⟨.int i,H,I.tok _,⟨_,rfl⟩,h⟩
theorem AF {b j pos}:PE X (.Constant (.bool b) j pos) (tC (.bl b)):=fun _ _ _ H _ I h=>Constant_bool ⟨.bl b,H,I,rfl,h⟩
theorem AG {j pos}:PE X (.Constant .none j pos) (tC .non):=fun _ _ _ H _ I h=>Constant_none ⟨.non,H,I,rfl,h⟩
theorem AI {x j pos}:PE X (.Constant (.str x) j pos) (tC (.str x)):=fun _ _ _ H _ I h=>Calls.Constant_str ⟨.str x,H,I.tok _,⟨_,rfl⟩,h⟩
def Gl (X:Cx) (x:Str):Prop:=X.env.kindOf x=some .globalImplicit
theorem oC {E:Value->Shared->Prop} {pins:List (Addr×Obj)} {s:Shared} {σ:St} {H:Hp} {x:Str} {u:Value} {pos:Pos} {Q:Value->Shared->Prop} (I:Inv X pins σ H s) (hg:Gl X x) (hm:X.mg x=some u) (h:Q u s)
  (hd:(x == ("__debug__" : Str))=false:=by decide):wpAny (model X.prog X.w) X.A (eval (.Name x pos) X.env) Q E s :=
 MQ I.ok.kind hg (Calls.loadGlobal_global (by rw [I.ok.glob];exact I.mod.glob.keeps I.bk) hm h) hd
theorem ki {E:Value->Shared->Prop} {pins:List (Addr×Obj)} {s:Shared} {σ:St} {H:Hp} {x:Str} {u:Value} {pos:Pos} {Q:Value->Shared->Prop} (I:Inv X pins σ H s) (hg:Gl X x) (hm:X.mg x=none) (hv:bootBuiltins x=some u) (h:Q u s)
  (hn:x ≠ "__name__" := by decide) (hd:(x == ("__debug__" : Str))=false:=by decide):wpAny (model X.prog X.w) X.A (eval (.Name x pos) X.env) Q E s:=by
 obtain ⟨mb,h1,h2⟩:=I.mod.blt
 exact MQ I.ok.kind hg (Calls.loadGlobal_builtin (by rw [I.ok.glob];exact I.mod.glob.keeps I.bk) hm (by rw [I.ok.blt];exact h1.keeps I.bk) ((h2 x hn).trans hv) h) hd
theorem AJ {x:Str} {v:V} {u:Value} {pos:Pos} (hg:Gl X x) (hm:X.mg x=some u) (r:RelV v u) (hd:(x == ("__debug__" : Str))=false:=by decide):PE X (.Name x pos) (tC v) :=
 fun _ _ _ H _ I h=>oC I hg hm ⟨v,H,I,r,h⟩ hd
theorem AK {x:Str} {v:V} {u:Value} {pos:Pos} (hg:Gl X x) (hm:X.mg x=none) (hv:bootBuiltins x=some u) (r:RelV v u) (hn:x ≠ "__name__" := by decide) (hd:(x == ("__debug__" : Str))=false:=by decide):PE X (.Name x pos) (tC v) :=
 fun _ _ _ H _ I h=>ki I hg hm hv ⟨v,H,I,r,h⟩ hn hd
variable {a b:Expr} {ta tb:TE} {pos:Pos}
variable {tA tB':TT} {rest:List Expr}
def qE (t u:TT):TT:=fun σ H Q=>t σ H fun c H1=>if c=true then u σ H1 Q else Q false H1
def AL (t u:TT):TT:=fun σ H Q=>t σ H fun c H1=>if c=true then Q true H1 else u σ H1 Q
def qF (t:TT):TT:=fun σ H Q=>t σ H fun c H1=>Q (!c) H1
theorem AM (ha:PT X a tA):PW X (.BoolOp .And [a] pos) tA:=by
 intro wh pins s σ H Q I h
 refine isTrue_and (thn (ha pins s σ H Q I h) fun c s1 e=>?_)
 cases c with
 | true=>exact isTrue_and_nil e
 | false=>exact e
theorem AN (ha:PT X a tA):PW X (.BoolOp .Or [a] pos) tA:=by
 intro wh pins s σ H Q I h
 refine isTrue_or (thn (ha pins s σ H Q I h) fun c s1 e=>?_)
 cases c with
 | false=>exact isTrue_or_nil e
 | true=>exact e
theorem AQ (ha:PT X a tA) (hb:PW X (.BoolOp .And (b::rest) pos) tB'):PW X (.BoolOp .And (a::b::rest) pos) (qE tA tB'):=by
 intro wh pins s σ H Q I h
 refine isTrue_and (thn (ha pins s σ H _ I h) fun c s1 ⟨H1,I1,q1⟩=>?_)
 cases c with
 | true=>exact hb wh pins s1 σ H1 Q I1 q1
 | false=>exact ⟨H1,I1,q1⟩
theorem AR (ha:PT X a tA) (hb:PW X (.BoolOp .Or (b::rest) pos) tB'):PW X (.BoolOp .Or (a::b::rest) pos) (AL tA tB'):=by
 intro wh pins s σ H Q I h
 refine isTrue_or (thn (ha pins s σ H _ I h) fun c s1 ⟨H1,I1,q1⟩=>?_)
 cases c with
 | true=>exact ⟨H1,I1,q1⟩
 | false=>exact hb wh pins s1 σ H1 Q I1 q1
theorem AS (ha:PT X a tA):PT X (.UnaryOp .Not a pos) (qF tA):=by
 intro pins s σ H Q I h
 exact isTrue_not (ha pins s σ H (fun c H1=>Q (!c) H1) I h)
def AU (ta tb:TE):TE:=fun σ H Q=>ta σ H fun x H1=>∃ c,x = .bl c/\if c=true then tb σ H1 Q else Q (.bl false) H1
def qG (ta tb:TE):TE:=fun σ H Q=>ta σ H fun x H1=>∃ c,x = .bl c/\if c=true then Q (.bl true) H1 else tb σ H1 Q
def AW (ta:TE):TE:=fun σ H Q=>ta σ H fun x H1=>∃ c,x = .bl c/\Q (.bl (!c)) H1
theorem AX {op} {t:TE} (h:PE X a t):PE X (.BoolOp op [a] pos) t:=fun pins s σ H Q I hw=>BoolOp_one (h pins s σ H Q I hw)
theorem AY (ha:PE X a ta) (hb:PE X (.BoolOp .And (b::rest) pos) tb):PE X (.BoolOp .And (a::b::rest) pos) (AU ta tb):=by
 intro pins s σ H Q I h
 refine BoolOp_and (thn (ha pins s σ H _ I h) fun v s1 ⟨x,H1,I1,r1,q1⟩=>?_)
 obtain ⟨c,rfl,q1⟩:=q1
 cases r1
 refine LH ?_
 cases c with
 | true=>exact hb pins s1 σ H1 Q I1 q1
 | false=>exact ⟨.bl false,H1,I1,rfl,q1⟩
theorem AZ (ha:PE X a ta) (hb:PE X (.BoolOp .Or (b::rest) pos) tb):PE X (.BoolOp .Or (a::b::rest) pos) (qG ta tb):=by
 intro pins s σ H Q I h
 refine BoolOp_or (thn (ha pins s σ H _ I h) fun v s1 ⟨x,H1,I1,r1,q1⟩=>?_)
 obtain ⟨c,rfl,q1⟩:=q1
 cases r1
 refine LH ?_
 cases c with
 | false=>exact hb pins s1 σ H1 Q I1 q1
 | true=>exact ⟨.bl true,H1,I1,rfl,q1⟩
theorem A0 (ha:PE X a ta):PE X (.UnaryOp .Not a pos) (AW ta):=by
 intro pins s σ H Q I h
 refine UnaryOp_ (thn (ha pins s σ H _ I h) fun v s1 ⟨x,H1,I1,r1,q1⟩=>?_)
 obtain ⟨c,rfl,q1⟩:=q1
 cases r1
 exact not_of (LH ⟨.bl (!c),H1,I1,rfl,q1⟩)
def A1 (t:TT) (ta tb:TE):TE:=fun σ H Q=>t σ H fun c H1=>if c=true then ta σ H1 Q else tb σ H1 Q
theorem A2 {c:Expr} (hc:PT X c tA) (ha:PE X a ta) (hb:PE X b tb):PE X (.IfExp c a b pos) (A1 tA ta tb):=by
 intro pins s σ H Q I h
 refine wpAny_IfExp (thn (hc pins s σ H _ I h) fun d s1 ⟨H1,I1,q1⟩=>?_)
 cases d with
 | true=>exact ha pins s1 σ H1 Q I1 q1
 | false=>exact hb pins s1 σ H1 Q I1 q1
end
end L2
namespace L2
open PySem PySem.Spec PyProof.Rows
def SqL (K:PySem.W.Frag) (H:Hp) (a:Addr) (xs:List V):Prop :=
 Rd H a (.lst xs) \/
  ∃ (o:Obj) (its:Array Value) (n:Nat),K.lookup a=some o/\o.cls = .type "list" /\ o.dict=none/\o.data = .seq its n/\its.size<=sizeLine/\Vals xs its.toList
def SqT (K:PySem.W.Frag) (H:Hp) (a:Addr) (xs:List V):Prop :=
 Rd H a (.tup xs) \/
  ∃ (o:Obj) (its:Array Value) (n:Nat),K.lookup a=some o/\o.cls = .type "tuple" /\ o.data = .seq its n/\its.size<=sizeLine/\Vals xs its.toList
def qH:Value->Option V
 | .none=>some .non
 | .bool b=>some (.bl b)
 | .int i _=>some (.int i)
 | .str x _=>some (.str x)
 | .bytes b _=>some (.byt b)
 | .float b _=>some (.flt b)
 | .ref a=>some (.ref a)
 | .type n=>some (.ty n)
 | _=>none
theorem RelV.abs {x:V} {u:Value} (r:RelV x u):qH u=some x:=by
 cases x with
 | non=>cases r;rfl
 | bl _=>cases r;rfl
 | int _=>obtain ⟨t,rfl⟩:=r;rfl
 | str _=>obtain ⟨t,rfl⟩:=r;rfl
 | byt _=>obtain ⟨t,rfl⟩:=r;rfl
 | flt _=>obtain ⟨t,rfl⟩:=r;rfl
 | ref _=>cases r;rfl
 | ty _=>cases r;rfl
theorem RelV.inj {x y:V} {u:Value} (r:RelV x u) (q:RelV y u):x=y:=K4 (r.abs.symm.trans q.abs)
theorem Vals.inj:∀ {xs ys:List V} {us:List Value},Vals xs us->Vals ys us->xs=ys
 | _,_,_,.nil,.nil=>rfl
 | _,_,_,.cons r t,.cons r' t' => by rw [r.inj r',Vals.inj t t']
section
variable {X:Cx} {pins:List (Addr×Obj)} {σ:St} {H:Hp} {s:Shared} {a:Addr} {xs ys:List V}
theorem SqL.of {K:PySem.W.Frag} (h:H a=some (.lst xs)):SqL K H a xs:=.inl (.inl h)
theorem SqT.of {K:PySem.W.Frag} (h:H a=some (.tup xs)):SqT K H a xs:=.inl (.inl h)
theorem Inv.list (I:Inv X pins σ H s) (h:SqL X.K H a xs):∃ its:List Value,Vals xs its/\PlainL s.heap a its.toArray/\xs.length<=sizeLine:=by
 rcases h with h | ⟨o,its,n,hk,hc,hd,hs,hz,r⟩
 ·obtain ⟨z,its,n,r,e⟩:=h.ok I.hok
  exact ⟨its,r,⟨_,n,e,rfl,rfl,rfl⟩,z⟩
 ·refine ⟨its.toList,r,⟨o,n,I.kIn a o hk,hc,hd,by simpa using hs⟩,?_⟩
  have e:=r.length
  simp only [Mm] at e
  lia
theorem Inv.tuple (I:Inv X pins σ H s) (h:SqT X.K H a xs):∃ its:List Value,Vals xs its/\IsTup s.heap a its.toArray/\xs.length<=sizeLine:=by
 rcases h with h | ⟨o,its,n,hk,hc,hs,hz,r⟩
 ·obtain ⟨z,its,r,p⟩:=h.ok I.hok
  exact ⟨its,r,p,z⟩
 ·refine ⟨its.toList,r,⟨o,I.kIn a o hk,hc,n,by simpa using hs⟩,?_⟩
  have e:=r.length
  simp only [Mm] at e
  lia
theorem Inv.list_inj (I:Inv X pins σ H s) (h:SqL X.K H a xs) (h':SqL X.K H a ys):xs=ys:=by
 obtain ⟨its,r,⟨o,n,e,_,_,d⟩,_⟩:=I.list h
 obtain ⟨its',r',⟨o',n',e',_,_,d'⟩,_⟩:=I.list h'
 rw [e] at e';cases e'
 rw [d] at d';injection d' with d1 _
 have:its=its' := by simpa using congrArg Array.toList d1
 subst this;exact r.inj r'
theorem Inv.tuple_inj (I:Inv X pins σ H s) (h:SqT X.K H a xs) (h':SqT X.K H a ys):xs=ys:=by
 obtain ⟨its,r,⟨o,e,_,n,d⟩,_⟩:=I.tuple h
 obtain ⟨its',r',⟨o',e',_,n',d'⟩,_⟩:=I.tuple h'
 rw [e] at e';cases e'
 rw [d] at d';injection d' with d1 _
 have:its=its' := by simpa using congrArg Array.toList d1
 subst this;exact r.inj r'
end
abbrev Cx.wish (X:Cx) (E:Value->Shared->Prop):Cx:={ X with xe:=E }
abbrev Cx.nox (X:Cx):Cx:=X.wish fun _ _=>False
theorem Cx.Ok.wish {X:Cx} (ok:X.Ok) (E:Value->Shared->Prop):(X.wish E).Ok :=
 ⟨ok.mod,ok.kind,ok.glob,ok.blt,ok.above,ok.inj,ok.has,ok.cab,ok.hd,ok.frames,ok.stk,ok.exf,ok.bs,ok.bsz,ok.noex,ok.exfs,ok.funs,ok.frf⟩
theorem Cx.Ok.unwish {X:Cx} {E:Value->Shared->Prop} (ok:(X.wish E).Ok):X.Ok :=
 ⟨ok.mod,ok.kind,ok.glob,ok.blt,ok.above,ok.inj,ok.has,ok.cab,ok.hd,ok.frames,ok.stk,ok.exf,ok.bs,ok.bsz,ok.noex,ok.exfs,ok.funs,ok.frf⟩
section
variable {X:Cx} {pins:List (Addr×Obj)} {σ:St} {H:Hp} {s:Shared} {E:Value->Shared->Prop}
theorem Inv.wish (I:Inv X pins σ H s) (E:Value->Shared->Prop):Inv (X.wish E) pins σ H s:=⟨I.ok.wish E,I.os,I.bare,I.base,I.loc,I.cell,I.free,I.freeC,I.pin,I.hok,I.len⟩
theorem Inv.unwish (I:Inv (X.wish E) pins σ H s):Inv X pins σ H s:=⟨I.ok.unwish,I.os,I.bare,I.base,I.loc,I.cell,I.free,I.freeC,I.pin,I.hok,I.len⟩
theorem SP.unwish {D:dJ} {f:Flow} {s':Shared} (h:SP (X.wish E) pins D f s'):SP X pins D f s' := by
 cases f with
 | next=>obtain ⟨σ',H',I,q⟩:=h;exact ⟨σ',H',I.unwish,q⟩
 | brk=>obtain ⟨σ',H',I,q⟩:=h;exact ⟨σ',H',I.unwish,q⟩
 | cont=>obtain ⟨σ',H',I,q⟩:=h;exact ⟨σ',H',I.unwish,q⟩
 | ret u=>obtain ⟨v,σ',H',I,r,q⟩:=h;exact ⟨v,σ',H',I.unwish,r,q⟩
end
section
variable {X:Cx} {st:Stmt} {rest:List Stmt} {t u:TS} {e:Expr} {te:TE} {pos:Pos}
def A3:TS:=fun D σ H=>D.nx σ H
def qI (t u:TS):TS:=fun D σ H=>t { D with nx:=u D } σ H
theorem A4:gL X [] A3:=fun _ _ σ H _ I h=>MJ ⟨σ,H,I,h⟩
theorem A5 (h1:PS X st t) (h2:gL X rest u):gL X (st::rest) (qI t u):=by
 intro pins s σ H D I h
 refine wpAny_execs_cons (thn (h1 pins s σ H { D with nx:=u D } I h) fun f s1 q=>?_)
 cases f with
 | next =>
  obtain ⟨σ',H',I',q⟩:=q
  exact h2 pins s1 σ' H' D I' q
 | ret v=>exact q
 | brk=>exact q
 | cont=>exact q
theorem A6 (h1:PS X st t):gL X [st] t:=by
 intro pins s σ H D I h
 refine wpAny_execs_cons (thn (h1 pins s σ H D I h) fun f s1 q=>?_)
 cases f with
 | next=>exact MJ q
 | ret v=>exact q
 | brk=>exact q
 | cont=>exact q
theorem Inv.quiet {pins:List (Addr×Obj)} {σ:St} {H:Hp} {s:Shared} (I:Inv X pins σ H s):interactive X.env=false:=by simp [interactive,I.ok.kind]
def A7 (te:TE):TS:=fun D σ H=>te σ H fun _ H1=>D.nx σ H1
theorem A8 (he:PE X e te) (hs:swapsWith e none pos.line X.env=pure false:=by rfl):PS X (.Expr e pos) (A7 te):=by
 intro pins s σ H D I h
 exact wpAny_Expr_any (thn (he pins s σ H _ I h) fun v s1 ⟨x,H1,I1,r1,q1⟩=>⟨σ,H1,I1,q1⟩) I.quiet hs
def qJ (te:TE):TS:=fun D σ H=>te σ H D.rt
theorem A9 (he:PE X e te):PS X (.Return (some e) pos) (qJ te):=by
 intro pins s σ H D I h
 exact wpAny_Return_some (thn (he pins s σ H _ I h) fun v s1 ⟨x,H1,I1,r1,q1⟩=>⟨x,σ,H1,I1,r1,q1⟩)
def qK (c:TT) (t u:TS):TS:=fun D σ H=>c σ H fun b H1=>if b=true then t D σ H1 else u D σ H1
theorem Ba {c:Expr} {a b:List Stmt} {tc:TT} (hc:PT X c tc) (ha:gL X a t) (hb:gL X b u):PS X (.If c a b pos) (qK tc t u):=by
 intro pins s σ H D I h
 refine wpAny_If (thn (hc pins s σ H _ I h) fun d s1 ⟨H1,I1,q1⟩=>?_)
 cases d with
 | true=>exact ha pins s1 σ H1 D I1 q1
 | false=>exact hb pins s1 σ H1 D I1 q1
end
abbrev TG:=V->St->Hp->(St->Hp->Prop)->Prop
abbrev jR:=List V->St->Hp->(St->Hp->Prop)->Prop
def PG (X:Cx) (target:Expr) (t:TG):Prop :=
 ∀ (pins:List (Addr×Obj)) (s:Shared) (σ:St) (H:Hp) (v:V) (u:Value) (Q:St->Hp->Prop),Inv X pins σ H s->RelV v u->t v σ H Q ->
  wpAny (model X.prog X.w) X.A (assign target X.env u) (fun _ s' => ∃ σ' H',Inv X pins σ' H' s'/\Q σ' H') X.xe s
def kj (X:Cx) (ts:List Expr) (t:jR):Prop :=
 ∀ (pins:List (Addr×Obj)) (s:Shared) (σ:St) (H:Hp) (vs:List V) (us:List Value) (Q:St->Hp->Prop),Inv X pins σ H s->Vals vs us->t vs σ H Q ->
  wpAny (model X.prog X.w) X.A (assignInOrder ((assignEach ts X.env).map (·.2)) us) (fun _ s' => ∃ σ' H',Inv X pins σ' H' s'/\Q σ' H') X.xe s
abbrev kl:=V->V->V->Hp->(Hp->Prop)->Prop
def mE (X:Cx) (t:kl):Prop :=
 ∀ (pins:List (Addr×Obj)) (s:Shared) (σ:St) (H:Hp) (o i v:V) (ov iv u:Value) (Q:Hp->Prop),Inv X pins σ H s->RelV o ov->RelV i iv->RelV v u->t o i v H Q ->
  wpAny (model X.prog X.w) X.A (setItem ov iv u) (fun _ s' => ∃ H',Inv X pins σ H' s'/\Q H') X.xe s
section
variable {X:Cx} {pos:Pos}
def km (i:Nat):TG:=fun v σ H Q=>Q (σ.set i (some v)) H
theorem oE {i:Nat} {x:Str} (hN:X.N.Nodup) (hi:X.N[i]? = some x) (hx:iP X.env.scope x) (hf:X.fn x=true\/X.env.scope.names.lookup x=some .local:=by first | exact .inl rfl | exact .inr rfl | assumption):PG X (.Name x pos) (km i):=by
 intro pins s σ H v u Q I r h
 exact Mz (qD I hN hi hx r (fun s' I' => ⟨_,H,I',h⟩) hf)
def mF:jR:=fun vs σ H Q=>vs=[]/\Q σ H
def qL (t:TG) (u:jR):jR:=fun vs σ H Q=>∃ v r,vs=v::r/\t v σ H fun σ' H' => u r σ' H' Q
theorem vK:kj X [] mF:=by
 intro pins s σ H vs us Q I r h
 obtain ⟨e,h⟩:=h
 subst e
 cases r
 exact assignInOrder_nil ⟨σ,H,I,h⟩
theorem qM {e:Expr} {es:List Expr} {t:TG} {u:jR} (h1:PG X e t) (h2:kj X es u)
  (hs:(assignEach (e::es) X.env).map (·.2)=assign e X.env::(assignEach es X.env).map (·.2):=by rfl):kj X (e::es) (qL t u):=by
 intro pins s σ H vs us Q I r h
 obtain ⟨v,vr,e1,h⟩:=h
 subst e1
 cases r with
 | cons r rr =>
  rw [hs];refine assignInOrder_cons (thn (h1 pins s σ H _ _ _ I r h) fun _ s1 ⟨σ1,H1,I1,q1⟩=>?_)
  exact h2 pins s1 σ1 H1 _ _ Q I1 rr q1
def mG (K:PySem.W.Frag) (n:Nat) (t:jR):TG:=fun v σ H Q=>∃ a xs,v = .ref a/\SqT K H a xs/\xs.length=n/\t xs σ H Q
theorem vL {es:List Expr} {k:Nat} {t:jR} {n:Nat} (hc:X.calm=true) (h:kj X es t)
  (hn:(assignEach es X.env).length=n:=by rfl) (hst:(assignEach es X.env).findIdx? (·.1)=none:=by rfl):PG X (.Tuple es k pos) (mG X.K n t):=by
 intro pins s σ H v u Q I r hw
 obtain ⟨a,xs,e1,hq,hl,hw⟩:=hw
 subst e1
 cases r
 obtain ⟨its,rv,ht,hz⟩:=I.tuple hq
 refine assign_Tuple_tuple (I.ok.hd hc) ht (by simp [hn,<- hl,rv.length]) hst fun h' hx=>?_
 have I1:Inv X pins σ H { s with heap:=h' }:=I.kept (t' := s.toks) fun b o e=>hx b o (K7 (KD e)) e
 exact h pins _ σ H xs _ Q I1 (by simpa using rv) hw
def qN (to ti:TE) (t:kl):TG:=fun v σ H Q=>to σ H fun o H1=>ti σ H1 fun i H2=>t o i v H2 fun H3=>Q σ H3
theorem Bb {o i:Expr} {to ti:TE} {t:kl} (ho:PE X o to) (hi:PE X i ti) (hs:mE X t)
  (ha:∀ v,assign (.Subscript o i pos) X.env v=(do
   let ov <- holding [v] (eval o X.env)
   let iv <- holding [v,ov] (eval i X.env)
   standAt pos
   holding [v,ov,iv] (setItem ov iv v)
   release [v,ov,iv] []):=by intro _;rfl):PG X (.Subscript o i pos) (qN to ti t):=by
 intro pins s σ H v u Q I r h
 rw [ha];refine KC (Na (thn (ho pins s σ H _ I h) fun ov s1 ⟨x,H1,I1,r1,q1⟩=>?_))
 refine KC (Na (thn (hi pins s1 σ H1 _ I1 q1) fun iv s2 ⟨y,H2,I2,r2,q2⟩=>?_))
 refine KC (Nb (KC (Na (thn (hs pins s2 σ H2 x y v ov iv u _ I2 r1 r2 r q2) fun _ s3 ⟨H3,I3,q3⟩=>?_))))
 exact wpAny_release ⟨σ,H3,I3,q3⟩
def iy (te:TE) (g:TG):TS:=fun D σ H=>te σ H fun x H1=>g x σ H1 D.nx
theorem Bc {tg e:Expr} {te:TE} {g:TG} (he:PE X e te) (hg:PG X tg g) (hs:swapsWithSole [tg] e pos.line X.env=pure false:=by rfl) (hw:swappedStores [tg] e X.env=pure none:=by rfl)
  (h1:(assignEach [tg] X.env).map (·.2)=[assign tg X.env]:=by rfl):PS X (.Assign [tg] e pos) (iy te g):=by
 intro pins s σ H D I h
 refine wpAny_Assign_stores (thn (he pins s σ H _ I h) fun v s1 ⟨x,H1,I1,r1,q1⟩=>?_) hs hw
 rw [h1];exact thn (hg pins s1 σ H1 x v _ I1 r1 q1) fun _ s2 q=>q
theorem Be {i:Nat} {x:Str} {e:Expr} {te:TE} {pos':Pos} (hN:X.N.Nodup) (hi:X.N[i]? = some x) (hx:iP X.env.scope x) (he:PE X e te) (hs:swapsWith e (some (.Name x pos')) pos.line X.env=pure false:=by rfl) (hf:X.fn x=true\/X.env.scope.names.lookup x=some .local:=by first | exact .inl rfl | exact .inr rfl | assumption) :
  PS X (.Assign [.Name x pos'] e pos) (iy te (km i)):=by
 intro pins s σ H D I h
 refine wpAny_Assign_Name (thn (he pins s σ H _ I h) fun v s1 ⟨y,H1,I1,r1,q1⟩=>?_) hs
 exact qD I1 hN hi hx r1 (fun s2 I2=>⟨_,H1,I2,q1⟩) hf
end
section
variable {X:Cx} {pos:Pos}
def Bf (c:TT) (tb:TS):TS:=fun D σ H=>∃ W:Nat->St->Hp->Prop,(∃ m,W m σ H)/\∀ m σ H,W m σ H ->
 c σ H fun b H1=>if b=true then ∃ N:St->Hp->Prop,(∀ σ' H',N σ' H'->∃ m',m'<m/\W m' σ' H')/\tb { D with nx:=N,ct:=N,bk:=D.nx } σ H1 else D.nx σ H1
theorem Bg {c:Expr} {body:List Stmt} {tc:TT} {tb:TS} (hp:PassesOwn (model X.prog X.w) X.A X.env X.xe) (hc:PT X c tc) (hb:gL X body tb):PS X (.While c body [] pos) (Bf tc tb):=by
 intro pins s σ H D I h
 obtain ⟨W,⟨m0,w0⟩,turn⟩:=h
 refine wpAny_While (codeAny_whileLoop (fun n s' => ∃ σ' H',Inv X pins σ' H' s'/\W n σ' H') ?_ m0 ⟨σ,H,I,w0⟩)
 rintro n s1 ⟨σ1,H1,I1,w1⟩
 refine LW hp (thn (hc pins s1 σ1 H1 _ I1 (turn n σ1 H1 w1)) fun b s2 ⟨H2,I2,q2⟩=>?_)
 cases b with
 | true =>
  obtain ⟨N,hN,q2⟩:=q2
  rw [Ku rfl];refine LW hp (thn (hb pins s2 σ1 H2 _ I2 q2) fun f s3 q3=>?_)
  cases f with
  | next =>
   obtain ⟨σ3,H3,I3,n3⟩:=q3
   obtain ⟨m',hm,w3⟩:=hN σ3 H3 n3
   exact ⟨m',hm,σ3,H3,I3,w3⟩
  | cont =>
   obtain ⟨σ3,H3,I3,n3⟩:=q3
   obtain ⟨m',hm,w3⟩:=hN σ3 H3 n3
   exact ⟨m',hm,σ3,H3,I3,w3⟩
  | brk=>exact q3
  | ret v=>exact q3
 | false =>
  rw [KF KO];exact MJ ⟨σ1,H2,I2,q2⟩
end
structure It where
 go:Nat->Hp->Prop
 yld:Nat->Hp->V->Hp->Prop
 stop:Nat->Hp->Prop
def cR (X:Cx) (pins:List (Addr×Obj)) (H:Hp) (b:Addr):Prop :=
 H b=none/\b≠X.env.locals/\b∉X.fs/\(b∈X.ex\/X.s₀.heap.objs.size<=b)/\(∀ x c,X.env.cells.lookup x=some c->c≠b)/\∀ p∈X.pn++pins,p.1≠b
theorem Inv.fpOk {X:Cx} {pins:List (Addr×Obj)} {σ:St} {H H':Hp} {s:Shared} {b:Addr} (I:Inv X pins σ H s) (hb:s.heap.objs.size<=b) (hn:H' b=none):cR X pins H' b:=by
 refine ⟨hn,Nat.ne_of_gt (KP I.lt hb),I.nofs hb,.inr (Kn I.sz hb),fun x c e z=>?_,fun p hp z=>?_⟩
 ·obtain ⟨v,q⟩:=I.cell x c e
  exact absurd (KP q.lt (by rw [z];exact hb)) (Lx _)
 ·exact absurd (KP (KD (I.pin p hp).1) (by rw [z];exact hb)) (Lx _)
structure e7 (P:Program) (w:World) (K:PySem.W.Frag) (tg:Expr) (J:It) (fp:List Addr) (it:Addr) (tn:Nat->Heap->Prop):Prop where
 mem:it∈fp
 obj:∀ i h,tn i h->∀ b∈fp,∃ o,h.get? b=some o/\∀ v,o.data ≠ .cell v
 keep:∀ i h h',tn i h->(∀ b∈fp,∀ o,h.get? b=some o->h'.get? b=some o)->tn i h'
 item:∀ (X:Cx),X.prog=P->X.w=w->X.K=K->X.calm=true->∀ (i:Nat) (pins:List (Addr×Obj)) (s:Shared) (σ:St) (H:Hp) (E:Value->Shared->Prop),Inv X pins σ H s->(∀ b∈fp,cR X pins H b)->tn i s.heap->J.go i H ->
  wpAny (model P w) X.A (pyNext (.ref it)) (fun r s1=>∃ u,r=some u /\
   wpAny (model P w) X.A (letOwnedTupleGo tg (.ref it) u) (fun _ s2=>∃ x H',Inv X pins σ H' s2/\RelV x u/\J.yld i H x H'/\tn (i+1) s2.heap/\∀ b∈fp,H' b=none) E s1) E s
 done:∀ (X:Cx),X.prog=P->X.w=w->X.K=K->X.calm=true->∀ (i:Nat) (pins:List (Addr×Obj)) (s:Shared) (σ:St) (H:Hp) (E:Value->Shared->Prop),Inv X pins σ H s->(∀ b∈fp,cR X pins H b)->tn i s.heap->J.stop i H ->
  wpAny (model P w) X.A (pyNext (.ref it)) (fun r s1=>r=none/\Inv X pins σ H s1) E s
 self:∀ (A:Around) (i:Nat) (s:Shared) (Q:Value->Shared->Prop) (E:Value->Shared->Prop),tn i s.heap->Q (.ref it) s->wpAny (model P w) A (pyIter (.ref it)) Q E s
abbrev TI:=St->Hp->(It->Hp->Prop)->Prop
def qO (X:Cx) (pins:List (Addr×Obj)) (σ:St) (tg:Expr) (R:It->Hp->Prop) (itv:Value) (s2:Shared):Prop :=
 ∃ (it:Addr) (fp:List Addr) (tn:Nat->Heap->Prop) (J:It) (H':Hp),itv = .ref it/\Inv X pins σ H' s2/\e7 X.prog X.w X.K tg J fp it tn/\tn 0 s2.heap/\(∀ b∈fp,cR X pins H' b)/\R J H'
def PI (X:Cx) (tg iter:Expr) (wi:TI):Prop :=
 ∀ (pins:List (Addr×Obj)) (s:Shared) (σ:St) (H:Hp) (R:It->Hp->Prop),Inv X pins σ H s->wi σ H R ->
  wpAny (model X.prog X.w) X.A (eval iter X.env) (fun v s1=>wpAny (model X.prog X.w) X.A (pyIter v) (qO X pins σ tg R) X.xe s1) X.xe s
theorem mH {M:Model} {A:Around} {E:Value->Shared->Prop} {s:Shared} {tg:Expr} {it:Addr} {u:Value} {o:Obj} {n:String} {vs:Array Value} {Q:Unit->Shared->Prop} (ho:s.heap.get? it=some o) (hc:o.cls = .type n) (hd:o.data = .fields vs)
  (hn:["enumerate", "zip", "dict_itemiterator", "dict_reverseitemiterator", "odict_iterator", "itertools.zip_longest", "itertools.pairwise"].contains n=false) (hQ:Q () s):wpAny M A (letOwnedTupleGo tg (.ref it) u) Q E s:=by
 unfold letOwnedTupleGo
 cases tg<;>first
  | exact K0 hQ
  | (cases u<;>first
    | exact K0 hQ
    | (refine KC (wpAny_load ho ?_)
       rw [hc,hd];show wpAny M A (if (["enumerate", "zip", "dict_itemiterator", "dict_reverseitemiterator", "odict_iterator", "itertools.zip_longest", "itertools.pairwise"].contains n && vs[0]? == some (rawInt _))=true then _ else _) Q E s
       rw [KF (by intro h;rw [hn,Bool.false_and] at h;cases h)]
       exact K0 hQ))
def oF (K:PySem.W.Frag) (a:Addr):It :=
 ⟨fun i H=>∃ xs x,SqL K H a xs/\xs[i]? = some x,fun i H x H' => H'=H/\∀ xs,SqL K H a xs->xs[i]? = some x,fun i H=>∃ xs,SqL K H a xs/\xs.length<=i⟩
def qP (K:PySem.W.Frag) (a:Addr):It :=
 ⟨fun i H=>∃ xs x,SqT K H a xs/\xs[i]? = some x,fun i H x H' => H'=H/\∀ xs,SqT K H a xs->xs[i]? = some x,fun i H=>∃ xs,SqT K H a xs/\xs.length<=i⟩
def oG (lo:Int) (n:Nat):It:=⟨fun i _=>i<n,fun i H x H' => H'=H/\x = .int (lo+i),fun i _=>n<=i⟩
theorem Bh {P:Program} {w:World} {K:PySem.W.Frag} {tg:Expr} (a it:Addr):e7 P w K tg (oF K a) [it] it (fun i h=>h.IsListIter it a i) where
 mem:=by simp
 obj:=fun i h st b hb=>by
  have e:b=it:=by simpa using hb
  subst e;obtain ⟨o,e,c,d⟩:=st
  exact ⟨o,e,fun v z=>by rw [d] at z;cases z⟩
 keep:=fun i h h' st k=>st.at fun o e=>k it (by simp) o e
 item:=by
  intro X hP hw hK hc i pins s σ H E I hf st hg
  subst hP hw hK
  obtain ⟨xs,x,hq,hx⟩:=hg
  obtain ⟨its,rv,p,hz⟩:=I.list hq
  obtain ⟨u,hu,ru⟩:=rv.get hx
  obtain ⟨f0,f1,f2,f3,f4,f5⟩:=hf it (by simp)
  refine wpAny_pyNext_list_item st p.isList (x:=u) (by simpa using hu) fun h' st' sb=>?_
  have I1:Inv X pins σ H { s with heap:=h' }:=I.turned (t' := s.toks) (fun b o hb e=>(sb.2 b hb).trans e) f0 f1 f3 f4 f5
  obtain ⟨o,e,c,d⟩:=id st'
  exact ⟨u,rfl,mH (s:={ s with heap:=h' }) e c d (by decide) ⟨x,H,I1,ru,⟨rfl,fun ys hy=>by rw [I.list_inj hy hq];exact hx⟩,st',fun b hb=>(hf b hb).1⟩⟩
 done:=by
  intro X hP hw hK hc i pins s σ H E I hf st hg
  subst hP hw hK
  obtain ⟨xs,hq,hx⟩:=hg
  obtain ⟨its,rv,p,hz⟩:=I.list hq
  obtain ⟨f0,f1,f2,f3,f4,f5⟩:=hf it (by simp)
  have hl:=rv.length
  exact wpAny_pyNext_list_end (I.ok.hd hc) st p.isList (by simp;lia) fun h' eb=>⟨rfl,I.turned (t' := s.toks) (fun b o hb e=>eb b o hb e) f0 f1 f3 f4 f5⟩
 self:=fun _ _ _ _ _ st h=>wpAny_pyIter_listiter st h
theorem Bi {P:Program} {w:World} {K:PySem.W.Frag} {tg:Expr} (a it:Addr):e7 P w K tg (qP K a) [it] it (fun i h=>h.IsTupleIter it a i) where
 mem:=by simp
 obj:=fun i h st b hb=>by
  have e:b=it:=by simpa using hb
  subst e;obtain ⟨o,e,c,d⟩:=st
  exact ⟨o,e,fun v z=>by rw [d] at z;cases z⟩
 keep:=fun i h h' st k=>st.at fun o e=>k it (by simp) o e
 item:=by
  intro X hP hw hK hc i pins s σ H E I hf st hg
  subst hP hw hK
  obtain ⟨xs,x,hq,hx⟩:=hg
  obtain ⟨its,rv,p,hz⟩:=I.tuple hq
  obtain ⟨u,hu,ru⟩:=rv.get hx
  obtain ⟨f0,f1,f2,f3,f4,f5⟩:=hf it (by simp)
  refine wpAny_pyNext_tuple_item st (show s.heap.IsTuple a its.toArray from p) (x:=u) (by simpa using hu) fun h' st' sb=>?_
  have I1:Inv X pins σ H { s with heap:=h' }:=I.turned (t' := s.toks) (fun b o hb e=>(sb.2 b hb).trans e) f0 f1 f3 f4 f5
  obtain ⟨o,e,c,d⟩:=id st'
  exact ⟨u,rfl,mH (s:={ s with heap:=h' }) e c d (by decide) ⟨x,H,I1,ru,⟨rfl,fun ys hy=>by rw [I.tuple_inj hy hq];exact hx⟩,st',fun b hb=>(hf b hb).1⟩⟩
 done:=by
  intro X hP hw hK hc i pins s σ H E I hf st hg
  subst hP hw hK
  obtain ⟨xs,hq,hx⟩:=hg
  obtain ⟨its,rv,p,hz⟩:=I.tuple hq
  obtain ⟨f0,f1,f2,f3,f4,f5⟩:=hf it (by simp)
  have hl:=rv.length
  exact wpAny_pyNext_tuple_end (I.ok.hd hc) st (show s.heap.IsTuple a its.toArray from p) (by simp;lia) fun h' eb=>⟨rfl,I.turned (t' := s.toks) (fun b o hb e=>eb b o hb e) f0 f1 f3 f4 f5⟩
 self:=fun _ _ _ _ _ st h=>wpAny_pyIter_tupleiter st h
theorem Bj {P:Program} {w:World} {K:PySem.W.Frag} {tg:Expr} (it:Addr) (lo:Int) (n:Nat):e7 P w K tg (oG lo n) [it] it (fun i h=>IsRangeIter h it (lo+(i:Nat)*1) ((n:Int)-(i:Nat)) 1) where
 mem:=by simp
 obj:=fun i h st b hb=>by
  have e:b=it:=by simpa using hb
  subst e;exact ⟨_,st,fun v z=>by
   have z':Data.fields _=Data.cell v:=z
   cases z'⟩
 keep:=fun i h h' st k=>k it (by simp) _ st
 item:=by
  intro X hP hw hK hc i pins s σ H E I hf st hg
  subst hP hw hK
  obtain ⟨f0,f1,f2,f3,f4,f5⟩:=hf it (by simp)
  have W:=Walks.range (prog:=X.prog) (w:=X.w) (I.ok.hd hc) it lo 1 n
  refine W.item i s _ _ hg st fun v h' tk hv st' kk=>?_
  obtain ⟨t,rfl⟩:=hv
  have I1:Inv X pins σ H { s with heap:=h',toks:=tk }:=I.turned (fun b o hb e=>kk b o (by simpa using hb) e) f0 f1 f3 f4 f5
  refine ⟨_,rfl,mH (s:={ s with heap:=h',toks:=tk }) (n := "range_iterator") st' rfl rfl (by decide) ⟨.int (lo+i),H,I1,⟨t,?_⟩,⟨rfl,rfl⟩,st',fun b hb=>(hf b hb).1⟩⟩
  rw [Int.mul_one]
 done:=by
  intro X hP hw hK hc i pins s σ H E I hf st hg
  subst hP hw hK
  obtain ⟨f0,f1,f2,f3,f4,f5⟩:=hf it (by simp)
  exact Nv (I.ok.hd hc) st (by have:n<=i:=hg;lia) fun h' eb=>⟨rfl,I.turned (t' := s.toks) (fun b o hb e=>eb b o hb e) f0 f1 f3 f4 f5⟩
 self:=fun _ _ _ _ _ st h=>Nw st h
end L2
namespace L2
open PySem PySem.Spec PyProof.Rows
section
variable {X:Cx} {tg:Expr}
def vM (K:PySem.W.Frag) (tl:TE):TI:=fun σ H R=>tl σ H fun x H1=>∃ a,x = .ref a/\(∃ xs,SqL K H1 a xs)/\R (oF K a) H1
def mI (K:PySem.W.Frag) (tl:TE):TI:=fun σ H R=>tl σ H fun x H1=>∃ a,x = .ref a/\(∃ xs,SqT K H1 a xs)/\R (qP K a) H1
theorem Bk {l:Expr} {tl:TE} (hl:PE X l tl):PI X tg l (vM X.K tl):=by
 intro pins s σ H R I h
 refine thn (hl pins s σ H _ I h) fun v s1 ⟨x,H1,I1,r1,q1⟩=>?_
 obtain ⟨a,e,⟨xs,hq⟩,q⟩:=q1
 subst e
 cases r1
 obtain ⟨its,rv,p,hz⟩:=I1.list hq
 refine M6 p.isList ?_
 refine ⟨s1.heap.objs.size,[s1.heap.objs.size],_,_,H1,rfl,I1.kept (t' := s1.toks) fun b o e=>Kt _ e,Bh a _,⟨_,KZ _ rfl,rfl,rfl⟩,fun b hb=>?_,q⟩
 have e:b=s1.heap.objs.size:=by simpa using hb
 subst e;exact I1.fpOk (Kj _) (I1.hok.fresh (Kj _))
theorem Bl {l:Expr} {tl:TE} (hl:PE X l tl):PI X tg l (mI X.K tl):=by
 intro pins s σ H R I h
 refine thn (hl pins s σ H _ I h) fun v s1 ⟨x,H1,I1,r1,q1⟩=>?_
 obtain ⟨a,e,⟨xs,hq⟩,q⟩:=q1
 subst e
 cases r1
 obtain ⟨its,rv,p,hz⟩:=I1.tuple hq
 refine wpAny_pyIter_tuple (show s1.heap.IsTuple a its.toArray from p) ?_
 refine ⟨s1.heap.objs.size,[s1.heap.objs.size],_,_,H1,rfl,I1.kept (t' := s1.toks) fun b o e=>Kt _ e,Bi a _,⟨_,KZ _ rfl,rfl,rfl⟩,fun b hb=>?_,q⟩
 have e:b=s1.heap.objs.size:=by simpa using hb
 subst e;exact I1.fpOk (Kj _) (I1.hok.fresh (Kj _))
theorem Bm {pins:List (Addr×Obj)} {σ:St} {H:Hp} {s:Shared} {R:It->Hp->Prop} {E:Value->Shared->Prop} {lo hi:Int} {t u v:Tok} {tk:Nat} (I:Inv X pins σ H s) (h1 : -(2 ^ 62)<=lo) (h2:lo<2 ^ 62) (h3 : -(2 ^ 62)<=hi) (h4:hi<2 ^ 62)
  (q:R (oG lo (hi-lo).toNat) H):wpAny (model X.prog X.w) X.A (pyIter (.ref s.heap.objs.size)) (qO X pins σ tg R) E { s with heap:=s.heap.push { cls:=.type "range",data:=.fields #[.int lo t,.int hi u,.int 1 v] },toks:=tk }:=by
 refine Oc (IsRange.new ..) (small_one h1 h2 h3 h4) ?_
 have I1:Inv X pins σ H { s with heap:=s.heap.push { cls:=.type "range",data:=.fields #[.int lo t,.int hi u,.int 1 v] },toks:=tk }:=I.kept fun b o e=>Kt _ e
 refine ⟨(s.heap.push { cls:=.type "range",data:=.fields #[.int lo t,.int hi u,.int 1 v] }).objs.size,[(s.heap.push { cls:=.type "range",data:=.fields #[.int lo t,.int hi u,.int 1 v] }).objs.size],_,_,H,rfl,
  I1.kept (t' := tk) fun b o e=>Kt _ e,Bj _ lo (hi-lo).toNat,?_,fun b hb=>?_,q⟩
 ·have e1:lo+((0:Nat):Int)*1=lo:=by simp
  have e2:(((hi-lo).toNat:Nat):Int)-((0:Nat):Int)=Builtin.Range.rangeSize lo hi 1:=by rw [rangeSize_one];split<;>lia
  show IsRangeIter _ _ (lo+((0:Nat):Int)*1) ((((hi-lo).toNat:Nat):Int)-((0:Nat):Int)) 1
  rw [e1,e2];exact KZ _ rfl
 ·have e:b=(s.heap.push { cls:=.type "range",data:=.fields #[.int lo t,.int hi u,.int 1 v] }).objs.size:=by simpa using hb
  subst e;exact I1.fpOk (Kj _) (I1.hok.fresh (Kj _))
def Bn (ta:TA):TI:=fun σ H R=>ta σ H fun vs H1=>∃ j:Int,vs=[.int j] /\ -(2 ^ 62)<=j/\j<2 ^ 62/\R (oG 0 j.toNat) H1
theorem Bo {a:Expr} {ta:TA} {p pos:Pos} (hg:Gl X "range") (hm:X.mg "range" = none) (ha:PA X [a] ta) (hs:starEach [a] X.env=[(false,eval a X.env)]:=by rfl):PI X tg (.Call (.Name "range" p) [a] [] pos) (Bn ta):=by
 intro pins s σ H R I h
 refine Call_ (ki I hg hm boot_range (Lw (thn (ha pos pins s σ H _ I h) fun us s1 ⟨vs,H1,I1,r1,q1⟩=>?_) hs rfl))
 obtain ⟨j,e,q1,q2,q⟩:=q1
 subst e
 cases r1 with
 | cons r rr =>
  cases rr
  obtain ⟨t,rfl⟩:=r
  exact call_range_1 (Bm I1 (by lia) (by lia) q1 q2 (by simpa using q))
def qQ (wi:TI) (g:TG) (tb:TS):TS:=fun D σ H=>wi σ H fun J H1=>∃ W:Nat->Nat->St->Hp->Prop,(∃ m,W 0 m σ H1)/\∀ i m σ H,W i m σ H ->
 (J.stop i H/\D.nx σ H)\/(J.go i H/\∃ N:St->Hp->Prop,(∀ σ' H',N σ' H'->∃ m',m'<m/\W (i+1) m' σ' H')/\∀ x H',J.yld i H x H'->g x σ H' fun σ2 H2=>tb { D with nx:=N,ct:=N,bk:=D.nx } σ2 H2)
def fU (fp:List Addr) (h:Heap):List (Addr×Obj):=fp.filterMap fun b=>(h.get? b).map fun o=>(b,o)
theorem lG {fp:List Addr} {h:Heap} {b:Addr} {o:Obj} (hb:b∈fp) (e:h.get? b=some o):(b,o)∈fU fp h:=MR.mpr ⟨b,hb,by rw [e];rfl⟩
theorem Bp {fp:List Addr} {h:Heap} {p:Addr×Obj} (hp:p∈fU fp h):p.1∈fp/\h.get? p.1=some p.2:=by
 obtain ⟨b,hb,e⟩:=MR.mp hp
 cases q:h.get? b with
 | none=>rw [q] at e;cases e
 | some o =>
  rw [q] at e;have e':(b,o)=p:=K4 e
  subst e'
  exact ⟨hb,q⟩
theorem Inv.pinned {pins:List (Addr×Obj)} {σ:St} {H:Hp} {s:Shared} {fp:List Addr} (I:Inv X pins σ H s) (hf:∀ b∈fp,cR X pins H b) (ho:∀ b∈fp,∃ o,s.heap.get? b=some o/\∀ v,o.data ≠ .cell v):Inv X (pins++fU fp s.heap) σ H s :=
 I.pins_of fun p hp=>(KI.mp hp).elim (fun z=>I.pin p (KG _ z)) fun z=>by
  obtain ⟨hb,e⟩:=Bp z
  obtain ⟨f0,f1,f2,_⟩:=hf p.1 hb
  obtain ⟨o,e',d⟩:=ho p.1 hb
  rw [e] at e';cases e'
  exact ⟨e,f0,f1,f2,d⟩
theorem Inv.unpinned {pins pl:List (Addr×Obj)} {σ:St} {H:Hp} {s:Shared} (I:Inv X (pins++pl) σ H s):Inv X pins σ H s:=I.pins_of fun p hp=>I.pin p (KG _ (Kz _ hp))
theorem qR {iter:Expr} {body:List Stmt} {wi:TI} {g:TG} {tb:TS} {pos:Pos} (hp:PassesOwn (model X.prog X.w) X.A X.env X.xe) (hc:X.calm=true) (hi:PI X tg iter wi) (hg:PG X tg g) (hb:gL X body tb)
  (hs:∀ x,foldedSetIterable iter X.env x=pure x:=by intro _;rfl):PS X (.For tg iter body [] pos) (qQ wi g tb):=by
 intro pins s σ H D I h
 refine wpAny_For (thn (hi pins s σ H _ I h) fun v s1 h1=>thn h1 fun itv s2 h2=>?_) hs
 obtain ⟨it,fp,tn,J,H2,e,I2,T,st2,f2,W,⟨m0,w0⟩,turn⟩:=h2
 subst e;have stat:∀ {H':Hp},(∀ b∈fp,H' b=none)->∀ b∈fp,cR X pins H' b:=fun hn b hb=>⟨hn b hb,(f2 b hb).2⟩
 refine codeAny_forLoop_any (fun n s' => ∃ i σ' H',Inv X pins σ' H' s'/\tn i s'.heap/\(∀ b∈fp,H' b=none)/\W i n σ' H') ?_ m0 ⟨0,σ,H2,I2,st2,fun b hb=>(f2 b hb).1,w0⟩
 rintro n s3 ⟨i,σ3,H3,I3,st3,fr3,w3⟩
 rcases turn i n σ3 H3 w3 with ⟨stop,qn⟩ | ⟨go,N,hN,step⟩
 ·refine LW hp (thn (T.done X rfl rfl rfl hc i pins s3 σ3 H3 X.xe I3 (stat fr3) st3 stop) fun r s4 ⟨hr,I4⟩=>?_)
  subst hr;exact MJ ⟨σ3,H3,I4,qn⟩
 ·refine LW hp (thn (T.item X rfl rfl rfl hc i pins s3 σ3 H3 X.xe I3 (stat fr3) st3 go) fun r s4 ⟨u,hr,h4⟩=>?_)
  subst hr;refine LW hp (thn h4 fun _ s5 ⟨x,H5,I5,r5,y5,st5,fr5⟩=>?_)
  have I5' := I5.pinned (stat fr5) (T.obj _ _ st5)
  refine LW hp (thn (hg _ s5 σ3 H5 x u _ I5' r5 (step x H5 y5)) fun _ s6 ⟨σ6,H6,I6,q6⟩=>?_)
  refine LW hp (thn (hb _ s6 σ6 H6 _ I6 q6) fun f s7 q7=>?_)
  have again:∀ {σ7:St} {H7:Hp},Inv X (pins++fU fp s5.heap) σ7 H7 s7->N σ7 H7->∃ m,m<n/\∃ i σ' H',Inv X pins σ' H' s7/\tn i s7.heap/\(∀ b∈fp,H' b=none)/\W i m σ' H' := fun {σ7 H7} I7 n7=>by
   obtain ⟨m',hm,w7⟩:=hN σ7 H7 n7
   refine ⟨m',hm,i+1,σ7,H7,I7.unpinned,T.keep _ _ _ st5 fun b hb o e=>(I7.pin (b,o) (KG _ (KG _ (lG hb e)))).1,fun b hb=>?_,w7⟩
   obtain ⟨o,e,d⟩:=T.obj _ _ st5 b hb
   exact (I7.pin (b,o) (KG _ (KG _ (lG hb e)))).2.1
  cases f with
  | next=>obtain ⟨σ7,H7,I7,n7⟩:=q7;exact again I7 n7
  | cont=>obtain ⟨σ7,H7,I7,n7⟩:=q7;exact again I7 n7
  | brk=>obtain ⟨σ7,H7,I7,q7⟩:=q7;exact ⟨σ7,H7,I7.unpinned,q7⟩
  | ret v=>obtain ⟨x7,σ7,H7,I7,r7,q7⟩:=q7;exact ⟨x7,σ7,H7,I7.unpinned,r7,q7⟩
end
end L2
namespace L2
open PySem PySem.Spec PyProof.Rows
abbrev R2:=V->V->Hp->VK->Prop
def OpR (X:Cx) (f:Value->Value->Sem Value) (r:R2):Prop :=
 ∀ (pins:List (Addr×Obj)) (s:Shared) (σ:St) (H:Hp) (x y:V) (v u:Value) (Q:VK),Inv X pins σ H s->RelV x v->RelV y u->r x y H Q ->
  wpAny (model X.prog X.w) X.A (f v u) (EP X pins σ Q) X.xe s
def qS (X:Cx) (f:Value->Sem Value) (r:V->Hp->VK->Prop):Prop :=
 ∀ (pins:List (Addr×Obj)) (s:Shared) (σ:St) (H:Hp) (x:V) (v:Value) (Q:VK),Inv X pins σ H s->RelV x v->r x H Q ->
  wpAny (model X.prog X.w) X.A (f v) (EP X pins σ Q) X.xe s
def CallR (X:Cx) (f:Value) (r:List V->Hp->VK->Prop):Prop :=
 ∀ (pins:List (Addr×Obj)) (s:Shared) (σ:St) (H:Hp) (xs:List V) (us:List Value) (Q:VK),Inv X pins σ H s->Vals xs us->r xs H Q ->
  wpAny (model X.prog X.w) X.A (call f us) (EP X pins σ Q) X.xe s
def qT (X:Cx) (r:V->Hp->(Bool->Hp->Prop)->Prop):Prop :=
 ∀ (pins:List (Addr×Obj)) (s:Shared) (σ:St) (H:Hp) (x:V) (v:Value) (Q:Bool->Hp->Prop),Inv X pins σ H s->RelV x v->r x H Q ->
  wpAny (model X.prog X.w) X.A (truthy v) (TP X pins σ Q) X.xe s
def lH (r:R2) (ta tb:TE):TE:=fun σ H Q=>ta σ H fun x H1=>tb σ H1 fun y H2=>r x y H2 Q
def Bq (r:V->Hp->VK->Prop) (ta:TE):TE:=fun σ H Q=>ta σ H fun x H1=>r x H1 Q
def rI (C:Int->Int->Prop) (g:Int->Int->V):R2:=fun x y H Q=>∃ i j,x = .int i/\y = .int j/\C i j/\Q (g i j) H
def jS (g:Int->Int->V):R2:=fun x y H Q=>∃ i j,x = .int i/\y = .int j/\Q (g i j) H
def rU (g:Int->V):V->Hp->VK->Prop:=fun x H Q=>∃ i,x = .int i/\Q (g i) H
section
variable {X:Cx} {a b c:Expr} {ta tb tc:TE} {pos:Pos}
theorem kn (ha:PE X a ta) (hb:PE X b tb) {pins:List (Addr×Obj)} {s:Shared} {σ:St} {H:Hp} {R:V->V->Hp->Prop} (I:Inv X pins σ H s)
  (h:ta σ H fun x H1=>tb σ H1 fun y H2=>R x y H2) {Q:Value->Shared->Prop} {f:Value->Value->Sem Value}
  (hf:∀ v u s2 x y H2,Inv X pins σ H2 s2->RelV x v->RelV y u->R x y H2->wpAny (model X.prog X.w) X.A (f v u) Q X.xe s2) :
  wpAny (model X.prog X.w) X.A (eval a X.env) (fun v s₁=>wpAny (model X.prog X.w) X.A (eval b X.env) (fun u s₂=>wpAny (model X.prog X.w) X.A (f v u) Q X.xe s₂) X.xe s₁) X.xe s:=by
 refine thn (ha pins s σ H _ I h) fun v s1 ⟨x,H1,I1,r1,q1⟩=>?_
 refine thn (hb pins s1 σ H1 _ I1 q1) fun u s2 ⟨y,H2,I2,r2,q2⟩=>?_
 exact hf v u s2 x y H2 I2 r1 r2 q2
theorem Br {op:Operator} {r:R2} (ho:OpR X (binaryOp op) r) (ha:PE X a ta) (hb:PE X b tb):PE X (.BinOp a op b pos) (lH r ta tb):=by
 intro pins s σ H Q I h
 exact wpAny_BinOp (kn ha hb I h fun v u s2 x y H2 I2 rx ry q=>ho pins s2 σ H2 x y v u Q I2 rx ry q)
theorem Bs {op:UnaryOp} {r:V->Hp->VK->Prop} (ho:qS X (unaryOp op) r) (ha:PE X a ta):PE X (.UnaryOp op a pos) (Bq r ta):=by
 intro pins s σ H Q I h
 exact UnaryOp_ (thn (ha pins s σ H _ I h) fun v s1 ⟨x,H1,I1,r1,q1⟩=>ho pins s1 σ H1 x v Q I1 r1 q1)
theorem oH {f:Value->Value->Sem Value} {C:Int->Int->Prop} {g:Int->Int->Int}
  (rule:∀ (i j:Int) (t u:Tok) (s:Shared) (Q:Value->Shared->Prop) (E:Value->Shared->Prop),C i j->Q (.int (g i j) s.toks) { s with toks:=s.toks+1 }->wpAny (model X.prog X.w) X.A (f (.int i t) (.int j u)) Q E s) :
  OpR X f (rI C fun i j=>.int (g i j)):=by
 intro pins s σ H x y v u Q I rx ry h
 obtain ⟨i,j,rfl,rfl,hc,q⟩:=h
 obtain ⟨t,rfl⟩:=rx
 obtain ⟨t',rfl⟩:=ry
 exact rule i j t t' s _ _ hc ⟨.int (g i j),H,I.tok _,⟨_,rfl⟩,q⟩
theorem mJ {f:Value->Value->Sem Value} {g:Int->Int->Int}
  (rule:∀ (i j:Int) (t u:Tok) (s:Shared) (Q:Value->Shared->Prop) (E:Value->Shared->Prop),Q (.int (g i j) s.toks) { s with toks:=s.toks+1 }->wpAny (model X.prog X.w) X.A (f (.int i t) (.int j u)) Q E s) :
  OpR X f (jS fun i j=>.int (g i j)):=by
 intro pins s σ H x y v u Q I rx ry h
 obtain ⟨i,j,rfl,rfl,q⟩:=h
 obtain ⟨t,rfl⟩:=rx
 obtain ⟨t',rfl⟩:=ry
 exact rule i j t t' s _ _ ⟨.int (g i j),H,I.tok _,⟨_,rfl⟩,q⟩
theorem jb {f:Value->Value->Sem Value} {g:Int->Int->Bool}
  (rule:∀ (i j:Int) (t u:Tok) (s:Shared) (Q:Value->Shared->Prop) (E:Value->Shared->Prop),Q (.bool (g i j)) s->wpAny (model X.prog X.w) X.A (f (.int i t) (.int j u)) Q E s) :
  OpR X f (jS fun i j=>.bl (g i j)):=by
 intro pins s σ H x y v u Q I rx ry h
 obtain ⟨i,j,rfl,rfl,q⟩:=h
 obtain ⟨t,rfl⟩:=rx
 obtain ⟨t',rfl⟩:=ry
 exact rule i j t t' s _ _ ⟨.bl (g i j),H,I,rfl,q⟩
def qU (i j:Int):Prop:=0<=j/\j<=1000000/\i.natAbs<2 ^ 64
def CMul (i j:Int):Prop:=(-(2 ^ 64)<i/\i<2 ^ 64)\/(-(2 ^ 64)<j/\j<2 ^ 64)
theorem CMul.ok {i j:Int} (h:CMul i j):IntMulOk i j:=by
 rcases h with ⟨h1,h2⟩ | ⟨h1,h2⟩
 ·exact .of_left (intBits_le_64 h1 h2)
 ·exact .of_right (intBits_le_64 h1 h2)
theorem op_add:OpR X (binaryOp .Add) (jS fun i j=>.int (i+j)):=mJ fun _ _ _ _ _ _ _ q=>add_int q
theorem Bt:OpR X (binaryOp .Sub) (jS fun i j=>.int (i-j)):=mJ fun _ _ _ _ _ _ _ q=>sub_int q
theorem Bu:OpR X (binaryOp .Mod) (rI (fun _ j=>0<j) fun i j=>.int (i % j)):=oH fun i j _ _ _ _ _ hc q=>by
 have h1:(0:Int)<j:=hc
 exact mod_int' (by lia) (by rw [Int.fmod_eq_emod_of_nonneg i (by lia)];exact q)
theorem Bv:OpR X (binaryOp .Pow) (rI qU fun i j=>.int (i ^ j.toNat)):=oH fun _ _ _ _ _ _ _ hc q=>pow_int_small hc.1 hc.2.1 hc.2.2 q
theorem Bw {f:Value->Sem Value} {g:Int->Int}
  (rule:∀ (i:Int) (t:Tok) (s:Shared) (Q:Value->Shared->Prop) (E:Value->Shared->Prop),Q (.int (g i) s.toks) { s with toks:=s.toks+1 }->wpAny (model X.prog X.w) X.A (f (.int i t)) Q E s) :
  qS X f (rU fun i=>.int (g i)):=by
 intro pins s σ H x v Q I rx h
 obtain ⟨i,rfl,q⟩:=h
 obtain ⟨t,rfl⟩:=rx
 exact rule i t s _ _ ⟨.int (g i),H,I.tok _,⟨_,rfl⟩,q⟩
theorem Bx:qS X (unaryOp .USub) (rU fun i=>.int (-i)):=Bw fun _ _ _ _ _ q=>neg_int q
end
def ko:V->V->Bool
 | .non,.non=>true | .non,.int _=>true | .int _,.non=>true | .non,.bl _=>true | .bl _,.non=>true | .non,.str _=>true | .str _,.non=>true
 | .int _,.int _=>true | .bl _,.bl _=>true | .str _,.str _=>true | .byt _,.byt _=>true
 | .int _,.str _=>true | .str _,.int _=>true | .bl _,.str _=>true | .str _,.bl _=>true
 | _,_=>false
def By:R2:=fun x y H Q=>ko x y=true/\Q (.bl (decide (x=y))) H
def Bz:R2:=fun x y H Q=>ko x y=true/\Q (.bl (!decide (x=y))) H
theorem vN {i j:Int}:decide (V.int i=V.int j)=(i == j):=by
 rw [LI];simp
theorem vO {i j:Bool}:decide (V.bl i=V.bl j)=(i == j):=by
 rw [LI];simp
theorem vP {i j:Str}:decide (V.str i=V.str j)=(i == j):=by
 rw [LI];simp
theorem vQ {i j:Array UInt8}:decide (V.byt i=V.byt j)=(i.toList == j.toList):=by
 rw [LI]
 cases i
 cases j
 simp
section
variable {X:Cx} {a b c:Expr} {ta tb tc:TE} {pos:Pos}
theorem cK {pins:List (Addr×Obj)} {σ:St} {H:Hp} {s:Shared} {Q:VK} {k k':Bool} (I:Inv X pins σ H s) (q:Q (.bl k) H) (e:k=k'):EP X pins σ Q (.bool k') s:=by
 subst e;exact ⟨.bl k,H,I,rfl,q⟩
theorem op_eq:OpR X (compareOp .Eq) By:=by
 intro pins s σ H x y v u Q I rx ry h
 obtain ⟨hs,q⟩:=h
 cases x with
 | non =>
  cases rx
  cases y with
  | non=>cases ry;exact PySem.EqNone.eq_none_none (cK I q (by simp))
  | bl j=>cases ry;exact PySem.EqNone.eq_none_bool (cK I q (by simp))
  | int j=>obtain ⟨t',rfl⟩:=ry;exact PySem.EqNone.eq_none_int (cK I q (by simp))
  | str j=>obtain ⟨t',rfl⟩:=ry;exact PySem.EqNone.eq_none_str (cK I q (by simp))
  | _=>exact absurd (show false=true from hs) KO
 | bl i =>
  cases rx
  cases y with
  | non=>cases ry;exact PySem.EqNone.eq_bool_none (cK I q (by simp))
  | bl j=>cases ry;exact eq_bool (cK I q vO)
  | str j=>obtain ⟨t',rfl⟩:=ry;exact PySem.EqMixed.eq_bool_str (cK I q (by simp))
  | _=>exact absurd (show false=true from hs) KO
 | int i =>
  obtain ⟨t,rfl⟩:=rx
  cases y with
  | non=>cases ry;exact PySem.EqNone.eq_int_none (cK I q (by simp))
  | int j=>obtain ⟨t',rfl⟩:=ry;exact eq_int (cK I q vN)
  | str j=>obtain ⟨t',rfl⟩:=ry;exact PySem.EqMixed.eq_int_str (cK I q (by simp))
  | _=>exact absurd (show false=true from hs) KO
 | str i =>
  obtain ⟨t,rfl⟩:=rx
  cases y with
  | non=>cases ry;exact PySem.EqNone.eq_str_none (cK I q (by simp))
  | bl j=>cases ry;exact PySem.EqMixed.eq_str_bool (cK I q (by simp))
  | int j=>obtain ⟨t',rfl⟩:=ry;exact PySem.EqMixed.eq_str_int (cK I q (by simp))
  | str j=>obtain ⟨t',rfl⟩:=ry;exact eq_str (cK I q vP)
  | _=>exact absurd (show false=true from hs) KO
 | byt i =>
  obtain ⟨t,rfl⟩:=rx
  cases y with
  | byt j=>obtain ⟨t',rfl⟩:=ry;exact PySem.W.eq_bytes (cK I q vQ)
  | _=>exact absurd (show false=true from hs) KO
 | _=>cases y<;>exact absurd (show false=true from hs) KO
theorem op_ne:OpR X (compareOp .NotEq) Bz:=by
 intro pins s σ H x y v u Q I rx ry h
 obtain ⟨hs,q⟩:=h
 cases x with
 | non =>
  cases rx
  cases y with
  | non=>cases ry;exact PySem.EqNone.ne_none_none (cK I q (by simp))
  | bl j=>cases ry;exact PySem.EqNone.ne_none_bool (cK I q (by simp))
  | int j=>obtain ⟨t',rfl⟩:=ry;exact PySem.EqNone.ne_none_int (cK I q (by simp))
  | str j=>obtain ⟨t',rfl⟩:=ry;exact PySem.EqNone.ne_none_str (cK I q (by simp))
  | _=>exact absurd (show false=true from hs) KO
 | bl i =>
  cases rx
  cases y with
  | non=>cases ry;exact PySem.EqNone.ne_bool_none (cK I q (by simp))
  | bl j=>cases ry;exact ne_bool (cK I q (congrArg not vO))
  | str j=>obtain ⟨t',rfl⟩:=ry;exact PySem.EqMixed.ne_bool_str (cK I q (by simp))
  | _=>exact absurd (show false=true from hs) KO
 | int i =>
  obtain ⟨t,rfl⟩:=rx
  cases y with
  | non=>cases ry;exact PySem.EqNone.ne_int_none (cK I q (by simp))
  | int j=>obtain ⟨t',rfl⟩:=ry;exact ne_int (cK I q (congrArg not vN))
  | str j=>obtain ⟨t',rfl⟩:=ry;exact PySem.EqMixed.ne_int_str (cK I q (by simp))
  | _=>exact absurd (show false=true from hs) KO
 | str i =>
  obtain ⟨t,rfl⟩:=rx
  cases y with
  | non=>cases ry;exact PySem.EqNone.ne_str_none (cK I q (by simp))
  | bl j=>cases ry;exact PySem.EqMixed.ne_str_bool (cK I q (by simp))
  | int j=>obtain ⟨t',rfl⟩:=ry;exact PySem.EqMixed.ne_str_int (cK I q (by simp))
  | str j=>obtain ⟨t',rfl⟩:=ry;exact ne_str (cK I q (congrArg not vP))
  | _=>exact absurd (show false=true from hs) KO
 | byt i =>
  obtain ⟨t,rfl⟩:=rx
  cases y with
  | byt j=>obtain ⟨t',rfl⟩:=ry;exact PySem.W.ne_bytes (cK I q (congrArg not vQ))
  | _=>exact absurd (show false=true from hs) KO
 | _=>cases y<;>exact absurd (show false=true from hs) KO
theorem op_lt:OpR X (compareOp .Lt) (jS fun i j=>.bl (decide (i<j))):=jb fun _ _ _ _ _ _ _ q=>lt_int q
theorem op_le:OpR X (compareOp .LtE) (jS fun i j=>.bl (decide (i<=j))):=jb fun _ _ _ _ _ _ _ q=>le_int q
theorem BC:OpR X (compareOp .Gt) (jS fun i j=>.bl (decide (j<i))):=jb fun _ _ _ _ _ _ _ q=>gt_int q
theorem BD:OpR X (compareOp .GtE) (jS fun i j=>.bl (decide (j<=i))):=jb fun _ _ _ _ _ _ _ q=>ge_int q
theorem BE:OpR X (compareOp .Lt) (fun x y H Q=>∃ i j,x = .str i/\y = .str j/\Q (.bl (decide (i.cps.toList<j.cps.toList))) H):=by
 intro pins s σ H x y v u Q I rx ry h
 obtain ⟨i,j,rfl,rfl,q⟩:=h
 obtain ⟨t,rfl⟩:=rx
 obtain ⟨t',rfl⟩:=ry
 exact lt_str (cK I q rfl)
theorem BF:OpR X (compareOp .IsNot) (fun x y H Q=>y = .non/\Q (.bl (!decide (x = .non))) H):=by
 intro pins s σ H x y v u Q I rx ry h
 obtain ⟨rfl,q⟩:=h
 cases ry
 refine isnot_none_gen (cK I q ?_)
 cases x<;>first
  | (cases rx;rfl)
  | (obtain ⟨t,rfl⟩:=rx;rfl)
theorem OpR.or {f:Value->Value->Sem Value} {r r':R2} (h:OpR X f r) (h':OpR X f r'):OpR X f (fun x y H Q=>r x y H Q\/r' x y H Q):=by
 intro pins s σ H x y v u Q I rx ry q
 rcases q with q | q
 ·exact h pins s σ H x y v u Q I rx ry q
 ·exact h' pins s σ H x y v u Q I rx ry q
theorem bw (b:Expr) {op:CmpOp} (h:op ≠ .In:=by decide) (h2:op ≠ .NotIn:=by decide):behindInMarks op b=false:=by
 have e1:(op == CmpOp.In)=false:=by cases op<;>first | rfl | exact absurd rfl h
 have e2:(op == CmpOp.NotIn)=false:=by cases op<;>first | rfl | exact absurd rfl h2
 cases b<;>simp [behindInMarks,e1,e2]
theorem BG {op:CmpOp} {r:R2} (ho:OpR X (compareOp op) r) (ha:PE X a ta) (hb:PE X b tb) (hm:behindInMarks op b=false):PE X (.Compare a [op] [b] pos) (lH r ta tb):=by
 intro pins s σ H Q I h
 exact wpAny_Compare1 (kn ha hb I h fun v u s2 x y H2 I2 rx ry q=>ho pins s2 σ H2 x y v u Q I2 rx ry q) hm
def BH (t:TE):TT:=fun σ H Q=>t σ H fun x H' => ∃ k,x = .bl k/\Q k H'
theorem BI {op:CmpOp} {r:R2} (ho:OpR X (compareOp op) r) (ha:PE X a ta) (hb:PE X b tb) (hm:behindInMarks op b=false):PT X (.Compare a [op] [b] pos) (BH (lH r ta tb)):=by
 intro pins s σ H Q I h
 refine wpAny_isTrue_Compare1 (thn (ha pins s σ H _ I h) fun v s1 ⟨x,H1,I1,r1,q1⟩=>thn (hb pins s1 σ H1 _ I1 q1) fun u s2 ⟨y,H2,I2,r2,q2⟩ =>
  thn (ho pins s2 σ H2 x y v u _ I2 r1 r2 q2) fun c s3 ⟨z,H3,I3,r3,k,e,q3⟩=>?_) hm
 subst e
 cases r3
 exact LH ⟨H3,I3,q3⟩
def vS (r r':R2) (ta tb tc:TE):TE:=fun σ H Q=>ta σ H fun x H1=>tb σ H1 fun y H2=>r x y H2 fun z H3=>∃ k,z = .bl k /\
 (if k=true then tc σ H3 fun w' H4=>r' y w' H4 Q else Q (.bl false) H3)
theorem BJ {op op':CmpOp} {r r':R2} (ho:OpR X (compareOp op) r) (ho':OpR X (compareOp op') r') (ha:PE X a ta) (hb:PE X b tb) (hc:PE X c tc)
  (hm:lastMarks [op,op'] [b,c]=false:=by with_unfolding_all rfl):PE X (.Compare a [op,op'] [b,c] pos) (vS r r' ta tb tc):=by
 intro pins s σ H Q I h
 refine Compare_chain (thn (ha pins s σ H _ I h) fun v s1 ⟨x,H1,I1,r1,q1⟩=>chain_link (thn (hb pins s1 σ H1 _ I1 q1) fun u s2 ⟨y,H2,I2,r2,q2⟩ =>
  thn (ho pins s2 σ H2 x y v u _ I2 r1 r2 q2) fun d s3 ⟨z,H3,I3,r3,k,e,q3⟩=>?_)) hm
 subst e
 cases r3
 refine LH ?_
 cases k with
 | false=>exact ite_ff ⟨.bl false,H3,I3,rfl,q3⟩
 | true=>exact ite_tt (chain_last (thn (hc pins s3 σ H3 _ I3 q3) fun w' s4 ⟨z',H4,I4,r4,q4⟩=>ho' pins s4 σ H4 y z' u w' Q I4 r2 r4 q4))
def jc (K:PySem.W.Frag) (x:V) (H:Hp) (k:Bool):Prop :=
 match x with
 | .non=>k=false
 | .bl b=>k=b
 | .int i=>k=(i != 0)
 | .str y=>y.length<=sizeLine/\k=((y.length:Int) != 0)
 | .byt y=>y.size<=sizeLine/\k=((y.size:Int) != 0)
 | .ref p=>(∃ xs,SqL K H p xs/\k = !xs.isEmpty)\/(∃ xs,SqT K H p xs/\k = !xs.isEmpty)\/∃ kvs,H p=some (.dK kvs)/\k = !kvs.isEmpty
 | _=>False
theorem BK {κ:Type} {kvs:List (κ×V)} {vs:List (κ×Value)} (r:KV kvs vs):(!vs.isEmpty) = !kvs.isEmpty:=by
 cases r<;>rfl
theorem vT {xs:List V} {its:List Value} (r:Vals xs its):(!its.toArray.isEmpty) = !xs.isEmpty:=by
 cases r<;>simp
theorem kq:(sizeLine:Nat)<2 ^ 63:=by rw [sizeLine_eq];decide
theorem vU:qT X (fun x H Q=>∃ k,jc X.K x H k/\Q k H):=by
 intro pins s σ H x v Q I rx h
 obtain ⟨k,e,q⟩:=h
 have hl:=kq
 have hs:sizeLine=16777216:=sizeLine_eq
 cases x with
 | non =>
  cases rx
  have e':k=false:=e
  subst e'
  exact truthy_none ⟨H,I,q⟩
 | bl b =>
  cases rx
  have e':k=b:=e
  subst e'
  exact LH ⟨H,I,q⟩
 | int i =>
  obtain ⟨t,rfl⟩:=rx
  have e':k=(i != 0):=e
  subst e'
  exact PySem.P.truthy_int ⟨H,I,q⟩
 | str y =>
  obtain ⟨t,rfl⟩:=rx
  obtain ⟨hy,e'⟩:y.length<=sizeLine/\k=((y.length:Int) != 0):=e
  subst e'
  exact PySem.P.truthy_str (by lia) ⟨H,I.tok _,q⟩
 | byt y =>
  obtain ⟨t,rfl⟩:=rx
  obtain ⟨hy,e'⟩:y.size<=sizeLine/\k=((y.size:Int) != 0):=e
  subst e'
  exact PySem.W.truthy_bytes (by lia) ⟨H,I.tok _,q⟩
 | ref p =>
  cases rx
  have e':(∃ xs,SqL X.K H p xs/\k = !xs.isEmpty)\/(∃ xs,SqT X.K H p xs/\k = !xs.isEmpty)\/∃ kvs,H p=some (.dK kvs)/\k = !kvs.isEmpty:=e
  rcases e' with ⟨xs,hx,e'⟩ | ⟨xs,hx,e'⟩ | ⟨kvs,hx,e'⟩
  ·subst e'
   obtain ⟨its,r,pl,hz⟩:=I.list hx
   have hlen:=r.length
   exact wpAny_truthy_list pl.isList (by simp only [Ks];lia) ⟨H,I.tok _,by rw [vT r];exact q⟩
  ·subst e'
   obtain ⟨its,r,pl,hz⟩:=I.tuple hx
   have hlen:=r.length
   exact truthy_tuple pl (by simp only [Ks];lia) ⟨H,I.tok _,by rw [vT r];exact q⟩
  ·subst e'
   obtain ⟨hz,hS,vs,r,m⟩:kvs.length<=sizeLine/\(p == sysModules)=false/\∃ vs,KV kvs vs/\s.heap.DictOf (fT X.prog X.w) p vs:=I.hok p _ hx
   have hlen:kvs.length=vs.length:=Paired.length r
   exact wpAny_truthy_dict hS m (by lia) ⟨H,I.tok _,by rw [BK r];exact q⟩
 | _=>exact (show False from e).elim
theorem BM (ha:PE X a ta) (he:∀ whole,isTrue a X.env whole=(do let v <- whole;standAt a.pos;holding [v] (truthy v))) :
  PT X a (fun σ H Q=>ta σ H fun x H' => ∃ k,jc X.K x H' k/\Q k H'):=by
 intro pins s σ H Q I h
 exact isTrue_plain (thn (ha pins s σ H _ I h) fun v s1 ⟨x,H1,I1,r1,q1⟩=>vU pins s1 σ H1 x v Q I1 r1 q1) (he _)
theorem zgt:OpR X (binaryOp .Add) (fun x y H Q=>∃ i j,x = .str i/\y = .str j/\i.length+j.length<=sizeLine/\Q (.str (i++j)) H):=by
 intro pins s σ H x y v u Q I rx ry h
 obtain ⟨i,j,rfl,rfl,hz,q⟩:=h
 obtain ⟨t,rfl⟩:=rx
 obtain ⟨t',rfl⟩:=ry
 exact add_str (fun t' tk=>⟨.str (i++j),H,I.tok _,⟨_,rfl⟩,q⟩) hz
theorem hZ {x:V} {us:List Value} (r:Vals [x] us):∃ u,us=[u]/\RelV x u:=by
 cases r with
 | cons r1 r2=>cases r2;exact ⟨_,rfl,r1⟩
theorem oI {x y:V} {us:List Value} (r:Vals [x,y] us):∃ u w',us=[u,w']/\RelV x u/\RelV y w' := by
 cases r with
 | cons r1 r2 =>
  cases r2 with
  | cons r3 r4=>cases r4;exact ⟨_,_,rfl,r1,r3⟩
theorem BN:CallR X (.builtin "abs") (fun xs H Q=>∃ i,xs=[.int i]/\Q (.int (if i<0 then -i else i)) H):=by
 intro pins s σ H xs us Q I r h
 obtain ⟨i,rfl,q⟩:=h
 obtain ⟨u,rfl,t,rfl⟩:=hZ r
 exact call_abs_int fun u tk=>⟨.int (if i<0 then -i else i),H,I.tok _,⟨_,rfl⟩,q⟩
theorem BO (hc:X.calm=true):CallR X (.builtin "max") (fun xs H Q=>∃ i j,xs=[.int i,.int j]/\Q (.int (if j > i then j else i)) H):=by
 intro pins s σ H xs us Q I r h
 obtain ⟨i,j,rfl,q⟩:=h
 obtain ⟨u,w',rfl,⟨t,rfl⟩,⟨t',rfl⟩⟩:=oI r
 refine max_two_ints (I.ok.hd hc) fun h' tk k=>⟨_,H,I.kept k,?_,q⟩
 by_cases hj:j > i
 ·rw [Ku hj,Ku hj];exact ⟨_,rfl⟩
 ·rw [KF hj,KF hj];exact ⟨_,rfl⟩
theorem BP (hc:X.calm=true):CallR X (.builtin "min") (fun xs H Q=>∃ i j,xs=[.int i,.int j]/\Q (.int (if j<i then j else i)) H):=by
 intro pins s σ H xs us Q I r h
 obtain ⟨i,j,rfl,q⟩:=h
 obtain ⟨u,w',rfl,⟨t,rfl⟩,⟨t',rfl⟩⟩:=oI r
 refine min_two_ints (I.ok.hd hc) fun h' tk k=>⟨_,H,I.kept k,?_,q⟩
 by_cases hj:j<i
 ·rw [Ku hj,Ku hj];exact ⟨_,rfl⟩
 ·rw [KF hj,KF hj];exact ⟨_,rfl⟩
theorem BQ:CallR X (.type "int") (fun xs H Q=>(∃ i,xs=[.int i]/\Q (.int i) H)\/∃ k,xs=[.bl k]/\Q (.int (if k then 1 else 0)) H):=by
 intro pins s σ H xs us Q I r h
 rcases h with ⟨i,rfl,q⟩ | ⟨k,rfl,q⟩
 ·obtain ⟨u,rfl,t,rfl⟩:=hZ r
  exact call_int_int ⟨.int i,H,I,⟨_,rfl⟩,q⟩
 ·obtain ⟨u,rfl,r1⟩:=hZ r
  cases r1
  exact call_int_bool ⟨.int (if k then 1 else 0),H,I.tok _,⟨_,rfl⟩,q⟩
end
end L2
namespace L2
open PySem PySem.Spec PyProof.Rows
structure ObjM (h:Heap) (x dx C:Addr) (mA:Str->Option Value):Prop where
 obj:h.get? x=some (PySem.W.instObj C dx)
 ns:h.Ns1 dx mA
 ne:dx≠x
theorem BR {h:Heap} {dx:Addr} {mA:Str->Option Value} (n:h.Ns1 dx mA):∃ od,h.get? dx=some od/\∀ name,PySem.W.lookIn name od=some (mA name):=by
 obtain ⟨o,es,ep,ho,hd,hk,_,hm⟩:=n
 refine ⟨o,ho,fun name=>?_⟩
 have e:=hm name
 unfold nsFind findBy at e
 rw [<- Array.find?_toList] at e;unfold PySem.W.lookIn
 rw [hd];dsimp only;split
 ·rename_i y q
  rw [q] at e;exact congrArg some e
 ·rename_i q
  rw [q] at e;have a:es.toList.any (·.refKey)=false:=by
   rw [List.any_eq_false];intro y hy
   obtain ⟨z,t,hkey⟩:=hk y (Array.mem_toList_iff.mp hy)
   simp [DictEntry.refKey,hkey]
  have a' : ¬ es.toList.any (·.refKey)=true:=by rw [a];exact KO
  rw [KF a'];exact congrArg some e
theorem ObjM.look {h:Heap} {x dx C:Addr} {mA:Str->Option Value} (I:ObjM h x dx C mA):∃ od,PySem.W.InstAt h x (PySem.W.instObj C dx) C (some od)/\∀ name,PySem.W.lookIn name od=some (mA name) :=
 let ⟨od,ho,hl⟩:=BR I.ns
 ⟨od,⟨I.obj,rfl,rfl,ho⟩,hl⟩
section
variable {prog:Program} {w:World} {A:Around} {E:Value->Shared->Prop} {s:Shared} {K:PySem.W.Frag} {x dx C f:Addr} {mA:Str->Option Value} {name:Str} {v:Value}
theorem BS {expr:Bool} {Q:Value->Shared->Prop} (X:K.In s.heap) (I:ObjM s.heap x dx C mA) (hg:PySem.W.plainGet K C name=true) (hh:PySem.W.hasDictIn K C=true)
  (ha:PySem.W.findIn K (.ref C) name=some none) (hv:mA name=some v) (hv':PySem.W.handedIn v=true) (h:Q v { s with toks:=s.toks+1 }) :
  wpAny (model prog w) A (getAttr (.ref x) name expr) Q E s:=by
 obtain ⟨od,J,hl⟩:=I.look
 exact PySem.W.get_value X J (ML hg).1 (PySem.W.findObj_own hh ha rfl (by rw [hl,hv])) hv' h
theorem BU {pl:Sem Bool} {Q:Value×List Value->Shared->Prop} (X:K.In s.heap) (I:ObjM s.heap x dx C mA) (hg:PySem.W.plainGet K C name=true)
  (hf:PySem.W.findIn K (.ref C) name=some (some (.ref f))) (ht:PySem.W.isFn K (.ref f)=true) (hv:mA name=none) (h:Q (.ref f,[.ref x]) s) :
  wpAny (model prog w) A (getMethod (.ref x) name pl) Q E s:=by
 obtain ⟨od,J,hl⟩:=I.look
 exact PySem.W.method_fn X J (ML hg).1 (ML hg).2 hf (beq_iff_eq.mp ht) (by show (PySem.W.lookIn name od).map (·.isSome)=some false;rw [hl,hv];rfl) h
theorem BV {ns:List Str} {Q:Unit->Shared->Prop} (X:K.In s.heap) (I:ObjM s.heap x dx C mA)
  (hs:PySem.W.findIn K (.ref C) "__setattr__" = some (some (.builtin "object.__setattr__"))) (hp:PySem.W.plainOver K C=true) (ht:PySem.W.takerIn K C name=some none) (hh:PySem.W.hasDictIn K C=true)
  (hw:PySem.Within mA ns) (hsz:ns.length<=sizeLine)
  (h:∀ h',ObjM h' x dx C (fun y=>if y=name then some v else mA y)->Heap.SameBut dx s.heap h'->Q () { s with heap:=h',toks:=s.toks+2 }) :
  wpAny (model prog w) A (setAttr (.ref x) name v) Q E s:=by
 obtain ⟨od,J,hl⟩:=I.look
 refine PySem.W.set_plain X J hs (PySem.W.osa_open (s:={ s with toks:=s.toks+1 }) (r:=none) X J hp ht fun b=>?_)
 obtain ⟨cd,hc,hd'⟩:=PySem.W.any_some hh
 have hx:s.heap.get? x=some ⟨.ref C,some dx,.plain,#[]⟩:=I.obj
 refine KC (K0 (KC (KC (wpAny_loadPart hx (KC (PySem.W.Looks.here (s:={ s with toks:=s.toks+1 }) (PySem.W.looks_clsIn X hc) ?_))))))
 rw [hd'];refine K0 (a:=some dx) (KC (K0 (KC ?_)))
 refine wpAny_nsSet1 (s:={ s with toks:=s.toks+1 }) I.ns fun h' hn2 hs2=>?_
 obtain ⟨oD,esD,epD,hoD,hdD,hcD⟩:=hn2.count (PySem.Within.cons name v hw)
 refine KC (wpAny_lookBehind hoD (by rw [hdD];exact pastItsLine_dict (Kn hcD (by rw [Kk];lia))) ?_)
 exact K0 (h _ ⟨(hs2.2 _ (Ne.symm I.ne)).trans I.obj,hn2,I.ne⟩ hs2)
theorem BW {R:Result->Shared->Prop} {vs:List Value} {kw:List (Str×Value)} (X:K.In s.heap) (hm:PySem.W.makesIn K C=true)
  (hi:PySem.W.findIn K (.ref C) "__init__" = some (some (.ref f))) (hf:PySem.W.typeIn K (.ref f)=some (.type "function"))
  (h:codeAny (model prog w) (A.under (.builtin "type.__call__" ⟨.ref C::vs,kw⟩)) (.call (.ref f) ⟨.ref (s.heap.objs.size+1)::vs,kw⟩) (PySem.W.InitBack (s.heap.objs.size+1) R)
   { s with heap:=(s.heap.push PySem.W.emptyDict).push (PySem.W.instObj C s.heap.objs.size) }) :
  codeAny (model prog w) A (.call (.ref C) ⟨vs,kw⟩) R s:=by
 obtain ⟨hh,g,d,t,os⟩:=s
 exact PySem.W.make_core (PySem.W.makes_of X hm) (PySem.W.looks_findIn X hi) (fun self=>PySem.W.bind_fn X self hf) (.inl rfl) h
end
def bT (f:Str) (v:V):List (Str×V)->List (Str×V)
 | []=>[(f,v)]
 | (g,x)::r=>if g=f then (g,v)::r else (g,x)::bT f v r
theorem oJ (f g:Str) (v:V):∀ fs:List (Str×V),(bT f v fs).lookup g=if g=f then some v else fs.lookup g
 | []=>by
  show List.lookup g [(f,v)]=_
  by_cases h:g=f
  ·have hb:(g == f)=true:=beq_iff_eq.mpr h
   simp only [List.lookup,hb,Ku h]
  ·have hb:(g == f)=false:=beq_eq_false_iff_ne.mpr h
   simp only [List.lookup,hb,KF h]
 | (k,x)::r=>by
  have ih:=oJ f g v r
  rw [show bT f v ((k,x)::r)=(if k=f then (k,v)::r else (k,x)::bT f v r) from rfl];by_cases hk:k=f
  ·rw [Ku hk]
   by_cases h:g=k
   ·have hb:(g == k)=true:=beq_iff_eq.mpr h
    simp only [List.lookup,hb,Ku (h.trans hk)]
   ·have hb:(g == k)=false:=beq_eq_false_iff_ne.mpr h
    simp only [List.lookup,hb,KF (fun e:g=f=>h (e.trans hk.symm))]
  ·rw [KF hk]
   by_cases h:g=k
   ·have hb:(g == k)=true:=beq_iff_eq.mpr h
    simp only [List.lookup,hb,KF (fun e:g=f=>hk (h.symm.trans e))]
   ·have hb:(g == k)=false:=beq_eq_false_iff_ne.mpr h
    simp only [List.lookup,hb]
    exact ih
theorem qV (f:Str) (v:V):∀ fs:List (Str×V),f∈(bT f v fs).map (·.1)/\∀ g,g∈fs.map (·.1)->g∈(bT f v fs).map (·.1)
 | []=>⟨by simp [bT],fun g h=>by simp at h⟩
 | (k,x)::r=>by
  obtain ⟨i1,i2⟩:=qV f v r
  rw [show bT f v ((k,x)::r)=(if k=f then (k,v)::r else (k,x)::bT f v r) from rfl];by_cases hk:k=f
  ·rw [Ku hk]
   subst hk;exact ⟨by simp,fun g h=>by simpa using h⟩
  ·rw [KF hk]
   refine ⟨?_,fun g h=>?_⟩
   ·rw [KY]
    exact Kp _ i1
   ·rw [KY] at h ⊢
    rcases KJ.mp h with e | e
    ·exact KJ.mpr (.inl e)
    ·exact Kp _ (i2 g e)
theorem vV (f:Str) (v:V):∀ fs:List (Str×V),(bT f v fs).length<=fs.length+1
 | []=>by simp [bT]
 | (k,x)::r=>by
  have ih:=vV f v r
  rw [show bT f v ((k,x)::r)=(if k=f then (k,v)::r else (k,x)::bT f v r) from rfl];by_cases hk:k=f
  ·rw [Ku hk,Kk,Kk];lia
  ·rw [KF hk,Kk,Kk];lia
theorem RelO.some_of {v:V} {o:Option Value} (r:RelO (some v) o):∃ u,o=some u/\RelV v u:=by
 cases o with
 | none=>exact (show False from r).elim
 | some u=>exact ⟨u,rfl,r⟩
theorem RelO.none_of {o:Option Value} (r:RelO none o):o=none:=by
 cases o with
 | none=>rfl
 | some u=>exact (show False from r).elim
theorem BX {v:V} {u:Value} (r:RelV v u):PySem.W.handedIn u=true:=by
 cases v with
 | non=>cases (show u=Value.none from r);rfl
 | bl b=>cases (show u=Value.bool b from r);rfl
 | int i=>obtain ⟨t,e⟩:=(show ∃ t,u=Value.int i t from r);cases e;rfl
 | str x=>obtain ⟨t,e⟩:=(show ∃ t,u=Value.str x t from r);cases e;rfl
 | byt b=>obtain ⟨t,e⟩:=(show ∃ t,u=Value.bytes b t from r);cases e;rfl
 | flt b=>obtain ⟨t,e⟩:=(show ∃ t,u=Value.float b t from r);cases e;rfl
 | ref a=>cases (show u=Value.ref a from r);rfl
 | ty n=>cases (show u=Value.type n from r);rfl
section
variable {P:Program} {w:World} {H H':Hp} {h h':Heap} {a C dx:Addr} {fs fs':List (Str×V)}
theorem oK (hok:HOk P w H h) (e:H a=some (.ins C dx fs)):∃ mA,ObjM h a dx C mA/\(∀ f,RelO (fs.lookup f) (mA f))/\PySem.Within mA (fs.map (·.1))/\fs.length<=1000/\H dx=some (.own a):=by
 obtain ⟨d,z,ne,ob,mA,n,r,q⟩:=(show ObjOk P w H h a (.ins C dx fs) from hok a _ e)
 exact ⟨mA,⟨ob,n,ne⟩,r,q,z,d⟩
end
structure Cls (K:PySem.W.Frag) (C:Addr):Prop where
 pg:PySem.W.plainGet K C Str.empty=true
 hd:PySem.W.hasDictIn K C=true
 po:PySem.W.plainOver K C=true
 sa:PySem.W.findIn K (.ref C) "__setattr__" = some (some (.builtin "object.__setattr__"))
theorem Cls.get {K:PySem.W.Frag} {C:Addr} (c:Cls K C) (f:Str):PySem.W.plainGet K C f=true:=c.pg
def NoAttr (K:PySem.W.Frag) (C:Addr) (f:Str):Prop:=PySem.W.findIn K (.ref C) f=some none
theorem NoAttr.taker {K:PySem.W.Frag} {C:Addr} {f:Str} (n:NoAttr K C f):PySem.W.takerIn K C f=some none:=by
 unfold PySem.W.takerIn
 rw [show PySem.W.findIn K (.ref C) f=some none from n];rfl
structure iz (K:PySem.W.Frag) (C:Addr) (m:Str) (f:Addr):Prop where
 at_:PySem.W.findIn K (.ref C) m=some (some (.ref f))
 fn:PySem.W.isFn K (.ref f)=true
 kp:PySem.W.keepIn K (.ref f)=true
section
variable {X:Cx} {pins:List (Addr×Obj)} {σ:St} {H:Hp} {s:Shared} {a C dx:Addr} {fs:List (Str×V)} {f:Str} {v:V} {A:Around} {E:Value->Shared->Prop}
theorem BY {b:Bool} {Q:Value->Shared->Prop} (I:Inv X pins σ H s) (e:H a=some (.ins C dx fs)) (c:Cls X.K C) (n:NoAttr X.K C f) (l:fs.lookup f=some v)
  (h:∀ u s',Inv X pins σ H s'->RelV v u->Q u s'):wpAny (model X.prog X.w) A (getAttr (.ref a) f b) Q E s:=by
 obtain ⟨mA,O,r,_,_,_⟩:=oK I.hok e
 obtain ⟨u,hu,ru⟩:=RelO.some_of (v:=v) (o:=mA f) (by rw [<- l];exact r f)
 exact BS I.kIn O (c.get f) c.hd n hu (BX ru) (h u _ (I.tok _) ru)
theorem vW {m:Str} {g:Addr} {pl:Sem Bool} {Q:Value×List Value->Shared->Prop} (I:Inv X pins σ H s) (e:H a=some (.ins C dx fs)) (c:Cls X.K C) (k:iz X.K C m g) (l:fs.lookup m=none)
  (h:Q (.ref g,[.ref a]) s):wpAny (model X.prog X.w) A (getMethod (.ref a) m pl) Q E s:=by
 obtain ⟨mA,O,r,_,_,_⟩:=oK I.hok e
 have hn:mA m=none:=RelO.none_of (by rw [<- l];exact r m)
 exact BU I.kIn O (c.get m) k.at_ k.fn hn h
theorem BZ {y:V} {u:Value} {Q:Unit->Shared->Prop} (I:Inv X pins σ H s) (e:H a=some (.ins C dx fs)) (c:Cls X.K C) (n:NoAttr X.K C f) (hl:fs.length<1000) (ry:RelV y u)
  (h:∀ s',Inv X pins σ (aJ H a (.ins C dx (bT f y fs))) s'->Q () s'):wpAny (model X.prog X.w) A (setAttr (.ref a) f u) Q E s:=by
 obtain ⟨mA,O,r,wi,_,ho⟩:=oK I.hok e
 have hz:(fs.map (·.1)).length<=sizeLine:=by rw [Kv,sizeLine_eq];lia
 refine BV I.kIn O c.sa c.po n.taker c.hd wi hz fun h' O' sb=>h _ ?_
 have hd:∃ o,h'.get? dx=some o:=let ⟨o,_,_,e',_⟩:=O'.ns;⟨o,e'⟩
 refine I.write (x:=a) (e:=dx) (by rw [e];exact True.intro) (.inr ho) (fun b q hb z=>(sb.2 b hb).trans z) hd ?_
 refine ⟨by rw [bS O.ne];exact ho,?_,O.ne,O'.obj,_,O'.ns,fun g=>?_,fun g hg=>?_⟩
 ·have:=vV f y fs;lia
 ·show RelO ((bT f y fs).lookup g) (if g=f then some u else mA g)
  rw [oJ];by_cases q:g=f
  ·rw [Ku q,Ku q];exact ry
  ·rw [KF q,KF q];exact r g
 ·by_cases q:g=f
  ·rw [q];exact (qV f y fs).1
  ·refine (qV f y fs).2 g (wi g fun z=>hg ?_)
   show (if g=f then some u else mA g)=none
   rw [KF q];exact z
theorem Inv.made (I:Inv X pins σ H s):Inv X pins σ (aJ (aJ H s.heap.objs.size (.own (s.heap.objs.size+1))) (s.heap.objs.size+1) (.ins C s.heap.objs.size []))
  { s with heap:=(s.heap.push PySem.W.emptyDict).push (PySem.W.instObj C s.heap.objs.size) }:=by
 have e1:(s.heap.push PySem.W.emptyDict).get? s.heap.objs.size=some PySem.W.emptyDict:=KZ s.heap rfl
 have e2:((s.heap.push PySem.W.emptyDict).push (PySem.W.instObj C s.heap.objs.size)).get? (s.heap.objs.size+1)=some (PySem.W.instObj C s.heap.objs.size):=by
  have:=KZ (s.heap.push PySem.W.emptyDict) (o:=PySem.W.instObj C s.heap.objs.size) rfl
  rwa [MS] at this
 have e3:(s.heap.push PySem.W.emptyDict).Ns s.heap.objs.size (fun _=>none):=⟨PySem.W.emptyDict,#[],_,e1,rfl,(fun e he=>absurd he (by simp)),fun _=>rfl⟩
 have I1:=I.laid (a:=s.heap.objs.size) (o:=.own (s.heap.objs.size+1)) (h' := s.heap.push PySem.W.emptyDict) (t' := s.toks) (fun b u q=>Kt _ q) (Kj _) ⟨_,e1⟩
 refine I1.laid (a:=s.heap.objs.size+1) (o:=.ins C s.heap.objs.size []) (t' := s.toks) (fun b u q=>Kt _ q) (Nl (MS _ _)) ?_
 have ne:s.heap.objs.size≠s.heap.objs.size+1:=K7 (Nd _)
 refine ⟨by rw [bS ne,eG],KS _,ne,e2,fun _=>none,(Heap.Ns1.of_empty e3).at fun o q=>Kt _ q,fun _=>True.intro,fun y hy=>absurd rfl hy⟩
theorem B3 {prog:Program} {w:World} {env:Env} {e:Expr} {f:Str} {pos:Pos} {s:Shared} {Q:Value->Shared->Prop} (hb:attributeBase e f env (eval e env)=eval e env)
  (h:wpAny (model prog w) A (eval e env) (fun o s₁=>wpAny (model prog w) A (getAttr o f true) Q E s₁) E s):wpAny (model prog w) A (eval (.Attribute e f pos) env) Q E s :=
 Attribute_any_ h (by rw [arm_eval_Attribute,hb])
end
def qW (K:PySem.W.Frag) (ta:TE) (f:Str):TE:=fun σ H Q=>ta σ H fun x H1=>∃ a C dx fs v,x = .ref a/\H1 a=some (.ins C dx fs)/\Cls K C/\NoAttr K C f/\fs.lookup f=some v/\Q v H1
def sFld (K:PySem.W.Frag) (ta tv:TE) (f:Str):TS:=fun D σ H=>tv σ H fun y H1=>ta σ H1 fun x H2=>∃ a C dx fs,x = .ref a/\H2 a=some (.ins C dx fs)/\Cls K C/\NoAttr K C f/\fs.length<1000 /\
 D.nx σ (aJ H2 a (.ins C dx (bT f y fs)))
section
variable {X:Cx} {o e value:Expr} {f:Str} {pos pos' tpos:Pos} {ta tv:TE}
theorem B4 (he:PE X e ta) (hb:attributeBase e f X.env (eval e X.env)=eval e X.env):PE X (.Attribute e f pos) (qW X.K ta f):=by
 intro pins s σ H Q I h
 refine B3 hb (thn (he pins s σ H _ I h) fun u s1 ⟨x,H1,I1,rx,a,C,dx,fs,v,ex,ea,c,n,l,q⟩=>?_)
 subst ex;obtain rfl:u=Value.ref a:=rx
 exact BY I1 ea c n l fun u' s2 I2 ru=>⟨v,H1,I2,ru,q⟩
theorem B5 (ha:PE X o ta) (hv:PE X value tv) (hs:swapsWith value (some (.Attribute o f pos')) pos.line X.env=pure false):PS X (.Assign [.Attribute o f pos'] value pos) (sFld X.K ta tv f):=by
 intro pins s σ H D I h
 refine plainObj_wpAny_Assign_Attribute (thn (hv pins s σ H _ I h) fun u s1 ⟨y,H1,I1,ry,q⟩=>thn (ha pins s1 σ H1 _ I1 q) fun ov s2 ⟨x,H2,I2,rx,a,C,dx,fs,ex,ea,c,n,l,q2⟩=>?_) hs
 subst ex;obtain rfl:ov=Value.ref a:=rx
 exact BZ I2 ea c n l ry fun s3 I3=>⟨σ,_,I3,q2⟩
end
section
variable {X:Cx} {pins:List (Addr×Obj)} {σ:St} {H:Hp} {s:Shared} {A:Around} {E:Value->Shared->Prop} {Q:Value->Shared->Prop} {c:Value} {b:Bool}
inductive cX (K:PySem.W.Frag) (H:Hp):V->Value->Prop where
 | non:cX K H .non (.type "NoneType")
 | bl (x:Bool):cX K H (.bl x) (.type "bool")
 | int (i:Int):cX K H (.int i) (.type "int")
 | str (x:Str):cX K H (.str x) (.type "str")
 | flt (x:UInt64):cX K H (.flt x) (.type "float")
 | lst {a:Addr} {xs:List V} (e:H a=some (.lst xs)):cX K H (.ref a) (.type "list")
 | frz {a:Addr} {o:Obj} {xs:List V} (e:H a=some (.frz o (.lst xs))):cX K H (.ref a) (.type "list")
 | tup {a:Addr} {xs:List V} (e:H a=some (.tup xs)):cX K H (.ref a) (.type "tuple")
 | dK {a:Addr} {kvs:List (aW×V)} (e:H a=some (.dK kvs)):cX K H (.ref a) (.type "dict")
 | dT {a:Addr} {kvs:List (List aW×V)} (e:H a=some (.dT kvs)):cX K H (.ref a) (.type "dict")
 | ins {a C dx:Addr} {fs:List (Str×V)} (e:H a=some (.ins C dx fs)) (cl:Cls K C) (ha:PySem.W.findIn K (.ref C) "__class__" = some (some (.builtin "object.__class__")))
   (hn:PySem.W.specialIn K (.builtin "object.__class__") "__get__" = some (some (.builtin "getset_descriptor.__get__"))) (htk:PySem.W.takesIn K (.builtin "object.__class__")=some true)
   (hm:PySem.W.mroIn K C (.type "object")=some true):cX K H (.ref a) (.ref C)
theorem B6 {x:V} {u t:Value} (I:Inv X pins σ H s) (rx:RelV x u) (ty:cX X.K H x t) (e:PySem.W.kitOne X.K t c=some b) (h:∀ tk,Q (.bool b) { s with toks:=tk }) :
  wpAny (model X.prog X.w) A (call (.builtin "isinstance") [u,c]) Q E s:=by
 cases ty with
 | non=>cases (show u=Value.none from rx);exact Lj PySem.W.kitx_none I.kIn True.intro e (fun z=>nomatch z) h
 | bl y=>cases (show u=Value.bool y from rx);exact Lj PySem.W.kitx_bool I.kIn True.intro e (fun z=>nomatch z) h
 | int i=>obtain ⟨t,q⟩:=(show ∃ t,u=Value.int i t from rx);cases q;exact Lj PySem.W.kitx_int I.kIn True.intro e (fun z=>nomatch z) h
 | str y=>obtain ⟨t,q⟩:=(show ∃ t,u=Value.str y t from rx);cases q;exact Lj PySem.W.kitx_str I.kIn True.intro e (fun z=>nomatch z) h
 | flt y=>obtain ⟨t,q⟩:=(show ∃ t,u=Value.float y t from rx);cases q;exact Lj PySem.W.kitx_float I.kIn True.intro e (fun z=>nomatch z) h
 | @lst a xs ea =>
  cases (show u=Value.ref a from rx)
  obtain ⟨_,_,n,_,h1⟩:=(show ObjOk X.prog X.w H s.heap a (.lst xs) from I.hok a _ ea)
  exact Lj M0 I.kIn ⟨_,h1,rfl⟩ e (fun z=>nomatch z) h
 | @frz a ob xs ea =>
  cases (show u=Value.ref a from rx)
  obtain ⟨_,_,_,n,_,h1⟩:=(show ObjOk X.prog X.w H s.heap a (.frz ob (.lst xs)) from I.hok a _ ea)
  exact Lj M0 I.kIn ⟨_,h1,rfl⟩ e (fun z=>nomatch z) h
 | @tup a xs ea =>
  cases (show u=Value.ref a from rx)
  obtain ⟨_,_,_,p⟩:=(show ObjOk X.prog X.w H s.heap a (.tup xs) from I.hok a _ ea)
  obtain ⟨o,h1,h2,_⟩:=p
  exact Lj PySem.W.kitx_tuple I.kIn ⟨o,h1,h2⟩ e (fun z=>nomatch z) h
 | @dK a kvs ea =>
  cases (show u=Value.ref a from rx)
  obtain ⟨_,_,vs,_,p⟩:=(show ObjOk X.prog X.w H s.heap a (.dK kvs) from I.hok a _ ea)
  obtain ⟨o,es,ep,h1,h2,_⟩:=p
  exact Lj Oe I.kIn ⟨o,h1,h2.1⟩ e (fun z=>nomatch z) h
 | @dT a kvs ea =>
  cases (show u=Value.ref a from rx)
  obtain ⟨_,_,xs,_,o,es,ep,h1,h2,_⟩:=(show ObjOk X.prog X.w H s.heap a (.dT kvs) from I.hok a _ ea)
  exact Lj Oe I.kIn ⟨o,h1,h2.1⟩ e (fun z=>nomatch z) h
 | @ins a C dx fs ea cl ha hn htk hm =>
  cases (show u=Value.ref a from rx)
  obtain ⟨mA,O,_⟩:=oK I.hok ea
  obtain ⟨od,J,_⟩:=O.look
  exact Lj (PySem.W.kitx_own (cl.get _) cl.hd ha hn htk hm) I.kIn J e (fun z=>nomatch z) h
end
end L2
namespace L2
open PySem PySem.Spec PyProof.Rows
structure Room (k:Nat) (A:Around):Prop where
 hd:A.handled=none
 dp:A.depth+3*k+5<recursionLimit
 un:A.units+16*k+200<cLine
theorem Room.mono {j k:Nat} {A:Around} (r:Room k A) (h:j<=k):Room j A:=⟨r.hd,by have:=r.dp;lia,by have:=r.un;lia⟩
theorem Room.deeper {k:Nat} {A:Around} (r:Room (k+1) A) (env:Env):Room k (A.deeper env) :=
 ⟨r.hd,by have:=r.dp;show A.depth+1+3*k+5<_;lia,by have:=r.un;show A.units+3+16*k+200<_;lia⟩
theorem B7 {A:Around} {C:Addr} {us:List Value} {kw:List (Str×Value)}:(A.under (.builtin "type.__call__" ⟨.ref C::us,kw⟩)).depth=A.depth+1:=by
 first | rfl | simp [Around.under,Code.weight,Code.isCreation,Code.isGuard,Code.isCaller,Code.frames,Code.isFrame,guardIds]
theorem B8 {A:Around} {C:Addr} {us:List Value} {kw:List (Str×Value)}:(A.under (.builtin "type.__call__" ⟨.ref C::us,kw⟩)).units=A.units+1:=by
 first | rfl | simp [Around.under,Code.cUnits,Code.frames,Code.isFrame]
theorem Room.make {k:Nat} {A:Around} (r:Room (k+1) A) (C:Addr) (us:List Value) (kw:List (Str×Value)):Room k (A.under (.builtin "type.__call__" ⟨.ref C::us,kw⟩)) :=
 ⟨r.hd,by have:=r.dp;rw [B7];lia,by have:=r.un;rw [B8];lia⟩
theorem Room.depth {k:Nat} {A:Around} (r:Room k A):A.depth<recursionLimit:=by have:=r.dp;lia
def qX:TA:=fun _ H Q=>Q [] H
def B9 (ta:TE) (tr:TA):TA:=fun σ H Q=>ta σ H fun x H1=>tr σ H1 fun xs H2=>Q (x::xs) H2
section
variable {X:Cx} {e:Expr} {es:List Expr} {te:TE} {t:TA} {pos:Pos}
theorem vX:PA X [] qX:=fun _ _ _ _ H Q I h=>Calls.spliced_nil ⟨[],H,I,.nil,h⟩
theorem qY (ha:PE X e te) (hr:PA X es t) (hs:starEach (e::es) X.env=(false,eval e X.env)::starEach es X.env:=by rfl):PA X (e::es) (B9 te t):=by
 intro pos pins s σ H Q I h
 rw [hs];show wpAny _ _ (spliced ((false,eval e X.env)::backTo pos (starEach es X.env))) _ _ s
 refine Calls.spliced_cons (thn (ha pins s σ H _ I h) fun u s1 ⟨x,H1,I1,r1,q1⟩=>?_)
 exact thn (hr pos pins s1 σ H1 _ I1 q1) fun us s2 ⟨xs,H2,I2,r2,q2⟩=>⟨x::xs,H2,I2,.cons r1 r2,q2⟩
def qZ (t:TA):TE:=fun σ H Q=>t σ H fun xs H1=>xs.length<=sizeLine/\∀ p,H1 p=none->Q (.ref p) (aJ H1 p (.tup xs))
def rf (t:TA):TE:=fun σ H Q=>t σ H fun xs H1=>xs.length<=sizeLine/\∀ p,H1 p=none->Q (.ref p) (aJ H1 p (.lst xs))
theorem Cb {x1} (h:PA X es t):PE X (.Tuple es x1 pos) (qZ t):=by
 intro pins s σ H Q I hq
 refine wpAny_Tuple_spliced (thn (h pos pins s σ H _ I hq) fun us s1 ⟨xs,H1,I1,r,z,q⟩=>⟨by rw [<- r.length];exact z,?_⟩)
 have hf:H1 s1.heap.objs.size=none:=I1.hok.fresh (Kj _)
 refine ⟨.ref s1.heap.objs.size,aJ H1 s1.heap.objs.size (.tup xs),I1.laid (t' := s1.toks) (fun b u e=>Kt _ e) (Kj _) ?_,rfl,q _ hf⟩
 exact ⟨z,us,r,⟨_,KZ _ rfl,rfl,_,rfl⟩⟩
theorem vY (h:PA X es t):PE X (.List es pos) (rf t):=by
 intro pins s σ H Q I hq
 refine wpAny_List_spliced (thn (h pos pins s σ H _ I hq) fun us s1 ⟨xs,H1,I1,r,z,q⟩=>⟨by rw [<- r.length];exact z,?_⟩)
 have hf:H1 s1.heap.objs.size=none:=I1.hok.fresh (Kj _)
 refine ⟨.ref s1.heap.objs.size,aJ H1 s1.heap.objs.size (.lst xs),I1.laid (t' := s1.toks) (fun b u e=>Kt _ e) (Kj _) ?_,rfl,q _ hf⟩
 exact ⟨z,us,0,r,KZ _ rfl⟩
end
abbrev Sp:=List V->Hp->VK->XK->Prop
abbrev fV:=List Env->Hp->Shared->XK->Value->Shared->Prop
structure Env0 (P:Program) (w:World) (K:PySem.W.Frag) (mg:Str->Option Value) (base:Heap) (A:Around) (outer:List Env) (s:Shared) (H:Hp):Prop where
 frames:A.frames=some outer
 mod:Mod K mg base
 bs:∀ b o,base.get? b=some o->s.heap.get? b=some o/\H b=none
 bsz:base.objs.size<=s.heap.objs.size
 funs:s.heap.FunFrames base outer
 frf:∀ b∈dQ outer,H b=none
 hok:HOk P w H s.heap
 bare:AllBare s.gens
def CE (outer:List Env) (P:Program) (w:World) (H:Hp) (s:Shared) (Q:VK) (u:Value) (s':Shared):Prop :=
 ∃ v H',s'.os=s.os/\AllBare s'.gens/\Un (dQ outer) [] H H' s.heap s'.heap/\HOk P w H' s'.heap/\RelV v u/\Q v H'
def CR (CX:fV) (outer:List Env) (P:Program) (w:World) (H:Hp) (s:Shared) (Q:VK) (E:XK) (r:Result) (s':Shared):Prop :=
 match r with
 | .ok (.ret u)=>CE outer P w H s Q u s'
 | .ok _=>False
 | .error e=>CX outer H s E e s'
structure FnOk (P:Program) (w:World) (K:PySem.W.Frag) (mg:Str->Option Value) (base:Heap) (CX:fV) (k:Nat) (f:Addr) (fd:FuncData) (ps:List Str) (sp:Sp):Prop where
 len:∀ vs H Q E,sp vs H Q E->vs.length=ps.length
 run:∀ (A:Around) (outer:List Env) (s:Shared) (H:Hp) (args:Args) (us:List Value) (vs:List V) (Q:VK) (E:XK),Room k A->Env0 P w K mg base A outer s H->BindsTo s fd args (ps.zip us)->Vals vs us->sp vs H Q E ->
  codeAny (model P w) A (.call (.ref f) args) (CR CX outer P w H s Q E) s
theorem FnOk.imp {P:Program} {w:World} {K:PySem.W.Frag} {mg:Str->Option Value} {base:Heap} {CX:fV} {k:Nat} {f:Addr} {fd:FuncData} {ps:List Str} {sp sp':Sp} (F:FnOk P w K mg base CX k f fd ps sp)
  (h:∀ vs H Q E,sp' vs H Q E->sp vs H Q E):FnOk P w K mg base CX k f fd ps sp' :=
 ⟨fun vs H Q E q=>F.len vs H Q E (h _ _ _ _ q),fun A outer s H args us vs Q E hr he hb hv hs=>F.run A outer s H args us vs Q E hr he hb hv (h _ _ _ _ hs)⟩
theorem Env0.make {P:Program} {w:World} {K:PySem.W.Frag} {mg:Str->Option Value} {base:Heap} {A:Around} {outer:List Env} {s:Shared} {H:Hp} (e:Env0 P w K mg base A outer s H) (C:Addr) (us:List Value) (kw:List (Str×Value)) :
  Env0 P w K mg base (A.under (.builtin "type.__call__" ⟨.ref C::us,kw⟩)) outer s H:=⟨by first | exact e.frames | (simpa [Around.under,Code.envs,Code.isFrame,pushEnvs] using e.frames),e.mod,e.bs,e.bsz,e.funs,e.frf,e.hok,e.bare⟩
section
variable {X:Cx} {pins:List (Addr×Obj)} {σ:St} {H:Hp} {s s':Shared}
theorem Inv.env0 (I:Inv X pins σ H s):Env0 X.prog X.w X.K X.mg X.base X.A X.stack s H :=
 ⟨I.ok.frames,I.ok.mod,I.bs,Kn I.ok.bsz I.sz,I.stack,I.stkFree,I.hok,I.bare⟩
theorem Inv.after {Q:VK} {u:Value} (I:Inv X pins σ H s) (h:CE X.stack X.prog X.w H s Q u s'):EP X pins σ Q u s' := by
 obtain ⟨v,H',os,bare,un,hok,r,q⟩:=h
 obtain ⟨hh,g,d,t,os'⟩:=s'
 obtain rfl:os'=s.os:=os
 exact ⟨v,H',I.call (h' := hh) (g' := g) (d' := d) (t' := t) (ch:=[]) un hok bare (fun b z=>absurd z (by simp)),r,q⟩
end
def Binds (K:PySem.W.Frag) (fd:FuncData) (ps:List Str) (ds:List Value):Prop :=
 ∀ (s:Shared) (us:List Value),K.In s.heap->(us++ds).length=ps.length->BindsTo s fd ⟨us,[]⟩ (ps.zip (us++ds))
theorem Binds.all {K:PySem.W.Frag} {fd:FuncData} {ps:List Str} (h:∀ us:List Value,us.length=ps.length->bindArgs fd ⟨us,[]⟩=pure (ps.zip us)):Binds K fd ps []:=fun s us _ hl=>by
 rw [K8] at hl ⊢;exact .of_eq (h us hl)
def Cc (CX:fV) (X:Cx) (E:XK):Prop:=∀ (pins:List (Addr×Obj)) (σ:St) (H:Hp) (s:Shared) (e:Value) (s':Shared),Inv X pins σ H s->CX X.stack H s E e s'->X.xe e s'
section
variable {X:Cx} {CX:fV} {k:Nat} {f C:Addr} {fd:FuncData} {ps:List Str} {sp:Sp} {dvs:List V} {ds:List Value} {E:XK} {x m:Str} {p pos apos:Pos} {e o:Expr} {es:List Expr} {ta:TE} {t:TA}
structure Mk (K:PySem.W.Frag) (C f:Addr):Prop where
 makes:PySem.W.makesIn K C=true
 init:PySem.W.findIn K (.ref C) "__init__" = some (some (.ref f))
 fn:PySem.W.isFn K (.ref f)=true
 kp:PySem.W.keepIn K (.ref C)=true
end
section
variable {X:Cx} {CX:fV} {k:Nat} {f C:Addr} {fd:FuncData} {ps ks:List Str} {sp:Sp} {E:XK} {x m:Str} {p pos apos kpos:Pos} {e o:Expr} {es:List Expr} {kws:List Keyword} {te ta:TE} {t tk:TA} {nm:Option Str}
variable {g:List Value->List Value->List Value} {gV:List V->List V->List V}
end
structure aq (N P:List Str) (sc:Scope):Prop where
 kind:sc.kind = .function
 co:sc.isCoroutine=false
 gen:sc.isGenerator=false
 nd:N.Nodup
 pre:N.take P.length=P
 par:∀ x∈P,sc.names.lookup x=some .local\/sc.names.lookup x=some .cell
 nofree:∀ y∈sc.names,y.2 ≠ .free
theorem vZ {kindOf:Str->Option NameKind} {x:Str}:∀ {binds:List (Str×Value)} {m:Str->Option Value},(∀ v,(x,v)∉binds)->bindL kindOf binds m x=m x
 | [],_,_=>rfl
 | (n,v)::r,m,h=>by
  unfold bindL
  rw [vZ fun w hw=>h w (Kp _ hw)];split
  ·have:x≠n:=by rintro rfl;exact h v Km
   simp [this]
  ·rfl
theorem v5 {kindOf:Str->Option NameKind} {x:Str}:∀ {binds:List (Str×Value)} {m:Str->Option Value},(∀ v,(x,v)∉binds)->bindC kindOf binds m x=m x
 | [],_,_=>rfl
 | (n,v)::r,m,h=>by
  unfold bindC
  rw [v5 fun w hw=>h w (Kp _ hw)];split
  ·rfl
  ·have:x≠n:=by rintro rfl;exact h v Km
   simp [this]
theorem v7 {kindOf:Str->Option NameKind} {x:Str} {v:Value}:∀ {P:List Str} {vs:List Value} {i:Nat} {m:Str->Option Value},P.Nodup->P[i]? = some x->vs[i]? = some v->kindOf x=some .local ->
  bindL kindOf (P.zip vs) m x=some v
 | [],_,_,_,_,h,_,_=>by simp at h
 | _::_,[],_,_,_,_,h,_=>by simp at h
 | p::P,w::vs,0,m,nd,h1,h2,hk=>by
  simp at h1 h2;subst h1;subst h2
  show bindL kindOf ((p,w)::P.zip vs) m p=_
  unfold bindL
  rw [vZ fun v hv=>(Lk.mp nd).1 (NC hv).1,Ku hk];simp
 | p::P,w::vs,i+1,m,nd,h1,h2,hk=>by
  show bindL kindOf ((p,w)::P.zip vs) m x=_
  unfold bindL
  exact v7 (i:=i) (Lk.mp nd).2 (by simpa using h1) (by simpa using h2) hk
theorem v8 {kindOf:Str->Option NameKind} {x:Str} {v:Value}:∀ {P:List Str} {vs:List Value} {i:Nat} {m:Str->Option Value},P.Nodup->P[i]? = some x->vs[i]? = some v->kindOf x≠some .local ->
  bindC kindOf (P.zip vs) m x=some v
 | [],_,_,_,_,h,_,_=>by simp at h
 | _::_,[],_,_,_,_,h,_=>by simp at h
 | p::P,w::vs,0,m,nd,h1,h2,hk=>by
  simp at h1 h2;subst h1;subst h2
  show bindC kindOf ((p,w)::P.zip vs) m p=_
  unfold bindC
  rw [v5 fun v hv=>(Lk.mp nd).1 (NC hv).1,KF hk];simp
 | p::P,w::vs,i+1,m,nd,h1,h2,hk=>by
  show bindC kindOf ((p,w)::P.zip vs) m x=_
  unfold bindC
  exact v8 (i:=i) (Lk.mp nd).2 (by simpa using h1) (by simpa using h2) hk
def start (N:List Str) (vs:List V):St:=vs.map some++List.replicate (N.length-vs.length) none
def cM (CX:fV) (P:Program) (w:World) (K:PySem.W.Frag) (mg:Str->Option Value) (base:Heap) (N:List Str) (qual:Str) (scope:Scope) (f:Addr) (cd:Value) (A:Around) (outer:List Env) (s:Shared) (H:Hp) (E:XK):Cx where
 prog:=P
 w:=w
 K:=K
 mg:=mg
 base:=base
 A:=A.deeper (envOfC qual scope s.heap.objs.size f cd)
 N:=N
 s₀:=s
 H₀:=H
 env:=envOfC qual scope s.heap.objs.size f cd
 outer:=outer
 stack:=envOfC qual scope s.heap.objs.size f cd::outer
 ex:=[]
 calm:=true
 fn:=fun _=>true
 pn:=[]
 xe:=fun e s' => wpAny (model P w) (A.deeper (envOfC qual scope s.heap.objs.size f cd)) (leaving (envOfC qual scope s.heap.objs.size f cd) e) (fun _ s'' => CX outer H s E e s'') (fun e' s'' => CX outer H s E e' s'') s'
theorem v9 {sc:Scope} {n:Nat} {x:Str} (h:sc.names.lookup x=some .cell):∃ c,(cellsFrom n sc.names []).lookup x=some c:=by
 have q:=Nm sc.names n [] (.inl h)
 exact KR.mp q
theorem Cd {CX:fV} {P:Program} {w:World} {K:PySem.W.Frag} {mg:Str->Option Value} {base:Heap} {N ps:List Str} {qual:Str} {scope:Scope} {f:Addr} {cd:Value} {A:Around} {outer:List Env} {s s1:Shared} {H:Hp} {E:XK} {us:List Value} {vs:List V}
  (S:aq N ps scope) (hd:A.handled=none) (e0:Env0 P w K mg base A outer s H) (hl:vs.length=ps.length) (r:Vals vs us)
  (x:InCallC s s.heap.objs.size (bindL (envOfC qual scope s.heap.objs.size f cd).kindOf (ps.zip us) fun _=>none) (cellsFrom (s.heap.objs.size+1) scope.names []) (bindC (envOfC qual scope s.heap.objs.size f cd).kindOf (ps.zip us) fun _=>none) s1) :
  Inv (cM CX P w K mg base N qual scope f cd A outer s H E) [] (start N vs) H s1:=by
 have hpl:ps.length<=N.length:=by have:=congrArg List.length S.pre;rw [Le] at this;lia
 obtain ⟨h1,tk,rfl,hk⟩:=x.done
 have noA:∀ b:Addr,b∉(cM CX P w K mg base N qual scope f cd A outer s H E).ex:=fun b z=>absurd (show b∈([]:List Addr) from z) (by simp)
 refine ⟨⟨e0.mod,S.kind,rfl,rfl,Kj _,fun y z c h1 h2=>?_,fun y hy=>?_,fun y c _ h=>?_,fun _=>hd,Around.frames_deeper e0.frames,.inr ⟨rfl,rfl⟩,fun b z=>absurd z (noA b),e0.bs,e0.bsz,fun b _ _=>noA b,fun b z=>absurd z (noA b),e0.funs,e0.frf⟩,
  rfl,e0.bare,Un.kept hk,⟨_,x.toInCall.ns,fun i y v h1 h2 h3=>?_⟩,fun y c h=>⟨_,x.cell y c h⟩,e0.hok.fresh (Kj _),fun y c h=>?_,fun p hp=>absurd (show p∈([]:List (Addr×Obj)) from hp) (by simp),e0.hok.kept hk,?_⟩
 ·exact name_of_addr x.apart (Ly h1) (Ly h2)
 ·have hy:scope.names.lookup y=some .cell\/scope.names.lookup y=some .free:=hy
  rcases hy with hy | hy
  ·exact v9 hy
  ·exact absurd rfl (S.nofree _ (Ly hy))
 ·exact Mg (x.above y c (Ly h))
 ·have hi:i<vs.length:=by
   unfold start at h2
   by_cases hi:i<vs.length
   ·exact hi
   ·rw [K2 (by simpa using hi)] at h2
    rw [Mu] at h2;split at h2<;>cases h2
  have ha:vs[i]? = some v:=by
   unfold start at h2
   rw [Ki (by simpa using hi),K6] at h2
   cases e:vs[i]? with
   | none=>rw [e] at h2;cases h2
   | some a=>rw [e] at h2;cases h2;rfl
  obtain ⟨u,hu,rv⟩:=r.get ha
  have hp:ps[i]? = some y:=by
   rw [<- S.pre,List.getElem?_take_of_lt (by lia)];exact h1
  have ndP:ps.Nodup:=by rw [<- S.pre];exact S.nd.sublist (List.take_sublist _ _)
  refine ⟨u,rv,?_⟩
  rcases S.par y (KQ hp) with k | k
  ·exact .inl ⟨k,v7 ndP hp hu k⟩
  ·obtain ⟨c,e⟩:=v9 (n:=s.heap.objs.size+1) k
   refine .inr ⟨.inl k,c,e,?_⟩
   have q:=x.cell y c e
   rw [v8 ndP hp hu (by show scope.names.lookup y≠_;rw [k];decide)] at q
   exact q
 ·exact e0.hok.fresh (Mg (x.above y c (Ly h)))
 ·unfold start
  show _=N.length
  rw [Kq,Kv,List.length_replicate];lia
theorem Ce {CX:fV} {P:Program} {w:World} {K:PySem.W.Frag} {mg:Str->Option Value} {base:Heap} {k:Nat} {f:Addr} {name qual:Str} {params:Arguments} {body:List Stmt} {scope:Scope} {dV kV doc pm cdv ct oc:Value} {an od:Option Addr}
  {osl:Array (Option Value)} {N ps:List Str} {sp:Sp} (lk:K.lookup f=some ⟨oc,od,.func (PySem.W.fnOf name qual params body scope dV kV doc pm an cdv ct),osl⟩) (hcd:PySem.W.codeIn K cdv qual=true) (S:aq N ps scope)
  (len:∀ vs H Q E,sp vs H Q E->vs.length=ps.length)
  (hbody:∀ (A:Around) (outer:List Env) (s:Shared) (H:Hp) (vs:List V) (Q:VK) (E:XK),Room k (A.deeper (envOfC qual scope s.heap.objs.size f cdv))->sp vs H Q E ->
   ∃ t,gL (cM CX P w K mg base N qual scope f cdv A outer s H E) body t/\t { nx:=fun _ H' => Q .non H',rt:=Q } (start N vs) H) :
  FnOk P w K mg base CX (k+1) f (PySem.W.fnOf name qual params body scope dV kV doc pm an cdv ct) ps sp:=by
 refine ⟨len,fun A outer s H args us vs Q E hr e0 hb r hsp=>?_⟩
 have hl:=len _ _ _ _ hsp
 have KX:K.In s.heap:=e0.mod.kin.keeps fun b o e=>(e0.bs b o e).1
 have lim:s.heap.NoLimit:=e0.mod.nolimit.keeps fun b o e=>(e0.bs b o e).1
 have hkind:∀ y∈ps.zip us,scope.names.lookup y.1=some .local\/(scope.names.lookup y.1=some .cell/\((cellsFrom (s.heap.objs.size+1) scope.names []).lookup y.1).isSome=true):=fun ⟨n,v⟩ hy=>by
  rcases S.par n (NC hy).1 with q | q
  ·exact .inl q
  ·exact .inr ⟨q,Nm _ _ _ (.inl q)⟩
 refine codeAny_call_function hr.depth (KX _ _ lk) rfl S.co S.gen rfl (PySem.W.codeRec_of KX hcd) (hb _ _ _ _ ?_)
 refine wpAny_newFunctionEnv_cells S.kind hkind fun env he s1 x=>?_
 subst he;refine ⟨lim.keeps x.toInCall.keep,codeAny_func ?_⟩
 obtain ⟨t,ht,hq⟩:=hbody A outer s H vs Q E (hr.deeper _) hsp
 have I:Inv (cM CX P w K mg base N qual scope f cdv A outer s H E) [] (start N vs) H s1:=Cd S hr.hd e0 hl r x
 refine Lc (ht [] s1 (start N vs) H _ I hq) (fun fl s' hs=>?_) fun e s' hs=>hs
 have fin:∀ {σ':St} {H':Hp} {v:V} {u:Value},Inv (cM CX P w K mg base N qual scope f cdv A outer s H E) [] σ' H' s'->RelV v u->Q v H'->CE outer P w H s Q u s' :=
  fun {σ' H' v u} J rv q=>⟨v,H',J.os,J.bare,J.base,J.hok,rv,q⟩
 cases fl with
 | ret u =>
  obtain ⟨v,σ',H',J,rv,q⟩:=hs
  exact fin J rv q
 | next =>
  obtain ⟨σ',H',J,q⟩:=hs
  exact fin (v:=V.non) (u:=Value.none) J rfl q
 | brk =>
  obtain ⟨_,_,_,q⟩:=hs
  exact False.elim q
 | cont =>
  obtain ⟨_,_,_,q⟩:=hs
  exact False.elim q
end L2
namespace L2
open PySem PySem.Spec PyProof.Rows
section
variable {X:Cx} {x:Str} {p pos:Pos} {e:Expr} {es:List Expr} {t:TA} {id T:String} {r:List V->Hp->VK->Prop}
def rg (r:List V->Hp->VK->Prop) (t:TA):TE:=fun σ H Q=>t σ H fun vs H1=>r vs H1 Q
theorem wa (hc:CallR X (.builtin id) r) (hg:Gl X x) (hm:X.mg x=none) (hv:bootBuiltins x=some (.builtin id)) (ha:PA X (e::es) t) (hn:x ≠ "__name__" := by decide) (hdb:(x == ("__debug__" : Str))=false:=by decide)
  (he:starEach (e::es) X.env=(false,eval e X.env)::starEach es X.env:=by rfl) (hpl:(backTo pos (starEach es X.env)).any (·.1)=false:=by rfl):PE X (.Call (.Name x p) (e::es) [] pos) (rg r t):=by
 intro pins s σ H Q I h
 refine Mt (ki I hg hm hv ?_ hn hdb)
 exact PyProof.Rows.callWith_builtin1 (thn (ha pos pins s σ H _ I h) fun us s1 ⟨vs,H1,I1,r1,q1⟩=>hc pins s1 σ H1 vs us Q I1 r1 q1) he hpl
theorem Cf (hc:CallR X (.type T) r) (hg:Gl X x) (hm:X.mg x=none) (hv:bootBuiltins x=some (.type T)) (ha:PA X (e::es) t) (hn:x ≠ "__name__" := by decide) (hdb:(x == ("__debug__" : Str))=false:=by decide)
  (he:starEach (e::es) X.env=(false,eval e X.env)::starEach es X.env:=by rfl) (hpl:(backTo pos (starEach es X.env)).any (·.1)=false:=by rfl):PE X (.Call (.Name x p) (e::es) [] pos) (rg r t):=by
 intro pins s σ H Q I h
 refine Mt (ki I hg hm hv ?_ hn hdb)
 exact Lw (thn (ha pos pins s σ H _ I h) fun us s1 ⟨vs,H1,I1,r1,q1⟩=>hc pins s1 σ H1 vs us Q I1 r1 q1) he hpl
end
end L2
namespace HT
open PySem PyProof.Rows
section
open PySem.SeqAt
open PySem.AutoSeq1 (wpAny_loadPart')
open PySem.MeetsSeq PySem.MeetsSeq2 PySem.MeetsSeq3
end
section
variable {prog:Program} {w:World} {A:Around} {E:Value->Shared->Prop} {s:Shared}
theorem cat_tup {t b:Addr} {vs ws:List Value} {Q:Value->Shared->Prop} (ht:IsTup s.heap t vs.toArray) (hb:IsTup s.heap b ws.toArray) (hv:vs≠[])
  (h1:ws=[]->Q (.ref t) s) (h2:ws≠[]->Q (.ref s.heap.objs.size) { s with heap:=s.heap.push { cls:=.type "tuple",data:=.seq (vs++ws).toArray } })
  (hsz:vs.length+ws.length<=sizeLine):wpAny (model prog w) A (binaryOp .Add (.ref t) (.ref b)) Q E s:=by
 obtain ⟨⟨cls,dd,data,sl⟩,ho,hc,n,hd⟩:=id ht
 obtain ⟨⟨cls2,dd2,data2,sl2⟩,ho2,hc2,n2,hd2⟩:=id hb
 simp only at hc hd hc2 hd2
 subst hc hd hc2 hd2
 have e:vs.toArray++ws.toArray=(vs++ws).toArray:=by simp
 by_cases hw:ws=[]
 ·exact Oo ⟨_,ho,rfl⟩ ⟨_,ho2,rfl⟩ noFill_tuple_add seq_tuple_add Nn Nf (M8 _ _)
   (tuple_addW1 t b vs.toArray ws.toArray n n2 dd dd2 sl sl2 (by simpa using hv) (by simp [hw])) ⟨ho,ho2,h1 hw⟩
 ·refine Oo ⟨_,ho,rfl⟩ ⟨_,ho2,rfl⟩ noFill_tuple_add seq_tuple_add Nn Nf (M8 _ _)
   (tuple_addW2 t b vs.toArray ws.toArray n n2 dd dd2 sl sl2 (by simpa using hv) (by simpa using hw) (by rw [Ks,Ks];exact hsz)) ⟨ho,ho2,?_⟩
  rw [e];exact h2 hw
def sIx (n d:Nat):Option Int->Nat
 | none=>d
 | some v=>if v<0 then (v+(n:Int)).toNat else min v.toNat n
theorem sIx_none (n d:Nat):sIx n d none=d:=rfl
theorem sIx_nat (n d k:Nat):sIx n d (some (k:Int))=min k n:=by
 show (if (k:Int)<0 then ((k:Int)+(n:Int)).toNat else min (k:Int).toNat n)=min k n
 rw [KF (by lia),Int.toNat_natCast]
theorem sIx_le (n d:Nat) (hd:d<=n) (o:Option Int):sIx n d o<=n:=by
 cases o with
 | none=>exact hd
 | some v =>
  show (if v<0 then (v+(n:Int)).toNat else min v.toNat n)<=n
  by_cases hv:v<0
  ·rw [Ku hv];lia
  ·rw [KF hv];exact Nat.min_le_right _ _
theorem wb (v:Int) (n d:Nat):(if v<0 then max (v+(n:Int)) 0 else min v (n:Int))=((sIx n d (some v):Nat):Int):=by
 show (if v<0 then max (v+(n:Int)) 0 else min v (n:Int))=(((if v<0 then (v+(n:Int)).toNat else min v.toNat n):Nat):Int)
 by_cases hv:v<0
 ·simp only [Ku hv];lia
 ·simp only [KF hv];lia
theorem Cg (lo hi:Option Int) (n:Nat):Builtin.Slice.sliceAdjust lo hi 1 (n:Int)=(((sIx n 0 lo:Nat):Int),((sIx n n hi:Nat):Int)):=by
 have h1 : ¬ ((1:Int)<0):=by lia
 unfold Builtin.Slice.sliceAdjust
 simp only [h1,Oq]
 refine Prod.ext ?_ ?_
 ·cases lo with
  | none=>rfl
  | some v=>exact wb v n 0
 ·cases hi with
  | none=>rfl
  | some v=>exact wb v n n
theorem Ci (i j:Nat):Builtin.Slice.slicePlaces (i:Int) (j:Int) 1=j-i:=by
 unfold Builtin.Slice.slicePlaces
 have h1:(1:Int) > 0:=by lia
 simp only [h1,Lp,Int.ediv_one]
 split<;>lia
theorem wc {v:Value} {o:Option Int} {Q:Option Int->Shared->Prop} (p:IsPart v o) (h:Q o s):wpAny (model prog w) A (Builtin.Slice.slicePartIndex v) Q E s:=by
 cases p with
 | none=>exact slicePart_none h
 | int i t=>exact slicePart_int h
theorem Cj {sl:Addr} {vl vu:Value} {lo hi:Option Int} {n:Nat} {Q:Int×Int×Nat->Shared->Prop} (hs:s.heap.IsSliceOf sl vl vu .none) (pl:IsPart vl lo) (pu:IsPart vu hi)
  (h:Q (((sIx n 0 lo:Nat):Int),1,sIx n n hi-sIx n 0 lo) s):wpAny (model prog w) A (Builtin.Slice.sliceApplied (.ref sl) (pure (n:Int))) Q E s:=by
 obtain ⟨os,hos,hcs,hds⟩:=id hs
 unfold Builtin.Slice.sliceApplied Builtin.Slice.sliceFields
 refine KC (KC (NT hos hds (x:=vl) rfl (KC (NT hos hds (x:=vu) rfl (KC (NT hos hds (x:=.none) rfl (K0 ?_)))))))
 refine KC (slicePart_none ?_)
 show wpAny _ _ (if ((1:Int) == 0)=true then _ else _) _ _ s
 rw [KF (by decide)]
 refine KC (wc pl (KC (wc pu (KC (K0 ?_)))))
 show wpAny _ _ (match Builtin.Slice.sliceAdjust lo hi 1 (n:Int) with | (lo,hi)=>pure (lo,(1:Int),Builtin.Slice.slicePlaces lo hi 1)) _ _ s
 rw [Cg lo hi n];show wpAny _ _ (pure (((sIx n 0 lo:Nat):Int),(1:Int),Builtin.Slice.slicePlaces ((sIx n 0 lo:Nat):Int) ((sIx n n hi:Nat):Int) 1)) _ _ s
 rw [Ci];exact K0 h
theorem Ck (xs:Array Value) (i k:Nat):((List.range k).filterMap fun (m:Nat)=>xs[((i:Int)+(m:Int)*1).toNat]?).toArray=((xs.toList.drop i).take k).toArray:=by
 have e:(fun (m:Nat)=>xs[((i:Int)+(m:Int)*1).toNat]?)=fun m=>xs[i+m]? := by
  funext m
  have:((i:Int)+(m:Int)*1).toNat=i+m:=by lia
  rw [this]
 rw [e];have:=pick_run xs i k
 rw [MT] at this;have e2:((fun x=>xs[x]?) ∘ fun x=>i+x)=fun m=>xs[i+m]? := rfl
 rw [e2] at this;rw [this]
theorem getItem_tuple_cut {t sl:Addr} {items:Array Value} {vl vu:Value} {lo hi:Option Int} {Q:Value->Shared->Prop} (ht:IsTup s.heap t items) (hs:s.heap.IsSliceOf sl vl vu .none) (pl:IsPart vl lo) (pu:IsPart vu hi)
  (hw : ¬ (sIx items.size 0 lo=0/\sIx items.size items.size hi=items.size))
  (h:Q (.ref s.heap.objs.size) { s with heap:=s.heap.push { cls:=.type "tuple",data:=.seq ((items.toList.drop (sIx items.size 0 lo)).take (sIx items.size items.size hi-sIx items.size 0 lo)).toArray } })
  (hsz:items.size<=sizeLine):wpAny (model prog w) A (getItem (.ref t) (.ref sl)) Q E s:=by
 have htake:sizeOk (.seq ((items.toList.drop (sIx items.size 0 lo)).take (sIx items.size items.size hi-sIx items.size 0 lo)).toArray):=by
  show ((items.toList.drop (sIx items.size 0 lo)).take (sIx items.size items.size hi-sIx items.size 0 lo)).toArray.size<=sizeLine
  rw [Ks,Le,Lh,Mm];omega
 have hj:sIx items.size items.size hi<=items.size:=sIx_le _ _ (Kj _) hi
 obtain ⟨os,hos,hcs,hds⟩:=id hs
 have hTs:s.TypeIs (.ref sl) "slice" := ⟨os,hos,hcs⟩
 unfold getItem
 try with_reducible refine Na ?_
 first | refine KC (K0 ?_) | skip
 refine KC (wpAny_sequenceKey ht.typeIs (by decide) ?_)
 refine KC (wpAny_callSpecial?_slot (name:=Str.ofString "__getitem__") ht.typeIs MA
  (Nk MA ht.typeIs entry_tuple_getitem ?_ (args_tuple_getitem _ _)))
 show wpAny _ _ (Builtin.Tuple.tupleItemsOf (.ref t) >>= _) _ _ s
 refine KC (tupleItemsOf_ ht ?_)
 refine KC (wpAny_typeOf hTs ?_)
 rw [Ku (by decide)]
 refine KC (Cj hs pl pu ?_)
 have hno : ¬ ((((sIx items.size 0 lo:Nat):Int) == 0 && (1:Int) == 1 && (sIx items.size items.size hi-sIx items.size 0 lo) == items.size)=true):=by
  intro q
  rw [Lr,Lr] at q;have q1:((sIx items.size 0 lo:Nat):Int)=0:=eq_of_beq q.1.1
  have q2:sIx items.size items.size hi-sIx items.size 0 lo=items.size:=eq_of_beq q.2
  exact hw ⟨by omega,by omega⟩
 show wpAny _ _ (if (((sIx items.size 0 lo:Nat):Int) == 0 && (1:Int) == 1 && (sIx items.size items.size hi-sIx items.size 0 lo) == items.size)=true then _ else _) _ _ s
 rw [KF hno,Ck];first
  | exact KC (m:=Builtin.Tuple.tupleExact _) (LZ (K0 ⟨_,rfl,K0 h⟩) htake)
  | exact KC (m:=Builtin.Tuple.tupleExact _) (LZ (KC (K0 (K0 ⟨_,rfl,K0 h⟩))) htake)
  | exact KC (KC (m:=Builtin.Tuple.tupleExact _) (LZ (K0 (K0 ⟨_,rfl,K0 h⟩)) htake))
  | exact KC (KC (m:=Builtin.Tuple.tupleExact _) (LZ (K0 ⟨_,rfl,K0 h⟩) htake))
end
end HT
namespace L2
open PySem PySem.Spec PyProof.Rows
abbrev TO:=St->Hp->(Option Int->Hp->Prop)->Prop
def PO (X:Cx) (e:Option Expr) (t:TO):Prop :=
 ∀ (pins:List (Addr×Obj)) (s:Shared) (σ:St) (H:Hp) (Q:Option Int->Hp->Prop),Inv X pins σ H s->t σ H Q ->
  wpAny (model X.prog X.w) X.A (evalPart e X.env) (fun u s' => ∃ o H',Inv X pins σ H' s'/\IsPart u o/\Q o H') X.xe s
def wd:TO:=fun _ H Q=>Q none H
def we (t:TE):TO:=fun σ H Q=>t σ H fun x H1=>∃ i,x = .int i/\Q (some i) H1
section
variable {X:Cx} {e:Expr} {te:TE} {lo hi:Option Expr} {tl th:TO} {pos p2:Pos}
theorem Cm:PO X none wd:=by
 intro pins s σ H Q I h
 rw [evalPart_none];exact K0 ⟨none,H,I,.none,h⟩
theorem Cn (h:PE X e te):PO X (some e) (we te):=by
 intro pins s σ H Q I hw
 rw [evalPart_some];refine thn (h pins s σ H _ I hw) fun u s1 ⟨x,H1,I1,r1,q1⟩=>?_
 obtain ⟨i,rfl,q⟩:=q1
 obtain ⟨t,rfl⟩:=r1
 exact ⟨some i,H1,I1,.int i t,q⟩
def SlR (X:Cx) (r:V->Option Int->Option Int->Hp->VK->Prop):Prop :=
 ∀ (pins:List (Addr×Obj)) (s:Shared) (σ:St) (H:Hp) (x:V) (v vl vu:Value) (lo hi:Option Int) (sl:Addr) (Q:VK),Inv X pins σ H s->RelV x v->s.heap.IsSliceOf sl vl vu .none->IsPart vl lo->IsPart vu hi->r x lo hi H Q ->
  ∃ T id,typeLookup (.type T) "__getitem__" = pure (some (.builtin id))/\s.TypeIs v T/\wpAny (model X.prog X.w) X.A (getItem v (.ref sl)) (EP X pins σ Q) X.xe s
theorem SlR.or {r r':V->Option Int->Option Int->Hp->VK->Prop} (h:SlR X r) (h':SlR X r'):SlR X (fun x lo hi H Q=>r x lo hi H Q\/r' x lo hi H Q):=by
 intro pins s σ H x v vl vu lo hi sl Q I rx hs pl pu q
 rcases q with q | q
 ·exact h pins s σ H x v vl vu lo hi sl Q I rx hs pl pu q
 ·exact h' pins s σ H x v vl vu lo hi sl Q I rx hs pl pu q
def Co (r:V->Option Int->Option Int->Hp->VK->Prop) (te:TE) (tl th:TO):TE:=fun σ H Q=>te σ H fun x H1=>tl σ H1 fun l H2=>th σ H2 fun u H3=>r x l u H3 Q
theorem Cp {r:V->Option Int->Option Int->Hp->VK->Prop} (hr:SlR X r) (he:PE X e te) (hl:PO X lo tl) (hu:PO X hi th):PE X (.Subscript e (.Slice lo hi none p2) pos) (Co r te tl th):=by
 intro pins s σ H Q I h
 refine Subscript_ (thn (he pins s σ H _ I h) fun v s1 ⟨x,H1,I1,r1,q1⟩=>?_)
 refine wpAny_Slice (thn (hl pins s1 σ H1 _ I1 q1) fun vl s2 ⟨l,H2,I2,pl,q2⟩=>thn (hu pins s2 σ H2 _ I2 q2) fun vu s3 ⟨u,H3,I3,pu,q3⟩=>?_)
 rw [evalPart_none];refine K0 ?_
 have I4:Inv X pins σ H3 { s3 with heap:=s3.heap.push { cls:=.type "slice",data:=.fields #[vl,vu,.none] } }:=I3.kept (t' := s3.toks) fun b ob q=>Kt _ q
 obtain ⟨T,id,hT,ht,hg⟩:=hr pins { s3 with heap:=s3.heap.push { cls:=.type "slice",data:=.fields #[vl,vu,.none] } } σ H3 x v vl vu l u s3.heap.objs.size Q I4 r1 (Heap.IsSliceOf.new ..) pl pu q3
 show wpAny (model X.prog X.w) X.A (subscriptTail e (.Slice lo hi none p2) v (.ref s3.heap.objs.size)) (EP X pins σ Q) X.xe { s3 with heap:=s3.heap.push { cls:=.type "slice",data:=.fields #[vl,vu,.none] } }
 exact tail_any (ops:=[.ref s3.heap.objs.size,v]) ht hT hg (by with_unfolding_all rfl)
def fg (xs:List V) (lo hi:Option Int):List V:=(xs.drop (HT.sIx xs.length 0 lo)).take (HT.sIx xs.length xs.length hi-HT.sIx xs.length 0 lo)
theorem wg (xs:List V) (lo hi:Option Int):(fg xs lo hi).length<=xs.length:=by
 unfold fg
 rw [Le,Lh];lia
def rh (K:PySem.W.Frag):V->Option Int->Option Int->Hp->VK->Prop:=fun x lo hi H Q=>∃ a xs,x = .ref a/\SqT K H a xs /\
 ¬ (HT.sIx xs.length 0 lo=0/\HT.sIx xs.length xs.length hi=xs.length)/\∀ p,H p=none->Q (.ref p) (aJ H p (.tup (fg xs lo hi)))
theorem sl_tup:SlR X (rh X.K):=by
 intro pins s σ H x v vl vu lo hi sl Q I rx hs pl pu h
 obtain ⟨a,xs,rfl,hx,hw,q⟩:=h
 cases rx
 obtain ⟨its,r,ht,hz⟩:=I.tuple hx
 have hlen:its.toArray.size=xs.length:=by rw [Ks];exact r.length.symm
 refine ⟨"tuple",_,PyProof.Rows.slot_tuple_getitem.lookup,ht.typeIs,?_⟩
 refine HT.getItem_tuple_cut ht hs pl pu (by rw [hlen];exact hw) ?_ (by rw [hlen];exact hz)
 rw [hlen];refine ⟨.ref s.heap.objs.size,_,I.laid (t' := s.toks) (o:=.tup (fg xs lo hi)) (fun b ob q=>Kt _ q) (Kj _) ?_,rfl,q _ (I.hok.fresh (Kj _))⟩
 exact ⟨Kn (wg xs lo hi) hz,_,(r.drop (HT.sIx xs.length 0 lo)).take (HT.sIx xs.length xs.length hi-HT.sIx xs.length 0 lo),IsTup.new _ _⟩
def Cq (K:PySem.W.Frag):R2:=fun x y H Q=>∃ a b xs ys,x = .ref a/\y = .ref b/\SqT K H a xs/\SqT K H b ys/\xs≠[]/\xs.length+ys.length<=sizeLine /\
 (ys=[]->Q (.ref a) H)/\(ys≠[]->∀ p,H p=none->Q (.ref p) (aJ H p (.tup (xs++ys))))
theorem Vals.nil_iff {xs:List V} {us:List Value} (r:Vals xs us):us=[] ↔ xs=[]:=by
 cases r with
 | nil=>simp
 | cons _ _=>simp
theorem zi0:OpR X (binaryOp .Add) (Cq X.K):=by
 intro pins s σ H x y v u Q I rx ry h
 obtain ⟨a,b,xs,ys,rfl,rfl,ha,hb,hx,hz,q1,q2⟩:=h
 cases rx
 cases ry
 obtain ⟨its,r1,p1,_⟩:=I.tuple ha
 obtain ⟨its2,r2,p2,_⟩:=I.tuple hb
 refine HT.cat_tup p1 p2 (fun z=>hx (r1.nil_iff.mp z)) (fun z=>⟨.ref a,H,I,rfl,q1 (r2.nil_iff.mp z)⟩) (fun z=>?_) (by rw [<- r1.length,<- r2.length];exact hz)
 refine ⟨.ref s.heap.objs.size,_,I.laid (t' := s.toks) (o:=.tup (xs++ys)) (fun b ob q=>Kt _ q) (Kj _) ?_,rfl,q2 (fun w=>z (r2.nil_iff.mpr w)) _ (I.hok.fresh (Kj _))⟩
 exact ⟨by rw [Kq];exact hz,_,r1.append r2,IsTup.new _ _⟩
end
end L2
namespace L2
open PySem PySem.Spec PyProof.Rows
def gs (n:Nat) (i:Int):Option Nat:=if 0<=i then (if i<n then some i.toNat else none) else if -(n:Int)<=i then some (i+n).toNat else none
def atI {α:Type} (xs:List α) (i:Int):Option α:=(gs xs.length i).bind fun j=>xs[j]?
theorem wj {n:Nat} {i:Int} {j:Nat} (h:gs n i=some j):seqIndex? i n=some j/\j<n /\ -(n:Int)<=i/\i<n:=by
 unfold gs at h
 by_cases h0:0<=i
 ·rw [Ku h0] at h
  by_cases h1:i<n
  ·rw [Ku h1] at h
   have e:i.toNat=j:=K4 h
   exact ⟨by rw [seqIndex_of h0 h1,e],by lia,by lia,h1⟩
  ·rw [KF h1] at h;cases h
 ·rw [KF h0] at h
  by_cases h1 : -(n:Int)<=i
  ·rw [Ku h1] at h
   have e:(i+n).toNat=j:=K4 h
   exact ⟨by rw [Os (by lia) h1,e],by lia,h1,by lia⟩
  ·rw [KF h1] at h;cases h
theorem oM {α:Type} {xs:List α} {i:Int} {v:α} (h:atI xs i=some v):∃ j,seqIndex? i xs.length=some j/\xs[j]? = some v/\j<xs.length /\ -(xs.length:Int)<=i/\i<xs.length:=by
 unfold atI at h
 cases e:gs xs.length i with
 | none=>rw [e] at h;cases h
 | some j =>
  rw [e] at h;obtain ⟨h1,h2,h3,h4⟩:=wj e
  exact ⟨j,h1,h,h2,h3,h4⟩
theorem rj {α:Type} {xs:List α} {j:Nat} {v:α} (h:xs[j]? = some v):atI xs (j:Int)=some v:=by
 have hj:j<xs.length:=(Kh.mp h).1
 have e:gs xs.length (j:Int)=some j:=by
  unfold gs
  rw [Ku (by lia),Ku (by lia)];simp
 unfold atI;rw [e];exact h
theorem Cr {α:Type} (xs:List α) (v:α):atI (xs++[v]) (-1)=some v:=by
 have hl:(xs++[v]).length=xs.length+1:=by simp
 have e:gs (xs++[v]).length (-1)=some xs.length:=by
  unfold gs
  rw [hl,KF (by decide),Ku (by lia)]
  congr 1
  lia
 unfold atI
 rw [e];show (xs++[v])[xs.length]? = some v
 simp
def wk (b:Expr):Prop:=∀ o i,subscripted b false o i=operate [o,i] (getItem o i)
def IxR (X:Cx) (r:R2):Prop :=
 ∀ (value slice:Expr) (pins:List (Addr×Obj)) (s:Shared) (σ:St) (H:Hp) (x y:V) (v u:Value) (Q:VK),Inv X pins σ H s->RelV x v->RelV y u->r x y H Q ->
  subscripted slice false v u=operate [v,u] (getItem v u)->wpAny (model X.prog X.w) X.A (subscriptTail value slice v u) (EP X pins σ Q) X.xe s
def eg (X:Cx) (id:String) (r:V->List V->Hp->VK->Prop):Prop :=
 ∀ (pins:List (Addr×Obj)) (s:Shared) (σ:St) (H:Hp) (x:V) (xs:List V) (v:Value) (us:List Value) (Q:VK),Inv X pins σ H s->RelV x v->Vals xs us->r x xs H Q ->
  wpAny (model X.prog X.w) X.A (call (.builtin id) (v::us)) (EP X pins σ Q) X.xe s
section
variable {X:Cx} {a b:Expr} {ta tb:TE} {pos:Pos}
theorem IxR.or {r r':R2} (h:IxR X r) (h':IxR X r'):IxR X (fun x y H Q=>r x y H Q\/r' x y H Q):=by
 intro value slice pins s σ H x y v u Q I rx ry q hs
 rcases q with q | q
 ·exact h value slice pins s σ H x y v u Q I rx ry q hs
 ·exact h' value slice pins s σ H x y v u Q I rx ry q hs
theorem Ct {r:R2} (hr:IxR X r) (ha:PE X a ta) (hb:PE X b tb) (hs:wk b):PE X (.Subscript a b pos) (lH r ta tb):=by
 intro pins s σ H Q I h
 exact Subscript_ (kn ha hb I h fun v u s2 x y H2 I2 rx ry q=>hr a b pins s2 σ H2 x y v u Q I2 rx ry q (hs _ _))
def mK (K:PySem.W.Frag):R2:=fun x y H Q=>∃ p xs i v,x = .ref p/\y = .int i/\SqL K H p xs/\atI xs i=some v/\Q v H
def mL (K:PySem.W.Frag):R2:=fun x y H Q=>∃ p xs i v,x = .ref p/\y = .int i/\SqT K H p xs/\atI xs i=some v/\Q v H
def mM:R2:=fun x y H Q=>∃ z i c,x = .str z/\y = .int i/\z.length<=sizeLine/\atI z.cps.toList i=some c/\Q (.str ⟨#[c]⟩) H
theorem zi1:IxR X (mK X.K):=by
 intro value slice pins s σ H x y v u Q I rx ry h hs
 obtain ⟨p,xs,i,z,rfl,rfl,hq,he,q⟩:=h
 cases rx
 obtain ⟨t,rfl⟩:=ry
 obtain ⟨its,r,pl,hz⟩:=I.list hq
 obtain ⟨j,h1,h2,h3,h4,h5⟩:=oM he
 obtain ⟨w,ew,rw'⟩:=r.get h2
 have hl:=r.length
 have hn:=kq
 have fin:EP X pins σ Q w s:=⟨z,H,I,rw',q⟩
 by_cases h0:0<=i
 ·have hj:i.toNat=j:=by
   rw [seqIndex_of h0 h5] at h1;exact K4 h1
  exact item_listR pl.isList h0 (by lia) (by rw [hj];simpa using ew) fin hs
 ·have hj:(i+(its.toArray.size:Int)).toNat=j:=by
   rw [Os (by lia) h4] at h1
   rw [Ks,<- hl];exact K4 h1
  exact Nx (x:=w) pl.isList.typeIs slot_list_getitem.lookup
   (wpAny_getItem_list_neg (Q:=fun r s' => r=w/\EP X pins σ Q r s') pl.isList (by lia) (by rw [Ks]<;>lia) (by lia) (by rw [hj];simpa using ew) ⟨rfl,fin⟩) hs
theorem ix_tup:IxR X (mL X.K):=by
 intro value slice pins s σ H x y v u Q I rx ry h hs
 obtain ⟨p,xs,i,z,rfl,rfl,hq,he,q⟩:=h
 cases rx
 obtain ⟨t,rfl⟩:=ry
 obtain ⟨its,r,pl,hz⟩:=I.tuple hq
 obtain ⟨j,h1,h2,h3,h4,h5⟩:=oM he
 obtain ⟨w,ew,rw'⟩:=r.get h2
 have hl:=r.length
 have hn:=kq
 have fin:EP X pins σ Q w s:=⟨z,H,I,rw',q⟩
 exact Nx (x:=w) pl.typeIs slot_tuple_getitem.lookup
  (getItem_tuple (j:=j) (Q:=fun r s' => r=w/\EP X pins σ Q r s') pl (by lia) (by lia) (by rw [Ks,<- hl];exact h1) (by simpa using ew) ⟨rfl,fin⟩) hs
theorem Cu:IxR X mM:=by
 intro value slice pins s σ H x y v u Q I rx ry h hs
 obtain ⟨z,i,c,rfl,rfl,hz,he,q⟩:=h
 obtain ⟨t,rfl⟩:=rx
 obtain ⟨t',rfl⟩:=ry
 obtain ⟨j,h1,h2,h3,h4,h5⟩:=oM he
 have hl:z.cps.toList.length=z.length:=by simp [Str.length]
 rw [hl] at h1 h4 h5;have hn:=kq
 exact tail_any (Ny s z t) slot_str_getitem.lookup (getItem_str (c:=c) (by
  have e1:decide (i < -(2 ^ 63:Int))=false:=KH (by lia)
  have e2:decide (i ≥ 2 ^ 63)=false:=KH (by lia)
  rw [e1,e2,Bool.or_false]) (by rw [h1];simpa using h2) ⟨.str ⟨#[c]⟩,H,I.tok _,⟨_,rfl⟩,q⟩) hs
def wm (K:PySem.W.Frag):R2:=fun x y H Q=>mK K x y H Q\/mL K x y H Q\/mM x y H Q
theorem Cv:IxR X (wm X.K):=zi1.or (ix_tup.or Cu)
theorem Cw (its:List Value) (n j:Nat) (u:Value):Obj.mapSeq (·.setIfInBounds j u) { cls:=.type "list",data:=.seq its.toArray n }={ cls:=.type "list",data:=.seq (its.set j u).toArray n }:=by
 simp [Obj.mapSeq]
theorem Inv.lst {pins:List (Addr×Obj)} {σ:St} {H:Hp} {s:Shared} {p:Addr} {xs:List V} (I:Inv X pins σ H s) (h:H p=some (.lst xs)) :
  ∃ (its:List Value) (n:Nat),Vals xs its/\s.heap.get? p=some { cls:=.type "list",data:=.seq its.toArray n }/\xs.length<=sizeLine:=by
 obtain ⟨z,its,n,r,e⟩:=I.hok p _ h
 exact ⟨its,n,r,e,z⟩
theorem Inv.lstUpd {pins:List (Addr×Obj)} {σ:St} {H:Hp} {s:Shared} {p:Addr} {xs ys:List V} {its its':List Value} {n n':Nat} {f:Obj->Obj} (I:Inv X pins σ H s) (h:H p=some (.lst xs))
  (ho:s.heap.get? p=some { cls:=.type "list",data:=.seq its.toArray n }) (hf:f { cls:=.type "list",data:=.seq its.toArray n }={ cls:=.type "list",data:=.seq its'.toArray n' }) (r:Vals ys its') (hz:ys.length<=sizeLine) (t:Nat) :
  Inv X pins σ (aJ H p (.lst ys)) { s with heap:=s.heap.update p f,toks:=t }:=by
 have e:(s.heap.update p f).get? p=some { cls:=.type "list",data:=.seq its'.toArray n' }:=by
  rw [Heap.get?_update_self f ho (by rw [hf]<;>rfl),hf]
 refine I.write (x:=p) (e:=p) (by rw [h];trivial) (.inl rfl) (fun b u hb q=>(Np _ _ (Ne.symm hb)).trans q) ⟨_,e⟩ ?_
 exact ⟨hz,its',n',r,e⟩
def Cy:V->V->V->Hp->(Hp->Prop)->Prop:=fun o i v H Q=>∃ p xs k j,o = .ref p/\i = .int k/\H p=some (.lst xs)/\gs xs.length k=some j/\Q (aJ H p (.lst (xs.set j v)))
theorem Cz:mE X Cy:=by
 intro pins s σ H o i v ov iv u Q I ro ri rv h
 obtain ⟨p,xs,k,j,rfl,rfl,hp,hj,q⟩:=h
 cases ro
 obtain ⟨t,rfl⟩:=ri
 obtain ⟨its,n,r,ho,hz⟩:=I.lst hp
 obtain ⟨h1,h2,h3,h4⟩:=wj hj
 have hl:=r.length
 have hn:=kq
 have I':Inv X pins σ (aJ H p (.lst (xs.set j v))) { s with heap:=s.heap.update p (Obj.mapSeq (·.setIfInBounds j u)) } :=
  I.lstUpd hp ho (Cw its n j u) (r.set rv j) (by rw [Lm];exact hz) s.toks
 by_cases h0:0<=k
 ·have hk:k.toNat=j:=by
   rw [seqIndex_of h0 h4] at h1;exact K4 h1
  exact PySem.W.ki_setAt ho h0 (by lia) (by rw [Ks,<- hl];exact h4) (by rw [hk];exact ⟨_,I',q⟩)
 ·have hk:(k+(its.toArray.size:Int)).toNat=j:=by
   rw [Os (by lia) h3] at h1
   rw [Ks,<- hl];exact K4 h1
  exact PySem.W.ki_setBack ho (by lia) (by rw [Ks,<- hl];exact h3) (by lia) (by rw [hk];exact ⟨_,I',q⟩)
theorem CD (lo hi:Option Int) (n:Nat):(sliceBounds lo hi none n).1=((HT.sIx n 0 lo:Nat):Int)/\(sliceBounds lo hi none n).2.1=((HT.sIx n n hi:Nat):Int)/\(sliceBounds lo hi none n).2.2=1:=by
 refine ⟨?_,?_,rfl⟩
 ·cases lo with
  | none=>simp [sliceBounds,HT.sIx]
  | some i =>
   simp only [sliceBounds,HT.sIx,Option.getD_none,show (1:Int) > 0 by decide,Lp]
   by_cases h:i<0
   ·simp only [h,Lp]<;>lia
   ·simp only [h,Oq]<;>lia
 ·cases hi with
  | none=>simp [sliceBounds,HT.sIx]
  | some i =>
   simp only [sliceBounds,HT.sIx,Option.getD_none,show (1:Int) > 0 by decide,Lp]
   by_cases h:i<0
   ·simp only [h,Lp]<;>lia
   ·simp only [h,Oq]<;>lia
theorem CG (its:List Value) (lo hi:Option Int):slicePick its.toArray lo hi none=((its.drop (HT.sIx its.length 0 lo)).take (HT.sIx its.length its.length hi-HT.sIx its.length 0 lo)).toArray:=by
 obtain ⟨h1,h2,h3⟩:=CD lo hi its.toArray.size
 unfold slicePick
 rw [h1,h2,h3];simp only [sliceRange_one,pick_run,Ks]<;>rfl
def rk (K:PySem.W.Frag):V->Option Int->Option Int->Hp->VK->Prop:=fun x lo hi H Q=>∃ a xs,x = .ref a/\SqL K H a xs/\∀ p,H p=none->Q (.ref p) (aJ H p (.lst (fg xs lo hi)))
theorem zi2:SlR X (rk X.K):=by
 intro pins s σ H x v vl vu lo hi sl Q I rx hs pl pu h
 obtain ⟨a,xs,rfl,hx,q⟩:=h
 cases rx
 obtain ⟨its,r,ht,hz⟩:=I.list hx
 have hlen:=r.length
 refine ⟨"list",_,slot_list_getitem.lookup,ht.isList.typeIs,?_⟩
 refine wpAny_getItem_list_slice ht.isList hs pl pu .none (by simp) ?_ (by rw [Ks]<;>lia)
 rw [CG,<- hlen];refine ⟨.ref s.heap.objs.size,_,I.laid (t' := s.toks) (o:=.lst (fg xs lo hi)) (fun b ob q=>Kt _ q) (Kj _) ?_,rfl,q _ (I.hok.fresh (Kj _))⟩
 exact ⟨Kn (wg xs lo hi) hz,_,0,(r.drop (HT.sIx xs.length 0 lo)).take (HT.sIx xs.length xs.length hi-HT.sIx xs.length 0 lo),KZ _ rfl⟩
theorem zep:OpR X (compareOp .NotIn) (fun x y H Q=>∃ i j,x = .str i/\y = .str j/\Q (.bl (!(!(Builtin.Str.occurrences j i 0 j.length 1).isEmpty))) H):=by
 intro pins s σ H x y v u Q I rx ry h
 obtain ⟨i,j,rfl,rfl,q⟩:=h
 obtain ⟨t,rfl⟩:=rx
 obtain ⟨t',rfl⟩:=ry
 exact notIn_str ⟨.bl _,H,I,rfl,q⟩
theorem zeq:CallR X (.builtin "len") (fun xs H Q=>∃ p ys,xs=[.ref p]/\(SqL X.K H p ys\/SqT X.K H p ys)/\Q (.int ys.length) H):=by
 intro pins s σ H xs us Q I r h
 obtain ⟨p,ys,rfl,hq,q⟩:=h
 obtain ⟨u,rfl,rx⟩:=hZ r
 cases rx
 have hn:=kq
 rcases hq with hq | hq
 ·obtain ⟨its,r',pl,hz⟩:=I.list hq
  have hlen:=r'.length
  exact Calls.call_len_list pl.isList (by simp only [Ks]<;>lia) ⟨.int ys.length,H,I.tok _,⟨s.toks+1,by rw [Ks,hlen]⟩,q⟩
 ·obtain ⟨its,r',pl,hz⟩:=I.tuple hq
  have hlen:=r'.length
  exact len_tuple pl (by simp only [Ks]<;>lia) ⟨.int ys.length,H,I.tok _,⟨s.toks+1,by rw [Ks,hlen]⟩,q⟩
theorem zer:CallR X (.builtin "len") (fun xs H Q=>∃ z,xs=[.str z]/\z.length<=sizeLine/\Q (.int z.length) H):=by
 intro pins s σ H xs us Q I r h
 obtain ⟨z,rfl,hz,q⟩:=h
 obtain ⟨u,rfl,t,rfl⟩:=hZ r
 have hn:=kq
 exact len_str (by lia) ⟨.int z.length,H,I.tok _,⟨_,rfl⟩,q⟩
theorem CallR.or {f:Value} {r r':List V->Hp->VK->Prop} (h:CallR X f r) (h':CallR X f r'):CallR X f (fun xs H Q=>r xs H Q\/r' xs H Q):=by
 intro pins s σ H xs us Q I rs q
 rcases q with q | q
 ·exact h pins s σ H xs us Q I rs q
 ·exact h' pins s σ H xs us Q I rs q
theorem CH:CallR X (.type "list") (fun xs H Q=>∃ p ys,xs=[.ref p]/\(SqL X.K H p ys\/SqT X.K H p ys)/\∀ l,H l=none->Q (.ref l) (aJ H l (.lst ys))):=by
 intro pins s σ H xs us Q I r h
 obtain ⟨p,ys,rfl,hq,q⟩:=h
 obtain ⟨u,rfl,rx⟩:=hZ r
 cases rx
 have fin:∀ (its:List Value),Vals ys its->ys.length<=sizeLine->∀ (h':Heap) (c':Nat),(∀ b o',s.heap.get? b=some o'->h'.get? b=some o') ->
   h'.get? s.heap.objs.size=some { cls:=.type "list",dict:=none,data:=.seq its.toArray c',slots:=#[] }->EP X pins σ Q (.ref s.heap.objs.size) { s with heap:=h' }:=fun its r' hz h' c' kp e =>
  ⟨.ref s.heap.objs.size,_,I.laid (t' := s.toks) kp (Kj _) (show ObjOk X.prog X.w _ h' _ (.lst ys) from ⟨hz,its,c',r',e⟩),rfl,q _ (I.hok.fresh (Kj _))⟩
 rcases hq with hq | hq
 ·obtain ⟨its,r',pl,hz⟩:=I.list hq
  have hlen:=r'.length
  obtain ⟨o,ho,hc,n,hd⟩:=pl.isList
  exact call_list_seq p (.inl rfl) ho hc hd (fun h' c' kp e=>fin its r' hz h' c' kp e) (by simp only [Ks]<;>lia)
 ·obtain ⟨its,r',pl,hz⟩:=I.tuple hq
  have hlen:=r'.length
  obtain ⟨o,ho,hc,n,hd⟩:=pl
  exact call_list_seq p (.inr rfl) ho hc hd (fun h' c' kp e=>fin its r' hz h' c' kp e) (by simp only [Ks]<;>lia)
def oN (K:PySem.W.Frag) (T:String) (x:V) (H:Hp):Prop:=match x with
 | .str _=>T = "str"
 | .int _=>T = "int"
 | .ref p=>(T = "list" /\ ∃ xs,SqL K H p xs)\/(T = "tuple" /\ ∃ o,K.lookup p=some o/\o.cls = .type "tuple" /\ o.dict=none) \/
   (T = "dict" /\ ((∃ kvs,H p=some (.dK kvs))\/∃ kvs,H p=some (.dT kvs)))\/(T = "set" /\ ∃ S n,H p=some (.set S n))
 | _=>False
theorem wo {pins:List (Addr×Obj)} {σ:St} {H:Hp} {s:Shared} {T:String} {x:V} {v:Value} (I:Inv X pins σ H s) (r:RelV x v) (ty:oN X.K T x H) :
  s.TypeIs v T/\∀ a,v = .ref a->∃ ob,s.heap.get? a=some ob/\ob.dict=none:=by
 cases x with
 | str z =>
  obtain ⟨t,rfl⟩:=r
  cases (show T = "str" from ty)
  exact ⟨Ny s z t,fun _ e=>nomatch e⟩
 | int i =>
  obtain ⟨t,rfl⟩:=r
  cases (show T = "int" from ty)
  exact ⟨typeIs_int s i t,fun _ e=>nomatch e⟩
 | ref p =>
  cases r
  rcases ty with ⟨rfl,xs,hq⟩ | ⟨rfl,o,hk,hc,hd⟩ | ⟨rfl,hk⟩ | ⟨rfl,S,n,hk⟩
  ·obtain ⟨its,_,pl,_⟩:=I.list hq
   refine ⟨pl.isList.typeIs,fun a e=>?_⟩
   cases e
   obtain ⟨o,n,e,c,hd,_⟩:=pl
   exact ⟨o,e,hd⟩
  ·refine ⟨⟨o,I.kIn p o hk,hc⟩,fun a e=>?_⟩
   cases e
   exact ⟨o,I.kIn _ o hk,hd⟩
  ·have z:∃ o,s.heap.get? p=some o/\o.ExactDict:=by
    rcases hk with ⟨kvs,hk⟩ | ⟨kvs,hk⟩
    ·obtain ⟨_,_,_,_,o,_,_,e,ex,_⟩:=I.hok p _ hk
     exact ⟨o,e,ex⟩
    ·obtain ⟨_,_,_,_,o,_,_,e,ex,_⟩:=I.hok p _ hk
     exact ⟨o,e,ex⟩
   obtain ⟨o,e,ex⟩:=z
   refine ⟨⟨o,e,ex.1⟩,fun a e2=>?_⟩
   cases e2
   exact ⟨o,e,ex.2.1⟩
  ·obtain ⟨o,_,_,_,e,ex,_⟩:=I.hok p _ hk
   refine ⟨⟨o,e,ex.1⟩,fun a e2=>?_⟩
   cases e2
   exact ⟨o,e,ex.2.1⟩
 | _=>exact False.elim ty
def rm (K:PySem.W.Frag) (T:String) (r:V->List V->Hp->VK->Prop) (to:TE):TE:=fun σ H Q=>to σ H fun x H1=>oN K T x H1/\r x [] H1 Q
def CI (K:PySem.W.Frag) (T:String) (r:V->List V->Hp->VK->Prop) (to:TE) (t:TA):TE:=fun σ H Q=>to σ H fun x H1=>oN K T x H1/\t σ H1 fun xs H2=>r x xs H2 Q
variable {o e:Expr} {es:List Expr} {to:TE} {t:TA} {name:Str} {apos cpos:Pos} {T id:String} {r:V->List V->Hp->VK->Prop}
theorem CJ (pa:PlainAttrs T) (slot:Slot T name id) (hty:typeOf (.builtin id)=pure (.type "method_descriptor")) (hm:eg X id r) (ho:PE X o to)
  (hbase:attributeBase o name X.env (eval o X.env)=eval o X.env:=by rfl) (hline:(apos.endLine == cpos.line)=true:=by rfl):PE X (.Call (.Attribute o name apos) [] [] cpos) (rm X.K T r to):=by
 intro pins s σ H Q I h
 refine wpAny_Call_method0_late hbase hline (thn (ho pins s σ H _ I h) fun v s1 ⟨x,H1,I1,r1,ty,q1⟩=>?_)
 obtain ⟨h1,h2⟩:=wo I1 r1 ty
 exact ⟨T,id,pa,slot,hty,h1,h2,Nq rfl (PySem.evalArgs_none (hm pins s1 σ H1 x [] v [] Q I1 r1 .nil q1))⟩
theorem CK (pa:PlainAttrs T) (slot:Slot T name id) (hty:typeOf (.builtin id)=pure (.type "method_descriptor")) (hm:eg X id r) (ho:PE X o to) (ha:PA X (e::es) t)
  (hbase:attributeBase o name X.env (eval o X.env)=eval o X.env:=by rfl)
  (hfew:((backTo cpos (starEach (e::es) X.env)).all (fun x=>!x.1) && (backToKw cpos (keywordEach [] X.env)).all (fun x=>x.1.isSome)
   && decide ((e::es).length+([]:List Keyword).length+(if ([]:List Keyword).isEmpty then 0 else 1)<30))=true:=by rfl)
  (hline:(apos.endLine == cpos.line)=true:=by rfl) (hs:starEach (e::es) X.env=(false,eval e X.env)::starEach es X.env:=by rfl) (hplain:(backTo cpos (starEach es X.env)).any (·.1)=false:=by rfl) :
  PE X (.Call (.Attribute o name apos) (e::es) [] cpos) (CI X.K T r to t):=by
 intro pins s σ H Q I h
 refine wpAny_Call_method_late hbase hfew hline rfl (thn (ho pins s σ H _ I h) fun v s1 ⟨x,H1,I1,r1,ty,q1⟩=>?_)
 obtain ⟨h1,h2⟩:=wo I1 r1 ty
 refine ⟨T,id,pa,slot,hty,h1,h2,?_⟩
 have hA:=ha cpos pins s1 σ H1 _ I1 q1
 rw [hs] at hA ⊢;refine Nq (by show (false || (backTo cpos (starEach es X.env)).any (·.1))=false;rw [hplain]<;>rfl) (NQ ?_)
 exact thn hA fun us s2 ⟨vs,H2,I2,r2,q2⟩=>hm pins s2 σ H2 x vs v us Q I2 r1 r2 q2
end
end L2
namespace L2
open PySem PySem.Spec PyProof.Rows
def lI (X:Cx) (id:String) (r:V->List V->Hp->VK->Prop):Prop :=
 ∀ (pins:List (Addr×Obj)) (s:Shared) (σ:St) (H:Hp) (x:V) (xs:List V) (v:Value) (us:List Value) (Q:VK),Inv X pins σ H s->RelV x v->Vals xs us->r x xs H Q ->
  wpAny (model X.prog X.w) X.A (call (.builtin id) (v::us)) (EP X pins σ Q) X.xe s
theorem Vals.one:∀ {x:V} {us:List Value},Vals [x] us->∃ u,us=[u]/\RelV x u
 | _,_,.cons r .nil=>⟨_,rfl,r⟩
theorem Vals.zero:∀ {us:List Value},Vals [] us->us=[]
 | _,.nil=>rfl
theorem Vals.dropLast {xs:List V} {us:List Value} (h:Vals xs us):Vals xs.dropLast us.dropLast:=by
 induction h with
 | nil=>exact .nil
 | cons r t ih =>
  cases t with
  | nil=>exact .nil
  | cons q t' => exact .cons r ih
theorem Vals.eraseIdx:∀ {xs:List V} {us:List Value} (i:Nat),Vals xs us->Vals (xs.eraseIdx i) (us.eraseIdx i)
 | _,_,_,.nil=>.nil
 | _,_,0,.cons _ t=>t
 | _,_,i+1,.cons r t=>.cons r (Vals.eraseIdx i t)
theorem Vals.reverse {xs:List V} {us:List Value} (h:Vals xs us):Vals xs.reverse us.reverse:=by
 induction h with
 | nil=>exact .nil
 | cons r t ih=>rw [M3,M3];exact Vals.append ih (.cons r .nil)
theorem CL {α:Type} (l:List α):l.eraseIdx (l.length-1)=l.dropLast:=by
 induction l with
 | nil=>rfl
 | cons a r ih =>
  cases r with
  | nil=>rfl
  | cons b r =>
   have e:(a::b::r).length-1=((b::r).length-1)+1:=by
    have h1:(a::b::r).length=r.length+2:=rfl
    have h2:(b::r).length=r.length+1:=rfl
    lia
   rw [e,List.eraseIdx_cons_succ,ih];all_goals rfl
theorem wq {α:Type}:∀ (l:List α) (i:Nat),(l.eraseIdx i).length<=l.length
 | [],_=>Kj _
 | _::_,0=>NR _
 | _::r,i+1=>Ng (wq r i)
section
variable {X:Cx} {pins:List (Addr×Obj)} {σ:St} {H:Hp} {s:Shared} {l b:Addr} {xs ys zs:List V}
theorem Inv.lset {its its':List Value} {n:Nat} {f:Array Value->Array Value} {t':Nat} (I:Inv X pins σ H s) (hH:H l=some (.lst xs))
  (e:s.heap.get? l=some { cls:=.type "list",data:=.seq its.toArray n }) (hf:f its.toArray=its'.toArray) (hv:Vals ys its') (hz:ys.length<=sizeLine) :
  Inv X pins σ (aJ H l (.lst ys)) { s with heap:=s.heap.update l (Obj.mapSeq f),toks:=t' }:=by
 have q:=PySem.IsL.update e f
 rw [hf] at q;refine I.write (x:=l) (e:=l) (by rw [hH];exact trivial) (.inl rfl) (fun b' u hb hu=>(Np s.heap (Obj.mapSeq f) (Ne.symm hb)).trans hu) ⟨_,q⟩ ?_
 exact ⟨hz,its',_,hv,q⟩
theorem Inv.lnew {its:List Value} {t':Nat} (I:Inv X pins σ H s) (hv:Vals ys its) (hz:ys.length<=sizeLine) :
  Inv X pins σ (aJ H s.heap.objs.size (.lst ys)) { s with heap:=s.heap.push { cls:=.type "list",data:=.seq its.toArray },toks:=t' } :=
 I.laid (fun _ _ q=>Kt _ q) (Kj _) ⟨hz,its,0,hv,KZ _ rfl⟩
theorem Inv.fresh (I:Inv X pins σ H s):H s.heap.objs.size=none:=I.hok.fresh (Kj _)
theorem Inv.lstM (I:Inv X pins σ H s) (hH:H l=some (.lst xs)):xs.length<=sizeLine/\∃ (its:List Value) (n:Nat),Vals xs its/\xs.length=its.length/\s.heap.get? l=some { cls:=.type "list",data:=.seq its.toArray n }:=by
 obtain ⟨z,its,n,r,e⟩:=I.hok l _ hH
 exact ⟨z,its,n,r,r.length,e⟩
theorem wt {n:Nat} (h:n<=sizeLine):Builtin.List.listTooLong n=false:=by
 unfold Builtin.List.listTooLong
 exact KH (by lia)
end
section
variable {X:Cx}
def CO:V->List V->Hp->VK->Prop:=fun x vs H Q=>∃ l xs y,x = .ref l/\vs=[y]/\H l=some (.lst xs)/\xs.length<sizeLine/\Q .non (aJ H l (.lst (xs++[y])))
theorem rn:lI X "list.append" CO:=by
 intro pins s σ H x vs v us Q I rx rv h
 obtain ⟨l,xs,y,rfl,rfl,hH,hz,q⟩:=h
 cases rx
 obtain ⟨u,rfl,ru⟩:=rv.one
 obtain ⟨z,its,n,r,hl,e⟩:=I.lstM hH
 refine ME F.slot_list_append ⟨_,e,rfl⟩ F.entry_list_append (F.args_list_append_2 _ _) (PySem.list_append l its.toArray n u (by rw [Ks];lia)) ⟨e,?_⟩
 refine ⟨.non,_,I.lset (its' := its++[u]) hH e (by simp) (r.append (.cons ru .nil)) ?_,rfl,q⟩
 rw [Kq,List.length_singleton];lia
def CQ:V->List V->Hp->VK->Prop:=fun x vs H Q=>∃ l b xs zs,x = .ref l/\vs=[.ref b]/\H l=some (.lst xs)/\H b=some (.lst zs)/\xs.length+zs.length<=sizeLine/\Q .non (aJ H l (.lst (xs++zs)))
theorem CS:lI X "list.extend" CQ:=by
 intro pins s σ H x vs v us Q I rx rv h
 obtain ⟨l,b,xs,zs,rfl,rfl,hH,hB,hz,q⟩:=h
 cases rx
 obtain ⟨u,rfl,ru⟩:=rv.one
 cases ru
 obtain ⟨z,its,n,r,hl,e⟩:=I.lstM hH
 obtain ⟨z2,its2,n2,r2,hl2,e2⟩:=I.lstM hB
 have hsz:its.toArray.size+its2.toArray.size<=sizeLine:=by rw [Ks,Ks];lia
 have hlong : ¬ (!its.toArray.isEmpty && Builtin.List.listTooLong (its.toArray.size+its2.toArray.size))=true:=by
  rw [wt hsz,Bool.and_false];exact KO
 refine ME F.slot_list_extend ⟨_,e,rfl⟩ F.entry_list_extend (F.args_list_extend_2 _ _)
  (AutoSeq1.list_extend_list_list_0 l its.toArray n b its2.toArray n2 hlong (by rw [Ks];lia) (by lia)) ⟨e,e2,?_⟩
 refine ⟨.non,_,I.lset (its' := its++its2) hH e (by simp) (r.append r2) ?_,rfl,q⟩
 rw [Kq];lia
def rp:V->List V->Hp->VK->Prop:=fun x vs H Q=>∃ l xs y,x = .ref l/\vs=[]/\H l=some (.lst xs)/\xs[xs.length-1]? = some y/\Q y (aJ H l (.lst xs.dropLast))
theorem CT:lI X "list.pop" rp:=by
 intro pins s σ H x vs v us Q I rx rv h
 obtain ⟨l,xs,y,rfl,rfl,hH,hy,q⟩:=h
 cases rx
 have hus:=rv.zero
 subst hus;obtain ⟨z,its,n,r,hl,e⟩:=I.lstM hH
 obtain ⟨u,hu,ru⟩:=r.get hy
 have hy':its.toArray[its.toArray.size-1]? = some u:=by
  show its.toArray[its.length-1]? = some u
  rw [<- NH,<- hl];exact hu
 refine ME F.slot_list_pop ⟨_,e,rfl⟩ F.entry_list_pop (F.args_list_pop_1 _) (MeetsSeq.list_pop_last l its.toArray n u hy' (by rw [Ks];lia)) ⟨e,?_⟩
 refine ⟨y,_,I.lset (its' := its.dropLast) hH e ?_ r.dropLast ?_,ru,q⟩
 ·show its.toArray.eraseIdxIfInBounds (its.toArray.size-1)=its.dropLast.toArray
  rw [Ks,MB,CL]
 ·rw [List.length_dropLast]
  lia
def CU:V->List V->Hp->VK->Prop:=fun x vs H Q=>∃ l xs i k y,x = .ref l/\vs=[.int i]/\H l=some (.lst xs) /\ -(2 ^ 63)<=i/\i<2 ^ 63/\seqIndex? i xs.length=some k/\xs[k]? = some y/\Q y (aJ H l (.lst (xs.eraseIdx k)))
theorem CV:lI X "list.pop" CU:=by
 intro pins s σ H x vs v us Q I rx rv h
 obtain ⟨l,xs,i,k,y,rfl,rfl,hH,h1,h2,hk,hy,q⟩:=h
 cases rx
 obtain ⟨u,rfl,ru⟩:=rv.one
 obtain ⟨t,rfl⟩:=ru
 obtain ⟨z,its,n,r,hl,e⟩:=I.lstM hH
 obtain ⟨w,hw,rw'⟩:=r.get hy
 refine ME F.slot_list_pop ⟨_,e,rfl⟩ F.entry_list_pop (F.args_list_pop_2 _ _)
  (MeetsSeq.list_pop_at l its.toArray n i t k w (fitsIndex_both h1 h2) (by rw [Ks,<- hl];exact hk) (by rw [<- NH];exact hw) (by rw [Ks];lia)) ⟨e,?_⟩
 refine ⟨y,_,I.lset (its' := its.eraseIdx k) hH e ?_ (r.eraseIdx k) ?_,rw',q⟩
 ·show its.toArray.eraseIdxIfInBounds k=(its.eraseIdx k).toArray
  rw [MB]
 ·have:=wq xs k
  lia
def CW:V->List V->Hp->VK->Prop:=fun x vs H Q=>∃ l xs,x = .ref l/\vs=[]/\H l=some (.lst xs)/\Q .non (aJ H l (.lst xs.reverse))
theorem CY:lI X "list.reverse" CW:=by
 intro pins s σ H x vs v us Q I rx rv h
 obtain ⟨l,xs,rfl,rfl,hH,q⟩:=h
 cases rx
 have hus:=rv.zero
 subst hus;obtain ⟨z,its,n,r,hl,e⟩:=I.lstM hH
 refine ME F.slot_list_reverse ⟨_,e,rfl⟩ F.entry_list_reverse (F.args_list_reverse_1 _) (AutoSeq1.list_reverse_list_0 l its.toArray n (by rw [Ks];omega)) ⟨e,?_⟩
 refine ⟨.non,_,I.lset (its' := its.reverse) hH e (by simp) r.reverse ?_,rfl,q⟩
 rw [LN];omega
end
section
variable {prog:Program} {w:World} {A:Around} {E:Value->Shared->Prop} {s:Shared}
end
section
variable {X:Cx}
end
end L2
namespace L2
open PySem PySem.Spec PyProof.Rows
section
variable {κ:Type} [DecidableEq κ]
def cN (kvs:List (κ×V)) (k:κ):Option V:=(kvs.find? fun kv=>decide (kv.1=k)).map (·.2)
def cO (kvs:List (κ×V)) (k:κ) (v:V):List (κ×V) :=
 if (kvs.any fun kv=>decide (kv.1=k))=true then kvs.map (fun kv=>if kv.1=k then (kv.1,v) else kv) else kvs++[(k,v)]
theorem oO {p:κ×V} {r:List (κ×V)} {k:κ} (e:p.1=k):cN (p::r) k=some p.2:=by simp [cN,Lq,e]
theorem mO {p:κ×V} {r:List (κ×V)} {k:κ} (e : ¬ p.1=k):cN (p::r) k=cN r k:=by simp [cN,Lq,e]
theorem rq (k:κ):∀ kvs:List (κ×V),(kvs.any fun kv=>decide (kv.1=k))=(cN kvs k).isSome
 | []=>rfl
 | p::r=>by
  rw [Mo];by_cases e:p.1=k
  ·simp only [oO e,Ld e,Bool.true_or,Option.isSome_some]
  ·rw [mO e,KH e,Bool.false_or];exact rq k r
theorem wu (kvs:List (κ×V)) (k:κ) (v:V):(cO kvs k v).length<=kvs.length+1:=by
 unfold cO
 split
 ·rw [Kv];lia
 ·rw [Kq,Kk,LJ];lia
theorem RelO.isSome_eq {o:Option V} {u:Option Value} (r:RelO o u):o.isSome=u.isSome:=by
 cases o with
 | none=>cases u with
  | none=>rfl
  | some _=>exact (show False from r).elim
 | some _=>cases u with
  | none=>exact (show False from r).elim
  | some _=>rfl
theorem KV.val {kvs:List (κ×V)} {vs:List (κ×Value)} (r:KV kvs vs) (k:κ):RelO (cN kvs k) (valueAt vs k):=by
 unfold KV at r
 induction r with
 | nil=>exact True.intro
 | @cons p q ps qs h t ih =>
  obtain ⟨h1,h2⟩:=h
  by_cases e:p.1=k
  ·have e':q.1=k:=h1.symm.trans e
   have b:valueAt (q::qs) k=some q.2:=by simp [valueAt,Lq,e']
   rw [oO e,b];exact h2
  ·have e' : ¬ q.1=k:=fun z=>e (h1.trans z)
   have b:valueAt (q::qs) k=valueAt qs k:=by simp [valueAt,Lq,e']
   rw [mO e,b];exact ih
theorem KV.any {kvs:List (κ×V)} {vs:List (κ×Value)} (r:KV kvs vs) (k:κ):(kvs.any fun kv=>decide (kv.1=k))=vs.any fun kv=>decide (kv.1=k):=by
 unfold KV at r
 induction r with
 | nil=>rfl
 | cons h t ih=>rw [Mo,Mo,ih,h.1]
theorem KV.repl {kvs:List (κ×V)} {vs:List (κ×Value)} (r:KV kvs vs) (k:κ) {y:V} {u:Value} (ry:RelV y u) :
  KV (kvs.map fun kv=>if kv.1=k then (kv.1,y) else kv) (vs.map fun kv=>if kv.1=k then (kv.1,u) else kv):=by
 unfold KV at r ⊢
 induction r with
 | nil=>exact .nil
 | @cons p q ps qs h t ih =>
  rw [KY,KY];refine .cons ?_ ih
  obtain ⟨h1,h2⟩:=h
  by_cases e:p.1=k
  ·rw [Ku e,Ku (h1.symm.trans e)];exact ⟨h1,ry⟩
  ·rw [KF e,KF (fun z=>e (h1.trans z))];exact ⟨h1,h2⟩
theorem KV.put {kvs:List (κ×V)} {vs:List (κ×Value)} (r:KV kvs vs) (k:κ) {y:V} {u:Value} (ry:RelV y u):KV (cO kvs k y) (stored vs k u):=by
 unfold cO stored
 rw [r.any k];by_cases e:(vs.any fun kv=>decide (kv.1=k))=true
 ·rw [Ku e,Ku e];exact r.repl k ry
 ·rw [KF e,KF e];exact Paired.snoc r ⟨rfl,ry⟩
theorem KV.length {kvs:List (κ×V)} {vs:List (κ×Value)} (r:KV kvs vs):kvs.length=vs.length:=Paired.length r
end
theorem rC {P:Program} {w:World} {k:aW} {u:Value} (r:RelV (kV k) u):(fT P w).is k u=true:=by
 cases k with
 | inl i=>obtain ⟨t,e⟩:=(show ∃ t,u=Value.int i t from r);subst e;exact vI P w i t
 | inr x=>obtain ⟨t,e⟩:=(show ∃ t,u=Value.str x t from r);subst e;exact vJ P w x t
theorem CZ {P:Program} {w:World} {y:V} {k:aW} {u:Value} (e:lE y=some k) (r:RelV y u):(fT P w).is k u=true:=by
 cases y with
 | int i=>cases e;obtain ⟨t,e⟩:=(show ∃ t,u=Value.int i t from r);subst e;exact vI P w i t
 | str x=>cases e;obtain ⟨t,e⟩:=(show ∃ t,u=Value.str x t from r);subst e;exact vJ P w x t
 | bl b=>cases e;cases (show u=Value.bool b from r);exact Ld rfl
 | _=>cases e
theorem wx {P:Program} {w:World}:∀ {ys:List V} {ks:List aW} {us:List Value},ys.map lE=ks.map some->Vals ys us->ItemsAre (fT P w) ks us
 | [],[],_,_,r=>by cases r;exact .nil
 | [],_::_,_,e,_=>by simp at e
 | _::_,[],_,e,_=>by simp at e
 | y::ys,k::ks,_,e,r=>by
  rw [KY,KY] at e;injection e with e1 e2
  cases r with
  | cons h t=>exact .cons (CZ e1 h) (wx e2 t)
def KTup (H:Hp) (b:Addr) (k:List aW):Prop:=∃ ys,H b=some (.tup ys)/\ys.map lE=k.map some
theorem KTup.of {H:Hp} {b:Addr} {k:List aW} (e:H b=some (.tup (k.map kV))):KTup H b k:=⟨_,e,by rw [Of];exact NX fun x _=>Ay x⟩
abbrev KT (H:Hp):List (List aW×V)->List (List aW×Addr×Value)->Prop:=Paired fun p q=>p.1=q.1/\(∃ ys,H q.2.1=some (.tup ys)/\ys.map lE=p.1.map some)/\RelV p.2 q.2.2
theorem KT.val {H:Hp} {kvs:List (List aW×V)} {xs:List (List aW×Addr×Value)} (r:KT H kvs xs) (k:List aW):RelO (cN kvs k) ((atKey xs k).map (·.2)):=by
 induction r with
 | nil=>exact True.intro
 | @cons p q ps qs h t ih =>
  obtain ⟨h1,_,h2⟩:=h
  by_cases e:p.1=k
  ·have e':q.1=k:=h1.symm.trans e
   have b:atKey (q::qs) k=some q.2:=by simp [atKey,Lq,e']
   rw [oO e,b];exact h2
  ·have e' : ¬ q.1=k:=fun z=>e (h1.trans z)
   have b:atKey (q::qs) k=atKey qs k:=by simp [atKey,Lq,e']
   rw [mO e,b];exact ih
theorem KT.repl {H:Hp} {kvs:List (List aW×V)} {xs:List (List aW×Addr×Value)} (r:KT H kvs xs) (k:List aW) {y:V} {u:Value} (ry:RelV y u) :
  KT H (kvs.map fun kv=>if kv.1=k then (kv.1,y) else kv) (xs.map (putAt k u)):=by
 induction r with
 | nil=>exact .nil
 | @cons p q ps qs h t ih =>
  rw [KY,KY];refine .cons ?_ ih
  obtain ⟨h1,h2,h3⟩:=h
  unfold putAt
  by_cases e:p.1=k
  ·rw [Ku e,Ku (h1.symm.trans e)];exact ⟨h1,h2,ry⟩
  ·rw [KF e,KF (fun z=>e (h1.trans z))];exact ⟨h1,h2,h3⟩
theorem KT.put {H:Hp} {kvs:List (List aW×V)} {xs:List (List aW×Addr×Value)} (r:KT H kvs xs) (k:List aW) {b:Addr} {y:V} {u:Value} (hb:KTup H b k) (ry:RelV y u) :
  KT H (cO kvs k y) (storedH xs k b u):=by
 have e:(kvs.any fun kv=>decide (kv.1=k))=(atKey xs k).isSome:=by
  rw [rq,(r.val k).isSome_eq,Og]
 unfold cO storedH
 rw [e];by_cases q:(atKey xs k).isSome=true
 ·rw [Ku q,Ku q];exact r.repl k ry
 ·rw [KF q,KF q];exact Paired.snoc r ⟨rfl,hb,ry⟩
theorem KT.keeps {H H':Hp} {kvs:List (List aW×V)} {xs:List (List aW×Addr×Value)} (r:KT H kvs xs) (ht:∀ b ys,H b=some (.tup ys)->H' b=some (.tup ys)):KT H' kvs xs :=
 Paired.mapP r fun _ _ z=>⟨z.1,z.2.1.imp fun _ e=>⟨ht _ _ e.1,e.2⟩,z.2.2⟩
section
variable {P:Program} {w:World} {H:Hp} {h:Heap} {a:Addr}
theorem wy {u:HO} (ok:HOk P w H h) (e:Rd H a u):ObjOk P w H h a u:=e.ok ok
theorem mP {kvs:List (aW×V)} (ok:HOk P w H h) (e:Rd H a (.dK kvs)):kvs.length<=sizeLine/\(a == sysModules)=false/\∃ vs,KV kvs vs/\h.DictOf (fT P w) a vs :=
 show ObjOk P w H h a (.dK kvs) from wy ok e
theorem C1 {kvs:List (aW×V)} (ok:HOk P w H h) (e:H a=some (.dK kvs)):kvs.length<=sizeLine/\(a == sysModules)=false/\∃ vs,KV kvs vs/\h.DictOf (fT P w) a vs:=mP ok (.inl e)
theorem oP {ks:List aW} (ok:HOk P w H h) (e:KTup H a ks):(tupleKind (fT P w)).is h ks a:=by
 obtain ⟨ys,e,ek⟩:=e
 obtain ⟨_,its,r,o,h1,h2,n,h3⟩:=(show ObjOk P w H h a (.tup ys) from ok a _ e)
 exact ⟨o,its.toArray,n,h1,h2,h3,by simpa using wx ek r⟩
theorem oQ {kvs:List (List aW×V)} (ok:HOk P w H h) (e:Rd H a (.dT kvs)):kvs.length<=sizeLine/\(a == sysModules)=false /\
  ∃ xs,KT H kvs xs/\h.DictOfH (tupleKind (fT P w)) a xs:=by
 obtain ⟨z,y,xs,r,o,es,ep,h1,h2,h3,h4,h5⟩:=(show ObjOk P w H h a (.dT kvs) from wy ok e)
 refine ⟨z,y,xs,r,o,es,ep,h1,h2,h3,h4,fun x hx=>?_,h5⟩
 have all:∀ {l:List (List aW×V)} {m:List (List aW×Addr×Value)},KT H l m->∀ x∈m,(tupleKind (fT P w)).is h x.1 x.2.1:=by
  intro l m q
  induction q with
  | nil=>intro x hx;exact nomatch hx
  | @cons p q ps qs hq t ih =>
   intro x hx
   rcases KJ.mp hx with e | hx
   ·subst e
    exact oP ok (by rw [<- hq.1];exact hq.2.1)
   ·exact ih x hx
 exact all r x hx
theorem C2 {kvs:List (List aW×V)} (ok:HOk P w H h) (e:H a=some (.dT kvs)):kvs.length<=sizeLine/\(a == sysModules)=false /\
  ∃ xs,KT H kvs xs/\h.DictOfH (tupleKind (fT P w)) a xs:=oQ ok (.inl e)
end
def DGet (H:Hp) (a:Addr) (y:V) (r:Option V):Prop :=
 (∃ kvs k,Rd H a (.dK kvs)/\y=kV k/\r=cN kvs k)\/∃ kvs k b,Rd H a (.dT kvs)/\y = .ref b/\KTup H b k/\r=cN kvs k
def DPut (H:Hp) (a:Addr) (y v:V) (H':Hp):Prop :=
 (∃ kvs k,H a=some (.dK kvs)/\y=kV k/\kvs.length<sizeLine/\H'=aJ H a (.dK (cO kvs k v))) \/
 ∃ kvs k b,H a=some (.dT kvs)/\y = .ref b/\KTup H b k/\kvs.length<sizeLine/\H'=aJ H a (.dT (cO kvs k v))
theorem DGet.k {H:Hp} {a:Addr} {kvs:List (aW×V)} {k:aW} (e:H a=some (.dK kvs)):DGet H a (kV k) (cN kvs k):=.inl ⟨kvs,k,.inl e,rfl,rfl⟩
theorem DGet.t {H:Hp} {a b:Addr} {kvs:List (List aW×V)} {k:List aW} (e:H a=some (.dT kvs)) (eb:KTup H b k):DGet H a (.ref b) (cN kvs k):=.inr ⟨kvs,k,b,.inl e,rfl,eb,rfl⟩
theorem DPut.k {H:Hp} {a:Addr} {kvs:List (aW×V)} {k:aW} {v:V} (e:H a=some (.dK kvs)) (hl:kvs.length<sizeLine):DPut H a (kV k) v (aJ H a (.dK (cO kvs k v))):=.inl ⟨kvs,k,e,rfl,hl,rfl⟩
theorem DPut.t {H:Hp} {a b:Addr} {kvs:List (List aW×V)} {k:List aW} {v:V} (e:H a=some (.dT kvs)) (eb:KTup H b k) (hl:kvs.length<sizeLine) :
  DPut H a (.ref b) v (aJ H a (.dT (cO kvs k v))):=.inr ⟨kvs,k,b,e,rfl,eb,hl,rfl⟩
section
variable {X:Cx} {pins:List (Addr×Obj)} {σ:St} {H:Hp} {s:Shared} {a:Addr} {y v:V} {u r:Value} {o:Option V} {A:Around} {E:Value->Shared->Prop}
theorem Inv.big (I:Inv X pins σ H s):sysModules<s.heap.objs.size:=by
 have h:mainGlobals<s.heap.objs.size:=(I.mod.glob.keeps I.bk).lt
 exact MO (by decide) h
theorem C3 {Q:Value->Shared->Prop} (hu:A.units+1<cLine) (I:Inv X pins σ H s) (g:DGet H a y (some v)) (ry:RelV y u) (h:∀ w' s',Inv X pins σ H s'->RelV v w'->Q w' s') :
  wpAny (model X.prog X.w) A (getItem (.ref a) u) Q E s:=by
 rcases g with ⟨kvs,k,e,ey,l⟩ | ⟨kvs,k,b,e,ey,eb,l⟩
 ·subst ey
  obtain ⟨z,hd,vs,rel,dd⟩:=mP I.hok e
  obtain ⟨w',hw,rw'⟩:=RelO.some_of (v:=v) (o:=valueAt vs k) (by rw [l];exact rel.val k)
  exact wpAny_getItem_of (rC ry) dd.mapOf hw (h w' _ (I.tok _) rw')
 ·subst ey
  cases (show u=Value.ref b from ry)
  obtain ⟨z,hd,xs,rel,dd⟩:=oQ I.hok e
  obtain ⟨w',hw,rw'⟩:=RelO.some_of (v:=v) (o:=(atKey xs k).map (·.2)) (by rw [l];exact rel.val k)
  obtain ⟨p,hp,hp2⟩:=KU.mp hw
  refine wpAny_getItem_heap (MY hu) (oP I.hok eb) dd hp ?_
  rw [hp2];exact h w' _ (I.tok _) rw'
theorem C4 {Q:Value->Shared->Prop} (hu:A.units+1<cLine) (I:Inv X pins σ H s) (g:DGet H a y o) (ry:RelV y u) (h:∀ s',Inv X pins σ H s'->Q (.bool (!o.isSome)) s') :
  wpAny (model X.prog X.w) A (compareOp .NotIn u (.ref a)) Q E s:=by
 rcases g with ⟨kvs,k,e,ey,l⟩ | ⟨kvs,k,b,e,ey,eb,l⟩
 ·subst ey
  obtain ⟨z,hd,vs,rel,dd⟩:=mP I.hok e
  refine wpAny_notIn_of (rC ry) hd dd.mapOf ?_
  rw [<- (rel.val k).isSome_eq,<- l];exact h _ (I.tok _)
 ·subst ey
  cases (show u=Value.ref b from ry)
  obtain ⟨z,hd,xs,rel,dd⟩:=oQ I.hok e
  refine wpAny_notIn_heap (MY hu) (oP I.hok eb) hd dd ?_
  have q:=(rel.val k).isSome_eq
  rw [Og] at q;rw [<- q,<- l];exact h _ (I.tok _)
theorem wz {h':Heap} {t':Nat} {ob:HO} (I:Inv X pins σ H s) (mu:mC (H a)) (hs:Heap.SameBut a s.heap h') (he:∃ q,h'.get? a=some q) (new:ObjOk X.prog X.w (aJ H a ob) h' a ob) :
  Inv X pins σ (aJ H a ob) { s with heap:=h',toks:=t' } :=
 I.write (x:=a) (e:=a) mu (.inl rfl) (fun b q hb z=>(hs.2 b hb).trans z) he new
theorem C5 {P:Program} {w:World} {H':Hp} {h':Heap} {kvs:List (aW×V)} {vs:List (aW×Value)} (z:kvs.length<=sizeLine) (hd:(a == sysModules)=false) (rel:KV kvs vs) (dd:h'.DictOf (fT P w) a vs) :
  ObjOk P w H' h' a (.dK kvs):=⟨z,hd,vs,rel,dd⟩
theorem C6 {H':Hp} {Q:Unit->Shared->Prop} (hu:A.units+1<cLine) (I:Inv X pins σ H s) (g:DPut H a y v H') (ry:RelV y u) (rv:RelV v r) (h:∀ s',Inv X pins σ H' s'->Q () s') :
  wpAny (model X.prog X.w) A (setItem (.ref a) u r) Q E s:=by
 rcases g with ⟨kvs,k,e,ey,l,eH⟩ | ⟨kvs,k,b,e,ey,eb,l,eH⟩
 ·subst ey eH
  obtain ⟨z,hd,vs,rel,dd⟩:=C1 I.hok e
  have hz:vs.length<=sizeLine:=by rw [<- rel.length];exact z
  have hl:(cO kvs k v).length<=sizeLine:=by have:=wu kvs k v;lia
  refine wpAny_setItem_pairs (hsz:=hz) (rC ry) dd fun h' dd' hs=>h _ ?_
  have he:∃ q,h'.get? a=some q:=let ⟨q,_,_,hq,_⟩:=dd';⟨q,hq⟩
  exact wz I (by rw [e];exact True.intro) hs he (C5 hl hd (rel.put k rv) dd')
 ·subst ey eH
  cases (show u=Value.ref b from ry)
  obtain ⟨z,hd,xs,rel,dd⟩:=C2 I.hok e
  have hz:xs.length<=sizeLine:=by rw [<- Paired.length rel];exact z
  have hl:(cO kvs k v).length<=sizeLine:=by have:=wu kvs k v;lia
  refine wpAny_setItem_heap (hsz:=hz) (MY hu) (oP I.hok eb) dd fun h' dd' hs=>h _ ?_
  obtain ⟨q,es,ep,hq,h2,h3,h4,_,h5⟩:=dd'
  refine wz I (by rw [e];exact True.intro) hs ⟨q,hq⟩ ⟨hl,hd,_,(rel.put k eb rv).keeps fun c ys ec=>?_,q,es,ep,hq,h2,h3,h4,h5⟩
  rw [bS (Az ec e (fun z=>nomatch z))];exact ec
end
section
variable {X:Cx} {pins:List (Addr×Obj)} {σ:St} {H:Hp} {s:Shared} {a:Addr} {kvs:List (aW×V)} {k:aW} {u:Value} {A:Around} {E:Value->Shared->Prop}
theorem C7 {Q:Value->Shared->Prop} (I:Inv X pins σ H s) (e:Rd H a (.dK kvs)) (h:∀ t s',Inv X pins σ H s'->Q (.int kvs.length t) s'):wpAny (model X.prog X.w) A (call (.builtin "len") [.ref a]) Q E s:=by
 obtain ⟨z,hd,vs,rel,dd⟩:=mP I.hok e
 refine call_len_dict hd dd (by rw [<- rel.length];rw [sizeLine_eq] at z;lia) ?_
 rw [<- rel.length];exact h _ _ (I.tok _)
end
def mQ (i:Expr):Prop:=∀ ov iv,subscripted i false ov iv=operate [ov,iv] (getItem ov iv)
theorem C8 {prog:Program} {w:World} {A:Around} {E:Value->Shared->Prop} {s:Shared} {env:Env} {value slice:Expr} {pos:Pos} {T id:String} {Q:Value->Shared->Prop}
  (hl:typeLookup (.type T) "__getitem__" = pure (some (.builtin id))) (hs:mQ slice)
  (h:wpAny (model prog w) A (eval value env) (fun o s₁=>wpAny (model prog w) A (eval slice env) (fun i s₂=>s₂.TypeIs o T/\wpAny (model prog w) A (getItem o i) Q E s₂) E s₁) E s) :
  wpAny (model prog w) A (eval (.Subscript value slice pos) env) Q E s:=by
 refine Subscript_ (Lc h (fun o s₁ h₁=>Lc h₁ (fun i s₂ h₂=>?_) fun _ _ x=>x) fun _ _ x=>x)
 obtain ⟨hT,h₂⟩:=h₂
 unfold subscriptTail
 refine KC ?_
 rw [getitemInPython_of_ne hT.not_modules];refine KC (NG hT hl ?_)
 have fin:wpAny (model prog w) A (subscripted slice false o i) (fun r s₃=>wpAny (model prog w) A (letTemporaryGo value o r >>= fun _=>pure r) Q E s₃) E s₂:=by
  rw [hs o i];exact wpAny_operating (Lc h₂ (fun r s₃ h₃=>KC (wpAny_letTemporaryGo (K0 h₃))) fun _ _ x=>x)
 first
  | exact K0 (KC fin)
  | exact KC (K0 (KC fin))
  | exact KC fin
theorem C9 {X:Cx} {pins:List (Addr×Obj)} {σ:St} {H:Hp} {s:Shared} {a:Addr} {y:V} {o:Option V} (I:Inv X pins σ H s) (g:DGet H a y o):s.TypeIs (.ref a) "dict" := by
 rcases g with ⟨kvs,k,e,_,_⟩ | ⟨kvs,k,b,e,_,_,_⟩
 ·obtain ⟨_,_,vs,_,dd⟩:=mP I.hok e
  exact dd.typeIs
 ·obtain ⟨_,_,xs,_,dd⟩:=oQ I.hok e
  exact dd.typeIs
def Da (td ty:TE):TE:=fun σ H Q=>td σ H fun x H1=>ty σ H1 fun y H2=>∃ a v,x = .ref a/\DGet H2 a y (some v)/\Q v H2
def Dc (td ty tv:TE):TS:=fun D σ H=>tv σ H fun v H1=>td σ H1 fun x H2=>ty σ H2 fun y H3=>∃ a H4,x = .ref a/\DPut H3 a y v H4/\D.nx σ H4
section
variable {X:Cx} {o i e value:Expr} {pos pos' tpos:Pos} {td ty tv:TE}
theorem De (hu:X.A.units+1<cLine) (ho:PE X o td) (hi:PE X i ty) (hs:mQ i):PE X (.Subscript o i pos) (Da td ty):=by
 intro pins s σ H Q I h
 refine C8 PySem.F.slot_dict_getitem.lookup hs (thn (ho pins s σ H _ I h) fun u s1 ⟨x,H1,I1,rx,q1⟩=>thn (hi pins s1 σ H1 _ I1 q1) fun iv s2 ⟨y,H2,I2,ry,a,v,ex,g,q2⟩=>?_)
 subst ex;obtain rfl:u=Value.ref a:=rx
 exact ⟨C9 I2 g,C3 hu I2 g ry fun w' s3 I3 rw' => ⟨v,H2,I3,rw',q2⟩⟩
theorem Df (hu:X.A.units+1<cLine) (ho:PE X o td) (hi:PE X i ty) (hv:PE X value tv) (hs:swapsWith value (some (.Subscript o i pos')) pos.line X.env=pure false) :
  PS X (.Assign [.Subscript o i pos'] value pos) (Dc td ty tv):=by
 intro pins s σ H D I h
 refine wpAny_Assign_Subscript (thn (hv pins s σ H _ I h) fun r s1 ⟨v,H1,I1,rv,q1⟩=>thn (ho pins s1 σ H1 _ I1 q1) fun u s2 ⟨x,H2,I2,rx,q2⟩=>thn (hi pins s2 σ H2 _ I2 q2) fun iv s3 ⟨y,H3,I3,ry,a,H4,ex,g,q3⟩=>?_) hs
 subst ex;obtain rfl:u=Value.ref a:=rx
 exact C6 hu I3 g ry rv fun s4 I4=>⟨σ,H4,I4,q3⟩
end
theorem Dg {P:Program} {w:World} {H:Hp} (h:Heap) (hb:sysModules<h.objs.size):ObjOk P w H (h.push { cls:=.type "dict",data:=.dict #[] }) h.objs.size (.dT []) :=
 ⟨KS _,beq_eq_false_iff_ne.mpr (Ne.symm (K7 hb)),[],.nil,_,#[],0,KZ _ rfl,⟨rfl,rfl,rfl⟩,rfl,rfl,MU⟩
def Dh:TE:=fun _ H Q=>∀ p,H p=none->Q (.ref p) (aJ H p (.dT []))
section
variable {X:Cx} {pos:Pos}
theorem Di:PE X (.Dict [] [] pos) Dh:=fun pins s σ H Q I h =>
 wpAny_Dict_empty ⟨.ref s.heap.objs.size,_,I.laid (a:=s.heap.objs.size) (o:=.dT []) (t' := s.toks) (fun _ _ q=>Kt _ q) (Kj _) (Dg s.heap I.big),rfl,h _ (I.hok.fresh (Kj _))⟩
end
section
variable {X:Cx} {pins:List (Addr×Obj)} {σ:St} {H:Hp} {s:Shared} {a:Addr} {y d:V} {u r:Value} {o:Option V} {A:Around} {E:Value->Shared->Prop}
end
section
variable {X:Cx} {o e f:Expr} {apos cpos:Pos} {td ty tx:TE}
end
section
variable {X:Cx} {pins:List (Addr×Obj)} {σ:St} {H:Hp} {s:Shared} {a:Addr} {kvs:List (aW×V)} {A:Around} {E:Value->Shared->Prop}
end
section
variable {X:Cx} {pins:List (Addr×Obj)} {σ:St} {H:Hp} {s:Shared} {a:Addr} {y:V} {u:Value} {A:Around} {E:Value->Shared->Prop}
end
end L2
namespace Att
open PySem PySem.W PySem.Calls PyProof.Rows
theorem Dj {P:Params} {h:Heap}:∀ (ns:List Int) (vs:List Value),WellAll P h vs (ns.map WData.int)->IntsAre vs ns:=by
 intro ns
 induction ns with
 | nil =>
  intro vs w
  rw [Nr] at w
  cases w
  exact .nil
 | cons n ns ih =>
  intro vs w
  rw [KY] at w
  cases w with
  | cons a b =>
   cases a
   exact .cons _ _ (ih _ b)
theorem Dk {l:OpenLaw} {n:Nat} (hn:l.most=some n) {P:Params} {h:Heap} {args:List WData} {vals:List Value}
  (hpre:l.row.toRowW.claim.pre args=true) (hwl:WellAll P h vals args) :
  ∃ a vs ns,vals=[Value.ref a]/\args=[WData.list (ns.map WData.int)]/\h.get? a=some { cls:=.type "list",data:=.seq vs.toArray }/\IntsAre vs ns/\ns.length<=n:=by
 have hsh:WShape.hasAll [] args [.list .int]=true:=(pre_splitW hpre).1
 have hc:l.pre.holds [] { args:=args }=true:=(pre_splitW hpre).2
 obtain ⟨d,r,rfl,h1,h2⟩:=hasAllW_cons hsh
 obtain rfl:=hasAllW_nil h2
 obtain ⟨xs,rfl,h3⟩:=hasW_list h1
 obtain ⟨ns,rfl⟩:=items_int h3
 have hlen:ns.length<=n:=by
  unfold OpenLaw.pre at hc
  have h4:(WTm.not (.lt (.lit (.int (n:Int))) (.len (.arg 0)))).holds [] { args:=[.list (ns.map .int)] }=true:=by
   have h4:=(holds_andW hc).1
   rw [hn] at h4;exact h4
  have h5:=condW_of h4 (w_not (w_lt w_lit (w_len_list (w_arg rfl))))
  rw [Kv] at h5;refine Nat.le_of_not_lt fun q=>?_
  have q':(n:Int)<((ns.length:Nat):Int):=by omega
  first
   | (rw [Ld q'] at h5;exact absurd h5 (by decide))
   | (simp at h5;omega)
 cases hwl with
 | cons w1 w2 =>
  cases w2
  cases w1 with
  | list ho hall=>exact ⟨_,_,ns,rfl,rfl,ho,Dj ns _ hall,hlen⟩
theorem Dl (l:OpenLaw) (args:List WData):l.row.toRowW.claim.post args (.bool true) args=true :=
 postW_of (r:=l.row.toRowW) (X:=(true == true))
  (show WShape.has [] (.bool true) .bool=true by first | rfl | decide | simp [WShape.has,WShape.arms,WShape.armsAll])
  (show (WTm.eq .res (.lit (.bool true))).value [] { args:=args,res:=some (.bool true),after:=args }=some (.bool (true == true)) from w_eq_bool (w_res rfl) w_lit) rfl
theorem attach_call {l:OpenLaw} {n:Nat} {q:Program} {loose:List Str} {XP:(Str->Option Value)->Heap->Prop} {YP:World->Heap->Prop} {d:DefRec}
  (hn:l.most=some n) (hdf:d.params.defaults=[])
  (call:∀ (w:World) (s₀ s₁:Shared) (mg mb:Str->Option Value) (fa:Addr) (o:Obj) (pm cd doc:Value) (a:Addr) (vs:List Value) (ns:List Int),
   Ground q loose [] XP w s₀ mg mb s₁.heap->YP w s₁.heap ->
   s₁.heap.get? fa=some o->o.data = .func (docDef d.name d.params d.body d.scope pm cd doc)->s₁.heap.CodeRec cd d.name->mg d.name=some (.ref fa) ->
   s₁.heap.get? a=some { cls:=.type "list",data:=.seq vs.toArray }->IntsAre vs ns->ns.length<=n->s₁.gens = #[] ->
   codeAny (model l.prog w) callerA (.call (.ref fa) ⟨[.ref a],[]⟩) (fun r s' => r = .ok (.ret (.bool true))/\OldK s₁.heap s'.heap/\s'.os=s₁.os/\AllBare s'.gens) s₁) :
  WalkO q loose XP YP l.row.toRowW d [] (fun f vs=>PySem.call f vs):=by
 intro w s₀ s₁ mg mb G Y fa o pm cd doc dV kV ho hd hcd hD hmg hg args vals as hpre hlay hrd hwl hlo
 obtain rfl:dV = .none:=Dflts.none hD hdf
 obtain rfl:kV = .none:=Dflts.noKw hD
 obtain ⟨a,vs,ns,rfl,rfl,hobj,hints,hlen⟩:=Dk hn hpre hwl
 refine enter_call (Nz (call w s₀ s₁ mg mb fa o pm cd doc a vs ns G Y ho (fd_plain hd) hcd hmg hobj hints hlen hg) fun r s' hq=>?_)
 obtain ⟨rfl,h2,h3,h4⟩:=hq
 exact ⟨.inl ⟨.bool true,.bool true,[],rfl,fun _=>rfl,.bool true,Dl l _,fun _=>⟨List.Pairwise.nil,fun _ hm=>(nomatch hm)⟩⟩,h2,h3,h4⟩
section
variable {prog:Program} {w:World} {A:Around} {E:Value->Shared->Prop} {s:Shared} {K:Frag}
end
end Att
namespace L2
open PySem PySem.Spec PyProof.Rows
theorem wA:∀ {vs:List Value} {ns:List Int},IntsAre vs ns->Vals (ns.map V.int) vs
 | _,_,.nil=>.nil
 | _,_,.cons n t h=>.cons ⟨t,rfl⟩ (wA h)
def kr (H:Hp):Prop:=∀ b,H b=none\/∃ o xs,H b=some (.frz o (.lst xs))
theorem Dm {P:Program} {w:World} {K:PySem.W.Frag} {mg mb:Str->Option Value} {CX:fV} {k:Nat} {fa a:Addr} {fd:FuncData} {x:Str} {sp:Sp} {s₁:Shared} {vs:List Value} {ns:List Int}
  (KX:K.In s₁.heap) (hns:s₁.heap.Ns mainGlobals mg) (hb:s₁.heap.Ns builtinsNs mb) (hbb:∀ x:Str,x ≠ "__name__" -> mb x=bootBuiltins x) (hlim:s₁.heap.NoLimit) (hg:s₁.gens = #[])
  (ha:s₁.heap.get? a=some { cls:=.type "list",data:=.seq vs.toArray }) (hi:IntsAre vs ns) (hl:ns.length<=sizeLine) (hr:Room k callerA)
  (F:∀ base:Heap,K.In base->base.Ns mainGlobals mg->FnOk P w K mg base CX k fa fd [x] sp) (hbind:∀ (s:Shared) (u:Value),BindsTo s fd ⟨[u],[]⟩ [(x,u)])
  (hsp:∀ H:Hp,kr H->SqL K H a (ns.map V.int)->sp [.ref a] H (fun v _=>v = .bl true) fun _ _ _=>False)
  (hCX:∀ H e s',CX [] H s₁ (fun _ _ _=>False) e s'->False) :
  codeAny (model P w) callerA (.call (.ref fa) ⟨[.ref a],[]⟩) (fun r s' => r = .ok (.ret (.bool true))/\OldK s₁.heap s'.heap/\s'.os=s₁.os/\AllBare s'.gens) s₁:=by
 have rv:=wA hi
 have lenV:=hi.length
 have core:∀ H:Hp,kr H->SqL K H a (ns.map V.int)->HOk P w H s₁.heap->(∀ b,H b≠none->b=a)->(H a≠none->K.lookup a=none) ->
   codeAny (model P w) callerA (.call (.ref fa) ⟨[.ref a],[]⟩) (fun r s' => r = .ok (.ret (.bool true))/\OldK s₁.heap s'.heap/\s'.os=s₁.os/\AllBare s'.gens) s₁:=by
  intro H hO hS hok hA hK
  have base_of:∀ {b:Addr} {o:Obj},s₁.heap.get? b=some o->H b=none->(eJ s₁.heap H).get? b=some o:=fun e n=>AB e n
  have noA:∀ {b:Addr} {o:Obj} {es:Array DictEntry} {ep:Nat},s₁.heap.get? b=some o->o.data = .dict es ep->H b=none:=fun {b o es ep} e d=>by
   cases q:H b with
   | none=>rfl
   | some u =>
    have e':b=a:=hA b (by rw [q];simp)
    subst e'
    rw [ha] at e;cases e
    have d':Data.seq vs.toArray _=Data.dict es ep:=d
    cases d'
  have nsK:∀ {b:Addr} {m:Str->Option Value},s₁.heap.Ns b m->(eJ s₁.heap H).Ns b m:=fun {b m} ⟨o,es,ep,e,d,r⟩=>⟨o,es,ep,base_of e (noA e d),d,r⟩
  have hKb:K.In (eJ s₁.heap H):=fun b o e=>base_of (KX b o e) (by
   cases q:H b with
   | none=>rfl
   | some u =>
    have e':b=a:=hA b (by rw [q];simp)
    subst e'
    rw [hK (by rw [q];simp)] at e;cases e)
  have hM:Mod K mg (eJ s₁.heap H):=⟨hKb,nsK hns,⟨mb,nsK hb,hbb⟩,let ⟨mc,h1,h2⟩:=hlim;⟨mc,nsK h1,h2⟩⟩
  have e0:Env0 P w K mg (eJ s₁.heap H) callerA [] s₁ H:=⟨rfl,hM,fun b o e=>AC e,Nl (AA _ _),trivial,fun b hb=>absurd (show b∈([]:List Addr) from hb) (by simp),hok,.of_eq hg⟩
  refine Nz ((F _ hKb (nsK hns)).run callerA [] s₁ H ⟨[.ref a],[]⟩ [.ref a] [.ref a] _ _ hr e0 (hbind s₁ (.ref a)) (.cons rfl .nil) (hsp H hO hS)) fun r s' h=>?_
  cases r with
  | error e=>exact (hCX H e s' h).elim
  | ok fl =>
   cases fl with
   | next=>exact False.elim h
   | brk=>exact False.elim h
   | cont=>exact False.elim h
   | ret u =>
    obtain ⟨v,H',os,bare,un,hok',r',q⟩:=h
    have q':v = .bl true:=q
    subst q'
    obtain rfl:u=Value.bool true:=r'
    refine ⟨rfl,OldK.of_keep fun b o e=>?_,os,bare⟩
    cases q:H b with
    | none=>exact un.keep b o e q (by intro z;exact absurd (show b∈([]:List Addr) from z) (by simp)) (by simp)
    | some u =>
     rcases hO b with z | ⟨ob,xs,z⟩
     ·rw [q] at z;cases z
     ·have z2:=un.frzs b ob _ z
      obtain ⟨e1,_⟩:=hok b _ z
      obtain ⟨e2,_⟩:=hok' b _ z2
      rw [e] at e1;cases e1
      exact e2
 cases hk:K.lookup a with
 | some o =>
  have e:=KX a o hk
  rw [ha] at e
  cases e
  refine core (fun _=>none) (fun _=>.inl rfl) (.inr ⟨_,vs.toArray,_,hk,rfl,rfl,rfl,by rw [Ks,lenV];exact hl,by simpa using rv⟩) (fun b u z=>by have z':(none:Option HO)=some u:=z;cases z') (fun b z=>absurd rfl z) fun z=>absurd rfl z
 | none =>
  refine core (fun b=>if b=a then some (.frz { cls:=.type "list",data:=.seq vs.toArray } (.lst (ns.map V.int))) else none) (fun b=>?_) (.inl (.inr ⟨{ cls:=.type "list",data:=.seq vs.toArray },Ku rfl⟩)) (fun b u z=>?_) (fun b z=>?_) fun _=>hk
  ·by_cases hb:b=a
   ·exact .inr ⟨_,_,Ku hb⟩
   ·exact .inl (KF hb)
  ·by_cases hb:b=a
   ·have z' := (Ku hb).symm.trans z
    cases z'
    subst hb;exact ⟨ha,by rw [Kv];exact hl,vs,_,rv,ha⟩
   ·have z' := (KF hb).symm.trans z
    cases z'
  ·by_cases hb:b=a
   ·exact hb
   ·exact absurd (KF hb) z
end L2
namespace L2
open PySem PySem.Spec PyProof.Rows
theorem walk_of {l:PySem.W.OpenLaw} {n k:Nat} {q:Program} {loose:List Str} {XP:(Str->Option Value)->Heap->Prop} {YP:World->Heap->Prop} {d:DefRec} {K:Params->PySem.W.Frag} {CX:World->fV} {sp:World->Sp} {x:Str}
  (hn:l.most=some n) (hn2:n<=sizeLine) (hdf:d.params.defaults=[]) (hr:Room k callerA)
  (hY:∀ (w:World) (h:Heap),YP w h->(K w.params).In h)
  (F:∀ (w:World) (mg:Str->Option Value) (fa:Addr) (h:Heap),(K w.params).In h->h.Ns mainGlobals mg->mg d.name=some (.ref fa) ->
   ∃ fd:FuncData,(∀ (s:Shared) (u:Value),BindsTo s fd ⟨[u],[]⟩ [(x,u)]) /\
    ∀ base:Heap,(K w.params).In base->base.Ns mainGlobals mg->FnOk l.prog w (K w.params) mg base (CX w) k fa fd [x] (sp w))
  (hsp:∀ (w:World) (H:Hp) (a:Addr) (ns:List Int),ns.length<=n->kr H->SqL (K w.params) H a (ns.map V.int)->sp w [.ref a] H (fun v _=>v = .bl true) fun _ _ _=>False)
  (hCX:∀ (w:World) (H:Hp) (s:Shared) (e:Value) (s':Shared),CX w [] H s (fun _ _ _=>False) e s'->False) :
  PySem.W.WalkO q loose XP YP l.row.toRowW d [] (fun f vs=>PySem.call f vs):=by
 refine Att.attach_call hn hdf fun w s₀ s₁ mg mb fa o pm cd doc a vs ns G Y ho hd hcd hmg hobj hints hlen hg=>?_
 have KX:=hY w _ Y
 obtain ⟨fd,hb,hF⟩:=F w mg fa _ KX G.T.g hmg
 exact Dm KX G.T.g G.T.b G.T.builtins G.T.nolimit hg hobj hints (Kn hlen hn2) hr hF hb (fun H hO hS=>hsp w H a ns hlen hO hS) fun H e s' => hCX w H s₁ e s'
end L2
namespace L2
open PySem PySem.Spec PyProof.Rows
def fK (s:Stmt) (j:Nat):Stmt:=match s with
 | .ClassDef _ _ _ body _ _ _ _ _ _ _=>body.getD j (.Pass ⟨0,0,0,0⟩)
 | _=>.Pass ⟨0,0,0,0⟩
def ku (s:Stmt):Arguments:=match s with
 | .FunctionDef _ a _ _ _ _ _ _ _ _=>a
 | _=>{ posonlyargs:=[],args:=[],vararg:=none,kwonlyargs:=[],kw_defaults:=[],kwarg:=none,defaults:=[] }
def iQ (s:Stmt):List Stmt:=match s with
 | .FunctionDef _ _ b _ _ _ _ _ _ _=>b
 | _=>[]
def aO (s:Stmt):Scope:=match s with
 | .FunctionDef _ _ _ _ _ _ sc _ _ _=>sc
 | _=>{ kind:=.function,names:=[],isGenerator:=false,isCoroutine:=false }
abbrev E0:XK:=fun _ _ _=>False
structure Fun (K:PySem.W.Frag) (x qual:Str) (st:Stmt) (f:Addr) (fd:FuncData):Prop where
 ex:∃ (oc:Value) (od:Option Addr) (kV doc pm:Value) (an:Option Addr) (cdv ct:Value) (osl:Array (Option Value)),
  fd=PySem.W.fnOf x qual (ku st) (iQ st) (aO st) .none kV doc pm an cdv ct/\K.lookup f=some ⟨oc,od,.func fd,osl⟩/\PySem.W.codeIn K cdv qual=true
 kp:PySem.W.keepIn K (.ref f)=true
section
variable {P:Program} {w:World} {K:PySem.W.Frag} {mg:Str->Option Value} {base:Heap}
theorem Fun.binds {x qual:Str} {st:Stmt} {f:Addr} {fd:FuncData} {ps:List Str} (F:Fun K x qual st f fd)
  (h:∀ (kV doc pm:Value) (an:Option Addr) (cdv ct:Value) (us:List Value),us.length=ps.length->bindArgs (PySem.W.fnOf x qual (ku st) (iQ st) (aO st) .none kV doc pm an cdv ct) ⟨us,[]⟩=pure (ps.zip us)):Binds K fd ps []:=by
 obtain ⟨oc,od,kV,doc,pm,an,cdv,ct,osl,rfl,lk,hcd⟩:=F.ex
 exact .all (h kV doc pm an cdv ct)
theorem wB {x qual:Str} {st:Stmt} {f:Addr} {oc:Value} {od an:Option Addr} {osl:Array (Option Value)} {kV doc pm cdv ct:Value} (l:K.lookup f=some ⟨oc,od,.func (PySem.W.fnOf x qual (ku st) (iQ st) (aO st) .none kV doc pm an cdv ct),osl⟩)
  (c:PySem.W.codeIn K cdv qual=true) (k:PySem.W.keepIn K (.ref f)=true):Fun K x qual st f (PySem.W.fnOf x qual (ku st) (iQ st) (aO st) .none kV doc pm an cdv ct):=⟨⟨oc,od,kV,doc,pm,an,cdv,ct,osl,rfl,l,c⟩,k⟩
end
section
variable {X:Cx}
theorem pv (i:Nat) {x:Str} {pos:Pos} (hN:X.N[i]? = some x:=by rfl) (hv:lF X.env.scope x:=by first | exact Or.inl rfl | exact Or.inr (Or.inl rfl) | exact Or.inr (Or.inr rfl)) (hd:(x == ("__debug__" : Str))=false:=by decide)
  (hcd:(x == ("__classdict__" : Str))=false:=by decide):PE X (.Name x pos) (mD i):=AD hN hv hd hcd
theorem Do:CallR X (.builtin "len") (fun xs H Q=>∃ a kvs,xs=[V.ref a]/\H a=some (.dK kvs)/\Q (.int kvs.length) H):=by
 intro pins s σ H xs us Q I r h
 obtain ⟨a,kvs,rfl,ha,q⟩:=h
 obtain ⟨u,rfl,ru⟩:=hZ r
 cases ru
 exact C7 I (.inl ha) fun t s' I' => ⟨.int kvs.length,H,I',⟨t,rfl⟩,q⟩
end
section
variable {κ:Type} [DecidableEq κ]
end
end L2
set_option maxHeartbeats 4000000
namespace L2
open PySem PySem.Spec PyProof.Rows
section
variable {X:Cx} {pins:List (Addr×Obj)} {σ:St} {H:Hp} {s:Shared} {h':Heap}
theorem Inv.turnedL {t':Nat} {fp:List Addr} (I:Inv X pins σ H s) (k:∀ b o,b∉fp->s.heap.get? b=some o->h'.get? b=some o) (hf:∀ b∈fp,cR X pins H b) :
  Inv X pins σ H { s with heap:=h',toks:=t' }:=by
 have nit:∀ b u,H b=some u->b∉fp:=fun b u e z=>by
  have q:=(hf b z).1
  rw [q] at e
  cases e
 refine I.step (g' := s.gens) (d' := s.drawn) (ch:=fp) (fun b hb=>?_) (fun b o _ _ hc e _=>k b o hc e) (fun b o _ _ hc e _=>⟨o.slots,k b o hc e⟩) (fun _ _ _ _ n=>n)
  (fun b o hc e=>⟨o,k b o hc e⟩) (fun _ _ e=>e) (fun _ _ _ e=>e) (fun b ps e=>⟨#[],by rw [e];simp⟩) (fun m hm=>?_) (fun b u e=>?_) I.bare
 ·obtain ⟨_,f1,_,f3,f4,f5⟩:=hf b hb
  exact ⟨f3,f1,f4,f5⟩
 ·obtain ⟨o,es,ep,ho,r⟩:=hm
  exact ⟨o,es,ep,k _ o (fun z=>(hf _ z).2.1 rfl) ho,r⟩
 ·refine (I.hok b u e).stay (fun c v hc q=>k c v ?_ q) (fun _ q=>q) fun _ _ q=>q
  rcases hc with z | z
  ·rw [z];exact nit b u e
  ·exact nit c _ z
theorem Inv.adopt {T:Addr} {ob:HO} (I:Inv X pins σ H s) (hn:H T=none) (hT:X.s₀.heap.objs.size<=T) (hL:T≠X.env.locals) (hc:∀ x c,X.env.cells.lookup x=some c->c≠T)
  (hp:∀ p∈X.pn++pins,p.1≠T) (new:ObjOk X.prog X.w (aJ H T ob) s.heap T ob):Inv X pins σ (aJ H T ob) s:=by
 have hne:∀ b u,H b=some u->b≠T:=fun b u e=>gK e hn
 refine I.step (h' := s.heap) (g' := s.gens) (d' := s.drawn) (t' := s.toks) (ch:=[T]) (fun b hb=>?_) (fun b o _ _ _ e _=>e) (fun b o _ _ _ e _=>⟨o.slots,e⟩) (fun b o hb e n=>?_) (fun b o _ e=>⟨o,e⟩)
  (fun b xs e=>by rw [bS (hne b _ e)];exact e) (fun b o u e=>by rw [bS (hne b _ e)];exact e) (fun b ps e=>⟨#[],by rw [bS (hne b _ e),e];simp⟩) (fun m hm=>hm) (fun b u e=>?_) I.bare
 ·have e:b=T:=by simpa using hb
  subst e;exact ⟨.inr hT,hL,hc,hp⟩
 ·rw [bS (fun z=>hb (by simp [z]))];exact n
 ·by_cases hb:b=T
  ·subst hb;rw [eG] at e;cases e;exact new
  ·rw [bS hb] at e
   exact (I.hok b u e).stay (fun c v _ q=>q) (fun c q=>by rw [bS (hne c _ q)];exact q) fun c xs q=>by rw [bS (hne c _ q)];exact q
end
section
variable {X:Cx}
end
def rD (x:Str):It:=⟨fun i _=>i<x.cps.size,fun i H v H' => H'=H/\∃ c,x.cps[i]? = some c/\v = .str ⟨#[c]⟩,fun i _=>x.cps.size<=i⟩
theorem Dp {P:Program} {w:World} {A:Around} (hh:A.handled=none) (it:Addr) (x:Str) (t:Tok) :
  Walks P w A it [it] [it] x.cps.size (SignAt x) (fun i h=>h.IsStrIter it (strIterType x) x t i):=by
 cases ha:x.cps.all (· < 128) with
 | false =>
  have e:strIterType x = "str_iterator" := by simp [strIterType,ha]
  rw [e];exact Walks.strWide hh it x t
 | true =>
  have e:strIterType x = "str_ascii_iterator" := by simp [strIterType,ha]
  rw [e];exact Walks.strAscii hh it x t
theorem Dq {P:Program} {w:World} {K:PySem.W.Frag} {y:Str} {py:Pos} (it:Addr) (x:Str) (t:Tok):e7 P w K (.Name y py) (rD x) [it] it (fun i h=>h.IsStrIter it (strIterType x) x t i) where
 mem:=by simp
 obj:=fun i h st b hb=>by
  have e:b=it:=by simpa using hb
  subst e;obtain ⟨o,e,c,d⟩:=st
  exact ⟨o,e,fun v z=>by rw [d] at z;cases z⟩
 keep:=fun i h h' st k=>by
  obtain ⟨o,e,r⟩:=st
  exact ⟨o,k it (by simp) o e,r⟩
 item:=by
  intro X hP hw hK hc i pins s σ H E I hf st hg
  subst hP hw hK
  refine (Dp (I.ok.hd hc) it x t).item i s _ _ hg st fun v h1 tk hv st1 kk=>?_
  obtain ⟨c,u,hcp,rfl⟩:=hv
  have I1:Inv X pins σ H { s with heap:=h1,toks:=tk }:=I.turnedL (fp:=[it]) kk hf
  exact ⟨_,rfl,K0 ⟨.str ⟨#[c]⟩,H,I1,⟨u,rfl⟩,⟨rfl,c,hcp,rfl⟩,st1,fun b hb=>(hf b hb).1⟩⟩
 done:=by
  intro X hP hw hK hc i pins s σ H E I hf st hg
  subst hP hw hK
  have hx:x.cps[i]? = none:=Array.getElem?_eq_none hg
  cases ha:x.cps.all (· < 128) with
  | false =>
   have e:strIterType x = "str_iterator" := by simp [strIterType,ha]
   rw [e] at st;exact wpAny_pyNext_wide_end (I.ok.hd hc) st hx fun h' eb=>⟨rfl,I.turnedL (fp:=[it]) (t' := s.toks) (fun b o hb q=>eb b o (fun z=>hb (by simp [z])) q) hf⟩
  | true =>
   have e:strIterType x = "str_ascii_iterator" := by simp [strIterType,ha]
   rw [e] at st;exact wpAny_pyNext_ascii_end (I.ok.hd hc) st hx fun h' eb=>⟨rfl,I.turnedL (fp:=[it]) (t' := s.toks) (fun b o hb q=>eb b o (fun z=>hb (by simp [z])) q) hf⟩
 self:=fun A i s Q E st h=>by
  cases ha:x.cps.all (· < 128) with
  | false =>
   have e:strIterType x = "str_iterator" := by simp [strIterType,ha]
   rw [e] at st;exact wpAny_pyIter_striter_wide st h
  | true =>
   have e:strIterType x = "str_ascii_iterator" := by simp [strIterType,ha]
   rw [e] at st;exact wpAny_pyIter_striter_ascii st h
section
variable {X:Cx}
def rE (tl:TE):TI:=fun σ H R=>tl σ H fun x H1=>∃ t,x = .str t/\R (rD t) H1
theorem Dr {l:Expr} {tl:TE} {y:Str} {py:Pos} (hl:PE X l tl):PI X (.Name y py) l (rE tl):=by
 intro pins s σ H R I h
 refine thn (hl pins s σ H _ I h) fun v s1 ⟨x,H1,I1,r1,q1⟩=>?_
 obtain ⟨t,e,q⟩:=q1
 subst e;obtain ⟨tk,rfl⟩:=r1
 refine wpAny_pyIter_strU ?_
 refine ⟨s1.heap.objs.size,[s1.heap.objs.size],_,_,H1,rfl,I1.kept (t' := s1.toks) fun b o e=>Kt _ e,Dq _ t tk,⟨_,KZ _ rfl,rfl,rfl⟩,fun b hb=>?_,q⟩
 have e:b=s1.heap.objs.size:=by simpa using hb
 subst e;exact I1.fpOk (Kj _) (I1.hok.fresh (Kj _))
end
def cI (env:Env):List (Str×NameKind)->List (Str×Addr)->List (Str×Addr)
 | [],acc=>acc
 | (n,k)::r,acc=>cI env r (if k = .free then (n,(env.cells.lookup n).getD 0)::acc else acc)
theorem wC {env:Env} {scope:Scope} (h:∀ y∈scope.names,y.2 = .free->(env.cells.lookup y.1).isSome=true):closureFor scope env=pure (cI env scope.names []):=by
 have all:∀ (l:List (Str×NameKind)) (acc:List (Str×Addr)),(∀ y∈l,y.2 = .free->(env.cells.lookup y.1).isSome=true) ->
   (forIn l acc fun (x:Str×NameKind) (cs:List (Str×Addr))=>if (x.2 == NameKind.free)=true then (do let a <- cellOf env x.1;pure (ForInStep.yield ((x.1,a)::cs))) else (pure (ForInStep.yield cs):Sem _))=pure (cI env l acc):=by
  intro l
  induction l with
  | nil=>intro acc _;rfl
  | cons y r ih =>
   intro acc hl
   obtain ⟨n,k⟩:=y
   rw [List.forIn_cons];have hr:=fun z hz=>hl z (Kp _ hz)
   by_cases hk:k = .free
   ·subst hk
    obtain ⟨c,hc⟩:=KR.mp (hl (n,.free) Km rfl)
    have e1:cellOf env n=pure c:=by
     simp only [cellOf]
     have hc':env.cells.lookup n=some c:=hc
     rw [hc']
    simp only [beq_self_eq_true,Lp,e1,pure_bind,cI]
    have hc':env.cells.lookup n=some c:=hc
    rw [hc'];exact ih _ hr
   ·have hb:(k == NameKind.free)=false:=by simpa using hk
    simp only [hb,Bool.false_eq_true,Oq,pure_bind,cI,hk]
    exact ih _ hr
 unfold closureFor
 have q:=all scope.names [] h
 first
  | exact q
  | (simp only [bind_pure];exact q)
  | (rw [<- q];simp)
theorem mR {env:Env}:∀ {l:List (Str×NameKind)} {acc:List (Str×Addr)},(∀ y∈l,y.2 = .free->(env.cells.lookup y.1).isSome=true)->(∀ y c,acc.lookup y=some c->env.cells.lookup y=some c) ->
  ∀ y c,(cI env l acc).lookup y=some c->env.cells.lookup y=some c
 | [],_,_,h,y,c,e=>h y c e
 | (n,k)::r,acc,hl,h,y,c,e=>by
  refine mR (l:=r) (fun z hz=>hl z (Kp _ hz)) ?_ y c e
  intro y c e
  by_cases hk:k = .free
  ·rw [Ku hk] at e
   rw [Mh] at e
   cases hy:y == n with
   | true =>
    rw [hy] at e;have e':y=n:=by simpa using hy
    obtain ⟨c',hc'⟩:=KR.mp (hl (n,k) Km hk)
    have hc'':env.cells.lookup n=some c' := hc'
    rw [hc''] at e;rw [e',hc''];exact e
   | false =>
    rw [hy] at e;exact h y c e
  ·rw [KF hk] at e
   exact h y c e
theorem mS {env:Env}:∀ {l:List (Str×NameKind)} {acc:List (Str×Addr)} {y:Str},(y,NameKind.free)∈l\/(acc.lookup y).isSome=true->((cI env l acc).lookup y).isSome=true
 | [],_,_,h=>by
  rcases h with h | h
  ·cases h
  ·exact h
 | (n,k)::r,acc,y,h=>by
  refine mS (l:=r) ?_
  rcases h with h | h
  ·rcases KJ.mp h with e | e
   ·right
    cases e
    rw [Ku rfl,Mh];simp
   ·exact .inl e
  ·right
   by_cases hk:k = .free
   ·rw [Ku hk,Mh]
    cases hy:y == n with
    | true=>rfl
    | false=>exact h
   ·rw [KF hk];exact h
theorem iR {names:List (Str×NameKind)} {x:Str} {k:NameKind} (h:names.lookup x=some k):(x,k)∈names:=Ly h
theorem kx {env:Env} {x:Str} {k:NameKind}:∀ {names:List (Str×NameKind)},(names.map fun (n,k)=>if (k == NameKind.free && env.scope.kind == .function && env.kindOf n == some .cell) then (n,NameKind.cell) else (n,k)).lookup x=some k ->
  names.lookup x=some k\/(k = .cell/\names.lookup x=some .free)
 | [],h=>by simp at h
 | (n,kk)::r,h=>by
  have ih:=@kx env x k r
  by_cases hc:(kk == NameKind.free && env.scope.kind == .function && env.kindOf n == some .cell)=true
  ·have hf:kk = .free:=by
    have q:=(Lr _ _).mp ((Lr _ _).mp hc).1
    simpa using q.1
   subst hf;have h':List.lookup x ((n,NameKind.cell)::(r.map fun (n,k)=>if (k == NameKind.free && env.scope.kind == .function && env.kindOf n == some .cell) then (n,NameKind.cell) else (n,k)))=some k:=by
    have e:(fun (p:Str×NameKind)=>match p with | (n,k)=>if (k == NameKind.free && env.scope.kind == .function && env.kindOf n == some .cell)=true then (n,NameKind.cell) else (n,k)) (n,NameKind.free)=(n,NameKind.cell):=by
     show (if _ then _ else _)=_
     rw [Ku hc]
    rw [KY] at h;rw [<- e];exact h
   rw [Mh] at h' ⊢
   cases hx:x == n with
   | true =>
    rw [hx] at h';right
    exact ⟨(K4 h').symm,rfl⟩
   | false =>
    rw [hx] at h';exact ih h'
  ·have h':List.lookup x ((n,kk)::(r.map fun (n,k)=>if (k == NameKind.free && env.scope.kind == .function && env.kindOf n == some .cell) then (n,NameKind.cell) else (n,k)))=some k:=by
    have e:(fun (p:Str×NameKind)=>match p with | (n,k)=>if (k == NameKind.free && env.scope.kind == .function && env.kindOf n == some .cell)=true then (n,NameKind.cell) else (n,k)) (n,kk)=(n,kk):=by
     show (if _ then _ else _)=_
     rw [KF hc]
    rw [KY] at h;rw [<- e];exact h
   rw [Mh] at h' ⊢
   cases hx:x == n with
   | true =>
    rw [hx] at h';exact .inl h'
   | false =>
    rw [hx] at h';exact ih h'
def dt (X:Cx) (pins:List (Addr×Obj)) (x₁:Str) (jf:List (Nat×Str)) (scope:Scope) (cl:List (Str×Addr)) (s:Shared) (H:Hp) (fp:List Addr):Cx where
 prog:=X.prog
 w:=X.w
 K:=X.K
 mg:=X.mg
 base:=X.base
 A:=X.A
 N:=x₁::jf.map (·.2)
 s₀:=s
 H₀:=H
 env:=compEnvC scope cl s.heap.objs.size X.env
 outer:=X.stack
 stack:=X.stack
 ex:=fp
 fn:=fun _=>false
 calm:=X.calm
 pn:=X.pn++pins
 xe:=fun _ _=>False
def fL (v:Option V) (js:List (Nat×Str)) (σ:St):St:=v::js.map fun j=>(σ[j.1]?).join
def iA (X:Cx) (ifs:List Expr) (t:TT):Prop :=
 ∀ (pins:List (Addr×Obj)) (s:Shared) (σ:St) (H:Hp) (Q:Bool->Hp->Prop),Inv X pins σ H s->t σ H Q ->
  wpAny (model X.prog X.w) X.A (forIn ifs true fun c r=>if r=true then do let ok <- isTrue c X.env (eval c X.env);pure (ForInStep.yield ok) else pure (ForInStep.yield r)) (TP X pins σ Q) X.xe s
def rF:TT:=fun _ H Q=>Q true H
theorem Ds {X:Cx}:iA X [] rF:=fun pins s σ H Q I h=>wpAny_tests_nil ⟨H,I,h⟩
def lJ (jf:List (Nat×Str)) (wi:TI) (tc:TT) (te:TE):TE:=fun σ H Q=>wi σ H fun J H1=>∀ D,H1 D=none->∃ W:Nat->Nat->List V->Hp->Prop,(∃ m,W 0 m [] (aJ H1 D (.lst []))) /\
 ∀ i m ys H2,W i m ys H2->H2 D=some (.lst ys)/\((J.stop i H2/\Q (.ref D) H2)\/(J.go i H2/\ys.length<sizeLine/\∀ x H3,J.yld i H2 x H3->tc (fL (some x) jf σ) H3 fun b H5 =>
  if b=true then te (fL (some x) jf σ) H5 fun v H6=>H6 D=some (.lst ys)/\∃ m',m'<m/\W (i+1) m' (ys++[v]) (aJ H6 D (.lst (ys++[v]))) else ∃ m',m'<m/\W (i+1) m' ys H5))
section
variable {X:Cx} {pins:List (Addr×Obj)} {σ:St} {H:Hp} {s:Shared} {x₁:Str} {jf:List (Nat×Str)} {scope:Scope} {fp:List Addr}
theorem Inv.block {h1:Heap} {tk:Nat} (I:Inv X pins σ H s) (hf:∀ b∈fp,cR X pins H b) (hlt:∀ b∈fp,b<s.heap.objs.size) (hjf:∀ p∈jf,X.N[p.1]? = some p.2) (hjl:∀ p∈jf,scope.names.lookup p.2=some .free) (hkind:scope.kind = .function)
  (hcell:∀ y∈scope.names,y.2 ≠ .cell) (hfr:∀ y∈scope.names,y.2 = .free->X.env.kindOf y.1=some .cell\/X.env.kindOf y.1=some .free)
  (hn:h1.Ns s.heap.objs.size (fun _=>none)) (hk:∀ b o,s.heap.get? b=some o->h1.get? b=some o) :
  Inv (dt X pins x₁ jf scope (cI X.env scope.names []) s H fp) [] (fL none jf σ) H { s with heap:=h1,toks:=tk }:=by
 have hsome:∀ y∈scope.names,y.2 = .free->(X.env.cells.lookup y.1).isSome=true:=fun y hy hyf=>KR.mpr (I.ok.has y.1 (hfr y hy hyf))
 have sub:∀ y c,(cI X.env scope.names []).lookup y=some c->X.env.cells.lookup y=some c:=mR hsome (fun y c e=>by simp at e)
 have hsz:=I.sz
 have inE:∀ b,b∈(dt X pins x₁ jf scope (cI X.env scope.names []) s H fp).ex->b∈fp:=fun b z=>z
 have stk:∀ b∈dQ X.stack,b<s.heap.objs.size:=fun b hb=>by
  obtain ⟨_,o,ho,_⟩:=I.stack.mem hb
  exact KD ho
 refine ⟨⟨I.ok.mod,hkind,I.ok.glob,I.ok.blt,Kj _,fun y z c e1 e2=>I.ok.inj y z c (sub y c e1) (sub z c e2),fun y hy=>?_,fun y c hfn _=>(by cases hfn),I.ok.hd,I.ok.frames,.inl rfl,fun b hb=>?_,fun b o e=>I.bs b o e,Kn I.ok.bsz hsz,fun b o e z=>?_,fun b hb z=>?_,I.stack,I.stkFree⟩,
  rfl,I.bare,Un.kept hk,⟨_,hn,fun i y v e1 e2 e3=>?_⟩,fun y c e=>?_,I.hok.fresh (Kj _),fun y c e=>I.freeC y c (sub y c e),fun p hp=>?_,I.hok.kept hk,?_⟩
 ·have hy':(relabel scope X.env).names.lookup y=some .cell\/(relabel scope X.env).names.lookup y=some .free:=hy
  have mem:(y,NameKind.free)∈scope.names:=by
   rcases hy' with q | q
   ·rcases kx (env:=X.env) q with z | z
    ·exact absurd rfl (hcell _ (iR z))
    ·exact iR z.2
   ·rcases kx (env:=X.env) q with z | z
    ·exact iR z
    ·exact iR z.2
  exact KR.mp (mS (.inl mem))
 ·exact ⟨K7 (hlt b hb),fun y c e=>(hf b hb).2.2.2.2.1 y c (sub y c e)⟩
 ·rcases (hf b z).2.2.2.1 with q | q
  ·exact I.ok.noex b o e q
  ·exact absurd (KP (KD e) (Kn I.ok.bsz q)) (Lx _)
 ·rcases KJ.mp (I.stkSub b z) with q | q
  ·exact (hf b hb).2.1 q
  ·exact (hf b hb).2.2.1 q
 ·have e1':(x₁::jf.map (·.2))[i]? = some y:=e1
  unfold fL at e2
  cases i with
  | zero=>cases e2
  | succ i =>
   rw [Li,K6] at e1' e2
   cases q:jf[i]? with
   | none=>rw [q] at e2;cases e2
   | some p =>
    rw [q] at e1' e2;have ey:p.2=y:=K4 e1'
    have ev:(σ[p.1]?).join=some v:=K4 e2
    have hp:p∈jf:=KQ q
    have eσ:σ[p.1]? = some (some v):=by
     cases z:σ[p.1]? with
     | none=>rw [z] at ev;cases ev
     | some r=>rw [z] at ev;rw [show r=some v from ev]
    have hfree:scope.names.lookup y=some .free:=by rw [<- ey];exact hjl p hp
    have mem:=iR hfree
    have kX:=hfr _ mem rfl
    obtain ⟨m,hnX,hl⟩:=I.loc
    obtain ⟨u,ru,lk⟩:=hl p.1 y v (by rw [<- ey];exact hjf p hp) eσ (by
     rcases kX with z | z
     ·exact .inr (.inl z)
     ·exact .inr (.inr z))
    refine ⟨u,ru,.inr ⟨?_,?_⟩⟩
    ·have e3':lF (relabel scope X.env) y:=e3
     rcases e3' with z | z | z
     ·exfalso
      rcases kx (env:=X.env) z with q | q
      ·rw [hfree] at q;cases q
      ·cases q.1
     ·exact .inl z
     ·exact .inr z
    ·rcases lk with ⟨z,_⟩ | ⟨_,c,hc,hcell'⟩
     ·exfalso
      rcases kX with q | q
      ·rw [show X.env.kindOf y=some .cell from q] at z;cases z
      ·rw [show X.env.kindOf y=some .free from q] at z;cases z
     ·obtain ⟨c',hc'⟩:=KR.mp (mS (env:=X.env) (acc:=[]) (.inl mem))
      have e:=sub y c' hc'
      rw [hc] at e
      cases e
      obtain ⟨o,ho,hd⟩:=hcell'
      exact ⟨c,hc',o,hk c o ho,hd⟩
 ·obtain ⟨v,o,ho,hd⟩:=I.cell y c (sub y c e)
  exact ⟨v,o,hk c o ho,hd⟩
 ·have hp':p∈X.pn++pins:=by simpa [dt] using hp
  obtain ⟨e,n,ne,nf,d⟩:=I.pin p hp'
  refine ⟨hk _ _ e,n,K7 (KD e),fun z=>?_,d⟩
  rcases KJ.mp (I.stkSub p.1 z) with q | q
  ·exact ne q
  ·exact nf q
 ·unfold fL
  show _=(x₁::jf.map (·.2)).length
  rw [Kk,Kk,Kv,Kv]
end
theorem wD {prog:Program} {w:World} {A:Around} {R:Result->Shared->Prop} {s:Shared} {elt target iter:Expr} {ifs:List Expr} {scope:Scope} {pos:Pos} {it acc:Value} {env:Env} (I:Nat->Shared->Prop)
  (turn:∀ n s,I n s->wpAny (model prog w) A (pyNext it) (fun r s₁=>match r with
   | none=>R (.ok .next) s₁
   | some v=>wpAny (model prog w) A (letOwnedTupleGo target it v) (fun _ s₂=>wpAny (model prog w) A (assign target env v) (fun _ s₃ =>
     wpAny (model prog w) A (forIn ifs true fun c r=>if r=true then do let ok <- isTrue c env (eval c env);pure (ForInStep.yield ok) else pure (ForInStep.yield r)) (fun ok s₄ =>
      if ok=true then wpAny (model prog w) A (eval elt env) (fun x s₅=>wpAny (model prog w) A (call (.builtin "list.append") [acc,x]) (fun _ s₆=>∃ m,m<n/\I m s₆) (fun _ _=>False) s₅) (fun _ _=>False) s₄
      else ∃ m,m<n/\I m s₄) (fun _ _=>False) s₃) (fun _ _=>False) s₂) (fun _ _=>False) s₁) (fun _ _=>False) s)
  (n:Nat) (h:I n s):codeAny (model prog w) A (.compLoop (.ListComp elt [⟨target,iter,ifs,0⟩] scope pos) 0 it acc env) R s:=by
 refine codeAny_loop rfl I (fun n s hI=>?_) n h
 show wpAny _ A ((compTurn (.ListComp elt [⟨target,iter,ifs,0⟩] scope pos) 0 it acc env).onRaise (fun x=>do noteFrame x env;theTreesLotGoes x)) _ _ s
 refine wpAny_noted ?_
 rw [compTurn_list];refine KC (Nb (KC (Lc (turn n s hI) (fun r s₁ h₁=>?_) fun _ _ z=>z.elim)))
 cases r with
 | none=>exact K0 h₁
 | some v =>
  refine KC (Lc h₁ (fun _ s₂ h₂=>?_) fun _ _ z=>z.elim)
  refine KC (Lc h₂ (fun _ s₃ h₃=>KC (Lc h₃ (fun ok s₄ h₄=>?_) fun _ _ z=>z.elim)) fun _ _ z=>z.elim)
  cases ok with
  | false=>exact K0 ⟨rfl,h₄⟩
  | true =>
   exact KC (KC (Lc h₄ (fun x s₅ h₅=>KC (Lc h₅ (fun _ s₆ h₆=>K0 (K0 ⟨rfl,h₆⟩)) fun _ _ z=>z.elim)) fun _ _ z=>z.elim))
section
variable {X:Cx} {x₁:Str} {px:Pos} {jf:List (Nat×Str)} {scope:Scope} {iter elt:Expr} {ifs:List Expr} {pos:Pos} {wi:TI} {tc:TT} {te:TE}
theorem wF (hcalm:X.calm=true) (hi:PI X (.Name x₁ px) iter wi) (hc:∀ pins cl s H fp,iA (dt X pins x₁ jf scope cl s H fp) ifs tc) (he:∀ pins cl s H fp,PE (dt X pins x₁ jf scope cl s H fp) elt te)
  (hN:(x₁::jf.map (·.2)).Nodup) (hx:scope.names.lookup x₁=some .local) (hjf:∀ p∈jf,X.N[p.1]? = some p.2) (hjl:∀ p∈jf,scope.names.lookup p.2=some .free) (hkind:scope.kind = .function)
  (hcell:∀ y∈scope.names,y.2 ≠ .cell) (hfr:∀ y∈scope.names,y.2 = .free->X.env.kindOf y.1=some .cell\/X.env.kindOf y.1=some .free)
  (hnames:∀ y∈scope.names,y.2 = .local->scope.names.lookup y.1=some .local) {use:Option (Value->Sem Unit)} {Qf:Value->Shared->Prop} {cpos:Pos}
  {pins:List (Addr×Obj)} {σ:St} {H:Hp} {s:Shared} {Q:VK} (I:Inv X pins σ H s) (h:lJ jf wi tc te σ H Q)
  (fin:∀ D C s6 H6 m6,Inv X pins σ H6 s6->Q (.ref D) H6->cR X pins H6 C->s6.heap.Ns C m6->compPost (model X.prog X.w) X.A X.xe use Qf (.ref D) C (.ok .next) s6) (hs:∀ x,foldedSetIterable iter X.env x=pure x) :
  wpAny (model X.prog X.w) X.A (comprehension (.ListComp elt [⟨.Name x₁ px,iter,ifs,0⟩] scope pos) scope X.env cpos (newList []) false (eval iter X.env) use) Qf X.xe s:=by
 have hsome:∀ y∈scope.names,y.2 = .free->(X.env.cells.lookup y.1).isSome=true:=fun y hy hyf=>KR.mpr (I.ok.has y.1 (hfr y hy hyf))
 refine Nc (use:=use) rfl hs (wC hsome) hkind hnames (thn (hi pins s σ H _ I h) fun xv s1 h1=>thn h1 fun itv s2 h2=>?_)
 obtain ⟨it,fp,tn,J,H2,e,I2,T,st2,f2,h⟩:=h2
 subst e;refine LZ (NU hcell (by intro y hy;simp at hy) (fun h₁ hns₁ hsb₁=>?_) hkind)
 have hD0:H2 s2.heap.objs.size=none:=I2.hok.fresh (Kj _)
 obtain ⟨W,⟨m0,w0⟩,step⟩:=h s2.heap.objs.size hD0
 dsimp only at hns₁ hsb₁ ⊢
 have I3:Inv X pins σ (aJ H2 s2.heap.objs.size (.lst [])) { s2 with heap:=s2.heap.push { cls:=.type "list",dict:=none,data:=.seq ([]:List Value).toArray } } :=
  I2.laid (t' := s2.toks) (fun b u q=>Kt _ q) (Kj _) ⟨KS _,[],0,.nil,KZ _ rfl⟩
 generalize hH3:s2.heap.push { cls:=.type "list",dict:=none,data:=.seq ([]:List Value).toArray }=hp3 at hns₁ hsb₁ I3 ⊢
 have hsz3:hp3.objs.size=s2.heap.objs.size+1:=by rw [<- hH3,MS]
 have k23:∀ b o,s2.heap.get? b=some o->hp3.get? b=some o:=fun b o q=>by rw [<- hH3];exact Kt _ q
 have flt:∀ b∈fp,b<s2.heap.objs.size:=fun b hb=>by
  obtain ⟨o,q,_⟩:=T.obj 0 _ st2 b hb
  exact KD q
 have f3:∀ b∈fp,cR X pins (aJ H2 s2.heap.objs.size (.lst [])) b:=fun b hb=>by
  obtain ⟨g0,g⟩:=f2 b hb
  exact ⟨by rw [bS (K7 (flt b hb))];exact g0,g⟩
 have kC:∀ b o,hp3.get? b=some o->h₁.get? b=some o:=fun b o q=>(hsb₁.2 b (K7 (KD q))).trans (Kt _ q)
 have B0:=I3.block (x₁:=x₁) (jf:=jf) (scope:=scope) (fp:=fp) (h1:=h₁) (tk:=s2.toks+([]:List (Str×Value)).length) f3 (fun b hb=>by show b<hp3.objs.size;rw [hsz3];exact Mv (flt b hb)) hjf hjl hkind hcell hfr (by simpa using hns₁) kC
 have st4:tn 0 h₁:=T.keep _ _ _ st2 fun b _ o q=>kC b o (k23 b o q)
 have w0' := w0
 have stat:∀ {H':Hp},(∀ b∈fp,H' b=none)->∀ b∈fp,cR (dt X pins x₁ jf scope (cI X.env scope.names []) { s2 with heap:=hp3 } (aJ H2 s2.heap.objs.size (.lst [])) fp) [] H' b:=fun hn b hb=>by
  obtain ⟨_,g1,g2,g3,g4,g5⟩:=f2 b hb
  refine ⟨hn b hb,K7 (by show b<hp3.objs.size;rw [hsz3];exact Mv (flt b hb)),fun z=>?_,.inl hb,fun y c q=>g4 y c (mR hsome (fun y c e=>by simp at e) y c q),fun p hp=>g5 p (by simpa [dt] using hp)⟩
  rcases KJ.mp (I2.stkSub b z) with q | q
  ·exact g1 q
  ·exact g2 q
 have loop:codeAny (model X.prog X.w) X.A (.compLoop (.ListComp elt [⟨.Name x₁ px,iter,ifs,0⟩] scope pos) 0 (.ref it) (.ref s2.heap.objs.size) (compEnvC scope (cI X.env scope.names []) hp3.objs.size X.env))
   (compPost (model X.prog X.w) X.A X.xe use Qf (.ref s2.heap.objs.size) hp3.objs.size) { s2 with heap:=h₁,toks:=s2.toks+([]:List (Str×Value)).length }:=by
  refine wD (fun n s' => ∃ i ys H',Inv (dt X pins x₁ jf scope (cI X.env scope.names []) { s2 with heap:=hp3 } (aJ H2 s2.heap.objs.size (.lst [])) fp) [] (fL none jf σ) H' s'/\tn i s'.heap/\(∀ b∈fp,H' b=none)/\W i n ys H') ?_ m0
   ⟨0,[],_,B0,st4,fun b hb=>(f3 b hb).1,w0⟩
  rintro n s5 ⟨i,ys,H5,I5,st5,fr5,w5⟩
  obtain ⟨hD5,alt⟩:=step i n ys H5 w5
  rcases alt with ⟨stop,q5⟩ | ⟨go,hlen,next⟩
  ·refine Lc (T.done (dt X pins x₁ jf scope (cI X.env scope.names []) { s2 with heap:=hp3 } (aJ H2 s2.heap.objs.size (.lst [])) fp) rfl rfl rfl hcalm i [] s5 _ H5 (fun _ _=>False) I5 (stat fr5) st5 stop) (fun r s6 ⟨hr,I6⟩=>?_) fun _ _ z=>z
   subst hr;obtain ⟨m6,hn6,_⟩:=id I6.loc
   refine fin _ _ s6 H5 m6 ?_ q5 (I3.fpOk (Kj _) I6.free) hn6
   refine I3.call' (ch:=fp) I6.os I6.base I6.hok I6.bare (fun b hb=>?_)
   obtain ⟨_,g1,g2,g3,g4,g5⟩:=f2 b hb
   exact ⟨g3,g1,g4,g5⟩
  ·refine Lc (T.item (dt X pins x₁ jf scope (cI X.env scope.names []) { s2 with heap:=hp3 } (aJ H2 s2.heap.objs.size (.lst [])) fp) rfl rfl rfl hcalm i [] s5 _ H5 (fun _ _=>False) I5 (stat fr5) st5 go) (fun r s6 ⟨u,hr,h6⟩=>?_) fun _ _ z=>z
   subst hr;refine Lc h6 (fun _ s7 ⟨x,H7,I7,r7,y7,st7,fr7⟩=>?_) fun _ _ z=>z
   have I7' := I7.pinned (stat fr7) (T.obj _ _ st7)
   have hloc:iP (dt X pins x₁ jf scope (cI X.env scope.names []) { s2 with heap:=hp3 } (aJ H2 s2.heap.objs.size (.lst [])) fp).env.scope x₁:=.inl (LF hx)
   refine Mz (qD (i:=0) I7' hN rfl hloc r7 (fun s8 I8=>?_) (.inr (LF hx)))
   have q8:=next x H7 y7
   have I8':Inv (dt X pins x₁ jf scope (cI X.env scope.names []) { s2 with heap:=hp3 } (aJ H2 s2.heap.objs.size (.lst [])) fp) ([]++fU fp s7.heap) (fL (some x) jf σ) H7 s8:=I8
   have again:∀ {s9:Shared} {H9:Hp} {zs:List V} {m':Nat},Inv (dt X pins x₁ jf scope (cI X.env scope.names []) { s2 with heap:=hp3 } (aJ H2 s2.heap.objs.size (.lst [])) fp) ([]++fU fp s7.heap) (fL (some x) jf σ) H9 s9->m'<n->W (i+1) m' zs H9 ->
     ∃ m,m<n/\∃ i ys H',Inv (dt X pins x₁ jf scope (cI X.env scope.names []) { s2 with heap:=hp3 } (aJ H2 s2.heap.objs.size (.lst [])) fp) [] (fL none jf σ) H' s9/\tn i s9.heap/\(∀ b∈fp,H' b=none)/\W i m ys H' := fun {s9 H9 zs m'} I9 hm w9=>by
    refine ⟨m',hm,i+1,zs,H9,I9.unpinned.weak (by simp [fL]) (fun j v e=>?_),T.keep _ _ _ st7 fun b hb o e=>(I9.pin (b,o) (KG _ (KG _ (lG hb e)))).1,fun b hb=>?_,w9⟩
    ·cases j with
     | zero=>simp [fL] at e
     | succ j=>simpa [fL] using e
    ·obtain ⟨o,e,d⟩:=T.obj _ _ st7 b hb
     exact (I9.pin (b,o) (KG _ (KG _ (lG hb e)))).2.1
   refine Lc (hc pins _ _ _ fp ([]++fU fp s7.heap) s8 _ H7 _ I8' q8) (fun ok s9 ⟨H9,I9,q9⟩=>?_) fun _ _ z=>z
   cases ok with
   | false =>
    rw [KF KO] at q9 ⊢;obtain ⟨m',hm,w9⟩:=q9
    exact again I9 hm w9
   | true =>
    rw [Ku rfl] at q9 ⊢;refine Lc (he pins _ _ _ fp ([]++fU fp s7.heap) s9 _ H9 _ I9 q9) (fun y s10 ⟨v,H10,I10,r10,hD10,m',hm,w10⟩=>?_) fun _ _ z=>z
    refine Lc (rn (X:=(dt X pins x₁ jf scope (cI X.env scope.names []) { s2 with heap:=hp3 } (aJ H2 s2.heap.objs.size (.lst [])) fp)) ([]++fU fp s7.heap) s10 (fL (some x) jf σ) H10 (.ref s2.heap.objs.size) [v] (.ref s2.heap.objs.size) [y] (fun _ H' => H'=aJ H10 s2.heap.objs.size (.lst (ys++[v]))) I10 rfl (.cons r10 .nil) ⟨_,ys,v,rfl,rfl,hD10,hlen,rfl⟩)
     (fun _ s11 ⟨_,H11,I11,_,e11⟩=>?_) fun _ _ z=>z
    subst e11;exact again I11 hm w10
 exact NB loop (T.self _ 0 _ _ _ st4 loop)
theorem wG (hcalm:X.calm=true) (hi:PI X (.Name x₁ px) iter wi) (hc:∀ pins cl s H fp,iA (dt X pins x₁ jf scope cl s H fp) ifs tc) (he:∀ pins cl s H fp,PE (dt X pins x₁ jf scope cl s H fp) elt te)
  (hN:(x₁::jf.map (·.2)).Nodup) (hx:scope.names.lookup x₁=some .local) (hjf:∀ p∈jf,X.N[p.1]? = some p.2) (hjl:∀ p∈jf,scope.names.lookup p.2=some .free) (hkind:scope.kind = .function)
  (hcell:∀ y∈scope.names,y.2 ≠ .cell) (hfr:∀ y∈scope.names,y.2 = .free->X.env.kindOf y.1=some .cell\/X.env.kindOf y.1=some .free)
  (hnames:∀ y∈scope.names,y.2 = .local->scope.names.lookup y.1=some .local) (hs:∀ x,foldedSetIterable iter X.env x=pure x:=by intro _;rfl) :
  PE X (.ListComp elt [⟨.Name x₁ px,iter,ifs,0⟩] scope pos) (lJ jf wi tc te):=by
 intro pins s σ H Q I h
 rw [eval_ListComp];refine wF hcalm hi hc he hN hx hjf hjl hkind hcell hfr hnames (use:=none) (Qf:=EP X pins σ Q) I h (fun D C s6 H6 m6 I6 q6 f6 n6=>?_) hs
 refine ⟨m6,n6,fun h' hs' => ⟨.ref D,H6,?_,rfl,q6⟩⟩
 exact I6.turnedL (fp:=[C]) (t' := s6.toks) (fun b o hb q=>(hs'.2 b (fun z=>hb (by simp [z]))).trans q) (fun b hb=>by
  have e:b=C:=by simpa using hb
  subst e;exact f6)
theorem Dt {y:Str} {py spos:Pos} {i:Nat} (hcalm:X.calm=true) (hi:PI X (.Name x₁ px) iter wi) (hc:∀ pins cl s H fp,iA (dt X pins x₁ jf scope cl s H fp) ifs tc) (he:∀ pins cl s H fp,PE (dt X pins x₁ jf scope cl s H fp) elt te)
  (hN:(x₁::jf.map (·.2)).Nodup) (hx:scope.names.lookup x₁=some .local) (hjf:∀ p∈jf,X.N[p.1]? = some p.2) (hjl:∀ p∈jf,scope.names.lookup p.2=some .free) (hkind:scope.kind = .function)
  (hcell:∀ y∈scope.names,y.2 ≠ .cell) (hfr:∀ y∈scope.names,y.2 = .free->X.env.kindOf y.1=some .cell\/X.env.kindOf y.1=some .free)
  (hnames:∀ y∈scope.names,y.2 = .local->scope.names.lookup y.1=some .local) (hNX:X.N.Nodup) (hi':X.N[i]? = some y) (hy:X.env.scope.names.lookup y=some .local)
  (hsw:swapsWith (.ListComp elt [⟨.Name x₁ px,iter,ifs,0⟩] scope pos) (some (.Name y py)) spos.line X.env=pure true) (hs:∀ x,foldedSetIterable iter X.env x=pure x:=by intro _;rfl) :
  PS X (.Assign [.Name y py] (.ListComp elt [⟨.Name x₁ px,iter,ifs,0⟩] scope pos) spos) (iy (lJ jf wi tc te) (km i)):=by
 intro pins s σ H D I h
 rw [NO _ _ _ _ hsw];refine KC (Nb (KC ?_))
 show wpAny _ X.A (do let _ <- comprehension (.ListComp elt [⟨.Name x₁ px,iter,ifs,0⟩] scope pos) scope X.env _ (newList []) false (eval iter X.env) (some (assign (.Name y py) X.env))) _ _ s
 refine KC (Lc (wF (Qf:=fun _ s' => SP X pins D .next s') hcalm hi hc he hN hx hjf hjl hkind hcell hfr hnames (use:=some (assign (.Name y py) X.env)) I h (fun D' C s6 H6 m6 I6 q6 f6 n6=>?_) hs) (fun _ s' hq=>K0 (K0 hq)) fun _ _ e=>e)
 refine Mz (qC I6 hNX hi' (.inl hy) (v:=.ref D') rfl (fun s7 I7 ⟨a,hsa,ha⟩=>?_) (.inr hy))
 have ne:C≠a:=by
  rcases ha with z | z
  ·rw [z];exact f6.2.1
  ·exact fun q=>f6.2.2.2.2.1 y a z q.symm
 refine ⟨m6,n6.sameBut hsa ne,fun h' hs' => ⟨_,H6,?_,q6⟩⟩
 exact I7.turnedL (fp:=[C]) (t' := s7.toks) (fun b o hb q=>(hs'.2 b (fun z=>hb (by simp [z]))).trans q) (fun b hb=>by
  have e:b=C:=by simpa using hb
  subst e;exact f6)
end
end L2
namespace L2
open PySem PySem.Spec PyProof.Rows
section
variable {X:Cx} {a b e:Expr} {ta tb:TE} {p p2 pos:Pos}
theorem Du {c:V} {cv:Value} (rc:∀ u,RelV c u->u=cv) :
  CallR X (.builtin "isinstance") (fun xs H Q=>∃ x t r,xs=[x,c]/\cX X.K H x t/\PySem.W.kitOne X.K t cv=some r/\Q (.bl r) H):=by
 intro pins s σ H xs us Q I r h
 obtain ⟨x,t,k,rfl,ty,hk,q⟩:=h
 obtain ⟨u,w',rfl,rx,ry⟩:=oI r
 obtain rfl:=rc _ ry
 exact B6 I rx ty hk fun tk=>⟨.bl k,H,I.tok _,rfl,q⟩
theorem wH (n:String):∀ u,RelV (.ty n) u->u=Value.type n:=fun _ r=>r
theorem Dv:OpR X (compareOp .LtE) (fun x y H Q=>∃ i j,x = .str i/\y = .str j/\Q (.bl (!decide (j.cps.toList<i.cps.toList))) H):=by
 intro pins s σ H x y v u Q I rx ry h
 obtain ⟨i,j,rfl,rfl,q⟩:=h
 obtain ⟨t,rfl⟩:=rx
 obtain ⟨t',rfl⟩:=ry
 exact PySem.P.le_str (cK I q rfl)
theorem Dw:eg X "str.count" (fun x vs H Q=>∃ z y,x = .str z/\vs=[.str y]/\Q (.int ((Builtin.Str.occurrences z y 0 z.length (z.length+1)).length:Nat)) H):=by
 intro pins s σ H x vs v us Q I rx rv h
 obtain ⟨z,y,rfl,rfl,q⟩:=h
 obtain ⟨t,rfl⟩:=rx
 obtain ⟨u,rfl,t',rfl⟩:=hZ rv
 exact call_gives F.slot_str_count (Ny s z t) F.entry_str_count (F.args_str_count_2 _ _) (gives_str_count z y t t') ⟨.int _,H,I.tok _,⟨_,rfl⟩,q⟩
theorem Dx (hc:X.calm=true):CallR X (.builtin "all") (fun xs H Q=>∃ (a:Addr) (bs:List Bool),xs=[.ref a]/\SqL X.K H a (bs.map V.bl)/\Q (.bl (bs.all id)) H):=by
 intro pins s σ H xs us Q I r h
 obtain ⟨l,bs,rfl,hq,q⟩:=h
 obtain ⟨u,rfl,rx⟩:=hZ r
 cases rx
 obtain ⟨its,rv,pl,hz⟩:=I.list hq
 have hlt:l<s.heap.objs.size:=by obtain ⟨_,_,e,_⟩:=pl;exact KD e
 have hlen:its.length=bs.length:=by rw [<- rv.length,Kv]
 refine call_all_walk (M6 pl.isList ?_)
 refine ⟨s.heap.objs.size,[s.heap.objs.size,l],[s.heap.objs.size],its.toArray.size,_,_,fun i=>(bs[i]?).getD true,rfl,Walks.list (A:=X.A.in1) (I.ok.hd hc) _ l (K7 hlt) its.toArray,
  ⟨⟨_,KZ _ rfl,rfl,rfl⟩,pl.isList.push _⟩,fun i v s' Q' E' hP hQ=>?_,fun h' tk hk=>?_⟩
 ·have hP':its[i]? = some v:=by simpa using hP
  have hi:i<its.length:=(Kh.mp hP').1
  have hb:(bs.map V.bl)[i]? = some (V.bl (bs[i]'(by lia))):=by rw [K6,KM (by lia)];rfl
  obtain ⟨u,hu,ru⟩:=rv.get hb
  rw [hP'] at hu
  cases hu
  cases ru
  have e:(bs[i]?).getD true=bs[i]'(by lia):=by rw [KM (by lia)];rfl
  have hQ2:Q' ((bs[i]?).getD true) s' := hQ
  rw [e] at hQ2;exact LH hQ2
 ·have e:((List.range its.toArray.size).all fun i=>(bs[i]?).getD true)=bs.all id:=by
   rw [Ks,hlen,LI,La,La];constructor
   ·intro z c hc'
    obtain ⟨i,hi,rfl⟩:=Mn hc'
    have:=z i (NP.mpr hi)
    rw [KM hi] at this;exact this
   ·intro z i hi
    have hi' := NP.mp hi
    rw [KM hi'];exact z _ (List.getElem_mem hi')
  rw [e];refine ⟨.bl _,H,I.kept (t' := tk) fun b o q=>?_,rfl,q⟩
  exact hk b o (fun hm=>by rw [K3.mp hm] at q;exact Lx _ (KD q)) (Kt _ q)
end
end L2
namespace L2
open PySem PySem.Spec PyProof.Rows
section
variable {X:Cx}
theorem Dy:OpR X (binaryOp .FloorDiv) (rI (fun _ j=>0<j/\j<2 ^ 200) fun i j=>.int (i / j)):=oH fun i j _ _ _ _ _ hc q=>by
 obtain ⟨h1,h2⟩:=hc
 refine floordiv_int (by lia) (by rw [Int.fdiv_eq_ediv_of_nonneg i (by lia)];exact q) (.inl (PyProof.noPylong_of_log2 ?_))
 have h3:j.natAbs<2 ^ 200:=by lia
 have h4:j.natAbs.log2<200:=(Nat.log2_lt (by lia)).mpr h3
 lia
theorem Dz:OpR X (binaryOp .Mult) (rI IntMulOk fun i j=>.int (i*j)):=oH fun _ _ _ _ _ _ _ hc q=>mul_int q hc
end
end L2
namespace L2
open PySem PySem.Spec PyProof.Rows
theorem rG:bootBuiltins "int" = some (.type "int"):=by decide +kernel
theorem DA:bootBuiltins "bool" = some (.type "bool"):=by decide +kernel
theorem lK:bootBuiltins "str" = some (.type "str"):=by decide +kernel
end L2
namespace L2
open PySem PySem.Spec PyProof.Rows
theorem ObjOk.some {P:Program} {w:World} {H:Hp} {h:Heap} {a:Addr} {o:HO} (x:ObjOk P w H h a o):∃ ob,h.get? a=Option.some ob:=by
 cases o with
 | lst xs=>obtain ⟨_,_,_,_,e⟩:=x;exact ⟨_,e⟩
 | tup xs=>obtain ⟨_,_,_,o,e,_⟩:=x;exact ⟨o,e⟩
 | dK kvs=>obtain ⟨_,_,_,_,o,_,_,e,_⟩:=x;exact ⟨_,e⟩
 | dT kvs=>obtain ⟨_,_,_,_,o,_,_,e,_⟩:=x;exact ⟨_,e⟩
 | set S n=>obtain ⟨o,_,_,_,e,_⟩:=x;exact ⟨_,e⟩
 | ins C dx fs=>obtain ⟨_,_,_,e,_⟩:=x;exact ⟨_,e⟩
 | own y=>obtain ⟨_,e⟩:=x;exact ⟨_,e⟩
 | xd fs=>obtain ⟨_,⟨_,_,_,e,_⟩,_⟩:=x;exact ⟨_,e⟩
 | rng lo hi=>obtain ⟨_,_,_,e⟩:=x;exact ⟨_,e⟩
 | frz ob u=>obtain ⟨e,_⟩:=x;exact ⟨_,e⟩
 | tbl ps=>exact ⟨_,(show h.get? a=Option.some _ from x)⟩
 | met f y=>exact ⟨_,(show h.get? a=Option.some _ from x)⟩
 | ext φ=>obtain ⟨_,⟨_,e⟩,_⟩:=x;exact ⟨_,e⟩
def kz (X:Cx) (pins:List (Addr×Obj)) (H:Hp) (h B:Heap):Prop :=
 ∀ b o,h.get? b=some o->b∉dQ X.stack->((∃ u,H b=some u)\/(∃ o',X.s₀.heap.get? b=some o')\/∃ p∈X.pn++pins,p.1=b)->B.get? b=some o
section
variable {X:Cx} {pins:List (Addr×Obj)} {σ:St} {H:Hp} {s:Shared}
theorem Inv.nofr (I:Inv X pins σ H s) {b:Addr} {o:Obj} (e:X.s₀.heap.get? b=some o) (hb:b∉X.fs):b∉dQ X.stack:=fun z=>by
 rcases KJ.mp (I.stkSub b z) with q | q
 ·exact K7 (KP (KD e) I.ok.above) q
 ·exact hb q
theorem Inv.nofrT (I:Inv X pins σ H s) {b:Addr} {u:HO} (e:H b=some u):b∉dQ X.stack:=fun z=>by
 have q:=I.stkFree b z
 rw [q] at e
 cases e
theorem Inv.nofrP (I:Inv X pins σ H s) {p:Addr×Obj} (hp:p∈X.pn++pins):p.1∉dQ X.stack:=fun z=>by
 obtain ⟨_,_,ne,nf,_⟩:=I.pin p hp
 rcases KJ.mp (I.stkSub p.1 z) with q | q
 ·exact ne q
 ·exact nf q
theorem Inv.flown {B h':Heap} {t':Nat} (I:Inv X pins σ H s) (hex:X.ex=[]) (F:kz X pins H s.heap B) (st:B.StaysIn h') (sm:s.heap.UpToSlots h'):Inv X pins σ H { s with heap:=h',toks:=t' }:=by
 have nx:∀ b,b∉X.ex:=fun b z=>by rw [hex] at z;cases z
 refine ⟨I.ok,I.os,I.bare,⟨fun b o e n hb hx=>?_,fun b o e n hb hx=>?_,I.base.free,fun b o e hx=>?_,I.base.tups,I.base.frzs,I.base.tbls⟩,?_,fun x c e=>?_,I.free,I.freeC,fun p hp=>?_,fun b u e=>?_,I.len⟩
 ·exact st b o (F b o (I.base.keep b o e n hb hx) (I.nofr e hb) (.inr (.inl ⟨o,e⟩)))
 ·obtain ⟨sl,q⟩:=I.base.slot b o e n hb hx
  obtain ⟨_,o',ho',hd⟩:=I.funs.mem hb
  rw [q] at ho'
  cases ho'
  obtain ⟨sl',q'⟩:=sm b _ q hd
  exact ⟨sl',q'⟩
 ·obtain ⟨o',q⟩:=I.base.there b o e hx
  by_cases hb:b∈X.fs
  ·obtain ⟨_,o'',ho'',hd⟩:=I.funs.mem hb
   rw [q] at ho''
   cases ho''
   obtain ⟨sl',q'⟩:=sm b _ q hd
   exact ⟨_,q'⟩
  ·exact ⟨o',st b o' (F b o' q (I.nofr e hb) (.inr (.inl ⟨o,e⟩)))⟩
 ·obtain ⟨m,hn,hl⟩:=I.loc
  refine ⟨m,sm.ns hn,fun i x v e1 e2 e3=>?_⟩
  obtain ⟨u,r,l⟩:=hl i x v e1 e2 e3
  refine ⟨u,r,?_⟩
  rcases l with l | ⟨k,c,e,o,ho,hd⟩
  ·exact .inl l
  ·obtain ⟨sl,q⟩:=sm c o ho fun vs z=>by rw [hd] at z;cases z
   exact .inr ⟨k,c,e,_,q,hd⟩
 ·obtain ⟨v,o,ho,hd⟩:=I.cell x c e
  obtain ⟨sl,q⟩:=sm c o ho fun vs z=>by rw [hd] at z;cases z
  exact ⟨v,_,q,hd⟩
 ·obtain ⟨e,n,ne,nf,d⟩:=I.pin p hp
  exact ⟨st _ _ (F _ _ e (I.nofrP hp) (.inr (.inr ⟨p,hp,rfl⟩))),n,ne,nf,d⟩
 ·refine (I.hok b u e).stay (fun c v hc q=>?_) (fun _ q=>q) fun _ _ q=>q
  rcases hc with z | z
  ·subst z
   exact st _ _ (F _ _ q (I.nofrT e) (.inl ⟨_,e⟩))
  ·exact st _ _ (F _ _ q (I.nofrT z) (.inl ⟨_,z⟩))
end
structure Arr (X:Cx) (pins:List (Addr×Obj)) (σ:St) (H:Hp) (a:Addr) (cls:Value) (s:Shared):Prop where
 inv:Inv X pins σ H s
 un:H a=none
 new:X.s₀.heap.get? a=none
 nl:a≠X.env.locals
 nc:∀ x c,X.env.cells.lookup x=some c->c≠a
 np:∀ p∈X.pn++pins,p.1≠a
 fly:∃ B a0,kz X pins H s.heap B/\B.StaysIn s.heap/\B.get? a=none/\s.heap.FunFrames B X.stack /\
  ((∃ oe vs,s.heap.get? a=some oe/\oe.cls=cls/\oe.data = .fields vs/\vs[0]? = some a0/\vs[1]? = some .none)\/s.heap.TracedW B a cls a0)
def du (P:Program) (w:World):fV:=fun outer H s E e s' => ∃ (a:Addr) (cls a0:Value) (H':Hp) (B:Heap),e = .ref a/\s'.os=s.os/\AllBare s'.gens/\Un (dQ outer) [] H H' s.heap s'.heap/\HOk P w H' s'.heap /\
 Heap.FlyingW B outer a cls a0 s'.heap/\(∀ b o,s'.heap.get? b=some o->b∉dQ outer->((∃ u,H' b=some u)\/∃ o',s.heap.get? b=some o')->B.get? b=some o)/\H' a=none/\s.heap.get? a=none/\E cls none H'
section
variable {X:Cx} {pins:List (Addr×Obj)} {σ:St} {H:Hp} {s:Shared}
theorem DB {h':Heap} {e:Addr} {cls:Value} {args:List Value} {t':Nat} (I:Inv X pins σ H s) (hex:X.ex=[]) (hx:Heap.MadeExcOf s.heap h' e cls args):Arr X pins σ H e cls { s with heap:=h',toks:=t' }:=by
 have nx:∀ b,b∉X.ex:=fun b z=>by rw [hex] at z;cases z
 have none_of:∀ b o,s.heap.get? b=some o->b≠e:=fun b o q z=>by rw [z,hx.new] at q;cases q
 have eq_of:∀ b o o1,h'.get? b=some o->s.heap.get? b=some o1->o1=o:=fun b o o1 q q1=>by
  have z:=hx.keeps b o1 q1
  rw [q] at z;exact (K4 z).symm
 obtain ⟨t,he,_,_⟩:=hx.there
 refine ⟨I.kept hx.keeps,?_,?_,fun z=>?_,fun x c q z=>?_,fun p hp z=>?_,PySem.W.hideAll s.heap (dQ X.stack),.ref t,fun b o q nb alt=>?_,fun b o q=>hx.keeps b o (MP _ q),?_,?_,.inl ⟨_,_,he,rfl,rfl,rfl,rfl⟩⟩
 ·cases q:H e with
  | none=>rfl
  | some u =>
   obtain ⟨ob,z⟩:=(I.hok e u q).some
   exact absurd rfl (none_of e ob z)
 ·cases q:X.s₀.heap.get? e with
  | none=>rfl
  | some o =>
   obtain ⟨ob,z⟩:=I.base.there e o q (nx e)
   exact absurd rfl (none_of e ob z)
 ·obtain ⟨m,⟨o,_,_,ho,_⟩,_⟩:=I.loc
  exact none_of _ o ho z.symm
 ·obtain ⟨v,o,ho,_⟩:=I.cell x c q
  exact none_of _ o ho z
 ·exact none_of _ _ (I.pin p hp).1 z
 ·have there:∃ o1,s.heap.get? b=some o1:=by
   rcases alt with ⟨u,q'⟩ | ⟨o',q'⟩ | ⟨p,hp,rfl⟩
   ·exact (I.hok b u q').some
   ·exact I.base.there b o' q' (nx b)
   ·exact ⟨_,(I.pin p hp).1⟩
  obtain ⟨o1,q1⟩:=there
  rw [<- eq_of b o o1 q q1];exact NW _ q1 nb
 ·cases q:(PySem.W.hideAll s.heap (dQ X.stack)).get? e with
  | none=>rfl
  | some o=>exact absurd rfl (none_of e o (MP _ q))
 ·refine (PySem.W.funFrames_hide I.stack fun env henv b hb=>MR.mpr ⟨env,henv,hb⟩).of_keeps fun b o q _=>⟨o,hx.keeps b o q,rfl⟩
theorem DC {E:XK} {e:Value} {s':Shared} (I:Inv X pins σ H s) (hex:X.ex=[]) (h:du X.prog X.w X.stack H s E e s'):∃ a cls H',e = .ref a/\Arr X pins σ H' a cls s'/\E cls none H' := by
 obtain ⟨a,cls,a0,H',B,rfl,os,bare,un,hok,⟨f1,f2,f3,f4⟩,ext,na,ns,q⟩:=h
 have nx:∀ b,b∉X.ex:=fun b z=>by rw [hex] at z;cases z
 have none_of:∀ b o,s.heap.get? b=some o->b≠a:=fun b o q z=>by rw [z,ns] at q;cases q
 refine ⟨a,cls,H',rfl,⟨I.call' (ch:=[]) os un hok bare (fun b z=>absurd z (by simp)),na,?_,fun z=>?_,fun x c q z=>?_,fun p hp z=>?_,B,a0,fun b o q nb alt=>?_,f1,f2,f3,.inr f4⟩,q⟩
 ·cases q:X.s₀.heap.get? a with
  | none=>rfl
  | some o =>
   obtain ⟨ob,z⟩:=I.base.there a o q (nx a)
   exact absurd rfl (none_of a ob z)
 ·obtain ⟨m,⟨o,_,_,ho,_⟩,_⟩:=I.loc
  exact none_of _ o ho z.symm
 ·obtain ⟨v,o,ho,_⟩:=I.cell x c q
  exact none_of _ o ho z
 ·exact none_of _ _ (I.pin p hp).1 z
 ·refine ext b o q nb ?_
  rcases alt with ⟨u,q'⟩ | ⟨o',q'⟩ | ⟨p,hp,rfl⟩
  ·exact .inl ⟨u,q'⟩
  ·exact .inr (I.base.there b o' q' (nx b))
  ·exact .inr ⟨_,(I.pin p hp).1⟩
theorem Arr.land {a:Addr} {cls:Value} {Q:Unit->Shared->Prop} {E:Value->Shared->Prop} {M:Model} {A:Around} (R:Arr X pins σ H a cls s) (hex:X.ex=[]) (hfr:A.frames=some X.stack) {outer:List Env} (hst:X.stack=X.env::outer) (hf:X.env.frame=some X.env.locals)
  (hQ:∀ h' B a0,kz X pins H s.heap B->Heap.FlyingW B X.stack a cls a0 h'->s.heap.UpToSlots h'->Inv X pins σ H { s with heap:=h' }->Q () { s with heap:=h' }) :
  wpAny M A (noteFrame (.ref a) X.env) (fun _ s₂=>wpAny M A (setFlight (.ref a) none) Q E s₂) E s:=by
 obtain ⟨B,a0,fm,st,hb,ff,alt⟩:=R.fly
 have after:∀ h4,Heap.HeldW B X.stack a cls a0 X.env.locals h4->s.heap.UpToSlots h4->wpAny M A (setFlight (.ref a) none) Q E { s with heap:=h4 }:=fun h4 hh sm=>by
  refine wpAny_landsW (s:={ s with heap:=h4 }) hh fun h5 fl sm5=>?_
  have sm':s.heap.UpToSlots h5:=sm.trans sm5
  exact hQ h5 B a0 fm fl sm' (R.inv.flown (t' := s.toks) hex fm fl.1 sm')
 rw [hst] at hfr;rw [hst] at ff;rcases alt with ⟨oe,vs,he,hc,hd,h0,h1⟩ | tr
 ·subst hc
  have hsz:1<vs.size:=(Array.getElem?_eq_some_iff.mp h1).1
  unfold noteFrame
  simp only [hf]
  refine KC (NT he hd h1 ?_)
  rw [KF (by decide)]
  refine wpAny_entryW hfr ff hf he st hb hd hsz h0 fun h4 hN=>?_
  obtain ⟨k1,k2,k3,k4⟩:=hN
  exact after h4 (by rw [hst];exact ⟨k1,hb,k2,k3⟩) k4
 ·exact wpAny_looks_onW hfr hf ⟨st,hb,ff,tr⟩ fun h4 hh sm=>after h4 (by rw [hst];exact hh) sm
theorem wI {P:Program} {w:World} {K:PySem.W.Frag} {mg:Str->Option Value} {base:Heap} {N:List Str} {qual:Str} {scope:Scope} {f:Addr} {cd:Value} {A:Around} {outer:List Env} {s0:Shared} {H0:Hp} {E:XK} {a:Addr} {cls:Value}
  (R:Arr (cM (du P w) P w K mg base N qual scope f cd A outer s0 H0 E) pins σ H a cls s) (q:E cls none H):(cM (du P w) P w K mg base N qual scope f cd A outer s0 H0 E).xe (.ref a) s:=by
 show wpAny _ _ (leaving _ _) _ _ s
 unfold leaving
 refine KC (R.land (E:=fun e' s'' => du P w outer H0 s0 E e' s'') rfl R.inv.ok.frames rfl rfl fun h' B a0 fm fl sm I' => ?_)
 have I:=R.inv
 obtain ⟨k1,k2,⟨_,_,k3⟩,k4⟩:=fl
 refine ⟨a,cls,a0,H,B,rfl,I'.os,I'.bare,I'.base,I'.hok,⟨k1,k2,k3,k4⟩,fun b o e nb alt=>?_,R.un,R.new,q⟩
 have nstk:b∉dQ (cM (du P w) P w K mg base N qual scope f cd A outer s0 H0 E).stack:=by
  rcases alt with ⟨u,z⟩ | ⟨o',z⟩
  ·exact I.nofrT z
  ·exact I.nofr z nb
 have there:∃ o1,s.heap.get? b=some o1:=by
  rcases alt with ⟨u,z⟩ | ⟨o',z⟩
  ·exact (I.hok b u z).some
  ·exact I.base.there b o' z (fun z=>absurd (show b∈([]:List Addr) from z) (by simp))
 obtain ⟨o1,q1⟩:=there
 have z:B.get? b=some o1:=fm b o1 q1 nstk (by
  rcases alt with ⟨u,z⟩ | ⟨o',z⟩
  ·exact .inl ⟨u,z⟩
  ·exact .inr (.inl ⟨o',z⟩))
 have z2:=k1 b o1 z
 rw [show (Heap.get? h' b)=some o from e] at z2
 cases z2
 exact z
end
def rH (X:Cx) (Ex:St->XK):Prop:=∀ (pins:List (Addr×Obj)) (σ:St) (H:Hp) (s:Shared) (a:Addr) (cls:Value),Arr X pins σ H a cls s->Ex σ cls none H->X.xe (.ref a) s
def mT (CX:fV) (X:Cx) (Ex:St->XK):Prop:=∀ (pins:List (Addr×Obj)) (σ:St) (H:Hp) (s:Shared) (e:Value) (s':Shared),Inv X pins σ H s->CX X.stack H s (Ex σ) e s'->X.xe e s'
section
variable {P:Program} {w:World} {K:PySem.W.Frag} {mg:Str->Option Value} {base:Heap} {N:List Str} {qual:Str} {scope:Scope} {f:Addr} {cd:Value} {A:Around} {outer:List Env} {s0:Shared} {H0:Hp} {E:XK}
theorem jT:rH (cM (du P w) P w K mg base N qual scope f cd A outer s0 H0 E) (fun _=>E):=fun _ _ _ _ _ _ R q=>wI R q
theorem DD:Cc (du P w) (cM (du P w) P w K mg base N qual scope f cd A outer s0 H0 E) E:=fun pins σ H s e s' I h=>by
 obtain ⟨a,cls,H',rfl,R,q⟩:=DC (X:=cM (du P w) P w K mg base N qual scope f cd A outer s0 H0 E) I rfl h
 exact wI R q
end
section
variable {X:Cx} {x:Str} {C:Addr} {bm:List Value} {B newId initId:String} {np cpos pos:Pos} {e:Expr} {es:List Expr} {t:TA} {Ex:St->XK}
def DE (cls:Value) (Ex:St->XK) (t:TA):TS:=fun _ σ H=>t σ H fun vs H1=>vs.length<=1000/\Ex σ cls none H1
theorem DF (O:OwnCls x C bm newId X.mg X.base) (FB:ExcBaseFacts B newId initId bm) (hc:X.calm=true) (hex:X.ex=[]) (hr:rH X Ex) (hg:Gl X x) (ha:PA X (e::es) t)
  (hdb:(x == ("__debug__" : Str))=false:=by decide) (he:starEach (e::es) X.env=(false,eval e X.env)::starEach es X.env:=by rfl) (hpl:(backTo cpos (starEach es X.env)).any (·.1)=false:=by rfl) :
  PS X (.Raise (some (.Call (.Name x np) (e::es) [] cpos)) none pos) (DE (.ref C) Ex t):=by
 intro pins s σ H D I h
 obtain ⟨tl,NN,nm,q,bs,hdct,sn,sub,ab,col,dd,k0,k1,k2,k3,k5,mN,hC,hN,hni,T⟩:=O.obj
 refine wpAny_Raise_call_subT (C:=C) (nm:=nm) (q:=q) (N:=NN) (bs:=bs) (bm:=tl) (hdct:=hdct) (sn:=sn) (sub:=sub) (ab:=ab) (col:=col) (dd:=dd) (k0:=k0) (k1:=k1) (k2:=k2) (k3:=k3) (k5:=k5) FB (mN:=mN)
  (T.hasType FB.hasBase) (I.ok.hd hc) (by rw [he];show (false || (backTo cpos (starEach es X.env)).any (·.1))=false;rw [hpl];rfl) hni (oC I hg O.bound ⟨rfl,?_⟩ hdb)
 have hA:=ha cpos pins s σ H _ I h
 rw [he] at hA ⊢;refine NQ (thn hA fun us s2 ⟨vs,H1,I1,r1,hl,q1⟩=>⟨rfl,?_,I1.bk _ _ hC,hN.keeps I1.bk,T.keeps I1.bk,fun h' a hm=>hr pins σ H1 _ a _ (DB (t' := s2.toks) I1 hex hm) q1⟩)
 show us.length<=sizeLine
 rw [<- r1.length];exact Kn hl (by decide)
end
section
variable {X:Cx} {CX:fV} {k:Nat} {f C:Addr} {fd:FuncData} {ps:List Str} {sp:Sp} {dvs:List V} {ds:List Value} {Ex:St->XK} {x m:Str} {p pos apos:Pos} {e o:Expr} {es:List Expr} {ta:TE} {t:TA}
theorem rJ {pins:List (Addr×Obj)} {σ:St} {H:Hp} {s:Shared} {Q:VK} {us:List Value} {vs:List V} (F:FnOk X.prog X.w X.K X.mg X.base CX k f fd ps sp) (hr:Room k X.A) (hb:Binds X.K fd ps ds) (hd:Vals dvs ds) (hx:mT CX X Ex)
  (I:Inv X pins σ H s) (r:Vals vs us) (h:sp (vs++dvs) H Q (Ex σ)):wpAny (model X.prog X.w) X.A (call (.ref f) us) (EP X pins σ Q) X.xe s:=by
 have r2:Vals (vs++dvs) (us++ds):=r.append hd
 have hl:(us++ds).length=ps.length:=by rw [<- r2.length];exact F.len _ _ _ _ h
 refine wpAny_call (Nz (F.run X.A X.stack s H ⟨us,[]⟩ (us++ds) (vs++dvs) Q (Ex σ) hr I.env0 (hb s us I.kIn hl) r2 h) fun r s' hq=>?_)
 cases r with
 | error e=>exact hx pins σ H s e s' I hq
 | ok fl =>
  cases fl with
  | ret u=>exact I.after hq
  | next=>exact False.elim hq
  | brk=>exact False.elim hq
  | cont=>exact False.elim hq
def DH (sp:Sp) (dvs:List V) (Ex:St->XK) (t:TA):TE:=fun σ H Q=>t σ H fun vs H1=>sp (vs++dvs) H1 Q (Ex σ)
theorem DJ (F:FnOk X.prog X.w X.K X.mg X.base CX k f fd ps sp) (hr:Room k X.A) (hg:Gl X x) (hm:X.mg x=some (.ref f)) (hk:PySem.W.keepIn X.K (.ref f)=true) (hb:Binds X.K fd ps ds) (hd:Vals dvs ds) (hx:mT CX X Ex)
  (ha:PA X (e::es) t) (hdb:(x == ("__debug__" : Str))=false:=by decide) (he:starEach (e::es) X.env=(false,eval e X.env)::starEach es X.env:=by rfl) (hpl:(backTo pos (starEach es X.env)).any (·.1)=false:=by rfl) :
  PE X (.Call (.Name x p) (e::es) [] pos) (DH sp dvs Ex t):=by
 intro pins s σ H Q I h
 refine Mt (oC I hg hm ?_ hdb)
 refine N8 (h₀:=X.base) I.ok.mod.kin hk (thn (ha pos pins s σ H _ I h) fun us s1 ⟨vs,H1,I1,r,q⟩=>⟨I1.kIn,?_⟩) he hpl
 exact rJ F hr hb hd hx I1 r q
def wJ (C:Addr) (m:Str) (sp:Sp) (dvs:List V) (Ex:St->XK) (ta:TE) (t:TA):TE:=fun σ H Q=>ta σ H fun x H1=>∃ a dx fs,x = .ref a/\H1 a=some (.ins C dx fs)/\fs.lookup m=none /\
 t σ H1 fun vs H2=>sp (x::(vs++dvs)) H2 Q (Ex σ)
theorem DL {pl:Sem Bool} (he:PE X o ta) (c:Cls X.K C) (hm:iz X.K C m f) (F:FnOk X.prog X.w X.K X.mg X.base CX k f fd ps sp) (hr:Room k X.A) (hb:Binds X.K fd ps ds) (hd:Vals dvs ds) (hx:mT CX X Ex) (ha:PA X (e::es) t)
  (hst:starEach (e::es) X.env=(false,eval e X.env)::starEach es X.env:=by rfl) (hpl:(backTo pos (starEach es X.env)).any (·.1)=false:=by rfl)
  (ht:eval (.Call (.Attribute o m apos) (e::es) [] pos) X.env=(do
   let ov <- eval o X.env
   standAt apos.atName
   let (f,first) <- holding [ov] (getMethod ov m pl)
   callWith pos f first (backTo pos (starEach (e::es) X.env)) (backToKw pos (keywordEach [] X.env))):=by rfl) :
  PE X (.Call (.Attribute o m apos) (e::es) [] pos) (wJ C m sp dvs Ex ta t):=by
 intro pins s σ H Q I h
 refine NI (pl:=pl) (thn (he pins s σ H _ I h) fun u s1 ⟨x,H1,I1,rx,a,dx,fs,ex,ea,l,q⟩=>?_) ht
 subst ex;obtain rfl:u=Value.ref a:=rx
 refine vW I1 ea c hm l ?_
 refine N8 (first:=[.ref a]) (h₀:=X.base) I.ok.mod.kin hm.kp (thn (ha pos pins s1 σ H1 _ I1 q) fun us s2 ⟨vs,H2,I2,r,q2⟩=>⟨I2.kIn,?_⟩) hst hpl
 exact rJ (us:=.ref a::us) (vs:=.ref a::vs) F hr hb hd hx I2 (.cons rfl r) q2
end
def rK (a:Addr) (cls:Value):HO:=.ext fun h=>∃ ob vs,h.get? a=some ob/\ob.cls=cls/\ob.data = .fields vs
section
variable {X:Cx} {pins pins':List (Addr×Obj)} {σ:St} {H:Hp} {s:Shared} {xe:Value->Shared->Prop}
end
section
variable {X:Cx} {xc n:Str} {C:Addr} {i:Nat} {body suite:List Stmt} {b0:Stmt} {np hpos pos:Pos} {tb:(St->XK)->TS} {th:TS} {outer:List Env}
end
section
variable {P:Program} {w:World} {K:PySem.W.Frag} {mg:Str->Option Value} {base:Heap}
theorem Fun.okE {x qual:Str} {st:Stmt} {f:Addr} {fd:FuncData} {N ps:List Str} {k:Nat} {sp:Sp} (F:Fun K x qual st f fd) (S:aq N ps (aO st)) (len:∀ vs H Q E,sp vs H Q E->vs.length=ps.length)
  (hbody:∀ (cdv:Value) (A:Around) (outer:List Env) (s:Shared) (H:Hp) (vs:List V) (Q:VK) (E:XK),Room k (A.deeper (envOfC qual (aO st) s.heap.objs.size f cdv))->sp vs H Q E ->
   ∃ t,gL (cM (du P w) P w K mg base N qual (aO st) f cdv A outer s H E) (iQ st) t/\t { nx:=fun _ H' => Q .non H',rt:=Q } (start N vs) H):FnOk P w K mg base (du P w) (k+1) f fd ps sp:=by
 obtain ⟨oc,od,kV,doc,pm,an,cdv,ct,osl,rfl,lk,hcd⟩:=F.ex
 exact Ce lk hcd S len fun A outer s H vs Q E hr hsp=>hbody cdv A outer s H vs Q E hr hsp
end
end L2
namespace L2
open PySem PySem.Spec PyProof.Rows
theorem DM {K:PySem.W.Frag} {hp:Heap} {g:Str->Option Value} {nm:Str} {Ca:Addr} {bb:List Value} {nid:String} (Z:K.In hp) (hb:g nm=some (.ref Ca)) (ok:PySem.W.excIn K Ca bb nid=true):OwnCls nm Ca bb nid g hp:=by
 refine ⟨hb,?_⟩
 unfold PySem.W.excIn at ok
 split at ok
 ·rename_i dA cA sA hA
  split at ok
  ·rename_i D' tl w0 w1 w2 w3 bn w5 eM eS
   simp only [Lr,Od,Oh] at ok
   obtain ⟨⟨⟨⟨⟨rfl,rfl⟩,e1⟩,e2⟩,e3⟩,e4⟩:=ok
   obtain ⟨f1,f2,f3,f4,f5,f6,f7,f8,f9,f10,f11⟩:=cA
   dsimp only at eM e1 e3 e4
   subst eM e1
   have eA:sA = #[w0,w1,w2,w3,some (.builtin bn),w5]:=by
    obtain ⟨ll⟩:=sA
    simp only at eS
    rw [eS]
   subst eA;refine ⟨tl,f4,f1,f5,f2,f6,f7,f8,f9,f10,dA,w0,w1,w2,w3,w5,_,Z _ _ hA,.of_isNs (PySem.W.isNs_of_in Z e3),?_,PySem.W.tail_of_in Z e2⟩
   exact PySem.W.nsMap_none_of_in Z e3 e4
  ·cases ok
 ·cases ok
mutual
inductive DaV (K:PySem.W.Frag) (H:Hp):V->PyData->Prop
 | non:DaV K H .non .none
 | bl (b):DaV K H (.bl b) (.bool b)
 | int (i):DaV K H (.int i) (.int i)
 | str (x):DaV K H (.str x) (.str x)
 | lst {a xs ds}:SqL K H a xs->DaVs K H xs ds->DaV K H (.ref a) (.list ds)
 | tup {a xs ds}:SqT K H a xs->DaVs K H xs ds->DaV K H (.ref a) (.tuple ds)
inductive DaVs (K:PySem.W.Frag) (H:Hp):List V->List PyData->Prop
 | nil:DaVs K H [] []
 | cons {x xs d ds}:DaV K H x d->DaVs K H xs ds->DaVs K H (x::xs) (d::ds)
end
section
variable {X:Cx} {pins:List (Addr×Obj)} {σ:St} {H:Hp} {s:Shared}
mutual
theorem DaV.reads (I:Inv X pins σ H s):∀ {x:V} {d:PyData} {u:Value},DaV X.K H x d->RelV x u->∃ as,Reads s.heap u d as
 | _,_,_,.non,r=>by cases r;exact ⟨_,.none⟩
 | _,_,_,.bl b,r=>by cases r;exact ⟨_,.bool b⟩
 | _,_,_,.int i,r=>by obtain ⟨t,rfl⟩:=r;exact ⟨_,.int i t⟩
 | _,_,_,.str x,r=>by obtain ⟨t,rfl⟩:=r;exact ⟨_,.str x t⟩
 | _,_,_,.lst (a:=a) h1 h2,r=>by
  cases r
  obtain ⟨its,rv,⟨o,n,e1,e2,e3⟩,_⟩:=I.list h1
  obtain ⟨as,q⟩:=DaVs.reads I h2 rv
  exact ⟨_,.list (vs:=its.toArray) (n:=n) e1 (by first | exact e2.1 | exact e2) (by first | exact e2.2.2 | exact e2.2 | exact e3 | exact e3.2) (by simpa using q)⟩
 | _,_,_,.tup (a:=a) h1 h2,r=>by
  cases r
  obtain ⟨its,rv,⟨o,e1,e2,n,e3⟩,_⟩:=I.tuple h1
  obtain ⟨as,q⟩:=DaVs.reads I h2 rv
  exact ⟨_,.tuple (vs:=its.toArray) (n:=n) e1 e2 e3 (by simpa using q)⟩
theorem DaVs.reads (I:Inv X pins σ H s):∀ {xs:List V} {ds:List PyData} {us:List Value},DaVs X.K H xs ds->Vals xs us->∃ as,ReadsAll s.heap us ds as
 | _,_,_,.nil,r=>by cases r;exact ⟨_,.nil⟩
 | _,_,_,.cons h1 h2,r=>by
  cases r with
  | cons r1 r2 =>
   obtain ⟨as,q1⟩:=DaV.reads I h1 r1
   obtain ⟨bs,q2⟩:=DaVs.reads I h2 r2
   exact ⟨_,.cons q1 q2⟩
end
def rL (K:PySem.W.Frag):R2:=fun x y H Q=>∃ d e,DaV K H x d/\DaV K H y e/\d.canLay0=true/\e.canLay0=true/\d.depth<=60/\Q (.bl (PyData.eqv d e)) H
def rM (K:PySem.W.Frag):R2:=fun x y H Q=>∃ d e,DaV K H x d/\DaV K H y e/\d.canLay0=true/\e.canLay0=true/\d.depth<=60/\Q (.bl (!PyData.eqv d e)) H
theorem wK (hu:X.A.units+64<cLine):OpR X (compareOp .Eq) (rL X.K):=by
 intro pins s σ H x y v u Q I rx ry h
 obtain ⟨d,e,h1,h2,c1,c2,dp,q⟩:=h
 obtain ⟨as,r1⟩:=h1.reads I rx
 obtain ⟨bs,r2⟩:=h2.reads I ry
 exact SeqAt.compareEq_reads r1 r2 c1 c2 (by have:=ND d.depth e.depth;lia) ⟨.bl _,H,I,rfl,q⟩
theorem wL (hu:X.A.units+64<cLine):OpR X (compareOp .NotEq) (rM X.K):=by
 intro pins s σ H x y v u Q I rx ry h
 obtain ⟨d,e,h1,h2,c1,c2,dp,q⟩:=h
 obtain ⟨as,r1⟩:=h1.reads I rx
 obtain ⟨bs,r2⟩:=h2.reads I ry
 exact SeqAt.compareNe_reads r1 r2 c1 c2 (by have:=ND d.depth e.depth;lia) ⟨.bl _,H,I,rfl,q⟩
end
theorem jd {A:Around} {k:Nat} (hr:Room k A):A.units+64<cLine:=by
 have:=hr.un
 lia
def DO (K:PySem.W.Frag):R2:=fun x y H Q=>∃ l b xs zs,x = .ref l/\y = .ref b/\SqL K H l xs/\SqL K H b zs/\xs.length+zs.length<=sizeLine/\∀ p,H p=none->Q (.ref p) (aJ H p (.lst (xs++zs)))
theorem DP {X:Cx}:OpR X (binaryOp .Add) (DO X.K):=by
 intro pins s σ H x y v u Q I rx ry h
 obtain ⟨l,b,xs,zs,rfl,rfl,hH,hB,hz,q⟩:=h
 cases rx
 cases ry
 obtain ⟨its,r,⟨o,n,e1,e2,e3,e4⟩,z⟩:=I.list hH
 obtain ⟨its2,r2,⟨o2,n2,g1,g2,g3,g4⟩,z2⟩:=I.list hB
 obtain ⟨oc,od,oda,osl⟩:=o
 obtain ⟨oc2,od2,oda2,osl2⟩:=o2
 dsimp only at e2 e3 e4 g2 g3 g4
 subst e2 e3 e4 g2 g3 g4
 have l1:=r.length
 have l2:=r2.length
 refine Oo ⟨_,e1,rfl⟩ ⟨_,g1,rfl⟩ noFill_list_add seq_list_add PySem.F.slot_list_add PySem.F.entry_list_add (PySem.F.args_list_add_2 _ _) (list_addW l b its.toArray its2.toArray n n2 none none osl osl2 (by rw [Ks,Ks];lia)) ⟨e1,g1,?_⟩
 have ea:its.toArray++its2.toArray=(its++its2).toArray:=by simp
 rw [ea];exact ⟨.ref s.heap.objs.size,_,I.lnew (t' := s.toks) (r.append r2) (by rw [Kq];exact hz),rfl,q _ I.fresh⟩
end L2
namespace L2
open PySem PySem.Spec PyProof.Rows
section
variable {X:Cx} {pins:List (Addr×Obj)} {σ:St} {H:Hp} {s:Shared}
open Classical in
def jU (h:Heap) (d:PyData) (v:Value):Bool:=if q:∃ e as,e.canLay0=true/\Reads h v e as then PyData.eqv q.choose d else false
theorem wM {h:Heap} {d e:PyData} {v:Value} {as:List Addr} (c:e.canLay0=true) (r:Reads h v e as):jU h d v=PyData.eqv e d:=by
 have q:∃ e as,e.canLay0=true/\Reads h v e as:=⟨e,as,c,r⟩
 unfold jU
 rw [dif_pos q];obtain ⟨as',c',r'⟩:=q.choose_spec
 have z:q.choose=e:=by first | exact (Reads.unique _ _ r' r).1 | exact (Reads.unique r' r).1 | exact Reads.unique _ _ _ _ _ c' r' r | exact PySem.SeqAt.Reads.unique _ _ _ _ _ c' r' r | exact PySem.Reads.unique _ _ _ _ _ c' r' r
 rw [z]
theorem wN (I:Inv X pins σ H s):∀ {xs:List V} {ds:List PyData} {us:List Value},DaVs X.K H xs ds->Vals xs us->us.length=ds.length/\∀ (j:Nat) u d,us[j]? = some u->ds[j]? = some d->∃ as,Reads s.heap u d as
 | _,_,_,.nil,r=>by cases r;exact ⟨rfl,fun j u d e=>by cases e⟩
 | _,_,_,.cons h1 h2,r=>by
  cases r with
  | cons r1 r2 =>
   obtain ⟨l,q⟩:=wN I h2 r2
   refine ⟨by rw [Kk,Kk,l],fun j u d e1 e2=>?_⟩
   cases j with
   | zero=>cases e1;cases e2;exact h1.reads I r1
   | succ j=>exact q j u d e1 e2
theorem wO {h:Heap} {d:PyData}:∀ {us:List Value} {ds:List PyData},us.length=ds.length->(∀ (j:Nat) u e,us[j]? = some u->ds[j]? = some e->jU h d u=PyData.eqv e d)->us.any (jU h d)=ds.any fun e=>PyData.eqv e d
 | [],[],_,_=>rfl
 | u::us,e::ds,hl,hh=>by
  rw [Mo,Mo,hh 0 u e rfl rfl,wO (us:=us) (ds:=ds) (Nat.succ.inj hl) fun j u' e' a b=>hh (j+1) u' e' a b]
end
theorem wQ:∀ {xs:List Str} {us:List Value},Vals (xs.map V.str) us->∃ l:List (Str×Tok),us=strValues l/\l.map (·.1)=xs
 | [],_,r=>by cases r;exact ⟨[],rfl,rfl⟩
 | x::xs,_,r=>by
  cases r with
  | cons r1 r2 =>
   obtain ⟨t,rfl⟩:=r1
   obtain ⟨l,e1,e2⟩:=wQ r2
   exact ⟨(x,t)::l,by rw [e1];rfl,by rw [KY,e2]⟩
theorem DQ:∀ (xs:List Str),(Builtin.Str.glued Str.empty xs).cps.toList=(xs.map fun x=>x.cps.toList).flatten:=by
 have all:∀ (xs:List Str) (acc:Array Nat),(xs.foldl (fun acc p=>acc++Str.empty.cps++p.cps) acc).toList=acc.toList++(xs.map fun x=>x.cps.toList).flatten:=by
  intro xs
  induction xs with
  | nil=>intro acc;simp
  | cons x r ih =>
   intro acc
   rw [MH,ih];have e:(Str.empty.cps) = #[]:=rfl
   simp [e]
 intro xs
 unfold Builtin.Str.glued
 cases xs with
 | nil=>rfl
 | cons x r=>simp only [List.drop_succ_cons,MV,List.headD_cons];rw [all];simp
theorem rO:∀ (xs:List Str) (a:Nat),xs.foldl (fun n x=>n+x.length+Str.empty.length) a=a+((xs.map fun x=>x.cps.toList).flatten).length
 | [],a=>by simp
 | x::r,a=>by
  rw [MH,rO r];have e1:Str.empty.length=0:=rfl
  have e2:x.length=x.cps.toList.length:=by simp [Str.length]
  rw [e1,e2,KY,Mf,Kq];lia
def DS (K:PySem.W.Frag):V->List V->Hp->VK->Prop:=fun x vs H Q=>∃ (l:Addr) (xs:List Str),x = .str Str.empty/\vs=[.ref l]/\SqL K H l (xs.map V.str)/\((xs.map fun x:Str=>x.cps.toList).flatten).length<=1000000/\∀ r:Str,r.cps.toList=(xs.map fun x:Str=>x.cps.toList).flatten->Q (.str r) H
theorem DT {X:Cx}:eg X "str.join" (DS X.K):=by
 intro pins s σ H x vs v us Q I rx rv h
 obtain ⟨l,xs,rfl,rfl,hq,hz,q⟩:=h
 obtain ⟨t,rfl⟩:=rx
 obtain ⟨u,rfl,ru⟩:=hZ rv
 cases ru
 obtain ⟨its,r,pl,_⟩:=I.list hq
 obtain ⟨ll,rfl,e2⟩:=wQ r
 have hok:JoinOk Str.empty xs=true:=by
  unfold JoinOk
  rw [Oh];first
   | (rw [N9,rO,L9];unfold Builtin.Str.tooLong;exact KH (Ou.mpr (Kn hz (by decide))))
   | (unfold joinFit;rw [N9,rO,L9];unfold Builtin.Str.tooLong;exact KH (Ou.mpr (Kn hz (by decide))))
 exact SC.join pl.isList e2 hok fun t' k=>⟨.str _,H,I.tok _,⟨_,rfl⟩,q _ (DQ xs)⟩
end L2
namespace L2
open PySem PySem.Spec PyProof.Rows
section
variable {X:Cx} {tg:Expr}
theorem wR (ns:List Int):∀ k,k<=ns.length->preSum (fun i=>(ns[i]?).getD 0) k=(ns.take k).sum
 | 0,_=>by simp [preSum]
 | k+1,h=>by
  show preSum _ k+(ns[k]?).getD 0=_
  rw [wR ns k (by lia),Mw,List.sum_append]
  congr 1
  rw [KM (by lia)]
  simp
theorem DU (hc:X.calm=true):CallR X (.builtin "sum") (fun xs H Q=>∃ (a:Addr) (ns:List Int),xs=[.ref a]/\SqL X.K H a (ns.map V.int)/\Q (.int ns.sum) H):=by
 intro pins s σ H xs us Q I r h
 obtain ⟨l,bs,rfl,hq,q⟩:=h
 obtain ⟨u,rfl,rx⟩:=hZ r
 cases rx
 obtain ⟨its,rv,pl,hz⟩:=I.list hq
 have hlt:l<s.heap.objs.size:=by obtain ⟨_,_,e,_⟩:=pl;exact KD e
 have hlen:its.length=bs.length:=by rw [<- rv.length,Kv]
 refine call_sum_walkAnyS (M6 pl.isList ?_)
 refine ⟨s.heap.objs.size,[s.heap.objs.size,l],[s.heap.objs.size],_,its.toArray.size,_,_,fun i=>(bs[i]?).getD 0,rfl,(Walks.list (prog:=X.prog) (w:=X.w) (A:=X.A.in1) (I.ok.hd hc) s.heap.objs.size l (K7 hlt) its.toArray).toS,
  ⟨⟨_,KZ _ rfl,rfl,rfl⟩,pl.isList.push _⟩,fun b hb=>?_,fun i v hP=>?_,fun s' t' hm=>?_⟩
 ·rcases KJ.mp hb with rfl | hb
  ·exact KD (KZ _ rfl)
  ·obtain rfl:=K3.mp hb
   obtain ⟨_,_,e,_⟩:=pl
   exact KD (Kt _ e)
 ·have hP':its[i]? = some v:=by simpa using hP
  have hi:i<its.length:=(Kh.mp hP').1
  have hb:(bs.map V.int)[i]? = some (V.int (bs[i]'(by lia))):=by rw [K6,KM (by lia)];rfl
  obtain ⟨u,hu,ru⟩:=rv.get hb
  rw [hP'] at hu
  cases hu
  obtain ⟨t,rfl⟩:=ru
  refine ⟨t,?_⟩
  show Value.int _ t=Value.int ((bs[i]?).getD 0) t
  rw [KM (by lia)];rfl
 ·obtain ⟨h',g',d',tk',os'⟩:=s'
  have e1:g'=s.gens:=hm.gens
  have e2:d'=s.drawn:=hm.drawn
  have e3:os'=s.os:=hm.os
  subst e1 e2 e3
  have e:preSum (fun i=>(bs[i]?).getD 0) its.toArray.size=bs.sum:=by
   rw [Ks,hlen,wR bs _ (Kj _),Lg (Kj _)]
  rw [e];refine ⟨.int _,H,I.kept (t' := tk') fun b o q=>?_,⟨_,rfl⟩,q⟩
  exact hm.heap b o (fun hb=>by rw [K3.mp hb] at q;exact Lx _ (KD q)) (Kt _ q)
def je (lo c:Int) (n:Nat):It:=⟨fun i _=>i<n,fun i H x H' => H'=H/\x = .int (lo+i*c),fun i _=>n<=i⟩
theorem DV {P:Program} {w:World} {K:PySem.W.Frag} {tg:Expr} (it:Addr) (lo c:Int) (n:Nat):e7 P w K tg (je lo c n) [it] it (fun i h=>IsRangeIter h it (lo+(i:Nat)*c) ((n:Int)-(i:Nat)) c) where
 mem:=by simp
 obj:=fun i h st b hb=>by
  have e:b=it:=by simpa using hb
  subst e;exact ⟨_,st,fun v z=>by
   have z':Data.fields _=Data.cell v:=z
   cases z'⟩
 keep:=fun i h h' st k=>k it (by simp) _ st
 item:=by
  intro X hP hw hK hc i pins s σ H E I hf st hg
  subst hP hw hK
  obtain ⟨f0,f1,f2,f3,f4,f5⟩:=hf it (by simp)
  have W:=Walks.range (prog:=X.prog) (w:=X.w) (I.ok.hd hc) it lo c n
  refine W.item i s _ _ hg st fun v h' tk hv st' kk=>?_
  obtain ⟨t,rfl⟩:=hv
  have I1:Inv X pins σ H { s with heap:=h',toks:=tk }:=I.turned (fun b o hb e=>kk b o (by simpa using hb) e) f0 f1 f3 f4 f5
  exact ⟨_,rfl,mH (s:={ s with heap:=h',toks:=tk }) (n := "range_iterator") st' rfl rfl (by decide) ⟨.int (lo+i*c),H,I1,⟨t,rfl⟩,⟨rfl,rfl⟩,st',fun b hb=>(hf b hb).1⟩⟩
 done:=by
  intro X hP hw hK hc i pins s σ H E I hf st hg
  subst hP hw hK
  obtain ⟨f0,f1,f2,f3,f4,f5⟩:=hf it (by simp)
  exact Nv (I.ok.hd hc) st (by have:n<=i:=hg;lia) fun h' eb=>⟨rfl,I.turned (t' := s.toks) (fun b o hb e=>eb b o hb e) f0 f1 f3 f4 f5⟩
 self:=fun _ _ _ _ _ st h=>Nw st h
theorem DW {a b c:Int} (hc:0<c):Builtin.Range.rangeSize a b c=(((if a<b then (b-a-1) / c+1 else 0:Int).toNat:Nat):Int):=by
 unfold Builtin.Range.rangeSize
 rw [Ku hc];split
 ·have:0<=(b-a-1) / c:=Int.ediv_nonneg (by lia) (by lia)
  lia
 ·rfl
theorem mU {x:Int} (h:x.natAbs<2 ^ 42):Builtin.Range.rangeFitsLong x=true:=by
 have h2:x.natAbs<4398046511104:=h
 simp only [Builtin.Range.rangeFitsLong,Lr,M7]
 omega
theorem DX {a b c:Int} (ha:a.natAbs<2 ^ 40) (hb:b.natAbs<2 ^ 40) (hc:0<c):(Builtin.Range.rangeSize a b c).natAbs<2 ^ 42:=by
 have ha2:a.natAbs<1099511627776:=ha
 have hb2:b.natAbs<1099511627776:=hb
 show _<4398046511104
 unfold Builtin.Range.rangeSize
 rw [Ku hc];split
 ·have h1:0<=(b-a-1) / c:=Int.ediv_nonneg (by omega) (by omega)
  have h2:(b-a-1) / c<=b-a-1:=Int.ediv_le_self _ (by omega)
  generalize (b-a-1) / c=d at *;omega
 ·decide
theorem DZ {a b c:Int} (ha:a.natAbs<2 ^ 40) (hb:b.natAbs<2 ^ 40) (hc:0<c) (hc':c<2 ^ 20):Builtin.Range.small a b c=true:=by
 have l:(2:Nat) ^ 40<2 ^ 42:=by decide
 unfold Builtin.Range.small
 rw [mU (MO ha l),mU (MO hb l),mU (x:=c) (by have h2:c<1048576:=hc';show _<4398046511104;omega),mU (DX ha hb hc),Ku hc,mU (x:=b+(c-1)) (by have h2:c<1048576:=hc';have h3:b.natAbs<1099511627776:=hb;show _<4398046511104;omega)]
 simp
def D0 (ta:TA):TI:=fun σ H R=>ta σ H fun vs H1=>∃ i j c:Int,vs=[.int i,.int j,.int c]/\(i.natAbs<2 ^ 40/\j.natAbs<2 ^ 40/\0<c/\c<2 ^ 20)/\R (je i c (if i<j then (j-i-1) / c+1 else 0:Int).toNat) H1
theorem D2 {pins:List (Addr×Obj)} {σ:St} {H:Hp} {s:Shared} {R:It->Hp->Prop} {E:Value->Shared->Prop} {lo hi c:Int} {t u v:Tok} {tk:Nat} (I:Inv X pins σ H s) (h1:lo.natAbs<2 ^ 40) (h2:hi.natAbs<2 ^ 40) (h3:0<c) (h4:c<2 ^ 20)
  (q:R (je lo c (if lo<hi then (hi-lo-1) / c+1 else 0:Int).toNat) H):wpAny (model X.prog X.w) X.A (pyIter (.ref s.heap.objs.size)) (qO X pins σ tg R) E { s with heap:=s.heap.push { cls:=.type "range",data:=.fields #[.int lo t,.int hi u,.int c v] },toks:=tk }:=by
 refine Oc (IsRange.new ..) (DZ h1 h2 h3 h4) ?_
 have I1:Inv X pins σ H { s with heap:=s.heap.push { cls:=.type "range",data:=.fields #[.int lo t,.int hi u,.int c v] },toks:=tk }:=I.kept fun b o e=>Kt _ e
 refine ⟨(s.heap.push { cls:=.type "range",data:=.fields #[.int lo t,.int hi u,.int c v] }).objs.size,[(s.heap.push { cls:=.type "range",data:=.fields #[.int lo t,.int hi u,.int c v] }).objs.size],_,_,H,rfl,
  I1.kept (t' := tk) fun b o e=>Kt _ e,DV _ lo c (if lo<hi then (hi-lo-1) / c+1 else 0:Int).toNat,?_,fun b hb=>?_,q⟩
 ·have e1:lo+((0:Nat):Int)*c=lo:=by simp
  have e2:(((if lo<hi then (hi-lo-1) / c+1 else 0:Int).toNat:Nat):Int)-((0:Nat):Int)=Builtin.Range.rangeSize lo hi c:=by rw [DW h3];lia
  show IsRangeIter _ _ (lo+((0:Nat):Int)*c) ((((if lo<hi then (hi-lo-1) / c+1 else 0:Int).toNat:Nat):Int)-((0:Nat):Int)) c
  rw [e1,e2];exact KZ _ rfl
 ·have e:b=(s.heap.push { cls:=.type "range",data:=.fields #[.int lo t,.int hi u,.int c v] }).objs.size:=by simpa using hb
  subst e;exact I1.fpOk (Kj _) (I1.hok.fresh (Kj _))
theorem D3 {a b c:Expr} {ta:TA} {p pos:Pos} (hg:Gl X "range") (hm:X.mg "range" = none) (ha:PA X [a,b,c] ta) (hs:starEach [a,b,c] X.env=[(false,eval a X.env),(false,eval b X.env),(false,eval c X.env)]:=by rfl) (hs2:starEach [b,c] X.env=[(false,eval b X.env),(false,eval c X.env)]:=by rfl) :
  PI X tg (.Call (.Name "range" p) [a,b,c] [] pos) (D0 ta):=by
 intro pins s σ H R I h
 refine Call_ (ki I hg hm boot_range (Lw (thn (ha pos pins s σ H _ I h) fun us s1 ⟨vs,H1,I1,r1,q1⟩=>?_) (by rw [hs,hs2]) (by rw [hs2];rfl)))
 obtain ⟨i,j,c,e,⟨q1,q2,q3,q4⟩,q⟩:=q1
 subst e
 cases r1 with
 | cons r rr =>
  cases rr with
  | cons r' rr =>
   cases rr with
   | cons r'' rr =>
    cases rr
    obtain ⟨t,rfl⟩:=r
    obtain ⟨t',rfl⟩:=r'
    obtain ⟨t'',rfl⟩:=r''
    exact call_range_3 (by lia) (D2 I1 q1 q2 q3 q4 q) (.inl (PyProof.noPylong_small (by lia)))
end
end L2
namespace L2
open PySem PySem.Spec PyProof.Rows
open PySem.Builtin PySem.Builtin.Str
section
variable {X:Cx}
def bZ (z:Str) (lo hi:Option Int):Str:=⟨((z.cps.toList.drop (HT.sIx z.cps.toList.length 0 lo)).take (HT.sIx z.cps.toList.length z.cps.toList.length hi-HT.sIx z.cps.toList.length 0 lo)).toArray⟩
theorem oR (n d:Nat) (i:Int):max 0 (min (if i<0 then i+(n:Int) else i) (n:Int))=((HT.sIx n d (some i):Nat):Int):=by
 show max 0 (min (if i<0 then i+(n:Int) else i) (n:Int))=(((if i<0 then (i+(n:Int)).toNat else min i.toNat n):Nat):Int)
 split<;>lia
theorem oS {a b:Int} {A B:Nat} (ha:a=A) (hb:b=B):sliceRange a b 1=(List.range (B-A)).map fun k=>A+k:=by
 subst ha hb
 unfold sliceRange
 simp only [show (1:Int) > 0 by decide,Lp]
 have:(if (A:Int)<(B:Int) then ((B:Int)-A+1-1) / 1 else 0).toNat=B-A:=by
  split<;>(try simp only [Int.ediv_one])<;>lia
 rw [this];apply NX
 intro k _
 lia
theorem D4 (xs:List Nat) (i k:Nat):(List.range k).filterMap (fun m=>xs[i+m]?)=(xs.drop i).take k:=by
 induction k generalizing i with
 | zero=>simp
 | succ k ih =>
  rw [List.range_succ_eq_map,Ml,MT];have e:((fun m=>xs[i+m]?) ∘ Nat.succ)=fun m=>xs[(i+1)+m]? := by
   funext m;show xs[i+(m+1)]? = _;congr 1;lia
  rw [e,ih (i+1)]
  cases h:xs[i]? with
  | none =>
   have hl:xs.length<=i:=List.getElem?_eq_none_iff.mp h
   simp only [Nat.add_zero,h]
   rw [Ls (by lia),Ls hl];simp
  | some v =>
   have hi:=(Kh.mp h).1
   simp only [Nat.add_zero,h]
   rw [MZ hi,List.take_succ_cons];congr 1
   exact (K4 ((KM hi).symm.trans h)).symm
theorem D5 (n:Nat) (lo hi:Option Int):strSliceIndices lo hi 1 n=(List.range (HT.sIx n n hi-HT.sIx n 0 lo)).map fun k=>HT.sIx n 0 lo+k:=by
 cases lo with
 | none =>
  cases hi with
  | none=>exact oS rfl rfl
  | some j=>exact oS rfl (oR n n j)
 | some i =>
  cases hi with
  | none=>exact oS (oR n 0 i) rfl
  | some j=>exact oS (oR n 0 i) (oR n n j)
theorem D6 (z:Str) (lo hi:Option Int):Txt.slice z lo hi=bZ z lo hi:=by
 have hz:z.length=z.cps.toList.length:=by simp [Str.length]
 unfold Txt.slice bZ
 rw [hz,D5,MT];have e:((fun x=>z.cps[x]?) ∘ fun k=>HT.sIx z.cps.toList.length 0 lo+k)=fun m=>z.cps.toList[HT.sIx z.cps.toList.length 0 lo+m]? := by
  funext m;simp
 rw [e,D4];split
 ·rename_i hc
  simp only [beq_self_eq_true,Bool.true_and,Od,Kv,Mx] at hc
  have h1:HT.sIx z.cps.toList.length z.cps.toList.length hi<=z.cps.toList.length:=HT.sIx_le _ _ (Kj _) _
  have h2:HT.sIx z.cps.toList.length 0 lo=0\/z.cps.toList.length=0:=by lia
  rw [hc];rcases h2 with h2 | h2
  ·rw [h2,MV,Lg (Kj _)]
  ·have:z.cps.toList=[]:=List.eq_nil_of_length_eq_zero h2
   have h3:z.cps = #[]:=by simpa using this
   simp [h3]
   cases z;simp_all
 ·rfl
theorem wU {v:Value} {o:Option Int} (p:IsPart v o):∃ l:Option (Int×Tok),v=partValue l/\l.map (·.1)=o:=by
 cases p with
 | none=>exact ⟨none,rfl,rfl⟩
 | int i t=>exact ⟨some (i,t),rfl,rfl⟩
theorem D7:SlR X (fun x lo hi H Q=>∃ z,x = .str z/\z.length<=sizeLine/\Q (.str (bZ z lo hi)) H):=by
 intro pins s σ H x v vl vu lo hi sl Q I rx hs pl pu h
 obtain ⟨z,rfl,hz,q⟩:=h
 obtain ⟨t,rfl⟩:=rx
 obtain ⟨l,rfl,rfl⟩:=wU pl
 obtain ⟨u,rfl,rfl⟩:=wU pu
 refine ⟨"str",_,F.slot_str_getitem.lookup,Ny _ _ _,?_⟩
 refine wpAny_getItem_str_slice (l:=l) (u:=u) (st:=none) hs rfl ?_
 refine post_val_or_str ⟨Kn (Txt.slice_le z (l.map (·.1)) (u.map (·.1))) hz,fun t' k=>?_⟩
 have e:=D6 z (l.map (·.1)) (u.map (·.1))
 refine ⟨.str (bZ z (l.map (·.1)) (u.map (·.1))),H,I.tok _,⟨t',?_⟩,q⟩
 rw [<- e];rfl
theorem D8:OpR X (compareOp .Is) (fun x y H Q=>∃ a b,x = .bl a/\y = .bl b/\Q (.bl (a == b)) H):=by
 intro pins s σ H x y v u Q I rx ry h
 obtain ⟨a,b,rfl,rfl,q⟩:=h
 cases rx
 cases ry
 refine wpAny_is_plain rfl (cK I q ?_)
 cases a<;>cases b<;>rfl
end
end L2
namespace L2
open PySem PySem.Spec PyProof.Rows
def dW (X:Cx) (pins:List (Addr×Obj)) (x₁ x₂:Str) (jf:List (Nat×Str)) (scope:Scope) (cl:List (Str×Addr)) (s:Shared) (H:Hp) (fp:List Addr):Cx where
 prog:=X.prog
 w:=X.w
 K:=X.K
 mg:=X.mg
 base:=X.base
 A:=X.A
 N:=x₁::x₂::jf.map (·.2)
 s₀:=s
 H₀:=H
 env:=compEnvC scope cl s.heap.objs.size X.env
 outer:=X.stack
 stack:=X.stack
 ex:=fp
 fn:=fun _=>false
 calm:=X.calm
 pn:=X.pn++pins
 xe:=fun _ _=>False
def fh (v v2:Option V) (js:List (Nat×Str)) (σ:St):St:=v::v2::js.map fun j=>(σ[j.1]?).join
def oT (K:PySem.W.Frag) (jf:List (Nat×Str)) (wi:TI) (tc:TT) (te:TE):TE:=fun σ H Q=>wi σ H fun J H1=>∀ D,H1 D=none->∃ W:Nat->Nat->List V->Hp->Prop,(∃ m,W 0 m [] (aJ H1 D (.lst []))) /\
 ∀ i m ys H2,W i m ys H2->H2 D=some (.lst ys)/\((J.stop i H2/\Q (.ref D) H2)\/(J.go i H2/\ys.length<sizeLine/\∀ x H3,J.yld i H2 x H3->∃ a u v,x = .ref a/\SqT K H3 a [u,v]/\tc (fh (some u) (some v) jf σ) H3 fun b H5 =>
  if b=true then te (fh (some u) (some v) jf σ) H5 fun w H6=>H6 D=some (.lst ys)/\∃ m',m'<m/\W (i+1) m' (ys++[w]) (aJ H6 D (.lst (ys++[w]))) else ∃ m',m'<m/\W (i+1) m' ys H5))
section
variable {X:Cx} {pins:List (Addr×Obj)} {σ:St} {H:Hp} {s:Shared} {x₁ x₂:Str} {jf:List (Nat×Str)} {scope:Scope} {fp:List Addr}
theorem Inv.block2 {h1:Heap} {tk:Nat} (I:Inv X pins σ H s) (hf:∀ b∈fp,cR X pins H b) (hlt:∀ b∈fp,b<s.heap.objs.size) (hjf:∀ p∈jf,X.N[p.1]? = some p.2) (hjl:∀ p∈jf,scope.names.lookup p.2=some .free) (hkind:scope.kind = .function)
  (hcell:∀ y∈scope.names,y.2 ≠ .cell) (hfr:∀ y∈scope.names,y.2 = .free->X.env.kindOf y.1=some .cell\/X.env.kindOf y.1=some .free)
  (hn:h1.Ns s.heap.objs.size (fun _=>none)) (hk:∀ b o,s.heap.get? b=some o->h1.get? b=some o) :
  Inv (dW X pins x₁ x₂ jf scope (cI X.env scope.names []) s H fp) [] (fh none none jf σ) H { s with heap:=h1,toks:=tk }:=by
 have hsome:∀ y∈scope.names,y.2 = .free->(X.env.cells.lookup y.1).isSome=true:=fun y hy hyf=>KR.mpr (I.ok.has y.1 (hfr y hy hyf))
 have sub:∀ y c,(cI X.env scope.names []).lookup y=some c->X.env.cells.lookup y=some c:=mR hsome (fun y c e=>by simp at e)
 have hsz:=I.sz
 have inE:∀ b,b∈(dW X pins x₁ x₂ jf scope (cI X.env scope.names []) s H fp).ex->b∈fp:=fun b z=>z
 have stk:∀ b∈dQ X.stack,b<s.heap.objs.size:=fun b hb=>by
  obtain ⟨_,o,ho,_⟩:=I.stack.mem hb
  exact KD ho
 refine ⟨⟨I.ok.mod,hkind,I.ok.glob,I.ok.blt,Kj _,fun y z c e1 e2=>I.ok.inj y z c (sub y c e1) (sub z c e2),fun y hy=>?_,fun y c hfn _=>(by cases hfn),I.ok.hd,I.ok.frames,.inl rfl,fun b hb=>?_,fun b o e=>I.bs b o e,Kn I.ok.bsz hsz,fun b o e z=>?_,fun b hb z=>?_,I.stack,I.stkFree⟩,
  rfl,I.bare,Un.kept hk,⟨_,hn,fun i y v e1 e2 e3=>?_⟩,fun y c e=>?_,I.hok.fresh (Kj _),fun y c e=>I.freeC y c (sub y c e),fun p hp=>?_,I.hok.kept hk,?_⟩
 ·have hy':(relabel scope X.env).names.lookup y=some .cell\/(relabel scope X.env).names.lookup y=some .free:=hy
  have mem:(y,NameKind.free)∈scope.names:=by
   rcases hy' with q | q
   ·rcases kx (env:=X.env) q with z | z
    ·exact absurd rfl (hcell _ (iR z))
    ·exact iR z.2
   ·rcases kx (env:=X.env) q with z | z
    ·exact iR z
    ·exact iR z.2
  exact KR.mp (mS (.inl mem))
 ·exact ⟨K7 (hlt b hb),fun y c e=>(hf b hb).2.2.2.2.1 y c (sub y c e)⟩
 ·rcases (hf b z).2.2.2.1 with q | q
  ·exact I.ok.noex b o e q
  ·exact absurd (KP (KD e) (Kn I.ok.bsz q)) (Lx _)
 ·rcases KJ.mp (I.stkSub b z) with q | q
  ·exact (hf b hb).2.1 q
  ·exact (hf b hb).2.2.1 q
 ·have e1':(x₁::x₂::jf.map (·.2))[i]? = some y:=e1
  unfold fh at e2
  cases i with
  | zero=>cases e2
  | succ i=>cases i with
   | zero=>cases e2
   | succ i =>
   rw [Li,Li,K6] at e1' e2
   cases q:jf[i]? with
   | none=>rw [q] at e2;cases e2
   | some p =>
    rw [q] at e1' e2;have ey:p.2=y:=K4 e1'
    have ev:(σ[p.1]?).join=some v:=K4 e2
    have hp:p∈jf:=KQ q
    have eσ:σ[p.1]? = some (some v):=by
     cases z:σ[p.1]? with
     | none=>rw [z] at ev;cases ev
     | some r=>rw [z] at ev;rw [show r=some v from ev]
    have hfree:scope.names.lookup y=some .free:=by rw [<- ey];exact hjl p hp
    have mem:=iR hfree
    have kX:=hfr _ mem rfl
    obtain ⟨m,hnX,hl⟩:=I.loc
    obtain ⟨u,ru,lk⟩:=hl p.1 y v (by rw [<- ey];exact hjf p hp) eσ (by
     rcases kX with z | z
     ·exact .inr (.inl z)
     ·exact .inr (.inr z))
    refine ⟨u,ru,.inr ⟨?_,?_⟩⟩
    ·have e3':lF (relabel scope X.env) y:=e3
     rcases e3' with z | z | z
     ·exfalso
      rcases kx (env:=X.env) z with q | q
      ·rw [hfree] at q;cases q
      ·cases q.1
     ·exact .inl z
     ·exact .inr z
    ·rcases lk with ⟨z,_⟩ | ⟨_,c,hc,hcell'⟩
     ·exfalso
      rcases kX with q | q
      ·rw [show X.env.kindOf y=some .cell from q] at z;cases z
      ·rw [show X.env.kindOf y=some .free from q] at z;cases z
     ·obtain ⟨c',hc'⟩:=KR.mp (mS (env:=X.env) (acc:=[]) (.inl mem))
      have e:=sub y c' hc'
      rw [hc] at e
      cases e
      obtain ⟨o,ho,hd⟩:=hcell'
      exact ⟨c,hc',o,hk c o ho,hd⟩
 ·obtain ⟨v,o,ho,hd⟩:=I.cell y c (sub y c e)
  exact ⟨v,o,hk c o ho,hd⟩
 ·have hp':p∈X.pn++pins:=by simpa [dW] using hp
  obtain ⟨e,n,ne,nf,d⟩:=I.pin p hp'
  refine ⟨hk _ _ e,n,K7 (KD e),fun z=>?_,d⟩
  rcases KJ.mp (I.stkSub p.1 z) with q | q
  ·exact ne q
  ·exact nf q
 ·unfold fh
  show _=(x₁::x₂::jf.map (·.2)).length
  simp
end
section
variable {X:Cx} {x₁ x₂:Str} {px p1 p2:Pos} {kk:Nat} {jf:List (Nat×Str)} {scope:Scope} {iter elt:Expr} {ifs:List Expr} {pos:Pos} {wi:TI} {tc:TT} {te:TE}
theorem D9 (hcalm:X.calm=true) (hi:PI X (.Tuple [.Name x₁ p1,.Name x₂ p2] kk px) iter wi) (hc:∀ pins cl s H fp,iA (dW X pins x₁ x₂ jf scope cl s H fp) ifs tc) (he:∀ pins cl s H fp,PE (dW X pins x₁ x₂ jf scope cl s H fp) elt te)
  (hN:(x₁::x₂::jf.map (·.2)).Nodup) (hx:scope.names.lookup x₁=some .local) (hx2:scope.names.lookup x₂=some .local) (hjf:∀ p∈jf,X.N[p.1]? = some p.2) (hjl:∀ p∈jf,scope.names.lookup p.2=some .free) (hkind:scope.kind = .function)
  (hcell:∀ y∈scope.names,y.2 ≠ .cell) (hfr:∀ y∈scope.names,y.2 = .free->X.env.kindOf y.1=some .cell\/X.env.kindOf y.1=some .free)
  (hnames:∀ y∈scope.names,y.2 = .local->scope.names.lookup y.1=some .local) {use:Option (Value->Sem Unit)} {Qf:Value->Shared->Prop} {cpos:Pos}
  {pins:List (Addr×Obj)} {σ:St} {H:Hp} {s:Shared} {Q:VK} (I:Inv X pins σ H s) (h:oT X.K jf wi tc te σ H Q)
  (fin:∀ D C s6 H6 m6,Inv X pins σ H6 s6->Q (.ref D) H6->cR X pins H6 C->s6.heap.Ns C m6->compPost (model X.prog X.w) X.A X.xe use Qf (.ref D) C (.ok .next) s6) (hs:∀ x,foldedSetIterable iter X.env x=pure x) :
  wpAny (model X.prog X.w) X.A (comprehension (.ListComp elt [⟨.Tuple [.Name x₁ p1,.Name x₂ p2] kk px,iter,ifs,0⟩] scope pos) scope X.env cpos (newList []) false (eval iter X.env) use) Qf X.xe s:=by
 have hsome:∀ y∈scope.names,y.2 = .free->(X.env.cells.lookup y.1).isSome=true:=fun y hy hyf=>KR.mpr (I.ok.has y.1 (hfr y hy hyf))
 refine Nc (use:=use) rfl hs (wC hsome) hkind hnames (thn (hi pins s σ H _ I h) fun xv s1 h1=>thn h1 fun itv s2 h2=>?_)
 obtain ⟨it,fp,tn,J,H2,e,I2,T,st2,f2,h⟩:=h2
 subst e;refine LZ (NU hcell (by intro y hy;simp at hy) (fun h₁ hns₁ hsb₁=>?_) hkind)
 have hD0:H2 s2.heap.objs.size=none:=I2.hok.fresh (Kj _)
 obtain ⟨W,⟨m0,w0⟩,step⟩:=h s2.heap.objs.size hD0
 dsimp only at hns₁ hsb₁ ⊢
 have I3:Inv X pins σ (aJ H2 s2.heap.objs.size (.lst [])) { s2 with heap:=s2.heap.push { cls:=.type "list",dict:=none,data:=.seq ([]:List Value).toArray } } :=
  I2.laid (t' := s2.toks) (fun b u q=>Kt _ q) (Kj _) ⟨KS _,[],0,.nil,KZ _ rfl⟩
 generalize hH3:s2.heap.push { cls:=.type "list",dict:=none,data:=.seq ([]:List Value).toArray }=hp3 at hns₁ hsb₁ I3 ⊢
 have hsz3:hp3.objs.size=s2.heap.objs.size+1:=by rw [<- hH3,MS]
 have k23:∀ b o,s2.heap.get? b=some o->hp3.get? b=some o:=fun b o q=>by rw [<- hH3];exact Kt _ q
 have flt:∀ b∈fp,b<s2.heap.objs.size:=fun b hb=>by
  obtain ⟨o,q,_⟩:=T.obj 0 _ st2 b hb
  exact KD q
 have f3:∀ b∈fp,cR X pins (aJ H2 s2.heap.objs.size (.lst [])) b:=fun b hb=>by
  obtain ⟨g0,g⟩:=f2 b hb
  exact ⟨by rw [bS (K7 (flt b hb))];exact g0,g⟩
 have kC:∀ b o,hp3.get? b=some o->h₁.get? b=some o:=fun b o q=>(hsb₁.2 b (K7 (KD q))).trans (Kt _ q)
 have B0:=I3.block2 (x₁:=x₁) (x₂:=x₂) (jf:=jf) (scope:=scope) (fp:=fp) (h1:=h₁) (tk:=s2.toks+([]:List (Str×Value)).length) f3 (fun b hb=>by show b<hp3.objs.size;rw [hsz3];exact Mv (flt b hb)) hjf hjl hkind hcell hfr (by simpa using hns₁) kC
 have st4:tn 0 h₁:=T.keep _ _ _ st2 fun b _ o q=>kC b o (k23 b o q)
 have w0' := w0
 have stat:∀ {H':Hp},(∀ b∈fp,H' b=none)->∀ b∈fp,cR (dW X pins x₁ x₂ jf scope (cI X.env scope.names []) { s2 with heap:=hp3 } (aJ H2 s2.heap.objs.size (.lst [])) fp) [] H' b:=fun hn b hb=>by
  obtain ⟨_,g1,g2,g3,g4,g5⟩:=f2 b hb
  refine ⟨hn b hb,K7 (by show b<hp3.objs.size;rw [hsz3];exact Mv (flt b hb)),fun z=>?_,.inl hb,fun y c q=>g4 y c (mR hsome (fun y c e=>by simp at e) y c q),fun p hp=>g5 p (by simpa [dW] using hp)⟩
  rcases KJ.mp (I2.stkSub b z) with q | q
  ·exact g1 q
  ·exact g2 q
 have loop:codeAny (model X.prog X.w) X.A (.compLoop (.ListComp elt [⟨.Tuple [.Name x₁ p1,.Name x₂ p2] kk px,iter,ifs,0⟩] scope pos) 0 (.ref it) (.ref s2.heap.objs.size) (compEnvC scope (cI X.env scope.names []) hp3.objs.size X.env))
   (compPost (model X.prog X.w) X.A X.xe use Qf (.ref s2.heap.objs.size) hp3.objs.size) { s2 with heap:=h₁,toks:=s2.toks+([]:List (Str×Value)).length }:=by
  refine wD (fun n s' => ∃ i ys H',Inv (dW X pins x₁ x₂ jf scope (cI X.env scope.names []) { s2 with heap:=hp3 } (aJ H2 s2.heap.objs.size (.lst [])) fp) [] (fh none none jf σ) H' s'/\tn i s'.heap/\(∀ b∈fp,H' b=none)/\W i n ys H') ?_ m0
   ⟨0,[],_,B0,st4,fun b hb=>(f3 b hb).1,w0⟩
  rintro n s5 ⟨i,ys,H5,I5,st5,fr5,w5⟩
  obtain ⟨hD5,alt⟩:=step i n ys H5 w5
  rcases alt with ⟨stop,q5⟩ | ⟨go,hlen,next⟩
  ·refine Lc (T.done (dW X pins x₁ x₂ jf scope (cI X.env scope.names []) { s2 with heap:=hp3 } (aJ H2 s2.heap.objs.size (.lst [])) fp) rfl rfl rfl hcalm i [] s5 _ H5 (fun _ _=>False) I5 (stat fr5) st5 stop) (fun r s6 ⟨hr,I6⟩=>?_) fun _ _ z=>z
   subst hr;obtain ⟨m6,hn6,_⟩:=id I6.loc
   refine fin _ _ s6 H5 m6 ?_ q5 (I3.fpOk (Kj _) I6.free) hn6
   refine I3.call' (ch:=fp) I6.os I6.base I6.hok I6.bare (fun b hb=>?_)
   obtain ⟨_,g1,g2,g3,g4,g5⟩:=f2 b hb
   exact ⟨g3,g1,g4,g5⟩
  ·refine Lc (T.item (dW X pins x₁ x₂ jf scope (cI X.env scope.names []) { s2 with heap:=hp3 } (aJ H2 s2.heap.objs.size (.lst [])) fp) rfl rfl rfl hcalm i [] s5 _ H5 (fun _ _=>False) I5 (stat fr5) st5 go) (fun r s6 ⟨u,hr,h6⟩=>?_) fun _ _ z=>z
   subst hr;refine Lc h6 (fun _ s7 ⟨x,H7,I7,r7,y7,st7,fr7⟩=>?_) fun _ _ z=>z
   have I7' := I7.pinned (stat fr7) (T.obj _ _ st7)
   have hloc:iP (dW X pins x₁ x₂ jf scope (cI X.env scope.names []) { s2 with heap:=hp3 } (aJ H2 s2.heap.objs.size (.lst [])) fp).env.scope x₁:=.inl (LF hx)
   have hloc2:iP (dW X pins x₁ x₂ jf scope (cI X.env scope.names []) { s2 with heap:=hp3 } (aJ H2 s2.heap.objs.size (.lst [])) fp).env.scope x₂:=.inl (LF hx2)
   obtain ⟨a8,u1,u2,rfl,sq8,q8⟩:=next x H7 y7
   have PGt:PG (dW X pins x₁ x₂ jf scope (cI X.env scope.names []) { s2 with heap:=hp3 } (aJ H2 s2.heap.objs.size (.lst [])) fp) (.Tuple [.Name x₁ p1,.Name x₂ p2] kk px) (mG X.K 2 (qL (km 0) (qL (km 1) mF))) :=
    vL hcalm (qM (oE hN rfl hloc (.inr (LF hx))) (qM (oE hN rfl hloc2 (.inr (LF hx2))) vK))
   refine Lc (PGt ([]++fU fp s7.heap) s7 _ H7 (.ref a8) _ (fun σ' H' => σ'=fh (some u1) (some u2) jf σ/\H7=H') I7' r7 ⟨a8,[u1,u2],rfl,sq8,rfl,u1,[u2],rfl,u2,[],rfl,rfl,rfl,rfl⟩) (fun _ s8 ⟨σ8,H8,I8,e8,e8'⟩=>?_) fun _ _ z=>z
   subst e8 e8'
   have I8':Inv (dW X pins x₁ x₂ jf scope (cI X.env scope.names []) { s2 with heap:=hp3 } (aJ H2 s2.heap.objs.size (.lst [])) fp) ([]++fU fp s7.heap) (fh (some u1) (some u2) jf σ) H7 s8:=I8
   have again:∀ {s9:Shared} {H9:Hp} {zs:List V} {m':Nat},Inv (dW X pins x₁ x₂ jf scope (cI X.env scope.names []) { s2 with heap:=hp3 } (aJ H2 s2.heap.objs.size (.lst [])) fp) ([]++fU fp s7.heap) (fh (some u1) (some u2) jf σ) H9 s9->m'<n->W (i+1) m' zs H9 ->
     ∃ m,m<n/\∃ i ys H',Inv (dW X pins x₁ x₂ jf scope (cI X.env scope.names []) { s2 with heap:=hp3 } (aJ H2 s2.heap.objs.size (.lst [])) fp) [] (fh none none jf σ) H' s9/\tn i s9.heap/\(∀ b∈fp,H' b=none)/\W i m ys H' := fun {s9 H9 zs m'} I9 hm w9=>by
    refine ⟨m',hm,i+1,zs,H9,I9.unpinned.weak (by simp [fh]) (fun j v e=>?_),T.keep _ _ _ st7 fun b hb o e=>(I9.pin (b,o) (KG _ (KG _ (lG hb e)))).1,fun b hb=>?_,w9⟩
    ·cases j with
     | zero=>simp [fh] at e
     | succ j=>cases j with
      | zero=>simp [fh] at e
      | succ j=>simpa [fh] using e
    ·obtain ⟨o,e,d⟩:=T.obj _ _ st7 b hb
     exact (I9.pin (b,o) (KG _ (KG _ (lG hb e)))).2.1
   refine Lc (hc pins _ _ _ fp ([]++fU fp s7.heap) s8 _ H7 _ I8' q8) (fun ok s9 ⟨H9,I9,q9⟩=>?_) fun _ _ z=>z
   cases ok with
   | false =>
    rw [KF KO] at q9 ⊢;obtain ⟨m',hm,w9⟩:=q9
    exact again I9 hm w9
   | true =>
    rw [Ku rfl] at q9 ⊢;refine Lc (he pins _ _ _ fp ([]++fU fp s7.heap) s9 _ H9 _ I9 q9) (fun y s10 ⟨v,H10,I10,r10,hD10,m',hm,w10⟩=>?_) fun _ _ z=>z
    refine Lc (rn (X:=(dW X pins x₁ x₂ jf scope (cI X.env scope.names []) { s2 with heap:=hp3 } (aJ H2 s2.heap.objs.size (.lst [])) fp)) ([]++fU fp s7.heap) s10 (fh (some u1) (some u2) jf σ) H10 (.ref s2.heap.objs.size) [v] (.ref s2.heap.objs.size) [y] (fun _ H' => H'=aJ H10 s2.heap.objs.size (.lst (ys++[v]))) I10 rfl (.cons r10 .nil) ⟨_,ys,v,rfl,rfl,hD10,hlen,rfl⟩)
     (fun _ s11 ⟨_,H11,I11,_,e11⟩=>?_) fun _ _ z=>z
    subst e11;exact again I11 hm w10
 exact NB loop (T.self _ 0 _ _ _ st4 loop)
end
section
variable {X:Cx}
end
end L2
namespace L2
open PySem PySem.Spec PyProof.Rows
open PySem.Builtin PySem.Builtin.Str
theorem Ea:bootBuiltins "reversed" = some (.type "reversed"):=by decide +kernel
def rP (K:PySem.W.Frag) (a:Addr) (n:Nat):It :=
 ⟨fun i H=>∃ xs x,SqL K H a xs/\xs.length=n/\i<n/\xs[n-1-i]? = some x,fun i H x H' => H'=H/\∀ xs,SqL K H a xs->xs[n-1-i]? = some x,fun i _=>n<=i⟩
theorem Eb {P:Program} {w:World} {K:PySem.W.Frag} {tg:Expr} (a it:Addr) (n:Nat):e7 P w K tg (rP K a n) [it] it (fun i h=>i<=n/\h.IsRevIter it a ((n:Int)-1-(i:Int))) where
 mem:=by simp
 obj:=fun i h st b hb=>by
  have e:b=it:=by simpa using hb
  subst e;obtain ⟨_,o,e,c,d⟩:=st
  exact ⟨o,e,fun v z=>by rw [d] at z;cases z⟩
 keep:=fun i h h' st k=>⟨st.1,st.2.at fun o e=>k it (by simp) o e⟩
 item:=by
  intro X hP hw hK hc i pins s σ H E I hf st hg
  subst hP hw hK
  obtain ⟨xs,x,hq,hn,hi,hx⟩:=hg
  obtain ⟨its,rv,p,hz⟩:=I.list hq
  obtain ⟨u,hu,ru⟩:=rv.get hx
  obtain ⟨f0,f1,f2,f3,f4,f5⟩:=hf it (by simp)
  have e:(n:Int)-1-(i:Int)=((n-1-i:Nat):Int):=by lia
  have st2:=st.2
  rw [e] at st2;refine wpAny_pyNext_rev_item st2 p.isList (x:=u) (by simpa using hu) fun h' st' sb=>?_
  have I1:Inv X pins σ H { s with heap:=h' }:=I.turned (t' := s.toks) (fun b o hb e=>(sb.2 b hb).trans e) f0 f1 f3 f4 f5
  have e2:((n-1-i:Nat):Int)-1=(n:Int)-1-((i+1:Nat):Int):=by lia
  rw [e2] at st';obtain ⟨o,eo,c,d⟩:=id st'
  exact ⟨u,rfl,mH (s:={ s with heap:=h' }) eo c d (by decide) ⟨x,H,I1,ru,⟨rfl,fun ys hy=>by rw [I.list_inj hy hq];exact hx⟩,⟨hi,st'⟩,fun b hb=>(hf b hb).1⟩⟩
 done:=by
  intro X hP hw hK hc i pins s σ H E I hf st hg
  subst hP hw hK
  obtain ⟨f0,f1,f2,f3,f4,f5⟩:=hf it (by simp)
  have hg':n<=i:=hg
  have e:(n:Int)-1-(i:Int) = -1:=by have:=st.1;lia
  have st2:=st.2
  rw [e] at st2;exact wpAny_pyNext_rev_end (I.ok.hd hc) st2 fun h' eb=>⟨rfl,I.turned (t' := s.toks) (fun b o hb e=>eb b o hb e) f0 f1 f3 f4 f5⟩
 self:=fun _ _ _ _ _ st h=>NV st.2 h
def rQ (K:PySem.W.Frag) (ta:TA):TI:=fun σ H R=>ta σ H fun vs H1=>∃ a xs,vs=[.ref a]/\SqL K H1 a xs/\R (rP K a xs.length) H1
section
variable {X:Cx} {tg:Expr}
theorem Ec {a:Expr} {ta:TA} {p pos:Pos} (hg:Gl X "reversed") (hm:X.mg "reversed" = none) (ha:PA X [a] ta) (hs:starEach [a] X.env=[(false,eval a X.env)]:=by rfl):PI X tg (.Call (.Name "reversed" p) [a] [] pos) (rQ X.K ta):=by
 intro pins s σ H R I h
 refine Call_ (ki I hg hm Ea (Lw (thn (ha pos pins s σ H _ I h) fun us s1 ⟨vs,H1,I1,r1,q1⟩=>?_) hs rfl))
 obtain ⟨a,xs,rfl,hq,q⟩:=q1
 obtain ⟨u,rfl,rx⟩:=hZ r1
 cases rx
 obtain ⟨its,rv,pl,hz⟩:=I1.list hq
 have hl:=rv.length
 refine call_reversed_list pl.isList ?_
 have it:(s1.heap.push (revObj a ((its.toArray.size:Int)-1))).IsRevIter s1.heap.objs.size a ((xs.length:Int)-1-((0:Nat):Int)):=by
  have e:(xs.length:Int)-1-((0:Nat):Int)=(its.toArray.size:Int)-1:=by rw [Ks,<- hl];lia
  rw [e];exact ⟨_,KZ _ rfl,rfl,rfl⟩
 have I2:Inv X pins σ H1 { s1 with heap:=s1.heap.push (revObj a ((its.toArray.size:Int)-1)) }:=I1.kept (t' := s1.toks) fun b o e=>Kt _ e
 refine NV it ?_
 refine ⟨s1.heap.objs.size,[s1.heap.objs.size],_,_,H1,rfl,I2,Eb a s1.heap.objs.size xs.length,⟨KS _,it⟩,fun b hb=>?_,q⟩
 have e:b=s1.heap.objs.size:=by simpa using hb
 subst e;exact I1.fpOk (Kj _) (I1.hok.fresh (Kj _))
theorem Ed:eg X "str.upper" (fun x vs H Q=>∃ z,x = .str z/\vs=[]/\(Txt.upper z).length<=sizeLine/\Q (.str (Txt.upper z)) H):=by
 intro pins s σ H x vs v us Q I rx rv h
 obtain ⟨z,rfl,rfl,hl,q⟩:=h
 obtain ⟨t,rfl⟩:=rx
 cases rv
 exact call_gives F.slot_str_upper (Ny s z t) F.entry_str_upper (F.args_str_upper_1 _) (gives_str_upper z t (KH (Ou.mpr hl))) ⟨hl,.str _,H,I.tok _,⟨_,rfl⟩,q⟩
end
end L2
namespace Sm
open PySem L2
inductive AV where
 | non | bl (b:Bool) | int (i:Int) | str (x:Str)
 | tup (xs:List AV)
 | fl (xs:List AV)
 | ref (n:Nat)
 | exc (c:Nat)
 deriving Inhabited
inductive AO where
 | lst (xs:List AV)
 | dct (t:Bool) (kvs:List (AV×AV))
 | ins (c:Nat) (fs:List (Option AV))
abbrev AH:=List AO
abbrev En:=List (Option AV)
inductive Out (α:Type) where
 | ok (a:α) (h:AH)
 | ex (c:Nat) (h:AH)
 | bad
@[simp] def Out.bind {α β:Type} (o:Out α) (f:α->AH->Out β):Out β :=
 match o with
 | .ok a h=>f a h
 | .ex c h=>.ex c h
 | .bad=>.bad
inductive dM where
 | nx (e:En) (h:AH)
 | rt (v:AV) (h:AH)
 | bk (e:En) (h:AH)
 | ct (e:En) (h:AH)
 | ex (c:Nat) (e:En) (h:AH)
 | bad
abbrev SE:=En->AH->Out AV
abbrev SB:=En->AH->Out Bool
abbrev SL:=En->AH->Out (List AV)
abbrev SS:=En->AH->dM
abbrev Fn:=List AV->AH->Out AV
@[simp] def Out.go {α:Type} (o:Out α) (e:En) (f:α->AH->dM):dM :=
 match o with
 | .ok a h=>f a h
 | .ex c h=>.ex c e h
 | .bad=>.bad
structure Tb where
 K:PySem.W.Frag
 cls:Nat->Option Addr
 exc:Nat->Option Addr
 fields:Nat->List Str
 nd:∀ c,(fields c).Nodup
 few:∀ c,(fields c).length<=500
def KL (K:PySem.W.Frag) (a:Addr) (xs:List V):Prop:=∃ (o:Obj) (its:Array Value) (n:Nat),K.lookup a=some o/\o.cls = .type "list" /\ o.dict=none/\o.data = .seq its n/\its.size<=sizeLine/\Vals xs its.toList
structure Ix where
 refs:List Addr
 priv:List Addr
def Ix.all (ι:Ix):List Addr:=ι.refs++ι.priv
mutual
inductive RV (T:Tb) (ι:Ix) (H:Hp):AV->V->Prop
 | non:RV T ι H .non .non
 | bl (b:Bool):RV T ι H (.bl b) (.bl b)
 | int (i:Int):RV T ι H (.int i) (.int i)
 | str {x:Str} (n:x.length<=sizeLine) (o:x.cps.all (· < 0x110000)=true):RV T ι H (.str x) (.str x)
 | tup {xs:List AV} {us:List V} {a:Addr} (n:a∉ι.all) (h:H a=some (.tup us)) (r:RVs T ι H xs us):RV T ι H (.tup xs) (.ref a)
 | fl {xs:List AV} {us:List V} {a:Addr} (n:a∉ι.all) (h:Rd H a (.lst us)) (r:RVs T ι H xs us):RV T ι H (.fl xs) (.ref a)
 | kfl {xs:List AV} {us:List V} {a:Addr} (h:KL T.K a us) (r:RVs T ι H xs us):RV T ι H (.fl xs) (.ref a)
 | ref {k:Nat} {a:Addr} (h:ι.refs[k]? = some a):RV T ι H (.ref k) (.ref a)
 | exc {c:Nat} {C a:Addr} (n:a∉ι.all) (h:T.exc c=some C) (q:H a=some (rK a (.ref C))):RV T ι H (.exc c) (.ref a)
inductive RVs (T:Tb) (ι:Ix) (H:Hp):List AV->List V->Prop
 | nil:RVs T ι H [] []
 | cons {x:AV} {u:V} {xs:List AV} {us:List V} (r:RV T ι H x u) (rs:RVs T ι H xs us):RVs T ι H (x::xs) (u::us)
end
structure Grow (ι:Ix) (H:Hp) (ι':Ix) (H':Hp):Prop where
 pre:∃ n,ι'.refs=ι.refs++n/\∀ a∈n,H a=none
 priv:ι'.priv=ι.priv
 keep:∀ a o,a∉ι.refs->H a=some o->H' a=some o
 live:∀ a∈ι.all,H' a≠none
theorem wV:∀ {l:List Addr} {i j:Nat} {a:Addr},l.Nodup->l[i]? = some a->l[j]? = some a->i=j
 | [],_,_,_,_,e,_=>by simp at e
 | x::l,0,0,_,_,_,_=>rfl
 | x::l,0,j+1,a,n,e,f=>by
  simp at e f;subst e
  exact absurd (KQ f) (Lk.mp n).1
 | x::l,i+1,0,a,n,e,f=>by
  simp at e f;subst f
  exact absurd (KQ e) (Lk.mp n).1
 | x::l,i+1,j+1,a,n,e,f=>by
  simp at e f
  rw [wV (Lk.mp n).2 e f]
theorem Ix.nr {ι:Ix} {a:Addr} (h:a∉ι.all):a∉ι.refs:=fun z=>h (Kz _ z)
theorem Ix.np {ι:Ix} {a:Addr} (h:a∉ι.all):a∉ι.priv:=fun z=>h (KG _ z)
theorem Grow.refl {ι:Ix} {H:Hp} (l:∀ a∈ι.all,H a≠none):Grow ι H ι H:=⟨⟨[],by simp,by simp⟩,rfl,fun _ _ _ e=>e,l⟩
theorem Grow.at {ι ι':Ix} {H H':Hp} (g:Grow ι H ι' H') {k:Nat} {a:Addr} (h:ι.refs[k]? = some a):ι'.refs[k]? = some a:=by
 obtain ⟨n,e,_⟩:=g.pre
 rw [e,Ki (Kh.mp h).1];exact h
theorem Grow.outR {ι ι':Ix} {H H':Hp} (g:Grow ι H ι' H') {a:Addr} {o:HO} (n:a∉ι.refs) (e:H a=some o):a∉ι'.refs:=fun z=>by
 obtain ⟨m,e',hm⟩:=g.pre
 rw [e'] at z;rcases KI.mp z with z | z
 ·exact n z
 ·rw [hm a z] at e;cases e
theorem Grow.out {ι ι':Ix} {H H':Hp} (g:Grow ι H ι' H') {a:Addr} {o:HO} (n:a∉ι.all) (e:H a=some o):a∉ι'.all:=fun z=>by
 rcases KI.mp z with z | z
 ·exact g.outR (Ix.nr n) e z
 ·rw [g.priv] at z;exact Ix.np n z
theorem Grow.trans {ι ι' ι'':Ix} {H H' H'':Hp} (g:Grow ι H ι' H') (k:Grow ι' H' ι'' H''):Grow ι H ι'' H'' := by
 obtain ⟨n,e1,hn⟩:=g.pre
 obtain ⟨m,e2,hm⟩:=k.pre
 refine ⟨⟨n++m,by rw [e2,e1];simp,fun a ha=>?_⟩,k.priv.trans g.priv,fun a o na e=>k.keep a o (g.outR na e) (g.keep a o na e),fun a ha=>k.live a ?_⟩
 ·rcases KI.mp ha with z | z
  ·exact hn a z
  ·have q:=hm a z
   by_cases hi:a∈ι.refs
   ·exact absurd q (g.live a (Kz _ hi))
   ·cases e:H a with
    | none=>rfl
    | some o=>rw [g.keep a o hi e] at q;cases q
 ·rcases KI.mp ha with z | z
  ·exact Kz _ (by rw [e1];exact Kz _ z)
  ·exact KG _ (by rw [g.priv];exact z)
structure Ext (ι:Ix) (H:Hp) (ι':Ix) (H':Hp):Prop where
 at_:∀ {k:Nat} {a:Addr},ι.refs[k]? = some a->ι'.refs[k]? = some a
 keep:∀ a o,a∉ι.all->H a=some o->H' a=some o
 out:∀ a o,a∉ι.all->H a=some o->a∉ι'.all
theorem Grow.ext {ι ι':Ix} {H H':Hp} (g:Grow ι H ι' H'):Ext ι H ι' H' := ⟨g.at,fun a o n e=>g.keep a o (Ix.nr n) e,fun a o n e=>g.out n e⟩
theorem Ext.trans {ι ι' ι'':Ix} {H H' H'':Hp} (g:Ext ι H ι' H') (k:Ext ι' H' ι'' H''):Ext ι H ι'' H'' :=
 ⟨fun e=>k.at_ (g.at_ e),fun a o n e=>k.keep a o (g.out a o n e) (g.keep a o n e),fun a o n e=>k.out a o (g.out a o n e) (g.keep a o n e)⟩
theorem wW {ι ι':Ix} {H H':Hp} (g:Ext ι H ι' H') {a:Addr} {u:HO} (n:a∉ι.all) (r:Rd H a u):Rd H' a u:=by
 rcases r with r | ⟨o,r⟩
 ·exact .inl (g.keep a _ n r)
 ·exact .inr ⟨o,g.keep a _ n r⟩
theorem Ee {ι ι':Ix} {H H':Hp} (g:Ext ι H ι' H') {a:Addr} {u:HO} (n:a∉ι.all) (r:Rd H a u):a∉ι'.all:=by
 rcases r with r | ⟨o,r⟩
 ·exact g.out _ _ n r
 ·exact g.out _ _ n r
mutual
theorem RV.ext {T:Tb} {ι ι':Ix} {H H':Hp} (g:Ext ι H ι' H'):∀ {x:AV} {u:V},RV T ι H x u->RV T ι' H' x u
 | _,_,.non=>.non
 | _,_,.bl b=>.bl b
 | _,_,.int i=>.int i
 | _,_,.str n o=>.str n o
 | _,_,.tup n h r=>.tup (g.out _ _ n h) (g.keep _ _ n h) (RVs.ext g r)
 | _,_,.fl n h r=>.fl (Ee g n h) (wW g n h) (RVs.ext g r)
 | _,_,.kfl h r=>.kfl h (RVs.ext g r)
 | _,_,.ref h=>.ref (g.at_ h)
 | _,_,.exc n h q=>.exc (g.out _ _ n q) h (g.keep _ _ n q)
theorem RVs.ext {T:Tb} {ι ι':Ix} {H H':Hp} (g:Ext ι H ι' H'):∀ {xs:List AV} {us:List V},RVs T ι H xs us->RVs T ι' H' xs us
 | _,_,.nil=>.nil
 | _,_,.cons r rs=>.cons (RV.ext g r) (RVs.ext g rs)
end
theorem RV.mono {T:Tb} {ι ι':Ix} {H H':Hp} (g:Grow ι H ι' H') {x:AV} {u:V} (r:RV T ι H x u):RV T ι' H' x u:=r.ext g.ext
theorem RVs.mono {T:Tb} {ι ι':Ix} {H H':Hp} (g:Grow ι H ι' H') {xs:List AV} {us:List V} (r:RVs T ι H xs us):RVs T ι' H' xs us:=r.ext g.ext
section
variable {T:Tb} {ι:Ix} {H:Hp}
theorem RVs.length:∀ {xs:List AV} {us:List V},RVs T ι H xs us->xs.length=us.length
 | _,_,.nil=>rfl
 | _,_,.cons _ rs=>by simp [RVs.length rs]
theorem RVs.get:∀ {xs:List AV} {us:List V} {i:Nat} {x:AV},RVs T ι H xs us->xs[i]? = some x->∃ u,us[i]? = some u/\RV T ι H x u
 | _,_,_,_,.nil,e=>by simp at e
 | _,_,0,_,.cons r _,e=>by simp at e;subst e;exact ⟨_,rfl,r⟩
 | _,_,i+1,x,.cons _ t,e=>by
  obtain ⟨u,h1,h2⟩:=RVs.get (i:=i) (x:=x) t (by simpa using e)
  exact ⟨u,by simpa using h1,h2⟩
theorem RVs.append:∀ {xs ys:List AV} {us ws:List V},RVs T ι H xs us->RVs T ι H ys ws->RVs T ι H (xs++ys) (us++ws)
 | _,_,_,_,.nil,s=>s
 | _,_,_,_,.cons r t,s=>.cons r (RVs.append t s)
theorem RVs.set {x:AV} {u:V} (r:RV T ι H x u):∀ {xs:List AV} {us:List V} (i:Nat),RVs T ι H xs us->RVs T ι H (xs.set i x) (us.set i u)
 | _,_,_,.nil=>.nil
 | _,_,0,.cons _ t=>.cons r t
 | _,_,i+1,.cons q t=>.cons q (RVs.set r i t)
theorem RVs.take:∀ {xs:List AV} {us:List V} (n:Nat),RVs T ι H xs us->RVs T ι H (xs.take n) (us.take n)
 | _,_,0,_=>by simpa using RVs.nil
 | _,_,_+1,.nil=>.nil
 | _,_,n+1,.cons r t=>.cons r (RVs.take n t)
theorem RVs.drop:∀ {xs:List AV} {us:List V} (n:Nat),RVs T ι H xs us->RVs T ι H (xs.drop n) (us.drop n)
 | _,_,0,r=>r
 | _,_,_+1,.nil=>.nil
 | _,_,n+1,.cons _ t=>RVs.drop n t
theorem RVs.reverse:∀ {xs:List AV} {us:List V},RVs T ι H xs us->RVs T ι H xs.reverse us.reverse
 | _,_,.nil=>.nil
 | _,_,.cons r t=>by simpa using (RVs.reverse t).append (.cons r .nil)
end
def kA:aW->AV
 | .inl i=>.int i
 | .inr x=>.str x
def OR (T:Tb) (ι:Ix) (H:Hp):AO->HO->Prop
 | .lst xs,o=>∃ us,o = .lst us/\RVs T ι H xs us
 | .dct false kvs,o=>∃ kus:List (aW×V),o = .dK kus/\Paired (fun (p:AV×AV) (q:aW×V)=>p.1=kA q.1/\RV T ι H p.2 q.2) kvs kus
 | .dct true kvs,o=>∃ kus:List (List aW×V),o = .dT kus/\Paired (fun (p:AV×AV) (q:List aW×V)=>p.1 = .tup (q.1.map kA)/\RV T ι H p.2 q.2) kvs kus
 | .ins c fs,o=>∃ C dx fus,T.cls c=some C/\o = .ins C dx fus/\(fus.map (·.1)).Nodup/\(∀ p∈fus,p.1∈T.fields c)/\fs.length=(T.fields c).length /\
   ∀ (i:Nat) (v:AV),fs[i]? = some (some v)->∃ f u,(T.fields c)[i]? = some f/\fus.lookup f=some u/\RV T ι H v u
theorem OR.mono {T:Tb} {ι ι':Ix} {H H':Hp} (g:Grow ι H ι' H') {o:AO} {u:HO} (h:OR T ι H o u):OR T ι' H' o u:=by
 cases o with
 | lst xs=>obtain ⟨us,e,r⟩:=h;exact ⟨us,e,r.mono g⟩
 | dct t kvs =>
  cases t with
  | false=>obtain ⟨us,e,r⟩:=h;exact ⟨us,e,Paired.mapP r fun _ _ ⟨a,b⟩=>⟨a,b.mono g⟩⟩
  | true=>obtain ⟨us,e,r⟩:=h;exact ⟨us,e,Paired.mapP r fun _ _ ⟨a,b⟩=>⟨a,b.mono g⟩⟩
 | ins c fs =>
  obtain ⟨C,dx,fus,a,b,n,w,l,r⟩:=h
  refine ⟨C,dx,fus,a,b,n,w,l,fun i v e=>?_⟩
  obtain ⟨f,u,e1,e2,q⟩:=r i v e
  exact ⟨f,u,e1,e2,q.mono g⟩
structure Sim (T:Tb) (ι:Ix) (h:AH) (H:Hp):Prop where
 len:ι.refs.length=h.length
 nd:ι.refs.Nodup
 plive:∀ a∈ι.priv,H a≠none
 obj:∀ (i:Nat) (o:AO) (a:Addr),h[i]? = some o->ι.refs[i]? = some a->∃ u,H a=some u/\OR T ι H o u
section
variable {T:Tb} {ι:Ix} {h:AH} {H:Hp}
theorem Sim.live (S:Sim T ι h H):∀ a∈ι.all,H a≠none:=fun a ha z=>by
 rcases KI.mp ha with ha | ha
 ·obtain ⟨i,hi⟩:=List.mem_iff_getElem?.mp ha
  have hl:i<h.length:=by rw [<- S.len];exact (Kh.mp hi).1
  obtain ⟨u,e,_⟩:=S.obj i h[i] a (by simp [hl]) hi
  rw [z] at e;cases e
 ·exact S.plive a ha z
theorem Sim.refl (S:Sim T ι h H):Grow ι H ι H:=.refl S.live
theorem Sim.fresh (S:Sim T ι h H) {p:Addr} (n:H p=none):p∉ι.all:=fun z=>S.live p z n
theorem Sim.still (S:Sim T ι h H) {H':Hp} (g:Grow ι H ι H') (k:∀ a∈ι.refs,H' a=H a):Sim T ι h H' :=
 ⟨S.len,S.nd,fun a ha=>g.live a (KG _ ha),fun i o a e1 e2=>by
  obtain ⟨u,e,r⟩:=S.obj i o a e1 e2
  exact ⟨u,by rw [k a (KQ e2)];exact e,r.mono g⟩⟩
theorem Sim.growNew (S:Sim T ι h H) {p:Addr} {o:HO} (n:H p=none):Grow ι H ι (aJ H p o) :=
 ⟨⟨[],by simp,by simp⟩,rfl,fun a u _ e=>by rw [bS (gK e n)];exact e,fun a ha=>by
  rw [bS (show a≠p from fun z=>S.fresh n (z▸ha))];exact S.live a ha⟩
theorem Sim.new (S:Sim T ι h H) {p:Addr} {o:HO} (n:H p=none):Sim T ι h (aJ H p o) :=
 S.still (S.growNew n) fun a ha=>bS fun z=>S.fresh n (z▸Kz _ ha)
def Ix.add (ι:Ix) (p:Addr):Ix:=⟨ι.refs++[p],ι.priv⟩
theorem Sim.growAdd (S:Sim T ι h H) {p:Addr} {u:HO} (n:H p=none):Grow ι H (ι.add p) (aJ H p u) :=
 ⟨⟨[p],rfl,fun a ha=>by have e:a=p:=(by simpa using ha);rw [e];exact n⟩,rfl,(S.growNew n).keep,(S.growNew n).live⟩
theorem Sim.add (S:Sim T ι h H) {p:Addr} {u:HO} {o:AO} (n:H p=none) (r:OR T (ι.add p) (aJ H p u) o u):Sim T (ι.add p) (h++[o]) (aJ H p u):=by
 refine ⟨by simp [Ix.add,S.len],?_,fun a ha=>(S.growNew n).live a (KG _ ha),fun i o' a e1 e2=>?_⟩
 ·show (ι.refs++[p]).Nodup
  rw [M4];exact ⟨S.nd,by simp,fun a ha b hb z=>by have e:b=p:=(by simpa using hb);subst e;subst z;exact S.fresh n (Kz _ ha)⟩
 ·replace e2:(ι.refs++[p])[i]? = some a:=e2
  by_cases hi:i<h.length
  ·rw [Ki hi] at e1
   rw [Ki (by rw [S.len];exact hi)] at e2
   obtain ⟨v,e,q⟩:=S.obj i o' a e1 e2
   exact ⟨v,by rw [bS (gK e n)];exact e,q.mono (S.growAdd n)⟩
  ·have e3:i=h.length:=by
    have:=(Kh.mp e1).1
    simp at this;lia
   subst e3;rw [K2 (Kj _)] at e1;rw [K2 (by rw [S.len];exact Kj _),S.len] at e2
   simp at e1 e2
   subst e1 e2
   exact ⟨u,eG,r⟩
theorem Sim.addAt (S:Sim T ι h H) {p:Addr}:(ι.add p).refs[h.length]? = some p:=by
 show (ι.refs++[p])[h.length]? = some p
 rw [<- S.len];simp
theorem Sim.growSet (S:Sim T ι h H) {i:Nat} {a:Addr} {u:HO} (e:ι.refs[i]? = some a):Grow ι H ι (aJ H a u) :=
 ⟨⟨[],by simp,by simp⟩,rfl,fun b o nb q=>by rw [bS (show b≠a from fun z=>nb (by rw [z];exact KQ e))];exact q,fun b hb=>by
  by_cases z:b=a
  ·subst z;rw [eG];simp
  ·rw [bS z];exact S.live b hb⟩
theorem Sim.set (S:Sim T ι h H) {i:Nat} {a:Addr} {u:HO} {o:AO} (e:ι.refs[i]? = some a) (r:OR T ι (aJ H a u) o u):Sim T ι (h.set i o) (aJ H a u):=by
 refine ⟨by simp [S.len],S.nd,fun b hb=>(S.growSet e).live b (KG _ hb),fun j o' b e1 e2=>?_⟩
 by_cases hj:j=i
 ·subst hj
  rw [e] at e2;cases e2
  have hl:j<h.length:=by rw [<- S.len];exact (Kh.mp e).1
  rw [Ko hl] at e1;cases e1
  exact ⟨u,eG,r⟩
 ·rw [Kr (Ne.symm hj)] at e1
  obtain ⟨v,q,r'⟩:=S.obj j o' b e1 e2
  have ne:b≠a:=fun z=>hj (by
   subst z;exact wV S.nd e2 e)
  exact ⟨v,by rw [bS ne];exact q,r'.mono (S.growSet e)⟩
end
def Ix.hide (ι:Ix) (D:Addr):Ix:=⟨ι.refs,D::ι.priv⟩
theorem Ix.hide_all {ι:Ix} {D a:Addr}:a∉(ι.hide D).all ↔ a∉ι.all/\a≠D:=by
 unfold Ix.all Ix.hide
 simp only [KI,KJ]
 constructor
 ·intro h;exact ⟨fun z=>h (z.elim .inl fun z=>.inr (.inr z)),fun z=>h (.inr (.inl z))⟩
 ·rintro ⟨h1,h2⟩ (z | z | z)
  ·exact h1 (.inl z)
  ·exact h2 z
  ·exact h1 (.inr z)
section
variable {T:Tb} {ι:Ix} {H:Hp} {D:Addr}
theorem Ext.hide {o:HO} (hn:H D=none):Ext ι H (ι.hide D) (aJ H D o):=⟨fun e=>e,fun a u n e=>by rw [bS (gK e hn)];exact e,fun a u n e=>Ix.hide_all.mpr ⟨n,gK e hn⟩⟩
theorem Ext.poke {o:HO}:Ext (ι.hide D) H (ι.hide D) (aJ H D o):=⟨fun e=>e,fun a u n e=>by rw [bS (Ix.hide_all.mp n).2];exact e,fun a u n e=>n⟩
theorem Ext.show:Ext (ι.hide D) H ι H:=⟨fun e=>e,fun a u n e=>e,fun a u n e=>(Ix.hide_all.mp n).1⟩
theorem Ext.adopt:Ext (ι.hide D) H (ι.add D) H:=⟨fun {k a} e=>by
 show (ι.refs++[D])[k]? = some a
 replace e:ι.refs[k]? = some a:=e
 rw [Ki (Kh.mp e).1];exact e,fun a u n e=>e,fun a u n e z=>by
 rcases KI.mp z with z | z
 ·replace z:a∈ι.refs++[D]:=z
  rcases KI.mp z with z | z
  ·exact (Ix.hide_all.mp n).1 (Kz _ z)
  ·exact (Ix.hide_all.mp n).2 (by simpa using z)
 ·exact (Ix.hide_all.mp n).1 (KG _ z)⟩
theorem OR.ext {ι ι':Ix} {H H':Hp} (g:Ext ι H ι' H') {o:AO} {u:HO} (h:OR T ι H o u):OR T ι' H' o u:=by
 cases o with
 | lst xs=>obtain ⟨us,e,r⟩:=h;exact ⟨us,e,r.ext g⟩
 | dct t kvs =>
  cases t with
  | false=>obtain ⟨us,e,r⟩:=h;exact ⟨us,e,Paired.mapP r fun _ _ ⟨a,b⟩=>⟨a,b.ext g⟩⟩
  | true=>obtain ⟨us,e,r⟩:=h;exact ⟨us,e,Paired.mapP r fun _ _ ⟨a,b⟩=>⟨a,b.ext g⟩⟩
 | ins c fs =>
  obtain ⟨C,dx,fus,a,b,n,w,l,r⟩:=h
  refine ⟨C,dx,fus,a,b,n,w,l,fun i v e=>?_⟩
  obtain ⟨f,u,e1,e2,q⟩:=r i v e
  exact ⟨f,u,e1,e2,q.ext g⟩
theorem Sim.hide {h:AH} {o:HO} (S:Sim T ι h H) (hn:H D=none):Sim T (ι.hide D) h (aJ H D o) :=
 ⟨S.len,S.nd,fun a ha=>by
  rcases KJ.mp ha with rfl | ha
  ·rw [eG];simp
  ·rw [bS (show a≠D from fun z=>S.plive a ha (z▸hn))];exact S.plive a ha,fun i o' a e1 e2=>by
  obtain ⟨u,e,r⟩:=S.obj i o' a e1 e2
  exact ⟨u,by rw [bS (gK e hn)];exact e,r.ext (Ext.hide hn)⟩⟩
theorem Sim.poke {h:AH} {o:HO} (S:Sim T (ι.hide D) h H) (hr:D∉ι.refs):Sim T (ι.hide D) h (aJ H D o) :=
 ⟨S.len,S.nd,fun a ha=>by
  by_cases z:a=D
  ·subst z;rw [eG];simp
  ·rw [bS z];exact S.plive a ha,fun i o' a e1 e2=>by
  obtain ⟨u,e,r⟩:=S.obj i o' a e1 e2
  have ne:a≠D:=fun z=>hr (z▸KQ e2)
  exact ⟨u,by rw [bS ne];exact e,r.ext Ext.poke⟩⟩
theorem Sim.show {h:AH} (S:Sim T (ι.hide D) h H):Sim T ι h H :=
 ⟨S.len,S.nd,fun a ha=>S.plive a (Kp _ ha),fun i o' a e1 e2=>by
  obtain ⟨u,e,r⟩:=S.obj i o' a e1 e2
  exact ⟨u,e,r.ext Ext.show⟩⟩
theorem Sim.adopt {h:AH} {u:HO} {o:AO} (S:Sim T (ι.hide D) h H) (hr:D∉ι.refs) (e:H D=some u) (r:OR T (ι.add D) H o u):Sim T (ι.add D) (h++[o]) H:=by
 have hlen:ι.refs.length=h.length:=S.len
 refine ⟨by simp [Ix.add,hlen],?_,fun a ha=>S.plive a (Kp _ ha),fun i o' a e1 e2=>?_⟩
 ·show (ι.refs++[D]).Nodup
  rw [M4];exact ⟨S.nd,by simp,fun a ha b hb z=>by have e:b=D:=(by simpa using hb);subst e;subst z;exact hr ha⟩
 ·replace e2:(ι.refs++[D])[i]? = some a:=e2
  by_cases hi:i<h.length
  ·rw [Ki hi] at e1
   rw [Ki (by rw [hlen];exact hi)] at e2
   obtain ⟨v,e,q⟩:=S.obj i o' a e1 e2
   exact ⟨v,e,q.ext Ext.adopt⟩
  ·have e3:i=h.length:=by
    have:=(Kh.mp e1).1
    simp at this;lia
   subst e3;rw [K2 (Kj _)] at e1;rw [K2 (by rw [hlen];exact Kj _),hlen] at e2
   simp at e1 e2
   subst e1 e2
   exact ⟨u,e,r⟩
end
def ER (T:Tb) (ι:Ix) (H:Hp) (e:En) (σ:St):Prop:=e.length=σ.length/\∀ (i:Nat) (v:AV),e[i]? = some (some v)->∃ u,σ[i]? = some (some u)/\RV T ι H v u
theorem ER.mono {T:Tb} {ι ι':Ix} {H H':Hp} {e:En} {σ:St} (r:ER T ι H e σ) (g:Grow ι H ι' H'):ER T ι' H' e σ :=
 ⟨r.1,fun i v q=>let ⟨u,a,b⟩:=r.2 i v q;⟨u,a,b.mono g⟩⟩
theorem ER.ext {T:Tb} {ι ι':Ix} {H H':Hp} {e:En} {σ:St} (r:ER T ι H e σ) (g:Ext ι H ι' H'):ER T ι' H' e σ :=
 ⟨r.1,fun i v q=>let ⟨u,a,b⟩:=r.2 i v q;⟨u,a,b.ext g⟩⟩
theorem ER.set {T:Tb} {ι:Ix} {H:Hp} {e:En} {σ:St} (r:ER T ι H e σ) {v:AV} {u:V} (q:RV T ι H v u) (i:Nat):ER T ι H (e.set i (some v)) (σ.set i (some u)):=by
 refine ⟨by simp [r.1],fun j w z=>?_⟩
 by_cases hj:j=i
 ·subst hj
  by_cases hl:j<e.length
  ·rw [Ko hl] at z;cases z
   exact ⟨u,by rw [Ko (by rw [<- r.1];exact hl)],q⟩
  ·rw [MC (by simpa using hl)] at z;cases z
 ·rw [Kr (Ne.symm hj)] at z ⊢
  exact r.2 j w z
def Post {α β:Type} (T:Tb) (ι:Ix) (H:Hp) (E:XK) (R:Ix->Hp->α->β->Prop) (o:Out α) (Q:β->Hp->Prop):Prop :=
 match o with
 | .ok v h' => ∀ ι' H' u,Grow ι H ι' H'->Sim T ι' h' H'->R ι' H' v u->Q u H'
 | .ex c h' => ∀ ι' H' C,Grow ι H ι' H'->Sim T ι' h' H'->T.exc c=some C->E (.ref C) none H'
 | .bad=>False
def PostS (T:Tb) (ι:Ix) (H:Hp) (E:St->XK) (o:dM) (D:dJ):Prop :=
 match o with
 | .nx e h' => ∀ ι' H' σ',Grow ι H ι' H'->Sim T ι' h' H'->ER T ι' H' e σ'->D.nx σ' H'
 | .bk e h' => ∀ ι' H' σ',Grow ι H ι' H'->Sim T ι' h' H'->ER T ι' H' e σ'->D.bk σ' H'
 | .ct e h' => ∀ ι' H' σ',Grow ι H ι' H'->Sim T ι' h' H'->ER T ι' H' e σ'->D.ct σ' H'
 | .rt v h' => ∀ ι' H' u,Grow ι H ι' H'->Sim T ι' h' H'->RV T ι' H' v u->D.rt u H'
 | .ex c e h' => ∀ ι' H' σ' C,Grow ι H ι' H'->Sim T ι' h' H'->ER T ι' H' e σ'->T.exc c=some C->E σ' (.ref C) none H'
 | .bad=>False
abbrev Ef {α:Type}:Ix->Hp->α->α->Prop:=fun _ _ a b=>a=b
section
variable {T:Tb} {ι ι':Ix} {h:AH} {H H':Hp} {α β γ δ:Type} {E:XK} {R:Ix->Hp->α->β->Prop} {R':Ix->Hp->γ->δ->Prop}
theorem Post.shift {o:Out α} {Q:β->Hp->Prop} (p:Post T ι H E R o Q) (g:Grow ι H ι' H'):Post T ι' H' E R o Q:=by
 cases o with
 | ok v h' => exact fun i2 H2 u g2=>p i2 H2 u (g.trans g2)
 | ex c h' => exact fun i2 H2 C g2=>p i2 H2 C (g.trans g2)
 | bad=>exact p
theorem Post.bind {o:Out α} {f:α->AH->Out γ} {Q:δ->Hp->Prop} {Q1:β->Hp->Prop} (p:Post T ι H E R' (o.bind f) Q)
  (k:∀ v h' ι' H' u,Grow ι H ι' H'->Sim T ι' h' H'->R ι' H' v u->Post T ι' H' E R' (f v h') Q->Q1 u H'):Post T ι H E R o Q1:=by
 cases o with
 | ok v h' => exact fun i2 H2 u g S r=>k v h' i2 H2 u g S r (Post.shift p g)
 | ex c h' => exact p
 | bad=>exact p
theorem Post.now {v:α} {u:β} {Q:β->Hp->Prop} (p:Post T ι H E R (.ok v h) Q) (S:Sim T ι h H) (r:R ι H v u):Q u H:=p ι H u S.refl S r
theorem PostS.shift {E:St->XK} {o:dM} {D:dJ} (p:PostS T ι H E o D) (g:Grow ι H ι' H'):PostS T ι' H' E o D:=by
 cases o with
 | nx e h' => exact fun i2 H2 u g2=>p i2 H2 u (g.trans g2)
 | bk e h' => exact fun i2 H2 u g2=>p i2 H2 u (g.trans g2)
 | ct e h' => exact fun i2 H2 u g2=>p i2 H2 u (g.trans g2)
 | rt v h' => exact fun i2 H2 u g2=>p i2 H2 u (g.trans g2)
 | ex c e h' => exact fun i2 H2 u C g2=>p i2 H2 u C (g.trans g2)
 | bad=>exact p
theorem PostS.go {E:St->XK} {o:Out α} {en:En} {σ:St} {f:α->AH->dM} {D:dJ} {Q1:β->Hp->Prop} (p:PostS T ι H E (o.go en f) D) (er:ER T ι H en σ)
  (k:∀ v h' ι' H' u,Grow ι H ι' H'->Sim T ι' h' H'->R ι' H' v u->PostS T ι' H' E (f v h') D->Q1 u H'):Post T ι H (E σ) R o Q1:=by
 cases o with
 | ok v h' => exact fun i2 H2 u g S r=>k v h' i2 H2 u g S r (PostS.shift p g)
 | ex c h' => exact fun i2 H2 C g S e=>p i2 H2 σ C g S (er.mono g) e
 | bad=>exact p
end
def tE (T:Tb) (E:St->XK) (a:SE):TE:=fun σ H Q=>∃ ι h en,Sim T ι h H/\ER T ι H en σ/\Post T ι H (E σ) (RV T) (a en h) Q
def tT (T:Tb) (E:St->XK) (a:SB):TT:=fun σ H Q=>∃ ι h en,Sim T ι h H/\ER T ι H en σ/\Post T ι H (E σ) Ef (a en h) Q
def tA (T:Tb) (E:St->XK) (a:SL):TA:=fun σ H Q=>∃ ι h en,Sim T ι h H/\ER T ι H en σ/\Post T ι H (E σ) (RVs T) (a en h) Q
def tS (T:Tb) (E:St->XK) (b:SS):TS:=fun D σ H=>∃ ι h en,Sim T ι h H/\ER T ι H en σ/\PostS T ι H E (b en h) D
abbrev aN (T:Tb) (E:St->XK) (X:Cx) (e:Expr) (a:SE):Prop:=PE X e (tE T E a)
abbrev ia (T:Tb) (E:St->XK) (X:Cx) (e:Expr) (a:SB):Prop:=PT X e (tT T E a)
abbrev kB (T:Tb) (E:St->XK) (X:Cx) (e:Expr) (a:SB):Prop:=PW X e (tT T E a)
abbrev ib (T:Tb) (E:St->XK) (X:Cx) (es:List Expr) (a:SL):Prop:=PA X es (tA T E a)
abbrev fW (T:Tb) (E:St->XK) (X:Cx) (st:Stmt) (b:SS):Prop:=PS X st (tS T E b)
abbrev dc (T:Tb) (E:St->XK) (X:Cx) (sts:List Stmt) (b:SS):Prop:=gL X sts (tS T E b)
theorem cT {X:Cx} {e:Expr} {t t':TE} (h:PE X e t) (k:∀ σ H Q,t' σ H Q->t σ H Q):PE X e t' := fun pins s σ H Q I q=>h pins s σ H Q I (k σ H Q q)
theorem rR {X:Cx} {e:Expr} {t t':TT} (h:PT X e t) (k:∀ σ H Q,t' σ H Q->t σ H Q):PT X e t' := fun pins s σ H Q I q=>h pins s σ H Q I (k σ H Q q)
theorem wX {X:Cx} {e:Expr} {t t':TT} (h:PW X e t) (k:∀ σ H Q,t' σ H Q->t σ H Q):PW X e t' := fun w pins s σ H Q I q=>h w pins s σ H Q I (k σ H Q q)
theorem wY {X:Cx} {e:List Expr} {t t':TA} (h:PA X e t) (k:∀ σ H Q,t' σ H Q->t σ H Q):PA X e t' := fun p pins s σ H Q I q=>h p pins s σ H Q I (k σ H Q q)
theorem gM {X:Cx} {e:Stmt} {t t':TS} (h:PS X e t) (k:∀ D σ H,t' D σ H->t D σ H):PS X e t' := fun pins s σ H D I q=>h pins s σ H D I (k D σ H q)
theorem wZ {X:Cx} {e:List Stmt} {t t':TS} (h:gL X e t) (k:∀ D σ H,t' D σ H->t D σ H):gL X e t' := fun pins s σ H D I q=>h pins s σ H D I (k D σ H q)
theorem oU {X:Cx} {st:Stmt} {t:TS} (h:PS X.nox st t):PS X st t:=fun pins s σ H D I hw=>by
 refine Lc (h pins s σ H D (I.wish _) hw) (fun f s' q=>SP.unwish q) fun _ _ z=>z.elim
end Sm
namespace Sm
open PySem L2
instance:DecidableEq AV:=fun _ _=>Classical.propDecidable _
@[simp] def ae (i:Nat):SE:=fun en h=>match en[i]? with
 | some (some v)=>.ok v h
 | _=>.bad
@[simp] def ai (v:AV):SE:=fun _ h=>.ok v h
abbrev F1:=AV->AH->Out AV
abbrev F2:=AV->AV->AH->Out AV
@[simp] def fi (f:F1) (a:SE):SE:=fun en h=>(a en h).bind f
@[simp] def ah (f:F2) (a b:SE):SE:=fun en h=>(a en h).bind fun x h1=>(b en h1).bind fun y h2=>f x y h2
@[simp] def af:SL:=fun _ h=>.ok [] h
@[simp] def aj (a:SE) (r:SL):SL:=fun en h=>(a en h).bind fun x h1=>(r en h1).bind fun xs h2=>.ok (x::xs) h2
@[simp] def ax (F:Fn) (as:SL):SE:=fun en h=>(as en h).bind F
@[simp] def kD (as:SL):SE:=fun en h=>(as en h).bind fun xs h1=>if xs.length<=1000 then .ok (.tup xs) h1 else .bad
@[simp] def aS (as:SL):SE:=fun en h=>(as en h).bind fun xs h1=>if xs.length<=1000 then .ok (.fl xs) h1 else .bad
@[simp] def dw (as:SL):SE:=fun en h=>(as en h).bind fun xs h1=>if xs.length<=1000 then .ok (.ref h1.length) (h1++[.lst xs]) else .bad
@[simp] def w4 (t:Bool):SE:=fun _ h=>.ok (.ref h.length) (h++[.dct t []])
@[simp] def J6 (v:AV) (h:AH):Option (List AV):=match v with
 | .tup xs=>some xs
 | .fl xs=>some xs
 | .ref n=>match h[n]? with
  | some (.lst xs)=>some xs
  | _=>none
 | _=>none
@[simp] def dR (v:AV) (h:AH):Option (List AV):=match v with
 | .fl xs=>some xs
 | .ref n=>match h[n]? with
  | some (.lst xs)=>some xs
  | _=>none
 | _=>none
@[simp] def ar:F2:=fun x y h=>match x,y with
 | .int i,.int j=>.ok (.int (i+j)) h
 | .str i,.str j=>if i.length+j.length<=sizeLine then .ok (.str (i++j)) h else .bad
 | .tup xs,.tup ys=>if xs≠[]/\xs.length+ys.length<=sizeLine then .ok (.tup (xs++ys)) h else .bad
 | x,y=>match dR x h,dR y h with
  | some xs,some ys=>if xs.length+ys.length<=sizeLine then .ok (.fl (xs++ys)) h else .bad
  | _,_=>.bad
@[simp] def dy:F2:=fun x y h=>match x,y with
 | .int i,.int j=>.ok (.int (i-j)) h
 | _,_=>.bad
@[simp] def bW:F2:=fun x y h=>match x,y with
 | .int i,.int j=>if (i.natAbs<2 ^ 64\/j.natAbs<2 ^ 64)\/(i.natAbs<2 ^ 4000/\j.natAbs<2 ^ 4000) then .ok (.int (i*j)) h else .bad
 | _,_=>.bad
@[simp] def gN:F2:=fun x y h=>match x,y with
 | .int i,.int j=>if 0<j/\j.natAbs<2 ^ 200 then .ok (.int (i / j)) h else .bad
 | _,_=>.bad
@[simp] def bz:F2:=fun x y h=>match x,y with
 | .int i,.int j=>if 0<j then .ok (.int (i % j)) h else .bad
 | _,_=>.bad
@[simp] def de:F2:=fun x y h=>match x,y with
 | .int i,.int j=>if 0<=j/\j<=1000000/\i.natAbs<2 ^ 64 then .ok (.int (i ^ j.toNat)) h else .bad
 | _,_=>.bad
@[simp] def cU:F1:=fun x h=>match x with
 | .int i=>.ok (.int (-i)) h
 | _=>.bad
def cE (f:AV->Option PyData):List AV->Option (List PyData)
 | []=>some []
 | x::xs=>match f x,cE f xs with
  | some d,some ds=>some (d::ds)
  | _,_=>none
def df:Nat->AH->AV->Option PyData
 | 0,_,v=>match v with
  | .non=>some .none
  | .bl b=>some (.bool b)
  | .int i=>some (.int i)
  | .str x=>some (.str x)
  | _=>none
 | n+1,h,v=>match v with
  | .non=>some .none
  | .bl b=>some (.bool b)
  | .int i=>some (.int i)
  | .str x=>some (.str x)
  | .tup xs=>(cE (df n h) xs).map .tuple
  | .fl xs=>(cE (df n h) xs).map .list
  | .ref k=>match h[k]? with
   | some (.lst xs)=>(cE (df n h) xs).map .list
   | _=>none
  | .exc _=>none
@[simp] def fX (x y:AV) (h:AH):Option Bool:=match x,y with
 | .int i,.int j=>some (decide (i=j))
 | .str i,.str j=>some (decide (i=j))
 | .bl i,.bl j=>some (decide (i=j))
 | .non,.non=>some true
 | x,y=>match df 8 h x,df 8 h y with
  | some d,some e=>some (PyData.eqv d e)
  | _,_=>none
@[simp] def aH:F2:=fun x y h=>match fX x y h with
 | some b=>.ok (.bl b) h
 | none=>.bad
@[simp] def aI:F2:=fun x y h=>match fX x y h with
 | some b=>.ok (.bl (!b)) h
 | none=>.bad
@[simp] def iS:F2:=fun x y h=>match x,y with
 | .int i,.int j=>.ok (.bl (decide (i<j))) h
 | .str i,.str j=>.ok (.bl (decide (i.cps.toList<j.cps.toList))) h
 | _,_=>.bad
@[simp] def iB:F2:=fun x y h=>match x,y with
 | .int i,.int j=>.ok (.bl (decide (i<=j))) h
 | .str i,.str j=>.ok (.bl (!decide (j.cps.toList<i.cps.toList))) h
 | _,_=>.bad
@[simp] def gO:F2:=fun x y h=>match x,y with
 | .int i,.int j=>.ok (.bl (decide (j<i))) h
 | _,_=>.bad
@[simp] def rS:F2:=fun x y h=>match x,y with
 | .int i,.int j=>.ok (.bl (decide (j<=i))) h
 | _,_=>.bad
@[simp] def Eg:F2:=fun x y h=>match y with
 | .non=>.ok (.bl (decide (x = .non))) h
 | _=>.bad
@[simp] def gP:F2:=fun x y h=>match y with
 | .non=>.ok (.bl (!decide (x = .non))) h
 | _=>.bad
@[simp] def fk (v:AV) (h:AH):Option Bool:=match v with
 | .non=>some false
 | .bl b=>some b
 | .int i=>some (i != 0)
 | .str y=>some ((y.length:Int) != 0)
 | .tup xs=>some (!xs.isEmpty)
 | .fl xs=>some (!xs.isEmpty)
 | .ref n=>match h[n]? with
  | some (.lst xs)=>some (!xs.isEmpty)
  | some (.dct false kvs)=>some (!kvs.isEmpty)
  | _=>none
 | _=>none
@[simp] def dX (a:SE):SB:=fun en h=>(a en h).bind fun v h1=>match fk v h1 with
 | some b=>.ok b h1
 | none=>.bad
@[simp] def aQ (a:SE):SB:=fun en h=>(a en h).bind fun v h1=>match v with
 | .bl b=>.ok b h1
 | _=>.bad
@[simp] def dz (a b:SB):SB:=fun en h=>(a en h).bind fun x h1=>if x=true then b en h1 else .ok false h1
@[simp] def w6 (a b:SB):SB:=fun en h=>(a en h).bind fun x h1=>if x=true then .ok true h1 else b en h1
@[simp] def eK (a:SB):SB:=fun en h=>(a en h).bind fun x h1=>.ok (!x) h1
@[simp] def lL (a b:SE):SE:=fun en h=>(a en h).bind fun v h1=>match v with
 | .bl k=>if k=true then b en h1 else .ok (.bl false) h1
 | _=>.bad
@[simp] def kE (a b:SE):SE:=fun en h=>(a en h).bind fun v h1=>match v with
 | .bl k=>if k=true then .ok (.bl true) h1 else b en h1
 | _=>.bad
@[simp] def rT (a:SE):SE:=fun en h=>(a en h).bind fun v h1=>match v with
 | .bl b=>.ok (.bl (!b)) h1
 | _=>.bad
@[simp] def mV (c:SB) (a b:SE):SE:=fun en h=>(c en h).bind fun x h1=>if x=true then a en h1 else b en h1
@[simp] def mW (f f':F2) (a b c:SE):SE:=fun en h=>(a en h).bind fun x h1=>(b en h1).bind fun y h2=>(f x y h2).bind fun z h3=>match z with
 | .bl k=>if k=true then (c en h3).bind fun w h4=>f' y w h4 else .ok (.bl false) h3
 | _=>.bad
@[simp] def bH:SS:=fun en h=>.nx en h
@[simp] def ao (a b:SS):SS:=fun en h=>match a en h with
 | .nx e h' => b e h'
 | o=>o
@[simp] def bJ (a:SE):SS:=fun en h=>(a en h).go en fun _ h' => .nx en h'
@[simp] def aA (a:SE):SS:=fun en h=>(a en h).go en fun v h' => .rt v h'
@[simp] def bh (c:SB) (a b:SS):SS:=fun en h=>(c en h).go en fun x h' => if x=true then a en h' else b en h'
@[simp] def aw (i:Nat) (a:SE):SS:=fun en h=>(a en h).go en fun v h' => .nx (en.set i (some v)) h'
def bF (c:SB) (b:SS):Nat->SS
 | 0=>fun _ _=>.bad
 | n+1=>fun en h=>match c en h with
  | .ok true h1=>(match b en h1 with
   | .nx e2 h2=>bF c b n e2 h2
   | .ct e2 h2=>bF c b n e2 h2
   | .bk e2 h2=>.nx e2 h2
   | .rt v h2=>.rt v h2
   | _=>.bad)
  | .ok false h1=>.nx en h1
  | _=>.bad
abbrev SI:=En->AH->Out (List AV×Option Nat)
@[simp] def cP (w:Option Nat) (xs:List AV) (h:AH):Bool:=match w with
 | none=>true
 | some n=>match h[n]? with
  | some (.lst ys)=>decide (ys=xs)
  | _=>false
inductive Tg where
 | nm (i:Nat)
 | tup (is:List Nat)
@[simp] def rV:List Nat->List AV->En->Option En
 | [],[],en=>some en
 | i::is,x::xs,en=>rV is xs (en.set i (some x))
 | _,_,_=>none
@[simp] def dB (t:Tg) (v:AV) (en:En):Option En:=match t,v with
 | .nm i,v=>some (en.set i (some v))
 | .tup is,.tup xs=>rV is xs en
 | _,_=>none
def cH (w:Option Nat) (all:List AV) (t:Tg) (b:SS):List AV->SS
 | []=>fun en h=>if cP w all h=true then .nx en h else .bad
 | x::xs=>fun en h=>if cP w all h=true then
   (match dB t x en with
   | some e1=>(match b e1 h with
    | .nx e2 h2=>cH w all t b xs e2 h2
    | .ct e2 h2=>cH w all t b xs e2 h2
    | .bk e2 h2=>.nx e2 h2
    | .rt v h2=>.rt v h2
    | _=>.bad)
   | none=>.bad) else .bad
@[simp] def bf (it:SI) (t:Tg) (b:SS):SS:=fun en h=>match it en h with
 | .ok (xs,w) h1=>cH w xs t b xs en h1
 | _=>.bad
@[simp] def aK (a:SE):SI:=fun en h=>(a en h).bind fun v h1=>match v with
 | .fl xs=>.ok (xs,none) h1
 | .tup xs=>.ok (xs,none) h1
 | .str z=>.ok (z.cps.toList.map (fun c=>.str ⟨#[c]⟩),none) h1
 | .ref n=>match h1[n]? with
  | some (.lst xs)=>.ok (xs,some n) h1
  | _=>.bad
 | _=>.bad
def cZ (lo:Int):Nat->List AV
 | 0=>[]
 | n+1=>.int lo::cZ (lo+1) n
@[simp] def fY (a:SE):SI:=fun en h=>(a en h).bind fun v h1=>match v with
 | .int j=>if j.natAbs<2 ^ 62 then .ok (cZ 0 j.toNat,none) h1 else .bad
 | _=>.bad
def xa (k:Nat):List AV->List AV
 | []=>[]
 | x::xs=>.tup [.int k,x]::xa (k+1) xs
@[simp] def J7 (a:SE):SI:=fun en h=>(a en h).bind fun v h1=>match v with
 | .fl xs=>.ok (xa 0 xs,none) h1
 | _=>.bad
def bP (js:List Nat) (en:En) (w:Option Nat) (all:List AV) (c:SB) (e:SE):List AV->List AV->AH->Out (List AV)
 | [],ys,h=>if cP w all h=true then .ok ys h else .bad
 | x::xs,ys,h=>if cP w all h=true/\ys.length<sizeLine then
   (match c (some x::js.map fun j=>(en[j]?).join) h with
   | .ok true h1=>(match e (some x::js.map fun j=>(en[j]?).join) h1 with
    | .ok v h2=>bP js en w all c e xs (ys++[v]) h2
    | _=>.bad)
   | .ok false h1=>bP js en w all c e xs ys h1
   | _=>.bad) else .bad
@[simp] def aR:SB:=fun _ h=>.ok true h
@[simp] def dh (js:List Nat) (it:SI) (c:SB) (e:SE):SE:=fun en h=>match it en h with
 | .ok (xs,w) h1=>(match bP js en w xs c e xs [] h1 with
  | .ok ys h2=>.ok (.fl ys) h2
  | _=>.bad)
 | _=>.bad
@[simp] def kF (js:List Nat) (it:SI) (c:SB) (e:SE):SE:=fun en h=>match it en h with
 | .ok (xs,w) h1=>(match bP js en w xs c e xs [] h1 with
  | .ok ys h2=>.ok (.ref h2.length) (h2++[.lst ys])
  | _=>.bad)
 | _=>.bad
@[simp] def aF (n m:Nat) (b:SS):Fn:=fun args h =>
 if args.length=n then
  match b (args.map some++List.replicate (m-n) none) h with
  | .nx _ h' => .ok .non h'
  | .rt v h' => .ok v h'
  | .ex c _ h' => .ex c h'
  | _=>.bad
 else .bad
@[simp] def aT (c:Nat) (F:Fn) (o:SE) (as:SL):SE:=fun en h=>(o en h).bind fun x h1=>match x with
 | .ref n=>match h1[n]? with
  | some (.ins c' _)=>if c'=c then (as en h1).bind fun xs h2=>F (x::xs) h2 else .bad
  | _=>.bad
 | _=>.bad
@[simp] def oV (c k:Nat) (F:Fn) (as:SL):SE:=fun en h=>(as en h).bind fun xs h1=>match F (.ref h1.length::xs) (h1++[.ins c (List.replicate k none)]) with
 | .ok .non h2=>.ok (.ref h1.length) h2
 | .ex c h2=>.ex c h2
 | _=>.bad
@[simp] def sFld (c i:Nat) (o:SE):SE:=fun en h=>(o en h).bind fun x h1=>match x with
 | .ref n=>match h1[n]? with
  | some (.ins c' fs)=>if c'=c then (match fs[i]? with | some (some v)=>.ok v h1 | _=>.bad) else .bad
  | _=>.bad
 | _=>.bad
@[simp] def jg (c i:Nat) (o v:SE):SS:=fun en h=>(v en h).go en fun y h1=>(o en h1).go en fun x h2=>match x with
 | .ref n=>match h2[n]? with
  | some (.ins c' fs)=>if c'=c then .nx en (h2.set n (.ins c (fs.set i (some y)))) else .bad
  | _=>.bad
 | _=>.bad
@[simp] def jh (c:Nat) (as:SL):SS:=fun en h=>(as en h).go en fun xs h1=>if xs.length<=1000 then .ex c en h1 else .bad
@[simp] def keyOf? (v:AV):Option aW:=match v with
 | .int i=>some (.inl i)
 | .str x=>some (.inr x)
 | _=>none
@[simp] def keysOf? : List AV->Option (List aW)
 | []=>some []
 | v::r=>match keyOf? v,keysOf? r with
  | some k,some ks=>some (k::ks)
  | _,_=>none
@[simp] def ji (t:Bool) (v:AV):Bool:=match t,v with
 | false,v=>(keyOf? v).isSome
 | true,.tup xs=>(keysOf? xs).isSome
 | true,_=>false
def bL (kvs:List (AV×AV)) (k:AV):Option AV:=(kvs.find? fun p=>decide (p.1=k)).map (·.2)
def gQ (kvs:List (AV×AV)) (k v:AV):List (AV×AV) :=
 if kvs.any (fun p=>decide (p.1=k)) then kvs.map fun p=>if p.1=k then (p.1,v) else p else kvs++[(k,v)]
@[simp] def aB:F2:=fun x y h=>match x,y with
 | .str z,.int i=>match atI z.cps.toList i with
  | some c=>.ok (.str ⟨#[c]⟩) h
  | none=>.bad
 | .tup xs,.int i=>match atI xs i with
  | some v=>.ok v h
  | none=>.bad
 | .fl xs,.int i=>match atI xs i with
  | some v=>.ok v h
  | none=>.bad
 | .ref n,y=>match h[n]? with
  | some (.lst xs)=>match y with
   | .int i=>match atI xs i with
    | some v=>.ok v h
    | none=>.bad
   | _=>.bad
  | some (.dct t kvs)=>if ji t y then (match bL kvs y with | some v=>.ok v h | none=>.bad) else .bad
  | _=>.bad
 | _,_=>.bad
@[simp] def ic (o i v:SE):SS:=fun en h=>(v en h).go en fun z h1=>(o en h1).go en fun x h2=>(i en h2).go en fun y h3=>match x with
 | .ref n=>match h3[n]? with
  | some (.lst xs)=>match y with
   | .int k=>match gs xs.length k with
    | some j=>.nx en (h3.set n (.lst (xs.set j z)))
    | none=>.bad
   | _=>.bad
  | some (.dct t kvs)=>if ji t y=true/\kvs.length<sizeLine then .nx en (h3.set n (.dct t (gQ kvs y z))) else .bad
  | _=>.bad
 | _=>.bad
@[simp] def oW (x y:AV) (h:AH):Option Bool:=match x,y with
 | .str i,.str j=>some (!(Builtin.Str.occurrences j i 0 j.length 1).isEmpty)
 | x,.ref n=>match h[n]? with
  | some (.dct t kvs)=>if ji t x then some (bL kvs x).isSome else none
  | some (.lst xs)=>match df 8 h x,cE (df 8 h) xs with
   | some d,some ds=>some (ds.any fun e=>PyData.eqv e d)
   | _,_=>none
  | _=>none
 | x,.fl xs=>match df 8 h x,cE (df 8 h) xs with
  | some d,some ds=>some (ds.any fun e=>PyData.eqv e d)
  | _,_=>none
 | x,.tup xs=>match df 8 h x,cE (df 8 h) xs with
  | some d,some ds=>some (ds.any fun e=>PyData.eqv e d)
  | _,_=>none
 | _,_=>none
@[simp] def rW:F2:=fun x y h=>match oW x y h with
 | some b=>.ok (.bl (!b)) h
 | none=>.bad
@[simp] def az:Fn:=fun args h=>match args with
 | [.str x]=>.ok (.int x.length) h
 | [.tup xs]=>.ok (.int xs.length) h
 | [.fl xs]=>.ok (.int xs.length) h
 | [.ref n]=>match h[n]? with
  | some (.lst xs)=>.ok (.int xs.length) h
  | some (.dct false kvs)=>.ok (.int kvs.length) h
  | _=>.bad
 | _=>.bad
@[simp] def kG:Fn:=fun args h=>match args with
 | [.int i]=>.ok (.int (if i<0 then -i else i)) h
 | _=>.bad
@[simp] def rX:Fn:=fun args h=>match args with
 | [.int i,.int j]=>.ok (.int (if j > i then j else i)) h
 | _=>.bad
@[simp] def iC:Fn:=fun args h=>match args with
 | [.int i,.int j]=>.ok (.int (if j<i then j else i)) h
 | _=>.bad
@[simp] def lM:List AV->Option (List Bool)
 | []=>some []
 | .bl b::r=>(lM r).map (b :: ·)
 | _::_=>none
@[simp] def fq:Fn:=fun args h=>match args with
 | [.fl xs]=>match lM xs with
  | some bs=>.ok (.bl (bs.all id)) h
  | none=>.bad
 | _=>.bad
@[simp] def fv:Fn:=fun args h=>match args with
 | [.int i]=>.ok (.int i) h
 | [.bl k]=>.ok (.int (if k then 1 else 0)) h
 | _=>.bad
@[simp] def J8:Fn:=fun args h=>match args with
 | [.tup xs]=>.ok (.fl xs) h
 | [.fl xs]=>.ok (.fl xs) h
 | [.ref n]=>match h[n]? with
  | some (.lst xs)=>.ok (.fl xs) h
  | _=>.bad
 | _=>.bad
@[simp] def fZ:Fn:=fun args h=>match args with
 | [.tup xs]=>.ok (.ref h.length) (h++[.lst xs])
 | [.fl xs]=>.ok (.ref h.length) (h++[.lst xs])
 | [.ref n]=>match h[n]? with
  | some (.lst xs)=>.ok (.ref h.length) (h++[.lst xs])
  | _=>.bad
 | _=>.bad
@[simp] def rY (v:AV) (h:AH):Option String:=match v with
 | .non=>some "NoneType"
 | .bl _=>some "bool"
 | .int _=>some "int"
 | .str _=>some "str"
 | .tup _=>some "tuple"
 | .fl _=>some "list"
 | .ref n=>match h[n]? with
  | some (.lst _)=>some "list"
  | some (.dct _ _)=>some "dict"
  | _=>none
 | .exc _=>none
@[simp] def cV (t:String) (a:SE):SE:=fun en h=>(a en h).bind fun v h1=>match rY v h1 with
 | some n=>.ok (.bl (n == t || (t == "int" && n == "bool"))) h1
 | none=>.bad
abbrev FM:=AV->List AV->AH->Out AV
@[simp] def aL (v:AV) (h:AH):Bool:=(dR v h).isSome
@[simp] def kH (v:AV) (_:AH):Bool:=match v with
 | .str _=>true
 | _=>false
@[simp] def cF (chk:AV->AH->Bool) (f:FM) (o:SE) (as:SL):SE:=fun en h=>(o en h).bind fun x h1=>if chk x h1=true then (as en h1).bind fun xs h2=>f x xs h2 else .bad
@[simp] def fy (chk:AV->AH->Bool) (f:FM) (o:SE):SE:=fun en h=>(o en h).bind fun x h1=>if chk x h1=true then f x [] h1 else .bad
@[simp] def bo:FM:=fun x vs h=>match x,vs with
 | .ref n,[y]=>match h[n]? with
  | some (.lst xs)=>if xs.length<sizeLine then .ok .non (h.set n (.lst (xs++[y]))) else .bad
  | _=>.bad
 | _,_=>.bad
@[simp] def bc:FM:=fun x vs h=>match x,vs with
 | .ref n,[]=>match h[n]? with
  | some (.lst xs)=>match xs[xs.length-1]? with
   | some y=>.ok y (h.set n (.lst xs.dropLast))
   | none=>.bad
  | _=>.bad
 | _,_=>.bad
def xb (d:PyData):List PyData->Nat->Option Nat
 | [],_=>none
 | e::r,k=>if PyData.eqv e d=true then some k else xb d r (k+1)
@[simp] def J9:FM:=fun x vs h=>match vs with
 | [y]=>match dR x h with
  | some xs=>match df 8 h y,cE (df 8 h) xs with
   | some d,some ds=>match xb d ds 0 with
    | some k=>.ok (.int k) h
    | none=>.bad
   | _,_=>.bad
  | none=>.bad
 | _=>.bad
@[simp] def rZ:FM:=fun x vs h=>match x,vs with
 | .str z,[.str y]=>.ok (.int ((Builtin.Str.occurrences z y 0 z.length (z.length+1)).length:Nat)) h
 | _,_=>.bad
@[simp] def mX:List AV->Option (List Str)
 | []=>some []
 | .str x::r=>(mX r).map (x :: ·)
 | _::_=>none
@[simp] def iT:FM:=fun x vs h=>match x,vs with
 | .str z,[y]=>if z=Str.empty then (match dR y h with
  | some xs=>match mX xs with
   | some zs=>if ((zs.map fun x:Str=>x.cps.toList).flatten).length<=1000000 then .ok (.str ⟨((zs.map fun x:Str=>x.cps.toList).flatten).toArray⟩) h else .bad
   | none=>.bad
  | none=>.bad) else .bad
 | _,_=>.bad
def dO {α:Type} (xs:List α) (lo hi:Option Int):List α:=(xs.drop (HT.sIx xs.length 0 lo)).take (HT.sIx xs.length xs.length hi-HT.sIx xs.length 0 lo)
end Sm
namespace Sm
open PySem L2
structure CA (T:Tb) (E:St->XK) (X:Cx):Prop where
 hK:X.K=T.K
 pass:mT (du X.prog X.w) X E
abbrev EN:St->XK:=fun _=>E0
theorem CA.nox {T:Tb} {E:St->XK} {X:Cx} (c:CA T E X):CA T EN X.nox:=⟨c.hK,fun _ _ _ _ _ _ _ h=>by
 obtain ⟨_,_,_,_,_,_,_,_,_,_,_,_,_,_,q⟩:=h
 exact q.elim⟩
theorem CA.never {T:Tb} {X:Cx} (hK:X.K=T.K):CA T EN X:=⟨hK,fun _ _ _ _ _ _ _ h=>by
 obtain ⟨_,_,_,_,_,_,_,_,_,_,_,_,_,_,q⟩:=h
 exact q.elim⟩
section
variable {T:Tb} {ι:Ix} {h:AH} {H:Hp}
theorem fz {x:AV} {u:V} {xs:List AV} (S:Sim T ι h H) (r:RV T ι H x u) (e:dR x h=some xs):∃ a us,u = .ref a/\SqL T.K H a us/\RVs T ι H xs us:=by
 unfold dR at e
 cases r with
 | fl n q r=>cases e;exact ⟨_,_,rfl,.inl q,r⟩
 | kfl q r=>cases e;exact ⟨_,_,rfl,.inr q,r⟩
 | @ref k a q =>
  dsimp only at e
  split at e
  ·rename_i ys hk
   cases e
   obtain ⟨u,e1,us,rfl,r⟩:=S.obj k _ a hk q
   exact ⟨a,us,rfl,.inl (.inl e1),r⟩
  ·cases e
 | _=>cases e
theorem jl {u:V} {xs:List AV} (r:RV T ι H (.tup xs) u):∃ a us,u = .ref a/\SqT T.K H a us/\RVs T ι H xs us:=by
 cases r with
 | tup n q r=>exact ⟨_,_,rfl,.of q,r⟩
theorem dP {u:V} {x:Str} (r:RV T ι H (.str x) u):u = .str x/\x.length<=sizeLine/\x.cps.all (· < 0x110000)=true:=by
 cases r with
 | str n o=>exact ⟨rfl,n,o⟩
theorem bX {u:V} {i:Int} (r:RV T ι H (.int i) u):u = .int i:=by cases r;rfl
theorem ie {u:V} {i:Bool} (r:RV T ι H (.bl i) u):u = .bl i:=by cases r;rfl
theorem oX {u:V} (r:RV T ι H .non u):u = .non:=by cases r;rfl
theorem oY {us:List V} {xs:List AV} {p:Addr} {E:XK} {Q:VK} (S:Sim T ι h H) (r:RVs T ι H xs us) (n:H p=none) (q:Post T ι H E (RV T) (.ok (.fl xs) h) Q):Q (.ref p) (aJ H p (.lst us)) :=
 q ι _ _ (S.growNew n) (S.new n) (.fl (S.fresh n) (.inl eG) (r.mono (S.growNew n)))
theorem r8 {us:List V} {xs:List AV} {p:Addr} {E:XK} {Q:VK} (S:Sim T ι h H) (r:RVs T ι H xs us) (n:H p=none) (q:Post T ι H E (RV T) (.ok (.tup xs) h) Q):Q (.ref p) (aJ H p (.tup us)) :=
 q ι _ _ (S.growNew n) (S.new n) (.tup (S.fresh n) eG (r.mono (S.growNew n)))
theorem oZ {us:List V} {xs:List AV} {p:Addr} {E:XK} {Q:VK} (S:Sim T ι h H) (r:RVs T ι H xs us) (n:H p=none) (q:Post T ι H E (RV T) (.ok (.ref h.length) (h++[.lst xs])) Q):Q (.ref p) (aJ H p (.lst us)) :=
 q _ _ _ (S.growAdd n) (S.add n ⟨us,rfl,r.mono (S.growAdd n)⟩) (.ref S.addAt)
end
section
variable {T:Tb} {E:St->XK} {X:Cx} {pos:Pos}
theorem ag (i:Nat) {x:Str} {p:Pos} (hN:X.N[i]? = some x:=by rfl) (hv:lF X.env.scope x:=by first | exact Or.inl rfl | exact Or.inr (Or.inl rfl) | exact Or.inr (Or.inr rfl)) (hd:(x == ("__debug__" : Str))=false:=by decide)
  (hcd:(x == ("__classdict__" : Str))=false:=by decide):aN T E X (.Name x p) (ae i) :=
 cT (pv i hN hv hd hcd) fun σ H Q ⟨ι,h,en,S,er,q⟩=>by
  unfold ae at q
  split at q
  ·rename_i v hv
   obtain ⟨u,e,r⟩:=er.2 i v hv
   exact ⟨u,e,q.now S r⟩
  ·exact q.elim
theorem aE {i j p}:aN T E X (.Constant (.int i) j p) (ai (.int i)):=cT AE fun σ H Q ⟨ι,h,en,S,er,q⟩=>q.now S (.int i)
theorem cY {i j p}:aN T E X (.Constant (.bool i) j p) (ai (.bl i)):=cT AF fun σ H Q ⟨ι,h,en,S,er,q⟩=>q.now S (.bl i)
theorem xf {j p}:aN T E X (.Constant .none j p) (ai .non):=cT AG fun σ H Q ⟨ι,h,en,S,er,q⟩=>q.now S .non
theorem cy {x j p} (n:x.length<=sizeLine:=by decide +kernel) (o:x.cps.all (· < 0x110000)=true:=by decide +kernel):aN T E X (.Constant (.str x) j p) (ai (.str x)):=cT AI fun σ H Q ⟨ι,h,en,S,er,q⟩=>q.now S (.str n o)
theorem Eh {x:Str} {i:Int} {t:Tok} {p:Pos} (hg:Gl X x) (hm:X.mg x=some (.int i t)) (hd:(x == ("__debug__" : Str))=false:=by decide):aN T E X (.Name x p) (ai (.int i)) :=
 cT (AJ (v:=.int i) hg hm ⟨t,rfl⟩ hd) fun σ H Q ⟨ι,h,en,S,er,q⟩=>q.now S (.int i)
def lN (T:Tb) (f:F2) (r:R2):Prop:=∀ (ι:Ix) (h:AH) (H:Hp) (x y:AV) (u w:V) (E:XK) (Q:VK),Sim T ι h H->RV T ι H x u->RV T ι H y w->Post T ι H E (RV T) (f x y h) Q->r u w H Q
def Op (T:Tb) (X:Cx) (g:Value->Value->Sem Value) (f:F2):Prop:=∃ r,OpR X g r/\lN T f r
variable {a b c:Expr} {sa sb sc:SE}
theorem r9 {f:F2} {r:R2} (hs:lN T f r) {σ:St} {H:Hp} {Q:VK} (q:tE T E (ah f sa sb) σ H Q):lH r (tE T E sa) (tE T E sb) σ H Q:=by
 obtain ⟨ι,h,en,S,er,q⟩:=q
 refine ⟨ι,h,en,S,er,q.bind fun x h1 ι1 H1 u g1 S1 r1 q1=>⟨ι1,h1,en,S1,er.mono g1,q1.bind fun y h2 ι2 H2 w g2 S2 r2 q2=>?_⟩⟩
 exact hs ι2 h2 H2 x y u w _ Q S2 (r1.mono g2) r2 q2
theorem aX {op:Operator} {f:F2} (ho:Op T X (binaryOp op) f) (ha:aN T E X a sa) (hb:aN T E X b sb):aN T E X (.BinOp a op b pos) (ah f sa sb):=by
 obtain ⟨r,h1,h2⟩:=ho
 exact cT (Br h1 ha hb) fun σ H Q q=>r9 h2 q
theorem Ei {i j:Str} (hi:i.cps.all (· < 0x110000)=true) (hj:j.cps.all (· < 0x110000)=true):(i++j).cps.all (· < 0x110000)=true:=by
 show (i.cps++j.cps).all _=true
 rw [Array.all_append,hi,hj];rfl
theorem Ej (i j:Str):(i++j).length=i.length+j.length:=by
 show (i.cps++j.cps).size=_
 rw [Oi];rfl
theorem cu (hK:X.K=T.K):Op T X (binaryOp .Add) ar:=by
 refine ⟨_,op_add.or (zgt.or (zi0.or DP)),fun ι h H x y u w E Q S rx ry p=>?_⟩
 unfold ar at p
 split at p
 ·rw [bX rx,bX ry]
  exact .inl ⟨_,_,rfl,rfl,p.now S (.int _)⟩
 ·split at p
  ·rename_i hz
   obtain ⟨rfl,_,o1⟩:=dP rx
   obtain ⟨rfl,_,o2⟩:=dP ry
   exact .inr (.inl ⟨_,_,rfl,rfl,hz,p.now S (.str (by rw [Ej];exact hz) (Ei o1 o2))⟩)
  ·exact p.elim
 ·split at p
  ·rename_i hz
   obtain ⟨a,us,rfl,q1,r1⟩:=jl rx
   obtain ⟨b,ws,rfl,q2,r2⟩:=jl ry
   refine .inr (.inr (.inl ⟨a,b,us,ws,rfl,rfl,hK▸q1,hK▸q2,fun z=>hz.1 ?_,by rw [<- r1.length,<- r2.length];exact hz.2,fun z=>?_,fun _ l n=>r8 S (r1.append r2) n p⟩))
   ·subst z;cases r1;rfl
   ·subst z;cases r2
    rw [K8] at p;exact p.now S rx
  ·exact p.elim
 ·split at p
  ·split at p
   ·rename_i e1 e2 hz
    obtain ⟨a,us,rfl,q1,r1⟩:=fz S rx e1
    obtain ⟨b,ws,rfl,q2,r2⟩:=fz S ry e2
    exact .inr (.inr (.inr ⟨a,b,us,ws,rfl,rfl,hK▸q1,hK▸q2,by rw [<- r1.length,<- r2.length];exact hz,fun l n=>oY S (r1.append r2) n p⟩))
   ·exact p.elim
  ·exact p.elim
theorem lO:Op T X (binaryOp .Sub) dy:=by
 refine ⟨_,Bt,fun ι h H x y u w E Q S rx ry p=>?_⟩
 unfold dy at p
 split at p
 ·rw [bX rx,bX ry]
  exact ⟨_,_,rfl,rfl,p.now S (.int _)⟩
 ·exact p.elim
theorem xg {i:Int} (h:i.natAbs<2 ^ 4000):Builtin.Int.intBits i<=2 ^ 20:=by
 unfold Builtin.Int.intBits
 split
 ·exact KS _
 ·rename_i hz
  have h0:i.natAbs≠0:=fun z=>hz (by simpa using z)
  have:i.natAbs.log2<4000:=(Nat.log2_lt h0).mpr h
  exact Kn (by lia:i.natAbs.log2+1<=4001) (by decide)
theorem jm:Op T X (binaryOp .Mult) bW:=by
 refine ⟨_,Dz,fun ι h H x y u w E Q S rx ry p=>?_⟩
 unfold bW at p
 split at p
 ·split at p
  ·rename_i hz
   rw [bX rx,bX ry];exact ⟨_,_,rfl,rfl,hz.elim (fun z=>CMul.ok (z.elim (fun z=>.inl ⟨by omega,by omega⟩) (fun z=>.inr ⟨by omega,by omega⟩))) (fun z=>.of_bits (xg z.1) (xg z.2)),p.now S (.int _)⟩
  ·exact p.elim
 ·exact p.elim
theorem xh:Op T X (binaryOp .FloorDiv) gN:=by
 refine ⟨_,Dy,fun ι h H x y u w E Q S rx ry p=>?_⟩
 unfold gN at p
 split at p
 ·split at p
  ·rename_i hz
   rw [bX rx,bX ry];exact ⟨_,_,rfl,rfl,⟨hz.1,by omega⟩,p.now S (.int _)⟩
  ·exact p.elim
 ·exact p.elim
theorem ig:Op T X (binaryOp .Mod) bz:=by
 refine ⟨_,Bu,fun ι h H x y u w E Q S rx ry p=>?_⟩
 unfold bz at p
 split at p
 ·split at p
  ·rename_i hz
   rw [bX rx,bX ry];exact ⟨_,_,rfl,rfl,hz,p.now S (.int _)⟩
  ·exact p.elim
 ·exact p.elim
theorem lP:Op T X (binaryOp .Pow) de:=by
 refine ⟨_,Bv,fun ι h H x y u w E Q S rx ry p=>?_⟩
 unfold de at p
 split at p
 ·split at p
  ·rename_i hz
   rw [bX rx,bX ry];exact ⟨_,_,rfl,rfl,hz,p.now S (.int _)⟩
  ·exact p.elim
 ·exact p.elim
theorem mY (ha:aN T E X a sa):aN T E X (.UnaryOp .USub a pos) (fi cU sa) :=
 cT (Bs Bx ha) fun σ H Q ⟨ι,h,en,S,er,q⟩=>⟨ι,h,en,S,er,q.bind fun x h1 ι1 H1 u g1 S1 r1 q1=>by
  unfold cU at q1
  split at q1
  ·rw [bX r1]
   exact ⟨_,rfl,q1.now S1 (.int _)⟩
  ·exact q1.elim⟩
theorem Ek {ds:List PyData} (h:∀ d∈ds,d.canLay0=true):PyData.canLayAll0 ds=true:=by
 induction ds with
 | nil=>rfl
 | cons d r ih=>show (d.canLay0 && PyData.canLayAll0 r)=true;rw [h d (by simp),ih fun e he=>h e (by simp [he])];rfl
theorem El {n:Nat} {ds:List PyData} (h:∀ d∈ds,d.depth<=n):PyData.depthAll ds<=n:=by
 induction ds with
 | nil=>exact KS _
 | cons d r ih=>show max d.depth (PyData.depthAll r)<=n;have:=h d (by simp);have:=ih fun e he=>h e (by simp [he]);lia
section
variable {ι:Ix} {h:AH} {H:Hp}
theorem mZ {f:AV->Option PyData} {n:Nat} (hf:∀ {x:AV} {u:V} {d:PyData},RV T ι H x u->f x=some d->DaV T.K H u d/\d.canLay0=true/\d.depth<=n) :
  ∀ {xs:List AV} {us:List V} {ds:List PyData},RVs T ι H xs us->cE f xs=some ds->DaVs T.K H us ds/\∀ d∈ds,d.canLay0=true/\d.depth<=n
 | _,_,ds,.nil,e=>by cases e;exact ⟨.nil,by simp⟩
 | _,_,ds,.cons (x:=x) (xs:=xs) r rs,e=>by
  unfold cE at e
  split at e
  ·rename_i d ds' e1 e2
   cases e
   obtain ⟨q1,q2⟩:=hf r e1
   obtain ⟨q3,q4⟩:=mZ hf rs e2
   refine ⟨.cons q1 q3,fun d hd=>?_⟩
   rcases KJ.mp hd with rfl | hd
   ·exact q2
   ·exact q4 d hd
  ·cases e
theorem jo (S:Sim T ι h H):∀ (n:Nat) {x:AV} {u:V} {d:PyData},RV T ι H x u->df n h x=some d->DaV T.K H u d/\d.canLay0=true/\d.depth<=n
 | 0,x,u,d,r,e=>by
  unfold df at e
  cases r with
  | non=>cases e;exact ⟨.non,rfl,Kj _⟩
  | bl b=>cases e;exact ⟨.bl b,rfl,Kj _⟩
  | int b=>cases e;exact ⟨.int b,rfl,Kj _⟩
  | str a b=>cases e;exact ⟨.str _,b,Kj _⟩
  | _=>cases e
 | n+1,x,u,d,r,e=>by
  unfold df at e
  have many:∀ {xs:List AV} {us:List V} {ds:List PyData},RVs T ι H xs us->cE (df n h) xs=some ds->DaVs T.K H us ds/\∀ d∈ds,d.canLay0=true/\d.depth<=n:=fun r e=>mZ (fun r e=>jo S n r e) r e
  have fin:∀ {ds:List PyData},(∀ d∈ds,d.canLay0=true/\d.depth<=n)->PyData.canLayAll0 ds=true/\PyData.depthAll ds+1<=n+1:=fun q=>⟨Ek fun d hd=>(q d hd).1,Ng (El fun d hd=>(q d hd).2)⟩
  cases r with
  | non=>cases e;exact ⟨.non,rfl,KS _⟩
  | bl b=>cases e;exact ⟨.bl b,rfl,KS _⟩
  | int b=>cases e;exact ⟨.int b,rfl,KS _⟩
  | str a b=>cases e;exact ⟨.str _,b,KS _⟩
  | tup k q r =>
   obtain ⟨ds,e1,rfl⟩:=KU.mp e
   obtain ⟨q1,q2⟩:=many r e1
   exact ⟨.tup (.of q) q1,fin q2⟩
  | fl k q r =>
   obtain ⟨ds,e1,rfl⟩:=KU.mp e
   obtain ⟨q1,q2⟩:=many r e1
   exact ⟨.lst (.inl q) q1,fin q2⟩
  | kfl q r =>
   obtain ⟨ds,e1,rfl⟩:=KU.mp e
   obtain ⟨q1,q2⟩:=many r e1
   exact ⟨.lst (.inr q) q1,fin q2⟩
  | @ref k a q =>
   dsimp only at e
   split at e
   ·rename_i ys hk
    obtain ⟨ds,e1,rfl⟩:=KU.mp e
    obtain ⟨u,e2,us,rfl,r⟩:=S.obj k _ a hk q
    obtain ⟨q1,q2⟩:=many r e1
    exact ⟨.lst (.inl (.inl e2)) q1,fin q2⟩
   ·cases e
  | exc _ _ _=>cases e
end
theorem Em {i j:Int}:decide (V.int i=V.int j)=decide (i=j):=by rw [LI];simp
theorem Eo {i j:Str}:decide (V.str i=V.str j)=decide (i=j):=by rw [LI];simp
theorem Ep {i j:Bool}:decide (V.bl i=V.bl j)=decide (i=j):=by rw [LI];simp
theorem xj {r:R2} {neg:Bool} (ho:OpR X g r) (h1:∀ x y H Q,(ko x y=true/\Q (.bl (if neg then !decide (x=y) else decide (x=y))) H)->r x y H Q)
  (h2:∀ x y H Q,(∃ d e,DaV T.K H x d/\DaV T.K H y e/\d.canLay0=true/\e.canLay0=true/\d.depth<=60/\Q (.bl (if neg then !PyData.eqv d e else PyData.eqv d e)) H)->r x y H Q) :
  lN T (fun x y h=>match fX x y h with | some b=>.ok (.bl (if neg then !b else b)) h | none=>.bad) r:=by
 intro ι h H x y u w E Q S rx ry p
 dsimp only at p
 cases hb:fX x y h with
 | none=>rw [hb] at p;exact p.elim
 | some b =>
  rw [hb] at p;dsimp only at p
  unfold fX at hb
  split at hb
  ·cases hb
   rw [bX rx,bX ry];exact h1 _ _ _ _ ⟨rfl,by rw [Em];exact p.now S (.bl _)⟩
  ·cases hb
   obtain ⟨rfl,_⟩:=dP rx
   obtain ⟨rfl,_⟩:=dP ry
   exact h1 _ _ _ _ ⟨rfl,by rw [Eo];exact p.now S (.bl _)⟩
  ·cases hb
   rw [ie rx,ie ry];exact h1 _ _ _ _ ⟨rfl,by rw [Ep];exact p.now S (.bl _)⟩
  ·cases hb
   rw [oX rx,oX ry];exact h1 _ _ _ _ ⟨rfl,by rw [show decide (V.non=V.non)=true from rfl];exact p.now S (.bl _)⟩
  ·split at hb
   ·rename_i d e e1 e2
    cases hb
    obtain ⟨q1,q2,q3⟩:=jo S 8 rx e1
    obtain ⟨q4,q5,q6⟩:=jo S 8 ry e2
    exact h2 _ _ _ _ ⟨d,e,q1,q4,q2,q5,by lia,p.now S (.bl _)⟩
   ·cases hb
theorem bB (hK:X.K=T.K) (hu:X.A.units+64<cLine):Op T X (compareOp .Eq) aH :=
 ⟨_,op_eq.or (wK hu),xj (neg:=false) (op_eq.or (wK hu)) (fun _ _ _ _ q=>.inl q) fun _ _ _ _ q=>.inr (hK▸q)⟩
theorem cJ (hK:X.K=T.K) (hu:X.A.units+64<cLine):Op T X (compareOp .NotEq) aI :=
 ⟨_,op_ne.or (wL hu),xj (neg:=true) (op_ne.or (wL hu)) (fun _ _ _ _ q=>.inl q) fun _ _ _ _ q=>.inr (hK▸q)⟩
theorem jq:Op T X (compareOp .Lt) iS:=by
 refine ⟨_,op_lt.or BE,fun ι h H x y u w E Q S rx ry p=>?_⟩
 unfold iS at p
 split at p
 ·rw [bX rx,bX ry]
  exact .inl ⟨_,_,rfl,rfl,p.now S (.bl _)⟩
 ·obtain ⟨rfl,_⟩:=dP rx
  obtain ⟨rfl,_⟩:=dP ry
  exact .inr ⟨_,_,rfl,rfl,p.now S (.bl _)⟩
 ·exact p.elim
theorem eQ:Op T X (compareOp .LtE) iB:=by
 refine ⟨_,op_le.or Dv,fun ι h H x y u w E Q S rx ry p=>?_⟩
 unfold iB at p
 split at p
 ·rw [bX rx,bX ry]
  exact .inl ⟨_,_,rfl,rfl,p.now S (.bl _)⟩
 ·obtain ⟨rfl,_⟩:=dP rx
  obtain ⟨rfl,_⟩:=dP ry
  exact .inr ⟨_,_,rfl,rfl,p.now S (.bl _)⟩
 ·exact p.elim
theorem gb:Op T X (compareOp .Gt) gO:=by
 refine ⟨_,BC,fun ι h H x y u w E Q S rx ry p=>?_⟩
 unfold gO at p
 split at p
 ·rw [bX rx,bX ry]
  exact ⟨_,_,rfl,rfl,p.now S (.bl _)⟩
 ·exact p.elim
theorem sd:Op T X (compareOp .GtE) rS:=by
 refine ⟨_,BD,fun ι h H x y u w E Q S rx ry p=>?_⟩
 unfold rS at p
 split at p
 ·rw [bX rx,bX ry]
  exact ⟨_,_,rfl,rfl,p.now S (.bl _)⟩
 ·exact p.elim
theorem RV.non_iff {ι:Ix} {H:Hp} {x:AV} {u:V} (r:RV T ι H x u):decide (x = .non)=decide (u = .non):=by
 exact decide_eq_decide.mpr ⟨fun z=>by subst z;cases r;rfl,fun z=>by subst z;cases r;rfl⟩
theorem Er:Op T X (compareOp .IsNot) gP:=by
 refine ⟨_,BF,fun ι h H x y u w E Q S rx ry p=>?_⟩
 unfold gP at p
 split at p
 ·refine ⟨oX ry,?_⟩
  rw [<- rx.non_iff];exact p.now S (.bl _)
 ·exact p.elim
theorem m5 {op:CmpOp} {f:F2} (ho:Op T X (compareOp op) f) (ha:aN T E X a sa) (hb:aN T E X b sb) (hm:behindInMarks op b=false):aN T E X (.Compare a [op] [b] pos) (ah f sa sb):=by
 obtain ⟨r,h1,h2⟩:=ho
 exact cT (BG h1 ha hb hm) fun σ H Q q=>r9 h2 q
theorem bA {op:CmpOp} {f:F2} (ho:Op T X (compareOp op) f) (ha:aN T E X a sa) (hb:aN T E X b sb) (hm:behindInMarks op b=false):ia T E X (.Compare a [op] [b] pos) (aQ (ah f sa sb)):=by
 obtain ⟨r,h1,h2⟩:=ho
 refine rR (BI h1 ha hb hm) fun σ H Q q=>r9 (E:=E) (Q:=fun x H' => ∃ k,x=V.bl k/\Q k H') h2 ?_
 obtain ⟨ι,h,en,S,er,q⟩:=q
 refine ⟨ι,h,en,S,er,q.bind fun x h1 ι1 H1 u g1 S1 r1 q1=>?_⟩
 split at q1
 ·rw [ie r1]
  exact ⟨_,rfl,q1.now S1 rfl⟩
 ·exact q1.elim
theorem Es {f f':F2} {r r':R2} (hs:lN T f r) (hs':lN T f' r') {σ:St} {H:Hp} {Q:VK} (q:tE T E (mW f f' sa sb sc) σ H Q):vS r r' (tE T E sa) (tE T E sb) (tE T E sc) σ H Q:=by
 obtain ⟨ι,h,en,S,er,q⟩:=q
 refine ⟨ι,h,en,S,er,q.bind fun x h1 ι1 H1 u g1 S1 r1 q1=>⟨ι1,h1,en,S1,er.mono g1,q1.bind fun y h2 ι2 H2 w g2 S2 r2 q2=>?_⟩⟩
 refine hs ι2 h2 H2 x y u w (E σ) _ S2 (r1.mono g2) r2 (q2.bind fun z h3 ι3 H3 k g3 S3 r3 q3=>?_)
 split at q3
 ·rename_i kk
  rw [ie r3];refine ⟨kk,rfl,?_⟩
  by_cases hkk:kk=true
  ·rw [Ku hkk] at q3 ⊢
   refine ⟨ι3,h3,en,S3,er.mono (g1.trans (g2.trans g3)),q3.bind fun v h4 ι4 H4 j g4 S4 r4 q4=>?_⟩
   exact hs' ι4 h4 H4 y v w j _ Q S4 (r2.mono (g3.trans g4)) r4 q4
  ·rw [KF hkk] at q3 ⊢
   exact q3.now S3 (.bl _)
 ·exact q3.elim
theorem sf {op op':CmpOp} {f f':F2} (ho:Op T X (compareOp op) f) (ho':Op T X (compareOp op') f') (ha:aN T E X a sa) (hb:aN T E X b sb) (hc:aN T E X c sc) (hm:lastMarks [op,op'] [b,c]=false:=by with_unfolding_all rfl) :
  aN T E X (.Compare a [op,op'] [b,c] pos) (mW f f' sa sb sc):=by
 obtain ⟨r,h1,h2⟩:=ho
 obtain ⟨r',h1',h2'⟩:=ho'
 exact cT (BJ h1 h1' ha hb hc hm) fun σ H Q q=>Es h2 h2' q
theorem xk {ι:Ix} {h:AH} {H:Hp} {v:AV} {u:V} {k:Bool} (S:Sim T ι h H) (r:RV T ι H v u) (e:fk v h=some k):jc T.K u H k:=by
 unfold fk at e
 cases r with
 | non=>cases e;rfl
 | bl b=>cases e;rfl
 | int b=>cases e;rfl
 | str n o=>cases e;exact ⟨n,rfl⟩
 | tup n q r=>cases e;exact .inr (.inl ⟨_,.of q,by cases r<;>rfl⟩)
 | fl n q r=>cases e;exact .inl ⟨_,.inl q,by cases r<;>rfl⟩
 | kfl q r=>cases e;exact .inl ⟨_,.inr q,by cases r<;>rfl⟩
 | @ref n a q =>
  dsimp only at e
  split at e
  ·rename_i xs hk
   cases e
   obtain ⟨u,e1,us,rfl,r⟩:=S.obj n _ a hk q
   exact .inl ⟨us,.inl (.inl e1),by cases r<;>rfl⟩
  ·rename_i xs hk
   cases e
   obtain ⟨u,e1,us,rfl,r⟩:=S.obj n _ a hk q
   exact .inr (.inr ⟨us,e1,by cases r<;>rfl⟩)
  ·cases e
 | exc _ _ _=>cases e
theorem fA (hK:X.K=T.K) (ha:aN T E X a sa) (he:∀ whole,isTrue a X.env whole=(do let v <- whole;standAt a.pos;holding [v] (truthy v)):=by intro _;rfl):ia T E X a (dX sa) :=
 rR (BM ha he) fun σ H Q ⟨ι,h,en,S,er,q⟩=>⟨ι,h,en,S,er,q.bind fun x h1 ι1 H1 u g1 S1 r1 q1=>by
  split at q1
  ·rename_i b hb
   exact ⟨b,hK▸xk S1 r1 hb,q1.now S1 rfl⟩
  ·exact q1.elim⟩
variable {ca cb:SB} {rest:List Expr}
theorem jV (ha:ia T E X a ca):ia T E X (.UnaryOp .Not a pos) (eK ca) :=
 rR (AS ha) fun σ H Q ⟨ι,h,en,S,er,q⟩=>⟨ι,h,en,S,er,q.bind fun x h1 ι1 H1 u g1 S1 r1 q1=>by subst r1;exact q1.now S1 rfl⟩
theorem gR (h:kB T E X a ca):ia T E X a ca:=PW.pt h
theorem m7 (ha:ia T E X a ca):kB T E X (.BoolOp .And [a] pos) ca:=AM ha
theorem Et (ha:ia T E X a ca):kB T E X (.BoolOp .Or [a] pos) ca:=AN ha
theorem lQ (ha:ia T E X a ca) (hb:kB T E X (.BoolOp .And (b::rest) pos) cb):kB T E X (.BoolOp .And (a::b::rest) pos) (dz ca cb) :=
 wX (AQ ha hb) fun σ H Q ⟨ι,h,en,S,er,q⟩=>⟨ι,h,en,S,er,q.bind fun x h1 ι1 H1 u g1 S1 r1 q1=>by
  subst r1;by_cases hx:x=true
  ·rw [Ku hx] at q1 ⊢
   exact ⟨ι1,h1,en,S1,er.mono g1,q1⟩
  ·rw [KF hx] at q1 ⊢
   exact q1.now S1 rfl⟩
theorem Eu (ha:ia T E X a ca) (hb:kB T E X (.BoolOp .Or (b::rest) pos) cb):kB T E X (.BoolOp .Or (a::b::rest) pos) (w6 ca cb) :=
 wX (AR ha hb) fun σ H Q ⟨ι,h,en,S,er,q⟩=>⟨ι,h,en,S,er,q.bind fun x h1 ι1 H1 u g1 S1 r1 q1=>by
  subst r1;by_cases hx:x=true
  ·rw [Ku hx] at q1 ⊢
   exact q1.now S1 rfl
  ·rw [KF hx] at q1 ⊢
   exact ⟨ι1,h1,en,S1,er.mono g1,q1⟩⟩
theorem jW {op} (h:aN T E X a sa):aN T E X (.BoolOp op [a] pos) sa:=AX h
theorem m8 (ha:aN T E X a sa) (hb:aN T E X (.BoolOp .And (b::rest) pos) sb):aN T E X (.BoolOp .And (a::b::rest) pos) (lL sa sb) :=
 cT (AY ha hb) fun σ H Q ⟨ι,h,en,S,er,q⟩=>⟨ι,h,en,S,er,q.bind fun x h1 ι1 H1 u g1 S1 r1 q1=>by
  split at q1
  ·rename_i kk
   rw [ie r1];refine ⟨kk,rfl,?_⟩
   by_cases hkk:kk=true
   ·rw [Ku hkk] at q1 ⊢
    exact ⟨ι1,h1,en,S1,er.mono g1,q1⟩
   ·rw [KF hkk] at q1 ⊢
    exact q1.now S1 (.bl _)
  ·exact q1.elim⟩
theorem m9 (ha:aN T E X a sa) (hb:aN T E X (.BoolOp .Or (b::rest) pos) sb):aN T E X (.BoolOp .Or (a::b::rest) pos) (kE sa sb) :=
 cT (AZ ha hb) fun σ H Q ⟨ι,h,en,S,er,q⟩=>⟨ι,h,en,S,er,q.bind fun x h1 ι1 H1 u g1 S1 r1 q1=>by
  split at q1
  ·rename_i kk
   rw [ie r1];refine ⟨kk,rfl,?_⟩
   by_cases hkk:kk=true
   ·rw [Ku hkk] at q1 ⊢
    exact q1.now S1 (.bl _)
   ·rw [KF hkk] at q1 ⊢
    exact ⟨ι1,h1,en,S1,er.mono g1,q1⟩
  ·exact q1.elim⟩
theorem xl (ha:aN T E X a sa):aN T E X (.UnaryOp .Not a pos) (rT sa) :=
 cT (A0 ha) fun σ H Q ⟨ι,h,en,S,er,q⟩=>⟨ι,h,en,S,er,q.bind fun x h1 ι1 H1 u g1 S1 r1 q1=>by
  split at q1
  ·rw [ie r1]
   exact ⟨_,rfl,q1.now S1 (.bl _)⟩
  ·exact q1.elim⟩
theorem Ew {d:Expr} (hc:ia T E X d ca) (ha:aN T E X a sa) (hb:aN T E X b sb):aN T E X (.IfExp d a b pos) (mV ca sa sb) :=
 cT (A2 hc ha hb) fun σ H Q ⟨ι,h,en,S,er,q⟩=>⟨ι,h,en,S,er,q.bind fun x h1 ι1 H1 u g1 S1 r1 q1=>by
  subst r1;by_cases hx:x=true
  ·rw [Ku hx] at q1 ⊢
   exact ⟨ι1,h1,en,S1,er.mono g1,q1⟩
  ·rw [KF hx] at q1 ⊢
   exact ⟨ι1,h1,en,S1,er.mono g1,q1⟩⟩
variable {es:List Expr} {as:SL}
theorem au:ib T E X [] af:=wY vX fun σ H Q ⟨ι,h,en,S,er,q⟩=>q.now S .nil
theorem ak (ha:aN T E X a sa) (hr:ib T E X es as) (hs:starEach (a::es) X.env=(false,eval a X.env)::starEach es X.env:=by rfl):ib T E X (a::es) (aj sa as) :=
 wY (qY ha hr hs) fun σ H Q ⟨ι,h,en,S,er,q⟩=>⟨ι,h,en,S,er,q.bind fun x h1 ι1 H1 u g1 S1 r1 q1=>⟨ι1,h1,en,S1,er.mono g1,q1.bind fun xs h2 ι2 H2 us g2 S2 r2 q2=>q2.now S2 (.cons (r1.mono g2) r2)⟩⟩
theorem xm {k} (h:ib T E X es as):aN T E X (.Tuple es k pos) (kD as) :=
 cT (Cb h) fun σ H Q ⟨ι,h,en,S,er,q⟩=>⟨ι,h,en,S,er,q.bind fun xs h1 ι1 H1 us g1 S1 r1 q1=>by
  split at q1
  ·rename_i hl
   exact ⟨by rw [<- r1.length];exact Kn hl (by decide),fun p n=>r8 S1 r1 n q1⟩
  ·exact q1.elim⟩
theorem gu (h:ib T E X es as):aN T E X (.List es pos) (aS as) :=
 cT (vY h) fun σ H Q ⟨ι,h,en,S,er,q⟩=>⟨ι,h,en,S,er,q.bind fun xs h1 ι1 H1 us g1 S1 r1 q1=>by
  split at q1
  ·rename_i hl
   exact ⟨by rw [<- r1.length];exact Kn hl (by decide),fun p n=>oY S1 r1 n q1⟩
  ·exact q1.elim⟩
theorem dY (h:ib T E X es as):aN T E X (.List es pos) (dw as) :=
 cT (vY h) fun σ H Q ⟨ι,h,en,S,er,q⟩=>⟨ι,h,en,S,er,q.bind fun xs h1 ι1 H1 us g1 S1 r1 q1=>by
  split at q1
  ·rename_i hl
   exact ⟨by rw [<- r1.length];exact Kn hl (by decide),fun p n=>oZ S1 r1 n q1⟩
  ·exact q1.elim⟩
theorem Ey:aN T E X (.Dict [] [] pos) (w4 true) :=
 cT Di fun σ H Q ⟨ι,h,en,S,er,q⟩ p n=>q _ _ _ (S.growAdd n) (S.add n ⟨[],rfl,.nil⟩) (.ref S.addAt)
end
end Sm
namespace Sm
open PySem L2
section
variable {T:Tb} {E:St->XK} {X:Cx} {pos:Pos} {a b:Expr} {sa sb:SE} {ca:SB} {st:Stmt} {sts ss1 ss2:List Stmt} {s1 s2:SS}
theorem bM:dc T E X [] bH:=wZ A4 fun D σ H ⟨ι,h,en,S,er,q⟩=>q ι H σ S.refl S er
theorem ay (h1:fW T E X st s1) (h2:dc T E X sts s2):dc T E X (st::sts) (ao s1 s2) :=
 wZ (A5 h1 h2) fun D σ H ⟨ι,h,en,S,er,q⟩=>by
  refine ⟨ι,h,en,S,er,?_⟩
  unfold ao at q
  cases e:s1 en h with
  | nx e1 h1 =>
   rw [e] at q;exact fun ι' H' σ' g S' er' => ⟨ι',h1,e1,S',er',q.shift g⟩
  | rt v h1=>rw [e] at q;exact q
  | bk e1 h1=>rw [e] at q;exact q
  | ct e1 h1=>rw [e] at q;exact q
  | ex c e1 h1=>rw [e] at q;exact q
  | bad=>rw [e] at q;exact q
theorem aC (h1:fW T E X st s1):dc T E X [st] s1:=A6 h1
theorem bN (ha:aN T E X a sa) (hs:swapsWith a none pos.line X.env=pure false:=by rfl):fW T E X (.Expr a pos) (bJ sa) :=
 gM (A8 ha hs) fun D σ H ⟨ι,h,en,S,er,q⟩=>⟨ι,h,en,S,er,q.go er fun v h1 ι1 H1 u g1 S1 r1 q1=>q1 ι1 H1 σ S1.refl S1 (er.mono g1)⟩
theorem aU (ha:aN T E X a sa):fW T E X (.Return (some a) pos) (aA sa) :=
 gM (A9 ha) fun D σ H ⟨ι,h,en,S,er,q⟩=>⟨ι,h,en,S,er,q.go er fun v h1 ι1 H1 u g1 S1 r1 q1=>q1 ι1 H1 u S1.refl S1 r1⟩
theorem aG (hc:ia T E X a ca) (h1:dc T E X ss1 s1) (h2:dc T E X ss2 s2):fW T E X (.If a ss1 ss2 pos) (bh ca s1 s2) :=
 gM (Ba hc h1 h2) fun D σ H ⟨ι,h,en,S,er,q⟩=>⟨ι,h,en,S,er,q.go er fun x h1 ι1 H1 u g1 S1 r1 q1=>by
  subst r1;by_cases hx:x=true
  ·rw [Ku hx] at q1 ⊢
   exact ⟨ι1,h1,en,S1,er.mono g1,q1⟩
  ·rw [KF hx] at q1 ⊢
   exact ⟨ι1,h1,en,S1,er.mono g1,q1⟩⟩
theorem si {σ:St} {H:Hp} {D:dJ} {i:Nat} (q:tS T E (aw i sa) D σ H):iy (tE T E sa) (km i) D σ H:=by
 obtain ⟨ι,h,en,S,er,q⟩:=q
 exact ⟨ι,h,en,S,er,q.go er fun v h1 ι1 H1 u g1 S1 r1 q1=>q1 ι1 H1 _ S1.refl S1 ((er.mono g1).set r1 i)⟩
theorem aP {i:Nat} {x:Str} {p':Pos} (hN:X.N.Nodup) (ha:aN T E X a sa) (hi:X.N[i]? = some x:=by rfl) (hx:iP X.env.scope x:=by first | exact Or.inl rfl | exact Or.inr rfl) (hs:swapsWith a (some (.Name x p')) pos.line X.env=pure false:=by rfl)
  (hf:X.fn x=true\/X.env.scope.names.lookup x=some .local:=by first | exact .inl rfl | exact .inr rfl | assumption):fW T E X (.Assign [.Name x p'] a pos) (aw i sa) :=
 gM (Be hN hi hx ha hs hf) fun D σ H q=>si q
theorem lR (n:Nat) (hc:ia T EN X.nox a ca) (hb:dc T EN X.nox sts s1):fW T E X (.While a sts [] pos) (bF ca s1 n) :=
 gM (oU (Bg PassesOwn.never hc hb)) fun D σ H ⟨ι,h,en,S,er,q⟩=>by
  refine ⟨fun m σ H=>∃ ι h en,Sim T ι h H/\ER T ι H en σ/\PostS T ι H E (bF ca s1 m en h) D,⟨n,ι,h,en,S,er,q⟩,?_⟩
  rintro m σ H ⟨ι,h,en,S,er,q⟩
  cases m with
  | zero=>exact (show False from q).elim
  | succ m =>
   unfold bF at q
   refine ⟨ι,h,en,S,er,?_⟩
   cases e:ca en h with
   | bad=>rw [e] at q;exact q
   | ex c h1=>rw [e] at q;exact (show False from q).elim
   | ok x h1 =>
    rw [e] at q;intro ι1 H1 u g1 S1 r1
    subst r1;have q1:=PostS.shift q g1
    cases x with
    | true =>
     rw [Ku rfl];refine ⟨fun σ H=>∃ ι h en,Sim T ι h H/\ER T ι H en σ/\PostS T ι H E (bF ca s1 m en h) D,fun σ' H' w=>⟨m,Nd m,w⟩,ι1,h1,en,S1,er.mono g1,?_⟩
     dsimp only at q1
     cases e2:s1 en h1 with
     | nx e3 h3=>rw [e2] at q1;exact fun ι2 H2 σ2 g2 S2 er2=>⟨ι2,h3,e3,S2,er2,q1.shift g2⟩
     | ct e3 h3=>rw [e2] at q1;exact fun ι2 H2 σ2 g2 S2 er2=>⟨ι2,h3,e3,S2,er2,q1.shift g2⟩
     | bk e3 h3=>rw [e2] at q1;exact q1
     | rt v h3=>rw [e2] at q1;exact q1
     | ex c e3 h3=>rw [e2] at q1;exact (show False from q1).elim
     | bad=>rw [e2] at q1;exact q1
    | false =>
     rw [KF KO];exact q1 ι1 H1 σ S1.refl S1 (er.mono g1)
theorem xn {ι:Ix} {H:Hp}:∀ {is:List Nat} {xs:List AV} {us:List V} {en e:En} {σ:St},RVs T ι H xs us->ER T ι H en σ->rV is xs en=some e->ER T ι H e ((is.zip us).foldl (fun σ p=>σ.set p.1 (some p.2)) σ)/\us.length=is.length
 | [],_,_,en,e,σ,.nil,er,q=>by cases q;exact ⟨er,rfl⟩
 | i::is,_,_,en,e,σ,.cons r rs,er,q=>by
  obtain ⟨h1,h2⟩:=xn (is:=is) rs (er.set r i) q
  exact ⟨h1,by simp [h2]⟩
 | [],_,_,en,e,σ,.cons r rs,er,q=>by cases q
 | i::is,_,_,en,e,σ,.nil,er,q=>by cases q
def nh (T:Tb) (X:Cx) (tg:Expr) (t:Tg):Prop:=∃ g,PG X tg g/\∀ {ι:Ix} {h:AH} {H:Hp} {en e:En} {σ:St} {v:AV} {u:V} {Q:St->Hp->Prop},Sim T ι h H->ER T ι H en σ->RV T ι H v u->dB t v en=some e ->
 (∀ σ',ER T ι H e σ'->Q σ' H)->g u σ H Q
theorem gS {i:Nat} {x:Str} (hN:X.N.Nodup) (hi:X.N[i]? = some x:=by rfl) (hx:iP X.env.scope x:=by first | exact Or.inl rfl | exact Or.inr rfl) (hf:X.fn x=true\/X.env.scope.names.lookup x=some .local:=by first | exact .inl rfl | exact .inr rfl | assumption) :
  nh T X (.Name x pos) (.nm i):=⟨_,oE hN hi hx hf,fun S er r e k=>by cases e;exact k _ (er.set r i)⟩
def jr (X:Cx) (es:List Expr) (is:List Nat):Prop:=kj X es (fun vs σ H Q=>vs.length=is.length/\Q ((is.zip vs).foldl (fun σ p=>σ.set p.1 (some p.2)) σ) H)
theorem xo {X:Cx} {es:List Expr} {t t':jR} (h:kj X es t) (k:∀ vs σ H Q,t' vs σ H Q->t vs σ H Q):kj X es t' := fun pins s σ H vs us Q I r q=>h pins s σ H vs us Q I r (k vs σ H Q q)
theorem Ez:jr X [] []:=xo vK fun vs σ H Q ⟨l,q⟩=>by
 cases vs with
 | nil=>exact ⟨rfl,q⟩
 | cons=>cases l
theorem xp {i:Nat} {is:List Nat} {x:Str} {p:Pos} {es:List Expr} (hN:X.N.Nodup) (hr:jr X es is) (hi:X.N[i]? = some x:=by rfl) (hx:iP X.env.scope x:=by first | exact Or.inl rfl | exact Or.inr rfl)
  (hf:X.fn x=true\/X.env.scope.names.lookup x=some .local:=by first | exact .inl rfl | exact .inr rfl | assumption) (hs:(assignEach (.Name x p::es) X.env).map (·.2)=assign (.Name x p) X.env::(assignEach es X.env).map (·.2):=by rfl):jr X (.Name x p::es) (i::is) :=
 xo (qM (oE hN hi hx hf) hr hs) fun vs σ H Q ⟨l,q⟩=>by
  cases vs with
  | nil=>cases l
  | cons v r=>exact ⟨v,r,rfl,Nat.succ.inj l,q⟩
theorem EA {es:List Expr} {is:List Nat} {k:Nat} (hK:X.K=T.K) (hc:X.calm=true) (h:jr X es is) (hn:(assignEach es X.env).length=is.length:=by rfl) (hst:(assignEach es X.env).findIdx? (·.1)=none:=by rfl):nh T X (.Tuple es k pos) (.tup is) :=
 ⟨_,vL hc h hn hst,fun {ι h H en e σ v u Q} S er r q k=>by
  unfold dB at q
  split at q
  ·rename_i hh;cases hh
  ·rename_i hh
   cases hh
   obtain ⟨a,us,rfl,q1,r1⟩:=jl r
   obtain ⟨h1,h2⟩:=xn r1 er q
   exact ⟨a,us,rfl,hK▸q1,h2,h2,k _ h1⟩
  ·cases q⟩
structure jt (T:Tb) (J:It) (ι:Ix) (H:Hp) (xs:List AV) (w:Option Nat):Prop where
 go:∀ (i:Nat) (ι':Ix) (h':AH) (H':Hp) (x:AV),Ext ι H ι' H'->Sim T ι' h' H'->cP w xs h'=true->xs[i]? = some x->J.go i H'/\∀ u H2,J.yld i H' u H2->Grow ι' H' ι' H2/\Sim T ι' h' H2/\RV T ι' H2 x u
 stop:∀ (i:Nat) (ι':Ix) (h':AH) (H':Hp),Ext ι H ι' H'->Sim T ι' h' H'->cP w xs h'=true->xs.length<=i->J.stop i H'
def tI (T:Tb) (it:SI):TI:=fun σ H R=>∃ ι h en,Sim T ι h H/\ER T ι H en σ/\match it en h with
 | .ok (xs,w) h' => ∀ ι' H' J,Grow ι H ι' H'->Sim T ι' h' H'->jt T J ι' H' xs w->R J H'
 | _=>False
abbrev kI (T:Tb) (X:Cx) (tg iter:Expr) (it:SI):Prop:=PI X tg iter (tI T it)
theorem ni {X:Cx} {tg iter:Expr} {t t':TI} (h:PI X tg iter t) (k:∀ σ H R,t' σ H R->t σ H R):PI X tg iter t' := fun pins s σ H R I q=>h pins s σ H R I (k σ H R q)
theorem PI.or {X:Cx} {tg iter:Expr} {t t':TI} (h:PI X tg iter t) (h':PI X tg iter t'):PI X tg iter (fun σ H R=>t σ H R\/t' σ H R):=fun pins s σ H R I q=>q.elim (h pins s σ H R I) (h' pins s σ H R I)
theorem xq {ι:Ix} {H:Hp} {a:Addr} {us:List V} {xs:List AV} {K:PySem.W.Frag} (keep:∀ (ι':Ix) (H':Hp),Ext ι H ι' H'->SqL K H' a us) (r:RVs T ι H xs us):jt T (oF K a) ι H xs none:=by
 constructor
 ·intro i ι' h' H' x g S _ e
  obtain ⟨u,e1,r1⟩:=(r.ext g).get e
  refine ⟨⟨us,u,keep ι' H' g,e1⟩,?_⟩
  rintro u2 H2 ⟨rfl,y⟩
  have z:=y us (keep ι' _ g)
  rw [e1] at z;cases z
  exact ⟨S.refl,S,r1⟩
 ·intro i ι' h' H' g S _ hl
  exact ⟨us,keep ι' H' g,by rw [<- r.length];exact hl⟩
theorem EB {ι:Ix} {H:Hp} {a:Addr} {us:List V} {xs:List AV} {K:PySem.W.Frag} (keep:∀ (ι':Ix) (H':Hp),Ext ι H ι' H'->SqT K H' a us) (r:RVs T ι H xs us):jt T (qP K a) ι H xs none:=by
 constructor
 ·intro i ι' h' H' x g S _ e
  obtain ⟨u,e1,r1⟩:=(r.ext g).get e
  refine ⟨⟨us,u,keep ι' H' g,e1⟩,?_⟩
  rintro u2 H2 ⟨rfl,y⟩
  have z:=y us (keep ι' _ g)
  rw [e1] at z;cases z
  exact ⟨S.refl,S,r1⟩
 ·intro i ι' h' H' g S _ hl
  exact ⟨us,keep ι' H' g,by rw [<- r.length];exact hl⟩
theorem EC {ι:Ix} {H:Hp} {a:Addr} {n:Nat} {xs:List AV} {K:PySem.W.Frag} (e:ι.refs[n]? = some a):jt T (oF K a) ι H xs (some n):=by
 have at_:∀ {ι':Ix} {h':AH} {H':Hp},Ext ι H ι' H'->Sim T ι' h' H'->cP (some n) xs h'=true->∃ us,H' a=some (.lst us)/\RVs T ι' H' xs us:=fun {ι' h' H'} g S l=>by
  unfold cP at l
  dsimp only at l
  split at l
  ·rename_i ys hy
   have z:=My l
   subst z;obtain ⟨u,e1,us,rfl,r⟩:=S.obj n _ a hy (g.at_ e)
   exact ⟨us,e1,r⟩
  ·cases l
 constructor
 ·intro i ι' h' H' x g S l e
  obtain ⟨us,e0,r⟩:=at_ g S l
  obtain ⟨u,e1,r1⟩:=r.get e
  refine ⟨⟨us,u,.of e0,e1⟩,?_⟩
  rintro u2 H2 ⟨rfl,y⟩
  have z:=y us (.of e0)
  rw [e1] at z;cases z
  exact ⟨S.refl,S,r1⟩
 ·intro i ι' h' H' g S l hl
  obtain ⟨us,e0,r⟩:=at_ g S l
  exact ⟨us,.of e0,by rw [<- r.length];exact hl⟩
theorem ED {ι:Ix} {H:Hp} {x:Str} (o:x.cps.all (· < 0x110000)=true):jt T (rD x) ι H (x.cps.toList.map fun c=>.str ⟨#[c]⟩) none:=by
 constructor
 ·intro i ι' h' H' y g S _ e
  rw [K6] at e;obtain ⟨c,e1,rfl⟩:=KU.mp e
  have hi:i<x.cps.size:=by
   have:=(Kh.mp e1).1
   simpa using this
  refine ⟨hi,?_⟩
  rintro u H2 ⟨rfl,c',e2,rfl⟩
  have z:x.cps[i]? = some c:=by simpa using e1
  rw [e2] at z;cases z
  refine ⟨S.refl,S,.str (show 1<=sizeLine by decide) ?_⟩
  have m:=Array.mem_of_getElem? e2
  have:=Ln.mp o _ m
  simpa using this
 ·intro i ι' h' H' g S _ hl
  show x.cps.size<=i
  simpa using hl
theorem EE (n:Nat):∀ (lo:Int) (i:Nat),(cZ lo n)[i]? = if i<n then some (.int (lo+i)) else none:=by
 induction n with
 | zero=>intro lo i;simp [cZ]
 | succ n ih =>
  intro lo i
  cases i with
  | zero=>simp [cZ]
  | succ i =>
   show (cZ (lo+1) n)[i]? = _
   rw [ih];by_cases h:i<n
   ·rw [Ku h,Ku (by lia)]
    congr 2
    show lo+1+(i:Int)=lo+((i+1:Nat):Int)
    lia
   ·rw [KF h,KF (by lia)]
theorem EF (n:Nat):∀ lo:Int,(cZ lo n).length=n:=by
 induction n with
 | zero=>intro lo;rfl
 | succ n ih=>intro lo;show (cZ (lo+1) n).length+1=n+1;rw [ih]
theorem EG {ι:Ix} {H:Hp} {lo:Int} {n:Nat}:jt T (oG lo n) ι H (cZ lo n) none:=by
 constructor
 ·intro i ι' h' H' y g S _ e
  rw [EE] at e;split at e
  ·rename_i hi
   cases e
   refine ⟨hi,?_⟩
   rintro u H2 ⟨rfl,rfl⟩
   exact ⟨S.refl,S,.int _⟩
  ·cases e
 ·intro i ι' h' H' g S _ hl
  rw [EF] at hl;exact hl
theorem kJ {ι:Ix} {H:Hp} {a:Addr} {us:List V} (n:a∉ι.all) (h:Rd H a (.lst us)):∀ (ι':Ix) (H':Hp),Ext ι H ι' H'->SqL T.K H' a us:=fun _ _ g=>.inl (wW g n h)
theorem EH {ι:Ix} {H:Hp} {a:Addr} {us:List V} (n:a∉ι.all) (h:H a=some (.tup us)):∀ (ι':Ix) (H':Hp),Ext ι H ι' H'->SqT T.K H' a us:=fun _ _ g=>.of (g.keep _ _ n h)
theorem gv {K K':PySem.W.Frag} {H:Hp} {a:Addr} {us:List V} (e:K=K') (h:SqL K' H a us):SqL K H a us:=e▸h
theorem xr {σ:St} {H:Hp} {R:It->Hp->Prop} {ι:Ix} {h h1:AH} {en:En} {v:AV} {xs:List AV} {w:Option Nat} (hK:X.K=T.K) (S:Sim T ι h H) (er:ER T ι H en σ) (e:sa en h = .ok v h1) (hv:(v = .fl xs/\w=none)\/∃ n,v = .ref n/\h1[n]? = some (.lst xs)/\w=some n)
  (q:∀ ι' H' J,Grow ι H ι' H'->Sim T ι' h1 H'->jt T J ι' H' xs w->R J H'):vM X.K (tE T E sa) σ H R:=by
 refine ⟨ι,h,en,S,er,?_⟩
 rw [e];intro ι1 H1 u g1 S1 r1
 rcases hv with ⟨rfl,rfl⟩ | ⟨n,rfl,hn,rfl⟩
 ·cases r1 with
  | fl n hr rs=>exact ⟨_,rfl,⟨_,gv hK (.inl hr)⟩,q ι1 H1 _ g1 S1 (hK▸xq (kJ n hr) rs)⟩
  | kfl hr rs=>exact ⟨_,rfl,⟨_,gv hK (.inr hr)⟩,q ι1 H1 _ g1 S1 (hK▸xq (fun _ _ _=>.inr hr) rs)⟩
 ·cases r1 with
  | ref hr =>
   obtain ⟨u,e1,us,rfl,rs⟩:=S1.obj n _ _ hn hr
   exact ⟨_,rfl,⟨_,.of e1⟩,q ι1 H1 _ g1 S1 (EC hr)⟩
theorem EI {σ:St} {H:Hp} {R:It->Hp->Prop} {ι:Ix} {h h1:AH} {en:En} {xs:List AV} (hK:X.K=T.K) (S:Sim T ι h H) (er:ER T ι H en σ) (e:sa en h = .ok (.tup xs) h1)
  (q:∀ ι' H' J,Grow ι H ι' H'->Sim T ι' h1 H'->jt T J ι' H' xs none->R J H'):mI X.K (tE T E sa) σ H R:=by
 refine ⟨ι,h,en,S,er,?_⟩
 rw [e];intro ι1 H1 u g1 S1 r1
 cases r1 with
 | tup n hr rs=>exact ⟨_,rfl,⟨_,.of hr⟩,q ι1 H1 _ g1 S1 (hK▸EB (EH n hr) rs)⟩
theorem gT {y:Str} {py:Pos} (hK:X.K=T.K) (ha:aN T E X a sa):kI T X (.Name y py) a (aK sa) :=
 ni (PI.or (Bk ha) (PI.or (Bl ha) (Dr ha))) fun σ H R ⟨ι,h,en,S,er,q⟩=>by
  unfold aK at q
  cases e:sa en h with
  | bad=>rw [e] at q;exact q.elim
  | ex c h1=>rw [e] at q;exact q.elim
  | ok v h1 =>
   rw [e] at q
   cases v with
   | fl xs=>exact .inl (xr hK S er e (.inl ⟨rfl,rfl⟩) q)
   | tup xs=>exact .inr (.inl (EI hK S er e q))
   | str z =>
    refine .inr (.inr ⟨ι,h,en,S,er,?_⟩)
    rw [e];intro ι1 H1 u g1 S1 r1
    obtain ⟨rfl,_,o⟩:=dP r1
    exact ⟨_,rfl,q ι1 H1 _ g1 S1 (ED o)⟩
   | ref n =>
    dsimp only [Out.bind] at q
    cases e2:h1[n]? with
    | none=>rw [e2] at q;exact q.elim
    | some o =>
     rw [e2] at q
     cases o with
     | lst xs=>exact .inl (xr hK S er e (.inr ⟨n,rfl,e2,rfl⟩) q)
     | _=>exact q.elim
   | _=>exact q.elim
theorem nj {tg:Expr} {p:Pos} (hg:Gl X "range") (hm:X.mg "range" = none) (ha:aN T E X a sa) (hs:starEach [a] X.env=[(false,eval a X.env)]:=by rfl):kI T X tg (.Call (.Name "range" p) [a] [] pos) (fY sa) :=
 ni (Bo hg hm (ak ha au hs) hs) fun σ H R ⟨ι,h,en,S,er,q⟩=>by
  unfold fY at q
  refine ⟨ι,h,en,S,er,?_⟩
  unfold aj
  cases e:sa en h with
  | bad=>rw [e] at q;exact q
  | ex c h1=>rw [e] at q;exact q.elim
  | ok v h1 =>
   rw [e] at q;intro ι1 H1 u g1 S1 r1
   dsimp only [Out.bind] at q
   cases v with
   | int j =>
    dsimp only at q
    split at q
    ·rename_i hx
     split at hx
     ·rename_i hb
      cases hx
      cases r1 with
      | cons r r' =>
       cases r'
       rw [bX r];exact ⟨j,rfl,by omega,by omega,q ι1 H1 _ g1 S1 EG⟩
     ·cases hx
    ·exact q.elim
   | _=>exact q.elim
theorem pd {α:Type} {xs:List α} {i:Nat} (h:i<xs.length):xs.drop i=xs[i]::xs.drop (i+1):=by simp
theorem ij {tg iter:Expr} {it:SI} {t:Tg} (hc:X.calm=true) (hi:kI T X.nox tg iter it) (hg:nh T X.nox tg t) (hb:dc T EN X.nox sts s1) (hs:∀ x,foldedSetIterable iter X.nox.env x=pure x:=by intro _;rfl) :
  fW T E X (.For tg iter sts [] pos) (bf it t s1):=by
 obtain ⟨g,hg1,hg2⟩:=hg
 refine gM (oU (qR PassesOwn.never hc hi hg1 hb hs)) fun D σ H ⟨ι,h,en,S,er,q⟩=>⟨ι,h,en,S,er,?_⟩
 unfold bf at q
 cases e:it en h with
 | bad=>rw [e] at q;exact q
 | ex c h1=>rw [e] at q;exact q
 | ok p h1 =>
  obtain ⟨xs,w⟩:=p
  rw [e] at q;intro ι1 H1 J g1 S1 IR
  refine ⟨fun i m σ H=>m=xs.length-i/\i<=xs.length/\∃ ι' h' en',Grow ι1 H1 ι' H/\Sim T ι' h' H/\ER T ι' H en' σ/\PostS T ι' H E (cH w xs t s1 (xs.drop i) en' h') D,
   ⟨xs.length,by simp,KS _,ι1,h1,en,S1.refl,S1,er.mono g1,PostS.shift q g1⟩,?_⟩
  rintro i m σ H ⟨rfl,hi,ι',h',en',g',S',er',q'⟩
  by_cases hl:i<xs.length
  ·rw [pd hl] at q'
   unfold cH at q'
   split at q'
   ·rename_i hlive
    obtain ⟨go,yld⟩:=IR.go i ι' h' H xs[i] g'.ext S' hlive (by simp [hl])
    refine .inr ⟨go,fun σ H=>∃ ι' h' en',Grow ι1 H1 ι' H/\Sim T ι' h' H/\ER T ι' H en' σ/\PostS T ι' H E (cH w xs t s1 (xs.drop (i+1)) en' h') D,
     fun σ' H' w' => ⟨xs.length-(i+1),by omega,rfl,hl,w'⟩,fun x H' y=>?_⟩
    obtain ⟨g2,S2,r2⟩:=yld x H' y
    split at q'
    ·rename_i e1 he1
     refine hg2 S2 (er'.mono g2) r2 he1 fun σ' er2=>⟨ι',h',e1,S2,er2,?_⟩
     have q2:=PostS.shift q' g2
     cases e2:s1 e1 h' with
     | nx e3 h3=>rw [e2] at q2;exact fun ι3 H3 σ3 g3 S3 er3=>⟨ι3,h3,e3,g'.trans (g2.trans g3),S3,er3,q2.shift g3⟩
     | ct e3 h3=>rw [e2] at q2;exact fun ι3 H3 σ3 g3 S3 er3=>⟨ι3,h3,e3,g'.trans (g2.trans g3),S3,er3,q2.shift g3⟩
     | bk e3 h3=>rw [e2] at q2;exact q2
     | rt v h3=>rw [e2] at q2;exact q2
     | ex c e3 h3=>rw [e2] at q2;exact (show False from q2).elim
     | bad=>rw [e2] at q2;exact q2
    ·exact (show False from q').elim
   ·exact (show False from q').elim
  ·have ei:i=xs.length:=by omega
   subst ei;rw [Mi] at q';unfold cH at q'
   split at q'
   ·rename_i hlive
    exact .inl ⟨IR.stop _ ι' h' H g'.ext S' hlive (Kj _),q' ι' H σ S'.refl S' er'⟩
   ·exact (show False from q').elim
theorem ER.comp {ι:Ix} {H:Hp} {en:En} {σ:St} {x:AV} {u:V} {jf:List (Nat×Str)} (er:ER T ι H en σ) (r:RV T ι H x u):ER T ι H (some x::(jf.map (·.1)).map fun j=>(en[j]?).join) (fL (some u) jf σ):=by
 refine ⟨by simp [fL],fun i v e=>?_⟩
 cases i with
 | zero=>simp at e;subst e;exact ⟨u,rfl,r⟩
 | succ i =>
  simp only [Li,K6] at e
  unfold fL
  simp only [Li,K6]
  cases e1:jf[i]? with
  | none=>rw [e1] at e;cases e
  | some j =>
   rw [e1] at e;simp only [Option.map_some,Option.some.injEq] at e
   have e2:en[j.1]? = some (some v):=by
    cases e3:en[j.1]? with
    | none=>rw [e3] at e;cases e
    | some o=>rw [e3] at e;exact congrArg some e
   obtain ⟨u',e4,r'⟩:=er.2 j.1 v e2
   exact ⟨u',by simp [e4],r'⟩
theorem xt {jf:List (Nat×Str)} {it:SI} {cc:SB} {ce:SE} {σ:St} {H:Hp} {Q:VK} {ι:Ix} {h:AH} {en:En} (S:Sim T ι h H) (er:ER T ι H en σ)
  (q:match it en h with | .ok (xs,w) h1=>(match bP (jf.map (·.1)) en w xs cc ce xs [] h1 with | .ok ys h2=>∀ ι' H' D vs,Grow ι H ι' H'->Sim T (ι'.hide D) h2 H'->RVs T (ι'.hide D) H' ys vs->H' D=some (.lst vs)->D∉ι'.all->(∀ n,ι'.refs=ι.refs++n->∀ a∈n++[D],H a=none)->Q (.ref D) H' | _=>False) | _=>False) :
  lJ jf (tI T it) (tT T EN cc) (tE T EN ce) σ H Q:=by
 refine ⟨ι,h,en,S,er,?_⟩
 cases e:it en h with
 | bad=>rw [e] at q;exact q
 | ex c h1=>rw [e] at q;exact q
 | ok p h1 =>
  obtain ⟨xs,w⟩:=p
  rw [e] at q;dsimp only at q
  intro ι1 H1 J g1 S1 IR D hD
  refine ⟨fun i m ys H2=>m=xs.length-i/\i<=xs.length/\H2 D=some (.lst ys)/\∃ ι' h' vs,Grow ι1 H1 ι' H2/\Ext ι1 H1 (ι'.hide D) H2/\Sim T (ι'.hide D) h' H2/\ER T (ι'.hide D) H2 en σ/\RVs T (ι'.hide D) H2 vs ys/\D∉ι'.refs /\
   (match bP (jf.map (·.1)) en w xs cc ce (xs.drop i) vs h' with | .ok ys h2=>∀ ι' H' D vs,Grow ι H ι' H'->Sim T (ι'.hide D) h2 H'->RVs T (ι'.hide D) H' ys vs->H' D=some (.lst vs)->D∉ι'.all->(∀ n,ι'.refs=ι.refs++n->∀ a∈n++[D],H a=none)->Q (.ref D) H' | _=>False),?_,?_⟩
  ·exact ⟨xs.length,by simp,KS _,eG,ι1,h1,[],S1.growNew hD,Ext.hide hD,S1.hide hD,(er.mono g1).ext (Ext.hide hD),.nil,fun z=>S1.fresh hD (Kz _ z),q⟩
  ·rintro i m ys H2 ⟨rfl,hi,hH2,ι',h',vs,g',x',S',er',rv',nD',q'⟩
   refine ⟨hH2,?_⟩
   by_cases hl:i<xs.length
   ·rw [pd hl] at q'
    unfold bP at q'
    by_cases hs:cP w xs h'=true/\vs.length<sizeLine
    ·rw [Ku hs] at q'
     obtain ⟨lh,hs2⟩:=hs
     obtain ⟨go,yld⟩:=IR.go i _ h' H2 xs[i] x' S' lh (by simp [hl])
     refine .inr ⟨go,by rw [<- rv'.length];exact hs2,fun x H3 y=>?_⟩
     obtain ⟨g3,S3,r3⟩:=yld x H3 y
     have er3:=er'.mono g3
     refine ⟨ι'.hide D,h',_,S3,ER.comp er3 r3,?_⟩
     cases ec:cc (some xs[i]::(jf.map (·.1)).map fun j=>(en[j]?).join) h' with
     | bad=>rw [ec] at q';exact q'
     | ex c h5=>rw [ec] at q';exact q'.elim
     | ok bb h5 =>
      rw [ec] at q';intro ι5 H5 b5 g5 S5 r5
      subst r5;have g35:=g3.trans g5
      have hD5:H5 D=some (.lst ys):=g35.keep D _ nD' hH2
      have eι:ι5=Ix.hide ⟨ι5.refs,ι'.priv⟩ D:=by
       have:=g5.priv
       cases ι5
       simp only at this
       subst this;rfl
      have nD5:D∉ι5.refs:=g35.outR nD' hH2
      have gG5:Grow ι1 H1 ⟨ι5.refs,ι'.priv⟩ H5:=by
       obtain ⟨n,en1,hn⟩:=g'.pre
       obtain ⟨k,ek,hk⟩:=g35.pre
       refine ⟨⟨n++k,?_,fun a ha=>?_⟩,g'.priv,fun a o na ea=>?_,fun a ha=>?_⟩
       ·show ι5.refs=_;rw [ek];show ι'.refs++k=_;rw [en1];simp
       ·rcases KI.mp ha with z | z
        ·exact hn a z
        ·have z2:=hk a z
         by_cases hr:a∈ι1.refs
         ·exact absurd z2 (g'.live a (Kz _ hr))
         ·cases e9:H1 a with
          | none=>rfl
          | some o=>rw [g'.keep a o hr e9] at z2;cases z2
       ·exact g35.keep a o (g'.outR na ea) (g'.keep a o na ea)
       ·have:a∈(ι'.hide D).all:=by
         rcases KI.mp ha with z | z
         ·exact Kz _ (by show a∈ι'.refs;rw [en1];exact Kz _ z)
         ·exact KG _ (Kp _ (by rw [g'.priv];exact z))
        exact g35.live a this
      have x5:Ext ι1 H1 (Ix.hide ⟨ι5.refs,ι'.priv⟩ D) H5:=eι▸x'.trans g35.ext
      have er5:=er3.mono g5
      have rv5:=(rv'.mono g35)
      cases bb with
      | false =>
       rw [KF KO];refine ⟨xs.length-(i+1),by omega,rfl,hl,hD5,⟨ι5.refs,ι'.priv⟩,h5,vs,gG5,x5,eι▸S5,eι▸er5,eι▸rv5,nD5,q'⟩
      | true =>
       rw [Ku rfl];refine ⟨ι5,h5,_,S5,(ER.comp er3 r3).mono g5,?_⟩
       dsimp only at q'
       cases ee:ce (some xs[i]::(jf.map (·.1)).map fun j=>(en[j]?).join) h5 with
       | bad=>rw [ee] at q';exact q'
       | ex c h6=>rw [ee] at q';exact q'.elim
       | ok v h6 =>
        rw [ee] at q';intro ι6 H6 u6 g6 S6 r6
        have g56:=g6
        have hD6:H6 D=some (.lst ys):=g56.keep D _ nD5 hD5
        have eι6:ι6=Ix.hide ⟨ι6.refs,ι'.priv⟩ D:=by
         have h1:=g6.priv
         have h2:=g5.priv
         rw [h2] at h1
         cases ι6
         simp only at h1
         subst h1;rfl
        have nD6:D∉ι6.refs:=g56.outR nD5 hD5
        have gG6:Grow ι1 H1 ⟨ι6.refs,ι'.priv⟩ (aJ H6 D (.lst (ys++[u6]))):=by
         obtain ⟨n,en1,hn⟩:=gG5.pre
         obtain ⟨k,ek,hk⟩:=g56.pre
         have hD1:∀ a o,H1 a=some o->a≠D:=fun a o ea=>gK ea hD
         refine ⟨⟨n++k,?_,fun a ha=>?_⟩,g'.priv,fun a o na ea=>?_,fun a ha=>?_⟩
         ·show ι6.refs=_;rw [ek];have z:ι5.refs=ι1.refs++n:=en1;rw [z];simp
         ·rcases KI.mp ha with z | z
          ·exact hn a z
          ·have z2:=hk a z
           by_cases hr:a∈ι1.refs
           ·exact absurd z2 (gG5.live a (Kz _ hr))
           ·cases e9:H1 a with
            | none=>rfl
            | some o=>rw [gG5.keep a o hr e9] at z2;cases z2
         ·rw [bS (hD1 a o ea)]
          exact g56.keep a o (gG5.outR na ea) (gG5.keep a o na ea)
         ·by_cases zD:a=D
          ·subst zD;rw [eG];simp
          ·rw [bS zD]
           have:a∈ι5.all:=by
            rcases KI.mp ha with z | z
            ·exact Kz _ (by have z':ι5.refs=ι1.refs++n:=en1;rw [z'];exact Kz _ z)
            ·rw [eι];exact KG _ (Kp _ (by show a∈ι'.priv;rw [g'.priv];exact z))
           exact g56.live a this
        refine ⟨hD6,xs.length-(i+1),by omega,rfl,hl,eG,⟨ι6.refs,ι'.priv⟩,h6,vs++[v],gG6,?_,?_,?_,?_,nD6,q'⟩
        ·exact (eι6▸(x'.trans (g35.ext.trans g6.ext))).trans Ext.poke
        ·exact Sim.poke (eι6▸S6) nD6
        ·exact ER.ext (eι6▸er5.mono g6) Ext.poke
        ·have:RVs T ι6 H6 (vs++[v]) (ys++[u6]):=(rv5.mono g6).append (.cons r6 .nil)
         exact RVs.ext Ext.poke (eι6▸this)
    ·rw [KF hs] at q';exact q'.elim
   ·have ei:i=xs.length:=by omega
    subst ei;rw [Mi] at q';unfold bP at q'
    by_cases hs:cP w xs h'=true
    ·rw [Ku hs] at q'
     have hp:D∉ι'.priv:=fun z=>by rw [g'.priv] at z;exact S1.plive D z hD
     refine .inl ⟨IR.stop _ _ h' H2 x' S' hs (Kj _),q' ι' H2 D ys (g1.trans g') S' rv' hH2 (fun z=>(KI.mp z).elim nD' hp) fun n en1 a ha=>?_⟩
     obtain ⟨k,ek,hk⟩:=(g1.trans g').pre
     have:n=k:=Nh (en1.symm.trans ek)
     subst this;rcases KI.mp ha with z | z
     ·exact hk a z
     ·have z':a=D:=by simpa using z
      subst z'
      cases e9:H a with
      | none=>rfl
      | some o =>
       by_cases hr:a∈ι.refs
       ·have z1:a∈ι1.refs:=by
         obtain ⟨k1,ek1,_⟩:=g1.pre
         rw [ek1];exact Kz _ hr
        exact absurd hD (S1.live a (Kz _ z1))
       ·rw [g1.keep a o hr e9] at hD;cases hD
    ·rw [KF hs] at q';exact q'.elim
end
end Sm
namespace Sm
open PySem PySem.Spec L2
section
variable {T:Tb} {E:St->XK} {X:Cx} {pos px:Pos} {iter elt:Expr} {ifs:List Expr} {scope:Scope} {x₁:Str} {jf:List (Nat×Str)} {it:SI} {cc:SB} {ce:SE}
theorem xu {σ:St} {H:Hp} {Q:VK} (q:tE T E (dh (jf.map (·.1)) it cc ce) σ H Q):lJ jf (tI T it) (tT T EN cc) (tE T EN ce) σ H Q:=by
 obtain ⟨ι,h,en,S,er,q⟩:=q
 refine xt S er ?_
 unfold dh at q
 cases e:it en h with
 | bad=>rw [e] at q;exact q
 | ex c h1=>rw [e] at q;exact q.elim
 | ok p h1 =>
  obtain ⟨xs,w⟩:=p
  rw [e] at q;dsimp only at q ⊢
  cases e2:bP (jf.map (·.1)) en w xs cc ce xs [] h1 with
  | bad=>rw [e2] at q;exact q
  | ex c h1=>rw [e2] at q;exact q.elim
  | ok ys h2 =>
   rw [e2] at q;exact fun ι' H' D vs g S' r hD nD _=>q ι' H' _ g S'.show (.fl nD (.inl hD) (r.ext Ext.show))
theorem EJ {σ:St} {H:Hp} {Q:VK} (q:tE T E (kF (jf.map (·.1)) it cc ce) σ H Q):lJ jf (tI T it) (tT T EN cc) (tE T EN ce) σ H Q:=by
 obtain ⟨ι,h,en,S,er,q⟩:=q
 refine xt S er ?_
 unfold kF at q
 cases e:it en h with
 | bad=>rw [e] at q;exact q
 | ex c h1=>rw [e] at q;exact q.elim
 | ok p h1 =>
  obtain ⟨xs,w⟩:=p
  rw [e] at q;dsimp only at q ⊢
  cases e2:bP (jf.map (·.1)) en w xs cc ce xs [] h1 with
  | bad=>rw [e2] at q;exact q
  | ex c h1=>rw [e2] at q;exact q.elim
  | ok ys h2 =>
   rw [e2] at q;intro ι' H' D vs g S' r hD nD hn
   obtain ⟨n,en1,_⟩:=g.pre
   have S2:Sim T (ι'.add D) (h2++[.lst ys]) H' := S'.adopt (Ix.nr nD) hD ⟨vs,rfl,r.ext Ext.adopt⟩
   refine q (ι'.add D) H' _ ⟨⟨n++[D],?_,hn n en1⟩,g.priv,g.keep,g.live⟩ S2 (.ref ?_)
   ·show ι'.refs++[D]=_;rw [en1];simp
   ·show (ι'.refs++[D])[h2.length]? = some D
    have:ι'.refs.length=h2.length:=S'.len
    rw [<- this];simp
theorem ju:iA X [] (tT T E aR):=fun pins s σ H Q I ⟨ι,h,en,S,er,q⟩=>Ds pins s σ H Q I (q.now S rfl)
structure eU (X:Cx) (x₁:Str) (jf:List (Nat×Str)) (scope:Scope):Prop where
 hN:(x₁::jf.map (·.2)).Nodup
 hx:scope.names.lookup x₁=some .local
 hjf:∀ p∈jf,X.N[p.1]? = some p.2
 hjl:∀ p∈jf,scope.names.lookup p.2=some .free
 hkind:scope.kind = .function
 hcell:∀ y∈scope.names,y.2 ≠ .cell
 hfr:∀ y∈scope.names,y.2 = .free->X.env.kindOf y.1=some .cell\/X.env.kindOf y.1=some .free
 hnames:∀ y∈scope.names,y.2 = .local->scope.names.lookup y.1=some .local
theorem lS (C:eU X x₁ jf scope) (hcalm:X.calm=true) (hi:kI T X (.Name x₁ px) iter it) (hc:∀ pins cl s H fp,iA (dt X pins x₁ jf scope cl s H fp) ifs (tT T EN cc)) (he:∀ pins cl s H fp,aN T EN (dt X pins x₁ jf scope cl s H fp) elt ce)
  (hs:∀ x,foldedSetIterable iter X.env x=pure x:=by intro _;rfl):aN T E X (.ListComp elt [⟨.Name x₁ px,iter,ifs,0⟩] scope pos) (dh (jf.map (·.1)) it cc ce) :=
 cT (wG hcalm hi hc he C.hN C.hx C.hjf C.hjl C.hkind C.hcell C.hfr C.hnames hs) fun _ _ _ q=>xu q
theorem EK (C:eU X x₁ jf scope) (hcalm:X.calm=true) (hi:kI T X (.Name x₁ px) iter it) (hc:∀ pins cl s H fp,iA (dt X pins x₁ jf scope cl s H fp) ifs (tT T EN cc)) (he:∀ pins cl s H fp,aN T EN (dt X pins x₁ jf scope cl s H fp) elt ce)
  (hs:∀ x,foldedSetIterable iter X.env x=pure x:=by intro _;rfl):aN T E X (.ListComp elt [⟨.Name x₁ px,iter,ifs,0⟩] scope pos) (kF (jf.map (·.1)) it cc ce) :=
 cT (wG hcalm hi hc he C.hN C.hx C.hjf C.hjl C.hkind C.hcell C.hfr C.hnames hs) fun _ _ _ q=>EJ q
theorem EL {y:Str} {py spos:Pos} {i:Nat} (C:eU X x₁ jf scope) (hcalm:X.calm=true) (hi:kI T X (.Name x₁ px) iter it) (hc:∀ pins cl s H fp,iA (dt X pins x₁ jf scope cl s H fp) ifs (tT T EN cc)) (he:∀ pins cl s H fp,aN T EN (dt X pins x₁ jf scope cl s H fp) elt ce)
  (hNX:X.N.Nodup) (hi':X.N[i]? = some y:=by rfl) (hy:X.env.scope.names.lookup y=some .local:=by rfl) (hsw:swapsWith (.ListComp elt [⟨.Name x₁ px,iter,ifs,0⟩] scope pos) (some (.Name y py)) spos.line X.env=pure true:=by rfl) (hs:∀ x,foldedSetIterable iter X.env x=pure x:=by intro _;rfl) :
  fW T E X (.Assign [.Name y py] (.ListComp elt [⟨.Name x₁ px,iter,ifs,0⟩] scope pos) spos) (aw i (dh (jf.map (·.1)) it cc ce)) :=
 gM (Dt hcalm hi hc he C.hN C.hx C.hjf C.hjl C.hkind C.hcell C.hfr C.hnames hNX hi' hy hsw hs) fun D σ H q=>xu (si q)
end
def jv (T:Tb) (F:Fn):Sp:=fun vs H Q E=>∃ ι h args,Sim T ι h H/\RVs T ι H args vs/\Post T ι H E (RV T) (F args h) Q
def EM (F:Fn) (n:Nat):Prop:=∀ args h,args.length≠n->F args h = .bad
theorem xw (n m:Nat) (b:SS):EM (aF n m b) n:=fun args h hl=>by
 unfold aF
 rw [KF hl]
theorem pe {P:Program} {w:World} {K:PySem.W.Frag} {mg:Str->Option Value} {base:Heap} {T:Tb} {x qual:Str} {st:Stmt} {f:Addr} {fd:FuncData} {N ps:List Str} {k:Nat} {b:SS} (F:Fun K x qual st f fd) (hK:K=T.K) (S:aq N ps (aO st))
  (hbody:∀ (cdv:Value) (A:Around) (outer:List Env) (s:Shared) (H:Hp) (E:XK),Room k (A.deeper (PyProof.Rows.envOfC qual (aO st) s.heap.objs.size f cdv))->CA T (fun _=>E) (cM (du P w) P w K mg base N qual (aO st) f cdv A outer s H E) ->
   dc T (fun _=>E) (cM (du P w) P w K mg base N qual (aO st) f cdv A outer s H E) (iQ st) b):FnOk P w K mg base (du P w) (k+1) f fd ps (jv T (aF ps.length N.length b)):=by
 refine F.okE S (fun vs H Q E h=>?_) (fun cdv A outer s H vs Q E hr h=>?_)
 ·obtain ⟨ι,h,args,_,r,q⟩:=h
  by_cases hl:args.length=ps.length
  ·rw [<- hl,r.length]
  ·rw [xw _ _ _ args h hl] at q;exact q.elim
 ·obtain ⟨ι,h,args,Si,r,q⟩:=h
  refine ⟨_,hbody cdv A outer s H E hr ⟨hK,DD⟩,ι,h,args.map some++List.replicate (N.length-ps.length) none,Si,?_,?_⟩
  ·by_cases hl:args.length=ps.length
   ·refine ⟨by simp [L2.start,r.length,<- hl],fun i v e=>?_⟩
    unfold L2.start
    by_cases hi:i<args.length
    ·rw [Ki (by simpa using hi),K6] at e
     rw [Ki (by simpa [<- r.length] using hi),K6]
     obtain ⟨x,e1,e2⟩:=KU.mp e
     cases e2
     obtain ⟨u,e3,r3⟩:=r.get e1
     exact ⟨u,by rw [e3];rfl,r3⟩
    ·rw [K2 (by simpa using hi),Mu] at e
     split at e
     ·cases e
     ·cases e
   ·rw [xw _ _ _ args h hl] at q;exact q.elim
  ·unfold aF at q
   split at q
   ·split at q
    ·rename_i e1 h1 he
     rw [he];exact fun ι' H' σ' g S' er=>q ι' H' _ g S' .non
    ·rename_i v h1 he
     rw [he];exact q
    ·rename_i c e1 h1 he
     rw [he];exact fun ι' H' σ' C g S' er ec=>q ι' H' C g S' ec
    ·exact q.elim
   ·exact q.elim
structure GF (P:Program) (w:World) (T:Tb) (mg:Str->Option Value) (base:Heap) (k:Nat) (x:Str) (F:Fn):Prop where
 ex:∃ f fd ps,mg x=some (.ref f)/\PySem.W.keepIn T.K (.ref f)=true/\Binds T.K fd ps []/\FnOk P w T.K mg base (du P w) k f fd ps (jv T F)
structure GM (P:Program) (w:World) (T:Tb) (mg:Str->Option Value) (base:Heap) (k:Nat) (c:Nat) (m:Str) (F:Fn):Prop where
 ex:∃ C f fd ps,T.cls c=some C/\Cls T.K C/\iz T.K C m f/\Binds T.K fd ps []/\FnOk P w T.K mg base (du P w) k f fd ps (jv T F)
 no:m∉T.fields c
section
variable {T:Tb} {E:St->XK} {X:Cx} {pos p apos:Pos} {e o a:Expr} {es:List Expr} {x m:Str} {F:Fn} {k c:Nat} {as:SL} {so sa:SE}
theorem aV (hK:X.K=T.K) (C:CA T E X) (G:GF X.prog X.w T X.mg X.base k x F) (hr:Room k X.A) (hg:Gl X x) (ha:ib T E X (e::es) as) (hdb:(x == ("__debug__" : Str))=false:=by decide)
  (he:starEach (e::es) X.env=(false,eval e X.env)::starEach es X.env:=by rfl) (hpl:(backTo pos (starEach es X.env)).any (·.1)=false:=by rfl):aN T E X (.Call (.Name x p) (e::es) [] pos) (ax F as):=by
 obtain ⟨f,fd,ps,h1,h2,h3,h4⟩:=G.ex
 refine cT (DJ (Ex:=E) (dvs:=[]) (hK▸h4) hr hg h1 (hK▸h2) (hK▸h3) .nil C.pass ha hdb he hpl) fun σ H Q ⟨ι,h,en,S,er,q⟩=>⟨ι,h,en,S,er,q.bind fun xs h1 ι1 H1 us g1 S1 r1 q1=>?_⟩
 rw [K8];exact ⟨ι1,h1,xs,S1,r1,q1⟩
theorem xx {C:Addr} {σ:St} {H:Hp} {Q:VK} (hc:T.cls c=some C) (no:m∉T.fields c) (q:tE T E (aT c F so as) σ H Q):wJ C m (jv T F) [] E (tE T E so) (tA T E as) σ H Q:=by
 obtain ⟨ι,h,en,S,er,q⟩:=q
 refine ⟨ι,h,en,S,er,q.bind fun x h1 ι1 H1 u g1 S1 r1 q1=>?_⟩
 split at q1
 ·rename_i n
  split at q1
  ·rename_i c' fs hn
   split at q1
   ·rename_i ec
    subst ec
    cases r1 with
    | @ref _ a hr =>
     obtain ⟨o,e1,C',dx,fus,hC,rfl,nd,hw,hl,_⟩:=S1.obj n _ a hn hr
     rw [hc] at hC;cases hC
     refine ⟨a,dx,fus,rfl,e1,?_,ι1,h1,en,S1,er.mono g1,q1.bind fun xs h2 ι2 H2 us g2 S2 r2 q2=>?_⟩
     ·cases e:fus.lookup m with
      | none=>rfl
      | some v =>
       have:=Ly e
       exact absurd (hw _ this) no
     ·rw [K8]
      exact ⟨ι2,h2,.ref n::xs,S2,.cons (.ref (g2.at hr)) r2,q2⟩
   ·exact q1.elim
  ·exact q1.elim
 ·exact q1.elim
theorem bq {pl:Sem Bool} (hK:X.K=T.K) (CC:CA T E X) (G:GM X.prog X.w T X.mg X.base k c m F) (hr:Room k X.A) (ho:aN T E X o so) (ha:ib T E X (e::es) as)
  (hst:starEach (e::es) X.env=(false,eval e X.env)::starEach es X.env:=by rfl) (hpl:(backTo pos (starEach es X.env)).any (·.1)=false:=by rfl)
  (ht:eval (.Call (.Attribute o m apos) (e::es) [] pos) X.env=(do
   let ov <- eval o X.env
   standAt apos.atName
   let (f,first) <- holding [ov] (getMethod ov m pl)
   callWith pos f first (backTo pos (starEach (e::es) X.env)) (backToKw pos (keywordEach [] X.env))):=by rfl):aN T E X (.Call (.Attribute o m apos) (e::es) [] pos) (aT c F so as):=by
 obtain ⟨C,f,fd,ps,h1,h2,h3,h4,h5⟩:=G.ex
 exact cT (DL (Ex:=E) (dvs:=[]) (pl:=pl) ho (hK▸h2) (hK▸h3) (hK▸h5) hr (hK▸h4) .nil CC.pass ha hst hpl ht) fun σ H Q q=>xx h1 G.no q
theorem sj {pl:Sem Bool} (hK:X.K=T.K) (CC:CA T E X) (G:GM X.prog X.w T X.mg X.base k c m F) (hr:Room k X.A) (ho:aN T E X o so)
  (ht:eval (.Call (.Attribute o m apos) [] [] pos) X.env=(do
   let ov <- eval o X.env
   standAt apos.atName
   let (f,first) <- holding [ov] (getMethod ov m pl)
   callWith pos f first (backTo pos (starEach [] X.env)) (backToKw pos (keywordEach [] X.env))):=by rfl):aN T E X (.Call (.Attribute o m apos) [] [] pos) (aT c F so af):=by
 obtain ⟨C,f,fd,ps,h1,h2,h3,h4,h5⟩:=G.ex
 intro pins s σ H Q I q
 have q' := xx (C:=C) h1 G.no q
 refine NI (pl:=pl) (thn (ho pins s σ H _ I q') fun u s1 ⟨x,H1,I1,rx,a,dx,fs,ex,ea,l,q⟩=>?_) ht
 subst ex;obtain rfl:u=Value.ref a:=rx
 refine vW I1 ea (hK▸h2) (hK▸h3) l ?_
 obtain ⟨ι,h,en,S,er,q⟩:=q
 refine NY (first:=[.ref a]) I1.kIn (hK▸h3.kp) (rJ (dvs:=[]) (us:=[.ref a]) (vs:=[.ref a]) (hK▸h5) hr (hK▸h4) .nil CC.pass I1 (.cons rfl .nil) (q.now S .nil))
structure CF (T:Tb) (c:Nat):Prop where
 ex:∃ C,T.cls c=some C/\Cls T.K C/\∀ f∈T.fields c,NoAttr T.K C f
structure GK (P:Program) (w:World) (T:Tb) (mg:Str->Option Value) (base:Heap) (k:Nat) (c:Nat) (x:Str) (F:Fn):Prop where
 ex:∃ C f fd ps,T.cls c=some C/\mg x=some (.ref C)/\Mk T.K C f/\Binds T.K fd ps []/\FnOk P w T.K mg base (du P w) k f fd ps (jv T F)
theorem EO {CX:fV} {C f:Addr} {fd:FuncData} {ps:List Str} {sp:Sp} {dvs:List V} {ds:List Value} {pins:List (Addr×Obj)} {σ:St} {H:Hp} {s:Shared} {Q:VK} {us:List Value} {vs:List V} (M:Mk X.K C f) (F:FnOk X.prog X.w X.K X.mg X.base CX k f fd ps sp) (hr:Room (k+1) X.A) (hb:Binds X.K fd ps ds) (hd:Vals dvs ds)
  (hx:mT CX X E) (I:L2.Inv X pins σ H s) (r:Vals vs us)
  (h:∀ x dx,H x=none->H dx=none->dx≠x->sp (.ref x::(vs++dvs)) (aJ (aJ H dx (.own x)) x (.ins C dx [])) (fun v H2=>v = .non/\Q (.ref x) H2) (E σ)) :
  wpAny (model X.prog X.w) X.A (call (.ref C) us) (EP X pins σ Q) X.xe s:=by
 have hq:=h (s.heap.objs.size+1) s.heap.objs.size (I.hok.fresh (NR _)) (I.hok.fresh (Kj _)) (K7 (Nd _))
 have I2:=Inv.made (C:=C) I
 have r2:Vals (V.ref (s.heap.objs.size+1)::(vs++dvs)) (Value.ref (s.heap.objs.size+1)::(us++ds)):=.cons rfl (r.append hd)
 have hl:(Value.ref (s.heap.objs.size+1)::us++ds).length=ps.length:=by
  have e:=r2.length
  rw [F.len _ _ _ _ hq] at e;exact e.symm
 refine wpAny_call (BW (f:=f) I.kIn M.makes M.init (beq_iff_eq.mp M.fn) (Nz (F.run _ X.stack _ _ ⟨Value.ref (s.heap.objs.size+1)::us,[]⟩ (Value.ref (s.heap.objs.size+1)::(us++ds)) _ _ (E σ) (hr.make C us [])
  (I2.env0.make C us []) (hb _ (Value.ref (s.heap.objs.size+1)::us) I2.kIn hl) r2 hq) fun r s' hq' => ?_))
 cases r with
 | error e=>exact hx pins σ _ _ e s' I2 hq'
 | ok fl =>
  cases fl with
  | ret u =>
   obtain ⟨v,H',I3,rv,ev,q3⟩:=I2.after hq'
   subst ev;exact ⟨rv,⟨V.ref (s.heap.objs.size+1),H',I3,rfl,q3⟩⟩
  | next=>exact False.elim hq'
  | brk=>exact False.elim hq'
  | cont=>exact False.elim hq'
theorem ES {C:Addr} {xs:List AV} {us:List V} {H:Hp} {Q:VK} {ι:Ix} {h:AH} {E:XK} {n:Nat} (hc:T.cls c=some C) (hn:(T.fields c).length=n) (S:Sim T ι h H) (r:RVs T ι H xs us)
  (q:Post T ι H E (RV T) (match F (.ref h.length::xs) (h++[.ins c (List.replicate n none)]) with | .ok .non h2=>Out.ok (AV.ref h.length) h2 | .ex c h2=>.ex c h2 | _=>.bad) Q) :
  ∀ x dx,H x=none->H dx=none->dx≠x->jv T F (.ref x::us) (aJ (aJ H dx (.own x)) x (.ins C dx [])) (fun v H2=>v = .non/\Q (.ref x) H2) E:=by
 intro x dx nx ndx ne
 have nx':(aJ H dx (.own x)) x=none:=by rw [bS (Ne.symm ne)];exact nx
 have S1:=S.new (o:=.own x) ndx
 have g1:=S.growNew (o:=.own x) ndx
 have g2:=S1.growAdd (u:=.ins C dx []) nx'
 have S2:Sim T (ι.add x) (h++[.ins c (List.replicate n none)]) (aJ (aJ H dx (.own x)) x (.ins C dx [])):=S1.add nx' ⟨C,dx,[],hc,rfl,by simp,by simp,by simp [hn],fun i v e=>by
  rw [Mu] at e;split at e
  ·cases e
  ·cases e⟩
 refine ⟨ι.add x,_,.ref h.length::xs,S2,.cons (.ref S.addAt) (r.mono (g1.trans g2)),?_⟩
 have q2:=q.shift (g1.trans g2)
 cases e:F (.ref h.length::xs) (h++[.ins c (List.replicate n none)]) with
 | bad=>rw [e] at q2;exact q2
 | ex c' h2=>rw [e] at q2;exact q2
 | ok v h2 =>
  rw [e] at q2
  cases v with
  | non=>exact fun ι' H' u g S' r' => ⟨oX r',q2 ι' H' _ g S' (.ref (g.at S.addAt))⟩
  | _=>exact (show False from q2).elim
theorem ET {n:Nat} (hK:X.K=T.K) (CC:CA T E X) (G:GK X.prog X.w T X.mg X.base k c x F) (hr:Room (k+1) X.A) (hg:Gl X x) (hn:(T.fields c).length=n:=by rfl) (hdb:(x == ("__debug__" : Str))=false:=by decide):aN T E X (.Call (.Name x p) [] [] pos) (oV c n F af):=by
 obtain ⟨C,f,fd,ps,h1,h2,h3,h4,h5⟩:=G.ex
 intro pins s σ H Q I ⟨ι,h,en,S,er,q⟩
 refine Mt (oC I hg h2 ?_ hdb)
 have M:Mk X.K C f:=hK▸h3
 exact NY I.kIn M.kp (EO (us:=[]) (vs:=[]) (dvs:=[]) M (hK▸h5) hr (hK▸h4) .nil CC.pass I .nil (ES h1 hn S .nil q))
theorem bU {i:Nat} {f:Str} (hK:X.K=T.K) (CFc:CF T c) (ho:aN T E X o so) (hf:(T.fields c)[i]? = some f:=by rfl) (hb:attributeBase o f X.env (eval o X.env)=eval o X.env:=by rfl):aN T E X (.Attribute o f pos) (Sm.sFld c i so):=by
 obtain ⟨C,hC,hcl,hna⟩:=CFc.ex
 refine cT (B4 ho hb) fun σ H Q ⟨ι,h,en,S,er,q⟩=>⟨ι,h,en,S,er,q.bind fun x h1 ι1 H1 u g1 S1 r1 q1=>?_⟩
 split at q1
 ·rename_i n
  split at q1
  ·rename_i c' fs hn
   split at q1
   ·rename_i ec
    subst ec;split at q1
    ·rename_i v hv
     cases r1 with
     | @ref _ a hr =>
      obtain ⟨o,e1,C',dx,fus,hC',rfl,nd,hw,hl,hr2⟩:=S1.obj n _ a hn hr
      rw [hC] at hC';cases hC'
      obtain ⟨f',u,e2,e3,r3⟩:=hr2 i v hv
      rw [hf] at e2;cases e2
      exact ⟨a,_,dx,fus,u,rfl,e1,hK▸hcl,hK▸hna f (KQ hf),e3,q1.now S1 r3⟩
    ·exact q1.elim
   ·exact q1.elim
  ·exact q1.elim
 ·exact q1.elim
theorem xy (f:Str) (v:V):∀ {fs:List (Str×V)},(fs.map (·.1)).Nodup->((bT f v fs).map (·.1)).Nodup/\∀ g,g∈(bT f v fs).map (·.1)->g=f\/g∈fs.map (·.1)
 | [],_=>by simp [bT]
 | (g,x)::r,n=>by
  obtain ⟨n1,n2⟩:=Lk.mp (show (g::r.map (·.1)).Nodup from n)
  unfold bT
  split
  ·rename_i e
   subst e;exact ⟨n,fun k hk=>.inr hk⟩
  ·rename_i e
   obtain ⟨h1,h2⟩:=xy f v (fs:=r) n2
   refine ⟨Lk.mpr ⟨fun z=>?_,h1⟩,fun k hk=>?_⟩
   ·rcases h2 g z with z | z
    ·exact e z
    ·exact n1 z
   ·rcases KJ.mp hk with z | z
    ·exact .inr (by rw [z];simp)
    ·rcases h2 k z with z | z
     ·exact .inl z
     ·exact .inr (Kp _ z)
theorem xA:∀ {l m:List Str},l.Nodup->(∀ x∈l,x∈m)->l.length<=m.length
 | [],m,_,_=>KS _
 | x::l,m,n,h=>by
  obtain ⟨n1,n2⟩:=Lk.mp n
  have hx:=h x (by simp)
  have:=xA (l:=l) (m:=m.erase x) n2 fun y hy=>by
   have ne:y≠x:=fun z=>n1 (z▸hy)
   exact (List.mem_erase_of_ne ne).mpr (h y (by simp [hy]))
  rw [List.length_erase_of_mem hx] at this;have:0<m.length:=List.length_pos_of_mem hx
  simp only [Kk]
  lia
theorem jX {i:Nat} {f:Str} {p':Pos} (hK:X.K=T.K) (CFc:CF T c) (ho:aN T E X o so) (ha:aN T E X a sa) (hf:(T.fields c)[i]? = some f:=by rfl) (hs:swapsWith a (some (.Attribute o f p')) pos.line X.env=pure false:=by rfl) :
  fW T E X (.Assign [.Attribute o f p'] a pos) (jg c i so sa):=by
 obtain ⟨C,hC,hcl,hna⟩:=CFc.ex
 refine gM (B5 ho ha hs) fun D σ H ⟨ι,h,en,S,er,q⟩=>⟨ι,h,en,S,er,q.go er fun y h1 ι1 H1 v g1 S1 r1 q1=>⟨ι1,h1,en,S1,er.mono g1,q1.go (er.mono g1) fun x h2 ι2 H2 u g2 S2 r2 q2=>?_⟩⟩
 split at q2
 ·rename_i n
  split at q2
  ·rename_i c' fs hn
   split at q2
   ·rename_i ec
    subst ec
    cases r2 with
    | @ref _ a hr =>
     obtain ⟨o,e1,C',dx,fus,hC',rfl,nd,hw,hl,hr2⟩:=S2.obj n _ a hn hr
     rw [hC] at hC';cases hC'
     have hmem:f∈T.fields c' := KQ hf
     have hlen:fus.length<1000:=by
      have:=xA nd (m:=T.fields c') (fun x hx=>by
       obtain ⟨p,hp,rfl⟩:=Nt.mp hx
       exact hw p hp)
      have:=T.few c'
      rw [Kv] at *
      lia
     obtain ⟨k1,k2⟩:=xy f v nd
     have g3:=S2.growSet (u:=.ins C dx (bT f v fus)) hr
     refine ⟨a,C,dx,fus,rfl,e1,hK▸hcl,hK▸hna f hmem,hlen,q2 ι2 _ σ g3 (S2.set hr ⟨C,dx,bT f v fus,hC,rfl,k1,fun p hp=>?_,by simp [hl],fun j w hj=>?_⟩) (er.mono (g1.trans (g2.trans g3)))⟩
     ·rcases k2 p.1 (Nt.mpr ⟨p,hp,rfl⟩) with z | z
      ·rw [z];exact hmem
      ·obtain ⟨p',hp',e⟩:=Nt.mp z
       rw [<- e];exact hw p' hp'
     ·by_cases hji:j=i
      ·subst hji
       have hjl:j<fs.length:=by
        have:=(Kh.mp hj).1
        simpa using this
       rw [Ko hjl] at hj
       cases hj
       exact ⟨f,v,hf,by rw [oJ,Ku rfl],r1.mono (g2.trans g3)⟩
      ·rw [Kr (Ne.symm hji)] at hj
       obtain ⟨f',u,e2,e3,r3⟩:=hr2 j w hj
       have ne:f'≠f:=fun z=>hji (qB (T.nd c') e2 (z▸hf))
       exact ⟨f',u,e2,by rw [oJ,KF ne];exact e3,r3.mono g3⟩
   ·exact (show False from q2).elim
  ·exact (show False from q2).elim
 ·exact (show False from q2).elim
end
end Sm
namespace Sm
open PySem PySem.Spec L2
theorem sk {T:Tb} {ι:Ix} {H:Hp} {k:aW} {u:V} (r:RV T ι H (kA k) u):u=kV k:=by
 cases k with
 | inl i=>exact bX r
 | inr x=>exact (dP r).1
theorem su {k j:aW} (e:kA k=kA j):k=j:=by
 cases k<;>cases j<;>simp [kA] at e<;>simp [e]
theorem sv:∀ {ks js:List aW},ks.map kA=js.map kA->ks=js
 | [],[],_=>rfl
 | [],_::_,e=>by simp at e
 | _::_,[],e=>by simp at e
 | k::ks,j::js,e=>by
  simp only [KY,List.cons.injEq] at e
  rw [su e.1,sv e.2]
theorem xB {T:Tb} {ι:Ix} {H:Hp}:∀ {ks:List aW} {us:List V},RVs T ι H (ks.map kA) us->us=ks.map kV
 | [],_,.nil=>rfl
 | k::ks,_,.cons r rs=>by rw [sk r,xB rs];rfl
theorem sC {v:AV} {k:aW} (e:keyOf? v=some k):v=kA k:=by
 unfold keyOf? at e
 split at e<;>cases e<;>rfl
theorem pf:∀ {vs:List AV} {ks:List aW},keysOf? vs=some ks->vs=ks.map kA
 | [],_,e=>by cases e;rfl
 | v::vs,ks,e=>by
  unfold keysOf? at e
  split at e
  ·rename_i k ks' e1 e2
   cases e
   rw [sC e1,pf e2];rfl
  ·cases e
theorem ph {κ:Type} [DecidableEq κ] {T:Tb} {ι:Ix} {H:Hp} {f:κ->AV} (hf:∀ {a b},f a=f b->a=b) {k:κ}:∀ {kvs:List (AV×AV)} {kus:List (κ×V)},Paired (fun (p:AV×AV) (q:κ×V)=>p.1=f q.1/\RV T ι H p.2 q.2) kvs kus ->
  (bL kvs (f k)=none/\cN kus k=none)\/∃ v u,bL kvs (f k)=some v/\cN kus k=some u/\RV T ι H v u
 | _,_,.nil=>.inl ⟨rfl,rfl⟩
 | (a,v)::kvs,(j,u)::kus,.cons ⟨e,r⟩ rs=>by
  by_cases h:j=k
  ·subst h
   replace e:a=f j:=e
   subst e;exact .inr ⟨v,u,by simp [bL],oO rfl,r⟩
  ·have h' : ¬ a=f k:=fun z=>h (hf (e.symm.trans z))
   rcases ph hf rs (k:=k) with ⟨h1,h2⟩ | ⟨v',u',h1,h2,h3⟩
   ·refine .inl ⟨?_,by rw [mO h];exact h2⟩
    unfold bL at h1 ⊢
    rw [Lq,KH h'];exact h1
   ·refine .inr ⟨v',u',?_,by rw [mO h];exact h2,h3⟩
    unfold bL at h1 ⊢
    rw [Lq,KH h'];exact h1
theorem xC {kvs:List (AV×AV)} {k:AV}:(kvs.any fun p=>decide (p.1=k))=(bL kvs k).isSome:=by
 induction kvs with
 | nil=>rfl
 | cons p r ih =>
  unfold bL at ih ⊢
  rw [Mo,Lq,ih]
  cases h:decide (p.1=k)<;>simp
theorem xD {κ:Type} [DecidableEq κ] {T:Tb} {ι:Ix} {H:Hp} {f:κ->AV} (hf:∀ {a b},f a=f b->a=b) {k:κ} {v:AV} {u:V} (rv:RV T ι H v u) {kvs:List (AV×AV)} {kus:List (κ×V)} (r:Paired (fun (p:AV×AV) (q:κ×V)=>p.1=f q.1/\RV T ι H p.2 q.2) kvs kus) :
  Paired (fun (p:AV×AV) (q:κ×V)=>p.1=f q.1/\RV T ι H p.2 q.2) (gQ kvs (f k) v) (cO kus k u):=by
 have e:(kvs.any fun p=>decide (p.1=f k))=kus.any fun kv=>decide (kv.1=k):=by
  rw [xC,rq];rcases ph hf r (k:=k) with ⟨h1,h2⟩ | ⟨v',u',h1,h2,h3⟩
  ·rw [h1,h2];rfl
  ·rw [h1,h2];rfl
 unfold gQ cO
 rw [e];by_cases h:(kus.any fun kv=>decide (kv.1=k))=true
 ·rw [Ku h,Ku h]
  clear e h;induction r with
  | nil=>exact .nil
  | cons p rs ih =>
   rename_i a b l1 l2
   refine .cons ?_ ih
   obtain ⟨e1,r1⟩:=p
   dsimp only;by_cases hk:b.1=k
   ·rw [Ku hk,Ku (by rw [e1,hk])]
    exact ⟨e1,rv⟩
   ·rw [KF hk,KF (fun z=>hk (hf (e1.symm.trans z)))]
    exact ⟨e1,r1⟩
 ·rw [KF h,KF h]
  have app:∀ {l1:List (AV×AV)} {l2:List (κ×V)},Paired (fun (p:AV×AV) (q:κ×V)=>p.1=f q.1/\RV T ι H p.2 q.2) l1 l2->Paired (fun (p:AV×AV) (q:κ×V)=>p.1=f q.1/\RV T ι H p.2 q.2) (l1++[(f k,v)]) (l2++[(k,u)]):=fun z=>by
   induction z with
   | nil=>exact .cons ⟨rfl,rv⟩ .nil
   | cons p _ ih=>exact .cons p ih
  exact app r
section
variable {T:Tb} {ι:Ix} {h:AH} {H:Hp}
theorem nk {xs:List AV} {u:V} {ks:List aW} (r:RV T ι H (.tup xs) u) (e:keysOf? xs=some ks):∃ b,u = .ref b/\KTup H b ks:=by
 have:=pf e
 subst this
 cases r with
 | tup n q r=>exact ⟨_,rfl,.of (by rw [<- xB r];exact q)⟩
theorem xE {n:Nat} {t:Bool} {kvs:List (AV×AV)} {y:AV} {a:Addr} {w:V} (S:Sim T ι h H) (hn:h[n]? = some (.dct t kvs)) (hr:ι.refs[n]? = some a) (ry:RV T ι H y w) (hk:ji t y=true) :
  ∃ o,DGet H a w o/\((bL kvs y=none/\o=none)\/∃ v u,bL kvs y=some v/\o=some u/\RV T ι H v u):=by
 obtain ⟨ob,e1,r⟩:=S.obj n _ a hn hr
 cases t with
 | false =>
  obtain ⟨kus,rfl,r⟩:=r
  have hk':(keyOf? y).isSome=true:=hk
  obtain ⟨k,ek⟩:=KR.mp hk'
  have:=sC ek
  subst this;rw [sk ry];refine ⟨cN kus k,.k e1,?_⟩
  rcases ph su r (k:=k) with ⟨h1,h2⟩ | ⟨v',u',h1,h2,h3⟩
  ·exact .inl ⟨h1,h2⟩
  ·exact .inr ⟨v',u',h1,h2,h3⟩
 | true =>
  obtain ⟨kus,rfl,r⟩:=r
  unfold ji at hk
  split at hk
  ·rename_i hh;cases hh
  ·rename_i xs hh
   obtain ⟨ks,ek⟩:=KR.mp hk
   obtain ⟨b,rfl,hb⟩:=nk ry ek
   have:=pf ek
   subst this;refine ⟨cN kus ks,.t e1 hb,?_⟩
   rcases ph (f:=fun ks:List aW=>AV.tup (ks.map kA)) (fun e=>sv (by injection e)) r (k:=ks) with ⟨h1,h2⟩ | ⟨v',u',h1,h2,h3⟩
   ·exact .inl ⟨h1,h2⟩
   ·exact .inr ⟨v',u',h1,h2,h3⟩
  ·cases hk
theorem EU {n:Nat} {t:Bool} {kvs:List (AV×AV)} {y z:AV} {a:Addr} {w u:V} (S:Sim T ι h H) (hn:h[n]? = some (.dct t kvs)) (hr:ι.refs[n]? = some a) (ry:RV T ι H y w) (rz:RV T ι H z u) (hk:ji t y=true) (hl:kvs.length<sizeLine) :
  ∃ H',DPut H a w u H'/\Grow ι H ι H'/\Sim T ι (h.set n (.dct t (gQ kvs y z))) H' := by
 obtain ⟨ob,e1,r⟩:=S.obj n _ a hn hr
 cases t with
 | false =>
  obtain ⟨kus,rfl,r⟩:=r
  have hk':(keyOf? y).isSome=true:=hk
  obtain ⟨k,ek⟩:=KR.mp hk'
  have:=sC ek
  subst this;rw [sk ry];have g:=S.growSet (u:=.dK (cO kus k u)) hr
  exact ⟨_,.k e1 (by rw [<- Paired.length r];exact hl),g,S.set hr ⟨_,rfl,xD su (rz.mono g) (Paired.mapP r fun _ _ ⟨p,q⟩=>⟨p,q.mono g⟩)⟩⟩
 | true =>
  obtain ⟨kus,rfl,r⟩:=r
  unfold ji at hk
  split at hk
  ·rename_i hh;cases hh
  ·rename_i xs hh
   obtain ⟨ks,ek⟩:=KR.mp hk
   obtain ⟨b,rfl,hb⟩:=nk ry ek
   have:=pf ek
   subst this;have g:=S.growSet (u:=.dT (cO kus ks u)) hr
   exact ⟨_,.t e1 hb (by rw [<- Paired.length r];exact hl),g,S.set hr ⟨_,rfl,xD (f:=fun ks:List aW=>AV.tup (ks.map kA)) (fun e=>sv (by injection e)) (rz.mono g) (Paired.mapP r fun _ _ ⟨p,q⟩=>⟨p,q.mono g⟩)⟩⟩
  ·cases hk
theorem RVs.atI {xs:List AV} {us:List V} {i:Int} {v:AV} (r:RVs T ι H xs us) (e:atI xs i=some v):∃ u,L2.atI us i=some u/\RV T ι H v u:=by
 unfold L2.atI at e ⊢
 rw [<- r.length];obtain ⟨j,e1,e2⟩:=Ni.mp e
 obtain ⟨u,e3,r3⟩:=r.get e2
 exact ⟨u,by rw [e1];exact e3,r3⟩
end
section
variable {T:Tb} {E:St->XK} {X:Cx} {pos:Pos} {a b c:Expr} {sa sb sc:SE}
theorem EV {e:Expr} {t t':TE} (h:PE X e t) (h':PE X e t'):PE X e (fun σ H Q=>t σ H Q\/t' σ H Q):=fun pins s σ H Q I q=>q.elim (h pins s σ H Q I) (h' pins s σ H Q I)
theorem EW {e:Stmt} {t t':TS} (h:PS X e t) (h':PS X e t'):PS X e (fun D σ H=>t D σ H\/t' D σ H):=fun pins s σ H Q I q=>q.elim (h pins s σ H Q I) (h' pins s σ H Q I)
theorem aD (hK:X.K=T.K) (hu:X.A.units+64<cLine) (ha:aN T E X a sa) (hb:aN T E X b sb) (hs:wk b:=by exact fun _ _=>rfl):aN T E X (.Subscript a b pos) (ah aB sa sb):=by
 refine cT (EV (Ct Cv ha hb hs) (De (KA (K5 (by decide:1<=64) _) hu) ha hb hs)) fun σ H Q q=>?_
 obtain ⟨ι,h,en,S,er,q⟩:=q
 have left:(∀ x h1 y h2,sa en h = .ok x h1->sb en h1 = .ok y h2->∀ n t kvs,x = .ref n->h2[n]? = some (.dct t kvs)->False)->lH (wm X.K) (tE T E sa) (tE T E sb) σ H Q:=fun no=>by
  refine ⟨ι,h,en,S,er,?_⟩
  unfold ah at q
  cases e1:sa en h with
  | bad=>rw [e1] at q;exact q
  | ex c h1=>rw [e1] at q;exact q
  | ok x h1 =>
   rw [e1] at q;intro ι1 H1 u g1 S1 r1
   refine ⟨ι1,h1,en,S1,er.mono g1,?_⟩
   dsimp only [Out.bind] at q
   cases e2:sb en h1 with
   | bad=>rw [e2] at q;exact q
   | ex c h2=>rw [e2] at q;exact Post.shift (R:=RV T) (o:=.ex c h2) q g1
   | ok y h2 =>
    rw [e2] at q;intro ι2 H2 w g2 S2 r2
    have q2:=Post.shift q (g1.trans g2)
    have r1' := r1.mono g2
    dsimp only at q2
    unfold aB at q2
    split at q2
    ·rename_i z i
     split at q2
     ·rename_i cc hc
      obtain ⟨rfl,zl,zo⟩:=dP r1'
      rw [bX r2];refine .inr (.inr ⟨z,i,cc,rfl,rfl,zl,hc,q2.now S2 (.str (show 1<=sizeLine by decide) ?_)⟩)
      obtain ⟨j,_,e3,_⟩:=oM hc
      have m:cc∈z.cps:=by
       have:=KQ e3
       simpa using this
      have:=Ln.mp zo _ m
      simpa using this
     ·exact q2.elim
    ·rename_i xs i
     split at q2
     ·rename_i v hv
      obtain ⟨b,us,rfl,sq,rs⟩:=jl r1'
      obtain ⟨u2,e3,r3⟩:=rs.atI hv
      rw [bX r2];exact .inr (.inl ⟨b,us,i,u2,rfl,rfl,hK▸sq,e3,q2.now S2 r3⟩)
     ·exact q2.elim
    ·rename_i xs i
     split at q2
     ·rename_i v hv
      obtain ⟨b,us,rfl,sq,rs⟩:=fz S2 r1' rfl
      obtain ⟨u2,e3,r3⟩:=rs.atI hv
      rw [bX r2];exact .inl ⟨b,us,i,u2,rfl,rfl,hK▸sq,e3,q2.now S2 r3⟩
     ·exact q2.elim
    ·rename_i n
     split at q2
     ·rename_i xs hn
      split at q2
      ·rename_i i
       split at q2
       ·rename_i v hv
        obtain ⟨b,us,rfl,sq,rs⟩:=fz (xs:=xs) S2 r1' (by simp [dR,hn])
        obtain ⟨u2,e3,r3⟩:=rs.atI hv
        rw [bX r2];exact .inl ⟨b,us,i,u2,rfl,rfl,hK▸sq,e3,q2.now S2 r3⟩
       ·exact q2.elim
      ·exact q2.elim
     ·rename_i t kvs hn
      exact (no _ h1 _ h2 e1 e2 n t kvs rfl hn).elim
     ·exact q2.elim
    ·exact q2.elim
 by_cases dd:∃ x h1 y h2,sa en h = .ok x h1/\sb en h1 = .ok y h2/\∃ n t kvs,x = .ref n/\h2[n]? = some (.dct t kvs)
 ·obtain ⟨x,h1,y,h2,e1,e2,n,t,kvs,rfl,hn⟩:=dd
  refine .inr ⟨ι,h,en,S,er,?_⟩
  unfold ah at q
  rw [e1] at q ⊢;intro ι1 H1 u g1 S1 r1
  refine ⟨ι1,h1,en,S1,er.mono g1,?_⟩
  dsimp only [Out.bind] at q
  rw [e2] at q ⊢;intro ι2 H2 w g2 S2 r2
  have q2:=Post.shift q (g1.trans g2)
  have r1' := r1.mono g2
  dsimp only at q2
  unfold aB at q2
  simp only [hn] at q2
  split at q2
  ·rename_i hk
   cases r1' with
   | @ref _ ad hr =>
    obtain ⟨o,dg,alt⟩:=xE S2 hn hr r2 hk
    rcases alt with ⟨v1,rfl⟩ | ⟨v,u,v1,rfl,r3⟩
    ·rw [v1] at q2;exact q2.elim
    ·rw [v1] at q2
     exact ⟨ad,u,rfl,dg,q2.now S2 r3⟩
  ·exact q2.elim
 ·exact .inl (left fun x h1 y h2 e1 e2 n t kvs e3 e4=>dd ⟨x,h1,y,h2,e1,e2,n,t,kvs,e3,e4⟩)
theorem pk {p':Pos} (hu:X.A.units+64<cLine) (ho:aN T E X a sa) (hi:aN T E X b sb) (hv:aN T E X c sc) (hs:swapsWith c (some (.Subscript a b p')) pos.line X.env=pure false:=by rfl) (hs':swapsWithSole [.Subscript a b p'] c pos.line X.env=pure false:=by rfl) (hw:swappedStores [.Subscript a b p'] c X.env=pure none:=by rfl)
  (h1:(assignEach [.Subscript a b p'] X.env).map (·.2)=[assign (.Subscript a b p') X.env]:=by rfl)
  (has:∀ v,assign (.Subscript a b p') X.env v=(do
   let ov <- holding [v] (eval a X.env)
   let iv <- holding [v,ov] (eval b X.env)
   standAt p'
   holding [v,ov,iv] (setItem ov iv v)
   release [v,ov,iv] []):=by intro _;rfl):fW T E X (.Assign [.Subscript a b p'] c pos) (ic sa sb sc):=by
 refine gM (EW (Bc hv (Bb ho hi Cz has) hs' hw h1) (Df (KA (K5 (by decide:1<=64) _) hu) ho hi hv hs)) fun D σ H q=>?_
 obtain ⟨ι,h,en,S,er,q⟩:=q
 unfold ic at q
 by_cases dd:∃ z h1 x h2 y h3,sc en h = .ok z h1/\sa en h1 = .ok x h2/\sb en h2 = .ok y h3/\∃ n t kvs,x = .ref n/\h3[n]? = some (.dct t kvs)
 ·obtain ⟨z,h1,x,h2,y,h3,e1,e2,e3,n,t,kvs,rfl,hn⟩:=dd
  refine .inr ⟨ι,h,en,S,er,?_⟩
  rw [e1] at q ⊢;intro ι1 H1 u g1 S1 r1
  refine ⟨ι1,h1,en,S1,er.mono g1,?_⟩
  dsimp only [Out.go] at q
  rw [e2] at q ⊢;intro ι2 H2 w g2 S2 r2
  refine ⟨ι2,h2,en,S2,er.mono (g1.trans g2),?_⟩
  dsimp only at q
  rw [e3] at q ⊢;intro ι3 H3 j g3 S3 r3
  have q2:=PostS.shift q (g1.trans (g2.trans g3))
  simp only [hn] at q2
  split at q2
  ·rename_i hk
   cases (r2.mono g3) with
   | @ref _ ad hr =>
    obtain ⟨H4,dp,g4,S4⟩:=EU S3 hn hr r3 (r1.mono (g2.trans g3)) hk.1 hk.2
    exact ⟨ad,H4,rfl,dp,q2 ι3 H4 σ g4 S4 (er.mono (g1.trans (g2.trans (g3.trans g4))))⟩
  ·exact q2.elim
 ·refine .inl ⟨ι,h,en,S,er,?_⟩
  cases e1:sc en h with
  | bad=>rw [e1] at q;exact q
  | ex cc h1=>rw [e1] at q;exact fun i2 H2 C g S e=>q i2 H2 σ C g S (er.mono g) e
  | ok z h1 =>
   rw [e1] at q;intro ι1 H1 u g1 S1 r1
   refine ⟨ι1,h1,en,S1,er.mono g1,?_⟩
   dsimp only [Out.go] at q
   cases e2:sa en h1 with
   | bad=>rw [e2] at q;exact q
   | ex cc h2=>rw [e2] at q;exact fun i2 H2 C g S e=>q i2 H2 σ C (g1.trans g) S (er.mono (g1.trans g)) e
   | ok x h2 =>
    rw [e2] at q;intro ι2 H2 w g2 S2 r2
    refine ⟨ι2,h2,en,S2,er.mono (g1.trans g2),?_⟩
    dsimp only at q
    cases e3:sb en h2 with
    | bad=>rw [e3] at q;exact q
    | ex cc h3=>rw [e3] at q;exact fun i2 H2 C g S e=>q i2 H2 σ C (g1.trans (g2.trans g)) S (er.mono (g1.trans (g2.trans g))) e
    | ok y h3 =>
     rw [e3] at q;intro ι3 H3 j g3 S3 r3
     have q2:=PostS.shift q (g1.trans (g2.trans g3))
     dsimp only at q2
     split at q2
     ·rename_i n
      split at q2
      ·rename_i xs hn
       split at q2
       ·rename_i k
        split at q2
        ·rename_i jj hj
         cases (r2.mono g3) with
         | @ref _ ad hr =>
          obtain ⟨o,e4,us,rfl,rs⟩:=S3.obj n _ ad hn hr
          have g4:=S3.growSet (u:=.lst (us.set jj u)) hr
          rw [bX r3];exact ⟨ad,us,k,jj,rfl,rfl,e4,by rw [<- rs.length];exact hj,q2 ι3 _ σ g4 (S3.set hr ⟨_,rfl,RVs.set (r1.mono (g2.trans (g3.trans g4))) jj (rs.mono g4)⟩) (er.mono (g1.trans (g2.trans (g3.trans g4))))⟩
        ·exact q2.elim
       ·exact q2.elim
      ·rename_i t kvs hn
       exact (dd ⟨_,h1,_,h2,_,h3,e1,e2,e3,n,t,kvs,rfl,hn⟩).elim
      ·exact q2.elim
     ·exact q2.elim
theorem EX {g:Value->Value->Sem Value} {r:R2} {neg:Bool} (hK:X.K=T.K)
  (h1:∀ (i j:Str) H Q,Q (V.bl (if neg then !(!(Builtin.Str.occurrences j i 0 j.length 1).isEmpty) else !(Builtin.Str.occurrences j i 0 j.length 1).isEmpty)) H->r (.str i) (.str j) H Q)
  (h2:∀ x y H Q p xs d ds,y=V.ref p->SqL T.K H p xs->DaV T.K H x d->DaVs T.K H xs ds->d.canLay0=true->(∀ e∈ds,e.canLay0=true/\e.depth<=30)->Q (V.bl (if neg then !(ds.any fun e=>PyData.eqv e d) else ds.any fun e=>PyData.eqv e d)) H->r x y H Q)
  (h2t:∀ x y H Q p xs d ds,y=V.ref p->SqT T.K H p xs->DaV T.K H x d->DaVs T.K H xs ds->d.canLay0=true->(∀ e∈ds,e.canLay0=true/\e.depth<=30)->Q (V.bl (if neg then !(ds.any fun e=>PyData.eqv e d) else ds.any fun e=>PyData.eqv e d)) H->r x y H Q)
  (h3:∀ (y:V) (a:Addr) o H Q,DGet H a y o->Q (V.bl (if neg then !o.isSome else o.isSome)) H->r y (.ref a) H Q) :
  lN T (fun x y h=>match oW x y h with | some b=>.ok (.bl (if neg then !b else b)) h | none=>.bad) r:=by
 intro ι h H x y u w E Q S rx ry p
 dsimp only at p
 cases hb:oW x y h with
 | none=>rw [hb] at p;exact p.elim
 | some b =>
  rw [hb] at p;dsimp only at p
  unfold oW at hb
  split at hb
  ·cases hb
   obtain ⟨rfl,_⟩:=dP rx
   obtain ⟨rfl,_⟩:=dP ry
   exact h1 _ _ _ _ (p.now S (.bl _))
  ·rename_i n
   split at hb
   ·rename_i t kvs hn
    split at hb
    ·rename_i hk
     cases hb
     cases ry with
     | @ref _ ad hr =>
      obtain ⟨o,dg,alt⟩:=xE S hn hr rx hk
      refine h3 u ad o H Q dg ?_
      rcases alt with ⟨v1,rfl⟩ | ⟨v,u',v1,rfl,r3⟩
      ·rw [v1] at p;exact p.now S (.bl _)
      ·rw [v1] at p;exact p.now S (.bl _)
    ·cases hb
   ·rename_i xs hn
    split at hb
    ·rename_i d ds e1 e2
     cases hb
     obtain ⟨a,us,rfl,sq,rs⟩:=fz (xs:=xs) S ry (by simp [dR,hn])
     obtain ⟨q1,q2,q3⟩:=jo S 8 rx e1
     obtain ⟨q4,q5⟩:=mZ (n:=8) (fun r e=>jo S 8 r e) rs e2
     exact h2 _ _ _ _ a us d ds rfl sq q1 q4 q2 (fun e he=>⟨(q5 e he).1,by have:=(q5 e he).2;lia⟩) (p.now S (.bl _))
    ·cases hb
   ·cases hb
  ·rename_i xs
   split at hb
   ·rename_i d ds e1 e2
    cases hb
    obtain ⟨a,us,rfl,sq,rs⟩:=fz S ry rfl
    obtain ⟨q1,q2,q3⟩:=jo S 8 rx e1
    obtain ⟨q4,q5⟩:=mZ (n:=8) (fun r e=>jo S 8 r e) rs e2
    exact h2 _ _ _ _ a us d ds rfl sq q1 q4 q2 (fun e he=>⟨(q5 e he).1,by have:=(q5 e he).2;lia⟩) (p.now S (.bl _))
   ·cases hb
  ·rename_i xs
   split at hb
   ·rename_i d ds e1 e2
    cases hb
    obtain ⟨a,us,rfl,sq,rs⟩:=jl ry
    obtain ⟨q1,q2,q3⟩:=jo S 8 rx e1
    obtain ⟨q4,q5⟩:=mZ (n:=8) (fun r e=>jo S 8 r e) rs e2
    exact h2t _ _ _ _ a us d ds rfl sq q1 q4 q2 (fun e he=>⟨(q5 e he).1,by have:=(q5 e he).2;lia⟩) (p.now S (.bl _))
   ·cases hb
  ·cases hb
end
end Sm
namespace L2
open PySem PySem.Spec PyProof.Rows
section
variable {X:Cx} {pins:List (Addr×Obj)} {σ:St} {H:Hp} {s:Shared}
theorem xF (I:Inv X pins σ H s) (hu:X.A.units+64<cLine) {xs:List V} {ds:List PyData} {its:List Value} {d:PyData} {v:Value} {as:List Addr} (ra:Reads s.heap v d as) (hds:DaVs X.K H xs ds) (r:Vals xs its) (cd:d.canLay0=true) (cds:∀ e∈ds,e.canLay0=true/\e.depth<=30) :
  (∀ y,y∈its.toArray->SeqAt.EqAt X.A.in1 s y v (jU s.heap d y))/\its.toArray.any (jU s.heap d)=ds.any fun e=>PyData.eqv e d:=by
 obtain ⟨hl,hat⟩:=wN I hds r
 constructor
 ·intro y hy
  have hy':y∈its:=by simpa using hy
  obtain ⟨j,hj⟩:=List.getElem?_of_mem hy'
  have hlt:=(Kh.mp hj).1
  have hdj:ds[j]? = some (ds[j]'(by lia)):=KM (by lia)
  obtain ⟨bs,rb⟩:=hat j _ _ hj hdj
  have cj:=cds _ (KQ hdj)
  rw [wM cj.1 rb];exact SeqAt.eqAt_reads _ _ _ _ _ _ _ _ rb ra cj.1 cd (by
   have:=ND (ds[j]'(by lia)).depth d.depth
   show X.A.units+1+_<cLine
   lia)
 ·rw [<- Array.any_toList]
  refine wO hl fun j u e h1 h2=>?_
  obtain ⟨bs,rb⟩:=hat j _ _ h1 h2
  exact wM (cds _ (KQ h2)).1 rb
def EY (K:PySem.W.Frag):R2:=fun x y H Q=>∃ p xs d ds,y = .ref p/\SqL K H p xs/\DaV K H x d/\DaVs K H xs ds/\d.canLay0=true/\(∀ e∈ds,e.canLay0=true/\e.depth<=30)/\Q (.bl (!(ds.any fun e=>PyData.eqv e d))) H
def EZ (K:PySem.W.Frag):R2:=fun x y H Q=>∃ p xs d ds,y = .ref p/\SqT K H p xs/\DaV K H x d/\DaVs K H xs ds/\d.canLay0=true/\(∀ e∈ds,e.canLay0=true/\e.depth<=30)/\Q (.bl (!(ds.any fun e=>PyData.eqv e d))) H
theorem E1 (hu:X.A.units+64<cLine):OpR X (compareOp .NotIn) (EY X.K):=by
 intro pins s σ H x y v u Q I rx ry h
 obtain ⟨p,xs,d,ds,rfl,hq,hd,hds,cd,cds,q⟩:=h
 cases ry
 obtain ⟨its,r,pl,hz⟩:=I.list hq
 obtain ⟨as,ra⟩:=hd.reads I rx
 obtain ⟨h1,h2⟩:=xF I hu ra hds r cd cds
 exact SeqAt.notIn_listAt (jU s.heap d) pl.isList h1 ⟨.bl _,H,I,rfl,by rw [h2];exact q⟩
theorem E2 (hu:X.A.units+64<cLine):OpR X (compareOp .NotIn) (EZ X.K):=by
 intro pins s σ H x y v u Q I rx ry h
 obtain ⟨p,xs,d,ds,rfl,hq,hd,hds,cd,cds,q⟩:=h
 cases ry
 obtain ⟨its,r,pl,hz⟩:=I.tuple hq
 obtain ⟨as,ra⟩:=hd.reads I rx
 obtain ⟨h1,h2⟩:=xF I hu ra hds r cd cds
 exact SeqAt.notIn_tupleAt (jU s.heap d) pl h1 ⟨.bl _,H,I,rfl,by rw [h2];exact q⟩
theorem E3 (hu:X.A.units+64<cLine):OpR X (compareOp .NotIn) (fun x y H Q=>∃ a o,y = .ref a/\DGet H a x o/\Q (.bl (!o.isSome)) H):=by
 intro pins s σ H x y v u Q I rx ry h
 obtain ⟨a,o,rfl,g,q⟩:=h
 cases ry
 exact C4 (KA (K5 (by decide:1<=64) _) hu) I g rx fun s' I' => ⟨.bl _,H,I',rfl,q⟩
end
end L2
namespace Sm
open PySem PySem.Spec L2
section
variable {T:Tb} {E:St->XK} {X:Cx}
theorem xG (hK:X.K=T.K) (hu:X.A.units+64<cLine):Op T X (compareOp .NotIn) rW:=by
 refine ⟨_,zep.or ((E1 hu).or ((E2 hu).or (E3 hu))),EX (neg:=true) (g:=compareOp .NotIn) hK ?_ ?_ ?_ ?_⟩
 ·exact fun i j H Q q=>.inl ⟨i,j,rfl,rfl,q⟩
 ·exact fun x y H Q p xs d ds e1 e2 e3 e4 e5 e6 q=>.inr (.inl ⟨p,xs,d,ds,e1,hK▸e2,hK▸e3,hK▸e4,e5,e6,q⟩)
 ·exact fun x y H Q p xs d ds e1 e2 e3 e4 e5 e6 q=>.inr (.inr (.inl ⟨p,xs,d,ds,e1,hK▸e2,hK▸e3,hK▸e4,e5,e6,q⟩))
 ·exact fun y a o H Q g q=>.inr (.inr (.inr ⟨a,o,rfl,g,q⟩))
end
end Sm
namespace Sm
open PySem PySem.Spec L2
abbrev sD (x:Str) (C:Addr) (mg:Str->Option Value) (base:Heap):Prop:=PyProof.Rows.OwnCls x C [.type "ValueError",.type "Exception",.type "BaseException",.type "object"] "ValueError.__new__" mg base
structure GX (T:Tb) (mg:Str->Option Value) (base:Heap) (c:Nat) (x:Str):Prop where
 ex:∃ C,T.exc c=some C/\sD x C mg base
section
variable {T:Tb} {E:St->XK} {X:Cx} {pos np cpos:Pos} {e:Expr} {es:List Expr} {x:Str} {c:Nat} {as:SL}
theorem jY (G:GX T X.mg X.base c x) (hr:rH X E) (hg:Gl X x) (ha:ib T E X (e::es) as) (hc:X.calm=true:=by rfl) (hex:X.ex=[]:=by rfl)
  (hdb:(x == ("__debug__" : Str))=false:=by decide) (he:starEach (e::es) X.env=(false,eval e X.env)::starEach es X.env:=by rfl) (hpl:(backTo cpos (starEach es X.env)).any (·.1)=false:=by rfl) :
  fW T E X (.Raise (some (.Call (.Name x np) (e::es) [] cpos)) none pos) (jh c as):=by
 obtain ⟨C,h1,O⟩:=G.ex
 refine gM (DF O PySem.F.excBase_ValueError hc hex hr hg ha hdb he hpl) fun D σ H ⟨ι,h,en,S,er,q⟩=>⟨ι,h,en,S,er,q.go er fun xs h1' ι1 H1 us g1 S1 r1 q1=>?_⟩
 split at q1
 ·rename_i hl
  exact ⟨by rw [<- r1.length];exact hl,q1 ι1 H1 σ C S1.refl S1 (er.mono g1) h1⟩
 ·exact q1.elim
end
def iD (T:Tb) (f:Fn) (r:List V->Hp->VK->Prop):Prop:=∀ (ι:Ix) (h:AH) (H:Hp) (xs:List AV) (us:List V) (E:XK) (Q:VK),Sim T ι h H->RVs T ι H xs us->Post T ι H E (RV T) (f xs h) Q->r us H Q
section
variable {T:Tb} {E:St->XK} {X:Cx} {pos p:Pos} {e a:Expr} {es:List Expr} {x:Str} {as:SL} {sa:SE}
theorem xH {f:Fn} {r:List V->Hp->VK->Prop} (hs:iD T f r) {σ:St} {H:Hp} {Q:VK} (q:tE T E (ax f as) σ H Q):rg r (tA T E as) σ H Q:=by
 obtain ⟨ι,h,en,S,er,q⟩:=q
 exact ⟨ι,h,en,S,er,q.bind fun xs h1 ι1 H1 us g1 S1 r1 q1=>hs ι1 h1 H1 xs us _ Q S1 r1 q1⟩
theorem bj {id:String} {f:Fn} (hc:∃ r,CallR X (.builtin id) r/\iD T f r) (hg:Gl X x) (hm:X.mg x=none) (hv:bootBuiltins x=some (.builtin id)) (ha:ib T E X (e::es) as) (hn:x ≠ "__name__" := by decide) (hdb:(x == ("__debug__" : Str))=false:=by decide)
  (he:starEach (e::es) X.env=(false,eval e X.env)::starEach es X.env:=by rfl) (hpl:(backTo pos (starEach es X.env)).any (·.1)=false:=by rfl):aN T E X (.Call (.Name x p) (e::es) [] pos) (ax f as):=by
 obtain ⟨r,h1,h2⟩:=hc
 exact cT (wa h1 hg hm hv ha hn hdb he hpl) fun σ H Q q=>xH h2 q
theorem nt {id:String} {f:Fn} (hc:∃ r,CallR X (.type id) r/\iD T f r) (hg:Gl X x) (hm:X.mg x=none) (hv:bootBuiltins x=some (.type id)) (ha:ib T E X (e::es) as) (hn:x ≠ "__name__" := by decide) (hdb:(x == ("__debug__" : Str))=false:=by decide)
  (he:starEach (e::es) X.env=(false,eval e X.env)::starEach es X.env:=by rfl) (hpl:(backTo pos (starEach es X.env)).any (·.1)=false:=by rfl):aN T E X (.Call (.Name x p) (e::es) [] pos) (ax f as):=by
 obtain ⟨r,h1,h2⟩:=hc
 exact cT (Cf h1 hg hm hv ha hn hdb he hpl) fun σ H Q q=>xH h2 q
theorem b_len (hK:X.K=T.K):∃ r,CallR X (.builtin "len") r/\iD T az r:=by
 refine ⟨_,zer.or (zeq.or Do),fun ι h H xs us E Q S r q=>?_⟩
 unfold az at q
 split at q
 ·cases r with
  | cons r r' =>
   cases r'
   obtain ⟨rfl,n,_⟩:=dP r
   exact .inl ⟨_,rfl,n,q.now S (.int _)⟩
 ·cases r with
  | cons r r' =>
   cases r'
   obtain ⟨a,us,rfl,sq,rs⟩:=jl r
   exact .inr (.inl ⟨a,us,rfl,.inr (hK▸sq),by rw [<- rs.length];exact q.now S (.int _)⟩)
 ·cases r with
  | cons r r' =>
   cases r'
   obtain ⟨a,us,rfl,sq,rs⟩:=fz S r rfl
   exact .inr (.inl ⟨a,us,rfl,.inl (hK▸sq),by rw [<- rs.length];exact q.now S (.int _)⟩)
 ·rename_i n
  cases r with
  | cons r r' =>
   cases r'
   split at q
   ·rename_i xs hn
    obtain ⟨a,us,rfl,sq,rs⟩:=fz (xs:=xs) S r (by simp [dR,hn])
    exact .inr (.inl ⟨a,us,rfl,.inl (hK▸sq),by rw [<- rs.length];exact q.now S (.int _)⟩)
   ·rename_i kvs hn
    cases r with
    | @ref _ ad hr =>
     obtain ⟨o,e1,kus,rfl,rs⟩:=S.obj n _ ad hn hr
     exact .inr (.inr ⟨ad,kus,rfl,e1,by rw [<- Paired.length rs];exact q.now S (.int _)⟩)
   ·exact q.elim
 ·exact q.elim
theorem b_abs:∃ r,CallR X (.builtin "abs") r/\iD T kG r:=by
 refine ⟨_,BN,fun ι h H xs us E Q S r q=>?_⟩
 unfold kG at q
 split at q
 ·cases r with
  | cons r r' => cases r';rw [bX r];exact ⟨_,rfl,q.now S (.int _)⟩
 ·exact q.elim
theorem E4 (hc:X.calm=true:=by rfl):∃ r,CallR X (.builtin "max") r/\iD T rX r:=by
 refine ⟨_,BO hc,fun ι h H xs us E Q S r q=>?_⟩
 unfold rX at q
 split at q
 ·cases r with
  | cons r r' => cases r' with
   | cons r1 r2=>cases r2;rw [bX r,bX r1];exact ⟨_,_,rfl,q.now S (.int _)⟩
 ·exact q.elim
theorem E5 (hc:X.calm=true:=by rfl):∃ r,CallR X (.builtin "min") r/\iD T iC r:=by
 refine ⟨_,BP hc,fun ι h H xs us E Q S r q=>?_⟩
 unfold iC at q
 split at q
 ·cases r with
  | cons r r' => cases r' with
   | cons r1 r2=>cases r2;rw [bX r,bX r1];exact ⟨_,_,rfl,q.now S (.int _)⟩
 ·exact q.elim
theorem xI {ι:Ix} {H:Hp}:∀ {xs:List AV} {us:List V} {bs:List Bool},RVs T ι H xs us->lM xs=some bs->us=bs.map V.bl
 | _,_,_,.nil,e=>by cases e;rfl
 | _,_,bs,.cons (x:=x) r rs,e=>by
  unfold lM at e
  split at e
  ·rename_i hh;cases hh
  ·rename_i b r' hh
   cases hh
   obtain ⟨bs',e1,rfl⟩:=KU.mp e
   rw [ie r,xI rs e1];rfl
  ·cases e
theorem b_all (hK:X.K=T.K) (hc:X.calm=true:=by rfl):∃ r,CallR X (.builtin "all") r/\iD T fq r:=by
 refine ⟨_,Dx hc,fun ι h H xs us E Q S r q=>?_⟩
 unfold fq at q
 split at q
 ·split at q
  ·rename_i bs hb
   cases r with
   | cons r r' =>
    cases r'
    obtain ⟨a,us,rfl,sq,rs⟩:=fz S r rfl
    rw [xI rs hb] at sq;exact ⟨a,bs,rfl,hK▸sq,q.now S (.bl _)⟩
  ·exact q.elim
 ·exact q.elim
theorem b_int:∃ r,CallR X (.type "int") r/\iD T fv r:=by
 refine ⟨_,BQ,fun ι h H xs us E Q S r q=>?_⟩
 unfold fv at q
 split at q
 ·cases r with
  | cons r r' => cases r';rw [bX r];exact .inl ⟨_,rfl,q.now S (.int _)⟩
 ·cases r with
  | cons r r' => cases r';rw [ie r];exact .inr ⟨_,rfl,q.now S (.int _)⟩
 ·exact q.elim
theorem E6 (hK:X.K=T.K):∃ r,CallR X (.type "list") r/\iD T fZ r:=by
 refine ⟨_,CH,fun ι h H xs us E Q S r q=>?_⟩
 unfold fZ at q
 split at q
 ·cases r with
  | cons r r' =>
   cases r'
   obtain ⟨a,us,rfl,sq,rs⟩:=jl r
   exact ⟨a,us,rfl,.inr (hK▸sq),fun l n=>oZ S rs n q⟩
 ·cases r with
  | cons r r' =>
   cases r'
   obtain ⟨a,us,rfl,sq,rs⟩:=fz S r rfl
   exact ⟨a,us,rfl,.inl (hK▸sq),fun l n=>oZ S rs n q⟩
 ·cases r with
  | cons r r' =>
   cases r'
   split at q
   ·rename_i xs hn
    obtain ⟨a,us,rfl,sq,rs⟩:=fz (xs:=xs) S r (by simp [dR,hn])
    exact ⟨a,us,rfl,.inl (hK▸sq),fun l n=>oZ S rs n q⟩
   ·exact q.elim
 ·exact q.elim
abbrev ny:List String:=["NoneType", "bool", "int", "str", "list", "tuple", "dict"]
theorem xJ (K:PySem.W.Frag):∀ n∈ny,∀ t∈ny,PySem.W.kitOne K (.type n) (.type t)=some (n == t || (t == "int" && n == "bool")):=by
 intro n hn t ht
 simp only [ny,KJ,List.not_mem_nil,or_false] at hn ht
 rcases hn with rfl | rfl | rfl | rfl | rfl | rfl | rfl<;>rcases ht with rfl | rfl | rfl | rfl | rfl | rfl | rfl<;>rfl
theorem E7 {c:V} {cv:Value} (rc:∀ u,RelV c u->u=cv) :
  CallR X (.builtin "isinstance") (fun xs H Q=>∃ a us r,xs=[.ref a,c]/\SqL X.K H a us/\PySem.W.kitOne X.K (.type "list") cv=some r/\Q (.bl r) H):=by
 intro pins s σ H xs us Q I r h
 obtain ⟨a,ws,k,rfl,sq,hk,q⟩:=h
 obtain ⟨u,w',rfl,rx,ry⟩:=oI r
 obtain rfl:=rc _ ry
 obtain rfl:u=Value.ref a:=rx
 obtain ⟨its,_,⟨o,n,e1,e2,_⟩,_⟩:=I.list sq
 exact Lj M0 I.kIn ⟨_,e1,e2⟩ hk (fun z=>nomatch z) fun tk=>⟨.bl k,H,I.tok _,rfl,q⟩
theorem E8 {ι:Ix} {h:AH} {H:Hp} {v:AV} {u:V} {n:String} (S:Sim T ι h H) (r:RV T ι H v u) (e:rY v h=some n):(cX T.K H u (.type n)\/(n = "list" /\ ∃ a us,u = .ref a/\SqL T.K H a us))/\n∈ny:=by
 unfold rY at e
 cases r with
 | non=>cases e;exact ⟨.inl .non,by decide⟩
 | bl b=>cases e;exact ⟨.inl (.bl b),by decide⟩
 | int b=>cases e;exact ⟨.inl (.int b),by decide⟩
 | str n o=>cases e;exact ⟨.inl (.str _),by decide⟩
 | tup n q r=>cases e;exact ⟨.inl (.tup q),by decide⟩
 | fl n q r=>cases e;exact ⟨.inr ⟨rfl,_,_,rfl,.inl q⟩,by decide⟩
 | kfl q r=>cases e;exact ⟨.inr ⟨rfl,_,_,rfl,.inr q⟩,by decide⟩
 | @ref k a q =>
  dsimp only at e
  split at e
  ·rename_i xs hn
   cases e
   obtain ⟨o,e1,us,rfl,rs⟩:=S.obj k _ a hn q
   exact ⟨.inl (.lst e1),by decide⟩
  ·rename_i t kvs hn
   cases e
   obtain ⟨o,e1,r⟩:=S.obj k _ a hn q
   cases t with
   | false=>obtain ⟨kus,rfl,rs⟩:=r;exact ⟨.inl (.dK e1),by decide⟩
   | true=>obtain ⟨kus,rfl,rs⟩:=r;exact ⟨.inl (.dT e1),by decide⟩
  ·cases e
 | exc _ _ _=>cases e
theorem jw {t:Str} {id:String} {p2:Pos} (hK:X.K=T.K) (hg:Gl X "isinstance") (hm:X.mg "isinstance" = none) (ha:aN T E X a sa) (hgt:Gl X t) (hmt:X.mg t=none) (hvt:bootBuiltins t=some (.type id)) (hid:id∈ny) (hnt:t ≠ "__name__" := by decide) (hdt:(t == ("__debug__" : Str))=false:=by decide)
  (he:starEach [a,.Name t p2] X.env=(false,eval a X.env)::starEach [.Name t p2] X.env:=by rfl):aN T E X (.Call (.Name "isinstance" p) [a,.Name t p2] [] pos) (cV id sa):=by
 refine cT (wa ((Du (X:=X) (wH id)).or (E7 (X:=X) (wH id))) hg hm PyProof.Rows.boot_isinstance (qY ha (qY (AK (v:=.ty id) hgt hmt hvt rfl hnt hdt) vX) he) (he:=he)) fun σ H Q ⟨ι,h,en,S,er,q⟩=>⟨ι,h,en,S,er,q.bind fun v h1 ι1 H1 u g1 S1 r1 q1=>?_⟩
 split at q1
 ·rename_i n hn
  obtain ⟨ty,hmem⟩:=E8 S1 r1 hn
  rcases ty with ty | ⟨rfl,ad,us,rfl,sq⟩
  ·exact .inl ⟨u,.type n,_,rfl,hK▸ty,xJ _ n hmem id hid,q1.now S1 (.bl _)⟩
  ·exact .inr ⟨ad,us,_,rfl,hK▸sq,xJ _ _ hmem id hid,q1.now S1 (.bl _)⟩
 ·exact q1.elim
def gU (T:Tb) (f:FM) (r:V->List V->Hp->VK->Prop):Prop:=∀ (ι:Ix) (h:AH) (H:Hp) (x:AV) (xs:List AV) (u:V) (us:List V) (E:XK) (Q:VK),Sim T ι h H->RV T ι H x u->RVs T ι H xs us->Post T ι H E (RV T) (f x xs h) Q->r u us H Q
def jx (T:Tb) (chk:AV->AH->Bool) (n:String):Prop:=∀ (ι:Ix) (h:AH) (H:Hp) (x:AV) (u:V),Sim T ι h H->RV T ι H x u->chk x h=true->oN T.K n u H
theorem cD:jx T aL "list" := fun ι h H x u S r e=>by
 obtain ⟨xs,e1⟩:=KR.mp e
 obtain ⟨a,us,rfl,sq,rs⟩:=fz S r e1
 exact .inl ⟨rfl,us,sq⟩
theorem nz:jx T kH "str" := fun ι h H x u S r e=>by
 unfold kH at e
 split at e
 ·obtain ⟨rfl,_⟩:=dP r;rfl
 ·cases e
variable {o:Expr} {so:SE} {name:Str} {apos:Pos} {chk:AV->AH->Bool} {f:FM} {tn id:String}
theorem aZ (hK:X.K=T.K) (pa:PlainAttrs tn) (slot:Slot tn name id) (hty:typeOf (.builtin id)=pure (.type "method_descriptor")) (hm:∃ r,eg X id r/\gU T f r) (hc:jx T chk tn) (ho:aN T E X o so) (ha:ib T E X (e::es) as)
  (hbase:attributeBase o name X.env (eval o X.env)=eval o X.env:=by rfl)
  (hfew:((backTo pos (starEach (e::es) X.env)).all (fun x=>!x.1) && (backToKw pos (keywordEach [] X.env)).all (fun x=>x.1.isSome)
   && decide ((e::es).length+([]:List Keyword).length+(if ([]:List Keyword).isEmpty then 0 else 1)<30))=true:=by rfl)
  (hline:(apos.endLine == pos.line)=true:=by rfl) (hs:starEach (e::es) X.env=(false,eval e X.env)::starEach es X.env:=by rfl) (hplain:(backTo pos (starEach es X.env)).any (·.1)=false:=by rfl) :
  aN T E X (.Call (.Attribute o name apos) (e::es) [] pos) (cF chk f so as):=by
 obtain ⟨r,h1,h2⟩:=hm
 refine cT (CK pa slot hty h1 ho ha hbase hfew hline hs hplain) fun σ H Q ⟨ι,h,en,S,er,q⟩=>⟨ι,h,en,S,er,q.bind fun x h1 ι1 H1 u g1 S1 r1 q1=>?_⟩
 by_cases hx:chk x h1=true
 ·rw [Ku hx] at q1
  exact ⟨hK▸hc ι1 h1 H1 x u S1 r1 hx,ι1,h1,en,S1,er.mono g1,q1.bind fun xs h2' ι2 H2 us g2 S2 r2 q2=>h2 ι2 h2' H2 x xs u us _ Q S2 (r1.mono g2) r2 q2⟩
 ·rw [KF hx] at q1;exact q1.elim
theorem kK (hK:X.K=T.K) (pa:PlainAttrs tn) (slot:Slot tn name id) (hty:typeOf (.builtin id)=pure (.type "method_descriptor")) (hm:∃ r,eg X id r/\gU T f r) (hc:jx T chk tn) (ho:aN T E X o so)
  (hbase:attributeBase o name X.env (eval o X.env)=eval o X.env:=by rfl) (hline:(apos.endLine == pos.line)=true:=by rfl):aN T E X (.Call (.Attribute o name apos) [] [] pos) (fy chk f so):=by
 obtain ⟨r,h1,h2⟩:=hm
 refine cT (CJ pa slot hty h1 ho hbase hline) fun σ H Q ⟨ι,h,en,S,er,q⟩=>⟨ι,h,en,S,er,q.bind fun x h1 ι1 H1 u g1 S1 r1 q1=>?_⟩
 by_cases hx:chk x h1=true
 ·rw [Ku hx] at q1
  exact ⟨hK▸hc ι1 h1 H1 x u S1 r1 hx,h2 ι1 h1 H1 x [] u [] _ Q S1 r1 .nil q1⟩
 ·rw [KF hx] at q1;exact q1.elim
theorem dG:∃ r,eg X "list.append" r/\gU T bo r:=by
 refine ⟨_,rn,fun ι h H x xs u us E Q S rx rs q=>?_⟩
 unfold bo at q
 split at q
 ·rename_i n y
  split at q
  ·rename_i ys hn
   split at q
   ·rename_i hl
    cases rx with
    | @ref _ ad hr =>
     cases rs with
     | @cons _ uu _ _ r r' =>
      cases r'
      obtain ⟨o,e1,ws,rfl,rw_⟩:=S.obj n _ ad hn hr
      have g:=S.growSet (u:=.lst (ws++[uu])) hr
      exact ⟨ad,ws,_,rfl,rfl,e1,by rw [<- rw_.length];exact hl,q ι _ _ g (S.set hr ⟨_,rfl,(rw_.mono g).append (.cons (r.mono g) .nil)⟩) .non⟩
   ·exact q.elim
  ·exact q.elim
 ·exact q.elim
theorem nA:∃ r,eg X "list.pop" r/\gU T bc r:=by
 refine ⟨_,CT,fun ι h H x xs u us E Q S rx rs q=>?_⟩
 unfold bc at q
 split at q
 ·rename_i n
  split at q
  ·rename_i ys hn
   split at q
   ·rename_i y hy
    cases rx with
    | @ref _ ad hr =>
     cases rs
     obtain ⟨o,e1,ws,rfl,rw_⟩:=S.obj n _ ad hn hr
     have g:=S.growSet (u:=.lst ws.dropLast) hr
     obtain ⟨v,e2,r2⟩:=rw_.get hy
     refine ⟨ad,ws,v,rfl,rfl,e1,by rw [<- rw_.length];exact e2,q ι _ _ g (S.set hr ⟨_,rfl,?_⟩) (r2.mono g)⟩
     have z:=(rw_.mono g).take (ys.length-1)
     have e3:ys.take (ys.length-1)=ys.dropLast:=NJ.symm
     have e4:ws.take (ys.length-1)=ws.dropLast:=by rw [rw_.length];exact NJ.symm
     rw [e3,e4] at z;exact z
   ·exact q.elim
  ·exact q.elim
 ·exact q.elim
theorem E9:∃ r,eg X "str.count" r/\gU T rZ r:=by
 refine ⟨_,Dw,fun ι h H x xs u us E Q S rx rs q=>?_⟩
 unfold rZ at q
 split at q
 ·cases rs with
  | cons r r' =>
   cases r'
   obtain ⟨rfl,_⟩:=dP rx
   obtain ⟨rfl,_⟩:=dP r
   exact ⟨_,_,rfl,rfl,q.now S (.int _)⟩
 ·exact q.elim
theorem xK {ι:Ix} {H:Hp}:∀ {xs:List AV} {us:List V} {zs:List Str},RVs T ι H xs us->mX xs=some zs->us=zs.map V.str/\∀ z∈zs,z.cps.all (· < 0x110000)=true
 | _,_,_,.nil,e=>by cases e;exact ⟨rfl,by simp⟩
 | _,_,zs,.cons (x:=x) r rs,e=>by
  unfold mX at e
  split at e
  ·rename_i hh;cases hh
  ·rename_i b r' hh
   cases hh
   obtain ⟨zs',e1,rfl⟩:=KU.mp e
   obtain ⟨rfl,_,o⟩:=dP r
   obtain ⟨h1,h2⟩:=xK rs e1
   refine ⟨by rw [h1];rfl,fun z hz=>?_⟩
   rcases KJ.mp hz with rfl | hz
   ·exact o
   ·exact h2 z hz
  ·cases e
theorem xM (hK:X.K=T.K):∃ r,eg X "str.join" r/\gU T iT r:=by
 refine ⟨_,DT,fun ι h H x xs u us E Q S rx rs q=>?_⟩
 unfold iT at q
 split at q
 ·rename_i z y
  split at q
  ·rename_i hz
   subst hz;split at q
   ·rename_i ys hy
    split at q
    ·rename_i zs hzs
     split at q
     ·rename_i hl
      cases rs with
      | cons r r' =>
       cases r'
       obtain ⟨rfl,_⟩:=dP rx
       obtain ⟨a,ws,rfl,sq,rw_⟩:=fz S r hy
       obtain ⟨h1,h2⟩:=xK rw_ hzs
       subst h1;refine ⟨a,zs,rfl,rfl,hK▸sq,hl,fun rr hrr=>?_⟩
       have e:rr=⟨((zs.map fun x:Str=>x.cps.toList).flatten).toArray⟩:=by
        cases rr
        simp only [Str.mk.injEq]
        rw [<- hrr]
       rw [e];refine q.now S (.str ?_ ?_)
       ·show ((zs.map fun x:Str=>x.cps.toList).flatten).toArray.size<=sizeLine
        rw [Ks];exact Kn hl (by decide)
       ·rw [Ln]
        intro c hc
        simp only [List.mem_toArray,List.mem_flatten,Nt] at hc
        obtain ⟨l,⟨zz,hz1,rfl⟩,hc2⟩:=hc
        exact Ln.mp (h2 zz hz1) c (by simpa using hc2)
     ·exact q.elim
    ·exact q.elim
   ·exact q.elim
  ·exact q.elim
 ·exact q.elim
end
end Sm
namespace Sm
open PySem PySem.Spec L2
theorem Out.bind_assoc {α β γ:Type} (o:Out α) (f:α->AH->Out β) (g:β->AH->Out γ):(o.bind f).bind g=o.bind fun a h=>(f a h).bind g:=by cases o<;>rfl
section
variable {T:Tb} {E:St->XK} {X:Cx} {pos p2:Pos} {a b:Expr} {sa sb:SE}
def tO (T:Tb) (E:St->XK):Option SE->TO
 | none=>wd
 | some s=>we (tE T E s)
abbrev pq (T:Tb) (E:St->XK) (X:Cx) (e:Option Expr) (s:Option SE):Prop:=PO X e (tO T E s)
theorem gw:pq T E X none none:=Cm
theorem fM (h:aN T E X a sa):pq T E X (some a) (some sa):=Cn h
@[simp] def pA (s:Option SE):En->AH->Out (Option Int):=fun en h=>match s with
 | none=>.ok none h
 | some l=>(l en h).bind fun v h2=>match v with | .int i=>.ok (some i) h2 | _=>.bad
theorem xN {s:Option SE} {σ:St} {H:Hp} {ι:Ix} {h:AH} {en:En} {γ δ:Type} {R':Ix->Hp->γ->δ->Prop} {Q0:δ->Hp->Prop} {f:Option Int->AH->Out γ} {Q:Option Int->Hp->Prop} (S:Sim T ι h H) (er:ER T ι H en σ) (q:Post T ι H (E σ) R' ((pA s en h).bind f) Q0)
  (k:∀ l h' ι' H',Grow ι H ι' H'->Sim T ι' h' H'->Post T ι' H' (E σ) R' (f l h') Q0->Q l H'):tO T E s σ H Q:=by
 cases s with
 | none=>exact k none h ι H S.refl S q
 | some l =>
  refine ⟨ι,h,en,S,er,?_⟩
  unfold pA at q
  dsimp only at q
  rw [Out.bind_assoc] at q;refine q.bind fun v h1 ι1 H1 u g1 S1 r1 q1=>?_
  split at q1
  ·rw [bX r1]
   exact ⟨_,rfl,k _ _ ι1 H1 g1 S1 q1⟩
  ·exact q1.elim
@[simp] def cG (x:AV) (l u:Option Int) (h:AH):Out AV:=match x with
 | .fl xs=>.ok (.fl (dO xs l u)) h
 | .str z=>.ok (.str (bZ z l u)) h
 | .tup xs=>if ¬ (HT.sIx xs.length 0 l=0/\HT.sIx xs.length xs.length u=xs.length) then .ok (.tup (dO xs l u)) h else .bad
 | .ref n=>match h[n]? with
  | some (.lst xs)=>.ok (.fl (dO xs l u)) h
  | _=>.bad
 | _=>.bad
@[simp] def bI (a:SE) (lo hi:Option SE):SE:=fun en h=>(a en h).bind fun x h1=>(pA lo en h1).bind fun l h2=>(pA hi en h2).bind fun u h3=>cG x l u h3
theorem RVs.cut {ι:Ix} {H:Hp} {xs:List AV} {us:List V} {lo hi:Option Int} (r:RVs T ι H xs us):RVs T ι H (dO xs lo hi) (fg us lo hi):=by
 unfold dO fg
 rw [<- r.length];exact (r.drop _).take _
theorem Fb {ι:Ix} {H:Hp} {z:Str} {l u:Option Int} (hz:z.length<=sizeLine) (hc:z.cps.all (· < 0x110000)=true):RV T ι H (.str (bZ z l u)) (.str (bZ z l u)):=by
 refine .str ?_ ?_
 ·refine Kn ?_ hz
  simp [bZ,Str.length];lia
 ·simp only [bZ,List.all_toArray,La]
  intro c h
  have hm:c∈z.cps.toList:=Lu (Lv h)
  exact (Ln.mp hc) c (by simpa using hm)
theorem gc {lo hi:Option Expr} {sl sh:Option SE} (hK:X.K=T.K) (ha:aN T E X a sa) (hl:pq T E X lo sl) (hh:pq T E X hi sh):aN T E X (.Subscript a (.Slice lo hi none p2) pos) (bI sa sl sh):=by
 refine cT (Cp (zi2.or (sl_tup.or D7)) ha hl hh) fun σ H Q ⟨ι,h,en,S,er,q⟩=>⟨ι,h,en,S,er,q.bind fun x h1 ι1 H1 u g1 S1 r1 q1=>?_⟩
 refine xN (E:=E) S1 (er.mono g1) q1 fun l h2 ι2 H2 g2 S2 q2=>xN (E:=E) S2 (er.mono (g1.trans g2)) q2 fun w h3 ι3 H3 g3 S3 q3=>?_
 have r3:=r1.mono (g2.trans g3)
 unfold cG at q3
 split at q3
 ·obtain ⟨ad,us,rfl,sq,rs⟩:=fz S3 r3 rfl
  exact .inl ⟨ad,us,rfl,hK▸sq,fun p n=>oY S3 rs.cut n q3⟩
 ·obtain ⟨rfl,hz,hc⟩:=dP r3
  exact .inr (.inr ⟨_,rfl,hz,q3.now S3 (Fb hz hc)⟩)
 ·rename_i xs
  split at q3
  ·rename_i hz
   obtain ⟨ad,us,rfl,sq,rs⟩:=jl r3
   exact .inr (.inl ⟨ad,us,rfl,hK▸sq,by rw [<- rs.length];exact hz,fun p n=>r8 S3 rs.cut n q3⟩)
  ·exact q3.elim
 ·split at q3
  ·rename_i xs hn
   obtain ⟨ad,us,rfl,sq,rs⟩:=fz (xs:=xs) S3 r3 (by simp [dR,hn])
   exact .inl ⟨ad,us,rfl,hK▸sq,fun p n=>oY S3 rs.cut n q3⟩
  ·exact q3.elim
 ·exact q3.elim
theorem fB {x:Str} {i:Int} {p:Pos} (hg:Gl X x) (hm:∃ t,X.mg x=some (.int i t)) (hd:(x == ("__debug__" : Str))=false:=by decide):aN T E X (.Name x p) (ai (.int i)):=by
 obtain ⟨t,hm⟩:=hm
 exact Eh hg hm hd
end
def DG (K:PySem.W.Frag) (mg:Str->Option Value) (x:Str) (st:Stmt) (ps:List Str):Prop:=∃ f fd,mg x=some (.ref f)/\PySem.W.keepIn K (.ref f)=true/\Binds K fd ps []/\Fun K x x st f fd
end Sm
namespace Sm
open PySem PySem.Spec L2
def sE (N:List Str) (sc:Scope) (x₁:Str) (jf:List (Nat×Str)) (scope:Scope):Bool :=
 decide (x₁::jf.map (·.2)).Nodup && (scope.names.lookup x₁ == some .local) && jf.all (fun p=>N[p.1]? == some p.2) && jf.all (fun p=>scope.names.lookup p.2 == some .free) && (scope.kind == .function) &&
 scope.names.all (fun y=>y.2 != .cell) && scope.names.all (fun y=>y.2 != .free || sc.names.lookup y.1 == some .cell || sc.names.lookup y.1 == some .free) && scope.names.all (fun y=>y.2 != .local || scope.names.lookup y.1 == some .local)
theorem jy {X:Cx} {N:List Str} {sc scope:Scope} {x₁:Str} {jf:List (Nat×Str)} (hN:X.N=N) (hk:∀ x,X.env.kindOf x=sc.names.lookup x) (h:sE N sc x₁ jf scope=true):eU X x₁ jf scope:=by
 unfold sE at h
 simp only [Lr,M7,La,Od,bne_iff_ne,Bool.or_eq_true] at h
 obtain ⟨⟨⟨⟨⟨⟨⟨h1,h2⟩,h3⟩,h4⟩,h5⟩,h6⟩,h7⟩,h8⟩:=h
 refine ⟨h1,h2,fun p hp=>by rw [hN];exact h3 p hp,h4,h5,fun y hy=>h6 y hy,fun y hy e=>?_,fun y hy e=>?_⟩
 ·rw [hk]
  rcases h7 y hy with (z | z) | z
  ·exact absurd e z
  ·exact .inl z
  ·exact .inr z
 ·rcases h8 y hy with z | z
  ·exact absurd e z
  ·exact z
end Sm
namespace Sm
open PySem PySem.Spec L2
theorem sF {T:Tb} {ι:Ix} {H:Hp}:∀ ns:List Int,RVs T ι H (ns.map AV.int) (ns.map V.int)
 | []=>.nil
 | n::ns=>.cons (.int n) (sF ns)
theorem sG {T:Tb} {H:Hp}:Sim T ⟨[],[]⟩ [] H:=⟨rfl,MU,(fun _ z=>nomatch z),(fun i o a e=>by simp at e)⟩
def sH (K:PySem.W.Frag):Sp:=fun vs H Q _=>∃ (a:Addr) (ns:List Int),vs=[.ref a]/\SqL K H a (ns.map V.int)/\ns.length<=63/\∀ H',Q (.bl true) H'
theorem Fc {T:Tb} {F:Fn} (ht:∀ ns:List Int,ns.length<=63->∃ h',F [.fl (ns.map AV.int)] [] = .ok (.bl true) h'):∀ vs H Q E,sH T.K vs H Q E->jv T F vs H Q E:=by
 rintro vs H Q E ⟨a,ns,rfl,hs,hl,q⟩
 obtain ⟨h',e⟩:=ht ns hl
 refine ⟨⟨[],[]⟩,[],[.fl (ns.map AV.int)],sG,.cons ?_ .nil,?_⟩
 ·rcases hs with hs | hs
  ·exact .fl (by simp [Ix.all]) hs (sF ns)
  ·exact .kfl hs (sF ns)
 ·rw [e]
  intro ι' H' u g S r
  rw [ie r];exact q H'
theorem Fd {P:Program} {w:World} {outer:List Env} {H:Hp} {s s':Shared} {e:Value} (h:du P w outer H s (fun _ _ _=>False) e s'):False:=by
 obtain ⟨_,_,_,_,_,_,_,_,_,_,_,_,_,_,q⟩:=h
 exact q
end Sm
namespace Sm
open PySem PySem.Spec L2
@[simp] def nB:List AV->Option (List Int)
 | []=>some []
 | .int i::r=>(nB r).map (i :: ·)
 | _=>none
@[simp] def gW:Fn:=fun args h=>match args with
 | [.fl xs]=>match nB xs with
  | some ns=>.ok (.int ns.sum) h
  | none=>.bad
 | _=>.bad
@[simp] def jz (a b c:SE):SI:=fun en h=>(a en h).bind fun v h1=>(b en h1).bind fun w h2=>(c en h2).bind fun z h3=>match v,w,z with
 | .int i,.int j,.int k=>if i.natAbs<2 ^ 40/\j.natAbs<2 ^ 40/\0<k/\k<2 ^ 20 then .ok ((List.range (if i<j then (j-i-1) / k+1 else 0:Int).toNat).map (fun m:Nat=>.int (i+m*k)),none) h3 else .bad
 | _,_,_=>.bad
@[simp] def iE:F2:=fun x y h=>match x,y with
 | .bl a,.bl b=>.ok (.bl (a == b)) h
 | _,_=>.bad
section
variable {T:Tb} {E:St->XK} {X:Cx} {pos p:Pos} {e a b c:Expr} {sa sb sc:SE}
theorem xO {ι:Ix} {H:Hp}:∀ {xs:List AV} {us:List V} {bs:List Int},RVs T ι H xs us->nB xs=some bs->us=bs.map V.int
 | _,_,_,.nil,e=>by cases e;rfl
 | _,_,bs,.cons (x:=x) r rs,e=>by
  unfold nB at e
  split at e
  ·rename_i hh;cases hh
  ·rename_i b r' hh
   cases hh
   obtain ⟨bs',e1,rfl⟩:=KU.mp e
   rw [bX r,xO rs e1];rfl
  ·cases e
theorem b_sum (hK:X.K=T.K) (hc:X.calm=true:=by rfl):∃ r,CallR X (.builtin "sum") r/\iD T gW r:=by
 refine ⟨_,DU hc,fun ι h H xs us E Q S r q=>?_⟩
 unfold gW at q
 split at q
 ·split at q
  ·rename_i bs hb
   cases r with
   | cons r r' =>
    cases r'
    obtain ⟨a,us,rfl,sq,rs⟩:=fz S r rfl
    rw [xO rs hb] at sq;exact ⟨a,bs,rfl,hK▸sq,q.now S (.int _)⟩
  ·exact q.elim
 ·exact q.elim
theorem Fe {ι:Ix} {H:Hp} {lo c:Int} {n:Nat}:jt T (je lo c n) ι H ((List.range n).map (fun m:Nat=>AV.int (lo+m*c))) none:=by
 constructor
 ·intro i ι' h' H' y g S _ e
  rw [K6] at e;obtain ⟨m,e1,rfl⟩:=KU.mp e
  have hi:i<n:=by
   have:=(Kh.mp e1).1
   simpa using this
  rw [MN hi] at e1
  cases e1
  refine ⟨hi,?_⟩
  rintro u H2 ⟨rfl,rfl⟩
  exact ⟨S.refl,S,.int _⟩
 ·intro i ι' h' H' g S _ hl
  have hl':n<=i:=by simpa using hl
  exact hl'
theorem xP {tg:Expr} {p:Pos} (hg:Gl X "range") (hm:X.mg "range" = none) (ha:aN T E X a sa) (hb:aN T E X b sb) (hc:aN T E X c sc) (hs:starEach [a,b,c] X.env=[(false,eval a X.env),(false,eval b X.env),(false,eval c X.env)]:=by rfl) (hs2:starEach [b,c] X.env=[(false,eval b X.env),(false,eval c X.env)]:=by rfl) (hs3:starEach [c] X.env=[(false,eval c X.env)]:=by rfl) :
  kI T X tg (.Call (.Name "range" p) [a,b,c] [] pos) (jz sa sb sc) :=
 ni (D3 hg hm (ak ha (ak hb (ak hc au hs3) (by rw [hs2,hs3])) (by rw [hs,hs2])) hs hs2) fun σ H R ⟨ι,h,en,S,er,q⟩=>by
  unfold jz at q
  refine ⟨ι,h,en,S,er,?_⟩
  unfold aj
  cases e:sa en h with
  | bad=>rw [e] at q;exact q
  | ex c h1=>rw [e] at q;exact q.elim
  | ok v h1 =>
   rw [e] at q;dsimp only [Out.bind] at q ⊢
   cases e':sb en h1 with
   | bad=>rw [e'] at q;exact q
   | ex c h1=>rw [e'] at q;exact q.elim
   | ok v' h2 =>
    rw [e'] at q;dsimp only at q ⊢
    cases e'':sc en h2 with
    | bad=>rw [e''] at q;exact q
    | ex c h1=>rw [e''] at q;exact q.elim
    | ok v'' h3 =>
     rw [e''] at q;dsimp only at q
     intro ι1 H1 u g1 S1 r1
     split at q
     ·rename_i hx
      split at hx
      ·split at hx
       ·rename_i hb
        cases hx
        cases r1 with
        | cons r r' =>
         cases r' with
         | cons r2 r3 =>
          cases r3 with
          | cons r4 r5 =>
           cases r5
           rw [bX r,bX r2,bX r4];exact ⟨_,_,_,rfl,hb,q ι1 H1 _ g1 S1 Fe⟩
       ·cases hx
      ·cases hx
     ·exact q.elim
theorem pB {sts:List Stmt} {E:St->XK}:dc T E X sts (fun _ _=>.bad):=fun pins s σ H D I ⟨ι,h,en,S,er,q⟩=>q.elim
theorem Ff:Op T X (compareOp .Is) iE:=by
 refine ⟨_,D8,fun ι h H x y u w E Q S rx ry p=>?_⟩
 unfold iE at p
 split at p
 ·rw [ie rx,ie ry];exact ⟨_,_,rfl,rfl,p.now S (.bl _)⟩
 ·exact p.elim
end
theorem Fg:∀ {us:List Value},us.length=1->∃ a:Value,us=[a]
 | [a],_=>⟨a,rfl⟩
theorem Fh:∀ {us:List Value},us.length=2->∃ a b:Value,us=[a,b]
 | [a,b],_=>⟨a,b,rfl⟩
theorem Fi:∀ {us:List Value},us.length=3->∃ a b c:Value,us=[a,b,c]
 | [a,b,c],_=>⟨a,b,c,rfl⟩
theorem Fj:∀ {us:List Value},us.length=4->∃ a b c d:Value,us=[a,b,c,d]
 | [a,b,c,d],_=>⟨a,b,c,d,rfl⟩
@[simp] def gy:FM:=fun x vs h=>match x,vs with
 | .ref n,[.ref k]=>match h[n]?,h[k]? with
  | some (.lst xs),some (.lst ys)=>if xs.length+ys.length<=sizeLine then .ok .non (h.set n (.lst (xs++ys))) else .bad
  | _,_=>.bad
 | _,_=>.bad
theorem sI {T:Tb} {X:Cx}:∃ r,eg X "list.extend" r/\gU T gy r:=by
 refine ⟨_,CS,fun ι h H x xs u us E Q S rx rs q=>?_⟩
 unfold gy at q
 split at q
 ·rename_i n k
  split at q
  ·rename_i ys zs hn hk
   split at q
   ·rename_i hl
    cases rx with
    | @ref _ ad hr =>
     cases rs with
     | @cons _ uu _ _ r r' =>
      cases r'
      cases r with
      | @ref _ bd hb =>
       obtain ⟨o,e1,ws,rfl,rw_⟩:=S.obj n _ ad hn hr
       obtain ⟨o2,e2,ws2,rfl,rw2⟩:=S.obj k _ bd hk hb
       have g:=S.growSet (u:=.lst (ws++ws2)) hr
       exact ⟨ad,bd,ws,ws2,rfl,rfl,e1,e2,by rw [<- rw_.length,<- rw2.length];exact hl,q ι _ _ g (S.set hr ⟨_,rfl,(rw_.mono g).append (rw2.mono g)⟩) .non⟩
   ·exact q.elim
  ·exact q.elim
 ·exact q.elim
def cf:Nat:=100000000
end Sm
namespace Sm
open PySem PySem.Spec L2
def fN {α:Type} (c:En->AH->Out α):En->AH->Out α:=fun en h=>match en with
 | some (.tup [y,z])::r=>c (some y::some z::r) h
 | _=>.bad
theorem Fk {α:Type} (c:En->AH->Out α) (x:AV):(∃ y z,x = .tup [y,z])\/∀ r h,fN c (some x::r) h = .bad:=by
 match x with
 | .tup [y,z]=>exact .inl ⟨y,z,rfl⟩
 | .tup []=>exact .inr fun _ _=>rfl
 | .tup [_]=>exact .inr fun _ _=>rfl
 | .tup (_::_::_::_)=>exact .inr fun _ _=>rfl
 | .non=>exact .inr fun _ _=>rfl
 | .exc _=>exact .inr fun _ _=>rfl
 | .bl _=>exact .inr fun _ _=>rfl
 | .int _=>exact .inr fun _ _=>rfl
 | .str _=>exact .inr fun _ _=>rfl
 | .fl _=>exact .inr fun _ _=>rfl
 | .ref _=>exact .inr fun _ _=>rfl
@[simp] theorem Ka {α:Type} (c:En->AH->Out α) (y z:AV) (r:En) (h:AH):fN c (some (.tup [y,z])::r) h=c (some y::some z::r) h:=rfl
section
variable {T:Tb} {E:St->XK} {X:Cx} {pos px p1 p2:Pos} {kk:Nat} {iter elt:Expr} {ifs:List Expr} {scope:Scope} {x₁ x₂:Str} {jf:List (Nat×Str)} {it:SI} {cc:SB} {ce:SE}
theorem ER.comp2 {ι:Ix} {H:Hp} {en:En} {σ:St} {x y:AV} {u v:V} {jf:List (Nat×Str)} (er:ER T ι H en σ) (r:RV T ι H x u) (r2:RV T ι H y v):ER T ι H (some x::some y::(jf.map (·.1)).map fun j=>(en[j]?).join) (fh (some u) (some v) jf σ):=by
 obtain ⟨h1,h2⟩:=ER.comp (jf:=jf) er r2
 refine ⟨by simp [fh],fun i v e=>?_⟩
 cases i with
 | zero=>simp at e;subst e;exact ⟨u,rfl,r⟩
 | succ i=>exact h2 i v (by simpa using e)
structure gz (X:Cx) (x₁ x₂:Str) (jf:List (Nat×Str)) (scope:Scope):Prop where
 hN:(x₁::x₂::jf.map (·.2)).Nodup
 hx:scope.names.lookup x₁=some .local
 hx2:scope.names.lookup x₂=some .local
 hjf:∀ p∈jf,X.N[p.1]? = some p.2
 hjl:∀ p∈jf,scope.names.lookup p.2=some .free
 hkind:scope.kind = .function
 hcell:∀ y∈scope.names,y.2 ≠ .cell
 hfr:∀ y∈scope.names,y.2 = .free->X.env.kindOf y.1=some .cell\/X.env.kindOf y.1=some .free
 hnames:∀ y∈scope.names,y.2 = .local->scope.names.lookup y.1=some .local
end
def xQ (N:List Str) (sc:Scope) (x₁ x₂:Str) (jf:List (Nat×Str)) (scope:Scope):Bool :=
 sE N sc x₁ jf scope && decide (x₁::x₂::jf.map (·.2)).Nodup && (scope.names.lookup x₂ == some .local)
theorem Fl {X:Cx} {N:List Str} {sc scope:Scope} {x₁ x₂:Str} {jf:List (Nat×Str)} (hN:X.N=N) (hk:∀ x,X.env.kindOf x=sc.names.lookup x) (h:xQ N sc x₁ x₂ jf scope=true):gz X x₁ x₂ jf scope:=by
 unfold xQ at h
 simp only [Lr,M7,Od] at h
 obtain ⟨⟨h1,h2⟩,h3⟩:=h
 have C:=jy hN hk h1
 exact ⟨h2,C.hx,h3,C.hjf,C.hjl,C.hkind,C.hcell,C.hfr,C.hnames⟩
section
variable {T:Tb} {E:St->XK} {X:Cx} {pos p pos' p':Pos} {a:Expr} {sa:SE}
end
end Sm
namespace Sm
open PySem PySem.Spec L2
@[simp] def lT:FM:=fun x vs h=>match x,vs with
 | .ref n,[.int i]=>match h[n]? with
  | some (.lst xs)=>if 0<=i/\i<2 ^ 40 then (match xs[i.toNat]? with
   | some y=>.ok y (h.set n (.lst (xs.eraseIdx i.toNat)))
   | none=>.bad) else .bad
  | _=>.bad
 | _,_=>.bad
theorem RVs.erase {T:Tb} {ι:Ix} {H:Hp} {xs:List AV} {us:List V} (r:RVs T ι H xs us) (k:Nat):RVs T ι H (xs.eraseIdx k) (us.eraseIdx k):=by
 rw [LA,LA];exact (r.take k).append (r.drop (k+1))
theorem Fm {T:Tb} {X:Cx}:∃ r,eg X "list.pop" r/\gU T lT r:=by
 refine ⟨_,CV,fun ι h H x xs u us E Q S rx rs q=>?_⟩
 unfold lT at q
 split at q
 ·rename_i n i
  split at q
  ·rename_i ys hn
   split at q
   ·rename_i hi
    split at q
    ·rename_i y hy
     cases rx with
     | @ref _ ad hr =>
      cases rs with
      | cons r1 r2 =>
      cases r2
      rw [bX r1];obtain ⟨o,e1,ws,rfl,rw_⟩:=S.obj n _ ad hn hr
      have g:=S.growSet (u:=.lst (ws.eraseIdx i.toNat)) hr
      obtain ⟨v,e2,r2⟩:=rw_.get hy
      have hl:=(Kh.mp hy).1
      have hl2:=rw_.length
      have h40:i<1099511627776:=hi.2
      refine ⟨ad,ws,i,i.toNat,v,rfl,rfl,e1,by lia,by lia,?_,e2,q ι _ _ g (S.set hr ⟨_,rfl,(rw_.mono g).erase i.toNat⟩) (r2.mono g)⟩
      unfold seqIndex?
      simp only [show ¬ i<0 by lia,Oq]
      simp;lia
    ·exact q.elim
   ·exact q.elim
  ·exact q.elim
 ·exact q.elim
end Sm
namespace Sm
open PySem PySem.Spec L2
def pC:FM:=fun x vs h=>match x,vs with
 | .str z,[]=>if (Txt.upper z).length<=sizeLine/\(Txt.upper z).cps.all (· < 0x110000)=true then .ok (.str (Txt.upper z)) h else .bad
 | _,_=>.bad
theorem Fo {T:Tb} {X:Cx}:∃ r,eg X "str.upper" r/\gU T pC r:=by
 refine ⟨_,Ed,fun ι h H x xs u us E Q S rx rs q=>?_⟩
 unfold pC at q
 split at q
 ·split at q
  ·rename_i hz
   cases rs
   obtain ⟨rfl,_⟩:=dP rx
   exact ⟨_,rfl,rfl,hz.1,q.now S (.str hz.1 hz.2)⟩
  ·exact q.elim
 ·exact q.elim
def kL (a:SE) (t:Tg) (b:SS):SS:=fun en h=>match a en h with
 | .ok (.fl xs) h1=>cH none xs t b xs.reverse en h1
 | .ok (.ref n) h1=>(match h1[n]? with
  | some (.lst xs)=>cH (some n) xs t b xs.reverse en h1
  | _=>.bad)
 | _=>.bad
structure nC (T:Tb) (J:It) (ι:Ix) (H:Hp) (ys:List AV) (L:AH->Bool):Prop where
 go:∀ (i:Nat) (ι':Ix) (h':AH) (H':Hp) (x:AV),Ext ι H ι' H'->Sim T ι' h' H'->L h'=true->ys[i]? = some x->J.go i H'/\∀ u H2,J.yld i H' u H2->Grow ι' H' ι' H2/\Sim T ι' h' H2/\RV T ι' H2 x u
 stop:∀ (i:Nat) (ι':Ix) (h':AH) (H':Hp),Ext ι H ι' H'->Sim T ι' h' H'->L h'=true->ys.length<=i->J.stop i H'
section
variable {T:Tb} {E:St->XK} {X:Cx} {pos:Pos} {a:Expr} {sa:SE} {sts:List Stmt} {s1:SS}
theorem sJ {ι:Ix} {H:Hp} {a:Addr} {us:List V} {xs:List AV} {K:PySem.W.Frag} {w:Option Nat} (keep:∀ (ι':Ix) (h':AH) (H':Hp),Ext ι H ι' H'->Sim T ι' h' H'->cP w xs h'=true->∃ us',us'.length=us.length/\SqL K H' a us'/\RVs T ι' H' xs us') (hl:xs.length=us.length):nC T (rP K a us.length) ι H xs.reverse (cP w xs):=by
 refine ⟨fun i ι' h' H' x x' S' lv hx=>?_,fun i ι' h' H' _ _ _ hi=>?_⟩
 ·obtain ⟨us',hl',sq,rs⟩:=keep ι' h' H' x' S' lv
  have hi:i<xs.length:=by have:=(Kh.mp hx).1;rwa [LN] at this
  rw [List.getElem?_reverse hi] at hx;rw [hl] at hx;obtain ⟨u,hu,ru⟩:=rs.get hx
  refine ⟨⟨us',u,sq,hl',by lia,hu⟩,fun v H2 y=>?_⟩
  obtain ⟨rfl,y2⟩:=y
  have:=y2 us' sq
  rw [hu] at this
  cases this
  exact ⟨S'.refl,S',ru⟩
 ·show us.length<=i
  rw [LN] at hi;lia
def Fp (g:TG) (tb:TS) (D:dJ) (σ:St) (H1:Hp) (J:It):Prop:=∃ W:Nat->Nat->St->Hp->Prop,(∃ m,W 0 m σ H1)/\∀ i m σ H,W i m σ H->(J.stop i H/\D.nx σ H)\/(J.go i H/\∃ N:St->Hp->Prop,(∀ σ' H',N σ' H'->∃ m',m'<m/\W (i+1) m' σ' H')/\∀ x H',J.yld i H x H'->g x σ H' fun σ' H'' => tb { D with nx:=N,ct:=N,bk:=D.nx } σ' H'')
theorem pD {g:TG} {t:Tg} {J:It} {ι1:Ix} {h1:AH} {H1:Hp} {en:En} {σ:St} {D:dJ} {w:Option Nat} {all ys:List AV}
  (hg2:∀ {ι:Ix} {h:AH} {H:Hp} {en e:En} {σ:St} {v:AV} {u:V} {Q:St->Hp->Prop},Sim T ι h H->ER T ι H en σ->RV T ι H v u->dB t v en=some e->(∀ σ',ER T ι H e σ'->Q σ' H)->g u σ H Q)
  (S1:Sim T ι1 h1 H1) (er:ER T ι1 H1 en σ) (IR:nC T J ι1 H1 ys (cP w all)) (q:PostS T ι1 H1 E (cH w all t s1 ys en h1) D):Fp g (tS T EN s1) D σ H1 J:=by
 refine ⟨fun i m σ H=>m=ys.length-i/\i<=ys.length/\∃ ι' h' en',Grow ι1 H1 ι' H/\Sim T ι' h' H/\ER T ι' H en' σ/\PostS T ι' H E (cH w all t s1 (ys.drop i) en' h') D,
  ⟨ys.length,by simp,KS _,ι1,h1,en,S1.refl,S1,er,q⟩,?_⟩
 rintro i m σ H ⟨rfl,hi,ι',h',en',g',S',er',q'⟩
 by_cases hl:i<ys.length
 ·rw [pd hl] at q'
  unfold cH at q'
  split at q'
  ·rename_i hlive
   obtain ⟨go,yld⟩:=IR.go i ι' h' H ys[i] g'.ext S' hlive (by simp [hl])
   refine .inr ⟨go,fun σ H=>∃ ι' h' en',Grow ι1 H1 ι' H/\Sim T ι' h' H/\ER T ι' H en' σ/\PostS T ι' H E (cH w all t s1 (ys.drop (i+1)) en' h') D,
    fun σ' H' w' => ⟨ys.length-(i+1),by omega,rfl,hl,w'⟩,fun x H' y=>?_⟩
   obtain ⟨g2,S2,r2⟩:=yld x H' y
   split at q'
   ·rename_i e1 he1
    refine hg2 S2 (er'.mono g2) r2 he1 fun σ' er2=>⟨ι',h',e1,S2,er2,?_⟩
    have q2:=PostS.shift q' g2
    cases e2:s1 e1 h' with
    | nx e3 h3=>rw [e2] at q2;exact fun ι3 H3 σ3 g3 S3 er3=>⟨ι3,h3,e3,g'.trans (g2.trans g3),S3,er3,q2.shift g3⟩
    | ct e3 h3=>rw [e2] at q2;exact fun ι3 H3 σ3 g3 S3 er3=>⟨ι3,h3,e3,g'.trans (g2.trans g3),S3,er3,q2.shift g3⟩
    | bk e3 h3=>rw [e2] at q2;exact q2
    | rt v h3=>rw [e2] at q2;exact q2
    | ex c e3 h3=>rw [e2] at q2;exact (show False from q2).elim
    | bad=>rw [e2] at q2;exact q2
   ·exact (show False from q').elim
  ·exact (show False from q').elim
 ·have ei:i=ys.length:=by omega
  subst ei;rw [Mi] at q';unfold cH at q'
  split at q'
  ·rename_i hlive
   exact .inl ⟨IR.stop _ ι' h' H g'.ext S' hlive (Kj _),q' ι' H σ S'.refl S' er'⟩
  ·exact (show False from q').elim
theorem Fq {tg:Expr} {t:Tg} {p ppos:Pos} (hK:X.K=T.K) (hc:X.calm=true) (hg0:Gl X.nox "reversed") (hm:X.nox.mg "reversed" = none) (ha:aN T EN X.nox a sa) (hg:nh T X.nox tg t) (hb:dc T EN X.nox sts s1) (lh:starEach [a] X.nox.env=[(false,eval a X.nox.env)]:=by rfl)
  (hs:∀ x,foldedSetIterable (.Call (.Name "reversed" p) [a] [] ppos) X.nox.env x=pure x:=by intro _;rfl):fW T E X (.For tg (.Call (.Name "reversed" p) [a] [] ppos) sts [] pos) (kL sa t s1):=by
 obtain ⟨g,hg1,hg2⟩:=hg
 refine gM (oU (qR PassesOwn.never hc (Ec hg0 hm (ak ha au lh) lh) hg1 hb hs)) fun D σ H ⟨ι,h,en,S,er,q⟩=>⟨ι,h,en,S,er,?_⟩
 unfold kL at q
 show Post T ι H _ (RVs T) ((sa en h).bind fun x h1=>.ok [x] h1) _
 cases e:sa en h with
 | bad=>rw [e] at q;exact q
 | ex c h1=>rw [e] at q;exact (show False from q).elim
 | ok v h1 =>
  rw [e] at q;intro ι1 H1 us g1 S1 r1
  cases r1 with
  | cons r r' =>
  cases r'
  cases v with
  | fl xs =>
   dsimp only at q
   cases r with
   | fl n hr rs=>exact ⟨_,_,rfl,gv hK (.inl hr),pD hg2 S1 (er.mono g1) (by
     have:=sJ (T:=T) (w:=none) (K:=T.K) (a:=_) (us:=_) (xs:=xs) (ι:=ι1) (H:=H1) (fun ι' h' H' x' S' _=>⟨_,rfl,kJ n hr ι' H' x',rs.ext x'⟩) rs.length
     exact hK▸this) (PostS.shift q g1)⟩
   | kfl hr rs=>exact ⟨_,_,rfl,gv hK (.inr hr),pD hg2 S1 (er.mono g1) (by
     have:=sJ (T:=T) (w:=none) (K:=T.K) (a:=_) (us:=_) (xs:=xs) (ι:=ι1) (H:=H1) (fun ι' h' H' x' S' _=>⟨_,rfl,.inr hr,rs.ext x'⟩) rs.length
     exact hK▸this) (PostS.shift q g1)⟩
  | ref n =>
   dsimp only at q
   cases e2:h1[n]? with
   | none=>rw [e2] at q;exact (show False from q).elim
   | some o =>
    rw [e2] at q
    cases o with
    | lst xs =>
     cases r with
     | ref hr =>
      obtain ⟨u,e1,us,rfl,rs⟩:=S1.obj n _ _ e2 hr
      refine ⟨_,us,rfl,.inl (.of e1),pD hg2 S1 (er.mono g1) (sJ (fun ι' h' H' x' S' lv=>?_) rs.length) (PostS.shift q g1)⟩
      unfold cP at lv
      dsimp only at lv
      split at lv
      ·rename_i ys hy
       have z:=My lv
       subst z;obtain ⟨u2,e3,us2,rfl,r2⟩:=S'.obj n _ _ hy (x'.at_ hr)
       exact ⟨us2,by rw [<- r2.length,rs.length],.inl (.of e3),r2⟩
      ·cases lv
    | _=>exact (show False from q).elim
  | _=>exact (show False from q).elim
end
end Sm
namespace L2
open PySem PySem.Spec PyProof.Rows
def pE (K:PySem.W.Frag) (a b:Addr):It :=
 ⟨fun i H=>∃ xs ys x y,SqL K H a xs/\SqL K H b ys/\xs[i]? = some x/\ys[i]? = some y,
  fun i H v H' => ∃ (T:Addr) (x y:V),v = .ref T/\H T=none/\H'=aJ H T (.tup [x,y])/\(∀ xs,SqL K H a xs->xs[i]? = some x)/\∀ ys,SqL K H b ys->ys[i]? = some y,
  fun i H=>∃ xs ys,SqL K H a xs/\SqL K H b ys/\(xs.length<=i\/ys.length<=i)⟩
theorem Fs {P:Program} {w:World} {K:PySem.W.Frag} {es:List Expr} {k:Nat} {tp:Pos} (a b z TI TO i1 i2:Addr) (ap:ZipApart z TI TO i1 i2 a b) :
  e7 P w K (.Tuple es k tp) (pE K a b) [z,TO,i1,i2,TI] z (fun i h=>(IsZip h z TI TO .none/\IsPair h TI (.ref i1) (.ref i2)/\∃ u v,IsPair h TO u v)/\h.IsListIter i1 a i/\h.IsListIter i2 b i) where
 mem:=by simp
 obj:=fun i h st c hc=>by
  obtain ⟨⟨h1,h2,u,v,h3⟩,⟨o,ho,_,hd⟩,⟨o2,ho2,_,hd2⟩⟩:=st
  have hc':c=z\/c=TO\/c=i1\/c=i2\/c=TI:=by simpa using hc
  rcases hc' with rfl | rfl | rfl | rfl | rfl
  ·exact ⟨_,h1,fun v q=>by
    have q':Data.fields _=Data.cell v:=q
    cases q'⟩
  ·exact ⟨_,h3,fun v q=>by
    have q':Data.seq _ _=Data.cell v:=q
    cases q'⟩
  ·exact ⟨o,ho,fun v q=>by rw [hd] at q;cases q⟩
  ·exact ⟨o2,ho2,fun v q=>by rw [hd2] at q;cases q⟩
  ·exact ⟨_,h2,fun v q=>by
    have q':Data.seq _ _=Data.cell v:=q
    cases q'⟩
 keep:=fun i h h' st k=>by
  obtain ⟨⟨h1,h2,u,v,h3⟩,hi1,hi2⟩:=st
  exact ⟨⟨k z (by simp) _ h1,k TI (by simp) _ h2,u,v,k TO (by simp) _ h3⟩,hi1.at fun o q=>k i1 (by simp) o q,hi2.at fun o q=>k i2 (by simp) o q⟩
 item:=by
  intro X hP hw hK hc i pins s σ H E I hf st hg
  subst hP hw hK
  obtain ⟨xs,ys,x,y,hq,hq2,hx,hy⟩:=hg
  obtain ⟨its,rv,p,hz⟩:=I.list hq
  obtain ⟨its2,rv2,p2,hz2⟩:=I.list hq2
  obtain ⟨u,hu,ru⟩:=rv.get hx
  obtain ⟨v,hv,rv'⟩:=rv2.get hy
  obtain ⟨⟨h1,h2,u0,v0,h3⟩,hi1,hi2⟩:=st
  refine wpAny_pyNext_zip_item ap h1 h2 h3 hi1 hi2 p.isList p2.isList (x:=u) (y:=v) (by simpa using hu) (by simpa using hv) fun g1 z1 t1 j1 j2 pr sz kp=>?_
  refine ⟨.ref s.heap.objs.size,rfl,wpAny_letOwnedTupleGo_zip z1 fun g2 z2 sb=>?_⟩
  replace sb:Heap.SameBut z g1 g2:=sb
  have zlt:z<s.heap.objs.size:=KD h1
  have TIlt:TI<s.heap.objs.size:=KD h2
  have TOlt:TO<s.heap.objs.size:=KD h3
  have I1:Inv X pins σ H { s with heap:=g2 }:=I.turnedL (fp:=[z,TO,i1,i2,TI]) (t' := s.toks) (fun c o hb q=>by
   have n1:c≠z:=fun e=>hb (by simp [e])
   have n2:c≠TO:=fun e=>hb (by simp [e])
   have n3:c≠i1:=fun e=>hb (by simp [e])
   have n4:c≠i2:=fun e=>hb (by simp [e])
   exact (sb.2 c n1).trans (kp c o n1 n2 n3 n4 q)) hf
  have hT2:g2.get? s.heap.objs.size=some { cls:=.type "tuple",data:=.seq #[u,v] }:=(sb.2 _ (Nat.ne_of_gt zlt)).trans pr
  have fp:=I.fpOk (H' := H) (Kj s.heap.objs.size) (I.hok.fresh (Kj _))
  obtain ⟨f0,f1,f2,f3,f4,f5⟩:=fp
  have I2:Inv X pins σ (aJ H s.heap.objs.size (.tup [x,y])) { s with heap:=g2 } :=
   I1.adopt (T:=s.heap.objs.size) f0 (I.sz) f1 f4 f5 ⟨by show 2<=sizeLine;decide,[u,v],.cons ru (.cons rv' .nil),⟨_,hT2,rfl,_,rfl⟩⟩
  have TI2:IsPair g2 TI (.ref i1) (.ref i2):=(sb.2 TI ap.TIz).trans (kp TI _ ap.TIz ap.TITO ap.TIi1 ap.TIi2 h2)
  refine ⟨.ref s.heap.objs.size,_,I2,rfl,⟨s.heap.objs.size,x,y,rfl,f0,rfl,fun ws hw=>by rw [I.list_inj hw hq];exact hx,fun ws hw=>by rw [I.list_inj hw hq2];exact hy⟩,⟨⟨z2,TI2,u,v,(sb.2 TO ap.TOz).trans t1⟩,j1.extBut sb.extBut ap.i1z,j2.extBut sb.extBut ap.i2z⟩,fun c hb=>?_⟩
  obtain ⟨g0,_⟩:=hf c hb
  obtain ⟨o,hob,_⟩:∃ o,s.heap.get? c=some o/\True:=by
   have hb':c=z\/c=TO\/c=i1\/c=i2\/c=TI:=by simpa using hb
   rcases hb' with rfl | rfl | rfl | rfl | rfl
   ·exact ⟨_,h1,trivial⟩
   ·exact ⟨_,h3,trivial⟩
   ·obtain ⟨o,q,_⟩:=hi1
    exact ⟨o,q,trivial⟩
   ·obtain ⟨o,q,_⟩:=hi2
    exact ⟨o,q,trivial⟩
   ·exact ⟨_,h2,trivial⟩
  rw [bS (K7 (KD hob))];exact g0
 done:=by
  intro X hP hw hK hc i pins s σ H E I hf st hg
  subst hP hw hK
  obtain ⟨xs,ys,hq,hq2,hx⟩:=hg
  obtain ⟨its,rv,p,hz⟩:=I.list hq
  obtain ⟨its2,rv2,p2,hz2⟩:=I.list hq2
  obtain ⟨⟨h1,h2,u0,v0,h3⟩,hi1,hi2⟩:=st
  have hl:=rv.length
  have hl2:=rv2.length
  exact wpAny_pyNext_zip_end (I.ok.hd hc) ap h1 h2 h3 hi1 hi2 p.isList p2.isList (hx.imp (fun e=>by simp;lia) (fun e=>by simp;lia)) fun h' eb=>⟨rfl,I.turnedL (fp:=[z,TO,i1,i2,TI]) (t' := s.toks) (fun c o hb q=>eb c o (fun e=>hb (by simp [e])) (fun e=>hb (by simp [e])) (fun e=>hb (by simp [e])) (fun e=>hb (by simp [e])) q) hf⟩
 self:=fun _ _ _ _ _ st h=>by
  obtain ⟨⟨h1,_⟩,_⟩:=st
  exact wpAny_pyIter_zip h1 h
section
variable {X:Cx}
theorem Ft:bootBuiltins "zip" = some (.type "zip"):=by decide +kernel
def Fu (K:PySem.W.Frag) (ta:TA):TI:=fun σ H R=>ta σ H fun vs H1=>∃ a b,vs=[.ref a,.ref b]/\(∃ xs,SqL K H1 a xs)/\(∃ ys,SqL K H1 b ys)/\R (pE K a b) H1
end
end L2
namespace L2
open PySem PySem.Spec PyProof.Rows
theorem xR {X:Cx} {a b:Expr} {ta:TA} {p pos tp:Pos} {es:List Expr} {k:Nat} (hg:Gl X "zip") (hm:X.mg "zip" = none) (ha:PA X [a,b] ta) (hs:starEach [a,b] X.env=[(false,eval a X.env),(false,eval b X.env)]:=by rfl) (hs2:starEach [b] X.env=[(false,eval b X.env)]:=by rfl) :
  PI X (.Tuple es k tp) (.Call (.Name "zip" p) [a,b] [] pos) (Fu X.K ta):=by
 intro pins s σ H R I h
 refine Call_ (ki I hg hm Ft (Lw (thn (ha pos pins s σ H _ I h) fun us s1 ⟨vs,H1,I1,r1,q1⟩=>?_) (by rw [hs,hs2]) (by rw [hs2];rfl)))
 obtain ⟨l1,l2,e,⟨xs,hq⟩,⟨ys,hq2⟩,q⟩:=q1
 subst e
 cases r1 with
 | cons r rr =>
  cases rr with
  | cons r' rr =>
   cases rr
   cases r
   cases r'
   obtain ⟨its,rv,pl,hz⟩:=I1.list hq
   obtain ⟨its2,rv2,pl2,hz2⟩:=I1.list hq2
   have o1:l1<s1.heap.objs.size:=by obtain ⟨o,ho,_⟩:=pl.isList;exact KD ho
   have o2:l2<s1.heap.objs.size:=by obtain ⟨o,ho,_⟩:=pl2.isList;exact KD ho
   refine call_zip_2 pl.isList pl2.isList fun h' z1 z2 z3 z4 z5 hsz hk=>wpAny_pyIter_zip z1 ?_
   have ap:ZipApart (s1.heap.objs.size+4) (s1.heap.objs.size+2) (s1.heap.objs.size+3) s1.heap.objs.size (s1.heap.objs.size+1) l1 l2:=by
    constructor<;>(unfold Addr at *;lia)
   refine ⟨s1.heap.objs.size+4,[s1.heap.objs.size+4,s1.heap.objs.size+3,s1.heap.objs.size,s1.heap.objs.size+1,s1.heap.objs.size+2],_,_,H1,rfl,I1.kept (t' := s1.toks) fun c o e=>hk c o e,Fs l1 l2 _ _ _ _ _ ap,⟨⟨z1,z2,_,_,z3⟩,z4,z5⟩,fun c hc=>?_,q⟩
   have hc':c=s1.heap.objs.size+4\/c=s1.heap.objs.size+3\/c=s1.heap.objs.size\/c=s1.heap.objs.size+1\/c=s1.heap.objs.size+2:=by simpa using hc
   have hge:s1.heap.objs.size<=c:=by unfold Addr at *;lia
   exact I1.fpOk hge (I1.hok.fresh hge)
end L2
namespace Sm
open PySem PySem.Spec L2
abbrev jA:=En->AH->Out (List AV×Option Nat×List AV)
def eC:List AV->List AV->List AV
 | x::xs,y::ys=>.tup [x,y]::eC xs ys
 | _,_=>[]
def lU (T:Tb) (it:jA):TI:=fun σ H R=>∃ ι h en,Sim T ι h H/\ER T ι H en σ/\match it en h with
 | .ok (xs,w,all) h' => ∀ ι' H' J,Grow ι H ι' H'->Sim T ι' h' H'->nC T J ι' H' xs (cP w all)->R J H'
 | _=>False
def jZ (js:List Nat) (it:jA) (c:SB) (e:SE):SE:=fun en h=>match it en h with
 | .ok (xs,w,all) h1=>(match bP js en w all (fN c) (fN e) xs [] h1 with
  | .ok ys h2=>.ok (.fl ys) h2
  | _=>.bad)
 | _=>.bad
section
variable {T:Tb} {E:St->XK} {X:Cx} {pos px p1 p2:Pos} {kk:Nat} {iter elt:Expr} {ifs:List Expr} {scope:Scope} {x₁ x₂:Str} {jf:List (Nat×Str)} {it:jA} {cc:SB} {ce:SE}
theorem Fv {jf:List (Nat×Str)} {it:jA} {cc:SB} {ce:SE} {σ:St} {H:Hp} {Q:VK} {ι:Ix} {h:AH} {en:En} (S:Sim T ι h H) (er:ER T ι H en σ)
  (q:match it en h with | .ok (xs,w,all) h1=>(match bP (jf.map (·.1)) en w all (fN cc) (fN ce) xs [] h1 with | .ok ys h2=>∀ ι' H' D vs,Grow ι H ι' H'->Sim T (ι'.hide D) h2 H'->RVs T (ι'.hide D) H' ys vs->H' D=some (.lst vs)->D∉ι'.all->(∀ n,ι'.refs=ι.refs++n->∀ a∈n++[D],H a=none)->Q (.ref D) H' | _=>False) | _=>False) :
  oT T.K jf (lU T it) (tT T EN cc) (tE T EN ce) σ H Q:=by
 refine ⟨ι,h,en,S,er,?_⟩
 cases e:it en h with
 | bad=>rw [e] at q;exact q
 | ex c h1=>rw [e] at q;exact q
 | ok p h1 =>
  obtain ⟨xs,w,all⟩:=p
  rw [e] at q;dsimp only at q
  intro ι1 H1 J g1 S1 IR D hD
  refine ⟨fun i m ys H2=>m=xs.length-i/\i<=xs.length/\H2 D=some (.lst ys)/\∃ ι' h' vs,Grow ι1 H1 ι' H2/\Ext ι1 H1 (ι'.hide D) H2/\Sim T (ι'.hide D) h' H2/\ER T (ι'.hide D) H2 en σ/\RVs T (ι'.hide D) H2 vs ys/\D∉ι'.refs /\
   (match bP (jf.map (·.1)) en w all (fN cc) (fN ce) (xs.drop i) vs h' with | .ok ys h2=>∀ ι' H' D vs,Grow ι H ι' H'->Sim T (ι'.hide D) h2 H'->RVs T (ι'.hide D) H' ys vs->H' D=some (.lst vs)->D∉ι'.all->(∀ n,ι'.refs=ι.refs++n->∀ a∈n++[D],H a=none)->Q (.ref D) H' | _=>False),?_,?_⟩
  ·exact ⟨xs.length,by simp,KS _,eG,ι1,h1,[],S1.growNew hD,Ext.hide hD,S1.hide hD,(er.mono g1).ext (Ext.hide hD),.nil,fun z=>S1.fresh hD (Kz _ z),q⟩
  ·rintro i m ys H2 ⟨rfl,hi,hH2,ι',h',vs,g',x',S',er',rv',nD',q'⟩
   refine ⟨hH2,?_⟩
   by_cases hl:i<xs.length
   ·rw [pd hl] at q'
    unfold bP at q'
    by_cases hs:cP w all h'=true/\vs.length<sizeLine
    ·rw [Ku hs] at q'
     obtain ⟨lh,hs2⟩:=hs
     obtain ⟨go,yld⟩:=IR.go i _ h' H2 xs[i] x' S' lh (by simp [hl])
     refine .inr ⟨go,by rw [<- rv'.length];exact hs2,fun x H3 y=>?_⟩
     obtain ⟨g3,S3,r3⟩:=yld x H3 y
     have er3:=er'.mono g3
     obtain ⟨y1,y2,exi⟩:∃ y1 y2,xs[i] = .tup [y1,y2]:=by
      rcases Fk cc xs[i] with z | z
      ·exact z
      ·rw [z] at q';exact q'.elim
     rw [exi] at r3;simp only [exi,fN] at q'
     obtain ⟨aa,us,rfl,sq,rss⟩:=jl r3
     cases rss with
     | cons rA rB' => cases rB' with
       | cons rB rN =>
     cases rN
     refine ⟨aa,_,_,rfl,sq,ι'.hide D,h',_,S3,ER.comp2 er3 rA rB,?_⟩
     cases ec:cc (some y1::some y2::(jf.map (·.1)).map fun j=>(en[j]?).join) h' with
     | bad=>rw [ec] at q';exact q'
     | ex c h5=>rw [ec] at q';exact q'.elim
     | ok bb h5 =>
      rw [ec] at q';intro ι5 H5 b5 g5 S5 r5
      subst r5;have g35:=g3.trans g5
      have hD5:H5 D=some (.lst ys):=g35.keep D _ nD' hH2
      have eι:ι5=Ix.hide ⟨ι5.refs,ι'.priv⟩ D:=by
       have:=g5.priv
       cases ι5
       simp only at this
       subst this;rfl
      have nD5:D∉ι5.refs:=g35.outR nD' hH2
      have gG5:Grow ι1 H1 ⟨ι5.refs,ι'.priv⟩ H5:=by
       obtain ⟨n,en1,hn⟩:=g'.pre
       obtain ⟨k,ek,hk⟩:=g35.pre
       refine ⟨⟨n++k,?_,fun a ha=>?_⟩,g'.priv,fun a o na ea=>?_,fun a ha=>?_⟩
       ·show ι5.refs=_;rw [ek];show ι'.refs++k=_;rw [en1];simp
       ·rcases KI.mp ha with z | z
        ·exact hn a z
        ·have z2:=hk a z
         by_cases hr:a∈ι1.refs
         ·exact absurd z2 (g'.live a (Kz _ hr))
         ·cases e9:H1 a with
          | none=>rfl
          | some o=>rw [g'.keep a o hr e9] at z2;cases z2
       ·exact g35.keep a o (g'.outR na ea) (g'.keep a o na ea)
       ·have:a∈(ι'.hide D).all:=by
         rcases KI.mp ha with z | z
         ·exact Kz _ (by show a∈ι'.refs;rw [en1];exact Kz _ z)
         ·exact KG _ (Kp _ (by rw [g'.priv];exact z))
        exact g35.live a this
      have x5:Ext ι1 H1 (Ix.hide ⟨ι5.refs,ι'.priv⟩ D) H5:=eι▸x'.trans g35.ext
      have er5:=er3.mono g5
      have rv5:=(rv'.mono g35)
      cases bb with
      | false =>
       rw [KF KO];refine ⟨xs.length-(i+1),by lia,rfl,hl,hD5,⟨ι5.refs,ι'.priv⟩,h5,vs,gG5,x5,eι▸S5,eι▸er5,eι▸rv5,nD5,q'⟩
      | true =>
       rw [Ku rfl];refine ⟨ι5,h5,_,S5,(ER.comp2 er3 rA rB).mono g5,?_⟩
       dsimp only at q'
       cases ee:ce (some y1::some y2::(jf.map (·.1)).map fun j=>(en[j]?).join) h5 with
       | bad=>rw [ee] at q';exact q'
       | ex c h6=>rw [ee] at q';exact q'.elim
       | ok v h6 =>
        rw [ee] at q';intro ι6 H6 u6 g6 S6 r6
        have g56:=g6
        have hD6:H6 D=some (.lst ys):=g56.keep D _ nD5 hD5
        have eι6:ι6=Ix.hide ⟨ι6.refs,ι'.priv⟩ D:=by
         have h1:=g6.priv
         have h2:=g5.priv
         rw [h2] at h1
         cases ι6
         simp only at h1
         subst h1;rfl
        have nD6:D∉ι6.refs:=g56.outR nD5 hD5
        have gG6:Grow ι1 H1 ⟨ι6.refs,ι'.priv⟩ (aJ H6 D (.lst (ys++[u6]))):=by
         obtain ⟨n,en1,hn⟩:=gG5.pre
         obtain ⟨k,ek,hk⟩:=g56.pre
         have hD1:∀ a o,H1 a=some o->a≠D:=fun a o ea=>gK ea hD
         refine ⟨⟨n++k,?_,fun a ha=>?_⟩,g'.priv,fun a o na ea=>?_,fun a ha=>?_⟩
         ·show ι6.refs=_;rw [ek];have z:ι5.refs=ι1.refs++n:=en1;rw [z];simp
         ·rcases KI.mp ha with z | z
          ·exact hn a z
          ·have z2:=hk a z
           by_cases hr:a∈ι1.refs
           ·exact absurd z2 (gG5.live a (Kz _ hr))
           ·cases e9:H1 a with
            | none=>rfl
            | some o=>rw [gG5.keep a o hr e9] at z2;cases z2
         ·rw [bS (hD1 a o ea)]
          exact g56.keep a o (gG5.outR na ea) (gG5.keep a o na ea)
         ·by_cases zD:a=D
          ·subst zD;rw [eG];simp
          ·rw [bS zD]
           have:a∈ι5.all:=by
            rcases KI.mp ha with z | z
            ·exact Kz _ (by have z':ι5.refs=ι1.refs++n:=en1;rw [z'];exact Kz _ z)
            ·rw [eι];exact KG _ (Kp _ (by show a∈ι'.priv;rw [g'.priv];exact z))
           exact g56.live a this
        refine ⟨hD6,xs.length-(i+1),by lia,rfl,hl,eG,⟨ι6.refs,ι'.priv⟩,h6,vs++[v],gG6,?_,?_,?_,?_,nD6,q'⟩
        ·exact (eι6▸(x'.trans (g35.ext.trans g6.ext))).trans Ext.poke
        ·exact Sim.poke (eι6▸S6) nD6
        ·exact ER.ext (eι6▸er5.mono g6) Ext.poke
        ·have:RVs T ι6 H6 (vs++[v]) (ys++[u6]):=(rv5.mono g6).append (.cons r6 .nil)
         exact RVs.ext Ext.poke (eι6▸this)
    ·rw [KF hs] at q';exact q'.elim
   ·have ei:i=xs.length:=by lia
    subst ei;rw [Mi] at q';unfold bP at q'
    by_cases hs:cP w all h'=true
    ·rw [Ku hs] at q'
     have hp:D∉ι'.priv:=fun z=>by rw [g'.priv] at z;exact S1.plive D z hD
     refine .inl ⟨IR.stop _ _ h' H2 x' S' hs (Kj _),q' ι' H2 D ys (g1.trans g') S' rv' hH2 (fun z=>(KI.mp z).elim nD' hp) fun n en1 a ha=>?_⟩
     obtain ⟨k,ek,hk⟩:=(g1.trans g').pre
     have:n=k:=Nh (en1.symm.trans ek)
     subst this;rcases KI.mp ha with z | z
     ·exact hk a z
     ·have z':a=D:=by simpa using z
      subst z'
      cases e9:H a with
      | none=>rfl
      | some o =>
       by_cases hr:a∈ι.refs
       ·have z1:a∈ι1.refs:=by
         obtain ⟨k1,ek1,_⟩:=g1.pre
         rw [ek1];exact Kz _ hr
        exact absurd hD (S1.live a (Kz _ z1))
       ·rw [g1.keep a o hr e9] at hD;cases hD
    ·rw [KF hs] at q';exact q'.elim
theorem Fw {σ:St} {H:Hp} {Q:VK} (q:tE T E (jZ (jf.map (·.1)) it cc ce) σ H Q):oT T.K jf (lU T it) (tT T EN cc) (tE T EN ce) σ H Q:=by
 obtain ⟨ι,h,en,S,er,q⟩:=q
 refine Fv S er ?_
 unfold jZ at q
 cases e:it en h with
 | bad=>rw [e] at q;exact q
 | ex c h1=>rw [e] at q;exact q.elim
 | ok p h1 =>
  obtain ⟨xs,w,all⟩:=p
  rw [e] at q;dsimp only at q ⊢
  cases e2:bP (jf.map (·.1)) en w all (fN cc) (fN ce) xs [] h1 with
  | bad=>rw [e2] at q;exact q
  | ex c h1=>rw [e2] at q;exact q.elim
  | ok ys h2 =>
   rw [e2] at q;exact fun ι' H' D vs g S' r hD nD _=>q ι' H' _ g S'.show (.fl nD (.inl hD) (r.ext Ext.show))
end
theorem sL:∀ (xs ys:List AV) (i:Nat) (z:AV),(eC xs ys)[i]? = some z->∃ x y,z = .tup [x,y]/\xs[i]? = some x/\ys[i]? = some y
 | [],_,i,z,h=>by simp [eC] at h
 | _::_,[],i,z,h=>by simp [eC] at h
 | x::xs,y::ys,0,z,h=>by simp [eC] at h;exact ⟨x,y,h.symm,rfl,rfl⟩
 | x::xs,y::ys,i+1,z,h=>by simp only [eC,Li] at h ⊢;exact sL xs ys i z h
theorem sM:∀ (xs ys:List AV),(eC xs ys).length=min xs.length ys.length
 | [],_=>by simp [eC]
 | _::_,[]=>by simp [eC]
 | x::xs,y::ys=>by simp only [eC,Kk,sM xs ys];lia
section
variable {T:Tb} {E:St->XK} {X:Cx} {pos:Pos} {a b:Expr} {sa sb:SE}
end
end Sm
namespace Sm
open PySem PySem.Spec L2
section
variable {T:Tb} {E:St->XK} {X:Cx} {a:Expr} {es:List Expr} {sa:SE}
end
@[simp] def lV (a b:SE):jA:=fun en h=>(a en h).bind fun v h1=>(b en h1).bind fun w h2=>match v,w with
 | .fl xs,.fl ys=>.ok (eC xs ys,none,[]) h2
 | _,_=>.bad
def lX (it:jA) (t:Tg) (b:SS):SS:=fun en h=>match it en h with
 | .ok (xs,w,all) h1=>cH w all t b xs en h1
 | _=>.bad
section
variable {T:Tb} {E:St->XK} {X:Cx} {pos:Pos} {a b:Expr} {sa sb:SE} {sts:List Stmt} {s1:SS}
theorem pF {ι:Ix} {H:Hp} {a b:Addr} {us ws:List V} {xs ys:List AV} {K:PySem.W.Frag} (keep:∀ (ι':Ix) (H':Hp),Ext ι H ι' H'->SqL K H' a us) (r:RVs T ι H xs us) (keep2:∀ (ι':Ix) (H':Hp),Ext ι H ι' H'->SqL K H' b ws) (r2:RVs T ι H ys ws):nC T (pE K a b) ι H (eC xs ys) (cP none []):=by
 refine ⟨fun i ι' h' H' z g S lv hx=>?_,fun i ι' h' H' g S lv hi=>?_⟩
 ·obtain ⟨x,y,rfl,ex,ey⟩:=sL _ _ _ _ hx
  obtain ⟨u,e1,r1⟩:=(r.ext g).get ex
  obtain ⟨v,e2,rv⟩:=(r2.ext g).get ey
  refine ⟨⟨us,ws,u,v,keep ι' H' g,keep2 ι' H' g,e1,e2⟩,?_⟩
  rintro u2 H2 ⟨t,x2,y2,rfl,hn,rfl,hx2,hy2⟩
  have z1:=hx2 us (keep ι' H' g)
  rw [e1] at z1;cases z1
  have z2:=hy2 ws (keep2 ι' H' g)
  rw [e2] at z2;cases z2
  have g2:=S.growNew (o:=.tup [u,v]) hn
  exact ⟨g2,S.new hn,.tup (S.fresh hn) eG (.cons (r1.mono g2) (.cons (rv.mono g2) .nil))⟩
 ·rw [sM] at hi
  exact ⟨us,ws,keep ι' H' g,keep2 ι' H' g,by rw [<- r.length,<- r2.length];lia⟩
theorem Fx {p tp:Pos} {es:List Expr} {k:Nat} (hK:X.K=T.K) (hg:Gl X "zip") (hm:X.mg "zip" = none) (ha:aN T E X a sa) (hb:aN T E X b sb) (hs:starEach [a,b] X.env=[(false,eval a X.env),(false,eval b X.env)]:=by rfl) (hs2:starEach [b] X.env=[(false,eval b X.env)]:=by rfl) :
  PI X (.Tuple es k tp) (.Call (.Name "zip" p) [a,b] [] pos) (lU T (lV sa sb)) :=
 ni (xR hg hm (ak ha (ak hb au hs2) (by rw [hs,hs2])) hs hs2) fun σ H R ⟨ι,h,en,S,er,q⟩=>by
  unfold lV at q
  refine ⟨ι,h,en,S,er,?_⟩
  unfold aj
  cases e:sa en h with
  | bad=>rw [e] at q;exact q
  | ex c h1=>rw [e] at q;exact q.elim
  | ok v h1 =>
   rw [e] at q;dsimp only [Out.bind] at q ⊢
   cases e':sb en h1 with
   | bad=>rw [e'] at q;exact q
   | ex c h1=>rw [e'] at q;exact q.elim
   | ok v' h2 =>
    rw [e'] at q;dsimp only at q
    intro ι1 H1 u g1 S1 r1
    cases r1 with
    | cons r r' =>
     cases r' with
     | cons r2 r3 =>
      cases r3
      cases v with
      | fl xs =>
       cases v' with
       | fl ys =>
        dsimp only at q
        cases r with
        | fl m hr rs =>
         cases r2 with
         | fl m2 hr2 rs2=>exact ⟨_,_,rfl,⟨_,gv hK (.inl hr)⟩,⟨_,gv hK (.inl hr2)⟩,q ι1 H1 _ g1 S1 (hK▸pF (kJ m hr) rs (kJ m2 hr2) rs2)⟩
         | kfl hr2 rs2=>exact ⟨_,_,rfl,⟨_,gv hK (.inl hr)⟩,⟨_,gv hK (.inr hr2)⟩,q ι1 H1 _ g1 S1 (hK▸pF (kJ m hr) rs (fun _ _ _=>.inr hr2) rs2)⟩
        | kfl hr rs =>
         cases r2 with
         | fl m2 hr2 rs2=>exact ⟨_,_,rfl,⟨_,gv hK (.inr hr)⟩,⟨_,gv hK (.inl hr2)⟩,q ι1 H1 _ g1 S1 (hK▸pF (fun _ _ _=>.inr hr) rs (kJ m2 hr2) rs2)⟩
         | kfl hr2 rs2=>exact ⟨_,_,rfl,⟨_,gv hK (.inr hr)⟩,⟨_,gv hK (.inr hr2)⟩,q ι1 H1 _ g1 S1 (hK▸pF (fun _ _ _=>.inr hr) rs (fun _ _ _=>.inr hr2) rs2)⟩
       | _=>exact q.elim
      | _=>exact q.elim
theorem Fy {tg iter:Expr} {t:Tg} {it:jA} (hc:X.calm=true) (hi:PI X.nox tg iter (lU T it)) (hg:nh T X.nox tg t) (hb:dc T EN X.nox sts s1)
  (hs:∀ x,foldedSetIterable iter X.nox.env x=pure x:=by intro _;rfl):fW T E X (.For tg iter sts [] pos) (lX it t s1):=by
 obtain ⟨g,hg1,hg2⟩:=hg
 refine gM (oU (qR PassesOwn.never hc hi hg1 hb hs)) fun D σ H ⟨ι,h,en,S,er,q⟩=>⟨ι,h,en,S,er,?_⟩
 unfold lX at q
 cases e:it en h with
 | bad=>rw [e] at q;exact q
 | ex c h1=>rw [e] at q;exact (show False from q).elim
 | ok v h1 =>
  obtain ⟨xs,w,all⟩:=v
  rw [e] at q;intro ι1 H1 J g1 S1 IR
  exact pD hg2 S1 (er.mono g1) IR (PostS.shift q g1)
end
end Sm
namespace L2
open PySem PySem.Spec PyProof.Rows
section
variable {X:Cx}
def Fz:V->List V->Hp->VK->Prop:=fun x vs H Q=>∃ l xs i y,x = .ref l/\vs=[.int i,y]/\H l=some (.lst xs)/\0<=i/\i<2 ^ 63/\i.toNat<=xs.length/\xs.length<sizeLine/\Q .non (aJ H l (.lst (xs.take i.toNat++y::xs.drop i.toNat)))
theorem FC:lI X "list.insert" Fz:=by
 intro pins s σ H x vs v us Q I rx rv h
 obtain ⟨l,xs,i,y,rfl,rfl,hH,h1,h2,hk,hz,q⟩:=h
 cases rx
 cases rv with
 | cons ru rv =>
 cases rv with
 | cons ry rv =>
 cases rv
 obtain ⟨t,rfl⟩:=ru
 rename_i u2
 obtain ⟨z,its,n,r,hl,e⟩:=I.lstM hH
 refine ME F.slot_list_insert ⟨_,e,rfl⟩ F.entry_list_insert (F.args_list_insert_3 _ _ _)
  (AutoSeq1.list_insert_list_int_val_1 l its.toArray n i t u2 (by rw [fitsIndex_both (by lia) h2];decide) (by rw [Ks];lia)) ⟨e,?_⟩
 refine ⟨.non,_,I.lset (its' := its.take i.toNat++u2::its.drop i.toNat) hH e ?_ ((r.take _).append (.cons ry (r.drop _))) ?_,rfl,q⟩
 ·dsimp only
  rw [KF (by lia),Ks,LR (by lia)]
  simp
  rw [Lg (i:=its.length-i.toNat) (by rw [Lh];lia)]
 ·rw [Kq,Kk,Le,Lh]
  lia
end
end L2
namespace Sm
open PySem PySem.Spec L2
@[simp] def gX:FM:=fun x vs h=>match x,vs with
 | .ref n,[.int i,v]=>match h[n]? with
  | some (.lst xs)=>if 0<=i/\i<2 ^ 40/\i.toNat<=xs.length/\xs.length<sizeLine then .ok .non (h.set n (.lst (xs.take i.toNat++v::xs.drop i.toNat))) else .bad
  | _=>.bad
 | _,_=>.bad
theorem sN {T:Tb} {X:Cx}:∃ r,eg X "list.insert" r/\gU T gX r:=by
 refine ⟨_,FC,fun ι h H x xs u us E Q S rx rs q=>?_⟩
 unfold gX at q
 split at q
 ·rename_i n i v
  split at q
  ·rename_i ys hn
   split at q
   ·rename_i hi
    cases rx with
    | @ref _ ad hr =>
     cases rs with
     | cons r1 r2 =>
     cases r2 with
     | cons r2 r3 =>
     cases r3
     rw [bX r1];obtain ⟨o,e1,ws,rfl,rw_⟩:=S.obj n _ ad hn hr
     rename_i v2
     have g:=S.growSet (u:=.lst (ws.take i.toNat++v2::ws.drop i.toNat)) hr
     have hl2:=rw_.length
     have h40:i<1099511627776:=hi.2.1
     exact ⟨ad,ws,i,v2,rfl,rfl,e1,hi.1,by lia,by lia,by lia,q ι _ _ g (S.set hr ⟨_,rfl,((rw_.mono g).take _).append (.cons (r2.mono g) ((rw_.mono g).drop _))⟩) .non⟩
   ·exact q.elim
  ·exact q.elim
 ·exact q.elim
@[simp] def lY:FM:=fun x vs h=>match x,vs with
 | .ref n,[]=>match h[n]? with
  | some (.lst xs)=>.ok .non (h.set n (.lst xs.reverse))
  | _=>.bad
 | _,_=>.bad
theorem FD {T:Tb} {X:Cx}:∃ r,eg X "list.reverse" r/\gU T lY r:=by
 refine ⟨_,CY,fun ι h H x xs u us E Q S rx rs q=>?_⟩
 unfold lY at q
 split at q
 ·rename_i n
  split at q
  ·rename_i ys hn
   cases rx with
   | @ref _ ad hr =>
    cases rs
    obtain ⟨o,e1,ws,rfl,rw_⟩:=S.obj n _ ad hn hr
    have g:=S.growSet (u:=.lst ws.reverse) hr
    exact ⟨ad,ws,rfl,rfl,e1,q ι _ _ g (S.set hr ⟨_,rfl,(rw_.mono g).reverse⟩) .non⟩
  ·exact q.elim
 ·exact q.elim
end Sm
namespace L2
open PySem PySem.Spec PyProof.Rows
section
variable {X:Cx} {x₁ x₂:Str} {px p1 p2:Pos} {kk:Nat} {jf:List (Nat×Str)} {scope:Scope} {iter elt:Expr} {ifs:List Expr} {pos:Pos} {wi:TI} {tc:TT} {te:TE}
theorem FE {y:Str} {py spos:Pos} {i:Nat} (hcalm:X.calm=true) (hi:PI X (.Tuple [.Name x₁ p1,.Name x₂ p2] kk px) iter wi) (hc:∀ pins cl s H fp,iA (dW X pins x₁ x₂ jf scope cl s H fp) ifs tc) (he:∀ pins cl s H fp,PE (dW X pins x₁ x₂ jf scope cl s H fp) elt te)
  (hN:(x₁::x₂::jf.map (·.2)).Nodup) (hx:scope.names.lookup x₁=some .local) (hx2:scope.names.lookup x₂=some .local) (hjf:∀ p∈jf,X.N[p.1]? = some p.2) (hjl:∀ p∈jf,scope.names.lookup p.2=some .free) (hkind:scope.kind = .function)
  (hcell:∀ y∈scope.names,y.2 ≠ .cell) (hfr:∀ y∈scope.names,y.2 = .free->X.env.kindOf y.1=some .cell\/X.env.kindOf y.1=some .free)
  (hnames:∀ y∈scope.names,y.2 = .local->scope.names.lookup y.1=some .local) (hNX:X.N.Nodup) (hi':X.N[i]? = some y) (hy:X.env.scope.names.lookup y=some .local)
  (hsw:swapsWith (.ListComp elt [⟨.Tuple [.Name x₁ p1,.Name x₂ p2] kk px,iter,ifs,0⟩] scope pos) (some (.Name y py)) spos.line X.env=pure true) (hs:∀ x,foldedSetIterable iter X.env x=pure x:=by intro _;rfl) :
  PS X (.Assign [.Name y py] (.ListComp elt [⟨.Tuple [.Name x₁ p1,.Name x₂ p2] kk px,iter,ifs,0⟩] scope pos) spos) (iy (oT X.K jf wi tc te) (km i)):=by
 intro pins s σ H D I h
 rw [NO _ _ _ _ hsw];refine KC (Nb (KC ?_))
 show wpAny _ X.A (do let _ <- comprehension (.ListComp elt [⟨.Tuple [.Name x₁ p1,.Name x₂ p2] kk px,iter,ifs,0⟩] scope pos) scope X.env _ (newList []) false (eval iter X.env) (some (assign (.Name y py) X.env))) _ _ s
 refine KC (Lc (D9 (Qf:=fun _ s' => SP X pins D .next s') hcalm hi hc he hN hx hx2 hjf hjl hkind hcell hfr hnames (use:=some (assign (.Name y py) X.env)) I h (fun D' C s6 H6 m6 I6 q6 f6 n6=>?_) hs) (fun _ s' hq=>K0 (K0 hq)) fun _ _ z=>z)
 refine Mz (qC I6 hNX hi' (.inl hy) (v:=.ref D') rfl (fun s7 I7 ⟨a,hsa,ha⟩=>?_) (.inr hy))
 have ne:C≠a:=by
  rcases ha with z | z
  ·rw [z];exact f6.2.1
  ·exact fun q=>f6.2.2.2.2.1 y a z q.symm
 refine ⟨m6,n6.sameBut hsa ne,fun h' hs' => ⟨_,H6,?_,q6⟩⟩
 exact I7.turnedL (fp:=[C]) (t' := s7.toks) (fun b o hb q=>(hs'.2 b (fun z=>hb (by simp [z]))).trans q) (fun b hb=>by
  have e:b=C:=by simpa using hb
  subst e;exact f6)
end
end L2
namespace Sm
open PySem PySem.Spec L2
section
variable {T:Tb} {E:L2.St->XK} {X:Cx} {pos px p1 p2:Pos} {kk:Nat} {iter elt:Expr} {ifs:List Expr} {scope:Scope} {x₁ x₂:Str} {jf:List (Nat×Str)} {it:SI} {itg:jA} {cc:SB} {ce:SE}
theorem FG {y:Str} {py spos:Pos} {i:Nat} (hK:X.K=T.K) (C:gz X x₁ x₂ jf scope) (hcalm:X.calm=true) (hi:PI X (.Tuple [.Name x₁ p1,.Name x₂ p2] kk px) iter (lU T itg)) (hc:∀ pins cl s H fp,iA (dW X pins x₁ x₂ jf scope cl s H fp) ifs (tT T EN cc)) (he:∀ pins cl s H fp,aN T EN (dW X pins x₁ x₂ jf scope cl s H fp) elt ce)
  (hNX:X.N.Nodup) (hi':X.N[i]? = some y:=by rfl) (hy:X.env.scope.names.lookup y=some .local:=by rfl) (hsw:swapsWith (.ListComp elt [⟨.Tuple [.Name x₁ p1,.Name x₂ p2] kk px,iter,ifs,0⟩] scope pos) (some (.Name y py)) spos.line X.env=pure true:=by rfl) (hs:∀ x,foldedSetIterable iter X.env x=pure x:=by intro _;rfl) :
  fW T E X (.Assign [.Name y py] (.ListComp elt [⟨.Tuple [.Name x₁ p1,.Name x₂ p2] kk px,iter,ifs,0⟩] scope pos) spos) (aw i (jZ (jf.map (·.1)) itg cc ce)) :=
 gM (FE hcalm hi hc he C.hN C.hx C.hx2 C.hjf C.hjl C.hkind C.hcell C.hfr C.hnames hNX hi' hy hsw hs) fun D σ H q=>hK▸Fw (si q)
end
end Sm
namespace L2
open PySem PySem.Spec PyProof.Rows
section
variable {X:Cx} {a b:Expr} {rest:List Expr} {pos:Pos} {ta tb:TE}
def sO (K:PySem.W.Frag) (ta tb:TE):TE:=fun σ H Q=>ta σ H fun x H1=>∃ k,jc K x H1 k/\if k=true then Q x H1 else tb σ H1 Q
theorem FH (ha:PE X a ta) (hb:PE X (.BoolOp .Or (b::rest) pos) tb):PE X (.BoolOp .Or (a::b::rest) pos) (sO X.K ta tb):=by
 intro pins s σ H Q I h
 refine BoolOp_or (thn (ha pins s σ H _ I h) fun v s1 ⟨x,H1,I1,r1,k,tv,q1⟩=>?_)
 refine Lc (vU pins s1 σ H1 x v (fun c H' => if c=true then Q x H' else tb σ H' Q) I1 r1 ⟨k,tv,q1⟩) (fun c s2 ⟨H2,I2,q2⟩=>?_) fun _ _ z=>z
 cases c with
 | false=>exact hb pins s2 σ H2 Q I2 q2
 | true=>exact ⟨x,H2,I2,r1,q2⟩
end
end L2
namespace Sm
open PySem PySem.Spec L2
@[simp] def gg (a b:SE):SE:=fun en h=>(a en h).bind fun v h1=>match fk v h1 with
 | some k=>if k=true then .ok v h1 else b en h1
 | none=>.bad
section
variable {T:Tb} {E:L2.St->XK} {X:Cx} {pos:Pos} {a b:Expr} {rest:List Expr} {sa sb:SE}
theorem FI (hK:X.K=T.K) (ha:aN T E X a sa) (hb:aN T E X (.BoolOp .Or (b::rest) pos) sb):aN T E X (.BoolOp .Or (a::b::rest) pos) (gg sa sb) :=
 cT (FH ha hb) fun σ H Q ⟨ι,h,en,S,er,q⟩=>⟨ι,h,en,S,er,q.bind fun x h1 ι1 H1 u g1 S1 r1 q1=>by
  split at q1
  ·rename_i k hk
   refine ⟨k,hK▸xk S1 r1 hk,?_⟩
   by_cases hkk:k=true
   ·rw [Ku hkk] at q1 ⊢
    exact q1.now S1 r1
   ·rw [KF hkk] at q1 ⊢
    exact ⟨ι1,h1,en,S1,er.mono g1,q1⟩
  ·exact q1.elim⟩
end
end Sm
namespace L2
open PySem PySem.Spec PyProof.Rows
abbrev xS (xs:Array Value) (n:Nat) (sl:Array (Option Value)):Obj:={ cls:=.type "list",data:=.seq xs n,slots:=sl }
theorem FJ {l b:Addr} {xs ys:Array Value} {n m:Nat} {sl:Array (Option Value)} (c : ¬ (!xs.isEmpty && Builtin.List.listTooLong (xs.size+ys.size))=true) (c1:xs.size<=sizeLine) (c2:xs.size+ys.size<=sizeLine+1) :
  Meets (Builtin.«list.extend» ⟨[.ref l,.ref b],[]⟩) (fun _ R s=>s.heap.get? l=some (xS xs n #[])/\s.heap.get? b=some (xS ys m sl)/\R (.ok (.ret .none)) { s with heap:=s.heap.update l (Obj.mapSeq fun x=>x++ys),toks:=s.toks }):=by
 refine .of_wp fun _ _ _ _ s z=>?_
 cases s
 have z1:=z.1
 have z2:=z.2.1
 have z3:=z.2.2
 have k1:=PySem.AutoSeq1.idx_int
 have k2:=PySem.AutoSeq1.sub_tuple_tuple
 have k3:=PySem.AutoSeq1.sub_list_list
 have k4:=PySem.AutoSeq1.sub_tuple_list
 have k5:=PySem.AutoSeq1.sub_list_tuple
 have sz:(xs++ys).size<=sizeLine+1:=by rw [Oi];exact c2
 wp_walk using (wpAny_updateSeq z1 rfl (hz:=c1) (_hz' := sz)),MD z1,MD z2
 exact ⟨_,rfl,z3⟩
section
variable {X:Cx}
def FK (K:PySem.W.Frag):V->List V->Hp->VK->Prop:=fun x vs H Q=>∃ l b xs zs,x = .ref l/\vs=[.ref b]/\H l=some (.lst xs)/\SqL K H b zs/\xs.length+zs.length<=sizeLine/\Q .non (aJ H l (.lst (xs++zs)))
theorem FL:eg X "list.extend" (FK X.K):=by
 intro pins s σ H x vs v us Q I rx rv h
 obtain ⟨l,b,xs,zs,rfl,rfl,hH,hB,hz,q⟩:=h
 cases rx
 obtain ⟨u,rfl,ru⟩:=rv.one
 cases ru
 obtain ⟨z,its,n,r,hl,e⟩:=I.lstM hH
 obtain ⟨its2,r2,⟨⟨oc,od,oda,osl⟩,n2,e1,e2,e3,e4⟩,hz2⟩:=I.list hB
 dsimp only at e2 e3 e4
 subst e2 e3 e4
 have hl2:=r2.length
 have hsz:its.toArray.size+its2.toArray.size<=sizeLine:=by rw [Ks,Ks];lia
 have hlong : ¬ (!its.toArray.isEmpty && Builtin.List.listTooLong (its.toArray.size+its2.toArray.size))=true:=by
  rw [wt hsz,Bool.and_false];exact KO
 refine ME F.slot_list_extend ⟨_,e,rfl⟩ F.entry_list_extend (F.args_list_extend_2 _ _)
  (FJ (n:=n) (m:=n2) (sl:=osl) hlong (by rw [Ks];lia) (by lia)) ⟨e,e1,?_⟩
 refine ⟨.non,_,I.lset (its' := its++its2) hH e (by simp) (r.append r2) ?_,rfl,q⟩
 rw [Kq];lia
theorem FN:eg X "str.startswith" (fun x vs H Q=>∃ z y,x = .str z/\vs=[.str y]/\Q (.bl (Txt.startswith z y)) H):=by
 intro pins s σ H x vs v us Q I rx rv h
 obtain ⟨z,y,rfl,rfl,q⟩:=h
 obtain ⟨t,rfl⟩:=rx
 cases rv with
 | cons r1 r2 =>
  cases r2
  obtain ⟨t1,rfl⟩:=r1
  exact PySem.SC.startswith ⟨.bl _,H,I,rfl,q⟩
end
end L2
namespace Sm
open PySem PySem.Spec L2
@[simp] def lZ:FM:=fun x vs h=>match x,vs with
 | .ref n,[y]=>match h[n]?,dR y h with
  | some (.lst xs),some ys=>if xs.length+ys.length<=sizeLine then .ok .non (h.set n (.lst (xs++ys))) else .bad
  | _,_=>.bad
 | _,_=>.bad
theorem FO {T:Tb} {X:Cx} (hK:X.K=T.K):∃ r,eg X "list.extend" r/\gU T lZ r:=by
 refine ⟨_,FL,fun ι h H x xs u us E Q S rx rs q=>?_⟩
 unfold lZ at q
 split at q
 ·rename_i n y
  split at q
  ·rename_i ys zs hn hy
   split at q
   ·rename_i hl
    cases rx with
    | @ref _ ad hr =>
     cases rs with
     | @cons _ uu _ _ r r' =>
      cases r'
      obtain ⟨o,e1,ws,rfl,rw_⟩:=S.obj n _ ad hn hr
      obtain ⟨bd,ws2,rfl,sq,rw2⟩:=fz S r hy
      have g:=S.growSet (u:=.lst (ws++ws2)) hr
      exact ⟨ad,bd,ws,ws2,rfl,rfl,e1,hK▸sq,by rw [<- rw_.length,<- rw2.length];exact hl,q ι _ _ g (S.set hr ⟨_,rfl,(rw_.mono g).append (rw2.mono g)⟩) .non⟩
   ·exact q.elim
  ·exact q.elim
 ·exact q.elim
def pG:FM:=fun x vs h=>match x,vs with
 | .str z,[.str y]=>.ok (.bl (Txt.startswith z y)) h
 | _,_=>.bad
theorem FP {T:Tb} {X:Cx}:∃ r,eg X "str.startswith" r/\gU T pG r:=by
 refine ⟨_,FN,fun ι h H x xs u us E Q S rx rs q=>?_⟩
 unfold pG at q
 split at q
 ·cases rs with
  | cons r r' =>
   cases r'
   obtain ⟨rfl,_⟩:=dP rx
   obtain ⟨rfl,_⟩:=dP r
   exact ⟨_,_,rfl,rfl,q.now S (.bl _)⟩
 ·exact q.elim
@[simp] def kM (a b:SE):jA:=fun en h=>(a en h).bind fun v h1=>(b en h1).bind fun w h2=>match v,w with
 | .ref n,.fl ys=>(match h2[n]? with
  | some (.lst xs)=>.ok (eC xs ys,some n,xs) h2
  | _=>.bad)
 | _,_=>.bad
section
variable {T:Tb} {E:L2.St->XK} {X:Cx} {pos:Pos} {a b:Expr} {sa sb:SE}
theorem xT {ι:Ix} {H:Hp} {a b:Addr} {ws:List V} {xs ys:List AV} {K:PySem.W.Frag} {n:Nat} (keep:∀ (ι':Ix) (H':Hp),Ext ι H ι' H'->SqL K H' b ws) (r:RVs T ι H ys ws) (e:ι.refs[n]? = some a):nC T (pE K a b) ι H (eC xs ys) (cP (some n) xs):=by
 have at_:∀ {ι':Ix} {h':AH} {H':Hp},Ext ι H ι' H'->Sim T ι' h' H'->cP (some n) xs h'=true->∃ us,SqL K H' a us/\RVs T ι' H' xs us:=fun {ι' h' H'} g S l=>by
  unfold cP at l
  dsimp only at l
  split at l
  ·rename_i zs hy
   have z:=My l
   subst z;obtain ⟨u2,e3,us2,rfl,r2⟩:=S.obj n _ _ hy (g.at_ e)
   exact ⟨us2,.of e3,r2⟩
  ·cases l
 refine ⟨fun i ι' h' H' z g S lv hx=>?_,fun i ι' h' H' g S lv hi=>?_⟩
 ·obtain ⟨us,sq,rs⟩:=at_ g S lv
  obtain ⟨x,y,rfl,ex,ey⟩:=sL _ _ _ _ hx
  obtain ⟨u,e1,r1⟩:=rs.get ex
  obtain ⟨v,e2,r2⟩:=(r.ext g).get ey
  refine ⟨⟨us,ws,u,v,sq,keep ι' H' g,e1,e2⟩,?_⟩
  rintro u2 H2 ⟨t,x2,y2,rfl,hn,rfl,hx2,hy2⟩
  have z1:=hx2 us sq
  rw [e1] at z1;cases z1
  have z2:=hy2 ws (keep ι' H' g)
  rw [e2] at z2;cases z2
  have g2:=S.growNew (o:=.tup [u,v]) hn
  exact ⟨g2,S.new hn,.tup (S.fresh hn) eG (.cons (r1.mono g2) (.cons (r2.mono g2) .nil))⟩
 ·obtain ⟨us,sq,rs⟩:=at_ g S lv
  rw [sM] at hi;exact ⟨us,ws,sq,keep ι' H' g,by rw [<- r.length,<- rs.length];lia⟩
theorem FQ {p tp:Pos} {es:List Expr} {k:Nat} (hK:X.K=T.K) (hg:Gl X "zip") (hm:X.mg "zip" = none) (ha:aN T E X a sa) (hb:aN T E X b sb) (hs:starEach [a,b] X.env=[(false,eval a X.env),(false,eval b X.env)]:=by rfl) (hs2:starEach [b] X.env=[(false,eval b X.env)]:=by rfl) :
  PI X (.Tuple es k tp) (.Call (.Name "zip" p) [a,b] [] pos) (lU T (kM sa sb)) :=
 ni (xR hg hm (ak ha (ak hb au hs2) (by rw [hs,hs2])) hs hs2) fun σ H R ⟨ι,h,en,S,er,q⟩=>by
  unfold kM at q
  refine ⟨ι,h,en,S,er,?_⟩
  unfold aj
  cases e:sa en h with
  | bad=>rw [e] at q;exact q
  | ex c h1=>rw [e] at q;exact q.elim
  | ok v h1 =>
   rw [e] at q;dsimp only [Out.bind] at q ⊢
   cases e':sb en h1 with
   | bad=>rw [e'] at q;exact q
   | ex c h1=>rw [e'] at q;exact q.elim
   | ok v' h2 =>
    rw [e'] at q;dsimp only at q
    intro ι1 H1 u g1 S1 r1
    cases r1 with
    | cons r r' =>
     cases r' with
     | cons r2 r3 =>
      cases r3
      cases v with
      | ref n =>
       cases v' with
       | fl ys =>
        dsimp only at q
        cases e2:h2[n]? with
        | none=>rw [e2] at q;exact q.elim
        | some o =>
         rw [e2] at q
         cases o with
         | lst xs =>
          cases r with
          | ref hr =>
           obtain ⟨u,e1,us,rfl,rs⟩:=S1.obj n _ _ e2 hr
           cases r2 with
           | fl m hr2 rs2=>exact ⟨_,_,rfl,⟨_,.of e1⟩,⟨_,gv hK (.inl hr2)⟩,q ι1 H1 _ g1 S1 (hK▸xT (kJ m hr2) rs2 hr)⟩
           | kfl hr2 rs2=>exact ⟨_,_,rfl,⟨_,.of e1⟩,⟨_,gv hK (.inr hr2)⟩,q ι1 H1 _ g1 S1 (hK▸xT (fun _ _ _=>.inr hr2) rs2 hr)⟩
         | _=>exact q.elim
       | _=>exact q.elim
      | _=>exact q.elim
end
end Sm
namespace L2
open PySem PySem.Spec
theorem Room.m {j k:Nat} {A:Around} (hr:Room k A) (h:Nat.ble j k=true:=by rfl):Room j A:=hr.mono (Nat.le_of_ble_eq_true h)
end L2
namespace Sm
open PySem PySem.Spec L2
def DK (K:PySem.W.Frag) (x:Str) (st:Stmt):Prop:=∃ f fd,PySem.W.nsIn K mainGlobals x=some (some (.ref f))/\Fun K x x st f fd
def DN (K:PySem.W.Frag) (C:Addr) (m q:Str) (st:Stmt):Prop:=∃ f fd,iz K C m f/\Fun K m q st f fd
def fC (K:PySem.W.Frag) (cls:Nat->Option Addr) (c:Nat) (m q:Str) (st:Stmt) (ps:List Str):Prop:=∃ C f fd,cls c=some C/\Cls K C/\iz K C m f/\Binds K fd ps []/\Fun K m q st f fd
def DI (K:PySem.W.Frag) (cls:Nat->Option Addr) (mg:Str->Option Value) (c:Nat) (x q:Str) (st:Stmt) (ps:List Str):Prop:=∃ C f fd,cls c=some C/\mg x=some (.ref C)/\Mk K C f/\Binds K fd ps []/\Fun K "__init__" q st f fd
section
variable {P:Program} {w:World} {K:PySem.W.Frag} {mg:Str->Option Value} {base h:Heap} {T:Tb} {x m q:Str} {st:Stmt} {f C:Addr} {N ps:List Str} {k c:Nat} {b:SS} {cls:Nat->Option Addr}
section
variable {oc:Value} {od an:Option Addr} {osl:Array (Option Value)} {kV doc pm cdv ct:Value}
theorem dk (a:PySem.W.nsIn K mainGlobals x=some (some (.ref f))) (l:K.lookup f=some ⟨oc,od,.func (PySem.W.fnOf x x (ku st) (iQ st) (aO st) .none kV doc pm an cdv ct),osl⟩)
  (c:PySem.W.codeIn K cdv x=true) (k:PySem.W.keepIn K (.ref f)=true):DK K x st:=⟨f,_,a,wB l c k⟩
theorem dn (a:PySem.W.findIn K (.ref C) m=some (some (.ref f))) (i:PySem.W.isFn K (.ref f)=true) (l:K.lookup f=some ⟨oc,od,.func (PySem.W.fnOf m q (ku st) (iQ st) (aO st) .none kV doc pm an cdv ct),osl⟩)
  (c:PySem.W.codeIn K cdv q=true) (k:PySem.W.keepIn K (.ref f)=true):DN K C m q st:=⟨f,_,⟨a,i,k⟩,wB l c k⟩
end
abbrev BA (x q:Str) (st:Stmt) (us:List Value) (r:List (Str×Value)):Prop:=∀ (kV doc pm:Value) (an:Option Addr) (cdv ct:Value),bindArgs (PySem.W.fnOf x q (ku st) (iQ st) (aO st) .none kV doc pm an cdv ct) ⟨us,[]⟩=pure r
def BL (x q:Str) (st:Stmt) (ps:List Str):Prop:=∀ (us:List Value),us.length=ps.length->BA x q st us (ps.zip us)
theorem iU {p1:Str} (h:∀ a,BA x q st [a] [(p1,a)]:=by exact fun _ _ _ _ _ _ _=>rfl):BL x q st [p1]:=fun us e=>by obtain ⟨_,rfl⟩:=Fg e;exact h _
theorem dC {p1 p2:Str} (h:∀ a b,BA x q st [a,b] [(p1,a),(p2,b)]:=by exact fun _ _ _ _ _ _ _ _=>rfl):BL x q st [p1,p2]:=fun us e=>by obtain ⟨_,_,rfl⟩:=Fh e;exact h _ _
theorem eD {p1 p2 p3:Str} (h:∀ a b c,BA x q st [a,b,c] [(p1,a),(p2,b),(p3,c)]:=by exact fun _ _ _ _ _ _ _ _ _=>rfl):BL x q st [p1,p2,p3]:=fun us e=>by obtain ⟨_,_,_,rfl⟩:=Fi e;exact h _ _ _
theorem sP {p1 p2 p3 p4:Str} (h:∀ a b c d,BA x q st [a,b,c,d] [(p1,a),(p2,b),(p3,c),(p4,d)]:=by exact fun _ _ _ _ _ _ _ _ _ _=>rfl):BL x q st [p1,p2,p3,p4]:=fun us e=>by obtain ⟨_,_,_,_,rfl⟩:=Fj e;exact h _ _ _ _
theorem dg (X:K.In h) (G:h.Ns mainGlobals mg) (d:DK K x st) (hb:BL x x st ps):DG K mg x st ps:=by
 obtain ⟨f,fd,a,F⟩:=d
 exact ⟨f,fd,Mc X G a,F.kp,F.binds fun _ _ _ _ _ _ us hl=>hb us hl _ _ _ _ _ _,F⟩
theorem dm (hc:cls c=some C) (k:Cls K C) (d:DN K C m q st) (hb:BL m q st ps):fC K cls c m q st ps:=by
 obtain ⟨f,fd,M,F⟩:=d
 exact ⟨C,f,fd,hc,k,M,F.binds fun _ _ _ _ _ _ us hl=>hb us hl _ _ _ _ _ _,F⟩
theorem di (hc:cls c=some C) (hx:mg x=some (.ref C)) (mk:PySem.W.makesIn K C=true) (kc:PySem.W.keepIn K (.ref C)=true) (d:DN K C "__init__" q st) (hb:BL "__init__" q st ps):DI K cls mg c x q st ps:=by
 obtain ⟨f,fd,M,F⟩:=d
 exact ⟨C,f,fd,hc,hx,⟨mk,M.at_,M.fn,kc⟩,F.binds fun _ _ _ _ _ _ us hl=>hb us hl _ _ _ _ _ _,F⟩
theorem sQ {fa:Addr} {p:Str} (X:K.In h) (G:h.Ns mainGlobals mg) (hfa:mg x=some (.ref fa)) (d:DK K x st) (hb:BL x x st [p]):∃ fd:FuncData,(∀ (s:Shared) (v:Value),BindsTo s fd ⟨[v],[]⟩ [(p,v)])/\Fun K x x st fa fd:=by
 obtain ⟨f,fd,a,F⟩:=d
 have e:=hfa.symm.trans (Mc X G a)
 cases e
 refine ⟨fd,fun s v=>?_,F⟩
 obtain ⟨oc,od,kV,doc,pm,an,cdv,ct,osl,rfl,lk,hcd⟩:=F.ex
 exact .of_eq (hb [v] rfl _ _ _ _ _ _)
theorem bC {sc:Scope} (h1:sc.kind = .function:=by rfl) (h2:sc.isCoroutine=false:=by rfl) (h3:sc.isGenerator=false:=by rfl) (h4:N.Nodup:=by decide +kernel) (h5:N.take ps.length=ps:=by rfl)
  (h6:∀ x∈ps,sc.names.lookup x=some .local\/sc.names.lookup x=some .cell:=by decide +kernel) (h7:∀ y∈sc.names,y.2 ≠ .free:=by decide +kernel):aq N ps sc:=⟨h1,h2,h3,h4,h5,h6,h7⟩
abbrev pH (P:Program) (w:World) (mg:Str->Option Value) (base:Heap) (T:Tb) (q:Str) (st:Stmt) (f:Addr) (N:List Str) (k:Nat) (b:SS):Prop :=
 ∀ {cdv:Value} {A:Around} {outer:List Env} {s:Shared} {H:Hp} {E:XK},Room k (A.deeper (PyProof.Rows.envOfC q (aO st) s.heap.objs.size f cdv))->CA T (fun _=>E) (cM (du P w) P w T.K mg base N q (aO st) f cdv A outer s H E) ->
  (A.deeper (PyProof.Rows.envOfC q (aO st) s.heap.objs.size f cdv)).units+64<cLine->N.Nodup->dc T (fun _=>E) (cM (du P w) P w T.K mg base N q (aO st) f cdv A outer s H E) (iQ st) b
theorem gf (d:DG T.K mg x st ps) (S:aq N ps (aO st)) (hb:∀ {f},pH P w mg base T x st f N k b):GF P w T mg base (k+1) x (aF ps.length N.length b):=by
 obtain ⟨f,fd,h1,h2,h3,h4⟩:=d
 exact ⟨f,fd,_,h1,h2,h3,pe h4 rfl S fun cdv A outer s H E hr C=>hb hr C (jd hr) S.nd⟩
theorem gm (d:fC T.K T.cls c m q st ps) (S:aq N ps (aO st)) (no:m∉T.fields c) (hb:∀ {f},pH P w mg base T q st f N k b):GM P w T mg base (k+1) c m (aF ps.length N.length b):=by
 obtain ⟨C,f,fd,h0,hc,h1,h3,h4⟩:=d
 exact ⟨⟨C,f,fd,_,h0,hc,h1,h3,pe h4 rfl S fun cdv A outer s H E hr C=>hb hr C (jd hr) S.nd⟩,no⟩
theorem gk (d:DI T.K T.cls mg c x q st ps) (S:aq N ps (aO st)) (hb:∀ {f},pH P w mg base T q st f N k b):GK P w T mg base (k+1) c x (aF ps.length N.length b):=by
 obtain ⟨C,f,fd,h0,h1,h2,h3,h4⟩:=d
 exact ⟨C,f,fd,_,h0,h1,h2,h3,pe h4 rfl S fun cdv A outer s H E hr C=>hb hr C (jd hr) S.nd⟩
theorem gl {f:Addr} {fd:FuncData} (h4:Fun T.K x x st f fd) (S:aq N ps (aO st)) (hb:pH P w mg base T x st f N k b):FnOk P w T.K mg base (du P w) (k+1) f fd ps (jv T (aF ps.length N.length b)) :=
 pe h4 rfl S fun cdv A outer s H E hr C=>hb hr C (jd hr) S.nd
def XI (K:PySem.W.Frag) (X:Addr):Prop:=PySem.W.excIn K X [.type "ValueError",.type "Exception",.type "BaseException",.type "object"] "ValueError.__new__" = true
theorem xi {X:Addr} (h:PySem.W.excIn K X [.type "ValueError",.type "Exception",.type "BaseException",.type "object"] "ValueError.__new__" = true):XI K X:=h
theorem gx {X:Addr} {n:Nat} {g:Heap} (KB:K.In g) (KX:K.In h) (G:h.Ns mainGlobals mg) (hc:T.exc n=some X) (e:PySem.W.nsIn K mainGlobals x=some (some (.ref X))) (hx:XI K X):GX T mg g n x:=⟨X,hc,DM KB (Mc KX G e) hx⟩
def NA (K:PySem.W.Frag) (x:Str) (v:Option Value):Prop:=PySem.W.nsIn K mainGlobals x=some v
theorem na {v:Option Value} (h:PySem.W.nsIn K mainGlobals x=some v):NA K x v:=h
def FA (K:PySem.W.Frag) (C:Addr) (x:Str):Prop:=PySem.W.findIn K (.ref C) x=some none
theorem fatt (h:PySem.W.findIn K (.ref C) x=some none):FA K C x:=h
end
end Sm
namespace Sk
open PySem PySem.Spec L2 Sm
abbrev Kb:Nat:=0
abbrev Kc:Nat:=1
abbrev Kd:Nat:=2
abbrev FR:Nat:=3
abbrev FS:Nat:=4
abbrev FT:Nat:=5
def nE:Fn:=aF 1 1
  (ao (jg 0 0 (ae 0) (dw af))
  (ao (jg 0 1 (ae 0) (w4 true))
  (ao (jg 0 2 (ae 0) (dw (aj (ai (.int 0)) af)))
  (ao (jg 0 3 (ae 0) (dw (aj (ai (.int 0)) af)))
  (ao (jg 0 4 (ae 0) (dw (aj (ai (.int 0)) af)))
  (ao (jg 0 5 (ae 0) (dw (aj (fi cU (ai (.int 1))) af)))
  (ao (jg 0 6 (ae 0) (dw (aj (ai (.int 0)) af)))
  (jg 0 7 (ae 0) (dw (aj (ai (.int 0)) af))))))))))
def bV:Fn:=aF 2 3
  (ao (aw 2 (ah bz (ah aB (ae 0) (ai (.int 0))) (ae 1)))
  (ao (ic (ae 0) (ai (.int 0)) (ah gN (ah aB (ae 0) (ai (.int 0))) (ae 1)))
  (aA (ae 2))))
def kN:SS :=
  (aw 5 (ah ar (ae 5) (ah aB (ae 4) (ax bV (aj (ae 0) (aj (ax az (aj (ae 4) af)) af))))))
def j0:Fn:=aF 2 7
  (ao (aw 2 (ai (.str "abcdefghijklmnopqrstuvwxyz")))
  (ao (aw 3 (ah ar (ah ar (ae 2) (fy kH pC (ae 2))) (ai (.str " !#$&'()*+,-./0123456789:;<=>?\x40[]^_{|}~\n\\"))))
  (ao (aw 4 (ah aB (aS (aj (ai (.str "a")) (aj (ai (.str "ab")) (aj (ai (.str "ab\n")) (aj (ai (.str "a \n~")) (aj (ae 3) af)))))) (ax bV (aj (ae 0) (aj (ai (.int 5)) af)))))
  (ao (aw 5 (ai (.str "")))
  (ao (bf (fY (ax bV (aj (ae 0) (aj (ah ar (ae 1) (ai (.int 1))) af)))) (.nm 6) kN)
  (aA (ae 5)))))))
def l9:Fn:=aF 1 1
  (aA (lL (cV "int" (ae 0)) (rT (cV "bool" (ae 0)))))
def gY:Fn:=aF 2 2
  (aA (lL (ax l9 (aj (ae 1) af)) (mW iB iB (ai (.int 1)) (ae 1) (ax az (aj (Sm.sFld 0 0 (ae 0)) af)))))
def kO:Fn:=aF 2 2
  (bh (eK (dX (aT 0 gY (ae 0) (aj (ae 1) af)))) (jh 2 (aj (ai (.str "no piece of the shelf has this number")) af)) bH)
def j3:Fn:=aF 3 4
  (ao (bJ (aT 0 kO (ae 0) (aj (ae 1) af)))
  (ao (bJ (aT 0 kO (ae 0) (aj (ae 2) af)))
  (ao (aw 3 (ah ar (ah aB (Sm.sFld 0 2 (ae 0)) (ah aB (Sm.sFld 0 7 (ae 0)) (ae 1))) (ah aB (Sm.sFld 0 2 (ae 0)) (ah aB (Sm.sFld 0 6 (ae 0)) (ae 2)))))
  (ao (bh (aQ (ah iB (ae 3) (ai (.int 8)))) (jh 3 (aj (ai (.str "the leaves where the parts meet have no more than eight signs together")) af)) bH)
  (ao (bh (aQ (ah gO (ax kG (aj (ah dy (ah aB (Sm.sFld 0 5 (ae 0)) (ae 1)) (ah aB (Sm.sFld 0 5 (ae 0)) (ae 2))) af)) (ai (.int 1)))) (jh 4 (aj (ai (.str "the heights of the parts differ by more than one")) af)) bH)
  (bh (aQ (ah gO (ah ar (ah aB (Sm.sFld 0 2 (ae 0)) (ae 1)) (ah aB (Sm.sFld 0 2 (ae 0)) (ae 2))) (ai (.int 1000000000000000000)))) (jh 5 (aj (ai (.str "the fork would have more than 10 ** 18 signs")) af)) bH))))))
def nF:Fn:=aF 2 3
  (ao (bJ (cF aL bo (Sm.sFld 0 0 (ae 0)) (aj (ae 1) af)))
  (ao (aw 2 (ax az (aj (Sm.sFld 0 0 (ae 0)) af)))
  (ao (ic (Sm.sFld 0 1 (ae 0)) (ae 1) (ae 2))
  (aA (ae 2)))))
def nG:Fn:=aF 2 4
  (ao (bJ (aT 0 nF (ae 0) (aj (ae 1) af)))
  (ao (aw 2 (ah aB (ae 1) (ai (.int 1))))
  (ao (aw 3 (ah aB (ae 1) (ai (.int 2))))
  (ao (bJ (cF aL bo (Sm.sFld 0 2 (ae 0)) (aj (ah ar (ah aB (Sm.sFld 0 2 (ae 0)) (ae 2)) (ah aB (Sm.sFld 0 2 (ae 0)) (ae 3))) af)))
  (ao (bJ (cF aL bo (Sm.sFld 0 3 (ae 0)) (aj (ah ar (ah aB (Sm.sFld 0 3 (ae 0)) (ae 2)) (ah aB (Sm.sFld 0 3 (ae 0)) (ae 3))) af)))
  (ao (bJ (cF aL bo (Sm.sFld 0 4 (ae 0)) (aj (ah ar (ah aB (Sm.sFld 0 4 (ae 0)) (ae 2)) (ah aB (Sm.sFld 0 4 (ae 0)) (ae 3))) af)))
  (ao (bJ (cF aL bo (Sm.sFld 0 5 (ae 0)) (aj (ah ar (ax rX (aj (ah aB (Sm.sFld 0 5 (ae 0)) (ae 2)) (aj (ah aB (Sm.sFld 0 5 (ae 0)) (ae 3)) af))) (ai (.int 1))) af)))
  (ao (bJ (cF aL bo (Sm.sFld 0 6 (ae 0)) (aj (ah aB (Sm.sFld 0 6 (ae 0)) (ae 2)) af)))
  (bJ (cF aL bo (Sm.sFld 0 7 (ae 0)) (aj (ah aB (Sm.sFld 0 7 (ae 0)) (ae 3)) af)))))))))))
def bu:Fn:=aF 3 4
  (ao (bJ (aT 0 j3 (ae 0) (aj (ae 1) (aj (ae 2) af))))
  (ao (aw 3 (kD (aj (ai (.str "fork")) (aj (ae 1) (aj (ae 2) af)))))
  (ao (bh (aQ (ah rW (ae 3) (Sm.sFld 0 1 (ae 0)))) (bJ (aT 0 nG (ae 0) (aj (ae 3) af))) bH)
  (aA (ah aB (Sm.sFld 0 1 (ae 0)) (ae 3))))))
def sR (G:Fn):Fn:=aF 2 3
  (ao (bh (aQ (ah aH (ax az (aj (ae 1) af)) (ai (.int 1)))) (aA (ah aB (ae 1) (ai (.int 0)))) bH)
  (ao (aw 2 (ah gN (ax az (aj (ae 1) af)) (ai (.int 2))))
  (aA (aT 0 bu (ae 0) (aj (ax G (aj (ae 0) (aj (bI (ae 1) none (some (ae 2))) af))) (aj (ax G (aj (ae 0) (aj (bI (ae 1) (some (ae 2)) none) af))) af))))))
def iF:Nat->Fn
 | 0=>aF 2 3 (fun _ _=>.bad)
 | d+1=>sR (iF d)
def nH:Fn:=aF 1 1
  (aA (kE (ah aH (ae 0) (ai (.str "\n"))) (mW iB iB (ai (.str " ")) (ae 0) (ai (.str "~")))))
def kP:Fn:=aF 1 1
  (ao (bh (eK (dX (cV "str" (ae 0)))) (aA (ai (.bl false))) bH)
  (aA (ax fq (aj (dh [] (aK (ae 0)) aR (ax nH (aj (ae 0) af))) af))))
def iG:Fn:=aF 1 1
  (aA (lL (ax kP (aj (ae 0) af)) (mW iB iB (ai (.int 1)) (ax az (aj (ae 0) af)) (ai (.int 8)))))
def pI:Fn:=aF 1 1
  (aA (cF kH rZ (ae 0) (aj (ai (.str "\n")) af)))
def nJ:Fn:=aF 2 4
  (ao (aw 2 (aT 0 nF (ae 0) (aj (ae 1) af)))
  (ao (aw 3 (ah aB (ae 1) (ai (.int 1))))
  (ao (bJ (cF aL bo (Sm.sFld 0 2 (ae 0)) (aj (ax az (aj (ae 3) af)) af)))
  (ao (bJ (cF aL bo (Sm.sFld 0 3 (ae 0)) (aj (ax pI (aj (ae 3) af)) af)))
  (ao (bJ (cF aL bo (Sm.sFld 0 4 (ae 0)) (aj (ai (.int 1)) af)))
  (ao (bJ (cF aL bo (Sm.sFld 0 5 (ae 0)) (aj (ai (.int 0)) af)))
  (ao (bJ (cF aL bo (Sm.sFld 0 6 (ae 0)) (aj (ae 2) af)))
  (bJ (cF aL bo (Sm.sFld 0 7 (ae 0)) (aj (ae 2) af))))))))))
def gA:Fn:=aF 2 3
  (ao (bh (eK (dX (ax iG (aj (ae 1) af)))) (jh 1 (aj (ai (.str "a leaf is a plain text of one to eight signs")) af)) bH)
  (ao (aw 2 (kD (aj (ai (.str "leaf")) (aj (ae 1) af))))
  (ao (bh (aQ (ah rW (ae 2) (Sm.sFld 0 1 (ae 0)))) (bJ (aT 0 nJ (ae 0) (aj (ae 2) af))) bH)
  (aA (ah aB (Sm.sFld 0 1 (ae 0)) (ae 2))))))
def kQ:Fn:=aF 2 3
  (ao (bh (eK (dX (ax kP (aj (ae 1) af)))) (jh 1 (aj (ai (.str "a text is built of a plain text")) af)) bH)
  (ao (bh (aQ (ah gO (ax az (aj (ae 1) af)) (ai (.int 10000)))) (jh 5 (aj (ai (.str "a text is built of ten thousand signs at most")) af)) bH)
  (ao (bh (aQ (ah aH (ae 1) (ai (.str "")))) (aA (ai (.int 0))) bH)
  (ao (aw 2 (dh [0,1] (jz (ai (.int 0)) (ax az (aj (ae 1) af)) (ai (.int 8))) aR (aT 0 gA (ae 1) (aj (bI (ae 2) (some (ae 0)) (some (ah ar (ae 0) (ai (.int 8))))) af))))
  (aA (ax (iF 20) (aj (ae 0) (aj (ae 2) af))))))))
def pJ:Fn:=aF 1 1
  (bh (aQ (ah gO (ae 0) (ai (.int 1000000000000000000)))) (jh 5 (aj (ai (.str "the text would have more than 10 ** 18 signs")) af)) bH)
def ik:Fn:=aF 2 2
  (bh (aQ (ah aI (ae 1) (ai (.int 0)))) (bJ (aT 0 kO (ae 0) (aj (ae 1) af))) bH)
def jB:Fn:=aF 2 2
  (ao (bJ (aT 0 ik (ae 0) (aj (ae 1) af)))
  (aA (ah aB (Sm.sFld 0 2 (ae 0)) (ae 1))))
def nK:Fn:=aF 2 2
  (ao (bJ (aT 0 ik (ae 0) (aj (ae 1) af)))
  (aA (ah aB (Sm.sFld 0 7 (ae 0)) (ae 1))))
def nL:Fn:=aF 2 2
  (ao (bJ (aT 0 ik (ae 0) (aj (ae 1) af)))
  (aA (ah aB (Sm.sFld 0 6 (ae 0)) (ae 1))))
def pK:Fn:=aF 3 3
  (aA (ah gO (ah ar (aT 0 jB (ae 0) (aj (aT 0 nK (ae 0) (aj (ae 1) af)) af)) (aT 0 jB (ae 0) (aj (aT 0 nL (ae 0) (aj (ae 2) af)) af))) (ai (.int 8))))
def dZ:Fn:=aF 2 2
  (ao (bJ (aT 0 kO (ae 0) (aj (ae 1) af)))
  (aA (ah aB (Sm.sFld 0 0 (ae 0)) (ah dy (ae 1) (ai (.int 1))))))
def sS (G:Fn):Fn:=aF 3 4
  (ao (aw 3 (aT 0 dZ (ae 0) (aj (ae 1) af)))
  (ao (bh (aQ (ah aH (ah aB (ae 3) (ai (.int 0))) (ai (.str "leaf")))) (aA (ae 2)) bH)
  (aA (aT 0 bu (ae 0) (aj (ah aB (ae 3) (ai (.int 1))) (aj (ax G (aj (ae 0) (aj (ah aB (ae 3) (ai (.int 2))) (aj (ae 2) af)))) af))))))
def ip:Nat->Fn
 | 0=>aF 3 4 (fun _ _=>.bad)
 | d+1=>sS (ip d)
def gZ:Fn:=aF 2 2
  (ao (bJ (aT 0 ik (ae 0) (aj (ae 1) af)))
  (aA (ah aB (Sm.sFld 0 5 (ae 0)) (ae 1))))
def gB:Fn:=aF 3 7
  (ao (bh (aQ (ah iS (ah dy (aT 0 gZ (ae 0) (aj (ae 2) af)) (aT 0 gZ (ae 0) (aj (ae 1) af))) (ai (.int 2)))) (aA (aT 0 bu (ae 0) (aj (ae 1) (aj (ae 2) af)))) bH)
  (ao (aw 3 (aT 0 dZ (ae 0) (aj (ae 2) af)))
  (ao (aw 4 (ah aB (ae 3) (ai (.int 1))))
  (ao (aw 5 (ah aB (ae 3) (ai (.int 2))))
  (ao (bh (aQ (ah iB (aT 0 gZ (ae 0) (aj (ae 4) af)) (aT 0 gZ (ae 0) (aj (ae 5) af)))) (aA (aT 0 bu (ae 0) (aj (aT 0 bu (ae 0) (aj (ae 1) (aj (ae 4) af))) (aj (ae 5) af)))) bH)
  (ao (aw 6 (aT 0 dZ (ae 0) (aj (ae 4) af)))
  (aA (aT 0 bu (ae 0) (aj (aT 0 bu (ae 0) (aj (ae 1) (aj (ah aB (ae 6) (ai (.int 1))) af))) (aj (aT 0 bu (ae 0) (aj (ah aB (ae 6) (ai (.int 2))) (aj (ae 5) af))) af))))))))))
def pL (G:Fn):Fn:=aF 2 4
  (ao (aw 2 (aT 0 dZ (ae 0) (aj (ae 1) af)))
  (ao (bh (aQ (ah aH (ah aB (ae 2) (ai (.int 0))) (ai (.str "leaf")))) (aA (ai (.int 0))) bH)
  (ao (aw 3 (ax G (aj (ae 0) (aj (ah aB (ae 2) (ai (.int 1))) af))))
  (ao (bh (aQ (ah aH (ae 3) (ai (.int 0)))) (aA (ah aB (ae 2) (ai (.int 2)))) bH)
  (aA (ax gB (aj (ae 0) (aj (ae 3) (aj (ah aB (ae 2) (ai (.int 2))) af)))))))))
def fO:Nat->Fn
 | 0=>aF 2 4 (fun _ _=>.bad)
 | d+1=>pL (fO d)
def iH:Fn:=aF 3 7
  (ao (bh (aQ (ah iS (ah dy (aT 0 gZ (ae 0) (aj (ae 1) af)) (aT 0 gZ (ae 0) (aj (ae 2) af))) (ai (.int 2)))) (aA (aT 0 bu (ae 0) (aj (ae 1) (aj (ae 2) af)))) bH)
  (ao (aw 3 (aT 0 dZ (ae 0) (aj (ae 1) af)))
  (ao (aw 4 (ah aB (ae 3) (ai (.int 1))))
  (ao (aw 5 (ah aB (ae 3) (ai (.int 2))))
  (ao (bh (aQ (ah iB (aT 0 gZ (ae 0) (aj (ae 5) af)) (aT 0 gZ (ae 0) (aj (ae 4) af)))) (aA (aT 0 bu (ae 0) (aj (ae 4) (aj (aT 0 bu (ae 0) (aj (ae 5) (aj (ae 2) af))) af)))) bH)
  (ao (aw 6 (aT 0 dZ (ae 0) (aj (ae 5) af)))
  (aA (aT 0 bu (ae 0) (aj (aT 0 bu (ae 0) (aj (ae 4) (aj (ah aB (ae 6) (ai (.int 1))) af))) (aj (aT 0 bu (ae 0) (aj (ah aB (ae 6) (ai (.int 2))) (aj (ae 2) af))) af))))))))))
def pM (G:Fn):Fn:=aF 3 5
  (ao (aw 3 (ah dy (aT 0 gZ (ae 0) (aj (ae 1) af)) (aT 0 gZ (ae 0) (aj (ae 2) af))))
  (ao (bh (aQ (ah gO (ae 3) (ai (.int 1)))) (ao (aw 4 (aT 0 dZ (ae 0) (aj (ae 1) af)))
  (aA (ax gB (aj (ae 0) (aj (ah aB (ae 4) (ai (.int 1))) (aj (ax G (aj (ae 0) (aj (ah aB (ae 4) (ai (.int 2))) (aj (ae 2) af)))) af)))))) bH)
  (ao (bh (aQ (ah iS (ae 3) (fi cU (ai (.int 1))))) (ao (aw 4 (aT 0 dZ (ae 0) (aj (ae 2) af)))
  (aA (ax iH (aj (ae 0) (aj (ax G (aj (ae 0) (aj (ae 1) (aj (ah aB (ae 4) (ai (.int 1))) af)))) (aj (ah aB (ae 4) (ai (.int 2))) af)))))) bH)
  (aA (aT 0 bu (ae 0) (aj (ae 1) (aj (ae 2) af)))))))
def fD:Nat->Fn
 | 0=>aF 3 5 (fun _ _=>.bad)
 | d+1=>pM (fD d)
def kR:Fn:=aF 3 6
  (ao (aw 3 (ah ar (ah aB (aT 0 dZ (ae 0) (aj (aT 0 nK (ae 0) (aj (ae 1) af)) af)) (ai (.int 1))) (ah aB (aT 0 dZ (ae 0) (aj (aT 0 nL (ae 0) (aj (ae 2) af)) af)) (ai (.int 1)))))
  (ao (aw 4 (ax (ip 90) (aj (ae 0) (aj (ae 1) (aj (aT 0 gA (ae 0) (aj (ae 3) af)) af)))))
  (ao (aw 5 (ax (fO 90) (aj (ae 0) (aj (ae 2) af))))
  (ao (bh (aQ (ah aH (ae 5) (ai (.int 0)))) (aA (ae 4)) bH)
  (aA (ax (fD 90) (aj (ae 0) (aj (ae 4) (aj (ae 5) af)))))))))
def iq:Fn:=aF 3 3
  (ao (bJ (ax pJ (aj (ah ar (aT 0 jB (ae 0) (aj (ae 1) af)) (aT 0 jB (ae 0) (aj (ae 2) af))) af)))
  (ao (bh (aQ (ah aH (ae 1) (ai (.int 0)))) (aA (ae 2)) bH)
  (ao (bh (aQ (ah aH (ae 2) (ai (.int 0)))) (aA (ae 1)) bH)
  (ao (bh (dX (ax pK (aj (ae 0) (aj (ae 1) (aj (ae 2) af))))) (aA (ax (fD 90) (aj (ae 0) (aj (ae 1) (aj (ae 2) af))))) bH)
  (aA (ax kR (aj (ae 0) (aj (ae 1) (aj (ae 2) af)))))))))
def j4:SS :=
  (ao (aw 5 (ah ar (ai (.int 1)) (ax bV (aj (ae 1) (aj (ai (.int 12)) af)))))
  (ao (bJ (cF aL bo (ae 4) (aj (bI (ae 2) none (some (ae 5))) af)))
  (aw 2 (bI (ae 2) (some (ae 5)) none))))
def jC:SS :=
  (aw 6 (ax iq (aj (ae 0) (aj (ae 6) (aj (ax kQ (aj (ae 0) (aj (ae 7) af))) af)))))
def jD:SS :=
  (aw 6 (ax iq (aj (ae 0) (aj (ax kQ (aj (ae 0) (aj (ae 7) af))) (aj (ae 6) af)))))
def jE:Fn:=aF 3 8
  (ao (aw 3 (ax bV (aj (ae 1) (aj (ai (.int 3)) af))))
  (ao (bh (aQ (ah aH (ae 3) (ai (.int 0)))) (aA (ax kQ (aj (ae 0) (aj (ae 2) af)))) bH)
  (ao (aw 4 (dw af))
  (ao (bF (aQ (ah aI (ae 2) (ai (.str "")))) j4 cf)
  (ao (aw 6 (ai (.int 0)))
  (ao (bh (aQ (ah aH (ae 3) (ai (.int 1)))) (bf (aK (ae 4)) (.nm 7) jC) (kL (ae 4) (.nm 7) jD))
  (aA (ae 6))))))))
def pN:Fn:=aF 2 3
  (ao (aw 2 (ah bz (ah bW (ah ar (ah ar (ah bz (ae 0) (ai (.int 1000000007))) (ah bW (ai (.int 7919)) (ae 1))) (ai (.int 101))) (ai (.int 48271))) (ai (.int 2147483647))))
  (aA (ah bz (ah bW (ah bz (ah bW (ae 2) (ae 2)) (ai (.int 2147483629))) (ai (.int 69621))) (ai (.int 2147483647)))))
def mf:SS :=
  (aw 2 (ah ar (ah bW (ae 2) (ah bW (ah de (ai (.int 10)) (ai (.int 60))) (ah de (ai (.int 10)) (ai (.int 60))))) (ah bz (ah aB (ae 0) (ae 3)) (ah bW (ah de (ai (.int 10)) (ai (.int 60))) (ah de (ai (.int 10)) (ai (.int 60)))))))
def mh:SS :=
  (aw 4 (ah ar (ah bW (ae 4) (ai (.int 2147483647))) (ax pN (aj (ah ar (ah ar (ae 2) (ah bW (ai (.int 1009)) (ae 1))) (ax az (aj (ae 0) af))) (aj (ae 3) af)))))
def iV:Fn:=aF 2 5
  (ao (aw 2 (ai (.int 0)))
  (ao (bf (jz (ae 1) (ax az (aj (ae 0) af)) (ai (.int 12))) (.nm 3) mf)
  (ao (bh (aQ (ah rS (ae 2) (ah de (ai (.int 10)) (ai (.int 18))))) (aA (dw (aj (ae 2) af))) bH)
  (ao (aw 2 (ah ar (ae 2) (ax gW (aj (dh [] (aK (ae 0)) aR (ah bz (ae 0) (ah de (ai (.int 10)) (ai (.int 18))))) af))))
  (ao (aw 4 (ai (.int 0)))
  (ao (bf (fY (ai (.int 12))) (.nm 3) mh)
  (aA (dw (aj (ae 4) af)))))))))
def iW:Fn:=aF 1 1
  (aA (ax az (aj (Sm.sFld 0 0 (ae 0)) af)))
def kS:SS :=
  (ao (aw 6 (ai (.int 0)))
  (ao (bh (dz (aQ (ah aI (ae 2) (ai (.int 0)))) (aQ (ah aH (ax bV (aj (ae 3) (aj (ai (.int 2)) af))) (ai (.int 0))))) (aw 6 (ah ar (ai (.int 1)) (ax bV (aj (ae 3) (aj (aT 0 iW (ae 0) af) af))))) (bh (aQ (ah aI (ae 1) (ai (.str "")))) (ao (aw 7 (ax bV (aj (ae 3) (aj (ah ar (ax az (aj (ae 1) af)) (ai (.int 1))) af))))
  (ao (aw 6 (ax jE (aj (ae 0) (aj (ae 3) (aj (bI (ae 1) none (some (ae 7))) af)))))
  (aw 1 (bI (ae 1) (some (ae 7)) none)))) bH))
  (bJ (cF aL bo (ae 4) (aj (ae 6) af)))))
def pO:Fn:=aF 4 8
  (ao (aw 4 (dw af))
  (ao (bf (fY (ah ar (ai (.int 2)) (ax bV (aj (ae 3) (aj (ai (.int 3)) af))))) (.nm 5) kS)
  (aA (ae 4))))
def gC:SS :=
  (ao (bh (dz (aQ (ah aI (ae 2) (aS af))) (dz (dX (cV "str" (ae 3))) (dX (cV "str" (ah aB (ae 2) (fi cU (ai (.int 1)))))))) (bh (dz (aQ (ah iS (ah ar (ax az (aj (ah aB (ae 2) (fi cU (ai (.int 1)))) af)) (ax az (aj (ae 3) af))) (ai (.int 9)))) (aQ (ah gO (ax bV (aj (ae 1) (aj (ai (.int 3)) af))) (ai (.int 0))))) (aw 3 (ah ar (fy aL bc (ae 2)) (ae 3))) bH) bH)
  (bJ (cF aL bo (ae 2) (aj (ae 3) af))))
def pP:Fn:=aF 2 4
  (ao (aw 2 (dw af))
  (ao (bf (aK (ae 0)) (.nm 3) gC)
  (aA (ae 2))))
def mm:Fn:=aF 2 2
  (ao (bJ (aT 0 ik (ae 0) (aj (ae 1) af)))
  (aA (mV (aQ (ah aH (ae 1) (ai (.int 0)))) (aS af) (dw (aj (ae 1) af)))))
def jF:Fn:=aF 3 4
  (ao (bh (dX (cV "str" (ae 2))) (aA (ai (.bl false))) bH)
  (ao (aw 3 (aT 0 dZ (ae 0) (aj (ae 2) af)))
  (ao (bh (aQ (ah aH (ah aB (ae 3) (ai (.int 0))) (ai (.str "leaf")))) (aA (ai (.bl false))) bH)
  (ao (bJ (cF aL bo (ae 1) (aj (ah aB (ae 3) (ai (.int 2))) af)))
  (ao (bJ (cF aL bo (ae 1) (aj (ah aB (ae 3) (ai (.int 1))) af)))
  (aA (ai (.bl true))))))))
def fP:SS :=
  (ao (aw 3 (fy aL bc (ae 1)))
  (ao (bh (aQ (ah aH (ae 3) (ae 2))) (aA (ai (.bl true))) bH)
  (bh (eK (dX (ax jF (aj (ae 0) (aj (ae 1) (aj (ae 3) af)))))) (aA (ai (.bl false))) bH)))
def jG:Fn:=aF 3 4
  (ao (bF (aQ (ah aI (ae 1) (aS af))) fP cf)
  (aA (ai (.bl false))))
def gh:SS :=
  (ao (aw 2 (fy aL bc (ae 1)))
  (ao (bh (dX (cV "str" (ae 2))) (aA (ae 2)) bH)
  (bh (eK (dX (ax jF (aj (ae 0) (aj (ae 1) (aj (ae 2) af)))))) (aA (ah aB (aT 0 dZ (ae 0) (aj (ae 2) af)) (ai (.int 1)))) bH)))
def kT:Fn:=aF 2 3
  (ao (bF (aQ (ah aI (ae 1) (aS af))) gh cf)
  (aA (ai (.str ""))))
def nM:Fn:=aF 2 2
  (bh (aQ (ah aI (ae 1) (ai (.str "")))) (bJ (cF aL bo (ae 0) (aj (ae 1) af))) bH)
def gi:SS :=
  (ao (aw 4 (ax kT (aj (ae 0) (aj (ae 1) af))))
  (ao (aw 5 (ax iC (aj (ax az (aj (ae 4) af)) (aj (ax az (aj (ae 3) af)) af))))
  (ao (bh (w6 (aQ (ah aH (ae 5) (ai (.int 0)))) (aQ (ah aI (bI (ae 4) none (some (ae 5))) (bI (ae 3) none (some (ae 5)))))) (aA (ai (.bl false))) bH)
  (ao (bJ (ax nM (aj (ae 1) (aj (bI (ae 4) (some (ae 5)) none) af))))
  (aw 3 (bI (ae 3) (some (ae 5)) none))))))
def j5:Fn:=aF 3 6
  (ao (aw 3 (ae 2))
  (ao (bF (aQ (ah aI (ae 3) (ai (.str "")))) gi cf)
  (aA (ai (.bl true)))))
def fE:Fn:=aF 3 3
  (ao (bh (dX (aT 0 gY (ae 0) (aj (ae 2) af))) (aA (ax jG (aj (ae 0) (aj (ae 1) (aj (ae 2) af))))) bH)
  (aA (lL (ax iG (aj (ae 2) af)) (ax j5 (aj (ae 0) (aj (ae 1) (aj (ae 2) af)))))))
def fQ:SS :=
  (bh (eK (dX (ax fE (aj (ae 0) (aj (ae 3) (aj (ae 4) af)))))) (aA (ai .non)) bH)
def gD:Fn:=aF 3 5
  (ao (aw 3 (ax mm (aj (ae 0) (aj (ae 1) af))))
  (ao (bf (aK (ae 2)) (.nm 4) fQ)
  (aA (ae 3))))
def d5:Fn:=aF 3 3
  (aA (ah aH (ax gD (aj (ae 0) (aj (ae 1) (aj (ae 2) af)))) (aS af)))
def g7:SS :=
  (ao (aw 5 (fy aL bc (ae 4)))
  (bh (aQ (ah aI (ae 5) (ai (.int 0)))) (ao (aw 6 (aT 0 dZ (ae 0) (aj (ae 5) af)))
  (ao (aw 7 (ax bV (aj (ae 2) (aj (ai (.int 4)) af))))
  (bh (aQ (ah aH (ae 7) (ai (.int 0)))) (bJ (cF aL bo (ae 3) (aj (ae 5) af))) (bh (aQ (ah aH (ah aB (ae 6) (ai (.int 0))) (ai (.str "fork")))) (bJ (cF aL gy (ae 4) (aj (dw (aj (ah aB (ae 6) (ai (.int 2))) (aj (ah aB (ae 6) (ai (.int 1))) af))) af))) (bh (aQ (ah aH (ae 7) (ai (.int 1)))) (bJ (cF aL bo (ae 3) (aj (ah aB (ae 6) (ai (.int 1))) af))) (bJ (cF aL gy (ae 3) (aj (kF [] (aK (ah aB (ae 6) (ai (.int 1)))) aR (ae 0)) af)))))))) bH))
def iX:Fn:=aF 3 8
  (ao (aw 3 (dw af))
  (ao (aw 4 (dw (aj (ae 1) af)))
  (ao (bF (aQ (ah aI (ae 4) (aS af))) g7 cf)
  (aA (ae 3)))))
def kU:SS :=
  (ao (aw 5 (ax bV (aj (ae 2) (aj (ah ar (ax az (aj (ae 0) af)) (ai (.int 1))) af))))
  (ao (bJ (cF aL bo (ae 3) (aj (bI (ae 0) none (some (ae 5))) af)))
  (aw 0 (bI (ae 0) (some (ae 5)) none))))
def pQ:Fn:=aF 3 6
  (ao (aw 3 (dw af))
  (ao (bf (fY (ah dy (ae 1) (ai (.int 1)))) (.nm 4) kU)
  (aA (ah ar (ae 3) (aS (aj (ae 0) af))))))
def eV:Fn:=aF 3 7
  (ao (aw 3 (ax fZ (aj (ae 1) af)))
  (ao (aw 4 (ax bV (aj (ae 2) (aj (ai (.int 8)) af))))
  (ao (aw 5 (ax bV (aj (ae 2) (aj (ah ar (ax az (aj (ae 3) af)) (ai (.int 1))) af))))
  (ao (bh (aQ (ah aH (ae 4) (ai (.int 0)))) (bJ (cF aL gX (ae 3) (aj (ae 5) (aj (ah ar (ai (.int 1)) (ax bV (aj (ae 2) (aj (ah ar (aT 0 iW (ae 0) af) (ai (.int 2))) af)))) af)))) (bh (aQ (ah aH (ae 4) (ai (.int 1)))) (bJ (cF aL gX (ae 3) (aj (ae 5) (aj (ah ar (ax j0 (aj (ae 2) (aj (ai (.int 3)) af))) (ai (.str "a"))) af)))) (bh (aQ (ah aH (ae 3) (aS af))) (aA (ae 3)) (bh (aQ (ah aH (ae 4) (ai (.int 2)))) (bJ (cF aL lT (ae 3) (aj (ah bz (ae 5) (ax az (aj (ae 3) af))) af))) (bh (aQ (ah aH (ae 4) (ai (.int 3)))) (bJ (cF aL gX (ae 3) (aj (ae 5) (aj (ah aB (ae 3) (ah bz (ae 5) (ax az (aj (ae 3) af)))) af)))) (bh (aQ (ah aH (ae 4) (ai (.int 4)))) (ic (ae 3) (ah bz (ae 5) (ax az (aj (ae 3) af))) (ah ar (ai (.int 1)) (ax bV (aj (ae 2) (aj (ah ar (aT 0 iW (ae 0) af) (ai (.int 1))) af))))) (bh (aQ (ah aH (ae 4) (ai (.int 5)))) (bJ (fy aL lY (ae 3))) (bh (aQ (ah aH (ae 4) (ai (.int 6)))) (aw 3 (bI (ae 3) none (some (ae 5)))) (ao (aw 6 (ah aB (ae 3) (ah bz (ae 5) (ax az (aj (ae 3) af)))))
  (bh (dX (cV "str" (ae 6))) (ic (ae 3) (ah bz (ae 5) (ax az (aj (ae 3) af))) (ah ar (bI (ae 6) none (some (fi cU (ai (.int 1))))) (ai (.str "b")))) bH))))))))))
  (aA (ae 3))))))
def iI:SS :=
  (ao (aw 4 (fy aL bc (ae 3)))
  (bh (aQ (ah aI (ae 4) (ai (.int 0)))) (ao (aw 5 (aT 0 dZ (ae 0) (aj (ae 4) af)))
  (bh (aQ (ah aH (ah aB (ae 5) (ai (.int 0))) (ai (.str "leaf")))) (aw 2 (ah ar (ae 2) (ah aB (ae 5) (ai (.int 1))))) (bJ (cF aL gy (ae 3) (aj (dw (aj (ah aB (ae 5) (ai (.int 2))) (aj (ah aB (ae 5) (ai (.int 1))) af))) af))))) bH))
def fR:Fn:=aF 2 6
  (ao (aw 2 (ai (.str "")))
  (ao (aw 3 (dw (aj (ae 1) af)))
  (ao (bF (aQ (ah aI (ae 3) (aS af))) iI cf)
  (aA (ae 2)))))
def kW:SS :=
  (bJ (aT 0 ik (ae 0) (aj (ae 4) af)))
def j6:SS :=
  (bJ (cF aL lZ (ae 5) (aj (ae 6) af)))
def nN:Fn:=aF 4 8
  (ao (bf (aK (ah ar (ae 1) (aS (aj (ae 2) af)))) (.nm 4) kW)
  (ao (bh (aQ (ah aI (ax az (aj (ae 3) af)) (ax az (aj (ae 1) af)))) (aA (ai (.bl false))) bH)
  (ao (aw 5 (dw af))
  (ao (bf (aK (ae 3)) (.nm 6) j6)
  (ao (aw 7 (jZ [0] (kM (ae 1) (ae 3)) aR (ax d5 (aj (ae 2) (aj (ae 0) (aj (ae 1) af))))))
  (aA (lL (ax fq (aj (ae 7) af)) (ax d5 (aj (ae 0) (aj (ae 2) (aj (ae 5) af)))))))))))
def jH:Fn:=aF 2 2
  (aA (cF kH iT (ai (.str "")) (aj (dh [0] (aK (ae 1)) aR (gg (ah aB (aS (aj (ae 0) (aj (ai (.str "")) af))) (ax fv (aj (cV "int" (ae 0)) af))) (ax fR (aj (ae 1) (aj (ae 0) af))))) af)))
def iY:Fn:=aF 3 3
  (aA (ah gP (ax gD (aj (ae 0) (aj (ae 1) (aj (ae 2) af)))) (ai .non)))
def nO:Fn:=aF 4 4
  (ao (bh (dz (dX (ax d5 (aj (ae 0) (aj (ae 1) (aj (ae 2) af))))) (aQ (ah aI (ax jH (aj (ae 0) (aj (ae 2) af))) (ae 3)))) (aA (ai (.bl false))) bH)
  (aA (kE (rT (ax iY (aj (ae 0) (aj (ae 1) (aj (ae 2) af))))) (cF kH pG (ae 3) (aj (ax jH (aj (ae 0) (aj (ae 2) af))) af)))))
def mq:SS :=
  (bh (eK (dX (ax nO (aj (ae 1) (aj (ae 11) (aj (ae 12) (aj (ax fR (aj (ae 1) (aj (ae 11) af))) af))))))) (aA (ai (.bl false))) bH)
def kY:SS :=
  (ao (bh (dz (dX (ax nN (aj (ae 1) (aj (ae 6) (aj (ae 3) (aj (ae 10) af)))))) (aQ (ah aI (ae 9) (ae 2)))) (aA (ai (.bl false))) bH)
  (lX (lV (ah ar (ae 6) (aS (aj (ae 3) af))) (ah ar (ae 10) (aS (aj (ae 7) af)))) (.tup [11,12]) mq))
def kZ:SS :=
  (ao (aw 6 (ax pO (aj (ae 1) (aj (ae 2) (aj (ae 3) (aj (ae 4) af))))))
  (ao (aw 7 (ax pP (aj (ax iX (aj (ae 1) (aj (ae 3) (aj (ae 4) af)))) (aj (ae 4) af))))
  (ao (aw 8 (dw (aj (ax pQ (aj (ae 7) (aj (ax az (aj (ae 6) af)) (aj (ae 4) af)))) af)))
  (ao (bJ (cF aL bo (ae 8) (aj (dh [1,4] (aK (ae 6)) aR (ax iX (aj (ae 1) (aj (ae 0) (aj (ae 2) af))))) af)))
  (ao (bJ (cF aL bo (ae 8) (aj (dh [1,4] (aK (ah aB (ae 8) (ai (.int 0)))) aR (ax eV (aj (ae 1) (aj (ae 0) (aj (ae 2) af))))) af)))
  (ao (aw 9 (cF kH iT (ai (.str "")) (aj (dh [1] (aK (ae 6)) aR (ax fR (aj (ae 1) (aj (ae 0) af)))) af)))
  (bf (aK (ae 8)) (.nm 10) kY)))))))
def sT:Fn:=aF 1 13
  (ao (aw 1 (oV 0 8 nE af))
  (ao (aw 2 (ax j0 (aj (ax iV (aj (ae 0) (aj (ai (.int 0)) af))) (aj (ai (.int 30)) af))))
  (ao (aw 3 (ax jE (aj (ae 1) (aj (ax iV (aj (ae 0) (aj (ai (.int 1)) af))) (aj (ae 2) af)))))
  (ao (aw 4 (ax iV (aj (ae 0) (aj (ai (.int 2)) af))))
  (ao (bf (fY (ai (.int 6))) (.nm 5) kZ)
  (aA (ah iE (ax d5 (aj (ae 1) (aj (ae 3) (aj (ae 7) af)))) (ai (.bl true)))))))))
end Sk
set_option exponentiation.threshold 2000
namespace Sk
open PySem PySem.Spec L2 Sm
theorem xU {w:Option Nat} {all:List AV} {t:Tg} {b:SS} (P:Nat->En->AH->Prop):∀ (xs:List AV) (i:Nat) (en:En) (h:AH),P i en h ->
  (∀ i en h,P i en h->cP w all h=true) ->
  (∀ (j:Nat) (x:AV) (en:En) (h:AH),xs[j]? = some x->P (i+j) en h->∃ e1 e2 h2,dB t x en=some e1/\(b e1 h = .nx e2 h2\/b e1 h = .ct e2 h2)/\P (i+j+1) e2 h2) ->
  ∃ e' h',cH w all t b xs en h = .nx e' h'/\P (i+xs.length) e' h'
 | [],i,en,h,p,lv,_=>⟨en,h,by unfold cH;rw [Ku (lv _ _ _ p)],p⟩
 | x::xs,i,en,h,p,lv,s=>by
  obtain ⟨e1,e2,h2,q1,q2,q3⟩:=s 0 x en h rfl p
  obtain ⟨e',h',r1,r2⟩:=xU P xs (i+1) e2 h2 q3 lv fun j y en h e q=>by
   have:=s (j+1) y en h (by simpa using e) (by rw [show i+(j+1)=i+1+j by lia];exact q)
   rw [show i+(j+1)+1=i+1+j+1 by lia] at this
   exact this
  refine ⟨e',h',?_,by rw [Kk,show i+(xs.length+1)=i+1+xs.length by lia];exact r2⟩
  unfold cH
  rw [Ku (lv _ _ _ p)];simp only [q1]
  rcases q2 with q2 | q2
  ·rw [q2];exact r1
  ·rw [q2];exact r1
theorem sU {α:Type} {js:List Nat} {en:En} {w:Option Nat} {all:List AV} {c:SB} {e:SE} {g f:α->AV} {p:α->Bool} {h:AH} (lv:cP w all h=true):∀ (cs:List α) (ys:List AV),(∀ x∈cs,c (some (g x)::js.map fun j=>(en[j]?).join) h = .ok (p x) h)->(∀ x∈cs,p x=true->e (some (g x)::js.map fun j=>(en[j]?).join) h = .ok (f x) h)->ys.length+cs.length<=sizeLine ->
  bP js en w all c e (cs.map g) ys h = .ok (ys++(cs.filter p).map f) h
 | [],ys,_,_,_=>by rw [Nr];unfold bP;rw [Ku lv];simp
 | x::xs,ys,hc,he,hl=>by
  have hl':ys.length<sizeLine:=by simp at hl;lia
  rw [KY];unfold bP
  rw [Ku ⟨lv,hl'⟩,hc x (by simp)]
  cases hp:p x with
  | false =>
   dsimp only;rw [sU lv xs ys (fun y hy=>hc y (by simp [hy])) (fun y hy=>he y (by simp [hy])) (by simp at hl ⊢;lia)]
   simp [List.filter_cons,hp]
  | true =>
   dsimp only;rw [he x (by simp) hp]
   dsimp only;rw [sU lv xs (ys++[f x]) (fun y hy=>hc y (by simp [hy])) (fun y hy=>he y (by simp [hy])) (by simp at hl ⊢;lia)]
   simp [List.filter_cons,hp]
theorem xV {α:Type} {js:List Nat} {en:En} {w:Option Nat} {all:List AV} {e:SE} {g f:α->AV} {h:AH} (lv:cP w all h=true) (cs:List α) (ys:List AV) (he:∀ x∈cs,e (some (g x)::js.map fun j=>(en[j]?).join) h = .ok (f x) h) (hl:ys.length+cs.length<=sizeLine) :
  bP js en w all aR e (cs.map g) ys h = .ok (ys++cs.map f) h:=by
 rw [sU (p:=fun _=>true) lv cs ys (fun _ _=>rfl) (fun x hx _=>he x hx) hl,List.filter_eq_self.mpr (fun _ _=>rfl)]
theorem xW {c:SB} {b:SS} (P:Nat->En->AH->Prop) (Q:En->AH->Prop):∀ (fuel n:Nat) (en:En) (h:AH),P n en h->n<fuel ->
  (∀ n en h,P n en h->(∃ h1,c en h = .ok false h1/\Q en h1)\/(∃ n' h1 e2 h2,n'<n/\c en h = .ok true h1/\(b en h1 = .nx e2 h2\/b en h1 = .ct e2 h2)/\P n' e2 h2)) ->
  ∃ e' h',bF c b fuel en h = .nx e' h'/\Q e' h'
 | 0,n,en,h,_,l,_=>absurd l (Lz _)
 | fuel+1,n,en,h,p,l,s=>by
  rcases s n en h p with ⟨h1,q1,q2⟩ | ⟨n',h1,e2,h2,q0,q1,q2,q3⟩
  ·refine ⟨en,h1,?_,q2⟩
   unfold bF;rw [q1]
  ·obtain ⟨e',h',r1,r2⟩:=xW P Q fuel n' e2 h2 q3 (by lia) s
   refine ⟨e',h',?_,r2⟩
   unfold bF;rw [q1]
   rcases q2 with q2 | q2
   ·simp only [q2];exact r1
   ·simp only [q2];exact r1
@[simp] def thn (o:dM) (Q:En->AH->Prop):Prop:=match o with
 | .nx e h=>Q e h
 | .ct e h=>Q e h
 | _=>False
theorem xX {o:dM} {Q:En->AH->Prop} (t:thn o Q):∃ e h,(o = .nx e h\/o = .ct e h)/\Q e h:=by
 cases o with
 | nx e h=>exact ⟨e,h,.inl rfl,t⟩
 | ct e h=>exact ⟨e,h,.inr rfl,t⟩
 | _=>exact t.elim
@[simp] def FU (o:Option En) (Q:En->Prop):Prop:=match o with
 | some e=>Q e
 | none=>False
theorem iZ {w:Option Nat} {all:List AV} {t:Tg} {b:SS} {xs:List AV} {en:En} {h:AH} (P:Nat->En->AH->Prop) (p0:P 0 en h) (lv:∀ i en h,P i en h->cP w all h=true)
  (st:∀ (j:Nat) (x:AV) (en:En) (h:AH),xs[j]? = some x->P j en h->FU (dB t x en) fun e1=>thn (b e1 h) (P (j+1))) :
  ∃ e' h',cH w all t b xs en h = .nx e' h'/\P xs.length e' h' := by
 have:=xU (w:=w) (all:=all) (t:=t) (b:=b) P xs 0 en h p0 lv fun j x en h hx hp=>by
  have q:=st j x en h hx (by simpa using hp)
  cases z:dB t x en with
  | none=>rw [z] at q;exact q.elim
  | some e1 =>
   rw [z] at q;obtain ⟨e,h2,a,c⟩:=xX q
   exact ⟨e1,e,h2,rfl,a,by simpa using c⟩
 simpa using this
theorem sV {c:SB} {b:SS} {fuel n:Nat} {en:En} {h:AH} (P:Nat->En->AH->Prop) (Q:En->AH->Prop) (p0:P n en h) (hn:n<fuel)
  (st:∀ n en h,P n en h->match c en h with
   | .ok true h1=>thn (b en h1) fun e2 h2=>∃ n',n'<n/\P n' e2 h2
   | .ok false h1=>Q en h1
   | _=>False) :
  ∃ e' h',bF c b fuel en h = .nx e' h'/\Q e' h' := by
 refine xW P Q fuel n en h p0 hn fun n en h p=>?_
 have q:=st n en h p
 cases z:c en h with
 | ok x h1 =>
  rw [z] at q
  cases x with
  | true =>
   obtain ⟨e,h2,a,n',l,c⟩:=xX q
   exact .inr ⟨n',h1,e,h2,l,rfl,a,c⟩
  | false=>exact .inl ⟨h1,rfl,q⟩
 | ex _ _=>rw [z] at q;exact q.elim
 | bad=>rw [z] at q;exact q.elim
@[simp] def FV (o:Out AV) (Q:AV->AH->Prop):Prop:=match o with
 | .ok v h=>Q v h
 | _=>False
theorem xY {js:List Nat} {en:En} {all:List AV} {e:SE} (P:Nat->List AV->AH->Prop):∀ (xs ys:List AV) (i:Nat) (h:AH),P i ys h ->
  (∀ j x ys h,xs[j]? = some x->P (i+j) ys h->∃ v h2,e (some x::js.map fun j=>(en[j]?).join) h = .ok v h2/\P (i+j+1) (ys++[v]) h2)->ys.length+xs.length<=sizeLine ->
  ∃ zs h',bP js en none all aR e xs ys h = .ok zs h'/\P (i+xs.length) zs h'
 | [],ys,i,h,p,_,_=>⟨ys,h,by simp [bP],p⟩
 | x::xs,ys,i,h,p,s,hl=>by
  obtain ⟨v,h2,q1,q2⟩:=s 0 x ys h rfl p
  obtain ⟨zs,h',r1,r2⟩:=xY P xs (ys++[v]) (i+1) h2 q2 (fun j y ys h hy hp=>by
   have:=s (j+1) y ys h (by simpa using hy) (by rw [show i+(j+1)=i+1+j by lia];exact hp)
   rw [show i+(j+1)+1=i+1+j+1 by lia] at this
   exact this) (by simp at hl ⊢;lia)
  refine ⟨zs,h',?_,by rw [Kk,show i+(xs.length+1)=i+1+xs.length by lia];exact r2⟩
  unfold bP
  rw [Ku ⟨rfl,by simp at hl;lia⟩]
  simp only [aR]
  rw [q1];exact r1
theorem FW {js:List Nat} {en:En} {all:List AV} {e:SE} {xs:List AV} {h:AH} (P:Nat->List AV->AH->Prop) (p0:P 0 [] h)
  (st:∀ j x ys h,xs[j]? = some x->P j ys h->FV (e (some x::js.map fun j=>(en[j]?).join) h) fun v h2=>P (j+1) (ys++[v]) h2) (hl:xs.length<=sizeLine) :
  ∃ zs h',bP js en none all aR e xs [] h = .ok zs h'/\P xs.length zs h' := by
 have:=xY (js:=js) (en:=en) (all:=all) (e:=e) P xs [] 0 h p0 (fun j x ys h hx p=>by
  have q:=st j x ys h hx (by simpa using p)
  cases z:e (some x::js.map fun j=>(en[j]?).join) h with
  | ok v h2=>rw [z] at q;exact ⟨v,h2,rfl,by simpa using q⟩
  | ex _ _=>rw [z] at q;exact q.elim
  | bad=>rw [z] at q;exact q.elim) (by simpa using hl)
 simpa using this
theorem xZ:∀ (n:Nat) (lo:Int) (i:Nat),(cZ lo n)[i]? = if i<n then some (.int (lo+i)) else none
 | 0,lo,i=>by simp [cZ]
 | n+1,lo,0=>by simp [cZ]
 | n+1,lo,i+1=>by
  unfold cZ
  rw [Li,xZ n (lo+1) i];by_cases q:i<n
  ·rw [Ku q,Ku (by lia)];congr 2;lia
  ·rw [KF q,KF (by lia)]
theorem jI:∀ (n:Nat) (lo:Int),(cZ lo n).length=n
 | 0,_=>rfl
 | n+1,lo=>by unfold cZ;rw [Kk,jI n]
theorem nQ {a:SE} {en:En} {h h1:AH} {n:Nat} (e:a en h = .ok (.int n) h1) (hn:n<=10000000):fY a en h = .ok (cZ 0 n,none) h1:=by
 have h1':(n:Int).natAbs<2 ^ 62:=by omega
 simp only [fY,e,Out.bind]
 rw [Ku h1'];rfl
theorem g8 {it:SI} {t:Tg} {b:SS} {en:En} {h h1:AH} {xs:List AV} {w:Option Nat} (e:it en h = .ok (xs,w) h1):bf it t b en h=cH w xs t b xs en h1:=by simp only [bf,e]
theorem FY {i j:Int} {h:AH} (hi:i.natAbs<2 ^ 64):bW (.int i) (.int j) h = .ok (.int (i*j)) h:=Ku (.inl (.inl hi))
theorem FZ {i j:Int} {h:AH} (hj:j.natAbs<2 ^ 64):bW (.int i) (.int j) h = .ok (.int (i*j)) h:=Ku (.inl (.inr hj))
theorem x3 {α:Type} {f:α->AV} {l:List α} {j:Nat} {q:α} (e:l[j]? = some q):atI (l.map f) (j:Int)=some (f q):=rj (by simp [e])
end Sk
set_option exponentiation.threshold 5000
namespace Sk
open PySem PySem.Spec L2 Sm
def k7 (c:Nat):Bool:=decide (c=10) || (decide (32<=c) && decide (c<=126))
theorem F4 (a b:Nat):([a]<[b]) ↔ a<b:=by
 simp [List.cons_lt_cons_iff]
theorem x4:(Str.ofString "\n")=⟨#[10]⟩:=by decide +kernel
theorem F5:(Str.ofString " ")=⟨#[32]⟩:=by decide +kernel
theorem F6:(Str.ofString "~")=⟨#[126]⟩:=by decide +kernel
theorem F7 (c:Nat) (h:AH):nH [.str ⟨#[c]⟩] h = .ok (.bl (k7 c)) h:=by
 simp [nH,x4,F5,F6,F4,k7]
 by_cases h1:c=10
 ·simp [h1]
 ·by_cases h2:c<32
  ·have : ¬ 32<=c:=by lia
   simp [h1,h2,this]
  ·have h3:32<=c:=by lia
   by_cases h4:c<=126
   ·have : ¬ 126<c:=by lia
    simp [h1,h2,h3,h4,this]
   ·have:126<c:=by lia
    simp [h1,h2,h3,h4,this]
theorem x6 {α:Type} {js:List Nat} {en:En} {all:List AV} {e:SE} {g f:α->AV} {h:AH}:∀ (cs:List α) (ys:List AV),(∀ c∈cs,e (some (g c)::js.map fun j=>(en[j]?).join) h = .ok (f c) h)->ys.length+cs.length<=sizeLine->bP js en none all aR e (cs.map g) ys h = .ok (ys++cs.map f) h
 | [],ys,_,_=>by simp [bP]
 | x::xs,ys,he,hl=>by
  have hl':ys.length<sizeLine:=by simp at hl;lia
  rw [KY];unfold bP
  rw [Ku ⟨rfl,hl'⟩];simp only [aR]
  rw [he x (by simp)]
  dsimp only;rw [x6 xs (ys++[f x]) (fun y hy=>he y (by simp [hy])) (by simp at hl ⊢;lia)]
  simp
theorem x9 (f:Nat->Bool):∀ cs:List Nat,lM (cs.map fun c=>.bl (f c))=some (cs.map f)
 | []=>rfl
 | c::cs=>by simp [x9 f cs]
def br (x:Str):Bool:=x.cps.toList.all k7
theorem ya (x:Str) (h:AH) (hl:x.length<=sizeLine):kP [.str x] h = .ok (.bl (br x)) h:=by
 have e:=x6 (js:=[]) (en:=[some (.str x)]) (all:=x.cps.toList.map fun c=>AV.str ⟨#[c]⟩) (e:=ax nH (aj (ae 0) af)) (g:=fun c=>AV.str ⟨#[c]⟩) (f:=fun c=>AV.bl (k7 c)) (h:=h) x.cps.toList [] (by
  intro c hc
  simp [F7]) (by simp;exact hl)
 simp only [LV] at e
 simp [kP]
 rw [e];simp [x9,br]
def dS (x:Str):Bool:=br x && (decide (1<=x.length) && decide (x.length<=8))
theorem pR (x:Str) (h:AH) (hl:x.length<=sizeLine):iG [.str x] h = .ok (.bl (dS x)) h:=by
 simp [iG,ya x h hl,dS]
 by_cases h1:br x=true
 ·by_cases h2:1<=x.length
  ·have:(1:Int)<=x.length:=by lia
   by_cases h3:x.length<=8
   ·have:(x.length:Int)<=8:=by lia
    simp [*]
   ·have : ¬ (x.length:Int)<=8:=by lia
    simp [*]
  ·have : ¬ (1:Int)<=x.length:=by lia
   simp [*]
 ·simp [h1]
def jJ (x:Str):Nat:=(Builtin.Str.occurrences x ⟨#[10]⟩ 0 x.length (x.length+1)).length
theorem F8 (x:Str) (h:AH):pI [.str x] h = .ok (.int (jJ x)) h:=by
 simp [pI,x4,jJ]
theorem F9 (i:Int) (h:AH):l9 [.int i] h = .ok (.bl true) h:=by
 simp [l9]
inductive Pc where
 | leaf (x:Str)
 | fork (a b:Nat)
 deriving DecidableEq
def Pc.av:Pc->AV
 | .leaf x=>.tup [.str "leaf",.str x]
 | .fork a b=>.tup [.str "fork",.int a,.int b]
theorem Pc.av_inj:∀ {p q:Pc},p.av=q.av->p=q
 | .leaf x,.leaf y,e=>by simp [Pc.av] at e;rw [e]
 | .leaf x,.fork a b,e=>by simp [Pc.av] at e
 | .fork a b,.leaf x,e=>by simp [Pc.av] at e
 | .fork a b,.fork c d,e=>by simp [Pc.av] at e;rw [Int.ofNat.inj e.1,Int.ofNat.inj e.2]
structure Ms where
 sg:Nat
 en:Nat
 lv:Nat
 ht:Int
 fl:Nat
 ll:Nat
def ms0:Ms:=⟨0,0,0,-1,0,0⟩
def iJ (ms:List Ms):Pc->Ms
 | .leaf x=>⟨x.length,jJ x,1,0,ms.length,ms.length⟩
 | .fork a b=>⟨(ms.getD a ms0).sg+(ms.getD b ms0).sg,(ms.getD a ms0).en+(ms.getD b ms0).en,(ms.getD a ms0).lv+(ms.getD b ms0).lv,max (ms.getD a ms0).ht (ms.getD b ms0).ht+1,(ms.getD a ms0).fl,(ms.getD b ms0).ll⟩
def meas (ps:List Pc):List Ms:=ps.foldl (fun ms q=>ms++[iJ ms q]) [ms0]
theorem sW (ps:List Pc) (q:Pc):meas (ps++[q])=meas ps++[iJ (meas ps) q]:=by simp [meas]
theorem d6:∀ ps:List Pc,(meas ps).length=ps.length+1:=by
 have all:∀ (ps:List Pc) (ms:List Ms),(ps.foldl (fun ms q=>ms++[iJ ms q]) ms).length=ms.length+ps.length:=by
  intro ps
  induction ps with
  | nil=>intro ms;rfl
  | cons q r ih=>intro ms;rw [MH,ih];simp;lia
 intro ps
 rw [meas,all];simp;lia
def gj (k:Nat):List Pc->List (AV×AV)
 | []=>[]
 | q::r=>(q.av,.int k)::gj (k+1) r
def eX (ps:List Pc):List (AV×AV):=gj 1 ps
theorem pS (q:Pc):∀ (ps:List Pc) (k:Nat),gj k (ps++[q])=gj k ps++[(q.av,.int ((k+ps.length:Nat):Int))]
 | [],k=>by simp [gj]
 | p::r,k=>by
  simp only [L5,gj,pS q r (k+1)]
  rw [show k+1+r.length=k+(p::r).length by simp;lia]
theorem yb:∀ (ps:List Pc) (k:Nat),(gj k ps).length=ps.length
 | [],_=>rfl
 | p::r,k=>by simp [gj,yb r]
theorem pT {q:Pc}:∀ {ps:List Pc} {k:Nat},q∉ps->bL (gj k ps) q.av=none
 | [],k,_=>rfl
 | p::r,k,h=>by
  have h1 : ¬ p.av=q.av:=fun e=>h (by rw [Pc.av_inj e];simp)
  have h2:=pT (q:=q) (ps:=r) (k:=k+1) fun z=>h (by simp [z])
  unfold bL at h2 ⊢
  simp only [gj,Lq,KH h1]
  exact h2
theorem sX {q:Pc}:∀ {ps:List Pc} {k i:Nat},ps.Nodup->ps[i]? = some q->bL (gj k ps) q.av=some (.int ((k+i:Nat):Int))
 | [],k,i,_,e=>by simp at e
 | p::r,k,0,n,e=>by simp at e;subst e;simp [bL,gj]
 | p::r,k,i+1,n,e=>by
  simp at e
  have h1 : ¬ p.av=q.av:=fun z=>(Lk.mp n).1 (by rw [Pc.av_inj z];exact KQ e)
  have h2:=sX (q:=q) (k:=k+1) (Lk.mp n).2 e
  unfold bL at h2 ⊢
  simp only [gj,Lq,KH h1]
  rw [h2];congr 3
  lia
theorem Ga {q:Pc} {ps:List Pc} (h:q∉ps):gQ (eX ps) q.av (.int ((ps.length+1:Nat):Int))=eX (ps++[q]):=by
 unfold gQ
 rw [xC,eX,pT h,eX,pS];simp [LD]
structure ShelfAt (h:AH) (p:Nat) (ps:List Pc):Prop where
 ob:h[p]? = some (.ins 0 [some (.ref (p+1)),some (.ref (p+2)),some (.ref (p+3)),some (.ref (p+4)),some (.ref (p+5)),some (.ref (p+6)),some (.ref (p+7)),some (.ref (p+8))])
 h1:h[p+1]? = some (.lst (ps.map Pc.av))
 h2:h[p+2]? = some (.dct true (eX ps))
 h3:h[p+3]? = some (.lst ((meas ps).map fun m=>.int m.sg))
 h4:h[p+4]? = some (.lst ((meas ps).map fun m=>.int m.en))
 h5:h[p+5]? = some (.lst ((meas ps).map fun m=>.int m.lv))
 h6:h[p+6]? = some (.lst ((meas ps).map fun m=>.int m.ht))
 h7:h[p+7]? = some (.lst ((meas ps).map fun m=>.int m.fl))
 h8:h[p+8]? = some (.lst ((meas ps).map fun m=>.int m.ll))
def gE (h:AH) (p:Nat) (ps:List Pc):AH :=
 (((((((h.set (p+1) (.lst (ps.map Pc.av))).set (p+2) (.dct true (eX ps))).set (p+3) (.lst ((meas ps).map fun m=>.int m.sg))).set (p+4) (.lst ((meas ps).map fun m=>.int m.en))).set (p+5) (.lst ((meas ps).map fun m=>.int m.lv))).set
  (p+6) (.lst ((meas ps).map fun m=>.int m.ht))).set (p+7) (.lst ((meas ps).map fun m=>.int m.fl))).set (p+8) (.lst ((meas ps).map fun m=>.int m.ll))
theorem aY {h:AH} {i:Nat} {o:AO} (e:h[i]? = some o):i<h.length:=(Kh.mp e).1
theorem yc (h:AH) (p:Nat) (ps:List Pc):(gE h p ps).length=h.length:=by simp [gE]
theorem yd {h:AH} {p q:Nat} {ps:List Pc} (hq:q<=p\/p+8<q):(gE h p ps)[q]? = h[q]? := by
 unfold gE
 repeat rw [Kr (by lia)]
theorem pU {h:AH} {p:Nat} {ps ps':List Pc} (S:ShelfAt h p ps):ShelfAt (gE h p ps') p ps' := by
 have b:=aY S.h8
 have l1:p+1<h.length:=KA (K5 (by decide) p) b
 have l2:p+2<h.length:=KA (K5 (by decide) p) b
 have l3:p+3<h.length:=KA (K5 (by decide) p) b
 have l4:p+4<h.length:=KA (K5 (by decide) p) b
 have l5:p+5<h.length:=KA (K5 (by decide) p) b
 have l6:p+6<h.length:=KA (K5 (by decide) p) b
 have l7:p+7<h.length:=KA (K5 (by decide) p) b
 have ob:=S.ob
 constructor<;>simp [gE,M5,l1,l2,l3,l4,l5,l6,l7,b,ob,-KM]
theorem sY {α:Type} (l:List α) (f:α->AV):(l.map f).length=l.length:=by simp
theorem ye {h:AH} {p:Nat} {ps:List Pc} (S:ShelfAt h p ps):iW [.ref p] h = .ok (.int ps.length) h:=by
 simp [iW,S.ob,S.h1]
theorem nR {h:AH} {p:Nat} {ps:List Pc} {i:Int} (S:ShelfAt h p ps):gY [.ref p,.int i] h = .ok (.bl (decide (1<=i/\i<=ps.length))) h:=by
 simp [gY,F9,S.ob,S.h1]
 by_cases h1:1<=i<;>simp [h1]
theorem pV {h:AH} {p:Nat} {ps:List Pc} {i:Int} (S:ShelfAt h p ps) (hi:1<=i/\i<=ps.length):kO [.ref p,.int i] h = .ok .non h:=by
 simp [kO,nR S,S.ob,hi.1,hi.2]
theorem dD {α:Type} {f:α->AV} {l:List α} {j:Nat} {q:α} (e:l[j]? = some q):atI (l.map f) (j:Int)=some (f q):=rj (by simp [e])
theorem Gb {h:AH} {p:Nat} {ps:List Pc} {j:Nat} {q:Pc} (S:ShelfAt h p ps) (e:ps[j]? = some q):dZ [.ref p,.int ((j:Int)+1)] h = .ok q.av h:=by
 have hj:=(Kh.mp e).1
 have h1:=pV S (i:=(j:Int)+1) ⟨by lia,by lia⟩
 simp [dZ,h1,S.ob,S.h1,dD e]
theorem yf {h:AH} {p:Nat} {ps:List Pc} {q:Pc} (S:ShelfAt h p ps) (hq:q∉ps) (hl:ps.length<16000000) :
  nF [.ref p,q.av] h = .ok (.int ((ps.length+1:Nat):Int)) ((h.set (p+1) (.lst ((ps++[q]).map Pc.av))).set (p+2) (.dct true (eX (ps++[q])))):=by
 have b:=aY S.h8
 have hs:ps.length<sizeLine:=MO hl (by decide)
 have ht:(eX ps).length<sizeLine:=by rw [eX,yb];exact hs
 have hk:ji true q.av=true:=by cases q<;>simp [Pc.av]
 have e1:(h.set (p+1) (.lst (ps.map Pc.av++[q.av])))[p]? = h[p]? := Kr (by lia)
 have e2:(h.set (p+1) (.lst (ps.map Pc.av++[q.av])))[p+1]? = some (.lst (ps.map Pc.av++[q.av])):=Ko (by lia)
 have e3:(h.set (p+1) (.lst (ps.map Pc.av++[q.av])))[p+2]? = h[p+2]? := Kr (by lia)
 have tp:=Ga hq
 simp [nF,S.ob,S.h1,hs,e1,e2,e3,S.h2,hk,ht,-ji]
 rw [show ((ps.length:Int)+1)=((ps.length+1:Nat):Int) by simp,tp]
theorem Gc {h:AH} {p:Nat} {ps:List Pc} {x:Str} (S:ShelfAt h p ps) (hq:Pc.leaf x∉ps) (hl:ps.length<16000000) :
  nJ [.ref p,(Pc.leaf x).av] h = .ok .non (gE h p (ps++[.leaf x])):=by
 have b:=aY S.h8
 have hs:ps.length+1<sizeLine:=KP (Nat.succ_lt_succ hl) (by decide)
 have hm:(meas ps).length<sizeLine:=by rw [d6];exact hs
 have e:=yf S hq hl
 have b2:((meas ps).length:Int)=(ps.length:Int)+1:=by rw [d6];simp
 have e2:aB (Pc.leaf x).av (.int 1)=fun h=>Out.ok (.str x) h:=by funext h;rfl
 have l1:p+1<h.length:=by lia
 have l2:p+2<h.length:=by lia
 have l3:p+3<h.length:=by lia
 have l4:p+4<h.length:=by lia
 have l5:p+5<h.length:=by lia
 have l6:p+6<h.length:=by lia
 have l7:p+7<h.length:=by lia
 simp [nJ,e,S.ob,S.h3,S.h4,S.h5,S.h6,S.h7,S.h8,hm,F8,M5,sW,iJ,gE,e2,d6,hs,-aB,-KM]
theorem yg {α:Type} {l:List α} {i:Nat} {d x:α} (e:l[i]? = some x):l.getD i d=x:=by simp [List.getD,e]
theorem Gd {h:AH} {p:Nat} {ps:List Pc} {a b:Nat} {ma mb:Ms} (S:ShelfAt h p ps) (hq:Pc.fork a b∉ps) (hl:ps.length<16000000) (ha:(meas ps)[a]? = some ma) (hb:(meas ps)[b]? = some mb) :
  nG [.ref p,(Pc.fork a b).av] h = .ok .non (gE h p (ps++[.fork a b])):=by
 have bb:=aY S.h8
 have hs:ps.length+1<sizeLine:=KP (Nat.succ_lt_succ hl) (by decide)
 have hm:(meas ps).length<sizeLine:=by rw [d6];exact hs
 have e:=yf S hq hl
 have e2:aB (Pc.fork a b).av (.int 1)=fun h=>Out.ok (.int a) h:=by funext h;rfl
 have e3:aB (Pc.fork a b).av (.int 2)=fun h=>Out.ok (.int b) h:=by funext h;rfl
 have l1:p+1<h.length:=by lia
 have l2:p+2<h.length:=by lia
 have l3:p+3<h.length:=by lia
 have l4:p+4<h.length:=by lia
 have l5:p+5<h.length:=by lia
 have l6:p+6<h.length:=by lia
 have l7:p+7<h.length:=by lia
 have fx:∀ (n:Nat) (g:Ms->AV) (h':AH),h'[n]? = some (.lst ((meas ps).map g))->aB (.ref n) (.int a) h' = .ok (g ma) h'/\aB (.ref n) (.int b) h' = .ok (g mb) h' := fun n g h' e=>by
  simp [aB,e,dD ha,dD hb]
 have f3:=fun (h':AH) (e:h'[p+3]? = some (.lst ((meas ps).map fun m=>.int m.sg)))=>fx _ _ h' e
 have f4:=fun (h':AH) (e:h'[p+4]? = some (.lst ((meas ps).map fun m=>.int m.en)))=>fx _ _ h' e
 have f5:=fun (h':AH) (e:h'[p+5]? = some (.lst ((meas ps).map fun m=>.int m.lv)))=>fx _ _ h' e
 have f6:=fun (h':AH) (e:h'[p+6]? = some (.lst ((meas ps).map fun m=>.int m.ht)))=>fx _ _ h' e
 have f7:=fun (h':AH) (e:h'[p+7]? = some (.lst ((meas ps).map fun m=>.int m.fl)))=>fx _ _ h' e
 have f8:=fun (h':AH) (e:h'[p+8]? = some (.lst ((meas ps).map fun m=>.int m.ll)))=>fx _ _ h' e
 have hmax:∀ i j:Int,(if j > i then j else i)=max i j:=fun i j=>by split<;>lia
 simp [nG,e,S.ob,S.h3,S.h4,S.h5,S.h6,S.h7,S.h8,hm,M5,sW,iJ,gE,e2,e3,d6,hs,dD ha,dD hb,yg ha,yg hb,-aB,-KM,-List.getD_eq_getElem?_getD,f3,f4,f5,f6,f7,f8,hmax]
theorem sZ {h:AH} {p:Nat} {ps:List Pc} {x:Str} {i:Nat} (S:ShelfAt h p ps) (nd:ps.Nodup) (hx:dS x=true) (hl:x.length<=sizeLine) (e:ps[i]? = some (.leaf x)):gA [.ref p,.str x] h = .ok (.int ((i+1:Nat):Int)) h:=by
 have t:=sX (k:=1) nd e
 have t':bL (eX ps) (.tup [.str "leaf",.str x])=some (.int ((i+1:Nat):Int)):=by rw [LD];exact t
 simp [gA,pR x h hl,hx,S.ob,S.h2,t']
theorem Ge {h:AH} {p:Nat} {ps:List Pc} {x:Str} (S:ShelfAt h p ps) (hx:dS x=true) (hl:x.length<=sizeLine) (hq:Pc.leaf x∉ps) (hz:ps.length<16000000):gA [.ref p,.str x] h = .ok (.int ((ps.length+1:Nat):Int)) (gE h p (ps++[.leaf x])):=by
 have t:bL (eX ps) (.tup [.str "leaf",.str x])=none:=pT (q:=.leaf x) (k:=1) hq
 have S2:=pU (ps' := ps++[.leaf x]) S
 have e:=Gc S hq hz
 have t2:bL (eX (ps++[.leaf x])) (.tup [.str "leaf",.str x])=some (.int ((ps.length+1:Nat):Int)):=by
  unfold eX
  rw [pS];unfold bL at t ⊢
  rw [Oj];have t3:(gj 1 ps).find? (fun p=>decide (p.1 = .tup [.str "leaf",.str x]))=none:=by simpa [eX] using t
  rw [t3];simp [Pc.av,LD]
 have e':nJ [.ref p,.tup [.str "leaf",.str x]] h = .ok .non (gE h p (ps++[.leaf x])):=e
 simp [gA,pR x h hl,hx,S.ob,S.h2,t,e',S2.ob,S2.h2,t2]
theorem Gf {h:AH} {p:Nat} {ps:List Pc} {a b:Nat} {ma mb la fb:Ms} (S:ShelfAt h p ps) (ha:(meas ps)[a]? = some ma) (hb:(meas ps)[b]? = some mb) (pa:1<=a) (pb:1<=b) (hla:(meas ps)[ma.ll]? = some la) (hfb:(meas ps)[mb.fl]? = some fb) :
  j3 [.ref p,.int a,.int b] h=if la.sg+fb.sg<=8 then .ex FR h else if 1<(ma.ht-mb.ht).natAbs then .ex FS h else if 1000000000000000000<ma.sg+mb.sg then .ex FT h else .ok .non h:=by
 have la_:=(Kh.mp ha).1
 have lb_:=(Kh.mp hb).1
 rw [d6] at la_ lb_;have c1:=pV S (i:=(a:Int)) ⟨by lia,by lia⟩
 have c2:=pV S (i:=(b:Int)) ⟨by lia,by lia⟩
 by_cases d1:la.sg+fb.sg<=8
 ·have d1':((la.sg:Int)+fb.sg)<=8:=by lia
  simp [j3,c1,c2,S.ob,S.h3,S.h5,S.h6,S.h7,S.h8,dD ha,dD hb,dD hla,dD hfb,d1,d1']
 ·have d1' : ¬ ((la.sg:Int)+fb.sg)<=8:=by lia
  by_cases d2:1<(ma.ht-mb.ht).natAbs
  ·have d2':(1:Int)<(if ma.ht-mb.ht<0 then -(ma.ht-mb.ht) else ma.ht-mb.ht):=by split<;>lia
   simp [j3,c1,c2,S.ob,S.h3,S.h5,S.h6,S.h7,S.h8,dD ha,dD hb,dD hla,dD hfb,d1,d1',d2,d2',-Ot]
  ·have d2' : ¬ (1:Int)<(if ma.ht-mb.ht<0 then -(ma.ht-mb.ht) else ma.ht-mb.ht):=by split<;>lia
   by_cases d3:1000000000000000000<ma.sg+mb.sg
   ·have d3':(1000000000000000000:Int)<(ma.sg:Int)+mb.sg:=by lia
    simp [j3,c1,c2,S.ob,S.h3,S.h5,S.h6,S.h7,S.h8,dD ha,dD hb,dD hla,dD hfb,d1,d1',d2,d2',d3,d3',-Ot]
   ·have d3' : ¬ (1000000000000000000:Int)<(ma.sg:Int)+mb.sg:=by lia
    simp [j3,c1,c2,S.ob,S.h3,S.h5,S.h6,S.h7,S.h8,dD ha,dD hb,dD hla,dD hfb,d1,d1',d2,d2',d3,d3',-Ot]
structure ForkOk (ps:List Pc) (a b:Nat):Prop where
 pa:1<=a
 pb:1<=b
 ex:∃ ma mb la fb,(meas ps)[a]? = some ma/\(meas ps)[b]? = some mb/\(meas ps)[ma.ll]? = some la/\(meas ps)[mb.fl]? = some fb/\8<la.sg+fb.sg/\(ma.ht-mb.ht).natAbs<=1/\ma.sg+mb.sg<=1000000000000000000
theorem yh {h:AH} {p:Nat} {ps:List Pc} {a b:Nat} (S:ShelfAt h p ps) (F:ForkOk ps a b):j3 [.ref p,.int a,.int b] h = .ok .non h:=by
 obtain ⟨ma,mb,la,fb,h1,h2,h3,h4,h5,h6,h7⟩:=F.ex
 rw [Gf S h1 h2 F.pa F.pb h3 h4,KF (by lia),KF (by lia),KF (by lia)]
theorem tf {h:AH} {p:Nat} {ps:List Pc} {a b i:Nat} (S:ShelfAt h p ps) (nd:ps.Nodup) (F:ForkOk ps a b) (e:ps[i]? = some (.fork a b)):bu [.ref p,.int a,.int b] h = .ok (.int ((i+1:Nat):Int)) h:=by
 have t:=sX (k:=1) nd e
 have t':bL (eX ps) (.tup [.str "fork",.int a,.int b])=some (.int ((i+1:Nat):Int)):=by rw [LD];exact t
 simp [bu,yh S F,S.ob,S.h2,t']
theorem Gg {h:AH} {p:Nat} {ps:List Pc} {a b:Nat} (S:ShelfAt h p ps) (F:ForkOk ps a b) (hq:Pc.fork a b∉ps) (hz:ps.length<16000000):bu [.ref p,.int a,.int b] h = .ok (.int ((ps.length+1:Nat):Int)) (gE h p (ps++[.fork a b])):=by
 have t:bL (eX ps) (.tup [.str "fork",.int a,.int b])=none:=pT (q:=.fork a b) (k:=1) hq
 have S2:=pU (ps' := ps++[.fork a b]) S
 obtain ⟨ma,mb,la,fb,h1,h2,_⟩:=F.ex
 have e:=Gd S hq hz h1 h2
 have t2:bL (eX (ps++[.fork a b])) (.tup [.str "fork",.int a,.int b])=some (.int ((ps.length+1:Nat):Int)):=by
  unfold eX
  rw [pS];unfold bL at t ⊢
  rw [Oj];have t3:(gj 1 ps).find? (fun p=>decide (p.1 = .tup [.str "fork",.int a,.int b]))=none:=by simpa [eX] using t
  rw [t3];simp [Pc.av,LD]
 have e':nG [.ref p,.tup [.str "fork",.int a,.int b]] h = .ok .non (gE h p (ps++[.fork a b])):=e
 simp [bu,yh S F,S.ob,S.h2,t,e',S2.ob,S2.h2,t2]
def g9 (n:Nat):List AO:=[.ins 0 [some (.ref (n+1)),some (.ref (n+2)),some (.ref (n+3)),some (.ref (n+4)),some (.ref (n+5)),some (.ref (n+6)),some (.ref (n+7)),some (.ref (n+8))],.lst [],.dct true [],.lst [.int 0],.lst [.int 0],.lst [.int 0],.lst [.int (-1)],.lst [.int 0],.lst [.int 0]]
theorem tj {h:AH} {o o':AO} {r:AH}:(h++o::r).set h.length o'=h++o'::r:=by
 induction h with
 | nil=>rfl
 | cons x t ih=>simp [ih]
theorem Gh (en:En) (h:AH):oV 0 8 nE af en h = .ok (.ref h.length) (h++g9 h.length):=by
 simp [nE,g9,List.getElem?_append,tj]
theorem yi {h r:AH} {k:Nat}:(h++r)[h.length+k]? = r[k]? := by
 rw [K2 (by lia)];simp
theorem Gi (h r:AH):ShelfAt (h++(g9 h.length++r)) h.length []:=by
 refine ⟨?_,?_,?_,?_,?_,?_,?_,?_,?_⟩
 ·rw [show h.length=h.length+0 from rfl,yi];rfl
 all_goals (rw [yi];rfl)
theorem yj (x:Str) (c i:Nat) (hi:i<x.length):Builtin.Str.subAt x ⟨#[c]⟩ i=decide (x.cps.toList[i]? = some c):=by
 have hi':i<x.cps.size:=hi
 unfold Builtin.Str.subAt
 have e:x.cps.extract i (i+1) = #[x.cps[i]]:=by
  apply Array.ext
  ·simp;lia
  ·intro j h1 h2
   have:j=0:=by simp at h2;lia
   subst this;simp
 show (x.cps.extract i (i+1) == #[c])=_
 rw [e];have:x.cps.toList[i]? = some x.cps[i]:=by simp [hi']
 rw [this];by_cases q:x.cps[i]=c
 ·simp [q]
 ·simp [q]
theorem pW (x:Str) (c:Nat):∀ (n i:Nat) (st:Array Nat×Nat),i+n=x.length+1->st.2<=i->st.1.size<=i->(forIn (List.range' i n) st (StrLaws.occBody x ⟨#[c]⟩ x.length (x.length+1))).run.fst.size=st.1.size+(x.cps.toList.drop i).count c
 | 0,i,st,hn,_,_=>by
  rw [Ls (by simp;simp only [Str.length] at hn;lia)]
  simp
 | n+1,i,st,hn,h2,h3=>by
  rw [List.range'_succ,List.forIn_cons];unfold StrLaws.occBody
  by_cases hi:i<x.length
  ·have hi':i<x.cps.size:=hi
   have hd:x.cps.toList.drop i=x.cps[i]'hi'::x.cps.toList.drop (i+1):=by
    rw [MZ (show i<x.cps.toList.length by simpa using hi')];simp
   have hg:x.cps.toList[i]? = some (x.cps[i]'hi'):=by
    simp [hi']
   by_cases q:x.cps[i]'hi'=c
   ·have hs:Builtin.Str.subAt x ⟨#[c]⟩ i=true:=by rw [yj x c i hi,hg,q];simp
    rw [Ku ⟨⟨⟨by lia,h2⟩,hi⟩,hs⟩]
    show (forIn (List.range' (i+1) n) (st.1.push i,i+1) (StrLaws.occBody x ⟨#[c]⟩ x.length (x.length+1))).run.fst.size=_
    rw [pW x c n (i+1) _ (by lia) (Kj _) (by simp;lia),hd,q]
    simp;lia
   ·have hs:Builtin.Str.subAt x ⟨#[c]⟩ i=false:=by rw [yj x c i hi,hg];simp [q]
    rw [KF (by simp [hs])]
    show (forIn (List.range' (i+1) n) (st.1,st.2) (StrLaws.occBody x ⟨#[c]⟩ x.length (x.length+1))).run.fst.size=_
    rw [pW x c n (i+1) _ (by lia) (by show st.2<=i+1;lia) (by show st.1.size<=i+1;lia),hd]
    simp [q]
  ·rw [KF (by rintro ⟨⟨_,z⟩,_⟩;exact hi z)]
   show (forIn (List.range' (i+1) n) (st.1,st.2) (StrLaws.occBody x ⟨#[c]⟩ x.length (x.length+1))).run.fst.size=_
   rw [pW x c n (i+1) _ (by lia) (by show st.2<=i+1;lia) (by show st.1.size<=i+1;lia)]
   rw [Ls (by simp;simp only [Str.length] at hi;lia),Ls (by simp;simp only [Str.length] at hi;lia)]
theorem Gj (x:Str) (c:Nat):(Builtin.Str.occurrences x ⟨#[c]⟩ 0 x.length (x.length+1)).length=x.cps.toList.count c:=by
 rw [StrLaws.occ_eq,Mm];rw [show x.length+1-0=x.length+1 from rfl,pW x c (x.length+1) 0 _ (by lia) (Kj _) (by simp)]
 simp
theorem tm (x:Str):jJ x=x.cps.toList.count 10:=Gj x 10
theorem dH (x y:Str):(x++y).cps.toList=x.cps.toList++y.cps.toList:=by
 show (x.cps++y.cps).toList=_
 simp
theorem Gk (x y:Str):jJ (x++y)=jJ x+jJ y:=by
 rw [tm,tm,tm,dH,List.count_append]
theorem bK (x:Str):x.length=x.cps.toList.length:=by simp [Str.length]
theorem cx (x y:Str):(x++y).length=x.length+y.length:=by
 rw [bK,bK,bK,dH,Kq]
def k8 (rs:List Str):Pc->Str
 | .leaf x=>x
 | .fork a b=>rs.getD a "" ++ rs.getD b ""
def reads (ps:List Pc):List Str:=ps.foldl (fun rs q=>rs++[k8 rs q]) [""]
theorem Gm (ps:List Pc) (q:Pc):reads (ps++[q])=reads ps++[k8 (reads ps) q]:=by simp [reads]
theorem nS {α β:Type} (g:List β->α->β):∀ (qs:List α) (ms:List β),∃ r,qs.foldl (fun ms q=>ms++[g ms q]) ms=ms++r/\r.length=qs.length
 | [],ms=>⟨[],by simp,rfl⟩
 | q::qs,ms=>by
  obtain ⟨r,e,l⟩:=nS g qs (ms++[g ms q])
  exact ⟨g ms q::r,by rw [MH,e];simp,by simp [l]⟩
theorem pX (ps:List Pc):(reads ps).length=ps.length+1:=by
 obtain ⟨r,e,l⟩:=nS k8 ps [""]
 rw [reads,e];simp [l,LD]
theorem Gn (ps qs:List Pc):∃ r,meas (ps++qs)=meas ps++r:=by
 unfold meas
 rw [Ol];obtain ⟨r,e,_⟩:=nS iJ qs (ps.foldl (fun ms q=>ms++[iJ ms q]) [ms0])
 exact ⟨r,e⟩
theorem Gp (ps qs:List Pc):∃ r,reads (ps++qs)=reads ps++r:=by
 unfold reads
 rw [Ol];obtain ⟨r,e,_⟩:=nS k8 qs (ps.foldl (fun ms q=>ms++[k8 ms q]) [""])
 exact ⟨r,e⟩
theorem bD {ps ps':List Pc} (h:ps <+: ps') {n:Nat} {m:Ms} (e:(meas ps)[n]? = some m):(meas ps')[n]? = some m:=by
 obtain ⟨qs,rfl⟩:=h
 obtain ⟨r,q⟩:=Gn ps qs
 rw [q,Ki (Kh.mp e).1];exact e
theorem pY {ps ps':List Pc} (h:ps <+: ps') {n:Nat} {m:Str} (e:(reads ps)[n]? = some m):(reads ps')[n]? = some m:=by
 obtain ⟨qs,rfl⟩:=h
 obtain ⟨r,q⟩:=Gp ps qs
 rw [q,Ki (Kh.mp e).1];exact e
theorem pZ (ps:List Pc) (i:Nat):ps.take i <+: ps:=List.take_prefix i ps
theorem tu {ps:List Pc} {i:Nat} {q:Pc} (e:ps[i]? = some q):(ps.take i++[q]) <+: ps/\(ps.take i).length=i:=by
 have hi:=(Kh.mp e).1
 have:ps.take (i+1)=ps.take i++[q]:=by
  rw [Mw,e];rfl
 exact ⟨this▸List.take_prefix _ _,by simp;lia⟩
theorem yk {ps:List Pc} {i:Nat} {q:Pc} (e:ps[i]? = some q):(meas ps)[i+1]? = some (iJ (meas (ps.take i)) q):=by
 obtain ⟨h,l⟩:=tu e
 refine bD h ?_
 rw [sW,K2 (by rw [d6,l];lia),d6,l]
 simp
theorem yl {ps:List Pc} {i:Nat} {q:Pc} (e:ps[i]? = some q):(reads ps)[i+1]? = some (k8 (reads (ps.take i)) q):=by
 obtain ⟨h,l⟩:=tu e
 refine pY h ?_
 rw [Gm,K2 (by rw [pX,l];lia),pX,l]
 simp
def nU (ps:List Pc):Pc->Prop
 | .leaf x=>dS x=true
 | .fork a b=>ForkOk ps a b
inductive Good:List Pc->Prop
 | nil:Good []
 | snoc {ps:List Pc} {q:Pc}:Good ps->q∉ps->nU ps q->Good (ps++[q])
theorem Good.nodup {ps:List Pc} (g:Good ps):ps.Nodup:=by
 induction g with
 | nil=>exact MU
 | snoc g n ok ih=>exact M4.mpr ⟨ih,by simp,fun a ha b hb=>by simp at hb;subst hb;exact fun e=>n (e▸ha)⟩
theorem Good.get {ps:List Pc} (g:Good ps):∀ {i:Nat} {q:Pc},ps[i]? = some q->nU (ps.take i) q:=by
 induction g with
 | nil=>intro i q e;simp at e
 | @snoc ps q' g n ok ih =>
  intro i q e
  by_cases hi:i<ps.length
  ·rw [Ki hi] at e
   rw [L7 (by lia)]
   exact ih e
  ·have hi2:i=ps.length:=by
    have:=(Kh.mp e).1
    simp at this;lia
   subst hi2;simp at e
   subst e;simpa using ok
theorem ForkOk.pre {ps ps':List Pc} {a b:Nat} (F:ForkOk ps a b) (h:ps <+: ps'):ForkOk ps' a b:=by
 obtain ⟨ma,mb,la,fb,h1,h2,h3,h4,h5⟩:=F.ex
 exact ⟨F.pa,F.pb,ma,mb,la,fb,bD h h1,bD h h2,bD h h3,bD h h4,h5⟩
structure Ky (ps:List Pc) (m:Ms) (x:Str) (f l:Ms):Prop where
 fl:(meas ps)[m.fl]? = some f
 ll:(meas ps)[m.ll]? = some l
 sg:m.sg=x.length
 en:m.en=jJ x
 f1:1<=f.sg
 f8:f.sg<=8
 l1:1<=l.sg
 l8:l.sg<=8
 lv:1<=m.lv
 ht:0<=m.ht
 most:m.sg<=1000000000000000000
 cnt:∃ k,(m.lv=2*k+1/\9*k+f.sg<=m.sg/\9*k+l.sg<=m.sg)\/(m.lv=2*k+2/\9*k+9<=m.sg/\9*k+f.sg+l.sg<=m.sg)
 pl:br x=true
structure Tx (ps:List Pc) (n:Nat) (m:Ms) (x:Str) (f l:Ms):Prop where
 n1:1<=n
 ms:(meas ps)[n]? = some m
 rd:(reads ps)[n]? = some x
 ky:Ky ps m x f l
theorem Ky.pre {ps ps':List Pc} {m:Ms} {x:Str} {f l:Ms} (k:Ky ps m x f l) (h:ps <+: ps'):Ky ps' m x f l :=
 { k with fl:=bD h k.fl,ll:=bD h k.ll }
theorem Tx.pre {ps ps':List Pc} {n:Nat} {m:Ms} {x:Str} {f l:Ms} (k:Tx ps n m x f l) (h:ps <+: ps'):Tx ps' n m x f l :=
 ⟨k.n1,bD h k.ms,pY h k.rd,k.ky.pre h⟩
theorem Tx.le {ps:List Pc} {n:Nat} {m:Ms} {x:Str} {f l:Ms} (k:Tx ps n m x f l):n<=ps.length:=by
 have:=(Kh.mp k.ms).1
 rw [d6] at this;lia
def i3 (ma mb:Ms):Ms:=⟨ma.sg+mb.sg,ma.en+mb.en,ma.lv+mb.lv,max ma.ht mb.ht+1,ma.fl,mb.ll⟩
theorem j7 (x y:Str):br (x++y)=(br x && br y):=by unfold br;rw [dH,List.all_append]
theorem Gq {n n' s s' f l f' l':Nat} (a:∃ k,(n=2*k+1/\9*k+f<=s/\9*k+l<=s)\/(n=2*k+2/\9*k+9<=s/\9*k+f+l<=s)) (b:∃ k,(n'=2*k+1/\9*k+f'<=s'/\9*k+l'<=s')\/(n'=2*k+2/\9*k+9<=s'/\9*k+f'+l'<=s')) (hs:8<l+f') :
  ∃ k,(n+n'=2*k+1/\9*k+f<=s+s'/\9*k+l'<=s+s')\/(n+n'=2*k+2/\9*k+9<=s+s'/\9*k+f+l'<=s+s'):=by
 obtain ⟨k,⟨rfl,a1,a2⟩ | ⟨rfl,a1,a2⟩⟩:=a<;>obtain ⟨k',⟨rfl,b1,b2⟩ | ⟨rfl,b1,b2⟩⟩:=b
 ·exact ⟨k+k',.inr ⟨by lia,by lia,by lia⟩⟩
 ·exact ⟨k+k'+1,.inl ⟨by lia,by lia,by lia⟩⟩
 ·exact ⟨k+k'+1,.inl ⟨by lia,by lia,by lia⟩⟩
 ·exact ⟨k+k'+1,.inr ⟨by lia,by lia,by lia⟩⟩
theorem Ky.fork {ps:List Pc} {ma mb fa la fb lb:Ms} {x y:Str} (A:Ky ps ma x fa la) (B:Ky ps mb y fb lb) (hs:8<la.sg+fb.sg) (hm:ma.sg+mb.sg<=1000000000000000000):Ky ps (i3 ma mb) (x++y) fa lb:=by
 have k:=Gq A.cnt B.cnt hs
 refine ⟨A.fl,B.ll,?_,?_,A.f1,A.f8,B.l1,B.l8,Kn A.lv (LQ _ _),?_,hm,k,?_⟩
 ·show ma.sg+mb.sg=_;rw [cx,A.sg,B.sg]
 ·show ma.en+mb.en=_;rw [Gk,A.en,B.en]
 ·have a4:=A.ht
  show 0<=max ma.ht mb.ht+1
  clear k hs hm;lia
 ·rw [j7,A.pl,B.pl];rfl
theorem gF {x:Str} (h:dS x=true):1<=x.length/\x.length<=8/\br x=true:=by
 simp [dS] at h;exact ⟨h.2.1,h.2.2,h.1⟩
theorem k9 {α:Type} {l:List α} {i:Nat} {d x:α} (e:l[i]? = some x):l.getD i d=x:=by simp [List.getD,e]
def bY (x:Str) (n:Nat):Ms:=⟨x.length,jJ x,1,0,n,n⟩
theorem nV {ps:List Pc} (g:Good ps) {i:Nat} {x:Str} (e:ps[i]? = some (.leaf x)):Tx ps (i+1) (bY x (i+1)) x (bY x (i+1)) (bY x (i+1)):=by
 have hi:=(Kh.mp e).1
 have ok:dS x=true:=g.get e
 obtain ⟨s1,s2,s3⟩:=gF ok
 have li:(ps.take i).length=i:=by simp;lia
 have ml:(meas (ps.take i)).length=i+1:=by rw [d6,li]
 have e1':(meas ps)[i+1]? = some (bY x (i+1)):=by rw [yk e];simp only [iJ,bY];rw [ml]
 exact ⟨by lia,e1',yl e,⟨e1',e1',rfl,rfl,s1,s2,s1,s2,Kj 1,Int.le_refl 0,by show x.length<=_;lia,⟨0,.inl ⟨rfl,Nl (L9 _),Nl (L9 _)⟩⟩,s3⟩⟩
theorem nW {ps:List Pc} (g:Good ps) {i a b:Nat} {ma mb fa la fb lb:Ms} {x y:Str} (e:ps[i]? = some (.fork a b)) (A:Tx ps a ma x fa la) (B:Tx ps b mb y fb lb):Tx ps (i+1) (i3 ma mb) (x++y) fa lb:=by
 have hi:=(Kh.mp e).1
 have ok':ForkOk (ps.take i) a b:=g.get e
 have li:(ps.take i).length=i:=by simp;lia
 have tp:=pZ ps i
 obtain ⟨ma',mb',la',fb',q1,q2,q3,q4,q5,q6,q7⟩:=ok'.ex
 have ba:=(Kh.mp q1).1
 have bb:=(Kh.mp q2).1
 rw [d6,li] at ba bb;have z1:=A.ms.symm.trans (bD tp q1);cases z1
 have z2:=B.ms.symm.trans (bD tp q2);cases z2
 have z3:=A.ky.ll.symm.trans (bD tp q3);cases z3
 have z4:=B.ky.fl.symm.trans (bD tp q4);cases z4
 have r1:(reads (ps.take i))[a]? = some x:=by
  obtain ⟨w,ew⟩:∃ w,(reads (ps.take i))[a]? = some w:=⟨(reads (ps.take i))[a]'(by rw [pX,li];lia),by simp⟩
  have:=(pY tp ew).symm.trans A.rd;cases this;exact ew
 have r2:(reads (ps.take i))[b]? = some y:=by
  obtain ⟨w,ew⟩:∃ w,(reads (ps.take i))[b]? = some w:=⟨(reads (ps.take i))[b]'(by rw [pX,li];lia),by simp⟩
  have:=(pY tp ew).symm.trans B.rd;cases this;exact ew
 refine ⟨by lia,?_,?_,A.ky.fork B.ky q5 q7⟩
 ·rw [yk e];simp only [iJ,k9 q1,k9 q2];rfl
 ·rw [yl e];simp only [k8,k9 r1,k9 r2]
theorem Good.tx {ps:List Pc} (g:Good ps):∀ n,1<=n->n<=ps.length->∃ m x f l,Tx ps n m x f l:=by
 intro n
 induction n using Nat.strongRecOn with
 | ind n ih =>
  intro h1 h2
  obtain ⟨i,rfl⟩:∃ i,n=i+1:=⟨n-1,(Nat.sub_add_cancel h1).symm⟩
  obtain ⟨q,eq⟩:∃ q,ps[i]? = some q:=⟨ps[i],by simp⟩
  have ok:=g.get eq
  have li:(ps.take i).length=i:=(tu eq).2
  cases q with
  | leaf x=>exact ⟨_,_,_,_,nV g eq⟩
  | fork a b =>
   have ok':ForkOk (ps.take i) a b:=ok
   obtain ⟨ma,mb,la,fb,q1,q2,_⟩:=ok'.ex
   have ba:=(Kh.mp q1).1
   have bb:=(Kh.mp q2).1
   rw [d6,li] at ba bb;obtain ⟨_,_,_,_,A⟩:=ih a ba ok'.pa (Kn (Mg ba) h2)
   obtain ⟨_,_,_,_,B⟩:=ih b bb ok'.pb (Kn (Mg bb) h2)
   exact ⟨_,_,_,_,nW g eq A B⟩
structure Dd (p:Nat) (h h':AH) (ps ps':List Pc) (k:Nat):Prop where
 sh:ShelfAt h' p ps'
 gd:Good ps'
 pre:ps <+: ps'
 len:ps'.length<=ps.length+k
 fr:∀ i,i<=p\/p+8<i->h'[i]? = h[i]?
 hl:h'.length=h.length
theorem ShelfAt.keep {h h':AH} {p:Nat} {ps:List Pc} (S:ShelfAt h p ps) (e:∀ i,p<=i->i<=p+8->h'[i]? = h[i]?):ShelfAt h' p ps:=by
 have k:∀ j,j<=8->h'[p+j]? = h[p+j]? := fun j hj=>e _ (LQ p j) (K5 hj p)
 exact ⟨(k 0 (by decide)).trans S.ob,(k 1 (by decide)).trans S.h1,(k 2 (by decide)).trans S.h2,(k 3 (by decide)).trans S.h3,(k 4 (by decide)).trans S.h4,(k 5 (by decide)).trans S.h5,(k 6 (by decide)).trans S.h6,(k 7 (by decide)).trans S.h7,(k 8 (by decide)).trans S.h8⟩
theorem ShelfAt.app {h:AH} {p:Nat} {ps:List Pc} (S:ShelfAt h p ps) (r:AH):ShelfAt (h++r) p ps:=by
 have:=aY S.h8
 exact S.keep fun i _ b=>Ki (KA b this)
structure Wk (p r:Nat) (h h':AH) (ps ps':List Pc) (k:Nat):Prop where
 sh:ShelfAt h' p ps'
 gd:Good ps'
 pre:ps <+: ps'
 len:ps'.length<=ps.length+k
 row:∃ N:Int,h'[r]? = some (.lst [.int N])
 fr:∀ i,i<=p\/p+8<i->i≠r->h'[i]? = h[i]?
 hl:h'.length=h.length
theorem Wk.refl {p r:Nat} {h:AH} {ps:List Pc} (S:ShelfAt h p ps) (g:Good ps) (e:∃ N:Int,h[r]? = some (.lst [.int N])):Wk p r h h ps ps 0 :=
 ⟨S,g,Lf _,by lia,e,fun _ _ _=>rfl,rfl⟩
theorem lg {h:AH} {p:Nat} {ps:List Pc} {i:Nat} (S:ShelfAt h p ps) (hi:i<=ps.length):ik [.ref p,.int i] h = .ok .non h:=by
 by_cases z:i=0
 ·subst z;simp [ik]
 ·have c:=pV S (i:=(i:Int)) ⟨by lia,by lia⟩
  simp [ik,z,S.ob,c]
theorem j8 {h:AH} {p:Nat} {ps:List Pc} {i:Nat} {m:Ms} (S:ShelfAt h p ps) (e:(meas ps)[i]? = some m):jB [.ref p,.int i] h = .ok (.int m.sg) h:=by
 have hi:=(Kh.mp e).1
 rw [d6] at hi;simp [jB,lg S (show i<=ps.length by lia),S.ob,S.h3,dD e]
theorem dj {h:AH} {p:Nat} {ps:List Pc} {i:Nat} {m:Ms} (S:ShelfAt h p ps) (e:(meas ps)[i]? = some m):gZ [.ref p,.int i] h = .ok (.int m.ht) h:=by
 have hi:=(Kh.mp e).1
 rw [d6] at hi;simp [gZ,lg S (show i<=ps.length by lia),S.ob,S.h6,dD e]
theorem ym {h:AH} {p:Nat} {ps:List Pc} {i:Nat} {m:Ms} (S:ShelfAt h p ps) (e:(meas ps)[i]? = some m):nL [.ref p,.int i] h = .ok (.int m.fl) h:=by
 have hi:=(Kh.mp e).1
 rw [d6] at hi;simp [nL,lg S (show i<=ps.length by lia),S.ob,S.h7,dD e]
theorem yn {h:AH} {p:Nat} {ps:List Pc} {i:Nat} {m:Ms} (S:ShelfAt h p ps) (e:(meas ps)[i]? = some m):nK [.ref p,.int i] h = .ok (.int m.ll) h:=by
 have hi:=(Kh.mp e).1
 rw [d6] at hi;simp [nK,lg S (show i<=ps.length by lia),S.ob,S.h8,dD e]
def lp:Nat->Nat×Nat
 | 0=>(1,2)
 | n+1=>((lp n).2,(lp n).1+(lp n).2)
def ll (n:Nat):Nat:=(lp n).1
def ls (n:Nat):Nat:=9*(ll n / 2)+ll n % 2
theorem jK (n:Nat):ll (n+2)=ll n+ll (n+1):=rfl
theorem yo:∀ n,ll n<=ll (n+1)
 | 0=>by decide
 | n+1=>by rw [show n+1+1=n+2 from rfl,jK];lia
theorem Gr {a b:Nat} (h:a<=b):ll a<=ll b:=by
 induction h with
 | refl=>exact Kj _
 | step h ih=>exact Kn ih (yo _)
theorem Gs {a b:Nat} (h:a<=b):ls a<=ls b:=by
 have:=Gr h
 unfold ls;lia
theorem Gu {i j a b:Nat} (h1:i<=j+1) (h2:j<=i+1) (u1:ll i<=a) (u2:ll j<=b):ll (max i j+1)<=a+b:=by
 rcases Nat.lt_trichotomy i j with c | c | c
 ·have e':j=i+1:=Nat.le_antisymm h2 c
  subst e'
  rw [Nat.max_eq_right (NR i),jK];exact NS u1 u2
 ·subst c
  rw [Nat.max_self];refine Kn ?_ (NS u1 u2)
  cases i with
  | zero=>exact Kj 2
  | succ k=>rw [show k+1+1=k+2 from rfl,jK];exact Nat.add_le_add_right (yo k) _
 ·have e':i=j+1:=Nat.le_antisymm h1 c
  subst e'
  rw [Nat.max_eq_left (NR j),jK,LD];exact NS u1 u2
theorem Gv {x y:Int} {a b:Nat} (hx:0<=x) (hy:0<=y) (q:(x-y).natAbs<=1) (u1:ll x.toNat<=a) (u2:ll y.toNat<=b):ll (max x y+1).toNat<=a+b:=by
 obtain ⟨i,rfl⟩:=L6 hx
 obtain ⟨j,rfl⟩:=L6 hy
 have e:(max (i:Int) j+1).toNat=max i j+1:=by clear u1 u2 q;omega
 rw [e];exact Gu (by clear u1 u2 e;omega) (by clear u1 u2 e;omega) u1 u2
theorem Good.lv {ps:List Pc} (g:Good ps):∀ n m x f l,Tx ps n m x f l->ll m.ht.toNat<=m.lv:=by
 intro n
 induction n using Nat.strongRecOn with
 | ind n ih =>
  intro m x f l T
  have hn:=T.n1
  have hle:=T.le
  obtain ⟨i,rfl⟩:∃ i,n=i+1:=⟨n-1,by lia⟩
  obtain ⟨q,eq⟩:∃ q,ps[i]? = some q:=⟨ps[i],by simp⟩
  cases q with
  | leaf y =>
   have z:=(nV g eq).ms.symm.trans T.ms;cases z
   exact Kj 1
  | fork a b =>
   have ok':ForkOk (ps.take i) a b:=g.get eq
   have li:(ps.take i).length=i:=by simp;lia
   obtain ⟨ma,mb,la,fb,q1,q2,q3,q4,q5,q6,q7⟩:=ok'.ex
   have ba:=(Kh.mp q1).1
   have bb:=(Kh.mp q2).1
   rw [d6,li] at ba bb;obtain ⟨ma',x1,fa,la',A⟩:=g.tx a ok'.pa (by lia)
   obtain ⟨mb',y1,fb',lb,B⟩:=g.tx b ok'.pb (by lia)
   have tp:=pZ ps i
   have z1:=A.ms.symm.trans (bD tp q1);cases z1
   have z2:=B.ms.symm.trans (bD tp q2);cases z2
   have u1:=ih a (by lia) _ _ _ _ A
   have u2:=ih b (by lia) _ _ _ _ B
   have z:=(nW g eq A B).ms.symm.trans T.ms;cases z
   exact Gv A.ky.ht B.ky.ht q6 u1 u2
theorem Tx.ls {ps:List Pc} (g:Good ps) {n:Nat} {m:Ms} {x:Str} {f l:Ms} (T:Tx ps n m x f l):Sk.ls m.ht.toNat<=m.sg:=by
 have u:=g.lv _ _ _ _ _ T
 have f1:=T.ky.f1
 unfold Sk.ls
 obtain ⟨k,⟨e,a,_⟩ | ⟨e,a,_⟩⟩:=T.ky.cnt
 ·rw [e] at u;generalize ll m.ht.toNat=q at *;clear e;lia
 ·rw [e] at u;generalize ll m.ht.toNat=q at *;clear e;lia
theorem Good.kind {ps:List Pc} (g:Good ps) {n:Nat} {m:Ms} {x:Str} {f l:Ms} (T:Tx ps n m x f l) :
  (ps[n-1]? = some (.leaf x)/\m.ht=0/\m=bY x n/\1<=x.length/\x.length<=8)\/∃ a b ma mb y z fa la fb lb,ps[n-1]? = some (.fork a b)/\a<n/\b<n/\Tx ps a ma y fa la/\Tx ps b mb z fb lb/\x=y++z/\m=i3 ma mb/\(ma.ht-mb.ht).natAbs<=1:=by
 have hn:=T.n1
 have hle:=T.le
 obtain ⟨i,rfl⟩:∃ i,n=i+1:=⟨n-1,by lia⟩
 obtain ⟨q,eq⟩:∃ q,ps[i]? = some q:=⟨ps[i],by simp⟩
 cases q with
 | leaf y =>
  have L:=nV g eq
  have z:=L.ms.symm.trans T.ms;cases z
  have z2:=L.rd.symm.trans T.rd;cases z2
  have ok:dS x=true:=g.get eq
  obtain ⟨s1,s2,s3⟩:=gF ok
  exact .inl ⟨eq,rfl,rfl,s1,s2⟩
 | fork a b =>
  have ok':ForkOk (ps.take i) a b:=g.get eq
  have li:(ps.take i).length=i:=by simp;lia
  obtain ⟨ma,mb,la,fb,q1,q2,q3,q4,q5,q6,q7⟩:=ok'.ex
  have ba:=(Kh.mp q1).1
  have bb:=(Kh.mp q2).1
  rw [d6,li] at ba bb;obtain ⟨ma',y,fa,la',A⟩:=g.tx a ok'.pa (by lia)
  obtain ⟨mb',z,fb',lb,B⟩:=g.tx b ok'.pb (by lia)
  have tp:=pZ ps i
  have z1:=A.ms.symm.trans (bD tp q1);cases z1
  have z2:=B.ms.symm.trans (bD tp q2);cases z2
  have F:=nW g eq A B
  have z3:=F.ms.symm.trans T.ms;cases z3
  have z4:=F.rd.symm.trans T.rd;cases z4
  exact .inr ⟨a,b,ma,mb,y,z,fa,la',fb',lb,eq,by lia,by lia,A,B,rfl,rfl,q6⟩
theorem yp {h:AH} {p:Nat} {ps:List Pc} {n:Nat} {q:Pc} (S:ShelfAt h p ps) (n1:1<=n) (e:ps[n-1]? = some q):dZ [.ref p,.int n] h = .ok q.av h:=by
 have:=Gb S e
 rw [show ((n-1:Nat):Int)+1=(n:Int) by lia] at this
 exact this
theorem lh {m a b:Int} (e:m=max a b+1) (ha:0<=a) (hb:0<=b):∃ j:Nat,m.toNat=j+1/\a.toNat<=j/\b.toNat<=j/\0<m:=by
 obtain ⟨x,rfl⟩:=L6 ha
 obtain ⟨y,rfl⟩:=L6 hb
 subst e;exact ⟨max x y,by lia,Nat.le_max_left _ _,Nat.le_max_right _ _,by lia⟩
end Sk
namespace Sk
open PySem PySem.Spec L2 Sm
theorem cW {x y:Str} (e:x.cps.toList=y.cps.toList):x=y:=by
 cases x;cases y
 simpa using e
theorem eE (x y z:Str):(x++y)++z=x++(y++z):=cW (by simp only [dH,KN])
theorem tw:1000000000000000000<ls 83:=by decide +kernel
theorem hE {ps:List Pc} (g:Good ps) {n:Nat} {m:Ms} {x:Str} {f l:Ms} (T:Tx ps n m x f l):m.ht<=82:=by
 have h1:=T.ls g
 have h2:=T.ky.most
 have h3:=T.ky.ht
 apply Classical.byContradiction
 intro h4
 have:=Gs (show 83<=m.ht.toNat by lia)
 have:=tw
 lia
theorem Good.cut {ps:List Pc} (g:Good ps) {n:Nat} {m:Ms} {x:Str} {f l:Ms} (T:Tx ps n m x f l) (hh:0<m.ht) :
  ∃ a b ma mb y z la fb,ps[n-1]? = some (.fork a b)/\Tx ps a ma y f la/\Tx ps b mb z fb l/\x=y++z/\m=i3 ma mb /\ -1<=ma.ht-mb.ht/\ma.ht-mb.ht<=1/\8<la.sg+fb.sg:=by
 rcases g.kind T with ⟨_,e,_⟩ | ⟨a,b,ma,mb,y,z,fa,la,fb,lb,e1,e2,e3,A,B,e4,e5,e6⟩
 ·omega
 ·have ok:ForkOk (ps.take (n-1)) a b:=g.get e1
  obtain ⟨ma',mb',la',fb',q1,q2,q3,q4,q5,_⟩:=(ok.pre (pZ ps _)).ex
  have z1:=A.ms.symm.trans q1;cases z1
  have z2:=B.ms.symm.trans q2;cases z2
  have z3:=A.ky.ll.symm.trans q3;cases z3
  have z4:=B.ky.fl.symm.trans q4;cases z4
  have f1:=T.ky.fl
  have l1:=T.ky.ll
  rw [e5] at f1 l1;have z5:=f1.symm.trans A.ky.fl;cases z5
  have z6:=l1.symm.trans B.ky.ll;cases z6
  exact ⟨a,b,ma,mb,y,z,la,fb,e1,A,B,e4,e5,by omega,by omega,q5⟩
def dE (M:Nat) (ps:List Pc):Prop:=∀ (i:Nat) (m:Ms),(meas ps)[i]? = some m->m.sg<=M
theorem yq {M:Nat} {ps ps':List Pc} (f:dE M ps) (pr:ps <+: ps') (hl:ps'.length=ps.length+1) (hn:∀ m,(meas ps')[ps.length+1]? = some m->m.sg<=M):dE M ps' := fun i m e=>by
 have hi:=(Kh.mp e).1
 rw [d6] at hi;by_cases q:i<=ps.length
 ·obtain ⟨m0,e0⟩:∃ m0,(meas ps)[i]? = some m0:=⟨_,KM (by rw [d6];lia)⟩
  have e1:=bD pr e0
  rw [e] at e1
  cases e1
  exact f i _ e0
 ·have:i=ps.length+1:=by lia
  subst this;exact hn m e
theorem gG {ps1 ps2:List Pc} {n1 n2:Nat} {m1 m2:Ms} (e1:(meas ps1)[n1]? = some m1) (e2:(meas ps2)[n2]? = some m2) (le:m1.sg<=m2.sg):∀ M,(∀ m,(meas ps2)[n2]? = some m->m.sg<=M)->∀ m,(meas ps1)[n1]? = some m->m.sg<=M:=fun M h m e=>by
 rw [e1] at e
 cases e
 exact Kn le (h _ e2)
structure Dn (F:AH->Out AV) (p:Nat) (h h':AH) (ps ps':List Pc) (k n:Nat):Prop where
 ev:F h = .ok (.int n) h'
 dd:Dd p h h' ps ps' k
 re:∀ h2 ps2,ShelfAt h2 p ps2->Good ps2->ps' <+: ps2->F h2 = .ok (.int n) h2
 al:∀ M,dE M ps->(∀ m,(meas ps')[n]? = some m->m.sg<=M)->dE M ps'
theorem Dd.trans {p:Nat} {h h' h'':AH} {ps ps' ps'':List Pc} {k k' k2:Nat} (a:Dd p h h' ps ps' k) (b:Dd p h' h'' ps' ps'' k') (hk:k+k'<=k2):Dd p h h'' ps ps'' k2 :=
 ⟨b.sh,b.gd,a.pre.trans b.pre,by have:=a.len;have:=b.len;lia,fun i hi=>(b.fr i hi).trans (a.fr i hi),b.hl.trans a.hl⟩
theorem Dd.refl {p:Nat} {h:AH} {ps:List Pc} (S:ShelfAt h p ps) (g:Good ps):Dd p h h ps ps 0:=⟨S,g,Lf _,by lia,fun _ _=>rfl,rfl⟩
theorem Dn.seq {F F1:AH->Out AV} {F2:AV->AH->Out AV} {p:Nat} {h h1 h2:AH} {ps ps1 ps2:List Pc} {k1 k2 k n1 n2:Nat} (S:ShelfAt h p ps) (g:Good ps) (d1:Dn F1 p h h1 ps ps1 k1 n1) (d2:Dn (F2 (.int n1)) p h1 h2 ps1 ps2 k2 n2)
  (eq:∀ hh pp,ShelfAt hh p pp->Good pp->ps <+: pp->F hh=(F1 hh).bind F2) (hk:k1+k2<=k) (pt:∀ M,(∀ m,(meas ps2)[n2]? = some m->m.sg<=M)->∀ m,(meas ps1)[n1]? = some m->m.sg<=M):Dn F p h h2 ps ps2 k n2:=by
 refine ⟨?_,d1.dd.trans d2.dd hk,fun h3 ps3 S3 g3 p3=>?_,fun M f hn=>d2.al M (d1.al M f (pt M hn)) hn⟩
 ·rw [eq h ps S g (Lf _),d1.ev];exact d2.ev
 ·rw [eq h3 ps3 S3 g3 (d1.dd.pre.trans (d2.dd.pre.trans p3)),d1.re h3 ps3 S3 g3 (d2.dd.pre.trans p3)]
  exact d2.re h3 ps3 S3 g3 p3
theorem Dn.as {F F1:AH->Out AV} {p:Nat} {h h1:AH} {ps ps1:List Pc} {k1 k n1:Nat} (S:ShelfAt h p ps) (g:Good ps) (d1:Dn F1 p h h1 ps ps1 k1 n1) (eq:∀ hh pp,ShelfAt hh p pp->Good pp->ps <+: pp->F hh=F1 hh) (hk:k1<=k):Dn F p h h1 ps ps1 k n1:=by
 refine ⟨?_,{ d1.dd with len:=Kn d1.dd.len (K5 hk _) },fun h3 ps3 S3 g3 p3=>?_,d1.al⟩
 ·rw [eq h ps S g (Lf _)];exact d1.ev
 ·rw [eq h3 ps3 S3 g3 (d1.dd.pre.trans p3)];exact d1.re h3 ps3 S3 g3 p3
theorem Dn.val {F:AH->Out AV} {p n:Nat} {h:AH} {ps:List Pc} (S:ShelfAt h p ps) (g:Good ps) (eq:∀ hh pp,ShelfAt hh p pp->Good pp->ps <+: pp->F hh = .ok (.int n) hh):Dn F p h h ps ps 0 n :=
 ⟨eq h ps S g (Lf _),Dd.refl S g,fun h3 ps3 S3 g3 p3=>eq h3 ps3 S3 g3 p3,fun _ f _=>f⟩
theorem d7 {ps ps':List Pc} (h:ps <+: ps') {i:Nat} {q:Pc} (e:ps[i]? = some q):ps'[i]? = some q:=by
 obtain ⟨r,rfl⟩:=h
 rw [Ki (Kh.mp e).1];exact e
theorem yr {h:AH} {p:Nat} {ps:List Pc} {x:Str} (S:ShelfAt h p ps) (g:Good ps) (hx:dS x=true) (hz:ps.length<16000000) :
  ∃ (n:Nat) (ps':List Pc) (h':AH),Dn (gA [.ref p,.str x]) p h h' ps ps' 1 n/\Tx ps' n (bY x n) x (bY x n) (bY x n):=by
 obtain ⟨s1,s2,s3⟩:=gF hx
 have hs:x.length<=sizeLine:=Kn s2 (by decide)
 by_cases hq:Pc.leaf x∈ps
 ·obtain ⟨i,hi,e⟩:=Mn hq
  have e':ps[i]? = some (.leaf x):=by rw [KM hi,e]
  exact ⟨i+1,ps,h,⟨sZ S g.nodup hx hs e',⟨S,g,Lf _,by lia,fun _ _=>rfl,rfl⟩,fun h2 ps2 S2 g2 p2=>sZ S2 g2.nodup hx hs (d7 p2 e'),fun _ f _=>f⟩,nV g e'⟩
 ·have g':Good (ps++[.leaf x]):=.snoc g hq hx
  have e':(ps++[Pc.leaf x])[ps.length]? = some (.leaf x):=by simp
  exact ⟨ps.length+1,_,_,⟨Ge S hx hs hq hz,⟨pU S,g',MW _ _,by simp,fun i hi=>yd hi,yc _ _ _⟩,fun h2 ps2 S2 g2 p2=>sZ S2 g2.nodup hx hs (d7 p2 e'),fun M f hn=>yq f (MW _ _) (by simp) hn⟩,nV g' e'⟩
theorem gn {h:AH} {p:Nat} {ps:List Pc} {a b:Nat} {ma mb fa la fb lb:Ms} {x y:Str} (S:ShelfAt h p ps) (g:Good ps) (A:Tx ps a ma x fa la) (B:Tx ps b mb y fb lb) (hc:8<la.sg+fb.sg) (v1 : -1<=ma.ht-mb.ht) (v2:ma.ht-mb.ht<=1) (hm:ma.sg+mb.sg<=1000000000000000000) (hz:ps.length<16000000) :
  ∃ (n:Nat) (ps':List Pc) (h':AH),Dn (bu [.ref p,.int a,.int b]) p h h' ps ps' 1 n/\Tx ps' n (i3 ma mb) (x++y) fa lb:=by
 have F:ForkOk ps a b:=⟨A.n1,B.n1,ma,mb,la,fb,A.ms,B.ms,A.ky.ll,B.ky.fl,hc,by lia,hm⟩
 by_cases hq:Pc.fork a b∈ps
 ·obtain ⟨i,hi,e⟩:=Mn hq
  have e':ps[i]? = some (.fork a b):=by rw [KM hi,e]
  exact ⟨i+1,ps,h,⟨tf S g.nodup F e',⟨S,g,Lf _,by lia,fun _ _=>rfl,rfl⟩,fun h2 ps2 S2 g2 p2=>tf S2 g2.nodup (F.pre p2) (d7 p2 e'),fun _ f _=>f⟩,nW g e' A B⟩
 ·have g':Good (ps++[.fork a b]):=.snoc g hq F
  have e':(ps++[Pc.fork a b])[ps.length]? = some (.fork a b):=by simp
  have pr:ps <+: ps++[Pc.fork a b]:=MW _ _
  exact ⟨ps.length+1,_,_,⟨Gg S F hq hz,⟨pU S,g',pr,by simp,fun i hi=>yd hi,yc _ _ _⟩,fun h2 ps2 S2 g2 p2=>tf S2 g2.nodup (F.pre (pr.trans p2)) (d7 p2 e'),fun M f hn=>yq f pr (by simp) hn⟩,nW g' e' (A.pre pr) (B.pre pr)⟩
theorem gp (ma mb:Ms):(i3 ma mb).sg=ma.sg+mb.sg:=rfl
theorem bQ (ma mb:Ms):(i3 ma mb).ht=max ma.ht mb.ht+1:=rfl
theorem i1 (s:Str) (a b:Int) (h:AH):aB (.tup [.str s,.int a,.int b]) (.int 1) h = .ok (.int a) h:=rfl
theorem i2 (s:Str) (a b:Int) (h:AH):aB (.tup [.str s,.int a,.int b]) (.int 2) h = .ok (.int b) h:=rfl
theorem gq {h:AH} {p:Nat} {ps:List Pc} {n a b:Nat} (S:ShelfAt h p ps) (n1:1<=n) (e:ps[n-1]? = some (.fork a b)):dZ [.ref p,.int n] h = .ok (.tup [.str "fork",.int a,.int b]) h:=yp S n1 e
theorem tB {h:AH} {p:Nat} {ps:List Pc} {a b:Nat} {ma mb:Ms} (S:ShelfAt h p ps) (ea:(meas ps)[a]? = some ma) (eb:(meas ps)[b]? = some mb) (hd:mb.ht-ma.ht<2) :
  gB [.ref p,.int a,.int b] h=bu [.ref p,.int a,.int b] h:=by
 have f1:=dj S ea
 have f2:=dj S eb
 generalize hF:bu [.ref p,.int a,.int b] h=R
 simp [gB,S.ob,f1,f2,hd,hF]
 cases R<;>rfl
theorem tD {h:AH} {p:Nat} {ps:List Pc} {a b c d:Nat} {ma mb mc md:Ms} (S:ShelfAt h p ps) (b1:1<=b) (ea:(meas ps)[a]? = some ma) (eb:(meas ps)[b]? = some mb) (e:ps[b-1]? = some (.fork c d)) (ec:(meas ps)[c]? = some mc) (ed:(meas ps)[d]? = some md) (hd : ¬ mb.ht-ma.ht<2) (hh:mc.ht<=md.ht) :
  gB [.ref p,.int a,.int b] h=(bu [.ref p,.int a,.int c] h).bind fun v h1=>bu [.ref p,v,.int d] h1:=by
 have f1:=dj S ea
 have f2:=dj S eb
 have f3:=gq S b1 e
 have f4:=dj S ec
 have f5:=dj S ed
 generalize hF:bu [.ref p,.int a,.int c] h=R
 simp [gB,S.ob,f1,f2,hd,f3,i1,i2,f4,f5,hh,hF,-aB]
 cases R with
 | ok v h1=>dsimp only;cases bu [.ref p,v,.int d] h1<;>rfl
 | ex c h1=>rfl
 | bad=>rfl
def dF (p:Nat) (F:AH->Out AV) (h:AH):Out AV:=match h[p]? with
 | some (.ins c' _)=>if c'=0 then F h else .bad
 | _=>.bad
theorem yt {h:AH} {p:Nat} {ps:List Pc} (S:ShelfAt h p ps) (F:AH->Out AV):dF p F h=F h:=by simp [dF,S.ob]
theorem tF {h:AH} {p:Nat} {ps:List Pc} {a b c d i j:Nat} {ma mb mc md:Ms} (S:ShelfAt h p ps) (b1:1<=b) (c1:1<=c) (ea:(meas ps)[a]? = some ma) (eb:(meas ps)[b]? = some mb) (e:ps[b-1]? = some (.fork c d)) (ec:(meas ps)[c]? = some mc) (ed:(meas ps)[d]? = some md) (e2:ps[c-1]? = some (.fork i j)) (hd : ¬ mb.ht-ma.ht<2) (hh : ¬ mc.ht<=md.ht) :
  gB [.ref p,.int a,.int b] h=(bu [.ref p,.int a,.int i] h).bind fun v h1=>(dF p (bu [.ref p,.int j,.int d]) h1).bind fun w h2=>bu [.ref p,v,w] h2:=by
 have f1:=dj S ea
 have f2:=dj S eb
 have f3:=gq S b1 e
 have f4:=dj S ec
 have f5:=dj S ed
 have f6:=gq S c1 e2
 generalize hF:bu [.ref p,.int a,.int i] h=R
 simp [gB,S.ob,f1,f2,hd,f3,i1,i2,f4,f5,hh,f6,hF,-aB]
 cases R with
 | ok v h1 =>
  unfold dF
  dsimp only
  cases hx:h1[p]? with
  | none=>rfl
  | some o =>
   cases o with
   | lst l=>rfl
   | dct q l=>rfl
   | ins c' l =>
    dsimp only;by_cases z:c'=0
    ·rw [Ku z]
     cases bu [.ref p,.int j,.int d] h1 with
     | ok w h2=>dsimp only;cases bu [.ref p,v,w] h2<;>rfl
     | ex c h2=>rfl
     | bad=>rfl
    ·rw [KF z]
 | ex c h1=>rfl
 | bad=>rfl
theorem tG {a b m:Int} (h1 : -1<=b-a) (h2:b-a<2) (e:m=max a b+1):max a b<=m/\m<=max a b+1/\(b-a<=1->m=max a b+1):=by lia
theorem lA8 {a b c d i j:Int} (ht:b=max c d+1) (ht2:c=max i j+1) (w1 : -1<=c-d) (w2:c-d<=1) (v2:b-a<=2) (q : ¬ b-a<2) (r : ¬ c<=d):max a b<=max (max a i+1) (max j d+1)+1/\max (max a i+1) (max j d+1)+1<=max a b+1/\(b-a<=1->max (max a i+1) (max j d+1)+1=max a b+1):=by
 have hi:=Int.le_max_left i j
 have hj:=Int.le_max_right i j
 generalize max i j=k at *
 rw [Int.max_eq_left (show d<=c by lia)] at ht
 rw [Int.max_eq_left (show i<=a by lia),Int.max_eq_right (show j<=d by lia),Int.max_eq_right (show a<=b by lia),Int.max_eq_left (show d+1<=a+1 by lia)];lia
theorem lB8 {a b c d i j:Int} (ht:a=max c d+1) (ht2:d=max i j+1) (w1 : -1<=c-d) (w2:c-d<=1) (v2:a-b<=2) (q : ¬ a-b<2) (r : ¬ d<=c):max a b<=max (max c i+1) (max j b+1)+1/\max (max c i+1) (max j b+1)+1<=max a b+1/\(a-b<=1->max (max c i+1) (max j b+1)+1=max a b+1):=by
 have hi:=Int.le_max_left i j
 have hj:=Int.le_max_right i j
 generalize max i j=k at *
 rw [Int.max_eq_right (show c<=d by lia)] at ht
 rw [Int.max_eq_left (show i<=c by lia),Int.max_eq_right (show j<=b by lia),Int.max_eq_left (show b<=a by lia),Int.max_eq_left (show b+1<=c+1 by lia)];lia
theorem mxe (a b:Int):a<=max a b/\b<=max a b/\(max a b=a\/max a b=b):=by lia
theorem lC8 {a b c e m n:Int} (hh:a=max c e+1) (w1 : -1<=c-e) (w2:c-e<=1) (q:1<a-b) (u1:max e b<=m) (u2:m<=max e b+1) (u3:max c m<=n) (u4:n<=max c m+1) (u5:m-c<=1->n=max c m+1):max a b<=n/\n<=max a b+1:=by
 obtain ⟨x1,x2,x3⟩:=mxe c e
 obtain ⟨y1,y2,y3⟩:=mxe c m
 generalize max c e=k at *
 generalize max c m=l at *
 rw [Int.max_eq_left (show b<=e by lia)] at u1 u2
 rw [Int.max_eq_left (show b<=a by lia)]
 lia
theorem lD8 {a b c e m n:Int} (hh:b=max c e+1) (w1 : -1<=c-e) (w2:c-e<=1) (q:a-b < -1) (u1:max a c<=m) (u2:m<=max a c+1) (u3:max m e<=n) (u4:n<=max m e+1) (u5:m-e<=1->n=max m e+1):max a b<=n/\n<=max a b+1:=by
 obtain ⟨x1,x2,x3⟩:=mxe c e
 obtain ⟨y1,y2,y3⟩:=mxe m e
 generalize max c e=k at *
 generalize max m e=l at *
 rw [Int.max_eq_right (show a<=c by lia)] at u1 u2
 rw [Int.max_eq_right (show a<=b by lia)]
 lia
theorem yu {h:AH} {p:Nat} {ps:List Pc} {a b:Nat} {ma mb fa la fb lb:Ms} {x y:Str} (S:ShelfAt h p ps) (g:Good ps) (A:Tx ps a ma x fa la) (B:Tx ps b mb y fb lb) (hc:8<la.sg+fb.sg) (v1 : -1<=mb.ht-ma.ht) (v2:mb.ht-ma.ht<=2) (hm:ma.sg+mb.sg<=1000000000000000000) (hz:ps.length+3<16000000) :
  ∃ (n:Nat) (ps':List Pc) (h':AH) (m:Ms),Dn (gB [.ref p,.int a,.int b]) p h h' ps ps' 3 n/\Tx ps' n m (x++y) fa lb/\max ma.ht mb.ht<=m.ht/\m.ht<=max ma.ht mb.ht+1/\(mb.ht-ma.ht<=1->m.ht=max ma.ht mb.ht+1):=by
 by_cases q:mb.ht-ma.ht<2
 ·obtain ⟨n,ps',h',d,T⟩:=gn S g A B hc (by (clear hz hm v2 v1 hc B A g S;lia)) (by lia) hm (by lia)
  exact ⟨n,ps',h',_,d.as S g (fun hh pp S' _ pr=>tB S' (bD pr A.ms) (bD pr B.ms) q) (by lia),T,tG v1 q (bQ ma mb)⟩
 ·obtain ⟨c,d,mc,md,y1,y2,lc,fd,e,C,D,rfl,em,w1,w2,w3⟩:=g.cut B (by have:=A.ky.ht;(clear hz hm v2 v1 hc B A g S;omega))
  have sg:=congrArg Ms.sg em
  have ht:=congrArg Ms.ht em
  rw [gp] at sg;rw [bQ] at ht;by_cases r:mc.ht<=md.ht
  ·obtain ⟨n1,ps1,h1,d1,T1⟩:=gn S g A C hc (by (clear sg w3 w2 w1 em B D C e q hz hm v1 hc A g S;lia)) (by lia) (by lia) (by lia)
   obtain ⟨n2,ps2,h2,d2,T2⟩:=gn d1.dd.sh d1.dd.gd T1 (D.pre d1.dd.pre) w3 (by rw [bQ];(clear T1 d1 r ht sg w3 w2 em B D C e q hz hm v2 v1 hc A g S;lia)) (by rw [bQ];(clear T1 d1 sg w3 w2 w1 em B D C e hz hm v2 v1 hc A g S;lia)) (by rw [gp];lia) (by have:=d1.dd.len;lia)
   rw [eE] at T2;refine ⟨n2,ps2,h2,_,Dn.seq S g d1 d2 (fun hh pp S' _ pr=>tD S' B.n1 (bD pr A.ms) (bD pr B.ms) (d7 pr e) (bD pr C.ms) (bD pr D.ms) q r) (by lia) (gG T1.ms T2.ms (LQ _ _)),T2,?_⟩
   rw [bQ,bQ];lia
  ·obtain ⟨i,j,mi,mj,z1,z2,li,fj,e2,I,J,rfl,em2,u1,u2,u3⟩:=g.cut C (by have:=D.ky.ht;lia)
   have sg2:=congrArg Ms.sg em2
   have ht2:=congrArg Ms.ht em2
   rw [gp] at sg2;rw [bQ] at ht2;obtain ⟨n1,ps1,h1,d1,T1⟩:=gn S g A I hc (by (clear sg2 u3 u2 em2 B C J I e2 sg w3 w1 em D q hz hm v1 hc A g S;lia)) (by (clear sg2 u3 u2 em2 B C J I e2 sg w3 w1 em D hz hm v2 v1 hc A g S;lia)) (by lia) (by lia)
   obtain ⟨n2,ps2,h2,d2,T2⟩:=gn d1.dd.sh d1.dd.gd (J.pre d1.dd.pre) (D.pre d1.dd.pre) w3 (by (clear T1 d1 sg2 u3 u1 em2 B C J I e2 ht sg w3 w2 w1 em D e q hz hm v2 v1 hc A g S;lia)) (by (clear T1 d1 sg2 u3 u2 u1 em2 B C J I e2 r ht sg w3 w1 em D e q hz hm v2 v1 hc A g S;lia)) (by lia) (by have:=d1.dd.len;lia)
   obtain ⟨n3,ps3,h3,d3,T3⟩:=gn d2.dd.sh d2.dd.gd (T1.pre d2.dd.pre) T2 u3 (by rw [bQ,bQ];(clear T2 d2 T1 d1 sg2 u3 u2 em2 B C J I sg w3 w1 em D q hz hm v1 hc A g S;lia)) (by rw [bQ,bQ];lia) (by rw [gp,gp];lia) (by have:=d1.dd.len;have:=d2.dd.len;lia)
   have d2':Dn (dF p (bu [.ref p,.int j,.int d])) p h1 h2 ps1 ps2 1 n2:=d2.as d1.dd.sh d1.dd.gd (fun hh pp S' _ _=>yt S' _) (Kj _)
   have d23:=Dn.seq (F:=fun h1=>(dF p (bu [.ref p,.int j,.int d]) h1).bind fun w h2=>bu [.ref p,.int n1,w] h2) (F2:=fun w h2=>bu [.ref p,.int n1,w] h2) d1.dd.sh d1.dd.gd d2' d3 (fun _ _ _ _ _=>rfl) (k:=2) (by lia) (gG T2.ms T3.ms (Mr _ _))
   have ea:(x++z1)++(z2++y2)=x++(z1++z2++y2):=by rw [eE,eE]
   rw [ea] at T3;refine ⟨n3,ps3,h3,_,Dn.seq (F2:=fun v h1=>(dF p (bu [.ref p,.int j,.int d]) h1).bind fun w h2=>bu [.ref p,v,w] h2) S g d1 d23 (fun hh pp S' _ pr=>tF S' B.n1 C.n1 (bD pr A.ms) (bD pr B.ms) (d7 pr e) (bD pr C.ms) (bD pr D.ms) (d7 pr e2) q r) (by lia) (gG T1.ms T3.ms (LQ _ _)),T3,?_⟩
   rw [bQ,bQ,bQ];exact lA8 ht ht2 w1 w2 v2 q r
theorem tH {h:AH} {p:Nat} {ps:List Pc} {a b:Nat} {ma mb:Ms} (S:ShelfAt h p ps) (ea:(meas ps)[a]? = some ma) (eb:(meas ps)[b]? = some mb) (hd:ma.ht-mb.ht<2) :
  iH [.ref p,.int a,.int b] h=bu [.ref p,.int a,.int b] h:=by
 have f1:=dj S ea
 have f2:=dj S eb
 generalize hF:bu [.ref p,.int a,.int b] h=R
 simp [iH,S.ob,f1,f2,hd,hF]
 cases R<;>rfl
theorem tJ {h:AH} {p:Nat} {ps:List Pc} {a b c d:Nat} {ma mb mc md:Ms} (S:ShelfAt h p ps) (a1:1<=a) (ea:(meas ps)[a]? = some ma) (eb:(meas ps)[b]? = some mb) (e:ps[a-1]? = some (.fork c d)) (ec:(meas ps)[c]? = some mc) (ed:(meas ps)[d]? = some md) (hd : ¬ ma.ht-mb.ht<2) (hh:md.ht<=mc.ht) :
  iH [.ref p,.int a,.int b] h=(bu [.ref p,.int d,.int b] h).bind fun v h1=>bu [.ref p,.int c,v] h1:=by
 have f1:=dj S ea
 have f2:=dj S eb
 have f3:=gq S a1 e
 have f4:=dj S ec
 have f5:=dj S ed
 generalize hF:bu [.ref p,.int d,.int b] h=R
 simp [iH,S.ob,f1,f2,hd,f3,i1,i2,f4,f5,hh,hF,-aB]
 cases R with
 | ok v h1=>dsimp only;cases bu [.ref p,.int c,v] h1<;>rfl
 | ex c h1=>rfl
 | bad=>rfl
theorem tK {h:AH} {p:Nat} {ps:List Pc} {a b c d i j:Nat} {ma mb mc md:Ms} (S:ShelfAt h p ps) (a1:1<=a) (d1:1<=d) (ea:(meas ps)[a]? = some ma) (eb:(meas ps)[b]? = some mb) (e:ps[a-1]? = some (.fork c d)) (ec:(meas ps)[c]? = some mc) (ed:(meas ps)[d]? = some md) (e2:ps[d-1]? = some (.fork i j)) (hd : ¬ ma.ht-mb.ht<2) (hh : ¬ md.ht<=mc.ht) :
  iH [.ref p,.int a,.int b] h=(bu [.ref p,.int c,.int i] h).bind fun v h1=>(dF p (bu [.ref p,.int j,.int b]) h1).bind fun w h2=>bu [.ref p,v,w] h2:=by
 have f1:=dj S ea
 have f2:=dj S eb
 have f3:=gq S a1 e
 have f4:=dj S ec
 have f5:=dj S ed
 have f6:=gq S d1 e2
 generalize hF:bu [.ref p,.int c,.int i] h=R
 simp [iH,S.ob,f1,f2,hd,f3,i1,i2,f4,f5,hh,f6,hF,-aB]
 cases R with
 | ok v h1 =>
  unfold dF
  dsimp only
  cases hx:h1[p]? with
  | none=>rfl
  | some o =>
   cases o with
   | lst l=>rfl
   | dct q l=>rfl
   | ins c' l =>
    dsimp only;by_cases z:c'=0
    ·rw [Ku z]
     cases bu [.ref p,.int j,.int b] h1 with
     | ok w h2=>dsimp only;cases bu [.ref p,v,w] h2<;>rfl
     | ex c h2=>rfl
     | bad=>rfl
    ·rw [KF z]
 | ex c h1=>rfl
 | bad=>rfl
theorem Gw {h:AH} {p:Nat} {ps:List Pc} {a b:Nat} {ma mb fa la fb lb:Ms} {x y:Str} (S:ShelfAt h p ps) (g:Good ps) (A:Tx ps a ma x fa la) (B:Tx ps b mb y fb lb) (hc:8<la.sg+fb.sg) (v1 : -1<=ma.ht-mb.ht) (v2:ma.ht-mb.ht<=2) (hm:ma.sg+mb.sg<=1000000000000000000) (hz:ps.length+3<16000000) :
  ∃ (n:Nat) (ps':List Pc) (h':AH) (m:Ms),Dn (iH [.ref p,.int a,.int b]) p h h' ps ps' 3 n/\Tx ps' n m (x++y) fa lb/\max ma.ht mb.ht<=m.ht/\m.ht<=max ma.ht mb.ht+1/\(ma.ht-mb.ht<=1->m.ht=max ma.ht mb.ht+1):=by
 by_cases q:ma.ht-mb.ht<2
 ·obtain ⟨n,ps',h',d,T⟩:=gn S g A B hc (by omega) (by (clear hz hm v2 v1 hc B A g S;lia)) hm (by lia)
  refine ⟨n,ps',h',_,d.as S g (fun hh pp S' _ pr=>tH S' (bD pr A.ms) (bD pr B.ms) q) (by lia),T,?_⟩
  rw [bQ];lia
 ·obtain ⟨c,d,mc,md,y1,y2,lc,fd,e,C,D,rfl,em,w1,w2,w3⟩:=g.cut A (by have:=B.ky.ht;(clear hz hm v2 v1 hc B A g S;omega))
  have sg:=congrArg Ms.sg em
  have ht:=congrArg Ms.ht em
  rw [gp] at sg;rw [bQ] at ht;by_cases r:md.ht<=mc.ht
  ·obtain ⟨n1,ps1,h1,d1,T1⟩:=gn S g D B hc (by (clear r sg w3 w1 em A D C e hz hm v2 v1 hc B g S;lia)) (by (clear r sg w3 w1 em A D C e q hz hm v1 hc B g S;lia)) (by lia) (by lia)
   obtain ⟨n2,ps2,h2,d2,T2⟩:=gn d1.dd.sh d1.dd.gd (C.pre d1.dd.pre) T1 w3 (by rw [bQ];(clear T1 d1 sg w3 w2 w1 em A D C hz hm v2 v1 hc B g S;lia)) (by rw [bQ];lia) (by rw [gp];lia) (by have:=d1.dd.len;lia)
   rw [<- eE] at T2;refine ⟨n2,ps2,h2,_,Dn.seq (F2:=fun v h1=>bu [.ref p,.int c,v] h1) S g d1 d2 (fun hh pp S' _ pr=>tJ S' A.n1 (bD pr A.ms) (bD pr B.ms) (d7 pr e) (bD pr C.ms) (bD pr D.ms) q r) (by lia) (gG T1.ms T2.ms (Mr _ _)),T2,?_⟩
   rw [bQ,bQ];(clear T2 d2 T1 d1 r sg w3 w1 em A D C e hz hm v1 hc B g S;lia)
  ·obtain ⟨i,j,mi,mj,z1,z2,li,fj,e2,I,J,rfl,em2,u1,u2,u3⟩:=g.cut D (by have:=C.ky.ht;lia)
   have sg2:=congrArg Ms.sg em2
   have ht2:=congrArg Ms.ht em2
   rw [gp] at sg2;rw [bQ] at ht2;obtain ⟨n1,ps1,h1,d1,T1⟩:=gn S g C I w3 (by (clear sg2 u3 u2 em2 A D J I e2 r ht sg w3 w2 em C e q hz hm v2 v1 hc B g S;lia)) (by (clear sg2 u3 u2 em2 A D J I e2 ht sg w3 w2 w1 em C e q hz hm v2 v1 hc B g S;lia)) (by lia) (by lia)
   obtain ⟨n2,ps2,h2,d2,T2⟩:=gn d1.dd.sh d1.dd.gd (J.pre d1.dd.pre) (B.pre d1.dd.pre) hc (by lia) (by (clear T1 d1 sg2 u3 u2 u1 em2 A D J I e2 sg w3 w2 em C e q hz hm v1 hc B g S;lia)) (by lia) (by have:=d1.dd.len;lia)
   obtain ⟨n3,ps3,h3,d3,T3⟩:=gn d2.dd.sh d2.dd.gd (T1.pre d2.dd.pre) T2 u3 (by rw [bQ,bQ];lia) (by rw [bQ,bQ];(clear T2 d2 T1 d1 ht2 sg2 u3 u1 em2 A D J I e2 sg w3 w2 em C e q hz hm v1 hc B g S;lia)) (by rw [gp,gp];lia) (by have:=d1.dd.len;have:=d2.dd.len;lia)
   have d2':Dn (dF p (bu [.ref p,.int j,.int b])) p h1 h2 ps1 ps2 1 n2:=d2.as d1.dd.sh d1.dd.gd (fun hh pp S' _ _=>yt S' _) (Kj _)
   have d23:=Dn.seq (F:=fun h1=>(dF p (bu [.ref p,.int j,.int b]) h1).bind fun w h2=>bu [.ref p,.int n1,w] h2) (F2:=fun w h2=>bu [.ref p,.int n1,w] h2) d1.dd.sh d1.dd.gd d2' d3 (fun _ _ _ _ _=>rfl) (k:=2) (by lia) (gG T2.ms T3.ms (Mr _ _))
   have ea:(y1++z1)++(z2++y)=y1++(z1++z2)++y:=by rw [eE,eE,eE]
   rw [ea] at T3;refine ⟨n3,ps3,h3,_,Dn.seq (F2:=fun v h1=>(dF p (bu [.ref p,.int j,.int b]) h1).bind fun w h2=>bu [.ref p,v,w] h2) S g d1 d23 (fun hh pp S' _ pr=>tK S' A.n1 D.n1 (bD pr A.ms) (bD pr B.ms) (d7 pr e) (bD pr C.ms) (bD pr D.ms) (d7 pr e2) q r) (by lia) (gG T1.ms T3.ms (LQ _ _)),T3,?_⟩
   rw [bQ,bQ,bQ];exact lB8 ht ht2 w1 w2 v2 q r
end Sk
namespace Sk
open PySem PySem.Spec L2 Sm
theorem Dn.seq' {F F1 F2:AH->Out AV} {p:Nat} {h h1 h2:AH} {ps ps1 ps2:List Pc} {k1 k2 k n1 n2:Nat} (S:ShelfAt h p ps) (g:Good ps) (d1:Dn F1 p h h1 ps ps1 k1 n1) (d2:Dn F2 p h1 h2 ps1 ps2 k2 n2)
  (eq:∀ hh hh1 pp,ShelfAt hh p pp->Good pp->ps <+: pp->F1 hh = .ok (.int n1) hh1->F hh=F2 hh1) (hk:k1+k2<=k) (pt:∀ M,(∀ m,(meas ps2)[n2]? = some m->m.sg<=M)->∀ m,(meas ps1)[n1]? = some m->m.sg<=M):Dn F p h h2 ps ps2 k n2:=by
 refine ⟨?_,d1.dd.trans d2.dd hk,fun h3 ps3 S3 g3 p3=>?_,fun M f hn=>d2.al M (d1.al M f (pt M hn)) hn⟩
 ·rw [eq h h1 ps S g (Lf _) d1.ev];exact d2.ev
 ·rw [eq h3 h3 ps3 S3 g3 (d1.dd.pre.trans (d2.dd.pre.trans p3)) (d1.re h3 ps3 S3 g3 (d2.dd.pre.trans p3))]
  exact d2.re h3 ps3 S3 g3 p3
theorem tL {h:AH} {p:Nat} {ps:List Pc} {a b d:Nat} {ma mb:Ms} (S:ShelfAt h p ps) (ea:(meas ps)[a]? = some ma) (eb:(meas ps)[b]? = some mb) (h1:ma.ht-mb.ht<=1) (h2 : -1<=ma.ht-mb.ht) :
  fD (d+1) [.ref p,.int a,.int b] h=bu [.ref p,.int a,.int b] h:=by
 have f1:=dj S ea
 have f2:=dj S eb
 have c1 : ¬ 1<ma.ht-mb.ht:=by lia
 have c2 : ¬ ma.ht-mb.ht < -1:=by lia
 generalize hF:bu [.ref p,.int a,.int b] h=R
 simp [fD,pM,S.ob,f1,f2,c1,c2,hF]
 cases R<;>rfl
theorem tM {h h1:AH} {p:Nat} {ps:List Pc} {a b c e d:Nat} {v:Int} {ma mb:Ms} (S:ShelfAt h p ps) (a1:1<=a) (ea:(meas ps)[a]? = some ma) (eb:(meas ps)[b]? = some mb) (ep:ps[a-1]? = some (.fork c e)) (hd:1<ma.ht-mb.ht) (ev:fD d [.ref p,.int e,.int b] h = .ok (.int v) h1) :
  fD (d+1) [.ref p,.int a,.int b] h=gB [.ref p,.int c,.int v] h1:=by
 have f1:=dj S ea
 have f2:=dj S eb
 have f3:=gq S a1 ep
 generalize hF:gB [.ref p,.int c,.int v] h1=R
 simp [fD,pM,S.ob,f1,f2,hd,f3,i1,i2,ev,hF,-aB]
 cases R<;>rfl
theorem tN {h h1:AH} {p:Nat} {ps:List Pc} {a b c e d:Nat} {v:Int} {ma mb:Ms} (S:ShelfAt h p ps) (b1:1<=b) (ea:(meas ps)[a]? = some ma) (eb:(meas ps)[b]? = some mb) (ep:ps[b-1]? = some (.fork c e)) (hd:ma.ht-mb.ht < -1) (ev:fD d [.ref p,.int a,.int c] h = .ok (.int v) h1) :
  fD (d+1) [.ref p,.int a,.int b] h=iH [.ref p,.int v,.int e] h1:=by
 have f1:=dj S ea
 have f2:=dj S eb
 have f3:=gq S b1 ep
 have c1 : ¬ 1<ma.ht-mb.ht:=by lia
 generalize hF:iH [.ref p,.int v,.int e] h1=R
 simp [fD,pM,S.ob,f1,f2,c1,hd,f3,i1,i2,ev,hF,-aB]
 cases R<;>rfl
theorem p7 {p:Nat}:∀ (d t:Nat) {h:AH} {ps:List Pc} {a b:Nat} {ma mb fa la fb lb:Ms} {x y:Str} (S:ShelfAt h p ps) (g:Good ps) (A:Tx ps a ma x fa la) (B:Tx ps b mb y fb lb) (hc:8<la.sg+fb.sg) (hm:ma.sg+mb.sg<=1000000000000000000)
  (ht:(ma.ht-mb.ht).natAbs<=t) (hd:t<d) (hz:ps.length+3*t+4<16000000),
  ∃ (n:Nat) (ps':List Pc) (h':AH) (m:Ms),Dn (fD d [.ref p,.int a,.int b]) p h h' ps ps' (3*t+1) n/\Tx ps' n m (x++y) fa lb/\max ma.ht mb.ht<=m.ht/\m.ht<=max ma.ht mb.ht+1
 | 0,t,h,ps,a,b,ma,mb,fa,la,fb,lb,x,y,S,g,A,B,hc,hm,ht,hd,hz=>absurd hd (Lz t)
 | d+1,t,h,ps,a,b,ma,mb,fa,la,fb,lb,x,y,S,g,A,B,hc,hm,ht,hd,hz=>by
  by_cases q1:1<ma.ht-mb.ht
  ·obtain ⟨c,e,mc,me,y1,y2,lc,fe,ep,C,E,rfl,em,w1,w2,w3⟩:=g.cut A (by have:=B.ky.ht;lia)
   have sg:=congrArg Ms.sg em
   have hh:=congrArg Ms.ht em
   rw [gp] at sg;rw [bQ] at hh;obtain ⟨n1,ps1,h1,m1,d1,T1,u1,u2⟩:=p7 d (t-1) S g E B hc (by lia) (by lia) (by lia) (by lia)
   have s1:m1.sg=me.sg+mb.sg:=by rw [T1.ky.sg,cx,<- E.ky.sg,<- B.ky.sg]
   obtain ⟨n2,ps2,h2,m2,d2,T2,u3,u4,u5⟩:=yu d1.dd.sh d1.dd.gd (C.pre d1.dd.pre) T1 w3 (by lia) (by (clear s1 u1 T1 sg w3 w2 em A E C hz hd hm hc B g S;lia)) (by lia) (by have:=d1.dd.len;lia)
   rw [<- eE] at T2;exact ⟨n2,ps2,h2,m2,Dn.seq' S g d1 d2 (fun hh hh1 pp S' _ pr ev=>tM S' A.n1 (bD pr A.ms) (bD pr B.ms) (d7 pr ep) q1 ev) (by lia) (gG T1.ms T2.ms (by rw [T1.ky.sg,T2.ky.sg];simp only [cx];lia)),T2,lC8 hh w1 w2 q1 u1 u2 u3 u4 u5⟩
  ·by_cases q2:ma.ht-mb.ht < -1
   ·obtain ⟨c,e,mc,me,y1,y2,lc,fe,ep,C,E,rfl,em,w1,w2,w3⟩:=g.cut B (by have:=A.ky.ht;lia)
    have sg:=congrArg Ms.sg em
    have hh:=congrArg Ms.ht em
    rw [gp] at sg;rw [bQ] at hh;obtain ⟨n1,ps1,h1,m1,d1,T1,u1,u2⟩:=p7 d (t-1) S g A C hc (by lia) (by lia) (by lia) (by lia)
    have s1:m1.sg=ma.sg+mc.sg:=by rw [T1.ky.sg,cx,<- A.ky.sg,<- C.ky.sg]
    obtain ⟨n2,ps2,h2,m2,d2,T2,u3,u4,u5⟩:=Gw d1.dd.sh d1.dd.gd T1 (E.pre d1.dd.pre) w3 (by lia) (by (clear s1 u1 T1 sg w3 w1 em B E C q1 hz hd hm hc A g S;lia)) (by lia) (by have:=d1.dd.len;lia)
    rw [eE] at T2;exact ⟨n2,ps2,h2,m2,Dn.seq' S g d1 d2 (fun hh hh1 pp S' _ pr ev=>tN S' B.n1 (bD pr A.ms) (bD pr B.ms) (d7 pr ep) q2 ev) (by lia) (gG T1.ms T2.ms (by rw [T1.ky.sg,T2.ky.sg];simp only [cx];lia)),T2,lD8 hh w1 w2 q2 u1 u2 u3 u4 u5⟩
   ·obtain ⟨n,ps',h',dn,T⟩:=gn S g A B hc (by lia) (by lia) hm (by lia)
    exact ⟨n,ps',h',_,dn.as S g (fun hh pp S' _ pr=>tL S' (bD pr A.ms) (bD pr B.ms) (by lia) (by lia)) (by lia),T,by rw [bQ];lia,by rw [bQ];lia⟩
theorem jL {h:AH} {p:Nat} {ps:List Pc} {n:Nat} {x:Str} (S:ShelfAt h p ps) (n1:1<=n) (e:ps[n-1]? = some (.leaf x)):dZ [.ref p,.int n] h = .ok (.tup [.str "leaf",.str x]) h:=yp S n1 e
theorem nX (x:Str) (h:AH):aB (.tup [.str "leaf",.str x]) (.int 0) h = .ok (.str "leaf") h:=rfl
theorem mr (a b:Int) (h:AH):aB (.tup [.str "fork",.int a,.int b]) (.int 0) h = .ok (.str "fork") h:=rfl
theorem nY (x:Str) (h:AH):aB (.tup [.str "leaf",.str x]) (.int 1) h = .ok (.str x) h:=rfl
theorem p9 (h:AH):aH (.str "leaf") (.str "leaf") h = .ok (.bl true) h:=by simp
theorem qa (h:AH):aH (.str "fork") (.str "leaf") h = .ok (.bl false) h:=by
 have : ¬ (Str.ofString "fork" = Str.ofString "leaf"):=by decide +kernel
 simp [this]
theorem tP {h:AH} {p:Nat} {ps:List Pc} {a d:Nat} {L:Int} {x:Str} (S:ShelfAt h p ps) (a1:1<=a) (ep:ps[a-1]? = some (.leaf x)):ip (d+1) [.ref p,.int a,.int L] h = .ok (.int L) h:=by
 simp [ip,sS,S.ob,jL S a1 ep,nX,p9,-aB,-aH]
theorem tQ {h h1:AH} {p:Nat} {ps:List Pc} {a d c e:Nat} {L v:Int} (S:ShelfAt h p ps) (a1:1<=a) (ep:ps[a-1]? = some (.fork c e)) (ev:ip d [.ref p,.int e,.int L] h = .ok (.int v) h1) :
  ip (d+1) [.ref p,.int a,.int L] h=bu [.ref p,.int c,.int v] h1:=by
 generalize hF:bu [.ref p,.int c,.int v] h1=R
 simp [ip,sS,S.ob,gq S a1 ep,mr,i1,i2,qa,ev,hF,-aB,-aH]
 cases R<;>rfl
theorem qb {ps:List Pc} {n:Nat} {m:Ms} {x:Str} {f l:Ms} (T:Tx ps n m x f l) (e:m=bY x n):f=m/\l=m:=by
 have h1:=T.ky.fl
 have h2:=T.ky.ll
 have h3:=T.ms
 rw [e] at h1 h2;exact ⟨K4 (h1.symm.trans h3),K4 (h2.symm.trans h3)⟩
theorem yv {p:Nat}:∀ (d:Nat) {h:AH} {ps:List Pc} {a L:Nat} {m f l:Ms} {x w:Str} (S:ShelfAt h p ps) (g:Good ps) (T:Tx ps a m x f l) (N:Tx ps L (bY w L) w (bY w L) (bY w L)) (hw:l.sg<=w.length) (hm:m.sg+w.length<=1000000000000000000+l.sg) (hd:m.ht.toNat<d) (hz:ps.length+m.ht.toNat<16000000),
  ∃ (n:Nat) (ps':List Pc) (h':AH) (m' f':Ms) (u v:Str),Dn (ip d [.ref p,.int a,.int L]) p h h' ps ps' m.ht.toNat n/\x=u++v/\v.length=l.sg/\Tx ps' n m' (u++w) f' (bY w L)/\m'.ht=m.ht/\f.sg<=f'.sg
 | 0,h,ps,a,L,m,f,l,x,w,S,g,T,N,hw,hm,hd,hz=>absurd hd (Lz _)
 | d+1,h,ps,a,L,m,f,l,x,w,S,g,T,N,hw,hm,hd,hz=>by
  by_cases q:0<m.ht
  ·obtain ⟨c,e,mc,me,y1,y2,lc,fe,ep,C,E,rfl,em,w1,w2,w3⟩:=g.cut T q
   have sg:=congrArg Ms.sg em
   have hh:=congrArg Ms.ht em
   rw [gp] at sg;rw [bQ] at hh;have c0:=C.ky.ht
   have e0:=E.ky.ht
   obtain ⟨n1,ps1,h1,m1,f1,u,v,d1,rfl,lv,T1,k1,k2⟩:=yv d S g E N hw (by lia) (by (clear e0 c0 sg w3 w2 w1 em T E C ep hz hm hw N g S;lia)) (by (clear e0 c0 sg w3 w2 w1 em T E C ep hd hm hw N g S;lia))
   have s1:m1.sg+l.sg=me.sg+w.length:=by rw [T1.ky.sg,E.ky.sg,cx,cx];lia
   obtain ⟨n2,ps2,h2,d2,T2⟩:=gn d1.dd.sh d1.dd.gd (C.pre d1.dd.pre) T1 (by lia) (by lia) (by lia) (by lia) (by have:=d1.dd.len;lia)
   rw [<- eE] at T2;exact ⟨n2,ps2,h2,_,f,y1++u,v,Dn.seq' S g d1 d2 (fun hh hh1 pp S' _ pr ev=>tQ S' T.n1 (d7 pr ep) ev) (by lia) (gG T1.ms T2.ms (Mr _ _)),by rw [eE],lv,T2,by rw [bQ,k1,hh],Kj _⟩
  ·rcases g.kind T with ⟨e1,e2,e3,e4,e5⟩ | ⟨c,e,mc,me,y1,y2,fc,lc,fe,le,e1,e2,e3,C,E,e4,e5,e6⟩
   ·obtain ⟨z1,z2⟩:=qb T e3
    subst z1 z2
    have em:("" : Str)++x=x:=cW (by rw [dH];rfl)
    have em2:("" : Str)++w=w:=cW (by rw [dH];rfl)
    have dv:Dn (ip (d+1) [.ref p,.int a,.int L]) p h h ps ps 0 L:=Dn.val S g fun hh pp S' _ pr=>tP S' T.n1 (d7 pr e1)
    refine ⟨L,ps,h,_,_, "",x,dv.as S g (fun _ _ _ _ _=>rfl) (KS _),em.symm,T.ky.sg.symm,by rw [em2];exact N,e2.symm,hw⟩
   ·have:=congrArg Ms.ht e5
    rw [bQ] at this;have c0:=C.ky.ht
    (clear e6 e5 e4 E C e3 e2 e1 hz hd hm hw N T g S;omega)
theorem tR {h:AH} {p:Nat} {ps:List Pc} {a d:Nat} {x:Str} (S:ShelfAt h p ps) (a1:1<=a) (ep:ps[a-1]? = some (.leaf x)):fO (d+1) [.ref p,.int a] h = .ok (.int (0:Nat)) h:=by
 simp [fO,pL,S.ob,jL S a1 ep,nX,p9,-aB,-aH]
theorem nZ {h h1:AH} {p:Nat} {ps:List Pc} {a d c e:Nat} (S:ShelfAt h p ps) (a1:1<=a) (ep:ps[a-1]? = some (.fork c e)) (ev:fO d [.ref p,.int c] h = .ok (.int (0:Nat)) h1) :
  fO (d+1) [.ref p,.int a] h = .ok (.int e) h1:=by
 have z:aH (.int 0) (.int 0) h1 = .ok (.bl true) h1:=by simp
 simp [fO,pL,S.ob,gq S a1 ep,mr,i1,i2,qa,ev,z,-aB,-aH]
theorem tU {h h1:AH} {p:Nat} {ps:List Pc} {a d c e v:Nat} (S:ShelfAt h p ps) (a1:1<=a) (ep:ps[a-1]? = some (.fork c e)) (v1:1<=v) (ev:fO d [.ref p,.int c] h = .ok (.int v) h1) :
  fO (d+1) [.ref p,.int a] h=gB [.ref p,.int v,.int e] h1:=by
 have z:aH (.int (v:Int)) (.int 0) h1 = .ok (.bl false) h1:=by
  have : ¬ (v=0):=by lia
  simp [this]
 generalize hF:gB [.ref p,.int v,.int e] h1=R
 simp [fO,pL,S.ob,gq S a1 ep,mr,i1,i2,qa,ev,z,hF,-aB,-aH]
 cases R<;>rfl
end Sk
namespace Sk
open PySem PySem.Spec L2 Sm
theorem yw {p:Nat}:∀ (d:Nat) {h:AH} {ps:List Pc} {a:Nat} {m f l:Ms} {x:Str} (S:ShelfAt h p ps) (g:Good ps) (T:Tx ps a m x f l) (hd:m.ht.toNat<d) (hz:ps.length+3*m.ht.toNat<16000000),
  (m.ht=0/\f.sg=x.length/\Dn (fO d [.ref p,.int a]) p h h ps ps 0 0) \/
  (0<m.ht/\∃ (n:Nat) (ps':List Pc) (h':AH) (m' f2:Ms) (u v:Str),Dn (fO d [.ref p,.int a]) p h h' ps ps' (3*m.ht.toNat) n/\x=u++v/\u.length=f.sg/\Tx ps' n m' v f2 l/\m.ht-1<=m'.ht/\m'.ht<=m.ht/\8<f.sg+f2.sg)
 | 0,h,ps,a,m,f,l,x,S,g,T,hd,hz=>absurd hd (Lz _)
 | d+1,h,ps,a,m,f,l,x,S,g,T,hd,hz=>by
  by_cases q:0<m.ht
  ·obtain ⟨c,e,mc,me,y1,y2,lc,fe,ep,C,E,rfl,em,w1,w2,w3⟩:=g.cut T q
   have sg:=congrArg Ms.sg em
   have hh:=congrArg Ms.ht em
   rw [gp] at sg;rw [bQ] at hh;have c0:=C.ky.ht
   have e0:=E.ky.ht
   have most:=T.ky.most
   refine .inr ⟨q,?_⟩
   rcases yw d S g C (by (clear most e0 c0 sg w3 w2 w1 em T E C ep hz g S;lia)) (by (clear most e0 c0 sg w3 w2 w1 em T E C ep hd g S;lia)) with ⟨k1,k2,d1⟩ | ⟨k1,n1,ps1,h1,m1,f2,u,v,d1,rfl,lu,T1,r1,r2,r3⟩
   ·rcases g.kind C with ⟨e1,e2,e3,e4,e5⟩ | ⟨_,_,mx,my,_,_,_,_,_,_,_,_,_,X,Y,_,e5,_⟩
    ·obtain ⟨z1,z2⟩:=qb C e3
     have dv:Dn (fO (d+1) [.ref p,.int a]) p h h ps ps 0 e:=by
      refine ⟨nZ S T.n1 ep d1.ev,Dd.refl S g,fun h3 ps3 S3 g3 p3=>nZ S3 T.n1 (d7 p3 ep) (d1.re h3 ps3 S3 g3 p3),fun _ f _=>f⟩
     exact ⟨e,ps,h,me,fe,y1,y2,dv.as S g (fun _ _ _ _ _=>rfl) (KS _),rfl,k2.symm,E,by (clear dv z2 z1 e5 e4 e3 e2 e1 d1 k2 most c0 sg w3 w1 em T E C ep hz hd g S;lia),by lia,by rw [z1];rw [z2] at w3;exact w3⟩
    ·have:=congrArg Ms.ht e5
     rw [bQ] at this;have:=X.ky.ht
     (clear e5 Y X d1 k2 most e0 c0 hh sg w3 w2 w1 em T E C ep q hz hd g S;omega)
   ·have s1:m1.sg+f.sg=mc.sg:=by rw [T1.ky.sg,C.ky.sg,cx];lia
    obtain ⟨n2,ps2,h2,m2,d2,T2,u3,u4,u5⟩:=yu d1.dd.sh d1.dd.gd T1 (E.pre d1.dd.pre) w3 (by lia) (by lia) (by lia) (by have:=d1.dd.len;(clear s1 r3 r2 r1 T1 lu T C d1 most e0 c0 sg w3 w2 em E ep hd g S;lia))
    refine ⟨n2,ps2,h2,m2,f2,u,v++y2,Dn.seq' S g d1 d2 (fun hh hh1 pp S' _ pr ev=>tU S' T.n1 (d7 pr ep) T1.n1 ev) (by (clear u5 u4 u3 T2 d2 s1 r3 r2 r1 T1 lu T C d1 most e0 c0 sg w3 w2 em E ep hz g S;lia)) (gG T1.ms T2.ms (by rw [T1.ky.sg,T2.ky.sg];simp only [cx];lia)),by rw [eE],lu,T2,?_,?_,r3⟩
    ·(clear u4 T2 d2 s1 r3 r2 T1 lu T C d1 k1 most e0 c0 sg w3 w1 em E q hz hd g S;lia)
    ·(clear u3 T2 d2 s1 r3 r1 T1 lu T C d1 k1 most e0 c0 sg w3 em E q hz g S;lia)
  ·rcases g.kind T with ⟨e1,e2,e3,e4,e5⟩ | ⟨_,_,mx,my,_,_,_,_,_,_,_,_,_,X,Y,_,e5,_⟩
   ·obtain ⟨z1,z2⟩:=qb T e3
    exact .inl ⟨e2,by rw [z1];exact T.ky.sg,Dn.val S g fun hh pp S' _ pr=>tR S' T.n1 (d7 pr e1)⟩
   ·have:=congrArg Ms.ht e5
    rw [bQ] at this;have:=X.ky.ht
    lia
theorem Good.ends {ps:List Pc} (g:Good ps):∀ (k n:Nat) {m f l:Ms} {x:Str},n<=k->Tx ps n m x f l ->
  (∃ w u:Str,1<=m.fl/\ps[m.fl-1]? = some (.leaf w)/\x=w++u/\w.length=f.sg)/\(∃ w u:Str,1<=m.ll/\ps[m.ll-1]? = some (.leaf w)/\x=u++w/\w.length=l.sg)
 | 0,n,m,f,l,x,hn,T=>absurd T.n1 (by lia)
 | k+1,n,m,f,l,x,hn,T=>by
  rcases g.kind T with ⟨e1,e2,e3,e4,e5⟩ | ⟨a,b,ma,mb,y,z,fa,la,fb,lb,e1,e2,e3,A,B,rfl,e5,e6⟩
  ·obtain ⟨z1,z2⟩:=qb T e3
   have em:("" : Str)++x=x:=cW (by rw [dH];rfl)
   have em2:x++("" : Str)=x:=cW (by rw [dH];simp;rfl)
   have hf:m.fl=n:=by rw [e3];rfl
   have hl:m.ll=n:=by rw [e3];rfl
   have hx:=T.ky.sg
   refine ⟨⟨x, "",by rw [hf];exact T.n1,by rw [hf];exact e1,em2.symm,by rw [z1];exact hx.symm⟩,⟨x, "",by rw [hl];exact T.n1,by rw [hl];exact e1,em.symm,by rw [z2];exact hx.symm⟩⟩
  ·have q1:=g.ends k a (by lia) A
   have q2:=g.ends k b (by lia) B
   obtain ⟨⟨w,u,a1,a2,rfl,a4⟩,_⟩:=q1
   obtain ⟨_,⟨w2,u2,b1,b2,rfl,b4⟩⟩:=q2
   have f1:=T.ky.fl
   have l1:=T.ky.ll
   have hf:m.fl=ma.fl:=by rw [e5];rfl
   have hl:m.ll=mb.ll:=by rw [e5];rfl
   rw [hf] at f1;rw [hl] at l1;have z5:=f1.symm.trans A.ky.fl;cases z5
   have z6:=l1.symm.trans B.ky.ll;cases z6
   rw [hf,hl];exact ⟨⟨w,u++(u2++w2),a1,a2,by rw [eE],a4⟩,⟨w2,w++u++u2,b1,b2,by rw [eE (w++u)],b4⟩⟩
theorem yx {a b c d:Str} (e:a++b=c++d) (h:a.length=c.length):a=c/\b=d:=by
 have:=congrArg (fun z:Str=>z.cps.toList) e
 simp only [dH] at this
 obtain ⟨h1,h2⟩:=List.append_inj this (by rw [<- bK,<- bK];exact h)
 exact ⟨cW h1,cW h2⟩
theorem Gy {a b c d:Str} (e:a++b=c++d) (h:b.length=d.length):a=c/\b=d:=by
 refine yx e ?_
 have:=congrArg Str.length e
 rw [cx,cx] at this;lia
theorem Gz {h:AH} {p:Nat} {ps:List Pc} {a b:Nat} {ma mb la fb:Ms} (S:ShelfAt h p ps) (ea:(meas ps)[a]? = some ma) (eb:(meas ps)[b]? = some mb) (el:(meas ps)[ma.ll]? = some la) (ef:(meas ps)[mb.fl]? = some fb) :
  pK [.ref p,.int a,.int b] h = .ok (.bl (decide (8<la.sg+fb.sg))) h:=by
 have e1:=yn S ea
 have e2:=ym S eb
 have e3:=j8 S el
 have e4:=j8 S ef
 have:decide ((8:Int)<(la.sg:Int)+fb.sg)=decide (8<la.sg+fb.sg):=by apply decide_eq_decide.mpr;omega
 simp [pK,S.ob,e1,e2,e3,e4,this]
theorem GA {w v:Str} (hw:w.length+v.length<=100) (h:AH):ar (.str w) (.str v) h = .ok (.str (w++v)) h:=by
 have:w.length+v.length<=sizeLine:=Kn hw (by decide)
 simp [ar,this]
theorem jM {h h1 h2 h3:AH} {p:Nat} {ps:List Pc} {a b:Nat} {L n k:Int} {ma mb:Ms} {w v:Str} (S:ShelfAt h p ps) (ea:(meas ps)[a]? = some ma) (eb:(meas ps)[b]? = some mb) (l1:1<=ma.ll) (f1:1<=mb.fl) (el:ps[ma.ll-1]? = some (.leaf w)) (ef:ps[mb.fl-1]? = some (.leaf v)) (hw:w.length+v.length<=100)
  (e1:gA [.ref p,.str (w++v)] h = .ok (.int L) h1) (e2:ip 90 [.ref p,.int a,.int L] h1 = .ok (.int n) h2) (e3:fO 90 [.ref p,.int b] h2 = .ok (.int k) h3) :
  kR [.ref p,.int a,.int b] h=if k=0 then .ok (.int n) h3 else fD 90 [.ref p,.int n,.int k] h3:=by
 have q1:=yn S ea
 have q2:=ym S eb
 have q3:=jL S l1 el
 have q4:=jL S f1 ef
 have ad:=GA hw h
 unfold kR
 generalize ip 90=WL at *;generalize fO 90=WF at *;generalize hF:fD 90=LK at *;by_cases z:k=0
 ·subst z
  have zz:aH (.int 0) (.int 0) h3 = .ok (.bl true) h3:=by simp
  simp [S.ob,q1,q2,q3,q4,nY,ad,e1,e2,e3,zz,-aB,-aH,-ar]
 ·have zz:aH (.int k) (.int 0) h3 = .ok (.bl false) h3:=by simp [z]
  rw [KF z];generalize hR:LK [.ref p,.int n,.int k] h3=R
  simp [S.ob,q1,q2,q3,q4,nY,ad,e1,e2,e3,zz,hR,-aB,-aH,-ar]
  cases R<;>rfl
end Sk
namespace Sk
open PySem PySem.Spec L2 Sm
theorem GB {w v:Str} (h1:1<=w.length) (h2:w.length+v.length<=8) (pw:br w=true) (pv:br v=true):dS (w++v)=true:=by
 unfold dS
 rw [j7,cx,pw,pv];simp;lia
theorem GC {h:AH} {p:Nat} {ps:List Pc} {a b:Nat} {ma mb fa la fb lb:Ms} {x y:Str} (S:ShelfAt h p ps) (g:Good ps) (A:Tx ps a ma x fa la) (B:Tx ps b mb y fb lb) (hc : ¬ 8<la.sg+fb.sg) (hm:ma.sg+mb.sg<=1000000000000000000) (hz:ps.length<15000000) :
  ∃ (n:Nat) (ps':List Pc) (h':AH) (m f l:Ms),Dn (kR [.ref p,.int a,.int b]) p h h' ps ps' (7*(max ma.ht mb.ht).toNat+2) n/\Tx ps' n m (x++y) f l/\m.ht<=max ma.ht mb.ht+1:=by
 obtain ⟨_,w,u,l1,el,ex,lw⟩:=g.ends a a (Kj _) A
 obtain ⟨⟨v,t,f1,ef,ey,lv⟩,_⟩:=g.ends b b (Kj _) B
 have a0:=A.ky.ht
 have b0:=B.ky.ht
 have ha:=hE g A
 have hb:=hE g B
 have px:br x=true:=A.ky.pl
 have py:br y=true:=B.ky.pl
 have pw:br w=true:=by rw [ex,j7,Lr] at px;exact px.2
 have pv:br v=true:=by rw [ey,j7,Lr] at py;exact py.1
 have la1:=A.ky.l1
 have fb1:=B.ky.f1
 have sx:=A.ky.sg
 have sy:=B.ky.sg
 have lx:x.length=u.length+w.length:=by rw [ex,cx]
 have ly:y.length=v.length+t.length:=by rw [ey,cx]
 have lwv:(w++v).length=w.length+v.length:=cx w v
 obtain ⟨L,ps1,h1,d1,N⟩:=yr S g (GB (w:=w) (v:=v) (by lia) (by lia) pw pv) (by lia)
 have z1:=d1.dd.len
 obtain ⟨n2,ps2,h2,m2,f2,u2,v2,d2,ex2,lv2,T2,k1,k2⟩:=yv 90 d1.dd.sh d1.dd.gd (A.pre d1.dd.pre) N (by lia) (by lia) (by lia) (by lia)
 have z2:=d2.dd.len
 obtain ⟨rfl,rfl⟩:u=u2/\w=v2:=Gy (ex.symm.trans ex2) (by lia)
 have s2:m2.sg=u.length+(w.length+v.length):=by rw [T2.ky.sg,cx,cx]
 have p12:=d1.dd.pre.trans d2.dd.pre
 have lm:(bY (w++v) L).sg=w.length+v.length:=cx w v
 have tb:∀ q:Int,0<=q->q<=max ma.ht mb.ht->q.toNat<=(max ma.ht mb.ht).toNat:=fun q _ _=>by lia
 rcases yw 90 d2.dd.sh d2.dd.gd (B.pre p12) (by lia) (by lia) with ⟨r1,r2,d3⟩ | ⟨r1,n3,ps3,h3,m3,f3,u3,v3,d3,ey3,lu3,T3,r2,r3,r4⟩
 ·have t0:t.length=0:=by lia
  have te:t = "" := cW (by rw [bK] at t0;rw [LG.mp t0];rfl)
  have rd:u++(w++v)=x++y:=by
   rw [ex,ey,te,eE];congr 2
  rw [rd] at T2;refine ⟨n2,ps2,h2,m2,f2,_,⟨?_,d1.dd.trans d2.dd (by lia),fun h4 ps4 S4 g4 p4=>?_,fun M f hn=>d2.al M (d1.al M f (gG N.ms T2.ms (by rw [s2,lm];lia) M hn)) hn⟩,T2,by lia⟩
  ·rw [jM S A.ms B.ms l1 f1 el ef (by lia) d1.ev d2.ev d3.ev];rfl
  ·have q1:=d1.re h4 ps4 S4 g4 (d2.dd.pre.trans p4)
   have q2:=d2.re h4 ps4 S4 g4 p4
   have q3:=d3.re h4 ps4 S4 g4 p4
   rw [jM S4 (bD (p12.trans p4) A.ms) (bD (p12.trans p4) B.ms) l1 f1 (d7 (p12.trans p4) el) (d7 (p12.trans p4) ef) (by lia) q1 q2 q3];rfl
 ·obtain ⟨rfl,rfl⟩:v=u3/\t=v3:=yx (ey.symm.trans ey3) (by lia)
  have z3:=d3.dd.len
  have s3:m3.sg=t.length:=T3.ky.sg
  have m30:=T3.ky.ht
  obtain ⟨n4,ps4,h4,m4,d4,T4,r5,r6⟩:=p7 90 (max ma.ht mb.ht).toNat d3.dd.sh d3.dd.gd (T2.pre d3.dd.pre) T3 (by lia) (by lia) (by (clear m30 s3 ey3 T3 lu3 d3 lm p12 s2 ex2 lv2 T2 z2 k2 d2 z1 N d1 lwv ly lx sy sx fb1 la1 pv pw py px hb ha lv ey ef f1 lw ex el l1 hz hm hc B A g S;lia)) (by lia) (by lia)
  have rd:(u++(w++v))++t=x++y:=by rw [ex,ey,eE,eE,eE]
  rw [rd] at T4;have n3z : ¬ (n3:Int)=0:=by have:=T3.n1;lia
  have p123:=p12.trans d3.dd.pre
  refine ⟨n4,ps4,h4,m4,f2,lb,⟨?_,((d1.dd.trans d2.dd (Kj _)).trans d3.dd (Kj _)).trans d4.dd (by lia),fun h5 ps5 S5 g5 p5=>?_,fun M f hn=>d4.al M (d3.al M (d2.al M (d1.al M f (gG N.ms T4.ms (by rw [lm,T4.ky.sg,cx];lia) M hn)) (gG T2.ms T4.ms (by rw [s2,T4.ky.sg,cx];lia) M hn)) (gG T3.ms T4.ms (by rw [s3,T4.ky.sg,cx];lia) M hn)) hn⟩,T4,by lia⟩
  ·rw [jM S A.ms B.ms l1 f1 el ef (by lia) d1.ev d2.ev d3.ev,KF n3z];exact d4.ev
  ·have p45:=d4.dd.pre.trans p5
   have q1:=d1.re h5 ps5 S5 g5 (d2.dd.pre.trans (d3.dd.pre.trans p45))
   have q2:=d2.re h5 ps5 S5 g5 (d3.dd.pre.trans p45)
   have q3:=d3.re h5 ps5 S5 g5 p45
   have q4:=d4.re h5 ps5 S5 g5 p5
   have pa:=p123.trans p45
   rw [jM S5 (bD pa A.ms) (bD pa B.ms) l1 f1 (d7 pa el) (d7 pa ef) (by lia) q1 q2 q3,KF n3z];exact q4
def TxZ (ps:List Pc) (n:Nat) (y:Str):Prop:=(n=0/\y = "")\/∃ m f l,Tx ps n m y f l
theorem TxZ.pre {ps ps':List Pc} {n:Nat} {y:Str} (t:TxZ ps n y) (h:ps <+: ps'):TxZ ps' n y:=by
 rcases t with t | ⟨m,f,l,t⟩
 ·exact .inl t
 ·exact .inr ⟨m,f,l,t.pre h⟩
theorem n5 (ps:List Pc):(meas ps)[0]? = some ms0:=by
 obtain ⟨r,e,_⟩:=nS iJ ps [ms0]
 rw [meas,e];rfl
def fF (ps:List Pc) (n:Nat):Int:=((meas ps).getD n ms0).ht
theorem qc {ps:List Pc} {n:Nat} {m:Ms} (e:(meas ps)[n]? = some m):fF ps n=m.ht:=by unfold fF;rw [k9 e]
theorem GD (ps:List Pc):fF ps 0 = -1:=qc (n5 ps)
theorem tV {i:Int} (hi:i<=1000000000000000000) (h:AH):pJ [.int i] h = .ok .non h:=by
 have : ¬ (1000000000000000000:Int)<i:=by lia
 simp [pJ,this]
theorem tW {h:AH} {p:Nat} {ps:List Pc} {b:Nat} {mb:Ms} (S:ShelfAt h p ps) (eb:(meas ps)[b]? = some mb) (hm:mb.sg<=1000000000000000000):iq [.ref p,.int (0:Nat),.int b] h = .ok (.int b) h:=by
 have e1:=j8 S (n5 ps)
 have e2:=j8 S eb
 have z:ms0.sg=0:=rfl
 rw [z] at e1;have e1':jB [.ref p,.int 0] h = .ok (.int 0) h:=e1
 have ck:=tV (i:=(0:Int)+mb.sg) (by lia) h
 have zz:aH (.int 0) (.int 0) h = .ok (.bl true) h:=by simp
 have ad:ar (.int 0) (.int mb.sg) h = .ok (.int (0+mb.sg)) h:=rfl
 simp [iq,S.ob,e1',e2,ad,ck,zz,-aH,-ar,-Int.zero_add]
theorem tX {h:AH} {p:Nat} {ps:List Pc} {a:Nat} {ma:Ms} (S:ShelfAt h p ps) (a1:1<=a) (ea:(meas ps)[a]? = some ma) (hm:ma.sg<=1000000000000000000):iq [.ref p,.int a,.int (0:Nat)] h = .ok (.int a) h:=by
 have e1:=j8 S (n5 ps)
 have e2:=j8 S ea
 have z:ms0.sg=0:=rfl
 rw [z] at e1;have e1':jB [.ref p,.int 0] h = .ok (.int 0) h:=e1
 have ck:=tV (i:=(ma.sg:Int)+0) (by lia) h
 have zz:aH (.int 0) (.int 0) h = .ok (.bl true) h:=by simp
 have z2:aH (.int a) (.int 0) h = .ok (.bl false) h:=by
  have : ¬ a=0:=by lia
  simp [this]
 have ad:ar (.int ma.sg) (.int 0) h = .ok (.int (ma.sg+0)) h:=rfl
 simp [iq,S.ob,e1',e2,ad,ck,zz,z2,-aH,-ar,-Int.add_zero]
theorem n8 {h:AH} {p:Nat} {ps:List Pc} {a b:Nat} {ma mb la fb:Ms} (S:ShelfAt h p ps) (a1:1<=a) (b1:1<=b) (ea:(meas ps)[a]? = some ma) (eb:(meas ps)[b]? = some mb) (el:(meas ps)[ma.ll]? = some la) (ef:(meas ps)[mb.fl]? = some fb) (hm:ma.sg+mb.sg<=1000000000000000000) :
  iq [.ref p,.int a,.int b] h=if 8<la.sg+fb.sg then fD 90 [.ref p,.int a,.int b] h else kR [.ref p,.int a,.int b] h:=by
 have e1:=j8 S ea
 have e2:=j8 S eb
 have cl:=Gz S ea eb el ef
 have ck:=tV (i:=(ma.sg:Int)+mb.sg) (by lia) h
 have z1:aH (.int a) (.int 0) h = .ok (.bl false) h:=by
  have : ¬ a=0:=by lia
  simp [this]
 have z2:aH (.int b) (.int 0) h = .ok (.bl false) h:=by
  have : ¬ b=0:=by lia
  simp [this]
 have ad:ar (.int ma.sg) (.int mb.sg) h = .ok (.int (ma.sg+mb.sg)) h:=rfl
 unfold iq
 generalize fD 90=LK at *;by_cases q:8<la.sg+fb.sg
 ·rw [Ku q]
  generalize hR:LK [.ref p,.int a,.int b] h=R
  simp [S.ob,e1,e2,ad,ck,z1,z2,cl,q,hR,-aH,-ar]
  cases R<;>rfl
 ·rw [KF q]
  generalize hR:kR [.ref p,.int a,.int b] h=R
  simp [S.ob,e1,e2,ad,ck,z1,z2,cl,q,hR,-aH,-ar]
  cases R<;>rfl
theorem TxZ.meas {ps:List Pc} {n:Nat} {y:Str} (t:TxZ ps n y):∃ m,(meas ps)[n]? = some m/\m.sg=y.length:=by
 rcases t with ⟨rfl,rfl⟩ | ⟨m,f,l,T⟩
 ·exact ⟨ms0,n5 ps,rfl⟩
 ·exact ⟨m,T.ms,T.ky.sg⟩
theorem yy {h:AH} {p:Nat} {ps:List Pc} {a b:Nat} {x y:Str} (S:ShelfAt h p ps) (g:Good ps) (A:TxZ ps a x) (B:TxZ ps b y) (hm:x.length+y.length<=1000000000000000000) (hz:ps.length<15000000) :
  ∃ (n:Nat) (ps':List Pc) (h':AH),Dn (iq [.ref p,.int a,.int b]) p h h' ps ps' (16*(max (fF ps a) (fF ps b)+1).toNat) n/\TxZ ps' n (x++y):=by
 rcases A with ⟨rfl,rfl⟩ | ⟨ma,fa,la,A⟩
 ·obtain ⟨mb,eb,sb⟩:=B.meas
  have em:("" : Str)++y=y:=cW (by rw [dH];rfl)
  have dv:Dn (iq [.ref p,.int (0:Nat),.int b]) p h h ps ps 0 b:=Dn.val S g fun hh pp S' _ pr=>tW S' (bD pr eb) (by rw [sb];lia)
  exact ⟨b,ps,h,dv.as S g (fun _ _ _ _ _=>rfl) (KS _),by rw [em];exact B⟩
 ·rcases B with ⟨rfl,rfl⟩ | ⟨mb,fb,lb,B⟩
  ·have em:x++("" : Str)=x:=cW (by rw [dH];simp;rfl)
   have dv:Dn (iq [.ref p,.int a,.int (0:Nat)]) p h h ps ps 0 a:=Dn.val S g fun hh pp S' _ pr=>tX S' A.n1 (bD pr A.ms) A.ky.most
   exact ⟨a,ps,h,dv.as S g (fun _ _ _ _ _=>rfl) (KS _),by rw [em];exact .inr ⟨_,_,_,A⟩⟩
  ·have sa:=A.ky.sg
   have sb:=B.ky.sg
   have a0:=A.ky.ht
   have b0:=B.ky.ht
   have ha:=hE g A
   have hb:=hE g B
   rw [qc A.ms,qc B.ms];by_cases q:8<la.sg+fb.sg
   ·obtain ⟨n,ps',h',m,d,T,_⟩:=p7 90 (max ma.ht mb.ht).toNat S g A B q (by lia) (by lia) (by lia) (by lia)
    exact ⟨n,ps',h',d.as S g (fun hh pp S' _ pr=>by rw [n8 S' A.n1 B.n1 (bD pr A.ms) (bD pr B.ms) (bD pr A.ky.ll) (bD pr B.ky.fl) (by lia),Ku q]) (by lia),.inr ⟨_,_,_,T⟩⟩
   ·obtain ⟨n,ps',h',m,f,l,d,T,_⟩:=GC S g A B q (by lia) hz
    exact ⟨n,ps',h',d.as S g (fun hh pp S' _ pr=>by rw [n8 S' A.n1 B.n1 (bD pr A.ms) (bD pr B.ms) (bD pr A.ky.ll) (bD pr B.ky.fl) (by lia),KF q]) (by lia),.inr ⟨_,_,_,T⟩⟩
end Sk
namespace Sk
open PySem PySem.Spec L2 Sm
theorem GE {b e:Nat} {y:Str} (be:b<=e):(bZ y (some (b:Int)) (some (e:Int))).cps.toList=(y.cps.toList.drop b).take (e-b):=by
 unfold bZ
 rw [HT.sIx_nat,HT.sIx_nat];generalize y.cps.toList=l
 show (l.drop (min b l.length)).take (min e l.length-min b l.length)=_
 apply LY
 intro i
 rw [Ma,Ma,Mb,Mb];by_cases q:b<=l.length
 ·rw [LR q]
  by_cases c1:i<e-b
  ·rw [Ku c1]
   by_cases c2:i<min e l.length-b
   ·rw [Ku c2]
   ·rw [KF c2,MC (by lia)]
  ·rw [KF c1,KF (by lia)]
 ·rw [KF (by lia),MC (l:=l) (i:=b+i) (by lia)]
  split<;>rfl
def cg:List Str->Str
 | [] => ""
 | w::ws=>w++cg ws
theorem j9:∀ as bs:List Str,cg (as++bs)=cg as++cg bs
 | [],bs=>(cW (by rw [dH];rfl):cg bs=("" : Str)++cg bs)
 | w::as,bs=>by
  show w++cg (as++bs)=(w++cg as)++cg bs
  rw [j9 as bs,eE]
theorem lj (w:Str):cg [w]=w:=cW (by show (w++("" : Str)).cps.toList=_;rw [dH];simp;rfl)
def LS (ps:List Pc) (ns:List Nat) (ws:List Str):Prop:=ns.length=ws.length/\∀ (i n:Nat) (w:Str),ns[i]? = some n->ws[i]? = some w->Tx ps n (bY w n) w (bY w n) (bY w n)
theorem LS.pre {ps ps':List Pc} {ns:List Nat} {ws:List Str} (s:LS ps ns ws) (h:ps <+: ps'):LS ps' ns ws:=⟨s.1,fun i n w a b=>(s.2 i n w a b).pre h⟩
theorem LS.take {ps:List Pc} {ns:List Nat} {ws:List Str} (s:LS ps ns ws) (k:Nat):LS ps (ns.take k) (ws.take k):=by
 refine ⟨by simp [s.1],fun i n w a b=>?_⟩
 rw [Ma] at a b;by_cases q:i<k
 ·rw [Ku q] at a b;exact s.2 i n w a b
 ·rw [KF q] at a;cases a
theorem LS.drop {ps:List Pc} {ns:List Nat} {ws:List Str} (s:LS ps ns ws) (k:Nat):LS ps (ns.drop k) (ws.drop k):=by
 refine ⟨by simp [s.1],fun i n w a b=>?_⟩
 rw [Mb] at a b;exact s.2 _ n w a b
abbrev d8 (ns:List Nat):List AV:=ns.map fun n:Nat=>AV.int (n:Int)
theorem tY {h:AH} {p d n:Nat}:iF (d+1) [.ref p,.fl (d8 [n])] h = .ok (.int n) h:=by
 have ix:aB (.fl [.int (n:Int)]) (.int 0) h = .ok (.int n) h:=rfl
 simp [iF,sR,ix,-aB]
theorem yz {α:Type} (l:List α) {k:Nat} (hk:k<=l.length):dO l none (some (k:Int))=l.take k:=by
 unfold dO
 rw [HT.sIx_nat,HT.sIx_none,LR hk];simp
theorem yA {α:Type} (l:List α) {k:Nat} (hk:k<=l.length):dO l (some (k:Int)) none=l.drop k:=by
 unfold dO
 rw [HT.sIx_nat,HT.sIx_none,LR hk,Lg (by simp)]
theorem tZ {h h1 h2:AH} {p d:Nat} {ps:List Pc} {ns:List Nat} {v1 v2:Int} (S:ShelfAt h p ps) (hl:2<=ns.length) (e1:iF d [.ref p,.fl (d8 (ns.take (ns.length / 2)))] h = .ok (.int v1) h1) (e2:iF d [.ref p,.fl (d8 (ns.drop (ns.length / 2)))] h1 = .ok (.int v2) h2) :
  iF (d+1) [.ref p,.fl (d8 ns)] h=bu [.ref p,.int v1,.int v2] h2:=by
 have hh:ns.length / 2<=ns.length:=Nat.div_le_self _ _
 have ln:az [.fl (d8 ns)] h = .ok (.int ns.length) h:=by simp [az]
 have q:aH (.int ns.length) (.int 1) h = .ok (.bl false) h:=by
  have : ¬ (ns.length:Int)=1:=by lia
  simp [this]
 have dv:gN (.int ns.length) (.int 2) h = .ok (.int (ns.length / 2:Nat)) h:=rfl
 have c1:cG (.fl (d8 ns)) none (some (ns.length / 2:Nat)) h = .ok (.fl (d8 (ns.take (ns.length / 2)))) h:=by
  have:=yz (d8 ns) (k:=ns.length / 2) (by simpa using hh)
  simp only [cG,this,d8,MF]
 have c2:∀ h,cG (.fl (d8 ns)) (some (ns.length / 2:Nat)) none h = .ok (.fl (d8 (ns.drop (ns.length / 2)))) h:=fun h=>by
  have:=yA (d8 ns) (k:=ns.length / 2) (by simpa using hh)
  simp only [cG,this,d8,M9]
 generalize hF:bu [.ref p,.int v1,.int v2] h2=R
 unfold iF sR
 generalize d8 ns=Z at *;generalize d8 (ns.take (ns.length / 2))=Z1 at *;generalize d8 (ns.drop (ns.length / 2))=Z2 at *;generalize ((ns.length / 2:Nat):Int)=M at *;generalize (ns.length:Int)=K at *;simp [S.ob,ln,q,dv,c1,c2,e1,e2,hF,-az,-aH,-gN,-cG]
 cases R<;>rfl
theorem GG {a b ha hb:Nat} (ab:b<=a+1) (h1:a<=2 ^ ha) (h2:hb=0\/2 ^ (hb-1)<b):hb<=ha+1:=by
 rcases h2 with h2 | h2
 ·lia
 ·have:2 ^ (hb-1)<=2 ^ ha:=by lia
  have:=(Nat.pow_le_pow_iff_right (a:=2) (by decide)).mp this
  lia
theorem GH {a b ha hb:Nat} (ab:a<=b) (h1:b<=2 ^ hb) (h2:ha=0\/2 ^ (ha-1)<a):ha<=hb:=by
 rcases h2 with h2 | h2
 ·lia
 ·have:2 ^ (ha-1)<2 ^ hb:=by lia
  have:=(Nat.pow_lt_pow_iff_right (a:=2) (by decide)).mp this
  lia
theorem GI {k b hb:Nat} (h1:k<=2*b) (h2:2*b<=k+1) (h3:2<=k) (h4:b<=2 ^ hb) (h5:hb=0\/2 ^ (hb-1)<b):k<=2 ^ (hb+1)/\2 ^ (hb+1-1)<k:=by
 rw [Om,Oa];refine ⟨by lia,?_⟩
 rcases h5 with h5 | h5
 ·subst h5;simp;lia
 ·cases hb with
  | zero=>simp;lia
  | succ n =>
   rw [Oa] at h5;rw [Om];lia
theorem GJ {k e:Nat} (h:k<=2 ^ (e+1)):k / 2<=2 ^ e/\k-k / 2<=2 ^ e:=by rw [Om] at h;lia
theorem t5 {p:Nat}:∀ (d e:Nat) {h:AH} {ps:List Pc} {ns:List Nat} {ws:List Str},ShelfAt h p ps->Good ps->LS ps ns ws->1<=ns.length->ns.length<=2 ^ e->e<d->(∀ (i:Nat) (w:Str),ws[i]? = some w->i+1<ws.length->w.length=8)->ps.length+ns.length<16000000->ns.length<=10000 ->
  ∃ (n:Nat) (ps':List Pc) (h':AH) (m f l:Ms) (H:Nat),iF d [.ref p,.fl (d8 ns)] h = .ok (.int n) h'/\Dd p h h' ps ps' (ns.length-1)/\Tx ps' n m (cg ws) f l/\m.ht=H/\ns.length<=2 ^ H/\(H=0\/2 ^ (H-1)<ns.length)/\((∀ w∈ws,w.length=8)->l.sg=8)/\m.sg<=8*ns.length/\(∀ M,dE M ps->m.sg<=M->dE M ps')
 | 0,e,h,ps,ns,ws,S,g,LL,h1,h2,h3,h4,h5,h6=>absurd h3 (Lz _)
 | d+1,e,h,ps,ns,ws,S,g,LL,h1,h2,h3,h4,h5,h6=>by
  by_cases q:ns.length=1
  ·obtain ⟨n,rfl⟩:∃ n,ns=[n]:=Nu.mp q
   obtain ⟨w,rfl⟩:∃ w,ws=[w]:=Nu.mp (LL.1.symm.trans q)
   have T:=LL.2 0 n w rfl rfl
   refine ⟨n,ps,h,_,_,_,0,tY,{ Dd.refl S g with len:=by lia },by rw [lj];exact T,rfl,by simp,.inl rfl,fun hw=>hw w (by simp),?_,fun _ f _=>f⟩
   have:=T.ky.f8
   simpa using this
  ·have hh:2<=ns.length:=by lia
   obtain ⟨e',rfl⟩:∃ e',e=e'+1:=by
    cases e with
    | zero=>simp at h2;lia
    | succ e' => exact ⟨e',rfl⟩
   obtain ⟨w1,w2⟩:=GJ h2
   have lt:(ns.take (ns.length / 2)).length=ns.length / 2:=by rw [Le];lia
   have ld:(ns.drop (ns.length / 2)).length=ns.length-ns.length / 2:=Lh ..
   have lw:=LL.1
   obtain ⟨n1,ps1,hh1,m1,f1,l1,H1,a1,a2,a3,a4,a5,a6,a7,a8,a9⟩:=t5 d e' S g (LL.take (ns.length / 2)) (by lia) (by lia) (by lia) (fun i w ew hi=>by
    rw [Ma] at ew;split at ew
    ·rw [Le] at hi;exact h4 i w ew (by lia)
    ·cases ew) (by lia) (by lia)
   have z1:=a2.len
   obtain ⟨n2,ps2,hh2,m2,f2,l2,H2,b1,b2,b3,b4,b5,b6,b7,b8,b9⟩:=t5 d e' a2.sh a2.gd ((LL.drop (ns.length / 2)).pre a2.pre) (by lia) (by lia) (by lia) (fun i w ew hi=>by
    rw [Mb] at ew;rw [Lh] at hi;exact h4 _ w ew (by (clear ew z1 a9 a8 a7 a6 a5 a4 a3 a2 a1 lw ld lt w2 w1 h3 h2 hh q h6 h5 h4 h1 LL g S;omega))) (by lia) (by (clear z1 a9 a8 a7 a6 a5 a4 a3 a2 a1 lw lt w2 w1 h3 h2 hh q h5 h4 h1 LL g S;lia))
   have z2:=b2.len
   rw [lt] at a5 a6 a8;rw [ld] at b5 b6 b8;have g1:=GG (a:=ns.length / 2) (b:=ns.length-ns.length / 2) (by (clear z2 b9 b8 b7 b6 b5 b4 b3 b2 b1 z1 a9 a8 a7 a6 a5 a4 a3 a2 a1 lw ld lt w2 w1 h3 h2 hh q h6 h5 h4 h1 LL g S;lia)) a5 b6
   have g2:=GH (a:=ns.length / 2) (b:=ns.length-ns.length / 2) (by (clear g1 z2 b9 b8 b7 b6 b5 b4 b3 b2 b1 z1 a9 a8 a7 a6 a5 a4 a3 a2 a1 lw ld lt w2 w1 h3 h2 hh h6 h5 h4 LL g S;lia)) b5 a6
   have l8:l1.sg=8:=a7 fun w hw=>by
    obtain ⟨i,hi,ei⟩:=Mn hw
    have hi' := hi
    rw [Le] at hi';have:(ws.take (ns.length / 2))[i]? = some w:=by rw [KM hi,ei]
    rw [Ma] at this;split at this
    ·exact h4 i w this (by lia)
    ·cases this
   have f1' := b3.ky.f1
   obtain ⟨n3,ps3,hh3,d3,T3⟩:=gn b2.sh b2.gd (a3.pre b2.pre) b3 (by lia) (by lia) (by lia) (by (clear f1' l8 g2 g1 z2 b9 b7 b6 b5 b4 b3 b2 b1 z1 a9 a7 a6 a5 a4 a3 a2 a1 lw ld lt w2 w1 h3 h2 hh q h5 h4 h1 LL g S;lia)) (by (clear f1' l8 g2 g1 b9 b8 b7 b6 b5 b4 b3 b2 b1 a9 a8 a7 a6 a5 a4 a3 a2 a1 lw w2 w1 h3 h2 hh h6 h4 LL g S;lia))
   have rd:cg (ws.take (ns.length / 2))++cg (ws.drop (ns.length / 2))=cg ws:=by rw [<- j9,Md]
   rw [rd] at T3;have hv:=tZ S hh a1 b1
   obtain ⟨y1,y2⟩:=GI (k:=ns.length) (b:=ns.length-ns.length / 2) (by (clear hv rd T3 d3 f1' l8 g2 g1 z2 b9 b8 b7 b6 b5 b4 b3 b2 b1 z1 a9 a8 a7 a6 a5 a4 a3 a2 a1 lw ld lt w2 w1 h3 h2 hh q h6 h5 h4 LL g S;lia)) (by lia) hh b5 b6
   refine ⟨n3,ps3,hh3,_,f1,l2,H2+1,hv.trans d3.ev,(a2.trans b2 (Kj _)).trans d3.dd (by (clear y2 y1 hv rd T3 d3 f1' l8 g2 g1 z2 b9 b8 b7 b6 b5 b4 b3 b2 b1 z1 a9 a8 a7 a6 a5 a4 a3 a2 a1 lw w2 w1 h3 h2 hh h6 h5 h4 LL g S;lia)),T3,by rw [bQ,a4,b4];lia,y1,.inr y2,fun hw=>b7 fun w hm=>hw w (Lu hm),by rw [gp];(clear y2 y1 hv rd T3 d3 f1' l8 g2 g1 z2 b9 b7 b6 b5 b4 b3 b2 b1 z1 a9 a7 a6 a5 a4 a3 a2 a1 lw ld lt w2 w1 h3 h2 hh q h6 h5 h4 h1 LL g S;lia),fun M f hq=>d3.al M (b9 M (a9 M f (Kn (LQ _ _) hq)) (Kn (Mr _ _) hq)) (fun m e=>by rw [T3.ms] at e;cases e;exact hq)⟩
end Sk
namespace Sk
open PySem PySem.Spec L2 Sm
def iu (x:Str) (k:Nat):Str:=bZ x (some ((8*k:Nat):Int)) (some ((8*k+8:Nat):Int))
theorem t6 (x:Str) (k:Nat):(iu x k).cps.toList=(x.cps.toList.drop (8*k)).take 8:=by
 unfold iu
 rw [GE (by lia),show 8*k+8-8*k=8 by lia]
theorem yB (x:Str) (k:Nat):(iu x k).length=min 8 (x.length-8*k):=by
 rw [bK,t6,Le,Lh,<- bK]
theorem GL {x:Str} (px:br x=true) (k:Nat):br (iu x k)=true:=by
 unfold br at *
 rw [t6,La];rw [La] at px;exact fun c hc=>px c (Lu (Lv hc))
theorem yC (x:Str):∀ j,(cg ((List.range j).map (iu x))).cps.toList=x.cps.toList.take (8*j)
 | 0=>rfl
 | j+1=>by
  rw [List.range_succ,K9,j9,dH,yC x j];show _++(cg [iu x j]).cps.toList=_
  rw [lj,t6,show 8*(j+1)=8*j+8 by lia,List.take_add]
theorem yD {α:Type} {f:Nat->α} {N i:Nat} {w:α} (e:((List.range N).map f)[i]? = some w):i<N/\w=f i:=by
 rw [K6] at e;obtain ⟨j,ej,ew⟩:=KU.mp e
 have h1:=(Kh.mp ej).1
 rw [Mx] at h1;rw [MN h1] at ej
 cases ej
 exact ⟨h1,ew.symm⟩
theorem LS.snoc {ps ps':List Pc} {ns:List Nat} {ws:List Str} {n:Nat} {w:Str} (s:LS ps ns ws) (h:ps <+: ps') (T:Tx ps' n (bY w n) w (bY w n) (bY w n)):LS ps' (ns++[n]) (ws++[w]):=by
 have l:=s.1
 refine ⟨by simp [s.1],fun i a b ea eb=>?_⟩
 by_cases q:i<ns.length
 ·rw [Ki q] at ea
  rw [Ki (by lia)] at eb
  exact (s.2 i a b ea eb).pre h
 ·have h1:=(Kh.mp ea).1
  have hi:i=ns.length:=by simp at h1;lia
  subst hi;rw [K2 (by lia)] at ea eb
  simp at ea
  rw [show ns.length-ws.length=0 by lia] at eb
  simp at eb
  subst ea eb
  exact T
theorem GN {h:AH} {p:Nat} {ps:List Pc} {x:Str} (S:ShelfAt h p ps) (g:Good ps) (px:br x=true) (N:Nat) (hN:8*N<x.length+8) (hx:x.length<=10000) (hz:ps.length+N<16000000) (all:List AV) (js:List Nat) (en:En) (hj:js.map (fun j=>(en[j]?).join)=[some (.ref p),some (.str x)]) :
  ∃ (ns:List Nat) (ps':List Pc) (h':AH),bP js en none all aR (aT 0 gA (ae 1) (aj (bI (ae 2) (some (ae 0)) (some (ah ar (ae 0) (ai (.int 8))))) af)) ((List.range N).map fun m:Nat=>AV.int (0+(m:Int)*8)) [] h = .ok (d8 ns) h'/\Dd p h h' ps ps' N/\LS ps' ns ((List.range N).map (iu x))/\∀ M,dE M ps->x.length<=M->dE M ps' := by
 obtain ⟨zs,h',c1,ns,ps',e1,D,LL,al⟩:=FW (js:=js) (en:=en) (all:=all) (e:=aT 0 gA (ae 1) (aj (bI (ae 2) (some (ae 0)) (some (ah ar (ae 0) (ai (.int 8))))) af)) (xs:=(List.range N).map fun m:Nat=>AV.int (0+(m:Int)*8)) (h:=h)
  (fun j ys h' => ∃ (ns:List Nat) (ps':List Pc),ys=d8 ns/\Dd p h h' ps ps' j/\LS ps' ns ((List.range j).map (iu x))/\∀ M,dE M ps->x.length<=M->dE M ps') ⟨[],ps,rfl,Dd.refl S g,⟨rfl,fun i n w a _=>by simp at a⟩,fun _ f _=>f⟩ (by
   rintro j v ys h' hv ⟨ns,ps',rfl,D,LL,al⟩
   obtain ⟨jN,rfl⟩:=yD hv
   have z:=D.len
   have lc:=yB x j
   have sc:dS (iu x j)=true:=by
    unfold dS
    rw [GL px j,lc];simp;lia
   obtain ⟨n,ps2,h2,d2,T⟩:=yr D.sh D.gd sc (by lia)
   have i1:(0:Int)+(j:Int)*8=((8*j:Nat):Int):=by lia
   have i2:((8*j:Nat):Int)+8=((8*j+8:Nat):Int):=by lia
   have ct:cG (.str x) (some ((8*j:Nat):Int)) (some ((8*j+8:Nat):Int)) h' = .ok (.str (iu x j)) h' := rfl
   have ev:=d2.ev
   rw [hj];have e:aT 0 gA (ae 1) (aj (bI (ae 2) (some (ae 0)) (some (ah ar (ae 0) (ai (.int 8))))) af) [some (.int (0+(j:Int)*8)),some (.ref p),some (.str x)] h' = .ok (.int n) h2:=by
    rw [i1];have ad:ar (.int ((8*j:Nat):Int)) (.int 8) h' = .ok (.int ((8*j+8:Nat):Int)) h' := by rw [<- i2];rfl
    generalize ((8*j:Nat):Int)=B1 at *;generalize ((8*j+8:Nat):Int)=B2 at *;simp [D.sh.ob,ad,ct,ev,-ar,-cG]
   rw [e];refine ⟨ns++[n],ps2,by simp [d8],D.trans d2.dd (by lia),?_,fun M f hq=>d2.al M (al M f hq) (fun m e=>by rw [T.ms] at e;cases e;show (iu x j).length<=M;rw [lc];lia)⟩
   rw [List.range_succ,K9];exact LL.snoc d2.dd.pre T) (by simp;exact Kn (show N<=10000 by lia) (by decide))
 rw [Kv,Mx] at D LL;exact ⟨ns,ps',h',by rw [c1,e1],D,LL,al⟩
theorem yE {h:AH} {p:Nat} {ps:List Pc} {x:Str} (S:ShelfAt h p ps) (g:Good ps) (px:br x=true) (hx:x.length<=10000) (hz:ps.length+2*x.length<16000000) :
  ∃ (n:Nat) (ps':List Pc) (h':AH),kQ [.ref p,.str x] h = .ok (.int n) h'/\Dd p h h' ps ps' (2*x.length)/\TxZ ps' n x/\∀ M,dE M ps->x.length<=M->dE M ps' := by
 have sl:x.length<=sizeLine:=Kn hx (by decide)
 have fp:=ya x h sl
 rw [px] at fp;have c1 : ¬ (10000:Int)<x.length:=by lia
 by_cases q:x.length=0
 ·have xe:x = "" := cW (by rw [bK] at q;rw [LG.mp q];rfl)
  subst xe;refine ⟨0,ps,h,?_,{ Dd.refl S g with len:=by lia },.inl ⟨rfl,rfl⟩,fun _ f _=>f⟩
  simp [kQ,fp,c1]
 ·obtain ⟨N,eN⟩:∃ N,N=(x.length-1) / 8+1:=⟨_,rfl⟩
  obtain ⟨ns,ps1,h1,e1,D1,LL,al⟩:=GN S g px N (by lia) hx (by lia) ((List.range N).map fun m:Nat=>AV.int (0+(m:Int)*8)) [0,1] [some (.ref p),some (.str x),none] rfl
  have z1:=D1.len
  have ln:ns.length=N:=by rw [LL.1];simp
  obtain ⟨n,ps2,h2,m,f,l,H,b1,b2,b3,_,_,_,_,_,b9⟩:=t5 (p:=p) 20 11 D1.sh D1.gd LL (by lia) (by rw [ln];have:(2:Nat) ^ 11=2048:=rfl;lia) (by decide) (fun i w ew hi=>by
   obtain ⟨iN,rfl⟩:=yD ew
   rw [Kv,Mx] at hi;rw [yB];lia) (by lia) (by lia)
  have rd:cg ((List.range N).map (iu x))=x:=cW (by rw [yC,Lg (by rw [<- bK];lia)])
  rw [rd] at b3;have ir:jz (ai (.int 0)) (ax az (aj (ae 1) af)) (ai (.int 8)) [some (.ref p),some (.str x),none] h = .ok ((List.range N).map (fun m:Nat=>AV.int (0+(m:Int)*8)),none) h:=by
   have r1:((if (0:Int)<x.length then ((x.length:Int)-0-1) / 8+1 else 0:Int)).toNat=N:=by
    rw [Ku (by lia)];lia
   have r2:(0:Int).natAbs<2 ^ 40/\(x.length:Int).natAbs<2 ^ 40/\(0:Int)<8/\(8:Int)<2 ^ 20:=⟨by decide,by lia,by decide,by decide⟩
   show (if _ then _ else _)=_
   rw [Ku r2,r1]
  have cp:dh [0,1] (jz (ai (.int 0)) (ax az (aj (ae 1) af)) (ai (.int 8))) aR (aT 0 gA (ae 1) (aj (bI (ae 2) (some (ae 0)) (some (ah ar (ae 0) (ai (.int 8))))) af)) [some (.ref p),some (.str x),none] h = .ok (.fl (d8 ns)) h1:=by
   simp only [dh,ir,e1]
  have ne:aH (.str x) (.str "") h = .ok (.bl false) h:=by
   have : ¬ x=Str.ofString "" := fun z=>q (by rw [z];rfl)
   simp [this]
  refine ⟨n,ps2,h2,?_,D1.trans b2 (by lia),.inr ⟨_,_,_,b3⟩,fun M f hq=>b9 M (al M f hq) (by rw [b3.ky.sg];exact hq)⟩
  unfold kQ
  generalize dh [0,1] (jz (ai (.int 0)) (ax az (aj (ae 1) af)) (ai (.int 8))) aR (aT 0 gA (ae 1) (aj (bI (ae 2) (some (ae 0)) (some (ah ar (ae 0) (ai (.int 8))))) af))=CP at *;generalize iF 20=HV at *;simp [fp,c1,ne,cp,b1,-aH]
end Sk
namespace Sk
open PySem PySem.Spec L2 Sm
def bO (x:Str) (a:Nat):Str:=⟨(x.cps.toList.take a).toArray⟩
def bR (x:Str) (a:Nat):Str:=⟨(x.cps.toList.drop a).toArray⟩
theorem iK (x:Str) (a:Nat):(bO x a).cps.toList=x.cps.toList.take a:=rfl
theorem gH (x:Str) (a:Nat):(bR x a).cps.toList=x.cps.toList.drop a:=rfl
theorem yF {x:Str} {a:Nat} (h:a<=x.length):(bO x a).length=a:=by
 rw [bK] at *
 rw [iK,Le];lia
theorem iL (x:Str) (a:Nat):(bR x a).length=x.length-a:=by
 rw [bK,bK x,gH,Lh]
theorem t7 (x:Str):bR x 0=x:=cW rfl
theorem GO {x:Str} {a:Nat} (h:x.length<=a):bO x a=x:=cW (by rw [iK,Lg (by rw [<- bK];exact h)])
theorem GP {x:Str} {a:Nat} (h:x.length<=a):bR x a = "" := cW (by rw [gH,Ls (by rw [<- bK];exact h)];rfl)
theorem yG {x:Str} (h:br x=true) (a:Nat):br (bO x a)=true:=by
 unfold br at *
 rw [iK,La];rw [La] at h;exact fun c hc=>h c (Lv hc)
theorem GQ {x:Str} (h:br x=true) (a:Nat):br (bR x a)=true:=by
 unfold br at *
 rw [gH,La];rw [La] at h;exact fun c hc=>h c (Lu hc)
theorem qd {x:Str} {a:Nat} (h:AH):cG (.str x) none (some (a:Int)) h = .ok (.str (bO x a)) h:=by
 have:bZ x none (some (a:Int))=bO x a:=cW (by
  unfold bZ
  rw [HT.sIx_nat,HT.sIx_none,iK];show (x.cps.toList.drop 0).take (min a x.cps.toList.length-0)=_
  rw [MV,Nat.sub_zero];by_cases q:a<=x.cps.toList.length
  ·rw [LR q]
  ·rw [Nj (by lia),Mj,Lg (by lia)])
 simp only [cG,this]
theorem qe {x:Str} {a:Nat} (ha:a<=x.length) (h:AH):cG (.str x) (some (a:Int)) none h = .ok (.str (bR x a)) h:=by
 have:bZ x (some (a:Int)) none=bR x a:=cW (by
  unfold bZ
  rw [HT.sIx_nat,HT.sIx_none,gH];rw [bK] at ha;rw [LR ha];show (x.cps.toList.drop a).take (x.cps.toList.length-a)=_
  rw [Lg (by rw [Lh];exact Kj _)])
 simp only [cG,this]
def Ke (z:Int):Nat:=8*((z+1).toNat*(z+2).toNat)
theorem yH {ps:List Pc} (g:Good ps) {a b:Nat} {x y:Str} (A:TxZ ps a x) (B:TxZ ps b y):16*(max (fF ps a) (fF ps b)+1).toNat<=1400:=by
 have key:∀ {n:Nat} {y:Str},TxZ ps n y->fF ps n<=82:=fun {n y} t=>by
  rcases t with ⟨rfl,rfl⟩ | ⟨m,f,l,T⟩
  ·rw [GD];lia
  ·rw [qc T.ms];exact hE g T
 have:=key A
 have:=key B
 lia
end Sk
namespace Sk
open PySem PySem.Spec L2 Sm
inductive Un where
 | n (k:Nat)
 | s (z:Str)
@[simp] def uv:Un->AV
 | .n k=>.int k
 | .s z=>.str z
def ud:Un->PyData
 | .n k=>.int k
 | .s z=>.str z
def iM (ps:List Pc):Un->List Nat
 | .n k=>((reads ps).getD k "").cps.toList
 | .s z=>z.cps.toList
def aM (ps:List Pc):List Un->List Nat
 | []=>[]
 | u::r=>iM ps u++aM ps r
theorem yI (ps:List Pc):∀ a b:List Un,aM ps (a++b)=aM ps a++aM ps b
 | [],b=>rfl
 | u::a,b=>by rw [L5,aM,aM,yI ps a b,KN]
inductive OkU (ps:List Pc):Un->Prop
 | n {k:Nat} {m f l:Ms} {x:Str} (T:Tx ps k m x f l):OkU ps (.n k)
 | s {z:Str} (a:1<=z.length) (b:z.length<=8):OkU ps (.s z)
theorem dq {ps:List Pc} {k:Nat} {m f l:Ms} {x:Str} (T:Tx ps k m x f l):iM ps (.n k)=x.cps.toList:=by
 show ((reads ps).getD k "").cps.toList=_
 rw [k9 T.rd]
theorem OkU.pos {ps:List Pc} {u:Un} (o:OkU ps u):1<=(iM ps u).length:=by
 cases o with
 | n T =>
  rw [dq T,<- bK,<- T.ky.sg];obtain ⟨k,c⟩:=T.ky.cnt
  have:=T.ky.f1
  rcases c with c | c<;>lia
 | @s z a b =>
  show 1<=z.cps.toList.length
  rw [<- bK];exact a
def hU (ps:List Pc):List Un->Nat
 | .n k::_=>((meas ps).getD k ms0).ht.toNat+1
 | _=>0
theorem c9 {ps:List Pc} {k:Nat} {m f l:Ms} {x:Str} (T:Tx ps k m x f l) (st:List Un):hU ps (.n k::st)=m.ht.toNat+1:=by
 show ((meas ps).getD k ms0).ht.toNat+1=_
 rw [k9 T.ms]
theorem gI {ps:List Pc} (g:Good ps) {st:List Un} (ok:∀ u∈st,OkU ps u):hU ps st<=83:=by
 match st,ok with
 | [],_=>exact KS _
 | .s _::_,_=>exact KS _
 | .n k::st,ok =>
  cases ok _ (Km ..) with
  | @n _ m f l x T =>
   rw [c9 T];have:=hE g T
   have:=T.ky.ht
   lia
theorem i4 {ps:List Pc} {a b:Nat} {ma mb fa la fb lb:Ms} {y z:Str} {u:Un} {st:List Un} (A:Tx ps a ma y fa la) (B:Tx ps b mb z fb lb) (ok:∀ v∈u::st,OkU ps v):∀ v∈(.n a :: .n b::st:List Un),OkU ps v:=by
 intro v hv
 rcases KJ.mp hv with rfl | hv
 ·exact .n A
 ·rcases KJ.mp hv with rfl | hv
  ·exact .n B
  ·exact ok v (Kp _ hv)
def bg (ps:List Pc):Nat->List Un->Str×List Un
 | _,[]=>("",[])
 | _,.s z::st=>(z,st)
 | 0,.n _::st=>("",st)
 | c+1,.n k::st=>match ps[k-1]? with
  | some (.fork a b)=>bg ps c (.n a :: .n b::st)
  | some (.leaf z)=>(z,st)
  | none=>("",st)
structure t8 (ps:List Pc) (c:Nat) (st:List Un) (r:Str×List Un):Prop where
 rd:aM ps st=r.1.cps.toList++aM ps r.2
 ok:∀ u∈r.2,OkU ps u
 z1:st≠[]->1<=r.1.length/\r.1.length<=8
 z0:st=[]->r=(("" : Str),([]:List Un))
 ln:r.2.length<=st.length+c
theorem mv {ps:List Pc} (g:Good ps):∀ (c:Nat) (st:List Un),(∀ u∈st,OkU ps u)->hU ps st<=c->t8 ps c st (bg ps c st)
 | c,[],ok,_=>by
  have e:bg ps c []=(("" : Str),([]:List Un)):=by cases c<;>rfl
  rw [e];exact ⟨rfl,ok,fun z=>absurd rfl z,fun _=>rfl,KS _⟩
 | c,.s z::st,ok,_=>by
  have e:bg ps c (.s z::st)=(z,st):=by cases c<;>rfl
  rw [e]
  cases ok _ (Km ..) with
  | s a b=>exact ⟨rfl,fun u hu=>ok u (Kp _ hu),fun _=>⟨a,b⟩,fun z=>(by cases z),by show st.length<=(st.length+1)+c;lia⟩
 | 0,.n k::st,ok,h=>by
  cases ok _ (Km ..) with
  | n T=>rw [c9 T] at h;lia
 | c+1,.n k::st,ok,h=>by
  cases ok _ (Km ..) with
  | @n _ m f l x T =>
   rw [c9 T] at h;rcases g.kind T with ⟨e1,e2,e3,e4,e5⟩ | ⟨a,b,ma,mb,y,z,fa,la,fb,lb,e1,e2,e3,A,B,e4,e5,e6⟩
   ·have e:bg ps (c+1) (.n k::st)=(x,st):=by unfold bg;rw [e1]
    rw [e];exact ⟨by rw [aM,dq T],fun u hu=>ok u (Kp _ hu),fun _=>⟨e4,e5⟩,fun z=>(by cases z),by show st.length<=(st.length+1)+_;lia⟩
   ·have e:bg ps (c+1) (.n k::st)=bg ps c (.n a :: .n b::st):=by rw [bg,e1]
    rw [e];have hh:=congrArg Ms.ht e5
    rw [bQ] at hh;have a0:=A.ky.ht
    have b0:=B.ky.ht
    have r:=mv g c (.n a :: .n b::st) (i4 A B ok) (by rw [c9 A];(clear a0 e e6 e5 e4 B A e3 e2 e1 T ok g;lia))
    refine ⟨?_,r.ok,fun _=>r.z1 (fun z=>by cases z),fun z=>(by cases z),?_⟩
    ·rw [<- r.rd,aM,aM,aM,dq T,dq A,dq B,e4,dH,KN]
    ·have:=r.ln
     rw [Kk,Kk] at this;rw [Kk];(clear r b0 a0 hh e e6 e5 e4 B A e3 e2 e1 T h ok g;lia)
def bx (ps:List Pc) (k:Nat):Nat->List Un->Option (List Un)
 | _,[]=>none
 | _,.s _::_=>none
 | 0,.n _::_=>none
 | c+1,.n j::st=>if j=k then some st else match ps[j-1]? with
  | some (.fork a b)=>bx ps k c (.n a :: .n b::st)
  | _=>none
theorem yJ {ps:List Pc} (g:Good ps) {k:Nat}:∀ (c:Nat) {st st':List Un},(∀ u∈st,OkU ps u)->bx ps k c st=some st'->aM ps st=iM ps (.n k)++aM ps st'/\(∀ u∈st',OkU ps u)/\st'.length<=st.length+c
 | 0,[],st',_,h=>by cases h
 | 0,.s _::_,st',_,h=>by cases h
 | 0,.n _::_,st',_,h=>by cases h
 | c+1,[],st',_,h=>by cases h
 | c+1,.s _::_,st',_,h=>by cases h
 | c+1,.n j::st,st',ok,h=>by
  rw [bx] at h;by_cases q:j=k
  ·rw [Ku q] at h
   cases h
   subst q;exact ⟨rfl,fun u hu=>ok u (Kp _ hu),by rw [Kk];lia⟩
  ·rw [KF q] at h
   cases ok _ (Km ..) with
   | @n _ m f l x T =>
    rcases g.kind T with ⟨e1,_⟩ | ⟨a,b,ma,mb,y,z,fa,la,fb,lb,e1,e2,e3,A,B,e4,e5,e6⟩
    ·rw [e1] at h;cases h
    ·rw [e1] at h
     obtain ⟨r1,r2,r3⟩:=yJ g c (i4 A B ok) h
     refine ⟨?_,r2,?_⟩
     ·rw [<- r1,aM,aM,aM,dq T,dq A,dq B,e4,dH,KN]
     ·rw [Kk,Kk] at r3
      rw [Kk];lia
end Sk
namespace Sk
open PySem PySem.Spec L2 Sm
theorem fG {h:AH} {W:Nat} {Z:List AV} {v:AV} (e:h[W]? = some (.lst (Z++[v]))):bc (.ref W) [] h = .ok v (h.set W (.lst Z)):=by
 simp [bc,e]
theorem hG (u:Un) (st:List Un):(u::st).reverse.map uv=st.reverse.map uv++[uv u]:=by simp
theorem yK (h:AH):∀ l:List Un,cE (df 7 h) (l.map uv)=some (l.map ud)
 | []=>rfl
 | u::l=>by
  have e:df 7 h (uv u)=some (ud u):=by cases u<;>rfl
  rw [KY,KY];unfold cE
  rw [e,yK h l]
theorem ka {c:SB} {b:SS} {n:Nat} {en:En} {h h2:AH} {v:AV} (e:c en h = .ok true h) (eb:b en h = .rt v h2):bF c b (n+1) en h = .rt v h2:=by
 unfold bF;rw [e];dsimp only;rw [eb]
theorem n9 {c:SB} {b:SS} {n:Nat} {en e2:En} {h h2:AH} (e:c en h = .ok true h) (eb:b en h = .nx e2 h2):bF c b (n+1) en h=bF c b n e2 h2:=by
 unfold bF;rw [e];dsimp only;rw [eb];dsimp only
 cases n<;>rfl
theorem lq {c:SB} {b:SS} {n:Nat} {en:En} {h:AH} (e:c en h = .ok false h):bF c b (n+1) en h = .nx en h:=by
 unfold bF;rw [e]
theorem og {h:AH} {W:Nat} {l:List Un} (e:h[W]? = some (.lst (l.map uv))):fX (.ref W) (.fl []) h=some l.isEmpty:=by
 have t:df 8 h (.ref W)=some (.list (l.map ud)):=by
  show (match h[W]? with | some (.lst xs)=>(cE (df 7 h) xs).map PyData.list | _=>none)=_
  rw [e];show (cE (df 7 h) (l.map uv)).map PyData.list=_
  rw [yK];rfl
 show (match df 8 h (.ref W),df 8 h (.fl []) with | some d,some e=>some (PyData.eqv d e) | _,_=>none)=_
 rw [t];show some (PyData.eqv (.list _) (.list []))=_
 cases l with
 | nil=>simp [PyData.eqv,PyData.eqvAll]
 | cons a b=>simp [PyData.eqv,PyData.eqvAll]
theorem kb {h:AH} {W:Nat} {u:Un} {st:List Un} (e:h[W]? = some (.lst ((u::st).reverse.map uv))):aI (.ref W) (.fl []) h = .ok (.bl true) h:=by
 show (match fX (.ref W) (.fl []) h with | some b=>Out.ok (AV.bl (!b)) h | none=>Out.bad)=_
 rw [og e];simp
theorem mz {h:AH} {W:Nat} (e:h[W]? = some (.lst [])):aI (.ref W) (.fl []) h = .ok (.bl false) h:=by
 show (match fX (.ref W) (.fl []) h with | some b=>Out.ok (AV.bl (!b)) h | none=>Out.bad)=_
 rw [og (l:=[]) e];rfl
theorem t9 {h:AH} {p:Nat} {w:AV} (z:Str):jF [.ref p,w,.str z] h = .ok (.bl false) h:=by
 simp [jF]
theorem yL {h:AH} {p k:Nat} {ps:List Pc} {w:AV} {x:Str} (S:ShelfAt h p ps) (k1:1<=k) (e:ps[k-1]? = some (.leaf x)):jF [.ref p,w,.int k] h = .ok (.bl false) h:=by
 have q:=jL S k1 e
 have i0:=nX x h
 have eq:=p9 h
 simp [jF,S.ob,q,i0,eq,-aB,-aH]
theorem yM {h:AH} {p k a b W:Nat} {ps:List Pc} {Z:List AV} (S:ShelfAt h p ps) (k1:1<=k) (e:ps[k-1]? = some (.fork a b)) (hW:p+8<W) (eW:h[W]? = some (.lst Z)) (lz:Z.length<=1000000):jF [.ref p,.ref W,.int k] h = .ok (.bl true) (h.set W (.lst (Z++[.int b]++[.int a]))):=by
 have q:=gq S k1 e
 have i0:=mr a b h
 have eq:=qa h
 have l1:Z.length<sizeLine:=KA lz (by decide)
 have ap:bo (.ref W) [.int b] h = .ok .non (h.set W (.lst (Z++[.int b]))):=by simp only [bo,eW,l1,Lp]
 obtain ⟨h1,eh1⟩:∃ h1,h1=h.set W (.lst (Z++[.int b])):=⟨_,rfl⟩
 have eW1:h1[W]? = some (.lst (Z++[.int b])):=by rw [eh1];exact Ko (aY eW)
 have l2:(Z++[AV.int b]).length<sizeLine:=KA (m:=1000001) (by simp;omega) (by decide)
 have ap2:bo (.ref W) [.int a] h1 = .ok .non (h1.set W (.lst (Z++[.int b]++[.int a]))):=by simp only [bo,eW1,l2,Lp]
 rw [<- eh1] at ap;have fin:h1.set W (.lst (Z++[.int b]++[.int a]))=h.set W (.lst (Z++[.int b]++[.int a])):=by rw [eh1,Lo]
 rw [fin] at ap2;have is1:aL (.ref W) h=true:=by simp [eW]
 have is2:aL (.ref W) h1=true:=by simp [eW1]
 have j1:∀ hh,aB (.tup [.str "fork",.int a,.int b]) (.int 1) hh = .ok (.int a) hh:=i1 _ _ _
 have j2:∀ hh,aB (.tup [.str "fork",.int a,.int b]) (.int 2) hh = .ok (.int b) hh:=i2 _ _ _
 generalize h.set W (.lst (Z++[.int b]++[.int a]))=HF at *;simp [jF,S.ob,q,i0,eq,j1,j2,is1,is2,ap,ap2,-aB,-aH,-aL,-bo]
theorem eZ {h:AH} {p W:Nat} {ps:List Pc} (S:ShelfAt h p ps) (hW:p+8<W) (o:AO):ShelfAt (h.set W o) p ps:=S.keep fun i _ i8=>Kr (by lia)
abbrev CN:SB:=aQ (ah aI (ae 1) (aS af))
theorem yN {p W:Nat} {ps:List Pc} (g:Good ps) (hW:p+8<W):∀ (c fuel:Nat) (st:List Un) (h:AH) (o:Option AV),ShelfAt h p ps->(∀ u∈st,OkU ps u)->hU ps st<=c->c<fuel->st≠[]->st.length+c<=1000000->h[W]? = some (.lst (st.reverse.map uv)) ->
  bF CN gh fuel [some (.ref p),some (.ref W),o] h = .rt (.str (bg ps c st).1) (h.set W (.lst ((bg ps c st).2.reverse.map uv)))
 | c,0,st,h,o,S,ok,hc,hf,ne,ls,eW=>absurd hf (Lz _)
 | c,fu+1,[],h,o,S,ok,hc,hf,ne,ls,eW=>absurd rfl ne
 | c,fu+1,.s z::st,h,o,S,ok,hc,hf,ne,ls,eW=>by
  have nn:=kb eW
  rw [hG] at eW;have po:=fG eW
  have is1:aL (.ref W) h=true:=by simp [eW]
  have e:bg ps c (.s z::st)=(z,st):=by cases c<;>rfl
  rw [e];have cn:CN [some (.ref p),some (.ref W),o] h = .ok true h:=by simp [nn,-aI]
  have eb:gh [some (.ref p),some (.ref W),o] h = .rt (.str z) (h.set W (.lst (st.reverse.map uv))):=by
   have po':bc (.ref W) [] h = .ok (.str z) (h.set W (.lst (st.reverse.map uv))):=po
   generalize h.set W (.lst (st.reverse.map uv))=h1 at *;simp [gh,is1,po',-bc,-aL]
  exact ka cn eb
 | 0,fu+1,.n k::st,h,o,S,ok,hc,hf,ne,ls,eW=>by
  cases ok _ (Km ..) with
  | n T=>rw [c9 T] at hc;lia
 | c+1,fu+1,.n k::st,h,o,S,ok,hc,hf,ne,ls,eW=>by
  have nn:=kb eW
  rw [hG] at eW;have po:=fG eW
  have is1:aL (.ref W) h=true:=by simp [eW]
  have po':bc (.ref W) [] h = .ok (.int k) (h.set W (.lst (st.reverse.map uv))):=po
  have cn:CN [some (.ref p),some (.ref W),o] h = .ok true h:=by simp [nn,-aI]
  have S1:ShelfAt (h.set W (.lst (st.reverse.map uv))) p ps:=eZ S hW _
  have eW1:(h.set W (.lst (st.reverse.map uv)))[W]? = some (.lst (st.reverse.map uv)):=Ko (aY eW)
  obtain ⟨h1,eh1⟩:∃ h1,h1=h.set W (.lst (st.reverse.map uv)):=⟨_,rfl⟩
  rw [<- eh1] at po' S1 eW1
  cases ok _ (Km ..) with
  | @n _ m f l x T =>
   rw [c9 T] at hc;rw [Kk] at ls;rcases g.kind T with ⟨e1,e2,e3,e4,e5⟩ | ⟨a,b,ma,mb,y,z,fa,la,fb,lb,e1,e2,e3,A,B,e4,e5,e6⟩
   ·have e:bg ps (c+1) (.n k::st)=(x,st):=by unfold bg;rw [e1]
    rw [e];have op:=yL (w:=.ref W) S1 T.n1 e1
    have fp:=jL S1 T.n1 e1
    have eb:gh [some (.ref p),some (.ref W),o] h = .rt (.str x) h1:=by
     have i1:=nY x h1
     have ob:=S1.ob
     simp [gh,is1,po',op,ob,fp,i1,-bc,-aL,-aB]
    rw [ka cn eb,eh1]
   ·have e:bg ps (c+1) (.n k::st)=bg ps c (.n a :: .n b::st):=by rw [bg,e1]
    rw [e];have op:=yM S1 T.n1 e1 hW eW1 (by simp;lia)
    have e3':st.reverse.map uv++[.int b]++[.int a]=(.n a :: .n b::st:List Un).reverse.map uv:=by rw [hG,hG];rfl
    rw [e3'] at op;have eb:gh [some (.ref p),some (.ref W),o] h = .nx [some (.ref p),some (.ref W),some (.int k)] (h1.set W (.lst ((.n a :: .n b::st:List Un).reverse.map uv))):=by
     generalize h1.set W (.lst ((.n a :: .n b::st:List Un).reverse.map uv))=h2 at *;simp [gh,is1,po',op,-bc,-aL]
    rw [n9 cn eb];have hh:=congrArg Ms.ht e5
    rw [bQ] at hh;have a0:=A.ky.ht
    have b0:=B.ky.ht
    have r:=yN g hW c fu (.n a :: .n b::st) (h1.set W (.lst ((.n a :: .n b::st:List Un).reverse.map uv))) (some (.int k)) (eZ S1 hW _) (i4 A B ok) (by rw [c9 A];(clear a0 eb e3' op e e6 e5 e4 B A e3 e2 e1 T eh1 po' S1 eW1 cn is1 po nn eW ls ne hf ok S hW g;lia)) (by lia) (fun z=>by cases z) (by rw [Kk,Kk];lia) (Ko (aY eW1))
    rw [r,eh1,Lo,Lo]
theorem GR {h:AH} {p W:Nat} {ps:List Pc} {st:List Un} (S:ShelfAt h p ps) (g:Good ps) (hW:p+8<W) (ok:∀ u∈st,OkU ps u) (ls:st.length<=900000) (eW:h[W]? = some (.lst (st.reverse.map uv))) :
  kT [.ref p,.ref W] h = .ok (.str (bg ps 90 st).1) (h.set W (.lst ((bg ps 90 st).2.reverse.map uv))):=by
 by_cases q:st=[]
 ·subst q
  have nn:=mz eW
  have e:bg ps 90 []=((Str.ofString "" : Str),([]:List Un)):=rfl
  rw [e];have hs:h.set W (.lst (([]:List Un).reverse.map uv))=h:=by
   refine LY fun i=>?_
   by_cases q:W=i
   ·subst q;rw [Ko (aY eW),eW]
   ·exact Kr q
  rw [hs];have wl:∀ n,bF CN gh (n+1) [some (.ref p),some (.ref W),none] h = .nx [some (.ref p),some (.ref W),none] h:=fun n=>lq (by simp [nn,-aI])
  have wl':bF CN gh cf [some (.ref p),some (.ref W),none] h = .nx [some (.ref p),some (.ref W),none] h:=wl _
  unfold kT
  generalize bF CN gh cf=WL at *;simp [wl']
 ·have h82:=gI g ok
  have wl:=yN g hW 90 cf st h none S ok (by lia) (by decide) q (by lia) eW
  unfold kT
  generalize bF CN gh cf=WL at *;generalize h.set W (.lst ((bg ps 90 st).2.reverse.map uv))=HF at *;simp [wl]
end Sk
namespace Sk
open PySem PySem.Spec L2 Sm
theorem lA (j k:Nat) (h:AH):aH (.int j) (.int k) h = .ok (.bl (decide (j=k))) h:=by
 by_cases q:j=k
 ·subst q;simp
 ·have : ¬ (j:Int)=k:=by lia
  simp [q,this]
theorem GS (z:Str) (k:Nat) (h:AH):aH (.str z) (.int k) h = .ok (.bl false) h:=by
 show (match fX (.str z) (.int k) h with | some b=>Out.ok (AV.bl b) h | none=>Out.bad)=_
 have:fX (.str z) (.int k) h=some false:=by
  show some (PyData.eqv (.str z) (.int k))=_
  simp [PyData.eqv]
 rw [this]
def qf (W:Nat) (h:AH) (r:Option (List Un)) (o:dM):Prop:=match r with
 | some st' => o = .rt (.bl true) (h.set W (.lst (st'.reverse.map uv)))
 | none=>∃ (Z:List AV) (en:En),o = .rt (.bl false) (h.set W (.lst Z))\/o = .nx en (h.set W (.lst Z))
theorem yO {p W k:Nat} {ps:List Pc} (g:Good ps) (hW:p+8<W):∀ (c fuel:Nat) (st:List Un) (h:AH) (o:Option AV),ShelfAt h p ps->(∀ u∈st,OkU ps u)->hU ps st<=c->c<fuel->st.length+c<=1000000->h[W]? = some (.lst (st.reverse.map uv)) ->
  qf W h (bx ps k c st) (bF CN fP fuel [some (.ref p),some (.ref W),some (.int k),o] h)
 | c,0,st,h,o,S,ok,hc,hf,ls,eW=>absurd hf (Lz _)
 | c,fu+1,[],h,o,S,ok,hc,hf,ls,eW=>by
  have nn:=mz eW
  have e:bx ps k c []=none:=by cases c<;>rfl
  rw [e,lq (by simp [nn,-aI])]
  have hs:h.set W (.lst [])=h:=by
   refine LY fun i=>?_
   by_cases q:W=i
   ·subst q;rw [Ko (aY eW),eW];rfl
   ·exact Kr q
  exact ⟨[],_,.inr (by rw [hs])⟩
 | c,fu+1,.s z::st,h,o,S,ok,hc,hf,ls,eW=>by
  have nn:=kb eW
  rw [hG] at eW;have po:=fG eW
  have is1:aL (.ref W) h=true:=by simp [eW]
  have e:bx ps k c (.s z::st)=none:=by cases c<;>rfl
  rw [e];have cn:CN [some (.ref p),some (.ref W),some (.int k),o] h = .ok true h:=by simp [nn,-aI]
  have eb:fP [some (.ref p),some (.ref W),some (.int k),o] h = .rt (.bl false) (h.set W (.lst (st.reverse.map uv))):=by
   have po':bc (.ref W) [] h = .ok (.str z) (h.set W (.lst (st.reverse.map uv))):=po
   generalize h.set W (.lst (st.reverse.map uv))=h1 at *;have q:=GS z k h1
   have op:=t9 (h:=h1) (p:=p) (w:=.ref W) z
   simp [fP,is1,po',q,op,-bc,-aL,-aH]
  rw [ka cn eb];exact ⟨_,[],.inl rfl⟩
 | 0,fu+1,.n j::st,h,o,S,ok,hc,hf,ls,eW=>by
  cases ok _ (Km ..) with
  | @n _ m f l x T=>rw [c9 T] at hc;lia
 | c+1,fu+1,.n j::st,h,o,S,ok,hc,hf,ls,eW=>by
  have nn:=kb eW
  rw [hG] at eW;have po:=fG eW
  have is1:aL (.ref W) h=true:=by simp [eW]
  have po':bc (.ref W) [] h = .ok (.int j) (h.set W (.lst (st.reverse.map uv))):=po
  have cn:CN [some (.ref p),some (.ref W),some (.int k),o] h = .ok true h:=by simp [nn,-aI]
  have S1:ShelfAt (h.set W (.lst (st.reverse.map uv))) p ps:=eZ S hW _
  have eW1:(h.set W (.lst (st.reverse.map uv)))[W]? = some (.lst (st.reverse.map uv)):=Ko (aY eW)
  obtain ⟨h1,eh1⟩:∃ h1,h1=h.set W (.lst (st.reverse.map uv)):=⟨_,rfl⟩
  rw [<- eh1] at po' S1 eW1;have q0:=lA j k h1
  rw [bx];by_cases q:j=k
  ·rw [Ku q]
   rw [Ld q] at q0;have eb:fP [some (.ref p),some (.ref W),some (.int k),o] h = .rt (.bl true) h1:=by
    simp [fP,is1,po',q0,-bc,-aL,-aH]
   rw [ka cn eb,eh1];exact rfl
  ·rw [KF q]
   rw [KH q] at q0
   cases ok _ (Km ..) with
   | @n _ m f l x T =>
    rw [c9 T] at hc;rw [Kk] at ls;rcases g.kind T with ⟨e1,e2,e3,e4,e5⟩ | ⟨a,b,ma,mb,y,z,fa,la,fb,lb,e1,e2,e3,A,B,e4,e5,e6⟩
    ·have op:=yL (w:=.ref W) S1 T.n1 e1
     have eb:fP [some (.ref p),some (.ref W),some (.int k),o] h = .rt (.bl false) h1:=by
      simp [fP,is1,po',q0,op,-bc,-aL,-aH]
     rw [e1,ka cn eb,eh1];exact ⟨_,[],.inl rfl⟩
    ·have op:=yM S1 T.n1 e1 hW eW1 (by simp;lia)
     have e3':st.reverse.map uv++[.int b]++[.int a]=(.n a :: .n b::st:List Un).reverse.map uv:=by rw [hG,hG];rfl
     rw [e3'] at op;have eb:fP [some (.ref p),some (.ref W),some (.int k),o] h = .nx [some (.ref p),some (.ref W),some (.int k),some (.int j)] (h1.set W (.lst ((.n a :: .n b::st:List Un).reverse.map uv))):=by
      generalize h1.set W (.lst ((.n a :: .n b::st:List Un).reverse.map uv))=h2 at *;simp [fP,is1,po',q0,op,-bc,-aL,-aH]
     rw [e1,n9 cn eb];have hh:=congrArg Ms.ht e5
     rw [bQ] at hh;have a0:=A.ky.ht
     have b0:=B.ky.ht
     have r:=yO (k:=k) g hW c fu (.n a :: .n b::st) (h1.set W (.lst ((.n a :: .n b::st:List Un).reverse.map uv))) (some (.int j)) (eZ S1 hW _) (i4 A B ok) (by rw [c9 A];(clear a0 eb e3' op e6 e5 e4 B A e3 e2 e1 T q q0 eh1 po' S1 eW1 cn is1 po nn eW ls hf ok S hW g;lia)) (by lia) (by rw [Kk,Kk];lia) (Ko (aY eW1))
     rw [eh1,Lo] at r ⊢;show qf W h (bx ps k c (.n a :: .n b::st)) _
     cases ht:bx ps k c (.n a :: .n b::st) with
     | some st' =>
      rw [ht] at r;have r' := r
      unfold qf at r' ⊢
      rw [r',Lo]
     | none =>
      rw [ht] at r;obtain ⟨Z,en,r'⟩:=r
      rw [Lo] at r';exact ⟨Z,en,r'⟩
theorem GT {h:AH} {p W k:Nat} {ps:List Pc} {st:List Un} (S:ShelfAt h p ps) (g:Good ps) (hW:p+8<W) (ok:∀ u∈st,OkU ps u) (ls:st.length<=900000) (eW:h[W]? = some (.lst (st.reverse.map uv))) :
  (∃ st',bx ps k 90 st=some st'/\jG [.ref p,.ref W,.int k] h = .ok (.bl true) (h.set W (.lst (st'.reverse.map uv)))) \/
  (bx ps k 90 st=none/\∃ Z,jG [.ref p,.ref W,.int k] h = .ok (.bl false) (h.set W (.lst Z))):=by
 have h82:=gI g ok
 have r:=yO (k:=k) g hW 90 cf st h none S ok (by lia) (by decide) (by lia) eW
 cases ht:bx ps k 90 st with
 | some st' =>
  rw [ht] at r;unfold qf at r
  dsimp only at r
  refine .inl ⟨st',rfl,?_⟩
  unfold jG
  generalize bF CN fP cf=WL at *;generalize h.set W (.lst (st'.reverse.map uv))=HF at *;simp [r]
 | none =>
  rw [ht] at r;obtain ⟨Z,en,r | r⟩:=r
  ·refine .inr ⟨rfl,Z,?_⟩
   unfold jG
   generalize bF CN fP cf=WL at *;generalize h.set W (.lst Z)=HF at *;simp [r]
  ·refine .inr ⟨rfl,Z,?_⟩
   unfold jG
   generalize bF CN fP cf=WL at *;generalize h.set W (.lst Z)=HF at *;simp [r]
end Sk
namespace Sk
open PySem PySem.Spec L2 Sm
def da (z:Str) (st:List Un):List Un:=if z = "" then st else .s z::st
def d1 (ps:List Pc) (st:List Un):List Un:=da (bR (bg ps 90 st).1 1) (bg ps 90 st).2
def dN (ps:List Pc):Nat->List Un->List Un
 | 0,st=>st
 | m+1,st=>dN ps m (d1 ps st)
theorem ua (ps:List Pc):∀ (a b:Nat) (st:List Un),dN ps (a+b) st=dN ps b (dN ps a st)
 | 0,b,st=>by rw [L9];rfl
 | a+1,b,st=>by rw [Nat.add_right_comm,dN,dN,ua ps a b]
theorem zaZ {z:Str}:z = "" ↔ z.length=0:=by
 constructor
 ·rintro rfl;rfl
 ·intro h
  refine cW ?_
  rw [bK] at h;rw [LG.mp h];rfl
theorem yP (z:Str) (a b:Nat):bR (bR z a) b=bR z (a+b):=cW (by rw [gH,gH,gH,List.drop_drop])
theorem iO (ps:List Pc) (c:Nat) (z:Str) (st:List Un):bg ps c (.s z::st)=(z,st):=by cases c<;>rfl
theorem yQ (ps:List Pc):∀ (m:Nat) (z:Str) (st:List Un),m<=z.length->dN ps m (da z st)=da (bR z m) st
 | 0,z,st,_=>by rw [dN,t7]
 | m+1,z,st,h=>by
  have ne : ¬ z = "" := fun q=>by rw [zaZ] at q;lia
  have e:da z st = .s z::st:=KF ne
  rw [dN,d1,e,iO];show dN ps m (da (bR z 1) st)=_
  rw [yQ ps m _ _ (by rw [iL];lia),yP,LD]
theorem yR {ps:List Pc} {st st0:List Un} {z:Str} {m:Nat} (e:bg ps 90 st=(z,st0)) (m1:1<=m) (hm:m<=z.length):dN ps m st=da (bR z m) st0:=by
 obtain ⟨j,rfl⟩:∃ j,m=j+1:=⟨m-1,by lia⟩
 rw [dN,d1,e];show dN ps j (da (bR z 1) st0)=_
 rw [yQ ps j _ _ (by rw [iL];lia),yP,LD]
theorem yS (ps:List Pc) (z:Str) (st:List Un):aM ps (da z st)=z.cps.toList++aM ps st:=by
 unfold da
 split
 ·rename_i q;rw [q];rfl
 ·rfl
theorem qg {ps:List Pc} {z:Str} {st:List Un} (hz:z.length<=8) (ok:∀ u∈st,OkU ps u):∀ u∈da z st,OkU ps u:=by
 unfold da
 split
 ·exact ok
 ·rename_i q
  intro u hu
  rcases KJ.mp hu with rfl | hu
  ·exact .s (by rw [zaZ] at q;lia) hz
  ·exact ok u hu
theorem yT (z:Str) (st:List Un):(da z st).length<=st.length+1:=by
 unfold da
 split
 ·lia
 ·rw [Kk];lia
def dI (ps:List Pc):Nat->Str->List Un->Option (List Un)
 | 0,_,_=>none
 | c+1,w,st=>if w = "" then some st else
   if min (bg ps 90 st).1.length w.length=0 \/ ¬ bO (bg ps 90 st).1 (min (bg ps 90 st).1.length w.length)=bO w (min (bg ps 90 st).1.length w.length) then none else
    dI ps c (bR w (min (bg ps 90 st).1.length w.length)) (da (bR (bg ps 90 st).1 (min (bg ps 90 st).1.length w.length)) (bg ps 90 st).2)
structure ub (ps:List Pc) (w:Str) (st st':List Un) (c:Nat):Prop where
 rd:aM ps st=w.cps.toList++aM ps st'
 ok:∀ u∈st',OkU ps u
 ln:st'.length<=st.length+91*c
 dn:st'=dN ps w.length st
theorem oh {ps:List Pc} (g:Good ps):∀ (c:Nat) {w:Str} {st st':List Un},(∀ u∈st,OkU ps u)->dI ps c w st=some st'->ub ps w st st' c
 | 0,w,st,st',_,h=>by cases h
 | c+1,w,st,st',ok,h=>by
  rw [dI] at h;by_cases q:w = ""
  ·rw [Ku q] at h
   cases h
   subst q;exact ⟨rfl,ok,by lia,rfl⟩
  ·rw [KF q] at h
   have N:=mv g 90 st ok (by have:=gI g ok;lia)
   obtain ⟨z,st0,e⟩:∃ z st0,bg ps 90 st=(z,st0):=⟨_,_,rfl⟩
   rw [e] at h N;dsimp only at h
   obtain ⟨m,em⟩:∃ m,m=min z.length w.length:=⟨_,rfl⟩
   rw [<- em] at h;by_cases q2:m=0 \/ ¬ bO z m=bO w m
   ·rw [Ku q2] at h;cases h
   ·rw [KF q2] at h
    have m0 : ¬ m=0:=fun z=>q2 (.inl z)
    have tq:bO z m=bO w m:=Decidable.byContradiction fun z=>q2 (.inr z)
    have sn:st≠[]:=fun z0=>by
     have:=N.z0 z0
     cases this
     have:("" : Str).length=0:=rfl
     lia
    have zb:=N.z1 sn
    dsimp only at zb
    have okp:=qg (z:=bR z m) (st:=st0) (by rw [iL];lia) N.ok
    have r:=oh g c okp h
    have rd:=N.rd
    dsimp only at rd
    have nl:=N.ln
    dsimp only at nl
    have pl:=yT (bR z m) st0
    have ct:∀ v:Str,v.cps.toList=(bO v m).cps.toList++(bR v m).cps.toList:=fun v=>by rw [iK,gH,Md]
    refine ⟨?_,r.ok,by have:=r.ln;lia,?_⟩
    ·have r1:=r.rd
     rw [yS] at r1;rw [rd,ct z,tq,ct w,KN,KN,r1]
    ·rw [r.dn,<- yR e (by lia) (by lia),<- ua,iL]
     congr 1
     lia
theorem GU {a b c d:List Nat} (e:a++b=c++d) {m:Nat} (h1:m<=a.length) (h2:m<=c.length):a.take m=c.take m/\a.drop m++b=c.drop m++d:=by
 have t:=congrArg (List.take m) e
 rw [L7 h1,L7 h2] at t;have u:=congrArg (List.drop m) e
 rw [MG h1,MG h2] at u;exact ⟨t,u⟩
theorem yU {ps:List Pc} (g:Good ps):∀ (c:Nat) {w:Str} {st:List Un} {r:List Nat},(∀ u∈st,OkU ps u)->aM ps st=w.cps.toList++r->w.length<c->∃ st',dI ps c w st=some st'
 | 0,w,st,r,_,_,h=>absurd h (Lz _)
 | c+1,w,st,r,ok,rd,hc=>by
  rw [dI];by_cases q:w = ""
  ·rw [Ku q];exact ⟨_,rfl⟩
  ·rw [KF q]
   have w1:1<=w.length:=by rw [zaZ] at q;lia
   have N:=mv g 90 st ok (by have:=gI g ok;lia)
   obtain ⟨z,st0,e⟩:∃ z st0,bg ps 90 st=(z,st0):=⟨_,_,rfl⟩
   rw [e] at N ⊢;dsimp only;have sn:st≠[]:=fun z0=>by
    rw [z0] at rd;have:=congrArg List.length rd
    rw [Kq,<- bK] at this;have:(aM ps []).length=0:=rfl
    lia
   have zb:=N.z1 sn
   dsimp only at zb
   have rd2:=N.rd
   dsimp only at rd2
   obtain ⟨m,em⟩:∃ m,m=min z.length w.length:=⟨_,rfl⟩
   rw [<- em];have lz:=bK z
   have lw:=bK w
   obtain ⟨t1,t2⟩:=GU (rd2.symm.trans rd) (m:=m) (by lia) (by lia)
   have tq:bO z m=bO w m:=cW t1
   rw [KF (by
    rintro (z0 | z0)
    ·lia
    ·exact z0 tq)]
   refine yU g c (r:=r) (qg (by rw [iL];lia) N.ok) ?_ (by rw [iL];lia)
   rw [yS,gH,gH];exact t2
theorem uc {ps:List Pc} (g:Good ps) {c:Nat} {w:Str} {st:List Un} {r:List Nat} (ok:∀ u∈st,OkU ps u) (rd:aM ps st=w.cps.toList++r) (hc:w.length<c):dI ps c w st=some (dN ps w.length st):=by
 obtain ⟨st',e⟩:=yU g c ok rd hc
 rw [e,(oh g c ok e).dn]
end Sk
namespace Sk
open PySem PySem.Spec L2 Sm
theorem qh {h:AH} {W:Nat} {o:AO} (e:h[W]? = some o):h.set W o=h:=by
 refine LY fun i=>?_
 by_cases q:W=i
 ·subst q;rw [Ko (aY e),e]
 ·exact Kr q
theorem GV {h:AH} {W:Nat} {st:List Un} (z:Str) (eW:h[W]? = some (.lst (st.reverse.map uv))) (ls:st.length<=1000000):nM [.ref W,.str z] h = .ok .non (h.set W (.lst ((da z st).reverse.map uv))):=by
 unfold da
 by_cases q:z = ""
 ·rw [Ku q,qh eW]
  have ne:aI (.str z) (.str "") h = .ok (.bl false) h:=by rw [q];simp
  simp [nM,ne,-aI]
 ·rw [KF q,hG]
  have ne:aI (.str z) (.str "") h = .ok (.bl true) h:=by simp [q]
  have l1:(st.reverse.map uv).length<sizeLine:=KA (m:=1000000) (by simpa using ls) (by decide)
  have ap:bo (.ref W) [.str z] h = .ok .non (h.set W (.lst (st.reverse.map uv++[.str z]))):=by simp only [bo,eW,l1,Lp]
  have is1:aL (.ref W) h=true:=by simp [eW]
  show _=Out.ok AV.non (h.set W (.lst (st.reverse.map uv++[.str z])))
  generalize h.set W (.lst (st.reverse.map uv++[.str z]))=HF at *;simp [nM,ne,is1,ap,-aI,-aL,-bo]
abbrev CP:SB:=aQ (ah aI (ae 3) (ai (.str "")))
def GW (W:Nat) (h:AH) (p:Nat) (w0:Str) (r:Option (List Un)) (o:dM):Prop:=match r with
 | some st' => ∃ o3 o4 o5,o = .nx [some (.ref p),some (.ref W),some (.str w0),o3,o4,o5] (h.set W (.lst (st'.reverse.map uv)))
 | none=>∃ Z,o = .rt (.bl false) (h.set W (.lst Z))
theorem yV {p W:Nat} {ps:List Pc} (g:Good ps) (hW:p+8<W) (w0:Str):∀ (c fuel:Nat) (w:Str) (st:List Un) (h:AH) (o4 o5:Option AV),ShelfAt h p ps->(∀ u∈st,OkU ps u)->w.length<c->c<=fuel->st.length+91*c<=900000->h[W]? = some (.lst (st.reverse.map uv)) ->
  GW W h p w0 (dI ps c w st) (bF CP gi fuel [some (.ref p),some (.ref W),some (.str w0),some (.str w),o4,o5] h)
 | 0,fuel,w,st,h,o4,o5,S,ok,hc,hf,ls,eW=>absurd hc (Lz _)
 | c+1,0,w,st,h,o4,o5,S,ok,hc,hf,ls,eW=>by lia
 | c+1,fu+1,w,st,h,o4,o5,S,ok,hc,hf,ls,eW=>by
  rw [dI];by_cases q:w = ""
  ·have ne:aI (.str w) (.str "") h = .ok (.bl false) h:=by rw [q];simp
   rw [Ku q,lq (by simp [ne,-aI])]
   exact ⟨_,_,_,by rw [qh eW]⟩
  ·have ne:aI (.str w) (.str "") h = .ok (.bl true) h:=by simp [q]
   have cn:CP [some (.ref p),some (.ref W),some (.str w0),some (.str w),o4,o5] h = .ok true h:=by simp [ne,-aI]
   rw [KF q];have w1:1<=w.length:=by rw [zaZ] at q;lia
   have N:=mv g 90 st ok (by have:=gI g ok;lia)
   have fn:=GR S g hW ok (by (clear N w1 cn ne q eW hf hc ok S hW g;lia)) eW
   obtain ⟨z,st0,e⟩:∃ z st0,bg ps 90 st=(z,st0):=⟨_,_,rfl⟩
   rw [e] at N fn ⊢;dsimp only at fn ⊢
   have nl:=N.ln
   dsimp only at nl
   obtain ⟨m,em⟩:∃ m,m=min z.length w.length:=⟨_,rfl⟩
   rw [<- em];have S1:ShelfAt (h.set W (.lst (st0.reverse.map uv))) p ps:=eZ S hW _
   have eW1:(h.set W (.lst (st0.reverse.map uv)))[W]? = some (.lst (st0.reverse.map uv)):=Ko (aY eW)
   obtain ⟨h1,eh1⟩:∃ h1,h1=h.set W (.lst (st0.reverse.map uv)):=⟨_,rfl⟩
   rw [<- eh1] at fn S1 eW1;have l1:az [.str z] h1 = .ok (.int z.length) h1:=rfl
   have l2:az [.str w] h1 = .ok (.int w.length) h1:=rfl
   have mn:iC [.int z.length,.int w.length] h1 = .ok (.int m) h1:=by
    have:iC [.int z.length,.int w.length] h1 = .ok (.int (if (w.length:Int)<z.length then (w.length:Int) else z.length)) h1:=rfl
    rw [this];by_cases q:w.length<z.length
    ·rw [Ku (by lia)];congr 2;lia
    ·rw [KF (by lia)];congr 2;lia
   have eq0:=lA m 0 h1
   have eq0':aH (.int m) (.int 0) h1 = .ok (.bl (decide (m=0))) h1:=eq0
   have c1:=qd (x:=z) (a:=m) h1
   have c2:=qd (x:=w) (a:=m) h1
   have c3:∀ hh,cG (.str z) (some (m:Int)) none hh = .ok (.str (bR z m)) hh:=qe (by lia)
   have c4:∀ hh,cG (.str w) (some (m:Int)) none hh = .ok (.str (bR w m)) hh:=qe (by lia)
   by_cases q1:m=0
   ·rw [Ku (.inl q1)]
    rw [Ld q1] at eq0';have eb:gi [some (.ref p),some (.ref W),some (.str w0),some (.str w),o4,o5] h = .rt (.bl false) h1:=by
     generalize (z.length:Int)=ZL at *;generalize (w.length:Int)=WL at *;generalize (m:Int)=MM at *;simp [gi,fn,l1,l2,mn,eq0',-az,-iC,-aH]
    rw [ka cn eb,eh1];exact ⟨_,rfl⟩
   ·rw [KH q1] at eq0'
    by_cases q2:bO z m=bO w m
    ·rw [KF (by rintro (a | a);exact q1 a;exact a q2)]
     have n2:aI (.str (bO z m)) (.str (bO w m)) h1 = .ok (.bl false) h1:=by rw [q2];simp
     have pb:=GV (bR z m) eW1 (by lia)
     have sn:st≠[]:=fun z0=>by
      have:=N.z0 z0
      cases this
      have:("" : Str).length=0:=rfl
      lia
     have zb:=N.z1 sn
     dsimp only at zb
     have pl:=yT (bR z m) st0
     obtain ⟨h2,eh2⟩:∃ h2,h2=h1.set W (.lst ((da (bR z m) st0).reverse.map uv)):=⟨_,rfl⟩
     have S2:ShelfAt h2 p ps:=by rw [eh2];exact eZ S1 hW _
     have eW2:h2[W]? = some (.lst ((da (bR z m) st0).reverse.map uv)):=by rw [eh2];exact Ko (aY eW1)
     rw [<- eh2] at pb;have eb:gi [some (.ref p),some (.ref W),some (.str w0),some (.str w),o4,o5] h = .nx [some (.ref p),some (.ref W),some (.str w0),some (.str (bR w m)),some (.str z),some (.int m)] h2:=by
      generalize (z.length:Int)=ZL at *;generalize (w.length:Int)=WL at *;generalize (m:Int)=MM at *;simp [gi,fn,l1,l2,mn,eq0',c1,c2,c3,c4,n2,pb,-az,-iC,-aH,-aI,-cG]
     rw [n9 cn eb];have r:=yV g hW w0 c fu (bR w m) (da (bR z m) st0) h2 (some (.str z)) (some (.int m)) S2 (qg (by rw [iL];lia) N.ok) (by rw [iL];lia) (by lia) (by lia) eW2
     cases ht:dI ps c (bR w m) (da (bR z m) st0) with
     | some st' =>
      rw [ht] at r;obtain ⟨a,b,d,r⟩:=r
      exact ⟨a,b,d,by rw [r,eh2,eh1,Lo,Lo]⟩
     | none =>
      rw [ht] at r;obtain ⟨Z,r⟩:=r
      exact ⟨Z,by rw [r,eh2,eh1,Lo,Lo]⟩
    ·rw [Ku (.inr q2)]
     have n2:aI (.str (bO z m)) (.str (bO w m)) h1 = .ok (.bl true) h1:=by simp [q2]
     have eb:gi [some (.ref p),some (.ref W),some (.str w0),some (.str w),o4,o5] h = .rt (.bl false) h1:=by
      generalize (z.length:Int)=ZL at *;generalize (w.length:Int)=WL at *;generalize (m:Int)=MM at *;simp [gi,fn,l1,l2,mn,eq0',c1,c2,n2,-az,-iC,-aH,-aI,-cG]
     rw [ka cn eb,eh1];exact ⟨_,rfl⟩
theorem GY {h:AH} {p W:Nat} {ps:List Pc} {st:List Un} {w:Str} (S:ShelfAt h p ps) (g:Good ps) (hW:p+8<W) (ok:∀ u∈st,OkU ps u) (ls:st.length<=890000) (hw:w.length<=8) (eW:h[W]? = some (.lst (st.reverse.map uv))) :
  (∃ st',dI ps 10 w st=some st'/\j5 [.ref p,.ref W,.str w] h = .ok (.bl true) (h.set W (.lst (st'.reverse.map uv)))) \/
  (dI ps 10 w st=none/\∃ Z,j5 [.ref p,.ref W,.str w] h = .ok (.bl false) (h.set W (.lst Z))):=by
 have r:=yV g hW w 10 cf w st h none none S ok (by lia) (by decide) (by lia) eW
 cases ht:dI ps 10 w st with
 | some st' =>
  rw [ht] at r;obtain ⟨a,b,d,r⟩:=r
  refine .inl ⟨st',rfl,?_⟩
  unfold j5
  generalize bF CP gi cf=WL at *;generalize h.set W (.lst (st'.reverse.map uv))=HF at *;simp [r]
 | none =>
  rw [ht] at r;obtain ⟨Z,r⟩:=r
  refine .inr ⟨rfl,Z,?_⟩
  unfold j5
  generalize bF CP gi cf=WL at *;generalize h.set W (.lst Z)=HF at *;simp [r]
end Sk
namespace Sk
open PySem PySem.Spec L2 Sm
inductive OkI (ps:List Pc):Un->Prop
 | n {k:Nat} {m f l:Ms} {x:Str} (T:Tx ps k m x f l):OkI ps (.n k)
 | s {z:Str} (a:dS z=true):OkI ps (.s z)
inductive cL (ps:List Pc):Un->Prop
 | n {k:Nat} (k1:1<=k):cL ps (.n k)
 | s {z:Str} (a:dS z=true):cL ps (.s z)
theorem OkI.j {ps:List Pc} {u:Un} (o:OkI ps u):cL ps u:=by
 cases o with
 | n T=>exact .n T.n1
 | s a=>exact .s a
theorem yW {ps:List Pc} (g:Good ps) {k:Nat} (hk:ps.length<k):∀ (c:Nat) (st:List Un),(∀ u∈st,OkU ps u)->bx ps k c st=none
 | 0,[],_=>rfl
 | 0,.s _::_,_=>rfl
 | 0,.n _::_,_=>rfl
 | c+1,[],_=>rfl
 | c+1,.s _::_,_=>rfl
 | c+1,.n j::st,ok=>by
  cases ok _ (Km ..) with
  | @n _ m f l x T =>
   have:=T.le
   rw [bx,KF (by lia)]
   rcases g.kind T with ⟨e,_⟩ | ⟨a,b,ma,mb,y,z,fa,la,fb,lb,e,e2,_,A,B,_⟩
   ·rw [e]
   ·rw [e]
    exact yW g hk c _ (i4 A B ok)
def fH (ps:List Pc):Un->List Un->Option (List Un)
 | .n k,st=>bx ps k 90 st
 | .s w,st=>dI ps 10 w st
def bG (ps:List Pc):List Un->List Un->Option (List Un)
 | [],st=>some st
 | i::r,st=>(fH ps i st).bind (bG ps r)
theorem ue (ps:List Pc):∀ (a b:List Un) (st:List Un),bG ps (a++b) st=(bG ps a st).bind (bG ps b)
 | [],b,st=>rfl
 | i::a,b,st=>by
  rw [L5,bG,bG]
  cases fH ps i st with
  | none=>rfl
  | some s=>exact ue ps a b s
theorem oj {ps:List Pc} (g:Good ps) {i:Un} {st st':List Un} (ok:∀ u∈st,OkU ps u) (e:fH ps i st=some st'):aM ps st=iM ps i++aM ps st'/\(∀ u∈st',OkU ps u)/\st'.length<=st.length+1000:=by
 cases i with
 | n k =>
  obtain ⟨a,b,c⟩:=yJ g 90 ok e
  exact ⟨a,b,by lia⟩
 | s w =>
  have r:=oh g 10 ok e
  exact ⟨r.rd,r.ok,by have:=r.ln;lia⟩
theorem uf {ps:List Pc} (g:Good ps):∀ (its:List Un) {st st':List Un},(∀ u∈st,OkU ps u)->bG ps its st=some st'->aM ps st=aM ps its++aM ps st'/\(∀ u∈st',OkU ps u)
 | [],st,st',ok,e=>by cases e;exact ⟨rfl,ok⟩
 | i::its,st,st',ok,e=>by
  rw [bG] at e;obtain ⟨s1,e1,e2⟩:=Ni.mp e
  obtain ⟨a,b,_⟩:=oj g ok e1
  obtain ⟨c,d⟩:=uf g its b e2
  exact ⟨by rw [a,c,aM,KN],d⟩
theorem GZ {h:AH} {p W:Nat} {ps:List Pc} {st:List Un} {i:Un} (S:ShelfAt h p ps) (g:Good ps) (hW:p+8<W) (ok:∀ u∈st,OkU ps u) (oi:cL ps i) (ls:st.length<=890000) (eW:h[W]? = some (.lst (st.reverse.map uv))) :
  (∃ st',fH ps i st=some st'/\fE [.ref p,.ref W,uv i] h = .ok (.bl true) (h.set W (.lst (st'.reverse.map uv)))) \/
  (fH ps i st=none/\∃ Z,fE [.ref p,.ref W,uv i] h = .ok (.bl false) (h.set W (.lst Z))):=by
 have ob:=S.ob
 cases oi with
 | @n k k1 =>
  by_cases hk:k<=ps.length
  case neg =>
   have hp:gY [.ref p,.int k] h = .ok (.bl false) h:=by
    rw [nR S];rw [KH (by lia)]
   have sh:iG [.int k] h = .ok (.bl false) h:=by simp [iG,kP]
   refine .inr ⟨yW g (by lia) 90 st ok,st.reverse.map uv,?_⟩
   rw [qh eW];simp [fE,ob,hp,sh]
  have hp:gY [.ref p,.int k] h = .ok (.bl true) h:=by
   rw [nR S];rw [Ld (by lia)]
  show (∃ st',bx ps k 90 st=some st'/\fE [.ref p,.ref W,.int k] h=_)\/(bx ps k 90 st=none/\∃ Z,fE [.ref p,.ref W,.int k] h=_)
  rcases GT (k:=k) S g hW ok (by lia) eW with ⟨st',a,b⟩ | ⟨a,Z,b⟩
  ·refine .inl ⟨st',a,?_⟩
   generalize h.set W (.lst (st'.reverse.map uv))=HF at *;simp [fE,ob,hp,b]
  ·refine .inr ⟨a,Z,?_⟩
   generalize h.set W (.lst Z)=HF at *;simp [fE,ob,hp,b]
 | @s w a =>
  obtain ⟨w1,w8,_⟩:=gF a
  have hp:gY [.ref p,.str w] h = .ok (.bl false) h:=by
   simp [gY,l9,ob]
  have sh:iG [.str w] h = .ok (.bl true) h:=by rw [pR w h (Kn w8 (by decide)),a]
  show (∃ st',dI ps 10 w st=some st'/\fE [.ref p,.ref W,.str w] h=_)\/(dI ps 10 w st=none/\∃ Z,fE [.ref p,.ref W,.str w] h=_)
  rcases GY (w:=w) S g hW ok ls w8 eW with ⟨st',a,b⟩ | ⟨a,Z,b⟩
  ·refine .inl ⟨st',a,?_⟩
   generalize h.set W (.lst (st'.reverse.map uv))=HF at *;simp [fE,ob,hp,sh,b]
  ·refine .inr ⟨a,Z,?_⟩
   generalize h.set W (.lst Z)=HF at *;simp [fE,ob,hp,sh,b]
inductive SrcI (h:AH) (its:List Un):AV->Option Nat->Prop
 | ref {B:Nat} (e:h[B]? = some (.lst (its.map uv))):SrcI h its (.ref B) (some B)
 | fl:SrcI h its (.fl (its.map uv)) none
theorem SrcI.live {h:AH} {its:List Un} {v:AV} {w:Option Nat} (s:SrcI h its v w) {hh:AH} (k:∀ i,i<h.length->hh[i]? = h[i]?):cP w (its.map uv) hh=true:=by
 cases s with
 | ref e=>simp [k _ (aY e),e]
 | fl=>rfl
theorem SrcI.mono {h hh:AH} {its:List Un} {v:AV} {w:Option Nat} (s:SrcI h its v w) (k:∀ i,i<h.length->hh[i]? = h[i]?):SrcI hh its v w:=by
 cases s with
 | ref e=>exact .ref ((k _ (aY e)).trans e)
 | fl=>exact .fl
def Bd (ps:List Pc) (H:Nat):List Un->Prop
 | []=>True
 | u::r=>r.length+hU ps (u::r)<=H/\Bd ps H r
theorem Bd.len {ps:List Pc} {H:Nat} {st:List Un} (b:Bd ps H st):st.length<=H+1:=by
 cases st with
 | nil=>exact KS _
 | cons u r =>
  have:=b.1
  rw [Kk];lia
theorem yX {ps:List Pc} {H j a b:Nat} {m ma mb f l fa la fb lb:Ms} {x y z:Str} {r:List Un} (T:Tx ps j m x f l) (A:Tx ps a ma y fa la) (B:Tx ps b mb z fb lb) (e5:m=i3 ma mb) (h:Bd ps H (.n j::r)):Bd ps H (.n a :: .n b::r):=by
 have h1:=h.1
 rw [c9 T] at h1;have hh:=congrArg Ms.ht e5
 rw [bQ] at hh;have a0:=A.ky.ht
 have b0:=B.ky.ht
 refine ⟨?_,?_,h.2⟩
 ·rw [c9 A,Kk];omega
 ·rw [c9 B];omega
theorem yY {ps:List Pc} (g:Good ps) {H:Nat}:∀ (c:Nat) (st:List Un),(∀ u∈st,OkU ps u)->hU ps st<=c->Bd ps H st->Bd ps H (bg ps c st).2/\(bg ps c st).2.length<=H
 | c,[],ok,_,b=>by
  have e:bg ps c []=((Str.ofString "" : Str),([]:List Un)):=by cases c<;>rfl
  rw [e];exact ⟨trivial,KS _⟩
 | c,.s z::st,ok,_,b=>by
  rw [iO];have:=b.1
  exact ⟨b.2,by show st.length<=H;lia⟩
 | 0,.n k::st,ok,h,b=>by
  cases ok _ (Km ..) with
  | @n _ m f l x T=>rw [c9 T] at h;lia
 | c+1,.n k::st,ok,h,b=>by
  cases ok _ (Km ..) with
  | @n _ m f l x T =>
   have h' := h
   rw [c9 T] at h';rcases g.kind T with ⟨e1,e2,e3,e4,e5⟩ | ⟨a,d,ma,mb,y,z,fa,la,fb,lb,e1,e2,e3,A,B,e4,e5,e6⟩
   ·have e:bg ps (c+1) (.n k::st)=(x,st):=by unfold bg;rw [e1]
    rw [e];have:=b.1
    exact ⟨b.2,by show st.length<=H;lia⟩
   ·have e:bg ps (c+1) (.n k::st)=bg ps c (.n a :: .n d::st):=by rw [bg,e1]
    rw [e];have hh:=congrArg Ms.ht e5
    rw [bQ] at hh;have a0:=A.ky.ht
    have b0:=B.ky.ht
    exact yY g c (.n a :: .n d::st) (i4 A B ok) (by rw [c9 A];lia) (yX T A B e5 b)
theorem yZ {ps:List Pc} (g:Good ps) {H k:Nat}:∀ (c:Nat) {st st':List Un},(∀ u∈st,OkU ps u)->bx ps k c st=some st'->Bd ps H st->Bd ps H st'
 | 0,[],st',_,h,_=>by cases h
 | 0,.s _::_,st',_,h,_=>by cases h
 | 0,.n _::_,st',_,h,_=>by cases h
 | c+1,[],st',_,h,_=>by cases h
 | c+1,.s _::_,st',_,h,_=>by cases h
 | c+1,.n j::st,st',ok,h,b=>by
  rw [bx] at h;by_cases q:j=k
  ·rw [Ku q] at h
   cases h
   exact b.2
  ·rw [KF q] at h
   cases ok _ (Km ..) with
   | @n _ m f l x T =>
    rcases g.kind T with ⟨e1,_⟩ | ⟨a,d,ma,mb,y,z,fa,la,fb,lb,e1,e2,e3,A,B,e4,e5,e6⟩
    ·rw [e1] at h;cases h
    ·rw [e1] at h
     exact yZ g c (i4 A B ok) h (yX T A B e5 b)
theorem G0 {ps:List Pc} {H:Nat} {z:Str} {st:List Un} (b:Bd ps H st) (h:st.length<=H):Bd ps H (da z st):=by
 unfold da
 split
 ·exact b
 ·exact ⟨h,b⟩
theorem y0 {ps:List Pc} (g:Good ps) {H:Nat}:∀ (c:Nat) {w:Str} {st st':List Un},(∀ u∈st,OkU ps u)->dI ps c w st=some st'->Bd ps H st->Bd ps H st'
 | 0,w,st,st',_,h,_=>by cases h
 | c+1,w,st,st',ok,h,b=>by
  rw [dI] at h;by_cases q:w = ""
  ·rw [Ku q] at h
   cases h
   exact b
  ·rw [KF q] at h
   have N:=mv g 90 st ok (by have:=gI g ok;lia)
   have M:=yY (H:=H) g 90 st ok (by have:=gI g ok;lia) b
   obtain ⟨z,st0,e⟩:∃ z st0,bg ps 90 st=(z,st0):=⟨_,_,rfl⟩
   rw [e] at h N M;dsimp only at h M
   obtain ⟨m,em⟩:∃ m,m=min z.length w.length:=⟨_,rfl⟩
   rw [<- em] at h;by_cases q2:m=0 \/ ¬ bO z m=bO w m
   ·rw [Ku q2] at h;cases h
   ·rw [KF q2] at h
    have m0 : ¬ m=0:=fun z=>q2 (.inl z)
    have sn:st≠[]:=fun z0=>by
     have:=N.z0 z0
     cases this
     have:("" : Str).length=0:=rfl
     lia
    have zb:=N.z1 sn
    dsimp only at zb
    exact y0 g c (qg (by rw [iL];lia) N.ok) h (G0 M.1 M.2)
theorem G5 {ps:List Pc} (g:Good ps) {H:Nat} {i:Un} {st st':List Un} (ok:∀ u∈st,OkU ps u) (e:fH ps i st=some st') (b:Bd ps H st):Bd ps H st' := by
 cases i with
 | n k=>exact yZ g 90 ok e b
 | s w=>exact y0 g 10 ok e b
def ug (W:Nat) (hh:AH) (e0:Option AV->En) (r:Option (List Un)) (o:dM):Prop:=match r with
 | some st' => ∃ o4,o = .nx (e0 o4) (hh.set W (.lst (st'.reverse.map uv)))
 | none=>∃ Z,o = .rt .non (hh.set W (.lst Z))
theorem y3 {h:AH} {p t:Nat} {ps:List Pc} {all:List Un} {v:AV} {w:Option Nat} (S:ShelfAt h p ps) (g:Good ps) (sr:SrcI h all v w) (hW:p+8<h.length):∀ (its:List Un) (st:List Un) (hh:AH) (o4:Option AV),(∀ i∈its,cL ps i)->(∀ u∈st,OkU ps u)->Bd ps 83 st->ShelfAt hh p ps ->
  (∀ i,i<h.length->hh[i]? = h[i]?)->hh[h.length]? = some (.lst (st.reverse.map uv)) ->
  ug h.length hh (fun o=>[some (.ref p),some (.int t),some v,some (.ref h.length),o]) (bG ps its st) (cH w (all.map uv) (.nm 4) fQ (its.map uv) [some (.ref p),some (.int t),some v,some (.ref h.length),o4] hh)
 | [],st,hh,o4,oi,ok,bd,S',k,eW=>by
  unfold cH
  rw [Nr];dsimp only;rw [Ku (sr.live k)];exact ⟨o4,by rw [qh eW]⟩
 | i::its,st,hh,o4,oi,ok,bd,S',k,eW=>by
  have bl:=bd.len
  rw [KY];unfold cH
  rw [Ku (sr.live k)];have st1:dB (.nm 4) (uv i) [some (.ref p),some (.int t),some v,some (.ref h.length),o4]=some [some (.ref p),some (.int t),some v,some (.ref h.length),some (uv i)]:=rfl
  rw [st1];dsimp only;rw [bG];rcases GZ S' g hW ok (oi i (Km ..)) (by lia) eW with ⟨st',a,e⟩ | ⟨a,Z,e⟩
  ·rw [a]
   show ug h.length hh _ (bG ps its st') _
   have eb:fQ [some (.ref p),some (.int t),some v,some (.ref h.length),some (uv i)] hh = .nx [some (.ref p),some (.int t),some v,some (.ref h.length),some (uv i)] (hh.set h.length (.lst (st'.reverse.map uv))):=by
    generalize hh.set h.length (.lst (st'.reverse.map uv))=HF at *;generalize uv i=I at *;simp [fQ,e]
   rw [eb];dsimp only;have r:=y3 (t:=t) S g sr hW its st' (hh.set h.length (.lst (st'.reverse.map uv))) (some (uv i)) (fun j hj=>oi j (Kp _ hj)) (oj g ok a).2.1 (G5 g ok a bd) (eZ S' hW _) (fun j hj=>by rw [Kr (by lia)];exact k j hj) (Ko (aY eW))
   cases ht:bG ps its st' with
   | some s2 =>
    rw [ht] at r;obtain ⟨o,r⟩:=r
    exact ⟨o,by rw [r,Lo]⟩
   | none =>
    rw [ht] at r;obtain ⟨Z,r⟩:=r
    exact ⟨Z,by rw [r,Lo]⟩
  ·rw [a]
   show ug h.length hh _ none _
   have eb:fQ [some (.ref p),some (.int t),some v,some (.ref h.length),some (uv i)] hh = .rt .non (hh.set h.length (.lst Z)):=by
    generalize hh.set h.length (.lst Z)=HF at *;generalize uv i=I at *;simp [fQ,e]
   rw [eb];exact ⟨Z,rfl⟩
theorem y4 {h:AH} {p t:Nat} {ps:List Pc} {its:List Un} {v:AV} {w:Option Nat} {m f l:Ms} {x:Str} (S:ShelfAt h p ps) (g:Good ps) (T:Tx ps t m x f l) (sr:SrcI h its v w) (oi:∀ i∈its,cL ps i) :
  (∃ st',bG ps its [.n t]=some st'/\gD [.ref p,.int t,v] h = .ok (.ref h.length) (h++[.lst (st'.reverse.map uv)])) \/
  (bG ps its [.n t]=none/\∃ Z,gD [.ref p,.int t,v] h = .ok .non (h++[.lst Z])):=by
 have hW:p+8<h.length:=aY S.h8
 have t1:=T.n1
 have t0:aH (.int t) (.int 0) h = .ok (.bl false) h:=by
  have:=lA t 0 h
  rw [KH (by lia)] at this
  exact this
 have ck:ik [.ref p,.int t] h = .ok .non h:=lg S (by have:=T.le;lia)
 have wl:mm [.ref p,.int t] h = .ok (.ref h.length) (h++[.lst [.int t]]):=by
  simp [mm,S.ob,ck,t0,-aH]
 have ok0:∀ u∈([.n t]:List Un),OkU ps u:=fun u hu=>by rw [K3] at hu;subst hu;exact .n T
 have bd0:Bd ps 83 [.n t]:=⟨by have:=gI g ok0;show 0+_<=_;lia,trivial⟩
 have kk:∀ i,i<h.length->(h++[AO.lst [.int t]])[i]? = h[i]? := fun i hi=>Ki hi
 have eW:(h++[AO.lst [.int t]])[h.length]? = some (.lst (([.n t]:List Un).reverse.map uv)):=by simp
 have r:=y3 (t:=t) S g sr hW its [.n t] (h++[.lst [.int t]]) none oi ok0 bd0 (S.app _) kk eW
 have it:aK (ae 2) [some (.ref p),some (.int t),some v,some (.ref h.length),none] (h++[.lst [.int t]]) = .ok (its.map uv,w) (h++[.lst [.int t]]):=by
  have sr' := sr.mono kk
  cases sr' with
  | ref e=>simp [e]
  | fl =>
   generalize its.map uv=Q at *;simp
 have fo:=g8 (t:=.nm 4) (b:=fQ) it
 cases ht:bG ps its [.n t] with
 | some st' =>
  rw [ht] at r;obtain ⟨o,r⟩:=r
  refine .inl ⟨st',rfl,?_⟩
  have fo' := fo.trans r
  have es:(h++[AO.lst [.int t]]).set h.length (.lst (st'.reverse.map uv))=h++[.lst (st'.reverse.map uv)]:=by simp
  rw [es] at fo';unfold gD
  generalize bf (aK (ae 2)) (.nm 4) fQ=FF at *;generalize h++[.lst (st'.reverse.map uv)]=HF at *;simp [wl,fo']
 | none =>
  rw [ht] at r;obtain ⟨Z,r⟩:=r
  refine .inr ⟨rfl,Z,?_⟩
  have fo' := fo.trans r
  have es:(h++[AO.lst [.int t]]).set h.length (.lst Z)=h++[.lst Z]:=by simp
  rw [es] at fo';unfold gD
  generalize bf (aK (ae 2)) (.nm 4) fQ=FF at *;generalize h++[.lst Z]=HF at *;simp [wl,fo']
end Sk
namespace Sk
open PySem PySem.Spec L2 Sm
theorem y6 {ps:List Pc} (g:Good ps):∀ (c d:Nat) (st:List Un),(∀ u∈st,OkU ps u)->hU ps st<=c->hU ps st<=d->bg ps c st=bg ps d st
 | c,d,[],_,_,_=>by cases c<;>cases d<;>rfl
 | c,d,.s z::st,_,_,_=>by rw [iO,iO]
 | 0,d,.n k::st,ok,h,_=>by
  cases ok _ (Km ..) with
  | @n _ m f l x T=>rw [c9 T] at h;lia
 | c+1,0,.n k::st,ok,_,h=>by
  cases ok _ (Km ..) with
  | @n _ m f l x T=>rw [c9 T] at h;lia
 | c+1,d+1,.n k::st,ok,h1,h2=>by
  cases ok _ (Km ..) with
  | @n _ m f l x T =>
   rw [c9 T] at h1 h2;rcases g.kind T with ⟨e1,e2,e3,e4,e5⟩ | ⟨a,b,ma,mb,y,z,fa,la,fb,lb,e1,e2,e3,A,B,e4,e5,e6⟩
   ·rw [bg,bg,e1]
   ·rw [bg,bg,e1]
    have hh:=congrArg Ms.ht e5
    rw [bQ] at hh;have a0:=A.ky.ht
    have b0:=B.ky.ht
    exact y6 g c d (.n a :: .n b::st) (i4 A B ok) (by rw [c9 A];lia) (by rw [c9 A];lia)
theorem y8 {ps:List Pc} (g:Good ps) {k:Nat}:∀ (c d:Nat) (st:List Un),(∀ u∈st,OkU ps u)->hU ps st<=c->hU ps st<=d->bx ps k c st=bx ps k d st
 | c,d,[],_,_,_=>by cases c<;>cases d<;>rfl
 | c,d,.s z::st,_,_,_=>by cases c<;>cases d<;>rfl
 | 0,d,.n k::st,ok,h,_=>by
  cases ok _ (Km ..) with
  | @n _ m f l x T=>rw [c9 T] at h;lia
 | c+1,0,.n k::st,ok,_,h=>by
  cases ok _ (Km ..) with
  | @n _ m f l x T=>rw [c9 T] at h;lia
 | c+1,d+1,.n j::st,ok,h1,h2=>by
  rw [bx,bx];by_cases q:j=k
  ·rw [Ku q,Ku q]
  ·rw [KF q,KF q]
   cases ok _ (Km ..) with
   | @n _ m f l x T =>
    rw [c9 T] at h1 h2;rcases g.kind T with ⟨e1,e2,e3,e4,e5⟩ | ⟨a,b,ma,mb,y,z,fa,la,fb,lb,e1,e2,e3,A,B,e4,e5,e6⟩
    ·rw [e1]
    ·rw [e1]
     have hh:=congrArg Ms.ht e5
     rw [bQ] at hh;have a0:=A.ky.ht
     have b0:=B.ky.ht
     exact y8 g c d (.n a :: .n b::st) (i4 A B ok) (by rw [c9 A];(clear a0 e6 e5 e4 B A e3 e2 e1 T h2 q ok g;lia)) (by rw [c9 A];(clear a0 e6 e5 e4 B A e3 e2 e1 T h1 q ok g;lia))
def uh (k:Nat):List Un->Prop
 | []=>True
 | .n j::r=>j<=k/\uh k r
 | .s z::r=>1<=z.length/\uh k r
def dr (cs:List Nat):List Un:=cs.map fun c=>.s ⟨#[c]⟩
theorem y9 {ps:List Pc} (g:Good ps):∀ (cs:List Nat) {st:List Un} {r:List Nat},(∀ u∈st,OkU ps u)->aM ps st=cs++r->bG ps (dr cs) st=some (dN ps cs.length st)
 | [],st,r,ok,h=>rfl
 | c::cs,st,r,ok,h=>by
  show (dI ps 10 ⟨#[c]⟩ st).bind (bG ps (dr cs))=_
  have e:=uc (c:=10) (w:=⟨#[c]⟩) (st:=st) (r:=cs++r) g ok h (by show (1:Nat)<10;decide)
  have s:=oh g 10 ok e
  rw [e];have rd:=s.rd
  rw [h] at rd;have rd':c::(cs++r)=c::aM ps (dN ps 1 st):=rd
  have tl:=(N7 rd').2
  have ok1:∀ u∈dN ps 1 st,OkU ps u:=s.ok
  show bG ps (dr cs) (dN ps 1 st)=_
  rw [y9 g cs ok1 tl.symm,<- ua,Kk,LD]
structure G6 (ps:List Pc) (t:Nat) (its:List Un):Prop where
 ne:its≠[]
 lo:uh t its
 oi:∀ i∈its,OkI ps i
 sp:∀ st,(∀ u∈st,OkU ps u)->bG ps its (.n t::st)=some st
theorem za {ps:List Pc}:∀ (cs:List Nat),(∀ c∈cs,k7 c=true)->∀ i∈dr cs,OkI ps i
 | [],_,i,hi=>by cases hi
 | c::cs,h,i,hi=>by
  rcases KJ.mp hi with rfl | hi
  ·refine .s ?_
   have:=h c (Km ..)
   simp [dS,br,this]
   show (1:Nat)<=1/\(1:Nat)<=8
   decide
  ·exact za cs (fun d hd=>h d (Kp _ hd)) i hi
inductive Op (ps:List Pc):List Un->List Un->Prop
 | refl (st:List Un):Op ps st st
 | open {s st:List Un} {j a b:Nat} (h:Op ps s (.n j::st)) (e:ps[j-1]? = some (.fork a b)):Op ps s (.n a :: .n b::st)
theorem OkI.u {ps:List Pc} {u:Un} (o:OkI ps u):OkU ps u:=by
 cases o with
 | n T=>exact .n T
 | s a=>exact .s (gF a).1 (gF a).2.1
theorem zc {ps:List Pc} (g:Good ps) {j a b:Nat} {m f l:Ms} {x:Str} (T:Tx ps j m x f l) (e:ps[j-1]? = some (.fork a b)):∃ ma mb y z fa la fb lb,a<j/\Tx ps a ma y fa la/\Tx ps b mb z fb lb/\x=y++z/\m=i3 ma mb:=by
 rcases g.kind T with ⟨q,_⟩ | ⟨a',b',ma,mb,y,z,fa,la,fb,lb,e1,e2,_,A,B,x1,x2,_⟩
 ·rw [e] at q;cases q
 ·rw [e] at e1;cases e1
  exact ⟨ma,mb,y,z,fa,la,fb,lb,e2,A,B,x1,x2⟩
theorem om {ps:List Pc} (g:Good ps) {j a b:Nat} {st:List Un} (ok:∀ u∈(.n j::st:List Un),OkI ps u) (e:ps[j-1]? = some (.fork a b)):∀ u∈(.n a :: .n b::st:List Un),OkI ps u:=by
 cases ok _ (Km ..) with
 | n T =>
  obtain ⟨ma,mb,y,z,fa,la,fb,lb,_,A,B,_⟩:=zc g T e
  intro u hu
  rcases KJ.mp hu with rfl | hu
  ·exact .n A
  ·rcases KJ.mp hu with rfl | hu
   ·exact .n B
   ·exact ok u (Kp _ hu)
theorem oq {ps:List Pc} (g:Good ps) {s L:List Un} (o:Op ps s L) (ok:∀ u∈s,OkI ps u):∀ u∈L,OkI ps u:=by
 induction o with
 | refl=>exact ok
 | «open» h e ih=>exact om g ih e
theorem eY {ps:List Pc} {s:List Un} (ok:∀ u∈s,OkI ps u):∀ u∈s,OkU ps u:=fun u hu=>(ok u hu).u
theorem G7 {ps:List Pc} (g:Good ps) {s L:List Un} (o:Op ps s L) (ok:∀ u∈s,OkI ps u):bg ps 90 s=bg ps 90 L:=by
 induction o with
 | refl=>rfl
 | @«open» st j a b h e ih =>
  rw [ih];have k1:=eY (oq g h ok)
  have k2:=eY (om g (oq g h ok) e)
  have q:bg ps 90 (.n j::st)=bg ps 89 (.n a :: .n b::st):=by
   show (match ps[j-1]? with
    | some (.fork a b)=>bg ps 89 (.n a :: .n b::st)
    | some (.leaf z)=>(z,st)
    | none=>("",st))=_
   rw [e]
  rw [q];exact y6 g 89 90 _ k2 (by have:=gI g k2;lia) (by have:=gI g k2;lia)
theorem G8 {ps:List Pc} (g:Good ps) {s L:List Un} (o:Op ps s L) (ok:∀ u∈s,OkI ps u):∀ {k i:Nat} {r:List Un},L = .n i::r->k<=i->bx ps k 90 s=bx ps k 90 L:=by
 induction o with
 | refl=>intro k i r _ _;rfl
 | @«open» st j a b h e ih =>
  intro k i r q hk
  cases q
  have k0:=oq g h ok
  have k2:=eY (om g k0 e)
  cases k0 _ (Km ..) with
  | n T =>
   obtain ⟨_,_,_,_,_,_,_,_,hl,_⟩:=zc g T e
   rw [ih rfl (by lia)]
   have q:bx ps k 90 (.n j::st)=bx ps k 89 (.n a :: .n b::st):=by
    show (if j=k then some st else match ps[j-1]? with
     | some (.fork a b)=>bx ps k 89 (.n a :: .n b::st)
     | _=>none)=_
    rw [KF (by lia),e]
   rw [q];exact y8 g 89 90 _ k2 (by have:=gI g k2;lia) (by have:=gI g k2;lia)
theorem G9 {ps:List Pc} (g:Good ps) {s L:List Un} {k:Nat} (o:Op ps s (.n k::L)) (ok:∀ u∈s,OkI ps u):fH ps (.n k) s=some L:=by
 show bx ps k 90 s=_
 rw [G8 g o ok rfl (Kj _)];show (if k=k then some L else _)=_
 rw [Ku rfl]
theorem Ha {ps:List Pc} (g:Good ps) {s L L0:List Un} {z:Str} {m:Nat} (o:Op ps s L) (ok:∀ u∈s,OkI ps u) (e:bg ps 90 L=(z,L0)) (m1:1<=m) (hm:m<=z.length) (z8:z.length<=8):fH ps (.s (bO z m)) s=some (da (bR z m) L0):=by
 show dI ps 10 (bO z m) s=_
 have en:=(G7 g o ok).trans e
 have lt:(bO z m).length=m:=by rw [bK,iK,Le,<- bK];lia
 have N:=mv g 90 s (eY ok) (by have:=gI g (eY ok);lia)
 have rd:=N.rd
 rw [en] at rd;have rd2:aM ps s=(bO z m).cps.toList++(z.cps.toList.drop m++aM ps L0):=by
  rw [rd,iK,<- KN,Md]
 rw [uc g (eY ok) rd2 (by lia),lt,yR en m1 hm]
theorem Hb {ps:List Pc} {s L:List Un} (o:Op ps s L):s=[] ↔ L=[]:=by
 induction o with
 | refl=>exact Iff.rfl
 | «open» h e ih=>exact ⟨fun q=>(by have:=ih.mp q;cases this),fun q=>(by cases q)⟩
theorem zd {ps:List Pc} (g:Good ps):∀ (c:Nat) (st:List Un),(∀ u∈st,OkI ps u)->hU ps st<=c->(∀ u∈(bg ps c st).2,OkI ps u)/\(st≠[]->dS (bg ps c st).1=true)
 | c,[],ok,_=>by
  have:bg ps c []=((("" : Str),([]:List Un))):=by cases c<;>rfl
  rw [this];exact ⟨fun u hu=>(by cases hu),fun z=>absurd rfl z⟩
 | c,.s z::st,ok,_=>by
  rw [iO];refine ⟨fun u hu=>ok u (Kp _ hu),fun _=>?_⟩
  cases ok _ (Km ..) with
  | s a=>exact a
 | 0,.n k::st,ok,h=>absurd h (by show ¬ _+1<=0;lia)
 | c+1,.n k::st,ok,h=>by
  cases ok _ (Km ..) with
  | @n k m f l x T =>
   rcases g.kind T with ⟨e,_⟩ | ⟨a,b,ma,mb,y,z,fa,la,fb,lb,e,e2,_,A,B,x1,x2,_⟩
   ·have q:bg ps (c+1) (.n k::st)=(x,st):=by
     show (match ps[k-1]? with
      | some (.fork a b)=>bg ps c (.n a :: .n b::st)
      | some (.leaf z)=>(z,st)
      | none=>("",st))=_
     rw [e]
    rw [q];exact ⟨fun u hu=>ok u (Kp _ hu),fun _=>g.get e⟩
   ·have q:bg ps (c+1) (.n k::st)=bg ps c (.n a :: .n b::st):=by
     show (match ps[k-1]? with
      | some (.fork a b)=>bg ps c (.n a :: .n b::st)
      | some (.leaf z)=>(z,st)
      | none=>("",st))=_
     rw [e]
    rw [q];rw [c9 T] at h;have r:=zd g c (.n a :: .n b::st) (om g ok e) (by
     rw [c9 A];have:=A.ky.ht
     have:=B.ky.ht
     rw [x2] at h;have:(i3 ma mb).ht=max ma.ht mb.ht+1:=rfl
     (clear q x2 x1 B A e2 e T ok g;lia))
    exact ⟨r.1,fun _=>r.2 (fun z=>by cases z)⟩
structure Cs (ps:List Pc) (one items L:List Un):Prop where
 ex:∃ s,bG ps items one=some s/\(∀ u∈s,OkI ps u)/\Op ps s L
theorem Cs.oki {ps:List Pc} (g:Good ps) {one items L:List Un} (c:Cs ps one items L):∀ u∈L,OkI ps u:=by
 obtain ⟨s,_,ok,o⟩:=c.ex
 exact oq g o ok
theorem Cs.opn {ps:List Pc} {one items L L2:List Un} (c:Cs ps one items L) (o:Op ps L L2):Cs ps one items L2:=by
 induction o with
 | refl=>exact c
 | «open» h e ih =>
  obtain ⟨s,a,b,d⟩:=ih.ex
  exact ⟨s,a,b,.open d e⟩
theorem ze {ps:List Pc} {items one s r:List Un} {i:Un} (e:bG ps items one=some s) (q:fH ps i s=some r):bG ps (items++[i]) one=some r:=by
 rw [ue,e];show (fH ps i s).bind (bG ps [])=_
 rw [q];rfl
theorem Cs.num {ps:List Pc} (g:Good ps) {one items L:List Un} {k:Nat} (c:Cs ps one items (.n k::L)):Cs ps one (items++[.n k]) L:=by
 obtain ⟨s,a,b,o⟩:=c.ex
 exact ⟨L,ze a (G9 g o b),fun u hu=>oq g o b u (Kp _ hu),.refl _⟩
theorem zf {z:Str} {m:Nat} (h:br z=true):br (bR z m)=true:=by
 unfold br at h ⊢
 rw [gH];exact La.mpr fun c hc=>La.mp h c (Lu hc)
theorem zg {z:Str} {m:Nat} (h:br z=true):br (bO z m)=true:=by
 unfold br at h ⊢
 rw [iK];exact La.mpr fun c hc=>La.mp h c (Lv hc)
theorem ot {z:Str} (p:br z=true) (a:1<=z.length) (b:z.length<=8):dS z=true:=by simp [dS,p,a,b]
theorem Hc {ps:List Pc} {z:Str} {st:List Un} (p:br z=true) (b:z.length<=8) (ok:∀ u∈st,OkI ps u):∀ u∈da z st,OkI ps u:=by
 unfold da
 by_cases q:z = ""
 ·rw [Ku q];exact ok
 ·rw [KF q]
  intro u hu
  rcases KJ.mp hu with rfl | hu
  ·exact .s (ot p (by rcases Ob z.length with w | w;exact absurd (zaZ.mpr w) q;exact w) b)
  ·exact ok u hu
theorem Cs.txt {ps:List Pc} (g:Good ps) {one items L L0:List Un} {z:Str} {m:Nat} (c:Cs ps one items L) (e:bg ps 90 L=(z,L0)) (m1:1<=m) (hm:m<=z.length):OkI ps (.s (bO z m))/\Cs ps one (items++[.s (bO z m)]) (da (bR z m) L0):=by
 have okL:=c.oki g
 obtain ⟨s,a,b,o⟩:=c.ex
 have N:=zd g 90 L okL (by have:=gI g (eY okL);lia)
 rw [e] at N;have ne:L≠[]:=fun q=>by
  rw [q] at e
  cases e
  exact absurd hm (by show ¬ m<=0;lia)
 obtain ⟨l1,l8,pl⟩:=gF (show dS z=true from N.2 ne)
 have lt:(bO z m).length=m:=by rw [bK,iK,Le,<- bK];lia
 have ld:(bR z m).length=z.length-m:=by rw [bK,gH,Lh,<- bK]
 exact ⟨.s (ot (zg pl) (by lia) (by lia)),_,ze a (Ha g o b e m1 hm l8),Hc (zf pl) (by lia) N.1,.refl _⟩
end Sk
namespace Sk
open PySem PySem.Spec L2 Sm
def cQ:List Un->List Un
 | []=>[]
 | .n k::r=>.n k::cQ r
 | .s w::r=>dr w.cps.toList++cQ r
theorem zh (ps:List Pc):∀ cs:List Nat,aM ps (dr cs)=cs
 | []=>rfl
 | c::cs=>by
  show [c]++aM ps (dr cs)=_
  rw [zh ps cs];rfl
theorem Hd {ps:List Pc} (g:Good ps) {w:Str} {st:List Un} (ok:∀ u∈st,OkU ps u) (w8:w.length<=8):fH ps (.s w) st=bG ps (dr w.cps.toList) st:=by
 show dI ps 10 w st=_
 cases h:dI ps 10 w st with
 | some s =>
  have T:=oh g 10 ok h
  rw [y9 g _ ok T.rd,<- bK,<- T.dn]
 | none =>
  cases h2:bG ps (dr w.cps.toList) st with
  | none=>rfl
  | some s =>
   have rd:=(uf g _ ok h2).1
   rw [zh] at rd;rw [uc g ok rd (by lia)] at h
   cases h
theorem qi {ps:List Pc} (g:Good ps):∀ (its:List Un) {st:List Un},(∀ u∈st,OkU ps u)->(∀ i∈its,cL ps i)->bG ps its st=bG ps (cQ its) st
 | [],st,_,_=>rfl
 | .n k::r,st,ok,oi=>by
  show (fH ps (.n k) st).bind (bG ps r)=(fH ps (.n k) st).bind (bG ps (cQ r))
  cases h:fH ps (.n k) st with
  | none=>rfl
  | some s=>exact qi g r (oj g ok h).2.1 (fun i hi=>oi i (Kp _ hi))
 | .s w::r,st,ok,oi=>by
  have w8:w.length<=8:=by
   cases oi _ (Km ..) with
   | s a=>exact (gF a).2.1
  show (fH ps (.s w) st).bind (bG ps r)=bG ps (dr w.cps.toList++cQ r) st
  rw [ue,<- Hd g ok w8]
  cases h:fH ps (.s w) st with
  | none=>rfl
  | some s=>exact qi g r (oj g ok h).2.1 (fun i hi=>oi i (Kp _ hi))
def Kf:Un->Prop
 | .n _=>True
 | .s w=>w.length=1
inductive Af where
 | bad
 | out
 | at (r:List Un)
def He:List Nat->List Un->Af
 | [],us=>.at us
 | _::_,[]=>.out
 | c::cs,.s w::us=>if w=⟨#[c]⟩ then He cs us else .bad
 | _::_,.n _::_=>.bad
def Hf (ps:List Pc) (us L st:List Un):Af->Prop
 | .bad=>bG ps us L=none
 | .out=>∃ s,bG ps us L=some s/\s≠[]
 | .at r=>bG ps us L=bG ps r st/\∀ u∈r,u∈us
end Sk
namespace Sk
open PySem PySem.Spec L2 Sm
theorem Hg (c k:Int) (h:AH):∃ m,pN [.int c,.int k] h = .ok (.int m) h:=by
 have b1:0<=(c % 1000000007+7919*k+101)*48271 % 2147483647:=MI _ (by decide)
 have b2:(c % 1000000007+7919*k+101)*48271 % 2147483647<2147483647:=MX _ (by decide)
 refine ⟨(c % 1000000007+7919*k+101)*48271 % 2147483647*((c % 1000000007+7919*k+101)*48271 % 2147483647) % 2147483629*69621 % 2147483647,?_⟩
 generalize he:(c % 1000000007+7919*k+101)*48271 % 2147483647=v at *;have c1:v.natAbs<18446744073709551616:=by lia
 simp [pN,he,c1]
theorem Hh {i j:Int} {h:AH} (hi:i.natAbs<2 ^ 4000) (hj:j.natAbs<2 ^ 4000):bW (.int i) (.int j) h = .ok (.int (i*j)) h:=Ku (.inr ⟨hi,hj⟩)
theorem Hi (ns:List Int):nB (ns.map AV.int)=some ns:=by
 induction ns with
 | nil=>rfl
 | cons n r ih=>simp [ih]
abbrev T60:Int:=1000000000000000000000000000000000000000000000000000000000000000000000000000000000000000000000000000000000000000000000000
theorem Hj:(10:Nat) ^ 720<2 ^ 4000:=by decide +kernel
theorem Hk:T60.natAbs<2 ^ 4000:=by decide +kernel
theorem Hl (ns:List Int) (k:Nat) (i:Nat) (c:Nat) (o:Option AV) (h:AH) (hi:i<6) (hc:c<10 ^ (120*i)) (hj:k+i*12<ns.length) :
  ∃ c':Nat,c'<10 ^ (120*(i+1))/\mf [some (.fl (ns.map AV.int)),some (.int k),some (.int c),some (.int ((k:Int)+i*12)),o] h = .nx [some (.fl (ns.map AV.int)),some (.int k),some (.int c'),some (.int ((k:Int)+i*12)),o] h:=by
 obtain ⟨s,es⟩:∃ s,ns[k+i*12]? = some s:=⟨ns[k+i*12],by simp [hj]⟩
 have ix:aB (.fl (ns.map AV.int)) (.int ((k:Int)+i*12)) h = .ok (.int s) h:=by
  rw [show ((k:Int)+i*12)=((k+i*12:Nat):Int) by simp]
  simp only [aB,x3 es]
 have p1:(10:Nat) ^ (120*i)<=10 ^ 720:=Nat.pow_le_pow_right (by decide) (by lia)
 have m1:((c:Int)).natAbs<2 ^ 4000:=by
  have:=Hj
  exact MO (show c<10 ^ 720 by lia) this
 have mu:bW (.int c) (.int T60) h = .ok (.int (c*T60)) h:=Hh m1 Hk
 have r0:0<=s % T60:=MI _ (by decide)
 have r1:s % T60<T60:=MX _ (by decide)
 obtain ⟨r,er⟩:∃ r:Nat,s % T60=(r:Int):=⟨(s % T60).toNat,(NZ r0).symm⟩
 have rl:r<10 ^ 120:=by
  have:(r:Int)<T60:=er▸r1
  have e:T60=((10 ^ 120:Nat):Int):=by decide +kernel
  rw [e] at this;exact Int.ofNat_lt.mp this
 obtain ⟨c',ec,lc⟩:∃ c':Nat,(c:Int)*T60+r=(c':Int)/\c'<10 ^ (120*(i+1)):=by
  refine ⟨c*10 ^ 120+r,?_,?_⟩
  ·have e:T60=((10 ^ 120:Nat):Int):=by decide +kernel
   rw [e,NF,Int.natCast_mul]
  ·rw [show 120*(i+1)=120*i+120 by lia,Nat.pow_add]
   have:(c+1)*10 ^ 120<=10 ^ (120*i)*10 ^ 120:=Nat.mul_le_mul_right _ hc
   have e2:(c+1)*10 ^ 120=c*10 ^ 120+10 ^ 120:=Nat.succ_mul _ _
   lia
 refine ⟨c',lc,?_⟩
 have pw:(ah bW (ah de (ai (.int 10)) (ai (.int 60))) (ah de (ai (.int 10)) (ai (.int 60)))) [some (.fl (ns.map AV.int)),some (.int k),some (.int c),some (.int ((k:Int)+i*12)),o] h = .ok (.int T60) h:=by simp
 have md:bz (.int s) (.int T60) h = .ok (.int r) h:=by simp only [bz];rw [Ku (by decide),er]
 clear p1 m1 r0 r1 er rl hc lc hi;unfold mf
 generalize ah bW (ah de (ai (.int 10)) (ai (.int 60))) (ah de (ai (.int 10)) (ai (.int 60)))=PW at *;generalize T60=t60 at *;simp [pw,mu,ix,md,ec,-bW,-aB,-bz]
theorem Hm (en0:Option AV) (ns:List Int) (k c f j:Int) (h:AH):∃ f',mh [some (.fl (ns.map AV.int)),some (.int k),some (.int c),some (.int j),some (.int f)] h = .nx [some (.fl (ns.map AV.int)),some (.int k),some (.int c),some (.int j),some (.int f')] h:=by
 obtain ⟨m,hm⟩:=Hg (c+1009*k+ns.length) j h
 refine ⟨f*2147483647+m,?_⟩
 have m1:bW (.int f) (.int 2147483647) h = .ok (.int (f*2147483647)) h:=FZ (by decide)
 have m2:bW (.int 1009) (.int k) h = .ok (.int (1009*k)) h:=FY (by decide)
 simp [mh,hm,m1,m2,-bW]
theorem ui (ns:List Int) (hl:ns.length<=63) (k:Nat) (hk:k<=10) (h:AH):∃ N:Int,iV [.fl (ns.map AV.int),.int k] h = .ok (.ref h.length) (h++[.lst [.int N]]):=by
 obtain ⟨M,eM⟩:∃ M:Nat,M=(if (k:Int)<(ns.length:Int) then ((ns.length:Int)-k-1) / 12+1 else 0).toNat:=⟨_,rfl⟩
 have hM:M<=6/\∀ i,i<M->k+i*12<ns.length:=by
  rw [eM];split
  ·refine ⟨by (clear eM hk;lia),fun i hi=>by (clear eM hk hl;omega)⟩
  ·refine ⟨by lia,fun i hi=>by simp at hi⟩
 obtain ⟨e1,h1,r1,r2⟩:=iZ (w:=none) (all:=(List.range M).map (fun m:Nat=>AV.int ((k:Int)+m*12))) (t:=.nm 3) (b:=mf) (xs:=(List.range M).map (fun m:Nat=>AV.int ((k:Int)+m*12))) (en:=[some (.fl (ns.map AV.int)),some (.int k),some (.int 0),none,none]) (h:=h)
  (fun i en h' => h'=h/\∃ (c:Nat) (o:Option AV),c<10 ^ (120*i)/\en=[some (.fl (ns.map AV.int)),some (.int k),some (.int c),o,none]) ⟨rfl,0,none,by decide,rfl⟩ (fun _ _ _ _=>rfl) (by
   rintro j x en h' hx ⟨rfl,c,o,hc,rfl⟩
   rw [K6] at hx;obtain ⟨m,em,rfl⟩:=KU.mp hx
   have hj:j<M:=by
    have:=(Kh.mp em).1;simpa using this
   rw [MN hj] at em
   cases em
   obtain ⟨c',l',e⟩:=Hl ns k j c none h' (by have:=hM.1;(clear this hx hc eM hk hl;lia)) hc (hM.2 j hj)
   show thn (mf [some (.fl (ns.map AV.int)),some (.int k),some (.int c),some (.int ((k:Int)+j*12)),none] h') _
   rw [e];exact ⟨rfl,c',_,l',rfl⟩)
 obtain ⟨rfl,c,o,hc,rfl⟩:=r2
 have z1:(k:Int).natAbs<1099511627776:=by (clear r1 hc hM eM hl;omega)
 have z2:((ns.length:Nat):Int).natAbs<1099511627776:=by (clear z1 r1 hc hM eM hk;omega)
 have it3:jz (ae 1) (ax az (aj (ae 0) af)) (ai (.int 12)) [some (.fl (ns.map AV.int)),some (.int k),some (.int 0),none,none] h1 = .ok ((List.range M).map (fun m:Nat=>AV.int ((k:Int)+m*12)),none) h1:=by
  simp only [jz,ae,ax,aj,af,ai,Out.bind,az,List.getElem?_cons_zero,Li,sY]
  rw [Ku ⟨z1,z2,by decide,by decide⟩,<- eM]
 have f1:=(g8 (t:=.nm 3) (b:=mf) it3).trans r1
 clear r1 it3;by_cases hb:(1000000000000000000:Int)<=c
 ·exact ⟨c,by simp [iV,f1,hb,-bf]⟩
 ·have cm:=xV (js:=[]) (en:=[some (.fl (ns.map AV.int)),some (.int k),some (.int c),o,none]) (w:=none) (all:=ns.map AV.int) (e:=ah bz (ae 0) (ah de (ai (.int 10)) (ai (.int 18)))) (g:=AV.int) (f:=fun i=>AV.int (i % 1000000000000000000)) (h:=h1) rfl ns [] (by intro i _;simp) (by
    simp only [LJ];exact Kn (show 0+ns.length<=63 by lia) (by decide))
  have im:(ns.map fun i=>AV.int (i % 1000000000000000000))=(ns.map fun i=>i % 1000000000000000000).map AV.int:=by simp
  obtain ⟨S,eS⟩:∃ S:Int,S=(ns.map fun i=>i % 1000000000000000000).sum:=⟨_,rfl⟩
  have sm:gW [.fl (ns.map fun i=>AV.int (i % 1000000000000000000))] h1 = .ok (.int S) h1:=by
   rw [im,eS];simp only [gW,Hi]
  obtain ⟨e2,h2,s1,s2⟩:=iZ (w:=none) (all:=cZ 0 12) (t:=.nm 3) (b:=mh) (xs:=cZ 0 12) (en:=[some (.fl (ns.map AV.int)),some (.int k),some (.int (c+S)),o,some (.int 0)]) (h:=h1)
   (fun i en h' => h'=h1/\∃ (f:Int) (o:Option AV),en=[some (.fl (ns.map AV.int)),some (.int k),some (.int (c+S)),o,some (.int f)]) ⟨rfl,0,o,rfl⟩ (fun _ _ _ _=>rfl) (by
    rintro j x en h' hx ⟨rfl,f,o,rfl⟩
    rw [xZ] at hx;by_cases q:j<12
    ·rw [Ku q] at hx
     cases hx
     obtain ⟨f',e⟩:=Hm none ns k (c+S) f (0+(j:Int)) h'
     show thn (mh [some (.fl (ns.map AV.int)),some (.int k),some (.int (c+S)),some (.int (0+(j:Int))),some (.int f)] h') _
     rw [e];exact ⟨rfl,f',_,rfl⟩
    ·rw [KF q] at hx;cases hx)
  obtain ⟨rfl,f,o',rfl⟩:=s2
  have f2:=(g8 (t:=.nm 3) (b:=mh) (nQ (a:=ai (.int 12)) (en:=[some (.fl (ns.map AV.int)),some (.int k),some (.int (c+S)),o,some (.int 0)]) (h:=h2) (n:=12) rfl (by decide))).trans s1
  refine ⟨f,?_⟩
  simp at cm
  simp [iV,f1,hb,cm,sm,f2,-bf,-gW]
theorem Hn {h:AH} {st:Nat} {n:Int} (m:Nat) (e:h[st]? = some (.lst [.int n])) (hm:0<m) (hm2:m<=10 ^ 50):∃ v:Nat,v<m/\bV [.ref st,.int m] h = .ok (.int v) (h.set st (.lst [.int (n / m)])):=by
 have a0:atI [AV.int n] 0=some (.int n):=rfl
 have i0:gs 1 0=some 0:=rfl
 have hm0:(0:Int)<m:=Int.ofNat_lt.mpr hm
 have hm3:m<1606938044258990275541962092341162602522202993782792835301376:=KA hm2 (by decide)
 refine ⟨(n % m).toNat,?_,?_⟩
 ·have:=MX n hm0;have:=MI n (show (m:Int)≠0 by lia);lia
 ·rw [NZ (MI n (show (m:Int)≠0 by lia))]
  simp [bV,e,a0,hm0,hm,hm3,i0]
theorem Ho {x:Str} {v:Nat} (hv:v<x.length) (hx:br x=true) (h:AH):∃ c,k7 c=true/\aB (.str x) (.int v) h = .ok (.str ⟨#[c]⟩) h:=by
 have hv':v<x.cps.toList.length:=by rw [<- bK];exact hv
 refine ⟨x.cps.toList[v],La.mp hx _ (List.getElem_mem hv'),?_⟩
 have e:x.cps.toList[v]? = some x.cps.toList[v]:=KM hv'
 simp only [aB,rj e]
theorem lB {hh:AH} {L:Nat} {N:Int} (m:Nat) (e:hh[L]? = some (.lst [.int N])) (hm:0<m) (hm2:m<=10 ^ 50):∃ (v:Nat) (N':Int),v<m/\bV [.ref L,.int m] hh = .ok (.int v) (hh.set L (.lst [.int N'])):=by
 obtain ⟨v,hv,e1⟩:=Hn m e hm hm2
 exact ⟨v,N / m,hv,e1⟩
theorem Hq {y:Str} {c:Nat} (hy:br y=true) (hc:k7 c=true):br (y++⟨#[c]⟩)=true/\(y++(⟨#[c]⟩:Str)).length=y.length+1:=by
 refine ⟨?_,by rw [cx];rfl⟩
 rw [j7,hy];simp [br,hc]
def lowS:Str := "abcdefghijklmnopqrstuvwxyz"
def upS:Str := "ABCDEFGHIJKLMNOPQRSTUVWXYZ"
def restS:Str := " !#$&'()*+,-./0123456789:;<=>?\x40[]^_{|}~\n\\"
def hJ:List Str:=["a", "ab", "ab\n", "a \n~",(lowS++upS)++restS]
theorem ou:∀ x∈hJ,br x=true/\1<=x.length/\x.length<=200:=by decide +kernel
theorem zi:Txt.upper lowS=upS:=by decide +kernel
theorem Hr (h:AH):pC (.str lowS) [] h = .ok (.str upS) h:=by
 have c:(Txt.upper lowS).length<=sizeLine/\(Txt.upper lowS).cps.all (· < 0x110000)=true:=by rw [zi];decide +kernel
 show (if (Txt.upper lowS).length<=sizeLine/\(Txt.upper lowS).cps.all (· < 0x110000)=true then Out.ok (AV.str (Txt.upper lowS)) h else .bad)=_
 rw [Ku c,zi]
theorem Hs (v:Nat) (hv:v<5):∃ z:Str,(∀ h,aB (.fl [.str "a",.str "ab",.str "ab\n",.str "a \n~",.str ((lowS++upS)++restS)]) (.int (v:Int)) h = .ok (.str z) h)/\br z=true/\1<=z.length/\z.length<=200:=by
 have:v=0\/v=1\/v=2\/v=3\/v=4:=by lia
 rcases this with rfl | rfl | rfl | rfl | rfl
 ·exact ⟨_,fun _=>rfl,ou _ (by simp [hJ])⟩
 ·exact ⟨_,fun _=>rfl,ou _ (by simp [hJ])⟩
 ·exact ⟨_,fun _=>rfl,ou _ (by simp [hJ])⟩
 ·exact ⟨_,fun _=>rfl,ou _ (by simp [hJ])⟩
 ·exact ⟨_,fun _=>rfl,ou _ (by simp [hJ])⟩
theorem zj {hh:AH} {L:Nat} {N:Int} (most:Nat) (hm:most<=1000) (e:hh[L]? = some (.lst [.int N])):∃ (y:Str) (N':Int),j0 [.ref L,.int most] hh = .ok (.str y) (hh.set L (.lst [.int N']))/\br y=true/\y.length<=most:=by
 have Ll:=aY e
 obtain ⟨v,N1,hv,t1⟩:=lB 5 e (by decide) (by decide)
 have t1':bV [.ref L,.int 5] hh = .ok (.int v) (hh.set L (.lst [.int N1])):=t1
 obtain ⟨z,ez,pz,z1,z2⟩:=Hs v hv
 have e1:(hh.set L (.lst [.int N1]))[L]? = some (.lst [.int N1]):=Ko Ll
 obtain ⟨k,N2,hk,t2⟩:=lB (most+1) e1 (On _) (Kn (Ng hm) (by decide))
 rw [Lo] at t2;have t2':bV [.ref L,.int ((most:Int)+1)] (hh.set L (.lst [.int N1])) = .ok (.int k) (hh.set L (.lst [.int N2])):=by
  have:=t2;rw [Int.natCast_succ] at this;exact this
 obtain ⟨W3,eW3⟩:∃ W3:Str,W3=(lowS++upS)++restS:=⟨_,rfl⟩
 rw [<- eW3] at ez;obtain ⟨e',h',r1,y,N3,o4,r2,r3,r4,r5⟩:=iZ (w:=none) (all:=cZ 0 k) (t:=.nm 6) (b:=kN) (xs:=cZ 0 k) (en:=[some (.ref L),some (.int most),some (.str lowS),some (.str W3),some (.str z),some (.str ""),none]) (h:=hh.set L (.lst [.int N2]))
  (fun j en h' => ∃ (y:Str) (N':Int) (o4:Option AV),en=[some (.ref L),some (.int most),some (.str lowS),some (.str W3),some (.str z),some (.str y),o4]/\h'=hh.set L (.lst [.int N'])/\br y=true/\y.length=j) ⟨"",N2,none,rfl,rfl,rfl,rfl⟩ (fun _ _ _ _=>rfl) (by
   rintro j u en h' hu ⟨y,N',o4,rfl,rfl,py,ly⟩
   have jk:j<k:=by have:=(Kh.mp hu).1;rwa [jI] at this
   have e3:(hh.set L (.lst [.int N']))[L]? = some (.lst [.int N']):=Ko Ll
   obtain ⟨t,N4,ht,et⟩:=lB z.length e3 (by lia) (Kn z2 (by decide))
   rw [Lo] at et;obtain ⟨c,pc,ec⟩:=Ho ht pz (hh.set L (.lst [.int N4]))
   have ad:ar (.str y) (.str ⟨#[c]⟩) (hh.set L (.lst [.int N4])) = .ok (.str (y++⟨#[c]⟩)) (hh.set L (.lst [.int N4])):=by
    have:y.length+(⟨#[c]⟩:Str).length<=sizeLine:=Kn (m:=1001) (by show y.length+1<=_;lia) (by decide)
    simp only [ar,this,Lp]
   have es:kN [some (.ref L),some (.int most),some (.str lowS),some (.str W3),some (.str z),some (.str y),some u] (hh.set L (.lst [.int N'])) = .nx [some (.ref L),some (.int most),some (.str lowS),some (.str W3),some (.str z),some (.str (y++⟨#[c]⟩)),some u] (hh.set L (.lst [.int N4])):=by
    generalize hh.set L (.lst [.int N4])=h2 at *;generalize hh.set L (.lst [.int N'])=h1 at *;simp [kN,et,ec,ad,-aB,-ar]
   show thn (kN [some (.ref L),some (.int most),some (.str lowS),some (.str W3),some (.str z),some (.str y),some u] (hh.set L (.lst [.int N']))) _
   rw [es];obtain ⟨q1,q2⟩:=Hq py pc
   exact ⟨_,N4,_,rfl,rfl,q1,by rw [q2,ly]⟩)
 rw [jI] at r5;have f1:=(g8 (t:=.nm 6) (b:=kN) (nQ (a:=ax bV (aj (ae 0) (aj (ah ar (ae 1) (ai (.int 1))) af))) (en:=[some (.ref L),some (.int most),some (.str lowS),some (.str W3),some (.str z),some (.str ""),none]) (h:=hh.set L (.lst [.int N1])) (n:=k) (by simp [t2']) (by lia))).trans r1
 refine ⟨y,N3,?_,r4,by lia⟩
 rw [<- r3];subst r2;have a1:ar (.str lowS) (.str upS) hh = .ok (.str (lowS++upS)) hh:=by
  have:lowS.length+upS.length<=sizeLine:=by decide +kernel
  simp only [ar,this,Lp]
 have a2:ar (.str (lowS++upS)) (.str restS) hh = .ok (.str W3) hh:=by
  have:(lowS++upS).length+restS.length<=sizeLine:=by decide +kernel
  rw [eW3];simp only [ar,this,Lp]
 have mu:=Hr hh
 have el:Str.ofString "abcdefghijklmnopqrstuvwxyz" = lowS:=rfl
 have er:Str.ofString " !#$&'()*+,-./0123456789:;<=>?\x40[]^_{|}~\n\\" = restS:=rfl
 unfold j0
 rw [el,er];generalize bf (fY (ax bV (aj (ae 0) (aj (ah ar (ae 1) (ai (.int 1))) af)))) (.nm 6) kN=F1 at *;generalize hh.set L (.lst [.int N1])=h1 at *;generalize lowS=LO at *;generalize upS=UP at *;generalize restS=RS at *;generalize LO++UP=LU at *;simp [mu,a1,a2,t1',ez,f1,-ar,-aB]
structure Gx (p:Nat) (M:List Nat) (h h':AH) (ps ps':List Pc) (k:Nat):Prop where
 sh:ShelfAt h' p ps'
 gd:Good ps'
 pre:ps <+: ps'
 len:ps'.length<=ps.length+k
 fr:∀ i,(i<p\/p+8<i)->i∉M->i<h.length->h'[i]? = h[i]?
 hl:h.length<=h'.length
 al:dE 64 ps->dE 64 ps'
theorem Gx.refl {p:Nat} {h:AH} {ps:List Pc} (S:ShelfAt h p ps) (g:Good ps) (M:List Nat):Gx p M h h ps ps 0:=⟨S,g,Lf _,by lia,fun _ _ _ _=>rfl,Kj _,id⟩
theorem Gx.trans {p:Nat} {M:List Nat} {h h' h'':AH} {ps ps' ps'':List Pc} {k k' k2:Nat} (a:Gx p M h h' ps ps' k) (b:Gx p M h' h'' ps' ps'' k') (hk:k+k'<=k2):Gx p M h h'' ps ps'' k2 :=
 ⟨b.sh,b.gd,a.pre.trans b.pre,by have:=a.len;have:=b.len;lia,fun i hi hn hl=>(b.fr i hi hn (KP hl a.hl)).trans (a.fr i hi hn hl),Kn a.hl b.hl,fun f=>b.al (a.al f)⟩
theorem Gx.set {p L:Nat} {h:AH} {ps:List Pc} (S:ShelfAt h p ps) (g:Good ps) (hL:L<p\/p+8<L) (M:List Nat) (hM:L∈M) (v:AO):Gx p M h (h.set L v) ps ps 0 :=
 ⟨S.keep fun i i1 i8=>Kr (by lia),g,Lf _,by lia,fun i _ hn _=>Kr (fun (z:L=i)=>hn (z▸hM)),by simp,id⟩
theorem Gx.dd {p:Nat} {M:List Nat} {h h':AH} {ps ps':List Pc} {k k2:Nat} (d:Dd p h h' ps ps' k) (hk:k<=k2) (al:dE 64 ps->dE 64 ps'):Gx p M h h' ps ps' k2 :=
 ⟨d.sh,d.gd,d.pre,Kn d.len (K5 hk _),fun i hi _ _=>d.fr i (hi.imp Mg id),by rw [d.hl];exact Kj _,al⟩
theorem Gx.app {p:Nat} {M:List Nat} {h h':AH} {ps ps':List Pc} {k:Nat} (a:Gx p M h h' ps ps' k) (r:AH):Gx p M h (h' ++ r) ps ps' k :=
 ⟨a.sh.app r,a.gd,a.pre,a.len,fun i hi hn hl=>by rw [Ki (KP hl a.hl)];exact a.fr i hi hn hl,by rw [Kq];exact Kn a.hl (LQ _ _),a.al⟩
theorem Gx.more {p:Nat} {M M':List Nat} {h h':AH} {ps ps':List Pc} {k:Nat} (a:Gx p M h h' ps ps' k) (s:∀ i∈M,i∈M'):Gx p M' h h' ps ps' k :=
 ⟨a.sh,a.gd,a.pre,a.len,fun i hi hn hl=>a.fr i hi (fun z=>hn (s i z)) hl,a.hl,a.al⟩
theorem Ht {x:Str} {a:Nat} (h:AH):cG (.str x) (some (a:Int)) none h = .ok (.str (bR x a)) h:=by
 by_cases ha:a<=x.length
 ·exact qe ha h
 ·have:bZ x (some (a:Int)) none=bR x a:=cW (by
   unfold bZ
   rw [HT.sIx_nat,HT.sIx_none,gH];rw [bK] at ha;rw [Nj (by lia)]
   show (x.cps.toList.drop x.cps.toList.length).take _=_
   rw [Mi,Ls (by lia),List.take_nil])
  simp only [cG,this]
theorem Hu (x:Str) (a:Nat):bO x a++bR x a=x:=cW (by rw [dH,iK,gH,Md])
theorem Hv {z:Str} (q : ¬ z = ""):1<=z.length:=by
 apply Classical.byContradiction
 intro hc
 apply q
 apply cW
 rw [bK] at hc;have:z.cps.toList=[]:=LG.mp (by lia)
 rw [this];rfl
theorem Hw (z:Str):z++("" : Str)=z:=cW (by rw [dH];simp;rfl)
theorem Hx (z:Str):("" : Str)++z=z:=cW (by rw [dH];rfl)
theorem Hy {h:AH} {p L W:Nat} {y:Str} (py:br y=true) (hy:y.length<=40) (hW:W=h.length) (eL:∃ N:Int,h[L]? = some (.lst [.int N])) (v:Int) :
  ∃ (ws:List Str) (N:Int) (o5:Option AV),bF (aQ (ah aI (ae 2) (ai (.str "")))) j4 cf [some (.ref p),some (.ref L),some (.str y),some (.int v),some (.ref W),none,none,none] (h++[.lst []]) = .nx [some (.ref p),some (.ref L),some (.str ""),some (.int v),some (.ref W),o5,none,none] (h.set L (.lst [.int N])++[.lst (ws.map AV.str)])/\cg ws=y/\(∀ w∈ws,br w=true)/\ws.length<=40:=by
 obtain ⟨N0,eL⟩:=eL
 have Ll:=aY eL
 have h0:h.set L (.lst [.int N0])=h:=by
  apply LY
  intro i
  by_cases q:i=L
  ·subst q;rw [Ko Ll,eL]
  ·rw [Kr (by lia)]
 obtain ⟨e',h',q1,ws,N,o5,q2,q3,q4,q5,q6⟩:=sV (c:=aQ (ah aI (ae 2) (ai (.str "")))) (b:=j4) (fuel:=cf) (n:=y.length) (en:=[some (.ref p),some (.ref L),some (.str y),some (.int v),some (.ref W),none,none,none]) (h:=h++[.lst []])
  (fun n en hh=>∃ (ws:List Str) (z:Str) (N:Int) (o5:Option AV),hh=h.set L (.lst [.int N])++[.lst (ws.map AV.str)]/\en=[some (.ref p),some (.ref L),some (.str z),some (.int v),some (.ref W),o5,none,none]/\cg ws++z=y/\(∀ w∈ws,br w=true)/\br z=true/\n=z.length/\ws.length+z.length<=40)
  (fun en hh=>∃ (ws:List Str) (N:Int) (o5:Option AV),hh=h.set L (.lst [.int N])++[.lst (ws.map AV.str)]/\en=[some (.ref p),some (.ref L),some (.str ""),some (.int v),some (.ref W),o5,none,none]/\cg ws=y/\(∀ w∈ws,br w=true)/\ws.length<=40)
  ⟨[],y,N0,none,by rw [h0];rfl,rfl,Hx y,fun _ z=>(nomatch z),py,rfl,by simpa using hy⟩ (KA hy (by decide)) (by
   rintro n en hh ⟨ws,z,N,o5,eh,een,cz,pw,pz,en',lw⟩
   have c:aQ (ah aI (ae 2) (ai (.str ""))) en hh = .ok (!decide (z = "")) hh:=by
    subst een;simp
   rw [c];by_cases q:z = ""
   ·have:(!decide (z = ""))=false:=by simp [q]
    rw [this];subst q;exact ⟨ws,N,o5,eh,een,by rw [<- cz,Hw],pw,by lia⟩
   ·have:(!decide (z = ""))=true:=by simp [q]
    rw [this];have z1:=Hv q
    have e1:hh[L]? = some (.lst [.int N]):=by rw [eh,Ki (by simpa using Ll)];exact Ko Ll
    obtain ⟨d,N',hd,t⟩:=lB 12 e1 (by decide) (by decide)
    have t':bV [.ref L,.int 12] hh = .ok (.int d) (hh.set L (.lst [.int N'])):=t
    have eh2:hh.set L (.lst [.int N'])=h.set L (.lst [.int N'])++[.lst (ws.map AV.str)]:=by
     rw [eh,List.set_append_left _ _ (by simpa using Ll),Lo]
    rw [eh2] at t';have lW:(h.set L (.lst [.int N'])).length=W:=by simp [hW]
    have eW:(h.set L (.lst [.int N'])++[AO.lst (ws.map AV.str)])[W]? = some (.lst (ws.map AV.str)):=by rw [<- lW];simp
    have eS:(h.set L (.lst [.int N'])++[AO.lst (ws.map AV.str)]).set W (.lst ((ws++[bO z (1+d)]).map AV.str))=h.set L (.lst [.int N'])++[.lst ((ws++[bO z (1+d)]).map AV.str)]:=by rw [<- lW];simp
    have ap:bo (.ref W) [.str (bO z (1+d))] (h.set L (.lst [.int N'])++[AO.lst (ws.map AV.str)]) = .ok .non (h.set L (.lst [.int N'])++[.lst ((ws++[bO z (1+d)]).map AV.str)]):=by
     have sz:(ws.map AV.str).length<sizeLine:=KA (m:=40) (by simp;lia) (by decide)
     rw [<- eS];simp only [bo,eW,sz,Lp,K9,KY,Nr]
    have il:aL (.ref W) (h.set L (.lst [.int N'])++[AO.lst (ws.map AV.str)])=true:=by simp only [aL,dR,eW];rfl
    generalize hk1:h.set L (.lst [.int N'])++[AO.lst (ws.map AV.str)]=h1 at *;generalize hk2:h.set L (.lst [.int N'])++[AO.lst ((ws++[bO z (1+d)]).map AV.str)]=h2 at *;have c1:cG (.str z) none (some (1+(d:Int))) h1 = .ok (.str (bO z (1+d))) h1:=by
     have:=qd (x:=z) (a:=1+d) h1
     rw [NF] at this;exact this
    have c2:cG (.str z) (some (1+(d:Int))) none h2 = .ok (.str (bR z (1+d))) h2:=by
     have:=Ht (x:=z) (a:=1+d) h2
     rw [NF] at this;exact this
    have eB:j4 en hh = .nx [some (.ref p),some (.ref L),some (.str (bR z (1+d))),some (.int v),some (.ref W),some (.int (1+(d:Int))),none,none] h2:=by
     subst een;simp [j4,t',il,c1,ap,c2,-aL,-cG,-bo]
    show thn (j4 en hh) _
    rw [eB];have dl:=iL z (1+d)
    refine ⟨(bR z (1+d)).length,by lia,ws++[bO z (1+d)],bR z (1+d),N',_,hk2.symm,rfl,?_,?_,GQ pz _,rfl,by simp;lia⟩
    ·rw [j9,lj,eE,Hu,cz]
    ·intro w hw
     rcases KI.mp hw with hw | hw
     ·exact pw w hw
     ·rw [K3.mp hw];exact yG pz _)
 exact ⟨ws,N,o5,by rw [q1,q2,q3],q4,q5,q6⟩
theorem zk:∀ (ws:List Str) (w:Str),w∈ws->w.length<=(cg ws).length
 | [],w,h=>nomatch h
 | v::ws,w,h=>by
  show _<=(v++cg ws).length
  rw [cx];rcases KJ.mp h with rfl | h
  ·lia
  ·have:=zk ws w h;lia
theorem qj {α:Type} {xs:List α} {j:Nat} {w:α} (e:xs[j]? = some w):xs.take (j+1)=xs.take j++[w]:=by
 rw [Mw,e];rfl
theorem zm {M n:Nat} {ps:List Pc} {x:Str} (T:TxZ ps n x) (h:x.length<=M):∀ m,(meas ps)[n]? = some m->m.sg<=M:=fun m e=>by
 obtain ⟨m0,e0,s⟩:=T.meas
 rw [e0] at e
 cases e
 lia
theorem uj:∀ (ws:List Str) (j:Nat),(cg (ws.take j)).length<=(cg ws).length
 | [],j=>by rw [List.take_nil];exact Kj _
 | w::ws,0=>KS _
 | w::ws,j+1=>by
  have:=uj ws j
  show (w++cg (ws.take j)).length<=(w++cg ws).length
  rw [cx,cx];lia
theorem uk:∀ ws:List Str,(cg ws.reverse).length=(cg ws).length
 | []=>rfl
 | w::ws=>by
  rw [M3,j9,lj,cx,uk ws];show _=(w++cg ws).length
  rw [cx,LD]
theorem zq {h:AH} {p n:Nat} {ps:List Pc} {x w:Str} (S:ShelfAt h p ps) (g:Good ps) (T:TxZ ps n x) (hx:x.length<=2000) (pw:br w=true) (hw:w.length<=40) (hs:x.length+w.length<=64) (hz:ps.length<13900000) (o1 o2 o3 o4 o5:Option AV) :
  (∃ (n':Nat) (ps':List Pc) (h':AH),jC [some (.ref p),o1,o2,o3,o4,o5,some (.int n),some (.str w)] h = .nx [some (.ref p),o1,o2,o3,o4,o5,some (.int n'),some (.str w)] h'/\Gx p [] h h' ps ps' 1500/\TxZ ps' n' (x++w)) /\
  (∃ (n':Nat) (ps':List Pc) (h':AH),jD [some (.ref p),o1,o2,o3,o4,o5,some (.int n),some (.str w)] h = .nx [some (.ref p),o1,o2,o3,o4,o5,some (.int n'),some (.str w)] h'/\Gx p [] h h' ps ps' 1500/\TxZ ps' n' (w++x)):=by
 obtain ⟨b,ps1,h1,eb,D,T1,al⟩:=yE S g pw (by lia) (by lia)
 have l1:=D.len
 have T0:=T.pre D.pre
 have j1:=yH D.gd T0 T1
 have j2:=yH D.gd T1 T0
 obtain ⟨n1,ps2,h2,d1,T2⟩:=yy D.sh D.gd T0 T1 (by lia) (by lia)
 obtain ⟨n2,ps3,h3,d2,T3⟩:=yy D.sh D.gd T1 T0 (by lia) (by lia)
 have al0:dE 64 ps->dE 64 ps1:=fun f=>al 64 f (by lia)
 have al1:dE 64 ps1->dE 64 ps2:=fun f=>d1.al 64 f (zm T2 (by rw [cx];lia))
 have al2:dE 64 ps1->dE 64 ps3:=fun f=>d2.al 64 f (zm T3 (by rw [cx];lia))
 have e1:=d1.ev
 have e2:=d2.ev
 exact ⟨⟨n1,ps2,h2,by simp [jC,eb,e1],(Gx.dd (M:=[]) D (Kj _) al0).trans (Gx.dd d1.dd j1 al1) (by lia),T2⟩,⟨n2,ps3,h3,by simp [jD,eb,e2],(Gx.dd (M:=[]) D (Kj _) al0).trans (Gx.dd d2.dd j2 al2) (by lia),T3⟩⟩
theorem Hz {h:AH} {p W:Nat} {ps:List Pc} {ws:List Str} (S:ShelfAt h p ps) (g:Good ps) (hW:p+8<W) (eW:h[W]? = some (.lst (ws.map AV.str))) (pw:∀ w∈ws,br w=true) (lw:∀ w∈ws,w.length<=40) (hl:ws.length<=40) (hc:(cg ws).length<=64) (hz:ps.length<13000000) (o1 o2 o3 o4 o5:Option AV) :
  ∃ (n:Nat) (ps':List Pc) (h':AH) (o7:Option AV),cH (some W) (ws.map AV.str) (.nm 7) jC (ws.map AV.str) [some (.ref p),o1,o2,o3,o4,o5,some (.int 0),none] h = .nx [some (.ref p),o1,o2,o3,o4,o5,some (.int n),o7] h'/\Gx p [] h h' ps ps' 60000/\TxZ ps' n (cg ws):=by
 obtain ⟨e',h',r1,r2⟩:=iZ (w:=some W) (all:=ws.map AV.str) (t:=.nm 7) (b:=jC) (xs:=ws.map AV.str) (en:=[some (.ref p),o1,o2,o3,o4,o5,some (.int 0),none]) (h:=h)
  (fun j en hh=>∃ (n:Nat) (ps':List Pc) (o7:Option AV),en=[some (.ref p),o1,o2,o3,o4,o5,some (.int n),o7]/\Gx p [] h hh ps ps' (1500*j)/\TxZ ps' n (cg (ws.take j))/\(cg (ws.take j)).length<=40*j)
  ⟨0,ps,none,rfl,Gx.refl S g [],.inl ⟨rfl,rfl⟩,KS _⟩ (by
   rintro j en hh ⟨n,ps',o7,_,G,_⟩
   have:hh[W]? = some (.lst (ws.map AV.str)):=(G.fr W (.inr hW) (by simp) (aY eW)).trans eW
   simp [this]) (by
   rintro j u en hh hu ⟨n,ps',o7,rfl,G,T,lc⟩
   rw [K6] at hu;obtain ⟨w,ew,rfl⟩:=KU.mp hu
   have hj:=(Kh.mp ew).1
   have mw:=KQ ew
   have gl:=G.len
   obtain ⟨n',ps2,h2,e,G2,T2⟩:=(zq G.sh G.gd T (by lia) (pw w mw) (lw w mw) (by have:=uj ws (j+1);rw [qj ew,j9,lj,cx] at this;lia) (by lia) o1 o2 o3 o4 o5).1
   have ts:cg (ws.take (j+1))=cg (ws.take j)++w:=by rw [qj ew,j9,lj]
   show thn (jC [some (.ref p),o1,o2,o3,o4,o5,some (.int n),some (.str w)] hh) _
   rw [e];exact ⟨n',ps2,_,rfl,G.trans G2 (by lia),by rw [ts];exact T2,by rw [ts,cx];have:=lw w mw;lia⟩)
 rw [Kv] at r2;obtain ⟨n,ps',o7,rfl,G,T,_⟩:=r2
 rw [Mj] at T;exact ⟨n,ps',h',o7,r1,{ G with len:=by have:=G.len;lia },T⟩
theorem HA {h:AH} {p W:Nat} {ps:List Pc} {ws:List Str} (S:ShelfAt h p ps) (g:Good ps) (hW:p+8<W) (eW:h[W]? = some (.lst (ws.map AV.str))) (pw:∀ w∈ws,br w=true) (lw:∀ w∈ws,w.length<=40) (hl:ws.length<=40) (hc:(cg ws).length<=64) (hz:ps.length<13000000) (o1 o2 o3 o4 o5:Option AV) :
  ∃ (n:Nat) (ps':List Pc) (h':AH) (o7:Option AV),cH (some W) (ws.map AV.str) (.nm 7) jD (ws.map AV.str).reverse [some (.ref p),o1,o2,o3,o4,o5,some (.int 0),none] h = .nx [some (.ref p),o1,o2,o3,o4,o5,some (.int n),o7] h'/\Gx p [] h h' ps ps' 60000/\TxZ ps' n (cg ws):=by
 rw [<- List.map_reverse];obtain ⟨vs,ev⟩:∃ vs,vs=ws.reverse:=⟨_,rfl⟩
 rw [<- ev];have lv:vs.length=ws.length:=by rw [ev,LN]
 obtain ⟨e',h',r1,r2⟩:=iZ (w:=some W) (all:=ws.map AV.str) (t:=.nm 7) (b:=jD) (xs:=vs.map AV.str) (en:=[some (.ref p),o1,o2,o3,o4,o5,some (.int 0),none]) (h:=h)
  (fun j en hh=>∃ (n:Nat) (ps':List Pc) (o7:Option AV),en=[some (.ref p),o1,o2,o3,o4,o5,some (.int n),o7]/\Gx p [] h hh ps ps' (1500*j)/\TxZ ps' n (cg (vs.take j).reverse)/\(cg (vs.take j).reverse).length<=40*j)
  ⟨0,ps,none,rfl,Gx.refl S g [],.inl ⟨rfl,rfl⟩,KS _⟩ (by
   rintro j en hh ⟨n,ps',o7,_,G,_⟩
   have:hh[W]? = some (.lst (ws.map AV.str)):=(G.fr W (.inr hW) (by simp) (aY eW)).trans eW
   simp [this]) (by
   rintro j u en hh hu ⟨n,ps',o7,rfl,G,T,lc⟩
   rw [K6] at hu;obtain ⟨w,ew,rfl⟩:=KU.mp hu
   have hj:=(Kh.mp ew).1
   have mw:w∈ws:=by have:=KQ ew;rw [ev] at this;exact List.mem_reverse.mp this
   have gl:=G.len
   obtain ⟨n',ps2,h2,e,G2,T2⟩:=(zq G.sh G.gd T (by lia) (pw w mw) (lw w mw) (by have:=uj vs (j+1);rw [qj ew,j9,lj,cx] at this;have h2:=uk ws;rw [<- ev] at h2;have h3:=uk (vs.take j);lia) (by lia) o1 o2 o3 o4 o5).2
   have ts:cg (vs.take (j+1)).reverse=w++cg (vs.take j).reverse:=by rw [qj ew,List.reverse_append];rfl
   show thn (jD [some (.ref p),o1,o2,o3,o4,o5,some (.int n),some (.str w)] hh) _
   rw [e];exact ⟨n',ps2,_,rfl,G.trans G2 (by lia),by rw [ts];exact T2,by rw [ts,cx];have:=lw w mw;lia⟩)
 rw [Kv] at r2;obtain ⟨n,ps',o7,rfl,G,T,_⟩:=r2
 rw [Mj,ev,List.reverse_reverse] at T;exact ⟨n,ps',h',o7,r1,{ G with len:=by have:=G.len;lia },T⟩
theorem HB {h:AH} {p L:Nat} {ps:List Pc} {y:Str} (S:ShelfAt h p ps) (g:Good ps) (hL:p+8<L) (eL:∃ N:Int,h[L]? = some (.lst [.int N])) (py:br y=true) (hy:y.length<=40) (hz:ps.length<13000000) :
  ∃ (n:Nat) (ps':List Pc) (h':AH),jE [.ref p,.ref L,.str y] h = .ok (.int n) h'/\Gx p [L] h h' ps ps' 60000/\TxZ ps' n y/\∃ N:Int,h'[L]? = some (.lst [.int N]):=by
 obtain ⟨N,eL⟩:=eL
 have Ll:=aY eL
 obtain ⟨u,N1,hu,t1⟩:=lB 3 eL (by decide) (by decide)
 have t1':bV [.ref L,.int 3] h = .ok (.int u) (h.set L (.lst [.int N1])):=t1
 have G1:Gx p [L] h (h.set L (.lst [.int N1])) ps ps 0:=Gx.set S g (.inr hL) [L] (by simp) _
 have e1:(h.set L (.lst [.int N1]))[L]? = some (.lst [.int N1]):=Ko Ll
 have l1:L<(h.set L (.lst [.int N1])).length:=aY e1
 generalize h.set L (.lst [.int N1])=h1 at *;by_cases q0:u=0
 ·subst q0
  obtain ⟨n,ps2,h2,eb,D,T,al⟩:=yE G1.sh G1.gd py (by lia) (by lia)
  exact ⟨n,ps2,h2,by simp [jE,t1',eb],G1.trans (Gx.dd D (Kj _) (fun f=>al 64 f (by lia))) (by lia),T,N1,(D.fr L (.inr hL)).trans e1⟩
 ·obtain ⟨ws,N2,o5,ew,cw,pw,lw⟩:=Hy (p:=p) (W:=h1.length) py hy rfl ⟨N1,e1⟩ u
  have G2:Gx p [L] h1 (h1.set L (.lst [.int N2])) ps ps 0:=Gx.set G1.sh G1.gd (.inr hL) [L] (by simp) _
  have lnW:(h1.set L (.lst [.int N2])).length=h1.length:=by simp
  have G3:=(G1.trans G2 (Kj _)).app [.lst (ws.map AV.str)]
  have eW:(h1.set L (.lst [.int N2])++[AO.lst (ws.map AV.str)])[h1.length]? = some (.lst (ws.map AV.str)):=by rw [<- lnW];simp
  have eL3:(h1.set L (.lst [.int N2])++[AO.lst (ws.map AV.str)])[L]? = some (.lst [.int N2]):=by rw [Ki (by rw [lnW];exact l1)];exact Ko l1
  generalize h1.set L (.lst [.int N2])++[AO.lst (ws.map AV.str)]=h3 at *;have wl:∀ w∈ws,w.length<=40:=fun w hw=>by have:=zk ws w hw;rw [cw] at this;lia
  have lm:(dw af) [some (.ref p),some (.ref L),some (.str y),some (.int u),none,none,none,none] h1 = .ok (.ref h1.length) (h1++[.lst []]):=rfl
  have z0:aH (.int u) (.int 0) h1 = .ok (.bl false) h1:=by simp [q0]
  by_cases q1:u=1
  ·have z1:aH (.int u) (.int 1) h3 = .ok (.bl true) h3:=by simp [q1]
   obtain ⟨n,ps4,h4,o7,ef,G4,T⟩:=Hz G3.sh G3.gd (by lia) eW pw wl lw (by rw [cw];lia) (by lia) (some (.ref L)) (some (.str "")) (some (.int u)) (some (.ref h1.length)) o5
   have it:aK (ae 4) [some (.ref p),some (.ref L),some (.str ""),some (.int u),some (.ref h1.length),o5,some (.int 0),none] h3 = .ok (ws.map AV.str,some h1.length) h3:=by simp [eW]
   have f1:=(g8 (t:=.nm 7) (b:=jC) it).trans ef
   refine ⟨n,ps4,h4,?_,G3.trans (G4.more (fun _ z=>(nomatch z))) (by lia),by rw [<- cw];exact T,N2,(G4.fr L (.inr hL) (fun z=>nomatch z) (aY eL3)).trans eL3⟩
   unfold jE
   generalize bf (aK (ae 4)) (.nm 7) jC=F1 at *;generalize kL (ae 4) (.nm 7) jD=F2 at *;generalize bF (aQ (ah aI (ae 2) (ai (.str "")))) j4 cf=WH at *;generalize dw af=LM at *;generalize h1++[AO.lst []]=h2 at *;simp [t1',z0,lm,ew,z1,f1,-aH]
  ·have z1:aH (.int u) (.int 1) h3 = .ok (.bl false) h3:=by
    have : ¬ (u:Int)=1:=by lia
    simp [this]
   obtain ⟨n,ps4,h4,o7,ef,G4,T⟩:=HA G3.sh G3.gd (by lia) eW pw wl lw (by rw [cw];lia) (by lia) (some (.ref L)) (some (.str "")) (some (.int u)) (some (.ref h1.length)) o5
   have f2:kL (ae 4) (.nm 7) jD [some (.ref p),some (.ref L),some (.str ""),some (.int u),some (.ref h1.length),o5,some (.int 0),none] h3 = .nx [some (.ref p),some (.ref L),some (.str ""),some (.int u),some (.ref h1.length),o5,some (.int n),o7] h4:=by
    rw [<- ef];have v4:ae 4 [some (.ref p),some (.ref L),some (.str ""),some (.int u),some (.ref h1.length),o5,some (.int 0),none] h3 = .ok (.ref h1.length) h3:=rfl
    unfold kL
    rw [v4];dsimp only;rw [eW]
   refine ⟨n,ps4,h4,?_,G3.trans (G4.more (fun _ z=>(nomatch z))) (by lia),by rw [<- cw];exact T,N2,(G4.fr L (.inr hL) (fun z=>nomatch z) (aY eL3)).trans eL3⟩
   unfold jE
   generalize bf (aK (ae 4)) (.nm 7) jC=F1 at *;generalize kL (ae 4) (.nm 7) jD=F2 at *;generalize bF (aQ (ah aI (ae 2) (ai (.str "")))) j4 cf=WH at *;generalize dw af=LM at *;generalize h1++[AO.lst []]=h2 at *;simp [t1',z0,lm,ew,z1,f2,-aH]
end Sk
namespace Sk
open PySem PySem.Spec L2 Sm
theorem HC {h:AH} {W:Nat} {st:List Un} (e:h[W]? = some (.lst (st.reverse.map uv))):aH (.ref W) (.fl []) h = .ok (.bl (decide (st=[]))) h:=by
 show (match fX (.ref W) (.fl []) h with | some b=>Out.ok (AV.bl b) h | none=>Out.bad)=_
 rw [og e]
 cases st with
 | nil=>rfl
 | cons a b=>simp
theorem HD {ps:List Pc} {t:Nat} {m f l:Ms} {x:Str} (T:Tx ps t m x f l):∀ u∈([.n t]:List Un),OkU ps u:=fun u hu=>by rw [K3] at hu;subst hu;exact .n T
abbrev cS (c:Nat):AV:=.str ⟨#[c]⟩
theorem HE (cs:List Nat):(dr cs).map uv=cs.map cS:=by
 unfold dr
 rw [Of];rfl
theorem hV:∀ a b:List Un,cQ (a++b)=cQ a++cQ b
 | [],b=>rfl
 | .n k::a,b=>by rw [L5,cQ,cQ,hV a b,L5]
 | .s w::a,b=>by rw [L5,cQ,cQ,hV a b,KN]
def Kg (U:List Un) (h:AH) (a:Af) (o:Out AV):Prop:=match a with
 | .bad=>o = .ok .non h
 | .out=>o = .ok (.int (-1)) h
 | .at r=>∃ k:Nat,k<=U.length/\r=U.drop k/\o = .ok (.int k) h
theorem HG {h:AH} {R k:Nat} {U:List Un} {u:Un} (eR:h[R]? = some (.lst (U.map uv))) (eu:U[k]? = some u):aB (.ref R) (.int k) h = .ok (uv u) h:=by
 have:=x3 (f:=uv) eu
 simp only [aB,eR,this]
theorem i6 (a b:Int) (h:AH):aH (.int a) (.int b) h = .ok (.bl (decide (a=b))) h:=by simp
theorem ow (h:AH):cU (.int 1) h = .ok (.int (-1)) h:=rfl
end Sk
namespace Sk
open PySem PySem.Spec L2 Sm
theorem zr (h:AH):aH .non (.fl []) h = .ok (.bl false) h:=by
 show (match fX .non (.fl []) h with | some b=>Out.ok (AV.bl b) h | none=>Out.bad)=_
 have:fX .non (.fl []) h=some false:=by
  show some (PyData.eqv .none (.list []))=_
  simp [PyData.eqv]
 rw [this]
theorem HH {h:AH} {p t:Nat} {ps:List Pc} {its:List Un} {v:AV} {w:Option Nat} {m f l:Ms} {x:Str} (S:ShelfAt h p ps) (g:Good ps) (T:Tx ps t m x f l) (sr:SrcI h its v w) (oi:∀ i∈its,cL ps i) :
  ∃ (o:AO) (b:Bool),d5 [.ref p,.int t,v] h = .ok (.bl b) (h++[o])/\(b=true ↔ bG ps its [.n t]=some []):=by
 rcases y4 S g T sr oi with ⟨s1,e1,f1⟩ | ⟨e1,Z,f1⟩
 ·have W1:(h++[AO.lst (s1.reverse.map uv)])[h.length]? = some (.lst (s1.reverse.map uv)):=by simp
  have q:=HC W1
  refine ⟨.lst (s1.reverse.map uv),decide (s1=[]),?_,?_⟩
  ·generalize h++[AO.lst (s1.reverse.map uv)]=H1 at *
   simp [d5,f1,q,-aH]
  ·rw [e1,decide_eq_true_iff]
   exact ⟨fun z=>by rw [z],fun z=>K4 z⟩
 ·refine ⟨.lst Z,false,?_,by rw [e1];exact ⟨fun z=>(by cases z),fun z=>(by cases z)⟩⟩
  have q:=zr (h++[.lst Z])
  generalize h++[AO.lst Z]=H1 at *;simp [d5,f1,q,-aH]
theorem HI (W:Nat) (h:AH):gP (.ref W) .non h = .ok (.bl true) h:=by
 simp only [gP]
 rw [KH (fun z=>by cases z)];rfl
theorem zu (h:AH):gP .non .non h = .ok (.bl false) h:=by
 simp [gP]
theorem HJ {h:AH} {p t:Nat} {ps:List Pc} {its:List Un} {v:AV} {w:Option Nat} {m f l:Ms} {x:Str} (S:ShelfAt h p ps) (g:Good ps) (T:Tx ps t m x f l) (sr:SrcI h its v w) (oi:∀ i∈its,cL ps i) :
  ∃ (o:AO) (b:Bool),iY [.ref p,.int t,v] h = .ok (.bl b) (h++[o])/\(b=true ↔ bG ps its [.n t]≠none):=by
 rcases y4 S g T sr oi with ⟨s1,e1,f1⟩ | ⟨e1,Z,f1⟩
 ·have q:=HI h.length (h++[AO.lst (s1.reverse.map uv)])
  refine ⟨.lst (s1.reverse.map uv),true,?_,?_⟩
  ·generalize h++[AO.lst (s1.reverse.map uv)]=H1 at *
   simp [iY,f1,q,-gP]
  ·rw [e1]
   exact ⟨fun _ z=>(by cases z),fun _=>rfl⟩
 ·refine ⟨.lst Z,false,?_,by rw [e1];exact ⟨fun z=>(by cases z),fun z=>absurd rfl z⟩⟩
  have q:=zu (h++[.lst Z])
  generalize h++[AO.lst Z]=H1 at *;simp [iY,f1,q,-gP]
end Sk
namespace Sk
open PySem PySem.Spec L2 Sm
structure Fr (L:Nat) (h h':AH):Prop where
 fr:∀ i,i<h.length->i≠L->h'[i]? = h[i]?
 hl:h.length<=h'.length
 ro:∃ N:Int,h'[L]? = some (.lst [.int N])
theorem Fr.trans {L:Nat} {h h' h'':AH} (a:Fr L h h') (b:Fr L h' h''):Fr L h h'' :=
 ⟨fun i hi n=>(b.fr i (KP hi a.hl) n).trans (a.fr i hi n),Kn a.hl b.hl,b.ro⟩
theorem Fr.app {L:Nat} {h h':AH} (a:Fr L h h') (r:AH):Fr L h (h' ++ r):=by
 obtain ⟨N,e⟩:=a.ro
 exact ⟨fun i hi n=>by rw [Ki (KP hi a.hl)];exact a.fr i hi n,by rw [Kq];have:=a.hl;lia,N,by rw [Ki (aY e)];exact e⟩
theorem Fr.set {L:Nat} {h h':AH} (a:Fr L h h') (N':Int):Fr L h (h'.set L (.lst [.int N'])):=by
 obtain ⟨N,e⟩:=a.ro
 exact ⟨fun i hi n=>by rw [Kr (Ne.symm n)];exact a.fr i hi n,by rw [Lm];exact a.hl,N',Ko (aY e)⟩
theorem Fr.new {L R:Nat} {h h':AH} (a:Fr L h h') (hR:h.length<=R) (hL:L<h.length) (o:AO):Fr L h (h'.set R o):=by
 obtain ⟨N,e⟩:=a.ro
 exact ⟨fun i hi n=>by rw [Kr (by lia)];exact a.fr i hi n,by rw [Lm];exact a.hl,N,by rw [Kr (by lia)];exact e⟩
theorem Fr.take {L:Nat} {h h':AH} (a:Fr L h h') (m:Nat) (hm:0<m) (hm2:m<=10 ^ 50):∃ (v:Nat) (N:Int),v<m/\bV [.ref L,.int m] h' = .ok (.int v) (h'.set L (.lst [.int N]))/\Fr L h (h'.set L (.lst [.int N])):=by
 obtain ⟨N,e⟩:=a.ro
 obtain ⟨v,N',hv,t⟩:=lB m e hm hm2
 exact ⟨v,N',hv,t,a.set N'⟩
theorem zv:∀ cs:List Nat,cQ (dr cs)=dr cs
 | []=>rfl
 | c::cs=>by
  show dr [c]++cQ (dr cs)=_
  rw [zv cs];rfl
theorem HK {α:Type} (l:List α) (k:Nat):dO l none (some (k:Int))=l.take k:=by
 unfold dO
 rw [HT.sIx_nat,HT.sIx_none];by_cases hk:k<=l.length
 ·rw [LR hk];simp
 ·rw [Nj (by lia),Lg (l:=l) (by lia)];simp
theorem HM {x:Str} (x1:1<=x.length) (h:AH):cG (.str x) none (some (-1)) h = .ok (.str (bO x (x.length-1))) h:=by
 have:bZ x none (some (-1))=bO x (x.length-1):=cW (by
  rw [iK];unfold bZ
  rw [HT.sIx_none];have:HT.sIx x.cps.toList.length x.cps.toList.length (some (-1))=x.length-1:=by
   rw [<- bK];simp [HT.sIx]
   lia
  rw [this];simp)
 simp only [cG,this]
theorem um {ps:List Pc}:∀ {st:List Un},(∀ u∈st,OkU ps u)->st.length<=(aM ps st).length
 | [],_=>Kj _
 | u::st,ok=>by
  have a:=(ok u (Km ..)).pos
  have b:=um (st:=st) fun v hv=>ok v (Kp _ hv)
  rw [aM,Kq,Kk];lia
abbrev eS (p t L R:Nat) (o5 o6 o7:Option AV):En:=[some (.ref p),some (.int t),some (.ref L),some (.ref R),some (.ref (R+1)),o5,o6,o7]
abbrev hX:SB:=aQ (ah aI (ae 4) (aS af))
structure Sq (p L R:Nat) (h0 hh:AH) (ps:List Pc) (its st:List Un):Prop where
 sh:ShelfAt hh p ps
 eI:hh[R]? = some (.lst (its.map uv))
 eW:hh[R+1]? = some (.lst (st.reverse.map uv))
 fr:Fr L h0 hh
 rl:h0.length<=R
 pl:p+8<L
 ll:L<h0.length
theorem Sq.setI {p L R:Nat} {h0 hh:AH} {ps:List Pc} {its st its2:List Un} (s:Sq p L R h0 hh ps its st):Sq p L R h0 (hh.set R (.lst (its2.map uv))) ps its2 st:=by
 have a:=s.pl
 have b:=s.ll
 have c:=s.rl
 exact ⟨eZ s.sh (by lia) _,Ko (aY s.eI),by rw [Kr (by lia)];exact s.eW,s.fr.new c b _,c,a,b⟩
theorem Sq.setW {p L R:Nat} {h0 hh:AH} {ps:List Pc} {its st st2:List Un} (s:Sq p L R h0 hh ps its st):Sq p L R h0 (hh.set (R+1) (.lst (st2.reverse.map uv))) ps its st2:=by
 have a:=s.pl
 have b:=s.ll
 have c:=s.rl
 exact ⟨eZ s.sh (by lia) _,by rw [Kr (by lia)];exact s.eI,Ko (aY s.eW),s.fr.new (by lia) b _,c,a,b⟩
theorem Sq.app {p L R:Nat} {h0 hh:AH} {ps:List Pc} {its st:List Un} (s:Sq p L R h0 hh ps its st) (r:AH):Sq p L R h0 (hh++r) ps its st :=
 ⟨s.sh.app r,by rw [Ki (aY s.eI)];exact s.eI,by rw [Ki (aY s.eW)];exact s.eW,s.fr.app r,s.rl,s.pl,s.ll⟩
theorem Sq.take {p L R:Nat} {h0 hh:AH} {ps:List Pc} {its st:List Un} (s:Sq p L R h0 hh ps its st) (m:Nat) (hm:0<m) (hm2:m<=10 ^ 50):∃ (v:Nat) (h2:AH),v<m/\bV [.ref L,.int m] hh = .ok (.int v) h2/\Sq p L R h0 h2 ps its st:=by
 obtain ⟨v,N,hv,t,F⟩:=s.fr.take m hm hm2
 have a:=s.pl
 have b:=s.ll
 have c:=s.rl
 exact ⟨v,_,hv,t,eZ s.sh a _,by rw [Kr (by lia)];exact s.eI,by rw [Kr (by lia)];exact s.eW,F,c,a,b⟩
theorem Sq.pop {p L R:Nat} {h0 hh:AH} {ps:List Pc} {its st:List Un} {u:Un} (s:Sq p L R h0 hh ps its (u::st)):∃ h2,aL (.ref (R+1)) hh=true/\bc (.ref (R+1)) [] hh = .ok (uv u) h2/\Sq p L R h0 h2 ps its st:=by
 have e:=s.eW
 rw [hG] at e;exact ⟨_,by simp [e],fG e,s.setW⟩
theorem Sq.addI {p L R:Nat} {h0 hh:AH} {ps:List Pc} {its st:List Un} (s:Sq p L R h0 hh ps its st) (hl:its.length<=1000) (i:Un):∃ h2,aL (.ref R) hh=true/\bo (.ref R) [uv i] hh = .ok .non h2/\Sq p L R h0 h2 ps (its++[i]) st:=by
 refine ⟨_,by simp [s.eI],?_,s.setI⟩
 have:(its.map uv).length<sizeLine:=KA (m:=1000) (by rw [Kv];exact hl) (by decide)
 simp only [bo,s.eI,this,Lp,K9]
 rfl
theorem Sq.extI {p L R:Nat} {h0 hh:AH} {ps:List Pc} {its st js:List Un} (s:Sq p L R h0 hh ps its st) (hl:its.length<=1000) (hj:js.length<=1000):∃ h2,aL (.ref R) hh=true/\gy (.ref R) [.ref hh.length] (hh++[.lst (js.map uv)]) = .ok .non h2/\Sq p L R h0 h2 ps (its++js) st:=by
 have s1:=s.app [.lst (js.map uv)]
 refine ⟨_,by simp [s.eI],?_,s1.setI⟩
 have e2:(hh++[AO.lst (js.map uv)])[hh.length]? = some (.lst (js.map uv)):=by simp
 have:(its.map uv).length+(js.map uv).length<=sizeLine:=Kn (m:=2000) (by rw [Kv,Kv];lia) (by decide)
 simp only [gy,s1.eI,e2,this,Lp,K9]
theorem Sq.extW {p L R a b:Nat} {h0 hh:AH} {ps:List Pc} {its st:List Un} (s:Sq p L R h0 hh ps its st) (hl:st.length<=1000):∃ h2,aL (.ref (R+1)) hh=true/\gy (.ref (R+1)) [.ref hh.length] (hh++[.lst [.int b,.int a]]) = .ok .non h2/\Sq p L R h0 h2 ps its (.n a :: .n b::st):=by
 have s1:=s.app [.lst [.int b,.int a]]
 have e2:(hh++[AO.lst [.int b,.int a]])[hh.length]? = some (.lst [.int b,.int a]):=by simp
 have:(st.reverse.map uv).length+([AV.int b,AV.int a]).length<=sizeLine:=Kn (m:=2000) (by rw [Kv,LN];show _+2<=_;lia) (by decide)
 have e3:st.reverse.map uv++[.int b,.int a]=(.n a :: .n b::st:List Un).reverse.map uv:=by rw [hG,hG];simp
 refine ⟨_,by simp [s.eW],?_,s1.setW (st2:=.n a :: .n b::st)⟩
 simp only [gy,s1.eW,e2,this,Lp,e3]
theorem uo {hh:AH} {en:En} {x:Str} {e:SE} (ee:e en hh = .ok (.str x) hh) (hx:x.length<=8):kF [] (aK e) aR (ae 0) en hh = .ok (.ref hh.length) (hh++[.lst (x.cps.toList.map cS)]):=by
 have:=xV (js:=[]) (en:=en) (w:=none) (all:=x.cps.toList.map cS) (e:=ae 0) (g:=cS) (f:=cS) (h:=hh) rfl x.cps.toList [] (fun c _=>rfl) (Kn (m:=8) (by simp only [LJ];rw [<- bK];lia) (by decide))
 simp only [kF,aK,ee,Out.bind]
 rw [this];rfl
structure qk (ps:List Pc) (t:Nat) (N:Nat) (its st:List Un):Prop where
 ex:∃ its',cQ its'=cQ its/\(∀ i∈its',OkI ps i)/\Cs ps [.n t] its' st
 nu:∀ u∈st,∃ j,u=Un.n j
 oi:∀ i∈its,OkI ps i
 ln:its.length+(aM ps st).length<=N
theorem HP {p t L R j N:Nat} {h0 hh:AH} {ps:List Pc} {its st:List Un} {o5 o6 o7:Option AV} (g:Good ps) (hN:N<=100) (s:Sq p L R h0 hh ps its (.n j::st)) (q:qk ps t N its (.n j::st)) :
  ∃ (h2:AH) (its2 st2:List Un) (c5 c6 c7:Option AV),g7 (eS p t L R o5 o6 o7) hh = .nx (eS p t L R c5 c6 c7) h2/\Sq p L R h0 h2 ps its2 st2/\qk ps t N its2 st2/\2*(aM ps st2).length-st2.length<2*(aM ps (.n j::st)).length-(st.length+1):=by
 obtain ⟨⟨its',ef,oi',cs⟩,nu,oi,ln⟩:=q
 have nu':∀ u∈st,∃ j,u=Un.n j:=fun u hu=>nu u (Kp _ hu)
 have snoc:∀ {l:List Un} {i:Un},(∀ j∈l,OkI ps j)->OkI ps i->∀ j∈l++[i],OkI ps j:=fun a b j hj=>(KI.mp hj).elim (a j) fun z=>by rw [K3] at z;subst z;exact b
 have okL:=cs.oki g
 have okst:∀ u∈st,OkI ps u:=fun u hu=>okL u (Kp _ hu)
 have lst:=um (eY okst)
 have rdj:(aM ps (.n j::st)).length=(iM ps (.n j)).length+(aM ps st).length:=by rw [aM,Kq]
 obtain ⟨h1,il1,po,s1⟩:=s.pop
 cases okL _ (Km ..) with
 | @n _ m f l x T =>
  have t1:=T.n1
  have po':bc (.ref (R+1)) [] hh = .ok (.int j) h1:=po
  have pj:=(OkU.n T).pos
  have ne:aI (.int j) (.int 0) h1 = .ok (.bl true) h1:=by simp;lia
  obtain ⟨v,h2,hv,tk,s2⟩:=s1.take 4 (by decide) (by decide)
  have tk':bV [.ref L,.int 4] h1 = .ok (.int v) h2:=tk
  have ob1:=s1.sh.ob
  have q0:=i6 v 0 h2
  have q1:=i6 v 1 h2
  have len1:its.length<=1000:=by lia
  by_cases v0:v=0
  ·rw [Ld (by lia)] at q0
   obtain ⟨h3,il3,ap,s3⟩:=s2.addI len1 (.n j)
   have ap':bo (.ref R) [.int j] h2 = .ok .non h3:=ap
   obtain ⟨pv,fp⟩:∃ pv,dZ [.ref p,.int j] h1 = .ok pv h1:=by
    rcases g.kind T with ⟨e,_⟩ | ⟨a,b,ma,mb,y,z,fa,la,fb,lb,e,_⟩
    ·exact ⟨_,jL s1.sh t1 e⟩
    ·exact ⟨_,gq s1.sh t1 e⟩
   refine ⟨h3,its++[.n j],st,some (.int j),some pv,some (.int v),?_,s3,⟨⟨its' ++ [.n j],by rw [hV,hV,ef],snoc oi' (.n T),cs.num g⟩,nu',fun i hi=>?_,by rw [Kq];show _+1+_<=_;lia⟩,by lia⟩
   ·simp only [eS]
    generalize R+1=R1 at *;simp [g7,il1,po',ne,ob1,fp,tk',q0,il3,ap',-aL,-bc,-aI,-aH,-bo]
   ·rcases KI.mp hi with hi | hi
    ·exact oi i hi
    ·rw [K3] at hi;subst hi;exact .n T
  ·rw [KH (by lia)] at q0
   rcases g.kind T with ⟨e,_,_,x1,x8⟩ | ⟨a,b,ma,mb,y,z,fa,la,fb,lb,e,e2,_,A,B,y1,y2,_⟩
   ·have fp:=jL s1.sh t1 e
    have i0:=nX x h2
    have j1:=nY x h2
    have el:aH (.str "leaf") (.str "fork") h2 = .ok (.bl false) h2:=by
     have : ¬ (Str.ofString "leaf" : Str)=Str.ofString "fork" := by decide +kernel
     simp [this]
    have nx:bg ps 90 (.n j::st)=(x,st):=by unfold bg;rw [e]
    have tx:=cs.txt g nx x1 (Kj _)
    have et:bO x x.length=x:=GO (Kj _)
    have ed:bR x x.length = "" := GP (Kj _)
    have ep:da "" st=st:=by unfold da;rw [Ku rfl]
    rw [et,ed,ep] at tx;have rx:(iM ps (.n j)).length=x.length:=by rw [dq T,<- bK]
    by_cases v1:v=1
    ·rw [Ld (by lia)] at q1
     obtain ⟨h3,il3,ap,s3⟩:=s2.addI len1 (.s x)
     have ap':bo (.ref R) [.str x] h2 = .ok .non h3:=ap
     refine ⟨h3,its++[.s x],st,some (.int j),some (.tup [.str "leaf",.str x]),some (.int v),?_,s3,⟨⟨its' ++ [.s x],by rw [hV,hV,ef],snoc oi' tx.1,tx.2⟩,nu',fun i hi=>?_,by rw [Kq];show _+1+_<=_;lia⟩,by lia⟩
     ·simp only [eS]
      generalize R+1=R1 at *;simp [g7,il1,po',ne,ob1,fp,tk',q0,q1,i0,j1,el,il3,ap',-aL,-bc,-aI,-aH,-bo,-aB]
     ·rcases KI.mp hi with hi | hi
      ·exact oi i hi
      ·rw [K3] at hi;subst hi;exact tx.1
    ·rw [KH (by lia)] at q1
     obtain ⟨h3,il3,ex,s3⟩:=s2.extI (js:=dr x.cps.toList) len1 (by rw [dr,Kv,<- bK];(clear v1 rx ep ed et tx nx el j1 i0 fp x1 e v0 len1 q1 q0 ob1 tk' s2 tk hv ne pj po' t1 T s1 po il1 rdj lst okst okL snoc nu' cs oi' ef ln oi nu s hN g;lia))
     rw [HE] at ex;have cm:=uo (en:=[some (.ref p),some (.int t),some (.ref L),some (.ref R),some (.ref (R+1)),some (.int j),some (.tup [.str "leaf",.str x]),some (.int v)]) (e:=ah aB (ae 6) (ai (.int 1))) (hh:=h2) (x:=x) (by simp [j1,-aB]) x8
     have pl:br x=true:=T.ky.pl
     refine ⟨h3,its++dr x.cps.toList,st,some (.int j),some (.tup [.str "leaf",.str x]),some (.int v),?_,s3,⟨⟨its' ++ [.s x],?_,snoc oi' tx.1,tx.2⟩,nu',fun i hi=>?_,?_⟩,by lia⟩
     ·simp only [eS]
      generalize R+1=R1 at *;generalize h2++[AO.lst (x.cps.toList.map cS)]=H9 at *;unfold g7
      generalize kF [] (aK (ah aB (ae 6) (ai (.int 1)))) aR (ae 0)=CM at *;simp [il1,po',ne,ob1,fp,tk',q0,q1,i0,j1,el,il3,cm,ex,-aL,-bc,-aI,-aH,-gy,-aB]
     ·rw [hV,hV,ef,zv]
      congr 1
      exact K8 _
     ·rcases KI.mp hi with hi | hi
      ·exact oi i hi
      ·exact za _ (La.mp (by simpa [br] using pl)) i hi
     ·rw [Kq,dr,Kv,<- bK]
      lia
   ·have fp:=gq s1.sh t1 e
    have i0:=mr a b h2
    have j1:∀ hh,aB (.tup [.str "fork",.int a,.int b]) (.int 1) hh = .ok (.int a) hh:=fun _=>rfl
    have j2:∀ hh,aB (.tup [.str "fork",.int a,.int b]) (.int 2) hh = .ok (.int b) hh:=fun _=>rfl
    have el:aH (.str "fork") (.str "fork") h2 = .ok (.bl true) h2:=by simp
    obtain ⟨h3,il3,ex,s3⟩:=s2.extW (a:=a) (b:=b) (by lia)
    have cs2:=cs.opn (.open (.refl _) e)
    have rd2:aM ps (.n a :: .n b::st)=aM ps (.n j::st):=by rw [aM,aM,aM,dq T,dq A,dq B,y1,dH,KN]
    refine ⟨h3,its,.n a :: .n b::st,some (.int j),some (.tup [.str "fork",.int a,.int b]),some (.int v),?_,s3,⟨⟨its',ef,oi',cs2⟩,fun u hu=>?_,oi,by rw [rd2];exact ln⟩,?_⟩
    ·simp only [eS]
     generalize R+1=R1 at *;simp [g7,il1,po',ne,ob1,fp,tk',q0,i0,j1,j2,el,il3,ex,-aL,-bc,-aI,-aH,-gy,-aB]
    ·rcases KJ.mp hu with rfl | hu
     ·exact ⟨a,rfl⟩
     ·rcases KJ.mp hu with rfl | hu
      ·exact ⟨b,rfl⟩
      ·exact nu' u hu
    ·rw [rd2,Kk,Kk]
     have:=(OkU.n A).pos
     have:=(OkU.n B).pos
     have z1:=congrArg List.length rd2
     rw [aM,aM,Kq,Kq] at z1;lia
theorem zw {h:AH} {p L t:Nat} {ps:List Pc} {x:Str} (S:ShelfAt h p ps) (g:Good ps) (hL:p+8<L) (eL:∃ N:Int,h[L]? = some (.lst [.int N])) (T:TxZ ps t x) (lx:x.length<=100) :
  ∃ (its:List Un) (h':AH),iX [.ref p,.int t,.ref L] h = .ok (.ref h.length) h'/\h'[h.length]? = some (.lst (its.map uv))/\Fr L h h'/\ShelfAt h' p ps/\(∀ i∈its,OkI ps i)/\its.length<=100/\(t=0->its=[])/\(t≠0->bG ps (cQ its) [.n t]=some []):=by
 obtain ⟨N0,eN⟩:=eL
 have Ll:=aY eN
 have F0:Fr L h h:=⟨fun _ _ _=>rfl,Kj _,N0,eN⟩
 have s0:∀ (l:List Un),Sq p L h.length h (h++[.lst [],.lst (l.reverse.map uv)]) ps [] l:=fun l =>
  ⟨S.app _,by simp,by rw [K2 (by lia)];simp,F0.app _,Kj _,hL,Ll⟩
 have l2:(h++[AO.lst []]).length=h.length+1:=by simp
 have a2:∀ o,h++[AO.lst []]++[o]=h++[.lst [],o]:=fun o=>by simp
 have fin:∀ (its:List Un) (hf:AH) (o5 o6 o7:Option AV),bF hX g7 cf (eS p t L h.length none none none) (h++[.lst [],.lst [.int t]]) = .nx (eS p t L h.length o5 o6 o7) hf->iX [.ref p,.int t,.ref L] h = .ok (.ref h.length) hf:=fun its hf o5 o6 o7 wl=>by
  have wl':bF hX g7 cf [some (.ref p),some (.int t),some (.ref L),some (.ref h.length),some (.ref (h.length+1)),none,none,none] (h++[.lst [],.lst [.int t]]) = .nx [some (.ref p),some (.int t),some (.ref L),some (.ref h.length),some (.ref (h.length+1)),o5,o6,o7] hf:=wl
  unfold iX
  generalize bF hX g7 cf=WL at *;simp [l2,a2,wl']
 rcases T with ⟨rfl,rfl⟩ | ⟨m,f,l,T⟩
 ·have s1:Sq p L h.length h (h++[.lst [],.lst (([.n 0]:List Un).reverse.map uv)]) ps [] [.n 0]:=s0 [.n 0]
  obtain ⟨h1,il1,po,s2⟩:=s1.pop
  have cn:hX (eS p 0 L h.length none none none) (h++[.lst [],.lst [.int 0]]) = .ok true (h++[.lst [],.lst [.int 0]]):=by
   have nn:=kb (u:=.n 0) (st:=[]) s1.eW
   have nn':aI (.ref (h.length+1)) (.fl []) (h++[.lst [],.lst [.int 0]]) = .ok (.bl true) (h++[.lst [],.lst [.int 0]]):=nn
   simp only [eS]
   generalize h++[AO.lst [],AO.lst [.int 0]]=H0 at *;generalize h.length+1=R1 at *;simp [hX,nn',-aI]
  have eb:g7 (eS p 0 L h.length none none none) (h++[.lst [],.lst [.int 0]]) = .nx (eS p 0 L h.length (some (.int 0)) none none) h1:=by
   have po':bc (.ref (h.length+1)) [] (h++[.lst [],.lst [.int 0]]) = .ok (.int 0) h1:=po
   have il1':aL (.ref (h.length+1)) (h++[.lst [],.lst [.int 0]])=true:=il1
   have ne:aI (.int 0) (.int 0) h1 = .ok (.bl false) h1:=by simp
   simp only [eS]
   generalize h++[AO.lst [],AO.lst [.int 0]]=H0 at *;generalize h.length+1=R1 at *;simp [g7,il1',po',ne,-aL,-bc,-aI]
  have cn2:hX (eS p 0 L h.length (some (.int 0)) none none) h1 = .ok false h1:=by
   have nn:=mz s2.eW
   simp only [eS]
   generalize h.length+1=R1 at *;simp [hX,nn,-aI]
  have wl:∀ n,bF hX g7 (n+2) (eS p 0 L h.length none none none) (h++[.lst [],.lst [.int 0]]) = .nx (eS p 0 L h.length (some (.int 0)) none none) h1:=fun n=>by
   rw [n9 cn eb,lq cn2]
  exact ⟨[],h1,fin [] h1 _ _ _ (wl _),s2.eI,s2.fr,s2.sh,fun i hi=>(by cases hi),KS _,fun _=>rfl,fun z=>absurd rfl z⟩
 ·have t1:=T.n1
  have c0:Cs ps [.n t] [] [.n t]:=⟨[.n t],rfl,fun u hu=>(by rw [K3] at hu;subst hu;exact .n T),.refl _⟩
  have rd0:(aM ps [.n t]).length=x.length:=by
   show (iM ps (.n t)++[]).length=_
   rw [K8,dq T,<- bK]
  obtain ⟨e',h',r1,r2⟩:=sV (c:=hX) (b:=g7) (fuel:=cf) (n:=2*(aM ps [.n t]).length-1) (en:=eS p t L h.length none none none) (h:=h++[.lst [],.lst [.int t]])
   (fun n en hh=>∃ (its st:List Un) (o5 o6 o7:Option AV),en=eS p t L h.length o5 o6 o7/\Sq p L h.length h hh ps its st/\qk ps t x.length its st/\n=2*(aM ps st).length-st.length)
   (fun en hh=>∃ (its:List Un) (o5 o6 o7:Option AV),en=eS p t L h.length o5 o6 o7/\Sq p L h.length h hh ps its []/\qk ps t x.length its [])
   ⟨[],[.n t],none,none,none,rfl,s0 [.n t],⟨⟨[],rfl,fun i hi=>(by cases hi),c0⟩,fun u hu=>⟨t,by rw [K3] at hu;exact hu⟩,fun i hi=>(by cases hi),by show 0+_<=_;lia⟩,rfl⟩ (KA (m:=1000) (by lia) (by decide)) (by
    rintro n en hh ⟨its,st,o5,o6,o7,rfl,s,q,rfl⟩
    match st,s,q with
    | [],s,q =>
     have cn:hX (eS p t L h.length o5 o6 o7) hh = .ok false hh:=by
      have nn:=mz s.eW
      simp only [eS]
      generalize h.length+1=R1 at *;simp [hX,nn,-aI]
     rw [cn];exact ⟨its,o5,o6,o7,rfl,s,q⟩
    | u::st,s,q =>
     have cn:hX (eS p t L h.length o5 o6 o7) hh = .ok true hh:=by
      have nn:=kb s.eW
      simp only [eS]
      generalize h.length+1=R1 at *;simp [hX,nn,-aI]
     rw [cn];obtain ⟨j,rfl⟩:∃ j,u = .n j:=q.nu u (Km ..)
     obtain ⟨h2,its2,st2,c5,c6,c7,ev,s2,q2,lt⟩:=HP (o5:=o5) (o6:=o6) (o7:=o7) g lx s q
     dsimp only;rw [ev];exact ⟨_,lt,its2,st2,c5,c6,c7,rfl,s2,q2,rfl⟩)
  obtain ⟨its,o5,o6,o7,rfl,s,⟨⟨its',ef,oi',cs⟩,_,oi,ln⟩⟩:=r2
  obtain ⟨sl,e1,ok1,op⟩:=cs.ex
  have sl0:=(Hb op).mpr rfl
  subst sl0;refine ⟨its,h',fin its h' o5 o6 o7 r1,s.eI,s.fr,s.sh,oi,by lia,fun z=>absurd z (by lia),fun _=>?_⟩
  rw [<- ef,<- qi g its' (HD T) fun i hi=>(oi' i hi).j];exact e1
end Sk
namespace Sk
open PySem PySem.Spec L2 Sm
theorem HQ {h:AH} {R:Nat} {fd:List Un} {u:Un} (e:h[R]? = some (.lst ((fd++[u]).map uv))):aB (.ref R) (.int (-1)) h = .ok (uv u) h:=by
 rw [K9] at e;have e':h[R]? = some (.lst (fd.map uv++[uv u])):=e
 simp only [aB,e',Cr]
theorem HR {h:AH} {R:Nat} {fd:List Un} (e:h[R]? = some (.lst (fd.map uv))):aI (.ref R) (.fl []) h = .ok (.bl (!fd.isEmpty)) h:=by
 show (match fX (.ref R) (.fl []) h with | some b=>Out.ok (AV.bl (!b)) h | none=>Out.bad)=_
 rw [og e]
structure Sf (p L R:Nat) (h0 hh:AH) (ps:List Pc) (fd:List Un):Prop where
 sh:ShelfAt hh p ps
 eF:hh[R]? = some (.lst (fd.map uv))
 fr:Fr L h0 hh
 rl:h0.length<=R
 pl:p+8<L
 ll:L<h0.length
theorem Sf.set {p L R:Nat} {h0 hh:AH} {ps:List Pc} {fd fd2:List Un} (s:Sf p L R h0 hh ps fd):Sf p L R h0 (hh.set R (.lst (fd2.map uv))) ps fd2:=by
 have a:=s.pl
 have b:=s.ll
 have c:=s.rl
 exact ⟨eZ s.sh (by lia) _,Ko (aY s.eF),s.fr.new c b _,c,a,b⟩
theorem Sf.take {p L R:Nat} {h0 hh:AH} {ps:List Pc} {fd:List Un} (s:Sf p L R h0 hh ps fd) (m:Nat) (hm:0<m) (hm2:m<=10 ^ 50):∃ (v:Nat) (h2:AH),v<m/\bV [.ref L,.int m] hh = .ok (.int v) h2/\Sf p L R h0 h2 ps fd:=by
 obtain ⟨v,N,hv,t,F⟩:=s.fr.take m hm hm2
 have a:=s.pl
 have b:=s.ll
 have c:=s.rl
 exact ⟨v,_,hv,t,eZ s.sh a _,by rw [Kr (by lia)];exact s.eF,F,c,a,b⟩
theorem Sf.add {p L R:Nat} {h0 hh:AH} {ps:List Pc} {fd:List Un} (s:Sf p L R h0 hh ps fd) (hl:fd.length<=1000) (i:Un):∃ h2,aL (.ref R) hh=true/\bo (.ref R) [uv i] hh = .ok .non h2/\Sf p L R h0 h2 ps (fd++[i]):=by
 refine ⟨_,by simp [s.eF],?_,s.set⟩
 have:(fd.map uv).length<sizeLine:=KA (m:=1000) (by rw [Kv];exact hl) (by decide)
 simp only [bo,s.eF,this,Lp,K9]
 rfl
theorem Sf.pop {p L R:Nat} {h0 hh:AH} {ps:List Pc} {fd:List Un} {u:Un} (s:Sf p L R h0 hh ps (fd++[u])):∃ h2,aL (.ref R) hh=true/\bc (.ref R) [] hh = .ok (uv u) h2/\Sf p L R h0 h2 ps fd:=by
 have e:=s.eF
 rw [K9] at e;exact ⟨_,by simp [e],fG e,s.set⟩
theorem uq {P:Un->Prop} {l:List Un} {i:Un} (a:∀ j∈l,P j) (b:P i):∀ j∈l++[i],P j:=fun j hj=>(KI.mp hj).elim (a j) fun z=>by rw [K3] at z;subst z;exact b
abbrev eP (v:AV) (L R:Nat) (i:Un):En:=[some v,some (.ref L),some (.ref R),some (uv i)]
theorem HS {p L R:Nat} {h0 hh:AH} {ps:List Pc} {fd:List Un} {i:Un} {v:AV} (s:Sf p L R h0 hh ps fd) (oi:∀ j∈fd,OkI ps j) (o:OkI ps i) (hl:fd.length<=900) :
  ∃ (h2:AH) (fd2:List Un) (i2:Un),gC (eP v L R i) hh = .nx (eP v L R i2) h2/\Sf p L R h0 h2 ps fd2/\cQ fd2=cQ fd++cQ [i]/\(∀ j∈fd2,OkI ps j)/\fd2.length<=fd.length+1:=by
 have nq:=HR s.eF
 obtain ⟨h1,il,ap,s1⟩:=s.add (by lia) i
 have plain:gC (eP v L R i) hh = .nx (eP v L R i) h1->∃ (h2:AH) (fd2:List Un) (i2:Un),gC (eP v L R i) hh = .nx (eP v L R i2) h2/\Sf p L R h0 h2 ps fd2/\cQ fd2=cQ fd++cQ [i]/\(∀ j∈fd2,OkI ps j)/\fd2.length<=fd.length+1:=fun e =>
  ⟨h1,fd++[i],i,e,s1,hV _ _,uq oi o,by simp⟩
 rcases List.eq_nil_or_concat fd with rfl | ⟨fd',u,efd⟩
 ·have nq':aI (.ref R) (.fl []) hh = .ok (.bl false) hh:=nq
  refine plain ?_
  simp only [eP]
  generalize uv i=UI at *;simp [gC,nq',il,ap,-aI,-aL,-bo]
 ·rw [List.concat_eq_append] at efd
  subst efd;have nq':aI (.ref R) (.fl []) hh = .ok (.bl true) hh:=by
   rw [nq]
   cases fd' <;> rfl
  have la:=HQ s.eF
  have ng:=ow hh
  cases i with
  | n k =>
   refine plain ?_
   have ap':bo (.ref R) [.int k] hh = .ok .non h1:=ap
   simp [gC,nq',il,ap',-aI,-aL,-bo]
  | s w =>
   have ap':bo (.ref R) [.str w] hh = .ok .non h1:=ap
   cases u with
   | n k =>
    refine plain ?_
    have la':aB (.ref R) (.int (-1)) hh = .ok (.int k) hh:=la
    simp [gC,nq',la',ng,il,ap',-aI,-aL,-bo,-aB,-cU]
   | s z =>
    have la':aB (.ref R) (.int (-1)) hh = .ok (.str z) hh:=la
    have lz:az [.str z] hh = .ok (.int z.length) hh:=rfl
    have lw:az [.str w] hh = .ok (.int w.length) hh:=rfl
    have ad:ar (.int z.length) (.int w.length) hh = .ok (.int ((z.length+w.length:Nat):Int)) hh:=rfl
    have lt:iS (.int ((z.length+w.length:Nat):Int)) (.int 9) hh = .ok (.bl (decide (z.length+w.length<9))) hh:=by
     show Out.ok (AV.bl (decide (((z.length+w.length:Nat):Int)<9))) hh=_
     congr 2
     exact decide_eq_decide.mpr (by lia)
    by_cases q:z.length+w.length<9
    ·rw [Ld q] at lt
     obtain ⟨d,h3,hd,tk,s3⟩:=s.take 3 (by decide) (by decide)
     have tk':bV [.ref L,.int 3] hh = .ok (.int d) h3:=tk
     by_cases d0:d=0
     ·obtain ⟨h4,il4,ap4,s4⟩:=s3.add (by lia) (.s w)
      have ap4':bo (.ref R) [.str w] h3 = .ok .non h4:=ap4
      have gt:gO (.int d) (.int 0) h3 = .ok (.bl false) h3:=by simp;lia
      refine ⟨h4,fd' ++ [.s z]++[.s w],.s w,?_,s4,hV _ _,uq oi o,by simp⟩
      simp only [eP,uv]
      generalize ((z.length+w.length:Nat):Int)=ZW at *;simp [gC,nq',la',ng,lz,lw,ad,lt,tk',gt,il4,ap4',-aI,-aL,-bo,-aB,-cU,-az,-ar,-iS,-gO]
     ·have gt:gO (.int d) (.int 0) h3 = .ok (.bl true) h3:=by simp;lia
      obtain ⟨h4,il4,po,s4⟩:=s3.pop
      have po':bc (.ref R) [] h3 = .ok (.str z) h4:=po
      have adS:ar (.str z) (.str w) h4 = .ok (.str (z++w)) h4:=by
       have:z.length+w.length<=sizeLine:=Kn (m:=9) (by lia) (by decide)
       simp only [ar,this,Lp]
      obtain ⟨h5,il5,ap5,s5⟩:=s4.add (by rw [Kq] at hl;lia) (.s (z++w))
      have ap5':bo (.ref R) [.str (z++w)] h4 = .ok .non h5:=ap5
      have oz:OkI ps (.s (z++w)):=by
       have a:=oi (.s z) (by simp)
       cases a with
       | s a =>
        cases o with
        | s b =>
         obtain ⟨a1,a8,ap⟩:=gF a
         obtain ⟨b1,b8,bp⟩:=gF b
         exact .s (ot (by rw [j7,ap,bp];rfl) (by rw [cx];lia) (by rw [cx];lia))
      refine ⟨h5,fd' ++ [.s (z++w)],.s (z++w),?_,s5,?_,uq (fun j hj=>oi j (Kz _ hj)) oz,by simp⟩
      ·simp only [eP,uv]
       generalize ((z.length+w.length:Nat):Int)=ZW at *;generalize z++w=ZS at *;simp [gC,nq',la',ng,lz,lw,ad,lt,tk',gt,il4,po',adS,il5,ap5',-aI,-aL,-bo,-bc,-aB,-cU,-az,-ar,-iS,-gO]
      ·rw [hV,hV]
       show cQ fd' ++ (dr (z++w).cps.toList++[])=cQ fd' ++ (dr z.cps.toList++[])++(dr w.cps.toList++[])
       rw [dH,dr,dr,dr,K9];simp
    ·rw [KH q] at lt
     refine plain ?_
     simp only [eP,uv]
     generalize ((z.length+w.length:Nat):Int)=ZW at *;simp [gC,nq',la',ng,lz,lw,ad,lt,il,ap',-aI,-aL,-bo,-aB,-cU,-az,-ar,-iS]
theorem HU {h:AH} {p L RI:Nat} {ps:List Pc} {its:List Un} (S:ShelfAt h p ps) (hL:p+8<L) (eL:∃ N:Int,h[L]? = some (.lst [.int N])) (eI:h[RI]? = some (.lst (its.map uv))) (nI:RI≠L) (oi:∀ i∈its,OkI ps i) (hl:its.length<=800) :
  ∃ (fd:List Un) (h':AH),pP [.ref RI,.ref L] h = .ok (.ref h.length) h'/\h'[h.length]? = some (.lst (fd.map uv))/\Fr L h h'/\ShelfAt h' p ps/\cQ fd=cQ its/\(∀ i∈fd,OkI ps i)/\fd.length<=its.length:=by
 obtain ⟨N0,eN⟩:=eL
 have Ll:=aY eN
 have Il:=aY eI
 have F0:Fr L h h:=⟨fun _ _ _=>rfl,Kj _,N0,eN⟩
 have s0:Sf p L h.length h (h++[.lst []]) ps []:=⟨S.app _,by simp,F0.app _,Kj _,hL,Ll⟩
 obtain ⟨e',h',r1,r2⟩:=iZ (w:=some RI) (all:=its.map uv) (t:=.nm 3) (b:=gC) (xs:=its.map uv) (en:=[some (.ref RI),some (.ref L),some (.ref h.length),none]) (h:=h++[.lst []])
  (fun j en hh=>hh[RI]? = some (.lst (its.map uv))/\(j<=its.length->∃ (fd:List Un) (o3:Option AV),en=[some (.ref RI),some (.ref L),some (.ref h.length),o3]/\Sf p L h.length h hh ps fd/\cQ fd=cQ (its.take j)/\(∀ i∈fd,OkI ps i)/\fd.length<=j))
  ⟨by rw [Ki Il];exact eI,fun _=>⟨[],none,rfl,s0,rfl,fun i hi=>(by cases hi),Kj _⟩⟩ (fun _ _ _ p=>by simp [p.1]) (by
   rintro j u en hh hu ⟨p1,p2⟩
   rw [K6] at hu;obtain ⟨i,ei,rfl⟩:=KU.mp hu
   have hj:=(Kh.mp ei).1
   obtain ⟨fd,o3,rfl,s,ef,of,lf⟩:=p2 (by lia)
   have tk:its.take (j+1)=its.take j++[i]:=by rw [Mw,ei];rfl
   obtain ⟨h2,fd2,i2,ev,s2,ef2,of2,lf2⟩:=HS (v:=.ref RI) s of (oi i (KQ ei)) (by lia)
   show thn (gC (eP (.ref RI) L h.length i) hh) _
   rw [ev];exact ⟨(s2.fr.fr RI Il nI).trans eI,fun _=>⟨fd2,_,rfl,s2,by rw [ef2,ef,tk,hV],of2,by lia⟩⟩)
 rw [Kv] at r2;obtain ⟨fd,o3,rfl,s,ef,of,lf⟩:=r2.2 (Kj _)
 rw [Mj] at ef;have it:aK (ae 0) [some (.ref RI),some (.ref L),some (.ref h.length),none] (h++[.lst []]) = .ok (its.map uv,some RI) (h++[.lst []]):=by
  have e:(h++[AO.lst []])[RI]? = some (.lst (its.map uv)):=by rw [Ki Il];exact eI
  simp [e]
 have l1:=(g8 (t:=.nm 3) (b:=gC) it).trans r1
 refine ⟨fd,h',?_,s.eF,s.fr,s.sh,ef,of,lf⟩
 clear r1 it s r2 s0 F0;unfold pP
 generalize bf (aK (ae 0)) (.nm 3) gC=L1 at *;simp [l1]
end Sk
namespace Sk
open PySem PySem.Spec L2 Sm
theorem ur {n k:Nat} (h:k<n):gs n (k:Int)=some k:=by
 unfold gs
 simp
 omega
theorem zx {a b:Nat} (h0:1<=b) (h:AH):bz (.int a) (.int b) h = .ok (.int ((a % b:Nat):Int)) h:=by
 have:(0:Int)<b:=by lia
 simp only [bz,this,Lp]
 rfl
theorem zy {hh:AH} {R k:Nat} {fd:List Un} {i:Un} {en:En} {o ix v:SE} {h2:AH} (ev:v en hh = .ok (uv i) h2) (eo:o en h2 = .ok (.ref R) h2) (ei:ix en h2 = .ok (.int k) h2) (eR:h2[R]? = some (.lst (fd.map uv))) (hk:k<fd.length):ic o ix v en hh = .nx en (h2.set R (.lst ((fd.set k i).map uv))):=by
 have q:gs (fd.map uv).length (k:Int)=some k:=ur (by rw [Kv];exact hk)
 simp only [ic,ev,eo,ei,Out.go,eR,q,List.map_set]
theorem HW {hh:AH} {R k:Nat} {fd:List Un} {u:Un} (eR:hh[R]? = some (.lst (fd.map uv))) (e:fd[k]? = some u):aB (.ref R) (.int k) hh = .ok (uv u) hh:=HG eR e
theorem Sf.ins {p L R k:Nat} {h0 hh:AH} {ps:List Pc} {fd:List Un} (s:Sf p L R h0 hh ps fd) (hl:fd.length<=1000) (hk:k<=fd.length) (i:Un):∃ h2,gX (.ref R) [.int k,uv i] hh = .ok .non h2/\Sf p L R h0 h2 ps (fd.take k++i::fd.drop k):=by
 refine ⟨_,?_,s.set⟩
 have l1:(fd.map uv).length<sizeLine:=KA (m:=1000) (by rw [Kv];exact hl) (by decide)
 have l2:(k:Int).toNat=k:=by lia
 have c:0<=(k:Int)/\(k:Int)<2 ^ 40/\(k:Int).toNat<=(fd.map uv).length/\(fd.map uv).length<sizeLine:=⟨by lia,by lia,by rw [Kv];lia,l1⟩
 have e:gX (.ref R) [.int k,uv i] hh=if 0<=(k:Int)/\(k:Int)<2 ^ 40/\(k:Int).toNat<=(fd.map uv).length/\(fd.map uv).length<sizeLine then .ok .non (hh.set R (.lst ((fd.map uv).take (k:Int).toNat++uv i::(fd.map uv).drop (k:Int).toNat))) else .bad:=by
  simp only [gX,s.eF]
 rw [e,Ku c,l2,K9,KY,MF,M9]
theorem Sf.popAt {p L R k:Nat} {h0 hh:AH} {ps:List Pc} {fd:List Un} (s:Sf p L R h0 hh ps fd) (hl:fd.length<=1000) (hk:k<fd.length):∃ (u:Un) (h2:AH),lT (.ref R) [.int k] hh = .ok (uv u) h2/\Sf p L R h0 h2 ps (fd.eraseIdx k):=by
 obtain ⟨u,eu⟩:∃ u,fd[k]? = some u:=⟨_,KM hk⟩
 refine ⟨u,_,?_,s.set⟩
 have l2:(k:Int).toNat=k:=by lia
 have c:0<=(k:Int)/\(k:Int)<2 ^ 40:=⟨by lia,by lia⟩
 have e2:(fd.map uv)[k]? = some (uv u):=by rw [K6,eu];rfl
 simp only [lT,s.eF]
 rw [Ku c,l2,e2];dsimp only;rw [LA,LA,K9,MF,M9]
theorem Sf.rev {p L R:Nat} {h0 hh:AH} {ps:List Pc} {fd:List Un} (s:Sf p L R h0 hh ps fd):∃ h2,lY (.ref R) [] hh = .ok .non h2/\Sf p L R h0 h2 ps fd.reverse:=by
 refine ⟨_,?_,s.set⟩
 simp only [lY,s.eF,List.map_reverse]
theorem Sf.il {p L R:Nat} {h0 hh:AH} {ps:List Pc} {fd:List Un} (s:Sf p L R h0 hh ps fd):aL (.ref R) hh=true:=by simp [s.eF]
theorem Sf.plain {p L R:Nat} {h0 hh:AH} {ps:List Pc} {fd:List Un} (s:Sf p L R h0 hh ps fd) (most:Nat) (hm:most<=1000):∃ (y:Str) (h2:AH),j0 [.ref L,.int most] hh = .ok (.str y) h2/\Sf p L R h0 h2 ps fd/\br y=true/\y.length<=most:=by
 obtain ⟨N,e⟩:=s.fr.ro
 obtain ⟨y,N1,f,a,b⟩:=zj most hm e
 have q1:=s.pl
 have q2:=s.ll
 have q3:=s.rl
 exact ⟨y,_,f,⟨eZ s.sh q1 _,by rw [Kr (by lia)];exact s.eF,s.fr.set N1,q3,q1,q2⟩,a,b⟩
theorem Sf.len {p L R:Nat} {h0 hh:AH} {ps:List Pc} {fd:List Un} (s:Sf p L R h0 hh ps fd):az [.ref R] hh = .ok (.int fd.length) hh:=by simp only [az,s.eF,Kv]
theorem HX {h:AH} {R:Nat} {fd:List Un} (e:h[R]? = some (.lst (fd.map uv))):aH (.ref R) (.fl []) h = .ok (.bl fd.isEmpty) h:=by
 show (match fX (.ref R) (.fl []) h with | some b=>Out.ok (AV.bl b) h | none=>Out.bad)=_
 rw [og e]
theorem uw {hh:AH} {R k:Nat} {fd:List Un} (e:hh[R]? = some (.lst (fd.map uv))):cG (.ref R) none (some (k:Int)) hh = .ok (.fl ((fd.take k).map uv)) hh:=by
 simp only [cG,e,HK,MF]
end Sk
namespace Sk
open PySem PySem.Spec L2 Sm
abbrev eO (v:AV) (L R:Nat) (kd a:Nat) (o6:Option AV):En:=[some (.ref 0),some v,some (.ref L),some (.ref R),some (.int kd),some (.int a),o6]
theorem HY {h:AH} {L:Nat} {ps:List Pc} {its:List Un} {v:AV} {w:Option Nat} (S:ShelfAt h 0 ps) (hL:8<L) (eL:∃ N:Int,h[L]? = some (.lst [.int N])) (sr:SrcI h its v w) (oi:∀ i∈its,cL ps i) (hl:its.length<=800) (hz:ps.length<=9000000) :
  ∃ (its2:List Un) (v2:AV) (w2:Option Nat) (h':AH),eV [.ref 0,v,.ref L] h = .ok v2 h'/\SrcI h' its2 v2 w2/\v2 ≠ .ref L/\(∀ i∈its2,cL ps i)/\its2.length<=its.length+1/\Fr L h h'/\ShelfAt h' 0 ps:=by
 obtain ⟨N0,eN⟩:=eL
 have Ll:=aY eN
 have F0:Fr L h h:=⟨fun _ _ _=>rfl,Kj _,N0,eN⟩
 have s0:Sf 0 L h.length h (h++[.lst (its.map uv)]) ps its:=⟨S.app _,by simp,F0.app _,Kj _,by omega,Ll⟩
 have lm:fZ [v] h = .ok (.ref h.length) (h++[.lst (its.map uv)]):=by
  cases sr with
  | ref e=>simp only [fZ,e]
  | fl=>rfl
 obtain ⟨H0,eH0⟩:∃ H0,H0=h++[AO.lst (its.map uv)]:=⟨_,rfl⟩
 rw [<- eH0] at s0 lm;obtain ⟨kd,h1,hkd,t1,s1⟩:=s0.take 8 (by decide) (by decide)
 have t1':bV [.ref L,.int 8] H0 = .ok (.int kd) h1:=t1
 have ln1:=s1.len
 have ad1:ar (.int its.length) (.int 1) h1 = .ok (.int ((its.length+1:Nat):Int)) h1:=rfl
 obtain ⟨a,h2,ha,t2,s2⟩:=s1.take (its.length+1) (by lia) (Kn (m:=1000) (by lia) (by decide))
 obtain ⟨R,eR⟩:∃ R,R=h.length:=⟨_,rfl⟩
 rw [<- eR] at s0 s1 s2 lm ln1;have RL:R≠L:=by lia
 have il:=s2.il
 have e0:=i6 kd 0 h2
 have e1:=i6 kd 1 h2
 have e2:=i6 kd 2 h2
 have e3:=i6 kd 3 h2
 have e4:=i6 kd 4 h2
 have e5:=i6 kd 5 h2
 have e6:=i6 kd 6 h2
 have eq:=HX s2.eF
 have ob2:=s2.sh.ob
 have mn:=ye s2.sh
 have mk:∀ {its2:List Un} {h3:AH},eV [.ref 0,v,.ref L] h = .ok (.ref R) h3->Sf 0 L R h h3 ps its2->(∀ i∈its2,cL ps i)->its2.length<=its.length+1->∃ (its2:List Un) (v2:AV) (w2:Option Nat) (h':AH),eV [.ref 0,v,.ref L] h = .ok v2 h'/\SrcI h' its2 v2 w2/\v2 ≠ .ref L/\(∀ i∈its2,cL ps i)/\its2.length<=its.length+1/\Fr L h h'/\ShelfAt h' 0 ps:=fun {its2 h3} f s o l =>
  ⟨its2,.ref R,some R,h3,f,.ref s.eF,fun z=>by injection z with z;exact RL z,o,l,s.fr,s.sh⟩
 have oins:∀ (k:Nat) (i:Un),cL ps i->∀ j∈its.take k++i::its.drop k,cL ps j:=fun k i o j hj=>by
  rcases KI.mp hj with hj | hj
  ·exact oi j (Lv hj)
  ·rcases KJ.mp hj with rfl | hj
   ·exact o
   ·exact oi j (Lu hj)
 have lins:∀ (k:Nat) (i:Un),k<=its.length->(its.take k++i::its.drop k).length<=its.length+1:=fun k i hk=>by
  rw [Kq,Kk,Le,Lh];lia
 by_cases k0:kd=0
 ·rw [Ld (by lia)] at e0
  have ad2:ar (.int ps.length) (.int 2) h2 = .ok (.int ((ps.length+2:Nat):Int)) h2:=rfl
  obtain ⟨d,h3,hd,t3,s3⟩:=s2.take (ps.length+2) (by lia) (Kn (m:=20000000) (by lia) (by decide))
  have ad3:ar (.int 1) (.int d) h3 = .ok (.int ((1+d:Nat):Int)) h3:=rfl
  obtain ⟨h4,ins,s4⟩:=s3.ins (k:=a) (by lia) (by lia) (.n (1+d))
  have ins':gX (.ref R) [.int a,.int ((1+d:Nat):Int)] h3 = .ok .non h4:=ins
  refine mk (h3:=h4) ?_ s4 (oins _ _ (.n (by lia))) (lins _ _ (by lia))
  clear s0 s1 s2 s3 s4 mk oins lins sr S oi eH0 eR F0 eN ins e1 e2 e3 e4 e5 e6 eq;generalize ((its.length+1:Nat):Int)=L1 at *;generalize (its.length:Int)=L0 at *;generalize ((ps.length+2:Nat):Int)=P2 at *;generalize (ps.length:Int)=P0 at *;generalize ((1+d:Nat):Int)=D1 at *;simp [eV,lm,t1',ln1,ad1,t2,e0,il,ob2,mn,ad2,t3,ad3,ins',-fZ,-az,-ar,-aH,-aL,-gX]
 rw [KH (by lia)] at e0
 by_cases k1:kd=1
 ·rw [Ld (by lia)] at e1
  obtain ⟨y,h3,py,s3,pl,ly⟩:=s2.plain 3 (by decide)
  have py':j0 [.ref L,.int 3] h2 = .ok (.str y) h3:=py
  have pa:br "a" = true/\("a" : Str).length=1:=by decide +kernel
  have ad3:ar (.str y) (.str "a") h3 = .ok (.str (y ++ "a")) h3:=by
   have:y.length+("a" : Str).length<=sizeLine:=Kn (m:=9) (by lia) (by decide)
   simp only [ar,this,Lp]
  obtain ⟨h4,ins,s4⟩:=s3.ins (k:=a) (by lia) (by lia) (.s (y ++ "a"))
  have ins':gX (.ref R) [.int a,.str (y ++ "a")] h3 = .ok .non h4:=ins
  refine mk (h3:=h4) ?_ s4 (oins _ _ (.s (ot (by rw [j7,pl,pa.1];rfl) (by rw [cx];lia) (by rw [cx];lia)))) (lins _ _ (by lia))
  clear s0 s1 s2 s3 s4 mk oins lins sr S oi eH0 eR F0 eN ins e2 e3 e4 e5 e6 eq;generalize ((its.length+1:Nat):Int)=L1 at *;generalize (its.length:Int)=L0 at *;generalize y++("a" : Str)=YA at *;simp [eV,lm,t1',ln1,ad1,t2,e0,e1,il,py',ad3,ins',-fZ,-az,-ar,-aH,-aL,-gX]
 rw [KH (by lia)] at e1
 by_cases n0:its=[]
 ·have eq':aH (.ref R) (.fl []) h2 = .ok (.bl true) h2:=by rw [eq,n0];rfl
  refine mk (h3:=h2) ?_ s2 oi (by lia)
  clear s0 s1 s2 mk oins lins sr S oi eH0 eR F0 eN e2 e3 e4 e5 e6 eq;generalize ((its.length+1:Nat):Int)=L1 at *;generalize (its.length:Int)=L0 at *;simp [eV,lm,t1',ln1,ad1,t2,e0,e1,eq',-fZ,-az,-ar,-aH]
 have il1:1<=its.length:=by
  rcases Ob its.length with z | z
  ·exact absurd (LG.mp z) n0
  ·exact z
 have eq':aH (.ref R) (.fl []) h2 = .ok (.bl false) h2:=by
  rw [eq]
  cases its with
  | nil=>exact absurd rfl n0
  | cons _ _=>rfl
 have ln2:=s2.len
 have md:=zx (a:=a) il1 h2
 obtain ⟨k,ek⟩:∃ k,k=a % its.length:=⟨_,rfl⟩
 have hk:k<its.length:=by rw [ek];exact Nat.mod_lt _ (by lia)
 rw [<- ek] at md;obtain ⟨u,eu⟩:∃ u,its[k]? = some u:=⟨_,KM hk⟩
 have ix:=HW s2.eF eu
 by_cases k2:kd=2
 ·rw [Ld (by lia)] at e2
  obtain ⟨z,h3,pop,s3⟩:=s2.popAt (by lia) hk
  refine mk (h3:=h3) ?_ s3 (fun i hi=>oi i (List.mem_of_mem_eraseIdx hi)) (by rw [List.length_eraseIdx];split<;>lia)
  clear s0 s1 s2 s3 mk oins lins sr S oi eH0 eR F0 eN e3 e4 e5 e6 eq;generalize ((its.length+1:Nat):Int)=L1 at *;generalize (its.length:Int)=L0 at *;generalize uv z=UZ at *;simp [eV,lm,t1',ln1,ad1,t2,e0,e1,eq',e2,il,ln2,md,pop,-fZ,-az,-ar,-aH,-aL,-bz,-lT]
 rw [KH (by lia)] at e2
 by_cases k3:kd=3
 ·rw [Ld (by lia)] at e3
  obtain ⟨h3,ins,s3⟩:=s2.ins (k:=a) (by lia) (by lia) u
  refine mk (h3:=h3) ?_ s3 (oins _ _ (oi u (KQ eu))) (lins _ _ (by lia))
  clear s0 s1 s2 s3 mk oins lins sr S oi eH0 eR F0 eN e4 e5 e6 eq;generalize ((its.length+1:Nat):Int)=L1 at *;generalize (its.length:Int)=L0 at *;generalize uv u=UU at *;simp [eV,lm,t1',ln1,ad1,t2,e0,e1,eq',e2,e3,il,ln2,md,ix,ins,-fZ,-az,-ar,-aH,-aL,-bz,-aB,-gX]
 rw [KH (by lia)] at e3
 have oset:∀ (i:Un),cL ps i->∀ j∈its.set k i,cL ps j:=fun i o j hj=>by
  rcases List.mem_or_eq_of_mem_set hj with hj | rfl
  ·exact oi j hj
  ·exact o
 by_cases k4:kd=4
 ·rw [Ld (by lia)] at e4
  have ad2:ar (.int ps.length) (.int 1) h2 = .ok (.int ((ps.length+1:Nat):Int)) h2:=rfl
  obtain ⟨d,h3,hd,t3,s3⟩:=s2.take (ps.length+1) (by lia) (Kn (m:=20000000) (by lia) (by decide))
  have ad3:ar (.int 1) (.int d) h3 = .ok (.int ((1+d:Nat):Int)) h3:=rfl
  have ln3:=s3.len
  have md3:=zx (a:=a) il1 h3
  rw [<- ek] at md3;have ex:ic (ae 3) (ah bz (ae 5) (ax az (aj (ae 3) af))) (ah ar (ai (.int 1)) (ax bV (aj (ae 2) (aj (ah ar (aT 0 iW (ae 0) af) (ai (.int 1))) af)))) (eO v L R kd a none) h2 = .nx (eO v L R kd a none) (h3.set R (.lst ((its.set k (.n (1+d))).map uv))):=by
   refine zy (h2:=h3) (i:=.n (1+d)) ?_ rfl ?_ s3.eF hk
   ·show _=Out.ok (AV.int ((1+d:Nat):Int)) h3
    simp only [eO]
    generalize ((ps.length+1:Nat):Int)=P2 at *;generalize (ps.length:Int)=P0 at *;generalize ((1+d:Nat):Int)=D1 at *;simp [ob2,mn,ad2,t3,ad3,-ar]
   ·simp only [eO]
    generalize (its.length:Int)=L0 at *;simp [ln3,md3,-az,-bz]
  have s4:=s3.set (fd2:=its.set k (.n (1+d)))
  refine mk (h3:=h3.set R (.lst ((its.set k (.n (1+d))).map uv))) ?_ s4 (oset _ (.n (by lia))) (by rw [Lm];lia)
  simp only [eO] at ex
  clear s0 s1 s2 s3 s4 mk oins lins oset sr S oi eH0 eR F0 eN e5 e6 eq;generalize h3.set R (.lst ((its.set k (.n (1+d))).map uv))=H9 at *;unfold eV
  generalize ic (ae 3) (ah bz (ae 5) (ax az (aj (ae 3) af))) (ah ar (ai (.int 1)) (ax bV (aj (ae 2) (aj (ah ar (aT 0 iW (ae 0) af) (ai (.int 1))) af))))=SX at *;generalize ((its.length+1:Nat):Int)=L1 at *;generalize (its.length:Int)=L0 at *;simp [lm,t1',ln1,ad1,t2,e0,e1,eq',e2,e3,e4,ex,-fZ,-az,-ar,-aH]
 rw [KH (by lia)] at e4
 by_cases k5:kd=5
 ·rw [Ld (by lia)] at e5
  obtain ⟨h3,rv,s3⟩:=s2.rev
  refine mk (h3:=h3) ?_ s3 (fun i hi=>oi i (List.mem_reverse.mp hi)) (by rw [LN];lia)
  clear s0 s1 s2 s3 mk oins lins oset sr S oi eH0 eR F0 eN e6 eq;generalize ((its.length+1:Nat):Int)=L1 at *;generalize (its.length:Int)=L0 at *;simp [eV,lm,t1',ln1,ad1,t2,e0,e1,eq',e2,e3,e4,e5,il,rv,-fZ,-az,-ar,-aH,-aL,-lY]
 rw [KH (by lia)] at e5
 by_cases k6:kd=6
 ·rw [Ld (by lia)] at e6
  have ct:=uw (k:=a) s2.eF
  refine ⟨its.take a,.fl ((its.take a).map uv),none,h2,?_,.fl,fun z=>(by cases z),fun i hi=>oi i (Lv hi),by rw [Le];lia,s2.fr,s2.sh⟩
  clear s0 s1 s2 mk oins lins oset sr S oi eH0 eR F0 eN eq;generalize ((its.length+1:Nat):Int)=L1 at *;generalize (its.length:Int)=L0 at *;generalize (its.take a).map uv=TA at *;simp [eV,lm,t1',ln1,ad1,t2,e0,e1,eq',e2,e3,e4,e5,e6,ct,-fZ,-az,-ar,-aH,-cG]
 rw [KH (by lia)] at e6
 cases u with
 | n j =>
  have ix':aB (.ref R) (.int k) h2 = .ok (.int j) h2:=ix
  refine mk (h3:=h2) ?_ s2 oi (by lia)
  clear s0 s1 s2 mk oins lins oset sr S oi eH0 eR F0 eN eq;generalize ((its.length+1:Nat):Int)=L1 at *;generalize (its.length:Int)=L0 at *;simp [eV,lm,t1',ln1,ad1,t2,e0,e1,eq',e2,e3,e4,e5,e6,ln2,md,ix',-fZ,-az,-ar,-aH,-bz,-aB]
 | s z =>
  have ix':aB (.ref R) (.int k) h2 = .ok (.str z) h2:=ix
  have oz:dS z=true:=by
   cases oi _ (KQ eu) with
   | s b=>exact b
  obtain ⟨z1,z8,zp⟩:=gF oz
  have cm:=HM z1 h2
  have ng:=ow h2
  have pb:br "b" = true/\("b" : Str).length=1:=by decide +kernel
  have tl:=yF (x:=z) (a:=z.length-1) (by lia)
  obtain ⟨zb,ezb⟩:∃ zb:Str,zb=bO z (z.length-1) ++ "b" := ⟨_,rfl⟩
  have ab:ar (.str (bO z (z.length-1))) (.str "b") h2 = .ok (.str zb) h2:=by
   have:(bO z (z.length-1)).length+("b" : Str).length<=sizeLine:=Kn (m:=9) (by lia) (by decide)
   rw [ezb];simp only [ar,this,Lp]
  have ob:cL ps (.s zb):=by
   rw [ezb];exact .s (ot (by rw [j7,zg zp,pb.1];rfl) (by rw [cx];lia) (by rw [cx];lia))
  have ex:ic (ae 3) (ah bz (ae 5) (ax az (aj (ae 3) af))) (ah ar (bI (ae 6) none (some (fi cU (ai (.int 1))))) (ai (.str "b"))) (eO v L R kd a (some (.str z))) h2 = .nx (eO v L R kd a (some (.str z))) (h2.set R (.lst ((its.set k (.s zb)).map uv))):=by
   refine zy (h2:=h2) (i:=.s zb) ?_ rfl ?_ s2.eF hk
   ·show _=Out.ok (AV.str zb) h2
    simp only [eO]
    generalize bO z (z.length-1)=TZ at *;simp [ng,cm,ab,-ar,-cG,-cU]
   ·simp only [eO]
    generalize (its.length:Int)=L0 at *;simp [ln2,md,-az,-bz]
  have s4:=s2.set (fd2:=its.set k (.s zb))
  refine mk (h3:=h2.set R (.lst ((its.set k (.s zb)).map uv))) ?_ s4 (oset _ ob) (by rw [Lm];lia)
  simp only [eO] at ex
  clear s0 s1 s2 s4 mk oins lins oset sr S oi eH0 eR F0 eN eq;generalize h2.set R (.lst ((its.set k (.s zb)).map uv))=H9 at *;unfold eV
  generalize ic (ae 3) (ah bz (ae 5) (ax az (aj (ae 3) af))) (ah ar (bI (ae 6) none (some (fi cU (ai (.int 1))))) (ai (.str "b")))=SX at *;generalize ((its.length+1:Nat):Int)=L1 at *;generalize (its.length:Int)=L0 at *;simp [lm,t1',ln1,ad1,t2,e0,e1,eq',e2,e3,e4,e5,e6,ln2,md,ix',ex,-fZ,-az,-ar,-aH,-bz,-aB]
end Sk
namespace Sk
open PySem PySem.Spec L2 Sm
theorem HZ {h:AH} {p:Nat}:kT [.ref p,.fl []] h = .ok (.str "") h:=by
 have nn:aI (.fl []) (.fl []) h = .ok (.bl false) h:=by simp [df,cE,PyData.eqv,PyData.eqvAll]
 have wl:∀ n,bF CN gh (n+1) [some (.ref p),some (.fl []),none] h = .nx [some (.ref p),some (.fl []),none] h:=fun n=>lq (by simp [nn,-aI])
 have wl':bF CN gh cf [some (.ref p),some (.fl []),none] h = .nx [some (.ref p),some (.fl []),none] h:=wl _
 unfold kT
 generalize bF CN gh cf=WL at *;simp [wl']
theorem Ia {h:AH} {p:Nat} {ps:List Pc} {i:Un} (S:ShelfAt h p ps) (oi:cL ps i):fE [.ref p,.fl [],uv i] h = .ok (.bl false) h:=by
 have ob:=S.ob
 have nn:aI (.fl []) (.fl []) h = .ok (.bl false) h:=by simp [df,cE,PyData.eqv,PyData.eqvAll]
 cases oi with
 | @n k k1 =>
  by_cases hk:k<=ps.length
  case neg =>
   have hp:gY [.ref p,.int k] h = .ok (.bl false) h:=by
    rw [nR S];rw [KH (by lia)]
   have sh:iG [.int k] h = .ok (.bl false) h:=by simp [iG,kP]
   simp [fE,ob,hp,sh]
  have hp:gY [.ref p,.int k] h = .ok (.bl true) h:=by
   rw [nR S];rw [Ld (by lia)]
  have wl:∀ n,bF CN fP (n+1) [some (.ref p),some (.fl []),some (.int k),none] h = .nx [some (.ref p),some (.fl []),some (.int k),none] h:=fun n=>lq (by simp [nn,-aI])
  have wl':bF CN fP cf [some (.ref p),some (.fl []),some (.int k),none] h = .nx [some (.ref p),some (.fl []),some (.int k),none] h:=wl _
  have tp:jG [.ref p,.fl [],.int k] h = .ok (.bl false) h:=by
   unfold jG
   generalize bF CN fP cf=WL at *;simp [wl']
  simp [fE,ob,hp,tp]
 | @s w a =>
  obtain ⟨w1,w8,_⟩:=gF a
  have hp:gY [.ref p,.str w] h = .ok (.bl false) h:=by
   simp [gY,l9,ob]
  have sh:iG [.str w] h = .ok (.bl true) h:=by rw [pR w h (Kn w8 (by decide)),a]
  have ne:aI (.str w) (.str "") h = .ok (.bl true) h:=by
   have : ¬ w = "" := fun q=>by rw [zaZ] at q;lia
   simp [this]
  have cn:CP [some (.ref p),some (.fl []),some (.str w),some (.str w),none,none] h = .ok true h:=by simp [ne,-aI]
  have nx:=HZ (h:=h) (p:=p)
  have l1:az [.str ""] h = .ok (.int 0) h:=rfl
  have l2:az [.str w] h = .ok (.int w.length) h:=rfl
  have mn:iC [.int 0,.int w.length] h = .ok (.int 0) h:=by
   have:iC [.int 0,.int w.length] h = .ok (.int (if (w.length:Int)<0 then (w.length:Int) else 0)) h:=rfl
   rw [this,KF (by lia)]
  have e0:aH (.int 0) (.int 0) h = .ok (.bl true) h:=by simp
  have eb:gi [some (.ref p),some (.fl []),some (.str w),some (.str w),none,none] h = .rt (.bl false) h:=by
   generalize (w.length:Int)=WL at *;simp [gi,nx,l1,l2,mn,e0,-az,-iC,-aH]
  have wl:∀ n,bF CP gi (n+1) [some (.ref p),some (.fl []),some (.str w),some (.str w),none,none] h = .rt (.bl false) h:=fun n=>ka cn eb
  have wl':bF CP gi cf [some (.ref p),some (.fl []),some (.str w),some (.str w),none,none] h = .rt (.bl false) h:=wl _
  have tp:j5 [.ref p,.fl [],.str w] h = .ok (.bl false) h:=by
   unfold j5
   generalize bF CP gi cf=WL at *;simp [wl']
  simp [fE,ob,hp,sh,tp]
theorem Ib {h:AH} {p:Nat} {ps:List Pc} (S:ShelfAt h p ps):mm [.ref p,.int 0] h = .ok (.fl []) h:=by
 have ck:ik [.ref p,.int 0] h = .ok .non h:=lg S (KS _)
 have t0:aH (.int 0) (.int 0) h = .ok (.bl true) h:=by simp
 simp [mm,S.ob,ck,t0,-aH]
theorem zA {h:AH} {p:Nat} {ps:List Pc} {its:List Un} {v:AV} {w:Option Nat} (S:ShelfAt h p ps) (sr:SrcI h its v w) (oi:∀ i∈its,cL ps i):gD [.ref p,.int 0,v] h = .ok (if its.isEmpty then .fl [] else .non) h:=by
 have wl:=Ib S
 have it:aK (ae 2) [some (.ref p),some (.int 0),some v,some (.fl []),none] h = .ok (its.map uv,w) h:=by
  cases sr with
  | ref e=>simp [e]
  | fl =>
   generalize its.map uv=Q at *;simp
 have fo:=g8 (t:=.nm 4) (b:=fQ) it
 have lv:=sr.live (hh:=h) (fun _ _=>rfl)
 cases its with
 | nil =>
  have go:cH w ([]:List AV) (.nm 4) fQ [] [some (.ref p),some (.int 0),some v,some (.fl []),none] h = .nx [some (.ref p),some (.int 0),some v,some (.fl []),none] h:=by
   unfold cH
   rw [Ku (show cP w [] h=true from lv)]
  have fo' := fo.trans go
  unfold gD
  generalize bf (aK (ae 2)) (.nm 4) fQ=FF at *;simp [wl,fo']
 | cons i r =>
  have ti:=Ia S (oi i (Km ..))
  have eb:fQ [some (.ref p),some (.int 0),some v,some (.fl []),some (uv i)] h = .rt .non h:=by
   generalize uv i=UI at *;simp [fQ,ti]
  have go:cH w ((i::r).map uv) (.nm 4) fQ ((i::r).map uv) [some (.ref p),some (.int 0),some v,some (.fl []),none] h = .rt .non h:=by
   rw [KY] at lv ⊢;unfold cH
   rw [Ku lv];have st1:dB (.nm 4) (uv i) [some (.ref p),some (.int 0),some v,some (.fl []),none]=some [some (.ref p),some (.int 0),some v,some (.fl []),some (uv i)]:=rfl
   rw [st1];dsimp only;rw [eb]
  have fo' := fo.trans go
  unfold gD
  generalize bf (aK (ae 2)) (.nm 4) fQ=FF at *;simp [wl,fo']
end Sk
namespace Sk
open PySem PySem.Spec L2 Sm
def zt (t:Nat):List Un:=if t=0 then [] else [.n t]
theorem ox:zt 0=[]:=rfl
theorem jO {t:Nat} (h:1<=t):zt t=[.n t]:=by
 unfold zt
 rw [KF (by lia)]
theorem ux {ps:List Pc} {t:Nat} {x:Str} (T:TxZ ps t x):(∀ u∈zt t,OkU ps u)/\aM ps (zt t)=x.cps.toList:=by
 rcases T with ⟨rfl,rfl⟩ | ⟨m,f,l,T⟩
 ·exact ⟨fun u hu=>(by cases hu),rfl⟩
 ·rw [jO T.n1]
  refine ⟨fun u hu=>?_,?_⟩
  ·rw [K3] at hu
   subst hu;exact .n T
  ·rw [aM,dq T]
   exact K8 _
theorem zB {ps:List Pc}:∀ {its:List Un},(∀ i∈its,cL ps i)->bG ps its []=if its.isEmpty then some [] else none
 | [],_=>rfl
 | .n k::r,_=>rfl
 | .s z::r,oi=>by
  have z0 : ¬ z = "" := fun q=>by
   cases oi _ (Km ..) with
   | s a =>
    have:=(gF a).1
    rw [zaZ] at q;lia
  show (dI ps 10 z []).bind (bG ps r)=none
  have:dI ps 10 z []=none:=by rw [dI,KF z0,Ku (.inl (by show min 0 z.length=0;lia))]
  rw [this];rfl
theorem ql {h:AH} {t:Nat} {ps:List Pc} {its:List Un} {v:AV} {w:Option Nat} {x:Str} (S:ShelfAt h 0 ps) (g:Good ps) (T:TxZ ps t x) (sr:SrcI h its v w) (oi:∀ i∈its,cL ps i) :
  ∃ (r:AH) (b:Bool),d5 [.ref 0,.int t,v] h = .ok (.bl b) (h++r)/\(b=true ↔ bG ps its (zt t)=some []):=by
 rcases T with ⟨rfl,rfl⟩ | ⟨m,f,l,T⟩
 ·have f0:=zA S sr oi
  have l0:=zB oi
  refine ⟨[],its.isEmpty,?_,?_⟩
  ·rw [K8]
   cases its with
   | nil =>
    have f0':gD [.ref 0,.int 0,v] h = .ok (.fl []) h:=f0
    have q:aH (.fl []) (.fl []) h = .ok (.bl true) h:=by simp [df,cE,PyData.eqv,PyData.eqvAll]
    show d5 [.ref 0,.int 0,v] h = .ok (.bl true) h
    simp [d5,f0',q,-aH]
   | cons i r =>
    have f0':gD [.ref 0,.int 0,v] h = .ok .non h:=f0
    have q:=zr h
    show d5 [.ref 0,.int 0,v] h = .ok (.bl false) h
    simp [d5,f0',q,-aH]
  ·rw [ox,l0]
   cases its with
   | nil=>exact ⟨fun _=>rfl,fun _=>rfl⟩
   | cons i r=>exact ⟨fun z=>(by cases z),fun z=>(by cases z)⟩
 ·obtain ⟨o,b,e,q⟩:=HH S g T sr oi
  exact ⟨[o],b,e,by rw [jO T.n1];exact q⟩
theorem Ic {h:AH} {t:Nat} {ps:List Pc} {its:List Un} {v:AV} {w:Option Nat} {x:Str} (S:ShelfAt h 0 ps) (g:Good ps) (T:TxZ ps t x) (sr:SrcI h its v w) (oi:∀ i∈its,cL ps i) :
  ∃ (r:AH) (b:Bool),iY [.ref 0,.int t,v] h = .ok (.bl b) (h++r)/\(b=true ↔ bG ps its (zt t)≠none):=by
 rcases T with ⟨rfl,rfl⟩ | ⟨m,f,l,T⟩
 ·have f0:=zA S sr oi
  have l0:=zB oi
  refine ⟨[],its.isEmpty,?_,?_⟩
  ·rw [K8]
   cases its with
   | nil =>
    have f0':gD [.ref 0,.int 0,v] h = .ok (.fl []) h:=f0
    have q:gP (.fl []) .non h = .ok (.bl true) h:=by
     simp only [gP]
     rw [KH (fun z=>by cases z)]
     rfl
    show iY [.ref 0,.int 0,v] h = .ok (.bl true) h
    simp [iY,f0',q,-gP]
   | cons i r =>
    have f0':gD [.ref 0,.int 0,v] h = .ok .non h:=f0
    have q:=zu h
    show iY [.ref 0,.int 0,v] h = .ok (.bl false) h
    simp [iY,f0',q,-gP]
  ·rw [ox,l0]
   cases its with
   | nil=>exact ⟨fun _ z=>(by cases z),fun _=>rfl⟩
   | cons i r=>exact ⟨fun z=>(by cases z),fun z=>absurd rfl z⟩
 ·obtain ⟨o,b,e,q⟩:=HJ S g T sr oi
  exact ⟨[o],b,e,by rw [jO T.n1];exact q⟩
theorem uy {ps:List Pc} (g:Good ps) {t:Nat} {its s:List Un} {x:Str} (T:TxZ ps t x) (e:bG ps its (zt t)=some s):x.cps.toList=aM ps its++aM ps s:=by
 obtain ⟨a,b⟩:=ux T
 rw [<- b];exact (uf g its a e).1
theorem zC {ps:List Pc} (g:Good ps) {k:Nat}:∀ (c:Nat) {st st':List Un},(∀ u∈st,OkU ps u)->bx ps k c st=some st'->OkI ps (.n k)
 | 0,[],st',_,h=>by cases h
 | 0,.s _::_,st',_,h=>by cases h
 | 0,.n _::_,st',_,h=>by cases h
 | c+1,[],st',_,h=>by cases h
 | c+1,.s _::_,st',_,h=>by cases h
 | c+1,.n j::st,st',ok,h=>by
  rw [bx] at h
  cases ok _ (Km ..) with
  | @n _ m f l x T =>
   by_cases q:j=k
   ·subst q
    exact .n T
   ·rw [KF q] at h
    rcases g.kind T with ⟨e1,_⟩ | ⟨a,b,ma,mb,y,z,fa,la,fb,lb,e1,e2,e3,A,B,e4,e5,e6⟩
    ·rw [e1] at h;cases h
    ·rw [e1] at h
     exact zC g c (i4 A B ok) h
theorem zE {ps:List Pc} (g:Good ps):∀ (its:List Un) {st s:List Un},(∀ u∈st,OkU ps u)->(∀ i∈its,cL ps i)->bG ps its st=some s->∀ i∈its,OkI ps i
 | [],_,_,_,_,_,i,hi=>by cases hi
 | j::r,st,s,ok,oi,e,i,hi=>by
  rw [bG] at e
  cases q:fH ps j st with
  | none=>rw [q] at e;cases e
  | some st1 =>
   rw [q] at e;have e':bG ps r st1=some s:=e
   rcases KJ.mp hi with rfl | hi
   ·cases i with
    | n k=>exact zC g 90 ok q
    | s z =>
     cases oi _ (Km ..) with
     | s a=>exact .s a
   ·exact zE g r (oj g ok q).2.1 (fun u hu=>oi u (Kp _ hu)) e' i hi
theorem Ie {ps:List Pc} (g:Good ps) (f:dE 64 ps) {k:Nat} (k1:1<=k) (k2:k<=ps.length):∃ x:Str,TxZ ps k x/\x.length<=64:=by
 obtain ⟨m,x,fl,l,T⟩:=g.tx k k1 k2
 exact ⟨x,.inr ⟨_,_,_,T⟩,by rw [<- T.ky.sg];exact f k m T.ms⟩
end Sk
namespace Sk
open PySem PySem.Spec L2 Sm
theorem Ig {h h':AH} (k:∀ i,i<h.length->h'[i]? = h[i]?) (l:h.length<=h'.length):∃ r,h'=h++r:=by
 refine ⟨h'.drop h.length,LY fun i=>?_⟩
 by_cases q:i<h.length
 ·rw [k i q,Ki q]
 ·rw [K2 (by lia),Mb]
  congr 1
  lia
abbrev dU (o1:Option AV) (z:Str) (R:Nat) (o4 o5:Option AV):En:=[some (.ref 0),o1,some (.str z),some (.ref R),o4,o5]
theorem Ih {hh:AH} {R j:Nat} {ps:List Pc} {z:Str} {st:List Un} {o1 o4 o5:Option AV} (S:ShelfAt hh 0 ps) (g:Good ps) (hR:0+8<R) (eR:hh[R]? = some (.lst ((.n j::st).reverse.map uv))) (ok:∀ u∈(.n j::st:List Un),OkI ps u) (nu:∀ u∈st,∃ j,u=Un.n j) (lz:z.length+(aM ps (.n j::st)).length<=10000) :
  ∃ (h2:AH) (z2:Str) (st2:List Un) (c4 c5:Option AV),iI (dU o1 z R o4 o5) hh = .nx (dU o1 z2 R c4 c5) h2/\ShelfAt h2 0 ps/\h2[R]? = some (.lst (st2.reverse.map uv))/\(∀ i,i<hh.length->i≠R->h2[i]? = hh[i]?)/\hh.length<=h2.length/\(∀ u∈st2,OkI ps u)/\(∀ u∈st2,∃ j,u=Un.n j)/\z2.cps.toList++aM ps st2=z.cps.toList++aM ps (.n j::st)/\2*(aM ps st2).length-st2.length<2*(aM ps (.n j::st)).length-(st.length+1):=by
 have okst:∀ u∈st,OkI ps u:=fun u hu=>ok u (Kp _ hu)
 have lst:=um (eY okst)
 have rdj:aM ps (.n j::st)=iM ps (.n j)++aM ps st:=rfl
 have eR' := eR
 rw [hG] at eR';have po:=fG eR'
 have is1:aL (.ref R) hh=true:=by simp [eR]
 have Rl:=aY eR
 have S1:=eZ S hR (.lst (st.reverse.map uv))
 have e1:(hh.set R (.lst (st.reverse.map uv)))[R]? = some (.lst (st.reverse.map uv)):=Ko Rl
 have fr1:∀ i,i<hh.length->i≠R->(hh.set R (.lst (st.reverse.map uv)))[i]? = hh[i]? := fun i _ hi=>Kr (fun q=>hi q.symm)
 have l1:(hh.set R (.lst (st.reverse.map uv))).length=hh.length:=Lm ..
 have ls:(st.reverse.map uv).length=st.length:=by simp
 generalize hh.set R (.lst (st.reverse.map uv))=h1 at *
 cases ok _ (Km ..) with
 | @n _ m f l x T =>
  have po':bc (.ref R) [] hh = .ok (.int j) h1:=po
  have ne:aI (.int j) (.int 0) h1 = .ok (.bl true) h1:=by have:=T.n1;simp;lia
  have ob:=S1.ob
  have pj:=(OkU.n T).pos
  have rx:iM ps (.n j)=x.cps.toList:=dq T
  have lr:(aM ps (.n j::st)).length=x.length+(aM ps st).length:=by rw [rdj,Kq,rx,<- bK]
  rcases g.kind T with ⟨e,_,_,x1,x8⟩ | ⟨a,b,ma,mb,y,w,fa,la,fb,lb,e,e2,_,A,B,y1,y2,_⟩
  ·have fp:=jL S1 T.n1 e
   have i0:=nX x h1
   have i1:=nY x h1
   have el:=p9 h1
   have ad:ar (.str z) (.str x) h1 = .ok (.str (z++x)) h1:=by
    have:z.length+x.length<=sizeLine:=Kn (m:=10000) (by lia) (by decide)
    simp only [ar,this,Lp]
   refine ⟨h1,z++x,st,some (.int j),some (.tup [.str "leaf",.str x]),?_,S1,e1,fr1,by lia,okst,nu,?_,by lia⟩
   ·simp [iI,is1,po',ne,ob,fp,i0,i1,el,ad,-aL,-bc,-aI,-aH,-aB,-ar]
   ·rw [dH,rdj,rx,KN]
  ·have fp:=gq S1 T.n1 e
   have i0:=mr a b h1
   have i1:aB (.tup [.str "fork",.int a,.int b]) (.int 1) h1 = .ok (.int a) h1:=rfl
   have i2:aB (.tup [.str "fork",.int a,.int b]) (.int 2) h1 = .ok (.int b) h1:=rfl
   have el:aH (.str "fork") (.str "leaf") h1 = .ok (.bl false) h1:=by
    have : ¬ (Str.ofString "fork" = Str.ofString "leaf"):=by decide +kernel
    simp [this]
   have eR2:(h1++[AO.lst [.int b,.int a]])[R]? = some (.lst (st.reverse.map uv)):=by rw [Ki (by lia)];exact e1
   have eN:(h1++[AO.lst [.int b,.int a]])[h1.length]? = some (.lst [.int b,.int a]):=by simp
   have is2:aL (.ref R) h1=true:=by simp [e1]
   have is3:aL (.ref R) (h1++[AO.lst [.int b,.int a]])=true:=by simp [eR2]
   have sl:(st.reverse.map uv).length+2<=sizeLine:=Kn (m:=10002) (by lia) (by decide)
   have ex:gy (.ref R) [.ref h1.length] (h1++[AO.lst [.int b,.int a]]) = .ok .non ((h1++[AO.lst [.int b,.int a]]).set R (.lst (st.reverse.map uv++[.int b,.int a]))):=by
    simp only [gy,eR2,eN,Kk,LJ]
    rw [Ku sl]
   have er:st.reverse.map uv++[.int b,.int a]=(.n a :: .n b::st:List Un).reverse.map uv:=by simp
   rw [er] at ex;refine ⟨_,z,.n a :: .n b::st,some (.int j),some (.tup [.str "fork",.int a,.int b]),?_,eZ (S1.app [AO.lst [.int b,.int a]]) hR (.lst ((.n a :: .n b::st:List Un).reverse.map uv)),Ko (aY eR2),?_,by rw [Lm,Kq];lia,?_,?_,?_,?_⟩
   ·generalize (h1++[AO.lst [.int b,.int a]]).set R (.lst ((.n a :: .n b::st:List Un).reverse.map uv))=H3 at *
    generalize hH2:h1++[AO.lst [.int b,.int a]]=H2 at *;simp [iI,is1,po',ne,ob,fp,i0,i1,i2,el,is2,is3,hH2,ex,-aL,-bc,-aI,-aH,-aB,-gy]
   ·intro i hi hn
    rw [Kr (fun q=>hn q.symm),Ki (by lia)]
    exact fr1 i hi hn
   ·exact om g ok e
   ·intro u hu
    rcases KJ.mp hu with rfl | hu
    ·exact ⟨_,rfl⟩
    ·rcases KJ.mp hu with rfl | hu
     ·exact ⟨_,rfl⟩
     ·exact nu u hu
   ·rw [aM,aM,rdj,dq T,dq A,dq B,y1,dH,KN]
   ·have q:(aM ps (.n a :: .n b::st)).length=(aM ps (.n j::st)).length:=by
     rw [aM,aM,rdj,dq T,dq A,dq B,y1,dH,KN]
    have l2:(.n a :: .n b::st:List Un).length=st.length+2:=rfl
    have oa:=(OkU.n A).pos
    have ob2:=(OkU.n B).pos
    rw [dq A,<- bK] at oa;rw [dq B,<- bK] at ob2;have:x.length=y.length+w.length:=by rw [y1,cx]
    lia
theorem lC {h:AH} {t:Nat} {ps:List Pc} {x:Str} (S:ShelfAt h 0 ps) (g:Good ps) (T:TxZ ps t x) (lx:x.length<=10000):∃ r:AH,fR [.ref 0,.int t] h = .ok (.str x) (h++r):=by
 have hR:0+8<h.length:=aY S.h8
 have S0:=S.app [.lst [.int t]]
 have e0:(h++[AO.lst [.int t]])[h.length]? = some (.lst [.int t]):=by simp
 rcases T with ⟨rfl,rfl⟩ | ⟨m,f,l,T⟩
 ·have eR:(h++[AO.lst [.int 0]])[h.length]? = some (.lst (([.n 0]:List Un).reverse.map uv)):=e0
  have po:=fG (h:=h++[AO.lst [.int 0]]) (W:=h.length) (Z:=[]) (v:=.int 0) e0
  have se:(h++[AO.lst [.int 0]]).set h.length (.lst [])=h++[.lst []]:=tj
  rw [se] at po;have n1:=kb eR
  have n2:=mz (h:=h++[AO.lst []]) (W:=h.length) (by simp)
  have is1:aL (.ref h.length) (h++[AO.lst [.int 0]])=true:=by simp
  have ne:aI (.int 0) (.int 0) (h++[AO.lst []]) = .ok (.bl false) (h++[AO.lst []]):=by simp
  refine ⟨[.lst []],?_⟩
  have c1:(aQ (ah aI (ae 3) (aS af))) (dU (some (.int 0)) "" h.length none none) (h++[AO.lst [.int 0]]) = .ok true (h++[AO.lst [.int 0]]):=by
   simp only [dU]
   generalize h++[AO.lst [.int 0]]=H0 at *;simp [n1,-aI]
  have b1:iI (dU (some (.int 0)) "" h.length none none) (h++[AO.lst [.int 0]]) = .nx (dU (some (.int 0)) "" h.length (some (.int 0)) none) (h++[AO.lst []]):=by
   simp only [dU]
   generalize h++[AO.lst [.int 0]]=H0 at *;generalize h++[AO.lst []]=H1 at *;simp [iI,is1,po,ne,-aL,-bc,-aI]
  have c2:(aQ (ah aI (ae 3) (aS af))) (dU (some (.int 0)) "" h.length (some (.int 0)) none) (h++[AO.lst []]) = .ok false (h++[AO.lst []]):=by
   simp only [dU]
   generalize h++[AO.lst []]=H1 at *;simp [n2,-aI]
  have wl:∀ n,bF (aQ (ah aI (ae 3) (aS af))) iI (n+2) (dU (some (.int 0)) "" h.length none none) (h++[AO.lst [.int 0]]) = .nx (dU (some (.int 0)) "" h.length (some (.int 0)) none) (h++[AO.lst []]):=fun n=>by
   rw [n9 c1 b1,lq c2]
  have wl':bF (aQ (ah aI (ae 3) (aS af))) iI cf (dU (some (.int 0)) "" h.length none none) (h++[AO.lst [.int 0]]) = .nx (dU (some (.int 0)) "" h.length (some (.int 0)) none) (h++[AO.lst []]):=wl _
  simp only [dU] at wl'
  unfold fR
  generalize bF (aQ (ah aI (ae 3) (aS af))) iI cf=WL at *;simp [wl']
 ·have rdx:aM ps [.n t]=x.cps.toList:=by
   rw [aM,dq T];exact K8 _
  have lx2:(aM ps [.n t]).length=x.length:=by rw [rdx,<- bK]
  obtain ⟨e',h',w1,w2⟩:=sV (c:=aQ (ah aI (ae 3) (aS af))) (b:=iI) (fuel:=cf) (n:=2*(aM ps [.n t]).length-1) (en:=dU (some (.int t)) "" h.length none none) (h:=h++[AO.lst [.int t]])
   (fun n en hh=>∃ (z:Str) (st:List Un) (o4 o5:Option AV) (r:AH),en=dU (some (.int t)) z h.length o4 o5/\hh=h++r/\ShelfAt hh 0 ps/\hh[h.length]? = some (.lst (st.reverse.map uv))/\(∀ u∈st,OkI ps u)/\(∀ u∈st,∃ j,u=Un.n j)/\z.cps.toList++aM ps st=x.cps.toList/\n=2*(aM ps st).length-st.length)
   (fun en hh=>∃ (o4 o5:Option AV) (r:AH),en=dU (some (.int t)) x h.length o4 o5/\hh=h++r)
   ⟨"",[.n t],none,none,_,rfl,rfl,S0,e0,fun u hu=>(by rw [K3] at hu;subst hu;exact .n T),fun u hu=>(by rw [K3] at hu;exact ⟨t,hu⟩),by rw [rdx];rfl,rfl⟩
   (KA (m:=20000) (by lia) (by decide)) (by
    rintro n en hh ⟨z,st,o4,o5,r,rfl,rfl,Sh,eR,ok,nu,ez,rfl⟩
    cases st with
    | nil =>
     have n2:=mz eR
     have c:(aQ (ah aI (ae 3) (aS af))) (dU (some (.int t)) z h.length o4 o5) (h++r) = .ok false (h++r):=by
      simp only [dU]
      generalize h++r=H at *;simp [n2,-aI]
     rw [c];have:z=x:=cW (by rw [<- ez];exact (K8 _).symm)
     subst this;exact ⟨o4,o5,r,rfl,rfl⟩
    | cons u st =>
     obtain ⟨j,rfl⟩:=nu u (Km ..)
     have n1:=kb eR
     have c:(aQ (ah aI (ae 3) (aS af))) (dU (some (.int t)) z h.length o4 o5) (h++r) = .ok true (h++r):=by
      simp only [dU]
      generalize h++r=H at *;simp [n1,-aI]
     rw [c];have lz:=congrArg List.length ez
     rw [Kq,<- bK,<- bK] at lz;obtain ⟨h2,z2,st2,c4,c5,eb,S2,e2,fr,hl,ok2,nu2,ez2,dec⟩:=Ih (o1:=some (.int t)) (o4:=o4) (o5:=o5) (z:=z) Sh g hR eR ok (fun u hu=>nu u (Kp _ hu)) (by lia)
     obtain ⟨r2,er2⟩:=Ig (h:=h) (h' := h2) (fun i hi=>by rw [fr i (by rw [Kq];lia) (by lia),Ki hi]) (by rw [Kq] at hl;lia)
     dsimp only;rw [eb];exact ⟨_,dec,z2,st2,c4,c5,r2,rfl,er2,S2,e2,ok2,nu2,ez2.trans ez,rfl⟩)
  obtain ⟨o4,o5,r,rfl,rfl⟩:=w2
  refine ⟨r,?_⟩
  simp only [dU] at w1
  unfold fR
  generalize bF (aQ (ah aI (ae 3) (aS af))) iI cf=WL at *;generalize h++r=H at *;simp [w1]
end Sk
namespace Sk
open PySem PySem.Spec L2 Sm
theorem zF {w:Option Nat} {js:List Nat} {en:En} {all:List AV} {e:SE} (P:Nat->List AV->AH->Prop) (lv:∀ i ys h,P i ys h->cP w all h=true):∀ (xs ys:List AV) (i:Nat) (h:AH),P i ys h ->
  (∀ j x ys h,xs[j]? = some x->P (i+j) ys h->∃ v h2,e (some x::js.map fun j=>(en[j]?).join) h = .ok v h2/\P (i+j+1) (ys++[v]) h2)->ys.length+xs.length<=sizeLine ->
  ∃ zs h',bP js en w all aR e xs ys h = .ok zs h'/\P (i+xs.length) zs h'
 | [],ys,i,h,p,_,_=>⟨ys,h,by unfold bP;rw [Ku (lv _ _ _ p)],p⟩
 | x::xs,ys,i,h,p,s,hl=>by
  obtain ⟨v,h2,q1,q2⟩:=s 0 x ys h rfl p
  obtain ⟨zs,h',r1,r2⟩:=zF P lv xs (ys++[v]) (i+1) h2 q2 (fun j y ys h hy hp=>by
   have:=s (j+1) y ys h (by simpa using hy) (by rw [show i+(j+1)=i+1+j by lia];exact hp)
   rw [show i+(j+1)+1=i+1+j+1 by lia] at this
   exact this) (by simp at hl ⊢;lia)
  refine ⟨zs,h',?_,by rw [Kk,show i+(xs.length+1)=i+1+xs.length by lia];exact r2⟩
  unfold bP
  rw [Ku ⟨lv _ _ _ p,by simp at hl;lia⟩]
  simp only [aR]
  rw [q1];exact r1
theorem oy {ps:List Pc}:∀ {its:List Un},(∀ i∈its,OkI ps i)->its.length<=(aM ps its).length
 | [],_=>KS _
 | i::r,ok=>by
  have:=oy (its:=r) fun j hj=>ok j (Kp _ hj)
  have p:=(ok i (Km ..)).u.pos
  rw [aM,Kq,Kk];lia
def jP (ps:List Pc):Un->Str
 | .n k=>((reads ps)[k]?).getD ""
 | .s z=>z
theorem zG {ps:List Pc} {k:Nat} {m f l:Ms} {x:Str} (T:Tx ps k m x f l):jP ps (.n k)=x:=by
 show ((reads ps)[k]?).getD "" = x
 rw [T.rd];rfl
theorem uz:∀ l:List Str,mX (l.map AV.str)=some l
 | []=>rfl
 | x::l=>by simp [uz l]
theorem zH {ps:List Pc}:∀ {its:List Un},(∀ i∈its,OkI ps i)->((its.map (jP ps)).map fun x:Str=>x.cps.toList).flatten=aM ps its
 | [],_=>rfl
 | i::r,ok=>by
  have ih:=zH (its:=r) fun j hj=>ok j (Kp _ hj)
  rw [KY,KY,Mf,ih,aM];congr 1
  cases ok i (Km ..) with
  | n T=>rw [zG T,dq T]
  | s a=>rfl
theorem zI {ps:List Pc}:∀ {its:List Un} {i:Un},i∈its->(iM ps i).length<=(aM ps its).length
 | j::r,i,hi=>by
  rw [aM,Kq];rcases KJ.mp hi with rfl | hi
  ·lia
  ·have:=zI (ps:=ps) hi
   lia
theorem Ii {x y:Str} {r:List Nat} (e:x.cps.toList=y.cps.toList++r):Txt.startswith x y=true:=by
 have l:x.length=y.length+r.length:=by rw [bK,e,Kq,<- bK]
 have q:x.cps.extract 0 (0+y.length)=y.cps:=by
  apply Array.ext'
  rw [Array.toList_extract,List.extract_eq_take_drop,MV,e];have:0+y.length-0=y.cps.toList.length:=by rw [<- bK];lia
  rw [this,List.take_left'];rfl
 unfold Txt.startswith Builtin.Str.subAt
 rw [q];simp
 lia
theorem Ij {h:AH} {ps:List Pc} {its:List Un} {v:AV} {w:Option Nat} (S:ShelfAt h 0 ps) (g:Good ps) (sr:SrcI h its v w) (oi:∀ i∈its,OkI ps i) (hl:(aM ps its).length<=1000) :
  ∃ (r:AH) (z:Str),jH [.ref 0,v] h = .ok (.str z) (h++r)/\z.cps.toList=aM ps its:=by
 have ll:=oy oi
 have kp:∀ (r:AH) (i:Nat),i<h.length->(h++r)[i]? = h[i]? := fun r i hi=>Ki hi
 obtain ⟨zs,h',c1,⟨r,rfl⟩,c2⟩:=zF (w:=w) (js:=[0]) (en:=[some (.ref 0),some v]) (all:=its.map uv) (e:=gg (ah aB (aS (aj (ae 0) (aj (ai (.str "")) af))) (ax fv (aj (cV "int" (ae 0)) af))) (ax fR (aj (ae 1) (aj (ae 0) af))))
  (fun i ys hh=>(∃ r,hh=h++r)/\(i<=its.length->ys=(its.take i).map fun i=>AV.str (jP ps i))) (fun i ys hh p=>by
   obtain ⟨⟨r,rfl⟩,_⟩:=p
   exact sr.live (kp r)) (its.map uv) [] 0 h ⟨⟨[],(K8 _).symm⟩,fun _=>rfl⟩ (by
   rintro j u ys hh hu ⟨⟨r,rfl⟩,p2⟩
   rw [K6] at hu;obtain ⟨i,ei,rfl⟩:=KU.mp hu
   have hj:=(Kh.mp ei).1
   have hi:=KQ ei
   have ey:=p2 (by lia)
   rw [L9] at ey;have ul:=zI (ps:=ps) hi
   have tk:its.take (j+1)=its.take j++[i]:=by rw [Mw,ei];rfl
   rw [L9]
   cases oi i hi with
   | @n k m f l x T =>
    rw [dq T,<- bK] at ul;obtain ⟨r',rr⟩:=lC (S.app r) g (.inr ⟨_,_,_,T⟩) (show x.length<=10000 by lia)
    have c1:aB (.fl [.int k,.str ""]) (.int 1) (h++r) = .ok (.str "") (h++r):=rfl
    have t1:fk (.str "") (h++r)=some false:=rfl
    refine ⟨.str x,h++r++r',?_,⟨r++r',KN ..⟩,fun _=>by rw [tk,K9,<- ey];show _=_++[AV.str (jP ps (.n k))];rw [zG T]⟩
    show (gg (ah aB (aS (aj (ae 0) (aj (ai (.str "")) af))) (ax fv (aj (cV "int" (ae 0)) af))) (ax fR (aj (ae 1) (aj (ae 0) af)))) [some (.int k),some (.ref 0)] (h++r)=_
    generalize h++r++r'=H2 at *;generalize h++r=H1 at *;simp [c1,t1,rr,-aB,-fk]
   | @s z a =>
    have z1:=(gF a).1
    have c1:aB (.fl [.str z,.str ""]) (.int 0) (h++r) = .ok (.str z) (h++r):=rfl
    have t1:fk (.str z) (h++r)=some true:=by
     have:((z.length:Int) != 0)=true:=by simp;lia
     show some ((z.length:Int) != 0)=_
     rw [this]
    refine ⟨.str z,h++r,?_,⟨r,rfl⟩,fun _=>by rw [tk,K9,<- ey];rfl⟩
    show (gg (ah aB (aS (aj (ae 0) (aj (ai (.str "")) af))) (ax fv (aj (cV "int" (ae 0)) af))) (ax fR (aj (ae 1) (aj (ae 0) af)))) [some (.str z),some (.ref 0)] (h++r)=_
    generalize h++r=H1 at *;simp [c1,t1,-aB,-fk]) (Kn (m:=1000) (by simp;lia) (by decide))
 rw [Kv,L9] at c2;have ez:=c2 (Kj _)
 rw [Mj] at ez;subst ez;have it:aK (ae 1) [some (.ref 0),some v] h = .ok (its.map uv,w) h:=by
  cases sr with
  | ref e=>simp [e]
  | fl =>
   generalize its.map uv=Q at *;simp
 have cc:dh [0] (aK (ae 1)) aR (gg (ah aB (aS (aj (ae 0) (aj (ai (.str "")) af))) (ax fv (aj (cV "int" (ae 0)) af))) (ax fR (aj (ae 1) (aj (ae 0) af)))) [some (.ref 0),some v] h = .ok (.fl (its.map fun i=>AV.str (jP ps i))) (h++r):=by
  simp only [dh,it,c1]
 have e2:(its.map fun i=>AV.str (jP ps i))=(its.map (jP ps)).map AV.str:=by rw [Of];rfl
 rw [e2] at cc;refine ⟨r,⟨(aM ps its).toArray⟩,?_,by simp⟩
 have jn:iT (.str "") [.fl ((its.map (jP ps)).map AV.str)] (h++r) = .ok (.str ⟨(aM ps its).toArray⟩) (h++r):=by
  have e:(Str.ofString "")=Str.empty:=by decide +kernel
  unfold iT
  simp only [e,Lp,dR,uz,zH oi]
  rw [Ku (Kn hl (by decide))]
 unfold jH
 generalize dh [0] (aK (ae 1)) aR (gg (ah aB (aS (aj (ae 0) (aj (ai (.str "")) af))) (ax fv (aj (cV "int" (ae 0)) af))) (ax fR (aj (ae 1) (aj (ae 0) af))))=CC at *;generalize (its.map (jP ps)).map AV.str=ZZ at *;generalize h++r=H at *;simp [cc,jn,-iT]
theorem Ik {h:AH} {t:Nat} {ps:List Pc} {its:List Un} {v:AV} {w:Option Nat} {x:Str} (S:ShelfAt h 0 ps) (g:Good ps) (T:TxZ ps t x) (lx:x.length<=900) (sr:SrcI h its v w) (oi:∀ i∈its,cL ps i) :
  ∃ r:AH,nO [.ref 0,.int t,v,.str x] h = .ok (.bl true) (h++r):=by
 have kp:∀ (r:AH) (i:Nat),i<h.length->(h++r)[i]? = h[i]? := fun r i hi=>Ki hi
 have oz:=(ux T).1
 have po:∀ (r:AH) (s:List Un),bG ps its (zt t)=some s->∃ (r':AH) (z:Str),jH [.ref 0,v] (h++r) = .ok (.str z) (h++r++r')/\x.cps.toList=z.cps.toList++aM ps s:=fun r s e=>by
  have rd:=uy g T e
  have oi2:=zE g its oz oi e
  have lr:=congrArg List.length rd
  rw [Kq,<- bK] at lr;obtain ⟨r',z,f,ez⟩:=Ij (S.app r) g (sr.mono (kp r)) oi2 (by lia)
  exact ⟨r',z,f,by rw [rd,ez]⟩
 obtain ⟨r1,b1,f1,q1⟩:=ql S g T sr oi
 obtain ⟨r2,e2⟩:∃ r2:AH,(dz (dX (ax d5 (aj (ae 0) (aj (ae 1) (aj (ae 2) af))))) (aQ (ah aI (ax jH (aj (ae 0) (aj (ae 2) af))) (ae 3)))) [some (.ref 0),some (.int t),some v,some (.str x)] h = .ok false (h++r2):=by
  cases b1 with
  | false =>
   refine ⟨r1,?_⟩
   generalize h++r1=H1 at *;simp [f1]
  | true =>
   obtain ⟨r',z,f,ez⟩:=po r1 [] (q1.mp rfl)
   have:z=x:=cW (by rw [ez];exact (K8 _).symm)
   subst this;refine ⟨r1++r',?_⟩
   rw [<- KN];have ne:aI (.str z) (.str z) (h++r1++r') = .ok (.bl false) (h++r1++r'):=by simp
   generalize h++r1++r'=H2 at *;generalize h++r1=H1 at *;simp [f1,f,ne,-aI]
 obtain ⟨r3,b3,f3,q3⟩:=Ic (S.app r2) g T (sr.mono (kp r2)) oi
 cases b3 with
 | false =>
  refine ⟨r2++r3,?_⟩
  rw [<- KN];unfold nO
  generalize dz (dX (ax d5 (aj (ae 0) (aj (ae 1) (aj (ae 2) af))))) (aQ (ah aI (ax jH (aj (ae 0) (aj (ae 2) af))) (ae 3)))=CA at *;generalize h++r2++r3=H3 at *;generalize h++r2=H2 at *;simp [e2,f3]
 | true =>
  cases hs:bG ps its (zt t) with
  | none=>exact absurd hs (q3.mp rfl)
  | some s =>
   obtain ⟨r',z,f,ez⟩:=po (r2++r3) s hs
   rw [<- KN] at f;have st:pG (.str x) [.str z] (h++r2++r3++r') = .ok (.bl true) (h++r2++r3++r'):=by
    show Out.ok (AV.bl (Txt.startswith x z)) _=_
    rw [Ii ez]
   refine ⟨r2++r3++r',?_⟩
   rw [<- KN,<- KN];unfold nO
   generalize dz (dX (ax d5 (aj (ae 0) (aj (ae 1) (aj (ae 2) af))))) (aQ (ah aI (ax jH (aj (ae 0) (aj (ae 2) af))) (ae 3)))=CA at *;generalize h++r2++r3++r'=H4 at *;generalize h++r2++r3=H3 at *;generalize h++r2=H2 at *;simp [e2,f3,f,st]
end Sk
namespace Sk
open PySem PySem.Spec L2 Sm
inductive PL (L:Nat) (ps:List Pc) (h:AH):List AV->List (List Un)->Prop
 | nil:PL L ps h [] []
 | cons {v:AV} {w:Option Nat} {its:List Un} {vs:List AV} {pl:List (List Un)} (s:SrcI h its v w) (nv:v ≠ .ref L) (oi:∀ i∈its,cL ps i) (ln:its.length<=1000) (r:PL L ps h vs pl):PL L ps h (v::vs) (its::pl)
theorem SrcI.keep {L:Nat} {h h':AH} {its:List Un} {v:AV} {w:Option Nat} (s:SrcI h its v w) (nv:v ≠ .ref L) (fr:∀ i,i<h.length->i≠L->h'[i]? = h[i]?):SrcI h' its v w:=by
 cases s with
 | @ref B e=>exact .ref ((fr B (aY e) (fun q=>nv (by rw [q]))).trans e)
 | fl=>exact .fl
theorem PL.keep {L:Nat} {ps:List Pc} {h h':AH} {vs:List AV} {pl:List (List Un)} (p:PL L ps h vs pl) (fr:∀ i,i<h.length->i≠L->h'[i]? = h[i]?):PL L ps h' vs pl:=by
 induction p with
 | nil=>exact .nil
 | cons s nv oi ln r ih=>exact .cons (s.keep nv fr) nv oi ln ih
theorem PL.app {L:Nat} {ps:List Pc} {h:AH} {vs:List AV} {pl:List (List Un)} (p:PL L ps h vs pl) (r:AH):PL L ps (h++r) vs pl:=p.keep fun _ hi _=>Ki hi
theorem PL.len {L:Nat} {ps:List Pc} {h:AH} {vs:List AV} {pl:List (List Un)} (p:PL L ps h vs pl):vs.length=pl.length:=by
 induction p with
 | nil=>rfl
 | cons s nv oi ln r ih=>rw [Kk,Kk,ih]
def uA (ps:List Pc) (pl:List (List Un)):List Nat:=(pl.map (aM ps)).flatten
inductive TL (ps:List Pc):List Nat->List Str->Prop
 | nil:TL ps [] []
 | cons {t:Nat} {x:Str} {ts:List Nat} {xs:List Str} (T:TxZ ps t x) (lx:x.length<=64) (r:TL ps ts xs):TL ps (t::ts) (x::xs)
def fI (xs:List Str):List Nat:=(xs.map fun x:Str=>x.cps.toList).flatten
theorem zJ {TR L:Nat} {ps:List Pc} {all:List AV} {en:En} (g:Good ps) (e0:en[0]? = some (some (.ref 0))):∀ {ts:List Nat} {xs:List Str} {vs:List AV} {pl:List (List Un)} (ys:List AV) (h:AH),TL ps ts xs->PL L ps h vs pl->ts.length=vs.length->ShelfAt h 0 ps->h[TR]? = some (.lst all)->ys.length+ts.length<=1000 ->
  ∃ (r:AH) (bs:List Bool),bP [0] en (some TR) all (fN aR) (fN (ax d5 (aj (ae 2) (aj (ae 0) (aj (ae 1) af))))) (eC (ts.map fun t:Nat=>AV.int t) vs) ys h = .ok (ys++bs.map AV.bl) (h++r)/\(bs.all id=true->fI xs=uA ps pl)
 | _,_,_,_,ys,h,.nil,.nil,hl,S,eT,ly=>⟨[],[],by
   show bP [0] en (some TR) all _ _ [] ys h=_
   unfold bP
   rw [Ku (by simp [eT])]
   simp,fun _=>rfl⟩
 | _,_,_,_,ys,h,.nil,.cons ..,hl,S,eT,ly=>by cases hl
 | _,_,_,_,ys,h,.cons ..,.nil,hl,S,eT,ly=>by cases hl
 | _,_,_,_,ys,h,.cons (t:=t) (ts:=ts) (x:=x) T lx r,.cons (v:=v) (vs:=vs) s nv oi ln p,hl,S,eT,ly=>by
  obtain ⟨r1,b,f,q⟩:=ql S g T s oi
  have eT1:(h++r1)[TR]? = some (.lst all):=by rw [Ki (aY eT)];exact eT
  rw [Kk] at ly;rw [Kk,Kk] at hl;obtain ⟨r2,bs,c,k⟩:=zJ (TR:=TR) (all:=all) g e0 (ys++[.bl b]) (h++r1) r (p.app r1) (by lia) (S.app r1) eT1 (by rw [Kq];show _+1+_<=_;lia)
  refine ⟨r1++r2,b::bs,?_,fun hb=>?_⟩
  ·rw [KY,eC]
   unfold bP
   rw [Ku ⟨by simp [eT],KA (m:=1000) (by lia) (by decide)⟩]
   have u1:fN aR (some (.tup [.int t,v])::([0]:List Nat).map fun j=>(en[j]?).join) h = .ok true h:=rfl
   have u2:fN (ax d5 (aj (ae 2) (aj (ae 0) (aj (ae 1) af)))) (some (.tup [.int t,v])::([0]:List Nat).map fun j=>(en[j]?).join) h = .ok (.bl b) (h++r1):=by
    generalize h++r1=H1 at *;simp [fN,e0,f]
   rw [u1];dsimp only;rw [u2];dsimp only;rw [c];simp
  ·have hb':b=true/\bs.all id=true:=by simpa using hb
   have rd:=uy g T (q.mp hb'.1)
   have e1:aM ps ([]:List Un)=[]:=rfl
   rw [e1,K8] at rd;show x.cps.toList++fI _=aM ps _++uA ps _
   rw [rd,k hb'.2]
theorem zK {ps:List Pc} {h:AH} {all:List AV} (S:ShelfAt h 0 ps) (o1 o2 o3 o5 o6 o7:Option AV):∀ (ns:List Nat) (o4:Option AV),(∀ n∈ns,n<=ps.length) ->
  ∃ c4,cH none all (.nm 4) kW (ns.map fun t:Nat=>AV.int t) [some (.ref 0),o1,o2,o3,o4,o5,o6,o7] h = .nx [some (.ref 0),o1,o2,o3,c4,o5,o6,o7] h
 | [],o4,_=>⟨o4,rfl⟩
 | n::ns,o4,hn=>by
  obtain ⟨c4,e⟩:=zK (all:=all) S o1 o2 o3 o5 o6 o7 ns (some (.int n)) fun m hm=>hn m (Kp _ hm)
  refine ⟨c4,?_⟩
  have ck:=lg S (hn n (Km ..))
  have ob:=S.ob
  have eb:kW [some (.ref 0),o1,o2,o3,some (.int n),o5,o6,o7] h = .nx [some (.ref 0),o1,o2,o3,some (.int n),o5,o6,o7] h:=by
   simp [kW,ob,ck]
  rw [KY];unfold cH
  rw [Ku (show cP none all h=true from rfl)];have st:dB (.nm 4) (.int n) [some (.ref 0),o1,o2,o3,o4,o5,o6,o7]=some [some (.ref 0),o1,o2,o3,some (.int n),o5,o6,o7]:=rfl
  rw [st];dsimp only;rw [eb];exact e
theorem zL {L:Nat} {ps:List Pc} {h:AH} {all:List AV} (o1 o2 o3 o4 o7:Option AV):∀ {vs:List AV} {pl:List (List Un)} (acc:List Un) (o6:Option AV),PL L ps h vs pl->acc.length+1000*vs.length<=100000 ->
  ∃ c6,cH none all (.nm 6) j6 vs [some (.ref 0),o1,o2,o3,o4,some (.ref h.length),o6,o7] (h++[.lst (acc.map uv)]) = .nx [some (.ref 0),o1,o2,o3,o4,some (.ref h.length),c6,o7] (h++[.lst ((acc++pl.flatten).map uv)])
 | _,_,acc,o6,.nil,_=>⟨o6,by rw [List.flatten_nil,K8];rfl⟩
 | _,_,acc,o6,.cons (v:=v) (its:=its) (vs:=vs) (pl:=pl) s nv oi ln p,hl=>by
  rw [Kk] at hl;obtain ⟨c6,e⟩:=zL (all:=all) o1 o2 o3 o4 o7 (acc++its) (some v) p (by rw [Kq];lia)
  refine ⟨c6,?_⟩
  have s2:SrcI (h++[.lst (acc.map uv)]) its v _:=s.mono fun i hi=>Ki hi
  have lv:dR v (h++[.lst (acc.map uv)])=some (its.map uv):=by
   cases s2 with
   | ref e1=>simp only [dR,e1]
   | fl=>rfl
  have ex:lZ (.ref h.length) [v] (h++[.lst (acc.map uv)]) = .ok .non (h++[.lst ((acc++its).map uv)]):=by
   have e1:(h++[AO.lst (acc.map uv)])[h.length]? = some (.lst (acc.map uv)):=by simp
   have e2:(h++[AO.lst (acc.map uv)]).set h.length (.lst (acc.map uv++its.map uv))=h++[.lst ((acc++its).map uv)]:=by rw [K9];exact tj
   have sl:(acc.map uv).length+(its.map uv).length<=sizeLine:=Kn (m:=101000) (by rw [Kv,Kv];lia) (by decide)
   simp only [lZ,e1,lv]
   rw [Ku sl,e2]
  have is1:aL (.ref h.length) (h++[AO.lst (acc.map uv)])=true:=by simp
  have eb:j6 [some (.ref 0),o1,o2,o3,o4,some (.ref h.length),some v,o7] (h++[.lst (acc.map uv)]) = .nx [some (.ref 0),o1,o2,o3,o4,some (.ref h.length),some v,o7] (h++[.lst ((acc++its).map uv)]):=by
   generalize h++[AO.lst ((acc++its).map uv)]=H2 at *;generalize h++[AO.lst (acc.map uv)]=H1 at *;simp [j6,is1,ex,-aL,-lZ]
  have st:dB (.nm 6) v [some (.ref 0),o1,o2,o3,o4,some (.ref h.length),o6,o7]=some [some (.ref 0),o1,o2,o3,o4,some (.ref h.length),some v,o7]:=rfl
  unfold cH
  rw [Ku (show cP none all _=true from rfl),st];dsimp only;rw [eb];dsimp only;rw [e,Mf,KN]
theorem TL.le {ps:List Pc} {ts:List Nat} {xs:List Str} (t:TL ps ts xs):∀ n∈ts,n<=ps.length:=by
 induction t with
 | nil=>intro n hn;cases hn
 | cons T lx r ih =>
  intro n hn
  rcases KJ.mp hn with rfl | hn
  ·rcases T with ⟨rfl,_⟩ | ⟨_,_,_,T⟩
   ·exact KS _
   ·exact T.le
  ·exact ih n hn
theorem zM:∀ bs:List Bool,lM (bs.map AV.bl)=some bs
 | []=>rfl
 | b::bs=>by simp [zM bs]
theorem zN (ps:List Pc):∀ pl:List (List Un),aM ps pl.flatten=uA ps pl
 | []=>rfl
 | a::pl=>by
  rw [Mf,yI,zN ps pl];rfl
theorem PL.ok {L:Nat} {ps:List Pc} {h:AH} {vs:List AV} {pl:List (List Un)} (p:PL L ps h vs pl):∀ i∈pl.flatten,cL ps i:=by
 induction p with
 | nil=>intro i hi;cases hi
 | cons s nv oi ln r ih =>
  intro i hi
  rw [Mf] at hi;exact (KI.mp hi).elim (oi i) (ih i)
theorem Im {L TR o:Nat} {ps:List Pc} {h:AH} {ts:List Nat} {xs:List Str} {vs:List AV} {pl:List (List Un)} {x:Str} (S:ShelfAt h 0 ps) (g:Good ps) (tl:TL ps ts xs) (T:TxZ ps o x) (p:PL L ps h vs pl) (hl:ts.length=vs.length) (h20:ts.length<=20) (eT:h[TR]? = some (.lst (ts.map fun t:Nat=>AV.int t))) :
  ∃ (r:AH) (b:Bool),nN [.ref 0,.ref TR,.int o,.fl vs] h = .ok (.bl b) (h++r)/\(b=true->fI xs=x.cps.toList):=by
 have fa:ar (.ref TR) (.fl [.int o]) h = .ok (.fl ((ts++[o]).map fun t:Nat=>AV.int t)) h:=by
  have:(ts.map fun t:Nat=>AV.int t).length+1<=sizeLine:=Kn (m:=21) (by rw [Kv];lia) (by decide)
  simp only [ar,dR,eT,Kk,LJ]
  rw [Ku this,K9];rfl
 have oo:o<=ps.length:=by
  rcases T with ⟨rfl,_⟩ | ⟨_,_,_,T⟩
  ·exact KS _
  ·exact T.le
 obtain ⟨c4,k1⟩:=zK (all:=(ts++[o]).map fun t:Nat=>AV.int t) S (some (.ref TR)) (some (.int o)) (some (.fl vs)) none none none (ts++[o]) none (fun n hn=>by
  rcases KI.mp hn with z | z
  ·exact tl.le n z
  ·rw [K3] at z
   lia)
 have it1:aK (ah ar (ae 1) (aS (aj (ae 2) af))) [some (.ref 0),some (.ref TR),some (.int o),some (.fl vs),none,none,none,none] h = .ok ((ts++[o]).map fun t:Nat=>AV.int t,none) h:=by
  generalize (ts++[o]).map (fun t:Nat=>AV.int t)=Q at *;simp [fa,-ar]
 have f1:=(g8 (t:=.nm 4) (b:=kW) it1).trans k1
 have ln1:az [.fl vs] h = .ok (.int vs.length) h:=rfl
 have ln2:az [.ref TR] h = .ok (.int ts.length) h:=by simp only [az,eT,Kv]
 have ne:aI (.int vs.length) (.int ts.length) h = .ok (.bl false) h:=by simp [hl]
 obtain ⟨c6,k2⟩:=zL (all:=vs) (some (.ref TR)) (some (.int o)) (some (.fl vs)) c4 none [] none p (by show 0+_<=_;lia)
 rw [LV] at k2;have k2':cH none vs (.nm 6) j6 vs [some (.ref 0),some (.ref TR),some (.int o),some (.fl vs),c4,some (.ref h.length),none,none] (h++[.lst []]) = .nx [some (.ref 0),some (.ref TR),some (.int o),some (.fl vs),c4,some (.ref h.length),c6,none] (h++[.lst (pl.flatten.map uv)]):=k2
 have it2:aK (ae 3) [some (.ref 0),some (.ref TR),some (.int o),some (.fl vs),c4,some (.ref h.length),none,none] (h++[.lst []]) = .ok (vs,none) (h++[.lst []]):=rfl
 have f2:=(g8 (t:=.nm 6) (b:=j6) it2).trans k2'
 have S2:=S.app [.lst (pl.flatten.map uv)]
 have p2:=p.app [.lst (pl.flatten.map uv)]
 have eT2:(h++[AO.lst (pl.flatten.map uv)])[TR]? = some (.lst (ts.map fun t:Nat=>AV.int t)):=by rw [Ki (aY eT)];exact eT
 have eR2:(h++[AO.lst (pl.flatten.map uv)])[h.length]? = some (.lst (pl.flatten.map uv)):=by simp
 obtain ⟨H2,eH2⟩:∃ H2,H2=h++[AO.lst (pl.flatten.map uv)]:=⟨_,rfl⟩
 rw [<- eH2] at f2 S2 p2 eT2 eR2;obtain ⟨r3,bs,c3,q3⟩:=zJ (en:=[some (.ref 0),some (.ref TR),some (.int o),some (.fl vs),c4,some (.ref h.length),c6,none]) g rfl [] H2 tl p2 hl S2 eT2 (by show 0+_<=_;lia)
 rw [LV] at c3;have cc:jZ [0] (kM (ae 1) (ae 3)) aR (ax d5 (aj (ae 2) (aj (ae 0) (aj (ae 1) af)))) [some (.ref 0),some (.ref TR),some (.int o),some (.fl vs),c4,some (.ref h.length),c6,none] H2 = .ok (.fl (bs.map AV.bl)) (H2++r3):=by
  have it:kM (ae 1) (ae 3) [some (.ref 0),some (.ref TR),some (.int o),some (.fl vs),c4,some (.ref h.length),c6,none] H2 = .ok (eC (ts.map fun t:Nat=>AV.int t) vs,some TR,ts.map fun t:Nat=>AV.int t) H2:=by
   simp [eT2]
  unfold jZ
  rw [it];dsimp only;rw [c3]
 have eR3:(H2++r3)[h.length]? = some (.lst (pl.flatten.map uv)):=by rw [Ki (aY eR2)];exact eR2
 have al:fq [.fl (bs.map AV.bl)] (H2++r3) = .ok (.bl (bs.all id)) (H2++r3):=by simp only [fq,zM]
 obtain ⟨r4,b4,f4,q4⟩:=ql (S2.app r3) g T (SrcI.ref eR3) p.ok
 cases hb:bs.all id with
 | false =>
  rw [hb] at al;refine ⟨[.lst (pl.flatten.map uv)]++r3,false,?_,fun z=>(by cases z)⟩
  rw [<- KN,<- eH2];clear S S2 p p2 T tl c3 k1 k2 k2' it1 it2;unfold nN
  generalize bf (aK (ah ar (ae 1) (aS (aj (ae 2) af)))) (.nm 4) kW=L1 at *;generalize bf (aK (ae 3)) (.nm 6) j6=L2 at *;generalize jZ [0] (kM (ae 1) (ae 3)) aR (ax d5 (aj (ae 2) (aj (ae 0) (aj (ae 1) af))))=CM at *;generalize H2++r3=H3 at *;generalize (vs.length:Int)=VL at *;generalize (ts.length:Int)=TS at *;generalize bs.map AV.bl=BB at *;simp [f1,ln1,ln2,ne,f2,cc,al,-az,-aI,-fq]
 | true =>
  rw [hb] at al;refine ⟨[.lst (pl.flatten.map uv)]++r3++r4,b4,?_,fun z=>?_⟩
  ·rw [<- KN,<- KN,<- eH2]
   clear S S2 p p2 T tl c3 k1 k2 k2' it1 it2;unfold nN
   generalize bf (aK (ah ar (ae 1) (aS (aj (ae 2) af)))) (.nm 4) kW=L1 at *;generalize bf (aK (ae 3)) (.nm 6) j6=L2 at *;generalize jZ [0] (kM (ae 1) (ae 3)) aR (ax d5 (aj (ae 2) (aj (ae 0) (aj (ae 1) af))))=CM at *;generalize H2++r3++r4=H4 at *;generalize H2++r3=H3 at *;generalize (vs.length:Int)=VL at *;generalize (ts.length:Int)=TS at *;generalize bs.map AV.bl=BB at *;simp [f1,ln1,ln2,ne,f2,cc,al,f4,-az,-aI,-fq]
  ·rw [q3 hb,<- zN]
   have rd:=uy g T (q4.mp z)
   have e1:aM ps ([]:List Un)=[]:=rfl
   rw [e1,K8] at rd;exact rd.symm
end Sk
namespace Sk
open PySem PySem.Spec L2 Sm
structure Zk (L:Nat) (h:AH) (ps:List Pc):Prop where
 sh:ShelfAt h 0 ps
 gd:Good ps
 fw:dE 64 ps
 l8:8<L
 ro:∃ N:Int,h[L]? = some (.lst [.int N])
theorem Zk.take {L:Nat} {h:AH} {ps:List Pc} (z:Zk L h ps) (m:Nat) (hm:0<m) (hm2:m<=10 ^ 50):∃ (v:Nat) (h':AH),v<m/\bV [.ref L,.int m] h = .ok (.int v) h'/\Zk L h' ps/\(∀ i,i≠L->h'[i]? = h[i]?)/\h'.length=h.length:=by
 obtain ⟨N,e⟩:=z.ro
 obtain ⟨v,N',hv,t⟩:=lB m e hm hm2
 exact ⟨v,_,hv,t,⟨eZ z.sh (by have:=z.l8;omega) _,z.gd,z.fw,z.l8,N',Ko (aY e)⟩,fun i hi=>Kr (fun q=>hi q.symm),Lm ..⟩
theorem Zk.app {L:Nat} {h:AH} {ps:List Pc} (z:Zk L h ps) (r:AH):Zk L (h++r) ps:=by
 obtain ⟨N,e⟩:=z.ro
 exact ⟨z.sh.app r,z.gd,z.fw,z.l8,N,by rw [Ki (aY e)];exact e⟩
theorem Zk.fr {L:Nat} {h h':AH} {ps:List Pc} (z:Zk L h ps) (F:Fr L h h') (S:ShelfAt h' 0 ps):Zk L h' ps:=⟨S,z.gd,z.fw,z.l8,F.ro⟩
theorem zO {L:Nat} {h:AH} {ps:List Pc} {y:Str} (z:Zk L h ps) (py:br y=true) (hy:y.length<=40) (hz:ps.length<13000000) :
  ∃ (n:Nat) (ps':List Pc) (h':AH),jE [.ref 0,.ref L,.str y] h = .ok (.int n) h'/\Zk L h' ps'/\ps <+: ps'/\ps'.length<=ps.length+60000/\TxZ ps' n y/\(∀ i,8<i->i≠L->i<h.length->h'[i]? = h[i]?)/\h.length<=h'.length:=by
 obtain ⟨n,ps',h',e,G,T,ro⟩:=HB z.sh z.gd (by have:=z.l8;omega) z.ro py hy hz
 exact ⟨n,ps',h',e,⟨G.sh,G.gd,G.al z.fw,z.l8,ro⟩,G.pre,G.len,T,fun i h8 hi hl=>G.fr i (.inr (by omega)) (by simpa using hi) hl,G.hl⟩
abbrev fJ (y:Str) (o L R:Nat) (o5 o6 o7:Option AV):En:=[some (.ref 0),some (.str y),some (.int o),some (.ref L),some (.ref R),o5,o6,o7]
abbrev ke:SS:=bh (aQ (ah aI (ae 1) (ai (.str "")))) (ao (aw 7 (ax bV (aj (ae 3) (aj (ah ar (ax az (aj (ae 1) af)) (ai (.int 1))) af)))) (ao (aw 6 (ax jE (aj (ae 0) (aj (ae 3) (aj (bI (ae 1) none (some (ae 7))) af))))) (aw 1 (bI (ae 1) (some (ae 7)) none)))) bH
structure Tn (L o:Nat) (h h':AH) (ps ps':List Pc) (n:Nat) (w y':Str):Prop where
 z:Zk L h' ps'
 pr:ps <+: ps'
 ln:ps'.length<=ps.length+60000
 fr:∀ i,8<i->i≠L->i<h.length->h'[i]? = h[i]?
 hl:h.length<=h'.length
 T:TxZ ps' n w
 lw:w.length<=64
 py:br y'=true
 ly:y'.length<=30
theorem oA {L R o:Nat} {h h1:AH} {ps:List Pc} {y:Str} {o5 o7:Option AV} (z1:Zk L h1 ps) (fr1:∀ i,i≠L->h1[i]? = h[i]?) (l1:h1.length=h.length) (py:br y=true) (ly:y.length<=30) (hz:ps.length<12000000) :
  ∃ (n:Nat) (w y':Str) (ps':List Pc) (h':AH) (c7:Option AV),ke (fJ y o L R o5 (some (.int 0)) o7) h1 = .nx (fJ y' o L R o5 (some (.int n)) c7) h'/\Tn L o h h' ps ps' n w y' := by
 by_cases q:y = ""
 ·have ne:aI (.str y) (.str "") h1 = .ok (.bl false) h1:=by simp [q]
  refine ⟨0, "",y,ps,h1,o7,?_,z1,Lf _,by lia,fun i _ hi _=>fr1 i hi,by lia,.inl ⟨rfl,rfl⟩,KS _,py,ly⟩
  simp [ke,ne,-aI]
 ·have ne:aI (.str y) (.str "") h1 = .ok (.bl true) h1:=by simp [q]
  obtain ⟨v,h2,hv,t,z2,fr2,l2⟩:=z1.take (y.length+1) (On _) (Kn (m:=31) (by lia) (by decide))
  have ln:az [.str y] h1 = .ok (.int y.length) h1:=rfl
  have ad:ar (.int y.length) (.int 1) h1 = .ok (.int ((y.length+1:Nat):Int)) h1:=rfl
  have c1:=qd (x:=y) (a:=v) h2
  have lt:=yF (x:=y) (a:=v) (by lia)
  obtain ⟨n,ps',h3,m,z3,pr,l3,T,fr3,hl3⟩:=zO z2 (yG py v) (by lia) (by lia)
  have c2:cG (.str y) (some (v:Int)) none h3 = .ok (.str (bR y v)) h3:=qe (by lia) h3
  refine ⟨n,bO y v,bR y v,ps',h3,some (.int v),?_,z3,pr,l3,fun i h8 hi hl=>by rw [fr3 i h8 hi (by lia),fr2 i hi,fr1 i hi],by lia,T,by lia,zf py,by rw [iL];lia⟩
  simp only [fJ]
  clear z1 z2 z3 T;generalize ((y.length+1:Nat):Int)=Y1 at *;generalize (y.length:Int)=Y0 at *;generalize (v:Int)=VV at *;generalize bR y v=DY at *;simp [ke,ne,ln,ad,t,c1,m,c2,-aI,-az,-ar,-cG]
theorem Io {L R o:Nat} {h:AH} {ps:List Pc} {y:Str} {fs:List AV} {o5 o6 o7:Option AV} (z:Zk L h ps) (hR:8<R) (RL:R≠L) (eR:h[R]? = some (.lst fs)) (lf:fs.length<=100) (py:br y=true) (ly:y.length<=30) (ho:o<=ps.length) (hz:ps.length<12000000) :
  ∃ (n:Nat) (w y':Str) (ps':List Pc) (h' h2:AH) (c7:Option AV),kS (fJ y o L R o5 o6 o7) h = .nx (fJ y' o L R o5 (some (.int n)) c7) h2/\Tn L o h h' ps ps' n w y'/\h2=h'.set R (.lst (fs++[.int n]))/\h'[R]? = some (.lst fs):=by
 have key:∃ (n:Nat) (w y':Str) (ps':List Pc) (h':AH) (c7:Option AV),(bh (dz (aQ (ah aI (ae 2) (ai (.int 0)))) (aQ (ah aH (ax bV (aj (ae 3) (aj (ai (.int 2)) af))) (ai (.int 0))))) (aw 6 (ah ar (ai (.int 1)) (ax bV (aj (ae 3) (aj (aT 0 iW (ae 0) af) af))))) ke) (fJ y o L R o5 (some (.int 0)) o7) h = .nx (fJ y' o L R o5 (some (.int n)) c7) h'/\Tn L o h h' ps ps' n w y' := by
  by_cases q:o=0
  ·have ne:aI (.int o) (.int 0) h = .ok (.bl false) h:=by simp [q]
   obtain ⟨n,w,y',ps',h',c7,e,t⟩:=oA (R:=R) (o:=o) (o5:=o5) (o7:=o7) (h:=h) z (fun _ _=>rfl) rfl py ly hz
   refine ⟨n,w,y',ps',h',c7,?_,t⟩
   simp only [fJ] at e ⊢
   generalize ke=I2 at *;simp [ne,e,-aI]
  ·have ne:aI (.int o) (.int 0) h = .ok (.bl true) h:=by simp [q]
   obtain ⟨v,h1,hv,t,z1,fr1,l1⟩:=z.take 2 (by decide) (by decide)
   have t':bV [.ref L,.int 2] h = .ok (.int v) h1:=t
   have q0:=i6 v 0 h1
   by_cases v0:v=0
   ·rw [Ld (by lia)] at q0
    have fm:=ye z1.sh
    have ob:=z1.sh.ob
    obtain ⟨k,h2,hk,t2,z2,fr2,l2⟩:=z1.take ps.length (by lia) (Kn (m:=12000000) (by lia) (by decide))
    have ad:ar (.int 1) (.int k) h2 = .ok (.int ((k+1:Nat):Int)) h2:=by
     show Out.ok (AV.int ((1:Int)+k)) h2=_
     congr 2
     lia
    obtain ⟨x,T,lx⟩:=Ie z2.gd z2.fw (k:=k+1) (by lia) (by lia)
    refine ⟨k+1,x,y,ps,h2,o7,?_,z2,Lf _,by lia,fun i _ hi _=>by rw [fr2 i hi,fr1 i hi],by lia,T,lx,py,ly⟩
    simp only [fJ]
    generalize ke=I2 at *;generalize ((k+1:Nat):Int)=K1 at *;generalize (ps.length:Int)=PL0 at *;simp [ne,t',q0,ob,fm,t2,ad,-aI,-aH,-ar]
   ·rw [KH (by lia)] at q0
    obtain ⟨n,w,y',ps',h',c7,e,t⟩:=oA (R:=R) (o:=o) (o5:=o5) (o7:=o7) (h:=h) z1 fr1 l1 py ly hz
    refine ⟨n,w,y',ps',h',c7,?_,t⟩
    simp only [fJ] at e ⊢
    generalize ke=I2 at *;simp [ne,t',q0,e,-aI,-aH]
 obtain ⟨n,w,y',ps',h',c7,e,t⟩:=key
 have eR':h'[R]? = some (.lst fs):=(t.fr R hR RL (aY eR)).trans eR
 have ap:bo (.ref R) [.int n] h' = .ok .non (h'.set R (.lst (fs++[.int n]))):=by
  have:fs.length<sizeLine:=KA lf (by decide)
  simp only [bo,eR',this,Lp]
 have is1:aL (.ref R) h'=true:=by simp [eR']
 refine ⟨n,w,y',ps',h',_,c7,?_,t,rfl,eR'⟩
 simp only [fJ] at e ⊢
 generalize h'.set R (.lst (fs++[.int n]))=H2 at *;unfold kS
 generalize (bh (dz (aQ (ah aI (ae 2) (ai (.int 0)))) (aQ (ah aH (ax bV (aj (ae 3) (aj (ai (.int 2)) af))) (ai (.int 0))))) (aw 6 (ah ar (ai (.int 1)) (ax bV (aj (ae 3) (aj (aT 0 iW (ae 0) af) af))))) ke)=I1 at *;simp [e,is1,ap,-aL,-bo]
end Sk
namespace Sk
open PySem PySem.Spec L2 Sm
theorem Zk.put {L R:Nat} {h:AH} {ps:List Pc} (z:Zk L h ps) (hR:8<R) (RL:R≠L) (v:AO):Zk L (h.set R v) ps:=by
 obtain ⟨N,e⟩:=z.ro
 exact ⟨eZ z.sh (by lia) _,z.gd,z.fw,z.l8,N,by rw [Kr RL];exact e⟩
theorem TL.pre {ps ps':List Pc} {ts:List Nat} {xs:List Str} (t:TL ps ts xs) (h:ps <+: ps'):TL ps' ts xs:=by
 induction t with
 | nil=>exact .nil
 | cons T lx r ih=>exact .cons (T.pre h) lx ih
theorem TL.snoc {ps:List Pc} {ts:List Nat} {xs:List Str} {n:Nat} {w:Str} (t:TL ps ts xs) (T:TxZ ps n w) (lw:w.length<=64):TL ps (ts++[n]) (xs++[w]):=by
 induction t with
 | nil=>exact .cons T lw .nil
 | cons T' lx r ih=>exact .cons T' lx ih
theorem zP {a b c j K:Nat} (h1:b<=a+K*j) (h2:c<=b+K):c<=a+K*(j+1):=by
 rw [Nat.mul_succ];lia
theorem zQ {a b j K:Nat} (hj:j<=4) (h1:b<=a+K*j):b<=a+K*4:=Kn h1 (K5 (N6 _ hj) _)
theorem Ip {L o:Nat} {h:AH} {ps:List Pc} {y:Str} (z:Zk L h ps) (py:br y=true) (ly:y.length<=30) (ho:o<=ps.length) (hz:ps.length<11000000) :
  ∃ (ts:List Nat) (xs:List Str) (ps':List Pc) (h':AH),pO [.ref 0,.str y,.int o,.ref L] h = .ok (.ref h.length) h'/\Zk L h' ps'/\ps <+: ps'/\ps'.length<=ps.length+300000/\h'[h.length]? = some (.lst (ts.map fun t:Nat=>AV.int t))/\TL ps' ts xs/\2<=ts.length/\ts.length<=4/\(∀ i,8<i->i≠L->i<h.length->h'[i]? = h[i]?)/\h.length<h'.length:=by
 have z0:=z.app [.lst []]
 obtain ⟨N0,eN0⟩:=z.ro
 have Ll:=aY eN0
 have e0:(h++[AO.lst []])[h.length]? = some (.lst []):=by simp
 have hR:8<h.length:=by have:=aY z.sh.h8;omega
 have RL:h.length≠L:=by lia
 obtain ⟨v,h1,hv,t,z1,fr1,l1⟩:=z0.take 3 (by decide) (by decide)
 have t':bV [.ref L,.int 3] (h++[.lst []]) = .ok (.int v) h1:=t
 have e1:h1[h.length]? = some (.lst []):=(fr1 _ RL).trans e0
 have l1':h1.length=h.length+1:=by rw [l1,Kq];rfl
 obtain ⟨e',h',r1,r2⟩:=iZ (w:=none) (all:=cZ 0 (v+2)) (t:=.nm 5) (b:=kS) (xs:=cZ 0 (v+2)) (en:=fJ y o L h.length none none none) (h:=h1)
  (fun j en hh=>j<=4->∃ (ts:List Nat) (xs:List Str) (ps':List Pc) (y':Str) (o5 o6 o7:Option AV),en=fJ y' o L h.length o5 o6 o7/\Zk L hh ps'/\ps <+: ps'/\ps'.length<=ps.length+60000*j/\hh[h.length]? = some (.lst (ts.map fun t:Nat=>AV.int t))/\TL ps' ts xs/\ts.length=j/\br y'=true/\y'.length<=30/\(∀ i,8<i->i≠L->i<h.length->hh[i]? = h[i]?)/\h.length<hh.length)
  (fun _=>⟨[],[],ps,y,none,none,none,rfl,z1,Lf _,by lia,e1,.nil,rfl,py,ly,fun i _ hi hl=>by rw [fr1 i hi,Ki hl],by lia⟩) (fun _ _ _ _=>rfl) (by
   intro j u en hh hu hp
   have jk:j<v+2:=by have:=(Kh.mp hu).1;rwa [jI] at this
   obtain ⟨ts,xs,ps1,y',o5,o6,o7,rfl,zz,pr,ln,eR,tl,lt,py',ly',fr,hl⟩:=hp (by lia)
   have pl:=pr.length_le
   obtain ⟨n,w,y2,ps2,h2,h3,c7,eb,tn,rfl,eR2⟩:=Io (o5:=some u) (o6:=o6) (o7:=o7) zz hR RL eR (by rw [Kv];lia) py' ly' (Kn ho pl) (KA (zQ (by lia) ln) (by lia))
   show thn (kS (fJ y' o L h.length (some u) o6 o7) hh) _
   rw [eb];refine fun _=>⟨ts++[n],xs++[w],ps2,y2,some u,_,c7,rfl,tn.z.put hR RL _,pr.trans tn.pr,zP ln tn.ln,by rw [Ko (aY eR2),K9];rfl,(tl.pre tn.pr).snoc tn.T tn.lw,by rw [Kq,lt];rfl,tn.py,tn.ly,fun i h8 hi hil=>?_,by rw [Lm];have:=tn.hl;lia⟩
   rw [Kr (by lia),tn.fr i h8 hi (by lia)]
   exact fr i h8 hi hil)
 rw [jI] at r2;obtain ⟨ts,xs,ps',y',o5,o6,o7,rfl,zz,pr,ln,eR,tl,lt,_,_,fr,hl⟩:=r2 (by lia)
 refine ⟨ts,xs,ps',h',?_,zz,pr,Kn (zQ (by lia) ln) (K5 (by decide) _),eR,tl,by lia,by lia,fr,hl⟩
 have ad:ar (.int 2) (.int v) h1 = .ok (.int ((v+2:Nat):Int)) h1:=by
  show Out.ok (AV.int ((2:Int)+v)) h1=_
  congr 2
  lia
 have it:fY (ah ar (ai (.int 2)) (ax bV (aj (ae 3) (aj (ai (.int 3)) af)))) (fJ y o L h.length none none none) (h++[.lst []]) = .ok (cZ 0 (v+2),none) h1:=nQ (by
  simp only [fJ]
  generalize h++[AO.lst []]=H0 at *;generalize ((v+2:Nat):Int)=V2 at *;simp [t',ad,-ar]) (by lia)
 have fo:=(g8 (t:=.nm 5) (b:=kS) it).trans r1
 simp only [fJ] at fo
 clear z z0 z1 zz tl;unfold pO
 generalize bf (fY (ah ar (ai (.int 2)) (ax bV (aj (ae 3) (aj (ai (.int 3)) af))))) (.nm 5) kS=FF at *;simp [fo]
theorem PL.snoc {L:Nat} {ps:List Pc} {h:AH} {vs:List AV} {pl:List (List Un)} {v:AV} {w:Option Nat} {its:List Un} (p:PL L ps h vs pl) (s:SrcI h its v w) (nv:v ≠ .ref L) (oi:∀ i∈its,cL ps i) (ln:its.length<=1000):PL L ps h (vs++[v]) (pl++[its]):=by
 induction p with
 | nil=>exact .cons s nv oi ln .nil
 | cons s' nv' oi' ln' r ih=>exact .cons s' nv' oi' ln' ih
abbrev jQ (v:AV) (m:Nat) (L R:Nat) (o4 o5:Option AV):En:=[some v,some (.int m),some (.ref L),some (.ref R),o4,o5]
theorem Iq {L R m:Nat} {h:AH} {ps:List Pc} {its:List Un} {v:AV} {w:Option Nat} {fs:List AV} {o4 o5:Option AV} (z:Zk L h ps) (hR:8<R) (RL:R≠L) (eR:h[R]? = some (.lst fs)) (lf:fs.length<=100) (sr:SrcI h its v w) (nv:v ≠ .ref L) (vR:v ≠ .ref R) (ln:its.length<=1000) :
  ∃ (k:Nat) (h':AH) (c5:Option AV),kU (jQ v m L R o4 o5) h = .nx (jQ (.fl ((its.drop k).map uv)) m L R o4 c5) h'/\k<=its.length/\Zk L h' ps/\h'[R]? = some (.lst (fs++[.fl ((its.take k).map uv)]))/\(∀ i,i≠L->i≠R->h'[i]? = h[i]?)/\h'.length=h.length:=by
 obtain ⟨k,h1,hk,t,z1,fr1,l1⟩:=z.take (its.length+1) (On _) (Kn (m:=1001) (by lia) (by decide))
 have eR1:h1[R]? = some (.lst fs):=(fr1 R RL).trans eR
 have ll:az [v] h = .ok (.int its.length) h:=by
  cases sr with
  | ref e=>simp only [az,e,Kv]
  | fl=>simp only [az,Kv]
 have ad:ar (.int its.length) (.int 1) h = .ok (.int ((its.length+1:Nat):Int)) h:=rfl
 have s1:=sr.keep nv (fun i _ hi=>fr1 i hi)
 have ap:bo (.ref R) [.fl ((its.take k).map uv)] h1 = .ok .non (h1.set R (.lst (fs++[.fl ((its.take k).map uv)]))):=by
  have:fs.length<sizeLine:=KA lf (by decide)
  simp only [bo,eR1,this,Lp]
 have is1:aL (.ref R) h1=true:=by simp [eR1]
 have ct:∀ hh,SrcI hh its v w->cG v none (some (k:Int)) hh = .ok (.fl ((its.take k).map uv)) hh/\cG v (some (k:Int)) none hh = .ok (.fl ((its.drop k).map uv)) hh:=fun hh s=>by
  have a:=yz (its.map uv) (k:=k) (by rw [Kv];lia)
  have b:=yA (its.map uv) (k:=k) (by rw [Kv];lia)
  rw [<- MF] at a;rw [<- M9] at b
  cases s with
  | ref e=>exact ⟨by simp only [cG,e,a],by simp only [cG,e,b]⟩
  | fl=>exact ⟨by simp only [cG,a],by simp only [cG,b]⟩
 have s2:SrcI (h1.set R (.lst (fs++[.fl ((its.take k).map uv)]))) its v w:=by
  cases s1 with
  | @ref B e=>exact .ref (by rw [Kr (fun q=>vR (by rw [q]))];exact e)
  | fl=>exact .fl
 have c1:=(ct h1 s1).1
 have c2:=(ct _ s2).2
 refine ⟨k,_,some (.int k),?_,by lia,z1.put hR RL _,Ko (aY eR1),fun i i1 i2=>by rw [Kr (fun q=>i2 q.symm)];exact fr1 i i1,by rw [Lm,l1]⟩
 simp only [jQ]
 clear z z1 s1 s2 sr ct;generalize h1.set R (.lst (fs++[.fl ((its.take k).map uv)]))=H2 at *;generalize ((its.length+1:Nat):Int)=I1 at *;generalize (its.length:Int)=I0 at *;generalize (k:Int)=KK at *;generalize (its.take k).map uv=TK at *;generalize (its.drop k).map uv=DR at *;simp [kU,ll,ad,t,c1,is1,ap,c2,-az,-ar,-cG,-aL,-bo]
end Sk
namespace Sk
open PySem PySem.Spec L2 Sm
theorem zR {L:Nat} {ps:List Pc} {h:AH}:∀ {pl:List (List Un)},(∀ a∈pl,(∀ i∈a,cL ps i)/\a.length<=1000)->PL L ps h (pl.map fun a=>AV.fl (a.map uv)) pl
 | [],_=>.nil
 | a::pl,ok=>.cons .fl (fun q=>by cases q) (ok a (Km ..)).1 (ok a (Km ..)).2 (zR fun b hb=>ok b (Kp _ hb))
theorem Ir {L m:Nat} {h:AH} {ps:List Pc} {its:List Un} {v:AV} {w:Option Nat} (z:Zk L h ps) (sr:SrcI h its v w) (nv:v ≠ .ref L) (oi:∀ i∈its,cL ps i) (ln:its.length<=1000) (m1:1<=m) (m4:m<=50) :
  ∃ (vs:List AV) (pl:List (List Un)) (h':AH),pQ [v,.int m,.ref L] h = .ok (.fl vs) h'/\Zk L h' ps/\PL L ps h' vs pl/\vs.length=m/\(∀ a∈pl,a.length<=its.length)/\(∀ i,i≠L->i<h.length->h'[i]? = h[i]?)/\h.length<h'.length:=by
 have z0:=z.app [.lst []]
 obtain ⟨N0,eN0⟩:=z.ro
 have Ll:=aY eN0
 have hR:8<h.length:=by have:=aY z.sh.h8;omega
 have RL:h.length≠L:=by lia
 have vR:v ≠ .ref h.length:=by
  cases sr with
  | ref e=>exact fun q=>by cases q;exact absurd (aY e) (Lx _)
  | fl=>exact fun q=>by cases q
 obtain ⟨e',h',r1,r2⟩:=iZ (w:=none) (all:=cZ 0 (m-1)) (t:=.nm 4) (b:=kU) (xs:=cZ 0 (m-1)) (en:=jQ v m L h.length none none) (h:=h++[.lst []])
  (fun j en hh=>j<=m-1->∃ (its':List Un) (v':AV) (w':Option Nat) (pl:List (List Un)) (o4 o5:Option AV),en=jQ v' m L h.length o4 o5/\Zk L hh ps/\hh[h.length]? = some (.lst (pl.map fun a=>AV.fl (a.map uv)))/\pl.length=j/\(∀ a∈pl,(∀ i∈a,cL ps i)/\a.length<=its.length)/\SrcI hh its' v' w'/\v' ≠ .ref L/\v' ≠ .ref h.length/\(∀ i∈its',cL ps i)/\its'.length<=its.length/\(∀ i,i≠L->i<h.length->hh[i]? = h[i]?)/\hh.length=h.length+1)
  (fun _=>⟨its,v,w,[],none,none,rfl,z0,by simp,rfl,fun a ha=>(by cases ha),sr.mono fun i hi=>Ki hi,nv,vR,oi,Kj _,fun i _ hi=>Ki hi,by simp⟩) (fun _ _ _ _=>rfl) (by
   intro j u en hh hu hp
   have jk:j<m-1:=by have:=(Kh.mp hu).1;rwa [jI] at this
   obtain ⟨its',v',w',pl,o4,o5,rfl,zz,eR,lp,okp,sr',nv',vR',oi',ln',fr,hl⟩:=hp (by lia)
   obtain ⟨k,h2,c5,eb,hk,z2,eR2,fr2,l2⟩:=Iq (m:=m) (o4:=some u) (o5:=o5) zz hR RL eR (by rw [Kv];(clear hl fr ln' oi' vR' nv' sr' okp eR zz hp hu vR RL hR Ll eN0 z0 ln oi nv sr z;lia)) sr' nv' vR' (by lia)
   show thn (kU (jQ v' m L h.length (some u) o5) hh) _
   rw [eb];refine fun _=>⟨its'.drop k,_,none,pl++[its'.take k],some u,c5,rfl,z2,by rw [K9];exact eR2,by rw [Kq,lp];rfl,fun a ha=>?_,.fl,fun q=>(by cases q),fun q=>(by cases q),fun i hi=>oi' i (Lu hi),by rw [Lh];(clear l2 fr2 eR2 z2 hk eb hl fr oi' vR' nv' sr' okp lp eR zz hp jk hu vR RL hR Ll eN0 z0 m4 m1 ln oi nv sr z;lia),fun i i1 i2=>by rw [fr2 i i1 (by lia)];exact fr i i1 i2,by lia⟩
   rcases KI.mp ha with q | q
   ·exact okp a q
   ·rw [K3] at q
    subst q;exact ⟨fun i hi=>oi' i (Lv hi),by rw [Le];lia⟩)
 rw [jI] at r2;obtain ⟨its',v',w',pl,o4,o5,rfl,zz,eR,lp,okp,sr',nv',vR',oi',ln',fr,hl⟩:=r2 (Kj _)
 refine ⟨(pl.map fun a=>AV.fl (a.map uv))++[v'],pl++[its'],h',?_,zz,(zR fun a ha=>⟨(okp a ha).1,Kn (okp a ha).2 ln⟩).snoc sr' nv' oi' (by lia),by rw [Kq,Kv,lp];show m-1+1=m;(clear hl fr ln' oi' vR' nv' sr' okp lp eR zz r2 r1 vR RL hR Ll eN0 z0 m4 ln oi nv sr z;lia),fun a ha=>(KI.mp ha).elim (fun q=>(okp a q).2) (fun q=>by rw [K3] at q;subst q;exact ln'),fr,by lia⟩
 have sb:dy (.int m) (.int 1) (h++[.lst []]) = .ok (.int ((m-1:Nat):Int)) (h++[.lst []]):=by
  show Out.ok (AV.int ((m:Int)-1)) _=_
  congr 2
  (clear hl fr ln' oi' vR' nv' sr' okp lp eR zz r2 r1 vR RL hR Ll eN0 z0 m4 ln oi nv sr z;lia)
 have it:fY (ah dy (ae 1) (ai (.int 1))) (jQ v m L h.length none none) (h++[.lst []]) = .ok (cZ 0 (m-1),none) (h++[.lst []]):=nQ (by
  simp only [jQ]
  generalize h++[AO.lst []]=H0 at *;generalize ((m-1:Nat):Int)=M1 at *;simp [sb,-dy]) (by omega)
 have fo:=(g8 (t:=.nm 4) (b:=kU) it).trans r1
 have fa:ar (.ref h.length) (.fl [v']) h' = .ok (.fl ((pl.map fun a=>AV.fl (a.map uv))++[v'])) h' := by
  have:(pl.map fun a=>AV.fl (a.map uv)).length+1<=sizeLine:=Kn (m:=51) (by rw [Kv];(clear fo it sb hl fr ln' oi' vR' nv' sr' okp eR zz r2 r1 vR RL hR Ll eN0 z0 ln oi nv sr z;lia)) (by decide)
  simp only [ar,dR,eR,Kk,LJ]
  rw [Ku this]
 simp only [jQ] at fo
 clear z z0 zz sr sr' eR;unfold pQ
 generalize bf (fY (ah dy (ae 1) (ai (.int 1)))) (.nm 4) kU=FF at *;generalize (pl.map fun a=>AV.fl (a.map uv))++[v']=VV at *;simp [fo,fa,-ar]
abbrev d9 (o0:Option AV) (x:Str) (o L:Nat) (o5:Option AV) (TR RI P:Nat) (ln:Str) (o10 o11 o12:Option AV):En:=[o0,some (.ref 0),some (.str x),some (.int o),some (.ref L),o5,some (.ref TR),some (.ref RI),some (.ref P),some (.str ln),o10,o11,o12]
theorem zS {L o TR RI P:Nat} {ps:List Pc} {all:List AV} {o0 o5 o10:Option AV} {x lnS:Str} (g:Good ps):∀ {ts:List Nat} {xs:List Str} {vs:List AV} {pl:List (List Un)} (h:AH) (o11 o12:Option AV),TL ps ts xs->PL L ps h vs pl->ShelfAt h 0 ps ->
  ∃ (r:AH) (c11 c12:Option AV),cH none all (.tup [11,12]) mq (eC (ts.map fun t:Nat=>AV.int t) vs) (d9 o0 x o L o5 TR RI P lnS o10 o11 o12) h = .nx (d9 o0 x o L o5 TR RI P lnS o10 c11 c12) (h++r)
 | _,_,_,_,h,o11,o12,.nil,_,S=>⟨[],o11,o12,by rw [K8];rfl⟩
 | _,_,_,_,h,o11,o12,.cons ..,.nil,S=>⟨[],o11,o12,by rw [K8];rfl⟩
 | _,_,_,_,h,o11,o12,.cons (t:=t) (x:=y) T lx r,.cons (v:=v) s nv oi ln p,S=>by
  obtain ⟨r1,f1⟩:=lC S g T (by lia)
  obtain ⟨r2,f2⟩:=Ik (S.app r1) g T (by lia) (s.mono fun i hi=>Ki hi) oi
  have p2:=(p.app r1).app r2
  obtain ⟨r3,c11,c12,e⟩:=zS (all:=all) (L:=L) (o:=o) (TR:=TR) (RI:=RI) (P:=P) (o0:=o0) (o5:=o5) (o10:=o10) (x:=x) (lnS:=lnS) g (h++r1++r2) (some (.int t)) (some v) r p2 ((S.app r1).app r2)
  refine ⟨r1++r2++r3,c11,c12,?_⟩
  rw [<- KN,<- KN];have eb:mq (d9 o0 x o L o5 TR RI P lnS o10 (some (.int t)) (some v)) h = .nx (d9 o0 x o L o5 TR RI P lnS o10 (some (.int t)) (some v)) (h++r1++r2):=by
   generalize h++r1++r2=H2 at *;generalize h++r1=H1 at *;simp [mq,f1,f2]
  have st:dB (.tup [11,12]) (.tup [.int t,v]) (d9 o0 x o L o5 TR RI P lnS o10 o11 o12)=some (d9 o0 x o L o5 TR RI P lnS o10 (some (.int t)) (some v)):=rfl
  rw [KY,eC];unfold cH
  rw [Ku (show cP none all h=true from rfl),st];dsimp only;rw [eb];exact e
theorem Iu {L o TR RI P:Nat} {ps:List Pc} {o0 o5 o11 o12:Option AV} {x lnS:Str} {h:AH} {ts:List Nat} {xs:List Str} {vs:List AV} {pl:List (List Un)} {its:List Un} (S:ShelfAt h 0 ps) (g:Good ps) (tl:TL ps ts xs) (T:TxZ ps o x) (lx:x.length<=64) (p:PL L ps h vs pl) (hl:ts.length=vs.length) (h20:ts.length<=20) (eT:h[TR]? = some (.lst (ts.map fun t:Nat=>AV.int t))) (eI:h[RI]? = some (.lst (its.map uv))) (nI:RI≠L) (oi:∀ i∈its,cL ps i) (li:its.length<=1000) (el:lnS.cps.toList=fI xs) :
  ∃ (r:AH) (c11 c12:Option AV),kY (d9 o0 x o L o5 TR RI P lnS (some (.fl vs)) o11 o12) h = .nx (d9 o0 x o L o5 TR RI P lnS (some (.fl vs)) c11 c12) (h++r):=by
 obtain ⟨r1,b,f1,q1⟩:=Im S g tl T p hl h20 eT
 have eT1:(h++r1)[TR]? = some (.lst (ts.map fun t:Nat=>AV.int t)):=by rw [Ki (aY eT)];exact eT
 have eI1:(h++r1)[RI]? = some (.lst (its.map uv)):=by rw [Ki (aY eI)];exact eI
 have S1:=S.app r1
 have p1:=(p.app r1).snoc (SrcI.ref eI1) (fun q=>by cases q;exact nI rfl) oi li
 obtain ⟨r2,c11,c12,k⟩:=zS (all:=[]) (L:=L) (o:=o) (TR:=TR) (RI:=RI) (P:=P) (o0:=o0) (o5:=o5) (o10:=some (.fl vs)) (x:=x) (lnS:=lnS) g (h++r1) o11 o12 (tl.snoc T lx) p1 S1
 have fa:ar (.ref TR) (.fl [.int o]) (h++r1) = .ok (.fl ((ts++[o]).map fun t:Nat=>AV.int t)) (h++r1):=by
  have:(ts.map fun t:Nat=>AV.int t).length+1<=sizeLine:=Kn (m:=21) (by rw [Kv];lia) (by decide)
  simp only [ar,dR,eT1,Kk,LJ]
  rw [Ku this,K9];rfl
 have fb:ar (.fl vs) (.fl [.ref RI]) (h++r1) = .ok (.fl (vs++[.ref RI])) (h++r1):=by
  have:vs.length+1<=sizeLine:=Kn (m:=21) (by lia) (by decide)
  simp only [ar,dR,Kk,LJ]
  rw [Ku this]
 have it:lV (ah ar (ae 6) (aS (aj (ae 3) af))) (ah ar (ae 10) (aS (aj (ae 7) af))) (d9 o0 x o L o5 TR RI P lnS (some (.fl vs)) o11 o12) (h++r1) = .ok (eC ((ts++[o]).map fun t:Nat=>AV.int t) (vs++[.ref RI]),none,[]) (h++r1):=by
  simp only [d9]
  generalize (ts++[o]).map (fun t:Nat=>AV.int t)=Q at *;generalize vs++[.ref RI]=V2 at *;generalize h++r1=H1 at *;simp [fa,fb,-ar]
 have fo:lX (lV (ah ar (ae 6) (aS (aj (ae 3) af))) (ah ar (ae 10) (aS (aj (ae 7) af)))) (.tup [11,12]) mq (d9 o0 x o L o5 TR RI P lnS (some (.fl vs)) o11 o12) (h++r1) = .nx (d9 o0 x o L o5 TR RI P lnS (some (.fl vs)) c11 c12) (h++r1++r2):=by
  unfold lX
  rw [it];exact k
 refine ⟨r1++r2,c11,c12,?_⟩
 rw [<- KN];simp only [d9] at fo ⊢
 clear S S1 p p1 tl T k it;unfold kY
 generalize lX (lV (ah ar (ae 6) (aS (aj (ae 3) af))) (ah ar (ae 10) (aS (aj (ae 7) af)))) (.tup [11,12]) mq=FF at *
 cases b with
 | false =>
  generalize h++r1++r2=H2 at *;generalize h++r1=H1 at *;simp [f1,fo]
 | true =>
  have le:lnS=x:=cW (by rw [el,q1 rfl])
  subst le;have ne:aI (.str lnS) (.str lnS) (h++r1) = .ok (.bl false) (h++r1):=by simp
  generalize h++r1++r2=H2 at *;generalize h++r1=H1 at *;simp [f1,ne,fo,-aI]
end Sk
namespace Sk
open PySem PySem.Spec L2 Sm
theorem zT {TR L:Nat} {ps:List Pc} {all:List AV} {en:En} (e1:en[1]? = some (some (.ref 0))) (e4:en[4]? = some (some (.ref L))) (nT:TR≠L):∀ {ts:List Nat} {xs:List Str} (ys:List AV) (h:AH),TL ps ts xs->Zk L h ps->h[TR]? = some (.lst all)->ys.length+ts.length<=1000 ->
  ∃ (vs:List AV) (pl:List (List Un)) (h':AH),bP [1,4] en (some TR) all aR (ax iX (aj (ae 1) (aj (ae 0) (aj (ae 2) af)))) (ts.map fun t:Nat=>AV.int t) ys h = .ok (ys++vs) h'/\PL L ps h' vs pl/\vs.length=ts.length/\Zk L h' ps/\(∀ i,i<h.length->i≠L->h'[i]? = h[i]?)/\h.length<=h'.length
 | _,_,ys,h,.nil,z,eT,ly=>⟨[],[],h,by
   show bP [1,4] en (some TR) all _ _ [] ys h=_
   unfold bP
   rw [Ku (by simp [eT])]
   simp,.nil,rfl,z,fun _ _ _=>rfl,Kj _⟩
 | _,_,ys,h,.cons (t:=t) T lx r,z,eT,ly=>by
  rw [Kk] at ly;obtain ⟨N0,eN⟩:=z.ro
  have Ll:=aY eN
  obtain ⟨its,h1,f,eI,F,S1,oi,li,_,_⟩:=zw z.sh z.gd (by have:=z.l8;lia) z.ro T (by lia)
  have z1:=z.fr F S1
  have eT1:h1[TR]? = some (.lst all):=(F.fr TR (aY eT) nT).trans eT
  obtain ⟨vs,pl,h2,c,p,lv,z2,fr,hl⟩:=zT e1 e4 nT (ys++[.ref h.length]) h1 r z1 eT1 (by rw [Kq];show _+1+_<=_;lia)
  have eI2:h2[h.length]? = some (.lst (its.map uv)):=(fr _ (aY eI) (by lia)).trans eI
  refine ⟨.ref h.length::vs,its::pl,h2,?_,.cons (SrcI.ref eI2) (fun q=>by cases q;exact absurd Ll (Lx _)) (fun i hi=>(oi i hi).j) (by lia) p,by rw [Kk,Kk,lv],z2,fun i hi hn=>?_,Kn F.hl hl⟩
  ·rw [KY]
   unfold bP
   rw [Ku ⟨by simp [eT],KA (m:=1000) (by lia) (by decide)⟩]
   have u2:(ax iX (aj (ae 1) (aj (ae 0) (aj (ae 2) af)))) (some (.int t)::([1,4]:List Nat).map fun j=>(en[j]?).join) h = .ok (.ref h.length) h1:=by
    generalize h.length=HL at *;simp [e1,e4,f]
   simp only [aR]
   rw [u2];dsimp only;rw [c];simp
  ·rw [fr i (by have:=F.hl;lia) hn,F.fr i hi hn]
theorem zU {L:Nat} {ps:List Pc} {all:List AV} {en:En} (e1:en[1]? = some (some (.ref 0))) (e4:en[4]? = some (some (.ref L))) (hz:ps.length<=9000000):∀ {vs:List AV} {pl:List (List Un)} (ys:List AV) (h:AH),PL L ps h vs pl->(∀ a∈pl,a.length<=800)->Zk L h ps->ys.length+vs.length<=1000 ->
  ∃ (vs2:List AV) (pl2:List (List Un)) (h':AH),bP [1,4] en none all aR (ax eV (aj (ae 1) (aj (ae 0) (aj (ae 2) af)))) vs ys h = .ok (ys++vs2) h'/\PL L ps h' vs2 pl2/\vs2.length=vs.length/\Zk L h' ps/\(∀ i,i<h.length->i≠L->h'[i]? = h[i]?)/\h.length<=h'.length
 | _,_,ys,h,.nil,_,z,ly=>⟨[],[],h,by
   unfold bP
   rw [Ku (show cP none all h=true from rfl)];simp,.nil,rfl,z,fun _ _ _=>rfl,Kj _⟩
 | _,_,ys,h,.cons (v:=v) (its:=its) (vs:=vs) s nv oi ln p,h8,z,ly=>by
  rw [Kk] at ly;obtain ⟨its2,v2,w2,h1,f,s2,nv2,oi2,li2,F,S1⟩:=HY z.sh z.l8 z.ro s oi (h8 its (Km ..)) hz
  have z1:=z.fr F S1
  obtain ⟨vs2,pl2,h2,c,p2,lv,z2,fr,hl⟩:=zU (all:=all) e1 e4 hz (ys++[v2]) h1 (p.keep fun i hi hn=>F.fr i hi hn) (fun a ha=>h8 a (Kp _ ha)) z1 (by rw [Kq];show _+1+_<=_;lia)
  have l8:=h8 its (Km ..)
  refine ⟨v2::vs2,its2::pl2,h2,?_,.cons (s2.keep nv2 fr) nv2 oi2 (by lia) p2,by rw [Kk,Kk,lv],z2,fun i hi hn=>?_,Kn F.hl hl⟩
  ·unfold bP
   rw [Ku ⟨rfl,KA (m:=1000) (by lia) (by decide)⟩]
   have u2:(ax eV (aj (ae 1) (aj (ae 0) (aj (ae 2) af)))) (some v::([1,4]:List Nat).map fun j=>(en[j]?).join) h = .ok v2 h1:=by
    simp [e1,e4,f]
   simp only [aR]
   rw [u2];dsimp only;rw [c];simp
  ·rw [fr i (by have:=F.hl;lia) hn,F.fr i hi hn]
theorem zV {TR:Nat} {ps:List Pc} {all:List AV} {en:En} (g:Good ps) (e1:en[1]? = some (some (.ref 0))):∀ {ts:List Nat} {xs:List Str} (ys:List AV) (h:AH),TL ps ts xs->ShelfAt h 0 ps->h[TR]? = some (.lst all)->ys.length+ts.length<=1000 ->
  ∃ r:AH,bP [1] en (some TR) all aR (ax fR (aj (ae 1) (aj (ae 0) af))) (ts.map fun t:Nat=>AV.int t) ys h = .ok (ys++xs.map AV.str) (h++r)
 | _,_,ys,h,.nil,S,eT,ly=>⟨[],by
   show bP [1] en (some TR) all _ _ [] ys h=_
   unfold bP
   rw [Ku (by simp [eT])]
   simp⟩
 | _,_,ys,h,.cons (t:=t) (x:=x) T lx r,S,eT,ly=>by
  rw [Kk] at ly;obtain ⟨r1,f⟩:=lC S g T (by lia)
  have eT1:(h++r1)[TR]? = some (.lst all):=by rw [Ki (aY eT)];exact eT
  obtain ⟨r2,c⟩:=zV g e1 (ys++[.str x]) (h++r1) r (S.app r1) eT1 (by rw [Kq];show _+1+_<=_;lia)
  refine ⟨r1++r2,?_⟩
  rw [KY];unfold bP
  rw [Ku ⟨by simp [eT],KA (m:=1000) (by lia) (by decide)⟩]
  have u2:(ax fR (aj (ae 1) (aj (ae 0) af))) (some (.int t)::([1]:List Nat).map fun j=>(en[j]?).join) h = .ok (.str x) (h++r1):=by
   generalize h++r1=H1 at *;simp [e1,f]
  simp only [aR]
  rw [u2];dsimp only;rw [c];simp
theorem TL.lens {ps:List Pc} {ts:List Nat} {xs:List Str} (t:TL ps ts xs):xs.length=ts.length/\(fI xs).length<=64*ts.length:=by
 induction t with
 | nil=>exact ⟨rfl,KS _⟩
 | @cons t x ts xs T lx r ih =>
  refine ⟨by rw [Kk,Kk,ih.1],?_⟩
  show (x.cps.toList++fI xs).length<=_
  rw [Kq,<- bK,Kk];lia
theorem Iv {ps:List Pc} (g:Good ps) {o:Nat} {x:Str} {its fd:List Un} (T:TxZ ps o x) (oi:∀ i∈fd,OkI ps i) (ef:cQ fd=cQ its) (q0:o=0->its=[]) (q1:o≠0->bG ps (cQ its) [.n o]=some []):bG ps fd (zt o)=some []:=by
 have oz:=(ux T).1
 have e:=qi g fd oz (fun i hi=>(oi i hi).j)
 rw [e,ef];by_cases z:o=0
 ·rw [q0 z,z]
  rfl
 ·rw [jO (by lia)]
  exact q1 z
theorem SrcI.setP {P:Nat} {h:AH} {its:List Un} {v:AV} {w:Option Nat} {q:List AV} {r:List AV} {o:AO} (s:SrcI h its v w) (eP:h[P]? = some (.lst (.fl q::r))):SrcI (h.set P o) its v w:=by
 cases s with
 | @ref B e =>
  refine .ref ?_
  rw [Kr (fun z=>?_)]
  ·exact e
  ·subst z
   rw [eP] at e;have e' := AO.lst.inj (K4 e)
   cases its with
   | nil=>cases e'
   | cons u us =>
    cases u with
    | n k=>exact absurd (N7 e').1 (fun z=>by cases z)
    | s y=>exact absurd (N7 e').1 (fun z=>by cases z)
 | fl=>exact .fl
theorem PL.setP {L P:Nat} {ps:List Pc} {h:AH} {vs:List AV} {pl:List (List Un)} {q:List AV} {r:List AV} {o:AO} (p:PL L ps h vs pl) (eP:h[P]? = some (.lst (.fl q::r))):PL L ps (h.set P o) vs pl:=by
 induction p with
 | nil=>exact .nil
 | cons s nv oi ln r ih=>exact .cons (s.setP eP) nv oi ln ih
theorem Iw {L o:Nat} {h:AH} {ps:List Pc} {x:Str} {o0 o5 o6 o7 o8 o9 o10 o11 o12:Option AV} (z:Zk L h ps) (T:TxZ ps o x) (px:br x=true) (lx:x.length<=30) (hz:ps.length<5000000) :
  ∃ (TR RI P:Nat) (ln:Str) (c10 c11 c12:Option AV) (h':AH) (ps':List Pc) (fd:List Un),kZ [o0,some (.ref 0),some (.str x),some (.int o),some (.ref L),o5,o6,o7,o8,o9,o10,o11,o12] h = .nx (d9 o0 x o L o5 TR RI P ln c10 c11 c12) h'/\Zk L h' ps'/\ps <+: ps'/\ps'.length<=ps.length+300000/\h'[RI]? = some (.lst (fd.map uv))/\(∀ i∈fd,OkI ps' i)/\bG ps' fd (zt o)=some []:=by
 have ho:o<=ps.length:=by
  rcases T with ⟨rfl,_⟩ | ⟨_,_,_,T⟩
  ·exact KS _
  ·exact T.le
 obtain ⟨N0,eN⟩:=z.ro
 have Ll:=aY eN
 obtain ⟨ts,xs,ps1,h1,ft,z1,pr,l1,eT1,tl,t2,t4,fr1,hl1⟩:=Ip z px lx ho (by lia)
 obtain ⟨TR,eTR⟩:∃ TR,TR=h.length:=⟨_,rfl⟩
 rw [<- eTR] at ft eT1;have T1:=T.pre pr
 have nT:TR≠L:=by lia
 obtain ⟨its,h2,fs,eI2,F2,S2,oi2,li2,q0,q1⟩:=zw z1.sh z1.gd (by have:=z1.l8;omega) z1.ro T1 (by lia)
 have z2:=z1.fr F2 S2
 have L1:L<h1.length:=by lia
 obtain ⟨fd,h3,fp,eI3,F3,S3,ef,oi3,li3⟩:=HU z2.sh (by have:=z2.l8;omega) z2.ro eI2 (by lia) oi2 (by lia)
 have z3:=z2.fr F3 S3
 obtain ⟨RI,eRI⟩:∃ RI,RI=h2.length:=⟨_,rfl⟩
 rw [<- eRI] at fp eI3;have hl2:=F2.hl
 have hl3:=F3.hl
 have nI:RI≠L:=by lia
 have eT3:h3[TR]? = some (.lst (ts.map fun t:Nat=>AV.int t)):=by rw [F3.fr TR (by lia) nT,F2.fr TR (by lia) nT];exact eT1
 have ln3:az [.ref TR] h3 = .ok (.int ts.length) h3:=by simp only [az,eT3,Kv]
 have oj3:∀ i∈fd,cL ps1 i:=fun i hi=>(oi3 i hi).j
 obtain ⟨vs0,pl0,h4,fc,z4,p4,lv0,a8,fr4,hl4⟩:=Ir z3 (SrcI.ref eI3) (fun q=>by cases q;exact nI rfl) oj3 (by lia) (show 1<=ts.length by lia) (by lia)
 have RI3:RI<h3.length:=aY eI3
 have TR3:TR<h3.length:=aY eT3
 obtain ⟨P,eP⟩:∃ P,P=h4.length:=⟨_,rfl⟩
 have nP:P≠L:=by lia
 have P8:8<P:=by have:=aY z4.sh.h8;lia
 have z5:=z4.app [.lst [.fl vs0]]
 have eP5:(h4++[AO.lst [.fl vs0]])[P]? = some (.lst [.fl vs0]):=by rw [eP];simp
 have eT5:(h4++[AO.lst [.fl vs0]])[TR]? = some (.lst (ts.map fun t:Nat=>AV.int t)):=by rw [Ki (by lia),fr4 TR nT TR3];exact eT3
 have eI5:(h4++[AO.lst [.fl vs0]])[RI]? = some (.lst (fd.map uv)):=by rw [Ki (by lia),fr4 RI nI RI3];exact eI3
 have p5:=p4.app [.lst [.fl vs0]]
 have l5:(h4++[AO.lst [.fl vs0]]).length=P+1:=by rw [Kq,eP];rfl
 generalize hh5:h4++[AO.lst [.fl vs0]]=h5 at *;obtain ⟨vs1,pl1,h6,c6,p6,lv1,z6,fr6,hl6⟩:=zT (en:=[o0,some (.ref 0),some (.str x),some (.int o),some (.ref L),o5,some (.ref TR),some (.ref RI),some (.ref P),o9,o10,o11,o12]) rfl rfl nT [] h5 tl z5 eT5 (by show 0+_<=_;lia)
 rw [LV] at c6;have eP6:=(fr6 P (by lia) nP).trans eP5
 have eT6:=(fr6 TR (by lia) nT).trans eT5
 have eI6:=(fr6 RI (by lia) nI).trans eI5
 have p07:=(p5.keep fr6).setP (o:=.lst [.fl vs0,.fl vs1]) eP6
 have p17:=p6.setP (o:=.lst [.fl vs0,.fl vs1]) eP6
 have sl1:1<sizeLine:=by decide
 have sl2:2<sizeLine:=by decide
 have is5:aL (.ref P) h5=true:=by simp [eP5]
 have ePs:h4.length=P:=eP.symm
 have ap6:bo (.ref P) [.fl vs1] h6 = .ok .non (h6.set P (.lst [.fl vs0,.fl vs1])):=by
  have:([AV.fl vs0]:List AV).length<sizeLine:=sl1
  simp only [bo,eP6,this,Lp]
  rfl
 have P6:P<h6.length:=aY eP6
 have fr7:∀ i,i<h6.length->i≠P->(h6.set P (.lst [.fl vs0,.fl vs1]))[i]? = h6[i]? := fun i _ hi=>Kr (fun q=>hi q.symm)
 have z7:=z6.put P8 nP (.lst [.fl vs0,.fl vs1])
 have eP7:(h6.set P (.lst [.fl vs0,.fl vs1]))[P]? = some (.lst [.fl vs0,.fl vs1]):=Ko P6
 have l7:(h6.set P (.lst [.fl vs0,.fl vs1])).length=h6.length:=Lm ..
 have eT7:=(fr7 TR (by lia) (by lia)).trans eT6
 have eI7:=(fr7 RI (by lia) (by lia)).trans eI6
 generalize h6.set P (.lst [.fl vs0,.fl vs1])=h7 at *;obtain ⟨vs2,pl2,h8,c8,p8,lv2,z8,fr8,hl8⟩:=zU (all:=vs0) (en:=[o0,some (.ref 0),some (.str x),some (.int o),some (.ref L),o5,some (.ref TR),some (.ref RI),some (.ref P),o9,o10,o11,o12]) rfl rfl (by lia) [] h7 p07 (fun a ha=>by have:=a8 a ha;lia) z7 (by show 0+_<=_;lia)
 rw [LV] at c8;have eP8:=(fr8 P (by lia) nP).trans eP7
 have eT8:=(fr8 TR (by lia) nT).trans eT7
 have eI8:=(fr8 RI (by lia) nI).trans eI7
 have p09:=(p07.keep fr8).setP (o:=.lst [.fl vs0,.fl vs1,.fl vs2]) eP8
 have p19:=(p17.keep fr8).setP (o:=.lst [.fl vs0,.fl vs1,.fl vs2]) eP8
 have p29:=p8.setP (o:=.lst [.fl vs0,.fl vs1,.fl vs2]) eP8
 have is7:aL (.ref P) h7=true:=by simp [eP7]
 have ap8:bo (.ref P) [.fl vs2] h8 = .ok .non (h8.set P (.lst [.fl vs0,.fl vs1,.fl vs2])):=by
  have:([AV.fl vs0,.fl vs1]:List AV).length<sizeLine:=sl2
  simp only [bo,eP8,this,Lp]
  rfl
 have P9:P<h8.length:=aY eP8
 have z9:=z8.put P8 nP (.lst [.fl vs0,.fl vs1,.fl vs2])
 have eP9:(h8.set P (.lst [.fl vs0,.fl vs1,.fl vs2]))[P]? = some (.lst [.fl vs0,.fl vs1,.fl vs2]):=Ko P9
 have eT9:(h8.set P (.lst [.fl vs0,.fl vs1,.fl vs2]))[TR]? = some (.lst (ts.map fun t:Nat=>AV.int t)):=by rw [Kr (by lia)];exact eT8
 have eI9:(h8.set P (.lst [.fl vs0,.fl vs1,.fl vs2]))[RI]? = some (.lst (fd.map uv)):=by rw [Kr (by lia)];exact eI8
 generalize h8.set P (.lst [.fl vs0,.fl vs1,.fl vs2])=h9 at *;obtain ⟨r10,c10⟩:=zV (en:=[o0,some (.ref 0),some (.str x),some (.int o),some (.ref L),o5,some (.ref TR),some (.ref RI),some (.ref P),o9,o10,o11,o12]) z9.gd rfl [] h9 tl z9.sh eT9 (by show 0+_<=_;lia)
 rw [LV] at c10;have lens:=tl.lens
 have jn:iT (.str "") [.fl (xs.map AV.str)] (h9++r10) = .ok (.str ⟨(fI xs).toArray⟩) (h9++r10):=by
  have e:(Str.ofString "")=Str.empty:=by decide +kernel
  unfold iT
  simp only [e,Lp,dR,uz]
  show (if (fI xs).length<=1000000 then Out.ok (AV.str ⟨(fI xs).toArray⟩) _ else Out.bad)=_
  rw [Ku (by lia)]
 have z10:=z9.app r10
 have kp10:∀ i,i<h9.length->(h9++r10)[i]? = h9[i]? := fun i hi=>Ki hi
 have eP10:=(kp10 P (aY eP9)).trans eP9
 have eT10:=(kp10 TR (aY eT9)).trans eT9
 have eI10:=(kp10 RI (aY eI9)).trans eI9
 have p010:=p09.app r10
 have p110:=p19.app r10
 have p210:=p29.app r10
 generalize h9++r10=h10 at *;obtain ⟨e',h',r1,r2⟩:=iZ (w:=some P) (all:=[.fl vs0,.fl vs1,.fl vs2]) (t:=.nm 10) (b:=kY) (xs:=[.fl vs0,.fl vs1,.fl vs2]) (en:=d9 o0 x o L o5 TR RI P ⟨(fI xs).toArray⟩ o10 o11 o12) (h:=h10)
  (fun _ en hh=>∃ (r:AH) (d10 d11 d12:Option AV),hh=h10++r/\en=d9 o0 x o L o5 TR RI P ⟨(fI xs).toArray⟩ d10 d11 d12)
  ⟨[],o10,o11,o12,(K8 _).symm,rfl⟩ (fun _ _ _ p=>by
   obtain ⟨r,_,_,_,rfl,_⟩:=p
   simp [Ki (aY eP10),eP10]) (by
   rintro j u en hh hu ⟨r,d10,d11,d12,rfl,rfl⟩
   have eT':(h10++r)[TR]? = some (.lst (ts.map fun t:Nat=>AV.int t)):=by rw [Ki (aY eT10)];exact eT10
   have eI':(h10++r)[RI]? = some (.lst (fd.map uv)):=by rw [Ki (aY eI10)];exact eI10
   have go:∀ (vs:List AV) (pl:List (List Un)),PL L ps1 h10 vs pl->vs.length=ts.length->thn (kY (d9 o0 x o L o5 TR RI P ⟨(fI xs).toArray⟩ (some (.fl vs)) d11 d12) (h10++r)) (fun en hh=>∃ (r:AH) (d10 d11 d12:Option AV),hh=h10++r/\en=d9 o0 x o L o5 TR RI P ⟨(fI xs).toArray⟩ d10 d11 d12):=by
    intro vs pl p lv
    obtain ⟨r',c11,c12,eb⟩:=Iu (P:=P) (o0:=o0) (o5:=o5) (o11:=d11) (o12:=d12) (lnS:=⟨(fI xs).toArray⟩) (z10.app r).sh z10.gd tl T1 (by lia) (p.app r) lv.symm (by lia) eT' eI' nI oj3 (by lia) (by simp)
    rw [eb];exact ⟨r++r',_,c11,c12,KN ..,rfl⟩
   match j,hu with
   | 0,hu=>cases hu;exact go vs0 _ p010 lv0
   | 1,hu=>cases hu;exact go vs1 _ p110 lv1
   | 2,hu=>cases hu;exact go vs2 _ p210 (lv2.trans lv0)
   | j+3,hu=>cases hu)
 obtain ⟨r,d10,d11,d12,rfl,rfl⟩:=r2
 refine ⟨TR,RI,P,⟨(fI xs).toArray⟩,d10,d11,d12,h10++r,ps1,fd,?_,z10.app r,pr,l1,by rw [Ki (aY eI10)];exact eI10,oi3,Iv z1.gd T1 oi3 ef q0 q1⟩
 have it:aK (ae 8) (d9 o0 x o L o5 TR RI P ⟨(fI xs).toArray⟩ o10 o11 o12) h10 = .ok ([.fl vs0,.fl vs1,.fl vs2],some P) h10:=by simp [d9,eP10]
 have fo:=(g8 (t:=.nm 10) (b:=kY) it).trans r1
 have cA:dh [1,4] (aK (ae 6)) aR (ax iX (aj (ae 1) (aj (ae 0) (aj (ae 2) af)))) [o0,some (.ref 0),some (.str x),some (.int o),some (.ref L),o5,some (.ref TR),some (.ref RI),some (.ref P),o9,o10,o11,o12] h5 = .ok (.fl vs1) h6:=by
  have i5:aK (ae 6) [o0,some (.ref 0),some (.str x),some (.int o),some (.ref L),o5,some (.ref TR),some (.ref RI),some (.ref P),o9,o10,o11,o12] h5 = .ok (ts.map fun t:Nat=>AV.int t,some TR) h5:=by simp [eT5]
  simp only [dh,i5,c6]
 have cB:dh [1,4] (aK (ah aB (ae 8) (ai (.int 0)))) aR (ax eV (aj (ae 1) (aj (ae 0) (aj (ae 2) af)))) [o0,some (.ref 0),some (.str x),some (.int o),some (.ref L),o5,some (.ref TR),some (.ref RI),some (.ref P),o9,o10,o11,o12] h7 = .ok (.fl vs2) h8:=by
  have fx:aB (.ref P) (.int 0) h7 = .ok (.fl vs0) h7:=by
   have a0:atI [AV.fl vs0,.fl vs1] 0=some (.fl vs0):=rfl
   simp only [aB,eP7,a0]
  have i7:aK (ah aB (ae 8) (ai (.int 0))) [o0,some (.ref 0),some (.str x),some (.int o),some (.ref L),o5,some (.ref TR),some (.ref RI),some (.ref P),o9,o10,o11,o12] h7 = .ok (vs0,none) h7:=by simp [fx,-aB]
  simp only [dh,i7,c8]
 have cC:dh [1] (aK (ae 6)) aR (ax fR (aj (ae 1) (aj (ae 0) af))) [o0,some (.ref 0),some (.str x),some (.int o),some (.ref L),o5,some (.ref TR),some (.ref RI),some (.ref P),o9,o10,o11,o12] h9 = .ok (.fl (xs.map AV.str)) h10:=by
  have i9:aK (ae 6) [o0,some (.ref 0),some (.str x),some (.int o),some (.ref L),o5,some (.ref TR),some (.ref RI),some (.ref P),o9,o10,o11,o12] h9 = .ok (ts.map fun t:Nat=>AV.int t,some TR) h9:=by simp [eT9]
  simp only [dh,i9,c10]
 simp only [d9] at fo ⊢
 clear z z1 z2 z3 z4 z5 z6 z7 z8 z9 z10 T T1 tl p4 p5 p6 p07 p17 p8 p09 p19 p29 p010 p110 p210 c6 c8 c10 r1 it S2 S3;unfold kZ
 generalize bf (aK (ae 8)) (.nm 10) kY=FF at *;generalize dh [1,4] (aK (ae 6)) aR (ax iX (aj (ae 1) (aj (ae 0) (aj (ae 2) af))))=CA at *;generalize dh [1,4] (aK (ah aB (ae 8) (ai (.int 0)))) aR (ax eV (aj (ae 1) (aj (ae 0) (aj (ae 2) af))))=CB at *;generalize dh [1] (aK (ae 6)) aR (ax fR (aj (ae 1) (aj (ae 0) af)))=CC at *;generalize h10++r=H11 at *;generalize (ts.length:Int)=TN at *;generalize xs.map AV.str=XS at *;generalize (⟨(fI xs).toArray⟩:Str)=LS at *;simp [ft,fs,fp,ln3,fc,ePs,hh5,cA,is5,ap6,cB,is7,ap8,cC,jn,fo,-az,-aL,-bo,-iT]
theorem law_true (ns:List Int) (hl:ns.length<=63):∃ h',sT [.fl (ns.map AV.int)] [] = .ok (.bl true) h' := by
 have mk:=Gh [some (.fl (ns.map AV.int)),none,none,none,none,none,none,none,none,none,none,none,none] []
 have l0:([]:AH).length=0:=rfl
 rw [l0,LV] at mk;have S0:ShelfAt (g9 0) 0 []:=by have:=Gi [] [];simpa using this
 have n0:(g9 0).length=9:=rfl
 obtain ⟨N0,s0⟩:=ui ns hl 0 (by decide) (g9 0)
 have s0':iV [.fl (ns.map AV.int),.int 0] (g9 0) = .ok (.ref 9) (g9 0++[.lst [.int N0]]):=s0
 have e1:(g9 0++[AO.lst [.int N0]])[9]? = some (.lst [.int N0]):=rfl
 have n1:(g9 0++[AO.lst [.int N0]]).length=10:=rfl
 have S1:ShelfAt (g9 0++[AO.lst [.int N0]]) 0 []:=S0.app _
 generalize g9 0++[AO.lst [.int N0]]=H1 at *;obtain ⟨y,N2,p2,py,ly⟩:=zj 30 (by decide) e1
 have p2':j0 [.ref 9,.int 30] H1 = .ok (.str y) (H1.set 9 (.lst [.int N2])):=p2
 have S2:ShelfAt (H1.set 9 (.lst [.int N2])) 0 []:=eZ S1 (by decide) _
 have n2:(H1.set 9 (.lst [.int N2])).length=10:=by rw [Lm,n1]
 generalize H1.set 9 (.lst [.int N2])=H2 at *;obtain ⟨N3,s3⟩:=ui ns hl 1 (by decide) H2
 have s3':iV [.fl (ns.map AV.int),.int 1] H2 = .ok (.ref 10) (H2++[.lst [.int N3]]):=by rw [<- n2];exact s3
 have f0:dE 64 []:=fun i m e=>by
  cases i with
  | zero =>
   have:(meas [])[0]? = some ms0:=n5 []
   rw [this] at e
   cases e
   exact KS _
  | succ i =>
   have:=(Kh.mp e).1
   rw [d6] at this;exact absurd this (by show ¬ i+1<0+1;lia)
 have z3:Zk 10 (H2++[.lst [.int N3]]) []:=⟨S2.app _,.nil,f0,by decide,N3,by rw [<- n2];simp⟩
 generalize H2++[AO.lst [.int N3]]=H3 at *;obtain ⟨o,ps,H4,f4,z4,_,l4,T4,_,_⟩:=zO z3 py (by lia) (by decide)
 obtain ⟨N5,s5⟩:=ui ns hl 2 (by decide) H4
 obtain ⟨L,eL⟩:∃ L,L=H4.length:=⟨_,rfl⟩
 rw [<- eL] at s5;have l8:=aY z4.sh.h8
 have z5:Zk L (H4++[.lst [.int N5]]) ps:=⟨z4.sh.app _,z4.gd,z4.fw,by lia,N5,by rw [eL];simp⟩
 have s5':iV [.fl (ns.map AV.int),.int 2] H4 = .ok (.ref L) (H4++[.lst [.int N5]]):=s5
 generalize H4++[AO.lst [.int N5]]=H5 at *;have l4':ps.length<=60000:=by
  have:([]:List Pc).length=0:=rfl
  lia
 obtain ⟨sc,esc⟩:∃ sc:Option AV,sc=some (.fl (ns.map AV.int)):=⟨_,rfl⟩
 obtain ⟨e',H6,r1,r2⟩:=iZ (w:=none) (all:=cZ 0 6) (t:=.nm 5) (b:=kZ) (xs:=cZ 0 6) (en:=[sc,some (.ref 0),some (.str y),some (.int o),some (.ref L),none,none,none,none,none,none,none,none]) (h:=H5)
  (fun j en hh=>j<=6->∃ (ps':List Pc) (o5 o6 o7 o8 o9 o10 o11 o12:Option AV),en=[sc,some (.ref 0),some (.str y),some (.int o),some (.ref L),o5,o6,o7,o8,o9,o10,o11,o12]/\Zk L hh ps'/\TxZ ps' o y/\ps'.length<=60000+300000*j/\(j≠0->∃ (RI:Nat) (fd:List Un),o7=some (.ref RI)/\hh[RI]? = some (.lst (fd.map uv))/\(∀ i∈fd,OkI ps' i)/\bG ps' fd (zt o)=some []))
  (fun _=>⟨ps,none,none,none,none,none,none,none,none,rfl,z5,T4,l4',fun q=>absurd rfl q⟩) (fun _ _ _ _=>rfl) (by
   intro j u en hh hu hp
   have jk:j<6:=by have:=(Kh.mp hu).1;rwa [jI] at this
   obtain ⟨ps1,o5,o6,o7,o8,o9,o10,o11,o12,rfl,zz,T,ln,_⟩:=hp (by lia)
   obtain ⟨TR,RI,P,lnS,c10,c11,c12,h2,ps2,fd,eb,z2,pr,l2,eI,oi,lb⟩:=Iw (o0:=sc) (o5:=some u) (o6:=o6) (o7:=o7) (o8:=o8) (o9:=o9) (o10:=o10) (o11:=o11) (o12:=o12) zz T py (by lia) (KA ln (KA (K5 (N6 _ (Mg jk)) _) (by decide)))
   show thn (kZ [sc,some (.ref 0),some (.str y),some (.int o),some (.ref L),some u,o6,o7,o8,o9,o10,o11,o12] hh) _
   rw [eb];exact fun _=>⟨ps2,some u,_,_,_,_,_,_,_,rfl,z2,T.pre pr,zP ln l2,fun _=>⟨RI,fd,rfl,eI,oi,lb⟩⟩)
 rw [jI] at r2;obtain ⟨ps',o5,o6,o7,o8,o9,o10,o11,o12,rfl,z6,T6,_,q⟩:=r2 (Kj _)
 obtain ⟨RI,fd,rfl,eI,oi,lb⟩:=q (by decide)
 have fo:=(g8 (t:=.nm 5) (b:=kZ) (nQ (a:=ai (.int 6)) (en:=[sc,some (.ref 0),some (.str y),some (.int o),some (.ref L),none,none,none,none,none,none,none,none]) (h:=H5) rfl (by decide))).trans r1
 obtain ⟨r7,b,f7,q7⟩:=ql z6.sh z6.gd T6 (SrcI.ref eI) (fun i hi=>(oi i hi).j)
 have hb:b=true:=q7.mpr lb
 subst hb;refine ⟨H6++r7,?_⟩
 subst esc;have isb:iE (.bl true) (.bl true) (H6++r7) = .ok (.bl true) (H6++r7):=by simp
 clear S0 S1 S2 z3 z4 z5 z6 T4 T6 r1 s0 s3 s5 e1;unfold sT
 generalize H6++r7=H7 at *;generalize bf (fY (ai (.int 6))) (.nm 5) kZ=FF at *;generalize oV 0 8 nE af=MK at *;generalize g9 0=HN at *;generalize ns.map AV.int=ZN at *;simp [mk,s0',p2',s3',f4,s5',fo,f7,isb,-iE]
end Sk
namespace Sk
open PySem PySem.Spec L2 Sm
theorem Iy:bootBuiltins "list" = some (.type "list"):=by decide +kernel
def bE (i:Nat):Stmt:=PySem.Challenge.pw_skeinwood_k60_whole_what_stands_reads_so.main.body.getD i (.Pass ⟨0,0,0,0⟩)
abbrev uB:Stmt:=fK (bE 30) 0
abbrev uC:Stmt:=bE 46
abbrev uD:Stmt:=bE 47
abbrev uE:Stmt:=bE 3
abbrev uF:Stmt:=fK (bE 30) 11
abbrev uG:Stmt:=fK (bE 30) 12
abbrev uH:Stmt:=fK (bE 30) 14
abbrev uI:Stmt:=fK (bE 30) 17
abbrev uJ:Stmt:=fK (bE 30) 16
abbrev uK:Stmt:=fK (bE 30) 2
abbrev uL:Stmt:=bE 42
abbrev uM:Stmt:=bE 5
abbrev qm:Stmt:=bE 4
abbrev uN:Stmt:=bE 6
abbrev uO:Stmt:=bE 7
abbrev uP:Stmt:=fK (bE 30) 15
abbrev uQ:Stmt:=fK (bE 30) 1
abbrev qo:Stmt:=bE 33
abbrev uR:Stmt:=bE 34
abbrev uS:Stmt:=fK (bE 30) 13
abbrev uT:Stmt:=fK (bE 30) 5
abbrev uU:Stmt:=fK (bE 30) 10
abbrev uV:Stmt:=fK (bE 30) 9
abbrev uW:Stmt:=bE 35
abbrev uX:Stmt:=fK (bE 30) 4
abbrev uY:Stmt:=bE 40
abbrev uZ:Stmt:=fK (bE 30) 8
abbrev u7:Stmt:=bE 37
abbrev u9:Stmt:=bE 41
abbrev va:Stmt:=bE 38
abbrev vb:Stmt:=bE 36
abbrev vc:Stmt:=bE 39
abbrev vd:Stmt:=bE 32
abbrev ve:Stmt:=bE 48
abbrev vf:Stmt:=bE 44
abbrev qp:Stmt:=bE 45
abbrev vg:Stmt:=fK (bE 30) 3
abbrev vh:Stmt:=bE 55
abbrev vi:Stmt:=bE 51
abbrev vj:Stmt:=bE 12
abbrev vk:Stmt:=bE 17
abbrev vm:Stmt:=bE 14
abbrev vn:Stmt:=bE 16
abbrev vo:Stmt:=bE 18
abbrev vp:Stmt:=bE 15
abbrev vq:Stmt:=bE 13
abbrev vt:Stmt:=bE 11
abbrev vv:Stmt:=bE 9
abbrev qq:Stmt:=bE 50
abbrev vw:Stmt:=bE 54
abbrev vx:Stmt:=bE 53
abbrev vy:Stmt:=bE 49
abbrev qr:Stmt:=bE 20
abbrev qt:Stmt:=bE 52
abbrev vz:Stmt:=bE 10
abbrev vA:Stmt:=bE 56
abbrev lD:Stmt:=bE 57
def cq:Nat->List Str
 | 0=>["pieces", "numbers", "sign_counts", "end_counts", "leaf_counts", "heights", "first_leaves", "last_leaves"]
 | _=>[]
theorem Iz:∀ c,(cq c).Nodup
 | 0=>by decide +kernel
 | _+1=>MU
theorem IA:∀ c,(cq c).length<=500
 | 0=>by decide +kernel
 | _+1=>KS _
abbrev bt (K:PySem.W.Frag) (cls exc:Nat->Option Addr):Tb:=⟨K,cls,exc,cq,Iz,IA⟩
structure kf (P:Program) (w:World) (K:PySem.W.Frag) (cls exc:Nat->Option Addr) (mg:Str->Option Value) (base:Heap):Prop where
 b_abs:mg "abs" = none
 b_all:mg "all" = none
 b_bool:mg "bool" = none
 b_int:mg "int" = none
 b_isinstance:mg "isinstance" = none
 b_len:mg "len" = none
 b_list:mg "list" = none
 b_max:mg "max" = none
 b_min:mg "min" = none
 b_range:mg "range" = none
 b_reversed:mg "reversed" = none
 b_str:mg "str" = none
 b_sum:mg "sum" = none
 b_zip:mg "zip" = none
 c_LEAF_SIGNS:∃ t,mg "LEAF_SIGNS" = some (.int 8 t)
 c_MOST_PLAIN:∃ t,mg "MOST_PLAIN" = some (.int 10000 t)
 c_MOST_SIGNS:∃ t,mg "MOST_SIGNS" = some (.int 1000000000000000000 t)
 cf_Shelf:CF (bt K cls exc) 0
 x_NoText:GX (bt K cls exc) mg base 1 "NoText"
 x_NoPiece:GX (bt K cls exc) mg base 2 "NoPiece"
 x_Loose:GX (bt K cls exc) mg base 3 "Loose"
 x_Unlevel:GX (bt K cls exc) mg base 4 "Unlevel"
 x_TooLong:GX (bt K cls exc) mg base 5 "TooLong"
 d_Shelf_init:DI K cls mg 0 "Shelf" "Shelf.__init__" uB ["self"]
 d_law_take:DG K mg "_law_take" uC ["stream", "many"]
 d_law_plain:DG K mg "_law_plain" uD ["stream", "most"]
 d_is_whole:DG K mg "is_whole" uE ["thing"]
 d_Shelf_has_piece:fC K cls 0 "has_piece" "Shelf.has_piece" uF ["self", "number"]
 d_Shelf_check_piece:fC K cls 0 "check_piece" "Shelf.check_piece" uG ["self", "number"]
 d_Shelf_check_fork:fC K cls 0 "check_fork" "Shelf.check_fork" uH ["self", "one", "other"]
 d_Shelf_lay:fC K cls 0 "lay" "Shelf.lay" uI ["self", "made"]
 d_Shelf_lay_fork:fC K cls 0 "lay_fork" "Shelf.lay_fork" uJ ["self", "made"]
 d_Shelf_fork:fC K cls 0 "fork" "Shelf.fork" uK ["self", "one", "other"]
 d_halved:DG K mg "halved" uL ["shelf", "leaves"]
 d_is_plain_sign:DG K mg "is_plain_sign" uM ["sign"]
 d_is_plain:DG K mg "is_plain" qm ["thing"]
 d_is_short:DG K mg "is_short" uN ["thing"]
 d_ends_in:DG K mg "ends_in" uO ["plain"]
 d_Shelf_lay_leaf:fC K cls 0 "lay_leaf" "Shelf.lay_leaf" uP ["self", "made"]
 d_Shelf_leaf:fC K cls 0 "leaf" "Shelf.leaf" uQ ["self", "plain"]
 d_built:DG K mg "built" qo ["shelf", "plain"]
 d_check_length:DG K mg "check_length" uR ["signs"]
 d_Shelf_check_text:fC K cls 0 "check_text" "Shelf.check_text" uS ["self", "text"]
 d_Shelf_signs:fC K cls 0 "signs" "Shelf.signs" uT ["self", "text"]
 d_Shelf_last_leaf:fC K cls 0 "last_leaf" "Shelf.last_leaf" uU ["self", "text"]
 d_Shelf_first_leaf:fC K cls 0 "first_leaf" "Shelf.first_leaf" uV ["self", "text"]
 d_are_close:DG K mg "are_close" uW ["shelf", "one", "other"]
 d_Shelf_piece:fC K cls 0 "piece" "Shelf.piece" uX ["self", "number"]
 d_with_last:DG K mg "with_last" uY ["shelf", "text", "leaf"]
 d_Shelf_height:fC K cls 0 "height" "Shelf.height" uZ ["self", "text"]
 d_turned_left:DG K mg "turned_left" u7 ["shelf", "one", "other"]
 d_without_first:DG K mg "without_first" u9 ["shelf", "text"]
 d_turned_right:DG K mg "turned_right" va ["shelf", "one", "other"]
 d_linked:DG K mg "linked" vb ["shelf", "one", "other"]
 d_welded:DG K mg "welded" vc ["shelf", "one", "other"]
 d_joined:DG K mg "joined" vd ["shelf", "one", "other"]
 d_law_made:DG K mg "_law_made" ve ["shelf", "stream", "plain"]
 d_law_mixed:DG K mg "_law_mixed" vf ["cell", "k"]
 d_law_stream:DG K mg "_law_stream" qp ["script", "k"]
 d_Shelf_many:fC K cls 0 "many" "Shelf.many" vg ["self"]
 d_law_texts:DG K mg "_law_texts" vh ["shelf", "plain", "other", "stream"]
 d_law_poured:DG K mg "_law_poured" vi ["items", "stream"]
 d_whole_left:DG K mg "whole_left" vj ["shelf", "text"]
 d_opens_fork:DG K mg "opens_fork" vk ["shelf", "left", "first"]
 d_takes_piece:DG K mg "takes_piece" vm ["shelf", "left", "number"]
 d_next_signs:DG K mg "next_signs" vn ["shelf", "left"]
 d_puts_back:DG K mg "puts_back" vo ["left", "signs"]
 d_takes_plain:DG K mg "takes_plain" vp ["shelf", "left", "plain"]
 d_takes_item:DG K mg "takes_item" vq ["shelf", "left", "item"]
 d_left_behind:DG K mg "left_behind" vt ["shelf", "text", "items"]
 d_spells:DG K mg "spells" vv ["shelf", "text", "items"]
 d_law_spelled:DG K mg "_law_spelled" qq ["shelf", "text", "stream"]
 d_law_cut_items:DG K mg "_law_cut_items" vw ["items", "many", "stream"]
 d_law_spoilt:DG K mg "_law_spoilt" vx ["shelf", "items", "stream"]
 d_law_read:DG K mg "_law_read" vy ["shelf", "text"]
 d_paper_stands:DG K mg "paper_stands" qr ["shelf", "texts", "other", "paper"]
 d_law_plain_of:DG K mg "_law_plain_of" qt ["shelf", "items"]
 d_begins_text:DG K mg "begins_text" vz ["shelf", "text", "items"]
 d_law_single:DG K mg "_law_single" vA ["shelf", "text", "items", "plain"]
 d_law:DG K mg "law" lD ["script"]
theorem IB:aq ["self"] ["self"] (aO uB):=bC
theorem IC:aq ["stream", "many", "digit"] ["stream", "many"] (aO uC):=bC
theorem ID:aq ["stream", "most", "letters", "wide", "signs", "plain", "k"] ["stream", "most"] (aO uD):=bC
theorem IE:aq ["thing"] ["thing"] (aO uE):=bC
theorem IF:aq ["self", "number"] ["self", "number"] (aO uF):=bC
theorem IG:aq ["self", "number"] ["self", "number"] (aO uG):=bC
theorem IH:aq ["self", "one", "other", "seam"] ["self", "one", "other"] (aO uH):=bC
theorem II:aq ["self", "made", "number"] ["self", "made"] (aO uI):=bC
theorem IJ:aq ["self", "made", "one", "other"] ["self", "made"] (aO uJ):=bC
theorem IK:aq ["self", "one", "other", "made"] ["self", "one", "other"] (aO uK):=bC
theorem zW:aq ["shelf", "leaves", "middle"] ["shelf", "leaves"] (aO uL):=bC
theorem IL:aq ["sign"] ["sign"] (aO uM):=bC
theorem IM:aq ["thing"] ["thing"] (aO qm):=bC
theorem IP:aq ["thing"] ["thing"] (aO uN):=bC
theorem IQ:aq ["plain"] ["plain"] (aO uO):=bC
theorem IS:aq ["self", "made", "number", "plain"] ["self", "made"] (aO uP):=bC
theorem IT:aq ["self", "plain", "made"] ["self", "plain"] (aO uQ):=bC
theorem IU:aq ["shelf", "plain", "leaves"] ["shelf", "plain"] (aO qo):=bC
theorem IV:aq ["signs"] ["signs"] (aO uR):=bC
theorem IW:aq ["self", "text"] ["self", "text"] (aO uS):=bC
theorem IX:aq ["self", "text"] ["self", "text"] (aO uT):=bC
theorem IY:aq ["self", "text"] ["self", "text"] (aO uU):=bC
theorem IZ:aq ["self", "text"] ["self", "text"] (aO uV):=bC
theorem Ja:aq ["shelf", "one", "other"] ["shelf", "one", "other"] (aO uW):=bC
theorem Jb:aq ["self", "number"] ["self", "number"] (aO uX):=bC
theorem zX:aq ["shelf", "text", "leaf", "piece"] ["shelf", "text", "leaf"] (aO uY):=bC
theorem Jc:aq ["self", "text"] ["self", "text"] (aO uZ):=bC
theorem Jd:aq ["shelf", "one", "other", "piece", "near", "far", "inner"] ["shelf", "one", "other"] (aO u7):=bC
theorem zY:aq ["shelf", "text", "piece", "rest"] ["shelf", "text"] (aO u9):=bC
theorem Je:aq ["shelf", "one", "other", "piece", "far", "near", "inner"] ["shelf", "one", "other"] (aO va):=bC
theorem zZ:aq ["shelf", "one", "other", "tilt", "piece"] ["shelf", "one", "other"] (aO vb):=bC
theorem Jf:aq ["shelf", "one", "other", "seam", "front", "back"] ["shelf", "one", "other"] (aO vc):=bC
theorem Jg:aq ["shelf", "one", "other"] ["shelf", "one", "other"] (aO vd):=bC
theorem Jh:aq ["shelf", "stream", "plain", "way", "parts", "many", "text", "part"] ["shelf", "stream", "plain"] (aO ve):=bC
theorem Ji:aq ["cell", "k", "one"] ["cell", "k"] (aO vf):=bC
theorem Jj:aq ["script", "k", "cell", "j", "found"] ["script", "k"] (aO qp):=bC
theorem Jk:aq ["self"] ["self"] (aO vg):=bC
theorem Jl:aq ["shelf", "plain", "other", "stream", "texts", "k", "piece", "at"] ["shelf", "plain", "other", "stream"] (aO vh):=bC
theorem Jm:aq ["items", "stream", "found", "item"] ["items", "stream"] (aO vi):=bC
theorem Jn:aq ["shelf", "text"] ["shelf", "text"] (aO vj):=bC
theorem Jo:aq ["shelf", "left", "first", "piece"] ["shelf", "left", "first"] (aO vk):=bC
theorem Jp:aq ["shelf", "left", "number", "first"] ["shelf", "left", "number"] (aO vm):=bC
theorem Jq:aq ["shelf", "left", "first"] ["shelf", "left"] (aO vn):=bC
theorem Jr:aq ["left", "signs"] ["left", "signs"] (aO vo):=bC
theorem Js:aq ["shelf", "left", "plain", "rest", "signs", "both"] ["shelf", "left", "plain"] (aO vp):=bC
theorem Jt:aq ["shelf", "left", "item"] ["shelf", "left", "item"] (aO vq):=bC
theorem Ju:aq ["shelf", "text", "items", "left", "item"] ["shelf", "text", "items"] (aO vt):=bC
theorem Jv:aq ["shelf", "text", "items"] ["shelf", "text", "items"] (aO vv):=bC
theorem Jw:aq ["shelf", "text", "stream", "items", "waiting", "number", "piece", "kind"] ["shelf", "text", "stream"] (aO qq):=bC
theorem Jx:aq ["items", "many", "stream", "found", "k", "size"] ["items", "many", "stream"] (aO vw):=bC
theorem Jy:aq ["shelf", "items", "stream", "found", "kind", "at", "item"] ["shelf", "items", "stream"] (aO vx):=bC
theorem Jz:aq ["shelf", "text", "plain", "waiting", "number", "piece"] ["shelf", "text"] (aO vy):=bC
theorem JA:aq ["shelf", "texts", "other", "paper", "text", "together", "items", "each"] ["shelf", "texts", "other", "paper"] (aO qr):=bC
theorem JB:aq ["shelf", "items"] ["shelf", "items"] (aO qt):=bC
theorem JC:aq ["shelf", "text", "items"] ["shelf", "text", "items"] (aO vz):=bC
theorem JD:aq ["shelf", "text", "items", "plain"] ["shelf", "text", "items", "plain"] (aO vA):=bC
theorem JE:aq ["script", "shelf", "plain", "other", "stream", "turn", "texts", "items", "papers", "line", "paper", "text", "some"] ["script"] (aO lD):=bC
section
variable {P:Program} {w:World} {K:PySem.W.Frag} {cls exc:Nat->Option Addr} {mg:Str->Option Value} {base:Heap} (Z:kf P w K cls exc mg base)
include Z
theorem JF:GK P w (bt K cls exc) mg base 1 0 "Shelf" nE:=gk Z.d_Shelf_init IB fun hr C hu nd =>
 (ay (jX rfl Z.cf_Shelf (ag 0) (dY au))
  (ay (jX rfl Z.cf_Shelf (ag 0) Ey)
  (ay (jX rfl Z.cf_Shelf (ag 0) (dY (ak aE au)))
  (ay (jX rfl Z.cf_Shelf (ag 0) (dY (ak aE au)))
  (ay (jX rfl Z.cf_Shelf (ag 0) (dY (ak aE au)))
  (ay (jX rfl Z.cf_Shelf (ag 0) (dY (ak (mY aE) au)))
  (ay (jX rfl Z.cf_Shelf (ag 0) (dY (ak aE au)))
  (aC (jX rfl Z.cf_Shelf (ag 0) (dY (ak aE au)))))))))))
theorem fS:GF P w (bt K cls exc) mg base 1 "_law_take" bV:=gf Z.d_law_take IC fun hr C hu nd =>
 (ay (aP (i:=2) nd (aX ig (aD rfl hu (ag 0) aE) (ag 1)))
  (ay (pk hu (ag 0) aE (aX xh (aD rfl hu (ag 0) aE) (ag 1)))
  (aC (aU (ag 2)))))
theorem Aa:GF P w (bt K cls exc) mg base 2 "_law_plain" j0:=gf Z.d_law_plain ID fun hr C hu nd =>
 (ay (aP (i:=2) nd cy)
  (ay (aP (i:=3) nd (aX (cu rfl) (aX (cu rfl) (ag 2) (kK rfl LP PySem.F.slot_str_upper PySem.F.type_str_upper (Fo) nz (ag 2))) cy))
  (ay (aP (i:=4) nd (aD rfl hu (gu (ak cy (ak cy (ak cy (ak cy (ak (ag 3) au)))))) (aV rfl C (fS Z) hr.m rfl (ak (ag 0) (ak aE au)))))
  (ay (aP (i:=5) nd cy)
  (ay (ij rfl (nj (E:=EN) rfl Z.b_range (aV rfl (C.nox) (fS Z) hr.m rfl (ak (ag 0) (ak (aX (cu rfl) (ag 1) aE) au)))) (gS (i:=6) nd) (aC (aP (i:=5) nd (aX (cu rfl) (ag 5) (aD rfl hu (ag 4) (aV rfl (C.nox) (fS Z) hr.m rfl (ak (ag 0) (ak (bj (b_len rfl) rfl Z.b_len KW (ak (ag 4) au)) au))))))))
  (aC (aU (ag 5))))))))
theorem JG:GF P w (bt K cls exc) mg base 1 "is_whole" l9:=gf Z.d_is_whole IE fun hr C hu nd =>
 (aC (aU (m8 (jw rfl rfl Z.b_isinstance (ag 0) rfl Z.b_int rG (by decide)) (jW (xl (jw rfl rfl Z.b_isinstance (ag 0) rfl Z.b_bool DA (by decide)))))))
theorem Ab:GM P w (bt K cls exc) mg base 2 0 "has_piece" gY:=gm Z.d_Shelf_has_piece IF (show ("has_piece" : Str)∉cq 0 by decide +kernel) fun hr C hu nd =>
 (aC (aU (m8 (aV rfl C (JG Z) hr.m rfl (ak (ag 1) au)) (jW (sf eQ eQ aE (ag 1) (bj (b_len rfl) rfl Z.b_len KW (ak (bU rfl Z.cf_Shelf (ag 0)) au)))))))
theorem qu:GM P w (bt K cls exc) mg base 3 0 "check_piece" kO:=gm Z.d_Shelf_check_piece IG (show ("check_piece" : Str)∉cq 0 by decide +kernel) fun hr C hu nd =>
 (aC (aG (jV (fA rfl (bq rfl C (Ab Z) hr.m (ag 0) (ak (ag 1) au)))) (aC (jY Z.x_NoPiece jT rfl (ak cy au))) bM))
theorem JH:GM P w (bt K cls exc) mg base 4 0 "check_fork" j3:=gm Z.d_Shelf_check_fork IH (show ("check_fork" : Str)∉cq 0 by decide +kernel) fun hr C hu nd =>
 (ay (bN (bq rfl C (qu Z) hr.m (ag 0) (ak (ag 1) au)))
  (ay (bN (bq rfl C (qu Z) hr.m (ag 0) (ak (ag 2) au)))
  (ay (aP (i:=3) nd (aX (cu rfl) (aD rfl hu (bU rfl Z.cf_Shelf (ag 0)) (aD rfl hu (bU rfl Z.cf_Shelf (ag 0)) (ag 1))) (aD rfl hu (bU rfl Z.cf_Shelf (ag 0)) (aD rfl hu (bU rfl Z.cf_Shelf (ag 0)) (ag 2)))))
  (ay (aG (bA eQ (ag 3) (fB rfl Z.c_LEAF_SIGNS) (bw _)) (aC (jY Z.x_Loose jT rfl (ak cy au))) bM)
  (ay (aG (bA gb (bj (b_abs) rfl Z.b_abs PyProof.Rows.boot_abs (ak (aX lO (aD rfl hu (bU rfl Z.cf_Shelf (ag 0)) (ag 1)) (aD rfl hu (bU rfl Z.cf_Shelf (ag 0)) (ag 2))) au)) aE (bw _)) (aC (jY Z.x_Unlevel jT rfl (ak cy au))) bM)
  (aC (aG (bA gb (aX (cu rfl) (aD rfl hu (bU rfl Z.cf_Shelf (ag 0)) (ag 1)) (aD rfl hu (bU rfl Z.cf_Shelf (ag 0)) (ag 2))) (fB rfl Z.c_MOST_SIGNS) (bw _)) (aC (jY Z.x_TooLong jT rfl (ak cy au))) bM)))))))
theorem Ac:GM P w (bt K cls exc) mg base 1 0 "lay" nF:=gm Z.d_Shelf_lay II (show ("lay" : Str)∉cq 0 by decide +kernel) fun hr C hu nd =>
 (ay (bN (aZ rfl Kl Kw Kx (dG) cD (bU rfl Z.cf_Shelf (ag 0)) (ak (ag 1) au)))
  (ay (aP (i:=2) nd (bj (b_len rfl) rfl Z.b_len KW (ak (bU rfl Z.cf_Shelf (ag 0)) au)))
  (ay (pk hu (bU rfl Z.cf_Shelf (ag 0)) (ag 1) (ag 2))
  (aC (aU (ag 2))))))
theorem JI:GM P w (bt K cls exc) mg base 2 0 "lay_fork" nG:=gm Z.d_Shelf_lay_fork IJ (show ("lay_fork" : Str)∉cq 0 by decide +kernel) fun hr C hu nd =>
 (ay (bN (bq rfl C (Ac Z) hr.m (ag 0) (ak (ag 1) au)))
  (ay (aP (i:=2) nd (aD rfl hu (ag 1) aE))
  (ay (aP (i:=3) nd (aD rfl hu (ag 1) aE))
  (ay (bN (aZ rfl Kl Kw Kx (dG) cD (bU rfl Z.cf_Shelf (ag 0)) (ak (aX (cu rfl) (aD rfl hu (bU rfl Z.cf_Shelf (ag 0)) (ag 2)) (aD rfl hu (bU rfl Z.cf_Shelf (ag 0)) (ag 3))) au)))
  (ay (bN (aZ rfl Kl Kw Kx (dG) cD (bU rfl Z.cf_Shelf (ag 0)) (ak (aX (cu rfl) (aD rfl hu (bU rfl Z.cf_Shelf (ag 0)) (ag 2)) (aD rfl hu (bU rfl Z.cf_Shelf (ag 0)) (ag 3))) au)))
  (ay (bN (aZ rfl Kl Kw Kx (dG) cD (bU rfl Z.cf_Shelf (ag 0)) (ak (aX (cu rfl) (aD rfl hu (bU rfl Z.cf_Shelf (ag 0)) (ag 2)) (aD rfl hu (bU rfl Z.cf_Shelf (ag 0)) (ag 3))) au)))
  (ay (bN (aZ rfl Kl Kw Kx (dG) cD (bU rfl Z.cf_Shelf (ag 0)) (ak (aX (cu rfl) (bj (E4) rfl Z.b_max PyProof.Rows.boot_max (ak (aD rfl hu (bU rfl Z.cf_Shelf (ag 0)) (ag 2)) (ak (aD rfl hu (bU rfl Z.cf_Shelf (ag 0)) (ag 3)) au))) aE) au)))
  (ay (bN (aZ rfl Kl Kw Kx (dG) cD (bU rfl Z.cf_Shelf (ag 0)) (ak (aD rfl hu (bU rfl Z.cf_Shelf (ag 0)) (ag 2)) au)))
  (aC (bN (aZ rfl Kl Kw Kx (dG) cD (bU rfl Z.cf_Shelf (ag 0)) (ak (aD rfl hu (bU rfl Z.cf_Shelf (ag 0)) (ag 3)) au))))))))))))
theorem gr:GM P w (bt K cls exc) mg base 5 0 "fork" bu:=gm Z.d_Shelf_fork IK (show ("fork" : Str)∉cq 0 by decide +kernel) fun hr C hu nd =>
 (ay (bN (bq rfl C (JH Z) hr.m (ag 0) (ak (ag 1) (ak (ag 2) au))))
  (ay (aP (i:=3) nd (xm (ak cy (ak (ag 1) (ak (ag 2) au)))))
  (ay (aG (bA (xG rfl hu) (ag 3) (bU rfl Z.cf_Shelf (ag 0)) rfl) (aC (bN (bq rfl C (JI Z) hr.m (ag 0) (ak (ag 3) au)))) bM)
  (aC (aU (aD rfl hu (bU rfl Z.cf_Shelf (ag 0)) (ag 3)))))))
theorem vB:∀ d,GF P w (bt K cls exc) mg base (5+d+1) "halved" (iF d)
 | 0=>gf Z.d_halved zW fun _ _ _ _=>pB
 | d+1=>gf Z.d_halved zW fun hr C hu nd =>
  (ay (aG (bA (bB rfl hu) (bj (b_len rfl) rfl Z.b_len KW (ak (ag 1) au)) aE (bw _)) (aC (aU (aD rfl hu (ag 1) aE))) bM)
  (ay (aP (i:=2) nd (aX xh (bj (b_len rfl) rfl Z.b_len KW (ak (ag 1) au)) aE))
  (aC (aU (bq rfl C (gr Z) (hr.mono (show 5<=5+(d+1) by lia)) (ag 0) (ak (aV rfl C (vB d) (hr.mono (by lia)) rfl (ak (ag 0) (ak (gc rfl (ag 1) gw (fM (ag 2))) au))) (ak (aV rfl C (vB d) (hr.mono (by lia)) rfl (ak (ag 0) (ak (gc rfl (ag 1) (fM (ag 2)) gw) au))) au)))))))
theorem JJ:GF P w (bt K cls exc) mg base 1 "is_plain_sign" nH:=gf Z.d_is_plain_sign IL fun hr C hu nd =>
 (aC (aU (m9 (m5 (bB rfl hu) (ag 0) cy (bw _)) (jW (sf eQ eQ cy (ag 0) cy)))))
theorem Ad:GF P w (bt K cls exc) mg base 2 "is_plain" kP:=gf Z.d_is_plain IM fun {f cdv A outer s H E} hr C hu nd =>
 (ay (aG (jV (fA rfl (jw rfl rfl Z.b_isinstance (ag 0) rfl Z.b_str lK (by decide)))) (aC (aU cY)) bM)
  (aC (aU (bj (b_all rfl) rfl Z.b_all NK (ak (lS (jf:=[]) (jy (N:=["thing"]) (sc:=aO qm) rfl (fun _=>rfl) (by decide +kernel)) rfl (gT (E:=(fun _=>E)) rfl (ag 0)) (fun _ _ _ _ _=>ju) (fun _ _ _ _ _=>(aV rfl (CA.never rfl) (JJ Z) hr.m rfl (ak (ag 0) au)))) au)))))
theorem Ae:GF P w (bt K cls exc) mg base 3 "is_short" iG:=gf Z.d_is_short IP fun hr C hu nd =>
 (aC (aU (m8 (aV rfl C (Ad Z) hr.m rfl (ak (ag 0) au)) (jW (sf eQ eQ aE (bj (b_len rfl) rfl Z.b_len KW (ak (ag 0) au)) (fB rfl Z.c_LEAF_SIGNS))))))
theorem JK:GF P w (bt K cls exc) mg base 1 "ends_in" pI:=gf Z.d_ends_in IQ fun hr C hu nd =>
 (aC (aU (aZ rfl LP PySem.F.slot_str_count PySem.F.type_str_count (E9) nz (ag 0) (ak cy au))))
theorem JL:GM P w (bt K cls exc) mg base 2 0 "lay_leaf" nJ:=gm Z.d_Shelf_lay_leaf IS (show ("lay_leaf" : Str)∉cq 0 by decide +kernel) fun hr C hu nd =>
 (ay (aP (i:=2) nd (bq rfl C (Ac Z) hr.m (ag 0) (ak (ag 1) au)))
  (ay (aP (i:=3) nd (aD rfl hu (ag 1) aE))
  (ay (bN (aZ rfl Kl Kw Kx (dG) cD (bU rfl Z.cf_Shelf (ag 0)) (ak (bj (b_len rfl) rfl Z.b_len KW (ak (ag 3) au)) au)))
  (ay (bN (aZ rfl Kl Kw Kx (dG) cD (bU rfl Z.cf_Shelf (ag 0)) (ak (aV rfl C (JK Z) hr.m rfl (ak (ag 3) au)) au)))
  (ay (bN (aZ rfl Kl Kw Kx (dG) cD (bU rfl Z.cf_Shelf (ag 0)) (ak aE au)))
  (ay (bN (aZ rfl Kl Kw Kx (dG) cD (bU rfl Z.cf_Shelf (ag 0)) (ak aE au)))
  (ay (bN (aZ rfl Kl Kw Kx (dG) cD (bU rfl Z.cf_Shelf (ag 0)) (ak (ag 2) au)))
  (aC (bN (aZ rfl Kl Kw Kx (dG) cD (bU rfl Z.cf_Shelf (ag 0)) (ak (ag 2) au)))))))))))
theorem Ag:GM P w (bt K cls exc) mg base 4 0 "leaf" gA:=gm Z.d_Shelf_leaf IT (show ("leaf" : Str)∉cq 0 by decide +kernel) fun hr C hu nd =>
 (ay (aG (jV (fA rfl (aV rfl C (Ae Z) hr.m rfl (ak (ag 1) au)))) (aC (jY Z.x_NoText jT rfl (ak cy au))) bM)
  (ay (aP (i:=2) nd (xm (ak cy (ak (ag 1) au))))
  (ay (aG (bA (xG rfl hu) (ag 2) (bU rfl Z.cf_Shelf (ag 0)) rfl) (aC (bN (bq rfl C (JL Z) hr.m (ag 0) (ak (ag 2) au)))) bM)
  (aC (aU (aD rfl hu (bU rfl Z.cf_Shelf (ag 0)) (ag 2)))))))
theorem vC:GF P w (bt K cls exc) mg base 27 "built" kQ:=gf Z.d_built IU fun {f cdv A outer s H E} hr C hu nd =>
 (ay (aG (jV (fA rfl (aV rfl C (Ad Z) hr.m rfl (ak (ag 1) au)))) (aC (jY Z.x_NoText jT rfl (ak cy au))) bM)
  (ay (aG (bA gb (bj (b_len rfl) rfl Z.b_len KW (ak (ag 1) au)) (fB rfl Z.c_MOST_PLAIN) (bw _)) (aC (jY Z.x_TooLong jT rfl (ak cy au))) bM)
  (ay (aG (bA (bB rfl hu) (ag 1) cy (bw _)) (aC (aU aE)) bM)
  (ay (EL (jf:=[(0, "shelf"),(1, "plain")]) (jy (N:=["shelf", "plain", "leaves"]) (sc:=aO qo) rfl (fun _=>rfl) (by decide +kernel)) rfl (xP (E:=(fun _=>E)) rfl Z.b_range aE (bj (b_len rfl) rfl Z.b_len KW (ak (ag 1) au)) (fB rfl Z.c_LEAF_SIGNS)) (fun _ _ _ _ _=>ju) (fun _ _ _ _ _=>(bq rfl (CA.never rfl) (Ag Z) hr.m (ag 1) (ak (gc rfl (ag 2) (fM (ag 0)) (fM (aX (cu rfl) (ag 0) (fB rfl Z.c_LEAF_SIGNS)))) au))) nd (i:=2))
  (aC (aU (aV rfl C (vB Z 20) hr.m rfl (ak (ag 0) (ak (ag 2) au)))))))))
theorem JM:GF P w (bt K cls exc) mg base 1 "check_length" pJ:=gf Z.d_check_length IV fun hr C hu nd =>
 (aC (aG (bA gb (ag 0) (fB rfl Z.c_MOST_SIGNS) (bw _)) (aC (jY Z.x_TooLong jT rfl (ak cy au))) bM))
theorem mB:GM P w (bt K cls exc) mg base 4 0 "check_text" ik:=gm Z.d_Shelf_check_text IW (show ("check_text" : Str)∉cq 0 by decide +kernel) fun hr C hu nd =>
 (aC (aG (bA (cJ rfl hu) (ag 1) aE (bw _)) (aC (bN (bq rfl C (qu Z) hr.m (ag 0) (ak (ag 1) au)))) bM))
theorem qv:GM P w (bt K cls exc) mg base 5 0 "signs" jB:=gm Z.d_Shelf_signs IX (show ("signs" : Str)∉cq 0 by decide +kernel) fun hr C hu nd =>
 (ay (bN (bq rfl C (mB Z) hr.m (ag 0) (ak (ag 1) au)))
  (aC (aU (aD rfl hu (bU rfl Z.cf_Shelf (ag 0)) (ag 1)))))
theorem Ah:GM P w (bt K cls exc) mg base 5 0 "last_leaf" nK:=gm Z.d_Shelf_last_leaf IY (show ("last_leaf" : Str)∉cq 0 by decide +kernel) fun hr C hu nd =>
 (ay (bN (bq rfl C (mB Z) hr.m (ag 0) (ak (ag 1) au)))
  (aC (aU (aD rfl hu (bU rfl Z.cf_Shelf (ag 0)) (ag 1)))))
theorem Ai:GM P w (bt K cls exc) mg base 5 0 "first_leaf" nL:=gm Z.d_Shelf_first_leaf IZ (show ("first_leaf" : Str)∉cq 0 by decide +kernel) fun hr C hu nd =>
 (ay (bN (bq rfl C (mB Z) hr.m (ag 0) (ak (ag 1) au)))
  (aC (aU (aD rfl hu (bU rfl Z.cf_Shelf (ag 0)) (ag 1)))))
theorem JN:GF P w (bt K cls exc) mg base 6 "are_close" pK:=gf Z.d_are_close Ja fun hr C hu nd =>
 (aC (aU (m5 gb (aX (cu rfl) (bq rfl C (qv Z) hr.m (ag 0) (ak (bq rfl C (Ah Z) hr.m (ag 0) (ak (ag 1) au)) au)) (bq rfl C (qv Z) hr.m (ag 0) (ak (bq rfl C (Ai Z) hr.m (ag 0) (ak (ag 2) au)) au))) (fB rfl Z.c_LEAF_SIGNS) (bw _))))
theorem gJ:GM P w (bt K cls exc) mg base 4 0 "piece" dZ:=gm Z.d_Shelf_piece Jb (show ("piece" : Str)∉cq 0 by decide +kernel) fun hr C hu nd =>
 (ay (bN (bq rfl C (qu Z) hr.m (ag 0) (ak (ag 1) au)))
  (aC (aU (aD rfl hu (bU rfl Z.cf_Shelf (ag 0)) (aX lO (ag 1) aE)))))
theorem Aj:∀ d,GF P w (bt K cls exc) mg base (5+d+1) "with_last" (ip d)
 | 0=>gf Z.d_with_last zX fun _ _ _ _=>pB
 | d+1=>gf Z.d_with_last zX fun hr C hu nd =>
  (ay (aP (i:=3) nd (bq rfl C (gJ Z) (hr.mono (show 4<=5+(d+1) by lia)) (ag 0) (ak (ag 1) au)))
  (ay (aG (bA (bB rfl hu) (aD rfl hu (ag 3) aE) cy (bw _)) (aC (aU (ag 2))) bM)
  (aC (aU (bq rfl C (gr Z) (hr.mono (show 5<=5+(d+1) by lia)) (ag 0) (ak (aD rfl hu (ag 3) aE) (ak (aV rfl C (Aj d) (hr.mono (by lia)) rfl (ak (ag 0) (ak (aD rfl hu (ag 3) aE) (ak (ag 2) au)))) au)))))))
theorem ja:GM P w (bt K cls exc) mg base 5 0 "height" gZ:=gm Z.d_Shelf_height Jc (show ("height" : Str)∉cq 0 by decide +kernel) fun hr C hu nd =>
 (ay (bN (bq rfl C (mB Z) hr.m (ag 0) (ak (ag 1) au)))
  (aC (aU (aD rfl hu (bU rfl Z.cf_Shelf (ag 0)) (ag 1)))))
theorem Ak:GF P w (bt K cls exc) mg base 6 "turned_left" gB:=gf Z.d_turned_left Jd fun hr C hu nd =>
 (ay (aG (bA jq (aX lO (bq rfl C (ja Z) hr.m (ag 0) (ak (ag 2) au)) (bq rfl C (ja Z) hr.m (ag 0) (ak (ag 1) au))) aE (bw _)) (aC (aU (bq rfl C (gr Z) hr.m (ag 0) (ak (ag 1) (ak (ag 2) au))))) bM)
  (ay (aP (i:=3) nd (bq rfl C (gJ Z) hr.m (ag 0) (ak (ag 2) au)))
  (ay (aP (i:=4) nd (aD rfl hu (ag 3) aE))
  (ay (aP (i:=5) nd (aD rfl hu (ag 3) aE))
  (ay (aG (bA eQ (bq rfl C (ja Z) hr.m (ag 0) (ak (ag 4) au)) (bq rfl C (ja Z) hr.m (ag 0) (ak (ag 5) au)) (bw _)) (aC (aU (bq rfl C (gr Z) hr.m (ag 0) (ak (bq rfl C (gr Z) hr.m (ag 0) (ak (ag 1) (ak (ag 4) au))) (ak (ag 5) au))))) bM)
  (ay (aP (i:=6) nd (bq rfl C (gJ Z) hr.m (ag 0) (ak (ag 4) au)))
  (aC (aU (bq rfl C (gr Z) hr.m (ag 0) (ak (bq rfl C (gr Z) hr.m (ag 0) (ak (ag 1) (ak (aD rfl hu (ag 6) aE) au))) (ak (bq rfl C (gr Z) hr.m (ag 0) (ak (aD rfl hu (ag 6) aE) (ak (ag 5) au))) au)))))))))))
theorem Al:∀ d,GF P w (bt K cls exc) mg base (6+d+1) "without_first" (fO d)
 | 0=>gf Z.d_without_first zY fun _ _ _ _=>pB
 | d+1=>gf Z.d_without_first zY fun hr C hu nd =>
  (ay (aP (i:=2) nd (bq rfl C (gJ Z) (hr.mono (show 4<=6+(d+1) by lia)) (ag 0) (ak (ag 1) au)))
  (ay (aG (bA (bB rfl hu) (aD rfl hu (ag 2) aE) cy (bw _)) (aC (aU aE)) bM)
  (ay (aP (i:=3) nd (aV rfl C (Al d) (hr.mono (by lia)) rfl (ak (ag 0) (ak (aD rfl hu (ag 2) aE) au))))
  (ay (aG (bA (bB rfl hu) (ag 3) aE (bw _)) (aC (aU (aD rfl hu (ag 2) aE))) bM)
  (aC (aU (aV rfl C (Ak Z) (hr.mono (show 6<=6+(d+1) by lia)) rfl (ak (ag 0) (ak (ag 3) (ak (aD rfl hu (ag 2) aE) au))))))))))
theorem JO:GF P w (bt K cls exc) mg base 6 "turned_right" iH:=gf Z.d_turned_right Je fun hr C hu nd =>
 (ay (aG (bA jq (aX lO (bq rfl C (ja Z) hr.m (ag 0) (ak (ag 1) au)) (bq rfl C (ja Z) hr.m (ag 0) (ak (ag 2) au))) aE (bw _)) (aC (aU (bq rfl C (gr Z) hr.m (ag 0) (ak (ag 1) (ak (ag 2) au))))) bM)
  (ay (aP (i:=3) nd (bq rfl C (gJ Z) hr.m (ag 0) (ak (ag 1) au)))
  (ay (aP (i:=4) nd (aD rfl hu (ag 3) aE))
  (ay (aP (i:=5) nd (aD rfl hu (ag 3) aE))
  (ay (aG (bA eQ (bq rfl C (ja Z) hr.m (ag 0) (ak (ag 5) au)) (bq rfl C (ja Z) hr.m (ag 0) (ak (ag 4) au)) (bw _)) (aC (aU (bq rfl C (gr Z) hr.m (ag 0) (ak (ag 4) (ak (bq rfl C (gr Z) hr.m (ag 0) (ak (ag 5) (ak (ag 2) au))) au))))) bM)
  (ay (aP (i:=6) nd (bq rfl C (gJ Z) hr.m (ag 0) (ak (ag 5) au)))
  (aC (aU (bq rfl C (gr Z) hr.m (ag 0) (ak (bq rfl C (gr Z) hr.m (ag 0) (ak (ag 4) (ak (aD rfl hu (ag 6) aE) au))) (ak (bq rfl C (gr Z) hr.m (ag 0) (ak (aD rfl hu (ag 6) aE) (ak (ag 2) au))) au)))))))))))
theorem qw:∀ d,GF P w (bt K cls exc) mg base (6+d+1) "linked" (fD d)
 | 0=>gf Z.d_linked zZ fun _ _ _ _=>pB
 | d+1=>gf Z.d_linked zZ fun hr C hu nd =>
  (ay (aP (i:=3) nd (aX lO (bq rfl C (ja Z) (hr.mono (show 5<=6+(d+1) by lia)) (ag 0) (ak (ag 1) au)) (bq rfl C (ja Z) (hr.mono (show 5<=6+(d+1) by lia)) (ag 0) (ak (ag 2) au))))
  (ay (aG (bA gb (ag 3) aE (bw _)) (ay (aP (i:=4) nd (bq rfl C (gJ Z) (hr.mono (show 4<=6+(d+1) by lia)) (ag 0) (ak (ag 1) au)))
  (aC (aU (aV rfl C (Ak Z) (hr.mono (show 6<=6+(d+1) by lia)) rfl (ak (ag 0) (ak (aD rfl hu (ag 4) aE) (ak (aV rfl C (qw d) (hr.mono (by lia)) rfl (ak (ag 0) (ak (aD rfl hu (ag 4) aE) (ak (ag 2) au)))) au))))))) bM)
  (ay (aG (bA jq (ag 3) (mY aE) (bw _)) (ay (aP (i:=4) nd (bq rfl C (gJ Z) (hr.mono (show 4<=6+(d+1) by lia)) (ag 0) (ak (ag 2) au)))
  (aC (aU (aV rfl C (JO Z) (hr.mono (show 6<=6+(d+1) by lia)) rfl (ak (ag 0) (ak (aV rfl C (qw d) (hr.mono (by lia)) rfl (ak (ag 0) (ak (ag 1) (ak (aD rfl hu (ag 4) aE) au)))) (ak (aD rfl hu (ag 4) aE) au))))))) bM)
  (aC (aU (bq rfl C (gr Z) (hr.mono (show 5<=6+(d+1) by lia)) (ag 0) (ak (ag 1) (ak (ag 2) au))))))))
theorem JP:GF P w (bt K cls exc) mg base 98 "welded" kR:=gf Z.d_welded Jf fun hr C hu nd =>
 (ay (aP (i:=3) nd (aX (cu rfl) (aD rfl hu (bq rfl C (gJ Z) hr.m (ag 0) (ak (bq rfl C (Ah Z) hr.m (ag 0) (ak (ag 1) au)) au)) aE) (aD rfl hu (bq rfl C (gJ Z) hr.m (ag 0) (ak (bq rfl C (Ai Z) hr.m (ag 0) (ak (ag 2) au)) au)) aE)))
  (ay (aP (i:=4) nd (aV rfl C (Aj Z 90) hr.m rfl (ak (ag 0) (ak (ag 1) (ak (bq rfl C (Ag Z) hr.m (ag 0) (ak (ag 3) au)) au)))))
  (ay (aP (i:=5) nd (aV rfl C (Al Z 90) hr.m rfl (ak (ag 0) (ak (ag 2) au))))
  (ay (aG (bA (bB rfl hu) (ag 5) aE (bw _)) (aC (aU (ag 4))) bM)
  (aC (aU (aV rfl C (qw Z 90) hr.m rfl (ak (ag 0) (ak (ag 4) (ak (ag 5) au))))))))))
theorem Am:GF P w (bt K cls exc) mg base 99 "joined" iq:=gf Z.d_joined Jg fun hr C hu nd =>
 (ay (bN (aV rfl C (JM Z) hr.m rfl (ak (aX (cu rfl) (bq rfl C (qv Z) hr.m (ag 0) (ak (ag 1) au)) (bq rfl C (qv Z) hr.m (ag 0) (ak (ag 2) au))) au)))
  (ay (aG (bA (bB rfl hu) (ag 1) aE (bw _)) (aC (aU (ag 2))) bM)
  (ay (aG (bA (bB rfl hu) (ag 2) aE (bw _)) (aC (aU (ag 1))) bM)
  (ay (aG (fA rfl (aV rfl C (JN Z) hr.m rfl (ak (ag 0) (ak (ag 1) (ak (ag 2) au))))) (aC (aU (aV rfl C (qw Z 90) hr.m rfl (ak (ag 0) (ak (ag 1) (ak (ag 2) au)))))) bM)
  (aC (aU (aV rfl C (JP Z) hr.m rfl (ak (ag 0) (ak (ag 1) (ak (ag 2) au))))))))))
theorem An:GF P w (bt K cls exc) mg base 100 "_law_made" jE:=gf Z.d_law_made Jh fun hr C hu nd =>
 (ay (aP (i:=3) nd (aV rfl C (fS Z) hr.m rfl (ak (ag 1) (ak aE au))))
  (ay (aG (bA (bB rfl hu) (ag 3) aE (bw _)) (aC (aU (aV rfl C (vC Z) hr.m rfl (ak (ag 0) (ak (ag 2) au))))) bM)
  (ay (aP (i:=4) nd (dY au))
  (ay (lR cf (bA (cJ rfl hu) (ag 2) cy (bw _)) (ay (aP (i:=5) nd (aX (cu rfl) aE (aV rfl (C.nox) (fS Z) hr.m rfl (ak (ag 1) (ak aE au)))))
  (ay (bN (aZ rfl Kl Kw Kx (dG) cD (ag 4) (ak (gc rfl (ag 2) gw (fM (ag 5))) au)))
  (aC (aP (i:=2) nd (gc rfl (ag 2) (fM (ag 5)) gw))))))
  (ay (aP (i:=6) nd aE)
  (ay (aG (bA (bB rfl hu) (ag 3) aE (bw _)) (aC (ij rfl (gT (E:=EN) rfl (ag 4)) (gS (i:=7) nd) (aC (aP (i:=6) nd (aV rfl (C.nox) (Am Z) hr.m rfl (ak (ag 0) (ak (ag 6) (ak (aV rfl (C.nox) (vC Z) hr.m rfl (ak (ag 0) (ak (ag 7) au))) au)))))))) (aC (Fq rfl rfl rfl Z.b_reversed (ag 4) (gS (i:=7) nd) (aC (aP (i:=6) nd (aV rfl (C.nox) (Am Z) hr.m rfl (ak (ag 0) (ak (aV rfl (C.nox) (vC Z) hr.m rfl (ak (ag 0) (ak (ag 7) au))) (ak (ag 6) au)))))))))
  (aC (aU (ag 6)))))))))
theorem JQ:GF P w (bt K cls exc) mg base 1 "_law_mixed" pN:=gf Z.d_law_mixed Ji fun hr C hu nd =>
 (ay (aP (i:=2) nd (aX ig (aX jm (aX (cu rfl) (aX (cu rfl) (aX ig (ag 0) aE) (aX jm aE (ag 1))) aE) aE) aE))
  (aC (aU (aX ig (aX jm (aX ig (aX jm (ag 2) (ag 2)) aE) aE) aE))))
theorem vD:GF P w (bt K cls exc) mg base 2 "_law_stream" iV:=gf Z.d_law_stream Jj fun {f cdv A outer s H E} hr C hu nd =>
 (ay (aP (i:=2) nd aE)
  (ay (ij rfl (xP (E:=EN) rfl Z.b_range (ag 1) (bj (b_len rfl) rfl Z.b_len KW (ak (ag 0) au)) aE) (gS (i:=3) nd) (aC (aP (i:=2) nd (aX (cu rfl) (aX jm (ag 2) (aX jm (aX lP aE aE) (aX lP aE aE))) (aX ig (aD rfl hu (ag 0) (ag 3)) (aX jm (aX lP aE aE) (aX lP aE aE)))))))
  (ay (aG (bA sd (ag 2) (aX lP aE aE) (bw _)) (aC (aU (dY (ak (ag 2) au)))) bM)
  (ay (aP (i:=2) nd (aX (cu rfl) (ag 2) (bj (b_sum rfl) rfl Z.b_sum PyProof.Rows.boot_sum (ak (lS (jf:=[]) (jy (N:=["script", "k", "cell", "j", "found"]) (sc:=aO qp) rfl (fun _=>rfl) (by decide +kernel)) rfl (gT (E:=(fun _=>E)) rfl (ag 0)) (fun _ _ _ _ _=>ju) (fun _ _ _ _ _=>(aX ig (ag 0) (aX lP aE aE)))) au))))
  (ay (aP (i:=4) nd aE)
  (ay (ij rfl (nj (E:=EN) rfl Z.b_range aE) (gS (i:=3) nd) (aC (aP (i:=4) nd (aX (cu rfl) (aX jm (ag 4) aE) (aV rfl (C.nox) (JQ Z) hr.m rfl (ak (aX (cu rfl) (aX (cu rfl) (ag 2) (aX jm aE (ag 1))) (bj (b_len rfl) rfl Z.b_len KW (ak (ag 0) au))) (ak (ag 3) au)))))))
  (aC (aU (dY (ak (ag 4) au))))))))))
theorem vE:GM P w (bt K cls exc) mg base 1 0 "many" iW:=gm Z.d_Shelf_many Jk (show ("many" : Str)∉cq 0 by decide +kernel) fun hr C hu nd =>
 (aC (aU (bj (b_len rfl) rfl Z.b_len KW (ak (bU rfl Z.cf_Shelf (ag 0)) au))))
theorem JR:GF P w (bt K cls exc) mg base 101 "_law_texts" pO:=gf Z.d_law_texts Jl fun hr C hu nd =>
 (ay (aP (i:=4) nd (dY au))
  (ay (ij rfl (nj (E:=EN) rfl Z.b_range (aX (cu rfl) aE (aV rfl (C.nox) (fS Z) hr.m rfl (ak (ag 3) (ak aE au))))) (gS (i:=5) nd) (ay (aP (i:=6) nd aE)
  (ay (aG (gR (lQ (bA (cJ rfl hu) (ag 2) aE (bw _)) (m7 (bA (bB rfl hu) (aV rfl (C.nox) (fS Z) hr.m rfl (ak (ag 3) (ak aE au))) aE (bw _))))) (aC (aP (i:=6) nd (aX (cu rfl) aE (aV rfl (C.nox) (fS Z) hr.m rfl (ak (ag 3) (ak (sj rfl (C.nox) (vE Z) hr.m (ag 0)) au)))))) (aC (aG (bA (cJ rfl hu) (ag 1) cy (bw _)) (ay (aP (i:=7) nd (aV rfl (C.nox) (fS Z) hr.m rfl (ak (ag 3) (ak (aX (cu rfl) (bj (b_len rfl) rfl Z.b_len KW (ak (ag 1) au)) aE) au))))
  (ay (aP (i:=6) nd (aV rfl (C.nox) (An Z) hr.m rfl (ak (ag 0) (ak (ag 3) (ak (gc rfl (ag 1) gw (fM (ag 7))) au)))))
  (aC (aP (i:=1) nd (gc rfl (ag 1) (fM (ag 7)) gw))))) bM)))
  (aC (bN (aZ rfl Kl Kw Kx (dG) cD (ag 4) (ak (ag 6) au)))))))
  (aC (aU (ag 4)))))
theorem JS:GF P w (bt K cls exc) mg base 2 "_law_poured" pP:=gf Z.d_law_poured Jm fun hr C hu nd =>
 (ay (aP (i:=2) nd (dY au))
  (ay (ij rfl (gT (E:=EN) rfl (ag 0)) (gS (i:=3) nd) (ay (aG (gR (lQ (bA (cJ rfl hu) (ag 2) (gu au) (bw _)) (lQ (fA rfl (jw rfl rfl Z.b_isinstance (ag 3) rfl Z.b_str lK (by decide))) (m7 (fA rfl (jw rfl rfl Z.b_isinstance (aD rfl hu (ag 2) (mY aE)) rfl Z.b_str lK (by decide))))))) (aC (aG (gR (lQ (bA jq (aX (cu rfl) (bj (b_len rfl) rfl Z.b_len KW (ak (aD rfl hu (ag 2) (mY aE)) au)) (bj (b_len rfl) rfl Z.b_len KW (ak (ag 3) au))) aE (bw _)) (m7 (bA gb (aV rfl (C.nox) (fS Z) hr.m rfl (ak (ag 1) (ak aE au))) aE (bw _))))) (aC (aP (i:=3) nd (aX (cu rfl) (kK rfl Kl LB LC (nA) cD (ag 2)) (ag 3)))) bM)) bM)
  (aC (bN (aZ rfl Kl Kw Kx (dG) cD (ag 2) (ak (ag 3) au))))))
  (aC (aU (ag 2)))))
theorem JT:GF P w (bt K cls exc) mg base 5 "whole_left" mm:=gf Z.d_whole_left Jn fun hr C hu nd =>
 (ay (bN (bq rfl C (mB Z) hr.m (ag 0) (ak (ag 1) au)))
  (aC (aU (Ew (bA (bB rfl hu) (ag 1) aE (bw _)) (gu au) (dY (ak (ag 1) au))))))
theorem Ao:GF P w (bt K cls exc) mg base 5 "opens_fork" jF:=gf Z.d_opens_fork Jo fun hr C hu nd =>
 (ay (aG (fA rfl (jw rfl rfl Z.b_isinstance (ag 2) rfl Z.b_str lK (by decide))) (aC (aU cY)) bM)
  (ay (aP (i:=3) nd (bq rfl C (gJ Z) hr.m (ag 0) (ak (ag 2) au)))
  (ay (aG (bA (bB rfl hu) (aD rfl hu (ag 3) aE) cy (bw _)) (aC (aU cY)) bM)
  (ay (bN (aZ rfl Kl Kw Kx (dG) cD (ag 1) (ak (aD rfl hu (ag 3) aE) au)))
  (ay (bN (aZ rfl Kl Kw Kx (dG) cD (ag 1) (ak (aD rfl hu (ag 3) aE) au)))
  (aC (aU cY)))))))
theorem JU:GF P w (bt K cls exc) mg base 6 "takes_piece" jG:=gf Z.d_takes_piece Jp fun hr C hu nd =>
 (ay (lR cf (bA (cJ rfl hu) (ag 1) (gu au) (bw _)) (ay (aP (i:=3) nd (kK rfl Kl LB LC (nA) cD (ag 1)))
  (ay (aG (bA (bB rfl hu) (ag 3) (ag 2) (bw _)) (aC (aU cY)) bM)
  (aC (aG (jV (fA rfl (aV rfl (C.nox) (Ao Z) hr.m rfl (ak (ag 0) (ak (ag 1) (ak (ag 3) au)))))) (aC (aU cY)) bM)))))
  (aC (aU cY)))
theorem JV:GF P w (bt K cls exc) mg base 6 "next_signs" kT:=gf Z.d_next_signs Jq fun hr C hu nd =>
 (ay (lR cf (bA (cJ rfl hu) (ag 1) (gu au) (bw _)) (ay (aP (i:=2) nd (kK rfl Kl LB LC (nA) cD (ag 1)))
  (ay (aG (fA rfl (jw rfl rfl Z.b_isinstance (ag 2) rfl Z.b_str lK (by decide))) (aC (aU (ag 2))) bM)
  (aC (aG (jV (fA rfl (aV rfl (C.nox) (Ao Z) hr.m rfl (ak (ag 0) (ak (ag 1) (ak (ag 2) au)))))) (aC (aU (aD rfl hu (bq rfl (C.nox) (gJ Z) hr.m (ag 0) (ak (ag 2) au)) aE))) bM)))))
  (aC (aU cy)))
theorem JW:GF P w (bt K cls exc) mg base 1 "puts_back" nM:=gf Z.d_puts_back Jr fun hr C hu nd =>
 (aC (aG (bA (cJ rfl hu) (ag 1) cy (bw _)) (aC (bN (aZ rfl Kl Kw Kx (dG) cD (ag 0) (ak (ag 1) au)))) bM))
theorem JX:GF P w (bt K cls exc) mg base 7 "takes_plain" j5:=gf Z.d_takes_plain Js fun hr C hu nd =>
 (ay (aP (i:=3) nd (ag 2))
  (ay (lR cf (bA (cJ rfl hu) (ag 3) cy (bw _)) (ay (aP (i:=4) nd (aV rfl (C.nox) (JV Z) hr.m rfl (ak (ag 0) (ak (ag 1) au))))
  (ay (aP (i:=5) nd (bj (E5) rfl Z.b_min PyProof.Rows.boot_min (ak (bj (b_len rfl) rfl Z.b_len KW (ak (ag 4) au)) (ak (bj (b_len rfl) rfl Z.b_len KW (ak (ag 3) au)) au))))
  (ay (aG (gR (Eu (bA (bB rfl hu) (ag 5) aE (bw _)) (Et (bA (cJ rfl hu) (gc rfl (ag 4) gw (fM (ag 5))) (gc rfl (ag 3) gw (fM (ag 5))) (bw _))))) (aC (aU cY)) bM)
  (ay (bN (aV rfl (C.nox) (JW Z) hr.m rfl (ak (ag 1) (ak (gc rfl (ag 4) (fM (ag 5)) gw) au))))
  (aC (aP (i:=3) nd (gc rfl (ag 3) (fM (ag 5)) gw))))))))
  (aC (aU cY))))
theorem JY:GF P w (bt K cls exc) mg base 8 "takes_item" fE:=gf Z.d_takes_item Jt fun hr C hu nd =>
 (ay (aG (fA rfl (bq rfl C (Ab Z) hr.m (ag 0) (ak (ag 2) au))) (aC (aU (aV rfl C (JU Z) hr.m rfl (ak (ag 0) (ak (ag 1) (ak (ag 2) au)))))) bM)
  (aC (aU (m8 (aV rfl C (Ae Z) hr.m rfl (ak (ag 2) au)) (jW (aV rfl C (JX Z) hr.m rfl (ak (ag 0) (ak (ag 1) (ak (ag 2) au)))))))))
theorem Ap:GF P w (bt K cls exc) mg base 9 "left_behind" gD:=gf Z.d_left_behind Ju fun hr C hu nd =>
 (ay (aP (i:=3) nd (aV rfl C (JT Z) hr.m rfl (ak (ag 0) (ak (ag 1) au))))
  (ay (ij rfl (gT (E:=EN) rfl (ag 2)) (gS (i:=4) nd) (aC (aG (jV (fA rfl (aV rfl (C.nox) (JY Z) hr.m rfl (ak (ag 0) (ak (ag 3) (ak (ag 4) au)))))) (aC (aU xf)) bM)))
  (aC (aU (ag 3)))))
theorem qx:GF P w (bt K cls exc) mg base 10 "spells" d5:=gf Z.d_spells Jv fun hr C hu nd =>
 (aC (aU (m5 (bB rfl hu) (aV rfl C (Ap Z) hr.m rfl (ak (ag 0) (ak (ag 1) (ak (ag 2) au)))) (gu au) (bw _))))
theorem Aq:GF P w (bt K cls exc) mg base 5 "_law_spelled" iX:=gf Z.d_law_spelled Jw fun hr C hu nd =>
 (ay (aP (i:=3) nd (dY au))
  (ay (aP (i:=4) nd (dY (ak (ag 1) au)))
  (ay (lR cf (bA (cJ rfl hu) (ag 4) (gu au) (bw _)) (ay (aP (i:=5) nd (kK rfl Kl LB LC (nA) cD (ag 4)))
  (aC (aG (bA (cJ rfl hu) (ag 5) aE (bw _)) (ay (aP (i:=6) nd (bq rfl (C.nox) (gJ Z) hr.m (ag 0) (ak (ag 5) au)))
  (ay (aP (i:=7) nd (aV rfl (C.nox) (fS Z) hr.m rfl (ak (ag 2) (ak aE au))))
  (aC (aG (bA (bB rfl hu) (ag 7) aE (bw _)) (aC (bN (aZ rfl Kl Kw Kx (dG) cD (ag 3) (ak (ag 5) au)))) (aC (aG (bA (bB rfl hu) (aD rfl hu (ag 6) aE) cy (bw _)) (aC (bN (aZ rfl Kl L3 L4 (sI) cD (ag 4) (ak (dY (ak (aD rfl hu (ag 6) aE) (ak (aD rfl hu (ag 6) aE) au))) au)))) (aC (aG (bA (bB rfl hu) (ag 7) aE (bw _)) (aC (bN (aZ rfl Kl Kw Kx (dG) cD (ag 3) (ak (aD rfl hu (ag 6) aE) au)))) (aC (bN (aZ rfl Kl L3 L4 (sI) cD (ag 3) (ak (EK (jf:=[]) (jy (N:=["shelf", "text", "stream", "items", "waiting", "number", "piece", "kind"]) (sc:=aO qq) rfl (fun _=>rfl) (by decide +kernel)) rfl (gT (E:=EN) rfl (aD rfl hu (ag 6) aE)) (fun _ _ _ _ _=>ju) (fun _ _ _ _ _=>(ag 0))) au)))))))))))) bM))))
  (aC (aU (ag 3))))))
theorem JZ:GF P w (bt K cls exc) mg base 2 "_law_cut_items" pQ:=gf Z.d_law_cut_items Jx fun hr C hu nd =>
 (ay (aP (i:=3) nd (dY au))
  (ay (ij rfl (nj (E:=EN) rfl Z.b_range (aX lO (ag 1) aE)) (gS (i:=4) nd) (ay (aP (i:=5) nd (aV rfl (C.nox) (fS Z) hr.m rfl (ak (ag 2) (ak (aX (cu rfl) (bj (b_len rfl) rfl Z.b_len KW (ak (ag 0) au)) aE) au))))
  (ay (bN (aZ rfl Kl Kw Kx (dG) cD (ag 3) (ak (gc rfl (ag 0) gw (fM (ag 5))) au)))
  (aC (aP (i:=0) nd (gc rfl (ag 0) (fM (ag 5)) gw))))))
  (aC (aU (aX (cu rfl) (ag 3) (gu (ak (ag 0) au)))))))
theorem J0:GF P w (bt K cls exc) mg base 3 "_law_spoilt" eV:=gf Z.d_law_spoilt Jy fun hr C hu nd =>
 (ay (aP (i:=3) nd (nt (E6 rfl) rfl Z.b_list Iy (ak (ag 1) au)))
  (ay (aP (i:=4) nd (aV rfl C (fS Z) hr.m rfl (ak (ag 2) (ak aE au))))
  (ay (aP (i:=5) nd (aV rfl C (fS Z) hr.m rfl (ak (ag 2) (ak (aX (cu rfl) (bj (b_len rfl) rfl Z.b_len KW (ak (ag 3) au)) aE) au))))
  (ay (aG (bA (bB rfl hu) (ag 4) aE (bw _)) (aC (bN (aZ rfl Kl Mp Mq (sN) cD (ag 3) (ak (ag 5) (ak (aX (cu rfl) aE (aV rfl C (fS Z) hr.m rfl (ak (ag 2) (ak (aX (cu rfl) (sj rfl C (vE Z) hr.m (ag 0)) aE) au)))) au))))) (aC (aG (bA (bB rfl hu) (ag 4) aE (bw _)) (aC (bN (aZ rfl Kl Mp Mq (sN) cD (ag 3) (ak (ag 5) (ak (aX (cu rfl) (aV rfl C (Aa Z) hr.m rfl (ak (ag 2) (ak aE au))) cy) au))))) (aC (aG (bA (bB rfl hu) (ag 3) (gu au) (bw _)) (aC (aU (ag 3))) (aC (aG (bA (bB rfl hu) (ag 4) aE (bw _)) (aC (bN (aZ rfl Kl LB LC (Fm) cD (ag 3) (ak (aX ig (ag 5) (bj (b_len rfl) rfl Z.b_len KW (ak (ag 3) au))) au)))) (aC (aG (bA (bB rfl hu) (ag 4) aE (bw _)) (aC (bN (aZ rfl Kl Mp Mq (sN) cD (ag 3) (ak (ag 5) (ak (aD rfl hu (ag 3) (aX ig (ag 5) (bj (b_len rfl) rfl Z.b_len KW (ak (ag 3) au)))) au))))) (aC (aG (bA (bB rfl hu) (ag 4) aE (bw _)) (aC (pk hu (ag 3) (aX ig (ag 5) (bj (b_len rfl) rfl Z.b_len KW (ak (ag 3) au))) (aX (cu rfl) aE (aV rfl C (fS Z) hr.m rfl (ak (ag 2) (ak (aX (cu rfl) (sj rfl C (vE Z) hr.m (ag 0)) aE) au)))))) (aC (aG (bA (bB rfl hu) (ag 4) aE (bw _)) (aC (bN (kK rfl Kl PySem.F.slot_list_reverse PySem.F.type_list_reverse (FD) cD (ag 3)))) (aC (aG (bA (bB rfl hu) (ag 4) aE (bw _)) (aC (aP (i:=3) nd (gc rfl (ag 3) gw (fM (ag 5))))) (ay (aP (i:=6) nd (aD rfl hu (ag 3) (aX ig (ag 5) (bj (b_len rfl) rfl Z.b_len KW (ak (ag 3) au)))))
  (aC (aG (fA rfl (jw rfl rfl Z.b_isinstance (ag 6) rfl Z.b_str lK (by decide))) (aC (pk hu (ag 3) (aX ig (ag 5) (bj (b_len rfl) rfl Z.b_len KW (ak (ag 3) au))) (aX (cu rfl) (gc rfl (ag 6) gw (fM (mY aE))) cy))) bM))))))))))))))))))
  (aC (aU (ag 3)))))))
theorem vF:GF P w (bt K cls exc) mg base 5 "_law_read" fR:=gf Z.d_law_read Jz fun hr C hu nd =>
 (ay (aP (i:=2) nd cy)
  (ay (aP (i:=3) nd (dY (ak (ag 1) au)))
  (ay (lR cf (bA (cJ rfl hu) (ag 3) (gu au) (bw _)) (ay (aP (i:=4) nd (kK rfl Kl LB LC (nA) cD (ag 3)))
  (aC (aG (bA (cJ rfl hu) (ag 4) aE (bw _)) (ay (aP (i:=5) nd (bq rfl (C.nox) (gJ Z) hr.m (ag 0) (ak (ag 4) au)))
  (aC (aG (bA (bB rfl hu) (aD rfl hu (ag 5) aE) cy (bw _)) (aC (aP (i:=2) nd (aX (cu rfl) (ag 2) (aD rfl hu (ag 5) aE)))) (aC (bN (aZ rfl Kl L3 L4 (sI) cD (ag 3) (ak (dY (ak (aD rfl hu (ag 5) aE) (ak (aD rfl hu (ag 5) aE) au))) au))))))) bM))))
  (aC (aU (ag 2))))))
theorem J1:GF P w (bt K cls exc) mg base 11 "paper_stands" nN:=gf Z.d_paper_stands JA fun {f cdv A outer s H E} hr C hu nd =>
 (ay (ij rfl (gT (E:=EN) rfl (aX (cu rfl) (ag 1) (gu (ak (ag 2) au)))) (gS (i:=4) nd) (aC (bN (bq rfl (C.nox) (mB Z) hr.m (ag 0) (ak (ag 4) au)))))
  (ay (aG (bA (cJ rfl hu) (bj (b_len rfl) rfl Z.b_len KW (ak (ag 3) au)) (bj (b_len rfl) rfl Z.b_len KW (ak (ag 1) au)) (bw _)) (aC (aU cY)) bM)
  (ay (aP (i:=5) nd (dY au))
  (ay (ij rfl (gT (E:=EN) rfl (ag 3)) (gS (i:=6) nd) (aC (bN (aZ rfl Kl L3 L4 (FO rfl) cD (ag 5) (ak (ag 6) au)))))
  (ay (FG rfl (jf:=[(0, "shelf")]) (Fl (N:=["shelf", "texts", "other", "paper", "text", "together", "items", "each"]) (sc:=aO qr) rfl (fun _=>rfl) (by decide +kernel)) rfl (FQ (E:=(fun _=>E)) rfl rfl Z.b_zip (ag 1) (ag 3)) (fun _ _ _ _ _=>ju) (fun _ _ _ _ _=>(aV rfl (CA.never rfl) (qx Z) hr.m rfl (ak (ag 2) (ak (ag 0) (ak (ag 1) au))))) nd (i:=7))
  (aC (aU (m8 (bj (b_all rfl) rfl Z.b_all NK (ak (ag 7) au)) (jW (aV rfl C (qx Z) hr.m rfl (ak (ag 0) (ak (ag 2) (ak (ag 5) au)))))))))))))
theorem Ar:GF P w (bt K cls exc) mg base 6 "_law_plain_of" jH:=gf Z.d_law_plain_of JB fun {f cdv A outer s H E} hr C hu nd =>
 (aC (aU (aZ rfl LP NL NM (xM rfl) nz cy (ak (lS (jf:=[(0, "shelf")]) (jy (N:=["shelf", "items"]) (sc:=aO qt) rfl (fun _=>rfl) (by decide +kernel)) rfl (gT (E:=(fun _=>E)) rfl (ag 1)) (fun _ _ _ _ _=>ju) (fun _ _ _ _ _=>(FI rfl (aD rfl hu (gu (ak (ag 0) (ak cy au))) (nt (b_int) rfl Z.b_int rG (ak (jw rfl rfl Z.b_isinstance (ag 0) rfl Z.b_int rG (by decide)) au))) (jW (aV rfl (CA.never rfl) (vF Z) hr.m rfl (ak (ag 1) (ak (ag 0) au))))))) au))))
theorem J2:GF P w (bt K cls exc) mg base 10 "begins_text" iY:=gf Z.d_begins_text JC fun hr C hu nd =>
 (aC (aU (m5 Er (aV rfl C (Ap Z) hr.m rfl (ak (ag 0) (ak (ag 1) (ak (ag 2) au)))) xf (bw _))))
theorem J3:GF P w (bt K cls exc) mg base 11 "_law_single" nO:=gf Z.d_law_single JD fun hr C hu nd =>
 (ay (aG (gR (lQ (fA rfl (aV rfl C (qx Z) hr.m rfl (ak (ag 0) (ak (ag 1) (ak (ag 2) au))))) (m7 (bA (cJ rfl hu) (aV rfl C (Ar Z) hr.m rfl (ak (ag 0) (ak (ag 2) au))) (ag 3) (bw _))))) (aC (aU cY)) bM)
  (aC (aU (m9 (xl (aV rfl C (J2 Z) hr.m rfl (ak (ag 0) (ak (ag 1) (ak (ag 2) au))))) (jW (aZ rfl LP PySem.F.slot_str_startswith PySem.F.type_str_startswith (FP) nz (ag 3) (ak (aV rfl C (Ar Z) hr.m rfl (ak (ag 0) (ak (ag 2) au))) au)))))))
theorem J4 {f:Addr} {fd:FuncData} (h4:Fun K "law" "law" lD f fd):FnOk P w K mg base (du P w) 102 f fd ["script"] (jv (bt K cls exc) sT):=gl (T:=bt K cls exc) h4 JE fun hr C hu nd =>
 (ay (aP (i:=1) nd (ET rfl C (JF Z) hr.m rfl))
  (ay (aP (i:=2) nd (aV rfl C (Aa Z) hr.m rfl (ak (aV rfl C (vD Z) hr.m rfl (ak (ag 0) (ak aE au))) (ak aE au))))
  (ay (aP (i:=3) nd (aV rfl C (An Z) hr.m rfl (ak (ag 1) (ak (aV rfl C (vD Z) hr.m rfl (ak (ag 0) (ak aE au))) (ak (ag 2) au)))))
  (ay (aP (i:=4) nd (aV rfl C (vD Z) hr.m rfl (ak (ag 0) (ak aE au))))
  (ay (ij rfl (nj (E:=EN) rfl Z.b_range aE) (gS (i:=5) nd) (ay (aP (i:=6) nd (aV rfl (C.nox) (JR Z) hr.m rfl (ak (ag 1) (ak (ag 2) (ak (ag 3) (ak (ag 4) au))))))
  (ay (aP (i:=7) nd (aV rfl (C.nox) (JS Z) hr.m rfl (ak (aV rfl (C.nox) (Aq Z) hr.m rfl (ak (ag 1) (ak (ag 3) (ak (ag 4) au)))) (ak (ag 4) au))))
  (ay (aP (i:=8) nd (dY (ak (aV rfl (C.nox) (JZ Z) hr.m rfl (ak (ag 7) (ak (bj (b_len rfl) rfl Z.b_len KW (ak (ag 6) au)) (ak (ag 4) au)))) au)))
  (ay (bN (aZ rfl Kl Kw Kx (dG) cD (ag 8) (ak (lS (jf:=[(1, "shelf"),(4, "stream")]) (jy (N:=["script", "shelf", "plain", "other", "stream", "turn", "texts", "items", "papers", "line", "paper", "text", "some"]) (sc:=aO lD) rfl (fun _=>rfl) (by decide +kernel)) rfl (gT (E:=EN) rfl (ag 6)) (fun _ _ _ _ _=>ju) (fun _ _ _ _ _=>(aV rfl (CA.never rfl) (Aq Z) hr.m rfl (ak (ag 1) (ak (ag 0) (ak (ag 2) au)))))) au)))
  (ay (bN (aZ rfl Kl Kw Kx (dG) cD (ag 8) (ak (lS (jf:=[(1, "shelf"),(4, "stream")]) (jy (N:=["script", "shelf", "plain", "other", "stream", "turn", "texts", "items", "papers", "line", "paper", "text", "some"]) (sc:=aO lD) rfl (fun _=>rfl) (by decide +kernel)) rfl (gT (E:=EN) rfl (aD rfl hu (ag 8) aE)) (fun _ _ _ _ _=>ju) (fun _ _ _ _ _=>(aV rfl (CA.never rfl) (J0 Z) hr.m rfl (ak (ag 1) (ak (ag 0) (ak (ag 2) au)))))) au)))
  (ay (aP (i:=9) nd (aZ rfl LP NL NM (xM rfl) nz cy (ak (lS (jf:=[(1, "shelf")]) (jy (N:=["script", "shelf", "plain", "other", "stream", "turn", "texts", "items", "papers", "line", "paper", "text", "some"]) (sc:=aO lD) rfl (fun _=>rfl) (by decide +kernel)) rfl (gT (E:=EN) rfl (ag 6)) (fun _ _ _ _ _=>ju) (fun _ _ _ _ _=>(aV rfl (CA.never rfl) (vF Z) hr.m rfl (ak (ag 1) (ak (ag 0) au))))) au)))
  (aC (ij rfl (gT (E:=EN) rfl (ag 8)) (gS (i:=10) nd) (ay (aG (gR (lQ (fA rfl (aV rfl ((C.nox).nox) (J1 Z) hr.m rfl (ak (ag 1) (ak (ag 6) (ak (ag 3) (ak (ag 10) au)))))) (m7 (bA (cJ rfl hu) (ag 9) (ag 2) (bw _))))) (aC (aU cY)) bM)
  (aC (Fy rfl (Fx (E:=EN) rfl rfl Z.b_zip (aX (cu rfl) (ag 6) (gu (ak (ag 3) au))) (aX (cu rfl) (ag 10) (gu (ak (ag 7) au)))) (EA rfl rfl (xp (i:=11) nd (xp (i:=12) nd Ez))) (aC (aG (jV (fA rfl (aV rfl (((C.nox).nox).nox) (J3 Z) hr.m rfl (ak (ag 1) (ak (ag 11) (ak (ag 12) (ak (aV rfl (((C.nox).nox).nox) (vF Z) hr.m rfl (ak (ag 1) (ak (ag 11) au))) au))))))) (aC (aU cY)) bM))))))))))))))
  (aC (aU (m5 Ff (aV rfl C (qx Z) hr.m rfl (ak (ag 1) (ak (ag 3) (ak (ag 7) au)))) cY (bw _)))))))))
end
end Sk
namespace Sk
open PySem PySem.Spec L2 Sm
abbrev FX (l:PySem.W.OpenLaw) (w:World) (K:PySem.W.Frag) (mg:Str->Option Value) (fa:Addr):Prop:=∃ fd:FuncData,(∀ (s:Shared) (v:Value),BindsTo s fd ⟨[v],[]⟩ [("script",v)])/\∀ base:Heap,K.In base->base.Ns mainGlobals mg->FnOk l.prog w K mg base (du l.prog w) 102 fa fd ["script"] (sH K)
theorem all_mk {l:PySem.W.OpenLaw} {w:World} {K:PySem.W.Frag} {h:Heap} {mg:Str->Option Value} {fa C0 X0 X1 X2 X3 X4 X5:Addr} {tk_LEAF_SIGNS tk_MOST_PLAIN tk_MOST_SIGNS:Tok} (X:K.In h) (G:h.Ns mainGlobals mg) (hfa:mg "law" = some (.ref fa))
  (aC0:NA K "Shelf" (some (.ref C0))) (a0:DN K C0 "__init__" "Shelf.__init__" uB) (a4:DN K C0 "has_piece" "Shelf.has_piece" uF) (a5:DN K C0 "check_piece" "Shelf.check_piece" uG) (a6:DN K C0 "check_fork" "Shelf.check_fork" uH) (a7:DN K C0 "lay" "Shelf.lay" uI) (a8:DN K C0 "lay_fork" "Shelf.lay_fork" uJ) (a9:DN K C0 "fork" "Shelf.fork" uK) (a15:DN K C0 "lay_leaf" "Shelf.lay_leaf" uP) (a16:DN K C0 "leaf" "Shelf.leaf" uQ) (a19:DN K C0 "check_text" "Shelf.check_text" uS) (a20:DN K C0 "signs" "Shelf.signs" uT) (a21:DN K C0 "last_leaf" "Shelf.last_leaf" uU) (a22:DN K C0 "first_leaf" "Shelf.first_leaf" uV) (a24:DN K C0 "piece" "Shelf.piece" uX) (a26:DN K C0 "height" "Shelf.height" uZ) (a36:DN K C0 "many" "Shelf.many" vg) (a1:DK K "_law_take" uC) (a2:DK K "_law_plain" uD) (a3:DK K "is_whole" uE) (a10:DK K "halved" uL) (a11:DK K "is_plain_sign" uM) (a12:DK K "is_plain" qm) (a13:DK K "is_short" uN) (a14:DK K "ends_in" uO) (a17:DK K "built" qo) (a18:DK K "check_length" uR) (a23:DK K "are_close" uW) (a25:DK K "with_last" uY) (a27:DK K "turned_left" u7) (a28:DK K "without_first" u9) (a29:DK K "turned_right" va) (a30:DK K "linked" vb) (a31:DK K "welded" vc) (a32:DK K "joined" vd) (a33:DK K "_law_made" ve) (a34:DK K "_law_mixed" vf) (a35:DK K "_law_stream" qp) (a37:DK K "_law_texts" vh) (a38:DK K "_law_poured" vi) (a39:DK K "whole_left" vj) (a40:DK K "opens_fork" vk) (a41:DK K "takes_piece" vm) (a42:DK K "next_signs" vn) (a43:DK K "puts_back" vo) (a44:DK K "takes_plain" vp) (a45:DK K "takes_item" vq) (a46:DK K "left_behind" vt) (a47:DK K "spells" vv) (a48:DK K "_law_spelled" qq) (a49:DK K "_law_cut_items" vw) (a50:DK K "_law_spoilt" vx) (a51:DK K "_law_read" vy) (a52:DK K "paper_stands" qr) (a53:DK K "_law_plain_of" qt) (a54:DK K "begins_text" vz) (a55:DK K "_law_single" vA) (a56:DK K "law" lD) (kk0:Cls K C0) (mk0:PySem.W.makesIn K C0=true) (kc0:PySem.W.keepIn K (.ref C0)=true) (nf0_0:FA K C0 "pieces") (nf0_1:FA K C0 "numbers") (nf0_2:FA K C0 "sign_counts") (nf0_3:FA K C0 "end_counts") (nf0_4:FA K C0 "leaf_counts") (nf0_5:FA K C0 "heights") (nf0_6:FA K C0 "first_leaves") (nf0_7:FA K C0 "last_leaves") (z_abs:NA K "abs" none) (z_all:NA K "all" none) (z_bool:NA K "bool" none) (z_int:NA K "int" none) (z_isinstance:NA K "isinstance" none) (z_len:NA K "len" none) (z_list:NA K "list" none) (z_max:NA K "max" none) (z_min:NA K "min" none) (z_range:NA K "range" none) (z_reversed:NA K "reversed" none) (z_str:NA K "str" none) (z_sum:NA K "sum" none) (z_zip:NA K "zip" none) (e_SkeinError:NA K "SkeinError" (some (.ref X0))) (e_NoText:NA K "NoText" (some (.ref X1))) (x_NoText:XI K X1) (e_NoPiece:NA K "NoPiece" (some (.ref X2))) (x_NoPiece:XI K X2) (e_Loose:NA K "Loose" (some (.ref X3))) (x_Loose:XI K X3) (e_Unlevel:NA K "Unlevel" (some (.ref X4))) (x_Unlevel:XI K X4) (e_TooLong:NA K "TooLong" (some (.ref X5))) (x_TooLong:XI K X5) (m_LEAF_SIGNS:NA K "LEAF_SIGNS" (some (.int 8 tk_LEAF_SIGNS))) (m_MOST_PLAIN:NA K "MOST_PLAIN" (some (.int 10000 tk_MOST_PLAIN))) (m_MOST_SIGNS:NA K "MOST_SIGNS" (some (.int 1000000000000000000 tk_MOST_SIGNS)))
  : FX l w K mg fa:=by
 have Z:∀ base:Heap,K.In base->kf l.prog w K (fun n=>[C0][n]?) (fun n=>[X0,X1,X2,X3,X4,X5][n]?) mg base:=fun base KB=>{
   b_abs:=Lb X G z_abs,
   b_all:=Lb X G z_all,
   b_bool:=Lb X G z_bool,
   b_int:=Lb X G z_int,
   b_isinstance:=Lb X G z_isinstance,
   b_len:=Lb X G z_len,
   b_list:=Lb X G z_list,
   b_max:=Lb X G z_max,
   b_min:=Lb X G z_min,
   b_range:=Lb X G z_range,
   b_reversed:=Lb X G z_reversed,
   b_str:=Lb X G z_str,
   b_sum:=Lb X G z_sum,
   b_zip:=Lb X G z_zip,
   c_LEAF_SIGNS:=⟨_,Mc X G m_LEAF_SIGNS⟩,
   c_MOST_PLAIN:=⟨_,Mc X G m_MOST_PLAIN⟩,
   c_MOST_SIGNS:=⟨_,Mc X G m_MOST_SIGNS⟩,
   cf_Shelf:=⟨C0,rfl,kk0,fun f hf=>by
   have hf2:f∈cq 0:=hf
   simp only [cq,KJ,List.not_mem_nil,or_false] at hf2
   rcases hf2 with rfl | rfl | rfl | rfl | rfl | rfl | rfl | rfl
   ·exact nf0_0
   ·exact nf0_1
   ·exact nf0_2
   ·exact nf0_3
   ·exact nf0_4
   ·exact nf0_5
   ·exact nf0_6
   ·exact nf0_7⟩,
   x_NoText:=gx KB X G rfl e_NoText x_NoText,
   x_NoPiece:=gx KB X G rfl e_NoPiece x_NoPiece,
   x_Loose:=gx KB X G rfl e_Loose x_Loose,
   x_Unlevel:=gx KB X G rfl e_Unlevel x_Unlevel,
   x_TooLong:=gx KB X G rfl e_TooLong x_TooLong,
   d_Shelf_init:=di rfl (Mc X G aC0) mk0 kc0 a0 iU,
   d_law_take:=dg X G a1 dC,
   d_law_plain:=dg X G a2 dC,
   d_is_whole:=dg X G a3 iU,
   d_Shelf_has_piece:=dm rfl kk0 a4 dC,
   d_Shelf_check_piece:=dm rfl kk0 a5 dC,
   d_Shelf_check_fork:=dm rfl kk0 a6 eD,
   d_Shelf_lay:=dm rfl kk0 a7 dC,
   d_Shelf_lay_fork:=dm rfl kk0 a8 dC,
   d_Shelf_fork:=dm rfl kk0 a9 eD,
   d_halved:=dg X G a10 dC,
   d_is_plain_sign:=dg X G a11 iU,
   d_is_plain:=dg X G a12 iU,
   d_is_short:=dg X G a13 iU,
   d_ends_in:=dg X G a14 iU,
   d_Shelf_lay_leaf:=dm rfl kk0 a15 dC,
   d_Shelf_leaf:=dm rfl kk0 a16 dC,
   d_built:=dg X G a17 dC,
   d_check_length:=dg X G a18 iU,
   d_Shelf_check_text:=dm rfl kk0 a19 dC,
   d_Shelf_signs:=dm rfl kk0 a20 dC,
   d_Shelf_last_leaf:=dm rfl kk0 a21 dC,
   d_Shelf_first_leaf:=dm rfl kk0 a22 dC,
   d_are_close:=dg X G a23 eD,
   d_Shelf_piece:=dm rfl kk0 a24 dC,
   d_with_last:=dg X G a25 eD,
   d_Shelf_height:=dm rfl kk0 a26 dC,
   d_turned_left:=dg X G a27 eD,
   d_without_first:=dg X G a28 dC,
   d_turned_right:=dg X G a29 eD,
   d_linked:=dg X G a30 eD,
   d_welded:=dg X G a31 eD,
   d_joined:=dg X G a32 eD,
   d_law_made:=dg X G a33 eD,
   d_law_mixed:=dg X G a34 dC,
   d_law_stream:=dg X G a35 dC,
   d_Shelf_many:=dm rfl kk0 a36 iU,
   d_law_texts:=dg X G a37 sP,
   d_law_poured:=dg X G a38 dC,
   d_whole_left:=dg X G a39 dC,
   d_opens_fork:=dg X G a40 eD,
   d_takes_piece:=dg X G a41 eD,
   d_next_signs:=dg X G a42 dC,
   d_puts_back:=dg X G a43 dC,
   d_takes_plain:=dg X G a44 eD,
   d_takes_item:=dg X G a45 eD,
   d_left_behind:=dg X G a46 eD,
   d_spells:=dg X G a47 eD,
   d_law_spelled:=dg X G a48 eD,
   d_law_cut_items:=dg X G a49 eD,
   d_law_spoilt:=dg X G a50 eD,
   d_law_read:=dg X G a51 dC,
   d_paper_stands:=dg X G a52 sP,
   d_law_plain_of:=dg X G a53 dC,
   d_begins_text:=dg X G a54 eD,
   d_law_single:=dg X G a55 sP,
   d_law:=dg X G a56 iU }
 obtain ⟨fd,h1,F⟩:=sQ (p := "script") X G hfa a56 iU
 exact ⟨fd,h1,fun base KB _=>FnOk.imp (J4 (Z base KB) F) (Fc (T:=bt K (fun n=>[C0][n]?) (fun n=>[X0,X1,X2,X3,X4,X5][n]?)) law_true)⟩
theorem walk {l:PySem.W.OpenLaw} {q:Program} {loose:List Str} {XP:(Str->Option Value)->Heap->Prop} {YP:World->Heap->Prop} {d:DefRec} {K:Params->PySem.W.Frag} (hn:l.most=some 63) (hdf:d.params.defaults=[])
  (hY:∀ (w:World) (h:Heap),YP w h->(K w.params).In h)
  (F:∀ (w:World) (mg:Str->Option Value) (fa:Addr) (h:Heap),(K w.params).In h->h.Ns mainGlobals mg->mg d.name=some (.ref fa)->FX l w (K w.params) mg fa) :
  PySem.W.WalkO q loose XP YP l.row.toRowW d [] (fun f vs=>PySem.call f vs) :=
 L2.walk_of (n:=63) (k:=102) (x := "script") (CX:=fun w=>du l.prog w) (sp:=fun w=>sH (K w.params)) hn (by decide) hdf ⟨rfl,by decide,by decide⟩ hY F (fun _ _ a ns hl _ hS=>⟨a,ns,rfl,hS,hl,fun _=>rfl⟩) fun _ _ _ _ _ z=>Fd z
end Sk
open PySem PySem.W PyProof.Rows
section
namespace PySem.W.Fast
def tw17570709044258244846:=0
def tw16317976342640605867:=0
def tw6232350535024864255:=0
def tw866221731619560319:=0
def tw10174178400577911519:=0
def tw1647783191733319359:=0
def tw1875655616764553887:=0
def tw1626657037015789151:=0
def tw5551065783690006111:=0
def tw9121174208974174719:=0
def tw8956608746322538975:=0
def tw13198707533620489567:=0
def tw387920995106163935:=0
def tw8632392372351973535:=0
def tw4545829561327284351:=0
def tw3678148265677014143:=0
def tw257746530655377503:=0
def tw18152637918644596831:=0
def tw3326866334523965438:=0
def tw14166383168737905566:=0
def tw2128439497417548702:=0
def tw6135347753182751614:=0
def tw5333090935004180318:=0
def tw18433147831084253886:=0
def tw8738195657861374366:=0
def tw2505495141320983806:=0
def tw18005095408198768830:=0
def tw10632357191872405694:=0
def tw1773739537089724542:=0
def tw1920659894734733438:=0
def tw7285451738031772734:=0
def tw12672986736036963197:=0
def tw4707263787155434333:=0
def tw13106398221233379133:=0
def tw6759201540257363581:=0
def tw4415008510680206941:=0
def tw2971738042877072893:=0
def tw572776898450755997:=0
def tw7330551533829939613:=0
def tw4716296718578495741:=0
def tw2150095795904804957:=0
def tw3690193130205516893:=0
def tw5757926805466078204:=0
def tw2373915159705852828:=0
def tw13146651838088730524:=0
def tw8349307520375079804:=0
def tw7071027619568238460:=0
def tw15058548953743248124:=0
def tw15411036333503585020:=0
def tw4494736421719236220:=0
def tw2338272626745826940:=0
def tw7139671836023960156:=0
def tw12109494970304570940:=0
def tw5394112657204485596:=0
def tw10959746262805086652:=0
def tw573258037841754492:=0
def tw13969171014093791516:=0
def tw9721950154393137372:=0
def tw10468855365841658972:=0
def tw13418236052072501340:=0
def tw319478429513069628:=0
def tw9277126579728253915:=0
def tw9621436280817448763:=0
def tw8325277389271909179:=0
def tw2062553699550148379:=0
def tw12368254605678253851:=0
def tw12369094078670092059:=0
def tw8598777585939978971:=0
def tw13555157011845103259:=0
def tw13748268769235774075:=0
def tw13765125092164509243:=0
def tw16506177869759767067:=0
def tw7278373317232325147:=0
def tw7465689700659255771:=0
def tw10902358726745116123:=0
def tw2588740697286968731:=0
def tw17126618392934179099:=0
def tw3149770369843476763:=0
def tw13708704007871420603:=0
def tw16026228234730067067:=0
def tw2323904586704977979:=0
def tw2752281780343955483:=0
def tw18146490454089133050:=0
def tw15403280309255220218:=0
def tw34066486279367578:=0
def tw17994195129447678842:=0
def tw14782589552023268058:=0
def tw11129827049862900442:=0
def tw3220762896968192634:=0
def tw1087568658785956378:=0
def tw15930740208759951866:=0
def tw15268218476163464634:=0
def tw5008195605235956122:=0
def tw777407860313947514:=0
def tw2295671655990303034:=0
def tw10279789469352429818:=0
def tw10788045278633620698:=0
def tw14247300109419147450:=0
def tw4355255339823798458:=0
def tw3181670433870814298:=0
def tw7845767772878900250:=0
def tw15137311241274227705:=0
def tw10541307077375797017:=0
def tw12195985315836996313:=0
def tw3295621609374582489:=0
def tw18044435391098389145:=0
def tw8886569907579818617:=0
def tw15462848335833799289:=0
def tw11969923064562647673:=0
def tw7481943765575752281:=0
def tw18296426283023766105:=0
def tw3761262504266949177:=0
def tw15734380931039168057:=0
def tw3388040629779317177:=0
def tw3344971483319051673:=0
def tw10785838453445450137:=0
def tw1689357955382149465:=0
def tw10708130000018733177:=0
def tw5995255766776849400:=0
def tw1060585704861157336:=0
def tw7109822143571806136:=0
def tw13612900843271266200:=0
def tw7008503327671276312:=0
def tw6273976435016749496:=0
def tw9682810343244915128:=0
def tw7237526124905435544:=0
def tw7199366705970868536:=0
def tw14735761505008141432:=0
def tw13938662583280095256:=0
def tw16319117666036037623:=0
def tw8070183165076420567:=0
def tw2925080546393370359:=0
def tw14181109081207141111:=0
def tw16792422061963695831:=0
def tw9153138051422655127:=0
def tw9274857522288936503:=0
def tw2612263428245157207:=0
def tw18164137573761412407:=0
def tw14202649776961594679:=0
def tw5858718364194380055:=0
def tw17997149127143876823:=0
def tw4702782548496956631:=0
def tw10371892453482477783:=0
def tw16071730160877761719:=0
def tw11557342898627591255:=0
def tw15422504228825340662:=0
def tw17250155718243773142:=0
def tw18187261266090903222:=0
def tw12115503982694081174:=0
def tw11096949876620626582:=0
def tw5440363884256694902:=0
def tw1662063267808507414:=0
def tw12959551643860565366:=0
def tw17471245226491444502:=0
def tw6205935930735378550:=0
def tw2787069577012409462:=0
def tw10252284965856304182:=0
def tw71370715764679669:=0
def tw15325097269080230901:=0
def tw14276905041980483285:=0
def tw13343755882357547733:=0
def tw13204814965453137621:=0
def tw10858539034044554901:=0
def tw3696222634694480501:=0
def tw9641486997414995573:=0
def tw15516758133896685173:=0
def tw9858919854376519221:=0
def tw4203868191045441013:=0
def tw6250831909655461365:=0
def tw10341455973048417749:=0
def tw5230078133838944693:=0
def tw10611554823742644597:=0
def tw10048262568074347893:=0
def tw3928370180009494869:=0
def tw6821227192541031637:=0
def tw4533272485798671477:=0
def tw17164031913322748852:=0
def tw11021193294490452852:=0
def tw18054162404992674644:=0
def tw14950138861080899348:=0
def tw9955748939172758196:=0
def tw14995565157930962580:=0
def tw2047072287920372340:=0
def tw6927491732319283764:=0
def tw8208045603395962324:=0
def tw9103132729740142004:=0
def tw3627539559697597844:=0
def tw9517568761012530516:=0
def tw3270606324896016500:=0
def tw12071368649501612052:=0
def tw9234683391418231731:=0
def tw10042618214093551347:=0
def tw9303063890336464595:=0
def tw2203344387668652595:=0
def tw10577143212192117267:=0
def tw14728467405242699283:=0
def tw6839963122256923091:=0
def tw17218907710589747571:=0
def tw15779385984448587091:=0
def tw8354667142246696243:=0
def tw15985693989578194195:=0
def tw817681623630892243:=0
def tw11426004473645400243:=0
def tw3698536503722881171:=0
def tw15904892939175650355:=0
def tw8740676479127869426:=0
def tw11112975337175518194:=0
def tw14983218537278094290:=0
def tw4776906915462475666:=0
def tw11415454362477350802:=0
def tw18302431995696776082:=0
def tw3803837584853474130:=0
def tw10203233299813173074:=0
def tw14327685731676096338:=0
def tw6128283492111303474:=0
def tw16735212557037498130:=0
def tw14517237650650385106:=0
def tw12646250881840693970:=0
def tw3728835359659857618:=0
def tw10848923048883515058:=0
def tw16871066083580701362:=0
def tw7862605863380775442:=0
def tw14397144547594832370:=0
def tw6403799933452561874:=0
def tw445084708662976882:=0
def tw14675918785273484466:=0
def tw15731184438026722418:=0
def tw15839552119804556402:=0
def tw17224779686192682002:=0
def tw12440745667418898417:=0
def tw9030028547581851633:=0
def tw1846227249939301329:=0
def tw12343622541985280913:=0
def tw8074478087213118321:=0
def tw408954728434597713:=0
def tw1989939963074316113:=0
def tw15440788175803346705:=0
def tw9047951168873583377:=0
def tw8484830487858730737:=0
def tw8156787393943286481:=0
def tw12734481098765245905:=0
def tw7081833152888531377:=0
def tw5910373315215021457:=0
def tw4427321632398575953:=0
def tw11167017838172166449:=0
def tw10738978727099867345:=0
def tw17503701506206490801:=0
def tw4382193404143592561:=0
def tw7644296285906348049:=0
def tw5127232611681558448:=0
def tw15715264385566483376:=0
def tw14483147750512868208:=0
def tw16601717396333901680:=0
def tw262911475049580368:=0
def tw2856265515233286960:=0
def tw6400266923244539664:=0
def tw14904115678704281296:=0
def tw8249608602469298832:=0
def tw9147814319032381008:=0
def tw6571877084155115056:=0
def tw17510780743654289936:=0
def tw18103040816838474224:=0
def tw15944200246817722800:=0
def tw12766701916723352976:=0
def tw4132409015151093072:=0
def tw10177354565013863664:=0
def tw3544272455588319408:=0
def tw10294820544507240560:=0
def tw17582552340812011568:=0
def tw18214715943231763472:=0
def tw5318861142523057103:=0
def tw14523393018993693583:=0
def tw11283995959253115695:=0
def tw981715467512848111:=0
def tw15426198701107871439:=0
def tw9985864347962666639:=0
def tw1593206927967094351:=0
def tw7184140845825487407:=0
def tw9296137732160113135:=0
def tw5600589371674936815:=0
def tw8653190629010556367:=0
def tw15206389554027664783:=0
def tw14800738944777206991:=0
def tw5333332579195905199:=0
def tw4045837552892723343:=0
def tw3672589585559199726:=0
def tw691961339433223118:=0
def tw16114747791149072302:=0
def tw764661481612563342:=0
def tw17056041852260952974:=0
def tw9618080225695419150:=0
def tw11790064392857735950:=0
def tw8821329153885363790:=0
def tw6818669473688632910:=0
def tw2332587611736453646:=0
def tw920851070291598830:=0
def tw2020883266472040942:=0
def tw9054601644406621550:=0
def tw347448119585048750:=0
def tw8671267110318509005:=0
def tw4171257503487113165:=0
def tw6453840715231065005:=0
def tw3745838560356252557:=0
def tw17835306869243344717:=0
def tw15226702049212051181:=0
def tw896200188850636525:=0
def tw2184327072806545101:=0
def tw14818610983937645229:=0
def tw5608542675145966221:=0
def tw15828941811657298509:=0
def tw3733362262050862605:=0
def tw8693482784395811341:=0
def tw10744685217180418573:=0
def tw12437429875461346797:=0
def tw7163032331606505933:=0
def tw17195103178013096301:=0
def tw4470450550146869517:=0
def tw12498042357170200717:=0
def tw15609215640016273356:=0
def tw16766504148031759148:=0
def tw17428413228395855628:=0
def tw801951077599593100:=0
def tw12229769433437935180:=0
def tw2583563949057382956:=0
def tw10601093004135499276:=0
def tw16912573305334537740:=0
def tw3899053531376749068:=0
def tw14813860592121791948:=0
def tw8538149725249894828:=0
def tw2254042348275809708:=0
def tw2028092785998415244:=0
def tw8224555830903824716:=0
def tw9246372562380969228:=0
def tw5975141301714730188:=0
def tw14759903425115580556:=0
def tw13796922586497185868:=0
def tw6274662510883488844:=0
def tw14542257604084672395:=0
def tw1557132316949475147:=0
def tw466617875839925035:=0
def tw14197755388262582027:=0
def tw8425262250750592747:=0
def tw4558075338003969707:=0
def tw685080863053009547:=0
def tw18396445109440633451:=0
def tw14715021816813216363:=0
def tw9923433034324732491:=0
def tw15162943563707071947:=0
def tw14334475106397705675:=0
def tw8760293659118720395:=0
def tw9780638963115046187:=0
def tw12871527433984313451:=0
def tw10742829998535085131:=0
def tw14079042389407172619:=0
def tw3700783995337670667:=0
def tw9702508546683285386:=0
def tw12323296489291524906:=0
def tw10629388094451562250:=0
def tw13176986778987793162:=0
def tw3595956434319908586:=0
def tw1078071165418280650:=0
def tw342844480220188298:=0
def tw9429260231652962762:=0
def tw5373208145731938730:=0
def tw16347580171741427978:=0
def tw5838479030403655914:=0
def tw5536901624815774858:=0
def tw9086826714705882186:=0
def tw9011577636159073290:=0
def tw10063033001397631977:=0
def tw3427319792392082377:=0
def tw9617717441510665065:=0
def tw15794539872899869257:=0
def tw1059496096871796233:=0
def tw8846406703815696905:=0
def tw15664232988041901545:=0
def tw16207413087006627273:=0
def tw3727136001911205289:=0
def tw5424288210931568873:=0
def tw13284635131435952265:=0
def tw14810830216176376969:=0
def tw14702748612387337257:=0
def tw10998873207861703656:=0
def tw8389846735485951944:=0
def tw11077346480277341032:=0
def tw723822224152633128:=0
def tw12546844260911090440:=0
def tw12012282842492326632:=0
def tw5183463964598043208:=0
def tw5170094670019557960:=0
def tw17476026320663337352:=0
def tw5348950208057967944:=0
def tw1757567182786734280:=0
def tw100290267364611208:=0
def tw12335774597406204040:=0
def tw14460016133798234087:=0
def tw9939656979002021831:=0
def tw2910526625019129799:=0
def tw5420066780472624007:=0
def tw14977333688811959175:=0
def tw2320950029747524487:=0
def tw3641147920466077447:=0
def tw14445500611640430279:=0
def tw9381903068246142567:=0
def tw925885963656072807:=0
def tw1657517556290694727:=0
def tw11063386587938561575:=0
def tw8197471257174433287:=0
def tw14088749133740023271:=0
def tw8398394394115755303:=0
def tw3338274826428838119:=0
def tw14249713236933364967:=0
def tw13874607550058402023:=0
def tw2160454779381546183:=0
def tw1602910489802002599:=0
def tw10934172413371916391:=0
def tw12708220644811256935:=0
def tw14351961838844412999:=0
def tw7273843659365973990:=0
def tw3177088982877941734:=0
def tw3998173462260722662:=0
def tw1290204444222764966:=0
def tw1863119354329062278:=0
def tw12488746679909837670:=0
def tw2992127158827748198:=0
def tw7852098610653947654:=0
def tw18148145047970619078:=0
def tw12866142242152628934:=0
def tw9703227320189675142:=0
def tw2976980717758601830:=0
def tw9111430744946758182:=0
def tw4882214766161852838:=0
def tw10709232235344092582:=0
def tw12184904996671170918:=0
def tw1427795067231898982:=0
def tw17472831562738557190:=0
def tw577977083484529894:=0
def tw7378320399487161542:=0
def tw15096025251464736902:=0
def tw13764940401449906278:=0
def tw500809265836738437:=0
def tw60584967411221381:=0
def tw16244460321829269349:=0
def tw7634244006380210981:=0
def tw1777445198152393381:=0
def tw8146321002574026309:=0
def tw14383355668416406085:=0
def tw7752506337753297413:=0
def tw9437910496090466725:=0
def tw4879214203565104517:=0
def tw689157301177273669:=0
def tw14747309069280601349:=0
def tw12740557028794589317:=0
def tw13845237893481181317:=0
def tw13895895088012131397:=0
def tw3069658765701570629:=0
def tw10572450103750978597:=0
def tw12052760932542486565:=0
def tw7331087751413599237:=0
def tw8754802388919280612:=0
def tw7490108203577583556:=0
def tw1086638908078012196:=0
def tw899298989737557796:=0
def tw10638413075673824932:=0
def tw1235902392922772100:=0
def tw16707978794325918276:=0
def tw7078944700196085220:=0
def tw6348395079069221348:=0
def tw12214919050144871876:=0
def tw14129431270535086436:=0
def tw12254370032074508580:=0
def tw17807210201415786788:=0
def tw724064893905120516:=0
def tw8847324291908349124:=0
def tw8802700500029173924:=0
def tw17001340713167528100:=0
def tw16393114317404500899:=0
def tw14009601753701629859:=0
def tw4017518691860897667:=0
def tw3316588912133794659:=0
def tw13440079613337603875:=0
def tw6080757100798176003:=0
def tw17730695290766477027:=0
def tw1113150306303375075:=0
def tw17837022709839335043:=0
def tw10660840442076629635:=0
def tw14608557112192976387:=0
def tw18390219178294241763:=0
def tw7392713622410805699:=0
def tw10913948740211787011:=0
def tw14773202288655711491:=0
def tw15716869380573493379:=0
def tw10478654264112283779:=0
def tw1641249683321682979:=0
def tw2091601327926945762:=0
def tw5075042281097242562:=0
def tw9608883065507886978:=0
def tw12463590109727192866:=0
def tw15142430112087048930:=0
def tw10552963894372923074:=0
def tw5876013053483501250:=0
def tw15486011936624154146:=0
def tw7432864438052802082:=0
def tw7854462666390172130:=0
def tw10056537350383688130:=0
def tw11734788521029940674:=0
def tw7742921108784526786:=0
def tw6524143007730655458:=0
def tw4761373459047282818:=0
def tw564111449840011169:=0
def tw3738135466158887809:=0
def tw8067248467159619393:=0
def tw12230858604442243873:=0
def tw17693713574819636993:=0
def tw15295280494840174273:=0
def tw16980433752257165921:=0
def tw17937146145980002881:=0
def tw15289856838892998209:=0
def tw10609669873461838401:=0
def tw1419786978576111137:=0
def tw4830868532832815585:=0
def tw10664270404469710241:=0
def tw570946168647970081:=0
def tw13071499654058002689:=0
def tw9556832816254896385:=0
def tw5437386473274135649:=0
def tw9149849781745821729:=0
def tw10485338258971818976:=0
def tw17088615056554923904:=0
def tw2059069718963799840:=0
def tw5021368643137346336:=0
def tw15560274031127116416:=0
def tw1123294757325610592:=0
def tw11730630079464901088:=0
def tw6032513354279148928:=0
def tw14456672843328591200:=0
def tw9376160970626931968:=0
def tw6566145078544423072:=0
def tw1847955174750075968:=0
def tw3398668182506387456:=0
def tw12844180722708458496:=0
def tw809410836072963072:=0
end PySem.W.Fast
end
set_option maxRecDepth 100000 in
set_option maxHeartbeats 0 in
theorem PySem.Challenge.cw_skeinwood_k60_whole_what_stands_reads_so_holds : PySem.Challenge.rw_skeinwood_k60_whole_what_stands_reads_so.Holds := by
 w_on; o_law; k_head; (case hw => w_witness2)
 k_fill
 refine Sk.walk (l := PySem.Challenge.rw_skeinwood_k60_whole_what_stands_reads_so) rfl rfl (fun w h Y => PySem.W.kIn_of Y) ?F
 case F =>
  intro w mg fa h KX G hmg
  refine' Sk.all_mk KX G hmg ?aC0 ?a0 ?a4 ?a5 ?a6 ?a7 ?a8 ?a9 ?a15 ?a16 ?a19 ?a20 ?a21 ?a22 ?a24 ?a26 ?a36 ?a1 ?a2 ?a3 ?a10 ?a11 ?a12 ?a13 ?a14 ?a17 ?a18 ?a23 ?a25 ?a27 ?a28 ?a29 ?a30 ?a31 ?a32 ?a33 ?a34 ?a35 ?a37 ?a38 ?a39 ?a40 ?a41 ?a42 ?a43 ?a44 ?a45 ?a46 ?a47 ?a48 ?a49 ?a50 ?a51 ?a52 ?a53 ?a54 ?a55 ?a56 ?kk0 ?mk0 ?kc0 ?nf0_0 ?nf0_1 ?nf0_2 ?nf0_3 ?nf0_4 ?nf0_5 ?nf0_6 ?nf0_7 ?z_abs ?z_all ?z_bool ?z_int ?z_isinstance ?z_len ?z_list ?z_max ?z_min ?z_range ?z_reversed ?z_str ?z_sum ?z_zip ?e_SkeinError ?e_NoText ?x_NoText ?e_NoPiece ?x_NoPiece ?e_Loose ?x_Loose ?e_Unlevel ?x_Unlevel ?e_TooLong ?x_TooLong ?m_LEAF_SIGNS ?m_MOST_PLAIN ?m_MOST_SIGNS
  (case aC0 => apply Sm.na;k_is)
  (case a0 => apply Sm.dn<;>k_is)
  (case a4 => apply Sm.dn<;>k_is)
  (case a5 => apply Sm.dn<;>k_is)
  (case a6 => apply Sm.dn<;>k_is)
  (case a7 => apply Sm.dn<;>k_is)
  (case a8 => apply Sm.dn<;>k_is)
  (case a9 => apply Sm.dn<;>k_is)
  (case a15 => apply Sm.dn<;>k_is)
  (case a16 => apply Sm.dn<;>k_is)
  (case a19 => apply Sm.dn<;>k_is)
  (case a20 => apply Sm.dn<;>k_is)
  (case a21 => apply Sm.dn<;>k_is)
  (case a22 => apply Sm.dn<;>k_is)
  (case a24 => apply Sm.dn<;>k_is)
  (case a26 => apply Sm.dn<;>k_is)
  (case a36 => apply Sm.dn<;>k_is)
  (case a1 => apply Sm.dk<;>k_is)
  (case a2 => apply Sm.dk<;>k_is)
  (case a3 => apply Sm.dk<;>k_is)
  (case a10 => apply Sm.dk<;>k_is)
  (case a11 => apply Sm.dk<;>k_is)
  (case a12 => apply Sm.dk<;>k_is)
  (case a13 => apply Sm.dk<;>k_is)
  (case a14 => apply Sm.dk<;>k_is)
  (case a17 => apply Sm.dk<;>k_is)
  (case a18 => apply Sm.dk<;>k_is)
  (case a23 => apply Sm.dk<;>k_is)
  (case a25 => apply Sm.dk<;>k_is)
  (case a27 => apply Sm.dk<;>k_is)
  (case a28 => apply Sm.dk<;>k_is)
  (case a29 => apply Sm.dk<;>k_is)
  (case a30 => apply Sm.dk<;>k_is)
  (case a31 => apply Sm.dk<;>k_is)
  (case a32 => apply Sm.dk<;>k_is)
  (case a33 => apply Sm.dk<;>k_is)
  (case a34 => apply Sm.dk<;>k_is)
  (case a35 => apply Sm.dk<;>k_is)
  (case a37 => apply Sm.dk<;>k_is)
  (case a38 => apply Sm.dk<;>k_is)
  (case a39 => apply Sm.dk<;>k_is)
  (case a40 => apply Sm.dk<;>k_is)
  (case a41 => apply Sm.dk<;>k_is)
  (case a42 => apply Sm.dk<;>k_is)
  (case a43 => apply Sm.dk<;>k_is)
  (case a44 => apply Sm.dk<;>k_is)
  (case a45 => apply Sm.dk<;>k_is)
  (case a46 => apply Sm.dk<;>k_is)
  (case a47 => apply Sm.dk<;>k_is)
  (case a48 => apply Sm.dk<;>k_is)
  (case a49 => apply Sm.dk<;>k_is)
  (case a50 => apply Sm.dk<;>k_is)
  (case a51 => apply Sm.dk<;>k_is)
  (case a52 => apply Sm.dk<;>k_is)
  (case a53 => apply Sm.dk<;>k_is)
  (case a54 => apply Sm.dk<;>k_is)
  (case a55 => apply Sm.dk<;>k_is)
  (case a56 => apply Sm.dk<;>k_is)
  (case kk0 => constructor<;>k_is)
  (case mk0 => k_is)
  (case kc0 => k_is)
  (case nf0_0 => apply Sm.fatt;k_is)
  (case nf0_1 => apply Sm.fatt;k_is)
  (case nf0_2 => apply Sm.fatt;k_is)
  (case nf0_3 => apply Sm.fatt;k_is)
  (case nf0_4 => apply Sm.fatt;k_is)
  (case nf0_5 => apply Sm.fatt;k_is)
  (case nf0_6 => apply Sm.fatt;k_is)
  (case nf0_7 => apply Sm.fatt;k_is)
  (case z_abs => apply Sm.na;k_is)
  (case z_all => apply Sm.na;k_is)
  (case z_bool => apply Sm.na;k_is)
  (case z_int => apply Sm.na;k_is)
  (case z_isinstance => apply Sm.na;k_is)
  (case z_len => apply Sm.na;k_is)
  (case z_list => apply Sm.na;k_is)
  (case z_max => apply Sm.na;k_is)
  (case z_min => apply Sm.na;k_is)
  (case z_range => apply Sm.na;k_is)
  (case z_reversed => apply Sm.na;k_is)
  (case z_str => apply Sm.na;k_is)
  (case z_sum => apply Sm.na;k_is)
  (case z_zip => apply Sm.na;k_is)
  (case e_SkeinError => apply Sm.na;k_is)
  (case e_NoText => apply Sm.na;k_is)
  (case x_NoText => apply Sm.xi;k_exc)
  (case e_NoPiece => apply Sm.na;k_is)
  (case x_NoPiece => apply Sm.xi;k_exc)
  (case e_Loose => apply Sm.na;k_is)
  (case x_Loose => apply Sm.xi;k_exc)
  (case e_Unlevel => apply Sm.na;k_is)
  (case x_Unlevel => apply Sm.xi;k_exc)
  (case e_TooLong => apply Sm.na;k_is)
  (case x_TooLong => apply Sm.xi;k_exc)
  (case m_LEAF_SIGNS => apply Sm.na;k_is)
  (case m_MOST_PLAIN => apply Sm.na;k_is)
  (case m_MOST_SIGNS => apply Sm.na;k_is)
