import PyProof.Rows.All
import Wide.All
import OpenK.AllK
import Wide.FinOn
import Lean
import PyProof.EqAt
import PyProof.EqKinds
import PyProof.TupleCall
import PyProof.StrCalls2
import PyProof.SumAny
import PyProof.Rows.Range3
import PyProof.StrBlockI
import PyProof.SliceStr2
import PyProof.IsRules
import PyProof.StrBlock2
import KE.KRevIter
import PyProof.StrBlock
import KE.KDictSum
import PyProof.SetRoads
import PyProof.Rows.SetFrom
import PyProof.Rows.SortIns
import PyProof.Tail
import PyProof.DictWalks
import PyProof.StrLawsIn
import PySem.Challenge.RW_skeinwood_k76_sweeping_refused
set_option Elab.async false
set_option genSizeOf false
set_option bootstrap.genMatcherCode false
set_option compiler.extract_closed false
set_option compiler.postponeCompile true
set_option linter.all false
set_option maxRecDepth 100000
local macro_rules|`(def$n:declId$s:optDeclSig$v:declVal)=>`(noncomputable def$n:declId$s:optDeclSig$v:declVal)
local macro_rules|`(abbrev$n:declId$s:optDeclSig$v:declVal)=>`(noncomputable abbrev$n:declId$s:optDeclSig$v:declVal)
local macro_rules|`(@[simp]def$n:declId$s:optDeclSig$v:declVal)=>`(@[simp]noncomputable def$n:declId$s:optDeclSig$v:declVal)
noncomputable section
namespace L2
open PySem PySem.Spec PyProof.Rows
abbrev aF:=Sum Int Str
def jh:aF->Value->Bool
 | .inl k,v=>Value.isInt k v
 | .inr x,v=>Value.isStrOf x v
def kD (w:World):aF->Int
 | .inl k=>hashInt k
 | .inr x=>hashStr w x
theorem gK:∀ {k:aF} {v:Value},jh k v=true->(∃ i t,k=Sum.inl i/\v=Value.int i t)\/(∃ x t,k=Sum.inr x/\v=Value.str x t)
 | .inl i,v,h=>by
  obtain ⟨t,e⟩:=Value.isInt_shape (k:=i) (v:=v) h
  exact .inl ⟨i,t,rfl,e⟩
 | .inr x,v,h=>by
  obtain ⟨t,e⟩:=Value.isStrOf_shape (x:=x) (v:=v) h
  exact .inr ⟨x,t,rfl,e⟩
theorem yY (i:Int) (t:Tok):jh (.inl i) (.int i t)=true:=by simp [jh,Value.isInt]
theorem yZ (x:Str) (t:Tok):jh (.inr x) (.str x t)=true:=by simp [jh,Value.isStrOf]
theorem mE (a b:Int):decide ((Sum.inl a:aF)=Sum.inl b)=(a == b):=by
 by_cases e:a=b
 ·subst e;simp
 ·have h : ¬ (Sum.inl a:aF)=Sum.inl b:=λq=>e (Sum.inl.inj q)
  rw [decide_eq_false h]
  exact (beq_eq_false_iff_ne.mpr e).symm
theorem uG (a b:Str):decide ((Sum.inr a:aF)=Sum.inr b)=decide (a=b):=by
 by_cases e:a=b
 ·subst e;simp
 ·have h : ¬ (Sum.inr a:aF)=Sum.inr b:=λq=>e (Sum.inr.inj q)
  rw [decide_eq_false h,decide_eq_false e]
theorem pf (a:Int) (b:Str):decide ((Sum.inl a:aF)=Sum.inr b)=false:=decide_eq_false (λq=>nomatch q)
theorem ph (a:Str) (b:Int):decide ((Sum.inr a:aF)=Sum.inl b)=false:=decide_eq_false (λq=>nomatch q)
def fB (prog:Program) (w:World):PySem.KeyKind prog w aF where
 is:=jh
 hash:=kD w
 inj:=λv a b ha hb=>by
  rcases gK ha with ⟨i,t,rfl,rfl⟩ | ⟨x,t,rfl,rfl⟩
  ·rcases gK hb with ⟨j,u,rfl,e⟩ | ⟨y,u,rfl,e⟩
   ·injection e with e1 _;rw [e1]
   ·exact nomatch e
  ·rcases gK hb with ⟨j,u,rfl,e⟩ | ⟨y,u,rfl,e⟩
   ·exact nomatch e
   ·injection e with e1 _;rw [e1]
 byValue:=λk v h=>by
  rcases gK h with ⟨i,t,rfl,rfl⟩ | ⟨x,t,rfl,rfl⟩<;>rfl
 pyHash:=λhv h=>by
  rcases gK hv with ⟨i,t,rfl,rfl⟩ | ⟨x,t,rfl,rfl⟩
  ·exact wpAny_pyHash_int h
  ·exact wpAny_pyHash_str h
 eqBool:=λhu hv h=>by
  rcases gK hu with ⟨i,t,rfl,rfl⟩ | ⟨x,t,rfl,rfl⟩
  ·rcases gK hv with ⟨j,u,rfl,rfl⟩ | ⟨y,u,rfl,rfl⟩
   ·rw [mE] at h;exact wpAny_eqBool_int h
   ·rw [pf] at h;exact SeqAt.EqAt.int_str i t y u _ _ _ _ h
  ·rcases gK hv with ⟨j,u,rfl,rfl⟩ | ⟨y,u,rfl,rfl⟩
   ·rw [ph] at h;exact SeqAt.EqAt.str_int x t j u _ _ _ _ h
   ·rw [uG] at h;exact wpAny_eqBool_str h
 «strs» := λk x t v h=>by
  rcases gK h with ⟨i,u,rfl,e⟩ | ⟨y,u,rfl,e⟩
  ·exact nomatch e
  ·injection e with e1 _
   subst e1
   cases v<;>rfl
abbrev ji (b:Bool):Int:=if b then 1 else 0
def jl:aF->Value->Bool
 | .inl k,.bool b=>decide (k=ji b)
 | .inl k,v=>Value.isInt k v
 | .inr x,v=>Value.isStrOf x v
theorem gs:∀ {k:aF} {v:Value},jl k v=true->(∃ i t,k=Sum.inl i/\v=Value.int i t)\/(∃ b,k=Sum.inl (ji b)/\v=Value.bool b)\/(∃ x t,k=Sum.inr x/\v=Value.str x t)
 | .inl i,v,h=>by
  cases v with
  | bool b=>exact .inr (.inl ⟨b,by rw [of_decide_eq_true (show decide (i=ji b)=true from h)],rfl⟩)
  | int j t =>
   obtain ⟨t,e⟩:=Value.isInt_shape (k:=i) (v:=.int j t) h
   exact .inl ⟨i,t,rfl,e⟩
  | _=>exact absurd h (by simp [jl,Value.isInt])
 | .inr x,v,h=>by
  obtain ⟨t,e⟩:=Value.isStrOf_shape (x:=x) (v:=v) h
  exact .inr (.inr ⟨x,t,rfl,e⟩)
theorem y8 {prog:Program} {w:World} {A:Around} {E:Value->Shared->Prop} {s:Shared} {b:Bool} {Q:Int->Shared->Prop} (h:Q (hashInt (ji b)) { s with toks:=s.toks+1 }) :
  wpAny (model prog w) A (pyHash (.bool b)) Q E s:=by
 unfold pyHash
 unfold pyHashByItsType
 have hv:[Value.bool b].any Value.onHeap=false:=rfl
 refine wpAny_bind ?_
 rw [cRoomFor,if_neg (by rw [hv];exact Bool.false_ne_true)];refine wpAny_pure ?_
 refine wpAny_bind (wpAny_specialOf (PySem.typeIs_bool s b) PySem.F.slot_bool_hash.lookup ?_)
 show wpAny _ _ (if (some (Value.builtin "int.__hash__") == some Value.none)=true then _ else _) Q E s
 rw [if_neg (by rw [beq_builtin_none];exact Bool.false_ne_true)]
 refine wpAny_bind (wpAny_specialOf (PySem.typeIs_bool s b) PySem.F.slot_bool_hash.lookup ?_)
 show wpAny _ _ (callSpecialIfBoundUnlessNone? (.bool b) "__hash__" _ >>= _) Q E s
 cases b with
 | false =>
  refine wpAny_bind (wpAny_callSpecialIfBoundUnlessNone?_slot (PySem.typeIs_bool s false) PySem.F.slot_bool_hash
   (wpAny_call_entry PySem.F.slot_bool_hash (PySem.typeIs_bool s false) entry_int_hash
    (show wpAny _ _ (do ret (<- mkInt 0)) _ _ s from wpAny_ret_mkInt ?_) (args_int_hash _)))
  exact wpAny_pure h
 | true =>
  refine wpAny_bind (wpAny_callSpecialIfBoundUnlessNone?_slot (PySem.typeIs_bool s true) PySem.F.slot_bool_hash
   (wpAny_call_entry PySem.F.slot_bool_hash (PySem.typeIs_bool s true) entry_int_hash
    (show wpAny _ _ (do ret (<- mkInt 1)) _ _ s from wpAny_ret_mkInt ?_) (args_int_hash _)))
  exact wpAny_pure h
theorem y9 (a b:Bool):(a == b)=decide ((Sum.inl (ji a):aF)=Sum.inl (ji b)):=by cases a<;>cases b<;>decide
def g9 (prog:Program) (w:World):PySem.KeyKind prog w aF where
 is:=jl
 hash:=kD w
 inj:=λv a b ha hb=>by
  rcases gs ha with ⟨i,t,rfl,rfl⟩ | ⟨c,rfl,rfl⟩ | ⟨x,t,rfl,rfl⟩
  ·rcases gs hb with ⟨j,u,rfl,e⟩ | ⟨d,rfl,e⟩ | ⟨y,u,rfl,e⟩
   ·injection e with e1 _;rw [e1]
   ·exact nomatch e
   ·exact nomatch e
  ·rcases gs hb with ⟨j,u,rfl,e⟩ | ⟨d,rfl,e⟩ | ⟨y,u,rfl,e⟩
   ·exact nomatch e
   ·injection e with e1;rw [e1]
   ·exact nomatch e
  ·rcases gs hb with ⟨j,u,rfl,e⟩ | ⟨d,rfl,e⟩ | ⟨y,u,rfl,e⟩
   ·exact nomatch e
   ·exact nomatch e
   ·injection e with e1 _;rw [e1]
 byValue:=λk v h=>by
  rcases gs h with ⟨i,t,rfl,rfl⟩ | ⟨c,rfl,rfl⟩ | ⟨x,t,rfl,rfl⟩<;>rfl
 pyHash:=λhv h=>by
  rcases gs hv with ⟨i,t,rfl,rfl⟩ | ⟨c,rfl,rfl⟩ | ⟨x,t,rfl,rfl⟩
  ·exact wpAny_pyHash_int h
  ·exact y8 h
  ·exact wpAny_pyHash_str h
 eqBool:=λhu hv h=>by
  rcases gs hu with ⟨i,t,rfl,rfl⟩ | ⟨c,rfl,rfl⟩ | ⟨x,t,rfl,rfl⟩
  ·rcases gs hv with ⟨j,u,rfl,rfl⟩ | ⟨d,rfl,rfl⟩ | ⟨y,u,rfl,rfl⟩
   ·rw [mE] at h;exact wpAny_eqBool_int h
   ·rw [mE] at h;exact SeqAt.EqAt.int_bool i t d _ _ _ _ h
   ·rw [pf] at h;exact SeqAt.EqAt.int_str i t y u _ _ _ _ h
  ·rcases gs hv with ⟨j,u,rfl,rfl⟩ | ⟨d,rfl,rfl⟩ | ⟨y,u,rfl,rfl⟩
   ·rw [mE] at h;exact SeqAt.EqAt.bool_int c j u _ _ _ _ h
   ·rw [<- y9] at h;exact SeqAt.EqAt.bool_bool c d _ _ _ _ h
   ·rw [pf] at h;exact SeqAt.EqAt.bool_str c y u _ _ _ _ h
  ·rcases gs hv with ⟨j,u,rfl,rfl⟩ | ⟨d,rfl,rfl⟩ | ⟨y,u,rfl,rfl⟩
   ·rw [ph] at h;exact SeqAt.EqAt.str_int x t j u _ _ _ _ h
   ·rw [ph] at h;exact SeqAt.EqAt.str_bool x t d _ _ _ _ h
   ·rw [uG] at h;exact wpAny_eqBool_str h
 «strs» := λk x t v h=>by
  rcases gs h with ⟨i,u,rfl,e⟩ | ⟨d,rfl,e⟩ | ⟨y,u,rfl,e⟩
  ·exact nomatch e
  ·exact nomatch e
  ·injection e with e1 _
   subst e1
   cases v<;>rfl
theorem za (prog:Program) (w:World) (i:Int) (t:Tok):(g9 prog w).is (.inl i) (.int i t)=true:=by show jl (.inl i) (.int i t)=true;simp [jl,Value.isInt]
theorem zb (prog:Program) (w:World) (x:Str) (t:Tok):(g9 prog w).is (.inr x) (.str x t)=true:=by show jl (.inr x) (.str x t)=true;simp [jl,Value.isStrOf]
theorem zc (prog:Program) (w:World) (k:aF) (v:Value):(fB prog w).is k v=jh k v:=rfl
theorem zd (prog:Program) (w:World) (i:Int) (t:Tok):(fB prog w).is (.inl i) (.int i t)=true:=yY i t
theorem ze (prog:Program) (w:World) (x:Str) (t:Tok):(fB prog w).is (.inr x) (.str x t)=true:=yZ x t
end L2
namespace L2
open PySem PySem.Spec PyProof.Rows
inductive V where
 | non | bl (b:Bool) | int (i:Int) | str (x:Str) | byt (b:Array UInt8) | flt (b:UInt64) | ref (a:Addr) | ty (n:String)
 deriving DecidableEq
def RelV:V->Value->Prop
 | .non,u=>u=Value.none
 | .bl b,u=>u=Value.bool b
 | .int i,u=>∃ t,u=Value.int i t
 | .str x,u=>∃ t,u=Value.str x t
 | .byt b,u=>∃ t,u=Value.bytes b t
 | .flt b,u=>∃ t,u=Value.float b t
 | .ref a,u=>u=Value.ref a
 | .ty n,u=>u=Value.type n
abbrev Vals:List V->List Value->Prop:=Paired RelV
theorem Vals.length {xs:List V} {us:List Value} (r:Vals xs us):xs.length=us.length:=Paired.length r
theorem Vals.get:∀ {xs:List V} {us:List Value} {i:Nat} {x:V},Vals xs us->xs[i]? = some x->∃ u,us[i]? = some u/\RelV x u
 | _,_,_,_,.nil,e=>by simp at e
 | _,_,0,_,.cons r _,e=>by simp at e;subst e;exact ⟨_,rfl,r⟩
 | _,_,i+1,x,.cons _ t,e=>by
  obtain ⟨u,h1,h2⟩:=Vals.get (i:=i) (x:=x) t (by simpa using e)
  exact ⟨u,by simpa using h1,h2⟩
theorem Vals.set {x:V} {u:Value} (r:RelV x u):∀ {xs:List V} {us:List Value} (i:Nat),Vals xs us->Vals (xs.set i x) (us.set i u)
 | _,_,_,.nil=>.nil
 | _,_,0,.cons _ t=>.cons r t
 | _,_,i+1,.cons q t=>.cons q (Vals.set r i t)
theorem Vals.append:∀ {xs ys:List V} {us ws:List Value},Vals xs us->Vals ys ws->Vals (xs++ys) (us++ws)
 | _,_,_,_,.nil,s=>s
 | _,_,_,_,.cons r t,s=>.cons r (Vals.append t s)
theorem Vals.take:∀ {xs:List V} {us:List Value} (n:Nat),Vals xs us->Vals (xs.take n) (us.take n)
 | _,_,0,_=>.nil
 | _,_,_+1,.nil=>.nil
 | _,_,n+1,.cons r t=>.cons r (Vals.take n t)
theorem Vals.drop:∀ {xs:List V} {us:List Value} (n:Nat),Vals xs us->Vals (xs.drop n) (us.drop n)
 | _,_,0,r=>r
 | _,_,_+1,.nil=>.nil
 | _,_,n+1,.cons _ t=>Vals.drop n t
def RelO:Option V->Option Value->Prop
 | some v,some u=>RelV v u
 | none,none=>True
 | _,_=>False
def KV {κ:Type}:List (κ×V)->List (κ×Value)->Prop:=Paired λ(p:κ×V) (q:κ×Value)=>p.1=q.1/\RelV p.2 q.2
def kV:aF->V
 | .inl i=>.int i
 | .inr x=>.str x
def j6:V->Option aF
 | .int i=>some (.inl i)
 | .bl b=>some (.inl (ji b))
 | .str x=>some (.inr x)
 | _=>none
theorem zf (k:aF):j6 (kV k)=some k:=by cases k<;>rfl
inductive HO where
 | lst (xs:List V)
 | tup (xs:List V)
 | dK (kvs:List (aF×V)) | dT (xc:Option (List Addr)) (kvs:List (List aF×V))
 | set (S:Int->Bool) (n:Nat)
 | ins (C dx:Addr) (fs:List (Str×V))
 | own (x:Addr)
 | xd (fs:List (Str×V))
 | met (f x:Addr)
 | rng (lo hi:Int)
 | frz (o:Obj) (u:HO)
 | tbl (ps:Array Value)
 | ext (φ:Heap->Prop)
abbrev Hp:=Addr->Option HO
def aI (H:Hp) (a:Addr) (o:HO):Hp:=λb=>if b=a then some o else H b
theorem dU {H:Hp} {a:Addr} {o:HO}:aI H a o a=some o:=by unfold aI;rw [if_pos rfl]
theorem bg {H:Hp} {a b:Addr} {o:HO} (h:b≠a):aI H a o b=H b:=by unfold aI;rw [if_neg h]
theorem zg {H:Hp} {a b:Addr} {o u:HO} (h:H a=some o) (h':H b=some u) (d:o≠u):a≠b:=by
 intro e;subst e;rw [h] at h';exact d (Option.some.inj h')
theorem eV {H:Hp} {a b:Addr} {o:HO} (h:H a=some o) (h':H b=none):a≠b:=by
 intro e;subst e;rw [h] at h';cases h'
section
variable (P:Program) (w:World)
def ObjOk (H:Hp) (h:Heap) (a:Addr):HO->Prop
 | .lst xs=>xs.length<=sizeLine/\∃ (its:List Value) (n:Nat),Vals xs its/\h.get? a=some { cls:=.type "list",data:=.seq its.toArray n }
 | .tup xs=>xs.length<=sizeLine/\∃ its:List Value,Vals xs its/\IsTup h a its.toArray
 | .dK kvs=>kvs.length<=sizeLine/\(a == sysModules)=false/\∃ vs,KV kvs vs/\h.DictOf (fB P w) a vs
 | .dT xc kvs=>kvs.length<=sizeLine/\(a == sysModules)=false/\∃ xs:List (List aF×Addr×Value),
   Paired (λ(p:List aF×V) (q:List aF×Addr×Value)=>p.1=q.1/\(∃ ys,H q.2.1=some (.tup ys)/\ys.map j6=p.1.map some)/\RelV p.2 q.2.2) kvs xs /\
   ∃ o es ep,h.get? a=some o/\o.ExactDict/\o.data = .dict es ep/\es.toList=xs.map (entryOfKey (tupleKind (g9 P w)))/\(xs.map (·.1)).Nodup/\ep=xs.length/\∀ as,xc=some as->xs.map (·.2.1)=as
 | .set S n=>h.SetOf (intKind P w) a S n
 | .ins C dx fs=>H dx=some (.own a)/\fs.length<=1000/\dx≠a/\h.get? a=some (PySem.W.instObj C dx) /\
   ∃ mA,h.Ns1 dx mA/\(∀ f,RelO (fs.lookup f) (mA f))/\PySem.Within mA (fs.map (·.1))
 | .own _=>∃ o,h.get? a=some o
 | .xd fs=>∃ mA,h.Ns1 a mA/\∀ f,RelO (fs.lookup f) (mA f)
 | .rng lo hi=>∃ t u v,h.get? a=some { cls:=.type "range",data:=.fields #[.int lo t,.int hi u,.int 1 v] }
 | .frz o u=>h.get? a=some o/\ObjOk H h a u
 | .tbl ps=>h.get? a=some { cls:=.none,data:=.fields ps }
 | .met f x=>h.get? a=some (PySem.W.methodObj (.ref f) (.ref x))
 | .ext φ=>φ h/\(∃ o,h.get? a=some o)/\∀ h1 h2:Heap,φ h1->(∀ o,h1.get? a=some o->h2.get? a=some o)->φ h2
def HOk (H:Hp) (h:Heap):Prop:=∀ a o,H a=some o->ObjOk P w H h a o
end
section
variable {P:Program} {w:World} {H H':Hp} {h h':Heap} {a:Addr} {o:HO}
theorem ObjOk.lt (x:ObjOk P w H h a o):a<h.objs.size:=by
 cases o with
 | lst xs=>obtain ⟨_,_,_,_,e⟩:=x;exact Heap.lt_size e
 | tup xs=>obtain ⟨_,_,_,p⟩:=x;exact p.lt
 | dK kvs=>obtain ⟨_,_,_,_,o,_,_,e,_⟩:=x;exact Heap.lt_size e
 | dT xc kvs=>obtain ⟨_,_,_,_,o,_,_,e,_⟩:=x;exact Heap.lt_size e
 | set S n=>obtain ⟨o,_,_,_,e,_⟩:=x;exact Heap.lt_size e
 | ins C dx fs=>obtain ⟨_,_,_,e,_⟩:=x;exact Heap.lt_size e
 | own y=>obtain ⟨_,e⟩:=x;exact Heap.lt_size e
 | xd fs=>obtain ⟨_,⟨_,_,_,e,_⟩,_⟩:=x;exact Heap.lt_size e
 | rng lo hi=>obtain ⟨_,_,_,e⟩:=x;exact Heap.lt_size e
 | frz ob u=>obtain ⟨e,_⟩:=x;exact Heap.lt_size e
 | tbl ps=>exact Heap.lt_size (show h.get? a=some _ from x)
 | met f y=>exact Heap.lt_size (show h.get? a=some _ from x)
 | ext φ=>obtain ⟨_,⟨_,e⟩,_⟩:=x;exact Heap.lt_size e
theorem Paired.mapP {α β:Type} {F G:α->β->Prop}:∀ {l₁:List α} {l₂:List β},Paired F l₁ l₂->(∀ a b,F a b->G a b)->Paired G l₁ l₂
 | _,_,.nil,_=>.nil
 | _,_,.cons r t,f=>.cons (f _ _ r) (Paired.mapP t f)
theorem ObjOk.stay (x:ObjOk P w H h a o) (k:∀ b u,(b=a\/H b=some (.own a))->h.get? b=some u->h'.get? b=some u)
  (ho:∀ b,H b=some (.own a)->H' b=some (.own a)) (ht:∀ b xs,H b=some (.tup xs)->H' b=some (.tup xs)):ObjOk P w H' h' a o:=by
 induction o with
 | lst xs=>obtain ⟨z,its,n,r,e⟩:=x;exact ⟨z,its,n,r,k _ _ (.inl rfl) e⟩
 | tup xs=>obtain ⟨z,its,r,ob,e,c⟩:=x;exact ⟨z,its,r,ob,k _ _ (.inl rfl) e,c⟩
 | dK kvs=>obtain ⟨z,y,vs,r,ob,es,ep,e,c⟩:=x;exact ⟨z,y,vs,r,ob,es,ep,k _ _ (.inl rfl) e,c⟩
 | dT xc kvs =>
  obtain ⟨z,y,xs,r,ob,es,ep,e,c⟩:=x
  exact ⟨z,y,xs,Paired.mapP r λp q z=>⟨z.1,z.2.1.imp λ_ e=>⟨ht _ _ e.1,e.2⟩,z.2.2⟩,ob,es,ep,k _ _ (.inl rfl) e,c⟩
 | set S n=>obtain ⟨ob,es,ep,t,e,c⟩:=x;exact ⟨ob,es,ep,t,k _ _ (.inl rfl) e,c⟩
 | ins C dx fs =>
  obtain ⟨d,z,ne,e,mA,⟨od,es,ep,e2,c⟩,r⟩:=x
  exact ⟨ho _ d,z,ne,k _ _ (.inl rfl) e,mA,⟨od,es,ep,k _ _ (.inr d) e2,c⟩,r⟩
 | own y=>obtain ⟨ob,e⟩:=x;exact ⟨ob,k _ _ (.inl rfl) e⟩
 | xd fs=>obtain ⟨mA,⟨od,es,ep,e,c⟩,r⟩:=x;exact ⟨mA,⟨od,es,ep,k _ _ (.inl rfl) e,c⟩,r⟩
 | rng lo hi=>obtain ⟨t,u,v,e⟩:=x;exact ⟨t,u,v,k _ _ (.inl rfl) e⟩
 | frz ob u ih=>obtain ⟨e,q⟩:=x;exact ⟨k _ _ (.inl rfl) e,ih q⟩
 | tbl ps =>
  have e:h.get? a=some { cls:=.none,data:=.fields ps }:=x
  show h'.get? a=some { cls:=.none,data:=.fields ps }
  exact k a _ (.inl rfl) e
 | met f y =>
  have e:h.get? a=some (PySem.W.methodObj (.ref f) (.ref y)):=x
  show h'.get? a=some (PySem.W.methodObj (.ref f) (.ref y))
  exact k a _ (.inl rfl) e
 | ext φ=>obtain ⟨p,⟨o,e⟩,st⟩:=x;exact ⟨st _ _ p λo q=>k _ _ (.inl rfl) q,⟨o,k _ _ (.inl rfl) e⟩,st⟩
theorem HOk.lt (x:HOk P w H h) (e:H a=some o):a<h.objs.size:=(x a o e).lt
theorem HOk.fresh (x:HOk P w H h) (e:h.objs.size<=a):H a=none:=by
 cases q:H a with
 | none=>rfl
 | some u=>exact absurd (Nat.lt_of_lt_of_le (x.lt q) e) (Nat.lt_irrefl _)
theorem HOk.kept (x:HOk P w H h) (k:∀ b u,h.get? b=some u->h'.get? b=some u):HOk P w H h' := λa o e =>
 (x a o e).stay (λb u _ q=>k b u q) (λ_ q=>q) λ_ _ q=>q
theorem HOk.laid (x:HOk P w H h) (k:∀ b u,h.get? b=some u->h'.get? b=some u) (hp:h.objs.size<=a) (new:ObjOk P w (aI H a o) h' a o):HOk P w (aI H a o) h' := λb u e=>by
 have hn:=x.fresh hp
 by_cases hb:b=a
 ·subst hb;rw [dU] at e;cases e;exact new
 ·rw [bg hb] at e
  exact (x b u e).stay (λc v _ q=>k c v q) (λc q=>by rw [bg (eV q hn)];exact q) λc xs q=>by rw [bg (eV q hn)];exact q
end
def Rd (H:Hp) (a:Addr) (u:HO):Prop:=H a=some u\/∃ o,H a=some (.frz o u)
theorem Rd.of {H:Hp} {a:Addr} {u:HO} (h:H a=some u):Rd H a u:=.inl h
theorem Rd.ok {P:Program} {w:World} {H:Hp} {h:Heap} {a:Addr} {u:HO} (r:Rd H a u) (x:HOk P w H h):ObjOk P w H h a u:=by
 rcases r with r | ⟨o,r⟩
 ·exact x a u r
 ·obtain ⟨_,q⟩:=x a _ r
  exact q
def kE:Option HO->Prop
 | some (.lst _)=>True
 | some (.dK _)=>True
 | some (.dT _ _)=>True
 | some (.set _ _)=>True
 | some (.ins _ _ _)=>True
 | some (.ext _)=>True
 | _=>False
section
variable {P:Program} {w:World} {H:Hp} {h h':Heap} {x e:Addr} {o':HO}
theorem HOk.write (ok:HOk P w H h) (mu:kE (H x)) (he:e=x\/H e=some (.own x)) (k:∀ b u,b≠e->h.get? b=some u->h'.get? b=some u) (heo:∃ u,h'.get? e=some u)
  (new:ObjOk P w (aI H x o') h' x o'):HOk P w (aI H x o') h' := λb u q=>by
 have nown:∀ c y,H c=some (.own y)->c≠x:=λc y r z=>by subst z;rw [r] at mu;exact mu
 have ntup:∀ c xs,H c=some (.tup xs)->c≠x:=λc xs r z=>by subst z;rw [r] at mu;exact mu
 by_cases hb:b=x
 ·subst hb;rw [dU] at q;cases q;exact new
 ·rw [bg hb] at q
  by_cases hbe:b=e
  ·have q':H b=some (.own x):=by
    rcases he with z | z
    ·exact absurd (hbe.trans z) hb
    ·rw [hbe];exact z
   rw [q] at q';cases q'
   obtain ⟨v,hv⟩:=heo
   exact ⟨v,by rw [hbe];exact hv⟩
  ·refine (ok b u q).stay (λc v hc r=>k c v ?_ r) (λc r=>by rw [bg (nown c b r)];exact r) λc xs r=>by rw [bg (ntup c xs r)];exact r
   rcases hc with rfl | hc
   ·exact hbe
   ·rintro rfl
    rcases he with z | z
    ·exact nown c b hc z
    ·rw [hc] at z;cases z;exact hb rfl
end
structure Un (fs ex:List Addr) (H H':Hp) (h h':Heap):Prop where
 keep:∀ b o,h.get? b=some o->H b=none->b∉fs->b∉ex->h'.get? b=some o
 slot:∀ b o,h.get? b=some o->H b=none->b∈fs->b∉ex->∃ sl,h'.get? b=some { o with slots:=sl }
 free:∀ b o,h.get? b=some o->H b=none->b∉ex->H' b=none
 there:∀ b o,h.get? b=some o->b∉ex->∃ o',h'.get? b=some o'
 tups:∀ b xs,H b=some (.tup xs)->H' b=some (.tup xs)
 frzs:∀ b o u,H b=some (.frz o u)->H' b=some (.frz o u)
 tbls:∀ b ps,H b=some (.tbl ps)->∃ more,H' b=some (.tbl (ps++more))
section
variable {fs fs' ex ex':List Addr} {H H1 H2:Hp} {h h1 h2 h':Heap} {a x e:Addr} {o:HO}
theorem Un.any (u:Un fs ex H H1 h h1) {b:Addr} {ob:Obj} (q:h.get? b=some ob) (n:H b=none) (hx:b∉ex):∃ sl,h1.get? b=some { ob with slots:=sl }:=by
 by_cases hb:b∈fs
 ·exact u.slot b ob q n hb hx
 ·exact ⟨ob.slots,u.keep b ob q n hb hx⟩
theorem Un.kept (k:∀ b u,h.get? b=some u->h'.get? b=some u):Un fs ex H H h h' :=
 ⟨λb ob q _ _ _=>k b ob q,λb ob q _ _ _=>⟨ob.slots,k b ob q⟩,λ_ _ _ n _=>n,λb ob q _=>⟨ob,k b ob q⟩,λ_ _ q=>q,λ_ _ _ q=>q,λ_ ps q=>⟨#[],by rw [q];simp⟩⟩
theorem Un.refl:Un fs ex H H h h:=Un.kept λ_ _ q=>q
theorem Un.laid (k:∀ b u,h.get? b=some u->h'.get? b=some u) (hp:h.objs.size<=a) (hn:H a=none):Un fs ex H (aI H a o) h h' where
 keep:=λb u q _ _ _=>k b u q
 slot:=λb u q _ _ _=>⟨u.slots,k b u q⟩
 free:=λb u q n _=>by rw [bg (Nat.ne_of_lt (Nat.lt_of_lt_of_le (Heap.lt_size q) hp))];exact n
 there:=λb u q _=>⟨u,k b u q⟩
 tups:=λb xs q=>by rw [bg (eV q hn)];exact q
 frzs:=λb u xs q=>by rw [bg (eV q hn)];exact q
 tbls:=λb ps q=>⟨#[],by rw [bg (eV q hn),q];simp⟩
theorem Un.write (mu:kE (H x)) (he:e=x\/H e=some (.own x)) (k:∀ b u,b≠e->h.get? b=some u->h'.get? b=some u) (heo:∃ u,h'.get? e=some u):Un fs ex H (aI H x o) h h' := by
 have hx:∀ b,H b=none->b≠x:=λb n z=>by subst z;rw [n] at mu;exact mu
 have hb:∀ b,H b=none->b≠e:=λb n z=>by
  subst z
  rcases he with r | r
  ·exact hx b n r
  ·rw [n] at r;cases r
 have hm:∀ b u,H b=some u -> ¬ kE (some u)->b≠x:=λb u q nm z=>by subst z;rw [q] at mu;exact nm mu
 refine ⟨λb u q n _ _=>k b u (hb b n) q,λb u q n _ _=>⟨u.slots,k b u (hb b n) q⟩,λb u q n _=>by rw [bg (hx b n)];exact n,λb u q _=>?_,
  λb xs q=>by rw [bg (hm b _ q λz=>z)];exact q,λb u xs q=>by rw [bg (hm b _ q λz=>z)];exact q,λb ps q=>⟨#[],by rw [bg (hm b _ q λz=>z),q];simp⟩⟩
 by_cases hbe:b=e
 ·subst hbe;exact heo
 ·exact ⟨u,k b u hbe q⟩
end
def mF (h:Heap) (H:Hp):List Addr:=(List.range h.objs.size).filter λa=>(H a).isSome
def dz (h:Heap) (H:Hp):Heap:=PySem.W.hideAll h (mF h H)
theorem zh (h:Heap) (H:Hp):(dz h H).objs.size=h.objs.size:=PySem.W.hideAll_size _ _
theorem zi {h:Heap} {H:Hp} {b:Addr} {o:Obj} (e:h.get? b=some o) (n:H b=none):(dz h H).get? b=some o :=
 PySem.W.hideAll_get _ e λhm=>by
  have q:(H b).isSome=true:=(List.mem_filter.mp hm).2
  rw [n] at q;simp at q
theorem zj {h:Heap} {H:Hp} {b:Addr} {o:Obj} (e:(dz h H).get? b=some o):h.get? b=some o/\H b=none:=by
 have e':h.get? b=some o:=PySem.W.of_hideAll (mF h H) e
 refine ⟨e',?_⟩
 cases q:H b with
 | none=>rfl
 | some x =>
  have hm:b∈mF h H:=List.mem_filter.mpr ⟨List.mem_range.mpr (Heap.lt_size e'),by simp [q]⟩
  have z:(dz h H).get? b=none:=PySem.W.hideAll_none (mF h H) hm
  rw [z] at e;cases e
end L2
namespace L2
open PySem PySem.Spec PyProof.Rows
structure Mod (K:PySem.W.Frag) (mg:Str->Option Value) (base:Heap):Prop where
 kin:K.In base
 glob:base.Ns mainGlobals mg
 blt:∃ mb,base.Ns builtinsNs mb/\∀ x:Str,x ≠ "__name__" -> mb x=bootBuiltins x
 nolimit:base.NoLimit
structure Cx where
 prog:Program
 w:World
 K:PySem.W.Frag
 mg:Str->Option Value
 base:Heap
 A:Around
 N:List Str
 s₀:Shared
 H₀:Hp
 env:Env
 outer:List Env
 stack:List Env
 ex:List Addr
 fn:Str->Bool
 calm:Bool
 pn:List (Addr×Obj)
 xe:Value->Shared->Prop
def c9 (l:List Env):List Addr:=l.filterMap (·.frame)
abbrev Cx.fs (X:Cx):List Addr:=c9 X.outer
def fT (sc:Scope) (x:Str):Prop:=sc.names.lookup x=some .local\/sc.names.lookup x=some .cell\/sc.names.lookup x=some .free
def j7 (sc:Scope) (x:Str):Prop:=sc.names.lookup x=some .local\/sc.names.lookup x=some .cell
def pj (env:Env) (h:Heap) (m:Str->Option Value) (x:Str) (u:Value):Prop :=
 (env.kindOf x=some .local/\m x=some u)\/((env.kindOf x=some .cell\/env.kindOf x=some .free)/\∃ c,env.cells.lookup x=some c/\h.IsCell c (some u))
structure Cx.Ok (X:Cx):Prop where
 mod:Mod X.K X.mg X.base
 kind:X.env.scope.kind = .function
 glob:X.env.globals=mainGlobals
 blt:X.env.builtins=builtinsNs
 above:X.s₀.heap.objs.size<=X.env.locals
 inj:∀ x y c,X.env.cells.lookup x=some c->X.env.cells.lookup y=some c->x=y
 has:∀ x,(X.env.kindOf x=some .cell\/X.env.kindOf x=some .free)->∃ c,X.env.cells.lookup x=some c
 cab:∀ x c,X.fn x=true->X.env.cells.lookup x=some c->X.s₀.heap.objs.size<=c
 hd:X.calm=true->X.A.handled=none
 frames:X.A.frames=some X.stack
 stk:X.stack=X.outer\/(X.stack=X.env::X.outer/\X.env.frame=some X.env.locals)
 exf:∀ b∈X.ex,b≠X.env.locals/\∀ x c,X.env.cells.lookup x=some c->c≠b
 bs:∀ b o,X.base.get? b=some o->X.s₀.heap.get? b=some o/\X.H₀ b=none
 bsz:X.base.objs.size<=X.s₀.heap.objs.size
 noex:∀ b o,X.base.get? b=some o->b∉X.ex
 exfs:∀ b∈X.ex,b∉X.fs
 funs:X.s₀.heap.FunFrames X.base X.outer
 frf:∀ b∈X.fs,X.H₀ b=none
structure Inv (X:Cx) (pins:List (Addr×Obj)) (σ:List (Option V)) (H:Hp) (s:Shared):Prop where
 ok:X.Ok
 os:s.os=X.s₀.os
 bare:AllBare s.gens
 base:Un X.fs X.ex X.H₀ H X.s₀.heap s.heap
 loc:∃ m,s.heap.Ns X.env.locals m/\∀ (i:Nat) (x:Str) (v:V),X.N[i]? = some x->σ[i]? = some (some v)->fT X.env.scope x->∃ u,RelV v u/\pj X.env s.heap m x u
 cell:∀ x c,X.env.cells.lookup x=some c->∃ v,s.heap.IsCell c v
 free:H X.env.locals=none
 freeC:∀ x c,X.env.cells.lookup x=some c->H c=none
 pin:∀ p∈X.pn++pins,s.heap.get? p.1=some p.2/\H p.1=none/\p.1≠X.env.locals/\p.1∉X.fs/\∀ v,p.2.data ≠ .cell v
 hok:HOk X.prog X.w H s.heap
 len:σ.length=X.N.length
section
variable {X:Cx} {pins:List (Addr×Obj)} {σ:List (Option V)} {H H':Hp} {s:Shared} {h':Heap}
theorem Cx.Ok.nofr (ok:X.Ok) {b:Addr} {o:Obj} (e:X.base.get? b=some o):b∉X.fs:=λhb=>by
 have:=(ok.funs.mem hb).1
 rw [e] at this;cases this
theorem Inv.bs (I:Inv X pins σ H s):∀ b o,X.base.get? b=some o->s.heap.get? b=some o/\H b=none:=λb o e =>
 ⟨I.base.keep b o (I.ok.bs b o e).1 (I.ok.bs b o e).2 (I.ok.nofr e) (I.ok.noex b o e),I.base.free b o (I.ok.bs b o e).1 (I.ok.bs b o e).2 (I.ok.noex b o e)⟩
theorem Inv.bk (I:Inv X pins σ H s):∀ b o,X.base.get? b=some o->s.heap.get? b=some o:=λb o e=>(I.bs b o e).1
theorem Inv.mod (I:Inv X pins σ H s):Mod X.K X.mg X.base:=I.ok.mod
theorem Inv.kIn (I:Inv X pins σ H s):X.K.In s.heap:=I.ok.mod.kin.keeps I.bk
theorem Inv.fr (I:Inv X pins σ H s):∃ m,Fr X.base X.env.locals s.heap m :=
 let ⟨m,hn,_⟩:=I.loc
 ⟨m,hn,I.bk,Nat.le_trans I.ok.bsz I.ok.above⟩
theorem Inv.lt (I:Inv X pins σ H s):X.env.locals<s.heap.objs.size:=let ⟨_,hn,_⟩:=I.loc;hn.lt
theorem Inv.sz (I:Inv X pins σ H s):X.s₀.heap.objs.size<=s.heap.objs.size:=Nat.le_trans I.ok.above (Nat.le_of_lt I.lt)
theorem Inv.nofs (I:Inv X pins σ H s) {a:Addr} (h:s.heap.objs.size<=a):a∉X.fs:=λhb=>by
 obtain ⟨_,o,ho,_⟩:=I.ok.funs.mem hb
 exact absurd (Nat.lt_of_lt_of_le (Heap.lt_size ho) (Nat.le_trans I.sz h)) (Nat.lt_irrefl _)
theorem Inv.cne (I:Inv X pins σ H s):∀ x c,X.env.cells.lookup x=some c->c≠X.env.locals:=λx c e z=>by
 obtain ⟨v,o,ho,hd⟩:=I.cell x c e
 obtain ⟨m,⟨o',es,ep,ho',hd',_⟩,_⟩:=I.loc
 rw [z,ho'] at ho;cases ho;rw [hd'] at hd;cases hd
theorem Inv.funs (I:Inv X pins σ H s):s.heap.FunFrames X.base X.outer:=by
 have all:∀ (l:List Env),(∀ b∈c9 l,b∈X.fs)->X.s₀.heap.FunFrames X.base l->s.heap.FunFrames X.base l:=by
  intro l
  induction l with
  | nil=>intro _ _;trivial
  | cons env r ih =>
   intro hs hl
   obtain ⟨hk,⟨L,o,hf,hn,ho,hd⟩,hr⟩:=hl
   have hL:L∈X.fs:=hs L (by unfold c9;rw [List.filterMap_cons,hf];exact List.mem_cons_self)
   obtain ⟨sl,e⟩:=I.base.slot L o ho (I.ok.frf L hL) hL λz=>I.ok.exfs L z hL
   exact ⟨hk,⟨L,_,hf,hn,e,hd⟩,ih (λb hb=>hs b (by unfold c9;rw [List.filterMap_cons,hf];exact List.mem_cons_of_mem _ hb)) hr⟩
 exact all X.outer (λ_ hb=>hb) I.ok.funs
theorem Inv.stack (I:Inv X pins σ H s):s.heap.FunFrames X.base X.stack:=by
 rcases I.ok.stk with e | ⟨e,hf⟩
 ·rw [e];exact I.funs
 ·rw [e]
  obtain ⟨m,hn,_⟩:=I.loc
  refine .cons (by rw [I.ok.kind];decide) hf hn ?_ I.funs
  exact Heap.get?_none_of_le (Nat.le_trans I.ok.bsz I.ok.above)
theorem Inv.stkSub (I:Inv X pins σ H s):∀ b∈c9 X.stack,b∈X.env.locals::X.fs:=λb hb=>by
 rcases I.ok.stk with e | ⟨e,hf⟩
 ·rw [e] at hb;exact List.mem_cons_of_mem _ hb
 ·rw [e] at hb
  unfold c9 at hb
  rw [List.filterMap_cons,hf] at hb
  exact hb
theorem Inv.stkFree (I:Inv X pins σ H s):∀ b∈c9 X.stack,H b=none:=λb hb=>by
 rcases List.mem_cons.mp (I.stkSub b hb) with e | hb
 ·rw [e];exact I.free
 ·obtain ⟨_,o,ho,_⟩:=I.ok.funs.mem hb
  exact I.base.free b o ho (I.ok.frf b hb) λz=>I.ok.exfs b z hb
theorem Inv.step {g':Array GenState} {t':Nat} {d':Drawn} {ch:List Addr} (I:Inv X pins σ H s)
  (hch:∀ b∈ch,(b∈X.ex\/X.s₀.heap.objs.size<=b)/\b≠X.env.locals/\(∀ x c,X.env.cells.lookup x=some c->c≠b)/\∀ p∈X.pn++pins,p.1≠b)
  (keep:∀ b o,b≠X.env.locals->b∉X.fs->b∉ch->s.heap.get? b=some o->H b=none->h'.get? b=some o)
  (slot:∀ b o,b≠X.env.locals->b∈X.fs->b∉ch->s.heap.get? b=some o->H b=none->∃ sl,h'.get? b=some { o with slots:=sl }) (free:∀ b o,b∉ch->s.heap.get? b=some o->H b=none->H' b=none)
  (there:∀ b o,b∉ch->s.heap.get? b=some o->∃ o',h'.get? b=some o')
  (tups:∀ b xs,H b=some (.tup xs)->H' b=some (.tup xs)) (frzs:∀ b o u,H b=some (.frz o u)->H' b=some (.frz o u)) (tbls:∀ b ps,H b=some (.tbl ps)->∃ more,H' b=some (.tbl (ps++more)))
  (ns:∀ m,s.heap.Ns X.env.locals m->h'.Ns X.env.locals m) (hok:HOk X.prog X.w H' h') (hg:AllBare g') :
  Inv X pins σ H' { s with heap:=h',gens:=g',drawn:=d',toks:=t' }:=by
 have neL:∀ b o,X.s₀.heap.get? b=some o->b≠X.env.locals:=λb o e=>Nat.ne_of_lt (Nat.lt_of_lt_of_le (Heap.lt_size e) I.ok.above)
 have neC:∀ b o,X.s₀.heap.get? b=some o->b∉X.ex->b∉ch:=λb o e hx hb=>by
  rcases (hch b hb).1 with z | z
  ·exact hx z
  ·exact absurd (Nat.lt_of_lt_of_le (Heap.lt_size e) z) (Nat.lt_irrefl _)
 have cellK:∀ x c,X.env.cells.lookup x=some c->∀ v,s.heap.IsCell c v->h'.IsCell c v:=λx c e v ⟨o,ho,hd⟩=>by
  have nch:c∉ch:=λz=>(hch c z).2.2.1 x c e rfl
  by_cases hc:c∈X.fs
  ·obtain ⟨sl,q⟩:=slot c o (I.cne x c e) hc nch ho (I.freeC x c e)
   exact ⟨_,q,hd⟩
  ·exact ⟨o,keep c o (I.cne x c e) hc nch ho (I.freeC x c e),hd⟩
 refine ⟨I.ok,I.os,hg,⟨λb o e n hb hx=>?_,λb o e n hb hx=>?_,λb o e n hx=>?_,λb o e hx=>?_,λb xs e=>tups b xs (I.base.tups b xs e),λb o xs e=>frzs b o xs (I.base.frzs b o xs e),λb ps e=>?_⟩,?_,λx c e=>?_,?_,λx c e=>?_,λp hp=>?_,hok,I.len⟩
 ·exact keep b o (neL b o e) hb (neC b o e hx) (I.base.keep b o e n hb hx) (I.base.free b o e n hx)
 ·obtain ⟨sl,e1⟩:=I.base.slot b o e n hb hx
  obtain ⟨sl',e2⟩:=slot b _ (neL b o e) hb (neC b o e hx) e1 (I.base.free b o e n hx)
  exact ⟨sl',e2⟩
 ·obtain ⟨o',e1⟩:=I.base.there b o e hx
  exact free b o' (neC b o e hx) e1 (I.base.free b o e n hx)
 ·obtain ⟨o',e1⟩:=I.base.there b o e hx
  exact there b o' (neC b o e hx) e1
 ·obtain ⟨m1,e1⟩:=I.base.tbls b ps e
  obtain ⟨m2,e2⟩:=tbls b _ e1
  exact ⟨m1++m2,by rw [e2,Array.append_assoc]⟩
 ·obtain ⟨m,hn,hl⟩:=I.loc
  refine ⟨m,ns m hn,λi x v e1 e2 e3=>?_⟩
  obtain ⟨u,r,l⟩:=hl i x v e1 e2 e3
  refine ⟨u,r,?_⟩
  rcases l with l | ⟨k,c,e,z⟩
  ·exact .inl l
  ·exact .inr ⟨k,c,e,cellK x c e _ z⟩
 ·obtain ⟨v,z⟩:=I.cell x c e
  exact ⟨v,cellK x c e v z⟩
 ·obtain ⟨m,⟨o,_,_,ho,_⟩,_⟩:=I.loc
  exact free _ o (λz=>(hch _ z).2.1 rfl) ho I.free
 ·obtain ⟨v,o,ho,hd⟩:=I.cell x c e
  exact free c o (λz=>(hch c z).2.2.1 x c e rfl) ho (I.freeC x c e)
 ·obtain ⟨e,n,ne,nf,d⟩:=I.pin p hp
  have nch:p.1∉ch:=λz=>(hch p.1 z).2.2.2 p hp rfl
  exact ⟨keep p.1 p.2 ne nf nch e n,free p.1 p.2 nch e n,ne,nf,d⟩
theorem Inv.un {t':Nat} (I:Inv X pins σ H s) (u:Un X.fs [] H H' s.heap h') (hok:HOk X.prog X.w H' h'):Inv X pins σ H' { s with heap:=h',toks:=t' }:=by
 obtain ⟨m,⟨o,es,ep,ho,r⟩,_⟩:=id I.loc
 obtain ⟨sl,hL⟩:=u.any ho I.free (by simp)
 exact I.step (g' := s.gens) (d' := s.drawn) (ch:=[]) (λ_ z=>nomatch z) (λb o _ hb _ e n=>u.keep b o e n hb (by simp)) (λb o _ hb _ e n=>u.slot b o e n hb (by simp)) (λb o _ e n=>u.free b o e n (by simp)) (λb o _ e=>u.there b o e (by simp)) u.tups u.frzs u.tbls (λm' hm=>by
  obtain ⟨o',es',ep',ho',r'⟩:=hm
  rw [ho] at ho';cases ho'
  exact ⟨_,es',ep',hL,r'⟩) hok I.bare
theorem Inv.call {g':Array GenState} {t':Nat} {d':Drawn} {ch:List Addr} (I:Inv X pins σ H s) (u:Un (c9 X.stack) ch H H' s.heap h') (hok:HOk X.prog X.w H' h') (hg:AllBare g')
  (hch:∀ b∈ch,(b∈X.ex\/X.s₀.heap.objs.size<=b)/\b≠X.env.locals/\(∀ x c,X.env.cells.lookup x=some c->c≠b)/\∀ p∈X.pn++pins,p.1≠b) :
  Inv X pins σ H' { s with heap:=h',gens:=g',drawn:=d',toks:=t' }:=by
 obtain ⟨m,⟨o,es,ep,ho,r⟩,_⟩:=id I.loc
 obtain ⟨sl,hL⟩:=u.any ho I.free λz=>(hch _ z).2.1 rfl
 exact I.step (ch:=ch) hch (λb o hL hb hc e n=>u.keep b o e n (λz=>(List.mem_cons.mp (I.stkSub b z)).elim hL hb) hc) (λb o _ _ hc e n=>u.any e n hc) (λb o hc e n=>u.free b o e n hc) (λb o hc e=>u.there b o e hc) u.tups u.frzs u.tbls (λm' hm=>by
  obtain ⟨o',es',ep',ho',r'⟩:=hm
  rw [ho] at ho';cases ho'
  exact ⟨_,es',ep',hL,r'⟩) hok hg
theorem Inv.turned {t':Nat} {it:Addr} (I:Inv X pins σ H s) (k:∀ b o,b≠it->s.heap.get? b=some o->h'.get? b=some o) (hn:H it=none) (hL:it≠X.env.locals)
  (h1:it∈X.ex\/X.s₀.heap.objs.size<=it) (h2:∀ x c,X.env.cells.lookup x=some c->c≠it) (h3:∀ p∈X.pn++pins,p.1≠it):Inv X pins σ H { s with heap:=h',toks:=t' }:=by
 have nit:∀ b u,H b=some u->b≠it:=λb u e z=>by rw [z,hn] at e;cases e
 refine I.step (g' := s.gens) (d' := s.drawn) (ch:=[it]) (λb hb=>?_) (λb o _ _ hc e _=>k b o (λz=>hc (by simp [z])) e) (λb o _ _ hc e _=>⟨o.slots,k b o (λz=>hc (by simp [z])) e⟩) (λ_ _ _ _ n=>n)
  (λb o hc e=>⟨o,k b o (λz=>hc (by simp [z])) e⟩) (λ_ _ e=>e) (λ_ _ _ e=>e) (λb ps e=>⟨#[],by rw [e];simp⟩) (λm hm=>?_) (λb u e=>?_) I.bare
 ·have e:b=it:=by simpa using hb
  subst e
  exact ⟨h1,hL,h2,h3⟩
 ·obtain ⟨o,es,ep,ho,r⟩:=hm
  exact ⟨o,es,ep,k _ o (Ne.symm hL) ho,r⟩
 ·refine (I.hok b u e).stay (λc v hc q=>k c v ?_ q) (λ_ q=>q) λ_ _ q=>q
  rcases hc with z | z
  ·rw [z];exact nit b u e
  ·exact nit c _ z
theorem Inv.tok (I:Inv X pins σ H s) (t:Nat):Inv X pins σ H { s with toks:=t }:=I.un (h' := s.heap) (t' := t) Un.refl I.hok
theorem Inv.kept {t':Nat} (I:Inv X pins σ H s) (k:∀ b u,s.heap.get? b=some u->h'.get? b=some u):Inv X pins σ H { s with heap:=h',toks:=t' }:=I.un (Un.kept k) (I.hok.kept k)
theorem Inv.laid {a:Addr} {o:HO} {t':Nat} (I:Inv X pins σ H s) (k:∀ b u,s.heap.get? b=some u->h'.get? b=some u) (hp:s.heap.objs.size<=a) (new:ObjOk X.prog X.w (aI H a o) h' a o) :
  Inv X pins σ (aI H a o) { s with heap:=h',toks:=t' }:=I.un (Un.laid k hp (I.hok.fresh hp)) (I.hok.laid k hp new)
theorem Inv.write {x e:Addr} {o:HO} {t':Nat} (I:Inv X pins σ H s) (mu:kE (H x)) (he:e=x\/H e=some (.own x)) (k:∀ b u,b≠e->s.heap.get? b=some u->h'.get? b=some u) (heo:∃ u,h'.get? e=some u)
  (new:ObjOk X.prog X.w (aI H x o) h' x o):Inv X pins σ (aI H x o) { s with heap:=h',toks:=t' }:=I.un (Un.write mu he k heo) (I.hok.write mu he k heo new)
theorem Inv.weak {σ':List (Option V)} (I:Inv X pins σ H s) (hl:σ'.length=σ.length) (w:∀ (i:Nat) v,σ'[i]? = some (some v)->σ[i]? = some (some v)):Inv X pins σ' H s :=
 ⟨I.ok,I.os,I.bare,I.base,let ⟨m,hn,hl'⟩:=I.loc;⟨m,hn,λi x v e1 e2 e3=>hl' i x v e1 (w i v e2) e3⟩,I.cell,I.free,I.freeC,I.pin,I.hok,hl.trans I.len⟩
theorem Inv.pins_of {pins':List (Addr×Obj)} (I:Inv X pins σ H s) (h:∀ p∈pins',s.heap.get? p.1=some p.2/\H p.1=none/\p.1≠X.env.locals/\p.1∉X.fs/\∀ v,p.2.data ≠ .cell v):Inv X pins' σ H s :=
 ⟨I.ok,I.os,I.bare,I.base,I.loc,I.cell,I.free,I.freeC,λp hp=>(List.mem_append.mp hp).elim (λz=>I.pin p (List.mem_append_left _ z)) (h p),I.hok,I.len⟩
theorem mG {N:List Str} (hN:N.Nodup) {i j:Nat} {x:Str} (a:N[i]? = some x) (b:N[j]? = some x):i=j:=by
 obtain ⟨h1,e1⟩:=List.getElem?_eq_some_iff.mp a
 obtain ⟨h2,e2⟩:=List.getElem?_eq_some_iff.mp b
 exact (List.getElem_inj hN).mp (e1.trans e2.symm)
theorem uH {M:Model} {A:Around} {E:Value->Shared->Prop} {i:Nat} {x:Str} {v:V} {u:Value} {Q:Unit->Shared->Prop} (I:Inv X pins σ H s) (hN:X.N.Nodup) (hi:X.N[i]? = some x) (hx:j7 X.env.scope x) (r:RelV v u)
  (h:∀ s',Inv X pins (σ.set i (some v)) H s'->(∃ a,Heap.SameBut a s.heap s'.heap/\(a=X.env.locals\/X.env.cells.lookup x=some a))->Q () s') (hf:X.fn x=true\/X.env.scope.names.lookup x=some .local:=by first | exact .inl rfl | exact .inr rfl | assumption):wpAny M A (storeName X.env x u) Q E s:=by
 obtain ⟨m,hn,hl⟩:=id I.loc
 have hcls:(X.env.scope.kind == .class || (X.env.scope.kind == .module && X.env.locals != X.env.globals))=false:=by rw [I.ok.kind];rfl
 have hiσ:i<σ.length:=by rw [I.len];exact (List.getElem?_eq_some_iff.mp hi).1
 have cne:=I.cne
 have tracked:∀ {a:Addr} {h':Heap},(∃ o,s.heap.get? a=some o/\H a=none)->Heap.SameBut a s.heap h'->HOk X.prog X.w H h' := λ{a h'} ha hs b ob e=>by
  obtain ⟨_,_,hfree⟩:=ha
  refine (I.hok b ob e).stay (λc w' hc q=>(hs.2 c ?_).trans q) (λ_ q=>q) λ_ _ q=>q
  rintro rfl
  rcases hc with rfl | hc
  ·rw [hfree] at e;cases e
  ·rw [hfree] at hc;cases hc
 rcases hx with hk | hk
 ·refine wpAny_storeName_local hk hn (λh' hn' hs=>?_) hcls
  obtain ⟨oL,_,_,hoL,_⟩:=id hn
  refine h _ ⟨I.ok,I.os,I.bare,⟨λb o e n hb hx=>?_,λb o e n hb hx=>?_,I.base.free,λb o e hx=>?_,I.base.tups,I.base.frzs,I.base.tbls⟩,⟨_,hn',λj y v' e1 e2 e3=>?_⟩,λy c e=>?_,I.free,I.freeC,λp hp=>?_,tracked ⟨oL,hoL,I.free⟩ hs,by simpa using I.len⟩ ⟨_,hs,.inl rfl⟩
  ·exact (hs.2 b (Nat.ne_of_lt (Nat.lt_of_lt_of_le (Heap.lt_size e) I.ok.above))).trans (I.base.keep b o e n hb hx)
  ·obtain ⟨sl,e1⟩:=I.base.slot b o e n hb hx
   exact ⟨sl,(hs.2 b (Nat.ne_of_lt (Nat.lt_of_lt_of_le (Heap.lt_size e) I.ok.above))).trans e1⟩
  ·obtain ⟨o',e1⟩:=I.base.there b o e hx
   exact ⟨o',(hs.2 b (Nat.ne_of_lt (Nat.lt_of_lt_of_le (Heap.lt_size e) I.ok.above))).trans e1⟩
  ·by_cases hj:j=i
   ·subst hj
    rw [hi] at e1;cases e1
    rw [List.getElem?_set_self hiσ] at e2
    cases e2
    exact ⟨u,r,.inl ⟨hk,by simp⟩⟩
   ·rw [List.getElem?_set_ne (Ne.symm hj)] at e2
    obtain ⟨u',r',q⟩:=hl j y v' e1 e2 e3
    refine ⟨u',r',?_⟩
    rcases q with ⟨k,e⟩ | ⟨k,c,e,z⟩
    ·refine .inl ⟨k,?_⟩
     have:y≠x:=λe=>hj (mG hN e1 (e▸hi))
     simp [this,e]
    ·exact .inr ⟨k,c,e,z.sameBut hs (cne y c e)⟩
  ·obtain ⟨w',z⟩:=I.cell y c e
   exact ⟨w',z.sameBut hs (cne y c e)⟩
  ·obtain ⟨e,n,ne,nf,d⟩:=I.pin p hp
   exact ⟨(hs.2 p.1 ne).trans e,n,ne,nf,d⟩
 ·have hfn:X.fn x=true:=by
   rcases hf with z | z
   ·exact z
   ·rw [z] at hk;cases hk
  obtain ⟨c,hc⟩:=I.ok.has x (.inl hk)
  obtain ⟨w',z⟩:=I.cell x c hc
  refine wpAny_storeName_cell I.ok.kind hk hc z (λh' hc' hs=>?_)
  obtain ⟨oc,hoc,hocd⟩:=id z
  refine h { s with heap:=h' } ⟨I.ok,I.os,I.bare,⟨λb o e n hb hx=>?_,λb o e n hb hx=>?_,I.base.free,λb o e hx=>?_,I.base.tups,I.base.frzs,I.base.tbls⟩,⟨m,hn.sameBut hs (Ne.symm (cne x c hc)),λj y v' e1 e2 e3=>?_⟩,λy c' e=>?_,I.free,I.freeC,λp hp=>?_,tracked ⟨oc,hoc,I.freeC x c hc⟩ hs,by simpa using I.len⟩ ⟨c,hs,.inr hc⟩
  ·exact (hs.2 b (Nat.ne_of_lt (Nat.lt_of_lt_of_le (Heap.lt_size e) (I.ok.cab x c hfn hc)))).trans (I.base.keep b o e n hb hx)
  ·obtain ⟨sl,e1⟩:=I.base.slot b o e n hb hx
   exact ⟨sl,(hs.2 b (Nat.ne_of_lt (Nat.lt_of_lt_of_le (Heap.lt_size e) (I.ok.cab x c hfn hc)))).trans e1⟩
  ·obtain ⟨o',e1⟩:=I.base.there b o e hx
   exact ⟨o',(hs.2 b (Nat.ne_of_lt (Nat.lt_of_lt_of_le (Heap.lt_size e) (I.ok.cab x c hfn hc)))).trans e1⟩
  ·by_cases hj:j=i
   ·subst hj
    rw [hi] at e1;cases e1
    rw [List.getElem?_set_self hiσ] at e2
    cases e2
    exact ⟨u,r,.inr ⟨.inl hk,c,hc,hc'⟩⟩
   ·rw [List.getElem?_set_ne (Ne.symm hj)] at e2
    obtain ⟨u',r',q⟩:=hl j y v' e1 e2 e3
    refine ⟨u',r',?_⟩
    rcases q with q | ⟨k,c',e,z'⟩
    ·exact .inl q
    ·refine .inr ⟨k,c',e,z'.sameBut hs ?_⟩
     rintro rfl
     exact hj (mG hN e1 (I.ok.inj _ _ _ e hc▸hi))
  ·by_cases hcc:c'=c
   ·subst hcc;exact ⟨_,hc'⟩
   ·obtain ⟨w2,z2⟩:=I.cell y c' e
    exact ⟨w2,z2.sameBut hs hcc⟩
  ·obtain ⟨e,n,ne,nf,d⟩:=I.pin p hp
   refine ⟨(hs.2 p.1 ?_).trans e,n,ne,nf,d⟩
   intro q
   rw [q,hoc] at e
   have q':oc=p.2:=Option.some.inj e
   exact d w' (by rw [<- q'];exact hocd)
theorem pk {M:Model} {A:Around} {E:Value->Shared->Prop} {i:Nat} {x:Str} {v:V} {u:Value} {Q:Unit->Shared->Prop} (I:Inv X pins σ H s) (hN:X.N.Nodup) (hi:X.N[i]? = some x) (hx:j7 X.env.scope x) (r:RelV v u)
  (h:∀ s',Inv X pins (σ.set i (some v)) H s'->Q () s') (hf:X.fn x=true\/X.env.scope.names.lookup x=some .local:=by first | exact .inl rfl | exact .inr rfl | assumption):wpAny M A (storeName X.env x u) Q E s :=
 uH I hN hi hx r (λs' I' _=>h s' I') hf
theorem Inv.call' {s':Shared} {ch:List Addr} (I:Inv X pins σ H s) (ho:s'.os=s.os) (u:Un (c9 X.stack) ch H H' s.heap s'.heap) (hok:HOk X.prog X.w H' s'.heap) (hg:AllBare s'.gens)
  (hch:∀ b∈ch,(b∈X.ex\/X.s₀.heap.objs.size<=b)/\b≠X.env.locals/\(∀ x c,X.env.cells.lookup x=some c->c≠b)/\∀ p∈X.pn++pins,p.1≠b):Inv X pins σ H' s' := by
 obtain ⟨h',g',d',t',o'⟩:=s'
 have e:o'=s.os:=ho
 subst e
 exact I.call (g' := g') (t' := t') (d' := d') u hok hg hch
end
abbrev XK:=Value->Option Addr->Hp->Prop
abbrev St:=List (Option V)
abbrev VK:=V->Hp->Prop
abbrev TE:=St->Hp->VK->Prop
abbrev TT:=St->Hp->(Bool->Hp->Prop)->Prop
abbrev TA:=St->Hp->(List V->Hp->Prop)->Prop
structure cM where
 nx:St->Hp->Prop
 rt:VK
 bk:St->Hp->Prop:=λ_ _=>False
 ct:St->Hp->Prop:=λ_ _=>False
abbrev TS:=cM->St->Hp->Prop
def EP (X:Cx) (pins:List (Addr×Obj)) (σ:St) (Q:VK) (u:Value) (s':Shared):Prop:=∃ v H',Inv X pins σ H' s'/\RelV v u/\Q v H'
def TP (X:Cx) (pins:List (Addr×Obj)) (σ:St) (Q:Bool->Hp->Prop) (b:Bool) (s':Shared):Prop:=∃ H',Inv X pins σ H' s'/\Q b H'
def AP (X:Cx) (pins:List (Addr×Obj)) (σ:St) (Q:List V->Hp->Prop) (us:List Value) (s':Shared):Prop:=∃ vs H',Inv X pins σ H' s'/\Vals vs us/\Q vs H'
def SP (X:Cx) (pins:List (Addr×Obj)) (D:cM) (f:Flow) (s':Shared):Prop :=
 match f with
 | .next=>∃ σ' H',Inv X pins σ' H' s'/\D.nx σ' H'
 | .brk=>∃ σ' H',Inv X pins σ' H' s'/\D.bk σ' H'
 | .cont=>∃ σ' H',Inv X pins σ' H' s'/\D.ct σ' H'
 | .ret u=>∃ v σ' H',Inv X pins σ' H' s'/\RelV v u/\D.rt v H'
def PE (X:Cx) (e:Expr) (t:TE):Prop :=
 ∀ (pins:List (Addr×Obj)) (s:Shared) (σ:St) (H:Hp) (Q:VK),Inv X pins σ H s->t σ H Q->wpAny (model X.prog X.w) X.A (eval e X.env) (EP X pins σ Q) X.xe s
def PT (X:Cx) (e:Expr) (t:TT):Prop :=
 ∀ (pins:List (Addr×Obj)) (s:Shared) (σ:St) (H:Hp) (Q:Bool->Hp->Prop),Inv X pins σ H s->t σ H Q->wpAny (model X.prog X.w) X.A (isTrue e X.env (eval e X.env)) (TP X pins σ Q) X.xe s
def PW (X:Cx) (e:Expr) (t:TT):Prop :=
 ∀ (whole:Sem Value) (pins:List (Addr×Obj)) (s:Shared) (σ:St) (H:Hp) (Q:Bool->Hp->Prop),Inv X pins σ H s->t σ H Q->wpAny (model X.prog X.w) X.A (isTrue e X.env whole) (TP X pins σ Q) X.xe s
theorem PW.pt {X:Cx} {e:Expr} {t:TT} (h:PW X e t):PT X e t:=h _
def PA (X:Cx) (es:List Expr) (t:TA):Prop :=
 ∀ (pos:Pos) (pins:List (Addr×Obj)) (s:Shared) (σ:St) (H:Hp) (Q:List V->Hp->Prop),Inv X pins σ H s->t σ H Q->wpAny (model X.prog X.w) X.A (spliced (backTo pos (starEach es X.env))) (AP X pins σ Q) X.xe s
def PS (X:Cx) (st:Stmt) (t:TS):Prop :=
 ∀ (pins:List (Addr×Obj)) (s:Shared) (σ:St) (H:Hp) (D:cM),Inv X pins σ H s->t D σ H->wpAny (model X.prog X.w) X.A (exec st X.env) (SP X pins D) X.xe s
def eX (X:Cx) (st:List Stmt) (t:TS):Prop :=
 ∀ (pins:List (Addr×Obj)) (s:Shared) (σ:St) (H:Hp) (D:cM),Inv X pins σ H s->t D σ H->wpAny (model X.prog X.w) X.A (execs st X.env) (SP X pins D) X.xe s
theorem thn {α:Type} {t:Sem α} {Q Q':α->Shared->Prop} {M:Model} {A:Around} {E:Value->Shared->Prop} {s:Shared} (h:wpAny M A t Q E s) (hQ:∀ a s,Q a s->Q' a s):wpAny M A t Q' E s:=wpAny_mono h hQ λ_ _ x=>x
end L2
namespace L2
open PySem PySem.Spec PyProof.Rows
section
variable {X:Cx}
theorem IH {a b:Expr} {ta tb:TE} (ha:PE X a ta) (hb:PE X b tb) {pins:List (Addr×Obj)} {s:Shared} {σ:St} {H:Hp} {R:V->V->Hp->Prop} (I:Inv X pins σ H s) (h:ta σ H λx H1=>tb σ H1 λy H2=>R x y H2)
  {α:Type} {Q:α->Shared->Prop} {f:Value->Value->Sem α}
  (hf:∀ v u s2 x y H2,Inv X pins σ H2 s2->RelV x v->RelV y u->R x y H2->wpAny (model X.prog X.w) X.A (f v u) Q X.xe s2) :
  wpAny (model X.prog X.w) X.A (eval a X.env) (λv s₁=>wpAny (model X.prog X.w) X.A (eval b X.env) (λu s₂=>wpAny (model X.prog X.w) X.A (f v u) Q X.xe s₂) X.xe s₁) X.xe s:=by
 refine thn (ha pins s σ H _ I h) λv s1 Zz=>?_;obtain ⟨x,H1,I1,r1,q1⟩:=Zz
 refine thn (hb pins s1 σ H1 _ I1 q1) λu s2 Zz=>?_;obtain ⟨y,H2,I2,r2,q2⟩:=Zz
 exact hf v u s2 x y H2 I2 r1 r2 q2
def kF (i:Nat):TE:=λσ H Q=>∃ v,σ[i]? = some (some v)/\Q v H
def tC (v:V):TE:=λ_ H Q=>Q v H
theorem zk {i:Nat} {x:Str} {pos:Pos} (hN:X.N[i]? = some x) (hv:fT X.env.scope x) (hd:(x == ("__debug__" : Str))=false:=by decide) (hcd:(x == ("__classdict__" : Str))=false:=by decide):PE X (.Name x pos) (kF i):=by
 intro pins s σ H Q I h
 obtain ⟨v,e,h⟩:=h
 obtain ⟨m,hn,hl⟩:=I.loc
 obtain ⟨u,r,l⟩:=hl i x v hN e hv
 have fin:EP X pins σ Q u s:=⟨v,H,I,r,h⟩
 rcases l with ⟨hk,hm⟩ | ⟨hk,c,hc,hcell⟩
 ·exact wpAny_Name (wpAny_loadName_local I.ok.kind hk hn hm fin) hd
 ·rcases hk with hk | hk
  ·exact wpAny_Name (wpAny_loadName_cell I.ok.kind hk hc hcell fin) hd
  ·exact wpAny_Name (wpAny_loadName_free I.ok.kind hk hc hcell fin hcd) hd
theorem zm {i j pos}:PE X (.Constant (.int i) j pos) (tC (.int i)):=λ_ _ _ H _ I h=>wpAny_Constant_int ⟨.int i,H,I.tok _,⟨_,rfl⟩,h⟩
theorem zp {b j pos}:PE X (.Constant (.bool b) j pos) (tC (.bl b)):=λ_ _ _ H _ I h=>Constant_bool ⟨.bl b,H,I,rfl,h⟩
theorem zq {j pos}:PE X (.Constant .none j pos) (tC .non):=λ_ _ _ H _ I h=>Constant_none ⟨.non,H,I,rfl,h⟩
theorem zr {x j pos}:PE X (.Constant (.str x) j pos) (tC (.str x)):=λ_ _ _ H _ I h=>Calls.Constant_str ⟨.str x,H,I.tok _,⟨_,rfl⟩,h⟩
def Gl (X:Cx) (x:Str):Prop:=X.env.kindOf x=some .globalImplicit
theorem kG {E:Value->Shared->Prop} {pins:List (Addr×Obj)} {s:Shared} {σ:St} {H:Hp} {x:Str} {u:Value} {pos:Pos} {Q:Value->Shared->Prop} (I:Inv X pins σ H s) (hg:Gl X x) (hm:X.mg x=some u) (h:Q u s)
  (hd:(x == ("__debug__" : Str))=false:=by decide):wpAny (model X.prog X.w) X.A (eval (.Name x pos) X.env) Q E s :=
 Calls.Name_function_global I.ok.kind hg (Calls.loadGlobal_global (by rw [I.ok.glob];exact I.mod.glob.keeps I.bk) hm h) hd
theorem fU {E:Value->Shared->Prop} {pins:List (Addr×Obj)} {s:Shared} {σ:St} {H:Hp} {x:Str} {u:Value} {pos:Pos} {Q:Value->Shared->Prop} (I:Inv X pins σ H s) (hg:Gl X x) (hm:X.mg x=none) (hv:bootBuiltins x=some u) (h:Q u s)
  (hn:x ≠ "__name__" := by decide) (hd:(x == ("__debug__" : Str))=false:=by decide):wpAny (model X.prog X.w) X.A (eval (.Name x pos) X.env) Q E s:=by
 obtain ⟨mb,h1,h2⟩:=I.mod.blt
 exact Calls.Name_function_global I.ok.kind hg (Calls.loadGlobal_builtin (by rw [I.ok.glob];exact I.mod.glob.keeps I.bk) hm (by rw [I.ok.blt];exact h1.keeps I.bk) ((h2 x hn).trans hv) h) hd
theorem kH {x:Str} {v:V} {u:Value} {pos:Pos} (hg:Gl X x) (hm:X.mg x=some u) (r:RelV v u) (hd:(x == ("__debug__" : Str))=false:=by decide):PE X (.Name x pos) (tC v) :=
 λ_ _ _ H _ I h=>kG I hg hm ⟨v,H,I,r,h⟩ hd
theorem uI {x:Str} {v:V} {u:Value} {pos:Pos} (hg:Gl X x) (hm:X.mg x=none) (hv:bootBuiltins x=some u) (r:RelV v u) (hn:x ≠ "__name__" := by decide) (hd:(x == ("__debug__" : Str))=false:=by decide):PE X (.Name x pos) (tC v) :=
 λ_ _ _ H _ I h=>fU I hg hm hv ⟨v,H,I,r,h⟩ hn hd
variable {a b:Expr} {ta tb:TE} {pos:Pos}
variable {tA tB':TT} {rest:List Expr}
def pq (t u:TT):TT:=λσ H Q=>t σ H λc H1=>if c=true then u σ H1 Q else Q false H1
def zt (t u:TT):TT:=λσ H Q=>t σ H λc H1=>if c=true then Q true H1 else u σ H1 Q
def pA (t:TT):TT:=λσ H Q=>t σ H λc H1=>Q (!c) H1
theorem zu (ha:PT X a tA):PW X (.BoolOp .And [a] pos) tA:=by
 intro wh pins s σ H Q I h
 refine isTrue_and (thn (ha pins s σ H Q I h) λc s1 e=>?_)
 cases c with
 | true=>exact isTrue_and_nil e
 | false=>exact e
theorem zv (ha:PT X a tA):PW X (.BoolOp .Or [a] pos) tA:=by
 intro wh pins s σ H Q I h
 refine isTrue_or (thn (ha pins s σ H Q I h) λc s1 e=>?_)
 cases c with
 | false=>exact isTrue_or_nil e
 | true=>exact e
theorem zw (ha:PT X a tA) (hb:PW X (.BoolOp .And (b::rest) pos) tB'):PW X (.BoolOp .And (a::b::rest) pos) (pq tA tB'):=by
 intro wh pins s σ H Q I h
 refine isTrue_and (thn (ha pins s σ H _ I h) λc s1 Zz=>?_);obtain ⟨H1,I1,q1⟩:=Zz
 cases c with
 | true=>exact hb wh pins s1 σ H1 Q I1 q1
 | false=>exact ⟨H1,I1,q1⟩
theorem zx (ha:PT X a tA) (hb:PW X (.BoolOp .Or (b::rest) pos) tB'):PW X (.BoolOp .Or (a::b::rest) pos) (zt tA tB'):=by
 intro wh pins s σ H Q I h
 refine isTrue_or (thn (ha pins s σ H _ I h) λc s1 Zz=>?_);obtain ⟨H1,I1,q1⟩:=Zz
 cases c with
 | true=>exact ⟨H1,I1,q1⟩
 | false=>exact hb wh pins s1 σ H1 Q I1 q1
theorem zy (ha:PT X a tA):PT X (.UnaryOp .Not a pos) (pA tA):=by
 intro pins s σ H Q I h
 exact isTrue_not (ha pins s σ H (λc H1=>Q (!c) H1) I h)
def zA (ta tb:TE):TE:=λσ H Q=>ta σ H λx H1=>∃ c,x = .bl c/\if c=true then tb σ H1 Q else Q (.bl false) H1
def pB (ta tb:TE):TE:=λσ H Q=>ta σ H λx H1=>∃ c,x = .bl c/\if c=true then Q (.bl true) H1 else tb σ H1 Q
def zB (ta:TE):TE:=λσ H Q=>ta σ H λx H1=>∃ c,x = .bl c/\Q (.bl (!c)) H1
theorem zC {op} {t:TE} (h:PE X a t):PE X (.BoolOp op [a] pos) t:=λpins s σ H Q I hw=>BoolOp_one (h pins s σ H Q I hw)
theorem zD (ha:PE X a ta) (hb:PE X (.BoolOp .And (b::rest) pos) tb):PE X (.BoolOp .And (a::b::rest) pos) (zA ta tb):=by
 intro pins s σ H Q I h
 refine BoolOp_and (thn (ha pins s σ H _ I h) λv s1 Zz=>?_);obtain ⟨x,H1,I1,r1,q1⟩:=Zz
 obtain ⟨c,rfl,q1⟩:=q1
 cases r1
 refine wpAny_truthy_bool ?_
 cases c with
 | true=>exact hb pins s1 σ H1 Q I1 q1
 | false=>exact ⟨.bl false,H1,I1,rfl,q1⟩
theorem zE (ha:PE X a ta) (hb:PE X (.BoolOp .Or (b::rest) pos) tb):PE X (.BoolOp .Or (a::b::rest) pos) (pB ta tb):=by
 intro pins s σ H Q I h
 refine BoolOp_or (thn (ha pins s σ H _ I h) λv s1 Zz=>?_);obtain ⟨x,H1,I1,r1,q1⟩:=Zz
 obtain ⟨c,rfl,q1⟩:=q1
 cases r1
 refine wpAny_truthy_bool ?_
 cases c with
 | false=>exact hb pins s1 σ H1 Q I1 q1
 | true=>exact ⟨.bl true,H1,I1,rfl,q1⟩
theorem zF (ha:PE X a ta):PE X (.UnaryOp .Not a pos) (zB ta):=by
 intro pins s σ H Q I h
 refine UnaryOp_ (thn (ha pins s σ H _ I h) λv s1 Zz=>?_);obtain ⟨x,H1,I1,r1,q1⟩:=Zz
 obtain ⟨c,rfl,q1⟩:=q1
 cases r1
 exact not_of (wpAny_truthy_bool ⟨.bl (!c),H1,I1,rfl,q1⟩)
end
end L2
namespace L2
open PySem PySem.Spec PyProof.Rows
def SqL (K:PySem.W.Frag) (H:Hp) (a:Addr) (xs:List V):Prop :=
 Rd H a (.lst xs) \/
  ∃ (o:Obj) (its:Array Value) (n:Nat),K.lookup a=some o/\o.cls = .type "list" /\ o.dict=none/\o.data = .seq its n/\its.size<=sizeLine/\Vals xs its.toList
def SqT (K:PySem.W.Frag) (H:Hp) (a:Addr) (xs:List V):Prop :=
 Rd H a (.tup xs) \/
  ∃ (o:Obj) (its:Array Value) (n:Nat),K.lookup a=some o/\o.cls = .type "tuple" /\ o.data = .seq its n/\its.size<=sizeLine/\Vals xs its.toList
def pC:Value->Option V
 | .none=>some .non
 | .bool b=>some (.bl b)
 | .int i _=>some (.int i)
 | .str x _=>some (.str x)
 | .bytes b _=>some (.byt b)
 | .float b _=>some (.flt b)
 | .ref a=>some (.ref a)
 | .type n=>some (.ty n)
 | _=>none
theorem RelV.abs {x:V} {u:Value} (r:RelV x u):pC u=some x:=by
 cases x with
 | non=>cases r;rfl
 | bl _=>cases r;rfl
 | int _=>obtain ⟨t,rfl⟩:=r;rfl
 | str _=>obtain ⟨t,rfl⟩:=r;rfl
 | byt _=>obtain ⟨t,rfl⟩:=r;rfl
 | flt _=>obtain ⟨t,rfl⟩:=r;rfl
 | ref _=>cases r;rfl
 | ty _=>cases r;rfl
theorem RelV.inj {x y:V} {u:Value} (r:RelV x u) (q:RelV y u):x=y:=Option.some.inj (r.abs.symm.trans q.abs)
theorem Vals.inj:∀ {xs ys:List V} {us:List Value},Vals xs us->Vals ys us->xs=ys
 | _,_,_,.nil,.nil=>rfl
 | _,_,_,.cons r t,.cons r' t' => by rw [r.inj r',Vals.inj t t']
section
variable {X:Cx} {pins:List (Addr×Obj)} {σ:St} {H:Hp} {s:Shared} {a:Addr} {xs ys:List V}
theorem SqL.of {K:PySem.W.Frag} (h:H a=some (.lst xs)):SqL K H a xs:=.inl (.inl h)
theorem SqT.of {K:PySem.W.Frag} (h:H a=some (.tup xs)):SqT K H a xs:=.inl (.inl h)
theorem Inv.list (I:Inv X pins σ H s) (h:SqL X.K H a xs):∃ its:List Value,Vals xs its/\PlainL s.heap a its.toArray/\xs.length<=sizeLine:=by
 rcases h with h | ⟨o,its,n,hk,hc,hd,hs,hz,r⟩
 ·obtain ⟨z,its,n,r,e⟩:=h.ok I.hok
  exact ⟨its,r,⟨_,n,e,rfl,rfl,rfl⟩,z⟩
 ·refine ⟨its.toList,r,⟨o,n,I.kIn a o hk,hc,hd,by simpa using hs⟩,?_⟩
  have e:=r.length
  simp only [Array.length_toList] at e
  omega
theorem Inv.tuple (I:Inv X pins σ H s) (h:SqT X.K H a xs):∃ its:List Value,Vals xs its/\IsTup s.heap a its.toArray/\xs.length<=sizeLine:=by
 rcases h with h | ⟨o,its,n,hk,hc,hs,hz,r⟩
 ·obtain ⟨z,its,r,p⟩:=h.ok I.hok
  exact ⟨its,r,p,z⟩
 ·refine ⟨its.toList,r,⟨o,I.kIn a o hk,hc,n,by simpa using hs⟩,?_⟩
  have e:=r.length
  simp only [Array.length_toList] at e
  omega
theorem Inv.list_inj (I:Inv X pins σ H s) (h:SqL X.K H a xs) (h':SqL X.K H a ys):xs=ys:=by
 obtain ⟨its,r,⟨o,n,e,_,_,d⟩,_⟩:=I.list h
 obtain ⟨its',r',⟨o',n',e',_,_,d'⟩,_⟩:=I.list h'
 rw [e] at e';cases e'
 rw [d] at d'
 injection d' with d1 _
 have:its=its' := by simpa using congrArg Array.toList d1
 subst this
 exact r.inj r'
theorem Inv.tuple_inj (I:Inv X pins σ H s) (h:SqT X.K H a xs) (h':SqT X.K H a ys):xs=ys:=by
 obtain ⟨its,r,⟨o,e,_,n,d⟩,_⟩:=I.tuple h
 obtain ⟨its',r',⟨o',e',_,n',d'⟩,_⟩:=I.tuple h'
 rw [e] at e';cases e'
 rw [d] at d'
 injection d' with d1 _
 have:its=its' := by simpa using congrArg Array.toList d1
 subst this
 exact r.inj r'
end
abbrev Cx.wish (X:Cx) (E:Value->Shared->Prop):Cx:={ X with xe:=E }
abbrev Cx.nox (X:Cx):Cx:=X.wish λ_ _=>False
theorem Cx.Ok.wish {X:Cx} (ok:X.Ok) (E:Value->Shared->Prop):(X.wish E).Ok :=
 ⟨ok.mod,ok.kind,ok.glob,ok.blt,ok.above,ok.inj,ok.has,ok.cab,ok.hd,ok.frames,ok.stk,ok.exf,ok.bs,ok.bsz,ok.noex,ok.exfs,ok.funs,ok.frf⟩
theorem Cx.Ok.unwish {X:Cx} {E:Value->Shared->Prop} (ok:(X.wish E).Ok):X.Ok :=
 ⟨ok.mod,ok.kind,ok.glob,ok.blt,ok.above,ok.inj,ok.has,ok.cab,ok.hd,ok.frames,ok.stk,ok.exf,ok.bs,ok.bsz,ok.noex,ok.exfs,ok.funs,ok.frf⟩
section
variable {X:Cx} {pins:List (Addr×Obj)} {σ:St} {H:Hp} {s:Shared} {E:Value->Shared->Prop}
theorem Inv.wish (I:Inv X pins σ H s) (E:Value->Shared->Prop):Inv (X.wish E) pins σ H s:=⟨I.ok.wish E,I.os,I.bare,I.base,I.loc,I.cell,I.free,I.freeC,I.pin,I.hok,I.len⟩
theorem Inv.unwish (I:Inv (X.wish E) pins σ H s):Inv X pins σ H s:=⟨I.ok.unwish,I.os,I.bare,I.base,I.loc,I.cell,I.free,I.freeC,I.pin,I.hok,I.len⟩
theorem SP.unwish {D:cM} {f:Flow} {s':Shared} (h:SP (X.wish E) pins D f s'):SP X pins D f s' := by
 cases f with
 | next=>obtain ⟨σ',H',I,q⟩:=h;exact ⟨σ',H',I.unwish,q⟩
 | brk=>obtain ⟨σ',H',I,q⟩:=h;exact ⟨σ',H',I.unwish,q⟩
 | cont=>obtain ⟨σ',H',I,q⟩:=h;exact ⟨σ',H',I.unwish,q⟩
 | ret u=>obtain ⟨v,σ',H',I,r,q⟩:=h;exact ⟨v,σ',H',I.unwish,r,q⟩
end
section
variable {X:Cx} {st:Stmt} {rest:List Stmt} {t u:TS} {e:Expr} {te:TE} {pos:Pos}
def zG:TS:=λD σ H=>D.nx σ H
def pD (t u:TS):TS:=λD σ H=>t { D with nx:=u D } σ H
theorem zH:eX X [] zG:=λ_ _ σ H _ I h=>wpAny_execs_nil ⟨σ,H,I,h⟩
theorem zI (h1:PS X st t) (h2:eX X rest u):eX X (st::rest) (pD t u):=by
 intro pins s σ H D I h
 refine wpAny_execs_cons (thn (h1 pins s σ H { D with nx:=u D } I h) λf s1 q=>?_)
 cases f with
 | next =>
  obtain ⟨σ',H',I',q⟩:=q
  exact h2 pins s1 σ' H' D I' q
 | ret v=>exact q
 | brk=>exact q
 | cont=>exact q
theorem zJ (h1:PS X st t):eX X [st] t:=by
 intro pins s σ H D I h
 refine wpAny_execs_cons (thn (h1 pins s σ H D I h) λf s1 q=>?_)
 cases f with
 | next=>exact wpAny_execs_nil q
 | ret v=>exact q
 | brk=>exact q
 | cont=>exact q
theorem Inv.quiet {pins:List (Addr×Obj)} {σ:St} {H:Hp} {s:Shared} (I:Inv X pins σ H s):interactive X.env=false:=by simp [interactive,I.ok.kind]
def zK (te:TE):TS:=λD σ H=>te σ H λ_ H1=>D.nx σ H1
theorem zL (he:PE X e te) (hs:swapsWith e none pos.line X.env=pure false:=by rfl):PS X (.Expr e pos) (zK te):=by
 intro pins s σ H D I h
 exact wpAny_Expr_any (thn (he pins s σ H _ I h) λv s1 ⟨x,H1,I1,r1,q1⟩=>⟨σ,H1,I1,q1⟩) I.quiet hs
def pE (te:TE):TS:=λD σ H=>te σ H D.rt
theorem zM (he:PE X e te):PS X (.Return (some e) pos) (pE te):=by
 intro pins s σ H D I h
 exact wpAny_Return_some (thn (he pins s σ H _ I h) λv s1 ⟨x,H1,I1,r1,q1⟩=>⟨x,σ,H1,I1,r1,q1⟩)
def pF (c:TT) (t u:TS):TS:=λD σ H=>c σ H λb H1=>if b=true then t D σ H1 else u D σ H1
theorem zN {c:Expr} {a b:List Stmt} {tc:TT} (hc:PT X c tc) (ha:eX X a t) (hb:eX X b u):PS X (.If c a b pos) (pF tc t u):=by
 intro pins s σ H D I h
 refine wpAny_If (thn (hc pins s σ H _ I h) λd s1 Zz=>?_);obtain ⟨H1,I1,q1⟩:=Zz
 cases d with
 | true=>exact ha pins s1 σ H1 D I1 q1
 | false=>exact hb pins s1 σ H1 D I1 q1
end
abbrev TG:=V->St->Hp->(St->Hp->Prop)->Prop
def PG (X:Cx) (target:Expr) (t:TG):Prop :=
 ∀ (pins:List (Addr×Obj)) (s:Shared) (σ:St) (H:Hp) (v:V) (u:Value) (Q:St->Hp->Prop),Inv X pins σ H s->RelV v u->t v σ H Q ->
  wpAny (model X.prog X.w) X.A (assign target X.env u) (λ_ s' => ∃ σ' H',Inv X pins σ' H' s'/\Q σ' H') X.xe s
abbrev jm:=V->V->V->Hp->(Hp->Prop)->Prop
def kI (X:Cx) (t:jm):Prop :=
 ∀ (pins:List (Addr×Obj)) (s:Shared) (σ:St) (H:Hp) (o i v:V) (ov iv u:Value) (Q:Hp->Prop),Inv X pins σ H s->RelV o ov->RelV i iv->RelV v u->t o i v H Q ->
  wpAny (model X.prog X.w) X.A (setItem ov iv u) (λ_ s' => ∃ H',Inv X pins σ H' s'/\Q H') X.xe s
section
variable {X:Cx} {pos:Pos}
def j8 (i:Nat):TG:=λv σ H Q=>Q (σ.set i (some v)) H
theorem uJ {i:Nat} {x:Str} (hN:X.N.Nodup) (hi:X.N[i]? = some x) (hx:j7 X.env.scope x) (hf:X.fn x=true\/X.env.scope.names.lookup x=some .local:=by first | exact .inl rfl | exact .inr rfl | assumption):PG X (.Name x pos) (j8 i):=by
 intro pins s σ H v u Q I r h
 exact wpAny_assign_Name (pk I hN hi hx r (λs' I' => ⟨_,H,I',h⟩) hf)
def pG (to ti:TE) (t:jm):TG:=λv σ H Q=>to σ H λo H1=>ti σ H1 λi H2=>t o i v H2 λH3=>Q σ H3
theorem zO {o i:Expr} {to ti:TE} {t:jm} (ho:PE X o to) (hi:PE X i ti) (hs:kI X t)
  (ha:∀ v,assign (.Subscript o i pos) X.env v=(do
   let ov <- holding [v] (eval o X.env)
   let iv <- holding [v,ov] (eval i X.env)
   standAt pos
   holding [v,ov,iv] (setItem ov iv v)
   release [v,ov,iv] []):=by intro _;rfl):PG X (.Subscript o i pos) (pG to ti t):=by
 intro pins s σ H v u Q I r h
 rw [ha]
 refine wpAny_bind (wpAny_holding (thn (ho pins s σ H _ I h) λov s1 Zz=>?_));obtain ⟨x,H1,I1,r1,q1⟩:=Zz
 refine wpAny_bind (wpAny_holding (thn (hi pins s1 σ H1 _ I1 q1) λiv s2 Zz=>?_));obtain ⟨y,H2,I2,r2,q2⟩:=Zz
 refine wpAny_bind (wpAny_standAt (wpAny_bind (wpAny_holding (thn (hs pins s2 σ H2 x y v ov iv u _ I2 r1 r2 r q2) λ_ s3 Zz=>?_))));obtain ⟨H3,I3,q3⟩:=Zz
 exact wpAny_release ⟨σ,H3,I3,q3⟩
def hE (te:TE) (g:TG):TS:=λD σ H=>te σ H λx H1=>g x σ H1 D.nx
theorem zP {tg e:Expr} {te:TE} {g:TG} (he:PE X e te) (hg:PG X tg g) (hs:swapsWithSole [tg] e pos.line X.env=pure false:=by rfl) (hw:swappedStores [tg] e X.env=pure none:=by rfl)
  (h1:(assignEach [tg] X.env).map (·.2)=[assign tg X.env]:=by rfl):PS X (.Assign [tg] e pos) (hE te g):=by
 intro pins s σ H D I h
 refine wpAny_Assign_stores (thn (he pins s σ H _ I h) λv s1 Zz=>?_) hs hw;obtain ⟨x,H1,I1,r1,q1⟩:=Zz
 rw [h1]
 exact thn (hg pins s1 σ H1 x v _ I1 r1 q1) λ_ s2 q=>q
theorem zQ {i:Nat} {x:Str} {e:Expr} {te:TE} {pos':Pos} (hN:X.N.Nodup) (hi:X.N[i]? = some x) (hx:j7 X.env.scope x) (he:PE X e te) (hs:swapsWith e (some (.Name x pos')) pos.line X.env=pure false:=by rfl) (hf:X.fn x=true\/X.env.scope.names.lookup x=some .local:=by first | exact .inl rfl | exact .inr rfl | assumption) :
  PS X (.Assign [.Name x pos'] e pos) (hE te (j8 i)):=by
 intro pins s σ H D I h
 refine wpAny_Assign_Name (thn (he pins s σ H _ I h) λv s1 Zz=>?_) hs;obtain ⟨y,H1,I1,r1,q1⟩:=Zz
 exact pk I1 hN hi hx r1 (λs2 I2=>⟨_,H1,I2,q1⟩) hf
end
section
variable {X:Cx} {pos:Pos}
def zR (c:TT) (tb:TS):TS:=λD σ H=>∃ W:Nat->St->Hp->Prop,(∃ m,W m σ H)/\∀ m σ H,W m σ H ->
 c σ H λb H1=>if b=true then ∃ N:St->Hp->Prop,(∀ σ' H',N σ' H'->∃ m',m'<m/\W m' σ' H')/\tb { D with nx:=N,ct:=N,bk:=D.nx } σ H1 else D.nx σ H1
theorem uK {c:Expr} {body:List Stmt} {tc:TT} {tb:TS} (hp:PassesOwn (model X.prog X.w) X.A X.env X.xe) (hc:PT X c tc) (hb:eX X body tb):PS X (.While c body [] pos) (zR tc tb):=by
 intro pins s σ H D I h
 obtain ⟨W,⟨m0,w0⟩,turn⟩:=h
 refine wpAny_While (codeAny_whileLoop (λn s' => ∃ σ' H',Inv X pins σ' H' s'/\W n σ' H') ?_ m0 ⟨σ,H,I,w0⟩)
 rintro n s1 ⟨σ1,H1,I1,w1⟩
 refine wpAny_passesOwn hp (thn (hc pins s1 σ1 H1 _ I1 (turn n σ1 H1 w1)) λb s2 Zz=>?_);obtain ⟨H2,I2,q2⟩:=Zz
 cases b with
 | true =>
  obtain ⟨N,hN,q2⟩:=q2
  rw [if_pos rfl]
  refine wpAny_passesOwn hp (thn (hb pins s2 σ1 H2 _ I2 q2) λf s3 q3=>?_)
  cases f with
  | next =>
   obtain ⟨σ3,H3,I3,n3⟩:=q3
   obtain ⟨m',hm,w3⟩:=hN σ3 H3 n3
   exact ⟨m',hm,σ3,H3,I3,w3⟩
  | cont =>
   obtain ⟨σ3,H3,I3,n3⟩:=q3
   obtain ⟨m',hm,w3⟩:=hN σ3 H3 n3
   exact ⟨m',hm,σ3,H3,I3,w3⟩
  | brk=>exact q3
  | ret v=>exact q3
 | false =>
  rw [if_neg Bool.false_ne_true]
  exact wpAny_execs_nil ⟨σ1,H2,I2,q2⟩
end
structure It where
 go:Nat->Hp->Prop
 yld:Nat->Hp->V->Hp->Prop
 stop:Nat->Hp->Prop
def cX (X:Cx) (pins:List (Addr×Obj)) (H:Hp) (b:Addr):Prop :=
 H b=none/\b≠X.env.locals/\b∉X.fs/\(b∈X.ex\/X.s₀.heap.objs.size<=b)/\(∀ x c,X.env.cells.lookup x=some c->c≠b)/\∀ p∈X.pn++pins,p.1≠b
theorem Inv.fpOk {X:Cx} {pins:List (Addr×Obj)} {σ:St} {H H':Hp} {s:Shared} {b:Addr} (I:Inv X pins σ H s) (hb:s.heap.objs.size<=b) (hn:H' b=none):cX X pins H' b:=by
 refine ⟨hn,Nat.ne_of_gt (Nat.lt_of_lt_of_le I.lt hb),I.nofs hb,.inr (Nat.le_trans I.sz hb),λx c e z=>?_,λp hp z=>?_⟩
 ·obtain ⟨v,q⟩:=I.cell x c e
  exact absurd (Nat.lt_of_lt_of_le q.lt (by rw [z];exact hb)) (Nat.lt_irrefl _)
 ·exact absurd (Nat.lt_of_lt_of_le (Heap.lt_size (I.pin p hp).1) (by rw [z];exact hb)) (Nat.lt_irrefl _)
structure eZ (P:Program) (w:World) (K:PySem.W.Frag) (tg:Expr) (J:It) (fp:List Addr) (it:Addr) (tn:Nat->Heap->Prop):Prop where
 mem:it∈fp
 obj:∀ i h,tn i h->∀ b∈fp,∃ o,h.get? b=some o/\∀ v,o.data ≠ .cell v
 keep:∀ i h h',tn i h->(∀ b∈fp,∀ o,h.get? b=some o->h'.get? b=some o)->tn i h'
 item:∀ (X:Cx),X.prog=P->X.w=w->X.K=K->X.calm=true->∀ (i:Nat) (pins:List (Addr×Obj)) (s:Shared) (σ:St) (H:Hp) (E:Value->Shared->Prop),Inv X pins σ H s->(∀ b∈fp,cX X pins H b)->tn i s.heap->J.go i H ->
  wpAny (model P w) X.A (pyNext (.ref it)) (λr s1=>∃ u,r=some u /\
   wpAny (model P w) X.A (letOwnedTupleGo tg (.ref it) u) (λ_ s2=>∃ x H',Inv X pins σ H' s2/\RelV x u/\J.yld i H x H'/\tn (i+1) s2.heap/\∀ b∈fp,H' b=none) E s1) E s
 done:∀ (X:Cx),X.prog=P->X.w=w->X.K=K->X.calm=true->∀ (i:Nat) (pins:List (Addr×Obj)) (s:Shared) (σ:St) (H:Hp) (E:Value->Shared->Prop),Inv X pins σ H s->(∀ b∈fp,cX X pins H b)->tn i s.heap->J.stop i H ->
  wpAny (model P w) X.A (pyNext (.ref it)) (λr s1=>r=none/\Inv X pins σ H s1) E s
 self:∀ (A:Around) (i:Nat) (s:Shared) (Q:Value->Shared->Prop) (E:Value->Shared->Prop),tn i s.heap->Q (.ref it) s->wpAny (model P w) A (pyIter (.ref it)) Q E s
abbrev TI:=St->Hp->(It->Hp->Prop)->Prop
def pH (X:Cx) (pins:List (Addr×Obj)) (σ:St) (tg:Expr) (R:It->Hp->Prop) (itv:Value) (s2:Shared):Prop :=
 ∃ (it:Addr) (fp:List Addr) (tn:Nat->Heap->Prop) (J:It) (H':Hp),itv = .ref it/\Inv X pins σ H' s2/\eZ X.prog X.w X.K tg J fp it tn/\tn 0 s2.heap/\(∀ b∈fp,cX X pins H' b)/\R J H'
def PI (X:Cx) (tg iter:Expr) (wi:TI):Prop :=
 ∀ (pins:List (Addr×Obj)) (s:Shared) (σ:St) (H:Hp) (R:It->Hp->Prop),Inv X pins σ H s->wi σ H R ->
  wpAny (model X.prog X.w) X.A (eval iter X.env) (λv s1=>wpAny (model X.prog X.w) X.A (pyIter v) (pH X pins σ tg R) X.xe s1) X.xe s
theorem kJ {M:Model} {A:Around} {E:Value->Shared->Prop} {s:Shared} {tg:Expr} {it:Addr} {u:Value} {o:Obj} {n:String} {vs:Array Value} {Q:Unit->Shared->Prop} (ho:s.heap.get? it=some o) (hc:o.cls = .type n) (hd:o.data = .fields vs)
  (hn:["enumerate", "zip", "dict_itemiterator", "dict_reverseitemiterator", "odict_iterator", "itertools.zip_longest", "itertools.pairwise"].contains n=false) (hQ:Q () s):wpAny M A (letOwnedTupleGo tg (.ref it) u) Q E s:=by
 unfold letOwnedTupleGo
 cases tg<;>first
  | exact wpAny_pure hQ
  | (cases u<;>first
    | exact wpAny_pure hQ
    | (refine wpAny_bind (wpAny_load ho ?_)
       rw [hc,hd]
       show wpAny M A (if (["enumerate", "zip", "dict_itemiterator", "dict_reverseitemiterator", "odict_iterator", "itertools.zip_longest", "itertools.pairwise"].contains n && vs[0]? == some (rawInt _))=true then _ else _) Q E s
       rw [if_neg (by intro h;rw [hn,Bool.false_and] at h;cases h)]
       exact wpAny_pure hQ))
def mH (K:PySem.W.Frag) (a:Addr):It :=
 ⟨λi H=>∃ xs x,SqL K H a xs/\xs[i]? = some x,λi H x H' => H'=H/\∀ xs,SqL K H a xs->xs[i]? = some x,λi H=>∃ xs,SqL K H a xs/\xs.length<=i⟩
def pI (K:PySem.W.Frag) (a:Addr):It :=
 ⟨λi H=>∃ xs x,SqT K H a xs/\xs[i]? = some x,λi H x H' => H'=H/\∀ xs,SqT K H a xs->xs[i]? = some x,λi H=>∃ xs,SqT K H a xs/\xs.length<=i⟩
def mI (lo:Int) (n:Nat):It:=⟨λi _=>i<n,λi H x H' => H'=H/\x = .int (lo+i),λi _=>n<=i⟩
theorem zS {P:Program} {w:World} {K:PySem.W.Frag} {tg:Expr} (a it:Addr):eZ P w K tg (mH K a) [it] it (λi h=>h.IsListIter it a i) where
 mem:=by simp
 obj:=λi h st b hb=>by
  have e:b=it:=by simpa using hb
  subst e
  obtain ⟨o,e,c,d⟩:=st
  exact ⟨o,e,λv z=>by rw [d] at z;cases z⟩
 keep:=λi h h' st k=>st.at λo e=>k it (by simp) o e
 item:=by
  intro X hP hw hK hc i pins s σ H E I hf st hg
  subst hP hw hK
  obtain ⟨xs,x,hq,hx⟩:=hg
  obtain ⟨its,rv,p,hz⟩:=I.list hq
  obtain ⟨u,hu,ru⟩:=rv.get hx
  obtain ⟨f0,f1,f2,f3,f4,f5⟩:=hf it (by simp)
  refine wpAny_pyNext_list_item st p.isList (x:=u) (by simpa using hu) λh' st' sb=>?_
  have I1:Inv X pins σ H { s with heap:=h' }:=I.turned (t' := s.toks) (λb o hb e=>(sb.2 b hb).trans e) f0 f1 f3 f4 f5
  obtain ⟨o,e,c,d⟩:=id st'
  exact ⟨u,rfl,kJ (s:={ s with heap:=h' }) e c d (by decide) ⟨x,H,I1,ru,⟨rfl,λys hy=>by rw [I.list_inj hy hq];exact hx⟩,st',λb hb=>(hf b hb).1⟩⟩
 done:=by
  intro X hP hw hK hc i pins s σ H E I hf st hg
  subst hP hw hK
  obtain ⟨xs,hq,hx⟩:=hg
  obtain ⟨its,rv,p,hz⟩:=I.list hq
  obtain ⟨f0,f1,f2,f3,f4,f5⟩:=hf it (by simp)
  have hl:=rv.length
  exact wpAny_pyNext_list_end (I.ok.hd hc) st p.isList (by simp;omega) λh' eb=>⟨rfl,I.turned (t' := s.toks) (λb o hb e=>eb b o hb e) f0 f1 f3 f4 f5⟩
 self:=λ_ _ _ _ _ st h=>wpAny_pyIter_listiter st h
theorem zT {P:Program} {w:World} {K:PySem.W.Frag} {tg:Expr} (a it:Addr):eZ P w K tg (pI K a) [it] it (λi h=>h.IsTupleIter it a i) where
 mem:=by simp
 obj:=λi h st b hb=>by
  have e:b=it:=by simpa using hb
  subst e
  obtain ⟨o,e,c,d⟩:=st
  exact ⟨o,e,λv z=>by rw [d] at z;cases z⟩
 keep:=λi h h' st k=>st.at λo e=>k it (by simp) o e
 item:=by
  intro X hP hw hK hc i pins s σ H E I hf st hg
  subst hP hw hK
  obtain ⟨xs,x,hq,hx⟩:=hg
  obtain ⟨its,rv,p,hz⟩:=I.tuple hq
  obtain ⟨u,hu,ru⟩:=rv.get hx
  obtain ⟨f0,f1,f2,f3,f4,f5⟩:=hf it (by simp)
  refine wpAny_pyNext_tuple_item st (show s.heap.IsTuple a its.toArray from p) (x:=u) (by simpa using hu) λh' st' sb=>?_
  have I1:Inv X pins σ H { s with heap:=h' }:=I.turned (t' := s.toks) (λb o hb e=>(sb.2 b hb).trans e) f0 f1 f3 f4 f5
  obtain ⟨o,e,c,d⟩:=id st'
  exact ⟨u,rfl,kJ (s:={ s with heap:=h' }) e c d (by decide) ⟨x,H,I1,ru,⟨rfl,λys hy=>by rw [I.tuple_inj hy hq];exact hx⟩,st',λb hb=>(hf b hb).1⟩⟩
 done:=by
  intro X hP hw hK hc i pins s σ H E I hf st hg
  subst hP hw hK
  obtain ⟨xs,hq,hx⟩:=hg
  obtain ⟨its,rv,p,hz⟩:=I.tuple hq
  obtain ⟨f0,f1,f2,f3,f4,f5⟩:=hf it (by simp)
  have hl:=rv.length
  exact wpAny_pyNext_tuple_end (I.ok.hd hc) st (show s.heap.IsTuple a its.toArray from p) (by simp;omega) λh' eb=>⟨rfl,I.turned (t' := s.toks) (λb o hb e=>eb b o hb e) f0 f1 f3 f4 f5⟩
 self:=λ_ _ _ _ _ st h=>wpAny_pyIter_tupleiter st h
theorem zU {P:Program} {w:World} {K:PySem.W.Frag} {tg:Expr} (it:Addr) (lo:Int) (n:Nat):eZ P w K tg (mI lo n) [it] it (λi h=>IsRangeIter h it (lo+(i:Nat)*1) ((n:Int)-(i:Nat)) 1) where
 mem:=by simp
 obj:=λi h st b hb=>by
  have e:b=it:=by simpa using hb
  subst e
  exact ⟨_,st,λv z=>by
   have z':Data.fields _=Data.cell v:=z
   cases z'⟩
 keep:=λi h h' st k=>k it (by simp) _ st
 item:=by
  intro X hP hw hK hc i pins s σ H E I hf st hg
  subst hP hw hK
  obtain ⟨f0,f1,f2,f3,f4,f5⟩:=hf it (by simp)
  have W:=Walks.range (prog:=X.prog) (w:=X.w) (I.ok.hd hc) it lo 1 n
  refine W.item i s _ _ hg st λv h' tk hv st' kk=>?_
  obtain ⟨t,rfl⟩:=hv
  have I1:Inv X pins σ H { s with heap:=h',toks:=tk }:=I.turned (λb o hb e=>kk b o (by simpa using hb) e) f0 f1 f3 f4 f5
  refine ⟨_,rfl,kJ (s:={ s with heap:=h',toks:=tk }) (n := "range_iterator") st' rfl rfl (by decide) ⟨.int (lo+i),H,I1,⟨t,?_⟩,⟨rfl,rfl⟩,st',λb hb=>(hf b hb).1⟩⟩
  rw [Int.mul_one]
 done:=by
  intro X hP hw hK hc i pins s σ H E I hf st hg
  subst hP hw hK
  obtain ⟨f0,f1,f2,f3,f4,f5⟩:=hf it (by simp)
  exact wpAny_pyNext_range_end (I.ok.hd hc) st (by have:n<=i:=hg;omega) λh' eb=>⟨rfl,I.turned (t' := s.toks) (λb o hb e=>eb b o hb e) f0 f1 f3 f4 f5⟩
 self:=λ_ _ _ _ _ st h=>wpAny_pyIter_rangeiter st h
end L2
namespace L2
open PySem PySem.Spec PyProof.Rows
section
variable {X:Cx} {tg:Expr}
def uL (K:PySem.W.Frag) (tl:TE):TI:=λσ H R=>tl σ H λx H1=>∃ a,x = .ref a/\(∃ xs,SqL K H1 a xs)/\R (mH K a) H1
def kK (K:PySem.W.Frag) (tl:TE):TI:=λσ H R=>tl σ H λx H1=>∃ a,x = .ref a/\(∃ xs,SqT K H1 a xs)/\R (pI K a) H1
theorem uM {l:Expr} {tl:TE} (hl:PE X l tl):PI X tg l (uL X.K tl):=by
 intro pins s σ H R I h
 refine thn (hl pins s σ H _ I h) λv s1 Zz=>?_;obtain ⟨x,H1,I1,r1,q1⟩:=Zz
 obtain ⟨a,e,⟨xs,hq⟩,q⟩:=q1
 subst e
 cases r1
 obtain ⟨its,rv,p,hz⟩:=I1.list hq
 refine wpAny_pyIter_list p.isList ?_
 refine ⟨s1.heap.objs.size,[s1.heap.objs.size],_,_,H1,rfl,I1.kept (t' := s1.toks) λb o e=>Heap.get?_push_of_some _ e,zS a _,⟨_,Heap.get?_push_size _ rfl,rfl,rfl⟩,λb hb=>?_,q⟩
 have e:b=s1.heap.objs.size:=by simpa using hb
 subst e
 exact I1.fpOk (Nat.le_refl _) (I1.hok.fresh (Nat.le_refl _))
theorem zV {l:Expr} {tl:TE} (hl:PE X l tl):PI X tg l (kK X.K tl):=by
 intro pins s σ H R I h
 refine thn (hl pins s σ H _ I h) λv s1 Zz=>?_;obtain ⟨x,H1,I1,r1,q1⟩:=Zz
 obtain ⟨a,e,⟨xs,hq⟩,q⟩:=q1
 subst e
 cases r1
 obtain ⟨its,rv,p,hz⟩:=I1.tuple hq
 refine wpAny_pyIter_tuple (show s1.heap.IsTuple a its.toArray from p) ?_
 refine ⟨s1.heap.objs.size,[s1.heap.objs.size],_,_,H1,rfl,I1.kept (t' := s1.toks) λb o e=>Heap.get?_push_of_some _ e,zT a _,⟨_,Heap.get?_push_size _ rfl,rfl,rfl⟩,λb hb=>?_,q⟩
 have e:b=s1.heap.objs.size:=by simpa using hb
 subst e
 exact I1.fpOk (Nat.le_refl _) (I1.hok.fresh (Nat.le_refl _))
theorem zW {pins:List (Addr×Obj)} {σ:St} {H:Hp} {s:Shared} {R:It->Hp->Prop} {E:Value->Shared->Prop} {lo hi:Int} {t u v:Tok} {tk:Nat} (I:Inv X pins σ H s) (h1 : -(2 ^ 62)<=lo) (h2:lo<2 ^ 62) (h3 : -(2 ^ 62)<=hi) (h4:hi<2 ^ 62)
  (q:R (mI lo (hi-lo).toNat) H):wpAny (model X.prog X.w) X.A (pyIter (.ref s.heap.objs.size)) (pH X pins σ tg R) E { s with heap:=s.heap.push { cls:=.type "range",data:=.fields #[.int lo t,.int hi u,.int 1 v] },toks:=tk }:=by
 refine wpAny_pyIter_range (IsRange.new ..) (small_one h1 h2 h3 h4) ?_
 have I1:Inv X pins σ H { s with heap:=s.heap.push { cls:=.type "range",data:=.fields #[.int lo t,.int hi u,.int 1 v] },toks:=tk }:=I.kept λb o e=>Heap.get?_push_of_some _ e
 refine ⟨(s.heap.push { cls:=.type "range",data:=.fields #[.int lo t,.int hi u,.int 1 v] }).objs.size,[(s.heap.push { cls:=.type "range",data:=.fields #[.int lo t,.int hi u,.int 1 v] }).objs.size],_,_,H,rfl,
  I1.kept (t' := tk) λb o e=>Heap.get?_push_of_some _ e,zU _ lo (hi-lo).toNat,?_,λb hb=>?_,q⟩
 ·have e1:lo+((0:Nat):Int)*1=lo:=by simp
  have e2:(((hi-lo).toNat:Nat):Int)-((0:Nat):Int)=Builtin.Range.rangeSize lo hi 1:=by rw [rangeSize_one];split<;>omega
  show IsRangeIter _ _ (lo+((0:Nat):Int)*1) ((((hi-lo).toNat:Nat):Int)-((0:Nat):Int)) 1
  rw [e1,e2]
  exact Heap.get?_push_size _ rfl
 ·have e:b=(s.heap.push { cls:=.type "range",data:=.fields #[.int lo t,.int hi u,.int 1 v] }).objs.size:=by simpa using hb
  subst e
  exact I1.fpOk (Nat.le_refl _) (I1.hok.fresh (Nat.le_refl _))
def zX (ta:TA):TI:=λσ H R=>ta σ H λvs H1=>∃ j:Int,vs=[.int j] /\ -(2 ^ 62)<=j/\j<2 ^ 62/\R (mI 0 j.toNat) H1
theorem zY {a:Expr} {ta:TA} {p pos:Pos} (hg:Gl X "range") (hm:X.mg "range" = none) (ha:PA X [a] ta) (hs:starEach [a] X.env=[(false,eval a X.env)]:=by rfl):PI X tg (.Call (.Name "range" p) [a] [] pos) (zX ta):=by
 intro pins s σ H R I h
 refine Call_ (fU I hg hm boot_range (PyProof.Rows.callWith_type1 (thn (ha pos pins s σ H _ I h) λus s1 Zz=>?_) hs rfl));obtain ⟨vs,H1,I1,r1,q1⟩:=Zz
 obtain ⟨j,e,q1,q2,q⟩:=q1
 subst e
 cases r1 with
 | cons r rr =>
  cases rr
  obtain ⟨t,rfl⟩:=r
  exact call_range_1 (zW I1 (by omega) (by omega) q1 q2 (by simpa using q))
def pJ (wi:TI) (g:TG) (tb:TS):TS:=λD σ H=>wi σ H λJ H1=>∃ W:Nat->Nat->St->Hp->Prop,(∃ m,W 0 m σ H1)/\∀ i m σ H,W i m σ H ->
 (J.stop i H/\D.nx σ H)\/(J.go i H/\∃ N:St->Hp->Prop,(∀ σ' H',N σ' H'->∃ m',m'<m/\W (i+1) m' σ' H')/\∀ x H',J.yld i H x H'->g x σ H' λσ2 H2=>tb { D with nx:=N,ct:=N,bk:=D.nx } σ2 H2)
def gL (fp:List Addr) (h:Heap):List (Addr×Obj):=fp.filterMap λb=>(h.get? b).map λo=>(b,o)
theorem mJ {fp:List Addr} {h:Heap} {b:Addr} {o:Obj} (hb:b∈fp) (e:h.get? b=some o):(b,o)∈gL fp h:=List.mem_filterMap.mpr ⟨b,hb,by rw [e];rfl⟩
theorem zZ {fp:List Addr} {h:Heap} {p:Addr×Obj} (hp:p∈gL fp h):p.1∈fp/\h.get? p.1=some p.2:=by
 obtain ⟨b,hb,e⟩:=List.mem_filterMap.mp hp
 cases q:h.get? b with
 | none=>rw [q] at e;cases e
 | some o =>
  rw [q] at e
  have e':(b,o)=p:=Option.some.inj e
  subst e'
  exact ⟨hb,q⟩
theorem Inv.pinned {pins:List (Addr×Obj)} {σ:St} {H:Hp} {s:Shared} {fp:List Addr} (I:Inv X pins σ H s) (hf:∀ b∈fp,cX X pins H b) (ho:∀ b∈fp,∃ o,s.heap.get? b=some o/\∀ v,o.data ≠ .cell v):Inv X (pins++gL fp s.heap) σ H s :=
 I.pins_of λp hp=>(List.mem_append.mp hp).elim (λz=>I.pin p (List.mem_append_right _ z)) λz=>by
  obtain ⟨hb,e⟩:=zZ z
  obtain ⟨f0,f1,f2,_⟩:=hf p.1 hb
  obtain ⟨o,e',d⟩:=ho p.1 hb
  rw [e] at e';cases e'
  exact ⟨e,f0,f1,f2,d⟩
theorem Inv.unpinned {pins pl:List (Addr×Obj)} {σ:St} {H:Hp} {s:Shared} (I:Inv X (pins++pl) σ H s):Inv X pins σ H s:=I.pins_of λp hp=>I.pin p (List.mem_append_right _ (List.mem_append_left _ hp))
theorem pK {iter:Expr} {body:List Stmt} {wi:TI} {g:TG} {tb:TS} {pos:Pos} (hp:PassesOwn (model X.prog X.w) X.A X.env X.xe) (hc:X.calm=true) (hi:PI X tg iter wi) (hg:PG X tg g) (hb:eX X body tb)
  (hs:∀ x,foldedSetIterable iter X.env x=pure x:=by intro _;rfl):PS X (.For tg iter body [] pos) (pJ wi g tb):=by
 intro pins s σ H D I h
 refine wpAny_For (thn (hi pins s σ H _ I h) λv s1 h1=>thn h1 λitv s2 h2=>?_) hs
 obtain ⟨it,fp,tn,J,H2,e,I2,T,st2,f2,W,⟨m0,w0⟩,turn⟩:=h2
 subst e
 have stat:∀ {H':Hp},(∀ b∈fp,H' b=none)->∀ b∈fp,cX X pins H' b:=λhn b hb=>⟨hn b hb,(f2 b hb).2⟩
 refine codeAny_forLoop_any (λn s' => ∃ i σ' H',Inv X pins σ' H' s'/\tn i s'.heap/\(∀ b∈fp,H' b=none)/\W i n σ' H') ?_ m0 ⟨0,σ,H2,I2,st2,λb hb=>(f2 b hb).1,w0⟩
 rintro n s3 ⟨i,σ3,H3,I3,st3,fr3,w3⟩
 rcases turn i n σ3 H3 w3 with ⟨stop,qn⟩ | ⟨go,N,hN,step⟩
 ·refine wpAny_passesOwn hp (thn (T.done X rfl rfl rfl hc i pins s3 σ3 H3 X.xe I3 (stat fr3) st3 stop) λr s4 Zz=>?_);obtain ⟨hr,I4⟩:=Zz
  subst hr
  exact wpAny_execs_nil ⟨σ3,H3,I4,qn⟩
 ·refine wpAny_passesOwn hp (thn (T.item X rfl rfl rfl hc i pins s3 σ3 H3 X.xe I3 (stat fr3) st3 go) λr s4 Zz=>?_);obtain ⟨u,hr,h4⟩:=Zz
  subst hr
  refine wpAny_passesOwn hp (thn h4 λ_ s5 Zz=>?_);obtain ⟨x,H5,I5,r5,y5,st5,fr5⟩:=Zz
  have I5' := I5.pinned (stat fr5) (T.obj _ _ st5)
  refine wpAny_passesOwn hp (thn (hg _ s5 σ3 H5 x u _ I5' r5 (step x H5 y5)) λ_ s6 Zz=>?_);obtain ⟨σ6,H6,I6,q6⟩:=Zz
  refine wpAny_passesOwn hp (thn (hb _ s6 σ6 H6 _ I6 q6) λf s7 q7=>?_)
  have again:∀ {σ7:St} {H7:Hp},Inv X (pins++gL fp s5.heap) σ7 H7 s7->N σ7 H7->∃ m,m<n/\∃ i σ' H',Inv X pins σ' H' s7/\tn i s7.heap/\(∀ b∈fp,H' b=none)/\W i m σ' H' := λ{σ7 H7} I7 n7=>by
   obtain ⟨m',hm,w7⟩:=hN σ7 H7 n7
   refine ⟨m',hm,i+1,σ7,H7,I7.unpinned,T.keep _ _ _ st5 λb hb o e=>(I7.pin (b,o) (List.mem_append_right _ (List.mem_append_right _ (mJ hb e)))).1,λb hb=>?_,w7⟩
   obtain ⟨o,e,d⟩:=T.obj _ _ st5 b hb
   exact (I7.pin (b,o) (List.mem_append_right _ (List.mem_append_right _ (mJ hb e)))).2.1
  cases f with
  | next=>obtain ⟨σ7,H7,I7,n7⟩:=q7;exact again I7 n7
  | cont=>obtain ⟨σ7,H7,I7,n7⟩:=q7;exact again I7 n7
  | brk=>obtain ⟨σ7,H7,I7,q7⟩:=q7;exact ⟨σ7,H7,I7.unpinned,q7⟩
  | ret v=>obtain ⟨x7,σ7,H7,I7,r7,q7⟩:=q7;exact ⟨x7,σ7,H7,I7.unpinned,r7,q7⟩
end
end L2
namespace L2
open PySem PySem.Spec PyProof.Rows
abbrev R2:=V->V->Hp->VK->Prop
def OpR (X:Cx) (f:Value->Value->Sem Value) (r:R2):Prop :=
 ∀ (pins:List (Addr×Obj)) (s:Shared) (σ:St) (H:Hp) (x y:V) (v u:Value) (Q:VK),Inv X pins σ H s->RelV x v->RelV y u->r x y H Q ->
  wpAny (model X.prog X.w) X.A (f v u) (EP X pins σ Q) X.xe s
def pL (X:Cx) (f:Value->Sem Value) (r:V->Hp->VK->Prop):Prop :=
 ∀ (pins:List (Addr×Obj)) (s:Shared) (σ:St) (H:Hp) (x:V) (v:Value) (Q:VK),Inv X pins σ H s->RelV x v->r x H Q ->
  wpAny (model X.prog X.w) X.A (f v) (EP X pins σ Q) X.xe s
def CallR (X:Cx) (f:Value) (r:List V->Hp->VK->Prop):Prop :=
 ∀ (pins:List (Addr×Obj)) (s:Shared) (σ:St) (H:Hp) (xs:List V) (us:List Value) (Q:VK),Inv X pins σ H s->Vals xs us->r xs H Q ->
  wpAny (model X.prog X.w) X.A (call f us) (EP X pins σ Q) X.xe s
def pM (X:Cx) (r:V->Hp->(Bool->Hp->Prop)->Prop):Prop :=
 ∀ (pins:List (Addr×Obj)) (s:Shared) (σ:St) (H:Hp) (x:V) (v:Value) (Q:Bool->Hp->Prop),Inv X pins σ H s->RelV x v->r x H Q ->
  wpAny (model X.prog X.w) X.A (truthy v) (TP X pins σ Q) X.xe s
def j9 (r:R2) (ta tb:TE):TE:=λσ H Q=>ta σ H λx H1=>tb σ H1 λy H2=>r x y H2 Q
def z7 (r:V->Hp->VK->Prop) (ta:TE):TE:=λσ H Q=>ta σ H λx H1=>r x H1 Q
def rI (C:Int->Int->Prop) (g:Int->Int->V):R2:=λx y H Q=>∃ i j,x = .int i/\y = .int j/\C i j/\Q (g i j) H
def iM (g:Int->Int->V):R2:=λx y H Q=>∃ i j,x = .int i/\y = .int j/\Q (g i j) H
def rU (g:Int->V):V->Hp->VK->Prop:=λx H Q=>∃ i,x = .int i/\Q (g i) H
section
variable {X:Cx} {a b c:Expr} {ta tb tc:TE} {pos:Pos}
theorem jn (ha:PE X a ta) (hb:PE X b tb) {pins:List (Addr×Obj)} {s:Shared} {σ:St} {H:Hp} {R:V->V->Hp->Prop} (I:Inv X pins σ H s)
  (h:ta σ H λx H1=>tb σ H1 λy H2=>R x y H2) {Q:Value->Shared->Prop} {f:Value->Value->Sem Value}
  (hf:∀ v u s2 x y H2,Inv X pins σ H2 s2->RelV x v->RelV y u->R x y H2->wpAny (model X.prog X.w) X.A (f v u) Q X.xe s2) :
  wpAny (model X.prog X.w) X.A (eval a X.env) (λv s₁=>wpAny (model X.prog X.w) X.A (eval b X.env) (λu s₂=>wpAny (model X.prog X.w) X.A (f v u) Q X.xe s₂) X.xe s₁) X.xe s:=by
 refine thn (ha pins s σ H _ I h) λv s1 Zz=>?_;obtain ⟨x,H1,I1,r1,q1⟩:=Zz
 refine thn (hb pins s1 σ H1 _ I1 q1) λu s2 Zz=>?_;obtain ⟨y,H2,I2,r2,q2⟩:=Zz
 exact hf v u s2 x y H2 I2 r1 r2 q2
theorem z8 {op:Operator} {r:R2} (ho:OpR X (binaryOp op) r) (ha:PE X a ta) (hb:PE X b tb):PE X (.BinOp a op b pos) (j9 r ta tb):=by
 intro pins s σ H Q I h
 exact wpAny_BinOp (jn ha hb I h λv u s2 x y H2 I2 rx ry q=>ho pins s2 σ H2 x y v u Q I2 rx ry q)
theorem z9 {op:UnaryOp} {r:V->Hp->VK->Prop} (ho:pL X (unaryOp op) r) (ha:PE X a ta):PE X (.UnaryOp op a pos) (z7 r ta):=by
 intro pins s σ H Q I h
 exact UnaryOp_ (thn (ha pins s σ H _ I h) λv s1 ⟨x,H1,I1,r1,q1⟩=>ho pins s1 σ H1 x v Q I1 r1 q1)
theorem mK {f:Value->Value->Sem Value} {C:Int->Int->Prop} {g:Int->Int->Int}
  (rule:∀ (i j:Int) (t u:Tok) (s:Shared) (Q:Value->Shared->Prop) (E:Value->Shared->Prop),C i j->Q (.int (g i j) s.toks) { s with toks:=s.toks+1 }->wpAny (model X.prog X.w) X.A (f (.int i t) (.int j u)) Q E s) :
  OpR X f (rI C λi j=>.int (g i j)):=by
 intro pins s σ H x y v u Q I rx ry h
 obtain ⟨i,j,rfl,rfl,hc,q⟩:=h
 obtain ⟨t,rfl⟩:=rx
 obtain ⟨t',rfl⟩:=ry
 exact rule i j t t' s _ _ hc ⟨.int (g i j),H,I.tok _,⟨_,rfl⟩,q⟩
theorem kL {f:Value->Value->Sem Value} {g:Int->Int->Int}
  (rule:∀ (i j:Int) (t u:Tok) (s:Shared) (Q:Value->Shared->Prop) (E:Value->Shared->Prop),Q (.int (g i j) s.toks) { s with toks:=s.toks+1 }->wpAny (model X.prog X.w) X.A (f (.int i t) (.int j u)) Q E s) :
  OpR X f (iM λi j=>.int (g i j)):=by
 intro pins s σ H x y v u Q I rx ry h
 obtain ⟨i,j,rfl,rfl,q⟩:=h
 obtain ⟨t,rfl⟩:=rx
 obtain ⟨t',rfl⟩:=ry
 exact rule i j t t' s _ _ ⟨.int (g i j),H,I.tok _,⟨_,rfl⟩,q⟩
theorem hG {f:Value->Value->Sem Value} {g:Int->Int->Bool}
  (rule:∀ (i j:Int) (t u:Tok) (s:Shared) (Q:Value->Shared->Prop) (E:Value->Shared->Prop),Q (.bool (g i j)) s->wpAny (model X.prog X.w) X.A (f (.int i t) (.int j u)) Q E s) :
  OpR X f (iM λi j=>.bl (g i j)):=by
 intro pins s σ H x y v u Q I rx ry h
 obtain ⟨i,j,rfl,rfl,q⟩:=h
 obtain ⟨t,rfl⟩:=rx
 obtain ⟨t',rfl⟩:=ry
 exact rule i j t t' s _ _ ⟨.bl (g i j),H,I,rfl,q⟩
def pN (i j:Int):Prop:=0<=j/\j<=1000000/\i.natAbs<2 ^ 64
def CMul (i j:Int):Prop:=(-(2 ^ 64)<i/\i<2 ^ 64)\/(-(2 ^ 64)<j/\j<2 ^ 64)
theorem CMul.ok {i j:Int} (h:CMul i j):IntMulOk i j:=by
 rcases h with ⟨h1,h2⟩ | ⟨h1,h2⟩
 ·exact .of_left (intBits_le_64 h1 h2)
 ·exact .of_right (intBits_le_64 h1 h2)
theorem op_add:OpR X (binaryOp .Add) (iM λi j=>.int (i+j)):=kL λ_ _ _ _ _ _ _ q=>add_int q
theorem Aa:OpR X (binaryOp .Sub) (iM λi j=>.int (i-j)):=kL λ_ _ _ _ _ _ _ q=>sub_int q
theorem Ab:OpR X (binaryOp .Mod) (rI (λ_ j=>0<j) λi j=>.int (i % j)):=mK λi j _ _ _ _ _ hc q=>by
 have h1:(0:Int)<j:=hc
 exact mod_int' (by omega) (by rw [Int.fmod_eq_emod_of_nonneg i (by omega)];exact q)
theorem Ac:OpR X (binaryOp .Pow) (rI pN λi j=>.int (i ^ j.toNat)):=mK λ_ _ _ _ _ _ _ hc q=>pow_int_small hc.1 hc.2.1 hc.2.2 q
theorem Ad {f:Value->Sem Value} {g:Int->Int}
  (rule:∀ (i:Int) (t:Tok) (s:Shared) (Q:Value->Shared->Prop) (E:Value->Shared->Prop),Q (.int (g i) s.toks) { s with toks:=s.toks+1 }->wpAny (model X.prog X.w) X.A (f (.int i t)) Q E s) :
  pL X f (rU λi=>.int (g i)):=by
 intro pins s σ H x v Q I rx h
 obtain ⟨i,rfl,q⟩:=h
 obtain ⟨t,rfl⟩:=rx
 exact rule i t s _ _ ⟨.int (g i),H,I.tok _,⟨_,rfl⟩,q⟩
theorem Ae:pL X (unaryOp .USub) (rU λi=>.int (-i)):=Ad λ_ _ _ _ _ q=>neg_int q
end
def jo:V->V->Bool
 | .non,.non=>true | .non,.int _=>true | .int _,.non=>true | .non,.bl _=>true | .bl _,.non=>true | .non,.str _=>true | .str _,.non=>true
 | .int _,.int _=>true | .bl _,.bl _=>true | .str _,.str _=>true | .byt _,.byt _=>true
 | .int _,.str _=>true | .str _,.int _=>true | .bl _,.str _=>true | .str _,.bl _=>true
 | _,_=>false
def Af:R2:=λx y H Q=>jo x y=true/\Q (.bl (decide (x=y))) H
def Ag:R2:=λx y H Q=>jo x y=true/\Q (.bl (!decide (x=y))) H
theorem uN {i j:Int}:decide (V.int i=V.int j)=(i == j):=by
 rw [Bool.eq_iff_iff]
 simp
theorem uO {i j:Bool}:decide (V.bl i=V.bl j)=(i == j):=by
 rw [Bool.eq_iff_iff]
 simp
theorem uP {i j:Str}:decide (V.str i=V.str j)=(i == j):=by
 rw [Bool.eq_iff_iff]
 simp
theorem uQ {i j:Array UInt8}:decide (V.byt i=V.byt j)=(i.toList == j.toList):=by
 rw [Bool.eq_iff_iff]
 cases i
 cases j
 simp
section
variable {X:Cx} {a b c:Expr} {ta tb tc:TE} {pos:Pos}
theorem bU {pins:List (Addr×Obj)} {σ:St} {H:Hp} {s:Shared} {Q:VK} {k k':Bool} (I:Inv X pins σ H s) (q:Q (.bl k) H) (e:k=k'):EP X pins σ Q (.bool k') s:=by
 subst e
 exact ⟨.bl k,H,I,rfl,q⟩
theorem op_eq:OpR X (compareOp .Eq) Af:=by
 intro pins s σ H x y v u Q I rx ry h
 obtain ⟨hs,q⟩:=h
 cases x with
 | non =>
  cases rx
  cases y with
  | non=>cases ry;exact PySem.EqNone.eq_none_none (bU I q (by simp))
  | bl j=>cases ry;exact PySem.EqNone.eq_none_bool (bU I q (by simp))
  | int j=>obtain ⟨t',rfl⟩:=ry;exact PySem.EqNone.eq_none_int (bU I q (by simp))
  | str j=>obtain ⟨t',rfl⟩:=ry;exact PySem.EqNone.eq_none_str (bU I q (by simp))
  | _=>exact absurd (show false=true from hs) Bool.false_ne_true
 | bl i =>
  cases rx
  cases y with
  | non=>cases ry;exact PySem.EqNone.eq_bool_none (bU I q (by simp))
  | bl j=>cases ry;exact eq_bool (bU I q uO)
  | str j=>obtain ⟨t',rfl⟩:=ry;exact PySem.EqMixed.eq_bool_str (bU I q (by simp))
  | _=>exact absurd (show false=true from hs) Bool.false_ne_true
 | int i =>
  obtain ⟨t,rfl⟩:=rx
  cases y with
  | non=>cases ry;exact PySem.EqNone.eq_int_none (bU I q (by simp))
  | int j=>obtain ⟨t',rfl⟩:=ry;exact eq_int (bU I q uN)
  | str j=>obtain ⟨t',rfl⟩:=ry;exact PySem.EqMixed.eq_int_str (bU I q (by simp))
  | _=>exact absurd (show false=true from hs) Bool.false_ne_true
 | str i =>
  obtain ⟨t,rfl⟩:=rx
  cases y with
  | non=>cases ry;exact PySem.EqNone.eq_str_none (bU I q (by simp))
  | bl j=>cases ry;exact PySem.EqMixed.eq_str_bool (bU I q (by simp))
  | int j=>obtain ⟨t',rfl⟩:=ry;exact PySem.EqMixed.eq_str_int (bU I q (by simp))
  | str j=>obtain ⟨t',rfl⟩:=ry;exact eq_str (bU I q uP)
  | _=>exact absurd (show false=true from hs) Bool.false_ne_true
 | byt i =>
  obtain ⟨t,rfl⟩:=rx
  cases y with
  | byt j=>obtain ⟨t',rfl⟩:=ry;exact PySem.W.eq_bytes (bU I q uQ)
  | _=>exact absurd (show false=true from hs) Bool.false_ne_true
 | _=>cases y<;>exact absurd (show false=true from hs) Bool.false_ne_true
theorem op_ne:OpR X (compareOp .NotEq) Ag:=by
 intro pins s σ H x y v u Q I rx ry h
 obtain ⟨hs,q⟩:=h
 cases x with
 | non =>
  cases rx
  cases y with
  | non=>cases ry;exact PySem.EqNone.ne_none_none (bU I q (by simp))
  | bl j=>cases ry;exact PySem.EqNone.ne_none_bool (bU I q (by simp))
  | int j=>obtain ⟨t',rfl⟩:=ry;exact PySem.EqNone.ne_none_int (bU I q (by simp))
  | str j=>obtain ⟨t',rfl⟩:=ry;exact PySem.EqNone.ne_none_str (bU I q (by simp))
  | _=>exact absurd (show false=true from hs) Bool.false_ne_true
 | bl i =>
  cases rx
  cases y with
  | non=>cases ry;exact PySem.EqNone.ne_bool_none (bU I q (by simp))
  | bl j=>cases ry;exact ne_bool (bU I q (congrArg not uO))
  | str j=>obtain ⟨t',rfl⟩:=ry;exact PySem.EqMixed.ne_bool_str (bU I q (by simp))
  | _=>exact absurd (show false=true from hs) Bool.false_ne_true
 | int i =>
  obtain ⟨t,rfl⟩:=rx
  cases y with
  | non=>cases ry;exact PySem.EqNone.ne_int_none (bU I q (by simp))
  | int j=>obtain ⟨t',rfl⟩:=ry;exact ne_int (bU I q (congrArg not uN))
  | str j=>obtain ⟨t',rfl⟩:=ry;exact PySem.EqMixed.ne_int_str (bU I q (by simp))
  | _=>exact absurd (show false=true from hs) Bool.false_ne_true
 | str i =>
  obtain ⟨t,rfl⟩:=rx
  cases y with
  | non=>cases ry;exact PySem.EqNone.ne_str_none (bU I q (by simp))
  | bl j=>cases ry;exact PySem.EqMixed.ne_str_bool (bU I q (by simp))
  | int j=>obtain ⟨t',rfl⟩:=ry;exact PySem.EqMixed.ne_str_int (bU I q (by simp))
  | str j=>obtain ⟨t',rfl⟩:=ry;exact ne_str (bU I q (congrArg not uP))
  | _=>exact absurd (show false=true from hs) Bool.false_ne_true
 | byt i =>
  obtain ⟨t,rfl⟩:=rx
  cases y with
  | byt j=>obtain ⟨t',rfl⟩:=ry;exact PySem.W.ne_bytes (bU I q (congrArg not uQ))
  | _=>exact absurd (show false=true from hs) Bool.false_ne_true
 | _=>cases y<;>exact absurd (show false=true from hs) Bool.false_ne_true
theorem op_lt:OpR X (compareOp .Lt) (iM λi j=>.bl (decide (i<j))):=hG λ_ _ _ _ _ _ _ q=>lt_int q
theorem op_le:OpR X (compareOp .LtE) (iM λi j=>.bl (decide (i<=j))):=hG λ_ _ _ _ _ _ _ q=>le_int q
theorem Ah:OpR X (compareOp .Gt) (iM λi j=>.bl (decide (j<i))):=hG λ_ _ _ _ _ _ _ q=>gt_int q
theorem Ai:OpR X (compareOp .GtE) (iM λi j=>.bl (decide (j<=i))):=hG λ_ _ _ _ _ _ _ q=>ge_int q
theorem Aj:OpR X (compareOp .Lt) (λx y H Q=>∃ i j,x = .str i/\y = .str j/\Q (.bl (decide (i.cps.toList<j.cps.toList))) H):=by
 intro pins s σ H x y v u Q I rx ry h
 obtain ⟨i,j,rfl,rfl,q⟩:=h
 obtain ⟨t,rfl⟩:=rx
 obtain ⟨t',rfl⟩:=ry
 exact lt_str (bU I q rfl)
theorem Ak:OpR X (compareOp .Is) (λx y H Q=>y = .non/\Q (.bl (decide (x = .non))) H):=by
 intro pins s σ H x y v u Q I rx ry h
 obtain ⟨rfl,q⟩:=h
 cases ry
 refine is_none_gen (bU I q ?_)
 cases x<;>first
  | (cases rx;rfl)
  | (obtain ⟨t,rfl⟩:=rx;rfl)
theorem OpR.or {f:Value->Value->Sem Value} {r r':R2} (h:OpR X f r) (h':OpR X f r'):OpR X f (λx y H Q=>r x y H Q\/r' x y H Q):=by
 intro pins s σ H x y v u Q I rx ry q
 rcases q with q | q
 ·exact h pins s σ H x y v u Q I rx ry q
 ·exact h' pins s σ H x y v u Q I rx ry q
theorem bH (b:Expr) {op:CmpOp} (h:op ≠ .In:=by decide) (h2:op ≠ .NotIn:=by decide):behindInMarks op b=false:=by
 have e1:(op == CmpOp.In)=false:=by cases op<;>first | rfl | exact absurd rfl h
 have e2:(op == CmpOp.NotIn)=false:=by cases op<;>first | rfl | exact absurd rfl h2
 cases b<;>simp [behindInMarks,e1,e2]
theorem Al {op:CmpOp} {r:R2} (ho:OpR X (compareOp op) r) (ha:PE X a ta) (hb:PE X b tb) (hm:behindInMarks op b=false):PE X (.Compare a [op] [b] pos) (j9 r ta tb):=by
 intro pins s σ H Q I h
 exact wpAny_Compare1 (jn ha hb I h λv u s2 x y H2 I2 rx ry q=>ho pins s2 σ H2 x y v u Q I2 rx ry q) hm
def Am (t:TE):TT:=λσ H Q=>t σ H λx H' => ∃ k,x = .bl k/\Q k H'
theorem An {op:CmpOp} {r:R2} (ho:OpR X (compareOp op) r) (ha:PE X a ta) (hb:PE X b tb) (hm:behindInMarks op b=false):PT X (.Compare a [op] [b] pos) (Am (j9 r ta tb)):=by
 intro pins s σ H Q I h
 refine wpAny_isTrue_Compare1 (thn (ha pins s σ H _ I h) λv s1 ⟨x,H1,I1,r1,q1⟩=>thn (hb pins s1 σ H1 _ I1 q1) λu s2 ⟨y,H2,I2,r2,q2⟩ =>
  thn (ho pins s2 σ H2 x y v u _ I2 r1 r2 q2) λc s3 ⟨z,H3,I3,r3,k,e,q3⟩=>?_) hm
 subst e
 cases r3
 exact wpAny_truthy_bool ⟨H3,I3,q3⟩
def uR (r r':R2) (ta tb tc:TE):TE:=λσ H Q=>ta σ H λx H1=>tb σ H1 λy H2=>r x y H2 λz H3=>∃ k,z = .bl k /\
 (if k=true then tc σ H3 λw' H4=>r' y w' H4 Q else Q (.bl false) H3)
theorem Ao {op op':CmpOp} {r r':R2} (ho:OpR X (compareOp op) r) (ho':OpR X (compareOp op') r') (ha:PE X a ta) (hb:PE X b tb) (hc:PE X c tc)
  (hm:lastMarks [op,op'] [b,c]=false:=by with_unfolding_all rfl):PE X (.Compare a [op,op'] [b,c] pos) (uR r r' ta tb tc):=by
 intro pins s σ H Q I h
 refine Compare_chain (thn (ha pins s σ H _ I h) λv s1 ⟨x,H1,I1,r1,q1⟩=>chain_link (thn (hb pins s1 σ H1 _ I1 q1) λu s2 ⟨y,H2,I2,r2,q2⟩ =>
  thn (ho pins s2 σ H2 x y v u _ I2 r1 r2 q2) λd s3 ⟨z,H3,I3,r3,k,e,q3⟩=>?_)) hm
 subst e
 cases r3
 refine wpAny_truthy_bool ?_
 cases k with
 | false=>exact ite_ff ⟨.bl false,H3,I3,rfl,q3⟩
 | true=>exact ite_tt (chain_last (thn (hc pins s3 σ H3 _ I3 q3) λw' s4 ⟨z',H4,I4,r4,q4⟩=>ho' pins s4 σ H4 y z' u w' Q I4 r2 r4 q4))
def jq (K:PySem.W.Frag) (x:V) (H:Hp) (k:Bool):Prop :=
 match x with
 | .non=>k=false
 | .bl b=>k=b
 | .int i=>k=(i != 0)
 | .str y=>y.length<=sizeLine/\k=((y.length:Int) != 0)
 | .byt y=>y.size<=sizeLine/\k=((y.size:Int) != 0)
 | .ref p=>(∃ xs,SqL K H p xs/\k = !xs.isEmpty)\/(∃ xs,SqT K H p xs/\k = !xs.isEmpty)\/∃ kvs,H p=some (.dK kvs)/\k = !kvs.isEmpty
 | _=>False
theorem Ap {κ:Type} {kvs:List (κ×V)} {vs:List (κ×Value)} (r:KV kvs vs):(!vs.isEmpty) = !kvs.isEmpty:=by
 cases r<;>rfl
theorem uS {xs:List V} {its:List Value} (r:Vals xs its):(!its.toArray.isEmpty) = !xs.isEmpty:=by
 cases r<;>simp
theorem jr:(sizeLine:Nat)<2 ^ 63:=by rw [sizeLine_eq];decide
theorem Aq:pM X (λx H Q=>∃ k,jq X.K x H k/\Q k H):=by
 intro pins s σ H x v Q I rx h
 obtain ⟨k,e,q⟩:=h
 have hl:=jr
 have hs:sizeLine=16777216:=sizeLine_eq
 cases x with
 | non =>
  cases rx
  have e':k=false:=e
  subst e'
  exact truthy_none ⟨H,I,q⟩
 | bl b =>
  cases rx
  have e':k=b:=e
  subst e'
  exact wpAny_truthy_bool ⟨H,I,q⟩
 | int i =>
  obtain ⟨t,rfl⟩:=rx
  have e':k=(i != 0):=e
  subst e'
  exact PySem.P.truthy_int ⟨H,I,q⟩
 | str y =>
  obtain ⟨t,rfl⟩:=rx
  obtain ⟨hy,e'⟩:y.length<=sizeLine/\k=((y.length:Int) != 0):=e
  subst e'
  exact PySem.P.truthy_str (by omega) ⟨H,I.tok _,q⟩
 | byt y =>
  obtain ⟨t,rfl⟩:=rx
  obtain ⟨hy,e'⟩:y.size<=sizeLine/\k=((y.size:Int) != 0):=e
  subst e'
  exact PySem.W.truthy_bytes (by omega) ⟨H,I.tok _,q⟩
 | ref p =>
  cases rx
  have e':(∃ xs,SqL X.K H p xs/\k = !xs.isEmpty)\/(∃ xs,SqT X.K H p xs/\k = !xs.isEmpty)\/∃ kvs,H p=some (.dK kvs)/\k = !kvs.isEmpty:=e
  rcases e' with ⟨xs,hx,e'⟩ | ⟨xs,hx,e'⟩ | ⟨kvs,hx,e'⟩
  ·subst e'
   obtain ⟨its,r,pl,hz⟩:=I.list hx
   have hlen:=r.length
   exact wpAny_truthy_list pl.isList (by simp only [List.size_toArray];omega) ⟨H,I.tok _,by rw [uS r];exact q⟩
  ·subst e'
   obtain ⟨its,r,pl,hz⟩:=I.tuple hx
   have hlen:=r.length
   exact truthy_tuple pl (by simp only [List.size_toArray];omega) ⟨H,I.tok _,by rw [uS r];exact q⟩
  ·subst e'
   obtain ⟨hz,hS,vs,r,m⟩:kvs.length<=sizeLine/\(p == sysModules)=false/\∃ vs,KV kvs vs/\s.heap.DictOf (fB X.prog X.w) p vs:=I.hok p _ hx
   have hlen:kvs.length=vs.length:=Paired.length r
   exact wpAny_truthy_dict hS m (by omega) ⟨H,I.tok _,by rw [Ap r];exact q⟩
 | _=>exact (show False from e).elim
theorem Ar (ha:PE X a ta) (he:∀ whole,isTrue a X.env whole=(do let v <- whole;standAt a.pos;holding [v] (truthy v))) :
  PT X a (λσ H Q=>ta σ H λx H' => ∃ k,jq X.K x H' k/\Q k H'):=by
 intro pins s σ H Q I h
 exact isTrue_plain (thn (ha pins s σ H _ I h) λv s1 ⟨x,H1,I1,r1,q1⟩=>Aq pins s1 σ H1 x v Q I1 r1 q1) (he _)
theorem zgF:OpR X (binaryOp .Add) (λx y H Q=>∃ i j,x = .str i/\y = .str j/\i.length+j.length<=sizeLine/\Q (.str (i++j)) H):=by
 intro pins s σ H x y v u Q I rx ry h
 obtain ⟨i,j,rfl,rfl,hz,q⟩:=h
 obtain ⟨t,rfl⟩:=rx
 obtain ⟨t',rfl⟩:=ry
 exact add_str (λt' tk=>⟨.str (i++j),H,I.tok _,⟨_,rfl⟩,q⟩) hz
theorem gu {x:V} {us:List Value} (r:Vals [x] us):∃ u,us=[u]/\RelV x u:=by
 cases r with
 | cons r1 r2=>cases r2;exact ⟨_,rfl,r1⟩
theorem ka {x y:V} {us:List Value} (r:Vals [x,y] us):∃ u w',us=[u,w']/\RelV x u/\RelV y w' := by
 cases r with
 | cons r1 r2 =>
  cases r2 with
  | cons r3 r4=>cases r4;exact ⟨_,_,rfl,r1,r3⟩
theorem As:CallR X (.builtin "abs") (λxs H Q=>∃ i,xs=[.int i]/\Q (.int (if i<0 then -i else i)) H):=by
 intro pins s σ H xs us Q I r h
 obtain ⟨i,rfl,q⟩:=h
 obtain ⟨u,rfl,t,rfl⟩:=gu r
 exact call_abs_int λu tk=>⟨.int (if i<0 then -i else i),H,I.tok _,⟨_,rfl⟩,q⟩
theorem Au (hc:X.calm=true):CallR X (.builtin "max") (λxs H Q=>∃ i j,xs=[.int i,.int j]/\Q (.int (if j > i then j else i)) H):=by
 intro pins s σ H xs us Q I r h
 obtain ⟨i,j,rfl,q⟩:=h
 obtain ⟨u,w',rfl,⟨t,rfl⟩,⟨t',rfl⟩⟩:=ka r
 refine max_two_ints (I.ok.hd hc) λh' tk k=>⟨_,H,I.kept k,?_,q⟩
 by_cases hj:j > i
 ·rw [if_pos hj,if_pos hj];exact ⟨_,rfl⟩
 ·rw [if_neg hj,if_neg hj];exact ⟨_,rfl⟩
theorem Av (hc:X.calm=true):CallR X (.builtin "min") (λxs H Q=>∃ i j,xs=[.int i,.int j]/\Q (.int (if j<i then j else i)) H):=by
 intro pins s σ H xs us Q I r h
 obtain ⟨i,j,rfl,q⟩:=h
 obtain ⟨u,w',rfl,⟨t,rfl⟩,⟨t',rfl⟩⟩:=ka r
 refine min_two_ints (I.ok.hd hc) λh' tk k=>⟨_,H,I.kept k,?_,q⟩
 by_cases hj:j<i
 ·rw [if_pos hj,if_pos hj];exact ⟨_,rfl⟩
 ·rw [if_neg hj,if_neg hj];exact ⟨_,rfl⟩
theorem Aw:CallR X (.type "int") (λxs H Q=>(∃ i,xs=[.int i]/\Q (.int i) H)\/∃ k,xs=[.bl k]/\Q (.int (if k then 1 else 0)) H):=by
 intro pins s σ H xs us Q I r h
 rcases h with ⟨i,rfl,q⟩ | ⟨k,rfl,q⟩
 ·obtain ⟨u,rfl,t,rfl⟩:=gu r
  exact call_int_int ⟨.int i,H,I,⟨_,rfl⟩,q⟩
 ·obtain ⟨u,rfl,r1⟩:=gu r
  cases r1
  exact call_int_bool ⟨.int (if k then 1 else 0),H,I.tok _,⟨_,rfl⟩,q⟩
end
end L2
namespace L2
open PySem PySem.Spec PyProof.Rows
structure ObjM (h:Heap) (x dx C:Addr) (mA:Str->Option Value):Prop where
 obj:h.get? x=some (PySem.W.instObj C dx)
 ns:h.Ns1 dx mA
 ne:dx≠x
theorem Ax {h:Heap} {dx:Addr} {mA:Str->Option Value} (n:h.Ns1 dx mA):∃ od,h.get? dx=some od/\∀ name,PySem.W.lookIn name od=some (mA name):=by
 obtain ⟨o,es,ep,ho,hd,hk,_,hm⟩:=n
 refine ⟨o,ho,λname=>?_⟩
 have e:=hm name
 unfold nsFind findBy at e
 rw [<- Array.find?_toList] at e
 unfold PySem.W.lookIn
 rw [hd]
 dsimp only
 split
 ·rename_i y q
  rw [q] at e
  exact congrArg some e
 ·rename_i q
  rw [q] at e
  have a:es.toList.any (·.refKey)=false:=by
   rw [List.any_eq_false]
   intro y hy
   obtain ⟨z,t,hkey⟩:=hk y (Array.mem_toList_iff.mp hy)
   simp [DictEntry.refKey,hkey]
  have a' : ¬ es.toList.any (·.refKey)=true:=by rw [a];exact Bool.false_ne_true
  rw [if_neg a']
  exact congrArg some e
theorem ObjM.look {h:Heap} {x dx C:Addr} {mA:Str->Option Value} (I:ObjM h x dx C mA):∃ od,PySem.W.InstAt h x (PySem.W.instObj C dx) C (some od)/\∀ name,PySem.W.lookIn name od=some (mA name) :=
 let ⟨od,ho,hl⟩:=Ax I.ns
 ⟨od,⟨I.obj,rfl,rfl,ho⟩,hl⟩
section
variable {prog:Program} {w:World} {A:Around} {E:Value->Shared->Prop} {s:Shared} {K:PySem.W.Frag} {x dx C f:Addr} {mA:Str->Option Value} {name:Str} {v:Value}
theorem Ay {expr:Bool} {Q:Value->Shared->Prop} (X:K.In s.heap) (I:ObjM s.heap x dx C mA) (hg:PySem.W.plainGet K C name=true) (hh:PySem.W.hasDictIn K C=true)
  (ha:PySem.W.findIn K (.ref C) name=some none) (hv:mA name=some v) (hv':PySem.W.handedIn v=true) (h:Q v { s with toks:=s.toks+1 }) :
  wpAny (model prog w) A (getAttr (.ref x) name expr) Q E s:=by
 obtain ⟨od,J,hl⟩:=I.look
 exact PySem.W.get_value X J (PySem.W.plainGet_of hg).1 (PySem.W.findObj_own hh ha rfl (by rw [hl,hv])) hv' h
theorem Az {pl:Sem Bool} {Q:Value×List Value->Shared->Prop} (X:K.In s.heap) (I:ObjM s.heap x dx C mA) (hg:PySem.W.plainGet K C name=true)
  (hf:PySem.W.findIn K (.ref C) name=some (some (.ref f))) (ht:PySem.W.isFn K (.ref f)=true) (hv:mA name=none) (h:Q (.ref f,[.ref x]) s) :
  wpAny (model prog w) A (getMethod (.ref x) name pl) Q E s:=by
 obtain ⟨od,J,hl⟩:=I.look
 exact PySem.W.method_fn X J (PySem.W.plainGet_of hg).1 (PySem.W.plainGet_of hg).2 hf (beq_iff_eq.mp ht) (by show (PySem.W.lookIn name od).map (·.isSome)=some false;rw [hl,hv];rfl) h
theorem AA {ns:List Str} {Q:Unit->Shared->Prop} (X:K.In s.heap) (I:ObjM s.heap x dx C mA)
  (hs:PySem.W.findIn K (.ref C) "__setattr__" = some (some (.builtin "object.__setattr__"))) (hp:PySem.W.plainOver K C=true) (ht:PySem.W.takerIn K C name=some none) (hh:PySem.W.hasDictIn K C=true)
  (hw:PySem.Within mA ns) (hsz:ns.length<=sizeLine)
  (h:∀ h',ObjM h' x dx C (λy=>if y=name then some v else mA y)->Heap.SameBut dx s.heap h'->Q () { s with heap:=h',toks:=s.toks+2 }) :
  wpAny (model prog w) A (setAttr (.ref x) name v) Q E s:=by
 obtain ⟨od,J,hl⟩:=I.look
 refine PySem.W.set_plain X J hs (PySem.W.osa_open (s:={ s with toks:=s.toks+1 }) (r:=none) X J hp ht λb=>?_)
 obtain ⟨cd,hc,hd'⟩:=PySem.W.any_some hh
 have hx:s.heap.get? x=some ⟨.ref C,some dx,.plain,#[]⟩:=I.obj
 refine wpAny_bind (wpAny_pure (wpAny_bind (wpAny_bind (wpAny_loadPart hx (wpAny_bind (PySem.W.Looks.here (s:={ s with toks:=s.toks+1 }) (PySem.W.looks_clsIn X hc) ?_))))))
 rw [hd']
 refine wpAny_pure (a:=some dx) (wpAny_bind (wpAny_pure (wpAny_bind ?_)))
 refine wpAny_nsSet1 (s:={ s with toks:=s.toks+1 }) I.ns λh' hn2 hs2=>?_
 obtain ⟨oD,esD,epD,hoD,hdD,hcD⟩:=hn2.count (PySem.Within.cons name v hw)
 refine wpAny_bind (wpAny_lookBehind hoD (by rw [hdD];exact pastItsLine_dict (Nat.le_trans hcD (by rw [List.length_cons];omega))) ?_)
 exact wpAny_pure (h _ ⟨(hs2.2 _ (Ne.symm I.ne)).trans I.obj,hn2,I.ne⟩ hs2)
theorem AB {R:Result->Shared->Prop} {vs:List Value} {kw:List (Str×Value)} (X:K.In s.heap) (hm:PySem.W.makesIn K C=true)
  (hi:PySem.W.findIn K (.ref C) "__init__" = some (some (.ref f))) (hf:PySem.W.typeIn K (.ref f)=some (.type "function"))
  (h:codeAny (model prog w) (A.under (.builtin "type.__call__" ⟨.ref C::vs,kw⟩)) (.call (.ref f) ⟨.ref (s.heap.objs.size+1)::vs,kw⟩) (PySem.W.InitBack (s.heap.objs.size+1) R)
   { s with heap:=(s.heap.push PySem.W.emptyDict).push (PySem.W.instObj C s.heap.objs.size) }) :
  codeAny (model prog w) A (.call (.ref C) ⟨vs,kw⟩) R s:=by
 obtain ⟨hh,g,d,t,os⟩:=s
 exact PySem.W.make_core (PySem.W.makes_of X hm) (PySem.W.looks_findIn X hi) (λself=>PySem.W.bind_fn X self hf) (.inl rfl) h
end
def bh (f:Str) (v:V):List (Str×V)->List (Str×V)
 | []=>[(f,v)]
 | (g,x)::r=>if g=f then (g,v)::r else (g,x)::bh f v r
theorem mL (f g:Str) (v:V):∀ fs:List (Str×V),(bh f v fs).lookup g=if g=f then some v else fs.lookup g
 | []=>by
  show List.lookup g [(f,v)]=_
  by_cases h:g=f
  ·have hb:(g == f)=true:=beq_iff_eq.mpr h
   simp only [List.lookup,hb,if_pos h]
  ·have hb:(g == f)=false:=beq_eq_false_iff_ne.mpr h
   simp only [List.lookup,hb,if_neg h]
 | (k,x)::r=>by
  have ih:=mL f g v r
  rw [show bh f v ((k,x)::r)=(if k=f then (k,v)::r else (k,x)::bh f v r) from rfl]
  by_cases hk:k=f
  ·rw [if_pos hk]
   by_cases h:g=k
   ·have hb:(g == k)=true:=beq_iff_eq.mpr h
    simp only [List.lookup,hb,if_pos (h.trans hk)]
   ·have hb:(g == k)=false:=beq_eq_false_iff_ne.mpr h
    simp only [List.lookup,hb,if_neg (λe:g=f=>h (e.trans hk.symm))]
  ·rw [if_neg hk]
   by_cases h:g=k
   ·have hb:(g == k)=true:=beq_iff_eq.mpr h
    simp only [List.lookup,hb,if_neg (λe:g=f=>hk (h.symm.trans e))]
   ·have hb:(g == k)=false:=beq_eq_false_iff_ne.mpr h
    simp only [List.lookup,hb]
    exact ih
theorem pO (f:Str) (v:V):∀ fs:List (Str×V),f∈(bh f v fs).map (·.1)/\∀ g,g∈fs.map (·.1)->g∈(bh f v fs).map (·.1)
 | []=>⟨by simp [bh],λg h=>by simp at h⟩
 | (k,x)::r=>by
  obtain ⟨i1,i2⟩:=pO f v r
  rw [show bh f v ((k,x)::r)=(if k=f then (k,v)::r else (k,x)::bh f v r) from rfl]
  by_cases hk:k=f
  ·rw [if_pos hk]
   subst hk
   exact ⟨by simp,λg h=>by simpa using h⟩
  ·rw [if_neg hk]
   refine ⟨?_,λg h=>?_⟩
   ·rw [List.map_cons]
    exact List.mem_cons_of_mem _ i1
   ·rw [List.map_cons] at h ⊢
    rcases List.mem_cons.mp h with e | e
    ·exact List.mem_cons.mpr (.inl e)
    ·exact List.mem_cons_of_mem _ (i2 g e)
theorem uT (f:Str) (v:V):∀ fs:List (Str×V),(bh f v fs).length<=fs.length+1
 | []=>by simp [bh]
 | (k,x)::r=>by
  have ih:=uT f v r
  rw [show bh f v ((k,x)::r)=(if k=f then (k,v)::r else (k,x)::bh f v r) from rfl]
  by_cases hk:k=f
  ·rw [if_pos hk,List.length_cons,List.length_cons];omega
  ·rw [if_neg hk,List.length_cons,List.length_cons];omega
theorem RelO.some_of {v:V} {o:Option Value} (r:RelO (some v) o):∃ u,o=some u/\RelV v u:=by
 cases o with
 | none=>exact (show False from r).elim
 | some u=>exact ⟨u,rfl,r⟩
theorem RelO.none_of {o:Option Value} (r:RelO none o):o=none:=by
 cases o with
 | none=>rfl
 | some u=>exact (show False from r).elim
theorem AC {v:V} {u:Value} (r:RelV v u):PySem.W.handedIn u=true:=by
 cases v with
 | non=>cases (show u=Value.none from r);rfl
 | bl b=>cases (show u=Value.bool b from r);rfl
 | int i=>obtain ⟨t,e⟩:=(show ∃ t,u=Value.int i t from r);cases e;rfl
 | str x=>obtain ⟨t,e⟩:=(show ∃ t,u=Value.str x t from r);cases e;rfl
 | byt b=>obtain ⟨t,e⟩:=(show ∃ t,u=Value.bytes b t from r);cases e;rfl
 | flt b=>obtain ⟨t,e⟩:=(show ∃ t,u=Value.float b t from r);cases e;rfl
 | ref a=>cases (show u=Value.ref a from r);rfl
 | ty n=>cases (show u=Value.type n from r);rfl
section
variable {P:Program} {w:World} {H H':Hp} {h h':Heap} {a C dx:Addr} {fs fs':List (Str×V)}
theorem mM (hok:HOk P w H h) (e:H a=some (.ins C dx fs)):∃ mA,ObjM h a dx C mA/\(∀ f,RelO (fs.lookup f) (mA f))/\PySem.Within mA (fs.map (·.1))/\fs.length<=1000/\H dx=some (.own a):=by
 obtain ⟨d,z,ne,ob,mA,n,r,q⟩:=(show ObjOk P w H h a (.ins C dx fs) from hok a _ e)
 exact ⟨mA,⟨ob,n,ne⟩,r,q,z,d⟩
end
structure Cls (K:PySem.W.Frag) (C:Addr):Prop where
 pg:PySem.W.plainGet K C Str.empty=true
 hd:PySem.W.hasDictIn K C=true
 po:PySem.W.plainOver K C=true
 sa:PySem.W.findIn K (.ref C) "__setattr__" = some (some (.builtin "object.__setattr__"))
theorem Cls.get {K:PySem.W.Frag} {C:Addr} (c:Cls K C) (f:Str):PySem.W.plainGet K C f=true:=c.pg
def NoAttr (K:PySem.W.Frag) (C:Addr) (f:Str):Prop:=PySem.W.findIn K (.ref C) f=some none
theorem NoAttr.taker {K:PySem.W.Frag} {C:Addr} {f:Str} (n:NoAttr K C f):PySem.W.takerIn K C f=some none:=by
 unfold PySem.W.takerIn
 rw [show PySem.W.findIn K (.ref C) f=some none from n]
 rfl
structure gv (K:PySem.W.Frag) (C:Addr) (m:Str) (f:Addr):Prop where
 at_:PySem.W.findIn K (.ref C) m=some (some (.ref f))
 fn:PySem.W.isFn K (.ref f)=true
 kp:PySem.W.keepIn K (.ref f)=true
section
variable {X:Cx} {pins:List (Addr×Obj)} {σ:St} {H:Hp} {s:Shared} {a C dx:Addr} {fs:List (Str×V)} {f:Str} {v:V} {A:Around} {E:Value->Shared->Prop}
theorem AD {b:Bool} {Q:Value->Shared->Prop} (I:Inv X pins σ H s) (e:H a=some (.ins C dx fs)) (c:Cls X.K C) (n:NoAttr X.K C f) (l:fs.lookup f=some v)
  (h:∀ u s',Inv X pins σ H s'->RelV v u->Q u s'):wpAny (model X.prog X.w) A (getAttr (.ref a) f b) Q E s:=by
 obtain ⟨mA,O,r,_,_,_⟩:=mM I.hok e
 obtain ⟨u,hu,ru⟩:=RelO.some_of (v:=v) (o:=mA f) (by rw [<- l];exact r f)
 exact Ay I.kIn O (c.get f) c.hd n hu (AC ru) (h u _ (I.tok _) ru)
theorem uU {m:Str} {g:Addr} {pl:Sem Bool} {Q:Value×List Value->Shared->Prop} (I:Inv X pins σ H s) (e:H a=some (.ins C dx fs)) (c:Cls X.K C) (k:gv X.K C m g) (l:fs.lookup m=none)
  (h:Q (.ref g,[.ref a]) s):wpAny (model X.prog X.w) A (getMethod (.ref a) m pl) Q E s:=by
 obtain ⟨mA,O,r,_,_,_⟩:=mM I.hok e
 have hn:mA m=none:=RelO.none_of (by rw [<- l];exact r m)
 exact Az I.kIn O (c.get m) k.at_ k.fn hn h
theorem AE {y:V} {u:Value} {Q:Unit->Shared->Prop} (I:Inv X pins σ H s) (e:H a=some (.ins C dx fs)) (c:Cls X.K C) (n:NoAttr X.K C f) (hl:fs.length<1000) (ry:RelV y u)
  (h:∀ s',Inv X pins σ (aI H a (.ins C dx (bh f y fs))) s'->Q () s'):wpAny (model X.prog X.w) A (setAttr (.ref a) f u) Q E s:=by
 obtain ⟨mA,O,r,wi,_,ho⟩:=mM I.hok e
 have hz:(fs.map (·.1)).length<=sizeLine:=by rw [List.length_map,sizeLine_eq];omega
 refine AA I.kIn O c.sa c.po n.taker c.hd wi hz λh' O' sb=>h _ ?_
 have hd:∃ o,h'.get? dx=some o:=let ⟨o,_,_,e',_⟩:=O'.ns;⟨o,e'⟩
 refine I.write (x:=a) (e:=dx) (by rw [e];exact True.intro) (.inr ho) (λb q hb z=>(sb.2 b hb).trans z) hd ?_
 refine ⟨by rw [bg O.ne];exact ho,?_,O.ne,O'.obj,_,O'.ns,λg=>?_,λg hg=>?_⟩
 ·have:=uT f y fs;omega
 ·show RelO ((bh f y fs).lookup g) (if g=f then some u else mA g)
  rw [mL]
  by_cases q:g=f
  ·rw [if_pos q,if_pos q];exact ry
  ·rw [if_neg q,if_neg q];exact r g
 ·by_cases q:g=f
  ·rw [q];exact (pO f y fs).1
  ·refine (pO f y fs).2 g (wi g λz=>hg ?_)
   show (if g=f then some u else mA g)=none
   rw [if_neg q];exact z
theorem Inv.made (I:Inv X pins σ H s):Inv X pins σ (aI (aI H s.heap.objs.size (.own (s.heap.objs.size+1))) (s.heap.objs.size+1) (.ins C s.heap.objs.size []))
  { s with heap:=(s.heap.push PySem.W.emptyDict).push (PySem.W.instObj C s.heap.objs.size) }:=by
 have e1:(s.heap.push PySem.W.emptyDict).get? s.heap.objs.size=some PySem.W.emptyDict:=Heap.get?_push_size s.heap rfl
 have e2:((s.heap.push PySem.W.emptyDict).push (PySem.W.instObj C s.heap.objs.size)).get? (s.heap.objs.size+1)=some (PySem.W.instObj C s.heap.objs.size):=by
  have:=Heap.get?_push_size (s.heap.push PySem.W.emptyDict) (o:=PySem.W.instObj C s.heap.objs.size) rfl
  rwa [Heap.size_push] at this
 have e3:(s.heap.push PySem.W.emptyDict).Ns s.heap.objs.size (λ_=>none):=⟨PySem.W.emptyDict,#[],_,e1,rfl,(λe he=>absurd he (by simp)),λ_=>rfl⟩
 have I1:=I.laid (a:=s.heap.objs.size) (o:=.own (s.heap.objs.size+1)) (h' := s.heap.push PySem.W.emptyDict) (t' := s.toks) (λb u q=>Heap.get?_push_of_some _ q) (Nat.le_refl _) ⟨_,e1⟩
 refine I1.laid (a:=s.heap.objs.size+1) (o:=.ins C s.heap.objs.size []) (t' := s.toks) (λb u q=>Heap.get?_push_of_some _ q) (Nat.le_of_eq (Heap.size_push _ _)) ?_
 have ne:s.heap.objs.size≠s.heap.objs.size+1:=Nat.ne_of_lt (Nat.lt_succ_self _)
 refine ⟨by rw [bg ne,dU],Nat.zero_le _,ne,e2,λ_=>none,(Heap.Ns1.of_empty e3).at λo q=>Heap.get?_push_of_some _ q,λ_=>True.intro,λy hy=>absurd rfl hy⟩
theorem AF {prog:Program} {w:World} {env:Env} {e:Expr} {f:Str} {pos:Pos} {s:Shared} {Q:Value->Shared->Prop} (hb:attributeBase e f env (eval e env)=eval e env)
  (h:wpAny (model prog w) A (eval e env) (λo s₁=>wpAny (model prog w) A (getAttr o f true) Q E s₁) E s):wpAny (model prog w) A (eval (.Attribute e f pos) env) Q E s :=
 Attribute_any_ h (by rw [arm_eval_Attribute,hb])
end
def pP (K:PySem.W.Frag) (ta:TE) (f:Str):TE:=λσ H Q=>ta σ H λx H1=>∃ a C dx fs v,x = .ref a/\H1 a=some (.ins C dx fs)/\Cls K C/\NoAttr K C f/\fs.lookup f=some v/\Q v H1
def sFld (K:PySem.W.Frag) (ta tv:TE) (f:Str):TS:=λD σ H=>tv σ H λy H1=>ta σ H1 λx H2=>∃ a C dx fs,x = .ref a/\H2 a=some (.ins C dx fs)/\Cls K C/\NoAttr K C f/\fs.length<1000 /\
 D.nx σ (aI H2 a (.ins C dx (bh f y fs)))
section
variable {X:Cx} {o e value:Expr} {f:Str} {pos pos' tpos:Pos} {ta tv:TE}
theorem AG (he:PE X e ta) (hb:attributeBase e f X.env (eval e X.env)=eval e X.env):PE X (.Attribute e f pos) (pP X.K ta f):=by
 intro pins s σ H Q I h
 refine AF hb (thn (he pins s σ H _ I h) λu s1 Zz=>?_);obtain ⟨x,H1,I1,rx,a,C,dx,fs,v,ex,ea,c,n,l,q⟩:=Zz
 subst ex
 obtain rfl:u=Value.ref a:=rx
 exact AD I1 ea c n l λu' s2 I2 ru=>⟨v,H1,I2,ru,q⟩
theorem AI (ha:PE X o ta) (hv:PE X value tv) (hs:swapsWith value (some (.Attribute o f pos')) pos.line X.env=pure false):PS X (.Assign [.Attribute o f pos'] value pos) (sFld X.K ta tv f):=by
 intro pins s σ H D I h
 refine plainObj_wpAny_Assign_Attribute (thn (hv pins s σ H _ I h) λu s1 ⟨y,H1,I1,ry,q⟩=>thn (ha pins s1 σ H1 _ I1 q) λov s2 Zz=>?_) hs;obtain ⟨x,H2,I2,rx,a,C,dx,fs,ex,ea,c,n,l,q2⟩:=Zz
 subst ex
 obtain rfl:ov=Value.ref a:=rx
 exact AE I2 ea c n l ry λs3 I3=>⟨σ,_,I3,q2⟩
end
section
variable {X:Cx} {pins:List (Addr×Obj)} {σ:St} {H:Hp} {s:Shared} {A:Around} {E:Value->Shared->Prop} {Q:Value->Shared->Prop} {c:Value} {b:Bool}
inductive cE (K:PySem.W.Frag) (H:Hp):V->Value->Prop where
 | non:cE K H .non (.type "NoneType")
 | bl (x:Bool):cE K H (.bl x) (.type "bool")
 | int (i:Int):cE K H (.int i) (.type "int")
 | str (x:Str):cE K H (.str x) (.type "str")
 | flt (x:UInt64):cE K H (.flt x) (.type "float")
 | lst {a:Addr} {xs:List V} (e:H a=some (.lst xs)):cE K H (.ref a) (.type "list")
 | frz {a:Addr} {o:Obj} {xs:List V} (e:H a=some (.frz o (.lst xs))):cE K H (.ref a) (.type "list")
 | tup {a:Addr} {xs:List V} (e:H a=some (.tup xs)):cE K H (.ref a) (.type "tuple")
 | dK {a:Addr} {kvs:List (aF×V)} (e:H a=some (.dK kvs)):cE K H (.ref a) (.type "dict")
 | dT {a:Addr} {xc:Option (List Addr)} {kvs:List (List aF×V)} (e:H a=some (.dT xc kvs)):cE K H (.ref a) (.type "dict")
 | ins {a C dx:Addr} {fs:List (Str×V)} (e:H a=some (.ins C dx fs)) (cl:Cls K C) (ha:PySem.W.findIn K (.ref C) "__class__" = some (some (.builtin "object.__class__")))
   (hn:PySem.W.specialIn K (.builtin "object.__class__") "__get__" = some (some (.builtin "getset_descriptor.__get__"))) (htk:PySem.W.takesIn K (.builtin "object.__class__")=some true)
   (hm:PySem.W.mroIn K C (.type "object")=some true):cE K H (.ref a) (.ref C)
theorem AJ {x:V} {u t:Value} (I:Inv X pins σ H s) (rx:RelV x u) (ty:cE X.K H x t) (e:PySem.W.kitOne X.K t c=some b) (h:∀ tk,Q (.bool b) { s with toks:=tk }) :
  wpAny (model X.prog X.w) A (call (.builtin "isinstance") [u,c]) Q E s:=by
 cases ty with
 | non=>cases (show u=Value.none from rx);exact PySem.W.kia_one PySem.W.kitx_none I.kIn True.intro e (λz=>nomatch z) h
 | bl y=>cases (show u=Value.bool y from rx);exact PySem.W.kia_one PySem.W.kitx_bool I.kIn True.intro e (λz=>nomatch z) h
 | int i=>obtain ⟨t,q⟩:=(show ∃ t,u=Value.int i t from rx);cases q;exact PySem.W.kia_one PySem.W.kitx_int I.kIn True.intro e (λz=>nomatch z) h
 | str y=>obtain ⟨t,q⟩:=(show ∃ t,u=Value.str y t from rx);cases q;exact PySem.W.kia_one PySem.W.kitx_str I.kIn True.intro e (λz=>nomatch z) h
 | flt y=>obtain ⟨t,q⟩:=(show ∃ t,u=Value.float y t from rx);cases q;exact PySem.W.kia_one PySem.W.kitx_float I.kIn True.intro e (λz=>nomatch z) h
 | @lst a xs ea =>
  cases (show u=Value.ref a from rx)
  obtain ⟨_,_,n,_,h1⟩:=(show ObjOk X.prog X.w H s.heap a (.lst xs) from I.hok a _ ea)
  exact PySem.W.kia_one PySem.W.kitx_list I.kIn ⟨_,h1,rfl⟩ e (λz=>nomatch z) h
 | @frz a ob xs ea =>
  cases (show u=Value.ref a from rx)
  obtain ⟨_,_,_,n,_,h1⟩:=(show ObjOk X.prog X.w H s.heap a (.frz ob (.lst xs)) from I.hok a _ ea)
  exact PySem.W.kia_one PySem.W.kitx_list I.kIn ⟨_,h1,rfl⟩ e (λz=>nomatch z) h
 | @tup a xs ea =>
  cases (show u=Value.ref a from rx)
  obtain ⟨_,_,_,p⟩:=(show ObjOk X.prog X.w H s.heap a (.tup xs) from I.hok a _ ea)
  obtain ⟨o,h1,h2,_⟩:=p
  exact PySem.W.kia_one PySem.W.kitx_tuple I.kIn ⟨o,h1,h2⟩ e (λz=>nomatch z) h
 | @dK a kvs ea =>
  cases (show u=Value.ref a from rx)
  obtain ⟨_,_,vs,_,p⟩:=(show ObjOk X.prog X.w H s.heap a (.dK kvs) from I.hok a _ ea)
  obtain ⟨o,es,ep,h1,h2,_⟩:=p
  exact PySem.W.kia_one PySem.W.kitx_dict I.kIn ⟨o,h1,h2.1⟩ e (λz=>nomatch z) h
 | @dT a xc kvs ea =>
  cases (show u=Value.ref a from rx)
  obtain ⟨_,_,xs,_,o,es,ep,h1,h2,_⟩:=(show ObjOk X.prog X.w H s.heap a (.dT xc kvs) from I.hok a _ ea)
  exact PySem.W.kia_one PySem.W.kitx_dict I.kIn ⟨o,h1,h2.1⟩ e (λz=>nomatch z) h
 | @ins a C dx fs ea cl ha hn htk hm =>
  cases (show u=Value.ref a from rx)
  obtain ⟨mA,O,_⟩:=mM I.hok ea
  obtain ⟨od,J,_⟩:=O.look
  exact PySem.W.kia_one (PySem.W.kitx_own (cl.get _) cl.hd ha hn htk hm) I.kIn J e (λz=>nomatch z) h
end
end L2
namespace L2
open PySem PySem.Spec PyProof.Rows
structure Room (k:Nat) (A:Around):Prop where
 hd:A.handled=none
 dp:A.depth+3*k+5<recursionLimit
 un:A.units+16*k+200<cLine
theorem Room.mono {j k:Nat} {A:Around} (r:Room k A) (h:j<=k):Room j A:=⟨r.hd,by have:=r.dp;omega,by have:=r.un;omega⟩
theorem Room.deeper {k:Nat} {A:Around} (r:Room (k+1) A) (env:Env):Room k (A.deeper env) :=
 ⟨r.hd,by have:=r.dp;show A.depth+1+3*k+5<_;omega,by have:=r.un;show A.units+3+16*k+200<_;omega⟩
theorem AK {A:Around} {C:Addr} {us:List Value} {kw:List (Str×Value)}:(A.under (.builtin "type.__call__" ⟨.ref C::us,kw⟩)).depth=A.depth+1:=by
 first | rfl | simp [Around.under,Code.weight,Code.isCreation,Code.isGuard,Code.isCaller,Code.frames,Code.isFrame,guardIds]
theorem AL {A:Around} {C:Addr} {us:List Value} {kw:List (Str×Value)}:(A.under (.builtin "type.__call__" ⟨.ref C::us,kw⟩)).units=A.units+1:=by
 first | rfl | simp [Around.under,Code.cUnits,Code.frames,Code.isFrame]
theorem Room.make {k:Nat} {A:Around} (r:Room (k+1) A) (C:Addr) (us:List Value) (kw:List (Str×Value)):Room k (A.under (.builtin "type.__call__" ⟨.ref C::us,kw⟩)) :=
 ⟨r.hd,by have:=r.dp;rw [AK];omega,by have:=r.un;rw [AL];omega⟩
theorem Room.depth {k:Nat} {A:Around} (r:Room k A):A.depth<recursionLimit:=by have:=r.dp;omega
def pQ:TA:=λ_ H Q=>Q [] H
def AM (ta:TE) (tr:TA):TA:=λσ H Q=>ta σ H λx H1=>tr σ H1 λxs H2=>Q (x::xs) H2
section
variable {X:Cx} {e:Expr} {es:List Expr} {te:TE} {t:TA} {pos:Pos}
theorem kM:PA X [] pQ:=λ_ _ _ _ H Q I h=>Calls.spliced_nil ⟨[],H,I,.nil,h⟩
theorem gM (ha:PE X e te) (hr:PA X es t) (hs:starEach (e::es) X.env=(false,eval e X.env)::starEach es X.env:=by rfl):PA X (e::es) (AM te t):=by
 intro pos pins s σ H Q I h
 rw [hs]
 show wpAny _ _ (spliced ((false,eval e X.env)::backTo pos (starEach es X.env))) _ _ s
 refine Calls.spliced_cons (thn (ha pins s σ H _ I h) λu s1 Zz=>?_);obtain ⟨x,H1,I1,r1,q1⟩:=Zz
 exact thn (hr pos pins s1 σ H1 _ I1 q1) λus s2 ⟨xs,H2,I2,r2,q2⟩=>⟨x::xs,H2,I2,.cons r1 r2,q2⟩
def pR (t:TA):TE:=λσ H Q=>t σ H λxs H1=>xs.length<=sizeLine/\∀ p,H1 p=none->Q (.ref p) (aI H1 p (.tup xs))
def pS (t:TA):TE:=λσ H Q=>t σ H λxs H1=>xs.length<=sizeLine/\∀ p,H1 p=none->Q (.ref p) (aI H1 p (.lst xs))
theorem uV {x1} (h:PA X es t):PE X (.Tuple es x1 pos) (pR t):=by
 intro pins s σ H Q I hq
 refine wpAny_Tuple_spliced (thn (h pos pins s σ H _ I hq) λus s1 ⟨xs,H1,I1,r,z,q⟩=>⟨by rw [<- r.length];exact z,?_⟩)
 have hf:H1 s1.heap.objs.size=none:=I1.hok.fresh (Nat.le_refl _)
 refine ⟨.ref s1.heap.objs.size,aI H1 s1.heap.objs.size (.tup xs),I1.laid (t' := s1.toks) (λb u e=>Heap.get?_push_of_some _ e) (Nat.le_refl _) ?_,rfl,q _ hf⟩
 exact ⟨z,us,r,⟨_,Heap.get?_push_size _ rfl,rfl,_,rfl⟩⟩
theorem uW (h:PA X es t):PE X (.List es pos) (pS t):=by
 intro pins s σ H Q I hq
 refine wpAny_List_spliced (thn (h pos pins s σ H _ I hq) λus s1 ⟨xs,H1,I1,r,z,q⟩=>⟨by rw [<- r.length];exact z,?_⟩)
 have hf:H1 s1.heap.objs.size=none:=I1.hok.fresh (Nat.le_refl _)
 refine ⟨.ref s1.heap.objs.size,aI H1 s1.heap.objs.size (.lst xs),I1.laid (t' := s1.toks) (λb u e=>Heap.get?_push_of_some _ e) (Nat.le_refl _) ?_,rfl,q _ hf⟩
 exact ⟨z,us,0,r,Heap.get?_push_size _ rfl⟩
end
abbrev Sp:=List V->Hp->VK->XK->Prop
abbrev e7:=List Env->Hp->Shared->XK->Value->Shared->Prop
structure Env0 (P:Program) (w:World) (K:PySem.W.Frag) (mg:Str->Option Value) (base:Heap) (A:Around) (outer:List Env) (s:Shared) (H:Hp):Prop where
 frames:A.frames=some outer
 mod:Mod K mg base
 bs:∀ b o,base.get? b=some o->s.heap.get? b=some o/\H b=none
 bsz:base.objs.size<=s.heap.objs.size
 funs:s.heap.FunFrames base outer
 frf:∀ b∈c9 outer,H b=none
 hok:HOk P w H s.heap
 bare:AllBare s.gens
def CE (outer:List Env) (P:Program) (w:World) (H:Hp) (s:Shared) (Q:VK) (u:Value) (s':Shared):Prop :=
 ∃ v H',s'.os=s.os/\AllBare s'.gens/\Un (c9 outer) [] H H' s.heap s'.heap/\HOk P w H' s'.heap/\RelV v u/\Q v H'
def CR (CX:e7) (outer:List Env) (P:Program) (w:World) (H:Hp) (s:Shared) (Q:VK) (E:XK) (r:Result) (s':Shared):Prop :=
 match r with
 | .ok (.ret u)=>CE outer P w H s Q u s'
 | .ok _=>False
 | .error e=>CX outer H s E e s'
structure FnOk (P:Program) (w:World) (K:PySem.W.Frag) (mg:Str->Option Value) (base:Heap) (CX:e7) (k:Nat) (f:Addr) (fd:FuncData) (ps:List Str) (sp:Sp):Prop where
 len:∀ vs H Q E,sp vs H Q E->vs.length=ps.length
 run:∀ (A:Around) (outer:List Env) (s:Shared) (H:Hp) (args:Args) (us:List Value) (vs:List V) (Q:VK) (E:XK),Room k A->Env0 P w K mg base A outer s H->BindsTo s fd args (ps.zip us)->Vals vs us->sp vs H Q E ->
  codeAny (model P w) A (.call (.ref f) args) (CR CX outer P w H s Q E) s
theorem FnOk.imp {P:Program} {w:World} {K:PySem.W.Frag} {mg:Str->Option Value} {base:Heap} {CX:e7} {k:Nat} {f:Addr} {fd:FuncData} {ps:List Str} {sp sp':Sp} (F:FnOk P w K mg base CX k f fd ps sp)
  (h:∀ vs H Q E,sp' vs H Q E->sp vs H Q E):FnOk P w K mg base CX k f fd ps sp' :=
 ⟨λvs H Q E q=>F.len vs H Q E (h _ _ _ _ q),λA outer s H args us vs Q E hr he hb hv hs=>F.run A outer s H args us vs Q E hr he hb hv (h _ _ _ _ hs)⟩
theorem Env0.make {P:Program} {w:World} {K:PySem.W.Frag} {mg:Str->Option Value} {base:Heap} {A:Around} {outer:List Env} {s:Shared} {H:Hp} (e:Env0 P w K mg base A outer s H) (C:Addr) (us:List Value) (kw:List (Str×Value)) :
  Env0 P w K mg base (A.under (.builtin "type.__call__" ⟨.ref C::us,kw⟩)) outer s H:=⟨by first | exact e.frames | (simpa [Around.under,Code.envs,Code.isFrame,pushEnvs] using e.frames),e.mod,e.bs,e.bsz,e.funs,e.frf,e.hok,e.bare⟩
section
variable {X:Cx} {pins:List (Addr×Obj)} {σ:St} {H:Hp} {s s':Shared}
theorem Inv.env0 (I:Inv X pins σ H s):Env0 X.prog X.w X.K X.mg X.base X.A X.stack s H :=
 ⟨I.ok.frames,I.ok.mod,I.bs,Nat.le_trans I.ok.bsz I.sz,I.stack,I.stkFree,I.hok,I.bare⟩
theorem Inv.after {Q:VK} {u:Value} (I:Inv X pins σ H s) (h:CE X.stack X.prog X.w H s Q u s'):EP X pins σ Q u s' := by
 obtain ⟨v,H',os,bare,un,hok,r,q⟩:=h
 obtain ⟨hh,g,d,t,os'⟩:=s'
 obtain rfl:os'=s.os:=os
 exact ⟨v,H',I.call (h' := hh) (g' := g) (d' := d) (t' := t) (ch:=[]) un hok bare (λb z=>absurd z (by simp)),r,q⟩
end
def Binds (K:PySem.W.Frag) (fd:FuncData) (ps:List Str) (ds:List Value):Prop :=
 ∀ (s:Shared) (us:List Value),K.In s.heap->(us++ds).length=ps.length->BindsTo s fd ⟨us,[]⟩ (ps.zip (us++ds))
theorem Binds.all {K:PySem.W.Frag} {fd:FuncData} {ps:List Str} (h:∀ us:List Value,us.length=ps.length->bindArgs fd ⟨us,[]⟩=pure (ps.zip us)):Binds K fd ps []:=λs us _ hl=>by
 rw [List.append_nil] at hl ⊢
 exact .of_eq (h us hl)
def AN (CX:e7) (X:Cx) (E:XK):Prop:=∀ (pins:List (Addr×Obj)) (σ:St) (H:Hp) (s:Shared) (e:Value) (s':Shared),Inv X pins σ H s->CX X.stack H s E e s'->X.xe e s'
section
variable {X:Cx} {CX:e7} {k:Nat} {f C:Addr} {fd:FuncData} {ps:List Str} {sp:Sp} {dvs:List V} {ds:List Value} {E:XK} {x m:Str} {p pos apos:Pos} {e o:Expr} {es:List Expr} {ta:TE} {t:TA}
structure Mk (K:PySem.W.Frag) (C f:Addr):Prop where
 makes:PySem.W.makesIn K C=true
 init:PySem.W.findIn K (.ref C) "__init__" = some (some (.ref f))
 fn:PySem.W.isFn K (.ref f)=true
 kp:PySem.W.keepIn K (.ref C)=true
end
section
variable {X:Cx} {CX:e7} {k:Nat} {f C:Addr} {fd:FuncData} {ps ks:List Str} {sp:Sp} {E:XK} {x m:Str} {p pos apos kpos:Pos} {e o:Expr} {es:List Expr} {kws:List Keyword} {te ta:TE} {t tk:TA} {nm:Option Str}
variable {g:List Value->List Value->List Value} {gV:List V->List V->List V}
end
structure ao (N P:List Str) (sc:Scope):Prop where
 kind:sc.kind = .function
 co:sc.isCoroutine=false
 gen:sc.isGenerator=false
 nd:N.Nodup
 pre:N.take P.length=P
 par:∀ x∈P,sc.names.lookup x=some .local\/sc.names.lookup x=some .cell
 nofree:∀ y∈sc.names,y.2 ≠ .free
theorem uX {kindOf:Str->Option NameKind} {x:Str}:∀ {binds:List (Str×Value)} {m:Str->Option Value},(∀ v,(x,v)∉binds)->bindL kindOf binds m x=m x
 | [],_,_=>rfl
 | (n,v)::r,m,h=>by
  unfold bindL
  rw [uX λw hw=>h w (List.mem_cons_of_mem _ hw)]
  split
  ·have:x≠n:=by rintro rfl;exact h v List.mem_cons_self
   simp [this]
  ·rfl
theorem uY {kindOf:Str->Option NameKind} {x:Str}:∀ {binds:List (Str×Value)} {m:Str->Option Value},(∀ v,(x,v)∉binds)->bindC kindOf binds m x=m x
 | [],_,_=>rfl
 | (n,v)::r,m,h=>by
  unfold bindC
  rw [uY λw hw=>h w (List.mem_cons_of_mem _ hw)]
  split
  ·rfl
  ·have:x≠n:=by rintro rfl;exact h v List.mem_cons_self
   simp [this]
theorem uZ {kindOf:Str->Option NameKind} {x:Str} {v:Value}:∀ {P:List Str} {vs:List Value} {i:Nat} {m:Str->Option Value},P.Nodup->P[i]? = some x->vs[i]? = some v->kindOf x=some .local ->
  bindL kindOf (P.zip vs) m x=some v
 | [],_,_,_,_,h,_,_=>by simp at h
 | _::_,[],_,_,_,_,h,_=>by simp at h
 | p::P,w::vs,0,m,nd,h1,h2,hk=>by
  simp at h1 h2;subst h1;subst h2
  show bindL kindOf ((p,w)::P.zip vs) m p=_
  unfold bindL
  rw [uX λv hv=>(List.nodup_cons.mp nd).1 (List.of_mem_zip hv).1,if_pos hk]
  simp
 | p::P,w::vs,i+1,m,nd,h1,h2,hk=>by
  show bindL kindOf ((p,w)::P.zip vs) m x=_
  unfold bindL
  exact uZ (i:=i) (List.nodup_cons.mp nd).2 (by simpa using h1) (by simpa using h2) hk
theorem u0 {kindOf:Str->Option NameKind} {x:Str} {v:Value}:∀ {P:List Str} {vs:List Value} {i:Nat} {m:Str->Option Value},P.Nodup->P[i]? = some x->vs[i]? = some v->kindOf x≠some .local ->
  bindC kindOf (P.zip vs) m x=some v
 | [],_,_,_,_,h,_,_=>by simp at h
 | _::_,[],_,_,_,_,h,_=>by simp at h
 | p::P,w::vs,0,m,nd,h1,h2,hk=>by
  simp at h1 h2;subst h1;subst h2
  show bindC kindOf ((p,w)::P.zip vs) m p=_
  unfold bindC
  rw [uY λv hv=>(List.nodup_cons.mp nd).1 (List.of_mem_zip hv).1,if_neg hk]
  simp
 | p::P,w::vs,i+1,m,nd,h1,h2,hk=>by
  show bindC kindOf ((p,w)::P.zip vs) m x=_
  unfold bindC
  exact u0 (i:=i) (List.nodup_cons.mp nd).2 (by simpa using h1) (by simpa using h2) hk
def start (N:List Str) (vs:List V):St:=vs.map some++List.replicate (N.length-vs.length) none
def bw (CX:e7) (P:Program) (w:World) (K:PySem.W.Frag) (mg:Str->Option Value) (base:Heap) (N:List Str) (qual:Str) (scope:Scope) (f:Addr) (cd:Value) (A:Around) (outer:List Env) (s:Shared) (H:Hp) (E:XK):Cx where
 prog:=P
 w:=w
 K:=K
 mg:=mg
 base:=base
 A:=A.deeper (envOfC qual scope s.heap.objs.size f cd)
 N:=N
 s₀:=s
 H₀:=H
 env:=envOfC qual scope s.heap.objs.size f cd
 outer:=outer
 stack:=envOfC qual scope s.heap.objs.size f cd::outer
 ex:=[]
 calm:=true
 fn:=λ_=>true
 pn:=[]
 xe:=λe s' => wpAny (model P w) (A.deeper (envOfC qual scope s.heap.objs.size f cd)) (leaving (envOfC qual scope s.heap.objs.size f cd) e) (λ_ s'' => CX outer H s E e s'') (λe' s'' => CX outer H s E e' s'') s'
theorem u7 {sc:Scope} {n:Nat} {x:Str} (h:sc.names.lookup x=some .cell):∃ c,(cellsFrom n sc.names []).lookup x=some c:=by
 have q:=PySem.W.cellsFrom_some sc.names n [] (.inl h)
 exact Option.isSome_iff_exists.mp q
theorem AQ {CX:e7} {P:Program} {w:World} {K:PySem.W.Frag} {mg:Str->Option Value} {base:Heap} {N ps:List Str} {qual:Str} {scope:Scope} {f:Addr} {cd:Value} {A:Around} {outer:List Env} {s s1:Shared} {H:Hp} {E:XK} {us:List Value} {vs:List V}
  (S:ao N ps scope) (hd:A.handled=none) (e0:Env0 P w K mg base A outer s H) (hl:vs.length=ps.length) (r:Vals vs us)
  (x:InCallC s s.heap.objs.size (bindL (envOfC qual scope s.heap.objs.size f cd).kindOf (ps.zip us) λ_=>none) (cellsFrom (s.heap.objs.size+1) scope.names []) (bindC (envOfC qual scope s.heap.objs.size f cd).kindOf (ps.zip us) λ_=>none) s1) :
  Inv (bw CX P w K mg base N qual scope f cd A outer s H E) [] (start N vs) H s1:=by
 have hpl:ps.length<=N.length:=by have:=congrArg List.length S.pre;rw [List.length_take] at this;omega
 obtain ⟨h1,tk,rfl,hk⟩:=x.done
 have noA:∀ b:Addr,b∉(bw CX P w K mg base N qual scope f cd A outer s H E).ex:=λb z=>absurd (show b∈([]:List Addr) from z) (by simp)
 refine ⟨⟨e0.mod,S.kind,rfl,rfl,Nat.le_refl _,λy z c h1 h2=>?_,λy hy=>?_,λy c _ h=>?_,λ_=>hd,Around.frames_deeper e0.frames,.inr ⟨rfl,rfl⟩,λb z=>absurd z (noA b),e0.bs,e0.bsz,λb _ _=>noA b,λb z=>absurd z (noA b),e0.funs,e0.frf⟩,
  rfl,e0.bare,Un.kept hk,⟨_,x.toInCall.ns,λi y v h1 h2 h3=>?_⟩,λy c h=>⟨_,x.cell y c h⟩,e0.hok.fresh (Nat.le_refl _),λy c h=>?_,λp hp=>absurd (show p∈([]:List (Addr×Obj)) from hp) (by simp),e0.hok.kept hk,?_⟩
 ·exact name_of_addr x.apart (PySem.mem_of_lookup h1) (PySem.mem_of_lookup h2)
 ·have hy:scope.names.lookup y=some .cell\/scope.names.lookup y=some .free:=hy
  rcases hy with hy | hy
  ·exact u7 hy
  ·exact absurd rfl (S.nofree _ (PySem.mem_of_lookup hy))
 ·exact Nat.le_of_lt (x.above y c (PySem.mem_of_lookup h))
 ·have hi:i<vs.length:=by
   unfold start at h2
   by_cases hi:i<vs.length
   ·exact hi
   ·rw [List.getElem?_append_right (by simpa using hi)] at h2
    rw [List.getElem?_replicate] at h2
    split at h2<;>cases h2
  have ha:vs[i]? = some v:=by
   unfold start at h2
   rw [List.getElem?_append_left (by simpa using hi),List.getElem?_map] at h2
   cases e:vs[i]? with
   | none=>rw [e] at h2;cases h2
   | some a=>rw [e] at h2;cases h2;rfl
  obtain ⟨u,hu,rv⟩:=r.get ha
  have hp:ps[i]? = some y:=by
   rw [<- S.pre,List.getElem?_take_of_lt (by omega)];exact h1
  have ndP:ps.Nodup:=by rw [<- S.pre];exact S.nd.sublist (List.take_sublist _ _)
  refine ⟨u,rv,?_⟩
  rcases S.par y (List.mem_of_getElem? hp) with k | k
  ·exact .inl ⟨k,uZ ndP hp hu k⟩
  ·obtain ⟨c,e⟩:=u7 (n:=s.heap.objs.size+1) k
   refine .inr ⟨.inl k,c,e,?_⟩
   have q:=x.cell y c e
   rw [u0 ndP hp hu (by show scope.names.lookup y≠_;rw [k];decide)] at q
   exact q
 ·exact e0.hok.fresh (Nat.le_of_lt (x.above y c (PySem.mem_of_lookup h)))
 ·unfold start
  show _=N.length
  rw [List.length_append,List.length_map,List.length_replicate]
  omega
theorem AR {CX:e7} {P:Program} {w:World} {K:PySem.W.Frag} {mg:Str->Option Value} {base:Heap} {k:Nat} {f:Addr} {name qual:Str} {params:Arguments} {body:List Stmt} {scope:Scope} {dV kV doc pm cdv ct oc:Value} {an od:Option Addr}
  {osl:Array (Option Value)} {N ps:List Str} {sp:Sp} (lk:K.lookup f=some ⟨oc,od,.func (PySem.W.fnOf name qual params body scope dV kV doc pm an cdv ct),osl⟩) (hcd:PySem.W.codeIn K cdv qual=true) (S:ao N ps scope)
  (len:∀ vs H Q E,sp vs H Q E->vs.length=ps.length)
  (hbody:∀ (A:Around) (outer:List Env) (s:Shared) (H:Hp) (vs:List V) (Q:VK) (E:XK),Room k (A.deeper (envOfC qual scope s.heap.objs.size f cdv))->sp vs H Q E ->
   ∃ t,eX (bw CX P w K mg base N qual scope f cdv A outer s H E) body t/\t { nx:=λ_ H' => Q .non H',rt:=Q } (start N vs) H) :
  FnOk P w K mg base CX (k+1) f (PySem.W.fnOf name qual params body scope dV kV doc pm an cdv ct) ps sp:=by
 refine ⟨len,λA outer s H args us vs Q E hr e0 hb r hsp=>?_⟩
 have hl:=len _ _ _ _ hsp
 have KX:K.In s.heap:=e0.mod.kin.keeps λb o e=>(e0.bs b o e).1
 have lim:s.heap.NoLimit:=e0.mod.nolimit.keeps λb o e=>(e0.bs b o e).1
 have hkind:∀ y∈ps.zip us,scope.names.lookup y.1=some .local\/(scope.names.lookup y.1=some .cell/\((cellsFrom (s.heap.objs.size+1) scope.names []).lookup y.1).isSome=true):=λ⟨n,v⟩ hy=>by
  rcases S.par n (List.of_mem_zip hy).1 with q | q
  ·exact .inl q
  ·exact .inr ⟨q,PySem.W.cellsFrom_some _ _ _ (.inl q)⟩
 refine codeAny_call_function hr.depth (KX _ _ lk) rfl S.co S.gen rfl (PySem.W.codeRec_of KX hcd) (hb _ _ _ _ ?_)
 refine wpAny_newFunctionEnv_cells S.kind hkind λenv he s1 x=>?_
 subst he
 refine ⟨lim.keeps x.toInCall.keep,codeAny_func ?_⟩
 obtain ⟨t,ht,hq⟩:=hbody A outer s H vs Q E (hr.deeper _) hsp
 have I:Inv (bw CX P w K mg base N qual scope f cdv A outer s H E) [] (start N vs) H s1:=AQ S hr.hd e0 hl r x
 refine wpAny_mono (ht [] s1 (start N vs) H _ I hq) (λfl s' hs=>?_) λe s' hs=>hs
 have fin:∀ {σ':St} {H':Hp} {v:V} {u:Value},Inv (bw CX P w K mg base N qual scope f cdv A outer s H E) [] σ' H' s'->RelV v u->Q v H'->CE outer P w H s Q u s' :=
  λ{σ' H' v u} J rv q=>⟨v,H',J.os,J.bare,J.base,J.hok,rv,q⟩
 cases fl with
 | ret u =>
  obtain ⟨v,σ',H',J,rv,q⟩:=hs
  exact fin J rv q
 | next =>
  obtain ⟨σ',H',J,q⟩:=hs
  exact fin (v:=V.non) (u:=Value.none) J rfl q
 | brk =>
  obtain ⟨_,_,_,q⟩:=hs
  exact False.elim q
 | cont =>
  obtain ⟨_,_,_,q⟩:=hs
  exact False.elim q
end L2
namespace L2
open PySem PySem.Spec PyProof.Rows
section
variable {X:Cx} {x:Str} {p pos:Pos} {e:Expr} {es:List Expr} {t:TA} {id T:String} {r:List V->Hp->VK->Prop}
def pT (r:List V->Hp->VK->Prop) (t:TA):TE:=λσ H Q=>t σ H λvs H1=>r vs H1 Q
theorem mO (hc:CallR X (.builtin id) r) (hg:Gl X x) (hm:X.mg x=none) (hv:bootBuiltins x=some (.builtin id)) (ha:PA X (e::es) t) (hn:x ≠ "__name__" := by decide) (hdb:(x == ("__debug__" : Str))=false:=by decide)
  (he:starEach (e::es) X.env=(false,eval e X.env)::starEach es X.env:=by rfl) (hpl:(backTo pos (starEach es X.env)).any (·.1)=false:=by rfl):PE X (.Call (.Name x p) (e::es) [] pos) (pT r t):=by
 intro pins s σ H Q I h
 refine wpAny_Call_Name_kw (fU I hg hm hv ?_ hn hdb)
 exact PyProof.Rows.callWith_builtin1 (thn (ha pos pins s σ H _ I h) λus s1 ⟨vs,H1,I1,r1,q1⟩=>hc pins s1 σ H1 vs us Q I1 r1 q1) he hpl
theorem AS (hc:CallR X (.type T) r) (hg:Gl X x) (hm:X.mg x=none) (hv:bootBuiltins x=some (.type T)) (ha:PA X (e::es) t) (hn:x ≠ "__name__" := by decide) (hdb:(x == ("__debug__" : Str))=false:=by decide)
  (he:starEach (e::es) X.env=(false,eval e X.env)::starEach es X.env:=by rfl) (hpl:(backTo pos (starEach es X.env)).any (·.1)=false:=by rfl):PE X (.Call (.Name x p) (e::es) [] pos) (pT r t):=by
 intro pins s σ H Q I h
 refine wpAny_Call_Name_kw (fU I hg hm hv ?_ hn hdb)
 exact PyProof.Rows.callWith_type1 (thn (ha pos pins s σ H _ I h) λus s1 ⟨vs,H1,I1,r1,q1⟩=>hc pins s1 σ H1 vs us Q I1 r1 q1) he hpl
end
end L2
namespace HT
open PySem PyProof.Rows
section
open PySem.SeqAt
open PySem.AutoSeq1 (wpAny_loadPart')
open PySem.MeetsSeq PySem.MeetsSeq2 PySem.MeetsSeq3
end
section
variable {prog:Program} {w:World} {A:Around} {E:Value->Shared->Prop} {s:Shared}
theorem cat_tup {t b:Addr} {vs ws:List Value} {Q:Value->Shared->Prop} (ht:IsTup s.heap t vs.toArray) (hb:IsTup s.heap b ws.toArray) (hv:vs≠[])
  (h1:ws=[]->Q (.ref t) s) (h2:ws≠[]->Q (.ref s.heap.objs.size) { s with heap:=s.heap.push { cls:=.type "tuple",data:=.seq (vs++ws).toArray } })
  (hsz:vs.length+ws.length<=sizeLine):wpAny (model prog w) A (binaryOp .Add (.ref t) (.ref b)) Q E s:=by
 obtain ⟨⟨cls,dd,data,sl⟩,ho,hc,n,hd⟩:=id ht
 obtain ⟨⟨cls2,dd2,data2,sl2⟩,ho2,hc2,n2,hd2⟩:=id hb
 simp only at hc hd hc2 hd2
 subst hc hd hc2 hd2
 have e:vs.toArray++ws.toArray=(vs++ws).toArray:=by simp
 by_cases hw:ws=[]
 ·exact concat_meets ⟨_,ho,rfl⟩ ⟨_,ho2,rfl⟩ noFill_tuple_add seq_tuple_add PySem.F.slot_tuple_add PySem.F.entry_tuple_add (PySem.F.args_tuple_add_2 _ _)
   (tuple_addW1 t b vs.toArray ws.toArray n n2 dd dd2 sl sl2 (by simpa using hv) (by simp [hw])) ⟨ho,ho2,h1 hw⟩
 ·refine concat_meets ⟨_,ho,rfl⟩ ⟨_,ho2,rfl⟩ noFill_tuple_add seq_tuple_add PySem.F.slot_tuple_add PySem.F.entry_tuple_add (PySem.F.args_tuple_add_2 _ _)
   (tuple_addW2 t b vs.toArray ws.toArray n n2 dd dd2 sl sl2 (by simpa using hv) (by simpa using hw) (by rw [List.size_toArray,List.size_toArray];exact hsz)) ⟨ho,ho2,?_⟩
  rw [e]
  exact h2 hw
def sIx (n d:Nat):Option Int->Nat
 | none=>d
 | some v=>if v<0 then (v+(n:Int)).toNat else min v.toNat n
theorem sIx_none (n d:Nat):sIx n d none=d:=rfl
theorem sIx_nat (n d k:Nat):sIx n d (some (k:Int))=min k n:=by
 show (if (k:Int)<0 then ((k:Int)+(n:Int)).toNat else min (k:Int).toNat n)=min k n
 rw [if_neg (by omega),Int.toNat_natCast]
theorem sIx_le (n d:Nat) (hd:d<=n) (o:Option Int):sIx n d o<=n:=by
 cases o with
 | none=>exact hd
 | some v =>
  show (if v<0 then (v+(n:Int)).toNat else min v.toNat n)<=n
  by_cases hv:v<0
  ·rw [if_pos hv];omega
  ·rw [if_neg hv];exact Nat.min_le_right _ _
theorem u9 (v:Int) (n d:Nat):(if v<0 then max (v+(n:Int)) 0 else min v (n:Int))=((sIx n d (some v):Nat):Int):=by
 show (if v<0 then max (v+(n:Int)) 0 else min v (n:Int))=(((if v<0 then (v+(n:Int)).toNat else min v.toNat n):Nat):Int)
 by_cases hv:v<0
 ·simp only [if_pos hv];omega
 ·simp only [if_neg hv];omega
theorem AU (lo hi:Option Int) (n:Nat):Builtin.Slice.sliceAdjust lo hi 1 (n:Int)=(((sIx n 0 lo:Nat):Int),((sIx n n hi:Nat):Int)):=by
 have h1 : ¬ ((1:Int)<0):=by omega
 unfold Builtin.Slice.sliceAdjust
 simp only [h1,if_false]
 refine Prod.ext ?_ ?_
 ·cases lo with
  | none=>rfl
  | some v=>exact u9 v n 0
 ·cases hi with
  | none=>rfl
  | some v=>exact u9 v n n
theorem AW (i j:Nat):Builtin.Slice.slicePlaces (i:Int) (j:Int) 1=j-i:=by
 unfold Builtin.Slice.slicePlaces
 have h1:(1:Int) > 0:=by omega
 simp only [h1,if_true,Int.ediv_one]
 split<;>omega
theorem va {v:Value} {o:Option Int} {Q:Option Int->Shared->Prop} (p:IsPart v o) (h:Q o s):wpAny (model prog w) A (Builtin.Slice.slicePartIndex v) Q E s:=by
 cases p with
 | none=>exact slicePart_none h
 | int i t=>exact slicePart_int h
theorem AX {sl:Addr} {vl vu:Value} {lo hi:Option Int} {n:Nat} {Q:Int×Int×Nat->Shared->Prop} (hs:s.heap.IsSliceOf sl vl vu .none) (pl:IsPart vl lo) (pu:IsPart vu hi)
  (h:Q (((sIx n 0 lo:Nat):Int),1,sIx n n hi-sIx n 0 lo) s):wpAny (model prog w) A (Builtin.Slice.sliceApplied (.ref sl) (pure (n:Int))) Q E s:=by
 obtain ⟨os,hos,hcs,hds⟩:=id hs
 unfold Builtin.Slice.sliceApplied Builtin.Slice.sliceFields
 refine wpAny_bind (wpAny_bind (wpAny_field hos hds (x:=vl) rfl (wpAny_bind (wpAny_field hos hds (x:=vu) rfl (wpAny_bind (wpAny_field hos hds (x:=.none) rfl (wpAny_pure ?_)))))))
 refine wpAny_bind (slicePart_none ?_)
 show wpAny _ _ (if ((1:Int) == 0)=true then _ else _) _ _ s
 rw [if_neg (by decide)]
 refine wpAny_bind (va pl (wpAny_bind (va pu (wpAny_bind (wpAny_pure ?_)))))
 show wpAny _ _ (match Builtin.Slice.sliceAdjust lo hi 1 (n:Int) with | (lo,hi)=>pure (lo,(1:Int),Builtin.Slice.slicePlaces lo hi 1)) _ _ s
 rw [AU lo hi n]
 show wpAny _ _ (pure (((sIx n 0 lo:Nat):Int),(1:Int),Builtin.Slice.slicePlaces ((sIx n 0 lo:Nat):Int) ((sIx n n hi:Nat):Int) 1)) _ _ s
 rw [AW]
 exact wpAny_pure h
theorem AY (xs:Array Value) (i k:Nat):((List.range k).filterMap λ(m:Nat)=>xs[((i:Int)+(m:Int)*1).toNat]?).toArray=((xs.toList.drop i).take k).toArray:=by
 have e:(λ(m:Nat)=>xs[((i:Int)+(m:Int)*1).toNat]?)=λm=>xs[i+m]? := by
  funext m
  have:((i:Int)+(m:Int)*1).toNat=i+m:=by omega
  rw [this]
 rw [e]
 have:=pick_run xs i k
 rw [List.filterMap_map] at this
 have e2:((λx=>xs[x]?) ∘ λx=>i+x)=λm=>xs[i+m]? := rfl
 rw [e2] at this
 rw [this]
theorem getItem_tuple_cut {t sl:Addr} {items:Array Value} {vl vu:Value} {lo hi:Option Int} {Q:Value->Shared->Prop} (ht:IsTup s.heap t items) (hs:s.heap.IsSliceOf sl vl vu .none) (pl:IsPart vl lo) (pu:IsPart vu hi)
  (hw : ¬ (sIx items.size 0 lo=0/\sIx items.size items.size hi=items.size))
  (h:Q (.ref s.heap.objs.size) { s with heap:=s.heap.push { cls:=.type "tuple",data:=.seq ((items.toList.drop (sIx items.size 0 lo)).take (sIx items.size items.size hi-sIx items.size 0 lo)).toArray } })
  (hsz:items.size<=sizeLine):wpAny (model prog w) A (getItem (.ref t) (.ref sl)) Q E s:=by
 have htake:sizeOk (.seq ((items.toList.drop (sIx items.size 0 lo)).take (sIx items.size items.size hi-sIx items.size 0 lo)).toArray):=by
  show ((items.toList.drop (sIx items.size 0 lo)).take (sIx items.size items.size hi-sIx items.size 0 lo)).toArray.size<=sizeLine
  rw [List.size_toArray,List.length_take,List.length_drop,Array.length_toList]
  omega
 have hj:sIx items.size items.size hi<=items.size:=sIx_le _ _ (Nat.le_refl _) hi
 obtain ⟨os,hos,hcs,hds⟩:=id hs
 have hTs:s.TypeIs (.ref sl) "slice" := ⟨os,hos,hcs⟩
 unfold getItem
 try with_reducible refine wpAny_holding ?_
 first | refine wpAny_bind (wpAny_pure ?_) | skip
 refine wpAny_bind (wpAny_sequenceKey ht.typeIs (by decide) ?_)
 refine wpAny_bind (wpAny_callSpecial?_slot (name:=Str.ofString "__getitem__") ht.typeIs PyProof.Rows.slot_tuple_getitem
  (wpAny_call_entry PyProof.Rows.slot_tuple_getitem ht.typeIs entry_tuple_getitem ?_ (args_tuple_getitem _ _)))
 show wpAny _ _ (Builtin.Tuple.tupleItemsOf (.ref t) >>= _) _ _ s
 refine wpAny_bind (tupleItemsOf_ ht ?_)
 refine wpAny_bind (wpAny_typeOf hTs ?_)
 rw [if_pos (by decide)]
 refine wpAny_bind (AX hs pl pu ?_)
 have hno : ¬ ((((sIx items.size 0 lo:Nat):Int) == 0 && (1:Int) == 1 && (sIx items.size items.size hi-sIx items.size 0 lo) == items.size)=true):=by
  intro q
  rw [Bool.and_eq_true,Bool.and_eq_true] at q
  have q1:((sIx items.size 0 lo:Nat):Int)=0:=eq_of_beq q.1.1
  have q2:sIx items.size items.size hi-sIx items.size 0 lo=items.size:=eq_of_beq q.2
  exact hw ⟨by omega,by omega⟩
 show wpAny _ _ (if (((sIx items.size 0 lo:Nat):Int) == 0 && (1:Int) == 1 && (sIx items.size items.size hi-sIx items.size 0 lo) == items.size)=true then _ else _) _ _ s
 rw [if_neg hno,AY]
 first
  | exact wpAny_bind (m:=Builtin.Tuple.tupleExact _) (wpAny_newObj_type (wpAny_pure ⟨_,rfl,wpAny_pure h⟩) htake)
  | exact wpAny_bind (m:=Builtin.Tuple.tupleExact _) (wpAny_newObj_type (wpAny_bind (wpAny_pure (wpAny_pure ⟨_,rfl,wpAny_pure h⟩))) htake)
  | exact wpAny_bind (wpAny_bind (m:=Builtin.Tuple.tupleExact _) (wpAny_newObj_type (wpAny_pure (wpAny_pure ⟨_,rfl,wpAny_pure h⟩)) htake))
  | exact wpAny_bind (wpAny_bind (m:=Builtin.Tuple.tupleExact _) (wpAny_newObj_type (wpAny_pure ⟨_,rfl,wpAny_pure h⟩) htake))
end
end HT
namespace L2
open PySem PySem.Spec PyProof.Rows
abbrev TO:=St->Hp->(Option Int->Hp->Prop)->Prop
def PO (X:Cx) (e:Option Expr) (t:TO):Prop :=
 ∀ (pins:List (Addr×Obj)) (s:Shared) (σ:St) (H:Hp) (Q:Option Int->Hp->Prop),Inv X pins σ H s->t σ H Q ->
  wpAny (model X.prog X.w) X.A (evalPart e X.env) (λu s' => ∃ o H',Inv X pins σ H' s'/\IsPart u o/\Q o H') X.xe s
def vb:TO:=λ_ H Q=>Q none H
def vc (t:TE):TO:=λσ H Q=>t σ H λx H1=>∃ i,x = .int i/\Q (some i) H1
theorem iO {ns:List Int}:∀ {us:List Value},Vals (ns.map V.int) us->IntsAre us ns:=by
 induction ns with
 | nil=>intro us r;rw [List.map_nil] at r;cases r;exact .nil
 | cons n ns ih =>
  intro us r
  rw [List.map_cons] at r
  cases r with
  | cons r1 r2 =>
   obtain ⟨t,e⟩:=r1
   subst e
   exact .cons n t (ih r2)
section
variable {X:Cx} {e:Expr} {te:TE} {lo hi:Option Expr} {tl th:TO} {pos p2:Pos}
theorem AZ:PO X none vb:=by
 intro pins s σ H Q I h
 rw [evalPart_none]
 exact wpAny_pure ⟨none,H,I,.none,h⟩
theorem A0 (h:PE X e te):PO X (some e) (vc te):=by
 intro pins s σ H Q I hw
 rw [evalPart_some]
 refine thn (h pins s σ H _ I hw) λu s1 Zz=>?_;obtain ⟨x,H1,I1,r1,q1⟩:=Zz
 obtain ⟨i,rfl,q⟩:=q1
 obtain ⟨t,rfl⟩:=r1
 exact ⟨some i,H1,I1,.int i t,q⟩
def SlR (X:Cx) (r:V->Option Int->Option Int->Hp->VK->Prop):Prop :=
 ∀ (pins:List (Addr×Obj)) (s:Shared) (σ:St) (H:Hp) (x:V) (v vl vu:Value) (lo hi:Option Int) (sl:Addr) (Q:VK),Inv X pins σ H s->RelV x v->s.heap.IsSliceOf sl vl vu .none->IsPart vl lo->IsPart vu hi->r x lo hi H Q ->
  ∃ T id,typeLookup (.type T) "__getitem__" = pure (some (.builtin id))/\s.TypeIs v T/\wpAny (model X.prog X.w) X.A (getItem v (.ref sl)) (EP X pins σ Q) X.xe s
theorem SlR.or {r r':V->Option Int->Option Int->Hp->VK->Prop} (h:SlR X r) (h':SlR X r'):SlR X (λx lo hi H Q=>r x lo hi H Q\/r' x lo hi H Q):=by
 intro pins s σ H x v vl vu lo hi sl Q I rx hs pl pu q
 rcases q with q | q
 ·exact h pins s σ H x v vl vu lo hi sl Q I rx hs pl pu q
 ·exact h' pins s σ H x v vl vu lo hi sl Q I rx hs pl pu q
def A1 (r:V->Option Int->Option Int->Hp->VK->Prop) (te:TE) (tl th:TO):TE:=λσ H Q=>te σ H λx H1=>tl σ H1 λl H2=>th σ H2 λu H3=>r x l u H3 Q
theorem A2 {r:V->Option Int->Option Int->Hp->VK->Prop} (hr:SlR X r) (he:PE X e te) (hl:PO X lo tl) (hu:PO X hi th):PE X (.Subscript e (.Slice lo hi none p2) pos) (A1 r te tl th):=by
 intro pins s σ H Q I h
 refine Subscript_ (thn (he pins s σ H _ I h) λv s1 Zz=>?_);obtain ⟨x,H1,I1,r1,q1⟩:=Zz
 refine wpAny_Slice (thn (hl pins s1 σ H1 _ I1 q1) λvl s2 ⟨l,H2,I2,pl,q2⟩=>thn (hu pins s2 σ H2 _ I2 q2) λvu s3 Zz=>?_);obtain ⟨u,H3,I3,pu,q3⟩:=Zz
 rw [evalPart_none]
 refine wpAny_pure ?_
 have I4:Inv X pins σ H3 { s3 with heap:=s3.heap.push { cls:=.type "slice",data:=.fields #[vl,vu,.none] } }:=I3.kept (t' := s3.toks) λb ob q=>Heap.get?_push_of_some _ q
 obtain ⟨T,id,hT,ht,hg⟩:=hr pins { s3 with heap:=s3.heap.push { cls:=.type "slice",data:=.fields #[vl,vu,.none] } } σ H3 x v vl vu l u s3.heap.objs.size Q I4 r1 (Heap.IsSliceOf.new ..) pl pu q3
 show wpAny (model X.prog X.w) X.A (subscriptTail e (.Slice lo hi none p2) v (.ref s3.heap.objs.size)) (EP X pins σ Q) X.xe { s3 with heap:=s3.heap.push { cls:=.type "slice",data:=.fields #[vl,vu,.none] } }
 exact tail_any (ops:=[.ref s3.heap.objs.size,v]) ht hT hg (by with_unfolding_all rfl)
def dW (xs:List V) (lo hi:Option Int):List V:=(xs.drop (HT.sIx xs.length 0 lo)).take (HT.sIx xs.length xs.length hi-HT.sIx xs.length 0 lo)
theorem vd (xs:List V) (lo hi:Option Int):(dW xs lo hi).length<=xs.length:=by
 unfold dW
 rw [List.length_take,List.length_drop]
 omega
def pU (K:PySem.W.Frag):V->Option Int->Option Int->Hp->VK->Prop:=λx lo hi H Q=>∃ a xs,x = .ref a/\SqT K H a xs /\
 ¬ (HT.sIx xs.length 0 lo=0/\HT.sIx xs.length xs.length hi=xs.length)/\∀ p,H p=none->Q (.ref p) (aI H p (.tup (dW xs lo hi)))
theorem sl_tup:SlR X (pU X.K):=by
 intro pins s σ H x v vl vu lo hi sl Q I rx hs pl pu h
 obtain ⟨a,xs,rfl,hx,hw,q⟩:=h
 cases rx
 obtain ⟨its,r,ht,hz⟩:=I.tuple hx
 have hlen:its.toArray.size=xs.length:=by rw [List.size_toArray];exact r.length.symm
 refine ⟨"tuple",_,PyProof.Rows.slot_tuple_getitem.lookup,ht.typeIs,?_⟩
 refine HT.getItem_tuple_cut ht hs pl pu (by rw [hlen];exact hw) ?_ (by rw [hlen];exact hz)
 rw [hlen]
 refine ⟨.ref s.heap.objs.size,_,I.laid (t' := s.toks) (o:=.tup (dW xs lo hi)) (λb ob q=>Heap.get?_push_of_some _ q) (Nat.le_refl _) ?_,rfl,q _ (I.hok.fresh (Nat.le_refl _))⟩
 exact ⟨Nat.le_trans (vd xs lo hi) hz,_,(r.drop (HT.sIx xs.length 0 lo)).take (HT.sIx xs.length xs.length hi-HT.sIx xs.length 0 lo),IsTup.new _ _⟩
def A3 (K:PySem.W.Frag):R2:=λx y H Q=>∃ a b xs ys,x = .ref a/\y = .ref b/\SqT K H a xs/\SqT K H b ys/\xs≠[]/\xs.length+ys.length<=sizeLine /\
 (ys=[]->Q (.ref a) H)/\(ys≠[]->∀ p,H p=none->Q (.ref p) (aI H p (.tup (xs++ys))))
theorem Vals.nil_iff {xs:List V} {us:List Value} (r:Vals xs us):us=[] ↔ xs=[]:=by
 cases r with
 | nil=>simp
 | cons _ _=>simp
theorem zjy:OpR X (binaryOp .Add) (A3 X.K):=by
 intro pins s σ H x y v u Q I rx ry h
 obtain ⟨a,b,xs,ys,rfl,rfl,ha,hb,hx,hz,q1,q2⟩:=h
 cases rx
 cases ry
 obtain ⟨its,r1,p1,_⟩:=I.tuple ha
 obtain ⟨its2,r2,p2,_⟩:=I.tuple hb
 refine HT.cat_tup p1 p2 (λz=>hx (r1.nil_iff.mp z)) (λz=>⟨.ref a,H,I,rfl,q1 (r2.nil_iff.mp z)⟩) (λz=>?_) (by rw [<- r1.length,<- r2.length];exact hz)
 refine ⟨.ref s.heap.objs.size,_,I.laid (t' := s.toks) (o:=.tup (xs++ys)) (λb ob q=>Heap.get?_push_of_some _ q) (Nat.le_refl _) ?_,rfl,q2 (λw=>z (r2.nil_iff.mpr w)) _ (I.hok.fresh (Nat.le_refl _))⟩
 exact ⟨by rw [List.length_append];exact hz,_,r1.append r2,IsTup.new _ _⟩
end
end L2
namespace L2
open PySem PySem.Spec PyProof.Rows
def hJ (n:Nat) (i:Int):Option Nat:=if 0<=i then (if i<n then some i.toNat else none) else if -(n:Int)<=i then some (i+n).toNat else none
def atI {α:Type} (xs:List α) (i:Int):Option α:=(hJ xs.length i).bind λj=>xs[j]?
theorem ve {n:Nat} {i:Int} {j:Nat} (h:hJ n i=some j):seqIndex? i n=some j/\j<n /\ -(n:Int)<=i/\i<n:=by
 unfold hJ at h
 by_cases h0:0<=i
 ·rw [if_pos h0] at h
  by_cases h1:i<n
  ·rw [if_pos h1] at h
   have e:i.toNat=j:=Option.some.inj h
   exact ⟨by rw [seqIndex_of h0 h1,e],by omega,by omega,h1⟩
  ·rw [if_neg h1] at h;cases h
 ·rw [if_neg h0] at h
  by_cases h1 : -(n:Int)<=i
  ·rw [if_pos h1] at h
   have e:(i+n).toNat=j:=Option.some.inj h
   exact ⟨by rw [seqIndex_neg (by omega) h1,e],by omega,h1,by omega⟩
  ·rw [if_neg h1] at h;cases h
theorem mP {α:Type} {xs:List α} {i:Int} {v:α} (h:atI xs i=some v):∃ j,seqIndex? i xs.length=some j/\xs[j]? = some v/\j<xs.length /\ -(xs.length:Int)<=i/\i<xs.length:=by
 unfold atI at h
 cases e:hJ xs.length i with
 | none=>rw [e] at h;cases h
 | some j =>
  rw [e] at h
  obtain ⟨h1,h2,h3,h4⟩:=ve e
  exact ⟨j,h1,h,h2,h3,h4⟩
theorem pV {α:Type} {xs:List α} {j:Nat} {v:α} (h:xs[j]? = some v):atI xs (j:Int)=some v:=by
 have hj:j<xs.length:=(List.getElem?_eq_some_iff.mp h).1
 have e:hJ xs.length (j:Int)=some j:=by
  unfold hJ
  rw [if_pos (by omega),if_pos (by omega)];simp
 unfold atI;rw [e];exact h
def vf (b:Expr):Prop:=∀ o i,subscripted b false o i=operate [o,i] (getItem o i)
def IxR (X:Cx) (r:R2):Prop :=
 ∀ (value slice:Expr) (pins:List (Addr×Obj)) (s:Shared) (σ:St) (H:Hp) (x y:V) (v u:Value) (Q:VK),Inv X pins σ H s->RelV x v->RelV y u->r x y H Q ->
  subscripted slice false v u=operate [v,u] (getItem v u)->wpAny (model X.prog X.w) X.A (subscriptTail value slice v u) (EP X pins σ Q) X.xe s
def fV (X:Cx) (id:String) (r:V->List V->Hp->VK->Prop):Prop :=
 ∀ (pins:List (Addr×Obj)) (s:Shared) (σ:St) (H:Hp) (x:V) (xs:List V) (v:Value) (us:List Value) (Q:VK),Inv X pins σ H s->RelV x v->Vals xs us->r x xs H Q ->
  wpAny (model X.prog X.w) X.A (call (.builtin id) (v::us)) (EP X pins σ Q) X.xe s
section
variable {X:Cx} {a b:Expr} {ta tb:TE} {pos:Pos}
theorem IxR.or {r r':R2} (h:IxR X r) (h':IxR X r'):IxR X (λx y H Q=>r x y H Q\/r' x y H Q):=by
 intro value slice pins s σ H x y v u Q I rx ry q hs
 rcases q with q | q
 ·exact h value slice pins s σ H x y v u Q I rx ry q hs
 ·exact h' value slice pins s σ H x y v u Q I rx ry q hs
theorem A4 {r:R2} (hr:IxR X r) (ha:PE X a ta) (hb:PE X b tb) (hs:vf b):PE X (.Subscript a b pos) (j9 r ta tb):=by
 intro pins s σ H Q I h
 exact Subscript_ (jn ha hb I h λv u s2 x y H2 I2 rx ry q=>hr a b pins s2 σ H2 x y v u Q I2 rx ry q (hs _ _))
def kN (K:PySem.W.Frag):R2:=λx y H Q=>∃ p xs i v,x = .ref p/\y = .int i/\SqL K H p xs/\atI xs i=some v/\Q v H
def kO (K:PySem.W.Frag):R2:=λx y H Q=>∃ p xs i v,x = .ref p/\y = .int i/\SqT K H p xs/\atI xs i=some v/\Q v H
def kP:R2:=λx y H Q=>∃ z i c,x = .str z/\y = .int i/\z.length<=sizeLine/\atI z.cps.toList i=some c/\Q (.str ⟨#[c]⟩) H
theorem zjz:IxR X (kN X.K):=by
 intro value slice pins s σ H x y v u Q I rx ry h hs
 obtain ⟨p,xs,i,z,rfl,rfl,hq,he,q⟩:=h
 cases rx
 obtain ⟨t,rfl⟩:=ry
 obtain ⟨its,r,pl,hz⟩:=I.list hq
 obtain ⟨j,h1,h2,h3,h4,h5⟩:=mP he
 obtain ⟨w,ew,rw'⟩:=r.get h2
 have hl:=r.length
 have hn:=jr
 have fin:EP X pins σ Q w s:=⟨z,H,I,rw',q⟩
 by_cases h0:0<=i
 ·have hj:i.toNat=j:=by
   rw [seqIndex_of h0 h5] at h1
   exact Option.some.inj h1
  exact item_listR pl.isList h0 (by omega) (by rw [hj];simpa using ew) fin hs
 ·have hj:(i+(its.toArray.size:Int)).toNat=j:=by
   rw [seqIndex_neg (by omega) h4] at h1
   rw [List.size_toArray,<- hl]
   exact Option.some.inj h1
  exact subscriptTail_builtinR (x:=w) pl.isList.typeIs slot_list_getitem.lookup
   (wpAny_getItem_list_neg (Q:=λr s' => r=w/\EP X pins σ Q r s') pl.isList (by omega) (by rw [List.size_toArray]<;>omega) (by omega) (by rw [hj];simpa using ew) ⟨rfl,fin⟩) hs
theorem ix_tup:IxR X (kO X.K):=by
 intro value slice pins s σ H x y v u Q I rx ry h hs
 obtain ⟨p,xs,i,z,rfl,rfl,hq,he,q⟩:=h
 cases rx
 obtain ⟨t,rfl⟩:=ry
 obtain ⟨its,r,pl,hz⟩:=I.tuple hq
 obtain ⟨j,h1,h2,h3,h4,h5⟩:=mP he
 obtain ⟨w,ew,rw'⟩:=r.get h2
 have hl:=r.length
 have hn:=jr
 have fin:EP X pins σ Q w s:=⟨z,H,I,rw',q⟩
 exact subscriptTail_builtinR (x:=w) pl.typeIs slot_tuple_getitem.lookup
  (getItem_tuple (j:=j) (Q:=λr s' => r=w/\EP X pins σ Q r s') pl (by omega) (by omega) (by rw [List.size_toArray,<- hl];exact h1) (by simpa using ew) ⟨rfl,fin⟩) hs
theorem A5:IxR X kP:=by
 intro value slice pins s σ H x y v u Q I rx ry h hs
 obtain ⟨z,i,c,rfl,rfl,hz,he,q⟩:=h
 obtain ⟨t,rfl⟩:=rx
 obtain ⟨t',rfl⟩:=ry
 obtain ⟨j,h1,h2,h3,h4,h5⟩:=mP he
 have hl:z.cps.toList.length=z.length:=by simp [Str.length]
 rw [hl] at h1 h4 h5
 have hn:=jr
 exact tail_any (typeIs_str s z t) slot_str_getitem.lookup (getItem_str (c:=c) (by
  have e1:decide (i < -(2 ^ 63:Int))=false:=decide_eq_false (by omega)
  have e2:decide (i ≥ 2 ^ 63)=false:=decide_eq_false (by omega)
  rw [e1,e2,Bool.or_false]) (by rw [h1];simpa using h2) ⟨.str ⟨#[c]⟩,H,I.tok _,⟨_,rfl⟩,q⟩) hs
def vg (K:PySem.W.Frag):R2:=λx y H Q=>kN K x y H Q\/kO K x y H Q\/kP x y H Q
theorem A6:IxR X (vg X.K):=zjz.or (ix_tup.or A5)
theorem A7 (its:List Value) (n j:Nat) (u:Value):Obj.mapSeq (·.setIfInBounds j u) { cls:=.type "list",data:=.seq its.toArray n }={ cls:=.type "list",data:=.seq (its.set j u).toArray n }:=by
 simp [Obj.mapSeq]
theorem Inv.lst {pins:List (Addr×Obj)} {σ:St} {H:Hp} {s:Shared} {p:Addr} {xs:List V} (I:Inv X pins σ H s) (h:H p=some (.lst xs)) :
  ∃ (its:List Value) (n:Nat),Vals xs its/\s.heap.get? p=some { cls:=.type "list",data:=.seq its.toArray n }/\xs.length<=sizeLine:=by
 obtain ⟨z,its,n,r,e⟩:=I.hok p _ h
 exact ⟨its,n,r,e,z⟩
theorem Inv.lstUpd {pins:List (Addr×Obj)} {σ:St} {H:Hp} {s:Shared} {p:Addr} {xs ys:List V} {its its':List Value} {n n':Nat} {f:Obj->Obj} (I:Inv X pins σ H s) (h:H p=some (.lst xs))
  (ho:s.heap.get? p=some { cls:=.type "list",data:=.seq its.toArray n }) (hf:f { cls:=.type "list",data:=.seq its.toArray n }={ cls:=.type "list",data:=.seq its'.toArray n' }) (r:Vals ys its') (hz:ys.length<=sizeLine) (t:Nat) :
  Inv X pins σ (aI H p (.lst ys)) { s with heap:=s.heap.update p f,toks:=t }:=by
 have e:(s.heap.update p f).get? p=some { cls:=.type "list",data:=.seq its'.toArray n' }:=by
  rw [Heap.get?_update_self f ho (by rw [hf]<;>rfl),hf]
 refine I.write (x:=p) (e:=p) (by rw [h];trivial) (.inl rfl) (λb u hb q=>(Heap.get?_update_other _ _ (Ne.symm hb)).trans q) ⟨_,e⟩ ?_
 exact ⟨hz,its',n',r,e⟩
def A8:V->V->V->Hp->(Hp->Prop)->Prop:=λo i v H Q=>∃ p xs k j,o = .ref p/\i = .int k/\H p=some (.lst xs)/\hJ xs.length k=some j/\Q (aI H p (.lst (xs.set j v)))
theorem A9:kI X A8:=by
 intro pins s σ H o i v ov iv u Q I ro ri rv h
 obtain ⟨p,xs,k,j,rfl,rfl,hp,hj,q⟩:=h
 cases ro
 obtain ⟨t,rfl⟩:=ri
 obtain ⟨its,n,r,ho,hz⟩:=I.lst hp
 obtain ⟨h1,h2,h3,h4⟩:=ve hj
 have hl:=r.length
 have hn:=jr
 have I':Inv X pins σ (aI H p (.lst (xs.set j v))) { s with heap:=s.heap.update p (Obj.mapSeq (·.setIfInBounds j u)) } :=
  I.lstUpd hp ho (A7 its n j u) (r.set rv j) (by rw [List.length_set];exact hz) s.toks
 by_cases h0:0<=k
 ·have hk:k.toNat=j:=by
   rw [seqIndex_of h0 h4] at h1
   exact Option.some.inj h1
  exact PySem.W.ki_setAt ho h0 (by omega) (by rw [List.size_toArray,<- hl];exact h4) (by rw [hk];exact ⟨_,I',q⟩)
 ·have hk:(k+(its.toArray.size:Int)).toNat=j:=by
   rw [seqIndex_neg (by omega) h3] at h1
   rw [List.size_toArray,<- hl]
   exact Option.some.inj h1
  exact PySem.W.ki_setBack ho (by omega) (by rw [List.size_toArray,<- hl];exact h3) (by omega) (by rw [hk];exact ⟨_,I',q⟩)
theorem Ba (lo hi:Option Int) (n:Nat):(sliceBounds lo hi none n).1=((HT.sIx n 0 lo:Nat):Int)/\(sliceBounds lo hi none n).2.1=((HT.sIx n n hi:Nat):Int)/\(sliceBounds lo hi none n).2.2=1:=by
 refine ⟨?_,?_,rfl⟩
 ·cases lo with
  | none=>simp [sliceBounds,HT.sIx]
  | some i =>
   simp only [sliceBounds,HT.sIx,Option.getD_none,show (1:Int) > 0 by decide,if_true]
   by_cases h:i<0
   ·simp only [h,if_true]<;>omega
   ·simp only [h,if_false]<;>omega
 ·cases hi with
  | none=>simp [sliceBounds,HT.sIx]
  | some i =>
   simp only [sliceBounds,HT.sIx,Option.getD_none,show (1:Int) > 0 by decide,if_true]
   by_cases h:i<0
   ·simp only [h,if_true]<;>omega
   ·simp only [h,if_false]<;>omega
theorem Bb (its:List Value) (lo hi:Option Int):slicePick its.toArray lo hi none=((its.drop (HT.sIx its.length 0 lo)).take (HT.sIx its.length its.length hi-HT.sIx its.length 0 lo)).toArray:=by
 obtain ⟨h1,h2,h3⟩:=Ba lo hi its.toArray.size
 unfold slicePick
 rw [h1,h2,h3]
 simp only [sliceRange_one,pick_run,List.size_toArray]<;>rfl
def pW (K:PySem.W.Frag):V->Option Int->Option Int->Hp->VK->Prop:=λx lo hi H Q=>∃ a xs,x = .ref a/\SqL K H a xs/\∀ p,H p=none->Q (.ref p) (aI H p (.lst (dW xs lo hi)))
theorem zjA:SlR X (pW X.K):=by
 intro pins s σ H x v vl vu lo hi sl Q I rx hs pl pu h
 obtain ⟨a,xs,rfl,hx,q⟩:=h
 cases rx
 obtain ⟨its,r,ht,hz⟩:=I.list hx
 have hlen:=r.length
 refine ⟨"list",_,slot_list_getitem.lookup,ht.isList.typeIs,?_⟩
 refine wpAny_getItem_list_slice ht.isList hs pl pu .none (by simp) ?_ (by rw [List.size_toArray]<;>omega)
 rw [Bb,<- hlen]
 refine ⟨.ref s.heap.objs.size,_,I.laid (t' := s.toks) (o:=.lst (dW xs lo hi)) (λb ob q=>Heap.get?_push_of_some _ q) (Nat.le_refl _) ?_,rfl,q _ (I.hok.fresh (Nat.le_refl _))⟩
 exact ⟨Nat.le_trans (vd xs lo hi) hz,_,0,(r.drop (HT.sIx xs.length 0 lo)).take (HT.sIx xs.length xs.length hi-HT.sIx xs.length 0 lo),Heap.get?_push_size _ rfl⟩
theorem zeJ:OpR X (compareOp .NotIn) (λx y H Q=>∃ i j,x = .str i/\y = .str j/\Q (.bl (!(!(Builtin.Str.occurrences j i 0 j.length 1).isEmpty))) H):=by
 intro pins s σ H x y v u Q I rx ry h
 obtain ⟨i,j,rfl,rfl,q⟩:=h
 obtain ⟨t,rfl⟩:=rx
 obtain ⟨t',rfl⟩:=ry
 exact notIn_str ⟨.bl _,H,I,rfl,q⟩
theorem zeK:CallR X (.builtin "len") (λxs H Q=>∃ p ys,xs=[.ref p]/\(SqL X.K H p ys\/SqT X.K H p ys)/\Q (.int ys.length) H):=by
 intro pins s σ H xs us Q I r h
 obtain ⟨p,ys,rfl,hq,q⟩:=h
 obtain ⟨u,rfl,rx⟩:=gu r
 cases rx
 have hn:=jr
 rcases hq with hq | hq
 ·obtain ⟨its,r',pl,hz⟩:=I.list hq
  have hlen:=r'.length
  exact Calls.call_len_list pl.isList (by simp only [List.size_toArray]<;>omega) ⟨.int ys.length,H,I.tok _,⟨s.toks+1,by rw [List.size_toArray,hlen]⟩,q⟩
 ·obtain ⟨its,r',pl,hz⟩:=I.tuple hq
  have hlen:=r'.length
  exact len_tuple pl (by simp only [List.size_toArray]<;>omega) ⟨.int ys.length,H,I.tok _,⟨s.toks+1,by rw [List.size_toArray,hlen]⟩,q⟩
theorem zeL:CallR X (.builtin "len") (λxs H Q=>∃ z,xs=[.str z]/\z.length<=sizeLine/\Q (.int z.length) H):=by
 intro pins s σ H xs us Q I r h
 obtain ⟨z,rfl,hz,q⟩:=h
 obtain ⟨u,rfl,t,rfl⟩:=gu r
 have hn:=jr
 exact len_str (by omega) ⟨.int z.length,H,I.tok _,⟨_,rfl⟩,q⟩
theorem CallR.or {f:Value} {r r':List V->Hp->VK->Prop} (h:CallR X f r) (h':CallR X f r'):CallR X f (λxs H Q=>r xs H Q\/r' xs H Q):=by
 intro pins s σ H xs us Q I rs q
 rcases q with q | q
 ·exact h pins s σ H xs us Q I rs q
 ·exact h' pins s σ H xs us Q I rs q
theorem Bc:CallR X (.type "list") (λxs H Q=>∃ p ys,xs=[.ref p]/\(SqL X.K H p ys\/SqT X.K H p ys)/\∀ l,H l=none->Q (.ref l) (aI H l (.lst ys))):=by
 intro pins s σ H xs us Q I r h
 obtain ⟨p,ys,rfl,hq,q⟩:=h
 obtain ⟨u,rfl,rx⟩:=gu r
 cases rx
 have fin:∀ (its:List Value),Vals ys its->ys.length<=sizeLine->∀ (h':Heap) (c':Nat),(∀ b o',s.heap.get? b=some o'->h'.get? b=some o') ->
   h'.get? s.heap.objs.size=some { cls:=.type "list",dict:=none,data:=.seq its.toArray c',slots:=#[] }->EP X pins σ Q (.ref s.heap.objs.size) { s with heap:=h' }:=λits r' hz h' c' kp e =>
  ⟨.ref s.heap.objs.size,_,I.laid (t' := s.toks) kp (Nat.le_refl _) (show ObjOk X.prog X.w _ h' _ (.lst ys) from ⟨hz,its,c',r',e⟩),rfl,q _ (I.hok.fresh (Nat.le_refl _))⟩
 rcases hq with hq | hq
 ·obtain ⟨its,r',pl,hz⟩:=I.list hq
  have hlen:=r'.length
  obtain ⟨o,ho,hc,n,hd⟩:=pl.isList
  exact call_list_seq p (.inl rfl) ho hc hd (λh' c' kp e=>fin its r' hz h' c' kp e) (by simp only [List.size_toArray]<;>omega)
 ·obtain ⟨its,r',pl,hz⟩:=I.tuple hq
  have hlen:=r'.length
  obtain ⟨o,ho,hc,n,hd⟩:=pl
  exact call_list_seq p (.inr rfl) ho hc hd (λh' c' kp e=>fin its r' hz h' c' kp e) (by simp only [List.size_toArray]<;>omega)
def mQ (K:PySem.W.Frag) (T:String) (x:V) (H:Hp):Prop:=match x with
 | .str _=>T = "str"
 | .int _=>T = "int"
 | .ref p=>(T = "list" /\ ∃ xs,SqL K H p xs)\/(T = "tuple" /\ ∃ o,K.lookup p=some o/\o.cls = .type "tuple" /\ o.dict=none) \/
   (T = "dict" /\ ((∃ kvs,H p=some (.dK kvs))\/∃ xc kvs,H p=some (.dT xc kvs)))\/(T = "set" /\ ∃ S n,H p=some (.set S n))
 | _=>False
theorem vh {pins:List (Addr×Obj)} {σ:St} {H:Hp} {s:Shared} {T:String} {x:V} {v:Value} (I:Inv X pins σ H s) (r:RelV x v) (ty:mQ X.K T x H) :
  s.TypeIs v T/\∀ a,v = .ref a->∃ ob,s.heap.get? a=some ob/\ob.dict=none:=by
 cases x with
 | str z =>
  obtain ⟨t,rfl⟩:=r
  cases (show T = "str" from ty)
  exact ⟨typeIs_str s z t,λ_ e=>nomatch e⟩
 | int i =>
  obtain ⟨t,rfl⟩:=r
  cases (show T = "int" from ty)
  exact ⟨typeIs_int s i t,λ_ e=>nomatch e⟩
 | ref p =>
  cases r
  rcases ty with ⟨rfl,xs,hq⟩ | ⟨rfl,o,hk,hc,hd⟩ | ⟨rfl,hk⟩ | ⟨rfl,S,n,hk⟩
  ·obtain ⟨its,_,pl,_⟩:=I.list hq
   refine ⟨pl.isList.typeIs,λa e=>?_⟩
   cases e
   obtain ⟨o,n,e,c,hd,_⟩:=pl
   exact ⟨o,e,hd⟩
  ·refine ⟨⟨o,I.kIn p o hk,hc⟩,λa e=>?_⟩
   cases e
   exact ⟨o,I.kIn _ o hk,hd⟩
  ·have z:∃ o,s.heap.get? p=some o/\o.ExactDict:=by
    rcases hk with ⟨kvs,hk⟩ | ⟨xc,kvs,hk⟩
    ·obtain ⟨_,_,_,_,o,_,_,e,ex,_⟩:=I.hok p _ hk
     exact ⟨o,e,ex⟩
    ·obtain ⟨_,_,_,_,o,_,_,e,ex,_⟩:=I.hok p _ hk
     exact ⟨o,e,ex⟩
   obtain ⟨o,e,ex⟩:=z
   refine ⟨⟨o,e,ex.1⟩,λa e2=>?_⟩
   cases e2
   exact ⟨o,e,ex.2.1⟩
  ·obtain ⟨o,_,_,_,e,ex,_⟩:=I.hok p _ hk
   refine ⟨⟨o,e,ex.1⟩,λa e2=>?_⟩
   cases e2
   exact ⟨o,e,ex.2.1⟩
 | _=>exact False.elim ty
def pX (K:PySem.W.Frag) (T:String) (r:V->List V->Hp->VK->Prop) (to:TE):TE:=λσ H Q=>to σ H λx H1=>mQ K T x H1/\r x [] H1 Q
def Bd (K:PySem.W.Frag) (T:String) (r:V->List V->Hp->VK->Prop) (to:TE) (t:TA):TE:=λσ H Q=>to σ H λx H1=>mQ K T x H1/\t σ H1 λxs H2=>r x xs H2 Q
variable {o e:Expr} {es:List Expr} {to:TE} {t:TA} {name:Str} {apos cpos:Pos} {T id:String} {r:V->List V->Hp->VK->Prop}
theorem Be (pa:PlainAttrs T) (slot:Slot T name id) (hty:typeOf (.builtin id)=pure (.type "method_descriptor")) (hm:fV X id r) (ho:PE X o to)
  (hbase:attributeBase o name X.env (eval o X.env)=eval o X.env:=by rfl) (hline:(apos.endLine == cpos.line)=true:=by rfl):PE X (.Call (.Attribute o name apos) [] [] cpos) (pX X.K T r to):=by
 intro pins s σ H Q I h
 refine wpAny_Call_method0_late hbase hline (thn (ho pins s σ H _ I h) λv s1 Zz=>?_);obtain ⟨x,H1,I1,r1,ty,q1⟩:=Zz
 obtain ⟨h1,h2⟩:=vh I1 r1 ty
 exact ⟨T,id,pa,slot,hty,h1,h2,Calls.callWith_builtin rfl (PySem.evalArgs_none (hm pins s1 σ H1 x [] v [] Q I1 r1 .nil q1))⟩
theorem Bf (pa:PlainAttrs T) (slot:Slot T name id) (hty:typeOf (.builtin id)=pure (.type "method_descriptor")) (hm:fV X id r) (ho:PE X o to) (ha:PA X (e::es) t)
  (hbase:attributeBase o name X.env (eval o X.env)=eval o X.env:=by rfl)
  (hfew:((backTo cpos (starEach (e::es) X.env)).all (λx=>!x.1) && (backToKw cpos (keywordEach [] X.env)).all (λx=>x.1.isSome)
   && decide ((e::es).length+([]:List Keyword).length+(if ([]:List Keyword).isEmpty then 0 else 1)<30))=true:=by rfl)
  (hline:(apos.endLine == cpos.line)=true:=by rfl) (hs:starEach (e::es) X.env=(false,eval e X.env)::starEach es X.env:=by rfl) (hplain:(backTo cpos (starEach es X.env)).any (·.1)=false:=by rfl) :
  PE X (.Call (.Attribute o name apos) (e::es) [] cpos) (Bd X.K T r to t):=by
 intro pins s σ H Q I h
 refine wpAny_Call_method_late hbase hfew hline rfl (thn (ho pins s σ H _ I h) λv s1 Zz=>?_);obtain ⟨x,H1,I1,r1,ty,q1⟩:=Zz
 obtain ⟨h1,h2⟩:=vh I1 r1 ty
 refine ⟨T,id,pa,slot,hty,h1,h2,?_⟩
 have hA:=ha cpos pins s1 σ H1 _ I1 q1
 rw [hs] at hA ⊢
 refine Calls.callWith_builtin (by show (false || (backTo cpos (starEach es X.env)).any (·.1))=false;rw [hplain]<;>rfl) (Calls.evalArgs_plain ?_)
 exact thn hA λus s2 ⟨vs,H2,I2,r2,q2⟩=>hm pins s2 σ H2 x vs v us Q I2 r1 r2 q2
end
end L2
namespace L2
open PySem PySem.Spec PyProof.Rows
def vi (X:Cx) (id:String) (r:V->List V->Hp->VK->Prop):Prop :=
 ∀ (pins:List (Addr×Obj)) (s:Shared) (σ:St) (H:Hp) (x:V) (xs:List V) (v:Value) (us:List Value) (Q:VK),Inv X pins σ H s->RelV x v->Vals xs us->r x xs H Q ->
  wpAny (model X.prog X.w) X.A (call (.builtin id) (v::us)) (EP X pins σ Q) X.xe s
theorem Vals.one:∀ {x:V} {us:List Value},Vals [x] us->∃ u,us=[u]/\RelV x u
 | _,_,.cons r .nil=>⟨_,rfl,r⟩
theorem Vals.zero:∀ {us:List Value},Vals [] us->us=[]
 | _,.nil=>rfl
theorem Vals.dropLast {xs:List V} {us:List Value} (h:Vals xs us):Vals xs.dropLast us.dropLast:=by
 induction h with
 | nil=>exact .nil
 | cons r t ih =>
  cases t with
  | nil=>exact .nil
  | cons q t' => exact .cons r ih
theorem Bg {α:Type} (l:List α):l.eraseIdx (l.length-1)=l.dropLast:=by
 induction l with
 | nil=>rfl
 | cons a r ih =>
  cases r with
  | nil=>rfl
  | cons b r =>
   have e:(a::b::r).length-1=((b::r).length-1)+1:=by
    have h1:(a::b::r).length=r.length+2:=rfl
    have h2:(b::r).length=r.length+1:=rfl
    omega
   rw [e,List.eraseIdx_cons_succ,ih]
   all_goals rfl
section
variable {X:Cx} {pins:List (Addr×Obj)} {σ:St} {H:Hp} {s:Shared} {l b:Addr} {xs ys zs:List V}
theorem Inv.lset {its its':List Value} {n:Nat} {f:Array Value->Array Value} {t':Nat} (I:Inv X pins σ H s) (hH:H l=some (.lst xs))
  (e:s.heap.get? l=some { cls:=.type "list",data:=.seq its.toArray n }) (hf:f its.toArray=its'.toArray) (hv:Vals ys its') (hz:ys.length<=sizeLine) :
  Inv X pins σ (aI H l (.lst ys)) { s with heap:=s.heap.update l (Obj.mapSeq f),toks:=t' }:=by
 have q:=PySem.IsL.update e f
 rw [hf] at q
 refine I.write (x:=l) (e:=l) (by rw [hH];exact trivial) (.inl rfl) (λb' u hb hu=>(Heap.get?_update_other s.heap (Obj.mapSeq f) (Ne.symm hb)).trans hu) ⟨_,q⟩ ?_
 exact ⟨hz,its',_,hv,q⟩
theorem Inv.lnew {its:List Value} {t':Nat} (I:Inv X pins σ H s) (hv:Vals ys its) (hz:ys.length<=sizeLine) :
  Inv X pins σ (aI H s.heap.objs.size (.lst ys)) { s with heap:=s.heap.push { cls:=.type "list",data:=.seq its.toArray },toks:=t' } :=
 I.laid (λ_ _ q=>Heap.get?_push_of_some _ q) (Nat.le_refl _) ⟨hz,its,0,hv,Heap.get?_push_size _ rfl⟩
theorem Inv.fresh (I:Inv X pins σ H s):H s.heap.objs.size=none:=I.hok.fresh (Nat.le_refl _)
theorem Inv.lstM (I:Inv X pins σ H s) (hH:H l=some (.lst xs)):xs.length<=sizeLine/\∃ (its:List Value) (n:Nat),Vals xs its/\xs.length=its.length/\s.heap.get? l=some { cls:=.type "list",data:=.seq its.toArray n }:=by
 obtain ⟨z,its,n,r,e⟩:=I.hok l _ hH
 exact ⟨z,its,n,r,r.length,e⟩
theorem Bh {n:Nat} (h:n<=sizeLine):Builtin.List.listTooLong n=false:=by
 unfold Builtin.List.listTooLong
 exact decide_eq_false (by omega)
end
section
variable {X:Cx}
def Bi:V->List V->Hp->VK->Prop:=λx vs H Q=>∃ l xs y,x = .ref l/\vs=[y]/\H l=some (.lst xs)/\xs.length<sizeLine/\Q .non (aI H l (.lst (xs++[y])))
theorem vj:vi X "list.append" Bi:=by
 intro pins s σ H x vs v us Q I rx rv h
 obtain ⟨l,xs,y,rfl,rfl,hH,hz,q⟩:=h
 cases rx
 obtain ⟨u,rfl,ru⟩:=rv.one
 obtain ⟨z,its,n,r,hl,e⟩:=I.lstM hH
 refine call_meets F.slot_list_append ⟨_,e,rfl⟩ F.entry_list_append (F.args_list_append_2 _ _) (PySem.list_append l its.toArray n u (by rw [List.size_toArray];omega)) ⟨e,?_⟩
 refine ⟨.non,_,I.lset (its' := its++[u]) hH e (by simp) (r.append (.cons ru .nil)) ?_,rfl,q⟩
 rw [List.length_append,List.length_singleton]
 omega
def pY:V->List V->Hp->VK->Prop:=λx vs H Q=>∃ l xs y,x = .ref l/\vs=[]/\H l=some (.lst xs)/\xs[xs.length-1]? = some y/\Q y (aI H l (.lst xs.dropLast))
theorem Bj:vi X "list.pop" pY:=by
 intro pins s σ H x vs v us Q I rx rv h
 obtain ⟨l,xs,y,rfl,rfl,hH,hy,q⟩:=h
 cases rx
 have hus:=rv.zero
 subst hus
 obtain ⟨z,its,n,r,hl,e⟩:=I.lstM hH
 obtain ⟨u,hu,ru⟩:=r.get hy
 have hy':its.toArray[its.toArray.size-1]? = some u:=by
  show its.toArray[its.length-1]? = some u
  rw [<- Array.getElem?_toList,<- hl]
  exact hu
 refine call_meets F.slot_list_pop ⟨_,e,rfl⟩ F.entry_list_pop (F.args_list_pop_1 _) (MeetsSeq.list_pop_last l its.toArray n u hy' (by rw [List.size_toArray];omega)) ⟨e,?_⟩
 refine ⟨y,_,I.lset (its' := its.dropLast) hH e ?_ r.dropLast ?_,ru,q⟩
 ·show its.toArray.eraseIdxIfInBounds (its.toArray.size-1)=its.dropLast.toArray
  rw [List.size_toArray,List.eraseIdxIfInBounds_toArray,Bg]
 ·rw [List.length_dropLast]
  omega
end
section
variable {prog:Program} {w:World} {A:Around} {E:Value->Shared->Prop} {s:Shared}
end
section
variable {X:Cx}
end
end L2
namespace L2
open PySem PySem.Spec PyProof.Rows
section
variable {κ:Type} [DecidableEq κ]
def bV (kvs:List (κ×V)) (k:κ):Option V:=(kvs.find? λkv=>decide (kv.1=k)).map (·.2)
def bC (kvs:List (κ×V)) (k:κ) (v:V):List (κ×V) :=
 if (kvs.any λkv=>decide (kv.1=k))=true then kvs.map (λkv=>if kv.1=k then (kv.1,v) else kv) else kvs++[(k,v)]
theorem mR {p:κ×V} {r:List (κ×V)} {k:κ} (e:p.1=k):bV (p::r) k=some p.2:=by simp [bV,List.find?_cons,e]
theorem kQ {p:κ×V} {r:List (κ×V)} {k:κ} (e : ¬ p.1=k):bV (p::r) k=bV r k:=by simp [bV,List.find?_cons,e]
theorem mS (k:κ):∀ kvs:List (κ×V),(kvs.any λkv=>decide (kv.1=k))=(bV kvs k).isSome
 | []=>rfl
 | p::r=>by
  rw [List.any_cons]
  by_cases e:p.1=k
  ·simp only [mR e,decide_eq_true e,Bool.true_or,Option.isSome_some]
  ·rw [kQ e,decide_eq_false e,Bool.false_or];exact mS k r
theorem pZ (kvs:List (κ×V)) (k:κ) (v:V):(bC kvs k v).length<=kvs.length+1:=by
 unfold bC
 split
 ·rw [List.length_map];omega
 ·rw [List.length_append,List.length_cons,List.length_nil];omega
theorem RelO.isSome_eq {o:Option V} {u:Option Value} (r:RelO o u):o.isSome=u.isSome:=by
 cases o with
 | none=>cases u with
  | none=>rfl
  | some _=>exact (show False from r).elim
 | some _=>cases u with
  | none=>exact (show False from r).elim
  | some _=>rfl
theorem KV.val {kvs:List (κ×V)} {vs:List (κ×Value)} (r:KV kvs vs) (k:κ):RelO (bV kvs k) (valueAt vs k):=by
 unfold KV at r
 induction r with
 | nil=>exact True.intro
 | @cons p q ps qs h t ih =>
  obtain ⟨h1,h2⟩:=h
  by_cases e:p.1=k
  ·have e':q.1=k:=h1.symm.trans e
   have b:valueAt (q::qs) k=some q.2:=by simp [valueAt,List.find?_cons,e']
   rw [mR e,b];exact h2
  ·have e' : ¬ q.1=k:=λz=>e (h1.trans z)
   have b:valueAt (q::qs) k=valueAt qs k:=by simp [valueAt,List.find?_cons,e']
   rw [kQ e,b];exact ih
theorem KV.any {kvs:List (κ×V)} {vs:List (κ×Value)} (r:KV kvs vs) (k:κ):(kvs.any λkv=>decide (kv.1=k))=vs.any λkv=>decide (kv.1=k):=by
 unfold KV at r
 induction r with
 | nil=>rfl
 | cons h t ih=>rw [List.any_cons,List.any_cons,ih,h.1]
theorem KV.repl {kvs:List (κ×V)} {vs:List (κ×Value)} (r:KV kvs vs) (k:κ) {y:V} {u:Value} (ry:RelV y u) :
  KV (kvs.map λkv=>if kv.1=k then (kv.1,y) else kv) (vs.map λkv=>if kv.1=k then (kv.1,u) else kv):=by
 unfold KV at r ⊢
 induction r with
 | nil=>exact .nil
 | @cons p q ps qs h t ih =>
  rw [List.map_cons,List.map_cons]
  refine .cons ?_ ih
  obtain ⟨h1,h2⟩:=h
  by_cases e:p.1=k
  ·rw [if_pos e,if_pos (h1.symm.trans e)];exact ⟨h1,ry⟩
  ·rw [if_neg e,if_neg (λz=>e (h1.trans z))];exact ⟨h1,h2⟩
theorem KV.put {kvs:List (κ×V)} {vs:List (κ×Value)} (r:KV kvs vs) (k:κ) {y:V} {u:Value} (ry:RelV y u):KV (bC kvs k y) (stored vs k u):=by
 unfold bC stored
 rw [r.any k]
 by_cases e:(vs.any λkv=>decide (kv.1=k))=true
 ·rw [if_pos e,if_pos e];exact r.repl k ry
 ·rw [if_neg e,if_neg e];exact Paired.snoc r ⟨rfl,ry⟩
theorem KV.length {kvs:List (κ×V)} {vs:List (κ×Value)} (r:KV kvs vs):kvs.length=vs.length:=Paired.length r
end
theorem mT {P:Program} {w:World} {k:aF} {u:Value} (r:RelV (kV k) u):(fB P w).is k u=true:=by
 cases k with
 | inl i=>obtain ⟨t,e⟩:=(show ∃ t,u=Value.int i t from r);subst e;exact zd P w i t
 | inr x=>obtain ⟨t,e⟩:=(show ∃ t,u=Value.str x t from r);subst e;exact ze P w x t
theorem Bk {P:Program} {w:World} {y:V} {k:aF} {u:Value} (e:j6 y=some k) (r:RelV y u):(g9 P w).is k u=true:=by
 cases y with
 | int i=>cases e;obtain ⟨t,e⟩:=(show ∃ t,u=Value.int i t from r);subst e;exact za P w i t
 | str x=>cases e;obtain ⟨t,e⟩:=(show ∃ t,u=Value.str x t from r);subst e;exact zb P w x t
 | bl b=>cases e;cases (show u=Value.bool b from r);exact decide_eq_true rfl
 | _=>cases e
theorem vk {P:Program} {w:World}:∀ {ys:List V} {ks:List aF} {us:List Value},ys.map j6=ks.map some->Vals ys us->ItemsAre (g9 P w) ks us
 | [],[],_,_,r=>by cases r;exact .nil
 | [],_::_,_,e,_=>by simp at e
 | _::_,[],_,e,_=>by simp at e
 | y::ys,k::ks,_,e,r=>by
  rw [List.map_cons,List.map_cons] at e
  injection e with e1 e2
  cases r with
  | cons h t=>exact .cons (Bk e1 h) (vk e2 t)
def KTup (H:Hp) (b:Addr) (k:List aF):Prop:=∃ ys,H b=some (.tup ys)/\ys.map j6=k.map some
theorem KTup.of {H:Hp} {b:Addr} {k:List aF} (e:H b=some (.tup (k.map kV))):KTup H b k:=⟨_,e,by rw [List.map_map];exact List.map_congr_left λx _=>zf x⟩
def DictE {P:Program} {w:World} {K:Type} [DecidableEq K] (h:Heap) (kn:PySem.HeapKind P w K) (d:Addr) (xs:List (K×Addr×Value)) (n:Nat):Prop :=
 ∃ o es,h.get? d=some o/\o.ExactDict/\o.data = .dict es n/\es.toList=xs.map (entryOfKey kn)/\(∀ x∈xs,kn.is h x.1 x.2.1)/\(xs.map (·.1)).Nodup
theorem DictE.of {P:Program} {w:World} {K:Type} [DecidableEq K] {h:Heap} {kn:PySem.HeapKind P w K} {d:Addr} {xs:List (K×Addr×Value)} {n:Nat} (e:DictE h kn d xs n):h.DictOfH kn d xs:=e.imp λ_ ⟨es,r⟩=>⟨es,n,r⟩
theorem qa {P:Program} {w:World} {K:Type} [DecidableEq K] {kn:PySem.HeapKind P w K} {d b:Addr} {k:K} {xs:List (K×Addr×Value)} {A:Around} {E:Value->Shared->Prop} {s:Shared} {v:Value} {Q:Unit->Shared->Prop}
  (hu:kn.room A.in1) (hk:kn.is s.heap k b) (hm:DictE s.heap kn d xs xs.length) (hz:xs.length<=sizeLine)
  (q:∀ g,DictE g kn d (storedH xs k b v) (storedH xs k b v).length->Heap.SameBut d s.heap g->Q () { s with heap:=g,toks:=s.toks+kn.draws k }) :
  wpAny (model P w) A (setItem (.ref d) (.ref b) v) Q E s:=by
 have ty:=hm.of.typeIs
 obtain ⟨o,es,e1,e2,e3,e4,e5,e6⟩:=hm
 unfold setItem
 try with_reducible refine wpAny_holding ?_
 refine wpAny_bind (wpAny_sequenceKey ty (by decide) (wpAny_bind (wpAny_callSpecial?_slot (name:=Str.ofString "__setitem__") ty slot_dict_setitem (wpAny_call_entry slot_dict_setitem ty entry_dict_setitem ?_ (args_dict_setitem _ _ _)))))
 show wpAny _ _ (Builtin.Dict.notOrdered "__setitem__" _ >>= _) _ _ s
 refine wpAny_bind (wpAny_notOrdered_dict ty (show wpAny _ _ (dictSet d (.ref b) v >>= _) _ _ s from wpAny_bind ?_))
 have fin:∀ g,DictE g kn d (storedH xs k b v) (storedH xs k b v).length->Heap.SameBut d s.heap g->wpAny (model P w) A.in1 (pure Unit.unit) (λ_ s' => Q () s') (λ_ _=>False) { s with heap:=g,toks:=s.toks+kn.draws k }:=λg a c=>wpAny_pure (q g a c)
 unfold dictSet
 try with_reducible refine wpAny_holding ?_
 refine wpAny_bind (kn.pyHash hu hk ?_)
 unfold dictSetHashed
 try with_reducible refine wpAny_holding ?_
 refine wpAny_bind (wpAny_dictFind_heap (s:={ s with toks:=s.toks+kn.draws k }) hu hk e1 e3 e4 e5 e6 (λno=>?_) λj p hj=>?_)
 ·have st:=storedH_new (a:=b) (v:=v) (atKey_none_of_get no)
  refine wpAny_bind (wpAny_rule (wpAny_updateDictKeys (hz:=by have z:=size_of_entries e4;omega) (s:={ s with toks:=s.toks+kn.draws k }) e1 e3 (wpAny_pure ⟨.none,rfl,wpAny_pure (q _ ?_ (Heap.SameBut.update ..))⟩)))
  have ln:(xs++[(k,b,v)]).length=xs.length+1:=by simp
  rw [st,ln]
  refine ⟨_,_,Heap.get?_update_self _ e1 (Obj.isFreed_of_dict (Obj.data_mapDictKeys e3 _)),e2.mapDictKeys _,Obj.data_mapDictKeys e3 _,?_,λx hx=>?_,?_⟩
  ·simp [e4,entryOfKey]
  ·rcases List.mem_append.mp hx with hx | hx
   ·exact kn.keeps (e5 x hx) e1 e3 (Heap.SameBut.update ..)
   ·have z:x=(k,b,v):=by simpa using hx
    rw [z];exact kn.keeps hk e1 e3 (Heap.SameBut.update ..)
  ·rw [List.map_append,List.nodup_append]
   exact ⟨e6,by simp,λx hx y hy z=>not_mem_keys_of_get no (by
    have e:y=k:=by simpa using hy
    rw [<- e,<- z];exact hx)⟩
 ·have st:=storedH_old (a:=b) (v:=v) (atKey_of_get e6 hj)
  refine wpAny_bind (wpAny_rule (wpAny_bind (wpAny_updateDict (s:={ s with toks:=s.toks+kn.draws k }) e1 e3 (wpAny_point (wpAny_pure ⟨.none,rfl,wpAny_pure (q _ ?_ (Heap.SameBut.update ..))⟩)))))
  rw [st,List.length_map]
  refine ⟨_,_,Heap.get?_update_self _ e1 (Obj.isFreed_of_dict (Obj.data_mapDict e3 _)),e2.mapDict _,Obj.data_mapDict e3 _,?_,λx hx=>?_,?_⟩
  ·have z:=modify_map_putAt (entryOfKey kn) (λe:DictEntry=>{ e with val:=v }) k v (λ_ _=>rfl) e6 hj
   rw [<- e4] at z
   obtain ⟨l⟩:=es
   simpa using z
  ·obtain ⟨y,hy,rfl⟩:=List.mem_map.mp hx
   unfold putAt
   split<;>exact kn.keeps (e5 y hy) e1 e3 (Heap.SameBut.update ..)
  ·rw [keys_map_putAt];exact e6
def vm (xc:Option (List Addr)) (old:Bool) (b:Addr):Option (List Addr):=xc.map λas=>if old then as else as++[b]
theorem Bl {xs:List (List aF×Addr×Value)} {k:List aF} {b:Addr} {u:Value} {xc:Option (List Addr)} (h:∀ as,xc=some as->xs.map (·.2.1)=as):∀ as,vm xc (atKey xs k).isSome b=some as->(storedH xs k b u).map (·.2.1)=as:=by
 intro as e
 obtain ⟨bs,e1,e2⟩:=Option.map_eq_some_iff.mp e
 subst e2
 unfold storedH
 by_cases q:(atKey xs k).isSome=true
 ·rw [if_pos q,if_pos q,List.map_map,<- h bs e1]
  exact List.map_congr_left λx _=>by show (putAt k u x).2.1=x.2.1;unfold putAt;split<;>rfl
 ·rw [if_neg q,if_neg q,List.map_append,h bs e1];rfl
abbrev KT (H:Hp):List (List aF×V)->List (List aF×Addr×Value)->Prop:=Paired λp q=>p.1=q.1/\(∃ ys,H q.2.1=some (.tup ys)/\ys.map j6=p.1.map some)/\RelV p.2 q.2.2
theorem KT.val {H:Hp} {kvs:List (List aF×V)} {xs:List (List aF×Addr×Value)} (r:KT H kvs xs) (k:List aF):RelO (bV kvs k) ((atKey xs k).map (·.2)):=by
 induction r with
 | nil=>exact True.intro
 | @cons p q ps qs h t ih =>
  obtain ⟨h1,_,h2⟩:=h
  by_cases e:p.1=k
  ·have e':q.1=k:=h1.symm.trans e
   have b:atKey (q::qs) k=some q.2:=by simp [atKey,List.find?_cons,e']
   rw [mR e,b];exact h2
  ·have e' : ¬ q.1=k:=λz=>e (h1.trans z)
   have b:atKey (q::qs) k=atKey qs k:=by simp [atKey,List.find?_cons,e']
   rw [kQ e,b];exact ih
theorem KT.repl {H:Hp} {kvs:List (List aF×V)} {xs:List (List aF×Addr×Value)} (r:KT H kvs xs) (k:List aF) {y:V} {u:Value} (ry:RelV y u) :
  KT H (kvs.map λkv=>if kv.1=k then (kv.1,y) else kv) (xs.map (putAt k u)):=by
 induction r with
 | nil=>exact .nil
 | @cons p q ps qs h t ih =>
  rw [List.map_cons,List.map_cons]
  refine .cons ?_ ih
  obtain ⟨h1,h2,h3⟩:=h
  unfold putAt
  by_cases e:p.1=k
  ·rw [if_pos e,if_pos (h1.symm.trans e)];exact ⟨h1,h2,ry⟩
  ·rw [if_neg e,if_neg (λz=>e (h1.trans z))];exact ⟨h1,h2,h3⟩
theorem KT.put {H:Hp} {kvs:List (List aF×V)} {xs:List (List aF×Addr×Value)} (r:KT H kvs xs) (k:List aF) {b:Addr} {y:V} {u:Value} (hb:KTup H b k) (ry:RelV y u) :
  KT H (bC kvs k y) (storedH xs k b u):=by
 have e:(kvs.any λkv=>decide (kv.1=k))=(atKey xs k).isSome:=by
  rw [mS,(r.val k).isSome_eq,Option.isSome_map]
 unfold bC storedH
 rw [e]
 by_cases q:(atKey xs k).isSome=true
 ·rw [if_pos q,if_pos q];exact r.repl k ry
 ·rw [if_neg q,if_neg q];exact Paired.snoc r ⟨rfl,hb,ry⟩
theorem KT.keeps {H H':Hp} {kvs:List (List aF×V)} {xs:List (List aF×Addr×Value)} (r:KT H kvs xs) (ht:∀ b ys,H b=some (.tup ys)->H' b=some (.tup ys)):KT H' kvs xs :=
 Paired.mapP r λ_ _ z=>⟨z.1,z.2.1.imp λ_ e=>⟨ht _ _ e.1,e.2⟩,z.2.2⟩
section
variable {P:Program} {w:World} {H:Hp} {h:Heap} {a:Addr}
theorem rd_of {u:HO} (ok:HOk P w H h) (e:Rd H a u):ObjOk P w H h a u:=e.ok ok
theorem kR {kvs:List (aF×V)} (ok:HOk P w H h) (e:Rd H a (.dK kvs)):kvs.length<=sizeLine/\(a == sysModules)=false/\∃ vs,KV kvs vs/\h.DictOf (fB P w) a vs :=
 show ObjOk P w H h a (.dK kvs) from rd_of ok e
theorem qb {kvs:List (aF×V)} (ok:HOk P w H h) (e:H a=some (.dK kvs)):kvs.length<=sizeLine/\(a == sysModules)=false/\∃ vs,KV kvs vs/\h.DictOf (fB P w) a vs:=kR ok (.inl e)
theorem mU {ks:List aF} (ok:HOk P w H h) (e:KTup H a ks):(tupleKind (g9 P w)).is h ks a:=by
 obtain ⟨ys,e,ek⟩:=e
 obtain ⟨_,its,r,o,h1,h2,n,h3⟩:=(show ObjOk P w H h a (.tup ys) from ok a _ e)
 exact ⟨o,its.toArray,n,h1,h2,h3,by simpa using vk ek r⟩
theorem mV {xc:Option (List Addr)} {kvs:List (List aF×V)} (ok:HOk P w H h) (e:Rd H a (.dT xc kvs)):kvs.length<=sizeLine/\(a == sysModules)=false /\
  ∃ xs,KT H kvs xs/\(∀ as,xc=some as->xs.map (·.2.1)=as)/\DictE h (tupleKind (g9 P w)) a xs xs.length:=by
 obtain ⟨z,y,xs,r,o,es,ep,h1,h2,h3,h4,h5⟩:=(show ObjOk P w H h a (.dT xc kvs) from rd_of ok e)
 obtain ⟨h5,h6,h7⟩:=h5
 subst h6
 refine ⟨z,y,xs,r,h7,o,es,h1,h2,h3,h4,λx hx=>?_,h5⟩
 have all:∀ {l:List (List aF×V)} {m:List (List aF×Addr×Value)},KT H l m->∀ x∈m,(tupleKind (g9 P w)).is h x.1 x.2.1:=by
  intro l m q
  induction q with
  | nil=>intro x hx;exact nomatch hx
  | @cons p q ps qs hq t ih =>
   intro x hx
   rcases List.mem_cons.mp hx with e | hx
   ·subst e
    exact mU ok (by rw [<- hq.1];exact hq.2.1)
   ·exact ih x hx
 exact all r x hx
theorem Bm {xc:Option (List Addr)} {kvs:List (List aF×V)} (ok:HOk P w H h) (e:H a=some (.dT xc kvs)):kvs.length<=sizeLine/\(a == sysModules)=false /\
  ∃ xs,KT H kvs xs/\(∀ as,xc=some as->xs.map (·.2.1)=as)/\DictE h (tupleKind (g9 P w)) a xs xs.length:=mV ok (.inl e)
end
def DGet (H:Hp) (a:Addr) (y:V) (r:Option V):Prop :=
 (∃ kvs k,Rd H a (.dK kvs)/\y=kV k/\r=bV kvs k)\/∃ xc kvs k b,Rd H a (.dT xc kvs)/\y = .ref b/\KTup H b k/\r=bV kvs k
def DPut (H:Hp) (a:Addr) (y v:V) (H':Hp):Prop :=
 (∃ kvs k,H a=some (.dK kvs)/\y=kV k/\kvs.length<sizeLine/\H'=aI H a (.dK (bC kvs k v))) \/
 ∃ xc kvs k b,H a=some (.dT xc kvs)/\y = .ref b/\KTup H b k/\kvs.length<sizeLine/\H'=aI H a (.dT (vm xc (kvs.any λkv=>decide (kv.1=k)) b) (bC kvs k v))
theorem DGet.k {H:Hp} {a:Addr} {kvs:List (aF×V)} {k:aF} (e:H a=some (.dK kvs)):DGet H a (kV k) (bV kvs k):=.inl ⟨kvs,k,.inl e,rfl,rfl⟩
theorem DGet.t {H:Hp} {a b:Addr} {kvs:List (List aF×V)} {k:List aF} {xc:Option (List Addr)} (e:H a=some (.dT xc kvs)) (eb:KTup H b k):DGet H a (.ref b) (bV kvs k):=.inr ⟨xc,kvs,k,b,.inl e,rfl,eb,rfl⟩
theorem DPut.k {H:Hp} {a:Addr} {kvs:List (aF×V)} {k:aF} {v:V} (e:H a=some (.dK kvs)) (hl:kvs.length<sizeLine):DPut H a (kV k) v (aI H a (.dK (bC kvs k v))):=.inl ⟨kvs,k,e,rfl,hl,rfl⟩
theorem DPut.t {H:Hp} {a b:Addr} {kvs:List (List aF×V)} {k:List aF} {v:V} (e:H a=some (.dT none kvs)) (eb:KTup H b k) (hl:kvs.length<sizeLine) :
  DPut H a (.ref b) v (aI H a (.dT none (bC kvs k v))):=.inr ⟨none,kvs,k,b,e,rfl,eb,hl,rfl⟩
section
variable {X:Cx} {pins:List (Addr×Obj)} {σ:St} {H:Hp} {s:Shared} {a:Addr} {y v:V} {u r:Value} {o:Option V} {A:Around} {E:Value->Shared->Prop}
theorem Inv.big (I:Inv X pins σ H s):sysModules<s.heap.objs.size:=by
 have h:mainGlobals<s.heap.objs.size:=(I.mod.glob.keeps I.bk).lt
 exact Nat.lt_trans (by decide) h
theorem Bn {Q:Value->Shared->Prop} (hu:A.units+1<cLine) (I:Inv X pins σ H s) (g:DGet H a y (some v)) (ry:RelV y u) (h:∀ w' s',Inv X pins σ H s'->RelV v w'->Q w' s') :
  wpAny (model X.prog X.w) A (getItem (.ref a) u) Q E s:=by
 rcases g with ⟨kvs,k,e,ey,l⟩ | ⟨xc,kvs,k,b,e,ey,eb,l⟩
 ·subst ey
  obtain ⟨z,hd,vs,rel,dd⟩:=kR I.hok e
  obtain ⟨w',hw,rw'⟩:=RelO.some_of (v:=v) (o:=valueAt vs k) (by rw [l];exact rel.val k)
  exact wpAny_getItem_of (mT ry) dd.mapOf hw (h w' _ (I.tok _) rw')
 ·subst ey
  cases (show u=Value.ref b from ry)
  obtain ⟨z,hd,xs,rel,_,dd⟩:=mV I.hok e
  replace dd:=dd.of
  obtain ⟨w',hw,rw'⟩:=RelO.some_of (v:=v) (o:=(atKey xs k).map (·.2)) (by rw [l];exact rel.val k)
  obtain ⟨p,hp,hp2⟩:=Option.map_eq_some_iff.mp hw
  refine wpAny_getItem_heap (tupleKind_room_in1 hu) (mU I.hok eb) dd hp ?_
  rw [hp2]
  exact h w' _ (I.tok _) rw'
theorem Bo {Q:Value->Shared->Prop} (hu:A.units+1<cLine) (I:Inv X pins σ H s) (g:DGet H a y o) (ry:RelV y u) (h:∀ s',Inv X pins σ H s'->Q (.bool (!o.isSome)) s') :
  wpAny (model X.prog X.w) A (compareOp .NotIn u (.ref a)) Q E s:=by
 rcases g with ⟨kvs,k,e,ey,l⟩ | ⟨xc,kvs,k,b,e,ey,eb,l⟩
 ·subst ey
  obtain ⟨z,hd,vs,rel,dd⟩:=kR I.hok e
  refine wpAny_notIn_of (mT ry) hd dd.mapOf ?_
  rw [<- (rel.val k).isSome_eq,<- l]
  exact h _ (I.tok _)
 ·subst ey
  cases (show u=Value.ref b from ry)
  obtain ⟨z,hd,xs,rel,_,dd⟩:=mV I.hok e
  replace dd:=dd.of
  refine wpAny_notIn_heap (tupleKind_room_in1 hu) (mU I.hok eb) hd dd ?_
  have q:=(rel.val k).isSome_eq
  rw [Option.isSome_map] at q
  rw [<- q,<- l]
  exact h _ (I.tok _)
theorem qc {h':Heap} {t':Nat} {ob:HO} (I:Inv X pins σ H s) (mu:kE (H a)) (hs:Heap.SameBut a s.heap h') (he:∃ q,h'.get? a=some q) (new:ObjOk X.prog X.w (aI H a ob) h' a ob) :
  Inv X pins σ (aI H a ob) { s with heap:=h',toks:=t' } :=
 I.write (x:=a) (e:=a) mu (.inl rfl) (λb q hb z=>(hs.2 b hb).trans z) he new
theorem vo {P:Program} {w:World} {H':Hp} {h':Heap} {kvs:List (aF×V)} {vs:List (aF×Value)} (z:kvs.length<=sizeLine) (hd:(a == sysModules)=false) (rel:KV kvs vs) (dd:h'.DictOf (fB P w) a vs) :
  ObjOk P w H' h' a (.dK kvs):=⟨z,hd,vs,rel,dd⟩
theorem Bp {H':Hp} {Q:Unit->Shared->Prop} (hu:A.units+1<cLine) (I:Inv X pins σ H s) (g:DPut H a y v H') (ry:RelV y u) (rv:RelV v r) (h:∀ s',Inv X pins σ H' s'->Q () s') :
  wpAny (model X.prog X.w) A (setItem (.ref a) u r) Q E s:=by
 rcases g with ⟨kvs,k,e,ey,l,eH⟩ | ⟨xc,kvs,k,b,e,ey,eb,l,eH⟩
 ·subst ey eH
  obtain ⟨z,hd,vs,rel,dd⟩:=qb I.hok e
  have hz:vs.length<=sizeLine:=by rw [<- rel.length];exact z
  have hl:(bC kvs k v).length<=sizeLine:=by have:=pZ kvs k v;omega
  refine wpAny_setItem_pairs (hsz:=hz) (mT ry) dd λh' dd' hs=>h _ ?_
  have he:∃ q,h'.get? a=some q:=let ⟨q,_,_,hq,_⟩:=dd';⟨q,hq⟩
  exact qc I (by rw [e];exact True.intro) hs he (vo hl hd (rel.put k rv) dd')
 ·subst ey eH
  cases (show u=Value.ref b from ry)
  obtain ⟨z,hd,xs,rel,ha,dd⟩:=Bm I.hok e
  have hz:xs.length<=sizeLine:=by rw [<- Paired.length rel];exact z
  have hl:(bC kvs k v).length<=sizeLine:=by have:=pZ kvs k v;omega
  have eo:(kvs.any λkv=>decide (kv.1=k))=(atKey xs k).isSome:=by rw [mS,(rel.val k).isSome_eq,Option.isSome_map]
  refine qa (tupleKind_room_in1 hu) (mU I.hok eb) dd hz λh' dd' hs=>h _ ?_
  obtain ⟨q,es,hq,h2,h3,h4,_,h5⟩:=dd'
  refine qc I (by rw [e];exact True.intro) hs ⟨q,hq⟩ ⟨hl,hd,_,(rel.put k eb rv).keeps λc ys ec=>?_,q,es,_,hq,h2,h3,h4,h5,rfl,by rw [eo];exact Bl ha⟩
  rw [bg (zg ec e (λz=>nomatch z))]
  exact ec
end
section
variable {X:Cx} {pins:List (Addr×Obj)} {σ:St} {H:Hp} {s:Shared} {a:Addr} {kvs:List (aF×V)} {k:aF} {u:Value} {A:Around} {E:Value->Shared->Prop}
theorem Bq {Q:Value->Shared->Prop} (I:Inv X pins σ H s) (e:Rd H a (.dK kvs)) (h:∀ t s',Inv X pins σ H s'->Q (.int kvs.length t) s'):wpAny (model X.prog X.w) A (call (.builtin "len") [.ref a]) Q E s:=by
 obtain ⟨z,hd,vs,rel,dd⟩:=kR I.hok e
 refine call_len_dict hd dd (by rw [<- rel.length];rw [sizeLine_eq] at z;omega) ?_
 rw [<- rel.length]
 exact h _ _ (I.tok _)
end
def kS (i:Expr):Prop:=∀ ov iv,subscripted i false ov iv=operate [ov,iv] (getItem ov iv)
theorem Br {prog:Program} {w:World} {A:Around} {E:Value->Shared->Prop} {s:Shared} {env:Env} {value slice:Expr} {pos:Pos} {T id:String} {Q:Value->Shared->Prop}
  (hl:typeLookup (.type T) "__getitem__" = pure (some (.builtin id))) (hs:kS slice)
  (h:wpAny (model prog w) A (eval value env) (λo s₁=>wpAny (model prog w) A (eval slice env) (λi s₂=>s₂.TypeIs o T/\wpAny (model prog w) A (getItem o i) Q E s₂) E s₁) E s) :
  wpAny (model prog w) A (eval (.Subscript value slice pos) env) Q E s:=by
 refine Subscript_ (wpAny_mono h (λo s₁ h₁=>wpAny_mono h₁ (λi s₂ h₂=>?_) λ_ _ x=>x) λ_ _ x=>x)
 obtain ⟨hT,h₂⟩:=h₂
 unfold subscriptTail
 refine wpAny_bind ?_
 rw [getitemInPython_of_ne hT.not_modules]
 refine wpAny_bind (wpAny_specialOf hT hl ?_)
 have fin:wpAny (model prog w) A (subscripted slice false o i) (λr s₃=>wpAny (model prog w) A (letTemporaryGo value o r >>= λ_=>pure r) Q E s₃) E s₂:=by
  rw [hs o i]
  exact wpAny_operating (wpAny_mono h₂ (λr s₃ h₃=>wpAny_bind (wpAny_letTemporaryGo (wpAny_pure h₃))) λ_ _ x=>x)
 first
  | exact wpAny_pure (wpAny_bind fin)
  | exact wpAny_bind (wpAny_pure (wpAny_bind fin))
  | exact wpAny_bind fin
theorem Bs {X:Cx} {pins:List (Addr×Obj)} {σ:St} {H:Hp} {s:Shared} {a:Addr} {y:V} {o:Option V} (I:Inv X pins σ H s) (g:DGet H a y o):s.TypeIs (.ref a) "dict" := by
 rcases g with ⟨kvs,k,e,_,_⟩ | ⟨xc,kvs,k,b,e,_,_,_⟩
 ·obtain ⟨_,_,vs,_,dd⟩:=kR I.hok e
  exact dd.typeIs
 ·obtain ⟨_,_,xs,_,_,dd⟩:=mV I.hok e
  replace dd:=dd.of
  exact dd.typeIs
def Bt (td ty:TE):TE:=λσ H Q=>td σ H λx H1=>ty σ H1 λy H2=>∃ a v,x = .ref a/\DGet H2 a y (some v)/\Q v H2
def Bu (td ty tv:TE):TS:=λD σ H=>tv σ H λv H1=>td σ H1 λx H2=>ty σ H2 λy H3=>∃ a H4,x = .ref a/\DPut H3 a y v H4/\D.nx σ H4
section
variable {X:Cx} {o i e value:Expr} {pos pos' tpos:Pos} {td ty tv:TE}
theorem Bv (hu:X.A.units+1<cLine) (ho:PE X o td) (hi:PE X i ty) (hs:kS i):PE X (.Subscript o i pos) (Bt td ty):=by
 intro pins s σ H Q I h
 refine Br PySem.F.slot_dict_getitem.lookup hs (thn (ho pins s σ H _ I h) λu s1 ⟨x,H1,I1,rx,q1⟩=>thn (hi pins s1 σ H1 _ I1 q1) λiv s2 Zz=>?_);obtain ⟨y,H2,I2,ry,a,v,ex,g,q2⟩:=Zz
 subst ex
 obtain rfl:u=Value.ref a:=rx
 exact ⟨Bs I2 g,Bn hu I2 g ry λw' s3 I3 rw' => ⟨v,H2,I3,rw',q2⟩⟩
theorem Bw (hu:X.A.units+1<cLine) (ho:PE X o td) (hi:PE X i ty) (hv:PE X value tv) (hs:swapsWith value (some (.Subscript o i pos')) pos.line X.env=pure false) :
  PS X (.Assign [.Subscript o i pos'] value pos) (Bu td ty tv):=by
 intro pins s σ H D I h
 refine wpAny_Assign_Subscript (thn (hv pins s σ H _ I h) λr s1 ⟨v,H1,I1,rv,q1⟩=>thn (ho pins s1 σ H1 _ I1 q1) λu s2 ⟨x,H2,I2,rx,q2⟩=>thn (hi pins s2 σ H2 _ I2 q2) λiv s3 Zz=>?_) hs;obtain ⟨y,H3,I3,ry,a,H4,ex,g,q3⟩:=Zz
 subst ex
 obtain rfl:u=Value.ref a:=rx
 exact Bp hu I3 g ry rv λs4 I4=>⟨σ,H4,I4,q3⟩
end
theorem vp {P:Program} {w:World} {H:Hp} (h:Heap) (hb:sysModules<h.objs.size):ObjOk P w H (h.push { cls:=.type "dict",data:=.dict #[] }) h.objs.size (.dK []) :=
 ⟨Nat.zero_le _,beq_eq_false_iff_ne.mpr (Ne.symm (Nat.ne_of_lt hb)),[],.nil,Heap.DictOf.new h⟩
theorem Bx {P:Program} {w:World} {H:Hp} {xc:Option (List Addr)} (hx:xc=none\/xc=some []) (h:Heap) (hb:sysModules<h.objs.size):ObjOk P w H (h.push { cls:=.type "dict",data:=.dict #[] }) h.objs.size (.dT xc []) :=
 ⟨Nat.zero_le _,beq_eq_false_iff_ne.mpr (Ne.symm (Nat.ne_of_lt hb)),[],.nil,_,#[],0,Heap.get?_push_size _ rfl,⟨rfl,rfl,rfl⟩,rfl,rfl,List.nodup_nil,rfl,λas e=>by
  rcases hx with rfl | rfl
  ·cases e
  ·injection e⟩
def By:TE:=λ_ H Q=>∀ p,H p=none->Q (.ref p) (aI H p (.dK []))
def Bz:TE:=λ_ H Q=>∀ p,H p=none->Q (.ref p) (aI H p (.dT none []))
section
variable {X:Cx} {pos:Pos}
theorem BB:PE X (.Dict [] [] pos) By:=λpins s σ H Q I h =>
 wpAny_Dict_empty ⟨.ref s.heap.objs.size,_,I.laid (a:=s.heap.objs.size) (o:=.dK []) (t' := s.toks) (λ_ _ q=>Heap.get?_push_of_some _ q) (Nat.le_refl _) (vp s.heap I.big),rfl,h _ (I.hok.fresh (Nat.le_refl _))⟩
theorem BC:PE X (.Dict [] [] pos) Bz:=λpins s σ H Q I h =>
 wpAny_Dict_empty ⟨.ref s.heap.objs.size,_,I.laid (a:=s.heap.objs.size) (o:=.dT none []) (t' := s.toks) (λ_ _ q=>Heap.get?_push_of_some _ q) (Nat.le_refl _) (Bx (.inl rfl) s.heap I.big),rfl,h _ (I.hok.fresh (Nat.le_refl _))⟩
end
def qd:List (TE×TE)->St->Hp->(List (V×V)->Hp->Prop)->Prop
 | [],_,H,Q=>Q [] H
 | (tk,tv)::r,σ,H,Q=>tk σ H λx H1=>tv σ H1 λy H2=>qd r σ H2 λps H3=>Q ((x,y)::ps) H3
abbrev VV:List (V×V)->List (Value×Value)->Prop:=Paired λp q=>RelV p.1 q.1/\RelV p.2 q.2
def mW (X:Cx) (pos:Pos) (keys:List (Option Expr)) (values:List Expr) (trs:List (TE×TE)):Prop :=
 ∀ (pins:List (Addr×Obj)) (s:Shared) (σ:St) (H:Hp) (Q:List (V×V)->Hp->Prop),Inv X pins σ H s->qd trs σ H Q ->
  wpAny (model X.prog X.w) X.A (evalPairs (pairTrees keys values X.env pos)) (λvs s' => ∃ ps H',Inv X pins σ H' s'/\VV ps vs/\Q ps H') X.xe s
theorem BD {X:Cx} {pos:Pos}:mW X pos [] [] []:=λpins s σ H Q I h=>pairTrees_nil_walk ⟨[],H,I,.nil,h⟩
theorem BE {X:Cx} {pos:Pos} {k v:Expr} {ks:List (Option Expr)} {vs:List Expr} {tk tv:TE} {trs:List (TE×TE)} (hk:PE X k tk) (hv:PE X v tv) (hr:mW X pos ks vs trs) :
  mW X pos (some k::ks) (v::vs) ((tk,tv)::trs):=λpins s σ H Q I h =>
 pairTrees_cons_walk (thn (hk pins s σ H _ I h) λu s1 ⟨x,H1,I1,rx,q1⟩=>thn (hv pins s1 σ H1 _ I1 q1) λw2 s2 ⟨y,H2,I2,ry,q2⟩ =>
  thn (hr pins s2 σ H2 _ I2 q2) λws s3 ⟨ps,H3,I3,rel,q3⟩=>⟨(x,y)::ps,H3,I3,.cons ⟨rx,ry⟩ rel,q3⟩)
def kT (kvs more:List (aF×V)):List (aF×V):=more.foldl (λacc kv=>bC acc kv.1 kv.2) kvs
theorem KV.merge:∀ {more:List (aF×V)} {rs:List (aF×Value)} {kvs:List (aF×V)} {vs:List (aF×Value)},KV more rs->KV kvs vs->KV (kT kvs more) (merged vs rs):=by
 intro more rs kvs vs r
 unfold KV at r
 induction r generalizing kvs vs with
 | nil=>intro q;exact q
 | @cons p q ps qs h t ih =>
  intro r0
  have e:KV (bC kvs p.1 p.2) (stored vs q.1 q.2):=by
   have:=r0.put p.1 h.2
   rw [<- h.1];exact this
  exact ih e
theorem vq:∀ (more kvs:List (aF×V)),(kT kvs more).length<=kvs.length+more.length
 | [],kvs=>by show kvs.length<=kvs.length+0;omega
 | p::r,kvs=>by
  have h1:=vq r (bC kvs p.1 p.2)
  have h2:=pZ kvs p.1 p.2
  show (kT (bC kvs p.1 p.2) r).length<=_
  rw [List.length_cons];omega
theorem vr {P:Program} {w:World}:∀ {kvs:List (aF×V)} {ws:List (Value×Value)},VV (kvs.map λkv=>(kV kv.1,kv.2)) ws->∃ rs,Carries (fB P w) ws rs/\KV kvs rs
 | [],_,r=>by rw [List.map_nil] at r;cases r;exact ⟨[],True.intro,.nil⟩
 | p::kvs,_,r=>by
  rw [List.map_cons] at r
  cases r with
  | @cons a b as bs h t =>
   obtain ⟨rs,c,q⟩:=vr (P:=P) (w:=w) t
   obtain ⟨b1,b2⟩:=b
   exact ⟨(p.1,b2)::rs,⟨mT h.1,rfl,c⟩,.cons ⟨rfl,h.2⟩ q⟩
def BF (trs:List (TE×TE)):TE:=λσ H Q=>∀ p,H p=none->qd trs σ (aI H p (.dK [])) λps H2=>H2 p=some (.dK [])/\∃ kvs:List (aF×V),ps=kvs.map (λkv=>(kV kv.1,kv.2))/\kvs.length<=15/\Q (.ref p) (aI H2 p (.dK (kT [] kvs)))
theorem BG {X:Cx} {pos:Pos} {keys:List (Option Expr)} {values:List Expr} {trs:List (TE×TE)} (h:mW X pos keys values trs) (hall:keys.all (·.isSome)=true) (hl:keys.length=values.length) (h0:keys≠[])
  (h15:keys.length<=15):PE X (.Dict keys values pos) (BF trs):=by
 intro pins s σ H Q I q
 have hn:=I.hok.fresh (Nat.le_refl s.heap.objs.size)
 have I1:=I.laid (a:=s.heap.objs.size) (o:=.dK []) (h' := s.heap.push { cls:=.type "dict",data:=.dict #[] }) (t' := s.toks) (λ_ _ q=>Heap.get?_push_of_some _ q) (Nat.le_refl _) (vp s.heap I.big)
 refine wpAny_Dict_walk (knd:=fB X.prog X.w) hall hl h0 h15 (thn (h pins _ σ _ _ I1 (q _ hn)) λws s2 Zz=>?_);obtain ⟨ps,H2,I2,rel,e,kvs,ep,lk,q2⟩:=Zz
 subst ep
 obtain ⟨rs,c,rk⟩:=vr (P:=X.prog) (w:=X.w) rel
 obtain ⟨z,hd,vs0,r0,dd⟩:=qb I2.hok e
 cases r0
 refine ⟨rs,c,dd,λh' dd' hs=>⟨.ref s.heap.objs.size,_,?_,rfl,q2⟩⟩
 have hz:(kT [] kvs).length<=sizeLine:=by
  have h1:=vq kvs []
  rw [List.length_nil] at h1
  rw [sizeLine_eq];omega
 have he:∃ q,h'.get? s.heap.objs.size=some q:=let ⟨q,_,_,hq,_⟩:=dd';⟨q,hq⟩
 exact qc I2 (by rw [e];exact True.intro) hs he (vo hz hd (rk.merge .nil) dd')
section
variable {X:Cx} {pins:List (Addr×Obj)} {σ:St} {H:Hp} {s:Shared} {a:Addr} {y d:V} {u r:Value} {o:Option V} {A:Around} {E:Value->Shared->Prop}
end
section
variable {X:Cx} {o e f:Expr} {apos cpos:Pos} {td ty tx:TE}
end
section
variable {X:Cx} {pins:List (Addr×Obj)} {σ:St} {H:Hp} {s:Shared} {a:Addr} {kvs:List (aF×V)} {A:Around} {E:Value->Shared->Prop}
end
section
variable {X:Cx} {pins:List (Addr×Obj)} {σ:St} {H:Hp} {s:Shared} {a:Addr} {y:V} {u:Value} {A:Around} {E:Value->Shared->Prop}
end
end L2
namespace Att
open PySem PySem.W PySem.Calls PyProof.Rows
theorem BH {P:Params} {h:Heap}:∀ (ns:List Int) (vs:List Value),WellAll P h vs (ns.map WData.int)->IntsAre vs ns:=by
 intro ns
 induction ns with
 | nil =>
  intro vs w
  rw [List.map_nil] at w
  cases w
  exact .nil
 | cons n ns ih =>
  intro vs w
  rw [List.map_cons] at w
  cases w with
  | cons a b =>
   cases a
   exact .cons _ _ (ih _ b)
theorem BI {l:OpenLaw} {n:Nat} (hn:l.most=some n) {P:Params} {h:Heap} {args:List WData} {vals:List Value}
  (hpre:l.row.toRowW.claim.pre args=true) (hwl:WellAll P h vals args) :
  ∃ a vs ns,vals=[Value.ref a]/\args=[WData.list (ns.map WData.int)]/\h.get? a=some { cls:=.type "list",data:=.seq vs.toArray }/\IntsAre vs ns/\ns.length<=n:=by
 have hsh:WShape.hasAll [] args [.list .int]=true:=(pre_splitW hpre).1
 have hc:l.pre.holds [] { args:=args }=true:=(pre_splitW hpre).2
 obtain ⟨d,r,rfl,h1,h2⟩:=hasAllW_cons hsh
 obtain rfl:=hasAllW_nil h2
 obtain ⟨xs,rfl,h3⟩:=hasW_list h1
 obtain ⟨ns,rfl⟩:=items_int h3
 have hlen:ns.length<=n:=by
  unfold OpenLaw.pre at hc
  have h4:(WTm.not (.lt (.lit (.int (n:Int))) (.len (.arg 0)))).holds [] { args:=[.list (ns.map .int)] }=true:=by
   have h4:=(holds_andW hc).1
   rw [hn] at h4
   exact h4
  have h5:=condW_of h4 (w_not (w_lt w_lit (w_len_list (w_arg rfl))))
  rw [List.length_map] at h5
  refine Nat.le_of_not_lt λq=>?_
  have q':(n:Int)<((ns.length:Nat):Int):=by omega
  first
   | (rw [decide_eq_true q'] at h5;exact absurd h5 (by decide))
   | (simp at h5;omega)
 cases hwl with
 | cons w1 w2 =>
  cases w2
  cases w1 with
  | list ho hall=>exact ⟨_,_,ns,rfl,rfl,ho,BH ns _ hall,hlen⟩
theorem BJ (l:OpenLaw) (args:List WData):l.row.toRowW.claim.post args (.bool true) args=true :=
 postW_of (r:=l.row.toRowW) (X:=(true == true))
  (show WShape.has [] (.bool true) .bool=true by first | rfl | decide | simp [WShape.has,WShape.arms,WShape.armsAll])
  (show (WTm.eq .res (.lit (.bool true))).value [] { args:=args,res:=some (.bool true),after:=args }=some (.bool (true == true)) from w_eq_bool (w_res rfl) w_lit) rfl
theorem attach_call {l:OpenLaw} {n:Nat} {q:Program} {loose:List Str} {XP:(Str->Option Value)->Heap->Prop} {YP:World->Heap->Prop} {d:DefRec}
  (hn:l.most=some n) (hdf:d.params.defaults=[])
  (call:∀ (w:World) (s₀ s₁:Shared) (mg mb:Str->Option Value) (fa:Addr) (o:Obj) (pm cd doc:Value) (a:Addr) (vs:List Value) (ns:List Int),
   Ground q loose [] XP w s₀ mg mb s₁.heap->YP w s₁.heap ->
   s₁.heap.get? fa=some o->o.data = .func (docDef d.name d.params d.body d.scope pm cd doc)->s₁.heap.CodeRec cd d.name->mg d.name=some (.ref fa) ->
   s₁.heap.get? a=some { cls:=.type "list",data:=.seq vs.toArray }->IntsAre vs ns->ns.length<=n->s₁.gens = #[] ->
   codeAny (model l.prog w) callerA (.call (.ref fa) ⟨[.ref a],[]⟩) (λr s' => r = .ok (.ret (.bool true))/\OldK s₁.heap s'.heap/\s'.os=s₁.os/\AllBare s'.gens) s₁) :
  WalkO q loose XP YP l.row.toRowW d [] (λf vs=>PySem.call f vs):=by
 intro w s₀ s₁ mg mb G Y fa o pm cd doc dV kV ho hd hcd hD hmg hg args vals as hpre hlay hrd hwl hlo
 obtain rfl:dV = .none:=Dflts.none hD hdf
 obtain rfl:kV = .none:=Dflts.noKw hD
 obtain ⟨a,vs,ns,rfl,rfl,hobj,hints,hlen⟩:=BI hn hpre hwl
 refine enter_call (codeAny_mono (call w s₀ s₁ mg mb fa o pm cd doc a vs ns G Y ho (fd_plain hd) hcd hmg hobj hints hlen hg) λr s' hq=>?_)
 obtain ⟨rfl,h2,h3,h4⟩:=hq
 exact ⟨.inl ⟨.bool true,.bool true,[],rfl,λ_=>rfl,.bool true,BJ l _,λ_=>⟨List.Pairwise.nil,λ_ hm=>(nomatch hm)⟩⟩,h2,h3,h4⟩
section
variable {prog:Program} {w:World} {A:Around} {E:Value->Shared->Prop} {s:Shared} {K:Frag}
end
end Att
namespace L2
open PySem PySem.Spec PyProof.Rows
theorem kU:∀ {vs:List Value} {ns:List Int},IntsAre vs ns->Vals (ns.map V.int) vs
 | _,_,.nil=>.nil
 | _,_,.cons n t h=>.cons ⟨t,rfl⟩ (kU h)
def jt (H:Hp):Prop:=∀ b,H b=none\/∃ o xs,H b=some (.frz o (.lst xs))
theorem BK {P:Program} {w:World} {K:PySem.W.Frag} {mg mb:Str->Option Value} {CX:e7} {k:Nat} {fa a:Addr} {fd:FuncData} {x:Str} {sp:Sp} {s₁:Shared} {vs:List Value} {ns:List Int}
  (KX:K.In s₁.heap) (hns:s₁.heap.Ns mainGlobals mg) (hb:s₁.heap.Ns builtinsNs mb) (hbb:∀ x:Str,x ≠ "__name__" -> mb x=bootBuiltins x) (hlim:s₁.heap.NoLimit) (hg:s₁.gens = #[])
  (ha:s₁.heap.get? a=some { cls:=.type "list",data:=.seq vs.toArray }) (hi:IntsAre vs ns) (hl:ns.length<=sizeLine) (hr:Room k callerA)
  (F:∀ base:Heap,K.In base->base.Ns mainGlobals mg->FnOk P w K mg base CX k fa fd [x] sp) (hbind:∀ (s:Shared) (u:Value),BindsTo s fd ⟨[u],[]⟩ [(x,u)])
  (hsp:∀ H:Hp,jt H->SqL K H a (ns.map V.int)->sp [.ref a] H (λv _=>v = .bl true) λ_ _ _=>False)
  (hCX:∀ H e s',CX [] H s₁ (λ_ _ _=>False) e s'->False) :
  codeAny (model P w) callerA (.call (.ref fa) ⟨[.ref a],[]⟩) (λr s' => r = .ok (.ret (.bool true))/\OldK s₁.heap s'.heap/\s'.os=s₁.os/\AllBare s'.gens) s₁:=by
 have rv:=kU hi
 have lenV:=hi.length
 have core:∀ H:Hp,jt H->SqL K H a (ns.map V.int)->HOk P w H s₁.heap->(∀ b,H b≠none->b=a)->(H a≠none->K.lookup a=none) ->
   codeAny (model P w) callerA (.call (.ref fa) ⟨[.ref a],[]⟩) (λr s' => r = .ok (.ret (.bool true))/\OldK s₁.heap s'.heap/\s'.os=s₁.os/\AllBare s'.gens) s₁:=by
  intro H hO hS hok hA hK
  have base_of:∀ {b:Addr} {o:Obj},s₁.heap.get? b=some o->H b=none->(dz s₁.heap H).get? b=some o:=λe n=>zi e n
  have noA:∀ {b:Addr} {o:Obj} {es:Array DictEntry} {ep:Nat},s₁.heap.get? b=some o->o.data = .dict es ep->H b=none:=λ{b o es ep} e d=>by
   cases q:H b with
   | none=>rfl
   | some u =>
    have e':b=a:=hA b (by rw [q];simp)
    subst e'
    rw [ha] at e;cases e
    have d':Data.seq vs.toArray _=Data.dict es ep:=d
    cases d'
  have nsK:∀ {b:Addr} {m:Str->Option Value},s₁.heap.Ns b m->(dz s₁.heap H).Ns b m:=λ{b m} ⟨o,es,ep,e,d,r⟩=>⟨o,es,ep,base_of e (noA e d),d,r⟩
  have hKb:K.In (dz s₁.heap H):=λb o e=>base_of (KX b o e) (by
   cases q:H b with
   | none=>rfl
   | some u =>
    have e':b=a:=hA b (by rw [q];simp)
    subst e'
    rw [hK (by rw [q];simp)] at e;cases e)
  have hM:Mod K mg (dz s₁.heap H):=⟨hKb,nsK hns,⟨mb,nsK hb,hbb⟩,let ⟨mc,h1,h2⟩:=hlim;⟨mc,nsK h1,h2⟩⟩
  have e0:Env0 P w K mg (dz s₁.heap H) callerA [] s₁ H:=⟨rfl,hM,λb o e=>zj e,Nat.le_of_eq (zh _ _),trivial,λb hb=>absurd (show b∈([]:List Addr) from hb) (by simp),hok,.of_eq hg⟩
  refine codeAny_mono ((F _ hKb (nsK hns)).run callerA [] s₁ H ⟨[.ref a],[]⟩ [.ref a] [.ref a] _ _ hr e0 (hbind s₁ (.ref a)) (.cons rfl .nil) (hsp H hO hS)) λr s' h=>?_
  cases r with
  | error e=>exact (hCX H e s' h).elim
  | ok fl =>
   cases fl with
   | next=>exact False.elim h
   | brk=>exact False.elim h
   | cont=>exact False.elim h
   | ret u =>
    obtain ⟨v,H',os,bare,un,hok',r',q⟩:=h
    have q':v = .bl true:=q
    subst q'
    obtain rfl:u=Value.bool true:=r'
    refine ⟨rfl,OldK.of_keep λb o e=>?_,os,bare⟩
    cases q:H b with
    | none=>exact un.keep b o e q (by intro z;exact absurd (show b∈([]:List Addr) from z) (by simp)) (by simp)
    | some u =>
     rcases hO b with z | ⟨ob,xs,z⟩
     ·rw [q] at z;cases z
     ·have z2:=un.frzs b ob _ z
      obtain ⟨e1,_⟩:=hok b _ z
      obtain ⟨e2,_⟩:=hok' b _ z2
      rw [e] at e1;cases e1
      exact e2
 cases hk:K.lookup a with
 | some o =>
  have e:=KX a o hk
  rw [ha] at e
  cases e
  refine core (λ_=>none) (λ_=>.inl rfl) (.inr ⟨_,vs.toArray,_,hk,rfl,rfl,rfl,by rw [List.size_toArray,lenV];exact hl,by simpa using rv⟩) (λb u z=>by have z':(none:Option HO)=some u:=z;cases z') (λb z=>absurd rfl z) λz=>absurd rfl z
 | none =>
  refine core (λb=>if b=a then some (.frz { cls:=.type "list",data:=.seq vs.toArray } (.lst (ns.map V.int))) else none) (λb=>?_) (.inl (.inr ⟨{ cls:=.type "list",data:=.seq vs.toArray },if_pos rfl⟩)) (λb u z=>?_) (λb z=>?_) λ_=>hk
  ·by_cases hb:b=a
   ·exact .inr ⟨_,_,if_pos hb⟩
   ·exact .inl (if_neg hb)
  ·by_cases hb:b=a
   ·have z' := (if_pos hb).symm.trans z
    cases z'
    subst hb
    exact ⟨ha,by rw [List.length_map];exact hl,vs,_,rv,ha⟩
   ·have z' := (if_neg hb).symm.trans z
    cases z'
  ·by_cases hb:b=a
   ·exact hb
   ·exact absurd (if_neg hb) z
end L2
namespace L2
open PySem PySem.Spec PyProof.Rows
theorem walk_of {l:PySem.W.OpenLaw} {n k:Nat} {q:Program} {loose:List Str} {XP:(Str->Option Value)->Heap->Prop} {YP:World->Heap->Prop} {d:DefRec} {K:Params->PySem.W.Frag} {CX:World->e7} {sp:World->Sp} {x:Str}
  (hn:l.most=some n) (hn2:n<=sizeLine) (hdf:d.params.defaults=[]) (hr:Room k callerA)
  (hY:∀ (w:World) (h:Heap),YP w h->(K w.params).In h)
  (F:∀ (w:World) (mg:Str->Option Value) (fa:Addr) (h:Heap),(K w.params).In h->h.Ns mainGlobals mg->mg d.name=some (.ref fa) ->
   ∃ fd:FuncData,(∀ (s:Shared) (u:Value),BindsTo s fd ⟨[u],[]⟩ [(x,u)]) /\
    ∀ base:Heap,(K w.params).In base->base.Ns mainGlobals mg->FnOk l.prog w (K w.params) mg base (CX w) k fa fd [x] (sp w))
  (hsp:∀ (w:World) (H:Hp) (a:Addr) (ns:List Int),ns.length<=n->jt H->SqL (K w.params) H a (ns.map V.int)->sp w [.ref a] H (λv _=>v = .bl true) λ_ _ _=>False)
  (hCX:∀ (w:World) (H:Hp) (s:Shared) (e:Value) (s':Shared),CX w [] H s (λ_ _ _=>False) e s'->False) :
  PySem.W.WalkO q loose XP YP l.row.toRowW d [] (λf vs=>PySem.call f vs):=by
 refine Att.attach_call hn hdf λw s₀ s₁ mg mb fa o pm cd doc a vs ns G Y ho hd hcd hmg hobj hints hlen hg=>?_
 have KX:=hY w _ Y
 obtain ⟨fd,hb,hF⟩:=F w mg fa _ KX G.T.g hmg
 exact BK KX G.T.g G.T.b G.T.builtins G.T.nolimit hg hobj hints (Nat.le_trans hlen hn2) hr hF hb (λH hO hS=>hsp w H a ns hlen hO hS) λH e s' => hCX w H s₁ e s'
end L2
namespace L2
open PySem PySem.Spec PyProof.Rows
def eJ (s:Stmt) (j:Nat):Stmt:=match s with
 | .ClassDef _ _ _ body _ _ _ _ _ _ _=>body.getD j (.Pass ⟨0,0,0,0⟩)
 | _=>.Pass ⟨0,0,0,0⟩
def ju (s:Stmt):Arguments:=match s with
 | .FunctionDef _ a _ _ _ _ _ _ _ _=>a
 | _=>{ posonlyargs:=[],args:=[],vararg:=none,kwonlyargs:=[],kw_defaults:=[],kwarg:=none,defaults:=[] }
def gN (s:Stmt):List Stmt:=match s with
 | .FunctionDef _ _ b _ _ _ _ _ _ _=>b
 | _=>[]
def aL (s:Stmt):Scope:=match s with
 | .FunctionDef _ _ _ _ _ _ sc _ _ _=>sc
 | _=>{ kind:=.function,names:=[],isGenerator:=false,isCoroutine:=false }
abbrev E0:XK:=λ_ _ _=>False
structure Fun (K:PySem.W.Frag) (x qual:Str) (st:Stmt) (f:Addr) (fd:FuncData):Prop where
 ex:∃ (oc:Value) (od:Option Addr) (kV doc pm:Value) (an:Option Addr) (cdv ct:Value) (osl:Array (Option Value)),
  fd=PySem.W.fnOf x qual (ju st) (gN st) (aL st) .none kV doc pm an cdv ct/\K.lookup f=some ⟨oc,od,.func fd,osl⟩/\PySem.W.codeIn K cdv qual=true
 kp:PySem.W.keepIn K (.ref f)=true
section
variable {P:Program} {w:World} {K:PySem.W.Frag} {mg:Str->Option Value} {base:Heap}
theorem Fun.binds {x qual:Str} {st:Stmt} {f:Addr} {fd:FuncData} {ps:List Str} (F:Fun K x qual st f fd)
  (h:∀ (kV doc pm:Value) (an:Option Addr) (cdv ct:Value) (us:List Value),us.length=ps.length->bindArgs (PySem.W.fnOf x qual (ju st) (gN st) (aL st) .none kV doc pm an cdv ct) ⟨us,[]⟩=pure (ps.zip us)):Binds K fd ps []:=by
 obtain ⟨oc,od,kV,doc,pm,an,cdv,ct,osl,rfl,lk,hcd⟩:=F.ex
 exact .all (h kV doc pm an cdv ct)
theorem vt {x qual:Str} {st:Stmt} {f:Addr} {oc:Value} {od an:Option Addr} {osl:Array (Option Value)} {kV doc pm cdv ct:Value} (l:K.lookup f=some ⟨oc,od,.func (PySem.W.fnOf x qual (ju st) (gN st) (aL st) .none kV doc pm an cdv ct),osl⟩)
  (c:PySem.W.codeIn K cdv qual=true) (k:PySem.W.keepIn K (.ref f)=true):Fun K x qual st f (PySem.W.fnOf x qual (ju st) (gN st) (aL st) .none kV doc pm an cdv ct):=⟨⟨oc,od,kV,doc,pm,an,cdv,ct,osl,rfl,l,c⟩,k⟩
end
section
variable {X:Cx}
theorem pv (i:Nat) {x:Str} {pos:Pos} (hN:X.N[i]? = some x:=by rfl) (hv:fT X.env.scope x:=by first | exact Or.inl rfl | exact Or.inr (Or.inl rfl) | exact Or.inr (Or.inr rfl)) (hd:(x == ("__debug__" : Str))=false:=by decide)
  (hcd:(x == ("__classdict__" : Str))=false:=by decide):PE X (.Name x pos) (kF i):=zk hN hv hd hcd
theorem BM:CallR X (.builtin "len") (λxs H Q=>∃ a kvs,xs=[V.ref a]/\H a=some (.dK kvs)/\Q (.int kvs.length) H):=by
 intro pins s σ H xs us Q I r h
 obtain ⟨a,kvs,rfl,ha,q⟩:=h
 obtain ⟨u,rfl,ru⟩:=gu r
 cases ru
 exact Bq I (.inl ha) λt s' I' => ⟨.int kvs.length,H,I',⟨t,rfl⟩,q⟩
end
section
variable {κ:Type} [DecidableEq κ]
end
end L2
set_option maxHeartbeats 4000000
namespace L2
open PySem PySem.Spec PyProof.Rows
section
variable {X:Cx} {pins:List (Addr×Obj)} {σ:St} {H:Hp} {s:Shared} {h':Heap}
theorem Inv.turnedL {t':Nat} {fp:List Addr} (I:Inv X pins σ H s) (k:∀ b o,b∉fp->s.heap.get? b=some o->h'.get? b=some o) (hf:∀ b∈fp,cX X pins H b) :
  Inv X pins σ H { s with heap:=h',toks:=t' }:=by
 have nit:∀ b u,H b=some u->b∉fp:=λb u e z=>by
  have q:=(hf b z).1
  rw [q] at e
  cases e
 refine I.step (g' := s.gens) (d' := s.drawn) (ch:=fp) (λb hb=>?_) (λb o _ _ hc e _=>k b o hc e) (λb o _ _ hc e _=>⟨o.slots,k b o hc e⟩) (λ_ _ _ _ n=>n)
  (λb o hc e=>⟨o,k b o hc e⟩) (λ_ _ e=>e) (λ_ _ _ e=>e) (λb ps e=>⟨#[],by rw [e];simp⟩) (λm hm=>?_) (λb u e=>?_) I.bare
 ·obtain ⟨_,f1,_,f3,f4,f5⟩:=hf b hb
  exact ⟨f3,f1,f4,f5⟩
 ·obtain ⟨o,es,ep,ho,r⟩:=hm
  exact ⟨o,es,ep,k _ o (λz=>(hf _ z).2.1 rfl) ho,r⟩
 ·refine (I.hok b u e).stay (λc v hc q=>k c v ?_ q) (λ_ q=>q) λ_ _ q=>q
  rcases hc with z | z
  ·rw [z];exact nit b u e
  ·exact nit c _ z
end
section
variable {X:Cx}
end
def qe (x:Str):It:=⟨λi _=>i<x.cps.size,λi H v H' => H'=H/\∃ c,x.cps[i]? = some c/\v = .str ⟨#[c]⟩,λi _=>x.cps.size<=i⟩
theorem BN {P:Program} {w:World} {A:Around} (hh:A.handled=none) (it:Addr) (x:Str) (t:Tok) :
  Walks P w A it [it] [it] x.cps.size (SignAt x) (λi h=>h.IsStrIter it (strIterType x) x t i):=by
 cases ha:x.cps.all (· < 128) with
 | false =>
  have e:strIterType x = "str_iterator" := by simp [strIterType,ha]
  rw [e]
  exact Walks.strWide hh it x t
 | true =>
  have e:strIterType x = "str_ascii_iterator" := by simp [strIterType,ha]
  rw [e]
  exact Walks.strAscii hh it x t
theorem BO {P:Program} {w:World} {K:PySem.W.Frag} {y:Str} {py:Pos} (it:Addr) (x:Str) (t:Tok):eZ P w K (.Name y py) (qe x) [it] it (λi h=>h.IsStrIter it (strIterType x) x t i) where
 mem:=by simp
 obj:=λi h st b hb=>by
  have e:b=it:=by simpa using hb
  subst e
  obtain ⟨o,e,c,d⟩:=st
  exact ⟨o,e,λv z=>by rw [d] at z;cases z⟩
 keep:=λi h h' st k=>by
  obtain ⟨o,e,r⟩:=st
  exact ⟨o,k it (by simp) o e,r⟩
 item:=by
  intro X hP hw hK hc i pins s σ H E I hf st hg
  subst hP hw hK
  refine (BN (I.ok.hd hc) it x t).item i s _ _ hg st λv h1 tk hv st1 kk=>?_
  obtain ⟨c,u,hcp,rfl⟩:=hv
  have I1:Inv X pins σ H { s with heap:=h1,toks:=tk }:=I.turnedL (fp:=[it]) kk hf
  exact ⟨_,rfl,wpAny_pure ⟨.str ⟨#[c]⟩,H,I1,⟨u,rfl⟩,⟨rfl,c,hcp,rfl⟩,st1,λb hb=>(hf b hb).1⟩⟩
 done:=by
  intro X hP hw hK hc i pins s σ H E I hf st hg
  subst hP hw hK
  have hx:x.cps[i]? = none:=Array.getElem?_eq_none hg
  cases ha:x.cps.all (· < 128) with
  | false =>
   have e:strIterType x = "str_iterator" := by simp [strIterType,ha]
   rw [e] at st
   exact wpAny_pyNext_wide_end (I.ok.hd hc) st hx λh' eb=>⟨rfl,I.turnedL (fp:=[it]) (t' := s.toks) (λb o hb q=>eb b o (λz=>hb (by simp [z])) q) hf⟩
  | true =>
   have e:strIterType x = "str_ascii_iterator" := by simp [strIterType,ha]
   rw [e] at st
   exact wpAny_pyNext_ascii_end (I.ok.hd hc) st hx λh' eb=>⟨rfl,I.turnedL (fp:=[it]) (t' := s.toks) (λb o hb q=>eb b o (λz=>hb (by simp [z])) q) hf⟩
 self:=λA i s Q E st h=>by
  cases ha:x.cps.all (· < 128) with
  | false =>
   have e:strIterType x = "str_iterator" := by simp [strIterType,ha]
   rw [e] at st
   exact wpAny_pyIter_striter_wide st h
  | true =>
   have e:strIterType x = "str_ascii_iterator" := by simp [strIterType,ha]
   rw [e] at st
   exact wpAny_pyIter_striter_ascii st h
section
variable {X:Cx}
def qf (tl:TE):TI:=λσ H R=>tl σ H λx H1=>∃ t,x = .str t/\R (qe t) H1
theorem BP {l:Expr} {tl:TE} {y:Str} {py:Pos} (hl:PE X l tl):PI X (.Name y py) l (qf tl):=by
 intro pins s σ H R I h
 refine thn (hl pins s σ H _ I h) λv s1 Zz=>?_;obtain ⟨x,H1,I1,r1,q1⟩:=Zz
 obtain ⟨t,e,q⟩:=q1
 subst e
 obtain ⟨tk,rfl⟩:=r1
 refine wpAny_pyIter_strU ?_
 refine ⟨s1.heap.objs.size,[s1.heap.objs.size],_,_,H1,rfl,I1.kept (t' := s1.toks) λb o e=>Heap.get?_push_of_some _ e,BO _ t tk,⟨_,Heap.get?_push_size _ rfl,rfl,rfl⟩,λb hb=>?_,q⟩
 have e:b=s1.heap.objs.size:=by simpa using hb
 subst e
 exact I1.fpOk (Nat.le_refl _) (I1.hok.fresh (Nat.le_refl _))
end
def dB (env:Env):List (Str×NameKind)->List (Str×Addr)->List (Str×Addr)
 | [],acc=>acc
 | (n,k)::r,acc=>dB env r (if k = .free then (n,(env.cells.lookup n).getD 0)::acc else acc)
theorem BQ {env:Env} {scope:Scope} (h:∀ y∈scope.names,y.2 = .free->(env.cells.lookup y.1).isSome=true):closureFor scope env=pure (dB env scope.names []):=by
 have all:∀ (l:List (Str×NameKind)) (acc:List (Str×Addr)),(∀ y∈l,y.2 = .free->(env.cells.lookup y.1).isSome=true) ->
   (forIn l acc λ(x:Str×NameKind) (cs:List (Str×Addr))=>if (x.2 == NameKind.free)=true then (do let a <- cellOf env x.1;pure (ForInStep.yield ((x.1,a)::cs))) else (pure (ForInStep.yield cs):Sem _))=pure (dB env l acc):=by
  intro l
  induction l with
  | nil=>intro acc _;rfl
  | cons y r ih =>
   intro acc hl
   obtain ⟨n,k⟩:=y
   rw [List.forIn_cons]
   have hr:=λz hz=>hl z (List.mem_cons_of_mem _ hz)
   by_cases hk:k = .free
   ·subst hk
    obtain ⟨c,hc⟩:=Option.isSome_iff_exists.mp (hl (n,.free) List.mem_cons_self rfl)
    have e1:cellOf env n=pure c:=by
     simp only [cellOf]
     have hc':env.cells.lookup n=some c:=hc
     rw [hc']
    simp only [beq_self_eq_true,if_true,e1,pure_bind,dB]
    have hc':env.cells.lookup n=some c:=hc
    rw [hc']
    exact ih _ hr
   ·have hb:(k == NameKind.free)=false:=by simpa using hk
    simp only [hb,Bool.false_eq_true,if_false,pure_bind,dB,hk]
    exact ih _ hr
 unfold closureFor
 have q:=all scope.names [] h
 first
  | exact q
  | (simp only [bind_pure];exact q)
  | (rw [<- q];simp)
theorem qg {env:Env}:∀ {l:List (Str×NameKind)} {acc:List (Str×Addr)},(∀ y∈l,y.2 = .free->(env.cells.lookup y.1).isSome=true)->(∀ y c,acc.lookup y=some c->env.cells.lookup y=some c) ->
  ∀ y c,(dB env l acc).lookup y=some c->env.cells.lookup y=some c
 | [],_,_,h,y,c,e=>h y c e
 | (n,k)::r,acc,hl,h,y,c,e=>by
  refine qg (l:=r) (λz hz=>hl z (List.mem_cons_of_mem _ hz)) ?_ y c e
  intro y c e
  by_cases hk:k = .free
  ·rw [if_pos hk] at e
   rw [List.lookup_cons] at e
   cases hy:y == n with
   | true =>
    rw [hy] at e
    have e':y=n:=by simpa using hy
    obtain ⟨c',hc'⟩:=Option.isSome_iff_exists.mp (hl (n,k) List.mem_cons_self hk)
    have hc'':env.cells.lookup n=some c' := hc'
    rw [hc''] at e
    rw [e',hc'']
    exact e
   | false =>
    rw [hy] at e
    exact h y c e
  ·rw [if_neg hk] at e
   exact h y c e
theorem qh {env:Env}:∀ {l:List (Str×NameKind)} {acc:List (Str×Addr)} {y:Str},(y,NameKind.free)∈l\/(acc.lookup y).isSome=true->((dB env l acc).lookup y).isSome=true
 | [],_,_,h=>by
  rcases h with h | h
  ·cases h
  ·exact h
 | (n,k)::r,acc,y,h=>by
  refine qh (l:=r) ?_
  rcases h with h | h
  ·rcases List.mem_cons.mp h with e | e
   ·right
    cases e
    rw [if_pos rfl,List.lookup_cons]
    simp
   ·exact .inl e
  ·right
   by_cases hk:k = .free
   ·rw [if_pos hk,List.lookup_cons]
    cases hy:y == n with
    | true=>rfl
    | false=>exact h
   ·rw [if_neg hk];exact h
theorem kW {names:List (Str×NameKind)} {x:Str} {k:NameKind} (h:names.lookup x=some k):(x,k)∈names:=PySem.mem_of_lookup h
theorem mX {env:Env} {x:Str} {k:NameKind}:∀ {names:List (Str×NameKind)},(names.map λ(n,k)=>if (k == NameKind.free && env.scope.kind == .function && env.kindOf n == some .cell) then (n,NameKind.cell) else (n,k)).lookup x=some k ->
  names.lookup x=some k\/(k = .cell/\names.lookup x=some .free)
 | [],h=>by simp at h
 | (n,kk)::r,h=>by
  have ih:=@mX env x k r
  by_cases hc:(kk == NameKind.free && env.scope.kind == .function && env.kindOf n == some .cell)=true
  ·have hf:kk = .free:=by
    have q:=(Bool.and_eq_true _ _).mp ((Bool.and_eq_true _ _).mp hc).1
    simpa using q.1
   subst hf
   have h':List.lookup x ((n,NameKind.cell)::(r.map λ(n,k)=>if (k == NameKind.free && env.scope.kind == .function && env.kindOf n == some .cell) then (n,NameKind.cell) else (n,k)))=some k:=by
    have e:(λ(p:Str×NameKind)=>match p with | (n,k)=>if (k == NameKind.free && env.scope.kind == .function && env.kindOf n == some .cell)=true then (n,NameKind.cell) else (n,k)) (n,NameKind.free)=(n,NameKind.cell):=by
     show (if _ then _ else _)=_
     rw [if_pos hc]
    rw [List.map_cons] at h
    rw [<- e]
    exact h
   rw [List.lookup_cons] at h' ⊢
   cases hx:x == n with
   | true =>
    rw [hx] at h'
    right
    exact ⟨(Option.some.inj h').symm,rfl⟩
   | false =>
    rw [hx] at h'
    exact ih h'
  ·have h':List.lookup x ((n,kk)::(r.map λ(n,k)=>if (k == NameKind.free && env.scope.kind == .function && env.kindOf n == some .cell) then (n,NameKind.cell) else (n,k)))=some k:=by
    have e:(λ(p:Str×NameKind)=>match p with | (n,k)=>if (k == NameKind.free && env.scope.kind == .function && env.kindOf n == some .cell)=true then (n,NameKind.cell) else (n,k)) (n,kk)=(n,kk):=by
     show (if _ then _ else _)=_
     rw [if_neg hc]
    rw [List.map_cons] at h
    rw [<- e]
    exact h
   rw [List.lookup_cons] at h' ⊢
   cases hx:x == n with
   | true =>
    rw [hx] at h'
    exact .inl h'
   | false =>
    rw [hx] at h'
    exact ih h'
structure CompOk (X:Cx) (ns:List Str) (jf:List (Nat×Str)) (scope:Scope):Prop where
 hN:(ns++jf.map (·.2)).Nodup
 hx:∀ x∈ns,scope.names.lookup x=some .local
 hjf:∀ p∈jf,X.N[p.1]? = some p.2
 hjl:∀ p∈jf,scope.names.lookup p.2=some .free
 hkind:scope.kind = .function
 hcell:∀ y∈scope.names,y.2 ≠ .cell
 hfr:∀ y∈scope.names,y.2 = .free->X.env.kindOf y.1=some .cell\/X.env.kindOf y.1=some .free
 hnames:∀ y∈scope.names,y.2 = .local->scope.names.lookup y.1=some .local
def cF (X:Cx) (pins:List (Addr×Obj)) (ns:List Str) (jf:List (Nat×Str)) (scope:Scope) (cl:List (Str×Addr)) (s:Shared) (H:Hp) (fp:List Addr):Cx where
 prog:=X.prog
 w:=X.w
 K:=X.K
 mg:=X.mg
 base:=X.base
 A:=X.A
 N:=ns++jf.map (·.2)
 s₀:=s
 H₀:=H
 env:=compEnvC scope cl s.heap.objs.size X.env
 outer:=X.stack
 stack:=X.stack
 ex:=fp
 fn:=λ_=>false
 calm:=X.calm
 pn:=X.pn++pins
 xe:=λ_ _=>False
def eK (vs:List (Option V)) (js:List (Nat×Str)) (σ:St):St:=vs++js.map λj=>(σ[j.1]?).join
def gO (X:Cx) (ifs:List Expr) (t:TT):Prop :=
 ∀ (pins:List (Addr×Obj)) (s:Shared) (σ:St) (H:Hp) (Q:Bool->Hp->Prop),Inv X pins σ H s->t σ H Q ->
  wpAny (model X.prog X.w) X.A (forIn ifs true λc r=>if r=true then do let ok <- isTrue c X.env (eval c X.env);pure (ForInStep.yield ok) else pure (ForInStep.yield r)) (TP X pins σ Q) X.xe s
def qi:TT:=λ_ H Q=>Q true H
theorem BR {X:Cx}:gO X [] qi:=λpins s σ H Q I h=>wpAny_tests_nil ⟨H,I,h⟩
theorem BS {X:Cx} {c:Expr} {t:TT} (hc:PT X c t):gO X [c] t:=λpins s σ H Q I h=>wpAny_tests_one (hc pins s σ H Q I h)
def vv (k:Nat) (g:TG) (jf:List (Nat×Str)) (tc:TT) (te:TE) (σ:St) (Q:VK) (J:It) (H1:Hp):Prop:=∀ D,H1 D=none->∃ W:Nat->Nat->List V->Hp->Prop,(∃ m,W 0 m [] (aI H1 D (.lst []))) /\
 ∀ i m ys H2,W i m ys H2->H2 D=some (.lst ys)/\((J.stop i H2/\Q (.ref D) H2)\/(J.go i H2/\ys.length<sizeLine/\∀ x H3,J.yld i H2 x H3->∃ us:List V,us.length=k/\g x (eK (List.replicate k none) jf σ) H3 (λσ' H' => σ'=eK (us.map some) jf σ/\H'=H3)/\tc (eK (us.map some) jf σ) H3 λb H5 =>
  if b=true then te (eK (us.map some) jf σ) H5 λv H6=>H6 D=some (.lst ys)/\∃ m',m'<m/\W (i+1) m' (ys++[v]) (aI H6 D (.lst (ys++[v]))) else ∃ m',m'<m/\W (i+1) m' ys H5))
def kY (k:Nat) (g:TG) (jf:List (Nat×Str)) (wi:TI) (tc:TT) (te:TE):TE:=λσ H Q=>wi σ H (vv k g jf tc te σ Q)
section
variable {X:Cx} {pins:List (Addr×Obj)} {σ:St} {H:Hp} {s:Shared} {ns:List Str} {jf:List (Nat×Str)} {scope:Scope} {fp:List Addr}
theorem CompOk.pg {cl:List (Str×Addr)} {x:Str} {p:Pos} (C:CompOk X ns jf scope) (i:Nat) (h:(ns++jf.map (·.2))[i]? = some x) (m:x∈ns):PG (cF X pins ns jf scope cl s H fp) (.Name x p) (j8 i) :=
 uJ C.hN h (.inl (lookup_relabel_local (C.hx x m))) (.inr (lookup_relabel_local (C.hx x m)))
theorem Inv.block {h1:Heap} {tk:Nat} (I:Inv X pins σ H s) (hf:∀ b∈fp,cX X pins H b) (hlt:∀ b∈fp,b<s.heap.objs.size) (C:CompOk X ns jf scope)
  (hn:h1.Ns s.heap.objs.size (λ_=>none)) (hk:∀ b o,s.heap.get? b=some o->h1.get? b=some o) :
  Inv (cF X pins ns jf scope (dB X.env scope.names []) s H fp) [] (eK (List.replicate ns.length none) jf σ) H { s with heap:=h1,toks:=tk }:=by
 obtain ⟨_,_,hjf,hjl,hkind,hcell,hfr,_⟩:=C
 have hsome:∀ y∈scope.names,y.2 = .free->(X.env.cells.lookup y.1).isSome=true:=λy hy hyf=>Option.isSome_iff_exists.mpr (I.ok.has y.1 (hfr y hy hyf))
 have sub:∀ y c,(dB X.env scope.names []).lookup y=some c->X.env.cells.lookup y=some c:=qg hsome (λy c e=>by simp at e)
 have hsz:=I.sz
 have inE:∀ b,b∈(cF X pins ns jf scope (dB X.env scope.names []) s H fp).ex->b∈fp:=λb z=>z
 have stk:∀ b∈c9 X.stack,b<s.heap.objs.size:=λb hb=>by
  obtain ⟨_,o,ho,_⟩:=I.stack.mem hb
  exact Heap.lt_size ho
 refine ⟨⟨I.ok.mod,hkind,I.ok.glob,I.ok.blt,Nat.le_refl _,λy z c e1 e2=>I.ok.inj y z c (sub y c e1) (sub z c e2),λy hy=>?_,λy c hfn _=>(by cases hfn),I.ok.hd,I.ok.frames,.inl rfl,λb hb=>?_,λb o e=>I.bs b o e,Nat.le_trans I.ok.bsz hsz,λb o e z=>?_,λb hb z=>?_,I.stack,I.stkFree⟩,
  rfl,I.bare,Un.kept hk,⟨_,hn,λi y v e1 e2 e3=>?_⟩,λy c e=>?_,I.hok.fresh (Nat.le_refl _),λy c e=>I.freeC y c (sub y c e),λp hp=>?_,I.hok.kept hk,?_⟩
 ·have hy':(relabel scope X.env).names.lookup y=some .cell\/(relabel scope X.env).names.lookup y=some .free:=hy
  have mem:(y,NameKind.free)∈scope.names:=by
   rcases hy' with q | q
   ·rcases mX (env:=X.env) q with z | z
    ·exact absurd rfl (hcell _ (kW z))
    ·exact kW z.2
   ·rcases mX (env:=X.env) q with z | z
    ·exact kW z
    ·exact kW z.2
  exact Option.isSome_iff_exists.mp (qh (.inl mem))
 ·exact ⟨Nat.ne_of_lt (hlt b hb),λy c e=>(hf b hb).2.2.2.2.1 y c (sub y c e)⟩
 ·rcases (hf b z).2.2.2.1 with q | q
  ·exact I.ok.noex b o e q
  ·exact absurd (Nat.lt_of_lt_of_le (Heap.lt_size e) (Nat.le_trans I.ok.bsz q)) (Nat.lt_irrefl _)
 ·rcases List.mem_cons.mp (I.stkSub b z) with q | q
  ·exact (hf b hb).2.1 q
  ·exact (hf b hb).2.2.1 q
 ·have e1':(ns++jf.map (·.2))[i]? = some y:=e1
  unfold eK at e2
  by_cases hi:i<ns.length
  ·rw [List.getElem?_append_left (by rw [List.length_replicate];exact hi),List.getElem?_replicate,if_pos hi] at e2;cases e2
  ·have hi:=Nat.le_of_not_lt hi
   rw [List.getElem?_append_right hi,List.getElem?_map] at e1'
   rw [List.getElem?_append_right (by rw [List.length_replicate];exact hi),List.length_replicate,List.getElem?_map] at e2
   cases q:jf[i-ns.length]? with
   | none=>rw [q] at e2;cases e2
   | some p =>
    rw [q] at e1' e2
    have ey:p.2=y:=Option.some.inj e1'
    have ev:(σ[p.1]?).join=some v:=Option.some.inj e2
    have hp:p∈jf:=List.mem_of_getElem? q
    have eσ:σ[p.1]? = some (some v):=by
     cases z:σ[p.1]? with
     | none=>rw [z] at ev;cases ev
     | some r=>rw [z] at ev;rw [show r=some v from ev]
    have hfree:scope.names.lookup y=some .free:=by rw [<- ey];exact hjl p hp
    have mem:=kW hfree
    have kX:=hfr _ mem rfl
    obtain ⟨m,hnX,hl⟩:=I.loc
    obtain ⟨u,ru,lk⟩:=hl p.1 y v (by rw [<- ey];exact hjf p hp) eσ (by
     rcases kX with z | z
     ·exact .inr (.inl z)
     ·exact .inr (.inr z))
    refine ⟨u,ru,.inr ⟨?_,?_⟩⟩
    ·have e3':fT (relabel scope X.env) y:=e3
     rcases e3' with z | z | z
     ·exfalso
      rcases mX (env:=X.env) z with q | q
      ·rw [hfree] at q;cases q
      ·cases q.1
     ·exact .inl z
     ·exact .inr z
    ·rcases lk with ⟨z,_⟩ | ⟨_,c,hc,hcell'⟩
     ·exfalso
      rcases kX with q | q
      ·rw [show X.env.kindOf y=some .cell from q] at z;cases z
      ·rw [show X.env.kindOf y=some .free from q] at z;cases z
     ·obtain ⟨c',hc'⟩:=Option.isSome_iff_exists.mp (qh (env:=X.env) (acc:=[]) (.inl mem))
      have e:=sub y c' hc'
      rw [hc] at e
      cases e
      obtain ⟨o,ho,hd⟩:=hcell'
      exact ⟨c,hc',o,hk c o ho,hd⟩
 ·obtain ⟨v,o,ho,hd⟩:=I.cell y c (sub y c e)
  exact ⟨v,o,hk c o ho,hd⟩
 ·have hp':p∈X.pn++pins:=by simpa [cF] using hp
  obtain ⟨e,n,ne,nf,d⟩:=I.pin p hp'
  refine ⟨hk _ _ e,n,Nat.ne_of_lt (Heap.lt_size e),λz=>?_,d⟩
  rcases List.mem_cons.mp (I.stkSub p.1 z) with q | q
  ·exact ne q
  ·exact nf q
 ·unfold eK
  show _=(ns++jf.map (·.2)).length
  rw [List.length_append,List.length_append,List.length_replicate,List.length_map,List.length_map]
end
theorem HOk.sameBut {P:Program} {w:World} {H:Hp} {h h':Heap} {C:Addr} (ok:HOk P w H h) (hn:H C=none) (hs:Heap.SameBut C h h'):HOk P w H h' := λb u e=>by
 refine (ok b u e).stay (λc v hc q=>(hs.2 c ?_).trans q) (λ_ q=>q) λ_ _ q=>q
 rcases hc with z | z
 ·rw [z];exact eV e hn
 ·exact eV z hn
theorem Un.sameBut {fs ex:List Addr} {H H':Hp} {h h1 h2:Heap} {C:Addr} (u:Un fs ex H H' h h1) (hC:h.get? C=none) (hs:Heap.SameBut C h1 h2):Un fs ex H H' h h2:=by
 have ne:∀ b o,h.get? b=some o->b≠C:=λb o e z=>by rw [z,hC] at e;cases e
 refine ⟨λb o e n hb hx=>(hs.2 b (ne b o e)).trans (u.keep b o e n hb hx),λb o e n hb hx=>?_,u.free,λb o e hx=>?_,u.tups,u.frzs,u.tbls⟩
 ·obtain ⟨sl,q⟩:=u.slot b o e n hb hx
  exact ⟨sl,(hs.2 b (ne b o e)).trans q⟩
 ·obtain ⟨o',q⟩:=u.there b o e hx
  exact ⟨o',(hs.2 b (ne b o e)).trans q⟩
theorem BU {prog:Program} {w:World} {A:Around} {R:Result->Shared->Prop} {s:Shared} {elt target iter:Expr} {ifs:List Expr} {scope:Scope} {pos:Pos} {it acc:Value} {env:Env} (I:Nat->Shared->Prop)
  (turn:∀ n s,I n s->wpAny (model prog w) A (pyNext it) (λr s₁=>match r with
   | none=>R (.ok .next) s₁
   | some v=>wpAny (model prog w) A (letOwnedTupleGo target it v) (λ_ s₂=>wpAny (model prog w) A (assign target env v) (λ_ s₃ =>
     wpAny (model prog w) A (forIn ifs true λc r=>if r=true then do let ok <- isTrue c env (eval c env);pure (ForInStep.yield ok) else pure (ForInStep.yield r)) (λok s₄ =>
      if ok=true then wpAny (model prog w) A (eval elt env) (λx s₅=>wpAny (model prog w) A (call (.builtin "list.append") [acc,x]) (λ_ s₆=>∃ m,m<n/\I m s₆) (λ_ _=>False) s₅) (λ_ _=>False) s₄
      else ∃ m,m<n/\I m s₄) (λ_ _=>False) s₃) (λ_ _=>False) s₂) (λ_ _=>False) s₁) (λ_ _=>False) s)
  (n:Nat) (h:I n s):codeAny (model prog w) A (.compLoop (.ListComp elt [⟨target,iter,ifs,0⟩] scope pos) 0 it acc env) R s:=by
 refine codeAny_loop rfl I (λn s hI=>?_) n h
 show wpAny _ A ((compTurn (.ListComp elt [⟨target,iter,ifs,0⟩] scope pos) 0 it acc env).onRaise (λx=>do noteFrame x env;theTreesLotGoes x)) _ _ s
 refine wpAny_noted ?_
 rw [compTurn_list]
 refine wpAny_bind (wpAny_standAt (wpAny_bind (wpAny_mono (turn n s hI) (λr s₁ h₁=>?_) λ_ _ z=>z.elim)))
 cases r with
 | none=>exact wpAny_pure h₁
 | some v =>
  refine wpAny_bind (wpAny_mono h₁ (λ_ s₂ h₂=>?_) λ_ _ z=>z.elim)
  refine wpAny_bind (wpAny_mono h₂ (λ_ s₃ h₃=>wpAny_bind (wpAny_mono h₃ (λok s₄ h₄=>?_) λ_ _ z=>z.elim)) λ_ _ z=>z.elim)
  cases ok with
  | false=>exact wpAny_pure ⟨rfl,h₄⟩
  | true =>
   exact wpAny_bind (wpAny_bind (wpAny_mono h₄ (λx s₅ h₅=>wpAny_bind (wpAny_mono h₅ (λ_ s₆ h₆=>wpAny_pure (wpAny_pure ⟨rfl,h₆⟩)) λ_ _ z=>z.elim)) λ_ _ z=>z.elim))
section
variable {X:Cx} {ns:List Str} {tg:Expr} {g:TG} {jf:List (Nat×Str)} {scope:Scope} {iter elt:Expr} {ifs:List Expr} {pos:Pos} {wi:TI} {tc:TT} {te:TE}
theorem vw (hcalm:X.calm=true) (hg:∀ pins cl s H fp,PG (cF X pins ns jf scope cl s H fp) tg g) (hi:PI X tg iter wi) (hc:∀ pins cl s H fp,gO (cF X pins ns jf scope cl s H fp) ifs tc) (he:∀ pins cl s H fp,PE (cF X pins ns jf scope cl s H fp) elt te) (C:CompOk X ns jf scope) {use:Option (Value->Sem Unit)} {Qf:Value->Shared->Prop} {cpos:Pos}
  {pins:List (Addr×Obj)} {σ:St} {H:Hp} {s:Shared} {Q:VK} (I:Inv X pins σ H s) (h:kY ns.length g jf wi tc te σ H Q)
  (fin:∀ D C s6 H6 m6,Inv X pins σ H6 s6->Q (.ref D) H6->cX X pins H6 C->s6.heap.Ns C m6->compPost (model X.prog X.w) X.A X.xe use Qf (.ref D) C (.ok .next) s6) (hs:∀ x,foldedSetIterable iter X.env x=pure x) :
  wpAny (model X.prog X.w) X.A (comprehension (.ListComp elt [⟨tg,iter,ifs,0⟩] scope pos) scope X.env cpos (newList []) false (eval iter X.env) use) Qf X.xe s:=by
 obtain ⟨_,_,_,_,hkind,hcell,hfr,hnames⟩:=id C
 have hsome:∀ y∈scope.names,y.2 = .free->(X.env.cells.lookup y.1).isSome=true:=λy hy hyf=>Option.isSome_iff_exists.mpr (I.ok.has y.1 (hfr y hy hyf))
 refine wpAny_comprehension_free (use:=use) rfl hs (BQ hsome) hkind hnames (thn (hi pins s σ H _ I h) λxv s1 h1=>thn h1 λitv s2 h2=>?_)
 obtain ⟨it,fp,tn,J,H2,e,I2,T,st2,f2,h⟩:=h2
 subst e
 refine wpAny_newObj_type (wpAny_newFunctionEnv hcell (by intro y hy;simp at hy) (λh₁ hns₁ hsb₁=>?_) hkind)
 have hD0:H2 s2.heap.objs.size=none:=I2.hok.fresh (Nat.le_refl _)
 obtain ⟨W,⟨m0,w0⟩,step⟩:=h s2.heap.objs.size hD0
 dsimp only at hns₁ hsb₁ ⊢
 have I3:Inv X pins σ (aI H2 s2.heap.objs.size (.lst [])) { s2 with heap:=s2.heap.push { cls:=.type "list",dict:=none,data:=.seq ([]:List Value).toArray } } :=
  I2.laid (t' := s2.toks) (λb u q=>Heap.get?_push_of_some _ q) (Nat.le_refl _) ⟨Nat.zero_le _,[],0,.nil,Heap.get?_push_size _ rfl⟩
 generalize hH3:s2.heap.push { cls:=.type "list",dict:=none,data:=.seq ([]:List Value).toArray }=hp3 at hns₁ hsb₁ I3 ⊢
 have hsz3:hp3.objs.size=s2.heap.objs.size+1:=by rw [<- hH3,Heap.size_push]
 have k23:∀ b o,s2.heap.get? b=some o->hp3.get? b=some o:=λb o q=>by rw [<- hH3];exact Heap.get?_push_of_some _ q
 have flt:∀ b∈fp,b<s2.heap.objs.size:=λb hb=>by
  obtain ⟨o,q,_⟩:=T.obj 0 _ st2 b hb
  exact Heap.lt_size q
 have f3:∀ b∈fp,cX X pins (aI H2 s2.heap.objs.size (.lst [])) b:=λb hb=>by
  obtain ⟨g0,g⟩:=f2 b hb
  exact ⟨by rw [bg (Nat.ne_of_lt (flt b hb))];exact g0,g⟩
 have kC:∀ b o,hp3.get? b=some o->h₁.get? b=some o:=λb o q=>(hsb₁.2 b (Nat.ne_of_lt (Heap.lt_size q))).trans (Heap.get?_push_of_some _ q)
 have B0:=I3.block (ns:=ns) (jf:=jf) (scope:=scope) (fp:=fp) (h1:=h₁) (tk:=s2.toks+([]:List (Str×Value)).length) f3 (λb hb=>by show b<hp3.objs.size;rw [hsz3];exact Nat.lt_succ_of_lt (flt b hb)) C (by simpa using hns₁) kC
 have st4:tn 0 h₁:=T.keep _ _ _ st2 λb _ o q=>kC b o (k23 b o q)
 have w0' := w0
 have stat:∀ {H':Hp},(∀ b∈fp,H' b=none)->∀ b∈fp,cX (cF X pins ns jf scope (dB X.env scope.names []) { s2 with heap:=hp3 } (aI H2 s2.heap.objs.size (.lst [])) fp) [] H' b:=λhn b hb=>by
  obtain ⟨_,g1,g2,g3,g4,g5⟩:=f2 b hb
  refine ⟨hn b hb,Nat.ne_of_lt (by show b<hp3.objs.size;rw [hsz3];exact Nat.lt_succ_of_lt (flt b hb)),λz=>?_,.inl hb,λy c q=>g4 y c (qg hsome (λy c e=>by simp at e) y c q),λp hp=>g5 p (by simpa [cF] using hp)⟩
  rcases List.mem_cons.mp (I2.stkSub b z) with q | q
  ·exact g1 q
  ·exact g2 q
 have loop:codeAny (model X.prog X.w) X.A (.compLoop (.ListComp elt [⟨tg,iter,ifs,0⟩] scope pos) 0 (.ref it) (.ref s2.heap.objs.size) (compEnvC scope (dB X.env scope.names []) hp3.objs.size X.env))
   (compPost (model X.prog X.w) X.A X.xe use Qf (.ref s2.heap.objs.size) hp3.objs.size) { s2 with heap:=h₁,toks:=s2.toks+([]:List (Str×Value)).length }:=by
  refine BU (λn s' => ∃ i ys H',Inv (cF X pins ns jf scope (dB X.env scope.names []) { s2 with heap:=hp3 } (aI H2 s2.heap.objs.size (.lst [])) fp) [] (eK (List.replicate ns.length none) jf σ) H' s'/\tn i s'.heap/\(∀ b∈fp,H' b=none)/\W i n ys H') ?_ m0
   ⟨0,[],_,B0,st4,λb hb=>(f3 b hb).1,w0⟩
  rintro n s5 ⟨i,ys,H5,I5,st5,fr5,w5⟩
  obtain ⟨hD5,alt⟩:=step i n ys H5 w5
  rcases alt with ⟨stop,q5⟩ | ⟨go,hlen,next⟩
  ·refine wpAny_mono (T.done (cF X pins ns jf scope (dB X.env scope.names []) { s2 with heap:=hp3 } (aI H2 s2.heap.objs.size (.lst [])) fp) rfl rfl rfl hcalm i [] s5 _ H5 (λ_ _=>False) I5 (stat fr5) st5 stop) (λr s6 Zz=>?_) λ_ _ z=>z;obtain ⟨hr,I6⟩:=Zz
   subst hr
   obtain ⟨m6,hn6,_⟩:=id I6.loc
   refine fin _ _ s6 H5 m6 ?_ q5 (I3.fpOk (Nat.le_refl _) I6.free) hn6
   refine I3.call' (ch:=fp) I6.os I6.base I6.hok I6.bare (λb hb=>?_)
   obtain ⟨_,g1,g2,g3,g4,g5⟩:=f2 b hb
   exact ⟨g3,g1,g4,g5⟩
  ·refine wpAny_mono (T.item (cF X pins ns jf scope (dB X.env scope.names []) { s2 with heap:=hp3 } (aI H2 s2.heap.objs.size (.lst [])) fp) rfl rfl rfl hcalm i [] s5 _ H5 (λ_ _=>False) I5 (stat fr5) st5 go) (λr s6 Zz=>?_) λ_ _ z=>z;obtain ⟨u,hr,h6⟩:=Zz
   subst hr
   refine wpAny_mono h6 (λ_ s7 Zz=>?_) λ_ _ z=>z;obtain ⟨x,H7,I7,r7,y7,st7,fr7⟩:=Zz
   have I7' := I7.pinned (stat fr7) (T.obj _ _ st7)
   obtain ⟨us,hu,gq,q8⟩:=next x H7 y7
   refine wpAny_mono (hg pins _ _ _ fp ([]++gL fp s7.heap) s7 _ H7 x _ _ I7' r7 gq) (λ_ s8 Zz=>?_) λ_ _ z=>z;obtain ⟨σ8,H8,I8,e8,e8'⟩:=Zz
   subst e8 e8'
   have I8':Inv (cF X pins ns jf scope (dB X.env scope.names []) { s2 with heap:=hp3 } (aI H2 s2.heap.objs.size (.lst [])) fp) ([]++gL fp s7.heap) (eK (us.map some) jf σ) H8 s8:=I8
   have again:∀ {s9:Shared} {H9:Hp} {zs:List V} {m':Nat},Inv (cF X pins ns jf scope (dB X.env scope.names []) { s2 with heap:=hp3 } (aI H2 s2.heap.objs.size (.lst [])) fp) ([]++gL fp s7.heap) (eK (us.map some) jf σ) H9 s9->m'<n->W (i+1) m' zs H9 ->
     ∃ m,m<n/\∃ i ys H',Inv (cF X pins ns jf scope (dB X.env scope.names []) { s2 with heap:=hp3 } (aI H2 s2.heap.objs.size (.lst [])) fp) [] (eK (List.replicate ns.length none) jf σ) H' s9/\tn i s9.heap/\(∀ b∈fp,H' b=none)/\W i m ys H' := λ{s9 H9 zs m'} I9 hm w9=>by
    refine ⟨m',hm,i+1,zs,H9,I9.unpinned.weak (by simp [eK,hu]) (λj v e=>?_),T.keep _ _ _ st7 λb hb o e=>(I9.pin (b,o) (List.mem_append_right _ (List.mem_append_right _ (mJ hb e)))).1,λb hb=>?_,w9⟩
    ·unfold eK at e ⊢
     by_cases hj:j<ns.length
     ·rw [List.getElem?_append_left (by rw [List.length_replicate];exact hj),List.getElem?_replicate,if_pos hj] at e;cases e
     ·have hj:=Nat.le_of_not_lt hj
      rw [List.getElem?_append_right (by rw [List.length_replicate];exact hj),List.length_replicate] at e
      rw [List.getElem?_append_right (by rw [List.length_map,hu];exact hj),List.length_map,hu]
      exact e
    ·obtain ⟨o,e,d⟩:=T.obj _ _ st7 b hb
     exact (I9.pin (b,o) (List.mem_append_right _ (List.mem_append_right _ (mJ hb e)))).2.1
   refine wpAny_mono (hc pins _ _ _ fp ([]++gL fp s7.heap) s8 _ H8 _ I8' q8) (λok s9 Zz=>?_) λ_ _ z=>z;obtain ⟨H9,I9,q9⟩:=Zz
   cases ok with
   | false =>
    rw [if_neg Bool.false_ne_true] at q9 ⊢
    obtain ⟨m',hm,w9⟩:=q9
    exact again I9 hm w9
   | true =>
    rw [if_pos rfl] at q9 ⊢
    refine wpAny_mono (he pins _ _ _ fp ([]++gL fp s7.heap) s9 _ H9 _ I9 q9) (λy s10 Zz=>?_) λ_ _ z=>z;obtain ⟨v,H10,I10,r10,hD10,m',hm,w10⟩:=Zz
    refine wpAny_mono (vj (X:=(cF X pins ns jf scope (dB X.env scope.names []) { s2 with heap:=hp3 } (aI H2 s2.heap.objs.size (.lst [])) fp)) ([]++gL fp s7.heap) s10 (eK (us.map some) jf σ) H10 (.ref s2.heap.objs.size) [v] (.ref s2.heap.objs.size) [y] (λ_ H' => H'=aI H10 s2.heap.objs.size (.lst (ys++[v]))) I10 rfl (.cons r10 .nil) ⟨_,ys,v,rfl,rfl,hD10,hlen,rfl⟩)
     (λ_ s11 ⟨_,H11,I11,_,e11⟩=>?_) λ_ _ z=>z
    subst e11
    exact again I11 hm w10
 exact codeAny_compStart_list loop (T.self _ 0 _ _ _ st4 loop)
theorem BV (hcalm:X.calm=true) (hg:∀ pins cl s H fp,PG (cF X pins ns jf scope cl s H fp) tg g) (hi:PI X tg iter wi) (hc:∀ pins cl s H fp,gO (cF X pins ns jf scope cl s H fp) ifs tc) (he:∀ pins cl s H fp,PE (cF X pins ns jf scope cl s H fp) elt te) (C:CompOk X ns jf scope) (hs:∀ x,foldedSetIterable iter X.env x=pure x:=by intro _;rfl) :
  PE X (.ListComp elt [⟨tg,iter,ifs,0⟩] scope pos) (kY ns.length g jf wi tc te):=by
 intro pins s σ H Q I h
 rw [eval_ListComp]
 refine vw hcalm hg hi hc he C (use:=none) (Qf:=EP X pins σ Q) I h (λD C s6 H6 m6 I6 q6 f6 n6=>?_) hs
 refine ⟨m6,n6,λh' hs' => ⟨.ref D,H6,?_,rfl,q6⟩⟩
 exact I6.turnedL (fp:=[C]) (t' := s6.toks) (λb o hb q=>(hs'.2 b (λz=>hb (by simp [z]))).trans q) (λb hb=>by
  have e:b=C:=by simpa using hb
  subst e
  exact f6)
theorem vx {y:Str} {py spos:Pos} {i:Nat} (hcalm:X.calm=true) (hg:∀ pins cl s H fp,PG (cF X pins ns jf scope cl s H fp) tg g) (hi:PI X tg iter wi) (hc:∀ pins cl s H fp,gO (cF X pins ns jf scope cl s H fp) ifs tc) (he:∀ pins cl s H fp,PE (cF X pins ns jf scope cl s H fp) elt te) (C:CompOk X ns jf scope) (hNX:X.N.Nodup) (hi':X.N[i]? = some y) (hy:X.env.scope.names.lookup y=some .local)
  (hsw:swapsWith (.ListComp elt [⟨tg,iter,ifs,0⟩] scope pos) (some (.Name y py)) spos.line X.env=pure true) (hs:∀ x,foldedSetIterable iter X.env x=pure x:=by intro _;rfl) :
  PS X (.Assign [.Name y py] (.ListComp elt [⟨tg,iter,ifs,0⟩] scope pos) spos) (hE (kY ns.length g jf wi tc te) (j8 i)):=by
 intro pins s σ H D I h
 rw [exec_Assign_Name_used _ _ _ _ hsw]
 refine wpAny_bind (wpAny_standAt (wpAny_bind ?_))
 show wpAny _ X.A (do let _ <- comprehension (.ListComp elt [⟨tg,iter,ifs,0⟩] scope pos) scope X.env _ (newList []) false (eval iter X.env) (some (assign (.Name y py) X.env))) _ _ s
 refine wpAny_bind (wpAny_mono (vw (Qf:=λ_ s' => SP X pins D .next s') hcalm hg hi hc he C (use:=some (assign (.Name y py) X.env)) I h (λD' C s6 H6 m6 I6 q6 f6 n6=>?_) hs) (λ_ s' hq=>wpAny_pure (wpAny_pure hq)) λ_ _ e=>e)
 refine wpAny_assign_Name (uH I6 hNX hi' (.inl hy) (v:=.ref D') rfl (λs7 I7 Zz=>?_) (.inr hy));obtain ⟨a,hsa,ha⟩:=Zz
 have ne:C≠a:=by
  rcases ha with z | z
  ·rw [z];exact f6.2.1
  ·exact λq=>f6.2.2.2.2.1 y a z q.symm
 refine ⟨m6,n6.sameBut hsa ne,λh' hs' => ⟨_,H6,?_,q6⟩⟩
 exact I7.turnedL (fp:=[C]) (t' := s7.toks) (λb o hb q=>(hs'.2 b (λz=>hb (by simp [z]))).trans q) (λb hb=>by
  have e:b=C:=by simpa using hb
  subst e
  exact f6)
end
end L2
namespace L2
open PySem PySem.Spec PyProof.Rows
section
variable {X:Cx} {a b e:Expr} {ta tb:TE} {p p2 pos:Pos}
theorem BW {c:V} {cv:Value} (rc:∀ u,RelV c u->u=cv) :
  CallR X (.builtin "isinstance") (λxs H Q=>∃ x t r,xs=[x,c]/\cE X.K H x t/\PySem.W.kitOne X.K t cv=some r/\Q (.bl r) H):=by
 intro pins s σ H xs us Q I r h
 obtain ⟨x,t,k,rfl,ty,hk,q⟩:=h
 obtain ⟨u,w',rfl,rx,ry⟩:=ka r
 obtain rfl:=rc _ ry
 exact AJ I rx ty hk λtk=>⟨.bl k,H,I.tok _,rfl,q⟩
theorem qj (n:String):∀ u,RelV (.ty n) u->u=Value.type n:=λ_ r=>r
theorem mY (c:Addr):∀ u,RelV (.ref c) u->u=Value.ref c:=λ_ r=>r
theorem BX:OpR X (compareOp .LtE) (λx y H Q=>∃ i j,x = .str i/\y = .str j/\Q (.bl (!decide (j.cps.toList<i.cps.toList))) H):=by
 intro pins s σ H x y v u Q I rx ry h
 obtain ⟨i,j,rfl,rfl,q⟩:=h
 obtain ⟨t,rfl⟩:=rx
 obtain ⟨t',rfl⟩:=ry
 exact PySem.P.le_str (bU I q rfl)
theorem BY:fV X "str.count" (λx vs H Q=>∃ z y,x = .str z/\vs=[.str y]/\Q (.int ((Builtin.Str.occurrences z y 0 z.length (z.length+1)).length:Nat)) H):=by
 intro pins s σ H x vs v us Q I rx rv h
 obtain ⟨z,y,rfl,rfl,q⟩:=h
 obtain ⟨t,rfl⟩:=rx
 obtain ⟨u,rfl,t',rfl⟩:=gu rv
 exact call_gives F.slot_str_count (typeIs_str s z t) F.entry_str_count (F.args_str_count_2 _ _) (gives_str_count z y t t') ⟨.int _,H,I.tok _,⟨_,rfl⟩,q⟩
theorem BZ (hc:X.calm=true):CallR X (.builtin "all") (λxs H Q=>∃ (a:Addr) (bs:List Bool),xs=[.ref a]/\SqL X.K H a (bs.map V.bl)/\Q (.bl (bs.all id)) H):=by
 intro pins s σ H xs us Q I r h
 obtain ⟨l,bs,rfl,hq,q⟩:=h
 obtain ⟨u,rfl,rx⟩:=gu r
 cases rx
 obtain ⟨its,rv,pl,hz⟩:=I.list hq
 have hlt:l<s.heap.objs.size:=by obtain ⟨_,_,e,_⟩:=pl;exact Heap.lt_size e
 have hlen:its.length=bs.length:=by rw [<- rv.length,List.length_map]
 refine call_all_walk (wpAny_pyIter_list pl.isList ?_)
 refine ⟨s.heap.objs.size,[s.heap.objs.size,l],[s.heap.objs.size],its.toArray.size,_,_,λi=>(bs[i]?).getD true,rfl,Walks.list (A:=X.A.in1) (I.ok.hd hc) _ l (Nat.ne_of_lt hlt) its.toArray,
  ⟨⟨_,Heap.get?_push_size _ rfl,rfl,rfl⟩,pl.isList.push _⟩,λi v s' Q' E' hP hQ=>?_,λh' tk hk=>?_⟩
 ·have hP':its[i]? = some v:=by simpa using hP
  have hi:i<its.length:=(List.getElem?_eq_some_iff.mp hP').1
  have hb:(bs.map V.bl)[i]? = some (V.bl (bs[i]'(by omega))):=by rw [List.getElem?_map,List.getElem?_eq_getElem (by omega)];rfl
  obtain ⟨u,hu,ru⟩:=rv.get hb
  rw [hP'] at hu
  cases hu
  cases ru
  have e:(bs[i]?).getD true=bs[i]'(by omega):=by rw [List.getElem?_eq_getElem (by omega)];rfl
  have hQ2:Q' ((bs[i]?).getD true) s' := hQ
  rw [e] at hQ2
  exact wpAny_truthy_bool hQ2
 ·have e:((List.range its.toArray.size).all λi=>(bs[i]?).getD true)=bs.all id:=by
   rw [List.size_toArray,hlen,Bool.eq_iff_iff,List.all_eq_true,List.all_eq_true]
   constructor
   ·intro z c hc'
    obtain ⟨i,hi,rfl⟩:=List.getElem_of_mem hc'
    have:=z i (List.mem_range.mpr hi)
    rw [List.getElem?_eq_getElem hi] at this
    exact this
   ·intro z i hi
    have hi' := List.mem_range.mp hi
    rw [List.getElem?_eq_getElem hi']
    exact z _ (List.getElem_mem hi')
  rw [e]
  refine ⟨.bl _,H,I.kept (t' := tk) λb o q=>?_,rfl,q⟩
  exact hk b o (λhm=>by rw [List.mem_singleton.mp hm] at q;exact Nat.lt_irrefl _ (Heap.lt_size q)) (Heap.get?_push_of_some _ q)
end
end L2
namespace L2
open PySem PySem.Spec PyProof.Rows
section
variable {X:Cx}
theorem B3:OpR X (binaryOp .FloorDiv) (rI (λ_ j=>0<j/\j<2 ^ 200) λi j=>.int (i / j)):=mK λi j _ _ _ _ _ hc q=>by
 obtain ⟨h1,h2⟩:=hc
 refine floordiv_int (by omega) (by rw [Int.fdiv_eq_ediv_of_nonneg i (by omega)];exact q) (.inl (PyProof.noPylong_of_log2 ?_))
 have h3:j.natAbs<2 ^ 200:=by omega
 have h4:j.natAbs.log2<200:=(Nat.log2_lt (by omega)).mpr h3
 omega
theorem B4:OpR X (binaryOp .Mult) (rI IntMulOk λi j=>.int (i*j)):=mK λ_ _ _ _ _ _ _ hc q=>mul_int q hc
end
end L2
namespace L2
open PySem PySem.Spec PyProof.Rows
theorem vy:bootBuiltins "int" = some (.type "int"):=by decide +kernel
theorem B5:bootBuiltins "bool" = some (.type "bool"):=by decide +kernel
theorem B6:bootBuiltins "str" = some (.type "str"):=by decide +kernel
end L2
namespace L2
open PySem PySem.Spec PyProof.Rows
open Sem (wp)
def DkH (h h':Heap):Prop:=∀ b o,h.get? b=some o->∃ o',h'.get? b=some o'/\o'.dict=o.dict
theorem DkH.refl (h:Heap):DkH h h:=λ_ o e=>⟨o,e,rfl⟩
def cB {α:Type} (m:Sem α):Prop:=∀ (M:Model) (Γ:PySem.Ctx) (Q:α->Pos->Shared->Prop) (E:Value->Pos->Shared->Prop) (p:Pos) (s:Shared) (h0:Heap),DkH h0 s.heap->wp M Γ m Q E p s->wp M Γ m (λa p' s' => Q a p' s'/\DkH h0 s'.heap) E p s
section
variable {α β:Type}
theorem cH {m:Sem α} {f:α->Sem β} (h:cB m) (g:∀ a,cB (f a)):cB (m >>= f):=λM Γ Q E p s h0 d q=>by
 rw [Sem.wp_bind'] at q ⊢
 exact Sem.wp_mono M Γ m (λa p' s' z=>g a M Γ _ _ p' s' h0 z.2 z.1) (λ_ _ _ x=>x) p s (h M Γ _ _ p s h0 d q)
theorem cR (a:α):cB (pure a:Sem α):=λM Γ Q E p s h0 d q=>by
 have q':Q a p s:=q
 exact (show wp M Γ (Sem.pure a) _ E p s by rw [wp];exact ⟨q',d⟩)
theorem gP (w:String):cB (Sem.unsupported w:Sem α):=λM Γ Q E p s h0 d q=>by rw [wp] at q;exact q.elim
theorem B7 {a:Addr} {pt:Option Value} {k:Obj->Sem α} (h:∀ o,cB (k o)):cB (Sem.load a pt k):=λM Γ Q E p s h0 d q=>by
 rw [wp] at q ⊢
 obtain ⟨o,h1,h2⟩:=q
 exact ⟨o,h1,h o M Γ _ _ p _ h0 d h2⟩
theorem B8 {k:List (Code×Pos)->Sem α} (h:∀ o,cB (k o)):cB (Sem.stack k):=λM Γ Q E p s h0 d q=>by
 rw [wp] at q ⊢
 exact h _ M Γ _ _ p _ h0 d q
theorem B9 {o:Obj} {k:Addr->Sem α} (h:∀ o,cB (k o)):cB (Sem.alloc o k):=λM Γ Q E p s h0 d q=>by
 rw [wp] at q ⊢
 exact h _ M Γ _ _ p { s with heap:=s.heap.push o } h0 (λb o' e=>by
  obtain ⟨o2,e2,e3⟩:=d b o' e
  exact ⟨o2,Heap.get?_push_of_some _ e2,e3⟩) q
theorem Cb {a:Addr} {pt:Option Value} {f:Obj->Obj} {k:Unit->Sem α} (hf:∀ o,(f o).dict=o.dict/\(o.isFreed=false->(f o).isFreed=false)) (h:∀ o,cB (k o)):cB (Sem.update a pt f k):=λM Γ Q E p s h0 d q=>by
 rw [wp] at q ⊢
 refine ⟨q.1,h _ M Γ _ _ p { s with heap:=s.heap.update a f } h0 (λb o' e=>?_) q.2⟩
 obtain ⟨o2,e2,e3⟩:=d b o' e
 by_cases hb:b=a
 ·subst hb
  exact ⟨f o2,Heap.get?_update_self f e2 ((hf o2).2 (Heap.get?_some_iff.mp e2).2),(hf o2).1.trans e3⟩
 ·exact ⟨o2,(Heap.get?_update_ne _ _ _ _ hb).trans e2,e3⟩
end
theorem qk (a:Addr):cB (load a):=B7 λo=>cR o
theorem vz {a:Addr} {f:Obj->Obj} (hf:∀ o,(f o).dict=o.dict/\(o.isFreed=false->(f o).isFreed=false)):cB (update a f):=Cb hf λo=>cR o
theorem Cc (v:Value):cB (fieldsOf v):=by
 unfold fieldsOf
 cases v<;>first | exact gP _ | skip
 refine cH (qk _) λo=>?_
 cases o.data<;>first | exact cR _ | exact gP _
theorem mZ (v:Value) (i:Nat):cB (field v i):=by
 unfold field
 refine cH (Cc v) λo=>?_
 cases o[i]? <;> first | exact cR _ | exact gP _
theorem Cd (g:Array Value->Array Value) (o:Obj):(Obj.mapFields g o).dict=o.dict/\(o.isFreed=false->(Obj.mapFields g o).isFreed=false):=by
 obtain ⟨c,d,dt,sl⟩:=o
 cases dt<;>exact ⟨rfl,λh=>h⟩
theorem m5 (v:Value) (i:Nat) (x:Value):cB (setField v i x):=by
 unfold setField
 cases v<;>first | exact gP _ | skip
 unfold updateField
 refine cH (qk _) λo=>?_
 cases o.data<;>first | exact gP _ | skip
 dsimp only
 split
 ·exact vz (Cd _)
 ·exact gP _
theorem vA (e:Value) (fr:Option Addr):cB (setFlight e fr):=by
 unfold setFlight
 refine cH (mZ e 1) λtb=>?_
 split
 ·exact m5 _ _ _
 ·exact cR _
theorem Ce (env:Env) (outer:List Env):cB (behindIsImport env outer):=by
 unfold behindIsImport
 split
 ·exact cR _
 ·split
  ·exact cR _
  ·exact cH (mZ _ _) λ_=>cR _
theorem ql:cB stack:=B8 λo=>cR o
theorem Cf:cB underTheClaimsCaller:=by
 unfold underTheClaimsCaller
 exact cH ql λ_=>cR _
theorem Cg (env:Env) (b:Bool) (l:List Env):cB (keptBack env b l):=by
 unfold keptBack
 cases l with
 | nil =>
  dsimp only
  split
  ·exact cR _
  ·exact cH Cf λ_=>cR _
 | cons=>exact cR _
theorem vB:∀ l:List Env,cB (readyFrames l)
 | []=>cR _
 | env::outer=>by
  unfold readyFrames
  cases env.frame with
  | none=>exact gP _
  | some f =>
   refine cH (qk f) λo=>?_
   split
   ·exact cR _
   ·refine cH (Ce _ _) λb=>cH (Cg _ _ _) λv=>cH (vz λo=>⟨rfl,λh=>by obtain ⟨c,d,dt,sl⟩:=o;cases dt<;>exact h⟩) λ_=>vB outer
theorem vC (env:Env):cB (PySem.frameOf env):=by
 unfold PySem.frameOf frameEnvs
 refine cH (cH ql λ_=>cR _) λl=>cH ?_ λr=>?_
 ·generalize l.dropWhile _=m
  unfold frameObject
  cases m with
  | nil=>exact cR _
  | cons e r=>exact cH (vB _) λ_=>cR _
 ·cases r with
  | none=>exact gP _
  | some v=>exact cR _
theorem vD (f:Addr) (b:Bool):cB (entryPlaceOf f b):=by
 unfold entryPlaceOf
 refine cH ql λl=>?_
 split
 ·exact cR _
 ·exact cR _
theorem vE (a b c d e:Value) (l:List Value):cB (EntryCells.newEntry a b c d e l):=by
 unfold EntryCells.newEntry newFields newObj
 dsimp only
 have k:∀ d,cB (newObjAsIs (.type "traceback") (.fields d)):=λd=>by
  unfold newObjAsIs
  exact cH (B9 λo=>cR o) λ_=>cR _
 generalize ([a,b,c,d,e]++if l.isEmpty=true then List.replicate 6 Value.none else l).toArray=arr
 split
 ·exact cH (gP _) λ_=>k _
 ·exact k _
theorem Ci (e:Value) (env:Env):cB (noteFrame e env):=by
 unfold noteFrame
 cases env.frame with
 | none=>exact gP _
 | some f =>
  refine cH (mZ e 1) λh=>?_
  dsimp only
  split
  ·refine cH (mZ h 3) λx=>?_
   split
   ·exact cR _
   ·exact cH (m5 _ _ _) λ_=>cH (vC env) λ_=>cH (vD _ _) λ_=>cH (vE _ _ _ _ _ _) λ_=>m5 _ _ _
  ·exact cH (vC env) λ_=>cH (vD _ _) λ_=>cH (vE _ _ _ _ _ _) λ_=>m5 _ _ _
theorem qm {α:Type} {M:Model} {A:Around} {t:Sem α} {Q:α->Shared->Prop} {E:Value->Shared->Prop} {s:Shared} {h0:Heap} (k:cB t) (d:DkH h0 s.heap) (h:wpAny M A t Q E s):wpAny M A t (λa s' => Q a s'/\DkH h0 s'.heap) E s :=
 λΓ p hΓ=>k M Γ _ _ p s h0 d (h Γ p hΓ)
end L2
namespace L2
open PySem PySem.Spec PyProof.Rows
theorem ObjOk.some {P:Program} {w:World} {H:Hp} {h:Heap} {a:Addr} {o:HO} (x:ObjOk P w H h a o):∃ ob,h.get? a=Option.some ob:=by
 cases o with
 | lst xs=>obtain ⟨_,_,_,_,e⟩:=x;exact ⟨_,e⟩
 | tup xs=>obtain ⟨_,_,_,o,e,_⟩:=x;exact ⟨o,e⟩
 | dK kvs=>obtain ⟨_,_,_,_,o,_,_,e,_⟩:=x;exact ⟨_,e⟩
 | dT xc kvs=>obtain ⟨_,_,_,_,o,_,_,e,_⟩:=x;exact ⟨_,e⟩
 | set S n=>obtain ⟨o,_,_,_,e,_⟩:=x;exact ⟨_,e⟩
 | ins C dx fs=>obtain ⟨_,_,_,e,_⟩:=x;exact ⟨_,e⟩
 | own y=>obtain ⟨_,e⟩:=x;exact ⟨_,e⟩
 | xd fs=>obtain ⟨_,⟨_,_,_,e,_⟩,_⟩:=x;exact ⟨_,e⟩
 | rng lo hi=>obtain ⟨_,_,_,e⟩:=x;exact ⟨_,e⟩
 | frz ob u=>obtain ⟨e,_⟩:=x;exact ⟨_,e⟩
 | tbl ps=>exact ⟨_,(show h.get? a=Option.some _ from x)⟩
 | met f y=>exact ⟨_,(show h.get? a=Option.some _ from x)⟩
 | ext φ=>obtain ⟨_,⟨_,e⟩,_⟩:=x;exact ⟨_,e⟩
def gw (X:Cx) (pins:List (Addr×Obj)) (H:Hp) (h B:Heap):Prop :=
 ∀ b o,h.get? b=some o->b∉c9 X.stack->((∃ u,H b=some u)\/(∃ o',X.s₀.heap.get? b=some o')\/∃ p∈X.pn++pins,p.1=b)->B.get? b=some o
section
variable {X:Cx} {pins:List (Addr×Obj)} {σ:St} {H:Hp} {s:Shared}
theorem Inv.nofr (I:Inv X pins σ H s) {b:Addr} {o:Obj} (e:X.s₀.heap.get? b=some o) (hb:b∉X.fs):b∉c9 X.stack:=λz=>by
 rcases List.mem_cons.mp (I.stkSub b z) with q | q
 ·exact Nat.ne_of_lt (Nat.lt_of_lt_of_le (Heap.lt_size e) I.ok.above) q
 ·exact hb q
theorem Inv.nofrT (I:Inv X pins σ H s) {b:Addr} {u:HO} (e:H b=some u):b∉c9 X.stack:=λz=>by
 have q:=I.stkFree b z
 rw [q] at e
 cases e
theorem Inv.nofrP (I:Inv X pins σ H s) {p:Addr×Obj} (hp:p∈X.pn++pins):p.1∉c9 X.stack:=λz=>by
 obtain ⟨_,_,ne,nf,_⟩:=I.pin p hp
 rcases List.mem_cons.mp (I.stkSub p.1 z) with q | q
 ·exact ne q
 ·exact nf q
theorem Inv.flown {B h':Heap} {t':Nat} (I:Inv X pins σ H s) (hex:X.ex=[]) (F:gw X pins H s.heap B) (st:B.StaysIn h') (sm:s.heap.UpToSlots h'):Inv X pins σ H { s with heap:=h',toks:=t' }:=by
 have nx:∀ b,b∉X.ex:=λb z=>by rw [hex] at z;cases z
 refine ⟨I.ok,I.os,I.bare,⟨λb o e n hb hx=>?_,λb o e n hb hx=>?_,I.base.free,λb o e hx=>?_,I.base.tups,I.base.frzs,I.base.tbls⟩,?_,λx c e=>?_,I.free,I.freeC,λp hp=>?_,λb u e=>?_,I.len⟩
 ·exact st b o (F b o (I.base.keep b o e n hb hx) (I.nofr e hb) (.inr (.inl ⟨o,e⟩)))
 ·obtain ⟨sl,q⟩:=I.base.slot b o e n hb hx
  obtain ⟨_,o',ho',hd⟩:=I.funs.mem hb
  rw [q] at ho'
  cases ho'
  obtain ⟨sl',q'⟩:=sm b _ q hd
  exact ⟨sl',q'⟩
 ·obtain ⟨o',q⟩:=I.base.there b o e hx
  by_cases hb:b∈X.fs
  ·obtain ⟨_,o'',ho'',hd⟩:=I.funs.mem hb
   rw [q] at ho''
   cases ho''
   obtain ⟨sl',q'⟩:=sm b _ q hd
   exact ⟨_,q'⟩
  ·exact ⟨o',st b o' (F b o' q (I.nofr e hb) (.inr (.inl ⟨o,e⟩)))⟩
 ·obtain ⟨m,hn,hl⟩:=I.loc
  refine ⟨m,sm.ns hn,λi x v e1 e2 e3=>?_⟩
  obtain ⟨u,r,l⟩:=hl i x v e1 e2 e3
  refine ⟨u,r,?_⟩
  rcases l with l | ⟨k,c,e,o,ho,hd⟩
  ·exact .inl l
  ·obtain ⟨sl,q⟩:=sm c o ho λvs z=>by rw [hd] at z;cases z
   exact .inr ⟨k,c,e,_,q,hd⟩
 ·obtain ⟨v,o,ho,hd⟩:=I.cell x c e
  obtain ⟨sl,q⟩:=sm c o ho λvs z=>by rw [hd] at z;cases z
  exact ⟨v,_,q,hd⟩
 ·obtain ⟨e,n,ne,nf,d⟩:=I.pin p hp
  exact ⟨st _ _ (F _ _ e (I.nofrP hp) (.inr (.inr ⟨p,hp,rfl⟩))),n,ne,nf,d⟩
 ·refine (I.hok b u e).stay (λc v hc q=>?_) (λ_ q=>q) λ_ _ q=>q
  rcases hc with z | z
  ·subst z
   exact st _ _ (F _ _ q (I.nofrT e) (.inl ⟨_,e⟩))
  ·exact st _ _ (F _ _ q (I.nofrT z) (.inl ⟨_,z⟩))
theorem Inv.adopt0 {T:Addr} {ob:HO} (I:Inv X pins σ H s) (hn:H T=none) (hT:X.s₀.heap.get? T=none) (hL:T≠X.env.locals) (hc:∀ x c,X.env.cells.lookup x=some c->c≠T)
  (hp:∀ p∈X.pn++pins,p.1≠T) (new:ObjOk X.prog X.w (aI H T ob) s.heap T ob):Inv X pins σ (aI H T ob) s:=by
 have hne:∀ b u,H b=some u->b≠T:=λb u e=>eV e hn
 have hs:∀ b o,X.s₀.heap.get? b=some o->b≠T:=λb o e z=>by rw [z,hT] at e;cases e
 refine ⟨I.ok,I.os,I.bare,⟨I.base.keep,I.base.slot,λb o e n hx=>by rw [bg (hs b o e)];exact I.base.free b o e n hx,I.base.there,λb xs e=>?_,λb o u e=>?_,λb ps e=>?_⟩,I.loc,I.cell,by rw [bg (Ne.symm hL)];exact I.free,λx c e=>by rw [bg (hc x c e)];exact I.freeC x c e,λp hp' => ?_,λb u e=>?_,I.len⟩
 ·have q:=I.base.tups b xs e
  rw [bg (hne b _ q)];exact q
 ·have q:=I.base.frzs b o u e
  rw [bg (hne b _ q)];exact q
 ·obtain ⟨more,q⟩:=I.base.tbls b ps e
  exact ⟨more,by rw [bg (hne b _ q)];exact q⟩
 ·obtain ⟨e,n,ne,nf,d⟩:=I.pin p hp'
  exact ⟨e,by rw [bg (hp p hp')];exact n,ne,nf,d⟩
 ·by_cases hb:b=T
  ·subst hb;rw [dU] at e;cases e;exact new
  ·rw [bg hb] at e
   exact (I.hok b u e).stay (λc v _ q=>q) (λc q=>by rw [bg (hne c _ q)];exact q) λc xs q=>by rw [bg (hne c _ q)];exact q
end
structure Arr (X:Cx) (pins:List (Addr×Obj)) (σ:St) (H:Hp) (a:Addr) (cls:Value) (dx:Option Addr) (s:Shared):Prop where
 inv:Inv X pins σ H s
 un:H a=none
 new:X.s₀.heap.get? a=none
 nl:a≠X.env.locals
 nc:∀ x c,X.env.cells.lookup x=some c->c≠a
 np:∀ p∈X.pn++pins,p.1≠a
 dic:∃ ob,s.heap.get? a=some ob/\ob.dict=dx
 fly:∃ B a0,gw X pins H s.heap B/\B.StaysIn s.heap/\B.get? a=none/\s.heap.FunFrames B X.stack /\
  ((∃ oe vs,s.heap.get? a=some oe/\oe.cls=cls/\oe.data = .fields vs/\vs[0]? = some a0/\vs[1]? = some .none)\/s.heap.TracedW B a cls a0)
def cf (P:Program) (w:World):e7:=λouter H s E e s' => ∃ (a:Addr) (cls a0:Value) (dx:Option Addr) (H':Hp) (B:Heap),e = .ref a/\s'.os=s.os/\AllBare s'.gens/\Un (c9 outer) [] H H' s.heap s'.heap/\HOk P w H' s'.heap /\
 Heap.FlyingW B outer a cls a0 s'.heap/\(∀ b o,s'.heap.get? b=some o->b∉c9 outer->((∃ u,H' b=some u)\/∃ o',s.heap.get? b=some o')->B.get? b=some o)/\H' a=none/\s.heap.get? a=none/\(∃ ob,s'.heap.get? a=some ob/\ob.dict=dx)/\E cls dx H'
section
variable {X:Cx} {pins:List (Addr×Obj)} {σ:St} {H:Hp} {s:Shared}
theorem Cj {h':Heap} {e:Addr} {cls:Value} {args:List Value} {t':Nat} (I:Inv X pins σ H s) (hex:X.ex=[]) (hx:Heap.MadeExcOf s.heap h' e cls args):Arr X pins σ H e cls none { s with heap:=h',toks:=t' }:=by
 have nx:∀ b,b∉X.ex:=λb z=>by rw [hex] at z;cases z
 have none_of:∀ b o,s.heap.get? b=some o->b≠e:=λb o q z=>by rw [z,hx.new] at q;cases q
 have eq_of:∀ b o o1,h'.get? b=some o->s.heap.get? b=some o1->o1=o:=λb o o1 q q1=>by
  have z:=hx.keeps b o1 q1
  rw [q] at z
  exact (Option.some.inj z).symm
 obtain ⟨t,he,_,_⟩:=hx.there
 refine ⟨I.kept hx.keeps,?_,?_,λz=>?_,λx c q z=>?_,λp hp z=>?_,⟨_,he,rfl⟩,PySem.W.hideAll s.heap (c9 X.stack),.ref t,λb o q nb alt=>?_,λb o q=>hx.keeps b o (PySem.W.of_hideAll _ q),?_,?_,.inl ⟨_,_,he,rfl,rfl,rfl,rfl⟩⟩
 ·cases q:H e with
  | none=>rfl
  | some u =>
   obtain ⟨ob,z⟩:=(I.hok e u q).some
   exact absurd rfl (none_of e ob z)
 ·cases q:X.s₀.heap.get? e with
  | none=>rfl
  | some o =>
   obtain ⟨ob,z⟩:=I.base.there e o q (nx e)
   exact absurd rfl (none_of e ob z)
 ·obtain ⟨m,⟨o,_,_,ho,_⟩,_⟩:=I.loc
  exact none_of _ o ho z.symm
 ·obtain ⟨v,o,ho,_⟩:=I.cell x c q
  exact none_of _ o ho z
 ·exact none_of _ _ (I.pin p hp).1 z
 ·have there:∃ o1,s.heap.get? b=some o1:=by
   rcases alt with ⟨u,q'⟩ | ⟨o',q'⟩ | ⟨p,hp,rfl⟩
   ·exact (I.hok b u q').some
   ·exact I.base.there b o' q' (nx b)
   ·exact ⟨_,(I.pin p hp).1⟩
  obtain ⟨o1,q1⟩:=there
  rw [<- eq_of b o o1 q q1]
  exact PySem.W.hideAll_get _ q1 nb
 ·cases q:(PySem.W.hideAll s.heap (c9 X.stack)).get? e with
  | none=>rfl
  | some o=>exact absurd rfl (none_of e o (PySem.W.of_hideAll _ q))
 ·refine (PySem.W.funFrames_hide I.stack λenv henv b hb=>List.mem_filterMap.mpr ⟨env,henv,hb⟩).of_keeps λb o q _=>⟨o,hx.keeps b o q,rfl⟩
theorem vF {E:XK} {e:Value} {s':Shared} (I:Inv X pins σ H s) (hex:X.ex=[]) (h:cf X.prog X.w X.stack H s E e s'):∃ a cls dx H',e = .ref a/\Arr X pins σ H' a cls dx s'/\E cls dx H' := by
 obtain ⟨a,cls,a0,dx,H',B,rfl,os,bare,un,hok,⟨f1,f2,f3,f4⟩,ext,na,ns,dk,q⟩:=h
 have nx:∀ b,b∉X.ex:=λb z=>by rw [hex] at z;cases z
 have none_of:∀ b o,s.heap.get? b=some o->b≠a:=λb o q z=>by rw [z,ns] at q;cases q
 refine ⟨a,cls,dx,H',rfl,⟨I.call' (ch:=[]) os un hok bare (λb z=>absurd z (by simp)),na,?_,λz=>?_,λx c q z=>?_,λp hp z=>?_,dk,B,a0,λb o q nb alt=>?_,f1,f2,f3,.inr f4⟩,q⟩
 ·cases q:X.s₀.heap.get? a with
  | none=>rfl
  | some o =>
   obtain ⟨ob,z⟩:=I.base.there a o q (nx a)
   exact absurd rfl (none_of a ob z)
 ·obtain ⟨m,⟨o,_,_,ho,_⟩,_⟩:=I.loc
  exact none_of _ o ho z.symm
 ·obtain ⟨v,o,ho,_⟩:=I.cell x c q
  exact none_of _ o ho z
 ·exact none_of _ _ (I.pin p hp).1 z
 ·refine ext b o q nb ?_
  rcases alt with ⟨u,q'⟩ | ⟨o',q'⟩ | ⟨p,hp,rfl⟩
  ·exact .inl ⟨u,q'⟩
  ·exact .inr (I.base.there b o' q' (nx b))
  ·exact .inr ⟨_,(I.pin p hp).1⟩
theorem Arr.land0 {a:Addr} {cls:Value} {dx:Option Addr} {Q:Unit->Shared->Prop} {E:Value->Shared->Prop} {M:Model} {A:Around} (R:Arr X pins σ H a cls dx s) (hex:X.ex=[]) (hfr:A.frames=some X.stack) {outer:List Env} (hst:X.stack=X.env::outer) (hf:X.env.frame=some X.env.locals)
  (hQ:∀ h' B a0,gw X pins H s.heap B->Heap.FlyingW B X.stack a cls a0 h'->s.heap.UpToSlots h'->Inv X pins σ H { s with heap:=h' }->Q () { s with heap:=h' }) :
  wpAny M A (noteFrame (.ref a) X.env) (λ_ s₂=>wpAny M A (setFlight (.ref a) none) Q E s₂) E s:=by
 obtain ⟨B,a0,fm,st,hb,ff,alt⟩:=R.fly
 have after:∀ h4,Heap.HeldW B X.stack a cls a0 X.env.locals h4->s.heap.UpToSlots h4->wpAny M A (setFlight (.ref a) none) Q E { s with heap:=h4 }:=λh4 hh sm=>by
  refine wpAny_landsW (s:={ s with heap:=h4 }) hh λh5 fl sm5=>?_
  have sm':s.heap.UpToSlots h5:=sm.trans sm5
  exact hQ h5 B a0 fm fl sm' (R.inv.flown (t' := s.toks) hex fm fl.1 sm')
 rw [hst] at hfr
 rw [hst] at ff
 rcases alt with ⟨oe,vs,he,hc,hd,h0,h1⟩ | tr
 ·subst hc
  have hsz:1<vs.size:=(Array.getElem?_eq_some_iff.mp h1).1
  unfold noteFrame
  simp only [hf]
  refine wpAny_bind (wpAny_field he hd h1 ?_)
  rw [if_neg (by decide)]
  refine wpAny_entryW hfr ff hf he st hb hd hsz h0 λh4 hN=>?_
  obtain ⟨k1,k2,k3,k4⟩:=hN
  exact after h4 (by rw [hst];exact ⟨k1,hb,k2,k3⟩) k4
 ·exact wpAny_looks_onW hfr hf ⟨st,hb,ff,tr⟩ λh4 hh sm=>after h4 (by rw [hst];exact hh) sm
theorem Arr.land {a:Addr} {cls:Value} {dx:Option Addr} {Q:Unit->Shared->Prop} {E:Value->Shared->Prop} {M:Model} {A:Around} (R:Arr X pins σ H a cls dx s) (hex:X.ex=[]) (hfr:A.frames=some X.stack) {outer:List Env} (hst:X.stack=X.env::outer) (hf:X.env.frame=some X.env.locals)
  (hQ:∀ h' B a0,gw X pins H s.heap B->Heap.FlyingW B X.stack a cls a0 h'->s.heap.UpToSlots h'->Inv X pins σ H { s with heap:=h' }->(∃ ob,h'.get? a=some ob/\ob.dict=dx)->Q () { s with heap:=h' }) :
  wpAny M A (noteFrame (.ref a) X.env) (λ_ s₂=>wpAny M A (setFlight (.ref a) none) Q E s₂) E s:=by
 refine wpAny_mono (qm (Ci _ _) (DkH.refl _) (R.land0 (E:=E) (Q:=λ_ s' => ∃ h' B a0,s'={ s with heap:=h' }/\gw X pins H s.heap B/\Heap.FlyingW B X.stack a cls a0 h'/\s.heap.UpToSlots h'/\Inv X pins σ H { s with heap:=h' }) hex hfr hst hf λh' B a0 z1 z2 z3 z4=>⟨h',B,a0,rfl,z1,z2,z3,z4⟩)) (λ_ s2 h2=>?_) λ_ _ z=>z
 refine wpAny_mono (qm (vA _ _) h2.2 h2.1) (λ_ s3 h3=>?_) λ_ _ z=>z
 obtain ⟨⟨h',B,a0,rfl,z1,z2,z3,z4⟩,dk⟩:=h3
 obtain ⟨ob,e1,e2⟩:=R.dic
 obtain ⟨ob',e3,e4⟩:=dk a ob e1
 exact hQ h' B a0 z1 z2 z3 z4 ⟨ob',e3,e4.trans e2⟩
theorem vG {P:Program} {w:World} {K:PySem.W.Frag} {mg:Str->Option Value} {base:Heap} {N:List Str} {qual:Str} {scope:Scope} {f:Addr} {cd:Value} {A:Around} {outer:List Env} {s0:Shared} {H0:Hp} {E:XK} {a:Addr} {cls:Value} {dx:Option Addr}
  (R:Arr (bw (cf P w) P w K mg base N qual scope f cd A outer s0 H0 E) pins σ H a cls dx s) (q:E cls dx H):(bw (cf P w) P w K mg base N qual scope f cd A outer s0 H0 E).xe (.ref a) s:=by
 show wpAny _ _ (leaving _ _) _ _ s
 unfold leaving
 refine wpAny_bind (R.land (E:=λe' s'' => cf P w outer H0 s0 E e' s'') rfl R.inv.ok.frames rfl rfl λh' B a0 fm fl sm I' dk=>?_)
 have I:=R.inv
 obtain ⟨k1,k2,⟨_,_,k3⟩,k4⟩:=fl
 refine ⟨a,cls,a0,dx,H,B,rfl,I'.os,I'.bare,I'.base,I'.hok,⟨k1,k2,k3,k4⟩,λb o e nb alt=>?_,R.un,R.new,dk,q⟩
 have nstk:b∉c9 (bw (cf P w) P w K mg base N qual scope f cd A outer s0 H0 E).stack:=by
  rcases alt with ⟨u,z⟩ | ⟨o',z⟩
  ·exact I.nofrT z
  ·exact I.nofr z nb
 have there:∃ o1,s.heap.get? b=some o1:=by
  rcases alt with ⟨u,z⟩ | ⟨o',z⟩
  ·exact (I.hok b u z).some
  ·exact I.base.there b o' z (λz=>absurd (show b∈([]:List Addr) from z) (by simp))
 obtain ⟨o1,q1⟩:=there
 have z:B.get? b=some o1:=fm b o1 q1 nstk (by
  rcases alt with ⟨u,z⟩ | ⟨o',z⟩
  ·exact .inl ⟨u,z⟩
  ·exact .inr (.inl ⟨o',z⟩))
 have z2:=k1 b o1 z
 rw [show (Heap.get? h' b)=some o from e] at z2
 cases z2
 exact z
end
def jv (X:Cx) (Ex:St->XK):Prop:=∀ (pins:List (Addr×Obj)) (σ:St) (H:Hp) (s:Shared) (a:Addr) (cls:Value) (dx:Option Addr),Arr X pins σ H a cls dx s->Ex σ cls dx H->X.xe (.ref a) s
def jw (CX:e7) (X:Cx) (Ex:St->XK):Prop:=∀ (pins:List (Addr×Obj)) (σ:St) (H:Hp) (s:Shared) (e:Value) (s':Shared),Inv X pins σ H s->CX X.stack H s (Ex σ) e s'->X.xe e s'
section
variable {P:Program} {w:World} {K:PySem.W.Frag} {mg:Str->Option Value} {base:Heap} {N:List Str} {qual:Str} {scope:Scope} {f:Addr} {cd:Value} {A:Around} {outer:List Env} {s0:Shared} {H0:Hp} {E:XK}
theorem iP:jv (bw (cf P w) P w K mg base N qual scope f cd A outer s0 H0 E) (λ_=>E):=λ_ _ _ _ _ _ _ R q=>vG R q
theorem Ck:AN (cf P w) (bw (cf P w) P w K mg base N qual scope f cd A outer s0 H0 E) E:=λpins σ H s e s' I h=>by
 obtain ⟨a,cls,dx,H',rfl,R,q⟩:=vF (X:=bw (cf P w) P w K mg base N qual scope f cd A outer s0 H0 E) I rfl h
 exact vG R q
end
section
variable {X:Cx} {x:Str} {C:Addr} {bm:List Value} {B newId initId:String} {np cpos pos:Pos} {e:Expr} {es:List Expr} {t:TA} {Ex:St->XK}
def Cm (cls:Value) (Ex:St->XK) (t:TA):TS:=λ_ σ H=>t σ H λvs H1=>vs.length<=1000/\Ex σ cls none H1
theorem Cn (O:OwnCls x C bm newId X.mg X.base) (FB:ExcBaseFacts B newId initId bm) (hc:X.calm=true) (hex:X.ex=[]) (hr:jv X Ex) (hg:Gl X x) (ha:PA X (e::es) t)
  (hdb:(x == ("__debug__" : Str))=false:=by decide) (he:starEach (e::es) X.env=(false,eval e X.env)::starEach es X.env:=by rfl) (hpl:(backTo cpos (starEach es X.env)).any (·.1)=false:=by rfl) :
  PS X (.Raise (some (.Call (.Name x np) (e::es) [] cpos)) none pos) (Cm (.ref C) Ex t):=by
 intro pins s σ H D I h
 obtain ⟨tl,NN,nm,q,bs,hdct,sn,sub,ab,col,dd,k0,k1,k2,k3,k5,mN,hC,hN,hni,T⟩:=O.obj
 refine wpAny_Raise_call_subT (C:=C) (nm:=nm) (q:=q) (N:=NN) (bs:=bs) (bm:=tl) (hdct:=hdct) (sn:=sn) (sub:=sub) (ab:=ab) (col:=col) (dd:=dd) (k0:=k0) (k1:=k1) (k2:=k2) (k3:=k3) (k5:=k5) FB (mN:=mN)
  (T.hasType FB.hasBase) (I.ok.hd hc) (by rw [he];show (false || (backTo cpos (starEach es X.env)).any (·.1))=false;rw [hpl];rfl) hni (kG I hg O.bound ⟨rfl,?_⟩ hdb)
 have hA:=ha cpos pins s σ H _ I h
 rw [he] at hA ⊢
 refine Calls.evalArgs_plain (thn hA λus s2 ⟨vs,H1,I1,r1,hl,q1⟩=>⟨rfl,?_,I1.bk _ _ hC,hN.keeps I1.bk,T.keeps I1.bk,λh' a hm=>hr pins σ H1 _ a _ none (Cj (t' := s2.toks) I1 hex hm) q1⟩)
 show us.length<=sizeLine
 rw [<- r1.length]
 exact Nat.le_trans hl (by decide)
end
section
variable {X:Cx} {CX:e7} {k:Nat} {f C:Addr} {fd:FuncData} {ps:List Str} {sp:Sp} {dvs:List V} {ds:List Value} {Ex:St->XK} {x m:Str} {p pos apos:Pos} {e o:Expr} {es:List Expr} {ta:TE} {t:TA}
theorem qo {pins:List (Addr×Obj)} {σ:St} {H:Hp} {s:Shared} {Q:VK} {us:List Value} {vs:List V} (F:FnOk X.prog X.w X.K X.mg X.base CX k f fd ps sp) (hr:Room k X.A) (hb:Binds X.K fd ps ds) (hd:Vals dvs ds) (hx:jw CX X Ex)
  (I:Inv X pins σ H s) (r:Vals vs us) (h:sp (vs++dvs) H Q (Ex σ)):wpAny (model X.prog X.w) X.A (call (.ref f) us) (EP X pins σ Q) X.xe s:=by
 have r2:Vals (vs++dvs) (us++ds):=r.append hd
 have hl:(us++ds).length=ps.length:=by rw [<- r2.length];exact F.len _ _ _ _ h
 refine wpAny_call (codeAny_mono (F.run X.A X.stack s H ⟨us,[]⟩ (us++ds) (vs++dvs) Q (Ex σ) hr I.env0 (hb s us I.kIn hl) r2 h) λr s' hq=>?_)
 cases r with
 | error e=>exact hx pins σ H s e s' I hq
 | ok fl =>
  cases fl with
  | ret u=>exact I.after hq
  | next=>exact False.elim hq
  | brk=>exact False.elim hq
  | cont=>exact False.elim hq
def Co (sp:Sp) (dvs:List V) (Ex:St->XK) (t:TA):TE:=λσ H Q=>t σ H λvs H1=>sp (vs++dvs) H1 Q (Ex σ)
theorem Cp (F:FnOk X.prog X.w X.K X.mg X.base CX k f fd ps sp) (hr:Room k X.A) (hg:Gl X x) (hm:X.mg x=some (.ref f)) (hk:PySem.W.keepIn X.K (.ref f)=true) (hb:Binds X.K fd ps ds) (hd:Vals dvs ds) (hx:jw CX X Ex)
  (ha:PA X (e::es) t) (hdb:(x == ("__debug__" : Str))=false:=by decide) (he:starEach (e::es) X.env=(false,eval e X.env)::starEach es X.env:=by rfl) (hpl:(backTo pos (starEach es X.env)).any (·.1)=false:=by rfl) :
  PE X (.Call (.Name x p) (e::es) [] pos) (Co sp dvs Ex t):=by
 intro pins s σ H Q I h
 refine wpAny_Call_Name_kw (kG I hg hm ?_ hdb)
 refine PySem.W.callWith_K (h₀:=X.base) I.ok.mod.kin hk (thn (ha pos pins s σ H _ I h) λus s1 ⟨vs,H1,I1,r,q⟩=>⟨I1.kIn,?_⟩) he hpl
 exact qo F hr hb hd hx I1 r q
def vH (C:Addr) (m:Str) (sp:Sp) (dvs:List V) (Ex:St->XK) (ta:TE) (t:TA):TE:=λσ H Q=>ta σ H λx H1=>∃ a dx fs,x = .ref a/\H1 a=some (.ins C dx fs)/\fs.lookup m=none /\
 t σ H1 λvs H2=>sp (x::(vs++dvs)) H2 Q (Ex σ)
theorem Cq {pl:Sem Bool} (he:PE X o ta) (c:Cls X.K C) (hm:gv X.K C m f) (F:FnOk X.prog X.w X.K X.mg X.base CX k f fd ps sp) (hr:Room k X.A) (hb:Binds X.K fd ps ds) (hd:Vals dvs ds) (hx:jw CX X Ex) (ha:PA X (e::es) t)
  (hst:starEach (e::es) X.env=(false,eval e X.env)::starEach es X.env:=by rfl) (hpl:(backTo pos (starEach es X.env)).any (·.1)=false:=by rfl)
  (ht:eval (.Call (.Attribute o m apos) (e::es) [] pos) X.env=(do
   let ov <- eval o X.env
   standAt apos.atName
   let (f,first) <- holding [ov] (getMethod ov m pl)
   callWith pos f first (backTo pos (starEach (e::es) X.env)) (backToKw pos (keywordEach [] X.env))):=by rfl) :
  PE X (.Call (.Attribute o m apos) (e::es) [] pos) (vH C m sp dvs Ex ta t):=by
 intro pins s σ H Q I h
 refine PySem.W.methodCall_KW (pl:=pl) (thn (he pins s σ H _ I h) λu s1 Zz=>?_) ht;obtain ⟨x,H1,I1,rx,a,dx,fs,ex,ea,l,q⟩:=Zz
 subst ex
 obtain rfl:u=Value.ref a:=rx
 refine uU I1 ea c hm l ?_
 refine PySem.W.callWith_K (first:=[.ref a]) (h₀:=X.base) I.ok.mod.kin hm.kp (thn (ha pos pins s1 σ H1 _ I1 q) λus s2 ⟨vs,H2,I2,r,q2⟩=>⟨I2.kIn,?_⟩) hst hpl
 exact qo (us:=.ref a::us) (vs:=.ref a::vs) F hr hb hd hx I2 (.cons rfl r) q2
end
abbrev tryC (X:Cx) (pins:List (Addr×Obj)) (xe:Value->Shared->Prop):Cx:={ X with pn:=X.pn++pins,xe:=xe }
abbrev de (X:Cx) (a:Addr):Cx:={ X with A:=X.A.mark (some (.ref a)),calm:=false,xe:=λ_ _=>False }
def dX (a:Addr) (cls:Value) (dx:Option Addr):HO:=.ext λh=>∃ ob vs,h.get? a=some ob/\ob.cls=cls/\ob.data = .fields vs/\ob.dict=dx
section
variable {X:Cx} {pins pins':List (Addr×Obj)} {σ:St} {H:Hp} {s:Shared} {xe:Value->Shared->Prop}
theorem Cx.Ok.tryC (ok:X.Ok):(tryC X pins xe).Ok:=⟨ok.mod,ok.kind,ok.glob,ok.blt,ok.above,ok.inj,ok.has,ok.cab,ok.hd,ok.frames,ok.stk,ok.exf,ok.bs,ok.bsz,ok.noex,ok.exfs,ok.funs,ok.frf⟩
theorem Cx.Ok.untry (ok:(L2.tryC X pins xe).Ok):X.Ok:=⟨ok.mod,ok.kind,ok.glob,ok.blt,ok.above,ok.inj,ok.has,ok.cab,ok.hd,ok.frames,ok.stk,ok.exf,ok.bs,ok.bsz,ok.noex,ok.exfs,ok.funs,ok.frf⟩
theorem Cx.Ok.hdl (ok:X.Ok) (a:Addr):(de X a).Ok:=⟨ok.mod,ok.kind,ok.glob,ok.blt,ok.above,ok.inj,ok.has,ok.cab,λz=>(nomatch z),ok.frames,ok.stk,ok.exf,ok.bs,ok.bsz,ok.noex,ok.exfs,ok.funs,ok.frf⟩
theorem Inv.toTry (I:Inv X pins σ H s):Inv (tryC X pins xe) [] σ H s:=⟨I.ok.tryC,I.os,I.bare,I.base,I.loc,I.cell,I.free,I.freeC,λp hp=>I.pin p (by simpa using hp),I.hok,I.len⟩
theorem Inv.untry (I:Inv (tryC X pins xe) pins' σ H s):Inv X pins σ H s:=⟨I.ok.untry,I.os,I.bare,I.base,I.loc,I.cell,I.free,I.freeC,λp hp=>I.pin p (List.mem_append_left _ hp),I.hok,I.len⟩
theorem Inv.hdl (I:Inv X pins σ H s) (a:Addr):Inv (de X a) pins σ H s:=⟨I.ok.hdl a,I.os,I.bare,I.base,I.loc,I.cell,I.free,I.freeC,I.pin,I.hok,I.len⟩
theorem Inv.unhdl {a:Addr} (I:Inv (de X a) pins σ H s) (ok:X.Ok):Inv X pins σ H s:=⟨ok,I.os,I.bare,I.base,I.loc,I.cell,I.free,I.freeC,I.pin,I.hok,I.len⟩
theorem Arr.untry {a:Addr} {cls:Value} {dx:Option Addr} (R:Arr (tryC X pins xe) pins' σ H a cls dx s):Arr X pins σ H a cls dx s:=by
 obtain ⟨B,a0,fm,r⟩:=R.fly
 refine ⟨R.inv.untry,R.un,R.new,R.nl,R.nc,λp hp=>R.np p (List.mem_append_left _ hp),R.dic,B,a0,λb o q nb alt=>fm b o q nb ?_,r⟩
 rcases alt with z | z | ⟨p,hp,e⟩
 ·exact .inl z
 ·exact .inr (.inl z)
 ·exact .inr (.inr ⟨p,List.mem_append_left _ hp,e⟩)
theorem m7 {M:Model} {A:Around} {E:Value->Shared->Prop} {n:Str} {i:Nat} {pos:Pos} {Q:Unit->Shared->Prop} (I:Inv X pins σ H s) (hN:X.N.Nodup) (hi:X.N[i]? = some n) (hk:X.env.scope.names.lookup n=some .local)
  (h:∀ s',Inv X pins (σ.set i none) H s'->Q () s'):wpAny M A (do bindName X.env n .none;unbindBehindTheSuite X.env n pos) Q E s:=by
 obtain ⟨m,hn,hl⟩:=id I.loc
 refine wpAny_nameGoes_keeps hk hn (by rw [I.ok.kind];rfl) λh' v hn' hs=>h _ ?_
 have cne:=I.cne
 refine ⟨I.ok,I.os,I.bare,Un.sameBut I.base (Heap.get?_none_of_le I.ok.above) hs,⟨_,hn',λj y v' e1 e2 e3=>?_⟩,λy c e=>?_,I.free,I.freeC,λp hp=>?_,I.hok.sameBut I.free hs,by simpa using I.len⟩
 ·by_cases hj:j=i
  ·subst hj
   by_cases hlt:j<σ.length
   ·rw [List.getElem?_set_self hlt] at e2;cases e2
   ·rw [List.getElem?_eq_none (by simpa using hlt)] at e2;cases e2
  ·rw [List.getElem?_set_ne (Ne.symm hj)] at e2
   obtain ⟨u',r',q⟩:=hl j y v' e1 e2 e3
   refine ⟨u',r',?_⟩
   rcases q with ⟨k,e⟩ | ⟨k,c,e,z⟩
   ·refine .inl ⟨k,?_⟩
    have ne:y≠n:=λe=>hj (mG hN e1 (e▸hi))
    simp [ne,e]
   ·exact .inr ⟨k,c,e,z.sameBut hs (cne y c e)⟩
 ·obtain ⟨w',z⟩:=I.cell y c e
  exact ⟨w',z.sameBut hs (cne y c e)⟩
 ·obtain ⟨e,nn,ne,nf,d⟩:=I.pin p hp
  exact ⟨(hs.2 p.1 ne).trans e,nn,ne,nf,d⟩
end
theorem Cr {M:Model} {A:Around} {E:Value->Shared->Prop} {s:Shared} {B:Heap} {l:List Env} {e:Addr} {cls a0:Value} {dx:Option Addr} {Q:Unit->Shared->Prop} (hh:Heap.FlyingW B l e cls a0 s.heap) (dk:∃ ob,s.heap.get? e=some ob/\ob.dict=dx)
  (hQ:∀ h',Heap.FlyingW B l e cls a0 h'->s.heap.UpToSlots h'->(∃ ob,h'.get? e=some ob/\ob.dict=dx)->Q () { s with heap:=h' }):wpAny M A (setFlight (.ref e) none) Q E s:=by
 refine wpAny_mono (qm (vA _ _) (DkH.refl _) (lands_againW (E:=E) (Q:=λ_ s' => ∃ h',s'={ s with heap:=h' }/\Heap.FlyingW B l e cls a0 h'/\s.heap.UpToSlots h') hh λh' z1 z2=>⟨h',rfl,z1,z2⟩)) (λ_ s3 h3=>?_) λ_ _ z=>z
 obtain ⟨⟨h',rfl,z1,z2⟩,d⟩:=h3
 obtain ⟨ob,e1,e2⟩:=dk
 obtain ⟨ob',e3,e4⟩:=d e ob e1
 exact hQ h' z1 z2 ⟨ob',e3,e4.trans e2⟩
def qp (K:PySem.W.Frag) (i:Nat) (C:Addr) (tb:(St->XK)->TS) (th:TS):TS:=λD σ H =>
 tb (λσ' cls dx H' => PySem.W.exmOne K cls (.ref C)=some true/\∀ a,H' a=none->th { nx:=λσ2 H2=>D.nx (σ2.set i none) H2,rt:=D.rt,bk:=λσ2 H2=>D.bk (σ2.set i none) H2,ct:=λσ2 H2=>D.ct (σ2.set i none) H2 } (σ'.set i (some (.ref a))) (aI H' a (dX a cls dx))) D σ H
theorem vI {M:Model} {h:Heap} {a:Addr} {ob:Obj} (e:h.get? a=some ob):PySem.W.Looks M h (typeOf (.ref a)) ob.cls:=(PySem.W.Looks.ld e).andThen .now
section
variable {X:Cx} {xc n:Str} {C:Addr} {i:Nat} {body suite:List Stmt} {b0:Stmt} {np hpos pos:Pos} {tb:(St->XK)->TS} {th:TS} {outer:List Env}
theorem Cs (hex:X.ex=[]) (hst:X.stack=X.env::outer) (hf:X.env.frame=some X.env.locals) (hN:X.N.Nodup) (hi:X.N[i]? = some n) (hl:X.env.scope.names.lookup n=some .local) (hg:Gl X xc) (hm:X.mg xc=some (.ref C))
  (hb:∀ pins xe Ex,jw (cf X.prog X.w) (tryC X pins xe) Ex->jv (tryC X pins xe) Ex->eX (tryC X pins xe) body (tb Ex)) (hh:∀ a,eX (de X a) (b0::suite) th) (hdb:(xc == ("__debug__" : Str))=false:=by decide) :
  PS X (.Try body [.ExceptHandler (some (.Name xc np)) (some n) (b0::suite) hpos] [] [] pos) (qp X.K i C tb th):=by
 intro pins s σ H D I h
 have okX:=I.ok
 let Ex:St->XK:=λσ' cls dx H' => PySem.W.exmOne X.K cls (.ref C)=some true/\∀ a,H' a=none->th { nx:=λσ2 H2=>D.nx (σ2.set i none) H2,rt:=D.rt,bk:=λσ2 H2=>D.bk (σ2.set i none) H2,ct:=λσ2 H2=>D.ct (σ2.set i none) H2 } (σ'.set i (some (.ref a))) (aI H' a (dX a cls dx))
 let xe:Value->Shared->Prop:=λe s' => ∃ σ' H' a cls dx,e = .ref a/\Arr X pins σ' H' a cls dx s'/\Ex σ' cls dx H'
 have hR:jv (tryC X pins xe) Ex:=λpins' σ' H' s' a cls dx R q=>⟨σ',H',a,cls,dx,rfl,R.untry,q⟩
 have hP:jw (cf X.prog X.w) (tryC X pins xe) Ex:=λpins' σ' H' s1 e s2 I' hq=>by
  obtain ⟨a,cls,dx,H2,rfl,R,q⟩:=vF (X:=tryC X pins xe) I' hex hq
  exact ⟨σ',H2,a,cls,dx,rfl,R.untry,q⟩
 have hbody:=hb pins xe Ex hP hR [] s σ H D (I.toTry (xe:=xe)) h
 refine wpAny_Try_except (wpAny_mono hbody (λf s1 q=>?_) λe s1 q=>?_)
 ·cases f with
  | next=>obtain ⟨σ1,H1,I1,q1⟩:=q;exact wpAny_execs_nil ⟨σ1,H1,I1.untry,q1⟩
  | brk=>obtain ⟨σ1,H1,I1,q1⟩:=q;exact ⟨σ1,H1,I1.untry,q1⟩
  | cont=>obtain ⟨σ1,H1,I1,q1⟩:=q;exact ⟨σ1,H1,I1.untry,q1⟩
  | ret u=>obtain ⟨v1,σ1,H1,I1,r1,q1⟩:=q;exact ⟨v1,σ1,H1,I1.untry,r1,q1⟩
 ·obtain ⟨σ1,H1,a,cls,dx,rfl,R,hxm,q1⟩:=q
  refine R.land hex okX.frames hst hf λh5 B a0 fm fl sm I5 dk=>?_
  obtain ⟨oe,vs,hoe,hoec,hoed,_⟩:=fl.first
  have I5h:=I5.hdl a
  refine wpAny_handleBy_cons (codeAny_handlers_test (kG (X:=de X a) I5h hg hm ?_ hdb)) (by intro z;cases z)
  refine (PySem.W.exm_one I5.kIn (hoec▸vI hoe) hxm).here ?_
  refine codeAny_handlers_suite_as ?_
  refine Cr fl dk λh6 fl6 sm6 dk6=>?_
  have I6:Inv X pins σ1 H1 { s1 with heap:=h6 }:=R.inv.flown (t' := s1.toks) hex fm fl6.1 (sm.trans sm6)
  obtain ⟨oe6,vs6,hoe6,hoec6,hoed6,_⟩:=fl6.first
  have I7:Inv X pins σ1 (aI H1 a (dX a cls dx)) { s1 with heap:=h6 }:=I6.adopt0 R.un R.new R.nl R.nc R.np
   ⟨⟨oe6,vs6,hoe6,hoec6,hoed6,by obtain ⟨ob,e1,e2⟩:=dk6;rw [show h6.get? a=some oe6 from hoe6] at e1;cases e1;exact e2⟩,⟨oe6,hoe6⟩,λg1 g2 ⟨ob,ws,z1,z2,z3⟩ k=>⟨ob,ws,k ob z1,z2,z3⟩⟩
  refine pk (X:=de X a) (I7.hdl a) hN hi (.inl hl) (v:=.ref a) rfl (λs8 I8=>?_) (.inr hl)
  refine wpAny_mono (hh a pins s8 _ _ _ I8 (q1 a R.un)) (λf s9 q9=>?_) λ_ _ z=>z.elim
  cases f with
  | next=>obtain ⟨σ2,H2,I2,q2⟩:=q9;exact m7 (I2.unhdl okX) hN hi hl λs' I' => ⟨_,H2,I',q2⟩
  | brk=>obtain ⟨σ2,H2,I2,q2⟩:=q9;exact m7 (I2.unhdl okX) hN hi hl λs' I' => ⟨_,H2,I',q2⟩
  | cont=>obtain ⟨σ2,H2,I2,q2⟩:=q9;exact m7 (I2.unhdl okX) hN hi hl λs' I' => ⟨_,H2,I',q2⟩
  | ret u=>obtain ⟨v2,σ2,H2,I2,r2,q2⟩:=q9;exact m7 (I2.unhdl okX) hN hi hl λs' I' => ⟨v2,_,H2,I',r2,q2⟩
end
section
variable {P:Program} {w:World} {K:PySem.W.Frag} {mg:Str->Option Value} {base:Heap}
theorem Fun.okE {x qual:Str} {st:Stmt} {f:Addr} {fd:FuncData} {N ps:List Str} {k:Nat} {sp:Sp} (F:Fun K x qual st f fd) (S:ao N ps (aL st)) (len:∀ vs H Q E,sp vs H Q E->vs.length=ps.length)
  (hbody:∀ (cdv:Value) (A:Around) (outer:List Env) (s:Shared) (H:Hp) (vs:List V) (Q:VK) (E:XK),Room k (A.deeper (envOfC qual (aL st) s.heap.objs.size f cdv))->sp vs H Q E ->
   ∃ t,eX (bw (cf P w) P w K mg base N qual (aL st) f cdv A outer s H E) (gN st) t/\t { nx:=λ_ H' => Q .non H',rt:=Q } (start N vs) H):FnOk P w K mg base (cf P w) (k+1) f fd ps sp:=by
 obtain ⟨oc,od,kV,doc,pm,an,cdv,ct,osl,rfl,lk,hcd⟩:=F.ex
 exact AR lk hcd S len λA outer s H vs Q E hr hsp=>hbody cdv A outer s H vs Q E hr hsp
end
end L2
namespace L2
open PySem PySem.Spec PyProof.Rows
open PySem.W (Frag Looks looks_findIn looks_specialIn looks_takesIn looks_mroIn findIn specialIn takesIn mroIn clsIn KitX kitOne kitAny kia_one kia_tup)
open PySem.Calls Builtin Builtin.ObjectAttr Builtin.Getset_descriptor
structure aW (K:Frag) (C:Addr):Prop where
 cl:(clsIn K C).isSome=true
 ga:findIn K (.ref C) "__getattribute__" = some (some (.builtin "BaseException.__getattribute__"))
 gh:findIn K (.ref C) "__getattr__" = some none
 ca:findIn K (.ref C) "__class__" = some (some (.builtin "object.__class__"))
 cg:specialIn K (.builtin "object.__class__") "__get__" = some (some (.builtin "getset_descriptor.__get__"))
 ct:takesIn K (.builtin "object.__class__")=some true
 mo:mroIn K C (.type "object")=some true
 mb:mroIn K C (.type "BaseException")=some true
def ExcAt (a C:Addr) (h:Heap):Prop:=∃ ob vs,h.get? a=some ob/\ob.cls = .ref C/\ob.data = .fields vs
section
variable {prog:Program} {w:World} {A:Around} {K:Frag} {a C:Addr}
theorem ExcAt.ty {M:Model} {h:Heap} (x:ExcAt a C h):Looks M h (typeOf (.ref a)) (.ref C):=by
 obtain ⟨ob,vs,e,c,_⟩:=x
 exact c▸vI e
theorem qq {tp:Value} {s:Shared} {R:Result->Shared->Prop} (X:K.In s.heap) (Z:aW K C) (I:ExcAt a C s.heap) (q:R (.ok (.ret (.ref C))) s) :
  codeAny (model prog w) A (.call (.builtin "getset_descriptor.__get__") ⟨[.builtin "object.__class__",.ref a,tp],[]⟩) R s:=by
 obtain ⟨hp,gg,dd,tt,oo⟩:=s
 have La:=I.ty (M:=model prog w)
 have Lb:=looks_mroIn (M:=model prog w) X Z.mo
 refine codeAny_call_builtin PySem.W.KF.slot_gs.plain PySem.W.KF.entry_gs (PySem.W.KF.slot_gs.check _ _ _ _ _ _ _ _ PySem.W.KF.type_class (PySem.W.KF.args_gs _ _ _) ?_)
 unfold Builtin.«getset_descriptor.__get__» descrGet
 rw [PySem.W.dga_obj]
 refine wpAny_bind (wpAny_pure ?_)
 unfold descrGetter descrCheckInstance descrNameAndClass isInstance
 simp only [PySem.W.KF.owner_class]
 repeat lk
 refine ⟨Code.quiet_builtin _ (by decide +kernel),codeAny_builtin PySem.W.KF.entry_class ?_⟩
 unfold Builtin.«object.__class__» shownTypeOf
 repeat lk
 exact q
theorem Ct {M:Model} {h:Heap} {x:Value} (X:K.In h) (Z:aW K C):Looks M h (find x (.ref C) "__class__") (.bind (.builtin "getset_descriptor.__get__") (.builtin "object.__class__")):=by
 have l1:=looks_findIn (M:=M) X Z.ca
 have l2:Looks M h (getOf (some (.builtin "object.__class__"))) (some (.builtin "getset_descriptor.__get__")):=looks_specialIn X Z.cg
 have l3:=looks_takesIn (M:=M) X Z.ct
 exact l1.andThen (l2.andThen ((show Looks M h (dataDescriptor? (some (.builtin "object.__class__")) (some (.builtin "getset_descriptor.__get__"))) (some (.builtin "getset_descriptor.__get__",.builtin "object.__class__")) from l3.andThen .now).andThen (Looks.tag .now)))
theorem Cu {tk:Tok} {s:Shared} {Q:Fin->Shared->Prop} {E:Value->Shared->Prop} (X:K.In s.heap) (Z:aW K C) (I:ExcAt a C s.heap) (q:Q (.done (.ret (.ref C))) s) :
  wpAny (model prog w) A (Builtin.«object.__getattribute__» ⟨[.ref a,.str "__class__" tk],[]⟩) Q E s:=by
 obtain ⟨hp,gg,dd,tt,oo⟩:=s
 have La:=I.ty (M:=model prog w)
 have Lf:=Ct (M:=model prog w) (x:=.ref a) X Z
 refine wpAny_bind (wpAny_pure ?_)
 refine wpAny_bind (wpAny_pure ?_)
 refine wpAny_bind (La.at (wpAny_bind (Lf.at ?_)))
 unfold bindTo
 first
  | exact wpAny_bind (wpAny_call (qq X Z I (wpAny_pure q)))
  | exact wpAny_bind (wpAny_holding (wpAny_call (qq X Z I (wpAny_pure q))))
  | exact wpAny_bind (wpAny_holding (wpAny_call (qq X Z I q)))
theorem Cv {nm:Value} {s:Shared} {M:Model} {Q:Unit->Shared->Prop} {E:Value->Shared->Prop} (X:K.In s.heap) (Z:aW K C) (I:ExcAt a C s.heap) (q:Q () s) :
  wpAny M A (checkBuiltinCall "BaseException.__getattribute__" ⟨[.ref a,nm],[]⟩) Q E s:=by
 obtain ⟨hp,gg,dd,tt,oo⟩:=s
 have k1:builtinKind "BaseException.__getattribute__" = some .slot:=by decide +kernel
 have k2:splitId "BaseException.__getattribute__" = some ("BaseException", "__getattribute__"):=by decide +kernel
 have k3:=F.args_bexc_ga (.ref a) nm
 have La:=I.ty (M:=M)
 have Lb:=looks_mroIn (M:=M) X Z.mb
 have Li:Looks M hp (isInstance (.ref a) (.type "BaseException")) true:=La.andThen Lb
 simp only [checkBuiltinCall,k1,k2]
 refine wpAny_bind (Li.at ?_)
 repeat lk
 exact q
theorem Cw {tk:Tok} {s:Shared} {Q:Value->Shared->Prop} {E:Value->Shared->Prop} (X:K.In s.heap) (Z:aW K C) (I:ExcAt a C s.heap) (q:Q (.ref C) s) :
  wpAny (model prog w) A (getAttrBy (.ref a) (.str "__class__" tk) false) Q E s:=by
 obtain ⟨hp,gg,dd,tt,oo⟩:=s
 have La:=I.ty (M:=model prog w)
 have Lg:=looks_findIn (M:=model prog w) X Z.ga
 have Lh:=looks_findIn (M:=model prog w) X Z.gh
 have f3:=F.attrBase_ValueError.ga.bind (.ref a)
 unfold getAttrBy
 refine wpAny_holding (wpAny_bind (La.at (wpAny_bind (Lg.at ?_))))
 show wpAny _ _ (getAttrByItsOwn _ _ _ _ _ _) _ _ _
 unfold getAttrByItsOwn
 refine wpAny_bind ((show Looks _ hp (hookBefore (.ref C)) none from Lh).at ?_)
 refine wpAny_bind (wpAny_attempt (wpAny_holding ?_))
 show wpAny _ _ (boundAndCalled _ _ _) _ _ _
 unfold boundAndCalled
 rw [f3]
 refine wpAny_bind (wpAny_pure ?_)
 refine wpAny_call (codeAny_call_builtin F.attrBase_ValueError.ga.plain F.entry_bexc_ga (Cv X Z I (Cu X Z I ?_)))
 repeat lk
 exact q
theorem Cy {s:Shared} {Q:Option Value->Shared->Prop} {E:Value->Shared->Prop} (X:K.In s.heap) (Z:aW K C) (I:ExcAt a C s.heap) (q:Q (some (.ref C)) { s with toks:=s.toks+1 }) :
  wpAny (model prog w) A (getAttr? (.ref a) "__class__") Q E s:=by
 unfold getAttr? getAttrBy?
 exact wpAny_bind (wpAny_mkText (wpAny_bind (wpAny_attempt (Cw (s:={ s with toks:=s.toks+1 }) X Z I (wpAny_pure q)))))
theorem vJ (Z:aW K C):KitX K (.ref a) (.ref C) (ExcAt a C) where
 ty:=λ_ _ _ I=>I.ty
 it:=λ_ _ X _=>by
  have z:=Z.cl
  unfold clsIn at z
  split at z
  ·rename_i ho
   intro A' Q' E' s' k q
   unfold isType loadHead
   exact wpAny_bind (wpAny_loadPart (k _ _ (X _ _ ho)) (wpAny_pure q))
  ·cases z
 ne:=λhp tp dd its n sl X htp=>by
  refine Bool.eq_false_iff.mpr λq=>?_
  have e:C=tp:=Value.ref.inj (beq_iff_eq.mp q)
  subst e
  have z:=Z.cl
  unfold clsIn at z
  split at z
  ·rename_i ho
   have zz:=(X _ _ ho).symm.trans htp
   cases zz
  ·cases z
 ca:=λX I k=>Cy X Z I k
end
section
variable {X:Cx}
theorem vK {P:Program} {w:World} {H:Hp} {h:Heap} {a C:Addr} {dx:Option Addr} (x:ObjOk P w H h a (dX a (.ref C) dx)):ExcAt a C h:=by
 obtain ⟨⟨ob,vs,z1,z2,z3,_⟩,_⟩:=x
 exact ⟨ob,vs,z1,z2,z3⟩
theorem Cz {c:V} {cv:Value} (rc:∀ u,RelV c u->u=cv) :
  CallR X (.builtin "isinstance") (λxs H Q=>∃ (a D:Addr) (r:Bool),xs=[.ref a,c]/\(∃ dx,H a=some (dX a (.ref D) dx))/\aW X.K D/\kitOne X.K (.ref D) cv=some r/\Q (.bl r) H):=by
 intro pins s σ H xs us Q I r h
 obtain ⟨a,D,b,rfl,⟨dx,ha⟩,Z,hk,q⟩:=h
 obtain ⟨u,w',rfl,rx,ry⟩:=ka r
 obtain rfl:=rc _ ry
 obtain rfl:u=Value.ref a:=rx
 exact kia_one (vJ Z) I.kIn (vK (I.hok a _ ha)) hk (by intro z;cases z) λtk=>⟨.bl b,H,I.tok _,rfl,q⟩
theorem CB :
  CallR X (.builtin "isinstance") (λxs H Q=>∃ (a D tp:Addr) (cs:List V) (vs:List Value) (r:Bool),xs=[.ref a,.ref tp]/\(∃ dx,H a=some (dX a (.ref D) dx))/\aW X.K D/\H tp=some (.tup cs)/\(∀ us,Vals cs us->us=vs)/\kitAny X.K (.ref D) vs=some r/\Q (.bl r) H):=by
 intro pins s σ H xs us Q I r h
 obtain ⟨a,D,tp,cs,vs,b,rfl,⟨dx,ha⟩,Z,ht,hv,hk,q⟩:=h
 obtain ⟨u,w',rfl,rx,ry⟩:=ka r
 obtain rfl:u=Value.ref a:=rx
 obtain rfl:w'=Value.ref tp:=ry
 obtain ⟨_,its,rv,o,ho,hc,n,hd⟩:=I.hok tp _ ht
 obtain rfl:=hv _ rv
 obtain ⟨oc,od,oda,osl⟩:=o
 dsimp only at hc hd
 subst hc hd
 exact kia_tup (vJ Z) I.kIn (vK (I.hok a _ ha)) ho hk (by intro z;cases z) λtk=>⟨.bl b,H,I.tok _,rfl,q⟩
end
end L2
namespace L2
open PySem PySem.Spec PyProof.Rows
theorem CD {K:PySem.W.Frag} {hp:Heap} {g:Str->Option Value} {nm:Str} {Ca:Addr} {bb:List Value} {nid:String} (Z:K.In hp) (hb:g nm=some (.ref Ca)) (ok:PySem.W.excIn K Ca bb nid=true):OwnCls nm Ca bb nid g hp:=by
 refine ⟨hb,?_⟩
 unfold PySem.W.excIn at ok
 split at ok
 ·rename_i dA cA sA hA
  split at ok
  ·rename_i D' tl w0 w1 w2 w3 bn w5 eM eS
   simp only [Bool.and_eq_true,beq_iff_eq,Bool.not_eq_true'] at ok
   obtain ⟨⟨⟨⟨⟨rfl,rfl⟩,e1⟩,e2⟩,e3⟩,e4⟩:=ok
   obtain ⟨f1,f2,f3,f4,f5,f6,f7,f8,f9,f10,f11⟩:=cA
   dsimp only at eM e1 e3 e4
   subst eM e1
   have eA:sA = #[w0,w1,w2,w3,some (.builtin bn),w5]:=by
    obtain ⟨ll⟩:=sA
    simp only at eS
    rw [eS]
   subst eA
   refine ⟨tl,f4,f1,f5,f2,f6,f7,f8,f9,f10,dA,w0,w1,w2,w3,w5,_,Z _ _ hA,.of_isNs (PySem.W.isNs_of_in Z e3),?_,PySem.W.tail_of_in Z e2⟩
   exact PySem.W.nsMap_none_of_in Z e3 e4
  ·cases ok
 ·cases ok
mutual
inductive DaV (K:PySem.W.Frag) (H:Hp):V->PyData->Prop
 | non:DaV K H .non .none
 | bl (b):DaV K H (.bl b) (.bool b)
 | int (i):DaV K H (.int i) (.int i)
 | str (x):DaV K H (.str x) (.str x)
 | lst {a xs ds}:SqL K H a xs->DaVs K H xs ds->DaV K H (.ref a) (.list ds)
 | tup {a xs ds}:SqT K H a xs->DaVs K H xs ds->DaV K H (.ref a) (.tuple ds)
inductive DaVs (K:PySem.W.Frag) (H:Hp):List V->List PyData->Prop
 | nil:DaVs K H [] []
 | cons {x xs d ds}:DaV K H x d->DaVs K H xs ds->DaVs K H (x::xs) (d::ds)
end
section
variable {X:Cx} {pins:List (Addr×Obj)} {σ:St} {H:Hp} {s:Shared}
mutual
theorem DaV.reads (I:Inv X pins σ H s):∀ {x:V} {d:PyData} {u:Value},DaV X.K H x d->RelV x u->∃ as,Reads s.heap u d as
 | _,_,_,.non,r=>by cases r;exact ⟨_,.none⟩
 | _,_,_,.bl b,r=>by cases r;exact ⟨_,.bool b⟩
 | _,_,_,.int i,r=>by obtain ⟨t,rfl⟩:=r;exact ⟨_,.int i t⟩
 | _,_,_,.str x,r=>by obtain ⟨t,rfl⟩:=r;exact ⟨_,.str x t⟩
 | _,_,_,.lst (a:=a) h1 h2,r=>by
  cases r
  obtain ⟨its,rv,⟨o,n,e1,e2,e3⟩,_⟩:=I.list h1
  obtain ⟨as,q⟩:=DaVs.reads I h2 rv
  exact ⟨_,.list (vs:=its.toArray) (n:=n) e1 (by first | exact e2.1 | exact e2) (by first | exact e2.2.2 | exact e2.2 | exact e3 | exact e3.2) (by simpa using q)⟩
 | _,_,_,.tup (a:=a) h1 h2,r=>by
  cases r
  obtain ⟨its,rv,⟨o,e1,e2,n,e3⟩,_⟩:=I.tuple h1
  obtain ⟨as,q⟩:=DaVs.reads I h2 rv
  exact ⟨_,.tuple (vs:=its.toArray) (n:=n) e1 e2 e3 (by simpa using q)⟩
theorem DaVs.reads (I:Inv X pins σ H s):∀ {xs:List V} {ds:List PyData} {us:List Value},DaVs X.K H xs ds->Vals xs us->∃ as,ReadsAll s.heap us ds as
 | _,_,_,.nil,r=>by cases r;exact ⟨_,.nil⟩
 | _,_,_,.cons h1 h2,r=>by
  cases r with
  | cons r1 r2 =>
   obtain ⟨as,q1⟩:=DaV.reads I h1 r1
   obtain ⟨bs,q2⟩:=DaVs.reads I h2 r2
   exact ⟨_,.cons q1 q2⟩
end
def qr (K:PySem.W.Frag):R2:=λx y H Q=>∃ d e,DaV K H x d/\DaV K H y e/\d.canLay0=true/\e.canLay0=true/\d.depth<=60/\Q (.bl (PyData.eqv d e)) H
def qt (K:PySem.W.Frag):R2:=λx y H Q=>∃ d e,DaV K H x d/\DaV K H y e/\d.canLay0=true/\e.canLay0=true/\d.depth<=60/\Q (.bl (!PyData.eqv d e)) H
theorem vL (hu:X.A.units+64<cLine):OpR X (compareOp .Eq) (qr X.K):=by
 intro pins s σ H x y v u Q I rx ry h
 obtain ⟨d,e,h1,h2,c1,c2,dp,q⟩:=h
 obtain ⟨as,r1⟩:=h1.reads I rx
 obtain ⟨bs,r2⟩:=h2.reads I ry
 exact SeqAt.compareEq_reads r1 r2 c1 c2 (by have:=Nat.min_le_left d.depth e.depth;omega) ⟨.bl _,H,I,rfl,q⟩
theorem vM (hu:X.A.units+64<cLine):OpR X (compareOp .NotEq) (qt X.K):=by
 intro pins s σ H x y v u Q I rx ry h
 obtain ⟨d,e,h1,h2,c1,c2,dp,q⟩:=h
 obtain ⟨as,r1⟩:=h1.reads I rx
 obtain ⟨bs,r2⟩:=h2.reads I ry
 exact SeqAt.compareNe_reads r1 r2 c1 c2 (by have:=Nat.min_le_left d.depth e.depth;omega) ⟨.bl _,H,I,rfl,q⟩
end
theorem hU {A:Around} {k:Nat} (hr:Room k A):A.units+64<cLine:=by
 have:=hr.un
 omega
def CG (K:PySem.W.Frag):R2:=λx y H Q=>∃ l b xs zs,x = .ref l/\y = .ref b/\SqL K H l xs/\SqL K H b zs/\xs.length+zs.length<=sizeLine/\∀ p,H p=none->Q (.ref p) (aI H p (.lst (xs++zs)))
theorem CH {X:Cx}:OpR X (binaryOp .Add) (CG X.K):=by
 intro pins s σ H x y v u Q I rx ry h
 obtain ⟨l,b,xs,zs,rfl,rfl,hH,hB,hz,q⟩:=h
 cases rx
 cases ry
 obtain ⟨its,r,⟨o,n,e1,e2,e3,e4⟩,z⟩:=I.list hH
 obtain ⟨its2,r2,⟨o2,n2,g1,g2,g3,g4⟩,z2⟩:=I.list hB
 obtain ⟨oc,od,oda,osl⟩:=o
 obtain ⟨oc2,od2,oda2,osl2⟩:=o2
 dsimp only at e2 e3 e4 g2 g3 g4
 subst e2 e3 e4 g2 g3 g4
 have l1:=r.length
 have l2:=r2.length
 refine concat_meets ⟨_,e1,rfl⟩ ⟨_,g1,rfl⟩ noFill_list_add seq_list_add PySem.F.slot_list_add PySem.F.entry_list_add (PySem.F.args_list_add_2 _ _) (list_addW l b its.toArray its2.toArray n n2 none none osl osl2 (by rw [List.size_toArray,List.size_toArray];omega)) ⟨e1,g1,?_⟩
 have ea:its.toArray++its2.toArray=(its++its2).toArray:=by simp
 rw [ea]
 exact ⟨.ref s.heap.objs.size,_,I.lnew (t' := s.toks) (r.append r2) (by rw [List.length_append];exact hz),rfl,q _ I.fresh⟩
end L2
namespace L2
open PySem PySem.Spec PyProof.Rows
section
variable {X:Cx} {pins:List (Addr×Obj)} {σ:St} {H:Hp} {s:Shared}
open Classical in
def iQ (h:Heap) (d:PyData) (v:Value):Bool:=if q:∃ e as,e.canLay0=true/\Reads h v e as then PyData.eqv q.choose d else false
theorem vN {h:Heap} {d e:PyData} {v:Value} {as:List Addr} (c:e.canLay0=true) (r:Reads h v e as):iQ h d v=PyData.eqv e d:=by
 have q:∃ e as,e.canLay0=true/\Reads h v e as:=⟨e,as,c,r⟩
 unfold iQ
 rw [dif_pos q]
 obtain ⟨as',c',r'⟩:=q.choose_spec
 have z:q.choose=e:=by first | exact (Reads.unique _ _ r' r).1 | exact (Reads.unique r' r).1 | exact Reads.unique _ _ _ _ _ c' r' r | exact PySem.SeqAt.Reads.unique _ _ _ _ _ c' r' r | exact PySem.Reads.unique _ _ _ _ _ c' r' r
 rw [z]
theorem vO (I:Inv X pins σ H s):∀ {xs:List V} {ds:List PyData} {us:List Value},DaVs X.K H xs ds->Vals xs us->us.length=ds.length/\∀ (j:Nat) u d,us[j]? = some u->ds[j]? = some d->∃ as,Reads s.heap u d as
 | _,_,_,.nil,r=>by cases r;exact ⟨rfl,λj u d e=>by cases e⟩
 | _,_,_,.cons h1 h2,r=>by
  cases r with
  | cons r1 r2 =>
   obtain ⟨l,q⟩:=vO I h2 r2
   refine ⟨by rw [List.length_cons,List.length_cons,l],λj u d e1 e2=>?_⟩
   cases j with
   | zero=>cases e1;cases e2;exact h1.reads I r1
   | succ j=>exact q j u d e1 e2
theorem vP {h:Heap} {d:PyData}:∀ {us:List Value} {ds:List PyData},us.length=ds.length->(∀ (j:Nat) u e,us[j]? = some u->ds[j]? = some e->iQ h d u=PyData.eqv e d)->us.any (iQ h d)=ds.any λe=>PyData.eqv e d
 | [],[],_,_=>rfl
 | u::us,e::ds,hl,hh=>by
  rw [List.any_cons,List.any_cons,hh 0 u e rfl rfl,vP (us:=us) (ds:=ds) (Nat.succ.inj hl) λj u' e' a b=>hh (j+1) u' e' a b]
end
end L2
namespace L2
open PySem PySem.Spec PyProof.Rows
section
variable {X:Cx} {tg:Expr}
theorem vQ (ns:List Int):∀ k,k<=ns.length->preSum (λi=>(ns[i]?).getD 0) k=(ns.take k).sum
 | 0,_=>by simp [preSum]
 | k+1,h=>by
  show preSum _ k+(ns[k]?).getD 0=_
  rw [vQ ns k (by omega),List.take_succ,List.sum_append]
  congr 1
  rw [List.getElem?_eq_getElem (by omega)]
  simp
theorem CI (hc:X.calm=true):CallR X (.builtin "sum") (λxs H Q=>∃ (a:Addr) (ns:List Int),xs=[.ref a]/\SqL X.K H a (ns.map V.int)/\Q (.int ns.sum) H):=by
 intro pins s σ H xs us Q I r h
 obtain ⟨l,bs,rfl,hq,q⟩:=h
 obtain ⟨u,rfl,rx⟩:=gu r
 cases rx
 obtain ⟨its,rv,pl,hz⟩:=I.list hq
 have hlt:l<s.heap.objs.size:=by obtain ⟨_,_,e,_⟩:=pl;exact Heap.lt_size e
 have hlen:its.length=bs.length:=by rw [<- rv.length,List.length_map]
 refine call_sum_walkAnyS (wpAny_pyIter_list pl.isList ?_)
 refine ⟨s.heap.objs.size,[s.heap.objs.size,l],[s.heap.objs.size],_,its.toArray.size,_,_,λi=>(bs[i]?).getD 0,rfl,(Walks.list (prog:=X.prog) (w:=X.w) (A:=X.A.in1) (I.ok.hd hc) s.heap.objs.size l (Nat.ne_of_lt hlt) its.toArray).toS,
  ⟨⟨_,Heap.get?_push_size _ rfl,rfl,rfl⟩,pl.isList.push _⟩,λb hb=>?_,λi v hP=>?_,λs' t' hm=>?_⟩
 ·rcases List.mem_cons.mp hb with rfl | hb
  ·exact Heap.lt_size (Heap.get?_push_size _ rfl)
  ·obtain rfl:=List.mem_singleton.mp hb
   obtain ⟨_,_,e,_⟩:=pl
   exact Heap.lt_size (Heap.get?_push_of_some _ e)
 ·have hP':its[i]? = some v:=by simpa using hP
  have hi:i<its.length:=(List.getElem?_eq_some_iff.mp hP').1
  have hb:(bs.map V.int)[i]? = some (V.int (bs[i]'(by omega))):=by rw [List.getElem?_map,List.getElem?_eq_getElem (by omega)];rfl
  obtain ⟨u,hu,ru⟩:=rv.get hb
  rw [hP'] at hu
  cases hu
  obtain ⟨t,rfl⟩:=ru
  refine ⟨t,?_⟩
  show Value.int _ t=Value.int ((bs[i]?).getD 0) t
  rw [List.getElem?_eq_getElem (by omega)];rfl
 ·obtain ⟨h',g',d',tk',os'⟩:=s'
  have e1:g'=s.gens:=hm.gens
  have e2:d'=s.drawn:=hm.drawn
  have e3:os'=s.os:=hm.os
  subst e1 e2 e3
  have e:preSum (λi=>(bs[i]?).getD 0) its.toArray.size=bs.sum:=by
   rw [List.size_toArray,hlen,vQ bs _ (Nat.le_refl _),List.take_of_length_le (Nat.le_refl _)]
  rw [e]
  refine ⟨.int _,H,I.kept (t' := tk') λb o q=>?_,⟨_,rfl⟩,q⟩
  exact hm.heap b o (λhb=>by rw [List.mem_singleton.mp hb] at q;exact Nat.lt_irrefl _ (Heap.lt_size q)) (Heap.get?_push_of_some _ q)
def hV (lo c:Int) (n:Nat):It:=⟨λi _=>i<n,λi H x H' => H'=H/\x = .int (lo+i*c),λi _=>n<=i⟩
theorem CJ {P:Program} {w:World} {K:PySem.W.Frag} {tg:Expr} (it:Addr) (lo c:Int) (n:Nat):eZ P w K tg (hV lo c n) [it] it (λi h=>IsRangeIter h it (lo+(i:Nat)*c) ((n:Int)-(i:Nat)) c) where
 mem:=by simp
 obj:=λi h st b hb=>by
  have e:b=it:=by simpa using hb
  subst e
  exact ⟨_,st,λv z=>by
   have z':Data.fields _=Data.cell v:=z
   cases z'⟩
 keep:=λi h h' st k=>k it (by simp) _ st
 item:=by
  intro X hP hw hK hc i pins s σ H E I hf st hg
  subst hP hw hK
  obtain ⟨f0,f1,f2,f3,f4,f5⟩:=hf it (by simp)
  have W:=Walks.range (prog:=X.prog) (w:=X.w) (I.ok.hd hc) it lo c n
  refine W.item i s _ _ hg st λv h' tk hv st' kk=>?_
  obtain ⟨t,rfl⟩:=hv
  have I1:Inv X pins σ H { s with heap:=h',toks:=tk }:=I.turned (λb o hb e=>kk b o (by simpa using hb) e) f0 f1 f3 f4 f5
  exact ⟨_,rfl,kJ (s:={ s with heap:=h',toks:=tk }) (n := "range_iterator") st' rfl rfl (by decide) ⟨.int (lo+i*c),H,I1,⟨t,rfl⟩,⟨rfl,rfl⟩,st',λb hb=>(hf b hb).1⟩⟩
 done:=by
  intro X hP hw hK hc i pins s σ H E I hf st hg
  subst hP hw hK
  obtain ⟨f0,f1,f2,f3,f4,f5⟩:=hf it (by simp)
  exact wpAny_pyNext_range_end (I.ok.hd hc) st (by have:n<=i:=hg;omega) λh' eb=>⟨rfl,I.turned (t' := s.toks) (λb o hb e=>eb b o hb e) f0 f1 f3 f4 f5⟩
 self:=λ_ _ _ _ _ st h=>wpAny_pyIter_rangeiter st h
theorem CK {a b c:Int} (hc:0<c):Builtin.Range.rangeSize a b c=(((if a<b then (b-a-1) / c+1 else 0:Int).toNat:Nat):Int):=by
 unfold Builtin.Range.rangeSize
 rw [if_pos hc]
 split
 ·have:0<=(b-a-1) / c:=Int.ediv_nonneg (by omega) (by omega)
  omega
 ·rfl
theorem kZ {x:Int} (h:x.natAbs<2 ^ 42):Builtin.Range.rangeFitsLong x=true:=by
 have h2:x.natAbs<4398046511104:=h
 simp only [Builtin.Range.rangeFitsLong,Bool.and_eq_true,decide_eq_true_eq]
 omega
theorem CL {a b c:Int} (ha:a.natAbs<2 ^ 40) (hb:b.natAbs<2 ^ 40) (hc:0<c):(Builtin.Range.rangeSize a b c).natAbs<2 ^ 42:=by
 have ha2:a.natAbs<1099511627776:=ha
 have hb2:b.natAbs<1099511627776:=hb
 show _<4398046511104
 unfold Builtin.Range.rangeSize
 rw [if_pos hc]
 split
 ·have h1:0<=(b-a-1) / c:=Int.ediv_nonneg (by omega) (by omega)
  have h2:(b-a-1) / c<=b-a-1:=Int.ediv_le_self _ (by omega)
  generalize (b-a-1) / c=d at *
  omega
 ·decide
theorem CN {a b c:Int} (ha:a.natAbs<2 ^ 40) (hb:b.natAbs<2 ^ 40) (hc:0<c) (hc':c<2 ^ 20):Builtin.Range.small a b c=true:=by
 have l:(2:Nat) ^ 40<2 ^ 42:=by decide
 unfold Builtin.Range.small
 rw [kZ (Nat.lt_trans ha l),kZ (Nat.lt_trans hb l),kZ (x:=c) (by have h2:c<1048576:=hc';show _<4398046511104;omega),kZ (CL ha hb hc),if_pos hc,kZ (x:=b+(c-1)) (by have h2:c<1048576:=hc';have h3:b.natAbs<1099511627776:=hb;show _<4398046511104;omega)]
 simp
def CO (ta:TA):TI:=λσ H R=>ta σ H λvs H1=>∃ i j c:Int,vs=[.int i,.int j,.int c]/\(i.natAbs<2 ^ 40/\j.natAbs<2 ^ 40/\0<c/\c<2 ^ 20)/\R (hV i c (if i<j then (j-i-1) / c+1 else 0:Int).toNat) H1
theorem CQ {pins:List (Addr×Obj)} {σ:St} {H:Hp} {s:Shared} {R:It->Hp->Prop} {E:Value->Shared->Prop} {lo hi c:Int} {t u v:Tok} {tk:Nat} (I:Inv X pins σ H s) (h1:lo.natAbs<2 ^ 40) (h2:hi.natAbs<2 ^ 40) (h3:0<c) (h4:c<2 ^ 20)
  (q:R (hV lo c (if lo<hi then (hi-lo-1) / c+1 else 0:Int).toNat) H):wpAny (model X.prog X.w) X.A (pyIter (.ref s.heap.objs.size)) (pH X pins σ tg R) E { s with heap:=s.heap.push { cls:=.type "range",data:=.fields #[.int lo t,.int hi u,.int c v] },toks:=tk }:=by
 refine wpAny_pyIter_range (IsRange.new ..) (CN h1 h2 h3 h4) ?_
 have I1:Inv X pins σ H { s with heap:=s.heap.push { cls:=.type "range",data:=.fields #[.int lo t,.int hi u,.int c v] },toks:=tk }:=I.kept λb o e=>Heap.get?_push_of_some _ e
 refine ⟨(s.heap.push { cls:=.type "range",data:=.fields #[.int lo t,.int hi u,.int c v] }).objs.size,[(s.heap.push { cls:=.type "range",data:=.fields #[.int lo t,.int hi u,.int c v] }).objs.size],_,_,H,rfl,
  I1.kept (t' := tk) λb o e=>Heap.get?_push_of_some _ e,CJ _ lo c (if lo<hi then (hi-lo-1) / c+1 else 0:Int).toNat,?_,λb hb=>?_,q⟩
 ·have e1:lo+((0:Nat):Int)*c=lo:=by simp
  have e2:(((if lo<hi then (hi-lo-1) / c+1 else 0:Int).toNat:Nat):Int)-((0:Nat):Int)=Builtin.Range.rangeSize lo hi c:=by rw [CK h3];omega
  show IsRangeIter _ _ (lo+((0:Nat):Int)*c) ((((if lo<hi then (hi-lo-1) / c+1 else 0:Int).toNat:Nat):Int)-((0:Nat):Int)) c
  rw [e1,e2]
  exact Heap.get?_push_size _ rfl
 ·have e:b=(s.heap.push { cls:=.type "range",data:=.fields #[.int lo t,.int hi u,.int c v] }).objs.size:=by simpa using hb
  subst e
  exact I1.fpOk (Nat.le_refl _) (I1.hok.fresh (Nat.le_refl _))
theorem CS {a b c:Expr} {ta:TA} {p pos:Pos} (hg:Gl X "range") (hm:X.mg "range" = none) (ha:PA X [a,b,c] ta) (hs:starEach [a,b,c] X.env=[(false,eval a X.env),(false,eval b X.env),(false,eval c X.env)]:=by rfl) (hs2:starEach [b,c] X.env=[(false,eval b X.env),(false,eval c X.env)]:=by rfl) :
  PI X tg (.Call (.Name "range" p) [a,b,c] [] pos) (CO ta):=by
 intro pins s σ H R I h
 refine Call_ (fU I hg hm boot_range (PyProof.Rows.callWith_type1 (thn (ha pos pins s σ H _ I h) λus s1 Zz=>?_) (by rw [hs,hs2]) (by rw [hs2];rfl)));obtain ⟨vs,H1,I1,r1,q1⟩:=Zz
 obtain ⟨i,j,c,e,⟨q1,q2,q3,q4⟩,q⟩:=q1
 subst e
 cases r1 with
 | cons r rr =>
  cases rr with
  | cons r' rr =>
   cases rr with
   | cons r'' rr =>
    cases rr
    obtain ⟨t,rfl⟩:=r
    obtain ⟨t',rfl⟩:=r'
    obtain ⟨t'',rfl⟩:=r''
    exact call_range_3 (by omega) (CQ I1 q1 q2 q3 q4 q) (.inl (PyProof.noPylong_small (by omega)))
end
end L2
namespace L2
open PySem PySem.Spec PyProof.Rows
open PySem.Builtin PySem.Builtin.Str
section
variable {X:Cx}
def bM (z:Str) (lo hi:Option Int):Str:=⟨((z.cps.toList.drop (HT.sIx z.cps.toList.length 0 lo)).take (HT.sIx z.cps.toList.length z.cps.toList.length hi-HT.sIx z.cps.toList.length 0 lo)).toArray⟩
theorem m8 (n d:Nat) (i:Int):max 0 (min (if i<0 then i+(n:Int) else i) (n:Int))=((HT.sIx n d (some i):Nat):Int):=by
 show max 0 (min (if i<0 then i+(n:Int) else i) (n:Int))=(((if i<0 then (i+(n:Int)).toNat else min i.toNat n):Nat):Int)
 split<;>omega
theorem m9 {a b:Int} {A B:Nat} (ha:a=A) (hb:b=B):sliceRange a b 1=(List.range (B-A)).map λk=>A+k:=by
 subst ha hb
 unfold sliceRange
 simp only [show (1:Int) > 0 by decide,if_true]
 have:(if (A:Int)<(B:Int) then ((B:Int)-A+1-1) / 1 else 0).toNat=B-A:=by
  split<;>(try simp only [Int.ediv_one])<;>omega
 rw [this]
 apply List.map_congr_left
 intro k _
 omega
theorem CT (xs:List Nat) (i k:Nat):(List.range k).filterMap (λm=>xs[i+m]?)=(xs.drop i).take k:=by
 induction k generalizing i with
 | zero=>simp
 | succ k ih =>
  rw [List.range_succ_eq_map,List.filterMap_cons,List.filterMap_map]
  have e:((λm=>xs[i+m]?) ∘ Nat.succ)=λm=>xs[(i+1)+m]? := by
   funext m;show xs[i+(m+1)]? = _;congr 1;omega
  rw [e,ih (i+1)]
  cases h:xs[i]? with
  | none =>
   have hl:xs.length<=i:=List.getElem?_eq_none_iff.mp h
   simp only [Nat.add_zero,h]
   rw [List.drop_of_length_le (by omega),List.drop_of_length_le hl];simp
  | some v =>
   have hi:=(List.getElem?_eq_some_iff.mp h).1
   simp only [Nat.add_zero,h]
   rw [List.drop_eq_getElem_cons hi,List.take_succ_cons]
   congr 1
   exact (Option.some.inj ((List.getElem?_eq_getElem hi).symm.trans h)).symm
theorem CU (n:Nat) (lo hi:Option Int):strSliceIndices lo hi 1 n=(List.range (HT.sIx n n hi-HT.sIx n 0 lo)).map λk=>HT.sIx n 0 lo+k:=by
 cases lo with
 | none =>
  cases hi with
  | none=>exact m9 rfl rfl
  | some j=>exact m9 rfl (m8 n n j)
 | some i =>
  cases hi with
  | none=>exact m9 (m8 n 0 i) rfl
  | some j=>exact m9 (m8 n 0 i) (m8 n n j)
theorem CV (z:Str) (lo hi:Option Int):Txt.slice z lo hi=bM z lo hi:=by
 have hz:z.length=z.cps.toList.length:=by simp [Str.length]
 unfold Txt.slice bM
 rw [hz,CU,List.filterMap_map]
 have e:((λx=>z.cps[x]?) ∘ λk=>HT.sIx z.cps.toList.length 0 lo+k)=λm=>z.cps.toList[HT.sIx z.cps.toList.length 0 lo+m]? := by
  funext m;simp
 rw [e,CT]
 split
 ·rename_i hc
  simp only [beq_self_eq_true,Bool.true_and,beq_iff_eq,List.length_map,List.length_range] at hc
  have h1:HT.sIx z.cps.toList.length z.cps.toList.length hi<=z.cps.toList.length:=HT.sIx_le _ _ (Nat.le_refl _) _
  have h2:HT.sIx z.cps.toList.length 0 lo=0\/z.cps.toList.length=0:=by omega
  rw [hc]
  rcases h2 with h2 | h2
  ·rw [h2,List.drop_zero,List.take_of_length_le (Nat.le_refl _)]
  ·have:z.cps.toList=[]:=List.eq_nil_of_length_eq_zero h2
   have h3:z.cps = #[]:=by simpa using this
   simp [h3]
   cases z;simp_all
 ·rfl
theorem vR {v:Value} {o:Option Int} (p:IsPart v o):∃ l:Option (Int×Tok),v=partValue l/\l.map (·.1)=o:=by
 cases p with
 | none=>exact ⟨none,rfl,rfl⟩
 | int i t=>exact ⟨some (i,t),rfl,rfl⟩
theorem CW:SlR X (λx lo hi H Q=>∃ z,x = .str z/\z.length<=sizeLine/\Q (.str (bM z lo hi)) H):=by
 intro pins s σ H x v vl vu lo hi sl Q I rx hs pl pu h
 obtain ⟨z,rfl,hz,q⟩:=h
 obtain ⟨t,rfl⟩:=rx
 obtain ⟨l,rfl,rfl⟩:=vR pl
 obtain ⟨u,rfl,rfl⟩:=vR pu
 refine ⟨"str",_,F.slot_str_getitem.lookup,typeIs_str _ _ _,?_⟩
 refine wpAny_getItem_str_slice (l:=l) (u:=u) (st:=none) hs rfl ?_
 refine post_val_or_str ⟨Nat.le_trans (Txt.slice_le z (l.map (·.1)) (u.map (·.1))) hz,λt' k=>?_⟩
 have e:=CV z (l.map (·.1)) (u.map (·.1))
 refine ⟨.str (bM z (l.map (·.1)) (u.map (·.1))),H,I.tok _,⟨t',?_⟩,q⟩
 rw [<- e];rfl
end
end L2
namespace L2
open PySem PySem.Spec PyProof.Rows
open PySem.Builtin PySem.Builtin.Str
theorem CY:bootBuiltins "reversed" = some (.type "reversed"):=by decide +kernel
def qu (K:PySem.W.Frag) (a:Addr) (n:Nat):It :=
 ⟨λi H=>∃ xs x,SqL K H a xs/\xs.length=n/\i<n/\xs[n-1-i]? = some x,λi H x H' => H'=H/\∀ xs,SqL K H a xs->xs[n-1-i]? = some x,λi _=>n<=i⟩
theorem CZ {P:Program} {w:World} {K:PySem.W.Frag} {tg:Expr} (a it:Addr) (n:Nat):eZ P w K tg (qu K a n) [it] it (λi h=>i<=n/\h.IsRevIter it a ((n:Int)-1-(i:Int))) where
 mem:=by simp
 obj:=λi h st b hb=>by
  have e:b=it:=by simpa using hb
  subst e
  obtain ⟨_,o,e,c,d⟩:=st
  exact ⟨o,e,λv z=>by rw [d] at z;cases z⟩
 keep:=λi h h' st k=>⟨st.1,st.2.at λo e=>k it (by simp) o e⟩
 item:=by
  intro X hP hw hK hc i pins s σ H E I hf st hg
  subst hP hw hK
  obtain ⟨xs,x,hq,hn,hi,hx⟩:=hg
  obtain ⟨its,rv,p,hz⟩:=I.list hq
  obtain ⟨u,hu,ru⟩:=rv.get hx
  obtain ⟨f0,f1,f2,f3,f4,f5⟩:=hf it (by simp)
  have e:(n:Int)-1-(i:Int)=((n-1-i:Nat):Int):=by omega
  have st2:=st.2
  rw [e] at st2
  refine wpAny_pyNext_rev_item st2 p.isList (x:=u) (by simpa using hu) λh' st' sb=>?_
  have I1:Inv X pins σ H { s with heap:=h' }:=I.turned (t' := s.toks) (λb o hb e=>(sb.2 b hb).trans e) f0 f1 f3 f4 f5
  have e2:((n-1-i:Nat):Int)-1=(n:Int)-1-((i+1:Nat):Int):=by omega
  rw [e2] at st'
  obtain ⟨o,eo,c,d⟩:=id st'
  exact ⟨u,rfl,kJ (s:={ s with heap:=h' }) eo c d (by decide) ⟨x,H,I1,ru,⟨rfl,λys hy=>by rw [I.list_inj hy hq];exact hx⟩,⟨hi,st'⟩,λb hb=>(hf b hb).1⟩⟩
 done:=by
  intro X hP hw hK hc i pins s σ H E I hf st hg
  subst hP hw hK
  obtain ⟨f0,f1,f2,f3,f4,f5⟩:=hf it (by simp)
  have hg':n<=i:=hg
  have e:(n:Int)-1-(i:Int) = -1:=by have:=st.1;omega
  have st2:=st.2
  rw [e] at st2
  exact wpAny_pyNext_rev_end (I.ok.hd hc) st2 λh' eb=>⟨rfl,I.turned (t' := s.toks) (λb o hb e=>eb b o hb e) f0 f1 f3 f4 f5⟩
 self:=λ_ _ _ _ _ st h=>wpAny_pyIter_revIter st.2 h
def qv (K:PySem.W.Frag) (ta:TA):TI:=λσ H R=>ta σ H λvs H1=>∃ a xs,vs=[.ref a]/\SqL K H1 a xs/\R (qu K a xs.length) H1
section
variable {X:Cx} {tg:Expr}
theorem C4 {a:Expr} {ta:TA} {p pos:Pos} (hg:Gl X "reversed") (hm:X.mg "reversed" = none) (ha:PA X [a] ta) (hs:starEach [a] X.env=[(false,eval a X.env)]:=by rfl):PI X tg (.Call (.Name "reversed" p) [a] [] pos) (qv X.K ta):=by
 intro pins s σ H R I h
 refine Call_ (fU I hg hm CY (PyProof.Rows.callWith_type1 (thn (ha pos pins s σ H _ I h) λus s1 Zz=>?_) hs rfl));obtain ⟨vs,H1,I1,r1,q1⟩:=Zz
 obtain ⟨a,xs,rfl,hq,q⟩:=q1
 obtain ⟨u,rfl,rx⟩:=gu r1
 cases rx
 obtain ⟨its,rv,pl,hz⟩:=I1.list hq
 have hl:=rv.length
 refine call_reversed_list pl.isList ?_
 have it:(s1.heap.push (revObj a ((its.toArray.size:Int)-1))).IsRevIter s1.heap.objs.size a ((xs.length:Int)-1-((0:Nat):Int)):=by
  have e:(xs.length:Int)-1-((0:Nat):Int)=(its.toArray.size:Int)-1:=by rw [List.size_toArray,<- hl];omega
  rw [e]
  exact ⟨_,Heap.get?_push_size _ rfl,rfl,rfl⟩
 have I2:Inv X pins σ H1 { s1 with heap:=s1.heap.push (revObj a ((its.toArray.size:Int)-1)) }:=I1.kept (t' := s1.toks) λb o e=>Heap.get?_push_of_some _ e
 refine wpAny_pyIter_revIter it ?_
 refine ⟨s1.heap.objs.size,[s1.heap.objs.size],_,_,H1,rfl,I2,CZ a s1.heap.objs.size xs.length,⟨Nat.zero_le _,it⟩,λb hb=>?_,q⟩
 have e:b=s1.heap.objs.size:=by simpa using hb
 subst e
 exact I1.fpOk (Nat.le_refl _) (I1.hok.fresh (Nat.le_refl _))
theorem C5:fV X "str.upper" (λx vs H Q=>∃ z,x = .str z/\vs=[]/\(Txt.upper z).length<=sizeLine/\Q (.str (Txt.upper z)) H):=by
 intro pins s σ H x vs v us Q I rx rv h
 obtain ⟨z,rfl,rfl,hl,q⟩:=h
 obtain ⟨t,rfl⟩:=rx
 cases rv
 exact call_gives F.slot_str_upper (typeIs_str s z t) F.entry_str_upper (F.args_str_upper_1 _) (gives_str_upper z t (decide_eq_false (Nat.not_lt.mpr hl))) ⟨hl,.str _,H,I.tok _,⟨_,rfl⟩,q⟩
end
end L2
namespace Sm
open PySem L2
theorem E6x {α β γ:Type} {p q r:α->β->γ->Prop} {R:Prop} (h:∀ a b c,p a b c->q a b c->r a b c->R):(∃ a b c,p a b c/\q a b c/\r a b c)->R:=λ⟨a,b,c,x,y,z⟩=>h a b c x y z
inductive AV where
 | non | bl (b:Bool) | int (i:Int) | str (x:Str)
 | tup (xs:List AV)
 | fl (xs:List AV)
 | ref (n:Nat)
 | exc (c:Nat)
 deriving Inhabited
inductive AO where
 | lst (xs:List AV)
 | dct (t:Bool) (kvs:List (AV×AV))
 | dcx (kvs:List (AV×AV))
 | ins (c:Nat) (fs:List (Option AV))
abbrev AH:=List AO
abbrev En:=List (Option AV)
inductive Out (α:Type) where
 | ok (a:α) (h:AH)
 | ex (c:Nat) (h:AH)
 | bad
@[simp] def Out.bind {α β:Type} (o:Out α) (f:α->AH->Out β):Out β :=
 match o with
 | .ok a h=>f a h
 | .ex c h=>.ex c h
 | .bad=>.bad
inductive dY where
 | nx (e:En) (h:AH)
 | rt (v:AV) (h:AH)
 | bk (e:En) (h:AH)
 | ct (e:En) (h:AH)
 | ex (c:Nat) (e:En) (h:AH)
 | bad
abbrev SE:=En->AH->Out AV
abbrev SB:=En->AH->Out Bool
abbrev SL:=En->AH->Out (List AV)
abbrev SS:=En->AH->dY
abbrev Fn:=List AV->AH->Out AV
@[simp] def Out.go {α:Type} (o:Out α) (e:En) (f:α->AH->dY):dY :=
 match o with
 | .ok a h=>f a h
 | .ex c h=>.ex c e h
 | .bad=>.bad
structure Tb where
 K:PySem.W.Frag
 cls:Nat->Option Addr
 exc:Nat->Option Addr
 fields:Nat->List Str
 nd:∀ c,(fields c).Nodup
 few:∀ c,(fields c).length<=500
def KL (K:PySem.W.Frag) (a:Addr) (xs:List V):Prop:=∃ (o:Obj) (its:Array Value) (n:Nat),K.lookup a=some o/\o.cls = .type "list" /\ o.dict=none/\o.data = .seq its n/\its.size<=sizeLine/\Vals xs its.toList
structure Ix where
 refs:List Addr
 priv:List Addr
def Ix.all (ι:Ix):List Addr:=ι.refs++ι.priv
def C6 (c:Nat):Int:=((c / 64:Nat):Int)-1
def XdOk (ι:Ix) (H:Hp) (c:Nat) (dx:Option Addr):Prop:=64<=c->∃ d,dx=some d/\d∉ι.all/\H d=some (.xd [("row",.int (C6 c))])
def qw (T:Tb) (ι:Ix) (H:Hp) (c:Nat) (C:Addr×Option Addr):Prop:=T.exc c=some C.1/\XdOk ι H c C.2
theorem C7 {ι:Ix} {H:Hp} {c:Nat} {dx:Option Addr} (h:c<64):XdOk ι H c dx:=λz=>absurd h (Nat.not_lt_of_le z)
mutual
inductive RV (T:Tb) (ι:Ix) (H:Hp):AV->V->Prop
 | non:RV T ι H .non .non
 | bl (b:Bool):RV T ι H (.bl b) (.bl b)
 | int (i:Int):RV T ι H (.int i) (.int i)
 | str {x:Str} (n:x.length<=sizeLine) (o:x.cps.all (· < 0x110000)=true):RV T ι H (.str x) (.str x)
 | tup {xs:List AV} {us:List V} {a:Addr} (n:a∉ι.all) (h:H a=some (.tup us)) (r:RVs T ι H xs us):RV T ι H (.tup xs) (.ref a)
 | fl {xs:List AV} {us:List V} {a:Addr} (n:a∉ι.all) (h:Rd H a (.lst us)) (r:RVs T ι H xs us):RV T ι H (.fl xs) (.ref a)
 | kfl {xs:List AV} {us:List V} {a:Addr} (h:KL T.K a us) (r:RVs T ι H xs us):RV T ι H (.fl xs) (.ref a)
 | ref {k:Nat} {a:Addr} (h:ι.refs[k]? = some a):RV T ι H (.ref k) (.ref a)
 | exc {c:Nat} {C:Addr×Option Addr} {a:Addr} (n:a∉ι.all) (h:qw T ι H c C) (q:H a=some (dX a (.ref C.1) C.2)):RV T ι H (.exc c) (.ref a)
inductive RVs (T:Tb) (ι:Ix) (H:Hp):List AV->List V->Prop
 | nil:RVs T ι H [] []
 | cons {x:AV} {u:V} {xs:List AV} {us:List V} (r:RV T ι H x u) (rs:RVs T ι H xs us):RVs T ι H (x::xs) (u::us)
end
structure Grow (ι:Ix) (H:Hp) (ι':Ix) (H':Hp):Prop where
 pre:∃ n,ι'.refs=ι.refs++n/\∀ a∈n,H a=none
 priv:ι'.priv=ι.priv
 keep:∀ a o,a∉ι.refs->H a=some o->H' a=some o
 live:∀ a∈ι.all,H' a≠none
theorem vS:∀ {l:List Addr} {i j:Nat} {a:Addr},l.Nodup->l[i]? = some a->l[j]? = some a->i=j
 | [],_,_,_,_,e,_=>by simp at e
 | x::l,0,0,_,_,_,_=>rfl
 | x::l,0,j+1,a,n,e,f=>by
  simp at e f;subst e
  exact absurd (List.mem_of_getElem? f) (List.nodup_cons.mp n).1
 | x::l,i+1,0,a,n,e,f=>by
  simp at e f;subst f
  exact absurd (List.mem_of_getElem? e) (List.nodup_cons.mp n).1
 | x::l,i+1,j+1,a,n,e,f=>by
  simp at e f
  rw [vS (List.nodup_cons.mp n).2 e f]
theorem Ix.nr {ι:Ix} {a:Addr} (h:a∉ι.all):a∉ι.refs:=λz=>h (List.mem_append_left _ z)
theorem Ix.np {ι:Ix} {a:Addr} (h:a∉ι.all):a∉ι.priv:=λz=>h (List.mem_append_right _ z)
theorem Grow.refl {ι:Ix} {H:Hp} (l:∀ a∈ι.all,H a≠none):Grow ι H ι H:=⟨⟨[],by simp,by simp⟩,rfl,λ_ _ _ e=>e,l⟩
theorem Grow.at {ι ι':Ix} {H H':Hp} (g:Grow ι H ι' H') {k:Nat} {a:Addr} (h:ι.refs[k]? = some a):ι'.refs[k]? = some a:=by
 obtain ⟨n,e,_⟩:=g.pre
 rw [e,List.getElem?_append_left (List.getElem?_eq_some_iff.mp h).1]
 exact h
theorem Grow.outR {ι ι':Ix} {H H':Hp} (g:Grow ι H ι' H') {a:Addr} {o:HO} (n:a∉ι.refs) (e:H a=some o):a∉ι'.refs:=λz=>by
 obtain ⟨m,e',hm⟩:=g.pre
 rw [e'] at z
 rcases List.mem_append.mp z with z | z
 ·exact n z
 ·rw [hm a z] at e;cases e
theorem Grow.out {ι ι':Ix} {H H':Hp} (g:Grow ι H ι' H') {a:Addr} {o:HO} (n:a∉ι.all) (e:H a=some o):a∉ι'.all:=λz=>by
 rcases List.mem_append.mp z with z | z
 ·exact g.outR (Ix.nr n) e z
 ·rw [g.priv] at z;exact Ix.np n z
theorem Grow.trans {ι ι' ι'':Ix} {H H' H'':Hp} (g:Grow ι H ι' H') (k:Grow ι' H' ι'' H''):Grow ι H ι'' H'' := by
 obtain ⟨n,e1,hn⟩:=g.pre
 obtain ⟨m,e2,hm⟩:=k.pre
 refine ⟨⟨n++m,by rw [e2,e1];simp,λa ha=>?_⟩,k.priv.trans g.priv,λa o na e=>k.keep a o (g.outR na e) (g.keep a o na e),λa ha=>k.live a ?_⟩
 ·rcases List.mem_append.mp ha with z | z
  ·exact hn a z
  ·have q:=hm a z
   by_cases hi:a∈ι.refs
   ·exact absurd q (g.live a (List.mem_append_left _ hi))
   ·cases e:H a with
    | none=>rfl
    | some o=>rw [g.keep a o hi e] at q;cases q
 ·rcases List.mem_append.mp ha with z | z
  ·exact List.mem_append_left _ (by rw [e1];exact List.mem_append_left _ z)
  ·exact List.mem_append_right _ (by rw [g.priv];exact z)
structure Ext (ι:Ix) (H:Hp) (ι':Ix) (H':Hp):Prop where
 at_:∀ {k:Nat} {a:Addr},ι.refs[k]? = some a->ι'.refs[k]? = some a
 keep:∀ a o,a∉ι.all->H a=some o->H' a=some o
 out:∀ a o,a∉ι.all->H a=some o->a∉ι'.all
theorem Grow.ext {ι ι':Ix} {H H':Hp} (g:Grow ι H ι' H'):Ext ι H ι' H' := ⟨g.at,λa o n e=>g.keep a o (Ix.nr n) e,λa o n e=>g.out n e⟩
theorem Ext.trans {ι ι' ι'':Ix} {H H' H'':Hp} (g:Ext ι H ι' H') (k:Ext ι' H' ι'' H''):Ext ι H ι'' H'' :=
 ⟨λe=>k.at_ (g.at_ e),λa o n e=>k.keep a o (g.out a o n e) (g.keep a o n e),λa o n e=>k.out a o (g.out a o n e) (g.keep a o n e)⟩
theorem XdOk.ext {ι ι':Ix} {H H':Hp} {c:Nat} {dx:Option Addr} (x:XdOk ι H c dx) (g:Ext ι H ι' H'):XdOk ι' H' c dx:=λz=>by
 obtain ⟨d,e,n,q⟩:=x z
 exact ⟨d,e,g.out _ _ n q,g.keep _ _ n q⟩
theorem vT {ι ι':Ix} {H H':Hp} (g:Ext ι H ι' H') {a:Addr} {u:HO} (n:a∉ι.all) (r:Rd H a u):Rd H' a u:=by
 rcases r with r | ⟨o,r⟩
 ·exact .inl (g.keep a _ n r)
 ·exact .inr ⟨o,g.keep a _ n r⟩
theorem C8 {ι ι':Ix} {H H':Hp} (g:Ext ι H ι' H') {a:Addr} {u:HO} (n:a∉ι.all) (r:Rd H a u):a∉ι'.all:=by
 rcases r with r | ⟨o,r⟩
 ·exact g.out _ _ n r
 ·exact g.out _ _ n r
mutual
theorem RV.ext {T:Tb} {ι ι':Ix} {H H':Hp} (g:Ext ι H ι' H'):∀ {x:AV} {u:V},RV T ι H x u->RV T ι' H' x u
 | _,_,.non=>.non
 | _,_,.bl b=>.bl b
 | _,_,.int i=>.int i
 | _,_,.str n o=>.str n o
 | _,_,.tup n h r=>.tup (g.out _ _ n h) (g.keep _ _ n h) (RVs.ext g r)
 | _,_,.fl n h r=>.fl (C8 g n h) (vT g n h) (RVs.ext g r)
 | _,_,.kfl h r=>.kfl h (RVs.ext g r)
 | _,_,.ref h=>.ref (g.at_ h)
 | _,_,.exc n h q=>.exc (g.out _ _ n q) ⟨h.1,h.2.ext g⟩ (g.keep _ _ n q)
theorem RVs.ext {T:Tb} {ι ι':Ix} {H H':Hp} (g:Ext ι H ι' H'):∀ {xs:List AV} {us:List V},RVs T ι H xs us->RVs T ι' H' xs us
 | _,_,.nil=>.nil
 | _,_,.cons r rs=>.cons (RV.ext g r) (RVs.ext g rs)
end
theorem RV.mono {T:Tb} {ι ι':Ix} {H H':Hp} (g:Grow ι H ι' H') {x:AV} {u:V} (r:RV T ι H x u):RV T ι' H' x u:=r.ext g.ext
theorem RVs.mono {T:Tb} {ι ι':Ix} {H H':Hp} (g:Grow ι H ι' H') {xs:List AV} {us:List V} (r:RVs T ι H xs us):RVs T ι' H' xs us:=r.ext g.ext
section
variable {T:Tb} {ι:Ix} {H:Hp}
theorem RVs.length:∀ {xs:List AV} {us:List V},RVs T ι H xs us->xs.length=us.length
 | _,_,.nil=>rfl
 | _,_,.cons _ rs=>by simp [RVs.length rs]
theorem RVs.get:∀ {xs:List AV} {us:List V} {i:Nat} {x:AV},RVs T ι H xs us->xs[i]? = some x->∃ u,us[i]? = some u/\RV T ι H x u
 | _,_,_,_,.nil,e=>by simp at e
 | _,_,0,_,.cons r _,e=>by simp at e;subst e;exact ⟨_,rfl,r⟩
 | _,_,i+1,x,.cons _ t,e=>by
  obtain ⟨u,h1,h2⟩:=RVs.get (i:=i) (x:=x) t (by simpa using e)
  exact ⟨u,by simpa using h1,h2⟩
theorem RVs.append:∀ {xs ys:List AV} {us ws:List V},RVs T ι H xs us->RVs T ι H ys ws->RVs T ι H (xs++ys) (us++ws)
 | _,_,_,_,.nil,s=>s
 | _,_,_,_,.cons r t,s=>.cons r (RVs.append t s)
theorem RVs.set {x:AV} {u:V} (r:RV T ι H x u):∀ {xs:List AV} {us:List V} (i:Nat),RVs T ι H xs us->RVs T ι H (xs.set i x) (us.set i u)
 | _,_,_,.nil=>.nil
 | _,_,0,.cons _ t=>.cons r t
 | _,_,i+1,.cons q t=>.cons q (RVs.set r i t)
theorem RVs.take:∀ {xs:List AV} {us:List V} (n:Nat),RVs T ι H xs us->RVs T ι H (xs.take n) (us.take n)
 | _,_,0,_=>by simpa using RVs.nil
 | _,_,_+1,.nil=>.nil
 | _,_,n+1,.cons r t=>.cons r (RVs.take n t)
theorem RVs.drop:∀ {xs:List AV} {us:List V} (n:Nat),RVs T ι H xs us->RVs T ι H (xs.drop n) (us.drop n)
 | _,_,0,r=>r
 | _,_,_+1,.nil=>.nil
 | _,_,n+1,.cons _ t=>RVs.drop n t
end
def kA:aF->AV
 | .inl i=>.int i
 | .inr x=>.str x
def OR (T:Tb) (ι:Ix) (H:Hp):AO->HO->Prop
 | .lst xs,o=>∃ us,o = .lst us/\RVs T ι H xs us
 | .dct false kvs,o=>∃ kus:List (aF×V),o = .dK kus/\Paired (λ(p:AV×AV) (q:aF×V)=>p.1=kA q.1/\RV T ι H p.2 q.2) kvs kus
 | .dct true kvs,o=>∃ kus:List (List aF×V),o = .dT none kus/\Paired (λ(p:AV×AV) (q:List aF×V)=>p.1 = .tup (q.1.map kA)/\RV T ι H p.2 q.2) kvs kus
 | .dcx kvs,o=>∃ (ads:List Addr) (kus:List (List aF×V)),o = .dT (some ads) kus/\ads.length=kus.length/\Paired (λ(p:AV×AV) (q:Addr×List aF×V)=>p.1 = .tup (q.2.1.map kA)/\RV T ι H p.1 (.ref q.1)/\RV T ι H p.2 q.2.2) kvs (ads.zip kus)
 | .ins c fs,o=>∃ C dx fus,T.cls c=some C/\o = .ins C dx fus/\(fus.map (·.1)).Nodup/\(∀ p∈fus,p.1∈T.fields c)/\fs.length=(T.fields c).length /\
   ∀ (i:Nat) (v:AV),fs[i]? = some (some v)->∃ f u,(T.fields c)[i]? = some f/\fus.lookup f=some u/\RV T ι H v u
theorem OR.mono {T:Tb} {ι ι':Ix} {H H':Hp} (g:Grow ι H ι' H') {o:AO} {u:HO} (h:OR T ι H o u):OR T ι' H' o u:=by
 cases o with
 | lst xs=>obtain ⟨us,e,r⟩:=h;exact ⟨us,e,r.mono g⟩
 | dct t kvs =>
  cases t with
  | false=>obtain ⟨us,e,r⟩:=h;exact ⟨us,e,Paired.mapP r λ_ _ ⟨a,b⟩=>⟨a,b.mono g⟩⟩
  | true=>obtain ⟨us,e,r⟩:=h;exact ⟨us,e,Paired.mapP r λ_ _ ⟨a,b⟩=>⟨a,b.mono g⟩⟩
 | dcx kvs=>obtain ⟨ads,us,e,l,r⟩:=h;exact ⟨ads,us,e,l,Paired.mapP r λ_ _ ⟨a,b,c⟩=>⟨a,b.mono g,c.mono g⟩⟩
 | ins c fs =>
  obtain ⟨C,dx,fus,a,b,n,w,l,r⟩:=h
  refine ⟨C,dx,fus,a,b,n,w,l,λi v e=>?_⟩
  obtain ⟨f,u,e1,e2,q⟩:=r i v e
  exact ⟨f,u,e1,e2,q.mono g⟩
structure Sim (T:Tb) (ι:Ix) (h:AH) (H:Hp):Prop where
 len:ι.refs.length=h.length
 nd:ι.refs.Nodup
 plive:∀ a∈ι.priv,H a≠none
 obj:∀ (i:Nat) (o:AO) (a:Addr),h[i]? = some o->ι.refs[i]? = some a->∃ u,H a=some u/\OR T ι H o u
section
variable {T:Tb} {ι:Ix} {h:AH} {H:Hp}
theorem Sim.live (S:Sim T ι h H):∀ a∈ι.all,H a≠none:=λa ha z=>by
 rcases List.mem_append.mp ha with ha | ha
 ·obtain ⟨i,hi⟩:=List.mem_iff_getElem?.mp ha
  have hl:i<h.length:=by rw [<- S.len];exact (List.getElem?_eq_some_iff.mp hi).1
  obtain ⟨u,e,_⟩:=S.obj i h[i] a (by simp [hl]) hi
  rw [z] at e;cases e
 ·exact S.plive a ha z
theorem Sim.refl (S:Sim T ι h H):Grow ι H ι H:=.refl S.live
theorem Sim.fresh (S:Sim T ι h H) {p:Addr} (n:H p=none):p∉ι.all:=λz=>S.live p z n
theorem Sim.still (S:Sim T ι h H) {H':Hp} (g:Grow ι H ι H') (k:∀ a∈ι.refs,H' a=H a):Sim T ι h H' :=
 ⟨S.len,S.nd,λa ha=>g.live a (List.mem_append_right _ ha),λi o a e1 e2=>by
  obtain ⟨u,e,r⟩:=S.obj i o a e1 e2
  exact ⟨u,by rw [k a (List.mem_of_getElem? e2)];exact e,r.mono g⟩⟩
theorem Sim.growNew (S:Sim T ι h H) {p:Addr} {o:HO} (n:H p=none):Grow ι H ι (aI H p o) :=
 ⟨⟨[],by simp,by simp⟩,rfl,λa u _ e=>by rw [bg (eV e n)];exact e,λa ha=>by
  rw [bg (show a≠p from λz=>S.fresh n (z▸ha))];exact S.live a ha⟩
theorem Sim.new (S:Sim T ι h H) {p:Addr} {o:HO} (n:H p=none):Sim T ι h (aI H p o) :=
 S.still (S.growNew n) λa ha=>bg λz=>S.fresh n (z▸List.mem_append_left _ ha)
def Ix.add (ι:Ix) (p:Addr):Ix:=⟨ι.refs++[p],ι.priv⟩
theorem Sim.growAdd (S:Sim T ι h H) {p:Addr} {u:HO} (n:H p=none):Grow ι H (ι.add p) (aI H p u) :=
 ⟨⟨[p],rfl,λa ha=>by have e:a=p:=(by simpa using ha);rw [e];exact n⟩,rfl,(S.growNew n).keep,(S.growNew n).live⟩
theorem Sim.add (S:Sim T ι h H) {p:Addr} {u:HO} {o:AO} (n:H p=none) (r:OR T (ι.add p) (aI H p u) o u):Sim T (ι.add p) (h++[o]) (aI H p u):=by
 refine ⟨by simp [Ix.add,S.len],?_,λa ha=>(S.growNew n).live a (List.mem_append_right _ ha),λi o' a e1 e2=>?_⟩
 ·show (ι.refs++[p]).Nodup
  rw [List.nodup_append]
  exact ⟨S.nd,by simp,λa ha b hb z=>by have e:b=p:=(by simpa using hb);subst e;subst z;exact S.fresh n (List.mem_append_left _ ha)⟩
 ·replace e2:(ι.refs++[p])[i]? = some a:=e2
  by_cases hi:i<h.length
  ·rw [List.getElem?_append_left hi] at e1
   rw [List.getElem?_append_left (by rw [S.len];exact hi)] at e2
   obtain ⟨v,e,q⟩:=S.obj i o' a e1 e2
   exact ⟨v,by rw [bg (eV e n)];exact e,q.mono (S.growAdd n)⟩
  ·have e3:i=h.length:=by
    have:=(List.getElem?_eq_some_iff.mp e1).1
    simp at this;omega
   subst e3
   rw [List.getElem?_append_right (Nat.le_refl _)] at e1
   rw [List.getElem?_append_right (by rw [S.len];exact Nat.le_refl _),S.len] at e2
   simp at e1 e2
   subst e1 e2
   exact ⟨u,dU,r⟩
theorem Sim.addAt (S:Sim T ι h H) {p:Addr}:(ι.add p).refs[h.length]? = some p:=by
 show (ι.refs++[p])[h.length]? = some p
 rw [<- S.len];simp
theorem Sim.growSet (S:Sim T ι h H) {i:Nat} {a:Addr} {u:HO} (e:ι.refs[i]? = some a):Grow ι H ι (aI H a u) :=
 ⟨⟨[],by simp,by simp⟩,rfl,λb o nb q=>by rw [bg (show b≠a from λz=>nb (by rw [z];exact List.mem_of_getElem? e))];exact q,λb hb=>by
  by_cases z:b=a
  ·subst z;rw [dU];simp
  ·rw [bg z];exact S.live b hb⟩
theorem Sim.set (S:Sim T ι h H) {i:Nat} {a:Addr} {u:HO} {o:AO} (e:ι.refs[i]? = some a) (r:OR T ι (aI H a u) o u):Sim T ι (h.set i o) (aI H a u):=by
 refine ⟨by simp [S.len],S.nd,λb hb=>(S.growSet e).live b (List.mem_append_right _ hb),λj o' b e1 e2=>?_⟩
 by_cases hj:j=i
 ·subst hj
  rw [e] at e2;cases e2
  have hl:j<h.length:=by rw [<- S.len];exact (List.getElem?_eq_some_iff.mp e).1
  rw [List.getElem?_set_self hl] at e1;cases e1
  exact ⟨u,dU,r⟩
 ·rw [List.getElem?_set_ne (Ne.symm hj)] at e1
  obtain ⟨v,q,r'⟩:=S.obj j o' b e1 e2
  have ne:b≠a:=λz=>hj (by
   subst z
   exact vS S.nd e2 e)
  exact ⟨v,by rw [bg ne];exact q,r'.mono (S.growSet e)⟩
end
def Ix.hide (ι:Ix) (D:Addr):Ix:=⟨ι.refs,D::ι.priv⟩
theorem Ix.hide_all {ι:Ix} {D a:Addr}:a∉(ι.hide D).all ↔ a∉ι.all/\a≠D:=by
 unfold Ix.all Ix.hide
 simp only [List.mem_append,List.mem_cons]
 constructor
 ·intro h;exact ⟨λz=>h (z.elim .inl λz=>.inr (.inr z)),λz=>h (.inr (.inl z))⟩
 ·rintro ⟨h1,h2⟩ (z | z | z)
  ·exact h1 (.inl z)
  ·exact h2 z
  ·exact h1 (.inr z)
section
variable {T:Tb} {ι:Ix} {H:Hp} {D:Addr}
theorem Ext.hide {o:HO} (hn:H D=none):Ext ι H (ι.hide D) (aI H D o):=⟨λe=>e,λa u n e=>by rw [bg (eV e hn)];exact e,λa u n e=>Ix.hide_all.mpr ⟨n,eV e hn⟩⟩
theorem Ext.poke {o:HO}:Ext (ι.hide D) H (ι.hide D) (aI H D o):=⟨λe=>e,λa u n e=>by rw [bg (Ix.hide_all.mp n).2];exact e,λa u n e=>n⟩
theorem Ext.show:Ext (ι.hide D) H ι H:=⟨λe=>e,λa u n e=>e,λa u n e=>(Ix.hide_all.mp n).1⟩
theorem Ext.adopt:Ext (ι.hide D) H (ι.add D) H:=⟨λ{k a} e=>by
 show (ι.refs++[D])[k]? = some a
 replace e:ι.refs[k]? = some a:=e
 rw [List.getElem?_append_left (List.getElem?_eq_some_iff.mp e).1];exact e,λa u n e=>e,λa u n e z=>by
 rcases List.mem_append.mp z with z | z
 ·replace z:a∈ι.refs++[D]:=z
  rcases List.mem_append.mp z with z | z
  ·exact (Ix.hide_all.mp n).1 (List.mem_append_left _ z)
  ·exact (Ix.hide_all.mp n).2 (by simpa using z)
 ·exact (Ix.hide_all.mp n).1 (List.mem_append_right _ z)⟩
theorem OR.ext {ι ι':Ix} {H H':Hp} (g:Ext ι H ι' H') {o:AO} {u:HO} (h:OR T ι H o u):OR T ι' H' o u:=by
 cases o with
 | lst xs=>obtain ⟨us,e,r⟩:=h;exact ⟨us,e,r.ext g⟩
 | dct t kvs =>
  cases t with
  | false=>obtain ⟨us,e,r⟩:=h;exact ⟨us,e,Paired.mapP r λ_ _ ⟨a,b⟩=>⟨a,b.ext g⟩⟩
  | true=>obtain ⟨us,e,r⟩:=h;exact ⟨us,e,Paired.mapP r λ_ _ ⟨a,b⟩=>⟨a,b.ext g⟩⟩
 | dcx kvs=>obtain ⟨ads,us,e,l,r⟩:=h;exact ⟨ads,us,e,l,Paired.mapP r λ_ _ ⟨a,b,c⟩=>⟨a,b.ext g,c.ext g⟩⟩
 | ins c fs =>
  obtain ⟨C,dx,fus,a,b,n,w,l,r⟩:=h
  refine ⟨C,dx,fus,a,b,n,w,l,λi v e=>?_⟩
  obtain ⟨f,u,e1,e2,q⟩:=r i v e
  exact ⟨f,u,e1,e2,q.ext g⟩
theorem Sim.hide {h:AH} {o:HO} (S:Sim T ι h H) (hn:H D=none):Sim T (ι.hide D) h (aI H D o) :=
 ⟨S.len,S.nd,λa ha=>by
  rcases List.mem_cons.mp ha with rfl | ha
  ·rw [dU];simp
  ·rw [bg (show a≠D from λz=>S.plive a ha (z▸hn))];exact S.plive a ha,λi o' a e1 e2=>by
  obtain ⟨u,e,r⟩:=S.obj i o' a e1 e2
  exact ⟨u,by rw [bg (eV e hn)];exact e,r.ext (Ext.hide hn)⟩⟩
theorem Sim.poke {h:AH} {o:HO} (S:Sim T (ι.hide D) h H) (hr:D∉ι.refs):Sim T (ι.hide D) h (aI H D o) :=
 ⟨S.len,S.nd,λa ha=>by
  by_cases z:a=D
  ·subst z;rw [dU];simp
  ·rw [bg z];exact S.plive a ha,λi o' a e1 e2=>by
  obtain ⟨u,e,r⟩:=S.obj i o' a e1 e2
  have ne:a≠D:=λz=>hr (z▸List.mem_of_getElem? e2)
  exact ⟨u,by rw [bg ne];exact e,r.ext Ext.poke⟩⟩
theorem Sim.show {h:AH} (S:Sim T (ι.hide D) h H):Sim T ι h H :=
 ⟨S.len,S.nd,λa ha=>S.plive a (List.mem_cons_of_mem _ ha),λi o' a e1 e2=>by
  obtain ⟨u,e,r⟩:=S.obj i o' a e1 e2
  exact ⟨u,e,r.ext Ext.show⟩⟩
theorem Sim.adopt {h:AH} {u:HO} {o:AO} (S:Sim T (ι.hide D) h H) (hr:D∉ι.refs) (e:H D=some u) (r:OR T (ι.add D) H o u):Sim T (ι.add D) (h++[o]) H:=by
 have hlen:ι.refs.length=h.length:=S.len
 refine ⟨by simp [Ix.add,hlen],?_,λa ha=>S.plive a (List.mem_cons_of_mem _ ha),λi o' a e1 e2=>?_⟩
 ·show (ι.refs++[D]).Nodup
  rw [List.nodup_append]
  exact ⟨S.nd,by simp,λa ha b hb z=>by have e:b=D:=(by simpa using hb);subst e;subst z;exact hr ha⟩
 ·replace e2:(ι.refs++[D])[i]? = some a:=e2
  by_cases hi:i<h.length
  ·rw [List.getElem?_append_left hi] at e1
   rw [List.getElem?_append_left (by rw [hlen];exact hi)] at e2
   obtain ⟨v,e,q⟩:=S.obj i o' a e1 e2
   exact ⟨v,e,q.ext Ext.adopt⟩
  ·have e3:i=h.length:=by
    have:=(List.getElem?_eq_some_iff.mp e1).1
    simp at this;omega
   subst e3
   rw [List.getElem?_append_right (Nat.le_refl _)] at e1
   rw [List.getElem?_append_right (by rw [hlen];exact Nat.le_refl _),hlen] at e2
   simp at e1 e2
   subst e1 e2
   exact ⟨u,e,r⟩
end
def ER (T:Tb) (ι:Ix) (H:Hp) (e:En) (σ:St):Prop:=e.length=σ.length/\∀ (i:Nat) (v:AV),e[i]? = some (some v)->∃ u,σ[i]? = some (some u)/\RV T ι H v u
theorem ER.mono {T:Tb} {ι ι':Ix} {H H':Hp} {e:En} {σ:St} (r:ER T ι H e σ) (g:Grow ι H ι' H'):ER T ι' H' e σ :=
 ⟨r.1,λi v q=>let ⟨u,a,b⟩:=r.2 i v q;⟨u,a,b.mono g⟩⟩
theorem ER.ext {T:Tb} {ι ι':Ix} {H H':Hp} {e:En} {σ:St} (r:ER T ι H e σ) (g:Ext ι H ι' H'):ER T ι' H' e σ :=
 ⟨r.1,λi v q=>let ⟨u,a,b⟩:=r.2 i v q;⟨u,a,b.ext g⟩⟩
theorem ER.set {T:Tb} {ι:Ix} {H:Hp} {e:En} {σ:St} (r:ER T ι H e σ) {v:AV} {u:V} (q:RV T ι H v u) (i:Nat):ER T ι H (e.set i (some v)) (σ.set i (some u)):=by
 refine ⟨by simp [r.1],λj w z=>?_⟩
 by_cases hj:j=i
 ·subst hj
  by_cases hl:j<e.length
  ·rw [List.getElem?_set_self hl] at z;cases z
   exact ⟨u,by rw [List.getElem?_set_self (by rw [<- r.1];exact hl)],q⟩
  ·rw [List.getElem?_eq_none (by simpa using hl)] at z;cases z
 ·rw [List.getElem?_set_ne (Ne.symm hj)] at z ⊢
  exact r.2 j w z
theorem ER.unset {T:Tb} {ι:Ix} {H:Hp} {e:En} {σ:St} (r:ER T ι H e σ) (i:Nat):ER T ι H (e.set i none) (σ.set i none):=by
 refine ⟨by simp [r.1],λj w z=>?_⟩
 by_cases hj:j=i
 ·subst hj
  by_cases hl:j<e.length
  ·rw [List.getElem?_set_self hl] at z;cases z
  ·rw [List.getElem?_eq_none (by simpa using hl)] at z;cases z
 ·rw [List.getElem?_set_ne (Ne.symm hj)] at z ⊢
  exact r.2 j w z
def Post {α β:Type} (T:Tb) (ι:Ix) (H:Hp) (E:XK) (R:Ix->Hp->α->β->Prop) (o:Out α) (Q:β->Hp->Prop):Prop :=
 match o with
 | .ok v h' => ∀ ι' H' u,Grow ι H ι' H'->Sim T ι' h' H'->R ι' H' v u->Q u H'
 | .ex c h' => ∀ ι' H' C,Grow ι H ι' H'->Sim T ι' h' H'->qw T ι' H' c C->E (.ref C.1) C.2 H'
 | .bad=>False
def PostS (T:Tb) (ι:Ix) (H:Hp) (E:St->XK) (o:dY) (D:cM):Prop :=
 match o with
 | .nx e h' => ∀ ι' H' σ',Grow ι H ι' H'->Sim T ι' h' H'->ER T ι' H' e σ'->D.nx σ' H'
 | .bk e h' => ∀ ι' H' σ',Grow ι H ι' H'->Sim T ι' h' H'->ER T ι' H' e σ'->D.bk σ' H'
 | .ct e h' => ∀ ι' H' σ',Grow ι H ι' H'->Sim T ι' h' H'->ER T ι' H' e σ'->D.ct σ' H'
 | .rt v h' => ∀ ι' H' u,Grow ι H ι' H'->Sim T ι' h' H'->RV T ι' H' v u->D.rt u H'
 | .ex c e h' => ∀ ι' H' σ' C,Grow ι H ι' H'->Sim T ι' h' H'->ER T ι' H' e σ'->qw T ι' H' c C->E σ' (.ref C.1) C.2 H'
 | .bad=>False
abbrev C9 {α:Type}:Ix->Hp->α->α->Prop:=λ_ _ a b=>a=b
section
variable {T:Tb} {ι ι':Ix} {h:AH} {H H':Hp} {α β γ δ:Type} {E:XK} {R:Ix->Hp->α->β->Prop} {R':Ix->Hp->γ->δ->Prop}
theorem Post.shift {o:Out α} {Q:β->Hp->Prop} (p:Post T ι H E R o Q) (g:Grow ι H ι' H'):Post T ι' H' E R o Q:=by
 cases o with
 | ok v h' => exact λi2 H2 u g2=>p i2 H2 u (g.trans g2)
 | ex c h' => exact λi2 H2 C g2=>p i2 H2 C (g.trans g2)
 | bad=>exact p
theorem Post.bind {o:Out α} {f:α->AH->Out γ} {Q:δ->Hp->Prop} {Q1:β->Hp->Prop} (p:Post T ι H E R' (o.bind f) Q)
  (k:∀ v h' ι' H' u,Grow ι H ι' H'->Sim T ι' h' H'->R ι' H' v u->Post T ι' H' E R' (f v h') Q->Q1 u H'):Post T ι H E R o Q1:=by
 cases o with
 | ok v h' => exact λi2 H2 u g S r=>k v h' i2 H2 u g S r (Post.shift p g)
 | ex c h' => exact p
 | bad=>exact p
theorem Post.now {v:α} {u:β} {Q:β->Hp->Prop} (p:Post T ι H E R (.ok v h) Q) (S:Sim T ι h H) (r:R ι H v u):Q u H:=p ι H u S.refl S r
theorem PostS.shift {E:St->XK} {o:dY} {D:cM} (p:PostS T ι H E o D) (g:Grow ι H ι' H'):PostS T ι' H' E o D:=by
 cases o with
 | nx e h' => exact λi2 H2 u g2=>p i2 H2 u (g.trans g2)
 | bk e h' => exact λi2 H2 u g2=>p i2 H2 u (g.trans g2)
 | ct e h' => exact λi2 H2 u g2=>p i2 H2 u (g.trans g2)
 | rt v h' => exact λi2 H2 u g2=>p i2 H2 u (g.trans g2)
 | ex c e h' => exact λi2 H2 u C g2=>p i2 H2 u C (g.trans g2)
 | bad=>exact p
theorem PostS.go {E:St->XK} {o:Out α} {en:En} {σ:St} {f:α->AH->dY} {D:cM} {Q1:β->Hp->Prop} (p:PostS T ι H E (o.go en f) D) (er:ER T ι H en σ)
  (k:∀ v h' ι' H' u,Grow ι H ι' H'->Sim T ι' h' H'->R ι' H' v u->PostS T ι' H' E (f v h') D->Q1 u H'):Post T ι H (E σ) R o Q1:=by
 cases o with
 | ok v h' => exact λi2 H2 u g S r=>k v h' i2 H2 u g S r (PostS.shift p g)
 | ex c h' => exact λi2 H2 C g S e=>p i2 H2 σ C g S (er.mono g) e
 | bad=>exact p
end
def tE (T:Tb) (E:St->XK) (a:SE):TE:=λσ H Q=>∃ ι h en,Sim T ι h H/\ER T ι H en σ/\Post T ι H (E σ) (RV T) (a en h) Q
def tT (T:Tb) (E:St->XK) (a:SB):TT:=λσ H Q=>∃ ι h en,Sim T ι h H/\ER T ι H en σ/\Post T ι H (E σ) C9 (a en h) Q
def tA (T:Tb) (E:St->XK) (a:SL):TA:=λσ H Q=>∃ ι h en,Sim T ι h H/\ER T ι H en σ/\Post T ι H (E σ) (RVs T) (a en h) Q
def tS (T:Tb) (E:St->XK) (b:SS):TS:=λD σ H=>∃ ι h en,Sim T ι h H/\ER T ι H en σ/\PostS T ι H E (b en h) D
abbrev aG (T:Tb) (E:St->XK) (X:Cx) (e:Expr) (a:SE):Prop:=PE X e (tE T E a)
abbrev fC (T:Tb) (E:St->XK) (X:Cx) (e:Expr) (a:SB):Prop:=PT X e (tT T E a)
abbrev jx (T:Tb) (E:St->XK) (X:Cx) (e:Expr) (a:SB):Prop:=PW X e (tT T E a)
abbrev fW (T:Tb) (E:St->XK) (X:Cx) (es:List Expr) (a:SL):Prop:=PA X es (tA T E a)
abbrev dP (T:Tb) (E:St->XK) (X:Cx) (st:Stmt) (b:SS):Prop:=PS X st (tS T E b)
abbrev bN (T:Tb) (E:St->XK) (X:Cx) (sts:List Stmt) (b:SS):Prop:=eX X sts (tS T E b)
theorem bW {X:Cx} {e:Expr} {t t':TE} (h:PE X e t) (k:∀ σ H Q,t' σ H Q->t σ H Q):PE X e t' := λpins s σ H Q I q=>h pins s σ H Q I (k σ H Q q)
theorem qx {X:Cx} {e:Expr} {t t':TT} (h:PT X e t) (k:∀ σ H Q,t' σ H Q->t σ H Q):PT X e t' := λpins s σ H Q I q=>h pins s σ H Q I (k σ H Q q)
theorem vU {X:Cx} {e:Expr} {t t':TT} (h:PW X e t) (k:∀ σ H Q,t' σ H Q->t σ H Q):PW X e t' := λw pins s σ H Q I q=>h w pins s σ H Q I (k σ H Q q)
theorem vV {X:Cx} {e:List Expr} {t t':TA} (h:PA X e t) (k:∀ σ H Q,t' σ H Q->t σ H Q):PA X e t' := λp pins s σ H Q I q=>h p pins s σ H Q I (k σ H Q q)
theorem fg {X:Cx} {e:Stmt} {t t':TS} (h:PS X e t) (k:∀ D σ H,t' D σ H->t D σ H):PS X e t' := λpins s σ H D I q=>h pins s σ H D I (k D σ H q)
theorem vW {X:Cx} {e:List Stmt} {t t':TS} (h:eX X e t) (k:∀ D σ H,t' D σ H->t D σ H):eX X e t' := λpins s σ H D I q=>h pins s σ H D I (k D σ H q)
theorem qy {X:Cx} {st:Stmt} {t:TS} (h:PS X.nox st t):PS X st t:=λpins s σ H D I hw=>by
 refine wpAny_mono (h pins s σ H D (I.wish _) hw) (λf s' q=>SP.unwish q) λ_ _ z=>z.elim
end Sm
namespace Sm
open PySem L2
instance:DecidableEq AV:=λ_ _=>Classical.propDecidable _
@[simp] def aa (i:Nat):SE:=λen h=>match en[i]? with
 | some (some v)=>.ok v h
 | _=>.bad
@[simp] def ae (v:AV):SE:=λ_ h=>.ok v h
abbrev F1:=AV->AH->Out AV
abbrev F2:=AV->AV->AH->Out AV
@[simp] def dZ (f:F1) (a:SE):SE:=λen h=>(a en h).bind f
@[simp] def ag (f:F2) (a b:SE):SE:=λen h=>(a en h).bind λx h1=>(b en h1).bind λy h2=>f x y h2
@[simp] def af:SL:=λ_ h=>.ok [] h
@[simp] def ai (a:SE) (r:SL):SL:=λen h=>(a en h).bind λx h1=>(r en h1).bind λxs h2=>.ok (x::xs) h2
@[simp] def aD (F:Fn) (as:SL):SE:=λen h=>(as en h).bind F
@[simp] def hX (as:SL):SE:=λen h=>(as en h).bind λxs h1=>if xs.length<=1000 then .ok (.tup xs) h1 else .bad
@[simp] def aM (as:SL):SE:=λen h=>(as en h).bind λxs h1=>if xs.length<=1000 then .ok (.fl xs) h1 else .bad
@[simp] def fv (as:SL):SE:=λen h=>(as en h).bind λxs h1=>if xs.length<=1000 then .ok (.ref h1.length) (h1++[.lst xs]) else .bad
@[simp] def gQ (t:Bool):SE:=λ_ h=>.ok (.ref h.length) (h++[.dct t []])
@[simp] def II (v:AV) (h:AH):Option (List AV):=match v with
 | .tup xs=>some xs
 | .fl xs=>some xs
 | .ref n=>match h[n]? with
  | some (.lst xs)=>some xs
  | _=>none
 | _=>none
@[simp] def dC (v:AV) (h:AH):Option (List AV):=match v with
 | .fl xs=>some xs
 | .ref n=>match h[n]? with
  | some (.lst xs)=>some xs
  | _=>none
 | _=>none
@[simp] def ar:F2:=λx y h=>match x,y with
 | .int i,.int j=>.ok (.int (i+j)) h
 | .str i,.str j=>if i.length+j.length<=sizeLine then .ok (.str (i++j)) h else .bad
 | .tup xs,.tup ys=>if xs≠[]/\xs.length+ys.length<=sizeLine then .ok (.tup (xs++ys)) h else .bad
 | x,y=>match dC x h,dC y h with
  | some xs,some ys=>if xs.length+ys.length<=sizeLine then .ok (.fl (xs++ys)) h else .bad
  | _,_=>.bad
@[simp] def cI:F2:=λx y h=>match x,y with
 | .int i,.int j=>.ok (.int (i-j)) h
 | _,_=>.bad
@[simp] def bx:F2:=λx y h=>match x,y with
 | .int i,.int j=>if (i.natAbs<2 ^ 64\/j.natAbs<2 ^ 64)\/(i.natAbs<2 ^ 4000/\j.natAbs<2 ^ 4000) then .ok (.int (i*j)) h else .bad
 | _,_=>.bad
@[simp] def fD:F2:=λx y h=>match x,y with
 | .int i,.int j=>if 0<j/\j.natAbs<2 ^ 200 then .ok (.int (i / j)) h else .bad
 | _,_=>.bad
@[simp] def cJ:F2:=λx y h=>match x,y with
 | .int i,.int j=>if 0<j then .ok (.int (i % j)) h else .bad
 | _,_=>.bad
@[simp] def bP:F2:=λx y h=>match x,y with
 | .int i,.int j=>if 0<=j/\j<=1000000/\i.natAbs<2 ^ 64 then .ok (.int (i ^ j.toNat)) h else .bad
 | _,_=>.bad
@[simp] def dD:F1:=λx h=>match x with
 | .int i=>.ok (.int (-i)) h
 | _=>.bad
def bQ (f:AV->Option PyData):List AV->Option (List PyData)
 | []=>some []
 | x::xs=>match f x,bQ f xs with
  | some d,some ds=>some (d::ds)
  | _,_=>none
def bT:Nat->AH->AV->Option PyData
 | 0,_,v=>match v with
  | .non=>some .none
  | .bl b=>some (.bool b)
  | .int i=>some (.int i)
  | .str x=>some (.str x)
  | _=>none
 | n+1,h,v=>match v with
  | .non=>some .none
  | .bl b=>some (.bool b)
  | .int i=>some (.int i)
  | .str x=>some (.str x)
  | .tup xs=>(bQ (bT n h) xs).map .tuple
  | .fl xs=>(bQ (bT n h) xs).map .list
  | .ref k=>match h[k]? with
   | some (.lst xs)=>(bQ (bT n h) xs).map .list
   | _=>none
  | .exc _=>none
@[simp] def gy (x y:AV) (h:AH):Option Bool:=match x,y with
 | .int i,.int j=>some (decide (i=j))
 | .str i,.str j=>some (decide (i=j))
 | .bl i,.bl j=>some (decide (i=j))
 | .non,.non=>some true
 | x,y=>match bT 8 h x,bT 8 h y with
  | some d,some e=>some (PyData.eqv d e)
  | _,_=>none
@[simp] def aY:F2:=λx y h=>match gy x y h with
 | some b=>.ok (.bl b) h
 | none=>.bad
@[simp] def bj:F2:=λx y h=>match gy x y h with
 | some b=>.ok (.bl (!b)) h
 | none=>.bad
@[simp] def gR:F2:=λx y h=>match x,y with
 | .int i,.int j=>.ok (.bl (decide (i<j))) h
 | .str i,.str j=>.ok (.bl (decide (i.cps.toList<j.cps.toList))) h
 | _,_=>.bad
@[simp] def gz:F2:=λx y h=>match x,y with
 | .int i,.int j=>.ok (.bl (decide (i<=j))) h
 | .str i,.str j=>.ok (.bl (!decide (j.cps.toList<i.cps.toList))) h
 | _,_=>.bad
@[simp] def iR:F2:=λx y h=>match x,y with
 | .int i,.int j=>.ok (.bl (decide (j<i))) h
 | _,_=>.bad
@[simp] def qz:F2:=λx y h=>match x,y with
 | .int i,.int j=>.ok (.bl (decide (j<=i))) h
 | _,_=>.bad
@[simp] def jy:F2:=λx y h=>match y with
 | .non=>.ok (.bl (decide (x = .non))) h
 | _=>.bad
@[simp] def jz (v:AV) (h:AH):Option Bool:=match v with
 | .non=>some false
 | .bl b=>some b
 | .int i=>some (i != 0)
 | .str y=>some ((y.length:Int) != 0)
 | .tup xs=>some (!xs.isEmpty)
 | .fl xs=>some (!xs.isEmpty)
 | .ref n=>match h[n]? with
  | some (.lst xs)=>some (!xs.isEmpty)
  | some (.dct false kvs)=>some (!kvs.isEmpty)
  | _=>none
 | _=>none
@[simp] def iS (a:SE):SB:=λen h=>(a en h).bind λv h1=>match jz v h1 with
 | some b=>.ok b h1
 | none=>.bad
@[simp] def aS (a:SE):SB:=λen h=>(a en h).bind λv h1=>match v with
 | .bl b=>.ok b h1
 | _=>.bad
@[simp] def k6 (a b:SB):SB:=λen h=>(a en h).bind λx h1=>if x=true then b en h1 else .ok false h1
@[simp] def qA (a b:SB):SB:=λen h=>(a en h).bind λx h1=>if x=true then .ok true h1 else b en h1
@[simp] def fE (a:SB):SB:=λen h=>(a en h).bind λx h1=>.ok (!x) h1
@[simp] def ng (a b:SE):SE:=λen h=>(a en h).bind λv h1=>match v with
 | .bl k=>if k=true then b en h1 else .ok (.bl false) h1
 | _=>.bad
@[simp] def k7 (a b:SE):SE:=λen h=>(a en h).bind λv h1=>match v with
 | .bl k=>if k=true then .ok (.bl true) h1 else b en h1
 | _=>.bad
@[simp] def vX (a:SE):SE:=λen h=>(a en h).bind λv h1=>match v with
 | .bl b=>.ok (.bl (!b)) h1
 | _=>.bad
@[simp] def k8 (f f':F2) (a b c:SE):SE:=λen h=>(a en h).bind λx h1=>(b en h1).bind λy h2=>(f x y h2).bind λz h3=>match z with
 | .bl k=>if k=true then (c en h3).bind λw h4=>f' y w h4 else .ok (.bl false) h3
 | _=>.bad
@[simp] def bI:SS:=λen h=>.nx en h
@[simp] def ak (a b:SS):SS:=λen h=>match a en h with
 | .nx e h' => b e h'
 | o=>o
@[simp] def bR (a:SE):SS:=λen h=>(a en h).go en λ_ h' => .nx en h'
@[simp] def aA (a:SE):SS:=λen h=>(a en h).go en λv h' => .rt v h'
@[simp] def bo (c:SB) (a b:SS):SS:=λen h=>(c en h).go en λx h' => if x=true then a en h' else b en h'
@[simp] def au (i:Nat) (a:SE):SS:=λen h=>(a en h).go en λv h' => .nx (en.set i (some v)) h'
def d5 (c:SB) (b:SS):Nat->SS
 | 0=>λ_ _=>.bad
 | n+1=>λen h=>match c en h with
  | .ok true h1=>(match b en h1 with
   | .nx e2 h2=>d5 c b n e2 h2
   | .ct e2 h2=>d5 c b n e2 h2
   | .bk e2 h2=>.nx e2 h2
   | .rt v h2=>.rt v h2
   | _=>.bad)
  | .ok false h1=>.nx en h1
  | _=>.bad
abbrev SI:=En->AH->Out (List AV×Option Nat)
@[simp] def cS (w:Option Nat) (xs:List AV) (h:AH):Bool:=match w with
 | none=>true
 | some n=>match h[n]? with
  | some (.lst ys)=>decide (ys=xs)
  | _=>false
inductive Tg where
 | nm (i:Nat)
 | tup (is:List Nat)
 | nst (i:Nat) (is:List Nat)
@[simp] def qB:List Nat->List AV->En->Option En
 | [],[],en=>some en
 | i::is,x::xs,en=>qB is xs (en.set i (some x))
 | _,_,_=>none
@[simp] def dE (t:Tg) (v:AV) (en:En):Option En:=match t,v with
 | .nm i,v=>some (en.set i (some v))
 | .tup is,.tup xs=>qB is xs en
 | .nst i is,.tup [y,.tup xs]=>qB is xs (en.set i (some y))
 | _,_=>none
def du (w:Option Nat) (all:List AV) (t:Tg) (b:SS):List AV->SS
 | []=>λen h=>if cS w all h=true then .nx en h else .bad
 | x::xs=>λen h=>if cS w all h=true then
   (match dE t x en with
   | some e1=>(match b e1 h with
    | .nx e2 h2=>du w all t b xs e2 h2
    | .ct e2 h2=>du w all t b xs e2 h2
    | .bk e2 h2=>.nx e2 h2
    | .rt v h2=>.rt v h2
    | _=>.bad)
   | none=>.bad) else .bad
@[simp] def bp (it:SI) (t:Tg) (b:SS):SS:=λen h=>match it en h with
 | .ok (xs,w) h1=>du w xs t b xs en h1
 | _=>.bad
@[simp] def aO (a:SE):SI:=λen h=>(a en h).bind λv h1=>match v with
 | .fl xs=>.ok (xs,none) h1
 | .tup xs=>.ok (xs,none) h1
 | .str z=>.ok (z.cps.toList.map (λc=>.str ⟨#[c]⟩),none) h1
 | .ref n=>match h1[n]? with
  | some (.lst xs)=>.ok (xs,some n) h1
  | _=>.bad
 | _=>.bad
def cT (lo:Int):Nat->List AV
 | 0=>[]
 | n+1=>.int lo::cT (lo+1) n
@[simp] def fF (a:SE):SI:=λen h=>(a en h).bind λv h1=>match v with
 | .int j=>if j.natAbs<2 ^ 62 then .ok (cT 0 j.toNat,none) h1 else .bad
 | _=>.bad
def vY (k:Nat):List AV->List AV
 | []=>[]
 | x::xs=>.tup [.int k,x]::vY (k+1) xs
@[simp] def IJ (a:SE):SI:=λen h=>(a en h).bind λv h1=>match v with
 | .fl xs=>.ok (vY 0 xs,none) h1
 | _=>.bad
def dw (js:List Nat) (en:En) (w:Option Nat) (all:List AV) (c:SB) (e:SE):List AV->List AV->AH->Out (List AV)
 | [],ys,h=>if cS w all h=true then .ok ys h else .bad
 | x::xs,ys,h=>if cS w all h=true/\ys.length<sizeLine then
   (match c (some x::js.map λj=>(en[j]?).join) h with
   | .ok true h1=>(match e (some x::js.map λj=>(en[j]?).join) h1 with
    | .ok v h2=>dw js en w all c e xs (ys++[v]) h2
    | _=>.bad)
   | .ok false h1=>dw js en w all c e xs ys h1
   | _=>.bad) else .bad
@[simp] def bq:SB:=λ_ h=>.ok true h
@[simp] def c3 (js:List Nat) (it:SI) (c:SB) (e:SE):SE:=λen h=>match it en h with
 | .ok (xs,w) h1=>(match dw js en w xs c e xs [] h1 with
  | .ok ys h2=>.ok (.fl ys) h2
  | _=>.bad)
 | _=>.bad
@[simp] def gS (js:List Nat) (it:SI) (c:SB) (e:SE):SE:=λen h=>match it en h with
 | .ok (xs,w) h1=>(match dw js en w xs c e xs [] h1 with
  | .ok ys h2=>.ok (.ref h2.length) (h2++[.lst ys])
  | _=>.bad)
 | _=>.bad
@[simp] def aC (n m:Nat) (b:SS):Fn:=λargs h =>
 if args.length=n then
  match b (args.map some++List.replicate (m-n) none) h with
  | .nx _ h' => .ok .non h'
  | .rt v h' => .ok v h'
  | .ex c _ h' => .ex c h'
  | _=>.bad
 else .bad
@[simp] def aJ (c:Nat) (F:Fn) (o:SE) (as:SL):SE:=λen h=>(o en h).bind λx h1=>match x with
 | .ref n=>match h1[n]? with
  | some (.ins c' _)=>if c'=c then (as en h1).bind λxs h2=>F (x::xs) h2 else .bad
  | _=>.bad
 | _=>.bad
@[simp] def jA (c k:Nat) (F:Fn) (as:SL):SE:=λen h=>(as en h).bind λxs h1=>match F (.ref h1.length::xs) (h1++[.ins c (List.replicate k none)]) with
 | .ok .non h2=>.ok (.ref h1.length) h2
 | .ex c h2=>.ex c h2
 | _=>.bad
@[simp] def sFld (c i:Nat) (o:SE):SE:=λen h=>(o en h).bind λx h1=>match x with
 | .ref n=>match h1[n]? with
  | some (.ins c' fs)=>if c'=c then (match fs[i]? with | some (some v)=>.ok v h1 | _=>.bad) else .bad
  | _=>.bad
 | _=>.bad
@[simp] def hZ (c i:Nat) (o v:SE):SS:=λen h=>(v en h).go en λy h1=>(o en h1).go en λx h2=>match x with
 | .ref n=>match h2[n]? with
  | some (.ins c' fs)=>if c'=c then .nx en (h2.set n (.ins c (fs.set i (some y)))) else .bad
  | _=>.bad
 | _=>.bad
@[simp] def h9 (c:Nat) (as:SL):SS:=λen h=>(as en h).go en λxs h1=>if xs.length<=1000 then .ex c en h1 else .bad
@[simp] def df (i:Nat) (catches:Nat->Bool) (b hd:SS):SS:=λen h=>match b en h with
 | .ex c e h' => if catches c=true then
   (match hd (e.set i (some (.exc c))) h' with
   | .nx e2 h2=>.nx (e2.set i none) h2
   | .bk e2 h2=>.bk (e2.set i none) h2
   | .ct e2 h2=>.ct (e2.set i none) h2
   | .rt v h2=>.rt v h2
   | _=>.bad) else .bad
 | o=>o
@[simp] def keyOf? (v:AV):Option aF:=match v with
 | .int i=>some (.inl i)
 | .str x=>some (.inr x)
 | _=>none
@[simp] def keysOf? : List AV->Option (List aF)
 | []=>some []
 | v::r=>match keyOf? v,keysOf? r with
  | some k,some ks=>some (k::ks)
  | _,_=>none
@[simp] def d6 (t:Bool) (v:AV):Bool:=match t,v with
 | false,v=>(keyOf? v).isSome
 | true,.tup xs=>(keysOf? xs).isSome
 | true,_=>false
def aP (kvs:List (AV×AV)) (k:AV):Option AV:=(kvs.find? λp=>decide (p.1=k)).map (·.2)
def cN (kvs:List (AV×AV)) (k v:AV):List (AV×AV) :=
 if kvs.any (λp=>decide (p.1=k)) then kvs.map λp=>if p.1=k then (p.1,v) else p else kvs++[(k,v)]
@[simp] def aw:F2:=λx y h=>match x,y with
 | .str z,.int i=>match atI z.cps.toList i with
  | some c=>.ok (.str ⟨#[c]⟩) h
  | none=>.bad
 | .tup xs,.int i=>match atI xs i with
  | some v=>.ok v h
  | none=>.bad
 | .fl xs,.int i=>match atI xs i with
  | some v=>.ok v h
  | none=>.bad
 | .ref n,y=>match h[n]? with
  | some (.lst xs)=>match y with
   | .int i=>match atI xs i with
    | some v=>.ok v h
    | none=>.bad
   | _=>.bad
  | some (.dct t kvs)=>if d6 t y then (match aP kvs y with | some v=>.ok v h | none=>.bad) else .bad
  | _=>.bad
 | _,_=>.bad
@[simp] def dF (o i v:SE):SS:=λen h=>(v en h).go en λz h1=>(o en h1).go en λx h2=>(i en h2).go en λy h3=>match x with
 | .ref n=>match h3[n]? with
  | some (.lst xs)=>match y with
   | .int k=>match hJ xs.length k with
    | some j=>.nx en (h3.set n (.lst (xs.set j z)))
    | none=>.bad
   | _=>.bad
  | some (.dct t kvs)=>if d6 t y=true/\kvs.length<sizeLine then .nx en (h3.set n (.dct t (cN kvs y z))) else .bad
  | _=>.bad
 | _=>.bad
@[simp] def jB (x y:AV) (h:AH):Option Bool:=match x,y with
 | .str i,.str j=>some (!(Builtin.Str.occurrences j i 0 j.length 1).isEmpty)
 | x,.ref n=>match h[n]? with
  | some (.dct t kvs)=>if d6 t x then some (aP kvs x).isSome else none
  | some (.lst xs)=>match bT 8 h x,bQ (bT 8 h) xs with
   | some d,some ds=>some (ds.any λe=>PyData.eqv e d)
   | _,_=>none
  | _=>none
 | x,.fl xs=>match bT 8 h x,bQ (bT 8 h) xs with
  | some d,some ds=>some (ds.any λe=>PyData.eqv e d)
  | _,_=>none
 | x,.tup xs=>match bT 8 h x,bQ (bT 8 h) xs with
  | some d,some ds=>some (ds.any λe=>PyData.eqv e d)
  | _,_=>none
 | _,_=>none
@[simp] def fG:F2:=λx y h=>match jB x y h with
 | some b=>.ok (.bl (!b)) h
 | none=>.bad
@[simp] def br:Fn:=λargs h=>match args with
 | [.str x]=>.ok (.int x.length) h
 | [.tup xs]=>.ok (.int xs.length) h
 | [.fl xs]=>.ok (.int xs.length) h
 | [.ref n]=>match h[n]? with
  | some (.lst xs)=>.ok (.int xs.length) h
  | some (.dct false kvs)=>.ok (.int kvs.length) h
  | _=>.bad
 | _=>.bad
@[simp] def jC:Fn:=λargs h=>match args with
 | [.int i]=>.ok (.int (if i<0 then -i else i)) h
 | _=>.bad
@[simp] def ia:Fn:=λargs h=>match args with
 | [.int i,.int j]=>.ok (.int (if j > i then j else i)) h
 | _=>.bad
@[simp] def gA:Fn:=λargs h=>match args with
 | [.int i,.int j]=>.ok (.int (if j<i then j else i)) h
 | _=>.bad
@[simp] def k9:List AV->Option (List Bool)
 | []=>some []
 | .bl b::r=>(k9 r).map (b :: ·)
 | _::_=>none
@[simp] def jD:Fn:=λargs h=>match args with
 | [.fl xs]=>match k9 xs with
  | some bs=>.ok (.bl (bs.all id)) h
  | none=>.bad
 | _=>.bad
@[simp] def jE:Fn:=λargs h=>match args with
 | [.int i]=>.ok (.int i) h
 | [.bl k]=>.ok (.int (if k then 1 else 0)) h
 | _=>.bad
@[simp] def qC:Fn:=λargs h=>match args with
 | [.tup xs]=>.ok (.fl xs) h
 | [.fl xs]=>.ok (.fl xs) h
 | [.ref n]=>match h[n]? with
  | some (.lst xs)=>.ok (.fl xs) h
  | _=>.bad
 | _=>.bad
@[simp] def qD (v:AV) (h:AH):Option String:=match v with
 | .non=>some "NoneType"
 | .bl _=>some "bool"
 | .int _=>some "int"
 | .str _=>some "str"
 | .tup _=>some "tuple"
 | .fl _=>some "list"
 | .ref n=>match h[n]? with
  | some (.lst _)=>some "list"
  | some (.dct _ _)=>some "dict"
  | _=>none
 | .exc _=>none
@[simp] def ib (t:String) (a:SE):SE:=λen h=>(a en h).bind λv h1=>match qD v h1 with
 | some n=>.ok (.bl (n == t || (t == "int" && n == "bool"))) h1
 | none=>.bad
@[simp] def d7 (p:Nat->Bool) (a:SE):SE:=λen h=>(a en h).bind λv h1=>match v with
 | .exc c=>.ok (.bl (p c)) h1
 | _=>.bad
abbrev FM:=AV->List AV->AH->Out AV
@[simp] def cn (v:AV) (h:AH):Bool:=(dC v h).isSome
@[simp] def nh (v:AV) (_:AH):Bool:=match v with
 | .str _=>true
 | _=>false
@[simp] def d8 (chk:AV->AH->Bool) (f:FM) (o:SE) (as:SL):SE:=λen h=>(o en h).bind λx h1=>if chk x h1=true then (as en h1).bind λxs h2=>f x xs h2 else .bad
@[simp] def jF (chk:AV->AH->Bool) (f:FM) (o:SE):SE:=λen h=>(o en h).bind λx h1=>if chk x h1=true then f x [] h1 else .bad
@[simp] def dG:FM:=λx vs h=>match x,vs with
 | .ref n,[y]=>match h[n]? with
  | some (.lst xs)=>if xs.length<sizeLine then .ok .non (h.set n (.lst (xs++[y]))) else .bad
  | _=>.bad
 | _,_=>.bad
@[simp] def dh:FM:=λx vs h=>match x,vs with
 | .ref n,[]=>match h[n]? with
  | some (.lst xs)=>match xs[xs.length-1]? with
   | some y=>.ok y (h.set n (.lst xs.dropLast))
   | none=>.bad
  | _=>.bad
 | _,_=>.bad
@[simp] def qE:FM:=λx vs h=>match x,vs with
 | .str z,[.str y]=>.ok (.int ((Builtin.Str.occurrences z y 0 z.length (z.length+1)).length:Nat)) h
 | _,_=>.bad
def dH {α:Type} (xs:List α) (lo hi:Option Int):List α:=(xs.drop (HT.sIx xs.length 0 lo)).take (HT.sIx xs.length xs.length hi-HT.sIx xs.length 0 lo)
end Sm
namespace Sm
open PySem L2
structure CA (T:Tb) (E:St->XK) (X:Cx):Prop where
 hK:X.K=T.K
 pass:jw (cf X.prog X.w) X E
abbrev EN:St->XK:=λ_=>E0
theorem CA.nox {T:Tb} {E:St->XK} {X:Cx} (c:CA T E X):CA T EN X.nox:=⟨c.hK,λ_ _ _ _ _ _ _ h=>by
 obtain ⟨_,_,_,_,_,_,_,_,_,_,_,_,_,_,_,_,q⟩:=h
 exact q.elim⟩
theorem CA.never {T:Tb} {X:Cx} (hK:X.K=T.K):CA T EN X:=⟨hK,λ_ _ _ _ _ _ _ h=>by
 obtain ⟨_,_,_,_,_,_,_,_,_,_,_,_,_,_,_,_,q⟩:=h
 exact q.elim⟩
section
variable {T:Tb} {ι:Ix} {h:AH} {H:Hp}
theorem d9 {x:AV} {u:V} {xs:List AV} (S:Sim T ι h H) (r:RV T ι H x u) (e:dC x h=some xs):∃ a us,u = .ref a/\SqL T.K H a us/\RVs T ι H xs us:=by
 unfold dC at e
 cases r with
 | fl n q r=>cases e;exact ⟨_,_,rfl,.inl q,r⟩
 | kfl q r=>cases e;exact ⟨_,_,rfl,.inr q,r⟩
 | @ref k a q =>
  dsimp only at e
  split at e
  ·rename_i ys hk
   cases e
   obtain ⟨u,e1,us,rfl,r⟩:=S.obj k _ a hk q
   exact ⟨a,us,rfl,.inl (.inl e1),r⟩
  ·cases e
 | _=>cases e
theorem jG {u:V} {xs:List AV} (r:RV T ι H (.tup xs) u):∃ a us,u = .ref a/\SqT T.K H a us/\RVs T ι H xs us:=by
 cases r with
 | tup n q r=>exact ⟨_,_,rfl,.of q,r⟩
theorem dI {u:V} {x:Str} (r:RV T ι H (.str x) u):u = .str x/\x.length<=sizeLine/\x.cps.all (· < 0x110000)=true:=by
 cases r with
 | str n o=>exact ⟨rfl,n,o⟩
theorem bB {u:V} {i:Int} (r:RV T ι H (.int i) u):u = .int i:=by cases r;rfl
theorem gT {u:V} {i:Bool} (r:RV T ι H (.bl i) u):u = .bl i:=by cases r;rfl
theorem nj {u:V} (r:RV T ι H .non u):u = .non:=by cases r;rfl
theorem jH {us:List V} {xs:List AV} {p:Addr} {E:XK} {Q:VK} (S:Sim T ι h H) (r:RVs T ι H xs us) (n:H p=none) (q:Post T ι H E (RV T) (.ok (.fl xs) h) Q):Q (.ref p) (aI H p (.lst us)) :=
 q ι _ _ (S.growNew n) (S.new n) (.fl (S.fresh n) (.inl dU) (r.mono (S.growNew n)))
theorem qF {us:List V} {xs:List AV} {p:Addr} {E:XK} {Q:VK} (S:Sim T ι h H) (r:RVs T ι H xs us) (n:H p=none) (q:Post T ι H E (RV T) (.ok (.tup xs) h) Q):Q (.ref p) (aI H p (.tup us)) :=
 q ι _ _ (S.growNew n) (S.new n) (.tup (S.fresh n) dU (r.mono (S.growNew n)))
theorem Da {us:List V} {xs:List AV} {p:Addr} {E:XK} {Q:VK} (S:Sim T ι h H) (r:RVs T ι H xs us) (n:H p=none) (q:Post T ι H E (RV T) (.ok (.ref h.length) (h++[.lst xs])) Q):Q (.ref p) (aI H p (.lst us)) :=
 q _ _ _ (S.growAdd n) (S.add n ⟨us,rfl,r.mono (S.growAdd n)⟩) (.ref S.addAt)
end
section
variable {T:Tb} {E:St->XK} {X:Cx} {pos:Pos}
theorem ah (i:Nat) {x:Str} {p:Pos} (hN:X.N[i]? = some x:=by rfl) (hv:fT X.env.scope x:=by first | exact Or.inl rfl | exact Or.inr (Or.inl rfl) | exact Or.inr (Or.inr rfl)) (hd:(x == ("__debug__" : Str))=false:=by decide)
  (hcd:(x == ("__classdict__" : Str))=false:=by decide):aG T E X (.Name x p) (aa i) :=
 bW (pv i hN hv hd hcd) λσ H Q=>E6x λι h en S er q=>by
  unfold aa at q
  split at q
  ·rename_i v hv
   obtain ⟨u,e,r⟩:=er.2 i v hv
   exact ⟨u,e,q.now S r⟩
  ·exact q.elim
theorem aB {i j p}:aG T E X (.Constant (.int i) j p) (ae (.int i)):=bW zm λσ H Q=>E6x λι h en S er q=>q.now S (.int i)
theorem fh {i j p}:aG T E X (.Constant (.bool i) j p) (ae (.bl i)):=bW zp λσ H Q=>E6x λι h en S er q=>q.now S (.bl i)
theorem vZ {j p}:aG T E X (.Constant .none j p) (ae .non):=bW zq λσ H Q=>E6x λι h en S er q=>q.now S .non
theorem bO {x j p} (n:x.length<=sizeLine:=by decide +kernel) (o:x.cps.all (· < 0x110000)=true:=by decide +kernel):aG T E X (.Constant (.str x) j p) (ae (.str x)):=bW zr λσ H Q=>E6x λι h en S er q=>q.now S (.str n o)
theorem Dc {x:Str} {i:Int} {t:Tok} {p:Pos} (hg:Gl X x) (hm:X.mg x=some (.int i t)) (hd:(x == ("__debug__" : Str))=false:=by decide):aG T E X (.Name x p) (ae (.int i)) :=
 bW (kH (v:=.int i) hg hm ⟨t,rfl⟩ hd) λσ H Q=>E6x λι h en S er q=>q.now S (.int i)
def kb (T:Tb) (f:F2) (r:R2):Prop:=∀ (ι:Ix) (h:AH) (H:Hp) (x y:AV) (u w:V) (E:XK) (Q:VK),Sim T ι h H->RV T ι H x u->RV T ι H y w->Post T ι H E (RV T) (f x y h) Q->r u w H Q
def Op (T:Tb) (X:Cx) (g:Value->Value->Sem Value) (f:F2):Prop:=∃ r,OpR X g r/\kb T f r
variable {a b c:Expr} {sa sb sc:SE}
theorem two {f:F2} {r:R2} (hs:kb T f r) {σ:St} {H:Hp} {Q:VK} (q:tE T E (ag f sa sb) σ H Q):j9 r (tE T E sa) (tE T E sb) σ H Q:=by
 obtain ⟨ι,h,en,S,er,q⟩:=q
 refine ⟨ι,h,en,S,er,q.bind λx h1 ι1 H1 u g1 S1 r1 q1=>⟨ι1,h1,en,S1,er.mono g1,q1.bind λy h2 ι2 H2 w g2 S2 r2 q2=>?_⟩⟩
 exact hs ι2 h2 H2 x y u w _ Q S2 (r1.mono g2) r2 q2
theorem aQ {op:Operator} {f:F2} (ho:Op T X (binaryOp op) f) (ha:aG T E X a sa) (hb:aG T E X b sb):aG T E X (.BinOp a op b pos) (ag f sa sb):=by
 obtain ⟨r,h1,h2⟩:=ho
 exact bW (z8 h1 ha hb) λσ H Q q=>two h2 q
theorem De {i j:Str} (hi:i.cps.all (· < 0x110000)=true) (hj:j.cps.all (· < 0x110000)=true):(i++j).cps.all (· < 0x110000)=true:=by
 show (i.cps++j.cps).all _=true
 rw [Array.all_append,hi,hj];rfl
theorem Df (i j:Str):(i++j).length=i.length+j.length:=by
 show (i.cps++j.cps).size=_
 rw [Array.size_append];rfl
theorem cC (hK:X.K=T.K):Op T X (binaryOp .Add) ar:=by
 refine ⟨_,op_add.or (zgF.or (zjy.or CH)),λι h H x y u w E Q S rx ry p=>?_⟩
 unfold ar at p
 split at p
 ·rw [bB rx,bB ry]
  exact .inl ⟨_,_,rfl,rfl,p.now S (.int _)⟩
 ·split at p
  ·rename_i hz
   obtain ⟨rfl,_,o1⟩:=dI rx
   obtain ⟨rfl,_,o2⟩:=dI ry
   exact .inr (.inl ⟨_,_,rfl,rfl,hz,p.now S (.str (by rw [Df];exact hz) (De o1 o2))⟩)
  ·exact p.elim
 ·split at p
  ·rename_i hz
   obtain ⟨a,us,rfl,q1,r1⟩:=jG rx
   obtain ⟨b,ws,rfl,q2,r2⟩:=jG ry
   refine .inr (.inr (.inl ⟨a,b,us,ws,rfl,rfl,hK▸q1,hK▸q2,λz=>hz.1 ?_,by rw [<- r1.length,<- r2.length];exact hz.2,λz=>?_,λ_ l n=>qF S (r1.append r2) n p⟩))
   ·subst z;cases r1;rfl
   ·subst z;cases r2
    rw [List.append_nil] at p
    exact p.now S rx
  ·exact p.elim
 ·split at p
  ·split at p
   ·rename_i e1 e2 hz
    obtain ⟨a,us,rfl,q1,r1⟩:=d9 S rx e1
    obtain ⟨b,ws,rfl,q2,r2⟩:=d9 S ry e2
    exact .inr (.inr (.inr ⟨a,b,us,ws,rfl,rfl,hK▸q1,hK▸q2,by rw [<- r1.length,<- r2.length];exact hz,λl n=>jH S (r1.append r2) n p⟩))
   ·exact p.elim
  ·exact p.elim
theorem jI:Op T X (binaryOp .Sub) cI:=by
 refine ⟨_,Aa,λι h H x y u w E Q S rx ry p=>?_⟩
 unfold cI at p
 split at p
 ·rw [bB rx,bB ry]
  exact ⟨_,_,rfl,rfl,p.now S (.int _)⟩
 ·exact p.elim
theorem v5 {i:Int} (h:i.natAbs<2 ^ 4000):Builtin.Int.intBits i<=2 ^ 20:=by
 unfold Builtin.Int.intBits
 split
 ·exact Nat.zero_le _
 ·rename_i hz
  have h0:i.natAbs≠0:=λz=>hz (by simpa using z)
  have:i.natAbs.log2<4000:=(Nat.log2_lt h0).mpr h
  exact Nat.le_trans (by omega:i.natAbs.log2+1<=4001) (by decide)
theorem ic:Op T X (binaryOp .Mult) bx:=by
 refine ⟨_,B4,λι h H x y u w E Q S rx ry p=>?_⟩
 unfold bx at p
 split at p
 ·split at p
  ·rename_i hz
   rw [bB rx,bB ry]
   exact ⟨_,_,rfl,rfl,hz.elim (λz=>CMul.ok (z.elim (λz=>.inl ⟨by omega,by omega⟩) (λz=>.inr ⟨by omega,by omega⟩))) (λz=>.of_bits (v5 z.1) (v5 z.2)),p.now S (.int _)⟩
  ·exact p.elim
 ·exact p.elim
theorem v7:Op T X (binaryOp .FloorDiv) fD:=by
 refine ⟨_,B3,λι h H x y u w E Q S rx ry p=>?_⟩
 unfold fD at p
 split at p
 ·split at p
  ·rename_i hz
   rw [bB rx,bB ry]
   exact ⟨_,_,rfl,rfl,⟨hz.1,by omega⟩,p.now S (.int _)⟩
  ·exact p.elim
 ·exact p.elim
theorem jJ:Op T X (binaryOp .Mod) cJ:=by
 refine ⟨_,Ab,λι h H x y u w E Q S rx ry p=>?_⟩
 unfold cJ at p
 split at p
 ·split at p
  ·rename_i hz
   rw [bB rx,bB ry]
   exact ⟨_,_,rfl,rfl,hz,p.now S (.int _)⟩
  ·exact p.elim
 ·exact p.elim
theorem iT:Op T X (binaryOp .Pow) bP:=by
 refine ⟨_,Ac,λι h H x y u w E Q S rx ry p=>?_⟩
 unfold bP at p
 split at p
 ·split at p
  ·rename_i hz
   rw [bB rx,bB ry]
   exact ⟨_,_,rfl,rfl,hz,p.now S (.int _)⟩
  ·exact p.elim
 ·exact p.elim
theorem nq (ha:aG T E X a sa):aG T E X (.UnaryOp .USub a pos) (dZ dD sa) :=
 bW (z9 Ae ha) λσ H Q=>E6x λι h en S er q=>⟨ι,h,en,S,er,q.bind λx h1 ι1 H1 u g1 S1 r1 q1=>by
  unfold dD at q1
  split at q1
  ·rw [bB r1]
   exact ⟨_,rfl,q1.now S1 (.int _)⟩
  ·exact q1.elim⟩
theorem Dg {ds:List PyData} (h:∀ d∈ds,d.canLay0=true):PyData.canLayAll0 ds=true:=by
 induction ds with
 | nil=>rfl
 | cons d r ih=>show (d.canLay0 && PyData.canLayAll0 r)=true;rw [h d (by simp),ih λe he=>h e (by simp [he])];rfl
theorem Dh {n:Nat} {ds:List PyData} (h:∀ d∈ds,d.depth<=n):PyData.depthAll ds<=n:=by
 induction ds with
 | nil=>exact Nat.zero_le _
 | cons d r ih=>show max d.depth (PyData.depthAll r)<=n;have:=h d (by simp);have:=ih λe he=>h e (by simp [he]);omega
section
variable {ι:Ix} {h:AH} {H:Hp}
theorem lg {f:AV->Option PyData} {n:Nat} (hf:∀ {x:AV} {u:V} {d:PyData},RV T ι H x u->f x=some d->DaV T.K H u d/\d.canLay0=true/\d.depth<=n) :
  ∀ {xs:List AV} {us:List V} {ds:List PyData},RVs T ι H xs us->bQ f xs=some ds->DaVs T.K H us ds/\∀ d∈ds,d.canLay0=true/\d.depth<=n
 | _,_,ds,.nil,e=>by cases e;exact ⟨.nil,by simp⟩
 | _,_,ds,.cons (x:=x) (xs:=xs) r rs,e=>by
  unfold bQ at e
  split at e
  ·rename_i d ds' e1 e2
   cases e
   obtain ⟨q1,q2⟩:=hf r e1
   obtain ⟨q3,q4⟩:=lg hf rs e2
   refine ⟨.cons q1 q3,λd hd=>?_⟩
   rcases List.mem_cons.mp hd with rfl | hd
   ·exact q2
   ·exact q4 d hd
  ·cases e
theorem ie (S:Sim T ι h H):∀ (n:Nat) {x:AV} {u:V} {d:PyData},RV T ι H x u->bT n h x=some d->DaV T.K H u d/\d.canLay0=true/\d.depth<=n
 | 0,x,u,d,r,e=>by
  unfold bT at e
  cases r with
  | non=>cases e;exact ⟨.non,rfl,Nat.le_refl _⟩
  | bl b=>cases e;exact ⟨.bl b,rfl,Nat.le_refl _⟩
  | int b=>cases e;exact ⟨.int b,rfl,Nat.le_refl _⟩
  | str a b=>cases e;exact ⟨.str _,b,Nat.le_refl _⟩
  | _=>cases e
 | n+1,x,u,d,r,e=>by
  unfold bT at e
  have many:∀ {xs:List AV} {us:List V} {ds:List PyData},RVs T ι H xs us->bQ (bT n h) xs=some ds->DaVs T.K H us ds/\∀ d∈ds,d.canLay0=true/\d.depth<=n:=λr e=>lg (λr e=>ie S n r e) r e
  have fin:∀ {ds:List PyData},(∀ d∈ds,d.canLay0=true/\d.depth<=n)->PyData.canLayAll0 ds=true/\PyData.depthAll ds+1<=n+1:=λq=>⟨Dg λd hd=>(q d hd).1,Nat.succ_le_succ (Dh λd hd=>(q d hd).2)⟩
  cases r with
  | non=>cases e;exact ⟨.non,rfl,Nat.zero_le _⟩
  | bl b=>cases e;exact ⟨.bl b,rfl,Nat.zero_le _⟩
  | int b=>cases e;exact ⟨.int b,rfl,Nat.zero_le _⟩
  | str a b=>cases e;exact ⟨.str _,b,Nat.zero_le _⟩
  | tup k q r =>
   obtain ⟨ds,e1,rfl⟩:=Option.map_eq_some_iff.mp e
   obtain ⟨q1,q2⟩:=many r e1
   exact ⟨.tup (.of q) q1,fin q2⟩
  | fl k q r =>
   obtain ⟨ds,e1,rfl⟩:=Option.map_eq_some_iff.mp e
   obtain ⟨q1,q2⟩:=many r e1
   exact ⟨.lst (.inl q) q1,fin q2⟩
  | kfl q r =>
   obtain ⟨ds,e1,rfl⟩:=Option.map_eq_some_iff.mp e
   obtain ⟨q1,q2⟩:=many r e1
   exact ⟨.lst (.inr q) q1,fin q2⟩
  | @ref k a q =>
   dsimp only at e
   split at e
   ·rename_i ys hk
    obtain ⟨ds,e1,rfl⟩:=Option.map_eq_some_iff.mp e
    obtain ⟨u,e2,us,rfl,r⟩:=S.obj k _ a hk q
    obtain ⟨q1,q2⟩:=many r e1
    exact ⟨.lst (.inl (.inl e2)) q1,fin q2⟩
   ·cases e
  | exc _ _ _=>cases e
end
theorem Di {i j:Int}:decide (V.int i=V.int j)=decide (i=j):=by rw [Bool.eq_iff_iff];simp
theorem Dj {i j:Str}:decide (V.str i=V.str j)=decide (i=j):=by rw [Bool.eq_iff_iff];simp
theorem Dk {i j:Bool}:decide (V.bl i=V.bl j)=decide (i=j):=by rw [Bool.eq_iff_iff];simp
theorem v8 {r:R2} {neg:Bool} (ho:OpR X g r) (h1:∀ x y H Q,(jo x y=true/\Q (.bl (if neg then !decide (x=y) else decide (x=y))) H)->r x y H Q)
  (h2:∀ x y H Q,(∃ d e,DaV T.K H x d/\DaV T.K H y e/\d.canLay0=true/\e.canLay0=true/\d.depth<=60/\Q (.bl (if neg then !PyData.eqv d e else PyData.eqv d e)) H)->r x y H Q) :
  kb T (λx y h=>match gy x y h with | some b=>.ok (.bl (if neg then !b else b)) h | none=>.bad) r:=by
 intro ι h H x y u w E Q S rx ry p
 dsimp only at p
 cases hb:gy x y h with
 | none=>rw [hb] at p;exact p.elim
 | some b =>
  rw [hb] at p
  dsimp only at p
  unfold gy at hb
  split at hb
  ·cases hb
   rw [bB rx,bB ry]
   exact h1 _ _ _ _ ⟨rfl,by rw [Di];exact p.now S (.bl _)⟩
  ·cases hb
   obtain ⟨rfl,_⟩:=dI rx
   obtain ⟨rfl,_⟩:=dI ry
   exact h1 _ _ _ _ ⟨rfl,by rw [Dj];exact p.now S (.bl _)⟩
  ·cases hb
   rw [gT rx,gT ry]
   exact h1 _ _ _ _ ⟨rfl,by rw [Dk];exact p.now S (.bl _)⟩
  ·cases hb
   rw [nj rx,nj ry]
   exact h1 _ _ _ _ ⟨rfl,by rw [show decide (V.non=V.non)=true from rfl];exact p.now S (.bl _)⟩
  ·split at hb
   ·rename_i d e e1 e2
    cases hb
    obtain ⟨q1,q2,q3⟩:=ie S 8 rx e1
    obtain ⟨q4,q5,q6⟩:=ie S 8 ry e2
    exact h2 _ _ _ _ ⟨d,e,q1,q4,q2,q5,by omega,p.now S (.bl _)⟩
   ·cases hb
theorem cq (hK:X.K=T.K) (hu:X.A.units+64<cLine):Op T X (compareOp .Eq) aY :=
 ⟨_,op_eq.or (vL hu),v8 (neg:=false) (op_eq.or (vL hu)) (λ_ _ _ _ q=>.inl q) λ_ _ _ _ q=>.inr (hK▸q)⟩
theorem dj (hK:X.K=T.K) (hu:X.A.units+64<cLine):Op T X (compareOp .NotEq) bj :=
 ⟨_,op_ne.or (vM hu),v8 (neg:=true) (op_ne.or (vM hu)) (λ_ _ _ _ q=>.inl q) λ_ _ _ _ q=>.inr (hK▸q)⟩
theorem ig:Op T X (compareOp .Lt) gR:=by
 refine ⟨_,op_lt.or Aj,λι h H x y u w E Q S rx ry p=>?_⟩
 unfold gR at p
 split at p
 ·rw [bB rx,bB ry]
  exact .inl ⟨_,_,rfl,rfl,p.now S (.bl _)⟩
 ·obtain ⟨rfl,_⟩:=dI rx
  obtain ⟨rfl,_⟩:=dI ry
  exact .inr ⟨_,_,rfl,rfl,p.now S (.bl _)⟩
 ·exact p.elim
theorem dJ:Op T X (compareOp .LtE) gz:=by
 refine ⟨_,op_le.or BX,λι h H x y u w E Q S rx ry p=>?_⟩
 unfold gz at p
 split at p
 ·rw [bB rx,bB ry]
  exact .inl ⟨_,_,rfl,rfl,p.now S (.bl _)⟩
 ·obtain ⟨rfl,_⟩:=dI rx
  obtain ⟨rfl,_⟩:=dI ry
  exact .inr ⟨_,_,rfl,rfl,p.now S (.bl _)⟩
 ·exact p.elim
theorem fH:Op T X (compareOp .Gt) iR:=by
 refine ⟨_,Ah,λι h H x y u w E Q S rx ry p=>?_⟩
 unfold iR at p
 split at p
 ·rw [bB rx,bB ry]
  exact ⟨_,_,rfl,rfl,p.now S (.bl _)⟩
 ·exact p.elim
theorem qG:Op T X (compareOp .GtE) qz:=by
 refine ⟨_,Ai,λι h H x y u w E Q S rx ry p=>?_⟩
 unfold qz at p
 split at p
 ·rw [bB rx,bB ry]
  exact ⟨_,_,rfl,rfl,p.now S (.bl _)⟩
 ·exact p.elim
theorem RV.non_iff {ι:Ix} {H:Hp} {x:AV} {u:V} (r:RV T ι H x u):decide (x = .non)=decide (u = .non):=by
 exact decide_eq_decide.mpr ⟨λz=>by subst z;cases r;rfl,λz=>by subst z;cases r;rfl⟩
theorem Dl:Op T X (compareOp .Is) jy:=by
 refine ⟨_,Ak,λι h H x y u w E Q S rx ry p=>?_⟩
 unfold jy at p
 split at p
 ·refine ⟨nj ry,?_⟩
  rw [<- rx.non_iff]
  exact p.now S (.bl _)
 ·exact p.elim
theorem v9 {op:CmpOp} {f:F2} (ho:Op T X (compareOp op) f) (ha:aG T E X a sa) (hb:aG T E X b sb) (hm:behindInMarks op b=false):aG T E X (.Compare a [op] [b] pos) (ag f sa sb):=by
 obtain ⟨r,h1,h2⟩:=ho
 exact bW (Al h1 ha hb hm) λσ H Q q=>two h2 q
theorem bE {op:CmpOp} {f:F2} (ho:Op T X (compareOp op) f) (ha:aG T E X a sa) (hb:aG T E X b sb) (hm:behindInMarks op b=false):fC T E X (.Compare a [op] [b] pos) (aS (ag f sa sb)):=by
 obtain ⟨r,h1,h2⟩:=ho
 refine qx (An h1 ha hb hm) λσ H Q q=>two (E:=E) (Q:=λx H' => ∃ k,x=V.bl k/\Q k H') h2 ?_
 obtain ⟨ι,h,en,S,er,q⟩:=q
 refine ⟨ι,h,en,S,er,q.bind λx h1 ι1 H1 u g1 S1 r1 q1=>?_⟩
 split at q1
 ·rw [gT r1]
  exact ⟨_,rfl,q1.now S1 rfl⟩
 ·exact q1.elim
theorem Dm {f f':F2} {r r':R2} (hs:kb T f r) (hs':kb T f' r') {σ:St} {H:Hp} {Q:VK} (q:tE T E (k8 f f' sa sb sc) σ H Q):uR r r' (tE T E sa) (tE T E sb) (tE T E sc) σ H Q:=by
 obtain ⟨ι,h,en,S,er,q⟩:=q
 refine ⟨ι,h,en,S,er,q.bind λx h1 ι1 H1 u g1 S1 r1 q1=>⟨ι1,h1,en,S1,er.mono g1,q1.bind λy h2 ι2 H2 w g2 S2 r2 q2=>?_⟩⟩
 refine hs ι2 h2 H2 x y u w (E σ) _ S2 (r1.mono g2) r2 (q2.bind λz h3 ι3 H3 k g3 S3 r3 q3=>?_)
 split at q3
 ·rename_i kk
  rw [gT r3]
  refine ⟨kk,rfl,?_⟩
  by_cases hkk:kk=true
  ·rw [if_pos hkk] at q3 ⊢
   refine ⟨ι3,h3,en,S3,er.mono (g1.trans (g2.trans g3)),q3.bind λv h4 ι4 H4 j g4 S4 r4 q4=>?_⟩
   exact hs' ι4 h4 H4 y v w j _ Q S4 (r2.mono (g3.trans g4)) r4 q4
  ·rw [if_neg hkk] at q3 ⊢
   exact q3.now S3 (.bl _)
 ·exact q3.elim
theorem qH {op op':CmpOp} {f f':F2} (ho:Op T X (compareOp op) f) (ho':Op T X (compareOp op') f') (ha:aG T E X a sa) (hb:aG T E X b sb) (hc:aG T E X c sc) (hm:lastMarks [op,op'] [b,c]=false:=by with_unfolding_all rfl) :
  aG T E X (.Compare a [op,op'] [b,c] pos) (k8 f f' sa sb sc):=by
 obtain ⟨r,h1,h2⟩:=ho
 obtain ⟨r',h1',h2'⟩:=ho'
 exact bW (Ao h1 h1' ha hb hc hm) λσ H Q q=>Dm h2 h2' q
theorem Do {ι:Ix} {h:AH} {H:Hp} {v:AV} {u:V} {k:Bool} (S:Sim T ι h H) (r:RV T ι H v u) (e:jz v h=some k):jq T.K u H k:=by
 unfold jz at e
 cases r with
 | non=>cases e;rfl
 | bl b=>cases e;rfl
 | int b=>cases e;rfl
 | str n o=>cases e;exact ⟨n,rfl⟩
 | tup n q r=>cases e;exact .inr (.inl ⟨_,.of q,by cases r<;>rfl⟩)
 | fl n q r=>cases e;exact .inl ⟨_,.inl q,by cases r<;>rfl⟩
 | kfl q r=>cases e;exact .inl ⟨_,.inr q,by cases r<;>rfl⟩
 | @ref n a q =>
  dsimp only at e
  split at e
  ·rename_i xs hk
   cases e
   obtain ⟨u,e1,us,rfl,r⟩:=S.obj n _ a hk q
   exact .inl ⟨us,.inl (.inl e1),by cases r<;>rfl⟩
  ·rename_i xs hk
   cases e
   obtain ⟨u,e1,us,rfl,r⟩:=S.obj n _ a hk q
   exact .inr (.inr ⟨us,e1,by cases r<;>rfl⟩)
  ·cases e
 | exc _ _ _=>cases e
theorem jK (hK:X.K=T.K) (ha:aG T E X a sa) (he:∀ whole,isTrue a X.env whole=(do let v <- whole;standAt a.pos;holding [v] (truthy v)):=by intro _;rfl):fC T E X a (iS sa) :=
 qx (Ar ha he) λσ H Q=>E6x λι h en S er q=>⟨ι,h,en,S,er,q.bind λx h1 ι1 H1 u g1 S1 r1 q1=>by
  split at q1
  ·rename_i b hb
   exact ⟨b,hK▸Do S1 r1 hb,q1.now S1 rfl⟩
  ·exact q1.elim⟩
variable {ca cb:SB} {rest:List Expr}
theorem lh (ha:fC T E X a ca):fC T E X (.UnaryOp .Not a pos) (fE ca) :=
 qx (zy ha) λσ H Q=>E6x λι h en S er q=>⟨ι,h,en,S,er,q.bind λx h1 ι1 H1 u g1 S1 r1 q1=>by subst r1;exact q1.now S1 rfl⟩
theorem jL (h:jx T E X a ca):fC T E X a ca:=PW.pt h
theorem Dp (ha:fC T E X a ca):jx T E X (.BoolOp .And [a] pos) ca:=zu ha
theorem wa (ha:fC T E X a ca):jx T E X (.BoolOp .Or [a] pos) ca:=zv ha
theorem Dq (ha:fC T E X a ca) (hb:jx T E X (.BoolOp .And (b::rest) pos) cb):jx T E X (.BoolOp .And (a::b::rest) pos) (k6 ca cb) :=
 vU (zw ha hb) λσ H Q=>E6x λι h en S er q=>⟨ι,h,en,S,er,q.bind λx h1 ι1 H1 u g1 S1 r1 q1=>by
  subst r1
  by_cases hx:x=true
  ·rw [if_pos hx] at q1 ⊢
   exact ⟨ι1,h1,en,S1,er.mono g1,q1⟩
  ·rw [if_neg hx] at q1 ⊢
   exact q1.now S1 rfl⟩
theorem wb (ha:fC T E X a ca) (hb:jx T E X (.BoolOp .Or (b::rest) pos) cb):jx T E X (.BoolOp .Or (a::b::rest) pos) (qA ca cb) :=
 vU (zx ha hb) λσ H Q=>E6x λι h en S er q=>⟨ι,h,en,S,er,q.bind λx h1 ι1 H1 u g1 S1 r1 q1=>by
  subst r1
  by_cases hx:x=true
  ·rw [if_pos hx] at q1 ⊢
   exact q1.now S1 rfl
  ·rw [if_neg hx] at q1 ⊢
   exact ⟨ι1,h1,en,S1,er.mono g1,q1⟩⟩
theorem nu {op} (h:aG T E X a sa):aG T E X (.BoolOp op [a] pos) sa:=zC h
theorem qI (ha:aG T E X a sa) (hb:aG T E X (.BoolOp .And (b::rest) pos) sb):aG T E X (.BoolOp .And (a::b::rest) pos) (ng sa sb) :=
 bW (zD ha hb) λσ H Q=>E6x λι h en S er q=>⟨ι,h,en,S,er,q.bind λx h1 ι1 H1 u g1 S1 r1 q1=>by
  split at q1
  ·rename_i kk
   rw [gT r1]
   refine ⟨kk,rfl,?_⟩
   by_cases hkk:kk=true
   ·rw [if_pos hkk] at q1 ⊢
    exact ⟨ι1,h1,en,S1,er.mono g1,q1⟩
   ·rw [if_neg hkk] at q1 ⊢
    exact q1.now S1 (.bl _)
  ·exact q1.elim⟩
theorem qJ (ha:aG T E X a sa) (hb:aG T E X (.BoolOp .Or (b::rest) pos) sb):aG T E X (.BoolOp .Or (a::b::rest) pos) (k7 sa sb) :=
 bW (zE ha hb) λσ H Q=>E6x λι h en S er q=>⟨ι,h,en,S,er,q.bind λx h1 ι1 H1 u g1 S1 r1 q1=>by
  split at q1
  ·rename_i kk
   rw [gT r1]
   refine ⟨kk,rfl,?_⟩
   by_cases hkk:kk=true
   ·rw [if_pos hkk] at q1 ⊢
    exact q1.now S1 (.bl _)
   ·rw [if_neg hkk] at q1 ⊢
    exact ⟨ι1,h1,en,S1,er.mono g1,q1⟩
  ·exact q1.elim⟩
theorem Dr (ha:aG T E X a sa):aG T E X (.UnaryOp .Not a pos) (vX sa) :=
 bW (zF ha) λσ H Q=>E6x λι h en S er q=>⟨ι,h,en,S,er,q.bind λx h1 ι1 H1 u g1 S1 r1 q1=>by
  split at q1
  ·rw [gT r1]
   exact ⟨_,rfl,q1.now S1 (.bl _)⟩
  ·exact q1.elim⟩
variable {es:List Expr} {as:SL}
theorem aq:fW T E X [] af:=vV kM λσ H Q=>E6x λι h en S er q=>q.now S .nil
theorem aj (ha:aG T E X a sa) (hr:fW T E X es as) (hs:starEach (a::es) X.env=(false,eval a X.env)::starEach es X.env:=by rfl):fW T E X (a::es) (ai sa as) :=
 vV (gM ha hr hs) λσ H Q=>E6x λι h en S er q=>⟨ι,h,en,S,er,q.bind λx h1 ι1 H1 u g1 S1 r1 q1=>⟨ι1,h1,en,S1,er.mono g1,q1.bind λxs h2 ι2 H2 us g2 S2 r2 q2=>q2.now S2 (.cons (r1.mono g2) r2)⟩⟩
theorem qK {k} (h:fW T E X es as):aG T E X (.Tuple es k pos) (hX as) :=
 bW (uV h) λσ H Q=>E6x λι h en S er q=>⟨ι,h,en,S,er,q.bind λxs h1 ι1 H1 us g1 S1 r1 q1=>by
  split at q1
  ·rename_i hl
   exact ⟨by rw [<- r1.length];exact Nat.le_trans hl (by decide),λp n=>qF S1 r1 n q1⟩
  ·exact q1.elim⟩
theorem fI (h:fW T E X es as):aG T E X (.List es pos) (aM as) :=
 bW (uW h) λσ H Q=>E6x λι h en S er q=>⟨ι,h,en,S,er,q.bind λxs h1 ι1 H1 us g1 S1 r1 q1=>by
  split at q1
  ·rename_i hl
   exact ⟨by rw [<- r1.length];exact Nat.le_trans hl (by decide),λp n=>jH S1 r1 n q1⟩
  ·exact q1.elim⟩
theorem gU (h:fW T E X es as):aG T E X (.List es pos) (fv as) :=
 bW (uW h) λσ H Q=>E6x λι h en S er q=>⟨ι,h,en,S,er,q.bind λxs h1 ι1 H1 us g1 S1 r1 q1=>by
  split at q1
  ·rename_i hl
   exact ⟨by rw [<- r1.length];exact Nat.le_trans hl (by decide),λp n=>Da S1 r1 n q1⟩
  ·exact q1.elim⟩
theorem Ds:aG T E X (.Dict [] [] pos) (gQ false) :=
 bW BB λσ H Q ⟨ι,h,en,S,er,q⟩ p n=>q _ _ _ (S.growAdd n) (S.add n ⟨[],rfl,.nil⟩) (.ref S.addAt)
theorem Dt:aG T E X (.Dict [] [] pos) (gQ true) :=
 bW BC λσ H Q ⟨ι,h,en,S,er,q⟩ p n=>q _ _ _ (S.growAdd n) (S.add n ⟨[],rfl,.nil⟩) (.ref S.addAt)
end
end Sm
namespace Sm
open PySem L2
section
variable {T:Tb} {E:St->XK} {X:Cx} {pos:Pos} {a b:Expr} {sa sb:SE} {ca:SB} {st:Stmt} {sts ss1 ss2:List Stmt} {s1 s2:SS}
theorem bL:bN T E X [] bI:=vW zH λD σ H=>E6x λι h en S er q=>q ι H σ S.refl S er
theorem az (h1:dP T E X st s1) (h2:bN T E X sts s2):bN T E X (st::sts) (ak s1 s2) :=
 vW (zI h1 h2) λD σ H=>E6x λι h en S er q=>by
  refine ⟨ι,h,en,S,er,?_⟩
  unfold ak at q
  cases e:s1 en h with
  | nx e1 h1 =>
   rw [e] at q
   exact λι' H' σ' g S' er' => ⟨ι',h1,e1,S',er',q.shift g⟩
  | rt v h1=>rw [e] at q;exact q
  | bk e1 h1=>rw [e] at q;exact q
  | ct e1 h1=>rw [e] at q;exact q
  | ex c e1 h1=>rw [e] at q;exact q
  | bad=>rw [e] at q;exact q
theorem aE (h1:dP T E X st s1):bN T E X [st] s1:=zJ h1
theorem cu (ha:aG T E X a sa) (hs:swapsWith a none pos.line X.env=pure false:=by rfl):dP T E X (.Expr a pos) (bR sa) :=
 fg (zL ha hs) λD σ H=>E6x λι h en S er q=>⟨ι,h,en,S,er,q.go er λv h1 ι1 H1 u g1 S1 r1 q1=>q1 ι1 H1 σ S1.refl S1 (er.mono g1)⟩
theorem aT (ha:aG T E X a sa):dP T E X (.Return (some a) pos) (aA sa) :=
 fg (zM ha) λD σ H=>E6x λι h en S er q=>⟨ι,h,en,S,er,q.go er λv h1 ι1 H1 u g1 S1 r1 q1=>q1 ι1 H1 u S1.refl S1 r1⟩
theorem aK (hc:fC T E X a ca) (h1:bN T E X ss1 s1) (h2:bN T E X ss2 s2):dP T E X (.If a ss1 ss2 pos) (bo ca s1 s2) :=
 fg (zN hc h1 h2) λD σ H=>E6x λι h en S er q=>⟨ι,h,en,S,er,q.go er λx h1 ι1 H1 u g1 S1 r1 q1=>by
  subst r1
  by_cases hx:x=true
  ·rw [if_pos hx] at q1 ⊢
   exact ⟨ι1,h1,en,S1,er.mono g1,q1⟩
  ·rw [if_neg hx] at q1 ⊢
   exact ⟨ι1,h1,en,S1,er.mono g1,q1⟩⟩
theorem qL {σ:St} {H:Hp} {D:cM} {i:Nat} (q:tS T E (au i sa) D σ H):hE (tE T E sa) (j8 i) D σ H:=by
 obtain ⟨ι,h,en,S,er,q⟩:=q
 exact ⟨ι,h,en,S,er,q.go er λv h1 ι1 H1 u g1 S1 r1 q1=>q1 ι1 H1 _ S1.refl S1 ((er.mono g1).set r1 i)⟩
theorem aU {i:Nat} {x:Str} {p':Pos} (hN:X.N.Nodup) (ha:aG T E X a sa) (hi:X.N[i]? = some x:=by rfl) (hx:j7 X.env.scope x:=by first | exact Or.inl rfl | exact Or.inr rfl) (hs:swapsWith a (some (.Name x p')) pos.line X.env=pure false:=by rfl)
  (hf:X.fn x=true\/X.env.scope.names.lookup x=some .local:=by first | exact .inl rfl | exact .inr rfl | assumption):dP T E X (.Assign [.Name x p'] a pos) (au i sa) :=
 fg (zQ hN hi hx ha hs hf) λD σ H q=>qL q
theorem Du (n:Nat) (hc:fC T EN X.nox a ca) (hb:bN T EN X.nox sts s1):dP T E X (.While a sts [] pos) (d5 ca s1 n) :=
 fg (qy (uK PassesOwn.never hc hb)) λD σ H=>E6x λι h en S er q=>by
  refine ⟨λm σ H=>∃ ι h en,Sim T ι h H/\ER T ι H en σ/\PostS T ι H E (d5 ca s1 m en h) D,⟨n,ι,h,en,S,er,q⟩,?_⟩
  rintro m σ H ⟨ι,h,en,S,er,q⟩
  cases m with
  | zero=>exact (show False from q).elim
  | succ m =>
   unfold d5 at q
   refine ⟨ι,h,en,S,er,?_⟩
   cases e:ca en h with
   | bad=>rw [e] at q;exact q
   | ex c h1=>rw [e] at q;exact (show False from q).elim
   | ok x h1 =>
    rw [e] at q
    intro ι1 H1 u g1 S1 r1
    subst r1
    have q1:=PostS.shift q g1
    cases x with
    | true =>
     rw [if_pos rfl]
     refine ⟨λσ H=>∃ ι h en,Sim T ι h H/\ER T ι H en σ/\PostS T ι H E (d5 ca s1 m en h) D,λσ' H' w=>⟨m,Nat.lt_succ_self m,w⟩,ι1,h1,en,S1,er.mono g1,?_⟩
     dsimp only at q1
     cases e2:s1 en h1 with
     | nx e3 h3=>rw [e2] at q1;exact λι2 H2 σ2 g2 S2 er2=>⟨ι2,h3,e3,S2,er2,q1.shift g2⟩
     | ct e3 h3=>rw [e2] at q1;exact λι2 H2 σ2 g2 S2 er2=>⟨ι2,h3,e3,S2,er2,q1.shift g2⟩
     | bk e3 h3=>rw [e2] at q1;exact q1
     | rt v h3=>rw [e2] at q1;exact q1
     | ex c e3 h3=>rw [e2] at q1;exact (show False from q1).elim
     | bad=>rw [e2] at q1;exact q1
    | false =>
     rw [if_neg Bool.false_ne_true]
     exact q1 ι1 H1 σ S1.refl S1 (er.mono g1)
def nv (T:Tb) (X:Cx) (tg:Expr) (t:Tg):Prop:=∃ g,PG X tg g/\∀ {ι:Ix} {h:AH} {H:Hp} {en e:En} {σ:St} {v:AV} {u:V} {Q:St->Hp->Prop},Sim T ι h H->ER T ι H en σ->RV T ι H v u->dE t v en=some e ->
 (∀ σ',ER T ι H e σ'->Q σ' H)->g u σ H Q
theorem ij {i:Nat} {x:Str} (hN:X.N.Nodup) (hi:X.N[i]? = some x:=by rfl) (hx:j7 X.env.scope x:=by first | exact Or.inl rfl | exact Or.inr rfl) (hf:X.fn x=true\/X.env.scope.names.lookup x=some .local:=by first | exact .inl rfl | exact .inr rfl | assumption) :
  nv T X (.Name x pos) (.nm i):=⟨_,uJ hN hi hx hf,λS er r e k=>by cases e;exact k _ (er.set r i)⟩
structure lj (T:Tb) (J:It) (ι:Ix) (H:Hp) (ys:List AV) (L:AH->Bool):Prop where
 go:∀ (i:Nat) (ι':Ix) (h':AH) (H':Hp) (x:AV),Ext ι H ι' H'->Sim T ι' h' H'->L h'=true->ys[i]? = some x->J.go i H'/\∀ u H2,J.yld i H' u H2->Grow ι' H' ι' H2/\Sim T ι' h' H2/\RV T ι' H2 x u
 stop:∀ (i:Nat) (ι':Ix) (h':AH) (H':Hp),Ext ι H ι' H'->Sim T ι' h' H'->L h'=true->ys.length<=i->J.stop i H'
abbrev ik (T:Tb) (J:It) (ι:Ix) (H:Hp) (xs:List AV) (w:Option Nat):Prop:=lj T J ι H xs (cS w xs)
def tI (T:Tb) (it:SI):TI:=λσ H R=>∃ ι h en,Sim T ι h H/\ER T ι H en σ/\match it en h with
 | .ok (xs,w) h' => ∀ ι' H' J,Grow ι H ι' H'->Sim T ι' h' H'->ik T J ι' H' xs w->R J H'
 | _=>False
abbrev jM (T:Tb) (X:Cx) (tg iter:Expr) (it:SI):Prop:=PI X tg iter (tI T it)
theorem qM {X:Cx} {tg iter:Expr} {t t':TI} (h:PI X tg iter t) (k:∀ σ H R,t' σ H R->t σ H R):PI X tg iter t' := λpins s σ H R I q=>h pins s σ H R I (k σ H R q)
theorem PI.or {X:Cx} {tg iter:Expr} {t t':TI} (h:PI X tg iter t) (h':PI X tg iter t'):PI X tg iter (λσ H R=>t σ H R\/t' σ H R):=λpins s σ H R I q=>q.elim (h pins s σ H R I) (h' pins s σ H R I)
theorem nA {ι:Ix} {H:Hp} {a:Addr} {us:List V} {xs:List AV} {K:PySem.W.Frag} (keep:∀ (ι':Ix) (H':Hp),Ext ι H ι' H'->SqL K H' a us) (r:RVs T ι H xs us):ik T (mH K a) ι H xs none:=by
 constructor
 ·intro i ι' h' H' x g S _ e
  obtain ⟨u,e1,r1⟩:=(r.ext g).get e
  refine ⟨⟨us,u,keep ι' H' g,e1⟩,?_⟩
  rintro u2 H2 ⟨rfl,y⟩
  have z:=y us (keep ι' _ g)
  rw [e1] at z;cases z
  exact ⟨S.refl,S,r1⟩
 ·intro i ι' h' H' g S _ hl
  exact ⟨us,keep ι' H' g,by rw [<- r.length];exact hl⟩
theorem Dv {ι:Ix} {H:Hp} {a:Addr} {us:List V} {xs:List AV} {K:PySem.W.Frag} (keep:∀ (ι':Ix) (H':Hp),Ext ι H ι' H'->SqT K H' a us) (r:RVs T ι H xs us):ik T (pI K a) ι H xs none:=by
 constructor
 ·intro i ι' h' H' x g S _ e
  obtain ⟨u,e1,r1⟩:=(r.ext g).get e
  refine ⟨⟨us,u,keep ι' H' g,e1⟩,?_⟩
  rintro u2 H2 ⟨rfl,y⟩
  have z:=y us (keep ι' _ g)
  rw [e1] at z;cases z
  exact ⟨S.refl,S,r1⟩
 ·intro i ι' h' H' g S _ hl
  exact ⟨us,keep ι' H' g,by rw [<- r.length];exact hl⟩
theorem wc {ι:Ix} {H:Hp} {a:Addr} {n:Nat} {xs:List AV} {K:PySem.W.Frag} (e:ι.refs[n]? = some a):ik T (mH K a) ι H xs (some n):=by
 have at_:∀ {ι':Ix} {h':AH} {H':Hp},Ext ι H ι' H'->Sim T ι' h' H'->cS (some n) xs h'=true->∃ us,H' a=some (.lst us)/\RVs T ι' H' xs us:=λ{ι' h' H'} g S l=>by
  unfold cS at l
  dsimp only at l
  split at l
  ·rename_i ys hy
   have z:=of_decide_eq_true l
   subst z
   obtain ⟨u,e1,us,rfl,r⟩:=S.obj n _ a hy (g.at_ e)
   exact ⟨us,e1,r⟩
  ·cases l
 constructor
 ·intro i ι' h' H' x g S l e
  obtain ⟨us,e0,r⟩:=at_ g S l
  obtain ⟨u,e1,r1⟩:=r.get e
  refine ⟨⟨us,u,.of e0,e1⟩,?_⟩
  rintro u2 H2 ⟨rfl,y⟩
  have z:=y us (.of e0)
  rw [e1] at z;cases z
  exact ⟨S.refl,S,r1⟩
 ·intro i ι' h' H' g S l hl
  obtain ⟨us,e0,r⟩:=at_ g S l
  exact ⟨us,.of e0,by rw [<- r.length];exact hl⟩
theorem Dw {ι:Ix} {H:Hp} {x:Str} (o:x.cps.all (· < 0x110000)=true):ik T (qe x) ι H (x.cps.toList.map λc=>.str ⟨#[c]⟩) none:=by
 constructor
 ·intro i ι' h' H' y g S _ e
  rw [List.getElem?_map] at e
  obtain ⟨c,e1,rfl⟩:=Option.map_eq_some_iff.mp e
  have hi:i<x.cps.size:=by
   have:=(List.getElem?_eq_some_iff.mp e1).1
   simpa using this
  refine ⟨hi,?_⟩
  rintro u H2 ⟨rfl,c',e2,rfl⟩
  have z:x.cps[i]? = some c:=by simpa using e1
  rw [e2] at z;cases z
  refine ⟨S.refl,S,.str (show 1<=sizeLine by decide) ?_⟩
  have m:=Array.mem_of_getElem? e2
  have:=Array.all_eq_true_iff_forall_mem.mp o _ m
  simpa using this
 ·intro i ι' h' H' g S _ hl
  show x.cps.size<=i
  simpa using hl
theorem Dx (n:Nat):∀ (lo:Int) (i:Nat),(cT lo n)[i]? = if i<n then some (.int (lo+i)) else none:=by
 induction n with
 | zero=>intro lo i;simp [cT]
 | succ n ih =>
  intro lo i
  cases i with
  | zero=>simp [cT]
  | succ i =>
   show (cT (lo+1) n)[i]? = _
   rw [ih]
   by_cases h:i<n
   ·rw [if_pos h,if_pos (by omega)]
    congr 2
    show lo+1+(i:Int)=lo+((i+1:Nat):Int)
    omega
   ·rw [if_neg h,if_neg (by omega)]
theorem Dy (n:Nat):∀ lo:Int,(cT lo n).length=n:=by
 induction n with
 | zero=>intro lo;rfl
 | succ n ih=>intro lo;show (cT (lo+1) n).length+1=n+1;rw [ih]
theorem Dz {ι:Ix} {H:Hp} {lo:Int} {n:Nat}:ik T (mI lo n) ι H (cT lo n) none:=by
 constructor
 ·intro i ι' h' H' y g S _ e
  rw [Dx] at e
  split at e
  ·rename_i hi
   cases e
   refine ⟨hi,?_⟩
   rintro u H2 ⟨rfl,rfl⟩
   exact ⟨S.refl,S,.int _⟩
  ·cases e
 ·intro i ι' h' H' g S _ hl
  rw [Dy] at hl
  exact hl
theorem qN {ι:Ix} {H:Hp} {a:Addr} {us:List V} (n:a∉ι.all) (h:Rd H a (.lst us)):∀ (ι':Ix) (H':Hp),Ext ι H ι' H'->SqL T.K H' a us:=λ_ _ g=>.inl (vT g n h)
theorem DA {ι:Ix} {H:Hp} {a:Addr} {us:List V} (n:a∉ι.all) (h:H a=some (.tup us)):∀ (ι':Ix) (H':Hp),Ext ι H ι' H'->SqT T.K H' a us:=λ_ _ g=>.of (g.keep _ _ n h)
theorem kd {K K':PySem.W.Frag} {H:Hp} {a:Addr} {us:List V} (e:K=K') (h:SqL K' H a us):SqL K H a us:=e▸h
theorem wd {σ:St} {H:Hp} {R:It->Hp->Prop} {ι:Ix} {h h1:AH} {en:En} {v:AV} {xs:List AV} {w:Option Nat} (hK:X.K=T.K) (S:Sim T ι h H) (er:ER T ι H en σ) (e:sa en h = .ok v h1) (hv:(v = .fl xs/\w=none)\/∃ n,v = .ref n/\h1[n]? = some (.lst xs)/\w=some n)
  (q:∀ ι' H' J,Grow ι H ι' H'->Sim T ι' h1 H'->ik T J ι' H' xs w->R J H'):uL X.K (tE T E sa) σ H R:=by
 refine ⟨ι,h,en,S,er,?_⟩
 rw [e]
 intro ι1 H1 u g1 S1 r1
 rcases hv with ⟨rfl,rfl⟩ | ⟨n,rfl,hn,rfl⟩
 ·cases r1 with
  | fl n hr rs=>exact ⟨_,rfl,⟨_,kd hK (.inl hr)⟩,q ι1 H1 _ g1 S1 (hK▸nA (qN n hr) rs)⟩
  | kfl hr rs=>exact ⟨_,rfl,⟨_,kd hK (.inr hr)⟩,q ι1 H1 _ g1 S1 (hK▸nA (λ_ _ _=>.inr hr) rs)⟩
 ·cases r1 with
  | ref hr =>
   obtain ⟨u,e1,us,rfl,rs⟩:=S1.obj n _ _ hn hr
   exact ⟨_,rfl,⟨_,.of e1⟩,q ι1 H1 _ g1 S1 (wc hr)⟩
theorem DB {σ:St} {H:Hp} {R:It->Hp->Prop} {ι:Ix} {h h1:AH} {en:En} {xs:List AV} (hK:X.K=T.K) (S:Sim T ι h H) (er:ER T ι H en σ) (e:sa en h = .ok (.tup xs) h1)
  (q:∀ ι' H' J,Grow ι H ι' H'->Sim T ι' h1 H'->ik T J ι' H' xs none->R J H'):kK X.K (tE T E sa) σ H R:=by
 refine ⟨ι,h,en,S,er,?_⟩
 rw [e]
 intro ι1 H1 u g1 S1 r1
 cases r1 with
 | tup n hr rs=>exact ⟨_,rfl,⟨_,.of hr⟩,q ι1 H1 _ g1 S1 (hK▸Dv (DA n hr) rs)⟩
theorem iU {y:Str} {py:Pos} (hK:X.K=T.K) (ha:aG T E X a sa):jM T X (.Name y py) a (aO sa) :=
 qM (PI.or (uM ha) (PI.or (zV ha) (BP ha))) λσ H R=>E6x λι h en S er q=>by
  unfold aO at q
  cases e:sa en h with
  | bad=>rw [e] at q;exact q.elim
  | ex c h1=>rw [e] at q;exact q.elim
  | ok v h1 =>
   rw [e] at q
   cases v with
   | fl xs=>exact .inl (wd hK S er e (.inl ⟨rfl,rfl⟩) q)
   | tup xs=>exact .inr (.inl (DB hK S er e q))
   | str z =>
    refine .inr (.inr ⟨ι,h,en,S,er,?_⟩)
    rw [e]
    intro ι1 H1 u g1 S1 r1
    obtain ⟨rfl,_,o⟩:=dI r1
    exact ⟨_,rfl,q ι1 H1 _ g1 S1 (Dw o)⟩
   | ref n =>
    dsimp only [Out.bind] at q
    cases e2:h1[n]? with
    | none=>rw [e2] at q;exact q.elim
    | some o =>
     rw [e2] at q
     cases o with
     | lst xs=>exact .inl (wd hK S er e (.inr ⟨n,rfl,e2,rfl⟩) q)
     | _=>exact q.elim
   | _=>exact q.elim
theorem nB {tg:Expr} {p:Pos} (hg:Gl X "range") (hm:X.mg "range" = none) (ha:aG T E X a sa) (hs:starEach [a] X.env=[(false,eval a X.env)]:=by rfl):jM T X tg (.Call (.Name "range" p) [a] [] pos) (fF sa) :=
 qM (zY hg hm (aj ha aq hs) hs) λσ H R=>E6x λι h en S er q=>by
  unfold fF at q
  refine ⟨ι,h,en,S,er,?_⟩
  unfold ai
  cases e:sa en h with
  | bad=>rw [e] at q;exact q
  | ex c h1=>rw [e] at q;exact q.elim
  | ok v h1 =>
   rw [e] at q
   intro ι1 H1 u g1 S1 r1
   dsimp only [Out.bind] at q
   cases v with
   | int j =>
    dsimp only at q
    split at q
    ·rename_i hx
     split at hx
     ·rename_i hb
      cases hx
      cases r1 with
      | cons r r' =>
       cases r'
       rw [bB r]
       exact ⟨j,rfl,by omega,by omega,q ι1 H1 _ g1 S1 Dz⟩
     ·cases hx
    ·exact q.elim
   | _=>exact q.elim
theorem qO {α:Type} {xs:List α} {i:Nat} (h:i<xs.length):xs.drop i=xs[i]::xs.drop (i+1):=by simp
def we (g:TG) (tb:TS) (D:cM) (σ:St) (H1:Hp) (J:It):Prop:=∃ W:Nat->Nat->St->Hp->Prop,(∃ m,W 0 m σ H1)/\∀ i m σ H,W i m σ H->(J.stop i H/\D.nx σ H)\/(J.go i H/\∃ N:St->Hp->Prop,(∀ σ' H',N σ' H'->∃ m',m'<m/\W (i+1) m' σ' H')/\∀ x H',J.yld i H x H'->g x σ H' λσ' H'' => tb { D with nx:=N,ct:=N,bk:=D.nx } σ' H'')
theorem nC {g:TG} {t:Tg} {J:It} {ι1:Ix} {h1:AH} {H1:Hp} {en:En} {σ:St} {D:cM} {w:Option Nat} {all ys:List AV}
  (hg2:∀ {ι:Ix} {h:AH} {H:Hp} {en e:En} {σ:St} {v:AV} {u:V} {Q:St->Hp->Prop},Sim T ι h H->ER T ι H en σ->RV T ι H v u->dE t v en=some e->(∀ σ',ER T ι H e σ'->Q σ' H)->g u σ H Q)
  (S1:Sim T ι1 h1 H1) (er:ER T ι1 H1 en σ) (IR:lj T J ι1 H1 ys (cS w all)) (q:PostS T ι1 H1 E (du w all t s1 ys en h1) D):we g (tS T EN s1) D σ H1 J:=by
 refine ⟨λi m σ H=>m=ys.length-i/\i<=ys.length/\∃ ι' h' en',Grow ι1 H1 ι' H/\Sim T ι' h' H/\ER T ι' H en' σ/\PostS T ι' H E (du w all t s1 (ys.drop i) en' h') D,
  ⟨ys.length,by simp,Nat.zero_le _,ι1,h1,en,S1.refl,S1,er,q⟩,?_⟩
 rintro i m σ H ⟨rfl,hi,ι',h',en',g',S',er',q'⟩
 by_cases hl:i<ys.length
 ·rw [qO hl] at q'
  unfold du at q'
  split at q'
  ·rename_i hlive
   obtain ⟨go,yld⟩:=IR.go i ι' h' H ys[i] g'.ext S' hlive (by simp [hl])
   refine .inr ⟨go,λσ H=>∃ ι' h' en',Grow ι1 H1 ι' H/\Sim T ι' h' H/\ER T ι' H en' σ/\PostS T ι' H E (du w all t s1 (ys.drop (i+1)) en' h') D,
    λσ' H' w' => ⟨ys.length-(i+1),by omega,rfl,hl,w'⟩,λx H' y=>?_⟩
   obtain ⟨g2,S2,r2⟩:=yld x H' y
   split at q'
   ·rename_i e1 he1
    refine hg2 S2 (er'.mono g2) r2 he1 λσ' er2=>⟨ι',h',e1,S2,er2,?_⟩
    have q2:=PostS.shift q' g2
    cases e2:s1 e1 h' with
    | nx e3 h3=>rw [e2] at q2;exact λι3 H3 σ3 g3 S3 er3=>⟨ι3,h3,e3,g'.trans (g2.trans g3),S3,er3,q2.shift g3⟩
    | ct e3 h3=>rw [e2] at q2;exact λι3 H3 σ3 g3 S3 er3=>⟨ι3,h3,e3,g'.trans (g2.trans g3),S3,er3,q2.shift g3⟩
    | bk e3 h3=>rw [e2] at q2;exact q2
    | rt v h3=>rw [e2] at q2;exact q2
    | ex c e3 h3=>rw [e2] at q2;exact (show False from q2).elim
    | bad=>rw [e2] at q2;exact q2
   ·exact (show False from q').elim
  ·exact (show False from q').elim
 ·have ei:i=ys.length:=by omega
  subst ei
  rw [List.drop_length] at q'
  unfold du at q'
  split at q'
  ·rename_i hlive
   exact .inl ⟨IR.stop _ ι' h' H g'.ext S' hlive (Nat.le_refl _),q' ι' H σ S'.refl S' er'⟩
  ·exact (show False from q').elim
theorem jO {tg iter:Expr} {it:SI} {t:Tg} (hc:X.calm=true) (hi:jM T X.nox tg iter it) (hg:nv T X.nox tg t) (hb:bN T EN X.nox sts s1) (hs:∀ x,foldedSetIterable iter X.nox.env x=pure x:=by intro _;rfl) :
  dP T E X (.For tg iter sts [] pos) (bp it t s1):=by
 obtain ⟨g,hg1,hg2⟩:=hg
 refine fg (qy (pK PassesOwn.never hc hi hg1 hb hs)) λD σ H=>E6x λι h en S er q=>⟨ι,h,en,S,er,?_⟩
 unfold bp at q
 cases e:it en h with
 | bad=>rw [e] at q;exact q
 | ex c h1=>rw [e] at q;exact q
 | ok p h1 =>
  obtain ⟨xs,w⟩:=p
  rw [e] at q
  intro ι1 H1 J g1 S1 IR
  exact nC hg2 S1 (er.mono g1) IR (PostS.shift q g1)
theorem ER.comp {ι:Ix} {H:Hp} {en:En} {σ:St} {ys:List AV} {us:List V} {jf:List (Nat×Str)} (er:ER T ι H en σ) (r:RVs T ι H ys us):ER T ι H (ys.map some++(jf.map (·.1)).map λj=>(en[j]?).join) (eK (us.map some) jf σ):=by
 unfold eK
 induction ys generalizing us with
 | nil =>
  cases r
  refine ⟨by simp,λi v e=>?_⟩
  simp only [List.map_nil,List.nil_append,List.getElem?_map] at e ⊢
  cases e1:jf[i]? with
  | none=>rw [e1] at e;cases e
  | some j =>
   rw [e1] at e
   simp only [Option.map_some,Option.some.injEq] at e
   have e2:en[j.1]? = some (some v):=by
    cases e3:en[j.1]? with
    | none=>rw [e3] at e;cases e
    | some o=>rw [e3] at e;exact congrArg some e
   obtain ⟨u',e4,r'⟩:=er.2 j.1 v e2
   exact ⟨u',by simp [e4],r'⟩
 | cons y ys ih =>
  cases r with
  | cons r rs =>
   obtain ⟨h1,h2⟩:=ih rs
   refine ⟨congrArg Nat.succ h1,λi v e=>?_⟩
   cases i with
   | zero=>cases e;exact ⟨_,rfl,r⟩
   | succ i=>exact h2 i v e
def ip (T:Tb) (k:Nat) (g:TG) (cc' cc:SB) (ce' ce:SE):Prop:=∀ x,(∀ r h,cc' (some x::r) h = .bad)\/∃ ys:List AV,ys.length=k/\(∀ r h,cc' (some x::r) h=cc (ys.map some++r) h)/\(∀ r h,ce' (some x::r) h=ce (ys.map some++r) h) /\
 ∀ (ι:Ix) (H:Hp) (u:V),RV T ι H x u->∃ us,RVs T ι H ys us/\∀ (σ:St) (Q:St->Hp->Prop),Q (us.map some++σ) H->g u (List.replicate k none++σ) H Q
theorem qP {cc:SB} {ce:SE}:ip T 1 (j8 0) cc cc ce ce:=λx=>.inr ⟨[x],rfl,λ_ _=>rfl,λ_ _=>rfl,λ_ _ u r=>⟨[u],.cons r .nil,λ_ _ q=>q⟩⟩
structure CoS (T:Tb) (ι1:Ix) (H1:Hp) (en:En) (σ:St) (D:Addr) (ι':Ix) (h':AH) (vs:List AV) (ys:List V) (H2:Hp):Prop where
 hD:H2 D=some (.lst ys)
 g:Grow ι1 H1 ι' H2
 x:Ext ι1 H1 (ι'.hide D) H2
 S:Sim T (ι'.hide D) h' H2
 er:ER T (ι'.hide D) H2 en σ
 rv:RVs T (ι'.hide D) H2 vs ys
 nD:D∉ι'.refs
theorem wg {ι' ι5:Ix} {D:Addr} (e:ι5.priv=(ι'.hide D).priv):ι5=Ix.hide ⟨ι5.refs,ι'.priv⟩ D:=by
 cases ι5
 simp only at e
 subst e
 rfl
theorem DC {ι1 ι' ι5:Ix} {H1 H2 H5:Hp} {D:Addr} (g':Grow ι1 H1 ι' H2) (g:Grow (ι'.hide D) H2 ι5 H5):Grow ι1 H1 ⟨ι5.refs,ι'.priv⟩ H5:=by
 obtain ⟨n,en1,hn⟩:=g'.pre
 obtain ⟨k,ek,hk⟩:=g.pre
 refine ⟨⟨n++k,?_,λa ha=>?_⟩,g'.priv,λa o na ea=>g.keep a o (g'.outR na ea) (g'.keep a o na ea),λa ha=>g.live a ?_⟩
 ·show ι5.refs=_;rw [ek];show ι'.refs++k=_;rw [en1,List.append_assoc]
 ·rcases List.mem_append.mp ha with z | z
  ·exact hn a z
  ·have z2:=hk a z
   by_cases hr:a∈ι1.refs
   ·exact absurd z2 (g'.live a (List.mem_append_left _ hr))
   ·cases e9:H1 a with
    | none=>rfl
    | some o=>rw [g'.keep a o hr e9] at z2;cases z2
 ·rcases List.mem_append.mp ha with z | z
  ·exact List.mem_append_left _ (by show a∈ι'.refs;rw [en1];exact List.mem_append_left _ z)
  ·exact List.mem_append_right _ (List.mem_cons_of_mem _ (by rw [g'.priv];exact z))
section
variable {ι ι1 ι' ι5:Ix} {H H1 H2 H5:Hp} {h1 h' h5:AH} {en:En} {σ:St} {D:Addr} {vs:List AV} {ys:List V}
theorem CoS.skip (c:CoS T ι1 H1 en σ D ι' h' vs ys H2) (g:Grow (ι'.hide D) H2 ι5 H5) (S:Sim T ι5 h5 H5):CoS T ι1 H1 en σ D ⟨ι5.refs,ι'.priv⟩ h5 vs ys H5:=by
 have e:=wg g.priv
 exact ⟨g.keep D _ c.nD c.hD,DC c.g g,e▸c.x.trans g.ext,e▸S,e▸c.er.mono g,e▸c.rv.mono g,g.outR c.nD c.hD⟩
theorem CoS.poke {v:AV} {u:V} (c:CoS T ι1 H1 en σ D ι' h' vs ys H2) (hD:H1 D=none) (r:RV T (ι'.hide D) H2 v u):CoS T ι1 H1 en σ D ι' h' (vs++[v]) (ys++[u]) (aI H2 D (.lst (ys++[u]))):=by
 refine ⟨dU,⟨c.g.pre,c.g.priv,λa o na ea=>by rw [bg (eV ea hD)];exact c.g.keep a o na ea,λa ha=>?_⟩,c.x.trans Ext.poke,Sim.poke c.S c.nD,ER.ext c.er Ext.poke,RVs.ext Ext.poke (c.rv.append (.cons r .nil)),c.nD⟩
 by_cases z:a=D
 ·subst z;rw [dU];simp
 ·rw [bg z];exact c.g.live a ha
theorem CoS.push {v:AV} {u:V} (c:CoS T ι1 H1 en σ D ι' h' vs ys H2) (hD:H1 D=none) (g:Grow (ι'.hide D) H2 ι5 H5) (S:Sim T ι5 h5 H5) (r:RV T ι5 H5 v u):CoS T ι1 H1 en σ D ⟨ι5.refs,ι'.priv⟩ h5 (vs++[v]) (ys++[u]) (aI H5 D (.lst (ys++[u]))) :=
 (c.skip g S).poke hD ((wg g.priv)▸r)
theorem CoS.fin (c:CoS T ι1 H1 en σ D ι' h' vs ys H2) (g1:Grow ι H ι1 H1) (S1:Sim T ι1 h1 H1) (hD:H1 D=none):D∉ι'.all/\∀ n,ι'.refs=ι.refs++n->∀ a∈n++[D],H a=none:=by
 refine ⟨λz=>(List.mem_append.mp z).elim c.nD λz=>by rw [c.g.priv] at z;exact S1.plive D z hD,λn en1 a ha=>?_⟩
 obtain ⟨k,ek,hk⟩:=(g1.trans c.g).pre
 have:n=k:=List.append_cancel_left (en1.symm.trans ek)
 subst this
 rcases List.mem_append.mp ha with z | z
 ·exact hk a z
 ·have z':a=D:=by simpa using z
  subst z'
  cases e9:H a with
  | none=>rfl
  | some o =>
   by_cases hr:a∈ι.refs
   ·obtain ⟨k1,ek1,_⟩:=g1.pre
    exact absurd hD (S1.live a (List.mem_append_left _ (by rw [ek1];exact List.mem_append_left _ hr)))
   ·rw [g1.keep a o hr e9] at hD;cases hD
theorem CoS.start (er:ER T ι H en σ) (g1:Grow ι H ι1 H1) (S1:Sim T ι1 h1 H1) (hD:H1 D=none):CoS T ι1 H1 en σ D ι1 h1 [] [] (aI H1 D (.lst [])) :=
 ⟨dU,S1.growNew hD,Ext.hide hD,S1.hide hD,(er.mono g1).ext (Ext.hide hD),.nil,λz=>S1.fresh hD (List.mem_append_left _ z)⟩
end
def nE (T:Tb) (ι:Ix) (H:Hp) (Q:VK) (o:Out (List AV)):Prop:=match o with
 | .ok ys h2=>∀ ι' H' D vs,Grow ι H ι' H'->Sim T (ι'.hide D) h2 H'->RVs T (ι'.hide D) H' ys vs->H' D=some (.lst vs)->D∉ι'.all->(∀ n,ι'.refs=ι.refs++n->∀ a∈n++[D],H a=none)->Q (.ref D) H'
 | _=>False
theorem wj {k:Nat} {g:TG} {cc' cc:SB} {ce' ce:SE} {jf:List (Nat×Str)} {σ:St} {H H1:Hp} {Q:VK} {ι ι1:Ix} {h1:AH} {en:En} {xs all:List AV} {w:Option Nat} {J:It} (U:ip T k g cc' cc ce' ce) (er:ER T ι H en σ) (g1:Grow ι H ι1 H1) (S1:Sim T ι1 h1 H1)
  (IR:lj T J ι1 H1 xs (cS w all)) (q:nE T ι H Q (dw (jf.map (·.1)) en w all cc' ce' xs [] h1)):vv k g jf (tT T EN cc) (tE T EN ce) σ Q J H1:=by
 intro D hD
 refine ⟨λi m ys H2=>m=xs.length-i/\i<=xs.length/\∃ ι' h' vs,CoS T ι1 H1 en σ D ι' h' vs ys H2/\nE T ι H Q (dw (jf.map (·.1)) en w all cc' ce' (xs.drop i) vs h'),⟨xs.length,rfl,Nat.zero_le _,ι1,h1,[],CoS.start er g1 S1 hD,q⟩,?_⟩
 rintro i m ys H2 ⟨rfl,hi,ι',h',vs,c,q'⟩
 refine ⟨c.hD,?_⟩
 by_cases hl:i<xs.length
 ·rw [qO hl] at q'
  unfold dw at q'
  by_cases hs:cS w all h'=true/\vs.length<sizeLine
  ·rw [if_pos hs] at q'
   obtain ⟨go,yld⟩:=IR.go i _ h' H2 xs[i] c.x c.S hs.1 (by simp [hl])
   refine .inr ⟨go,by rw [<- c.rv.length];exact hs.2,λx H3 y=>?_⟩
   obtain ⟨g3,S3,r3⟩:=yld x H3 y
   rcases U xs[i] with z | ⟨zs,lz,z1,z2,z3⟩
   ·rw [z] at q';exact False.elim q'
   obtain ⟨us,rs,gq⟩:=z3 _ _ _ r3
   have er3:=ER.comp (jf:=jf) (c.er.mono g3) rs
   rw [z1] at q'
   refine ⟨us,by rw [<- rs.length];exact lz,gq _ _ ⟨rfl,rfl⟩,ι'.hide D,h',_,S3,er3,?_⟩
   cases ec:cc (zs.map some++(jf.map (·.1)).map λj=>(en[j]?).join) h' with
   | bad=>rw [ec] at q';exact q'
   | ex k h5=>rw [ec] at q';exact False.elim q'
   | ok bb h5 =>
    rw [ec] at q'
    intro ι5 H5 b5 g5 S5 r5
    subst r5
    cases bb with
    | false =>
     rw [if_neg Bool.false_ne_true]
     exact ⟨xs.length-(i+1),by omega,rfl,hl,_,h5,vs,c.skip (g3.trans g5) S5,q'⟩
    | true =>
     rw [if_pos rfl]
     refine ⟨ι5,h5,_,S5,er3.mono g5,?_⟩
     dsimp only at q'
     rw [z2] at q'
     cases ee:ce (zs.map some++(jf.map (·.1)).map λj=>(en[j]?).join) h5 with
     | bad=>rw [ee] at q';exact q'
     | ex k h6=>rw [ee] at q';exact False.elim q'
     | ok v h6 =>
      rw [ee] at q'
      intro ι6 H6 u6 g6 S6 r6
      have g36:=(g3.trans g5).trans g6
      exact ⟨g36.keep D _ c.nD c.hD,xs.length-(i+1),by omega,rfl,hl,_,h6,vs++[v],c.push hD g36 S6 r6,q'⟩
  ·rw [if_neg hs] at q';exact False.elim q'
 ·have ei:i=xs.length:=by omega
  subst ei
  rw [List.drop_length] at q'
  unfold dw at q'
  by_cases hs:cS w all h'=true
  ·rw [if_pos hs] at q'
   have f:=c.fin g1 S1 hD
   exact .inl ⟨IR.stop _ _ h' H2 c.x c.S hs (Nat.le_refl _),q' ι' H2 D ys (g1.trans c.g) c.S c.rv c.hD f.1 f.2⟩
  ·rw [if_neg hs] at q';exact False.elim q'
end
end Sm
namespace Sm
open PySem PySem.Spec L2
section
variable {T:Tb} {E:St->XK} {X:Cx} {pos px:Pos} {iter elt:Expr} {ifs:List Expr} {scope:Scope} {x₁:Str} {jf:List (Nat×Str)} {it:SI} {cc:SB} {ce:SE}
theorem DD {ι:Ix} {H:Hp} {Q:VK} {F:XK} {o:Out (List AV)} (q:Post T ι H F (RV T) (match o with | .ok ys h2=>.ok (.fl ys) h2 | _=>.bad) Q):nE T ι H Q o:=by
 cases o with
 | bad=>exact q
 | ex c h1=>exact q.elim
 | ok ys h2=>exact λι' H' D vs g S' r hD nD _=>q ι' H' _ g S'.show (.fl nD (.inl hD) (r.ext Ext.show))
theorem DE {ι:Ix} {H:Hp} {Q:VK} {F:XK} {o:Out (List AV)} (q:Post T ι H F (RV T) (match o with | .ok ys h2=>.ok (.ref h2.length) (h2++[.lst ys]) | _=>.bad) Q):nE T ι H Q o:=by
 cases o with
 | bad=>exact q
 | ex c h1=>exact q.elim
 | ok ys h2 =>
  intro ι' H' D vs g S' r hD nD hn
  obtain ⟨n,en1,_⟩:=g.pre
  have S2:Sim T (ι'.add D) (h2++[.lst ys]) H' := S'.adopt (Ix.nr nD) hD ⟨vs,rfl,r.ext Ext.adopt⟩
  refine q (ι'.add D) H' _ ⟨⟨n++[D],?_,hn n en1⟩,g.priv,g.keep,g.live⟩ S2 (.ref ?_)
  ·show ι'.refs++[D]=_;rw [en1];simp
  ·show (ι'.refs++[D])[h2.length]? = some D
   have:ι'.refs.length=h2.length:=S'.len
   rw [<- this];simp
theorem wk {k:Nat} {g:TG} {cc':SB} {ce':SE} {σ:St} {H:Hp} {Q:VK} (U:ip T k g cc' cc ce' ce) (q:tE T E (c3 (jf.map (·.1)) it cc' ce') σ H Q):kY k g jf (tI T it) (tT T EN cc) (tE T EN ce) σ H Q:=by
 obtain ⟨ι,h,en,S,er,q⟩:=q
 refine ⟨ι,h,en,S,er,?_⟩
 unfold c3 at q
 cases e:it en h with
 | bad=>rw [e] at q;exact q
 | ex c h1=>rw [e] at q;exact q.elim
 | ok p h1=>rw [e] at q;exact λι1 H1 J g1 S1 IR=>wj U er g1 S1 IR (DD q)
theorem DF {k:Nat} {g:TG} {cc':SB} {ce':SE} {σ:St} {H:Hp} {Q:VK} (U:ip T k g cc' cc ce' ce) (q:tE T E (gS (jf.map (·.1)) it cc' ce') σ H Q):kY k g jf (tI T it) (tT T EN cc) (tE T EN ce) σ H Q:=by
 obtain ⟨ι,h,en,S,er,q⟩:=q
 refine ⟨ι,h,en,S,er,?_⟩
 unfold gS at q
 cases e:it en h with
 | bad=>rw [e] at q;exact q
 | ex c h1=>rw [e] at q;exact q.elim
 | ok p h1=>rw [e] at q;exact λι1 H1 J g1 S1 IR=>wj U er g1 S1 IR (DE q)
theorem ke:gO X [] (tT T E bq):=λpins s σ H Q I ⟨ι,h,en,S,er,q⟩=>BR pins s σ H Q I (q.now S rfl)
theorem DH {c:Expr} (hc:fC T E X c cc):gO X [c] (tT T E cc):=BS hc
theorem qQ (C:CompOk X [x₁] jf scope) (hcalm:X.calm=true) (hi:jM T X (.Name x₁ px) iter it) (hc:∀ pins cl s H fp,gO (cF X pins [x₁] jf scope cl s H fp) ifs (tT T EN cc)) (he:∀ pins cl s H fp,aG T EN (cF X pins [x₁] jf scope cl s H fp) elt ce)
  (hs:∀ x,foldedSetIterable iter X.env x=pure x:=by intro _;rfl):aG T E X (.ListComp elt [⟨.Name x₁ px,iter,ifs,0⟩] scope pos) (c3 (jf.map (·.1)) it cc ce) :=
 bW (BV hcalm (λ_ _ _ _ _=>C.pg 0 rfl (.head _)) hi hc he C hs) λ_ _ _ q=>wk qP q
theorem qR {y:Str} {py spos:Pos} {i:Nat} (C:CompOk X [x₁] jf scope) (hcalm:X.calm=true) (hi:jM T X (.Name x₁ px) iter it) (hc:∀ pins cl s H fp,gO (cF X pins [x₁] jf scope cl s H fp) ifs (tT T EN cc)) (he:∀ pins cl s H fp,aG T EN (cF X pins [x₁] jf scope cl s H fp) elt ce)
  (hNX:X.N.Nodup) (hi':X.N[i]? = some y:=by rfl) (hy:X.env.scope.names.lookup y=some .local:=by rfl) (hsw:swapsWith (.ListComp elt [⟨.Name x₁ px,iter,ifs,0⟩] scope pos) (some (.Name y py)) spos.line X.env=pure true:=by rfl) (hs:∀ x,foldedSetIterable iter X.env x=pure x:=by intro _;rfl) :
  dP T E X (.Assign [.Name y py] (.ListComp elt [⟨.Name x₁ px,iter,ifs,0⟩] scope pos) spos) (au i (c3 (jf.map (·.1)) it cc ce)) :=
 fg (vx hcalm (λ_ _ _ _ _=>C.pg 0 rfl (.head _)) hi hc he C hNX hi' hy hsw hs) λD σ H q=>wk qP (qL q)
theorem DJ {y:Str} {py spos:Pos} {i:Nat} (C:CompOk X [x₁] jf scope) (hcalm:X.calm=true) (hi:jM T X (.Name x₁ px) iter it) (hc:∀ pins cl s H fp,gO (cF X pins [x₁] jf scope cl s H fp) ifs (tT T EN cc)) (he:∀ pins cl s H fp,aG T EN (cF X pins [x₁] jf scope cl s H fp) elt ce)
  (hNX:X.N.Nodup) (hi':X.N[i]? = some y:=by rfl) (hy:X.env.scope.names.lookup y=some .local:=by rfl) (hsw:swapsWith (.ListComp elt [⟨.Name x₁ px,iter,ifs,0⟩] scope pos) (some (.Name y py)) spos.line X.env=pure true:=by rfl) (hs:∀ x,foldedSetIterable iter X.env x=pure x:=by intro _;rfl) :
  dP T E X (.Assign [.Name y py] (.ListComp elt [⟨.Name x₁ px,iter,ifs,0⟩] scope pos) spos) (au i (gS (jf.map (·.1)) it cc ce)) :=
 fg (vx hcalm (λ_ _ _ _ _=>C.pg 0 rfl (.head _)) hi hc he C hNX hi' hy hsw hs) λD σ H q=>DF qP (qL q)
end
def iq (T:Tb) (F:Fn):Sp:=λvs H Q E=>∃ ι h args,Sim T ι h H/\RVs T ι H args vs/\Post T ι H E (RV T) (F args h) Q
def DL (F:Fn) (n:Nat):Prop:=∀ args h,args.length≠n->F args h = .bad
theorem wm (n m:Nat) (b:SS):DL (aC n m b) n:=λargs h hl=>by
 unfold aC
 rw [if_neg hl]
theorem nF {P:Program} {w:World} {K:PySem.W.Frag} {mg:Str->Option Value} {base:Heap} {T:Tb} {x qual:Str} {st:Stmt} {f:Addr} {fd:FuncData} {N ps:List Str} {k:Nat} {b:SS} (F:Fun K x qual st f fd) (hK:K=T.K) (S:ao N ps (aL st))
  (hbody:∀ (cdv:Value) (A:Around) (outer:List Env) (s:Shared) (H:Hp) (E:XK),Room k (A.deeper (PyProof.Rows.envOfC qual (aL st) s.heap.objs.size f cdv))->CA T (λ_=>E) (bw (cf P w) P w K mg base N qual (aL st) f cdv A outer s H E) ->
   bN T (λ_=>E) (bw (cf P w) P w K mg base N qual (aL st) f cdv A outer s H E) (gN st) b):FnOk P w K mg base (cf P w) (k+1) f fd ps (iq T (aC ps.length N.length b)):=by
 refine F.okE S (λvs H Q E h=>?_) (λcdv A outer s H vs Q E hr h=>?_)
 ·obtain ⟨ι,h,args,_,r,q⟩:=h
  by_cases hl:args.length=ps.length
  ·rw [<- hl,r.length]
  ·rw [wm _ _ _ args h hl] at q;exact q.elim
 ·obtain ⟨ι,h,args,Si,r,q⟩:=h
  refine ⟨_,hbody cdv A outer s H E hr ⟨hK,Ck⟩,ι,h,args.map some++List.replicate (N.length-ps.length) none,Si,?_,?_⟩
  ·by_cases hl:args.length=ps.length
   ·refine ⟨by simp [L2.start,r.length,<- hl],λi v e=>?_⟩
    unfold L2.start
    by_cases hi:i<args.length
    ·rw [List.getElem?_append_left (by simpa using hi),List.getElem?_map] at e
     rw [List.getElem?_append_left (by simpa [<- r.length] using hi),List.getElem?_map]
     obtain ⟨x,e1,e2⟩:=Option.map_eq_some_iff.mp e
     cases e2
     obtain ⟨u,e3,r3⟩:=r.get e1
     exact ⟨u,by rw [e3];rfl,r3⟩
    ·rw [List.getElem?_append_right (by simpa using hi),List.getElem?_replicate] at e
     split at e
     ·cases e
     ·cases e
   ·rw [wm _ _ _ args h hl] at q;exact q.elim
  ·unfold aC at q
   split at q
   ·split at q
    ·rename_i e1 h1 he
     rw [he]
     exact λι' H' σ' g S' er=>q ι' H' _ g S' .non
    ·rename_i v h1 he
     rw [he]
     exact q
    ·rename_i c e1 h1 he
     rw [he]
     exact λι' H' σ' C g S' er ec=>q ι' H' C g S' ec
    ·exact q.elim
   ·exact q.elim
structure GF (P:Program) (w:World) (T:Tb) (mg:Str->Option Value) (base:Heap) (k:Nat) (x:Str) (F:Fn):Prop where
 ex:∃ f fd ps,mg x=some (.ref f)/\PySem.W.keepIn T.K (.ref f)=true/\Binds T.K fd ps []/\FnOk P w T.K mg base (cf P w) k f fd ps (iq T F)
structure GM (P:Program) (w:World) (T:Tb) (mg:Str->Option Value) (base:Heap) (k:Nat) (c:Nat) (m:Str) (F:Fn):Prop where
 ex:∃ C f fd ps,T.cls c=some C/\Cls T.K C/\gv T.K C m f/\Binds T.K fd ps []/\FnOk P w T.K mg base (cf P w) k f fd ps (iq T F)
 no:m∉T.fields c
section
variable {T:Tb} {E:St->XK} {X:Cx} {pos p apos:Pos} {e o a:Expr} {es:List Expr} {x m:Str} {F:Fn} {k c:Nat} {as:SL} {so sa:SE}
theorem aZ (hK:X.K=T.K) (C:CA T E X) (G:GF X.prog X.w T X.mg X.base k x F) (hr:Room k X.A) (hg:Gl X x) (ha:fW T E X (e::es) as) (hdb:(x == ("__debug__" : Str))=false:=by decide)
  (he:starEach (e::es) X.env=(false,eval e X.env)::starEach es X.env:=by rfl) (hpl:(backTo pos (starEach es X.env)).any (·.1)=false:=by rfl):aG T E X (.Call (.Name x p) (e::es) [] pos) (aD F as):=by
 obtain ⟨f,fd,ps,h1,h2,h3,h4⟩:=G.ex
 refine bW (Cp (Ex:=E) (dvs:=[]) (hK▸h4) hr hg h1 (hK▸h2) (hK▸h3) .nil C.pass ha hdb he hpl) λσ H Q=>E6x λι h en S er q=>⟨ι,h,en,S,er,q.bind λxs h1 ι1 H1 us g1 S1 r1 q1=>?_⟩
 rw [List.append_nil]
 exact ⟨ι1,h1,xs,S1,r1,q1⟩
theorem wo {C:Addr} {σ:St} {H:Hp} {Q:VK} (hc:T.cls c=some C) (no:m∉T.fields c) (q:tE T E (aJ c F so as) σ H Q):vH C m (iq T F) [] E (tE T E so) (tA T E as) σ H Q:=by
 obtain ⟨ι,h,en,S,er,q⟩:=q
 refine ⟨ι,h,en,S,er,q.bind λx h1 ι1 H1 u g1 S1 r1 q1=>?_⟩
 split at q1
 ·rename_i n
  split at q1
  ·rename_i c' fs hn
   split at q1
   ·rename_i ec
    subst ec
    cases r1 with
    | @ref _ a hr =>
     obtain ⟨o,e1,C',dx,fus,hC,rfl,nd,hw,hl,_⟩:=S1.obj n _ a hn hr
     rw [hc] at hC;cases hC
     refine ⟨a,dx,fus,rfl,e1,?_,ι1,h1,en,S1,er.mono g1,q1.bind λxs h2 ι2 H2 us g2 S2 r2 q2=>?_⟩
     ·cases e:fus.lookup m with
      | none=>rfl
      | some v =>
       have:=PySem.mem_of_lookup e
       exact absurd (hw _ this) no
     ·rw [List.append_nil]
      exact ⟨ι2,h2,.ref n::xs,S2,.cons (.ref (g2.at hr)) r2,q2⟩
   ·exact q1.elim
  ·exact q1.elim
 ·exact q1.elim
theorem aR {pl:Sem Bool} (hK:X.K=T.K) (CC:CA T E X) (G:GM X.prog X.w T X.mg X.base k c m F) (hr:Room k X.A) (ho:aG T E X o so) (ha:fW T E X (e::es) as)
  (hst:starEach (e::es) X.env=(false,eval e X.env)::starEach es X.env:=by rfl) (hpl:(backTo pos (starEach es X.env)).any (·.1)=false:=by rfl)
  (ht:eval (.Call (.Attribute o m apos) (e::es) [] pos) X.env=(do
   let ov <- eval o X.env
   standAt apos.atName
   let (f,first) <- holding [ov] (getMethod ov m pl)
   callWith pos f first (backTo pos (starEach (e::es) X.env)) (backToKw pos (keywordEach [] X.env))):=by rfl):aG T E X (.Call (.Attribute o m apos) (e::es) [] pos) (aJ c F so as):=by
 obtain ⟨C,f,fd,ps,h1,h2,h3,h4,h5⟩:=G.ex
 exact bW (Cq (Ex:=E) (dvs:=[]) (pl:=pl) ho (hK▸h2) (hK▸h3) (hK▸h5) hr (hK▸h4) .nil CC.pass ha hst hpl ht) λσ H Q q=>wo h1 G.no q
theorem kf {pl:Sem Bool} (hK:X.K=T.K) (CC:CA T E X) (G:GM X.prog X.w T X.mg X.base k c m F) (hr:Room k X.A) (ho:aG T E X o so)
  (ht:eval (.Call (.Attribute o m apos) [] [] pos) X.env=(do
   let ov <- eval o X.env
   standAt apos.atName
   let (f,first) <- holding [ov] (getMethod ov m pl)
   callWith pos f first (backTo pos (starEach [] X.env)) (backToKw pos (keywordEach [] X.env))):=by rfl):aG T E X (.Call (.Attribute o m apos) [] [] pos) (aJ c F so af):=by
 obtain ⟨C,f,fd,ps,h1,h2,h3,h4,h5⟩:=G.ex
 intro pins s σ H Q I q
 have q' := wo (C:=C) h1 G.no q
 refine PySem.W.methodCall_KW (pl:=pl) (thn (ho pins s σ H _ I q') λu s1 Zz=>?_) ht;obtain ⟨x,H1,I1,rx,a,dx,fs,ex,ea,l,q⟩:=Zz
 subst ex
 obtain rfl:u=Value.ref a:=rx
 refine uU I1 ea (hK▸h2) (hK▸h3) l ?_
 obtain ⟨ι,h,en,S,er,q⟩:=q
 refine PySem.W.callWith_K0 (first:=[.ref a]) I1.kIn (hK▸h3.kp) (qo (dvs:=[]) (us:=[.ref a]) (vs:=[.ref a]) (hK▸h5) hr (hK▸h4) .nil CC.pass I1 (.cons rfl .nil) (q.now S .nil))
structure CF (T:Tb) (c:Nat):Prop where
 ex:∃ C,T.cls c=some C/\Cls T.K C/\∀ f∈T.fields c,NoAttr T.K C f
structure GK (P:Program) (w:World) (T:Tb) (mg:Str->Option Value) (base:Heap) (k:Nat) (c:Nat) (x:Str) (F:Fn):Prop where
 ex:∃ C f fd ps,T.cls c=some C/\mg x=some (.ref C)/\Mk T.K C f/\Binds T.K fd ps []/\FnOk P w T.K mg base (cf P w) k f fd ps (iq T F)
theorem DM {CX:e7} {C f:Addr} {fd:FuncData} {ps:List Str} {sp:Sp} {dvs:List V} {ds:List Value} {pins:List (Addr×Obj)} {σ:St} {H:Hp} {s:Shared} {Q:VK} {us:List Value} {vs:List V} (M:Mk X.K C f) (F:FnOk X.prog X.w X.K X.mg X.base CX k f fd ps sp) (hr:Room (k+1) X.A) (hb:Binds X.K fd ps ds) (hd:Vals dvs ds)
  (hx:jw CX X E) (I:L2.Inv X pins σ H s) (r:Vals vs us)
  (h:∀ x dx,H x=none->H dx=none->dx≠x->sp (.ref x::(vs++dvs)) (aI (aI H dx (.own x)) x (.ins C dx [])) (λv H2=>v = .non/\Q (.ref x) H2) (E σ)) :
  wpAny (model X.prog X.w) X.A (call (.ref C) us) (EP X pins σ Q) X.xe s:=by
 have hq:=h (s.heap.objs.size+1) s.heap.objs.size (I.hok.fresh (Nat.le_succ _)) (I.hok.fresh (Nat.le_refl _)) (Nat.ne_of_lt (Nat.lt_succ_self _))
 have I2:=Inv.made (C:=C) I
 have r2:Vals (V.ref (s.heap.objs.size+1)::(vs++dvs)) (Value.ref (s.heap.objs.size+1)::(us++ds)):=.cons rfl (r.append hd)
 have hl:(Value.ref (s.heap.objs.size+1)::us++ds).length=ps.length:=by
  have e:=r2.length
  rw [F.len _ _ _ _ hq] at e
  exact e.symm
 refine wpAny_call (AB (f:=f) I.kIn M.makes M.init (beq_iff_eq.mp M.fn) (codeAny_mono (F.run _ X.stack _ _ ⟨Value.ref (s.heap.objs.size+1)::us,[]⟩ (Value.ref (s.heap.objs.size+1)::(us++ds)) _ _ (E σ) (hr.make C us [])
  (I2.env0.make C us []) (hb _ (Value.ref (s.heap.objs.size+1)::us) I2.kIn hl) r2 hq) λr s' hq' => ?_))
 cases r with
 | error e=>exact hx pins σ _ _ e s' I2 hq'
 | ok fl =>
  cases fl with
  | ret u =>
   obtain ⟨v,H',I3,rv,ev,q3⟩:=I2.after hq'
   subst ev
   exact ⟨rv,⟨V.ref (s.heap.objs.size+1),H',I3,rfl,q3⟩⟩
  | next=>exact False.elim hq'
  | brk=>exact False.elim hq'
  | cont=>exact False.elim hq'
theorem DO {C:Addr} {xs:List AV} {us:List V} {H:Hp} {Q:VK} {ι:Ix} {h:AH} {E:XK} {n:Nat} (hc:T.cls c=some C) (hn:(T.fields c).length=n) (S:Sim T ι h H) (r:RVs T ι H xs us)
  (q:Post T ι H E (RV T) (match F (.ref h.length::xs) (h++[.ins c (List.replicate n none)]) with | .ok .non h2=>Out.ok (AV.ref h.length) h2 | .ex c h2=>.ex c h2 | _=>.bad) Q) :
  ∀ x dx,H x=none->H dx=none->dx≠x->iq T F (.ref x::us) (aI (aI H dx (.own x)) x (.ins C dx [])) (λv H2=>v = .non/\Q (.ref x) H2) E:=by
 intro x dx nx ndx ne
 have nx':(aI H dx (.own x)) x=none:=by rw [bg (Ne.symm ne)];exact nx
 have S1:=S.new (o:=.own x) ndx
 have g1:=S.growNew (o:=.own x) ndx
 have g2:=S1.growAdd (u:=.ins C dx []) nx'
 have S2:Sim T (ι.add x) (h++[.ins c (List.replicate n none)]) (aI (aI H dx (.own x)) x (.ins C dx [])):=S1.add nx' ⟨C,dx,[],hc,rfl,by simp,by simp,by simp [hn],λi v e=>by
  rw [List.getElem?_replicate] at e
  split at e
  ·cases e
  ·cases e⟩
 refine ⟨ι.add x,_,.ref h.length::xs,S2,.cons (.ref S.addAt) (r.mono (g1.trans g2)),?_⟩
 have q2:=q.shift (g1.trans g2)
 cases e:F (.ref h.length::xs) (h++[.ins c (List.replicate n none)]) with
 | bad=>rw [e] at q2;exact q2
 | ex c' h2=>rw [e] at q2;exact q2
 | ok v h2 =>
  rw [e] at q2
  cases v with
  | non=>exact λι' H' u g S' r' => ⟨nj r',q2 ι' H' _ g S' (.ref (g.at S.addAt))⟩
  | _=>exact (show False from q2).elim
theorem wq {n:Nat} (hK:X.K=T.K) (CC:CA T E X) (G:GK X.prog X.w T X.mg X.base k c x F) (hr:Room (k+1) X.A) (hg:Gl X x) (hn:(T.fields c).length=n:=by rfl) (hdb:(x == ("__debug__" : Str))=false:=by decide):aG T E X (.Call (.Name x p) [] [] pos) (jA c n F af):=by
 obtain ⟨C,f,fd,ps,h1,h2,h3,h4,h5⟩:=G.ex
 intro pins s σ H Q I ⟨ι,h,en,S,er,q⟩
 refine wpAny_Call_Name_kw (kG I hg h2 ?_ hdb)
 have M:Mk X.K C f:=hK▸h3
 exact PySem.W.callWith_K0 I.kIn M.kp (DM (us:=[]) (vs:=[]) (dvs:=[]) M (hK▸h5) hr (hK▸h4) .nil CC.pass I .nil (DO h1 hn S .nil q))
theorem bt {i:Nat} {f:Str} (hK:X.K=T.K) (CFc:CF T c) (ho:aG T E X o so) (hf:(T.fields c)[i]? = some f:=by rfl) (hb:attributeBase o f X.env (eval o X.env)=eval o X.env:=by rfl):aG T E X (.Attribute o f pos) (Sm.sFld c i so):=by
 obtain ⟨C,hC,hcl,hna⟩:=CFc.ex
 refine bW (AG ho hb) λσ H Q=>E6x λι h en S er q=>⟨ι,h,en,S,er,q.bind λx h1 ι1 H1 u g1 S1 r1 q1=>?_⟩
 split at q1
 ·rename_i n
  split at q1
  ·rename_i c' fs hn
   split at q1
   ·rename_i ec
    subst ec
    split at q1
    ·rename_i v hv
     cases r1 with
     | @ref _ a hr =>
      obtain ⟨o,e1,C',dx,fus,hC',rfl,nd,hw,hl,hr2⟩:=S1.obj n _ a hn hr
      rw [hC] at hC';cases hC'
      obtain ⟨f',u,e2,e3,r3⟩:=hr2 i v hv
      rw [hf] at e2;cases e2
      exact ⟨a,_,dx,fus,u,rfl,e1,hK▸hcl,hK▸hna f (List.mem_of_getElem? hf),e3,q1.now S1 r3⟩
    ·exact q1.elim
   ·exact q1.elim
  ·exact q1.elim
 ·exact q1.elim
theorem wu (f:Str) (v:V):∀ {fs:List (Str×V)},(fs.map (·.1)).Nodup->((bh f v fs).map (·.1)).Nodup/\∀ g,g∈(bh f v fs).map (·.1)->g=f\/g∈fs.map (·.1)
 | [],_=>by simp [bh]
 | (g,x)::r,n=>by
  obtain ⟨n1,n2⟩:=List.nodup_cons.mp (show (g::r.map (·.1)).Nodup from n)
  unfold bh
  split
  ·rename_i e
   subst e
   exact ⟨n,λk hk=>.inr hk⟩
  ·rename_i e
   obtain ⟨h1,h2⟩:=wu f v (fs:=r) n2
   refine ⟨List.nodup_cons.mpr ⟨λz=>?_,h1⟩,λk hk=>?_⟩
   ·rcases h2 g z with z | z
    ·exact e z
    ·exact n1 z
   ·rcases List.mem_cons.mp hk with z | z
    ·exact .inr (by rw [z];simp)
    ·rcases h2 k z with z | z
     ·exact .inl z
     ·exact .inr (List.mem_cons_of_mem _ z)
theorem wx:∀ {l m:List Str},l.Nodup->(∀ x∈l,x∈m)->l.length<=m.length
 | [],m,_,_=>Nat.zero_le _
 | x::l,m,n,h=>by
  obtain ⟨n1,n2⟩:=List.nodup_cons.mp n
  have hx:=h x (by simp)
  have:=wx (l:=l) (m:=m.erase x) n2 λy hy=>by
   have ne:y≠x:=λz=>n1 (z▸hy)
   exact (List.mem_erase_of_ne ne).mpr (h y (by simp [hy]))
  rw [List.length_erase_of_mem hx] at this
  have:0<m.length:=List.length_pos_of_mem hx
  simp only [List.length_cons]
  omega
theorem iV {i:Nat} {f:Str} {p':Pos} (hK:X.K=T.K) (CFc:CF T c) (ho:aG T E X o so) (ha:aG T E X a sa) (hf:(T.fields c)[i]? = some f:=by rfl) (hs:swapsWith a (some (.Attribute o f p')) pos.line X.env=pure false:=by rfl) :
  dP T E X (.Assign [.Attribute o f p'] a pos) (hZ c i so sa):=by
 obtain ⟨C,hC,hcl,hna⟩:=CFc.ex
 refine fg (AI ho ha hs) λD σ H=>E6x λι h en S er q=>⟨ι,h,en,S,er,q.go er λy h1 ι1 H1 v g1 S1 r1 q1=>⟨ι1,h1,en,S1,er.mono g1,q1.go (er.mono g1) λx h2 ι2 H2 u g2 S2 r2 q2=>?_⟩⟩
 split at q2
 ·rename_i n
  split at q2
  ·rename_i c' fs hn
   split at q2
   ·rename_i ec
    subst ec
    cases r2 with
    | @ref _ a hr =>
     obtain ⟨o,e1,C',dx,fus,hC',rfl,nd,hw,hl,hr2⟩:=S2.obj n _ a hn hr
     rw [hC] at hC';cases hC'
     have hmem:f∈T.fields c' := List.mem_of_getElem? hf
     have hlen:fus.length<1000:=by
      have:=wx nd (m:=T.fields c') (λx hx=>by
       obtain ⟨p,hp,rfl⟩:=List.mem_map.mp hx
       exact hw p hp)
      have:=T.few c'
      rw [List.length_map] at *
      omega
     obtain ⟨k1,k2⟩:=wu f v nd
     have g3:=S2.growSet (u:=.ins C dx (bh f v fus)) hr
     refine ⟨a,C,dx,fus,rfl,e1,hK▸hcl,hK▸hna f hmem,hlen,q2 ι2 _ σ g3 (S2.set hr ⟨C,dx,bh f v fus,hC,rfl,k1,λp hp=>?_,by simp [hl],λj w hj=>?_⟩) (er.mono (g1.trans (g2.trans g3)))⟩
     ·rcases k2 p.1 (List.mem_map.mpr ⟨p,hp,rfl⟩) with z | z
      ·rw [z];exact hmem
      ·obtain ⟨p',hp',e⟩:=List.mem_map.mp z
       rw [<- e];exact hw p' hp'
     ·by_cases hji:j=i
      ·subst hji
       have hjl:j<fs.length:=by
        have:=(List.getElem?_eq_some_iff.mp hj).1
        simpa using this
       rw [List.getElem?_set_self hjl] at hj
       cases hj
       exact ⟨f,v,hf,by rw [mL,if_pos rfl],r1.mono (g2.trans g3)⟩
      ·rw [List.getElem?_set_ne (Ne.symm hji)] at hj
       obtain ⟨f',u,e2,e3,r3⟩:=hr2 j w hj
       have ne:f'≠f:=λz=>hji (mG (T.nd c') e2 (z▸hf))
       exact ⟨f',u,e2,by rw [mL,if_neg ne];exact e3,r3.mono g3⟩
   ·exact (show False from q2).elim
  ·exact (show False from q2).elim
 ·exact (show False from q2).elim
end
end Sm
namespace Sm
open PySem PySem.Spec L2
theorem qS {T:Tb} {ι:Ix} {H:Hp} {k:aF} {u:V} (r:RV T ι H (kA k) u):u=kV k:=by
 cases k with
 | inl i=>exact bB r
 | inr x=>exact (dI r).1
theorem qT {k j:aF} (e:kA k=kA j):k=j:=by
 cases k<;>cases j<;>simp [kA] at e<;>simp [e]
theorem qU:∀ {ks js:List aF},ks.map kA=js.map kA->ks=js
 | [],[],_=>rfl
 | [],_::_,e=>by simp at e
 | _::_,[],e=>by simp at e
 | k::ks,j::js,e=>by
  simp only [List.map_cons,List.cons.injEq] at e
  rw [qT e.1,qU e.2]
theorem wy {T:Tb} {ι:Ix} {H:Hp}:∀ {ks:List aF} {us:List V},RVs T ι H (ks.map kA) us->us=ks.map kV
 | [],_,.nil=>rfl
 | k::ks,_,.cons r rs=>by rw [qS r,wy rs];rfl
theorem qV {v:AV} {k:aF} (e:keyOf? v=some k):v=kA k:=by
 unfold keyOf? at e
 split at e<;>cases e<;>rfl
theorem nG:∀ {vs:List AV} {ks:List aF},keysOf? vs=some ks->vs=ks.map kA
 | [],_,e=>by cases e;rfl
 | v::vs,ks,e=>by
  unfold keysOf? at e
  split at e
  ·rename_i k ks' e1 e2
   cases e
   rw [qV e1,nG e2];rfl
  ·cases e
theorem nH {κ:Type} [DecidableEq κ] {T:Tb} {ι:Ix} {H:Hp} {f:κ->AV} (hf:∀ {a b},f a=f b->a=b) {k:κ}:∀ {kvs:List (AV×AV)} {kus:List (κ×V)},Paired (λ(p:AV×AV) (q:κ×V)=>p.1=f q.1/\RV T ι H p.2 q.2) kvs kus ->
  (aP kvs (f k)=none/\bV kus k=none)\/∃ v u,aP kvs (f k)=some v/\bV kus k=some u/\RV T ι H v u
 | _,_,.nil=>.inl ⟨rfl,rfl⟩
 | (a,v)::kvs,(j,u)::kus,.cons ⟨e,r⟩ rs=>by
  by_cases h:j=k
  ·subst h
   replace e:a=f j:=e
   subst e
   exact .inr ⟨v,u,by simp [aP],mR rfl,r⟩
  ·have h' : ¬ a=f k:=λz=>h (hf (e.symm.trans z))
   rcases nH hf rs (k:=k) with ⟨h1,h2⟩ | ⟨v',u',h1,h2,h3⟩
   ·refine .inl ⟨?_,by rw [kQ h];exact h2⟩
    unfold aP at h1 ⊢
    rw [List.find?_cons,decide_eq_false h']
    exact h1
   ·refine .inr ⟨v',u',?_,by rw [kQ h];exact h2,h3⟩
    unfold aP at h1 ⊢
    rw [List.find?_cons,decide_eq_false h']
    exact h1
theorem qW {kvs:List (AV×AV)} {k:AV}:(kvs.any λp=>decide (p.1=k))=(aP kvs k).isSome:=by
 induction kvs with
 | nil=>rfl
 | cons p r ih =>
  unfold aP at ih ⊢
  rw [List.any_cons,List.find?_cons,ih]
  cases h:decide (p.1=k)<;>simp
theorem wz {κ:Type} [DecidableEq κ] {T:Tb} {ι:Ix} {H:Hp} {f:κ->AV} (hf:∀ {a b},f a=f b->a=b) {k:κ} {v:AV} {u:V} (rv:RV T ι H v u) {kvs:List (AV×AV)} {kus:List (κ×V)} (r:Paired (λ(p:AV×AV) (q:κ×V)=>p.1=f q.1/\RV T ι H p.2 q.2) kvs kus) :
  Paired (λ(p:AV×AV) (q:κ×V)=>p.1=f q.1/\RV T ι H p.2 q.2) (cN kvs (f k) v) (bC kus k u):=by
 have e:(kvs.any λp=>decide (p.1=f k))=kus.any λkv=>decide (kv.1=k):=by
  rw [qW,mS]
  rcases nH hf r (k:=k) with ⟨h1,h2⟩ | ⟨v',u',h1,h2,h3⟩
  ·rw [h1,h2];rfl
  ·rw [h1,h2];rfl
 unfold cN bC
 rw [e]
 by_cases h:(kus.any λkv=>decide (kv.1=k))=true
 ·rw [if_pos h,if_pos h]
  clear e h
  induction r with
  | nil=>exact .nil
  | cons p rs ih =>
   rename_i a b l1 l2
   refine .cons ?_ ih
   obtain ⟨e1,r1⟩:=p
   dsimp only
   by_cases hk:b.1=k
   ·rw [if_pos hk,if_pos (by rw [e1,hk])]
    exact ⟨e1,rv⟩
   ·rw [if_neg hk,if_neg (λz=>hk (hf (e1.symm.trans z)))]
    exact ⟨e1,r1⟩
 ·rw [if_neg h,if_neg h]
  have app:∀ {l1:List (AV×AV)} {l2:List (κ×V)},Paired (λ(p:AV×AV) (q:κ×V)=>p.1=f q.1/\RV T ι H p.2 q.2) l1 l2->Paired (λ(p:AV×AV) (q:κ×V)=>p.1=f q.1/\RV T ι H p.2 q.2) (l1++[(f k,v)]) (l2++[(k,u)]):=λz=>by
   induction z with
   | nil=>exact .cons ⟨rfl,rv⟩ .nil
   | cons p _ ih=>exact .cons p ih
  exact app r
section
variable {T:Tb} {ι:Ix} {h:AH} {H:Hp}
theorem lq {xs:List AV} {u:V} {ks:List aF} (r:RV T ι H (.tup xs) u) (e:keysOf? xs=some ks):∃ b,u = .ref b/\KTup H b ks:=by
 have:=nG e
 subst this
 cases r with
 | tup n q r=>exact ⟨_,rfl,.of (by rw [<- wy r];exact q)⟩
theorem wA {n:Nat} {t:Bool} {kvs:List (AV×AV)} {y:AV} {a:Addr} {w:V} (S:Sim T ι h H) (hn:h[n]? = some (.dct t kvs)) (hr:ι.refs[n]? = some a) (ry:RV T ι H y w) (hk:d6 t y=true) :
  ∃ o,DGet H a w o/\((aP kvs y=none/\o=none)\/∃ v u,aP kvs y=some v/\o=some u/\RV T ι H v u):=by
 obtain ⟨ob,e1,r⟩:=S.obj n _ a hn hr
 cases t with
 | false =>
  obtain ⟨kus,rfl,r⟩:=r
  have hk':(keyOf? y).isSome=true:=hk
  obtain ⟨k,ek⟩:=Option.isSome_iff_exists.mp hk'
  have:=qV ek
  subst this
  rw [qS ry]
  refine ⟨bV kus k,.k e1,?_⟩
  rcases nH qT r (k:=k) with ⟨h1,h2⟩ | ⟨v',u',h1,h2,h3⟩
  ·exact .inl ⟨h1,h2⟩
  ·exact .inr ⟨v',u',h1,h2,h3⟩
 | true =>
  obtain ⟨kus,rfl,r⟩:=r
  unfold d6 at hk
  split at hk
  ·rename_i hh;cases hh
  ·rename_i xs hh
   obtain ⟨ks,ek⟩:=Option.isSome_iff_exists.mp hk
   obtain ⟨b,rfl,hb⟩:=lq ry ek
   have:=nG ek
   subst this
   refine ⟨bV kus ks,.t e1 hb,?_⟩
   rcases nH (f:=λks:List aF=>AV.tup (ks.map kA)) (λe=>qU (by injection e)) r (k:=ks) with ⟨h1,h2⟩ | ⟨v',u',h1,h2,h3⟩
   ·exact .inl ⟨h1,h2⟩
   ·exact .inr ⟨v',u',h1,h2,h3⟩
  ·cases hk
theorem wB {n:Nat} {t:Bool} {kvs:List (AV×AV)} {y z:AV} {a:Addr} {w u:V} (S:Sim T ι h H) (hn:h[n]? = some (.dct t kvs)) (hr:ι.refs[n]? = some a) (ry:RV T ι H y w) (rz:RV T ι H z u) (hk:d6 t y=true) (hl:kvs.length<sizeLine) :
  ∃ H',DPut H a w u H'/\Grow ι H ι H'/\Sim T ι (h.set n (.dct t (cN kvs y z))) H' := by
 obtain ⟨ob,e1,r⟩:=S.obj n _ a hn hr
 cases t with
 | false =>
  obtain ⟨kus,rfl,r⟩:=r
  have hk':(keyOf? y).isSome=true:=hk
  obtain ⟨k,ek⟩:=Option.isSome_iff_exists.mp hk'
  have:=qV ek
  subst this
  rw [qS ry]
  have g:=S.growSet (u:=.dK (bC kus k u)) hr
  exact ⟨_,.k e1 (by rw [<- Paired.length r];exact hl),g,S.set hr ⟨_,rfl,wz qT (rz.mono g) (Paired.mapP r λ_ _ ⟨p,q⟩=>⟨p,q.mono g⟩)⟩⟩
 | true =>
  obtain ⟨kus,rfl,r⟩:=r
  unfold d6 at hk
  split at hk
  ·rename_i hh;cases hh
  ·rename_i xs hh
   obtain ⟨ks,ek⟩:=Option.isSome_iff_exists.mp hk
   obtain ⟨b,rfl,hb⟩:=lq ry ek
   have:=nG ek
   subst this
   have g:=S.growSet (u:=.dT none (bC kus ks u)) hr
   exact ⟨_,.t e1 hb (by rw [<- Paired.length r];exact hl),g,S.set hr ⟨_,rfl,wz (f:=λks:List aF=>AV.tup (ks.map kA)) (λe=>qU (by injection e)) (rz.mono g) (Paired.mapP r λ_ _ ⟨p,q⟩=>⟨p,q.mono g⟩)⟩⟩
  ·cases hk
theorem RVs.atI {xs:List AV} {us:List V} {i:Int} {v:AV} (r:RVs T ι H xs us) (e:atI xs i=some v):∃ u,L2.atI us i=some u/\RV T ι H v u:=by
 unfold L2.atI at e ⊢
 rw [<- r.length]
 obtain ⟨j,e1,e2⟩:=Option.bind_eq_some_iff.mp e
 obtain ⟨u,e3,r3⟩:=r.get e2
 exact ⟨u,by rw [e1];exact e3,r3⟩
end
section
variable {T:Tb} {E:St->XK} {X:Cx} {pos:Pos} {a b c:Expr} {sa sb sc:SE}
theorem DP {e:Expr} {t t':TE} (h:PE X e t) (h':PE X e t'):PE X e (λσ H Q=>t σ H Q\/t' σ H Q):=λpins s σ H Q I q=>q.elim (h pins s σ H Q I) (h' pins s σ H Q I)
theorem DQ {e:Stmt} {t t':TS} (h:PS X e t) (h':PS X e t'):PS X e (λD σ H=>t D σ H\/t' D σ H):=λpins s σ H Q I q=>q.elim (h pins s σ H Q I) (h' pins s σ H Q I)
theorem ax (hK:X.K=T.K) (hu:X.A.units+64<cLine) (ha:aG T E X a sa) (hb:aG T E X b sb) (hs:vf b:=by exact λ_ _=>rfl):aG T E X (.Subscript a b pos) (ag aw sa sb):=by
 refine bW (DP (A4 A6 ha hb hs) (Bv (Nat.lt_of_le_of_lt (Nat.add_le_add_left (by decide:1<=64) _) hu) ha hb hs)) λσ H Q q=>?_
 obtain ⟨ι,h,en,S,er,q⟩:=q
 have left:(∀ x h1 y h2,sa en h = .ok x h1->sb en h1 = .ok y h2->∀ n t kvs,x = .ref n->h2[n]? = some (.dct t kvs)->False)->j9 (vg X.K) (tE T E sa) (tE T E sb) σ H Q:=λno=>by
  refine ⟨ι,h,en,S,er,?_⟩
  unfold ag at q
  cases e1:sa en h with
  | bad=>rw [e1] at q;exact q
  | ex c h1=>rw [e1] at q;exact q
  | ok x h1 =>
   rw [e1] at q
   intro ι1 H1 u g1 S1 r1
   refine ⟨ι1,h1,en,S1,er.mono g1,?_⟩
   dsimp only [Out.bind] at q
   cases e2:sb en h1 with
   | bad=>rw [e2] at q;exact q
   | ex c h2=>rw [e2] at q;exact Post.shift (R:=RV T) (o:=.ex c h2) q g1
   | ok y h2 =>
    rw [e2] at q
    intro ι2 H2 w g2 S2 r2
    have q2:=Post.shift q (g1.trans g2)
    have r1' := r1.mono g2
    dsimp only at q2
    unfold aw at q2
    split at q2
    ·rename_i z i
     split at q2
     ·rename_i cc hc
      obtain ⟨rfl,zl,zo⟩:=dI r1'
      rw [bB r2]
      refine .inr (.inr ⟨z,i,cc,rfl,rfl,zl,hc,q2.now S2 (.str (show 1<=sizeLine by decide) ?_)⟩)
      obtain ⟨j,_,e3,_⟩:=mP hc
      have m:cc∈z.cps:=by
       have:=List.mem_of_getElem? e3
       simpa using this
      have:=Array.all_eq_true_iff_forall_mem.mp zo _ m
      simpa using this
     ·exact q2.elim
    ·rename_i xs i
     split at q2
     ·rename_i v hv
      obtain ⟨b,us,rfl,sq,rs⟩:=jG r1'
      obtain ⟨u2,e3,r3⟩:=rs.atI hv
      rw [bB r2]
      exact .inr (.inl ⟨b,us,i,u2,rfl,rfl,hK▸sq,e3,q2.now S2 r3⟩)
     ·exact q2.elim
    ·rename_i xs i
     split at q2
     ·rename_i v hv
      obtain ⟨b,us,rfl,sq,rs⟩:=d9 S2 r1' rfl
      obtain ⟨u2,e3,r3⟩:=rs.atI hv
      rw [bB r2]
      exact .inl ⟨b,us,i,u2,rfl,rfl,hK▸sq,e3,q2.now S2 r3⟩
     ·exact q2.elim
    ·rename_i n
     split at q2
     ·rename_i xs hn
      split at q2
      ·rename_i i
       split at q2
       ·rename_i v hv
        obtain ⟨b,us,rfl,sq,rs⟩:=d9 (xs:=xs) S2 r1' (by simp [dC,hn])
        obtain ⟨u2,e3,r3⟩:=rs.atI hv
        rw [bB r2]
        exact .inl ⟨b,us,i,u2,rfl,rfl,hK▸sq,e3,q2.now S2 r3⟩
       ·exact q2.elim
      ·exact q2.elim
     ·rename_i t kvs hn
      exact (no _ h1 _ h2 e1 e2 n t kvs rfl hn).elim
     ·exact q2.elim
    ·exact q2.elim
 by_cases dd:∃ x h1 y h2,sa en h = .ok x h1/\sb en h1 = .ok y h2/\∃ n t kvs,x = .ref n/\h2[n]? = some (.dct t kvs)
 ·obtain ⟨x,h1,y,h2,e1,e2,n,t,kvs,rfl,hn⟩:=dd
  refine .inr ⟨ι,h,en,S,er,?_⟩
  unfold ag at q
  rw [e1] at q ⊢
  intro ι1 H1 u g1 S1 r1
  refine ⟨ι1,h1,en,S1,er.mono g1,?_⟩
  dsimp only [Out.bind] at q
  rw [e2] at q ⊢
  intro ι2 H2 w g2 S2 r2
  have q2:=Post.shift q (g1.trans g2)
  have r1' := r1.mono g2
  dsimp only at q2
  unfold aw at q2
  simp only [hn] at q2
  split at q2
  ·rename_i hk
   cases r1' with
   | @ref _ ad hr =>
    obtain ⟨o,dg,alt⟩:=wA S2 hn hr r2 hk
    rcases alt with ⟨v1,rfl⟩ | ⟨v,u,v1,rfl,r3⟩
    ·rw [v1] at q2;exact q2.elim
    ·rw [v1] at q2
     exact ⟨ad,u,rfl,dg,q2.now S2 r3⟩
  ·exact q2.elim
 ·exact .inl (left λx h1 y h2 e1 e2 n t kvs e3 e4=>dd ⟨x,h1,y,h2,e1,e2,n,t,kvs,e3,e4⟩)
theorem lC {p':Pos} (hu:X.A.units+64<cLine) (ho:aG T E X a sa) (hi:aG T E X b sb) (hv:aG T E X c sc) (hs:swapsWith c (some (.Subscript a b p')) pos.line X.env=pure false:=by rfl) (hs':swapsWithSole [.Subscript a b p'] c pos.line X.env=pure false:=by rfl) (hw:swappedStores [.Subscript a b p'] c X.env=pure none:=by rfl)
  (h1:(assignEach [.Subscript a b p'] X.env).map (·.2)=[assign (.Subscript a b p') X.env]:=by rfl)
  (has:∀ v,assign (.Subscript a b p') X.env v=(do
   let ov <- holding [v] (eval a X.env)
   let iv <- holding [v,ov] (eval b X.env)
   standAt p'
   holding [v,ov,iv] (setItem ov iv v)
   release [v,ov,iv] []):=by intro _;rfl):dP T E X (.Assign [.Subscript a b p'] c pos) (dF sa sb sc):=by
 refine fg (DQ (zP hv (zO ho hi A9 has) hs' hw h1) (Bw (Nat.lt_of_le_of_lt (Nat.add_le_add_left (by decide:1<=64) _) hu) ho hi hv hs)) λD σ H q=>?_
 obtain ⟨ι,h,en,S,er,q⟩:=q
 unfold dF at q
 by_cases dd:∃ z h1 x h2 y h3,sc en h = .ok z h1/\sa en h1 = .ok x h2/\sb en h2 = .ok y h3/\∃ n t kvs,x = .ref n/\h3[n]? = some (.dct t kvs)
 ·obtain ⟨z,h1,x,h2,y,h3,e1,e2,e3,n,t,kvs,rfl,hn⟩:=dd
  refine .inr ⟨ι,h,en,S,er,?_⟩
  rw [e1] at q ⊢
  intro ι1 H1 u g1 S1 r1
  refine ⟨ι1,h1,en,S1,er.mono g1,?_⟩
  dsimp only [Out.go] at q
  rw [e2] at q ⊢
  intro ι2 H2 w g2 S2 r2
  refine ⟨ι2,h2,en,S2,er.mono (g1.trans g2),?_⟩
  dsimp only at q
  rw [e3] at q ⊢
  intro ι3 H3 j g3 S3 r3
  have q2:=PostS.shift q (g1.trans (g2.trans g3))
  simp only [hn] at q2
  split at q2
  ·rename_i hk
   cases (r2.mono g3) with
   | @ref _ ad hr =>
    obtain ⟨H4,dp,g4,S4⟩:=wB S3 hn hr r3 (r1.mono (g2.trans g3)) hk.1 hk.2
    exact ⟨ad,H4,rfl,dp,q2 ι3 H4 σ g4 S4 (er.mono (g1.trans (g2.trans (g3.trans g4))))⟩
  ·exact q2.elim
 ·refine .inl ⟨ι,h,en,S,er,?_⟩
  cases e1:sc en h with
  | bad=>rw [e1] at q;exact q
  | ex cc h1=>rw [e1] at q;exact λi2 H2 C g S e=>q i2 H2 σ C g S (er.mono g) e
  | ok z h1 =>
   rw [e1] at q
   intro ι1 H1 u g1 S1 r1
   refine ⟨ι1,h1,en,S1,er.mono g1,?_⟩
   dsimp only [Out.go] at q
   cases e2:sa en h1 with
   | bad=>rw [e2] at q;exact q
   | ex cc h2=>rw [e2] at q;exact λi2 H2 C g S e=>q i2 H2 σ C (g1.trans g) S (er.mono (g1.trans g)) e
   | ok x h2 =>
    rw [e2] at q
    intro ι2 H2 w g2 S2 r2
    refine ⟨ι2,h2,en,S2,er.mono (g1.trans g2),?_⟩
    dsimp only at q
    cases e3:sb en h2 with
    | bad=>rw [e3] at q;exact q
    | ex cc h3=>rw [e3] at q;exact λi2 H2 C g S e=>q i2 H2 σ C (g1.trans (g2.trans g)) S (er.mono (g1.trans (g2.trans g))) e
    | ok y h3 =>
     rw [e3] at q
     intro ι3 H3 j g3 S3 r3
     have q2:=PostS.shift q (g1.trans (g2.trans g3))
     dsimp only at q2
     split at q2
     ·rename_i n
      split at q2
      ·rename_i xs hn
       split at q2
       ·rename_i k
        split at q2
        ·rename_i jj hj
         cases (r2.mono g3) with
         | @ref _ ad hr =>
          obtain ⟨o,e4,us,rfl,rs⟩:=S3.obj n _ ad hn hr
          have g4:=S3.growSet (u:=.lst (us.set jj u)) hr
          rw [bB r3]
          exact ⟨ad,us,k,jj,rfl,rfl,e4,by rw [<- rs.length];exact hj,q2 ι3 _ σ g4 (S3.set hr ⟨_,rfl,RVs.set (r1.mono (g2.trans (g3.trans g4))) jj (rs.mono g4)⟩) (er.mono (g1.trans (g2.trans (g3.trans g4))))⟩
        ·exact q2.elim
       ·exact q2.elim
      ·rename_i t kvs hn
       exact (dd ⟨_,h1,_,h2,_,h3,e1,e2,e3,n,t,kvs,rfl,hn⟩).elim
      ·exact q2.elim
     ·exact q2.elim
theorem DR {g:Value->Value->Sem Value} {r:R2} {neg:Bool} (hK:X.K=T.K)
  (h1:∀ (i j:Str) H Q,Q (V.bl (if neg then !(!(Builtin.Str.occurrences j i 0 j.length 1).isEmpty) else !(Builtin.Str.occurrences j i 0 j.length 1).isEmpty)) H->r (.str i) (.str j) H Q)
  (h2:∀ x y H Q p xs d ds,y=V.ref p->SqL T.K H p xs->DaV T.K H x d->DaVs T.K H xs ds->d.canLay0=true->(∀ e∈ds,e.canLay0=true/\e.depth<=30)->Q (V.bl (if neg then !(ds.any λe=>PyData.eqv e d) else ds.any λe=>PyData.eqv e d)) H->r x y H Q)
  (h2t:∀ x y H Q p xs d ds,y=V.ref p->SqT T.K H p xs->DaV T.K H x d->DaVs T.K H xs ds->d.canLay0=true->(∀ e∈ds,e.canLay0=true/\e.depth<=30)->Q (V.bl (if neg then !(ds.any λe=>PyData.eqv e d) else ds.any λe=>PyData.eqv e d)) H->r x y H Q)
  (h3:∀ (y:V) (a:Addr) o H Q,DGet H a y o->Q (V.bl (if neg then !o.isSome else o.isSome)) H->r y (.ref a) H Q) :
  kb T (λx y h=>match jB x y h with | some b=>.ok (.bl (if neg then !b else b)) h | none=>.bad) r:=by
 intro ι h H x y u w E Q S rx ry p
 dsimp only at p
 cases hb:jB x y h with
 | none=>rw [hb] at p;exact p.elim
 | some b =>
  rw [hb] at p
  dsimp only at p
  unfold jB at hb
  split at hb
  ·cases hb
   obtain ⟨rfl,_⟩:=dI rx
   obtain ⟨rfl,_⟩:=dI ry
   exact h1 _ _ _ _ (p.now S (.bl _))
  ·rename_i n
   split at hb
   ·rename_i t kvs hn
    split at hb
    ·rename_i hk
     cases hb
     cases ry with
     | @ref _ ad hr =>
      obtain ⟨o,dg,alt⟩:=wA S hn hr rx hk
      refine h3 u ad o H Q dg ?_
      rcases alt with ⟨v1,rfl⟩ | ⟨v,u',v1,rfl,r3⟩
      ·rw [v1] at p;exact p.now S (.bl _)
      ·rw [v1] at p;exact p.now S (.bl _)
    ·cases hb
   ·rename_i xs hn
    split at hb
    ·rename_i d ds e1 e2
     cases hb
     obtain ⟨a,us,rfl,sq,rs⟩:=d9 (xs:=xs) S ry (by simp [dC,hn])
     obtain ⟨q1,q2,q3⟩:=ie S 8 rx e1
     obtain ⟨q4,q5⟩:=lg (n:=8) (λr e=>ie S 8 r e) rs e2
     exact h2 _ _ _ _ a us d ds rfl sq q1 q4 q2 (λe he=>⟨(q5 e he).1,by have:=(q5 e he).2;omega⟩) (p.now S (.bl _))
    ·cases hb
   ·cases hb
  ·rename_i xs
   split at hb
   ·rename_i d ds e1 e2
    cases hb
    obtain ⟨a,us,rfl,sq,rs⟩:=d9 S ry rfl
    obtain ⟨q1,q2,q3⟩:=ie S 8 rx e1
    obtain ⟨q4,q5⟩:=lg (n:=8) (λr e=>ie S 8 r e) rs e2
    exact h2 _ _ _ _ a us d ds rfl sq q1 q4 q2 (λe he=>⟨(q5 e he).1,by have:=(q5 e he).2;omega⟩) (p.now S (.bl _))
   ·cases hb
  ·rename_i xs
   split at hb
   ·rename_i d ds e1 e2
    cases hb
    obtain ⟨a,us,rfl,sq,rs⟩:=jG ry
    obtain ⟨q1,q2,q3⟩:=ie S 8 rx e1
    obtain ⟨q4,q5⟩:=lg (n:=8) (λr e=>ie S 8 r e) rs e2
    exact h2t _ _ _ _ a us d ds rfl sq q1 q4 q2 (λe he=>⟨(q5 e he).1,by have:=(q5 e he).2;omega⟩) (p.now S (.bl _))
   ·cases hb
  ·cases hb
end
end Sm
namespace L2
open PySem PySem.Spec PyProof.Rows
section
variable {X:Cx} {pins:List (Addr×Obj)} {σ:St} {H:Hp} {s:Shared}
theorem wC (I:Inv X pins σ H s) (hu:X.A.units+64<cLine) {xs:List V} {ds:List PyData} {its:List Value} {d:PyData} {v:Value} {as:List Addr} (ra:Reads s.heap v d as) (hds:DaVs X.K H xs ds) (r:Vals xs its) (cd:d.canLay0=true) (cds:∀ e∈ds,e.canLay0=true/\e.depth<=30) :
  (∀ y,y∈its.toArray->SeqAt.EqAt X.A.in1 s y v (iQ s.heap d y))/\its.toArray.any (iQ s.heap d)=ds.any λe=>PyData.eqv e d:=by
 obtain ⟨hl,hat⟩:=vO I hds r
 constructor
 ·intro y hy
  have hy':y∈its:=by simpa using hy
  obtain ⟨j,hj⟩:=List.getElem?_of_mem hy'
  have hlt:=(List.getElem?_eq_some_iff.mp hj).1
  have hdj:ds[j]? = some (ds[j]'(by omega)):=List.getElem?_eq_getElem (by omega)
  obtain ⟨bs,rb⟩:=hat j _ _ hj hdj
  have cj:=cds _ (List.mem_of_getElem? hdj)
  rw [vN cj.1 rb]
  exact SeqAt.eqAt_reads _ _ _ _ _ _ _ _ rb ra cj.1 cd (by
   have:=Nat.min_le_left (ds[j]'(by omega)).depth d.depth
   show X.A.units+1+_<cLine
   omega)
 ·rw [<- Array.any_toList]
  refine vP hl λj u e h1 h2=>?_
  obtain ⟨bs,rb⟩:=hat j _ _ h1 h2
  exact vN (cds _ (List.mem_of_getElem? h2)).1 rb
def DS (K:PySem.W.Frag):R2:=λx y H Q=>∃ p xs d ds,y = .ref p/\SqL K H p xs/\DaV K H x d/\DaVs K H xs ds/\d.canLay0=true/\(∀ e∈ds,e.canLay0=true/\e.depth<=30)/\Q (.bl (!(ds.any λe=>PyData.eqv e d))) H
def DT (K:PySem.W.Frag):R2:=λx y H Q=>∃ p xs d ds,y = .ref p/\SqT K H p xs/\DaV K H x d/\DaVs K H xs ds/\d.canLay0=true/\(∀ e∈ds,e.canLay0=true/\e.depth<=30)/\Q (.bl (!(ds.any λe=>PyData.eqv e d))) H
theorem DU (hu:X.A.units+64<cLine):OpR X (compareOp .NotIn) (DS X.K):=by
 intro pins s σ H x y v u Q I rx ry h
 obtain ⟨p,xs,d,ds,rfl,hq,hd,hds,cd,cds,q⟩:=h
 cases ry
 obtain ⟨its,r,pl,hz⟩:=I.list hq
 obtain ⟨as,ra⟩:=hd.reads I rx
 obtain ⟨h1,h2⟩:=wC I hu ra hds r cd cds
 exact SeqAt.notIn_listAt (iQ s.heap d) pl.isList h1 ⟨.bl _,H,I,rfl,by rw [h2];exact q⟩
theorem DV (hu:X.A.units+64<cLine):OpR X (compareOp .NotIn) (DT X.K):=by
 intro pins s σ H x y v u Q I rx ry h
 obtain ⟨p,xs,d,ds,rfl,hq,hd,hds,cd,cds,q⟩:=h
 cases ry
 obtain ⟨its,r,pl,hz⟩:=I.tuple hq
 obtain ⟨as,ra⟩:=hd.reads I rx
 obtain ⟨h1,h2⟩:=wC I hu ra hds r cd cds
 exact SeqAt.notIn_tupleAt (iQ s.heap d) pl h1 ⟨.bl _,H,I,rfl,by rw [h2];exact q⟩
theorem DW (hu:X.A.units+64<cLine):OpR X (compareOp .NotIn) (λx y H Q=>∃ a o,y = .ref a/\DGet H a x o/\Q (.bl (!o.isSome)) H):=by
 intro pins s σ H x y v u Q I rx ry h
 obtain ⟨a,o,rfl,g,q⟩:=h
 cases ry
 exact Bo (Nat.lt_of_le_of_lt (Nat.add_le_add_left (by decide:1<=64) _) hu) I g rx λs' I' => ⟨.bl _,H,I',rfl,q⟩
end
end L2
namespace Sm
open PySem PySem.Spec L2
section
variable {T:Tb} {E:St->XK} {X:Cx}
theorem qX (hK:X.K=T.K) (hu:X.A.units+64<cLine):Op T X (compareOp .NotIn) fG:=by
 refine ⟨_,zeJ.or ((DU hu).or ((DV hu).or (DW hu))),DR (neg:=true) (g:=compareOp .NotIn) hK ?_ ?_ ?_ ?_⟩
 ·exact λi j H Q q=>.inl ⟨i,j,rfl,rfl,q⟩
 ·exact λx y H Q p xs d ds e1 e2 e3 e4 e5 e6 q=>.inr (.inl ⟨p,xs,d,ds,e1,hK▸e2,hK▸e3,hK▸e4,e5,e6,q⟩)
 ·exact λx y H Q p xs d ds e1 e2 e3 e4 e5 e6 q=>.inr (.inr (.inl ⟨p,xs,d,ds,e1,hK▸e2,hK▸e3,hK▸e4,e5,e6,q⟩))
 ·exact λy a o H Q g q=>.inr (.inr (.inr ⟨a,o,rfl,g,q⟩))
end
end Sm
namespace Sm
open PySem PySem.Spec L2
abbrev qY (x:Str) (C:Addr) (mg:Str->Option Value) (base:Heap):Prop:=PyProof.Rows.OwnCls x C [.type "ValueError",.type "Exception",.type "BaseException",.type "object"] "ValueError.__new__" mg base
structure GX (T:Tb) (mg:Str->Option Value) (base:Heap) (c:Nat) (x:Str):Prop where
 ex:∃ C,T.exc c=some C/\qY x C mg base
section
variable {T:Tb} {E:St->XK} {X:Cx} {pos np cpos:Pos} {e:Expr} {es:List Expr} {x:Str} {c:Nat} {as:SL}
theorem iW (G:GX T X.mg X.base c x) (hr:jv X E) (hg:Gl X x) (ha:fW T E X (e::es) as) (h6:c<64:=by decide) (hc:X.calm=true:=by rfl) (hex:X.ex=[]:=by rfl)
  (hdb:(x == ("__debug__" : Str))=false:=by decide) (he:starEach (e::es) X.env=(false,eval e X.env)::starEach es X.env:=by rfl) (hpl:(backTo cpos (starEach es X.env)).any (·.1)=false:=by rfl) :
  dP T E X (.Raise (some (.Call (.Name x np) (e::es) [] cpos)) none pos) (h9 c as):=by
 obtain ⟨C,h1,O⟩:=G.ex
 refine fg (Cn O PySem.F.excBase_ValueError hc hex hr hg ha hdb he hpl) λD σ H=>E6x λι h en S er q=>⟨ι,h,en,S,er,q.go er λxs h1' ι1 H1 us g1 S1 r1 q1=>?_⟩
 split at q1
 ·rename_i hl
  exact ⟨by rw [<- r1.length];exact hl,q1 ι1 H1 σ (C,none) S1.refl S1 (er.mono g1) ⟨h1,C7 h6⟩⟩
 ·exact q1.elim
theorem DX {xc n:Str} {i:Nat} {body suite:List Stmt} {b0:Stmt} {hpos:Pos} {sb hd:SS} {outer:List Env} {C:Addr} {catches:Nat->Bool} (hK:X.K=T.K) (hN:X.N.Nodup) (hg:Gl X xc) (hm:X.mg xc=some (.ref C))
  (hcat:∀ c C',catches c=true->T.exc c=some C'->PySem.W.exmOne T.K (.ref C') (.ref C)=some true)
  (hb:∀ pins xe Ex,CA T Ex (tryC X pins xe)->jv (tryC X pins xe) Ex->bN T Ex (tryC X pins xe) body sb) (hh:∀ a,CA T EN (de X a)->bN T EN (de X a) (b0::suite) hd)
  (hex:X.ex=[]:=by rfl) (hst:X.stack=X.env::outer:=by rfl) (hf:X.env.frame=some X.env.locals:=by rfl) (hi:X.N[i]? = some n:=by rfl) (hl:X.env.scope.names.lookup n=some .local:=by rfl) (hdb:(xc == ("__debug__" : Str))=false:=by decide) :
  dP T E X (.Try body [.ExceptHandler (some (.Name xc np)) (some n) (b0::suite) hpos] [] [] pos) (df i catches sb hd):=by
 refine fg (Cs hex hst hf hN hi hl hg hm (λpins xe Ex h1 h2=>hb pins xe Ex ⟨hK,h1⟩ h2) (λa=>hh a (CA.never hK)) hdb) λD σ H=>E6x λι h en S er q=>⟨ι,h,en,S,er,?_⟩
 unfold df at q
 cases e1:sb en h with
 | nx e2 h2=>rw [e1] at q;exact q
 | rt v h2=>rw [e1] at q;exact q
 | bk e2 h2=>rw [e1] at q;exact q
 | ct e2 h2=>rw [e1] at q;exact q
 | bad=>rw [e1] at q;exact q
 | ex c e2 h2 =>
  rw [e1] at q
  dsimp only at q
  intro ι' H' σ' C' g S' er' ec
  by_cases hcc:catches c=true
  ·rw [if_pos hcc] at q
   refine ⟨hK▸hcat c C'.1 hcc ec.1,λa hn=>⟨ι',h2,e2.set i (some (.exc c)),S'.new hn,(er'.mono (S'.growNew hn)).set (.exc (S'.fresh hn) ⟨ec.1,ec.2.ext (S'.growNew hn).ext⟩ dU) i,?_⟩⟩
   have q2:=PostS.shift q (g.trans (S'.growNew (o:=dX a (.ref C'.1) C'.2) hn))
   cases e3:hd (e2.set i (some (.exc c))) h2 with
   | nx e4 h4=>rw [e3] at q2;exact λι5 H5 σ5 g5 S5 er5=>q2 ι5 H5 _ g5 S5 (er5.unset i)
   | bk e4 h4=>rw [e3] at q2;exact λι5 H5 σ5 g5 S5 er5=>q2 ι5 H5 _ g5 S5 (er5.unset i)
   | ct e4 h4=>rw [e3] at q2;exact λι5 H5 σ5 g5 S5 er5=>q2 ι5 H5 _ g5 S5 (er5.unset i)
   | rt v h4=>rw [e3] at q2;exact q2
   | ex c' e4 h4=>rw [e3] at q2;exact (show False from q2).elim
   | bad=>rw [e3] at q2;exact q2
  ·rw [if_neg hcc] at q;exact (show False from q).elim
end
def fX (T:Tb) (f:Fn) (r:List V->Hp->VK->Prop):Prop:=∀ (ι:Ix) (h:AH) (H:Hp) (xs:List AV) (us:List V) (E:XK) (Q:VK),Sim T ι h H->RVs T ι H xs us->Post T ι H E (RV T) (f xs h) Q->r us H Q
section
variable {T:Tb} {E:St->XK} {X:Cx} {pos p:Pos} {e a:Expr} {es:List Expr} {x:Str} {as:SL} {sa:SE}
theorem wD {f:Fn} {r:List V->Hp->VK->Prop} (hs:fX T f r) {σ:St} {H:Hp} {Q:VK} (q:tE T E (aD f as) σ H Q):pT r (tA T E as) σ H Q:=by
 obtain ⟨ι,h,en,S,er,q⟩:=q
 exact ⟨ι,h,en,S,er,q.bind λxs h1 ι1 H1 us g1 S1 r1 q1=>hs ι1 h1 H1 xs us _ Q S1 r1 q1⟩
theorem bJ {id:String} {f:Fn} (hc:∃ r,CallR X (.builtin id) r/\fX T f r) (hg:Gl X x) (hm:X.mg x=none) (hv:bootBuiltins x=some (.builtin id)) (ha:fW T E X (e::es) as) (hn:x ≠ "__name__" := by decide) (hdb:(x == ("__debug__" : Str))=false:=by decide)
  (he:starEach (e::es) X.env=(false,eval e X.env)::starEach es X.env:=by rfl) (hpl:(backTo pos (starEach es X.env)).any (·.1)=false:=by rfl):aG T E X (.Call (.Name x p) (e::es) [] pos) (aD f as):=by
 obtain ⟨r,h1,h2⟩:=hc
 exact bW (mO h1 hg hm hv ha hn hdb he hpl) λσ H Q q=>wD h2 q
theorem lE {id:String} {f:Fn} (hc:∃ r,CallR X (.type id) r/\fX T f r) (hg:Gl X x) (hm:X.mg x=none) (hv:bootBuiltins x=some (.type id)) (ha:fW T E X (e::es) as) (hn:x ≠ "__name__" := by decide) (hdb:(x == ("__debug__" : Str))=false:=by decide)
  (he:starEach (e::es) X.env=(false,eval e X.env)::starEach es X.env:=by rfl) (hpl:(backTo pos (starEach es X.env)).any (·.1)=false:=by rfl):aG T E X (.Call (.Name x p) (e::es) [] pos) (aD f as):=by
 obtain ⟨r,h1,h2⟩:=hc
 exact bW (AS h1 hg hm hv ha hn hdb he hpl) λσ H Q q=>wD h2 q
theorem b_len (hK:X.K=T.K):∃ r,CallR X (.builtin "len") r/\fX T br r:=by
 refine ⟨_,zeL.or (zeK.or BM),λι h H xs us E Q S r q=>?_⟩
 unfold br at q
 split at q
 ·cases r with
  | cons r r' =>
   cases r'
   obtain ⟨rfl,n,_⟩:=dI r
   exact .inl ⟨_,rfl,n,q.now S (.int _)⟩
 ·cases r with
  | cons r r' =>
   cases r'
   obtain ⟨a,us,rfl,sq,rs⟩:=jG r
   exact .inr (.inl ⟨a,us,rfl,.inr (hK▸sq),by rw [<- rs.length];exact q.now S (.int _)⟩)
 ·cases r with
  | cons r r' =>
   cases r'
   obtain ⟨a,us,rfl,sq,rs⟩:=d9 S r rfl
   exact .inr (.inl ⟨a,us,rfl,.inl (hK▸sq),by rw [<- rs.length];exact q.now S (.int _)⟩)
 ·rename_i n
  cases r with
  | cons r r' =>
   cases r'
   split at q
   ·rename_i xs hn
    obtain ⟨a,us,rfl,sq,rs⟩:=d9 (xs:=xs) S r (by simp [dC,hn])
    exact .inr (.inl ⟨a,us,rfl,.inl (hK▸sq),by rw [<- rs.length];exact q.now S (.int _)⟩)
   ·rename_i kvs hn
    cases r with
    | @ref _ ad hr =>
     obtain ⟨o,e1,kus,rfl,rs⟩:=S.obj n _ ad hn hr
     exact .inr (.inr ⟨ad,kus,rfl,e1,by rw [<- Paired.length rs];exact q.now S (.int _)⟩)
   ·exact q.elim
 ·exact q.elim
theorem b_abs:∃ r,CallR X (.builtin "abs") r/\fX T jC r:=by
 refine ⟨_,As,λι h H xs us E Q S r q=>?_⟩
 unfold jC at q
 split at q
 ·cases r with
  | cons r r' => cases r';rw [bB r];exact ⟨_,rfl,q.now S (.int _)⟩
 ·exact q.elim
theorem wF (hc:X.calm=true:=by rfl):∃ r,CallR X (.builtin "max") r/\fX T ia r:=by
 refine ⟨_,Au hc,λι h H xs us E Q S r q=>?_⟩
 unfold ia at q
 split at q
 ·cases r with
  | cons r r' => cases r' with
   | cons r1 r2=>cases r2;rw [bB r,bB r1];exact ⟨_,_,rfl,q.now S (.int _)⟩
 ·exact q.elim
theorem DY (hc:X.calm=true:=by rfl):∃ r,CallR X (.builtin "min") r/\fX T gA r:=by
 refine ⟨_,Av hc,λι h H xs us E Q S r q=>?_⟩
 unfold gA at q
 split at q
 ·cases r with
  | cons r r' => cases r' with
   | cons r1 r2=>cases r2;rw [bB r,bB r1];exact ⟨_,_,rfl,q.now S (.int _)⟩
 ·exact q.elim
theorem wG {ι:Ix} {H:Hp}:∀ {xs:List AV} {us:List V} {bs:List Bool},RVs T ι H xs us->k9 xs=some bs->us=bs.map V.bl
 | _,_,_,.nil,e=>by cases e;rfl
 | _,_,bs,.cons (x:=x) r rs,e=>by
  unfold k9 at e
  split at e
  ·rename_i hh;cases hh
  ·rename_i b r' hh
   cases hh
   obtain ⟨bs',e1,rfl⟩:=Option.map_eq_some_iff.mp e
   rw [gT r,wG rs e1];rfl
  ·cases e
theorem b_all (hK:X.K=T.K) (hc:X.calm=true:=by rfl):∃ r,CallR X (.builtin "all") r/\fX T jD r:=by
 refine ⟨_,BZ hc,λι h H xs us E Q S r q=>?_⟩
 unfold jD at q
 split at q
 ·split at q
  ·rename_i bs hb
   cases r with
   | cons r r' =>
    cases r'
    obtain ⟨a,us,rfl,sq,rs⟩:=d9 S r rfl
    rw [wG rs hb] at sq
    exact ⟨a,bs,rfl,hK▸sq,q.now S (.bl _)⟩
  ·exact q.elim
 ·exact q.elim
theorem b_int:∃ r,CallR X (.type "int") r/\fX T jE r:=by
 refine ⟨_,Aw,λι h H xs us E Q S r q=>?_⟩
 unfold jE at q
 split at q
 ·cases r with
  | cons r r' => cases r';rw [bB r];exact .inl ⟨_,rfl,q.now S (.int _)⟩
 ·cases r with
  | cons r r' => cases r';rw [gT r];exact .inr ⟨_,rfl,q.now S (.int _)⟩
 ·exact q.elim
theorem b_list (hK:X.K=T.K):∃ r,CallR X (.type "list") r/\fX T qC r:=by
 refine ⟨_,Bc,λι h H xs us E Q S r q=>?_⟩
 unfold qC at q
 split at q
 ·cases r with
  | cons r r' =>
   cases r'
   obtain ⟨a,us,rfl,sq,rs⟩:=jG r
   exact ⟨a,us,rfl,.inr (hK▸sq),λl n=>jH S rs n q⟩
 ·cases r with
  | cons r r' =>
   cases r'
   obtain ⟨a,us,rfl,sq,rs⟩:=d9 S r rfl
   exact ⟨a,us,rfl,.inl (hK▸sq),λl n=>jH S rs n q⟩
 ·cases r with
  | cons r r' =>
   cases r'
   split at q
   ·rename_i xs hn
    obtain ⟨a,us,rfl,sq,rs⟩:=d9 (xs:=xs) S r (by simp [dC,hn])
    exact ⟨a,us,rfl,.inl (hK▸sq),λl n=>jH S rs n q⟩
   ·exact q.elim
 ·exact q.elim
abbrev lG:List String:=["NoneType", "bool", "int", "str", "list", "tuple", "dict"]
theorem wH (K:PySem.W.Frag):∀ n∈lG,∀ t∈lG,PySem.W.kitOne K (.type n) (.type t)=some (n == t || (t == "int" && n == "bool")):=by
 intro n hn t ht
 simp only [lG,List.mem_cons,List.not_mem_nil,or_false] at hn ht
 rcases hn with rfl | rfl | rfl | rfl | rfl | rfl | rfl<;>rcases ht with rfl | rfl | rfl | rfl | rfl | rfl | rfl<;>rfl
theorem DZ {c:V} {cv:Value} (rc:∀ u,RelV c u->u=cv) :
  CallR X (.builtin "isinstance") (λxs H Q=>∃ a us r,xs=[.ref a,c]/\SqL X.K H a us/\PySem.W.kitOne X.K (.type "list") cv=some r/\Q (.bl r) H):=by
 intro pins s σ H xs us Q I r h
 obtain ⟨a,ws,k,rfl,sq,hk,q⟩:=h
 obtain ⟨u,w',rfl,rx,ry⟩:=ka r
 obtain rfl:=rc _ ry
 obtain rfl:u=Value.ref a:=rx
 obtain ⟨its,_,⟨o,n,e1,e2,_⟩,_⟩:=I.list sq
 exact PySem.W.kia_one PySem.W.kitx_list I.kIn ⟨_,e1,e2⟩ hk (λz=>nomatch z) λtk=>⟨.bl k,H,I.tok _,rfl,q⟩
theorem D0 {ι:Ix} {h:AH} {H:Hp} {v:AV} {u:V} {n:String} (S:Sim T ι h H) (r:RV T ι H v u) (e:qD v h=some n):(cE T.K H u (.type n)\/(n = "list" /\ ∃ a us,u = .ref a/\SqL T.K H a us))/\n∈lG:=by
 unfold qD at e
 cases r with
 | non=>cases e;exact ⟨.inl .non,by decide⟩
 | bl b=>cases e;exact ⟨.inl (.bl b),by decide⟩
 | int b=>cases e;exact ⟨.inl (.int b),by decide⟩
 | str n o=>cases e;exact ⟨.inl (.str _),by decide⟩
 | tup n q r=>cases e;exact ⟨.inl (.tup q),by decide⟩
 | fl n q r=>cases e;exact ⟨.inr ⟨rfl,_,_,rfl,.inl q⟩,by decide⟩
 | kfl q r=>cases e;exact ⟨.inr ⟨rfl,_,_,rfl,.inr q⟩,by decide⟩
 | @ref k a q =>
  dsimp only at e
  split at e
  ·rename_i xs hn
   cases e
   obtain ⟨o,e1,us,rfl,rs⟩:=S.obj k _ a hn q
   exact ⟨.inl (.lst e1),by decide⟩
  ·rename_i t kvs hn
   cases e
   obtain ⟨o,e1,r⟩:=S.obj k _ a hn q
   cases t with
   | false=>obtain ⟨kus,rfl,rs⟩:=r;exact ⟨.inl (.dK e1),by decide⟩
   | true=>obtain ⟨kus,rfl,rs⟩:=r;exact ⟨.inl (.dT e1),by decide⟩
  ·cases e
 | exc _ _ _=>cases e
theorem qZ {t:Str} {id:String} {p2:Pos} (hK:X.K=T.K) (hg:Gl X "isinstance") (hm:X.mg "isinstance" = none) (ha:aG T E X a sa) (hgt:Gl X t) (hmt:X.mg t=none) (hvt:bootBuiltins t=some (.type id)) (hid:id∈lG) (hnt:t ≠ "__name__" := by decide) (hdt:(t == ("__debug__" : Str))=false:=by decide)
  (he:starEach [a,.Name t p2] X.env=(false,eval a X.env)::starEach [.Name t p2] X.env:=by rfl):aG T E X (.Call (.Name "isinstance" p) [a,.Name t p2] [] pos) (ib id sa):=by
 refine bW (mO ((BW (X:=X) (qj id)).or (DZ (X:=X) (qj id))) hg hm PyProof.Rows.boot_isinstance (gM ha (gM (uI (v:=.ty id) hgt hmt hvt rfl hnt hdt) kM) he) (he:=he)) λσ H Q=>E6x λι h en S er q=>⟨ι,h,en,S,er,q.bind λv h1 ι1 H1 u g1 S1 r1 q1=>?_⟩
 split at q1
 ·rename_i n hn
  obtain ⟨ty,hmem⟩:=D0 S1 r1 hn
  rcases ty with ty | ⟨rfl,ad,us,rfl,sq⟩
  ·exact .inl ⟨u,.type n,_,rfl,hK▸ty,wH _ n hmem id hid,q1.now S1 (.bl _)⟩
  ·exact .inr ⟨ad,us,_,rfl,hK▸sq,wH _ _ hmem id hid,q1.now S1 (.bl _)⟩
 ·exact q1.elim
theorem wI {t:Str} {p2:Pos} {cv:Value} {cV:V} {pr:Nat->Bool} (hK:X.K=T.K) (hg:Gl X "isinstance") (hm:X.mg "isinstance" = none) (ha:aG T E X a sa) (hcl:PE X (.Name t p2) (tC cV)) (rc:∀ u,RelV cV u->u=cv)
  (hp:∀ c C,T.exc c=some C->aW T.K C/\PySem.W.kitOne T.K (.ref C) cv=some (pr c)) (he:starEach [a,.Name t p2] X.env=(false,eval a X.env)::starEach [.Name t p2] X.env:=by rfl):aG T E X (.Call (.Name "isinstance" p) [a,.Name t p2] [] pos) (d7 pr sa):=by
 refine bW (mO (Cz (X:=X) rc) hg hm PyProof.Rows.boot_isinstance (gM ha (gM hcl kM) he) (he:=he)) λσ H Q=>E6x λι h en S er q=>⟨ι,h,en,S,er,q.bind λv h1 ι1 H1 u g1 S1 r1 q1=>?_⟩
 split at q1
 ·rename_i c
  cases r1 with
  | @exc _ C ad n ec hq =>
   obtain ⟨Z,k⟩:=hp c C.1 ec.1
   exact ⟨ad,C.1,_,rfl,⟨_,hq⟩,hK▸Z,hK▸k,q1.now S1 (.bl _)⟩
 ·exact q1.elim
theorem D2 {tt:Expr} {cs:List Expr} {k:Nat} {p2:Pos} {cVs:List V} {cvs:List Value} {pr:Nat->Bool} (hK:X.K=T.K) (hg:Gl X "isinstance") (hm:X.mg "isinstance" = none) (ha:aG T E X a sa)
  (hcl:PA X cs (λ_ H Q=>Q cVs H)) (hl:cVs.length<=sizeLine) (rc:∀ us,Vals cVs us->us=cvs) (hp:∀ c C,T.exc c=some C->aW T.K C/\PySem.W.kitAny T.K (.ref C) cvs=some (pr c))
  (he:starEach [a,.Tuple cs k p2] X.env=(false,eval a X.env)::starEach [.Tuple cs k p2] X.env:=by rfl):aG T E X (.Call (.Name "isinstance" p) [a,.Tuple cs k p2] [] pos) (d7 pr sa):=by
 refine bW (mO (CB (X:=X)) hg hm PyProof.Rows.boot_isinstance (gM ha (gM (uV hcl) kM) he) (he:=he)) λσ H Q=>E6x λι h en S er q=>⟨ι,h,en,S,er,q.bind λv h1 ι1 H1 u g1 S1 r1 q1=>?_⟩
 split at q1
 ·rename_i c
  cases r1 with
  | @exc _ C ad n ec hq =>
   obtain ⟨Z,kk⟩:=hp c C.1 ec.1
   refine ⟨hl,λtp hn=>?_⟩
   have g2:=S1.growNew (o:=.tup cVs) hn
   exact ⟨ad,C.1,tp,cVs,cvs,_,rfl,⟨C.2,by rw [bg (eV hq hn)];exact hq⟩,hK▸Z,dU,rc,hK▸kk,q1 ι1 _ _ g2 (S1.new hn) (.bl _)⟩
 ·exact q1.elim
def jP (T:Tb) (f:FM) (r:V->List V->Hp->VK->Prop):Prop:=∀ (ι:Ix) (h:AH) (H:Hp) (x:AV) (xs:List AV) (u:V) (us:List V) (E:XK) (Q:VK),Sim T ι h H->RV T ι H x u->RVs T ι H xs us->Post T ι H E (RV T) (f x xs h) Q->r u us H Q
def iu (T:Tb) (chk:AV->AH->Bool) (n:String):Prop:=∀ (ι:Ix) (h:AH) (H:Hp) (x:AV) (u:V),Sim T ι h H->RV T ι H x u->chk x h=true->mQ T.K n u H
theorem eO:iu T cn "list" := λι h H x u S r e=>by
 obtain ⟨xs,e1⟩:=Option.isSome_iff_exists.mp e
 obtain ⟨a,us,rfl,sq,rs⟩:=d9 S r e1
 exact .inl ⟨rfl,us,sq⟩
theorem wJ:iu T nh "str" := λι h H x u S r e=>by
 unfold nh at e
 split at e
 ·obtain ⟨rfl,_⟩:=dI r;rfl
 ·cases e
variable {o:Expr} {so:SE} {name:Str} {apos:Pos} {chk:AV->AH->Bool} {f:FM} {tn id:String}
theorem bX (hK:X.K=T.K) (pa:PlainAttrs tn) (slot:Slot tn name id) (hty:typeOf (.builtin id)=pure (.type "method_descriptor")) (hm:∃ r,fV X id r/\jP T f r) (hc:iu T chk tn) (ho:aG T E X o so) (ha:fW T E X (e::es) as)
  (hbase:attributeBase o name X.env (eval o X.env)=eval o X.env:=by rfl)
  (hfew:((backTo pos (starEach (e::es) X.env)).all (λx=>!x.1) && (backToKw pos (keywordEach [] X.env)).all (λx=>x.1.isSome)
   && decide ((e::es).length+([]:List Keyword).length+(if ([]:List Keyword).isEmpty then 0 else 1)<30))=true:=by rfl)
  (hline:(apos.endLine == pos.line)=true:=by rfl) (hs:starEach (e::es) X.env=(false,eval e X.env)::starEach es X.env:=by rfl) (hplain:(backTo pos (starEach es X.env)).any (·.1)=false:=by rfl) :
  aG T E X (.Call (.Attribute o name apos) (e::es) [] pos) (d8 chk f so as):=by
 obtain ⟨r,h1,h2⟩:=hm
 refine bW (Bf pa slot hty h1 ho ha hbase hfew hline hs hplain) λσ H Q=>E6x λι h en S er q=>⟨ι,h,en,S,er,q.bind λx h1 ι1 H1 u g1 S1 r1 q1=>?_⟩
 by_cases hx:chk x h1=true
 ·rw [if_pos hx] at q1
  exact ⟨hK▸hc ι1 h1 H1 x u S1 r1 hx,ι1,h1,en,S1,er.mono g1,q1.bind λxs h2' ι2 H2 us g2 S2 r2 q2=>h2 ι2 h2' H2 x xs u us _ Q S2 (r1.mono g2) r2 q2⟩
 ·rw [if_neg hx] at q1;exact q1.elim
theorem wK (hK:X.K=T.K) (pa:PlainAttrs tn) (slot:Slot tn name id) (hty:typeOf (.builtin id)=pure (.type "method_descriptor")) (hm:∃ r,fV X id r/\jP T f r) (hc:iu T chk tn) (ho:aG T E X o so)
  (hbase:attributeBase o name X.env (eval o X.env)=eval o X.env:=by rfl) (hline:(apos.endLine == pos.line)=true:=by rfl):aG T E X (.Call (.Attribute o name apos) [] [] pos) (jF chk f so):=by
 obtain ⟨r,h1,h2⟩:=hm
 refine bW (Be pa slot hty h1 ho hbase hline) λσ H Q=>E6x λι h en S er q=>⟨ι,h,en,S,er,q.bind λx h1 ι1 H1 u g1 S1 r1 q1=>?_⟩
 by_cases hx:chk x h1=true
 ·rw [if_pos hx] at q1
  exact ⟨hK▸hc ι1 h1 H1 x u S1 r1 hx,h2 ι1 h1 H1 x [] u [] _ Q S1 r1 .nil q1⟩
 ·rw [if_neg hx] at q1;exact q1.elim
theorem fy:∃ r,fV X "list.append" r/\jP T dG r:=by
 refine ⟨_,vj,λι h H x xs u us E Q S rx rs q=>?_⟩
 unfold dG at q
 split at q
 ·rename_i n y
  split at q
  ·rename_i ys hn
   split at q
   ·rename_i hl
    cases rx with
    | @ref _ ad hr =>
     cases rs with
     | @cons _ uu _ _ r r' =>
      cases r'
      obtain ⟨o,e1,ws,rfl,rw_⟩:=S.obj n _ ad hn hr
      have g:=S.growSet (u:=.lst (ws++[uu])) hr
      exact ⟨ad,ws,_,rfl,rfl,e1,by rw [<- rw_.length];exact hl,q ι _ _ g (S.set hr ⟨_,rfl,(rw_.mono g).append (.cons (r.mono g) .nil)⟩) .non⟩
   ·exact q.elim
  ·exact q.elim
 ·exact q.elim
theorem D3:∃ r,fV X "list.pop" r/\jP T dh r:=by
 refine ⟨_,Bj,λι h H x xs u us E Q S rx rs q=>?_⟩
 unfold dh at q
 split at q
 ·rename_i n
  split at q
  ·rename_i ys hn
   split at q
   ·rename_i y hy
    cases rx with
    | @ref _ ad hr =>
     cases rs
     obtain ⟨o,e1,ws,rfl,rw_⟩:=S.obj n _ ad hn hr
     have g:=S.growSet (u:=.lst ws.dropLast) hr
     obtain ⟨v,e2,r2⟩:=rw_.get hy
     refine ⟨ad,ws,v,rfl,rfl,e1,by rw [<- rw_.length];exact e2,q ι _ _ g (S.set hr ⟨_,rfl,?_⟩) (r2.mono g)⟩
     have z:=(rw_.mono g).take (ys.length-1)
     have e3:ys.take (ys.length-1)=ys.dropLast:=List.dropLast_eq_take.symm
     have e4:ws.take (ys.length-1)=ws.dropLast:=by rw [rw_.length];exact List.dropLast_eq_take.symm
     rw [e3,e4] at z
     exact z
   ·exact q.elim
  ·exact q.elim
 ·exact q.elim
theorem D4:∃ r,fV X "str.count" r/\jP T qE r:=by
 refine ⟨_,BY,λι h H x xs u us E Q S rx rs q=>?_⟩
 unfold qE at q
 split at q
 ·cases rs with
  | cons r r' =>
   cases r'
   obtain ⟨rfl,_⟩:=dI rx
   obtain ⟨rfl,_⟩:=dI r
   exact ⟨_,_,rfl,rfl,q.now S (.int _)⟩
 ·exact q.elim
end
end Sm
namespace Sm
open PySem PySem.Spec L2
theorem Out.bind_assoc {α β γ:Type} (o:Out α) (f:α->AH->Out β) (g:β->AH->Out γ):(o.bind f).bind g=o.bind λa h=>(f a h).bind g:=by cases o<;>rfl
section
variable {T:Tb} {E:St->XK} {X:Cx} {pos p2:Pos} {a b:Expr} {sa sb:SE}
def tO (T:Tb) (E:St->XK):Option SE->TO
 | none=>vb
 | some s=>vc (tE T E s)
abbrev nI (T:Tb) (E:St->XK) (X:Cx) (e:Option Expr) (s:Option SE):Prop:=PO X e (tO T E s)
theorem iX:nI T E X none none:=AZ
theorem gW (h:aG T E X a sa):nI T E X (some a) (some sa):=A0 h
@[simp] def nJ (s:Option SE):En->AH->Out (Option Int):=λen h=>match s with
 | none=>.ok none h
 | some l=>(l en h).bind λv h2=>match v with | .int i=>.ok (some i) h2 | _=>.bad
theorem wL {s:Option SE} {σ:St} {H:Hp} {ι:Ix} {h:AH} {en:En} {γ δ:Type} {R':Ix->Hp->γ->δ->Prop} {Q0:δ->Hp->Prop} {f:Option Int->AH->Out γ} {Q:Option Int->Hp->Prop} (S:Sim T ι h H) (er:ER T ι H en σ) (q:Post T ι H (E σ) R' ((nJ s en h).bind f) Q0)
  (k:∀ l h' ι' H',Grow ι H ι' H'->Sim T ι' h' H'->Post T ι' H' (E σ) R' (f l h') Q0->Q l H'):tO T E s σ H Q:=by
 cases s with
 | none=>exact k none h ι H S.refl S q
 | some l =>
  refine ⟨ι,h,en,S,er,?_⟩
  unfold nJ at q
  dsimp only at q
  rw [Out.bind_assoc] at q
  refine q.bind λv h1 ι1 H1 u g1 S1 r1 q1=>?_
  split at q1
  ·rw [bB r1]
   exact ⟨_,rfl,k _ _ ι1 H1 g1 S1 q1⟩
  ·exact q1.elim
@[simp] def dQ (x:AV) (l u:Option Int) (h:AH):Out AV:=match x with
 | .fl xs=>.ok (.fl (dH xs l u)) h
 | .str z=>.ok (.str (bM z l u)) h
 | .tup xs=>if ¬ (HT.sIx xs.length 0 l=0/\HT.sIx xs.length xs.length u=xs.length) then .ok (.tup (dH xs l u)) h else .bad
 | .ref n=>match h[n]? with
  | some (.lst xs)=>.ok (.fl (dH xs l u)) h
  | _=>.bad
 | _=>.bad
@[simp] def aX (a:SE) (lo hi:Option SE):SE:=λen h=>(a en h).bind λx h1=>(nJ lo en h1).bind λl h2=>(nJ hi en h2).bind λu h3=>dQ x l u h3
theorem RVs.cut {ι:Ix} {H:Hp} {xs:List AV} {us:List V} {lo hi:Option Int} (r:RVs T ι H xs us):RVs T ι H (dH xs lo hi) (dW us lo hi):=by
 unfold dH dW
 rw [<- r.length]
 exact (r.drop _).take _
theorem D5 {ι:Ix} {H:Hp} {z:Str} {l u:Option Int} (hz:z.length<=sizeLine) (hc:z.cps.all (· < 0x110000)=true):RV T ι H (.str (bM z l u)) (.str (bM z l u)):=by
 refine .str ?_ ?_
 ·refine Nat.le_trans ?_ hz
  simp [bM,Str.length];omega
 ·simp only [bM,List.all_toArray,List.all_eq_true]
  intro c h
  have hm:c∈z.cps.toList:=List.mem_of_mem_drop (List.mem_of_mem_take h)
  exact (Array.all_eq_true_iff_forall_mem.mp hc) c (by simpa using hm)
theorem iw {lo hi:Option Expr} {sl sh:Option SE} (hK:X.K=T.K) (ha:aG T E X a sa) (hl:nI T E X lo sl) (hh:nI T E X hi sh):aG T E X (.Subscript a (.Slice lo hi none p2) pos) (aX sa sl sh):=by
 refine bW (A2 (zjA.or (sl_tup.or CW)) ha hl hh) λσ H Q=>E6x λι h en S er q=>⟨ι,h,en,S,er,q.bind λx h1 ι1 H1 u g1 S1 r1 q1=>?_⟩
 refine wL (E:=E) S1 (er.mono g1) q1 λl h2 ι2 H2 g2 S2 q2=>wL (E:=E) S2 (er.mono (g1.trans g2)) q2 λw h3 ι3 H3 g3 S3 q3=>?_
 have r3:=r1.mono (g2.trans g3)
 unfold dQ at q3
 split at q3
 ·obtain ⟨ad,us,rfl,sq,rs⟩:=d9 S3 r3 rfl
  exact .inl ⟨ad,us,rfl,hK▸sq,λp n=>jH S3 rs.cut n q3⟩
 ·obtain ⟨rfl,hz,hc⟩:=dI r3
  exact .inr (.inr ⟨_,rfl,hz,q3.now S3 (D5 hz hc)⟩)
 ·rename_i xs
  split at q3
  ·rename_i hz
   obtain ⟨ad,us,rfl,sq,rs⟩:=jG r3
   exact .inr (.inl ⟨ad,us,rfl,hK▸sq,by rw [<- rs.length];exact hz,λp n=>qF S3 rs.cut n q3⟩)
  ·exact q3.elim
 ·split at q3
  ·rename_i xs hn
   obtain ⟨ad,us,rfl,sq,rs⟩:=d9 (xs:=xs) S3 r3 (by simp [dC,hn])
   exact .inl ⟨ad,us,rfl,hK▸sq,λp n=>jH S3 rs.cut n q3⟩
  ·exact q3.elim
 ·exact q3.elim
theorem eC {x:Str} {i:Int} {p:Pos} (hg:Gl X x) (hm:∃ t,X.mg x=some (.int i t)) (hd:(x == ("__debug__" : Str))=false:=by decide):aG T E X (.Name x p) (ae (.int i)):=by
 obtain ⟨t,hm⟩:=hm
 exact Dc hg hm hd
end
def DG (K:PySem.W.Frag) (mg:Str->Option Value) (x:Str) (st:Stmt) (ps:List Str):Prop:=∃ f fd,mg x=some (.ref f)/\PySem.W.keepIn K (.ref f)=true/\Binds K fd ps []/\Fun K x x st f fd
end Sm
namespace Sm
open PySem PySem.Spec L2
def wM (N:List Str) (sc:Scope) (ns:List Str) (jf:List (Nat×Str)) (scope:Scope):Bool :=
 decide (ns++jf.map (·.2)).Nodup && ns.all (λx=>scope.names.lookup x == some .local) && jf.all (λp=>N[p.1]? == some p.2) && jf.all (λp=>scope.names.lookup p.2 == some .free) && (scope.kind == .function) &&
 scope.names.all (λy=>y.2 != .cell) && scope.names.all (λy=>y.2 != .free || sc.names.lookup y.1 == some .cell || sc.names.lookup y.1 == some .free) && scope.names.all (λy=>y.2 != .local || scope.names.lookup y.1 == some .local)
theorem jQ {X:Cx} {N:List Str} {sc scope:Scope} {ns:List Str} {jf:List (Nat×Str)} (hN:X.N=N) (hk:∀ x,X.env.kindOf x=sc.names.lookup x) (h:wM N sc ns jf scope=true):CompOk X ns jf scope:=by
 unfold wM at h
 simp only [Bool.and_eq_true,decide_eq_true_eq,List.all_eq_true,beq_iff_eq,bne_iff_ne,Bool.or_eq_true] at h
 obtain ⟨⟨⟨⟨⟨⟨⟨h1,h2⟩,h3⟩,h4⟩,h5⟩,h6⟩,h7⟩,h8⟩:=h
 refine ⟨h1,h2,λp hp=>by rw [hN];exact h3 p hp,h4,h5,λy hy=>h6 y hy,λy hy e=>?_,λy hy e=>?_⟩
 ·rw [hk]
  rcases h7 y hy with (z | z) | z
  ·exact absurd e z
  ·exact .inl z
  ·exact .inr z
 ·rcases h8 y hy with z | z
  ·exact absurd e z
  ·exact z
end Sm
namespace Sm
open PySem PySem.Spec L2
theorem rf {T:Tb} {ι:Ix} {H:Hp}:∀ ns:List Int,RVs T ι H (ns.map AV.int) (ns.map V.int)
 | []=>.nil
 | n::ns=>.cons (.int n) (rf ns)
theorem rg {T:Tb} {H:Hp}:Sim T ⟨[],[]⟩ [] H:=⟨rfl,List.nodup_nil,(λ_ z=>nomatch z),(λi o a e=>by simp at e)⟩
def rh (K:PySem.W.Frag):Sp:=λvs H Q _=>∃ (a:Addr) (ns:List Int),vs=[.ref a]/\SqL K H a (ns.map V.int)/\ns.length<=63/\∀ H',Q (.bl true) H'
theorem D6 {T:Tb} {F:Fn} (ht:∀ ns:List Int,ns.length<=63->∃ h',F [.fl (ns.map AV.int)] [] = .ok (.bl true) h'):∀ vs H Q E,rh T.K vs H Q E->iq T F vs H Q E:=by
 rintro vs H Q E ⟨a,ns,rfl,hs,hl,q⟩
 obtain ⟨h',e⟩:=ht ns hl
 refine ⟨⟨[],[]⟩,[],[.fl (ns.map AV.int)],rg,.cons ?_ .nil,?_⟩
 ·rcases hs with hs | hs
  ·exact .fl (by simp [Ix.all]) hs (rf ns)
  ·exact .kfl hs (rf ns)
 ·rw [e]
  intro ι' H' u g S r
  rw [gT r]
  exact q H'
theorem D7 {P:Program} {w:World} {outer:List Env} {H:Hp} {s s':Shared} {e:Value} (h:cf P w outer H s (λ_ _ _=>False) e s'):False:=by
 obtain ⟨_,_,_,_,_,_,_,_,_,_,_,_,_,_,_,_,q⟩:=h
 exact q
end Sm
namespace L2
open PySem PySem.Spec PyProof.Rows
end L2
namespace Sm
open PySem PySem.Spec L2
end Sm
namespace Sm
open PySem PySem.Spec L2
section
variable {T:Tb} {E:L2.St->XK} {X:Cx} {pos p np:Pos} {a:Expr} {sa:SE}
theorem excK_of {K:PySem.W.Frag} {C:Addr} (g1:PySem.W.findIn K (.ref C) "__getattribute__" = some (some (.builtin "BaseException.__getattribute__"))) (g2:PySem.W.findIn K (.ref C) "__getattr__" = some none) (g3:PySem.W.findIn K (.ref C) "__class__" = some (some (.builtin "object.__class__")))
  (g4:PySem.W.mroIn K C (.type "object")=some true) (g5:PySem.W.mroIn K C (.type "BaseException")=some true) (g6:PySem.W.specialIn K (.builtin "object.__class__") "__get__" = some (some (.builtin "getset_descriptor.__get__"))) (g7:PySem.W.takesIn K (.builtin "object.__class__")=some true):aW K C:=by
 refine ⟨?_,g1,g2,g3,g6,g7,g4,g5⟩
 obtain ⟨cd,hc,_⟩:=Option.bind_eq_some_iff.mp g4
 rw [hc]
 rfl
theorem D8 {t:Str} {p2:Pos} {pr:Nat->Bool} (hK:X.K=T.K) (hg:Gl X "isinstance") (hm:X.mg "isinstance" = none) (ha:aG T E X a sa) (hgt:Gl X t) (hp:∃ C,X.mg t=some (.ref C)/\∀ c C',T.exc c=some C'->aW T.K C'/\PySem.W.kitOne T.K (.ref C') (.ref C)=some (pr c)) (hd:(t == ("__debug__" : Str))=false:=by decide)
  (he:starEach [a,.Name t p2] X.env=(false,eval a X.env)::starEach [.Name t p2] X.env:=by rfl):aG T E X (.Call (.Name "isinstance" p) [a,.Name t p2] [] pos) (d7 pr sa):=by
 obtain ⟨C,h1,h2⟩:=hp
 exact wI hK hg hm ha (kH (v:=.ref C) hgt h1 rfl hd) (mY C) h2 he
theorem Ea {t:Str} {id:String} {p2:Pos} {pr:Nat->Bool} (hK:X.K=T.K) (hg:Gl X "isinstance") (hm:X.mg "isinstance" = none) (ha:aG T E X a sa) (hgt:Gl X t) (hmt:X.mg t=none) (hvt:bootBuiltins t=some (.type id)) (hp:∀ c C',T.exc c=some C'->aW T.K C'/\PySem.W.kitOne T.K (.ref C') (.type id)=some (pr c)) (hnt:t ≠ "__name__" := by decide) (hd:(t == ("__debug__" : Str))=false:=by decide)
  (he:starEach [a,.Name t p2] X.env=(false,eval a X.env)::starEach [.Name t p2] X.env:=by rfl):aG T E X (.Call (.Name "isinstance" p) [a,.Name t p2] [] pos) (d7 pr sa) :=
 wI hK hg hm ha (uI (v:=.ty id) hgt hmt hvt rfl hnt hd) (qj id) hp he
theorem Eb {xc n:Str} {i:Nat} {body suite:List Stmt} {b0:Stmt} {hpos:Pos} {sb hd:SS} {outer:List Env} {catches:Nat->Bool} (hK:X.K=T.K) (hN:X.N.Nodup) (hg:Gl X xc)
  (hcat:∃ C,X.mg xc=some (.ref C)/\∀ c C',catches c=true->T.exc c=some C'->PySem.W.exmOne T.K (.ref C') (.ref C)=some true)
  (hb:∀ pins xe Ex,CA T Ex (tryC X pins xe)->jv (tryC X pins xe) Ex->bN T Ex (tryC X pins xe) body sb) (hh:∀ a,CA T EN (de X a)->bN T EN (de X a) (b0::suite) hd)
  (hex:X.ex=[]:=by rfl) (hst:X.stack=X.env::outer:=by rfl) (hf:X.env.frame=some X.env.locals:=by rfl) (hi:X.N[i]? = some n:=by rfl) (hl:X.env.scope.names.lookup n=some .local:=by rfl) (hdb:(xc == ("__debug__" : Str))=false:=by decide) :
  dP T E X (.Try body [.ExceptHandler (some (.Name xc np)) (some n) (b0::suite) hpos] [] [] pos) (df i catches sb hd):=by
 obtain ⟨C,h1,h2⟩:=hcat
 exact DX hK hN hg h1 h2 hb hh hex hst hf hi hl hdb
end
theorem Ec:bootBuiltins "ValueError" = some (.type "ValueError"):=by decide +kernel
end Sm
namespace L2
open PySem PySem.Spec PyProof.Rows
section
variable {X:Cx} {pins:List (Addr×Obj)} {σ:L2.St} {H:Hp} {s:Shared}
end
end L2
namespace Sm
open PySem PySem.Spec L2
end Sm
namespace Sm
open PySem PySem.Spec L2
@[simp] def lH:List AV->Option (List Int)
 | []=>some []
 | .int i::r=>(lH r).map (i :: ·)
 | _=>none
@[simp] def fJ:Fn:=λargs h=>match args with
 | [.fl xs]=>match lH xs with
  | some ns=>.ok (.int ns.sum) h
  | none=>.bad
 | _=>.bad
@[simp] def iy (a b c:SE):SI:=λen h=>(a en h).bind λv h1=>(b en h1).bind λw h2=>(c en h2).bind λz h3=>match v,w,z with
 | .int i,.int j,.int k=>if i.natAbs<2 ^ 40/\j.natAbs<2 ^ 40/\0<k/\k<2 ^ 20 then .ok ((List.range (if i<j then (j-i-1) / k+1 else 0:Int).toNat).map (λm:Nat=>.int (i+m*k)),none) h3 else .bad
 | _,_,_=>.bad
section
variable {T:Tb} {E:St->XK} {X:Cx} {pos p:Pos} {e a b c:Expr} {sa sb sc:SE}
theorem wN {ι:Ix} {H:Hp}:∀ {xs:List AV} {us:List V} {bs:List Int},RVs T ι H xs us->lH xs=some bs->us=bs.map V.int
 | _,_,_,.nil,e=>by cases e;rfl
 | _,_,bs,.cons (x:=x) r rs,e=>by
  unfold lH at e
  split at e
  ·rename_i hh;cases hh
  ·rename_i b r' hh
   cases hh
   obtain ⟨bs',e1,rfl⟩:=Option.map_eq_some_iff.mp e
   rw [bB r,wN rs e1];rfl
  ·cases e
theorem b_sum (hK:X.K=T.K) (hc:X.calm=true:=by rfl):∃ r,CallR X (.builtin "sum") r/\fX T fJ r:=by
 refine ⟨_,CI hc,λι h H xs us E Q S r q=>?_⟩
 unfold fJ at q
 split at q
 ·split at q
  ·rename_i bs hb
   cases r with
   | cons r r' =>
    cases r'
    obtain ⟨a,us,rfl,sq,rs⟩:=d9 S r rfl
    rw [wN rs hb] at sq
    exact ⟨a,bs,rfl,hK▸sq,q.now S (.int _)⟩
  ·exact q.elim
 ·exact q.elim
theorem Ed {ι:Ix} {H:Hp} {lo c:Int} {n:Nat}:ik T (hV lo c n) ι H ((List.range n).map (λm:Nat=>AV.int (lo+m*c))) none:=by
 constructor
 ·intro i ι' h' H' y g S _ e
  rw [List.getElem?_map] at e
  obtain ⟨m,e1,rfl⟩:=Option.map_eq_some_iff.mp e
  have hi:i<n:=by
   have:=(List.getElem?_eq_some_iff.mp e1).1
   simpa using this
  rw [List.getElem?_range hi] at e1
  cases e1
  refine ⟨hi,?_⟩
  rintro u H2 ⟨rfl,rfl⟩
  exact ⟨S.refl,S,.int _⟩
 ·intro i ι' h' H' g S _ hl
  have hl':n<=i:=by simpa using hl
  exact hl'
theorem wO {tg:Expr} {p:Pos} (hg:Gl X "range") (hm:X.mg "range" = none) (ha:aG T E X a sa) (hb:aG T E X b sb) (hc:aG T E X c sc) (hs:starEach [a,b,c] X.env=[(false,eval a X.env),(false,eval b X.env),(false,eval c X.env)]:=by rfl) (hs2:starEach [b,c] X.env=[(false,eval b X.env),(false,eval c X.env)]:=by rfl) (hs3:starEach [c] X.env=[(false,eval c X.env)]:=by rfl) :
  jM T X tg (.Call (.Name "range" p) [a,b,c] [] pos) (iy sa sb sc) :=
 qM (CS hg hm (aj ha (aj hb (aj hc aq hs3) (by rw [hs2,hs3])) (by rw [hs,hs2])) hs hs2) λσ H R=>E6x λι h en S er q=>by
  unfold iy at q
  refine ⟨ι,h,en,S,er,?_⟩
  unfold ai
  cases e:sa en h with
  | bad=>rw [e] at q;exact q
  | ex c h1=>rw [e] at q;exact q.elim
  | ok v h1 =>
   rw [e] at q
   dsimp only [Out.bind] at q ⊢
   cases e':sb en h1 with
   | bad=>rw [e'] at q;exact q
   | ex c h1=>rw [e'] at q;exact q.elim
   | ok v' h2 =>
    rw [e'] at q
    dsimp only at q ⊢
    cases e'':sc en h2 with
    | bad=>rw [e''] at q;exact q
    | ex c h1=>rw [e''] at q;exact q.elim
    | ok v'' h3 =>
     rw [e''] at q
     dsimp only at q
     intro ι1 H1 u g1 S1 r1
     split at q
     ·rename_i hx
      split at hx
      ·split at hx
       ·rename_i hb
        cases hx
        cases r1 with
        | cons r r' =>
         cases r' with
         | cons r2 r3 =>
          cases r3 with
          | cons r4 r5 =>
           cases r5
           rw [bB r,bB r2,bB r4]
           exact ⟨_,_,_,rfl,hb,q ι1 H1 _ g1 S1 Ed⟩
       ·cases hx
      ·cases hx
     ·exact q.elim
theorem nK {sts:List Stmt} {E:St->XK}:bN T E X sts (λ_ _=>.bad):=λpins s σ H D I ⟨ι,h,en,S,er,q⟩=>q.elim
end
theorem Ee:∀ {us:List Value},us.length=1->∃ a:Value,us=[a]
 | [a],_=>⟨a,rfl⟩
theorem Ef:∀ {us:List Value},us.length=2->∃ a b:Value,us=[a,b]
 | [a,b],_=>⟨a,b,rfl⟩
theorem Eg:∀ {us:List Value},us.length=3->∃ a b c:Value,us=[a,b,c]
 | [a,b,c],_=>⟨a,b,c,rfl⟩
def fK:Nat:=100000000
end Sm
namespace Sm
open PySem PySem.Spec L2
def nL:FM:=λx vs h=>match x,vs with
 | .str z,[]=>if (Txt.upper z).length<=sizeLine/\(Txt.upper z).cps.all (· < 0x110000)=true then .ok (.str (Txt.upper z)) h else .bad
 | _,_=>.bad
theorem Eh {T:Tb} {X:Cx}:∃ r,fV X "str.upper" r/\jP T nL r:=by
 refine ⟨_,C5,λι h H x xs u us E Q S rx rs q=>?_⟩
 unfold nL at q
 split at q
 ·split at q
  ·rename_i hz
   cases rs
   obtain ⟨rfl,_⟩:=dI rx
   exact ⟨_,rfl,rfl,hz.1,q.now S (.str hz.1 hz.2)⟩
  ·exact q.elim
 ·exact q.elim
def jR (a:SE) (t:Tg) (b:SS):SS:=λen h=>match a en h with
 | .ok (.fl xs) h1=>du none xs t b xs.reverse en h1
 | .ok (.ref n) h1=>(match h1[n]? with
  | some (.lst xs)=>du (some n) xs t b xs.reverse en h1
  | _=>.bad)
 | _=>.bad
section
variable {T:Tb} {E:St->XK} {X:Cx} {pos:Pos} {a:Expr} {sa:SE} {sts:List Stmt} {s1:SS}
theorem rm {ι:Ix} {H:Hp} {a:Addr} {us:List V} {xs:List AV} {K:PySem.W.Frag} {w:Option Nat} (keep:∀ (ι':Ix) (h':AH) (H':Hp),Ext ι H ι' H'->Sim T ι' h' H'->cS w xs h'=true->∃ us',us'.length=us.length/\SqL K H' a us'/\RVs T ι' H' xs us') (hl:xs.length=us.length):lj T (qu K a us.length) ι H xs.reverse (cS w xs):=by
 refine ⟨λi ι' h' H' x x' S' lv hx=>?_,λi ι' h' H' _ _ _ hi=>?_⟩
 ·obtain ⟨us',hl',sq,rs⟩:=keep ι' h' H' x' S' lv
  have hi:i<xs.length:=by have:=(List.getElem?_eq_some_iff.mp hx).1;rwa [List.length_reverse] at this
  rw [List.getElem?_reverse hi] at hx
  rw [hl] at hx
  obtain ⟨u,hu,ru⟩:=rs.get hx
  refine ⟨⟨us',u,sq,hl',by omega,hu⟩,λv H2 y=>?_⟩
  obtain ⟨rfl,y2⟩:=y
  have:=y2 us' sq
  rw [hu] at this
  cases this
  exact ⟨S'.refl,S',ru⟩
 ·show us.length<=i
  rw [List.length_reverse] at hi
  omega
theorem Ei {tg:Expr} {t:Tg} {p ppos:Pos} (hK:X.K=T.K) (hc:X.calm=true) (hg0:Gl X.nox "reversed") (hm:X.nox.mg "reversed" = none) (ha:aG T EN X.nox a sa) (hg:nv T X.nox tg t) (hb:bN T EN X.nox sts s1) (gG:starEach [a] X.nox.env=[(false,eval a X.nox.env)]:=by rfl)
  (hs:∀ x,foldedSetIterable (.Call (.Name "reversed" p) [a] [] ppos) X.nox.env x=pure x:=by intro _;rfl):dP T E X (.For tg (.Call (.Name "reversed" p) [a] [] ppos) sts [] pos) (jR sa t s1):=by
 obtain ⟨g,hg1,hg2⟩:=hg
 refine fg (qy (pK PassesOwn.never hc (C4 hg0 hm (aj ha aq gG) gG) hg1 hb hs)) λD σ H=>E6x λι h en S er q=>⟨ι,h,en,S,er,?_⟩
 unfold jR at q
 show Post T ι H _ (RVs T) ((sa en h).bind λx h1=>.ok [x] h1) _
 cases e:sa en h with
 | bad=>rw [e] at q;exact q
 | ex c h1=>rw [e] at q;exact (show False from q).elim
 | ok v h1 =>
  rw [e] at q
  intro ι1 H1 us g1 S1 r1
  cases r1 with
  | cons r r' =>
  cases r'
  cases v with
  | fl xs =>
   dsimp only at q
   cases r with
   | fl n hr rs=>exact ⟨_,_,rfl,kd hK (.inl hr),nC hg2 S1 (er.mono g1) (by
     have:=rm (T:=T) (w:=none) (K:=T.K) (a:=_) (us:=_) (xs:=xs) (ι:=ι1) (H:=H1) (λι' h' H' x' S' _=>⟨_,rfl,qN n hr ι' H' x',rs.ext x'⟩) rs.length
     exact hK▸this) (PostS.shift q g1)⟩
   | kfl hr rs=>exact ⟨_,_,rfl,kd hK (.inr hr),nC hg2 S1 (er.mono g1) (by
     have:=rm (T:=T) (w:=none) (K:=T.K) (a:=_) (us:=_) (xs:=xs) (ι:=ι1) (H:=H1) (λι' h' H' x' S' _=>⟨_,rfl,.inr hr,rs.ext x'⟩) rs.length
     exact hK▸this) (PostS.shift q g1)⟩
  | ref n =>
   dsimp only at q
   cases e2:h1[n]? with
   | none=>rw [e2] at q;exact (show False from q).elim
   | some o =>
    rw [e2] at q
    cases o with
    | lst xs =>
     cases r with
     | ref hr =>
      obtain ⟨u,e1,us,rfl,rs⟩:=S1.obj n _ _ e2 hr
      refine ⟨_,us,rfl,.inl (.of e1),nC hg2 S1 (er.mono g1) (rm (λι' h' H' x' S' lv=>?_) rs.length) (PostS.shift q g1)⟩
      unfold cS at lv
      dsimp only at lv
      split at lv
      ·rename_i ys hy
       have z:=of_decide_eq_true lv
       subst z
       obtain ⟨u2,e3,us2,rfl,r2⟩:=S'.obj n _ _ hy (x'.at_ hr)
       exact ⟨us2,by rw [<- r2.length,rs.length],.inl (.of e3),r2⟩
      ·cases lv
    | _=>exact (show False from q).elim
  | _=>exact (show False from q).elim
end
end Sm
namespace L2
open PySem PySem.Spec PyProof.Rows
section
variable {X:Cx}
end
end L2
namespace Sm
open PySem PySem.Spec L2
def IK:F2:=λx y h=>match x,y with
 | .tup [],.tup ys=>.ok (.tup ys) h
 | x,y=>ar x y h
def rp (n:Nat) (y z:AV) (h:AH):Out AV:=match h[n]? with
 | some (.dct false [])=>if d6 false y then .ok (.ref n) (h.set n (.dct false [(y,z)])) else .bad
 | _=>.bad
def kg (k v:SE):SE:=λen h=>(k en (h++[.dct false []])).bind λy h1=>(v en h1).bind λz h2=>rp h.length y z h2
section
variable {T:Tb} {E:St->XK} {X:Cx} {pos:Pos} {a b:Expr} {sa sb:SE}
theorem Ej (ha:aG T E X a sa) (hb:aG T E X b sb):aG T E X (.Dict [some a] [b] pos) (kg sa sb):=by
 refine bW (BG (BE ha hb BD) rfl rfl (by simp) (by simp)) λσ H Q ⟨ι,h,en,S,er,q⟩ p n=>?_
 have g:=S.growAdd (u:=.dK []) n
 have S0:=S.add (o:=.dct false []) (u:=.dK []) n ⟨[],rfl,.nil⟩
 have at0:=S.addAt (p:=p)
 have q0:=Post.shift q g
 refine ⟨_,_,en,S0,er.mono g,q0.bind λy h1 ι1 H1 u g1 S1 r1 q1=>⟨ι1,h1,en,S1,(er.mono g).mono g1,q1.bind λz h2 ι2 H2 w g2 S2 r2 q2=>?_⟩⟩
 unfold rp at q2
 split at q2
 ·rename_i hn
  split at q2
  ·rename_i hk
   have hr:ι2.refs[h.length]? = some p:=(g1.trans g2).ext.at_ at0
   obtain ⟨H',dp,g3,S3⟩:=wB S2 hn hr (r1.mono g2) r2 hk (by decide)
   rcases dp with ⟨kvs,k,e1,rfl,_,rfl⟩ | ⟨xc,kvs,k,b',e1,_⟩
   ·obtain ⟨ob,e2,kus,rfl,r⟩:=S2.obj _ _ p hn hr
    cases r
    have e3:=e1.symm.trans e2
    cases e3
    exact ⟨e1,[(k,w)],rfl,by simp,q2 _ _ _ g3 S3 (.ref hr)⟩
   ·obtain ⟨ob,e2,kus,rfl,r⟩:=S2.obj _ _ p hn hr
    rw [e1] at e2;cases e2
  ·exact q2.elim
 ·exact q2.elim
end
end Sm
namespace L2
open PySem PySem.Spec PyProof.Rows
abbrev wQ (xs:Array Value) (n:Nat) (sl:Array (Option Value)):Obj:={ cls:=.type "list",data:=.seq xs n,slots:=sl }
theorem Ek {l b:Addr} {xs ys:Array Value} {n m:Nat} {sl:Array (Option Value)} (c : ¬ (!xs.isEmpty && Builtin.List.listTooLong (xs.size+ys.size))=true) (c1:xs.size<=sizeLine) (c2:xs.size+ys.size<=sizeLine+1) :
  Meets (Builtin.«list.extend» ⟨[.ref l,.ref b],[]⟩) (λ_ R s=>s.heap.get? l=some (wQ xs n #[])/\s.heap.get? b=some (wQ ys m sl)/\R (.ok (.ret .none)) { s with heap:=s.heap.update l (Obj.mapSeq λx=>x++ys),toks:=s.toks }):=by
 refine .of_wp λ_ _ _ _ s z=>?_
 cases s
 have z1:=z.1
 have z2:=z.2.1
 have z3:=z.2.2
 have k1:=PySem.AutoSeq1.idx_int
 have k2:=PySem.AutoSeq1.sub_tuple_tuple
 have k3:=PySem.AutoSeq1.sub_list_list
 have k4:=PySem.AutoSeq1.sub_tuple_list
 have k5:=PySem.AutoSeq1.sub_list_tuple
 have sz:(xs++ys).size<=sizeLine+1:=by rw [Array.size_append];exact c2
 wp_walk using (wpAny_updateSeq z1 rfl (hz:=c1) (_hz' := sz)),PySem.AutoSeq1.wpAny_loadPart' z1,PySem.AutoSeq1.wpAny_loadPart' z2
 exact ⟨_,rfl,z3⟩
section
variable {X:Cx}
def El (K:PySem.W.Frag):V->List V->Hp->VK->Prop:=λx vs H Q=>∃ l b xs zs,x = .ref l/\vs=[.ref b]/\H l=some (.lst xs)/\SqL K H b zs/\xs.length+zs.length<=sizeLine/\Q .non (aI H l (.lst (xs++zs)))
theorem Em:fV X "list.extend" (El X.K):=by
 intro pins s σ H x vs v us Q I rx rv h
 obtain ⟨l,b,xs,zs,rfl,rfl,hH,hB,hz,q⟩:=h
 cases rx
 obtain ⟨u,rfl,ru⟩:=rv.one
 cases ru
 obtain ⟨z,its,n,r,hl,e⟩:=I.lstM hH
 obtain ⟨its2,r2,⟨⟨oc,od,oda,osl⟩,n2,e1,e2,e3,e4⟩,hz2⟩:=I.list hB
 dsimp only at e2 e3 e4
 subst e2 e3 e4
 have hl2:=r2.length
 have hsz:its.toArray.size+its2.toArray.size<=sizeLine:=by rw [List.size_toArray,List.size_toArray];omega
 have hlong : ¬ (!its.toArray.isEmpty && Builtin.List.listTooLong (its.toArray.size+its2.toArray.size))=true:=by
  rw [Bh hsz,Bool.and_false]
  exact Bool.false_ne_true
 refine call_meets F.slot_list_extend ⟨_,e,rfl⟩ F.entry_list_extend (F.args_list_extend_2 _ _)
  (Ek (n:=n) (m:=n2) (sl:=osl) hlong (by rw [List.size_toArray];omega) (by omega)) ⟨e,e1,?_⟩
 refine ⟨.non,_,I.lset (its' := its++its2) hH e (by simp) (r.append r2) ?_,rfl,q⟩
 rw [List.length_append]
 omega
end
end L2
namespace Sm
open PySem PySem.Spec L2
@[simp] def jS:FM:=λx vs h=>match x,vs with
 | .ref n,[y]=>match h[n]?,dC y h with
  | some (.lst xs),some ys=>if xs.length+ys.length<=sizeLine then .ok .non (h.set n (.lst (xs++ys))) else .bad
  | _,_=>.bad
 | _,_=>.bad
theorem Eo {T:Tb} {X:Cx} (hK:X.K=T.K):∃ r,fV X "list.extend" r/\jP T jS r:=by
 refine ⟨_,Em,λι h H x xs u us E Q S rx rs q=>?_⟩
 unfold jS at q
 split at q
 ·rename_i n y
  split at q
  ·rename_i ys zs hn hy
   split at q
   ·rename_i hl
    cases rx with
    | @ref _ ad hr =>
     cases rs with
     | @cons _ uu _ _ r r' =>
      cases r'
      obtain ⟨o,e1,ws,rfl,rw_⟩:=S.obj n _ ad hn hr
      obtain ⟨bd,ws2,rfl,sq,rw2⟩:=d9 S r hy
      have g:=S.growSet (u:=.lst (ws++ws2)) hr
      exact ⟨ad,bd,ws,ws2,rfl,rfl,e1,hK▸sq,by rw [<- rw_.length,<- rw2.length];exact hl,q ι _ _ g (S.set hr ⟨_,rfl,(rw_.mono g).append (rw2.mono g)⟩) .non⟩
   ·exact q.elim
  ·exact q.elim
 ·exact q.elim
section
variable {T:Tb} {E:L2.St->XK} {X:Cx} {pos:Pos} {a b:Expr} {sa sb:SE}
end
end Sm
namespace L2
open PySem PySem.Spec
theorem Room.m {j k:Nat} {A:Around} (hr:Room k A) (h:Nat.ble j k=true:=by rfl):Room j A:=hr.mono (Nat.le_of_ble_eq_true h)
end L2
namespace Sm
open PySem PySem.Spec L2
def DK (K:PySem.W.Frag) (x:Str) (st:Stmt):Prop:=∃ f fd,PySem.W.nsIn K mainGlobals x=some (some (.ref f))/\Fun K x x st f fd
def DN (K:PySem.W.Frag) (C:Addr) (m q:Str) (st:Stmt):Prop:=∃ f fd,gv K C m f/\Fun K m q st f fd
def eD (K:PySem.W.Frag) (cls:Nat->Option Addr) (c:Nat) (m q:Str) (st:Stmt) (ps:List Str):Prop:=∃ C f fd,cls c=some C/\Cls K C/\gv K C m f/\Binds K fd ps []/\Fun K m q st f fd
def DI (K:PySem.W.Frag) (cls:Nat->Option Addr) (mg:Str->Option Value) (c:Nat) (x q:Str) (st:Stmt) (ps:List Str):Prop:=∃ C f fd,cls c=some C/\mg x=some (.ref C)/\Mk K C f/\Binds K fd ps []/\Fun K "__init__" q st f fd
section
variable {P:Program} {w:World} {K:PySem.W.Frag} {mg:Str->Option Value} {base h:Heap} {T:Tb} {x m q:Str} {st:Stmt} {f C:Addr} {N ps:List Str} {k c:Nat} {b:SS} {cls:Nat->Option Addr}
section
variable {oc:Value} {od an:Option Addr} {osl:Array (Option Value)} {kV doc pm cdv ct:Value}
theorem dk (a:PySem.W.nsIn K mainGlobals x=some (some (.ref f))) (l:K.lookup f=some ⟨oc,od,.func (PySem.W.fnOf x x (ju st) (gN st) (aL st) .none kV doc pm an cdv ct),osl⟩)
  (c:PySem.W.codeIn K cdv x=true) (k:PySem.W.keepIn K (.ref f)=true):DK K x st:=⟨f,_,a,vt l c k⟩
theorem dn (a:PySem.W.findIn K (.ref C) m=some (some (.ref f))) (i:PySem.W.isFn K (.ref f)=true) (l:K.lookup f=some ⟨oc,od,.func (PySem.W.fnOf m q (ju st) (gN st) (aL st) .none kV doc pm an cdv ct),osl⟩)
  (c:PySem.W.codeIn K cdv q=true) (k:PySem.W.keepIn K (.ref f)=true):DN K C m q st:=⟨f,_,⟨a,i,k⟩,vt l c k⟩
end
abbrev BA (x q:Str) (st:Stmt) (us:List Value) (r:List (Str×Value)):Prop:=∀ (kV doc pm:Value) (an:Option Addr) (cdv ct:Value),bindArgs (PySem.W.fnOf x q (ju st) (gN st) (aL st) .none kV doc pm an cdv ct) ⟨us,[]⟩=pure r
def BL (x q:Str) (st:Stmt) (ps:List Str):Prop:=∀ (us:List Value),us.length=ps.length->BA x q st us (ps.zip us)
theorem gX {p1:Str} (h:∀ a,BA x q st [a] [(p1,a)]:=by exact λ_ _ _ _ _ _ _=>rfl):BL x q st [p1]:=λus e=>by obtain ⟨_,rfl⟩:=Ee e;exact h _
theorem c4 {p1 p2:Str} (h:∀ a b,BA x q st [a,b] [(p1,a),(p2,b)]:=by exact λ_ _ _ _ _ _ _ _=>rfl):BL x q st [p1,p2]:=λus e=>by obtain ⟨_,_,rfl⟩:=Ef e;exact h _ _
theorem fY {p1 p2 p3:Str} (h:∀ a b c,BA x q st [a,b,c] [(p1,a),(p2,b),(p3,c)]:=by exact λ_ _ _ _ _ _ _ _ _=>rfl):BL x q st [p1,p2,p3]:=λus e=>by obtain ⟨_,_,_,rfl⟩:=Eg e;exact h _ _ _
theorem dg (X:K.In h) (G:h.Ns mainGlobals mg) (d:DK K x st) (hb:BL x x st ps):DG K mg x st ps:=by
 obtain ⟨f,fd,a,F⟩:=d
 exact ⟨f,fd,PySem.W.mg_of X G a,F.kp,F.binds λ_ _ _ _ _ _ us hl=>hb us hl _ _ _ _ _ _,F⟩
theorem dm (hc:cls c=some C) (k:Cls K C) (d:DN K C m q st) (hb:BL m q st ps):eD K cls c m q st ps:=by
 obtain ⟨f,fd,M,F⟩:=d
 exact ⟨C,f,fd,hc,k,M,F.binds λ_ _ _ _ _ _ us hl=>hb us hl _ _ _ _ _ _,F⟩
theorem di (hc:cls c=some C) (hx:mg x=some (.ref C)) (mk:PySem.W.makesIn K C=true) (kc:PySem.W.keepIn K (.ref C)=true) (d:DN K C "__init__" q st) (hb:BL "__init__" q st ps):DI K cls mg c x q st ps:=by
 obtain ⟨f,fd,M,F⟩:=d
 exact ⟨C,f,fd,hc,hx,⟨mk,M.at_,M.fn,kc⟩,F.binds λ_ _ _ _ _ _ us hl=>hb us hl _ _ _ _ _ _,F⟩
theorem rq {fa:Addr} {p:Str} (X:K.In h) (G:h.Ns mainGlobals mg) (hfa:mg x=some (.ref fa)) (d:DK K x st) (hb:BL x x st [p]):∃ fd:FuncData,(∀ (s:Shared) (v:Value),BindsTo s fd ⟨[v],[]⟩ [(p,v)])/\Fun K x x st fa fd:=by
 obtain ⟨f,fd,a,F⟩:=d
 have e:=hfa.symm.trans (PySem.W.mg_of X G a)
 cases e
 refine ⟨fd,λs v=>?_,F⟩
 obtain ⟨oc,od,kV,doc,pm,an,cdv,ct,osl,rfl,lk,hcd⟩:=F.ex
 exact .of_eq (hb [v] rfl _ _ _ _ _ _)
theorem bz {sc:Scope} (h1:sc.kind = .function:=by rfl) (h2:sc.isCoroutine=false:=by rfl) (h3:sc.isGenerator=false:=by rfl) (h4:N.Nodup:=by decide +kernel) (h5:N.take ps.length=ps:=by rfl)
  (h6:∀ x∈ps,sc.names.lookup x=some .local\/sc.names.lookup x=some .cell:=by decide +kernel) (h7:∀ y∈sc.names,y.2 ≠ .free:=by decide +kernel):ao N ps sc:=⟨h1,h2,h3,h4,h5,h6,h7⟩
abbrev nM (P:Program) (w:World) (mg:Str->Option Value) (base:Heap) (T:Tb) (q:Str) (st:Stmt) (f:Addr) (N:List Str) (k:Nat) (b:SS):Prop :=
 ∀ {cdv:Value} {A:Around} {outer:List Env} {s:Shared} {H:Hp} {E:XK},Room k (A.deeper (PyProof.Rows.envOfC q (aL st) s.heap.objs.size f cdv))->CA T (λ_=>E) (bw (cf P w) P w T.K mg base N q (aL st) f cdv A outer s H E) ->
  (A.deeper (PyProof.Rows.envOfC q (aL st) s.heap.objs.size f cdv)).units+64<cLine->N.Nodup->bN T (λ_=>E) (bw (cf P w) P w T.K mg base N q (aL st) f cdv A outer s H E) (gN st) b
theorem gf (d:DG T.K mg x st ps) (S:ao N ps (aL st)) (hb:∀ {f},nM P w mg base T x st f N k b):GF P w T mg base (k+1) x (aC ps.length N.length b):=by
 obtain ⟨f,fd,h1,h2,h3,h4⟩:=d
 exact ⟨f,fd,_,h1,h2,h3,nF h4 rfl S λcdv A outer s H E hr C=>hb hr C (hU hr) S.nd⟩
theorem gm (d:eD T.K T.cls c m q st ps) (S:ao N ps (aL st)) (no:m∉T.fields c) (hb:∀ {f},nM P w mg base T q st f N k b):GM P w T mg base (k+1) c m (aC ps.length N.length b):=by
 obtain ⟨C,f,fd,h0,hc,h1,h3,h4⟩:=d
 exact ⟨⟨C,f,fd,_,h0,hc,h1,h3,nF h4 rfl S λcdv A outer s H E hr C=>hb hr C (hU hr) S.nd⟩,no⟩
theorem gk (d:DI T.K T.cls mg c x q st ps) (S:ao N ps (aL st)) (hb:∀ {f},nM P w mg base T q st f N k b):GK P w T mg base (k+1) c x (aC ps.length N.length b):=by
 obtain ⟨C,f,fd,h0,h1,h2,h3,h4⟩:=d
 exact ⟨C,f,fd,_,h0,h1,h2,h3,nF h4 rfl S λcdv A outer s H E hr C=>hb hr C (hU hr) S.nd⟩
theorem gl {f:Addr} {fd:FuncData} (h4:Fun T.K x x st f fd) (S:ao N ps (aL st)) (hb:nM P w mg base T x st f N k b):FnOk P w T.K mg base (cf P w) (k+1) f fd ps (iq T (aC ps.length N.length b)) :=
 nF h4 rfl S λcdv A outer s H E hr C=>hb hr C (hU hr) S.nd
def XI (K:PySem.W.Frag) (X:Addr):Prop:=PySem.W.excIn K X [.type "ValueError",.type "Exception",.type "BaseException",.type "object"] "ValueError.__new__" = true
theorem xi {X:Addr} (h:PySem.W.excIn K X [.type "ValueError",.type "Exception",.type "BaseException",.type "object"] "ValueError.__new__" = true):XI K X:=h
theorem gx {X:Addr} {n:Nat} {g:Heap} (KB:K.In g) (KX:K.In h) (G:h.Ns mainGlobals mg) (hc:T.exc n=some X) (e:PySem.W.nsIn K mainGlobals x=some (some (.ref X))) (hx:XI K X):GX T mg g n x:=⟨X,hc,CD KB (PySem.W.mg_of KX G e) hx⟩
def KO (K:PySem.W.Frag) (a b:Addr) (v:Bool):Prop:=PySem.W.kitOne K (.ref a) (.ref b)=some v
theorem ko {a d:Addr} {v:Bool} (h:PySem.W.kitOne K (.ref a) (.ref d)=some v):KO K a d v:=h
def XO (K:PySem.W.Frag) (a b:Addr):Prop:=PySem.W.exmOne K (.ref a) (.ref b)=some true
theorem xo {a d:Addr} (h:PySem.W.exmOne K (.ref a) (.ref d)=some true):XO K a d:=h
def NA (K:PySem.W.Frag) (x:Str) (v:Option Value):Prop:=PySem.W.nsIn K mainGlobals x=some v
theorem na {v:Option Value} (h:PySem.W.nsIn K mainGlobals x=some v):NA K x v:=h
def FA (K:PySem.W.Frag) (C:Addr) (x:Str):Prop:=PySem.W.findIn K (.ref C) x=some none
theorem fatt (h:PySem.W.findIn K (.ref C) x=some none):FA K C x:=h
end
end Sm
namespace Sm
open PySem PySem.Spec L2
def fL (c:SB) (b:SS):Nat->SS
 | 0=>λ_ _=>.bad
 | n+1=>λen h=>match c en h with
  | .ok true h1=>(match b en h1 with
   | .nx e2 h2=>fL c b n e2 h2
   | .ct e2 h2=>fL c b n e2 h2
   | .bk e2 h2=>.nx e2 h2
   | .rt v h2=>.rt v h2
   | .ex k e2 h2=>.ex k e2 h2
   | .bad=>.bad)
  | .ok false h1=>.nx en h1
  | .ex k h1=>.ex k en h1
  | .bad=>.bad
def gB (w:Option Nat) (all:List AV) (t:Tg) (b:SS):List AV->SS
 | []=>λen h=>if cS w all h=true then .nx en h else .bad
 | x::xs=>λen h=>if cS w all h=true then
   (match dE t x en with
   | some e1=>(match b e1 h with
    | .nx e2 h2=>gB w all t b xs e2 h2
    | .ct e2 h2=>gB w all t b xs e2 h2
    | .bk e2 h2=>.nx e2 h2
    | .rt v h2=>.rt v h2
    | .ex k e2 h2=>.ex k e2 h2
    | .bad=>.bad)
   | none=>.bad) else .bad
section
variable {P:Program} {w:World} {K:PySem.W.Frag} {mg:Str->Option Value} {base:Heap} {N:List Str} {qual:Str} {scope:Scope} {f:Addr} {cd:Value} {A:Around} {outer:List Env} {s0:Shared} {H0:Hp} {E:XK}
theorem wR:PassesOwn (model (bw (cf P w) P w K mg base N qual scope f cd A outer s0 H0 E).prog (bw (cf P w) P w K mg base N qual scope f cd A outer s0 H0 E).w) (bw (cf P w) P w K mg base N qual scope f cd A outer s0 H0 E).A (bw (cf P w) P w K mg base N qual scope f cd A outer s0 H0 E).env (bw (cf P w) P w K mg base N qual scope f cd A outer s0 H0 E).xe:=PassesOwn.leaving
end
section
variable {T:Tb} {E:St->XK} {X:Cx} {pos:Pos} {a b:Expr} {sa sb:SE} {ca:SB} {st:Stmt} {sts ss1 ss2:List Stmt} {s1 s2:SS}
theorem Ep (n:Nat) (hp:PassesOwn (model X.prog X.w) X.A X.env X.xe) (hc:fC T E X a ca) (hb:bN T E X sts s1):dP T E X (.While a sts [] pos) (fL ca s1 n) :=
 fg (uK hp hc hb) λD σ H=>E6x λι h en S er q=>by
  refine ⟨λm σ H=>∃ ι h en,Sim T ι h H/\ER T ι H en σ/\PostS T ι H E (fL ca s1 m en h) D,⟨n,ι,h,en,S,er,q⟩,?_⟩
  rintro m σ H ⟨ι,h,en,S,er,q⟩
  cases m with
  | zero=>exact (show False from q).elim
  | succ m =>
   unfold fL at q
   refine ⟨ι,h,en,S,er,?_⟩
   cases e:ca en h with
   | bad=>rw [e] at q;exact q
   | ex c h1=>rw [e] at q;exact λι' H' C g' S' t' => q ι' H' σ C g' S' (er.mono g') t'
   | ok x h1 =>
    rw [e] at q
    intro ι1 H1 u g1 S1 r1
    subst r1
    have q1:=PostS.shift q g1
    cases x with
    | true =>
     rw [if_pos rfl]
     refine ⟨λσ H=>∃ ι h en,Sim T ι h H/\ER T ι H en σ/\PostS T ι H E (fL ca s1 m en h) D,λσ' H' w=>⟨m,Nat.lt_succ_self m,w⟩,ι1,h1,en,S1,er.mono g1,?_⟩
     dsimp only at q1
     cases e2:s1 en h1 with
     | nx e3 h3=>rw [e2] at q1;exact λι2 H2 σ2 g2 S2 er2=>⟨ι2,h3,e3,S2,er2,q1.shift g2⟩
     | ct e3 h3=>rw [e2] at q1;exact λι2 H2 σ2 g2 S2 er2=>⟨ι2,h3,e3,S2,er2,q1.shift g2⟩
     | bk e3 h3=>rw [e2] at q1;exact q1
     | rt v h3=>rw [e2] at q1;exact q1
     | ex c e3 h3=>rw [e2] at q1;exact q1
     | bad=>rw [e2] at q1;exact q1
    | false =>
     rw [if_neg Bool.false_ne_true]
     exact q1 ι1 H1 σ S1.refl S1 (er.mono g1)
theorem rA {g:TG} {t:Tg} {J:It} {ι1:Ix} {h1:AH} {H1:Hp} {en:En} {σ:St} {D:cM} {w:Option Nat} {xs:List AV}
  (hg2:∀ {ι:Ix} {h:AH} {H:Hp} {en e:En} {σ:St} {v:AV} {u:V} {Q:St->Hp->Prop},Sim T ι h H->ER T ι H en σ->RV T ι H v u->dE t v en=some e->(∀ σ',ER T ι H e σ'->Q σ' H)->g u σ H Q)
  (S1:Sim T ι1 h1 H1) (er:ER T ι1 H1 en σ) (IR:lj T J ι1 H1 xs (cS w xs)) (q:PostS T ι1 H1 E (gB w xs t s1 xs en h1) D):we g (tS T E s1) D σ H1 J:=by
 refine ⟨λi m σ H=>m=xs.length-i/\i<=xs.length/\∃ ι' h' en',Grow ι1 H1 ι' H/\Sim T ι' h' H/\ER T ι' H en' σ/\PostS T ι' H E (gB w xs t s1 (xs.drop i) en' h') D,
  ⟨xs.length,by simp,Nat.zero_le _,ι1,h1,en,S1.refl,S1,er,q⟩,?_⟩
 rintro i m σ H ⟨rfl,hi,ι',h',en',g',S',er',q'⟩
 by_cases hl:i<xs.length
 ·rw [qO hl] at q'
  unfold gB at q'
  split at q'
  ·rename_i hlive
   obtain ⟨go,yld⟩:=IR.go i ι' h' H xs[i] g'.ext S' hlive (by simp [hl])
   refine .inr ⟨go,λσ H=>∃ ι' h' en',Grow ι1 H1 ι' H/\Sim T ι' h' H/\ER T ι' H en' σ/\PostS T ι' H E (gB w xs t s1 (xs.drop (i+1)) en' h') D,
    λσ' H' w' => ⟨xs.length-(i+1),by omega,rfl,hl,w'⟩,λx H' y=>?_⟩
   obtain ⟨g2,S2,r2⟩:=yld x H' y
   split at q'
   ·rename_i e1 he1
    refine hg2 S2 (er'.mono g2) r2 he1 λσ' er2=>⟨ι',h',e1,S2,er2,?_⟩
    have q2:=PostS.shift q' g2
    cases e2:s1 e1 h' with
    | nx e3 h3=>rw [e2] at q2;exact λι3 H3 σ3 g3 S3 er3=>⟨ι3,h3,e3,g'.trans (g2.trans g3),S3,er3,q2.shift g3⟩
    | ct e3 h3=>rw [e2] at q2;exact λι3 H3 σ3 g3 S3 er3=>⟨ι3,h3,e3,g'.trans (g2.trans g3),S3,er3,q2.shift g3⟩
    | bk e3 h3=>rw [e2] at q2;exact q2
    | rt v h3=>rw [e2] at q2;exact q2
    | ex c e3 h3=>rw [e2] at q2;exact q2
    | bad=>rw [e2] at q2;exact q2
   ·exact (show False from q').elim
  ·exact (show False from q').elim
 ·have ei:i=xs.length:=by omega
  subst ei
  rw [List.drop_length] at q'
  unfold gB at q'
  split at q'
  ·rename_i hlive
   exact .inl ⟨IR.stop _ ι' h' H g'.ext S' hlive (Nat.le_refl _),q' ι' H σ S'.refl S' er'⟩
  ·exact (show False from q').elim
end
end Sm
namespace Sm
open PySem PySem.Spec L2
section
variable {T:Tb} {ι:Ix} {h:AH} {H:Hp}
end
section
variable {T:Tb} {E:St->XK} {X:Cx} {pos apos:Pos} {a b c:Expr} {sa sb sc:SE}
end
section
variable {T:Tb} {E:St->XK} {X:Cx} {pos:Pos} {a:Expr} {sa:SE} {sts:List Stmt} {s1:SS}
end
def iY:List AV->Option (List Int)
 | []=>some []
 | .int i::r=>(iY r).map (i :: ·)
 | _::_=>none
theorem rB:∀ {xs:List AV} {ns:List Int},iY xs=some ns->xs=ns.map AV.int
 | [],_,e=>by cases e;rfl
 | .int i::r,_,e=>by
  obtain ⟨m,e1,rfl⟩:=Option.map_eq_some_iff.mp (show (iY r).map (i :: ·)=_ from e)
  rw [rB e1];rfl
 | .non::_,_,e=>by cases e
 | .bl _::_,_,e=>by cases e
 | .str _::_,_,e=>by cases e
 | .tup _::_,_,e=>by cases e
 | .fl _::_,_,e=>by cases e
 | .ref _::_,_,e=>by cases e
 | .exc _::_,_,e=>by cases e
section
variable {T:Tb} {E:St->XK} {X:Cx} {pos p apos cpos kp:Pos} {a b:Expr} {sa sb:SE}
theorem wU {ι:Ix} {H:Hp}:∀ {ns:List Int} {us:List V},RVs T ι H (ns.map AV.int) us->us=ns.map V.int
 | [],_,.nil=>rfl
 | _::_,_,.cons r rs=>by rw [bB r,wU rs];rfl
end
end Sm
namespace L2
open PySem PySem.Spec PyProof.Rows
section
variable {P:Program} {w:World} {A:Around} {E:Value->Shared->Prop} {s:Shared}
end
theorem wV {P:Program} {w:World}:∀ {kvs:List (aF×V)} {vs:List (aF×Value)} {ns:List Int} {us:List Value},KV kvs vs->kvs.map (·.1)=ns.map Sum.inl->us.length=vs.length->(∀ (i:Nat) (v:Value),us[i]? = some v->∃ k x,vs[i]? = some (k,x)/\(fB P w).is k v=true)->IntsAre us ns
 | [],[],[],[],_,_,_,_=>.nil
 | [],[],_::_,_,_,e,_,_=>by simp at e
 | [],[],[],_::_,_,_,l,_=>by simp at l
 | _::_,_::_,[],_,_,e,_,_=>by simp at e
 | _::_,_::_,_::_,[],_,_,l,_=>by simp at l
 | p::kvs,q::vs,n::ns,u::us,.cons r rs,e,l,f=>by
  simp only [List.map_cons,List.cons.injEq] at e
  obtain ⟨k,x,e1,e2⟩:=f 0 u rfl
  have e3:q=(k,x):=by simpa using e1
  have ek:k=Sum.inl n:=by rw [<- e.1,r.1,e3]
  rw [ek] at e2
  rw [zc] at e2
  rcases gK (k:=Sum.inl n) (v:=u) e2 with ⟨i,t,a1,a2⟩ | ⟨y,t,a1,a2⟩
  ·injection a1 with a1
   subst a1 a2
   exact .cons _ _ (wV rs e.2 (by simpa using l) λi v h=>by simpa using f (i+1) v (by simpa using h))
  ·cases a1
end L2
namespace Sm
open PySem PySem.Spec L2
def fM (x:Int):List Int->List Int
 | []=>[x]
 | y::r=>if x<=y then x::y::r else y::fM x r
def iz:List Int->List Int
 | []=>[]
 | x::r=>fM x (iz r)
theorem rC (x:Int):∀ l,(fM x l).Perm (x::l)
 | []=>.refl _
 | y::r=>by
  unfold fM
  split
  ·exact .refl _
  ·exact ((rC x r).cons y).trans (List.Perm.swap x y r)
theorem lI:∀ l,(iz l).Perm l
 | []=>.refl _
 | x::r=>(rC x (iz r)).trans ((lI r).cons x)
theorem wW (x:Int):∀ {l:List Int},l.Pairwise (· <= ·)->(fM x l).Pairwise (· <= ·)
 | [],_=>List.pairwise_singleton _ _
 | y::r,h=>by
  obtain ⟨h1,h2⟩:=List.pairwise_cons.mp h
  unfold fM
  split
  ·rename_i hx
   refine List.pairwise_cons.mpr ⟨λz hz=>?_,h⟩
   rcases List.mem_cons.mp hz with rfl | hz
   ·exact hx
   ·exact Int.le_trans hx (h1 z hz)
  ·rename_i hx
   refine List.pairwise_cons.mpr ⟨λz hz=>?_,wW x h2⟩
   rcases List.mem_cons.mp ((rC x r).mem_iff.mp hz) with rfl | hz
   ·omega
   ·exact h1 z hz
theorem nN:∀ l,(iz l).Pairwise (· <= ·)
 | []=>.nil
 | x::r=>wW x (nN r)
theorem nO:∀ {l m:List Int},l.Perm m->l.Pairwise (· <= ·)->m.Pairwise (· <= ·)->l=m
 | [],m,p,_,_=>(List.nil_perm.mp p).symm
 | x::l,[],p,_,_=>by simp at p
 | x::l,y::m,p,h,g=>by
  obtain ⟨h1,h2⟩:=List.pairwise_cons.mp h
  obtain ⟨g1,g2⟩:=List.pairwise_cons.mp g
  have e:x=y:=by
   have a:x∈y::m:=p.mem_iff.mp (List.mem_cons_self ..)
   have b:y∈x::l:=p.mem_iff.mpr (List.mem_cons_self ..)
   rcases List.mem_cons.mp a with a | a
   ·exact a
   ·rcases List.mem_cons.mp b with b | b
    ·exact b.symm
    ·exact Int.le_antisymm (h1 y b) (g1 x a)
  subst e
  rw [nO (List.Perm.cons_inv p) h2 g2]
def lJ (v:AV) (h:AH):Option (List Int):=match v with
 | .ref n=>(match h[n]? with
  | some (.dct false kvs)=>iY (kvs.map (·.1))
  | _=>none)
 | _=>none
section
variable {T:Tb} {E:St->XK} {X:Cx} {pos p p' pos':Pos} {a b c:Expr} {sa sb sc:SE}
theorem wX {ι:Ix} {H:Hp}:∀ {l:List (AV×AV)} {m:List (aF×V)} {is:List Int},Paired (λ(p:AV×AV) (q:aF×V)=>p.1=kA q.1/\RV T ι H p.2 q.2) l m->l.map (·.1)=is.map AV.int->m.map (·.1)=is.map Sum.inl
 | _,_,[],.nil,_=>rfl
 | _,_,_::_,.nil,e=>by simp at e
 | _,_,[],.cons _ _,e=>by simp at e
 | _,_,i::is,.cons (a:=p) (b:=q) hh t,e=>by
  rw [List.map_cons,List.map_cons] at e ⊢
  injection e with e1 e2
  rw [wX t e2]
  have e3:kA q.1 = .int i:=by rw [<- hh.1];exact e1
  obtain ⟨k,v⟩:=q
  cases k with
  | inl j=>injection e3 with e3;subst e3;rfl
  | inr x=>cases e3
theorem Er {ι:Ix} {h:AH} {H:Hp} {v:AV} {u:V} {ns:List Int} (S:Sim T ι h H) (r:RV T ι H v u) (e:lJ v h=some ns):∃ ad kus,u = .ref ad/\H ad=some (.dK kus)/\kus.map (·.1)=ns.map Sum.inl:=by
 unfold lJ at e
 split at e
 ·rename_i n
  split at e
  ·rename_i kvs hn
   cases r with
   | @ref _ ad hr =>
    obtain ⟨ob,e1,kus,rfl,pr⟩:=S.obj n _ ad hn hr
    refine ⟨ad,kus,rfl,e1,?_⟩
    have ee:=rB e
    exact wX pr ee
  ·cases e
 ·cases e
theorem rD {ι:Ix} {H:Hp}:∀ (ns:List Int),RVs T ι H (ns.map AV.int) (ns.map V.int)
 | []=>.nil
 | n::ns=>.cons (.int n) (rD ns)
end
end Sm
namespace L2
open PySem PySem.Spec PyProof.Rows
def Rise (l:List Nat):Prop:=l.Pairwise (· < ·)
theorem Rise.at_ {xs:Array Nat} (h:Rise xs.toList) {i k a b:Nat} (hik:i<k) (ea:xs[i]? = some a) (eb:xs[k]? = some b):a<b:=by
 rw [<- Array.getElem?_toList] at ea eb
 obtain ⟨la,ha⟩:=List.getElem?_eq_some_iff.mp ea
 obtain ⟨lb,hb⟩:=List.getElem?_eq_some_iff.mp eb
 have:=List.pairwise_iff_getElem.mp h i k la lb hik
 rw [ha,hb] at this
 exact this
theorem rE {xs:Array Nat} {j:Nat} (h:Rise xs.toList):∀ (fuel lo hi:Nat),lo<=hi->hi<=xs.size->hi-lo<=fuel->(∀ k a,k<lo->xs[k]? = some a->a<j)->(∀ k a,hi<=k->xs[k]? = some a->j<=a) ->
  SetTable.below.go xs j fuel lo hi<=xs.size/\(∀ k a,k<SetTable.below.go xs j fuel lo hi->xs[k]? = some a->a<j)/\∀ k a,SetTable.below.go xs j fuel lo hi<=k->xs[k]? = some a->j<=a
 | 0,lo,hi,h1,h2,h3,h4,h5=>by
  have:lo=hi:=by omega
  subst this
  exact ⟨h2,h4,h5⟩
 | fuel+1,lo,hi,h1,h2,h3,h4,h5=>by
  unfold SetTable.below.go
  by_cases hl:lo<hi
  ·rw [if_pos hl]
   dsimp only
   have hm:(lo+hi) / 2<xs.size:=by omega
   have em:xs[(lo+hi) / 2]? = some xs[(lo+hi) / 2]:=Array.getElem?_eq_getElem hm
   have eg:xs.getD ((lo+hi) / 2) j=xs[(lo+hi) / 2]:=by simp [Array.getD,hm]
   rw [eg]
   by_cases hq:xs[(lo+hi) / 2]<j
   ·rw [if_pos hq]
    refine rE h fuel _ _ (by omega) h2 (by omega) (λk a hk ek=>?_) h5
    by_cases z:k=(lo+hi) / 2
    ·subst z;rw [em] at ek;cases ek;exact hq
    ·exact Nat.lt_trans (h.at_ (by omega) ek em) hq
   ·rw [if_neg hq]
    refine rE h fuel _ _ (by omega) (by omega) (by omega) h4 (λk a hk ek=>?_)
    by_cases z:k=(lo+hi) / 2
    ·subst z;rw [em] at ek;cases ek;omega
    ·exact Nat.le_trans (Nat.le_of_not_lt hq) (Nat.le_of_lt (h.at_ (by omega) em ek))
  ·rw [if_neg hl]
   have:lo=hi:=by omega
   subst this
   exact ⟨h2,h4,h5⟩
theorem rF {xs:Array Nat} (h:Rise xs.toList) (j:Nat):SetTable.below xs j<=xs.size/\(∀ k a,k<SetTable.below xs j->xs[k]? = some a->a<j)/\∀ k a,SetTable.below xs j<=k->xs[k]? = some a->j<=a :=
 rE h _ _ _ (Nat.zero_le _) (Nat.le_refl _) (Nat.le_refl _) (λ_ _ z=>absurd z (Nat.not_lt_zero _)) (λk a hk e=>by
  rw [Array.getElem?_eq_none (by omega)] at e;cases e)
theorem Es {xs:Array Nat} (h:Rise xs.toList) {i a:Nat} (e:xs[i]? = some a):SetTable.below xs (a+1)=i+1:=by
 obtain ⟨h1,h2,h3⟩:=rF h (a+1)
 have hi:i<xs.size:=(Array.getElem?_eq_some_iff.mp e).1
 have l1 : ¬SetTable.below xs (a+1)<=i:=λz=>by have:=h3 i a z e;omega
 by_cases z:SetTable.below xs (a+1)<=i+1
 ·omega
 ·have hb:i+1<xs.size:=by omega
  have eb:xs[i+1]? = some xs[i+1]:=Array.getElem?_eq_getElem hb
  have:=h2 (i+1) _ (by omega) eb
  have:=h.at_ (Nat.lt_succ_self i) e eb
  omega
theorem Et {xs:Array Nat} (h:Rise xs.toList):SetTable.below xs 0=0:=by
 obtain ⟨h1,h2,h3⟩:=rF h 0
 by_cases z:SetTable.below xs 0=0
 ·exact z
 ·have hb:0<xs.size:=by omega
  have:=h2 0 _ (by omega) (Array.getElem?_eq_getElem hb)
  omega
theorem Eu {xs:Array Nat} (h:Rise xs.toList) {j:Nat} (hj:xs[SetTable.below xs j]? ≠ some j):Rise (SetTable.insertAt xs (SetTable.below xs j) j).toList:=by
 obtain ⟨h1,h2,h3⟩:=rF h j
 generalize SetTable.below xs j=p at *
 rw [SetTable.toList_insertAt]
 have lt:∀ b∈xs.toList.drop p,j<b:=λb hb=>by
  obtain ⟨k,hk,e⟩:=List.getElem_of_mem hb
  rw [List.getElem_drop] at e
  rw [List.length_drop] at hk
  have ek:xs[p+k]? = some b:=by rw [<- Array.getElem?_toList,List.getElem?_eq_getElem (by omega),e]
  rcases Nat.lt_or_eq_of_le (h3 _ _ (by omega) ek) with z | z
  ·exact z
  ·subst z
   by_cases k0:k=0
   ·subst k0;exact absurd ek hj
   ·have hp:p<xs.size:=by have:=(Array.getElem?_eq_some_iff.mp ek).1;omega
    have ep:=Array.getElem?_eq_getElem hp
    have a1:=h3 p _ (Nat.le_refl _) ep
    have a2:=h.at_ (by omega) ep ek
    omega
 have gt:∀ a∈xs.toList.take p,a<j:=λa ha=>by
  obtain ⟨k,hk,e⟩:=List.getElem_of_mem ha
  rw [List.length_take] at hk
  rw [List.getElem_take] at e
  exact h2 k a (by omega) (by rw [<- Array.getElem?_toList,List.getElem?_eq_getElem (by omega),e])
 refine List.pairwise_append.mpr ⟨List.Pairwise.sublist (List.take_sublist _ _) h,List.pairwise_cons.mpr ⟨lt,List.Pairwise.sublist (List.drop_sublist _ _) h⟩,λa ha b hb=>?_⟩
 rcases List.mem_cons.mp hb with z | z
 ·rw [z];exact gt a ha
 ·exact Nat.lt_trans (gt a ha) (lt b z)
structure TbOk (t:SetTable):Prop where
 rise:Rise t.place.toList
 clean:t.dummies = #[]
theorem wY (j:Nat):SetTable.has #[] j=false:=by simp [SetTable.has]
theorem wZ {t:SetTable} (ok:TbOk t) {f:Nat->Int} {h:Int}:∀ (fuel:Nat) (p:SetTable.Probe),p.dummy=none->∀ m,SetTable.probe.go t f h fuel p=some m->match m with | .empty j d=>d=none/\t.place[SetTable.below t.place j]? ≠ some j | _=>True
 | 0,p,_,m,e=>by cases e
 | fuel+1,p,hd,m,e=>by
  unfold SetTable.probe.go at e
  cases es:t.slot p.j with
  | empty =>
   rw [es] at e
   cases e
   refine ⟨hd,λz=>?_⟩
   unfold SetTable.slot at es
   dsimp only at es
   rw [if_pos (by rw [z];simp)] at es
   cases es
  | dummy =>
   exfalso
   unfold SetTable.slot at es
   dsimp only at es
   rw [ok.clean,wY] at es
   split at es
   ·cases es
   ·simp at es
  | live i =>
   rw [es] at e
   dsimp only at e
   split at e
   ·cases e;trivial
   ·exact wZ ok fuel _ (by unfold SetTable.advance;split<;>exact hd) m e
theorem TbOk.standIn {t:SetTable} {n:Nat}:TbOk (t.standIn n):=⟨by
 unfold Rise SetTable.standIn
 dsimp only
 rw [Array.toList_range]
 exact List.pairwise_lt_range,rfl⟩
theorem TbOk.orStandIn {t:SetTable} (ok:TbOk t) {n:Nat}:TbOk (t.orStandIn n):=by
 unfold SetTable.orStandIn
 split
 ·exact ok
 ·exact TbOk.standIn
theorem TbOk.fresh {f m:Nat} {l:Bool}:TbOk (.fresh f m l):=⟨List.Pairwise.nil,rfl⟩
theorem Ew {t:SetTable} {n:Nat}:(t.orStandIn n).led=t.led:=by
 unfold SetTable.orStandIn
 split<;>rfl
theorem TbOk.put {t:SetTable} (ok:TbOk t) {j:Nat} (hj:t.place[SetTable.below t.place j]? ≠ some j):TbOk (t.put j).1:=by
 refine ⟨Eu ok.rise hj,?_⟩
 unfold SetTable.put
 dsimp only
 rw [ok.clean,wY]
 rfl
theorem Ey {t:SetTable} (ok:TbOk t) {h:Int} {j:Nat} {b:Bool} (e:t.freeSlot h=some (j,b)):t.place[SetTable.below t.place j]? ≠ some j:=by
 unfold SetTable.freeSlot at e
 cases q:t.probe (λ_=>h+1) h (t.probeStart h) with
 | none=>rw [q] at e;cases e
 | some m =>
  have f:=wZ ok _ _ rfl m q
  rw [q] at e
  cases m with
  | candidate _ _ _=>cases e
  | empty i d =>
   obtain ⟨rfl,f⟩:=f
   simp only [Option.getD_none,Option.isSome_none,Option.some.injEq,Prod.mk.injEq] at e
   rw [<- e.1]
   exact f
theorem Ez {t:SetTable} (ok:TbOk t) {es:Array (Int×Value)} {h:Int} {x:Value}:TbOk (layNew t es h x).2.1/\(layNew t es h x).2.1.led=t.led:=by
 unfold layNew
 split
 ·rename_i j b e
  exact ⟨(ok.put (Ey ok e)).orStandIn,Ew⟩
 ·exact ⟨TbOk.standIn,rfl⟩
theorem EA {mask finger moves:Nat} {led plain:Bool} {hs:Array Int} {t:SetTable} {o:Array Nat} (e:SetTable.laid mask finger moves led plain hs=some (t,o)):TbOk t/\t.led=led:=by
 unfold SetTable.laid at e
 cases q:SetTable.layClean mask hs with
 | none=>rw [q] at e;cases e
 | some ow =>
  rw [q] at e
  simp only [bind,Option.bind,pure,Option.some.injEq,Prod.mk.injEq] at e
  rw [<- e.1]
  refine ⟨⟨?_,rfl⟩,rfl⟩
  show Rise (List.toArray _).toList
  unfold Rise
  rw [List.map_filterMap]
  refine List.Pairwise.filterMap _ (λa b hab x hx y hy=>?_) (List.pairwise_lt_range (n:=mask+1))
  have:∀ {a x:Nat},(Option.map (λx=>x.1) ((ow.getD a none).map λx=>(a,x)))=some x->a=x:=λ{a x} e=>by
   cases z:ow.getD a none with
   | none=>rw [z] at e;cases e
   | some v=>rw [z] at e;cases e;rfl
  rw [<- this hx,<- this hy]
  exact hab
theorem EB {t:SetTable} {es:Array (Int×Value)} {n:Nat}:TbOk (relayAll t es n).2.1/\(relayAll t es n).2.1.led=t.led:=by
 unfold relayAll
 split
 ·rename_i t' o e
  dsimp only
  split
  ·exact EA e
  ·exact ⟨TbOk.standIn,rfl⟩
 ·exact ⟨TbOk.standIn,rfl⟩
end L2
namespace L2
open PySem PySem.Spec PyProof.Rows
abbrev cD (w:World):Bool:=w.params.followText "set-order"
def EnI (e:Int×Value):Prop:=∃ k t,e=(hashInt k,.int k t)
abbrev bc (e:Int×Value):Int:=numOf e.2
def SetI (w:World) (h:Heap) (a:Addr) (ns:List Int):Prop:=∃ o es ep t,h.get? a=some o/\o.ExactSet/\o.data = .set es ep t/\(∀ e∈es.toList,EnI e)/\(es.toList.map bc).Perm ns/\es.size<scanBound/\t.fits es.size=true/\TbOk t/\t.led = !cD w
section
variable {P:Program} {w:World} {A:Around} {E:Value->Shared->Prop} {s:Shared} {a:Addr} {ns:List Int}
theorem EnI.elems {l:List (Int×Value)} (h:∀ e∈l,EnI e):ElemsOf (intKind P w) l:=λe he=>by
 obtain ⟨k,t,rfl⟩:=h e he
 exact ⟨⟨k,intKind_is _ _ _ _,rfl⟩,rfl⟩
theorem EnI.is_ {e:Int×Value} (h:EnI e) {k:Int} (q:(intKind P w).is k e.2=true):bc e=k:=by
 obtain ⟨k',t,rfl⟩:=h
 exact (intKind P w).inj _ _ _ (intKind_is _ _ _ _) q
theorem EnI.key {e:Int×Value} (h:EnI e):(intKind P w).is (bc e) e.2=true:=by
 obtain ⟨k',t,rfl⟩:=h
 exact intKind_is _ _ _ _
theorem SetI.keep {h h':Heap} (S:SetI w h a ns) (k:∀ o,h.get? a=some o->h'.get? a=some o):SetI w h' a ns:=by
 obtain ⟨o,es,ep,t,ho,r⟩:=S
 exact ⟨o,es,ep,t,k o ho,r⟩
theorem rG {h:Heap} {o:Obj} {es es':Array (Int×Value)} {ep:Nat} {t t':SetTable} (ho:h.get? a=some o) (hex:o.ExactSet) (hd:o.data = .set es ep t) (he:∀ e∈es'.toList,EnI e) (hp:(es'.toList.map bc).Perm ns) (hb:es'.size<scanBound) (hf:t'.fits es'.size=true) (ok:TbOk t') (hl:t'.led = !cD w) :
  (h.update a (Obj.putSet es' t')).get? a=some { o with data:=.set es' (ep+1) t' }/\SetI w (h.update a (Obj.putSet es' t')) a ns:=by
 have hg:(h.update a (Obj.putSet es' t')).get? a=some { o with data:=.set es' (ep+1) t' }:=by
  have:=Heap.get?_update_self (Obj.putSet es' t') ho (by rw [putSet_of es' t' hd];rfl)
  rw [putSet_of es' t' hd] at this;exact this
 exact ⟨hg,_,es',ep+1,t',hg,hex,rfl,he,hp,hb,hf,ok,hl⟩
theorem w8 {g:Bool->Sem Unit} (hg:∀ (b:Bool) (s₁:Shared) (Q':Unit->Shared->Prop),Q' () s₁->wpAny (model P w) A (g b) Q' E s₁)
  {o:Obj} {es:Array (Int×Value)} {ep:Nat} {t:SetTable} (ho:s.heap.get? a=some o) (hex:o.ExactSet) (hd:o.data = .set es ep t)
  {es1:Array (Int×Value)} {t2:SetTable} (he:∀ e∈es1.toList,EnI e) (hp:(es1.toList.map bc).Perm ns) (hb1:es1.size<scanBound) (hf2:t2.fits es1.size=true) (ok:TbOk t2) (hl:t2.led = !cD w) {wasDummy:Bool} {R:Option Bool->Shared->Prop}
  (h:∀ h',Heap.SameBut a s.heap h'->SetI w h' a ns->R (some true) { s with heap:=h' }) :
  wpAny (model P w) A (do
    storeSet a es1 t2
    if (!wasDummy && t2.tooFull)=true then do
      g (relayAll t2 es1 (SetTable.grown es1.size)).2.2
      storeSet a (relayAll t2 es1 (SetTable.grown es1.size)).1 (relayAll t2 es1 (SetTable.grown es1.size)).2.1
      pure (some true)
     else pure (some true)) R E s:=by
 refine wpAny_bind (wpAny_storeSet_of ho hd ?_ (fits_of_scanBound hb1))
 obtain ⟨ho1,hS1⟩:=rG (w:=w) ho hex hd he hp hb1 hf2 ok hl
 have hsb1:=Heap.SameBut.update s.heap a (Obj.putSet es1 t2)
 split
 ·have hpr:=relayAll_perm t2 es1 (SetTable.grown es1.size)
  have hfr:=relayAll_fits t2 es1 (SetTable.grown es1.size)
  obtain ⟨okr,lr⟩:=EB (t:=t2) (es:=es1) (n:=SetTable.grown es1.size)
  generalize relayAll t2 es1 (SetTable.grown es1.size)=Rl at hpr hfr okr lr ⊢
  obtain ⟨es2,t3,gave2⟩:=Rl
  dsimp only at hpr hfr okr lr ⊢
  have hsz:es2.size=es1.size:=by rw [<- Array.length_toList,hpr.length_eq,Array.length_toList]
  have hb2:es2.size<scanBound:=by rw [hsz];exact hb1
  refine wpAny_bind (hg _ _ _ ?_)
  refine wpAny_bind (wpAny_storeSet_of ho1 rfl ?_ (fits_of_scanBound hb2))
  obtain ⟨_,hS2⟩:=rG (w:=w) ho1 hex rfl (λe z=>he e (hpr.mem_iff.mp z)) ((hpr.map bc).trans hp) hb2 hfr okr (lr.trans hl)
  exact wpAny_pure (h _ (hsb1.trans (Heap.SameBut.update _ a _)) hS2)
 ·exact wpAny_pure (h _ hsb1 hS1)
theorem xf {k:Int} {x:Value} {Q:Bool->Shared->Prop} (hx:∃ t,x = .int k t) (hS:SetI w s.heap a ns) (hroom:ns.length+1<scanBound)
  (h:∀ h',Heap.SameBut a s.heap h'->SetI w h' a (if k∈ns then ns else ns++[k])->Q (!decide (k∈ns)) { s with heap:=h' }) :
  wpAny (model P w) A (setAddHashed a x (hashInt k)) Q E s:=by
 obtain ⟨o,es,ep,t,ho,hex,hd,he,hp,hb,hf,ok,hl⟩:=id hS
 have hel:=EnI.elems (P:=P) (w:=w) he
 obtain ⟨tk,rfl⟩:=hx
 have hkey:(intKind P w).is k (.int k tk)=true:=intKind_is _ _ _ _
 have hsc:(Value.int k tk).scannable=true:=rfl
 have hn:es.size=ns.length:=by rw [<- hp.length_eq,List.length_map,Array.length_toList]
 have hm:k∈ns ↔ ∃ e∈es.toList,(intKind P w).is k e.2=true:=by
  rw [<- hp.mem_iff,List.mem_map]
  exact ⟨λ⟨e,z,q⟩=>⟨e,z,q▸(he e z).key⟩,λ⟨e,z,q⟩=>⟨e,z,(he e z).is_ q⟩⟩
 unfold setAddHashed setAddHashedIn
 refine wpAny_holding (wpAny_bind (wpAny_setState_of ho hd hf ?_))
 dsimp only
 rw [byScan_of hsc hb hel]
 simp only [↓reduceIte]
 unfold setAddByScan
 refine wpAny_bind ?_
 refine wpAny_bind (wpAny_rule ?_)
 refine wpAny_bind (wpAny_setScan_of (knd:=intKind P w) (k:=k) hkey ho hd hf hel ?_)
 cases hr:List.findIdx? (λe=>(intKind P w).is k e.2) es.toList with
 | some j =>
  dsimp only
  obtain ⟨hj,hpj,_⟩:=List.findIdx?_eq_some_iff_getElem.mp hr
  have hk:k∈ns:=hm.mpr ⟨es.toList[j],List.getElem_mem hj,hpj⟩
  refine wpAny_pure (wpAny_pure ?_)
  have:=h s.heap (Heap.SameBut.refl a s.heap) (by rw [if_pos hk];exact hS)
  rw [decide_eq_true hk] at this
  exact this
 | none =>
  dsimp only
  have hk : ¬k∈ns:=λz=>by
   obtain ⟨e,z,q⟩:=hm.mp z
   have:=List.findIdx?_eq_none_iff.mp hr e z
   rw [q] at this
   cases this
  rw [if_neg hk,decide_eq_false hk] at h
  have hgw:∀ (b:Bool) {s₁:Shared} {Q':Unit->Shared->Prop},Q' () s₁->wpAny (model P w) A (match b with | true=>rule "set.scan.the-table-gave-way" | false=>pure ()) Q' E s₁ :=
   λb s₁ Q' hq=>by cases b<;>first | exact wpAny_pure hq | exact wpAny_rule hq
  have hperm:=layNew_perm t es (hashInt k) (.int k tk)
  have hfits:=layNew_fits t es (hashInt k) (.int k tk)
  obtain ⟨ok1,l1⟩:=Ez ok (es:=es) (h:=hashInt k) (x:=.int k tk)
  show wpAny (model P w) A _ _ E s
  change wpAny (model P w) A (match layNew t es (hashInt k) (.int k tk) with | (es,t,wasDummy,gave)=>_) _ E s
  generalize layNew t es (hashInt k) (.int k tk)=L at hperm hfits ok1 l1 ⊢
  obtain ⟨es1,t1,wasDummy,gave⟩:=L
  dsimp only at hperm hfits ok1 l1 ⊢
  rw [Array.toList_push] at hperm
  have he1:∀ e∈es1.toList,EnI e:=λe z=>by
   rcases List.mem_append.mp (hperm.mem_iff.mp z) with z | z
   ·exact he e z
   ·exact ⟨k,tk,List.mem_singleton.mp z⟩
  have hp1:(es1.toList.map bc).Perm (ns++[k]):=by
   refine (hperm.map bc).trans ?_
   rw [List.map_append]
   exact hp.append (.refl _)
  have hb1':es1.size<scanBound:=by rw [<- Array.length_toList,hperm.length_eq,List.length_append,Array.length_toList,hn];exact hroom
  refine wpAny_bind (hgw _ ?_)
  split
  ·refine wpAny_bind ?_
   rw [hashByValue_scannable 8 hsc]
   refine wpAny_pure ?_
   refine w8 ?_ ho hex hd he1 hp1 hb1' ?_ ?_ ?_ ?_
   ·intro b s₁ Q' hq;cases b<;>first | exact wpAny_pure hq | exact wpAny_rule hq
   ·exact hfits
   ·exact ok1
   ·exact l1.trans hl
   ·intro h' hsb hS';dsimp only;exact wpAny_pure (h h' hsb hS')
  ·refine wpAny_bind (wpAny_pure ?_)
   simp only [↓reduceIte]
   refine w8 ?_ ho hex hd he1 hp1 hb1' hfits ok1 (l1.trans hl) ?_
   ·intro b s₁ Q' hq;cases b<;>first | exact wpAny_pure hq | exact wpAny_rule hq
   ·intro h' hsb hS';dsimp only;exact wpAny_pure (h h' hsb hS')
theorem EC {Q:Value->Shared->Prop} (h:∀ o,SetI w (s.heap.push o) s.heap.objs.size []->Q (.ref s.heap.objs.size) { s with heap:=s.heap.push o }):wpAny (model P w) A (newSet (.type "set")) Q E s:=by
 unfold newSet setsByText
 refine wpAny_bind (wpAny_bind (wpAny_askSetting (wpAny_pure ?_)))
 dsimp only
 simp only [newObj]
 exact wpAny_bind (wpAny_alloc (wpAny_pure (h _ ⟨_,#[],0,_,Heap.get?_push_size _ rfl,⟨rfl,rfl,rfl⟩,rfl,λe he=>by simp at he,.refl _,by decide,by rfl,.fresh,rfl⟩)))
end
end L2
namespace L2
open PySem PySem.Spec PyProof.Rows
abbrev cY (w:World):Obj:={ cls:=.type "set",dict:=none,data:=.set #[] 0 (.fresh 0 0 (!cD w)) }
section
variable {P:Program} {w:World} {A:Around} {E:Value->Shared->Prop} {s:Shared}
theorem ED {h:Heap} {a:Addr} (e:h.get? a=some (cY w)):SetI w h a []:=⟨_,#[],0,_,e,⟨rfl,rfl,rfl⟩,rfl,λe he=>by simp at he,.refl _,by decide,by rfl,.fresh,rfl⟩
theorem EE {R:Result->Shared->Prop} {I:Addr} {fp wr:List Addr} {G:Array GenState->Array GenState->Prop} {n:Nat} {Pr:Nat->Value->Prop} {St:Nat->Shared->Prop} (W:WalksS P w A.in1 I fp wr G n Pr St) (S:Addr) (hSf:S∉fp) {ns:List Int} (hn:ns.length=n) (nd:ns.Nodup)
  (hval:∀ i v,Pr i v->∃ k t,ns[i]? = some k/\v = .int k t) (hb:n+1<scanBound):∀ (k i:Nat) (s:Shared),n-i=k->i<=n->St i s->SetI w s.heap S (ns.take i) ->
   (∀ s',Moved (S::wr) G s s'->SetI w s'.heap S ns->R (.ok (.ret .none)) s')->codeAny (model P w) A (.builtin "set.update.loop" ⟨[.ref S,.ref I],[]⟩) R s:=by
 have hSw:S∉wr:=λh=>hSf (W.sub _ h)
 have hsub:∀ b∈wr,b∈S::wr:=λb hb=>List.mem_cons_of_mem _ hb
 intro k
 induction k with
 | zero =>
  intro i s hk hi hst hS hR
  have hin:i=n:=by omega
  subst hin
  refine codeAny_builtin F.entry_set_update_loop ?_
  rw [Around.under_plainId F.plain_set_update_loop _]
  show wpAny _ A.in1 (pyNext (.ref I) >>= _) _ _ s
  refine wpAny_bind (W.done s _ _ hst λs' hm=>?_)
  show wpAny _ A.in1 (ret Value.none) _ _ s'
  refine wpAny_pure (hR s' (hm.mono hsub) ?_)
  rw [List.take_of_length_le (by omega)] at hS
  exact hS.keep λo ho=>hm.heap S _ hSw ho
 | succ k ih =>
  intro i s hk hi hst hS hR
  have hlt:i<n:=by omega
  refine codeAny_builtin F.entry_set_update_loop ?_
  rw [Around.under_plainId F.plain_set_update_loop _]
  show wpAny _ A.in1 (pyNext (.ref I) >>= _) _ _ s
  refine wpAny_bind (W.item i s _ _ hlt hst λv s' hP hst' hm=>?_)
  obtain ⟨x,t,hx,rfl⟩:=hval i v hP
  have hS':SetI w s'.heap S (ns.take i):=hS.keep λo ho=>hm.heap S _ hSw ho
  show wpAny _ A.in1 (holding [Value.int x t] (setAdd S (.int x t)) >>= _) _ _ s'
  refine wpAny_bind (wpAny_holding ?_)
  unfold setAdd
  refine wpAny_holding ?_
  refine wpAny_bind ((intKind P w).pyHash (k:=x) (intKind_is _ _ _ _) ?_)
  have hroom:(ns.take i).length+1<scanBound:=by rw [List.length_take];omega
  have hnm : ¬x∈ns.take i:=λz=>by
   obtain ⟨j,hj,e⟩:=List.getElem_of_mem z
   rw [List.length_take] at hj
   rw [List.getElem_take] at e
   obtain ⟨hi',e'⟩:=List.getElem?_eq_some_iff.mp hx
   have:=(List.getElem_inj nd).mp (e.trans e'.symm)
   omega
  refine xf (s:={ s' with toks:=s'.toks+1 }) ⟨t,rfl⟩ hS' hroom λh' hsb hS2=>?_
  rw [if_neg hnm] at hS2
  have hSi:SetI w h' S (ns.take (i+1)):=by rw [List.take_add_one,hx];exact hS2
  refine wpAny_pure ⟨plainId_quiet F.plain_set_update_loop _,ih (i+1) _ (by omega) hlt (W.frame _ s' _ _ hst' (Nat.le_succ _) λb hb o e=>?_) hSi λs'' hm'' hS'' => ?_⟩
  ·rw [hsb.2 b (λh:b=S=>hSf (by rw [<- h];exact hb))];exact e
  ·refine hR s'' (Moved.trans W.gtrans ((hm.mono hsub).then_heap (Nat.le_succ _) λb o hb e=>?_) hm'') hS''
   rw [hsb.2 b (λh:b=S=>hb (by rw [h];exact List.mem_cons_self))];exact e
theorem EF {Q₁:Value->Shared->Prop} (a:Value) (h:Q₁ (.ref s.heap.objs.size) { s with heap:=s.heap.push (cY w) }):codeAny (model P w) A (.call (.builtin "set.__new__") ⟨[.type "set",a],[]⟩) (wants Q₁ E) s:=by
 refine codeAny_of_tree ?_
 show wpAny _ A.in1 (do checkBuiltinCall "set.__new__" ⟨[.type "set",a],[]⟩;again (.builtin "set.__new__" ⟨[.type "set",a],[]⟩)) _ _ s
 refine wpAny_bind (wpAny_of_eq (F.newCall_set_1 a) (wpAny_pure ⟨plainId_quiet F.plain_set_new _,codeAny_builtin F.entry_set_new ?_⟩))
 rw [Around.under_plainId F.plain_set_new _]
 unfold Builtin.«set.__new__» Builtin.Frozenset.newClass
 have hsub:=sub_set_self
 obtain ⟨hp,g,d,tk,os⟩:=s
 dsimp only
 wp_walk
 refine wpAny_askSetting (wpAny_pure ?_)
 dsimp only
 simp only [newObj]
 refine wpAny_bind (wpAny_alloc (wpAny_pure ?_))
 exact wpAny_pure h
theorem nP {l:Addr} {items:Array Value} {ns:List Int} {Q:Value->Shared->Prop} (hh:A.handled=none) (hl:s.heap.IsList l items) (hi:IntsAre items.toList ns) (nd:ns.Nodup) (hb:items.size+1<scanBound)
  (h:∀ (h':Heap) (tk:Nat),SetI w h' s.heap.objs.size ns->(∀ b o,s.heap.get? b=some o->h'.get? b=some o)->Q (.ref s.heap.objs.size) { s with heap:=h',toks:=tk }):wpAny (model P w) A (call (.type "set") [.ref l]) Q E s:=by
 obtain ⟨c,tl,hmro⟩:=F.called_set.mro
 have hmade:=F.called_set.made
 have hsub:=F.called_set.sub
 refine wpAny_call (codeAny_of_tree ?_)
 show wpAny _ _ (callAny (.type "set") _) _ _ _
 refine wpAny_pure ⟨Code.quiet_builtin _ (by decide +kernel),codeAny_builtin F.entry_type_call ?_⟩
 rw [Around.under_plain (weight_type_call_type "set" [.ref l] []) rfl]
 have h1:=F.called_set.notType
 have h2:=F.called_set.canCreate
 have hct:=F.typeCall_set_1 (.ref l)
 repeat (any_goals (first | assumption | wp_step))
 refine codeAny_mono (EF (.ref l) (E:=E) (Q₁:=λobj s₁=>obj = .ref s.heap.objs.size/\s₁={ s with heap:=s.heap.push (cY w) }) ⟨rfl,rfl⟩) λr s₁ hr=>?_
 cases r with
 | error e=>exact hr
 | ok fl =>
  cases fl with
  | ret obj =>
   obtain ⟨rfl,rfl⟩:=hr
   have hS:(s.heap.push (cY w)).get? s.heap.objs.size=some (cY w):=Heap.get?_push_size _ rfl
   have hT:Shared.TypeIs { s with heap:=s.heap.push (cY w) } (.ref s.heap.objs.size) "set" := ⟨_,hS,rfl⟩
   have hli:=F.called_set.init.lookup
   have hbi:=F.called_set.init.bind (.ref s.heap.objs.size)
   repeat (any_goals (first | assumption | wp_step))
   refine codeAny_mono (codeAny_call_builtin (R:=wants (λr s₂=>r = .none/\∃ h' tk,s₂={ s with heap:=h',toks:=tk }/\SetI w h' s.heap.objs.size ns/\(∀ b o,s.heap.get? b=some o->h'.get? b=some o)) E) F.called_set.init.plain F.entry_set_init (check_set_init_1 hT ?_)) λr₂ s₂ hr₂=>?_
   ·obtain ⟨ol,hol,hcl,nl,hdl⟩:=hl
    obtain ⟨ocls,odict,odata,oslots⟩:=ol
    simp only at hcl hdl
    subst hcl;subst hdl
    have hol':(s.heap.push (cY w)).get? l=some { cls:=.type "list",dict:=odict,data:=.seq items nl,slots:=oslots }:=Heap.get?_push_of_some _ hol
    have hsls:=F.sub_list_set
    have hslf:=F.sub_list_frozenset
    have hne:(Value.type "list" == Value.type "dict")=false:=by decide
    have hl1:(s.heap.push (cY w)).IsList l items:=⟨_,hol',rfl,nl,rfl⟩
    unfold Builtin.«set.__init__» noKeywords Builtin.Frozenset.updateFrom
    generalize hPI:pyIter=PI
    wp_walk
    subst hPI
    refine wpAny_pyIter_list hl1 ?_
    refine wpAny_bind (wpAny_runValue ?_)
    have hlS:l<s.heap.objs.size:=Heap.lt_size hol
    have hh3:A.in1.in1.in1.handled=none:=by simp [hh]
    have hneI:l≠(s.heap.push (cY w)).objs.size:=by
     rw [Heap.size_push];exact Nat.ne_of_lt (Nat.lt_succ_of_lt hlS)
    have hSf:s.heap.objs.size∉[(s.heap.push (cY w)).objs.size,l]:=by
     rw [Heap.size_push];simp only [List.mem_cons,List.mem_singleton,List.not_mem_nil,or_false,not_or]
     exact ⟨Nat.ne_of_lt (Nat.lt_succ_self _),Nat.ne_of_gt hlS⟩
    have ln:ns.length=items.size:=by rw [<- IntsAre.length hi,Array.length_toList]
    have hval:∀ (i:Nat) (v:Value),items[i]? = some v->∃ k t,ns[i]? = some k/\v = .int k t:=λi v hv=>by
     obtain ⟨t,e⟩:=IntsAre.int_at hi i v (by rw [Array.getElem?_toList];exact hv)
     have hi':i<ns.length:=by rw [ln];exact (Array.getElem?_eq_some_iff.mp hv).1
     exact ⟨ns[i],t,List.getElem?_eq_getElem hi',by rw [e];simp [List.getD,hi']⟩
    refine EE ((Walks.list hh3 _ l hneI items).toS) s.heap.objs.size hSf ln nd hval hb (items.size-0) 0 _ (by omega) (Nat.zero_le _)
     ⟨⟨_,Heap.get?_push_size _ rfl,rfl,rfl⟩,(hl1.push _)⟩ ?hS0 ?hR
    case hS0=>exact ED (Heap.get?_push_of_some _ hS)
    case hR =>
     intro s' hm hS'
     obtain ⟨h',g',d',tk',os'⟩:=s'
     have eg:g'=s.gens:=hm.gens
     have ed:d'=s.drawn:=hm.drawn
     have eo:os'=s.os:=hm.os
     subst eg;subst ed;subst eo
     show wpAny _ _ _ _ _ _
     refine wpAny_pure ?_
     show wpAny _ _ (ret Value.none) _ _ _
     refine wpAny_pure ⟨rfl,h',tk',rfl,hS',λb o e=>?_⟩
     have hb:=Heap.lt_size e
     have hb1:b≠s.heap.objs.size:=Nat.ne_of_lt hb
     have hb2:b≠(s.heap.push (cY w)).objs.size:=by
      rw [Heap.size_push];exact Nat.ne_of_lt (Nat.lt_succ_of_lt hb)
     exact hm.heap b o (by simp only [List.mem_cons,List.mem_singleton,List.not_mem_nil,or_false,not_or];exact ⟨hb1,hb2⟩) (Heap.get?_push_of_some _ (Heap.get?_push_of_some _ e))
   ·cases r₂ with
    | error e=>exact hr₂
    | ok fl₂ =>
     cases fl₂ with
     | ret r =>
      obtain ⟨rfl,h',tk,rfl,hS',hk'⟩:=hr₂
      repeat (any_goals (first | assumption | wp_step))
      exact h _ _ hS' hk'
     | _=>exact hr₂.elim
  | _=>exact hr.elim
end
end L2
namespace L2
open PySem PySem.Spec PyProof.Rows
theorem xg {α:Type} {l:List α} {i:Nat} {x:α} (hi:i<l.length) (e:l[i]=x):(x::l.eraseIdx i).Perm l:=by
 rw [List.eraseIdx_eq_take_drop_succ]
 refine (List.perm_middle (l₁:=l.take i)).symm.trans ?_
 have:=List.take_append_drop i l
 rw [List.drop_eq_getElem_cons hi,e] at this
 rw [this]
theorem xh {α:Type} (next:Nat->Nat):∀ (fuel k:Nat) (left:List α) (out:Array α),left.length<=fuel->(pickOrder.go next fuel k left out).toList.Perm (out.toList++left)
 | 0,k,left,out,h=>by
  have:left=[]:=List.length_eq_zero_iff.mp (Nat.le_zero.mp h)
  subst this
  unfold pickOrder.go
  rw [List.append_nil]
 | fuel+1,k,left,out,h=>by
  unfold pickOrder.go
  cases e:left[next k % left.length]? with
  | none =>
   have:left=[]:=by
    cases left with
    | nil=>rfl
    | cons a l =>
     have hlt:next k % (a::l).length<(a::l).length:=Nat.mod_lt _ (Nat.succ_pos _)
     rw [List.getElem?_eq_getElem hlt] at e
     cases e
   subst this
   rw [List.append_nil]
  | some x =>
   dsimp only
   obtain ⟨hi,ex⟩:=List.getElem?_eq_some_iff.mp e
   refine (xh next fuel (k+1) _ _ (by rw [List.length_eraseIdx_of_lt hi];omega)).trans ?_
   rw [Array.toList_push,List.append_assoc]
   refine List.Perm.append_left _ ?_
   show (x::left.eraseIdx _).Perm left
   exact xg hi ex
theorem xj {α:Type} (next:Nat->Nat) (xs:Array α):(pickOrder next xs).toList.Perm xs.toList:=by
 have:=xh next xs.size 0 xs.toList #[] (by simp)
 unfold pickOrder
 simpa using this
section
variable {P:Program} {w:World} {A:Around} {E:Value->Shared->Prop} {s:Shared} {a:Addr}
theorem SetI.perm {h:Heap} {ns ms:List Int} (S:SetI w h a ns) (p:ns.Perm ms):SetI w h a ms:=by
 obtain ⟨o,es,ep,t,h1,h2,h3,h4,h5,r⟩:=S
 exact ⟨o,es,ep,t,h1,h2,h3,h4,h5.trans p,r⟩
theorem SetI.setOf {h:Heap} {ns:List Int} (S:SetI w h a ns):h.SetOf (intKind P w) a (λk=>decide (k∈ns)) ns.length:=by
 obtain ⟨o,es,ep,t,ho,hex,hd,he,hp,hb,hf,ok,hl⟩:=S
 refine ⟨o,es,ep,t,ho,hex,hd,EnI.elems he,λk=>?_,hb,hf,by rw [<- hp.length_eq,List.length_map,Array.length_toList]⟩
 rw [decide_eq_true_eq,<- hp.mem_iff,List.mem_map]
 exact ⟨λ⟨e,z,q⟩=>⟨e,z,q▸(he e z).key⟩,λ⟨e,z,q⟩=>⟨e,z,(he e z).is_ q⟩⟩
theorem SetI.typeIs {ns:List Int} (S:SetI w s.heap a ns):s.TypeIs (.ref a) "set" := by
 obtain ⟨o,es,ep,t,ho,hex,r⟩:=S
 exact ⟨o,ho,hex.1⟩
theorem EG {o:Obj} {es:Array (Int×Value)} {ep:Nat} {t:SetTable} {Q:Array (Int×Value)->Shared->Prop} (ho:s.heap.get? a=some o) (hd:o.data = .set es ep t) (hf:t.fits es.size=true) (hl:t.led = !cD w) (hc:(cD w || t.led && t.plain || decide (es.size<=1))=true)
  (h:∀ es':Array (Int×Value),es'.toList.Perm es.toList->Q es' s):wpAny (model P w) A (setWalk a) Q E s:=by
 unfold setWalk setsByText
 refine wpAny_bind (wpAny_setState_of ho hd hf ?_)
 dsimp only
 refine wpAny_bind (wpAny_bind (wpAny_askSetting (wpAny_pure ?_)))
 show wpAny _ _ (if cD w=true then _ else _) _ _ _
 by_cases hb:cD w=true
 ·rw [if_pos hb]
  exact wpAny_bind (wpAny_askSetting (wpAny_pure (h _ (xj _ _))))
 ·rw [if_neg hb]
  have hb':cD w=false:=by simpa using hb
  rw [hb'] at hl hc
  have hdr:(!t.plain && decide (es.size > 1))=false:=by
   rw [hl] at hc
   cases hp:t.plain with
   | true=>rfl
   | false=>rw [hp] at hc;simp at hc;simp;omega
  change wpAny _ _ (if (!t.plain && decide (es.size > 1))=true then _ else _) _ _ _
  rw [hdr,if_neg Bool.false_ne_true]
  refine wpAny_bind ?_
  change wpAny _ _ (if (!t.led && decide (es.size > 1))=true then _ else _) _ _ _
  rw [hl,if_neg (by simp)]
  exact wpAny_pure (wpAny_pure (h _ (.refl _)))
theorem EH {sets:List Addr} {Q:Bool->Shared->Prop} (hs:∀ b∈sets,∃ ns,SetI w s.heap b ns) (h:Q true s):wpAny (model P w) A (setsQuiet sets) Q E s:=by
 unfold setsQuiet
 refine wpAny_bind (wpAny_forIn_list _ (λrest st s' => s'=s/\st=(none,())/\∀ b∈rest,∃ ns,SetI w s.heap b ns) _ (λx rest b s' hI=>?_) (λb s' hI=>?_) _ _ ⟨rfl,rfl,hs⟩)
 ·obtain ⟨rfl,rfl,hr⟩:=hI
  obtain ⟨ns,o,es,ep,t,ho,hex,hd,he,hp,hb,hf,ok,hl⟩:=hr x (.head _)
  refine wpAny_bind (wpAny_setEntries_of ho hd hf (wpAny_bind (wpAny_mono (wpAny_forIn_array' _ (λrest st s'' => s''=s'/\st=(none,())/\∀ e∈rest,EnI e) (λst s'' => s''=s'/\st=(none,())) ?_ (λb s'' hI=>⟨hI.1,hI.2.1⟩) _ _ ⟨rfl,rfl,he⟩) ?_ λ_ _ z=>z)))
  ·rintro e rest b s'' ⟨rfl,rfl,hr'⟩
   obtain ⟨k,tk,rfl⟩:=hr' e (.head _)
   exact wpAny_pure ⟨rfl,rfl,λe z=>hr' e (.tail _ z)⟩
  ·rintro st s'' ⟨rfl,rfl⟩
   exact wpAny_pure ⟨rfl,rfl,λb z=>hr b (.tail _ z)⟩
 ·obtain ⟨rfl,rfl,_⟩:=hI
  exact wpAny_pure h
end
end L2
namespace L2
open PySem PySem.Spec PyProof.Rows
section
variable {P:Program} {w:World} {A:Around} {E:Value->Shared->Prop} {s:Shared} {a b r:Addr}
theorem EI {o:Obj} {es:Array (Int×Value)} {ep:Nat} {t:SetTable} {Q:Array (Int×Value)->Shared->Prop} {xs ys zs:List Int} (ho:s.heap.get? a=some o) (hd:o.data = .set es ep t) (hf:t.fits es.size=true) (hl:t.led = !cD w)
  (Sa:SetI w s.heap a xs) (Sb:SetI w s.heap b ys) (Sr:SetI w s.heap r zs)
  (h:∀ (es':Array (Int×Value)) h',es'.toList.Perm es.toList->Heap.SameBut r s.heap h'->SetI w h' r zs->Q es' { s with heap:=h' }):wpAny (model P w) A (setWalkUnseen a [b,r] (some r)) Q E s:=by
 unfold setWalkUnseen setsByText
 refine wpAny_bind (wpAny_setState_of ho hd hf ?_)
 dsimp only
 refine wpAny_bind (wpAny_bind (wpAny_askSetting (wpAny_pure ?_)))
 show wpAny _ _ (if (cD w || t.led && t.plain || decide (es.size<=1))=true then _ else _) _ _ _
 by_cases hc:(cD w || t.led && t.plain || decide (es.size<=1))=true
 ·rw [if_pos hc]
  exact EG ho hd hf hl hc λes' p=>h es' s.heap p (Heap.SameBut.refl r s.heap) Sr
 ·rw [if_neg hc]
  refine wpAny_bind (EH (λc hc=>?_) ?_)
  ·simp only [List.mem_cons,List.not_mem_nil,or_false] at hc
   rcases hc with rfl | rfl | rfl
   ·exact ⟨_,Sa⟩
   ·exact ⟨_,Sb⟩
   ·exact ⟨_,Sr⟩
  rw [if_neg (by simp)]
  refine wpAny_bind (wpAny_rule ?_)
  try dsimp only
  obtain ⟨o',es',ep',t',ho',hex',hd',he',hp',hb',hf',ok',hl'⟩:=id Sr
  refine wpAny_bind (wpAny_setState_of ho' hd' hf' ?_)
  dsimp only
  split
  ·refine wpAny_bind (wpAny_storeSet_of ho' hd' ?_ (fits_of_scanBound hb'))
   refine wpAny_pure (h es _ (.refl _) (Heap.SameBut.update _ _ _) ?_)
   exact (rG (w:=w) (t' := { t' with led:=t'.led && t.led,plain:=t'.plain && t.plain }) ho' hex' hd' he' hp' hb' hf' ⟨ok'.rise,ok'.clean⟩ (show (t'.led && t.led)=_ by rw [hl,hl',Bool.and_self])).2
  ·exact wpAny_pure (h es s.heap (.refl _) (Heap.SameBut.refl r s.heap) Sr)
theorem xk {xs:List Int} {l:List (Int×Value)} (p:(l.map bc).Perm xs) (nd:xs.Nodup):(l.map bc).Nodup:=p.nodup_iff.mpr nd
theorem EJ {id:String} {ow:Obj} {ew:Array (Int×Value)} {pw:Nat} {tw:SetTable} {ys:List Int} {es:Array (Int×Value)} {Q:PUnit->Shared->Prop} (how:s.heap.get? a=some ow) (hdw:ow.data = .set ew pw tw) (hfw:tw.fits ew.size=true)
  (nar:a≠r) (nbr:b≠r) (he:∀ e∈es.toList,EnI e) (nd:(es.toList.map bc).Nodup) (hz:es.size+1<scanBound) (Sb:SetI w s.heap b ys) (Sr:SetI w s.heap r [])
  (h:∀ h',Heap.SameBut r s.heap h'->SetI w h' r ((es.toList.map bc).filter λk=>decide (k∈ys))->Q ⟨⟩ { s with heap:=h' }) :
  wpAny (model P w) A (forIn es PUnit.unit λx __s=>match x with
   | (h,x)=>do
    holding [x] do
      let __do_lift <- setFind b x h
      if __do_lift.isSome=true then do
        let _ <- setAddHashed r x h
        pure ()
       else pure ()
    Builtin.Frozenset.unchanged id a pw
    pure (ForInStep.yield PUnit.unit)) Q E s:=by
 refine wpAny_forIn_array' _ (λrest _ s' => ∃ dn h',es.toList=dn++rest/\s'={ s with heap:=h' }/\Heap.SameBut r s.heap h'/\SetI w h' r ((dn.map bc).filter λk=>decide (k∈ys))) Q ?_ ?_ _ _ ⟨[],s.heap,rfl,rfl,Heap.SameBut.refl r s.heap,Sr⟩
 ·rintro e rest _ s' ⟨dn,h',el,rfl,sb,S⟩
  obtain ⟨k,tk,rfl⟩:=he e (by rw [el];simp)
  dsimp only
  have Sb':SetI w h' b ys:=Sb.keep λo q=>(sb.2 b nbr).trans q
  have how':h'.get? a=some ow:=(sb.2 a nar).trans how
  have hn : ¬k∈dn.map bc:=λz=>by
   rw [el,List.map_append,List.nodup_append] at nd
   exact nd.2.2 k z k (by rw [List.map_cons];exact .head _) rfl
  have hlen:((dn.map bc).filter λk=>decide (k∈ys)).length<=es.size:=by
   refine Nat.le_trans (List.length_filter_le _ _) ?_
   rw [List.length_map,<- Array.length_toList,el,List.length_append]
   omega
  have fin:∀ (h2:Heap) (R:ForInStep PUnit->Shared->Prop),h2.get? a=some ow->R (.yield ⟨⟩) { s with heap:=h2 }->wpAny (model P w) A (do
    Builtin.Frozenset.unchanged id a pw
    pure (ForInStep.yield PUnit.unit)) R E { s with heap:=h2 }:=λh2 R ho2 hR=>by
   unfold Builtin.Frozenset.unchanged
   refine wpAny_bind (wpAny_bind (wpAny_setEpoch_of (a:=a) (s:={ s with heap:=h2 }) ho2 hdw hfw ?_))
   rw [if_neg (by simp)]
   exact wpAny_pure (wpAny_pure hR)
  have el':es.toList=(dn++[(hashInt k,Value.int k tk)])++rest:=by rw [el];simp
  refine wpAny_bind (wpAny_holding (wpAny_bind (wpAny_setFind_of (knd:=intKind P w) (k:=k) (s:={ s with heap:=h' }) (intKind_is _ _ _ _) rfl Sb'.setOf λq hq=>?_)))
  by_cases hk:k∈ys
  ·rw [decide_eq_true hk] at hq
   rw [if_pos hq]
   refine wpAny_bind (xf (s:={ s with heap:=h' }) ⟨tk,rfl⟩ S (by omega) λh2 sb2 S2=>wpAny_pure (fin h2 _ ((sb2.2 a nar).trans how') ⟨_,h2,el',rfl,sb.trans sb2,?_⟩))
   rw [if_neg (λz=>hn (List.mem_filter.mp z).1)] at S2
   rw [List.map_append,List.filter_append]
   rw [show [(hashInt k,Value.int k tk)].map bc=[k] from rfl,show [k].filter (λk=>decide (k∈ys))=[k] by simp [hk]]
   exact S2
  ·rw [decide_eq_false hk] at hq
   rw [if_neg (by rw [hq];exact Bool.false_ne_true)]
   refine wpAny_pure (fin h' _ how' ⟨_,h',el',rfl,sb,?_⟩)
   rw [List.map_append,List.filter_append]
   rw [show [(hashInt k,Value.int k tk)].map bc=[k] from rfl,show [k].filter (λk=>decide (k∈ys))=[] by simp [hk],List.append_nil]
   exact S
 ·rintro _ s' ⟨dn,h',el,rfl,sb,S⟩
  rw [List.append_nil] at el
  rw [<- el] at S
  exact h h' sb S
end
end L2
namespace L2
open PySem PySem.Spec PyProof.Rows
theorem EK:entryFor table "set.__and__" = some Builtin.«frozenset.__and__» :=
 entryFor_alias (id' := "frozenset.__and__") (by kernel_rfl) rfl (by decide +kernel) (by kernel_rfl)
section
variable {P:Program} {w:World} {A:Around} {E:Value->Shared->Prop} {s:Shared} {a b:Addr}
theorem rH {ns:List Int} {Q:Nat->Shared->Prop} (S:SetI w s.heap a ns) (h:Q ns.length s):wpAny (model P w) A (Builtin.Frozenset.sizeOf a) Q E s:=by
 obtain ⟨o,es,ep,t,ho,hex,hd,he,hp,hb,hf,ok,hl⟩:=S
 have hn:es.size=ns.length:=by rw [<- hp.length_eq,List.length_map,Array.length_toList]
 unfold Builtin.Frozenset.sizeOf
 exact wpAny_bind (wpAny_setEntries_of ho hd hf (wpAny_pure (hn▸h)))
theorem rJ {ns:List Int} {Q:Bool->Shared->Prop} (S:SetI w s.heap a ns) (h:Q true s):wpAny (model P w) A (Builtin.Frozenset.isAnySet (.ref a)) Q E s:=by
 unfold Builtin.Frozenset.isAnySet
 show wpAny _ _ (isInstance (.ref a) (.type "set") >>= _) _ _ _
 exact wpAny_bind (wpAny_isInstance S.typeIs sub_set_self (wpAny_pure h))
theorem xl {id:String} {r:Addr} {xs ys:List Int} {Q:Unit->Shared->Prop} (Sa:SetI w s.heap a xs) (Sb:SetI w s.heap b ys) (Sr:SetI w s.heap r []) (nar:a≠r) (nbr:b≠r) (nx:xs.Nodup) (hz:xs.length+1<scanBound)
  (h:∀ h' zs,Heap.SameBut r s.heap h'->SetI w h' r zs->zs.Nodup->(∀ k,k∈zs ↔ k∈xs/\k∈ys)->Q ⟨⟩ { s with heap:=h' }) :
  wpAny (model P w) A (do
   let was <- setEpoch a
   let __do_lift <- setWalkUnseen a [b,r] (some r)
   forIn __do_lift PUnit.unit λx __s=>match x with
    | (h,x)=>do
     holding [x] do
       let __do_lift <- setFind b x h
       if __do_lift.isSome=true then do
         let _ <- setAddHashed r x h
         pure ()
        else pure ()
     Builtin.Frozenset.unchanged id a was
     pure (ForInStep.yield PUnit.unit)
   pure ()) Q E s:=by
 obtain ⟨o,es,ep,t,ho,hex,hd,he,hp,hb,hf,ok,hl⟩:=_root_.id Sa
 have hn:es.size=xs.length:=by rw [<- hp.length_eq,List.length_map,Array.length_toList]
 refine wpAny_bind (wpAny_setEpoch_of ho hd hf (wpAny_bind (EI ho hd hf hl Sa Sb Sr λes' h1 p sb S1=>?_)))
 have p2:(es'.toList.map bc).Perm xs:=(p.map bc).trans hp
 have hz':es'.size+1<scanBound:=by rw [<- Array.length_toList,p.length_eq,Array.length_toList,hn];exact hz
 refine wpAny_bind (EJ (s:={ s with heap:=h1 }) ((sb.2 a nar).trans ho) hd hf nar nbr (λe z=>he e (p.mem_iff.mp z)) (xk p2 nx) hz' (Sb.keep λo q=>(sb.2 b nbr).trans q) S1 λh' sb2 S2=>wpAny_pure ?_)
 refine h h' _ (sb.trans sb2) S2 ((xk p2 nx).filter _) λk=>?_
 rw [List.mem_filter,decide_eq_true_eq,p2.mem_iff]
theorem xm {xs ys:List Int} {Q:Value->Shared->Prop} (Sa:SetI w s.heap a xs) (Sb:SetI w s.heap b ys) (nab:a≠b) (nx:xs.Nodup) (ny:ys.Nodup) (hx:xs.length+1<scanBound) (hy:ys.length+1<scanBound)
  (h:∀ h' zs,SetI w h' s.heap.objs.size zs->zs.Nodup->(∀ k,k∈zs ↔ k∈xs/\k∈ys)->(∀ c o,s.heap.get? c=some o->h'.get? c=some o)->Q (.ref s.heap.objs.size) { s with heap:=h' }) :
  wpAny (model P w) A (binaryOp .BitAnd (.ref a) (.ref b)) Q E s:=by
 refine wpAny_binaryOp_same (T := "set") (id := "set.__and__") Sa.typeIs Sb.typeIs F.fills_set_and F.slot_set_and (wpAny_call_entry F.slot_set_and Sa.typeIs EK ?_ (F.args_set_and_2 _ _))
 change wpAny (model P w) A.in1 (do
  let (self,other) <- Builtin.Frozenset.slot1 "__and__" ⟨[.ref a,.ref b],[]⟩
  let (l,r):=if false=true then (other,self) else (self,other)
  if !(<- Builtin.Frozenset.isAnySet l <&&> Builtin.Frozenset.isAnySet r) then rule s!"frozenset.{"__and__"}.declined";return <- ret .notImplemented
  ret (<- Builtin.Frozenset.intersection s!"frozenset.{"__and__"}" (<- Builtin.Frozenset.addrOf l) r)) _ _ _
 unfold Builtin.Frozenset.slot1 slotArgs
 simp only [List.isEmpty_nil,Bool.not_true,Bool.false_eq_true,↓reduceIte,bind_assoc,List.length_cons,List.length_nil,bne_self_eq_false]
 refine wpAny_bind (wpAny_pure ?_)
 refine wpAny_bind (wpAny_pure ?_)
 dsimp only
 show wpAny _ _ ((Builtin.Frozenset.isAnySet (.ref a) >>= _) >>= _) _ _ _
 refine wpAny_bind (wpAny_bind (rJ Sa (rJ Sb ?_)))
 rw [if_neg (by simp)]
 unfold Builtin.Frozenset.addrOf
 refine wpAny_bind (wpAny_pure (wpAny_bind ?_))
 unfold Builtin.Frozenset.intersection
 have ne:(Value.ref b == Value.ref a)=false:=by
  first
  | (rw [beq_eq_false_iff_ne];intro z;injection z with z;exact nab z.symm)
  | simp [nab.symm]
 rw [ne,if_neg Bool.false_ne_true]
 unfold Builtin.Frozenset.baseOf
 refine wpAny_bind (wpAny_bind (wpAny_isInstance Sa.typeIs sub_set_self (wpAny_pure ?_)))
 rw [if_pos rfl]
 refine wpAny_bind (EC λob Sr=>?_)
 have kp:∀ c o,s.heap.get? c=some o->(s.heap.push ob).get? c=some o:=λc o q=>Heap.get?_push_of_some _ q
 have Sa1:SetI w (s.heap.push ob) a xs:=Sa.keep (kp a)
 have Sb1:SetI w (s.heap.push ob) b ys:=Sb.keep (kp b)
 have lt:∀ {c:Addr} {l:List Int},SetI w s.heap c l->c≠s.heap.objs.size:=λS=>by
  obtain ⟨o,es,ep,t,ho,r⟩:=S
  exact Nat.ne_of_lt (Heap.lt_size ho)
 have fin:∀ h' zs,Heap.SameBut s.heap.objs.size (s.heap.push ob) h'->SetI w h' s.heap.objs.size zs->zs.Nodup->(∀ k,k∈zs ↔ k∈xs/\k∈ys)->Q (.ref s.heap.objs.size) { s with heap:=h' }:=λh' zs sb S nz hm =>
  h h' zs S nz hm λc o q=>(sb.2 c (Nat.ne_of_lt (Heap.lt_size q))).trans (kp c o q)
 unfold Builtin.Frozenset.addrOf
 refine wpAny_bind (wpAny_pure (wpAny_bind (wpAny_holding ?_)))
 refine wpAny_bind (rJ (s:={ s with heap:=s.heap.push ob }) Sb1 ?_)
 rw [if_pos rfl]
 refine wpAny_bind (wpAny_pure (wpAny_bind (rH (s:={ s with heap:=s.heap.push ob }) Sb1 (wpAny_bind (rH (s:={ s with heap:=s.heap.push ob }) Sa1 ?_)))))
 by_cases hs:ys.length > xs.length
 ·rw [if_pos hs]
  dsimp only
  refine wpAny_mono (xl (s:={ s with heap:=s.heap.push ob }) Sa1 Sb1 Sr (lt Sa) (lt Sb) nx hx (Q:=λ_ s' => ∃ h' zs,s'={ s with heap:=h' }/\Heap.SameBut s.heap.objs.size (s.heap.push ob) h'/\SetI w h' s.heap.objs.size zs/\zs.Nodup/\∀ k,k∈zs ↔ k∈xs/\k∈ys) λh' zs sb S nz hm=>⟨h',zs,rfl,sb,S,nz,hm⟩) ?_ λ_ _ z=>z
  rintro _ s' ⟨h',zs,rfl,sb,S,nz,hm⟩
  exact wpAny_pure (wpAny_pure ⟨_,rfl,(by intro z;cases z),fin h' zs sb S nz hm⟩)
 ·rw [if_neg hs]
  dsimp only
  refine wpAny_mono (xl (s:={ s with heap:=s.heap.push ob }) Sb1 Sa1 Sr (lt Sb) (lt Sa) ny hy (Q:=λ_ s' => ∃ h' zs,s'={ s with heap:=h' }/\Heap.SameBut s.heap.objs.size (s.heap.push ob) h'/\SetI w h' s.heap.objs.size zs/\zs.Nodup/\∀ k,k∈zs ↔ k∈ys/\k∈xs) λh' zs sb S nz hm=>⟨h',zs,rfl,sb,S,nz,hm⟩) ?_ λ_ _ z=>z
  rintro _ s' ⟨h',zs,rfl,sb,S,nz,hm⟩
  exact wpAny_pure (wpAny_pure ⟨_,rfl,(by intro z;cases z),fin h' zs sb S nz λk=>(hm k).trans And.comm⟩)
end
end L2
namespace L2
open PySem PySem.Spec PyProof.Rows
theorem xn:Manifest.owners.lookup (String.ofList ['r','o','t','a','r','e','t','i','_','t','e','s'].reverse)=some Manifest.sig_set_iterator:=by kernel_rfl
theorem zaw:Slot "set_iterator" "__next__" "set_iterator.__next__" :=
 .of (owner := "set_iterator") (n := "__next__") (by rw [typeLookup_type,builtinLookup_eq_fast];kernel_rfl) (by decide +kernel) (by decide +kernel) (by decide +kernel)
  (by first | exact .inl (by decide +kernel) | exact .inr (by decide +kernel)) (by rw [isSubtype_type];kernel_rfl)
theorem xp:entryFor table "set_iterator.__next__" = some Builtin.«set_iterator.__next__» := entryFor_of_tree (by kernel_rfl)
theorem xq (a:Value):argsOk "set_iterator.__next__" ⟨[a],[]⟩:=by
 unfold argsOk;rw [signature?_of (id := "set_iterator.__next__") (n:=['_','_','t','x','e','n','_','_']) (o:=['r','o','t','a','r','e','t','i','_','t','e','s']) (by kernel_rfl) xn];kernel_rfl
theorem xr:Slot "set_iterator" "__iter__" "set_iterator.__iter__" :=
 .of (owner := "set_iterator") (n := "__iter__") (by rw [typeLookup_type,builtinLookup_eq_fast];kernel_rfl) (by decide +kernel) (by decide +kernel) (by decide +kernel)
  (by first | exact .inl (by decide +kernel) | exact .inr (by decide +kernel)) (by rw [isSubtype_type];kernel_rfl)
theorem EL:entryFor table "set_iterator.__iter__" = some Builtin.«dict_keyiterator.__iter__» :=
 entryFor_alias (id' := "dict_keyiterator.__iter__") (by kernel_rfl) rfl (by decide +kernel) (by kernel_rfl)
theorem EM (a:Value):argsOk "set_iterator.__iter__" ⟨[a],[]⟩:=by
 unfold argsOk;rw [signature?_of (id := "set_iterator.__iter__") (n:=['_','_','r','e','t','i','_','_']) (o:=['r','o','t','a','r','e','t','i','_','t','e','s']) (by kernel_rfl) xn];kernel_rfl
theorem EO:entryFor table "set.__iter__" = some Builtin.«frozenset.__iter__» :=
 entryFor_alias (id' := "frozenset.__iter__") (by kernel_rfl) rfl (by decide +kernel) (by kernel_rfl)
def IsSetIt (h:Heap) (it a:Addr) (first:Value) (i n ep:Nat):Prop:=∃ o,h.get? it=some o/\o.cls = .type "set_iterator" /\ o.data = .fields #[first,.int i 0,.ref a,.int n 0,.int ep 0]
theorem IsSetIt.typeIs {s:Shared} {it a:Addr} {f:Value} {i n ep:Nat} (x:IsSetIt s.heap it a f i n ep):s.TypeIs (.ref it) "set_iterator" := let ⟨o,ho,hc,_⟩:=x;⟨o,ho,hc⟩
def cO (w:World) (a:Addr) (ep:Nat) (es:Array (Int×Value)):Array (Int×Value):=if cD w=true then pickOrder (w.params.setOrder a ep) es else es
def fN (w:World) (t:SetTable):Nat->Nat
 | 0=>0
 | i+1=>if cD w=true then 0 else (t.place.getD i 0)+1
section
variable {P:Program} {w:World} {A:Around} {E:Value->Shared->Prop} {s:Shared} {a:Addr} {o:Obj} {es:Array (Int×Value)} {ep:Nat} {t:SetTable}
theorem zbC:(cO w a ep es).toList.Perm es.toList:=by
 unfold cO
 split
 ·exact xj _ _
 ·exact .refl _
theorem rK (i:Nat):fN w t (i+1)=if cD w=true then 0 else (t.place.getD i 0)+1:=rfl
theorem xt (h:cD w=true) (i:Nat):fN w t i=0:=by
 cases i with
 | zero=>rfl
 | succ i=>rw [rK,if_pos h]
theorem ES {Q:Option (Value×Nat)->Shared->Prop} (ho:s.heap.get? a=some o) (hd:o.data = .set es ep t) (hf:t.fits es.size=true) (ok:TbOk t) (hl:t.led = !cD w) (hdr:cD w=true\/(!t.plain && decide (es.size > 1))=false) (i:Nat) (hi:i<=es.size)
  (h:Q (((cO w a ep es)[i]?).map λe=>(e.2,fN w t (i+1))) s):wpAny (model P w) A (setNext a (fN w t i) i ep) Q E s:=by
 unfold setNext setsByText
 refine wpAny_bind (wpAny_setState_of ho hd hf ?_)
 dsimp only
 refine wpAny_bind (wpAny_bind (wpAny_askSetting (wpAny_pure ?_)))
 show wpAny _ _ (if cD w=true then _ else _) _ _ _
 by_cases hb:cD w=true
 ·rw [if_pos hb]
  rw [if_neg (by simp)]
  unfold setWalk setsByText
  refine wpAny_bind (wpAny_bind (wpAny_setState_of ho hd hf ?_))
  dsimp only
  refine wpAny_bind (wpAny_bind (wpAny_askSetting (wpAny_pure ?_)))
  show wpAny _ _ (if cD w=true then _ else _) _ _ _
  rw [if_pos hb]
  refine wpAny_bind (wpAny_askSetting (wpAny_pure (wpAny_pure ?_)))
  unfold cO at h
  rw [if_pos hb,xt hb] at h
  rw [xt hb]
  exact h
 ·rw [if_neg hb]
  have hdr' := hdr.resolve_left hb
  change wpAny _ _ (if (!t.plain && decide (es.size > 1))=true then _ else _) _ _ _
  rw [hdr',if_neg Bool.false_ne_true]
  have hb':cD w=false:=by simpa using hb
  refine wpAny_bind ?_
  change wpAny _ _ (if (!t.led && !es.isEmpty)=true then _ else _) _ _ _
  rw [hl,hb',if_neg (by simp)]
  refine wpAny_pure (wpAny_pure ?_)
  have hpl:t.place.size=es.size:=by
   simp only [SetTable.fits,Bool.and_eq_true,beq_iff_eq] at hf
   exact hf.1
  have hbl:SetTable.below t.place (fN w t i)=i:=by
   cases i with
   | zero=>exact Et ok.rise
   | succ i =>
    have hi':i<t.place.size:=by omega
    rw [rK,if_neg hb]
    refine Es ok.rise ?_
    rw [Array.getElem?_eq_getElem hi']
    simp [Array.getD,hi']
  rw [hbl]
  unfold cO at h
  rw [if_neg hb] at h
  by_cases hlt:i<es.size
  ·have h1:es[i]? = some es[i]:=Array.getElem?_eq_getElem hlt
   have h2:t.place[i]? = some t.place[i]:=Array.getElem?_eq_getElem (by omega)
   have h3:fN w t (i+1)=t.place[i]+1:=by
    rw [rK,if_neg hb]
    simp [Array.getD,show i<t.place.size by omega]
   rw [h1,h3] at h
   rw [h1,h2]
   exact h
  ·have h1:es[i]? = none:=Array.getElem?_eq_none (by omega)
   rw [h1] at h
   rw [h1]
   exact h
end
end L2
namespace L2
open PySem PySem.Spec PyProof.Rows
section
variable {P:Program} {w:World} {A:Around} {E:Value->Shared->Prop} {s:Shared} {a it:Addr} {o:Obj} {es:Array (Int×Value)} {ep:Nat} {t:SetTable}
theorem xu {α:Type} {R:α->Shared->Prop} (hh:A.handled=none) (h:∀ (x:Addr) h',(∃ ox,h'.get? x=some ox/\ox.cls = .type "StopIteration")->(∀ b o,s.heap.get? b=some o->h'.get? b=some o)->E (.ref x) { s with heap:=h' }) :
  wpAny (model P w) A (do let e <- newExc (.type "StopIteration") [];raiseNew e:Sem α) R E s:=by
 refine wpAny_bind ?_
 simp only [newExc,newTuple]
 refine wpAny_bind (wpAny_newObj_type ?_ (by size_fits))
 refine wpAny_bind (m:=firstArgMember _ _) (wpAny_of_eq (a:=Value.none) (by first | rfl | (simp only [firstArgMember];rfl)) ?_)
 refine wpAny_newObj_type ?_ (by size_fits)
 simp only [raiseNew]
 refine wpAny_bind (wpAny_handled ?_)
 rw [hh]
 refine wpAny_bind (wpAny_pure (wpAny_throw ?_))
 exact h _ _ ⟨_,Heap.get?_push_size _ rfl,rfl⟩ λb o q=>Heap.get?_push_of_some _ (Heap.get?_push_of_some _ q)
theorem xw {Q:Option Value->Shared->Prop} {i:Nat} (hh:A.handled=none) (hit:IsSetIt s.heap it a (.int (fN w t i) 0) i es.size ep) (hne:a≠it) (ho:s.heap.get? a=some o) (hd:o.data = .set es ep t) (hf:t.fits es.size=true) (ok:TbOk t) (hl:t.led = !cD w)
  (hdr:cD w=true\/(!t.plain && decide (es.size > 1))=false) (hi:i<=es.size)
  (h1:∀ e h',(cO w a ep es)[i]? = some e->IsSetIt h' it a (.int (fN w t (i+1)) 0) (i+1) es.size ep->Heap.SameBut it s.heap h'->Q (some e.2) { s with heap:=h' })
  (h2:(cO w a ep es)[i]? = none->∀ h',Heap.ExtBut it s.heap h'->Q none { s with heap:=h' }):wpAny (model P w) A (pyNext (.ref it)) Q E s:=by
 obtain ⟨oi,hoi,hci,hdi⟩:=id hit
 unfold pyNext
 refine wpAny_bind (wpAny_attempt (wpAny_callSpecial?_slot (name:=Str.ofString "__next__") hit.typeIs zaw
  (wpAny_call_entry zaw hit.typeIs xp ?_ (xq _))))
 unfold Builtin.«set_iterator.__next__» slotArgs
 simp only [List.isEmpty_nil,Bool.not_true,Bool.false_eq_true,↓reduceIte,bind_assoc,List.length_nil,bne_self_eq_false]
 refine wpAny_bind (wpAny_pure ?_)
 refine wpAny_bind (wpAny_fieldsOf hoi hdi ?_)
 try dsimp only
 refine wpAny_bind (wpAny_setEntries_of ho hd hf ?_)
 rw [if_neg (by simp)]
 try dsimp only
 simp only [Int.toNat_natCast]
 refine wpAny_bind (ES ho hd hf ok hl hdr i hi ?_)
 cases e:(cO w a ep es)[i]? with
 | some x =>
  simp only [Option.map_some]
  refine wpAny_bind (wpAny_setField hoi hdi (by simp) ?_)
  have hg:=Heap.get?_update_self (Obj.mapFields (·.setIfInBounds 0 (rawInt ((fN w t (i+1):Nat):Int)))) hoi (Obj.isFreed_of_fields (Obj.data_mapFields hdi _))
  have hdg:=Obj.data_mapFields hdi (·.setIfInBounds 0 (rawInt ((fN w t (i+1):Nat):Int)))
  refine wpAny_bind (wpAny_setField hg hdg (by simp) ?_)
  refine wpAny_pure ⟨_,rfl,wpAny_pure (h1 x _ e ?_ ((Heap.SameBut.update ..).trans (Heap.SameBut.update ..)))⟩
  exact ⟨_,Heap.get?_update_self _ hg (Obj.isFreed_of_fields (Obj.data_mapFields hdg _)),((Obj.cls_mapFields ..).trans (Obj.cls_mapFields ..)).trans hci,by rw [Obj.data_mapFields hdg];simp [rawInt]⟩
 | none =>
  simp only [Option.map_none]
  refine wpAny_bind (wpAny_setField hoi hdi (by simp) ?_)
  refine xu (A:=A.in1) hh λx h' ⟨ox,hx,cx⟩ kp=>wpAny_bind (wpAny_isInstance (T := "StopIteration") (b:=true) ⟨ox,hx,cx⟩ isSubtype_stop ?_)
  rw [if_pos rfl]
  exact wpAny_pure (h2 e h' λb ob nb q=>kp b ob ((Heap.get?_update_other _ _ (Ne.symm nb)).trans q))
end
end L2
namespace L2
open PySem PySem.Spec PyProof.Rows
section
variable {P:Program} {w:World} {A:Around} {E:Value->Shared->Prop} {s:Shared} {a it:Addr} {o:Obj} {es:Array (Int×Value)} {ep:Nat} {t:SetTable}
theorem ET {src:Source} {n:Nat} {Q:Nat->Shared->Prop} (hn:n≠0) (h:∀ i,i<n->∀ d,Q i { s with drawn:=d }):wpAny (model P w) A (choose src n) Q E s:=λΓ p _=>by
 unfold choose
 rw [Sem.wp_choose]
 refine ⟨hn,?_⟩
 rw [Sem.wp_pure]
 exact h _ (Nat.mod_lt _ (Nat.pos_of_ne_zero hn)) _
theorem xx {α:Type}:∀ (n:Nat) (l:List α) {s:Shared} {Q:List α->Shared->Prop},l.length<=n->(∀ l' d,l'.Perm l->Q l' { s with drawn:=d })->wpAny (model P w) A (drawOrder n l) Q E s
 | 0,l,s,Q,hl,h=>by
  have:l=[]:=List.length_eq_zero_iff.mp (Nat.le_zero.mp hl)
  subst this
  unfold drawOrder
  exact wpAny_pure (h [] s.drawn (.refl _))
 | n+1,[],s,Q,hl,h=>by
  unfold drawOrder
  exact wpAny_pure (h [] s.drawn (.refl _))
 | n+1,x::xs,s,Q,hl,h=>by
  unfold drawOrder
  refine wpAny_bind (ET (by simp) λi hi d=>?_)
  rw [List.getElem?_eq_getElem hi]
  dsimp only
  refine wpAny_bind (xx n _ (by rw [List.length_eraseIdx_of_lt hi];simp at hl ⊢;omega) λl' d' p=>wpAny_pure (h _ d' ?_))
  exact (List.Perm.cons _ p).trans (xg hi rfl)
theorem xy {Q:Value->Shared->Prop} {f:Value} {i n ep:Nat} (hit:IsSetIt s.heap it a f i n ep) (h:Q (.ref it) s):wpAny (model P w) A (pyIter (.ref it)) Q E s:=by
 refine wpAny_pyIter_slot hit.typeIs xr (wpAny_call_entry xr hit.typeIs EL ?_ (EM _))
 show wpAny _ _ (ret (.ref it)) _ _ s
 exact wpAny_pure ⟨_,rfl, "set_iterator",_,hit.typeIs,zaw.lookup,h⟩
theorem IsSetIt.keep {h h':Heap} {f:Value} {i n ep:Nat} (x:IsSetIt h it a f i n ep) (k:∀ o,h.get? it=some o->h'.get? it=some o):IsSetIt h' it a f i n ep:=let ⟨o,ho,r⟩:=x;⟨o,k o ho,r⟩
theorem EU (hh:A.handled=none) (hne:a≠it) (hd:o.data = .set es ep t) (hf:t.fits es.size=true) (ok:TbOk t) (hl:t.led = !cD w) (hdr:cD w=true\/(!t.plain && decide (es.size > 1))=false) :
  Walks P w A it [it,a] [it] es.size (λi v=>∃ e,(cO w a ep es)[i]? = some e/\v=e.2) (λi h=>i<=es.size/\IsSetIt h it a (.int (fN w t i) 0) i es.size ep/\h.get? a=some o) where
 sub:=λb hb=>by simp at hb;simp [hb]
 frame:=λi h h' st k=>⟨st.1,st.2.1.keep λo q=>k it (by simp) o q,k a (by simp) o st.2.2⟩
 item:=λi s Q E hi st hQ=>by
  refine xw hh st.2.1 hne st.2.2 hd hf ok hl hdr st.1 (λe h' q hit' sb=>hQ _ h' s.toks ⟨e,q,rfl⟩ ⟨hi,hit',(sb.2 a hne).trans st.2.2⟩ λb ob nb q=>(sb.2 b (λz=>nb (by simp [z]))).trans q) λq=>?_
  exfalso
  have:(cO w a ep es).size=es.size:=by rw [<- Array.length_toList,zbC.length_eq,Array.length_toList]
  rw [Array.getElem?_eq_getElem (by omega)] at q
  cases q
 done:=λs Q E st hQ=>by
  refine xw hh st.2.1 hne st.2.2 hd hf ok hl hdr st.1 (λe h' q=>?_) λ_ h' ex=>hQ h' s.toks λb ob nb q=>ex b ob (λz=>nb (by simp [z])) q
  exfalso
  have:(cO w a ep es).size=es.size:=by rw [<- Array.length_toList,zbC.length_eq,Array.length_toList]
  rw [Array.getElem?_eq_none (by omega)] at q
  cases q
 self:=λ_ _ _ _ st hQ=>xy st.2.1 hQ
end
end L2
namespace L2
open PySem PySem.Spec PyProof.Rows
section
variable {P:Program} {w:World} {A:Around} {E:Value->Shared->Prop} {s:Shared} {a it tp:Addr} {o otp:Obj} {es:Array (Int×Value)} {ep nt:Nat} {t:SetTable} {pl:List Nat}
theorem xA {Q:Option Value->Shared->Prop} {i:Nat} (hh:A.handled=none) (hit:IsSetIt s.heap it a (.ref tp) i es.size ep) (ho:s.heap.get? a=some o) (hd:o.data = .set es ep t) (hf:t.fits es.size=true)
  (htp:s.heap.get? tp=some otp) (hdt:otp.data = .seq (pl.map λj:Nat=>rawInt j).toArray nt) (hlt:∀ j∈pl,j<es.size)
  (h1:∀ j e h',pl[i]? = some j->es[j]? = some e->IsSetIt h' it a (.ref tp) (i+1) es.size ep->Heap.SameBut it s.heap h'->Q (some e.2) { s with heap:=h' })
  (h2:pl[i]? = none->∀ h',Heap.ExtBut it s.heap h'->Q none { s with heap:=h' }):wpAny (model P w) A (pyNext (.ref it)) Q E s:=by
 obtain ⟨oi,hoi,hci,hdi⟩:=id hit
 unfold pyNext
 refine wpAny_bind (wpAny_attempt (wpAny_callSpecial?_slot (name:=Str.ofString "__next__") hit.typeIs zaw
  (wpAny_call_entry zaw hit.typeIs xp ?_ (xq _))))
 unfold Builtin.«set_iterator.__next__» slotArgs
 simp only [List.isEmpty_nil,Bool.not_true,Bool.false_eq_true,↓reduceIte,bind_assoc,List.length_nil,bne_self_eq_false]
 refine wpAny_bind (wpAny_pure ?_)
 refine wpAny_bind (wpAny_fieldsOf hoi hdi ?_)
 try dsimp only
 refine wpAny_bind (wpAny_setEntries_of ho hd hf ?_)
 rw [if_neg (by simp)]
 try dsimp only
 refine wpAny_bind (wpAny_seqItems htp hdt ?_)
 dsimp only
 simp only [Int.toNat_natCast]
 have hg:((pl.map λj:Nat=>rawInt j).toArray)[i]? = (pl[i]?).map λj:Nat=>rawInt j:=by simp
 rw [hg]
 cases e:pl[i]? with
 | some j =>
  have hj:=hlt j (List.mem_of_getElem? e)
  simp only [Option.map_some,rawInt]
  unfold setNextDrawn
  refine wpAny_bind (wpAny_bind (wpAny_setState_of ho hd hf ?_))
  dsimp only
  simp only [Int.toNat_natCast]
  rw [if_neg (by simp),Array.getElem?_eq_getElem hj]
  dsimp only
  refine wpAny_pure ?_
  refine wpAny_bind (wpAny_setField hoi hdi (by simp) ?_)
  refine wpAny_pure ⟨_,rfl,wpAny_pure (h1 j _ _ e (Array.getElem?_eq_getElem hj) ?_ (Heap.SameBut.update ..))⟩
  exact ⟨_,Heap.get?_update_self _ hoi (Obj.isFreed_of_fields (Obj.data_mapFields hdi _)),(Obj.cls_mapFields ..).trans hci,by rw [Obj.data_mapFields hdi];simp [rawInt]⟩
 | none =>
  simp only [Option.map_none]
  refine wpAny_bind (wpAny_setField hoi hdi (by simp) ?_)
  have hg:=Heap.get?_update_self (Obj.mapFields (·.setIfInBounds 0 (rawInt 0))) hoi (Obj.isFreed_of_fields (Obj.data_mapFields hdi _))
  have hdg:=Obj.data_mapFields hdi (·.setIfInBounds 0 (rawInt 0))
  refine wpAny_bind (wpAny_setField hg hdg (by simp) ?_)
  refine xu (A:=A.in1) hh λx h' ⟨ox,hx,cx⟩ kp=>wpAny_bind (wpAny_isInstance (T := "StopIteration") (b:=true) ⟨ox,hx,cx⟩ isSubtype_stop ?_)
  rw [if_pos rfl]
  exact wpAny_pure (h2 e h' λb ob nb q=>kp b ob ((Heap.get?_update_other _ _ (Ne.symm nb)).trans ((Heap.get?_update_other _ _ (Ne.symm nb)).trans q)))
theorem EV (hh:A.handled=none) (hne:a≠it) (hnt:tp≠it) (hd:o.data = .set es ep t) (hf:t.fits es.size=true) (hdt:otp.data = .seq (pl.map λj:Nat=>rawInt j).toArray nt) (hlt:∀ j∈pl,j<es.size) (hn:pl.length=es.size) :
  Walks P w A it [it,a,tp] [it] es.size (λi v=>∃ j e,pl[i]? = some j/\es[j]? = some e/\v=e.2) (λi h=>i<=es.size/\IsSetIt h it a (.ref tp) i es.size ep/\h.get? a=some o/\h.get? tp=some otp) where
 sub:=λb hb=>by simp at hb;simp [hb]
 frame:=λi h h' st k=>⟨st.1,st.2.1.keep λo q=>k it (by simp) o q,k a (by simp) o st.2.2.1,k tp (by simp) otp st.2.2.2⟩
 item:=λi s Q E hi st hQ=>by
  refine xA hh st.2.1 st.2.2.1 hd hf st.2.2.2 hdt hlt (λj e h' q q2 hit' sb=>hQ _ h' s.toks ⟨j,e,q,q2,rfl⟩ ⟨hi,hit',(sb.2 a hne).trans st.2.2.1,(sb.2 tp hnt).trans st.2.2.2⟩ λb ob nb q=>(sb.2 b (λz=>nb (by simp [z]))).trans q) λq=>?_
  rw [List.getElem?_eq_getElem (by omega)] at q
  cases q
 done:=λs Q E st hQ=>by
  refine xA hh st.2.1 st.2.2.1 hd hf st.2.2.2 hdt hlt (λj e h' q=>?_) λ_ h' ex=>hQ h' s.toks λb ob nb q=>ex b ob (λz=>nb (by simp [z])) q
  rw [List.getElem?_eq_none (by omega)] at q
  cases q
 self:=λ_ _ _ _ st hQ=>xy st.2.1 hQ
theorem xB {I:Addr} {fp wr:List Addr} {n:Nat} {p q:Nat->Value->Prop} {St:Nat->Heap->Prop} (W:Walks P w A I fp wr n p St) (k:∀ i v,p i v->q i v):Walks P w A I fp wr n q St :=
 ⟨W.sub,W.frame,λi s Q E hi st hQ=>W.item i s Q E hi st λv h' tk pv=>hQ v h' tk (k i v pv),W.done,W.self⟩
theorem EW (l:List Int):(List.range l.length).map (λj=>l.getD j 0)=l:=by
 refine List.ext_getElem (by simp) λi h1 h2=>?_
 simp [List.getD,h2]
theorem EY {ns:List Int} {Q:Value->Shared->Prop} (hh:A.handled=none) (S:SetI w s.heap a ns)
  (h:∀ (it:Addr) (fp:List Addr) (St:Nat->Heap->Prop) (ms:List Int) h' d,ms.Perm ns->Walks P w A it fp [it] ns.length (λi v=>∃ k tk,ms[i]? = some k/\v = .int k tk) St->St 0 h'->(∀ b o,s.heap.get? b=some o->h'.get? b=some o)->s.heap.objs.size<=it->(∀ b∈fp,b=a\/s.heap.objs.size<=b)->Q (.ref it) { s with heap:=h',drawn:=d }) :
  wpAny (model P w) A (pyIter (.ref a)) Q E s:=by
 obtain ⟨o,es,ep,t,ho,hex,hd,he,hp,hb,hf,ok,hl⟩:=id S
 have hn:es.size=ns.length:=by rw [<- hp.length_eq,List.length_map,Array.length_toList]
 have alt:a<s.heap.objs.size:=Heap.lt_size ho
 have vl:∀ {l:Array (Int×Value)},l.toList.Perm es.toList->∀ {i:Nat} {e:Int×Value},l[i]? = some e->∃ k tk,(l.toList.map bc)[i]? = some k/\e.2=Value.int k tk:=λ{l} p {i e} q=>by
  have m:e∈es.toList:=p.mem_iff.mp (by rw [<- Array.getElem?_toList] at q;exact List.mem_of_getElem? q)
  obtain ⟨k,tk,rfl⟩:=he e m
  exact ⟨k,tk,by rw [List.getElem?_map,Array.getElem?_toList,q];rfl,rfl⟩
 refine wpAny_pyIter_slot S.typeIs F.slot_set_iter (wpAny_call_entry F.slot_set_iter S.typeIs EO ?_ (F.args_set_iter_1 _))
 unfold Builtin.«frozenset.__iter__» Builtin.Frozenset.slot0 slotArgs
 simp only [List.isEmpty_nil,Bool.not_true,Bool.false_eq_true,↓reduceIte,bind_assoc,List.length_nil,bne_self_eq_false]
 unfold Builtin.Frozenset.addrOf
 refine wpAny_bind (wpAny_pure ?_)
 try dsimp only
 refine wpAny_bind (wpAny_pure ?_)
 refine wpAny_bind (rH S ?_)
 unfold setDrawn setsByText
 refine wpAny_bind (wpAny_bind (wpAny_setState_of ho hd hf ?_))
 dsimp only
 refine wpAny_bind (wpAny_bind (wpAny_askSetting (wpAny_pure ?_)))
 refine wpAny_pure ?_
 change wpAny _ _ (if (!cD w && (!t.plain && decide (es.size > 1)))=true then _ else _) _ _ _
 by_cases hc:(!cD w && (!t.plain && decide (es.size > 1)))=true
 ·rw [if_pos hc]
  refine wpAny_bind (xx _ _ (by simp) λl d p=>?_)
  have ll:l.length=ns.length:=by rw [p.length_eq,List.length_range]
  refine wpAny_bind (wpAny_newTuple ?_ (by rw [List.length_map,ll,<- hn];exact fits_of_scanBound hb))
  have ho1:∀ ob,(s.heap.push ob).get? a=some o:=λob=>Heap.get?_push_of_some _ ho
  refine wpAny_bind (wpAny_setEpoch_of (s:={ s with heap:=s.heap.push _,drawn:=d }) (ho1 _) hd hf ?_)
  refine wpAny_bind (wpAny_newObj_type (wpAny_pure ⟨_,rfl, "set_iterator",_,⟨_,Heap.get?_push_size _ rfl,rfl⟩,zaw.lookup,?_⟩))
  have hm:∀ j∈l,j<es.size:=λj z=>by
   have:=p.mem_iff.mp z
   rw [hn];exact List.mem_range.mp this
  have hsz:∀ ob,(s.heap.push ob).objs.size=s.heap.objs.size+1:=λob=>Heap.size_push _ _
  obtain ⟨TO,eTO⟩:∃ TO:Obj,TO={ cls:=.type "tuple",data:=.seq (l.map λj:Nat=>rawInt j).toArray }:=⟨_,rfl⟩
  have n1:a≠(s.heap.push TO).objs.size:=by rw [hsz];exact Nat.ne_of_lt (Nat.lt_succ_of_lt alt)
  have n2:s.heap.objs.size≠(s.heap.push TO).objs.size:=by rw [hsz];omega
  have W:=xB (q:=λi v=>∃ k tk,(l.map λj=>(es.toList.map bc).getD j 0)[i]? = some k/\v = .int k tk) (EV (P:=P) (w:=w) (A:=A) (a:=a) (tp:=s.heap.objs.size) (pl:=l) (nt:=0) (otp:=TO) hh n1 n2 hd hf (by rw [eTO]) hm (ll.trans hn.symm)) (by
   rintro i v ⟨j,e,q,q2,rfl⟩
   obtain ⟨k,tk,q3,q4⟩:=vl (.refl _) q2
   exact ⟨k,tk,by rw [List.getElem?_map,q];simp only [Option.map_some,List.getD,q3];rfl,q4⟩)
  have pm:(l.map λj=>(es.toList.map bc).getD j 0).Perm ns:=by
   refine (p.map _).trans ?_
   have:=EW (es.toList.map bc)
   rw [List.length_map,Array.length_toList,hn] at this
   rw [this]
   exact hp
  rw [<- eTO]
  have st0:IsSetIt ((s.heap.push TO).push { cls:=.type "set_iterator",data:=.fields [.ref s.heap.objs.size,rawInt 0,.ref a,rawInt (ns.length:Int),rawInt (ep:Int)].toArray }) (s.heap.push TO).objs.size a (.ref s.heap.objs.size) 0 es.size ep:=⟨_,Heap.get?_push_size _ rfl,rfl,by simp [rawInt,hn]⟩
  rw [hn] at W
  refine h _ _ _ _ _ d pm W ⟨Nat.zero_le _,hn▸st0,Heap.get?_push_of_some _ (ho1 _),Heap.get?_push_of_some _ (Heap.get?_push_size _ (by rw [eTO];rfl))⟩ (λb ob q=>Heap.get?_push_of_some _ (Heap.get?_push_of_some _ q)) (by rw [hsz];omega) ?_
  intro b z
  simp only [List.mem_cons,List.not_mem_nil,or_false] at z
  rcases z with rfl | rfl | rfl
  ·right;rw [hsz];omega
  ·exact .inl rfl
  ·exact .inr (Nat.le_refl _)
 ·rw [if_neg hc]
  refine wpAny_bind (wpAny_pure ?_)
  refine wpAny_bind (wpAny_setEpoch_of ho hd hf ?_)
  refine wpAny_bind (wpAny_newObj_type (wpAny_pure ⟨_,rfl, "set_iterator",_,⟨_,Heap.get?_push_size _ rfl,rfl⟩,zaw.lookup,?_⟩))
  have hdr:cD w=true\/(!t.plain && decide (es.size > 1))=false:=by
   cases z:cD w with
   | true=>exact .inl rfl
   | false=>rw [z] at hc;exact .inr (by simpa using hc)
  have W:=xB (q:=λi v=>∃ k tk,((cO w a ep es).toList.map bc)[i]? = some k/\v = .int k tk) (EU (P:=P) (w:=w) (A:=A) (a:=a) (it:=s.heap.objs.size) hh (Nat.ne_of_lt alt) hd hf ok hl hdr) (by
   rintro i v ⟨e,q,rfl⟩
   exact vl zbC q)
  have st0:IsSetIt (s.heap.push { cls:=.type "set_iterator",data:=.fields [rawInt 0,rawInt 0,.ref a,rawInt (ns.length:Int),rawInt (ep:Int)].toArray }) s.heap.objs.size a (.int (fN w t 0) 0) 0 es.size ep:=⟨_,Heap.get?_push_size _ rfl,rfl,by simp [rawInt,hn,fN]⟩
  rw [hn] at W
  refine h _ _ _ _ _ s.drawn ((zbC.map bc).trans hp) W ⟨Nat.zero_le _,hn▸st0,Heap.get?_push_of_some _ ho⟩ (λb ob q=>Heap.get?_push_of_some _ q) (Nat.le_refl _) ?_
  intro b z
  simp only [List.mem_cons,List.not_mem_nil,or_false] at z
  rcases z with rfl | rfl
  ·exact .inr (Nat.le_refl _)
  ·exact .inl rfl
end
end L2
namespace L2
open PySem PySem.Spec PyProof.Rows PySem.W PyProof.V PySem.Calls
section
variable {P:Program} {w:World} {A:Around} {E:Value->Shared->Prop} {s:Shared} {a:Addr} {ns:List Int}
theorem EZ {Q:Bool->Shared->Prop} (hT:s.TypeIs (.ref a) "set") (h:Q false s):wpAny (model P w) A (Builtin.List.listLengthHint (.ref a)) Q E s:=by
 unfold Builtin.List.listLengthHint
 refine wpAny_bind (wpAny_specialOf hT PySem.F.slot_set_len.lookup ?_)
 generalize hid:("set.__len__" : String)=id0
 wp_delta
 rw [show splitId id0=some ("set", "__len__") from by subst hid;decide +kernel]
 subst hid
 refine wpAny_bind (wpAny_isInstance (T := "set") (b:=true) hT (by rw [isSubtype_type];kernel_rfl) ?_)
 refine wpAny_ite_split (λhab=>absurd hab (by decide)) (λ_=>?_)
 refine wpAny_ite_split (λ_=>?_) (λhab=>absurd (by decide +kernel) hab)
 refine wpAny_bind (wpAny_typeOf hT ?_)
 exact wpAny_pure h
theorem E1 {ms:List Int} {acc:Array Value} (h:ItemsOf (λi v=>∃ k tk,ms[i]? = some k/\v=Value.int k tk) acc ms.length):IntsAre acc.toList ms:=by
 obtain ⟨h1,h2⟩:=h
 have l1:acc.toList.length=ms.length:=by rw [Array.length_toList];exact h1
 have h3:∀ (j:Nat) (v:Value),acc.toList[j]? = some v->∃ k tk,ms[j]? = some k/\v=Value.int k tk:=λj v q=>h2 j v (by rw [<- Array.getElem?_toList];exact q)
 clear h1 h2
 generalize acc.toList=l at *
 induction l generalizing ms with
 | nil =>
  cases ms with
  | nil=>exact .nil
  | cons m ms=>cases l1
 | cons v l ih =>
  cases ms with
  | nil=>cases l1
  | cons m ms =>
   obtain ⟨k,tk,e,rfl⟩:=h3 0 v rfl
   cases e
   exact .cons _ _ (ih (by simpa using l1) λj v q=>by simpa using h3 (j+1) v (by simpa using q))
theorem E2 {R:Result->Shared->Prop} (hh:A.handled=none) (S:SetI w s.heap a ns) (L:Addr) (hLa:L≠a) (res:Value) (c₀:Nat) (hS:s.heap.get? L=some { cls:=.type "list",data:=.seq #[] c₀ })
  (hR:∀ h' tk d acc' c' ms,ms.Perm ns->(∀ b o,b≠L->s.heap.get? b=some o->h'.get? b=some o)->h'.get? L=some { cls:=.type "list",dict:=none,data:=.seq acc' c',slots:=#[] }->IntsAre acc'.toList ms->R (.ok (.ret res)) { s with heap:=h',toks:=tk,drawn:=d }) (hn:ns.length<=sizeLine) :
  wpAny (model P w) A.in1 (Builtin.List.listExtendWith (.ref L) (.ref a) res)
   (λfin s' => match fin with | .done f=>R (.ok f) s' | .again c' => c'.quiet=true/\codeAny (model P w) A c' R s') (λe s' => R (.error e) s') s:=by
 have ltL:L<s.heap.objs.size:=Heap.lt_size hS
 unfold Builtin.List.listExtendWith
 refine wpAny_bind (wpAny_typeOf (T := "set") S.typeIs ?_)
 have h1:Builtin.List.listSameRef (.ref L) (.ref a)=false:=by simp [Builtin.List.listSameRef,hLa]
 have n1:(Value.type "set" == Value.type "list")=false:=by decide
 have n2:(Value.type "set" == Value.type "tuple")=false:=by decide
 simp only [h1,n1,n2,Bool.or_false,Bool.false_eq_true,if_false]
 refine wpAny_bind (EY (A:=A.in1) hh S λit fp St ms h1 d pm W st kp lit lfp=>?_)
 have lm:ms.length=ns.length:=pm.length_eq
 have hSf:L∉fp:=λz=>by
  rcases lfp L z with q | q
  ·exact hLa q
  ·exact absurd ltL (Nat.not_lt.mpr q)
 have hLi:L≠it:=λz=>absurd ltL (Nat.not_lt.mpr (z▸lit))
 have key:∀ (h:Heap) (c₁ tk:Nat),St 0 h->(∀ b o,b≠L->s.heap.get? b=some o->h.get? b=some o) ->
   h.get? L=some { cls:=.type "list",data:=.seq #[] c₁ }->codeAny (model P w) A (.builtin "list.extend.loop" ⟨[.ref L,.ref it,res],[]⟩) R { s with heap:=h,toks:=tk,drawn:=d }:=by
  intro h c₁ tk hst hk hS₁
  refine codeAny_extend_loopS W.toS hn L hSf res ns.length 0 _ #[] c₁ rfl (Nat.zero_le _) hst hS₁ (ItemsOf.nil _) λs' acc' c' hm hS' hacc=>?_
  rw [Moved.eq_with hm]
  refine hR s'.heap s'.toks d acc' c' ms pm (λb o hb e=>hm.heap b o (λhmem=>?_) (hk b o hb e)) hS' (E1 (lm▸hacc))
  rcases List.mem_cons.mp hmem with e' | hmem
  ·exact hb e'
  ·exact absurd (Heap.lt_size e) (Nat.not_lt.mpr (by rw [List.mem_singleton.mp hmem];exact lit))
 have hS₁:=kp L _ hS
 refine wpAny_bind (wpAny_holding (EZ (s:={ s with heap:=h1,drawn:=d }) (S.keep (kp a)).typeIs ?_))
 refine wpAny_ite_split (λ_=>?_) (λ_=>wpAny_pure ⟨plainId_quiet PySem.F.plain_extend_loop _,key _ c₀ _ st (λb o _ e=>kp b o e) hS₁⟩)
 refine wpAny_bind (wpAny_rule ?_)
 refine wpAny_bind ?_
 show wpAny _ _ (updateSeq L (·.push .none) >>= λ_=>updateSeq L (·.pop)) _ _ _
 refine wpAny_bind (wpAny_updateSeq hS₁ rfl ?_)
 have hS₂:=Heap.get?_update_self (Obj.mapSeq (·.push Value.none)) hS₁ rfl
 refine wpAny_updateSeq (hz:=by seq_fits) hS₂ rfl ?_
 have hS₃:=Heap.get?_update_self (Obj.mapSeq (·.pop)) hS₂ rfl
 refine wpAny_pure ⟨plainId_quiet PySem.F.plain_extend_loop _,key _ _ _ ?_ (λb o hb e=>?_) hS₃⟩
 ·refine W.frame 0 _ _ st λb hb o e=>?_
  have hbS:b≠L:=λh=>hSf (h▸hb)
  exact (Heap.get?_update_other _ _ (Ne.symm hbS)).trans ((Heap.get?_update_other _ _ (Ne.symm hbS)).trans e)
 ·exact (Heap.get?_update_other _ _ (Ne.symm hb)).trans ((Heap.get?_update_other _ _ (Ne.symm hb)).trans (kp b o e))
theorem xC {R:List Value->Shared->Prop} (hh:A.handled=none) (S:SetI w s.heap a ns) (hn:ns.length<=sizeLine)
  (h:∀ (h':Heap) (tk:Nat) (d:Drawn) (acc:Array Value) (ms:List Int),ms.Perm ns->(∀ b o,s.heap.get? b=some o->h'.get? b=some o)->IntsAre acc.toList ms->R acc.toList { s with heap:=h',toks:=tk,drawn:=d }) :
  wpAny (model P w) A (collect (.ref a)) R E s:=by
 have alt:a<s.heap.objs.size:=by
  obtain ⟨o,es,ep,t,ho,r⟩:=S
  exact Heap.lt_size ho
 unfold collect
 refine wpAny_bind (wpAny_runValue (codeAny_builtin entry_proto_collect' ?_))
 rw [Around.under_plainId PySem.F.plain_proto_collect _]
 show wpAny _ A.in1 (newList [] >>= λl=>again (.builtin "list.__iadd__" ⟨[l,.ref a],[]⟩)) _ _ s
 refine wpAny_bind (wpAny_newObj_type ?_)
 refine wpAny_pure ⟨plainId_quiet PySem.F.plain_list_iadd _,codeAny_builtin entry_list_iadd' ?_⟩
 rw [Around.under_plainId PySem.F.plain_list_iadd _]
 have hS₁:(s.heap.push { cls:=.type "list",data:=.seq ([]:List Value).toArray }).get? s.heap.objs.size=some { cls:=.type "list",data:=.seq #[] }:=Heap.get?_push_size _ rfl
 show wpAny _ A.in1 (Builtin.List.listExtendWith (.ref s.heap.objs.size) (.ref a) (.ref s.heap.objs.size)) _ _ _
 have key:=E2 (P:=P) (A:=A) (s:={ s with heap:=s.heap.push { cls:=.type "list",data:=.seq ([]:List Value).toArray } })
  (R:=λ(q:Result) (s':Shared)=>∃ (h':Heap) (tk:Nat) (d:Drawn) (acc':Array Value) (c':Nat) (ms:List Int),q = .ok (.ret (.ref s.heap.objs.size))/\s'={ s with heap:=h',toks:=tk,drawn:=d } /\
   (∀ b o,s.heap.get? b=some o->h'.get? b=some o)/\h'.get? s.heap.objs.size=some { cls:=.type "list",dict:=none,data:=.seq acc' c',slots:=#[] }/\ms.Perm ns/\IntsAre acc'.toList ms)
  hh (S.keep λo q=>Heap.get?_push_of_some _ q) s.heap.objs.size (Nat.ne_of_gt alt) (.ref s.heap.objs.size) 0 hS₁
  (λh' tk d acc' c' ms pm hk hS' hacc=>⟨h',tk,d,acc',c',ms,rfl,rfl,λb o e=>hk b o (Nat.ne_of_lt (Heap.lt_size e)) (Heap.get?_push_of_some _ e),hS',pm,hacc⟩) hn
 refine wpAny_mono key (λfin s' x=>?_) λe s' x=>?_
 ·cases fin with
  | done f =>
   obtain ⟨h',tk,d,acc',c',ms,e,rfl,hk,hS',pm,hacc⟩:=x
   cases e
   show wpAny _ A (load s.heap.objs.size >>= _) _ _ _
   refine wpAny_bind (wpAny_load hS' ?_)
   exact wpAny_pure (h h' tk d acc' ms pm hk hacc)
  | again c₁ =>
   refine ⟨x.1,codeAny_mono x.2 λq s₂ y=>?_⟩
   obtain ⟨h',tk,d,acc',c',ms,rfl,rfl,hk,hS',pm,hacc⟩:=y
   show wpAny _ A (load s.heap.objs.size >>= _) _ _ _
   refine wpAny_bind (wpAny_load hS' ?_)
   exact wpAny_pure (h h' tk d acc' ms pm hk hacc)
 ·obtain ⟨_,_,_,_,_,_,e',_⟩:=x
  cases e'
end
end L2
namespace L2
open PySem PySem.Spec PyProof.Rows
theorem nQ:bootBuiltins "set" = some (.type "set"):=by decide +kernel
theorem xD:bootBuiltins "sorted" = some (.builtin "sorted"):=by decide +kernel
section
variable {X:Cx} {E:Value->Shared->Prop} {pins:List (Addr×Obj)} {s:Shared} {σ:St} {H:Hp}
theorem nR {i:Nat} {x:Str} {v:V} {pos:Pos} {Q:Value->Shared->Prop} (I:Inv X pins σ H s) (hN:X.N[i]? = some x) (hv:fT X.env.scope x) (e:σ[i]? = some (some v)) (h:∀ u,RelV v u->Q u s) (hd:(x == ("__debug__" : Str))=false) (hcd:(x == ("__classdict__" : Str))=false):wpAny (model X.prog X.w) X.A (eval (.Name x pos) X.env) Q E s:=by
 obtain ⟨m,hn,hl⟩:=I.loc
 obtain ⟨u,r,l⟩:=hl i x v hN e hv
 rcases l with ⟨hk,hm⟩ | ⟨hk,c,hc,hcell⟩
 ·exact wpAny_Name (wpAny_loadName_local I.ok.kind hk hn hm (h u r)) hd
 ·rcases hk with hk | hk
  ·exact wpAny_Name (wpAny_loadName_cell I.ok.kind hk hc hcell (h u r)) hd
  ·exact wpAny_Name (wpAny_loadName_free I.ok.kind hk hc hcell (h u r) hcd) hd
theorem Inv.drw {d:Drawn} (I:Inv X pins σ H s):Inv X pins σ H { s with drawn:=d }:=⟨I.ok,I.os,I.bare,I.base,I.loc,I.cell,I.free,I.freeC,I.pin,I.hok,I.len⟩
end
end L2
namespace Sm
open PySem PySem.Spec L2
def fO (v:Option (Option AV)) (h:AH):Option (List Int):=match v with
 | some (some x)=>(dC x h).bind iY
 | _=>none
theorem E3 {l m:List Int} (nl:l.Nodup) (nm:m.Nodup) (h:∀ k,k∈l ↔ k∈m):l.Perm m:=(List.perm_ext_iff_of_nodup nl nm).mpr h
section
variable {T:Tb} {E:St->XK} {X:Cx}
theorem xE {ι:Ix} {h:AH} {H:Hp} {en:En} {σ:St} {i:Nat} {xs:List Int} (S:Sim T ι h H) (er:ER T ι H en σ) (e:fO en[i]? h=some xs):∃ a,σ[i]? = some (some (.ref a))/\SqL T.K H a (xs.map V.int):=by
 unfold fO at e
 split at e
 ·rename_i x hx
  obtain ⟨u,eu,r⟩:=er.2 i x hx
  cases el:dC x h with
  | none=>rw [el] at e;cases e
  | some l =>
   rw [el] at e
   obtain ⟨a,us,rfl,sq,rs⟩:=d9 S r el
   have e':iY l=some xs:=e
   rw [rB e'] at rs
   rw [wU rs] at sq
   exact ⟨a,eu,sq⟩
 ·cases e
end
end Sm
namespace Sm
open PySem PySem.Spec L2
section
variable {T:Tb} {E:L2.St->XK} {X:Cx} {pos p:Pos} {a:Expr} {sa:SE}
theorem E4 {t t2 t3:Str} {k:Nat} {p2 p3 p4 p5:Pos} {pr pr2 pr3:Nat->Bool} (hK:X.K=T.K) (hg:Gl X "isinstance") (hm:X.mg "isinstance" = none) (ha:aG T E X a sa) (hgt:Gl X t) (hgt2:Gl X t2) (hgt3:Gl X t3)
  (hp:∃ C,X.mg t=some (.ref C)/\∀ c C',T.exc c=some C'->aW T.K C'/\PySem.W.kitOne T.K (.ref C') (.ref C)=some (pr c)) (hp2:∃ C,X.mg t2=some (.ref C)/\∀ c C',T.exc c=some C'->aW T.K C'/\PySem.W.kitOne T.K (.ref C') (.ref C)=some (pr2 c))
  (hp3:∃ C,X.mg t3=some (.ref C)/\∀ c C',T.exc c=some C'->aW T.K C'/\PySem.W.kitOne T.K (.ref C') (.ref C)=some (pr3 c))
  (hd:(t == ("__debug__" : Str))=false:=by decide) (hd2:(t2 == ("__debug__" : Str))=false:=by decide) (hd3:(t3 == ("__debug__" : Str))=false:=by decide)
  (he:starEach [a,.Tuple [.Name t p2,.Name t2 p3,.Name t3 p5] k p4] X.env=(false,eval a X.env)::starEach [.Tuple [.Name t p2,.Name t2 p3,.Name t3 p5] k p4] X.env:=by rfl):aG T E X (.Call (.Name "isinstance" p) [a,.Tuple [.Name t p2,.Name t2 p3,.Name t3 p5] k p4] [] pos) (d7 (λc=>pr c || (pr2 c || pr3 c)) sa):=by
 obtain ⟨C,h1,h2⟩:=hp
 obtain ⟨C2,g1,g2⟩:=hp2
 obtain ⟨C3,i1,i2⟩:=hp3
 have pa:PA X [.Name t p2,.Name t2 p3,.Name t3 p5] (λ_ H Q=>Q [.ref C,.ref C2,.ref C3] H):=gM (kH (v:=.ref C) hgt h1 rfl hd) (gM (kH (v:=.ref C2) hgt2 g1 rfl hd2) (gM (kH (v:=.ref C3) hgt3 i1 rfl hd3) kM))
 refine D2 (tt:=a) (cVs:=[.ref C,.ref C2,.ref C3]) (cvs:=[.ref C,.ref C2,.ref C3]) hK hg hm ha pa (by show 3<=_;decide) (λus r=>?_) (λc C' e=>⟨(h2 c C' e).1,?_⟩) he
 ·cases r with
  | cons ru r=>cases r with
   | cons rw' r=>cases r with
    | cons rx r =>
     cases r
     rw [mY C _ ru,mY C2 _ rw',mY C3 _ rx]
 ·have q1:=(h2 c C' e).2
  have q2:=(g2 c C' e).2
  have q3:=(i2 c C' e).2
  simp only [PySem.W.kitAny,q1,q2,q3]
  cases pr c<;>cases pr2 c<;>cases pr3 c<;>rfl
end
end Sm
namespace Sm
open PySem PySem.Spec L2
@[simp] def iA (a:SE) (t:Tg) (b:SS):SS:=λen h=>match a en h with
 | .ok (.fl xs) h1=>gB none xs t b xs en h1
 | .ok (.ref n) h1=>(match h1[n]? with
  | some (.lst xs)=>gB (some n) xs t b xs en h1
  | _=>.bad)
 | .ex c h1=>.ex c en h1
 | _=>.bad
section
variable {T:Tb} {E:St->XK} {X:Cx} {pos:Pos} {a:Expr} {sa:SE} {sts:List Stmt} {s1:SS}
theorem E5 {tg:Expr} {t:Tg} (hp:PassesOwn (model X.prog X.w) X.A X.env X.xe) (hK:X.K=T.K) (hc:X.calm=true) (ha:aG T E X a sa) (hg:nv T X tg t) (hb:bN T E X sts s1) (hs:∀ x,foldedSetIterable a X.env x=pure x:=by intro _;rfl) :
  dP T E X (.For tg a sts [] pos) (iA sa t s1):=by
 obtain ⟨g,hg1,hg2⟩:=hg
 refine fg (pK hp hc (uM ha) hg1 hb hs) λD σ H=>E6x λι h en S er q=>⟨ι,h,en,S,er,?_⟩
 unfold iA at q
 cases e:sa en h with
 | bad=>rw [e] at q;exact q
 | ex c h1=>rw [e] at q;exact λι' H' C g' S' t' => q ι' H' σ C g' S' (er.mono g') t'
 | ok v h1 =>
  rw [e] at q
  intro ι1 H1 u g1 S1 r1
  cases r1 with
  | fl n hr rs=>exact ⟨_,rfl,⟨_,kd hK (.inl hr)⟩,rA hg2 S1 (er.mono g1) (hK▸nA (qN n hr) rs) (PostS.shift q g1)⟩
  | kfl hr rs=>exact ⟨_,rfl,⟨_,kd hK (.inr hr)⟩,rA hg2 S1 (er.mono g1) (hK▸nA (λ_ _ _=>.inr hr) rs) (PostS.shift q g1)⟩
  | @ref n ad hr =>
   dsimp only at q
   cases e2:h1[n]? with
   | none=>rw [e2] at q;exact q.elim
   | some o =>
    rw [e2] at q
    cases o with
    | lst xs =>
     obtain ⟨u,e1,us,rfl,rs⟩:=S1.obj n _ _ e2 hr
     exact ⟨_,rfl,⟨_,.of e1⟩,rA hg2 S1 (er.mono g1) (wc hr) (PostS.shift q g1)⟩
    | _=>exact q.elim
  | _=>exact q.elim
end
end Sm
namespace L2
open PySem PySem.Spec PyProof.Rows
theorem E6 {X:Cx} (hc:X.calm=true):CallR X (.builtin "sorted") (λxs H Q=>∃ (a:Addr) (kvs:List (aF×V)) (ns:List Int),xs=[.ref a]/\H a=some (.dK kvs)/\kvs.map (·.1)=ns.map Sum.inl/\ns.length<64/\∀ (p:Addr) (ns':List Int),H p=none->ns'.Perm ns->ns'.Pairwise (· <= ·)->Q (.ref p) (aI H p (.lst (ns'.map V.int)))):=by
 intro pins s σ H xs us Q I rv h
 obtain ⟨a,kvs,ns,rfl,ha,hn,h64,q⟩:=h
 obtain ⟨u,rfl,ru⟩:=Vals.one rv
 obtain rfl:u=Value.ref a:=ru
 obtain ⟨z,hd,vs,rel,dd⟩:=qb I.hok ha
 obtain ⟨ep,da⟩:=dd.dictAt
 have lv:vs.length=kvs.length:=(Paired.length rel).symm
 refine Calls.call_function_entry kind_sorted plain_sorted entry_sorted (args_sorted1 _) ?_
 unfold Builtin.«sorted»
 refine wpAny_bind (m:=checkCount "sorted" 1 1 _) (wpAny_pure (wpAny_bind (PySem.W.kdu_collect (PySem.W.kdl_dict (knd:=fB X.prog X.w) (kvs:=vs) (ep:=ep) hd) (I.ok.hd hc) da (by rw [lv];exact z) λh' tk acc hk hacc=>?_)))
 have hl:acc.toList.length=vs.length:=by rw [Array.length_toList];exact hacc.1
 have hI:IntsAre acc.toList ns:=wV rel hn hl λi v e=>hacc.2 i v (by rw [<- Array.getElem?_toList];exact e)
 have hz:acc.toList.length<=sizeLine:=by rw [hl,lv];exact z
 refine wpAny_bind (wpAny_newList ?_ hz)
 have hoL:(h'.push (seqObj "list" acc.toList.toArray 0)).get? h'.objs.size=some (seqObj "list" acc.toList.toArray 0):=Heap.get?_push_size _ rfl
 refine wpAny_bind (wpAny_holding (wpAny_call_entry slot_list_sort ⟨_,hoL,rfl⟩ entry_list_sort (list_sort_tree (s:={ s with heap:=h'.push (seqObj "list" acc.toList.toArray 0),toks:=tk }) hoL hI (by rw [IntsAre.length hI];exact h64) λout ns' o1 o2 o3=>⟨_,rfl,wpAny_pure ⟨_,rfl,?_⟩⟩) (args_list_sort _)))
 have I1:Inv X pins σ H { s with heap:=h',toks:=tk }:=I.kept (t' := tk) hk
 obtain ⟨e,he⟩:=sortedHeap_at (out:=out) hoL
 have l2:ns'.length=ns.length:=o2.length_eq
 have l3:ns.length=kvs.length:=by have:=congrArg List.length hn;simpa using this.symm
 refine ⟨.ref h'.objs.size,_,I1.laid (a:=h'.objs.size) (t' := tk) (o:=.lst (ns'.map V.int)) (λb o hb=>?_) (Nat.le_refl _) ⟨?_,out.toList,e,kU o1,?_⟩,rfl,q _ ns' (I1.hok.fresh (Nat.le_refl _)) o2 o3⟩
 ·have lt:b<h'.objs.size:=Heap.lt_size hb
  rw [sortedHeap_old (Nat.ne_of_lt lt) (by rw [size_push'];exact Nat.lt_succ_of_lt lt)]
  exact Heap.get?_push_of_some _ hb
 ·rw [List.length_map,l2,l3];exact z
 ·rw [he]
end L2
namespace L2
open PySem PySem.Spec PyProof.Rows
section
variable {X:Cx} {E:Value->Shared->Prop} {pins:List (Addr×Obj)} {s:Shared} {σ:St} {H:Hp}
theorem E7 {x y:Str} {i j:Nat} {p0 p1 p2 p3 p4 p5 p6 p7 p8:Pos} (hcalm:X.calm=true) (hgs:Gl X "sorted") (hms:X.mg "sorted" = none) (hgt:Gl X "set") (hmt:X.mg "set" = none) (hN1:X.N[i]? = some x) (hv1:fT X.env.scope x) (hN2:X.N[j]? = some y) (hv2:fT X.env.scope y)
  (hd1:(x == ("__debug__" : Str))=false) (hc1:(x == ("__classdict__" : Str))=false) (hd2:(y == ("__debug__" : Str))=false) (hc2:(y == ("__classdict__" : Str))=false)
  (hs:starEach [.BinOp (.Call (.Name "set" p1) [.Name x p2] [] p3) .BitAnd (.Call (.Name "set" p4) [.Name y p5] [] p6) p7] X.env=[(false,eval (.BinOp (.Call (.Name "set" p1) [.Name x p2] [] p3) .BitAnd (.Call (.Name "set" p4) [.Name y p5] [] p6) p7) X.env)])
  (gG:starEach [.Name x p2] X.env=[(false,eval (.Name x p2) X.env)]) (hs2:starEach [.Name y p5] X.env=[(false,eval (.Name y p5) X.env)]) :
  PE X (.Call (.Name "sorted" p0) [.BinOp (.Call (.Name "set" p1) [.Name x p2] [] p3) .BitAnd (.Call (.Name "set" p4) [.Name y p5] [] p6) p7] [] p8)
   (λσ H Q=>∃ (l1 l2:Addr) (xs ys:List Int),σ[i]? = some (some (.ref l1))/\σ[j]? = some (some (.ref l2))/\SqL X.K H l1 (xs.map V.int)/\SqL X.K H l2 (ys.map V.int)/\xs.Nodup/\ys.Nodup/\xs.length<64/\ys.length<64 /\
    ∀ (l:Addr) (zs:List Int),H l=none->zs.Pairwise (· <= ·)->zs.Nodup->(∀ k,k∈zs ↔ k∈xs/\k∈ys)->Q (.ref l) (aI H l (.lst (zs.map V.int)))):=by
 intro pins s σ H Q I h
 obtain ⟨l1,l2,xs,ys,e1,e2,sq1,sq2,nx,ny,lx,ly,q⟩:=h
 have hh:=I.ok.hd hcalm
 refine Call_ (fU I hgs hms xD (callWith_builtin1 ?_ hs rfl))
 rw [hs]
 show wpAny _ _ (spliced ((false,eval (.BinOp (.Call (.Name "set" p1) [.Name x p2] [] p3) .BitAnd (.Call (.Name "set" p4) [.Name y p5] [] p6) p7) X.env)::backTo p8 (starEach [] X.env))) _ _ s
 refine Calls.spliced_cons (wpAny_BinOp ?_)
 refine Call_ (fU I hgt hmt nQ (callWith_type1 ?_ gG rfl))
 rw [gG]
 show wpAny _ _ (spliced ((false,eval (.Name x p2) X.env)::backTo p3 (starEach [] X.env))) _ _ s
 refine Calls.spliced_cons (nR I hN1 hv1 e1 (λu r=>Calls.spliced_nil ?_) hd1 hc1)
 obtain rfl:u = .ref l1:=r
 obtain ⟨its1,v1,pl1,_⟩:=I.list sq1
 have b1:its1.toArray.size+1<scanBound:=by
  have:=(iO v1).length
  rw [List.size_toArray,this]
  exact Nat.lt_of_lt_of_le (Nat.succ_lt_succ lx) (by decide)
 refine nP hh pl1.isList (by simpa using iO v1) nx b1 λh1 t1 S1 k1=>?_
 have I1:Inv X pins σ H { s with heap:=h1,toks:=t1 }:=I.kept k1
 refine Call_ (fU I1 hgt hmt nQ (callWith_type1 ?_ hs2 rfl))
 rw [hs2]
 show wpAny _ _ (spliced ((false,eval (.Name y p5) X.env)::backTo p6 (starEach [] X.env))) _ _ _
 refine Calls.spliced_cons (nR I1 hN2 hv2 e2 (λu r=>Calls.spliced_nil ?_) hd2 hc2)
 obtain rfl:u = .ref l2:=r
 obtain ⟨its2,v2,pl2,_⟩:=I1.list sq2
 have b2:its2.toArray.size+1<scanBound:=by
  have:=(iO v2).length
  rw [List.size_toArray,this]
  exact Nat.lt_of_lt_of_le (Nat.succ_lt_succ ly) (by decide)
 refine nP hh pl2.isList (by simpa using iO v2) ny b2 λh2 t2 S2 k2=>?_
 have I2:Inv X pins σ H { s with heap:=h2,toks:=t2 }:=I1.kept k2
 have lV:s.heap.objs.size<h1.objs.size:=by
  obtain ⟨o,es,ep,t,ho,r⟩:=S1
  exact Heap.lt_size ho
 have S1':SetI X.w h2 s.heap.objs.size xs:=S1.keep λo q=>k2 _ o q
 refine xm (s:={ s with heap:=h2,toks:=t2 }) S1' S2 (Nat.ne_of_lt lV) nx ny (Nat.lt_of_lt_of_le (Nat.succ_lt_succ lx) (by decide)) (Nat.lt_of_lt_of_le (Nat.succ_lt_succ ly) (by decide)) λh3 zs S3 nz mz k3=>Calls.spliced_nil ?_
 have I3:Inv X pins σ H { s with heap:=h3,toks:=t2 }:=I2.kept k3
 have lz:zs.length<=sizeLine:=by
  have:zs.length<=xs.length:=nz.length_le_of_subset λk z=>((mz k).mp z).1
  exact Nat.le_trans this (Nat.le_trans (Nat.le_of_lt lx) (by decide))
 refine Calls.call_function_entry kind_sorted plain_sorted entry_sorted (args_sorted1 _) ?_
 unfold Builtin.«sorted»
 refine wpAny_bind (m:=checkCount "sorted" 1 1 _) (wpAny_pure (wpAny_bind (xC (s:={ s with heap:=h3,toks:=t2 }) hh S3 lz λh4 t4 d acc ms pm k4 hI=>?_)))
 have I4:Inv X pins σ H { s with heap:=h4,toks:=t4,drawn:=d }:=(I3.kept (t' := t4) k4).drw
 have lm:acc.toList.length=zs.length:=by rw [IntsAre.length hI,pm.length_eq]
 have hz:acc.toList.length<=sizeLine:=by rw [lm];exact lz
 refine wpAny_bind (wpAny_newList ?_ hz)
 have hoL:(h4.push (seqObj "list" acc.toList.toArray 0)).get? h4.objs.size=some (seqObj "list" acc.toList.toArray 0):=Heap.get?_push_size _ rfl
 refine wpAny_bind (wpAny_holding (wpAny_call_entry slot_list_sort ⟨_,hoL,rfl⟩ entry_list_sort (list_sort_tree (s:={ s with heap:=h4.push (seqObj "list" acc.toList.toArray 0),toks:=t4,drawn:=d }) hoL hI (by rw [lm];exact Nat.lt_of_le_of_lt (nz.length_le_of_subset λk z=>((mz k).mp z).1) lx) λout ns' o1 o2 o3=>⟨_,rfl,wpAny_pure ⟨_,rfl,?_⟩⟩)))
 obtain ⟨e,he⟩:=sortedHeap_at (out:=out) hoL
 have pz:ns'.Perm zs:=o2.trans pm
 refine ⟨.ref h4.objs.size,_,I4.laid (a:=h4.objs.size) (t' := t4) (o:=.lst (ns'.map V.int)) (λb o hb=>?_) (Nat.le_refl _) ⟨?_,out.toList,e,kU o1,?_⟩,rfl,q _ ns' (I4.hok.fresh (Nat.le_refl _)) o3 (pz.nodup_iff.mpr nz) λk=>pz.mem_iff.trans (mz k)⟩
 ·have lt:b<h4.objs.size:=Heap.lt_size hb
  rw [sortedHeap_old (Nat.ne_of_lt lt) (by rw [size_push'];exact Nat.lt_succ_of_lt lt)]
  exact Heap.get?_push_of_some _ hb
 ·rw [List.length_map,pz.length_eq];exact lz
 ·rw [he]
end
end L2
namespace Sm
open PySem PySem.Spec L2
def lK:Fn:=λargs h=>match args with
 | [v]=>(match lJ v h with
  | some ns=>if ns.length<64 then .ok (.fl ((iz ns).map AV.int)) h else .bad
  | none=>.bad)
 | _=>.bad
def iZ (i j:Nat):SE:=λen h=>match fO en[i]? h,fO en[j]? h with
 | some xs,some ys=>if xs.Nodup/\ys.Nodup/\xs.length<64/\ys.length<64 then .ok (.ref h.length) (h++[.lst ((iz (xs.filter λk=>decide (k∈ys))).map AV.int)]) else .bad
 | _,_=>.bad
section
variable {T:Tb} {E:L2.St->XK} {X:Cx}
theorem E8 (hc:X.calm=true:=by rfl):∃ r,CallR X (.builtin "sorted") r/\fX T lK r:=by
 refine ⟨_,E6 hc,λι h H xs us E Q S r q=>?_⟩
 unfold lK at q
 split at q
 ·split at q
  ·rename_i ns hn
   split at q
   case isFalse=>exact q.elim
   rename_i h64
   cases r with
   | cons r r' =>
    cases r'
    obtain ⟨ad,kus,rfl,e1,e2⟩:=Er S r hn
    refine ⟨ad,kus,ns,rfl,e1,e2,h64,λp ns' hp pr so=>?_⟩
    have:ns'=iz ns:=nO (pr.trans (lI ns).symm) so (nN ns)
    subst this
    exact q ι _ _ (S.growNew hp) (S.new hp) (.fl (S.fresh hp) (.of dU) (rD _))
  ·exact q.elim
 ·exact q.elim
theorem E9 (i j:Nat) {x y:Str} {p0 p1 p2 p3 p4 p5 p6 p7 p8:Pos} (hK:X.K=T.K) (hcalm:X.calm=true) (hgs:Gl X "sorted") (hms:X.mg "sorted" = none) (hgt:Gl X "set") (hmt:X.mg "set" = none) (hN1:X.N[i]? = some x:=by rfl) (hN2:X.N[j]? = some y:=by rfl)
  (hv1:fT X.env.scope x:=by first | exact Or.inl rfl | exact Or.inr (Or.inl rfl) | exact Or.inr (Or.inr rfl)) (hv2:fT X.env.scope y:=by first | exact Or.inl rfl | exact Or.inr (Or.inl rfl) | exact Or.inr (Or.inr rfl))
  (hd1:(x == ("__debug__" : Str))=false:=by decide) (hc1:(x == ("__classdict__" : Str))=false:=by decide) (hd2:(y == ("__debug__" : Str))=false:=by decide) (hc2:(y == ("__classdict__" : Str))=false:=by decide)
  (hs:starEach [.BinOp (.Call (.Name "set" p1) [.Name x p2] [] p3) .BitAnd (.Call (.Name "set" p4) [.Name y p5] [] p6) p7] X.env=[(false,eval (.BinOp (.Call (.Name "set" p1) [.Name x p2] [] p3) .BitAnd (.Call (.Name "set" p4) [.Name y p5] [] p6) p7) X.env)]:=by rfl)
  (gG:starEach [.Name x p2] X.env=[(false,eval (.Name x p2) X.env)]:=by rfl) (hs2:starEach [.Name y p5] X.env=[(false,eval (.Name y p5) X.env)]:=by rfl) :
  aG T E X (.Call (.Name "sorted" p0) [.BinOp (.Call (.Name "set" p1) [.Name x p2] [] p3) .BitAnd (.Call (.Name "set" p4) [.Name y p5] [] p6) p7] [] p8) (iZ i j):=by
 refine bW (E7 hcalm hgs hms hgt hmt hN1 hv1 hN2 hv2 hd1 hc1 hd2 hc2 hs gG hs2) λσ H Q Zz=>?_;obtain ⟨ι,h,en,S,er,q⟩:=Zz
 unfold iZ at q
 split at q
 ·rename_i xs ys ex ey
  split at q
  ·rename_i hz
   obtain ⟨a,ea,sa⟩:=xE S er ex
   obtain ⟨b,eb,sb⟩:=xE S er ey
   refine ⟨a,b,xs,ys,ea,eb,hK▸sa,hK▸sb,hz.1,hz.2.1,hz.2.2.1,hz.2.2.2,λl zs hl so nz mz=>?_⟩
   have pz:zs.Perm (xs.filter λk=>decide (k∈ys)):=E3 nz (hz.1.filter _) λk=>by
    rw [mz,List.mem_filter,decide_eq_true_eq]
   have:zs=iz (xs.filter λk=>decide (k∈ys)):=nO (pz.trans (lI _).symm) so (nN _)
   subst this
   exact q _ _ _ (S.growAdd hl) (S.add hl ⟨_,rfl,rD _⟩) (.ref S.addAt)
  ·exact q.elim
 ·exact q.elim
end
end Sm
namespace Sk
open PySem PySem.Spec L2 Sm
abbrev IM:Nat:=0
abbrev IP:Nat:=1
abbrev c5:Nat:=2
abbrev Fb:Nat:=3
abbrev Fc:Nat:=4
abbrev Fd:Nat:=5
abbrev IQ:Nat:=6
def rL (c:Nat):Bool:=[false,false,true,false,false,false,false].getD c false
def rM (c:Nat):Bool:=[false,false,false,false,false,false,true].getD c false
def rN (c:Nat):Bool:=[false,true,false,false,false,false,false].getD c false
def rO (c:Nat):Bool:=[false,false,false,false,false,true,false].getD c false
def rP (c:Nat):Bool:=[true,true,true,true,true,true,true].getD c false
def kh (c:Nat):Bool:=[true,true,true,true,true,true,true].getD c false
def i3:Fn:=aC 1 1
  (ak (hZ 0 0 (aa 0) (fv af))
  (ak (hZ 0 1 (aa 0) (gQ true))
  (ak (hZ 0 2 (aa 0) (fv (ai (ae (.int 0)) af)))
  (ak (hZ 0 3 (aa 0) (fv (ai (ae (.int 0)) af)))
  (ak (hZ 0 4 (aa 0) (fv (ai (ae (.int 0)) af)))
  (ak (hZ 0 5 (aa 0) (fv (ai (dZ dD (ae (.int 1))) af)))
  (ak (hZ 0 6 (aa 0) (fv (ai (ae (.int 0)) af)))
  (hZ 0 7 (aa 0) (fv (ai (ae (.int 0)) af))))))))))
def cZ:Fn:=aC 2 3
  (ak (au 2 (ag cJ (ag aw (aa 0) (ae (.int 0))) (aa 1)))
  (ak (dF (aa 0) (ae (.int 0)) (ag fD (ag aw (aa 0) (ae (.int 0))) (aa 1)))
  (aA (aa 2))))
def jT:SS :=
  (au 5 (ag ar (aa 5) (ag aw (aa 4) (aD cZ (ai (aa 0) (ai (aD br (ai (aa 4) af)) af))))))
def lL:Fn:=aC 2 7
  (ak (au 2 (ae (.str "abcdefghijklmnopqrstuvwxyz")))
  (ak (au 3 (ag ar (ag ar (aa 2) (jF nh nL (aa 2))) (ae (.str " !#$&'()*+,-./0123456789:;<=>?\x40[]^_{|}~\n\\"))))
  (ak (au 4 (ag aw (aM (ai (ae (.str "a")) (ai (ae (.str "ab")) (ai (ae (.str "ab\n")) (ai (ae (.str "a \n~")) (ai (aa 3) af)))))) (aD cZ (ai (aa 0) (ai (ae (.int 5)) af)))))
  (ak (au 5 (ae (.str "")))
  (ak (bp (fF (aD cZ (ai (aa 0) (ai (ag ar (aa 1) (ae (.int 1))) af)))) (.nm 6) jT)
  (aA (aa 5)))))))
def nS:Fn:=aC 1 1
  (aA (ng (ib "int" (aa 0)) (vX (ib "bool" (aa 0)))))
def nT:Fn:=aC 2 2
  (aA (ng (aD nS (ai (aa 1) af)) (k8 gz gz (ae (.int 1)) (aa 1) (aD br (ai (Sm.sFld 0 0 (aa 0)) af)))))
def iB:Fn:=aC 2 2
  (bo (fE (iS (aJ 0 nT (aa 0) (ai (aa 1) af)))) (h9 2 (ai (ae (.str "no piece of the shelf has this number")) af)) bI)
def i4:Fn:=aC 3 4
  (ak (bR (aJ 0 iB (aa 0) (ai (aa 1) af)))
  (ak (bR (aJ 0 iB (aa 0) (ai (aa 2) af)))
  (ak (au 3 (ag ar (ag aw (Sm.sFld 0 2 (aa 0)) (ag aw (Sm.sFld 0 7 (aa 0)) (aa 1))) (ag aw (Sm.sFld 0 2 (aa 0)) (ag aw (Sm.sFld 0 6 (aa 0)) (aa 2)))))
  (ak (bo (aS (ag gz (aa 3) (ae (.int 8)))) (h9 3 (ai (ae (.str "the leaves where the parts meet have no more than eight signs together")) af)) bI)
  (ak (bo (aS (ag iR (aD jC (ai (ag cI (ag aw (Sm.sFld 0 5 (aa 0)) (aa 1)) (ag aw (Sm.sFld 0 5 (aa 0)) (aa 2))) af)) (ae (.int 1)))) (h9 4 (ai (ae (.str "the heights of the parts differ by more than one")) af)) bI)
  (bo (aS (ag iR (ag ar (ag aw (Sm.sFld 0 2 (aa 0)) (aa 1)) (ag aw (Sm.sFld 0 2 (aa 0)) (aa 2))) (ae (.int 1000000000000000000)))) (h9 5 (ai (ae (.str "the fork would have more than 10 ** 18 signs")) af)) bI))))))
def lM:Fn:=aC 2 3
  (ak (bR (d8 cn dG (Sm.sFld 0 0 (aa 0)) (ai (aa 1) af)))
  (ak (au 2 (aD br (ai (Sm.sFld 0 0 (aa 0)) af)))
  (ak (dF (Sm.sFld 0 1 (aa 0)) (aa 1) (aa 2))
  (aA (aa 2)))))
def lN:Fn:=aC 2 4
  (ak (bR (aJ 0 lM (aa 0) (ai (aa 1) af)))
  (ak (au 2 (ag aw (aa 1) (ae (.int 1))))
  (ak (au 3 (ag aw (aa 1) (ae (.int 2))))
  (ak (bR (d8 cn dG (Sm.sFld 0 2 (aa 0)) (ai (ag ar (ag aw (Sm.sFld 0 2 (aa 0)) (aa 2)) (ag aw (Sm.sFld 0 2 (aa 0)) (aa 3))) af)))
  (ak (bR (d8 cn dG (Sm.sFld 0 3 (aa 0)) (ai (ag ar (ag aw (Sm.sFld 0 3 (aa 0)) (aa 2)) (ag aw (Sm.sFld 0 3 (aa 0)) (aa 3))) af)))
  (ak (bR (d8 cn dG (Sm.sFld 0 4 (aa 0)) (ai (ag ar (ag aw (Sm.sFld 0 4 (aa 0)) (aa 2)) (ag aw (Sm.sFld 0 4 (aa 0)) (aa 3))) af)))
  (ak (bR (d8 cn dG (Sm.sFld 0 5 (aa 0)) (ai (ag ar (aD ia (ai (ag aw (Sm.sFld 0 5 (aa 0)) (aa 2)) (ai (ag aw (Sm.sFld 0 5 (aa 0)) (aa 3)) af))) (ae (.int 1))) af)))
  (ak (bR (d8 cn dG (Sm.sFld 0 6 (aa 0)) (ai (ag aw (Sm.sFld 0 6 (aa 0)) (aa 2)) af)))
  (bR (d8 cn dG (Sm.sFld 0 7 (aa 0)) (ai (ag aw (Sm.sFld 0 7 (aa 0)) (aa 3)) af)))))))))))
def aN:Fn:=aC 3 4
  (ak (bR (aJ 0 i4 (aa 0) (ai (aa 1) (ai (aa 2) af))))
  (ak (au 3 (hX (ai (ae (.str "fork")) (ai (aa 1) (ai (aa 2) af)))))
  (ak (bo (aS (ag fG (aa 3) (Sm.sFld 0 1 (aa 0)))) (bR (aJ 0 lN (aa 0) (ai (aa 3) af))) bI)
  (aA (ag aw (Sm.sFld 0 1 (aa 0)) (aa 3))))))
def rQ (G:Fn):Fn:=aC 2 3
  (ak (bo (aS (ag aY (aD br (ai (aa 1) af)) (ae (.int 1)))) (aA (ag aw (aa 1) (ae (.int 0)))) bI)
  (ak (au 2 (ag fD (aD br (ai (aa 1) af)) (ae (.int 2))))
  (aA (aJ 0 aN (aa 0) (ai (aD G (ai (aa 0) (ai (aX (aa 1) none (some (aa 2))) af))) (ai (aD G (ai (aa 0) (ai (aX (aa 1) (some (aa 2)) none) af))) af))))))
def gC:Nat->Fn
 | 0=>aC 2 3 (λ_ _=>.bad)
 | d+1=>rQ (gC d)
def lO:Fn:=aC 1 1
  (aA (k7 (ag aY (aa 0) (ae (.str "\n"))) (k8 gz gz (ae (.str " ")) (aa 0) (ae (.str "~")))))
def lP:Fn:=aC 1 1
  (ak (bo (fE (iS (ib "str" (aa 0)))) (aA (ae (.bl false))) bI)
  (aA (aD jD (ai (c3 [] (aO (aa 0)) bq (aD lO (ai (aa 0) af))) af))))
def nU:Fn:=aC 1 1
  (aA (ng (aD lP (ai (aa 0) af)) (k8 gz gz (ae (.int 1)) (aD br (ai (aa 0) af)) (ae (.int 8)))))
def nV:Fn:=aC 1 1
  (aA (d8 nh qE (aa 0) (ai (ae (.str "\n")) af)))
def lQ:Fn:=aC 2 4
  (ak (au 2 (aJ 0 lM (aa 0) (ai (aa 1) af)))
  (ak (au 3 (ag aw (aa 1) (ae (.int 1))))
  (ak (bR (d8 cn dG (Sm.sFld 0 2 (aa 0)) (ai (aD br (ai (aa 3) af)) af)))
  (ak (bR (d8 cn dG (Sm.sFld 0 3 (aa 0)) (ai (aD nV (ai (aa 3) af)) af)))
  (ak (bR (d8 cn dG (Sm.sFld 0 4 (aa 0)) (ai (ae (.int 1)) af)))
  (ak (bR (d8 cn dG (Sm.sFld 0 5 (aa 0)) (ai (ae (.int 0)) af)))
  (ak (bR (d8 cn dG (Sm.sFld 0 6 (aa 0)) (ai (aa 2) af)))
  (bR (d8 cn dG (Sm.sFld 0 7 (aa 0)) (ai (aa 2) af))))))))))
def dR:Fn:=aC 2 3
  (ak (bo (fE (iS (aD nU (ai (aa 1) af)))) (h9 1 (ai (ae (.str "a leaf is a plain text of one to eight signs")) af)) bI)
  (ak (au 2 (hX (ai (ae (.str "leaf")) (ai (aa 1) af))))
  (ak (bo (aS (ag fG (aa 2) (Sm.sFld 0 1 (aa 0)))) (bR (aJ 0 lQ (aa 0) (ai (aa 2) af))) bI)
  (aA (ag aw (Sm.sFld 0 1 (aa 0)) (aa 2))))))
def jU:Fn:=aC 2 3
  (ak (bo (fE (iS (aD lP (ai (aa 1) af)))) (h9 1 (ai (ae (.str "a text is built of a plain text")) af)) bI)
  (ak (bo (aS (ag iR (aD br (ai (aa 1) af)) (ae (.int 10000)))) (h9 5 (ai (ae (.str "a text is built of ten thousand signs at most")) af)) bI)
  (ak (bo (aS (ag aY (aa 1) (ae (.str "")))) (aA (ae (.int 0))) bI)
  (ak (au 2 (c3 [0,1] (iy (ae (.int 0)) (aD br (ai (aa 1) af)) (ae (.int 8))) bq (aJ 0 dR (aa 1) (ai (aX (aa 2) (some (aa 0)) (some (ag ar (aa 0) (ae (.int 8))))) af))))
  (aA (aD (gC 20) (ai (aa 0) (ai (aa 2) af))))))))
def nW:Fn:=aC 1 1
  (bo (aS (ag iR (aa 0) (ae (.int 1000000000000000000)))) (h9 5 (ai (ae (.str "the text would have more than 10 ** 18 signs")) af)) bI)
def i5:Fn:=aC 2 2
  (bo (aS (ag bj (aa 1) (ae (.int 0)))) (bR (aJ 0 iB (aa 0) (ai (aa 1) af))) bI)
def iC:Fn:=aC 2 2
  (ak (bR (aJ 0 i5 (aa 0) (ai (aa 1) af)))
  (aA (ag aw (Sm.sFld 0 2 (aa 0)) (aa 1))))
def lR:Fn:=aC 2 2
  (ak (bR (aJ 0 i5 (aa 0) (ai (aa 1) af)))
  (aA (ag aw (Sm.sFld 0 7 (aa 0)) (aa 1))))
def lS:Fn:=aC 2 2
  (ak (bR (aJ 0 i5 (aa 0) (ai (aa 1) af)))
  (aA (ag aw (Sm.sFld 0 6 (aa 0)) (aa 1))))
def nX:Fn:=aC 3 3
  (aA (ag iR (ag ar (aJ 0 iC (aa 0) (ai (aJ 0 lR (aa 0) (ai (aa 1) af)) af)) (aJ 0 iC (aa 0) (ai (aJ 0 lS (aa 0) (ai (aa 2) af)) af))) (ae (.int 8))))
def cU:Fn:=aC 2 2
  (ak (bR (aJ 0 iB (aa 0) (ai (aa 1) af)))
  (aA (ag aw (Sm.sFld 0 0 (aa 0)) (ag cI (aa 1) (ae (.int 1))))))
def rR (G:Fn):Fn:=aC 3 4
  (ak (au 3 (aJ 0 cU (aa 0) (ai (aa 1) af)))
  (ak (bo (aS (ag aY (ag aw (aa 3) (ae (.int 0))) (ae (.str "leaf")))) (aA (aa 2)) bI)
  (aA (aJ 0 aN (aa 0) (ai (ag aw (aa 3) (ae (.int 1))) (ai (aD G (ai (aa 0) (ai (ag aw (aa 3) (ae (.int 2))) (ai (aa 2) af)))) af))))))
def fZ:Nat->Fn
 | 0=>aC 3 4 (λ_ _=>.bad)
 | d+1=>rR (fZ d)
def fP:Fn:=aC 2 2
  (ak (bR (aJ 0 i5 (aa 0) (ai (aa 1) af)))
  (aA (ag aw (Sm.sFld 0 5 (aa 0)) (aa 1))))
def fz:Fn:=aC 3 7
  (ak (bo (aS (ag gR (ag cI (aJ 0 fP (aa 0) (ai (aa 2) af)) (aJ 0 fP (aa 0) (ai (aa 1) af))) (ae (.int 2)))) (aA (aJ 0 aN (aa 0) (ai (aa 1) (ai (aa 2) af)))) bI)
  (ak (au 3 (aJ 0 cU (aa 0) (ai (aa 2) af)))
  (ak (au 4 (ag aw (aa 3) (ae (.int 1))))
  (ak (au 5 (ag aw (aa 3) (ae (.int 2))))
  (ak (bo (aS (ag gz (aJ 0 fP (aa 0) (ai (aa 4) af)) (aJ 0 fP (aa 0) (ai (aa 5) af)))) (aA (aJ 0 aN (aa 0) (ai (aJ 0 aN (aa 0) (ai (aa 1) (ai (aa 4) af))) (ai (aa 5) af)))) bI)
  (ak (au 6 (aJ 0 cU (aa 0) (ai (aa 4) af)))
  (aA (aJ 0 aN (aa 0) (ai (aJ 0 aN (aa 0) (ai (aa 1) (ai (ag aw (aa 6) (ae (.int 1))) af))) (ai (aJ 0 aN (aa 0) (ai (ag aw (aa 6) (ae (.int 2))) (ai (aa 5) af))) af))))))))))
def nY (G:Fn):Fn:=aC 2 4
  (ak (au 2 (aJ 0 cU (aa 0) (ai (aa 1) af)))
  (ak (bo (aS (ag aY (ag aw (aa 2) (ae (.int 0))) (ae (.str "leaf")))) (aA (ae (.int 0))) bI)
  (ak (au 3 (aD G (ai (aa 0) (ai (ag aw (aa 2) (ae (.int 1))) af))))
  (ak (bo (aS (ag aY (aa 3) (ae (.int 0)))) (aA (ag aw (aa 2) (ae (.int 2)))) bI)
  (aA (aD fz (ai (aa 0) (ai (aa 3) (ai (ag aw (aa 2) (ae (.int 2))) af)))))))))
def eP:Nat->Fn
 | 0=>aC 2 4 (λ_ _=>.bad)
 | d+1=>nY (eP d)
def gD:Fn:=aC 3 7
  (ak (bo (aS (ag gR (ag cI (aJ 0 fP (aa 0) (ai (aa 1) af)) (aJ 0 fP (aa 0) (ai (aa 2) af))) (ae (.int 2)))) (aA (aJ 0 aN (aa 0) (ai (aa 1) (ai (aa 2) af)))) bI)
  (ak (au 3 (aJ 0 cU (aa 0) (ai (aa 1) af)))
  (ak (au 4 (ag aw (aa 3) (ae (.int 1))))
  (ak (au 5 (ag aw (aa 3) (ae (.int 2))))
  (ak (bo (aS (ag gz (aJ 0 fP (aa 0) (ai (aa 5) af)) (aJ 0 fP (aa 0) (ai (aa 4) af)))) (aA (aJ 0 aN (aa 0) (ai (aa 4) (ai (aJ 0 aN (aa 0) (ai (aa 5) (ai (aa 2) af))) af)))) bI)
  (ak (au 6 (aJ 0 cU (aa 0) (ai (aa 5) af)))
  (aA (aJ 0 aN (aa 0) (ai (aJ 0 aN (aa 0) (ai (aa 4) (ai (ag aw (aa 6) (ae (.int 1))) af))) (ai (aJ 0 aN (aa 0) (ai (ag aw (aa 6) (ae (.int 2))) (ai (aa 2) af))) af))))))))))
def nZ (G:Fn):Fn:=aC 3 5
  (ak (au 3 (ag cI (aJ 0 fP (aa 0) (ai (aa 1) af)) (aJ 0 fP (aa 0) (ai (aa 2) af))))
  (ak (bo (aS (ag iR (aa 3) (ae (.int 1)))) (ak (au 4 (aJ 0 cU (aa 0) (ai (aa 1) af)))
  (aA (aD fz (ai (aa 0) (ai (ag aw (aa 4) (ae (.int 1))) (ai (aD G (ai (aa 0) (ai (ag aw (aa 4) (ae (.int 2))) (ai (aa 2) af)))) af)))))) bI)
  (ak (bo (aS (ag gR (aa 3) (dZ dD (ae (.int 1))))) (ak (au 4 (aJ 0 cU (aa 0) (ai (aa 2) af)))
  (aA (aD gD (ai (aa 0) (ai (aD G (ai (aa 0) (ai (aa 1) (ai (ag aw (aa 4) (ae (.int 1))) af)))) (ai (ag aw (aa 4) (ae (.int 2))) af)))))) bI)
  (aA (aJ 0 aN (aa 0) (ai (aa 1) (ai (aa 2) af)))))))
def eE:Nat->Fn
 | 0=>aC 3 5 (λ_ _=>.bad)
 | d+1=>nZ (eE d)
def jV:Fn:=aC 3 6
  (ak (au 3 (ag ar (ag aw (aJ 0 cU (aa 0) (ai (aJ 0 lR (aa 0) (ai (aa 1) af)) af)) (ae (.int 1))) (ag aw (aJ 0 cU (aa 0) (ai (aJ 0 lS (aa 0) (ai (aa 2) af)) af)) (ae (.int 1)))))
  (ak (au 4 (aD (fZ 90) (ai (aa 0) (ai (aa 1) (ai (aJ 0 dR (aa 0) (ai (aa 3) af)) af)))))
  (ak (au 5 (aD (eP 90) (ai (aa 0) (ai (aa 2) af))))
  (ak (bo (aS (ag aY (aa 5) (ae (.int 0)))) (aA (aa 4)) bI)
  (aA (aD (eE 90) (ai (aa 0) (ai (aa 4) (ai (aa 5) af)))))))))
def gb:Fn:=aC 3 3
  (ak (bR (aD nW (ai (ag ar (aJ 0 iC (aa 0) (ai (aa 1) af)) (aJ 0 iC (aa 0) (ai (aa 2) af))) af)))
  (ak (bo (aS (ag aY (aa 1) (ae (.int 0)))) (aA (aa 2)) bI)
  (ak (bo (aS (ag aY (aa 2) (ae (.int 0)))) (aA (aa 1)) bI)
  (ak (bo (iS (aD nX (ai (aa 0) (ai (aa 1) (ai (aa 2) af))))) (aA (aD (eE 90) (ai (aa 0) (ai (aa 1) (ai (aa 2) af))))) bI)
  (aA (aD jV (ai (aa 0) (ai (aa 1) (ai (aa 2) af)))))))))
def i6:SS :=
  (ak (au 5 (ag ar (ae (.int 1)) (aD cZ (ai (aa 1) (ai (ae (.int 12)) af)))))
  (ak (bR (d8 cn dG (aa 4) (ai (aX (aa 2) none (some (aa 5))) af)))
  (au 2 (aX (aa 2) (some (aa 5)) none))))
def iD:SS :=
  (au 6 (aD gb (ai (aa 0) (ai (aa 6) (ai (aD jU (ai (aa 0) (ai (aa 7) af))) af)))))
def iE:SS :=
  (au 6 (aD gb (ai (aa 0) (ai (aD jU (ai (aa 0) (ai (aa 7) af))) (ai (aa 6) af)))))
def ki:Fn:=aC 3 8
  (ak (au 3 (aD cZ (ai (aa 1) (ai (ae (.int 3)) af))))
  (ak (bo (aS (ag aY (aa 3) (ae (.int 0)))) (aA (aD jU (ai (aa 0) (ai (aa 2) af)))) bI)
  (ak (au 4 (fv af))
  (ak (d5 (aS (ag bj (aa 2) (ae (.str "")))) i6 fK)
  (ak (au 6 (ae (.int 0)))
  (ak (bo (aS (ag aY (aa 3) (ae (.int 1)))) (bp (aO (aa 4)) (.nm 7) iD) (jR (aa 4) (.nm 7) iE))
  (aA (aa 6))))))))
def n5:Fn:=aC 2 3
  (ak (au 2 (ag cJ (ag bx (ag ar (ag ar (ag cJ (aa 0) (ae (.int 1000000007))) (ag bx (ae (.int 7919)) (aa 1))) (ae (.int 101))) (ae (.int 48271))) (ae (.int 2147483647))))
  (aA (ag cJ (ag bx (ag cJ (ag bx (aa 2) (aa 2)) (ae (.int 2147483629))) (ae (.int 69621))) (ae (.int 2147483647)))))
def kj:SS :=
  (au 2 (ag ar (ag bx (aa 2) (ag bx (ag bP (ae (.int 10)) (ae (.int 60))) (ag bP (ae (.int 10)) (ae (.int 60))))) (ag cJ (ag aw (aa 0) (aa 3)) (ag bx (ag bP (ae (.int 10)) (ae (.int 60))) (ag bP (ae (.int 10)) (ae (.int 60)))))))
def kl:SS :=
  (au 4 (ag ar (ag bx (aa 4) (ae (.int 2147483647))) (aD n5 (ai (ag ar (ag ar (aa 2) (ag bx (ae (.int 1009)) (aa 1))) (aD br (ai (aa 0) af))) (ai (aa 3) af)))))
def gY:Fn:=aC 2 5
  (ak (au 2 (ae (.int 0)))
  (ak (bp (iy (aa 1) (aD br (ai (aa 0) af)) (ae (.int 12))) (.nm 3) kj)
  (ak (bo (aS (ag qz (aa 2) (ag bP (ae (.int 10)) (ae (.int 18))))) (aA (fv (ai (aa 2) af))) bI)
  (ak (au 2 (ag ar (aa 2) (aD fJ (ai (c3 [] (aO (aa 0)) bq (ag cJ (aa 0) (ag bP (ae (.int 10)) (ae (.int 18))))) af))))
  (ak (au 4 (ae (.int 0)))
  (ak (bp (fF (ae (.int 12))) (.nm 3) kl)
  (aA (fv (ai (aa 4) af)))))))))
def dS:Fn:=aC 1 1
  (aA (aD br (ai (Sm.sFld 0 0 (aa 0)) af)))
def jW:Fn:=aC 2 3
  (ak (au 2 (aJ 0 cU (aa 0) (ai (aa 1) af)))
  (ak (bo (aS (ag aY (ag aw (aa 2) (ae (.int 0))) (ae (.str "leaf")))) (aA (aM af)) bI)
  (aA (aM (ai (ag aw (aa 2) (ae (.int 1))) (ai (ag aw (aa 2) (ae (.int 2))) af))))))
def gc:SS :=
  (ak (au 4 (jF cn dh (aa 3)))
  (bo (aS (ag fG (aa 4) (aa 2))) (ak (dF (aa 2) (aa 4) (ae (.bl true)))
  (bR (d8 cn jS (aa 3) (ai (aD jW (ai (aa 0) (ai (aa 4) af))) af)))) bI))
def cW:Fn:=aC 2 5
  (ak (au 2 (gQ false))
  (ak (au 3 (gS [] (aO (aa 1)) (aS (ag bj (aa 0) (ae (.int 0)))) (aa 0)))
  (ak (fL (aS (ag bj (aa 3) (aM af))) gc fK)
  (aA (aD lK (ai (aa 2) af))))))
def gE:SS :=
  (ak (au 5 (aJ 0 cU (aa 0) (ai (aa 4) af)))
  (bo (aS (ag aY (ag aw (aa 5) (ae (.int 0))) (ae (.str "leaf")))) (dF (aa 3) (aa 4) (aJ 0 dR (aa 2) (ai (ag aw (aa 5) (ae (.int 1))) af))) (dF (aa 3) (aa 4) (aJ 0 aN (aa 2) (ai (ag aw (aa 3) (ag aw (aa 5) (ae (.int 1)))) (ai (ag aw (aa 3) (ag aw (aa 5) (ae (.int 2)))) af))))))
def jX:Fn:=aC 2 6
  (ak (au 2 (jA 0 8 i3 af))
  (ak (au 3 (kg (ae (.int 0)) (ae (.int 0))))
  (ak (iA (aD cW (ai (aa 0) (ai (aa 1) af))) (.nm 4) gE)
  (aA (hX (ai (aa 2) (ai (c3 [3] (aO (aa 1)) bq (ag aw (aa 1) (aa 0))) af)))))))
def gZ:Fn:=aC 3 5
  (ak (au 3 (aD cW (ai (aa 0) (ai (aM (ai (aa 1) af)) af))))
  (ak (au 4 (aD cW (ai (aa 0) (ai (aM (ai (aa 2) af)) af))))
  (aA (iZ 3 4))))
def fi:Fn:=aC 3 7
  (ak (au 3 (ae .non))
  (ak (au 4 (aJ 0 dS (aa 0) af))
  (ak (au 5 (aD qC (ai (aa 2) af)))
  (ak (df 6 kh (bo (aS (ag aY (aa 1) (ae (.int 0)))) (bR (aD cW (ai (aa 0) (ai (aa 5) af)))) (bo (aS (ag aY (aa 1) (ae (.int 1)))) (bR (aD jX (ai (aa 0) (ai (aa 5) af)))) (bR (aD gZ (ai (aa 0) (ai (ag aw (aa 5) (ae (.int 0))) (ai (ag aw (aa 5) (dZ dD (ae (.int 1)))) af))))))) (au 3 (aa 6)))
  (ak (bo (qA (aS (ag bj (aa 5) (aa 2))) (aS (ag bj (aJ 0 dS (aa 0) af) (aa 4)))) (aA (ae (.str "changed"))) bI)
  (ak (bo (aS (ag jy (aa 3) (ae .non))) (aA (ae (.str ""))) bI)
  (ak (bo (qA (iS (d7 (λc=>rM c || (rN c || rO c)) (aa 3))) (fE (iS (d7 rP (aa 3))))) (aA (ae (.str "another"))) bI)
  (aA (ag aw (aM (ai (ae (.str "another")) (ai (ae (.str "piece")) af))) (aD jE (ai (d7 rL (aa 3)) af)))))))))))
def iF:SS :=
  (bo (aS (ag bj (aD fi (ai (aa 1) (ai (aa 7) (ai (ag ar (ag ar (aX (aa 6) none (some (aa 9))) (aM (ai (aa 8) af))) (aX (aa 6) (some (aa 9)) none)) af)))) (ae (.str "piece")))) (aA (ae (.bl false))) bI)
def i7:SS :=
  (ak (bo (aS (ag bj (aD fi (ai (aa 1) (ai (aa 7) (ai (aM (ai (aa 8) af)) af)))) (ae (.str "piece")))) (aA (ae (.bl false))) bI)
  (ak (bp (aO (aM (ai (ae (.int 0)) (ai (ae (.int 4)) af)))) (.nm 9) iF)
  (bo (k6 (aS (ag gR (aa 7) (ae (.int 2)))) (aS (ag bj (aD fi (ai (aa 1) (ai (aa 7) (ai (ag ar (ag ar (aX (aa 6) none (some (ae (.int 2)))) (aM (ai (aa 8) af))) (aX (aa 6) (some (ae (.int 2))) none)) af)))) (ae (.str "piece"))))) (aA (ae (.bl false))) bI)))
def jY:SS :=
  (ak (bo (aS (ag bj (aD fi (ai (aa 1) (ai (aa 7) (ai (aa 6) af)))) (ae (.str "")))) (aA (ae (.bl false))) bI)
  (bp (aO (aM (ai (dZ dD (ae (.int 1))) (ai (ag cI (ae (.int 0)) (aa 5)) (ai (ag ar (aJ 0 dS (aa 1) af) (ae (.int 1))) (ai (ag ar (aJ 0 dS (aa 1) af) (aa 5)) (ai (ag cI (ag bP (ae (.int 10)) (ae (.int 30))) (ae (.int 1))) af))))))) (.nm 8) i7))
def rS:Fn:=aC 1 10
  (ak (au 1 (jA 0 8 i3 af))
  (ak (au 2 (aD lL (ai (aD gY (ai (aa 0) (ai (ae (.int 0)) af))) (ai (ae (.int 30)) af))))
  (ak (au 3 (aD ki (ai (aa 1) (ai (aD gY (ai (aa 0) (ai (ae (.int 1)) af))) (ai (aa 2) af)))))
  (ak (au 4 (aD gY (ai (aa 0) (ai (ae (.int 2)) af))))
  (ak (au 5 (ag ar (ae (.int 1)) (aD cZ (ai (aa 4) (ai (ag bP (ae (.int 10)) (ae (.int 29))) af)))))
  (ak (au 6 (c3 [3,4,1] (fF (ae (.int 4))) bq (ag aw (aM (ai (aa 1) (ai (ae (.int 0)) (ai (ag ar (ae (.int 1)) (aD cZ (ai (aa 2) (ai (aD ia (ai (ae (.int 1)) (ai (aJ 0 dS (aa 3) af) af))) af)))) af)))) (aD cZ (ai (aa 2) (ai (ae (.int 3)) af))))))
  (ak (au 6 (c3 [1] (aO (aa 6)) bq (aD gA (ai (aa 0) (ai (aJ 0 dS (aa 1) af) af)))))
  (ak (bp (fF (ae (.int 3))) (.nm 7) jY)
  (aA (ae (.bl true)))))))))))
end Sk
set_option exponentiation.threshold 2000
namespace Sk
open PySem PySem.Spec L2 Sm
theorem xF {w:Option Nat} {all:List AV} {t:Tg} {b:SS} (P:Nat->En->AH->Prop):∀ (xs:List AV) (i:Nat) (en:En) (h:AH),P i en h ->
  (∀ i en h,P i en h->cS w all h=true) ->
  (∀ (j:Nat) (x:AV) (en:En) (h:AH),xs[j]? = some x->P (i+j) en h->∃ e1 e2 h2,dE t x en=some e1/\(b e1 h = .nx e2 h2\/b e1 h = .ct e2 h2)/\P (i+j+1) e2 h2) ->
  ∃ e' h',du w all t b xs en h = .nx e' h'/\P (i+xs.length) e' h'
 | [],i,en,h,p,lv,_=>⟨en,h,by unfold du;rw [if_pos (lv _ _ _ p)],p⟩
 | x::xs,i,en,h,p,lv,s=>by
  obtain ⟨e1,e2,h2,q1,q2,q3⟩:=s 0 x en h rfl p
  obtain ⟨e',h',r1,r2⟩:=xF P xs (i+1) e2 h2 q3 lv λj y en h e q=>by
   have:=s (j+1) y en h (by simpa using e) (by rw [show i+(j+1)=i+1+j by lia];exact q)
   rw [show i+(j+1)+1=i+1+j+1 by lia] at this
   exact this
  refine ⟨e',h',?_,by rw [List.length_cons,show i+(xs.length+1)=i+1+xs.length by lia];exact r2⟩
  unfold du
  rw [if_pos (lv _ _ _ p)]
  simp only [q1]
  rcases q2 with q2 | q2
  ·rw [q2];exact r1
  ·rw [q2];exact r1
theorem lT {α:Type} {js:List Nat} {en:En} {w:Option Nat} {all:List AV} {c:SB} {e:SE} {g f:α->AV} {p:α->Bool} {h:AH} (lv:cS w all h=true):∀ (cs:List α) (ys:List AV),(∀ x∈cs,c (some (g x)::js.map λj=>(en[j]?).join) h = .ok (p x) h)->(∀ x∈cs,p x=true->e (some (g x)::js.map λj=>(en[j]?).join) h = .ok (f x) h)->ys.length+cs.length<=sizeLine ->
  dw js en w all c e (cs.map g) ys h = .ok (ys++(cs.filter p).map f) h
 | [],ys,_,_,_=>by rw [List.map_nil];unfold dw;rw [if_pos lv];simp
 | x::xs,ys,hc,he,hl=>by
  have hl':ys.length<sizeLine:=by simp at hl;lia
  rw [List.map_cons]
  unfold dw
  rw [if_pos ⟨lv,hl'⟩,hc x (by simp)]
  cases hp:p x with
  | false =>
   dsimp only
   rw [lT lv xs ys (λy hy=>hc y (by simp [hy])) (λy hy=>he y (by simp [hy])) (by simp at hl ⊢;lia)]
   simp [List.filter_cons,hp]
  | true =>
   dsimp only
   rw [he x (by simp) hp]
   dsimp only
   rw [lT lv xs (ys++[f x]) (λy hy=>hc y (by simp [hy])) (λy hy=>he y (by simp [hy])) (by simp at hl ⊢;lia)]
   simp [List.filter_cons,hp]
theorem rT {α:Type} {js:List Nat} {en:En} {w:Option Nat} {all:List AV} {e:SE} {g f:α->AV} {h:AH} (lv:cS w all h=true) (cs:List α) (ys:List AV) (he:∀ x∈cs,e (some (g x)::js.map λj=>(en[j]?).join) h = .ok (f x) h) (hl:ys.length+cs.length<=sizeLine) :
  dw js en w all bq e (cs.map g) ys h = .ok (ys++cs.map f) h:=by
 rw [lT (p:=λ_=>true) lv cs ys (λ_ _=>rfl) (λx hx _=>he x hx) hl,List.filter_eq_self.mpr (λ_ _=>rfl)]
theorem xG {c:SB} {b:SS} (P:Nat->En->AH->Prop) (Q:En->AH->Prop):∀ (fuel n:Nat) (en:En) (h:AH),P n en h->n<fuel ->
  (∀ n en h,P n en h->(∃ h1,c en h = .ok false h1/\Q en h1)\/(∃ n' h1 e2 h2,n'<n/\c en h = .ok true h1/\(b en h1 = .nx e2 h2\/b en h1 = .ct e2 h2)/\P n' e2 h2)) ->
  ∃ e' h',d5 c b fuel en h = .nx e' h'/\Q e' h'
 | 0,n,en,h,_,l,_=>absurd l (Nat.not_lt_zero _)
 | fuel+1,n,en,h,p,l,s=>by
  rcases s n en h p with ⟨h1,q1,q2⟩ | ⟨n',h1,e2,h2,q0,q1,q2,q3⟩
  ·refine ⟨en,h1,?_,q2⟩
   unfold d5;rw [q1]
  ·obtain ⟨e',h',r1,r2⟩:=xG P Q fuel n' e2 h2 q3 (by lia) s
   refine ⟨e',h',?_,r2⟩
   unfold d5;rw [q1]
   rcases q2 with q2 | q2
   ·simp only [q2];exact r1
   ·simp only [q2];exact r1
@[simp] def thn (o:dY) (Q:En->AH->Prop):Prop:=match o with
 | .nx e h=>Q e h
 | .ct e h=>Q e h
 | _=>False
theorem xH {o:dY} {Q:En->AH->Prop} (t:thn o Q):∃ e h,(o = .nx e h\/o = .ct e h)/\Q e h:=by
 cases o with
 | nx e h=>exact ⟨e,h,.inl rfl,t⟩
 | ct e h=>exact ⟨e,h,.inr rfl,t⟩
 | _=>exact t.elim
@[simp] def Fe (o:Option En) (Q:En->Prop):Prop:=match o with
 | some e=>Q e
 | none=>False
theorem iG {w:Option Nat} {all:List AV} {t:Tg} {b:SS} {xs:List AV} {en:En} {h:AH} (P:Nat->En->AH->Prop) (p0:P 0 en h) (lv:∀ i en h,P i en h->cS w all h=true)
  (st:∀ (j:Nat) (x:AV) (en:En) (h:AH),xs[j]? = some x->P j en h->Fe (dE t x en) λe1=>thn (b e1 h) (P (j+1))) :
  ∃ e' h',du w all t b xs en h = .nx e' h'/\P xs.length e' h' := by
 have:=xF (w:=w) (all:=all) (t:=t) (b:=b) P xs 0 en h p0 lv λj x en h hx hp=>by
  have q:=st j x en h hx (by simpa using hp)
  cases z:dE t x en with
  | none=>rw [z] at q;exact q.elim
  | some e1 =>
   rw [z] at q
   obtain ⟨e,h2,a,c⟩:=xH q
   exact ⟨e1,e,h2,rfl,a,by simpa using c⟩
 simpa using this
theorem xI {c:SB} {b:SS} {fuel n:Nat} {en:En} {h:AH} (P:Nat->En->AH->Prop) (Q:En->AH->Prop) (p0:P n en h) (hn:n<fuel)
  (st:∀ n en h,P n en h->match c en h with
   | .ok true h1=>thn (b en h1) λe2 h2=>∃ n',n'<n/\P n' e2 h2
   | .ok false h1=>Q en h1
   | _=>False) :
  ∃ e' h',d5 c b fuel en h = .nx e' h'/\Q e' h' := by
 refine xG P Q fuel n en h p0 hn λn en h p=>?_
 have q:=st n en h p
 cases z:c en h with
 | ok x h1 =>
  rw [z] at q
  cases x with
  | true =>
   obtain ⟨e,h2,a,n',l,c⟩:=xH q
   exact .inr ⟨n',h1,e,h2,l,rfl,a,c⟩
  | false=>exact .inl ⟨h1,rfl,q⟩
 | ex _ _=>rw [z] at q;exact q.elim
 | bad=>rw [z] at q;exact q.elim
@[simp] def xJ (o:Out AV) (Q:AV->AH->Prop):Prop:=match o with
 | .ok v h=>Q v h
 | _=>False
theorem xK {js:List Nat} {en:En} {all:List AV} {e:SE} (P:Nat->List AV->AH->Prop):∀ (xs ys:List AV) (i:Nat) (h:AH),P i ys h ->
  (∀ j x ys h,xs[j]? = some x->P (i+j) ys h->∃ v h2,e (some x::js.map λj=>(en[j]?).join) h = .ok v h2/\P (i+j+1) (ys++[v]) h2)->ys.length+xs.length<=sizeLine ->
  ∃ zs h',dw js en none all bq e xs ys h = .ok zs h'/\P (i+xs.length) zs h'
 | [],ys,i,h,p,_,_=>⟨ys,h,by simp [dw],p⟩
 | x::xs,ys,i,h,p,s,hl=>by
  obtain ⟨v,h2,q1,q2⟩:=s 0 x ys h rfl p
  obtain ⟨zs,h',r1,r2⟩:=xK P xs (ys++[v]) (i+1) h2 q2 (λj y ys h hy hp=>by
   have:=s (j+1) y ys h (by simpa using hy) (by rw [show i+(j+1)=i+1+j by lia];exact hp)
   rw [show i+(j+1)+1=i+1+j+1 by lia] at this
   exact this) (by simp at hl ⊢;lia)
  refine ⟨zs,h',?_,by rw [List.length_cons,show i+(xs.length+1)=i+1+xs.length by lia];exact r2⟩
  unfold dw
  rw [if_pos ⟨rfl,by simp at hl;lia⟩]
  simp only [bq]
  rw [q1]
  exact r1
theorem xM {js:List Nat} {en:En} {all:List AV} {e:SE} {xs:List AV} {h:AH} (P:Nat->List AV->AH->Prop) (p0:P 0 [] h)
  (st:∀ j x ys h,xs[j]? = some x->P j ys h->xJ (e (some x::js.map λj=>(en[j]?).join) h) λv h2=>P (j+1) (ys++[v]) h2) (hl:xs.length<=sizeLine) :
  ∃ zs h',dw js en none all bq e xs [] h = .ok zs h'/\P xs.length zs h' := by
 have:=xK (js:=js) (en:=en) (all:=all) (e:=e) P xs [] 0 h p0 (λj x ys h hx p=>by
  have q:=st j x ys h hx (by simpa using p)
  cases z:e (some x::js.map λj=>(en[j]?).join) h with
  | ok v h2=>rw [z] at q;exact ⟨v,h2,rfl,by simpa using q⟩
  | ex _ _=>rw [z] at q;exact q.elim
  | bad=>rw [z] at q;exact q.elim) (by simpa using hl)
 simpa using this
theorem rV:∀ (n:Nat) (lo:Int) (i:Nat),(cT lo n)[i]? = if i<n then some (.int (lo+i)) else none
 | 0,lo,i=>by simp [cT]
 | n+1,lo,0=>by simp [cT]
 | n+1,lo,i+1=>by
  unfold cT
  rw [List.getElem?_cons_succ,rV n (lo+1) i]
  by_cases q:i<n
  ·rw [if_pos q,if_pos (by lia)];congr 2;lia
  ·rw [if_neg q,if_neg (by lia)]
theorem lU:∀ (n:Nat) (lo:Int),(cT lo n).length=n
 | 0,_=>rfl
 | n+1,lo=>by unfold cT;rw [List.length_cons,lU n]
theorem n8 {a:SE} {en:En} {h h1:AH} {n:Nat} (e:a en h = .ok (.int n) h1) (hn:n<=10000000):fF a en h = .ok (cT 0 n,none) h1:=by
 have h1':(n:Int).natAbs<2 ^ 62:=by lia
 simp only [fF,e,Out.bind]
 rw [if_pos h1'];rfl
theorem jZ {it:SI} {t:Tg} {b:SS} {en:En} {h h1:AH} {xs:List AV} {w:Option Nat} (e:it en h = .ok (xs,w) h1):bp it t b en h=du w xs t b xs en h1:=by simp only [bp,e]
theorem Ff {i j:Int} {h:AH} (hi:i.natAbs<2 ^ 64):bx (.int i) (.int j) h = .ok (.int (i*j)) h:=if_pos (.inl (.inl hi))
theorem Fg {i j:Int} {h:AH} (hj:j.natAbs<2 ^ 64):bx (.int i) (.int j) h = .ok (.int (i*j)) h:=if_pos (.inl (.inr hj))
theorem Fh {α:Type} {f:α->AV} {l:List α} {j:Nat} {q:α} (e:l[j]? = some q):atI (l.map f) (j:Int)=some (f q):=pV (by simp [e])
end Sk
set_option exponentiation.threshold 5000
namespace Sk
open PySem PySem.Spec L2 Sm
def km (c:Nat):Bool:=decide (c=10) || (decide (32<=c) && decide (c<=126))
theorem lV (a b:Nat):([a]<[b]) ↔ a<b:=by
 simp [List.cons_lt_cons_iff]
theorem xN:(Str.ofString "\n")=⟨#[10]⟩:=by decide +kernel
theorem Fi:(Str.ofString " ")=⟨#[32]⟩:=by decide +kernel
theorem Fj:(Str.ofString "~")=⟨#[126]⟩:=by decide +kernel
theorem Fk (c:Nat) (h:AH):lO [.str ⟨#[c]⟩] h = .ok (.bl (km c)) h:=by
 simp [lO,xN,Fi,Fj,lV,km]
 by_cases h1:c=10
 ·simp [h1]
 ·by_cases h2:c<32
  ·have : ¬ 32<=c:=by lia
   simp [h1,h2,this]
  ·have h3:32<=c:=by lia
   by_cases h4:c<=126
   ·have : ¬ 126<c:=by lia
    simp [h1,h2,h3,h4,this]
   ·have:126<c:=by lia
    simp [h1,h2,h3,h4,this]
theorem xO {α:Type} {js:List Nat} {en:En} {all:List AV} {e:SE} {g f:α->AV} {h:AH}:∀ (cs:List α) (ys:List AV),(∀ c∈cs,e (some (g c)::js.map λj=>(en[j]?).join) h = .ok (f c) h)->ys.length+cs.length<=sizeLine->dw js en none all bq e (cs.map g) ys h = .ok (ys++cs.map f) h
 | [],ys,_,_=>by simp [dw]
 | x::xs,ys,he,hl=>by
  have hl':ys.length<sizeLine:=by simp at hl;lia
  rw [List.map_cons]
  unfold dw
  rw [if_pos ⟨rfl,hl'⟩]
  simp only [bq]
  rw [he x (by simp)]
  dsimp only
  rw [xO xs (ys++[f x]) (λy hy=>he y (by simp [hy])) (by simp at hl ⊢;lia)]
  simp
theorem xP (f:Nat->Bool):∀ cs:List Nat,k9 (cs.map λc=>.bl (f c))=some (cs.map f)
 | []=>rfl
 | c::cs=>by simp [xP f cs]
def bu (x:Str):Bool:=x.cps.toList.all km
theorem xQ (x:Str) (h:AH) (hl:x.length<=sizeLine):lP [.str x] h = .ok (.bl (bu x)) h:=by
 have e:=xO (js:=[]) (en:=[some (.str x)]) (all:=x.cps.toList.map λc=>AV.str ⟨#[c]⟩) (e:=aD lO (ai (aa 0) af)) (g:=λc=>AV.str ⟨#[c]⟩) (f:=λc=>AV.bl (km c)) (h:=h) x.cps.toList [] (by
  intro c hc
  simp [Fk]) (by simp;exact hl)
 simp only [List.nil_append] at e
 simp [lP]
 rw [e]
 simp [xP,bu]
def fo (x:Str):Bool:=bu x && (decide (1<=x.length) && decide (x.length<=8))
theorem xR (x:Str) (h:AH) (hl:x.length<=sizeLine):nU [.str x] h = .ok (.bl (fo x)) h:=by
 simp [nU,xQ x h hl,fo]
 by_cases h1:bu x=true
 ·by_cases h2:1<=x.length
  ·have:(1:Int)<=x.length:=by lia
   by_cases h3:x.length<=8
   ·have:(x.length:Int)<=8:=by lia
    simp [*]
   ·have : ¬ (x.length:Int)<=8:=by lia
    simp [*]
  ·have : ¬ (1:Int)<=x.length:=by lia
   simp [*]
 ·simp [h1]
def iH (x:Str):Nat:=(Builtin.Str.occurrences x ⟨#[10]⟩ 0 x.length (x.length+1)).length
theorem Fl (x:Str) (h:AH):nV [.str x] h = .ok (.int (iH x)) h:=by
 simp [nV,xN,iH]
theorem Fm (i:Int) (h:AH):nS [.int i] h = .ok (.bl true) h:=by
 simp [nS]
inductive Pc where
 | leaf (x:Str)
 | fork (a b:Nat)
 deriving DecidableEq
def Pc.av:Pc->AV
 | .leaf x=>.tup [.str "leaf",.str x]
 | .fork a b=>.tup [.str "fork",.int a,.int b]
theorem Pc.av_inj:∀ {p q:Pc},p.av=q.av->p=q
 | .leaf x,.leaf y,e=>by simp [Pc.av] at e;rw [e]
 | .leaf x,.fork a b,e=>by simp [Pc.av] at e
 | .fork a b,.leaf x,e=>by simp [Pc.av] at e
 | .fork a b,.fork c d,e=>by simp [Pc.av] at e;rw [Int.ofNat.inj e.1,Int.ofNat.inj e.2]
structure Ms where
 sg:Nat
 en:Nat
 lv:Nat
 ht:Int
 fl:Nat
 ll:Nat
def ms0:Ms:=⟨0,0,0,-1,0,0⟩
def gF (ms:List Ms):Pc->Ms
 | .leaf x=>⟨x.length,iH x,1,0,ms.length,ms.length⟩
 | .fork a b=>⟨(ms.getD a ms0).sg+(ms.getD b ms0).sg,(ms.getD a ms0).en+(ms.getD b ms0).en,(ms.getD a ms0).lv+(ms.getD b ms0).lv,max (ms.getD a ms0).ht (ms.getD b ms0).ht+1,(ms.getD a ms0).fl,(ms.getD b ms0).ll⟩
def meas (ps:List Pc):List Ms:=ps.foldl (λms q=>ms++[gF ms q]) [ms0]
theorem rW (ps:List Pc) (q:Pc):meas (ps++[q])=meas ps++[gF (meas ps) q]:=by simp [meas]
theorem c6:∀ ps:List Pc,(meas ps).length=ps.length+1:=by
 have all:∀ (ps:List Pc) (ms:List Ms),(ps.foldl (λms q=>ms++[gF ms q]) ms).length=ms.length+ps.length:=by
  intro ps
  induction ps with
  | nil=>intro ms;rfl
  | cons q r ih=>intro ms;rw [List.foldl_cons,ih];simp;lia
 intro ps
 rw [meas,all];simp;lia
def fq (k:Nat):List Pc->List (AV×AV)
 | []=>[]
 | q::r=>(q.av,.int k)::fq (k+1) r
def dM (ps:List Pc):List (AV×AV):=fq 1 ps
theorem n9 (q:Pc):∀ (ps:List Pc) (k:Nat),fq k (ps++[q])=fq k ps++[(q.av,.int ((k+ps.length:Nat):Int))]
 | [],k=>by simp [fq]
 | p::r,k=>by
  simp only [List.cons_append,fq,n9 q r (k+1)]
  rw [show k+1+r.length=k+(p::r).length by simp;lia]
theorem xS:∀ (ps:List Pc) (k:Nat),(fq k ps).length=ps.length
 | [],_=>rfl
 | p::r,k=>by simp [fq,xS r]
theorem oa {q:Pc}:∀ {ps:List Pc} {k:Nat},q∉ps->aP (fq k ps) q.av=none
 | [],k,_=>rfl
 | p::r,k,h=>by
  have h1 : ¬ p.av=q.av:=λe=>h (by rw [Pc.av_inj e];simp)
  have h2:=oa (q:=q) (ps:=r) (k:=k+1) λz=>h (by simp [z])
  unfold aP at h2 ⊢
  simp only [fq,List.find?_cons,decide_eq_false h1]
  exact h2
theorem rX {q:Pc}:∀ {ps:List Pc} {k i:Nat},ps.Nodup->ps[i]? = some q->aP (fq k ps) q.av=some (.int ((k+i:Nat):Int))
 | [],k,i,_,e=>by simp at e
 | p::r,k,0,n,e=>by simp at e;subst e;simp [aP,fq]
 | p::r,k,i+1,n,e=>by
  simp at e
  have h1 : ¬ p.av=q.av:=λz=>(List.nodup_cons.mp n).1 (by rw [Pc.av_inj z];exact List.mem_of_getElem? e)
  have h2:=rX (q:=q) (k:=k+1) (List.nodup_cons.mp n).2 e
  unfold aP at h2 ⊢
  simp only [fq,List.find?_cons,decide_eq_false h1]
  rw [h2]
  congr 3
  lia
theorem Fo {q:Pc} {ps:List Pc} (h:q∉ps):cN (dM ps) q.av (.int ((ps.length+1:Nat):Int))=dM (ps++[q]):=by
 unfold cN
 rw [qW,dM,oa h,dM,n9]
 simp [Nat.add_comm]
structure ShelfAt (h:AH) (p:Nat) (ps:List Pc):Prop where
 ob:h[p]? = some (.ins 0 [some (.ref (p+1)),some (.ref (p+2)),some (.ref (p+3)),some (.ref (p+4)),some (.ref (p+5)),some (.ref (p+6)),some (.ref (p+7)),some (.ref (p+8))])
 h1:h[p+1]? = some (.lst (ps.map Pc.av))
 h2:h[p+2]? = some (.dct true (dM ps))
 h3:h[p+3]? = some (.lst ((meas ps).map λm=>.int m.sg))
 h4:h[p+4]? = some (.lst ((meas ps).map λm=>.int m.en))
 h5:h[p+5]? = some (.lst ((meas ps).map λm=>.int m.lv))
 h6:h[p+6]? = some (.lst ((meas ps).map λm=>.int m.ht))
 h7:h[p+7]? = some (.lst ((meas ps).map λm=>.int m.fl))
 h8:h[p+8]? = some (.lst ((meas ps).map λm=>.int m.ll))
def dN (h:AH) (p:Nat) (ps:List Pc):AH :=
 (((((((h.set (p+1) (.lst (ps.map Pc.av))).set (p+2) (.dct true (dM ps))).set (p+3) (.lst ((meas ps).map λm=>.int m.sg))).set (p+4) (.lst ((meas ps).map λm=>.int m.en))).set (p+5) (.lst ((meas ps).map λm=>.int m.lv))).set
  (p+6) (.lst ((meas ps).map λm=>.int m.ht))).set (p+7) (.lst ((meas ps).map λm=>.int m.fl))).set (p+8) (.lst ((meas ps).map λm=>.int m.ll))
theorem dO {h:AH} {i:Nat} {o:AO} (e:h[i]? = some o):i<h.length:=(List.getElem?_eq_some_iff.mp e).1
theorem rY (h:AH) (p:Nat) (ps:List Pc):(dN h p ps).length=h.length:=by simp [dN]
theorem og {h:AH} {p q:Nat} {ps:List Pc} (hq:q<=p\/p+8<q):(dN h p ps)[q]? = h[q]? := by
 unfold dN
 repeat rw [List.getElem?_set_ne (by lia)]
theorem lX {h:AH} {p:Nat} {ps ps':List Pc} (S:ShelfAt h p ps):ShelfAt (dN h p ps') p ps' := by
 have b:=dO S.h8
 have l1:p+1<h.length:=Nat.lt_of_le_of_lt (Nat.add_le_add_left (by decide) p) b
 have l2:p+2<h.length:=Nat.lt_of_le_of_lt (Nat.add_le_add_left (by decide) p) b
 have l3:p+3<h.length:=Nat.lt_of_le_of_lt (Nat.add_le_add_left (by decide) p) b
 have l4:p+4<h.length:=Nat.lt_of_le_of_lt (Nat.add_le_add_left (by decide) p) b
 have l5:p+5<h.length:=Nat.lt_of_le_of_lt (Nat.add_le_add_left (by decide) p) b
 have l6:p+6<h.length:=Nat.lt_of_le_of_lt (Nat.add_le_add_left (by decide) p) b
 have l7:p+7<h.length:=Nat.lt_of_le_of_lt (Nat.add_le_add_left (by decide) p) b
 have ob:=S.ob
 constructor<;>simp [dN,List.getElem?_set,l1,l2,l3,l4,l5,l6,l7,b,ob,-List.getElem?_eq_getElem]
theorem rZ {α:Type} (l:List α) (f:α->AV):(l.map f).length=l.length:=by simp
theorem j0 {h:AH} {p:Nat} {ps:List Pc} (S:ShelfAt h p ps):dS [.ref p] h = .ok (.int ps.length) h:=by
 simp [dS,S.ob,S.h1]
theorem xT {h:AH} {p:Nat} {ps:List Pc} {i:Int} (S:ShelfAt h p ps):nT [.ref p,.int i] h = .ok (.bl (decide (1<=i/\i<=ps.length))) h:=by
 simp [nT,Fm,S.ob,S.h1]
 by_cases h1:1<=i<;>simp [h1]
theorem oh {h:AH} {p:Nat} {ps:List Pc} {i:Int} (S:ShelfAt h p ps) (hi:1<=i/\i<=ps.length):iB [.ref p,.int i] h = .ok .non h:=by
 simp [iB,xT S,S.ob,hi.1,hi.2]
theorem Fp {h:AH} {p:Nat} {ps:List Pc} {i:Int} (S:ShelfAt h p ps) (hi : ¬ (1<=i/\i<=ps.length)):iB [.ref p,.int i] h = .ex c5 h:=by
 simp [iB,xT S,S.ob,hi]
theorem cP {α:Type} {f:α->AV} {l:List α} {j:Nat} {q:α} (e:l[j]? = some q):atI (l.map f) (j:Int)=some (f q):=pV (by simp [e])
theorem Fq {h:AH} {p:Nat} {ps:List Pc} {j:Nat} {q:Pc} (S:ShelfAt h p ps) (e:ps[j]? = some q):cU [.ref p,.int ((j:Int)+1)] h = .ok q.av h:=by
 have hj:=(List.getElem?_eq_some_iff.mp e).1
 have h1:=oh S (i:=(j:Int)+1) ⟨by lia,by lia⟩
 simp [cU,h1,S.ob,S.h1,cP e]
theorem xU {h:AH} {p:Nat} {ps:List Pc} {q:Pc} (S:ShelfAt h p ps) (hq:q∉ps) (hl:ps.length<16000000) :
  lM [.ref p,q.av] h = .ok (.int ((ps.length+1:Nat):Int)) ((h.set (p+1) (.lst ((ps++[q]).map Pc.av))).set (p+2) (.dct true (dM (ps++[q])))):=by
 have b:=dO S.h8
 have hs:ps.length<sizeLine:=Nat.lt_trans hl (by decide)
 have ht:(dM ps).length<sizeLine:=by rw [dM,xS];exact hs
 have hk:d6 true q.av=true:=by cases q<;>simp [Pc.av]
 have e1:(h.set (p+1) (.lst (ps.map Pc.av++[q.av])))[p]? = h[p]? := List.getElem?_set_ne (by lia)
 have e2:(h.set (p+1) (.lst (ps.map Pc.av++[q.av])))[p+1]? = some (.lst (ps.map Pc.av++[q.av])):=List.getElem?_set_self (by lia)
 have e3:(h.set (p+1) (.lst (ps.map Pc.av++[q.av])))[p+2]? = h[p+2]? := List.getElem?_set_ne (by lia)
 have tp:=Fo hq
 simp [lM,S.ob,S.h1,hs,e1,e2,e3,S.h2,hk,ht,-d6]
 rw [show ((ps.length:Int)+1)=((ps.length+1:Nat):Int) by simp,tp]
theorem Fs {h:AH} {p:Nat} {ps:List Pc} {x:Str} (S:ShelfAt h p ps) (hq:Pc.leaf x∉ps) (hl:ps.length<16000000) :
  lQ [.ref p,(Pc.leaf x).av] h = .ok .non (dN h p (ps++[.leaf x])):=by
 have b:=dO S.h8
 have hs:ps.length+1<sizeLine:=Nat.lt_of_lt_of_le (Nat.succ_lt_succ hl) (by decide)
 have hm:(meas ps).length<sizeLine:=by rw [c6];exact hs
 have e:=xU S hq hl
 have b2:((meas ps).length:Int)=(ps.length:Int)+1:=by rw [c6];simp
 have e2:aw (Pc.leaf x).av (.int 1)=λh=>Out.ok (.str x) h:=by funext h;rfl
 have l1:p+1<h.length:=by lia
 have l2:p+2<h.length:=by lia
 have l3:p+3<h.length:=by lia
 have l4:p+4<h.length:=by lia
 have l5:p+5<h.length:=by lia
 have l6:p+6<h.length:=by lia
 have l7:p+7<h.length:=by lia
 simp [lQ,e,S.ob,S.h3,S.h4,S.h5,S.h6,S.h7,S.h8,hm,Fl,List.getElem?_set,rW,gF,dN,e2,c6,hs,-aw,-List.getElem?_eq_getElem]
theorem xV {α:Type} {l:List α} {i:Nat} {d x:α} (e:l[i]? = some x):l.getD i d=x:=by simp [List.getD,e]
theorem Ft {h:AH} {p:Nat} {ps:List Pc} {a b:Nat} {ma mb:Ms} (S:ShelfAt h p ps) (hq:Pc.fork a b∉ps) (hl:ps.length<16000000) (ha:(meas ps)[a]? = some ma) (hb:(meas ps)[b]? = some mb) :
  lN [.ref p,(Pc.fork a b).av] h = .ok .non (dN h p (ps++[.fork a b])):=by
 have bb:=dO S.h8
 have hs:ps.length+1<sizeLine:=Nat.lt_of_lt_of_le (Nat.succ_lt_succ hl) (by decide)
 have hm:(meas ps).length<sizeLine:=by rw [c6];exact hs
 have e:=xU S hq hl
 have e2:aw (Pc.fork a b).av (.int 1)=λh=>Out.ok (.int a) h:=by funext h;rfl
 have e3:aw (Pc.fork a b).av (.int 2)=λh=>Out.ok (.int b) h:=by funext h;rfl
 have l1:p+1<h.length:=by lia
 have l2:p+2<h.length:=by lia
 have l3:p+3<h.length:=by lia
 have l4:p+4<h.length:=by lia
 have l5:p+5<h.length:=by lia
 have l6:p+6<h.length:=by lia
 have l7:p+7<h.length:=by lia
 have fx:∀ (n:Nat) (g:Ms->AV) (h':AH),h'[n]? = some (.lst ((meas ps).map g))->aw (.ref n) (.int a) h' = .ok (g ma) h'/\aw (.ref n) (.int b) h' = .ok (g mb) h' := λn g h' e=>by
  simp [aw,e,cP ha,cP hb]
 have f3:=λ(h':AH) (e:h'[p+3]? = some (.lst ((meas ps).map λm=>.int m.sg)))=>fx _ _ h' e
 have f4:=λ(h':AH) (e:h'[p+4]? = some (.lst ((meas ps).map λm=>.int m.en)))=>fx _ _ h' e
 have f5:=λ(h':AH) (e:h'[p+5]? = some (.lst ((meas ps).map λm=>.int m.lv)))=>fx _ _ h' e
 have f6:=λ(h':AH) (e:h'[p+6]? = some (.lst ((meas ps).map λm=>.int m.ht)))=>fx _ _ h' e
 have f7:=λ(h':AH) (e:h'[p+7]? = some (.lst ((meas ps).map λm=>.int m.fl)))=>fx _ _ h' e
 have f8:=λ(h':AH) (e:h'[p+8]? = some (.lst ((meas ps).map λm=>.int m.ll)))=>fx _ _ h' e
 have hmax:∀ i j:Int,(if j > i then j else i)=max i j:=λi j=>by split<;>lia
 simp [lN,e,S.ob,S.h3,S.h4,S.h5,S.h6,S.h7,S.h8,hm,List.getElem?_set,rW,gF,dN,e2,e3,c6,hs,cP ha,cP hb,xV ha,xV hb,-aw,-List.getElem?_eq_getElem,-List.getD_eq_getElem?_getD,f3,f4,f5,f6,f7,f8,hmax]
theorem r8 {h:AH} {p:Nat} {ps:List Pc} {x:Str} {i:Nat} (S:ShelfAt h p ps) (nd:ps.Nodup) (hx:fo x=true) (hl:x.length<=sizeLine) (e:ps[i]? = some (.leaf x)):dR [.ref p,.str x] h = .ok (.int ((i+1:Nat):Int)) h:=by
 have t:=rX (k:=1) nd e
 have t':aP (dM ps) (.tup [.str "leaf",.str x])=some (.int ((i+1:Nat):Int)):=by rw [Nat.add_comm];exact t
 simp [dR,xR x h hl,hx,S.ob,S.h2,t']
theorem xW {h:AH} {p:Nat} {ps:List Pc} {x:Str} (S:ShelfAt h p ps) (hx:fo x=true) (hl:x.length<=sizeLine) (hq:Pc.leaf x∉ps) (hz:ps.length<16000000):dR [.ref p,.str x] h = .ok (.int ((ps.length+1:Nat):Int)) (dN h p (ps++[.leaf x])):=by
 have t:aP (dM ps) (.tup [.str "leaf",.str x])=none:=oa (q:=.leaf x) (k:=1) hq
 have S2:=lX (ps' := ps++[.leaf x]) S
 have e:=Fs S hq hz
 have t2:aP (dM (ps++[.leaf x])) (.tup [.str "leaf",.str x])=some (.int ((ps.length+1:Nat):Int)):=by
  unfold dM
  rw [n9]
  unfold aP at t ⊢
  rw [List.find?_append]
  have t3:(fq 1 ps).find? (λp=>decide (p.1 = .tup [.str "leaf",.str x]))=none:=by simpa [dM] using t
  rw [t3]
  simp [Pc.av,Nat.add_comm]
 have e':lQ [.ref p,.tup [.str "leaf",.str x]] h = .ok .non (dN h p (ps++[.leaf x])):=e
 simp [dR,xR x h hl,hx,S.ob,S.h2,t,e',S2.ob,S2.h2,t2]
theorem Fu {h:AH} {p:Nat} {ps:List Pc} {a b:Nat} {ma mb la fb:Ms} (S:ShelfAt h p ps) (ha:(meas ps)[a]? = some ma) (hb:(meas ps)[b]? = some mb) (pa:1<=a) (pb:1<=b) (hla:(meas ps)[ma.ll]? = some la) (hfb:(meas ps)[mb.fl]? = some fb) :
  i4 [.ref p,.int a,.int b] h=if la.sg+fb.sg<=8 then .ex Fb h else if 1<(ma.ht-mb.ht).natAbs then .ex Fc h else if 1000000000000000000<ma.sg+mb.sg then .ex Fd h else .ok .non h:=by
 have la_:=(List.getElem?_eq_some_iff.mp ha).1
 have lb_:=(List.getElem?_eq_some_iff.mp hb).1
 rw [c6] at la_ lb_
 have c1:=oh S (i:=(a:Int)) ⟨by lia,by lia⟩
 have c2:=oh S (i:=(b:Int)) ⟨by lia,by lia⟩
 by_cases d1:la.sg+fb.sg<=8
 ·have d1':((la.sg:Int)+fb.sg)<=8:=by lia
  simp [i4,c1,c2,S.ob,S.h3,S.h5,S.h6,S.h7,S.h8,cP ha,cP hb,cP hla,cP hfb,d1,d1']
 ·have d1' : ¬ ((la.sg:Int)+fb.sg)<=8:=by lia
  by_cases d2:1<(ma.ht-mb.ht).natAbs
  ·have d2':(1:Int)<(if ma.ht-mb.ht<0 then -(ma.ht-mb.ht) else ma.ht-mb.ht):=by split<;>lia
   simp [i4,c1,c2,S.ob,S.h3,S.h5,S.h6,S.h7,S.h8,cP ha,cP hb,cP hla,cP hfb,d1,d1',d2,d2',-Int.neg_sub]
  ·have d2' : ¬ (1:Int)<(if ma.ht-mb.ht<0 then -(ma.ht-mb.ht) else ma.ht-mb.ht):=by split<;>lia
   by_cases d3:1000000000000000000<ma.sg+mb.sg
   ·have d3':(1000000000000000000:Int)<(ma.sg:Int)+mb.sg:=by lia
    simp [i4,c1,c2,S.ob,S.h3,S.h5,S.h6,S.h7,S.h8,cP ha,cP hb,cP hla,cP hfb,d1,d1',d2,d2',d3,d3',-Int.neg_sub]
   ·have d3' : ¬ (1000000000000000000:Int)<(ma.sg:Int)+mb.sg:=by lia
    simp [i4,c1,c2,S.ob,S.h3,S.h5,S.h6,S.h7,S.h8,cP ha,cP hb,cP hla,cP hfb,d1,d1',d2,d2',d3,d3',-Int.neg_sub]
structure ForkOk (ps:List Pc) (a b:Nat):Prop where
 pa:1<=a
 pb:1<=b
 ex:∃ ma mb la fb,(meas ps)[a]? = some ma/\(meas ps)[b]? = some mb/\(meas ps)[ma.ll]? = some la/\(meas ps)[mb.fl]? = some fb/\8<la.sg+fb.sg/\(ma.ht-mb.ht).natAbs<=1/\ma.sg+mb.sg<=1000000000000000000
theorem xX {h:AH} {p:Nat} {ps:List Pc} {a b:Nat} (S:ShelfAt h p ps) (F:ForkOk ps a b):i4 [.ref p,.int a,.int b] h = .ok .non h:=by
 obtain ⟨ma,mb,la,fb,h1,h2,h3,h4,h5,h6,h7⟩:=F.ex
 rw [Fu S h1 h2 F.pa F.pb h3 h4,if_neg (by lia),if_neg (by lia),if_neg (by lia)]
theorem r9 {h:AH} {p:Nat} {ps:List Pc} {a b i:Nat} (S:ShelfAt h p ps) (nd:ps.Nodup) (F:ForkOk ps a b) (e:ps[i]? = some (.fork a b)):aN [.ref p,.int a,.int b] h = .ok (.int ((i+1:Nat):Int)) h:=by
 have t:=rX (k:=1) nd e
 have t':aP (dM ps) (.tup [.str "fork",.int a,.int b])=some (.int ((i+1:Nat):Int)):=by rw [Nat.add_comm];exact t
 simp [aN,xX S F,S.ob,S.h2,t']
theorem xY {h:AH} {p:Nat} {ps:List Pc} {a b:Nat} (S:ShelfAt h p ps) (F:ForkOk ps a b) (hq:Pc.fork a b∉ps) (hz:ps.length<16000000):aN [.ref p,.int a,.int b] h = .ok (.int ((ps.length+1:Nat):Int)) (dN h p (ps++[.fork a b])):=by
 have t:aP (dM ps) (.tup [.str "fork",.int a,.int b])=none:=oa (q:=.fork a b) (k:=1) hq
 have S2:=lX (ps' := ps++[.fork a b]) S
 obtain ⟨ma,mb,la,fb,h1,h2,_⟩:=F.ex
 have e:=Ft S hq hz h1 h2
 have t2:aP (dM (ps++[.fork a b])) (.tup [.str "fork",.int a,.int b])=some (.int ((ps.length+1:Nat):Int)):=by
  unfold dM
  rw [n9]
  unfold aP at t ⊢
  rw [List.find?_append]
  have t3:(fq 1 ps).find? (λp=>decide (p.1 = .tup [.str "fork",.int a,.int b]))=none:=by simpa [dM] using t
  rw [t3]
  simp [Pc.av,Nat.add_comm]
 have e':lN [.ref p,.tup [.str "fork",.int a,.int b]] h = .ok .non (dN h p (ps++[.fork a b])):=e
 simp [aN,xX S F,S.ob,S.h2,t,e',S2.ob,S2.h2,t2]
def cG (n:Nat):List AO:=[.ins 0 [some (.ref (n+1)),some (.ref (n+2)),some (.ref (n+3)),some (.ref (n+4)),some (.ref (n+5)),some (.ref (n+6)),some (.ref (n+7)),some (.ref (n+8))],.lst [],.dct true [],.lst [.int 0],.lst [.int 0],.lst [.int 0],.lst [.int (-1)],.lst [.int 0],.lst [.int 0]]
theorem Fv {h:AH} {o o':AO} {r:AH}:(h++o::r).set h.length o'=h++o'::r:=by
 induction h with
 | nil=>rfl
 | cons x t ih=>simp [ih]
theorem se (en:En) (h:AH):jA 0 8 i3 af en h = .ok (.ref h.length) (h++cG h.length):=by
 simp [i3,cG,List.getElem?_append,Fv]
theorem xZ {h r:AH} {k:Nat}:(h++r)[h.length+k]? = r[k]? := by
 rw [List.getElem?_append_right (by lia)];simp
theorem x4 (h r:AH):ShelfAt (h++(cG h.length++r)) h.length []:=by
 refine ⟨?_,?_,?_,?_,?_,?_,?_,?_,?_⟩
 ·rw [show h.length=h.length+0 from rfl,xZ];rfl
 all_goals (rw [xZ];rfl)
theorem x5 (x:Str) (c i:Nat) (hi:i<x.length):Builtin.Str.subAt x ⟨#[c]⟩ i=decide (x.cps.toList[i]? = some c):=by
 have hi':i<x.cps.size:=hi
 unfold Builtin.Str.subAt
 have e:x.cps.extract i (i+1) = #[x.cps[i]]:=by
  apply Array.ext
  ·simp;lia
  ·intro j h1 h2
   have:j=0:=by simp at h2;lia
   subst this
   simp
 show (x.cps.extract i (i+1) == #[c])=_
 rw [e]
 have:x.cps.toList[i]? = some x.cps[i]:=by simp [hi']
 rw [this]
 by_cases q:x.cps[i]=c
 ·simp [q]
 ·simp [q]
theorem oj (x:Str) (c:Nat):∀ (n i:Nat) (st:Array Nat×Nat),i+n=x.length+1->st.2<=i->st.1.size<=i->(forIn (List.range' i n) st (StrLaws.occBody x ⟨#[c]⟩ x.length (x.length+1))).run.fst.size=st.1.size+(x.cps.toList.drop i).count c
 | 0,i,st,hn,_,_=>by
  rw [List.drop_of_length_le (by simp;simp only [Str.length] at hn;lia)]
  simp
 | n+1,i,st,hn,h2,h3=>by
  rw [List.range'_succ,List.forIn_cons]
  unfold StrLaws.occBody
  by_cases hi:i<x.length
  ·have hi':i<x.cps.size:=hi
   have hd:x.cps.toList.drop i=x.cps[i]'hi'::x.cps.toList.drop (i+1):=by
    rw [List.drop_eq_getElem_cons (show i<x.cps.toList.length by simpa using hi')];simp
   have hg:x.cps.toList[i]? = some (x.cps[i]'hi'):=by
    simp [hi']
   by_cases q:x.cps[i]'hi'=c
   ·have hs:Builtin.Str.subAt x ⟨#[c]⟩ i=true:=by rw [x5 x c i hi,hg,q];simp
    rw [if_pos ⟨⟨⟨by lia,h2⟩,hi⟩,hs⟩]
    show (forIn (List.range' (i+1) n) (st.1.push i,i+1) (StrLaws.occBody x ⟨#[c]⟩ x.length (x.length+1))).run.fst.size=_
    rw [oj x c n (i+1) _ (by lia) (Nat.le_refl _) (by simp;lia),hd,q]
    simp;lia
   ·have hs:Builtin.Str.subAt x ⟨#[c]⟩ i=false:=by rw [x5 x c i hi,hg];simp [q]
    rw [if_neg (by simp [hs])]
    show (forIn (List.range' (i+1) n) (st.1,st.2) (StrLaws.occBody x ⟨#[c]⟩ x.length (x.length+1))).run.fst.size=_
    rw [oj x c n (i+1) _ (by lia) (by show st.2<=i+1;lia) (by show st.1.size<=i+1;lia),hd]
    simp [q]
  ·rw [if_neg (by rintro ⟨⟨_,z⟩,_⟩;exact hi z)]
   show (forIn (List.range' (i+1) n) (st.1,st.2) (StrLaws.occBody x ⟨#[c]⟩ x.length (x.length+1))).run.fst.size=_
   rw [oj x c n (i+1) _ (by lia) (by show st.2<=i+1;lia) (by show st.1.size<=i+1;lia)]
   rw [List.drop_of_length_le (by simp;simp only [Str.length] at hi;lia),List.drop_of_length_le (by simp;simp only [Str.length] at hi;lia)]
theorem Fw (x:Str) (c:Nat):(Builtin.Str.occurrences x ⟨#[c]⟩ 0 x.length (x.length+1)).length=x.cps.toList.count c:=by
 rw [StrLaws.occ_eq,Array.length_toList]
 rw [show x.length+1-0=x.length+1 from rfl,oj x c (x.length+1) 0 _ (by lia) (Nat.le_refl _) (by simp)]
 simp
theorem sf (x:Str):iH x=x.cps.toList.count 10:=Fw x 10
theorem eF (x y:Str):(x++y).cps.toList=x.cps.toList++y.cps.toList:=by
 show (x.cps++y.cps).toList=_
 simp
theorem Fx (x y:Str):iH (x++y)=iH x+iH y:=by
 rw [sf,sf,sf,eF,List.count_append]
theorem eT (x:Str):x.length=x.cps.toList.length:=by simp [Str.length]
theorem bY (x y:Str):(x++y).length=x.length+y.length:=by
 rw [eT,eT,eT,eF,List.length_append]
def j3 (rs:List Str):Pc->Str
 | .leaf x=>x
 | .fork a b=>rs.getD a "" ++ rs.getD b ""
def reads (ps:List Pc):List Str:=ps.foldl (λrs q=>rs++[j3 rs q]) [""]
theorem Fy (ps:List Pc) (q:Pc):reads (ps++[q])=reads ps++[j3 (reads ps) q]:=by simp [reads]
theorem lZ {α β:Type} (g:List β->α->β):∀ (qs:List α) (ms:List β),∃ r,qs.foldl (λms q=>ms++[g ms q]) ms=ms++r/\r.length=qs.length
 | [],ms=>⟨[],by simp,rfl⟩
 | q::qs,ms=>by
  obtain ⟨r,e,l⟩:=lZ g qs (ms++[g ms q])
  exact ⟨g ms q::r,by rw [List.foldl_cons,e];simp,by simp [l]⟩
theorem om (ps:List Pc):(reads ps).length=ps.length+1:=by
 obtain ⟨r,e,l⟩:=lZ j3 ps [""]
 rw [reads,e];simp [l,Nat.add_comm]
theorem Fz (ps qs:List Pc):∃ r,meas (ps++qs)=meas ps++r:=by
 unfold meas
 rw [List.foldl_append]
 obtain ⟨r,e,_⟩:=lZ gF qs (ps.foldl (λms q=>ms++[gF ms q]) [ms0])
 exact ⟨r,e⟩
theorem FC (ps qs:List Pc):∃ r,reads (ps++qs)=reads ps++r:=by
 unfold reads
 rw [List.foldl_append]
 obtain ⟨r,e,_⟩:=lZ j3 qs (ps.foldl (λms q=>ms++[j3 ms q]) [""])
 exact ⟨r,e⟩
theorem aV {ps ps':List Pc} (h:ps <+: ps') {n:Nat} {m:Ms} (e:(meas ps)[n]? = some m):(meas ps')[n]? = some m:=by
 obtain ⟨qs,rfl⟩:=h
 obtain ⟨r,q⟩:=Fz ps qs
 rw [q,List.getElem?_append_left (List.getElem?_eq_some_iff.mp e).1];exact e
theorem oq {ps ps':List Pc} (h:ps <+: ps') {n:Nat} {m:Str} (e:(reads ps)[n]? = some m):(reads ps')[n]? = some m:=by
 obtain ⟨qs,rfl⟩:=h
 obtain ⟨r,q⟩:=FC ps qs
 rw [q,List.getElem?_append_left (List.getElem?_eq_some_iff.mp e).1];exact e
theorem l9 (ps:List Pc) (i:Nat):ps.take i <+: ps:=List.take_prefix i ps
theorem si {ps:List Pc} {i:Nat} {q:Pc} (e:ps[i]? = some q):(ps.take i++[q]) <+: ps/\(ps.take i).length=i:=by
 have hi:=(List.getElem?_eq_some_iff.mp e).1
 have:ps.take (i+1)=ps.take i++[q]:=by
  rw [List.take_succ,e];rfl
 exact ⟨this▸List.take_prefix _ _,by simp;lia⟩
theorem x6 {ps:List Pc} {i:Nat} {q:Pc} (e:ps[i]? = some q):(meas ps)[i+1]? = some (gF (meas (ps.take i)) q):=by
 obtain ⟨h,l⟩:=si e
 refine aV h ?_
 rw [rW,List.getElem?_append_right (by rw [c6,l];lia),c6,l]
 simp
theorem x8 {ps:List Pc} {i:Nat} {q:Pc} (e:ps[i]? = some q):(reads ps)[i+1]? = some (j3 (reads (ps.take i)) q):=by
 obtain ⟨h,l⟩:=si e
 refine oq h ?_
 rw [Fy,List.getElem?_append_right (by rw [om,l];lia),om,l]
 simp
def mf (ps:List Pc):Pc->Prop
 | .leaf x=>fo x=true
 | .fork a b=>ForkOk ps a b
inductive Good:List Pc->Prop
 | nil:Good []
 | snoc {ps:List Pc} {q:Pc}:Good ps->q∉ps->mf ps q->Good (ps++[q])
theorem Good.nodup {ps:List Pc} (g:Good ps):ps.Nodup:=by
 induction g with
 | nil=>exact List.nodup_nil
 | snoc g n ok ih=>exact List.nodup_append.mpr ⟨ih,by simp,λa ha b hb=>by simp at hb;subst hb;exact λe=>n (e▸ha)⟩
theorem Good.get {ps:List Pc} (g:Good ps):∀ {i:Nat} {q:Pc},ps[i]? = some q->mf (ps.take i) q:=by
 induction g with
 | nil=>intro i q e;simp at e
 | @snoc ps q' g n ok ih =>
  intro i q e
  by_cases hi:i<ps.length
  ·rw [List.getElem?_append_left hi] at e
   rw [List.take_append_of_le_length (by lia)]
   exact ih e
  ·have hi2:i=ps.length:=by
    have:=(List.getElem?_eq_some_iff.mp e).1
    simp at this;lia
   subst hi2
   simp at e
   subst e
   simpa using ok
theorem ForkOk.pre {ps ps':List Pc} {a b:Nat} (F:ForkOk ps a b) (h:ps <+: ps'):ForkOk ps' a b:=by
 obtain ⟨ma,mb,la,fb,h1,h2,h3,h4,h5⟩:=F.ex
 exact ⟨F.pa,F.pb,ma,mb,la,fb,aV h h1,aV h h2,aV h h3,aV h h4,h5⟩
structure Ky (ps:List Pc) (m:Ms) (x:Str) (f l:Ms):Prop where
 fl:(meas ps)[m.fl]? = some f
 ll:(meas ps)[m.ll]? = some l
 sg:m.sg=x.length
 en:m.en=iH x
 f1:1<=f.sg
 f8:f.sg<=8
 l1:1<=l.sg
 l8:l.sg<=8
 lv:1<=m.lv
 ht:0<=m.ht
 most:m.sg<=1000000000000000000
 cnt:∃ k,(m.lv=2*k+1/\9*k+f.sg<=m.sg/\9*k+l.sg<=m.sg)\/(m.lv=2*k+2/\9*k+9<=m.sg/\9*k+f.sg+l.sg<=m.sg)
 pl:bu x=true
structure Tx (ps:List Pc) (n:Nat) (m:Ms) (x:Str) (f l:Ms):Prop where
 n1:1<=n
 ms:(meas ps)[n]? = some m
 rd:(reads ps)[n]? = some x
 ky:Ky ps m x f l
theorem Ky.pre {ps ps':List Pc} {m:Ms} {x:Str} {f l:Ms} (k:Ky ps m x f l) (h:ps <+: ps'):Ky ps' m x f l :=
 { k with fl:=aV h k.fl,ll:=aV h k.ll }
theorem Tx.pre {ps ps':List Pc} {n:Nat} {m:Ms} {x:Str} {f l:Ms} (k:Tx ps n m x f l) (h:ps <+: ps'):Tx ps' n m x f l :=
 ⟨k.n1,aV h k.ms,oq h k.rd,k.ky.pre h⟩
theorem Tx.le {ps:List Pc} {n:Nat} {m:Ms} {x:Str} {f l:Ms} (k:Tx ps n m x f l):n<=ps.length:=by
 have:=(List.getElem?_eq_some_iff.mp k.ms).1
 rw [c6] at this;lia
def i9 (ma mb:Ms):Ms:=⟨ma.sg+mb.sg,ma.en+mb.en,ma.lv+mb.lv,max ma.ht mb.ht+1,ma.fl,mb.ll⟩
theorem mh (x y:Str):bu (x++y)=(bu x && bu y):=by unfold bu;rw [eF,List.all_append]
theorem FD {n n' s s' f l f' l':Nat} (a:∃ k,(n=2*k+1/\9*k+f<=s/\9*k+l<=s)\/(n=2*k+2/\9*k+9<=s/\9*k+f+l<=s)) (b:∃ k,(n'=2*k+1/\9*k+f'<=s'/\9*k+l'<=s')\/(n'=2*k+2/\9*k+9<=s'/\9*k+f'+l'<=s')) (hs:8<l+f') :
  ∃ k,(n+n'=2*k+1/\9*k+f<=s+s'/\9*k+l'<=s+s')\/(n+n'=2*k+2/\9*k+9<=s+s'/\9*k+f+l'<=s+s'):=by
 obtain ⟨k,⟨rfl,a1,a2⟩ | ⟨rfl,a1,a2⟩⟩:=a<;>obtain ⟨k',⟨rfl,b1,b2⟩ | ⟨rfl,b1,b2⟩⟩:=b
 ·exact ⟨k+k',.inr ⟨by lia,by lia,by lia⟩⟩
 ·exact ⟨k+k'+1,.inl ⟨by lia,by lia,by lia⟩⟩
 ·exact ⟨k+k'+1,.inl ⟨by lia,by lia,by lia⟩⟩
 ·exact ⟨k+k'+1,.inr ⟨by lia,by lia,by lia⟩⟩
theorem Ky.fork {ps:List Pc} {ma mb fa la fb lb:Ms} {x y:Str} (A:Ky ps ma x fa la) (B:Ky ps mb y fb lb) (hs:8<la.sg+fb.sg) (hm:ma.sg+mb.sg<=1000000000000000000):Ky ps (i9 ma mb) (x++y) fa lb:=by
 have k:=FD A.cnt B.cnt hs
 refine ⟨A.fl,B.ll,?_,?_,A.f1,A.f8,B.l1,B.l8,Nat.le_trans A.lv (Nat.le_add_right _ _),?_,hm,k,?_⟩
 ·show ma.sg+mb.sg=_;rw [bY,A.sg,B.sg]
 ·show ma.en+mb.en=_;rw [Fx,A.en,B.en]
 ·have a4:=A.ht
  show 0<=max ma.ht mb.ht+1
  clear k hs hm;lia
 ·rw [mh,A.pl,B.pl];rfl
theorem ot {x:Str} (h:fo x=true):1<=x.length/\x.length<=8/\bu x=true:=by
 simp [fo] at h;exact ⟨h.2.1,h.2.2,h.1⟩
theorem ja {α:Type} {l:List α} {i:Nat} {d x:α} (e:l[i]? = some x):l.getD i d=x:=by simp [List.getD,e]
def bA (x:Str) (n:Nat):Ms:=⟨x.length,iH x,1,0,n,n⟩
theorem j4 {ps:List Pc} (g:Good ps) {i:Nat} {x:Str} (e:ps[i]? = some (.leaf x)):Tx ps (i+1) (bA x (i+1)) x (bA x (i+1)) (bA x (i+1)):=by
 have hi:=(List.getElem?_eq_some_iff.mp e).1
 have ok:fo x=true:=g.get e
 obtain ⟨s1,s2,s3⟩:=ot ok
 have li:(ps.take i).length=i:=by simp;lia
 have ml:(meas (ps.take i)).length=i+1:=by rw [c6,li]
 have e1':(meas ps)[i+1]? = some (bA x (i+1)):=by rw [x6 e];simp only [gF,bA];rw [ml]
 exact ⟨by lia,e1',x8 e,⟨e1',e1',rfl,rfl,s1,s2,s1,s2,Nat.le_refl 1,Int.le_refl 0,by show x.length<=_;lia,⟨0,.inl ⟨rfl,Nat.le_of_eq (Nat.zero_add _),Nat.le_of_eq (Nat.zero_add _)⟩⟩,s3⟩⟩
theorem jb {ps:List Pc} (g:Good ps) {i a b:Nat} {ma mb fa la fb lb:Ms} {x y:Str} (e:ps[i]? = some (.fork a b)) (A:Tx ps a ma x fa la) (B:Tx ps b mb y fb lb):Tx ps (i+1) (i9 ma mb) (x++y) fa lb:=by
 have hi:=(List.getElem?_eq_some_iff.mp e).1
 have ok':ForkOk (ps.take i) a b:=g.get e
 have li:(ps.take i).length=i:=by simp;lia
 have tp:=l9 ps i
 obtain ⟨ma',mb',la',fb',q1,q2,q3,q4,q5,q6,q7⟩:=ok'.ex
 have ba:=(List.getElem?_eq_some_iff.mp q1).1
 have bb:=(List.getElem?_eq_some_iff.mp q2).1
 rw [c6,li] at ba bb
 have z1:=A.ms.symm.trans (aV tp q1);cases z1
 have z2:=B.ms.symm.trans (aV tp q2);cases z2
 have z3:=A.ky.ll.symm.trans (aV tp q3);cases z3
 have z4:=B.ky.fl.symm.trans (aV tp q4);cases z4
 have r1:(reads (ps.take i))[a]? = some x:=by
  obtain ⟨w,ew⟩:∃ w,(reads (ps.take i))[a]? = some w:=⟨(reads (ps.take i))[a]'(by rw [om,li];lia),by simp⟩
  have:=(oq tp ew).symm.trans A.rd;cases this;exact ew
 have r2:(reads (ps.take i))[b]? = some y:=by
  obtain ⟨w,ew⟩:∃ w,(reads (ps.take i))[b]? = some w:=⟨(reads (ps.take i))[b]'(by rw [om,li];lia),by simp⟩
  have:=(oq tp ew).symm.trans B.rd;cases this;exact ew
 refine ⟨by lia,?_,?_,A.ky.fork B.ky q5 q7⟩
 ·rw [x6 e];simp only [gF,ja q1,ja q2];rfl
 ·rw [x8 e];simp only [j3,ja r1,ja r2]
theorem Good.tx {ps:List Pc} (g:Good ps):∀ n,1<=n->n<=ps.length->∃ m x f l,Tx ps n m x f l:=by
 intro n
 induction n using Nat.strongRecOn with
 | ind n ih =>
  intro h1 h2
  obtain ⟨i,rfl⟩:∃ i,n=i+1:=⟨n-1,(Nat.sub_add_cancel h1).symm⟩
  obtain ⟨q,eq⟩:∃ q,ps[i]? = some q:=⟨ps[i],by simp⟩
  have ok:=g.get eq
  have li:(ps.take i).length=i:=(si eq).2
  cases q with
  | leaf x=>exact ⟨_,_,_,_,j4 g eq⟩
  | fork a b =>
   have ok':ForkOk (ps.take i) a b:=ok
   obtain ⟨ma,mb,la,fb,q1,q2,_⟩:=ok'.ex
   have ba:=(List.getElem?_eq_some_iff.mp q1).1
   have bb:=(List.getElem?_eq_some_iff.mp q2).1
   rw [c6,li] at ba bb
   obtain ⟨_,_,_,_,A⟩:=ih a ba ok'.pa (Nat.le_trans (Nat.le_of_lt ba) h2)
   obtain ⟨_,_,_,_,B⟩:=ih b bb ok'.pb (Nat.le_trans (Nat.le_of_lt bb) h2)
   exact ⟨_,_,_,_,jb g eq A B⟩
structure Dd (p:Nat) (h h':AH) (ps ps':List Pc) (k:Nat):Prop where
 sh:ShelfAt h' p ps'
 gd:Good ps'
 pre:ps <+: ps'
 len:ps'.length<=ps.length+k
 fr:∀ i,i<=p\/p+8<i->h'[i]? = h[i]?
 hl:h'.length=h.length
theorem ShelfAt.keep {h h':AH} {p:Nat} {ps:List Pc} (S:ShelfAt h p ps) (e:∀ i,p<=i->i<=p+8->h'[i]? = h[i]?):ShelfAt h' p ps:=by
 have k:∀ j,j<=8->h'[p+j]? = h[p+j]? := λj hj=>e _ (Nat.le_add_right p j) (Nat.add_le_add_left hj p)
 exact ⟨(k 0 (by decide)).trans S.ob,(k 1 (by decide)).trans S.h1,(k 2 (by decide)).trans S.h2,(k 3 (by decide)).trans S.h3,(k 4 (by decide)).trans S.h4,(k 5 (by decide)).trans S.h5,(k 6 (by decide)).trans S.h6,(k 7 (by decide)).trans S.h7,(k 8 (by decide)).trans S.h8⟩
theorem ShelfAt.app {h:AH} {p:Nat} {ps:List Pc} (S:ShelfAt h p ps) (r:AH):ShelfAt (h++r) p ps:=by
 have:=dO S.h8
 exact S.keep λi _ b=>List.getElem?_append_left (Nat.lt_of_le_of_lt b this)
structure Wk (p r:Nat) (h h':AH) (ps ps':List Pc) (k:Nat):Prop where
 sh:ShelfAt h' p ps'
 gd:Good ps'
 pre:ps <+: ps'
 len:ps'.length<=ps.length+k
 row:∃ N:Int,h'[r]? = some (.lst [.int N])
 fr:∀ i,i<=p\/p+8<i->i≠r->h'[i]? = h[i]?
 hl:h'.length=h.length
theorem Wk.refl {p r:Nat} {h:AH} {ps:List Pc} (S:ShelfAt h p ps) (g:Good ps) (e:∃ N:Int,h[r]? = some (.lst [.int N])):Wk p r h h ps ps 0 :=
 ⟨S,g,List.prefix_refl _,by lia,e,λ_ _ _=>rfl,rfl⟩
theorem ou {h:AH} {p:Nat} {ps:List Pc} {i:Nat} (S:ShelfAt h p ps) (hi:i<=ps.length):i5 [.ref p,.int i] h = .ok .non h:=by
 by_cases z:i=0
 ·subst z;simp [i5]
 ·have c:=oh S (i:=(i:Int)) ⟨by lia,by lia⟩
  simp [i5,z,S.ob,c]
theorem jc {h:AH} {p:Nat} {ps:List Pc} {i:Nat} {m:Ms} (S:ShelfAt h p ps) (e:(meas ps)[i]? = some m):iC [.ref p,.int i] h = .ok (.int m.sg) h:=by
 have hi:=(List.getElem?_eq_some_iff.mp e).1
 rw [c6] at hi
 simp [iC,ou S (show i<=ps.length by lia),S.ob,S.h3,cP e]
theorem cK {h:AH} {p:Nat} {ps:List Pc} {i:Nat} {m:Ms} (S:ShelfAt h p ps) (e:(meas ps)[i]? = some m):fP [.ref p,.int i] h = .ok (.int m.ht) h:=by
 have hi:=(List.getElem?_eq_some_iff.mp e).1
 rw [c6] at hi
 simp [fP,ou S (show i<=ps.length by lia),S.ob,S.h6,cP e]
theorem x9 {h:AH} {p:Nat} {ps:List Pc} {i:Nat} {m:Ms} (S:ShelfAt h p ps) (e:(meas ps)[i]? = some m):lS [.ref p,.int i] h = .ok (.int m.fl) h:=by
 have hi:=(List.getElem?_eq_some_iff.mp e).1
 rw [c6] at hi
 simp [lS,ou S (show i<=ps.length by lia),S.ob,S.h7,cP e]
theorem ya {h:AH} {p:Nat} {ps:List Pc} {i:Nat} {m:Ms} (S:ShelfAt h p ps) (e:(meas ps)[i]? = some m):lR [.ref p,.int i] h = .ok (.int m.ll) h:=by
 have hi:=(List.getElem?_eq_some_iff.mp e).1
 rw [c6] at hi
 simp [lR,ou S (show i<=ps.length by lia),S.ob,S.h8,cP e]
def lp:Nat->Nat×Nat
 | 0=>(1,2)
 | n+1=>((lp n).2,(lp n).1+(lp n).2)
def ll (n:Nat):Nat:=(lp n).1
def ls (n:Nat):Nat:=9*(ll n / 2)+ll n % 2
theorem iI (n:Nat):ll (n+2)=ll n+ll (n+1):=rfl
theorem yb:∀ n,ll n<=ll (n+1)
 | 0=>by decide
 | n+1=>by rw [show n+1+1=n+2 from rfl,iI];lia
theorem FE {a b:Nat} (h:a<=b):ll a<=ll b:=by
 induction h with
 | refl=>exact Nat.le_refl _
 | step h ih=>exact Nat.le_trans ih (yb _)
theorem FG {a b:Nat} (h:a<=b):ls a<=ls b:=by
 have:=FE h
 unfold ls;lia
theorem FH {i j a b:Nat} (h1:i<=j+1) (h2:j<=i+1) (u1:ll i<=a) (u2:ll j<=b):ll (max i j+1)<=a+b:=by
 rcases Nat.lt_trichotomy i j with c | c | c
 ·have e':j=i+1:=Nat.le_antisymm h2 c
  subst e'
  rw [Nat.max_eq_right (Nat.le_succ i),iI];exact Nat.add_le_add u1 u2
 ·subst c
  rw [Nat.max_self]
  refine Nat.le_trans ?_ (Nat.add_le_add u1 u2)
  cases i with
  | zero=>exact Nat.le_refl 2
  | succ k=>rw [show k+1+1=k+2 from rfl,iI];exact Nat.add_le_add_right (yb k) _
 ·have e':i=j+1:=Nat.le_antisymm h1 c
  subst e'
  rw [Nat.max_eq_left (Nat.le_succ j),iI,Nat.add_comm];exact Nat.add_le_add u1 u2
theorem FI {x y:Int} {a b:Nat} (hx:0<=x) (hy:0<=y) (q:(x-y).natAbs<=1) (u1:ll x.toNat<=a) (u2:ll y.toNat<=b):ll (max x y+1).toNat<=a+b:=by
 obtain ⟨i,rfl⟩:=Int.eq_ofNat_of_zero_le hx
 obtain ⟨j,rfl⟩:=Int.eq_ofNat_of_zero_le hy
 have e:(max (i:Int) j+1).toNat=max i j+1:=by clear u1 u2 q;lia
 rw [e]
 exact FH (by clear u1 u2 e;lia) (by clear u1 u2 e;lia) u1 u2
theorem Good.lv {ps:List Pc} (g:Good ps):∀ n m x f l,Tx ps n m x f l->ll m.ht.toNat<=m.lv:=by
 intro n
 induction n using Nat.strongRecOn with
 | ind n ih =>
  intro m x f l T
  have hn:=T.n1
  have hle:=T.le
  obtain ⟨i,rfl⟩:∃ i,n=i+1:=⟨n-1,by lia⟩
  obtain ⟨q,eq⟩:∃ q,ps[i]? = some q:=⟨ps[i],by simp⟩
  cases q with
  | leaf y =>
   have z:=(j4 g eq).ms.symm.trans T.ms;cases z
   exact Nat.le_refl 1
  | fork a b =>
   have ok':ForkOk (ps.take i) a b:=g.get eq
   have li:(ps.take i).length=i:=by simp;lia
   obtain ⟨ma,mb,la,fb,q1,q2,q3,q4,q5,q6,q7⟩:=ok'.ex
   have ba:=(List.getElem?_eq_some_iff.mp q1).1
   have bb:=(List.getElem?_eq_some_iff.mp q2).1
   rw [c6,li] at ba bb
   obtain ⟨ma',x1,fa,la',A⟩:=g.tx a ok'.pa (by lia)
   obtain ⟨mb',y1,fb',lb,B⟩:=g.tx b ok'.pb (by lia)
   have tp:=l9 ps i
   have z1:=A.ms.symm.trans (aV tp q1);cases z1
   have z2:=B.ms.symm.trans (aV tp q2);cases z2
   have u1:=ih a (by lia) _ _ _ _ A
   have u2:=ih b (by lia) _ _ _ _ B
   have z:=(jb g eq A B).ms.symm.trans T.ms;cases z
   exact FI A.ky.ht B.ky.ht q6 u1 u2
theorem Tx.ls {ps:List Pc} (g:Good ps) {n:Nat} {m:Ms} {x:Str} {f l:Ms} (T:Tx ps n m x f l):Sk.ls m.ht.toNat<=m.sg:=by
 have u:=g.lv _ _ _ _ _ T
 have f1:=T.ky.f1
 unfold Sk.ls
 obtain ⟨k,⟨e,a,_⟩ | ⟨e,a,_⟩⟩:=T.ky.cnt
 ·rw [e] at u;generalize ll m.ht.toNat=q at *;clear e;lia
 ·rw [e] at u;generalize ll m.ht.toNat=q at *;clear e;lia
theorem Good.kind {ps:List Pc} (g:Good ps) {n:Nat} {m:Ms} {x:Str} {f l:Ms} (T:Tx ps n m x f l) :
  (ps[n-1]? = some (.leaf x)/\m.ht=0/\m=bA x n/\1<=x.length/\x.length<=8)\/∃ a b ma mb y z fa la fb lb,ps[n-1]? = some (.fork a b)/\a<n/\b<n/\Tx ps a ma y fa la/\Tx ps b mb z fb lb/\x=y++z/\m=i9 ma mb/\(ma.ht-mb.ht).natAbs<=1:=by
 have hn:=T.n1
 have hle:=T.le
 obtain ⟨i,rfl⟩:∃ i,n=i+1:=⟨n-1,by lia⟩
 obtain ⟨q,eq⟩:∃ q,ps[i]? = some q:=⟨ps[i],by simp⟩
 cases q with
 | leaf y =>
  have L:=j4 g eq
  have z:=L.ms.symm.trans T.ms;cases z
  have z2:=L.rd.symm.trans T.rd;cases z2
  have ok:fo x=true:=g.get eq
  obtain ⟨s1,s2,s3⟩:=ot ok
  exact .inl ⟨eq,rfl,rfl,s1,s2⟩
 | fork a b =>
  have ok':ForkOk (ps.take i) a b:=g.get eq
  have li:(ps.take i).length=i:=by simp;lia
  obtain ⟨ma,mb,la,fb,q1,q2,q3,q4,q5,q6,q7⟩:=ok'.ex
  have ba:=(List.getElem?_eq_some_iff.mp q1).1
  have bb:=(List.getElem?_eq_some_iff.mp q2).1
  rw [c6,li] at ba bb
  obtain ⟨ma',y,fa,la',A⟩:=g.tx a ok'.pa (by lia)
  obtain ⟨mb',z,fb',lb,B⟩:=g.tx b ok'.pb (by lia)
  have tp:=l9 ps i
  have z1:=A.ms.symm.trans (aV tp q1);cases z1
  have z2:=B.ms.symm.trans (aV tp q2);cases z2
  have F:=jb g eq A B
  have z3:=F.ms.symm.trans T.ms;cases z3
  have z4:=F.rd.symm.trans T.rd;cases z4
  exact .inr ⟨a,b,ma,mb,y,z,fa,la',fb',lb,eq,by lia,by lia,A,B,rfl,rfl,q6⟩
theorem oy {h:AH} {p:Nat} {ps:List Pc} {n:Nat} {q:Pc} (S:ShelfAt h p ps) (n1:1<=n) (e:ps[n-1]? = some q):cU [.ref p,.int n] h = .ok q.av h:=by
 have:=Fq S e
 rw [show ((n-1:Nat):Int)+1=(n:Int) by lia] at this
 exact this
theorem gG {m a b:Int} (e:m=max a b+1) (ha:0<=a) (hb:0<=b):∃ j:Nat,m.toNat=j+1/\a.toNat<=j/\b.toNat<=j/\0<m:=by
 obtain ⟨x,rfl⟩:=Int.eq_ofNat_of_zero_le ha
 obtain ⟨y,rfl⟩:=Int.eq_ofNat_of_zero_le hb
 subst e
 exact ⟨max x y,by lia,Nat.le_max_left _ _,Nat.le_max_right _ _,by lia⟩
end Sk
namespace Sk
open PySem PySem.Spec L2 Sm
theorem dq {x y:Str} (e:x.cps.toList=y.cps.toList):x=y:=by
 cases x;cases y
 simpa using e
theorem dy (x y z:Str):(x++y)++z=x++(y++z):=dq (by simp only [eF,List.append_assoc])
theorem sj:1000000000000000000<ls 83:=by decide +kernel
theorem gH {ps:List Pc} (g:Good ps) {n:Nat} {m:Ms} {x:Str} {f l:Ms} (T:Tx ps n m x f l):m.ht<=82:=by
 have h1:=T.ls g
 have h2:=T.ky.most
 have h3:=T.ky.ht
 apply Classical.byContradiction
 intro h4
 have:=FG (show 83<=m.ht.toNat by lia)
 have:=sj
 lia
theorem Good.cut {ps:List Pc} (g:Good ps) {n:Nat} {m:Ms} {x:Str} {f l:Ms} (T:Tx ps n m x f l) (hh:0<m.ht) :
  ∃ a b ma mb y z la fb,ps[n-1]? = some (.fork a b)/\Tx ps a ma y f la/\Tx ps b mb z fb l/\x=y++z/\m=i9 ma mb /\ -1<=ma.ht-mb.ht/\ma.ht-mb.ht<=1/\8<la.sg+fb.sg:=by
 rcases g.kind T with ⟨_,e,_⟩ | ⟨a,b,ma,mb,y,z,fa,la,fb,lb,e1,e2,e3,A,B,e4,e5,e6⟩
 ·lia
 ·have ok:ForkOk (ps.take (n-1)) a b:=g.get e1
  obtain ⟨ma',mb',la',fb',q1,q2,q3,q4,q5,_⟩:=(ok.pre (l9 ps _)).ex
  have z1:=A.ms.symm.trans q1;cases z1
  have z2:=B.ms.symm.trans q2;cases z2
  have z3:=A.ky.ll.symm.trans q3;cases z3
  have z4:=B.ky.fl.symm.trans q4;cases z4
  have f1:=T.ky.fl
  have l1:=T.ky.ll
  rw [e5] at f1 l1
  have z5:=f1.symm.trans A.ky.fl;cases z5
  have z6:=l1.symm.trans B.ky.ll;cases z6
  exact ⟨a,b,ma,mb,y,z,la,fb,e1,A,B,e4,e5,by lia,by lia,q5⟩
def bZ (M:Nat) (ps:List Pc):Prop:=∀ (i:Nat) (m:Ms),(meas ps)[i]? = some m->m.sg<=M
theorem yc {M:Nat} {ps ps':List Pc} (f:bZ M ps) (pr:ps <+: ps') (hl:ps'.length=ps.length+1) (hn:∀ m,(meas ps')[ps.length+1]? = some m->m.sg<=M):bZ M ps' := λi m e=>by
 have hi:=(List.getElem?_eq_some_iff.mp e).1
 rw [c6] at hi
 by_cases q:i<=ps.length
 ·obtain ⟨m0,e0⟩:∃ m0,(meas ps)[i]? = some m0:=⟨_,List.getElem?_eq_getElem (by rw [c6];lia)⟩
  have e1:=aV pr e0
  rw [e] at e1
  cases e1
  exact f i _ e0
 ·have:i=ps.length+1:=by lia
  subst this
  exact hn m e
theorem fA {ps1 ps2:List Pc} {n1 n2:Nat} {m1 m2:Ms} (e1:(meas ps1)[n1]? = some m1) (e2:(meas ps2)[n2]? = some m2) (le:m1.sg<=m2.sg):∀ M,(∀ m,(meas ps2)[n2]? = some m->m.sg<=M)->∀ m,(meas ps1)[n1]? = some m->m.sg<=M:=λM h m e=>by
 rw [e1] at e
 cases e
 exact Nat.le_trans le (h _ e2)
structure Dn (F:AH->Out AV) (p:Nat) (h h':AH) (ps ps':List Pc) (k n:Nat):Prop where
 ev:F h = .ok (.int n) h'
 dd:Dd p h h' ps ps' k
 re:∀ h2 ps2,ShelfAt h2 p ps2->Good ps2->ps' <+: ps2->F h2 = .ok (.int n) h2
 al:∀ M,bZ M ps->(∀ m,(meas ps')[n]? = some m->m.sg<=M)->bZ M ps'
theorem Dd.trans {p:Nat} {h h' h'':AH} {ps ps' ps'':List Pc} {k k' k2:Nat} (a:Dd p h h' ps ps' k) (b:Dd p h' h'' ps' ps'' k') (hk:k+k'<=k2):Dd p h h'' ps ps'' k2 :=
 ⟨b.sh,b.gd,a.pre.trans b.pre,by have:=a.len;have:=b.len;lia,λi hi=>(b.fr i hi).trans (a.fr i hi),b.hl.trans a.hl⟩
theorem Dd.refl {p:Nat} {h:AH} {ps:List Pc} (S:ShelfAt h p ps) (g:Good ps):Dd p h h ps ps 0:=⟨S,g,List.prefix_refl _,by lia,λ_ _=>rfl,rfl⟩
theorem Dn.seq {F F1:AH->Out AV} {F2:AV->AH->Out AV} {p:Nat} {h h1 h2:AH} {ps ps1 ps2:List Pc} {k1 k2 k n1 n2:Nat} (S:ShelfAt h p ps) (g:Good ps) (d1:Dn F1 p h h1 ps ps1 k1 n1) (d2:Dn (F2 (.int n1)) p h1 h2 ps1 ps2 k2 n2)
  (eq:∀ hh pp,ShelfAt hh p pp->Good pp->ps <+: pp->F hh=(F1 hh).bind F2) (hk:k1+k2<=k) (pt:∀ M,(∀ m,(meas ps2)[n2]? = some m->m.sg<=M)->∀ m,(meas ps1)[n1]? = some m->m.sg<=M):Dn F p h h2 ps ps2 k n2:=by
 refine ⟨?_,d1.dd.trans d2.dd hk,λh3 ps3 S3 g3 p3=>?_,λM f hn=>d2.al M (d1.al M f (pt M hn)) hn⟩
 ·rw [eq h ps S g (List.prefix_refl _),d1.ev];exact d2.ev
 ·rw [eq h3 ps3 S3 g3 (d1.dd.pre.trans (d2.dd.pre.trans p3)),d1.re h3 ps3 S3 g3 (d2.dd.pre.trans p3)]
  exact d2.re h3 ps3 S3 g3 p3
theorem Dn.as {F F1:AH->Out AV} {p:Nat} {h h1:AH} {ps ps1:List Pc} {k1 k n1:Nat} (S:ShelfAt h p ps) (g:Good ps) (d1:Dn F1 p h h1 ps ps1 k1 n1) (eq:∀ hh pp,ShelfAt hh p pp->Good pp->ps <+: pp->F hh=F1 hh) (hk:k1<=k):Dn F p h h1 ps ps1 k n1:=by
 refine ⟨?_,{ d1.dd with len:=Nat.le_trans d1.dd.len (Nat.add_le_add_left hk _) },λh3 ps3 S3 g3 p3=>?_,d1.al⟩
 ·rw [eq h ps S g (List.prefix_refl _)];exact d1.ev
 ·rw [eq h3 ps3 S3 g3 (d1.dd.pre.trans p3)];exact d1.re h3 ps3 S3 g3 p3
theorem Dn.val {F:AH->Out AV} {p n:Nat} {h:AH} {ps:List Pc} (S:ShelfAt h p ps) (g:Good ps) (eq:∀ hh pp,ShelfAt hh p pp->Good pp->ps <+: pp->F hh = .ok (.int n) hh):Dn F p h h ps ps 0 n :=
 ⟨eq h ps S g (List.prefix_refl _),Dd.refl S g,λh3 ps3 S3 g3 p3=>eq h3 ps3 S3 g3 p3,λ_ f _=>f⟩
theorem dr {ps ps':List Pc} (h:ps <+: ps') {i:Nat} {q:Pc} (e:ps[i]? = some q):ps'[i]? = some q:=by
 obtain ⟨r,rfl⟩:=h
 rw [List.getElem?_append_left (List.getElem?_eq_some_iff.mp e).1];exact e
theorem yd {h:AH} {p:Nat} {ps:List Pc} {x:Str} (S:ShelfAt h p ps) (g:Good ps) (hx:fo x=true) (hz:ps.length<16000000) :
  ∃ (n:Nat) (ps':List Pc) (h':AH),Dn (dR [.ref p,.str x]) p h h' ps ps' 1 n/\Tx ps' n (bA x n) x (bA x n) (bA x n):=by
 obtain ⟨s1,s2,s3⟩:=ot hx
 have hs:x.length<=sizeLine:=Nat.le_trans s2 (by decide)
 by_cases hq:Pc.leaf x∈ps
 ·obtain ⟨i,hi,e⟩:=List.getElem_of_mem hq
  have e':ps[i]? = some (.leaf x):=by rw [List.getElem?_eq_getElem hi,e]
  exact ⟨i+1,ps,h,⟨r8 S g.nodup hx hs e',⟨S,g,List.prefix_refl _,by lia,λ_ _=>rfl,rfl⟩,λh2 ps2 S2 g2 p2=>r8 S2 g2.nodup hx hs (dr p2 e'),λ_ f _=>f⟩,j4 g e'⟩
 ·have g':Good (ps++[.leaf x]):=.snoc g hq hx
  have e':(ps++[Pc.leaf x])[ps.length]? = some (.leaf x):=by simp
  exact ⟨ps.length+1,_,_,⟨xW S hx hs hq hz,⟨lX S,g',List.prefix_append _ _,by simp,λi hi=>og hi,rY _ _ _⟩,λh2 ps2 S2 g2 p2=>r8 S2 g2.nodup hx hs (dr p2 e'),λM f hn=>yc f (List.prefix_append _ _) (by simp) hn⟩,j4 g' e'⟩
theorem ft {h:AH} {p:Nat} {ps:List Pc} {a b:Nat} {ma mb fa la fb lb:Ms} {x y:Str} (S:ShelfAt h p ps) (g:Good ps) (A:Tx ps a ma x fa la) (B:Tx ps b mb y fb lb) (hc:8<la.sg+fb.sg) (v1 : -1<=ma.ht-mb.ht) (v2:ma.ht-mb.ht<=1) (hm:ma.sg+mb.sg<=1000000000000000000) (hz:ps.length<16000000) :
  ∃ (n:Nat) (ps':List Pc) (h':AH),Dn (aN [.ref p,.int a,.int b]) p h h' ps ps' 1 n/\Tx ps' n (i9 ma mb) (x++y) fa lb:=by
 have F:ForkOk ps a b:=⟨A.n1,B.n1,ma,mb,la,fb,A.ms,B.ms,A.ky.ll,B.ky.fl,hc,by lia,hm⟩
 by_cases hq:Pc.fork a b∈ps
 ·obtain ⟨i,hi,e⟩:=List.getElem_of_mem hq
  have e':ps[i]? = some (.fork a b):=by rw [List.getElem?_eq_getElem hi,e]
  exact ⟨i+1,ps,h,⟨r9 S g.nodup F e',⟨S,g,List.prefix_refl _,by lia,λ_ _=>rfl,rfl⟩,λh2 ps2 S2 g2 p2=>r9 S2 g2.nodup (F.pre p2) (dr p2 e'),λ_ f _=>f⟩,jb g e' A B⟩
 ·have g':Good (ps++[.fork a b]):=.snoc g hq F
  have e':(ps++[Pc.fork a b])[ps.length]? = some (.fork a b):=by simp
  have pr:ps <+: ps++[Pc.fork a b]:=List.prefix_append _ _
  exact ⟨ps.length+1,_,_,⟨xY S F hq hz,⟨lX S,g',pr,by simp,λi hi=>og hi,rY _ _ _⟩,λh2 ps2 S2 g2 p2=>r9 S2 g2.nodup (F.pre (pr.trans p2)) (dr p2 e'),λM f hn=>yc f pr (by simp) hn⟩,jb g' e' (A.pre pr) (B.pre pr)⟩
theorem fu (ma mb:Ms):(i9 ma mb).sg=ma.sg+mb.sg:=rfl
theorem bK (ma mb:Ms):(i9 ma mb).ht=max ma.ht mb.ht+1:=rfl
theorem i1 (s:Str) (a b:Int) (h:AH):aw (.tup [.str s,.int a,.int b]) (.int 1) h = .ok (.int a) h:=rfl
theorem i2 (s:Str) (a b:Int) (h:AH):aw (.tup [.str s,.int a,.int b]) (.int 2) h = .ok (.int b) h:=rfl
theorem gI {h:AH} {p:Nat} {ps:List Pc} {n a b:Nat} (S:ShelfAt h p ps) (n1:1<=n) (e:ps[n-1]? = some (.fork a b)):cU [.ref p,.int n] h = .ok (.tup [.str "fork",.int a,.int b]) h:=oy S n1 e
theorem sk {h:AH} {p:Nat} {ps:List Pc} {a b:Nat} {ma mb:Ms} (S:ShelfAt h p ps) (ea:(meas ps)[a]? = some ma) (eb:(meas ps)[b]? = some mb) (hd:mb.ht-ma.ht<2) :
  fz [.ref p,.int a,.int b] h=aN [.ref p,.int a,.int b] h:=by
 have f1:=cK S ea
 have f2:=cK S eb
 generalize hF:aN [.ref p,.int a,.int b] h=R
 simp [fz,S.ob,f1,f2,hd,hF]
 cases R<;>rfl
theorem sr {h:AH} {p:Nat} {ps:List Pc} {a b c d:Nat} {ma mb mc md:Ms} (S:ShelfAt h p ps) (b1:1<=b) (ea:(meas ps)[a]? = some ma) (eb:(meas ps)[b]? = some mb) (e:ps[b-1]? = some (.fork c d)) (ec:(meas ps)[c]? = some mc) (ed:(meas ps)[d]? = some md) (hd : ¬ mb.ht-ma.ht<2) (hh:mc.ht<=md.ht) :
  fz [.ref p,.int a,.int b] h=(aN [.ref p,.int a,.int c] h).bind λv h1=>aN [.ref p,v,.int d] h1:=by
 have f1:=cK S ea
 have f2:=cK S eb
 have f3:=gI S b1 e
 have f4:=cK S ec
 have f5:=cK S ed
 generalize hF:aN [.ref p,.int a,.int c] h=R
 simp [fz,S.ob,f1,f2,hd,f3,i1,i2,f4,f5,hh,hF,-aw]
 cases R with
 | ok v h1=>dsimp only;cases aN [.ref p,v,.int d] h1<;>rfl
 | ex c h1=>rfl
 | bad=>rfl
def cQ (p:Nat) (F:AH->Out AV) (h:AH):Out AV:=match h[p]? with
 | some (.ins c' _)=>if c'=0 then F h else .bad
 | _=>.bad
theorem ye {h:AH} {p:Nat} {ps:List Pc} (S:ShelfAt h p ps) (F:AH->Out AV):cQ p F h=F h:=by simp [cQ,S.ob]
theorem su {h:AH} {p:Nat} {ps:List Pc} {a b c d i j:Nat} {ma mb mc md:Ms} (S:ShelfAt h p ps) (b1:1<=b) (c1:1<=c) (ea:(meas ps)[a]? = some ma) (eb:(meas ps)[b]? = some mb) (e:ps[b-1]? = some (.fork c d)) (ec:(meas ps)[c]? = some mc) (ed:(meas ps)[d]? = some md) (e2:ps[c-1]? = some (.fork i j)) (hd : ¬ mb.ht-ma.ht<2) (hh : ¬ mc.ht<=md.ht) :
  fz [.ref p,.int a,.int b] h=(aN [.ref p,.int a,.int i] h).bind λv h1=>(cQ p (aN [.ref p,.int j,.int d]) h1).bind λw h2=>aN [.ref p,v,w] h2:=by
 have f1:=cK S ea
 have f2:=cK S eb
 have f3:=gI S b1 e
 have f4:=cK S ec
 have f5:=cK S ed
 have f6:=gI S c1 e2
 generalize hF:aN [.ref p,.int a,.int i] h=R
 simp [fz,S.ob,f1,f2,hd,f3,i1,i2,f4,f5,hh,f6,hF,-aw]
 cases R with
 | ok v h1 =>
  unfold cQ
  dsimp only
  cases hx:h1[p]? with
  | none=>rfl
  | some o =>
   cases o with
   | lst l=>rfl
   | dct q l=>rfl
   | dcx l=>rfl
   | ins c' l =>
    dsimp only
    by_cases z:c'=0
    ·rw [if_pos z]
     cases aN [.ref p,.int j,.int d] h1 with
     | ok w h2=>dsimp only;cases aN [.ref p,v,w] h2<;>rfl
     | ex c h2=>rfl
     | bad=>rfl
    ·rw [if_neg z]
 | ex c h1=>rfl
 | bad=>rfl
theorem sv {a b m:Int} (h1 : -1<=b-a) (h2:b-a<2) (e:m=max a b+1):max a b<=m/\m<=max a b+1/\(b-a<=1->m=max a b+1):=by lia
theorem FJ {a b c d i j:Int} (ht:b=max c d+1) (ht2:c=max i j+1) (w1 : -1<=c-d) (w2:c-d<=1) (v2:b-a<=2) (q : ¬ b-a<2) (r : ¬ c<=d):max a b<=max (max a i+1) (max j d+1)+1/\max (max a i+1) (max j d+1)+1<=max a b+1/\(b-a<=1->max (max a i+1) (max j d+1)+1=max a b+1):=by
 have hi:=Int.le_max_left i j
 have hj:=Int.le_max_right i j
 generalize max i j=k at *
 rw [Int.max_eq_left (show d<=c by lia)] at ht
 rw [Int.max_eq_left (show i<=a by lia),Int.max_eq_right (show j<=d by lia),Int.max_eq_right (show a<=b by lia),Int.max_eq_left (show d+1<=a+1 by lia)]
 lia
theorem FK {a b c d i j:Int} (ht:a=max c d+1) (ht2:d=max i j+1) (w1 : -1<=c-d) (w2:c-d<=1) (v2:a-b<=2) (q : ¬ a-b<2) (r : ¬ d<=c):max a b<=max (max c i+1) (max j b+1)+1/\max (max c i+1) (max j b+1)+1<=max a b+1/\(a-b<=1->max (max c i+1) (max j b+1)+1=max a b+1):=by
 have hi:=Int.le_max_left i j
 have hj:=Int.le_max_right i j
 generalize max i j=k at *
 rw [Int.max_eq_right (show c<=d by lia)] at ht
 rw [Int.max_eq_left (show i<=c by lia),Int.max_eq_right (show j<=b by lia),Int.max_eq_left (show b<=a by lia),Int.max_eq_left (show b+1<=c+1 by lia)]
 lia
theorem yf {h:AH} {p:Nat} {ps:List Pc} {a b:Nat} {ma mb fa la fb lb:Ms} {x y:Str} (S:ShelfAt h p ps) (g:Good ps) (A:Tx ps a ma x fa la) (B:Tx ps b mb y fb lb) (hc:8<la.sg+fb.sg) (v1 : -1<=mb.ht-ma.ht) (v2:mb.ht-ma.ht<=2) (hm:ma.sg+mb.sg<=1000000000000000000) (hz:ps.length+3<16000000) :
  ∃ (n:Nat) (ps':List Pc) (h':AH) (m:Ms),Dn (fz [.ref p,.int a,.int b]) p h h' ps ps' 3 n/\Tx ps' n m (x++y) fa lb/\max ma.ht mb.ht<=m.ht/\m.ht<=max ma.ht mb.ht+1/\(mb.ht-ma.ht<=1->m.ht=max ma.ht mb.ht+1):=by
 by_cases q:mb.ht-ma.ht<2
 ·obtain ⟨n,ps',h',d,T⟩:=ft S g A B hc (by lia) (by lia) hm (by lia)
  exact ⟨n,ps',h',_,d.as S g (λhh pp S' _ pr=>sk S' (aV pr A.ms) (aV pr B.ms) q) (by lia),T,sv v1 q (bK ma mb)⟩
 ·obtain ⟨c,d,mc,md,y1,y2,lc,fd,e,C,D,rfl,em,w1,w2,w3⟩:=g.cut B (by have:=A.ky.ht;lia)
  have sg:=congrArg Ms.sg em
  have ht:=congrArg Ms.ht em
  rw [fu] at sg
  rw [bK] at ht
  by_cases r:mc.ht<=md.ht
  ·obtain ⟨n1,ps1,h1,d1,T1⟩:=ft S g A C hc (by lia) (by lia) (by lia) (by lia)
   obtain ⟨n2,ps2,h2,d2,T2⟩:=ft d1.dd.sh d1.dd.gd T1 (D.pre d1.dd.pre) w3 (by rw [bK];lia) (by rw [bK];lia) (by rw [fu];lia) (by have:=d1.dd.len;lia)
   rw [dy] at T2
   refine ⟨n2,ps2,h2,_,Dn.seq S g d1 d2 (λhh pp S' _ pr=>sr S' B.n1 (aV pr A.ms) (aV pr B.ms) (dr pr e) (aV pr C.ms) (aV pr D.ms) q r) (by lia) (fA T1.ms T2.ms (Nat.le_add_right _ _)),T2,?_⟩
   rw [bK,bK];lia
  ·obtain ⟨i,j,mi,mj,z1,z2,li,fj,e2,I,J,rfl,em2,u1,u2,u3⟩:=g.cut C (by have:=D.ky.ht;lia)
   have sg2:=congrArg Ms.sg em2
   have ht2:=congrArg Ms.ht em2
   rw [fu] at sg2
   rw [bK] at ht2
   obtain ⟨n1,ps1,h1,d1,T1⟩:=ft S g A I hc (by lia) (by lia) (by lia) (by lia)
   obtain ⟨n2,ps2,h2,d2,T2⟩:=ft d1.dd.sh d1.dd.gd (J.pre d1.dd.pre) (D.pre d1.dd.pre) w3 (by lia) (by lia) (by lia) (by have:=d1.dd.len;lia)
   obtain ⟨n3,ps3,h3,d3,T3⟩:=ft d2.dd.sh d2.dd.gd (T1.pre d2.dd.pre) T2 u3 (by rw [bK,bK];lia) (by rw [bK,bK];lia) (by rw [fu,fu];lia) (by have:=d1.dd.len;have:=d2.dd.len;lia)
   have d2':Dn (cQ p (aN [.ref p,.int j,.int d])) p h1 h2 ps1 ps2 1 n2:=d2.as d1.dd.sh d1.dd.gd (λhh pp S' _ _=>ye S' _) (Nat.le_refl _)
   have d23:=Dn.seq (F:=λh1=>(cQ p (aN [.ref p,.int j,.int d]) h1).bind λw h2=>aN [.ref p,.int n1,w] h2) (F2:=λw h2=>aN [.ref p,.int n1,w] h2) d1.dd.sh d1.dd.gd d2' d3 (λ_ _ _ _ _=>rfl) (k:=2) (by lia) (fA T2.ms T3.ms (Nat.le_add_left _ _))
   have ea:(x++z1)++(z2++y2)=x++(z1++z2++y2):=by rw [dy,dy]
   rw [ea] at T3
   refine ⟨n3,ps3,h3,_,Dn.seq (F2:=λv h1=>(cQ p (aN [.ref p,.int j,.int d]) h1).bind λw h2=>aN [.ref p,v,w] h2) S g d1 d23 (λhh pp S' _ pr=>su S' B.n1 C.n1 (aV pr A.ms) (aV pr B.ms) (dr pr e) (aV pr C.ms) (aV pr D.ms) (dr pr e2) q r) (by lia) (fA T1.ms T3.ms (Nat.le_add_right _ _)),T3,?_⟩
   rw [bK,bK,bK];exact FJ ht ht2 w1 w2 v2 q r
theorem sC {h:AH} {p:Nat} {ps:List Pc} {a b:Nat} {ma mb:Ms} (S:ShelfAt h p ps) (ea:(meas ps)[a]? = some ma) (eb:(meas ps)[b]? = some mb) (hd:ma.ht-mb.ht<2) :
  gD [.ref p,.int a,.int b] h=aN [.ref p,.int a,.int b] h:=by
 have f1:=cK S ea
 have f2:=cK S eb
 generalize hF:aN [.ref p,.int a,.int b] h=R
 simp [gD,S.ob,f1,f2,hd,hF]
 cases R<;>rfl
theorem sD {h:AH} {p:Nat} {ps:List Pc} {a b c d:Nat} {ma mb mc md:Ms} (S:ShelfAt h p ps) (a1:1<=a) (ea:(meas ps)[a]? = some ma) (eb:(meas ps)[b]? = some mb) (e:ps[a-1]? = some (.fork c d)) (ec:(meas ps)[c]? = some mc) (ed:(meas ps)[d]? = some md) (hd : ¬ ma.ht-mb.ht<2) (hh:md.ht<=mc.ht) :
  gD [.ref p,.int a,.int b] h=(aN [.ref p,.int d,.int b] h).bind λv h1=>aN [.ref p,.int c,v] h1:=by
 have f1:=cK S ea
 have f2:=cK S eb
 have f3:=gI S a1 e
 have f4:=cK S ec
 have f5:=cK S ed
 generalize hF:aN [.ref p,.int d,.int b] h=R
 simp [gD,S.ob,f1,f2,hd,f3,i1,i2,f4,f5,hh,hF,-aw]
 cases R with
 | ok v h1=>dsimp only;cases aN [.ref p,.int c,v] h1<;>rfl
 | ex c h1=>rfl
 | bad=>rfl
theorem sE {h:AH} {p:Nat} {ps:List Pc} {a b c d i j:Nat} {ma mb mc md:Ms} (S:ShelfAt h p ps) (a1:1<=a) (d1:1<=d) (ea:(meas ps)[a]? = some ma) (eb:(meas ps)[b]? = some mb) (e:ps[a-1]? = some (.fork c d)) (ec:(meas ps)[c]? = some mc) (ed:(meas ps)[d]? = some md) (e2:ps[d-1]? = some (.fork i j)) (hd : ¬ ma.ht-mb.ht<2) (hh : ¬ md.ht<=mc.ht) :
  gD [.ref p,.int a,.int b] h=(aN [.ref p,.int c,.int i] h).bind λv h1=>(cQ p (aN [.ref p,.int j,.int b]) h1).bind λw h2=>aN [.ref p,v,w] h2:=by
 have f1:=cK S ea
 have f2:=cK S eb
 have f3:=gI S a1 e
 have f4:=cK S ec
 have f5:=cK S ed
 have f6:=gI S d1 e2
 generalize hF:aN [.ref p,.int c,.int i] h=R
 simp [gD,S.ob,f1,f2,hd,f3,i1,i2,f4,f5,hh,f6,hF,-aw]
 cases R with
 | ok v h1 =>
  unfold cQ
  dsimp only
  cases hx:h1[p]? with
  | none=>rfl
  | some o =>
   cases o with
   | lst l=>rfl
   | dct q l=>rfl
   | dcx l=>rfl
   | ins c' l =>
    dsimp only
    by_cases z:c'=0
    ·rw [if_pos z]
     cases aN [.ref p,.int j,.int b] h1 with
     | ok w h2=>dsimp only;cases aN [.ref p,v,w] h2<;>rfl
     | ex c h2=>rfl
     | bad=>rfl
    ·rw [if_neg z]
 | ex c h1=>rfl
 | bad=>rfl
theorem FN {h:AH} {p:Nat} {ps:List Pc} {a b:Nat} {ma mb fa la fb lb:Ms} {x y:Str} (S:ShelfAt h p ps) (g:Good ps) (A:Tx ps a ma x fa la) (B:Tx ps b mb y fb lb) (hc:8<la.sg+fb.sg) (v1 : -1<=ma.ht-mb.ht) (v2:ma.ht-mb.ht<=2) (hm:ma.sg+mb.sg<=1000000000000000000) (hz:ps.length+3<16000000) :
  ∃ (n:Nat) (ps':List Pc) (h':AH) (m:Ms),Dn (gD [.ref p,.int a,.int b]) p h h' ps ps' 3 n/\Tx ps' n m (x++y) fa lb/\max ma.ht mb.ht<=m.ht/\m.ht<=max ma.ht mb.ht+1/\(ma.ht-mb.ht<=1->m.ht=max ma.ht mb.ht+1):=by
 by_cases q:ma.ht-mb.ht<2
 ·obtain ⟨n,ps',h',d,T⟩:=ft S g A B hc (by lia) (by lia) hm (by lia)
  refine ⟨n,ps',h',_,d.as S g (λhh pp S' _ pr=>sC S' (aV pr A.ms) (aV pr B.ms) q) (by lia),T,?_⟩
  rw [bK];lia
 ·obtain ⟨c,d,mc,md,y1,y2,lc,fd,e,C,D,rfl,em,w1,w2,w3⟩:=g.cut A (by have:=B.ky.ht;lia)
  have sg:=congrArg Ms.sg em
  have ht:=congrArg Ms.ht em
  rw [fu] at sg
  rw [bK] at ht
  by_cases r:md.ht<=mc.ht
  ·obtain ⟨n1,ps1,h1,d1,T1⟩:=ft S g D B hc (by lia) (by lia) (by lia) (by lia)
   obtain ⟨n2,ps2,h2,d2,T2⟩:=ft d1.dd.sh d1.dd.gd (C.pre d1.dd.pre) T1 w3 (by rw [bK];lia) (by rw [bK];lia) (by rw [fu];lia) (by have:=d1.dd.len;lia)
   rw [<- dy] at T2
   refine ⟨n2,ps2,h2,_,Dn.seq (F2:=λv h1=>aN [.ref p,.int c,v] h1) S g d1 d2 (λhh pp S' _ pr=>sD S' A.n1 (aV pr A.ms) (aV pr B.ms) (dr pr e) (aV pr C.ms) (aV pr D.ms) q r) (by lia) (fA T1.ms T2.ms (Nat.le_add_left _ _)),T2,?_⟩
   rw [bK,bK];lia
  ·obtain ⟨i,j,mi,mj,z1,z2,li,fj,e2,I,J,rfl,em2,u1,u2,u3⟩:=g.cut D (by have:=C.ky.ht;lia)
   have sg2:=congrArg Ms.sg em2
   have ht2:=congrArg Ms.ht em2
   rw [fu] at sg2
   rw [bK] at ht2
   obtain ⟨n1,ps1,h1,d1,T1⟩:=ft S g C I w3 (by lia) (by lia) (by lia) (by lia)
   obtain ⟨n2,ps2,h2,d2,T2⟩:=ft d1.dd.sh d1.dd.gd (J.pre d1.dd.pre) (B.pre d1.dd.pre) hc (by lia) (by lia) (by lia) (by have:=d1.dd.len;lia)
   obtain ⟨n3,ps3,h3,d3,T3⟩:=ft d2.dd.sh d2.dd.gd (T1.pre d2.dd.pre) T2 u3 (by rw [bK,bK];lia) (by rw [bK,bK];lia) (by rw [fu,fu];lia) (by have:=d1.dd.len;have:=d2.dd.len;lia)
   have d2':Dn (cQ p (aN [.ref p,.int j,.int b])) p h1 h2 ps1 ps2 1 n2:=d2.as d1.dd.sh d1.dd.gd (λhh pp S' _ _=>ye S' _) (Nat.le_refl _)
   have d23:=Dn.seq (F:=λh1=>(cQ p (aN [.ref p,.int j,.int b]) h1).bind λw h2=>aN [.ref p,.int n1,w] h2) (F2:=λw h2=>aN [.ref p,.int n1,w] h2) d1.dd.sh d1.dd.gd d2' d3 (λ_ _ _ _ _=>rfl) (k:=2) (by lia) (fA T2.ms T3.ms (Nat.le_add_left _ _))
   have ea:(y1++z1)++(z2++y)=y1++(z1++z2)++y:=by rw [dy,dy,dy]
   rw [ea] at T3
   refine ⟨n3,ps3,h3,_,Dn.seq (F2:=λv h1=>(cQ p (aN [.ref p,.int j,.int b]) h1).bind λw h2=>aN [.ref p,v,w] h2) S g d1 d23 (λhh pp S' _ pr=>sE S' A.n1 D.n1 (aV pr A.ms) (aV pr B.ms) (dr pr e) (aV pr C.ms) (aV pr D.ms) (dr pr e2) q r) (by lia) (fA T1.ms T3.ms (Nat.le_add_right _ _)),T3,?_⟩
   rw [bK,bK,bK];exact FK ht ht2 w1 w2 v2 q r
end Sk
namespace Sk
open PySem PySem.Spec L2 Sm
theorem Dn.seq' {F F1 F2:AH->Out AV} {p:Nat} {h h1 h2:AH} {ps ps1 ps2:List Pc} {k1 k2 k n1 n2:Nat} (S:ShelfAt h p ps) (g:Good ps) (d1:Dn F1 p h h1 ps ps1 k1 n1) (d2:Dn F2 p h1 h2 ps1 ps2 k2 n2)
  (eq:∀ hh hh1 pp,ShelfAt hh p pp->Good pp->ps <+: pp->F1 hh = .ok (.int n1) hh1->F hh=F2 hh1) (hk:k1+k2<=k) (pt:∀ M,(∀ m,(meas ps2)[n2]? = some m->m.sg<=M)->∀ m,(meas ps1)[n1]? = some m->m.sg<=M):Dn F p h h2 ps ps2 k n2:=by
 refine ⟨?_,d1.dd.trans d2.dd hk,λh3 ps3 S3 g3 p3=>?_,λM f hn=>d2.al M (d1.al M f (pt M hn)) hn⟩
 ·rw [eq h h1 ps S g (List.prefix_refl _) d1.ev];exact d2.ev
 ·rw [eq h3 h3 ps3 S3 g3 (d1.dd.pre.trans (d2.dd.pre.trans p3)) (d1.re h3 ps3 S3 g3 (d2.dd.pre.trans p3))]
  exact d2.re h3 ps3 S3 g3 p3
theorem sF {h:AH} {p:Nat} {ps:List Pc} {a b d:Nat} {ma mb:Ms} (S:ShelfAt h p ps) (ea:(meas ps)[a]? = some ma) (eb:(meas ps)[b]? = some mb) (h1:ma.ht-mb.ht<=1) (h2 : -1<=ma.ht-mb.ht) :
  eE (d+1) [.ref p,.int a,.int b] h=aN [.ref p,.int a,.int b] h:=by
 have f1:=cK S ea
 have f2:=cK S eb
 have c1 : ¬ 1<ma.ht-mb.ht:=by lia
 have c2 : ¬ ma.ht-mb.ht < -1:=by lia
 generalize hF:aN [.ref p,.int a,.int b] h=R
 simp [eE,nZ,S.ob,f1,f2,c1,c2,hF]
 cases R<;>rfl
theorem sG {h h1:AH} {p:Nat} {ps:List Pc} {a b c e d:Nat} {v:Int} {ma mb:Ms} (S:ShelfAt h p ps) (a1:1<=a) (ea:(meas ps)[a]? = some ma) (eb:(meas ps)[b]? = some mb) (ep:ps[a-1]? = some (.fork c e)) (hd:1<ma.ht-mb.ht) (ev:eE d [.ref p,.int e,.int b] h = .ok (.int v) h1) :
  eE (d+1) [.ref p,.int a,.int b] h=fz [.ref p,.int c,.int v] h1:=by
 have f1:=cK S ea
 have f2:=cK S eb
 have f3:=gI S a1 ep
 generalize hF:fz [.ref p,.int c,.int v] h1=R
 simp [eE,nZ,S.ob,f1,f2,hd,f3,i1,i2,ev,hF,-aw]
 cases R<;>rfl
theorem sH {h h1:AH} {p:Nat} {ps:List Pc} {a b c e d:Nat} {v:Int} {ma mb:Ms} (S:ShelfAt h p ps) (b1:1<=b) (ea:(meas ps)[a]? = some ma) (eb:(meas ps)[b]? = some mb) (ep:ps[b-1]? = some (.fork c e)) (hd:ma.ht-mb.ht < -1) (ev:eE d [.ref p,.int a,.int c] h = .ok (.int v) h1) :
  eE (d+1) [.ref p,.int a,.int b] h=gD [.ref p,.int v,.int e] h1:=by
 have f1:=cK S ea
 have f2:=cK S eb
 have f3:=gI S b1 ep
 have c1 : ¬ 1<ma.ht-mb.ht:=by lia
 generalize hF:gD [.ref p,.int v,.int e] h1=R
 simp [eE,nZ,S.ob,f1,f2,c1,hd,f3,i1,i2,ev,hF,-aw]
 cases R<;>rfl
theorem oz (a b:Int):a<=max a b/\b<=max a b/\(max a b=a\/max a b=b):=by lia
theorem FO {a b c e m n:Int} (hh:a=max c e+1) (w1 : -1<=c-e) (w2:c-e<=1) (q:1<a-b) (u1:max e b<=m) (u2:m<=max e b+1) (u3:max c m<=n) (u4:n<=max c m+1) (u5:m-c<=1->n=max c m+1):max a b<=n/\n<=max a b+1:=by
 obtain ⟨x1,x2,x3⟩:=oz c e
 obtain ⟨y1,y2,y3⟩:=oz c m
 generalize max c e=k at *
 generalize max c m=l at *
 rw [Int.max_eq_left (show b<=e by lia)] at u1 u2
 rw [Int.max_eq_left (show b<=a by lia)]
 lia
theorem FP {a b c e m n:Int} (hh:b=max c e+1) (w1 : -1<=c-e) (w2:c-e<=1) (q:a-b < -1) (u1:max a c<=m) (u2:m<=max a c+1) (u3:max m e<=n) (u4:n<=max m e+1) (u5:m-e<=1->n=max m e+1):max a b<=n/\n<=max a b+1:=by
 obtain ⟨x1,x2,x3⟩:=oz c e
 obtain ⟨y1,y2,y3⟩:=oz m e
 generalize max c e=k at *
 generalize max m e=l at *
 rw [Int.max_eq_right (show a<=c by lia)] at u1 u2
 rw [Int.max_eq_right (show a<=b by lia)]
 lia
theorem oA {p:Nat}:∀ (d t:Nat) {h:AH} {ps:List Pc} {a b:Nat} {ma mb fa la fb lb:Ms} {x y:Str} (S:ShelfAt h p ps) (g:Good ps) (A:Tx ps a ma x fa la) (B:Tx ps b mb y fb lb) (hc:8<la.sg+fb.sg) (hm:ma.sg+mb.sg<=1000000000000000000)
  (ht:(ma.ht-mb.ht).natAbs<=t) (hd:t<d) (hz:ps.length+3*t+4<16000000),
  ∃ (n:Nat) (ps':List Pc) (h':AH) (m:Ms),Dn (eE d [.ref p,.int a,.int b]) p h h' ps ps' (3*t+1) n/\Tx ps' n m (x++y) fa lb/\max ma.ht mb.ht<=m.ht/\m.ht<=max ma.ht mb.ht+1
 | 0,t,h,ps,a,b,ma,mb,fa,la,fb,lb,x,y,S,g,A,B,hc,hm,ht,hd,hz=>absurd hd (Nat.not_lt_zero t)
 | d+1,t,h,ps,a,b,ma,mb,fa,la,fb,lb,x,y,S,g,A,B,hc,hm,ht,hd,hz=>by
  by_cases q1:1<ma.ht-mb.ht
  ·obtain ⟨c,e,mc,me,y1,y2,lc,fe,ep,C,E,rfl,em,w1,w2,w3⟩:=g.cut A (by have:=B.ky.ht;lia)
   have sg:=congrArg Ms.sg em
   have hh:=congrArg Ms.ht em
   rw [fu] at sg
   rw [bK] at hh
   obtain ⟨n1,ps1,h1,m1,d1,T1,u1,u2⟩:=oA d (t-1) S g E B hc (by lia) (by lia) (by lia) (by lia)
   have s1:m1.sg=me.sg+mb.sg:=by rw [T1.ky.sg,bY,<- E.ky.sg,<- B.ky.sg]
   obtain ⟨n2,ps2,h2,m2,d2,T2,u3,u4,u5⟩:=yf d1.dd.sh d1.dd.gd (C.pre d1.dd.pre) T1 w3 (by lia) (by lia) (by lia) (by have:=d1.dd.len;lia)
   rw [<- dy] at T2
   exact ⟨n2,ps2,h2,m2,Dn.seq' S g d1 d2 (λhh hh1 pp S' _ pr ev=>sG S' A.n1 (aV pr A.ms) (aV pr B.ms) (dr pr ep) q1 ev) (by lia) (fA T1.ms T2.ms (by rw [T1.ky.sg,T2.ky.sg];simp only [bY];lia)),T2,FO hh w1 w2 q1 u1 u2 u3 u4 u5⟩
  ·by_cases q2:ma.ht-mb.ht < -1
   ·obtain ⟨c,e,mc,me,y1,y2,lc,fe,ep,C,E,rfl,em,w1,w2,w3⟩:=g.cut B (by have:=A.ky.ht;lia)
    have sg:=congrArg Ms.sg em
    have hh:=congrArg Ms.ht em
    rw [fu] at sg
    rw [bK] at hh
    obtain ⟨n1,ps1,h1,m1,d1,T1,u1,u2⟩:=oA d (t-1) S g A C hc (by lia) (by lia) (by lia) (by lia)
    have s1:m1.sg=ma.sg+mc.sg:=by rw [T1.ky.sg,bY,<- A.ky.sg,<- C.ky.sg]
    obtain ⟨n2,ps2,h2,m2,d2,T2,u3,u4,u5⟩:=FN d1.dd.sh d1.dd.gd T1 (E.pre d1.dd.pre) w3 (by lia) (by lia) (by lia) (by have:=d1.dd.len;lia)
    rw [dy] at T2
    exact ⟨n2,ps2,h2,m2,Dn.seq' S g d1 d2 (λhh hh1 pp S' _ pr ev=>sH S' B.n1 (aV pr A.ms) (aV pr B.ms) (dr pr ep) q2 ev) (by lia) (fA T1.ms T2.ms (by rw [T1.ky.sg,T2.ky.sg];simp only [bY];lia)),T2,FP hh w1 w2 q2 u1 u2 u3 u4 u5⟩
   ·obtain ⟨n,ps',h',dn,T⟩:=ft S g A B hc (by lia) (by lia) hm (by lia)
    exact ⟨n,ps',h',_,dn.as S g (λhh pp S' _ pr=>sF S' (aV pr A.ms) (aV pr B.ms) (by lia) (by lia)) (by lia),T,by rw [bK];lia,by rw [bK];lia⟩
theorem oB {h:AH} {p:Nat} {ps:List Pc} {n:Nat} {x:Str} (S:ShelfAt h p ps) (n1:1<=n) (e:ps[n-1]? = some (.leaf x)):cU [.ref p,.int n] h = .ok (.tup [.str "leaf",.str x]) h:=oy S n1 e
theorem oC (x:Str) (h:AH):aw (.tup [.str "leaf",.str x]) (.int 0) h = .ok (.str "leaf") h:=rfl
theorem mm (a b:Int) (h:AH):aw (.tup [.str "fork",.int a,.int b]) (.int 0) h = .ok (.str "fork") h:=rfl
theorem sI (x:Str) (h:AH):aw (.tup [.str "leaf",.str x]) (.int 1) h = .ok (.str x) h:=rfl
theorem oE (h:AH):aY (.str "leaf") (.str "leaf") h = .ok (.bl true) h:=by simp
theorem mn (h:AH):aY (.str "fork") (.str "leaf") h = .ok (.bl false) h:=by
 have : ¬ (Str.ofString "fork" = Str.ofString "leaf"):=by decide +kernel
 simp [this]
theorem sJ {h:AH} {p:Nat} {ps:List Pc} {a d:Nat} {L:Int} {x:Str} (S:ShelfAt h p ps) (a1:1<=a) (ep:ps[a-1]? = some (.leaf x)):fZ (d+1) [.ref p,.int a,.int L] h = .ok (.int L) h:=by
 simp [fZ,rR,S.ob,oB S a1 ep,oC,oE,-aw,-aY]
theorem sL {h h1:AH} {p:Nat} {ps:List Pc} {a d c e:Nat} {L v:Int} (S:ShelfAt h p ps) (a1:1<=a) (ep:ps[a-1]? = some (.fork c e)) (ev:fZ d [.ref p,.int e,.int L] h = .ok (.int v) h1) :
  fZ (d+1) [.ref p,.int a,.int L] h=aN [.ref p,.int c,.int v] h1:=by
 generalize hF:aN [.ref p,.int c,.int v] h1=R
 simp [fZ,rR,S.ob,gI S a1 ep,mm,i1,i2,mn,ev,hF,-aw,-aY]
 cases R<;>rfl
theorem oF {ps:List Pc} {n:Nat} {m:Ms} {x:Str} {f l:Ms} (T:Tx ps n m x f l) (e:m=bA x n):f=m/\l=m:=by
 have h1:=T.ky.fl
 have h2:=T.ky.ll
 have h3:=T.ms
 rw [e] at h1 h2
 exact ⟨Option.some.inj (h1.symm.trans h3),Option.some.inj (h2.symm.trans h3)⟩
theorem yg {p:Nat}:∀ (d:Nat) {h:AH} {ps:List Pc} {a L:Nat} {m f l:Ms} {x w:Str} (S:ShelfAt h p ps) (g:Good ps) (T:Tx ps a m x f l) (N:Tx ps L (bA w L) w (bA w L) (bA w L)) (hw:l.sg<=w.length) (hm:m.sg+w.length<=1000000000000000000+l.sg) (hd:m.ht.toNat<d) (hz:ps.length+m.ht.toNat<16000000),
  ∃ (n:Nat) (ps':List Pc) (h':AH) (m' f':Ms) (u v:Str),Dn (fZ d [.ref p,.int a,.int L]) p h h' ps ps' m.ht.toNat n/\x=u++v/\v.length=l.sg/\Tx ps' n m' (u++w) f' (bA w L)/\m'.ht=m.ht/\f.sg<=f'.sg
 | 0,h,ps,a,L,m,f,l,x,w,S,g,T,N,hw,hm,hd,hz=>absurd hd (Nat.not_lt_zero _)
 | d+1,h,ps,a,L,m,f,l,x,w,S,g,T,N,hw,hm,hd,hz=>by
  by_cases q:0<m.ht
  ·obtain ⟨c,e,mc,me,y1,y2,lc,fe,ep,C,E,rfl,em,w1,w2,w3⟩:=g.cut T q
   have sg:=congrArg Ms.sg em
   have hh:=congrArg Ms.ht em
   rw [fu] at sg
   rw [bK] at hh
   have c0:=C.ky.ht
   have e0:=E.ky.ht
   obtain ⟨n1,ps1,h1,m1,f1,u,v,d1,rfl,lv,T1,k1,k2⟩:=yg d S g E N hw (by lia) (by lia) (by lia)
   have s1:m1.sg+l.sg=me.sg+w.length:=by rw [T1.ky.sg,E.ky.sg,bY,bY];lia
   obtain ⟨n2,ps2,h2,d2,T2⟩:=ft d1.dd.sh d1.dd.gd (C.pre d1.dd.pre) T1 (by lia) (by lia) (by lia) (by lia) (by have:=d1.dd.len;lia)
   rw [<- dy] at T2
   exact ⟨n2,ps2,h2,_,f,y1++u,v,Dn.seq' S g d1 d2 (λhh hh1 pp S' _ pr ev=>sL S' T.n1 (dr pr ep) ev) (by lia) (fA T1.ms T2.ms (Nat.le_add_left _ _)),by rw [dy],lv,T2,by rw [bK,k1,hh],Nat.le_refl _⟩
  ·rcases g.kind T with ⟨e1,e2,e3,e4,e5⟩ | ⟨c,e,mc,me,y1,y2,fc,lc,fe,le,e1,e2,e3,C,E,e4,e5,e6⟩
   ·obtain ⟨z1,z2⟩:=oF T e3
    subst z1 z2
    have em:("" : Str)++x=x:=dq (by rw [eF];rfl)
    have em2:("" : Str)++w=w:=dq (by rw [eF];rfl)
    have dv:Dn (fZ (d+1) [.ref p,.int a,.int L]) p h h ps ps 0 L:=Dn.val S g λhh pp S' _ pr=>sJ S' T.n1 (dr pr e1)
    refine ⟨L,ps,h,_,_, "",x,dv.as S g (λ_ _ _ _ _=>rfl) (Nat.zero_le _),em.symm,T.ky.sg.symm,by rw [em2];exact N,e2.symm,hw⟩
   ·have:=congrArg Ms.ht e5
    rw [bK] at this
    have c0:=C.ky.ht
    lia
theorem sM {h:AH} {p:Nat} {ps:List Pc} {a d:Nat} {x:Str} (S:ShelfAt h p ps) (a1:1<=a) (ep:ps[a-1]? = some (.leaf x)):eP (d+1) [.ref p,.int a] h = .ok (.int (0:Nat)) h:=by
 simp [eP,nY,S.ob,oB S a1 ep,oC,oE,-aw,-aY]
theorem mq {h h1:AH} {p:Nat} {ps:List Pc} {a d c e:Nat} (S:ShelfAt h p ps) (a1:1<=a) (ep:ps[a-1]? = some (.fork c e)) (ev:eP d [.ref p,.int c] h = .ok (.int (0:Nat)) h1) :
  eP (d+1) [.ref p,.int a] h = .ok (.int e) h1:=by
 have z:aY (.int 0) (.int 0) h1 = .ok (.bl true) h1:=by simp
 simp [eP,nY,S.ob,gI S a1 ep,mm,i1,i2,mn,ev,z,-aw,-aY]
theorem sN {h h1:AH} {p:Nat} {ps:List Pc} {a d c e v:Nat} (S:ShelfAt h p ps) (a1:1<=a) (ep:ps[a-1]? = some (.fork c e)) (v1:1<=v) (ev:eP d [.ref p,.int c] h = .ok (.int v) h1) :
  eP (d+1) [.ref p,.int a] h=fz [.ref p,.int v,.int e] h1:=by
 have z:aY (.int (v:Int)) (.int 0) h1 = .ok (.bl false) h1:=by
  have : ¬ (v=0):=by lia
  simp [this]
 generalize hF:fz [.ref p,.int v,.int e] h1=R
 simp [eP,nY,S.ob,gI S a1 ep,mm,i1,i2,mn,ev,z,hF,-aw,-aY]
 cases R<;>rfl
end Sk
namespace Sk
open PySem PySem.Spec L2 Sm
theorem yh {p:Nat}:∀ (d:Nat) {h:AH} {ps:List Pc} {a:Nat} {m f l:Ms} {x:Str} (S:ShelfAt h p ps) (g:Good ps) (T:Tx ps a m x f l) (hd:m.ht.toNat<d) (hz:ps.length+3*m.ht.toNat<16000000),
  (m.ht=0/\f.sg=x.length/\Dn (eP d [.ref p,.int a]) p h h ps ps 0 0) \/
  (0<m.ht/\∃ (n:Nat) (ps':List Pc) (h':AH) (m' f2:Ms) (u v:Str),Dn (eP d [.ref p,.int a]) p h h' ps ps' (3*m.ht.toNat) n/\x=u++v/\u.length=f.sg/\Tx ps' n m' v f2 l/\m.ht-1<=m'.ht/\m'.ht<=m.ht/\8<f.sg+f2.sg)
 | 0,h,ps,a,m,f,l,x,S,g,T,hd,hz=>absurd hd (Nat.not_lt_zero _)
 | d+1,h,ps,a,m,f,l,x,S,g,T,hd,hz=>by
  by_cases q:0<m.ht
  ·obtain ⟨c,e,mc,me,y1,y2,lc,fe,ep,C,E,rfl,em,w1,w2,w3⟩:=g.cut T q
   have sg:=congrArg Ms.sg em
   have hh:=congrArg Ms.ht em
   rw [fu] at sg
   rw [bK] at hh
   have c0:=C.ky.ht
   have e0:=E.ky.ht
   have most:=T.ky.most
   refine .inr ⟨q,?_⟩
   rcases yh d S g C (by lia) (by lia) with ⟨k1,k2,d1⟩ | ⟨k1,n1,ps1,h1,m1,f2,u,v,d1,rfl,lu,T1,r1,r2,r3⟩
   ·rcases g.kind C with ⟨e1,e2,e3,e4,e5⟩ | ⟨_,_,mx,my,_,_,_,_,_,_,_,_,_,X,Y,_,e5,_⟩
    ·obtain ⟨z1,z2⟩:=oF C e3
     have dv:Dn (eP (d+1) [.ref p,.int a]) p h h ps ps 0 e:=by
      refine ⟨mq S T.n1 ep d1.ev,Dd.refl S g,λh3 ps3 S3 g3 p3=>mq S3 T.n1 (dr p3 ep) (d1.re h3 ps3 S3 g3 p3),λ_ f _=>f⟩
     exact ⟨e,ps,h,me,fe,y1,y2,dv.as S g (λ_ _ _ _ _=>rfl) (Nat.zero_le _),rfl,k2.symm,E,by lia,by lia,by rw [z1];rw [z2] at w3;exact w3⟩
    ·have:=congrArg Ms.ht e5
     rw [bK] at this
     have:=X.ky.ht
     lia
   ·have s1:m1.sg+f.sg=mc.sg:=by rw [T1.ky.sg,C.ky.sg,bY];lia
    obtain ⟨n2,ps2,h2,m2,d2,T2,u3,u4,u5⟩:=yf d1.dd.sh d1.dd.gd T1 (E.pre d1.dd.pre) w3 (by lia) (by lia) (by lia) (by have:=d1.dd.len;lia)
    refine ⟨n2,ps2,h2,m2,f2,u,v++y2,Dn.seq' S g d1 d2 (λhh hh1 pp S' _ pr ev=>sN S' T.n1 (dr pr ep) T1.n1 ev) (by lia) (fA T1.ms T2.ms (by rw [T1.ky.sg,T2.ky.sg];simp only [bY];lia)),by rw [dy],lu,T2,?_,?_,r3⟩
    ·lia
    ·lia
  ·rcases g.kind T with ⟨e1,e2,e3,e4,e5⟩ | ⟨_,_,mx,my,_,_,_,_,_,_,_,_,_,X,Y,_,e5,_⟩
   ·obtain ⟨z1,z2⟩:=oF T e3
    exact .inl ⟨e2,by rw [z1];exact T.ky.sg,Dn.val S g λhh pp S' _ pr=>sM S' T.n1 (dr pr e1)⟩
   ·have:=congrArg Ms.ht e5
    rw [bK] at this
    have:=X.ky.ht
    lia
theorem Good.ends {ps:List Pc} (g:Good ps):∀ (k n:Nat) {m f l:Ms} {x:Str},n<=k->Tx ps n m x f l ->
  (∃ w u:Str,1<=m.fl/\ps[m.fl-1]? = some (.leaf w)/\x=w++u/\w.length=f.sg)/\(∃ w u:Str,1<=m.ll/\ps[m.ll-1]? = some (.leaf w)/\x=u++w/\w.length=l.sg)
 | 0,n,m,f,l,x,hn,T=>absurd T.n1 (by lia)
 | k+1,n,m,f,l,x,hn,T=>by
  rcases g.kind T with ⟨e1,e2,e3,e4,e5⟩ | ⟨a,b,ma,mb,y,z,fa,la,fb,lb,e1,e2,e3,A,B,rfl,e5,e6⟩
  ·obtain ⟨z1,z2⟩:=oF T e3
   have em:("" : Str)++x=x:=dq (by rw [eF];rfl)
   have em2:x++("" : Str)=x:=dq (by rw [eF];simp;rfl)
   have hf:m.fl=n:=by rw [e3];rfl
   have hl:m.ll=n:=by rw [e3];rfl
   have hx:=T.ky.sg
   refine ⟨⟨x, "",by rw [hf];exact T.n1,by rw [hf];exact e1,em2.symm,by rw [z1];exact hx.symm⟩,⟨x, "",by rw [hl];exact T.n1,by rw [hl];exact e1,em.symm,by rw [z2];exact hx.symm⟩⟩
  ·have q1:=g.ends k a (by lia) A
   have q2:=g.ends k b (by lia) B
   obtain ⟨⟨w,u,a1,a2,rfl,a4⟩,_⟩:=q1
   obtain ⟨_,⟨w2,u2,b1,b2,rfl,b4⟩⟩:=q2
   have f1:=T.ky.fl
   have l1:=T.ky.ll
   have hf:m.fl=ma.fl:=by rw [e5];rfl
   have hl:m.ll=mb.ll:=by rw [e5];rfl
   rw [hf] at f1
   rw [hl] at l1
   have z5:=f1.symm.trans A.ky.fl;cases z5
   have z6:=l1.symm.trans B.ky.ll;cases z6
   rw [hf,hl]
   exact ⟨⟨w,u++(u2++w2),a1,a2,by rw [dy],a4⟩,⟨w2,w++u++u2,b1,b2,by rw [dy (w++u)],b4⟩⟩
theorem yi {a b c d:Str} (e:a++b=c++d) (h:a.length=c.length):a=c/\b=d:=by
 have:=congrArg (λz:Str=>z.cps.toList) e
 simp only [eF] at this
 obtain ⟨h1,h2⟩:=List.append_inj this (by rw [<- eT,<- eT];exact h)
 exact ⟨dq h1,dq h2⟩
theorem FQ {a b c d:Str} (e:a++b=c++d) (h:b.length=d.length):a=c/\b=d:=by
 refine yi e ?_
 have:=congrArg Str.length e
 rw [bY,bY] at this
 lia
theorem FR {h:AH} {p:Nat} {ps:List Pc} {a b:Nat} {ma mb la fb:Ms} (S:ShelfAt h p ps) (ea:(meas ps)[a]? = some ma) (eb:(meas ps)[b]? = some mb) (el:(meas ps)[ma.ll]? = some la) (ef:(meas ps)[mb.fl]? = some fb) :
  nX [.ref p,.int a,.int b] h = .ok (.bl (decide (8<la.sg+fb.sg))) h:=by
 have e1:=ya S ea
 have e2:=x9 S eb
 have e3:=jc S el
 have e4:=jc S ef
 have:decide ((8:Int)<(la.sg:Int)+fb.sg)=decide (8<la.sg+fb.sg):=by apply decide_eq_decide.mpr;lia
 simp [nX,S.ob,e1,e2,e3,e4,this]
theorem FS {w v:Str} (hw:w.length+v.length<=100) (h:AH):ar (.str w) (.str v) h = .ok (.str (w++v)) h:=by
 have:w.length+v.length<=sizeLine:=Nat.le_trans hw (by decide)
 simp [ar,this]
theorem iJ {h h1 h2 h3:AH} {p:Nat} {ps:List Pc} {a b:Nat} {L n k:Int} {ma mb:Ms} {w v:Str} (S:ShelfAt h p ps) (ea:(meas ps)[a]? = some ma) (eb:(meas ps)[b]? = some mb) (l1:1<=ma.ll) (f1:1<=mb.fl) (el:ps[ma.ll-1]? = some (.leaf w)) (ef:ps[mb.fl-1]? = some (.leaf v)) (hw:w.length+v.length<=100)
  (e1:dR [.ref p,.str (w++v)] h = .ok (.int L) h1) (e2:fZ 90 [.ref p,.int a,.int L] h1 = .ok (.int n) h2) (e3:eP 90 [.ref p,.int b] h2 = .ok (.int k) h3) :
  jV [.ref p,.int a,.int b] h=if k=0 then .ok (.int n) h3 else eE 90 [.ref p,.int n,.int k] h3:=by
 have q1:=ya S ea
 have q2:=x9 S eb
 have q3:=oB S l1 el
 have q4:=oB S f1 ef
 have ad:=FS hw h
 unfold jV
 generalize fZ 90=WL at *
 generalize eP 90=WF at *
 generalize hF:eE 90=LK at *
 by_cases z:k=0
 ·subst z
  have zz:aY (.int 0) (.int 0) h3 = .ok (.bl true) h3:=by simp
  simp [S.ob,q1,q2,q3,q4,sI,ad,e1,e2,e3,zz,-aw,-aY,-ar]
 ·have zz:aY (.int k) (.int 0) h3 = .ok (.bl false) h3:=by simp [z]
  rw [if_neg z]
  generalize hR:LK [.ref p,.int n,.int k] h3=R
  simp [S.ob,q1,q2,q3,q4,sI,ad,e1,e2,e3,zz,hR,-aw,-aY,-ar]
  cases R<;>rfl
end Sk
namespace Sk
open PySem PySem.Spec L2 Sm
theorem FT {w v:Str} (h1:1<=w.length) (h2:w.length+v.length<=8) (pw:bu w=true) (pv:bu v=true):fo (w++v)=true:=by
 unfold fo
 rw [mh,bY,pw,pv]
 simp;lia
theorem FU {h:AH} {p:Nat} {ps:List Pc} {a b:Nat} {ma mb fa la fb lb:Ms} {x y:Str} (S:ShelfAt h p ps) (g:Good ps) (A:Tx ps a ma x fa la) (B:Tx ps b mb y fb lb) (hc : ¬ 8<la.sg+fb.sg) (hm:ma.sg+mb.sg<=1000000000000000000) (hz:ps.length<15000000) :
  ∃ (n:Nat) (ps':List Pc) (h':AH) (m f l:Ms),Dn (jV [.ref p,.int a,.int b]) p h h' ps ps' (7*(max ma.ht mb.ht).toNat+2) n/\Tx ps' n m (x++y) f l/\m.ht<=max ma.ht mb.ht+1:=by
 obtain ⟨_,w,u,l1,el,ex,lw⟩:=g.ends a a (Nat.le_refl _) A
 obtain ⟨⟨v,t,f1,ef,ey,lv⟩,_⟩:=g.ends b b (Nat.le_refl _) B
 have a0:=A.ky.ht
 have b0:=B.ky.ht
 have ha:=gH g A
 have hb:=gH g B
 have px:bu x=true:=A.ky.pl
 have py:bu y=true:=B.ky.pl
 have pw:bu w=true:=by rw [ex,mh,Bool.and_eq_true] at px;exact px.2
 have pv:bu v=true:=by rw [ey,mh,Bool.and_eq_true] at py;exact py.1
 have la1:=A.ky.l1
 have fb1:=B.ky.f1
 have sx:=A.ky.sg
 have sy:=B.ky.sg
 have lx:x.length=u.length+w.length:=by rw [ex,bY]
 have ly:y.length=v.length+t.length:=by rw [ey,bY]
 have lwv:(w++v).length=w.length+v.length:=bY w v
 obtain ⟨L,ps1,h1,d1,N⟩:=yd S g (FT (w:=w) (v:=v) (by lia) (by lia) pw pv) (by lia)
 have z1:=d1.dd.len
 obtain ⟨n2,ps2,h2,m2,f2,u2,v2,d2,ex2,lv2,T2,k1,k2⟩:=yg 90 d1.dd.sh d1.dd.gd (A.pre d1.dd.pre) N (by lia) (by lia) (by lia) (by lia)
 have z2:=d2.dd.len
 obtain ⟨rfl,rfl⟩:u=u2/\w=v2:=FQ (ex.symm.trans ex2) (by lia)
 have s2:m2.sg=u.length+(w.length+v.length):=by rw [T2.ky.sg,bY,bY]
 have p12:=d1.dd.pre.trans d2.dd.pre
 have lm:(bA (w++v) L).sg=w.length+v.length:=bY w v
 have tb:∀ q:Int,0<=q->q<=max ma.ht mb.ht->q.toNat<=(max ma.ht mb.ht).toNat:=λq _ _=>by lia
 rcases yh 90 d2.dd.sh d2.dd.gd (B.pre p12) (by lia) (by lia) with ⟨r1,r2,d3⟩ | ⟨r1,n3,ps3,h3,m3,f3,u3,v3,d3,ey3,lu3,T3,r2,r3,r4⟩
 ·have t0:t.length=0:=by lia
  have te:t = "" := dq (by rw [eT] at t0;rw [List.length_eq_zero_iff.mp t0];rfl)
  have rd:u++(w++v)=x++y:=by
   rw [ex,ey,te,dy]
   congr 2
  rw [rd] at T2
  refine ⟨n2,ps2,h2,m2,f2,_,⟨?_,d1.dd.trans d2.dd (by lia),λh4 ps4 S4 g4 p4=>?_,λM f hn=>d2.al M (d1.al M f (fA N.ms T2.ms (by rw [s2,lm];lia) M hn)) hn⟩,T2,by lia⟩
  ·rw [iJ S A.ms B.ms l1 f1 el ef (by lia) d1.ev d2.ev d3.ev];rfl
  ·have q1:=d1.re h4 ps4 S4 g4 (d2.dd.pre.trans p4)
   have q2:=d2.re h4 ps4 S4 g4 p4
   have q3:=d3.re h4 ps4 S4 g4 p4
   rw [iJ S4 (aV (p12.trans p4) A.ms) (aV (p12.trans p4) B.ms) l1 f1 (dr (p12.trans p4) el) (dr (p12.trans p4) ef) (by lia) q1 q2 q3];rfl
 ·obtain ⟨rfl,rfl⟩:v=u3/\t=v3:=yi (ey.symm.trans ey3) (by lia)
  have z3:=d3.dd.len
  have s3:m3.sg=t.length:=T3.ky.sg
  have m30:=T3.ky.ht
  obtain ⟨n4,ps4,h4,m4,d4,T4,r5,r6⟩:=oA 90 (max ma.ht mb.ht).toNat d3.dd.sh d3.dd.gd (T2.pre d3.dd.pre) T3 (by lia) (by lia) (by lia) (by lia) (by lia)
  have rd:(u++(w++v))++t=x++y:=by rw [ex,ey,dy,dy,dy]
  rw [rd] at T4
  have n3z : ¬ (n3:Int)=0:=by have:=T3.n1;lia
  have p123:=p12.trans d3.dd.pre
  refine ⟨n4,ps4,h4,m4,f2,lb,⟨?_,((d1.dd.trans d2.dd (Nat.le_refl _)).trans d3.dd (Nat.le_refl _)).trans d4.dd (by lia),λh5 ps5 S5 g5 p5=>?_,λM f hn=>d4.al M (d3.al M (d2.al M (d1.al M f (fA N.ms T4.ms (by rw [lm,T4.ky.sg,bY];lia) M hn)) (fA T2.ms T4.ms (by rw [s2,T4.ky.sg,bY];lia) M hn)) (fA T3.ms T4.ms (by rw [s3,T4.ky.sg,bY];lia) M hn)) hn⟩,T4,by lia⟩
  ·rw [iJ S A.ms B.ms l1 f1 el ef (by lia) d1.ev d2.ev d3.ev,if_neg n3z];exact d4.ev
  ·have p45:=d4.dd.pre.trans p5
   have q1:=d1.re h5 ps5 S5 g5 (d2.dd.pre.trans (d3.dd.pre.trans p45))
   have q2:=d2.re h5 ps5 S5 g5 (d3.dd.pre.trans p45)
   have q3:=d3.re h5 ps5 S5 g5 p45
   have q4:=d4.re h5 ps5 S5 g5 p5
   have pa:=p123.trans p45
   rw [iJ S5 (aV pa A.ms) (aV pa B.ms) l1 f1 (dr pa el) (dr pa ef) (by lia) q1 q2 q3,if_neg n3z];exact q4
def TxZ (ps:List Pc) (n:Nat) (y:Str):Prop:=(n=0/\y = "")\/∃ m f l,Tx ps n m y f l
theorem TxZ.pre {ps ps':List Pc} {n:Nat} {y:Str} (t:TxZ ps n y) (h:ps <+: ps'):TxZ ps' n y:=by
 rcases t with t | ⟨m,f,l,t⟩
 ·exact .inl t
 ·exact .inr ⟨m,f,l,t.pre h⟩
theorem mr (ps:List Pc):(meas ps)[0]? = some ms0:=by
 obtain ⟨r,e,_⟩:=lZ gF ps [ms0]
 rw [meas,e];rfl
def eI (ps:List Pc) (n:Nat):Int:=((meas ps).getD n ms0).ht
theorem oG {ps:List Pc} {n:Nat} {m:Ms} (e:(meas ps)[n]? = some m):eI ps n=m.ht:=by unfold eI;rw [ja e]
theorem FV (ps:List Pc):eI ps 0 = -1:=oG (mr ps)
theorem sO {i:Int} (hi:i<=1000000000000000000) (h:AH):nW [.int i] h = .ok .non h:=by
 have : ¬ (1000000000000000000:Int)<i:=by lia
 simp [nW,this]
theorem sP {h:AH} {p:Nat} {ps:List Pc} {b:Nat} {mb:Ms} (S:ShelfAt h p ps) (eb:(meas ps)[b]? = some mb) (hm:mb.sg<=1000000000000000000):gb [.ref p,.int (0:Nat),.int b] h = .ok (.int b) h:=by
 have e1:=jc S (mr ps)
 have e2:=jc S eb
 have z:ms0.sg=0:=rfl
 rw [z] at e1
 have e1':iC [.ref p,.int 0] h = .ok (.int 0) h:=e1
 have ck:=sO (i:=(0:Int)+mb.sg) (by lia) h
 have zz:aY (.int 0) (.int 0) h = .ok (.bl true) h:=by simp
 have ad:ar (.int 0) (.int mb.sg) h = .ok (.int (0+mb.sg)) h:=rfl
 simp [gb,S.ob,e1',e2,ad,ck,zz,-aY,-ar,-Int.zero_add]
theorem sQ {h:AH} {p:Nat} {ps:List Pc} {a:Nat} {ma:Ms} (S:ShelfAt h p ps) (a1:1<=a) (ea:(meas ps)[a]? = some ma) (hm:ma.sg<=1000000000000000000):gb [.ref p,.int a,.int (0:Nat)] h = .ok (.int a) h:=by
 have e1:=jc S (mr ps)
 have e2:=jc S ea
 have z:ms0.sg=0:=rfl
 rw [z] at e1
 have e1':iC [.ref p,.int 0] h = .ok (.int 0) h:=e1
 have ck:=sO (i:=(ma.sg:Int)+0) (by lia) h
 have zz:aY (.int 0) (.int 0) h = .ok (.bl true) h:=by simp
 have z2:aY (.int a) (.int 0) h = .ok (.bl false) h:=by
  have : ¬ a=0:=by lia
  simp [this]
 have ad:ar (.int ma.sg) (.int 0) h = .ok (.int (ma.sg+0)) h:=rfl
 simp [gb,S.ob,e1',e2,ad,ck,zz,z2,-aY,-ar,-Int.add_zero]
theorem mv {h:AH} {p:Nat} {ps:List Pc} {a b:Nat} {ma mb la fb:Ms} (S:ShelfAt h p ps) (a1:1<=a) (b1:1<=b) (ea:(meas ps)[a]? = some ma) (eb:(meas ps)[b]? = some mb) (el:(meas ps)[ma.ll]? = some la) (ef:(meas ps)[mb.fl]? = some fb) (hm:ma.sg+mb.sg<=1000000000000000000) :
  gb [.ref p,.int a,.int b] h=if 8<la.sg+fb.sg then eE 90 [.ref p,.int a,.int b] h else jV [.ref p,.int a,.int b] h:=by
 have e1:=jc S ea
 have e2:=jc S eb
 have cl:=FR S ea eb el ef
 have ck:=sO (i:=(ma.sg:Int)+mb.sg) (by lia) h
 have z1:aY (.int a) (.int 0) h = .ok (.bl false) h:=by
  have : ¬ a=0:=by lia
  simp [this]
 have z2:aY (.int b) (.int 0) h = .ok (.bl false) h:=by
  have : ¬ b=0:=by lia
  simp [this]
 have ad:ar (.int ma.sg) (.int mb.sg) h = .ok (.int (ma.sg+mb.sg)) h:=rfl
 unfold gb
 generalize eE 90=LK at *
 by_cases q:8<la.sg+fb.sg
 ·rw [if_pos q]
  generalize hR:LK [.ref p,.int a,.int b] h=R
  simp [S.ob,e1,e2,ad,ck,z1,z2,cl,q,hR,-aY,-ar]
  cases R<;>rfl
 ·rw [if_neg q]
  generalize hR:jV [.ref p,.int a,.int b] h=R
  simp [S.ob,e1,e2,ad,ck,z1,z2,cl,q,hR,-aY,-ar]
  cases R<;>rfl
theorem TxZ.meas {ps:List Pc} {n:Nat} {y:Str} (t:TxZ ps n y):∃ m,(meas ps)[n]? = some m/\m.sg=y.length:=by
 rcases t with ⟨rfl,rfl⟩ | ⟨m,f,l,T⟩
 ·exact ⟨ms0,mr ps,rfl⟩
 ·exact ⟨m,T.ms,T.ky.sg⟩
theorem yj {h:AH} {p:Nat} {ps:List Pc} {a b:Nat} {x y:Str} (S:ShelfAt h p ps) (g:Good ps) (A:TxZ ps a x) (B:TxZ ps b y) (hm:x.length+y.length<=1000000000000000000) (hz:ps.length<15000000) :
  ∃ (n:Nat) (ps':List Pc) (h':AH),Dn (gb [.ref p,.int a,.int b]) p h h' ps ps' (16*(max (eI ps a) (eI ps b)+1).toNat) n/\TxZ ps' n (x++y):=by
 rcases A with ⟨rfl,rfl⟩ | ⟨ma,fa,la,A⟩
 ·obtain ⟨mb,eb,sb⟩:=B.meas
  have em:("" : Str)++y=y:=dq (by rw [eF];rfl)
  have dv:Dn (gb [.ref p,.int (0:Nat),.int b]) p h h ps ps 0 b:=Dn.val S g λhh pp S' _ pr=>sP S' (aV pr eb) (by rw [sb];lia)
  exact ⟨b,ps,h,dv.as S g (λ_ _ _ _ _=>rfl) (Nat.zero_le _),by rw [em];exact B⟩
 ·rcases B with ⟨rfl,rfl⟩ | ⟨mb,fb,lb,B⟩
  ·have em:x++("" : Str)=x:=dq (by rw [eF];simp;rfl)
   have dv:Dn (gb [.ref p,.int a,.int (0:Nat)]) p h h ps ps 0 a:=Dn.val S g λhh pp S' _ pr=>sQ S' A.n1 (aV pr A.ms) A.ky.most
   exact ⟨a,ps,h,dv.as S g (λ_ _ _ _ _=>rfl) (Nat.zero_le _),by rw [em];exact .inr ⟨_,_,_,A⟩⟩
  ·have sa:=A.ky.sg
   have sb:=B.ky.sg
   have a0:=A.ky.ht
   have b0:=B.ky.ht
   have ha:=gH g A
   have hb:=gH g B
   rw [oG A.ms,oG B.ms]
   by_cases q:8<la.sg+fb.sg
   ·obtain ⟨n,ps',h',m,d,T,_⟩:=oA 90 (max ma.ht mb.ht).toNat S g A B q (by lia) (by lia) (by lia) (by lia)
    exact ⟨n,ps',h',d.as S g (λhh pp S' _ pr=>by rw [mv S' A.n1 B.n1 (aV pr A.ms) (aV pr B.ms) (aV pr A.ky.ll) (aV pr B.ky.fl) (by lia),if_pos q]) (by lia),.inr ⟨_,_,_,T⟩⟩
   ·obtain ⟨n,ps',h',m,f,l,d,T,_⟩:=FU S g A B q (by lia) hz
    exact ⟨n,ps',h',d.as S g (λhh pp S' _ pr=>by rw [mv S' A.n1 B.n1 (aV pr A.ms) (aV pr B.ms) (aV pr A.ky.ll) (aV pr B.ky.fl) (by lia),if_neg q]) (by lia),.inr ⟨_,_,_,T⟩⟩
end Sk
namespace Sk
open PySem PySem.Spec L2 Sm
theorem FW {b e:Nat} {y:Str} (be:b<=e):(bM y (some (b:Int)) (some (e:Int))).cps.toList=(y.cps.toList.drop b).take (e-b):=by
 unfold bM
 rw [HT.sIx_nat,HT.sIx_nat]
 generalize y.cps.toList=l
 show (l.drop (min b l.length)).take (min e l.length-min b l.length)=_
 apply List.ext_getElem?
 intro i
 rw [List.getElem?_take,List.getElem?_take,List.getElem?_drop,List.getElem?_drop]
 by_cases q:b<=l.length
 ·rw [Nat.min_eq_left q]
  by_cases c1:i<e-b
  ·rw [if_pos c1]
   by_cases c2:i<min e l.length-b
   ·rw [if_pos c2]
   ·rw [if_neg c2,List.getElem?_eq_none (by lia)]
  ·rw [if_neg c1,if_neg (by lia)]
 ·rw [if_neg (by lia),List.getElem?_eq_none (l:=l) (i:=b+i) (by lia)]
  split<;>rfl
def bF:List Str->Str
 | [] => ""
 | w::ws=>w++bF ws
theorem jd:∀ as bs:List Str,bF (as++bs)=bF as++bF bs
 | [],bs=>(dq (by rw [eF];rfl):bF bs=("" : Str)++bF bs)
 | w::as,bs=>by
  show w++bF (as++bs)=(w++bF as)++bF bs
  rw [jd as bs,dy]
theorem j5 (w:Str):bF [w]=w:=dq (by show (w++("" : Str)).cps.toList=_;rw [eF];simp;rfl)
def LS (ps:List Pc) (ns:List Nat) (ws:List Str):Prop:=ns.length=ws.length/\∀ (i n:Nat) (w:Str),ns[i]? = some n->ws[i]? = some w->Tx ps n (bA w n) w (bA w n) (bA w n)
theorem LS.pre {ps ps':List Pc} {ns:List Nat} {ws:List Str} (s:LS ps ns ws) (h:ps <+: ps'):LS ps' ns ws:=⟨s.1,λi n w a b=>(s.2 i n w a b).pre h⟩
theorem LS.take {ps:List Pc} {ns:List Nat} {ws:List Str} (s:LS ps ns ws) (k:Nat):LS ps (ns.take k) (ws.take k):=by
 refine ⟨by simp [s.1],λi n w a b=>?_⟩
 rw [List.getElem?_take] at a b
 by_cases q:i<k
 ·rw [if_pos q] at a b;exact s.2 i n w a b
 ·rw [if_neg q] at a;cases a
theorem LS.drop {ps:List Pc} {ns:List Nat} {ws:List Str} (s:LS ps ns ws) (k:Nat):LS ps (ns.drop k) (ws.drop k):=by
 refine ⟨by simp [s.1],λi n w a b=>?_⟩
 rw [List.getElem?_drop] at a b
 exact s.2 _ n w a b
abbrev aH (ns:List Nat):List AV:=ns.map λn:Nat=>AV.int (n:Int)
theorem sR {h:AH} {p d n:Nat}:gC (d+1) [.ref p,.fl (aH [n])] h = .ok (.int n) h:=by
 have ix:aw (.fl [.int (n:Int)]) (.int 0) h = .ok (.int n) h:=rfl
 simp [gC,rQ,ix,-aw]
theorem FY {α:Type} (l:List α) {k:Nat} (hk:k<=l.length):dH l none (some (k:Int))=l.take k:=by
 unfold dH
 rw [HT.sIx_nat,HT.sIx_none,Nat.min_eq_left hk];simp
theorem FZ {α:Type} (l:List α) {k:Nat} (hk:k<=l.length):dH l (some (k:Int)) none=l.drop k:=by
 unfold dH
 rw [HT.sIx_nat,HT.sIx_none,Nat.min_eq_left hk,List.take_of_length_le (by simp)]
theorem sS {h h1 h2:AH} {p d:Nat} {ps:List Pc} {ns:List Nat} {v1 v2:Int} (S:ShelfAt h p ps) (hl:2<=ns.length) (e1:gC d [.ref p,.fl (aH (ns.take (ns.length / 2)))] h = .ok (.int v1) h1) (e2:gC d [.ref p,.fl (aH (ns.drop (ns.length / 2)))] h1 = .ok (.int v2) h2) :
  gC (d+1) [.ref p,.fl (aH ns)] h=aN [.ref p,.int v1,.int v2] h2:=by
 have hh:ns.length / 2<=ns.length:=Nat.div_le_self _ _
 have ln:br [.fl (aH ns)] h = .ok (.int ns.length) h:=by simp [br]
 have q:aY (.int ns.length) (.int 1) h = .ok (.bl false) h:=by
  have : ¬ (ns.length:Int)=1:=by lia
  simp [this]
 have dv:fD (.int ns.length) (.int 2) h = .ok (.int (ns.length / 2:Nat)) h:=rfl
 have c1:dQ (.fl (aH ns)) none (some (ns.length / 2:Nat)) h = .ok (.fl (aH (ns.take (ns.length / 2)))) h:=by
  have:=FY (aH ns) (k:=ns.length / 2) (by simpa using hh)
  simp only [dQ,this,aH,List.map_take]
 have c2:∀ h,dQ (.fl (aH ns)) (some (ns.length / 2:Nat)) none h = .ok (.fl (aH (ns.drop (ns.length / 2)))) h:=λh=>by
  have:=FZ (aH ns) (k:=ns.length / 2) (by simpa using hh)
  simp only [dQ,this,aH,List.map_drop]
 generalize hF:aN [.ref p,.int v1,.int v2] h2=R
 unfold gC rQ
 generalize aH ns=Z at *
 generalize aH (ns.take (ns.length / 2))=Z1 at *
 generalize aH (ns.drop (ns.length / 2))=Z2 at *
 generalize ((ns.length / 2:Nat):Int)=M at *
 generalize (ns.length:Int)=K at *
 simp [S.ob,ln,q,dv,c1,c2,e1,e2,hF,-br,-aY,-fD,-dQ]
 cases R<;>rfl
theorem F0 {a b ha hb:Nat} (ab:b<=a+1) (h1:a<=2 ^ ha) (h2:hb=0\/2 ^ (hb-1)<b):hb<=ha+1:=by
 rcases h2 with h2 | h2
 ·lia
 ·have:2 ^ (hb-1)<=2 ^ ha:=by lia
  have:=(Nat.pow_le_pow_iff_right (a:=2) (by decide)).mp this
  lia
theorem F3 {a b ha hb:Nat} (ab:a<=b) (h1:b<=2 ^ hb) (h2:ha=0\/2 ^ (ha-1)<a):ha<=hb:=by
 rcases h2 with h2 | h2
 ·lia
 ·have:2 ^ (ha-1)<2 ^ hb:=by lia
  have:=(Nat.pow_lt_pow_iff_right (a:=2) (by decide)).mp this
  lia
theorem F4 {k b hb:Nat} (h1:k<=2*b) (h2:2*b<=k+1) (h3:2<=k) (h4:b<=2 ^ hb) (h5:hb=0\/2 ^ (hb-1)<b):k<=2 ^ (hb+1)/\2 ^ (hb+1-1)<k:=by
 rw [Nat.pow_succ,Nat.add_sub_cancel]
 refine ⟨by lia,?_⟩
 rcases h5 with h5 | h5
 ·subst h5;simp;lia
 ·cases hb with
  | zero=>simp;lia
  | succ n =>
   rw [Nat.add_sub_cancel] at h5
   rw [Nat.pow_succ];lia
theorem F5 {k e:Nat} (h:k<=2 ^ (e+1)):k / 2<=2 ^ e/\k-k / 2<=2 ^ e:=by rw [Nat.pow_succ] at h;lia
theorem sT {p:Nat}:∀ (d e:Nat) {h:AH} {ps:List Pc} {ns:List Nat} {ws:List Str},ShelfAt h p ps->Good ps->LS ps ns ws->1<=ns.length->ns.length<=2 ^ e->e<d->(∀ (i:Nat) (w:Str),ws[i]? = some w->i+1<ws.length->w.length=8)->ps.length+ns.length<16000000->ns.length<=10000 ->
  ∃ (n:Nat) (ps':List Pc) (h':AH) (m f l:Ms) (H:Nat),gC d [.ref p,.fl (aH ns)] h = .ok (.int n) h'/\Dd p h h' ps ps' (ns.length-1)/\Tx ps' n m (bF ws) f l/\m.ht=H/\ns.length<=2 ^ H/\(H=0\/2 ^ (H-1)<ns.length)/\((∀ w∈ws,w.length=8)->l.sg=8)/\m.sg<=8*ns.length/\(∀ M,bZ M ps->m.sg<=M->bZ M ps')
 | 0,e,h,ps,ns,ws,S,g,LL,h1,h2,h3,h4,h5,h6=>absurd h3 (Nat.not_lt_zero _)
 | d+1,e,h,ps,ns,ws,S,g,LL,h1,h2,h3,h4,h5,h6=>by
  by_cases q:ns.length=1
  ·obtain ⟨n,rfl⟩:∃ n,ns=[n]:=List.length_eq_one_iff.mp q
   obtain ⟨w,rfl⟩:∃ w,ws=[w]:=List.length_eq_one_iff.mp (LL.1.symm.trans q)
   have T:=LL.2 0 n w rfl rfl
   refine ⟨n,ps,h,_,_,_,0,sR,{ Dd.refl S g with len:=by lia },by rw [j5];exact T,rfl,by simp,.inl rfl,λhw=>hw w (by simp),?_,λ_ f _=>f⟩
   have:=T.ky.f8
   simpa using this
  ·have hh:2<=ns.length:=by lia
   obtain ⟨e',rfl⟩:∃ e',e=e'+1:=by
    cases e with
    | zero=>simp at h2;lia
    | succ e' => exact ⟨e',rfl⟩
   obtain ⟨w1,w2⟩:=F5 h2
   have lt:(ns.take (ns.length / 2)).length=ns.length / 2:=by rw [List.length_take];lia
   have ld:(ns.drop (ns.length / 2)).length=ns.length-ns.length / 2:=List.length_drop ..
   have lw:=LL.1
   obtain ⟨n1,ps1,hh1,m1,f1,l1,H1,a1,a2,a3,a4,a5,a6,a7,a8,a9⟩:=sT d e' S g (LL.take (ns.length / 2)) (by lia) (by lia) (by lia) (λi w ew hi=>by
    rw [List.getElem?_take] at ew
    split at ew
    ·rw [List.length_take] at hi;exact h4 i w ew (by lia)
    ·cases ew) (by lia) (by lia)
   have z1:=a2.len
   obtain ⟨n2,ps2,hh2,m2,f2,l2,H2,b1,b2,b3,b4,b5,b6,b7,b8,b9⟩:=sT d e' a2.sh a2.gd ((LL.drop (ns.length / 2)).pre a2.pre) (by lia) (by lia) (by lia) (λi w ew hi=>by
    rw [List.getElem?_drop] at ew
    rw [List.length_drop] at hi
    exact h4 _ w ew (by lia)) (by lia) (by lia)
   have z2:=b2.len
   rw [lt] at a5 a6 a8
   rw [ld] at b5 b6 b8
   have g1:=F0 (a:=ns.length / 2) (b:=ns.length-ns.length / 2) (by lia) a5 b6
   have g2:=F3 (a:=ns.length / 2) (b:=ns.length-ns.length / 2) (by lia) b5 a6
   have l8:l1.sg=8:=a7 λw hw=>by
    obtain ⟨i,hi,ei⟩:=List.getElem_of_mem hw
    have hi' := hi
    rw [List.length_take] at hi'
    have:(ws.take (ns.length / 2))[i]? = some w:=by rw [List.getElem?_eq_getElem hi,ei]
    rw [List.getElem?_take] at this
    split at this
    ·exact h4 i w this (by lia)
    ·cases this
   have f1' := b3.ky.f1
   obtain ⟨n3,ps3,hh3,d3,T3⟩:=ft b2.sh b2.gd (a3.pre b2.pre) b3 (by lia) (by lia) (by lia) (by lia) (by lia)
   have rd:bF (ws.take (ns.length / 2))++bF (ws.drop (ns.length / 2))=bF ws:=by rw [<- jd,List.take_append_drop]
   rw [rd] at T3
   have hv:=sS S hh a1 b1
   obtain ⟨y1,y2⟩:=F4 (k:=ns.length) (b:=ns.length-ns.length / 2) (by lia) (by lia) hh b5 b6
   refine ⟨n3,ps3,hh3,_,f1,l2,H2+1,hv.trans d3.ev,(a2.trans b2 (Nat.le_refl _)).trans d3.dd (by lia),T3,by rw [bK,a4,b4];lia,y1,.inr y2,λhw=>b7 λw hm=>hw w (List.mem_of_mem_drop hm),by rw [fu];lia,λM f hq=>d3.al M (b9 M (a9 M f (Nat.le_trans (Nat.le_add_right _ _) hq)) (Nat.le_trans (Nat.le_add_left _ _) hq)) (λm e=>by rw [T3.ms] at e;cases e;exact hq)⟩
end Sk
namespace Sk
open PySem PySem.Spec L2 Sm
def gi (x:Str) (k:Nat):Str:=bM x (some ((8*k:Nat):Int)) (some ((8*k+8:Nat):Int))
theorem sU (x:Str) (k:Nat):(gi x k).cps.toList=(x.cps.toList.drop (8*k)).take 8:=by
 unfold gi
 rw [FW (by lia),show 8*k+8-8*k=8 by lia]
theorem yk (x:Str) (k:Nat):(gi x k).length=min 8 (x.length-8*k):=by
 rw [eT,sU,List.length_take,List.length_drop,<- eT]
theorem F6 {x:Str} (px:bu x=true) (k:Nat):bu (gi x k)=true:=by
 unfold bu at *
 rw [sU,List.all_eq_true]
 rw [List.all_eq_true] at px
 exact λc hc=>px c (List.mem_of_mem_drop (List.mem_of_mem_take hc))
theorem yl (x:Str):∀ j,(bF ((List.range j).map (gi x))).cps.toList=x.cps.toList.take (8*j)
 | 0=>rfl
 | j+1=>by
  rw [List.range_succ,List.map_append,jd,eF,yl x j]
  show _++(bF [gi x j]).cps.toList=_
  rw [j5,sU,show 8*(j+1)=8*j+8 by lia,List.take_add]
theorem ym {α:Type} {f:Nat->α} {N i:Nat} {w:α} (e:((List.range N).map f)[i]? = some w):i<N/\w=f i:=by
 rw [List.getElem?_map] at e
 obtain ⟨j,ej,ew⟩:=Option.map_eq_some_iff.mp e
 have h1:=(List.getElem?_eq_some_iff.mp ej).1
 rw [List.length_range] at h1
 rw [List.getElem?_range h1] at ej
 cases ej
 exact ⟨h1,ew.symm⟩
theorem LS.snoc {ps ps':List Pc} {ns:List Nat} {ws:List Str} {n:Nat} {w:Str} (s:LS ps ns ws) (h:ps <+: ps') (T:Tx ps' n (bA w n) w (bA w n) (bA w n)):LS ps' (ns++[n]) (ws++[w]):=by
 have l:=s.1
 refine ⟨by simp [s.1],λi a b ea eb=>?_⟩
 by_cases q:i<ns.length
 ·rw [List.getElem?_append_left q] at ea
  rw [List.getElem?_append_left (by lia)] at eb
  exact (s.2 i a b ea eb).pre h
 ·have h1:=(List.getElem?_eq_some_iff.mp ea).1
  have hi:i=ns.length:=by simp at h1;lia
  subst hi
  rw [List.getElem?_append_right (by lia)] at ea eb
  simp at ea
  rw [show ns.length-ws.length=0 by lia] at eb
  simp at eb
  subst ea eb
  exact T
theorem F7 {h:AH} {p:Nat} {ps:List Pc} {x:Str} (S:ShelfAt h p ps) (g:Good ps) (px:bu x=true) (N:Nat) (hN:8*N<x.length+8) (hx:x.length<=10000) (hz:ps.length+N<16000000) (all:List AV) (js:List Nat) (en:En) (hj:js.map (λj=>(en[j]?).join)=[some (.ref p),some (.str x)]) :
  ∃ (ns:List Nat) (ps':List Pc) (h':AH),dw js en none all bq (aJ 0 dR (aa 1) (ai (aX (aa 2) (some (aa 0)) (some (ag ar (aa 0) (ae (.int 8))))) af)) ((List.range N).map λm:Nat=>AV.int (0+(m:Int)*8)) [] h = .ok (aH ns) h'/\Dd p h h' ps ps' N/\LS ps' ns ((List.range N).map (gi x))/\∀ M,bZ M ps->x.length<=M->bZ M ps' := by
 obtain ⟨zs,h',c1,ns,ps',e1,D,LL,al⟩:=xM (js:=js) (en:=en) (all:=all) (e:=aJ 0 dR (aa 1) (ai (aX (aa 2) (some (aa 0)) (some (ag ar (aa 0) (ae (.int 8))))) af)) (xs:=(List.range N).map λm:Nat=>AV.int (0+(m:Int)*8)) (h:=h)
  (λj ys h' => ∃ (ns:List Nat) (ps':List Pc),ys=aH ns/\Dd p h h' ps ps' j/\LS ps' ns ((List.range j).map (gi x))/\∀ M,bZ M ps->x.length<=M->bZ M ps') ⟨[],ps,rfl,Dd.refl S g,⟨rfl,λi n w a _=>by simp at a⟩,λ_ f _=>f⟩ (by
   rintro j v ys h' hv ⟨ns,ps',rfl,D,LL,al⟩
   obtain ⟨jN,rfl⟩:=ym hv
   have z:=D.len
   have lc:=yk x j
   have sc:fo (gi x j)=true:=by
    unfold fo
    rw [F6 px j,lc]
    simp;lia
   obtain ⟨n,ps2,h2,d2,T⟩:=yd D.sh D.gd sc (by lia)
   have i1:(0:Int)+(j:Int)*8=((8*j:Nat):Int):=by lia
   have i2:((8*j:Nat):Int)+8=((8*j+8:Nat):Int):=by lia
   have ct:dQ (.str x) (some ((8*j:Nat):Int)) (some ((8*j+8:Nat):Int)) h' = .ok (.str (gi x j)) h' := rfl
   have ev:=d2.ev
   rw [hj]
   have e:aJ 0 dR (aa 1) (ai (aX (aa 2) (some (aa 0)) (some (ag ar (aa 0) (ae (.int 8))))) af) [some (.int (0+(j:Int)*8)),some (.ref p),some (.str x)] h' = .ok (.int n) h2:=by
    rw [i1]
    have ad:ar (.int ((8*j:Nat):Int)) (.int 8) h' = .ok (.int ((8*j+8:Nat):Int)) h' := by rw [<- i2];rfl
    generalize ((8*j:Nat):Int)=B1 at *
    generalize ((8*j+8:Nat):Int)=B2 at *
    simp [D.sh.ob,ad,ct,ev,-ar,-dQ]
   rw [e]
   refine ⟨ns++[n],ps2,by simp [aH],D.trans d2.dd (by lia),?_,λM f hq=>d2.al M (al M f hq) (λm e=>by rw [T.ms] at e;cases e;show (gi x j).length<=M;rw [lc];lia)⟩
   rw [List.range_succ,List.map_append]
   exact LL.snoc d2.dd.pre T) (by simp;exact Nat.le_trans (show N<=10000 by lia) (by decide))
 rw [List.length_map,List.length_range] at D LL
 exact ⟨ns,ps',h',by rw [c1,e1],D,LL,al⟩
theorem yn {h:AH} {p:Nat} {ps:List Pc} {x:Str} (S:ShelfAt h p ps) (g:Good ps) (px:bu x=true) (hx:x.length<=10000) (hz:ps.length+2*x.length<16000000) :
  ∃ (n:Nat) (ps':List Pc) (h':AH),jU [.ref p,.str x] h = .ok (.int n) h'/\Dd p h h' ps ps' (2*x.length)/\TxZ ps' n x/\∀ M,bZ M ps->x.length<=M->bZ M ps' := by
 have sl:x.length<=sizeLine:=Nat.le_trans hx (by decide)
 have fp:=xQ x h sl
 rw [px] at fp
 have c1 : ¬ (10000:Int)<x.length:=by lia
 by_cases q:x.length=0
 ·have xe:x = "" := dq (by rw [eT] at q;rw [List.length_eq_zero_iff.mp q];rfl)
  subst xe
  refine ⟨0,ps,h,?_,{ Dd.refl S g with len:=by lia },.inl ⟨rfl,rfl⟩,λ_ f _=>f⟩
  simp [jU,fp,c1]
 ·obtain ⟨N,eN⟩:∃ N,N=(x.length-1) / 8+1:=⟨_,rfl⟩
  obtain ⟨ns,ps1,h1,e1,D1,LL,al⟩:=F7 S g px N (by lia) hx (by lia) ((List.range N).map λm:Nat=>AV.int (0+(m:Int)*8)) [0,1] [some (.ref p),some (.str x),none] rfl
  have z1:=D1.len
  have ln:ns.length=N:=by rw [LL.1];simp
  obtain ⟨n,ps2,h2,m,f,l,H,b1,b2,b3,_,_,_,_,_,b9⟩:=sT (p:=p) 20 11 D1.sh D1.gd LL (by lia) (by rw [ln];have:(2:Nat) ^ 11=2048:=rfl;lia) (by decide) (λi w ew hi=>by
   obtain ⟨iN,rfl⟩:=ym ew
   rw [List.length_map,List.length_range] at hi
   rw [yk];lia) (by lia) (by lia)
  have rd:bF ((List.range N).map (gi x))=x:=dq (by rw [yl,List.take_of_length_le (by rw [<- eT];lia)])
  rw [rd] at b3
  have ir:iy (ae (.int 0)) (aD br (ai (aa 1) af)) (ae (.int 8)) [some (.ref p),some (.str x),none] h = .ok ((List.range N).map (λm:Nat=>AV.int (0+(m:Int)*8)),none) h:=by
   have r1:((if (0:Int)<x.length then ((x.length:Int)-0-1) / 8+1 else 0:Int)).toNat=N:=by
    rw [if_pos (by lia)];lia
   have r2:(0:Int).natAbs<2 ^ 40/\(x.length:Int).natAbs<2 ^ 40/\(0:Int)<8/\(8:Int)<2 ^ 20:=⟨by decide,by lia,by decide,by decide⟩
   show (if _ then _ else _)=_
   rw [if_pos r2,r1]
  have cp:c3 [0,1] (iy (ae (.int 0)) (aD br (ai (aa 1) af)) (ae (.int 8))) bq (aJ 0 dR (aa 1) (ai (aX (aa 2) (some (aa 0)) (some (ag ar (aa 0) (ae (.int 8))))) af)) [some (.ref p),some (.str x),none] h = .ok (.fl (aH ns)) h1:=by
   simp only [c3,ir,e1]
  have ne:aY (.str x) (.str "") h = .ok (.bl false) h:=by
   have : ¬ x=Str.ofString "" := λz=>q (by rw [z];rfl)
   simp [this]
  refine ⟨n,ps2,h2,?_,D1.trans b2 (by lia),.inr ⟨_,_,_,b3⟩,λM f hq=>b9 M (al M f hq) (by rw [b3.ky.sg];exact hq)⟩
  unfold jU
  generalize c3 [0,1] (iy (ae (.int 0)) (aD br (ai (aa 1) af)) (ae (.int 8))) bq (aJ 0 dR (aa 1) (ai (aX (aa 2) (some (aa 0)) (some (ag ar (aa 0) (ae (.int 8))))) af))=CP at *
  generalize gC 20=HV at *
  simp [fp,c1,ne,cp,b1,-aY]
end Sk
namespace Sk
open PySem PySem.Spec L2 Sm
theorem oH (h:AH):∀ is:List Int,bQ (bT 7 h) (is.map AV.int)=some (is.map PyData.int)
 | []=>rfl
 | i::is=>by
  rw [List.map_cons,List.map_cons]
  show (match bT 7 h (.int i),bQ (bT 7 h) (is.map AV.int) with | some d,some ds=>some (d::ds) | _,_=>none)=_
  rw [oH h is];rfl
theorem oI:∀ as bs:List Int,PyData.eqvAll (as.map PyData.int) (bs.map PyData.int)=decide (as=bs)
 | [],[]=>by simp [PyData.eqvAll]
 | [],b::bs=>by simp [PyData.eqvAll]
 | a::as,[]=>by simp [PyData.eqvAll]
 | a::as,b::bs=>by
  rw [List.map_cons,List.map_cons]
  simp only [PyData.eqvAll,PyData.eqv,oI as bs]
  by_cases q:a=b
  ·subst q;simp
  ·simp [q]
def gj (x:Str) (a:Nat):Str:=⟨(x.cps.toList.take a).toArray⟩
def gn (x:Str) (a:Nat):Str:=⟨(x.cps.toList.drop a).toArray⟩
theorem sV (x:Str) (a:Nat):(gj x a).cps.toList=x.cps.toList.take a:=rfl
theorem mB (x:Str) (a:Nat):(gn x a).cps.toList=x.cps.toList.drop a:=rfl
theorem F8 (x:Str) (a:Nat):(gn x a).length=x.length-a:=by
 rw [eT,eT x,mB,List.length_drop]
theorem F9 {x:Str} (h:bu x=true) (a:Nat):bu (gj x a)=true:=by
 unfold bu at *
 rw [sV,List.all_eq_true]
 rw [List.all_eq_true] at h
 exact λc hc=>h c (List.mem_of_mem_take hc)
theorem Ga {x:Str} (h:bu x=true) (a:Nat):bu (gn x a)=true:=by
 unfold bu at *
 rw [mB,List.all_eq_true]
 rw [List.all_eq_true] at h
 exact λc hc=>h c (List.mem_of_mem_drop hc)
theorem Gb {x:Str} {a:Nat} (h:AH):dQ (.str x) none (some (a:Int)) h = .ok (.str (gj x a)) h:=by
 have:bM x none (some (a:Int))=gj x a:=dq (by
  unfold bM
  rw [HT.sIx_nat,HT.sIx_none,sV]
  show (x.cps.toList.drop 0).take (min a x.cps.toList.length-0)=_
  rw [List.drop_zero,Nat.sub_zero]
  by_cases q:a<=x.cps.toList.length
  ·rw [Nat.min_eq_left q]
  ·rw [Nat.min_eq_right (by lia),List.take_length,List.take_of_length_le (by lia)])
 simp only [dQ,this]
theorem Gc {x:Str} {a:Nat} (ha:a<=x.length) (h:AH):dQ (.str x) (some (a:Int)) none h = .ok (.str (gn x a)) h:=by
 have:bM x (some (a:Int)) none=gn x a:=dq (by
  unfold bM
  rw [HT.sIx_nat,HT.sIx_none,mB]
  rw [eT] at ha
  rw [Nat.min_eq_left ha]
  show (x.cps.toList.drop a).take (x.cps.toList.length-a)=_
  rw [List.take_of_length_le (by rw [List.length_drop];exact Nat.le_refl _)])
 simp only [dQ,this]
def IS (z:Int):Nat:=8*((z+1).toNat*(z+2).toNat)
theorem yo {ps:List Pc} (g:Good ps) {a b:Nat} {x y:Str} (A:TxZ ps a x) (B:TxZ ps b y):16*(max (eI ps a) (eI ps b)+1).toNat<=1400:=by
 have key:∀ {n:Nat} {y:Str},TxZ ps n y->eI ps n<=82:=λ{n y} t=>by
  rcases t with ⟨rfl,rfl⟩ | ⟨m,f,l,T⟩
  ·rw [FV];lia
  ·rw [oG T.ms];exact gH g T
 have:=key A
 have:=key B
 lia
end Sk
namespace Sk
open PySem PySem.Spec L2 Sm
def sW (ps:List Pc) (n:Nat):Str:=(reads ps).getD n ""
theorem rd_of {ps:List Pc} {n:Nat} {m:Ms} {x:Str} {f l:Ms} (T:Tx ps n m x f l):sW ps n=x:=ja T.rd
def wt (ps:List Pc) (n:Nat):Nat:=2*((meas ps).getD n ms0).lv-1
theorem Gd {h:AH} {W:Nat} {ns:List Nat} (e:h[W]? = some (.lst (aH ns))):bj (.ref W) (.fl []) h = .ok (.bl (!decide (ns=[]))) h:=by
 have i0:aH ns=(ns.map λn:Nat=>(n:Int)).map AV.int:=by rw [List.map_map];rfl
 have d1:bT 8 h (.ref W)=some (.list ((ns.map λn:Nat=>(n:Int)).map PyData.int)):=by
  show (match h[W]? with | some (.lst xs)=>(bQ (bT 7 h) xs).map PyData.list | _=>none)=_
  rw [e]
  show (bQ (bT 7 h) (aH ns)).map PyData.list=_
  rw [i0,oH];rfl
 have d2:bT 8 h (.fl [])=some (.list (([]:List Int).map PyData.int)):=rfl
 have q:gy (.ref W) (.fl []) h=some (decide (ns=[])):=by
  show (match bT 8 h (.ref W),bT 8 h (.fl []) with | some d,some e=>some (PyData.eqv d e) | _,_=>none)=_
  rw [d1,d2]
  show some (PyData.eqv (.list _) (.list _))=_
  rw [PyData.eqv,oI]
  congr 1
  apply decide_eq_decide.mpr
  cases ns<;>simp
 show (match gy (.ref W) (.fl []) h with | some b=>Out.ok (AV.bl (!b)) h | none=>Out.bad)=_
 rw [q]
theorem yp {h:AH} {W:Nat} {Z:List AV} {v:AV} (e:h[W]? = some (.lst (Z++[v]))):dh (.ref W) [] h = .ok v (h.set W (.lst Z)):=by
 simp [dh,e]
end Sk
namespace Sk
open PySem PySem.Spec L2 Sm
theorem Ge (c k:Int) (h:AH):∃ m,n5 [.int c,.int k] h = .ok (.int m) h:=by
 have b1:0<=(c % 1000000007+7919*k+101)*48271 % 2147483647:=Int.emod_nonneg _ (by decide)
 have b2:(c % 1000000007+7919*k+101)*48271 % 2147483647<2147483647:=Int.emod_lt_of_pos _ (by decide)
 refine ⟨(c % 1000000007+7919*k+101)*48271 % 2147483647*((c % 1000000007+7919*k+101)*48271 % 2147483647) % 2147483629*69621 % 2147483647,?_⟩
 generalize he:(c % 1000000007+7919*k+101)*48271 % 2147483647=v at *
 have c1:v.natAbs<18446744073709551616:=by lia
 simp [n5,he,c1]
theorem Gf {i j:Int} {h:AH} (hi:i.natAbs<2 ^ 4000) (hj:j.natAbs<2 ^ 4000):bx (.int i) (.int j) h = .ok (.int (i*j)) h:=if_pos (.inr ⟨hi,hj⟩)
theorem Gg (ns:List Int):lH (ns.map AV.int)=some ns:=by
 induction ns with
 | nil=>rfl
 | cons n r ih=>simp [ih]
abbrev T60:Int:=1000000000000000000000000000000000000000000000000000000000000000000000000000000000000000000000000000000000000000000000000
theorem Gh:(10:Nat) ^ 720<2 ^ 4000:=by decide +kernel
theorem Gi:T60.natAbs<2 ^ 4000:=by decide +kernel
theorem Gj (ns:List Int) (k:Nat) (i:Nat) (c:Nat) (o:Option AV) (h:AH) (hi:i<6) (hc:c<10 ^ (120*i)) (hj:k+i*12<ns.length) :
  ∃ c':Nat,c'<10 ^ (120*(i+1))/\kj [some (.fl (ns.map AV.int)),some (.int k),some (.int c),some (.int ((k:Int)+i*12)),o] h = .nx [some (.fl (ns.map AV.int)),some (.int k),some (.int c'),some (.int ((k:Int)+i*12)),o] h:=by
 obtain ⟨s,es⟩:∃ s,ns[k+i*12]? = some s:=⟨ns[k+i*12],by simp [hj]⟩
 have ix:aw (.fl (ns.map AV.int)) (.int ((k:Int)+i*12)) h = .ok (.int s) h:=by
  rw [show ((k:Int)+i*12)=((k+i*12:Nat):Int) by simp]
  simp only [aw,Fh es]
 have p1:(10:Nat) ^ (120*i)<=10 ^ 720:=Nat.pow_le_pow_right (by decide) (by lia)
 have m1:((c:Int)).natAbs<2 ^ 4000:=by
  have:=Gh
  exact Nat.lt_trans (show c<10 ^ 720 by lia) this
 have mu:bx (.int c) (.int T60) h = .ok (.int (c*T60)) h:=Gf m1 Gi
 have r0:0<=s % T60:=Int.emod_nonneg _ (by decide)
 have r1:s % T60<T60:=Int.emod_lt_of_pos _ (by decide)
 obtain ⟨r,er⟩:∃ r:Nat,s % T60=(r:Int):=⟨(s % T60).toNat,(Int.toNat_of_nonneg r0).symm⟩
 have rl:r<10 ^ 120:=by
  have:(r:Int)<T60:=er▸r1
  have e:T60=((10 ^ 120:Nat):Int):=by decide +kernel
  rw [e] at this;exact Int.ofNat_lt.mp this
 obtain ⟨c',ec,lc⟩:∃ c':Nat,(c:Int)*T60+r=(c':Int)/\c'<10 ^ (120*(i+1)):=by
  refine ⟨c*10 ^ 120+r,?_,?_⟩
  ·have e:T60=((10 ^ 120:Nat):Int):=by decide +kernel
   rw [e,Int.natCast_add,Int.natCast_mul]
  ·rw [show 120*(i+1)=120*i+120 by lia,Nat.pow_add]
   have:(c+1)*10 ^ 120<=10 ^ (120*i)*10 ^ 120:=Nat.mul_le_mul_right _ hc
   have e2:(c+1)*10 ^ 120=c*10 ^ 120+10 ^ 120:=Nat.succ_mul _ _
   lia
 refine ⟨c',lc,?_⟩
 have pw:(ag bx (ag bP (ae (.int 10)) (ae (.int 60))) (ag bP (ae (.int 10)) (ae (.int 60)))) [some (.fl (ns.map AV.int)),some (.int k),some (.int c),some (.int ((k:Int)+i*12)),o] h = .ok (.int T60) h:=by simp
 have md:cJ (.int s) (.int T60) h = .ok (.int r) h:=by simp only [cJ];rw [if_pos (by decide),er]
 clear p1 m1 r0 r1 er rl hc lc hi
 unfold kj
 generalize ag bx (ag bP (ae (.int 10)) (ae (.int 60))) (ag bP (ae (.int 10)) (ae (.int 60)))=PW at *
 generalize T60=t60 at *
 simp [pw,mu,ix,md,ec,-bx,-aw,-cJ]
theorem Gk (en0:Option AV) (ns:List Int) (k c f j:Int) (h:AH):∃ f',kl [some (.fl (ns.map AV.int)),some (.int k),some (.int c),some (.int j),some (.int f)] h = .nx [some (.fl (ns.map AV.int)),some (.int k),some (.int c),some (.int j),some (.int f')] h:=by
 obtain ⟨m,hm⟩:=Ge (c+1009*k+ns.length) j h
 refine ⟨f*2147483647+m,?_⟩
 have m1:bx (.int f) (.int 2147483647) h = .ok (.int (f*2147483647)) h:=Fg (by decide)
 have m2:bx (.int 1009) (.int k) h = .ok (.int (1009*k)) h:=Ff (by decide)
 simp [kl,hm,m1,m2,-bx]
theorem sX (ns:List Int) (hl:ns.length<=63) (k:Nat) (hk:k<=10) (h:AH):∃ N:Int,gY [.fl (ns.map AV.int),.int k] h = .ok (.ref h.length) (h++[.lst [.int N]]):=by
 obtain ⟨M,eM⟩:∃ M:Nat,M=(if (k:Int)<(ns.length:Int) then ((ns.length:Int)-k-1) / 12+1 else 0).toNat:=⟨_,rfl⟩
 have hM:M<=6/\∀ i,i<M->k+i*12<ns.length:=by
  rw [eM]
  split
  ·refine ⟨by lia,λi hi=>by lia⟩
  ·refine ⟨by lia,λi hi=>by simp at hi⟩
 obtain ⟨e1,h1,r1,r2⟩:=iG (w:=none) (all:=(List.range M).map (λm:Nat=>AV.int ((k:Int)+m*12))) (t:=.nm 3) (b:=kj) (xs:=(List.range M).map (λm:Nat=>AV.int ((k:Int)+m*12))) (en:=[some (.fl (ns.map AV.int)),some (.int k),some (.int 0),none,none]) (h:=h)
  (λi en h' => h'=h/\∃ (c:Nat) (o:Option AV),c<10 ^ (120*i)/\en=[some (.fl (ns.map AV.int)),some (.int k),some (.int c),o,none]) ⟨rfl,0,none,by decide,rfl⟩ (λ_ _ _ _=>rfl) (by
   rintro j x en h' hx ⟨rfl,c,o,hc,rfl⟩
   rw [List.getElem?_map] at hx
   obtain ⟨m,em,rfl⟩:=Option.map_eq_some_iff.mp hx
   have hj:j<M:=by
    have:=(List.getElem?_eq_some_iff.mp em).1;simpa using this
   rw [List.getElem?_range hj] at em
   cases em
   obtain ⟨c',l',e⟩:=Gj ns k j c none h' (by have:=hM.1;lia) hc (hM.2 j hj)
   show thn (kj [some (.fl (ns.map AV.int)),some (.int k),some (.int c),some (.int ((k:Int)+j*12)),none] h') _
   rw [e]
   exact ⟨rfl,c',_,l',rfl⟩)
 obtain ⟨rfl,c,o,hc,rfl⟩:=r2
 have z1:(k:Int).natAbs<1099511627776:=by lia
 have z2:((ns.length:Nat):Int).natAbs<1099511627776:=by lia
 have it3:iy (aa 1) (aD br (ai (aa 0) af)) (ae (.int 12)) [some (.fl (ns.map AV.int)),some (.int k),some (.int 0),none,none] h1 = .ok ((List.range M).map (λm:Nat=>AV.int ((k:Int)+m*12)),none) h1:=by
  simp only [iy,aa,aD,ai,af,ae,Out.bind,br,List.getElem?_cons_zero,List.getElem?_cons_succ,rZ]
  rw [if_pos ⟨z1,z2,by decide,by decide⟩,<- eM]
 have f1:=(jZ (t:=.nm 3) (b:=kj) it3).trans r1
 clear r1 it3
 by_cases hb:(1000000000000000000:Int)<=c
 ·exact ⟨c,by simp [gY,f1,hb,-bp]⟩
 ·have cm:=rT (js:=[]) (en:=[some (.fl (ns.map AV.int)),some (.int k),some (.int c),o,none]) (w:=none) (all:=ns.map AV.int) (e:=ag cJ (aa 0) (ag bP (ae (.int 10)) (ae (.int 18)))) (g:=AV.int) (f:=λi=>AV.int (i % 1000000000000000000)) (h:=h1) rfl ns [] (by intro i _;simp) (by
    simp only [List.length_nil];exact Nat.le_trans (show 0+ns.length<=63 by lia) (by decide))
  have im:(ns.map λi=>AV.int (i % 1000000000000000000))=(ns.map λi=>i % 1000000000000000000).map AV.int:=by simp
  obtain ⟨S,eS⟩:∃ S:Int,S=(ns.map λi=>i % 1000000000000000000).sum:=⟨_,rfl⟩
  have sm:fJ [.fl (ns.map λi=>AV.int (i % 1000000000000000000))] h1 = .ok (.int S) h1:=by
   rw [im,eS];simp only [fJ,Gg]
  obtain ⟨e2,h2,s1,s2⟩:=iG (w:=none) (all:=cT 0 12) (t:=.nm 3) (b:=kl) (xs:=cT 0 12) (en:=[some (.fl (ns.map AV.int)),some (.int k),some (.int (c+S)),o,some (.int 0)]) (h:=h1)
   (λi en h' => h'=h1/\∃ (f:Int) (o:Option AV),en=[some (.fl (ns.map AV.int)),some (.int k),some (.int (c+S)),o,some (.int f)]) ⟨rfl,0,o,rfl⟩ (λ_ _ _ _=>rfl) (by
    rintro j x en h' hx ⟨rfl,f,o,rfl⟩
    rw [rV] at hx
    by_cases q:j<12
    ·rw [if_pos q] at hx
     cases hx
     obtain ⟨f',e⟩:=Gk none ns k (c+S) f (0+(j:Int)) h'
     show thn (kl [some (.fl (ns.map AV.int)),some (.int k),some (.int (c+S)),some (.int (0+(j:Int))),some (.int f)] h') _
     rw [e]
     exact ⟨rfl,f',_,rfl⟩
    ·rw [if_neg q] at hx;cases hx)
  obtain ⟨rfl,f,o',rfl⟩:=s2
  have f2:=(jZ (t:=.nm 3) (b:=kl) (n8 (a:=ae (.int 12)) (en:=[some (.fl (ns.map AV.int)),some (.int k),some (.int (c+S)),o,some (.int 0)]) (h:=h2) (n:=12) rfl (by decide))).trans s1
  refine ⟨f,?_⟩
  simp at cm
  simp [gY,f1,hb,cm,sm,f2,-bp,-fJ]
theorem Gm {h:AH} {st:Nat} {n:Int} (m:Nat) (e:h[st]? = some (.lst [.int n])) (hm:0<m) (hm2:m<=10 ^ 50):∃ v:Nat,v<m/\cZ [.ref st,.int m] h = .ok (.int v) (h.set st (.lst [.int (n / m)])):=by
 have a0:atI [AV.int n] 0=some (.int n):=rfl
 have i0:hJ 1 0=some 0:=rfl
 have hm0:(0:Int)<m:=Int.ofNat_lt.mpr hm
 have hm3:m<1606938044258990275541962092341162602522202993782792835301376:=Nat.lt_of_le_of_lt hm2 (by decide)
 refine ⟨(n % m).toNat,?_,?_⟩
 ·have:=Int.emod_lt_of_pos n hm0;have:=Int.emod_nonneg n (show (m:Int)≠0 by lia);lia
 ·rw [Int.toNat_of_nonneg (Int.emod_nonneg n (show (m:Int)≠0 by lia))]
  simp [cZ,e,a0,hm0,hm,hm3,i0]
theorem Gn {x:Str} {v:Nat} (hv:v<x.length) (hx:bu x=true) (h:AH):∃ c,km c=true/\aw (.str x) (.int v) h = .ok (.str ⟨#[c]⟩) h:=by
 have hv':v<x.cps.toList.length:=by rw [<- eT];exact hv
 refine ⟨x.cps.toList[v],List.all_eq_true.mp hx _ (List.getElem_mem hv'),?_⟩
 have e:x.cps.toList[v]? = some x.cps.toList[v]:=List.getElem?_eq_getElem hv'
 simp only [aw,pV e]
theorem kq {hh:AH} {L:Nat} {N:Int} (m:Nat) (e:hh[L]? = some (.lst [.int N])) (hm:0<m) (hm2:m<=10 ^ 50):∃ (v:Nat) (N':Int),v<m/\cZ [.ref L,.int m] hh = .ok (.int v) (hh.set L (.lst [.int N'])):=by
 obtain ⟨v,hv,e1⟩:=Gm m e hm hm2
 exact ⟨v,N / m,hv,e1⟩
theorem Gp {y:Str} {c:Nat} (hy:bu y=true) (hc:km c=true):bu (y++⟨#[c]⟩)=true/\(y++(⟨#[c]⟩:Str)).length=y.length+1:=by
 refine ⟨?_,by rw [bY];rfl⟩
 rw [mh,hy]
 simp [bu,hc]
def lowS:Str := "abcdefghijklmnopqrstuvwxyz"
def upS:Str := "ABCDEFGHIJKLMNOPQRSTUVWXYZ"
def restS:Str := " !#$&'()*+,-./0123456789:;<=>?\x40[]^_{|}~\n\\"
def fQ:List Str:=["a", "ab", "ab\n", "a \n~",(lowS++upS)++restS]
theorem mC:∀ x∈fQ,bu x=true/\1<=x.length/\x.length<=200:=by decide +kernel
theorem yq:Txt.upper lowS=upS:=by decide +kernel
theorem Gq (h:AH):nL (.str lowS) [] h = .ok (.str upS) h:=by
 have c:(Txt.upper lowS).length<=sizeLine/\(Txt.upper lowS).cps.all (· < 0x110000)=true:=by rw [yq];decide +kernel
 show (if (Txt.upper lowS).length<=sizeLine/\(Txt.upper lowS).cps.all (· < 0x110000)=true then Out.ok (AV.str (Txt.upper lowS)) h else .bad)=_
 rw [if_pos c,yq]
theorem Gr (v:Nat) (hv:v<5):∃ z:Str,(∀ h,aw (.fl [.str "a",.str "ab",.str "ab\n",.str "a \n~",.str ((lowS++upS)++restS)]) (.int (v:Int)) h = .ok (.str z) h)/\bu z=true/\1<=z.length/\z.length<=200:=by
 have:v=0\/v=1\/v=2\/v=3\/v=4:=by lia
 rcases this with rfl | rfl | rfl | rfl | rfl
 ·exact ⟨_,λ_=>rfl,mC _ (by simp [fQ])⟩
 ·exact ⟨_,λ_=>rfl,mC _ (by simp [fQ])⟩
 ·exact ⟨_,λ_=>rfl,mC _ (by simp [fQ])⟩
 ·exact ⟨_,λ_=>rfl,mC _ (by simp [fQ])⟩
 ·exact ⟨_,λ_=>rfl,mC _ (by simp [fQ])⟩
theorem Gs {hh:AH} {L:Nat} {N:Int} (most:Nat) (hm:most<=1000) (e:hh[L]? = some (.lst [.int N])):∃ (y:Str) (N':Int),lL [.ref L,.int most] hh = .ok (.str y) (hh.set L (.lst [.int N']))/\bu y=true/\y.length<=most:=by
 have Ll:=dO e
 obtain ⟨v,N1,hv,t1⟩:=kq 5 e (by decide) (by decide)
 have t1':cZ [.ref L,.int 5] hh = .ok (.int v) (hh.set L (.lst [.int N1])):=t1
 obtain ⟨z,ez,pz,z1,z2⟩:=Gr v hv
 have e1:(hh.set L (.lst [.int N1]))[L]? = some (.lst [.int N1]):=List.getElem?_set_self Ll
 obtain ⟨k,N2,hk,t2⟩:=kq (most+1) e1 (Nat.succ_pos _) (Nat.le_trans (Nat.succ_le_succ hm) (by decide))
 rw [List.set_set] at t2
 have t2':cZ [.ref L,.int ((most:Int)+1)] (hh.set L (.lst [.int N1])) = .ok (.int k) (hh.set L (.lst [.int N2])):=by
  have:=t2;rw [Int.natCast_succ] at this;exact this
 obtain ⟨W3,eW3⟩:∃ W3:Str,W3=(lowS++upS)++restS:=⟨_,rfl⟩
 rw [<- eW3] at ez
 obtain ⟨e',h',r1,y,N3,o4,r2,r3,r4,r5⟩:=iG (w:=none) (all:=cT 0 k) (t:=.nm 6) (b:=jT) (xs:=cT 0 k) (en:=[some (.ref L),some (.int most),some (.str lowS),some (.str W3),some (.str z),some (.str ""),none]) (h:=hh.set L (.lst [.int N2]))
  (λj en h' => ∃ (y:Str) (N':Int) (o4:Option AV),en=[some (.ref L),some (.int most),some (.str lowS),some (.str W3),some (.str z),some (.str y),o4]/\h'=hh.set L (.lst [.int N'])/\bu y=true/\y.length=j) ⟨"",N2,none,rfl,rfl,rfl,rfl⟩ (λ_ _ _ _=>rfl) (by
   rintro j u en h' hu ⟨y,N',o4,rfl,rfl,py,ly⟩
   have jk:j<k:=by have:=(List.getElem?_eq_some_iff.mp hu).1;rwa [lU] at this
   have e3:(hh.set L (.lst [.int N']))[L]? = some (.lst [.int N']):=List.getElem?_set_self Ll
   obtain ⟨t,N4,ht,et⟩:=kq z.length e3 (by lia) (Nat.le_trans z2 (by decide))
   rw [List.set_set] at et
   obtain ⟨c,pc,ec⟩:=Gn ht pz (hh.set L (.lst [.int N4]))
   have ad:ar (.str y) (.str ⟨#[c]⟩) (hh.set L (.lst [.int N4])) = .ok (.str (y++⟨#[c]⟩)) (hh.set L (.lst [.int N4])):=by
    have:y.length+(⟨#[c]⟩:Str).length<=sizeLine:=Nat.le_trans (m:=1001) (by show y.length+1<=_;lia) (by decide)
    simp only [ar,this,if_true]
   have es:jT [some (.ref L),some (.int most),some (.str lowS),some (.str W3),some (.str z),some (.str y),some u] (hh.set L (.lst [.int N'])) = .nx [some (.ref L),some (.int most),some (.str lowS),some (.str W3),some (.str z),some (.str (y++⟨#[c]⟩)),some u] (hh.set L (.lst [.int N4])):=by
    generalize hh.set L (.lst [.int N4])=h2 at *
    generalize hh.set L (.lst [.int N'])=h1 at *
    simp [jT,et,ec,ad,-aw,-ar]
   show thn (jT [some (.ref L),some (.int most),some (.str lowS),some (.str W3),some (.str z),some (.str y),some u] (hh.set L (.lst [.int N']))) _
   rw [es]
   obtain ⟨q1,q2⟩:=Gp py pc
   exact ⟨_,N4,_,rfl,rfl,q1,by rw [q2,ly]⟩)
 rw [lU] at r5
 have f1:=(jZ (t:=.nm 6) (b:=jT) (n8 (a:=aD cZ (ai (aa 0) (ai (ag ar (aa 1) (ae (.int 1))) af))) (en:=[some (.ref L),some (.int most),some (.str lowS),some (.str W3),some (.str z),some (.str ""),none]) (h:=hh.set L (.lst [.int N1])) (n:=k) (by simp [t2']) (by lia))).trans r1
 refine ⟨y,N3,?_,r4,by lia⟩
 rw [<- r3]
 subst r2
 have a1:ar (.str lowS) (.str upS) hh = .ok (.str (lowS++upS)) hh:=by
  have:lowS.length+upS.length<=sizeLine:=by decide +kernel
  simp only [ar,this,if_true]
 have a2:ar (.str (lowS++upS)) (.str restS) hh = .ok (.str W3) hh:=by
  have:(lowS++upS).length+restS.length<=sizeLine:=by decide +kernel
  rw [eW3]
  simp only [ar,this,if_true]
 have mu:=Gq hh
 have el:Str.ofString "abcdefghijklmnopqrstuvwxyz" = lowS:=rfl
 have er:Str.ofString " !#$&'()*+,-./0123456789:;<=>?\x40[]^_{|}~\n\\" = restS:=rfl
 unfold lL
 rw [el,er]
 generalize bp (fF (aD cZ (ai (aa 0) (ai (ag ar (aa 1) (ae (.int 1))) af)))) (.nm 6) jT=F1 at *
 generalize hh.set L (.lst [.int N1])=h1 at *
 generalize lowS=LO at *
 generalize upS=UP at *
 generalize restS=RS at *
 generalize LO++UP=LU at *
 simp [mu,a1,a2,t1',ez,f1,-ar,-aw]
structure Gx (p:Nat) (M:List Nat) (h h':AH) (ps ps':List Pc) (k:Nat):Prop where
 sh:ShelfAt h' p ps'
 gd:Good ps'
 pre:ps <+: ps'
 len:ps'.length<=ps.length+k
 fr:∀ i,(i<p\/p+8<i)->i∉M->i<h.length->h'[i]? = h[i]?
 hl:h.length<=h'.length
 al:bZ 30 ps->bZ 30 ps'
theorem Gx.refl {p:Nat} {h:AH} {ps:List Pc} (S:ShelfAt h p ps) (g:Good ps) (M:List Nat):Gx p M h h ps ps 0:=⟨S,g,List.prefix_refl _,by lia,λ_ _ _ _=>rfl,Nat.le_refl _,id⟩
theorem Gx.trans {p:Nat} {M:List Nat} {h h' h'':AH} {ps ps' ps'':List Pc} {k k' k2:Nat} (a:Gx p M h h' ps ps' k) (b:Gx p M h' h'' ps' ps'' k') (hk:k+k'<=k2):Gx p M h h'' ps ps'' k2 :=
 ⟨b.sh,b.gd,a.pre.trans b.pre,by have:=a.len;have:=b.len;lia,λi hi hn hl=>(b.fr i hi hn (Nat.lt_of_lt_of_le hl a.hl)).trans (a.fr i hi hn hl),Nat.le_trans a.hl b.hl,λf=>b.al (a.al f)⟩
theorem Gx.set {p L:Nat} {h:AH} {ps:List Pc} (S:ShelfAt h p ps) (g:Good ps) (hL:L<p\/p+8<L) (M:List Nat) (hM:L∈M) (v:AO):Gx p M h (h.set L v) ps ps 0 :=
 ⟨S.keep λi i1 i8=>List.getElem?_set_ne (by lia),g,List.prefix_refl _,by lia,λi _ hn _=>List.getElem?_set_ne (λ(z:L=i)=>hn (z▸hM)),by simp,id⟩
theorem Gx.dd {p:Nat} {M:List Nat} {h h':AH} {ps ps':List Pc} {k k2:Nat} (d:Dd p h h' ps ps' k) (hk:k<=k2) (al:bZ 30 ps->bZ 30 ps'):Gx p M h h' ps ps' k2 :=
 ⟨d.sh,d.gd,d.pre,Nat.le_trans d.len (Nat.add_le_add_left hk _),λi hi _ _=>d.fr i (hi.imp Nat.le_of_lt id),by rw [d.hl];exact Nat.le_refl _,al⟩
theorem Gx.app {p:Nat} {M:List Nat} {h h':AH} {ps ps':List Pc} {k:Nat} (a:Gx p M h h' ps ps' k) (r:AH):Gx p M h (h' ++ r) ps ps' k :=
 ⟨a.sh.app r,a.gd,a.pre,a.len,λi hi hn hl=>by rw [List.getElem?_append_left (Nat.lt_of_lt_of_le hl a.hl)];exact a.fr i hi hn hl,by rw [List.length_append];exact Nat.le_trans a.hl (Nat.le_add_right _ _),a.al⟩
theorem Gx.more {p:Nat} {M M':List Nat} {h h':AH} {ps ps':List Pc} {k:Nat} (a:Gx p M h h' ps ps' k) (s:∀ i∈M,i∈M'):Gx p M' h h' ps ps' k :=
 ⟨a.sh,a.gd,a.pre,a.len,λi hi hn hl=>a.fr i hi (λz=>hn (s i z)) hl,a.hl,a.al⟩
theorem Gu {x:Str} {a:Nat} (h:AH):dQ (.str x) (some (a:Int)) none h = .ok (.str (gn x a)) h:=by
 by_cases ha:a<=x.length
 ·exact Gc ha h
 ·have:bM x (some (a:Int)) none=gn x a:=dq (by
   unfold bM
   rw [HT.sIx_nat,HT.sIx_none,mB]
   rw [eT] at ha
   rw [Nat.min_eq_right (by lia)]
   show (x.cps.toList.drop x.cps.toList.length).take _=_
   rw [List.drop_length,List.drop_of_length_le (by lia),List.take_nil])
  simp only [dQ,this]
theorem Gv (x:Str) (a:Nat):gj x a++gn x a=x:=dq (by rw [eF,sV,mB,List.take_append_drop])
theorem Gw {z:Str} (q : ¬ z = ""):1<=z.length:=by
 apply Classical.byContradiction
 intro hc
 apply q
 apply dq
 rw [eT] at hc
 have:z.cps.toList=[]:=List.length_eq_zero_iff.mp (by lia)
 rw [this];rfl
theorem Gy (z:Str):z++("" : Str)=z:=dq (by rw [eF];simp;rfl)
theorem Gz (z:Str):("" : Str)++z=z:=dq (by rw [eF];rfl)
theorem GA {h:AH} {p L W:Nat} {y:Str} (py:bu y=true) (hy:y.length<=40) (hW:W=h.length) (eL:∃ N:Int,h[L]? = some (.lst [.int N])) (v:Int) :
  ∃ (ws:List Str) (N:Int) (o5:Option AV),d5 (aS (ag bj (aa 2) (ae (.str "")))) i6 fK [some (.ref p),some (.ref L),some (.str y),some (.int v),some (.ref W),none,none,none] (h++[.lst []]) = .nx [some (.ref p),some (.ref L),some (.str ""),some (.int v),some (.ref W),o5,none,none] (h.set L (.lst [.int N])++[.lst (ws.map AV.str)])/\bF ws=y/\(∀ w∈ws,bu w=true)/\ws.length<=40:=by
 obtain ⟨N0,eL⟩:=eL
 have Ll:=dO eL
 have h0:h.set L (.lst [.int N0])=h:=by
  apply List.ext_getElem?
  intro i
  by_cases q:i=L
  ·subst q;rw [List.getElem?_set_self Ll,eL]
  ·rw [List.getElem?_set_ne (by lia)]
 obtain ⟨e',h',q1,ws,N,o5,q2,q3,q4,q5,q6⟩:=xI (c:=aS (ag bj (aa 2) (ae (.str "")))) (b:=i6) (fuel:=fK) (n:=y.length) (en:=[some (.ref p),some (.ref L),some (.str y),some (.int v),some (.ref W),none,none,none]) (h:=h++[.lst []])
  (λn en hh=>∃ (ws:List Str) (z:Str) (N:Int) (o5:Option AV),hh=h.set L (.lst [.int N])++[.lst (ws.map AV.str)]/\en=[some (.ref p),some (.ref L),some (.str z),some (.int v),some (.ref W),o5,none,none]/\bF ws++z=y/\(∀ w∈ws,bu w=true)/\bu z=true/\n=z.length/\ws.length+z.length<=40)
  (λen hh=>∃ (ws:List Str) (N:Int) (o5:Option AV),hh=h.set L (.lst [.int N])++[.lst (ws.map AV.str)]/\en=[some (.ref p),some (.ref L),some (.str ""),some (.int v),some (.ref W),o5,none,none]/\bF ws=y/\(∀ w∈ws,bu w=true)/\ws.length<=40)
  ⟨[],y,N0,none,by rw [h0];rfl,rfl,Gz y,λ_ z=>(nomatch z),py,rfl,by simpa using hy⟩ (Nat.lt_of_le_of_lt hy (by decide)) (by
   rintro n en hh ⟨ws,z,N,o5,eh,een,cz,pw,pz,en',lw⟩
   have c:aS (ag bj (aa 2) (ae (.str ""))) en hh = .ok (!decide (z = "")) hh:=by
    subst een
    simp
   rw [c]
   by_cases q:z = ""
   ·have:(!decide (z = ""))=false:=by simp [q]
    rw [this]
    subst q
    exact ⟨ws,N,o5,eh,een,by rw [<- cz,Gy],pw,by lia⟩
   ·have:(!decide (z = ""))=true:=by simp [q]
    rw [this]
    have z1:=Gw q
    have e1:hh[L]? = some (.lst [.int N]):=by rw [eh,List.getElem?_append_left (by simpa using Ll)];exact List.getElem?_set_self Ll
    obtain ⟨d,N',hd,t⟩:=kq 12 e1 (by decide) (by decide)
    have t':cZ [.ref L,.int 12] hh = .ok (.int d) (hh.set L (.lst [.int N'])):=t
    have eh2:hh.set L (.lst [.int N'])=h.set L (.lst [.int N'])++[.lst (ws.map AV.str)]:=by
     rw [eh,List.set_append_left _ _ (by simpa using Ll),List.set_set]
    rw [eh2] at t'
    have lW:(h.set L (.lst [.int N'])).length=W:=by simp [hW]
    have eW:(h.set L (.lst [.int N'])++[AO.lst (ws.map AV.str)])[W]? = some (.lst (ws.map AV.str)):=by rw [<- lW];simp
    have eS:(h.set L (.lst [.int N'])++[AO.lst (ws.map AV.str)]).set W (.lst ((ws++[gj z (1+d)]).map AV.str))=h.set L (.lst [.int N'])++[.lst ((ws++[gj z (1+d)]).map AV.str)]:=by rw [<- lW];simp
    have ap:dG (.ref W) [.str (gj z (1+d))] (h.set L (.lst [.int N'])++[AO.lst (ws.map AV.str)]) = .ok .non (h.set L (.lst [.int N'])++[.lst ((ws++[gj z (1+d)]).map AV.str)]):=by
     have sz:(ws.map AV.str).length<sizeLine:=Nat.lt_of_le_of_lt (m:=40) (by simp;lia) (by decide)
     rw [<- eS]
     simp only [dG,eW,sz,if_true,List.map_append,List.map_cons,List.map_nil]
    have il:cn (.ref W) (h.set L (.lst [.int N'])++[AO.lst (ws.map AV.str)])=true:=by simp only [cn,dC,eW];rfl
    generalize hk1:h.set L (.lst [.int N'])++[AO.lst (ws.map AV.str)]=h1 at *
    generalize hk2:h.set L (.lst [.int N'])++[AO.lst ((ws++[gj z (1+d)]).map AV.str)]=h2 at *
    have c1:dQ (.str z) none (some (1+(d:Int))) h1 = .ok (.str (gj z (1+d))) h1:=by
     have:=Gb (x:=z) (a:=1+d) h1
     rw [Int.natCast_add] at this;exact this
    have c2:dQ (.str z) (some (1+(d:Int))) none h2 = .ok (.str (gn z (1+d))) h2:=by
     have:=Gu (x:=z) (a:=1+d) h2
     rw [Int.natCast_add] at this;exact this
    have eB:i6 en hh = .nx [some (.ref p),some (.ref L),some (.str (gn z (1+d))),some (.int v),some (.ref W),some (.int (1+(d:Int))),none,none] h2:=by
     subst een
     simp [i6,t',il,c1,ap,c2,-cn,-dQ,-dG]
    show thn (i6 en hh) _
    rw [eB]
    have dl:=F8 z (1+d)
    refine ⟨(gn z (1+d)).length,by lia,ws++[gj z (1+d)],gn z (1+d),N',_,hk2.symm,rfl,?_,?_,Ga pz _,rfl,by simp;lia⟩
    ·rw [jd,j5,dy,Gv,cz]
    ·intro w hw
     rcases List.mem_append.mp hw with hw | hw
     ·exact pw w hw
     ·rw [List.mem_singleton.mp hw];exact F9 pz _)
 exact ⟨ws,N,o5,by rw [q1,q2,q3],q4,q5,q6⟩
theorem yr:∀ (ws:List Str) (w:Str),w∈ws->w.length<=(bF ws).length
 | [],w,h=>nomatch h
 | v::ws,w,h=>by
  show _<=(v++bF ws).length
  rw [bY]
  rcases List.mem_cons.mp h with rfl | h
  ·lia
  ·have:=yr ws w h;lia
theorem oJ {α:Type} {xs:List α} {j:Nat} {w:α} (e:xs[j]? = some w):xs.take (j+1)=xs.take j++[w]:=by
 rw [List.take_succ,e];rfl
theorem yt {M n:Nat} {ps:List Pc} {x:Str} (T:TxZ ps n x) (h:x.length<=M):∀ m,(meas ps)[n]? = some m->m.sg<=M:=λm e=>by
 obtain ⟨m0,e0,s⟩:=T.meas
 rw [e0] at e
 cases e
 lia
theorem sY:∀ (ws:List Str) (j:Nat),(bF (ws.take j)).length<=(bF ws).length
 | [],j=>by rw [List.take_nil];exact Nat.le_refl _
 | w::ws,0=>Nat.zero_le _
 | w::ws,j+1=>by
  have:=sY ws j
  show (w++bF (ws.take j)).length<=(w++bF ws).length
  rw [bY,bY]
  lia
theorem sZ:∀ ws:List Str,(bF ws.reverse).length=(bF ws).length
 | []=>rfl
 | w::ws=>by
  rw [List.reverse_cons,jd,j5,bY,sZ ws]
  show _=(w++bF ws).length
  rw [bY,Nat.add_comm]
theorem yu {h:AH} {p n:Nat} {ps:List Pc} {x w:Str} (S:ShelfAt h p ps) (g:Good ps) (T:TxZ ps n x) (hx:x.length<=2000) (pw:bu w=true) (hw:w.length<=40) (hs:x.length+w.length<=30) (hz:ps.length<13900000) (o1 o2 o3 o4 o5:Option AV) :
  (∃ (n':Nat) (ps':List Pc) (h':AH),iD [some (.ref p),o1,o2,o3,o4,o5,some (.int n),some (.str w)] h = .nx [some (.ref p),o1,o2,o3,o4,o5,some (.int n'),some (.str w)] h'/\Gx p [] h h' ps ps' 1500/\TxZ ps' n' (x++w)) /\
  (∃ (n':Nat) (ps':List Pc) (h':AH),iE [some (.ref p),o1,o2,o3,o4,o5,some (.int n),some (.str w)] h = .nx [some (.ref p),o1,o2,o3,o4,o5,some (.int n'),some (.str w)] h'/\Gx p [] h h' ps ps' 1500/\TxZ ps' n' (w++x)):=by
 obtain ⟨b,ps1,h1,eb,D,T1,al⟩:=yn S g pw (by lia) (by lia)
 have l1:=D.len
 have T0:=T.pre D.pre
 have j1:=yo D.gd T0 T1
 have j2:=yo D.gd T1 T0
 obtain ⟨n1,ps2,h2,d1,T2⟩:=yj D.sh D.gd T0 T1 (by lia) (by lia)
 obtain ⟨n2,ps3,h3,d2,T3⟩:=yj D.sh D.gd T1 T0 (by lia) (by lia)
 have al0:bZ 30 ps->bZ 30 ps1:=λf=>al 30 f (by lia)
 have al1:bZ 30 ps1->bZ 30 ps2:=λf=>d1.al 30 f (yt T2 (by rw [bY];lia))
 have al2:bZ 30 ps1->bZ 30 ps3:=λf=>d2.al 30 f (yt T3 (by rw [bY];lia))
 have e1:=d1.ev
 have e2:=d2.ev
 exact ⟨⟨n1,ps2,h2,by simp [iD,eb,e1],(Gx.dd (M:=[]) D (Nat.le_refl _) al0).trans (Gx.dd d1.dd j1 al1) (by lia),T2⟩,⟨n2,ps3,h3,by simp [iE,eb,e2],(Gx.dd (M:=[]) D (Nat.le_refl _) al0).trans (Gx.dd d2.dd j2 al2) (by lia),T3⟩⟩
theorem GB {h:AH} {p W:Nat} {ps:List Pc} {ws:List Str} (S:ShelfAt h p ps) (g:Good ps) (hW:p+8<W) (eW:h[W]? = some (.lst (ws.map AV.str))) (pw:∀ w∈ws,bu w=true) (lw:∀ w∈ws,w.length<=40) (hl:ws.length<=40) (hc:(bF ws).length<=30) (hz:ps.length<13000000) (o1 o2 o3 o4 o5:Option AV) :
  ∃ (n:Nat) (ps':List Pc) (h':AH) (o7:Option AV),du (some W) (ws.map AV.str) (.nm 7) iD (ws.map AV.str) [some (.ref p),o1,o2,o3,o4,o5,some (.int 0),none] h = .nx [some (.ref p),o1,o2,o3,o4,o5,some (.int n),o7] h'/\Gx p [] h h' ps ps' 60000/\TxZ ps' n (bF ws):=by
 obtain ⟨e',h',r1,r2⟩:=iG (w:=some W) (all:=ws.map AV.str) (t:=.nm 7) (b:=iD) (xs:=ws.map AV.str) (en:=[some (.ref p),o1,o2,o3,o4,o5,some (.int 0),none]) (h:=h)
  (λj en hh=>∃ (n:Nat) (ps':List Pc) (o7:Option AV),en=[some (.ref p),o1,o2,o3,o4,o5,some (.int n),o7]/\Gx p [] h hh ps ps' (1500*j)/\TxZ ps' n (bF (ws.take j))/\(bF (ws.take j)).length<=40*j)
  ⟨0,ps,none,rfl,Gx.refl S g [],.inl ⟨rfl,rfl⟩,Nat.zero_le _⟩ (by
   rintro j en hh ⟨n,ps',o7,_,G,_⟩
   have:hh[W]? = some (.lst (ws.map AV.str)):=(G.fr W (.inr hW) (by simp) (dO eW)).trans eW
   simp [this]) (by
   rintro j u en hh hu ⟨n,ps',o7,rfl,G,T,lc⟩
   rw [List.getElem?_map] at hu
   obtain ⟨w,ew,rfl⟩:=Option.map_eq_some_iff.mp hu
   have hj:=(List.getElem?_eq_some_iff.mp ew).1
   have mw:=List.mem_of_getElem? ew
   have gl:=G.len
   obtain ⟨n',ps2,h2,e,G2,T2⟩:=(yu G.sh G.gd T (by lia) (pw w mw) (lw w mw) (by have:=sY ws (j+1);rw [oJ ew,jd,j5,bY] at this;lia) (by lia) o1 o2 o3 o4 o5).1
   have ts:bF (ws.take (j+1))=bF (ws.take j)++w:=by rw [oJ ew,jd,j5]
   show thn (iD [some (.ref p),o1,o2,o3,o4,o5,some (.int n),some (.str w)] hh) _
   rw [e]
   exact ⟨n',ps2,_,rfl,G.trans G2 (by lia),by rw [ts];exact T2,by rw [ts,bY];have:=lw w mw;lia⟩)
 rw [List.length_map] at r2
 obtain ⟨n,ps',o7,rfl,G,T,_⟩:=r2
 rw [List.take_length] at T
 exact ⟨n,ps',h',o7,r1,{ G with len:=by have:=G.len;lia },T⟩
theorem GC {h:AH} {p W:Nat} {ps:List Pc} {ws:List Str} (S:ShelfAt h p ps) (g:Good ps) (hW:p+8<W) (eW:h[W]? = some (.lst (ws.map AV.str))) (pw:∀ w∈ws,bu w=true) (lw:∀ w∈ws,w.length<=40) (hl:ws.length<=40) (hc:(bF ws).length<=30) (hz:ps.length<13000000) (o1 o2 o3 o4 o5:Option AV) :
  ∃ (n:Nat) (ps':List Pc) (h':AH) (o7:Option AV),du (some W) (ws.map AV.str) (.nm 7) iE (ws.map AV.str).reverse [some (.ref p),o1,o2,o3,o4,o5,some (.int 0),none] h = .nx [some (.ref p),o1,o2,o3,o4,o5,some (.int n),o7] h'/\Gx p [] h h' ps ps' 60000/\TxZ ps' n (bF ws):=by
 rw [<- List.map_reverse]
 obtain ⟨vs,ev⟩:∃ vs,vs=ws.reverse:=⟨_,rfl⟩
 rw [<- ev]
 have lv:vs.length=ws.length:=by rw [ev,List.length_reverse]
 obtain ⟨e',h',r1,r2⟩:=iG (w:=some W) (all:=ws.map AV.str) (t:=.nm 7) (b:=iE) (xs:=vs.map AV.str) (en:=[some (.ref p),o1,o2,o3,o4,o5,some (.int 0),none]) (h:=h)
  (λj en hh=>∃ (n:Nat) (ps':List Pc) (o7:Option AV),en=[some (.ref p),o1,o2,o3,o4,o5,some (.int n),o7]/\Gx p [] h hh ps ps' (1500*j)/\TxZ ps' n (bF (vs.take j).reverse)/\(bF (vs.take j).reverse).length<=40*j)
  ⟨0,ps,none,rfl,Gx.refl S g [],.inl ⟨rfl,rfl⟩,Nat.zero_le _⟩ (by
   rintro j en hh ⟨n,ps',o7,_,G,_⟩
   have:hh[W]? = some (.lst (ws.map AV.str)):=(G.fr W (.inr hW) (by simp) (dO eW)).trans eW
   simp [this]) (by
   rintro j u en hh hu ⟨n,ps',o7,rfl,G,T,lc⟩
   rw [List.getElem?_map] at hu
   obtain ⟨w,ew,rfl⟩:=Option.map_eq_some_iff.mp hu
   have hj:=(List.getElem?_eq_some_iff.mp ew).1
   have mw:w∈ws:=by have:=List.mem_of_getElem? ew;rw [ev] at this;exact List.mem_reverse.mp this
   have gl:=G.len
   obtain ⟨n',ps2,h2,e,G2,T2⟩:=(yu G.sh G.gd T (by lia) (pw w mw) (lw w mw) (by have:=sY vs (j+1);rw [oJ ew,jd,j5,bY] at this;have h2:=sZ ws;rw [<- ev] at h2;have h3:=sZ (vs.take j);lia) (by lia) o1 o2 o3 o4 o5).2
   have ts:bF (vs.take (j+1)).reverse=w++bF (vs.take j).reverse:=by rw [oJ ew,List.reverse_append];rfl
   show thn (iE [some (.ref p),o1,o2,o3,o4,o5,some (.int n),some (.str w)] hh) _
   rw [e]
   exact ⟨n',ps2,_,rfl,G.trans G2 (by lia),by rw [ts];exact T2,by rw [ts,bY];have:=lw w mw;lia⟩)
 rw [List.length_map] at r2
 obtain ⟨n,ps',o7,rfl,G,T,_⟩:=r2
 rw [List.take_length,ev,List.reverse_reverse] at T
 exact ⟨n,ps',h',o7,r1,{ G with len:=by have:=G.len;lia },T⟩
theorem GD {h:AH} {p L:Nat} {ps:List Pc} {y:Str} (S:ShelfAt h p ps) (g:Good ps) (hL:p+8<L) (eL:∃ N:Int,h[L]? = some (.lst [.int N])) (py:bu y=true) (hy:y.length<=30) (hz:ps.length<13000000) :
  ∃ (n:Nat) (ps':List Pc) (h':AH),ki [.ref p,.ref L,.str y] h = .ok (.int n) h'/\Gx p [L] h h' ps ps' 60000/\TxZ ps' n y/\∃ N:Int,h'[L]? = some (.lst [.int N]):=by
 obtain ⟨N,eL⟩:=eL
 have Ll:=dO eL
 obtain ⟨u,N1,hu,t1⟩:=kq 3 eL (by decide) (by decide)
 have t1':cZ [.ref L,.int 3] h = .ok (.int u) (h.set L (.lst [.int N1])):=t1
 have G1:Gx p [L] h (h.set L (.lst [.int N1])) ps ps 0:=Gx.set S g (.inr hL) [L] (by simp) _
 have e1:(h.set L (.lst [.int N1]))[L]? = some (.lst [.int N1]):=List.getElem?_set_self Ll
 have l1:L<(h.set L (.lst [.int N1])).length:=dO e1
 generalize h.set L (.lst [.int N1])=h1 at *
 by_cases q0:u=0
 ·subst q0
  obtain ⟨n,ps2,h2,eb,D,T,al⟩:=yn G1.sh G1.gd py (by lia) (by lia)
  exact ⟨n,ps2,h2,by simp [ki,t1',eb],G1.trans (Gx.dd D (Nat.le_refl _) (λf=>al 30 f (by lia))) (by lia),T,N1,(D.fr L (.inr hL)).trans e1⟩
 ·obtain ⟨ws,N2,o5,ew,cw,pw,lw⟩:=GA (p:=p) (W:=h1.length) py (Nat.le_trans hy (by decide)) rfl ⟨N1,e1⟩ u
  have G2:Gx p [L] h1 (h1.set L (.lst [.int N2])) ps ps 0:=Gx.set G1.sh G1.gd (.inr hL) [L] (by simp) _
  have lnW:(h1.set L (.lst [.int N2])).length=h1.length:=by simp
  have G3:=(G1.trans G2 (Nat.le_refl _)).app [.lst (ws.map AV.str)]
  have eW:(h1.set L (.lst [.int N2])++[AO.lst (ws.map AV.str)])[h1.length]? = some (.lst (ws.map AV.str)):=by rw [<- lnW];simp
  have eL3:(h1.set L (.lst [.int N2])++[AO.lst (ws.map AV.str)])[L]? = some (.lst [.int N2]):=by rw [List.getElem?_append_left (by rw [lnW];exact l1)];exact List.getElem?_set_self l1
  generalize h1.set L (.lst [.int N2])++[AO.lst (ws.map AV.str)]=h3 at *
  have wl:∀ w∈ws,w.length<=40:=λw hw=>by have:=yr ws w hw;rw [cw] at this;lia
  have lm:(fv af) [some (.ref p),some (.ref L),some (.str y),some (.int u),none,none,none,none] h1 = .ok (.ref h1.length) (h1++[.lst []]):=rfl
  have z0:aY (.int u) (.int 0) h1 = .ok (.bl false) h1:=by simp [q0]
  by_cases q1:u=1
  ·have z1:aY (.int u) (.int 1) h3 = .ok (.bl true) h3:=by simp [q1]
   obtain ⟨n,ps4,h4,o7,ef,G4,T⟩:=GB G3.sh G3.gd (by lia) eW pw wl lw (by rw [cw];lia) (by lia) (some (.ref L)) (some (.str "")) (some (.int u)) (some (.ref h1.length)) o5
   have it:aO (aa 4) [some (.ref p),some (.ref L),some (.str ""),some (.int u),some (.ref h1.length),o5,some (.int 0),none] h3 = .ok (ws.map AV.str,some h1.length) h3:=by simp [eW]
   have f1:=(jZ (t:=.nm 7) (b:=iD) it).trans ef
   refine ⟨n,ps4,h4,?_,G3.trans (G4.more (λ_ z=>(nomatch z))) (by lia),by rw [<- cw];exact T,N2,(G4.fr L (.inr hL) (λz=>nomatch z) (dO eL3)).trans eL3⟩
   unfold ki
   generalize bp (aO (aa 4)) (.nm 7) iD=F1 at *
   generalize jR (aa 4) (.nm 7) iE=F2 at *
   generalize d5 (aS (ag bj (aa 2) (ae (.str "")))) i6 fK=WH at *
   generalize fv af=LM at *
   generalize h1++[AO.lst []]=h2 at *
   simp [t1',z0,lm,ew,z1,f1,-aY]
  ·have z1:aY (.int u) (.int 1) h3 = .ok (.bl false) h3:=by
    have : ¬ (u:Int)=1:=by lia
    simp [this]
   obtain ⟨n,ps4,h4,o7,ef,G4,T⟩:=GC G3.sh G3.gd (by lia) eW pw wl lw (by rw [cw];lia) (by lia) (some (.ref L)) (some (.str "")) (some (.int u)) (some (.ref h1.length)) o5
   have f2:jR (aa 4) (.nm 7) iE [some (.ref p),some (.ref L),some (.str ""),some (.int u),some (.ref h1.length),o5,some (.int 0),none] h3 = .nx [some (.ref p),some (.ref L),some (.str ""),some (.int u),some (.ref h1.length),o5,some (.int n),o7] h4:=by
    rw [<- ef]
    have v4:aa 4 [some (.ref p),some (.ref L),some (.str ""),some (.int u),some (.ref h1.length),o5,some (.int 0),none] h3 = .ok (.ref h1.length) h3:=rfl
    unfold jR
    rw [v4]
    dsimp only
    rw [eW]
   refine ⟨n,ps4,h4,?_,G3.trans (G4.more (λ_ z=>(nomatch z))) (by lia),by rw [<- cw];exact T,N2,(G4.fr L (.inr hL) (λz=>nomatch z) (dO eL3)).trans eL3⟩
   unfold ki
   generalize bp (aO (aa 4)) (.nm 7) iD=F1 at *
   generalize jR (aa 4) (.nm 7) iE=F2 at *
   generalize d5 (aS (ag bj (aa 2) (ae (.str "")))) i6 fK=WH at *
   generalize fv af=LM at *
   generalize h1++[AO.lst []]=h2 at *
   simp [t1',z0,lm,ew,z1,f2,-aY]
end Sk
namespace Sk
open PySem PySem.Spec L2 Sm
inductive Rea (ps:List Pc) (ts:List Nat):Nat->Prop
 | top {n:Nat}:n∈ts->n≠0->Rea ps ts n
 | one {i a b:Nat}:Rea ps ts (i+1)->ps[i]? = some (.fork a b)->Rea ps ts a
 | two {i a b:Nat}:Rea ps ts (i+1)->ps[i]? = some (.fork a b)->Rea ps ts b
theorem kr {ps:List Pc} (g:Good ps) {i a b:Nat} (e:ps[i]? = some (.fork a b)):1<=a/\a<=i/\1<=b/\b<=i:=by
 have ok:ForkOk (ps.take i) a b:=g.get e
 have hi:=(List.getElem?_eq_some_iff.mp e).1
 have li:(ps.take i).length=i:=by simp;lia
 obtain ⟨ma,mb,la,fb,h1,h2,_⟩:=ok.ex
 have b1:=(List.getElem?_eq_some_iff.mp h1).1
 have b2:=(List.getElem?_eq_some_iff.mp h2).1
 rw [c6,li] at b1 b2
 exact ⟨ok.pa,by lia,ok.pb,by lia⟩
theorem Rea.bd {ps:List Pc} {ts:List Nat} (g:Good ps) (ht:∀ n∈ts,n<=ps.length) {n:Nat} (r:Rea ps ts n):1<=n/\n<=ps.length:=by
 cases r with
 | top h z=>exact ⟨by lia,ht n h⟩
 | one r e=>have:=kr g e;have:=(List.getElem?_eq_some_iff.mp e).1;exact ⟨by lia,by lia⟩
 | two r e=>have:=kr g e;have:=(List.getElem?_eq_some_iff.mp e).1;exact ⟨by lia,by lia⟩
open Classical in
def ay (ps:List Pc) (ts:List Nat):Nat->List Nat
 | 0=>[]
 | k+1=>ay ps ts k++(if Rea ps ts (k+1) then [k+1] else [])
theorem gJ {ps:List Pc} {ts:List Nat} {k:Nat} (r:Rea ps ts (k+1)):ay ps ts (k+1)=ay ps ts k++[k+1]:=by rw [ay,if_pos r]
theorem ku {ps:List Pc} {ts:List Nat} {k:Nat} (r : ¬ Rea ps ts (k+1)):ay ps ts (k+1)=ay ps ts k:=by rw [ay,if_neg r,List.append_nil]
theorem zay {ps:List Pc} {ts:List Nat} {n:Nat}:∀ {k:Nat},n∈ay ps ts k ↔ (1<=n/\n<=k/\Rea ps ts n)
 | 0=>by simp [ay];lia
 | k+1=>by
  by_cases r:Rea ps ts (k+1)
  ·rw [gJ r,List.mem_append,zay (k:=k),List.mem_singleton]
   constructor
   ·rintro (⟨a,b,c⟩ | rfl)
    ·exact ⟨a,by lia,c⟩
    ·exact ⟨by lia,by lia,r⟩
   ·rintro ⟨a,b,c⟩
    by_cases q:n=k+1
    ·exact .inr q
    ·exact .inl ⟨a,by lia,c⟩
  ·rw [ku r,zay (k:=k)]
   constructor
   ·rintro ⟨a,b,c⟩
    exact ⟨a,by lia,c⟩
   ·rintro ⟨a,b,c⟩
    by_cases q:n=k+1
    ·subst q;exact absurd c r
    ·exact ⟨a,by lia,c⟩
theorem oK {ps:List Pc} {ts:List Nat}:∀ k:Nat,(ay ps ts k).Pairwise (· < ·)
 | 0=>.nil
 | k+1=>by
  by_cases r:Rea ps ts (k+1)
  ·rw [gJ r,List.pairwise_append]
   refine ⟨oK k,List.pairwise_singleton _ _,λa ha b hb=>?_⟩
   have:=(zay.mp ha).2.1
   have:=List.mem_singleton.mp hb
   lia
  ·rw [ku r];exact oK k
theorem tf {ps:List Pc} {ts:List Nat}:∀ k:Nat,(ay ps ts k).length<=k
 | 0=>Nat.le_refl _
 | k+1=>by
  have:=tf (ps:=ps) (ts:=ts) k
  by_cases r:Rea ps ts (k+1)
  ·rw [gJ r,List.length_append];simp;lia
  ·rw [ku r];lia
def bS (ps:List Pc) (ts:List Nat) (n:Nat):Nat:=(ay ps ts n).length
theorem yv {ps:List Pc} {ts:List Nat} {a n:Nat} (h:a<n) (r:Rea ps ts n):bS ps ts a<bS ps ts n:=by
 unfold bS
 obtain ⟨d,rfl⟩:∃ d,n=a+d+1:=⟨n-a-1,by lia⟩
 rw [gJ r,List.length_append]
 have:∀ d,(ay ps ts a).length<=(ay ps ts (a+d)).length:=λd=>by
  induction d with
  | zero=>exact Nat.le_refl _
  | succ d ih =>
   rw [<- Nat.add_assoc]
   by_cases q:Rea ps ts (a+d+1)
   ·rw [gJ q,List.length_append];lia
   ·rw [ku q];exact ih
 have:=this d
 simp
 lia
theorem yw {ps:List Pc} {ts:List Nat} {a b:Nat} (ra:Rea ps ts a) (rb:Rea ps ts b) (e:bS ps ts a=bS ps ts b):a=b:=by
 rcases Nat.lt_trichotomy a b with h | h | h
 ·have:=yv h rb;lia
 ·exact h
 ·have:=yv h ra;lia
def gp (ps:List Pc) (ts:List Nat):Pc->Pc
 | .leaf x=>.leaf x
 | .fork a b=>.fork (bS ps ts a) (bS ps ts b)
def new (ps:List Pc) (ts:List Nat) (k:Nat):List Pc:=(ay ps ts k).map λn=>gp ps ts (ps.getD (n-1) (.leaf ""))
theorem tj {ps:List Pc} {ts:List Nat} {k:Nat}:(new ps ts k).length=bS ps ts k:=by simp [new,bS]
theorem yx {ps:List Pc} {ts:List Nat} {k:Nat} {q:Pc} (r:Rea ps ts (k+1)) (e:ps[k]? = some q):new ps ts (k+1)=new ps ts k++[gp ps ts q]:=by
 unfold new
 rw [gJ r,List.map_append,List.map_singleton,Nat.add_sub_cancel,ja e]
theorem GE {ps:List Pc} {ts:List Nat} {k:Nat} (r : ¬ Rea ps ts (k+1)):new ps ts (k+1)=new ps ts k:=by unfold new;rw [ku r]
theorem GG {ps:List Pc} {ts:List Nat} {i j:Nat} {p q:Pc} (ri:Rea ps ts (i+1)) (rj:Rea ps ts (j+1)) (ei:ps[i]? = some p) (ej:ps[j]? = some q) (e:gp ps ts p=gp ps ts q):p=q:=by
 cases p with
 | leaf x=>cases q with
  | leaf y=>simpa [gp] using e
  | fork c d=>simp [gp] at e
 | fork a b=>cases q with
  | leaf y=>simp [gp] at e
  | fork c d =>
   simp [gp] at e
   rw [yw (.one ri ei) (.one rj ej) e.1,yw (.two ri ei) (.two rj ej) e.2]
theorem yy {ps:List Pc} {ts:List Nat} (g:Good ps) (ht:∀ n∈ts,n<=ps.length) {k:Nat} {q:Pc} (r:Rea ps ts (k+1)) (e:ps[k]? = some q):gp ps ts q∉new ps ts k:=by
 intro h
 obtain ⟨n,hn,eq⟩:=List.mem_map.mp h
 obtain ⟨n1,nk,rn⟩:=zay.mp hn
 obtain ⟨j,rfl⟩:∃ j,n=j+1:=⟨n-1,by lia⟩
 have hk:=(List.getElem?_eq_some_iff.mp e).1
 have ej:ps[j]? = some (ps[j]'(by lia)):=by simp
 rw [Nat.add_sub_cancel,ja ej] at eq
 have:=GG rn r ej e eq
 have nd:=g.nodup
 obtain ⟨_,e'⟩:=List.getElem?_eq_some_iff.mp e
 exact (List.pairwise_iff_getElem.mp nd) j k (by lia) hk (by lia) (by rw [this,e'])
theorem Tx.uniq {ps:List Pc} {n:Nat} {m m':Ms} {x x':Str} {f l f' l':Ms} (A:Tx ps n m x f l) (B:Tx ps n m' x' f' l'):m=m'/\x=x'/\f=f'/\l=l' := by
 have a:=A.ms.symm.trans B.ms;cases a
 have b:=A.rd.symm.trans B.rd;cases b
 have c:=A.ky.fl.symm.trans B.ky.fl;cases c
 have d:=A.ky.ll.symm.trans B.ky.ll;cases d
 exact ⟨rfl,rfl,rfl,rfl⟩
def Like (qs:List Pc) (n:Nat) (m:Ms) (x:Str) (f l:Ms):Prop:=∃ m' f' l',Tx qs n m' x f' l'/\m'.lv=m.lv/\m'.ht=m.ht/\f'.sg=f.sg/\l'.sg=l.sg
theorem Like.pre {ps ps':List Pc} {n:Nat} {m:Ms} {x:Str} {f l:Ms} (k:Like ps n m x f l) (h:ps <+: ps'):Like ps' n m x f l:=by
 obtain ⟨m',f',l',T,e⟩:=k
 exact ⟨m',f',l',T.pre h,e⟩
theorem tm {ps:List Pc} {ts:List Nat} (g:Good ps) (ht:∀ n∈ts,n<=ps.length):∀ k,k<=ps.length->Good (new ps ts k)/\∀ n,n<=k->Rea ps ts n->∀ m x f l,Tx ps n m x f l->Like (new ps ts k) (bS ps ts n) m x f l
 | 0,_=>⟨by simp only [new,ay,List.map_nil];exact .nil,λn hn r=>by have:=r.bd g ht;lia⟩
 | k+1,hk=>by
  obtain ⟨G,L⟩:=tm g ht k (by lia)
  by_cases r:Rea ps ts (k+1)
  ·have e:ps[k]? = some (ps[k]'(by lia)):=by simp
   generalize ps[k]'(by lia)=q at e
   have nm:=yy g ht r e
   have nl:(new ps ts k).length+1=bS ps ts (k+1):=by rw [tj];unfold bS;rw [gJ r,List.length_append];rfl
   rw [yx r e]
   have pr:new ps ts k <+: new ps ts k++[gp ps ts q]:=List.prefix_append _ _
   have old:∀ n,n<=k+1->n≠k+1->Rea ps ts n->∀ m x f l,Tx ps n m x f l->Like (new ps ts k++[gp ps ts q]) (bS ps ts n) m x f l:=λn hn hne rn m x f l T=>(L n (by lia) rn m x f l T).pre pr
   cases q with
   | leaf x =>
    have G':Good (new ps ts k++[.leaf x]):=.snoc G nm (g.get e)
    refine ⟨G',λn hn rn m y f l T=>?_⟩
    by_cases q:n=k+1
    ·subst q
     obtain ⟨rfl,rfl,rfl,rfl⟩:=T.uniq (j4 g e)
     rw [<- nl]
     exact ⟨_,_,_,j4 G' (i:=(new ps ts k).length) (by simp),rfl,rfl,rfl,rfl⟩
    ·exact old n hn q rn m y f l T
   | fork a b =>
    obtain ⟨a1,a2,b1,b2⟩:=kr g e
    obtain ⟨ma,xa,fa,la,A⟩:=g.tx a a1 (by lia)
    obtain ⟨mb,xb,fb,lb,B⟩:=g.tx b b1 (by lia)
    obtain ⟨ma',fa',la',A',a3,a4,a5,a6⟩:=L a a2 (.one r e) ma xa fa la A
    obtain ⟨mb',fb',lb',B',b3,b4,b5,b6⟩:=L b b2 (.two r e) mb xb fb lb B
    have F:ForkOk (ps.take k) a b:=g.get e
    obtain ⟨m1,m2,m3,m4,q1,q2,q3,q4,q5,q6,q7⟩:=F.ex
    have tp:=l9 ps k
    have z1:=A.ms.symm.trans (aV tp q1);cases z1
    have z2:=B.ms.symm.trans (aV tp q2);cases z2
    have z3:=A.ky.ll.symm.trans (aV tp q3);cases z3
    have z4:=B.ky.fl.symm.trans (aV tp q4);cases z4
    have sa:ma'.sg=ma.sg:=A'.ky.sg.trans A.ky.sg.symm
    have sb:mb'.sg=mb.sg:=B'.ky.sg.trans B.ky.sg.symm
    have F':ForkOk (new ps ts k) (bS ps ts a) (bS ps ts b):=⟨A'.n1,B'.n1,ma',mb',la',fb',A'.ms,B'.ms,A'.ky.ll,B'.ky.fl,by lia,by lia,by lia⟩
    have G':Good (new ps ts k++[.fork (bS ps ts a) (bS ps ts b)]):=.snoc G nm F'
    refine ⟨G',λn hn rn m y f l T=>?_⟩
    by_cases q:n=k+1
    ·subst q
     obtain ⟨rfl,rfl,rfl,rfl⟩:=T.uniq (jb g e A B)
     rw [<- nl]
     refine ⟨_,_,_,jb G' (i:=(new ps ts k).length) (by simp) (A'.pre pr) (B'.pre pr),?_,?_,a5,b6⟩
     ·show ma'.lv+mb'.lv=ma.lv+mb.lv;lia
     ·show max ma'.ht mb'.ht+1=max ma.ht mb.ht+1;rw [a4,b4]
    ·exact old n hn q rn m y f l T
  ·rw [GE r]
   refine ⟨G,λn hn rn=>?_⟩
   by_cases q:n=k+1
   ·subst q;exact absurd rn r
   ·exact L n (by lia) rn
end Sk
namespace Sk
open PySem PySem.Spec L2 Sm
theorem fR:∀ {N:Nat} {D:List Nat},D.Nodup->(∀ n∈D,1<=n/\n<=N)->D.length<=N
 | 0,[],_,_=>Nat.le_refl _
 | 0,n::D,_,h=>by have:=h n (List.mem_cons_self ..);lia
 | N+1,D,nd,h=>by
  by_cases q:N+1∈D
  ·have:=fR (N:=N) (nd.erase (N+1)) λn hn=>by
    obtain ⟨a,b⟩:=nd.mem_erase_iff.mp hn
    have:=h n b
    lia
   rw [List.length_erase_of_mem q] at this
   lia
  ·have:=fR (N:=N) nd λn hn=>by
    have:=h n hn
    have:n≠N+1:=λe=>q (e▸hn)
    lia
   lia
theorem tq {g:Nat->AV} {n:Nat}:∀ {D:List Nat},n∈D->aP (D.map λm:Nat=>(AV.int m,g m)) (.int n)=some (g n)
 | [],h=>nomatch h
 | m::D,h=>by
  by_cases q:m=n
  ·subst q;simp [aP]
  ·have:=tq (g:=g) (n:=n) (D:=D) (by rcases List.mem_cons.mp h with h | h;exact absurd h.symm q;exact h)
   have q' : ¬ (AV.int (m:Int)=AV.int (n:Int)):=λe=>q (by injection e with e;exact Int.ofNat.inj e)
   unfold aP at this ⊢
   rw [List.map_cons,List.find?_cons_of_neg (by simp;lia)]
   exact this
theorem tu {g:Nat->AV} {n:Nat}:∀ {D:List Nat},n∉D->aP (D.map λm:Nat=>(AV.int m,g m)) (.int n)=none
 | [],h=>rfl
 | m::D,h=>by
  have q : ¬ m=n:=λe=>h (by rw [e];exact List.mem_cons_self ..)
  have:=tu (g:=g) (n:=n) (D:=D) λz=>h (List.mem_cons_of_mem _ z)
  unfold aP at this ⊢
  rw [List.map_cons,List.find?_cons_of_neg (by simp;lia)]
  exact this
theorem yz {g:Nat->AV} {n:Nat} {D:List Nat} (h:n∉D):cN (D.map λm:Nat=>(AV.int m,g m)) (.int n) (g n)=(D++[n]).map λm:Nat=>(AV.int m,g m):=by
 unfold cN
 rw [qW,tu h,List.map_append]
 simp
def parts:Pc->List Nat
 | .leaf _=>[]
 | .fork a b=>[a,b]
theorem GH {h:AH} {p n:Nat} {ps:List Pc} {q:Pc} (S:ShelfAt h p ps) (n1:1<=n) (e:ps[n-1]? = some q):jW [.ref p,.int n] h = .ok (.fl (aH (parts q))) h:=by
 have fp:=oy S n1 e
 cases q with
 | leaf x =>
  have fp':cU [.ref p,.int n] h = .ok (.tup [.str "leaf",.str x]) h:=fp
  simp [jW,S.ob,fp',oC,oE,parts,-aw,-aY]
 | fork a b =>
  have fp':cU [.ref p,.int n] h = .ok (.tup [.str "fork",.int a,.int b]) h:=fp
  simp [jW,S.ob,fp',mm,mn,i1,i2,parts,-aw,-aY]
abbrev hY (h:AH) (D:List Nat) (Y:List AV) (A:List Nat):AH:=h++[.dct false (D.map λn:Nat=>(AV.int n,(λ_:Nat=>AV.bl true) n)),.lst (Y++aH A)]
abbrev hR (h:AH) (D A:List Nat):AH:=hY h D [] A
abbrev eR (p:Nat) (o1:Option AV) (h:AH) (o4:Option AV):En:=[some (.ref p),o1,some (.ref h.length),some (.ref (h.length+1)),o4]
theorem iK {h:AH} {D A:List Nat} {Y:List AV}:(hY h D Y A)[h.length+1]? = some (.lst (Y++aH A)):=by simp [hY,List.getElem?_append]
theorem GI {h:AH} {D A:List Nat}:(hR h D A)[h.length+1]? = some (.lst (aH A)):=iK
theorem kx {h:AH} {D A:List Nat} {Y:List AV}:(hY h D Y A)[h.length]? = some (.dct false (D.map λn:Nat=>(AV.int n,(λ_:Nat=>AV.bl true) n))):=by simp [hY]
theorem GJ {h:AH} {D A:List Nat}:(hR h D A)[h.length]? = some (.dct false (D.map λn:Nat=>(AV.int n,(λ_:Nat=>AV.bl true) n))):=kx
theorem tB {h:AH} {D A B:List Nat} {Y Z:List AV}:(hY h D Y A).set (h.length+1) (.lst (Z++aH B))=hY h D Z B:=by
 unfold hY
 rw [List.set_append_right _ _ (by lia),Nat.add_sub_cancel_left]
 rfl
theorem GL {h:AH} {D E A:List Nat} {Y:List AV}:(hY h D Y A).set h.length (.dct false (E.map λn:Nat=>(AV.int n,(λ_:Nat=>AV.bl true) n)))=hY h E Y A:=by
 unfold hY
 rw [List.set_append_right _ _ (by lia),Nat.sub_self]
 rfl
theorem yA {h:AH} {p n:Nat} {ps:List Pc} {q:Pc} {D A:List Nat} {Y:List AV} {o1 o4:Option AV} (S:ShelfAt h p ps) (n1:1<=n) (e:ps[n-1]? = some q) (lD:D.length<=1000000) (lA:A.length<=10000000) (lY:Y.length<=1000) :
  gc (eR p o1 h o4) (hY h D Y (A++[n])) = .nx (eR p o1 h (some (.int n))) (if n∈D then hY h D Y A else hY h (D++[n]) Y (A++parts q)):=by
 have po:dh (.ref (h.length+1)) [] (hY h D Y (A++[n])) = .ok (.int n) (hY h D Y A):=by
  have:=yp (h:=hY h D Y (A++[n])) (W:=h.length+1) (Z:=Y++aH A) (v:=.int n) (by rw [iK];simp)
  rw [this,tB]
 have il:cn (.ref (h.length+1)) (hY h D Y (A++[n]))=true:=by simp only [cn,dC,iK];rfl
 by_cases hn:n∈D
 ·rw [if_pos hn]
  have ni:fG (.int n) (.ref h.length) (hY h D Y A) = .ok (.bl false) (hY h D Y A):=by
   simp only [fG,jB,kx,tq hn,d6,keyOf?,Option.isSome];rfl
  simp only [eR] at *
  generalize hY h D Y (A++[n])=H0 at *
  generalize hY h D Y A=H1 at *
  simp [gc,il,po,ni,-cn,-dh,-fG]
 ·rw [if_neg hn]
  have ni:fG (.int n) (.ref h.length) (hY h D Y A) = .ok (.bl true) (hY h D Y A):=by
   simp only [fG,jB,kx,tu hn,d6,keyOf?,Option.isSome];rfl
  have st:∀ en:En,en[2]? = some (some (.ref h.length))->en[4]? = some (some (.int n))->dF (aa 2) (aa 4) (ae (.bl true)) en (hY h D Y A) = .nx en (hY h (D++[n]) Y A):=λen e2 e4=>by
   have z:D.length<sizeLine:=Nat.lt_of_le_of_lt lD (by decide)
   have k1:d6 false (.int n)=true:=rfl
   have pn:=yz (g:=λ_=>AV.bl true) hn
   simp only [dF,ae,aa,e2,e4,Out.go,kx,List.length_map,z,k1,and_self,if_true]
   rw [pn,GL]
  have S2:ShelfAt (hY h (D++[n]) Y A) p ps:=S.app _
  have fp:=GH S2 n1 e
  have ex:jS (.ref (h.length+1)) [.fl (aH (parts q))] (hY h (D++[n]) Y A) = .ok .non (hY h (D++[n]) Y (A++parts q)):=by
   have z:(Y++aH A).length+(aH (parts q)).length<=sizeLine:=by
    have:(parts q).length<=2:=by cases q<;>simp [parts]
    rw [List.length_append,List.length_map,List.length_map]
    exact Nat.le_trans (m:=10001002) (by lia) (by decide)
   simp only [jS,iK,dC,z,if_true]
   rw [show (Y++aH A)++aH (parts q)=Y++aH (A++parts q) by simp,tB]
  have il2:cn (.ref (h.length+1)) (hY h (D++[n]) Y A)=true:=by simp only [cn,dC,iK];rfl
  have st' := st [some (.ref p),o1,some (.ref h.length),some (.ref (h.length+1)),some (.int n)] rfl rfl
  simp only [eR] at *
  unfold gc
  generalize dF (aa 2) (aa 4) (ae (.bl true))=SX at *
  generalize hY h D Y (A++[n])=H0 at *
  generalize hY h D Y A=H1 at *
  generalize hY h (D++[n]) Y A=H2 at *
  generalize hY h (D++[n]) Y (A++parts q)=H3 at *
  simp [il,po,ni,st',fp,il2,ex,-cn,-dh,-fG,-jS]
end Sk
namespace Sk
open PySem PySem.Spec L2 Sm
theorem tD {w:Option Nat} {all:List AV} {t:Tg} {b:SS} {e':En} {h':AH}:∀ (xs:List AV) (en:En) (h:AH),du w all t b xs en h = .nx e' h'->gB w all t b xs en h = .nx e' h'
 | [],en,h,e=>e
 | x::xs,en,h,e=>by
  unfold du at e
  unfold gB
  by_cases l:cS w all h=true
  ·rw [if_pos l] at e ⊢
   cases z:dE t x en with
   | none=>rw [z] at e;cases e
   | some e1 =>
    rw [z] at e
    dsimp only at e ⊢
    cases z2:b e1 h with
    | nx e2 h2=>rw [z2] at e;exact tD xs e2 h2 e
    | ct e2 h2=>rw [z2] at e;exact tD xs e2 h2 e
    | bk e2 h2=>rw [z2] at e;exact e
    | rt v h2=>rw [z2] at e;cases e
    | ex c e2 h2=>rw [z2] at e;cases e
    | bad=>rw [z2] at e;cases e
  ·rw [if_neg l] at e;cases e
theorem tF {c:SB} {b:SS} {e':En} {h':AH}:∀ (n:Nat) (en:En) (h:AH),d5 c b n en h = .nx e' h'->fL c b n en h = .nx e' h'
 | 0,en,h,e=>nomatch e
 | n+1,en,h,e=>by
  unfold d5 at e
  unfold fL
  cases z:c en h with
  | bad=>rw [z] at e;cases e
  | ex k h1=>rw [z] at e;cases e
  | ok x h1 =>
   rw [z] at e
   cases x with
   | false=>exact e
   | true =>
    dsimp only at e ⊢
    cases z2:b en h1 with
    | nx e2 h2=>rw [z2] at e;exact tF n e2 h2 e
    | ct e2 h2=>rw [z2] at e;exact tF n e2 h2 e
    | bk e2 h2=>rw [z2] at e;exact e
    | rt v h2=>rw [z2] at e;cases e
    | ex c e2 h2=>rw [z2] at e;cases e
    | bad=>rw [z2] at e;cases e
structure Dfs (ps:List Pc) (ts D A:List Nat):Prop where
 nd:D.Nodup
 rd:∀ n∈D,Rea ps ts n
 ra:∀ n∈A,Rea ps ts n
 tp:∀ n∈ts,n≠0->n∈D\/n∈A
 fk:∀ i a b,i+1∈D->ps[i]? = some (.fork a b)->(a∈D\/a∈A)/\(b∈D\/b∈A)
theorem Dfs.done {ps:List Pc} {ts D:List Nat} (d:Dfs ps ts D []) {n:Nat} (r:Rea ps ts n):n∈D:=by
 induction r with
 | top h z=>exact (d.tp _ h z).elim id λz=>nomatch z
 | one r e ih=>exact (d.fk _ _ _ ih e).1.elim id λz=>nomatch z
 | two r e ih=>exact (d.fk _ _ _ ih e).2.elim id λz=>nomatch z
theorem Dfs.skip {ps:List Pc} {ts D A:List Nat} {n:Nat} (d:Dfs ps ts D (A++[n])) (h:n∈D):Dfs ps ts D A:=by
 have m:∀ x,x∈D\/x∈A++[n]->x∈D\/x∈A:=λx hx=>by
  rcases hx with hx | hx
  ·exact .inl hx
  ·rcases List.mem_append.mp hx with hx | hx
   ·exact .inr hx
   ·exact .inl (List.mem_singleton.mp hx▸h)
 exact ⟨d.nd,d.rd,λx hx=>d.ra x (List.mem_append_left _ hx),λx hx z=>m x (d.tp x hx z),λi a b hi e=>⟨m a (d.fk i a b hi e).1,m b (d.fk i a b hi e).2⟩⟩
theorem Dfs.step {ps:List Pc} {ts D A:List Nat} {n:Nat} {q:Pc} (d:Dfs ps ts D (A++[n])) (h:n∉D) (n1:1<=n) (e:ps[n-1]? = some q):Dfs ps ts (D++[n]) (A++parts q):=by
 have rn:=d.ra n (by simp)
 obtain ⟨j,rfl⟩:∃ j,n=j+1:=⟨n-1,by lia⟩
 rw [Nat.add_sub_cancel] at e
 have m:∀ x,x∈D\/x∈A++[j+1]->x∈D++[j+1]\/x∈A++parts q:=λx hx=>by
  rcases hx with hx | hx
  ·exact .inl (List.mem_append_left _ hx)
  ·rcases List.mem_append.mp hx with hx | hx
   ·exact .inr (List.mem_append_left _ hx)
   ·exact .inl (List.mem_append_right _ hx)
 refine ⟨List.nodup_append.mpr ⟨d.nd,by simp,λa ha b hb=>by rw [List.mem_singleton] at hb;subst hb;exact λe=>h (e▸ha)⟩,λx hx=>?_,λx hx=>?_,λx hx z=>m x (d.tp x hx z),λi a b hi e2=>?_⟩
 ·rcases List.mem_append.mp hx with hx | hx
  ·exact d.rd x hx
  ·exact List.mem_singleton.mp hx▸rn
 ·rcases List.mem_append.mp hx with hx | hx
  ·exact d.ra x (List.mem_append_left _ hx)
  ·cases q with
   | leaf _=>cases hx
   | fork a b =>
    simp only [parts,List.mem_cons,List.not_mem_nil,or_false] at hx
    rcases hx with rfl | rfl
    ·exact .one rn e
    ·exact .two rn e
 ·rcases List.mem_append.mp hi with hi | hi
  ·exact ⟨m a (d.fk i a b hi e2).1,m b (d.fk i a b hi e2).2⟩
  ·have:i=j:=by have:=List.mem_singleton.mp hi;lia
   subst this
   rw [e] at e2
   cases e2
   exact ⟨.inr (by simp [parts]),.inr (by simp [parts])⟩
theorem yB {α:Type}:∀ {l:List α},l≠[]->∃ a x,l=a++[x]:=λ{l} h=>⟨l.dropLast,l.getLast h,(List.dropLast_concat_getLast h).symm⟩
theorem GN {h:AH} {p:Nat} {ps:List Pc} {ts A:List Nat} {o1:Option AV} (S:ShelfAt h p ps) (g:Good ps) (ht:∀ n∈ts,n<=ps.length) (hz:ps.length<=1000000) (lA:A.length<=1000000) (d:Dfs ps ts [] A) :
  ∃ D o4,d5 (aS (ag bj (aa 3) (aM af))) gc fK (eR p o1 h none) (hR h [] A) = .nx (eR p o1 h o4) (hR h D [])/\Dfs ps ts D []:=by
 obtain ⟨e',h',r1,D,o4,rfl,rfl,d'⟩:=xI (c:=aS (ag bj (aa 3) (aM af))) (b:=gc) (fuel:=fK) (n:=3*ps.length+A.length) (en:=eR p o1 h none) (h:=hR h [] A)
  (λm en hh=>∃ D A o4,en=eR p o1 h o4/\hh=hR h D A/\Dfs ps ts D A/\m+3*D.length=3*ps.length+A.length/\m<=4000000)
  (λen hh=>∃ D o4,en=eR p o1 h o4/\hh=hR h D []/\Dfs ps ts D [])
  ⟨[],A,none,rfl,rfl,d,by simp,by lia⟩ (Nat.lt_of_le_of_lt (m:=4000000) (by lia) (by decide)) (by
   rintro m en hh ⟨D,A,o4,rfl,rfl,d,hm,hm2⟩
   have ne:=Gd (GI (h:=h) (D:=D) (A:=A))
   have c:(aS (ag bj (aa 3) (aM af))) (eR p o1 h o4) (hR h D A) = .ok (!decide (A=[])) (hR h D A):=by
    simp only [eR]
    generalize hR h D A=H at *
    simp [ne,-bj]
   rw [c]
   by_cases q:A=[]
   ·subst q
    exact ⟨D,o4,rfl,rfl,d⟩
   ·obtain ⟨B,n,rfl⟩:=yB q
    have lD:=fR d.nd λn hn=>(d.rd n hn).bd g ht
    have bn:=(d.ra n (by simp)).bd g ht
    have e:ps[n-1]? = some (ps[n-1]'(by lia)):=by simp
    generalize ps[n-1]'(by lia)=pc at e
    have lB:(B++[n]).length=B.length+1:=by simp
    have t:=yA (D:=D) (A:=B) (Y:=[]) (o1:=o1) (o4:=o4) S bn.1 e (by lia) (by lia) (Nat.zero_le _)
    rw [decide_eq_false q]
    show thn (gc (eR p o1 h o4) (hR h D (B++[n]))) _
    rw [t]
    by_cases hn:n∈D
    ·rw [if_pos hn]
     exact ⟨m-1,by lia,D,B,_,rfl,rfl,d.skip hn,by lia,by lia⟩
    ·rw [if_neg hn]
     have d2:=d.step hn bn.1 e
     have lD2:=fR d2.nd λn hn=>(d2.rd n hn).bd g ht
     have lp:(parts pc).length<=2:=by cases pc<;>simp [parts]
     have l1:(D++[n]).length=D.length+1:=by simp
     have l2:(B++parts pc).length=B.length+(parts pc).length:=by simp
     exact ⟨3*ps.length+(B++parts pc).length-3*(D++[n]).length,by lia,_,_,_,rfl,rfl,d2,by lia,by lia⟩)
 exact ⟨D,o4,r1,d'⟩
theorem oM:∀ D:List Nat,iY (D.map λn:Nat=>AV.int n)=some (D.map λn:Nat=>(n:Int))
 | []=>rfl
 | n::D=>by
  show (iY (D.map λn:Nat=>AV.int n)).map ((n:Int) :: ·)=_
  rw [oM D];rfl
theorem yC {ps:List Pc} {ts D:List Nat} (g:Good ps) (ht:∀ n∈ts,n<=ps.length) (d:Dfs ps ts D []):iz (D.map λn:Nat=>(n:Int))=(ay ps ts ps.length).map λn:Nat=>(n:Int):=by
 have so:=oK (ps:=ps) (ts:=ts) ps.length
 have pm:D.Perm (ay ps ts ps.length):=(List.perm_ext_iff_of_nodup d.nd (so.imp λh=>Nat.ne_of_lt h)).mpr λn=>by
  rw [zay]
  constructor
  ·intro h
   have r:=d.rd n h
   exact ⟨(r.bd g ht).1,(r.bd g ht).2,r⟩
  ·rintro ⟨_,_,r⟩
   exact d.done r
 refine nO ((lI _).trans (pm.map _)) (nN _) ?_
 rw [List.pairwise_map]
 exact so.imp λh=>by lia
def Lt (h:AH) (v:AV) (ts:List Nat):Prop:=v = .fl (aH ts)\/∃ n,v = .ref n/\h[n]? = some (.lst (aH ts))
theorem Lt.keep {h h':AH} {v:AV} {ts:List Nat} (L:Lt h v ts) (k:∀ i,i<h.length->h'[i]? = h[i]?):Lt h' v ts:=by
 rcases L with rfl | ⟨n,rfl,e⟩
 ·exact .inl rfl
 ·exact .inr ⟨n,rfl,(k n (dO e)).trans e⟩
theorem Lt.app {h:AH} {v:AV} {ts:List Nat} (L:Lt h v ts) (r:AH):Lt (h++r) v ts:=L.keep λi hi=>List.getElem?_append_left hi
theorem Lt.it {h:AH} {v:AV} {ts:List Nat} (L:Lt h v ts) {a:SE} {en:En} (e:a en h = .ok v h):∃ w,aO a en h = .ok (aH ts,w) h/\cS w (aH ts) h=true:=by
 rcases L with rfl | ⟨n,rfl,e2⟩
 ·exact ⟨none,by simp only [aO,e,Out.bind],rfl⟩
 ·exact ⟨some n,by simp only [aO,e,Out.bind,e2],by simp [cS,e2]⟩
theorem mD {h:AH} {p:Nat} {ps:List Pc} {ts:List Nat} {v:AV} (S:ShelfAt h p ps) (g:Good ps) (L:Lt h v ts) (ht:∀ n∈ts,n<=ps.length) (lt:ts.length<=1000000) (hz:ps.length<=1000000) (hs:(ay ps ts ps.length).length<64) :
  ∃ r,cW [.ref p,v] h = .ok (.fl (aH (ay ps ts ps.length))) (h++r):=by
 have S1:=S.app [.dct false []]
 have L1:=L.app [.dct false []]
 obtain ⟨w,i1,i2⟩:=L1.it (a:=aa 1) (en:=[some (.ref p),some v,some (.ref h.length),none,none]) rfl
 have cp:=lT (js:=[]) (en:=[some (.ref p),some v,some (.ref h.length),none,none]) (w:=w) (all:=aH ts) (c:=aS (ag bj (aa 0) (ae (.int 0)))) (e:=aa 0) (g:=λn:Nat=>AV.int n) (f:=λn:Nat=>AV.int n) (p:=λn=>!decide (n=0)) i2 ts []
  (λn _=>by simp) (λn _ _=>rfl) (by simp only [List.length_nil,Nat.zero_add];exact Nat.le_trans lt (by decide))
 rw [List.nil_append] at cp
 have cm:gS [] (aO (aa 1)) (aS (ag bj (aa 0) (ae (.int 0)))) (aa 0) [some (.ref p),some v,some (.ref h.length),none,none] (h++[.dct false []]) = .ok (.ref (h.length+1)) (hR h [] (ts.filter λn=>!decide (n=0))):=by
  unfold gS
  rw [i1]
  dsimp only
  rw [cp]
  simp
 have d0:Dfs ps ts [] (ts.filter λn=>!decide (n=0)):=by
  refine ⟨List.nodup_nil,λn h=>(nomatch h),λn h=>?_,λn h z=>.inr ?_,λi a b h=>(nomatch h)⟩
  ·have:=List.mem_filter.mp h
   exact .top this.1 (by simpa using this.2)
  ·exact List.mem_filter.mpr ⟨h,by simpa using z⟩
 obtain ⟨D,o4,wl,d⟩:=GN (o1:=some v) S g ht hz (Nat.le_trans (List.length_filter_le ..) lt) d0
 have ld:(D.map λn:Nat=>(n:Int)).length<64:=by
  have:=congrArg List.length (yC g ht d)
  rw [(lI _).length_eq,List.length_map (as:=ay ps ts ps.length)] at this
  lia
 have so:lK [.ref h.length] (hR h D []) = .ok (.fl (aH (ay ps ts ps.length))) (hR h D []):=by
  have k:lJ (.ref h.length) (hR h D [])=some (D.map λn:Nat=>(n:Int)):=by
   unfold lJ
   dsimp only
   rw [GJ]
   dsimp only
   rw [List.map_map]
   exact oM D
  unfold lK
  dsimp only
  rw [k]
  dsimp only
  rw [if_pos ld,yC g ht d,List.map_map]
  rfl
 refine ⟨[.dct false (D.map λn:Nat=>(AV.int n,(λ_:Nat=>AV.bl true) n)),.lst (aH [])],?_⟩
 have sd:gQ false [some (.ref p),some v,none,none,none] h = .ok (.ref h.length) (h++[.dct false []]):=rfl
 replace wl:=tF _ _ _ wl
 simp only [eR] at wl
 unfold cW
 generalize fL (aS (ag bj (aa 3) (aM af))) gc fK=WL at *
 generalize gS [] (aO (aa 1)) (aS (ag bj (aa 0) (ae (.int 0)))) (aa 0)=CM at *
 generalize gQ false=SD at *
 show _=Out.ok _ (hR h D [])
 generalize hR h D []=H3 at *
 generalize hR h [] (ts.filter λn=>!decide (n=0))=H2 at *
 generalize h++[AO.dct false []]=H1 at *
 simp [sd,cm,wl,so,-gQ]
end Sk
namespace Sk
open PySem PySem.Spec L2 Sm
theorem tG {ps:List Pc} {ts:List Nat} {n:Nat}:∀ {N j:Nat},(ay ps ts N)[j]? = some n->∃ k,n=k+1/\k<N/\(ay ps ts N).take j=ay ps ts k/\Rea ps ts (k+1)
 | 0,j,e=>by simp [ay] at e
 | N+1,j,e=>by
  by_cases r:Rea ps ts (N+1)
  ·rw [gJ r] at e ⊢
   by_cases hj:j<(ay ps ts N).length
   ·rw [List.getElem?_append_left hj] at e
    obtain ⟨k,a,b,c,d⟩:=tG e
    exact ⟨k,a,by lia,by rw [List.take_append_of_le_length (by lia)];exact c,d⟩
   ·have:=(List.getElem?_eq_some_iff.mp e).1
    rw [List.length_append,List.length_singleton] at this
    have ej:j=(ay ps ts N).length:=by lia
    subst ej
    simp at e
    subst e
    exact ⟨N,rfl,by lia,by simp,r⟩
  ·rw [ku r] at e ⊢
   obtain ⟨k,a,b,c,d⟩:=tG e
   exact ⟨k,a,by lia,c,d⟩
abbrev kv (ps:List Pc) (ts l:List Nat):List (AV×AV):=(0::l).map λn:Nat=>(AV.int n,(λn:Nat=>AV.int (bS ps ts n:Nat)) n)
theorem tH {hh:AH} {W n:Nat} {ps:List Pc} {ts l:List Nat} (e:hh[W]? = some (.dct false (kv ps ts l))) (hn:n∈0::l):aw (.ref W) (.int n) hh = .ok (.int (bS ps ts n:Nat)) hh:=by
 have v:=tq (g:=λn:Nat=>AV.int (bS ps ts n:Nat)) hn
 have k1:d6 false (.int n)=true:=rfl
 simp only [aw,e,kv] at v ⊢
 simp only [k1,v]
 try rfl
theorem yD {hh:AH} {W:Nat} {k:Nat} {ps:List Pc} {ts:List Nat} (e:hh[W]? = some (.dct false (kv ps ts (ay ps ts k)))) (r:Rea ps ts (k+1)) (hk:k<=1000000) {o i v:SE} {en:En} {h0:AH} (ev:v en h0 = .ok (.int (bS ps ts (k+1):Nat)) hh) (eo:o en hh = .ok (.ref W) hh) (ei:i en hh = .ok (.int ((k+1:Nat):Int)) hh) :
  dF o i v en h0 = .nx en (hh.set W (.dct false (kv ps ts (ay ps ts (k+1))))):=by
 have hl:=tf (ps:=ps) (ts:=ts) k
 have z:(kv ps ts (ay ps ts k)).length<sizeLine:=by
  rw [List.length_map,List.length_cons]
  exact Nat.lt_of_le_of_lt (m:=1000001) (by lia) (by decide)
 have nm:(k+1)∉0::ay ps ts k:=λh=>by
  rcases List.mem_cons.mp h with h | h
  ·lia
  ·have:=(zay.mp h).2.1;lia
 have pn:=yz (g:=λn:Nat=>AV.int (bS ps ts n:Nat)) nm
 have k1:d6 false (.int ((k+1:Nat):Int))=true:=rfl
 simp only [dF,ev,eo,ei,Out.go,e,z,k1,and_self,if_true]
 rw [pn,gJ r]
 rfl
structure Sw (h hh:AH) (ps:List Pc) (ts:List Nat) (P k:Nat):Prop where
 sh:ShelfAt hh P (new ps ts k)
 dc:hh[P+9]? = some (.dct false (kv ps ts (ay ps ts k)))
 fr:∀ i,i<P->hh[i]? = h[i]?
theorem GO {h hh:AH} {p P k:Nat} {ps:List Pc} {ts:List Nat} {o1 o4 o5:Option AV} (S:ShelfAt h p ps) (g:Good ps) (ht:∀ n∈ts,n<=ps.length) (hz:ps.length<=1000000) (hp:p+8<P) (w:Sw h hh ps ts P k) (hk:k<ps.length) (r:Rea ps ts (k+1)) :
  ∃ h2 q5,gE [some (.ref p),o1,some (.ref P),some (.ref (P+9)),some (.int ((k+1:Nat):Int)),o5] hh = .nx [some (.ref p),o1,some (.ref P),some (.ref (P+9)),some (.int ((k+1:Nat):Int)),q5] h2/\Sw h h2 ps ts P (k+1)/\h2.length=hh.length:=by
 have S1:ShelfAt hh p ps:=S.keep λi _ b=>w.fr i (by lia)
 have e:ps[k]? = some (ps[k]'hk):=by simp
 generalize ps[k]'hk=q at e
 have e':ps[k+1-1]? = some q:=e
 have fp:=oy S1 (n:=k+1) (by lia) e'
 obtain ⟨G,L⟩:=tm g ht k (by lia)
 obtain ⟨G',_⟩:=tm g ht (k+1) hk
 have nf:=yy g ht r e
 have ny:=yx r e
 have ln:(new ps ts k).length+1=bS ps ts (k+1):=by rw [tj];unfold bS;rw [gJ r,List.length_append];rfl
 have lz:(new ps ts k).length<16000000:=by rw [tj];have:=tf (ps:=ps) (ts:=ts) k;unfold bS;lia
 have D9:(dN hh P (new ps ts (k+1)))[P+9]? = some (.dct false (kv ps ts (ay ps ts k))):=by rw [og (.inr (by lia))];exact w.dc
 have fin:Sw h ((dN hh P (new ps ts (k+1))).set (P+9) (.dct false (kv ps ts (ay ps ts (k+1))))) ps ts P (k+1):=by
  refine ⟨(lX w.sh).keep λi _ b=>List.getElem?_set_ne (by lia),List.getElem?_set_self (dO D9),λi hi=>?_⟩
  rw [List.getElem?_set_ne (by lia),og (.inl (by lia))]
  exact w.fr i hi
 have fl:((dN hh P (new ps ts (k+1))).set (P+9) (.dct false (kv ps ts (ay ps ts (k+1))))).length=hh.length:=by rw [List.length_set,rY]
 have ob:=w.sh.ob
 cases q with
 | leaf x =>
  have hx:fo x=true:=g.get e
  have lf:=xW w.sh hx (Nat.le_trans (ot hx).2.1 (by decide)) nf lz
  rw [ln,show new ps ts k++[.leaf x]=new ps ts (k+1) from ny.symm] at lf
  have fp':cU [.ref p,.int ((k+1:Nat):Int)] hh = .ok (.tup [.str "leaf",.str x]) hh:=fp
  have pt:=yD (en:=[some (.ref p),o1,some (.ref P),some (.ref (P+9)),some (.int ((k+1:Nat):Int)),some (.tup [.str "leaf",.str x])]) (h0:=hh) (o:=aa 3) (i:=aa 4) (v:=aJ 0 dR (aa 2) (ai (ag aw (aa 5) (ae (.int 1))) af)) D9 r (by lia) (by simp [ob,sI,lf,-aw]) rfl rfl
  refine ⟨_,some (.tup [.str "leaf",.str x]),?_,fin,fl⟩
  unfold gE
  generalize dF (aa 3) (aa 4) (aJ 0 dR (aa 2) (ai (ag aw (aa 5) (ae (.int 1))) af))=SX at *
  generalize (dN hh P (new ps ts (k+1))).set (P+9) (.dct false (kv ps ts (ay ps ts (k+1))))=HF at *
  generalize ((k+1:Nat):Int)=K at *
  simp [S1.ob,fp',oC,oE,pt,-aw,-aY,-dF]
 | fork a b =>
  obtain ⟨a1,a2,b1,b2⟩:=kr g e
  have xa:=tH w.dc (n:=a) (List.mem_cons_of_mem _ (zay.mpr ⟨a1,a2,.one r e⟩))
  have xb:=tH w.dc (n:=b) (List.mem_cons_of_mem _ (zay.mpr ⟨b1,b2,.two r e⟩))
  have F:ForkOk (new ps ts k) (bS ps ts a) (bS ps ts b):=by
   have:=G'.get (i:=(new ps ts k).length) (q:=.fork (bS ps ts a) (bS ps ts b)) (by rw [ny];simp [gp])
   rw [ny,List.take_left] at this
   exact this
  have lf:=xY w.sh F nf lz
  rw [ln,show new ps ts k++[.fork (bS ps ts a) (bS ps ts b)]=new ps ts (k+1) from ny.symm] at lf
  have fp':cU [.ref p,.int ((k+1:Nat):Int)] hh = .ok (.tup [.str "fork",.int a,.int b]) hh:=fp
  have pt:=yD (en:=[some (.ref p),o1,some (.ref P),some (.ref (P+9)),some (.int ((k+1:Nat):Int)),some (.tup [.str "fork",.int a,.int b])]) (h0:=hh) (o:=aa 3) (i:=aa 4) (v:=aJ 0 aN (aa 2) (ai (ag aw (aa 3) (ag aw (aa 5) (ae (.int 1)))) (ai (ag aw (aa 3) (ag aw (aa 5) (ae (.int 2)))) af))) D9 r (by lia) (by simp [ob,i1,i2,xa,xb,lf,-aw]) rfl rfl
  refine ⟨_,some (.tup [.str "fork",.int a,.int b]),?_,fin,fl⟩
  unfold gE
  generalize dF (aa 3) (aa 4) (aJ 0 dR (aa 2) (ai (ag aw (aa 5) (ae (.int 1))) af))=SY at *
  generalize dF (aa 3) (aa 4) (aJ 0 aN (aa 2) (ai (ag aw (aa 3) (ag aw (aa 5) (ae (.int 1)))) (ai (ag aw (aa 3) (ag aw (aa 5) (ae (.int 2)))) af)))=SX at *
  generalize (dN hh P (new ps ts (k+1))).set (P+9) (.dct false (kv ps ts (ay ps ts (k+1))))=HF at *
  generalize ((k+1:Nat):Int)=K at *
  simp [S1.ob,fp',mm,mn,pt,-aw,-aY,-dF]
end Sk
namespace Sk
open PySem PySem.Spec L2 Sm
structure Ks (h h':AH):Prop where
 fr:∀ i,i<h.length->h'[i]? = h[i]?
 le:h.length<=h'.length
theorem Ks.trans {h h' h'':AH} (a:Ks h h') (b:Ks h' h''):Ks h h'' := ⟨λi hi=>(b.fr i (Nat.lt_of_lt_of_le hi a.le)).trans (a.fr i hi),Nat.le_trans a.le b.le⟩
theorem Ks.app {h:AH} (r:AH):Ks h (h++r):=⟨λi hi=>List.getElem?_append_left hi,by simp⟩
theorem Ks.sh {h h':AH} {p:Nat} {ps:List Pc} (k:Ks h h') (S:ShelfAt h p ps):ShelfAt h' p ps:=S.keep λi _ b=>k.fr i (by have:=dO S.h8;lia)
theorem Sw.cast {h hh:AH} {ps:List Pc} {ts:List Nat} {P k k':Nat} (w:Sw h hh ps ts P k) (e:ay ps ts k=ay ps ts k'):Sw h hh ps ts P k' := by
 obtain ⟨a,b,c⟩:=w
 unfold new at a
 rw [e] at a b
 exact ⟨a,b,c⟩
theorem yE (en:En) (h:AH):kg (ae (.int 0)) (ae (.int 0)) en h = .ok (.ref h.length) (h++[.dct false [(.int 0,.int 0)]]):=by
 have e:(h++[AO.dct false []])[h.length]? = some (.dct false []):=by simp
 simp only [kg,ae,Out.bind,rp,e]
 simp
theorem GP {ps:List Pc} {ts:List Nat} (g:Good ps) (ht:∀ n∈ts,n<=ps.length) {n:Nat} (h:n∈ts):n∈0::ay ps ts ps.length:=by
 by_cases z:n=0
 ·rw [z];exact List.mem_cons_self ..
 ·exact List.mem_cons_of_mem _ (zay.mpr ⟨by lia,ht n h,.top h z⟩)
theorem GQ {h h0:AH} {p P:Nat} {ps:List Pc} {ts:List Nat} {o1:Option AV} (S:ShelfAt h p ps) (g:Good ps) (ht:∀ n∈ts,n<=ps.length) (hz:ps.length<=1000000) (hp:p+8<P) (w:Sw h h0 ps ts P 0) :
  ∃ o4 o5 h2,du none (aH (ay ps ts ps.length)) (.nm 4) gE (aH (ay ps ts ps.length)) [some (.ref p),o1,some (.ref P),some (.ref (P+9)),none,none] h0 = .nx [some (.ref p),o1,some (.ref P),some (.ref (P+9)),o4,o5] h2/\Sw h h2 ps ts P ps.length/\h2.length=h0.length:=by
 obtain ⟨e',h',r1,o4,o5,k,rfl,w',tk,ln⟩:=iG (w:=none) (all:=aH (ay ps ts ps.length)) (t:=.nm 4) (b:=gE) (xs:=aH (ay ps ts ps.length)) (en:=[some (.ref p),o1,some (.ref P),some (.ref (P+9)),none,none]) (h:=h0)
  (λj en hh=>∃ o4 o5 k,en=[some (.ref p),o1,some (.ref P),some (.ref (P+9)),o4,o5]/\Sw h hh ps ts P k/\(ay ps ts ps.length).take j=ay ps ts k/\hh.length=h0.length)
  ⟨none,none,0,rfl,w,by simp [ay],rfl⟩ (λ_ _ _ _=>rfl) (by
   rintro j x en hh hx ⟨o4,o5,k,rfl,w,tk,ln⟩
   rw [List.getElem?_map] at hx
   obtain ⟨n,en,rfl⟩:=Option.map_eq_some_iff.mp hx
   obtain ⟨k',rfl,hk,tk',r⟩:=tG en
   have w2:=w.cast (tk.symm.trans tk')
   obtain ⟨h2,q5,b,w3,l3⟩:=GO (o1:=o1) (o4:=o4) (o5:=o5) S g ht hz hp w2 hk r
   show thn (gE [some (.ref p),o1,some (.ref P),some (.ref (P+9)),some (.int ((k'+1:Nat):Int)),o5] hh) _
   rw [b]
   refine ⟨_,_,k'+1,rfl,w3,?_,l3.trans ln⟩
   rw [List.take_add_one,en,tk',gJ r]
   rfl)
 rw [List.length_map,List.take_length] at tk
 exact ⟨o4,o5,h',r1,w'.cast tk.symm,ln⟩
theorem GR {h:AH} {p:Nat} {ps:List Pc} {ts:List Nat} {v:AV} (S:ShelfAt h p ps) (g:Good ps) (L:Lt h v ts) (ht:∀ n∈ts,n<=ps.length) (lt:ts.length<=1000000) (hz:ps.length<=1000000) (hs:(ay ps ts ps.length).length<64) :
  ∃ (w:AV) (h':AH),jX [.ref p,v] h = .ok w h'/\Ks h h' := by
 have p8:p+8<h.length:=dO S.h8
 have mk:=se [some (.ref p),some v,none,none,none,none] h
 have ls:(h++cG h.length).length=h.length+9:=by simp [cG]
 have di:=yE [some (.ref p),some v,some (.ref h.length),none,none,none] (h++cG h.length)
 rw [ls] at di
 have fr0:∀ r:AH,∀ i,i<h.length->((h++cG h.length++[AO.dct false [(.int 0,.int 0)]])++r)[i]? = h[i]? := λr i hi=>by
  rw [List.append_assoc,List.append_assoc,List.getElem?_append_left hi]
 have S0:ShelfAt (h++cG h.length++[AO.dct false [(.int 0,.int 0)]]) p ps:=(S.app _).app _
 have L0:Lt (h++cG h.length++[AO.dct false [(.int 0,.int 0)]]) v ts:=(L.app _).app _
 obtain ⟨r,fr⟩:=mD S0 g L0 ht lt hz hs
 have w0:Sw h ((h++cG h.length++[AO.dct false [(.int 0,.int 0)]])++r) ps ts h.length 0:=by
  refine ⟨?_,?_,fr0 r⟩
  ·rw [List.append_assoc,List.append_assoc];exact x4 h _
  ·rw [List.getElem?_append_left (by rw [List.length_append,ls];simp),List.getElem?_append_right (by lia),ls,Nat.sub_self]
   rfl
 have dl:(h++cG h.length++[AO.dct false [(.int 0,.int 0)]]++r).length=h.length+10+r.length:=by rw [List.length_append,List.length_append,ls];rfl
 obtain ⟨o4,o5,h2,lp,w2,l2⟩:=GQ (o1:=some v) S g ht hz p8 w0
 generalize hH1:h++cG h.length=H1 at *
 generalize hH2:H1++[AO.dct false [(.int 0,.int 0)]]=H2 at *
 have f1:iA (aD cW (ai (aa 0) (ai (aa 1) af))) (.nm 4) gE [some (.ref p),some v,some (.ref h.length),some (.ref (h.length+9)),none,none] H2 = .nx [some (.ref p),some v,some (.ref h.length),some (.ref (h.length+9)),o4,o5] h2:=by
  have e:aD cW (ai (aa 0) (ai (aa 1) af)) [some (.ref p),some v,some (.ref h.length),some (.ref (h.length+9)),none,none] H2 = .ok (.fl (aH (ay ps ts ps.length))) (H2++r):=by simp [fr]
  unfold iA
  rw [e]
  exact tD _ _ _ lp
 have L2:Lt h2 v ts:=L.keep w2.fr
 obtain ⟨wv,i1,i2⟩:=L2.it (a:=aa 1) (en:=[some (.ref p),some v,some (.ref h.length),some (.ref (h.length+9)),o4,o5]) rfl
 have cp:=rT (js:=[3]) (en:=[some (.ref p),some v,some (.ref h.length),some (.ref (h.length+9)),o4,o5]) (w:=wv) (all:=aH ts) (e:=ag aw (aa 1) (aa 0)) (g:=λn:Nat=>AV.int n) (f:=λn:Nat=>AV.int (bS ps ts n:Nat)) i2 ts []
  (λn hn=>by
   have:=tH w2.dc (GP g ht hn)
   simp [this,-aw]) (by simp only [List.length_nil,Nat.zero_add];exact Nat.le_trans lt (by decide))
 rw [List.nil_append] at cp
 have cm:c3 [3] (aO (aa 1)) bq (ag aw (aa 1) (aa 0)) [some (.ref p),some v,some (.ref h.length),some (.ref (h.length+9)),o4,o5] h2 = .ok (.fl (ts.map λn:Nat=>AV.int (bS ps ts n:Nat))) h2:=by
  unfold c3
  rw [i1]
  dsimp only
  rw [cp]
 refine ⟨.tup [.ref h.length,.fl (ts.map λn:Nat=>AV.int (bS ps ts n:Nat))],h2,?_,w2.fr,by lia⟩
 unfold jX
 generalize iA (aD cW (ai (aa 0) (ai (aa 1) af))) (.nm 4) gE=FL at *
 generalize c3 [3] (aO (aa 1)) bq (ag aw (aa 1) (aa 0))=CM at *
 generalize kg (ae (.int 0)) (ae (.int 0))=DI at *
 generalize jA 0 8 i3 af=MK at *
 generalize (ts.map λn:Nat=>AV.int (bS ps ts n:Nat))=RR at *
 simp [mk,di,f1,cm]
end Sk
namespace Sk
open PySem PySem.Spec L2 Sm
theorem GS {h:AH} {p:Nat} {ps:List Pc} {z:Int} (S:ShelfAt h p ps) (zo : ¬ (1<=z/\z<=ps.length)):jW [.ref p,.int z] h = .ex c5 h:=by
 have c:=Fp S zo
 have fp:cU [.ref p,.int z] h = .ex c5 h:=by simp [cU,S.ob,c]
 simp [jW,S.ob,fp]
theorem yF {g:Nat->AV} {z:Int}:∀ {D:List Nat},(∀ n∈D,(n:Int)≠z)->aP (D.map λm:Nat=>(AV.int m,g m)) (.int z)=none
 | [],h=>rfl
 | m::D,h=>by
  have q:=h m (List.mem_cons_self ..)
  have:=yF (g:=g) (z:=z) (D:=D) λn hn=>h n (List.mem_cons_of_mem _ hn)
  unfold aP at this ⊢
  rw [List.map_cons,List.find?_cons_of_neg (by simpa using q)]
  exact this
theorem GT {h:AH} {W:Nat} {ns:List Int} (e:h[W]? = some (.lst (ns.map AV.int))) (n0:ns≠[]):bj (.ref W) (.fl []) h = .ok (.bl true) h:=by
 have d1:bT 8 h (.ref W)=some (.list (ns.map PyData.int)):=by
  show (match h[W]? with | some (.lst xs)=>(bQ (bT 7 h) xs).map PyData.list | _=>none)=_
  rw [e]
  show (bQ (bT 7 h) (ns.map AV.int)).map PyData.list=_
  rw [oH];rfl
 have d2:bT 8 h (.fl [])=some (.list (([]:List Int).map PyData.int)):=rfl
 have q:gy (.ref W) (.fl []) h=some false:=by
  show (match bT 8 h (.ref W),bT 8 h (.fl []) with | some d,some e=>some (PyData.eqv d e) | _,_=>none)=_
  rw [d1,d2]
  show some (PyData.eqv (.list _) (.list _))=_
  rw [PyData.eqv,oI]
  congr 1
  exact decide_eq_false n0
 show (match gy (.ref W) (.fl []) h with | some b=>Out.ok (AV.bl (!b)) h | none=>Out.bad)=_
 rw [q];rfl
theorem yG (ns:List Int) (h:AH):bj (.fl (ns.map AV.int)) (.fl (ns.map AV.int)) h = .ok (.bl false) h:=by
 have d1:bT 8 h (.fl (ns.map AV.int))=some (.list (ns.map PyData.int)):=by
  show (bQ (bT 7 h) (ns.map AV.int)).map PyData.list=_
  rw [oH];rfl
 have q:gy (.fl (ns.map AV.int)) (.fl (ns.map AV.int)) h=some true:=by
  show (match bT 8 h (.fl (ns.map AV.int)),bT 8 h (.fl (ns.map AV.int)) with | some d,some e=>some (PyData.eqv d e) | _,_=>none)=_
  rw [d1]
  show some (PyData.eqv (.list _) (.list _))=_
  rw [PyData.eqv,oI]
  congr 1
  exact decide_eq_true rfl
 show (match gy (.fl (ns.map AV.int)) (.fl (ns.map AV.int)) h with | some b=>Out.ok (AV.bl (!b)) h | none=>Out.bad)=_
 rw [q];rfl
theorem GU {h:AH} {p:Nat} {ps:List Pc} {z:Int} {D:List Nat} {Y:List AV} {o1 o4:Option AV} (S:ShelfAt h p ps) (zo : ¬ (1<=z/\z<=ps.length)) (hD:∀ n∈D,1<=n/\n<=ps.length) (lD:D.length<=1000000) :
  ∃ en' h',gc (eR p o1 h o4) (hY h D (Y++[.int z]) []) = .ex c5 en' h'/\Ks h h' := by
 have po:dh (.ref (h.length+1)) [] (hY h D (Y++[.int z]) []) = .ok (.int z) (hY h D Y []):=by
  have:=yp (h:=hY h D (Y++[.int z]) []) (W:=h.length+1) (Z:=Y) (v:=.int z) (by rw [iK];simp)
  rw [this,show Y=Y++aH [] by simp,tB]
  simp
 have il:cn (.ref (h.length+1)) (hY h D (Y++[.int z]) [])=true:=by simp only [cn,dC,iK];rfl
 have vn:=yF (g:=λ_=>AV.bl true) (z:=z) (D:=D) λn hn e=>zo (by have:=hD n hn;lia)
 have ni:fG (.int z) (.ref h.length) (hY h D Y []) = .ok (.bl true) (hY h D Y []):=by
  simp only [fG,jB,kx,vn,d6,keyOf?,Option.isSome];rfl
 have st:dF (aa 2) (aa 4) (ae (.bl true)) [some (.ref p),o1,some (.ref h.length),some (.ref (h.length+1)),some (.int z)] (hY h D Y []) = .nx [some (.ref p),o1,some (.ref h.length),some (.ref (h.length+1)),some (.int z)] ((hY h D Y []).set h.length (.dct false (cN (D.map λn:Nat=>(AV.int n,(λ_:Nat=>AV.bl true) n)) (.int z) (.bl true)))):=by
  have q:D.length<sizeLine:=Nat.lt_of_le_of_lt lD (by decide)
  have k1:d6 false (.int z)=true:=rfl
  simp [kx,q,-hY]
 have K:Ks h ((hY h D Y []).set h.length (.dct false (cN (D.map λn:Nat=>(AV.int n,(λ_:Nat=>AV.bl true) n)) (.int z) (.bl true)))) :=
  ⟨λi hi=>by rw [List.getElem?_set_ne (by lia)];exact List.getElem?_append_left hi,by rw [List.length_set];simp [hY]⟩
 have il2:cn (.ref (h.length+1)) ((hY h D Y []).set h.length (.dct false (cN (D.map λn:Nat=>(AV.int n,(λ_:Nat=>AV.bl true) n)) (.int z) (.bl true))))=true:=by
  simp only [cn,dC]
  rw [List.getElem?_set_ne (by lia),iK]
  rfl
 have fp:=GS (K.sh S) zo
 generalize (hY h D Y []).set h.length (.dct false (cN (D.map λn:Nat=>(AV.int n,(λ_:Nat=>AV.bl true) n)) (.int z) (.bl true)))=H2 at *
 refine ⟨[some (.ref p),o1,some (.ref h.length),some (.ref (h.length+1)),some (.int z)],H2,?_,K⟩
 simp only [eR] at *
 unfold gc
 generalize dF (aa 2) (aa 4) (ae (.bl true))=SX at *
 generalize hY h D (Y++[.int z]) []=H0 at *
 generalize hY h D Y []=H1 at *
 simp [il,po,ni,st,fp,il2,-cn,-dh,-fG,-jS]
theorem tJ {h:AH} {p:Nat} {ps:List Pc} {ts:List Nat} {z:Int} {Y:List Int} {o1:Option AV} (S:ShelfAt h p ps) (g:Good ps) (ht:∀ n∈ts,n<=ps.length) (hz:ps.length<=1000000) (lY:Y.length<=900) (zo : ¬ (1<=z/\z<=ps.length)) :
  ∀ (fuel m:Nat) (D A:List Nat) (o4:Option AV),Dfs ps ts D A->3*ps.length+A.length<=m+3*D.length->m<=4000000->m<fuel ->
  ∃ en' h',fL (aS (ag bj (aa 3) (aM af))) gc fuel (eR p o1 h o4) (hY h D (Y.map AV.int++[.int z]) A) = .ex c5 en' h'/\Ks h h'
 | 0,m,D,A,o4,d,hm,hm2,hf=>absurd hf (Nat.not_lt_zero _)
 | fuel+1,m,D,A,o4,d,hm,hm2,hf=>by
  have bD:∀ n∈D,1<=n/\n<=ps.length:=λn hn=>(d.rd n hn).bd g ht
  have lD:=fR d.nd bD
  have e1:(hY h D (Y.map AV.int++[.int z]) A)[h.length+1]? = some (.lst ((Y++[z]++A.map λn:Nat=>(n:Int)).map AV.int)):=by
   rw [iK];simp
  have ne:=GT e1 (by simp)
  have c:(aS (ag bj (aa 3) (aM af))) (eR p o1 h o4) (hY h D (Y.map AV.int++[.int z]) A) = .ok true (hY h D (Y.map AV.int++[.int z]) A):=by
   simp only [eR]
   generalize hY h D (Y.map AV.int++[.int z]) A=H at *
   simp [ne,-bj]
  unfold fL
  rw [c]
  dsimp only
  by_cases q:A=[]
  ·subst q
   obtain ⟨en',h',t,K⟩:=GU (Y:=Y.map AV.int) (o1:=o1) (o4:=o4) S zo bD (by lia)
   rw [t]
   exact ⟨en',h',rfl,K⟩
  ·obtain ⟨B,n,rfl⟩:=yB q
   have bn:=(d.ra n (by simp)).bd g ht
   have e:ps[n-1]? = some (ps[n-1]'(by lia)):=by simp
   generalize ps[n-1]'(by lia)=pc at e
   have lB:(B++[n]).length=B.length+1:=by simp
   have t:=yA (D:=D) (A:=B) (Y:=Y.map AV.int++[.int z]) (o1:=o1) (o4:=o4) S bn.1 e (by lia) (by lia) (by simp;lia)
   rw [t]
   by_cases hn:n∈D
   ·rw [if_pos hn]
    exact tJ S g ht hz lY zo fuel (m-1) D B _ (d.skip hn) (by lia) (by lia) (by lia)
   ·rw [if_neg hn]
    have d2:=d.step hn bn.1 e
    have lp:(parts pc).length<=2:=by cases pc<;>simp [parts]
    have l1:(D++[n]).length=D.length+1:=by simp
    have l2:(B++parts pc).length=B.length+(parts pc).length:=by simp
    have:=fR d2.nd λn hn=>(d2.rd n hn).bd g ht
    exact tJ S g ht hz lY zo fuel (m-1) _ _ _ d2 (by lia) (by lia) (by lia)
abbrev cy (F:List Nat) (z:Int) (B:List Nat):List AV:=aH F++[.int z]++aH B
theorem yH (F:List Nat) (z:Int) (B:List Nat):cy F z B=((F.map λn:Nat=>(n:Int))++[z]++B.map λn:Nat=>(n:Int)).map AV.int:=by
 rw [List.map_append,List.map_append,List.map_map,List.map_map]
 rfl
theorem oN {h:AH} {p:Nat} {ps:List Pc} {F B:List Nat} {z:Int} (S:ShelfAt h p ps) (g:Good ps) (hB:∀ n∈B,n<=ps.length) (lF:F.length+B.length<=900) (hz:ps.length<=1000000) (zo : ¬ (0<=z/\z<=ps.length)) :
  ∃ h',cW [.ref p,.fl (cy F z B)] h = .ex c5 h'/\Ks h h' := by
 have cp:=lT (js:=[]) (en:=[some (.ref p),some (.fl (cy F z B)),some (.ref h.length),none,none]) (w:=none) (all:=cy F z B) (c:=aS (ag bj (aa 0) (ae (.int 0)))) (e:=aa 0) (g:=AV.int) (f:=AV.int) (p:=λn:Int=>!decide (n=0)) (h:=h++[.dct false []]) rfl ((F.map λn:Nat=>(n:Int))++[z]++B.map λn:Nat=>(n:Int)) []
  (λn _=>by simp) (λn _ _=>rfl) (by simp only [List.length_nil,Nat.zero_add,List.length_append,List.length_map,List.length_singleton];exact Nat.le_trans (m:=901) (by lia) (by decide))
 obtain ⟨Y,eY⟩:∃ Y,Y=(F.map λn:Nat=>(n:Int)).filter λn=>!decide (n=0):=⟨_,rfl⟩
 have lY:Y.length<=900:=by
  have:=List.length_filter_le (λn:Int=>!decide (n=0)) (F.map λn:Nat=>(n:Int))
  rw [<- eY,List.length_map] at this
  lia
 have fl:((F.map λn:Nat=>(n:Int))++[z]++B.map λn:Nat=>(n:Int)).filter (λn=>!decide (n=0))=Y++[z]++(B.filter λn=>!decide (n=0)).map λn:Nat=>(n:Int):=by
  have z0 : ¬ z=0:=λe=>zo (by lia)
  have fb:(B.map λn:Nat=>(n:Int)).filter (λn=>!decide (n=0))=(B.filter λn=>!decide (n=0)).map λn:Nat=>(n:Int):=by
   rw [List.filter_map]
   congr 2
   funext n
   simp
  rw [List.filter_append,List.filter_append,eY,List.filter_cons_of_pos (by simpa using z0),List.filter_nil,fb]
 rw [List.nil_append,fl,<- yH] at cp
 have cm:gS [] (aO (aa 1)) (aS (ag bj (aa 0) (ae (.int 0)))) (aa 0) [some (.ref p),some (.fl (cy F z B)),some (.ref h.length),none,none] (h++[.dct false []]) = .ok (.ref (h.length+1)) (hY h [] (Y.map AV.int++[.int z]) (B.filter λn=>!decide (n=0))):=by
  have i1:aO (aa 1) [some (.ref p),some (.fl (cy F z B)),some (.ref h.length),none,none] (h++[.dct false []]) = .ok (cy F z B,none) (h++[.dct false []]):=rfl
  unfold gS
  rw [i1]
  dsimp only
  rw [cp]
  simp
 have d0:Dfs ps B [] (B.filter λn=>!decide (n=0)):=by
  refine ⟨List.nodup_nil,λn h=>(nomatch h),λn h=>?_,λn h z=>.inr ?_,λi a b h=>(nomatch h)⟩
  ·have:=List.mem_filter.mp h
   exact .top this.1 (by simpa using this.2)
  ·exact List.mem_filter.mpr ⟨h,by simpa using z⟩
 have lf:=List.length_filter_le (λn:Nat=>!decide (n=0)) B
 obtain ⟨en',h',wl,K⟩:=tJ (z:=z) (Y:=Y) (o1:=some (.fl (cy F z B))) S g hB hz lY (λq=>zo (by lia)) fK (3*ps.length+(B.filter λn=>!decide (n=0)).length) [] _ none d0 (by simp) (by lia) (Nat.lt_of_le_of_lt (m:=4000000) (by lia) (by decide))
 refine ⟨h',?_,K⟩
 have sd:gQ false [some (.ref p),some (.fl (cy F z B)),none,none,none] h = .ok (.ref h.length) (h++[.dct false []]):=rfl
 simp only [eR] at wl
 unfold cW
 generalize fL (aS (ag bj (aa 3) (aM af))) gc fK=WL at *
 generalize gS [] (aO (aa 1)) (aS (ag bj (aa 0) (ae (.int 0)))) (aa 0)=CM at *
 generalize gQ false=SD at *
 generalize hY h [] (Y.map AV.int++[.int z]) (B.filter λn=>!decide (n=0))=H2 at *
 generalize h++[AO.dct false []]=H1 at *
 generalize cy F z B=V at *
 simp [sd,cm,wl,-gQ]
theorem GV {h:AH} {p:Nat} {ps:List Pc} {F B:List Nat} {z:Int} (S:ShelfAt h p ps) (g:Good ps) (hB:∀ n∈B,n<=ps.length) (lF:F.length+B.length<=900) (hz:ps.length<=1000000) (zo : ¬ (0<=z/\z<=ps.length)) :
  ∃ h',jX [.ref p,.fl (cy F z B)] h = .ex c5 h'/\Ks h h' := by
 have mk:=se [some (.ref p),some (.fl (cy F z B)),none,none,none,none] h
 have ls:(h++cG h.length).length=h.length+9:=by simp [cG]
 have di:=yE [some (.ref p),some (.fl (cy F z B)),some (.ref h.length),none,none,none] (h++cG h.length)
 rw [ls] at di
 have S0:ShelfAt (h++cG h.length++[AO.dct false [(.int 0,.int 0)]]) p ps:=(S.app _).app _
 have K0:Ks h (h++cG h.length++[AO.dct false [(.int 0,.int 0)]]):=(Ks.app _).trans (Ks.app _)
 obtain ⟨h',r,K⟩:=oN S0 g hB lF hz zo
 refine ⟨h',?_,K0.trans K⟩
 generalize h++cG h.length++[AO.dct false [(.int 0,.int 0)]]=H2 at *
 generalize h++cG h.length=H1 at *
 generalize cy F z B=V at *
 have fx:iA (aD cW (ai (aa 0) (ai (aa 1) af))) (.nm 4) gE [some (.ref p),some (.fl V),some (.ref h.length),some (.ref (h.length+9)),none,none] H2 = .ex c5 [some (.ref p),some (.fl V),some (.ref h.length),some (.ref (h.length+9)),none,none] h' := by
  have e:aD cW (ai (aa 0) (ai (aa 1) af)) [some (.ref p),some (.fl V),some (.ref h.length),some (.ref (h.length+9)),none,none] H2 = .ex c5 h' := by simp [r]
  unfold iA
  rw [e]
 unfold jX
 generalize iA (aD cW (ai (aa 0) (ai (aa 1) af))) (.nm 4) gE=FL at *
 generalize kg (ae (.int 0)) (ae (.int 0))=DI at *
 generalize jA 0 8 i3 af=MK at *
 simp [mk,di,fx]
theorem yI {h:AH} {p:Nat} {ps:List Pc} {z y:Int} (S:ShelfAt h p ps) (g:Good ps) (hz:ps.length<=1000000) (zo : ¬ (0<=z/\z<=ps.length)) :
  ∃ h',gZ [.ref p,.int z,.int y] h = .ex c5 h'/\Ks h h' := by
 obtain ⟨h',r,K⟩:=oN (F:=[]) (B:=[]) S g (λn hn=>(nomatch hn)) (by simp) hz zo
 have r':cW [.ref p,.fl [.int z]] h = .ex c5 h' := r
 refine ⟨h',?_,K⟩
 unfold gZ
 generalize cW=G at *
 simp [r',-iZ]
theorem GW {h:AH} {p a:Nat} {ps:List Pc} {z:Int} (S:ShelfAt h p ps) (g:Good ps) (ha:a<=ps.length) (hz:ps.length<=1000000) (hs:(ay ps [a] ps.length).length<64) (zo : ¬ (0<=z/\z<=ps.length)) :
  ∃ h',gZ [.ref p,.int a,.int z] h = .ex c5 h'/\Ks h h' := by
 obtain ⟨r,f1⟩:=mD S g (.inl rfl:Lt h (.fl (aH [a])) [a]) (λn hn=>by rw [List.mem_singleton.mp hn];exact ha) (by simp) hz hs
 have f1':cW [.ref p,.fl [.int a]] h = .ok (.fl (aH (ay ps [a] ps.length))) (h++r):=f1
 have K0:Ks h (h++r):=Ks.app r
 generalize h++r=h1 at *
 obtain ⟨h',r2,K⟩:=oN (F:=[]) (B:=[]) (K0.sh S) g (λn hn=>(nomatch hn)) (by simp) hz zo
 have r2':cW [.ref p,.fl [.int z]] h1 = .ex c5 h' := r2
 refine ⟨h',?_,K0.trans K⟩
 generalize aH (ay ps [a] ps.length)=V at *
 unfold gZ
 generalize cW=G at *
 simp [f1',r2',-iZ]
end Sk
namespace Sk
open PySem PySem.Spec L2 Sm
theorem GY {ps:List Pc} (g:Good ps) {i a b k:Nat} (e:ps[i]? = some (.fork a b)) (r:Rea ps [i+1] k):k=i+1\/Rea ps [a] k\/Rea ps [b] k:=by
 have fl:=kr g e
 induction r with
 | top h z=>exact .inl (List.mem_singleton.mp h)
 | @one j a' b' r' e' ih =>
  rcases ih with q | q | q
  ·have:j=i:=by lia
   subst this
   rw [e] at e'
   cases e'
   exact .inr (.inl (.top (List.mem_singleton.mpr rfl) (by lia)))
  ·exact .inr (.inl (.one q e'))
  ·exact .inr (.inr (.one q e'))
 | @two j a' b' r' e' ih =>
  rcases ih with q | q | q
  ·have:j=i:=by lia
   subst this
   rw [e] at e'
   cases e'
   exact .inr (.inr (.top (List.mem_singleton.mpr rfl) (by lia)))
  ·exact .inr (.inl (.two q e'))
  ·exact .inr (.inr (.two q e'))
theorem GZ {ps:List Pc} {i k:Nat} {y:Str} (e:ps[i]? = some (.leaf y)) (r:Rea ps [i+1] k):k=i+1:=by
 induction r with
 | top h z=>exact List.mem_singleton.mp h
 | @one j a' b' r' e' ih =>
  have:j=i:=by lia
  subst this
  rw [e] at e'
  cases e'
 | @two j a' b' r' e' ih =>
  have:j=i:=by lia
  subst this
  rw [e] at e'
  cases e'
theorem tK {ps:List Pc} (g:Good ps):∀ (d n:Nat) {m f l:Ms} {x:Str},n<=d->Tx ps n m x f l->∃ L:List Nat,(∀ k,Rea ps [n] k->k∈L)/\L.length+1<=2*m.lv
 | 0,n,m,f,l,x,hd,T=>by have:=T.n1;lia
 | d+1,n,m,f,l,x,hd,T=>by
  obtain ⟨i,rfl⟩:∃ i,n=i+1:=⟨n-1,by have:=T.n1;lia⟩
  have hi:i<ps.length:=by have:=T.le;lia
  have e:ps[i]? = some (ps[i]'hi):=by simp
  generalize ps[i]'hi=q at e
  cases q with
  | leaf y =>
   refine ⟨[i+1],λk r=>List.mem_singleton.mpr (GZ e r),?_⟩
   have:=T.ky.lv
   simp
   lia
  | fork a b =>
   have fl:=kr g e
   obtain ⟨ma,xa,fa,la,A⟩:=g.tx a fl.1 (by lia)
   obtain ⟨mb,xb,fb,lb,B⟩:=g.tx b fl.2.2.1 (by lia)
   have F:=jb g e A B
   have em:m=i9 ma mb:=Option.some.inj (T.ms.symm.trans F.ms)
   obtain ⟨La,ha,ca⟩:=tK g d a (by lia) A
   obtain ⟨Lb,hb,cb⟩:=tK g d b (by lia) B
   refine ⟨(i+1)::(La++Lb),λk r=>?_,?_⟩
   ·rcases GY g e r with q | q | q
    ·rw [q];exact .head _
    ·exact .tail _ (List.mem_append_left _ (ha k q))
    ·exact .tail _ (List.mem_append_right _ (hb k q))
   ·rw [em,List.length_cons,List.length_append]
    show _<=2*(ma.lv+mb.lv)
    lia
theorem oO {ps:List Pc} {ts:List Nat} (k:Nat):(ay ps ts k).Nodup:=(oK k).imp λh=>by lia
theorem yJ {U:List Nat} (h:U.Nodup):(U.map λn:Nat=>(n:Int)).Nodup:=by
 unfold List.Nodup at *
 rw [List.pairwise_map]
 exact h.imp λq z=>q (by lia)
theorem iL {ps:List Pc} (g:Good ps) (fw:bZ 30 ps) {n:Nat} (hn:n<=ps.length) (N:Nat):(ay ps [n] N).length<=13:=by
 by_cases z:n=0
 ·subst z
  have no:∀ k,¬Rea ps [0] k:=λk r=>by
   induction r with
   | top h z=>exact z (List.mem_singleton.mp h)
   | one _ _ ih=>exact ih
   | two _ _ ih=>exact ih
  have:ay ps [0] N=[]:=List.eq_nil_iff_forall_not_mem.mpr λk hk=>no k (zay.mp hk).2.2
  rw [this]
  exact Nat.zero_le _
 ·obtain ⟨m,x,f,l,T⟩:=g.tx n (by lia) hn
  obtain ⟨L,hL,cL⟩:=tK g n n (Nat.le_refl _) T
  have lv:m.lv<=7:=by
   have:=fw n m T.ms
   have f1:=T.ky.f1
   obtain ⟨k,c | c⟩:=T.ky.cnt
   ·lia
   ·lia
  have:(ay ps [n] N).length<=L.length:=(oO N).length_le_of_subset λk hk=>hL k (zay.mp hk).2.2
  lia
theorem G0 {ps:List Pc} {ts:List Nat} {n:Nat} (r:Rea ps ts n):∃ t∈ts,Rea ps [t] n:=by
 induction r with
 | top h z=>exact ⟨_,h,.top (List.mem_singleton.mpr rfl) z⟩
 | one _ e ih=>obtain ⟨t,h,r⟩:=ih;exact ⟨t,h,.one r e⟩
 | two _ e ih=>obtain ⟨t,h,r⟩:=ih;exact ⟨t,h,.two r e⟩
theorem yK {ps:List Pc} (g:Good ps) (fw:bZ 30 ps) {a b c d:Nat} (ht:∀ n∈[a,b,c,d],n<=ps.length) (N:Nat):(ay ps [a,b,c,d] N).length<64:=by
 have la:=iL g fw (ht a (by simp)) N
 have lb:=iL g fw (ht b (by simp)) N
 have lc:=iL g fw (ht c (by simp)) N
 have ld:=iL g fw (ht d (by simp)) N
 have:(ay ps [a,b,c,d] N).length<=(ay ps [a] N++ay ps [b] N++ay ps [c] N++ay ps [d] N).length:=(oO N).length_le_of_subset λk hk=>by
  obtain ⟨h1,h2,r⟩:=zay.mp hk
  obtain ⟨t,h,r⟩:=G0 r
  have q:=zay.mpr ⟨h1,h2,r⟩
  simp only [List.mem_cons,List.not_mem_nil,or_false] at h
  rcases h with rfl | rfl | rfl | rfl<;>simp [q]
 simp only [List.length_append] at this
 lia
theorem G5 {h:AH} {p:Nat} {ps:List Pc} {a b:Nat} (S:ShelfAt h p ps) (g:Good ps) (fw:bZ 30 ps) (ha:a<=ps.length) (hb:b<=ps.length) (hz:ps.length<=900000) :
  ∃ (v:AV) (h':AH),gZ [.ref p,.int a,.int b] h = .ok v h'/\Ks h h' := by
 obtain ⟨r1,f1⟩:=mD S g (.inl rfl:Lt h (.fl (aH [a])) [a]) (λn hn=>by rw [List.mem_singleton.mp hn];exact ha) (by simp) (by lia) (Nat.lt_of_le_of_lt (iL g fw ha _) (by decide))
 have la:=iL g fw ha ps.length
 have na:=oO (ps:=ps) (ts:=[a]) ps.length
 generalize ay ps [a] ps.length=U at *
 have f1':cW [.ref p,.fl [.int a]] h = .ok (.fl (aH U)) (h++r1):=f1
 have K1:Ks h (h++r1):=Ks.app r1
 generalize h++r1=h1 at *
 obtain ⟨r2,f2⟩:=mD (K1.sh S) g (.inl rfl:Lt h1 (.fl (aH [b])) [b]) (λn hn=>by rw [List.mem_singleton.mp hn];exact hb) (by simp) (by lia) (Nat.lt_of_le_of_lt (iL g fw hb _) (by decide))
 have lb:=iL g fw hb ps.length
 have nb:=oO (ps:=ps) (ts:=[b]) ps.length
 generalize ay ps [b] ps.length=V at *
 have f2':cW [.ref p,.fl [.int b]] h1 = .ok (.fl (aH V)) (h1++r2):=f2
 have K2:Ks h1 (h1++r2):=Ks.app r2
 generalize h1++r2=h2 at *
 obtain ⟨W,sa⟩:∃ W,iZ 3 4 [some (.ref p),some (.int a),some (.int b),some (.fl (aH U)),some (.fl (aH V))] h2 = .ok (.ref h2.length) (h2++[.lst W]):=by
  have i1:fO [some (AV.ref p),some (.int a),some (.int b),some (.fl (aH U)),some (.fl (aH V))][3]? h2=some (U.map λn:Nat=>(n:Int)):=oM U
  have i2:fO [some (AV.ref p),some (.int a),some (.int b),some (.fl (aH U)),some (.fl (aH V))][4]? h2=some (V.map λn:Nat=>(n:Int)):=oM V
  unfold iZ
  rw [i1,i2]
  dsimp only
  rw [if_pos ⟨yJ na,yJ nb,by rw [List.length_map];lia,by rw [List.length_map];lia⟩]
  exact ⟨_,rfl⟩
 refine ⟨.ref h2.length,h2++[.lst W],?_,(K1.trans K2).trans (Ks.app _)⟩
 generalize h2++[.lst W]=h3 at *
 generalize aH U=VU at *
 generalize aH V=VV at *
 generalize h2.length=R3 at *
 unfold gZ
 generalize cW=G at *
 generalize iZ 3 4=SA at *
 simp [f1',f2',sa]
end Sk
namespace Sk
open PySem PySem.Spec L2 Sm
abbrev WB:SS:=bo (aS (ag aY (aa 1) (ae (.int 0)))) (bR (aD cW (ai (aa 0) (ai (aa 5) af)))) (bo (aS (ag aY (aa 1) (ae (.int 1)))) (bR (aD jX (ai (aa 0) (ai (aa 5) af)))) (bR (aD gZ (ai (aa 0) (ai (ag aw (aa 5) (ae (.int 0))) (ai (ag aw (aa 5) (dZ dD (ae (.int 1)))) af))))))
abbrev eG (p:Nat) (ask:Int) (V:AV) (M:Int):En:=[some (.ref p),some (.int ask),some V,some .non,some (.int M),some V,none]
theorem G6 {h h':AH} {p:Nat} {ask:Int} {zs:List Int} {ps:List Pc} (S:ShelfAt h p ps) (K:Ks h h') (e:WB (eG p ask (.fl (zs.map AV.int)) ps.length) h = .nx (eG p ask (.fl (zs.map AV.int)) ps.length) h'):fi [.ref p,.int ask,.fl (zs.map AV.int)] h = .ok (.str "") h' := by
 have m:=j0 S
 have m2:=j0 (K.sh S)
 have ob:=S.ob
 have ob2:=(K.sh S).ob
 have ne:=yG zs h'
 have tr:df 6 kh WB (au 3 (aa 6)) (eG p ask (.fl (zs.map AV.int)) ps.length) h = .nx (eG p ask (.fl (zs.map AV.int)) ps.length) h' := by
  unfold df;rw [e]
 have nm:bj (.int (ps.length:Int)) (.int (ps.length:Int)) h' = .ok (.bl false) h' := by simp
 simp only [eG] at tr
 unfold fi
 generalize df 6 kh WB (au 3 (aa 6))=TT at *
 generalize zs.map AV.int=V at *
 generalize (ps.length:Int)=M at *
 simp [m,ob,tr,ne,m2,ob2,nm,-bj]
theorem G7 {h h':AH} {p:Nat} {ask:Int} {zs:List Int} {ps:List Pc} (S:ShelfAt h p ps) (K:Ks h h') (e:WB (eG p ask (.fl (zs.map AV.int)) ps.length) h = .ex c5 (eG p ask (.fl (zs.map AV.int)) ps.length) h'):fi [.ref p,.int ask,.fl (zs.map AV.int)] h = .ok (.str "piece") h' := by
 have m:=j0 S
 have m2:=j0 (K.sh S)
 have ob:=S.ob
 have ob2:=(K.sh S).ob
 have ne:=yG zs h'
 have tr:df 6 kh WB (au 3 (aa 6)) (eG p ask (.fl (zs.map AV.int)) ps.length) h = .nx [some (.ref p),some (.int ask),some (.fl (zs.map AV.int)),some (.exc c5),some (.int ps.length),some (.fl (zs.map AV.int)),none] h' := by
  unfold df;rw [e];rfl
 have nm:bj (.int (ps.length:Int)) (.int (ps.length:Int)) h' = .ok (.bl false) h' := by simp
 have k1:(rM c5 || (rN c5 || rO c5))=false:=rfl
 have k2:rP c5=true:=rfl
 have k3:rL c5=true:=rfl
 have ix:aw (.fl [.str "another",.str "piece"]) (.int 1) h' = .ok (.str "piece") h' := rfl
 simp only [eG] at tr
 unfold fi
 generalize df 6 kh WB (au 3 (aa 6))=TT at *
 generalize zs.map AV.int=V at *
 generalize (ps.length:Int)=M at *
 simp [m,ob,tr,ne,m2,ob2,nm,k1,k2,k3,ix,-bj,-aw]
theorem G8 (l:List Nat):aH l=(l.map λn:Nat=>(n:Int)).map AV.int:=by rw [List.map_map];rfl
theorem G9 {h:AH} {p k a b c d:Nat} {ps:List Pc} (hk:k<3) (S:ShelfAt h p ps) (g:Good ps) (fw:bZ 30 ps) (ht:∀ n∈[a,b,c,d],n<=ps.length) (hz:ps.length<=900000):∃ h',fi [.ref p,.int k,.fl (aH [a,b,c,d])] h = .ok (.str "") h'/\Ks h h' := by
 have L:Lt h (.fl (aH [a,b,c,d])) [a,b,c,d]:=.inl rfl
 suffices q:∃ h',Ks h h'/\WB (eG p k (.fl (aH [a,b,c,d])) ps.length) h = .nx (eG p k (.fl (aH [a,b,c,d])) ps.length) h' by
  obtain ⟨h',K,e⟩:=q
  rw [G8] at e ⊢
  exact ⟨h',G6 S K e,K⟩
 rcases (by lia:k=0\/k=1\/k=2) with rfl | rfl | rfl
 ·obtain ⟨r,f⟩:=mD S g L ht (by simp) (by lia) (yK g fw ht _)
  refine ⟨_,Ks.app r,?_⟩
  generalize h++r=h1 at *
  generalize aH (ay ps [a,b,c,d] ps.length)=U at *
  generalize aH [a,b,c,d]=V at *
  simp [WB,f]
 ·obtain ⟨w,h1,f,K⟩:=GR S g L ht (by simp) (by lia) (yK g fw ht _)
  refine ⟨_,K,?_⟩
  generalize aH [a,b,c,d]=V at *
  simp [WB,f]
 ·obtain ⟨w,h1,f,K⟩:=G5 S g fw (ht a (by simp)) (ht d (by simp)) hz
  refine ⟨_,K,?_⟩
  have i0:aw (.fl (aH [a,b,c,d])) (.int 0) h = .ok (.int a) h:=rfl
  have i1:aw (.fl (aH [a,b,c,d])) (.int (-1)) h = .ok (.int d) h:=rfl
  generalize aH [a,b,c,d]=V at *
  simp [WB,i0,i1,f,-aw]
theorem oP {h:AH} {p k:Nat} {F B:List Nat} {z:Int} {ps:List Pc} (S:ShelfAt h p ps) (g:Good ps) (hB:∀ n∈B,n<=ps.length) (lF:F.length+B.length<=900) (hz:ps.length<=1000000) (zo : ¬ (0<=z/\z<=ps.length))
  (hk:k=0\/k=1\/k=2/\∃ (y w:AV) (h':AH),aw (.fl (cy F z B)) (.int 0) h = .ok y h/\aw (.fl (cy F z B)) (.int (-1)) h = .ok w h/\gZ [.ref p,y,w] h = .ex c5 h'/\Ks h h') :
  ∃ h',fi [.ref p,.int k,.fl (cy F z B)] h = .ok (.str "piece") h'/\Ks h h' := by
 suffices q:∃ h',Ks h h'/\WB (eG p k (.fl (cy F z B)) ps.length) h = .ex c5 (eG p k (.fl (cy F z B)) ps.length) h' by
  obtain ⟨h',K,e⟩:=q
  rw [yH] at e ⊢
  exact ⟨h',G7 S K e,K⟩
 rcases hk with rfl | rfl | ⟨rfl,y,w,h1,i0,i1,f,K⟩
 ·obtain ⟨h1,f,K⟩:=oN S g hB lF hz zo
  refine ⟨h1,K,?_⟩
  generalize cy F z B=V at *
  simp [WB,f]
 ·obtain ⟨h1,f,K⟩:=GV S g hB lF hz zo
  refine ⟨h1,K,?_⟩
  generalize cy F z B=V at *
  simp [WB,f]
 ·refine ⟨h1,K,?_⟩
  generalize cy F z B=V at *
  simp [WB,i0,i1,f,-aw]
end Sk
namespace Sk
open PySem PySem.Spec L2 Sm
abbrev eQ (o0 o2 o3 o4:Option AV) (far:Int) (a b c d:Nat) (o7 o8 o9:Option AV):En:=[o0,some (.ref 0),o2,o3,o4,some (.int far),some (.fl (aH [a,b,c,d])),o7,o8,o9]
theorem oQ (h:AH):bj (.str "piece") (.str "piece") h = .ok (.bl false) h:=by simp
theorem Ha (h:AH):bj (.str "") (.str "") h = .ok (.bl false) h:=by simp
section
variable {h:AH} {a b c d k:Nat} {far z:Int} {ps:List Pc} {o0 o2 o3 o4 o7 o8 o9:Option AV}
theorem Hb (hk:k<3) (S:ShelfAt h 0 ps) (g:Good ps) (hz:ps.length<=900000) (zo : ¬ (0<=z/\z<=ps.length)):∃ h',fi [.ref 0,.int k,.fl [.int z]] h = .ok (.str "piece") h'/\Ks h h' :=
 oP (F:=[]) (B:=[]) S g (λn hn=>nomatch hn) (by simp) (by lia) zo (by
  rcases (by lia:k=0\/k=1\/k=2) with q | q | q
  ·exact .inl q
  ·exact .inr (.inl q)
  ·obtain ⟨h',f,K⟩:=yI (y:=z) S g (by lia) zo
   exact .inr (.inr ⟨q,_,_,h',rfl,rfl,f,K⟩))
theorem Hc (hk:k<3) (S:ShelfAt h 0 ps) (g:Good ps) (ht:∀ n∈[a,b,c,d],n<=ps.length) (hz:ps.length<=900000) (zo : ¬ (0<=z/\z<=ps.length)):∃ h',fi [.ref 0,.int k,.fl (cy [] z [a,b,c,d])] h = .ok (.str "piece") h'/\Ks h h' :=
 oP S g ht (by simp) (by lia) zo (by
  rcases (by lia:k=0\/k=1\/k=2) with q | q | q
  ·exact .inl q
  ·exact .inr (.inl q)
  ·obtain ⟨h',f,K⟩:=yI (y:=d) S g (by lia) zo
   exact .inr (.inr ⟨q,_,_,h',rfl,rfl,f,K⟩))
theorem Hd (hk:k<3) (S:ShelfAt h 0 ps) (g:Good ps) (fw:bZ 30 ps) (ht:∀ n∈[a,b,c,d],n<=ps.length) (hz:ps.length<=900000) (zo : ¬ (0<=z/\z<=ps.length)):∃ h',fi [.ref 0,.int k,.fl (cy [a,b,c,d] z [])] h = .ok (.str "piece") h'/\Ks h h' :=
 oP S g (λn hn=>nomatch hn) (by simp) (by lia) zo (by
  rcases (by lia:k=0\/k=1\/k=2) with q | q | q
  ·exact .inl q
  ·exact .inr (.inl q)
  ·obtain ⟨h',f,K⟩:=GW S g (ht a (by simp)) (by lia) (Nat.lt_of_le_of_lt (iL g fw (ht a (by simp)) _) (by decide)) zo
   exact .inr (.inr ⟨q,_,_,h',rfl,rfl,f,K⟩))
theorem He (hk:k<2) (S:ShelfAt h 0 ps) (g:Good ps) (ht:∀ n∈[a,b,c,d],n<=ps.length) (hz:ps.length<=900000) (zo : ¬ (0<=z/\z<=ps.length)):∃ h',fi [.ref 0,.int k,.fl (cy [a,b] z [c,d])] h = .ok (.str "piece") h'/\Ks h h' :=
 oP S g (λn hn=>ht n (by simp only [List.mem_cons,List.not_mem_nil,or_false] at hn ⊢;lia)) (by simp) (by lia) zo (by lia)
theorem Hf (hk:k<3) (S:ShelfAt h 0 ps) (g:Good ps) (fw:bZ 30 ps) (ht:∀ n∈[a,b,c,d],n<=ps.length) (hz:ps.length<=900000) (zo : ¬ (0<=z/\z<=ps.length)) {x:Int} (hx:x=0\/x=4) :
  ∃ h',iF (eQ o0 o2 o3 o4 far a b c d (some (.int k)) (some (.int z)) (some (.int x))) h = .nx (eQ o0 o2 o3 o4 far a b c d (some (.int k)) (some (.int z)) (some (.int x))) h'/\Ks h h' := by
 rcases hx with rfl | rfl
 ·obtain ⟨h',f,K⟩:=Hc (z:=z) hk S g ht hz zo
  refine ⟨h',?_,K⟩
  have ex:(ag ar (ag ar (aX (aa 6) none (some (aa 9))) (aM (ai (aa 8) af))) (aX (aa 6) (some (aa 9)) none)) (eQ o0 o2 o3 o4 far a b c d (some (.int k)) (some (.int z)) (some (.int 0))) h = .ok (.fl (cy [] z [a,b,c,d])) h:=rfl
  have n:=oQ h'
  unfold iF
  generalize (ag ar (ag ar (aX (aa 6) none (some (aa 9))) (aM (ai (aa 8) af))) (aX (aa 6) (some (aa 9)) none))=EX at *
  generalize cy [] z [a,b,c,d]=V at *
  simp [ex,f,n,-bj]
 ·obtain ⟨h',f,K⟩:=Hd (z:=z) hk S g fw ht hz zo
  refine ⟨h',?_,K⟩
  have ex:(ag ar (ag ar (aX (aa 6) none (some (aa 9))) (aM (ai (aa 8) af))) (aX (aa 6) (some (aa 9)) none)) (eQ o0 o2 o3 o4 far a b c d (some (.int k)) (some (.int z)) (some (.int 4))) h = .ok (.fl (cy [a,b,c,d] z [])) h:=rfl
  have n:=oQ h'
  unfold iF
  generalize (ag ar (ag ar (aX (aa 6) none (some (aa 9))) (aM (ai (aa 8) af))) (aX (aa 6) (some (aa 9)) none))=EX at *
  generalize cy [a,b,c,d] z []=V at *
  simp [ex,f,n,-bj]
theorem Hg (hk:k<3) (S:ShelfAt h 0 ps) (g:Good ps) (fw:bZ 30 ps) (ht:∀ n∈[a,b,c,d],n<=ps.length) (hz:ps.length<=900000) (zo : ¬ (0<=z/\z<=ps.length)) :
  ∃ q9 h',bp (aO (aM (ai (ae (.int 0)) (ai (ae (.int 4)) af)))) (.nm 9) iF (eQ o0 o2 o3 o4 far a b c d (some (.int k)) (some (.int z)) o9) h = .nx (eQ o0 o2 o3 o4 far a b c d (some (.int k)) (some (.int z)) q9) h'/\Ks h h' := by
 obtain ⟨e',h',r,q9,rfl,K⟩:=iG (w:=none) (all:=[.int 0,.int 4]) (t:=.nm 9) (b:=iF) (xs:=[.int 0,.int 4]) (en:=eQ o0 o2 o3 o4 far a b c d (some (.int k)) (some (.int z)) o9) (h:=h)
  (λj en hh=>∃ q9,en=eQ o0 o2 o3 o4 far a b c d (some (.int k)) (some (.int z)) q9/\Ks h hh) ⟨o9,rfl,λ_ _=>rfl,Nat.le_refl _⟩ (λ_ _ _ _=>rfl) (by
   rintro j x en hh hx ⟨q9,rfl,K⟩
   obtain ⟨y,rfl,hy⟩:∃ y:Int,x = .int y/\(y=0\/y=4):=by
    have:=List.mem_of_getElem? hx
    simp only [List.mem_cons,List.not_mem_nil,or_false] at this
    rcases this with rfl | rfl
    ·exact ⟨0,rfl,.inl rfl⟩
    ·exact ⟨4,rfl,.inr rfl⟩
   obtain ⟨h2,t,K2⟩:=Hf (o0:=o0) (o2:=o2) (o3:=o3) (o4:=o4) (far:=far) hk (K.sh S) g fw ht hz zo hy
   show thn (iF (eQ o0 o2 o3 o4 far a b c d (some (.int k)) (some (.int z)) (some (.int y))) hh) _
   rw [t]
   exact ⟨_,rfl,K.trans K2⟩)
 exact ⟨q9,h',(jZ rfl).trans r,K⟩
theorem Hh (hk:k<3) (S:ShelfAt h 0 ps) (g:Good ps) (fw:bZ 30 ps) (ht:∀ n∈[a,b,c,d],n<=ps.length) (hz:ps.length<=900000) (zo : ¬ (0<=z/\z<=ps.length)) :
  ∃ q9 h',i7 (eQ o0 o2 o3 o4 far a b c d (some (.int k)) (some (.int z)) o9) h = .nx (eQ o0 o2 o3 o4 far a b c d (some (.int k)) (some (.int z)) q9) h'/\Ks h h' := by
 obtain ⟨h1,f1,K1⟩:=Hb hk S g hz zo
 obtain ⟨q9,h2,f2,K2⟩:=Hg (o0:=o0) (o2:=o2) (o3:=o3) (o4:=o4) (o9:=o9) (far:=far) hk (K1.sh S) g fw ht hz zo
 have n1:=oQ h1
 have K12:=K1.trans K2
 by_cases q:k<2
 ·obtain ⟨h3,f3,K3⟩:=He q (K12.sh S) g ht hz zo
  have n3:=oQ h3
  have lt:gR (.int (k:Int)) (.int 2) h2 = .ok (.bl true) h2:=by
   have:(k:Int)<2:=by lia
   simp [this]
  have ex:(ag ar (ag ar (aX (aa 6) none (some (ae (.int 2)))) (aM (ai (aa 8) af))) (aX (aa 6) (some (ae (.int 2))) none)) (eQ o0 o2 o3 o4 far a b c d (some (.int k)) (some (.int z)) q9) h2 = .ok (.fl (cy [a,b] z [c,d])) h2:=rfl
  refine ⟨q9,h3,?_,K12.trans K3⟩
  unfold i7
  generalize (ag ar (ag ar (aX (aa 6) none (some (ae (.int 2)))) (aM (ai (aa 8) af))) (aX (aa 6) (some (ae (.int 2))) none))=EX at *
  generalize bp (aO (aM (ai (ae (.int 0)) (ai (ae (.int 4)) af)))) (.nm 9) iF=FF at *
  simp only [eQ] at *
  generalize cy [a,b] z [c,d]=V at *
  generalize aH [a,b,c,d]=W at *
  simp [f1,n1,f2,lt,ex,f3,n3,-bj,-gR]
 ·have lt:gR (.int (k:Int)) (.int 2) h2 = .ok (.bl false) h2:=by
   have : ¬ (k:Int)<2:=by lia
   simp [this]
  refine ⟨q9,h2,?_,K12⟩
  unfold i7
  generalize bp (aO (aM (ai (ae (.int 0)) (ai (ae (.int 4)) af)))) (.nm 9) iF=FF at *
  simp only [eQ] at *
  generalize aH [a,b,c,d]=W at *
  simp [f1,n1,f2,lt,-bj,-gR]
theorem Hi (hk:k<3) (S:ShelfAt h 0 ps) (g:Good ps) (fw:bZ 30 ps) (ht:∀ n∈[a,b,c,d],n<=ps.length) (hz:ps.length<=900000) (hf:1<=far) :
  ∃ q8 q9 h',jY (eQ o0 o2 o3 o4 far a b c d (some (.int k)) o8 o9) h = .nx (eQ o0 o2 o3 o4 far a b c d (some (.int k)) q8 q9) h'/\Ks h h' := by
 obtain ⟨h1,f1,K1⟩:=G9 hk S g fw ht hz
 have n1:=Ha h1
 have S1:=K1.sh S
 have m:=j0 S1
 have ob:=S1.ob
 obtain ⟨zs,ez,hzs⟩:∃ zs:List Int,zs=[-1,0-far,ps.length+1,ps.length+far,10 ^ 30-1]/\∀ z∈zs,¬ (0<=z/\z<=ps.length):=by
  refine ⟨_,rfl,λz hz' => ?_⟩
  simp only [List.mem_cons,List.not_mem_nil,or_false] at hz'
  lia
 have it:aO (aM (ai (dZ dD (ae (.int 1))) (ai (ag cI (ae (.int 0)) (aa 5)) (ai (ag ar (aJ 0 dS (aa 1) af) (ae (.int 1))) (ai (ag ar (aJ 0 dS (aa 1) af) (aa 5)) (ai (ag cI (ag bP (ae (.int 10)) (ae (.int 30))) (ae (.int 1))) af)))))) (eQ o0 o2 o3 o4 far a b c d (some (.int k)) o8 o9) h1 = .ok (zs.map AV.int,none) h1:=by
  rw [ez]
  generalize (ps.length:Int)=M at *
  simp [m,ob]
 obtain ⟨e',h',r,q8,q9,rfl,K⟩:=iG (w:=none) (all:=zs.map AV.int) (t:=.nm 8) (b:=i7) (xs:=zs.map AV.int) (en:=eQ o0 o2 o3 o4 far a b c d (some (.int k)) o8 o9) (h:=h1)
  (λj en hh=>∃ q8 q9,en=eQ o0 o2 o3 o4 far a b c d (some (.int k)) q8 q9/\Ks h1 hh) ⟨o8,o9,rfl,λ_ _=>rfl,Nat.le_refl _⟩ (λ_ _ _ _=>rfl) (by
   rintro j x en hh hx ⟨q8,q9,rfl,K⟩
   obtain ⟨z,hz',rfl⟩:=List.mem_map.mp (List.mem_of_getElem? hx)
   obtain ⟨p9,h2,t,K2⟩:=Hh (o0:=o0) (o2:=o2) (o3:=o3) (o4:=o4) (o9:=q9) (far:=far) hk (K.sh S1) g fw ht hz (hzs z hz')
   show thn (i7 (eQ o0 o2 o3 o4 far a b c d (some (.int k)) (some (.int z)) q9) hh) _
   rw [t]
   exact ⟨_,_,rfl,K.trans K2⟩)
 have lp:=(jZ (t:=.nm 8) (b:=i7) it).trans r
 refine ⟨q8,q9,h',?_,K1.trans K⟩
 unfold jY
 generalize bp (aO (aM (ai (dZ dD (ae (.int 1))) (ai (ag cI (ae (.int 0)) (aa 5)) (ai (ag ar (aJ 0 dS (aa 1) af) (ae (.int 1))) (ai (ag ar (aJ 0 dS (aa 1) af) (aa 5)) (ai (ag cI (ag bP (ae (.int 10)) (ae (.int 30))) (ae (.int 1))) af))))))) (.nm 8) i7=FF at *
 simp only [eQ] at *
 generalize aH [a,b,c,d]=V at *
 simp [f1,n1,lp,-bj]
theorem Hj (S:ShelfAt h 0 ps) (g:Good ps) (fw:bZ 30 ps) (ht:∀ n∈[a,b,c,d],n<=ps.length) (hz:ps.length<=900000) (hf:1<=far) :
  ∃ e' h',bp (fF (ae (.int 3))) (.nm 7) jY (eQ o0 o2 o3 o4 far a b c d none none none) h = .nx e' h' := by
 have it:=n8 (a:=ae (.int 3)) (en:=eQ o0 o2 o3 o4 far a b c d none none none) (h:=h) (h1:=h) (n:=3) rfl (by decide)
 obtain ⟨e',h',r,_⟩:=iG (w:=none) (all:=cT 0 3) (t:=.nm 7) (b:=jY) (xs:=cT 0 3) (en:=eQ o0 o2 o3 o4 far a b c d none none none) (h:=h)
  (λj en hh=>∃ q7 q8 q9,en=eQ o0 o2 o3 o4 far a b c d q7 q8 q9/\Ks h hh) ⟨_,_,_,rfl,λ_ _=>rfl,Nat.le_refl _⟩ (λ_ _ _ _=>rfl) (by
   rintro j x en hh hx ⟨q7,q8,q9,rfl,K⟩
   rw [rV] at hx
   split at hx
   ·rename_i hj
    cases hx
    rw [Int.zero_add]
    obtain ⟨p8,p9,h2,t,K2⟩:=Hi (o0:=o0) (o2:=o2) (o3:=o3) (o4:=o4) (o8:=q8) (o9:=q9) (far:=far) hj (K.sh S) g fw ht hz hf
    show thn (jY (eQ o0 o2 o3 o4 far a b c d (some (.int j)) q8 q9) hh) _
    rw [t]
    exact ⟨_,_,_,rfl,K.trans K2⟩
   ·cases hx)
 exact ⟨e',h',(jZ it).trans r⟩
end
end Sk
namespace Sk
open PySem PySem.Spec L2 Sm
theorem tL:bZ 30 []:=λi m e=>by
 cases i with
 | zero =>
  have:(meas [])[0]? = some ms0:=mr []
  rw [this] at e
  cases e
  exact Nat.zero_le _
 | succ i=>exact absurd (List.getElem?_eq_some_iff.mp e).1 (by rw [c6];simp)
structure Lv (hh:AH) (ps:List Pc) (L:Nat):Prop where
 sh:ShelfAt hh 0 ps
 st:∃ N:Int,hh[L]? = some (.lst [.int N])
theorem Lv.take {hh:AH} {ps:List Pc} {L:Nat} (w:Lv hh ps L) (hL:8<L) (m:Nat) (hm:0<m) (hm2:m<=10 ^ 50):∃ (v:Nat) (h':AH),v<m/\cZ [.ref L,.int m] hh = .ok (.int v) h'/\Lv h' ps L:=by
 obtain ⟨N,e⟩:=w.st
 obtain ⟨v,N',hv,t⟩:=kq m e hm hm2
 exact ⟨v,_,hv,t,w.sh.keep λi _ b=>List.getElem?_set_ne (by lia),N',List.getElem?_set_self (dO e)⟩
abbrev fS:SE:=ag aw (aM (ai (aa 1) (ai (ae (.int 0)) (ai (ag ar (ae (.int 1)) (aD cZ (ai (aa 2) (ai (aD ia (ai (ae (.int 1)) (ai (aJ 0 dS (aa 3) af) af))) af)))) af)))) (aD cZ (ai (aa 2) (ai (ae (.int 3)) af)))
theorem Hk {hh:AH} {ps:List Pc} {n L:Nat} {o0 o2:Option AV} {far:Int} {o6 o7 o8 o9:Option AV} (w:Lv hh ps L) (hL:8<L) (hz:ps.length<=900000) :
  ∃ (l:List Nat) (h':AH),c3 [3,4,1] (fF (ae (.int 4))) bq fS [o0,some (.ref 0),o2,some (.int n),some (.ref L),some (.int far),o6,o7,o8,o9] hh = .ok (.fl (aH l)) h'/\Lv h' ps L/\l.length=4:=by
 have it:=n8 (a:=ae (.int 4)) (en:=[o0,some (.ref 0),o2,some (.int n),some (.ref L),some (.int far),o6,o7,o8,o9]) (h:=hh) (h1:=hh) (n:=4) rfl (by decide)
 obtain ⟨zs,h2,c,w2,l,rfl,hl⟩:=xM (js:=[3,4,1]) (en:=[o0,some (.ref 0),o2,some (.int n),some (.ref L),some (.int far),o6,o7,o8,o9]) (all:=cT 0 4) (e:=fS) (xs:=cT 0 4) (h:=hh)
  (λj ys hh=>Lv hh ps L/\∃ l:List Nat,ys=aH l/\l.length=j) ⟨w,[],rfl,rfl⟩ (by
   rintro j x ys hh _ ⟨w,l,rfl,ll⟩
   have m:=j0 w.sh
   have ob:=w.sh.ob
   have mx:ia [.int 1,.int ps.length] hh = .ok (.int ((max 1 ps.length:Nat):Int)) hh:=by
    by_cases q:(ps.length:Int) > 1
    ·simp only [ia,if_pos q]
     congr 2
     lia
    ·simp only [ia,if_neg q]
     congr 2
     lia
   obtain ⟨v,h3,hv,t3,w3⟩:=w.take hL (max 1 ps.length) (by lia) (Nat.le_trans (m:=900000) (by lia) (by decide))
   obtain ⟨u,h4,hu,t4,w4⟩:=w3.take hL 3 (by decide) (by decide)
   have t4':cZ [.ref L,.int 3] h3 = .ok (.int u) h4:=t4
   obtain ⟨k,ix⟩:∃ k:Nat,aw (.fl [.int n,.int 0,.int (1+(v:Int))]) (.int (u:Int)) h4 = .ok (.int k) h4:=by
    rcases (by lia:u=0\/u=1\/u=2) with rfl | rfl | rfl
    ·exact ⟨n,rfl⟩
    ·exact ⟨0,rfl⟩
    ·refine ⟨1+v,?_⟩
     rw [show ((1+v:Nat):Int)=1+(v:Int) by lia]
     rfl
   have ee:fS [some x,some (.int n),some (.ref L),some (.ref 0)] hh = .ok (.int k) h4:=by
    generalize ((max 1 ps.length:Nat):Int)=M at *
    generalize (ps.length:Int)=M2 at *
    simp [fS,m,ob,mx,t3,t4',ix,-aw,-ia]
   show xJ (fS [some x,some (.int n),some (.ref L),some (.ref 0)] hh) _
   rw [ee]
   exact ⟨w4,l++[k],by simp,by simp [ll]⟩) (by rw [lU];decide)
 rw [lU] at hl
 refine ⟨l,h2,?_,w2,hl⟩
 unfold c3
 rw [it]
 dsimp only
 rw [c]
theorem Hl {hh:AH} {ps:List Pc} {l:List Nat} {o0 o2 o3 o4 o5 o7 o8 o9:Option AV} (S:ShelfAt hh 0 ps) (ll:l.length=4) :
  ∃ a b c d:Nat,c3 [1] (aO (aa 6)) bq (aD gA (ai (aa 0) (ai (aJ 0 dS (aa 1) af) af))) [o0,some (.ref 0),o2,o3,o4,o5,some (.fl (aH l)),o7,o8,o9] hh = .ok (.fl (aH [a,b,c,d])) hh/\∀ n∈[a,b,c,d],n<=ps.length:=by
 have m:=j0 S
 have ob:=S.ob
 have cp:=rT (js:=[1]) (en:=[o0,some (.ref 0),o2,o3,o4,o5,some (.fl (aH l)),o7,o8,o9]) (w:=none) (all:=aH l) (e:=aD gA (ai (aa 0) (ai (aJ 0 dS (aa 1) af) af))) (g:=λn:Nat=>AV.int n) (f:=λn:Nat=>AV.int (min n ps.length:Nat)) (h:=hh) rfl l []
  (λn hn=>by
   have mx:gA [.int n,.int ps.length] hh = .ok (.int ((min n ps.length:Nat):Int)) hh:=by
    by_cases q:(ps.length:Int)<n
    ·simp only [gA,if_pos q]
     congr 2
     lia
    ·simp only [gA,if_neg q]
     congr 2
     lia
   show aD gA (ai (aa 0) (ai (aJ 0 dS (aa 1) af) af)) [some (.int n),some (.ref 0)] hh=_
   generalize ((min n ps.length:Nat):Int)=M at *
   generalize (ps.length:Int)=M2 at *
   simp [m,ob,mx,-gA]) (by simp only [List.length_nil,Nat.zero_add,ll];decide)
 rw [List.nil_append] at cp
 match l,ll with
 | [a,b,c,d],_ =>
  refine ⟨min a ps.length,min b ps.length,min c ps.length,min d ps.length,?_,λn hn=>?_⟩
  ·have i1:aO (aa 6) [o0,some (.ref 0),o2,o3,o4,o5,some (.fl (aH [a,b,c,d])),o7,o8,o9] hh = .ok (aH [a,b,c,d],none) hh:=rfl
   unfold c3
   rw [i1]
   dsimp only
   rw [cp]
   rfl
  ·simp only [List.mem_cons,List.not_mem_nil,or_false] at hn
   lia
theorem law_true (ns:List Int) (hl:ns.length<=63):∃ h',rS [.fl (ns.map AV.int)] [] = .ok (.bl true) h' := by
 have mk:=se [some (.fl (ns.map AV.int)),none,none,none,none,none,none,none,none,none] []
 have l0:([]:AH).length=0:=rfl
 rw [l0,List.nil_append] at mk
 have S0:ShelfAt (cG 0) 0 []:=by have:=x4 [] [];simpa using this
 obtain ⟨N0,s0⟩:=sX ns hl 0 (by decide) (cG 0)
 have s0':gY [.fl (ns.map AV.int),.int 0] (cG 0) = .ok (.ref 9) (cG 0++[.lst [.int N0]]):=s0
 have e1:(cG 0++[AO.lst [.int N0]])[9]? = some (.lst [.int N0]):=rfl
 have n1:(cG 0++[AO.lst [.int N0]]).length=10:=rfl
 have S1:ShelfAt (cG 0++[AO.lst [.int N0]]) 0 []:=S0.app _
 generalize cG 0++[AO.lst [.int N0]]=H1 at *
 obtain ⟨y,N2,p2,py,ly⟩:=Gs 30 (by decide) e1
 have p2':lL [.ref 9,.int 30] H1 = .ok (.str y) (H1.set 9 (.lst [.int N2])):=p2
 have S2:ShelfAt (H1.set 9 (.lst [.int N2])) 0 []:=S1.keep λi _ b=>List.getElem?_set_ne (by lia)
 have n2:(H1.set 9 (.lst [.int N2])).length=10:=by rw [List.length_set,n1]
 generalize H1.set 9 (.lst [.int N2])=H2 at *
 obtain ⟨N3,s3⟩:=sX ns hl 1 (by decide) H2
 have s3':gY [.fl (ns.map AV.int),.int 1] H2 = .ok (.ref 10) (H2++[.lst [.int N3]]):=by rw [<- n2];exact s3
 have e3:(H2++[AO.lst [.int N3]])[10]? = some (.lst [.int N3]):=by rw [<- n2];simp
 have S3:ShelfAt (H2++[AO.lst [.int N3]]) 0 []:=S2.app _
 generalize H2++[AO.lst [.int N3]]=H3 at *
 obtain ⟨n,ps,H4,f4,G,tz,_⟩:=GD S3 .nil (show 0+8<10 by decide) ⟨N3,e3⟩ py (by lia) (by decide)
 have gl:=G.len
 rw [List.length_nil,Nat.zero_add] at gl
 have h8:=dO G.sh.h8
 obtain ⟨N6,s6⟩:=sX ns hl 2 (by decide) H4
 have s6':gY [.fl (ns.map AV.int),.int 2] H4 = .ok (.ref H4.length) (H4++[.lst [.int N6]]):=s6
 have w0:Lv (H4++[.lst [.int N6]]) ps H4.length:=⟨G.sh.app _,N6,by simp⟩
 have hL:8<H4.length:=by lia
 generalize H4++[AO.lst [.int N6]]=H5 at *
 generalize H4.length=L at *
 obtain ⟨v,H6,hv,t6,w6⟩:=w0.take hL (10 ^ 29) (by decide) (by decide)
 have t6':cZ [.ref L,.int 100000000000000000000000000000] H5 = .ok (.int v) H6:=t6
 obtain ⟨l,H7,c7,w7,ll⟩:=Hk (n:=n) (o0:=some (.fl (ns.map AV.int))) (o2:=some (.str y)) (far:=1+(v:Int)) (o6:=none) (o7:=none) (o8:=none) (o9:=none) w6 hL (by lia)
 obtain ⟨a,b,c,d,c8,ht⟩:=Hl (o0:=some (.fl (ns.map AV.int))) (o2:=some (.str y)) (o3:=some (.int n)) (o4:=some (.ref L)) (o5:=some (.int (1+(v:Int)))) (o7:=none) (o8:=none) (o9:=none) w7.sh ll
 obtain ⟨e',H9,f9⟩:=Hj (o0:=some (.fl (ns.map AV.int))) (o2:=some (.str y)) (o3:=some (.int n)) (o4:=some (.ref L)) (far:=1+(v:Int)) w7.sh G.gd (G.al tL) ht (by lia) (by lia)
 refine ⟨H9,?_⟩
 simp only [eQ] at f9
 generalize aH [a,b,c,d]=V at *
 generalize aH l=V2 at *
 generalize ns.map AV.int=V0 at *
 unfold rS
 generalize jA 0 8 i3 af=MK at *
 generalize bp (fF (ae (.int 3))) (.nm 7) jY=FA at *
 generalize c3 [3,4,1] (fF (ae (.int 4))) bq fS=C1 at *
 generalize c3 [1] (aO (aa 6)) bq (aD gA (ai (aa 0) (ai (aJ 0 dS (aa 1) af) af)))=C2 at *
 generalize cG 0=H0 at *
 simp [mk,s0',p2',s3',f4,s6',t6',c7,c8,f9]
end Sk
namespace Sk
open PySem PySem.Spec L2 Sm
theorem Hm:bootBuiltins "list" = some (.type "list"):=by decide +kernel
theorem Hn:bootBuiltins "sorted" = some (.builtin "sorted"):=by decide +kernel
def top (i:Nat):Stmt:=PySem.Challenge.pw_skeinwood_k76_sweeping_refused.main.body.getD i (.Pass ⟨0,0,0,0⟩)
abbrev tM:Stmt:=eJ (top 18) 0
abbrev tN:Stmt:=top 39
abbrev tP:Stmt:=top 40
abbrev tQ:Stmt:=top 11
abbrev tR:Stmt:=eJ (top 18) 11
abbrev tU:Stmt:=eJ (top 18) 12
abbrev tV:Stmt:=eJ (top 18) 14
abbrev tW:Stmt:=eJ (top 18) 17
abbrev tX:Stmt:=eJ (top 18) 16
abbrev tY:Stmt:=eJ (top 18) 2
abbrev tZ:Stmt:=top 35
abbrev t5:Stmt:=top 13
abbrev oR:Stmt:=top 12
abbrev t7:Stmt:=top 14
abbrev t8:Stmt:=top 15
abbrev t9:Stmt:=eJ (top 18) 15
abbrev ua:Stmt:=eJ (top 18) 1
abbrev oS:Stmt:=top 26
abbrev ub:Stmt:=top 27
abbrev uc:Stmt:=eJ (top 18) 13
abbrev ud:Stmt:=eJ (top 18) 5
abbrev ue:Stmt:=eJ (top 18) 10
abbrev uf:Stmt:=eJ (top 18) 9
abbrev ug:Stmt:=top 28
abbrev uh:Stmt:=eJ (top 18) 4
abbrev ui:Stmt:=top 33
abbrev uj:Stmt:=eJ (top 18) 8
abbrev uk:Stmt:=top 30
abbrev um:Stmt:=top 34
abbrev uo:Stmt:=top 31
abbrev uq:Stmt:=top 29
abbrev ur:Stmt:=top 32
abbrev uv:Stmt:=top 25
abbrev uw:Stmt:=top 41
abbrev ux:Stmt:=top 37
abbrev oT:Stmt:=top 38
abbrev uy:Stmt:=eJ (top 18) 3
abbrev uz:Stmt:=top 21
abbrev oU:Stmt:=top 20
abbrev oV:Stmt:=top 22
abbrev uA:Stmt:=top 23
abbrev uB:Stmt:=top 42
abbrev kz:Stmt:=top 43
def bG:Nat->List Str
 | 0=>["pieces", "numbers", "sign_counts", "end_counts", "leaf_counts", "heights", "first_leaves", "last_leaves"]
 | _=>[]
theorem Ho:∀ c,(bG c).Nodup
 | 0=>by decide +kernel
 | _+1=>List.nodup_nil
theorem Hq:∀ c,(bG c).length<=500
 | 0=>by decide +kernel
 | _+1=>Nat.zero_le _
abbrev bf (K:PySem.W.Frag) (cls exc:Nat->Option Addr):Tb:=⟨K,cls,exc,bG,Ho,Hq⟩
structure je (P:Program) (w:World) (K:PySem.W.Frag) (cls exc:Nat->Option Addr) (mg:Str->Option Value) (base:Heap):Prop where
 b_ValueError:mg "ValueError" = none
 b_abs:mg "abs" = none
 b_all:mg "all" = none
 b_bool:mg "bool" = none
 b_int:mg "int" = none
 b_isinstance:mg "isinstance" = none
 b_len:mg "len" = none
 b_list:mg "list" = none
 b_max:mg "max" = none
 b_min:mg "min" = none
 b_range:mg "range" = none
 b_reversed:mg "reversed" = none
 b_set:mg "set" = none
 b_sorted:mg "sorted" = none
 b_str:mg "str" = none
 b_sum:mg "sum" = none
 c_LEAF_SIGNS:∃ t,mg "LEAF_SIGNS" = some (.int 8 t)
 c_MOST_PLAIN:∃ t,mg "MOST_PLAIN" = some (.int 10000 t)
 c_MOST_SIGNS:∃ t,mg "MOST_SIGNS" = some (.int 1000000000000000000 t)
 cf_Shelf:CF (bf K cls exc) 0
 x_NoText:GX (bf K cls exc) mg base 1 "NoText"
 x_NoPiece:GX (bf K cls exc) mg base 2 "NoPiece"
 x_Loose:GX (bf K cls exc) mg base 3 "Loose"
 x_Unlevel:GX (bf K cls exc) mg base 4 "Unlevel"
 x_TooLong:GX (bf K cls exc) mg base 5 "TooLong"
 kx_NoPiece:∃ C,mg "NoPiece" = some (.ref C)/\∀ c C',exc c=some C'->aW K C'/\PySem.W.kitOne K (.ref C') (.ref C)=some (rL c)
 kx_NoPlace:∃ C,mg "NoPlace" = some (.ref C)/\∀ c C',exc c=some C'->aW K C'/\PySem.W.kitOne K (.ref C') (.ref C)=some (rM c)
 kx_NoText:∃ C,mg "NoText" = some (.ref C)/\∀ c C',exc c=some C'->aW K C'/\PySem.W.kitOne K (.ref C') (.ref C)=some (rN c)
 kx_TooLong:∃ C,mg "TooLong" = some (.ref C)/\∀ c C',exc c=some C'->aW K C'/\PySem.W.kitOne K (.ref C') (.ref C)=some (rO c)
 kx_ValueError:∀ c C',exc c=some C'->aW K C'/\PySem.W.kitOne K (.ref C') (.type "ValueError")=some (rP c)
 ct_SkeinError:∃ C,mg "SkeinError" = some (.ref C)/\∀ c C',kh c=true->exc c=some C'->PySem.W.exmOne K (.ref C') (.ref C)=some true
 d_Shelf_init:DI K cls mg 0 "Shelf" "Shelf.__init__" tM ["self"]
 d_law_take:DG K mg "_law_take" tN ["stream", "many"]
 d_law_plain:DG K mg "_law_plain" tP ["stream", "most"]
 d_is_whole:DG K mg "is_whole" tQ ["thing"]
 d_Shelf_has_piece:eD K cls 0 "has_piece" "Shelf.has_piece" tR ["self", "number"]
 d_Shelf_check_piece:eD K cls 0 "check_piece" "Shelf.check_piece" tU ["self", "number"]
 d_Shelf_check_fork:eD K cls 0 "check_fork" "Shelf.check_fork" tV ["self", "one", "other"]
 d_Shelf_lay:eD K cls 0 "lay" "Shelf.lay" tW ["self", "made"]
 d_Shelf_lay_fork:eD K cls 0 "lay_fork" "Shelf.lay_fork" tX ["self", "made"]
 d_Shelf_fork:eD K cls 0 "fork" "Shelf.fork" tY ["self", "one", "other"]
 d_halved:DG K mg "halved" tZ ["shelf", "leaves"]
 d_is_plain_sign:DG K mg "is_plain_sign" t5 ["sign"]
 d_is_plain:DG K mg "is_plain" oR ["thing"]
 d_is_short:DG K mg "is_short" t7 ["thing"]
 d_ends_in:DG K mg "ends_in" t8 ["plain"]
 d_Shelf_lay_leaf:eD K cls 0 "lay_leaf" "Shelf.lay_leaf" t9 ["self", "made"]
 d_Shelf_leaf:eD K cls 0 "leaf" "Shelf.leaf" ua ["self", "plain"]
 d_built:DG K mg "built" oS ["shelf", "plain"]
 d_check_length:DG K mg "check_length" ub ["signs"]
 d_Shelf_check_text:eD K cls 0 "check_text" "Shelf.check_text" uc ["self", "text"]
 d_Shelf_signs:eD K cls 0 "signs" "Shelf.signs" ud ["self", "text"]
 d_Shelf_last_leaf:eD K cls 0 "last_leaf" "Shelf.last_leaf" ue ["self", "text"]
 d_Shelf_first_leaf:eD K cls 0 "first_leaf" "Shelf.first_leaf" uf ["self", "text"]
 d_are_close:DG K mg "are_close" ug ["shelf", "one", "other"]
 d_Shelf_piece:eD K cls 0 "piece" "Shelf.piece" uh ["self", "number"]
 d_with_last:DG K mg "with_last" ui ["shelf", "text", "leaf"]
 d_Shelf_height:eD K cls 0 "height" "Shelf.height" uj ["self", "text"]
 d_turned_left:DG K mg "turned_left" uk ["shelf", "one", "other"]
 d_without_first:DG K mg "without_first" um ["shelf", "text"]
 d_turned_right:DG K mg "turned_right" uo ["shelf", "one", "other"]
 d_linked:DG K mg "linked" uq ["shelf", "one", "other"]
 d_welded:DG K mg "welded" ur ["shelf", "one", "other"]
 d_joined:DG K mg "joined" uv ["shelf", "one", "other"]
 d_law_made:DG K mg "_law_made" uw ["shelf", "stream", "plain"]
 d_law_mixed:DG K mg "_law_mixed" ux ["cell", "k"]
 d_law_stream:DG K mg "_law_stream" oT ["script", "k"]
 d_Shelf_many:eD K cls 0 "many" "Shelf.many" uy ["self"]
 d_parts_of:DG K mg "parts_of" uz ["shelf", "number"]
 d_reach_of:DG K mg "reach_of" oU ["shelf", "texts"]
 d_swept:DG K mg "swept" oV ["shelf", "texts"]
 d_shared:DG K mg "shared" uA ["shelf", "one", "other"]
 d_law_word:DG K mg "_law_word" uB ["shelf", "ask", "texts"]
 d_law:DG K mg "law" kz ["script"]
theorem Hr:ao ["self"] ["self"] (aL tM):=bz
theorem Hs:ao ["stream", "many", "digit"] ["stream", "many"] (aL tN):=bz
theorem Ht:ao ["stream", "most", "letters", "wide", "signs", "plain", "k"] ["stream", "most"] (aL tP):=bz
theorem Hu:ao ["thing"] ["thing"] (aL tQ):=bz
theorem Hv:ao ["self", "number"] ["self", "number"] (aL tR):=bz
theorem Hw:ao ["self", "number"] ["self", "number"] (aL tU):=bz
theorem Hx:ao ["self", "one", "other", "seam"] ["self", "one", "other"] (aL tV):=bz
theorem Hy:ao ["self", "made", "number"] ["self", "made"] (aL tW):=bz
theorem Hz:ao ["self", "made", "one", "other"] ["self", "made"] (aL tX):=bz
theorem HA:ao ["self", "one", "other", "made"] ["self", "one", "other"] (aL tY):=bz
theorem yL:ao ["shelf", "leaves", "middle"] ["shelf", "leaves"] (aL tZ):=bz
theorem HB:ao ["sign"] ["sign"] (aL t5):=bz
theorem HC:ao ["thing"] ["thing"] (aL oR):=bz
theorem HD:ao ["thing"] ["thing"] (aL t7):=bz
theorem HE:ao ["plain"] ["plain"] (aL t8):=bz
theorem HG:ao ["self", "made", "number", "plain"] ["self", "made"] (aL t9):=bz
theorem HH:ao ["self", "plain", "made"] ["self", "plain"] (aL ua):=bz
theorem HI:ao ["shelf", "plain", "leaves"] ["shelf", "plain"] (aL oS):=bz
theorem HJ:ao ["signs"] ["signs"] (aL ub):=bz
theorem HK:ao ["self", "text"] ["self", "text"] (aL uc):=bz
theorem HL:ao ["self", "text"] ["self", "text"] (aL ud):=bz
theorem HM:ao ["self", "text"] ["self", "text"] (aL ue):=bz
theorem HN:ao ["self", "text"] ["self", "text"] (aL uf):=bz
theorem HP:ao ["shelf", "one", "other"] ["shelf", "one", "other"] (aL ug):=bz
theorem HQ:ao ["self", "number"] ["self", "number"] (aL uh):=bz
theorem yM:ao ["shelf", "text", "leaf", "piece"] ["shelf", "text", "leaf"] (aL ui):=bz
theorem HR:ao ["self", "text"] ["self", "text"] (aL uj):=bz
theorem HS:ao ["shelf", "one", "other", "piece", "near", "far", "inner"] ["shelf", "one", "other"] (aL uk):=bz
theorem yN:ao ["shelf", "text", "piece", "rest"] ["shelf", "text"] (aL um):=bz
theorem HU:ao ["shelf", "one", "other", "piece", "far", "near", "inner"] ["shelf", "one", "other"] (aL uo):=bz
theorem yO:ao ["shelf", "one", "other", "tilt", "piece"] ["shelf", "one", "other"] (aL uq):=bz
theorem HW:ao ["shelf", "one", "other", "seam", "front", "back"] ["shelf", "one", "other"] (aL ur):=bz
theorem HX:ao ["shelf", "one", "other"] ["shelf", "one", "other"] (aL uv):=bz
theorem HY:ao ["shelf", "stream", "plain", "way", "parts", "many", "text", "part"] ["shelf", "stream", "plain"] (aL uw):=bz
theorem HZ:ao ["cell", "k", "one"] ["cell", "k"] (aL ux):=bz
theorem Ia:ao ["script", "k", "cell", "j", "found"] ["script", "k"] (aL oT):=bz
theorem Ib:ao ["self"] ["self"] (aL uy):=bz
theorem Ic:ao ["shelf", "number", "piece"] ["shelf", "number"] (aL uz):=bz
theorem Ie:ao ["shelf", "texts", "reached", "ahead", "number"] ["shelf", "texts"] (aL oU):=bz
theorem Ig:ao ["shelf", "texts", "new", "renamed", "number", "piece"] ["shelf", "texts"] (aL oV):=bz
theorem Ih:ao ["shelf", "one", "other", "reached", "other_reached"] ["shelf", "one", "other"] (aL uA):=bz
theorem Ii:ao ["shelf", "ask", "texts", "caught", "many", "handed", "e"] ["shelf", "ask", "texts"] (aL uB):=bz
theorem Ij:ao ["script", "shelf", "plain", "text", "stream", "far", "texts", "ask", "odd", "at"] ["script"] (aL kz):=bz
section
variable {P:Program} {w:World} {K:PySem.W.Frag} {cls exc:Nat->Option Addr} {mg:Str->Option Value} {base:Heap} (Z:je P w K cls exc mg base)
include Z
theorem yP:GK P w (bf K cls exc) mg base 1 0 "Shelf" i3:=gk Z.d_Shelf_init Hr λhr C hu nd =>
 (az (iV rfl Z.cf_Shelf (ah 0) (gU aq))
  (az (iV rfl Z.cf_Shelf (ah 0) Dt)
  (az (iV rfl Z.cf_Shelf (ah 0) (gU (aj aB aq)))
  (az (iV rfl Z.cf_Shelf (ah 0) (gU (aj aB aq)))
  (az (iV rfl Z.cf_Shelf (ah 0) (gU (aj aB aq)))
  (az (iV rfl Z.cf_Shelf (ah 0) (gU (aj (nq aB) aq)))
  (az (iV rfl Z.cf_Shelf (ah 0) (gU (aj aB aq)))
  (aE (iV rfl Z.cf_Shelf (ah 0) (gU (aj aB aq)))))))))))
theorem jg:GF P w (bf K cls exc) mg base 1 "_law_take" cZ:=gf Z.d_law_take Hs λhr C hu nd =>
 (az (aU (i:=2) nd (aQ jJ (ax rfl hu (ah 0) aB) (ah 1)))
  (az (lC hu (ah 0) aB (aQ v7 (ax rfl hu (ah 0) aB) (ah 1)))
  (aE (aT (ah 2)))))
theorem Ik:GF P w (bf K cls exc) mg base 2 "_law_plain" lL:=gf Z.d_law_plain Ht λhr C hu nd =>
 (az (aU (i:=2) nd bO)
  (az (aU (i:=3) nd (aQ (cC rfl) (aQ (cC rfl) (ah 2) (wK rfl PySem.F.plainAttrs_str PySem.F.slot_str_upper PySem.F.type_str_upper (Eh) wJ (ah 2))) bO))
  (az (aU (i:=4) nd (ax rfl hu (fI (aj bO (aj bO (aj bO (aj bO (aj (ah 3) aq)))))) (aZ rfl C (jg Z) hr.m rfl (aj (ah 0) (aj aB aq)))))
  (az (aU (i:=5) nd bO)
  (az (jO rfl (nB (E:=EN) rfl Z.b_range (aZ rfl (C.nox) (jg Z) hr.m rfl (aj (ah 0) (aj (aQ (cC rfl) (ah 1) aB) aq)))) (ij (i:=6) nd) (aE (aU (i:=5) nd (aQ (cC rfl) (ah 5) (ax rfl hu (ah 4) (aZ rfl (C.nox) (jg Z) hr.m rfl (aj (ah 0) (aj (bJ (b_len rfl) rfl Z.b_len PySem.boot_len (aj (ah 4) aq)) aq))))))))
  (aE (aT (ah 5))))))))
theorem Il:GF P w (bf K cls exc) mg base 1 "is_whole" nS:=gf Z.d_is_whole Hu λhr C hu nd =>
 (aE (aT (qI (qZ rfl rfl Z.b_isinstance (ah 0) rfl Z.b_int vy (by decide)) (nu (Dr (qZ rfl rfl Z.b_isinstance (ah 0) rfl Z.b_bool B5 (by decide)))))))
theorem Im:GM P w (bf K cls exc) mg base 2 0 "has_piece" nT:=gm Z.d_Shelf_has_piece Hv (show ("has_piece" : Str)∉bG 0 by decide +kernel) λhr C hu nd =>
 (aE (aT (qI (aZ rfl C (Il Z) hr.m rfl (aj (ah 1) aq)) (nu (qH dJ dJ aB (ah 1) (bJ (b_len rfl) rfl Z.b_len PySem.boot_len (aj (bt rfl Z.cf_Shelf (ah 0)) aq)))))))
theorem oW:GM P w (bf K cls exc) mg base 3 0 "check_piece" iB:=gm Z.d_Shelf_check_piece Hw (show ("check_piece" : Str)∉bG 0 by decide +kernel) λhr C hu nd =>
 (aE (aK (lh (jK rfl (aR rfl C (Im Z) hr.m (ah 0) (aj (ah 1) aq)))) (aE (iW Z.x_NoPiece iP rfl (aj bO aq))) bL))
theorem Io:GM P w (bf K cls exc) mg base 4 0 "check_fork" i4:=gm Z.d_Shelf_check_fork Hx (show ("check_fork" : Str)∉bG 0 by decide +kernel) λhr C hu nd =>
 (az (cu (aR rfl C (oW Z) hr.m (ah 0) (aj (ah 1) aq)))
  (az (cu (aR rfl C (oW Z) hr.m (ah 0) (aj (ah 2) aq)))
  (az (aU (i:=3) nd (aQ (cC rfl) (ax rfl hu (bt rfl Z.cf_Shelf (ah 0)) (ax rfl hu (bt rfl Z.cf_Shelf (ah 0)) (ah 1))) (ax rfl hu (bt rfl Z.cf_Shelf (ah 0)) (ax rfl hu (bt rfl Z.cf_Shelf (ah 0)) (ah 2)))))
  (az (aK (bE dJ (ah 3) (eC rfl Z.c_LEAF_SIGNS) (bH _)) (aE (iW Z.x_Loose iP rfl (aj bO aq))) bL)
  (az (aK (bE fH (bJ (b_abs) rfl Z.b_abs PyProof.Rows.boot_abs (aj (aQ jI (ax rfl hu (bt rfl Z.cf_Shelf (ah 0)) (ah 1)) (ax rfl hu (bt rfl Z.cf_Shelf (ah 0)) (ah 2))) aq)) aB (bH _)) (aE (iW Z.x_Unlevel iP rfl (aj bO aq))) bL)
  (aE (aK (bE fH (aQ (cC rfl) (ax rfl hu (bt rfl Z.cf_Shelf (ah 0)) (ah 1)) (ax rfl hu (bt rfl Z.cf_Shelf (ah 0)) (ah 2))) (eC rfl Z.c_MOST_SIGNS) (bH _)) (aE (iW Z.x_TooLong iP rfl (aj bO aq))) bL)))))))
theorem yQ:GM P w (bf K cls exc) mg base 1 0 "lay" lM:=gm Z.d_Shelf_lay Hy (show ("lay" : Str)∉bG 0 by decide +kernel) λhr C hu nd =>
 (az (cu (bX rfl PySem.F.plainAttrs_list PySem.F.slot_list_append PySem.F.type_list_append (fy) eO (bt rfl Z.cf_Shelf (ah 0)) (aj (ah 1) aq)))
  (az (aU (i:=2) nd (bJ (b_len rfl) rfl Z.b_len PySem.boot_len (aj (bt rfl Z.cf_Shelf (ah 0)) aq)))
  (az (lC hu (bt rfl Z.cf_Shelf (ah 0)) (ah 1) (ah 2))
  (aE (aT (ah 2))))))
theorem Ip:GM P w (bf K cls exc) mg base 2 0 "lay_fork" lN:=gm Z.d_Shelf_lay_fork Hz (show ("lay_fork" : Str)∉bG 0 by decide +kernel) λhr C hu nd =>
 (az (cu (aR rfl C (yQ Z) hr.m (ah 0) (aj (ah 1) aq)))
  (az (aU (i:=2) nd (ax rfl hu (ah 1) aB))
  (az (aU (i:=3) nd (ax rfl hu (ah 1) aB))
  (az (cu (bX rfl PySem.F.plainAttrs_list PySem.F.slot_list_append PySem.F.type_list_append (fy) eO (bt rfl Z.cf_Shelf (ah 0)) (aj (aQ (cC rfl) (ax rfl hu (bt rfl Z.cf_Shelf (ah 0)) (ah 2)) (ax rfl hu (bt rfl Z.cf_Shelf (ah 0)) (ah 3))) aq)))
  (az (cu (bX rfl PySem.F.plainAttrs_list PySem.F.slot_list_append PySem.F.type_list_append (fy) eO (bt rfl Z.cf_Shelf (ah 0)) (aj (aQ (cC rfl) (ax rfl hu (bt rfl Z.cf_Shelf (ah 0)) (ah 2)) (ax rfl hu (bt rfl Z.cf_Shelf (ah 0)) (ah 3))) aq)))
  (az (cu (bX rfl PySem.F.plainAttrs_list PySem.F.slot_list_append PySem.F.type_list_append (fy) eO (bt rfl Z.cf_Shelf (ah 0)) (aj (aQ (cC rfl) (ax rfl hu (bt rfl Z.cf_Shelf (ah 0)) (ah 2)) (ax rfl hu (bt rfl Z.cf_Shelf (ah 0)) (ah 3))) aq)))
  (az (cu (bX rfl PySem.F.plainAttrs_list PySem.F.slot_list_append PySem.F.type_list_append (fy) eO (bt rfl Z.cf_Shelf (ah 0)) (aj (aQ (cC rfl) (bJ (wF) rfl Z.b_max PyProof.Rows.boot_max (aj (ax rfl hu (bt rfl Z.cf_Shelf (ah 0)) (ah 2)) (aj (ax rfl hu (bt rfl Z.cf_Shelf (ah 0)) (ah 3)) aq))) aB) aq)))
  (az (cu (bX rfl PySem.F.plainAttrs_list PySem.F.slot_list_append PySem.F.type_list_append (fy) eO (bt rfl Z.cf_Shelf (ah 0)) (aj (ax rfl hu (bt rfl Z.cf_Shelf (ah 0)) (ah 2)) aq)))
  (aE (cu (bX rfl PySem.F.plainAttrs_list PySem.F.slot_list_append PySem.F.type_list_append (fy) eO (bt rfl Z.cf_Shelf (ah 0)) (aj (ax rfl hu (bt rfl Z.cf_Shelf (ah 0)) (ah 3)) aq))))))))))))
theorem eU:GM P w (bf K cls exc) mg base 5 0 "fork" aN:=gm Z.d_Shelf_fork HA (show ("fork" : Str)∉bG 0 by decide +kernel) λhr C hu nd =>
 (az (cu (aR rfl C (Io Z) hr.m (ah 0) (aj (ah 1) (aj (ah 2) aq))))
  (az (aU (i:=3) nd (qK (aj bO (aj (ah 1) (aj (ah 2) aq)))))
  (az (aK (bE (qX rfl hu) (ah 3) (bt rfl Z.cf_Shelf (ah 0)) rfl) (aE (cu (aR rfl C (Ip Z) hr.m (ah 0) (aj (ah 3) aq)))) bL)
  (aE (aT (ax rfl hu (bt rfl Z.cf_Shelf (ah 0)) (ah 3)))))))
theorem uC:∀ d,GF P w (bf K cls exc) mg base (5+d+1) "halved" (gC d)
 | 0=>gf Z.d_halved yL λ_ _ _ _=>nK
 | d+1=>gf Z.d_halved yL λhr C hu nd =>
  (az (aK (bE (cq rfl hu) (bJ (b_len rfl) rfl Z.b_len PySem.boot_len (aj (ah 1) aq)) aB (bH _)) (aE (aT (ax rfl hu (ah 1) aB))) bL)
  (az (aU (i:=2) nd (aQ v7 (bJ (b_len rfl) rfl Z.b_len PySem.boot_len (aj (ah 1) aq)) aB))
  (aE (aT (aR rfl C (eU Z) (hr.mono (show 5<=5+(d+1) by lia)) (ah 0) (aj (aZ rfl C (uC d) (hr.mono (by lia)) rfl (aj (ah 0) (aj (iw rfl (ah 1) iX (gW (ah 2))) aq))) (aj (aZ rfl C (uC d) (hr.mono (by lia)) rfl (aj (ah 0) (aj (iw rfl (ah 1) (gW (ah 2)) iX) aq))) aq)))))))
theorem Iq:GF P w (bf K cls exc) mg base 1 "is_plain_sign" lO:=gf Z.d_is_plain_sign HB λhr C hu nd =>
 (aE (aT (qJ (v9 (cq rfl hu) (ah 0) bO (bH _)) (nu (qH dJ dJ bO (ah 0) bO)))))
theorem yR:GF P w (bf K cls exc) mg base 2 "is_plain" lP:=gf Z.d_is_plain HC λ{f cdv A outer s H E} hr C hu nd =>
 (az (aK (lh (jK rfl (qZ rfl rfl Z.b_isinstance (ah 0) rfl Z.b_str B6 (by decide)))) (aE (aT fh)) bL)
  (aE (aT (bJ (b_all rfl) rfl Z.b_all PyProof.Rows.boot_all (aj (qQ (jf:=[]) (jQ (N:=["thing"]) (sc:=aL oR) rfl (λ_=>rfl) (by decide +kernel)) rfl (iU (E:=(λ_=>E)) rfl (ah 0)) (λ_ _ _ _ _=>ke) (λ_ _ _ _ _=>(aZ rfl (CA.never rfl) (Iq Z) hr.m rfl (aj (ah 0) aq)))) aq)))))
theorem Ir:GF P w (bf K cls exc) mg base 3 "is_short" nU:=gf Z.d_is_short HD λhr C hu nd =>
 (aE (aT (qI (aZ rfl C (yR Z) hr.m rfl (aj (ah 0) aq)) (nu (qH dJ dJ aB (bJ (b_len rfl) rfl Z.b_len PySem.boot_len (aj (ah 0) aq)) (eC rfl Z.c_LEAF_SIGNS))))))
theorem Iu:GF P w (bf K cls exc) mg base 1 "ends_in" nV:=gf Z.d_ends_in HE λhr C hu nd =>
 (aE (aT (bX rfl PySem.F.plainAttrs_str PySem.F.slot_str_count PySem.F.type_str_count (D4) wJ (ah 0) (aj bO aq))))
theorem Iv:GM P w (bf K cls exc) mg base 2 0 "lay_leaf" lQ:=gm Z.d_Shelf_lay_leaf HG (show ("lay_leaf" : Str)∉bG 0 by decide +kernel) λhr C hu nd =>
 (az (aU (i:=2) nd (aR rfl C (yQ Z) hr.m (ah 0) (aj (ah 1) aq)))
  (az (aU (i:=3) nd (ax rfl hu (ah 1) aB))
  (az (cu (bX rfl PySem.F.plainAttrs_list PySem.F.slot_list_append PySem.F.type_list_append (fy) eO (bt rfl Z.cf_Shelf (ah 0)) (aj (bJ (b_len rfl) rfl Z.b_len PySem.boot_len (aj (ah 3) aq)) aq)))
  (az (cu (bX rfl PySem.F.plainAttrs_list PySem.F.slot_list_append PySem.F.type_list_append (fy) eO (bt rfl Z.cf_Shelf (ah 0)) (aj (aZ rfl C (Iu Z) hr.m rfl (aj (ah 3) aq)) aq)))
  (az (cu (bX rfl PySem.F.plainAttrs_list PySem.F.slot_list_append PySem.F.type_list_append (fy) eO (bt rfl Z.cf_Shelf (ah 0)) (aj aB aq)))
  (az (cu (bX rfl PySem.F.plainAttrs_list PySem.F.slot_list_append PySem.F.type_list_append (fy) eO (bt rfl Z.cf_Shelf (ah 0)) (aj aB aq)))
  (az (cu (bX rfl PySem.F.plainAttrs_list PySem.F.slot_list_append PySem.F.type_list_append (fy) eO (bt rfl Z.cf_Shelf (ah 0)) (aj (ah 2) aq)))
  (aE (cu (bX rfl PySem.F.plainAttrs_list PySem.F.slot_list_append PySem.F.type_list_append (fy) eO (bt rfl Z.cf_Shelf (ah 0)) (aj (ah 2) aq)))))))))))
theorem uD:GM P w (bf K cls exc) mg base 4 0 "leaf" dR:=gm Z.d_Shelf_leaf HH (show ("leaf" : Str)∉bG 0 by decide +kernel) λhr C hu nd =>
 (az (aK (lh (jK rfl (aZ rfl C (Ir Z) hr.m rfl (aj (ah 1) aq)))) (aE (iW Z.x_NoText iP rfl (aj bO aq))) bL)
  (az (aU (i:=2) nd (qK (aj bO (aj (ah 1) aq))))
  (az (aK (bE (qX rfl hu) (ah 2) (bt rfl Z.cf_Shelf (ah 0)) rfl) (aE (cu (aR rfl C (Iv Z) hr.m (ah 0) (aj (ah 2) aq)))) bL)
  (aE (aT (ax rfl hu (bt rfl Z.cf_Shelf (ah 0)) (ah 2)))))))
theorem uE:GF P w (bf K cls exc) mg base 27 "built" jU:=gf Z.d_built HI λ{f cdv A outer s H E} hr C hu nd =>
 (az (aK (lh (jK rfl (aZ rfl C (yR Z) hr.m rfl (aj (ah 1) aq)))) (aE (iW Z.x_NoText iP rfl (aj bO aq))) bL)
  (az (aK (bE fH (bJ (b_len rfl) rfl Z.b_len PySem.boot_len (aj (ah 1) aq)) (eC rfl Z.c_MOST_PLAIN) (bH _)) (aE (iW Z.x_TooLong iP rfl (aj bO aq))) bL)
  (az (aK (bE (cq rfl hu) (ah 1) bO (bH _)) (aE (aT aB)) bL)
  (az (qR (jf:=[(0, "shelf"),(1, "plain")]) (jQ (N:=["shelf", "plain", "leaves"]) (sc:=aL oS) rfl (λ_=>rfl) (by decide +kernel)) rfl (wO (E:=(λ_=>E)) rfl Z.b_range aB (bJ (b_len rfl) rfl Z.b_len PySem.boot_len (aj (ah 1) aq)) (eC rfl Z.c_LEAF_SIGNS)) (λ_ _ _ _ _=>ke) (λ_ _ _ _ _=>(aR rfl (CA.never rfl) (uD Z) hr.m (ah 1) (aj (iw rfl (ah 2) (gW (ah 0)) (gW (aQ (cC rfl) (ah 0) (eC rfl Z.c_LEAF_SIGNS)))) aq))) nd (i:=2))
  (aE (aT (aZ rfl C (uC Z 20) hr.m rfl (aj (ah 0) (aj (ah 2) aq)))))))))
theorem Iw:GF P w (bf K cls exc) mg base 1 "check_length" nW:=gf Z.d_check_length HJ λhr C hu nd =>
 (aE (aK (bE fH (ah 0) (eC rfl Z.c_MOST_SIGNS) (bH _)) (aE (iW Z.x_TooLong iP rfl (aj bO aq))) bL))
theorem oX:GM P w (bf K cls exc) mg base 4 0 "check_text" i5:=gm Z.d_Shelf_check_text HK (show ("check_text" : Str)∉bG 0 by decide +kernel) λhr C hu nd =>
 (aE (aK (bE (dj rfl hu) (ah 1) aB (bH _)) (aE (cu (aR rfl C (oW Z) hr.m (ah 0) (aj (ah 1) aq)))) bL))
theorem oY:GM P w (bf K cls exc) mg base 5 0 "signs" iC:=gm Z.d_Shelf_signs HL (show ("signs" : Str)∉bG 0 by decide +kernel) λhr C hu nd =>
 (az (cu (aR rfl C (oX Z) hr.m (ah 0) (aj (ah 1) aq)))
  (aE (aT (ax rfl hu (bt rfl Z.cf_Shelf (ah 0)) (ah 1)))))
theorem yS:GM P w (bf K cls exc) mg base 5 0 "last_leaf" lR:=gm Z.d_Shelf_last_leaf HM (show ("last_leaf" : Str)∉bG 0 by decide +kernel) λhr C hu nd =>
 (az (cu (aR rfl C (oX Z) hr.m (ah 0) (aj (ah 1) aq)))
  (aE (aT (ax rfl hu (bt rfl Z.cf_Shelf (ah 0)) (ah 1)))))
theorem yT:GM P w (bf K cls exc) mg base 5 0 "first_leaf" lS:=gm Z.d_Shelf_first_leaf HN (show ("first_leaf" : Str)∉bG 0 by decide +kernel) λhr C hu nd =>
 (az (cu (aR rfl C (oX Z) hr.m (ah 0) (aj (ah 1) aq)))
  (aE (aT (ax rfl hu (bt rfl Z.cf_Shelf (ah 0)) (ah 1)))))
theorem Iy:GF P w (bf K cls exc) mg base 6 "are_close" nX:=gf Z.d_are_close HP λhr C hu nd =>
 (aE (aT (v9 fH (aQ (cC rfl) (aR rfl C (oY Z) hr.m (ah 0) (aj (aR rfl C (yS Z) hr.m (ah 0) (aj (ah 1) aq)) aq)) (aR rfl C (oY Z) hr.m (ah 0) (aj (aR rfl C (yT Z) hr.m (ah 0) (aj (ah 2) aq)) aq))) (eC rfl Z.c_LEAF_SIGNS) (bH _))))
theorem gr:GM P w (bf K cls exc) mg base 4 0 "piece" cU:=gm Z.d_Shelf_piece HQ (show ("piece" : Str)∉bG 0 by decide +kernel) λhr C hu nd =>
 (az (cu (aR rfl C (oW Z) hr.m (ah 0) (aj (ah 1) aq)))
  (aE (aT (ax rfl hu (bt rfl Z.cf_Shelf (ah 0)) (aQ jI (ah 1) aB)))))
theorem yU:∀ d,GF P w (bf K cls exc) mg base (5+d+1) "with_last" (fZ d)
 | 0=>gf Z.d_with_last yM λ_ _ _ _=>nK
 | d+1=>gf Z.d_with_last yM λhr C hu nd =>
  (az (aU (i:=3) nd (aR rfl C (gr Z) (hr.mono (show 4<=5+(d+1) by lia)) (ah 0) (aj (ah 1) aq)))
  (az (aK (bE (cq rfl hu) (ax rfl hu (ah 3) aB) bO (bH _)) (aE (aT (ah 2))) bL)
  (aE (aT (aR rfl C (eU Z) (hr.mono (show 5<=5+(d+1) by lia)) (ah 0) (aj (ax rfl hu (ah 3) aB) (aj (aZ rfl C (yU d) (hr.mono (by lia)) rfl (aj (ah 0) (aj (ax rfl hu (ah 3) aB) (aj (ah 2) aq)))) aq)))))))
theorem g8:GM P w (bf K cls exc) mg base 5 0 "height" fP:=gm Z.d_Shelf_height HR (show ("height" : Str)∉bG 0 by decide +kernel) λhr C hu nd =>
 (az (cu (aR rfl C (oX Z) hr.m (ah 0) (aj (ah 1) aq)))
  (aE (aT (ax rfl hu (bt rfl Z.cf_Shelf (ah 0)) (ah 1)))))
theorem yV:GF P w (bf K cls exc) mg base 6 "turned_left" fz:=gf Z.d_turned_left HS λhr C hu nd =>
 (az (aK (bE ig (aQ jI (aR rfl C (g8 Z) hr.m (ah 0) (aj (ah 2) aq)) (aR rfl C (g8 Z) hr.m (ah 0) (aj (ah 1) aq))) aB (bH _)) (aE (aT (aR rfl C (eU Z) hr.m (ah 0) (aj (ah 1) (aj (ah 2) aq))))) bL)
  (az (aU (i:=3) nd (aR rfl C (gr Z) hr.m (ah 0) (aj (ah 2) aq)))
  (az (aU (i:=4) nd (ax rfl hu (ah 3) aB))
  (az (aU (i:=5) nd (ax rfl hu (ah 3) aB))
  (az (aK (bE dJ (aR rfl C (g8 Z) hr.m (ah 0) (aj (ah 4) aq)) (aR rfl C (g8 Z) hr.m (ah 0) (aj (ah 5) aq)) (bH _)) (aE (aT (aR rfl C (eU Z) hr.m (ah 0) (aj (aR rfl C (eU Z) hr.m (ah 0) (aj (ah 1) (aj (ah 4) aq))) (aj (ah 5) aq))))) bL)
  (az (aU (i:=6) nd (aR rfl C (gr Z) hr.m (ah 0) (aj (ah 4) aq)))
  (aE (aT (aR rfl C (eU Z) hr.m (ah 0) (aj (aR rfl C (eU Z) hr.m (ah 0) (aj (ah 1) (aj (ax rfl hu (ah 6) aB) aq))) (aj (aR rfl C (eU Z) hr.m (ah 0) (aj (ax rfl hu (ah 6) aB) (aj (ah 5) aq))) aq)))))))))))
theorem yW:∀ d,GF P w (bf K cls exc) mg base (6+d+1) "without_first" (eP d)
 | 0=>gf Z.d_without_first yN λ_ _ _ _=>nK
 | d+1=>gf Z.d_without_first yN λhr C hu nd =>
  (az (aU (i:=2) nd (aR rfl C (gr Z) (hr.mono (show 4<=6+(d+1) by lia)) (ah 0) (aj (ah 1) aq)))
  (az (aK (bE (cq rfl hu) (ax rfl hu (ah 2) aB) bO (bH _)) (aE (aT aB)) bL)
  (az (aU (i:=3) nd (aZ rfl C (yW d) (hr.mono (by lia)) rfl (aj (ah 0) (aj (ax rfl hu (ah 2) aB) aq))))
  (az (aK (bE (cq rfl hu) (ah 3) aB (bH _)) (aE (aT (ax rfl hu (ah 2) aB))) bL)
  (aE (aT (aZ rfl C (yV Z) (hr.mono (show 6<=6+(d+1) by lia)) rfl (aj (ah 0) (aj (ah 3) (aj (ax rfl hu (ah 2) aB) aq))))))))))
theorem Iz:GF P w (bf K cls exc) mg base 6 "turned_right" gD:=gf Z.d_turned_right HU λhr C hu nd =>
 (az (aK (bE ig (aQ jI (aR rfl C (g8 Z) hr.m (ah 0) (aj (ah 1) aq)) (aR rfl C (g8 Z) hr.m (ah 0) (aj (ah 2) aq))) aB (bH _)) (aE (aT (aR rfl C (eU Z) hr.m (ah 0) (aj (ah 1) (aj (ah 2) aq))))) bL)
  (az (aU (i:=3) nd (aR rfl C (gr Z) hr.m (ah 0) (aj (ah 1) aq)))
  (az (aU (i:=4) nd (ax rfl hu (ah 3) aB))
  (az (aU (i:=5) nd (ax rfl hu (ah 3) aB))
  (az (aK (bE dJ (aR rfl C (g8 Z) hr.m (ah 0) (aj (ah 5) aq)) (aR rfl C (g8 Z) hr.m (ah 0) (aj (ah 4) aq)) (bH _)) (aE (aT (aR rfl C (eU Z) hr.m (ah 0) (aj (ah 4) (aj (aR rfl C (eU Z) hr.m (ah 0) (aj (ah 5) (aj (ah 2) aq))) aq))))) bL)
  (az (aU (i:=6) nd (aR rfl C (gr Z) hr.m (ah 0) (aj (ah 5) aq)))
  (aE (aT (aR rfl C (eU Z) hr.m (ah 0) (aj (aR rfl C (eU Z) hr.m (ah 0) (aj (ah 4) (aj (ax rfl hu (ah 6) aB) aq))) (aj (aR rfl C (eU Z) hr.m (ah 0) (aj (ax rfl hu (ah 6) aB) (aj (ah 2) aq))) aq)))))))))))
theorem oZ:∀ d,GF P w (bf K cls exc) mg base (6+d+1) "linked" (eE d)
 | 0=>gf Z.d_linked yO λ_ _ _ _=>nK
 | d+1=>gf Z.d_linked yO λhr C hu nd =>
  (az (aU (i:=3) nd (aQ jI (aR rfl C (g8 Z) (hr.mono (show 5<=6+(d+1) by lia)) (ah 0) (aj (ah 1) aq)) (aR rfl C (g8 Z) (hr.mono (show 5<=6+(d+1) by lia)) (ah 0) (aj (ah 2) aq))))
  (az (aK (bE fH (ah 3) aB (bH _)) (az (aU (i:=4) nd (aR rfl C (gr Z) (hr.mono (show 4<=6+(d+1) by lia)) (ah 0) (aj (ah 1) aq)))
  (aE (aT (aZ rfl C (yV Z) (hr.mono (show 6<=6+(d+1) by lia)) rfl (aj (ah 0) (aj (ax rfl hu (ah 4) aB) (aj (aZ rfl C (oZ d) (hr.mono (by lia)) rfl (aj (ah 0) (aj (ax rfl hu (ah 4) aB) (aj (ah 2) aq)))) aq))))))) bL)
  (az (aK (bE ig (ah 3) (nq aB) (bH _)) (az (aU (i:=4) nd (aR rfl C (gr Z) (hr.mono (show 4<=6+(d+1) by lia)) (ah 0) (aj (ah 2) aq)))
  (aE (aT (aZ rfl C (Iz Z) (hr.mono (show 6<=6+(d+1) by lia)) rfl (aj (ah 0) (aj (aZ rfl C (oZ d) (hr.mono (by lia)) rfl (aj (ah 0) (aj (ah 1) (aj (ax rfl hu (ah 4) aB) aq)))) (aj (ax rfl hu (ah 4) aB) aq))))))) bL)
  (aE (aT (aR rfl C (eU Z) (hr.mono (show 5<=6+(d+1) by lia)) (ah 0) (aj (ah 1) (aj (ah 2) aq))))))))
theorem IA:GF P w (bf K cls exc) mg base 98 "welded" jV:=gf Z.d_welded HW λhr C hu nd =>
 (az (aU (i:=3) nd (aQ (cC rfl) (ax rfl hu (aR rfl C (gr Z) hr.m (ah 0) (aj (aR rfl C (yS Z) hr.m (ah 0) (aj (ah 1) aq)) aq)) aB) (ax rfl hu (aR rfl C (gr Z) hr.m (ah 0) (aj (aR rfl C (yT Z) hr.m (ah 0) (aj (ah 2) aq)) aq)) aB)))
  (az (aU (i:=4) nd (aZ rfl C (yU Z 90) hr.m rfl (aj (ah 0) (aj (ah 1) (aj (aR rfl C (uD Z) hr.m (ah 0) (aj (ah 3) aq)) aq)))))
  (az (aU (i:=5) nd (aZ rfl C (yW Z 90) hr.m rfl (aj (ah 0) (aj (ah 2) aq))))
  (az (aK (bE (cq rfl hu) (ah 5) aB (bH _)) (aE (aT (ah 4))) bL)
  (aE (aT (aZ rfl C (oZ Z 90) hr.m rfl (aj (ah 0) (aj (ah 4) (aj (ah 5) aq))))))))))
theorem yX:GF P w (bf K cls exc) mg base 99 "joined" gb:=gf Z.d_joined HX λhr C hu nd =>
 (az (cu (aZ rfl C (Iw Z) hr.m rfl (aj (aQ (cC rfl) (aR rfl C (oY Z) hr.m (ah 0) (aj (ah 1) aq)) (aR rfl C (oY Z) hr.m (ah 0) (aj (ah 2) aq))) aq)))
  (az (aK (bE (cq rfl hu) (ah 1) aB (bH _)) (aE (aT (ah 2))) bL)
  (az (aK (bE (cq rfl hu) (ah 2) aB (bH _)) (aE (aT (ah 1))) bL)
  (az (aK (jK rfl (aZ rfl C (Iy Z) hr.m rfl (aj (ah 0) (aj (ah 1) (aj (ah 2) aq))))) (aE (aT (aZ rfl C (oZ Z 90) hr.m rfl (aj (ah 0) (aj (ah 1) (aj (ah 2) aq)))))) bL)
  (aE (aT (aZ rfl C (IA Z) hr.m rfl (aj (ah 0) (aj (ah 1) (aj (ah 2) aq))))))))))
theorem IB:GF P w (bf K cls exc) mg base 100 "_law_made" ki:=gf Z.d_law_made HY λhr C hu nd =>
 (az (aU (i:=3) nd (aZ rfl C (jg Z) hr.m rfl (aj (ah 1) (aj aB aq))))
  (az (aK (bE (cq rfl hu) (ah 3) aB (bH _)) (aE (aT (aZ rfl C (uE Z) hr.m rfl (aj (ah 0) (aj (ah 2) aq))))) bL)
  (az (aU (i:=4) nd (gU aq))
  (az (Du fK (bE (dj rfl hu) (ah 2) bO (bH _)) (az (aU (i:=5) nd (aQ (cC rfl) aB (aZ rfl (C.nox) (jg Z) hr.m rfl (aj (ah 1) (aj aB aq)))))
  (az (cu (bX rfl PySem.F.plainAttrs_list PySem.F.slot_list_append PySem.F.type_list_append (fy) eO (ah 4) (aj (iw rfl (ah 2) iX (gW (ah 5))) aq)))
  (aE (aU (i:=2) nd (iw rfl (ah 2) (gW (ah 5)) iX))))))
  (az (aU (i:=6) nd aB)
  (az (aK (bE (cq rfl hu) (ah 3) aB (bH _)) (aE (jO rfl (iU (E:=EN) rfl (ah 4)) (ij (i:=7) nd) (aE (aU (i:=6) nd (aZ rfl (C.nox) (yX Z) hr.m rfl (aj (ah 0) (aj (ah 6) (aj (aZ rfl (C.nox) (uE Z) hr.m rfl (aj (ah 0) (aj (ah 7) aq))) aq)))))))) (aE (Ei rfl rfl rfl Z.b_reversed (ah 4) (ij (i:=7) nd) (aE (aU (i:=6) nd (aZ rfl (C.nox) (yX Z) hr.m rfl (aj (ah 0) (aj (aZ rfl (C.nox) (uE Z) hr.m rfl (aj (ah 0) (aj (ah 7) aq))) (aj (ah 6) aq)))))))))
  (aE (aT (ah 6)))))))))
theorem IC:GF P w (bf K cls exc) mg base 1 "_law_mixed" n5:=gf Z.d_law_mixed HZ λhr C hu nd =>
 (az (aU (i:=2) nd (aQ jJ (aQ ic (aQ (cC rfl) (aQ (cC rfl) (aQ jJ (ah 0) aB) (aQ ic aB (ah 1))) aB) aB) aB))
  (aE (aT (aQ jJ (aQ ic (aQ jJ (aQ ic (ah 2) (ah 2)) aB) aB) aB))))
theorem uF:GF P w (bf K cls exc) mg base 2 "_law_stream" gY:=gf Z.d_law_stream Ia λ{f cdv A outer s H E} hr C hu nd =>
 (az (aU (i:=2) nd aB)
  (az (jO rfl (wO (E:=EN) rfl Z.b_range (ah 1) (bJ (b_len rfl) rfl Z.b_len PySem.boot_len (aj (ah 0) aq)) aB) (ij (i:=3) nd) (aE (aU (i:=2) nd (aQ (cC rfl) (aQ ic (ah 2) (aQ ic (aQ iT aB aB) (aQ iT aB aB))) (aQ jJ (ax rfl hu (ah 0) (ah 3)) (aQ ic (aQ iT aB aB) (aQ iT aB aB)))))))
  (az (aK (bE qG (ah 2) (aQ iT aB aB) (bH _)) (aE (aT (gU (aj (ah 2) aq)))) bL)
  (az (aU (i:=2) nd (aQ (cC rfl) (ah 2) (bJ (b_sum rfl) rfl Z.b_sum PyProof.Rows.boot_sum (aj (qQ (jf:=[]) (jQ (N:=["script", "k", "cell", "j", "found"]) (sc:=aL oT) rfl (λ_=>rfl) (by decide +kernel)) rfl (iU (E:=(λ_=>E)) rfl (ah 0)) (λ_ _ _ _ _=>ke) (λ_ _ _ _ _=>(aQ jJ (ah 0) (aQ iT aB aB)))) aq))))
  (az (aU (i:=4) nd aB)
  (az (jO rfl (nB (E:=EN) rfl Z.b_range aB) (ij (i:=3) nd) (aE (aU (i:=4) nd (aQ (cC rfl) (aQ ic (ah 4) aB) (aZ rfl (C.nox) (IC Z) hr.m rfl (aj (aQ (cC rfl) (aQ (cC rfl) (ah 2) (aQ ic aB (ah 1))) (bJ (b_len rfl) rfl Z.b_len PySem.boot_len (aj (ah 0) aq))) (aj (ah 3) aq)))))))
  (aE (aT (gU (aj (ah 4) aq))))))))))
theorem kB:GM P w (bf K cls exc) mg base 1 0 "many" dS:=gm Z.d_Shelf_many Ib (show ("many" : Str)∉bG 0 by decide +kernel) λhr C hu nd =>
 (aE (aT (bJ (b_len rfl) rfl Z.b_len PySem.boot_len (aj (bt rfl Z.cf_Shelf (ah 0)) aq))))
theorem ID:GF P w (bf K cls exc) mg base 5 "parts_of" jW:=gf Z.d_parts_of Ic λhr C hu nd =>
 (az (aU (i:=2) nd (aR rfl C (gr Z) hr.m (ah 0) (aj (ah 1) aq)))
  (az (aK (bE (cq rfl hu) (ax rfl hu (ah 2) aB) bO (bH _)) (aE (aT (fI aq))) bL)
  (aE (aT (fI (aj (ax rfl hu (ah 2) aB) (aj (ax rfl hu (ah 2) aB) aq)))))))
theorem pd:GF P w (bf K cls exc) mg base 6 "reach_of" cW:=gf Z.d_reach_of Ie λ{f cdv A outer s H E} hr C hu nd =>
 (az (aU (i:=2) nd Ds)
  (az (DJ (jf:=[]) (jQ (N:=["shelf", "texts", "reached", "ahead", "number"]) (sc:=aL oU) rfl (λ_=>rfl) (by decide +kernel)) rfl (iU (E:=(λ_=>E)) rfl (ah 1)) (λ_ _ _ _ _=>DH (bE (dj rfl hu) (ah 0) aB (bH _))) (λ_ _ _ _ _=>(ah 0)) nd (i:=3))
  (az (Ep fK wR (bE (dj rfl hu) (ah 3) (fI aq) (bH _)) (az (aU (i:=4) nd (wK rfl PySem.F.plainAttrs_list PySem.F.slot_list_pop PySem.F.type_list_pop (D3) eO (ah 3)))
  (aE (aK (bE (qX rfl hu) (ah 4) (ah 2) rfl) (az (lC hu (ah 2) (ah 4) fh)
  (aE (cu (bX rfl PySem.F.plainAttrs_list PySem.F.slot_list_extend PySem.F.type_list_extend (Eo rfl) eO (ah 3) (aj (aZ rfl C (ID Z) hr.m rfl (aj (ah 0) (aj (ah 4) aq))) aq))))) bL))))
  (aE (aT (bJ (E8 rfl) rfl Z.b_sorted Hn (aj (ah 2) aq)))))))
theorem IE:GF P w (bf K cls exc) mg base 7 "swept" jX:=gf Z.d_swept Ig λ{f cdv A outer s H E} hr C hu nd =>
 (az (aU (i:=2) nd (wq rfl C (yP Z) hr.m rfl))
  (az (aU (i:=3) nd (Ej aB aB))
  (az (E5 wR rfl rfl (aZ rfl C (pd Z) hr.m rfl (aj (ah 0) (aj (ah 1) aq))) (ij (i:=4) nd) (az (aU (i:=5) nd (aR rfl C (gr Z) hr.m (ah 0) (aj (ah 4) aq)))
  (aE (aK (bE (cq rfl hu) (ax rfl hu (ah 5) aB) bO (bH _)) (aE (lC hu (ah 3) (ah 4) (aR rfl C (uD Z) hr.m (ah 2) (aj (ax rfl hu (ah 5) aB) aq)))) (aE (lC hu (ah 3) (ah 4) (aR rfl C (eU Z) hr.m (ah 2) (aj (ax rfl hu (ah 3) (ax rfl hu (ah 5) aB)) (aj (ax rfl hu (ah 3) (ax rfl hu (ah 5) aB)) aq)))))))))
  (aE (aT (qK (aj (ah 2) (aj (qQ (jf:=[(3, "renamed")]) (jQ (N:=["shelf", "texts", "new", "renamed", "number", "piece"]) (sc:=aL oV) rfl (λ_=>rfl) (by decide +kernel)) rfl (iU (E:=(λ_=>E)) rfl (ah 1)) (λ_ _ _ _ _=>ke) (λ_ _ _ _ _=>(ax rfl hu (ah 1) (ah 0)))) aq))))))))
theorem IF:GF P w (bf K cls exc) mg base 7 "shared" gZ:=gf Z.d_shared Ih λhr C hu nd =>
 (az (aU (i:=3) nd (aZ rfl C (pd Z) hr.m rfl (aj (ah 0) (aj (fI (aj (ah 1) aq)) aq))))
  (az (aU (i:=4) nd (aZ rfl C (pd Z) hr.m rfl (aj (ah 0) (aj (fI (aj (ah 2) aq)) aq))))
  (aE (aT (E9 3 4 rfl rfl rfl Z.b_sorted rfl Z.b_set)))))
theorem pe:GF P w (bf K cls exc) mg base 8 "_law_word" fi:=gf Z.d_law_word Ii λhr C hu nd =>
 (az (aU (i:=3) nd vZ)
  (az (aU (i:=4) nd (kf rfl C (kB Z) hr.m (ah 0)))
  (az (aU (i:=5) nd (lE (b_list rfl) rfl Z.b_list Hm (aj (ah 2) aq)))
  (az (Eb (i:=6) rfl nd rfl Z.ct_SkeinError (λ_ _ Ex2 C2 R2=>(aE (aK (bE (cq rfl hu) (ah 1) aB (bH _)) (aE (cu (aZ rfl C2 (pd Z) hr.m rfl (aj (ah 0) (aj (ah 5) aq))))) (aE (aK (bE (cq rfl hu) (ah 1) aB (bH _)) (aE (cu (aZ rfl C2 (IE Z) hr.m rfl (aj (ah 0) (aj (ah 5) aq))))) (aE (cu (aZ rfl C2 (IF Z) hr.m rfl (aj (ah 0) (aj (ax rfl hu (ah 5) aB) (aj (ax rfl hu (ah 5) (nq aB)) aq))))))))))) (λ_ C3=>(aE (aU (i:=3) nd (ah 6)))))
  (az (aK (jL (wb (bE (dj rfl hu) (ah 5) (ah 2) (bH _)) (wa (bE (dj rfl hu) (kf rfl C (kB Z) hr.m (ah 0)) (ah 4) (bH _))))) (aE (aT bO)) bL)
  (az (aK (bE Dl (ah 3) vZ (bH _)) (aE (aT bO)) bL)
  (az (aK (jL (wb (jK rfl (E4 rfl rfl Z.b_isinstance (ah 3) rfl rfl rfl Z.kx_NoPlace Z.kx_NoText Z.kx_TooLong)) (wa (lh (jK rfl (Ea rfl rfl Z.b_isinstance (ah 3) rfl Z.b_ValueError Ec Z.kx_ValueError)))))) (aE (aT bO)) bL)
  (aE (aT (ax rfl hu (fI (aj bO (aj bO aq))) (lE (b_int) rfl Z.b_int vy (aj (D8 rfl rfl Z.b_isinstance (ah 3) rfl Z.kx_NoPiece) aq))))))))))))
theorem IG {f:Addr} {fd:FuncData} (h4:Fun K "law" "law" kz f fd):FnOk P w K mg base (cf P w) 101 f fd ["script"] (iq (bf K cls exc) rS):=gl (T:=bf K cls exc) h4 Ij λ{cdv A outer s H E} hr C hu nd =>
 (az (aU (i:=1) nd (wq rfl C (yP Z) hr.m rfl))
  (az (aU (i:=2) nd (aZ rfl C (Ik Z) hr.m rfl (aj (aZ rfl C (uF Z) hr.m rfl (aj (ah 0) (aj aB aq))) (aj aB aq))))
  (az (aU (i:=3) nd (aZ rfl C (IB Z) hr.m rfl (aj (ah 1) (aj (aZ rfl C (uF Z) hr.m rfl (aj (ah 0) (aj aB aq))) (aj (ah 2) aq)))))
  (az (aU (i:=4) nd (aZ rfl C (uF Z) hr.m rfl (aj (ah 0) (aj aB aq))))
  (az (aU (i:=5) nd (aQ (cC rfl) aB (aZ rfl C (jg Z) hr.m rfl (aj (ah 4) (aj (aQ iT aB aB) aq)))))
  (az (qR (jf:=[(3, "text"),(4, "stream"),(1, "shelf")]) (jQ (N:=["script", "shelf", "plain", "text", "stream", "far", "texts", "ask", "odd", "at"]) (sc:=aL kz) rfl (λ_=>rfl) (by decide +kernel)) rfl (nB (E:=(λ_=>E)) rfl Z.b_range aB) (λ_ _ _ _ _=>ke) (λ_ _ _ _ _=>(ax rfl hu (fI (aj (ah 1) (aj aB (aj (aQ (cC rfl) aB (aZ rfl (CA.never rfl) (jg Z) hr.m rfl (aj (ah 2) (aj (bJ (wF) rfl Z.b_max PyProof.Rows.boot_max (aj aB (aj (kf rfl (CA.never rfl) (kB Z) hr.m (ah 3)) aq))) aq)))) aq)))) (aZ rfl (CA.never rfl) (jg Z) hr.m rfl (aj (ah 2) (aj aB aq))))) nd (i:=6))
  (az (qR (jf:=[(1, "shelf")]) (jQ (N:=["script", "shelf", "plain", "text", "stream", "far", "texts", "ask", "odd", "at"]) (sc:=aL kz) rfl (λ_=>rfl) (by decide +kernel)) rfl (iU (E:=(λ_=>E)) rfl (ah 6)) (λ_ _ _ _ _=>ke) (λ_ _ _ _ _=>(bJ (DY) rfl Z.b_min PyProof.Rows.boot_min (aj (ah 0) (aj (kf rfl (CA.never rfl) (kB Z) hr.m (ah 1)) aq)))) nd (i:=6))
  (az (jO rfl (nB (E:=EN) rfl Z.b_range aB) (ij (i:=7) nd) (az (aK (bE (dj rfl hu) (aZ rfl (C.nox) (pe Z) hr.m rfl (aj (ah 1) (aj (ah 7) (aj (ah 6) aq)))) bO (bH _)) (aE (aT fh)) bL)
  (aE (jO rfl (iU (E:=EN) rfl (fI (aj (nq aB) (aj (aQ jI aB (ah 5)) (aj (aQ (cC rfl) (kf rfl ((C.nox).nox) (kB Z) hr.m (ah 1)) aB) (aj (aQ (cC rfl) (kf rfl ((C.nox).nox) (kB Z) hr.m (ah 1)) (ah 5)) (aj (aQ jI (aQ iT aB aB) aB) aq))))))) (ij (i:=8) nd) (az (aK (bE (dj rfl hu) (aZ rfl ((C.nox).nox) (pe Z) hr.m rfl (aj (ah 1) (aj (ah 7) (aj (fI (aj (ah 8) aq)) aq)))) bO (bH _)) (aE (aT fh)) bL)
  (az (jO rfl (iU (E:=EN) rfl (fI (aj aB (aj aB aq)))) (ij (i:=9) nd) (aE (aK (bE (dj rfl hu) (aZ rfl (((C.nox).nox).nox) (pe Z) hr.m rfl (aj (ah 1) (aj (ah 7) (aj (aQ (cC rfl) (aQ (cC rfl) (iw rfl (ah 6) iX (gW (ah 9))) (fI (aj (ah 8) aq))) (iw rfl (ah 6) (gW (ah 9)) iX)) aq)))) bO (bH _)) (aE (aT fh)) bL)))
  (aE (aK (jL (Dq (bE ig (ah 7) aB (bH _)) (Dp (bE (dj rfl hu) (aZ rfl ((C.nox).nox) (pe Z) hr.m rfl (aj (ah 1) (aj (ah 7) (aj (aQ (cC rfl) (aQ (cC rfl) (iw rfl (ah 6) iX (gW aB)) (fI (aj (ah 8) aq))) (iw rfl (ah 6) (gW aB) iX)) aq)))) bO (bH _))))) (aE (aT fh)) bL))))))))
  (aE (aT fh))))))))))
end
end Sk
namespace Sk
open PySem PySem.Spec L2 Sm
abbrev FX (l:PySem.W.OpenLaw) (w:World) (K:PySem.W.Frag) (mg:Str->Option Value) (fa:Addr):Prop:=∃ fd:FuncData,(∀ (s:Shared) (v:Value),BindsTo s fd ⟨[v],[]⟩ [("script",v)])/\∀ base:Heap,K.In base->base.Ns mainGlobals mg->FnOk l.prog w K mg base (cf l.prog w) 101 fa fd ["script"] (rh K)
theorem all_mk {l:PySem.W.OpenLaw} {w:World} {K:PySem.W.Frag} {h:Heap} {mg:Str->Option Value} {fa C0 X0 X1 X2 X3 X4 X5 X6:Addr} {tk_LEAF_SIGNS tk_MOST_PLAIN tk_MOST_SIGNS:Tok} (X:K.In h) (G:h.Ns mainGlobals mg) (hfa:mg "law" = some (.ref fa))
  (aC0:NA K "Shelf" (some (.ref C0))) (a0:DN K C0 "__init__" "Shelf.__init__" tM) (a4:DN K C0 "has_piece" "Shelf.has_piece" tR) (a5:DN K C0 "check_piece" "Shelf.check_piece" tU) (a6:DN K C0 "check_fork" "Shelf.check_fork" tV) (a7:DN K C0 "lay" "Shelf.lay" tW) (a8:DN K C0 "lay_fork" "Shelf.lay_fork" tX) (a9:DN K C0 "fork" "Shelf.fork" tY) (a15:DN K C0 "lay_leaf" "Shelf.lay_leaf" t9) (a16:DN K C0 "leaf" "Shelf.leaf" ua) (a19:DN K C0 "check_text" "Shelf.check_text" uc) (a20:DN K C0 "signs" "Shelf.signs" ud) (a21:DN K C0 "last_leaf" "Shelf.last_leaf" ue) (a22:DN K C0 "first_leaf" "Shelf.first_leaf" uf) (a24:DN K C0 "piece" "Shelf.piece" uh) (a26:DN K C0 "height" "Shelf.height" uj) (a36:DN K C0 "many" "Shelf.many" uy) (a1:DK K "_law_take" tN) (a2:DK K "_law_plain" tP) (a3:DK K "is_whole" tQ) (a10:DK K "halved" tZ) (a11:DK K "is_plain_sign" t5) (a12:DK K "is_plain" oR) (a13:DK K "is_short" t7) (a14:DK K "ends_in" t8) (a17:DK K "built" oS) (a18:DK K "check_length" ub) (a23:DK K "are_close" ug) (a25:DK K "with_last" ui) (a27:DK K "turned_left" uk) (a28:DK K "without_first" um) (a29:DK K "turned_right" uo) (a30:DK K "linked" uq) (a31:DK K "welded" ur) (a32:DK K "joined" uv) (a33:DK K "_law_made" uw) (a34:DK K "_law_mixed" ux) (a35:DK K "_law_stream" oT) (a37:DK K "parts_of" uz) (a38:DK K "reach_of" oU) (a39:DK K "swept" oV) (a40:DK K "shared" uA) (a41:DK K "_law_word" uB) (a42:DK K "law" kz) (kk0:Cls K C0) (mk0:PySem.W.makesIn K C0=true) (kc0:PySem.W.keepIn K (.ref C0)=true) (nf0_0:FA K C0 "pieces") (nf0_1:FA K C0 "numbers") (nf0_2:FA K C0 "sign_counts") (nf0_3:FA K C0 "end_counts") (nf0_4:FA K C0 "leaf_counts") (nf0_5:FA K C0 "heights") (nf0_6:FA K C0 "first_leaves") (nf0_7:FA K C0 "last_leaves") (z_ValueError:NA K "ValueError" none) (z_abs:NA K "abs" none) (z_all:NA K "all" none) (z_bool:NA K "bool" none) (z_int:NA K "int" none) (z_isinstance:NA K "isinstance" none) (z_len:NA K "len" none) (z_list:NA K "list" none) (z_max:NA K "max" none) (z_min:NA K "min" none) (z_range:NA K "range" none) (z_reversed:NA K "reversed" none) (z_set:NA K "set" none) (z_sorted:NA K "sorted" none) (z_str:NA K "str" none) (z_sum:NA K "sum" none) (e_SkeinError:NA K "SkeinError" (some (.ref X0))) (e_NoText:NA K "NoText" (some (.ref X1))) (x_NoText:XI K X1) (e_NoPiece:NA K "NoPiece" (some (.ref X2))) (x_NoPiece:XI K X2) (e_Loose:NA K "Loose" (some (.ref X3))) (x_Loose:XI K X3) (e_Unlevel:NA K "Unlevel" (some (.ref X4))) (x_Unlevel:XI K X4) (e_TooLong:NA K "TooLong" (some (.ref X5))) (x_TooLong:XI K X5) (e_NoPlace:NA K "NoPlace" (some (.ref X6))) (m_LEAF_SIGNS:NA K "LEAF_SIGNS" (some (.int 8 tk_LEAF_SIGNS))) (m_MOST_PLAIN:NA K "MOST_PLAIN" (some (.int 10000 tk_MOST_PLAIN))) (m_MOST_SIGNS:NA K "MOST_SIGNS" (some (.int 1000000000000000000 tk_MOST_SIGNS))) (y0:aW K X0) (y1:aW K X1) (y2:aW K X2) (y3:aW K X3) (y4:aW K X4) (y5:aW K X5) (y6:aW K X6) (kt_NoPiece_0:KO K X0 X2 false) (kt_NoPiece_1:KO K X1 X2 false) (kt_NoPiece_2:KO K X2 X2 true) (kt_NoPiece_3:KO K X3 X2 false) (kt_NoPiece_4:KO K X4 X2 false) (kt_NoPiece_5:KO K X5 X2 false) (kt_NoPiece_6:KO K X6 X2 false) (kt_NoPlace_0:KO K X0 X6 false) (kt_NoPlace_1:KO K X1 X6 false) (kt_NoPlace_2:KO K X2 X6 false) (kt_NoPlace_3:KO K X3 X6 false) (kt_NoPlace_4:KO K X4 X6 false) (kt_NoPlace_5:KO K X5 X6 false) (kt_NoPlace_6:KO K X6 X6 true) (kt_NoText_0:KO K X0 X1 false) (kt_NoText_1:KO K X1 X1 true) (kt_NoText_2:KO K X2 X1 false) (kt_NoText_3:KO K X3 X1 false) (kt_NoText_4:KO K X4 X1 false) (kt_NoText_5:KO K X5 X1 false) (kt_NoText_6:KO K X6 X1 false) (kt_TooLong_0:KO K X0 X5 false) (kt_TooLong_1:KO K X1 X5 false) (kt_TooLong_2:KO K X2 X5 false) (kt_TooLong_3:KO K X3 X5 false) (kt_TooLong_4:KO K X4 X5 false) (kt_TooLong_5:KO K X5 X5 true) (kt_TooLong_6:KO K X6 X5 false) (kt_ValueError_0:PySem.W.kitOne K (.ref X0) (.type "ValueError")=some true) (kt_ValueError_1:PySem.W.kitOne K (.ref X1) (.type "ValueError")=some true) (kt_ValueError_2:PySem.W.kitOne K (.ref X2) (.type "ValueError")=some true) (kt_ValueError_3:PySem.W.kitOne K (.ref X3) (.type "ValueError")=some true) (kt_ValueError_4:PySem.W.kitOne K (.ref X4) (.type "ValueError")=some true) (kt_ValueError_5:PySem.W.kitOne K (.ref X5) (.type "ValueError")=some true) (kt_ValueError_6:PySem.W.kitOne K (.ref X6) (.type "ValueError")=some true) (em_SkeinError_0:XO K X0 X0) (em_SkeinError_1:XO K X1 X0) (em_SkeinError_2:XO K X2 X0) (em_SkeinError_3:XO K X3 X0) (em_SkeinError_4:XO K X4 X0) (em_SkeinError_5:XO K X5 X0) (em_SkeinError_6:XO K X6 X0)
  : FX l w K mg fa:=by
 have Z:∀ base:Heap,K.In base->je l.prog w K (λn=>[C0][n]?) (λn=>[X0,X1,X2,X3,X4,X5,X6][n]?) mg base:=λbase KB=>{
   b_ValueError:=PySem.W.mg_none_of X G z_ValueError,
   b_abs:=PySem.W.mg_none_of X G z_abs,
   b_all:=PySem.W.mg_none_of X G z_all,
   b_bool:=PySem.W.mg_none_of X G z_bool,
   b_int:=PySem.W.mg_none_of X G z_int,
   b_isinstance:=PySem.W.mg_none_of X G z_isinstance,
   b_len:=PySem.W.mg_none_of X G z_len,
   b_list:=PySem.W.mg_none_of X G z_list,
   b_max:=PySem.W.mg_none_of X G z_max,
   b_min:=PySem.W.mg_none_of X G z_min,
   b_range:=PySem.W.mg_none_of X G z_range,
   b_reversed:=PySem.W.mg_none_of X G z_reversed,
   b_set:=PySem.W.mg_none_of X G z_set,
   b_sorted:=PySem.W.mg_none_of X G z_sorted,
   b_str:=PySem.W.mg_none_of X G z_str,
   b_sum:=PySem.W.mg_none_of X G z_sum,
   c_LEAF_SIGNS:=⟨_,PySem.W.mg_of X G m_LEAF_SIGNS⟩,
   c_MOST_PLAIN:=⟨_,PySem.W.mg_of X G m_MOST_PLAIN⟩,
   c_MOST_SIGNS:=⟨_,PySem.W.mg_of X G m_MOST_SIGNS⟩,
   cf_Shelf:=⟨C0,rfl,kk0,λf hf=>by
   have hf2:f∈bG 0:=hf
   simp only [bG,List.mem_cons,List.not_mem_nil,or_false] at hf2
   rcases hf2 with rfl | rfl | rfl | rfl | rfl | rfl | rfl | rfl
   ·exact nf0_0
   ·exact nf0_1
   ·exact nf0_2
   ·exact nf0_3
   ·exact nf0_4
   ·exact nf0_5
   ·exact nf0_6
   ·exact nf0_7⟩,
   x_NoText:=gx KB X G rfl e_NoText x_NoText,
   x_NoPiece:=gx KB X G rfl e_NoPiece x_NoPiece,
   x_Loose:=gx KB X G rfl e_Loose x_Loose,
   x_Unlevel:=gx KB X G rfl e_Unlevel x_Unlevel,
   x_TooLong:=gx KB X G rfl e_TooLong x_TooLong,
   d_Shelf_init:=di rfl (PySem.W.mg_of X G aC0) mk0 kc0 a0 gX,
   d_law_take:=dg X G a1 c4,
   d_law_plain:=dg X G a2 c4,
   d_is_whole:=dg X G a3 gX,
   d_Shelf_has_piece:=dm rfl kk0 a4 c4,
   d_Shelf_check_piece:=dm rfl kk0 a5 c4,
   d_Shelf_check_fork:=dm rfl kk0 a6 fY,
   d_Shelf_lay:=dm rfl kk0 a7 c4,
   d_Shelf_lay_fork:=dm rfl kk0 a8 c4,
   d_Shelf_fork:=dm rfl kk0 a9 fY,
   d_halved:=dg X G a10 c4,
   d_is_plain_sign:=dg X G a11 gX,
   d_is_plain:=dg X G a12 gX,
   d_is_short:=dg X G a13 gX,
   d_ends_in:=dg X G a14 gX,
   d_Shelf_lay_leaf:=dm rfl kk0 a15 c4,
   d_Shelf_leaf:=dm rfl kk0 a16 c4,
   d_built:=dg X G a17 c4,
   d_check_length:=dg X G a18 gX,
   d_Shelf_check_text:=dm rfl kk0 a19 c4,
   d_Shelf_signs:=dm rfl kk0 a20 c4,
   d_Shelf_last_leaf:=dm rfl kk0 a21 c4,
   d_Shelf_first_leaf:=dm rfl kk0 a22 c4,
   d_are_close:=dg X G a23 fY,
   d_Shelf_piece:=dm rfl kk0 a24 c4,
   d_with_last:=dg X G a25 fY,
   d_Shelf_height:=dm rfl kk0 a26 c4,
   d_turned_left:=dg X G a27 fY,
   d_without_first:=dg X G a28 c4,
   d_turned_right:=dg X G a29 fY,
   d_linked:=dg X G a30 fY,
   d_welded:=dg X G a31 fY,
   d_joined:=dg X G a32 fY,
   d_law_made:=dg X G a33 fY,
   d_law_mixed:=dg X G a34 c4,
   d_law_stream:=dg X G a35 c4,
   d_Shelf_many:=dm rfl kk0 a36 gX,
   d_parts_of:=dg X G a37 c4,
   d_reach_of:=dg X G a38 c4,
   d_swept:=dg X G a39 c4,
   d_shared:=dg X G a40 fY,
   d_law_word:=dg X G a41 fY,
   d_law:=dg X G a42 gX,
   kx_NoPiece:=⟨X2,PySem.W.mg_of X G e_NoPiece,(λc C' h=>match c,C',h with
    | 0,_,rfl=>⟨y0,kt_NoPiece_0⟩
    | 1,_,rfl=>⟨y1,kt_NoPiece_1⟩
    | 2,_,rfl=>⟨y2,kt_NoPiece_2⟩
    | 3,_,rfl=>⟨y3,kt_NoPiece_3⟩
    | 4,_,rfl=>⟨y4,kt_NoPiece_4⟩
    | 5,_,rfl=>⟨y5,kt_NoPiece_5⟩
    | 6,_,rfl=>⟨y6,kt_NoPiece_6⟩
    | _+7,_,h=>nomatch h)⟩,
   kx_NoPlace:=⟨X6,PySem.W.mg_of X G e_NoPlace,(λc C' h=>match c,C',h with
    | 0,_,rfl=>⟨y0,kt_NoPlace_0⟩
    | 1,_,rfl=>⟨y1,kt_NoPlace_1⟩
    | 2,_,rfl=>⟨y2,kt_NoPlace_2⟩
    | 3,_,rfl=>⟨y3,kt_NoPlace_3⟩
    | 4,_,rfl=>⟨y4,kt_NoPlace_4⟩
    | 5,_,rfl=>⟨y5,kt_NoPlace_5⟩
    | 6,_,rfl=>⟨y6,kt_NoPlace_6⟩
    | _+7,_,h=>nomatch h)⟩,
   kx_NoText:=⟨X1,PySem.W.mg_of X G e_NoText,(λc C' h=>match c,C',h with
    | 0,_,rfl=>⟨y0,kt_NoText_0⟩
    | 1,_,rfl=>⟨y1,kt_NoText_1⟩
    | 2,_,rfl=>⟨y2,kt_NoText_2⟩
    | 3,_,rfl=>⟨y3,kt_NoText_3⟩
    | 4,_,rfl=>⟨y4,kt_NoText_4⟩
    | 5,_,rfl=>⟨y5,kt_NoText_5⟩
    | 6,_,rfl=>⟨y6,kt_NoText_6⟩
    | _+7,_,h=>nomatch h)⟩,
   kx_TooLong:=⟨X5,PySem.W.mg_of X G e_TooLong,(λc C' h=>match c,C',h with
    | 0,_,rfl=>⟨y0,kt_TooLong_0⟩
    | 1,_,rfl=>⟨y1,kt_TooLong_1⟩
    | 2,_,rfl=>⟨y2,kt_TooLong_2⟩
    | 3,_,rfl=>⟨y3,kt_TooLong_3⟩
    | 4,_,rfl=>⟨y4,kt_TooLong_4⟩
    | 5,_,rfl=>⟨y5,kt_TooLong_5⟩
    | 6,_,rfl=>⟨y6,kt_TooLong_6⟩
    | _+7,_,h=>nomatch h)⟩,
   kx_ValueError:=(λc C' h=>match c,C',h with
    | 0,_,rfl=>⟨y0,kt_ValueError_0⟩
    | 1,_,rfl=>⟨y1,kt_ValueError_1⟩
    | 2,_,rfl=>⟨y2,kt_ValueError_2⟩
    | 3,_,rfl=>⟨y3,kt_ValueError_3⟩
    | 4,_,rfl=>⟨y4,kt_ValueError_4⟩
    | 5,_,rfl=>⟨y5,kt_ValueError_5⟩
    | 6,_,rfl=>⟨y6,kt_ValueError_6⟩
    | _+7,_,h=>nomatch h),
   ct_SkeinError:=⟨X0,PySem.W.mg_of X G e_SkeinError,(λc C' z h=>match c,C',z,h with
    | 0,_,_,rfl=>em_SkeinError_0
    | 1,_,_,rfl=>em_SkeinError_1
    | 2,_,_,rfl=>em_SkeinError_2
    | 3,_,_,rfl=>em_SkeinError_3
    | 4,_,_,rfl=>em_SkeinError_4
    | 5,_,_,rfl=>em_SkeinError_5
    | 6,_,_,rfl=>em_SkeinError_6
    | _+7,_,_,h=>nomatch h)⟩ }
 obtain ⟨fd,h1,F⟩:=rq (p := "script") X G hfa a42 gX
 exact ⟨fd,h1,λbase KB _=>FnOk.imp (IG (Z base KB) F) (D6 (T:=bf K (λn=>[C0][n]?) (λn=>[X0,X1,X2,X3,X4,X5,X6][n]?)) law_true)⟩
theorem walk {l:PySem.W.OpenLaw} {q:Program} {loose:List Str} {XP:(Str->Option Value)->Heap->Prop} {YP:World->Heap->Prop} {d:DefRec} {K:Params->PySem.W.Frag} (hn:l.most=some 63) (hdf:d.params.defaults=[])
  (hY:∀ (w:World) (h:Heap),YP w h->(K w.params).In h)
  (F:∀ (w:World) (mg:Str->Option Value) (fa:Addr) (h:Heap),(K w.params).In h->h.Ns mainGlobals mg->mg d.name=some (.ref fa)->FX l w (K w.params) mg fa) :
  PySem.W.WalkO q loose XP YP l.row.toRowW d [] (λf vs=>PySem.call f vs) :=
 L2.walk_of (n:=63) (k:=101) (x := "script") (CX:=λw=>cf l.prog w) (sp:=λw=>rh (K w.params)) hn (by decide) hdf ⟨rfl,by decide,by decide⟩ hY F (λ_ _ a ns hl _ hS=>⟨a,ns,rfl,hS,hl,λ_=>rfl⟩) λ_ _ _ _ _ z=>D7 z
end Sk
open PySem PySem.W PyProof.Rows
section
structure PySem.W.Fast:Prop where(tw6449289885544207700 tw7427033322945868718 tw14395572236032426911 tw17727168768844538783 tw2817243282717222751 tw13798377993990656639 tw18270389638915954271 tw2380470396553478719 tw3145140530112220703 tw17614107665495850527 tw2608736106745890271 tw6097864276909592510 tw10003828988139330462 tw15012110349265498942 tw2884984925303857950 tw16820643675513283326 tw6521214070010293854 tw15901932035677758046 tw9822340833622217246 tw5338104909407423998 tw14335205203348235550 tw11692012828976450750 tw17999855421151013982 tw11951561966750278686 tw15931657944358633437 tw12030345966560489373 tw12609085041219114813 tw8052451840378985277 tw14914898402338328349 tw7155409384024925917 tw1552372607392805533 tw15170284618481231517 tw3002305983007197821 tw10026843204709577309 tw16780454976928152125 tw6642811095174467101 tw11216085844957763037 tw1826573457282552253 tw3487125452879607197 tw3040639279961982301 tw1091801588298904861 tw3512499224454734045 tw1184382207915944125 tw10101676201668251837 tw15012555683963090077 tw10738229167285927005 tw11359665556858104925 tw4627682059738229724 tw13265833064168437692 tw7397390651920114332 tw15057926317856925276 tw18397670426880062044 tw670160988502722044 tw4760973137329401340 tw10870890908368224572 tw5036922501316512028 tw2582364594041347356 tw2954138010220221692 tw9268154508138697948 tw3031973350015325276 tw4825532658114666556 tw4895373536991383612 tw7929895709007389724 tw11281165074949880699 tw11803465611517999995 tw11314794363911714683 tw7132342317980201819 tw13484112947399041723 tw2060740139153650331 tw2146319170705854043 tw13969183032261720603 tw1274630278866635131 tw14962111908643252571 tw9571846222439386395 tw9573882206882059387 tw1995174583319987323 tw15580676127506264155 tw388218457987978202 tw16683583948724802490 tw14688978046300025754 tw18277953727594927994 tw6781396550552008218 tw3722014487615006138 tw17795803301122797914 tw11927419397319211290 tw17722874628402290938 tw8745982529881398458 tw9497661233382300826 tw17434838294052944986 tw16935392719320157242 tw8828260839145216026 tw3397507657183543129 tw8052740587044117305 tw17022243781473310489 tw4637006593053880889 tw13619558736570172985 tw5268082470061053369 tw6800355139078235545 tw6815685325660182937 tw1091752445047936409 tw15969948960028170489 tw10830832436083008537 tw1260566872794993656 tw7011863637052037080 tw4360375243762674584 tw164260688068445816 tw3161350149635916312 tw12325786238730523128 tw13793791872122352056 tw9539313638063189400 tw3084143661256417624 tw15421316117024850232 tw8687109299390229784 tw6809736530853352696 tw2099263801223519480 tw2449291030168628440 tw14317541612390791288 tw7657823965496448056 tw7427223319919153111 tw8260640173378061271 tw1238120399406794711 tw17875323138739486647 tw5435301535344108439 tw2772488975257192215 tw764469825806139159 tw17773950887200164567 tw17463230044227095223 tw11081447649473041015 tw6388867292122951287 tw8032719454191770167 tw2787674686616603159 tw16126036513548453335 tw13235791875858851287 tw12891359408417545623 tw7950961021492130135 tw12273243943963403607 tw6992712260509409623 tw600158673536660695 tw3305954479855009975 tw12153647863353777271 tw10458612544324023351 tw11434841201898260406 tw7301473239239522166 tw2371880875188081494 tw13921113489540346678 tw13039156032266512118 tw14231820101718931190 tw13403859554623068886 tw14731345594419545814 tw12303424006253731446 tw14158140505135401558 tw12727776229380959830 tw5401667768931397014 tw13016826710476941654 tw2657753607675698454 tw6276215579694862582 tw547654655107894486 tw915096676261840982 tw11177920155246093334 tw15820926094464635861 tw13662839831777818549 tw15498641230750371669 tw11436772174117202677 tw7627540487061379829 tw15790675759188676245 tw6165740101673900661 tw12219453099323049429 tw971961358524243381 tw193581470897084853 tw16564672032236985589 tw6860367134492140757 tw3644093062304537717 tw5352003045487390773 tw4065765342870585236 tw1179233864278671188 tw751368757373287252 tw3772673585917893396 tw13823253006865585812 tw5967588914221343284 tw4777145127260343828 tw15356773307179903508 tw2090323508297742708 tw2439128324326193492 tw10079681663342293108 tw12367088825549595732 tw6935908616771108884 tw11958129228946019348 tw4179910475847421907 tw17581744618079509395 tw1681472665924567859 tw15953923180956558099 tw1118561087913266931 tw12313276903933714035 tw2408327144173402675 tw12703182474342766067 tw16169211739394938323 tw227851501813578131 tw9229109380493903219 tw1066726842447892787 tw13657955917849105683 tw6414231073702554899 tw14961541727292058899 tw2428156400809978035 tw10802330029621429363 tw6578388884766854227 tw16698512795071105043 tw2849220649806613490 tw8490826828677075762 tw9438682585700203314 tw10692939919513208562 tw4240819981383635666 tw16078386314407766610 tw15345896475340286514 tw6623364300674565650 tw5209268215040281010 tw7775285807971237234 tw7070931632441902450 tw14768162724839906642 tw18034668310472745170 tw3913225625019324626 tw7873535920127104178 tw15368298906481002674 tw6077925206789350546 tw7254198110449066002 tw14050604200714180561 tw17959985542329737105 tw14246727704642978609 tw13696446046364493553 tw14742705563166627345 tw16574836028334840241 tw13075259535155746129 tw13687699009591689553 tw786953872450402609 tw6128600138936566993 tw4377476945552689297 tw3223732527269553136 tw11670464262842661840 tw4195773942783900592 tw8291281140568221520 tw8278530319125124528 tw4978409095060729232 tw9398441493553465616 tw3575184632504399120 tw8354107798874137712 tw4220394083915771952 tw17362984879680905007 tw9791429071134799471 tw4991679917078394447 tw3069345628521413135 tw4059659351227026863 tw13932552547826735503 tw6305794535988740463 tw12650439226796547311 tw7801441468900452495 tw2484364448871607407 tw8392273251916742735 tw650065254600043502 tw8448738437223805838 tw13102344729819386766 tw8320645105651921774 tw11193944131069183854 tw13212334330737622862 tw16133211823263590798 tw2620341980240530766 tw3071569533577691438 tw17459688326156563726 tw16614276195552714958 tw8443496001087170574 tw3457631841180184557 tw1617010932072354765 tw15994220062757783405 tw18180184587958365037 tw4072242189081899853 tw10242980202527733549 tw16544721616418182925 tw5685738384505968301 tw10240464379124007565 tw10172203341917877869 tw10045373590721066605 tw10339284256037755405 tw16825003044830876013 tw11520837366938141869 tw8187657775568924813 tw6748013652011627597 tw43324364967584748 tw9547247900923690892 tw11974761605486372716 tw7334930033322693452 tw17017168244669272716 tw5368997232891051628 tw4238253382421681388 tw6082450877697874092 tw18194868329700072588 tw17621390071711858667 tw703831681900057579 tw14605808981150340075 tw9179342573644031883 tw1788824596304954187 tw10466353354130534219 tw17922689101949092395 tw7762824478356441579 tw10282995388276455883 tw17872716811319597515 tw10504705721782174123 tw10932671255609896363 tw11793379520096908651 tw2257308917899571531 tw8474492116217388235 tw13832371169246778571 tw9062781352415164555 tw9384925102562455691 tw10330128385320619147 tw11441816934845968491 tw14822192625696695403 tw17780636386694936683 tw13320709690577385483 tw9887793091229637610 tw3582851276275432394 tw16151050684808574826 tw10522609662477106026 tw8207905605190043434 tw4898004872723444458 tw7452213986230369002 tw8414681358159139530 tw5327693256328001162 tw12580696928729792874 tw599367045607639402 tw17797013738867642634 tw13016662123832803594 tw14740803319847267562 tw4965378181481314410 tw12550815127467371626 tw9946799621681357898 tw13309185810352076810 tw3596046167885928361 tw11761140304738830217 tw2159038177443971945 tw2105310216623157001 tw14201824724891189001 tw1713410798903298793 tw6155822191181979305 tw6874812303295089225 tw7637479281504675337 tw11980841344138235369 tw387205090126377449 tw8536794583651412361 tw2102193273618944297 tw10505959587461551305 tw10382221047478649961 tw485994080193445929 tw12697347681485587497 tw17345521029901460456 tw12952432078577129416 tw16911955805303300936 tw8850807779985346344 tw1407688672224321224 tw14275091220060463784 tw6459456360025296552 tw13417523696351289832 tw8796964606900052456 tw11256618879676526024 tw7894391464119999912 tw8358318452311776648 tw2087618815865146696 tw11236277248600038568 tw10623935842818934952 tw10579971168732622984 tw15052963554281780167 tw2981207890757459719 tw17137002589446752903 tw9912154631396605479 tw7959390191962951879 tw6595300024658331847 tw7470619205415563367 tw13012990291531759687 tw2605451459875732454 tw12112407006601518822 tw2504943785273589414 tw11541922450453454438 tw13409433833436754534 tw17291342263844504166 tw1926655047274027366 tw15402315718113548614 tw15223046920282717318 tw3560547150723327078 tw9303948802008329286 tw4284521888119277638 tw10688979488459431974 tw3980565977671753734 tw16702472594371855366 tw10902321243169198086 tw11852885316213997541 tw2715840626693918437 tw11963384094297730629 tw16168362739438186021 tw13986408994541484421 tw16569885481583952165 tw3308887659302879493 tw10130372985511358597 tw8011541450928492613 tw9909495901972448293 tw18130466211428463524 tw18413732299073808164 tw4074477236246948548 tw7385091057005989572 tw16981446125275922916 tw16894877874708512196 tw166647426762240420 tw9005827269991781668 tw15379325062311384356 tw5759685832023770308 tw1926775783623741476 tw15235058071911844900 tw10684131147827309475 tw875050338635481987 tw8941039423643895619 tw1292117697726163747 tw17012447768268746499 tw6308183355877809923 tw6984451204791615203 tw3390767671535647299 tw15651041826395704899 tw16502800424074872355 tw8798174883900028387 tw4434306885251135907 tw1227621820334501251 tw11035853479138343171 tw15140243496304135363 tw13330873337303959651 tw3261519781504297890 tw13916859796006156130 tw1169991357991481122 tw11097953478871351074 tw16831048918093574914 tw2321403311885055586 tw12747171614176715298 tw17838250531428773218 tw5641380399978373474 tw10216038515386708258 tw9852832384772075778 tw10114860276365245602 tw18325966962082365570 tw15117467615879048290 tw6991939556085638178 tw9790099244456829954 tw14587287738436737026 tw3039385308188390273 tw15413736849239710561 tw2067142573364792129 tw13585490854268242721 tw7755475355637309153 tw12407070030095259233 tw469408023769868897 tw2796250790232166977 tw7114020681556361729 tw7663729771806470529 tw6334001056363498529 tw10363186960663007200 tw14963860747050120992 tw8586260140729712416 tw8239902683074866976 tw15065140455857408640 tw1435909635057016256 tw10468807280349206880 tw17019777897458128224 tw6241528974838774016 tw7806018454191240384 tw9860583780658614464 tw1854883655190263808:True)
end
set_option maxRecDepth 100000 in
set_option maxHeartbeats 0 in
theorem PySem.Challenge.cw_skeinwood_k76_sweeping_refused_holds : PySem.Challenge.rw_skeinwood_k76_sweeping_refused.Holds := by
 w_on; o_law; k_head; (case hw => w_witness2)
 k_fill
 refine Sk.walk (l := PySem.Challenge.rw_skeinwood_k76_sweeping_refused) rfl rfl (fun w h Y => PySem.W.kIn_of Y) ?F
 case F =>
  intro w mg fa h KX G hmg
  refine' Sk.all_mk KX G hmg ?aC0 ?a0 ?a4 ?a5 ?a6 ?a7 ?a8 ?a9 ?a15 ?a16 ?a19 ?a20 ?a21 ?a22 ?a24 ?a26 ?a36 ?a1 ?a2 ?a3 ?a10 ?a11 ?a12 ?a13 ?a14 ?a17 ?a18 ?a23 ?a25 ?a27 ?a28 ?a29 ?a30 ?a31 ?a32 ?a33 ?a34 ?a35 ?a37 ?a38 ?a39 ?a40 ?a41 ?a42 ?kk0 ?mk0 ?kc0 ?nf0_0 ?nf0_1 ?nf0_2 ?nf0_3 ?nf0_4 ?nf0_5 ?nf0_6 ?nf0_7 ?z_ValueError ?z_abs ?z_all ?z_bool ?z_int ?z_isinstance ?z_len ?z_list ?z_max ?z_min ?z_range ?z_reversed ?z_set ?z_sorted ?z_str ?z_sum ?e_SkeinError ?e_NoText ?x_NoText ?e_NoPiece ?x_NoPiece ?e_Loose ?x_Loose ?e_Unlevel ?x_Unlevel ?e_TooLong ?x_TooLong ?e_NoPlace ?m_LEAF_SIGNS ?m_MOST_PLAIN ?m_MOST_SIGNS ?y0 ?y1 ?y2 ?y3 ?y4 ?y5 ?y6 ?kt_NoPiece_0 ?kt_NoPiece_1 ?kt_NoPiece_2 ?kt_NoPiece_3 ?kt_NoPiece_4 ?kt_NoPiece_5 ?kt_NoPiece_6 ?kt_NoPlace_0 ?kt_NoPlace_1 ?kt_NoPlace_2 ?kt_NoPlace_3 ?kt_NoPlace_4 ?kt_NoPlace_5 ?kt_NoPlace_6 ?kt_NoText_0 ?kt_NoText_1 ?kt_NoText_2 ?kt_NoText_3 ?kt_NoText_4 ?kt_NoText_5 ?kt_NoText_6 ?kt_TooLong_0 ?kt_TooLong_1 ?kt_TooLong_2 ?kt_TooLong_3 ?kt_TooLong_4 ?kt_TooLong_5 ?kt_TooLong_6 ?kt_ValueError_0 ?kt_ValueError_1 ?kt_ValueError_2 ?kt_ValueError_3 ?kt_ValueError_4 ?kt_ValueError_5 ?kt_ValueError_6 ?em_SkeinError_0 ?em_SkeinError_1 ?em_SkeinError_2 ?em_SkeinError_3 ?em_SkeinError_4 ?em_SkeinError_5 ?em_SkeinError_6
  (case aC0 => apply Sm.na;k_is)
  (case a0 => apply Sm.dn<;>k_is)
  (case a4 => apply Sm.dn<;>k_is)
  (case a5 => apply Sm.dn<;>k_is)
  (case a6 => apply Sm.dn<;>k_is)
  (case a7 => apply Sm.dn<;>k_is)
  (case a8 => apply Sm.dn<;>k_is)
  (case a9 => apply Sm.dn<;>k_is)
  (case a15 => apply Sm.dn<;>k_is)
  (case a16 => apply Sm.dn<;>k_is)
  (case a19 => apply Sm.dn<;>k_is)
  (case a20 => apply Sm.dn<;>k_is)
  (case a21 => apply Sm.dn<;>k_is)
  (case a22 => apply Sm.dn<;>k_is)
  (case a24 => apply Sm.dn<;>k_is)
  (case a26 => apply Sm.dn<;>k_is)
  (case a36 => apply Sm.dn<;>k_is)
  (case a1 => apply Sm.dk<;>k_is)
  (case a2 => apply Sm.dk<;>k_is)
  (case a3 => apply Sm.dk<;>k_is)
  (case a10 => apply Sm.dk<;>k_is)
  (case a11 => apply Sm.dk<;>k_is)
  (case a12 => apply Sm.dk<;>k_is)
  (case a13 => apply Sm.dk<;>k_is)
  (case a14 => apply Sm.dk<;>k_is)
  (case a17 => apply Sm.dk<;>k_is)
  (case a18 => apply Sm.dk<;>k_is)
  (case a23 => apply Sm.dk<;>k_is)
  (case a25 => apply Sm.dk<;>k_is)
  (case a27 => apply Sm.dk<;>k_is)
  (case a28 => apply Sm.dk<;>k_is)
  (case a29 => apply Sm.dk<;>k_is)
  (case a30 => apply Sm.dk<;>k_is)
  (case a31 => apply Sm.dk<;>k_is)
  (case a32 => apply Sm.dk<;>k_is)
  (case a33 => apply Sm.dk<;>k_is)
  (case a34 => apply Sm.dk<;>k_is)
  (case a35 => apply Sm.dk<;>k_is)
  (case a37 => apply Sm.dk<;>k_is)
  (case a38 => apply Sm.dk<;>k_is)
  (case a39 => apply Sm.dk<;>k_is)
  (case a40 => apply Sm.dk<;>k_is)
  (case a41 => apply Sm.dk<;>k_is)
  (case a42 => apply Sm.dk<;>k_is)
  (case kk0 => constructor<;>k_is)
  (case mk0 => k_is)
  (case kc0 => k_is)
  (case nf0_0 => apply Sm.fatt;k_is)
  (case nf0_1 => apply Sm.fatt;k_is)
  (case nf0_2 => apply Sm.fatt;k_is)
  (case nf0_3 => apply Sm.fatt;k_is)
  (case nf0_4 => apply Sm.fatt;k_is)
  (case nf0_5 => apply Sm.fatt;k_is)
  (case nf0_6 => apply Sm.fatt;k_is)
  (case nf0_7 => apply Sm.fatt;k_is)
  (case z_ValueError => apply Sm.na;k_is)
  (case z_abs => apply Sm.na;k_is)
  (case z_all => apply Sm.na;k_is)
  (case z_bool => apply Sm.na;k_is)
  (case z_int => apply Sm.na;k_is)
  (case z_isinstance => apply Sm.na;k_is)
  (case z_len => apply Sm.na;k_is)
  (case z_list => apply Sm.na;k_is)
  (case z_max => apply Sm.na;k_is)
  (case z_min => apply Sm.na;k_is)
  (case z_range => apply Sm.na;k_is)
  (case z_reversed => apply Sm.na;k_is)
  (case z_set => apply Sm.na;k_is)
  (case z_sorted => apply Sm.na;k_is)
  (case z_str => apply Sm.na;k_is)
  (case z_sum => apply Sm.na;k_is)
  (case e_SkeinError => apply Sm.na;k_is)
  (case e_NoText => apply Sm.na;k_is)
  (case x_NoText => apply Sm.xi;k_exc)
  (case e_NoPiece => apply Sm.na;k_is)
  (case x_NoPiece => apply Sm.xi;k_exc)
  (case e_Loose => apply Sm.na;k_is)
  (case x_Loose => apply Sm.xi;k_exc)
  (case e_Unlevel => apply Sm.na;k_is)
  (case x_Unlevel => apply Sm.xi;k_exc)
  (case e_TooLong => apply Sm.na;k_is)
  (case x_TooLong => apply Sm.xi;k_exc)
  (case e_NoPlace => apply Sm.na;k_is)
  (case m_LEAF_SIGNS => apply Sm.na;k_is)
  (case m_MOST_PLAIN => apply Sm.na;k_is)
  (case m_MOST_SIGNS => apply Sm.na;k_is)
  (case y0 => apply Sm.excK_of<;>k_is)
  (case y1 => apply Sm.excK_of<;>k_is)
  (case y2 => apply Sm.excK_of<;>k_is)
  (case y3 => apply Sm.excK_of<;>k_is)
  (case y4 => apply Sm.excK_of<;>k_is)
  (case y5 => apply Sm.excK_of<;>k_is)
  (case y6 => apply Sm.excK_of<;>k_is)
  (case kt_NoPiece_0 => apply Sm.ko;kit_is)
  (case kt_NoPiece_1 => apply Sm.ko;kit_is)
  (case kt_NoPiece_2 => apply Sm.ko;kit_is)
  (case kt_NoPiece_3 => apply Sm.ko;kit_is)
  (case kt_NoPiece_4 => apply Sm.ko;kit_is)
  (case kt_NoPiece_5 => apply Sm.ko;kit_is)
  (case kt_NoPiece_6 => apply Sm.ko;kit_is)
  (case kt_NoPlace_0 => apply Sm.ko;kit_is)
  (case kt_NoPlace_1 => apply Sm.ko;kit_is)
  (case kt_NoPlace_2 => apply Sm.ko;kit_is)
  (case kt_NoPlace_3 => apply Sm.ko;kit_is)
  (case kt_NoPlace_4 => apply Sm.ko;kit_is)
  (case kt_NoPlace_5 => apply Sm.ko;kit_is)
  (case kt_NoPlace_6 => apply Sm.ko;kit_is)
  (case kt_NoText_0 => apply Sm.ko;kit_is)
  (case kt_NoText_1 => apply Sm.ko;kit_is)
  (case kt_NoText_2 => apply Sm.ko;kit_is)
  (case kt_NoText_3 => apply Sm.ko;kit_is)
  (case kt_NoText_4 => apply Sm.ko;kit_is)
  (case kt_NoText_5 => apply Sm.ko;kit_is)
  (case kt_NoText_6 => apply Sm.ko;kit_is)
  (case kt_TooLong_0 => apply Sm.ko;kit_is)
  (case kt_TooLong_1 => apply Sm.ko;kit_is)
  (case kt_TooLong_2 => apply Sm.ko;kit_is)
  (case kt_TooLong_3 => apply Sm.ko;kit_is)
  (case kt_TooLong_4 => apply Sm.ko;kit_is)
  (case kt_TooLong_5 => apply Sm.ko;kit_is)
  (case kt_TooLong_6 => apply Sm.ko;kit_is)
  (case kt_ValueError_0 => kit_is)
  (case kt_ValueError_1 => kit_is)
  (case kt_ValueError_2 => kit_is)
  (case kt_ValueError_3 => kit_is)
  (case kt_ValueError_4 => kit_is)
  (case kt_ValueError_5 => kit_is)
  (case kt_ValueError_6 => kit_is)
  (case em_SkeinError_0 => apply Sm.xo;kts_exm)
  (case em_SkeinError_1 => apply Sm.xo;kts_exm)
  (case em_SkeinError_2 => apply Sm.xo;kts_exm)
  (case em_SkeinError_3 => apply Sm.xo;kts_exm)
  (case em_SkeinError_4 => apply Sm.xo;kts_exm)
  (case em_SkeinError_5 => apply Sm.xo;kts_exm)
  (case em_SkeinError_6 => apply Sm.xo;kts_exm)
